import PyProof.Rows.All
import Wide.FinOn
import Lean
import KE.KDictOf
import KE.KFromBytes
import KE.KIsAll
import KE.KItem
import KE.KItemsList
import KE.KRevIter
import PySem.Challenge.RW_sumwires_k85_whole_cuts_shown
section
variable {α β γ δ ε ζ η θ ι : Sort _}{G:Prop}
theorem exx2{P:α→β→Prop}(h:∃a b,P a b)(k:∀a b,P a b→G):G:=h.elim fun a h=>Exists.elim h (k a)
theorem eyy2{P:α→β→Prop}(a:α)(b:β)(h:P a b):∃a b,P a b:=⟨a,b,h⟩
theorem exx3{P:α→β→γ→Prop}(h:∃a b c,P a b c)(k:∀a b c,P a b c→G):G:=h.elim fun a h=>exx2 h (k a)
theorem eyy3{P:α→β→γ→Prop}(a:α)(b:β)(c:γ)(h:P a b c):∃a b c,P a b c:=⟨a,b,c,h⟩
theorem exx4{P:α→β→γ→δ→Prop}(h:∃a b c d,P a b c d)(k:∀a b c d,P a b c d→G):G:=h.elim fun a h=>exx3 h (k a)
theorem eyy4{P:α→β→γ→δ→Prop}(a:α)(b:β)(c:γ)(d:δ)(h:P a b c d):∃a b c d,P a b c d:=⟨a,b,c,d,h⟩
theorem exx5{P:α→β→γ→δ→ε→Prop}(h:∃a b c d e,P a b c d e)(k:∀a b c d e,P a b c d e→G):G:=h.elim fun a h=>exx4 h (k a)
theorem eyy5{P:α→β→γ→δ→ε→Prop}(a:α)(b:β)(c:γ)(d:δ)(e:ε)(h:P a b c d e):∃a b c d e,P a b c d e:=⟨a,b,c,d,e,h⟩
theorem exx6{P:α→β→γ→δ→ε→ζ→Prop}(h:∃a b c d e f,P a b c d e f)(k:∀a b c d e f,P a b c d e f→G):G:=h.elim fun a h=>exx5 h (k a)
theorem eyy6{P:α→β→γ→δ→ε→ζ→Prop}(a:α)(b:β)(c:γ)(d:δ)(e:ε)(f:ζ)(h:P a b c d e f):∃a b c d e f,P a b c d e f:=⟨a,b,c,d,e,f,h⟩
theorem exx7{P:α→β→γ→δ→ε→ζ→η→Prop}(h:∃a b c d e f g,P a b c d e f g)(k:∀a b c d e f g,P a b c d e f g→G):G:=h.elim fun a h=>exx6 h (k a)
theorem eyy7{P:α→β→γ→δ→ε→ζ→η→Prop}(a:α)(b:β)(c:γ)(d:δ)(e:ε)(f:ζ)(g:η)(h:P a b c d e f g):∃a b c d e f g,P a b c d e f g:=⟨a,b,c,d,e,f,g,h⟩
theorem exx8{P:α→β→γ→δ→ε→ζ→η→θ→Prop}(h:∃a b c d e f g i,P a b c d e f g i)(k:∀a b c d e f g i,P a b c d e f g i→G):G:=h.elim fun a h=>exx7 h (k a)
theorem eyy8{P:α→β→γ→δ→ε→ζ→η→θ→Prop}(a:α)(b:β)(c:γ)(d:δ)(e:ε)(f:ζ)(g:η)(i:θ)(h:P a b c d e f g i):∃a b c d e f g i,P a b c d e f g i:=⟨a,b,c,d,e,f,g,i,h⟩
theorem exx9{P:α→β→γ→δ→ε→ζ→η→θ→ι→Prop}(h:∃a b c d e f g i j,P a b c d e f g i j)(k:∀a b c d e f g i j,P a b c d e f g i j→G):G:=h.elim fun a h=>exx8 h (k a)
theorem eyy9{P:α→β→γ→δ→ε→ζ→η→θ→ι→Prop}(a:α)(b:β)(c:γ)(d:δ)(e:ε)(f:ζ)(g:η)(i:θ)(j:ι)(h:P a b c d e f g i j):∃a b c d e f g i j,P a b c d e f g i j:=⟨a,b,c,d,e,f,g,i,j,h⟩
end
section
variable {G A B C D E F H I J K L M:Prop}
theorem axx3(h:A∧B∧C)(k:A→B→C→G):G:=k h.1 h.2.1 h.2.2
theorem ayy3(a:A)(b:B)(c:C):A∧B∧C:=⟨a,b,c⟩
theorem axx4(h:A∧B∧C∧D)(k:A→B→C→D→G):G:=axx3 h.2 (k h.1)
theorem ayy4(a:A)(b:B)(c:C)(d:D):A∧B∧C∧D:=⟨a,b,c,d⟩
theorem axx5(h:A∧B∧C∧D∧E)(k:A→B→C→D→E→G):G:=axx4 h.2 (k h.1)
theorem ayy5(a:A)(b:B)(c:C)(d:D)(e:E):A∧B∧C∧D∧E:=⟨a,b,c,d,e⟩
theorem axx6(h:A∧B∧C∧D∧E∧F)(k:A→B→C→D→E→F→G):G:=axx5 h.2 (k h.1)
theorem ayy6(a:A)(b:B)(c:C)(d:D)(e:E)(f:F):A∧B∧C∧D∧E∧F:=⟨a,b,c,d,e,f⟩
theorem axx7(h:A∧B∧C∧D∧E∧F∧H)(k:A→B→C→D→E→F→H→G):G:=axx6 h.2 (k h.1)
theorem ayy7(a:A)(b:B)(c:C)(d:D)(e:E)(f:F)(g:H):A∧B∧C∧D∧E∧F∧H:=⟨a,b,c,d,e,f,g⟩
theorem axx8(h:A∧B∧C∧D∧E∧F∧H∧I)(k:A→B→C→D→E→F→H→I→G):G:=axx7 h.2 (k h.1)
theorem ayy8(a:A)(b:B)(c:C)(d:D)(e:E)(f:F)(g:H)(i:I):A∧B∧C∧D∧E∧F∧H∧I:=⟨a,b,c,d,e,f,g,i⟩
theorem axx9(h:A∧B∧C∧D∧E∧F∧H∧I∧J)(k:A→B→C→D→E→F→H→I→J→G):G:=axx8 h.2 (k h.1)
theorem ayy9(a:A)(b:B)(c:C)(d:D)(e:E)(f:F)(g:H)(i:I)(j:J):A∧B∧C∧D∧E∧F∧H∧I∧J:=⟨a,b,c,d,e,f,g,i,j⟩
theorem axx10(h:A∧B∧C∧D∧E∧F∧H∧I∧J∧K)(k:A→B→C→D→E→F→H→I→J→K→G):G:=axx9 h.2 (k h.1)
theorem ayy10(a:A)(b:B)(c:C)(d:D)(e:E)(f:F)(g:H)(i:I)(j:J)(l:K):A∧B∧C∧D∧E∧F∧H∧I∧J∧K:=⟨a,b,c,d,e,f,g,i,j,l⟩
theorem axx11(h:A∧B∧C∧D∧E∧F∧H∧I∧J∧K∧L)(k:A→B→C→D→E→F→H→I→J→K→L→G):G:=axx10 h.2 (k h.1)
theorem ayy11(a:A)(b:B)(c:C)(d:D)(e:E)(f:F)(g:H)(i:I)(j:J)(l:K)(m:L):A∧B∧C∧D∧E∧F∧H∧I∧J∧K∧L:=⟨a,b,c,d,e,f,g,i,j,l,m⟩
theorem axx12(h:A∧B∧C∧D∧E∧F∧H∧I∧J∧K∧L∧M)(k:A→B→C→D→E→F→H→I→J→K→L→M→G):G:=axx11 h.2 (k h.1)
theorem ayy12(a:A)(b:B)(c:C)(d:D)(e:E)(f:F)(g:H)(i:I)(j:J)(l:K)(m:L)(n:M):A∧B∧C∧D∧E∧F∧H∧I∧J∧K∧L∧M:=⟨a,b,c,d,e,f,g,i,j,l,m,n⟩
end
open Lean in
local macro_rules
  | `(tactic| obtain ⟨$ps,*⟩ := $t:term) => do
    let ps := ps.getElems
    let n := ps.size
    if n < 3 then Macro.throwUnsupported
    -- what a pattern is bound to, and what is done behind
    let one (i : Nat) (p : TSyntax `Lean.Parser.Tactic.rcasesPatLo) : MacroM (TSyntax `term × Option (TSyntax `tactic)) := do
      let z := mkIdent (Name.mkSimple s!"zz{i}")
      match p with
      | `(Lean.Parser.Tactic.rcasesPatLo| $x:ident) => if x.getId == `rfl then return (z, some (← `(tactic| subst $z:term))) else return (x, none)
      | `(Lean.Parser.Tactic.rcasesPatLo| _) => return (← `(_), none)
      | `(Lean.Parser.Tactic.rcasesPatLo| $q:rcasesPatMed) => return (z, some (← `(tactic| obtain $q:rcasesPatMed := $z:term)))
      | _ => Macro.throwUnsupported
    let mut alts : Array (TSyntax ``Lean.Parser.Tactic.tacticSeq) := #[]
    let clr : TSyntax `tactic ← if t.raw.isIdent then `(tactic| try clear $(⟨t.raw⟩):ident) else `(tactic| skip)
    let w := mkIdent `ww
    for ex in [true, false] do
      for k in [0:n] do
        let i := if ex then n - 1 - k else n - k
        if i < 1 || i > (if ex then 9 else 12) || (!ex && i < 3) then continue
        let f := mkIdent (if ex then if i == 1 then `Exists.elim else Name.mkSimple s!"exx{i}" else Name.mkSimple s!"axx{i}")
        let m := if ex then i else if i == n then i else i - 1
        let mut bs : Array (TSyntax `term) := #[]
        let mut post : Array (TSyntax `tactic) := #[]
        for j in [0:m] do
          let (b, q) ← one j ps[j]!
          bs := bs.push b
          if let some q := q then post := post.push q
        if m < n then
          if m + 1 == n then
            let (b, q) ← one m ps[m]!
            bs := bs.push b
            if let some q := q then post := post.push q
          else
            bs := bs.push w
            let rest := ps.extract m n
            post := post.push (← `(tactic| obtain ⟨$rest,*⟩ := $w:term))
        alts := alts.push (← `(Lean.Parser.Tactic.tacticSeq| refine $f $t ?_; $clr:tactic; intro $bs*; $post;*))
    alts := alts.push (← `(Lean.Parser.Tactic.tacticSeq| rcases $t:term with ⟨$ps,*⟩))
    `(tactic| first $[| $alts]*)
open Lean in
local macro_rules
  | `(tactic| rintro $rs:rintroPat*) => do
    let mut out : Array (TSyntax `tactic) := #[]
    let mut any := false
    for r in rs do
      match r with
      | `(rintroPat| $x:ident) => if x.getId == `rfl then out := out.push (← `(tactic| (intro zz; subst zz))) else out := out.push (← `(tactic| intro $x:ident))
      | `(rintroPat| _) => out := out.push (← `(tactic| intro _))
      | `(rintroPat| ⟨$ps,*⟩) =>
        if ps.getElems.size ≥ 3 then any := true
        out := out.push (← `(tactic| (intro zz; obtain ⟨$ps,*⟩ := zz)))
      | _ => Macro.throwUnsupported
    if !any then Macro.throwUnsupported
    `(tactic| ($[$out:tactic];*))
open Lean in
local macro_rules
  | `(tactic| refine ⟨$xs,*⟩) => do
    let xs := xs.getElems
    let n := xs.size
    if n < 4 then Macro.throwUnsupported
    let mut alts : Array (TSyntax ``Lean.Parser.Tactic.tacticSeq) := #[]
    for k in [0:n] do
      let i := n - 1 - k
      if i > 9 then continue
      let ws := xs.extract 0 i
      let rs := xs.extract i n
      let m := n - i
      let cs : List (TSyntax `term) ← if m == 1 then pure [rs[0]!] else if m == 2 || m > 12 then pure [← `(⟨$rs,*⟩)] else pure [← `($(mkIdent (Name.mkSimple s!"ayy{m}")) $rs*), ← `(⟨$rs,*⟩)]
      for c in cs do
        if i == 0 then
          if m > 2 then alts := alts.push (← `(Lean.Parser.Tactic.tacticSeq| refine ($c)))
        else if i == 1 then alts := alts.push (← `(Lean.Parser.Tactic.tacticSeq| refine Exists.intro $(ws[0]!) $c))
        else alts := alts.push (← `(Lean.Parser.Tactic.tacticSeq| refine $(mkIdent (Name.mkSimple s!"eyy{i}")) $ws* $c))
    alts := alts.push (← `(Lean.Parser.Tactic.tacticSeq| refine (⟨$xs,*⟩)))
    `(tactic| first $[| $alts]*)
  | `(tactic| exact ⟨$xs,*⟩) => do
    let xs := xs.getElems
    if xs.size < 4 then Macro.throwUnsupported
    `(tactic| (refine ⟨$xs,*⟩))
open Option renaming some→ag,none→fy,map_eq_some_iff→XF,isSome_map→Zv,getD_none→af5
open PySem.W renaming Frag→ak,findIn→wh,mg_of→zx,mroIn→VX,keepIn→W3,fnOf→Wg,mg_none_of→Wm,callWith_K→Wq,emptyDict→Wv,instObj→WM,methodCall_KW→X6,specialIn→Xa,hasDictIn→Xb,codeIn→Xg,looks_findIn→Xh,excIn→XU,Looks→XX,looks_mroIn→Y9,lookIn→Yh,InstAt→Yi,plainGet→Yv,handedIn→Yw,isClsIn→YC,typeIn→YM,plainGet_of→YT,looks_clsIn→YU,tail_of_in→Z0,isFn→Zd,methodObj→Zf,takesIn→ZH,takerIn→ZI,tailIn→ZT,clsIn→aa2,cellsFrom_some→ab9,looks_typeIn→ad8,findObj_own→ae6,method_cls→af6,check_slot→af7,set_plain→ag4,plainOver→ag5,cls_value→ag6,kdl_dict→ah8,readsIn→ai5,makesIn→ai6,findCls→ai7,OpenLaw→aj1,nsIn→ak8
open List renaming length_map→a',getElem?_eq_some_iff→b',getElem?_eq_getElem→eF,getD_eq_getElem?_getD→eY,map_append→fI,mem_of_getElem?→f',mem_singleton→gn,length_append→gs,mem_append→gF,mem_append_left→hQ,mem_map→ik,mem_append_right→i',getElem?_map→kf,range→lj,Nodup→ox,take_length→pT,replicate→p',length_take→sv,mem_cons_self→wq,size_toArray→x3,mem_cons→xY,length→y1,map_map→y2,mem_cons_of_mem→z4,getElem?_append_left→P',length_range→S',getElem?_append_right→V0,length_cons→V1,mem_range→V2,length_singleton→V8,nodup_append→VS,append_assoc→VW,length_replicate→V',map_cons→W5,getElem?_range→W6,all_eq_true→Wc,mem_iff_getElem?→We,foldl_append→Wk,getElem_mem→Wn,mem_iff_getElem→Wp,append_nil→Wr,filter_append→Wu,map_congr_left→Wx,mem_filter→WB,length_filter_le→WJ,take_of_length_le→WT,replicate_succ→X1,take_append_drop→X2,getElem?_eq_none→X3,range_succ→X7,lookup→Xl,length_nil→Xp,any_eq_true→Xq,perm_append_comm→Xv,getElem?_take_of_lt→Xy,replicate_succ'→XD,not_mem_nil→XH,length_drop→XI,filter_cons→XJ,length_pos_iff→XY,map→Y5,nodup_cons→Y6,find?_cons→Y7,take_append_of_le_length→Ya,getElem?_drop→Yb,lookup_cons→Ye,reverse_cons→Yp,pairwise_map→Yq,flatten_cons→Yr,map_take→YG,getElem?_set_self→YI,take_succ→YX,getElem?_set_ne→YZ,any_cons→Z1,all_cons→Z3,nodup_range→Z6,getElem_map→Z7,filterMap_cons→Za,of_mem_zip→Zt,mem_range'→Zu,forIn_cons→Zw,take_add_one→Zx,getElem_take→Zy,getElem?_inj→Zz,ext_getElem?→ZA,flatten_replicate_singleton→ZC,range'→ZR,pairwise_iff_getElem→ac3,length_erase_of_mem→ad3,getElem?_replicate→ad9,filter_append_perm→ae0,zipWith→ae3,length_pos_of_mem→ae7,getElem_replicate→ae8,filter_eq_nil_iff→ae9,getElem?_toArray→af8,map_nil→ag2,reverse_reverse→ah0,length_reverse→ai0,foldl→ai3,count→ai4,mem_filterMap→ai8,map_singleton→ai9,map_replicate→aj0,filter_congr→aj6,take_append→ak4,ext_getElem→ak5,foldl_cons→al3,filter_map→al4,take_left→am3,drop_zero→am4,map_drop→an4,all_map→ao2
open PySem renaming Addr→dt,wpAny_bind→ec,FuncData→hE,wpAny_pure→hH,Shared→hJ,Value→ic,sizeLine→ix,wpAny→kn,starEach→ll,boot_len→lJ,sizeLine_eq→lT,Str→mu,Program→oT,model→px,World→w7,Around→z5,Expr→L',Heap→N',mainGlobals→Q',wpAny_mono→VZ,mem_of_lookup→W1,Value→W7,wpAny_field→Wi,wpAny_newObj_type→WC,wpAny_Call_Name_kw→WN,wpAny_truthy_bool→WX,wpAny_pyIter_enum→WY,wpAny_holding→W',Scope→X5,wpAny_passesOwn→Xk,wpAny_standAt→Xm,Stmt→Xs,wpAny_pyIter_tuple→XR,codeAny_mono→X',wpAny_setField→Y0,wpAny_pyIter_list→Y1,wpAny_loadPart_at→Y2,wpAny_call→Yf,call_meets→Yg,Spec→Ym,wpAny_loadPart'→Yt,tupleKind_room_in1→YB,wpAny_call_entry→YR,wpAny_callSpecial?_slot→YS,wpAny_execs_nil→Z5,codeAny_builtin→Z8,builtinLookup_eq_fast→Ze,wpAny_seqItems→Zl,codeAny_call_builtin→Zm,excClassObj→Zn,Str→ZE,typeIs_str→ZQ,wpAny_typeOf→aa0,Addr→aa1,plainObj_wpAny_Assign_Attribute→ab3,wpAny_execs_cons→ab7,wpAny_of_eq→ac5,wpAny_specialOf→ad4,typeLookup_type→ad5,Within→ad6,Shared→ad7,wpAny_loadPart→af4,plainId_quiet→ah1,call→ah5,wpAny_comprehension_free→ah7,wpAny_isTrue_Compare1→ak1,codeAny_handlers_test→ak2,wpAny_throw→ak7,wpAny_isSubtype_exc→al7,wpAny_handleBy_cons→al8,call_enumerate_list→al9,wpAny_Name→am7,typeIs_int→am8,wpAny_handleBy_nil→an0,passOn→an2,wpAny_assign_Name→an7
open _root_ renaming List→ee,decide_eq_false→gz,absurd→hB,decide_eq_true→hG,if_neg→n',Option→pa,if_pos→qq,congrArg→ri,beq_eq_false_iff_ne→z0,String→U',Bool→V6,decide_eq_true_eq→V9,beq_self_eq_true→W4,of_decide_eq_true→WD,beq_iff_eq→XN,if_true→YF,if_false→Zk,ne_true_of_eq_false→ZG,decide_eq_true_iff→ZS,or_false→Z',Array→ai2
open PySem.Heap renaming get?_push_of_some→eH,lt_size→hF,get?_push_size→kv,get?_update_other→X4,get?_update_self→Xf,get?_none_of_le→Xn,size_push→XM,SameBut→YH,get?_update_ne→Zb,MadeExcOf→ab2,get?_push_at→aj7
open Nat renaming lt_of_lt_of_le→hA,pow_le_pow_right→hL,eq_of_testBit_eq→oe,le_refl→ov,two_pow_pos→qb,testBit_lt_two_pow→ry,testBit_two_pow→v',ne_of_lt→z3,testBit_xor→KI,shiftRight_eq_div_pow→V3,mod_two_eq_zero_or_one→V5,pow_lt_pow_right→V7,zero_le→VY,xor_zero→Wa,xor_assoc→Wb,lt_of_le_of_lt→Wl,testBit_shiftRight→Ws,testBit_shiftLeft→WA,lt_succ_self→WH,le_trans→WK,lt_irrefl→WO,zero_add→WQ,testBit_and→WS,testBit_two_pow_self→WV,zero_testBit→X8,lt_log2_self→X9,zero_xor→Xe,xor_self→Xo,lt_pow_two_of_testBit→Xx,ne_of_gt→Xz,le_of_lt→XA,lt_trichotomy→XB,pow_succ→XT,and_two_pow_sub_one_eq_mod→Y3,zero_and→Yd,testBit_div_two→Yk,xor_comm→Yu,div_add_mod→YA,exists_eq_add_of_le→YE,le_succ→YO,and_zero→Z2,log2_lt→Zc,zero_shiftRight→Zg,zero_shiftLeft→Zp,and_comm→ZF,lt_succ_of_lt→ZJ,lt_trans→ZL,testBit_zero→ZU,le_of_not_lt→ZV,and_le_right→ZW,not_lt_zero→aa3,min_eq_left→aa4,and_le_left→aa5,mul_le_mul→ab8,sub_self→ac6,mul_comm→ac7,add_zero→ac8,pow_add→ag1,le_of_ble_eq_true→ag8,div_lt_iff_lt_mul→ag9,div_lt_of_lt_mul→ah9,xor_lt_two_pow→aj3,eq_zero_or_pos→aj4,add_sub_cancel→aj5,shiftLeft_eq→ak9,lt_of_not_le→al0,log2_self_le→al1,div_eq_of_lt→al2,strongRecOn→am2
open Bool renaming false_ne_true→iv,and_eq_true→R',and_false→Wj,eq_iff_iff→Wz,false_eq_true→Ys,not_eq_true'→Yx,false_and→YY,not_eq_true→ZM,or_true→ae5,or_eq_true→al5,xor_false→am6,true_and→an5
open PySem.PassesOwn renaming never→la
open PyProof.Rows renaming boot_list→oD,boot_isinstance→qa,boot_tuple→u',callWith_type1→Tn,boot_str→WZ,boot_dict→Xw,int_text_len_1921→XC,slot_tuple_getitem→YV,callWith_builtin1→Y',boot_bool→ZN,boot_int→ZX,boot_any→ZY,boot_all→ZZ,Call_→ai1,subscriptTail_builtinR→aj2,Subscript_→am9
open Int renaming toNat_natCast→pY,emod_lt_of_pos→tu,emod_nonneg→x7,eq_ofNat_of_zero_le→W8,zero_add→XO,toNat→Z4,natCast_nonneg→Zq,natAbs_natCast→Zr,fdiv_eq_ediv_of_nonneg→ac4,one_mul→ah6
open PySem.Value renaming ref→sb,none→Wy,type→Yl,str→YW,builtin→Z9,int→ac9,bool→ah3,isStrOf→am0,isInt→an9,float→ao0,bytes→ao1
open PySem.F renaming plainAttrs_list→vr,type_list_append→K',slot_list_append→LI,excBase_ValueError→M',type_int_bit_length→VT,slot_int_bit_length→VU,plainAttrs_int→Wh,type_list_extend→Xt,slot_list_extend→Xu,type_str_split→ac0,slot_str_split→ac1,plainAttrs_str→ac2
open Option.some renaming inj→vu
open PySem.Builtin.Int renaming intBits→xo
open False renaming elim→y'
open Sum renaming inr→zt,inl→W9
open PySem.Builtin renaming bitXor→V4,bitNot→WE,bitAnd→WG,bitOr→ak6
open PySem.NameKind renaming free→W2,cell→XQ
open Ne renaming symm→Wf
open Classical renaming propDecidable→Wt,epsilon_spec→aa8,epsilon→af1
open PySem.Builtin.List renaming listExtendWith→Ww,listTooLong→Xj,listSameRef→ZD,listItems→ZO
open Array renaming getElem?_eq_some_iff→WI,length_toList→WW,getElem?_eq_getElem→ab5,getElem?_eq_none→ae2,getElem?_toList→af2,toList→an6
open PySem.Obj renaming mapFields→WU,data_mapFields→Zo,mapSeq→ab6,isFreed_of_fields→ag7,cls_mapFields→ak3
open PySem.Builtin.SmallTypes renaming nextOf→X0
open PySem.Builtin.Slice renaming slicePlaces→Xc,sliceAdjust→Y4,sliceApplied→Zi
open PySem.WalksT renaming enumerateD→Xd,zip2→an1
open PySem.Builtin.Tuple renaming tupleExact→Xi
open ForInStep renaming yield→Xr
open List.Perm renaming append_left→XG,trans→Yy
open Or renaming inr→XS,inl→Yj
open True renaming intro→XZ
open Nat.succ renaming inj→Y8
open List.Pairwise renaming imp_of_mem→Yc,map→YN
open PySem.Builtin.Str renaming occurrences→Yn,strKind→ab4
open PySem.Str renaming empty→Yo,ofString→YL
open PySem.Builtin.BaseException renaming bexcPut→Yz
open PySem.Txt renaming split→YD
open PySem.EntryCells renaming newEntry→YJ
open Sum.inr renaming inj→YK
open PySem.Around renaming under_plainId→YQ,under→ad0
open PySem.Calls renaming spliced_cons→Zh,spliced_nil→Zs,Name_function_global→aa9,callWith_builtin→ae1,evalArgs_plain→ag0
open PySem.Code renaming quiet_builtin→Zj,isFrame→ae4
open PySem.Builtin.Dict renaming updateFrom→ZK
open PySem.W.Looks renaming here→aa6
open PySem.Heap.SameBut renaming update→aa7
open Prod renaming ext→ab0,fst→al6
open PySem.Paired renaming length→ab1,snoc→an3
open PySem.SeqAt.EqAt renaming str_int→ad1,int_str→ad2,same→ak0,of_refs→ao3
open PySem.Heap.DictOf renaming new→af0
open PySem.Heap.Ns1 renaming of_empty→af9
open PySem.StrLaws renaming found_one→ag3
open PySem.Walks renaming list→ah2
open PySem.SeqAt renaming EqAt→ah4
open Iff renaming rfl→aj9
open Sum.inl renaming inj→am1
open PySem.IsRange renaming new→am5
open PySem.W.WShape renaming has→an8
abbrev A':=ee (Nat×Nat)
abbrev B1:=ee ZE
abbrev B':=ee Nat
abbrev C':=W7->ad7->Prop
abbrev CB:=ee (aa1×PySem.Obj)
abbrev CD:=ee W7
abbrev CM:=ZE->pa W7
abbrev CN:=ai2 W7
abbrev Cr:=ai2 (pa W7)
abbrev D':=Unit->ad7->Prop
abbrev Dk:=ee aa1
abbrev E':=ee Int
abbrev F':=pa aa1
abbrev G':=ZE->V6
abbrev HB:=PySem.Result->ad7->Prop
abbrev J1:=ee (ZE×aa1)
abbrev J2:=ee (ZE×W7)
abbrev J5:=pa W7
open List (map_id)
set_option Elab.async false
set_option hygiene false in
local macro_rules
|`(@A)=>`((by omega))
|`(@E)=>`((by walk_at "o"))
|`(@C)=>`((by decide))
|`(@G)=>`((by walk_at "b"))
|`(@F)=>`((by simp))
|`(@D)=>`((by rfl))
|`(@I)=>`((by decide +kernel))
|`(@H)=>`((az (K:=K) rfl))
set_option hygiene false in
local macro_rules
|`(!j $a $b)=>`((aa (pv $a) $b))
|`(!A $a $b $c)=>`((aQ $a $b $c (λ_ _=>rfl)))
local macro_rules | `(tactic| lia) => `(tactic| walk_at "l2")
set_option linter.all false
set_option maxRecDepth 100000
namespace L2
open PySem PySem.Spec PyProof.Rows
noncomputable abbrev Key:=Sum Int mu
noncomputable def BI:Key->ic->V6
 | .inl k,v=>an9 k v
 | .inr x,v=>am0 x v
noncomputable def keyH (w:w7):Key->Int
 | .inl k=>hashInt k
 | .inr x=>hashStr w x
theorem dH:∀{k:Key} {v:ic},BI k v=true->(∃i t,k=W9 i/\v=ac9 i t)∨(∃x t,k=zt x/\v=YW x t)
 | .inl i,v,h=>by
   obtain⟨t,e⟩:=Value.isInt_shape (k:=i) (v:=v) h;exact .inl ⟨i,t,rfl,e⟩
 | .inr x,v,h=>by
   obtain⟨t,e⟩:=Value.isStrOf_shape (x:=x) (v:=v) h;exact .inr ⟨x,t,rfl,e⟩
theorem La (i:Int) (t:Tok):BI (.inl i) (.int i t)=true:=by simp[BI,an9]
theorem K9 (x:mu) (t:Tok):BI (.inr x) (.str x t)=true:=by simp[BI,am0]
theorem Uk (a b:Int):decide ((W9 a:Key)=W9 b)=(a == b):=by
 by_cases e:a=b
 ·subst e;simp
 ·have h:¬(W9 a:Key)=W9 b:=λq=>e (am1 q);rw[gz h];exact(z0.mpr e).symm
theorem Uh (a b:mu):decide ((zt a:Key)=zt b)=decide (a=b):=by
 by_cases e:a=b
 ·subst e;simp
 ·have h:¬(zt a:Key)=zt b:=λq=>e (YK q);rw[gz h,gz e]
theorem Uj (a:Int) (b:mu):decide ((W9 a:Key)=zt b)=false:=gz (λq=>nomatch q)
theorem Ui (a:mu) (b:Int):decide ((zt a:Key)=W9 b)=false:=gz (λq=>nomatch q)
noncomputable def dG (prog:oT) (w:w7):PySem.KeyKind prog w Key where
 is:=BI
 hash:=keyH w
 inj:=λv a b ha hb=>by
  rcases dH ha with ⟨i,t,rfl,rfl⟩ | ⟨x,t,rfl,rfl⟩
  ·rcases dH hb with ⟨j,u,rfl,e⟩ | ⟨y,u,rfl,e⟩
   ·injection e with L _;rw[L]
   ·exact nomatch e
  ·rcases dH hb with ⟨j,u,rfl,e⟩ | ⟨y,u,rfl,e⟩
   ·exact nomatch e
   ·injection e with L _;rw[L]
 byValue:=λk v h=>by
  rcases dH h with ⟨i,t,rfl,rfl⟩ | ⟨x,t,rfl,rfl⟩<;>rfl
 pyHash:=λO h=>by
  rcases dH O with ⟨i,t,rfl,rfl⟩ | ⟨x,t,rfl,rfl⟩
  ·exact wpAny_pyHash_int h
  ·exact wpAny_pyHash_str h
 eqBool:=λY O h=>by
  rcases dH Y with ⟨i,t,rfl,rfl⟩ | ⟨x,t,rfl,rfl⟩
  ·rcases dH O with ⟨j,u,rfl,rfl⟩ | ⟨y,u,rfl,rfl⟩
   ·rw[Uk] at h;exact wpAny_eqBool_int h
   ·rw[Uj] at h;exact ad2 i t y u _ _ _ _ h
  ·rcases dH O with ⟨j,u,rfl,rfl⟩ | ⟨y,u,rfl,rfl⟩
   ·rw[Ui] at h;exact ad1 x t j u _ _ _ _ h
   ·rw[Uh] at h;exact wpAny_eqBool_str h
 «strs»:=λk x t v h=>by
  rcases dH h with ⟨i,u,rfl,e⟩ | ⟨y,u,rfl,e⟩
  ·exact nomatch e
  ·injection e with L _
   subst L
   cases v<;>rfl
theorem DT (prog:oT) (w:w7) (i:Int) (t:Tok):(dG prog w).is (.inl i) (.int i t)=true:=La i t
theorem DS (prog:oT) (w:w7) (x:mu) (t:Tok):(dG prog w).is (.inr x) (.str x t)=true:=K9 x t
inductive V where
 | non | bl (b:V6) | int (i:Int) | str (x:mu) | byt (b:ai2 UInt8) | flt (b:UInt64) | ref (a:dt) | ty (n:U')
 deriving DecidableEq
noncomputable def RelV:V->ic->Prop
 | .non,u=>u=Wy
 | .bl b,u=>u=ah3 b
 | .int i,u=>∃t,u=ac9 i t
 | .str x,u=>∃t,u=YW x t
 | .byt b,u=>∃t,u=ao1 b t
 | .flt b,u=>∃t,u=ao0 b t
 | .ref a,u=>u=sb a
 | .ty n,u=>u=Yl n
noncomputable abbrev Vals:ee V->CD->Prop:=Paired RelV
theorem Vals.length {xs:ee V} {us:CD} (r:Vals xs us):xs.length=us.length:=ab1 r
theorem Vals.get:∀{xs:ee V} {us:CD} {i:Nat} {x:V},Vals xs us->xs[i]? =ag x->∃u,us[i]? =ag u/\RelV x u
 | _,_,_,_,.nil,e=>by simp at e
 | _,_,0,_,.cons r _,e=>by simp at e;subst e;exact⟨_,rfl,r⟩
 | _,_,i + 1,x,.cons _ t,e=>by
   obtain⟨u,h1,h2⟩:=Vals.get (i:=i) (x:=x) t (by simpa using e);exact⟨u,by simpa using h1,h2⟩
theorem Vals.append:∀{xs ys:ee V} {us ws:CD},Vals xs us->Vals ys ws->Vals (xs++ys) (us++ws)
 | _,_,_,_,.nil,s=>s
 | _,_,_,_,.cons r t,s=> .cons r (Vals.append t s)
theorem Vals.take:∀{xs:ee V} {us:CD} (n:Nat),Vals xs us->Vals (xs.take n) (us.take n)
 | _,_,0,_=> .nil
 | _,_,_ + 1,.nil=> .nil
 | _,_,n + 1,.cons r t=> .cons r (Vals.take n t)
theorem Vals.drop:∀{xs:ee V} {us:CD} (n:Nat),Vals xs us->Vals (xs.drop n) (us.drop n)
 | _,_,0,r=>r
 | _,_,_ + 1,.nil=> .nil
 | _,_,n + 1,.cons _ t=>Vals.drop n t
noncomputable def RelO:pa V->J5->Prop
 | some v,ag u=>RelV v u
 | none,fy=>True
 | _,_=>False
noncomputable def KV {κ:Type}:ee (κ×V)->ee (κ×ic)->Prop:=Paired λ(p:κ×V) (q:κ×ic)=>p.1=q.1/\RelV p.2 q.2
noncomputable def kV:Key->V
 | .inl i=> .int i
 | .inr x=> .str x
inductive HO where
 | lst (xs:ee V)
 | tup (xs:ee V)
 | dK (kvs:ee (Key×V)) | dT (kvs:ee (ee Key×V))
 | set (S:Int->V6) (n:Nat)
 | ins (C dx:dt) (fs:ee (mu×V))
 | own (x:dt)
 | xd (fs:ee (mu×V))
 | met (f x:dt)
 | rng (lo hi:Int)
 | frz (o:Obj) (u:HO)
 | tbl (ps:CN)
 | ext (φ:N'->Prop)
noncomputable abbrev Hp:=dt->pa HO
noncomputable def upd (H:Hp) (a:dt) (o:HO):Hp:=λb=>if b=a then ag o else H b
theorem aD {H:Hp} {a:dt} {o:HO}:upd H a o a=ag o:=by unfold upd;rw[qq rfl]
theorem aE {H:Hp} {a b:dt} {o:HO} (h:b≠a):upd H a o b=H b:=by unfold upd;rw[n' h]
theorem cn {H:Hp} {a b:dt} {o u:HO} (h:H a=ag o) (h':H b=ag u) (d:o≠u):a≠b:=by
 intro e;subst e;rw[h] at h';exact d (vu h')
theorem aq {H:Hp} {a b:dt} {o:HO} (h:H a=ag o) (h':H b=fy):a≠b:=by
 intro e;subst e;rw[h] at h';cases h'
section
variable (P:oT) (w:w7)
noncomputable def gj (H:Hp) (h:N') (a:dt):HO->Prop
 | .lst xs=>xs.length<=ix/\∃(its:CD) (n:Nat),Vals xs its/\h.get? a=ag {cls:= .type "list",data:= .seq its.toArray n}
 | .tup xs=>xs.length<=ix/\∃its:CD,Vals xs its/\IsTup h a its.toArray
 | .dK kvs=>kvs.length<=ix/\(a == sysModules)=false/\∃vs,KV kvs vs/\h.DictOf (dG P w) a vs
 | .dT kvs=>kvs.length<=ix/\(a == sysModules)=false/\∃xs:ee (ee Key×dt×ic),
   Paired (λ(p:ee Key×V) (q:ee Key×dt×ic)=>p.1=q.1/\H q.2.1=ag (.tup (p.1.map kV))/\RelV p.2 q.2.2) kvs xs/\
   ∃o es ep,h.get? a=ag o/\o.ExactDict/\o.data= .dict es ep/\es.toList=xs.map (entryOfKey (tupleKind (dG P w)))/\(xs.map (·.1)).Nodup
 | .set S n=>h.SetOf (intKind P w) a S n
 | .ins C dx fs=>H dx=ag (.own a)/\fs.length<=1000/\dx≠a/\h.get? a=ag (WM C dx)/\
   ∃mA,h.Ns1 dx mA/\(∀f,RelO (fs.lookup f) (mA f))/\ad6 mA (fs.map (·.1))
 | .own _=>∃o,h.get? a=ag o
 | .xd fs=>∃mA,h.Ns1 a mA/\∀f,RelO (fs.lookup f) (mA f)
 | .rng lo hi=>∃t u v,h.get? a=ag {cls:= .type "range",data:= .fields #[.int lo t,.int hi u,.int 1 v]}
 | .frz o u=>h.get? a=ag o/\gj H h a u
 | .tbl ps=>h.get? a=ag {cls:= .none,data:= .fields ps}
 | .met f x=>h.get? a=ag (Zf (.ref f) (.ref x))
 | .ext φ=>φ h/\(∃o,h.get? a=ag o)/\∀h1 h2:N',φ h1->(∀o,h1.get? a=ag o->h2.get? a=ag o)->φ h2
def HOk (H:Hp) (h:N'):Prop:=∀a o,H a=ag o->gj P w H h a o
end
section
variable {P:oT} {w:w7} {H H':Hp} {h h':N'} {a:dt} {o:HO}
theorem gj.lt (x:gj P w H h a o):a < h.objs.size:=by
 cases o with
 | lst xs=>obtain⟨_,_,_,_,e⟩:=x;exact hF e
 | tup xs=>obtain⟨_,_,_,p⟩:=x;exact p.lt
 | dK kvs=>obtain⟨_,_,_,_,o,_,_,e,_⟩:=x;exact hF e
 | dT kvs=>obtain⟨_,_,_,_,o,_,_,e,_⟩:=x;exact hF e
 | set S n=>obtain⟨o,_,_,_,e,_⟩:=x;exact hF e
 | ins C dx fs=>obtain⟨_,_,_,e,_⟩:=x;exact hF e
 | own y=>obtain⟨_,e⟩:=x;exact hF e
 | xd fs=>obtain⟨_,⟨_,_,_,e,_⟩,_⟩:=x;exact hF e
 | rng lo hi=>obtain⟨_,_,_,e⟩:=x;exact hF e
 | frz ob u=>obtain⟨e,_⟩:=x;exact hF e
 | tbl ps=>exact hF (show h.get? a=ag _ from x)
 | met f y=>exact hF (show h.get? a=ag _ from x)
 | ext φ=>obtain⟨_,⟨_,e⟩,_⟩:=x;exact hF e
theorem Paired.mapP {α β:Type} {F G:α->β->Prop}:∀{l₁:ee α} {l₂:ee β},Paired F l₁ l₂->(∀a b,F a b->G a b)->Paired G l₁ l₂
 | _,_,.nil,_=> .nil
 | _,_,.cons r t,f=> .cons (f _ _ r) (Paired.mapP t f)
theorem gj.stay (x:gj P w H h a o) (k:∀b u,(b=a∨H b=ag (.own a))->h.get? b=ag u->h'.get? b=ag u)
  (ho:∀b,H b=ag (.own a)->H' b=ag (.own a)) (ht:∀b xs,H b=ag (.tup xs)->H' b=ag (.tup xs)):gj P w H' h' a o:=by
 induction o with
 | lst xs=>obtain⟨z,its,n,r,e⟩:=x;exact⟨z,its,n,r,k _ _ (.inl rfl) e⟩
 | tup xs=>obtain⟨z,its,r,ob,e,c⟩:=x;exact⟨z,its,r,ob,k _ _ (.inl rfl) e,c⟩
 | dK kvs=>obtain⟨z,y,vs,r,ob,es,ep,e,c⟩:=x;exact⟨z,y,vs,r,ob,es,ep,k _ _ (.inl rfl) e,c⟩
 | dT kvs=>
   obtain⟨z,y,xs,r,ob,es,ep,e,c⟩:=x;exact⟨z,y,xs,Paired.mapP r λp q z=>⟨z.1,ht _ _ z.2.1,z.2.2⟩,ob,es,ep,k _ _ (.inl rfl) e,c⟩
 | set S n=>obtain⟨ob,es,ep,t,e,c⟩:=x;exact⟨ob,es,ep,t,k _ _ (.inl rfl) e,c⟩
 | ins C dx fs=>
   obtain⟨d,z,ne,e,mA,⟨od,es,ep,L,c⟩,r⟩:=x;exact⟨ho _ d,z,ne,k _ _ (.inl rfl) e,mA,⟨od,es,ep,k _ _ (.inr d) L,c⟩,r⟩
 | own y=>obtain⟨ob,e⟩:=x;exact⟨ob,k _ _ (.inl rfl) e⟩
 | xd fs=>obtain⟨mA,⟨od,es,ep,e,c⟩,r⟩:=x;exact⟨mA,⟨od,es,ep,k _ _ (.inl rfl) e,c⟩,r⟩
 | rng lo hi=>obtain⟨t,u,v,e⟩:=x;exact⟨t,u,v,k _ _ (.inl rfl) e⟩
 | frz ob u ih=>obtain⟨e,q⟩:=x;exact⟨k _ _ (.inl rfl) e,ih q⟩
 | tbl ps=>
   have e:h.get? a=ag {cls:= .none,data:= .fields ps}:=x;show h'.get? a=ag {cls:= .none,data:= .fields ps};exact k a _ (.inl rfl) e
 | met f y=>
   have e:h.get? a=ag (Zf (.ref f) (.ref y)):=x;show h'.get? a=ag (Zf (.ref f) (.ref y));exact k a _ (.inl rfl) e
 | ext φ=>obtain⟨p,⟨o,e⟩,st⟩:=x;exact⟨st _ _ p λo q=>k _ _ (.inl rfl) q,⟨o,k _ _ (.inl rfl) e⟩,st⟩
theorem HOk.lt (x:HOk P w H h) (e:H a=ag o):a < h.objs.size:=(x a o e).lt
theorem HOk.fresh (x:HOk P w H h) (e:h.objs.size<=a):H a=none:=by
 cases q:H a with
 | none=>rfl
 | some u=>exact hB (hA (x.lt q) e) (WO _)
theorem HOk.kept (x:HOk P w H h) (k:∀b u,h.get? b=ag u->h'.get? b=ag u):HOk P w H h':=λa o e=>
 (x a o e).stay (λb u _ q=>k b u q) (λ_ q=>q) λ_ _ q=>q
theorem HOk.laid (x:HOk P w H h) (k:∀b u,h.get? b=ag u->h'.get? b=ag u) (hp:h.objs.size<=a) (L:gj P w (upd H a o) h' a o):HOk P w (upd H a o) h':=λb u e=>by
 have hn:=x.fresh hp;by_cases hb:b=a
 ·subst hb;rw[aD] at e;cases e;exact L
 ·rw[aE hb] at e;exact(x b u e).stay (λc v _ q=>k c v q) (λc q=>by rw[aE (aq q hn)];exact q) λc xs q=>by rw[aE (aq q hn)];exact q
end
def Rd (H:Hp) (a:dt) (u:HO):Prop:=H a=ag u∨∃o,H a=ag (.frz o u)
theorem Rd.ok {P:oT} {w:w7} {H:Hp} {h:N'} {a:dt} {u:HO} (r:Rd H a u) (x:HOk P w H h):gj P w H h a u:=by
 rcases r with r | ⟨o,r⟩
 ·exact x a u r
 ·obtain⟨_,q⟩:=x a _ r;exact q
noncomputable def Mut:pa HO->Prop
 | some (.lst _)=>True
 | some (.dK _)=>True
 | some (.dT _)=>True
 | some (.set _ _)=>True
 | some (.ins _ _ _)=>True
 | some (.ext _)=>True
 | _=>False
section
variable {P:oT} {w:w7} {H:Hp} {h h':N'} {x e:dt} {o':HO}
theorem HOk.write (ok:HOk P w H h) (Z:Mut (H x)) (he:e=x∨H e=ag (.own x)) (k:∀b u,b≠e->h.get? b=ag u->h'.get? b=ag u) (β:∃u,h'.get? e=ag u)
  (α:gj P w (upd H x o') h' x o'):HOk P w (upd H x o') h':=λb u q=>by
 have Y:∀c y,H c=ag (.own y)->c≠x:=λc y r z=>by subst z;rw[r] at Z;exact Z
 have O:∀c xs,H c=ag (.tup xs)->c≠x:=λc xs r z=>by subst z;rw[r] at Z;exact Z
 by_cases hb:b=x
 ·subst hb;rw[aD] at q;cases q;exact α
 ·rw[aE hb] at q;by_cases L:b=e
  ·have ν:H b=ag (.own x):=by
    rcases he with z | z
    ·exact hB (L.trans z) hb
    ·rw[L];exact z
   rw[q] at ν;cases ν;obtain⟨v,γ⟩:=β;exact⟨v,by rw[L];exact γ⟩
  ·refine(ok b u q).stay (λc v hc r=>k c v ?_ r) (λc r=>by rw[aE (Y c b r)];exact r) λc xs r=>by rw[aE (O c xs r)];exact r
   rcases hc with rfl | hc
   ·exact L
   ·rintro rfl;rcases he with z | z
    ·exact Y c b hc z
    ·rw[hc] at z;cases z;exact hb rfl
end
structure Un (fs ex:Dk) (H H':Hp) (h h':N'):Prop where
 keep:∀b o,h.get? b=ag o->H b=fy->b∉fs->b∉ex->h'.get? b=ag o
 slot:∀b o,h.get? b=ag o->H b=fy->b∈fs->b∉ex->∃sl,h'.get? b=ag {o with slots:=sl}
 free:∀b o,h.get? b=ag o->H b=fy->b∉ex->H' b=fy
 there:∀b o,h.get? b=ag o->b∉ex->∃o',h'.get? b=ag o'
 tups:∀b xs,H b=ag (.tup xs)->H' b=ag (.tup xs)
 frzs:∀b o u,H b=ag (.frz o u)->H' b=ag (.frz o u)
 tbls:∀b ps,H b=ag (.tbl ps)->∃more,H' b=ag (.tbl (ps++more))
section
variable {fs fs' ex ex':Dk} {H H1 H2:Hp} {h h1 h2 h':N'} {a x e:dt} {o:HO}
theorem Un.any (u:Un fs ex H H1 h h1) {b:dt} {ob:Obj} (q:h.get? b=ag ob) (n:H b=fy) (hx:b∉ex):∃L,h1.get? b=ag {ob with slots:=L}:=by
 by_cases hb:b∈fs
 ·exact u.slot b ob q n hb hx
 ·exact⟨ob.slots,u.keep b ob q n hb hx⟩
theorem Un.kept (k:∀b u,h.get? b=ag u->h'.get? b=ag u):Un fs ex H H h h':=
 ⟨λb ob q _ _ _=>k b ob q,λb ob q _ _ _=>⟨ob.slots,k b ob q⟩,λ_ _ _ n _=>n,λb ob q _=>⟨ob,k b ob q⟩,λ_ _ q=>q,λ_ _ _ q=>q,λ_ ps q=>⟨#[],by rw[q];simp⟩⟩
theorem Un.refl:Un fs ex H H h h:=Un.kept λ_ _ q=>q
theorem Un.laid (k:∀b u,h.get? b=ag u->h'.get? b=ag u) (hp:h.objs.size<=a) (hn:H a=fy):Un fs ex H (upd H a o) h h' where
 keep:=λb u q _ _ _=>k b u q
 slot:=λb u q _ _ _=>⟨u.slots,k b u q⟩
 free:=λb u q n _=>by rw[aE (z3 (hA (hF q) hp))];exact n
 there:=λb u q _=>⟨u,k b u q⟩
 tups:=λb xs q=>by rw[aE (aq q hn)];exact q
 frzs:=λb u xs q=>by rw[aE (aq q hn)];exact q
 tbls:=λb ps q=>⟨#[],by rw[aE (aq q hn),q];simp⟩
theorem Un.write (O:Mut (H x)) (he:e=x∨H e=ag (.own x)) (k:∀b u,b≠e->h.get? b=ag u->h'.get? b=ag u) (Y:∃u,h'.get? e=ag u):Un fs ex H (upd H x o) h h':=by
 have Z:∀b,H b=fy->b≠x:=λb n z=>by subst z;rw[n] at O;exact O
 have hb:∀b,H b=fy->b≠e:=λb n z=>by
  subst z;rcases he with r | r
  ·exact Z b n r
  ·rw[n] at r;cases r
 have hm:∀b u,H b=ag u->¬Mut (ag u)->b≠x:=λb u q nm z=>by subst z;rw[q] at O;exact nm O
 refine⟨λb u q n _ _=>k b u (hb b n) q,λb u q n _ _=>⟨u.slots,k b u (hb b n) q⟩,λb u q n _=>by rw[aE (Z b n)];exact n,λb u q _=>?_,
  λb xs q=>by rw[aE (hm b _ q λz=>z)];exact q,λb u xs q=>by rw[aE (hm b _ q λz=>z)];exact q,λb ps q=>⟨#[],by rw[aE (hm b _ q λz=>z),q];simp⟩⟩
 by_cases L:b=e
 ·subst L;exact Y
 ·exact⟨u,k b u L q⟩
end
noncomputable def trk (h:N') (H:Hp):Dk:=(lj h.objs.size).filter λa=>(H a).isSome
noncomputable def hidT (h:N') (H:Hp):Heap:=PySem.W.hideAll h (trk h H)
theorem Lm (h:N') (H:Hp):(hidT h H).objs.size=h.objs.size:=PySem.W.hideAll_size _ _
theorem Of {h:N'} {H:Hp} {b:dt} {o:Obj} (e:h.get? b=ag o) (n:H b=fy):(hidT h H).get? b=ag o:=
 PySem.W.hideAll_get _ e λhm=>by
  have q:(H b).isSome=true:=(WB.mp hm).2;rw[n] at q;simp at q
theorem Q2 {h:N'} {H:Hp} {b:dt} {o:Obj} (e:(hidT h H).get? b=ag o):h.get? b=ag o/\H b=none:=by
 have L:h.get? b=ag o:=PySem.W.of_hideAll (trk h H) e;refine⟨L,?_⟩;cases q:H b with
 | none=>rfl
 | some x=>
   have hm:b∈trk h H:=WB.mpr ⟨V2.mpr (hF L),by simp[q]⟩;have z:(hidT h H).get? b=none:=PySem.W.hideAll_none (trk h H) hm;rw[z] at e;cases e
noncomputable def RM (g h:N') (L:dt):CB:=(lj h.objs.size).filterMap λa=>if a=L∨(g.get? a).isSome=true then fy else (h.get? a).map λo=>(a,o)
noncomputable def rest (g h:N') (L d:dt):CB:=(RM g h L).filter λp=>decide (p.1≠d)
structure Mod (K:ak) (mg:CM) (base:N'):Prop where
 kin:K.In base
 glob:base.Ns Q' mg
 blt:∃mb,base.Ns builtinsNs mb/\∀x:mu,x≠"__name__"->mb x=bootBuiltins x
 nolimit:base.NoLimit
structure Cx where
 prog:oT
 w:w7
 K:ak
 mg:CM
 base:N'
 A:z5
 N:B1
 s₀:hJ
 H₀:Hp
 env:Env
 outer:ee Env
 stack:ee Env
 ex:Dk
 fn:G'
 calm:V6
 pn:CB
 xe:C'
noncomputable def frs (l:ee Env):Dk:=l.filterMap (·.frame)
noncomputable abbrev Cx.fs (X:Cx):Dk:=frs X.outer
def Vis (χ:X5) (x:mu):Prop:=χ.names.lookup x=ag .local∨χ.names.lookup x=ag .cell∨χ.names.lookup x=ag .free
def Loc (χ:X5) (x:mu):Prop:=χ.names.lookup x=ag .local∨χ.names.lookup x=ag .cell
def Look (env:Env) (h:N') (m:CM) (x:mu) (u:ic):Prop:=
 (env.kindOf x=ag .local/\m x=ag u)∨((env.kindOf x=ag .cell∨env.kindOf x=ag .free)/\∃c,env.cells.lookup x=ag c/\h.IsCell c (ag u))
structure Cx.Ok (X:Cx):Prop where
 mod:Mod X.K X.mg X.base
 kind:X.env.scope.kind= .function
 glob:X.env.globals=Q'
 blt:X.env.builtins=builtinsNs
 above:X.s₀.heap.objs.size<=X.env.locals
 inj:∀x y c,X.env.cells.lookup x=ag c->X.env.cells.lookup y=ag c->x=y
 has:∀x,(X.env.kindOf x=ag .cell∨X.env.kindOf x=ag .free)->∃c,X.env.cells.lookup x=ag c
 cab:∀x c,X.fn x=true->X.env.cells.lookup x=ag c->X.s₀.heap.objs.size<=c
 hd:X.calm=true->X.A.handled=fy
 frames:X.A.frames=ag X.stack
 stk:X.stack=X.outer∨(X.stack=X.env::X.outer/\X.env.frame=ag X.env.locals)
 exf:∀b∈X.ex,b≠X.env.locals/\∀x c,X.env.cells.lookup x=ag c->c≠b
 bs:∀b o,X.base.get? b=ag o->X.s₀.heap.get? b=ag o/\X.H₀ b=fy
 bsz:X.base.objs.size<=X.s₀.heap.objs.size
 noex:∀b o,X.base.get? b=ag o->b∉X.ex
 exfs:∀b∈X.ex,b∉X.fs
 funs:X.s₀.heap.FunFrames X.base X.outer
 frf:∀b∈X.fs,X.H₀ b=fy
structure Inv (X:Cx) (pins:CB) (σ:ee (pa V)) (H:Hp) (s:hJ):Prop where
 ok:X.Ok
 os:s.os=X.s₀.os
 bare:AllBare s.gens
 base:Un X.fs X.ex X.H₀ H X.s₀.heap s.heap
 loc:∃m,s.heap.Ns X.env.locals m/\∀(i:Nat) (x:mu) (v:V),X.N[i]? =ag x->σ[i]? =ag (ag v)->Vis X.env.scope x->∃u,RelV v u/\Look X.env s.heap m x u
 cell:∀x c,X.env.cells.lookup x=ag c->∃v,s.heap.IsCell c v
 free:H X.env.locals=fy
 freeC:∀x c,X.env.cells.lookup x=ag c->H c=fy
 pin:∀p∈X.pn++pins,s.heap.get? p.1=ag p.2/\H p.1=fy/\p.1≠X.env.locals/\p.1∉X.fs/\∀v,p.2.data≠.cell v
 hok:HOk X.prog X.w H s.heap
 len:σ.length=X.N.length
section
variable {X:Cx} {pins:CB} {σ:ee (pa V)} {H H':Hp} {s:hJ} {h':N'}
theorem Cx.Ok.nofr (ok:X.Ok) {b:dt} {o:Obj} (e:X.base.get? b=ag o):b∉X.fs:=λhb=>by
 have:=(ok.funs.mem hb).1;rw[e] at this;cases this
theorem Inv.bs (I:Inv X pins σ H s):∀b o,X.base.get? b=ag o->s.heap.get? b=ag o/\H b=none:=λb o e=>
 ⟨I.base.keep b o (I.ok.bs b o e).1 (I.ok.bs b o e).2 (I.ok.nofr e) (I.ok.noex b o e),I.base.free b o (I.ok.bs b o e).1 (I.ok.bs b o e).2 (I.ok.noex b o e)⟩
theorem Inv.bk (I:Inv X pins σ H s):∀b o,X.base.get? b=ag o->s.heap.get? b=ag o:=λb o e=>(I.bs b o e).1
theorem Inv.mod (I:Inv X pins σ H s):Mod X.K X.mg X.base:=I.ok.mod
theorem Inv.kIn (I:Inv X pins σ H s):X.K.In s.heap:=I.ok.mod.kin.keeps I.bk
theorem Inv.lt (I:Inv X pins σ H s):X.env.locals < s.heap.objs.size:=let ⟨_,hn,_⟩:=I.loc;hn.lt
theorem Inv.sz (I:Inv X pins σ H s):X.s₀.heap.objs.size<=s.heap.objs.size:=WK I.ok.above (XA I.lt)
theorem Inv.nofs (I:Inv X pins σ H s) {a:dt} (h:s.heap.objs.size<=a):a∉X.fs:=λhb=>by
 obtain⟨_,o,ho,_⟩:=I.ok.funs.mem hb;exact hB (hA (hF ho) (WK I.sz h)) (WO _)
theorem Inv.cne (I:Inv X pins σ H s):∀x c,X.env.cells.lookup x=ag c->c≠X.env.locals:=λx c e z=>by
 obtain⟨v,o,ho,hd⟩:=I.cell x c e;obtain⟨m,⟨o',es,ep,ζ,ι,_⟩,_⟩:=I.loc;rw[z,ζ] at ho;cases ho;rw[ι] at hd;cases hd
theorem Inv.funs (I:Inv X pins σ H s):s.heap.FunFrames X.base X.outer:=by
 have all:∀(l:ee Env),(∀b∈frs l,b∈X.fs)->X.s₀.heap.FunFrames X.base l->s.heap.FunFrames X.base l:=by
  intro l
  induction l with
  | nil=>intro _ _;trivial
  | cons env r ih=>
    intro hs hl;obtain⟨hk,⟨L,o,hf,hn,ho,hd⟩,O⟩:=hl;have β:L∈X.fs:=hs L (by unfold frs;rw[Za,hf];exact wq);obtain⟨Y,e⟩:=I.base.slot L o ho (I.ok.frf L β) β λz=>I.ok.exfs L z β;exact⟨hk,⟨L,_,hf,hn,e,hd⟩,ih (λb hb=>hs b (by unfold frs;rw[Za,hf];exact z4 _ hb)) O⟩
 exact all X.outer (λ_ hb=>hb) I.ok.funs
theorem Inv.stack (I:Inv X pins σ H s):s.heap.FunFrames X.base X.stack:=by
 rcases I.ok.stk with e | ⟨e,hf⟩
 ·rw[e];exact I.funs
 ·rw[e];obtain⟨m,hn,_⟩:=I.loc;refine .cons (by rw[I.ok.kind];decide) hf hn ?_ I.funs;exact Xn (WK I.ok.bsz I.ok.above)
theorem Inv.stkSub (I:Inv X pins σ H s):∀b∈frs X.stack,b∈X.env.locals::X.fs:=λb hb=>by
 rcases I.ok.stk with e | ⟨e,hf⟩
 ·rw[e] at hb;exact z4 _ hb
 ·rw[e] at hb;unfold frs at hb;rw[Za,hf] at hb;exact hb
theorem Inv.stkFree (I:Inv X pins σ H s):∀b∈frs X.stack,H b=none:=λb hb=>by
 rcases xY.mp (I.stkSub b hb) with e | hb
 ·rw[e];exact I.free
 ·obtain⟨_,o,ho,_⟩:=I.ok.funs.mem hb;exact I.base.free b o ho (I.ok.frf b hb) λz=>I.ok.exfs b z hb
theorem Inv.step {g':ai2 GenState} {t':Nat} {d':Drawn} {ch:Dk} (I:Inv X pins σ H s)
  (Y:∀b∈ch,(b∈X.ex∨X.s₀.heap.objs.size<=b)/\b≠X.env.locals/\(∀x c,X.env.cells.lookup x=ag c->c≠b)/\∀p∈X.pn++pins,p.1≠b)
  (keep:∀b o,b≠X.env.locals->b∉X.fs->b∉ch->s.heap.get? b=ag o->H b=fy->h'.get? b=ag o)
  (slot:∀b o,b≠X.env.locals->b∈X.fs->b∉ch->s.heap.get? b=ag o->H b=fy->∃ζ,h'.get? b=ag {o with slots:=ζ}) (free:∀b o,b∉ch->s.heap.get? b=ag o->H b=fy->H' b=fy)
  (there:∀b o,b∉ch->s.heap.get? b=ag o->∃o',h'.get? b=ag o')
  (tups:∀b xs,H b=ag (.tup xs)->H' b=ag (.tup xs)) (frzs:∀b o u,H b=ag (.frz o u)->H' b=ag (.frz o u)) (tbls:∀b ps,H b=ag (.tbl ps)->∃more,H' b=ag (.tbl (ps++more)))
  (ns:∀m,s.heap.Ns X.env.locals m->h'.Ns X.env.locals m) (hok:HOk X.prog X.w H' h') (ξ:AllBare g'):
  Inv X pins σ H' {s with heap:=h',gens:=g',drawn:=d',toks:=t'}:=by
 have γ:∀b o,X.s₀.heap.get? b=ag o->b≠X.env.locals:=λb o e=>z3 (hA (hF e) I.ok.above)
 have α:∀b o,X.s₀.heap.get? b=ag o->b∉X.ex->b∉ch:=λb o e L hb=>by
  rcases(Y b hb).1 with z | z
  ·exact L z
  ·exact hB (hA (hF e) z) (WO _)
 have Z:∀x c,X.env.cells.lookup x=ag c->∀v,s.heap.IsCell c v->h'.IsCell c v:=λx c e v ⟨o,ho,hd⟩=>by
  have O:c∉ch:=λz=>(Y c z).2.2.1 x c e rfl;by_cases θ:c∈X.fs
  ·obtain⟨ζ,q⟩:=slot c o (I.cne x c e) θ O ho (I.freeC x c e);exact⟨_,q,hd⟩
  ·exact⟨o,keep c o (I.cne x c e) θ O ho (I.freeC x c e),hd⟩
 refine⟨I.ok,I.os,ξ,⟨λb o e n hb L=>?_,λb o e n hb L=>?_,λb o e n L=>?_,λb o e L=>?_,λb xs e=>tups b xs (I.base.tups b xs e),λb o xs e=>frzs b o xs (I.base.frzs b o xs e),λb ps e=>?_⟩,?_,λx c e=>?_,?_,λx c e=>?_,λp hp=>?_,hok,I.len⟩
 ·exact keep b o (γ b o e) hb (α b o e L) (I.base.keep b o e n hb L) (I.base.free b o e n L)
 ·obtain⟨ζ,β⟩:=I.base.slot b o e n hb L;obtain⟨ε,δ⟩:=slot b _ (γ b o e) hb (α b o e L) β (I.base.free b o e n L);exact⟨ε,δ⟩
 ·obtain⟨o',β⟩:=I.base.there b o e L;exact free b o' (α b o e L) β (I.base.free b o e n L)
 ·obtain⟨o',β⟩:=I.base.there b o e L;exact there b o' (α b o e L) β
 ·obtain⟨ν,β⟩:=I.base.tbls b ps e;obtain⟨ι,δ⟩:=tbls b _ β;exact⟨ν++ι,by rw[δ,Array.append_assoc]⟩
 ·obtain⟨m,hn,hl⟩:=I.loc;refine⟨m,ns m hn,λi x v β δ ο=>?_⟩;obtain⟨u,r,l⟩:=hl i x v β δ ο;refine⟨u,r,?_⟩;rcases l with l | ⟨k,c,e,z⟩
  ·exact .inl l
  ·exact .inr ⟨k,c,e,Z x c e _ z⟩
 ·obtain⟨v,z⟩:=I.cell x c e;exact⟨v,Z x c e v z⟩
 ·obtain⟨m,⟨o,_,_,ho,_⟩,_⟩:=I.loc;exact free _ o (λz=>(Y _ z).2.1 rfl) ho I.free
 ·obtain⟨v,o,ho,hd⟩:=I.cell x c e;exact free c o (λz=>(Y c z).2.2.1 x c e rfl) ho (I.freeC x c e)
 ·obtain⟨e,n,ne,η,d⟩:=I.pin p hp;have O:p.1∉ch:=λz=>(Y p.1 z).2.2.2 p hp rfl;exact⟨keep p.1 p.2 ne η O e n,free p.1 p.2 O e n,ne,η,d⟩
theorem Inv.un {t':Nat} (I:Inv X pins σ H s) (u:Un X.fs [] H H' s.heap h') (hok:HOk X.prog X.w H' h'):Inv X pins σ H' {s with heap:=h',toks:=t'}:=by
 obtain⟨m,⟨o,es,ep,ho,r⟩,_⟩:=id I.loc;obtain⟨Y,β⟩:=u.any ho I.free @F
 exact I.step (g':=s.gens) (d':=s.drawn) (ch:=[]) (λ_ z=>nomatch z) (λb o _ hb _ e n=>u.keep b o e n hb @F) (λb o _ hb _ e n=>u.slot b o e n hb @F) (λb o _ e n=>u.free b o e n @F) (λb o _ e=>u.there b o e @F) u.tups u.frzs u.tbls (fun ω hm=>by
  obtain⟨o',L,O,ζ,r'⟩:=hm;rw[ho] at ζ;cases ζ;exact⟨_,L,O,β,r'⟩) hok I.bare
theorem Inv.call {g':ai2 GenState} {t':Nat} {d':Drawn} {ch:Dk} (I:Inv X pins σ H s) (u:Un (frs X.stack) ch H H' s.heap h') (hok:HOk X.prog X.w H' h') (α:AllBare g')
  (O:∀b∈ch,(b∈X.ex∨X.s₀.heap.objs.size<=b)/\b≠X.env.locals/\(∀x c,X.env.cells.lookup x=ag c->c≠b)/\∀p∈X.pn++pins,p.1≠b):
  Inv X pins σ H' {s with heap:=h',gens:=g',drawn:=d',toks:=t'}:=by
 obtain⟨m,⟨o,es,ep,ho,r⟩,_⟩:=id I.loc;obtain⟨γ,β⟩:=u.any ho I.free λz=>(O _ z).2.1 rfl
 exact I.step (ch:=ch) O (λb o β hb L e n=>u.keep b o e n (λz=>(xY.mp (I.stkSub b z)).elim β hb) L) (λb o _ _ L e n=>u.any e n L) (λb o L e n=>u.free b o e n L) (λb o L e=>u.there b o e L) u.tups u.frzs u.tbls (fun ω hm=>by
  obtain⟨o',Y,Z,ζ,r'⟩:=hm;rw[ho] at ζ;cases ζ;exact⟨_,Y,Z,β,r'⟩) hok α
theorem Inv.turned {t':Nat} {L:dt} (I:Inv X pins σ H s) (k:∀b o,b≠L->s.heap.get? b=ag o->h'.get? b=ag o) (hn:H L=fy) (β:L≠X.env.locals)
  (h1:L∈X.ex∨X.s₀.heap.objs.size<=L) (h2:∀x c,X.env.cells.lookup x=ag c->c≠L) (Z:∀p∈X.pn++pins,p.1≠L):Inv X pins σ H {s with heap:=h',toks:=t'}:=by
 have Y:∀b u,H b=ag u->b≠L:=λb u e z=>by rw[z,hn] at e;cases e
 refine I.step (g':=s.gens) (d':=s.drawn) (ch:=[L]) (λb hb=>?_) (λb o _ _ O e _=>k b o (λz=>O (by simp[z])) e) (λb o _ _ O e _=>⟨o.slots,k b o (λz=>O (by simp[z])) e⟩) (λ_ _ _ _ n=>n)
  (λb o O e=>⟨o,k b o (λz=>O (by simp[z])) e⟩) (λ_ _ e=>e) (λ_ _ _ e=>e) (λb ps e=>⟨#[],by rw[e];simp⟩) (λm hm=>?_) (λb u e=>?_) I.bare
 ·have e:b=L:=by simpa using hb
  subst e;exact⟨h1,β,h2,Z⟩
 ·obtain⟨o,es,ep,ho,r⟩:=hm;exact⟨o,es,ep,k _ o (Wf β) ho,r⟩
 ·refine(I.hok b u e).stay (λc v O q=>k c v ?_ q) (λ_ q=>q) λ_ _ q=>q;rcases O with z | z
  ·rw[z];exact Y b u e
  ·exact Y c _ z
theorem Inv.tok (I:Inv X pins σ H s) (t:Nat):Inv X pins σ H {s with toks:=t}:=I.un (h':=s.heap) (t':=t) Un.refl I.hok
theorem Inv.kept {t':Nat} (I:Inv X pins σ H s) (k:∀b u,s.heap.get? b=ag u->h'.get? b=ag u):Inv X pins σ H {s with heap:=h',toks:=t'}:=I.un (Un.kept k) (I.hok.kept k)
theorem Inv.laid {a:dt} {o:HO} {t':Nat} (I:Inv X pins σ H s) (k:∀b u,s.heap.get? b=ag u->h'.get? b=ag u) (hp:s.heap.objs.size<=a) (L:gj X.prog X.w (upd H a o) h' a o):
  Inv X pins σ (upd H a o) {s with heap:=h',toks:=t'}:=I.un (Un.laid k hp (I.hok.fresh hp)) (I.hok.laid k hp L)
theorem Inv.write {x e:dt} {o:HO} {t':Nat} (I:Inv X pins σ H s) (Y:Mut (H x)) (he:e=x∨H e=ag (.own x)) (k:∀b u,b≠e->s.heap.get? b=ag u->h'.get? b=ag u) (L:∃u,h'.get? e=ag u)
  (O:gj X.prog X.w (upd H x o) h' x o):Inv X pins σ (upd H x o) {s with heap:=h',toks:=t'}:=I.un (Un.write Y he k L) (I.hok.write Y he k L O)
theorem Inv.weak {σ':ee (pa V)} (I:Inv X pins σ H s) (hl:σ'.length=σ.length) (w:∀(i:Nat) v,σ'[i]? =ag (ag v)->σ[i]? =ag (ag v)):Inv X pins σ' H s:=
 ⟨I.ok,I.os,I.bare,I.base,let ⟨m,hn,L⟩:=I.loc;⟨m,hn,λi x v Z Y O=>L i x v Z (w i v Y) O⟩,I.cell,I.free,I.freeC,I.pin,I.hok,hl.trans I.len⟩
theorem Inv.pins_of {pins':CB} (I:Inv X pins σ H s) (h:∀p∈pins',s.heap.get? p.1=ag p.2/\H p.1=fy/\p.1≠X.env.locals/\p.1∉X.fs/\∀v,p.2.data≠.cell v):Inv X pins' σ H s:=
 ⟨I.ok,I.os,I.bare,I.base,I.loc,I.cell,I.free,I.freeC,λp hp=>(gF.mp hp).elim (λz=>I.pin p (hQ _ z)) (h p),I.hok,I.len⟩
theorem zY {N:B1} (ψ:N.Nodup) {i j:Nat} {x:mu} (a:N[i]? =ag x) (b:N[j]? =ag x):i=j:=by
 obtain⟨h1,O⟩:=b'.mp a;obtain⟨h2,L⟩:=b'.mp b;exact(List.getElem_inj ψ).mp (O.trans L.symm)
theorem AV {M:Model} {A:z5} {E:C'} {i:Nat} {x:mu} {v:V} {u:ic} {Q:D'} (I:Inv X pins σ H s) (ψ:X.N.Nodup) (hi:X.N[i]? =ag x) (hx:Loc X.env.scope x) (r:RelV v u)
  (h:∀s',Inv X pins (σ.set i (ag v)) H s'->(∃a,YH a s.heap s'.heap/\(a=X.env.locals∨X.env.cells.lookup x=ag a))->Q () s') (hf:X.fn x=true∨X.env.scope.names.lookup x=ag .local:=by first | exact .inl rfl | exact .inr rfl | assumption):kn M A (storeName X.env x u) Q E s:=by
 obtain⟨m,hn,hl⟩:=id I.loc;have ε:(X.env.scope.kind == .class||(X.env.scope.kind == .module&&X.env.locals != X.env.globals))=false:=by rw[I.ok.kind];rfl
 have α:i < σ.length:=by rw[I.len];exact(b'.mp hi).1
 have cne:=I.cne
 have L:∀{a:dt} {h':N'},(∃o,s.heap.get? a=ag o/\H a=fy)->YH a s.heap h'->HOk X.prog X.w H h':=λ{a h'} ha hs b ob e=>by
  obtain⟨_,_,Y⟩:=ha;refine(I.hok b ob e).stay (λc θ hc q=>(hs.2 c ?_).trans q) (λ_ q=>q) λ_ _ q=>q;rintro rfl;rcases hc with rfl | hc
  ·rw[Y] at e;cases e
  ·rw[Y] at hc;cases hc
 rcases hx with hk | hk
 ·refine wpAny_storeName_local hk hn (λh' ω hs=>?_) ε;obtain⟨oL,_,_,ρ,_⟩:=id hn;refine h _ ⟨I.ok,I.os,I.bare,⟨λb o e n hb hx=>?_,λb o e n hb hx=>?_,I.base.free,λb o e hx=>?_,I.base.tups,I.base.frzs,I.base.tbls⟩,⟨_,ω,λj y ζ O Z φ=>?_⟩,λy c e=>?_,I.free,I.freeC,λp hp=>?_,L ⟨oL,ρ,I.free⟩ hs,by simpa using I.len⟩ ⟨_,hs,.inl rfl⟩
  ·exact(hs.2 b (z3 (hA (hF e) I.ok.above))).trans (I.base.keep b o e n hb hx)
  ·obtain⟨ο,O⟩:=I.base.slot b o e n hb hx;exact⟨ο,(hs.2 b (z3 (hA (hF e) I.ok.above))).trans O⟩
  ·obtain⟨o',O⟩:=I.base.there b o e hx;exact⟨o',(hs.2 b (z3 (hA (hF e) I.ok.above))).trans O⟩
  ·by_cases β:j=i
   ·subst β;rw[hi] at O;cases O;rw[YI α] at Z;cases Z;exact⟨u,r,.inl ⟨hk,by simp⟩⟩
   ·rw[YZ (Wf β)] at Z;obtain⟨ξ,r',q⟩:=hl j y ζ O Z φ;refine⟨ξ,r',?_⟩;rcases q with ⟨k,e⟩ | ⟨k,c,e,z⟩
    ·refine .inl ⟨k,?_⟩;have:y≠x:=λe=>β (zY ψ O (e ▸ hi));simp[this,e]
    ·exact .inr ⟨k,c,e,z.sameBut hs (cne y c e)⟩
  ·obtain⟨θ,z⟩:=I.cell y c e;exact⟨θ,z.sameBut hs (cne y c e)⟩
  ·obtain⟨e,n,ne,π,d⟩:=I.pin p hp;exact⟨(hs.2 p.1 ne).trans e,n,ne,π,d⟩
 ·have τ:X.fn x=true:=by
   rcases hf with z | z
   ·exact z
   ·rw[z] at hk;cases hk
  obtain⟨c,hc⟩:=I.ok.has x (.inl hk);obtain⟨θ,z⟩:=I.cell x c hc;refine wpAny_storeName_cell I.ok.kind hk hc z (λh' η hs=>?_);obtain⟨χ,δ,γ⟩:=id z;refine h {s with heap:=h'} ⟨I.ok,I.os,I.bare,⟨λb o e n hb hx=>?_,λb o e n hb hx=>?_,I.base.free,λb o e hx=>?_,I.base.tups,I.base.frzs,I.base.tbls⟩,⟨m,hn.sameBut hs (Wf (cne x c hc)),λj y ζ O Z φ=>?_⟩,λy ι e=>?_,I.free,I.freeC,λp hp=>?_,L ⟨χ,δ,I.freeC x c hc⟩ hs,by simpa using I.len⟩ ⟨c,hs,.inr hc⟩
  ·exact(hs.2 b (z3 (hA (hF e) (I.ok.cab x c τ hc)))).trans (I.base.keep b o e n hb hx)
  ·obtain⟨ο,O⟩:=I.base.slot b o e n hb hx;exact⟨ο,(hs.2 b (z3 (hA (hF e) (I.ok.cab x c τ hc)))).trans O⟩
  ·obtain⟨o',O⟩:=I.base.there b o e hx;exact⟨o',(hs.2 b (z3 (hA (hF e) (I.ok.cab x c τ hc)))).trans O⟩
  ·by_cases β:j=i
   ·subst β;rw[hi] at O;cases O;rw[YI α] at Z;cases Z;exact⟨u,r,.inr ⟨.inl hk,c,hc,η⟩⟩
   ·rw[YZ (Wf β)] at Z;obtain⟨ξ,r',q⟩:=hl j y ζ O Z φ;refine⟨ξ,r',?_⟩;rcases q with q | ⟨k,ι,e,z'⟩
    ·exact .inl q
    ·refine .inr ⟨k,ι,e,z'.sameBut hs ?_⟩;rintro rfl;exact β (zY ψ O (I.ok.inj _ _ _ e hc ▸ hi))
  ·by_cases υ:ι=c
   ·subst υ;exact⟨_,η⟩
   ·obtain⟨w2,z2⟩:=I.cell y ι e;exact⟨w2,z2.sameBut hs υ⟩
  ·obtain⟨e,n,ne,π,d⟩:=I.pin p hp;refine⟨(hs.2 p.1 ?_).trans e,n,ne,π,d⟩;intro q;rw[q,δ] at e;have ν:χ=p.2:=vu e;exact d θ (by rw[<-ν];exact γ)
theorem zq {M:Model} {A:z5} {E:C'} {i:Nat} {x:mu} {v:V} {u:ic} {Q:D'} (I:Inv X pins σ H s) (ψ:X.N.Nodup) (hi:X.N[i]? =ag x) (hx:Loc X.env.scope x) (r:RelV v u)
  (h:∀s',Inv X pins (σ.set i (ag v)) H s'->Q () s') (hf:X.fn x=true∨X.env.scope.names.lookup x=ag .local:=by first | exact .inl rfl | exact .inr rfl | assumption):kn M A (storeName X.env x u) Q E s:=
 AV I ψ hi hx r (λs' L _=>h s' L) hf
theorem Inv.call' {s':hJ} {ch:Dk} (I:Inv X pins σ H s) (ho:s'.os=s.os) (u:Un (frs X.stack) ch H H' s.heap s'.heap) (hok:HOk X.prog X.w H' s'.heap) (O:AllBare s'.gens)
  (L:∀b∈ch,(b∈X.ex∨X.s₀.heap.objs.size<=b)/\b≠X.env.locals/\(∀x c,X.env.cells.lookup x=ag c->c≠b)/\∀p∈X.pn++pins,p.1≠b):Inv X pins σ H' s':=by
 obtain⟨h',g',d',t',o'⟩:=s';have e:o'=s.os:=ho;subst e;exact I.call (g':=g') (t':=t') (d':=d') u hok O L
end
noncomputable abbrev XK:=ic->F'->Hp->Prop
noncomputable abbrev St:=ee (pa V)
noncomputable abbrev VK:=V->Hp->Prop
noncomputable abbrev TE:=St->Hp->VK->Prop
noncomputable abbrev TT:=St->Hp->(V6->Hp->Prop)->Prop
noncomputable abbrev TA:=St->Hp->(ee V->Hp->Prop)->Prop
structure Ends where
 nx:St->Hp->Prop
 rt:VK
 bk:St->Hp->Prop:=λ_ _=>False
 ct:St->Hp->Prop:=λ_ _=>False
noncomputable abbrev TS:=Ends->St->Hp->Prop
def EP (X:Cx) (pins:CB) (σ:St) (Q:VK) (u:ic) (s':hJ):Prop:=∃v H',Inv X pins σ H' s'/\RelV v u/\Q v H'
def TP (X:Cx) (pins:CB) (σ:St) (Q:V6->Hp->Prop) (b:V6) (s':hJ):Prop:=∃H',Inv X pins σ H' s'/\Q b H'
def AP (X:Cx) (pins:CB) (σ:St) (Q:ee V->Hp->Prop) (us:CD) (s':hJ):Prop:=∃vs H',Inv X pins σ H' s'/\Vals vs us/\Q vs H'
def SP (X:Cx) (pins:CB) (D:Ends) (f:Flow) (s':hJ):Prop:=
 match f with
 | .next=>∃σ' H',Inv X pins σ' H' s'/\D.nx σ' H'
 | .brk=>∃σ' H',Inv X pins σ' H' s'/\D.bk σ' H'
 | .cont=>∃σ' H',Inv X pins σ' H' s'/\D.ct σ' H'
 | .ret u=>∃v σ' H',Inv X pins σ' H' s'/\RelV v u/\D.rt v H'
def PE (X:Cx) (e:L') (t:TE):Prop:=
 ∀(pins:CB) (s:hJ) (σ:St) (H:Hp) (Q:VK),Inv X pins σ H s->t σ H Q->kn (px X.prog X.w) X.A (eval e X.env) (EP X pins σ Q) X.xe s
def PT (X:Cx) (e:L') (t:TT):Prop:=
 ∀(pins:CB) (s:hJ) (σ:St) (H:Hp) (Q:V6->Hp->Prop),Inv X pins σ H s->t σ H Q->kn (px X.prog X.w) X.A (isTrue e X.env (eval e X.env)) (TP X pins σ Q) X.xe s
def PW (X:Cx) (e:L') (t:TT):Prop:=
 ∀(L:Sem ic) (pins:CB) (s:hJ) (σ:St) (H:Hp) (Q:V6->Hp->Prop),Inv X pins σ H s->t σ H Q->kn (px X.prog X.w) X.A (isTrue e X.env L) (TP X pins σ Q) X.xe s
theorem PW.pt {X:Cx} {e:L'} {t:TT} (h:PW X e t):PT X e t:=h _
def PA (X:Cx) (es:ee L') (t:TA):Prop:=
 ∀(pos:Pos) (pins:CB) (s:hJ) (σ:St) (H:Hp) (Q:ee V->Hp->Prop),Inv X pins σ H s->t σ H Q->kn (px X.prog X.w) X.A (spliced (backTo pos (ll es X.env))) (AP X pins σ Q) X.xe s
def PS (X:Cx) (st:Xs) (t:TS):Prop:=
 ∀(pins:CB) (s:hJ) (σ:St) (H:Hp) (D:Ends),Inv X pins σ H s->t D σ H->kn (px X.prog X.w) X.A (exec st X.env) (SP X pins D) X.xe s
def PSs (X:Cx) (st:ee Xs) (t:TS):Prop:=
 ∀(pins:CB) (s:hJ) (σ:St) (H:Hp) (D:Ends),Inv X pins σ H s->t D σ H->kn (px X.prog X.w) X.A (execs st X.env) (SP X pins D) X.xe s
theorem thn {α:Type} {t:Sem α} {Q L:α->hJ->Prop} {M:Model} {A:z5} {E:C'} {s:hJ} (h:kn M A t Q E s) (O:∀a s,Q a s->L a s):kn M A t L E s:=VZ h O λ_ _ x=>x
section
variable {X:Cx}
noncomputable def tVar (i:Nat):TE:=fun σ H Q=>∃v,σ[i]? =ag (ag v)/\Q v H
noncomputable abbrev tC (v:V):TE:=λ_ H Q=>Q v H
theorem TF {i:Nat} {x:mu} {pos:Pos} (ψ:X.N[i]? =ag x) (Z:Vis X.env.scope x) (hd:(x == ("__debug__":mu))=false:=by decide) (O:(x == ("__classdict__":mu))=false:=by decide):PE X (.Name x pos) (tVar i):=by
 intro pins s σ H Q I h;obtain⟨v,e,h⟩:=h;obtain⟨m,hn,hl⟩:=I.loc;obtain⟨u,r,l⟩:=hl i x v ψ e Z;have fin:EP X pins σ Q u s:=⟨v,H,I,r,h⟩;rcases l with ⟨hk,hm⟩ | ⟨hk,c,Y,L⟩
 ·exact am7 (wpAny_loadName_local I.ok.kind hk hn hm fin) hd
 ·rcases hk with hk | hk
  ·exact am7 (wpAny_loadName_cell I.ok.kind hk Y L fin) hd
  ·exact am7 (wpAny_loadName_free I.ok.kind hk Y L fin O) hd
theorem ai {i j pos}:PE X (.Constant (.int i) j pos) (tC (.int i)):=λ_ _ _ H _ I h=>wpAny_Constant_int ⟨.int i,H,I.tok _,⟨_,rfl⟩,h⟩
theorem l8 {b j pos}:PE X (.Constant (.bool b) j pos) (tC (.bl b)):=λ_ _ _ H _ I h=>Constant_bool ⟨.bl b,H,I,rfl,h⟩
theorem Ks {j pos}:PE X (.Constant .none j pos) (tC .non):=λ_ _ _ H _ I h=>Constant_none ⟨.non,H,I,rfl,h⟩
theorem cD {x j pos}:PE X (.Constant (.str x) j pos) (tC (.str x)):=λ_ _ _ H _ I h=>Calls.Constant_str ⟨.str x,H,I.tok _,⟨_,rfl⟩,h⟩
def Gl (X:Cx) (x:mu):Prop:=X.env.kindOf x=ag .globalImplicit
theorem jS {E:C'} {pins:CB} {s:hJ} {σ:St} {H:Hp} {x:mu} {u:ic} {pos:Pos} {Q:C'} (I:Inv X pins σ H s) (L:Gl X x) (hm:X.mg x=ag u) (h:Q u s)
  (hd:(x == ("__debug__":mu))=false:=by decide):kn (px X.prog X.w) X.A (eval (.Name x pos) X.env) Q E s:=
 aa9 I.ok.kind L (Calls.loadGlobal_global (by rw[I.ok.glob];exact I.mod.glob.keeps I.bk) hm h) hd
theorem nN {E:C'} {pins:CB} {s:hJ} {σ:St} {H:Hp} {x:mu} {u:ic} {pos:Pos} {Q:C'} (I:Inv X pins σ H s) (O:Gl X x) (hm:X.mg x=fy) (L:bootBuiltins x=ag u) (h:Q u s)
  (hn:x≠"__name__":=by decide) (hd:(x == ("__debug__":mu))=false:=by decide):kn (px X.prog X.w) X.A (eval (.Name x pos) X.env) Q E s:=by
 obtain⟨Y,h1,h2⟩:=I.mod.blt;exact aa9 I.ok.kind O (Calls.loadGlobal_builtin (by rw[I.ok.glob];exact I.mod.glob.keeps I.bk) hm (by rw[I.ok.blt];exact h1.keeps I.bk) ((h2 x hn).trans L) h) hd
theorem hV {x:mu} {v:V} {u:ic} {pos:Pos} (L:Gl X x) (hm:X.mg x=ag u) (r:RelV v u) (hd:(x == ("__debug__":mu))=false:=by decide):PE X (.Name x pos) (tC v):=
 λ_ _ _ H _ I h=>jS I L hm ⟨v,H,I,r,h⟩ hd
theorem gB {x:mu} {v:V} {u:ic} {pos:Pos} (O:Gl X x) (hm:X.mg x=fy) (L:bootBuiltins x=ag u) (r:RelV v u) (hn:x≠"__name__":=by decide) (hd:(x == ("__debug__":mu))=false:=by decide):PE X (.Name x pos) (tC v):=
 λ_ _ _ H _ I h=>nN I O hm L ⟨v,H,I,r,h⟩ hn hd
variable {a b:L'} {ta tb:TE} {pos:Pos}
def PC (X:Cx) (O:CmpOp) (a b:L') (t:TE):Prop:=
 ∀(pins:CB) (s:hJ) (σ:St) (H:Hp) (Q:VK),Inv X pins σ H s->t σ H Q->
  kn (px X.prog X.w) X.A (eval a X.env) (λv L=>kn (px X.prog X.w) X.A (eval b X.env) (λu δ=>kn (px X.prog X.w) X.A (compareOp O v u) (EP X pins σ Q) X.xe δ) X.xe L) X.xe s
noncomputable abbrev tB (t:TE):TT:=fun σ H Q=>t σ H λx H1=>∃c,x= .bl c/\Q c H1
theorem TK {L:CmpOp} {t:TE} (h:PC X L a b t) (h1:behindInMarks L b=false:=by first | exact nobehind _ (by decide) (by decide) | rfl):PE X (.Compare a [L] [b] pos) t:=λpins s σ H Q I hw=>wpAny_Compare1 (h pins s σ H Q I hw) h1
theorem Ko {L:CmpOp} {t:TE} (h:PC X L a b t) (h1:behindInMarks L b=false:=by first | exact nobehind _ (by decide) (by decide) | rfl):PT X (.Compare a [L] [b] pos) (tB t):=by
 intro pins s σ H Q I hw;refine ak1 (thn (h pins s σ H _ I hw) λv γ h1=>thn h1 λu β h2=>thn h2 λc α ⟨x,H1,Z,O,Y⟩=>?_) h1;obtain⟨d,rfl,q⟩:=Y;cases O;exact WX ⟨H1,Z,q⟩
theorem cK {e:L'} {t:TE} (h:PE X e t) (he:∀L,isTrue e X.env L=(do let v <-L;standAt e.pos;holding [v] (truthy v)):=by intro _;rfl):PT X e (tB t):=by
 intro pins s σ H Q I hw;refine isTrue_plain (thn (h pins s σ H _ I hw) λv α ⟨x,H1,Z,O,Y⟩=>?_) (he _);obtain⟨d,rfl,q⟩:=Y;cases O;exact WX ⟨H1,Z,q⟩
variable {tA tB':TT} {rest:ee L'}
noncomputable abbrev tAnd (t u:TT):TT:=fun σ H Q=>t σ H λc H1=>if c=true then u σ H1 Q else Q false H1
noncomputable abbrev tOr (t u:TT):TT:=fun σ H Q=>t σ H λc H1=>if c=true then Q true H1 else u σ H1 Q
noncomputable abbrev tNot (t:TT):TT:=fun σ H Q=>t σ H λc H1=>Q (!c) H1
theorem DB (ha:PT X a tA):PW X (.BoolOp .And [a] pos) tA:=by
 intro L pins s σ H Q I h;refine isTrue_and (thn (ha pins s σ H Q I h) λc O e=>?_);cases c with
 | true=>exact isTrue_and_nil e
 | false=>exact e
theorem jG (ha:PT X a tA):PW X (.BoolOp .Or [a] pos) tA:=by
 intro L pins s σ H Q I h;refine isTrue_or (thn (ha pins s σ H Q I h) λc O e=>?_);cases c with
 | false=>exact isTrue_or_nil e
 | true=>exact e
theorem Km (ha:PT X a tA) (hb:PW X (.BoolOp .And (b::rest) pos) tB'):PW X (.BoolOp .And (a::b::rest) pos) (tAnd tA tB'):=by
 intro Y pins s σ H Q I h;refine isTrue_and (thn (ha pins s σ H _ I h) λc Z ⟨H1,O,L⟩=>?_);cases c with
 | true=>exact hb Y pins Z σ H1 Q O L
 | false=>exact⟨H1,O,L⟩
theorem kZ (ha:PT X a tA) (hb:PW X (.BoolOp .Or (b::rest) pos) tB'):PW X (.BoolOp .Or (a::b::rest) pos) (tOr tA tB'):=by
 intro Y pins s σ H Q I h;refine isTrue_or (thn (ha pins s σ H _ I h) λc Z ⟨H1,O,L⟩=>?_);cases c with
 | true=>exact⟨H1,O,L⟩
 | false=>exact hb Y pins Z σ H1 Q O L
theorem fW (ha:PT X a tA):PT X (.UnaryOp .Not a pos) (tNot tA):=by
 intro pins s σ H Q I h;exact isTrue_not (ha pins s σ H (λc H1=>Q (!c) H1) I h)
noncomputable abbrev Ve (ta tb:TE):TE:=fun σ H Q=>ta σ H λx H1=>∃c,x= .bl c/\if c=true then tb σ H1 Q else Q (.bl false) H1
noncomputable abbrev Va (ta:TE):TE:=fun σ H Q=>ta σ H λx H1=>∃c,x= .bl c/\Q (.bl (!c)) H1
theorem tV {op} {t:TE} (h:PE X a t):PE X (.BoolOp op [a] pos) t:=λpins s σ H Q I hw=>BoolOp_one (h pins s σ H Q I hw)
theorem oU (ha:PE X a ta) (hb:PE X (.BoolOp .And (b::rest) pos) tb):PE X (.BoolOp .And (a::b::rest) pos) (Ve ta tb):=by
 intro pins s σ H Q I h;refine BoolOp_and (thn (ha pins s σ H _ I h) λv Y ⟨x,H1,O,Z,L⟩=>?_);obtain⟨c,rfl,L⟩:=L;cases Z;refine WX ?_;cases c with
 | true=>exact hb pins Y σ H1 Q O L
 | false=>exact⟨.bl false,H1,O,rfl,L⟩
theorem TH (ha:PE X a ta):PE X (.UnaryOp .Not a pos) (Va ta):=by
 intro pins s σ H Q I h;refine UnaryOp_ (thn (ha pins s σ H _ I h) λv Z ⟨x,H1,Y,O,L⟩=>?_);obtain⟨c,rfl,L⟩:=L;cases O;exact not_of (WX ⟨.bl (!c),H1,Y,rfl,L⟩)
noncomputable abbrev tIf (t:TT) (ta tb:TE):TE:=fun σ H Q=>t σ H λc H1=>if c=true then ta σ H1 Q else tb σ H1 Q
theorem N1 {c:L'} (hc:PT X c tA) (ha:PE X a ta) (hb:PE X b tb):PE X (.IfExp c a b pos) (tIf tA ta tb):=by
 intro pins s σ H Q I h;refine wpAny_IfExp (thn (hc pins s σ H _ I h) λd L ⟨H1,Y,O⟩=>?_);cases d with
 | true=>exact ha pins L σ H1 Q Y O
 | false=>exact hb pins L σ H1 Q Y O
end
def SqL (K:ak) (H:Hp) (a:dt) (xs:ee V):Prop:=
 Rd H a (.lst xs)∨
  ∃(o:Obj) (its:CN) (n:Nat),K.lookup a=ag o/\o.cls= .type "list"/\o.dict=fy/\o.data= .seq its n/\its.size<=ix/\Vals xs its.toList
def SqT (K:ak) (H:Hp) (a:dt) (xs:ee V):Prop:=
 Rd H a (.tup xs)∨
  ∃(o:Obj) (its:CN) (n:Nat),K.lookup a=ag o/\o.cls= .type "tuple"/\o.data= .seq its n/\its.size<=ix/\Vals xs its.toList
noncomputable def absV:ic->pa V
 | .none=>ag .non
 | .bool b=>ag (.bl b)
 | .int i _=>ag (.int i)
 | .str x _=>ag (.str x)
 | .bytes b _=>ag (.byt b)
 | .float b _=>ag (.flt b)
 | .ref a=>ag (.ref a)
 | .type n=>ag (.ty n)
 | _=>fy
theorem RelV.abs {x:V} {u:ic} (r:RelV x u):absV u=ag x:=by
 cases x with
 | non=>cases r;rfl
 | bl _=>cases r;rfl
 | int _=>obtain⟨t,rfl⟩:=r;rfl
 | str _=>obtain⟨t,rfl⟩:=r;rfl
 | byt _=>obtain⟨t,rfl⟩:=r;rfl
 | flt _=>obtain⟨t,rfl⟩:=r;rfl
 | ref _=>cases r;rfl
 | ty _=>cases r;rfl
theorem RelV.inj {x y:V} {u:ic} (r:RelV x u) (q:RelV y u):x=y:=vu (r.abs.symm.trans q.abs)
theorem Vals.inj:∀{xs ys:ee V} {us:CD},Vals xs us->Vals ys us->xs=ys
 | _,_,_,.nil,.nil=>rfl
 | _,_,_,.cons r t,.cons r' t'=>by rw[r.inj r',Vals.inj t t']
section
variable {X:Cx} {pins:CB} {σ:St} {H:Hp} {s:hJ} {a:dt} {xs ys:ee V}
theorem SqL.of {K:ak} (h:H a=ag (.lst xs)):SqL K H a xs:= .inl (.inl h)
theorem SqT.of {K:ak} (h:H a=ag (.tup xs)):SqT K H a xs:= .inl (.inl h)
theorem Inv.list (I:Inv X pins σ H s) (h:SqL X.K H a xs):∃its:CD,Vals xs its/\PlainL s.heap a its.toArray/\xs.length<=sizeLine:=by
 rcases h with h | ⟨o,its,n,hk,L,hd,hs,hz,r⟩
 ·obtain⟨z,its,n,r,e⟩:=h.ok I.hok;exact⟨its,r,⟨_,n,e,rfl,rfl,rfl⟩,z⟩
 ·refine⟨its.toList,r,⟨o,n,I.kIn a o hk,L,hd,by simpa using hs⟩,?_⟩;have e:=r.length;simp only[WW] at e;omega
theorem Inv.tuple (I:Inv X pins σ H s) (h:SqT X.K H a xs):∃its:CD,Vals xs its/\IsTup s.heap a its.toArray/\xs.length<=sizeLine:=by
 rcases h with h | ⟨o,its,n,hk,L,hs,hz,r⟩
 ·obtain⟨z,its,r,p⟩:=h.ok I.hok;exact⟨its,r,p,z⟩
 ·refine⟨its.toList,r,⟨o,I.kIn a o hk,L,n,by simpa using hs⟩,?_⟩;have e:=r.length;simp only[WW] at e;omega
theorem Inv.list_inj (I:Inv X pins σ H s) (h:SqL X.K H a xs) (h':SqL X.K H a ys):xs=ys:=by
 obtain⟨its,r,⟨o,n,e,_,_,d⟩,_⟩:=I.list h;obtain⟨its',r',⟨o',Y,L,_,_,d'⟩,_⟩:=I.list h';rw[e] at L;cases L;rw[d] at d';injection d' with O _
 have:its=its':=by simpa using ri an6 O
 subst this;exact r.inj r'
theorem Inv.tuple_inj (I:Inv X pins σ H s) (h:SqT X.K H a xs) (h':SqT X.K H a ys):xs=ys:=by
 obtain⟨its,r,⟨o,e,_,n,d⟩,_⟩:=I.tuple h;obtain⟨its',r',⟨o',L,_,Y,d'⟩,_⟩:=I.tuple h';rw[e] at L;cases L;rw[d] at d';injection d' with O _
 have:its=its':=by simpa using ri an6 O
 subst this;exact r.inj r'
end
noncomputable abbrev Cx.wish (X:Cx) (E:C'):Cx:={X with xe:=E}
noncomputable abbrev Cx.nox (X:Cx):Cx:=X.wish λ_ _=>False
theorem Cx.Ok.wish {X:Cx} (ok:X.Ok) (E:C'):(X.wish E).Ok:=
 ⟨ok.mod,ok.kind,ok.glob,ok.blt,ok.above,ok.inj,ok.has,ok.cab,ok.hd,ok.frames,ok.stk,ok.exf,ok.bs,ok.bsz,ok.noex,ok.exfs,ok.funs,ok.frf⟩
theorem Cx.Ok.unwish {X:Cx} {E:C'} (ok:(X.wish E).Ok):X.Ok:=
 ⟨ok.mod,ok.kind,ok.glob,ok.blt,ok.above,ok.inj,ok.has,ok.cab,ok.hd,ok.frames,ok.stk,ok.exf,ok.bs,ok.bsz,ok.noex,ok.exfs,ok.funs,ok.frf⟩
section
variable {X:Cx} {pins:CB} {σ:St} {H:Hp} {s:hJ} {E:C'}
theorem Inv.wish (I:Inv X pins σ H s) (E:C'):Inv (X.wish E) pins σ H s:=⟨I.ok.wish E,I.os,I.bare,I.base,I.loc,I.cell,I.free,I.freeC,I.pin,I.hok,I.len⟩
theorem Inv.unwish (I:Inv (X.wish E) pins σ H s):Inv X pins σ H s:=⟨I.ok.unwish,I.os,I.bare,I.base,I.loc,I.cell,I.free,I.freeC,I.pin,I.hok,I.len⟩
theorem SP.unwish {D:Ends} {f:Flow} {s':hJ} (h:SP (X.wish E) pins D f s'):SP X pins D f s':=by
 cases f with
 | next=>obtain⟨σ',H',I,q⟩:=h;exact⟨σ',H',I.unwish,q⟩
 | brk=>obtain⟨σ',H',I,q⟩:=h;exact⟨σ',H',I.unwish,q⟩
 | cont=>obtain⟨σ',H',I,q⟩:=h;exact⟨σ',H',I.unwish,q⟩
 | ret u=>obtain⟨v,σ',H',I,r,q⟩:=h;exact⟨v,σ',H',I.unwish,r,q⟩
theorem PSs.nox {st:ee Xs} {t:TS} (h:PSs X.nox st t):PSs X st t:=λpins s σ H D I hw=>
 VZ (h pins s σ H D (I.wish _) hw) (λ_ _ q=>q.unwish) λ_ _ z=>y' z
end
section
variable {X:Cx} {st:Xs} {rest:ee Xs} {t u:TS} {e:L'} {te:TE} {pos:Pos}
noncomputable def Sh:TS:=λD σ H=>D.nx σ H
noncomputable def tSeq (t u:TS):TS:=λD σ H=>t {D with nx:=u D} σ H
theorem aL:PSs X [] Sh:=λ_ _ σ H _ I h=>Z5 ⟨σ,H,I,h⟩
theorem af (h1:PS X st t) (h2:PSs X rest u):PSs X (st::rest) (tSeq t u):=by
 intro pins s σ H D I h;refine ab7 (thn (h1 pins s σ H {D with nx:=u D} I h) λf L q=>?_);cases f with
 | next=>
   obtain⟨σ',H',O,q⟩:=q;exact h2 pins L σ' H' D O q
 | ret v=>exact q
 | brk=>exact q
 | cont=>exact q
theorem aj (h1:PS X st t):PSs X [st] t:=by
 intro pins s σ H D I h;refine ab7 (thn (h1 pins s σ H D I h) λf L q=>?_);cases f with
 | next=>exact Z5 q
 | ret v=>exact q
 | brk=>exact q
 | cont=>exact q
noncomputable def Vc:TS:=λD σ H=>D.ct σ H
theorem DE:PS X (.Continue pos) Vc:=λ_ _ σ H _ I h=>wpAny_Continue ⟨σ,H,I,h⟩
theorem Inv.quiet {pins:CB} {σ:St} {H:Hp} {s:hJ} (I:Inv X pins σ H s):interactive X.env=false:=by simp[interactive,I.ok.kind]
noncomputable abbrev Vb (te:TE):TS:=λD σ H=>te σ H λ_ H1=>D.nx σ H1
theorem bu (he:PE X e te) (hs:swapsWith e fy pos.line X.env=pure false:=by rfl):PS X (.Expr e pos) (Vb te):=by
 intro pins s σ H D I h;exact wpAny_Expr_any (thn (he pins s σ H _ I h) λv Y ⟨x,H1,O,Z,L⟩=>⟨σ,H1,O,L⟩) I.quiet hs
noncomputable abbrev tRet (te:TE):TS:=λD σ H=>te σ H D.rt
theorem ay (he:PE X e te):PS X (.Return (ag e) pos) (tRet te):=by
 intro pins s σ H D I h;exact wpAny_Return_some (thn (he pins s σ H _ I h) λv Z ⟨x,H1,Y,L,O⟩=>⟨x,σ,H1,Y,L,O⟩)
noncomputable abbrev tIfS (c:TT) (t u:TS):TS:=λD σ H=>c σ H λb H1=>if b=true then t D σ H1 else u D σ H1
theorem cc {c:L'} {a b:ee Xs} {tc:TT} (hc:PT X c tc) (ha:PSs X a t) (hb:PSs X b u):PS X (.If c a b pos) (tIfS tc t u):=by
 intro pins s σ H D I h;refine wpAny_If (thn (hc pins s σ H _ I h) λd L ⟨H1,Y,O⟩=>?_);cases d with
 | true=>exact ha pins L σ H1 D Y O
 | false=>exact hb pins L σ H1 D Y O
end
noncomputable abbrev TG:=V->St->Hp->(St->Hp->Prop)->Prop
noncomputable abbrev TGs:=ee V->St->Hp->(St->Hp->Prop)->Prop
def PG (X:Cx) (L:L') (t:TG):Prop:=
 ∀(pins:CB) (s:hJ) (σ:St) (H:Hp) (v:V) (u:ic) (Q:St->Hp->Prop),Inv X pins σ H s->RelV v u->t v σ H Q->
  kn (px X.prog X.w) X.A (assign L X.env u) (λ_ s'=>∃σ' H',Inv X pins σ' H' s'/\Q σ' H') X.xe s
def PGs (X:Cx) (ts:ee L') (t:TGs):Prop:=
 ∀(pins:CB) (s:hJ) (σ:St) (H:Hp) (vs:ee V) (us:CD) (Q:St->Hp->Prop),Inv X pins σ H s->Vals vs us->t vs σ H Q->
  kn (px X.prog X.w) X.A (assignInOrder ((assignEach ts X.env).map (·.2)) us) (λ_ s'=>∃σ' H',Inv X pins σ' H' s'/\Q σ' H') X.xe s
section
variable {X:Cx} {pos:Pos}
noncomputable def LG (i:Nat):TG:=λv σ H Q=>Q (σ.set i (ag v)) H
theorem ar {i:Nat} {x:mu} (ψ:X.N.Nodup) (hi:X.N[i]? =ag x) (hx:Loc X.env.scope x) (hf:X.fn x=true∨X.env.scope.names.lookup x=ag .local:=by first | exact .inl rfl | exact .inr rfl | assumption):PG X (.Name x pos) (LG i):=by
 intro pins s σ H v u Q I r h;exact an7 (zq I ψ hi hx r (λs' L=>⟨_,H,L,h⟩) hf)
noncomputable def gNil:TGs:=λvs σ H Q=>vs=[]/\Q σ H
noncomputable def Rt (t:TG) (u:TGs):TGs:=λvs σ H Q=>∃v r,vs=v::r/\t v σ H fun σ' H'=>u r σ' H' Q
theorem iy:PGs X [] gNil:=by
 intro pins s σ H vs us Q I r h;obtain⟨e,h⟩:=h;subst e;cases r;exact assignInOrder_nil ⟨σ,H,I,h⟩
theorem bA {e:L'} {es:ee L'} {t:TG} {u:TGs} (h1:PG X e t) (h2:PGs X es u)
  (hs:(assignEach (e::es) X.env).map (·.2)=assign e X.env::(assignEach es X.env).map (·.2):=by rfl):PGs X (e::es) (Rt t u):=by
 intro pins s σ H vs us Q I r h;obtain⟨v,γ,α,h⟩:=h;subst α;cases r with
 | cons r Y=>
   rw[hs];refine assignInOrder_cons (thn (h1 pins s σ H _ _ _ I r h) λ_ O ⟨L,H1,β,Z⟩=>?_);exact h2 pins O L H1 _ _ Q β Y Z
noncomputable def gTup (K:ak) (n:Nat) (t:TGs):TG:=λv σ H Q=>∃a xs,v= .ref a/\SqT K H a xs/\xs.length=n/\t xs σ H Q
theorem qU {es:ee L'} {k:Nat} {t:TGs} {n:Nat} (hc:X.calm=true) (h:PGs X es t)
  (hn:(assignEach es X.env).length=n:=by rfl) (Z:(assignEach es X.env).findIdx? (·.1)=none:=by rfl):PG X (.Tuple es k pos) (gTup X.K n t):=by
 intro pins s σ H v u Q I r hw;obtain⟨a,xs,α,Y,hl,hw⟩:=hw;subst α;cases r;obtain⟨its,L,ht,hz⟩:=I.tuple Y;refine assign_Tuple_tuple (I.ok.hd hc) ht (by simp[hn,<-hl,L.length]) Z λh' O=>?_;have β:Inv X pins σ H {s with heap:=h'}:=I.kept (t':=s.toks) λb o e=>O b o (z3 (hF e)) e;exact h pins _ σ H xs _ Q β (by simpa using L) hw
noncomputable abbrev tAsg (te:TE) (g:TG):TS:=λD σ H=>te σ H λx H1=>g x σ H1 D.nx
theorem Pg {tg e:L'} {te:TE} {g:TG} (he:PE X e te) (Z:PG X tg g) (hs:swapsWithSole [tg] e pos.line X.env=pure false:=by rfl) (hw:swappedStores [tg] e X.env=pure none:=by rfl)
  (h1:(assignEach [tg] X.env).map (·.2)=[assign tg X.env]:=by rfl):PS X (.Assign [tg] e pos) (tAsg te g):=by
 intro pins s σ H D I h;refine wpAny_Assign_stores (thn (he pins s σ H _ I h) λv L ⟨x,H1,α,O,Y⟩=>?_) hs hw;rw[h1];exact thn (Z pins L σ H1 x v _ α O Y) λ_ β q=>q
theorem aA {i:Nat} {x:mu} {e:L'} {te:TE} {pos':Pos} (ψ:X.N.Nodup) (hi:X.N[i]? =ag x) (hx:Loc X.env.scope x) (he:PE X e te) (hs:swapsWith e (ag (.Name x pos')) pos.line X.env=pure false:=by rfl) (hf:X.fn x=true∨X.env.scope.names.lookup x=ag .local:=by first | exact .inl rfl | exact .inr rfl | assumption):
  PS X (.Assign [.Name x pos'] e pos) (tAsg te (LG i)):=by
 intro pins s σ H D I h;refine wpAny_Assign_Name (thn (he pins s σ H _ I h) λv β ⟨y,H1,Z,L,O⟩=>?_) hs;exact zq Z ψ hi hx L (fun α Y=>⟨_,H1,Y,O⟩) hf
end
section
variable {X:Cx} {pos:Pos}
noncomputable def Sf (c:TT) (tb:TS):TS:=λD σ H=>∃W:Nat->St->Hp->Prop,(∃m,W m σ H)/\∀m σ H,W m σ H->
 c σ H λb H1=>if b=true then ∃N:St->Hp->Prop,(∀σ' H',N σ' H'->∃ω,ω < m/\W ω σ' H')/\tb {D with nx:=N,ct:=N,bk:=D.nx} σ H1 else D.nx σ H1
theorem uY {c:L'} {body:ee Xs} {tc:TT} {tb:TS} (hp:PassesOwn (px X.prog X.w) X.A X.env X.xe) (hc:PT X c tc) (hb:PSs X body tb):PS X (.While c body [] pos) (Sf tc tb):=by
 intro pins s σ H D I h;obtain⟨W,⟨ι,w0⟩,π⟩:=h;refine wpAny_While (codeAny_whileLoop (λn s'=>∃σ' H',Inv X pins σ' H' s'/\W n σ' H') ?_ ι ⟨σ,H,I,w0⟩);rintro n ζ ⟨O,H1,ν,δ⟩;refine Xk hp (thn (hc pins ζ O H1 _ ν (π n O H1 δ)) λb ε ⟨H2,β,θ⟩=>?_);cases b with
 | true=>
   obtain⟨N,ψ,θ⟩:=θ;rw[qq rfl];refine Xk hp (thn (hb pins ε O H2 _ β θ) λf ξ η=>?_);cases f with
   | next=>
     obtain⟨L,Y,γ,α⟩:=η;obtain⟨ω,hm,Z⟩:=ψ L Y α;exact⟨ω,hm,L,Y,γ,Z⟩
   | cont=>
     obtain⟨L,Y,γ,α⟩:=η;obtain⟨ω,hm,Z⟩:=ψ L Y α;exact⟨ω,hm,L,Y,γ,Z⟩
   | brk=>exact η
   | ret v=>exact η
 | false=>
   rw[n' iv];exact Z5 ⟨O,H2,β,θ⟩
end
structure It where
 go:Nat->Hp->Prop
 yld:Nat->Hp->V->Hp->Prop
 stop:Nat->Hp->Prop
def FpOk (X:Cx) (pins:CB) (H:Hp) (b:dt):Prop:=
 H b=fy/\b≠X.env.locals/\b∉X.fs/\(b∈X.ex∨X.s₀.heap.objs.size<=b)/\(∀x c,X.env.cells.lookup x=ag c->c≠b)/\∀p∈X.pn++pins,p.1≠b
theorem Inv.fpOk {X:Cx} {pins:CB} {σ:St} {H H':Hp} {s:hJ} {b:dt} (I:Inv X pins σ H s) (hb:s.heap.objs.size<=b) (hn:H' b=fy):FpOk X pins H' b:=by
 refine⟨hn,Xz (hA I.lt hb),I.nofs hb,.inr (WK I.sz hb),λx c e z=>?_,λp hp z=>?_⟩
 ·obtain⟨v,q⟩:=I.cell x c e;exact hB (hA q.lt (by rw[z];exact hb)) (WO _)
 ·exact hB (hA (hF (I.pin p hp).1) (by rw[z];exact hb)) (WO _)
structure Turn (P:oT) (w:w7) (K:ak) (tg:L') (J:It) (fp:Dk) (it:dt) (tn:Nat->N'->Prop):Prop where
 mem:it∈fp
 obj:∀i h,tn i h->∀b∈fp,∃o,h.get? b=ag o/\∀v,o.data≠.cell v
 keep:∀i h h',tn i h->(∀b∈fp,∀o,h.get? b=ag o->h'.get? b=ag o)->tn i h'
 item:∀(X:Cx),X.prog=P->X.w=w->X.K=K->X.calm=true->∀(i:Nat) (pins:CB) (s:hJ) (σ:St) (H:Hp) (E:C'),Inv X pins σ H s->(∀b∈fp,FpOk X pins H b)->tn i s.heap->J.go i H->
  kn (px P w) X.A (pyNext (.ref it)) (λr s1=>∃u,r=ag u/\
   kn (px P w) X.A (letOwnedTupleGo tg (.ref it) u) (λ_ s2=>∃x H',Inv X pins σ H' s2/\RelV x u/\J.yld i H x H'/\tn (i + 1) s2.heap/\∀b∈fp,H' b=fy) E s1) E s
 done:∀(X:Cx),X.prog=P->X.w=w->X.K=K->X.calm=true->∀(i:Nat) (pins:CB) (s:hJ) (σ:St) (H:Hp) (E:C'),Inv X pins σ H s->(∀b∈fp,FpOk X pins H b)->tn i s.heap->J.stop i H->
  kn (px P w) X.A (pyNext (.ref it)) (λr s1=>r=fy/\Inv X pins σ H s1) E s
 self:∀(A:z5) (i:Nat) (s:hJ) (Q:C') (E:C'),tn i s.heap->Q (.ref it) s->kn (px P w) A (pyIter (.ref it)) Q E s
noncomputable abbrev TI:=St->Hp->(It->Hp->Prop)->Prop
def PIE (X:Cx) (pins:CB) (σ:St) (tg:L') (R:It->Hp->Prop) (φ:ic) (O:hJ):Prop:=
 ∃(Y:dt) (fp:Dk) (L:Nat->N'->Prop) (J:It) (H':Hp),φ= .ref Y/\Inv X pins σ H' O/\Turn X.prog X.w X.K tg J fp Y L/\L 0 O.heap/\(∀b∈fp,FpOk X pins H' b)/\R J H'
def PI (X:Cx) (tg iter:L') (L:TI):Prop:=
 ∀(pins:CB) (s:hJ) (σ:St) (H:Hp) (R:It->Hp->Prop),Inv X pins σ H s->L σ H R->
  kn (px X.prog X.w) X.A (eval iter X.env) (λv O=>kn (px X.prog X.w) X.A (pyIter v) (PIE X pins σ tg R) X.xe O) X.xe s
theorem Oi {M:Model} {A:z5} {E:C'} {s:hJ} {tg:L'} {O:dt} {u:ic} {o:Obj} {n:U'} {vs:CN} {Q:D'} (ho:s.heap.get? O=ag o) (hc:o.cls= .type n) (hd:o.data= .fields vs)
  (hn:["enumerate","zip","dict_itemiterator","dict_reverseitemiterator","odict_iterator","itertools.zip_longest","itertools.pairwise"].contains n=false) (L:Q () s):kn M A (letOwnedTupleGo tg (.ref O) u) Q E s:=by
 unfold letOwnedTupleGo
 cases tg<;>first
  | exact hH L
  | (cases u<;>first
    | exact hH L
    | (refine ec (wpAny_load ho ?_)
       rw[hc,hd];show kn M A (if (["enumerate","zip","dict_itemiterator","dict_reverseitemiterator","odict_iterator","itertools.zip_longest","itertools.pairwise"].contains n&&vs[0]? == ag (rawInt _))=true then _ else _) Q E s;rw[n' (by intro h;rw[hn,YY] at h;cases h)];exact hH L))
noncomputable def Itl (K:ak) (a:dt):It:=
 ⟨λi H=>∃xs x,SqL K H a xs/\xs[i]? =ag x,λi H x H'=>H'=H/\∀xs,SqL K H a xs->xs[i]? =ag x,λi H=>∃xs,SqL K H a xs/\xs.length<=i⟩
noncomputable def Itt (K:ak) (a:dt):It:=
 ⟨λi H=>∃xs x,SqT K H a xs/\xs[i]? =ag x,λi H x H'=>H'=H/\∀xs,SqT K H a xs->xs[i]? =ag x,λi H=>∃xs,SqT K H a xs/\xs.length<=i⟩
noncomputable def Itr (lo:Int) (n:Nat):It:=⟨λi _=>i < n,λi H x H'=>H'=H/\x= .int (lo + i),λi _=>n<=i⟩
theorem AU {P:oT} {w:w7} {K:ak} {tg:L'} (a L:dt):Turn P w K tg (Itl K a) [L] L (λi h=>h.IsListIter L a i) where
 mem:=by simp
 obj:=λi h st b hb=>by
  have e:b=L:=by simpa using hb
  subst e;obtain⟨o,e,c,d⟩:=st;exact⟨o,e,λv z=>by rw[d] at z;cases z⟩
 keep:=λi h h' st k=>st.at λo e=>k L @F o e
 item:=by
  intro X γ hw ρ θ i pins s σ H E I hf st β;subst γ hw ρ;obtain⟨xs,x,Y,α⟩:=β;obtain⟨its,Z,p,hz⟩:=I.list Y;obtain⟨u,ξ,ι⟩:=Z.get α;obtain⟨ε,η,ο,τ,ζ,δ⟩:=hf L @F;refine wpAny_pyNext_list_item st p.isList (x:=u) (by simpa using ξ) λh' O χ=>?_;have υ:Inv X pins σ H {s with heap:=h'}:=I.turned (t':=s.toks) (λb o hb e=>(χ.2 b hb).trans e) ε η τ ζ δ;obtain⟨o,e,c,d⟩:=id O;exact⟨u,rfl,Oi (s:={s with heap:=h'}) e c d @C ⟨x,H,υ,ι,⟨rfl,λys ν=>by rw[I.list_inj ν Y];exact α⟩,O,λb hb=>(hf b hb).1⟩⟩
 done:=by
  intro X γ hw ρ θ i pins s σ H E I hf st β;subst γ hw ρ;obtain⟨xs,Y,α⟩:=β;obtain⟨its,Z,p,hz⟩:=I.list Y;obtain⟨ε,η,ο,τ,ζ,δ⟩:=hf L @F;have hl:=Z.length;exact wpAny_pyNext_list_end (I.ok.hd θ) st p.isList (by simp;omega) λh' π=>⟨rfl,I.turned (t':=s.toks) (λb o hb e=>π b o hb e) ε η τ ζ δ⟩
 self:=λ_ _ _ _ _ st h=>wpAny_pyIter_listiter st h
theorem yR {P:oT} {w:w7} {K:ak} {tg:L'} (a L:dt):Turn P w K tg (Itt K a) [L] L (λi h=>h.IsTupleIter L a i) where
 mem:=by simp
 obj:=λi h st b hb=>by
  have e:b=L:=by simpa using hb
  subst e;obtain⟨o,e,c,d⟩:=st;exact⟨o,e,λv z=>by rw[d] at z;cases z⟩
 keep:=λi h h' st k=>st.at λo e=>k L @F o e
 item:=by
  intro X γ hw ρ θ i pins s σ H E I hf st β;subst γ hw ρ;obtain⟨xs,x,Y,α⟩:=β;obtain⟨its,Z,p,hz⟩:=I.tuple Y;obtain⟨u,ξ,ι⟩:=Z.get α;obtain⟨ε,η,ο,τ,ζ,δ⟩:=hf L @F;refine wpAny_pyNext_tuple_item st (show s.heap.IsTuple a its.toArray from p) (x:=u) (by simpa using ξ) λh' O χ=>?_;have υ:Inv X pins σ H {s with heap:=h'}:=I.turned (t':=s.toks) (λb o hb e=>(χ.2 b hb).trans e) ε η τ ζ δ;obtain⟨o,e,c,d⟩:=id O;exact⟨u,rfl,Oi (s:={s with heap:=h'}) e c d @C ⟨x,H,υ,ι,⟨rfl,λys ν=>by rw[I.tuple_inj ν Y];exact α⟩,O,λb hb=>(hf b hb).1⟩⟩
 done:=by
  intro X γ hw ρ θ i pins s σ H E I hf st β;subst γ hw ρ;obtain⟨xs,Y,α⟩:=β;obtain⟨its,Z,p,hz⟩:=I.tuple Y;obtain⟨ε,η,ο,τ,ζ,δ⟩:=hf L @F;have hl:=Z.length;exact wpAny_pyNext_tuple_end (I.ok.hd θ) st (show s.heap.IsTuple a its.toArray from p) (by simp;omega) λh' π=>⟨rfl,I.turned (t':=s.toks) (λb o hb e=>π b o hb e) ε η τ ζ δ⟩
 self:=λ_ _ _ _ _ st h=>wpAny_pyIter_tupleiter st h
theorem F5 {P:oT} {w:w7} {K:ak} {tg:L'} (L:dt) (lo:Int) (n:Nat):Turn P w K tg (Itr lo n) [L] L (λi h=>IsRangeIter h L (lo + (i:Nat) * 1) ((n:Int) - (i:Nat)) 1) where
 mem:=by simp
 obj:=λi h st b hb=>by
  have e:b=L:=by simpa using hb
  subst e
  exact⟨_,st,λv z=>by
   have ζ:Data.fields _=Data.cell v:=z;cases ζ⟩
 keep:=λi h h' st k=>k L @F _ st
 item:=by
  intro X α hw ρ Z i pins s σ H E I hf st Y;subst α hw ρ;obtain⟨ε,δ,ι,τ,γ,β⟩:=hf L @F;have W:=Walks.range (prog:=X.prog) (w:=X.w) (I.ok.hd Z) L lo 1 n;refine W.item i s _ _ Y st λv h' tk θ O η=>?_;obtain⟨t,rfl⟩:=θ;have ξ:Inv X pins σ H {s with heap:=h',toks:=tk}:=I.turned (λb o hb e=>η b o (by simpa using hb) e) ε δ τ γ β;refine⟨_,rfl,Oi (s:={s with heap:=h',toks:=tk}) (n:="range_iterator") O rfl rfl @C ⟨.int (lo + i),H,ξ,⟨t,?_⟩,⟨rfl,rfl⟩,O,λb hb=>(hf b hb).1⟩⟩;rw[Int.mul_one]
 done:=by
  intro X α hw ρ Z i pins s σ H E I hf st Y;subst α hw ρ;obtain⟨ε,δ,ι,τ,γ,β⟩:=hf L @F;exact wpAny_pyNext_range_end (I.ok.hd Z) st (by have:n<=i:=Y;omega) λh' ν=>⟨rfl,I.turned (t':=s.toks) (λb o hb e=>ν b o hb e) ε δ τ γ β⟩
 self:=λ_ _ _ _ _ st h=>wpAny_pyIter_rangeiter st h
section
variable {X:Cx} {tg:L'}
noncomputable abbrev Um (K:ak) (tl:TE):TI:=fun σ H R=>tl σ H λx H1=>∃a,x= .ref a/\(∃xs,SqL K H1 a xs)/\R (Itl K a) H1
noncomputable abbrev iTup (K:ak) (tl:TE):TI:=fun σ H R=>tl σ H λx H1=>∃a,x= .ref a/\(∃xs,SqT K H1 a xs)/\R (Itt K a) H1
theorem QU {l:L'} {tl:TE} (hl:PE X l tl):PI X tg l (Um X.K tl):=by
 intro pins s σ H R I h;refine thn (hl pins s σ H _ I h) λv L ⟨x,H1,I1,O,Y⟩=>?_;obtain⟨a,e,⟨xs,Z⟩,q⟩:=Y;subst e;cases O;obtain⟨its,α,p,hz⟩:=I1.list Z;refine Y1 p.isList ?_;refine⟨L.heap.objs.size,[L.heap.objs.size],_,_,H1,rfl,I1.kept (t':=L.toks) λb o e=>eH _ e,AU a _,⟨_,kv _ rfl,rfl,rfl⟩,λb hb=>?_,q⟩;have e:b=L.heap.objs.size:=by simpa using hb
 subst e;exact I1.fpOk (ov _) (I1.hok.fresh (ov _))
theorem TB {l:L'} {tl:TE} (hl:PE X l tl):PI X tg l (iTup X.K tl):=by
 intro pins s σ H R I h;refine thn (hl pins s σ H _ I h) λv L ⟨x,H1,I1,O,Y⟩=>?_;obtain⟨a,e,⟨xs,Z⟩,q⟩:=Y;subst e;cases O;obtain⟨its,α,p,hz⟩:=I1.tuple Z;refine XR (show L.heap.IsTuple a its.toArray from p) ?_;refine⟨L.heap.objs.size,[L.heap.objs.size],_,_,H1,rfl,I1.kept (t':=L.toks) λb o e=>eH _ e,yR a _,⟨_,kv _ rfl,rfl,rfl⟩,λb hb=>?_,q⟩;have e:b=L.heap.objs.size:=by simpa using hb
 subst e;exact I1.fpOk (ov _) (I1.hok.fresh (ov _))
theorem NT {pins:CB} {σ:St} {H:Hp} {s:hJ} {R:It->Hp->Prop} {E:C'} {lo hi:Int} {t u v:Tok} {tk:Nat} (I:Inv X pins σ H s) (h1: -(2 ^ 62)<=lo) (h2:lo < 2 ^ 62) (L: -(2 ^ 62)<=hi) (ο:hi < 2 ^ 62)
  (q:R (Itr lo (hi - lo).toNat) H):kn (px X.prog X.w) X.A (pyIter (.ref s.heap.objs.size)) (PIE X pins σ tg R) E {s with heap:=s.heap.push {cls:= .type "range",data:= .fields #[.int lo t,.int hi u,.int 1 v]},toks:=tk}:=by
 refine wpAny_pyIter_range (am5 ..) (small_one h1 h2 L ο) ?_;have I1:Inv X pins σ H {s with heap:=s.heap.push {cls:= .type "range",data:= .fields #[.int lo t,.int hi u,.int 1 v]},toks:=tk}:=I.kept λb o e=>eH _ e
 refine⟨(s.heap.push {cls:= .type "range",data:= .fields #[.int lo t,.int hi u,.int 1 v]}).objs.size,[(s.heap.push {cls:= .type "range",data:= .fields #[.int lo t,.int hi u,.int 1 v]}).objs.size],_,_,H,rfl,
  I1.kept (t':=tk) λb o e=>eH _ e,F5 _ lo (hi - lo).toNat,?_,λb hb=>?_,q⟩
 ·have Y:lo + ((0:Nat):Int) * 1=lo:=by simp
  have O:(((hi - lo).toNat:Nat):Int) - ((0:Nat):Int)=Builtin.Range.rangeSize lo hi 1:=by rw[rangeSize_one];split<;>omega
  show IsRangeIter _ _ (lo + ((0:Nat):Int) * 1) ((((hi - lo).toNat:Nat):Int) - ((0:Nat):Int)) 1;rw[Y,O];exact kv _ rfl
 ·have e:b=(s.heap.push {cls:= .type "range",data:= .fields #[.int lo t,.int hi u,.int 1 v]}).objs.size:=by simpa using hb
  subst e;exact I1.fpOk (ov _) (I1.hok.fresh (ov _))
noncomputable abbrev VD (ta:TA):TI:=fun σ H R=>ta σ H λvs H1=>∃j:Int,vs=[.int j]/\-(2 ^ 62)<=j/\j < 2 ^ 62/\R (Itr 0 j.toNat) H1
theorem dA {a:L'} {ta:TA} {p pos:Pos} (Z:Gl X "range") (hm:X.mg "range"=fy) (ha:PA X [a] ta) (hs:ll [a] X.env=[(false,eval a X.env)]:=by rfl):PI X tg (.Call (.Name "range" p) [a] [] pos) (VD ta):=by
 intro pins s σ H R I h;refine ai1 (nN I Z hm boot_range (Tn (thn (ha pos pins s σ H _ I h) λus β ⟨vs,H1,α,Y,L⟩=>?_) hs rfl));obtain⟨j,e,L,θ,q⟩:=L;subst e;cases Y with
 | cons r O=>
   cases O;obtain⟨t,rfl⟩:=r;exact call_range_1 (NT α @A @A L θ (by simpa using q))
noncomputable def tFor (L:TI) (g:TG) (tb:TS):TS:=λD σ H=>L σ H λJ H1=>∃W:Nat->Nat->St->Hp->Prop,(∃m,W 0 m σ H1)/\∀i m σ H,W i m σ H->
 (J.stop i H/\D.nx σ H)∨(J.go i H/\∃N:St->Hp->Prop,(∀σ' H',N σ' H'->∃ω,ω < m/\W (i + 1) ω σ' H')/\∀x H',J.yld i H x H'->g x σ H' fun ξ H2=>tb {D with nx:=N,ct:=N,bk:=D.nx} ξ H2)
noncomputable def Bb (fp:Dk) (h:N'):CB:=fp.filterMap λb=>(h.get? b).map λo=>(b,o)
theorem oz {fp:Dk} {h:N'} {b:dt} {o:Obj} (hb:b∈fp) (e:h.get? b=ag o):(b,o)∈Bb fp h:=ai8.mpr ⟨b,hb,by rw[e];rfl⟩
theorem KC {fp:Dk} {h:N'} {p:dt×Obj} (hp:p∈Bb fp h):p.1∈fp/\h.get? p.1=ag p.2:=by
 obtain⟨b,hb,e⟩:=ai8.mp hp;cases q:h.get? b with
 | none=>rw[q] at e;cases e
 | some o=>
   rw[q] at e;have L:(b,o)=p:=vu e;subst L;exact⟨hb,q⟩
theorem Inv.pinned {pins:CB} {σ:St} {H:Hp} {s:hJ} {fp:Dk} (I:Inv X pins σ H s) (hf:∀b∈fp,FpOk X pins H b) (ho:∀b∈fp,∃o,s.heap.get? b=ag o/\∀v,o.data≠.cell v):Inv X (pins++Bb fp s.heap) σ H s:=
 I.pins_of λp hp=>(gF.mp hp).elim (λz=>I.pin p (i' _ z)) λz=>by
  obtain⟨hb,e⟩:=KC z;obtain⟨ε,Y,O,_⟩:=hf p.1 hb;obtain⟨o,L,d⟩:=ho p.1 hb;rw[e] at L;cases L;exact⟨e,ε,Y,O,d⟩
theorem Inv.unpinned {pins pl:CB} {σ:St} {H:Hp} {s:hJ} (I:Inv X (pins++pl) σ H s):Inv X pins σ H s:=I.pins_of λp hp=>I.pin p (i' _ (hQ _ hp))
theorem de {iter:L'} {body:ee Xs} {wi:TI} {g:TG} {tb:TS} {pos:Pos} (hp:PassesOwn (px X.prog X.w) X.A X.env X.xe) (hc:X.calm=true) (hi:PI X tg iter wi) (hg:PG X tg g) (hb:PSs X body tb)
  (hs:∀x,foldedSetIterable iter X.env x=pure x:=by intro _;rfl):PS X (.For tg iter body [] pos) (tFor wi g tb):=by
 intro pins s σ H D I h;refine wpAny_For (thn (hi pins s σ H _ I h) λv s1 h1=>thn h1 fun φ s2 h2=>?_) hs;obtain⟨it,fp,tn,J,H2,e,I2,T,ι,f2,W,⟨m0,w0⟩,π⟩:=h2;subst e;have α:∀{H':Hp},(∀b∈fp,H' b=fy)->∀b∈fp,FpOk X pins H' b:=λhn b hb=>⟨hn b hb,(f2 b hb).2⟩;refine codeAny_forLoop_any (λn s'=>∃i σ' H',Inv X pins σ' H' s'/\tn i s'.heap/\(∀b∈fp,H' b=fy)/\W i n σ' H') ?_ m0 ⟨0,σ,H2,I2,ι,λb hb=>(f2 b hb).1,w0⟩;rintro n s3 ⟨i,Z,η,γ,δ,ζ,w3⟩;rcases π i n Z η w3 with ⟨stop,qn⟩ | ⟨go,N,ψ,step⟩
 ·refine Xk hp (thn (T.done X rfl rfl rfl hc i pins s3 Z η X.xe γ (α ζ) δ stop) λr s4 ⟨ρ,I4⟩=>?_);subst ρ;exact Z5 ⟨Z,η,I4,qn⟩
 ·refine Xk hp (thn (T.item X rfl rfl rfl hc i pins s3 Z η X.xe γ (α ζ) δ go) λr s4 ⟨u,ρ,h4⟩=>?_);subst ρ;refine Xk hp (thn h4 λ_ ο ⟨x,H5,I5,r5,y5,υ,τ⟩=>?_);have χ:=I5.pinned (α τ) (T.obj _ _ υ);refine Xk hp (thn (hg _ ο Z H5 x u _ χ r5 (step x H5 y5)) λ_ s6 ⟨θ,H6,I6,q6⟩=>?_);refine Xk hp (thn (hb _ s6 θ H6 _ I6 q6) λf ξ L=>?_)
  have again:∀{Y:St} {β:Hp},Inv X (pins++Bb fp ο.heap) Y β ξ->N Y β->∃m,m < n/\∃i σ' H',Inv X pins σ' H' ξ/\tn i ξ.heap/\(∀b∈fp,H' b=fy)/\W i m σ' H':=λ{Y β} I7 ε=>by
   obtain⟨ω,hm,O⟩:=ψ Y β ε;refine⟨ω,hm,i + 1,Y,β,I7.unpinned,T.keep _ _ _ υ λb hb o e=>(I7.pin (b,o) (i' _ (i' _ (oz hb e)))).1,λb hb=>?_,O⟩;obtain⟨o,e,d⟩:=T.obj _ _ υ b hb;exact(I7.pin (b,o) (i' _ (i' _ (oz hb e)))).2.1
  cases f with
  | next=>obtain⟨Y,β,I7,ε⟩:=L;exact again I7 ε
  | cont=>obtain⟨Y,β,I7,ε⟩:=L;exact again I7 ε
  | brk=>obtain⟨Y,β,I7,L⟩:=L;exact⟨Y,β,I7.unpinned,L⟩
  | ret v=>obtain⟨ν,Y,β,I7,r7,L⟩:=L;exact⟨ν,Y,β,I7.unpinned,r7,L⟩
end
theorem eQ {K:ak} {a:dt} {xs:ee V} {g:TG} {tb:TS} {D:Ends} {σ:St} {H:Hp} (L:Nat->St->Hp->Prop) (h0:L 0 σ H) (hl:∀i σ H,i<=xs.length->L i σ H->SqL K H a xs)
  (hs:∀i x σ H,xs[i]? =ag x->L i σ H->g x σ H fun ξ H2=>tb {D with nx:=L (i + 1),ct:=L (i + 1),bk:=D.nx} ξ H2) (hd:∀σ H,L xs.length σ H->D.nx σ H):
  ∃W:Nat->Nat->St->Hp->Prop,(∃m,W 0 m σ H)/\∀i m σ H,W i m σ H->
    ((Itl K a).stop i H/\D.nx σ H)∨((Itl K a).go i H/\∃N:St->Hp->Prop,(∀σ' H',N σ' H'->∃ω,ω < m/\W (i + 1) ω σ' H')/\∀x H',(Itl K a).yld i H x H'->g x σ H' fun ξ H2=>tb {D with nx:=N,ct:=N,bk:=D.nx} ξ H2):=by
 refine⟨λi m σ H=>m=xs.length - i/\i<=xs.length/\L i σ H,⟨xs.length,@F,VY _,h0⟩,?_⟩;rintro i m σ H ⟨rfl,hi,p⟩;have q:=hl i σ H hi p;by_cases O:i < xs.length
 ·refine .inr ⟨⟨xs,xs[i],q,by simp[O]⟩,L (i + 1),fun σ' H' Y=>⟨xs.length - (i + 1),by omega,rfl,O,Y⟩,λx H' y=>?_⟩;obtain⟨e,y⟩:=y;subst e;exact hs i x σ _ (y xs q) p
 ·have e:i=xs.length:=by omega
  subst e;exact .inl ⟨⟨xs,q,ov _⟩,hd σ H p⟩
theorem tO {K:ak} {a:dt} {xs:ee V} {g:TG} {tb:TS} {D:Ends} {σ:St} {H:Hp} (L:Nat->St->Hp->Prop) (h0:L 0 σ H) (hl:∀i σ H,i<=xs.length->L i σ H->SqT K H a xs)
  (hs:∀i x σ H,xs[i]? =ag x->L i σ H->g x σ H fun ξ H2=>tb {D with nx:=L (i + 1),ct:=L (i + 1),bk:=D.nx} ξ H2) (hd:∀σ H,L xs.length σ H->D.nx σ H):
  ∃W:Nat->Nat->St->Hp->Prop,(∃m,W 0 m σ H)/\∀i m σ H,W i m σ H->
    ((Itt K a).stop i H/\D.nx σ H)∨((Itt K a).go i H/\∃N:St->Hp->Prop,(∀σ' H',N σ' H'->∃ω,ω < m/\W (i + 1) ω σ' H')/\∀x H',(Itt K a).yld i H x H'->g x σ H' fun ξ H2=>tb {D with nx:=N,ct:=N,bk:=D.nx} ξ H2):=by
 refine⟨λi m σ H=>m=xs.length - i/\i<=xs.length/\L i σ H,⟨xs.length,@F,VY _,h0⟩,?_⟩;rintro i m σ H ⟨rfl,hi,p⟩;have q:=hl i σ H hi p;by_cases O:i < xs.length
 ·refine .inr ⟨⟨xs,xs[i],q,by simp[O]⟩,L (i + 1),fun σ' H' Y=>⟨xs.length - (i + 1),by omega,rfl,O,Y⟩,λx H' y=>?_⟩;obtain⟨e,y⟩:=y;subst e;exact hs i x σ _ (y xs q) p
 ·have e:i=xs.length:=by omega
  subst e;exact .inl ⟨⟨xs,q,ov _⟩,hd σ H p⟩
theorem lE {lo:Int} {n:Nat} {g:TG} {tb:TS} {D:Ends} {σ:St} {H:Hp} (O:Nat->St->Hp->Prop) (h0:O 0 σ H)
  (hs:∀i σ H,i < n->O i σ H->g (.int (lo + i)) σ H fun ξ H2=>tb {D with nx:=O (i + 1),ct:=O (i + 1),bk:=D.nx} ξ H2) (hd:∀σ H,O n σ H->D.nx σ H):
  ∃W:Nat->Nat->St->Hp->Prop,(∃m,W 0 m σ H)/\∀i m σ H,W i m σ H->
    ((Itr lo n).stop i H/\D.nx σ H)∨((Itr lo n).go i H/\∃N:St->Hp->Prop,(∀σ' H',N σ' H'->∃ω,ω < m/\W (i + 1) ω σ' H')/\∀x H',(Itr lo n).yld i H x H'->g x σ H' fun ξ H2=>tb {D with nx:=N,ct:=N,bk:=D.nx} ξ H2):=by
 refine⟨λi m σ H=>m=n - i/\i<=n/\O i σ H,⟨n,@F,VY _,h0⟩,?_⟩;rintro i m σ H ⟨rfl,hi,p⟩;by_cases L:i < n
 ·refine .inr ⟨L,O (i + 1),fun σ' H' Y=>⟨n - (i + 1),by omega,rfl,L,Y⟩,λx H' y=>?_⟩;obtain⟨e,y⟩:=y;subst e y;exact hs i σ _ L p
 ·have e:i=n:=by omega
  subst e;exact .inl ⟨ov _,hd σ H p⟩
noncomputable abbrev R2:=V->V->Hp->VK->Prop
def OpR (X:Cx) (f:ic->ic->Sem ic) (r:R2):Prop:=
 ∀(pins:CB) (s:hJ) (σ:St) (H:Hp) (x y:V) (v u:ic) (Q:VK),Inv X pins σ H s->RelV x v->RelV y u->r x y H Q->
  kn (px X.prog X.w) X.A (f v u) (EP X pins σ Q) X.xe s
def UnR (X:Cx) (f:ic->Sem ic) (r:V->Hp->VK->Prop):Prop:=
 ∀(pins:CB) (s:hJ) (σ:St) (H:Hp) (x:V) (v:ic) (Q:VK),Inv X pins σ H s->RelV x v->r x H Q->
  kn (px X.prog X.w) X.A (f v) (EP X pins σ Q) X.xe s
def n8 (X:Cx) (f:ic) (r:ee V->Hp->VK->Prop):Prop:=
 ∀(pins:CB) (s:hJ) (σ:St) (H:Hp) (xs:ee V) (us:CD) (Q:VK),Inv X pins σ H s->Vals xs us->r xs H Q->
  kn (px X.prog X.w) X.A (call f us) (EP X pins σ Q) X.xe s
noncomputable abbrev tOp (r:R2) (ta tb:TE):TE:=fun σ H Q=>ta σ H λx H1=>tb σ H1 λy H2=>r x y H2 Q
noncomputable abbrev tUn (r:V->Hp->VK->Prop) (ta:TE):TE:=fun σ H Q=>ta σ H λx H1=>r x H1 Q
noncomputable def rI (C:Int->Int->Prop) (g:Int->Int->V):R2:=λx y H Q=>∃i j,x= .int i/\y= .int j/\C i j/\Q (g i j) H
noncomputable def rI0 (g:Int->Int->V):R2:=λx y H Q=>∃i j,x= .int i/\y= .int j/\Q (g i j) H
noncomputable def rU (g:Int->V):V->Hp->VK->Prop:=λx H Q=>∃i,x= .int i/\Q (g i) H
section
variable {X:Cx} {a b c:L'} {ta tb tc:TE} {pos:Pos}
theorem binT (ha:PE X a ta) (hb:PE X b tb) {pins:CB} {s:hJ} {σ:St} {H:Hp} {R:V->V->Hp->Prop} (I:Inv X pins σ H s)
  (h:ta σ H λx H1=>tb σ H1 λy H2=>R x y H2) {Q:C'} {f:ic->ic->Sem ic}
  (hf:∀v u O x y H2,Inv X pins σ H2 O->RelV x v->RelV y u->R x y H2->kn (px X.prog X.w) X.A (f v u) Q X.xe O):
  kn (px X.prog X.w) X.A (eval a X.env) (λv L=>kn (px X.prog X.w) X.A (eval b X.env) (λu δ=>kn (px X.prog X.w) X.A (f v u) Q X.xe δ) X.xe L) X.xe s:=by
 refine thn (ha pins s σ H _ I h) λv Y ⟨x,H1,γ,Z,α⟩=>?_;refine thn (hb pins Y σ H1 _ γ α) λu O ⟨y,H2,β,η,θ⟩=>?_;exact hf v u O x y H2 β Z η θ
theorem ax {L:Operator} {r:R2} (ho:OpR X (binaryOp L) r) (ha:PE X a ta) (hb:PE X b tb):PE X (.BinOp a L b pos) (tOp r ta tb):=by
 intro pins s σ H Q I h;exact wpAny_BinOp (binT ha hb I h λv u O x y H2 α Z Y q=>ho pins O σ H2 x y v u Q α Z Y q)
theorem N0 {L:UnaryOp} {r:V->Hp->VK->Prop} (ho:UnR X (unaryOp L) r) (ha:PE X a ta):PE X (.UnaryOp L a pos) (tUn r ta):=by
 intro pins s σ H Q I h;exact UnaryOp_ (thn (ha pins s σ H _ I h) λv O ⟨x,H1,α,Y,Z⟩=>ho pins O σ H1 x v Q α Y Z)
theorem opI {f:ic->ic->Sem ic} {C:Int->Int->Prop} {g:Int->Int->Int}
  (rule:∀(i j:Int) (t u:Tok) (s:hJ) (Q:C') (E:C'),C i j->Q (.int (g i j) s.toks) {s with toks:=s.toks + 1}->kn (px X.prog X.w) X.A (f (.int i t) (.int j u)) Q E s):
  OpR X f (rI C λi j=> .int (g i j)):=by
 intro pins s σ H x y v u Q I O L h;obtain⟨i,j,rfl,rfl,Y,q⟩:=h;obtain⟨t,rfl⟩:=O;obtain⟨t',rfl⟩:=L;exact rule i j t t' s _ _ Y ⟨.int (g i j),H,I.tok _,⟨_,rfl⟩,q⟩
theorem opI0 {f:ic->ic->Sem ic} {g:Int->Int->Int}
  (rule:∀(i j:Int) (t u:Tok) (s:hJ) (Q:C') (E:C'),Q (.int (g i j) s.toks) {s with toks:=s.toks + 1}->kn (px X.prog X.w) X.A (f (.int i t) (.int j u)) Q E s):
  OpR X f (rI0 λi j=> .int (g i j)):=by
 intro pins s σ H x y v u Q I O L h;obtain⟨i,j,rfl,rfl,q⟩:=h;obtain⟨t,rfl⟩:=O;obtain⟨t',rfl⟩:=L;exact rule i j t t' s _ _ ⟨.int (g i j),H,I.tok _,⟨_,rfl⟩,q⟩
theorem opB0 {f:ic->ic->Sem ic} {g:Int->Int->V6}
  (rule:∀(i j:Int) (t u:Tok) (s:hJ) (Q:C') (E:C'),Q (.bool (g i j)) s->kn (px X.prog X.w) X.A (f (.int i t) (.int j u)) Q E s):
  OpR X f (rI0 λi j=> .bl (g i j)):=by
 intro pins s σ H x y v u Q I O L h;obtain⟨i,j,rfl,rfl,q⟩:=h;obtain⟨t,rfl⟩:=O;obtain⟨t',rfl⟩:=L;exact rule i j t t' s _ _ ⟨.bl (g i j),H,I,rfl,q⟩
def CDiv (i j:Int):Prop:=0 < j/\j < 1073741824
def VP (i j:Int):Prop:=j≠0/\j.natAbs < 1073741824
def CPow (i j:Int):Prop:=0<=j/\j<=1000000/\i.natAbs < 2 ^ 64
def CMul (i j:Int):Prop:=(-(2 ^ 64) < i/\i < 2 ^ 64)∨(-(2 ^ 64) < j/\j < 2 ^ 64)
theorem CMul.ok {i j:Int} (h:CMul i j):IntMulOk i j:=by
 rcases h with ⟨h1,h2⟩ | ⟨h1,h2⟩
 ·exact .of_left (intBits_le_64 h1 h2)
 ·exact .of_right (intBits_le_64 h1 h2)
theorem F4 (k:Nat):(0:Int)<=2 ^ k:=by
 rw[two_pow_cast];exact Zq _
theorem cE:OpR X (binaryOp .Add) (rI0 λi j=> .int (i + j)):=opI0 λ_ _ _ _ _ _ _ q=>add_int q
theorem lh:OpR X (binaryOp .Sub) (rI0 λi j=> .int (i - j)):=opI0 λ_ _ _ _ _ _ _ q=>sub_int q
theorem oV:OpR X (binaryOp .Mult) (rI CMul λi j=> .int (i * j)):=opI λ_ _ _ _ _ _ _ hc q=>mul_int q hc.ok
theorem vJ:OpR X (binaryOp .FloorDiv) (rI CDiv λi j=> .int (i / j)):=opI λi j _ _ _ _ _ hc q=>by
 have h1:(0:Int) < j:=hc.1;have h2:j < 1073741824:=hc.2;exact floordiv_int @A (by rw[ac4 i @A];exact q) (.inl (PyProof.noPylong_small @A))
theorem cP:OpR X (binaryOp .Mod) (rI (λ_ j=>0 < j) λi j=> .int (i % j)):=opI λi j _ _ _ _ _ hc q=>by
 have h1:(0:Int) < j:=hc;exact mod_int' @A (by rw[Int.fmod_eq_emod_of_nonneg i @A];exact q)
theorem TM:OpR X (binaryOp .Pow) (rI CPow λi j=> .int (i ^ j.toNat)):=opI λ_ _ _ _ _ _ _ hc q=>pow_int_small hc.1 hc.2.1 hc.2.2 q
theorem gS:OpR X (binaryOp .LShift) (rI CPow λi j=> .int (i * 2 ^ j.toNat)):=opI λ_ _ _ _ _ _ _ hc q=>lshift_int_small hc.1 hc.2.1 hc.2.2 q
theorem yX:OpR X (binaryOp .RShift) (rI (λ_ j=>0<=j) λi j=> .int (i / 2 ^ j.toNat)):=opI λi j _ _ _ _ _ hc q=>
 rshift_int hc (by rw[ac4 i (F4 _)];exact q)
theorem nG:OpR X (binaryOp .BitAnd) (rI0 λi j=> .int (WG i j)):=opI0 λ_ _ _ _ _ _ _ q=>and_int q
theorem mB:OpR X (binaryOp .BitXor) (rI0 λi j=> .int (V4 i j)):=opI0 λ_ _ _ _ _ _ _ q=>xor_int q
theorem unI {f:ic->Sem ic} {g:Int->Int}
  (rule:∀(i:Int) (t:Tok) (s:hJ) (Q:C') (E:C'),Q (.int (g i) s.toks) {s with toks:=s.toks + 1}->kn (px X.prog X.w) X.A (f (.int i t)) Q E s):
  UnR X f (rU λi=> .int (g i)):=by
 intro pins s σ H x v Q I L h;obtain⟨i,rfl,q⟩:=h;obtain⟨t,rfl⟩:=L;exact rule i t s _ _ ⟨.int (g i),H,I.tok _,⟨_,rfl⟩,q⟩
theorem E3:UnR X (unaryOp .USub) (rU λi=> .int (-i)):=unI λ_ _ _ _ _ q=>neg_int q
end
noncomputable def scal:V->V->V6
 | .non,.non=>true | .non,.int _=>true | .int _,.non=>true | .non,.bl _=>true | .bl _,.non=>true | .non,.str _=>true | .str _,.non=>true
 | .int _,.int _=>true | .bl _,.bl _=>true | .str _,.str _=>true | .byt _,.byt _=>true
 | .int _,.str _=>true | .str _,.int _=>true | .bl _,.str _=>true | .str _,.bl _=>true
 | _,_=>false
noncomputable def rEq:R2:=λx y H Q=>scal x y=true/\Q (.bl (decide (x=y))) H
noncomputable def rNe:R2:=λx y H Q=>scal x y=true/\Q (.bl (!decide (x=y))) H
theorem L6 {i j:Int}:decide (V.int i=V.int j)=(i == j):=by
 rw[Wz];simp
theorem Pz {i j:V6}:decide (V.bl i=V.bl j)=(i == j):=by
 rw[Wz];simp
theorem L5 {i j:mu}:decide (V.str i=V.str j)=(i == j):=by
 rw[Wz];simp
theorem L7 {i j:ai2 UInt8}:decide (V.byt i=V.byt j)=(i.toList == j.toList):=by
 rw[Wz];cases i;cases j;simp
section
variable {X:Cx} {a b c:L'} {ta tb tc:TE} {pos:Pos}
theorem cW {pins:CB} {σ:St} {H:Hp} {s:hJ} {Q:VK} {k ρ:V6} (I:Inv X pins σ H s) (q:Q (.bl k) H) (e:k=ρ):EP X pins σ Q (.bool ρ) s:=by
 subst e;exact⟨.bl k,H,I,rfl,q⟩
theorem mR:OpR X (compareOp .Eq) rEq:=by
 intro pins s σ H x y v u Q I O L h;obtain⟨hs,q⟩:=h;cases x with
 | non=>
   cases O;cases y with
   | non=>cases L;exact PySem.EqNone.eq_none_none (cW I q @F)
   | bl j=>cases L;exact PySem.EqNone.eq_none_bool (cW I q @F)
   | int j=>obtain⟨t',rfl⟩:=L;exact PySem.EqNone.eq_none_int (cW I q @F)
   | str j=>obtain⟨t',rfl⟩:=L;exact PySem.EqNone.eq_none_str (cW I q @F)
   | _=>exact hB (show false=true from hs) iv
 | bl i=>
   cases O;cases y with
   | non=>cases L;exact PySem.EqNone.eq_bool_none (cW I q @F)
   | bl j=>cases L;exact eq_bool (cW I q Pz)
   | str j=>obtain⟨t',rfl⟩:=L;exact PySem.EqMixed.eq_bool_str (cW I q @F)
   | _=>exact hB (show false=true from hs) iv
 | int i=>
   obtain⟨t,rfl⟩:=O;cases y with
   | non=>cases L;exact PySem.EqNone.eq_int_none (cW I q @F)
   | int j=>obtain⟨t',rfl⟩:=L;exact eq_int (cW I q L6)
   | str j=>obtain⟨t',rfl⟩:=L;exact PySem.EqMixed.eq_int_str (cW I q @F)
   | _=>exact hB (show false=true from hs) iv
 | str i=>
   obtain⟨t,rfl⟩:=O;cases y with
   | non=>cases L;exact PySem.EqNone.eq_str_none (cW I q @F)
   | bl j=>cases L;exact PySem.EqMixed.eq_str_bool (cW I q @F)
   | int j=>obtain⟨t',rfl⟩:=L;exact PySem.EqMixed.eq_str_int (cW I q @F)
   | str j=>obtain⟨t',rfl⟩:=L;exact eq_str (cW I q L5)
   | _=>exact hB (show false=true from hs) iv
 | byt i=>
   obtain⟨t,rfl⟩:=O;cases y with
   | byt j=>obtain⟨t',rfl⟩:=L;exact PySem.W.eq_bytes (cW I q L7)
   | _=>exact hB (show false=true from hs) iv
 | _=>cases y<;>exact hB (show false=true from hs) iv
theorem zM:OpR X (compareOp .NotEq) rNe:=by
 intro pins s σ H x y v u Q I O L h;obtain⟨hs,q⟩:=h;cases x with
 | non=>
   cases O;cases y with
   | non=>cases L;exact PySem.EqNone.ne_none_none (cW I q @F)
   | bl j=>cases L;exact PySem.EqNone.ne_none_bool (cW I q @F)
   | int j=>obtain⟨t',rfl⟩:=L;exact PySem.EqNone.ne_none_int (cW I q @F)
   | str j=>obtain⟨t',rfl⟩:=L;exact PySem.EqNone.ne_none_str (cW I q @F)
   | _=>exact hB (show false=true from hs) iv
 | bl i=>
   cases O;cases y with
   | non=>cases L;exact PySem.EqNone.ne_bool_none (cW I q @F)
   | bl j=>cases L;exact ne_bool (cW I q (ri not Pz))
   | str j=>obtain⟨t',rfl⟩:=L;exact PySem.EqMixed.ne_bool_str (cW I q @F)
   | _=>exact hB (show false=true from hs) iv
 | int i=>
   obtain⟨t,rfl⟩:=O;cases y with
   | non=>cases L;exact PySem.EqNone.ne_int_none (cW I q @F)
   | int j=>obtain⟨t',rfl⟩:=L;exact ne_int (cW I q (ri not L6))
   | str j=>obtain⟨t',rfl⟩:=L;exact PySem.EqMixed.ne_int_str (cW I q @F)
   | _=>exact hB (show false=true from hs) iv
 | str i=>
   obtain⟨t,rfl⟩:=O;cases y with
   | non=>cases L;exact PySem.EqNone.ne_str_none (cW I q @F)
   | bl j=>cases L;exact PySem.EqMixed.ne_str_bool (cW I q @F)
   | int j=>obtain⟨t',rfl⟩:=L;exact PySem.EqMixed.ne_str_int (cW I q @F)
   | str j=>obtain⟨t',rfl⟩:=L;exact ne_str (cW I q (ri not L5))
   | _=>exact hB (show false=true from hs) iv
 | byt i=>
   obtain⟨t,rfl⟩:=O;cases y with
   | byt j=>obtain⟨t',rfl⟩:=L;exact PySem.W.ne_bytes (cW I q (ri not L7))
   | _=>exact hB (show false=true from hs) iv
 | _=>cases y<;>exact hB (show false=true from hs) iv
theorem DJ:OpR X (compareOp .Lt) (rI0 λi j=> .bl (decide (i < j))):=opB0 λ_ _ _ _ _ _ _ q=>lt_int q
theorem Vy:OpR X (compareOp .LtE) (rI0 λi j=> .bl (decide (i<=j))):=opB0 λ_ _ _ _ _ _ _ q=>le_int q
theorem qZ:OpR X (compareOp .Gt) (rI0 λi j=> .bl (decide (j < i))):=opB0 λ_ _ _ _ _ _ _ q=>gt_int q
theorem QZ:OpR X (compareOp .GtE) (rI0 λi j=> .bl (decide (j<=i))):=opB0 λ_ _ _ _ _ _ _ q=>ge_int q
theorem Bf:OpR X (compareOp .In) (λx y H Q=>∃i j,x= .str i/\y= .str j/\Q (.bl (!(Yn j i 0 j.length 1).isEmpty)) H):=by
 intro pins s σ H x y v u Q I O L h;obtain⟨i,j,rfl,rfl,q⟩:=h;obtain⟨t,rfl⟩:=O;obtain⟨t',rfl⟩:=L;exact in_str (cW I q rfl)
theorem QY:OpR X (compareOp .IsNot) (λx y H Q=>y= .non/\Q (.bl (!decide (x= .non))) H):=by
 intro pins s σ H x y v u Q I L O h;obtain⟨rfl,q⟩:=h;cases O;refine isnot_none_gen (cW I q ?_)
 cases x<;>first
  | (cases L;rfl)
  | (obtain⟨t,rfl⟩:=L;rfl)
theorem aU (b:L') {L:CmpOp} (h:L≠.In:=by decide) (h2:L≠.NotIn:=by decide):behindInMarks L b=false:=by
 have Y:(L == CmpOp.In)=false:=by cases L<;>first | rfl | exact hB rfl h
 have O:(L == CmpOp.NotIn)=false:=by cases L<;>first | rfl | exact hB rfl h2
 cases b<;>simp[behindInMarks,Y,O]
theorem gb {L:CmpOp} {r:R2} (ho:OpR X (compareOp L) r) (ha:PE X a ta) (hb:PE X b tb) (hm:behindInMarks L b=false):PE X (.Compare a [L] [b] pos) (tOp r ta tb):=by
 intro pins s σ H Q I h;exact wpAny_Compare1 (binT ha hb I h λv u O x y H2 α Z Y q=>ho pins O σ H2 x y v u Q α Z Y q) hm
noncomputable abbrev U8 (t:TE):TT:=fun σ H Q=>t σ H λx H'=>∃k,x= .bl k/\Q k H'
theorem aJ {L:CmpOp} {r:R2} (ho:OpR X (compareOp L) r) (ha:PE X a ta) (hb:PE X b tb) (hm:behindInMarks L b=false):PT X (.Compare a [L] [b] pos) (U8 (tOp r ta tb)):=by
 intro pins s σ H Q I h
 refine ak1 (thn (ha pins s σ H _ I h) λv Y ⟨x,H1,ε,Z,β⟩=>thn (hb pins Y σ H1 _ ε β) λu O ⟨y,H2,δ,η,θ⟩=>
  thn (ho pins O σ H2 x y v u _ δ Z η θ) λc ι ⟨z,ζ,γ,ψ,k,e,α⟩=>?_) hm
 subst e;cases ψ;exact WX ⟨ζ,γ,α⟩
theorem Fw:(ix:Nat) < 2 ^ 63:=by rw[lT];decide
theorem iz:OpR X (binaryOp .Add) (λx y H Q=>∃i j,x= .str i/\y= .str j/\i.length + j.length<=ix/\Q (.str (i++j)) H):=by
 intro pins s σ H x y v u Q I O L h;obtain⟨i,j,rfl,rfl,hz,q⟩:=h;obtain⟨t,rfl⟩:=O;obtain⟨t',rfl⟩:=L;exact add_str (λt' tk=>⟨.str (i++j),H,I.tok _,⟨_,rfl⟩,q⟩) hz
theorem xH {x:V} {us:CD} (r:Vals [x] us):∃u,us=[u]/\RelV x u:=by
 cases r with
 | cons L η=>cases η;exact⟨_,rfl,L⟩
theorem IY {x y:V} {us:CD} (r:Vals [x,y] us):∃u L,us=[u,L]/\RelV x u/\RelV y L:=by
 cases r with
 | cons Y η=>
   cases η with
   | cons ψ O=>cases O;exact⟨_,_,rfl,Y,ψ⟩
theorem kB:n8 X (.type "str") (λxs H Q=>∃i,xs=[.int i]/\i.natAbs.log2 < 1920/\Q (.str (toString i)) H):=by
 intro pins s σ H xs us Q I r h;obtain⟨i,rfl,hz,q⟩:=h;obtain⟨u,rfl,t,rfl⟩:=xH r;exact PySem.P.str_of_int hz ⟨.str _,H,I.tok _,⟨_,rfl⟩,q⟩
def LenV (K:ak) (x:V) (H:Hp) (n:Nat):Prop:=
 match x with
 | .str y=>y.length<=ix/\n=y.length
 | .byt y=>y.size<=ix/\n=y.size
 | .ref p=>(∃xs,SqL K H p xs/\n=xs.length)∨∃xs,SqT K H p xs/\n=xs.length
 | _=>False
theorem OF:n8 X (.builtin "len") (λxs H Q=>∃x n,xs=[x]/\LenV X.K x H n/\Q (.int n) H):=by
 intro pins s σ H xs us Q I r h;obtain⟨x,n,rfl,e,q⟩:=h;obtain⟨u,rfl,Y⟩:=xH r;have hl:=Fw;have hs:ix=16777216:=lT;cases x with
 | str y=>
   obtain⟨t,rfl⟩:=Y;obtain⟨α,O⟩:y.length<=ix/\n=y.length:=e;subst O;exact len_str @A ⟨.int _,H,I.tok _,⟨_,rfl⟩,q⟩
 | byt y=>
   obtain⟨t,rfl⟩:=Y;obtain⟨α,O⟩:y.size<=ix/\n=y.size:=e;subst O;exact PySem.W.len_bytes @A ⟨.int _,H,I.tok _,⟨_,rfl⟩,q⟩
 | ref p=>
   cases Y;have O:(∃xs,SqL X.K H p xs/\n=xs.length)∨∃xs,SqT X.K H p xs/\n=xs.length:=e;rcases O with ⟨xs,Z,O⟩ | ⟨xs,Z,O⟩
   ·subst O;obtain⟨its,r',pl,hz⟩:=I.list Z;have L:=r'.length;exact Calls.call_len_list pl.isList (by simp only[x3];omega) ⟨.int xs.length,H,I.tok _,⟨_,by simp only[x3];rw[L]⟩,q⟩
   ·subst O;obtain⟨its,r',pl,hz⟩:=I.tuple Z;have L:=r'.length;exact len_tuple pl (by simp only[x3];omega) ⟨.int xs.length,H,I.tok _,⟨_,by simp only[x3];rw[L]⟩,q⟩
 | _=>exact(show False from e).elim
end
structure ObjM (h:N') (x dx C:dt) (mA:CM):Prop where
 obj:h.get? x=ag (WM C dx)
 ns:h.Ns1 dx mA
 ne:dx≠x
theorem Bw {h:N'} {dx:dt} {mA:CM} (n:h.Ns1 dx mA):∃od,h.get? dx=ag od/\∀name,Yh name od=ag (mA name):=by
 obtain⟨o,es,ep,ho,hd,hk,_,hm⟩:=n;refine⟨o,ho,λname=>?_⟩;have e:=hm name;unfold nsFind findBy at e;rw[<-Array.find?_toList] at e;unfold Yh;rw[hd];dsimp only;split
 ·rename_i y q;rw[q] at e;exact ri ag e
 ·rename_i q;rw[q] at e
  have a:es.toList.any (·.refKey)=false:=by
   rw[List.any_eq_false];intro y O;obtain⟨z,t,L⟩:=hk y (Array.mem_toList_iff.mp O);simp[DictEntry.refKey,L]
  have Y:¬es.toList.any (·.refKey)=true:=by rw[a];exact iv
  rw[n' Y];exact ri ag e
theorem ObjM.look {h:N'} {x dx C:dt} {mA:CM} (I:ObjM h x dx C mA):∃od,Yi h x (WM C dx) C (ag od)/\∀name,Yh name od=ag (mA name):=
 let ⟨od,ho,hl⟩:=Bw I.ns
 ⟨od,⟨I.obj,rfl,rfl,ho⟩,hl⟩
section
variable {prog:oT} {w:w7} {A:z5} {E:C'} {s:hJ} {K:ak} {x dx C f:dt} {mA:CM} {name:mu} {v:ic}
theorem aF {Y:V6} {Q:C'} (X:K.In s.heap) (I:ObjM s.heap x dx C mA) (Z:Yv K C name=true) (ζ:Xb K C=true)
  (ha:wh K (.ref C) name=ag fy) (O:mA name=ag v) (L:Yw v=true) (h:Q v {s with toks:=s.toks + 1}):
  kn (px prog w) A (getAttr (.ref x) name Y) Q E s:=by
 obtain⟨od,J,hl⟩:=I.look;exact PySem.W.get_value X J (YT Z).1 (ae6 ζ ha rfl (by rw[hl,O])) L h
theorem Oj {pl:Sem V6} {Q:ic×ee ic->hJ->Prop} (X:K.In s.heap) (I:ObjM s.heap x dx C mA) (L:Yv K C name=true)
  (hf:wh K (.ref C) name=ag (ag (.ref f))) (ht:Zd K (.ref f)=true) (O:mA name=fy) (h:Q (.ref f,[.ref x]) s):
  kn (px prog w) A (getMethod (.ref x) name pl) Q E s:=by
 obtain⟨od,J,hl⟩:=I.look;exact PySem.W.method_fn X J (YT L).1 (YT L).2 hf (XN.mp ht) (by show(Yh name od).map (·.isSome)=ag false;rw[hl,O];rfl) h
theorem Qy {ns:B1} {Q:D'} (X:K.In s.heap) (I:ObjM s.heap x dx C mA)
  (hs:wh K (.ref C) "__setattr__"=ag (ag (.builtin "object.__setattr__"))) (hp:ag5 K C=true) (ht:ZI K C name=ag fy) (ζ:Xb K C=true)
  (hw:ad6 mA ns) (hsz:ns.length<=ix)
  (h:∀h',ObjM h' x dx C (λy=>if y=name then ag v else mA y)->YH dx s.heap h'->Q () {s with heap:=h',toks:=s.toks + 2}):
  kn (px prog w) A (setAttr (.ref x) name v) Q E s:=by
 obtain⟨od,J,hl⟩:=I.look;refine ag4 X J hs (PySem.W.osa_open (s:={s with toks:=s.toks + 1}) (r:=fy) X J hp ht λb=>?_);obtain⟨ε,α,ι⟩:=PySem.W.any_some ζ;have Z:s.heap.get? x=ag ⟨.ref C,ag dx,.plain,#[]⟩:=I.obj;refine ec (hH (ec (ec (af4 Z (ec (aa6 (s:={s with toks:=s.toks + 1}) (YU X α) ?_))))));rw[ι];refine hH (a:=ag dx) (ec (hH (ec ?_)));refine wpAny_nsSet1 (s:={s with toks:=s.toks + 1}) I.ns λh' O L=>?_;obtain⟨δ,β,γ,φ,ω,Y⟩:=O.count (PySem.Within.cons name v hw);refine ec (wpAny_lookBehind φ (by rw[ω];exact pastItsLine_dict (WK Y (by rw[V1];omega))) ?_);exact hH (h _ ⟨(L.2 _ (Wf I.ne)).trans I.obj,O,I.ne⟩ L)
theorem Fv {R:HB} {vs:CD} {kw:J2} (X:K.In s.heap) (hm:ai6 K C=true)
  (hi:wh K (.ref C) "__init__"=ag (ag (.ref f))) (hf:YM K (.ref f)=ag (.type "function"))
  (h:codeAny (px prog w) (A.under (.builtin "type.__call__" ⟨.ref C::vs,kw⟩)) (.call (.ref f) ⟨.ref (s.heap.objs.size + 1)::vs,kw⟩) (PySem.W.InitBack (s.heap.objs.size + 1) R)
   {s with heap:=(s.heap.push Wv).push (WM C s.heap.objs.size)}):
  codeAny (px prog w) A (.call (.ref C) ⟨vs,kw⟩) R s:=by
 obtain⟨ζ,g,d,t,os⟩:=s;exact PySem.W.make_core (PySem.W.makes_of X hm) (Xh X hi) (λself=>PySem.W.bind_fn X self hf) (.inl rfl) h
end
noncomputable def putF (f:mu) (v:V):ee (mu×V)->ee (mu×V)
 | []=>[(f,v)]
 | (g,x)::r=>if g=f then (g,v)::r else (g,x)::putF f v r
theorem wx (f g:mu) (v:V):∀fs:ee (mu×V),(putF f v fs).lookup g=if g=f then ag v else fs.lookup g
 | []=>by
   show Xl g [(f,v)]=_;by_cases h:g=f
   ·have hb:(g == f)=true:=XN.mpr h;simp only[Xl,hb,qq h]
   ·have hb:(g == f)=false:=z0.mpr h;simp only[Xl,hb,n' h]
 | (k,x)::r=>by
   have ih:=wx f g v r;rw[show putF f v ((k,x)::r)=(if k=f then (k,v)::r else (k,x)::putF f v r) from rfl];by_cases hk:k=f
   ·rw[qq hk];by_cases h:g=k
    ·have hb:(g == k)=true:=XN.mpr h;simp only[Xl,hb,qq (h.trans hk)]
    ·have hb:(g == k)=false:=z0.mpr h;simp only[Xl,hb,n' (λe:g=f=>h (e.trans hk.symm))]
   ·rw[n' hk];by_cases h:g=k
    ·have hb:(g == k)=true:=XN.mpr h;simp only[Xl,hb,n' (λe:g=f=>hk (h.symm.trans e))]
    ·have hb:(g == k)=false:=z0.mpr h;simp only[Xl,hb];exact ih
theorem wJ (f:mu) (v:V):∀fs:ee (mu×V),f∈(putF f v fs).map (·.1)/\∀g,g∈fs.map (·.1)->g∈(putF f v fs).map (·.1)
 | []=>⟨by simp[putF],λg h=>by simp at h⟩
 | (k,x)::r=>by
   obtain⟨i1,i2⟩:=wJ f v r;rw[show putF f v ((k,x)::r)=(if k=f then (k,v)::r else (k,x)::putF f v r) from rfl];by_cases hk:k=f
   ·rw[qq hk];subst hk;exact⟨@F,λg h=>by simpa using h⟩
   ·rw[n' hk];refine⟨?_,λg h=>?_⟩
    ·rw[W5];exact z4 _ i1
    ·rw[W5] at h ⊢;rcases xY.mp h with e | e
     ·exact xY.mpr (.inl e)
     ·exact z4 _ (i2 g e)
theorem wz (f:mu) (v:V):∀fs:ee (mu×V),(putF f v fs).length<=fs.length + 1
 | []=>by simp[putF]
 | (k,x)::r=>by
   have ih:=wz f v r;rw[show putF f v ((k,x)::r)=(if k=f then (k,v)::r else (k,x)::putF f v r) from rfl];by_cases hk:k=f
   ·rw[qq hk,V1,V1];omega
   ·rw[n' hk,V1,V1];omega
theorem RelO.some_of {v:V} {o:J5} (r:RelO (ag v) o):∃u,o=ag u/\RelV v u:=by
 cases o with
 | none=>exact(show False from r).elim
 | some u=>exact⟨u,rfl,r⟩
theorem RelO.none_of {o:J5} (r:RelO fy o):o=none:=by
 cases o with
 | none=>rfl
 | some u=>exact(show False from r).elim
theorem BK {v:V} {u:ic} (r:RelV v u):Yw u=true:=by
 cases v with
 | non=>cases(show u=Wy from r);rfl
 | bl b=>cases(show u=ah3 b from r);rfl
 | int i=>obtain⟨t,e⟩:=(show ∃t,u=ac9 i t from r);cases e;rfl
 | str x=>obtain⟨t,e⟩:=(show ∃t,u=YW x t from r);cases e;rfl
 | byt b=>obtain⟨t,e⟩:=(show ∃t,u=ao1 b t from r);cases e;rfl
 | flt b=>obtain⟨t,e⟩:=(show ∃t,u=ao0 b t from r);cases e;rfl
 | ref a=>cases(show u=sb a from r);rfl
 | ty n=>cases(show u=Yl n from r);rfl
section
variable {P:oT} {w:w7} {H H':Hp} {h h':N'} {a C dx:dt} {fs fs':ee (mu×V)}
theorem Ei (hok:HOk P w H h) (e:H a=ag (.ins C dx fs)):∃mA,ObjM h a dx C mA/\(∀f,RelO (fs.lookup f) (mA f))/\ad6 mA (fs.map (·.1))/\fs.length<=1000/\H dx=ag (.own a):=by
 obtain⟨d,z,ne,ob,mA,n,r,q⟩:=(show gj P w H h a (.ins C dx fs) from hok a _ e);exact⟨mA,⟨ob,n,ne⟩,r,q,z,d⟩
end
structure Cls (K:ak) (C:dt):Prop where
 pg:Yv K C Yo=true
 hd:Xb K C=true
 po:ag5 K C=true
 sa:wh K (.ref C) "__setattr__"=ag (ag (.builtin "object.__setattr__"))
theorem Cls.get {K:ak} {C:dt} (c:Cls K C) (f:mu):Yv K C f=true:=c.pg
def bF (K:ak) (C:dt) (f:mu):Prop:=wh K (.ref C) f=ag fy
theorem bF.taker {K:ak} {C:dt} {f:mu} (n:bF K C f):ZI K C f=ag none:=by
 unfold ZI;rw[show wh K (.ref C) f=ag fy from n];rfl
structure Con (K:ak) (C:dt) (f:mu) (v:V) (u:ic):Prop where
 at_:wh K (.ref C) f=ag (ag u)
 rel:RelV v u
 get:Xa K u "__get__"=ag fy
 cp:PySem.W.copiedNames.contains f=false
structure Meth (K:ak) (C:dt) (m:mu) (f:dt):Prop where
 at_:wh K (.ref C) m=ag (ag (.ref f))
 fn:Zd K (.ref f)=true
 kp:W3 K (.ref f)=true
section
variable {X:Cx} {pins:CB} {σ:St} {H:Hp} {s:hJ} {a C dx:dt} {fs:ee (mu×V)} {f:mu} {v:V} {A:z5} {E:C'}
theorem Hy {b:V6} {Q:C'} (I:Inv X pins σ H s) (e:H a=ag (.ins C dx fs)) (c:Cls X.K C) (n:bF X.K C f) (l:fs.lookup f=ag v)
  (h:∀u s',Inv X pins σ H s'->RelV v u->Q u s'):kn (px X.prog X.w) A (getAttr (.ref a) f b) Q E s:=by
 obtain⟨mA,O,r,_,_,_⟩:=Ei I.hok e;obtain⟨u,Y,L⟩:=RelO.some_of (v:=v) (o:=mA f) (by rw[<-l];exact r f);exact aF I.kIn O (c.get f) c.hd n Y (BK L) (h u _ (I.tok _) L)
theorem tL {m:mu} {g:dt} {pl:Sem V6} {Q:ic×ee ic->hJ->Prop} (I:Inv X pins σ H s) (e:H a=ag (.ins C dx fs)) (c:Cls X.K C) (k:Meth X.K C m g) (l:fs.lookup m=fy)
  (h:Q (.ref g,[.ref a]) s):kn (px X.prog X.w) A (getMethod (.ref a) m pl) Q E s:=by
 obtain⟨mA,O,r,_,_,_⟩:=Ei I.hok e;have hn:mA m=none:=RelO.none_of (by rw[<-l];exact r m);exact Oj I.kIn O (c.get m) k.at_ k.fn hn h
theorem Gu {y:V} {u:ic} {Q:D'} (I:Inv X pins σ H s) (e:H a=ag (.ins C dx fs)) (c:Cls X.K C) (n:bF X.K C f) (hl:fs.length < 1000) (Y:RelV y u)
  (h:∀s',Inv X pins σ (upd H a (.ins C dx (putF f y fs))) s'->Q () s'):kn (px X.prog X.w) A (setAttr (.ref a) f u) Q E s:=by
 obtain⟨mA,O,r,L,_,ho⟩:=Ei I.hok e;have hz:(fs.map (·.1)).length<=sizeLine:=by rw[a',lT];omega
 refine Qy I.kIn O c.sa c.po n.taker c.hd L hz λh' O' χ=>h _ ?_;have hd:∃o,h'.get? dx=ag o:=let ⟨o,_,_,α,_⟩:=O'.ns;⟨o,α⟩
 refine I.write (x:=a) (e:=dx) (by rw[e];exact XZ) (.inr ho) (λb q hb z=>(χ.2 b hb).trans z) hd ?_;refine⟨by rw[aE O.ne];exact ho,?_,O.ne,O'.obj,_,O'.ns,λg=>?_,λg Z=>?_⟩
 ·have:=wz f y fs;omega
 ·show RelO ((putF f y fs).lookup g) (if g=f then ag u else mA g);rw[wx];by_cases q:g=f
  ·rw[qq q,qq q];exact Y
  ·rw[n' q,n' q];exact r g
 ·by_cases q:g=f
  ·rw[q];exact(wJ f y fs).1
  ·refine(wJ f y fs).2 g (L g λz=>Z ?_);show(if g=f then ag u else mA g)=fy;rw[n' q];exact z
theorem Inv.made (I:Inv X pins σ H s):Inv X pins σ (upd (upd H s.heap.objs.size (.own (s.heap.objs.size + 1))) (s.heap.objs.size + 1) (.ins C s.heap.objs.size []))
  {s with heap:=(s.heap.push Wv).push (WM C s.heap.objs.size)}:=by
 have L:(s.heap.push Wv).get? s.heap.objs.size=ag PySem.W.emptyDict:=kv s.heap rfl
 have Z:((s.heap.push Wv).push (WM C s.heap.objs.size)).get? (s.heap.objs.size + 1)=ag (WM C s.heap.objs.size):=by
  have:=kv (s.heap.push Wv) (o:=WM C s.heap.objs.size) rfl;rwa [XM] at this
 have Y:(s.heap.push Wv).Ns s.heap.objs.size (λ_=>fy):=⟨Wv,#[],_,L,rfl,(λe he=>hB he @F),λ_=>rfl⟩;have I1:=I.laid (a:=s.heap.objs.size) (o:= .own (s.heap.objs.size + 1)) (h':=s.heap.push Wv) (t':=s.toks) (λb u q=>eH _ q) (ov _) ⟨_,L⟩;refine I1.laid (a:=s.heap.objs.size + 1) (o:= .ins C s.heap.objs.size []) (t':=s.toks) (λb u q=>eH _ q) (Nat.le_of_eq (XM _ _)) ?_;have ne:s.heap.objs.size≠s.heap.objs.size + 1:=z3 (WH _);refine⟨by rw[aE ne,aD],VY _,ne,Z,λ_=>fy,(af9 Y).at λo q=>eH _ q,λ_=>XZ,λy O=>hB rfl O⟩
theorem Mn {prog:oT} {w:w7} {env:Env} {e:L'} {f:mu} {pos:Pos} {s:hJ} {Q:C'} (hb:attributeBase e f env (eval e env)=eval e env)
  (h:kn (px prog w) A (eval e env) (λo L=>kn (px prog w) A (getAttr o f true) Q E L) E s):kn (px prog w) A (eval (.Attribute e f pos) env) Q E s:=
 Attribute_any_ h (by rw[arm_eval_Attribute,hb])
end
noncomputable def tFld (K:ak) (ta:TE) (f:mu):TE:=fun σ H Q=>ta σ H λx H1=>∃a C dx fs v,x= .ref a/\H1 a=ag (.ins C dx fs)/\Cls K C/\bF K C f/\fs.lookup f=ag v/\Q v H1
noncomputable def sFld (K:ak) (ta tv:TE) (f:mu):TS:=λD σ H=>tv σ H λy H1=>ta σ H1 λx H2=>∃a C dx fs,x= .ref a/\H2 a=ag (.ins C dx fs)/\Cls K C/\bF K C f/\fs.length < 1000/\
 D.nx σ (upd H2 a (.ins C dx (putF f y fs)))
section
variable {X:Cx} {o e value:L'} {f:mu} {pos pos' tpos:Pos} {ta tv:TE}
theorem TJ (he:PE X e ta) (hb:attributeBase e f X.env (eval e X.env)=eval e X.env):PE X (.Attribute e f pos) (tFld X.K ta f):=by
 intro pins s σ H Q I h;refine Mn hb (thn (he pins s σ H _ I h) λu γ ⟨x,H1,Z,L,a,C,dx,fs,v,ex,ea,c,n,l,q⟩=>?_);subst ex;obtain rfl:u=sb a:=L;exact Hy Z ea c n l fun α β Y O=>⟨v,H1,Y,O,q⟩
theorem Tv (ha:PE X o ta) (α:PE X value tv) (hs:swapsWith value (ag (.Attribute o f pos')) pos.line X.env=pure false):PS X (.Assign [.Attribute o f pos'] value pos) (sFld X.K ta tv f):=by
 intro pins s σ H D I h;refine ab3 (thn (α pins s σ H _ I h) λu L ⟨y,H1,δ,O,q⟩=>thn (ha pins L σ H1 _ δ q) λZ ζ ⟨x,H2,β,Y,a,C,dx,fs,ex,ea,c,n,l,θ⟩=>?_) hs;subst ex;obtain rfl:Z=sb a:=Y;exact Gu β ea c n l O fun ε γ=>⟨σ,_,γ,θ⟩
end
section
variable {X:Cx} {pins:CB} {σ:St} {H:Hp} {s:hJ} {A:z5} {E:C'} {Q:C'} {c:ic} {b:V6}
inductive TyOf (K:ak) (H:Hp):V->ic->Prop where
 | non:TyOf K H .non (.type "NoneType")
 | bl (x:V6):TyOf K H (.bl x) (.type "bool")
 | int (i:Int):TyOf K H (.int i) (.type "int")
 | str (x:mu):TyOf K H (.str x) (.type "str")
 | flt (x:UInt64):TyOf K H (.flt x) (.type "float")
 | lst {a:dt} {xs:ee V} (e:H a=ag (.lst xs)):TyOf K H (.ref a) (.type "list")
 | frz {a:dt} {o:Obj} {xs:ee V} (e:H a=ag (.frz o (.lst xs))):TyOf K H (.ref a) (.type "list")
 | tup {a:dt} {xs:ee V} (e:H a=ag (.tup xs)):TyOf K H (.ref a) (.type "tuple")
 | dK {a:dt} {kvs:ee (Key×V)} (e:H a=ag (.dK kvs)):TyOf K H (.ref a) (.type "dict")
 | dT {a:dt} {kvs:ee (ee Key×V)} (e:H a=ag (.dT kvs)):TyOf K H (.ref a) (.type "dict")
 | ins {a C dx:dt} {fs:ee (mu×V)} (e:H a=ag (.ins C dx fs)) (cl:Cls K C) (ha:wh K (.ref C) "__class__"=ag (ag (.builtin "object.__class__")))
   (hn:Xa K (.builtin "object.__class__") "__get__"=ag (ag (.builtin "getset_descriptor.__get__"))) (htk:ZH K (.builtin "object.__class__")=ag true)
   (hm:VX K C (.type "object")=ag true):TyOf K H (.ref a) (.ref C)
end
structure Room (k:Nat) (A:z5):Prop where
 hd:A.handled=fy
 dp:A.depth + 3 * k + 5 < recursionLimit
 un:A.units + 16 * k + 200 < cLine
theorem Room.mono {j k:Nat} {A:z5} (r:Room k A) (h:j<=k):Room j A:=⟨r.hd,by have:=r.dp;omega,by have:=r.un;omega⟩
theorem Room.deeper {k:Nat} {A:z5} (r:Room (k + 1) A) (env:Env):Room k (A.deeper env):=
 ⟨r.hd,by have:=r.dp;show A.depth + 1 + 3 * k + 5 < _;omega,by have:=r.un;show A.units + 3 + 16 * k + 200 < _;omega⟩
theorem G5 {A:z5} {C:dt} {us:CD} {kw:J2}:(A.under (.builtin "type.__call__" ⟨.ref C::us,kw⟩)).depth=A.depth + 1:=by
 first | rfl | simp[ad0,Code.weight,Code.isCreation,Code.isGuard,Code.isCaller,Code.frames,ae4,guardIds]
theorem G4 {A:z5} {C:dt} {us:CD} {kw:J2}:(A.under (.builtin "type.__call__" ⟨.ref C::us,kw⟩)).units=A.units + 1:=by
 first | rfl | simp[ad0,Code.cUnits,Code.frames,ae4]
theorem Room.make {k:Nat} {A:z5} (r:Room (k + 1) A) (C:dt) (us:CD) (kw:J2):Room k (A.under (.builtin "type.__call__" ⟨.ref C::us,kw⟩)):=
 ⟨r.hd,by have:=r.dp;rw[G5];omega,by have:=r.un;rw[G4];omega⟩
theorem Room.depth {k:Nat} {A:z5} (r:Room k A):A.depth < recursionLimit:=by have:=r.dp;omega
theorem Room.units {k:Nat} {A:z5} (r:Room k A):A.units + 64 < cLine:=by have:=r.un;omega
noncomputable abbrev tNil:TA:=λ_ H Q=>Q [] H
noncomputable abbrev Vd (ta:TE) (tr:TA):TA:=fun σ H Q=>ta σ H λx H1=>tr σ H1 λxs H2=>Q (x::xs) H2
section
variable {X:Cx} {e:L'} {es:ee L'} {te:TE} {t:TA} {pos:Pos}
theorem ae:PA X [] tNil:=λ_ _ _ _ H Q I h=>Zs ⟨[],H,I,.nil,h⟩
theorem aa (ha:PE X e te) (hr:PA X es t) (hs:ll (e::es) X.env=(false,eval e X.env)::ll es X.env:=by rfl):PA X (e::es) (Vd te t):=by
 intro pos pins s σ H Q I h;rw[hs];show kn _ _ (spliced ((false,eval e X.env)::backTo pos (ll es X.env))) _ _ s;refine Zh (thn (ha pins s σ H _ I h) λu L ⟨x,H1,α,O,Y⟩=>?_);exact thn (hr pos pins L σ H1 _ α Y) λus β ⟨xs,H2,Z,η,θ⟩=>⟨x::xs,H2,Z,.cons O η,θ⟩
noncomputable def tTup (t:TA):TE:=fun σ H Q=>t σ H λxs H1=>xs.length<=ix/\∀p,H1 p=fy->Q (.ref p) (upd H1 p (.tup xs))
noncomputable def tLst (t:TA):TE:=fun σ H Q=>t σ H λxs H1=>xs.length<=ix/\∀p,H1 p=fy->Q (.ref p) (upd H1 p (.lst xs))
theorem eP {x1} (h:PA X es t):PE X (.Tuple es x1 pos) (tTup t):=by
 intro pins s σ H Q I O;refine wpAny_Tuple_spliced (thn (h pos pins s σ H _ I O) λus L ⟨xs,H1,I1,r,z,q⟩=>⟨by rw[<-r.length];exact z,?_⟩);have hf:H1 L.heap.objs.size=none:=I1.hok.fresh (ov _);refine⟨.ref L.heap.objs.size,upd H1 L.heap.objs.size (.tup xs),I1.laid (t':=L.toks) (λb u e=>eH _ e) (ov _) ?_,rfl,q _ hf⟩;exact⟨z,us,r,⟨_,kv _ rfl,rfl,_,rfl⟩⟩
theorem cL (h:PA X es t):PE X (.List es pos) (tLst t):=by
 intro pins s σ H Q I O;refine wpAny_List_spliced (thn (h pos pins s σ H _ I O) λus L ⟨xs,H1,I1,r,z,q⟩=>⟨by rw[<-r.length];exact z,?_⟩);have hf:H1 L.heap.objs.size=none:=I1.hok.fresh (ov _);refine⟨.ref L.heap.objs.size,upd H1 L.heap.objs.size (.lst xs),I1.laid (t':=L.toks) (λb u e=>eH _ e) (ov _) ?_,rfl,q _ hf⟩;exact⟨z,us,0,r,kv _ rfl⟩
end
noncomputable abbrev Sp:=ee V->Hp->VK->XK->Prop
noncomputable abbrev CXT:=ee Env->Hp->hJ->XK->C'
structure Env0 (P:oT) (w:w7) (K:ak) (mg:CM) (base:N') (A:z5) (outer:ee Env) (s:hJ) (H:Hp):Prop where
 frames:A.frames=ag outer
 mod:Mod K mg base
 bs:∀b o,base.get? b=ag o->s.heap.get? b=ag o/\H b=fy
 bsz:base.objs.size<=s.heap.objs.size
 funs:s.heap.FunFrames base outer
 frf:∀b∈frs outer,H b=fy
 hok:HOk P w H s.heap
 bare:AllBare s.gens
def CE (outer:ee Env) (P:oT) (w:w7) (H:Hp) (s:hJ) (Q:VK) (u:ic) (s':hJ):Prop:=
 ∃v H',s'.os=s.os/\AllBare s'.gens/\Un (frs outer) [] H H' s.heap s'.heap/\HOk P w H' s'.heap/\RelV v u/\Q v H'
def CR (CX:CXT) (outer:ee Env) (P:oT) (w:w7) (H:Hp) (s:hJ) (Q:VK) (E:XK) (r:Result) (s':hJ):Prop:=
 match r with
 | .ok (.ret u)=>CE outer P w H s Q u s'
 | .ok _=>False
 | .error e=>CX outer H s E e s'
structure FnOk (P:oT) (w:w7) (K:ak) (mg:CM) (base:N') (CX:CXT) (k:Nat) (f:dt) (fd:hE) (ps:B1) (sp:Sp):Prop where
 len:∀vs H Q E,sp vs H Q E->vs.length=ps.length
 run:∀(A:z5) (outer:ee Env) (s:hJ) (H:Hp) (args:Args) (us:CD) (vs:ee V) (Q:VK) (E:XK),Room k A->Env0 P w K mg base A outer s H->BindsTo s fd args (ps.zip us)->Vals vs us->sp vs H Q E->
  codeAny (px P w) A (.call (.ref f) args) (CR CX outer P w H s Q E) s
theorem FnOk.imp {P:oT} {w:w7} {K:ak} {mg:CM} {base:N'} {CX:CXT} {k:Nat} {f:dt} {fd:hE} {ps:B1} {sp Z:Sp} (F:FnOk P w K mg base CX k f fd ps sp)
  (h:∀vs H Q E,Z vs H Q E->sp vs H Q E):FnOk P w K mg base CX k f fd ps Z:=
 ⟨λvs H Q E q=>F.len vs H Q E (h _ _ _ _ q),λA outer s H args us vs Q E O he hb L hs=>F.run A outer s H args us vs Q E O he hb L (h _ _ _ _ hs)⟩
theorem Env0.make {P:oT} {w:w7} {K:ak} {mg:CM} {base:N'} {A:z5} {outer:ee Env} {s:hJ} {H:Hp} (e:Env0 P w K mg base A outer s H) (C:dt) (us:CD) (kw:J2):
  Env0 P w K mg base (A.under (.builtin "type.__call__" ⟨.ref C::us,kw⟩)) outer s H:=⟨by first | exact e.frames | (simpa[ad0,Code.envs,ae4,pushEnvs] using e.frames),e.mod,e.bs,e.bsz,e.funs,e.frf,e.hok,e.bare⟩
section
variable {X:Cx} {pins:CB} {σ:St} {H:Hp} {s s':hJ}
theorem Inv.env0 (I:Inv X pins σ H s):Env0 X.prog X.w X.K X.mg X.base X.A X.stack s H:=
 ⟨I.ok.frames,I.ok.mod,I.bs,WK I.ok.bsz I.sz,I.stack,I.stkFree,I.hok,I.bare⟩
theorem Inv.after {Q:VK} {u:ic} (I:Inv X pins σ H s) (h:CE X.stack X.prog X.w H s Q u s'):EP X pins σ Q u s':=by
 obtain⟨v,H',os,bare,un,hok,r,q⟩:=h;obtain⟨ζ,g,d,t,L⟩:=s';obtain rfl:L=s.os:=os;exact⟨v,H',I.call (h':=ζ) (g':=g) (d':=d) (t':=t) (ch:=[]) un hok bare (λb z=>hB z @F),r,q⟩
end
noncomputable def Jh (sp:Sp) (dvs:ee V) (E:XK) (t:TA):TE:=fun σ H Q=>t σ H λvs H1=>sp (vs++dvs) H1 Q E
noncomputable def Qa (C:dt) (m:mu) (sp:Sp) (dvs:ee V) (E:XK) (ta:TE) (t:TA):TE:=fun σ H Q=>ta σ H λx H1=>∃a dx fs,x= .ref a/\H1 a=ag (.ins C dx fs)/\fs.lookup m=fy/\
 t σ H1 λvs H2=>sp (x::(vs++dvs)) H2 Q E
noncomputable def Si (C:dt) (sp:Sp) (dvs:ee V) (E:XK) (t:TA):TE:=fun σ H Q=>t σ H λvs H1=>∀x dx,H1 x=fy->H1 dx=fy->dx≠x->
 sp (.ref x::(vs++dvs)) (upd (upd H1 dx (.own x)) x (.ins C dx [])) (λv H2=>v= .non/\Q (.ref x) H2) E
def mx (K:ak) (fd:hE) (ps:B1) (ds:CD):Prop:=
 ∀(s:hJ) (us:CD),K.In s.heap->(us++ds).length=ps.length->BindsTo s fd ⟨us,[]⟩ (ps.zip (us++ds))
theorem mx.all {K:ak} {fd:hE} {ps:B1} (h:∀us:CD,us.length=ps.length->bindArgs fd ⟨us,[]⟩=pure (ps.zip us)):mx K fd ps []:=λs us _ hl=>by
 rw[Wr] at hl ⊢;exact .of_eq (h us hl)
def pq (CX:CXT) (X:Cx) (E:XK):Prop:=∀(pins:CB) (σ:St) (H:Hp) (s:hJ) (e:ic) (s':hJ),Inv X pins σ H s->CX X.stack H s E e s'->X.xe e s'
section
variable {X:Cx} {CX:CXT} {k:Nat} {f C:dt} {fd:hE} {ps:B1} {sp:Sp} {dvs:ee V} {ds:CD} {E:XK} {x m:mu} {p pos apos:Pos} {e o:L'} {es:ee L'} {ta:TE} {t:TA}
theorem Fe {pins:CB} {σ:St} {H:Hp} {s:hJ} {Q:VK} {us:CD} {vs:ee V} (F:FnOk X.prog X.w X.K X.mg X.base CX k f fd ps sp) (hr:Room k X.A) (hb:mx X.K fd ps ds) (hd:Vals dvs ds) (hx:pq CX X E)
  (I:Inv X pins σ H s) (r:Vals vs us) (h:sp (vs++dvs) H Q E):kn (px X.prog X.w) X.A (call (.ref f) us) (EP X pins σ Q) X.xe s:=by
 have η:Vals (vs++dvs) (us++ds):=r.append hd;have hl:(us++ds).length=ps.length:=by rw[<-η.length];exact F.len _ _ _ _ h
 refine Yf (X' (F.run X.A X.stack s H ⟨us,[]⟩ (us++ds) (vs++dvs) Q E hr I.env0 (hb s us I.kIn hl) η h) λr s' L=>?_);cases r with
 | error e=>exact hx pins σ H s e s' I L
 | ok Y=>
   cases Y with
   | ret u=>exact I.after L
   | next=>exact y' L
   | brk=>exact y' L
   | cont=>exact y' L
theorem QW (F:FnOk X.prog X.w X.K X.mg X.base CX k f fd ps sp) (hr:Room k X.A) (Y:Gl X x) (hm:X.mg x=ag (.ref f)) (hk:W3 X.K (.ref f)=true) (hb:mx X.K fd ps ds) (hd:Vals dvs ds) (hx:pq CX X E)
  (ha:PA X (e::es) t) (O:(x == ("__debug__":mu))=false:=by decide) (he:ll (e::es) X.env=(false,eval e X.env)::ll es X.env:=by rfl) (L:(backTo pos (ll es X.env)).any (·.1)=false:=by rfl):
  PE X (.Call (.Name x p) (e::es) [] pos) (Jh sp dvs E t):=by
 intro pins s σ H Q I h;refine WN (jS I Y hm ?_ O);refine Wq (h₀:=X.base) I.ok.mod.kin hk (thn (ha pos pins s σ H _ I h) λus Z ⟨vs,H1,I1,r,q⟩=>⟨I1.kIn,?_⟩) he L;exact Fe F hr hb hd hx I1 r q
theorem jJ {pl:Sem V6} (he:PE X o ta) (c:Cls X.K C) (hm:Meth X.K C m f) (F:FnOk X.prog X.w X.K X.mg X.base CX k f fd ps sp) (hr:Room k X.A) (hb:mx X.K fd ps ds) (hd:Vals dvs ds) (hx:pq CX X E) (ha:PA X (e::es) t)
  (Z:ll (e::es) X.env=(false,eval e X.env)::ll es X.env:=by rfl) (L:(backTo pos (ll es X.env)).any (·.1)=false:=by rfl)
  (ht:eval (.Call (.Attribute o m apos) (e::es) [] pos) X.env=(do
   let O <-eval o X.env
   standAt apos.atName
   let (f,first) <-holding [O] (getMethod O m pl)
   callWith pos f first (backTo pos (ll (e::es) X.env)) (backToKw pos (keywordEach [] X.env))):=by rfl):
  PE X (.Call (.Attribute o m apos) (e::es) [] pos) (Qa C m sp dvs E ta t):=by
 intro pins s σ H Q I h;refine X6 (pl:=pl) (thn (he pins s σ H _ I h) λu α ⟨x,H1,Y,β,a,dx,fs,ex,ea,l,q⟩=>?_) ht;subst ex;obtain rfl:u=sb a:=β;refine tL Y ea c hm l ?_;refine Wq (first:=[.ref a]) (h₀:=X.base) I.ok.mod.kin hm.kp (thn (ha pos pins α σ H1 _ Y q) λus γ ⟨vs,H2,I2,r,θ⟩=>⟨I2.kIn,?_⟩) Z L;exact Fe (us:= .ref a::us) (vs:= .ref a::vs) F hr hb hd hx I2 (.cons rfl r) θ
theorem bB {pl:Sem V6} (he:PE X o ta) (c:Cls X.K C) (hm:Meth X.K C m f) (F:FnOk X.prog X.w X.K X.mg X.base CX k f fd ps sp) (hr:Room k X.A) (hb:mx X.K fd ps ds) (hd:Vals dvs ds) (hx:pq CX X E)
  (ht:eval (.Call (.Attribute o m apos) [] [] pos) X.env=(do
   let L <-eval o X.env
   standAt apos.atName
   let (f,first) <-holding [L] (getMethod L m pl)
   callWith pos f first (backTo pos (ll [] X.env)) (backToKw pos (keywordEach [] X.env))):=by rfl):
  PE X (.Call (.Attribute o m apos) [] [] pos) (Qa C m sp dvs E ta tNil):=by
 intro pins s σ H Q I h;refine X6 (pl:=pl) (thn (he pins s σ H _ I h) λu Y ⟨x,H1,I1,O,a,dx,fs,ex,ea,l,q⟩=>?_) ht;subst ex;obtain rfl:u=sb a:=O;refine tL I1 ea c hm l ?_;exact PySem.W.callWith_K0 (first:=[.ref a]) I1.kIn hm.kp (Fe (us:=[.ref a]) (vs:=[.ref a]) F hr hb hd hx I1 (.cons rfl .nil) q)
structure Mk (K:ak) (C f:dt):Prop where
 makes:ai6 K C=true
 init:wh K (.ref C) "__init__"=ag (ag (.ref f))
 fn:Zd K (.ref f)=true
 kp:W3 K (.ref C)=true
theorem NQ {pins:CB} {σ:St} {H:Hp} {s:hJ} {Q:VK} {us:CD} {vs:ee V} (M:Mk X.K C f) (F:FnOk X.prog X.w X.K X.mg X.base CX k f fd ps sp) (hr:Room (k + 1) X.A) (hb:mx X.K fd ps ds) (hd:Vals dvs ds)
  (β:pq CX X E) (I:Inv X pins σ H s) (r:Vals vs us)
  (h:∀x dx,H x=fy->H dx=fy->dx≠x->sp (.ref x::(vs++dvs)) (upd (upd H dx (.own x)) x (.ins C dx [])) (λv H2=>v= .non/\Q (.ref x) H2) E):
  kn (px X.prog X.w) X.A (call (.ref C) us) (EP X pins σ Q) X.xe s:=by
 have O:=h (s.heap.objs.size + 1) s.heap.objs.size (I.hok.fresh (YO _)) (I.hok.fresh (ov _)) (z3 (WH _));have I2:=Inv.made (C:=C) I;have η:Vals (V.ref (s.heap.objs.size + 1)::(vs++dvs)) (sb (s.heap.objs.size + 1)::(us++ds)):= .cons rfl (r.append hd)
 have hl:(sb (s.heap.objs.size + 1)::us++ds).length=ps.length:=by
  have e:=η.length;rw[F.len _ _ _ _ O] at e;exact e.symm
 refine Yf (Fv (f:=f) I.kIn M.makes M.init (XN.mp M.fn) (X' (F.run _ X.stack _ _ ⟨sb (s.heap.objs.size + 1)::us,[]⟩ (sb (s.heap.objs.size + 1)::(us++ds)) _ _ E (hr.make C us [])
  (I2.env0.make C us []) (hb _ (sb (s.heap.objs.size + 1)::us) I2.kIn hl) η O) λr s' L=>?_))
 cases r with
 | error e=>exact β pins σ _ _ e s' I2 L
 | ok Y=>
   cases Y with
   | ret u=>
     obtain⟨v,H',γ,Z,ev,α⟩:=I2.after L;subst ev;exact⟨Z,⟨V.ref (s.heap.objs.size + 1),H',γ,rfl,α⟩⟩
   | next=>exact y' L
   | brk=>exact y' L
   | cont=>exact y' L
theorem pV (M:Mk X.K C f) (F:FnOk X.prog X.w X.K X.mg X.base CX k f fd ps sp) (hr:Room (k + 1) X.A) (Y:Gl X x) (hm:X.mg x=ag (.ref C)) (hb:mx X.K fd ps ds) (hd:Vals dvs ds) (hx:pq CX X E)
  (ha:PA X (e::es) t) (O:(x == ("__debug__":mu))=false:=by decide) (he:ll (e::es) X.env=(false,eval e X.env)::ll es X.env:=by rfl) (L:(backTo pos (ll es X.env)).any (·.1)=false:=by rfl):
  PE X (.Call (.Name x p) (e::es) [] pos) (Si C sp dvs E t):=by
 intro pins s σ H Q I h;refine WN (jS I Y hm ?_ O);refine Wq (h₀:=X.base) I.ok.mod.kin M.kp (thn (ha pos pins s σ H _ I h) λus Z ⟨vs,H1,I1,r,q⟩=>⟨I1.kIn,?_⟩) he L;exact NQ M F hr hb hd hx I1 r q
end
section
variable {X:Cx} {CX:CXT} {k:Nat} {f C:dt} {fd:hE} {ps ks:B1} {sp:Sp} {E:XK} {x m:mu} {p pos apos kpos:Pos} {e o:L'} {es:ee L'} {kws:ee Keyword} {te ta:TE} {t tk:TA} {nm:pa mu}
structure VQ (K:ak) (fd:hE) (ps ks:B1) (g:CD->CD->CD) (gV:ee V->ee V->ee V):Prop where
 to:∀(s:hJ) (us ws:CD),K.In s.heap->(g us ws).length=ps.length->BindsTo s fd ⟨us,ks.zip ws⟩ (ps.zip (g us ws))
 rel:∀{vs:ee V} {us:CD} {zs:ee V} {ws:CD},Vals vs us->Vals zs ws->Vals (gV vs zs) (g us ws)
variable {g:CD->CD->CD} {gV:ee V->ee V->ee V}
end
structure au (N P:B1) (sc:X5):Prop where
 kind:sc.kind= .function
 co:sc.isCoroutine=false
 gen:sc.isGenerator=false
 nd:N.Nodup
 pre:N.take P.length=P
 par:∀x∈P,sc.names.lookup x=ag .local∨sc.names.lookup x=ag .cell
 nofree:∀y∈sc.names,y.2≠.free
theorem Cz {kindOf:mu->pa NameKind} {x:mu}:∀{binds:J2} {m:CM},(∀v,(x,v)∉binds)->bindL kindOf binds m x=m x
 | [],_,_=>rfl
 | (n,v)::r,m,h=>by
   unfold bindL;rw[Cz λw hw=>h w (z4 _ hw)];split
   ·have:x≠n:=by rintro rfl;exact h v wq
    simp[this]
   ·rfl
theorem CC {kindOf:mu->pa NameKind} {x:mu}:∀{binds:J2} {m:CM},(∀v,(x,v)∉binds)->bindC kindOf binds m x=m x
 | [],_,_=>rfl
 | (n,v)::r,m,h=>by
   unfold bindC;rw[CC λw hw=>h w (z4 _ hw)];split
   ·rfl
   ·have:x≠n:=by rintro rfl;exact h v wq
    simp[this]
theorem CA {kindOf:mu->pa NameKind} {x:mu} {v:ic}:∀{P:B1} {vs:CD} {i:Nat} {m:CM},P.Nodup->P[i]? =ag x->vs[i]? =ag v->kindOf x=ag .local->
  bindL kindOf (P.zip vs) m x=ag v
 | [],_,_,_,_,h,_,_=>by simp at h
 | _::_,[],_,_,_,_,h,_=>by simp at h
 | p::P,w::vs,0,m,nd,h1,h2,hk=>by
   simp at h1 h2;subst h1;subst h2;show bindL kindOf ((p,w)::P.zip vs) m p=_;unfold bindL;rw[Cz λv L=>(Y6.mp nd).1 (Zt L).1,qq hk];simp
 | p::P,w::vs,i + 1,m,nd,h1,h2,hk=>by
   show bindL kindOf ((p,w)::P.zip vs) m x=_;unfold bindL;exact CA (i:=i) (Y6.mp nd).2 (by simpa using h1) (by simpa using h2) hk
theorem CF {kindOf:mu->pa NameKind} {x:mu} {v:ic}:∀{P:B1} {vs:CD} {i:Nat} {m:CM},P.Nodup->P[i]? =ag x->vs[i]? =ag v->kindOf x≠ag .local->
  bindC kindOf (P.zip vs) m x=ag v
 | [],_,_,_,_,h,_,_=>by simp at h
 | _::_,[],_,_,_,_,h,_=>by simp at h
 | p::P,w::vs,0,m,nd,h1,h2,hk=>by
   simp at h1 h2;subst h1;subst h2;show bindC kindOf ((p,w)::P.zip vs) m p=_;unfold bindC;rw[CC λv L=>(Y6.mp nd).1 (Zt L).1,n' hk];simp
 | p::P,w::vs,i + 1,m,nd,h1,h2,hk=>by
   show bindC kindOf ((p,w)::P.zip vs) m x=_;unfold bindC;exact CF (i:=i) (Y6.mp nd).2 (by simpa using h1) (by simpa using h2) hk
noncomputable def start (N:B1) (vs:ee V):St:=vs.map ag++p' (N.length - vs.length) fy
noncomputable def cxOf (CX:CXT) (P:oT) (w:w7) (K:ak) (mg:CM) (base:N') (N:B1) (L:mu) (scope:X5) (f:dt) (Y:ic) (A:z5) (outer:ee Env) (s:hJ) (H:Hp) (E:XK):Cx where
 prog:=P
 w:=w
 K:=K
 mg:=mg
 base:=base
 A:=A.deeper (envOfC L scope s.heap.objs.size f Y)
 N:=N
 s₀:=s
 H₀:=H
 env:=envOfC L scope s.heap.objs.size f Y
 outer:=outer
 stack:=envOfC L scope s.heap.objs.size f Y::outer
 ex:=[]
 calm:=true
 fn:=λ_=>true
 pn:=[]
 xe:=λe s'=>kn (px P w) (A.deeper (envOfC L scope s.heap.objs.size f Y)) (leaving (envOfC L scope s.heap.objs.size f Y) e) (λ_ O=>CX outer H s E e O) (λZ O=>CX outer H s E Z O) s'
theorem FU {sc:X5} {n:Nat} {x:mu} (h:sc.names.lookup x=ag .cell):∃c,(cellsFrom n sc.names []).lookup x=ag c:=by
 have q:=ab9 sc.names n [] (.inl h);exact Option.isSome_iff_exists.mp q
theorem Lk {CX:CXT} {P:oT} {w:w7} {K:ak} {mg:CM} {base:N'} {N ps:B1} {L:mu} {scope:X5} {f:dt} {Z:ic} {A:z5} {outer:ee Env} {s β:hJ} {H:Hp} {E:XK} {us:CD} {vs:ee V}
  (S:au N ps scope) (hd:A.handled=fy) (O:Env0 P w K mg base A outer s H) (hl:vs.length=ps.length) (r:Vals vs us)
  (x:InCallC s s.heap.objs.size (bindL (envOfC L scope s.heap.objs.size f Z).kindOf (ps.zip us) λ_=>fy) (cellsFrom (s.heap.objs.size + 1) scope.names []) (bindC (envOfC L scope s.heap.objs.size f Z).kindOf (ps.zip us) λ_=>fy) β):
  Inv (cxOf CX P w K mg base N L scope f Z A outer s H E) [] (start N vs) H β:=by
 have ε:ps.length<=N.length:=by have:=ri y1 S.pre;rw[sv] at this;omega
 obtain⟨h1,tk,rfl,hk⟩:=x.done;have Y:∀b:dt,b∉(cxOf CX P w K mg base N L scope f Z A outer s H E).ex:=λb z=>hB (show b∈([]:Dk) from z) @F
 refine⟨⟨O.mod,S.kind,rfl,rfl,ov _,λy z c h1 h2=>?_,λy hy=>?_,λy c _ h=>?_,λ_=>hd,Around.frames_deeper O.frames,.inr ⟨rfl,rfl⟩,λb z=>hB z (Y b),O.bs,O.bsz,λb _ _=>Y b,λb z=>hB z (Y b),O.funs,O.frf⟩,
  rfl,O.bare,Un.kept hk,⟨_,x.toInCall.ns,λi y v h1 h2 ζ=>?_⟩,λy c h=>⟨_,x.cell y c h⟩,O.hok.fresh (ov _),λy c h=>?_,λp hp=>hB (show p∈([]:CB) from hp) @F,O.hok.kept hk,?_⟩
 ·exact name_of_addr x.apart (W1 h1) (W1 h2)
 ·have hy:scope.names.lookup y=ag .cell∨scope.names.lookup y=ag .free:=hy;rcases hy with hy | hy
  ·exact FU hy
  ·exact hB rfl (S.nofree _ (W1 hy))
 ·exact XA (x.above y c (W1 h))
 ·have hi:i < vs.length:=by
   unfold start at h2;by_cases hi:i < vs.length
   ·exact hi
   ·rw[V0 (by simpa using hi)] at h2;rw[ad9] at h2;split at h2<;>cases h2
  have ha:vs[i]? =ag v:=by
   unfold start at h2;rw[P' (by simpa using hi),kf] at h2;cases e:vs[i]? with
   | none=>rw[e] at h2;cases h2
   | some a=>rw[e] at h2;cases h2;rfl
  obtain⟨u,γ,δ⟩:=r.get ha
  have hp:ps[i]? =ag y:=by
   rw[<-S.pre,Xy @A];exact h1
  have α:ps.Nodup:=by rw[<-S.pre];exact S.nd.sublist (List.take_sublist _ _)
  refine⟨u,δ,?_⟩;rcases S.par y (f' hp) with k | k
  ·exact .inl ⟨k,CA α hp γ k⟩
  ·obtain⟨c,e⟩:=FU (n:=s.heap.objs.size + 1) k;refine .inr ⟨.inl k,c,e,?_⟩;have q:=x.cell y c e;rw[CF α hp γ (by show scope.names.lookup y≠_;rw[k];decide)] at q;exact q
 ·exact O.hok.fresh (XA (x.above y c (W1 h)))
 ·unfold start;show _=N.length;rw[gs,a',V'];omega
theorem RC {CX:CXT} {P:oT} {w:w7} {K:ak} {mg:CM} {base:N'} {k:Nat} {f:dt} {name L:mu} {Z:Arguments} {body:ee Xs} {scope:X5} {dV kV υ ξ O ct π:ic} {an od:F'}
  {ζ:Cr} {N ps:B1} {sp:Sp} (lk:K.lookup f=ag ⟨π,od,.func (Wg name L Z body scope dV kV υ ξ an O ct),ζ⟩) (ι:Xg K O L=true) (S:au N ps scope)
  (len:∀vs H Q E,sp vs H Q E->vs.length=ps.length)
  (β:∀(A:z5) (outer:ee Env) (s:hJ) (H:Hp) (vs:ee V) (Q:VK) (E:XK),Room k (A.deeper (envOfC L scope s.heap.objs.size f O))->sp vs H Q E->
   ∃t,PSs (cxOf CX P w K mg base N L scope f O A outer s H E) body t/\t {nx:=λ_ H'=>Q .non H',rt:=Q} (start N vs) H):
  FnOk P w K mg base CX (k + 1) f (Wg name L Z body scope dV kV υ ξ an O ct) ps sp:=by
 refine⟨len,λA outer s H args us vs Q E θ δ hb r γ=>?_⟩;have hl:=len _ _ _ _ γ;have ο:K.In s.heap:=δ.mod.kin.keeps λb o e=>(δ.bs b o e).1;have η:s.heap.NoLimit:=δ.mod.nolimit.keeps λb o e=>(δ.bs b o e).1
 have α:∀y∈ps.zip us,scope.names.lookup y.1=ag .local∨(scope.names.lookup y.1=ag .cell/\((cellsFrom (s.heap.objs.size + 1) scope.names []).lookup y.1).isSome=true):=λ⟨n,v⟩ ρ=>by
  rcases S.par n (Zt ρ).1 with q | q
  ·exact .inl q
  ·exact .inr ⟨q,ab9 _ _ _ (.inl q)⟩
 refine codeAny_call_function θ.depth (ο _ _ lk) rfl S.co S.gen rfl (PySem.W.codeRec_of ο ι) (hb _ _ _ _ ?_);refine wpAny_newFunctionEnv_cells S.kind α λenv he ν x=>?_;subst he;refine⟨η.keeps x.toInCall.keep,codeAny_func ?_⟩;obtain⟨t,ht,τ⟩:=β A outer s H vs Q E (θ.deeper _) γ;have I:Inv (cxOf CX P w K mg base N L scope f O A outer s H E) [] (start N vs) H ν:=Lk S θ.hd δ hl r x;refine VZ (ht [] ν (start N vs) H _ I τ) (λY s' hs=>?_) λe s' hs=>hs
 have fin:∀{σ':St} {H':Hp} {v:V} {u:ic},Inv (cxOf CX P w K mg base N L scope f O A outer s H E) [] σ' H' s'->RelV v u->Q v H'->CE outer P w H s Q u s':=
  λ{σ' H' v u} J ε q=>⟨v,H',J.os,J.bare,J.base,J.hok,ε,q⟩
 cases Y with
 | ret u=>
   obtain⟨v,σ',H',J,ε,q⟩:=hs;exact fin J ε q
 | next=>
   obtain⟨σ',H',J,q⟩:=hs;exact fin (v:=V.non) (u:=Wy) J rfl q
 | brk=>
   obtain⟨_,_,_,q⟩:=hs;exact y' q
 | cont=>
   obtain⟨_,_,_,q⟩:=hs;exact y' q
section
variable {X:Cx} {x:mu} {p pos:Pos} {e:L'} {es:ee L'} {t:TA} {id T:U'} {r:ee V->Hp->VK->Prop}
noncomputable abbrev tCB (r:ee V->Hp->VK->Prop) (t:TA):TE:=fun σ H Q=>t σ H λvs H1=>r vs H1 Q
theorem aC (hc:n8 X (.builtin id) r) (γ:Gl X x) (hm:X.mg x=fy) (β:bootBuiltins x=ag (.builtin id)) (ha:PA X (e::es) t) (hn:x≠"__name__":=by decide) (O:(x == ("__debug__":mu))=false:=by decide)
  (he:ll (e::es) X.env=(false,eval e X.env)::ll es X.env:=by rfl) (L:(backTo pos (ll es X.env)).any (·.1)=false:=by rfl):PE X (.Call (.Name x p) (e::es) [] pos) (tCB r t):=by
 intro pins s σ H Q I h;refine WN (nN I γ hm β ?_ hn O);exact Y' (thn (ha pos pins s σ H _ I h) λus Y ⟨vs,H1,δ,Z,α⟩=>hc pins Y σ H1 vs us Q δ Z α) he L
theorem aV (hc:n8 X (.type T) r) (γ:Gl X x) (hm:X.mg x=fy) (β:bootBuiltins x=ag (.type T)) (ha:PA X (e::es) t) (hn:x≠"__name__":=by decide) (O:(x == ("__debug__":mu))=false:=by decide)
  (he:ll (e::es) X.env=(false,eval e X.env)::ll es X.env:=by rfl) (L:(backTo pos (ll es X.env)).any (·.1)=false:=by rfl):PE X (.Call (.Name x p) (e::es) [] pos) (tCB r t):=by
 intro pins s σ H Q I h;refine WN (nN I γ hm β ?_ hn O);exact Tn (thn (ha pos pins s σ H _ I h) λus Y ⟨vs,H1,δ,Z,α⟩=>hc pins Y σ H1 vs us Q δ Z α) he L
end
end L2
namespace HT
open PySem PyProof.Rows
section
variable {prog:oT} {w:w7} {A:z5} {E:C'} {s:hJ}
noncomputable def sIx (n d:Nat):pa Int->Nat
 | none=>d
 | some v=>if v < 0 then (v + (n:Int)).toNat else min v.toNat n
theorem sIx_none (n d:Nat):sIx n d fy=d:=rfl
theorem sIx_nat (n d k:Nat):sIx n d (ag (k:Int))=min k n:=by
 show(if (k:Int) < 0 then ((k:Int) + (n:Int)).toNat else min (k:Int).toNat n)=min k n;rw[n' @A,pY]
theorem S6 (n d:Nat) (hd:d<=n) (o:pa Int):sIx n d o<=n:=by
 cases o with
 | none=>exact hd
 | some v=>
   show(if v < 0 then (v + (n:Int)).toNat else min v.toNat n)<=n;by_cases L:v < 0
   ·rw[qq L];omega
   ·rw[n' L];exact Nat.min_le_right _ _
theorem clip_eq (v:Int) (n d:Nat):(if v < 0 then max (v + (n:Int)) 0 else min v (n:Int))=((sIx n d (ag v):Nat):Int):=by
 show(if v < 0 then max (v + (n:Int)) 0 else min v (n:Int))=(((if v < 0 then (v + (n:Int)).toNat else min v.toNat n):Nat):Int);by_cases L:v < 0
 ·simp only[qq L];omega
 ·simp only[n' L];omega
theorem Ia (lo hi:pa Int) (n:Nat):Y4 lo hi 1 (n:Int)=(((sIx n 0 lo:Nat):Int),((sIx n n hi:Nat):Int)):=by
 have h1:¬((1:Int) < 0):=by omega
 unfold Y4;simp only[h1,Zk];refine ab0 ?_ ?_
 ·cases lo with
  | none=>rfl
  | some v=>exact clip_eq v n 0
 ·cases hi with
  | none=>rfl
  | some v=>exact clip_eq v n n
theorem GP (i j:Nat):Xc (i:Int) (j:Int) 1=j - i:=by
 unfold Xc;have h1:(1:Int) > 0:=by omega
 simp only[h1,YF,Int.ediv_one];split<;>omega
theorem yU {v:ic} {o:pa Int} {Q:pa Int->hJ->Prop} (p:IsPart v o) (h:Q o s):kn (px prog w) A (Builtin.Slice.slicePartIndex v) Q E s:=by
 cases p with
 | none=>exact slicePart_none h
 | int i t=>exact slicePart_int h
theorem uj {α:dt} {Z Y:ic} {lo hi:pa Int} {n:Nat} {Q:Int×Int×Nat->hJ->Prop} (hs:s.heap.IsSliceOf α Z Y .none) (pl:IsPart Z lo) (O:IsPart Y hi)
  (h:Q (((sIx n 0 lo:Nat):Int),1,sIx n n hi - sIx n 0 lo) s):kn (px prog w) A (Zi (.ref α) (pure (n:Int))) Q E s:=by
 obtain⟨os,L,β,θ⟩:=id hs;unfold Zi Builtin.Slice.sliceFields;refine ec (ec (Wi L θ (x:=Z) rfl (ec (Wi L θ (x:=Y) rfl (ec (Wi L θ (x:= .none) rfl (hH ?_)))))));refine ec (slicePart_none ?_);show kn _ _ (if ((1:Int) == 0)=true then _ else _) _ _ s;rw[n' @C];refine ec (yU pl (ec (yU O (ec (hH ?_)))));show kn _ _ (match Y4 lo hi 1 (n:Int) with | (lo,hi)=>pure (lo,(1:Int),Xc lo hi 1)) _ _ s;rw[Ia lo hi n];show kn _ _ (pure (((sIx n 0 lo:Nat):Int),(1:Int),Xc ((sIx n 0 lo:Nat):Int) ((sIx n n hi:Nat):Int) 1)) _ _ s;rw[GP];exact hH h
theorem NZ (xs:CN) (i k:Nat):((lj k).filterMap λ(m:Nat)=>xs[((i:Int) + (m:Int) * 1).toNat]?).toArray=((xs.toList.drop i).take k).toArray:=by
 have e:(λ(m:Nat)=>xs[((i:Int) + (m:Int) * 1).toNat]?)=λm=>xs[i + m]? :=by
  funext m;have:((i:Int) + (m:Int) * 1).toNat=i + m:=by omega
  rw[this]
 rw[e];have:=pick_run xs i k;rw[List.filterMap_map] at this;have L:((λx=>xs[x]?) ∘ λx=>i + x)=λm=>xs[i + m]? :=rfl;rw[L] at this;rw[this]
theorem getItem_tuple_cut {t Y:dt} {items:CN} {ε δ:ic} {lo hi:pa Int} {Q:C'} (ht:IsTup s.heap t items) (hs:s.heap.IsSliceOf Y ε δ .none) (pl:IsPart ε lo) (O:IsPart δ hi)
  (hw:¬(sIx items.size 0 lo=0/\sIx items.size items.size hi=items.size))
  (h:Q (.ref s.heap.objs.size) {s with heap:=s.heap.push {cls:= .type "tuple",data:= .seq ((items.toList.drop (sIx items.size 0 lo)).take (sIx items.size items.size hi - sIx items.size 0 lo)).toArray}})
  (hsz:items.size<=ix):kn (px prog w) A (getItem (.ref t) (.ref Y)) Q E s:=by
 have L:sizeOk (.seq ((items.toList.drop (sIx items.size 0 lo)).take (sIx items.size items.size hi - sIx items.size 0 lo)).toArray):=by
  show((items.toList.drop (sIx items.size 0 lo)).take (sIx items.size items.size hi - sIx items.size 0 lo)).toArray.size<=ix;rw[x3,sv,XI,WW];omega
 have ι:sIx items.size items.size hi<=items.size:=S6 _ _ (ov _) hi;obtain⟨os,Z,β,θ⟩:=id hs;have γ:s.TypeIs (.ref Y) "slice":=⟨os,Z,β⟩;unfold getItem
 try with_reducible refine W' ?_
 first | refine ec (hH ?_) | skip
 refine ec (wpAny_sequenceKey ht.typeIs @C ?_)
 refine ec (YS (name:=YL "__getitem__") ht.typeIs YV
  (YR YV ht.typeIs entry_tuple_getitem ?_ (args_tuple_getitem _ _)))
 show kn _ _ (Builtin.Tuple.tupleItemsOf (.ref t) >>=_) _ _ s;refine ec (tupleItemsOf_ ht ?_);refine ec (aa0 γ ?_);rw[qq @C];refine ec (uj hs pl O ?_)
 have α:¬((((sIx items.size 0 lo:Nat):Int) == 0&&(1:Int) == 1&&(sIx items.size items.size hi - sIx items.size 0 lo) == items.size)=true):=by
  intro q;rw[R',R'] at q;have η:((sIx items.size 0 lo:Nat):Int)=0:=eq_of_beq q.1.1;have ζ:sIx items.size items.size hi - sIx items.size 0 lo=items.size:=eq_of_beq q.2;exact hw ⟨by omega,by omega⟩
 show kn _ _ (if (((sIx items.size 0 lo:Nat):Int) == 0&&(1:Int) == 1&&(sIx items.size items.size hi - sIx items.size 0 lo) == items.size)=true then _ else _) _ _ s;rw[n' α,NZ]
 first
  | exact ec (m:=Xi _) (WC (hH ⟨_,rfl,hH h⟩) L)
  | exact ec (m:=Xi _) (WC (ec (hH (hH ⟨_,rfl,hH h⟩))) L)
  | exact ec (ec (m:=Xi _) (WC (hH (hH ⟨_,rfl,hH h⟩)) L))
  | exact ec (ec (m:=Xi _) (WC (hH ⟨_,rfl,hH h⟩) L))
end
end HT
namespace L2
open PySem PySem.Spec PyProof.Rows
noncomputable abbrev TO:=St->Hp->(pa Int->Hp->Prop)->Prop
def PO (X:Cx) (e:pa L') (t:TO):Prop:=
 ∀(pins:CB) (s:hJ) (σ:St) (H:Hp) (Q:pa Int->Hp->Prop),Inv X pins σ H s->t σ H Q->
  kn (px X.prog X.w) X.A (evalPart e X.env) (λu s'=>∃o H',Inv X pins σ H' s'/\IsPart u o/\Q o H') X.xe s
noncomputable abbrev P9:TO:=λ_ H Q=>Q fy H
noncomputable abbrev U9 (t:TE):TO:=fun σ H Q=>t σ H λx H1=>∃i,x= .int i/\Q (ag i) H1
section
variable {X:Cx} {e:L'} {te:TE} {lo hi:pa L'} {tl th:TO} {pos p2:Pos}
theorem pU:PO X fy P9:=by
 intro pins s σ H Q I h;rw[evalPart_none];exact hH ⟨fy,H,I,.none,h⟩
theorem jI (h:PE X e te):PO X (ag e) (U9 te):=by
 intro pins s σ H Q I hw;rw[evalPart_some];refine thn (h pins s σ H _ I hw) λu Z ⟨x,H1,Y,L,O⟩=>?_;obtain⟨i,rfl,q⟩:=O;obtain⟨t,rfl⟩:=L;exact⟨ag i,H1,Y,.int i t,q⟩
def SlR (X:Cx) (r:V->pa Int->pa Int->Hp->VK->Prop):Prop:=
 ∀(pins:CB) (s:hJ) (σ:St) (H:Hp) (x:V) (v O L:ic) (lo hi:pa Int) (Y:dt) (Q:VK),Inv X pins σ H s->RelV x v->s.heap.IsSliceOf Y O L .none->IsPart O lo->IsPart L hi->r x lo hi H Q->
  ∃T id,typeLookup (.type T) "__getitem__"=pure (ag (.builtin id))/\s.TypeIs v T/\kn (px X.prog X.w) X.A (getItem v (.ref Y)) (EP X pins σ Q) X.xe s
noncomputable abbrev tSl (r:V->pa Int->pa Int->Hp->VK->Prop) (te:TE) (tl th:TO):TE:=fun σ H Q=>te σ H λx H1=>tl σ H1 λl H2=>th σ H2 λu L=>r x l u L Q
theorem jg {r:V->pa Int->pa Int->Hp->VK->Prop} (hr:SlR X r) (he:PE X e te) (hl:PO X lo tl) (hu:PO X hi th):PE X (.Subscript e (.Slice lo hi fy p2) pos) (tSl r te tl th):=by
 intro pins s σ H Q I h;refine am9 (thn (he pins s σ H _ I h) λv γ ⟨x,H1,ξ,δ,ε⟩=>?_);refine wpAny_Slice (thn (hl pins γ σ H1 _ ξ ε) λZ β ⟨l,H2,ν,pl,θ⟩=>thn (hu pins β σ H2 _ ν θ) λY L ⟨u,α,I3,O,η⟩=>?_);rw[evalPart_none];refine hH ?_;have ι:Inv X pins σ α {L with heap:=L.heap.push {cls:= .type "slice",data:= .fields #[Z,Y,.none]}}:=I3.kept (t':=L.toks) λb ob q=>eH _ q;obtain⟨T,id,hT,ht,ζ⟩:=hr pins {L with heap:=L.heap.push {cls:= .type "slice",data:= .fields #[Z,Y,.none]}} σ α x v Z Y l u L.heap.objs.size Q ι δ (Heap.IsSliceOf.new ..) pl O η;show kn (px X.prog X.w) X.A (subscriptTail e (.Slice lo hi fy p2) v (.ref L.heap.objs.size)) (EP X pins σ Q) X.xe {L with heap:=L.heap.push {cls:= .type "slice",data:= .fields #[Z,Y,.none]}};exact tail_any (ops:=[.ref L.heap.objs.size,v]) ht hT ζ (by with_unfolding_all rfl)
noncomputable def cutV (xs:ee V) (lo hi:pa Int):ee V:=(xs.drop (HT.sIx xs.length 0 lo)).take (HT.sIx xs.length xs.length hi - HT.sIx xs.length 0 lo)
theorem xu (xs:ee V) (lo hi:pa Int):(cutV xs lo hi).length<=xs.length:=by
 unfold cutV;rw[sv,XI];omega
noncomputable def rSlT (K:ak):V->pa Int->pa Int->Hp->VK->Prop:=λx lo hi H Q=>∃a xs,x= .ref a/\SqT K H a xs/\
 ¬(HT.sIx xs.length 0 lo=0/\HT.sIx xs.length xs.length hi=xs.length)/\∀p,H p=fy->Q (.ref p) (upd H p (.tup (cutV xs lo hi)))
theorem Sw:SlR X (rSlT X.K):=by
 intro pins s σ H x v β α lo hi γ Q I Y hs pl O h;obtain⟨a,xs,rfl,Z,hw,q⟩:=h;cases Y;obtain⟨its,r,ht,hz⟩:=I.tuple Z;have L:its.toArray.size=xs.length:=by rw[x3];exact r.length.symm
 refine⟨"tuple",_,PyProof.Rows.slot_tuple_getitem.lookup,ht.typeIs,?_⟩;refine HT.getItem_tuple_cut ht hs pl O (by rw[L];exact hw) ?_ (by rw[L];exact hz);rw[L];refine⟨.ref s.heap.objs.size,_,I.laid (t':=s.toks) (o:= .tup (cutV xs lo hi)) (λb ob q=>eH _ q) (ov _) ?_,rfl,q _ (I.hok.fresh (ov _))⟩;exact⟨WK (xu xs lo hi) hz,_,(r.drop (HT.sIx xs.length 0 lo)).take (HT.sIx xs.length xs.length hi - HT.sIx xs.length 0 lo),IsTup.new _ _⟩
end
noncomputable def ixN (n:Nat) (i:Int):pa Nat:=if 0<=i then (if i < n then ag i.toNat else fy) else if -(n:Int)<=i then ag (i + n).toNat else fy
noncomputable def atI {α:Type} (xs:ee α) (i:Int):pa α:=(ixN xs.length i).bind λj=>xs[j]?
theorem Ri {n:Nat} {i:Int} {j:Nat} (h:ixN n i=ag j):seqIndex? i n=ag j/\j < n/\-(n:Int)<=i/\i < n:=by
 unfold ixN at h;by_cases Z:0<=i
 ·rw[qq Z] at h;by_cases h1:i < n
  ·rw[qq h1] at h;have e:i.toNat=j:=vu h;exact⟨by rw[seqIndex_of Z h1,e],@A,@A,h1⟩
  ·rw[n' h1] at h;cases h
 ·rw[n' Z] at h;by_cases h1: -(n:Int)<=i
  ·rw[qq h1] at h;have e:(i + n).toNat=j:=vu h;exact⟨by rw[seqIndex_neg @A h1,e],@A,h1,@A⟩
  ·rw[n' h1] at h;cases h
theorem ED {α:Type} {xs:ee α} {i:Int} {v:α} (h:atI xs i=ag v):∃j,seqIndex? i xs.length=ag j/\xs[j]? =ag v/\j < xs.length/\-(xs.length:Int)<=i/\i < xs.length:=by
 unfold atI at h;cases e:ixN xs.length i with
 | none=>rw[e] at h;cases h
 | some j=>
   rw[e] at h;obtain⟨h1,h2,L,ο⟩:=Ri e;exact⟨j,h1,h,h2,L,ο⟩
theorem d9 {α:Type} {xs:ee α} {j:Nat} {v:α} (h:xs[j]? =ag v):atI xs (j:Int)=ag v:=by
 have L:j < xs.length:=(b'.mp h).1
 have e:ixN xs.length (j:Int)=ag j:=by
  unfold ixN;rw[qq @A,qq @A];simp
 unfold atI;rw[e];exact h
theorem OH {α:Type} (xs:ee α) (v:α):atI (xs++[v]) (-1)=ag v:=by
 have hl:(xs++[v]).length=xs.length + 1:=by simp
 have e:ixN (xs++[v]).length (-1)=ag xs.length:=by
  unfold ixN;rw[hl,n' @C,qq @A];congr 1;omega
 unfold atI;rw[e];show(xs++[v])[xs.length]? =ag v;simp
def RT (b:L'):Prop:=∀o i,subscripted b false o i=operate [o,i] (getItem o i)
def IxR (X:Cx) (r:R2):Prop:=
 ∀(value L:L') (pins:CB) (s:hJ) (σ:St) (H:Hp) (x y:V) (v u:ic) (Q:VK),Inv X pins σ H s->RelV x v->RelV y u->r x y H Q->
  subscripted L false v u=operate [v,u] (getItem v u)->kn (px X.prog X.w) X.A (subscriptTail value L v u) (EP X pins σ Q) X.xe s
def MtR (X:Cx) (id:U') (r:V->ee V->Hp->VK->Prop):Prop:=
 ∀(pins:CB) (s:hJ) (σ:St) (H:Hp) (x:V) (xs:ee V) (v:ic) (us:CD) (Q:VK),Inv X pins σ H s->RelV x v->Vals xs us->r x xs H Q->
  kn (px X.prog X.w) X.A (call (.builtin id) (v::us)) (EP X pins σ Q) X.xe s
section
variable {X:Cx} {a b:L'} {ta tb:TE} {pos:Pos}
theorem aQ {r:R2} (hr:IxR X r) (ha:PE X a ta) (hb:PE X b tb) (hs:RT b):PE X (.Subscript a b pos) (tOp r ta tb):=by
 intro pins s σ H Q I h;exact am9 (binT ha hb I h λv u L x y H2 Z Y O q=>hr a b pins L σ H2 x y v u Q Z Y O q (hs _ _))
noncomputable def rIxL (K:ak):R2:=λx y H Q=>∃p xs i v,x= .ref p/\y= .int i/\SqL K H p xs/\atI xs i=ag v/\Q v H
noncomputable def rIxT (K:ak):R2:=λx y H Q=>∃p xs i v,x= .ref p/\y= .int i/\SqT K H p xs/\atI xs i=ag v/\Q v H
noncomputable def rIxS:R2:=λx y H Q=>∃z i c,x= .str z/\y= .int i/\z.length<=ix/\atI z.cps.toList i=ag c/\Q (.str ⟨#[c]⟩) H
theorem Rh:IxR X (rIxL X.K):=by
 intro value L pins s σ H x y v u Q I γ β h hs;obtain⟨p,xs,i,z,rfl,rfl,δ,he,q⟩:=h;cases γ;obtain⟨t,rfl⟩:=β;obtain⟨its,r,pl,hz⟩:=I.list δ;obtain⟨j,h1,h2,ζ,ο,ε⟩:=ED he;obtain⟨w,α,O⟩:=r.get h2;have hl:=r.length;have hn:=Fw;have fin:EP X pins σ Q w s:=⟨z,H,I,O,q⟩;by_cases Z:0<=i
 ·have Y:i.toNat=j:=by
   rw[seqIndex_of Z ε] at h1;exact vu h1
  exact item_listR pl.isList Z @A (by rw[Y];simpa using α) fin hs
 ·have Y:(i + (its.toArray.size:Int)).toNat=j:=by
   rw[seqIndex_neg @A ο] at h1;rw[x3,<-hl];exact vu h1
  exact aj2 (x:=w) pl.isList.typeIs slot_list_getitem.lookup
   (wpAny_getItem_list_neg (Q:=λr s'=>r=w/\EP X pins σ Q r s') pl.isList @A (by rw[x3]<;>omega) @A (by rw[Y];simpa using α) ⟨rfl,fin⟩) hs
theorem Ul:IxR X (rIxT X.K):=by
 intro value L pins s σ H x y v u Q I Z Y h hs;obtain⟨p,xs,i,z,rfl,rfl,α,he,q⟩:=h;cases Z;obtain⟨t,rfl⟩:=Y;obtain⟨its,r,pl,hz⟩:=I.tuple α;obtain⟨j,h1,h2,δ,ο,γ⟩:=ED he;obtain⟨w,β,O⟩:=r.get h2;have hl:=r.length;have hn:=Fw;have fin:EP X pins σ Q w s:=⟨z,H,I,O,q⟩
 exact aj2 (x:=w) pl.typeIs slot_tuple_getitem.lookup
  (getItem_tuple (j:=j) (Q:=λr s'=>r=w/\EP X pins σ Q r s') pl @A @A (by rw[x3,<-hl];exact h1) (by simpa using β) ⟨rfl,fin⟩) hs
theorem Lh:IxR X rIxS:=by
 intro value L pins s σ H x y v u Q I Y O h hs;obtain⟨z,i,c,rfl,rfl,hz,he,q⟩:=h;obtain⟨t,rfl⟩:=Y;obtain⟨t',rfl⟩:=O;obtain⟨j,h1,h2,γ,ο,Z⟩:=ED he;have hl:z.cps.toList.length=z.length:=by simp[Str.length]
 rw[hl] at h1 ο Z;have hn:=Fw
 exact tail_any (ZQ s z t) slot_str_getitem.lookup (getItem_str (c:=c) (by
  have β:decide (i < -(2 ^ 63:Int))=false:=gz @A;have α:decide (i≥2 ^ 63)=false:=gz @A;rw[β,α,Bool.or_false]) (by rw[h1];simpa using h2) ⟨.str ⟨#[c]⟩,H,I.tok _,⟨_,rfl⟩,q⟩) hs
theorem AW (lo hi:pa Int) (n:Nat):(sliceBounds lo hi fy n).1=((HT.sIx n 0 lo:Nat):Int)/\(sliceBounds lo hi fy n).2.1=((HT.sIx n n hi:Nat):Int)/\(sliceBounds lo hi fy n).2.2=1:=by
 refine⟨?_,?_,rfl⟩
 ·cases lo with
  | none=>simp[sliceBounds,HT.sIx]
  | some i=>
    simp only[sliceBounds,HT.sIx,af5,show(1:Int) > 0 by decide,YF];by_cases h:i < 0
    ·simp only[h,YF]<;>omega
    ·simp only[h,Zk]<;>omega
 ·cases hi with
  | none=>simp[sliceBounds,HT.sIx]
  | some i=>
    simp only[sliceBounds,HT.sIx,af5,show(1:Int) > 0 by decide,YF];by_cases h:i < 0
    ·simp only[h,YF]<;>omega
    ·simp only[h,Zk]<;>omega
theorem zr (its:CD) (lo hi:pa Int):slicePick its.toArray lo hi fy=((its.drop (HT.sIx its.length 0 lo)).take (HT.sIx its.length its.length hi - HT.sIx its.length 0 lo)).toArray:=by
 obtain⟨h1,h2,L⟩:=AW lo hi its.toArray.size;unfold slicePick;rw[h1,h2,L];simp only[sliceRange_one,pick_run,x3]<;>rfl
noncomputable def rSlL (K:ak):V->pa Int->pa Int->Hp->VK->Prop:=λx lo hi H Q=>∃a xs,x= .ref a/\SqL K H a xs/\∀p,H p=fy->Q (.ref p) (upd H p (.lst (cutV xs lo hi)))
theorem Qw:SlR X (rSlL X.K):=by
 intro pins s σ H x v β α lo hi γ Q I Y hs pl O h;obtain⟨a,xs,rfl,Z,q⟩:=h;cases Y;obtain⟨its,r,ht,hz⟩:=I.list Z;have L:=r.length;refine⟨"list",_,slot_list_getitem.lookup,ht.isList.typeIs,?_⟩;refine wpAny_getItem_list_slice ht.isList hs pl O .none @F ?_ (by rw[x3]<;>omega);rw[zr,<-L];refine⟨.ref s.heap.objs.size,_,I.laid (t':=s.toks) (o:= .lst (cutV xs lo hi)) (λb ob q=>eH _ q) (ov _) ?_,rfl,q _ (I.hok.fresh (ov _))⟩;exact⟨WK (xu xs lo hi) hz,_,0,(r.drop (HT.sIx xs.length 0 lo)).take (HT.sIx xs.length xs.length hi - HT.sIx xs.length 0 lo),kv _ rfl⟩
noncomputable def nS:V->V6
 | .non=>true
 | .bl _=>true
 | .int _=>true
 | .str _=>true
 | _=>false
noncomputable def eqV:V->V->V6
 | .non,.non=>true
 | .bl a,.bl b=>a == b
 | .bl a,.int b=>(if a then 1 else 0) == b
 | .int a,.bl b=>a == (if b then 1 else 0)
 | .int a,.int b=>a == b
 | .str a,.str b=>a == b
 | _,_=>false
theorem Py {A:z5} {s:hJ} {y x:V} {u v:ic} (O:RelV y u) (L:RelV x v) (Y:nS y=true) (fx:nS x=true):ah4 A s u v (eqV y x):=by
 cases y with
 | non=>
   cases O;cases x with
   | non=>cases L;exact SeqAt.EqAt.same _
   | bl b=>cases L;exact SeqAt.EqAt.none_bool b
   | int b=>obtain⟨t,rfl⟩:=L;exact SeqAt.EqAt.none_int b t
   | str b=>obtain⟨t,rfl⟩:=L;exact SeqAt.EqAt.none_str b t
   | _=>exact hB (show false=true from fx) iv
 | bl a=>
   cases O;cases x with
   | non=>cases L;exact SeqAt.EqAt.bool_none a
   | bl b=>cases L;exact SeqAt.EqAt.bool_bool a b
   | int b=>obtain⟨t,rfl⟩:=L;exact SeqAt.EqAt.bool_int a b t
   | str b=>obtain⟨t,rfl⟩:=L;exact SeqAt.EqAt.bool_str a b t
   | _=>exact hB (show false=true from fx) iv
 | int a=>
   obtain⟨t',rfl⟩:=O;cases x with
   | non=>cases L;exact SeqAt.EqAt.int_none a t'
   | bl b=>cases L;exact SeqAt.EqAt.int_bool a t' b
   | int b=>obtain⟨t,rfl⟩:=L;exact SeqAt.EqAt.int_int a t' b t
   | str b=>obtain⟨t,rfl⟩:=L;exact ad2 a t' b t
   | _=>exact hB (show false=true from fx) iv
 | str a=>
   obtain⟨t',rfl⟩:=O;cases x with
   | non=>cases L;exact SeqAt.EqAt.str_none a t'
   | bl b=>cases L;exact SeqAt.EqAt.str_bool a t' b
   | int b=>obtain⟨t,rfl⟩:=L;exact ad1 a t' b t
   | str b=>obtain⟨t,rfl⟩:=L;exact SeqAt.EqAt.str_str a t' b t
   | _=>exact hB (show false=true from fx) iv
 | _=>exact hB (show false=true from Y) iv
noncomputable def eqU (x:V) (u:ic):Bool:=match u with
 | .none=>eqV .non x
 | .bool b=>eqV (.bl b) x
 | .int i _=>eqV (.int i) x
 | .str z _=>eqV (.str z) x
 | _=>false
theorem Pw {x y:V} {u:ic} (r:RelV y u) (f:nS y=true):eqU x u=eqV y x:=by
 cases y with
 | non=>cases r;rfl
 | bl b=>cases r;rfl
 | int i=>obtain⟨t,rfl⟩:=r;rfl
 | str z=>obtain⟨t,rfl⟩:=r;rfl
 | _=>exact hB (show false=true from f) iv
theorem xy {x:V}:∀{xs:ee V} {us:CD},Vals xs us->xs.all nS=true->us.any (eqU x)=xs.any λy=>eqV y x
 | _,_,.nil,_=>rfl
 | y::xs,u::us,.cons r t,f=>by
   rw[Z3,R'] at f;rw[Z1,Z1,Pw r f.1,xy t f.2]
theorem rB {A:z5} {s:hJ} {x:V} {v:ic} (L:RelV x v) (fx:nS x=true):∀{xs:ee V} {us:CD},Vals xs us->xs.all nS=true->∀u∈us,ah4 A s u v (eqU x u)
 | _,_,.nil,_=>λu hu=>by cases hu
 | y::xs,u::us,.cons r t,f=>λO hu=>by
   rw[Z3,R'] at f;rcases xY.mp hu with rfl | hu
   ·rw[Pw r f.1];exact Py r L f.1 fx
   ·exact rB L fx t f.2 O hu
noncomputable def inV (x:V) (xs:ee V):Bool:=xs.any λy=>eqV y x
noncomputable def rIn (K:ak) (neg:V6):R2:=λx y H Q=>∃p xs,y= .ref p/\(SqL K H p xs∨SqT K H p xs)/\nS x=true/\xs.all nS=true/\Q (.bl (if neg then !inV x xs else inV x xs)) H
theorem Ky:OpR X (compareOp .In) (rIn X.K false):=by
 intro pins s σ H x y v u Q I L O h;obtain⟨p,xs,rfl,hq,fx,fs,q⟩:=h;cases O;rcases hq with hq | hq
 ·obtain⟨its,r,pl,hz⟩:=I.list hq;refine SeqAt.in_listAt (eqU x) pl.isList (λw hw=>rB L fx r fs w (by simpa using hw)) ⟨.bl _,H,I,rfl,?_⟩;rw[show its.toArray.any (eqU x)=its.any (eqU x) by simp,xy r fs];exact q
 ·obtain⟨its,r,pl,hz⟩:=I.tuple hq;refine SeqAt.in_tupleAt (eqU x) pl (λw hw=>rB L fx r fs w (by simpa using hw)) ⟨.bl _,H,I,rfl,?_⟩;rw[show its.toArray.any (eqU x)=its.any (eqU x) by simp,xy r fs];exact q
theorem Bd:OpR X (compareOp .NotIn) (rIn X.K true):=by
 intro pins s σ H x y v u Q I L O h;obtain⟨p,xs,rfl,hq,fx,fs,q⟩:=h;cases O;rcases hq with hq | hq
 ·obtain⟨its,r,pl,hz⟩:=I.list hq;refine SeqAt.notIn_listAt (eqU x) pl.isList (λw hw=>rB L fx r fs w (by simpa using hw)) ⟨.bl _,H,I,rfl,?_⟩;rw[show its.toArray.any (eqU x)=its.any (eqU x) by simp,xy r fs];exact q
 ·obtain⟨its,r,pl,hz⟩:=I.tuple hq;refine SeqAt.notIn_tupleAt (eqU x) pl (λw hw=>rB L fx r fs w (by simpa using hw)) ⟨.bl _,H,I,rfl,?_⟩;rw[show its.toArray.any (eqU x)=its.any (eqU x) by simp,xy r fs];exact q
theorem Ct:n8 X (.type "list") (λxs H Q=>∃p ys,xs=[.ref p]/\(SqL X.K H p ys∨SqT X.K H p ys)/\∀l,H l=fy->Q (.ref l) (upd H l (.lst ys))):=by
 intro pins s σ H xs us Q I r h;obtain⟨p,ys,rfl,hq,q⟩:=h;obtain⟨u,rfl,Z⟩:=xH r;cases Z
 have fin:∀(its:CD),Vals ys its->ys.length<=ix->∀(h':N') (L:Nat),(∀b o',s.heap.get? b=ag o'->h'.get? b=ag o')->
   h'.get? s.heap.objs.size=ag {cls:= .type "list",dict:=fy,data:= .seq its.toArray L,slots:=#[]}->EP X pins σ Q (.ref s.heap.objs.size) {s with heap:=h'}:=λits r' hz h' L kp e=>
  ⟨.ref s.heap.objs.size,_,I.laid (t':=s.toks) kp (ov _) (show gj X.prog X.w _ h' _ (.lst ys) from⟨hz,its,L,r',e⟩),rfl,q _ (I.hok.fresh (ov _))⟩
 rcases hq with hq | hq
 ·obtain⟨its,r',pl,hz⟩:=I.list hq;have O:=r'.length;obtain⟨o,ho,Y,n,hd⟩:=pl.isList;exact call_list_seq p (.inl rfl) ho Y hd (λh' L kp e=>fin its r' hz h' L kp e) (by simp only[x3]<;>omega)
 ·obtain⟨its,r',pl,hz⟩:=I.tuple hq;have O:=r'.length;obtain⟨o,ho,Y,n,hd⟩:=pl;exact call_list_seq p (.inr rfl) ho Y hd (λh' L kp e=>fin its r' hz h' L kp e) (by simp only[x3]<;>omega)
theorem Az:n8 X (.type "tuple") (λxs H Q=>∃p ys,xs=[.ref p]/\((SqL X.K H p ys/\∀l,H l=fy->Q (.ref l) (upd H l (.tup ys)))∨(SqT X.K H p ys/\Q (.ref p) H))):=by
 intro pins s σ H xs us Q I r h;obtain⟨p,ys,rfl,h⟩:=h;obtain⟨u,rfl,Y⟩:=xH r;cases Y;rcases h with ⟨L,q⟩ | ⟨L,q⟩
 ·obtain⟨its,r',pl,hz⟩:=I.list L;have O:=r'.length;refine call_tuple_list pl.isList (λh' kp=>?_) (by simp only[x3]<;>omega);have I1:Inv X pins σ H {s with heap:=h'}:=I.kept (t':=s.toks) kp
  have Z:Inv X pins σ (upd H h'.objs.size (.tup ys)) {s with heap:=h'.push {cls:= .type "tuple",data:= .seq its.toArray}}:=
   I1.laid (t':=s.toks) (λb o e=>eH _ e) (ov _) (show gj X.prog X.w _ _ _ (.tup ys) from⟨hz,its,r',IsTup.new _ _⟩)
  exact⟨.ref h'.objs.size,_,Z,rfl,q _ (I1.hok.fresh (ov _))⟩
 ·obtain⟨its,r',pl,hz⟩:=I.tuple L;exact call_tuple_same pl ⟨.ref p,H,I,rfl,q⟩
def tyV (K:ak) (T:U') (x:V) (H:Hp):Prop:=match x with
 | .str _=>T="str"
 | .int _=>T="int"
 | .ref p=>(T="list"/\∃xs,SqL K H p xs)∨(T="tuple"/\∃o,K.lookup p=ag o/\o.cls= .type "tuple"/\o.dict=fy)∨
   (T="dict"/\((∃kvs,H p=ag (.dK kvs))∨∃kvs,H p=ag (.dT kvs)))∨(T="set"/\∃S n,H p=ag (.set S n))
 | _=>False
theorem OV {pins:CB} {σ:St} {H:Hp} {s:hJ} {T:U'} {x:V} {v:ic} (I:Inv X pins σ H s) (r:RelV x v) (ty:tyV X.K T x H):
  s.TypeIs v T/\∀a,v= .ref a->∃ob,s.heap.get? a=ag ob/\ob.dict=none:=by
 cases x with
 | str z=>
   obtain⟨t,rfl⟩:=r;cases(show T="str" from ty);exact⟨ZQ s z t,λ_ e=>nomatch e⟩
 | int i=>
   obtain⟨t,rfl⟩:=r;cases(show T="int" from ty);exact⟨am8 s i t,λ_ e=>nomatch e⟩
 | ref p=>
   cases r;rcases ty with ⟨rfl,xs,O⟩ | ⟨rfl,o,hk,Y,hd⟩ | ⟨rfl,hk⟩ | ⟨rfl,S,n,hk⟩
   ·obtain⟨its,_,pl,_⟩:=I.list O;refine⟨pl.isList.typeIs,λa e=>?_⟩;cases e;obtain⟨o,n,e,c,hd,_⟩:=pl;exact⟨o,e,hd⟩
   ·refine⟨⟨o,I.kIn p o hk,Y⟩,λa e=>?_⟩;cases e;exact⟨o,I.kIn _ o hk,hd⟩
   ·have z:∃o,s.heap.get? p=ag o/\o.ExactDict:=by
     rcases hk with ⟨kvs,hk⟩ | ⟨kvs,hk⟩
     ·obtain⟨_,_,_,_,o,_,_,e,ex,_⟩:=I.hok p _ hk;exact⟨o,e,ex⟩
     ·obtain⟨_,_,_,_,o,_,_,e,ex,_⟩:=I.hok p _ hk;exact⟨o,e,ex⟩
    obtain⟨o,e,ex⟩:=z;refine⟨⟨o,e,ex.1⟩,λa L=>?_⟩;cases L;exact⟨o,e,ex.2.1⟩
   ·obtain⟨o,_,_,_,e,ex,_⟩:=I.hok p _ hk;refine⟨⟨o,e,ex.1⟩,λa L=>?_⟩;cases L;exact⟨o,e,ex.2.1⟩
 | _=>exact y' ty
noncomputable abbrev tBM0 (K:ak) (T:U') (r:V->ee V->Hp->VK->Prop) (to:TE):TE:=fun σ H Q=>to σ H λx H1=>tyV K T x H1/\r x [] H1 Q
noncomputable abbrev tBM (K:ak) (T:U') (r:V->ee V->Hp->VK->Prop) (to:TE) (t:TA):TE:=fun σ H Q=>to σ H λx H1=>tyV K T x H1/\t σ H1 λxs H2=>r x xs H2 Q
variable {o e:L'} {es:ee L'} {to:TE} {t:TA} {name:mu} {apos cpos:Pos} {T id:U'} {r:V->ee V->Hp->VK->Prop}
theorem TL (α:PlainAttrs T) (slot:Slot T name id) (Y:typeOf (.builtin id)=pure (.type "method_descriptor")) (hm:MtR X id r) (ho:PE X o to)
  (O:attributeBase o name X.env (eval o X.env)=eval o X.env:=by rfl) (L:(apos.endLine == cpos.line)=true:=by rfl):PE X (.Call (.Attribute o name apos) [] [] cpos) (tBM0 X.K T r to):=by
 intro pins s σ H Q I h;refine wpAny_Call_method0_late O L (thn (ho pins s σ H _ I h) λv γ ⟨x,H1,β,Z,ty,δ⟩=>?_);obtain⟨h1,h2⟩:=OV β Z ty;exact⟨T,id,α,slot,Y,h1,h2,ae1 rfl (PySem.evalArgs_none (hm pins γ σ H1 x [] v [] Q β Z .nil δ))⟩
theorem Vv (α:PlainAttrs T) (slot:Slot T name id) (β:typeOf (.builtin id)=pure (.type "method_descriptor")) (hm:MtR X id r) (ho:PE X o to) (ha:PA X (e::es) t)
  (Y:attributeBase o name X.env (eval o X.env)=eval o X.env:=by rfl)
  (Z:((backTo cpos (ll (e::es) X.env)).all (λx=> !x.1)&&(backToKw cpos (keywordEach [] X.env)).all (λx=>x.1.isSome)
   &&decide ((e::es).length + ([]:ee Keyword).length + (if ([]:ee Keyword).isEmpty then 0 else 1) < 30))=true:=by rfl)
  (O:(apos.endLine == cpos.line)=true:=by rfl) (hs:ll (e::es) X.env=(false,eval e X.env)::ll es X.env:=by rfl) (L:(backTo cpos (ll es X.env)).any (·.1)=false:=by rfl):
  PE X (.Call (.Attribute o name apos) (e::es) [] cpos) (tBM X.K T r to t):=by
 intro pins s σ H Q I h;refine wpAny_Call_method_late Y Z O rfl (thn (ho pins s σ H _ I h) λv ι ⟨x,H1,ε,γ,ty,ν⟩=>?_);obtain⟨h1,h2⟩:=OV ε γ ty;refine⟨T,id,α,slot,β,h1,h2,?_⟩;have δ:=ha cpos pins ι σ H1 _ ε ν;rw[hs] at δ ⊢;refine ae1 (by show(false||(backTo cpos (ll es X.env)).any (·.1))=false;rw[L]<;>rfl) (ag0 ?_);exact thn δ λus ζ ⟨vs,H2,ξ,η,θ⟩=>hm pins ζ σ H2 x vs v us Q ξ γ η θ
end
def MtM (X:Cx) (id:U') (r:V->ee V->Hp->VK->Prop):Prop:=
 ∀(pins:CB) (s:hJ) (σ:St) (H:Hp) (x:V) (xs:ee V) (v:ic) (us:CD) (Q:VK),Inv X pins σ H s->RelV x v->Vals xs us->r x xs H Q->
  kn (px X.prog X.w) X.A (call (.builtin id) (v::us)) (EP X pins σ Q) X.xe s
theorem Vals.one:∀{x:V} {us:CD},Vals [x] us->∃u,us=[u]/\RelV x u
 | _,_,.cons r .nil=>⟨_,rfl,r⟩
theorem Vals.two:∀{x y:V} {us:CD},Vals [x,y] us->∃u v,us=[u,v]/\RelV x u/\RelV y v
 | _,_,_,.cons r (.cons q .nil)=>⟨_,_,rfl,r,q⟩
theorem Vals.reverse {xs:ee V} {us:CD} (h:Vals xs us):Vals xs.reverse us.reverse:=by
 induction h with
 | nil=>exact .nil
 | cons r t ih=>rw[Yp,Yp];exact Vals.append ih (.cons r .nil)
theorem Vals.rep {xs:ee V} {us:CD} (h:Vals xs us):∀k:Nat,Vals (p' k xs).flatten (p' k us).flatten
 | 0=> .nil
 | k + 1=>by
   rw[X1,X1,Yr,Yr];exact Vals.append h (Vals.rep h k)
theorem BY (its:CD):∀(k:Nat) (Y:CD),
  ai3 (λx1 x2=>x1++x2) Y.toArray (p' k its.toArray)=(Y++(p' k its).flatten).toArray
 | 0,Y=>by simp
 | k + 1,Y=>by
   have e:Y.toArray++its.toArray=(Y++its).toArray:=by simp
   have L:(Y++its)++(p' k its).flatten=Y++(p' (k + 1) its).flatten:=by
    rw[X1,Yr,VW]
   rw[<-L,<-BY its k (Y++its),<-e,X1,al3]
section
variable {X:Cx} {pins:CB} {σ:St} {H:Hp} {s:hJ} {l b:dt} {xs ys zs:ee V}
theorem Inv.lset {its its':CD} {n:Nat} {f:CN->CN} {t':Nat} (I:Inv X pins σ H s) (χ:H l=ag (.lst xs))
  (e:s.heap.get? l=ag {cls:= .type "list",data:= .seq its.toArray n}) (hf:f its.toArray=its'.toArray) (L:Vals ys its') (hz:ys.length<=ix):
  Inv X pins σ (upd H l (.lst ys)) {s with heap:=s.heap.update l (ab6 f),toks:=t'}:=by
 have q:=PySem.IsL.update e f;rw[hf] at q;refine I.write (x:=l) (e:=l) (by rw[χ];exact trivial) (.inl rfl) (fun γ u hb O=>(X4 s.heap (ab6 f) (Wf hb)).trans O) ⟨_,q⟩ ?_;exact⟨hz,its',_,L,q⟩
theorem Inv.lnew {its:CD} {t':Nat} (I:Inv X pins σ H s) (L:Vals ys its) (hz:ys.length<=ix):
  Inv X pins σ (upd H s.heap.objs.size (.lst ys)) {s with heap:=s.heap.push {cls:= .type "list",data:= .seq its.toArray},toks:=t'}:=
 I.laid (λ_ _ q=>eH _ q) (ov _) ⟨hz,its,0,L,kv _ rfl⟩
theorem Inv.fresh (I:Inv X pins σ H s):H s.heap.objs.size=none:=I.hok.fresh (ov _)
theorem Inv.lstM (I:Inv X pins σ H s) (χ:H l=ag (.lst xs)):xs.length<=ix/\∃(its:CD) (n:Nat),Vals xs its/\xs.length=its.length/\s.heap.get? l=ag {cls:= .type "list",data:= .seq its.toArray n}:=by
 obtain⟨z,its,n,r,e⟩:=I.hok l _ χ;exact⟨z,its,n,r,r.length,e⟩
theorem Fq {n:Nat} (h:n<=ix):Xj n=false:=by
 unfold Xj;exact gz @A
end
section
variable {X:Cx}
noncomputable def Kg:V->ee V->Hp->VK->Prop:=λx vs H Q=>∃l xs y,x= .ref l/\vs=[y]/\H l=ag (.lst xs)/\xs.length < ix/\Q .non (upd H l (.lst (xs++[y])))
theorem eB:MtM X "list.append" Kg:=by
 intro pins s σ H x vs v us Q I L O h;obtain⟨l,xs,y,rfl,rfl,χ,hz,q⟩:=h;cases L;obtain⟨u,rfl,Y⟩:=O.one;obtain⟨z,its,n,r,hl,e⟩:=I.lstM χ;refine Yg F.slot_list_append ⟨_,e,rfl⟩ F.entry_list_append (F.args_list_append_2 _ _) (PySem.list_append l its.toArray n u (by rw[x3];omega)) ⟨e,?_⟩;refine⟨.non,_,I.lset (its':=its++[u]) χ e @F (r.append (.cons Y .nil)) ?_,rfl,q⟩;rw[gs,V8];omega
noncomputable def DA:V->ee V->Hp->VK->Prop:=λx vs H Q=>∃l b xs zs,x= .ref l/\vs=[.ref b]/\H l=ag (.lst xs)/\H b=ag (.lst zs)/\xs.length + zs.length<=ix/\Q .non (upd H l (.lst (xs++zs)))
theorem rA:MtM X "list.extend" DA:=by
 intro pins s σ H x vs v us Q I Y Z h;obtain⟨l,b,xs,zs,rfl,rfl,χ,γ,hz,q⟩:=h;cases Y;obtain⟨u,rfl,α⟩:=Z.one;cases α;obtain⟨z,its,n,r,hl,e⟩:=I.lstM χ;obtain⟨ε,L,β,η,hl2,δ⟩:=I.lstM γ;have hsz:its.toArray.size + L.toArray.size<=sizeLine:=by rw[x3,x3];omega
 have O:¬(!its.toArray.isEmpty&&Xj (its.toArray.size + L.toArray.size))=true:=by
  rw[Fq hsz,Wj];exact iv
 refine Yg F.slot_list_extend ⟨_,e,rfl⟩ F.entry_list_extend (F.args_list_extend_2 _ _)
  (AutoSeq1.list_extend_list_list_0 l its.toArray n b L.toArray β O (by rw[x3];omega) @A) ⟨e,δ,?_⟩
 refine⟨.non,_,I.lset (its':=its++L) χ e @F (r.append η) ?_,rfl,q⟩;rw[gs];omega
noncomputable def rCat:R2:=λx y H Q=>∃l b xs zs,x= .ref l/\y= .ref b/\H l=ag (.lst xs)/\H b=ag (.lst zs)/\xs.length + zs.length<=ix/\∀p,H p=fy->Q (.ref p) (upd H p (.lst (xs++zs)))
theorem ke:OpR X (binaryOp .Add) rCat:=by
 intro pins s σ H x y v u Q I Y O h;obtain⟨l,b,xs,zs,rfl,rfl,χ,Z,hz,q⟩:=h;cases Y;cases O;obtain⟨z,its,n,r,hl,e⟩:=I.lstM χ;obtain⟨β,L,γ,η,hl2,α⟩:=I.lstM Z;refine PySem.P.add_list e α ?_ (by rw[x3,x3];omega);have ea:its.toArray++L.toArray=(its++L).toArray:=by simp
 rw[ea];exact⟨.ref _,_,I.lnew (t':=s.toks) (r.append η) (by rw[gs];omega),rfl,q _ I.fresh⟩
noncomputable def rRep:R2:=λx y H Q=>∃l k xs,x= .ref l/\y= .int k/\H l=ag (.lst xs)/\-(2 ^ 63)<=k/\k < 2 ^ 63/\xs.length * k.toNat<=ix/\
 ∀p,H p=fy->Q (.ref p) (upd H p (.lst (p' k.toNat xs).flatten))
theorem Re {α:Type} (xs:ee α) (k:Nat):(p' k xs).flatten.length=k * xs.length:=by
 induction k with
 | zero=>simp
 | succ k ih=>rw[X1,Yr,gs,ih,Nat.succ_mul,Nat.add_comm]
theorem Pi:OpR X (binaryOp .Mult) rRep:=by
 intro pins s σ H x y v u Q I α Z h;obtain⟨l,k,xs,rfl,rfl,χ,h1,h2,hz,q⟩:=h;cases α;obtain⟨t,rfl⟩:=Z;obtain⟨z,its,n,r,hl,e⟩:=I.lstM χ;have Y:its.toArray.size * k.toNat<=sizeLine:=by rw[x3,<-hl];exact hz
 have ε:¬its.toArray.size * k.toNat > (2 ^ 63 - 1) / 8:=by
  have:(ix:Nat)<=(2 ^ 63 - 1) / 8:=by decide
  omega
 have δ:¬(!Builtin.List.listFitsIndex k)=true:=by
  rw[fitsIndex_both h1 h2];exact iv
 have L:¬Xj (its.toArray.size * k.toNat)=true:=by
  rw[Fq Y];exact iv
 have O:ai3 (λx1 x2=>x1++x2) #[] (p' (if its.toArray.isEmpty=true then 0 else k.toNat) its.toArray)=(p' k.toNat its).flatten.toArray:=by
  have β:∀m:Nat,ai3 (λx1 x2=>x1++x2) #[] (p' m its.toArray)=(p' m its).flatten.toArray:=λm=>by
   have:=BY its m [];rw[List.nil_append] at this;exact this
  rw[β];cases its with
  | nil=>simp
  | cons a r'=>rw[n' @F]
 refine wpAny_binaryOp_repeat_ref (T:="list") (U:="int") @C ⟨_,e,rfl⟩ (λs'=>am8 s' k t) noFill_list_mul F.fills_int_mul F.slot_int_rmul repeat_list F.slot_int_index.lookup
  (Yg F.slot_int_rmul (am8 s k t) F.entry_int_rmul (F.args_int_rmul_2 _ _) (int___rmul___int_list k t l its.toArray n)
   ⟨e,rfl,⟨_,e,rfl⟩,Yg F.slot_list_mul ⟨_,e,rfl⟩ F.entry_list_mul (F.args_list_mul_2 _ _) (AutoListH.list___mul___list_int_3 l its.toArray n k t δ ε L) ⟨e,?_⟩⟩)
 rw[O];exact⟨.ref _,_,I.lnew (t':=s.toks) (r.rep k.toNat) (by rw[Re,ac7];exact hz),rfl,q _ I.fresh⟩
end
end L2
namespace Att
open PySem PySem.W PySem.Calls PyProof.Rows
theorem wK {P:Params} {h:N'}:∀(ns:E') (vs:CD),WellAll P h vs (ns.map WData.int)->IntsAre vs ns:=by
 intro ns
 induction ns with
 | nil=>
   intro vs w;rw[ag2] at w;cases w;exact .nil
 | cons n ns ih=>
   intro vs w;rw[W5] at w;cases w with
   | cons a b=>
     cases a;exact .cons _ _ (ih _ b)
theorem JP {l:aj1} {n:Nat} (hn:l.most=ag n) {P:Params} {h:N'} {args:ee WData} {L:CD}
  (ψ:l.row.toRowW.claim.pre args=true) (Z:WellAll P h L args):
  ∃a vs ns,L=[sb a]/\args=[WData.list (ns.map WData.int)]/\h.get? a=ag {cls:= .type "list",data:= .seq vs.toArray}/\IntsAre vs ns/\ns.length<=n:=by
 have α:WShape.hasAll [] args [.list .int]=true:=(pre_splitW ψ).1;have β:l.pre.holds [] {args:=args}=true:=(pre_splitW ψ).2;obtain⟨d,r,rfl,h1,h2⟩:=hasAllW_cons α;obtain rfl:=hasAllW_nil h2;obtain⟨xs,rfl,ε⟩:=hasW_list h1;obtain⟨ns,rfl⟩:=items_int ε
 have O:ns.length<=n:=by
  unfold OpenLaw.pre at β
  have ο:(WTm.not (.lt (.lit (.int (n:Int))) (.len (.arg 0)))).holds [] {args:=[.list (ns.map .int)]}=true:=by
   have ο:=(holds_andW β).1;rw[hn] at ο;exact ο
  have Y:=condW_of ο (w_not (w_lt w_lit (w_len_list (w_arg rfl))));rw[a'] at Y;refine ZV λq=>?_;have ν:(n:Int) < ((ns.length:Nat):Int):=by omega
  first
   | (rw[hG ν] at Y;exact hB Y @C)
   | (simp at Y;omega)
 cases Z with
 | cons δ γ=>
   cases γ;cases δ with
   | list ho ζ=>exact⟨_,_,ns,rfl,rfl,ho,wK ns _ ζ,O⟩
theorem Kr (l:aj1) (args:ee WData):l.row.toRowW.claim.post args (.bool true) args=true:=
 postW_of (r:=l.row.toRowW) (X:=(true == true))
  (show an8 [] (.bool true) .bool=true by first | rfl | decide | simp[an8,WShape.arms,WShape.armsAll])
  (show(WTm.eq .res (.lit (.bool true))).value [] {args:=args,res:=ag (.bool true),after:=args}=ag (.bool (true == true)) from w_eq_bool (w_res rfl) w_lit) rfl
theorem attach_call {l:aj1} {n:Nat} {q:oT} {O:B1} {χ:CM->N'->Prop} {η:w7->N'->Prop} {d:DefRec}
  (hn:l.most=ag n) (π:d.params.defaults=[])
  (call:∀(w:w7) (s₀ L:hJ) (mg θ:CM) (β:dt) (o:Obj) (ζ ε υ:ic) (a:dt) (vs:CD) (ns:E'),
   Ground q O [] χ w s₀ mg θ L.heap->η w L.heap->
   L.heap.get? β=ag o->o.data= .func (docDef d.name d.params d.body d.scope ζ ε υ)->L.heap.CodeRec ε d.name->mg d.name=ag (.ref β)->
   L.heap.get? a=ag {cls:= .type "list",data:= .seq vs.toArray}->IntsAre vs ns->ns.length<=n->L.gens=#[]->
   codeAny (px l.prog w) callerA (.call (.ref β) ⟨[.ref a],[]⟩) (λr s'=>r= .ok (.ret (.bool true))/\OldK L.heap s'.heap/\s'.os=L.os/\AllBare s'.gens) L):
  WalkO q O χ η l.row.toRowW d [] (λf vs=>ah5 f vs):=by
 intro w s₀ L mg θ G Y β o ζ ε υ dV kV ho hd ρ α ν hg args τ as ψ ξ φ ι a0;obtain rfl:dV= .none:=Dflts.none α π;obtain rfl:kV= .none:=Dflts.noKw α;obtain⟨a,vs,ns,rfl,rfl,γ,Z,δ⟩:=JP hn ψ ι;refine enter_call (X' (call w s₀ L mg θ β o ζ ε υ a vs ns G Y ho (fd_plain hd) ρ ν γ Z δ hg) λr s' ω=>?_);obtain⟨rfl,h2,h3,ο⟩:=ω;exact⟨.inl ⟨.bool true,.bool true,[],rfl,λ_=>rfl,.bool true,Kr l _,λ_=>⟨List.Pairwise.nil,λ_ hm=>(nomatch hm)⟩⟩,h2,h3,ο⟩
end Att
namespace L2
open PySem PySem.Spec PyProof.Rows
theorem vf:∀{vs:CD} {ns:E'},IntsAre vs ns->Vals (ns.map V.int) vs
 | _,_,.nil=> .nil
 | _,_,.cons n t h=> .cons ⟨t,rfl⟩ (vf h)
def Only (H:Hp):Prop:=∀b,H b=fy∨∃o xs,H b=ag (.frz o (.lst xs))
theorem N8 {P:oT} {w:w7} {K:ak} {mg η:CM} {CX:CXT} {k:Nat} {β a:dt} {fd:hE} {x:mu} {sp:Sp} {L:hJ} {vs:CD} {ns:E'}
  (ω:K.In L.heap) (δ:L.heap.Ns Q' mg) (hb:L.heap.Ns builtinsNs η) (ο:∀x:mu,x≠"__name__"->η x=bootBuiltins x) (ε:L.heap.NoLimit) (hg:L.gens=#[])
  (ha:L.heap.get? a=ag {cls:= .type "list",data:= .seq vs.toArray}) (hi:IntsAre vs ns) (hl:ns.length<=ix) (hr:Room k callerA)
  (F:∀base:N',K.In base->base.Ns Q' mg->FnOk P w K mg base CX k β fd [x] sp) (α:∀(s:hJ) (u:ic),BindsTo s fd ⟨[u],[]⟩ [(x,u)])
  (ξ:∀H:Hp,Only H->SqL K H a (ns.map V.int)->sp [.ref a] H (λv _=>v= .bl true) λ_ _ _=>False)
  (π:∀H e s',CX [] H L (λ_ _ _=>False) e s'->False):
  codeAny (px P w) callerA (.call (.ref β) ⟨[.ref a],[]⟩) (λr s'=>r= .ok (.ret (.bool true))/\OldK L.heap s'.heap/\s'.os=L.os/\AllBare s'.gens) L:=by
 have φ:=vf hi;have θ:=hi.length
 have τ:∀H:Hp,Only H->SqL K H a (ns.map V.int)->HOk P w H L.heap->(∀b,H b≠fy->b=a)->(H a≠fy->K.lookup a=fy)->
   codeAny (px P w) callerA (.call (.ref β) ⟨[.ref a],[]⟩) (λr s'=>r= .ok (.ret (.bool true))/\OldK L.heap s'.heap/\s'.os=L.os/\AllBare s'.gens) L:=by
  intro H hO hS hok χ ρ;have O:∀{b:dt} {o:Obj},L.heap.get? b=ag o->H b=fy->(hidT L.heap H).get? b=ag o:=λe n=>Of e n
  have ζ:∀{b:dt} {o:Obj} {es:ai2 DictEntry} {ep:Nat},L.heap.get? b=ag o->o.data= .dict es ep->H b=none:=λ{b o es ep} e d=>by
   cases q:H b with
   | none=>rfl
   | some u=>
     have υ:b=a:=χ b (by rw[q];simp);subst υ;rw[ha] at e;cases e;have d':Data.seq vs.toArray _=Data.dict es ep:=d;cases d'
  have Z:∀{b:dt} {m:CM},L.heap.Ns b m->(hidT L.heap H).Ns b m:=λ{b m} ⟨o,es,ep,e,d,r⟩=>⟨o,es,ep,O e (ζ e d),d,r⟩
  have ν:K.In (hidT L.heap H):=λb o e=>O (ω b o e) (by
   cases q:H b with
   | none=>rfl
   | some u=>
     have υ:b=a:=χ b (by rw[q];simp);subst υ;rw[ρ (by rw[q];simp)] at e;cases e)
  have hM:Mod K mg (hidT L.heap H):=⟨ν,Z δ,⟨η,Z hb,ο⟩,let ⟨mc,h1,h2⟩:=ε;⟨mc,Z h1,h2⟩⟩;have e0:Env0 P w K mg (hidT L.heap H) callerA [] L H:=⟨rfl,hM,λb o e=>Q2 e,Nat.le_of_eq (Lm _ _),trivial,λb hb=>hB (show b∈([]:Dk) from hb) @F,hok,.of_eq hg⟩;refine X' ((F _ ν (Z δ)).run callerA [] L H ⟨[.ref a],[]⟩ [.ref a] [.ref a] _ _ hr e0 (α L (.ref a)) (.cons rfl .nil) (ξ H hO hS)) λr s' h=>?_;cases r with
  | error e=>exact(π H e s' h).elim
  | ok Y=>
    cases Y with
    | next=>exact y' h
    | brk=>exact y' h
    | cont=>exact y' h
    | ret u=>
      obtain⟨v,H',os,bare,un,ι,r',q⟩:=h;have q':v= .bl true:=q;subst q';obtain rfl:u=ah3 true:=r';refine⟨rfl,OldK.of_keep λb o e=>?_,os,bare⟩;cases q:H b with
      | none=>exact un.keep b o e q (by intro z;exact hB (show b∈([]:Dk) from z) @F) @F
      | some u=>
        rcases hO b with z | ⟨ob,xs,z⟩
        ·rw[q] at z;cases z
        ·have z2:=un.frzs b ob _ z;obtain⟨ψ,_⟩:=hok b _ z;obtain⟨e2,_⟩:=ι b _ z2;rw[e] at ψ;cases ψ;exact e2
 cases hk:K.lookup a with
 | some o=>
   have e:=ω a o hk;rw[ha] at e;cases e;refine τ (λ_=>fy) (λ_=> .inl rfl) (.inr ⟨_,vs.toArray,_,hk,rfl,rfl,rfl,by rw[x3,θ];exact hl,by simpa using φ⟩) (λb u z=>by have γ:(fy:pa HO)=ag u:=z;cases γ) (λb z=>hB rfl z) λz=>hB rfl z
 | none=>
   refine τ (λb=>if b=a then ag (.frz {cls:= .type "list",data:= .seq vs.toArray} (.lst (ns.map V.int))) else fy) (λb=>?_) (.inl (.inr ⟨{cls:= .type "list",data:= .seq vs.toArray},qq rfl⟩)) (λb u z=>?_) (λb z=>?_) λ_=>hk
   ·by_cases hb:b=a
    ·exact .inr ⟨_,_,qq hb⟩
    ·exact .inl (n' hb)
   ·by_cases hb:b=a
    ·have γ:=(qq hb).symm.trans z;cases γ;subst hb;exact⟨ha,by rw[a'];exact hl,vs,_,φ,ha⟩
    ·have γ:=(n' hb).symm.trans z;cases γ
   ·by_cases hb:b=a
    ·exact hb
    ·exact hB (n' hb) z
theorem walk_of {l:PySem.W.OpenLaw} {n k:Nat} {q:oT} {O:B1} {χ:CM->N'->Prop} {η:w7->N'->Prop} {d:DefRec} {K:Params->ak} {CX:w7->CXT} {sp:w7->Sp} {x:mu}
  (hn:l.most=ag n) (ε:n<=ix) (ψ:d.params.defaults=[]) (ν:Room k callerA)
  (π:∀(w:w7) (h:N'),η w h->(K w.params).In h)
  (F:∀(w:w7) (mg:CM) (β:dt) (h:N'),(K w.params).In h->h.Ns Q' mg->mg d.name=ag (.ref β)->
   ∃fd:hE,(∀(s:hJ) (u:ic),BindsTo s fd ⟨[u],[]⟩ [(x,u)])/\
     ∀base:N',(K w.params).In base->base.Ns Q' mg->FnOk l.prog w (K w.params) mg base (CX w) k β fd [x] (sp w))
  (δ:∀(w:w7) (H:Hp) (a:dt) (ns:E'),ns.length<=n->Only H->SqL (K w.params) H a (ns.map V.int)->sp w [.ref a] H (λv _=>v= .bl true) λ_ _ _=>False)
  (θ:∀(w:w7) (H:Hp) (s:hJ) (e:ic) (s':hJ),CX w [] H s (λ_ _ _=>False) e s'->False):
  PySem.W.WalkO q O χ η l.row.toRowW d [] (λf vs=>ah5 f vs):=by
 refine Att.attach_call hn ψ λw s₀ α mg ω β o φ cd υ a vs ns G Y ho hd ο ζ γ Z L ξ=>?_;have ι:=π w _ Y;obtain⟨fd,hb,τ⟩:=F w mg β _ ι G.T.g ζ;exact N8 ι G.T.g G.T.b G.T.builtins G.T.nolimit ξ γ Z (WK L ε) ν τ hb (λH hO ρ=>δ w H a ns L hO ρ) λH e s'=>θ w H α e s'
noncomputable def bo (s:Xs) (j:Nat):Stmt:=match s with
 | .ClassDef _ _ _ body _ _ _ _ _ _ _=>body.getD j (.Pass ⟨0,0,0,0⟩)
 | _=> .Pass ⟨0,0,0,0⟩
noncomputable def iG (s:Xs):Arguments:=match s with
 | .FunctionDef _ a _ _ _ _ _ _ _ _=>a
 | _=>{posonlyargs:=[],args:=[],vararg:=fy,kwonlyargs:=[],kw_defaults:=[],kwarg:=fy,defaults:=[]}
noncomputable def fE (s:Xs):ee Stmt:=match s with
 | .FunctionDef _ _ b _ _ _ _ _ _ _=>b
 | _=>[]
noncomputable def ah (s:Xs):Scope:=match s with
 | .FunctionDef _ _ _ _ _ _ χ _ _ _=>χ
 | _=>{kind:= .function,names:=[],isGenerator:=false,isCoroutine:=false}
noncomputable abbrev CX0:CXT:=λ_ _ _ _ _ _=>False
noncomputable abbrev E0:XK:=λ_ _ _=>False
theorem cJ {X:Cx}:pq CX0 X E0:=λ_ _ _ _ _ _ _ h=>h.elim
structure Fun (K:ak) (x qual:mu) (st:Xs) (f:dt) (fd:hE):Prop where
 ex:∃(oc:ic) (od:F') (kV doc pm:ic) (an:F') (cdv ct:ic) (osl:Cr),
  fd=Wg x qual (iG st) (fE st) (ah st) .none kV doc pm an cdv ct/\K.lookup f=ag ⟨oc,od,.func fd,osl⟩/\Xg K cdv qual=true
 kp:W3 K (.ref f)=true
section
variable {P:oT} {w:w7} {K:ak} {mg:CM} {base:N'}
theorem Fun.ok {x L:mu} {st:Xs} {f:dt} {fd:hE} {N ps:B1} {k:Nat} {sp:Sp} (F:Fun K x L st f fd) (S:au N ps (ah st)) (len:∀vs H Q E,sp vs H Q E->vs.length=ps.length)
  (Y:∀(O:ic) (A:z5) (outer:ee Env) (s:hJ) (H:Hp) (vs:ee V) (Q:VK) (E:XK),Room k (A.deeper (envOfC L (ah st) s.heap.objs.size f O))->sp vs H Q E->
   ∃t,PSs (cxOf CX0 P w K mg base N L (ah st) f O A outer s H E).nox (fE st) t/\t {nx:=λ_ H'=>Q .non H',rt:=Q} (start N vs) H):FnOk P w K mg base CX0 (k + 1) f fd ps sp:=by
 obtain⟨ε,od,kV,υ,δ,an,O,ct,β,rfl,lk,α⟩:=F.ex;refine RC lk α S len λA outer s H vs Q E γ Z=>?_;obtain⟨t,h,q⟩:=Y O A outer s H vs Q E γ Z;exact⟨t,h.nox,q⟩
theorem Fun.okA {x L:mu} {st:Xs} {f:dt} {fd:hE} {N ps:B1} {k:Nat} {sp:Sp} (F:Fun K x L st f fd) (S:au N ps (ah st))
  (O:∀(Y:ic) (A:z5) (outer:ee Env) (s:hJ) (H:Hp) (vs:ee V) (Q:VK) (E:XK),Room k (A.deeper (envOfC L (ah st) s.heap.objs.size f Y))->sp vs H Q E->
   ∃t,PSs (cxOf CX0 P w K mg base N L (ah st) f Y A outer s H E).nox (fE st) t/\t {nx:=λ_ H'=>Q .non H',rt:=Q} (start N vs) H) (len:∀vs H Q E,sp vs H Q E->vs.length=ps.length:=by walk_at "n"):FnOk P w K mg base CX0 (k + 1) f fd ps sp:=F.ok S len O
theorem Fun.binds {x L:mu} {st:Xs} {f:dt} {fd:hE} {ps:B1} (F:Fun K x L st f fd)
  (h:∀(kV υ Y:ic) (an:F') (O ct:ic) (us:CD),us.length=ps.length->bindArgs (Wg x L (iG st) (fE st) (ah st) .none kV υ Y an O ct) ⟨us,[]⟩=pure (ps.zip us)):mx K fd ps []:=by
 obtain⟨β,od,kV,υ,Y,an,O,ct,Z,rfl,lk,α⟩:=F.ex;exact .all (h kV υ Y an O ct)
theorem Pr {x L:mu} {st:Xs} {f:dt} {α:ic} {od an:F'} {Y:Cr} {kV υ Z O ct:ic} (l:K.lookup f=ag ⟨α,od,.func (Wg x L (iG st) (fE st) (ah st) .none kV υ Z an O ct),Y⟩)
  (c:Xg K O L=true) (k:W3 K (.ref f)=true):Fun K x L st f (Wg x L (iG st) (fE st) (ah st) .none kV υ Z an O ct):=⟨⟨α,od,kV,υ,Z,an,O,ct,Y,rfl,l,c⟩,k⟩
end
theorem qf {A:z5} {k:Nat} (hr:Room k A):A.units + 1 < cLine:=Wl (Nat.add_le_add_left (by decide:1<=64) _) hr.units
theorem aZ {n:Nat} (h:n<=1000):n < sizeLine:=Wl h @C
section
variable {X:Cx}
theorem pv (i:Nat) {x:mu} {pos:Pos} (ψ:X.N[i]? =ag x:=by rfl) (O:Vis X.env.scope x:=by first | exact Yj rfl | exact XS (Yj rfl) | exact XS (XS rfl)) (hd:(x == ("__debug__":mu))=false:=by decide)
  (L:(x == ("__classdict__":mu))=false:=by decide):PE X (.Name x pos) (tVar i):=TF ψ O hd L
end
theorem ite2 {c A B:Prop} [Decidable c] (h1:c->A) (h2:¬c->B):if c then A else B:=by
 by_cases h:c
 ·rw[qq h];exact h1 h
 ·rw[n' h];exact h2 h
def Same (H H':Hp):Prop:=∀b o,H b=ag o->H' b=ag o
theorem Same.refl (H:Hp):Same H H:=λ_ _ h=>h
theorem Same.trans {H H1 H2:Hp} (a:Same H H1) (b:Same H1 H2):Same H H2:=λc o h=>b c o (a c o h)
theorem Same.free {H H':Hp} (e:Same H H') {l:dt} (h:H' l=Option.none):H l=Option.none:=by
 cases q:H l with
 | none=>rfl
 | some o=>
   rw[e l o q] at h;cases h
theorem Same.seq {K:ak} {H H':Hp} {a:dt} {xs:ee V} (e:Same H H') (h:SqL K H a xs):SqL K H' a xs:=by
 rcases h with (h | ⟨o,h⟩) | h
 ·exact .inl (.inl (e _ _ h))
 ·exact .inl (.inr ⟨o,e _ _ h⟩)
 ·exact .inr h
section
variable {κ:Type} [DecidableEq κ]
noncomputable def valV (kvs:ee (κ×V)) (k:κ):pa V:=(kvs.find? fun ψ=>decide (ψ.1=k)).map (·.2)
noncomputable def putK (kvs:ee (κ×V)) (k:κ) (v:V):ee (κ×V):=
 if (kvs.any fun ψ=>decide (ψ.1=k))=true then kvs.map (fun ψ=>if ψ.1=k then (ψ.1,v) else ψ) else kvs++[(k,v)]
theorem og {p:κ×V} {r:ee (κ×V)} {k:κ} (e:p.1=k):valV (p::r) k=ag p.2:=by simp[valV,Y7,e]
theorem oh {p:κ×V} {r:ee (κ×V)} {k:κ} (e:¬p.1=k):valV (p::r) k=valV r k:=by simp[valV,Y7,e]
theorem qr (k:κ):∀kvs:ee (κ×V),(kvs.any fun ψ=>decide (ψ.1=k))=(valV kvs k).isSome
 | []=>rfl
 | p::r=>by
   rw[Z1];by_cases e:p.1=k
   ·simp only[og e,hG e,Bool.true_or,Option.isSome_some]
   ·rw[oh e,gz e,Bool.false_or];exact qr k r
theorem wy (kvs:ee (κ×V)) (k:κ) (v:V):(putK kvs k v).length<=kvs.length + 1:=by
 unfold putK;split
 ·rw[a'];omega
 ·rw[gs,V1,Xp];omega
theorem RelO.isSome_eq {o:pa V} {u:J5} (r:RelO o u):o.isSome=u.isSome:=by
 cases o with
 | none=>cases u with
   | none=>rfl
   | some _=>exact(show False from r).elim
 | some _=>cases u with
   | none=>exact(show False from r).elim
   | some _=>rfl
theorem KV.val {kvs:ee (κ×V)} {vs:ee (κ×ic)} (r:KV kvs vs) (k:κ):RelO (valV kvs k) (valueAt vs k):=by
 unfold KV at r
 induction r with
 | nil=>exact XZ
 | @cons p q ps qs h t ih=>
   obtain⟨h1,h2⟩:=h;by_cases e:p.1=k
   ·have L:q.1=k:=h1.symm.trans e;have b:valueAt (q::qs) k=ag q.2:=by simp[valueAt,Y7,L]
    rw[og e,b];exact h2
   ·have L:¬q.1=k:=λz=>e (h1.trans z);have b:valueAt (q::qs) k=valueAt qs k:=by simp[valueAt,Y7,L]
    rw[oh e,b];exact ih
theorem KV.any {kvs:ee (κ×V)} {vs:ee (κ×ic)} (r:KV kvs vs) (k:κ):(kvs.any fun ψ=>decide (ψ.1=k))=vs.any fun ψ=>decide (ψ.1=k):=by
 unfold KV at r
 induction r with
 | nil=>rfl
 | cons h t ih=>rw[Z1,Z1,ih,h.1]
theorem KV.repl {kvs:ee (κ×V)} {vs:ee (κ×ic)} (r:KV kvs vs) (k:κ) {y:V} {u:ic} (L:RelV y u):
  KV (kvs.map fun ψ=>if ψ.1=k then (ψ.1,y) else ψ) (vs.map fun ψ=>if ψ.1=k then (ψ.1,u) else ψ):=by
 unfold KV at r ⊢
 induction r with
 | nil=>exact .nil
 | @cons p q ps qs h t ih=>
   rw[W5,W5];refine .cons ?_ ih;obtain⟨h1,h2⟩:=h;by_cases e:p.1=k
   ·rw[qq e,qq (h1.symm.trans e)];exact⟨h1,L⟩
   ·rw[n' e,n' (λz=>e (h1.trans z))];exact⟨h1,h2⟩
theorem KV.put {kvs:ee (κ×V)} {vs:ee (κ×ic)} (r:KV kvs vs) (k:κ) {y:V} {u:ic} (L:RelV y u):KV (putK kvs k y) (stored vs k u):=by
 unfold putK stored;rw[r.any k];by_cases e:(vs.any fun ψ=>decide (ψ.1=k))=true
 ·rw[qq e,qq e];exact r.repl k L
 ·rw[n' e,n' e];exact an3 r ⟨rfl,L⟩
theorem KV.keys {kvs:ee (κ×V)} {vs:ee (κ×ic)} (r:KV kvs vs):kvs.map (·.1)=vs.map (·.1):=by
 unfold KV at r
 induction r with
 | nil=>rfl
 | cons h t ih=>rw[W5,W5,ih,h.1]
theorem KV.length {kvs:ee (κ×V)} {vs:ee (κ×ic)} (r:KV kvs vs):kvs.length=vs.length:=ab1 r
end
theorem Hi {P:oT} {w:w7} {k:Key} {u:ic} (r:RelV (kV k) u):(dG P w).is k u=true:=by
 cases k with
 | inl i=>obtain⟨t,e⟩:=(show ∃t,u=ac9 i t from r);subst e;exact DT P w i t
 | inr x=>obtain⟨t,e⟩:=(show ∃t,u=YW x t from r);subst e;exact DS P w x t
theorem BJ {P:oT} {w:w7}:∀{ks:ee Key} {us:CD},Vals (ks.map kV) us->ItemsAre (dG P w) ks us
 | [],_,r=>by rw[ag2] at r;cases r;exact .nil
 | k::ks,_,r=>by
   rw[W5] at r;cases r with
   | cons h t=>exact .cons (Hi h) (BJ t)
noncomputable abbrev KT (H:Hp):ee (ee Key×V)->ee (ee Key×dt×ic)->Prop:=Paired λp q=>p.1=q.1/\H q.2.1=ag (.tup (p.1.map kV))/\RelV p.2 q.2.2
theorem KT.val {H:Hp} {kvs:ee (ee Key×V)} {xs:ee (ee Key×dt×ic)} (r:KT H kvs xs) (k:ee Key):RelO (valV kvs k) ((atKey xs k).map (·.2)):=by
 induction r with
 | nil=>exact XZ
 | @cons p q ps qs h t ih=>
   obtain⟨h1,_,h2⟩:=h;by_cases e:p.1=k
   ·have L:q.1=k:=h1.symm.trans e;have b:atKey (q::qs) k=ag q.2:=by simp[atKey,Y7,L]
    rw[og e,b];exact h2
   ·have L:¬q.1=k:=λz=>e (h1.trans z);have b:atKey (q::qs) k=atKey qs k:=by simp[atKey,Y7,L]
    rw[oh e,b];exact ih
theorem KT.repl {H:Hp} {kvs:ee (ee Key×V)} {xs:ee (ee Key×dt×ic)} (r:KT H kvs xs) (k:ee Key) {y:V} {u:ic} (L:RelV y u):
  KT H (kvs.map fun ψ=>if ψ.1=k then (ψ.1,y) else ψ) (xs.map (putAt k u)):=by
 induction r with
 | nil=>exact .nil
 | @cons p q ps qs h t ih=>
   rw[W5,W5];refine .cons ?_ ih;obtain⟨h1,h2,O⟩:=h;unfold putAt;by_cases e:p.1=k
   ·rw[qq e,qq (h1.symm.trans e)];exact⟨h1,h2,L⟩
   ·rw[n' e,n' (λz=>e (h1.trans z))];exact⟨h1,h2,O⟩
theorem KT.put {H:Hp} {kvs:ee (ee Key×V)} {xs:ee (ee Key×dt×ic)} (r:KT H kvs xs) (k:ee Key) {b:dt} {y:V} {u:ic} (hb:H b=ag (.tup (k.map kV))) (L:RelV y u):
  KT H (putK kvs k y) (storedH xs k b u):=by
 have e:(kvs.any fun ψ=>decide (ψ.1=k))=(atKey xs k).isSome:=by
  rw[qr,(r.val k).isSome_eq,Zv]
 unfold putK storedH;rw[e];by_cases q:(atKey xs k).isSome=true
 ·rw[qq q,qq q];exact r.repl k L
 ·rw[n' q,n' q];exact an3 r ⟨rfl,hb,L⟩
theorem KT.keeps {H H':Hp} {kvs:ee (ee Key×V)} {xs:ee (ee Key×dt×ic)} (r:KT H kvs xs) (ht:∀b ys,H b=ag (.tup ys)->H' b=ag (.tup ys)):KT H' kvs xs:=
 Paired.mapP r λ_ _ z=>⟨z.1,ht _ _ z.2.1,z.2.2⟩
section
variable {P:oT} {w:w7} {H:Hp} {h:N'} {a:dt}
theorem Tc {u:HO} (ok:HOk P w H h) (e:Rd H a u):gj P w H h a u:=e.ok ok
theorem LZ {kvs:ee (Key×V)} (ok:HOk P w H h) (e:Rd H a (.dK kvs)):kvs.length<=ix/\(a == sysModules)=false/\∃vs,KV kvs vs/\h.DictOf (dG P w) a vs:=
 show gj P w H h a (.dK kvs) from Tc ok e
theorem RH {kvs:ee (Key×V)} (ok:HOk P w H h) (e:H a=ag (.dK kvs)):kvs.length<=ix/\(a == sysModules)=false/\∃vs,KV kvs vs/\h.DictOf (dG P w) a vs:=LZ ok (.inl e)
theorem BH {ks:ee Key} (ok:HOk P w H h) (e:H a=ag (.tup (ks.map kV))):(tupleKind (dG P w)).is h ks a:=by
 obtain⟨_,its,r,o,h1,h2,n,L⟩:=(show gj P w H h a (.tup (ks.map kV)) from ok a _ e);exact⟨o,its.toArray,n,h1,h2,L,by simpa using BJ r⟩
theorem LY {kvs:ee (ee Key×V)} (ok:HOk P w H h) (e:Rd H a (.dT kvs)):kvs.length<=ix/\(a == sysModules)=false/\
  ∃xs,KT H kvs xs/\h.DictOfH (tupleKind (dG P w)) a xs:=by
 obtain⟨z,y,xs,r,o,es,ep,h1,h2,Y,ο,O⟩:=(show gj P w H h a (.dT kvs) from Tc ok e);refine⟨z,y,xs,r,o,es,ep,h1,h2,Y,ο,λx hx=>?_,O⟩
 have all:∀{l:ee (ee Key×V)} {m:ee (ee Key×dt×ic)},KT H l m->∀x∈m,(tupleKind (dG P w)).is h x.1 x.2.1:=by
  intro l m q
  induction q with
  | nil=>intro x hx;exact nomatch hx
  | @cons p q ps qs L t ih=>
    intro x hx;rcases xY.mp hx with e | hx
    ·subst e;exact BH ok (by rw[<-L.1];exact L.2.1)
    ·exact ih x hx
 exact all r x hx
theorem VF {kvs:ee (ee Key×V)} (ok:HOk P w H h) (e:H a=ag (.dT kvs)):kvs.length<=ix/\(a == sysModules)=false/\
  ∃xs,KT H kvs xs/\h.DictOfH (tupleKind (dG P w)) a xs:=LY ok (.inl e)
end
def DGet (H:Hp) (a:dt) (y:V) (r:pa V):Prop:=
 (∃kvs k,Rd H a (.dK kvs)/\y=kV k/\r=valV kvs k)∨∃kvs k b,Rd H a (.dT kvs)/\y= .ref b/\H b=ag (.tup (k.map kV))/\r=valV kvs k
def DPut (H:Hp) (a:dt) (y v:V) (H':Hp):Prop:=
 (∃kvs k,H a=ag (.dK kvs)/\y=kV k/\kvs.length < ix/\H'=upd H a (.dK (putK kvs k v)))∨
 ∃kvs k b,H a=ag (.dT kvs)/\y= .ref b/\H b=ag (.tup (k.map kV))/\kvs.length < ix/\H'=upd H a (.dT (putK kvs k v))
theorem DGet.k {H:Hp} {a:dt} {kvs:ee (Key×V)} {k:Key} (e:H a=ag (.dK kvs)):DGet H a (kV k) (valV kvs k):= .inl ⟨kvs,k,.inl e,rfl,rfl⟩
theorem DPut.k {H:Hp} {a:dt} {kvs:ee (Key×V)} {k:Key} {v:V} (e:H a=ag (.dK kvs)) (hl:kvs.length < ix):DPut H a (kV k) v (upd H a (.dK (putK kvs k v))):= .inl ⟨kvs,k,e,rfl,hl,rfl⟩
section
variable {X:Cx} {pins:CB} {σ:St} {H:Hp} {s:hJ} {a:dt} {y v:V} {u r:ic} {o:pa V} {A:z5} {E:C'}
theorem Inv.big (I:Inv X pins σ H s):sysModules < s.heap.objs.size:=by
 have h:Q' < s.heap.objs.size:=(I.mod.glob.keeps I.bk).lt;exact ZL @C h
theorem Md {Q:C'} (hu:A.units + 1 < cLine) (I:Inv X pins σ H s) (g:DGet H a y (ag v)) (Z:RelV y u) (h:∀O s',Inv X pins σ H s'->RelV v O->Q O s'):
  kn (px X.prog X.w) A (getItem (.ref a) u) Q E s:=by
 rcases g with ⟨kvs,k,e,ey,l⟩ | ⟨kvs,k,b,e,ey,α,l⟩
 ·subst ey;obtain⟨z,hd,vs,rel,dd⟩:=LZ I.hok e;obtain⟨O,hw,L⟩:=RelO.some_of (v:=v) (o:=valueAt vs k) (by rw[l];exact rel.val k);exact wpAny_getItem_of (Hi Z) dd.mapOf hw (h O _ (I.tok _) L)
 ·subst ey;cases(show u=sb b from Z);obtain⟨z,hd,xs,rel,dd⟩:=LY I.hok e;obtain⟨O,hw,L⟩:=RelO.some_of (v:=v) (o:=(atKey xs k).map (·.2)) (by rw[l];exact rel.val k);obtain⟨p,hp,Y⟩:=XF.mp hw;refine wpAny_getItem_heap (YB hu) (BH I.hok α) dd hp ?_;rw[Y];exact h O _ (I.tok _) L
theorem d_in {Q:C'} (hu:A.units + 1 < cLine) (I:Inv X pins σ H s) (g:DGet H a y o) (L:RelV y u) (h:∀s',Inv X pins σ H s'->Q (.bool o.isSome) s'):
  kn (px X.prog X.w) A (compareOp .In u (.ref a)) Q E s:=by
 rcases g with ⟨kvs,k,e,ey,l⟩ | ⟨kvs,k,b,e,ey,O,l⟩
 ·subst ey;obtain⟨z,hd,vs,rel,dd⟩:=LZ I.hok e;refine wpAny_in_of (Hi L) hd dd.mapOf ?_;rw[<-(rel.val k).isSome_eq,<-l];exact h _ (I.tok _)
 ·subst ey;cases(show u=sb b from L);obtain⟨z,hd,xs,rel,dd⟩:=LY I.hok e;refine wpAny_in_heap (YB hu) (BH I.hok O) hd dd ?_;have q:=(rel.val k).isSome_eq;rw[Zv] at q;rw[<-q,<-l];exact h _ (I.tok _)
theorem RI {Q:C'} (hu:A.units + 1 < cLine) (I:Inv X pins σ H s) (g:DGet H a y o) (L:RelV y u) (h:∀s',Inv X pins σ H s'->Q (.bool (!o.isSome)) s'):
  kn (px X.prog X.w) A (compareOp .NotIn u (.ref a)) Q E s:=by
 rcases g with ⟨kvs,k,e,ey,l⟩ | ⟨kvs,k,b,e,ey,O,l⟩
 ·subst ey;obtain⟨z,hd,vs,rel,dd⟩:=LZ I.hok e;refine wpAny_notIn_of (Hi L) hd dd.mapOf ?_;rw[<-(rel.val k).isSome_eq,<-l];exact h _ (I.tok _)
 ·subst ey;cases(show u=sb b from L);obtain⟨z,hd,xs,rel,dd⟩:=LY I.hok e;refine wpAny_notIn_heap (YB hu) (BH I.hok O) hd dd ?_;have q:=(rel.val k).isSome_eq;rw[Zv] at q;rw[<-q,<-l];exact h _ (I.tok _)
theorem L9 {h':N'} {t':Nat} {ob:HO} (I:Inv X pins σ H s) (O:Mut (H a)) (hs:YH a s.heap h') (he:∃q,h'.get? a=ag q) (L:gj X.prog X.w (upd H a ob) h' a ob):
  Inv X pins σ (upd H a ob) {s with heap:=h',toks:=t'}:=
 I.write (x:=a) (e:=a) O (.inl rfl) (λb q hb z=>(hs.2 b hb).trans z) he L
theorem UD {P:oT} {w:w7} {H':Hp} {h':N'} {kvs:ee (Key×V)} {vs:ee (Key×ic)} (z:kvs.length<=ix) (hd:(a == sysModules)=false) (rel:KV kvs vs) (dd:h'.DictOf (dG P w) a vs):
  gj P w H' h' a (.dK kvs):=⟨z,hd,vs,rel,dd⟩
theorem Mb {H':Hp} {Q:D'} (hu:A.units + 1 < cLine) (I:Inv X pins σ H s) (g:DPut H a y v H') (Y:RelV y u) (Z:RelV v r) (h:∀s',Inv X pins σ H' s'->Q () s'):
  kn (px X.prog X.w) A (setItem (.ref a) u r) Q E s:=by
 rcases g with ⟨kvs,k,e,ey,l,ξ⟩ | ⟨kvs,k,b,e,ey,α,l,ξ⟩
 ·subst ey ξ;obtain⟨z,hd,vs,rel,dd⟩:=RH I.hok e;have hz:vs.length<=sizeLine:=by rw[<-rel.length];exact z
  have hl:(putK kvs k v).length<=sizeLine:=by have:=wy kvs k v;omega
  refine wpAny_setItem_pairs (hsz:=hz) (Hi Y) dd λh' L hs=>h _ ?_;have he:∃q,h'.get? a=ag q:=let ⟨q,_,_,O,_⟩:=L;⟨q,O⟩
  exact L9 I (by rw[e];exact XZ) hs he (UD hl hd (rel.put k Z) L)
 ·subst ey ξ;cases(show u=sb b from Y);obtain⟨z,hd,xs,rel,dd⟩:=VF I.hok e;have hz:xs.length<=sizeLine:=by rw[<-ab1 rel];exact z
  have hl:(putK kvs k v).length<=sizeLine:=by have:=wy kvs k v;omega
  refine wpAny_setItem_heap (hsz:=hz) (YB hu) (BH I.hok α) dd λh' L hs=>h _ ?_;obtain⟨q,es,ep,O,h2,γ,ο,_,β⟩:=L;refine L9 I (by rw[e];exact XZ) hs ⟨q,O⟩ ⟨hl,hd,_,(rel.put k α Z).keeps λc ys υ=>?_,q,es,ep,O,h2,γ,ο,β⟩;rw[aE (cn υ e (λz=>nomatch z))];exact υ
end
def NoSl (i:L'):Prop:=∀L O,subscripted i false L O=operate [L,O] (getItem L O)
theorem Qb {prog:oT} {w:w7} {A:z5} {E:C'} {s:hJ} {env:Env} {value L:L'} {pos:Pos} {T id:U'} {Q:C'}
  (hl:typeLookup (.type T) "__getitem__"=pure (ag (.builtin id))) (hs:NoSl L)
  (h:kn (px prog w) A (eval value env) (λo Z=>kn (px prog w) A (eval L env) (λi δ=>δ.TypeIs o T/\kn (px prog w) A (getItem o i) Q E δ) E Z) E s):
  kn (px prog w) A (eval (.Subscript value L pos) env) Q E s:=by
 refine am9 (VZ h (λo Z β=>VZ β (λi δ O=>?_) λ_ _ x=>x) λ_ _ x=>x);obtain⟨hT,O⟩:=O;unfold subscriptTail;refine ec ?_;rw[getitemInPython_of_ne hT.not_modules];refine ec (ad4 hT hl ?_)
 have fin:kn (px prog w) A (subscripted L false o i) (λr Y=>kn (px prog w) A (letTemporaryGo value o r >>=λ_=>pure r) Q E Y) E δ:=by
  rw[hs o i];exact wpAny_operating (VZ O (λr Y α=>ec (wpAny_letTemporaryGo (hH α))) λ_ _ x=>x)
 first
  | exact hH (ec fin)
  | exact ec (hH (ec fin))
  | exact ec fin
theorem Ew {X:Cx} {pins:CB} {σ:St} {H:Hp} {s:hJ} {a:dt} {y:V} {o:pa V} (I:Inv X pins σ H s) (g:DGet H a y o):s.TypeIs (.ref a) "dict":=by
 rcases g with ⟨kvs,k,e,_,_⟩ | ⟨kvs,k,b,e,_,_,_⟩
 ·obtain⟨_,_,vs,_,dd⟩:=LZ I.hok e;exact dd.typeIs
 ·obtain⟨_,_,xs,_,dd⟩:=LY I.hok e;exact dd.typeIs
noncomputable def Sl (td ty:TE):TE:=fun σ H Q=>td σ H λx H1=>ty σ H1 λy H2=>∃a v,x= .ref a/\DGet H2 a y (ag v)/\Q v H2
noncomputable def tDIn (ty td:TE):TE:=fun σ H Q=>ty σ H λy H1=>td σ H1 λx H2=>∃a o,x= .ref a/\DGet H2 a y o/\Q (.bl o.isSome) H2
noncomputable def Jf (ty td:TE):TE:=fun σ H Q=>ty σ H λy H1=>td σ H1 λx H2=>∃a o,x= .ref a/\DGet H2 a y o/\Q (.bl (!o.isSome)) H2
noncomputable def S8 (td ty tv:TE):TS:=λD σ H=>tv σ H λv H1=>td σ H1 λx H2=>ty σ H2 λy O=>∃a L,x= .ref a/\DPut O a y v L/\D.nx σ L
section
variable {X:Cx} {o i e value:L'} {pos pos' tpos:Pos} {td ty tv:TE}
theorem nF (hu:X.A.units + 1 < cLine) (ho:PE X o td) (hi:PE X i ty) (hs:NoSl i):PE X (.Subscript o i pos) (Sl td ty):=by
 intro pins s σ H Q I h;refine Qb PySem.F.slot_dict_getitem.lookup hs (thn (ho pins s σ H _ I h) λu Y ⟨x,H1,δ,α,β⟩=>thn (hi pins Y σ H1 _ δ β) fun ι η ⟨y,H2,O,Z,a,v,ex,g,θ⟩=>?_);subst ex;obtain rfl:u=sb a:=α;exact⟨Ew O g,Md hu O g Z fun ε ζ γ L=>⟨v,H2,γ,L,θ⟩⟩
theorem Ku (hu:X.A.units + 1 < cLine) (hi:PE X i ty) (ho:PE X o td):PC X .In i o (tDIn ty td):=by
 intro pins s σ H Q I h;refine thn (hi pins s σ H _ I h) fun η L ⟨y,H1,δ,O,Z⟩=>thn (ho pins L σ H1 _ δ Z) λu ζ ⟨x,H2,β,Y,a,α,ex,g,θ⟩=>?_;subst ex;obtain rfl:u=sb a:=Y;exact d_in hu β g O fun ε γ=>⟨.bl α.isSome,H2,γ,rfl,θ⟩
theorem Kt (hu:X.A.units + 1 < cLine) (hi:PE X i ty) (ho:PE X o td):PC X .NotIn i o (Jf ty td):=by
 intro pins s σ H Q I h;refine thn (hi pins s σ H _ I h) fun η L ⟨y,H1,δ,O,Z⟩=>thn (ho pins L σ H1 _ δ Z) λu ζ ⟨x,H2,β,Y,a,α,ex,g,θ⟩=>?_;subst ex;obtain rfl:u=sb a:=Y;exact RI hu β g O fun ε γ=>⟨.bl (!α.isSome),H2,γ,rfl,θ⟩
theorem zH (hu:X.A.units + 1 < cLine) (ho:PE X o td) (hi:PE X i ty) (δ:PE X value tv) (hs:swapsWith value (ag (.Subscript o i pos')) pos.line X.env=pure false):
  PS X (.Assign [.Subscript o i pos'] value pos) (S8 td ty tv):=by
 intro pins s σ H D I h;refine wpAny_Assign_Subscript (thn (δ pins s σ H _ I h) λr O ⟨v,H1,ι,α,β⟩=>thn (ho pins O σ H1 _ ι β) λu L ⟨x,H2,ζ,Z,θ⟩=>thn (hi pins L σ H2 _ ζ θ) fun π ο ⟨y,ρ,γ,Y,a,ν,ex,g,η⟩=>?_) hs;subst ex;obtain rfl:u=sb a:=Z;exact Mb hu γ g Y α fun ξ ε=>⟨σ,ν,ε,η⟩
end
theorem Oz {P:oT} {w:w7} {H:Hp} (h:N') (hb:sysModules < h.objs.size):gj P w H (h.push {cls:= .type "dict",data:= .dict #[]}) h.objs.size (.dK []):=
 ⟨VY _,z0.mpr (Wf (z3 hb)),[],.nil,af0 h⟩
noncomputable def O0:TE:=λ_ H Q=>∀p,H p=fy->Q (.ref p) (upd H p (.dK []))
section
variable {X:Cx} {pos:Pos}
theorem qV:PE X (.Dict [] [] pos) O0:=λpins s σ H Q I h=>
 wpAny_Dict_empty ⟨.ref s.heap.objs.size,_,I.laid (a:=s.heap.objs.size) (o:= .dK []) (t':=s.toks) (λ_ _ q=>eH _ q) (ov _) (Oz s.heap I.big),rfl,h _ (I.hok.fresh (ov _))⟩
end
structure M1 (X:Cx) (o:L') (m:mu) (apos:Pos) (e:L') (cpos:Pos):Prop where
 base:attributeBase o m X.env (eval o X.env)=eval o X.env
 few:((backTo cpos (ll [e] X.env)).all (λx=> !x.1)&&(backToKw cpos (keywordEach [] X.env)).all (λx=>x.1.isSome)
  &&decide (([e]:ee L').length + ([]:ee Keyword).length + (if ([]:ee Keyword).isEmpty then 0 else 1) < 30))=true
 line:(apos.endLine == cpos.line)=true
 trees:backTo cpos (ll [e] X.env)=[(false,eval e X.env)]
structure M2 (X:Cx) (o:L') (m:mu) (apos:Pos) (e f:L') (cpos:Pos):Prop where
 base:attributeBase o m X.env (eval o X.env)=eval o X.env
 few:((backTo cpos (ll [e,f] X.env)).all (λx=> !x.1)&&(backToKw cpos (keywordEach [] X.env)).all (λx=>x.1.isSome)
  &&decide (([e,f]:ee L').length + ([]:ee Keyword).length + (if ([]:ee Keyword).isEmpty then 0 else 1) < 30))=true
 line:(apos.endLine == cpos.line)=true
 trees:backTo cpos (ll [e,f] X.env)=[(false,eval e X.env),(false,eval f X.env)]
section
variable {κ:Type} [DecidableEq κ]
theorem M9 {kvs:ee (κ×V)} {k:κ} (h:valV kvs k=fy):¬k∈kvs.map (·.1):=by
 intro m;obtain⟨p,hp,e⟩:=ik.mp m;have q:(kvs.any fun ψ=>decide (ψ.1=k))=true:=Xq.mpr ⟨p,hp,hG e⟩;rw[qr,h] at q;exact hB q @F
theorem P8 {kvs:ee (κ×V)} {k:κ} {v:V} (h:valV kvs k=ag v):k∈kvs.map (·.1):=by
 have q:(kvs.any fun ψ=>decide (ψ.1=k))=true:=by
  rw[qr,h]
  all_goals rfl
 obtain⟨p,hp,e⟩:=Xq.mp q;exact ik.mpr ⟨p,hp,WD e⟩
end
end L2
set_option maxHeartbeats 4000000
namespace L2
open PySem PySem.Spec PyProof.Rows
section
variable {P0:oT} {w0:w7} {A0:z5} {R0:HB} {t0:hJ}
theorem HR {η tg iter:L'} {ζ:ee L'} {sc:X5} {pos:Pos} {τ ι:ic} {θ:Env} (J:Nat->hJ->Prop)
  (π:∀n s,J n s->kn (px P0 w0) A0 (pyNext τ) (λr O=>match r with
   | none=>R0 (.ok .next) O
   | some v=>kn (px P0 w0) A0 (letOwnedTupleGo tg τ v) (λ_ δ=>kn (px P0 w0) A0 (assign tg θ v) (λ_ γ=>
     kn (px P0 w0) A0 (forIn ζ true λc r=>if r=true then do let ok <-isTrue c θ (eval c θ);pure (Xr ok) else pure (Xr r)) (λok Y=>
      if ok=true then kn (px P0 w0) A0 (eval η θ) (λx β=>
       kn (px P0 w0) A0 (call (.builtin "list.append") [ι,x]) (λ_ Z=>∃m,m < n/\J m Z) (λ_ _=>False) β) (λ_ _=>False) Y
      else ∃m,m < n/\J m Y) (λ_ _=>False) γ) (λ_ _=>False) δ) (λ_ _=>False) O) (λ_ _=>False) s)
  (n:Nat) (h:J n t0):
  codeAny (px P0 w0) A0 (.compLoop (.ListComp η [⟨tg,iter,ζ,0⟩] sc pos) 0 τ ι θ) R0 t0:=by
 have no:∀{α:Type} {t:Sem α} {Q:α->hJ->Prop} {E:C'} {s:hJ},kn (px P0 w0) A0 t Q (λ_ _=>False) s->kn (px P0 w0) A0 t Q E s:=
  λh=>VZ h (λ_ _ q=>q) λ_ _ z=>z.elim
 refine codeAny_loop rfl J (λn s υ=>?_) n h;show kn _ A0 ((compTurn (.ListComp η [⟨tg,iter,ζ,0⟩] sc pos) 0 τ ι θ).onRaise (λx=>do noteFrame x θ;theTreesLotGoes x)) _ _ s;refine wpAny_noted ?_;rw[compTurn_list];refine ec (Xm (ec (thn (no (π n s υ)) λr O ε=>?_)));cases r with
 | none=>exact hH ε
 | some v=>
   refine ec (thn (no ε) λ_ δ ρ=>?_);refine ec (thn (no ρ) λ_ γ ξ=>ec (thn (no ξ) λok Y L=>?_));cases ok with
   | false=>exact hH ⟨rfl,L⟩
   | true=>
     rw[qq rfl] at L;refine ec (ec (thn (no L) λx β ν=>?_));refine ec (thn (no ν) λ_ Z ο=>?_);exact hH (hH ⟨rfl,ο⟩)
end
theorem tQ (env:Env):∀(l:ee (mu×NameKind)) (α:J1),(∀y∈l,y.2= .free->∃c,env.cells.lookup y.1=ag c)->
  ∃r:J1,(forIn l α (λ(x:mu×NameKind) (r:J1)=>if x.2 == W2 then (do let c <-cellOf env x.1;pure (Xr ((x.1,c)::r))) else pure (Xr r)):Sem J1)=pure r/\
   (∀p∈r,p∈α∨env.cells.lookup p.1=ag p.2)/\(∀p∈α,p∈r)/\(∀y∈l,y.2= .free->∃c,(y.1,c)∈r)
 | [],α,_=>⟨α,rfl,λp hp=> .inl hp,λp hp=>hp,λy L=>nomatch L⟩
 | (x,k)::l,α,h=>by
   by_cases hk:k= .free
   ·subst hk;obtain⟨c,Y⟩:=h (x,.free) wq rfl;obtain⟨r,e,h1,h2,O⟩:=tQ env l ((x,c)::α) λy L=>h y (z4 _ L);refine⟨r,?_,λp hp=>?_,λp hp=>h2 p (z4 _ hp),λy L hf=>?_⟩
    ·rw[Zw];have Z:cellOf env x=pure c:=by unfold cellOf;rw[Y]
     simp only[W4,YF,Z,pure_bind];exact e
    ·rcases h1 p hp with q | q
     ·rcases xY.mp q with z | z
      ·subst z;exact .inr Y
      ·exact .inl z
     ·exact .inr q
    ·rcases xY.mp L with z | z
     ·subst z;exact⟨c,h2 _ wq⟩
     ·exact O y z hf
   ·obtain⟨r,e,h1,h2,O⟩:=tQ env l α λy L=>h y (z4 _ L);refine⟨r,?_,h1,h2,λy L hf=>?_⟩
    ·rw[Zw];have hb:(k == W2)=false:=by cases k<;>first | rfl | exact hB rfl hk
     simp only[hb,Ys,Zk,pure_bind];exact e
    ·rcases xY.mp L with z | z
     ·subst z;exact hB hf hk
     ·exact O y z hf
theorem zi (sc:X5) (env:Env) (h:∀y∈sc.names,y.2= .free->∃c,env.cells.lookup y.1=ag c):
  ∃L,closureFor sc env=pure L/\(∀p∈L,env.cells.lookup p.1=ag p.2)/\∀y∈sc.names,y.2= .free->∃c,(y.1,c)∈L:=by
 obtain⟨r,e,h1,h2,O⟩:=tQ env sc.names [] h;refine⟨r,?_,λp hp=>(h1 p hp).resolve_left (λz=>nomatch z),O⟩;unfold closureFor;have:=e;simp only[bind_pure] at *
 exact e
theorem z7 {κ β:Type} [BEq κ] [LawfulBEq κ]:∀{l:ee (κ×β)} {x:κ} {c:β},(x,c)∈l->∃L,l.lookup x=ag L
 | [],_,_,h=>nomatch h
 | (y,d)::l,x,c,h=>by
   by_cases e:x=y
   ·subst e;exact⟨d,by simp[Ye]⟩
   ·have hb:(x == y)=false:=z0.mpr e;rcases xY.mp h with z | z
    ·exact hB (ri al6 z) e
    ·obtain⟨L,q⟩:=z7 z;exact⟨L,by rw[Ye,hb];exact q⟩
theorem qS {env:Env}:∀{names:ee (mu×NameKind)} {x:mu} {ρ:NameKind},
  (names.map λ(n,k)=>if (k == W2&&env.scope.kind == .function&&env.kindOf n == ag .cell) then (n,XQ) else (n,k)).lookup x=ag ρ->∃k,(x,k)∈names/\(ρ=k∨k= .free)
 | [],_,_,h=>by cases h
 | (y,k)::l,x,ρ,h=>by
   rw[W5,Ye] at h;by_cases e:x=y
   ·subst e;by_cases L:(k == W2&&env.scope.kind == .function&&env.kindOf x == ag .cell)=true
    ·refine⟨k,wq,.inr ?_⟩;rw[R',R'] at L;exact eq_of_beq L.1.1
    ·refine⟨k,wq,.inl ?_⟩;simp only[n' L,W4] at h;exact(vu h).symm
   ·have hb:(x == y)=false:=z0.mpr e
    have h':(l.map λ(n,k)=>if (k == W2&&env.scope.kind == .function&&env.kindOf n == ag .cell) then (n,XQ) else (n,k)).lookup x=ag ρ:=by
     by_cases L:(k == W2&&env.scope.kind == .function&&env.kindOf y == ag .cell)=true
     ·simp only[qq L,hb] at h;exact h
     ·simp only[n' L,hb] at h;exact h
    obtain⟨q,hm,z⟩:=qS h';exact⟨q,z4 _ hm,z⟩
theorem tU {env:Env}:∀{names:ee (mu×NameKind)} {x:mu},names.lookup x=ag .free->
  (names.map λ(n,k)=>if (k == W2&&env.scope.kind == .function&&env.kindOf n == ag .cell) then (n,XQ) else (n,k)).lookup x=ag .cell∨
  (names.map λ(n,k)=>if (k == W2&&env.scope.kind == .function&&env.kindOf n == ag .cell) then (n,XQ) else (n,k)).lookup x=ag .free
 | [],_,h=>by cases h
 | (y,k)::l,x,h=>by
   rw[Ye] at h;rw[W5,Ye];by_cases e:x=y
   ·subst e;simp only[W4] at h;cases h;by_cases L:(W2 == W2&&env.scope.kind == .function&&env.kindOf x == ag .cell)=true
    ·refine .inl ?_;rw[qq L];simp only[W4]
    ·refine .inr ?_;rw[n' L];simp only[W4]
   ·have hb:(x == y)=false:=z0.mpr e;simp only[hb] at h;have q:=tU (env:=env) h;by_cases L:(k == W2&&env.scope.kind == .function&&env.kindOf y == ag .cell)=true
    ·simp only[qq L,hb];exact q
    ·simp only[n' L,hb];exact q
structure lP (osc:X5) (ON N:B1) (n:Nat) (fx:B') (sc:X5):Prop where
 kind:sc.kind= .function
 noc:∀y∈sc.names,y.2≠.cell
 own:∀y∈sc.names,y.2= .local->sc.names.lookup y.1=ag .local
 fre:∀y∈sc.names,y.2= .free->osc.names.lookup y.1=ag .cell∨osc.names.lookup y.1=ag .free
 len:N.length=n + fx.length
 frn:∀k,k < fx.length->∃x j,N[n + k]? =ag x/\fx[k]? =ag j/\ON[j]? =ag x/\sc.names.lookup x=ag .free
noncomputable def Oo (ON:B1) (χ:X5):B1->B'->V6
 | [],[]=>true
 | x::xs,j::js=>decide (ON[j]? =ag x)&&decide (χ.names.lookup x=ag .free)&&Oo ON χ xs js
 | _,_=>false
theorem BX {ON:B1} {sc:X5}:∀{xs:B1} {ρ:B'},Oo ON sc xs ρ=true->xs.length=ρ.length/\∀k,k < ρ.length->∃x j,xs[k]? =ag x/\ρ[k]? =ag j/\ON[j]? =ag x/\sc.names.lookup x=ag .free
 | [],[],_=>⟨rfl,λk h=>hB h (aa3 k)⟩
 | [],_::_,h=>by cases h
 | _::_,[],h=>by cases h
 | x::xs,j::ρ,h=>by
   simp only[Oo,R',V9] at h;obtain⟨l,q⟩:=BX h.2;refine⟨ri Nat.succ l,λk hk=>?_⟩;cases k with
   | zero=>exact⟨x,j,rfl,rfl,h.1.1,h.1.2⟩
   | succ k=>
     obtain⟨L,O,a,b,c⟩:=q k (Nat.lt_of_succ_lt_succ hk);exact⟨L,O,by simpa using a,by simpa using b,c⟩
noncomputable def FS (osc:X5) (ON N:B1) (n:Nat) (fx:B') (χ:X5):Bool:=
 decide (χ.kind= .function)&&decide (∀y∈χ.names,y.2≠.cell)&&decide (∀y∈χ.names,y.2= .local->χ.names.lookup y.1=ag .local)&&
 decide (∀y∈χ.names,y.2= .free->osc.names.lookup y.1=ag .cell∨osc.names.lookup y.1=ag .free)&&decide (n<=N.length)&&Oo ON χ (N.drop n) fx
theorem lP.of {osc:X5} {ON N:B1} {n:Nat} {fx:B'} {sc:X5} (h:FS osc ON N n fx sc=true):lP osc ON N n fx sc:=by
 simp only[FS,R',V9] at h;obtain⟨⟨⟨⟨⟨h1,h2⟩,O⟩,ο⟩,Y⟩,L⟩:=h;obtain⟨l,q⟩:=BX L;refine⟨h1,h2,O,ο,?_,λk hk=>?_⟩
 ·rw[XI] at l;omega
 ·obtain⟨x,j,a,b⟩:=q k hk;exact⟨x,j,by rw[Yb] at a;exact a,b⟩
noncomputable def mO (X:Cx) (N:B1) (χ:X5) (L:J1) (C:dt) (fp:Dk) (s:hJ) (H:Hp):Cx where
 prog:=X.prog
 w:=X.w
 K:=X.K
 mg:=X.mg
 base:=X.base
 A:=X.A
 N:=N
 s₀:=s
 H₀:=H
 env:=compEnvC χ L C X.env
 outer:=X.stack
 stack:=X.stack
 ex:=fp
 fn:=λ_=>false
 calm:=X.calm
 pn:=[]
 xe:=λ_ _=>False
noncomputable def eR (n:Nat) (fx:B') (σ:St):St:=p' n fy++fx.map λj=>(σ[j]?).join
def Iq (n:Nat) (g:TG):Prop:=∀v σ H (Q L:St->Hp->Prop),(∀σ' H',Q σ' H'->σ'.drop n=σ.drop n->σ'.length=σ.length->L σ' H')->g v σ H Q->g v σ H L
def FW (n:Nat) (g:TGs):Prop:=∀vs σ H (Q L:St->Hp->Prop),(∀σ' H',Q σ' H'->σ'.drop n=σ.drop n->σ'.length=σ.length->L σ' H')->g vs σ H Q->g vs σ H L
theorem aP {n i:Nat} (h:i < n):Iq n (LG i):=λv σ H Q L k q=>k _ _ q (by rw[List.drop_set_of_lt h]) (by rw[List.length_set])
theorem wM {n:Nat}:FW n gNil:=λvs σ H Q L k ⟨e,q⟩=>⟨e,k _ _ q rfl rfl⟩
theorem iL {n:Nat} {t:TG} {u:TGs} (ht:Iq n t) (hu:FW n u):FW n (Rt t u):=λvs σ H Q β k ⟨v,r,e,q⟩=>
 ⟨v,r,e,ht v σ H _ _ (λO H1 Y α ω=>hu r O H1 Q β (fun ξ H2 θ Z L=>k ξ H2 θ (Z.trans α) (L.trans ω)) Y) q⟩
theorem BL {K:ak} {n m:Nat} {t:TGs} (h:FW n t):Iq n (gTup K m t):=λv σ H Q L k ⟨a,xs,e,hs,hl,q⟩=>⟨a,xs,e,hs,hl,h xs σ H Q L k q⟩
def PTs (X:Cx) (L:ee L') (t:TT):Prop:=
 ∀(pins:CB) (s:hJ) (σ:St) (H:Hp) (Q:V6->Hp->Prop),Inv X pins σ H s->t σ H Q->
  kn (px X.prog X.w) X.A (forIn L true λc r=>if r=true then do let ok <-isTrue c X.env (eval c X.env);pure (Xr ok) else pure (Xr r)) (TP X pins σ Q) X.xe s
noncomputable def tYes:TT:=λ_ H Q=>Q true H
theorem bh {X:Cx}:PTs X [] tYes:=λ_ _ _ H _ I h=>wpAny_tests_nil ⟨H,I,h⟩
theorem nE {X:Cx} {c:L'} {t:TT} (h:PT X c t):PTs X [c] t:=λpins s σ H Q I q=>wpAny_tests_one (h pins s σ H Q I q)
noncomputable def Nc (n:Nat) (fx:B') (β:TI) (g:TG) (tc:TT) (te:TE):TE:=fun σ H Q=>β σ H λJ H1=>∀D,H1 D=fy->
 ∃W:Nat->Nat->ee V->Hp->Prop,(∃m,W 0 m [] (upd H1 D (.lst [])))/\∀i m ys H2,W i m ys H2->(J.stop i H2/\Q (.ref D) H2)∨
   (J.go i H2/\∃N:ee V->Hp->Prop,(∀O H',N O H'->∃ω,ω < m/\W (i + 1) ω O H')/\∀x α,J.yld i H2 x α->g x (eR n fx σ) α λL γ=>tc L γ λb Z=>
    if b=true then te L Z λv Y=>Y D=ag (.lst ys)/\ys.length < ix/\N (ys++[v]) (upd Y D (.lst (ys++[v]))) else N ys Z)
section
variable {X:Cx} {pins:CB} {σ:St} {H:Hp} {s:hJ}
theorem HU {n:Nat} {fx:B'}:(eR n fx σ).length=n + fx.length:=by unfold eR;simp
theorem zh {n:Nat} {fx:B'} {i:Nat} {v:V} (e:(eR n fx σ)[i]? =ag (ag v)):∃k j,i=n + k/\fx[k]? =ag j/\σ[j]? =ag (ag v):=by
 unfold eR at e;by_cases h:i < n
 ·rw[P' (by simpa using h),ad9,qq h] at e;cases e
 ·rw[V0 (by simpa using h),V',kf] at e;cases q:fx[i - n]? with
  | none=>rw[q] at e;cases e
  | some j=>
    rw[q] at e;have L:(σ[j]?).join=ag v:=vu e;refine⟨i - n,j,@A,q,?_⟩;cases z:σ[j]? with
    | none=>rw[z] at L;cases L
    | some o=>rw[z] at L;have:o=ag v:=L;rw[this]
theorem OE {osc:X5} {ON N:B1} {n:Nat} {fx:B'} {sc:X5} {α:J1} {fp:Dk} {ο:N'} {tk:Nat}
  (ho:X.env.scope=osc) (ψ:X.N=ON) (S:lP osc ON N n fx sc)
  (χ:∀p∈α,X.env.cells.lookup p.1=ag p.2) (φ:∀y∈sc.names,y.2= .free->∃c,(y.1,c)∈α)
  (I:Inv X pins σ H s) (hf:∀b∈fp,FpOk X pins H b) (δ:∀b∈fp,b < s.heap.objs.size)
  (L:∃m,ο.Ns s.heap.objs.size m) (O:∀b o,s.heap.get? b=ag o->ο.get? b=ag o):
  Inv (mO X N sc α s.heap.objs.size fp s H) [] (eR n fx σ) H {s with heap:=ο,toks:=tk}:=by
 have look:∀{x:mu} {c:dt},α.lookup x=ag c->X.env.cells.lookup x=ag c:=λ{x c} e=>χ (x,c) (W1 e)
 have ok:(mO X N sc α s.heap.objs.size fp s H).Ok:=by
  refine⟨I.ok.mod,S.kind,I.ok.glob,I.ok.blt,ov _,λx y c h1 h2=>I.ok.inj x y c (look h1) (look h2),λx hx=>?_,λx c z=>(by cases z),I.ok.hd,I.ok.frames,.inl rfl,λb hb=>⟨z3 (δ b hb),λx c e=>(hf b hb).2.2.2.2.1 x c (look e)⟩,
   I.bs,WK I.ok.bsz I.sz,λb o e hb=>?_,λb hb z=>?_,I.stack,I.stkFree⟩
  ·have η:∃ρ,(ρ=XQ∨ρ=W2)/\(sc.names.map λ(n,k)=>if (k == W2&&X.env.scope.kind == .function&&X.env.kindOf n == ag .cell) then (n,XQ) else (n,k)).lookup x=ag ρ:=by
    rcases hx with hx | hx
    ·exact⟨_,.inl rfl,hx⟩
    ·exact⟨_,.inr rfl,hx⟩
   obtain⟨ρ,hk,e⟩:=η;obtain⟨k,hm,z⟩:=qS e
   have ν:k= .free:=by
    rcases z with z | z
    ·subst z;rcases hk with q | q
     ·exact hB q (S.noc _ hm)
     ·exact q
    ·exact z
   subst ν;obtain⟨c,τ⟩:=φ _ hm rfl;exact z7 τ
  ·rcases(hf b hb).2.2.2.1 with z | z
   ·exact I.ok.noex b o e z
   ·exact hB (hA (hF (I.ok.bs b o e).1) z) (WO _)
  ·rcases xY.mp (I.stkSub b z) with q | q
   ·exact(hf b hb).2.1 q
   ·exact(hf b hb).2.2.1 q
 obtain⟨m,L⟩:=L;refine⟨ok,rfl,I.bare,Un.kept O,⟨m,L,λi x v e1 e2 e3=>?_⟩,λx c e=>?_,I.hok.fresh (ov _),λx c e=>I.freeC x c (look e),λp hp=>hB (show p∈([]:CB) from hp) @F,I.hok.kept O,?_⟩
 ·obtain⟨k,j,rfl,ι,π⟩:=zh e2;obtain⟨Y,θ,a1,a2,a3,γ⟩:=S.frn k (b'.mp ι).1;have ex:Y=x:=vu (a1.symm.trans e1);have ej:θ=j:=vu (a2.symm.trans ι);subst ex;subst ej;obtain⟨ω,_,hl⟩:=I.loc;have hk:X.env.scope.names.lookup Y=ag .cell∨X.env.scope.names.lookup Y=ag .free:=by rw[ho];exact S.fre _ (W1 γ) rfl
  have β:Vis X.env.scope Y:=by rcases hk with z | z;exact .inr (.inl z);exact .inr (.inr z)
  obtain⟨u,r,q⟩:=hl θ Y v (by rw[ψ];exact a3) π β;rcases q with ⟨z,_⟩ | ⟨_,c,υ,ξ⟩
  ·have ζ:X.env.scope.names.lookup Y=ag .local:=z;rcases hk with q | q<;>(rw[q] at ζ;cases ζ)
  ·refine⟨u,r,.inr ⟨tU γ,c,?_,ξ.keeps O⟩⟩;obtain⟨c0,ε⟩:=φ _ (W1 γ) rfl;obtain⟨c1,Z⟩:=z7 ε;have:=look Z;rw[υ] at this;cases this;exact Z
 ·obtain⟨v,q⟩:=I.cell x c (look e);exact⟨v,q.keeps O⟩
 ·show _=N.length;rw[HU,S.len]
theorem Cm {osc:X5} {ON N:B1} {n:Nat} {fx:B'} {sc:X5} {cl:J1} {c4 tg iter:L'} {c2:ee L'} {pos:Pos} {wi:TI} {g:TG} {tc:TT} {te:TE} {Q:VK} {RR:ic->dt->HB}
  (L:X.calm=true) (ho:X.env.scope=osc) (hN:X.N=ON) (S:lP osc ON N n fx sc)
  (χ:∀p∈cl,X.env.cells.lookup p.1=ag p.2) (e0:∀y∈sc.names,y.2= .free->∃c,(y.1,c)∈cl)
  (hi:PI X tg iter wi) (gk:Iq n g) (hb:∀cl C fp s H,PG (mO X N sc cl C fp s H) tg g/\PTs (mO X N sc cl C fp s H) c2 tc/\PE (mO X N sc cl C fp s H) c4 te)
  (I:Inv X pins σ H s) (h:Nc n fx wi g tc te σ H Q)
  (f0:∀D C H' s',Inv X pins σ H' s'->(∃m,s'.heap.Ns C m)->FpOk X pins H' C->Q (.ref D) H'->RR (.ref D) C (.ok .next) s'):
  kn (px X.prog X.w) X.A (eval iter X.env) (λx s₁=>kn (px X.prog X.w) X.A (pyIter x) (λit δ=>kn (px X.prog X.w) X.A (newList []) (λe3 s₃=>
   kn (px X.prog X.w) X.A (newFunctionEnv sc X.env.globals cl [] X.env.qual fy .none (ag X.env)) (λb6 s₄=>
    codeAny (px X.prog X.w) X.A (.compStart (.ListComp c4 [⟨tg,iter,c2,0⟩] sc pos) 0 it e3 {b6 with scope:=relabel sc X.env}) (RR e3 b6.locals) s₄) X.xe s₃) X.xe δ) X.xe s₁) X.xe s:=by
 refine thn (hi pins s σ H _ I h) λv s1 h1=>thn h1 λg3 O h2=>?_;obtain⟨it,fp,tn,J,H2,e2,I2,T,d1,f2,hW⟩:=h2;subst e2;obtain⟨W,⟨m0,w0⟩,c3⟩:=hW O.heap.objs.size I2.fresh;refine WC ?_;have I3:Inv X pins σ (upd H2 O.heap.objs.size (.lst [])) {O with heap:=O.heap.push {cls:= .type "list",data:= .seq ([]:CD).toArray}}:=I2.lnew (t':=O.toks) (its:=[]) .nil (VY _)
 have τ:∀b∈fp,FpOk X pins (upd H2 O.heap.objs.size (.lst [])) b/\b < O.heap.objs.size:=λb hb=>by
  obtain⟨o,e,_⟩:=T.obj _ _ d1 b hb;have l:=hF e;obtain⟨a1,a2⟩:=f2 b hb;exact⟨⟨by rw[aE (z3 l)];exact a1,a2⟩,l⟩
 have sz:({O with heap:=O.heap.push {cls:= .type "list",data:= .seq ([]:CD).toArray}}:hJ).heap.objs.size=O.heap.objs.size + 1:=XM ..
 generalize e8:({O with heap:=O.heap.push {cls:= .type "list",data:= .seq ([]:CD).toArray}}:hJ)=ν at I3 sz ⊢;generalize g4:upd H2 O.heap.objs.size (.lst [])=H3 at I3 τ w0;have d2:∀b o,O.heap.get? b=ag o->ν.heap.get? b=ag o:=λb o e=>by rw[<-e8];exact eH _ e
 refine wpAny_newFunctionEnv (λy hy=>S.noc y hy) (λy hy=>nomatch hy) (λh4 e9 e7=>?_) S.kind;have a8:∀b o,ν.heap.get? b=ag o->h4.get? b=ag o:=λb o e=>e7.extBut b o (z3 (hF e)) (eH _ e);have I4:=OE (tk:=ν.toks + ([]:J2).length) ho hN S χ e0 I3 (λb hb=>(τ b hb).1) (λb hb=>by rw[sz];exact ZJ (τ b hb).2) ⟨_,e9⟩ a8;have θ:=hb cl ν.heap.objs.size fp ν H3;generalize hY:mO X N sc cl ν.heap.objs.size fp ν H3=Y at I4 θ
 have a7:∀{H':Hp},(∀b∈fp,H' b=fy)->∀b∈fp,FpOk Y [] H' b:=λ{H'} hn b hb=>by
  subst hY;obtain⟨⟨a1,a2,a3,γ,a5,ψ⟩,l⟩:=τ b hb;refine⟨hn b hb,z3 (show b < ν.heap.objs.size by rw[sz];exact ZJ l),λz=>?_,.inl hb,λx c e=>a5 x c (χ (x,c) (W1 e)),λp hp=>hB (show p∈([]:CB) from hp) @F⟩;rcases xY.mp (I3.stkSub b z) with q | q
  ·exact a2 q
  ·exact a3 q
 have fin:∀{σ6:St} {H6:Hp} {s6:hJ},Inv Y [] σ6 H6 s6->Q (.ref O.heap.objs.size) H6->RR (.ref O.heap.objs.size) ν.heap.objs.size (.ok .next) s6:=λ{σ6 H6 s6} I6 q=>by
  subst hY;refine f0 _ _ H6 s6 ?_ (let ⟨m,hm,_⟩:=I6.loc;⟨m,hm⟩) (I3.fpOk (ov _) I6.free) q;obtain⟨hh,gg,dd,tt,e6⟩:=s6;obtain rfl:e6=ν.os:=I6.os
  exact I3.call (h':=hh) (g':=gg) (d':=dd) (t':=tt) (ch:=fp) I6.base I6.hok I6.bare λb hb=>by
   obtain⟨⟨a1,a2,a3,γ,a5,ψ⟩,l⟩:=τ b hb;exact⟨γ,a2,a5,ψ⟩
 have ρ:Y.prog=X.prog:=by subst hY;rfl
 have wY:Y.w=X.w:=by subst hY;rfl
 have kY:Y.K=X.K:=by subst hY;rfl
 have aY:Y.A=X.A:=by subst hY;rfl
 have cY:Y.calm=true:=by subst hY;exact L
 have ε:Y.env=compEnvC sc cl ν.heap.objs.size X.env:=by subst hY;rfl
 have Z:Y.xe=λ_ _=>False:=by subst hY;rfl
 have T':Turn Y.prog Y.w Y.K tg J fp it tn:=by rw[ρ,wY,kY];exact T
 have c5:tn 0 h4:=T.keep _ _ _ d1 λb hb o e=>a8 b o (d2 b o e)
 have b3:codeAny (px X.prog X.w) X.A (.compLoop (.ListComp c4 [⟨tg,iter,c2,0⟩] sc pos) 0 (.ref it) (.ref O.heap.objs.size) (compEnvC sc cl ν.heap.objs.size X.env)) (RR (.ref O.heap.objs.size) ν.heap.objs.size)
   {ν with heap:=h4,toks:=ν.toks + ([]:J2).length}:=by
  rw[<-ρ,<-wY,<-aY,<-ε];refine HR (λk s'=>∃i ys σ' H',Inv Y [] σ' H' s'/\σ'.drop n=(eR n fx σ).drop n/\σ'.length=(eR n fx σ).length/\tn i s'.heap/\(∀b∈fp,H' b=fy)/\W i k ys H') ?_ m0 ⟨0,[],_,H3,I4,rfl,rfl,c5,λb hb=>(τ b hb).1.1,w0⟩;rintro k ο ⟨i,ys,σ5,H5,I5,ed,el,υ,e1,α⟩
  have I5:Inv Y [] (eR n fx σ) H5 ο:=I5.weak el.symm λj v e=>by
   obtain⟨k',j',rfl,_,_⟩:=zh e;have q:=ri (λl=>l[k']?) ed;simp only[Yb] at q;rw[q];exact e
  rcases c3 i k ys H5 α with ⟨stop,q⟩ | ⟨go,η,f1,step⟩
  ·refine VZ (T'.done Y rfl rfl rfl cY i [] ο _ H5 (λ_ _=>False) I5 (a7 e1) υ stop) (λr s6 ⟨hr,I6⟩=>?_) λ_ _ z=>z;subst hr;exact fin I6 q
  ·rw[<-Z];refine thn (T'.item Y rfl rfl rfl cY i [] ο _ H5 Y.xe I5 (a7 e1) υ go) λr s6 ⟨u,hr,h6⟩=>?_;subst hr;show kn _ _ _ _ _ _;refine thn h6 λ_ s7 ⟨x,H7,I7,r7,y7,c0,f4⟩=>?_;have f8:=I7.pinned (a7 f4) (T.obj _ _ c0);refine thn (θ.1 _ s7 _ H7 x u _ f8 r7 (gk _ _ _ _ _ (fun σ' H' q e l=>(⟨q,e,l⟩:_/\_/\_)) (step x H7 y7))) λ_ s8 ⟨σ8,H8,I8,β,f6,f5⟩=>?_;refine thn (θ.2.1 _ s8 σ8 H8 _ I8 β) λok s9 ⟨H9,I9,π⟩=>?_
   have again:∀{ξ:Hp} {a0:hJ} {zs:ee V},Inv Y ([]++Bb fp s7.heap) σ8 ξ a0->η zs ξ->
     ∃m,m < k/\∃i ys σ' H',Inv Y [] σ' H' a0/\σ'.drop n=(eR n fx σ).drop n/\σ'.length=(eR n fx σ).length/\tn i a0.heap/\(∀b∈fp,H' b=fy)/\W i m ys H':=λ{ξ a0 zs} I10 c1=>by
    obtain⟨m',hm,e4⟩:=f1 _ _ c1;refine⟨m',hm,i + 1,zs,σ8,ξ,I10.unpinned,f6,f5,T.keep _ _ _ c0 λb hb o e=>(I10.pin (b,o) (i' _ (i' _ (oz hb e)))).1,λb hb=>?_,e4⟩;obtain⟨o,e,d⟩:=T.obj _ _ c0 b hb;exact(I10.pin (b,o) (i' _ (i' _ (oz hb e)))).2.1
   cases ok with
   | false=>exact again I9 π
   | true=>
     rw[qq rfl];refine thn (θ.2.2 _ s9 σ8 H9 _ I9 π) λy a0 ⟨ζ,ξ,I10,e5,ω,φ,c1⟩=>?_;refine thn (eB (X:=Y) _ a0 σ8 ξ (.ref O.heap.objs.size) [ζ] (.ref O.heap.objs.size) [y] (λ_ H'=>H'=upd ξ O.heap.objs.size (.lst (ys++[ζ]))) I10 rfl (.cons e5 .nil) ⟨_,ys,ζ,rfl,rfl,ω,φ,rfl⟩) λ_ ι ⟨_,h0,f9,_,f7⟩=>?_;subst f7;exact again f9 c1
 exact codeAny_compStart_list b3 (T.self X.A 0 _ _ _ c5 b3)
theorem b9 {osc:X5} {ON N:B1} {n:Nat} {fx:B'} {sc:X5} {Z tg iter:L'} {O:ee L'} {pos:Pos} {δ:TI} {g:TG} {tc:TT} {te:TE}
  (L:X.calm=true) (ho:X.env.scope=osc) (ψ:X.N=ON) (S:FS osc ON N n fx sc=true) (hi:PI X tg iter δ) (η:Iq n g)
  (hb:∀α C fp s H,PG (mO X N sc α C fp s H) tg g/\PTs (mO X N sc α C fp s H) O tc/\PE (mO X N sc α C fp s H) Z te)
  (hs:∀x,foldedSetIterable iter X.env x=pure x:=by intro _;rfl):PE X (.ListComp Z [⟨tg,iter,O,0⟩] sc pos) (Nc n fx δ g tc te):=by
 intro pins s σ H Q I h;have S:=lP.of S;obtain⟨α,γ,χ,φ⟩:=zi sc X.env λy ζ hf=>I.ok.has y.1 (by show X.env.scope.names.lookup y.1=ag .cell∨X.env.scope.names.lookup y.1=ag .free;rw[ho];exact S.fre y ζ hf);rw[eval_ListComp];refine ah7 (use:=fy) rfl hs γ S.kind S.own (Cm (RR:=λY C=>compPost (px X.prog X.w) X.A X.xe fy (EP X pins σ Q) Y C) L ho ψ S χ φ hi η hb I h ?_);intro D C H' s' I' hm hf q;obtain⟨m,hm⟩:=hm;obtain⟨ε,ν,ξ,τ,ι,θ⟩:=hf;exact⟨m,hm,λh' β=>⟨.ref D,H',I'.turned (t':=s'.toks) (λb o hb e=>(β.2 b hb).trans e) ε ν τ ι θ,rfl,q⟩⟩
theorem eO {i:Nat} {x:mu} {β:Pos} {α:Pos} {osc:X5} {ON N:B1} {n:Nat} {fx:B'} {sc:X5} {Z tg iter:L'} {O:ee L'} {pos:Pos} {ξ:TI} {g:TG} {tc:TT} {te:TE}
  (η:X.N.Nodup) (hx:X.N[i]? =ag x) (hl:X.env.scope.names.lookup x=ag .local) (δ:swapsWith (.ListComp Z [⟨tg,iter,O,0⟩] sc pos) (ag (.Name x β)) α.line X.env=pure true)
  (L:X.calm=true) (ho:X.env.scope=osc) (ψ:X.N=ON) (S:FS osc ON N n fx sc=true) (hi:PI X tg iter ξ) (gk:Iq n g)
  (hb:∀γ C fp s H,PG (mO X N sc γ C fp s H) tg g/\PTs (mO X N sc γ C fp s H) O tc/\PE (mO X N sc γ C fp s H) Z te)
  (hs:∀x,foldedSetIterable iter X.env x=pure x:=by intro _;rfl):PS X (.Assign [.Name x β] (.ListComp Z [⟨tg,iter,O,0⟩] sc pos) α) (tAsg (Nc n fx ξ g tc te) (LG i)):=by
 intro pins s σ H D I h;have S:=lP.of S;obtain⟨γ,θ,χ,φ⟩:=zi sc X.env λy hy hf=>I.ok.has y.1 (by show X.env.scope.names.lookup y.1=ag .cell∨X.env.scope.names.lookup y.1=ag .free;rw[ho];exact S.fre y hy hf);rw[exec_Assign_Name_used _ _ _ _ δ];refine ec (Xm (ec ?_));show kn _ X.A (do let _ <-comprehension (.ListComp Z [⟨tg,iter,O,0⟩] sc pos) sc X.env _ (newList []) false (eval iter X.env) (ag (assign (.Name x β) X.env))) _ _ s
 refine ec (thn (ah7 (use:=ag (assign (.Name x β) X.env)) (Q:=λ_ s'=>SP X pins D .next s') rfl hs θ S.kind S.own
  (Cm (RR:=λY C=>compPost (px X.prog X.w) X.A X.xe (ag (assign (.Name x β) X.env)) (λ_ s'=>SP X pins D .next s') Y C) L ho ψ S χ φ hi gk hb I h ?_)) λ_ s' q=>hH (hH q))
 intro ρ C H' s' I' hm hf q;obtain⟨m,hm⟩:=hm;obtain⟨ε,π,f2,τ,ο,f5⟩:=hf;show kn _ X.A (assign (.Name x β) X.env (.ref ρ)) _ _ _;refine an7 (AV I' η hx (.inl hl) (v:= .ref ρ) rfl (fun υ I2 ι=>?_) (.inr hl));obtain⟨a,ζ,ha⟩:=ι
 have ν:C≠a:=by
  rcases ha with z | z
  ·rw[z];exact π
  ·exactλe=>ο _ _ z e.symm
 exact⟨m,hm.sameBut ζ ν,λh' ω=>⟨_,H',I2.turned (t':=υ.toks) (λb o hb e=>(ω.2 b hb).trans e) ε π τ ο f5,q⟩⟩
end
section
variable {K:ak} {n:Nat} {fx:B'} {g:TG} {tc:TT} {te:TE} {σ:St} {H1:Hp} {D:dt} {Q:Hp->Prop}
theorem gW {lo:Int} {k:Nat} (Z:Nat->ee V->Hp->Prop) (h0:Z 0 [] (upd H1 D (.lst [])))
  (hs:∀i ys H,i < k->Z i ys H->g (.int (lo + i)) (eR n fx σ) H λL γ=>tc L γ λb β=>if b=true then te L β λv α=>α D=ag (.lst ys)/\ys.length < ix/\Z (i + 1) (ys++[v]) (upd α D (.lst (ys++[v]))) else Z (i + 1) ys β)
  (hd:∀ys H,Z k ys H->Q H):
  ∃W:Nat->Nat->ee V->Hp->Prop,(∃m,W 0 m [] (upd H1 D (.lst [])))/\∀i m ys H2,W i m ys H2->((Itr lo k).stop i H2/\Q H2)∨
    ((Itr lo k).go i H2/\∃N:ee V->Hp->Prop,(∀O H',N O H'->∃ω,ω < m/\W (i + 1) ω O H')/\∀x δ,(Itr lo k).yld i H2 x δ->g x (eR n fx σ) δ λL γ=>tc L γ λb β=>
      if b=true then te L β λv α=>α D=ag (.lst ys)/\ys.length < ix/\N (ys++[v]) (upd α D (.lst (ys++[v]))) else N ys β):=by
 refine⟨λi m ys H=>m=k - i/\i<=k/\Z i ys H,⟨k,@F,VY _,h0⟩,?_⟩;rintro i m ys H ⟨rfl,hi,p⟩;by_cases Y:i < k
 ·refine .inr ⟨Y,Z (i + 1),λO H' ε=>⟨k - (i + 1),by omega,rfl,Y,ε⟩,λx H' y=>?_⟩;obtain⟨e,y⟩:=y;subst e;subst y;exact hs i ys _ Y p
 ·have e:i=k:=by omega
  subst e;exact .inl ⟨ov _,hd ys H p⟩
theorem bf {a:dt} {xs:ee V} (O:Nat->ee V->Hp->Prop) (h0:O 0 [] (upd H1 D (.lst []))) (hl:∀i ys H,i<=xs.length->O i ys H->SqL K H a xs)
  (hs:∀i x ys H,xs[i]? =ag x->O i ys H->g x (eR n fx σ) H λL γ=>tc L γ λb β=>if b=true then te L β λv α=>α D=ag (.lst ys)/\ys.length < ix/\O (i + 1) (ys++[v]) (upd α D (.lst (ys++[v]))) else O (i + 1) ys β)
  (hd:∀ys H,O xs.length ys H->Q H):
  ∃W:Nat->Nat->ee V->Hp->Prop,(∃m,W 0 m [] (upd H1 D (.lst [])))/\∀i m ys H2,W i m ys H2->((Itl K a).stop i H2/\Q H2)∨
    ((Itl K a).go i H2/\∃N:ee V->Hp->Prop,(∀Y H',N Y H'->∃ω,ω < m/\W (i + 1) ω Y H')/\∀x δ,(Itl K a).yld i H2 x δ->g x (eR n fx σ) δ λL γ=>tc L γ λb β=>
      if b=true then te L β λv α=>α D=ag (.lst ys)/\ys.length < ix/\N (ys++[v]) (upd α D (.lst (ys++[v]))) else N ys β):=by
 refine⟨λi m ys H=>m=xs.length - i/\i<=xs.length/\O i ys H,⟨xs.length,@F,VY _,h0⟩,?_⟩;rintro i m ys H ⟨rfl,hi,p⟩;have q:=hl i ys H hi p;by_cases Z:i < xs.length
 ·refine .inr ⟨⟨xs,xs[i],q,by simp[Z]⟩,O (i + 1),λY H' ε=>⟨xs.length - (i + 1),by omega,rfl,Z,ε⟩,λx H' y=>?_⟩;obtain⟨e,y⟩:=y;subst e;exact hs i x ys _ (y xs q) p
 ·have e:i=xs.length:=by omega
  subst e;exact .inl ⟨⟨xs,q,ov _⟩,hd ys H p⟩
theorem rW {a:dt} {xs:ee V} (O:Nat->ee V->Hp->Prop) (h0:O 0 [] (upd H1 D (.lst []))) (hl:∀i ys H,i<=xs.length->O i ys H->SqT K H a xs)
  (hs:∀i x ys H,xs[i]? =ag x->O i ys H->g x (eR n fx σ) H λL γ=>tc L γ λb β=>if b=true then te L β λv α=>α D=ag (.lst ys)/\ys.length < ix/\O (i + 1) (ys++[v]) (upd α D (.lst (ys++[v]))) else O (i + 1) ys β)
  (hd:∀ys H,O xs.length ys H->Q H):
  ∃W:Nat->Nat->ee V->Hp->Prop,(∃m,W 0 m [] (upd H1 D (.lst [])))/\∀i m ys H2,W i m ys H2->((Itt K a).stop i H2/\Q H2)∨
    ((Itt K a).go i H2/\∃N:ee V->Hp->Prop,(∀Y H',N Y H'->∃ω,ω < m/\W (i + 1) ω Y H')/\∀x δ,(Itt K a).yld i H2 x δ->g x (eR n fx σ) δ λL γ=>tc L γ λb β=>
      if b=true then te L β λv α=>α D=ag (.lst ys)/\ys.length < ix/\N (ys++[v]) (upd α D (.lst (ys++[v]))) else N ys β):=by
 refine⟨λi m ys H=>m=xs.length - i/\i<=xs.length/\O i ys H,⟨xs.length,@F,VY _,h0⟩,?_⟩;rintro i m ys H ⟨rfl,hi,p⟩;have q:=hl i ys H hi p;by_cases Z:i < xs.length
 ·refine .inr ⟨⟨xs,xs[i],q,by simp[Z]⟩,O (i + 1),λY H' ε=>⟨xs.length - (i + 1),by omega,rfl,Z,ε⟩,λx H' y=>?_⟩;obtain⟨e,y⟩:=y;subst e;exact hs i x ys _ (y xs q) p
 ·have e:i=xs.length:=by omega
  subst e;exact .inl ⟨⟨xs,q,ov _⟩,hd ys H p⟩
end
def lC (K:ak) (H:Hp) (x:V) (k:U'):Prop:=match x with
 | .non=>k="NoneType"
 | .bl _=>k="bool"
 | .int _=>k="int"
 | .str _=>k="str"
 | .ref p=>(k="list"/\∃xs,SqL K H p xs)∨(k="tuple"/\∃xs,SqT K H p xs)∨(k="dict"/\∃kvs,Rd H p (.dK kvs))
 | _=>False
noncomputable def subB (k T:U'):Bool:=k == T||(k == "bool"&&T == "int")
noncomputable def rIsi (K:ak):ee V->Hp->VK->Prop:=λxs H Q=>∃x k T,xs=[x,.ty T]/\lC K H x k/\T∈["int","bool","str","list","tuple","dict"]/\Q (.bl (subB k T)) H
section
variable {X:Cx}
theorem OG:n8 X (.builtin "isinstance") (rIsi X.K):=by
 intro pins s σ H xs us Q I r h;obtain⟨x,k,T,rfl,hk,hT,q⟩:=h;obtain⟨u,v,rfl,Y,rt⟩:=IY r;cases rt;have ε:∀b,b=subB k T->EP X pins σ Q (.bool b) s:=λb e=>⟨.bl b,H,I,rfl,by rw[e];exact q⟩;have L:∀b,b=subB k T->EP X pins σ Q (.bool b) {s with toks:=s.toks + 1}:=λb e=>⟨.bl b,H,I.tok _,rfl,by rw[e];exact q⟩;simp only[xY,XH,Z'] at hT;cases x with
 | non=>
   cases Y;cases hk;rcases hT with rfl | rfl | rfl | rfl | rfl | rfl
   ·exact IsiPair.NoneType_int (L _ @C)
   ·exact IsiPair.NoneType_bool (L _ @C)
   ·exact IsiPair.NoneType_str (L _ @C)
   ·exact IsiPair.NoneType_list (L _ @C)
   ·exact IsiPair.NoneType_tuple (L _ @C)
   ·exact IsiPair.NoneType_dict (L _ @C)
 | bl b=>
   cases Y;cases hk;rcases hT with rfl | rfl | rfl | rfl | rfl | rfl
   ·exact IsiPair.bool_int (ε _ @C)
   ·exact IsiPair.bool_bool (ε _ @C)
   ·exact IsiPair.bool_str (L _ @C)
   ·exact IsiPair.bool_list (L _ @C)
   ·exact IsiPair.bool_tuple (L _ @C)
   ·exact IsiPair.bool_dict (L _ @C)
 | int i=>
   obtain⟨t,rfl⟩:=Y;cases hk;rcases hT with rfl | rfl | rfl | rfl | rfl | rfl
   ·exact IsiPair.int_int (ε _ @C)
   ·exact IsiPair.int_bool (L _ @C)
   ·exact IsiPair.int_str (L _ @C)
   ·exact IsiPair.int_list (L _ @C)
   ·exact IsiPair.int_tuple (L _ @C)
   ·exact IsiPair.int_dict (L _ @C)
 | str z=>
   obtain⟨t,rfl⟩:=Y;cases hk;rcases hT with rfl | rfl | rfl | rfl | rfl | rfl
   ·exact IsiPair.str_int (L _ @C)
   ·exact IsiPair.str_bool (L _ @C)
   ·exact IsiPair.str_str (ε _ @C)
   ·exact IsiPair.str_list (L _ @C)
   ·exact IsiPair.str_tuple (L _ @C)
   ·exact IsiPair.str_dict (L _ @C)
 | ref p=>
   cases Y;rcases hk with ⟨rfl,xs,Z⟩ | ⟨rfl,xs,Z⟩ | ⟨rfl,kvs,Z⟩
   ·obtain⟨its,_,pl,_⟩:=I.list Z;obtain⟨o,ho,O,_⟩:=pl.isList;rcases hT with rfl | rfl | rfl | rfl | rfl | rfl
    ·exact IsiPair.list_int ho O (L _ @C)
    ·exact IsiPair.list_bool ho O (L _ @C)
    ·exact IsiPair.list_str ho O (L _ @C)
    ·exact IsiPair.list_list ho O (ε _ @C)
    ·exact IsiPair.list_tuple ho O (L _ @C)
    ·exact IsiPair.list_dict ho O (L _ @C)
   ·obtain⟨its,_,pl,_⟩:=I.tuple Z;obtain⟨o,ho,O,_⟩:=pl;rcases hT with rfl | rfl | rfl | rfl | rfl | rfl
    ·exact IsiPair.tuple_int ho O (L _ @C)
    ·exact IsiPair.tuple_bool ho O (L _ @C)
    ·exact IsiPair.tuple_str ho O (L _ @C)
    ·exact IsiPair.tuple_list ho O (L _ @C)
    ·exact IsiPair.tuple_tuple ho O (ε _ @C)
    ·exact IsiPair.tuple_dict ho O (L _ @C)
   ·obtain⟨_,_,_,_,o,_,_,ho,ex,_⟩:=Z.ok I.hok;have O:o.cls= .type "dict":=ex.1;rcases hT with rfl | rfl | rfl | rfl | rfl | rfl
    ·exact IsiPair.dict_int ho O (L _ @C)
    ·exact IsiPair.dict_bool ho O (L _ @C)
    ·exact IsiPair.dict_str ho O (L _ @C)
    ·exact IsiPair.dict_list ho O (L _ @C)
    ·exact IsiPair.dict_tuple ho O (L _ @C)
    ·exact IsiPair.dict_dict ho O (ε _ @C)
 | _=>exact y' hk
noncomputable def Tf:V->ee V->Hp->VK->Prop:=λx xs H Q=>∃i,x= .int i/\xs=[]/\Q (.int (xo i:Nat)) H
theorem p8:MtR X "int.bit_length" Tf:=by
 intro pins s σ H x xs v us Q I L rs h;obtain⟨i,rfl,rfl,q⟩:=h;obtain⟨t,rfl⟩:=L;cases rs;exact call_int_bit_length ⟨.int _,H,I.tok _,⟨_,rfl⟩,q⟩
noncomputable def eqVs (xs ys:ee V):Bool:=xs.length == ys.length&&(lj xs.length).all λj=>eqV (xs.getD j .non) (ys.getD j .non)
noncomputable def rEqL (K:ak) (neg:V6):R2:=λx y H Q=>∃a b xs ys,x= .ref a/\y= .ref b/\SqL K H a xs/\SqL K H b ys/\xs.all nS=true/\ys.all nS=true/\Q (.bl (if neg then !eqVs xs ys else eqVs xs ys)) H
theorem sh {xs:ee V} {us:CD} (r:Vals xs us) {j:Nat} (h:j < us.toArray.size):RelV (xs.getD j .non) (us.toArray[j]):=by
 have hl:=r.length;have h':j < us.length:=by simpa using h
 obtain⟨u,e,L⟩:=r.get (i:=j) (x:=xs.getD j .non) (by rw[eY,eF @A];rfl)
 have O:us.toArray[j]=u:=by
  rw[eF h'] at e;have:=vu e;simpa using this
 rw[O];exact L
theorem Er {xs:ee V} (f:xs.all nS=true) (j:Nat):nS (xs.getD j .non)=true:=by
 rw[eY];cases e:xs[j]? with
 | none=>rfl
 | some x=>exact Wc.mp f x (f' e)
theorem Fi {pins:CB} {σ:St} {H:Hp} {s:hJ} {a b:dt} {xs ys:ee V} {A:z5} (hu:A.units < cLine) (I:Inv X pins σ H s) (ha:SqL X.K H a xs) (hb:SqL X.K H b ys) (fx:xs.all nS=true) (Y:ys.all nS=true):
  SeqAt.RcAt A s (.ref a) (.ref b) (eqVs xs ys)/\SeqAt.RcNeAt A s (.ref a) (.ref b) (!eqVs xs ys):=by
 obtain⟨its,r,pl,_⟩:=I.list ha;obtain⟨O,r',ι,_⟩:=I.list hb;have ω:=r.length;have L:=r'.length;by_cases hl:xs.length=ys.length
 ·have e:eqVs xs ys=(lj its.toArray.size).all λj=>eqV (xs.getD j .non) (ys.getD j .non):=by
   unfold eqVs;rw[hl,W4,an5,x3,<-ω,hl]
  rw[e];have hz:its.toArray.size=O.toArray.size:=by simp;omega
  have he:∀j (h1:j < its.toArray.size) (h2:j < O.toArray.size),ah4 A.in1 s its.toArray[j] O.toArray[j] (eqV (xs.getD j .non) (ys.getD j .non)):=λj h1 h2=>
   Py (sh r h1) (sh r' h2) (Er fx j) (Er Y j)
  exact⟨SeqAt.RcAt.lists pl.isList ι.isList hz hu he,SeqAt.RcNeAt.lists pl.isList ι.isList hz hu he⟩
 ·have e:eqVs xs ys=false:=by
   unfold eqVs;rw[z0.mpr hl,YY]
  rw[e];have hz:(its.toArray.size != O.toArray.size)=true:=by simp;omega
  exact⟨SeqAt.RcAt.lists_lengths pl.isList ι.isList hz hu,SeqAt.RcNeAt.lists_lengths pl.isList ι.isList hz hu⟩
theorem TQ (hu:X.A.units < cLine):OpR X (compareOp .Eq) (rEqL X.K false):=by
 intro pins s σ H x y v u Q I O L h;obtain⟨a,b,xs,ys,rfl,rfl,ha,hb,fx,Y,q⟩:=h;cases O;cases L;exact(Fi hu I ha hb fx Y).1 X.prog X.w X.xe _ ⟨.bl _,H,I,rfl,q⟩
theorem TN (hu:X.A.units < cLine):OpR X (compareOp .NotEq) (rEqL X.K true):=by
 intro pins s σ H x y v u Q I O L h;obtain⟨a,b,xs,ys,rfl,rfl,ha,hb,fx,Y,q⟩:=h;cases O;cases L;exact(Fi hu I ha hb fx Y).2 X.prog X.w X.xe _ ⟨.bl _,H,I,rfl,q⟩
end
theorem LS {xs:ee V} (f:xs.all nS=true):eqVs xs xs=true:=by
 unfold eqVs;rw[W4,an5,Wc];intro j _;have:=Er f j;generalize xs.getD j .non=x at this;cases x<;>first | rfl | exact W4 _ | cases this
theorem eK (a b:Nat):WG (a:Int) (b:Int)=((a&&&b:Nat):Int):=by
 unfold WG;rw[hG (Zq a),hG (Zq b)];simp
theorem KJ:typeLookup (.type "list_reverseiterator") "__len__"=pure none:=by rw[ad5,Ze];kernel_rfl
theorem Oe:typeLookup (.type "list_reverseiterator") "__length_hint__"=pure (ag (.builtin "list_reverseiterator.__length_hint__")):=by rw[ad5,Ze];kernel_rfl
section
variable {P0:oT} {w0:w7} {A0:z5} {E0':C'} {t0:hJ}
theorem HF {R:HB} {Y l:dt} {items:CN} (ζ:A0.handled=fy) (η:l≠Y) (π:t0.heap.IsRevIter Y l ((items.size:Int) - 1)) (hl:t0.heap.IsList l items) (hz:items.size<=ix)
  (S:dt) (res:ic) (Z:Nat) (ο:t0.heap.get? S=ag {cls:= .type "list",data:= .seq #[] Z}) (O:S≠Y) (ι:S≠l)
  (ρ:∀h' tk L α,(∀b o,b≠S->b≠Y->t0.heap.get? b=ag o->h'.get? b=ag o)->h'.get? S=ag {cls:= .type "list",dict:=fy,data:= .seq L α,slots:=#[]}->
   ItemsOf (λi v=>items[items.size - 1 - i]? =ag v) L items.size->R (.ok (.ret res)) {t0 with heap:=h',toks:=tk}):
  kn (px P0 w0) A0.in1 (Ww (.ref S) (.ref Y) res)
   (λfin s'=>match fin with | .done f=>R (.ok f) s' | .again α=>α.quiet=true/\codeAny (px P0 w0) A0 α R s') (λe s'=>R (.error e) s') t0:=by
 have W:=(Walks.listRev (prog:=P0) (w:=w0) (A:=A0.in1) ζ Y l η items).toS;have ε:(0:Nat)<=items.size/\t0.heap.IsRevIter Y l ((items.size:Int) - 1 - ((0:Nat):Int))/\t0.heap.IsList l items:=⟨VY _,by simpa using π,hl⟩;have h1:ZD (.ref S) (.ref Y)=false:=by simp[ZD,O]
 have ν:S∉[Y,l]:=by simp[O,ι]
 unfold Ww;refine ec (aa0 π.typeIs ?_);rw[n' (by rw[h1];decide)];refine ec (wpAny_pyIter_revIter π ?_);refine ec (W' ?_);unfold Builtin.List.listLengthHint;refine ec (ad4 π.typeIs KJ ?_);show kn _ A0.in1 (specialOf (sb Y) (YL "__length_hint__") >>=_) _ _ _;refine ec (ad4 π.typeIs Oe ?_)
 (generalize γ:("list_reverseiterator.__length_hint__":U')=id0;wp_delta;rw[show splitId id0=ag ("list_reverseiterator","__length_hint__") from by subst γ;decide +kernel];subst γ)
 refine ec (wpAny_isInstance (b:=true) π.typeIs (by rw[isSubtype_type];kernel_rfl) ?_);refine hH ?_;rw[n' @C];refine hH ⟨ah1 F.plain_extend_loop _,codeAny_extend_loopS W hz S ν res items.size 0 t0 #[] Z rfl (VY _) ε ο (ItemsOf.nil _) λs' L α hm ξ δ=>?_⟩;rw[Moved.eq_with hm];refine ρ s'.heap s'.toks L α (λb o hb θ e=>hm.heap b o (fun β=>?_) e) ξ δ;rcases xY.mp β with z | z
 ·exact hb z
 ·exact θ (gn.mp z)
theorem Oc {R:HB} {Y l:dt} {items:CN} (ζ:A0.handled=fy) (δ:l≠Y) (π:t0.heap.IsRevIter Y l ((items.size:Int) - 1)) (hl:t0.heap.IsList l items) (hz:items.size<=ix)
  (S:dt) (ι:t0.heap.get? S=ag {cls:= .type "list",data:= .seq #[]}) (O:S≠Y) (β:S≠l)
  (ν:∀h' tk L Z,(∀b o,b≠S->b≠Y->t0.heap.get? b=ag o->h'.get? b=ag o)->h'.get? S=ag {cls:= .type "list",dict:=fy,data:= .seq L Z,slots:=#[]}->
   ItemsOf (λi v=>items[items.size - 1 - i]? =ag v) L items.size->R (.ok (.ret .none)) {t0 with heap:=h',toks:=tk}):
  kn (px P0 w0) A0.in1 (Builtin.«list.__init__» ⟨[.ref S,.ref Y],[]⟩)
   (λfin s'=>match fin with | .done f=>R (.ok f) s' | .again Z=>Z.quiet=true/\codeAny (px P0 w0) A0 Z R s') (λe s'=>R (.error e) s') t0:=by
 show kn _ _ (do let γ <-ZO (.ref S);Builtin.List.listUpdate (.ref S) (λ_=>#[]);letGo γ.toList.reverse;Ww (.ref S) (.ref Y) .none) _ _ t0;refine ec ?_;unfold ZO;refine ec (Zl ι rfl (hH ?_));show kn _ _ (updateSeq S (λ_=>#[]) >>=λ_=>letGo (#[]:CN).toList.reverse >>=λ_=>Ww (.ref S) (.ref Y) .none) _ _ t0;refine ec (wpAny_updateSeq ι rfl ?_);have η:=Xf (ab6 (λ_=>(#[]:CN))) ι rfl;have oth:∀b o,b≠S->t0.heap.get? b=ag o->(t0.heap.update S (ab6 (λ_=>(#[]:CN)))).get? b=ag o:=λb o hb e=>(X4 _ _ (Wf hb)).trans e;refine ec (wpAny_letGo ?_);refine HF ζ δ (π.at λo e=>oth Y o (Wf O) e) (let ⟨o,e,c⟩:=hl;⟨o,oth l o (Wf β) e,c⟩) hz S .none _ η O β λh' tk L Z hk θ α=>?_;exact ν h' tk L Z (λb o hb ε e=>hk b o hb ε (oth b o hb e)) θ α
theorem AA {Q:C'} {Z l:dt} {items:CN} (ζ:A0.handled=fy) (O:l≠Z) (π:t0.heap.IsRevIter Z l ((items.size:Int) - 1)) (hl:t0.heap.IsList l items) (hz:items.size<=ix)
  (ι:∀h' tk L η,(∀b o,b≠Z->t0.heap.get? b=ag o->h'.get? b=ag o)->h'.get? t0.heap.objs.size=ag {cls:= .type "list",dict:=fy,data:= .seq L η,slots:=#[]}->
   ItemsOf (λi v=>items[items.size - 1 - i]? =ag v) L items.size->Q (.ref t0.heap.objs.size) {t0 with heap:=h',toks:=tk}):
  kn (px P0 w0) A0 (call (.type "list") [.ref Z]) Q E0' t0:=by
 have δ:Z < t0.heap.objs.size:=let ⟨o,e,_⟩:=π;hF e
 have γ:l < t0.heap.objs.size:=let ⟨o,e,_⟩:=hl;hF e
 refine callType_codes (Q₁:=λobj Y=>obj= .ref t0.heap.objs.size/\Y={t0 with heap:=t0.heap.push {cls:= .type "list",data:= .seq #[]}}) F.called_list (F.typeCall_list_1 _) F.entry_list_init (code_list_new _ ⟨rfl,rfl⟩) λobj Y α=>?_;obtain⟨rfl,rfl⟩:=α;have θ:(t0.heap.push {cls:= .type "list",data:= .seq #[]}).get? t0.heap.objs.size=ag {cls:= .type "list",data:= .seq #[]}:=kv _ rfl;refine⟨⟨_,θ,rfl⟩,F.args_list_init_2 _ _,Oc (A0:=A0.in1) ζ O (π.at λo e=>eH _ e) (let ⟨o,e,c⟩:=hl;⟨o,eH _ e,c⟩) hz _ θ (Wf (z3 δ)) (Wf (z3 γ)) λh' tk L η hk ε β=>?_⟩;exact⟨rfl,ι h' tk L η (λb o hb e=>hk b o (z3 (hF e)) hb (eH _ e)) ε β⟩
end
theorem Inv.laidT {X:Cx} {pins:CB} {σ:St} {H:Hp} {s:hJ} {h':N'} {a O:dt} {o:HO} {t':Nat} (I:Inv X pins σ H s) (k:∀b u,b≠O->s.heap.get? b=ag u->h'.get? b=ag u) (hp:s.heap.objs.size<=a)
  (α:gj X.prog X.w (upd H a o) h' a o) (fp:FpOk X pins H O):Inv X pins σ (upd H a o) {s with heap:=h',toks:=t'}:=by
 obtain⟨ε,β,ζ,τ,δ,γ⟩:=fp;have fr:H a=none:=I.hok.fresh hp;have Z:∀b u,H b=ag u->b≠O:=λb u e z=>by rw[z,ε] at e;cases e
 have L:∀{b:dt},b∉[O]->b≠O:=λhb z=>hb (by rw[z];exact gn.mpr rfl)
 refine I.step (g':=s.gens) (d':=s.drawn) (ch:=[O]) (λb hb=>?_) (λb ob _ _ Y e _=>k b ob (L Y) e) (λb ob _ _ Y e _=>⟨ob.slots,k b ob (L Y) e⟩) (λb ob _ e n=>?_) (λb ob Y e=>⟨ob,k b ob (L Y) e⟩)
  (λb xs e=>by rw[aE (aq e fr)];exact e) (λb ob u e=>by rw[aE (aq e fr)];exact e) (λb ps e=>⟨#[],by rw[aE (aq e fr),e];simp⟩) (λm hm=>?_) (λb u e=>?_) I.bare
 ·have e:b=O:=gn.mp hb;subst e;exact⟨τ,β,δ,γ⟩
 ·rw[aE (z3 (hA (hF e) hp))];exact n
 ·obtain⟨ob,es,ep,ho,r⟩:=hm;exact⟨ob,es,ep,k _ ob (Wf β) ho,r⟩
 ·by_cases hb:b=a
  ·subst hb;rw[aD] at e;cases e;exact α
  ·rw[aE hb] at e;refine(I.hok b u e).stay (λc v Y q=>k c v ?_ q) (λc q=>by rw[aE (aq q fr)];exact q) λc xs q=>by rw[aE (aq q fr)];exact q
   rcases Y with z | z
   ·rw[z];exact Z b u e
   ·exact Z c _ z
theorem Lj {its:CD} {Y:CN} (h:ItemsOf (λi v=>its.toArray[its.toArray.size - 1 - i]? =ag v) Y its.toArray.size):Y=its.reverse.toArray:=by
 obtain⟨h1,h2⟩:=h;apply Array.ext_getElem?;intro i;have hs:its.toArray.size=its.length:=by simp
 by_cases hi:i < Y.size
 ·have e:=h2 i Y[i] (ab5 hi);rw[ab5 hi,<-e];rw[af8,af8,List.getElem?_reverse @A,hs]
 ·rw[ae2 @A,ae2 (by simp;omega)]
noncomputable def tRev (K:ak) (te:TE):TE:=fun σ H Q=>te σ H λx H1=>∃a xs,x= .ref a/\SqL K H1 a xs/\∀l,H1 l=fy->Q (.ref l) (upd H1 l (.lst xs.reverse))
section
variable {X:Cx}
theorem GQ {e:L'} {te:TE} {p1 p2 δ θ:Pos} (g1:Gl X "list") (g2:Gl X "reversed") (n1:X.mg "list"=fy) (ν:X.mg "reversed"=fy) (hc:X.calm=true) (he:PE X e te)
  (h1:ll [Expr.Call (.Name "reversed" p1) [e] [] p2] X.env=[(false,eval (.Call (.Name "reversed" p1) [e] [] p2) X.env)]:=by rfl) (h2:ll [e] X.env=[(false,eval e X.env)]:=by rfl):
  PE X (.Call (.Name "list" δ) [.Call (.Name "reversed" p1) [e] [] p2] [] θ) (tRev X.K te):=by
 intro pins s σ H Q I h
 have Z:∀η:C',(∀v L,(∃a xs its H1 r,v= .ref r/\SqL X.K H1 a xs/\Vals xs its/\a≠r/\Inv X pins σ H1 L/\L.heap.IsRevIter r a ((its.toArray.size:Int) - 1)/\L.heap.IsList a its.toArray/\its.length<=ix/\H1 r=fy/\FpOk X pins H1 r/\(∀l,H1 l=fy->Q (.ref l) (upd H1 l (.lst xs.reverse))))->η v L)->
   kn (px X.prog X.w) X.A (eval (.Call (.Name "reversed" p1) [e] [] p2) X.env) η X.xe s:=fun η ζ=>by
  refine ai1 (nN I g2 ν PyProof.Rows.boot_reversed (Tn (thn (aa he ae h2 p2 pins s σ H (λvs H1=>match vs with | [x]=>∃a xs,x= .ref a/\SqL X.K H1 a xs/\∀l,H1 l=fy->Q (.ref l) (upd H1 l (.lst xs.reverse)) | _=>False) I h) λus L ⟨vs,H1,I1,γ,δ⟩=>?_) h2 rfl))
  match vs,γ,δ with
  | [x],γ,⟨a,xs,ρ,ε,q⟩=>
  obtain⟨u,rfl,ι⟩:=γ.one;subst ρ;cases ι;obtain⟨its,α,pl,hz⟩:=I1.list ε;have lt:a < L.heap.objs.size:=let ⟨o,e,_⟩:=pl.isList;hF e
  refine call_reversed_list pl.isList (ζ _ _ ⟨a,xs,its,H1,L.heap.objs.size,rfl,ε,α,z3 lt,I1.kept (t':=L.toks) λb o e=>eH _ e,⟨_,kv _ rfl,rfl,rfl⟩,let ⟨o,e,c⟩:=pl.isList;⟨o,eH _ e,c⟩,by rw[<-α.length];exact hz,I1.fresh,I1.fpOk (ov _) I1.fresh,q⟩)
 refine ai1 (nN I g1 n1 oD (Tn (Q:=EP X pins σ Q) ?_ h1 rfl));rw[h1];show kn _ _ (spliced ((false,eval (.Call (.Name "reversed" p1) [e] [] p2) X.env)::backTo θ [])) _ _ s;refine Zh (Z _ λv L ξ=>Zs ?_);obtain⟨a,xs,its,H1,r,rfl,ε,α,O,I1,π,hl,hz,hf,fp,q⟩:=ξ;refine AA (I1.ok.hd hc) O π hl (by simpa using hz) λh' tk Y c hk ο β=>?_;have e:=Lj β;subst e;exact⟨.ref L.heap.objs.size,upd H1 L.heap.objs.size (.lst xs.reverse),I1.laidT hk (ov _) ⟨by rw[ai0,α.length];exact hz,its.reverse,c,α.reverse,ο⟩ fp,rfl,q _ I1.fresh⟩
end
section
variable {X:Cx} {K:ak}
theorem bM (h:X.K=K):IxR X (rIxL K):=by subst h;exact Rh
theorem az (h:X.K=K):IxR X (rIxT K):=by subst h;exact Ul
theorem lR (h:X.K=K):SlR X (rSlL K):=by subst h;exact Qw
theorem Q0 (h:X.K=K) (hu:X.A.units < cLine):OpR X (compareOp .Eq) (rEqL K false):=by subst h;exact TQ hu
theorem DH (h:X.K=K) (hu:X.A.units < cLine):OpR X (compareOp .NotEq) (rEqL K true):=by subst h;exact TN hu
theorem dm (h:X.K=K):n8 X (.builtin "isinstance") (rIsi K):=by subst h;exact OG
noncomputable def rLen (K:ak):ee V->Hp->VK->Prop:=λxs H Q=>∃x n,xs=[x]/\LenV K x H n/\Q (.int n) H
theorem aK (h:X.K=K):n8 X (.builtin "len") (rLen K):=by subst h;exact OF
noncomputable def Dq (K:ak):ee V->Hp->VK->Prop:=λxs H Q=>∃p ys,xs=[.ref p]/\(SqL K H p ys∨SqT K H p ys)/\∀l,H l=fy->Q (.ref l) (upd H l (.lst ys))
theorem cZ (h:X.K=K):n8 X (.type "list") (Dq K):=by subst h;exact Ct
noncomputable def Kf (K:ak):ee V->Hp->VK->Prop:=λxs H Q=>∃p ys,xs=[.ref p]/\((SqL K H p ys/\∀l,H l=fy->Q (.ref l) (upd H l (.tup ys)))∨(SqT K H p ys/\Q (.ref p) H))
theorem dk (h:X.K=K):n8 X (.type "tuple") (Kf K):=by subst h;exact Az
theorem aR {tg l:L'} {tl:TE} (h:X.K=K) (hl:PE X l tl):PI X tg l (Um K tl):=by subst h;exact QU hl
theorem l7 {tg l:L'} {tl:TE} (h:X.K=K) (hl:PE X l tl):PI X tg l (iTup K tl):=by subst h;exact TB hl
theorem pW {o:L'} {to:TE} {name:mu} {apos cpos:Pos} {T id:U'} {r:V->ee V->Hp->VK->Prop} (h:X.K=K) (α:PlainAttrs T) (slot:Slot T name id) (Y:typeOf (.builtin id)=pure (.type "method_descriptor")) (hm:MtR X id r) (ho:PE X o to)
  (O:attributeBase o name X.env (eval o X.env)=eval o X.env:=by rfl) (L:(apos.endLine == cpos.line)=true:=by rfl):PE X (.Call (.Attribute o name apos) [] [] cpos) (tBM0 K T r to):=by subst h;exact TL α slot Y hm ho O L
theorem iR {o e:L'} {es:ee L'} {to:TE} {t:TA} {name:mu} {apos cpos:Pos} {T id:U'} {r:V->ee V->Hp->VK->Prop} (h:X.K=K) (α:PlainAttrs T) (slot:Slot T name id) (β:typeOf (.builtin id)=pure (.type "method_descriptor")) (hm:MtR X id r) (ho:PE X o to) (ha:PA X (e::es) t)
  (Y:attributeBase o name X.env (eval o X.env)=eval o X.env:=by rfl)
  (Z:((backTo cpos (ll (e::es) X.env)).all (λx=> !x.1)&&(backToKw cpos (keywordEach [] X.env)).all (λx=>x.1.isSome)
   &&decide ((e::es).length + ([]:ee Keyword).length + (if ([]:ee Keyword).isEmpty then 0 else 1) < 30))=true:=by rfl)
  (O:(apos.endLine == cpos.line)=true:=by rfl) (hs:ll (e::es) X.env=(false,eval e X.env)::ll es X.env:=by rfl) (L:(backTo cpos (ll es X.env)).any (·.1)=false:=by rfl):
  PE X (.Call (.Attribute o name apos) (e::es) [] cpos) (tBM K T r to t):=by subst h;exact Vv α slot β hm ho ha Y Z O hs L
end
noncomputable def Its (x:mu):It:=⟨λi _=>i < x.cps.size,λi H v H'=>H'=H/\∃c,x.cps[i]? =ag c/\v= .str ⟨#[c]⟩,λi _=>i=x.cps.size⟩
theorem E5 {P:oT} {w:w7} {K:ak} {tg:L'} {L:dt} {x:mu} {t:Tok} {n:U'}
  (hn:["enumerate","zip","dict_itemiterator","dict_reverseitemiterator","odict_iterator","itertools.zip_longest","itertools.pairwise"].contains n=false)
  (W:∀A:z5,A.handled=fy->Walks P w A L [L] [L] x.cps.size (SignAt x) (λi h=>h.IsStrIter L n x t i))
  (O:∀(A:z5) (i:Nat) (s:hJ) (Q:C') (E:C'),s.heap.IsStrIter L n x t i->Q (.ref L) s->kn (px P w) A (pyIter (.ref L)) Q E s):
  Turn P w K tg (Its x) [L] L (λi h=>h.IsStrIter L n x t i) where
 mem:=by simp
 obj:=λi h st b hb=>by
  have e:b=L:=by simpa using hb
  subst e;obtain⟨o,e,c,d⟩:=st;exact⟨o,e,λv z=>by rw[d] at z;cases z⟩
 keep:=λi h h' st k=>let ⟨o,e,r⟩:=st;⟨o,k L @F o e,r⟩
 item:=by
  intro X γ hw ρ β i pins s σ H E I hf st Z;subst γ hw ρ;obtain⟨ε,η,ν,τ,ζ,δ⟩:=hf L @F;refine(W X.A (I.ok.hd β)).item i s _ _ Z st λv h' tk ι Y α=>?_;obtain⟨c,u,θ,rfl⟩:=ι;have ο:Inv X pins σ H {s with heap:=h',toks:=tk}:=I.turned (λb o hb e=>α b o (by simpa using hb) e) ε η τ ζ δ;obtain⟨o,e,ξ,d⟩:=id Y;exact⟨_,rfl,Oi (s:={s with heap:=h',toks:=tk}) (n:=n) e ξ d hn ⟨.str ⟨#[c]⟩,H,ο,⟨u,rfl⟩,⟨rfl,c,θ,rfl⟩,Y,λb hb=>(hf b hb).1⟩⟩
 done:=by
  intro X γ hw ρ β i pins s σ H E I hf st Z;subst γ hw ρ;obtain⟨ε,η,ν,τ,ζ,δ⟩:=hf L @F;have Z:i=x.cps.size:=Z;subst Z;exact(W X.A (I.ok.hd β)).done s _ _ st λh' tk α=>⟨rfl,I.turned (λb o hb e=>α b o (by simpa using hb) e) ε η τ ζ δ⟩
 self:=O
noncomputable abbrev iStr (tl:TE):TI:=fun σ H R=>tl σ H λx H1=>∃z,x= .str z/\R (Its z) H1
section
variable {X:Cx} {tg:L'}
theorem TC {l:L'} {tl:TE} (hl:PE X l tl):PI X tg l (iStr tl):=by
 intro pins s σ H R I h;refine thn (hl pins s σ H _ I h) λv L ⟨x,H1,I1,Y,Z⟩=>?_;obtain⟨z,e,q⟩:=Z;subst e;obtain⟨t,rfl⟩:=Y
 have fp:∀(o:Obj),∀b∈[L.heap.objs.size],FpOk X pins H1 b:=λo b hb=>by
  have e:b=L.heap.objs.size:=by simpa using hb
  subst e;exact I1.fpOk (ov _) (I1.hok.fresh (ov _))
 cases ha:z.cps.all (· < 128)
 ·refine wpAny_pyIter_wide ha ⟨L.heap.objs.size,[L.heap.objs.size],_,_,H1,rfl,I1.kept (t':=L.toks) λb o e=>eH _ e,
   E5 (n:="str_iterator") (t:=t) @C (λA O=>Walks.strWide O _ z t) (λ_ _ _ _ _ st h=>wpAny_pyIter_striter_wide st h),⟨_,kv _ rfl,rfl,rfl⟩,fp default,q⟩
 ·refine wpAny_pyIter_ascii ha ⟨L.heap.objs.size,[L.heap.objs.size],_,_,H1,rfl,I1.kept (t':=L.toks) λb o e=>eH _ e,
   E5 (n:="str_ascii_iterator") (t:=t) @C (λA O=>Walks.strAscii O _ z t) (λ_ _ _ _ _ st h=>wpAny_pyIter_striter_ascii st h),⟨_,kv _ rfl,rfl,rfl⟩,fp default,q⟩
end
section
variable {n:Nat} {fx:B'} {g:TG} {tc:TT} {te:TE} {σ:St} {H1:Hp} {D:dt} {Q:Hp->Prop}
theorem OD {z:mu} (Y:Nat->ee V->Hp->Prop) (h0:Y 0 [] (upd H1 D (.lst [])))
  (hs:∀i c ys H,z.cps[i]? =ag c->Y i ys H->g (.str ⟨#[c]⟩) (eR n fx σ) H λL γ=>tc L γ λb β=>if b=true then te L β λv α=>α D=ag (.lst ys)/\ys.length < ix/\Y (i + 1) (ys++[v]) (upd α D (.lst (ys++[v]))) else Y (i + 1) ys β)
  (hd:∀ys H,Y z.cps.size ys H->Q H):
  ∃W:Nat->Nat->ee V->Hp->Prop,(∃m,W 0 m [] (upd H1 D (.lst [])))/\∀i m ys H2,W i m ys H2->((Its z).stop i H2/\Q H2)∨
    ((Its z).go i H2/\∃N:ee V->Hp->Prop,(∀O H',N O H'->∃ω,ω < m/\W (i + 1) ω O H')/\∀x δ,(Its z).yld i H2 x δ->g x (eR n fx σ) δ λL γ=>tc L γ λb β=>
      if b=true then te L β λv α=>α D=ag (.lst ys)/\ys.length < ix/\N (ys++[v]) (upd α D (.lst (ys++[v]))) else N ys β):=by
 refine⟨λi m ys H=>m=z.cps.size - i/\i<=z.cps.size/\Y i ys H,⟨z.cps.size,@F,VY _,h0⟩,?_⟩;rintro i m ys H ⟨rfl,hi,p⟩;by_cases Z:i < z.cps.size
 ·refine .inr ⟨Z,Y (i + 1),λO H' ε=>⟨z.cps.size - (i + 1),by omega,rfl,Z,ε⟩,λx H' y=>?_⟩;obtain⟨e,c,ζ,y⟩:=y;subst e;subst y;exact hs i c ys _ ζ p
 ·have e:i=z.cps.size:=by omega
  subst e;exact .inl ⟨rfl,hd ys H p⟩
end
noncomputable def Th (K:ak):ee V->Hp->VK->Prop:=λxs H Q=>∃(a:dt) (bs:ee V6),xs=[.ref a]/\SqL K H a (bs.map V.bl)/\Q (.bl (bs.all id)) H
noncomputable def Tg (K:ak):ee V->Hp->VK->Prop:=λxs H Q=>∃(a:dt) (bs:ee V6),xs=[.ref a]/\SqL K H a (bs.map V.bl)/\Q (.bl (bs.any id)) H
section
variable {X:Cx} {K:ak}
theorem Mj {bs:ee V6} {its:CD} (L:Vals (bs.map V.bl) its) {i:Nat} {v:ic} (h:its.toArray[i]? =ag v):v= .bool (bs.getD i false):=by
 have h':its[i]? =ag v:=by simpa using h
 have hi:i < its.length:=(b'.mp h').1;have hl:=L.length;rw[a'] at hl;obtain⟨u,e,r⟩:=L.get (i:=i) (x:= .bl (bs.getD i false)) (by rw[kf,eF @A,eY,eF @A];rfl);rw[h'] at e;cases e;exact r
theorem UO (bs:ee V6):(lj bs.length).all (λi=>bs.getD i false)=bs.all id:=by
 rw[Wz,Wc,Wc];constructor
 ·intro h x L;obtain⟨i,hi,e⟩:=Wp.mp L;have:=h i (V2.mpr hi);rw[eY,eF hi,e] at this;exact this
 ·intro h i hi;have hi:=V2.mp hi;rw[eY,eF hi];exact h _ (Wn hi)
theorem UM (bs:ee V6):(lj bs.length).any (λi=>bs.getD i false)=bs.any id:=by
 rw[Wz,Xq,Xq];constructor
 ·rintro⟨i,hi,h⟩;have hi:=V2.mp hi;rw[eY,eF hi] at h;exact⟨_,Wn hi,h⟩
 ·rintro⟨x,L,h⟩;obtain⟨i,hi,e⟩:=Wp.mp L;refine⟨i,V2.mpr hi,?_⟩;rw[eY,eF hi,e];exact h
theorem Cv (h:X.K=K) (hc:X.calm=true):n8 X (.builtin "all") (Th K):=by
 subst h;intro pins s σ H xs us Q I r h;obtain⟨a,bs,rfl,α,q⟩:=h;obtain⟨u,rfl,O⟩:=xH r;cases O;obtain⟨its,L,pl,hz⟩:=I.list α;have lt:a < s.heap.objs.size:=let ⟨o,e,_⟩:=pl.isList;hF e
 have hl:its.toArray.size=bs.length:=by have:=L.length;rw[a'] at this;simp[this]
 refine call_all_walk (Y1 pl.isList ⟨s.heap.objs.size,_,_,its.toArray.size,_,_,λi=>bs.getD i false,rfl,ah2 (A:=X.A.in1) (I.ok.hd hc) s.heap.objs.size a (z3 lt) its.toArray,⟨⟨_,kv _ rfl,rfl,rfl⟩,let ⟨o,e,c⟩:=pl.isList;⟨o,eH _ e,c⟩⟩,λi v s Q E Z β=>by rw[Mj L Z];exact WX β,λh' tk Y=>?_⟩);rw[hl,UO];exact⟨.bl _,H,I.kept (λb o e=>Y b o (λhm=>by have:=hF e;rw[gn.mp hm] at this;exact hB this (WO _)) (eH _ e)),rfl,q⟩
theorem Cu (h:X.K=K) (hc:X.calm=true):n8 X (.builtin "any") (Tg K):=by
 subst h;intro pins s σ H xs us Q I r h;obtain⟨a,bs,rfl,α,q⟩:=h;obtain⟨u,rfl,O⟩:=xH r;cases O;obtain⟨its,L,pl,hz⟩:=I.list α;have lt:a < s.heap.objs.size:=let ⟨o,e,_⟩:=pl.isList;hF e
 have hl:its.toArray.size=bs.length:=by have:=L.length;rw[a'] at this;simp[this]
 refine call_any_walk (Y1 pl.isList ⟨s.heap.objs.size,_,_,its.toArray.size,_,_,λi=>bs.getD i false,rfl,ah2 (A:=X.A.in1) (I.ok.hd hc) s.heap.objs.size a (z3 lt) its.toArray,⟨⟨_,kv _ rfl,rfl,rfl⟩,let ⟨o,e,c⟩:=pl.isList;⟨o,eH _ e,c⟩⟩,λi v s Q E Z β=>by rw[Mj L Z];exact WX β,λh' tk Y=>?_⟩);rw[hl,UM];exact⟨.bl _,H,I.kept (λb o e=>Y b o (λhm=>by have:=hF e;rw[gn.mp hm] at this;exact hB this (WO _)) (eH _ e)),rfl,q⟩
end
inductive Dt where
 | non | bl (b:V6) | int (i:Int) | str (x:mu) | lst (xs:ee Dt) | tup (xs:ee Dt)
inductive Rep (K:ak) (H:Hp):V->Dt->Prop where
 | non:Rep K H .non .non
 | bl (b:V6):Rep K H (.bl b) (.bl b)
 | int (i:Int):Rep K H (.int i) (.int i)
 | str (x:mu):Rep K H (.str x) (.str x)
 | lst {p:dt} {xs:ee V} {ds:ee Dt} (h:SqL K H p xs) (l:xs.length=ds.length) (r:∀(i:Nat) x d,xs[i]? =ag x->ds[i]? =ag d->Rep K H x d):Rep K H (.ref p) (.lst ds)
 | tup {p:dt} {xs:ee V} {ds:ee Dt} (h:SqT K H p xs) (l:xs.length=ds.length) (r:∀(i:Nat) x d,xs[i]? =ag x->ds[i]? =ag d->Rep K H x d):Rep K H (.ref p) (.tup ds)
theorem Same.tup {K:ak} {H H':Hp} {a:dt} {xs:ee V} (e:Same H H') (h:SqT K H a xs):SqT K H' a xs:=by
 rcases h with (h | ⟨o,h⟩) | h
 ·exact .inl (.inl (e _ _ h))
 ·exact .inl (.inr ⟨o,e _ _ h⟩)
 ·exact .inr h
mutual
noncomputable def eqD:Dt->Dt->V6
 | .non,.non=>true
 | .bl a,.bl b=>a == b
 | .bl a,.int b=>(if a then 1 else 0) == b
 | .int a,.bl b=>a == (if b then 1 else 0)
 | .int a,.int b=>a == b
 | .str a,.str b=>a == b
 | .lst xs,.lst ys=>eqDs xs ys
 | .tup xs,.tup ys=>eqDs xs ys
 | _,_=>false
noncomputable def eqDs:ee Dt->ee Dt->V6
 | [],[]=>true
 | x::xs,y::ys=>eqD x y&&eqDs xs ys
 | _,_=>false
end
mutual
noncomputable def depD:Dt->Nat
 | .lst xs=>ml xs + 1
 | .tup xs=>ml xs + 1
 | _=>0
noncomputable def ml:ee Dt->Nat
 | []=>0
 | x::xs=>max (depD x) (ml xs)
end
theorem L4 {ds:ee Dt} {d:Dt} (h:d∈ds):depD d<=ml ds:=by
 induction ds with
 | nil=>cases h
 | cons x xs ih=>
   rw[ml];rcases xY.mp h with rfl | h
   ·omega
   ·have:=ih h;omega
theorem Aw:∀{xs ys:ee Dt},xs.length≠ys.length->eqDs xs ys=false
 | [],[],h=>hB rfl h
 | [],_::_,_=>rfl
 | _::_,[],_=>rfl
 | x::xs,y::ys,h=>by rw[eqDs,Aw (λz=>h (by simp[z])),Wj]
theorem Ax:∀{xs ys:ee Dt},xs.length=ys.length->eqDs xs ys=(lj xs.length).all λi=>eqD (xs.getD i .non) (ys.getD i .non)
 | [],[],_=>rfl
 | [],_::_,h=>by cases h
 | _::_,[],h=>by cases h
 | x::xs,y::ys,h=>by
   rw[eqDs,Ax (by simpa using h),V1,List.range_succ_eq_map,Z3,ao2];rfl
theorem oE:∀d:Dt,eqD d d=true:=by
 intro d;refine Dt.rec (motive_1:=λd=>eqD d d=true) (motive_2:=λds=>eqDs ds ds=true) ?_ ?_ ?_ ?_ ?_ ?_ ?_ ?_ d
 ·rfl
 ·intro b;simp[eqD]
 ·intro b;simp[eqD]
 ·intro b;simp[eqD]
 ·intro xs h;rw[eqD];exact h
 ·intro xs h;rw[eqD];exact h
 ·rfl
 ·intro x xs h1 h2;rw[eqDs,h1,h2];rfl
theorem Px:∀{d e:Dt},d=e->eqD d e=true:=λh=>by subst h;exact oE _
section
variable {X:Cx} {pins:CB} {σ:St} {H:Hp} {s:hJ}
theorem Inv.notBoth (I:Inv X pins σ H s) {p:dt} {xs ys:ee V} (h1:SqL X.K H p xs) (h2:SqT X.K H p ys):False:=by
 obtain⟨_,_,pl,_⟩:=I.list h1;obtain⟨_,_,⟨o,ho,O,_⟩,_⟩:=I.tuple h2;obtain⟨o',n,ζ,L,_⟩:=pl;rw[ho] at ζ;cases ζ;rw[O] at L;exact hB L @C
theorem Rep.fun (I:Inv X pins σ H s) {x:V} {d:Dt} (r:Rep X.K H x d):∀{e:Dt},Rep X.K H x e->d=e:=by
 induction r with
 | non=>intro e q;cases q;rfl
 | bl b=>intro e q;cases q;rfl
 | int i=>intro e q;cases q;rfl
 | str z=>intro e q;cases q;rfl
 | lst h l r ih=>
   intro e q;cases q with
   | lst h' O r'=>
     have ex:=I.list_inj h h';subst ex;congr 1;refine ZA λi=>?_;rename_i xs ds Y;by_cases hi:i < ds.length
     ·rw[eF hi,eF @A];have L:i < xs.length:=by omega
      rw[ih i _ _ (eF L) (eF hi) (r' i _ _ (eF L) (eF @A))]
     ·rw[X3 @A,X3 @A]
   | tup h' O r'=>exact(I.notBoth h h').elim
 | tup h l r ih=>
   intro e q;cases q with
   | tup h' O r'=>
     have ex:=I.tuple_inj h h';subst ex;congr 1;refine ZA λi=>?_;rename_i xs ds Y;by_cases hi:i < ds.length
     ·rw[eF hi,eF @A];have L:i < xs.length:=by omega
      rw[ih i _ _ (eF L) (eF hi) (r' i _ _ (eF L) (eF @A))]
     ·rw[X3 @A,X3 @A]
   | lst h' O r'=>exact(I.notBoth h' h).elim
open SeqAt in
theorem rc_D (I:Inv X pins σ H s) {x:V} {d:Dt} (r:Rep X.K H x d):∀{A:z5} {e:Dt} {y:V} {u v:ic} (n:Nat),Rep X.K H y e->RelV x u->RelV y v->depD d<=n->A.units + n < cLine->
  EqAt A s u v (eqD d e)/\RcAt A s u v (eqD d e)/\RcNeAt A s u v (!eqD d e):=by
 induction r with
 | non=>
   intro A e y u v n q β O hd ζ;cases β;cases q with
   | non=>cases O;exact⟨ak0 _,RcAt.none_none,RcNeAt.none_none⟩
   | bl b=>cases O;exact⟨EqAt.none_bool b,RcAt.none_bool b,RcNeAt.none_bool b⟩
   | int b=>obtain⟨t,rfl⟩:=O;exact⟨EqAt.none_int b t,RcAt.none_int b t,RcNeAt.none_int b t⟩
   | str b=>obtain⟨t,rfl⟩:=O;exact⟨EqAt.none_str b t,RcAt.none_str b t,RcNeAt.none_str b t⟩
   | lst h l r=>cases O;obtain⟨_,_,pl,_⟩:=I.list h;exact⟨EqAt.none_list pl.isList @A,RcAt.none_list pl.isList @A,RcNeAt.none_list pl.isList @A⟩
   | tup h l r=>cases O;obtain⟨_,_,pl,_⟩:=I.tuple h;exact⟨EqAt.none_tuple pl @A,RcAt.none_tuple pl @A,RcNeAt.none_tuple pl @A⟩
 | bl a=>
   intro A e y u v n q β O hd ζ;cases β;cases q with
   | non=>cases O;exact⟨EqAt.bool_none a,RcAt.bool_none a,RcNeAt.bool_none a⟩
   | bl b=>cases O;exact⟨EqAt.bool_bool a b,RcAt.bool_bool a b,RcNeAt.bool_bool a b⟩
   | int b=>obtain⟨t,rfl⟩:=O;exact⟨EqAt.bool_int a b t,RcAt.bool_int a b t,RcNeAt.bool_int a b t⟩
   | str b=>obtain⟨t,rfl⟩:=O;exact⟨EqAt.bool_str a b t,RcAt.bool_str a b t,RcNeAt.bool_str a b t⟩
   | lst h l r=>cases O;obtain⟨_,_,pl,_⟩:=I.list h;exact⟨EqAt.bool_list a pl.isList @A,RcAt.bool_list a pl.isList @A,RcNeAt.bool_list a pl.isList @A⟩
   | tup h l r=>cases O;obtain⟨_,_,pl,_⟩:=I.tuple h;exact⟨EqAt.bool_tuple a pl @A,RcAt.bool_tuple a pl @A,RcNeAt.bool_tuple a pl @A⟩
 | int a=>
   intro A e y u v n q β O hd ζ;obtain⟨t',rfl⟩:=β;cases q with
   | non=>cases O;exact⟨EqAt.int_none a t',RcAt.int_none a t',RcNeAt.int_none a t'⟩
   | bl b=>cases O;exact⟨EqAt.int_bool a t' b,RcAt.int_bool a t' b,RcNeAt.int_bool a t' b⟩
   | int b=>obtain⟨t,rfl⟩:=O;exact⟨EqAt.int_int a t' b t,RcAt.int_int a t' b t,RcNeAt.int_int a t' b t⟩
   | str b=>obtain⟨t,rfl⟩:=O;exact⟨EqAt.int_str a t' b t,RcAt.int_str a t' b t,RcNeAt.int_str a t' b t⟩
   | lst h l r=>cases O;obtain⟨_,_,pl,_⟩:=I.list h;exact⟨EqAt.int_list a t' pl.isList @A,RcAt.int_list a t' pl.isList @A,RcNeAt.int_list a t' pl.isList @A⟩
   | tup h l r=>cases O;obtain⟨_,_,pl,_⟩:=I.tuple h;exact⟨EqAt.int_tuple a t' pl @A,RcAt.int_tuple a t' pl @A,RcNeAt.int_tuple a t' pl @A⟩
 | str a=>
   intro A e y u v n q β O hd ζ;obtain⟨t',rfl⟩:=β;cases q with
   | non=>cases O;exact⟨EqAt.str_none a t',RcAt.str_none a t',RcNeAt.str_none a t'⟩
   | bl b=>cases O;exact⟨EqAt.str_bool a t' b,RcAt.str_bool a t' b,RcNeAt.str_bool a t' b⟩
   | int b=>obtain⟨t,rfl⟩:=O;exact⟨EqAt.str_int a t' b t,RcAt.str_int a t' b t,RcNeAt.str_int a t' b t⟩
   | str b=>obtain⟨t,rfl⟩:=O;exact⟨EqAt.str_str a t' b t,RcAt.str_str a t' b t,RcNeAt.str_str a t' b t⟩
   | lst h l r=>cases O;obtain⟨_,_,pl,_⟩:=I.list h;exact⟨EqAt.str_list a t' pl.isList @A,RcAt.str_list a t' pl.isList @A,RcNeAt.str_list a t' pl.isList @A⟩
   | tup h l r=>cases O;obtain⟨_,_,pl,_⟩:=I.tuple h;exact⟨EqAt.str_tuple a t' pl @A,RcAt.str_tuple a t' pl @A,RcNeAt.str_tuple a t' pl @A⟩
 | @lst p xs ds h l r ih=>
   intro A e y u v n q β O hd ζ;cases β;obtain⟨its,α,pl,_⟩:=I.list h;rw[depD] at hd;cases q with
   | non=>cases O;exact⟨EqAt.list_none pl.isList @A,RcAt.list_none pl.isList @A,RcNeAt.list_none pl.isList @A⟩
   | bl b=>cases O;exact⟨EqAt.list_bool b pl.isList @A,RcAt.list_bool b pl.isList @A,RcNeAt.list_bool b pl.isList @A⟩
   | int b=>obtain⟨t,rfl⟩:=O;exact⟨EqAt.list_int b t pl.isList @A,RcAt.list_int b t pl.isList @A,RcNeAt.list_int b t pl.isList @A⟩
   | str b=>obtain⟨t,rfl⟩:=O;exact⟨EqAt.list_str b t pl.isList @A,RcAt.list_str b t pl.isList @A,RcNeAt.list_str b t pl.isList @A⟩
   | tup h' ε r'=>
     cases O;obtain⟨_,_,ι,_⟩:=I.tuple h';exact⟨EqAt.list_tuple pl.isList ι @A,RcAt.list_tuple pl.isList ι @A,RcNeAt.list_tuple pl.isList ι @A⟩
   | @lst δ Y L h' ε r'=>
     cases O;obtain⟨its',Z,ι,_⟩:=I.list h';have n1:=α.length;have ψ:=Z.length
     have τ:RcAt A s (.ref p) (.ref δ) (eqDs ds L)/\RcNeAt A s (.ref p) (.ref δ) (!eqDs ds L):=by
      by_cases hl:ds.length=L.length
      ·have e:eqDs ds L=(lj its.toArray.size).all λi=>eqD (ds.getD i .non) (L.getD i .non):=by
        rw[Ax hl,x3,<-n1,l]
       rw[e];have hz:its.toArray.size=its'.toArray.size:=by simp;omega
       have he:∀j (h1:j < its.toArray.size) (h2:j < its'.toArray.size),EqAt A.in1 s its.toArray[j] its'.toArray[j] (eqD (ds.getD j .non) (L.getD j .non)):=λj h1 h2=>by
        have ο:j < its.length:=by simpa using h1
        have ξ:j < its'.length:=by simpa using h2
        have ν:j < xs.length:=by omega
        have η:j < Y.length:=by omega
        have θ:j < ds.length:=by omega
        have γ:j < L.length:=by omega
        have g1:xs[j]? =ag (xs.getD j .non):=by rw[eY,eF ν];rfl
        have g2:ds[j]? =ag (ds.getD j .non):=by rw[eY,eF θ];rfl
        have ρ:Y[j]? =ag (Y.getD j .non):=by rw[eY,eF η];rfl
        have π:L[j]? =ag (L.getD j .non):=by rw[eY,eF γ];rfl
        have hn:n≠0:=by omega
        exact(ih j _ _ g1 g2 (n - 1) (r' j _ _ ρ π) (sh α h1) (sh Z h2) (by have:=L4 (f' g2);omega) (by show A.units + 1 + (n - 1) < cLine;omega)).1
       exact⟨RcAt.lists pl.isList ι.isList hz @A he,RcNeAt.lists pl.isList ι.isList hz @A he⟩
      ·rw[Aw hl];have hz:(its.toArray.size != its'.toArray.size)=true:=by simp;omega
       exact⟨RcAt.lists_lengths pl.isList ι.isList hz @A,RcNeAt.lists_lengths pl.isList ι.isList hz @A⟩
     rw[eqD];refine⟨?_,τ⟩;by_cases hp:p=δ
     ·subst hp;have e:Dt.lst ds=Dt.lst L:=(Rep.lst h l r).fun I (.lst h' ε r');have υ:eqDs ds L=true:=by have:=Px e;rw[eqD] at this;exact this
      rw[υ];exact ak0 _
     ·exact ao3 hp τ.1
 | @tup p xs ds h l r ih=>
   intro A e y u v n q β O hd ζ;cases β;obtain⟨its,α,pl,_⟩:=I.tuple h;rw[depD] at hd;cases q with
   | non=>cases O;exact⟨EqAt.tuple_none pl @A,RcAt.tuple_none pl @A,RcNeAt.tuple_none pl @A⟩
   | bl b=>cases O;exact⟨EqAt.tuple_bool b pl @A,RcAt.tuple_bool b pl @A,RcNeAt.tuple_bool b pl @A⟩
   | int b=>obtain⟨t,rfl⟩:=O;exact⟨EqAt.tuple_int b t pl @A,RcAt.tuple_int b t pl @A,RcNeAt.tuple_int b t pl @A⟩
   | str b=>obtain⟨t,rfl⟩:=O;exact⟨EqAt.tuple_str b t pl @A,RcAt.tuple_str b t pl @A,RcNeAt.tuple_str b t pl @A⟩
   | lst h' ε r'=>
     cases O;obtain⟨_,_,ι,_⟩:=I.list h';exact⟨EqAt.tuple_list pl ι.isList @A,RcAt.tuple_list pl ι.isList @A,RcNeAt.tuple_list pl ι.isList @A⟩
   | @tup δ Y L h' ε r'=>
     cases O;obtain⟨its',Z,ι,_⟩:=I.tuple h';have n1:=α.length;have ψ:=Z.length
     have τ:RcAt A s (.ref p) (.ref δ) (eqDs ds L)/\RcNeAt A s (.ref p) (.ref δ) (!eqDs ds L):=by
      have e:eqDs ds L=((lj (min its.toArray.size its'.toArray.size)).all (λi=>eqD (ds.getD i .non) (L.getD i .non))&&its.toArray.size == its'.toArray.size):=by
       by_cases hl:ds.length=L.length
       ·have χ:its.toArray.size=ds.length:=by simp;omega
        have φ:its'.toArray.size=ds.length:=by simp;omega
        rw[Ax hl,χ,φ,Nat.min_self,W4,Bool.and_true]
       ·have z:(its.toArray.size == its'.toArray.size)=false:=by rw[z0];simp;omega
        rw[Aw hl,z,Wj]
      rw[e]
      have he:∀j (h1:j < its.toArray.size) (h2:j < its'.toArray.size),EqAt A.in1 s its.toArray[j] its'.toArray[j] (eqD (ds.getD j .non) (L.getD j .non)):=λj h1 h2=>by
       have ο:j < its.length:=by simpa using h1
       have ξ:j < its'.length:=by simpa using h2
       have ν:j < xs.length:=by omega
       have η:j < Y.length:=by omega
       have θ:j < ds.length:=by omega
       have γ:j < L.length:=by omega
       have g1:xs[j]? =ag (xs.getD j .non):=by rw[eY,eF ν];rfl
       have g2:ds[j]? =ag (ds.getD j .non):=by rw[eY,eF θ];rfl
       have ρ:Y[j]? =ag (Y.getD j .non):=by rw[eY,eF η];rfl
       have π:L[j]? =ag (L.getD j .non):=by rw[eY,eF γ];rfl
       have hn:n≠0:=by omega
       exact(ih j _ _ g1 g2 (n - 1) (r' j _ _ ρ π) (sh α h1) (sh Z h2) (by have:=L4 (f' g2);omega) (by show A.units + 1 + (n - 1) < cLine;omega)).1
      exact⟨RcAt.tuples pl ι @A he,RcNeAt.tuples pl ι @A he⟩
     rw[eqD];refine⟨?_,τ⟩;by_cases hp:p=δ
     ·subst hp;have e:Dt.tup ds=Dt.tup L:=(Rep.tup h l r).fun I (.tup h' ε r');have υ:eqDs ds L=true:=by have:=Px e;rw[eqD] at this;exact this
      rw[υ];exact ak0 _
     ·exact ao3 hp τ.1
end
noncomputable def rEqD (K:ak) (neg:V6):R2:=λx y H Q=>∃d e,Rep K H x d/\Rep K H y e/\depD d<=100/\Q (.bl (if neg then !eqD d e else eqD d e)) H
section
variable {X:Cx} {K:ak}
theorem zN (h:X.K=K) (hu:X.A.units + 100 < cLine):OpR X (compareOp .Eq) (rEqD K false):=by
 subst h;intro pins s σ H x y v u Q I O L h;obtain⟨d,e,Y,η,hd,q⟩:=h;exact(rc_D I Y 100 η O L hd hu).2.1 X.prog X.w X.xe _ ⟨.bl _,H,I,rfl,q⟩
theorem DI (h:X.K=K) (hu:X.A.units + 100 < cLine):OpR X (compareOp .NotEq) (rEqD K true):=by
 subst h;intro pins s σ H x y v u Q I O L h;obtain⟨d,e,Y,η,hd,q⟩:=h;exact(rc_D I Y 100 η O L hd hu).2.2 X.prog X.w X.xe _ ⟨.bl _,H,I,rfl,q⟩
end
inductive Io:St->Nat->pa V->St->Prop where
 | z {a v:pa V} {l:St}:Io (a::l) 0 v (v::l)
 | s {a v:pa V} {l l':St} {i:Nat}:Io l i v l'->Io (a::l) (i + 1) v (a::l')
theorem Io.eq {l L:St} {i:Nat} {v:pa V} (h:Io l i v L):l.set i v=L:=by
 induction h with
 | z=>rfl
 | s _ ih=>rw[List.set_cons_succ,ih]
inductive Ip:St->Nat->V->Prop where
 | z {v:V} {l:St}:Ip (ag v::l) 0 v
 | s {a:pa V} {v:V} {l:St} {i:Nat}:Ip l i v->Ip (a::l) (i + 1) v
theorem Ip.eq {l:St} {i:Nat} {v:V} (h:Ip l i v):l[i]? =ag (ag v):=by
 induction h with
 | z=>rfl
 | s _ ih=>rw[List.getElem?_cons_succ];exact ih
section
variable {σ σ':St} {H:Hp} {Q:VK} {D:Ends} {ta tb tc te:TE} {t u:TS} {tt tt':TT} {r r':R2} {x y v:V}
theorem av {N:B1} {vs:ee V} {t:TS} (e:start N vs=σ') (h:t D σ' H):t D (start N vs) H:=by rw[e];exact h
theorem Vh {i:Nat} (e:Ip σ i v) (h:Q v H):tVar i σ H Q:=⟨v,e.eq,h⟩
theorem s_rI {C:Int->Int->Prop} {g:Int->Int->V} {i j:Int} (c:C i j) (h:Q (g i j) H):rI C g (.int i) (.int j) H Q:=⟨i,j,rfl,rfl,c,h⟩
theorem Vl {g:Int->Int->V} {i j:Int} (h:Q (g i j) H):rI0 g (.int i) (.int j) H Q:=⟨i,j,rfl,rfl,h⟩
theorem s_rU {g:Int->V} {i:Int} (h:Q (g i) H):rU g (.int i) H Q:=⟨i,rfl,h⟩
theorem Vm (e:scal x y=true) (h:Q (.bl (decide (x=y))) H):rEq x y H Q:=⟨e,h⟩
theorem Vk (e:scal x y=true) (h:Q (.bl (!decide (x=y))) H):rNe x y H Q:=⟨e,h⟩
theorem SJ (h:D.nx σ H):Sh D σ H:=h
theorem QI {i:Nat} {Q:St->Hp->Prop} (e:Io σ i (ag v) σ') (h:Q σ' H):LG i v σ H Q:=by show Q (σ.set i (ag v)) H;rw[e.eq];exact h
theorem SX {Q:St->Hp->Prop} (h:Q σ H):gNil [] σ H Q:=⟨rfl,h⟩
theorem QJ {g:TG} {L:TGs} {vs:ee V} {Q:St->Hp->Prop} (h:g v σ H fun σ' H'=>L vs σ' H' Q):Rt g L (v::vs) σ H Q:=⟨v,vs,rfl,h⟩
theorem SW {K:ak} {n:Nat} {L:TGs} {p:dt} {xs:ee V} {Q:St->Hp->Prop} (e:SqT K H p xs) (l:xs.length=n) (h:L xs σ H Q):gTup K n L (.ref p) σ H Q:=⟨p,xs,rfl,e,l,h⟩
def NewT (Q:VK) (xs:ee V) (H:Hp):Prop:=xs.length<=ix/\∀p,H p=fy->Q (.ref p) (upd H p (.tup xs))
def NewL (Q:VK) (xs:ee V) (H:Hp):Prop:=xs.length<=ix/\∀p,H p=fy->Q (.ref p) (upd H p (.lst xs))
theorem Vi {tr:TA} (h:tr σ H (NewT Q)):tTup tr σ H Q:=h
theorem Vo {tr:TA} (h:tr σ H (NewL Q)):tLst tr σ H Q:=h
theorem bK {H:Hp} {D:dt} {o:HO} (h:H D=fy):Same H (upd H D o):=λb u e=>by rw[aE (aq e h)];exact e
theorem iZ {o:HO} (h:∀p H2,H p=fy->Same H H2->H2 p=ag o->Q (.ref p) H2):∀p,H p=fy->Q (.ref p) (upd H p o):=λp hp=>h p _ hp (bK hp) aD
theorem Same.get {H H':Hp} (e:Same H H') {b:dt} {o:HO} (h:H b=ag o):H' b=ag o:=e b o h
theorem SK {xs:ee V} (l:xs.length<=ix) (h:∀p H2,H p=fy->Same H H2->H2 p=ag (.tup xs)->Q (.ref p) H2):NewT Q xs H:=⟨l,iZ h⟩
theorem SL {xs:ee V} (l:xs.length<=ix) (h:∀p H2,H p=fy->Same H H2->H2 p=ag (.lst xs)->Q (.ref p) H2):NewL Q xs H:=⟨l,iZ h⟩
theorem QO {sp:Sp} {E:XK} {tr:TA} (h:tr σ H λvs H1=>sp vs H1 Q E):Jh sp [] E tr σ H Q:=by unfold Jh;simp only[Wr];exact h
theorem Vj {K:ak} {p:dt} {xs:ee V} {lo hi:pa Int} (e:SqL K H p xs) (h:∀q H2,H q=fy->Same H H2->H2 q=ag (.lst (cutV xs lo hi))->Q (.ref q) H2):rSlL K (.ref p) lo hi H Q:=⟨p,xs,rfl,e,iZ h⟩
theorem Vq {K:ak} {p:dt} {xs:ee V} {i:Int} (e:SqL K H p xs) (a:atI xs i=ag v) (h:Q v H):rIxL K (.ref p) (.int i) H Q:=⟨p,xs,i,v,rfl,rfl,e,a,h⟩
theorem Vp {K:ak} {p:dt} {xs:ee V} {i:Int} (e:SqT K H p xs) (a:atI xs i=ag v) (h:Q v H):rIxT K (.ref p) (.int i) H Q:=⟨p,xs,i,v,rfl,rfl,e,a,h⟩
theorem QH {z:mu} {i:Int} {c:Nat} (e:z.length<=ix) (a:atI z.cps.toList i=ag c) (h:Q (.str ⟨#[c]⟩) H):rIxS (.str z) (.int i) H Q:=⟨z,i,c,rfl,rfl,e,a,h⟩
theorem KS {n:Nat} (h:n<=1000):n<=sizeLine:=XA (aZ h)
theorem A5 {K:ak} {neg:V6} {d e:Dt} (L:Rep K H x d) (η:Rep K H y e) (hd:depD d<=100) (h:Q (.bl (if neg then !eqD d e else eqD d e)) H):rEqD K neg x y H Q:=⟨d,e,L,η,hd,h⟩
theorem s_ty {K:ak} {T:U'} {A:Prop} (e:tyV K T x H) (h:A):tyV K T x H/\A:=⟨e,h⟩
theorem S4 {i:Int} (h:Q (.int (xo i:Nat)) H):Tf (.int i) [] H Q:=⟨i,rfl,rfl,h⟩
theorem SU {K:ak} {p:dt} {xs:ee V} (e:SqL K H p xs) (h:Q (.int xs.length) H):rLen K [.ref p] H Q:=⟨_,_,rfl,.inl ⟨xs,e,rfl⟩,h⟩
theorem SR {K:ak} {p:dt} {xs:ee V} (e:SqT K H p xs) (h:Q (.int xs.length) H):rLen K [.ref p] H Q:=⟨_,_,rfl,.inr ⟨xs,e,rfl⟩,h⟩
theorem SS {K:ak} {z:mu} (e:z.length<=ix) (h:Q (.int z.length) H):rLen K [.str z] H Q:=⟨_,_,rfl,⟨e,rfl⟩,h⟩
theorem Vr {K:ak} {T k:U'} (e:lC K H x k) (m:T∈["int","bool","str","list","tuple","dict"]) (h:Q (.bl (subB k T)) H):rIsi K [x,.ty T] H Q:=⟨x,k,T,rfl,e,m,h⟩
theorem S0 (h:∀p H2,H p=fy->Same H H2->H2 p=ag (.dK [])->Q (.ref p) H2):O0 σ H Q:=iZ h
theorem Vs {L:TI} {g:TG} {tb:TS} (h:L σ H λJ H1=>∃W:Nat->Nat->St->Hp->Prop,(∃m,W 0 m σ H1)/\∀i m σ H,W i m σ H->(J.stop i H/\D.nx σ H)∨(J.go i H/\∃N:St->Hp->Prop,(∀σ' H',N σ' H'->∃ω,ω < m/\W (i + 1) ω σ' H')/\∀x H',J.yld i H x H'->g x σ H' fun ξ H2=>tb {D with nx:=N,ct:=N,bk:=D.nx} ξ H2)):tFor L g tb D σ H:=h
theorem Vg {Q:V6->Hp->Prop} (h:Q true H):tYes σ H Q:=h
theorem SD {A B:Prop} (h:A):if true=true then A else B:=by rw[qq rfl];exact h
theorem QK {A B:Prop} (h:B):if false=true then A else B:=by rw[n' iv];exact h
theorem pK {c:V6} {A B:Prop} (e:c=true) (h:A):if c=true then A else B:=by rw[qq e];exact h
theorem j9 {c:V6} {A B:Prop} (e:c=false) (h:B):if c=true then A else B:=by rw[e,n' iv];exact h
theorem S3 {n:Nat} {fx:B'} {Y:TI} {g:TG} (h:Y σ H λJ H1=>∀D,H1 D=fy->
 ∃W:Nat->Nat->ee V->Hp->Prop,(∃m,W 0 m [] (upd H1 D (.lst [])))/\∀i m ys H2,W i m ys H2->(J.stop i H2/\Q (.ref D) H2)∨
   (J.go i H2/\∃N:ee V->Hp->Prop,(∀O H',N O H'->∃ω,ω < m/\W (i + 1) ω O H')/\∀x β,J.yld i H2 x β->g x (eR n fx σ) β λL γ=>tt L γ λb α=>
    if b=true then te L α λv Z=>Z D=ag (.lst ys)/\ys.length < ix/\N (ys++[v]) (upd Z D (.lst (ys++[v]))) else N ys α)):Nc n fx Y g tt te σ H Q:=h
theorem O9 {K:ak} {p:dt} {bs:ee V6} (e:SqL K H p (bs.map V.bl)) (h:Q (.bl (bs.all id)) H):Th K [.ref p] H Q:=⟨p,bs,rfl,e,h⟩
theorem O8 {K:ak} {p:dt} {bs:ee V6} (e:SqL K H p (bs.map V.bl)) (h:Q (.bl (bs.any id)) H):Tg K [.ref p] H Q:=⟨p,bs,rfl,e,h⟩
theorem NO {j:Int} {A:Prop} (h1: -(2 ^ 62)<=j) (h2:j < 2 ^ 62) (h:A): -(2 ^ 62)<=j/\j < 2 ^ 62/\A:=⟨h1,h2,h⟩
end
noncomputable def tCut (t u:TS):TS:=λD σ H=>∃P:St->Hp->Prop,t {D with nx:=P} σ H/\∀σ' H',P σ' H'->u D σ' H'
theorem Kp {X:Cx} {st:Xs} {rest:ee Xs} {t u:TS} (h1:PS X st t) (h2:PSs X rest u):PSs X (st::rest) (tCut t u):=by
 intro pins s σ H D I ⟨P,a,b⟩;refine ab7 (thn (h1 pins s σ H {D with nx:=P} I a) λf O q=>?_);cases f with
 | next=>obtain⟨L,H1,Z,Y⟩:=q;exact h2 pins O L H1 D Z (b L H1 Y)
 | brk=>exact q
 | cont=>exact q
 | ret v=>exact q
theorem s_cut {t u:TS} {D:Ends} {σ:St} {H:Hp} (P:St->Hp->Prop) (h:t {D with nx:=P} σ H) (k:∀σ' H',P σ' H'->u D σ' H'):tCut t u D σ H:=⟨P,h,k⟩
section
variable {K:ak} {n:Nat} {fx:B'} {g:TG} {tc:TT} {te:TE} {σ:St} {H1:Hp} {D:dt} {Q:Hp->Prop}
structure Cs (Pv:Nat->ee V->Prop) (H1:Hp) (D:dt) (i:Nat) (ys:ee V) (H:Hp):Prop where
 pv:Pv i ys
 same:Same H1 H
 at':H D=ag (.lst ys)
 len:ys.length<=i
theorem Cs.put {O:Nat->ee V->Prop} {i:Nat} {ys:ee V} {v:V} {L:Hp} (f:H1 D=fy) (s:Same H1 L) (e:L D=ag (.lst ys)) (l:ys.length<=i) (hi:i < 16777216) (p:O (i + 1) (ys++[v])):
  L D=ag (.lst ys)/\ys.length < ix/\Cs O H1 D (i + 1) (ys++[v]) (upd L D (.lst (ys++[v]))):=
 ⟨e,by rw[lT];omega,p,λb o h=>by rw[aE (aq h f)];exact s b o h,aD,by rw[gs];simpa using l⟩
theorem Cs.skip {O:Nat->ee V->Prop} {i:Nat} {ys:ee V} {L:Hp} (s:Same H1 L) (e:L D=ag (.lst ys)) (l:ys.length<=i) (p:O (i + 1) ys):Cs O H1 D (i + 1) ys L:=⟨p,s,e,@A⟩
theorem Cs.zero {L:Nat->ee V->Prop} (f:H1 D=fy) (p:L 0 []):Cs L H1 D 0 [] (upd H1 D (.lst [])):=⟨p,bK f,aD,ov _⟩
end
structure PV (K:ak) (C:dt) (m:mu) (f:dt):Prop where
 ga:Xa K (.ref C) "__getattribute__"=ag (ag (.builtin "type.__getattribute__"))
 rd:ai5 K C (.type "type")=true
 fd:ai7 K (.ref C) (.type "type") m=ag (.val (.ref f))
 hd:Yw (.ref f)=true
 kp:W3 K (.ref f)=true
section
variable {X:Cx} {CX:CXT} {k:Nat} {f C:dt} {fd:hE} {ps:B1} {sp:Sp} {dvs:ee V} {ds:CD} {E:XK} {x m:mu} {p pos apos:Pos} {e o:L'} {es:ee L'} {ta:TE} {t:TA}
theorem vI {pl:Sem V6} (β:Gl X x) (hx:X.mg x=ag (.ref C)) (c:PV X.K C m f) (F:FnOk X.prog X.w X.K X.mg X.base CX k f fd ps sp) (hr:Room k X.A) (hb:mx X.K fd ps ds) (hd:Vals dvs ds) (L:pq CX X E) (ha:PA X (e::es) t)
  (Y:(x == ("__debug__":mu))=false:=by decide) (Z:ll (e::es) X.env=(false,eval e X.env)::ll es X.env:=by rfl) (O:(backTo pos (ll es X.env)).any (·.1)=false:=by rfl)
  (ht:eval (.Call (.Attribute (.Name x p) m apos) (e::es) [] pos) X.env=(do
   let α <-eval (.Name x p) X.env
   standAt apos.atName
   let (f,first) <-holding [α] (getMethod α m pl)
   callWith pos f first (backTo pos (ll (e::es) X.env)) (backToKw pos (keywordEach [] X.env))):=by rfl):
  PE X (.Call (.Attribute (.Name x p) m apos) (e::es) [] pos) (Jh sp dvs E t):=by
 intro pins s σ H Q I h;refine X6 (pl:=pl) (jS I β hx ?_ Y) ht;refine af6 I.kIn c.ga (ag6 I.kIn c.rd c.fd c.hd ?_);have I1:=I.tok (s.toks + 1);refine Wq (first:=[]) (h₀:=X.base) I1.ok.mod.kin c.kp (thn (ha pos pins _ σ H _ I1 h) λus γ ⟨vs,H2,I2,r,θ⟩=>⟨I2.kIn,?_⟩) Z O;exact Fe (us:=us) (vs:=vs) F hr hb hd L I2 r θ
end
structure VR (K:ak) (D:dt):Prop where
 cls:Cls K D
 ha:wh K (.ref D) "__class__"=ag (ag (.builtin "object.__class__"))
 hn:Xa K (.builtin "object.__class__") "__get__"=ag (ag (.builtin "getset_descriptor.__get__"))
 tk:ZH K (.builtin "object.__class__")=ag true
 hm:VX K D (.type "object")=ag true
section
variable {X:Cx} {K:ak}
theorem aH {e:L'} {ta:TE} {f:mu} {pos:Pos} (h:X.K=K) (he:PE X e ta) (hb:attributeBase e f X.env (eval e X.env)=eval e X.env):PE X (.Attribute e f pos) (tFld K ta f):=by subst h;exact TJ he hb
theorem df {o value:L'} {ta tv:TE} {f:mu} {pos pos':Pos} (h:X.K=K) (ha:PE X o ta) (L:PE X value tv) (hs:swapsWith value (ag (.Attribute o f pos')) pos.line X.env=pure false):PS X (.Assign [.Attribute o f pos'] value pos) (sFld K ta tv f):=by subst h;exact Tv ha L hs
theorem PE.or {e:L'} {t u:TE} (h:PE X e t) (h':PE X e u):PE X e (fun σ H Q=>t σ H Q∨u σ H Q):=by
 intro pins s σ H Q I q;rcases q with q | q
 ·exact h pins s σ H Q I q
 ·exact h' pins s σ H Q I q
end
section
variable {σ:St} {H:Hp} {Q:VK} {D:Ends} {te tv ta:TE} {x y v:V}
def RV (K:ak) (f:mu) (Q:VK) (x:V) (H:Hp):Prop:=∃a C dx fs v,x= .ref a/\H a=ag (.ins C dx fs)/\Cls K C/\bF K C f/\fs.lookup f=ag v/\Q v H
theorem Vt {K:ak} {f:mu} (h:te σ H (RV K f Q)):tFld K te f σ H Q:=h
theorem aG {K:ak} {f:mu} {p C dx:dt} {fs:ee (mu×V)} (e:H p=ag (.ins C dx fs)) (c:Cls K C) (n:bF K C f) (l:fs.lookup f=ag v) (h:Q v H):RV K f Q (.ref p) H:=⟨p,C,dx,fs,v,rfl,e,c,n,l,h⟩
structure Upd (H H':Hp) (p:dt) (o:HO):Prop where
 at':H' p=ag o
 oth:∀b u,b≠p->H b=ag u->H' b=ag u
 non:∀b,b≠p->H b=fy->H' b=fy
theorem Upd.of {H:Hp} {p:dt} {o:HO}:Upd H (upd H p o) p o:=⟨aD,λb u n h=>by rw[aE n];exact h,λb n h=>by rw[aE n];exact h⟩
def UW (K:ak) (f:mu) (y:V) (D:Ends) (σ:St) (x:V) (H:Hp):Prop:=∃a C dx fs,x= .ref a/\H a=ag (.ins C dx fs)/\Cls K C/\bF K C f/\fs.length < 1000/\D.nx σ (upd H a (.ins C dx (putF f y fs)))
theorem NJ {K:ak} {f:mu} (h:tv σ H λy H1=>te σ H1 (UW K f y D σ)):sFld K te tv f D σ H:=h
theorem dc {K:ak} {f:mu} {p C dx:dt} {fs fs':ee (mu×V)} (e:H p=ag (.ins C dx fs)) (c:Cls K C) (n:bF K C f) (l:fs.length < 1000) (L:putF f y fs=fs') (h:∀H2,Upd H H2 p (.ins C dx fs')->D.nx σ H2):
  UW K f y D σ (.ref p) H:=⟨p,C,dx,fs,rfl,e,c,n,l,by rw[L];exact h _ Upd.of⟩
def PQ (C:dt) (sp:Sp) (E:XK) (Q:VK) (vs:ee V) (H:Hp):Prop:=∀x dx,H x=fy->H dx=fy->dx≠x->sp (.ref x::(vs++[])) (upd (upd H dx (.own x)) x (.ins C dx [])) (λv H2=>v= .non/\Q (.ref x) H2) E
theorem SN {C:dt} {sp:Sp} {E:XK} {tr:TA} (h:tr σ H (PQ C sp E Q)):Si C sp [] E tr σ H Q:=h
theorem NK {C:dt} {sp:Sp} {E:XK} {vs:ee V} (h:∀x dx H2,H x=fy->Same H H2->H2 x=ag (.ins C dx [])->sp (.ref x::vs) H2 (λv H2=>v= .non/\Q (.ref x) H2) E):PQ C sp E Q vs H:=by
 intro x dx L O n;rw[Wr];exact h x dx _ L (λb o e=>by rw[aE (aq e L),aE (aq e O)];exact e) aD
theorem Upd.same {L H2:Hp} {p:dt} {o:HO} (u:Upd H H2 p o) (f:L p=fy) (s:Same L H):Same L H2:=λb q e=>u.oth b q (aq e f) (s b q e)
theorem Upd.trans {H2 L:Hp} {p:dt} {o o':HO} (u:Upd H H2 p o) (w:Upd H2 L p o'):Upd H L p o':=⟨w.at',λb q n e=>w.oth b q n (u.oth b q n e),λb n e=>w.non b n (u.non b n e)⟩
end
theorem Inv.laidCh {X:Cx} {pins:CB} {σ:St} {H:Hp} {s:hJ} {h':N'} {a:dt} {o:HO} {t':Nat} {ch:Dk} (I:Inv X pins σ H s) (k:∀b u,b∉ch->s.heap.get? b=ag u->h'.get? b=ag u) (hp:s.heap.objs.size<=a)
  (Y:gj X.prog X.w (upd H a o) h' a o) (fp:∀b∈ch,FpOk X pins H b):Inv X pins σ (upd H a o) {s with heap:=h',toks:=t'}:=by
 have fr:H a=none:=I.hok.fresh hp;have O:∀b u,H b=ag u->b∉ch:=λb u e z=>by rw[(fp b z).1] at e;cases e
 refine I.step (g':=s.gens) (d':=s.drawn) (ch:=ch) (λb hb=>?_) (λb ob _ _ L e _=>k b ob L e) (λb ob _ _ L e _=>⟨ob.slots,k b ob L e⟩) (λb ob _ e n=>?_) (λb ob L e=>⟨ob,k b ob L e⟩)
  (λb xs e=>by rw[aE (aq e fr)];exact e) (λb ob u e=>by rw[aE (aq e fr)];exact e) (λb ps e=>⟨#[],by rw[aE (aq e fr),e];simp⟩) (λm hm=>?_) (λb u e=>?_) I.bare
 ·obtain⟨ε,β,γ,τ,α,Z⟩:=fp b hb;exact⟨τ,β,α,Z⟩
 ·rw[aE (z3 (hA (hF e) hp))];exact n
 ·obtain⟨ob,es,ep,ho,r⟩:=hm;exact⟨ob,es,ep,k _ ob (λz=>(fp _ z).2.1 rfl) ho,r⟩
 ·by_cases hb:b=a
  ·subst hb;rw[aD] at e;cases e;exact Y
  ·rw[aE hb] at e;refine(I.hok b u e).stay (λc v L q=>k c v ?_ q) (λc q=>by rw[aE (aq q fr)];exact q) λc xs q=>by rw[aE (aq q fr)];exact q
   rcases L with z | z
   ·rw[z];exact O b u e
   ·exact O c _ z
theorem Inv.turnedCh {X:Cx} {pins:CB} {σ:St} {H:Hp} {s:hJ} {h':N'} {t':Nat} {ch:Dk} (I:Inv X pins σ H s) (k:∀b u,b∉ch->s.heap.get? b=ag u->h'.get? b=ag u)
  (fp:∀b∈ch,FpOk X pins H b):Inv X pins σ H {s with heap:=h',toks:=t'}:=by
 have O:∀b u,H b=ag u->b∉ch:=λb u e z=>by rw[(fp b z).1] at e;cases e
 refine I.step (g':=s.gens) (d':=s.drawn) (ch:=ch) (λb hb=>?_) (λb ob _ _ L e _=>k b ob L e) (λb ob _ _ L e _=>⟨ob.slots,k b ob L e⟩) (λb ob _ e n=>n) (λb ob L e=>⟨ob,k b ob L e⟩)
  (λb xs e=>e) (λb ob u e=>e) (λb ps e=>⟨#[],by rw[e];simp⟩) (λm hm=>?_) (λb u e=>?_) I.bare
 ·obtain⟨ε,α,β,τ,Z,Y⟩:=fp b hb;exact⟨τ,α,Z,Y⟩
 ·obtain⟨ob,es,ep,ho,r⟩:=hm;exact⟨ob,es,ep,k _ ob (λz=>(fp _ z).2.1 rfl) ho,r⟩
 ·refine(I.hok b u e).stay (λc v L q=>k c v ?_ q) (λc q=>q) λc xs q=>q;rcases L with z | z
  ·rw[z];exact O b u e
  ·exact O c _ z
noncomputable def Ite (K:ak) (a:dt):It:=
 ⟨λi H=>∃xs x,SqL K H a xs/\xs[i]? =ag x,λi H x H'=>∃p v,H p=fy/\x= .ref p/\H'=upd H p (.tup [.int i,v])/\∀xs,SqL K H a xs->xs[i]? =ag v,λi H=>∃xs,SqL K H a xs/\xs.length=i⟩
noncomputable def Itz (x:mu):It:=⟨λi _=>i < x.cps.size,λi H v H'=>∃p c,H p=fy/\v= .ref p/\H'=upd H p (.tup [.int i,.str ⟨#[c]⟩])/\x.cps[i]? =ag c,λi _=>i=x.cps.size⟩
theorem E4:(2:Nat)<=sizeLine:=by rw[lT];decide
theorem yS {P:oT} {w:w7} {K:ak} {γ:ee L'} {k:Nat} {pos:Pos} (a e Y:dt) (α:e≠Y):
  Turn P w K (.Tuple γ k pos) (Ite K a) [e,Y] e (λi h=>(∃O,IsEnum h e Y i O)/\h.IsListIter Y a i) where
 mem:=by simp
 obj:=λi h st b hb=>by
  obtain⟨⟨O,he⟩,⟨o,ho,τ,hd⟩⟩:=st;rcases xY.mp hb with z | z
  ·subst z;exact⟨_,he,λv z=>by cases z⟩
  ·rw[gn.mp z];exact⟨o,ho,λv z=>by rw[hd] at z;cases z⟩
 keep:=λi h h' st k=>⟨let ⟨O,he⟩:=st.1;⟨O,k e @F _ he⟩,st.2.at λo z=>k Y @F o z⟩
 item:=by
  intro X hP hw ρ τ i pins s σ H E I hf st φ;subst hP hw ρ;obtain⟨xs,x,π,ο⟩:=φ;obtain⟨its,ξ,p,hz⟩:=I.list π;obtain⟨⟨O,he⟩,hl⟩:=st
  have ε:a≠Y:=λz=>by
   obtain⟨o,ho,δ,_⟩:=hl;obtain⟨o',n,ζ,L,_⟩:=p;rw[z,ho] at ζ;cases ζ;rw[δ] at L;exact hB L @C
  have θ:a≠e:=λz=>by
   obtain⟨o',n,ζ,L,_⟩:=p;rw[z,he] at ζ;cases ζ;exact hB (show Yl "enumerate"= .type "list" from L) @C
  have W:=Xd (prog:=X.prog) (w:=X.w) (A:=X.A) (Draws.list (A:=X.A.in1) (I.ok.hd τ) Y a ε its.toArray) e α (by simp[α,Wf θ]) @F;have hi:i < its.toArray.size:=by have:=ξ.length;have:=(b'.mp ο).1;simp;omega
  refine W.item i s _ _ hi ⟨⟨O,he⟩,hl,p.isList⟩ λT a3 h' tk ω hT ι β hk=>⟨_,rfl,W.go γ k pos i T _ _ _ β λa0 Z ν=>?_⟩;obtain⟨t,υ,η,rfl⟩:=ω;have χ:=W.apart i T h' β
  have ru:RelV x υ:=by
   obtain⟨u,hu,r⟩:=ξ.get ο;have ψ:its[i]? =ag υ:=by simpa using η
   rw[hu] at ψ;cases ψ;exact r
  have kk:∀b u,b∉[e,Y]->s.heap.get? b=ag u->a0.get? b=ag u:=λb u hb q=>ν b u hb (hk b u hb q);have fr:H T=none:=I.hok.fresh hT;refine⟨.ref T,upd H T (.tup [.int i,x]),I.laidCh (t':=tk) kk hT ⟨E4,[.int i t,υ],.cons ⟨t,rfl⟩ (.cons ru .nil),?_⟩ hf,rfl,⟨T,x,fr,rfl,rfl,λys hy=>by rw[I.list_inj hy π];exact ο⟩,⟨Z.1,Z.2.1⟩,λb hb=>?_⟩
  ·obtain⟨o,ho,r⟩:=ι;exact⟨o,ν T o χ ho,r⟩
  ·have fb:=(hf b hb);rw[aE (λz=>?_)]
   ·exact fb.1
   ·have lt:b < s.heap.objs.size:=by
     rcases xY.mp hb with z | z
     ·subst z;exact hF he
     ·rw[gn.mp z];obtain⟨o,ho,_⟩:=hl;exact hF ho
    rw[z] at lt;exact hB (hA lt hT) (WO _)
 done:=by
  intro X hP hw ρ τ i pins s σ H E I hf st φ;subst hP hw ρ;obtain⟨xs,π,ο⟩:=φ;obtain⟨its,ξ,p,hz⟩:=I.list π;obtain⟨⟨O,he⟩,hl⟩:=st
  have ε:a≠Y:=λz=>by
   obtain⟨o,ho,δ,_⟩:=hl;obtain⟨o',n,ζ,L,_⟩:=p;rw[z,ho] at ζ;cases ζ;rw[δ] at L;exact hB L @C
  have θ:a≠e:=λz=>by
   obtain⟨o',n,ζ,L,_⟩:=p;rw[z,he] at ζ;cases ζ;exact hB (show Yl "enumerate"= .type "list" from L) @C
  have W:=Xd (prog:=X.prog) (w:=X.w) (A:=X.A) (Draws.list (A:=X.A.in1) (I.ok.hd τ) Y a ε its.toArray) e α (by simp[α,Wf θ]) @F;have hn:its.toArray.size=i:=by have:=ξ.length;simp;omega
  subst hn;exact W.done s _ _ ⟨⟨O,he⟩,hl,p.isList⟩ λh' tk hk=>⟨rfl,I.turnedCh hk hf⟩
 self:=λ_ _ _ _ _ st h=>let ⟨_,he⟩:=st.1;WY he h
theorem F7 {P:oT} {w:w7} {K:ak} {β:ee L'} {k:Nat} {pos:Pos} {x:mu} {t:Tok} {n:U'} (e L:dt) (Y:e≠L)
  (D:∀A:z5,A.handled=fy->Draws P w A L [L] x.cps.size (λi v=>∃c u,x.cps[i]? =ag c/\v= .str ⟨#[c]⟩ u) (λi h=>h.IsStrIter L n x t i)):
  Turn P w K (.Tuple β k pos) (Itz x) [e,L] e (λi h=>(∃O,IsEnum h e L i O)/\h.IsStrIter L n x t i) where
 mem:=by simp
 obj:=λi h st b hb=>by
  obtain⟨⟨O,he⟩,⟨o,ho,ζ,hd⟩⟩:=st;rcases xY.mp hb with z | z
  ·subst z;exact⟨_,he,λv z=>by cases z⟩
  ·rw[gn.mp z];exact⟨o,ho,λv z=>by rw[hd] at z;cases z⟩
 keep:=λi h h' st k=>⟨let ⟨O,he⟩:=st.1;⟨O,k e @F _ he⟩,let ⟨o,ho,r⟩:=st.2;⟨o,k L @F o ho,r⟩⟩
 item:=by
  intro X ν hw ρ ζ i pins s σ H E I hf st ε;subst ν hw ρ;obtain⟨⟨O,he⟩,hl⟩:=st;have W:=Xd (prog:=X.prog) (w:=X.w) (A:=X.A) (D X.A.in1 (I.ok.hd ζ)) e Y (by simp[Y]) @F;refine W.item i s _ _ ε ⟨⟨O,he⟩,hl⟩ λT ο h' tk ι hT γ α hk=>⟨_,rfl,W.go β k pos i T _ _ _ α fun ξ Z δ=>?_⟩;obtain⟨π,φ,⟨c,u,η,rfl⟩,rfl⟩:=ι;have θ:=W.apart i T h' α;have τ:∀b u,b∉[e,L]->s.heap.get? b=ag u->ξ.get? b=ag u:=λb u hb q=>δ b u hb (hk b u hb q);have fr:H T=none:=I.hok.fresh hT;refine⟨.ref T,upd H T (.tup [.int i,.str ⟨#[c]⟩]),I.laidCh (t':=tk) τ hT ⟨E4,[.int i π,.str ⟨#[c]⟩ u],.cons ⟨π,rfl⟩ (.cons ⟨u,rfl⟩ .nil),?_⟩ hf,rfl,⟨T,c,fr,rfl,rfl,η⟩,⟨Z.1,Z.2⟩,λb hb=>?_⟩
  ·obtain⟨o,ho,r⟩:=γ;exact⟨o,δ T o θ ho,r⟩
  ·have υ:=(hf b hb);rw[aE (λz=>?_)]
   ·exact υ.1
   ·have lt:b < s.heap.objs.size:=by
     rcases xY.mp hb with z | z
     ·subst z;exact hF he
     ·rw[gn.mp z];obtain⟨o,ho,_⟩:=hl;exact hF ho
    rw[z] at lt;exact hB (hA lt hT) (WO _)
 done:=by
  intro X ν hw ρ ζ i pins s σ H E I hf st ε;subst ν hw ρ;obtain⟨⟨O,he⟩,hl⟩:=st;have W:=Xd (prog:=X.prog) (w:=X.w) (A:=X.A) (D X.A.in1 (I.ok.hd ζ)) e Y (by simp[Y]) @F;have ε:i=x.cps.size:=ε;subst ε;exact W.done s _ _ ⟨⟨O,he⟩,hl⟩ λh' tk hk=>⟨rfl,I.turnedCh hk hf⟩
 self:=λ_ _ _ _ _ st h=>let ⟨_,he⟩:=st.1;WY he h
noncomputable def Uo (K:ak) (tl:TE):TI:=fun σ H R=>tl σ H λx H1=>(∃a,x= .ref a/\(∃xs,SqL K H1 a xs)/\R (Ite K a) H1)∨∃z,x= .str z/\R (Itz z) H1
section
variable {X:Cx} {K:ak}
theorem DF {l:L'} {tl:TE} {O:ee L'} {k:Nat} {tpos p pos:Pos} (h:X.K=K) (δ:Gl X "enumerate") (hm:X.mg "enumerate"=fy) (hl:PE X l tl) (hs:ll [l] X.env=[(false,eval l X.env)]:=by rfl):
  PI X (.Tuple O k tpos) (.Call (.Name "enumerate" p) [l] [] pos) (Uo K tl):=by
 subst h;intro pins s σ H R I h;refine ai1 (nN I δ hm boot_enumerate (Tn (thn (aa hl ae hs pos pins s σ H (λvs H1=>match vs with | [x]=>(∃a,x= .ref a/\(∃xs,SqL X.K H1 a xs)/\R (Ite X.K a) H1)∨∃z,x= .str z/\R (Itz z) H1 | _=>False) I h) λus L ⟨vs,H1,I1,Y,Z⟩=>?_) hs rfl))
 match vs,Y,Z with
 | [x],Y,Z=>
 obtain⟨u,rfl,β⟩:=Y.one;rcases Z with ⟨a,rfl,⟨xs,γ⟩,q⟩ | ⟨z,rfl,q⟩
 ·cases β;obtain⟨its,ε,pl,hz⟩:=I1.list γ;refine al9 pl.isList λh' he π hsz hk=>WY he ?_;refine⟨L.heap.objs.size + 1,[L.heap.objs.size + 1,L.heap.objs.size],_,_,H1,rfl,I1.kept (t':=L.toks) hk,yS a _ _ (Xz (WH _)),⟨⟨_,he⟩,π⟩,λb hb=>?_,q⟩;have θ:L.heap.objs.size<=b:=(xY.mp hb).elim (λz=>by rw[z];exact YO _) (λz=>by rw[gn.mp z];exact ov _);exact I1.fpOk θ (I1.hok.fresh θ)
 ·obtain⟨t,rfl⟩:=β;refine call_enumerate_str λh' he π hsz hk=>WY he ?_
  have fin:∀n,(h'.IsStrIter L.heap.objs.size n z t 0)->(∀A:z5,A.handled=fy->Draws X.prog X.w A L.heap.objs.size [L.heap.objs.size] z.cps.size (λi v=>∃c u,z.cps[i]? =ag c/\v= .str ⟨#[c]⟩ u) (λi h=>h.IsStrIter L.heap.objs.size n z t i))->
    PIE X pins σ (.Tuple O k tpos) R (.ref (L.heap.objs.size + 1)) {L with heap:=h'}:=λn hn D=>by
   refine⟨L.heap.objs.size + 1,[L.heap.objs.size + 1,L.heap.objs.size],_,_,H1,rfl,I1.kept (t':=L.toks) hk,F7 _ _ (Xz (WH _)) D,⟨⟨_,he⟩,hn⟩,λb hb=>?_,q⟩;have θ:L.heap.objs.size<=b:=(xY.mp hb).elim (λz=>by rw[z];exact YO _) (λz=>by rw[gn.mp z];exact ov _);exact I1.fpOk θ (I1.hok.fresh θ)
  unfold strIterType at π;split at π
  ·exact fin _ π λA α=>Draws.strAscii α _ z t
  ·exact fin _ π λA α=>Draws.strWide α _ z t
end
theorem u0 {K:ak} {a:dt} {xs:ee V} {g:TG} {tb:TS} {D:Ends} {σ:St} {H:Hp} (L:Nat->St->Hp->Prop) (h0:L 0 σ H) (hl:∀i σ H,i<=xs.length->L i σ H->SqL K H a xs)
  (hs:∀i x σ H p H',xs[i]? =ag x->L i σ H->H p=fy->Same H H'->H' p=ag (.tup [.int i,x])->g (.ref p) σ H' fun ξ H2=>tb {D with nx:=L (i + 1),ct:=L (i + 1),bk:=D.nx} ξ H2) (hd:∀σ H,L xs.length σ H->D.nx σ H):
  ∃W:Nat->Nat->St->Hp->Prop,(∃m,W 0 m σ H)/\∀i m σ H,W i m σ H->
    ((Ite K a).stop i H/\D.nx σ H)∨((Ite K a).go i H/\∃N:St->Hp->Prop,(∀σ' H',N σ' H'->∃ω,ω < m/\W (i + 1) ω σ' H')/\∀x H',(Ite K a).yld i H x H'->g x σ H' fun ξ H2=>tb {D with nx:=N,ct:=N,bk:=D.nx} ξ H2):=by
 refine⟨λi m σ H=>m=xs.length - i/\i<=xs.length/\L i σ H,⟨xs.length,@F,VY _,h0⟩,?_⟩;rintro i m σ H ⟨rfl,hi,p⟩;have q:=hl i σ H hi p;by_cases O:i < xs.length
 ·refine .inr ⟨⟨xs,xs[i],q,by simp[O]⟩,L (i + 1),fun σ' H' Y=>⟨xs.length - (i + 1),by omega,rfl,O,Y⟩,λx H' y=>?_⟩;obtain⟨r,v,f,α,Z,y⟩:=y;subst α Z;exact hs i v σ H r _ (y xs q) p f (bK f) aD
 ·have e:i=xs.length:=by omega
  subst e;exact .inl ⟨⟨xs,q,rfl⟩,hd σ H p⟩
section
variable {σ:St} {H:Hp} {te:TE} {R:It->Hp->Prop}
theorem JV {K:ak} (h:te σ H λx H1=>(∃a,x= .ref a/\(∃xs,SqL K H1 a xs)/\R (Ite K a) H1)∨∃z,x= .str z/\R (Itz z) H1):Uo K te σ H R:=h
end
noncomputable def Pc:V->ee V->Hp->VK->Prop:=λx xs H Q=>∃z y,x= .str z/\xs=[.str y]/\y.length≠0/\z.length + 2<=ix/\∀D,H D=fy->Q (.ref D) (upd H D (.lst ((YD z y).map V.str)))
theorem AO:∀(χ:B1) (n:Nat),Vals (χ.map V.str) (strsFrom n χ)
 | [],_=> .nil
 | x::r,n=> .cons ⟨n,rfl⟩ (AO r (n + 1))
section
variable {X:Cx}
theorem Fu:MtR X "str.split" Pc:=by
 intro pins s σ H x xs v us Q I O rs h;obtain⟨z,y,rfl,rfl,L,hz,q⟩:=h;obtain⟨t,rfl⟩:=O;obtain⟨u,rfl,Y⟩:=xH rs;obtain⟨t',rfl⟩:=Y;have L:(y.length == 0)=false:=z0.mpr L;have Z:=split_le z y;have fr:=I.hok.fresh (ov s.heap.objs.size)
 have δ:YD z y=[z]->EP X pins σ Q (.ref s.heap.objs.size) {s with heap:=s.heap.push {cls:= .type "list",data:= .seq [YW z t].toArray}}:=λe=>
  ⟨.ref s.heap.objs.size,_,I.laid (t':=s.toks) (o:= .lst ((YD z y).map V.str)) (λb o e=>eH _ e) (ov _) ⟨by rw[a'];omega,[.str z t],0,by rw[e];exact .cons ⟨t,rfl⟩ .nil,kv _ rfl⟩,rfl,q _ fr⟩
 cases h1:(decide (z.length < y.length)||decide (ab4 z < ab4 y)) with
 | true=>exact Yg F.slot_str_split (ZQ _ _ _) F.entry_str_split (F.args_str_split_2 _ _) (meets_str_split_cannot_occur z y t t' h1) (δ (qq h1))
 | false=>
   cases hf:(Yn z y 0 z.length (z.length + 1)).isEmpty with
   | true=>exact Yg F.slot_str_split (ZQ _ _ _) F.entry_str_split (F.args_str_split_2 _ _) (meets_str_split_not_found z y t t' h1 L hf) (δ ((n' (ZG h1)).trans (qq hf)))
   | false=>
     have e:YD z y=Builtin.Str.partsBetween z (Yn z y 0 z.length (z.length + 1)) y.length:=(n' (ZG h1)).trans (n' (ZG hf));refine Yg F.slot_str_split (ZQ _ _ _) F.entry_str_split (F.args_str_split_2 _ _) (meets_str_split_sep z y t t' h1 L hf @A (by rw[<-e];omega)) ?_;refine⟨.ref s.heap.objs.size,_,I.laid (λb o e=>eH _ e) (ov _) (o:= .lst ((YD z y).map V.str)) ⟨by rw[a'];omega,_,0,?_,kv _ rfl⟩,rfl,q _ fr⟩;rw[e];exact AO _ _
end
section
variable {σ:St} {H:Hp} {Q:VK} {D:Ends} {te ty tv td:TE} {x y v:V}
theorem QB {z w:mu} (hw:w.length≠0) (hz:z.length + 2<=ix) (h:∀p H2,H p=fy->Same H H2->H2 p=ag (.lst ((YD z w).map V.str))->Q (.ref p) H2):Pc (.str z) [.str w] H Q:=⟨z,w,rfl,rfl,hw,hz,iZ h⟩
theorem g6 {l:dt} {xs:ee V} (e:H l=ag (.lst xs)) (hz:xs.length < ix) (h:∀H2,Upd H H2 l (.lst (xs++[y]))->Q .non H2):Kg (.ref l) [y] H Q:=⟨l,xs,y,rfl,rfl,e,hz,h _ Upd.of⟩
def MR (v:V) (x:V) (D:Ends) (σ:St) (y:V) (H:Hp):Prop:=∃a L,x= .ref a/\DPut H a y v L/\D.nx σ L
theorem SY (h:tv σ H λv H1=>td σ H1 λx H2=>ty σ H2 (MR v x D σ)):S8 td ty tv D σ H:=h
theorem pL {p:dt} {kvs:ee (Key×V)} {z:mu} (e:H p=ag (.dK kvs)) (hl:kvs.length < ix) (h:∀H2,Upd H H2 p (.dK (putK kvs (zt z) v))->D.nx σ H2):MR v (.ref p) D σ (.str z) H:=⟨p,_,rfl,DPut.k (k:=zt z) e hl,h _ Upd.of⟩
theorem QL {p:dt} {kvs:ee (Key×V)} {z:Int} (e:H p=ag (.dK kvs)) (hl:kvs.length < ix) (h:∀H2,Upd H H2 p (.dK (putK kvs (W9 z) v))->D.nx σ H2):MR v (.ref p) D σ (.int z) H:=⟨p,_,rfl,DPut.k (k:=W9 z) e hl,h _ Upd.of⟩
def MS (x:V) (Q:VK) (y:V) (H:Hp):Prop:=∃a v,x= .ref a/\DGet H a y (ag v)/\Q v H
theorem S2 (h:td σ H λx H1=>ty σ H1 (MS x Q)):Sl td ty σ H Q:=h
theorem sF {p:dt} {kvs:ee (Key×V)} {z:mu} (e:H p=ag (.dK kvs)) (l:valV kvs (zt z)=ag v) (h:Q v H):MS (.ref p) Q (.str z) H:=⟨p,v,rfl,by rw[<-l];exact DGet.k (k:=zt z) e,h⟩
theorem JY {p:dt} {kvs:ee (Key×V)} {z:Int} (e:H p=ag (.dK kvs)) (l:valV kvs (W9 z)=ag v) (h:Q v H):MS (.ref p) Q (.int z) H:=⟨p,v,rfl,by rw[<-l];exact DGet.k (k:=W9 z) e,h⟩
def PP (C:dt) (m:mu) (sp:Sp) (E:XK) (tr:TA) (σ:St) (Q:VK) (x:V) (H:Hp):Prop:=∃a dx fs,x= .ref a/\H a=ag (.ins C dx fs)/\fs.lookup m=fy/\tr σ H λvs H2=>sp (x::(vs++[])) H2 Q E
theorem SM {C:dt} {m:mu} {sp:Sp} {E:XK} {tr:TA} (h:te σ H (PP C m sp E tr σ Q)):Qa C m sp [] E te tr σ H Q:=h
theorem aS {C dx p:dt} {m:mu} {fs:ee (mu×V)} {sp:Sp} {E:XK} {tr:TA} (e:H p=ag (.ins C dx fs)) (l:fs.lookup m=fy) (h:tr σ H λvs H2=>sp (.ref p::vs) H2 Q E):PP C m sp E tr σ Q (.ref p) H:=⟨p,dx,fs,rfl,e,l,by simp only[Wr];exact h⟩
theorem QF {K:ak} {p:dt} {xs:ee V} (e:SqL K H p xs) (h:∀q H2,H q=fy->Same H H2->H2 q=ag (.lst xs)->Q (.ref q) H2):Dq K [.ref p] H Q:=⟨p,xs,rfl,.inl e,iZ h⟩
theorem QE {K:ak} {p:dt} {xs:ee V} (e:SqT K H p xs) (h:∀q H2,H q=fy->Same H H2->H2 q=ag (.lst xs)->Q (.ref q) H2):Dq K [.ref p] H Q:=⟨p,xs,rfl,.inr e,iZ h⟩
theorem SB {K:ak} {p:dt} {xs:ee V} (e:SqL K H p xs) (h:∀q H2,H q=fy->Same H H2->H2 q=ag (.tup xs)->Q (.ref q) H2):Kf K [.ref p] H Q:=⟨p,xs,rfl,.inl ⟨e,iZ h⟩⟩
theorem SA {K:ak} {p:dt} {xs:ee V} (e:SqT K H p xs) (h:Q (.ref p) H):Kf K [.ref p] H Q:=⟨p,xs,rfl,.inr ⟨e,h⟩⟩
end
def Mv (ch fr:Dk) (h h':N'):Prop:=(∀b o,b∉ch->b∉fr->h.get? b=ag o->h'.get? b=ag o)/\∀b o,b∉ch->b∈fr->h.get? b=ag o->∃L,h'.get? b=ag {o with slots:=L}
def Ir (h:N') (e:dt) (C:ic) (dx:F') (T:pa (dt×ic)):Prop:=
 ∃L vs,h.get? e=ag L/\L.cls=C/\L.dict=dx/\L.data= .fields vs/\1 < vs.size/\
   match T with
   | none=>vs[1]? =ag .none
   | some (t,Y)=>vs[1]? =ag (.ref t)/\t≠e/\∃O ts,h.get? t=ag O/\O.data= .fields ts/\ts[3]? =ag Y
section
variable {M:Model} {A:z5} {E:C'} {s:hJ}
theorem BZ {h:N'} {a:dt} {o:Obj} {vs:CN} {i:Nat} {v:ic} (ho:h.get? a=ag o) (hd:o.data= .fields vs):
  ∃o',(h.update a (WU (·.setIfInBounds i v))).get? a=ag o'/\o'.cls=o.cls/\o'.dict=o.dict/\o'.data= .fields (vs.setIfInBounds i v):=by
 have ι:=Zo hd (·.setIfInBounds i v);refine⟨_,Xf (WU (·.setIfInBounds i v)) ho (ag7 ι),ak3 _ _,?_,ι⟩;obtain⟨c,d,L,O⟩:=o;have hd:L= .fields vs:=hd;subst hd;rfl
theorem Ou {base:N'} {env:Env} {outer:ee Env} {L e:dt} {Z:Obj} {vs:CN} {Y:ic} {b:V6} {Q:D'}
  (ζ:A.frames=ag (env::outer)) (hl:s.heap.FunFrames base (env::outer)) (hf:env.frame=ag L) (he:s.heap.get? e=ag Z) (hd:Z.data= .fields vs) (hsz:1 < vs.size)
  (h:∀h',Mv [e] (frs (env::outer)) s.heap h'->Ir h' e Z.cls Z.dict (ag (s.heap.objs.size,rawInt L))->Q () {s with heap:=h'}):
  kn M A (do let a <-frameOf env;let pl <-entryPlaceOf L b;let t <-YJ Y a .none (rawInt L) .none pl;setField (.ref e) 1 t) Q E s:=by
 have ne:e∉frs (env::outer):=λhm=>by
  obtain⟨_,o,ho,δ⟩:=hl.mem hm;rw[he] at ho;cases ho;exact δ vs hd
 refine ec (wpAny_frameOf_fun ζ hl hf λg1 γ=>?_);refine ec (wpAny_entryPlaceOf λpl α=>?_);unfold YJ newFields;refine ec (WC ?_ (α.sizeOk5 _ _ _ _ _));have ο:g1.get? e=ag Z:=(γ.2.1 e ne).trans he;have sz:g1.objs.size=s.heap.objs.size:=γ.1;generalize β:({cls:= .type "traceback",dict:=fy,data:= .fields ([Y,.ref L,.none,rawInt L,.none]++(if pl.isEmpty then p' 6 Wy else pl)).toArray}:Obj)=ob;have ξ:(g1.push ob).get? e=ag Z:=eH ob ο;refine Y0 ξ hd hsz ?_;have lt:e < g1.objs.size:=hF ο;obtain⟨o',τ,θ,η,ρ⟩:=BZ (i:=1) (v:= .ref g1.objs.size) ξ hd;have oth:∀c,c≠e->((g1.push ob).update e (WU (·.setIfInBounds 1 (sb g1.objs.size)))).get? c=(g1.push ob).get? c:=λc ι=>X4 _ _ (Wf ι);have O:∀c o,c≠e->g1.get? c=ag o->((g1.push ob).update e (WU (·.setIfInBounds 1 (sb g1.objs.size)))).get? c=ag o:=λc o ι q=>(oth c ι).trans (eH ob q);refine h _ ⟨λc o n m q=>O c o (λz=>n (by rw[z];exact gn.mpr rfl)) ((γ.2.1 c m).trans q),λc o n m q=>?_⟩ ⟨o',_,τ,θ,η,ρ,by simpa using hsz,?_⟩
 ·obtain⟨π,ν⟩:=γ.2.2 c o q;exact⟨π,O c _ (λz=>n (by rw[z];exact gn.mpr rfl)) ν⟩
 ·have ε:g1.objs.size≠e:=Xz lt;refine⟨by rw[<-sz];simp[hsz],by rw[<-sz];exact ε,ob,_,?_,by rw[<-β],?_⟩
  ·rw[<-sz,oth _ ε];exact kv g1 (by rw[<-β];rfl)
  ·first | (simp;done) | (rcases α with rfl | ⟨_,_,_,_,_,_,_,rfl⟩<;>simp)
theorem LP {e t:dt} {C:ic} {dx:F'} {Y:ic} {fr:F'} {Q:D'} (x:Ir s.heap e C dx (ag (t,Y)))
  (h:∀h',(∀b o,b≠t->s.heap.get? b=ag o->h'.get? b=ag o)->Ir h' e C dx (ag (t,fr.elim .none λf=>rawInt f))->Q () {s with heap:=h'}):kn M A (setFlight (.ref e) fr) Q E s:=by
 obtain⟨ε,vs,he,α,Z,hd,hsz,h1,L,ζ,ts,hT,O,β⟩:=x;unfold setFlight;refine ec (Wi he hd h1 ?_);rw[qq (show(sb t != Wy)=true from by simp)];refine Y0 hT O (WI.mp β).1 ?_;obtain⟨o',δ,θ,η,γ⟩:=BZ (i:=3) (v:=fr.elim .none λf=>rawInt f) hT O;have oth:∀c,c≠t->(s.heap.update t (WU (·.setIfInBounds 3 (fr.elim Wy λf=>rawInt f)))).get? c=s.heap.get? c:=λc α=>X4 _ _ (Wf α);refine h _ (λb o hb q=>(oth b hb).trans q) ⟨ε,vs,(oth e (Wf L)).trans he,α,Z,hd,hsz,h1,L,o',_,δ,γ,?_⟩;have:=(WI.mp β).1;simp[this]
end
section
variable {X:Cx} {pins:CB} {σ:St} {H:Hp} {s:hJ}
theorem Inv.mv {h':N'} {ch:Dk} (I:Inv X pins σ H s) (m:Mv ch (frs X.stack) s.heap h') (fp:∀b∈ch,FpOk X pins H b):Inv X pins σ H {s with heap:=h'}:=by
 have O:∀b u,H b=ag u->b∉ch:=λb u e z=>by rw[(fp b z).1] at e;cases e
 have Y:∀b u,H b=ag u->b∉frs X.stack:=λb u e z=>by rw[I.stkFree b z] at e;cases e
 have any:∀b o,b∉ch->s.heap.get? b=ag o->∃Z,h'.get? b=ag {o with slots:=Z}:=λb o n e=>by
  by_cases z:b∈frs X.stack
  ·exact m.2 b o n z e
  ·exact⟨o.slots,m.1 b o n z e⟩
 refine I.step (g':=s.gens) (d':=s.drawn) (t':=s.toks) (ch:=ch) (λb hb=>?_) (λb ob β hb L e _=>m.1 b ob L (λz=>(xY.mp (I.stkSub b z)).elim β hb) e) (λb ob _ _ L e _=>any b ob L e) (λb ob _ e n=>n) (λb ob L e=>let ⟨Z,q⟩:=any b ob L e;⟨_,q⟩)
  (λb xs e=>e) (λb ob u e=>e) (λb ps e=>⟨#[],by rw[e];simp⟩) (fun ω hm=>?_) (λb u e=>?_) I.bare
 ·obtain⟨ε,δ,ζ,τ,γ,α⟩:=fp b hb;exact⟨τ,δ,γ,α⟩
 ·obtain⟨ob,es,ep,ho,r⟩:=hm;obtain⟨Z,q⟩:=any _ ob (λz=>(fp _ z).2.1 rfl) ho;exact⟨_,es,ep,q,r⟩
 ·refine(I.hok b u e).stay (λc v L q=>m.1 c v ?_ ?_ q) (λc q=>q) λc xs q=>q
  ·rcases L with z | z
   ·rw[z];exact O b u e
   ·exact O c _ z
  ·rcases L with z | z
   ·rw[z];exact Y b u e
   ·exact Y c _ z
theorem gj.there {P:oT} {w:w7} {h:N'} {a:dt} {o:HO} (x:gj P w H h a o):∃o',h.get? a=ag o':=by
 cases o with
 | lst xs=>obtain⟨_,_,_,_,e⟩:=x;exact⟨_,e⟩
 | tup xs=>obtain⟨_,_,_,_,e,_⟩:=x;exact⟨_,e⟩
 | dK kvs=>obtain⟨_,_,_,_,o,_,_,e,_⟩:=x;exact⟨_,e⟩
 | dT kvs=>obtain⟨_,_,_,_,o,_,_,e,_⟩:=x;exact⟨_,e⟩
 | set S n=>obtain⟨o,_,_,_,e,_⟩:=x;exact⟨_,e⟩
 | ins C dx fs=>obtain⟨_,_,_,e,_⟩:=x;exact⟨_,e⟩
 | own y=>obtain⟨_,e⟩:=x;exact⟨_,e⟩
 | xd fs=>obtain⟨_,⟨_,_,_,e,_⟩,_⟩:=x;exact⟨_,e⟩
 | rng lo hi=>obtain⟨_,_,_,e⟩:=x;exact⟨_,e⟩
 | frz ob u=>obtain⟨e,_⟩:=x;exact⟨_,e⟩
 | tbl ps=>exact⟨_,(show h.get? a=ag _ from x)⟩
 | met f y=>exact⟨_,(show h.get? a=ag _ from x)⟩
 | ext φ=>obtain⟨_,⟨_,e⟩,_⟩:=x;exact⟨_,e⟩
theorem HOk.none_ {P:oT} {w:w7} {h:N'} {a:dt} (x:HOk P w H h) (e:h.get? a=fy):H a=none:=by
 cases q:H a with
 | none=>rfl
 | some u=>obtain⟨o,z⟩:=(x a u q).there;rw[e] at z;cases z
def FpN (X:Cx) (pins:CB) (H:Hp) (b:dt):Prop:=
 H b=fy/\b≠X.env.locals/\b∉X.fs/\(b∈X.ex∨X.s₀.heap.get? b=fy)/\(∀x c,X.env.cells.lookup x=ag c->c≠b)/\∀p∈X.pn++pins,p.1≠b
theorem FpOk.n {b:dt} (f:FpOk X pins H b):FpN X pins H b:=⟨f.1,f.2.1,f.2.2.1,f.2.2.2.1.imp id Xn,f.2.2.2.2⟩
theorem Inv.fpN {H':Hp} {b:dt} (I:Inv X pins σ H s) (hb:s.heap.get? b=fy) (hn:H' b=fy):FpN X pins H' b:=by
 refine⟨hn,λz=>?_,λz=>?_,?_,λx c e z=>?_,λp hp z=>?_⟩
 ·obtain⟨m,⟨o,es,ep,ho,r⟩,_⟩:=I.loc;rw[<-z,hb] at ho;cases ho
 ·obtain⟨_,o,ho,_⟩:=I.ok.funs.mem z;obtain⟨o',L⟩:=I.base.there b o ho λy=>I.ok.exfs b y z;rw[hb] at L;cases L
 ·by_cases z:b∈X.ex
  ·exact .inl z
  ·cases q:X.s₀.heap.get? b with
   | none=>exact .inr rfl
   | some o=>obtain⟨o',L⟩:=I.base.there b o q z;rw[hb] at L;cases L
 ·obtain⟨v,o,q,_⟩:=I.cell x c e;rw[z,hb] at q;cases q
 ·have:=(I.pin p hp).1;rw[z,hb] at this;cases this
theorem Inv.mvN {h':N'} {ch:Dk} (I:Inv X pins σ H s) (m:Mv ch (frs X.stack) s.heap h') (fp:∀b∈ch,FpN X pins H b):Inv X pins σ H {s with heap:=h'}:=by
 have out:∀b o,X.s₀.heap.get? b=ag o->b∉X.ex->b∉ch++X.ex:=λb o e n z=>by
  rcases gF.mp z with z | z
  ·rcases(fp b z).2.2.2.1 with y | y
   ·exact n y
   ·rw[e] at y;cases y
  ·exact n z
 have sub:∀b,b∉ch++X.ex->b∉X.ex:=λb n z=>n (i' _ z)
 have ok:Cx.Ok {X with ex:=ch++X.ex}:=⟨I.ok.mod,I.ok.kind,I.ok.glob,I.ok.blt,I.ok.above,I.ok.inj,I.ok.has,I.ok.cab,I.ok.hd,I.ok.frames,I.ok.stk,
  λb hb=>(gF.mp hb).elim (λz=>⟨(fp b z).2.1,(fp b z).2.2.2.2.1⟩) (I.ok.exf b),I.ok.bs,I.ok.bsz,λb o e=>out b o (I.ok.bs b o e).1 (I.ok.noex b o e),
  λb hb=>(gF.mp hb).elim (λz=>(fp b z).2.2.1) (I.ok.exfs b),I.ok.funs,I.ok.frf⟩
 have U:=I.base
 have J:Inv {X with ex:=ch++X.ex} pins σ H s:=⟨ok,I.os,I.bare,⟨λb o e n f z=>U.keep b o e n f (sub b z),λb o e n f z=>U.slot b o e n f (sub b z),λb o e n z=>U.free b o e n (sub b z),λb o e z=>U.there b o e (sub b z),U.tups,U.frzs,U.tbls⟩,
  I.loc,I.cell,I.free,I.freeC,I.pin,I.hok,I.len⟩
 have J':=J.mv (h':=h') (ch:=ch) m λb hb=>⟨(fp b hb).1,(fp b hb).2.1,(fp b hb).2.2.1,.inl (hQ _ hb),(fp b hb).2.2.2.2⟩;have V:=J'.base
 exact⟨I.ok,J'.os,J'.bare,⟨λb o e n f z=>V.keep b o e n f (out b o e z),λb o e n f z=>V.slot b o e n f (out b o e z),λb o e n z=>V.free b o e n (out b o e z),λb o e z=>V.there b o e (out b o e z),V.tups,V.frzs,V.tbls⟩,
  J'.loc,J'.cell,J'.free,J'.freeC,J'.pin,J'.hok,J'.len⟩
structure Fly (X:Cx) (pins:CB) (H:Hp) (e:dt) (C:ic) (dx:F') (T:pa (dt×ic)) (h:N'):Prop where
 at_:Ir h e C dx T
 fe:FpN X pins H e
 ft:∀t fl,T=ag (t,fl)->FpN X pins H t
def Own (X:Cx):Prop:=X.stack=X.env::X.outer/\X.env.frame=ag X.env.locals
theorem zX {M:Model} {E:C'} {e:dt} {C:ic} {dx:F'} {T:pa (dt×ic)} {Q:D'} (I:Inv X pins σ H s) (ow:Own X) (f:Fly X pins H e C dx T s.heap)
  (h:∀h' t,Inv X pins σ H {s with heap:=h'}->Fly X pins H e C dx (ag (t,rawInt X.env.locals)) h'->Q () {s with heap:=h'}):kn M X.A (noteFrame (.ref e) X.env) Q E s:=by
 obtain⟨ho,hf⟩:=ow;have π:X.A.frames=ag (X.env::X.outer):=by rw[I.ok.frames,ho]
 have a0:s.heap.FunFrames X.base (X.env::X.outer):=by rw[<-ho];exact I.stack
 obtain⟨⟨ν,vs,he,ι,β,hd,hsz,hT⟩,fe,ft⟩:=f
 have fin:∀(O:hJ) (L:Obj) (α:CN) (Z:ic) (b1:V6),Inv X pins σ H O->O.heap.objs.size=s.heap.objs.size->O={s with heap:=O.heap}->O.heap.get? e=ag L->L.cls=C->L.dict=dx->L.data= .fields α->1 < α.size->
   kn M X.A (do let a <-frameOf X.env;let pl <-entryPlaceOf X.env.locals b1;let t <-YJ Z a .none (rawInt X.env.locals) .none pl;setField (.ref e) 1 t) Q E O:=by
  intro O L α Z b1 I1 hz ο φ θ η υ ψ;have ζ:O.heap.FunFrames X.base (X.env::X.outer):=by rw[<-ho];exact I1.stack
  refine Ou π ζ hf φ υ ψ λh' m x=>?_;have τ:Inv X pins σ H {O with heap:=h'}:=I1.mvN (ch:=[e]) (by rw[ho];exact m) λb hb=>by rw[gn.mp hb];exact fe
  have e2:({O with heap:=h'}:hJ)={s with heap:=h'}:=by rw[ο]
  rw[e2] at τ ⊢;rw[θ,η] at x;exact h h' _ τ ⟨x,fe,λt Y z=>by cases z;exact(I1.fpOk (ov _) (I1.hok.fresh (ov _))).n⟩
 unfold noteFrame;simp only[hf];cases T with
 | none=>
   have h1:vs[1]? =ag .none:=hT;refine ec (Wi he hd h1 ?_);rw[n' @C];exact fin s ν vs _ _ I rfl rfl he ι β hd hsz
 | some p=>
   obtain⟨t,Y⟩:=p;obtain⟨h1,ε,χ,ts,δ,γ,ρ⟩:=hT;refine ec (Wi he hd h1 ?_);rw[qq (show(sb t != Wy)=true from by simp)];refine ec (Wi δ γ ρ ?_);by_cases hz:(Y == rawInt X.env.locals)=true
   ·rw[qq hz];have ξ:=eq_of_beq hz;subst ξ;exact hH (h s.heap t I ⟨⟨ν,vs,he,ι,β,hd,hsz,h1,ε,χ,ts,δ,γ,ρ⟩,fe,ft⟩)
   ·rw[n' hz];refine ec (Y0 δ γ (WI.mp ρ).1 ?_);have oth:∀c,c≠t->(s.heap.update t (WU (·.setIfInBounds 3 Wy))).get? c=s.heap.get? c:=λc ι=>X4 _ _ (Wf ι)
    have ω:Mv [t] (frs X.stack) s.heap (s.heap.update t (WU (·.setIfInBounds 3 Wy))):=
     ⟨λb o n _ q=>(oth b (λz=>n (by rw[z];exact gn.mpr rfl))).trans q,λb o n _ q=>⟨o.slots,(oth b (λz=>n (by rw[z];exact gn.mpr rfl))).trans q⟩⟩
    have I1:=I.mvN ω λb hb=>by rw[gn.mp hb];exact ft t Y rfl
    exact fin _ ν vs _ _ I1 (Heap.size_after_update ..) rfl ((oth e (Wf ε)).trans he) ι β hd hsz
theorem tZ {M:Model} {A:z5} {E:C'} {e t:dt} {C:ic} {dx:F'} {Y:ic} {fr:F'} {Q:D'} (I:Inv X pins σ H s) (f:Fly X pins H e C dx (ag (t,Y)) s.heap)
  (h:∀h',Inv X pins σ H {s with heap:=h'}->Fly X pins H e C dx (ag (t,fr.elim .none λf=>rawInt f)) h'->Q () {s with heap:=h'}):kn M A (setFlight (.ref e) fr) Q E s:=by
 refine LP f.at_ λh' k x=>h h' (I.mvN (ch:=[t]) ⟨λb o n _ q=>k b o (λz=>n (by rw[z];exact gn.mpr rfl)) q,λb o n _ q=>⟨o.slots,k b o (λz=>n (by rw[z];exact gn.mpr rfl)) q⟩⟩ λb hb=>by rw[gn.mp hb];exact f.ft t Y rfl) ⟨x,f.fe,λt' θ z=>by cases z;exact f.ft t Y rfl⟩
end
noncomputable abbrev XW:=St->XK
def XE (X:Cx) (W:XW) (e:ic) (s:hJ):Prop:=∃pins x C dx T σ H,e= .ref x/\Inv X pins σ H s/\Fly X pins H x C dx T s.heap/\W σ C dx H
def Thr (X:Cx) (W:XW):Prop:=∀e s,XE X W e s->X.xe e s
noncomputable abbrev Cx.thr (X:Cx) (W:XW):Cx:=X.wish (XE X W)
noncomputable abbrev W0:XW:=λ_ _ _ _=>False
section
variable {X:Cx} {W:XW} {pins:CB} {σ:St} {H:Hp} {s:hJ}
theorem Fly.wish {E:C'} {e:dt} {C:ic} {dx:F'} {T:pa (dt×ic)} {h:N'} (f:Fly (X.wish E) pins H e C dx T h):Fly X pins H e C dx T h:=⟨f.at_,f.fe,f.ft⟩
theorem cQ:Thr (X.thr W) W:=λe s ⟨pins,x,C,dx,T,σ,H,he,I,f,w⟩=>⟨pins,x,C,dx,T,σ,H,he,I.unwish,f.wish,w⟩
theorem thr0:Thr X W0:=λe s ⟨pins,x,C,dx,T,σ,H,he,I,f,w⟩=>w.elim
theorem GR (ow:Own X):PassesOwn (px X.prog X.w) X.A X.env (XE X W):=by
 intro e s' ⟨pins,x,C,dx,T,σ,H,he,I,f,w⟩;subst he;unfold notedBy;refine zX I ow f λh' t δ Y=>?_;unfold cameBackBy;obtain⟨⟨ε,vs,β,θ,η,α,ψ,Z,L⟩,fe,ft⟩:=id Y;refine ec (Wi β α Z ?_);rw[n' @F];refine tZ δ Y λh2 γ O=>?_;rw[ow.2] at O;exact⟨pins,x,C,dx,_,σ,H,rfl,γ,O,w⟩
theorem DG (ow:Own X):PassesOwn (px X.prog X.w) X.A X.env (X.thr W).xe:=GR ow
theorem PSs.thr {st:ee Xs} {t:TS} (h:PSs (X.thr W) st t) (k:Thr X W):PSs X st t:=λpins s σ H D I hw=>
 VZ (h pins s σ H D (I.wish _) hw) (λ_ _ q=>q.unwish) k
end
noncomputable def CX1 (P:oT) (w:w7):CXT:=λouter H s E e s'=>∃x C dx t H',e= .ref x/\s'.os=s.os/\AllBare s'.gens/\Un (frs outer) [] H H' s.heap s'.heap/\HOk P w H' s'.heap/\
 Ir s'.heap x C dx (ag (t,.none))/\s.heap.get? x=fy/\s.heap.get? t=fy/\H' x=fy/\H' t=fy/\E C dx H'
section
variable {P:oT} {w:w7} {K:ak} {mg:CM} {base:N'}
theorem Fy {N:B1} {L:mu} {scope:X5} {f:dt} {Y:ic} {A:z5} {outer:ee Env} {s:hJ} {H:Hp} {E:XK}:
  Thr (cxOf (CX1 P w) P w K mg base N L scope f Y A outer s H E) λ_=>E:=by
 intro e s' ⟨pins,x,C,dx,T,σ,H',he,I,β,Z⟩;subst he;have own:Own (cxOf (CX1 P w) P w K mg base N L scope f Y A outer s H E):=⟨rfl,rfl⟩;show kn _ _ (leaving _ _) _ _ _;unfold leaving;refine ec (zX I own β λh1 t γ α=>?_);refine tZ (fr:=fy) γ α λh2 I2 O=>?_;have fx:=O.fe;have ft:=O.ft t _ rfl;have no:∀b:dt,(b∈([]:Dk)∨s.heap.get? b=fy)->s.heap.get? b=none:=λb z=>z.elim (λq=>hB q @F) id;exact⟨x,C,dx,t,H',rfl,I2.os,I2.bare,I2.base,I2.hok,O.at_,no x fx.2.2.2.1,no t ft.2.2.2.1,fx.1,ft.1,Z⟩
theorem Fun.okX {x L:mu} {st:Xs} {f:dt} {fd:hE} {N ps:B1} {k:Nat} {sp:Sp} (F:Fun K x L st f fd) (S:au N ps (ah st)) (len:∀vs H Q E,sp vs H Q E->vs.length=ps.length)
  (Y:∀(O:ic) (A:z5) (outer:ee Env) (s:hJ) (H:Hp) (vs:ee V) (Q:VK) (E:XK),Room k (A.deeper (envOfC L (ah st) s.heap.objs.size f O))->sp vs H Q E->
   ∃t,PSs ((cxOf (CX1 P w) P w K mg base N L (ah st) f O A outer s H E).thr λ_=>E) (fE st) t/\t {nx:=λ_ H'=>Q .non H',rt:=Q} (start N vs) H):FnOk P w K mg base (CX1 P w) (k + 1) f fd ps sp:=by
 obtain⟨ε,od,kV,υ,δ,an,O,ct,β,rfl,lk,α⟩:=F.ex;refine RC lk α S len λA outer s H vs Q E γ Z=>?_;obtain⟨t,h,q⟩:=Y O A outer s H vs Q E γ Z;exact⟨t,h.thr Fy,q⟩
end
section
variable {X:Cx} {W:XW} {pins:CB} {σ:St} {H:Hp} {s s':hJ}
theorem Inv.afterX {e:ic} (I:Inv X pins σ H s) (hx:Thr X W) (h:CX1 X.prog X.w X.stack H s (W σ) e s'):X.xe e s':=by
 obtain⟨x,C,dx,t,H',rfl,os,bare,un,hok,ea,ι,L,nx,ε,w⟩:=h;refine hx _ _ ⟨pins,x,C,dx,_,σ,H',rfl,I.call' (ch:=[]) os un hok bare (λb z=>hB z @F),⟨ea,I.fpN ι nx,λt' Y z=>?_⟩,w⟩;cases z;exact I.fpN L ε
variable {k:Nat} {f C:dt} {fd:hE} {ps:B1} {sp:Sp} {dvs:ee V} {ds:CD} {x m:mu} {p pos apos:Pos} {e o:L'} {es:ee L'} {ta:TE} {t:TA}
theorem J8 {Q:VK} {us:CD} {vs:ee V} (F:FnOk X.prog X.w X.K X.mg X.base (CX1 X.prog X.w) k f fd ps sp) (hr:Room k X.A) (hb:mx X.K fd ps ds) (hd:Vals dvs ds) (hx:Thr X W)
  (I:Inv X pins σ H s) (r:Vals vs us) (h:sp (vs++dvs) H Q (W σ)):kn (px X.prog X.w) X.A (call (.ref f) us) (EP X pins σ Q) X.xe s:=by
 have η:Vals (vs++dvs) (us++ds):=r.append hd;have hl:(us++ds).length=ps.length:=by rw[<-η.length];exact F.len _ _ _ _ h
 refine Yf (X' (F.run X.A X.stack s H ⟨us,[]⟩ (us++ds) (vs++dvs) Q (W σ) hr I.env0 (hb s us I.kIn hl) η h) λr s' L=>?_);cases r with
 | error e=>exact I.afterX hx L
 | ok Y=>
   cases Y with
   | ret u=>exact I.after L
   | next=>exact y' L
   | brk=>exact y' L
   | cont=>exact y' L
noncomputable def Jg (sp:Sp) (dvs:ee V) (W:XW) (t:TA):TE:=fun σ H Q=>t σ H λvs H1=>sp (vs++dvs) H1 Q (W σ)
theorem QN {σ:St} {H:Hp} {Q:VK} {sp:Sp} {W:XW} {t:TA} (h:t σ H λvs H1=>sp vs H1 Q (W σ)):Jg sp [] W t σ H Q:=by
 unfold Jg;simpa using h
theorem hX (F:FnOk X.prog X.w X.K X.mg X.base (CX1 X.prog X.w) k f fd ps sp) (hr:Room k X.A) (Y:Gl X x) (hm:X.mg x=ag (.ref f)) (hk:W3 X.K (.ref f)=true) (hb:mx X.K fd ps ds) (hd:Vals dvs ds) (hx:Thr X W)
  (ha:PA X (e::es) t) (O:(x == ("__debug__":mu))=false:=by decide) (he:ll (e::es) X.env=(false,eval e X.env)::ll es X.env:=by rfl) (L:(backTo pos (ll es X.env)).any (·.1)=false:=by rfl):
  PE X (.Call (.Name x p) (e::es) [] pos) (Jg sp dvs W t):=by
 intro pins s σ H Q I h;refine WN (jS I Y hm ?_ O);refine Wq (h₀:=X.base) I.ok.mod.kin hk (thn (ha pos pins s σ H _ I h) λus Z ⟨vs,H1,I1,r,q⟩=>⟨I1.kIn,?_⟩) he L;exact J8 F hr hb hd hx I1 r q
noncomputable def OY (C:dt) (m:mu) (sp:Sp) (dvs:ee V) (W:XW) (ta:TE) (t:TA):TE:=fun σ H Q=>ta σ H λx H1=>∃a dx fs,x= .ref a/\H1 a=ag (.ins C dx fs)/\fs.lookup m=fy/\
 t σ H1 λvs H2=>sp (x::(vs++dvs)) H2 Q (W σ)
theorem dP {pl:Sem V6} (he:PE X o ta) (c:Cls X.K C) (hm:Meth X.K C m f) (F:FnOk X.prog X.w X.K X.mg X.base (CX1 X.prog X.w) k f fd ps sp) (hr:Room k X.A) (hb:mx X.K fd ps ds) (hd:Vals dvs ds) (hx:Thr X W) (ha:PA X (e::es) t)
  (Z:ll (e::es) X.env=(false,eval e X.env)::ll es X.env:=by rfl) (L:(backTo pos (ll es X.env)).any (·.1)=false:=by rfl)
  (ht:eval (.Call (.Attribute o m apos) (e::es) [] pos) X.env=(do
   let O <-eval o X.env
   standAt apos.atName
   let (f,first) <-holding [O] (getMethod O m pl)
   callWith pos f first (backTo pos (ll (e::es) X.env)) (backToKw pos (keywordEach [] X.env))):=by rfl):
  PE X (.Call (.Attribute o m apos) (e::es) [] pos) (OY C m sp dvs W ta t):=by
 intro pins s σ H Q I h;refine X6 (pl:=pl) (thn (he pins s σ H _ I h) λu α ⟨x,H1,Y,β,a,dx,fs,ex,ea,l,q⟩=>?_) ht;subst ex;obtain rfl:u=sb a:=β;refine tL Y ea c hm l ?_;refine Wq (first:=[.ref a]) (h₀:=X.base) I.ok.mod.kin hm.kp (thn (ha pos pins α σ H1 _ Y q) λus γ ⟨vs,H2,I2,r,θ⟩=>⟨I2.kIn,?_⟩) Z L;exact J8 (us:= .ref a::us) (vs:= .ref a::vs) F hr hb hd hx I2 (.cons rfl r) θ
end
structure XCls (h:N') (C:dt) (bmB:CD) (newId:U'):Prop where
 obj:∃bm N nm q bs hdct sn sub ab col dd k0 k1 k2 k3 k5 mN,h.get? C=ag (excClassObj nm q C N bs bm hdct sn sub ab col dd k0 k1 k2 k3 k5 newId)/\h.Ns N mN/\mN "__init__"=fy/\OwnTail h bmB bm
theorem P6 {K:ak} {h:N'} {C:dt} {bmB:CD} {newId:U'} (X:K.In h) (q:XU K C bmB newId=true):XCls h C bmB newId:=by
 refine⟨?_⟩;unfold XU at q;split at q
 next dd γ O ho=>
  split at q
  next ω bm k0 k1 k2 k3 n k5 hm hs=>
   simp only[R',XN,Yx] at q;obtain⟨⟨⟨⟨⟨β,Z⟩,ε⟩,ht⟩,hok⟩,α⟩:=q;subst β Z;cases γ with
   | mk nm bs mro ns Y hd sn sub ab col del=>
   have hm:mro=_:=hm;have ε:del=false:=ε;subst hm ε;have L:O=#[k0,k1,k2,k3,ag (.builtin n),k5]:=by rw[<-hs]
   subst L;exact⟨bm,ns,nm,Y,bs,hd,sn,sub,ab,col,dd,k0,k1,k2,k3,k5,_,X _ _ ho,.of_isNs (PySem.W.isNs_of_in X hok),PySem.W.nsMap_none_of_in X hok α,Z0 X ht⟩
  next=>cases q
 next=>cases q
section
variable {X:Cx} {W:XW} {C:dt} {x:mu} {np cpos pos:Pos} {e:L'} {es:ee L'} {t:TA} {B newId initId:U'} {bmB:CD}
noncomputable def OX (C:dt) (W:XW) (t:TA):TS:=λ_ σ H=>t σ H λvs H1=>vs.length<=ix/\W σ (.ref C) fy H1
theorem KP {pins:CB} {σ:St} {H:Hp} {s:hJ} {h':N'} {a:dt} {vs:CD} (I:Inv X pins σ H s) (m:ab2 s.heap h' a (.ref C) vs):
  Inv X pins σ H {s with heap:=h'}/\Fly X pins H a (.ref C) fy fy h':=by
 obtain⟨tt,L,θ,η⟩:=m.there;exact⟨I.mvN (ch:=[]) ⟨λb o _ _ e=>m.keeps b o e,λb o _ _ e=>⟨o.slots,m.keeps b o e⟩⟩ λb z=>hB z @F,⟨⟨_,_,L,rfl,rfl,rfl,@F,@F⟩,I.fpN m.new (I.hok.none_ m.new),λt Y z=>by cases z⟩⟩
theorem kc (FB:ExcBaseFacts B newId initId bmB) (q:XU X.K C bmB newId=true) (hx:Thr X W) (hc:X.calm=true) (β:Gl X x) (hm:X.mg x=ag (.ref C)) (ha:PA X (e::es) t)
  (Y:(x == ("__debug__":mu))=false:=by decide) (he:ll (e::es) X.env=(false,eval e X.env)::ll es X.env:=by rfl) (O:(backTo cpos (ll es X.env)).any (·.1)=false:=by rfl):
  PS X (.Raise (ag (.Call (.Name x np) (e::es) [] cpos)) fy pos) (OX C W t):=by
 intro pins s σ H D I h;obtain⟨tl,N,nm,Z,bs,hdct,sn,sub,ab,col,dd,k0,k1,k2,k3,k5,mN,γ,ψ,α,T⟩:=(P6 I.ok.mod.kin q).obj
 refine wpAny_Raise_call_subT (C:=C) (nm:=nm) (q:=Z) (N:=N) (bs:=bs) (bm:=tl) (hdct:=hdct) (sn:=sn) (sub:=sub) (ab:=ab) (col:=col) (dd:=dd) (k0:=k0) (k1:=k1) (k2:=k2) (k3:=k3) (k5:=k5)
  FB (mN:=mN) (T.hasType FB.hasBase) (I.ok.hd hc) (by rw[he];show(false||(backTo cpos (ll es X.env)).any (·.1))=false;rw[O];rfl) α (jS I β hm ⟨rfl,?_⟩ Y)
 have L:=ha cpos pins s σ H _ I h;rw[he] at L ⊢;refine ag0 (VZ L (λus ζ ⟨vs,H1,I1,r,z,w⟩=>⟨rfl,?_,I1.bk _ _ γ,ψ.keeps I1.bk,T.keeps I1.bk,λh' a m=>?_⟩) λ_ _ y=>y)
 ·show us.length<=_;rw[<-r.length];exact z
 ·obtain⟨ε,δ⟩:=KP I1 m;exact hx _ _ ⟨pins,a,.ref C,fy,fy,σ,H1,rfl,ε,δ,w⟩
end
structure tT (K:ak) (G:dt):Prop where
 ty:YM K (.ref G)=ag (.type "type")
 cls:YC K G=true
 base:VX K G (.type "BaseException")=ag true
theorem Bv {K:ak} {M:Model} {h:N'} {G:dt} (X:K.In h) (c:YC K G=true):XX M h (isType (.ref G)) true:=by
 unfold YC aa2 at c;split at c
 next O d' ν L ho=>
  intro α Y Z s' k q;unfold isType loadHead;exact ec (af4 (k _ _ (X _ _ ho)) (hH q))
 next=>cases c
theorem oA {K:ak} {M:Model} {A:z5} {E:C'} {s:hJ} {a G C:dt} {O:Obj} {b:V6} {Q:V6->hJ->Prop} (X:K.In s.heap) (c:tT K G) (he:s.heap.get? a=ag O) (hc:O.cls= .ref C)
  (hm:VX K C (.ref G)=ag b) (q:Q b s):kn M A (excMatches (.ref a) (.ref G)) Q E s:=by
 unfold excMatches isInstance;refine ec (ec ((ad8 X c.ty).here ?_));rw[tc_notTuple];refine hH ?_;simp only[Ys,Zk];refine ec (hH ?_);simp only[Zw,List.forIn_nil];unfold isExcClass;refine ec (ec (ec (ec ((Bv X c.cls).here ?_))));simp only[YF];refine(Y9 X c.base).here ?_;simp only[Bool.not_true,Ys,Zk];refine hH (hH ?_);have L:XX M s.heap (typeOf (.ref a)) (.ref C):=hc ▸ (PySem.W.Looks.ld he).andThen .now;refine ec (L.here ?_);refine ec (ec (ec ((Y9 X hm).here ?_)));cases b<;>simp only[Ys,Zk,YF]
 ·exact hH (hH (hH q))
 ·exact hH (hH (hH q))
section
variable {X:Cx} {pins:CB} {σ:St} {H:Hp} {s:hJ}
theorem Ap {M:Model} {A:z5} {E:C'} {i:Nat} {n:mu} {pos:Pos} {Q:D'} (I:Inv X pins σ H s) (ψ:X.N.Nodup) (hi:X.N[i]? =ag n) (hk:X.env.scope.names.lookup n=ag .local)
  (h:∀s',Inv X pins (σ.set i fy) H s'->Q () s'):kn M A (do bindName X.env n .none;unbindBehindTheSuite X.env n pos) Q E s:=by
 obtain⟨m,hn,hl⟩:=id I.loc;have α:(X.env.scope.kind == .class||(X.env.scope.kind == .module&&X.env.locals != X.env.globals))=false:=by rw[I.ok.kind];rfl
 refine wpAny_nameGoes_keeps hk hn α λh' v ω hs=>h _ ?_;obtain⟨ν,_,_,τ,_⟩:=id hn;have L:∀b o,X.s₀.heap.get? b=ag o->b≠X.env.locals:=λb o e=>z3 (hA (hF e) I.ok.above);have U:=I.base;refine⟨I.ok,I.os,I.bare,⟨λb o e n hb Y=>(hs.2 b (L b o e)).trans (U.keep b o e n hb Y),λb o e n hb Y=>?_,U.free,λb o e Y=>?_,U.tups,U.frzs,U.tbls⟩,⟨_,ω,λj y ζ O β ι=>?_⟩,λy c e=>?_,I.free,I.freeC,λp hp=>?_,λb ob e=>?_,by simpa using I.len⟩
 ·obtain⟨η,O⟩:=U.slot b o e n hb Y;exact⟨η,(hs.2 b (L b o e)).trans O⟩
 ·obtain⟨o',O⟩:=U.there b o e Y;exact⟨o',(hs.2 b (L b o e)).trans O⟩
 ·by_cases γ:j=i
  ·subst γ;have Z:j < σ.length:=by rw[I.len];exact(b'.mp hi).1
   rw[YI Z] at β;cases β
  ·rw[YZ (Wf γ)] at β;obtain⟨ε,r',q⟩:=hl j y ζ O β ι;refine⟨ε,r',?_⟩;rcases q with ⟨k,e⟩ | ⟨k,c,e,z⟩
   ·refine .inl ⟨k,?_⟩;have:y≠n:=λe=>γ (zY ψ O (e ▸ hi));simp[this,e]
   ·exact .inr ⟨k,c,e,z.sameBut hs (I.cne y c e)⟩
 ·obtain⟨δ,z⟩:=I.cell y c e;exact⟨δ,z.sameBut hs (I.cne y c e)⟩
 ·obtain⟨e,n,ne,θ,d⟩:=I.pin p hp;exact⟨(hs.2 p.1 ne).trans e,n,ne,θ,d⟩
 ·refine(I.hok b ob e).stay (λc δ hc q=>(hs.2 c ?_).trans q) (λ_ q=>q) λ_ _ q=>q;intro z;subst z;rcases hc with hc | hc
  ·rw[<-hc,I.free] at e;cases e
  ·rw[I.free] at hc;cases hc
theorem Inv.track {x:dt} {o:HO} (I:Inv X pins σ H s) (f:FpN X pins H x) (L:gj X.prog X.w (upd H x o) s.heap x o):Inv X pins σ (upd H x o) s:=by
 obtain⟨ε,β,γ,τ,α,Z⟩:=f;have ne:∀b u,H b=ag u->b≠x:=λb u e z=>by rw[z,ε] at e;cases e
 have O:∀b u,H b=ag u->upd H x o b=ag u:=λb u e=>by rw[aE (ne b u e)];exact e
 have U:=I.base;refine⟨I.ok,I.os,I.bare,⟨U.keep,U.slot,λb ob e n Y=>?_,U.there,λb xs e=>O b _ (U.tups b xs e),λb ob u e=>O b _ (U.frzs b ob u e),λb ps e=>?_⟩,I.loc,I.cell,?_,λy c e=>?_,λp hp=>?_,λb ob e=>?_,I.len⟩
 ·rw[aE (λz=>?_)]
  ·exact U.free b ob e n Y
  ·subst z;rcases τ with y | y
   ·exact Y y
   ·rw[e] at y;cases y
 ·obtain⟨m,q⟩:=U.tbls b ps e;exact⟨m,O b _ q⟩
 ·rw[aE (Wf β)];exact I.free
 ·rw[aE (α y c e)];exact I.freeC y c e
 ·obtain⟨e,n,r⟩:=I.pin p hp;exact⟨e,by rw[aE (Z p hp)];exact n,r⟩
 ·by_cases z:b=x
  ·subst z;rw[aD] at e;cases e;exact L
  ·rw[aE z] at e;exact(I.hok b ob e).stay (λ_ _ _ q=>q) (λc q=>O c _ q) λc xs q=>O c _ q
end
noncomputable def ExcO (x:dt) (C:ic) (dx:F'):HO:= .ext λh=>∃L vs,h.get? x=ag L/\L.cls=C/\L.dict=dx/\L.data= .fields vs
theorem RF {P:oT} {w:w7} {H:Hp} {h:N'} {x:dt} {C:ic} {dx:F'} {T:pa (dt×ic)} (e:Ir h x C dx T):gj P w H h x (ExcO x C dx):=by
 obtain⟨O,vs,L,θ,η,Y,_⟩:=e;exact⟨⟨O,vs,L,θ,η,Y⟩,⟨O,L⟩,λh1 h2 ⟨O,vs,L,θ,η,Y⟩ k=>⟨O,vs,k _ L,θ,η,Y⟩⟩
noncomputable abbrev Cx.pin (X:Cx) (pins:CB):Cx:={X with pn:=X.pn++pins}
noncomputable abbrev Cx.mark (X:Cx) (pins:CB) (e:ic):Cx:={X with A:=X.A.mark (ag e),calm:=false,pn:=X.pn++pins,xe:=λ_ _=>False}
section
variable {X:Cx} {pins pins':CB} {σ:St} {H:Hp} {s:hJ} {e:ic}
theorem Inv.toPin (I:Inv X pins σ H s):Inv (X.pin pins) [] σ H s:=
 ⟨⟨I.ok.mod,I.ok.kind,I.ok.glob,I.ok.blt,I.ok.above,I.ok.inj,I.ok.has,I.ok.cab,I.ok.hd,I.ok.frames,I.ok.stk,I.ok.exf,I.ok.bs,I.ok.bsz,I.ok.noex,I.ok.exfs,I.ok.funs,I.ok.frf⟩,I.os,I.bare,I.base,I.loc,I.cell,I.free,I.freeC,
   λp hp=>I.pin p (by simpa using hp),I.hok,I.len⟩
theorem Inv.ofPin (ok:X.Ok) (I:Inv (X.pin pins) pins' σ H s):Inv X pins σ H s:=
 ⟨ok,I.os,I.bare,I.base,I.loc,I.cell,I.free,I.freeC,λp hp=>I.pin p (hQ _ hp),I.hok,I.len⟩
theorem Inv.toMark (I:Inv X pins σ H s):Inv (X.mark pins e) [] σ H s:=
 ⟨⟨I.ok.mod,I.ok.kind,I.ok.glob,I.ok.blt,I.ok.above,I.ok.inj,I.ok.has,I.ok.cab,(λz=>hB (show false=true from z) @C),I.ok.frames,I.ok.stk,I.ok.exf,I.ok.bs,I.ok.bsz,I.ok.noex,I.ok.exfs,I.ok.funs,I.ok.frf⟩,I.os,I.bare,I.base,I.loc,I.cell,I.free,I.freeC,
   λp hp=>I.pin p (by simpa using hp),I.hok,I.len⟩
theorem Inv.ofMark (ok:X.Ok) (I:Inv (X.mark pins e) pins' σ H s):Inv X pins σ H s:=
 ⟨ok,I.os,I.bare,I.base,I.loc,I.cell,I.free,I.freeC,λp hp=>I.pin p (hQ _ hp),I.hok,I.len⟩
theorem FpN.ofPin {b:dt} (f:FpN (X.pin pins) pins' H b):FpN X pins H b:=⟨f.1,f.2.1,f.2.2.1,f.2.2.2.1,f.2.2.2.2.1,λp hp=>f.2.2.2.2.2 p (hQ _ hp)⟩
theorem Fly.ofPin {x:dt} {C:ic} {dx:F'} {T:pa (dt×ic)} {h:N'} (f:Fly (X.pin pins) pins' H x C dx T h):Fly X pins H x C dx T h:=⟨f.at_,f.fe.ofPin,λt Y z=>(f.ft t Y z).ofPin⟩
end
noncomputable def Ends.less (D:Ends) (i:Nat):Ends:={nx:=fun σ H=>D.nx (σ.set i fy) H,rt:=D.rt,bk:=fun σ H=>D.bk (σ.set i fy) H,ct:=fun σ H=>D.ct (σ.set i fy) H}
noncomputable def WTry (K:ak) (G:dt) (i:Nat) (Wo:XW) (ts:TS) (D:Ends):XW:=fun σ C dx H=>∃c,C= .ref c/\((VX K c (.ref G)=ag true/\∀x,H x=fy->ts (D.less i) (σ.set i (ag (.ref x))) (upd H x (ExcO x C dx)))∨
 (VX K c (.ref G)=ag false/\Wo σ C dx H))
noncomputable def tTry (K:ak) (G:dt) (i:Nat) (Wo:XW) (tb:XW->TS) (ts:TS):TS:=λD σ H=>tb (WTry K G i Wo ts D) D σ H
section
variable {X:Cx} {Wo:XW} {G:dt} {g n:mu} {i:Nat} {gp hp pos:Pos} {b₀:Xs} {body suite:ee Xs} {tb:XW->TS} {ts:TS}
theorem Tu (ow:Own X) (hx:Thr X Wo) (ζ:tT X.K G) (ι:Gl X g) (hm:X.mg g=ag (.ref G)) (ψ:X.N.Nodup) (hi:X.N[i]? =ag n) (hk:X.env.scope.names.lookup n=ag .local)
  (hb:∀pins W,PSs ((X.pin pins).thr W) body (tb W)) (hs:∀pins e,PSs (X.mark pins e) (b₀::suite) ts) (γ:(g == ("__debug__":mu))=false:=by decide):
  PS X (.Try body [.ExceptHandler (ag (.Name g gp)) (ag n) (b₀::suite) hp] [] [] pos) (tTry X.K G i Wo tb ts):=by
 intro pins s σ H D I h;have ok:=I.ok;refine wpAny_Try_except (VZ (hb pins _ [] s σ H D (I.toPin.wish _) h) (λY θ q=>?_) λe θ q=>?_)
 ·have ν:=q.unwish;cases Y with
  | next=>obtain⟨σ',H',I',z⟩:=ν;exact hH ⟨σ',H',I'.ofPin ok,z⟩
  | brk=>obtain⟨σ',H',I',z⟩:=ν;exact⟨σ',H',I'.ofPin ok,z⟩
  | cont=>obtain⟨σ',H',I',z⟩:=ν;exact⟨σ',H',I'.ofPin ok,z⟩
  | ret u=>obtain⟨v,σ',H',I',r,z⟩:=ν;exact⟨v,σ',H',I'.ofPin ok,r,z⟩
 ·obtain⟨pins',x,C,dx,T,β,H1,rfl,I1,ρ,c,rfl,w⟩:=q;have υ:=I1.ofPin ok;have g1:=ρ.ofPin;refine zX υ ow g1 λh2 t τ g2=>?_;refine tZ (fr:=fy) τ g2 fun ω J3 δ=>?_;obtain⟨⟨χ,vs,he,ε,π,hd,hsz,hT⟩,fe,ft⟩:=id δ;refine al8 (ak2 (jS (X:=X.mark pins (.ref x)) J3.toMark ι hm ?_ γ)) (by intro q;cases q);rcases w with ⟨O,w⟩ | ⟨O,w⟩
  ·refine oA J3.kIn ζ he ε O (codeAny_handlers_suite_as ?_);refine tZ (fr:=fy) J3 δ fun ο J4 α=>?_;have ξ:=J4.track α.fe (RF (P:=X.prog) (w:=X.w) (H:=upd H1 x (ExcO x (.ref c) dx)) α.at_);refine zq ξ ψ hi (.inl hk) (v:= .ref x) rfl (fun η J6=>?_) (.inr hk);refine VZ (hs pins (.ref x) [] η _ _ _ J6.toMark (w x α.fe.1)) (λY φ q=>?_) λ_ _ z=>y' z;cases Y with
   | next=>obtain⟨σ',H',I',z⟩:=q;exact Ap (I'.ofMark ok) ψ hi hk λL Z=>⟨_,H',Z,z⟩
   | brk=>obtain⟨σ',H',I',z⟩:=q;exact Ap (I'.ofMark ok) ψ hi hk λL Z=>⟨_,H',Z,z⟩
   | cont=>obtain⟨σ',H',I',z⟩:=q;exact Ap (I'.ofMark ok) ψ hi hk λL Z=>⟨_,H',Z,z⟩
   | ret u=>obtain⟨v,σ',H',I',r,z⟩:=q;exact Ap (I'.ofMark ok) ψ hi hk λL Z=>⟨v,_,H',Z,r,z⟩
  ·refine oA J3.kIn ζ he ε O (an0 ?_);unfold an2;refine ec (Wi he hd hT.1 ?_);rw[n' @F];refine ec (tZ J3 δ fun ο J4 α=>?_);exact ak7 (hx _ _ ⟨pins,x,.ref c,dx,_,β,H1,rfl,J4,α,w⟩)
end
structure XIsi (K:ak) (D:dt):Prop where
 cls:YC K D=true
 ga:wh K (.ref D) "__getattribute__"=ag (ag (.builtin "BaseException.__getattribute__"))
 gr:wh K (.ref D) "__getattr__"=ag fy
 ha:wh K (.ref D) "__class__"=ag (ag (.builtin "object.__class__"))
 hn:Xa K (.builtin "object.__class__") "__get__"=ag (ag (.builtin "getset_descriptor.__get__"))
 tk:ZH K (.builtin "object.__class__")=ag true
 hm:VX K D (.type "object")=ag true
 base:VX K D (.type "BaseException")=ag true
noncomputable def dV:V->ic
 | .ref a=> .ref a
 | .ty n=> .type n
 | _=> .none
section
variable {σ:St} {H:Hp} {Q:VK} {D:Ends} {W:XW} {t:TA}
theorem QD {C:dt} (h:t σ H λvs H1=>vs.length<=ix/\W σ (.ref C) fy H1):OX C W t D σ H:=h
theorem JT {K:ak} {G:dt} {i:Nat} {Wo:XW} {tb:XW->TS} {ts:TS} (h:tb (WTry K G i Wo ts D) D σ H):tTry K G i Wo tb ts D σ H:=h
theorem NM {K:ak} {G c:dt} {i:Nat} {Wo:XW} {ts:TS} {dx:F'} (m:VX K c (.ref G)=ag true) (h:∀x H',H x=fy->Upd H H' x (ExcO x (.ref c) dx)->ts (D.less i) (σ.set i (ag (.ref x))) H'):WTry K G i Wo ts D σ (.ref c) dx H:=
 ⟨c,rfl,.inl ⟨m,λx n=>h x _ n Upd.of⟩⟩
theorem SQ {i:Nat} (h:D.nx (σ.set i fy) H):(D.less i).nx σ H:=h
end
theorem vH {X:Cx} {K:ak} {es:ee L'} {k:Nat} {t:TGs} {n:Nat} {pos:Pos} (h:X.K=K) (hc:X.calm=true) (ht:PGs X es t)
  (hn:(assignEach es X.env).length=n:=by rfl) (Z:(assignEach es X.env).findIdx? (·.1)=none:=by rfl):PG X (.Tuple es k pos) (gTup K n t):=by subst h;exact qU hc ht hn Z
noncomputable def BG (kvs:ee (Key×V)):ee V:=kvs.map fun ψ=>kV ψ.1
noncomputable def Pe:ee V->Hp->VK->Prop:=λxs H Q=>∃p kvs,xs=[.ref p]/\H p=ag (.dK kvs)/\∀l,H l=fy->Q (.ref l) (upd H l (.lst (BG kvs)))
theorem Ka {k:Key} {v:ic} (h:BI k v=true):RelV (kV k) v:=by
 rcases dH h with ⟨i,t,rfl,rfl⟩ | ⟨x,t,rfl,rfl⟩
 ·exact⟨t,rfl⟩
 ·exact⟨t,rfl⟩
theorem qX {α β:Type} {F:α->β->Prop}:∀{l:ee α} {m:ee β},l.length=m.length->(∀(i:Nat) (a:α) (b:β),l[i]? =ag a->m[i]? =ag b->F a b)->Paired F l m
 | [],[],_,_=> .nil
 | a::l,b::m,hl,h=> .cons (h 0 a b rfl rfl) (qX (by simpa using hl) λi x y O L=>h (i + 1) x y (by simpa using O) (by simpa using L))
 | [],_::_,hl,_=>by simp at hl
 | _::_,[],hl,_=>by simp at hl
section
variable {X:Cx}
theorem HX (hc:X.calm=true):n8 X (.type "list") Pe:=by
 intro pins s σ H xs us Q I r h;obtain⟨p,kvs,rfl,hp,q⟩:=h;obtain⟨u,rfl,δ⟩:=xH r;cases δ;obtain⟨hz,lo,vs,rel,dd⟩:=RH I.hok hp;obtain⟨ep,β⟩:=dd.dictAt;refine PySem.W.kdl_call (ah8 (knd:=dG X.prog X.w) (kvs:=vs) (ep:=ep) lo) (I.ok.hd hc) β (by rw[<-rel.length];exact hz) λh' tk O η hk α L=>?_
 have ε:Vals (BG kvs) O.toList:=by
  refine qX (by unfold BG;rw[a',rel.length,WW];exact L.1.symm) λi a b ha hb=>?_;unfold BG at ha;rw[kf] at ha;obtain⟨ψ,Y,rfl⟩:=XF.mp ha;rw[af2] at hb;obtain⟨k,x,ζ,Z⟩:=L.2 i b hb
  have e:ψ.1=k:=by
   have γ:(kvs.map (·.1))[i]? =ag ψ.1:=by rw[kf,Y];rfl
   rw[rel.keys,kf,ζ] at γ;exact(vu γ).symm
  rw[e];exact Ka Z
 exact⟨.ref s.heap.objs.size,_,I.laid (t':=tk) hk (ov _) (show gj X.prog X.w _ h' _ (.lst (BG kvs)) from⟨by unfold BG;rw[a'];exact hz,O.toList,η,ε,by simpa using α⟩),rfl,q _ (I.hok.fresh (ov _))⟩
end
section
variable {σ:St} {H:Hp} {Q:VK} {D:Ends} {te ty tv td:TE} {x y v:V}
theorem QG {p:dt} {kvs:ee (Key×V)} (e:H p=ag (.dK kvs)) (h:∀q H2,H q=fy->Same H H2->H2 q=ag (.lst (BG kvs))->Q (.ref q) H2):Pe [.ref p] H Q:=⟨p,kvs,rfl,e,iZ h⟩
def RW (y:V) (Q:VK) (x:V) (H:Hp):Prop:=∃a o,x= .ref a/\DGet H a y o/\Q (.bl o.isSome) H
theorem Vu (h:ty σ H λy H1=>td σ H1 (RW y Q)):tDIn ty td σ H Q:=h
theorem S1 {p:dt} {kvs:ee (Key×V)} {z:Int} (e:H p=ag (.dK kvs)) (h:Q (.bl (valV kvs (W9 z)).isSome) H):RW (.int z) Q (.ref p) H:=⟨p,_,rfl,DGet.k (k:=W9 z) e,h⟩
theorem O7 {p:dt} {kvs:ee (Key×V)} {z:mu} (e:H p=ag (.dK kvs)) (h:Q (.bl (valV kvs (zt z)).isSome) H):RW (.str z) Q (.ref p) H:=⟨p,_,rfl,DGet.k (k:=zt z) e,h⟩
def PU (y:V) (Q:VK) (x:V) (H:Hp):Prop:=∃a o,x= .ref a/\DGet H a y o/\Q (.bl (!o.isSome)) H
theorem SZ (h:ty σ H λy H1=>td σ H1 (PU y Q)):Jf ty td σ H Q:=h
theorem QM {p:dt} {kvs:ee (Key×V)} {z:mu} (e:H p=ag (.dK kvs)) (h:Q (.bl (!(valV kvs (zt z)).isSome)) H):PU (.str z) Q (.ref p) H:=⟨p,_,rfl,DGet.k (k:=zt z) e,h⟩
theorem qO {l b:dt} {xs zs:ee V} (e:H l=ag (.lst xs)) (L:H b=ag (.lst zs)) (hz:xs.length + zs.length<=ix) (h:∀p H2,H p=fy->Same H H2->H2 p=ag (.lst (xs++zs))->Q (.ref p) H2):rCat (.ref l) (.ref b) H Q:=⟨l,b,xs,zs,rfl,rfl,e,L,hz,iZ h⟩
end
theorem FA:∀{ns:E'} {us:CD},Vals (ns.map V.int) us->IntsAre us ns
 | [],us,r=>by cases r;exact .nil
 | n::ns,us,r=>by
   rw[W5] at r;cases r with
   | cons h t=>obtain⟨t',rfl⟩:=h;exact .cons _ _ (FA t)
theorem Ll:∀{ns:E'} {us:CD},IntsAre us ns->Vals (ns.map V.int) us:=vf
section
variable {prog:oT} {w:w7} {A:z5} {E:C'} {s:hJ} {d:dt} {vs:ee (Key×ic)} {ep:Nat}
theorem GO:plainId "list.__iadd__"=true:=by decide +kernel
theorem Cn {Q:CD->hJ->Prop} (ζ:A.handled=fy) (lo:(d == sysModules)=false) (O:s.heap.DictAt (dG prog w) d vs ep) (hn:vs.length<=ix)
  (h:∀h' tk (Y:CN),(∀b o,s.heap.get? b=ag o->h'.get? b=ag o)->s.heap.objs.size < h'.objs.size->ItemsOf (λi v=>∃k x,vs[i]? =ag (k,x)/\(dG prog w).is k v=true) Y vs.length->Q Y.toList {s with heap:=h',toks:=tk}):
  kn (px prog w) A (collect (.ref d)) Q E s:=by
 unfold collect;refine ec (wpAny_runValue (Z8 entry_proto_collect' ?_));show kn _ _ (do again (.builtin "list.__iadd__" ⟨[<-newList [],.ref d],[]⟩)) _ _ s;refine ec (wpAny_newList (hH ⟨Zj _ @I,Z8 entry_list_iadd' ?_⟩));rw[YQ GO _];show kn _ _ (Ww (.ref s.heap.objs.size) (.ref d) (.ref s.heap.objs.size)) _ _ {s with heap:=s.heap.push (seqObj "list" #[] 0)};have L:=O.lt_size
 refine PySem.W.kdl_extend (R:=λr s'=>match r with
   | Except.ok (Flow.ret v)=>kn (px prog w) A (match v with
     | sb a=>do
       let o <-load a
       match o.data with
       | .seq xs _=>pure xs.toList
       | _=>unsupported "internal:collect"
     | _=>unsupported "internal:collect") Q E s'
   | Except.ok _=>False
   | Except.error e=>E e s') (s:={s with heap:=s.heap.push (seqObj "list" #[] 0)}) (ah8 (knd:=dG prog w) (kvs:=vs) (ep:=ep) lo) ζ (O.push _) s.heap.objs.size (Xz L) (Xz L) _ 0 (kv _ rfl) (λh' tk α γ hk β Z=>?_) hn
 show kn (px prog w) A (do
   let o <-load s.heap.objs.size
   match o.data with
   | .seq xs _=>pure xs.toList
   | _=>unsupported "internal:collect") Q E {s with heap:=h',toks:=tk}
 refine ec (wpAny_load β ?_);exact hH (h h' tk α (λb o e=>hk b o (z3 (hF e)) (eH _ e)) (hF β) Z)
theorem C9 {Q:C'} {ks:E'} (ζ:A.handled=fy) (lo:(d == sysModules)=false) (θ:s.heap.DictAt (dG prog w) d vs ep) (hn:vs.length<=ix) (hk:vs.map (·.1)=ks.map W9) (β:vs.length < 64)
  (h:∀h' tk a (out:CN) (e:Nat) (L:E'),(∀b o,s.heap.get? b=ag o->h'.get? b=ag o)->s.heap.objs.size<=a->h'.get? a=ag (seqObj "list" out e)->IntsAre out.toList L->L.Perm ks->L.Pairwise (·<=·)->Q (.ref a) {s with heap:=h',toks:=tk}):
  kn (px prog w) A (call (.builtin "sorted") [.ref d]) Q E s:=by
 refine Calls.call_function_entry kind_sorted plain_sorted entry_sorted (args_sorted1 _) ?_;unfold Builtin.«sorted»;refine ec (m:=checkCount "sorted" 1 1 _) (hH ?_);refine ec (Cn (by exact ζ) lo θ hn λh' tk Y ε hsz O=>?_)
 have γ:(ks.map V.int).length=Y.toList.length:=by
  have Z:=ri y1 hk;rw[a',a'] at Z;have ο:Y.toList.length=vs.length:=by rw[WW];exact O.1
  rw[a'];omega
 have hI:IntsAre Y.toList ks:=by
  refine FA (qX γ λi a b ha hb=>?_);rw[kf] at ha;obtain⟨k,η,rfl⟩:=XF.mp ha;rw[af2] at hb;obtain⟨ρ,x,ν,δ⟩:=O.2 i b hb;have Z:(vs.map (·.1))[i]? =ag ρ:=by rw[kf,ν];rfl
  rw[hk,kf,η] at Z;have Z:=vu Z;subst Z;exact Ka (show BI (W9 k) b=true from δ)
 have ι:Y.toList.length < 64:=by rw[WW,O.1];exact β
 refine ec (wpAny_newList ?_);have τ:(h'.push (seqObj "list" Y.toList.toArray 0)).get? h'.objs.size=ag (seqObj "list" Y.toList.toArray 0):=kv _ rfl;show kn _ _ _ _ _ {s with heap:=h'.push (seqObj "list" Y.toList.toArray 0),toks:=tk};refine ec (W' (YR slot_list_sort ⟨_,τ,rfl⟩ entry_list_sort (list_sort_tree τ hI ι λout L a1 a2 ξ=>⟨_,rfl,?_⟩) (args_list_sort _)));obtain⟨e,he⟩:=sortedHeap_at (out:=out) τ;refine hH ⟨_,rfl,h _ tk h'.objs.size out e L (λb o hb=>?_) ?_ he a1 a2 ξ⟩
 ·have α:=hF (ε b o hb);rw[sortedHeap_old (z3 α) (by rw[size_push'];exact ZJ α)];exact eH _ (ε b o hb)
 ·exact XA hsz
end
noncomputable def Pd:ee V->Hp->VK->Prop:=λxs H Q=>∃(p:dt) (ks:E') (kvs:ee (Key×V)),xs=[.ref p]/\H p=ag (.dK kvs)/\kvs.map (·.1)=ks.map W9/\kvs.length < 64/\
 ∀(l:dt) (ns:E'),H l=fy->ns.Perm ks->ns.Pairwise (·<=·)->Q (.ref l) (upd H l (.lst (ns.map V.int)))
theorem HW {X:Cx} (hc:X.calm=true):n8 X (.builtin "sorted") Pd:=by
 intro pins s σ H xs us Q I r h;obtain⟨p,ks,kvs,rfl,hp,hk,β,q⟩:=h;obtain⟨u,rfl,γ⟩:=xH r;cases γ;obtain⟨hz,lo,vs,rel,dd⟩:=RH I.hok hp;obtain⟨ep,Z⟩:=dd.dictAt;refine C9 (ks:=ks) (I.ok.hd hc) lo Z (by rw[<-rel.length];exact hz) (by rw[<-rel.keys];exact hk) (by rw[<-rel.length];exact β) λh' tk a out e L kp ha he hi O Y=>?_;have δ:=Ll hi
 have hl:(L.map V.int).length<=sizeLine:=by
  have α:=ri y1 hk;rw[a',a'] at α;rw[a',O.length_eq,<-α];exact hz
 refine⟨.ref a,_,I.laid (t':=tk) kp ha (show gj X.prog X.w _ h' _ (.lst (L.map V.int)) from⟨hl,out.toList,e,δ,by simpa using he⟩),rfl,q _ L (I.hok.fresh ha) O Y⟩
section
variable {H:Hp} {Q:VK}
theorem QC {p:dt} {kvs:ee (Key×V)} {ks:E'} (e:H p=ag (.dK kvs)) (hk:kvs.map (·.1)=ks.map W9) (β:kvs.length < 64) (h:∀(l:dt) (ns:E') (H2:Hp),H l=fy->Same H H2->H2 l=ag (.lst (ns.map V.int))->ns.Perm ks->ns.Pairwise (·<=·)->Q (.ref l) H2):Pd [.ref p] H Q:=
 ⟨p,ks,kvs,rfl,e,hk,β,λl ns hl hp hw=>h l ns _ hl (bK hl) aD hp hw⟩
end
noncomputable def RS (K:ak) (G:dt) (Wo:XW) (ts:TS) (D:Ends):XW:=fun σ C dx H=>∃c,C= .ref c/\((VX K c (.ref G)=ag true/\ts D σ H)∨(VX K c (.ref G)=ag false/\Wo σ C dx H))
noncomputable def Sg (K:ak) (G:dt) (Wo:XW) (tb:XW->TS) (ts:TS):TS:=λD σ H=>tb (RS K G Wo ts D) D σ H
section
variable {X:Cx} {Wo:XW} {G:dt} {g:mu} {gp hp pos:Pos} {b₀:Xs} {body suite:ee Xs} {tb:XW->TS} {ts:TS}
theorem QR (ow:Own X) (hx:Thr X Wo) (δ:tT X.K G) (ζ:Gl X g) (hm:X.mg g=ag (.ref G))
  (hb:∀pins W,PSs ((X.pin pins).thr W) body (tb W)) (hs:∀pins e,PSs (X.mark pins e) (b₀::suite) ts) (Z:(g == ("__debug__":mu))=false:=by decide):
  PS X (.Try body [.ExceptHandler (ag (.Name g gp)) fy (b₀::suite) hp] [] [] pos) (Sg X.K G Wo tb ts):=by
 intro pins s σ H D I h;have ok:=I.ok;refine wpAny_Try_except (VZ (hb pins _ [] s σ H D (I.toPin.wish _) h) (λY ε q=>?_) λe ε q=>?_)
 ·have ν:=q.unwish;cases Y with
  | next=>obtain⟨σ',H',I',z⟩:=ν;exact hH ⟨σ',H',I'.ofPin ok,z⟩
  | brk=>obtain⟨σ',H',I',z⟩:=ν;exact⟨σ',H',I'.ofPin ok,z⟩
  | cont=>obtain⟨σ',H',I',z⟩:=ν;exact⟨σ',H',I'.ofPin ok,z⟩
  | ret u=>obtain⟨v,σ',H',I',r,z⟩:=ν;exact⟨v,σ',H',I'.ofPin ok,r,z⟩
 ·obtain⟨pins',x,C,dx,T,O,H1,rfl,I1,θ,c,rfl,w⟩:=q;have ξ:=I1.ofPin ok;have g1:=θ.ofPin;refine zX ξ ow g1 λh2 t ι g2=>?_;refine tZ (fr:=fy) ι g2 fun τ J3 α=>?_;obtain⟨⟨ρ,vs,he,β,η,hd,hsz,hT⟩,fe,ft⟩:=id α;refine al8 (ak2 (jS (X:=X.mark pins (.ref x)) J3.toMark ζ hm ?_ Z)) (by intro q;cases q);rcases w with ⟨L,w⟩ | ⟨L,w⟩
  ·refine oA J3.kIn δ he β L (codeAny_handlers_suite ?_);refine tZ (fr:=fy) J3 α fun ο J4 γ=>?_;refine VZ (hs pins (.ref x) [] _ _ _ _ J4.toMark w) (λY π q=>?_) λ_ _ z=>y' z;cases Y with
   | next=>obtain⟨σ',H',I',z⟩:=q;exact⟨σ',H',I'.ofMark ok,z⟩
   | brk=>obtain⟨σ',H',I',z⟩:=q;exact⟨σ',H',I'.ofMark ok,z⟩
   | cont=>obtain⟨σ',H',I',z⟩:=q;exact⟨σ',H',I'.ofMark ok,z⟩
   | ret u=>obtain⟨v,σ',H',I',r,z⟩:=q;exact⟨v,σ',H',I'.ofMark ok,r,z⟩
  ·refine oA J3.kIn δ he β L (an0 ?_);unfold an2;refine ec (Wi he hd hT.1 ?_);rw[n' @F];refine ec (tZ J3 α fun ο J4 γ=>?_);exact ak7 (hx _ _ ⟨pins,x,.ref c,dx,_,O,H1,rfl,J4,γ,w⟩)
end
section
variable {K:ak} {G:dt} {Wo:XW} {tb:XW->TS} {ts:TS} {D:Ends} {σ:St} {H:Hp}
theorem SC (h:tb (RS K G Wo ts D) D σ H):Sg K G Wo tb ts D σ H:=h
theorem JZ {c:dt} {dx:F'} (m:VX K c (.ref G)=ag true) (h:ts D σ H):RS K G Wo ts D σ (.ref c) dx H:=⟨c,rfl,.inl ⟨m,h⟩⟩
end
section
variable {X:Cx} {W:XW} {k:Nat} {f C:dt} {fd:hE} {ps:B1} {sp:Sp} {dvs:ee V} {ds:CD} {x m:mu} {p pos apos:Pos} {e o:L'} {es:ee L'} {ta:TE} {t:TA}
theorem J7 {pins:CB} {σ:St} {H:Hp} {s:hJ} {Q:VK} {us:CD} {vs:ee V} (M:Mk X.K C f) (F:FnOk X.prog X.w X.K X.mg X.base (CX1 X.prog X.w) k f fd ps sp) (hr:Room (k + 1) X.A) (hb:mx X.K fd ps ds) (hd:Vals dvs ds)
  (β:Thr X W) (I:Inv X pins σ H s) (r:Vals vs us)
  (h:∀x dx,H x=fy->H dx=fy->dx≠x->sp (.ref x::(vs++dvs)) (upd (upd H dx (.own x)) x (.ins C dx [])) (λv H2=>v= .non/\Q (.ref x) H2) (W σ)):
  kn (px X.prog X.w) X.A (call (.ref C) us) (EP X pins σ Q) X.xe s:=by
 have O:=h (s.heap.objs.size + 1) s.heap.objs.size (I.hok.fresh (YO _)) (I.hok.fresh (ov _)) (z3 (WH _));have I2:=Inv.made (C:=C) I;have η:Vals (V.ref (s.heap.objs.size + 1)::(vs++dvs)) (sb (s.heap.objs.size + 1)::(us++ds)):= .cons rfl (r.append hd)
 have hl:(sb (s.heap.objs.size + 1)::us++ds).length=ps.length:=by
  have e:=η.length;rw[F.len _ _ _ _ O] at e;exact e.symm
 refine Yf (Fv (f:=f) I.kIn M.makes M.init (XN.mp M.fn) (X' (F.run _ X.stack _ _ ⟨sb (s.heap.objs.size + 1)::us,[]⟩ (sb (s.heap.objs.size + 1)::(us++ds)) _ _ (W σ) (hr.make C us [])
  (I2.env0.make C us []) (hb _ (sb (s.heap.objs.size + 1)::us) I2.kIn hl) η O) λr s' L=>?_))
 cases r with
 | error e=>exact I2.afterX β L
 | ok Y=>
   cases Y with
   | ret u=>
     obtain⟨v,H',γ,Z,ev,α⟩:=I2.after L;subst ev;exact⟨Z,⟨V.ref (s.heap.objs.size + 1),H',γ,rfl,α⟩⟩
   | next=>exact y' L
   | brk=>exact y' L
   | cont=>exact y' L
noncomputable def OZ (C:dt) (sp:Sp) (dvs:ee V) (W:XW) (t:TA):TE:=fun σ H Q=>t σ H λvs H1=>∀x dx,H1 x=fy->H1 dx=fy->dx≠x->sp (.ref x::(vs++dvs)) (upd (upd H1 dx (.own x)) x (.ins C dx [])) (λv H2=>v= .non/\Q (.ref x) H2) (W σ)
theorem zK (M:Mk X.K C f) (F:FnOk X.prog X.w X.K X.mg X.base (CX1 X.prog X.w) k f fd ps sp) (hr:Room (k + 1) X.A) (Y:Gl X x) (hm:X.mg x=ag (.ref C)) (hb:mx X.K fd ps ds) (hd:Vals dvs ds) (hx:Thr X W)
  (ha:PA X (e::es) t) (O:(x == ("__debug__":mu))=false:=by decide) (he:ll (e::es) X.env=(false,eval e X.env)::ll es X.env:=by rfl) (L:(backTo pos (ll es X.env)).any (·.1)=false:=by rfl):
  PE X (.Call (.Name x p) (e::es) [] pos) (OZ C sp dvs W t):=by
 intro pins s σ H Q I h;refine WN (jS I Y hm ?_ O);refine Wq (h₀:=X.base) I.ok.mod.kin M.kp (thn (ha pos pins s σ H _ I h) λus Z ⟨vs,H1,I1,r,q⟩=>⟨I1.kIn,?_⟩) he L;exact J7 M F hr hb hd hx I1 r q
end
open AutoSeq1 (wpAny_loadPart')
section
variable {prog:oT} {w:w7} {A:z5} {E:C'} {s:hJ}
theorem sP {L t:dt} {i:Nat} {items:CN} {x:ic} {Q:C'} (π:s.heap.IsTupleIter L t i) (ht:s.heap.IsTuple t items) (hx:items[i]? =ag x)
  (α:∀h',h'.IsTupleIter L t (i + 1)->YH L s.heap h'->Q x {s with heap:=h'}):
  kn (px prog w) A (X0 (.ref L)) Q E s:=by
 obtain⟨o,ho,Z,hd⟩:=id π;obtain⟨ο,O,_,β,Y⟩:=ht;unfold X0
 refine ec (YS (name:=YL "__next__") π.typeIs F.slot_tuple_iterator_next
  (YR F.slot_tuple_iterator_next π.typeIs F.entry_tuple_iterator_next ?_ (F.args_tuple_iterator_next_1 _)))
 show kn _ _ (field (.ref L) 0 >>=_) _ _ s;refine ec (Wi ho hd (x:= .ref t) rfl ?_);show kn _ _ (if (sb t == Wy)=true then _ else _) _ _ s;rw[n' (show ¬((sb t == Wy)=true) from iv)];show kn _ _ (field (.ref L) 1 >>=_) _ _ s;refine ec (Wi ho hd (x:= .int i 0) rfl ?_);show kn _ _ (seqItems? (.ref t) >>=_) _ _ s;refine ec (Zl O Y ?_);simp only[pY,hx];refine ec (Y0 ho hd @F (hH ⟨x,rfl,hH (α _ ?_ (aa7 ..))⟩))
 exact⟨_,Xf _ ho (ag7 (Zo hd _)),(ak3 ..).trans Z,by
  rw[Zo hd];simp[rawInt]⟩
theorem uz {L t:dt} {i:Nat} {items:CN} {Q:C'} (ζ:A.handled=fy) (π:s.heap.IsTupleIter L t i) (ht:s.heap.IsTuple t items) (hx:items[i]? =fy)
  (Z:∀h' e,Heap.ExtBut L s.heap h'->(∃o,h'.get? e=ag o/\o.cls= .type "StopIteration")->E (.ref e) {s with heap:=h'}):
  kn (px prog w) A (X0 (.ref L)) Q E s:=by
 obtain⟨o,ho,β,hd⟩:=id π;obtain⟨ο,O,_,α,Y⟩:=ht;unfold X0
 refine ec (YS (name:=YL "__next__") π.typeIs F.slot_tuple_iterator_next
  (YR F.slot_tuple_iterator_next π.typeIs F.entry_tuple_iterator_next ?_ (F.args_tuple_iterator_next_1 _)))
 show kn _ _ (field (.ref L) 0 >>=_) _ _ s;refine ec (Wi ho hd (x:= .ref t) rfl ?_);show kn _ _ (if (sb t == Wy)=true then _ else _) _ _ s;rw[n' (show ¬((sb t == Wy)=true) from iv)];show kn _ _ (field (.ref L) 1 >>=_) _ _ s;refine ec (Wi ho hd (x:= .int i 0) rfl ?_);show kn _ _ (seqItems? (.ref t) >>=_) _ _ s;refine ec (Zl O Y ?_);simp only[pY,hx];refine ec (wpAny_rule (ec (Y0 ho hd @F ?_)));show kn _ _ (newExc (.type "StopIteration") [] >>=_) _ _ _;refine ec ?_;simp only[newExc,newTuple];refine ec (WC ?_ (by size_fits));refine ec (m:=firstArgMember _ _) (ac5 (a:=Wy) (by first | rfl | (simp only[firstArgMember];rfl)) ?_);refine WC ?_ (by size_fits);simp only[raiseNew];refine ec (wpAny_handled ?_)
 first | rw[show A.in1.handled=fy from ζ] | rw[ζ]
 refine ec (hH (ak7 ?_));exact Z _ _ (((aa7 ..).extBut.push _).push _) ⟨_,kv _ rfl,rfl⟩
end
theorem Draws.tuple {prog:oT} {w:w7} {A:z5} (ζ:A.handled=fy) (L l:dt) (O:l≠L) (items:CN):
  Draws prog w A L [L,l] items.size (λi v=>items[i]? =ag v) (λi h=>h.IsTupleIter L l i/\h.IsTuple l items) where
 live:=λ_ _ st=>let ⟨o,ho,_⟩:=st.1;⟨o,ho⟩
 frame:=λ_ _ _ st hk=>⟨let ⟨o,ho,r⟩:=st.1;⟨o,hk L @F o ho,r⟩,let ⟨o,ho,r⟩:=st.2;⟨o,hk l @F o ho,r⟩⟩
 item:=λi s Q E hi st Z=>by
  refine sP st.1 st.2 (x:=items[i]) (by simp[hi]) λh' Y ν=>?_;exact Z _ h' s.toks (by simp[hi]) ⟨Y,st.2.extBut ν.extBut O⟩ ν
 done:=λs Q E st α=>uz ζ st.1 st.2 @F α
theorem oM (l:dt) (items:CN) (n:Nat) (L:F') (Y:Cr):
  Meets (Builtin.«enumerate.__new__» ⟨[.type "enumerate",.ref l],[]⟩) (λ_ R s=>s.heap.get? l=ag {cls:= .type "tuple",dict:=L,data:= .seq items n,slots:=Y}/\
   R (.ok (.ret (.ref (s.heap.push {cls:= .type "tuple_iterator",data:= .fields #[.ref l,.int 0 0]}).objs.size)))
     {s with heap:=(s.heap.push {cls:= .type "tuple_iterator",data:= .fields #[.ref l,.int 0 0]}).push {cls:= .type "enumerate",data:= .fields #[.none,.bool false,.ref s.heap.objs.size,rawInt 0,.none,.none]}}):=
 .of_wp λprog w A R s h=>by
  obtain⟨hp,g,d,tk,os⟩:=s;obtain⟨hl,h⟩:=h;have O:=sub_enumerate;have β:Heap.IsTuple (Shared.heap ⟨hp,g,d,tk,os⟩) l items:=⟨_,hl,rfl,n,rfl⟩
  wp_walk using Yt hl
  refine wpAny_stack_any λst=>hH ?_;split
  ·rename_i c _ _ _ _ _;cases(c == Yl "enumerate")
   ·wp_walk using Yt hl,XR β
    exact⟨_,rfl,h⟩
   ·wp_walk using Yt hl,XR β
    exact⟨_,rfl,h⟩
  ·wp_walk using Yt hl,XR β
   exact⟨_,rfl,h⟩
theorem oR {prog:oT} {w:w7} {A:z5} {E:C'} {s:hJ} {l:dt} {items:CN} {Q:C'} (β:s.heap.IsTuple l items)
  (h:∀h',IsEnum h' (s.heap.objs.size + 1) s.heap.objs.size 0 .none->h'.IsTupleIter s.heap.objs.size l 0->h'.objs.size=s.heap.objs.size + 2->
   (∀b o,s.heap.get? b=ag o->h'.get? b=ag o)->Q (.ref (s.heap.objs.size + 1)) {s with heap:=h'}):
  kn (px prog w) A (call (.type "enumerate") [.ref l]) Q E s:=by
 obtain⟨⟨c,O,Z,Y⟩,hl,L,n,hd⟩:=β;replace L:c= .type "tuple":=L;replace hd:Z= .seq items n:=hd;subst L hd
 refine callType_new F.called_enumerate @C (F.typeCall_enumerate_1 _) (F.newCall_enumerate_1 _) (λobj=>F.args_object_init_2 obj _) F.entry_enumerate_new
  (oM l items n O Y) ⟨hl,?_⟩
 have hz:(s.heap.push {cls:= .type "tuple_iterator",data:= .fields #[.ref l,.int 0 0]}).objs.size=s.heap.objs.size + 1:=XM ..
 show _/\_;rw[hz]
 have he:IsEnum ((s.heap.push {cls:= .type "tuple_iterator",data:= .fields #[.ref l,.int 0 0]}).push
   {cls:= .type "enumerate",data:= .fields #[.none,.bool false,.ref s.heap.objs.size,rawInt 0,.none,.none]}) (s.heap.objs.size + 1) s.heap.objs.size 0 .none:=by
  have:=kv (s.heap.push {cls:= .type "tuple_iterator",data:= .fields #[.ref l,.int 0 0]})
   (o:={cls:= .type "enumerate",data:= .fields #[.none,.bool false,.ref s.heap.objs.size,rawInt 0,.none,.none]}) rfl
  rw[hz] at this;exact this
 refine⟨⟨_,he,rfl⟩,h _ he ⟨_,eH _ (kv _ rfl),rfl,rfl⟩ (by rw[XM,hz]) λb o x=>eH _ (eH _ x)⟩
noncomputable def Itet (K:ak) (a:dt):It:=
 ⟨λi H=>∃xs x,SqT K H a xs/\xs[i]? =ag x,λi H x H'=>∃p v,H p=fy/\x= .ref p/\H'=upd H p (.tup [.int i,v])/\∀xs,SqT K H a xs->xs[i]? =ag v,λi H=>∃xs,SqT K H a xs/\xs.length=i⟩
theorem F6 {P:oT} {w:w7} {K:ak} {γ:ee L'} {k:Nat} {pos:Pos} (a e Y:dt) (α:e≠Y):
  Turn P w K (.Tuple γ k pos) (Itet K a) [e,Y] e (λi h=>(∃O,IsEnum h e Y i O)/\h.IsTupleIter Y a i) where
 mem:=by simp
 obj:=λi h st b hb=>by
  obtain⟨⟨O,he⟩,⟨o,ho,υ,hd⟩⟩:=st;rcases xY.mp hb with z | z
  ·subst z;exact⟨_,he,λv z=>by cases z⟩
  ·rw[gn.mp z];exact⟨o,ho,λv z=>by rw[hd] at z;cases z⟩
 keep:=λi h h' st k=>⟨let ⟨O,he⟩:=st.1;⟨O,k e @F _ he⟩,(let ⟨o,ho,r⟩:=st.2;⟨o,k Y @F o ho,r⟩)⟩
 item:=by
  intro X hP hw ρ υ i pins s σ H E I hf st χ;subst hP hw ρ;obtain⟨xs,x,τ,π⟩:=χ;obtain⟨its,ο,p,hz⟩:=I.tuple τ;have δ:s.heap.IsTuple a its.toArray:=p;obtain⟨⟨O,he⟩,hl⟩:=st
  have θ:a≠Y:=λz=>by
   obtain⟨o,ho,ε,_⟩:=hl;obtain⟨o',ζ,L,_⟩:=δ;rw[z,ho] at ζ;cases ζ;rw[ε] at L;exact hB L @C
  have ι:a≠e:=λz=>by
   obtain⟨o',ζ,L,_⟩:=δ;rw[z,he] at ζ;cases ζ;exact hB (show Yl "enumerate"= .type "tuple" from L) @C
  have W:=Xd (prog:=X.prog) (w:=X.w) (A:=X.A) (Draws.tuple (A:=X.A.in1) (I.ok.hd υ) Y a θ its.toArray) e α (by simp[α,Wf ι]) @F;have hi:i < its.toArray.size:=by have:=ο.length;have:=(b'.mp π).1;simp;omega
  refine W.item i s _ _ hi ⟨⟨O,he⟩,hl,δ⟩ λT a4 h' tk a0 hT ν β hk=>⟨_,rfl,W.go γ k pos i T _ _ _ β λa3 Z ξ=>?_⟩;obtain⟨t,φ,η,rfl⟩:=a0;have ω:=W.apart i T h' β
  have ru:RelV x φ:=by
   obtain⟨u,hu,r⟩:=ο.get π;have ψ:its[i]? =ag φ:=by simpa using η
   rw[hu] at ψ;cases ψ;exact r
  have kk:∀b u,b∉[e,Y]->s.heap.get? b=ag u->a3.get? b=ag u:=λb u hb q=>ξ b u hb (hk b u hb q);have fr:H T=none:=I.hok.fresh hT;refine⟨.ref T,upd H T (.tup [.int i,x]),I.laidCh (t':=tk) kk hT ⟨E4,[.int i t,φ],.cons ⟨t,rfl⟩ (.cons ru .nil),?_⟩ hf,rfl,⟨T,x,fr,rfl,rfl,λys hy=>by rw[I.tuple_inj hy τ];exact π⟩,⟨Z.1,Z.2.1⟩,λb hb=>?_⟩
  ·obtain⟨o,ho,r⟩:=ν;exact⟨o,ξ T o ω ho,r⟩
  ·have fb:=(hf b hb);rw[aE (λz=>?_)]
   ·exact fb.1
   ·have lt:b < s.heap.objs.size:=by
     rcases xY.mp hb with z | z
     ·subst z;exact hF he
     ·rw[gn.mp z];obtain⟨o,ho,_⟩:=hl;exact hF ho
    rw[z] at lt;exact hB (hA lt hT) (WO _)
 done:=by
  intro X hP hw ρ υ i pins s σ H E I hf st χ;subst hP hw ρ;obtain⟨xs,τ,π⟩:=χ;obtain⟨its,ο,p,hz⟩:=I.tuple τ;have δ:s.heap.IsTuple a its.toArray:=p;obtain⟨⟨O,he⟩,hl⟩:=st
  have θ:a≠Y:=λz=>by
   obtain⟨o,ho,ε,_⟩:=hl;obtain⟨o',ζ,L,_⟩:=δ;rw[z,ho] at ζ;cases ζ;rw[ε] at L;exact hB L @C
  have ι:a≠e:=λz=>by
   obtain⟨o',ζ,L,_⟩:=δ;rw[z,he] at ζ;cases ζ;exact hB (show Yl "enumerate"= .type "tuple" from L) @C
  have W:=Xd (prog:=X.prog) (w:=X.w) (A:=X.A) (Draws.tuple (A:=X.A.in1) (I.ok.hd υ) Y a θ its.toArray) e α (by simp[α,Wf ι]) @F;have hn:its.toArray.size=i:=by have:=ο.length;simp;omega
  subst hn;exact W.done s _ _ ⟨⟨O,he⟩,hl,δ⟩ λh' tk hk=>⟨rfl,I.turnedCh hk hf⟩
 self:=λ_ _ _ _ _ st h=>let ⟨_,he⟩:=st.1;WY he h
noncomputable def Pq (K:ak) (tl:TE):TI:=fun σ H R=>tl σ H λx H1=>∃a,x= .ref a/\(((∃xs,SqL K H1 a xs)/\R (Ite K a) H1)∨((∃xs,SqT K H1 a xs)/\R (Itet K a) H1))
section
variable {X:Cx} {K:ak}
theorem qT {l:L'} {tl:TE} {Y:ee L'} {k:Nat} {tpos p pos:Pos} (h:X.K=K) (δ:Gl X "enumerate") (hm:X.mg "enumerate"=fy) (hl:PE X l tl) (hs:ll [l] X.env=[(false,eval l X.env)]:=by rfl):
  PI X (.Tuple Y k tpos) (.Call (.Name "enumerate" p) [l] [] pos) (Pq K tl):=by
 subst h;intro pins s σ H R I h;refine ai1 (nN I δ hm boot_enumerate (Tn (thn (aa hl ae hs pos pins s σ H (λvs H1=>match vs with | [x]=>∃a,x= .ref a/\(((∃xs,SqL X.K H1 a xs)/\R (Ite X.K a) H1)∨((∃xs,SqT X.K H1 a xs)/\R (Itet X.K a) H1)) | _=>False) I h) λus L ⟨vs,H1,I1,Z,O⟩=>?_) hs rfl))
 match vs,Z,O with
 | [x],Z,O=>
 obtain⟨u,rfl,γ⟩:=Z.one;obtain⟨a,rfl,O⟩:=O;cases γ
 have fin:∀b∈[L.heap.objs.size + 1,L.heap.objs.size],FpOk X pins H1 b:=λb hb=>by
  have θ:L.heap.objs.size<=b:=(xY.mp hb).elim (λz=>by rw[z];exact YO _) (λz=>by rw[gn.mp z];exact ov _);exact I1.fpOk θ (I1.hok.fresh θ)
 rcases O with ⟨⟨xs,α⟩,q⟩ | ⟨⟨xs,α⟩,q⟩
 ·obtain⟨its,β,pl,hz⟩:=I1.list α;refine al9 pl.isList λh' he π hsz hk=>WY he ?_;exact⟨L.heap.objs.size + 1,[L.heap.objs.size + 1,L.heap.objs.size],_,_,H1,rfl,I1.kept (t':=L.toks) hk,yS a _ _ (Xz (WH _)),⟨⟨_,he⟩,π⟩,fin,q⟩
 ·obtain⟨its,β,pl,hz⟩:=I1.tuple α;refine oR (show L.heap.IsTuple a its.toArray from pl) λh' he π hsz hk=>WY he ?_;exact⟨L.heap.objs.size + 1,[L.heap.objs.size + 1,L.heap.objs.size],_,_,H1,rfl,I1.kept (t':=L.toks) hk,F6 a _ _ (Xz (WH _)),⟨⟨_,he⟩,π⟩,fin,q⟩
end
theorem HS {K:ak} {n:Nat} {fx:B'} {g:TG} {tc:TT} {te:TE} {σ:St} {H1:Hp} {D:dt} {Q:Hp->Prop} {a:dt} {xs:ee V} (O:Nat->ee V->Hp->Prop) (h0:O 0 [] (upd H1 D (.lst []))) (hl:∀i ys H,i<=xs.length->O i ys H->SqL K H a xs)
  (hs:∀i x ys H p H',xs[i]? =ag x->O i ys H->H p=fy->Same H H'->H' p=ag (.tup [.int i,x])->g (.ref p) (eR n fx σ) H' λL γ=>tc L γ λb β=>if b=true then te L β λv α=>α D=ag (.lst ys)/\ys.length < ix/\O (i + 1) (ys++[v]) (upd α D (.lst (ys++[v]))) else O (i + 1) ys β)
  (hd:∀ys H,O xs.length ys H->Q H):
  ∃W:Nat->Nat->ee V->Hp->Prop,(∃m,W 0 m [] (upd H1 D (.lst [])))/\∀i m ys H2,W i m ys H2->((Ite K a).stop i H2/\Q H2)∨
    ((Ite K a).go i H2/\∃N:ee V->Hp->Prop,(∀Y H',N Y H'->∃ω,ω < m/\W (i + 1) ω Y H')/\∀x δ,(Ite K a).yld i H2 x δ->g x (eR n fx σ) δ λL γ=>tc L γ λb β=>
      if b=true then te L β λv α=>α D=ag (.lst ys)/\ys.length < ix/\N (ys++[v]) (upd α D (.lst (ys++[v]))) else N ys β):=by
 refine⟨λi m ys H=>m=xs.length - i/\i<=xs.length/\O i ys H,⟨xs.length,@F,VY _,h0⟩,?_⟩;rintro i m ys H ⟨rfl,hi,p⟩;have q:=hl i ys H hi p;by_cases Z:i < xs.length
 ·refine .inr ⟨⟨xs,xs[i],q,by simp[Z]⟩,O (i + 1),λY H' ε=>⟨xs.length - (i + 1),by omega,rfl,Z,ε⟩,λx H' y=>?_⟩;obtain⟨r,v,f,η,ζ,y⟩:=y;subst η ζ;exact hs i v ys H r _ (y xs q) p f (bK f) aD
 ·have e:i=xs.length:=by omega
  subst e;exact .inl ⟨⟨xs,q,rfl⟩,hd ys H p⟩
theorem tP {K:ak} {n:Nat} {fx:B'} {g:TG} {tc:TT} {te:TE} {σ:St} {H1:Hp} {D:dt} {Q:Hp->Prop} {a:dt} {xs:ee V} (O:Nat->ee V->Hp->Prop) (h0:O 0 [] (upd H1 D (.lst []))) (hl:∀i ys H,i<=xs.length->O i ys H->SqT K H a xs)
  (hs:∀i x ys H p H',xs[i]? =ag x->O i ys H->H p=fy->Same H H'->H' p=ag (.tup [.int i,x])->g (.ref p) (eR n fx σ) H' λL γ=>tc L γ λb β=>if b=true then te L β λv α=>α D=ag (.lst ys)/\ys.length < ix/\O (i + 1) (ys++[v]) (upd α D (.lst (ys++[v]))) else O (i + 1) ys β)
  (hd:∀ys H,O xs.length ys H->Q H):
  ∃W:Nat->Nat->ee V->Hp->Prop,(∃m,W 0 m [] (upd H1 D (.lst [])))/\∀i m ys H2,W i m ys H2->((Itet K a).stop i H2/\Q H2)∨
    ((Itet K a).go i H2/\∃N:ee V->Hp->Prop,(∀Y H',N Y H'->∃ω,ω < m/\W (i + 1) ω Y H')/\∀x δ,(Itet K a).yld i H2 x δ->g x (eR n fx σ) δ λL γ=>tc L γ λb β=>
      if b=true then te L β λv α=>α D=ag (.lst ys)/\ys.length < ix/\N (ys++[v]) (upd α D (.lst (ys++[v]))) else N ys β):=by
 refine⟨λi m ys H=>m=xs.length - i/\i<=xs.length/\O i ys H,⟨xs.length,@F,VY _,h0⟩,?_⟩;rintro i m ys H ⟨rfl,hi,p⟩;have q:=hl i ys H hi p;by_cases Z:i < xs.length
 ·refine .inr ⟨⟨xs,xs[i],q,by simp[Z]⟩,O (i + 1),λY H' ε=>⟨xs.length - (i + 1),by omega,rfl,Z,ε⟩,λx H' y=>?_⟩;obtain⟨r,v,f,η,ζ,y⟩:=y;subst η ζ;exact hs i v ys H r _ (y xs q) p f (bK f) aD
 ·have e:i=xs.length:=by omega
  subst e;exact .inl ⟨⟨xs,q,rfl⟩,hd ys H p⟩
section
variable {σ:St} {H:Hp} {te:TE} {R:It->Hp->Prop}
theorem cb {K:ak} (h:te σ H λx H1=>∃a,x= .ref a/\(((∃xs,SqL K H1 a xs)/\R (Ite K a) H1)∨((∃xs,SqT K H1 a xs)/\R (Itet K a) H1))):Pq K te σ H R:=h
end
namespace ZP
noncomputable abbrev Busy (h:N') (z TI TO T:dt) (Y:V6):Prop:=h.get? z=ag {cls:= .type "zip",data:= .fields #[rawInt T,.bool Y,.bool false,.ref TI,.ref TO]}
section
variable {prog:oT} {w:w7} {A:z5} {E:C'} {s:hJ}
structure ZGot (h:N') (lo:Nat) (xs ys:CN) (as:Dk):Prop where
 rise:as.Pairwise (· < ·)
 above:∀a∈as,lo<=a/\a < h.objs.size
 pairs:∀(j:Nat) (a:dt),as[j]? =ag a->∃x y,xs[j]? =ag x/\ys[j]? =ag y/\h.IsTuple a #[x,y]
structure ZSt (h:N') (z TI TO i1 i2 l1 l2:dt) (lo:Nat) (xs ys:CN) (i:Nat) (as:Dk):Prop where
 zp:(i=0/\IsZip h z TI TO .none)∨∃T fl,Busy h z TI TO T fl/\as[0]? =ag T
 hI:IsPair h TI (.ref i1) (.ref i2)
 hO:∃a b,IsPair h TO a b
 h1:h.IsListIter i1 l1 i
 h2:h.IsListIter i2 l2 i
 hl1:h.IsList l1 xs
 hl2:h.IsList l2 ys
 len:as.length=i
 got:ZGot h lo xs ys as
structure Und (z TI TO i1 i2 l1 l2 S:dt) (lo:Nat):Prop where
 ap:ZipApart z TI TO i1 i2 l1 l2
 Sz:S≠z
 STI:S≠TI
 STO:S≠TO
 Si1:S≠i1
 Si2:S≠i2
 Sl1:S≠l1
 Sl2:S≠l2
 z:z < lo
 TO:TO < lo
 i1:i1 < lo
 i2:i2 < lo
 S:S < lo
structure New (h:N') (z TI TO i1 i2 l1 l2:dt) (xs ys:CN):Prop where
 ap:ZipApart z TI TO i1 i2 l1 l2
 hz:IsZip h z TI TO .none
 hI:IsPair h TI (.ref i1) (.ref i2)
 hO:∃a b,IsPair h TO a b
 h1:h.IsListIter i1 l1 0
 h2:h.IsListIter i2 l2 0
 hl1:h.IsList l1 xs
 hl2:h.IsList l2 ys
end
end ZP
open PySem PySem.Spec PyProof.Rows
structure FunD (K:ak) (x qual:mu) (st:Xs) (f:dt) (fd:hE) (dv:ic):Prop where
 ex:∃(oc:ic) (od:F') (T:dt) (kV doc pm:ic) (an:F') (cdv ct:ic) (osl:Cr) (tc:ic) (td:F') (n:Nat) (tsl:Cr),
  fd=Wg x qual (iG st) (fE st) (ah st) (.ref T) kV doc pm an cdv ct/\K.lookup f=ag ⟨oc,od,.func fd,osl⟩/\Xg K cdv qual=true/\K.lookup T=ag ⟨tc,td,.seq #[dv] n,tsl⟩
 kp:W3 K (.ref f)=true
section
variable {P:oT} {w:w7} {K:ak} {mg:CM} {base:N'}
theorem FunD.okX {x L:mu} {st:Xs} {f:dt} {fd:hE} {dv:ic} {N ps:B1} {k:Nat} {sp:Sp} (F:FunD K x L st f fd dv) (S:au N ps (ah st)) (len:∀vs H Q E,sp vs H Q E->vs.length=ps.length)
  (Y:∀(O:ic) (A:z5) (outer:ee Env) (s:hJ) (H:Hp) (vs:ee V) (Q:VK) (E:XK),Room k (A.deeper (envOfC L (ah st) s.heap.objs.size f O))->sp vs H Q E->
   ∃t,PSs ((cxOf (CX1 P w) P w K mg base N L (ah st) f O A outer s H E).thr λ_=>E) (fE st) t/\t {nx:=λ_ H'=>Q .non H',rt:=Q} (start N vs) H):FnOk P w K mg base (CX1 P w) (k + 1) f fd ps sp:=by
 obtain⟨ζ,od,T,kV,υ,ε,an,O,ct,γ,tc,td,n,β,rfl,lk,α,_⟩:=F.ex;refine RC lk α S len λA outer s H vs Q E δ Z=>?_;obtain⟨t,h,q⟩:=Y O A outer s H vs Q E δ Z;exact⟨t,h.thr Fy,q⟩
theorem FunD.binds {x L:mu} {st:Xs} {f:dt} {fd:hE} {dv:ic} {ps:B1} {ds:CD} (F:FunD K x L st f fd dv)
  (h:∀(T:dt) (kV υ Y:ic) (an:F') (O ct:ic) (us:CD),(us++ds).length=ps.length->∃k:pa CN->Sem J2,bindArgs (Wg x L (iG st) (fE st) (ah st) (.ref T) kV υ Y an O ct) ⟨us,[]⟩=(seqItems? (.ref T) >>=k)/\k (ag #[dv])=pure (ps.zip (us++ds))):mx K fd ps ds:=by
 obtain⟨ζ,od,T,kV,υ,Y,an,O,ct,β,tc,td,n,α,rfl,lk,γ,Z⟩:=F.ex;intro s us ρ hl;obtain⟨k,ε,δ⟩:=h T kV υ Y an O ct us hl;exact BindsTo.of_defaults (T:=T) rfl (ρ T _ Z) rfl ε δ
theorem Ru {x L:mu} {st:Xs} {f T:dt} {γ tc dv:ic} {od an td:F'} {α Y:Cr} {n:Nat} {kV υ β O ct:ic} (l:K.lookup f=ag ⟨γ,od,.func (Wg x L (iG st) (fE st) (ah st) (.ref T) kV υ β an O ct),α⟩)
  (Z:K.lookup T=ag ⟨tc,td,.seq #[dv] n,Y⟩) (c:Xg K O L=true) (k:W3 K (.ref f)=true):FunD K x L st f (Wg x L (iG st) (fE st) (ah st) (.ref T) kV υ β an O ct) dv:=⟨⟨γ,od,T,kV,υ,β,an,O,ct,α,tc,td,n,Y,rfl,l,c,Z⟩,k⟩
end
section
variable {σ:St} {H:Hp} {Q:VK} {te:TE}
def MK (C:dt) (m:mu) (sp:Sp) (dvs:ee V) (W:XW) (tr:TA) (σ:St) (Q:VK) (x:V) (H:Hp):Prop:=∃a dx fs,x= .ref a/\H a=ag (.ins C dx fs)/\fs.lookup m=fy/\tr σ H λvs H2=>sp (x::(vs++dvs)) H2 Q (W σ)
theorem dD {C:dt} {m:mu} {sp:Sp} {dvs:ee V} {W:XW} {tr:TA} (h:te σ H (MK C m sp dvs W tr σ Q)):OY C m sp dvs W te tr σ H Q:=h
theorem cO {C dx p:dt} {m:mu} {fs:ee (mu×V)} {sp:Sp} {dvs:ee V} {W:XW} {tr:TA} (e:H p=ag (.ins C dx fs)) (l:fs.lookup m=fy) (h:tr σ H λvs H2=>sp (.ref p::(vs++dvs)) H2 Q (W σ)):MK C m sp dvs W tr σ Q (.ref p) H:=⟨p,dx,fs,rfl,e,l,h⟩
end
noncomputable def Itzp (K:ak) (a b:dt):It:=
 ⟨λi H=>∃xs ys x y,SqL K H a xs/\SqL K H b ys/\xs[i]? =ag x/\ys[i]? =ag y,
  λi H x H'=>∃p u v,H p=fy/\x= .ref p/\H'=upd H p (.tup [u,v])/\(∀xs,SqL K H a xs->xs[i]? =ag u)/\∀ys,SqL K H b ys->ys[i]? =ag v,
  λi H=>∃xs ys,SqL K H a xs/\SqL K H b ys/\xs.length=ys.length/\xs.length=i⟩
theorem Na {P:oT} {w:w7} {K:ak} {δ:ee L'} {k:Nat} {pos:Pos} (a b z TI TO i1 i2:dt) (D:ZipApart z TI TO i1 i2 a b):
  Turn P w K (.Tuple δ k pos) (Itzp K a b) [z,TI,TO,i1,i2] z (λi h=>IsZip h z TI TO .none/\IsPair h TI (.ref i1) (.ref i2)/\(∃u v,IsPair h TO u v)/\h.IsListIter i1 a i/\h.IsListIter i2 b i) where
 mem:=by simp
 obj:=λi h st c hb=>by
  obtain⟨hz,γ,⟨u,v,ξ⟩,⟨o1,ζ,_,a6⟩,⟨o2,φ,_,a5⟩⟩:=st;simp only[xY,XH,Z'] at hb;rcases hb with e | e | e | e | e
  ·rw[e];exact⟨_,hz,λv z=>by cases z⟩
  ·rw[e];exact⟨_,γ,λv z=>by cases z⟩
  ·rw[e];exact⟨_,ξ,λv z=>by cases z⟩
  ·rw[e];exact⟨o1,ζ,λv z=>by rw[a6] at z;cases z⟩
  ·rw[e];exact⟨o2,φ,λv z=>by rw[a5] at z;cases z⟩
 keep:=λi h h' st k=>by
  obtain⟨hz,γ,⟨u,v,ξ⟩,h1,h2⟩:=st;exact⟨k z @F _ hz,k TI @F _ γ,⟨u,v,k TO @F _ ξ⟩,h1.at λo e=>k i1 @F o e,h2.at λo e=>k i2 @F o e⟩
 item:=by
  intro X hP hw ρ hc i pins s σ H E I hf st hg;subst hP hw ρ;obtain⟨xs,ys,x,y,υ,τ,hx,hy⟩:=hg;obtain⟨its,π,ω,a4⟩:=I.list υ;obtain⟨L,ο,pb,a3⟩:=I.list τ;obtain⟨hz,γ,ξ,h1,h2⟩:=st;have W:=an1 (prog:=X.prog) (w:=X.w) (A:=X.A) (I.ok.hd hc) z TI TO i1 i2 a b D its.toArray L.toArray;have c1:i < its.length:=by have:=π.length;have:=(b'.mp hx).1;omega
  have c0:i < L.length:=by have:=ο.length;have:=(b'.mp hy).1;omega
  have a0:∀c∈[z,TI,TO,i1,i2],c < s.heap.objs.size:=λc hb=>by
   obtain⟨u,v,ξ⟩:=ξ;obtain⟨o1,ζ,_⟩:=h1;obtain⟨o2,φ,_⟩:=h2;simp only[xY,XH,Z'] at hb;rcases hb with e | e | e | e | e
   ·rw[e];exact hF hz
   ·rw[e];exact hF γ
   ·rw[e];exact hF ξ
   ·rw[e];exact hF ζ
   ·rw[e];exact hF φ
  refine W.item i s _ _ (by simp;omega) ⟨hz,γ,ξ,h1,h2,ω.isList,pb.isList⟩ λT b6 h' tk a8 hT ι Y hk=>⟨_,rfl,W.go δ k pos i T _ _ _ Y λb3 Z ν=>?_⟩;obtain⟨χ,α,η,β,rfl⟩:=a8;have a7:=W.apart i T h' Y
  have ru:RelV x χ:=by
   obtain⟨u,hu,r⟩:=π.get hx;have ψ:its[i]? =ag χ:=by simpa using η
   rw[hu] at ψ;cases ψ;exact r
  have rv:RelV y α:=by
   obtain⟨u,hu,r⟩:=ο.get hy;have O:L[i]? =ag α:=by simpa using β
   rw[hu] at O;cases O;exact r
  have sub:∀c,c∉[z,TI,TO,i1,i2]->c∉[z,TO,i1,i2]:=λc h θ=>h (by
   simp only[xY,XH,Z'] at θ ⊢;rcases θ with e | e | e | e<;>simp[e])
  have kk:∀c u,c∉[z,TI,TO,i1,i2]->s.heap.get? c=ag u->b3.get? c=ag u:=λc u hb q=>ν c u (sub c hb) (hk c u (sub c hb) q);have fr:H T=none:=I.hok.fresh hT;refine⟨.ref T,upd H T (.tup [x,y]),I.laidCh (t':=tk) kk hT ⟨E4,[χ,α],.cons ru (.cons rv .nil),?_⟩ hf,rfl,⟨T,x,y,fr,rfl,rfl,λzs ε=>by rw[I.list_inj ε υ];exact hx,λzs ε=>by rw[I.list_inj ε τ];exact hy⟩,⟨Z.1,Z.2.1,Z.2.2.1,Z.2.2.2.1,Z.2.2.2.2.1⟩,λc hb=>?_⟩
  ·obtain⟨o,ho,r⟩:=ι;exact⟨o,ν T o a7 ho,r⟩
  ·rw[aE (λe=>?_)]
   ·exact(hf c hb).1
   ·have:=a0 c hb;rw[e] at this;exact hB (hA this hT) (WO _)
 done:=by
  intro X hP hw ρ hc i pins s σ H E I hf st hg;subst hP hw ρ;obtain⟨xs,ys,υ,τ,hl,hn⟩:=hg;obtain⟨its,π,ω,a4⟩:=I.list υ;obtain⟨L,ο,pb,a3⟩:=I.list τ;obtain⟨hz,γ,ξ,h1,h2⟩:=st;have W:=an1 (prog:=X.prog) (w:=X.w) (A:=X.A) (I.ok.hd hc) z TI TO i1 i2 a b D its.toArray L.toArray;have e:min its.toArray.size L.toArray.size=i:=by have:=π.length;have:=ο.length;simp;omega
  rw[e] at W
  have sub:∀c,c∉[z,TI,TO,i1,i2]->c∉[z,TO,i1,i2]:=λc h θ=>h (by
   simp only[xY,XH,Z'] at θ ⊢;rcases θ with e | e | e | e<;>simp[e])
  exact W.done s _ _ ⟨hz,γ,ξ,h1,h2,ω.isList,pb.isList⟩ λh' tk hk=>⟨rfl,I.turnedCh (λc u hb q=>hk c u (sub c hb) q) hf⟩
 self:=λ_ _ _ _ _ st h=>wpAny_pyIter_zip st.1 h
def RQ (K:ak) (R:It->Hp->Prop) (x y:V) (H:Hp):Prop:=∃a b xs ys,x= .ref a/\y= .ref b/\SqL K H a xs/\SqL K H b ys/\xs.length=ys.length/\R (Itzp K a b) H
noncomputable def iZip (K:ak) (L π:TE):TI:=fun σ H R=>L σ H λx H1=>π σ H1 λy H2=>RQ K R x y H2
theorem SV {K:ak} {L π:TE} {σ:St} {H:Hp} {R:It->Hp->Prop} (h:L σ H λx H1=>π σ H1 λy H2=>RQ K R x y H2):iZip K L π σ H R:=h
section
variable {X:Cx} {K:ak}
theorem Tz {Z O:L'} {ι π:TE} {Y:ee L'} {k:Nat} {tpos p pos:Pos} (hK:X.K=K) (g2:Gl X "zip") (n2:X.mg "zip"=fy) (δ:PE X Z ι) (γ:PE X O π)
  (h2:ll [Z,O] X.env=(false,eval Z X.env)::ll [O] X.env:=by rfl) (ν:ll [O] X.env=[(false,eval O X.env)]:=by rfl):
  PI X (.Tuple Y k tpos) (.Call (.Name "zip" p) [Z,O] [] pos) (iZip K ι π):=by
 subst hK;intro pins s σ H R I h;refine ai1 (nN I g2 n2 PyProof.Rows.boot_zip (Tn (thn (aa δ (aa γ ae ν) h2 pos pins s σ H (λvs H1=>match vs with | [x,y]=>RQ X.K R x y H1 | _=>False) I h) λus L ⟨vs,H1,I1,β,ε⟩=>?_) h2 (by rw[ν];rfl)))
 match vs,β,ε with
 | [x,y],β,ε=>
 obtain⟨a,b,xs,ys,ex,ey,sa,χ,hl,q⟩:=ε;subst ex ey;cases β with
 | cons ω η=>
 cases η with
 | cons φ ψ=>
 cases ψ;cases ω;cases φ;obtain⟨its,ra,α,a4⟩:=I1.list sa;obtain⟨a0,rb,pb,a3⟩:=I1.list χ;have τ:a < L.heap.objs.size:=let ⟨o,e,_⟩:=α.isList;hF e
 have lb:b < L.heap.objs.size:=let ⟨o,e,_⟩:=pb.isList;hF e
 have fin:∀c∈[L.heap.objs.size + 4,L.heap.objs.size + 2,L.heap.objs.size + 3,L.heap.objs.size,L.heap.objs.size + 1],FpOk X pins H1 c:=λc hb=>by
  have θ:L.heap.objs.size<=c:=by
   simp only[xY,XH,Z'] at hb;rcases hb with e | e | e | e | e<;>rw[e]<;>omega
  exact I1.fpOk θ (I1.hok.fresh θ)
 refine call_zip_2 α.isList pb.isList λh' ζ υ ο ρ ξ hsz k=>wpAny_pyIter_zip ζ ?_;exact⟨L.heap.objs.size + 4,_,_,_,H1,rfl,I1.kept (t':=L.toks) k,Na a b _ _ _ _ _ (zipApart_new τ lb),⟨ζ,υ,⟨_,_,ο⟩,ρ,ξ⟩,fin,q⟩
end
theorem RA {K:ak} {a b:dt} {xs ys:ee V} {g:TG} {tb:TS} {D:Ends} {σ:St} {H:Hp} (hl:xs.length=ys.length) (L:Nat->St->Hp->Prop) (h0:L 0 σ H) (hq:∀i σ H,i<=xs.length->L i σ H->SqL K H a xs/\SqL K H b ys)
  (hs:∀i x y σ H p H',xs[i]? =ag x->ys[i]? =ag y->L i σ H->H p=fy->Same H H'->H' p=ag (.tup [x,y])->g (.ref p) σ H' fun ξ H2=>tb {D with nx:=L (i + 1),ct:=L (i + 1),bk:=D.nx} ξ H2) (hd:∀σ H,L xs.length σ H->D.nx σ H):
  ∃W:Nat->Nat->St->Hp->Prop,(∃m,W 0 m σ H)/\∀i m σ H,W i m σ H->
    ((Itzp K a b).stop i H/\D.nx σ H)∨((Itzp K a b).go i H/\∃N:St->Hp->Prop,(∀σ' H',N σ' H'->∃ω,ω < m/\W (i + 1) ω σ' H')/\∀x H',(Itzp K a b).yld i H x H'->g x σ H' fun ξ H2=>tb {D with nx:=N,ct:=N,bk:=D.nx} ξ H2):=by
 refine⟨λi m σ H=>m=xs.length - i/\i<=xs.length/\L i σ H,⟨xs.length,@F,VY _,h0⟩,?_⟩;rintro i m σ H ⟨rfl,hi,p⟩;obtain⟨Z,Y⟩:=hq i σ H hi p;by_cases O:i < xs.length
 ·refine .inr ⟨⟨xs,ys,xs[i],ys[i]' @A,Z,Y,by simp[O],by simp[show i < ys.length by omega]⟩,L (i + 1),fun σ' H' α=>⟨xs.length - (i + 1),by omega,rfl,O,α⟩,λx H' y=>?_⟩;obtain⟨r,u,v,f,γ,β,φ,υ⟩:=y;subst γ β;exact hs i u v σ H r _ (φ xs Z) (υ ys Y) p f (bK f) aD
 ·have e:i=xs.length:=by omega
  subst e;exact .inl ⟨⟨xs,ys,Z,Y,hl,rfl⟩,hd σ H p⟩
noncomputable abbrev xBM:CD:=[.type "ValueError",.type "Exception",.type "BaseException",.type "object"]
noncomputable abbrev xRec (C:dt) (dx:F') (t:dt):Obj:={cls:= .ref C,dict:=dx,data:= .fields #[.ref t,.none,.none,.none,.bool false,.none]}
noncomputable def ExcF (p C:dt) (dx:F'):HO:= .ext λh=>∃t,h.get? p=ag (xRec C dx t)
theorem Eu {P:oT} {w:w7} {H:Hp} {h:N'} {p C t:dt} {dx:F'} (e:h.get? p=ag (xRec C dx t)):gj P w H h p (ExcF p C dx):=
 ⟨⟨t,e⟩,⟨_,e⟩,λ_ _ ⟨t,e⟩ k=>⟨t,k _ e⟩⟩
def ExcV (H:Hp) (p C:dt) (fs:ee (mu×V)):Prop:=∃dx,H p=ag (ExcF p C dx)/\match dx with | none=>fs=[] | some d=>H d=ag (.xd fs)
structure XOwn (K:ak) (C W f:dt):Prop where
 lk:∃nm q N bs sn sub ab col dd k0 k1 k2 k3 k5,K.lookup C=ag (excClassObj nm q C N bs (.ref W::xBM) true sn sub ab col dd k0 k1 k2 k3 k5 "ValueError.__new__")
 up:XU K W xBM "ValueError.__new__"=true
 init:wh K (.ref C) "__init__"=ag (ag (.ref f))
 fn:Zd K (.ref f)=true
 kp:W3 K (.ref C)=true
 sa:wh K (.ref C) "__setattr__"=ag (ag (.builtin "object.__setattr__"))
 mo:VX K C (.type "object")=ag true
 mv:VX K C (.type "ValueError")=ag true
theorem Jd {K:ak} {W:dt} (q:XU K W xBM "ValueError.__new__"=true):ZT K xBM (.ref W::xBM)=true:=by
 unfold XU at q;unfold ZT;split at q
 next dd Z L ho=>
  split at q
  next ω bm k0 k1 k2 k3 n k5 hm hs=>
   simp only[R',XN,Yx] at q;obtain⟨⟨⟨⟨⟨Y,O⟩,ε⟩,ht⟩,hok⟩,α⟩:=q;rw[al5];refine .inr ?_;dsimp only;rw[ho];dsimp only;rw[hok,α];unfold ZT;simp
  next=>cases q
 next=>cases q
section
variable {prog:oT} {w:w7} {A:z5} {E:C'} {h:N'} {g:ai2 GenState} {d:Drawn} {t:Nat} {os:OsState}
variable {nm q:mu} {C N:dt} {bs bm bmB:CD} {hdct:V6} {sn:B1} {sub:CD} {ab:V6} {col:pa V6} {dd:F'} {k0 k1 k2 k3 k5:J5} {B newId initId:U'}
theorem xI (F:ExcBaseFacts B newId initId bmB) (T:OwnTail h bmB bm) {K:ak} (X:K.In h) {rest:CD} {β:dt} {Q:Fin->hJ->Prop}
  (α:h.get? C=ag (excClassObj nm q C N bs bm hdct sn sub ab col dd k0 k1 k2 k3 k5 newId)) (hi:wh K (.ref C) "__init__"=ag (ag (.ref β))) (hf:YM K (.ref β)=ag (.type "function"))
  (δ:∀h' e,ab2 h h' e (.ref C) rest->
   kn (px prog w) A (call (.ref β) (.ref e::rest)) (λr s'=>r= .none/\Q (.done (.ret (.ref e))) s') E ⟨h',g,d,t,os⟩) (O:rest.length<=ix):
  kn (px prog w) A (Builtin.«type.__call__» ⟨.ref C::rest,[]⟩) Q E ⟨h,g,d,t,os⟩:=by
 repeat (first | with_reducible refine Y2 α ?_ | with_reducible refine wpAny_madeBy_exc α ?_ | wp_step)
 refine codeAny_call_builtin_code (Zj _ F.quiet) (wpAny_check_new_subT F T α ?_);refine codeAny_exc_new_subT F T α ?_ O;show kn _ _ _ _ _ _
 have Z:=eH {cls:= .ref C,data:= .fields #[.ref h.objs.size,.none,.none,.none,.bool false,.none]}
  (eH {cls:= .type "tuple",data:= .seq rest.toArray} α)
 have L:K.In ((h.push {cls:= .type "tuple",data:= .seq rest.toArray}).push {cls:= .ref C,data:= .fields #[.ref h.objs.size,.none,.none,.none,.bool false,.none]}):=
  X.keeps λb o e=>eH _ (eH _ e)
 have Y:((h.push {cls:= .type "tuple",data:= .seq rest.toArray}).push
   {cls:= .ref C,data:= .fields #[.ref h.objs.size,.none,.none,.none,.bool false,.none]}).get? (h.objs.size + 1)=ag
   {cls:= .ref C,data:= .fields #[.ref h.objs.size,.none,.none,.none,.bool false,.none]}:=by heap_get
 have ε:(sb C::bm).contains (.ref C)=true:=by simp
 unfold isInstance
 repeat (first | with_reducible refine Y2 Y ?_ | (with_reducible refine al7 Z ?_;rw[ε]) | wp_step)
 show kn _ _ (typeLookup (.ref C) _) _ _ _;refine(Xh L hi).at ?_;refine W' (ec ?_);unfold bindSpecial;refine ec ((ad8 L hf).at ?_);rw[qq @C];refine hH (ec (VZ (δ _ (h.objs.size + 1) ⟨λb o hb=>eH _ (eH _ hb),Xn (YO _),h.objs.size,Y,Xn (ov _),?_⟩) (λr s' γ=>?_) λ_ _ x=>x))
 ·exact eH _ (aj7 rfl rfl)
 ·obtain⟨rfl,ζ⟩:=γ
  wp_walk
  exact ζ
theorem Mf (F:ExcBaseFacts B newId initId bmB) (T:OwnTail h bmB bm) {K:ak} (X:K.In h) {rest:CD} {Y:dt} {Q:C'}
  (L:h.get? C=ag (excClassObj nm q C N bs bm hdct sn sub ab col dd k0 k1 k2 k3 k5 newId)) (hi:wh K (.ref C) "__init__"=ag (ag (.ref Y))) (hf:YM K (.ref Y)=ag (.type "function"))
  (Z:∀h' e,ab2 h h' e (.ref C) rest->
   kn (px prog w) (A.under (.builtin "type.__call__" ⟨.ref C::rest,[]⟩)) (call (.ref Y) (.ref e::rest)) (λr s'=>r= .none/\Q (.ref e) s') E ⟨h',g,d,t,os⟩) (O:rest.length<=ix):
  kn (px prog w) A (call (.ref C) rest) Q E ⟨h,g,d,t,os⟩:=by
 have β:=tc_lookup;have α:=tc_bind (.ref C);have hT:(⟨h,g,d,t,os⟩:hJ).TypeIs (.ref C) "type":=⟨_,L,rfl⟩;refine Yf (codeAny_of_tree ?_);show kn _ _ (callAny (.ref C) _) _ _ _
 repeat (any_goals (first | assumption | with_reducible refine Y2 L ?_ | wp_step))
 refine⟨rfl,?_⟩;refine codeAny_call_builtin_at (Zj _ @I) entry_typeCall (wpAny_check_type_call_sub L (xI F T X L hi hf (λh' e hm=>?_) O));exact Z h' e hm
end
section
variable {prog:oT} {w:w7} {A:z5} {E:C'} {s:hJ} {K:ak} {x C W f:dt} {name:mu} {v:ic}
theorem XOwn.cls {h:N'} (c:XOwn K C W f):∃L,aa2 K C=ag L/\L.hasDict=true/\L.mro= .ref C:: .ref W::xBM:=by
 obtain⟨nm,q,N,bs,sn,sub,ab,col,dd,k0,k1,k2,k3,k5,e⟩:=c.lk;refine⟨{name:=nm,bases:=bs,mro:= .ref C:: .ref W::xBM,ns:=N,qualname:=q,hasDict:=true,slotNames:=sn,subclasses:=sub,abstract:=ab,collection:=col,hasDel:=false},?_,rfl,rfl⟩;unfold aa2;rw[e]
open Builtin.ObjectAttr in
theorem Kw {O:Obj} {od:pa Obj} {tk:Tok} {R:HB} (X:K.In s.heap) (I:Yi s.heap x O C od) (c:XOwn K C W f) (n:bF K C name)
  (h:∀b,kn (px prog w) A.in1 (storeInOwnDict (.ref x) (.ref C) (.str name tk) name v b)
   (λfin s'=>match fin with | .done f=>R (.ok f) s' | .again L=>L.quiet=true/\codeAny (px prog w) A L R s') (λe s'=>R (.error e) s') s):
  codeAny (px prog w) A (.call (.builtin "object.__setattr__") ⟨[.ref x,.str name tk,v],[]⟩) R s:=by
 have SF:=PySem.F.store_object;obtain⟨Z,Y,hd,hm⟩:=c.cls (h:=s.heap);have sub:XX (px prog w) s.heap (isInstance (.ref x) (.type "object")) true:=I.type.andThen (Y9 X c.mo);refine Zm SF.slot.plain SF.entry (@af7 (px prog w) _ _ s "object.__setattr__" "object" "__setattr__" (.ref x) [.str name tk,v] [] _ SF.kind SF.split sub (SF.args (.ref x) (.str name tk) v) ?_);have L1:XX (px prog w) s.heap (mroOf (.ref C)) (.ref C:: .ref W::xBM):=hm ▸ (YU X Y).andThen .now;have ha:wh K (.ref C) name=ag none:=n;have L3:XX (px prog w) s.heap (storeTaker? fy) none:= .now;rw[PySem.W.osa_eq,refuse_eq];refine ec (ec (I.type.here (ec (L1.here ?_))));rw[refuseLoop_ref,refuseLoop_ref,PySem.F.store_ValueError.passes];refine hH (ec (I.type.here (ec ((Xh X ha).here (ec (L3.here ?_))))));exact h _
open Builtin.ObjectAttr in
theorem Qz {t:dt} {Q:D'} (X:K.In s.heap) (c:XOwn K C W f) (n:bF K C name) (e:s.heap.get? x=ag (xRec C fy t))
  (h:∀h',h'.Ns1 s.heap.objs.size (λy=>if y=name then ag v else fy)->h'.get? x=ag (xRec C (ag s.heap.objs.size) t)->(∀b o,b≠x->s.heap.get? b=ag o->h'.get? b=ag o)->Q () {s with heap:=h',toks:=s.toks + 2}):
  kn (px prog w) A (setAttr (.ref x) name v) Q E s:=by
 have J:Yi s.heap x (xRec C fy t) C none:=⟨e,rfl,rfl,trivial⟩;refine ag4 X J c.sa (Kw (s:={s with toks:=s.toks + 1}) X J c n λb=>?_);obtain⟨θ,γ,hd,hm⟩:=c.cls (h:=s.heap);refine ec (hH (ec (ec (af4 e (ec (aa6 (s:={s with toks:=s.toks + 1}) (YU X γ) ?_))))));rw[hd];have L:(s.heap.push {cls:= .type "dict",data:= .dict #[]}).get? x=ag (xRec C fy t):=eH _ e;have O:x≠s.heap.objs.size:=z3 (hF e);refine ec (wpAny_alloc' ?_);refine ec (wpAny_update' L ?_);refine hH ?_
 have Z:((s.heap.push {cls:= .type "dict",data:= .dict #[]}).update x λo=>{cls:=o.cls,dict:=ag s.heap.objs.size,data:=o.data,slots:=o.slots}).get? s.heap.objs.size
   =ag {cls:= .type "dict",data:= .dict #[]}:=(Zb _ _ _ _ O.symm).trans (aj7 rfl rfl)
 have Y:((s.heap.push {cls:= .type "dict",data:= .dict #[]}).update x λo=>{cls:=o.cls,dict:=ag s.heap.objs.size,data:=o.data,slots:=o.slots}).Ns s.heap.objs.size (λ_=>fy):=
  ⟨_,#[],_,Z,rfl,λe he=>hB he @F,λ_=>rfl⟩
 have ζ:((s.heap.push {cls:= .type "dict",data:= .dict #[]}).update x λo=>{cls:=o.cls,dict:=ag s.heap.objs.size,data:=o.data,slots:=o.slots}).get? x=ag (xRec C (ag s.heap.objs.size) t):=
  Xf _ L rfl
 show kn _ _ (storeInDict s.heap.objs.size (.str name _) name v) _ _ _;unfold storeInDict newKeyGuard;refine ec (hH (ec (wpAny_nsSet1 (af9 Y) λh' ω hs=>?_)));obtain⟨η,δ,ε,φ,α,β⟩:=ω.count (Within.cons name v Within.nil);refine ec (wpAny_lookBehind φ (by rw[α];exact pastItsLine_dict (WK β (by rw[V1,Xp,lT];omega))) ?_);exact hH (h h' ω ((hs.2 x O).trans ζ) λb o hb q=>(hs.2 b (z3 (hF q))).trans ((Zb _ _ _ _ hb).trans (eH _ q)))
theorem Rn {α:Obj} {L:pa Obj} {Y:V6} {Q:C'} (X:K.In s.heap) (c:XIsi K C) (I:Yi s.heap x α C L) (hf:PySem.W.findObj K C L name=ag (.value v)) (β:Yw v=true)
  (h:Q v {s with toks:=s.toks + 1}):kn (px prog w) A (getAttr (.ref x) name Y) Q E s:=by
 obtain⟨γ,υ,d,t,os⟩:=s;have L0:=I.type (M:=px prog w);have L1:=Xh (M:=px prog w) X c.ga;have L2:=Xh (M:=px prog w) X c.gr;have L3:=PySem.W.looks_find (M:=px prog w) X I hf;have χ:XX (px prog w) γ (isInstance (.ref x) (.type "BaseException")) true:=L0.andThen (Y9 X c.base);unfold getAttr getAttrBy;refine ec (wpAny_mkText (W' (ec (L0.at (ec (L1.at ?_))))));dsimp only;have η:(Z9 "BaseException.__getattribute__" == Z9 "object.__getattribute__")=false:=by decide +kernel
 rw[n' (by rw[η,Wj];exact iv)];unfold getAttrByItsOwn hookBefore;rw[qq @D];refine ec (L2.at (ec (wpAny_attempt (W' ?_))));unfold callGetattribute;rw[show(Y&&onTheHeap (Z9 "BaseException.__getattribute__"))=false from Wj _,n' @F];unfold boundAndCalled;refine ec (ac5 (F.attr_ValueError.ga.bind _) ?_);have hk:builtinKind "BaseException.__getattribute__"=ag .slot:=by decide +kernel
 have ζ:splitId "BaseException.__getattribute__"=ag ("BaseException","__getattribute__"):=by decide +kernel
 have pl:=F.attr_ValueError.ga.plain;have δ:=F.entry_bexc_ga;show kn _ _ (call (.builtin "BaseException.__getattribute__") [.ref x,.str name t]) _ _ _;refine Yf (Zm pl δ ?_);have Z:=F.args_bexc_ga (.ref x) (.str name t);generalize O:"BaseException.__getattribute__"=id0 at hk ζ Z ⊢;refine af7 (self:= .ref x) (rest:=[.str name t]) (kw:=[]) hk ζ χ Z ?_;unfold Builtin.«object.__getattribute__»;refine ec (ac5 (a:=(sb x,[YW name t])) rfl ?_);dsimp only;refine ec (ac5 (a:=name) rfl ?_);refine ec (L0.at (ec (L3.at ?_)));refine hH ?_;show kn _ _ (handedOut v) _ _ _;rw[PySem.W.handedOut_of β];exact hH h
end
theorem Fz {α:Type} {x:α}:[x].length<=sizeLine:=by show 1<=_;rw[lT];decide
section
variable {X:Cx} {pins:CB} {σ:St} {H:Hp} {s:hJ} {p C W f:dt} {fs:ee (mu×V)}
noncomputable def S7 (K:ak) (ta tv:TE) (f:mu):TS:=λD σ H=>tv σ H λy H1=>ta σ H1 λx H2=>∃p C W g,x= .ref p/\H2 p=ag (ExcF p C fy)/\XOwn K C W g/\bF K C f/\
 ∀d,H2 d=fy->d≠p->D.nx σ (upd (upd H2 d (.xd [(f,y)])) p (ExcF p C (ag d)))
def PM (K:ak) (f:mu) (y:V) (D:Ends) (σ:St) (x:V) (H:Hp):Prop:=∃p C W g,x= .ref p/\H p=ag (ExcF p C fy)/\XOwn K C W g/\bF K C f/\
 ∀d,H d=fy->d≠p->D.nx σ (upd (upd H d (.xd [(f,y)])) p (ExcF p C (ag d)))
theorem A3 {K:ak} {f:mu} {te tv:TE} {D:Ends} (h:tv σ H λy H1=>te σ H1 (PM K f y D σ)):S7 K te tv f D σ H:=h
theorem zB {K:ak} {f:mu} {y:V} {D:Ends} {g:dt} (e:H p=ag (ExcF p C fy)) (c:XOwn K C W g) (n:bF K C f)
  (h:∀H2,ExcV H2 p C [(f,y)]->(∀b u,b≠p->H b=ag u->H2 b=ag u)->D.nx σ H2):PM K f y D σ (.ref p) H:=
 ⟨p,C,W,g,rfl,e,c,n,λd hd ne=>h _ ⟨ag d,aD,by show upd _ p _ d=_;rw[aE ne,aD]⟩ λb u hb q=>by rw[aE hb,aE (aq q hd)];exact q⟩
theorem DD {K:ak} {o value:L'} {ta tv:TE} {f:mu} {pos pos':Pos} (h:X.K=K) (ha:PE X o ta) (ν:PE X value tv) (hs:swapsWith value (ag (.Attribute o f pos')) pos.line X.env=pure false):PS X (.Assign [.Attribute o f pos'] value pos) (S7 K ta tv f):=by
 subst h;intro pins s σ H D I h;refine ab3 (thn (ν pins s σ H _ I h) λu ε ⟨y,H1,ο,ζ,q⟩=>thn (ha pins ε σ H1 _ ο q) fun ι L ⟨x,H2,I2,η,p,C,W,g,ex,ea,c,n,θ⟩=>?_) hs;subst ex;obtain rfl:ι=sb p:=η;obtain⟨⟨t,δ⟩,_⟩:=I2.hok p _ ea;refine Qz I2.kIn c n δ λh' ns γ keep=>?_;have hf:=I2.hok.fresh (ov L.heap.objs.size);have Z:L.heap.objs.size≠p:=Xz (hF δ);obtain⟨Y,es,ep,φ,O⟩:=id ns;have β:=(Heap.get?_some_iff.mp φ).2;have α:(L.heap.push Y).get? L.heap.objs.size=ag Y:=kv L.heap β
 have I3:=I2.laid (a:=L.heap.objs.size) (o:= .xd [(f,y)]) (h':=L.heap.push Y) (t':=L.toks) (λb u q=>eH _ q) (ov _)
  ⟨_,⟨Y,es,ep,α,O⟩,λk=>by
    by_cases hk:k=f
    ·subst hk;simp only[YF,Xl,W4];exact ζ
    ·have hb:(k == f)=false:=z0.mpr hk;simp only[n' hk,Xl,hb];exact trivial⟩
 have ξ:=I3.write (x:=p) (e:=p) (o:=ExcF p C (ag L.heap.objs.size)) (h':=h') (t':=L.toks + 2) (by rw[aE Z.symm,ea];exact XZ) (.inl rfl) (λb u hb q=>?_) ⟨_,γ⟩ (Eu γ)
 ·exact⟨σ,_,ξ,θ _ hf Z⟩
 ·by_cases hz:b=L.heap.objs.size
  ·subst hz;have q:(L.heap.push Y).get? L.heap.objs.size=ag u:=q;rw[α] at q;cases q;exact φ
  ·refine keep b u hb ?_;have q:(L.heap.push Y).get? b=ag u:=q;rw[Heap.get?_push_ne _ _ _ hz] at q;exact q
structure UT (K:ak) (W:dt):Prop where
 ga:Xa K (.ref W) "__getattribute__"=ag (ag (.builtin "type.__getattribute__"))
 rd:ai5 K W (.type "type")=true
 fd:ai7 K (.ref W) (.type "type") "__init__"=ag (.val (.builtin "ValueError.__init__"))
noncomputable def OW (K:ak) (t:TA):TE:=fun σ H Q=>t σ H λvs H1=>∃p C W g dx u,vs=[.ref p,u]/\H1 p=ag (ExcF p C dx)/\XOwn K C W g/\Q .non H1
def MH (K:ak) (Q:VK) (vs:ee V) (H:Hp):Prop:=∃p C W g dx u,vs=[.ref p,u]/\H p=ag (ExcF p C dx)/\XOwn K C W g/\Q .non H
theorem vx {K:ak} {t:TA} {Q:VK} (h:t σ H (MH K Q)):OW K t σ H Q:=h
theorem vw {K:ak} {dx:F'} {u:V} {Q:VK} (e:H p=ag (ExcF p C dx)) (m:XOwn K C W f) (h:Q .non H):MH K Q [.ref p,u] H:=⟨p,C,W,f,dx,u,rfl,e,m,h⟩
theorem M4 {a:ic} {dx:F'} {Q:VK} (I:Inv X pins σ H s) (e:H p=ag (ExcF p C dx)) (m:XOwn X.K C W f) (h:Q .non H):
  kn (px X.prog X.w) X.A (call (.builtin "ValueError.__init__") [.ref p,a]) (EP X pins σ Q) X.xe s:=by
 obtain⟨⟨t,Y⟩,_⟩:=I.hok p _ e;have FB:=M';obtain⟨nm,β,N,bs,sn,sub,ab,col,dd,k0,k1,k2,k3,k5,lk⟩:=m.lk;have α:=I.kIn _ _ lk;have T:OwnTail s.heap xBM (.ref W::xBM):=Z0 I.kIn (Jd m.up);obtain⟨ζ,g,d,tk,os⟩:=s;refine Yf (Zm FB.init.plain FB.initEntry (wpAny_check_init_subT FB T α Y rfl ?_));unfold Builtin.«BaseException.__init__»;show kn _ _ (newTuple [a] >>=λtv=>Yz (.ref p) 0 tv >>=λ_=>ret .none) _ _ _;refine ec (wpAny_newTuple ?_ Fz);have L:(ζ.push {cls:= .type "tuple",data:= .seq [a].toArray}).get? p=ag (xRec C dx t):=eH _ Y;unfold Yz;refine ec (ec (Wi L rfl rfl (ec (Y0 L rfl (Nat.succ_pos 5) ?_))));have O:=Xf (WU (·.setIfInBounds 0 (.ref ζ.objs.size))) L rfl
 have Z:=(I.kept (t':=tk) (h':=ζ.push {cls:= .type "tuple",data:= .seq [a].toArray}) (λb u q=>eH _ q)).write (x:=p) (e:=p) (o:=ExcF p C dx)
  (h':=(ζ.push {cls:= .type "tuple",data:= .seq [a].toArray}).update p (WU (·.setIfInBounds 0 (.ref ζ.objs.size)))) (t':=tk) (by rw[e];exact XZ) (.inl rfl) (λb u hb q=>(Zb _ _ _ _ hb).trans q) ⟨_,O⟩ (Eu (t:=ζ.objs.size) O)
 have ξ:upd H p (ExcF p C dx)=H:=by
  funext b;by_cases hb:b=p
  ·subst hb;rw[aD,e]
  ·rw[aE hb]
 rw[ξ] at Z;unfold letGo letGo;refine ec (W' (wpAny_point ?_));exact hH (hH ⟨.non,H,Z,rfl,h⟩)
theorem zJ {x:mu} {np apos pos:Pos} {e:L'} {es:ee L'} {t:TA} {K:ak} {pl:Sem V6} (ρ:X.K=K) (β:Gl X x) (hx:X.mg x=ag (.ref W)) (c:UT K W) (ha:PA X (e::es) t)
  (O:(x == ("__debug__":mu))=false:=by decide) (Z:ll (e::es) X.env=(false,eval e X.env)::ll es X.env:=by rfl) (L:(backTo pos (ll es X.env)).any (·.1)=false:=by rfl)
  (ht:eval (.Call (.Attribute (.Name x np) "__init__" apos) (e::es) [] pos) X.env=(do
   let Y <-eval (.Name x np) X.env
   standAt apos.atName
   let (f,first) <-holding [Y] (getMethod Y "__init__" pl)
   callWith pos f first (backTo pos (ll (e::es) X.env)) (backToKw pos (keywordEach [] X.env))):=by rfl):
  PE X (.Call (.Attribute (.Name x np) "__init__" apos) (e::es) [] pos) (OW K t):=by
 subst ρ;intro pins s σ H Q I h;refine X6 (pl:=pl) (jS I β hx ?_ O) ht;refine af6 I.kIn c.ga (ag6 I.kIn c.rd c.fd rfl ?_);have δ:=I.tok (s.toks + 1);refine Y' (thn (ha pos pins _ σ H _ δ h) λus ε ⟨vs,H1,γ,r,p,C,η,g2,dx,u,ev,hp,hm,θ⟩=>?_) Z L;subst ev;obtain⟨a1,a2,rfl,α,ζ⟩:=IY r;obtain rfl:a1= .ref p:=α;exact M4 γ hp hm θ
theorem jH {st:Xs}:PS X st (λ_ _ _=>False):=λ_ _ _ _ _ _ h=>h.elim
end
noncomputable def Te:ee V->Hp->VK->Prop:=λxs H Q=>∃a b:Int,xs=[.int a,.int b]/\Q (.int (min a b)) H
section
variable {X:Cx}
theorem Me (hc:X.calm=true):n8 X (.builtin "min") Te:=by
 intro pins s σ H xs us Q I r h;obtain⟨a,b,rfl,q⟩:=h;obtain⟨u,v,rfl,O,L⟩:=IY r;obtain⟨t,rfl⟩:=O;obtain⟨t',rfl⟩:=L;refine min_two_ints (I.ok.hd hc) λh' tk hk=>?_;refine⟨.int (min a b),H,I.kept hk,?_,q⟩;by_cases hb:b < a
 ·rw[qq hb,show min a b=b by omega];exact⟨_,rfl⟩
 ·rw[n' hb,show min a b=a by omega];exact⟨_,rfl⟩
end
theorem Vn {a b:Int} {H:Hp} {Q:VK} (h:Q (.int (min a b)) H):Te [.int a,.int b] H Q:=⟨a,b,rfl,h⟩
end L2
namespace PySem
theorem F.entry_dict_update_loop:entryFor table "dict.update.loop"=ag Builtin.«dict.update.loop»:=entryFor_of_tree (by kernel_rfl)
theorem F.plain_dict_update_loop:plainId "dict.update.loop"=true:=by decide +kernel
theorem F.list_keys_none:typeLookup (.type "list") "keys"=pure none:=by rw[ad5,Ze];kernel_rfl
theorem DQ {prog:oT} {w:w7} {A:z5} {E:C'} {s:hJ} {a:dt} {xs:CN} {k:Nat} {name:mu} {Q:J5->hJ->Prop}
  (Z:s.heap.get? a=ag {cls:= .type "list",data:= .seq xs k}) (O:typeLookup (.type "list") name=pure fy) (L:(["__module__","__name__","__qualname__","__doc__","__annotations__"]:B1).contains name=false) (α:A.handled=fy)
  (h:∀h' tk,(∀b o,s.heap.get? b=ag o->h'.get? b=ag o)->Q fy {s with heap:=h',toks:=tk}) (hsz:name.length + 100<=sizeLine:=by size_fits):
  kn (px prog w) A (getAttr? (.ref a) name) Q E s:=by
 obtain⟨hp,g,d,tk,os⟩:=s;have hT:∀Y,(⟨hp,g,d,Y,os⟩:hJ).TypeIs (.ref a) "list":=λ_=>⟨_,Z,rfl⟩;have ε:=sub_AttributeError;have τ:=F.slot_list_getattribute.lookup;have δ:=F.slot_list_getattribute.bind (.ref a);have γ:=am_list_getattr_none;unfold getAttr? getAttrBy? getAttrBy
 repeat (any_goals (first | assumption | exact hT _ | ((with_reducible show kn _ _ (call (Z9 "list.__getattribute__") _ _) _ _ _);refine Yg F.slot_list_getattribute (hT _) am_entry_list_getattribute (F.args_list_getattribute_2 _ _) (meets_getattribute_miss_list a xs k #[] name _ O L hsz) ⟨Z,α,λh' Y e η=>?_⟩) | wp_step))
 obtain⟨t',β,he⟩:=η.there;show kn _ _ (getattributeRaised _ _ _ _ _ _ _) _ _ _;unfold getattributeRaised
 repeat (any_goals (first | assumption | wp_step))
 exact h _ _ η.keeps
section
variable {prog:oT} {w:w7} {K:Type} [DecidableEq K] {knd:KeyKind prog w K} {A:z5} {R:HB} {I:dt} {fp wr:Dk} {n:Nat} {P:Nat->ic->Prop} {St:Nat->N'->Prop}
def PN (knd:KeyKind prog w K) (h:N') (a:dt) (ψ:K×ic):Prop:=∃χ o n,h.get? a=ag o/\o.cls= .type "tuple"/\o.data= .seq #[χ,ψ.2] n/\knd.is ψ.1 χ=true
theorem xa {h h':N'} {d:dt} {kvs:ee (K×ic)} (hm:h.DictOf knd d kvs) (f:∀o,h.get? d=ag o->h'.get? d=ag o):h'.DictOf knd d kvs:=let ⟨o,es,ep,ho,r⟩:=hm;⟨o,es,ep,f o ho,r⟩
theorem ql (W:Walks prog w A.in1 I fp wr n P St) (d:dt) (ρ:d∉fp) (more:ee (K×ic)) (hn:more.length=n) (hsz:n<=ix) (tup:Nat->dt) (γ:∀i,i < n->tup i∉wr/\tup i≠d) (hP:∀i v,i < n->P i v->v= .ref (tup i)):
  ∀(k j:Nat) (s:hJ) (θ:Int) (t:Tok),n - j=k->j<=n->St j s.heap->s.heap.DictOf knd d (merged [] (more.take j))->(∀i ψ,more[i]? =ag ψ->PN knd s.heap (tup i) ψ)->
  (∀h' tk,h'.DictOf knd d (merged [] more)->(∀b o,b∉wr->b≠d->s.heap.get? b=ag o->h'.get? b=ag o)->R (.ok (.ret .none)) {s with heap:=h',toks:=tk})->
  codeAny (px prog w) A (.builtin "dict.update.loop" ⟨[.ref d,.ref I,.int θ t,.none],[]⟩) R s:=by
 have π:d∉wr:=λh=>ρ (W.sub _ h);intro k
 induction k with
 | zero=>
   intro j s θ t hk hj Z hd hp hR;have ν:j=n:=by omega
   subst ν;refine Z8 F.entry_dict_update_loop ?_;rw[YQ F.plain_dict_update_loop _];show kn _ A.in1 (pyNext (.ref I) >>=_) _ _ s;refine ec (W.done s _ _ Z λh' tk Y=>?_);show kn _ A.in1 (Builtin.Dict.addKeywords d [] >>=_) _ _ _;refine ec (hH (hH ?_));rw[<-hn,pT] at hd;exact hR h' tk (xa hd λo e=>Y d o π e) λb o hb _ e=>Y b o hb e
 | succ k ih=>
   intro j s θ t hk hj Z hd hp hR;have α:j < n:=by omega
   refine Z8 F.entry_dict_update_loop ?_;rw[YQ F.plain_dict_update_loop _];show kn _ A.in1 (pyNext (.ref I) >>=_) _ _ s;refine ec (W.item j s _ _ α Z λv h' tk a5 ζ Y=>?_);have ev:=hP j v α a5;subst ev;obtain⟨ψ,ξ⟩:∃ψ,more[j]? =ag ψ:=⟨_,eF @A⟩;obtain⟨χ,ob,m,ht,a4,O,ο⟩:=hp j ψ ξ;have δ:=Y _ _ (γ j α).1 ht;show kn _ A.in1 (holding [sb (tup j)] _ >>=_) _ _ _;refine ec (W' (ec (wpAny_tryCatch ?_)));unfold Builtin.Dict.pairItems;refine ec (aa0 (T:="tuple") ⟨_,δ,a4⟩ ?_);rw[qq @C];refine ec (Zl δ O ?_);refine hH ?_;show kn _ A.in1 (holding [χ,ψ.2] (dictSet d χ ψ.2)) _ _ _;have ι:h'.DictOf knd d (merged [] (more.take j)):=xa hd λo e=>Y d o π e;refine W' (wpAny_dictSet_pairs (s:={s with heap:=h',toks:=tk}) ο ι (λh2 τ η=>?_) (hsz:=by have:=merged_length_le [] (more.take j);rw[Xp,sv] at this;omega));rw[<-merged_take_succ [] more j ψ ξ] at τ;have kp:∀b o,b∉wr->b≠d->s.heap.get? b=ag o->h2.get? b=ag o:=λb o hb β e=>(η.2 b β).trans (Y b o hb e);refine hH ⟨ah1 F.plain_dict_update_loop _,ih (j + 1) _ _ _ @A α (W.frame _ _ _ ζ λb hb o e=>?_) τ (λi φ hi=>?_) λh3 υ a3 a0=>?_⟩
   ·exact(η.2 b λz=>ρ (z ▸ hb)).trans e
   ·obtain⟨ε,o',ω,e',x'⟩:=hp i φ hi;have L:i < n:=by rw[<-hn];exact(b'.mp hi).1
    exact⟨ε,o',ω,kp _ _ (γ i L).1 (γ i L).2 e',x'⟩
   ·exact hR h3 υ a3 λb o hb β e=>a0 b o hb β (kp b o hb β e)
end
section
variable {prog:oT} {w:w7} {K:Type} [DecidableEq K] {knd:KeyKind prog w K} {A:z5} {E:C'} {s:hJ}
theorem xw {l:dt} {its:CN} {c:Nat} {more:ee (K×ic)} {tup:Nat->dt} {Q:C'} (η:A.handled=fy) (hl:s.heap.get? l=ag {cls:= .type "list",data:= .seq its c})
  (hn:more.length=its.size) (hsz:its.size<=ix) (π:∀(i:Nat) (v:ic),its[i]? =ag v->v= .ref (tup i)) (hp:∀i ψ,more[i]? =ag ψ->PN knd s.heap (tup i) ψ) (nd:(more.map (·.1)).Nodup)
  (h:∀h' tk,h'.DictOf knd s.heap.objs.size more->(∀b o,s.heap.get? b=ag o->h'.get? b=ag o)->Q (.ref s.heap.objs.size) {s with heap:=h',toks:=tk}):
  kn (px prog w) A (call (.type "dict") [.ref l]) Q E s:=by
 refine callType_codes (Q₁:=λobj O=>obj= .ref s.heap.objs.size/\O={s with heap:=s.heap.push {cls:= .type "dict",data:= .dict #[]}}) F.kt_called_dict (F.kt_typeCall_dict_1 _) F.entry_dict_init (kt_code_dict_new _ ⟨rfl,rfl⟩) ?_;rintro obj O ⟨rfl,rfl⟩;have L:(s.heap.push {cls:= .type "dict",data:= .dict #[]}).DictOf knd s.heap.objs.size []:=af0 s.heap;have Y:(s.heap.push {cls:= .type "dict",data:= .dict #[]}).get? l=ag {cls:= .type "list",data:= .seq its c}:=eH _ hl;refine⟨L.typeIs,F.args_dict_init_2 _ _,?_⟩;unfold Builtin.«dict.__init__»;refine ec ?_;unfold Builtin.Dict.selfAndRest;refine ec (wpAny_notOrdered_dict L.typeIs ?_);show kn _ _ (pure (s.heap.objs.size,[sb l])) _ _ _;refine hH ?_;show kn _ _ (ZK "dict.__init__" s.heap.objs.size (.ref l) [] .none) _ _ _;unfold ZK;refine ec (aa0 (T:="list") ⟨_,Y,rfl⟩ ?_);rw[qq @C];refine ec (DQ Y F.list_keys_none @C η λh' tk hk=>?_);rw[qq (show(fy:J5).isNone=true from rfl)];have hl2:=hk _ _ Y;have α:l < s.heap.objs.size:=hF hl;have γ:h'.DictOf knd s.heap.objs.size []:=xa L λo e=>hk _ _ e;have θ:s.heap.objs.size < h'.objs.size:=by obtain⟨o,_,_,ho,_⟩:=γ;exact hF ho
 have Z:∀i,i < its.size->tup i < s.heap.objs.size:=λi hi=>by
  obtain⟨ψ,ε⟩:∃ψ,more[i]? =ag ψ:=⟨_,eF @A⟩;obtain⟨_,_,_,e,_⟩:=hp i ψ ε;exact hF e
 refine ec (wpAny_rule ?_);refine ec (Y1 (items:=its) ⟨_,hl2,rfl,c,rfl⟩ ?_);have W:=ah2 (prog:=prog) (w:=w) (A:=A.in1.in1) η h'.objs.size l (z3 (ZL α θ)) its;refine hH ⟨ah1 F.plain_dict_update_loop _,ql (knd:=knd) (A:=A.in1) W s.heap.objs.size ?_ more hn hsz tup (λi hi=>⟨?_,?_⟩) (λi v _ e=>π i v e) _ 0 _ _ _ rfl (VY _) ⟨⟨_,kv _ rfl,rfl,rfl⟩,?_⟩ ?_ (λi ψ hi=>?_) fun ι δ β ζ=>?_⟩
 ·intro hm;rcases xY.mp hm with e | hm
  ·exact hB e (z3 θ)
  ·exact hB (gn.mp hm).symm (z3 α)
 ·intro hm;exact hB (gn.mp hm) (z3 (ZL (Z i hi) θ))
 ·exact z3 (Z i hi)
 ·exact⟨_,eH _ hl2,rfl,c,rfl⟩
 ·exact γ.push _
 ·obtain⟨χ,ob,m,e,x⟩:=hp i ψ hi;exact⟨χ,ob,m,eH _ (hk _ _ (eH _ e)),x⟩
 ·rw[merged_nil_of_nodup more nd] at β;refine⟨rfl,h ι δ β λb o e=>ζ b o (λhm=>?_) ?_ (eH _ (hk _ _ (eH _ e)))⟩
  ·exact hB (gn.mp hm) (z3 (ZL (hF e) θ))
  ·exact z3 (hF e)
end
end PySem
namespace L2
open PySem PySem.Spec PyProof.Rows
noncomputable def Pf:ee V->Hp->VK->Prop:=λxs H Q=>∃(l:dt) (ps:ee (dt×Key×V)),xs=[.ref l]/\H l=ag (.lst (ps.map λq=>V.ref q.1))/\(∀q∈ps,H q.1=ag (.tup [kV q.2.1,q.2.2]))/\(ps.map λq=>q.2.1).Nodup/\
 ∀d,H d=fy->Q (.ref d) (upd H d (.dK (ps.map (·.2))))
section
variable {X:Cx}
theorem zj (hc:X.calm=true):n8 X (.type "dict") Pf:=by
 intro pins s σ H xs us Q I r h;obtain⟨l,ps,rfl,hl,ht,nd,q⟩:=h;obtain⟨u,rfl,η⟩:=xH r;cases η;obtain⟨z,its,c,α,Y,el⟩:=I.lstM hl;rw[a'] at z Y
 have get:∀(i:Nat) q,ps[i]? =ag q->its[i]? =ag (.ref q.1)/\∃χ v o n,s.heap.get? q.1=ag o/\o.cls= .type "tuple"/\o.data= .seq #[χ,v] n/\(dG X.prog X.w).is q.2.1 χ=true/\RelV q.2.2 v:=λi q L=>by
  obtain⟨u,τ,θ⟩:=Vals.get (x:=V.ref q.1) α (by rw[kf,L];rfl);cases θ;refine⟨τ,?_⟩;have e:=ht q (f' L);obtain⟨_,us,rt,π⟩:=I.hok _ _ e;obtain⟨a,b,rfl,ξ,ι⟩:=Vals.two rt;obtain⟨o,ho,ζ,n,O⟩:=π;exact⟨a,b,o,n,ho,ζ,O,Hi ξ,ι⟩
 obtain⟨vs,Z⟩:∃vs:ee (Key×ic),vs=(lj ps.length).map λi=>match ps[i]? with
  | some q=>(q.2.1,match s.heap.get? q.1 with | some o=>(match o.data with | .seq xs _=>xs.getD 1 .none | _=> .none) | none=> .none)
  | none=>(.inl 0,.none):=⟨_,rfl⟩
 have ε:∀(i:Nat) q,ps[i]? =ag q->∃χ v o n,vs[i]? =ag (q.2.1,v)/\s.heap.get? q.1=ag o/\o.cls= .type "tuple"/\o.data= .seq #[χ,v] n/\(dG X.prog X.w).is q.2.1 χ=true/\RelV q.2.2 v:=λi q L=>by
  obtain⟨_,χ,v,o,n,e,γ,δ,k,α⟩:=get i q L;have hi:=(b'.mp L).1;refine⟨χ,v,o,n,?_,e,γ,δ,k,α⟩;rw[Z,kf,W6 hi];show ag (match ps[i]? with | some q=>_ | none=>_)=_;rw[L];show ag (q.2.1,match s.heap.get? q.1 with | some o=>_ | none=>_)=_;rw[e];show ag (q.2.1,match o.data with | .seq xs _=>_ | _=>_)=_;rw[δ];rfl
 have ω:vs.length=ps.length:=by rw[Z,a',S']
 clear Z
 have keys:vs.map (·.1)=ps.map λq=>q.2.1:=by
  apply ZA;intro i;rw[kf,kf];cases L:ps[i]? with
  | none=>rw[X3 (by rw[ω];exact List.getElem?_eq_none_iff.mp L)];rfl
  | some q=>obtain⟨_,v,_,_,e,_⟩:=ε i q L;rw[e];rfl
 have ψ:KV (ps.map (·.2)) vs:=by
  refine qX (by rw[a',ω]) λi a b ha hb=>?_;rw[kf] at ha;obtain⟨q,L,rfl⟩:=XF.mp ha;obtain⟨_,v,_,_,e,_,_,_,_,α⟩:=ε i q L;rw[e] at hb;cases hb;exact⟨rfl,α⟩
 refine xw (knd:=dG X.prog X.w) (its:=its.toArray) (c:=c) (more:=vs) (tup:=λi=>match ps[i]? with | some q=>q.1 | none=>0) (I.ok.hd hc) el (by rw[ω,Y];simp) (by simpa using(Y ▸ z)) (λi v e=>?_) (λi ο e=>?_) (by rw[keys];exact nd) λh' tk hd hk=>?_
 ·have hi:i < ps.length:=by rw[Y];have:=(WI.mp e).1;simpa using this
  obtain⟨ν,L⟩:∃ν,ps[i]? =ag ν:=⟨_,eF hi⟩;have γ:=(get i ν L).1;have e:its[i]? =ag v:=by simpa using e
  rw[γ] at e;cases e;rw[L]
 ·have hi:i < ps.length:=by rw[<-ω];exact(b'.mp e).1
  obtain⟨ν,L⟩:∃ν,ps[i]? =ag ν:=⟨_,eF hi⟩;obtain⟨χ,v,o,n,υ,γ,δ,ρ,β,_⟩:=ε i ν L;rw[υ] at e;cases e;rw[L];exact⟨χ,o,n,γ,δ,ρ,β⟩
 ·refine⟨.ref s.heap.objs.size,_,I.laid (t':=tk) hk (ov _) (show gj X.prog X.w _ h' _ (.dK (ps.map (·.2))) from⟨by rw[a'];exact z,z0.mpr λe=>hB e.symm (z3 I.big),vs,ψ,hd⟩),rfl,q _ (I.hok.fresh (ov _))⟩
end
section
variable {H:Hp} {Q:VK}
theorem JX {l:dt} {ps:ee (dt×Key×V)} (e:H l=ag (.lst (ps.map λq=>V.ref q.1))) (ht:∀q∈ps,H q.1=ag (.tup [kV q.2.1,q.2.2])) (nd:(ps.map λq=>q.2.1).Nodup) (h:∀d H2,H d=fy->Same H H2->H2 d=ag (.dK (ps.map (·.2)))->Q (.ref d) H2):Pf [.ref l] H Q:=⟨l,ps,rfl,e,ht,nd,iZ h⟩
end
end L2
namespace PySem
section
variable {M:Model} {A:z5} {E:C'} {env:Env} {s:hJ}
variable {nm q:mu} {C N:dt} {bs bm:CD} {hdct:V6} {sn:B1} {sub:CD} {ab:V6} {col:pa V6} {dd:F'} {k0 k1 k2 k3 k5:J5} {newId:U'}
theorem pS {x:Sem ic} {Q:Flow->hJ->Prop} (O:bm.contains (.type "BaseException")=true) (ζ:A.handled=fy)
  (h:kn M A x (λv L=>∃e t dx,v= .ref e/\L.heap.get? C=ag (excClassObj nm q C N bs bm hdct sn sub ab col dd k0 k1 k2 k3 k5 newId)/\
   L.heap.get? e=ag {cls:= .ref C,dict:=dx,data:= .fields #[.ref t,.none,.none,.none,.bool false,.none]}/\E (.ref e) L) E s):
  kn M A (raiseStmt env (ag x) fy) Q E s:=by
 have Z:(sb C::bm).contains (.type "BaseException")=true:=by rw[List.contains_cons,O,ae5]
 unfold raiseStmt;refine ec (VZ h (λv L Y=>?_) λ_ _ x=>x);obtain⟨e,t,dx,rfl,α,he,β⟩:=Y;obtain⟨hp,g,d,tk,os⟩:=L
 repeat (first | with_reducible refine Y2 he ?_ | with_reducible refine Y2 α ?_ | (with_reducible refine al7 α ?_;rw[Z]) | wp_step)
 exact wpAny_raiseNew_none ζ β
theorem ES {x:L'} {pos:Pos} {Q:Flow->hJ->Prop} (Y:bm.contains (.type "BaseException")=true) (ζ:A.handled=fy)
  (h:kn M A (eval x env) (λv L=>∃e t dx,v= .ref e/\L.heap.get? C=ag (excClassObj nm q C N bs bm hdct sn sub ab col dd k0 k1 k2 k3 k5 newId)/\
   L.heap.get? e=ag {cls:= .ref C,dict:=dx,data:= .fields #[.ref t,.none,.none,.none,.bool false,.none]}/\E (.ref e) L) E s):
  kn M A (exec (.Raise (ag x) fy pos) env) Q E s:=by
 rw[arm_exec_Raise]
 first
  | exact ec (Xm (pS Y ζ (ec (VZ h (λv L O=>ec (Xm (hH O))) λ_ _ x=>x))))
  | (simp only[evalOpt,Option.map];exact ec (Xm (pS Y ζ (ec (VZ h (λv L O=>ec (Xm (hH O))) λ_ _ x=>x)))))
  | (show kn M A (do standAt pos;raiseStmt env (ag (do let v <-eval x env;standAt pos;pure v)) fy) Q E s;exact ec (Xm (pS Y ζ (ec (VZ h (λv L O=>ec (Xm (hH O))) λ_ _ x=>x)))))
end
end PySem
namespace L2
open PySem PySem.Spec PyProof.Rows
noncomputable def del (H:Hp) (p:dt):Hp:=λb=>if b=p then fy else H b
theorem FK {H:Hp} {p:dt}:del H p p=none:=qq rfl
theorem za {H:Hp} {p b:dt} (h:b≠p):del H p b=H b:=n' h
theorem vb {H:Hp} {p b:dt} (h:H b=fy):del H p b=none:=by unfold del;split;rfl;exact h
theorem rM {H:Hp} {p b:dt} {o u:HO} (e:H p=ag o) (h:H b=ag u) (n:o≠u):del H p b=ag u:=by
 rw[za λz=>by subst z;rw[e] at h;cases h;exact n rfl];exact h
section
variable {X:Cx} {pins:CB} {σ:St} {H:Hp} {s:hJ} {p:dt}
theorem Inv.untrack {φ:N'->Prop} (I:Inv X pins σ H s) (e:H p=ag (.ext φ)):Inv X pins σ (del H p) s:=by
 have U:=I.base;refine⟨I.ok,I.os,I.bare,⟨U.keep,U.slot,λb ob q n O=>vb (U.free b ob q n O),U.there,λb xs q=>rM e (U.tups b xs q) (λz=>by cases z),λb o u q=>rM e (U.frzs b o u q) (λz=>by cases z),λb ps q=>?_⟩,I.loc,I.cell,vb I.free,λy c q=>vb (I.freeC y c q),λL hp=>?_,λb ob q=>?_,I.len⟩
 ·obtain⟨m,ν⟩:=U.tbls b ps q;exact⟨m,rM e ν (λz=>by cases z)⟩
 ·obtain⟨q,n,r⟩:=I.pin L hp;exact⟨q,vb n,r⟩
 ·by_cases z:b=p
  ·rw[z,FK] at q;cases q
  ·rw[za z] at q;exact(I.hok b ob q).stay (λ_ _ _ q=>q) (λc q=>rM e q (λz=>by cases z)) λc xs q=>rM e q (λz=>by cases z)
noncomputable def Je (C:dt) (sp:Sp) (E:XK) (L:XW) (t:TA):TS:=λ_ σ H=>t σ H λvs H1=>∃v,vs=[v]/\∀x,H1 x=fy->sp [.ref x,v] (upd H1 x (ExcF x C fy)) (λv H2=>v= .non/\∃dx,H2 x=ag (ExcF x C dx)/\L σ (.ref C) dx (del H2 x)) E
def vc (C:dt) (sp:Sp) (E:XK) (L:XW) (σ:St) (vs:ee V) (H:Hp):Prop:=∃v,vs=[v]/\∀x,H x=fy->sp [.ref x,v] (upd H x (ExcF x C fy)) (λv H2=>v= .non/\∃dx,H2 x=ag (ExcF x C dx)/\L σ (.ref C) dx (del H2 x)) E
theorem qG {C:dt} {sp:Sp} {E:XK} {L:XW} {t:TA} {D:Ends} (h:t σ H (vc C sp E L σ)):Je C sp E L t D σ H:=h
theorem yV {C:dt} {sp:Sp} {E:XK} {L:XW} {v:V} (h:∀x H2,H x=fy->Same H H2->H2 x=ag (ExcF x C fy)->sp [.ref x,v] H2 (λv H2=>v= .non/\∃dx,H2 x=ag (ExcF x C dx)/\L σ (.ref C) dx (del H2 x)) E):vc C sp E L σ [v] H:=
 ⟨v,rfl,λx f=>h x _ f (λb o e=>by rw[aE (aq e f)];exact e) aD⟩
theorem vE {C W f:dt} {CX:CXT} {k:Nat} {fd:hE} {ps:B1} {sp:Sp} {E:XK} {ι:XW} {x:mu} {np cpos pos:Pos} {e:L'} {es:ee L'} {t:TA} (M:XOwn X.K C W f) (F:FnOk X.prog X.w X.K X.mg X.base CX k f fd ps sp) (hr:Room (k + 1) X.A) (χ:Gl X x) (hm:X.mg x=ag (.ref C))
  (hb:mx X.K fd ps []) (φ:pq CX X E) (ht:Thr X ι) (ω:X.calm=true) (ha:PA X (e::es) t)
  (Z:(x == ("__debug__":mu))=false:=by decide) (he:ll (e::es) X.env=(false,eval e X.env)::ll es X.env:=by rfl) (O:(backTo cpos (ll es X.env)).any (·.1)=false:=by rfl):
  PS X (.Raise (ag (.Call (.Name x np) (e::es) [] cpos)) fy pos) (Je C sp E ι t):=by
 intro pins s σ H D I h;obtain⟨nm,π,N,bs,sn,sub,ab,col,dd,k0,k1,k2,k3,k5,lk⟩:=M.lk;refine ES (C:=C) (nm:=nm) (q:=π) (N:=N) (bs:=bs) (bm:= .ref W::xBM) (hdct:=true) (sn:=sn) (sub:=sub) (ab:=ab) (col:=col) (dd:=dd) (k0:=k0) (k1:=k1) (k2:=k2) (k3:=k3) (k5:=k5) (newId:="ValueError.__new__") @F (I.ok.hd ω) ?_;refine WN (jS I χ hm ?_ Z);refine Wq (h₀:=X.base) I.ok.mod.kin M.kp (thn (ha cpos pins s σ H _ I h) λus γ ⟨vs,H1,I1,r,v,ev,q⟩=>⟨I1.kIn,?_⟩) he O;subst ev;have hC:=I1.kIn _ _ lk;have T:OwnTail γ.heap xBM (.ref W::xBM):=Z0 I1.kIn (Jd M.up);have ψ:=I1.kIn;obtain⟨ζ,g,d,tk,os⟩:=γ;refine Mf M' T ψ hC M.init (XN.mp M.fn) (λh' e m=>?_) (by show us.length<=_;rw[<-r.length];exact Fz);obtain⟨tt,υ,θ,q3⟩:=m.there;obtain⟨I2,β⟩:=KP I1 m;have I3:=I2.track β.fe (Eu υ);have δ:=q e β.fe.1;have η:Vals [V.ref e,v] (sb e::us):= .cons rfl r
 have hl:(sb e::us++[]).length=ps.length:=by
  have z:=η.length;rw[F.len _ _ _ _ δ] at z;rw[Wr];exact z.symm
 have bd:=hb _ (sb e::us) I3.kIn hl;rw[Wr] at bd;refine Yf (X' (F.run _ X.stack _ _ ⟨sb e::us,[]⟩ (sb e::us) _ _ E (hr.make C us []) (I3.env0.make C us []) bd η δ) λr s' L=>?_);cases r with
 | error e=>exact φ pins σ _ _ e s' I3 L
 | ok Y=>
   cases Y with
   | ret u=>
     obtain⟨v,H',I4,ο,ev,dx,hp,ν⟩:=I3.after L;subst ev;obtain⟨⟨ξ,ρ⟩,_⟩:=I4.hok e _ hp;obtain⟨ε,f1,α,τ,f4,f5⟩:=β.fe;exact⟨ο,e,ξ,dx,rfl,I4.kIn _ _ lk,ρ,ht _ _ ⟨pins,e,.ref C,dx,fy,σ,del H' e,rfl,I4.untrack hp,⟨⟨_,_,ρ,rfl,rfl,rfl,by simp,by simp⟩,⟨FK,f1,α,τ,f4,f5⟩,λt Y z=>by cases z⟩,ν⟩⟩
   | next=>exact y' L
   | brk=>exact y' L
   | cont=>exact y' L
end
def ExcC (H:Hp) (p C:dt) (fs:ee (mu×V)):Prop:=∃d,H p=ag (ExcO p (.ref C) (ag d))/\H d=ag (.xd fs)
section
variable {X:Cx} {pins:CB} {σ:St} {H:Hp} {s:hJ} {p C:dt} {fs:ee (mu×V)}
theorem ExcC.inst (I:Inv X pins σ H s) (e:ExcC H p C fs):∃(L o:Obj) (mA:CM),Yi s.heap p L C (ag o)/\(∀n,Yh n o=ag (mA n))/\∀n,RelO (fs.lookup n) (mA n):=by
 obtain⟨d,a,b⟩:=e;obtain⟨⟨O,vs,β,α,Z,Y⟩,_⟩:=I.hok p _ a;obtain⟨mA,ns,r⟩:=I.hok d _ b;obtain⟨od,ho,hl⟩:=Bw ns;exact⟨O,od,mA,⟨β,α,by unfold PySem.W.notCls;rw[Y],by rw[Z];exact ho⟩,hl,r⟩
noncomputable def Sk (K:ak) (ta:TE) (f:mu):TE:=fun σ H Q=>ta σ H λx H1=>∃p C fs v,x= .ref p/\ExcC H1 p C fs/\XIsi K C/\Xb K C=true/\bF K C f/\fs.lookup f=ag v/\Q v H1
def PR (K:ak) (f:mu) (Q:VK) (x:V) (H:Hp):Prop:=∃p C fs v,x= .ref p/\ExcC H p C fs/\XIsi K C/\Xb K C=true/\bF K C f/\fs.lookup f=ag v/\Q v H
theorem A4 {K:ak} {f:mu} {te:TE} {Q:VK} (h:te σ H (PR K f Q)):Sk K te f σ H Q:=h
theorem NL {K:ak} {f:mu} {v:V} {Q:VK} (e:ExcC H p C fs) (c:XIsi K C) (d:Xb K C=true) (n:bF K C f) (l:fs.lookup f=ag v) (h:Q v H):PR K f Q (.ref p) H:=⟨p,C,fs,v,rfl,e,c,d,n,l,h⟩
theorem QV {K:ak} {e:L'} {ta:TE} {f:mu} {pos:Pos} (h:X.K=K) (he:PE X e ta) (hb:attributeBase e f X.env (eval e X.env)=eval e X.env):PE X (.Attribute e f pos) (Sk K ta f):=by
 subst h;intro pins s σ H Q I h;refine Mn hb (thn (he pins s σ H _ I h) λu α ⟨x,H1,I1,O,p,C,fs,v,ex,ea,c,d,n,l,q⟩=>?_);subst ex;obtain rfl:u=sb p:=O;obtain⟨β,o,mA,J,hl,r⟩:=ea.inst I1;obtain⟨Z,Y,L⟩:=RelO.some_of (v:=v) (o:=mA f) (by rw[<-l];exact r f);exact Rn I1.kIn c J (ae6 (attr:=fy) d n rfl (by rw[hl,Y])) (BK L) ⟨v,H1,I1.tok _,L,q⟩
end
inductive PH (X:Cx) (Wo:XW):ee ExceptHandler->(Ends->XW)->Prop where
 | nil:PH X Wo [] (λ_=>Wo)
 | cons {G:dt} {g n:mu} {i:Nat} {gp hp:Pos} {b₀:Xs} {suite:ee Xs} {ts:TS} {hs:ee ExceptHandler} {WR:Ends->XW} (cg:tT X.K G) (hg:Gl X g) (hm:X.mg g=ag (.ref G)) (hi:X.N[i]? =ag n) (hk:X.env.scope.names.lookup n=ag .local)
   (hs':∀pins e,PSs (X.mark pins e) (b₀::suite) ts) (hdb:(g == ("__debug__":mu))=false) (r:PH X Wo hs WR):PH X Wo (.ExceptHandler (ag (.Name g gp)) (ag n) (b₀::suite) hp::hs) (λD=>WTry X.K G i (WR D) ts D)
structure RZ (osc:X5) (ON N:B1) (n:Nat) (fx:B') (x0:mu) (sc:X5):Prop where
 kind:sc.kind= .function
 one:∃pre post,sc.names=pre++(x0,.cell)::post/\(∀y∈pre,y.2≠.cell)/\∀y∈post,y.2≠.cell
 its:sc.names.lookup x0=ag .cell
 own:∀y∈sc.names,y.2= .local->sc.names.lookup y.1=ag .local
 fre:∀y∈sc.names,y.2= .free->osc.names.lookup y.1=ag .cell∨osc.names.lookup y.1=ag .free
 len:N.length=n + fx.length
 frn:∀k,k < fx.length->∃x j,N[n + k]? =ag x/\fx[k]? =ag j/\ON[j]? =ag x/\sc.names.lookup x=ag .free
theorem qL {l b:dt} {xs zs:ee V} {H:Hp} {Q:VK} (e:H l=ag (.lst xs)) (L:H b=ag (.lst zs)) (hl:xs.length + zs.length<=ix) (n:l≠b) (h:∀H2,Upd H H2 l (.lst (xs++zs))->Q .non H2):DA (.ref l) [.ref b] H Q:=by
 first
 | exact⟨l,b,xs,zs,rfl,rfl,e,L,hl,h _ Upd.of⟩
 | exact⟨l,b,xs,zs,rfl,rfl,e,L,hl,n,h _ Upd.of⟩
noncomputable def iSeq (K:ak) (tl:TE):TI:=fun σ H R=>tl σ H λx H1=>∃a,x= .ref a/\(((∃xs,SqL K H1 a xs)/\R (Itl K a) H1)∨((∃xs,SqT K H1 a xs)/\R (Itt K a) H1))
theorem vG {X:Cx} {K:ak} {tg l:L'} {tl:TE} (h:X.K=K) (hl:PE X l tl):PI X tg l (iSeq K tl):=by
 subst h;intro pins s σ H R I h;refine thn (hl pins s σ H _ I h) λv L ⟨x,H1,I1,Z,Y⟩=>?_;obtain⟨a,e,Y⟩:=Y;subst e;rcases Y with ⟨O,q⟩ | ⟨O,q⟩
 ·cases Z;obtain⟨xs,O⟩:=O;obtain⟨its,α,p,hz⟩:=I1.list O;refine Y1 p.isList ?_;refine⟨L.heap.objs.size,[L.heap.objs.size],_,_,H1,rfl,I1.kept (t':=L.toks) λb o e=>eH _ e,AU a _,⟨_,kv _ rfl,rfl,rfl⟩,λb hb=>?_,q⟩;have e:b=L.heap.objs.size:=by simpa using hb
  subst e;exact I1.fpOk (ov _) (I1.hok.fresh (ov _))
 ·cases Z;obtain⟨xs,O⟩:=O;obtain⟨its,α,p,hz⟩:=I1.tuple O;refine XR (show L.heap.IsTuple a its.toArray from p) ?_;refine⟨L.heap.objs.size,[L.heap.objs.size],_,_,H1,rfl,I1.kept (t':=L.toks) λb o e=>eH _ e,yR a _,⟨_,kv _ rfl,rfl,rfl⟩,λb hb=>?_,q⟩;have e:b=L.heap.objs.size:=by simpa using hb
  subst e;exact I1.fpOk (ov _) (I1.hok.fresh (ov _))
theorem JU {K:ak} {te:TE} {σ:St} {H:Hp} {R:It->Hp->Prop} (h:te σ H λx H1=>∃a,x= .ref a/\(((∃xs,SqL K H1 a xs)/\R (Itl K a) H1)∨((∃xs,SqT K H1 a xs)/\R (Itt K a) H1))):iSeq K te σ H R:=h
section
variable {X:Cx}
def MP (Q:VK) (x:V) (H1:Hp):Prop:=∃n:Nat,x= .int (n:Int)/\n<=1000/\∀(D:dt) (L:Hp),H1 D=fy->Same H1 L->L D=ag (.lst ((lj n).map λk:Nat=>V.int (k:Int)))->Q (.ref D) L
noncomputable def Sj (t:TE):TE:=fun σ H Q=>t σ H (MP Q)
theorem SO {t:TE} {σ:St} {H:Hp} {Q:VK} (h:t σ H (MP Q)):Sj t σ H Q:=h
theorem IX:∀{xs:ee V} {us:CD},xs.length=us.length->(∀(i:Nat) x u,xs[i]? =ag x->us[i]? =ag u->RelV x u)->Vals xs us
 | [],[],_,_=> .nil
 | x::xs,u::us,hl,h=> .cons (h 0 x u rfl rfl) (IX (by simpa using hl) λi y v L O=>h (i + 1) y v (by simpa using L) (by simpa using O))
 | [],_::_,hl,_=>by simp at hl
 | _::_,[],hl,_=>by simp at hl
theorem Bc {e:L'} {t:TE} {p1 p2 O θ:Pos} (hc:X.calm=true) (g1:Gl X "list") (g2:Gl X "range") (n1:X.mg "list"=fy) (ρ:X.mg "range"=fy) (he:PE X e t)
  (h1:ll [Expr.Call (.Name "range" p1) [e] [] p2] X.env=[(false,eval (.Call (.Name "range" p1) [e] [] p2) X.env)]:=by rfl) (h2:ll [e] X.env=[(false,eval e X.env)]:=by rfl):
  PE X (.Call (.Name "list" O) [.Call (.Name "range" p1) [e] [] p2] [] θ) (Sj t):=by
 intro pins s σ H Q I h;refine ai1 (nN I g1 n1 oD (Tn (Q:=EP X pins σ Q) ?_ h1 rfl));rw[h1];show kn _ _ (spliced ((false,eval (.Call (.Name "range" p1) [e] [] p2) X.env)::backTo θ [])) _ _ s;refine Zh ?_;refine ai1 (nN I g2 ρ boot_range (Tn (thn (aa he ae h2 p2 pins s σ H (λvs H1=>match vs with | [x]=>MP Q x H1 | _=>False) I h) λus L ⟨vs,H1,I1,γ,O⟩=>?_) h2 rfl))
 match vs,γ,O with
 | [x],γ,O=>
 obtain⟨n,rfl,hn,q⟩:=O;cases γ with
 | cons r ο=>
 cases ο;obtain⟨t',rfl⟩:=r;refine call_range_1 ?_;refine Zs ?_;refine call_list_range (n:=n) (I1.ok.hd hc) (am5 ..) (small_one @A @A @A @A) (by rw[rangeSize_one];split<;>omega) @A λh' tk Y c hk υ β=>?_;have δ:∀b o,L.heap.get? b=ag o->h'.get? b=ag o:=λb o e=>hk b o (eH _ e);have I2:Inv X pins σ H1 {L with heap:=h',toks:=tk}:=I1.kept (t':=tk) δ;obtain⟨D,α⟩:∃D,D=(L.heap.push {cls:= .type "range",data:= .fields #[.int 0 L.toks,.int (n:Int) t',.int 1 (L.toks + 1)]}).objs.size:=⟨_,rfl⟩;have Z:L.heap.objs.size<=D:=by rw[α,XM];exact YO _
 have η:H1 D=none:=I1.hok.fresh Z;have ν:L.heap.get? D=none:=Xn Z
 have τ:Vals ((lj n).map λk:Nat=>V.int (k:Int)) Y.toList:=by
  obtain⟨ζ,ε⟩:=β;refine IX (by rw[a',S'];simpa using ζ.symm) λi x u ι ξ=>?_;rw[kf,W6] at ι
  ·cases ι;obtain⟨π,φ⟩:=ε i u (by simpa using ξ);refine⟨π,?_⟩;rw[φ];congr 1;omega
  ·have:=(b'.mp ξ).1;simp at this;omega
 have χ:Inv X pins σ (upd H1 D (.lst ((lj n).map λk:Nat=>V.int (k:Int)))) {L with heap:=h',toks:=tk}:=I2.track (I1.fpN ν η) ⟨by rw[a',S',lT];omega,Y.toList,c,τ,by rw[α];exact υ⟩;refine⟨.ref D,_,χ,by rw[α];rfl,q D _ η (λb ob e=>?_) aD⟩;rw[aE (aq e η)];exact e
end
section
variable {σ:St} {H:Hp} {D:Ends} {t u:TS}
theorem SG (h:∀R:St->Hp->Prop,(∀σ H,u D σ H->R σ H)->t {D with nx:=R} σ H):tSeq t u D σ H:=h _ λ_ _ q=>q
theorem s_go {R X:St->Hp->Prop} (e:∀σ H,X σ H->R σ H) (h:X σ H):R σ H:=e _ _ h
end
end L2
set_option autoImplicit false
namespace M
theorem Rl (a b:Nat):(a||| b) / 2=a / 2||| b / 2:=by
 apply oe;intro i;simp[Yk,Nat.testBit_or]
theorem Og (a b:Nat):(a&&&b) / 2=a / 2&&&b / 2:=by
 apply oe;intro i;simp[Yk,WS]
theorem FE (a b:Nat):(a^^^b) / 2=a / 2^^^b / 2:=by
 apply oe;intro i;simp[Yk,KI]
theorem or_sum (a:Nat):∀b:Nat,a||| b=(a^^^b) + (a&&&b):=by
 induction a using am2 with
 | ind a ih=>
   intro b;by_cases ha:a=0
   ·subst ha;simp
   ·have h:=ih (a / 2) @A (b / 2);have Y:=YA (a||| b) 2;have O:=YA (a^^^b) 2;have L:=YA (a&&&b) 2;rw[Rl] at Y;rw[FE] at O;rw[Og] at L;have α:(a||| b) % 2=(a % 2||| b % 2):=by have:=@Nat.or_mod_two_pow a b 1;simpa using this
    have ι:(a^^^b) % 2=(a % 2^^^b % 2):=by have:=@Nat.xor_mod_two_pow a b 1;simpa using this
    have Z:(a&&&b) % 2=(a % 2&&&b % 2):=by have:=@Nat.and_mod_two_pow a b 1;simpa using this
    have c:(a % 2||| b % 2)=(a % 2^^^b % 2) + (a % 2&&&b % 2):=by
     rcases V5 a with h1 | h1<;>rcases V5 b with h2 | h2<;>rw[h1,h2]<;>decide
    omega
noncomputable def pb:Nat->Nat->V6
 | 0,_=>false
 | w + 1,m=>(m.testBit w)^^(pb w m)
theorem Ph (w a b:Nat):pb w (a^^^b)=(pb w a^^pb w b):=by
 induction w with
 | zero=>rfl
 | succ w ih=>
   simp only[pb,KI,ih];cases a.testBit w<;>cases b.testBit w<;>cases pb w a<;>cases pb w b<;>rfl
theorem uZ (h j m:Nat):pb (h + j) m=(pb h m^^pb j (m>>>h)):=by
 induction j with
 | zero=>simp[pb]
 | succ j ih=>
   rw[Nat.add_succ];simp only[pb,ih,Ws];cases m.testBit (h + j)<;>cases pb h m<;>cases pb j (m>>>h)<;>rfl
theorem Kv (h m:Nat):pb h (m % 2 ^ h)=pb h m:=by
 suffices ∀j,j<=h->pb j (m % 2 ^ h)=pb j m from this h (ov h)
 intro j
 induction j with
 | zero=>intro _;rfl
 | succ j ih=>
   intro L;simp only[pb];rw[ih @A,Nat.testBit_mod_two_pow];simp[show j < h by omega]
theorem QX (w j m:Nat) (hm:m < 2 ^ w):pb (w + j) m=pb w m:=by
 rw[uZ,V3,al2 hm]
 have:∀j,pb j 0=false:=by intro j;induction j with
  | zero=>rfl
  | succ j ih=>simp[pb,ih]
 rw[this];simp
theorem pb_up {w L m:Nat} (hm:m < 2 ^ w) (h:w<=L):pb L m=pb w m:=by
 obtain⟨j,rfl⟩:=YE h;exact QX w j m hm
theorem pb_fold (w h m:Nat) (hw:h<=w) (hm:m < 2 ^ w) (h2:w<=2 * h):pb h ((m>>>h)^^^(m&&&(2 ^ h - 1)))=pb w m:=by
 rw[Y3,Ph,Kv];obtain⟨j,rfl⟩:=YE hw;rw[uZ]
 have L:m>>>h < 2 ^ j:=by
  rw[V3];exact ah9 (by rw[<-ag1];exact hm)
 rw[pb_up L (show j<=h by omega)];cases pb j (m>>>h)<;>cases pb h m<;>rfl
theorem fold_lt (w h m:Nat) (hm:m < 2 ^ w) (h2:w<=2 * h):(m>>>h)^^^(m&&&(2 ^ h - 1)) < 2 ^ h:=by
 apply aj3
 ·rw[V3];refine ah9 ?_;rw[<-ag1];exact hA hm (hL @C @A)
 ·rw[Y3];exact Nat.mod_lt _ (qb h)
noncomputable def pl (w m:Nat):B':=(lj w).filter m.testBit
theorem pl_up {w L m:Nat} (hm:m < 2 ^ w) (h:w<=L):pl L m=pl w m:=by
 obtain⟨j,rfl⟩:=YE h;unfold pl;rw[List.range_add,Wu]
 have:List.filter m.testBit (Y5 (λx=>w + x) (lj j))=[]:=by
  rw[ae9];intro a ha;obtain⟨k,_,rfl⟩:=ik.mp ha;rw[ry (hA hm (hL @C (Nat.le_add_right w k)))];simp
 rw[this,Wr]
noncomputable def xm (ps:B'):Nat:=ps.foldl (λa p=>a^^^2 ^ p) 0
theorem P5 (ps:B'):∀(a k:Nat),(ps.foldl (λa p=>a^^^2 ^ p) a).testBit k=(a.testBit k^^(ps.count k % 2 == 1)):=by
 induction ps with
 | nil=>intro a k;simp
 | cons p ps ih=>
   intro a k;rw[al3,ih,KI,v',List.count_cons];by_cases h:p=k
   ·subst h;simp only[decide_true,W4,YF];rcases V5 (ai4 p ps) with z | z
    ·have e:(ai4 p ps + 1) % 2=1:=by omega
     rw[z,e];cases a.testBit p<;>rfl
    ·have e:(ai4 p ps + 1) % 2=0:=by omega
     rw[z,e];cases a.testBit p<;>rfl
   ·have hb:(p == k)=false:=z0.mpr h;simp[hb,h]
theorem R8 (ps:B') (k:Nat):(xm ps).testBit k=(ps.count k % 2 == 1):=by
 unfold xm;rw[P5];simp
theorem rV (w k:Nat) (p:Nat->V6):((lj w).filter p).count k=if k < w/\p k=true then 1 else 0:=by
 have nd:((lj w).filter p).Nodup:=List.Pairwise.filter p Z6;by_cases h:k < w/\p k=true
 ·rw[qq h];have hm:k∈(lj w).filter p:=WB.mpr ⟨V2.mpr h.1,h.2⟩;exact List.Nodup.count nd |>.trans (by rw[qq hm])
 ·rw[n' h];refine List.count_eq_zero.mpr λhm=>h ?_;obtain⟨a,b⟩:=WB.mp hm;exact⟨V2.mp a,b⟩
theorem NY (w m k:Nat):(pl w m).count k=if k < w/\m.testBit k=true then 1 else 0:=rV w k m.testBit
theorem xm_ext {w m:Nat} {ps:B'} (hm:m < 2 ^ w) (h:∀k,ps.count k % 2=(pl w m).count k % 2):xm ps=m:=by
 apply oe;intro k;rw[R8,h,NY];by_cases hk:k < w
 ·cases e:m.testBit k<;>simp[hk,e]
 ·rw[ry (hA hm (hL @C (Nat.not_lt.mp hk)))];simp[hk]
noncomputable def Span:B'->Nat->Prop
 | [],x=>x=0
 | r::rs,x=>Span rs x∨Span rs (x^^^r)
theorem span_zero:∀rs:B',Span rs 0
 | []=>rfl
 | _::rs=> .inl (span_zero rs)
theorem b7 (x r:Nat):x^^^r^^^r=x:=by rw[Wb,Xo,Wa]
theorem gX (a b c:Nat):a^^^b^^^c=a^^^c^^^b:=by rw[Wb,Yu b c,<-Wb]
theorem gZ:∀(rs:B') (r x:Nat),Span (rs++[r]) x↔Span rs x∨Span rs (x^^^r)
 | [],r,x=>aj9
 | q::rs,r,x=>by
   show Span (rs++[r]) x∨Span (rs++[r]) (x^^^q)↔(Span rs x∨Span rs (x^^^q))∨(Span rs (x^^^r)∨Span rs (x^^^r^^^q));rw[gZ rs r x,gZ rs r (x^^^q),gX x q r];constructor
   ·rintro((h | h) | (h | h))
    ·exact .inl (.inl h)
    ·exact .inr (.inl h)
    ·exact .inl (.inr h)
    ·exact .inr (.inr h)
   ·rintro((h | h) | (h | h))
    ·exact .inl (.inl h)
    ·exact .inr (.inl h)
    ·exact .inl (.inr h)
    ·exact .inr (.inr h)
theorem span_xor:∀{rs:B'} {x y:Nat},Span rs x->Span rs y->Span rs (x^^^y)
 | [],x,y,h,k=>by
   have h:x=0:=h;have k:y=0:=k;subst h;subst k;exact rfl
 | r::rs,x,y,h,k=>by
   rcases h with h | h<;>rcases k with k | k
   ·exact .inl (span_xor h k)
   ·refine .inr ?_;have:=span_xor h k;rwa [<-Wb] at this
   ·refine .inr ?_;have:=span_xor h k;rwa [gX] at this
   ·refine .inl ?_;have:=span_xor h k;rwa [<-Wb,gX x r y,b7] at this
noncomputable def sm:B'->Nat->Nat
 | [],_=>0
 | r::rs,p=>(if p.testBit 0 then r else 0)^^^sm rs (p / 2)
theorem sm_zero:∀rs:B',sm rs 0=0
 | []=>rfl
 | r::rs=>by show(if (0:Nat).testBit 0 then r else 0)^^^sm rs (0 / 2)=0;rw[show(0:Nat) / 2=0 from rfl,sm_zero rs];simp
theorem xor4 (a b c d:Nat):a^^^b^^^(c^^^d)=a^^^c^^^(b^^^d):=by
 rw[Wb,<-Wb b c d,Yu b c,Wb c b d,<-Wb a c]
theorem sm_xor:∀(rs:B') (p q:Nat),sm rs (p^^^q)=sm rs p^^^sm rs q
 | [],p,q=>by show(0:Nat)=0^^^0;simp
 | r::rs,p,q=>by
   show(if (p^^^q).testBit 0 then r else 0)^^^sm rs ((p^^^q) / 2)=((if p.testBit 0 then r else 0)^^^sm rs (p / 2))^^^((if q.testBit 0 then r else 0)^^^sm rs (q / 2));rw[FE,sm_xor rs,KI,xor4];congr 1;cases p.testBit 0<;>cases q.testBit 0<;>simp
theorem m7:∀(rs:B') (r p:Nat),sm (rs++[r]) p=sm rs p^^^(if p.testBit rs.length then r else 0)
 | [],r,p=>by show(if p.testBit 0 then r else 0)^^^0=0^^^_;rw[Wa,Xe];rfl
 | q::rs,r,p=>by
   show(if p.testBit 0 then q else 0)^^^sm (rs++[r]) (p / 2)=((if p.testBit 0 then q else 0)^^^sm rs (p / 2))^^^_;rw[m7 rs r (p / 2),Yk,Wb];rfl
theorem jm {rs:B'} {r p:Nat} (h:p < 2 ^ rs.length):sm (rs++[r]) p=sm rs p:=by
 rw[m7,ry h];simp
theorem JJ (rs:B') (r:Nat):sm (rs++[r]) (2 ^ rs.length)=r:=by
 rw[m7]
 have e:sm rs (2 ^ rs.length)=0:=by
  have:∀(rs:B') (k:Nat),rs.length<=k->sm rs (2 ^ k)=0:=by
   intro rs
   induction rs with
   | nil=>intro k _;rfl
   | cons q rs ih=>
     intro k hk;have hk:rs.length + 1<=k:=hk;obtain⟨j,rfl⟩:∃j,k=j + 1:=⟨k - 1,@A⟩;show(if (2 ^ (j + 1)).testBit 0 then q else 0)^^^sm rs (2 ^ (j + 1) / 2)=0;have O:(2 ^ (j + 1)) / 2=2 ^ j:=by rw[XT];omega
     have L:(2 ^ (j + 1)).testBit 0=false:=by rw[v'];simp
     rw[O,L,ih j @A];simp
  exact this rs _ (ov _)
 rw[e,WV];simp
theorem sm_span:∀(rs:B') (p:Nat),Span rs (sm rs p)
 | [],p=>rfl
 | r::rs,p=>by
   show Span rs _∨Span rs _;have ih:=sm_span rs (p / 2);cases h:p.testBit 0 with
   | true=>refine .inr ?_;rw[show sm (r::rs) p=r^^^sm rs (p / 2) from by show(if p.testBit 0 then r else 0)^^^_=_;rw[h];rfl,Yu r,b7];exact ih
   | false=>refine .inl ?_;rw[show sm (r::rs) p=sm rs (p / 2) from by show(if p.testBit 0 then r else 0)^^^_=_;rw[h];simp];exact ih
theorem span_sm:∀{rs:B'} {x:Nat},Span rs x->∃p,p < 2 ^ rs.length/\sm rs p=x
 | [],x,h=>⟨0,Nat.one_pos,(show x=0 from h).symm⟩
 | r::rs,x,h=>by
   rcases h with h | h
   ·obtain⟨p,hp,e⟩:=span_sm h;refine⟨2 * p,by rw[V1,XT];omega,?_⟩;show(if (2 * p).testBit 0 then r else 0)^^^sm rs (2 * p / 2)=x;rw[show 2 * p / 2=p by omega,show(2 * p).testBit 0=false by simp[ZU],e];simp
   ·obtain⟨p,hp,e⟩:=span_sm h;refine⟨2 * p + 1,by rw[V1,XT];omega,?_⟩;show(if (2 * p + 1).testBit 0 then r else 0)^^^sm rs ((2 * p + 1) / 2)=x;rw[show(2 * p + 1) / 2=p by omega,show(2 * p + 1).testBit 0=true by simp[ZU],e];show r^^^(x^^^r)=x;rw[Yu,b7]
theorem KQ {x t:Nat} (h1:2 ^ t<=x) (h2:x < 2 ^ (t + 1)):x.log2=t:=by
 have L:x≠0:=by have:=qb t;omega
 have a:=(Zc L).mpr h2;have b:t<=x.log2:=(Nat.le_log2 L).mpr h1;omega
theorem oH {x:Nat} (h:x≠0):x.testBit x.log2=true:=by
 have:=Nat.testBit_log2 h;exact this
theorem xor_lt_pow {x y t:Nat} (h1:x < 2 ^ t) (h2:y < 2 ^ t):x^^^y < 2 ^ t:=aj3 h1 h2
theorem EW {x y:Nat} (hx:x≠0) (hy:y≠0) (h:x.log2=y.log2):x^^^y < 2 ^ x.log2:=by
 have h1:x^^^y < 2 ^ (x.log2 + 1):=xor_lt_pow X9 (by rw[h];exact X9)
 have hb:(x^^^y).testBit x.log2=false:=by
  rw[KI,oH hx,show y.testBit x.log2=true by rw[h];exact oH hy];rfl
 apply Xx;intro i hi;rcases Nat.lt_or_eq_of_le hi with hi | hi
 ·exact ry (hA h1 (hL @C hi))
 ·rw[<-hi];exact hb
theorem xor_less {x y:Nat} (hx:x≠0) (hy:y≠0) (h:x.log2=y.log2):x^^^y < x:=
 hA (EW hx hy h) (al1 hx)
theorem qc {x y:Nat} (hy:y≠0) (h:x < 2 ^ y.log2):(x^^^y).log2=y.log2:=by
 have h1:x^^^y < 2 ^ (y.log2 + 1):=xor_lt_pow (hA h (hL @C @A)) X9;have hb:(x^^^y).testBit y.log2=true:=by rw[KI,ry h,oH hy];rfl
 exact KQ (Nat.ge_two_pow_of_testBit hb) h1
theorem DX {x y:Nat} (hx:x≠0) (hy:y≠0) (h:x.log2≠y.log2):(x^^^y).log2=x.log2∨(x^^^y).log2=y.log2:=by
 rcases Nat.lt_or_gt_of_ne h with h | h
 ·exact .inr (qc hy (hA X9 (hL @C h)))
 ·refine .inl ?_;rw[Yu];exact qc hx (hA X9 (hL @C h))
def Fre (rows:B') (i:Nat):Prop:=i < rows.length/\¬Span (rows.take i) (rows.getD i 0)
theorem Fre.snoc {rows:B'} {i:Nat} (r:Nat) (h:Fre rows i):Fre (rows++[r]) i:=by
 obtain⟨hi,hn⟩:=h;refine⟨by rw[gs];omega,?_⟩;rw[Ya (XA hi),eY,P' hi,<-eY];exact hn
theorem Fre.last {rows:B'} {r:Nat} (h:¬Span rows r):Fre (rows++[r]) rows.length:=by
 refine⟨by rw[gs];simp,?_⟩;rw[am3,eY,V0 (ov _),ac6];exact h
def Frs (rows:B') (q:Nat):Prop:=∀i,q.testBit i=true->Fre rows i
theorem Frs.zero (rows:B'):Frs rows 0:=λi h=>by rw[X8] at h;cases h
theorem Frs.xor {rows:B'} {p q:Nat} (hp:Frs rows p) (hq:Frs rows q):Frs rows (p^^^q):=λi h=>by
 rw[KI] at h;cases h1:p.testBit i with
 | true=>exact hp i h1
 | false=>rw[h1] at h;exact hq i (by simpa using h)
theorem Frs.snoc {rows:B'} {q:Nat} (r:Nat) (h:Frs rows q):Frs (rows++[r]) q:=λi hi=>(h i hi).snoc r
theorem Frs.more {rows:B'} {q r:Nat} (h:Frs rows q) (hr:¬Span rows r):Frs (rows++[r]) (q^^^2 ^ rows.length):=(h.snoc r).xor λi hi=>by
 rw[v'] at hi;have e:rows.length=i:=by simpa using hi
 rw[<-e];exact Fre.last hr
structure Ech (es:A') (rows:B'):Prop where
 nz:∀e∈es,e.1≠0
 lt:∀e∈es,e.2 < 2 ^ rows.length
 sm:∀e∈es,sm rows e.2=e.1
 nd:(es.map λe=>e.1.log2).Nodup
 all:∀y,Span rows y->y≠0->∃e∈es,e.1.log2=y.log2
 sub:∀e∈es,Frs rows e.2
theorem Ech.nil:Ech [] []:=⟨λ_ h=>hB h @F,λ_ h=>hB h @F,λ_ h=>hB h @F,.nil,λy h n=>hB h n,λ_ h=>hB h @F⟩
theorem Ech.span {es:A'} {rows:B'} (I:Ech es rows) {e:Nat×Nat} (h:e∈es):Span rows e.1:=by
 rw[<-I.sm e h];exact sm_span _ _
theorem Da {rows:B'} {r p:Nat} (h:p < 2 ^ rows.length):sm (rows++[r]) (p^^^2 ^ rows.length)=sm rows p^^^r:=by
 rw[sm_xor,jm h,JJ]
theorem lt_more {n p:Nat} (h:p < 2 ^ n):p^^^2 ^ n < 2 ^ (n + 1):=
 xor_lt_pow (hA h (hL @C @A)) (V7 @C @A)
theorem Ech.null {es:A'} {rows:B'} (I:Ech es rows) {r q:Nat} (hq:q < 2 ^ rows.length) (e:r^^^M.sm rows q=0):Span rows r/\Ech es (rows++[r]):=by
 have L:r=M.sm rows q:=by
  have:=ri (·^^^M.sm rows q) e;simpa[b7] using this
 have hs:Span rows r:=by rw[L];exact sm_span _ _
 refine⟨hs,I.nz,λe h=>?_,λe h=>?_,I.nd,λy hy n=>?_,λe h=>(I.sub e h).snoc r⟩
 ·rw[gs];exact hA (I.lt e h) (hL @C @F)
 ·rw[jm (I.lt e h)];exact I.sm e h
 ·rcases(gZ rows r y).mp hy with hy | hy
  ·exact I.all y hy n
  ·have:=span_xor hy hs;rw[b7] at this;exact I.all y this n
theorem Ech.more {es:A'} {rows:B'} (I:Ech es rows) {r q:Nat} (hq:q < 2 ^ rows.length) (e:r^^^M.sm rows q≠0) (hn:∀e∈es,e.1.log2≠(r^^^M.sm rows q).log2) (hf:Frs rows q):
  ¬Span rows r/\Ech (es++[(r^^^M.sm rows q,q^^^2 ^ rows.length)]) (rows++[r]):=by
 have O:¬Span rows r:=λhs=>by
  obtain⟨x,L,ex⟩:=I.all _ (span_xor hs (sm_span rows q)) e;exact hn x L ex
 refine⟨O,λx h=>?_,λx h=>?_,λx h=>?_,?_,λy hy n=>?_,λx h=>(gF.mp h).elim (λh=>(I.sub x h).snoc r) λh=>by rw[gn] at h;subst h;exact hf.more O⟩
 ·rcases gF.mp h with h | h
  ·exact I.nz x h
  ·rw[gn] at h;subst h;exact e
 ·rw[gs];rcases gF.mp h with h | h
  ·exact hA (I.lt x h) (hL @C @F)
  ·rw[gn] at h;subst h;exact lt_more hq
 ·rcases gF.mp h with h | h
  ·rw[jm (I.lt x h)];exact I.sm x h
  ·rw[gn] at h;subst h;show M.sm _ (q^^^_)=r^^^M.sm rows q;rw[Da hq,Yu]
 ·rw[fI,VS];refine⟨I.nd,@F,λa ha b hb=>?_⟩;obtain⟨x,L,rfl⟩:=ik.mp ha;rw[ai9,gn] at hb;subst hb;exact hn x L
 ·rcases(gZ rows r y).mp hy with hy | hy
  ·obtain⟨x,L,ex⟩:=I.all y hy n;exact⟨x,hQ _ L,ex⟩
  ·
   have hz:=span_xor hy (sm_span rows q)
   have ey:y=(y^^^r^^^M.sm rows q)^^^(r^^^M.sm rows q):=by
    rw[xor4,Xo,Wa,b7]
   generalize Y:y^^^r^^^M.sm rows q=z at hz ey;by_cases η:z=0
   ·refine⟨_,i' _ (gn.mpr rfl),?_⟩;show(r^^^M.sm rows q).log2=y.log2;rw[ey,η,Xe]
   ·obtain⟨x,L,ex⟩:=I.all z hz η;have ne:z.log2≠(r^^^M.sm rows q).log2:=by rw[<-ex];exact hn x L
    rcases DX η e ne with h | h
    ·exact⟨x,hQ _ L,by rw[ex,ey,h]⟩
    ·refine⟨_,i' _ (gn.mpr rfl),?_⟩;show(r^^^M.sm rows q).log2=y.log2;rw[ey,h]
noncomputable def tt (p:Prop):Bool:=@decide p (Wt p)
theorem Sb {p:Prop} (h:p):tt p=true:=@hG _ (Wt _) h
theorem Sd {p:Prop} (h:¬p):tt p=false:=@gz _ (Wt _) h
noncomputable def fr (rows:B'):B':=(lj rows.length).filter λi=> !tt (Span (rows.take i) (rows.getD i 0))
theorem LK (rows:B') (r:Nat):fr (rows++[r])=fr rows++(if tt (Span rows r)=true then [] else [rows.length]):=by
 unfold fr;rw[gs,V8,X7,Wu]
 have L:(lj rows.length).filter (λi=> !tt (Span ((rows++[r]).take i) ((rows++[r]).getD i 0)))=(lj rows.length).filter (λi=> !tt (Span (rows.take i) (rows.getD i 0))):=by
  apply aj6;intro i hi;have hi:=V2.mp hi;have a:(rows++[r]).take i=rows.take i:=Ya (XA hi)
  have b:(rows++[r]).getD i 0=rows.getD i 0:=by
   rw[eY,eY,P' hi]
  rw[a,b]
 rw[L];congr 1;have a:(rows++[r]).take rows.length=rows:=am3
 have b:(rows++[r]).getD rows.length 0=r:=by
  rw[eY,V0 (ov _),ac6];rfl
 rw[XJ,a,b];cases tt (Span rows r)<;>rfl
theorem fr_len (rows:B'):(fr rows).length<=rows.length:=by
 have:=WJ (λi=> !tt (Span (rows.take i) (rows.getD i 0))) (lj rows.length);rw[S'] at this;exact this
theorem fr_in {rows:B'} {r:Nat} (h:Span rows r):fr (rows++[r])=fr rows:=by rw[LK,Sb h];simp
theorem fr_out {rows:B'} {r:Nat} (h:¬Span rows r):fr (rows++[r])=fr rows++[rows.length]:=by rw[LK,Sd h];rfl
structure Nul (nms rows:B'):Prop where
 lt:∀x∈nms,x < 2 ^ rows.length
 nz:∀x∈nms,x≠0
 sm:∀x∈nms,sm rows x=0
 pw:nms.Pairwise λa b=>a.log2 < b.log2
 len:nms.length + (fr rows).length=rows.length
theorem Nul.nil:Nul [] []:=⟨λ_ h=>hB h @F,λ_ h=>hB h @F,λ_ h=>hB h @F,.nil,rfl⟩
theorem Nul.keep {nms rows:B'} (I:Nul nms rows) {r:Nat} (h:¬Span rows r):Nul nms (rows++[r]) where
 lt:=λx L=>by rw[gs];exact hA (I.lt x L) (hL @C @F)
 nz:=I.nz
 sm:=λx L=>by rw[jm (I.lt x L)];exact I.sm x L
 pw:=I.pw
 len:=by rw[fr_out h,gs,gs,<-I.len];simp;omega
theorem log2_more {n q:Nat} (h:q < 2 ^ n):q^^^2 ^ n≠0/\(q^^^2 ^ n).log2=n:=by
 have e:(2 ^ n:Nat).log2=n:=KQ (ov _) (V7 @C @A);have Z:(2 ^ n:Nat)≠0:=by have:=qb n;omega
 have hl:=qc (x:=q) Z (by rw[e];exact h);refine⟨λz=>?_,by rw[hl,e]⟩;have hb:(q^^^2 ^ n).testBit n=true:=by rw[KI,ry h,WV];rfl
 rw[z] at hb;simp at hb
theorem log2_under {n q:Nat} (h0:q≠0) (h:q < 2 ^ n):q.log2 < n:=(Zc h0).mpr h
theorem Nul.snoc {nms rows:B'} (I:Nul nms rows) {r q:Nat} (hq:q < 2 ^ rows.length) (e:r^^^M.sm rows q=0) (hs:Span rows r):Nul (nms++[q^^^2 ^ rows.length]) (rows++[r]) where
 lt:=λx hx=>by
  rw[gs];rcases gF.mp hx with hx | hx
  ·exact hA (I.lt x hx) (hL @C @F)
  ·rw[gn] at hx;subst hx;exact lt_more hq
 nz:=λx hx=>by
  rcases gF.mp hx with hx | hx
  ·exact I.nz x hx
  ·rw[gn] at hx;subst hx;exact(log2_more hq).1
 sm:=λx hx=>by
  rcases gF.mp hx with hx | hx
  ·rw[jm (I.lt x hx)];exact I.sm x hx
  ·rw[gn] at hx;subst hx;rw[Da hq,Yu];exact e
 pw:=by
  rw[List.pairwise_append];refine⟨I.pw,List.pairwise_singleton _ _,λa ha b hb=>?_⟩;rw[gn] at hb;subst hb;rw[(log2_more hq).2];exact log2_under (I.nz a ha) (I.lt a ha)
 len:=by rw[fr_in hs,gs,gs,<-I.len];simp;omega
def Inj (ws:B'):Prop:=∀p,p < 2 ^ ws.length->sm ws p=0->p=0
theorem Inj.nil:Inj []:=λp h _=>by
 have:p < 1:=h;omega
theorem Fs:∀(n:Nat) (l:B'),l.Nodup->(∀x∈l,x < n)->l.length<=n
 | 0,l,_,h=>by
   cases l with
   | nil=>exact ov _
   | cons x r=>exact hB (h x (wq ..)) (aa3 _)
 | n + 1,l,nd,h=>by
   have ih:=Fs n (l.erase n) (nd.erase n) λx L=>by
    have hm:=(nd.mem_erase_iff).mp L;have:=h x hm.2;have:=hm.1;omega
   by_cases hm:n∈l
   ·rw[ad3 hm] at ih;omega
   ·rw[List.erase_of_not_mem hm] at ih;omega
theorem span_lt {t:Nat}:∀{rs:B'} {x:Nat},(∀r∈rs,r < 2 ^ t)->Span rs x->x < 2 ^ t
 | [],x,_,h=>by have h:x=0:=h;rw[h];exact qb t
 | r::rs,x,b,h=>by
   have ih:=λx=>span_lt (rs:=rs) (x:=x) λy L=>b y (z4 _ L);rcases h with h | h
   ·exact ih x h
   ·have:=xor_lt_pow (ih _ h) (b r (wq ..));rwa [b7] at this
structure Sums (ks rows:B'):Prop where
 nd:ks.Nodup
 all:∀x,x∈ks↔Span rows x
theorem Sums.zero:Sums [0] []:=⟨@F,λx=>by rw[gn];exact aj9⟩
theorem P3 {a b r:Nat} (h:a^^^r=b^^^r):a=b:=by
 have:=ri (·^^^r) h;simpa[b7] using this
theorem Sums.step {ks rows:B'} (S:Sums ks rows) {r:Nat} (h:¬Span rows r):Sums (ks++ks.map (·^^^r)) (rows++[r]):=by
 refine⟨?_,λx=>?_⟩
 ·rw[VS];refine⟨S.nd,?_,λa ha b hb e=>?_⟩
  ·exact YN _ (λa b ξ e=>ξ (P3 e)) S.nd
  ·obtain⟨c,O,rfl⟩:=ik.mp hb;subst e;have:=span_xor ((S.all _).mp ha) ((S.all _).mp O);rw[gX,Xo,Xe] at this;exact h this
 ·rw[gF,gZ,S.all,ik];constructor
  ·rintro(h | ⟨y,L,rfl⟩)
   ·exact .inl h
   ·refine .inr ?_;rw[b7];exact(S.all _).mp L
  ·rintro(h | h)
   ·exact .inl h
   ·exact .inr ⟨x^^^r,(S.all _).mpr h,b7 x r⟩
theorem Sums.keep {ks rows:B'} (S:Sums ks rows) {r:Nat} (h:Span rows r):Sums ks (rows++[r]):=
 ⟨S.nd,λx=>by
  rw[S.all,gZ];refine⟨.inl,λq=>q.elim id λq=>?_⟩;have:=span_xor q h;rwa [b7] at this⟩
theorem Sums.few {ks rows:B'} (S:Sums ks rows) {t:Nat} (h:∀r∈rows,r < 2 ^ t):ks.length<=2 ^ t:=Fs _ _ S.nd λx L=>span_lt h ((S.all x).mp L)
end M
namespace Sx
open PySem L2
noncomputable abbrev nat (k:Nat):V:= .int (k:Int)
theorem sI {k:Nat} {A:z5} (r:Room k A):A.units + 100 < cLine:=by have:=r.un;omega
theorem iteB {c:V6} {A B:Prop} (h1:c=true->A) (h2:c=false->B):if c=true then A else B:=by
 cases c
 ·rw[n' iv];exact h2 rfl
 ·rw[qq rfl];exact h1 rfl
theorem zI (h:Nat):(2:Int) ^ h=((2 ^ h:Nat):Int):=by norm_cast
theorem shl1 (k:Nat):(1:Int) * 2 ^ ((k:Int).toNat)=((2 ^ k:Nat):Int):=by rw[pY,ah6];norm_cast
theorem Ml (a b:Nat):ak6 (a:Int) (b:Int)=((a||| b:Nat):Int):=by
 have O:WE (a:Int)= -(a:Int) - 1:=by first | rfl | (unfold WE;omega)
 have L:WE (b:Int)= -(b:Int) - 1:=by first | rfl | (unfold WE;omega)
 unfold ak6 WG;rw[gz (show ¬(0:Int)<=WE (a:Int) by rw[O];omega),gz (show ¬(0:Int)<=WE (b:Int) by rw[L];omega)];have n:∀x:Int,WE (WE x)=x:=λx=>by unfold WE;omega
 simp only[n,pY]
theorem eJ (a b:Nat):V4 (a:Int) (b:Int)=((a^^^b:Nat):Int):=by
 unfold V4;rw[Ml,eK];have:=M.or_sum a b;omega
theorem Cw:xo ((0:Nat):Int)=0:=by decide
theorem oG {m:Nat} (h:m≠0):xo (m:Int)=m.log2 + 1:=by
 unfold xo;have e:((m:Int) == 0)=false:=by rw[z0];omega
 rw[e,n' iv,Zr]
theorem FV (m i:Nat):WG ((m:Int) / 2 ^ ((0 + (i:Int)).toNat)) 1=if m.testBit i then 1 else 0:=by
 have O:(0 + (i:Int)).toNat=i:=by omega
 rw[O,zI];have L:(m:Int) / ((2 ^ i:Nat):Int)=((m>>>i:Nat):Int):=by rw[V3];norm_cast
 rw[L,show(1:Int)=((1:Nat):Int) from rfl,eK,Nat.and_one_is_mod]
 have:m.testBit i=(m>>>i % 2 == 1):=by
  rw[Nat.testBit_eq_decide_div_mod_eq,V3];rcases V5 (m / 2 ^ i) with h | h<;>rw[h]<;>rfl
 rw[this];rcases V5 (m>>>i) with h | h<;>rw[h]<;>rfl
structure En where
 a:dt
 m:Nat
 p:Nat
noncomputable def rJ (es:ee En):ee (Key×V):=es.map λe=>(W9 ((e.m.log2:Nat):Int),V.ref e.a)
theorem vg:∀(es:ee En) (z:Int),(∃e∈es,((e.m.log2:Nat):Int)=z/\valV (rJ es) (W9 z)=ag (.ref e.a))∨((∀e∈es,((e.m.log2:Nat):Int)≠z)/\valV (rJ es) (W9 z)=fy)
 | [],z=> .inr ⟨λ_ h=>hB h @F,rfl⟩
 | e::es,z=>by
   by_cases h:((e.m.log2:Nat):Int)=z
   ·exact .inl ⟨e,wq ..,h,og (by show(W9 _:Key)=_;rw[h])⟩
   ·have L:valV (rJ (e::es)) (W9 z)=valV (rJ es) (W9 z):=oh (by show ¬(W9 _:Key)=_;intro q;exact h (am1 q));rcases vg es z with ⟨x,hx,Y,O⟩ | ⟨h1,h2⟩
    ·exact .inl ⟨x,z4 _ hx,Y,by rw[L];exact O⟩
    ·refine .inr ⟨λx hx=>?_,by rw[L];exact h2⟩;rcases xY.mp hx with rfl | hx
     ·exact h
     ·exact h1 x hx
theorem Fk {kvs:ee (Key×V)} {k:Key} {v:V} (h:valV kvs k=fy):putK kvs k v=kvs++[(k,v)]:=by
 unfold putK;rw[qr,h];rfl
structure StA (H:Hp) (C p d f n:dt) (rows:B'):Prop where
 ho:∃dx,H p=ag (.ins C dx [("by_top",.ref d),("free_places",.ref f),("null_masks",.ref n)])
 he:∃es:ee En,H d=ag (.dK (rJ es))/\(∀e∈es,H e.a=ag (.tup [nat e.m,nat e.p]))/\M.Ech (es.map λe=>(e.m,e.p)) rows/\es.length=(M.fr rows).length
 hf:H f=ag (.lst ((M.fr rows).map nat))
 hn:∃nms,H n=ag (.lst (nms.map nat))/\M.Nul nms rows
 ne:f≠n
theorem StA.same {H H2:Hp} {C p d f n:dt} {rows:B'} (x:StA H C p d f n rows) (s:Same H H2):StA H2 C p d f n rows where
 ho:=let ⟨dx,h⟩:=x.ho;⟨dx,s _ _ h⟩
 he:=let ⟨es,h,t,g,l⟩:=x.he;⟨es,s _ _ h,λe he=>s _ _ (t e he),g,l⟩
 hf:=s _ _ x.hf
 hn:=let ⟨nms,h,g⟩:=x.hn;⟨nms,s _ _ h,g⟩
 ne:=x.ne
theorem StA.null {H H2:Hp} {C p d f n:dt} {rows:B'} (x:StA H C p d f n rows) {r q:Nat} (hq:q < 2 ^ rows.length) (e:r^^^M.sm rows q=0) {nms:B'} (hn:M.Nul nms rows) (hl:H n=ag (.lst (nms.map nat)))
  (u:Upd H H2 n (.lst (nms.map nat++[nat (q^^^2 ^ rows.length)]))):StA H2 C p d f n (rows++[r]):=by
 obtain⟨dx,ho⟩:=x.ho;obtain⟨es,hd,ht,g,l⟩:=x.he;obtain⟨hs,g2⟩:=g.null hq e;refine⟨⟨dx,u.oth _ _ (cn ho hl @F) ho⟩,⟨es,u.oth _ _ (cn hd hl @F) hd,λe he=>u.oth _ _ (cn (ht e he) hl @F) (ht e he),g2,by rw[M.fr_in hs];exact l⟩,?_,⟨nms++[q^^^2 ^ rows.length],?_,hn.snoc hq e hs⟩,x.ne⟩
 ·rw[M.fr_in hs];exact u.oth _ _ x.ne x.hf
 ·rw[fI];exact u.at'
theorem StA.more {H H2 α Z:Hp} {C p d f n t:dt} {rows:B'} (x:StA H C p d f n rows) {r q:Nat} (hq:q < 2 ^ rows.length) (e:r^^^M.sm rows q≠0) (hn:∀y,M.Span rows y->y≠0->y.log2≠(r^^^M.sm rows q).log2) (hf:M.Frs rows q)
  (u:Upd H H2 f (.lst ((M.fr rows).map nat++[nat rows.length]))) (s:Same H2 α) (ht:α t=ag (.tup [nat (r^^^M.sm rows q),nat (q^^^2 ^ rows.length)])) {es:ee En} (hd:H d=ag (.dK (rJ es))) (δ:∀e∈es,H e.a=ag (.tup [nat e.m,nat e.p])) (g:M.Ech (es.map λe=>(e.m,e.p)) rows) (l:es.length=(M.fr rows).length)
  (L:Upd α Z d (.dK (putK (rJ es) (W9 (((r^^^M.sm rows q).log2:Nat):Int)) (.ref t)))):StA Z C p d f n (rows++[r]):=by
 obtain⟨dx,ho⟩:=x.ho;obtain⟨nms,Y,γ⟩:=x.hn;have ω:∀e∈es.map (λe=>(e.m,e.p)),e.1.log2≠(r^^^M.sm rows q).log2:=λe he=>hn e.1 (g.span he) (g.nz e he);obtain⟨hs,g2⟩:=g.more hq e ω hf;have O:=s _ _ (u.oth _ _ (cn hd x.hf @F) hd)
 have β:valV (rJ es) (W9 (((r^^^M.sm rows q).log2:Nat):Int))=none:=by
  rcases vg es (((r^^^M.sm rows q).log2:Nat):Int) with ⟨z,hz,ε,_⟩ | ⟨_,h⟩
  ·exact hB (Int.ofNat_inj.mp ε) (ω (z.m,z.p) (ik.mpr ⟨z,hz,rfl⟩))
  ·exact h
 have go:∀(b:dt) (ob:HO),H b=ag ob->b≠f->b≠d->Z b=ag ob:=λb ob h h1 h2=>L.oth _ _ h2 (s _ _ (u.oth _ _ h1 h));refine⟨⟨dx,go _ _ ho (cn ho x.hf @F) (cn ho hd @F)⟩,⟨es++[⟨t,r^^^M.sm rows q,q^^^2 ^ rows.length⟩],?_,λe he=>?_,?_,?_⟩,?_,⟨nms,go _ _ Y (Wf x.ne) (cn Y hd @F),γ.keep hs⟩,x.ne⟩
 ·rw[L.at',Fk β];unfold rJ;rw[fI];rfl
 ·rcases gF.mp he with he | he
  ·exact go _ _ (δ e he) (cn (δ e he) x.hf @F) (cn (δ e he) hd @F)
  ·rw[gn] at he;subst he;exact L.oth _ _ (cn ht O @F) ht
 ·rw[fI];exact g2
 ·rw[M.fr_out hs,gs,gs,l];rfl
 ·rw[M.fr_out hs,fI];exact L.oth _ _ (λz=>by rw[z] at x;have:=x.hf;rw[hd] at this;cases this) (s _ _ u.at')
def Sq (C:dt):Sp:=λvs H Q _=>∃p d f n rows x,vs=[.ref p,nat x]/\StA H C p d f n rows/\
 ∀t H2 q,H t=fy->Same H H2->H2 t=ag (.tup [nat (x^^^M.sm rows q),nat q])->q < 2 ^ rows.length->(x^^^M.sm rows q≠0->∀y,M.Span rows y->y≠0->y.log2≠(x^^^M.sm rows q).log2)->M.Frs rows q->Q (.ref t) H2
def Sr (C:dt):Sp:=λvs H Q _=>∃p d f n rows r,vs=[.ref p,nat rows.length,nat r]/\StA H C p d f n rows/\rows.length<=1000/\
 ∀H2,(∀b o,b≠d->b≠f->b≠n->H b=ag o->H2 b=ag o)->StA H2 C p d f n (rows++[r])->Q .non H2
def Qf (C:dt):Sp:=λvs H Q _=>∃x dx r rows,vs=[.ref x,.ref r]/\H r=ag (.lst (rows.map nat))/\rows.length<=1000/\H x=ag (.ins C dx [])/\
 ∀H2 d f n,(∀b o,b≠x->H b=ag o->H2 b=ag o)->StA H2 C x d f n rows->Q .non H2
def Qu:Sp:=λvs H Q _=>∃r rows,vs=[.ref r]/\H r=ag (.lst (rows.map nat))/\rows.length<=1000/\∀D H2,H D=fy->Same H H2->H2 D=ag (.lst ((M.fr rows).map nat))->Q (.ref D) H2
theorem aF {α:Type} {f:α->V} {ws:ee α} {i:Nat} {x:V} (h:(ws.map f)[i]? =ag x):∃k,ws[i]? =ag k/\x=f k:=by
 rw[kf] at h;cases e:ws[i]? with
 | none=>rw[e] at h;cases h
 | some k=>rw[e] at h;exact⟨k,rfl,(vu h).symm⟩
theorem take_succ {α:Type} {ws:ee α} {i:Nat} {w:α} (h:ws[i]? =ag w):ws.take (i + 1)=ws.take i++[w]:=by rw[YX,h];rfl
theorem E7 {α:Type} {ws:ee α} {i:Nat} {w:α} (h:ws[i]? =ag w):(ws.take i).length=i:=by
 rw[sv];have:=(b'.mp h).1;omega
theorem w4 (ns:B'):(ns.map nat).all nS=true:=by simp[nS]
theorem Fd {K:ak} {H:Hp} {Q:VK} {neg:V6} {p q:dt} {ns:B'} (e:SqL K H p (ns.map nat)) (L:SqL K H q (ns.map nat)) (h:Q (.bl (!neg)) H):rEqL K neg (.ref p) (.ref q) H Q:=by
 refine⟨p,q,_,_,rfl,rfl,e,L,w4 ns,w4 ns,?_⟩;rw[LS (w4 ns)];cases neg<;>exact h
theorem FC {A:z5} {k:Nat} (hr:Room k A):A.units < cLine:=by have:=hr.un;omega
theorem FP (ns:E') (lo hi:pa Int):∃α:E',cutV (ns.map V.int) lo hi=α.map V.int/\α.length<=ns.length:=by
 refine⟨(ns.drop (HT.sIx (ns.map V.int).length 0 lo)).take (HT.sIx (ns.map V.int).length (ns.map V.int).length hi - HT.sIx (ns.map V.int).length 0 lo),?_,?_⟩
 ·unfold cutV;rw[YG,an4]
 ·rw[sv,XI];omega
def O3:Sp:=λvs H Q _=>∃c k,vs=[.int c,.int k]/\0<=k/\k < 100000/\∀r:Nat,r < 2147483587->Q (nat r) H
def E9 (K:ak):Sp:=λvs H Q _=>∃(a:dt) (ns:E'),vs=[.ref a]/\SqL K H a (ns.map V.int)/\ns.length<=63/\∀H',Q (.bl true) H'
theorem VG {H:Hp} {Q:VK} {E:XK} {c k:Int} (h0:0<=k) (h1:k < 100000) (q:∀r:Nat,r < 2147483587->Q (nat r) H):O3 [.int c,.int k] H Q E:=⟨c,k,rfl,h0,h1,q⟩
structure Prs (H:Hp) (ws:B') (D:dt) (ps:ee (dt×Nat)):Prop where
 l:H D=ag (.lst (ps.map λq=>V.ref q.1))
 t:∀q∈ps,H q.1=ag (.tup [nat q.2,nat (M.sm ws q.2)])
 b:∀q∈ps,q.2 < 2 ^ ws.length
end Sx
namespace M
theorem sm_append:∀(a b:B') (p:Nat),sm (a++b) p=sm a p^^^sm b (p / 2 ^ a.length)
 | [],b,p=>by show sm b p=0^^^sm b (p / 1);rw[Xe,Nat.div_one]
 | r::a,b,p=>by
   show(if p.testBit 0 then r else 0)^^^sm (a++b) (p / 2)=((if p.testBit 0 then r else 0)^^^sm a (p / 2))^^^sm b (p / 2 ^ (a.length + 1));rw[sm_append a b (p / 2),Wb,Nat.div_div_eq_div_mul,XT,ac7 2]
theorem sm_two_pow:∀(l:B') (j:Nat),sm l (2 ^ j)=l.getD j 0
 | [],j=>by simp[sm]
 | r::l,0=>by
   show(if (2 ^ 0).testBit 0 then r else 0)^^^sm l (2 ^ 0 / 2)=r;rw[show(2 ^ 0:Nat) / 2=0 from rfl,sm_zero];simp
 | r::l,j + 1=>by
   show(if (2 ^ (j + 1)).testBit 0 then r else 0)^^^sm l (2 ^ (j + 1) / 2)=l.getD j 0;have O:(2 ^ (j + 1)) / 2=2 ^ j:=by rw[XT];omega
   have L:(2 ^ (j + 1)).testBit 0=false:=by rw[v'];simp
   rw[O,L,sm_two_pow l j];simp
theorem uX {P:B'->Prop} (h0:P []) (hs:∀l w,P l->P (l++[w])):∀l,P l:=by
 intro l;rw[<-ah0 l];generalize l.reverse=k
 induction k with
 | nil=>exact h0
 | cons a k ih=>rw[Yp];exact hs _ _ ih
theorem pl_next (i m:Nat):pl (i + 1) m=pl i m++(if m.testBit i then [i] else []):=by
 unfold pl;rw[X7,Wu];congr 1;by_cases h:m.testBit i=true
 ·rw[qq h];simp[h]
 ·rw[n' h];simp[h]
theorem pl_le (i m:Nat):(pl i m).length<=i:=by
 have:=WJ m.testBit (lj i);rw[S'] at this;exact this
theorem pl_lt {w m n:Nat} (h:m < 2 ^ n):∀x∈pl w m,x < n:=by
 intro x L;have hb:=(WB.mp L).2;refine al0 λhn=>?_;rw[ry (hA h (hL @C hn))] at hb;cases hb
noncomputable def xs (rows ps:B'):Nat:=ps.foldl (λa k=>a^^^rows.getD k 0) 0
end M
namespace Sx
open PySem L2
theorem Q9 (l:B'):l.map nat=(l.map λ(k:Nat)=>(k:Int)).map V.int:=by rw[y2];rfl
theorem EB (m:Nat):m < 2 ^ xo (m:Int):=by
 by_cases h:m=0
 ·subst h;decide
 ·rw[oG h];exact X9
theorem EC {m w:Nat} (hm:m < 2 ^ w):xo (m:Int)<=w:=by
 by_cases h:m=0
 ·subst h;rw[Cw];exact VY _
 ·rw[oG h];exact(Zc h).mpr hm
def Qp:Sp:=λvs H Q _=>∃m:Nat,vs=[nat m]/\m < 2 ^ 1000/\∀D H2,H D=fy->Same H H2->H2 D=ag (.lst ((M.pl 1000 m).map nat))->Q (.ref D) H2
end Sx
namespace M
noncomputable abbrev od (m:Nat):Bool:=pb 1000 m
theorem od_xor (a b:Nat):od (a^^^b)=(od a^^od b):=Ph 1000 a b
theorem and_xor (m a b:Nat):m&&&(a^^^b)=(m&&&a)^^^(m&&&b):=by
 apply oe;intro i;simp only[WS,KI];cases m.testBit i<;>simp
theorem IJ (m a b:Nat):(a^^^b)&&&m=(a&&&m)^^^(b&&&m):=by
 apply oe;intro i;simp only[WS,KI];cases m.testBit i<;>simp
theorem zL:∀w:Nat,pb w 0=false
 | 0=>rfl
 | w + 1=>by show((0:Nat).testBit w^^pb w 0)=false;rw[zL w];simp
theorem pb_pow {w t:Nat} (h:t < w):pb w (2 ^ t)=true:=by
 rw[pb_up (w:=t + 1) (V7 @C @A) h];show((2 ^ t).testBit t^^pb t (2 ^ t))=true
 have e:pb t (2 ^ t)=false:=by
  rw[<-Kv,Nat.mod_self,zL]
 rw[e,WV];rfl
theorem QT (t y:Nat):2 ^ t&&&y=if y.testBit t then 2 ^ t else 0:=by
 apply oe;intro i;rw[WS,v'];by_cases h:t=i
 ·subst h;cases y.testBit t<;>simp
 ·cases y.testBit t<;>simp[h,v']
theorem od_pow {t:Nat} (h:t < 1000) (y:Nat):od (2 ^ t&&&y)=y.testBit t:=by
 rw[QT];cases y.testBit t with
 | true=>rw[qq rfl];exact pb_pow h
 | false=>rw[n' iv];exact zL 1000
theorem od_zero:od 0=false:=zL 1000
theorem Pl {y k:Nat} (h:y < 2 ^ k):y.testBit k=false:=ry h
theorem Ja {y t k:Nat} (h:y≠0) (e:y.log2=t) (l:t < k):y < 2 ^ k:=hA (by rw[<-e];exact X9) (hL @C l)
structure Bar (rows:B') (b m:Nat):Prop where
 ev:∀y,Span rows y->od (m&&&y)=false
 bit:m.testBit b=true
 low:∀k,k < b->m.testBit k=false
 oth:∀k,k≠b->(∀y,Span rows y->y≠0->y.log2≠k)->m.testBit k=false
 lt:∀W,(∀r∈rows,r < 2 ^ W)->b < W->m < 2 ^ W
structure BarI (es:A') (ts:B') (b m:Nat):Prop where
 ev:∀e∈es,e.1.log2∈ts->od (m&&&e.1)=false
 bit:m.testBit b=true
 low:∀k,k < b->m.testBit k=false
 oth:∀k,k≠b->(∀e∈es,e.1.log2≠k)->m.testBit k=false
 lt:∀W,(∀e∈es,e.1 < 2 ^ W)->b < W->m < 2 ^ W
theorem BarI.zero (es:A') (b:Nat):BarI es [] b (2 ^ b) where
 ev:=λ_ _ h=>hB h @F
 bit:=WV
 low:=λk h=>by rw[v'];simp;omega
 oth:=λk h _=>by rw[v'];simp;omega
 lt:=λW _ h=>V7 @C h
theorem N7 {m y b:Nat} (h:∀k,k < b->m.testBit k=false) (hy:y < 2 ^ b):m&&&y=0:=by
 apply oe;intro i;rw[WS,X8];by_cases hi:i < b
 ·rw[h i hi];rfl
 ·rw[ry (hA hy (hL @C @A))];simp
theorem E2 {es:A'} (nd:(es.map λe=>e.1.log2).Nodup) {e f:Nat×Nat} (he:e∈es) (hf:f∈es) (h:e.1.log2=f.1.log2):e=f:=by
 obtain⟨i,hi,rfl⟩:=Wp.mp he;obtain⟨j,L,rfl⟩:=Wp.mp hf
 have χ:∀i j (hi:i < es.length) (L:j < es.length),i < j->es[i].1.log2≠es[j].1.log2:=λi j hi L O=>by
  have:=ac3.mp nd i j (by rw[a'];exact hi) (by rw[a'];exact L) O;rw[Z7,Z7] at this;exact this
 rcases XB i j with h1 | h1 | h1
 ·exact hB h (χ i j hi L h1)
 ·subst h1;rfl
 ·exact hB h.symm (χ j i L hi h1)
theorem BarI.keep {es:A'} {ts:B'} {b m:Nat} (I:BarI es ts b m) {e:Nat×Nat} (nd:(es.map λe=>e.1.log2).Nodup) (he:e∈es) (h:od (m&&&e.1)=false):BarI es (ts++[e.1.log2]) b m where
 ev:=λf hf hm=>by
  rcases gF.mp hm with hm | hm
  ·exact I.ev f hf hm
  ·rw[gn] at hm;rw[E2 nd hf he hm];exact h
 bit:=I.bit
 low:=I.low
 oth:=I.oth
 lt:=I.lt
theorem BarI.flip {es:A'} {ts:B'} {b m:Nat} (I:BarI es ts b m) {e:Nat×Nat} (nd:(es.map λe=>e.1.log2).Nodup) (nz:∀e∈es,e.1≠0) (he:e∈es) (h:od (m&&&e.1)=true) (up:∀t∈ts,t < e.1.log2) (hb:e.1.log2≠b) (L:e.1.log2 < 1000):BarI es (ts++[e.1.log2]) b (m^^^2 ^ e.1.log2):=by
 have ω:b < e.1.log2:=by
  refine Nat.lt_of_le_of_ne (ZV λO=>?_) (Wf hb);rw[N7 I.low (Ja (nz e he) rfl O),od_zero] at h;cases h
 have Z:=nz e he;refine⟨λf hf hm=>?_,?_,λk hk=>?_,λk hk hn=>?_,λW Y ο=>?_⟩
 ·rw[IJ,od_xor,od_pow L];rcases gF.mp hm with hm | hm
  ·rw[I.ev f hf hm,Pl (Ja (nz f hf) rfl (up _ hm))];rfl
  ·rw[gn] at hm;rw[E2 nd hf he hm,h,oH Z];rfl
 ·rw[KI,I.bit,v'];simp;omega
 ·rw[KI,I.low k hk,v'];simp;omega
 ·rw[KI,I.oth k hk hn,v'];have:=hn e he;simp;omega
 ·exact xor_lt_pow (I.lt W Y ο) (Wl (al1 Z) (Y e he))
theorem Ech.even_all {es:A'} {rows:B'} (g:Ech es rows) {m:Nat} (h:∀e∈es,od (m&&&e.1)=false):∀y,Span rows y->od (m&&&y)=false:=by
 intro y
 induction y using am2 with
 | ind y ih=>
   intro O;by_cases L:y=0
   ·subst L;rw[Z2,od_zero]
   ·obtain⟨e,he,el⟩:=g.all y O L;have Z:=g.nz e he;have hl:=xor_less L Z el.symm;have h1:=ih _ hl (span_xor O (g.span he));have h2:=h e he;have Y:od (m&&&(y^^^e.1))=(od (m&&&y)^^od (m&&&e.1)):=by rw[and_xor,od_xor]
    rw[h1,h2] at Y;simpa using Y.symm
theorem BarI.done {es:A'} {rows:B'} (g:Ech es rows) {ts:B'} {b m:Nat} (I:BarI es ts b m) (all:∀e∈es,e.1.log2∈ts):Bar rows b m where
 ev:=g.even_all λe he=>I.ev e he (all e he)
 bit:=I.bit
 low:=I.low
 oth:=λk hk h=>I.oth k hk λe he=>h e.1 (g.span he) (g.nz e he)
 lt:=λW L hb=>I.lt W (λe he=>span_lt L (g.span he)) hb
theorem Bar.odd {rows:B'} {b m x q:Nat} (B:Bar rows b m) (h0:x^^^sm rows q≠0) (hb:(x^^^sm rows q).log2=b) (L:b < 1000):od (m&&&x)=true:=by
 have Y:m&&&x=(m&&&(x^^^sm rows q))^^^(m&&&sm rows q):=by rw[<-and_xor,b7]
 rw[Y,od_xor,B.ev _ (sm_span rows q)]
 have O:m&&&(x^^^sm rows q)=2 ^ b:=by
  apply oe;intro i;rw[WS,v'];rcases XB i b with h | h | h
  ·rw[B.low i h];simp;omega
  ·subst h;rw[B.bit,<-hb,oH h0];simp
  ·rw[Pl (Ja h0 hb h)];simp;omega
 rw[O];show(pb 1000 (2 ^ b)^^false)=true;rw[pb_pow L];rfl
theorem Ga:∀rows:B',∃ks,Sums ks rows/\ks.length=2 ^ (fr rows).length:=by
 refine uX ⟨[0],Sums.zero,rfl⟩ λrows r ih=>?_;obtain⟨ks,S,e⟩:=ih;by_cases h:Span rows r
 ·exact⟨ks,S.keep h,by rw[fr_in h];exact e⟩
 ·refine⟨_,S.step h,?_⟩;rw[fr_out h,gs,gs,a',e,V8,XT];omega
theorem Kd {rows:B'} {t:Nat} (h:∀r∈rows,r < 2 ^ t):(fr rows).length<=t:=by
 obtain⟨ks,S,e⟩:=Ga rows;have:=S.few h;rw[e] at this;exact(Nat.pow_le_pow_iff_right @C).mp this
theorem pb_half (w m:Nat):pb (w + 1) m=(m.testBit 0^^pb w (m / 2)):=by
 rw[Nat.add_comm,uZ 1 w m,V3];congr 1;show(m.testBit 0^^false)=_;simp
theorem sum_uniq {rows:B'} {p q:Nat} (hp:Frs rows p) (hq:Frs rows q) (e:sm rows p=sm rows q):p=q:=by
 refine Classical.byContradiction λO=>?_;have hf:=hp.xor hq;have hz:sm rows (p^^^q)=0:=by rw[sm_xor,e,Xo]
 have β:p^^^q≠0:=λz=>O (by have:=ri (·^^^q) z;simpa[b7] using this);generalize p^^^q=z at hf hz β;obtain⟨hi,hn⟩:=hf z.log2 (oH β);apply hn;have γ:z=(z^^^2 ^ z.log2)^^^2 ^ z.log2:=(b7 _ _).symm
 have Y:z^^^2 ^ z.log2 < 2 ^ z.log2:=by
  have:=EW β (show 2 ^ z.log2≠0 from Xz (qb _)) (by rw[Nat.log2_two_pow]);exact this
 generalize ζ:z^^^2 ^ z.log2=y at γ Y;generalize z.log2=t at γ Y hi
 have θ:rows=rows.take t++(rows.getD t 0::rows.drop (t + 1)):=by
  rw[eY,eF hi];show rows=rows.take t++(rows[t]::rows.drop (t + 1));rw[<-List.drop_eq_getElem_cons hi,X2]
 have α:∀(L bs:B') (s:Nat),s < 2 ^ L.length->sm (L++bs) s=sm L s:=by
  intro L bs
  induction L with
  | nil=>
    intro s hs;have ε:s=0:=by have:s < 1:=hs;omega
    rw[ε,sm_zero,sm_zero]
  | cons a L ih=>
    intro s hs;show(if s.testBit 0 then a else 0)^^^sm (L++bs) (s / 2)=(if s.testBit 0 then a else 0)^^^sm L (s / 2);rw[ih (s / 2) (by rw[V1,XT] at hs;omega)]
 have Z:(rows.take t).length=t:=by rw[sv];omega
 have h1:sm rows y=sm (rows.take t) y:=by
  conv=>lhs;rw[θ]
  exact α _ _ y (by rw[Z];exact Y)
 have h2:sm rows (2 ^ t)=rows.getD t 0:=by
  have δ:rows=(rows.take t++[rows.getD t 0])++rows.drop (t + 1):=by rw[VW];exact θ
  conv=>lhs;rw[δ]
  rw[α _ _ (2 ^ t) (by rw[gs,Z,V8];exact V7 @C @A)];have:=JJ (rows.take t) (rows.getD t 0);rw[Z] at this;exact this
 rw[γ,sm_xor,h1,h2] at hz
 have:rows.getD t 0=sm (rows.take t) y:=by
  have:=ri (sm (rows.take t) y^^^·) hz;simp only[<-Wb,Xo,Xe,Wa] at this;exact this
 rw[this];exact sm_span _ _
theorem E8 {l:B'} {m:Nat} (h:m∈l):Span l m:=by
 obtain⟨j,L,rfl⟩:=Wp.mp h;have:=sm_span l (2 ^ j);rw[sm_two_pow,eY,eF L] at this;exact this
end M
namespace Sx
open PySem L2
noncomputable def cell (ns:E') (k:Int):Int:=if k < ns.length then ns.getD k.toNat 0 else 41 * k + 3
def Fb (K:ak):Sp:=λvs H Q _=>∃(p:dt) (ns:E') (k:Int),vs=[.ref p,.int k]/\SqL K H p (ns.map V.int)/\0<=k/\Q (.int (cell ns k)) H
theorem xx {K:ak} {H:Hp} {Q:VK} {E:XK} {p:dt} {ns:E'} {k:Int} (e:SqL K H p (ns.map V.int)) (h0:0<=k) (q:Q (.int (cell ns k)) H):Fb K [.ref p,.int k] H Q E:=⟨p,ns,k,rfl,e,h0,q⟩
def Qn:Sp:=λvs H Q _=>∃m:Nat,vs=[nat m]/\m < 2 ^ 1000/\Q (.bl (!M.od m)) H
theorem LR (n h:Nat):V4 ((n:Int) / 2 ^ ((h:Int).toNat)) (WG (n:Int) (1 * 2 ^ ((h:Int).toNat) - 1))=(((n>>>h)^^^(n&&&(2 ^ h - 1)):Nat):Int):=by
 rw[pY,ah6,zI];have O:(n:Int) / ((2 ^ h:Nat):Int)=((n>>>h:Nat):Int):=by rw[V3];norm_cast
 have L:((2 ^ h:Nat):Int) - 1=((2 ^ h - 1:Nat):Int):=by have:=qb h;omega
 rw[O,L,eK,eJ]
theorem Lp (δ:Nat):((δ:Int) + 1) / 2=(((δ + 1) / 2:Nat):Int):=by omega
theorem N4 {n:Nat} (h:n < 2):decide (nat n=V.int 0)= !M.od n:=by
 have:n=0∨n=1:=by omega
 rcases this with rfl | rfl
 ·rw[M.od_zero];decide
 ·rw[show M.od 1=true from M.pb_pow (t:=0) @C];decide
def UX (rows:B') (b:Nat):Prop:=∀y,M.Span rows y->y≠0->y.log2≠b
def Sv (C:dt):Sp:=λvs H Q _=>∃(p d f n:dt) (rows:B') (b:Nat),vs=[.ref p,nat b]/\StA H C p d f n rows/\b < 1000/\(∀r∈rows,r < 2 ^ 1000)/\(M.fr rows).length < 64/\UX rows b/\
 ∀m H2,Same H H2->M.Bar rows b m->Q (nat m) H2
structure Acr (rows:B') (wd:Nat) (ms:B'):Prop where
 len:ms.length + (M.fr rows).length=wd
 inj:M.Inj ms
 lt:∀m∈ms,m < 2 ^ wd
 ev:∀m∈ms,∀y,M.Span rows y->M.od (m&&&y)=false
 all:∀z,z < 2 ^ wd->(∀y,M.Span rows y->M.od (z&&&y)=false)->M.Span ms z
theorem Oa (es:ee En):(rJ es).map (·.1)=(es.map λe=>((e.m.log2:Nat):Int)).map Sum.inl:=by unfold rJ;rw[y2,y2];rfl
theorem C2 {es:ee En} {ns:E'} (hp:ns.Perm (es.map λe=>((e.m.log2:Nat):Int))) (hw:ns.Pairwise (·<=·)) (nd:(es.map λe=>e.m.log2).Nodup):
  ∃ts:B',ns=ts.map (λ(k:Nat)=>(k:Int))/\ts.Pairwise (· < ·)/\(∀t,t∈ts↔∃e∈es,e.m.log2=t):=by
 have hn:∀x∈ns,((x.toNat:Nat):Int)=x:=λx Y=>by
  obtain⟨e,_,rfl⟩:=ik.mp (hp.mem_iff.mp Y);omega
 have α:ns=(ns.map Z4).map (λ(k:Nat)=>(k:Int)):=by
  rw[y2];exact(map_id ns).symm.trans (Wx λx Y=>(hn x Y).symm)
 have L:(ns.map Z4).Perm (es.map λe=>e.m.log2):=by
  have:=hp.map Z4;rw[y2] at this;exact this
 refine⟨ns.map Z4,α,?_,λt=>?_⟩
 ·have O:(ns.map Z4).Nodup:=L.nodup_iff.mpr nd
  have Z:(ns.map Z4).Pairwise (·<=·):=by
   rw[Yq];exact hw.imp λh=>by omega
  exact List.Pairwise.imp (R:=λa b=>a<=b/\a≠b) (λh=>by omega) (List.Pairwise.and Z O)
 ·rw[L.mem_iff,ik]
end Sx
namespace M
noncomputable def cm (a b:Nat):Nat:=if b=0 then 0 else (if b % 2=1 then a else 0)^^^2 * cm a (b / 2)
termination_by b
decreasing_by omega
def Dv (d x:Nat):Prop:=∃q,cm q d=x
structure Rm (d x r:Nat):Prop where
 lt:r < 2 ^ d.log2
 dv:Dv d (x^^^r)
end M
namespace Sx
open PySem L2
noncomputable def dg (m:Nat):Int:=(xo (m:Int):Int) - 1
theorem Qx (a p:Nat):(a:Int) * 2 ^ ((p:Int).toNat)=((a * 2 ^ p:Nat):Int):=by rw[pY];push_cast;rfl
end Sx
namespace M
structure Ord (d e:Nat):Prop where
 pos:1<=e
 one:Rm d (2 ^ e) 1
 least:∀j,1<=j->j < e->¬Rm d (2 ^ j) 1
 le:e<=2 ^ d.log2
end M
namespace Sx
open PySem L2
noncomputable def IW (k:U'):Bool:=subB k "int"&& !subB k "bool"
noncomputable def p9 (x:V) (w:Int):Bool:=match x with
 | .int i=>decide (0<=i)&&decide (((xo i:Nat):Int)<=w)
 | _=>false
def uW (K:ak):Sp:=λvs H Q _=>∃x k,vs=[x]/\lC K H x k/\Q (.bl (IW k)) H
def C7 (K:ak):Sp:=λvs H Q _=>∃x k w,vs=[x,.int w]/\lC K H x k/\Q (.bl (p9 x w)) H
theorem dw {K:ak} {H:Hp} {Q:VK} {E:XK} {x:V} {k:U'} (hk:lC K H x k) (q:Q (.bl (IW k)) H):uW K [x] H Q E:=⟨x,k,rfl,hk,q⟩
theorem fX {K:ak} {H:Hp} {Q:VK} {E:XK} {x:V} {k:U'} {i:Int} (hk:lC K H x k) (q:Q (.bl (p9 x i)) H):C7 K [x,.int i] H Q E:=⟨x,k,i,rfl,hk,q⟩
theorem iM {c m:Int} (h:0 < m):∃k:Nat,c % m=(k:Int)/\(k:Int) < m:=by
 obtain⟨k,hk⟩:=W8 (x7 c (Int.ne_of_gt h));exact⟨k,hk,by rw[<-hk];exact tu c h⟩
theorem SI {H:Hp} {Q:VK} {l:dt} {k:Int} {xs:ee V} (e:H l=ag (.lst xs)) (h0: -(2 ^ 63)<=k) (h1:k < 2 ^ 63) (hz:xs.length * k.toNat<=ix) (h:∀p H2,H p=fy->Same H H2->H2 p=ag (.lst (p' k.toNat xs).flatten)->Q (.ref p) H2):rRep (.ref l) (.int k) H Q:=
 ⟨l,k,xs,rfl,rfl,e,h0,h1,hz,iZ h⟩
end Sx
namespace M
noncomputable def bn (b:V6):Nat:=if b then 1 else 0
noncomputable def pk (s:Nat->V6) (t:Nat):Nat->Nat
 | 0=>0
 | L + 1=>pk s t L^^^(if s (t + L) then 2 ^ L else 0)
theorem pk_lt (s:Nat->V6) (t:Nat):∀L,pk s t L < 2 ^ L
 | 0=>Nat.one_pos
 | L + 1=>by
   have ih:=pk_lt s t L;refine xor_lt_pow (hA ih (hL @C @A)) ?_;split
   ·exact V7 @C @A
   ·exact qb _
theorem pk_bit (s:Nat->V6) (t:Nat):∀L p,(pk s t L).testBit p=(decide (p < L)&&s (t + p))
 | 0,p=>by simp[pk]
 | L + 1,p=>by
   rw[pk,KI,pk_bit s t L p];rcases XB p L with h | h | h
   ·have e:(if s (t + L)=true then 2 ^ L else 0:Nat).testBit p=false:=by
     cases s (t + L)<;>simp[v'];omega
    rw[e];simp[h,show p < L + 1 by omega]
   ·subst h;cases hs:s (t + p)<;>simp[WV]
   ·have e:(if s (t + L)=true then 2 ^ L else 0:Nat).testBit p=false:=by
     cases s (t + L)<;>simp[v'];omega
    rw[e];simp[show ¬p < L by omega,show ¬p < L + 1 by omega]
theorem Fl {s u:Nat->V6} {t v:Nat}:∀{L:Nat},(∀p,p < L->s (t + p)=u (v + p))->pk s t L=pk u v L
 | 0,_=>rfl
 | L + 1,h=>by rw[pk,pk,Fl λp hp=>h p @A,h L @A]
noncomputable def lf (G:Nat):Nat->(Nat->V6)->Nat->V6
 | 0,_,_=>false
 | L + 1,s,t=>lf G L s t^^(G.testBit L&&s (t + L))
noncomputable def tr (L:B') (x:Nat):Nat:=pk (λk=>od (L.getD k 0&&&x)) 0 L.length
noncomputable def stt (L:B') (x:Nat):Nat->Nat
 | 0=>x
 | t + 1=>tr L (stt L x t)
noncomputable def ans (L:B') (o x t:Nat):Bool:=od (o&&&stt L x t)
noncomputable def lm (L G:Nat):B':=(lj (L - 1)).map (λp=>2 ^ (p + 1))++(if 0 < L then [G] else [])
end M
namespace Sx
open PySem L2
noncomputable abbrev Pr3:=dt×Nat×Nat
noncomputable def refs (ps:ee Pr3):ee V:=ps.map λq=>V.ref q.1
def Prt (H:Hp) (ps:ee Pr3):Prop:=∀q∈ps,H q.1=ag (.tup [nat q.2.1,nat q.2.2])
theorem Prt.same {H H2:Hp} {ps:ee Pr3} (x:Prt H ps) (s:Same H H2):Prt H2 ps:=λq h=>s _ _ (x q h)
structure MaA (H:Hp) (C p:dt) (m:Nat) (nx os:ee Pr3):Prop where
 ho:∃dx tn to,H p=ag (.ins C dx [("inputs",nat m),("nexts",.ref tn),("outs",.ref to)])/\H tn=ag (.tup (refs nx))/\H to=ag (.tup (refs os))
 hn:Prt H nx
 hs:Prt H os
theorem MaA.same {H H2:Hp} {C p:dt} {m:Nat} {nx os:ee Pr3} (x:MaA H C p m nx os) (s:Same H H2):MaA H2 C p m nx os:=
 ⟨let ⟨dx,L,to,a,b,c⟩:=x.ho;⟨dx,L,to,s _ _ a,s _ _ b,s _ _ c⟩,x.hn.same s,x.hs.same s⟩
noncomputable def sq (bs:ee V6):Nat->Bool:=λi=>bs.getD i false
def Jt:Sp:=λvs H Q _=>∃(r:dt) (ps:B'),vs=[.ref r]/\H r=ag (.lst (ps.map nat))/\(∀p∈ps,p < 1000)/\Q (nat (M.xm ps)) H
def Nl:Sp:=λvs H Q _=>∃(t:dt) (x y n m:Nat),vs=[.ref t,nat n,nat m]/\H t=ag (.tup [nat x,nat y])/\x < 2 ^ n/\y < 2 ^ m/\Q (.bl true) H
structure Tab (H:Hp) (n o:dt) (m:Nat) (nx os:ee Pr3):Prop where
 m6:m<=6
 n:H n=ag (.lst (refs nx))
 o:H o=ag (.lst (refs os))
 pn:Prt H nx
 po:Prt H os
 ln:nx.length<=120
 lo:os.length<=6
 bn:∀q∈nx++os,q.2.1 < 2 ^ nx.length/\q.2.2 < 2 ^ m
def Qo:Sp:=λvs H Q _=>∃(n o:dt) (m:Nat) (nx os:ee Pr3),vs=[nat m,.ref n,.ref o]/\Tab H n o m nx os/\∀H2,Same H H2->Q .non H2
def Qk (C:dt):Sp:=λvs H Q _=>∃(x dx n o:dt) (m:Nat) (nx os:ee Pr3),vs=[.ref x,nat m,.ref n,.ref o]/\H x=ag (.ins C dx [])/\Tab H n o m nx os/\∀H2,(∀b ob,b≠x->H b=ag ob->H2 b=ag ob)->MaA H2 C x m nx os->Q .non H2
def Jp (C:dt):Sp:=λvs H Q _=>∃(p:dt) (m:Nat) (nx os:ee Pr3),vs=[.ref p]/\MaA H C p m nx os/\Q (nat nx.length) H
structure Lfsr (nx os:ee Pr3) (L G:Nat):Prop where
 nx:nx.map (λq=>q.2.1)=M.lm L G
 os:∃t,os=[(t,(if 0 < L then 1 else 0),0)]
theorem gh {a n:Nat} (h:a < 2 ^ n):p9 (nat a) (n:Int)=true:=by
 have:=EC h;show(decide ((0:Int)<=(a:Int))&&decide (((xo (a:Int):Nat):Int)<=(n:Int)))=true;rw[hG @A,hG @A];rfl
theorem P4 {ps:B'} {i k:Nat} (h:ps[i]? =ag k):M.xm (ps.take (i + 1))=M.xm (ps.take i)^^^2 ^ k:=by rw[take_succ h];unfold M.xm;rw[Wk];rfl
theorem U7 {w m:Nat} (h:m < 2 ^ w):M.xm (M.pl w m)=m:=M.xm_ext h λk=>rfl
noncomputable abbrev ms (nx:ee Pr3):B':=nx.map λq=>q.2.1
end Sx
namespace M
noncomputable def tr2 (ps:A') (x r:Nat):Nat:=pk (λk=>od ((ps.getD k (0,0)).1&&&x)^^od ((ps.getD k (0,0)).2&&&r)) 0 ps.length
theorem tr2_bit (ps:A') (x r k:Nat):(tr2 ps x r).testBit k=(decide (k < ps.length)&&(od ((ps.getD k (0,0)).1&&&x)^^od ((ps.getD k (0,0)).2&&&r))):=by unfold tr2;rw[pk_bit,WQ]
theorem tr2_lt (ps:A') (x r:Nat):tr2 ps x r < 2 ^ ps.length:=pk_lt _ _ _
theorem tr2_snoc (ps:A') (p:Nat×Nat) (x r:Nat):tr2 (ps++[p]) x r=tr2 ps x r^^^(if (od (p.1&&&x)^^od (p.2&&&r)) then 2 ^ ps.length else 0):=by
 unfold tr2;rw[gs,V8,pk,WQ];have O:(ps++[p]).getD ps.length (0,0)=p:=by rw[eY,V0 (ov _),ac6];rfl
 rw[O]
 have L:pk (λk=>od (((ps++[p]).getD k (0,0)).1&&&x)^^od (((ps++[p]).getD k (0,0)).2&&&r)) 0 ps.length=pk (λk=>od ((ps.getD k (0,0)).1&&&x)^^od ((ps.getD k (0,0)).2&&&r)) 0 ps.length:=Fl λk hk=>by
  rw[WQ,eY,eY,P' hk]
 rw[L]
theorem mX (ps:A') (x y r s:Nat):tr2 ps (x^^^y) (r^^^s)=tr2 ps x r^^^tr2 ps y s:=by
 apply oe;intro i;rw[KI,tr2_bit,tr2_bit,tr2_bit,and_xor,od_xor,and_xor,od_xor];cases decide (i < ps.length)<;>cases od ((ps.getD i (0,0)).1&&&x)<;>cases od ((ps.getD i (0,0)).1&&&y)<;>cases od ((ps.getD i (0,0)).2&&&r)<;>cases od ((ps.getD i (0,0)).2&&&s)<;>rfl
theorem qv (ps:A'):tr2 ps 0 0=0:=by
 apply oe;intro i;rw[tr2_bit,Z2,Z2,od_zero];simp
noncomputable def wst (ps:A'):Nat->B'->Nat
 | x,[]=>x
 | x,r::rs=>wst ps (tr2 ps x r) rs
noncomputable def wan (ps os:A'):Nat->B'->B'
 | _,[]=>[]
 | x,r::rs=>tr2 os x r::wan ps os (tr2 ps x r) rs
theorem wst_snoc (ps:A') (r:Nat):∀(rs:B') (x:Nat),wst ps x (rs++[r])=tr2 ps (wst ps x rs) r
 | [],_=>rfl
 | _::rs,_=>wst_snoc ps r rs _
theorem wan_snoc (ps os:A') (r:Nat):∀(rs:B') (x:Nat),wan ps os x (rs++[r])=wan ps os x rs++[tr2 os (wst ps x rs) r]
 | [],_=>rfl
 | _::rs,_=>ri (_::·) (wan_snoc ps os r rs _)
theorem wan_len (ps os:A'):∀(rs:B') (x:Nat),(wan ps os x rs).length=rs.length
 | [],_=>rfl
 | _::rs,_=>ri (· + 1) (wan_len ps os rs _)
theorem wst_lt {ps:A'}:∀{rs:B'} {x:Nat},x < 2 ^ ps.length->wst ps x rs < 2 ^ ps.length
 | [],_,h=>h
 | r::rs,x,_=>wst_lt (rs:=rs) (tr2_lt ps x r)
theorem xm_snoc (qs:B') (k:Nat):xm (qs++[k])=xm qs^^^2 ^ k:=by unfold xm;rw[Wk];rfl
theorem rev_ind {α:Type} {P:ee α->Prop} (h0:P []) (h1:∀l x,P l->P (l++[x])) (l:ee α):P l:=by
 have:∀l:ee α,P l.reverse:=λl=>by
  induction l with
  | nil=>exact h0
  | cons x l ih=>rw[Yp];exact h1 _ _ ih
 have:=this l.reverse;rwa [ah0] at this
theorem P2 {f k:Nat} (h:f < 2 ^ k):f^^^2 ^ k=f + 2 ^ k:=by
 have h1:=or_sum f (2 ^ k)
 have h2:f&&&2 ^ k=0:=by
  apply oe;intro i;rw[WS,v'];by_cases hi:k=i
  ·subst hi;rw[ry h];simp
  ·simp[hi]
 have L:=Nat.two_pow_add_eq_or_of_lt h 1;rw[Nat.mul_one,Nat.or_comm] at L;omega
theorem tr2_step {ps:A'} {i:Nat} {q:Nat×Nat} (x r:Nat) (h:ps[i]? =ag q):tr2 (ps.take (i + 1)) x r=tr2 (ps.take i) x r + (if (od (q.1&&&x)^^od (q.2&&&r)) then 2 ^ i else 0):=by
 have hi:=(b'.mp h).1;have hl:(ps.take i).length=i:=by rw[sv];omega
 have e:ps.take (i + 1)=ps.take i++[q]:=by rw[Zx,h];rfl
 rw[e,tr2_snoc,hl];have ht:=tr2_lt (ps.take i) x r;rw[hl] at ht;split
 ·exact P2 ht
 ·rw[Wa,ac8]
noncomputable def pulse (i T:Nat):B':=(lj T).map λt=>if t=0 then 2 ^ i else 0
theorem pulse_len (i T:Nat):(pulse i T).length=T:=by unfold pulse;rw[a',S']
theorem pulse_eq (i T:Nat):(2 ^ i::p' T 0).take T=pulse i T:=by
 unfold pulse;apply ak5
 ·rw[sv,V1,V',a',S'];omega
 ·intro j h1 h2;rw[Z7,List.getElem_range,Zy];cases j with
  | zero=>rfl
  | succ j=>rw[List.getElem_cons_succ,ae8];rfl
theorem pulse_lt {i m:Nat} (h:i < m) (T:Nat):∀r∈pulse i T,r < 2 ^ m:=λr L=>by
 obtain⟨t,_,rfl⟩:=ik.mp L;show(if t=0 then 2 ^ i else 0) < 2 ^ m;split
 ·exact V7 @C h
 ·exact qb _
theorem Qv {rows:B'} {i r:Nat} (s:Nat) (h:rows[i]? =ag r):sm (rows.take (i + 1)) s=sm (rows.take i) s^^^(if s.testBit i then r else 0):=by
 have hi:=(b'.mp h).1;have e:rows.take (i + 1)=rows.take i++[r]:=by rw[Zx,h];rfl
 rw[e,m7,sv,aa4 @A]
theorem sm_places (rows:B') (s:Nat) (h:s < 2 ^ rows.length) (w:Nat) (hw:rows.length<=w):(pl w s).foldl (λa p=>a^^^rows.getD p 0) 0=sm rows s:=by
 rw[pl_up h hw]
 have χ:∀k,k<=rows.length->(pl k s).foldl (λa p=>a^^^rows.getD p 0) 0=sm (rows.take k) s:=by
  intro k
  induction k with
  | zero=>intro _;rfl
  | succ k ih=>
    intro hk;have L:rows[k]? =ag (rows.getD k 0):=by rw[eY,eF @A];rfl
    have O:pl (k + 1) s=pl k s++(if s.testBit k then [k] else []):=by
     unfold pl;rw[X7,Wu];congr 1;cases hb:s.testBit k<;>simp[hb]
    rw[O,Wk,ih @A,Qv s L];cases s.testBit k<;>simp
 have:=χ rows.length (ov _);rwa [pT] at this
end M
namespace Sx
open PySem L2
structure MaG (m:Nat) (nx os:ee Pr3):Prop where
 m6:m<=6
 ln:nx.length<=120
 lo:os.length<=6
 bn:∀q∈nx++os,q.2.1 < 2 ^ nx.length/\q.2.2 < 2 ^ m
theorem Tab.same {H H2:Hp} {n o:dt} {m:Nat} {nx os:ee Pr3} (t:Tab H n o m nx os) (s:Same H H2):Tab H2 n o m nx os:=⟨t.m6,s.get t.n,s.get t.o,t.pn.same s,t.po.same s,t.ln,t.lo,t.bn⟩
noncomputable abbrev prs (nx:ee Pr3):A':=nx.map (·.2)
theorem aX (nx:ee Pr3):(prs nx).length=nx.length:=a' ..
theorem QS {nx:ee Pr3} {i:Nat} {q:Pr3} (h:nx[i]? =ag q):(prs nx)[i]? =ag q.2:=by rw[kf,h];rfl
theorem om (nx:ee Pr3):(refs nx).length=nx.length:=a' ..
theorem oq {x n:Nat} (h:x < 2 ^ n) (hn:n<=1000):x < 2 ^ 1000:=hA h (hL @C hn)
theorem MaG.b1 {m:Nat} {nx os:ee Pr3} (g:MaG m nx os):∀q∈nx,q.2.1 < 2 ^ 1000/\q.2.2 < 2 ^ 1000:=λq h=>have:=g.ln;have:=g.m6;have b:=g.bn q (hQ _ h);⟨oq b.1 @A,oq b.2 @A⟩
theorem MaG.b2 {m:Nat} {nx os:ee Pr3} (g:MaG m nx os):∀q∈os,q.2.1 < 2 ^ 1000/\q.2.2 < 2 ^ 1000:=λq h=>have:=g.ln;have:=g.m6;have b:=g.bn q (i' _ h);⟨oq b.1 @A,oq b.2 @A⟩
theorem QQ {H H2:Hp} {a:dt} {u:HO} (h:Rd H a u) (s:Same H H2):Rd H2 a u:=h.imp (s _ _) λ⟨o,e⟩=>⟨o,s _ _ e⟩
theorem K8 {K:ak} {H H2:Hp} {x:V} {k:U'} (h:lC K H x k) (s:Same H H2):lC K H2 x k:=by
 cases x with
 | ref p=>exact Or.imp (λ⟨a,xs,e⟩=>⟨a,xs,Same.seq s e⟩) (Or.imp (λ⟨a,xs,e⟩=>⟨a,xs,Same.tup s e⟩) λ⟨a,xs,e⟩=>⟨a,xs,QQ e s⟩) h
 | _=>exact h
def MQ (K:ak) (H:Hp) (xs:ee V):Prop:=∀x∈xs,∃k,lC K H x k
theorem MQ.nats (K:ak) (H:Hp) (rs:B'):MQ K H (rs.map nat):=λx L=>by
 obtain⟨r,_,rfl⟩:=ik.mp L;exact⟨"int",rfl⟩
theorem z9 {x:V} {n:Nat} (h:p9 x (n:Int)=true):∃a:Nat,x=nat a/\a < 2 ^ n:=by
 cases x with
 | int i=>
   have h:(decide ((0:Int)<=i)&&decide (((xo i:Nat):Int)<=(n:Int)))=true:=h;simp only[R',V9] at h;obtain⟨a,rfl⟩:=W8 h.1;exact⟨a,rfl,hA (EB a) (hL @C @A)⟩
 | _=>cases h
noncomputable def idxB (x:V) (m:Nat):Bool:=match x with
 | .int i=>decide (0<=i)&&decide (i < (m:Int))
 | _=>false
theorem II (x y:V6):(!decide (V.bl (!x)=V.bl (!y)))=(x^^y):=by cases x<;>cases y<;>rfl
theorem Nb {ps:ee Pr3} {i:Nat} {q:Pr3} (x y:Nat) (h:ps[i]? =ag q):M.tr2 (prs (ps.take (i + 1))) x y=M.tr2 (prs (ps.take i)) x y^^^(if (M.od (q.2.1&&&x)^^M.od (q.2.2&&&y)) then 2 ^ i else 0):=by
 have hl:(prs (ps.take i)).length=i:=by rw[aX];exact E7 h
 rw[take_succ h];unfold prs at hl ⊢;rw[fI,ai9,M.tr2_snoc,hl]
theorem I0 {ps:ee Pr3} {i:Nat} {q:Pr3} (x y:Nat) (h:ps[i]? =ag q):M.tr2 (prs (ps.take (i + 1))) x y=M.tr2 (prs (ps.take i)) x y + (if (M.od (q.2.1&&&x)^^M.od (q.2.2&&&y)) then 2 ^ i else 0):=by
 have:=M.tr2_step x y (QS h);rw[show(prs ps).take (i + 1)=prs (ps.take (i + 1)) from YG.symm,show(prs ps).take i=prs (ps.take i) from YG.symm] at this;exact this
theorem FO (xs:ee V) (y:Nat) (hy:y<=xs.length):cutV xs fy (ag (y:Int))=xs.take y:=by
 unfold cutV;rw[HT.sIx_nat,HT.sIx_none,aa4 hy,Nat.sub_zero,am4]
theorem kR {a b:Nat} (h:nat a=nat b):a=b:=by
 have h:(a:Int)=(b:Int):=V.int.inj h;omega
def Nw:Sp:=λvs H Q _=>∃(t:dt) (a b x r:Nat),vs=[.ref t,nat x,nat r]/\H t=ag (.tup [nat a,nat b])/\a < 2 ^ 1000/\b < 2 ^ 1000/\Q (.bl (M.od (a&&&x)^^M.od (b&&&r))) H
def Qh (K:ak):Sp:=λvs H Q _=>∃(r:dt) (ps:ee Pr3) (x y:Nat),vs=[.ref r,nat x,nat y]/\SqT K H r (refs ps)/\Prt H ps/\ps.length<=1000/\(∀q∈ps,q.2.1 < 2 ^ 1000/\q.2.2 < 2 ^ 1000)/\∀H2,Same H H2->Q (nat (M.tr2 (prs ps) x y)) H2
def Su (K:ak) (C B:dt):Sp:=λvs H Q E=>∃(p:dt) (m:Nat) (nx os:ee Pr3) (x:V) (k:U'),vs=[.ref p,x]/\MaA H C p m nx os/\lC K H x k/\(p9 x nx.length=true->Q .non H)/\(p9 x nx.length=false->E (.ref B) fy H)
def Np (K:ak) (C B:dt):Sp:=λvs H Q E=>∃(p:dt) (m:Nat) (nx os:ee Pr3) (x y:V) (kx L:U'),vs=[.ref p,x,y]/\MaA H C p m nx os/\MaG m nx os/\lC K H x kx/\lC K H y L/\
 (∀a b:Nat,x=nat a->y=nat b->a < 2 ^ nx.length->b < 2 ^ m->∀(t:dt) (H2:Hp),Same H H2->H2 t=ag (.tup [nat (M.tr2 (prs os) a b),nat (M.tr2 (prs nx) a b)])->Q (.ref t) H2)/\
 (p9 x nx.length=false∨p9 y m=false->E (.ref B) fy H)
structure UY (K:ak) (H:Hp) (C p rr:dt) (m:Nat) (nx os:ee Pr3) (x:V) (xs:ee V):Prop where
 ma:MaA H C p m nx os
 g:MaG m nx os
 kx:∃k,lC K H x k
 sq:SqL K H rr xs
 ks:MQ K H xs
 ln:xs.length<=1000
def Good (m:Nat) (nx:ee Pr3) (x:V) (xs:ee V) (a:Nat) (rs:B'):Prop:=x=nat a/\xs=rs.map nat/\a < 2 ^ nx.length/\∀r∈rs,r < 2 ^ m
def Bad (m:Nat) (nx:ee Pr3) (x:V) (xs:ee V):Prop:=p9 x nx.length=false∨∃y∈xs,p9 y m=false
def Nf (K:ak) (C B:dt):Sp:=λvs H Q E=>∃(p L:dt) (m:Nat) (nx os:ee Pr3) (x:V) (xs:ee V),vs=[.ref p,.ref L,x]/\UY K H C p L m nx os x xs/\
 (∀a rs,Good m nx x xs a rs->∀(t D:dt) (H2:Hp),H D=fy->Same H H2->H2 t=ag (.tup [.ref D,nat (M.wst (prs nx) a rs)])->H2 D=ag (.lst ((M.wan (prs nx) (prs os) a rs).map nat))->Q (.ref t) H2)/\
 (Bad m nx x xs->∀H2,Same H H2->E (.ref B) fy H2)
def Sn (K:ak) (C B:dt):Sp:=λvs H Q E=>∃(p L:dt) (m:Nat) (nx os:ee Pr3) (x:V) (xs:ee V),vs=[.ref p,.ref L,x]/\UY K H C p L m nx os x xs/\
 (∀a rs,Good m nx x xs a rs->∀(D:dt) (H2:Hp),H D=fy->Same H H2->H2 D=ag (.lst ((M.wan (prs nx) (prs os) a rs).map nat))->Q (.ref D) H2)/\
 (Bad m nx x xs->∀H2,Same H H2->E (.ref B) fy H2)
def Jr (K:ak) (C B:dt):Sp:=λvs H Q E=>∃(p:dt) (m:Nat) (nx os:ee Pr3) (x:V) (k:U') (T:Nat),vs=[.ref p,x,nat T]/\MaA H C p m nx os/\MaG m nx os/\lC K H x k/\T<=900/\
 (∀i,x=nat i->i < m->∀(D:dt) (H2:Hp),H D=fy->Same H H2->H2 D=ag (.lst ((M.wan (prs nx) (prs os) 0 (M.pulse i T)).map nat))->Q (.ref D) H2)/\
 (idxB x m=false->E (.ref B) fy H)
def Qd (C:dt):Sp:=λvs H Q _=>∃(p:dt) (m:Nat) (nx os:ee Pr3),vs=[.ref p]/\MaA H C p m nx os/\MaG m nx os/\
 ∀(t ω L:dt) (H2:Hp),H ω=fy->H L=fy->ω≠L->Same H H2->H2 t=ag (.tup [nat m,.ref ω,.ref L])->H2 ω=ag (.lst (refs nx))->H2 L=ag (.lst (refs os))->Q (.ref t) H2
def Gh (C:dt):Sp:=λvs H Q _=>∃(p:dt) (m:Nat) (nx os:ee Pr3),vs=[.ref p]/\MaA H C p m nx os/\Q (nat os.length) H
structure TabT (H:Hp) (t n o:dt) (m:Nat) (nx os:ee Pr3):Prop where
 t:H t=ag (.tup [nat m,.ref n,.ref o])
 tab:Tab H n o m nx os
theorem TabT.same {H H2:Hp} {t n o:dt} {m:Nat} {nx os:ee Pr3} (x:TabT H t n o m nx os) (s:Same H H2):TabT H2 t n o m nx os:=⟨s.get x.t,x.tab.same s⟩
def JA:Sp:=λvs H Q _=>∃(c:Int) (st n w:Nat) (dg:V6),vs=[.int c,nat st,nat n,nat w,.bl dg]/\st<=900/\n<=64/\w<=16/\
 ∀(D:dt) (H2:Hp) (ms:B'),H D=fy->Same H H2->H2 D=ag (.lst (ms.map nat))->ms.length=n->(∀x∈ms,x < 2 ^ w)->Q (.ref D) H2
theorem UL (x y:V6):(((M.bn x:Nat):Int) + ((M.bn y:Nat):Int)) % 2=((M.bn (x^^y):Nat):Int):=by cases x<;>cases y<;>rfl
theorem UK (b:V6) (i:Nat):((M.bn b:Nat):Int) * 2 ^ ((i:Int).toNat)=((if b=true then 2 ^ i else 0:Nat):Int):=by
 cases b
 ·rw[n' iv];exact Int.zero_mul _
 ·rw[qq rfl];exact shl1 i
theorem Oq {H H2:Hp} {D:dt} (s:Same H H2) (f:H2 D=fy):H D=none:=by
 cases L:H D with
 | none=>rfl
 | some v=>have:=s _ _ L;rw[f] at this;cases this
theorem JN (m k:Nat):(m:Int) / 2 ^ ((k:Int).toNat)=((m>>>k:Nat):Int):=by rw[pY,zI,V3];norm_cast
theorem Cy (m i:Nat):WG ((m:Int) / 2 ^ ((i:Int).toNat)) 1=if m.testBit i then 1 else 0:=by
 have:=FV m i;rwa [show(0:Int) + (i:Int)=(i:Int) from XO _] at this
theorem OC (xs:ee V) (k:Nat) (h:k<=xs.length):cutV xs (ag (k:Int)) fy=xs.drop k:=by
 unfold cutV;rw[HT.sIx_nat,HT.sIx_none,aa4 h];exact WT (by rw[XI];exact ov _)
end Sx
namespace M
noncomputable def pkw (w:Nat):B'->Nat
 | []=>0
 | p::ps=>p^^^(pkw w ps <<< w)
theorem CG {w p r P R:Nat} (hp:p < 2 ^ w) (hr:r < 2 ^ w):(p^^^(P <<< w))&&&(r^^^(R <<< w))=(p&&&r)^^^((P&&&R) <<< w):=by
 apply oe;intro i;simp only[KI,WS,WA];by_cases hi:w<=i
 ·rw[ry (hA hp (hL @C hi)),ry (hA hr (hL @C hi))];simp[hi]
 ·simp[hi]
theorem TV {x w:Nat} (h:x < 2 ^ (1000 - w)) (hw:w<=1000):od (x <<< w)=od x:=by
 show pb 1000 (x <<< w)=pb 1000 x;have e:=uZ w (1000 - w) (x <<< w);rw[show w + (1000 - w)=1000 by omega] at e;rw[e,pb_up h @A]
 have L:pb w (x <<< w)=false:=by
  rw[<-Kv,ak9,Nat.mul_mod_left]
  have:∀n,pb n 0=false:=λn=>by
   induction n with
   | zero=>rfl
   | succ n ih=>rw[pb_half,Nat.zero_div,ih];simp
  exact this w
 rw[L,Nat.shiftLeft_shiftRight];simp
noncomputable def bkI (A:B') (s:Nat):Nat->Nat
 | 0=>s
 | i + 1=>sm A (bkI A s i)
noncomputable def prt (A B:B'):Nat->Nat->B'
 | _,0=>[]
 | s,T + 1=>sm B s::prt A B (sm A s) T
theorem IU (ps:A'):∀(rs qs:B') (x y:Nat),rs.length=qs.length->wst ps (x^^^y) (ae3 (·^^^·) rs qs)=wst ps x rs^^^wst ps y qs
 | [],[],_,_,_=>rfl
 | r::rs,q::qs,x,y,h=>by
   show wst ps (tr2 ps (x^^^y) (r^^^q)) (ae3 (·^^^·) rs qs)=wst ps (tr2 ps x r) rs^^^wst ps (tr2 ps y q) qs;rw[mX,IU ps rs qs _ _ (by simpa using h)]
end M
namespace Sx
open PySem L2
noncomputable abbrev nA (nx:ee Pr3):B':=nx.map λq=>q.2.1
noncomputable abbrev nB (nx:ee Pr3):B':=nx.map λq=>q.2.2
def Jx:Sp:=λvs H Q _=>∃(c:Int) (n w:Nat),vs=[.int c,nat n,nat w]/\n<=64/\w<=16/\∀(D:dt) (H2:Hp) (ms:B'),H D=fy->Same H H2->H2 D=ag (.lst (ms.map nat))->ms.length=n->(∀x∈ms,x < 2 ^ w)->Q (.ref D) H2
def Nq:Sp:=λvs H Q _=>∃n:Nat,vs=[nat n]/\n < 2 ^ 1000/\Q (nat (M.bn (M.od n))) H
def Nv (K:ak):Sp:=λvs H Q _=>∃(r:dt) (ps:ee Pr3) (x y:Nat),vs=[.ref r,nat x,nat y]/\SqL K H r (refs ps)/\Prt H ps/\ps.length<=120/\x < 2 ^ 1000/\y < 2 ^ 1000/\∀H2,Same H H2->Q (nat (M.tr2 (prs ps) x y)) H2
theorem Q3 {n:Nat} (h:n < 2 ^ 1000):M.od n=(n.testBit 0^^M.od (n / 2)):=by
 show M.pb 1000 n=_;rw[show 1000=999 + 1 from rfl,M.pb_half];congr 1;exact(M.pb_up (show n / 2 < 2 ^ 999 by rw[ag9 @C];rw[<-XT];exact h) @C).symm
theorem vD {K:ak} {H:Hp} {α:Type} (f:α->V) (g:α->Dt) (r:∀x,Rep K H (f x) (g x)) (xs:ee α):∀(i:Nat) x d,(xs.map f)[i]? =ag x->(xs.map g)[i]? =ag d->Rep K H x d:=by
 intro i x d h1 h2;rw[kf] at h1 h2;cases e:xs[i]? with
 | none=>rw[e] at h1;cases h1
 | some y=>rw[e] at h1 h2;cases h1;cases h2;exact r y
theorem IZ {H H':Hp} {x:dt} {o:HO} (n:H x=fy) (u:Upd H H' x o):Same H H':=λb o h=>u.oth b o (λz=>by rw[z,n] at h;cases h) h
theorem SH {K:ak} {te:TE} {σ:St} {H:Hp} {Q:VK} (h:te σ H λx H1=>∃a xs,x= .ref a/\SqL K H1 a xs/\∀l,H1 l=fy->Q (.ref l) (upd H1 l (.lst xs.reverse))):tRev K te σ H Q:=h
noncomputable def low (c:Nat):Bool:=decide (97<=c)&&decide (c<=122)
noncomputable def fig (c:Nat):Bool:=decide (48<=c)&&decide (c<=57)
noncomputable def nm (l:B'):Bool:=match l with
 | []=>false
 | c::r=>decide ((c::r).length<=6)&&low c&&(c::r).all λc=>low c||fig c
noncomputable def Bp (x:V):Bool:=match x with
 | .str z=>nm z.cps.toList
 | _=>false
def Nm (z:mu):Prop:=nm z.cps.toList=true
def Js (K:ak):Sp:=λvs H Q _=>∃x k,vs=[x]/\lC K H x k/\(∀z,x= .str z->z.length<=1000)/\∀H',Same H H'->Q (.bl (Bp x)) H'
theorem memL (c:Nat):decide (c∈("abcdefghijklmnopqrstuvwxyz":mu).cps.toList)=low c:=by
 have e:("abcdefghijklmnopqrstuvwxyz":mu).cps.toList=ZR 97 26:=by decide +kernel
 rw[e];unfold low;rw[Wz,R',V9,V9,V9,Zu];constructor
 ·rintro⟨i,h,rfl⟩;omega
 ·rintro⟨h1,h2⟩;exact⟨c - 97,@A,@A⟩
theorem memN (c:Nat):decide (c∈("abcdefghijklmnopqrstuvwxyz0123456789":mu).cps.toList)=(low c||fig c):=by
 have e:("abcdefghijklmnopqrstuvwxyz0123456789":mu).cps.toList=ZR 97 26++ZR 48 10:=by decide +kernel
 rw[e];unfold low fig;rw[Wz,al5,R',R',V9,V9,V9,V9,V9,gF,Zu,Zu];constructor
 ·rintro(⟨i,h,rfl⟩ | ⟨i,h,rfl⟩)
  ·left;omega
  ·right;omega
 ·rintro(⟨h1,h2⟩ | ⟨h1,h2⟩)
  ·exact .inl ⟨c - 97,by omega,by omega⟩
  ·exact .inr ⟨c - 48,by omega,by omega⟩
theorem Fx (z:mu):z.cps.toList.length=z.length:=by simp[Str.length]
theorem Jl {z:mu}:z=""↔z.cps.toList=[]:=by
 constructor
 ·rintro rfl;decide +kernel
 ·intro h;cases z with | mk c=>cases c with | mk l=>have h:l=[]:=h;subst h;decide +kernel
theorem Nm.len {z:mu} (h:Nm z):z.length<=6:=by
 have h:nm z.cps.toList=true:=h;have l:=Fx z;cases e:z.cps.toList with
 | nil=>rw[e] at l;rw[<-l];decide
 | cons c r=>
   rw[e] at h l;unfold nm at h;rw[R',R'] at h;have:=WD h.1.1;omega
theorem c_nm {K:ak} {H:Hp} {Q:VK} {E:XK} {z:mu} (h:Nm z) (q:∀H',Same H H'->Q (.bl true) H'):Js K [.str z] H Q E:=⟨_,"str",rfl,rfl,λL e=>by cases e;have:=h.len;omega,λH' s=>by show Q (.bl (nm z.cps.toList)) H';rw[show nm z.cps.toList=true from h];exact q H' s⟩
def Nz (K:ak):Sp:=λvs H Q _=>∃x C dx nm,vs=[.ref x,nm]/\Cls K C/\bF K C "name"/\H x=ag (.ins C dx [])/\∀H2,Upd H H2 x (.ins C dx [("name",nm)])->Q .non H2
def Ny (C:dt):Sp:=λvs H Q _=>∃x dx nm k,vs=[.ref x,nm,k]/\H x=ag (.ins C dx [])/\∀H2,Upd H H2 x (.ins C dx [("name",nm),("number",k)])->Q .non H2
def Nx (C:dt):Sp:=λvs H Q _=>∃x dx nm w k,vs=[.ref x,nm,w,k]/\H x=ag (.ins C dx [])/\∀H2,Upd H H2 x (.ins C dx [("name",nm),("wire",w),("number",k)])->Q .non H2
def Qt (C:dt):Sp:=λvs H Q _=>∃p dx nm k τ row st,vs=[.ref p,τ,.int row,.int st]/\H p=ag (.ins C dx [("name",nm),("number",.int k)])/\0<=k/\Q (.int (WG (row / 2 ^ k.toNat) 1)) H
def Qq (C:dt):Sp:=λvs H Q _=>∃p dx nm w k τ row st,vs=[.ref p,τ,.int row,.int st]/\H p=ag (.ins C dx [("name",nm),("wire",w),("number",.int k)])/\0<=k/\Q (.int (WG (st / 2 ^ k.toNat) 1)) H
def Qr (K:ak) (C:dt):Sp:=λvs H Q _=>∃(p dx:dt) (nm:V) (δ d:dt) (ws:B1) (kvs:ee (Key×V)) (f:mu->Int) (row st:Int),vs=[.ref p,.ref d,.int row,.int st]/\H p=ag (.ins C dx [("name",nm),("wires",.ref δ)])/\SqT K H δ (ws.map V.str)/\
 H d=ag (.dK kvs)/\(∀w∈ws,valV kvs (zt w)=ag (.int (f w)))/\Q (.int ((ws.map f).foldl V4 0)) H
def NF (C:dt):Sp:=λvs H Q _=>∃p dx nm k τ,vs=[.ref p,τ]/\H p=ag (.ins C dx [("name",nm),("number",.int k)])/\0<=k/\k<=1000/\∀t H2,Same H H2->H2 t=ag (.tup [.int 0,.int (1 * 2 ^ k.toNat)])->Q (.ref t) H2
def NC (C:dt):Sp:=λvs H Q _=>∃p dx nm w k τ,vs=[.ref p,τ]/\H p=ag (.ins C dx [("name",nm),("wire",w),("number",.int k)])/\0<=k/\k<=1000/\∀t H2,Same H H2->H2 t=ag (.tup [.int (1 * 2 ^ k.toNat),.int 0])->Q (.ref t) H2
def ND (K:ak) (C:dt):Sp:=λvs H Q _=>∃(p dx:dt) (nm:V) (δ d:dt) (ws:B1) (kvs:ee (Key×V)) (f g:mu->Int),vs=[.ref p,.ref d]/\H p=ag (.ins C dx [("name",nm),("wires",.ref δ)])/\SqT K H δ (ws.map V.str)/\
 H d=ag (.dK kvs)/\(∀w∈ws,∃t,valV kvs (zt w)=ag (.ref t)/\SqT K H t [.int (f w),.int (g w)])/\∀t H2,Same H H2->H2 t=ag (.tup [.int ((ws.map f).foldl V4 0),.int ((ws.map g).foldl V4 0)])->Q (.ref t) H2
theorem wZ {ws:B1} {f:mu->Int} {i:Nat} {w:mu} (h:ws[i]? =ag w):((ws.take (i + 1)).map f).foldl V4 0=V4 (((ws.take i).map f).foldl V4 0) (f w):=by
 rw[YX,h,fI,Wk];rfl
structure Nt where
 ins:B1
 sums:ee (mu×ee mu)
 sts:ee (mu×mu)
 outs:B1
noncomputable def Nt.names (N:Nt):B1:=N.ins++N.sums.map (·.1)++N.sts.map (·.1)
structure Gn (N:Nt):Prop where
 li:N.ins.length<=6
 ls:N.sums.length<=40
 lt:N.sts.length<=16
 lo:N.outs.length<=6
 lw:∀r∈N.sums,r.2.length<=24
 nm:∀z∈N.names,Nm z
 nd:N.names.Nodup
 ws:∀r∈N.sums,∀z∈r.2,z∈N.names
 ts:∀r∈N.sts,r.2∈N.names
 os:∀z∈N.outs,z∈N.names
 rk:∃rank:mu->Nat,∀r∈N.sums,∀z∈r.2,z∈N.sums.map (·.1)->rank z < rank r.1
structure Topo (sums:ee (mu×ee mu)) (od:B1):Prop where
 perm:od.Perm (sums.map (·.1))
 need:∀(i:Nat) z,od[i]? =ag z->∀ws,(z,ws)∈sums->∀y∈ws,y∈sums.map (·.1)->y∈od.take i
noncomputable abbrev Rw:=dt×dt×mu×ee mu
noncomputable abbrev Qs:=dt×mu×mu
structure Hnd (H:Hp) (i s t o:dt) (rs:ee Rw) (qs:ee Qs) (N:Nt):Prop where
 i:H i=ag (.lst (N.ins.map V.str))
 s:H s=ag (.lst (rs.map λr=>V.ref r.1))
 sr:∀r∈rs,H r.1=ag (.tup [.str r.2.2.1,.ref r.2.1])/\H r.2.1=ag (.lst (r.2.2.2.map V.str))
 es:rs.map (·.2.2)=N.sums
 t:H t=ag (.lst (qs.map λq=>V.ref q.1))
 tr:∀q∈qs,H q.1=ag (.tup [.str q.2.1,.str q.2.2])
 et:qs.map (·.2)=N.sts
 o:H o=ag (.lst (N.outs.map V.str))
theorem Hnd.same {H H2:Hp} {i s t o:dt} {rs:ee Rw} {qs:ee Qs} {N:Nt} (x:Hnd H i s t o rs qs N) (h:Same H H2):Hnd H2 i s t o rs qs N:=⟨h.get x.i,h.get x.s,λr m=>⟨h.get (x.sr r m).1,h.get (x.sr r m).2⟩,x.es,h.get x.t,λq m=>h.get (x.tr q m),x.et,h.get x.o⟩
structure Kpt (H:Hp) (i s t o:dt) (rs:ee Rw) (qs:ee Qs) (N:Nt):Prop where
 i:H i=ag (.tup (N.ins.map V.str))
 s:H s=ag (.tup (rs.map λr=>V.ref r.1))
 sr:∀r∈rs,H r.1=ag (.tup [.str r.2.2.1,.ref r.2.1])/\H r.2.1=ag (.tup (r.2.2.2.map V.str))
 es:rs.map (·.2.2)=N.sums
 t:H t=ag (.tup (qs.map λq=>V.ref q.1))
 tr:∀q∈qs,H q.1=ag (.tup [.str q.2.1,.str q.2.2])
 et:qs.map (·.2)=N.sts
 o:H o=ag (.tup (N.outs.map V.str))
theorem Kpt.same {H H2:Hp} {i s t o:dt} {rs:ee Rw} {qs:ee Qs} {N:Nt} (x:Kpt H i s t o rs qs N) (h:Same H H2):Kpt H2 i s t o rs qs N:=⟨h.get x.i,h.get x.s,λr m=>⟨h.get (x.sr r m).1,h.get (x.sr r m).2⟩,x.es,h.get x.t,λq m=>h.get (x.tr q m),x.et,h.get x.o⟩
def JG:Sp:=λvs H Q _=>∃(l:dt) (zs:B1),vs=[.ref l]/\H l=ag (.lst (zs.map V.str))/\zs.length<=1000/\zs.Nodup/\(∀z∈zs,Nm z)/\∀H2,Same H H2->Q .non H2
def Knw (H:Hp) (d:dt) (zs:B1):Prop:=∃kvs:ee (Key×V),H d=ag (.dK kvs)/\kvs.map (·.1)=zs.map zt
theorem Knw.same {H H2:Hp} {d:dt} {zs:B1} (x:Knw H d zs) (h:Same H H2):Knw H2 d zs:=let ⟨k,e,f⟩:=x;⟨k,h.get e,f⟩
def JE:Sp:=λvs H Q _=>∃(i s t o d:dt) (rs:ee Rw) (qs:ee Qs) (N:Nt),vs=[.ref s,.ref t,.ref o,.ref d]/\Kpt H i s t o rs qs N/\Gn N/\Knw H d N.names/\∀H2,Same H H2->Q .non H2
theorem uV {kvs:ee (Key×V)} {zs:B1} (e:kvs.map (·.1)=zs.map zt) (z:mu):(valV kvs (zt z)).isSome=decide (z∈zs):=by
 cases h:valV kvs (zt z) with
 | none=>
   have:=M9 h;rw[e] at this;rw[gz λm=>this (ik.mpr ⟨z,m,rfl⟩)];rfl
 | some v=>
   have:=P8 h;rw[e] at this;obtain⟨y,L,ey⟩:=ik.mp this;cases ey;rw[hG L];rfl
theorem DC {kvs:ee (Key×V)} {zs:B1} (e:kvs.map (·.1)=zs.map zt) {z:mu} (h:z∉zs) (v:V):putK kvs (zt z) v=kvs++[(zt z,v)]:=by
 refine Fk ?_;rw[<-Option.not_isSome_iff_eq_none,uV e z,gz h];exact iv
inductive Wob (H:Hp) (CI CS CT:dt) (N:Nt) (z:mu) (w:dt):Prop where
 | i (k:Nat) (dx:dt) (hk:N.ins[k]? =ag z) (e:H w=ag (.ins CI dx [("name",.str z),("number",nat k)])):Wob H CI CS CT N z w
 | s (ws:B1) (dx tw:dt) (hk:(z,ws)∈N.sums) (e:H w=ag (.ins CS dx [("name",.str z),("wires",.ref tw)])) (et:H tw=ag (.tup (ws.map V.str))):Wob H CI CS CT N z w
 | t (k:Nat) (y:mu) (dx:dt) (hk:N.sts[k]? =ag (z,y)) (e:H w=ag (.ins CT dx [("name",.str z),("wire",.str y),("number",nat k)])):Wob H CI CS CT N z w
theorem Wob.same {H H2:Hp} {χ φ υ:dt} {N:Nt} {z:mu} {w:dt} (x:Wob H χ φ υ N z w) (h:Same H H2):Wob H2 χ φ υ N z w:=by
 cases x with
 | i k dx hk e=>exact .i k dx hk (h.get e)
 | s ws dx δ hk e et=>exact .s ws dx δ hk (h.get e) (h.get et)
 | t k y dx hk e=>exact .t k y dx hk (h.get e)
theorem Wob.name {H:Hp} {χ φ υ:dt} {N:Nt} {z:mu} {w:dt} (x:Wob H χ φ υ N z w):∃C dx fs,H w=ag (.ins C dx (("name",.str z)::fs))/\(C=χ∨C=φ∨C=υ):=by
 cases x with
 | i k dx hk e=>exact⟨_,_,_,e,.inl rfl⟩
 | s ws dx δ hk e et=>exact⟨_,_,_,e,.inr (.inl rfl)⟩
 | t k y dx hk e=>exact⟨_,_,_,e,.inr (.inr rfl)⟩
structure WiA (H:Hp) (CI CS CT d:dt) (N:Nt) (ws:J1):Prop where
 d:H d=ag (.dK (ws.map λq=>(zt q.1,V.ref q.2)))
 nm:ws.map (·.1)=N.names
 ob:∀q∈ws,Wob H CI CS CT N q.1 q.2
theorem WiA.same {H H2:Hp} {χ φ υ d:dt} {N:Nt} {ws:J1} (x:WiA H χ φ υ d N ws) (h:Same H H2):WiA H2 χ φ υ d N ws:=⟨h.get x.d,x.nm,λq m=>(x.ob q m).same h⟩
theorem WiA.knw {H:Hp} {χ φ υ d:dt} {N:Nt} {ws:J1} (x:WiA H χ φ υ d N ws):Knw H d N.names:=⟨_,x.d,by rw[y2,<-x.nm,y2];rfl⟩
def Gd (χ φ υ:dt):Sp:=λvs H Q _=>∃(i s t o:dt) (rs:ee Rw) (qs:ee Qs) (N:Nt),vs=[.ref i,.ref s,.ref t]/\Kpt H i s t o rs qs N/\Gn N/\∀(d:dt) (H2:Hp) (ws:J1),H d=fy->Same H H2->WiA H2 χ φ υ d N ws->Q (.ref d) H2
noncomputable def il (zs:B1) (ws:B1):Bool:=ws.any λw=>decide (w∈zs)
def Ng:Sp:=λvs H Q _=>∃(r:Rw) (d:dt) (zs:B1),vs=[.ref r.1,.ref d]/\H r.1=ag (.tup [.str r.2.2.1,.ref r.2.1])/\H r.2.1=ag (.tup (r.2.2.2.map V.str))/\r.2.2.2.length<=24/\Knw H d zs/\∀H2,Same H H2->Q (.bl (il zs r.2.2.2)) H2
def Gi:Sp:=λvs H Q _=>∃(s:dt) (rs:ee Rw) (N:Nt),vs=[.ref s]/\H s=ag (.tup (rs.map λr=>V.ref r.1))/\(∀r∈rs,H r.1=ag (.tup [.str r.2.2.1,.ref r.2.1])/\H r.2.1=ag (.tup (r.2.2.2.map V.str)))/\rs.map (·.2.2)=N.sums/\Gn N/\∀(D:dt) (H2:Hp) (od:B1),H D=fy->Same H H2->H2 D=ag (.lst (od.map V.str))->Topo N.sums od->Q (.ref D) H2
theorem qL {H:Hp} {Q:VK} {l b:dt} {xs zs:ee V} (O:H l=ag (.lst xs)) (L:H b=ag (.lst zs)) (hl:xs.length + zs.length<=ix) (h:∀H2,Upd H H2 l (.lst (xs++zs))->Q .non H2):DA (.ref l) [.ref b] H Q:=⟨l,b,xs,zs,rfl,rfl,O,L,hl,h _ Upd.of⟩
theorem Wob.keep {H H2:Hp} {χ φ υ:dt} {N:Nt} {z:mu} {w D:dt} {xs:ee V} (x:Wob H χ φ υ N z w) (α:H D=ag (.lst xs)) (h:∀b o,b≠D->H b=ag o->H2 b=ag o):Wob H2 χ φ υ N z w:=by
 cases x with
 | i k dx hk e=>exact .i k dx hk (h _ _ (cn e α (λz=>by cases z)) e)
 | s ws dx δ hk e et=>exact .s ws dx δ hk (h _ _ (cn e α (λz=>by cases z)) e) (h _ _ (cn et α (λz=>by cases z)) et)
 | t k y dx hk e=>exact .t k y dx hk (h _ _ (cn e α (λz=>by cases z)) e)
structure WL (H0 H:Hp) (CI CS CT:dt) (N:Nt) (D:dt) (ys:ee V) (zs:B1) (ws:J1):Prop where
 ey:ys=ws.map λq=>V.ref q.2
 nm:ws.map (·.1)=zs
 ob:∀q∈ws,Wob H CI CS CT N q.1 q.2
 same:Same H0 H
 d:H D=ag (.lst ys)
def JD (K:ak) (C:dt):Sp:=λvs H Q _=>∃x dx nm δ ws,vs=[.ref x,nm,.ref δ]/\H δ=ag (.tup ws)/\H x=ag (.ins C dx [])/\
 ∀H2,Upd H H2 x (.ins C dx [("name",nm),("wires",.ref δ)])->Q .non H2
theorem WL.put {Z H L:Hp} {χ φ υ:dt} {N:Nt} {D:dt} {ys:ee V} {zs:B1} {ws:J1} (c:WL Z H χ φ υ N D ys zs ws) (α:Z D=fy) (s:Same H L) {z:mu} {x:dt} (β:Wob L χ φ υ N z x) (ε:zs.length<=900) {O:B1} (δ:O=zs++[z]):
  L D=ag (.lst ys)/\ys.length < ix/\∃ws,WL Z (upd L D (.lst (ys++[.ref x]))) χ φ υ N D (ys++[.ref x]) O ws:=by
 have Y:=s.get c.d;have k:∀b o,b≠D->L b=ag o->upd L D (.lst (ys++[.ref x])) b=ag o:=λb o n e=>by rw[aE n];exact e
 have lw:ys.length=zs.length:=by rw[c.ey,<-c.nm,a',a']
 refine⟨Y,aZ @A,ws++[(z,x)],by rw[fI,c.ey];rfl,by rw[fI,c.nm,δ];rfl,λq γ=>?_,λb o e=>?_,aD⟩
 ·rcases gF.mp γ with h | h
  ·exact((c.ob q h).same s).keep Y k
  ·rw[gn] at h;subst h;exact β.keep Y k
 ·exact k _ _ (aq e α) (s.get (c.same.get e))
theorem WL.join {Y H H2 β:Hp} {χ φ υ:dt} {N:Nt} {D ζ:dt} {ys ε:ee V} {zs O:B1} {ws α:J1} (c:WL Y H χ φ υ N D ys zs ws) (L:WL H H2 χ φ υ N ζ ε O α) (δ:Y D=fy) (u:Upd H2 β D (.lst (ys++ε))):
  WL Y β χ φ υ N D (ys++ε) (zs++O) (ws++α):=by
 have Z:=L.same.get c.d;refine⟨by rw[fI,c.ey,L.ey],by rw[fI,c.nm,L.nm],λq γ=>?_,λb o e=>u.oth _ _ (aq e δ) (L.same.get (c.same.get e)),u.at'⟩;rcases gF.mp γ with h | h
 ·exact((c.ob q h).same L.same).keep Z u.oth
 ·exact(L.ob q h).keep Z u.oth
structure Otp (sums:ee (mu×ee mu)) (od:B1) (lf:ee (mu×ee mu)):Prop where
 perm:(od++lf.map (·.1)).Perm (sums.map (·.1))
 sub:∀r∈lf,r∈sums
 need:∀(i:Nat) z,od[i]? =ag z->∀ws,(z,ws)∈sums->∀y∈ws,y∈sums.map (·.1)->y∈od.take i
theorem Otp.start (sums:ee (mu×ee mu)):Otp sums [] sums:=⟨List.Perm.refl _,λ_ h=>h,λi z h=>by simp at h⟩
theorem Otp.done {sums:ee (mu×ee mu)} {od:B1} (o:Otp sums od []):Topo sums od:=⟨by have:=o.perm;rwa [ag2,Wr] at this,o.need⟩
theorem KA {sums:ee (mu×ee mu)} (nd:(sums.map (·.1)).Nodup) {z:mu} {ws L:B1} (h:(z,ws)∈sums) (h':(z,L)∈sums):ws=L:=by
 induction sums with
 | nil=>cases h
 | cons r l ih=>
   rw[W5,Y6] at nd;rcases xY.mp h with e | h
   ·rcases xY.mp h' with O | h'
    ·rw[<-e] at O;exact(Prod.mk.inj O).2.symm
    ·exact hB (ik.mpr ⟨_,h',rfl⟩) (by rw[<-e] at nd;exact nd.1)
   ·rcases xY.mp h' with O | h'
    ·exact hB (ik.mpr ⟨_,h,rfl⟩) (by rw[<-O] at nd;exact nd.1)
    ·exact ih nd.2 h h'
theorem Otp.step {sums:ee (mu×ee mu)} (nd:(sums.map (·.1)).Nodup) {od:B1} {lf:ee (mu×ee mu)} (o:Otp sums od lf):
  Otp sums (od++(lf.filter λr=> !il (lf.map (·.1)) r.2).map (·.1)) (lf.filter λr=>il (lf.map (·.1)) r.2):=by
 refine⟨?_,λr h=>o.sub r (WB.mp h).1,λi z hz ws hw y L hs=>?_⟩
 ·refine Yy ?_ o.perm;rw[VW,<-fI];refine XG _ (List.Perm.map _ ?_);refine Yy Xv ?_;exact ae0 _ _
 ·by_cases hi:i < od.length
  ·rw[P' hi] at hz;rw[Ya (XA hi)];exact o.need i z hz ws hw y L hs
  ·rw[V0 @A] at hz;have hm:=f' hz;obtain⟨r,O,rfl⟩:=ik.mp hm;obtain⟨ζ,ι⟩:=WB.mp O;have e:ws=r.2:=KA nd hw (o.sub r ζ);subst e
   have hn:y∉lf.map (·.1):=λm=>by
    have:il (lf.map (·.1)) r.2=true:=Xq.mpr ⟨y,L,hG m⟩;rw[this] at ι;cases ι
   have:=(o.perm.mem_iff (a:=y)).mpr hs;rcases gF.mp this with h | h
   ·rw[ak4,gF];left;rw[WT @A];exact h
   ·exact hB h hn
theorem y6 {α:Type} (f:α->Nat):∀l:ee α,l≠[]->∃a∈l,∀b∈l,f a<=f b
 | [],h=>hB rfl h
 | [a],_=>⟨a,gn.mpr rfl,λb h=>by rw[gn.mp h];exact ov _⟩
 | a::b::l,_=>by
   obtain⟨c,L,h⟩:=y6 f (b::l) @F;by_cases π:f a<=f c
   ·exact⟨a,wq ..,λd hd=>(xY.mp hd).elim (λe=>by rw[e];exact ov _) λe=>WK π (h d e)⟩
   ·exact⟨c,z4 _ L,λd hd=>(xY.mp hd).elim (λe=>by rw[e];omega) λe=>h d e⟩
theorem Otp.ready {N:Nt} (g:Gn N) {od:B1} {lf:ee (mu×ee mu)} (o:Otp N.sums od lf) (h:lf≠[]):0 < (lf.filter λr=> !il (lf.map (·.1)) r.2).length:=by
 obtain⟨L,Y⟩:=g.rk;obtain⟨r,hm,hl⟩:=y6 (λr:mu×ee mu=>L r.1) lf h;refine ae7 (WB.mpr ⟨hm,?_⟩);cases hw:il (lf.map (·.1)) r.2 with
 | false=>rfl
 | true=>
   obtain⟨y,O,Z⟩:=Xq.mp hw;obtain⟨η,β,rfl⟩:=ik.mp (WD Z);have h1:=Y r (o.sub r hm) _ O (ik.mpr ⟨η,o.sub η β,rfl⟩);have h2:=hl η β;omega
theorem Es {α:Type} (p:α->V6):∀l:ee α,0 < (l.filter λx=> !p x).length->(l.filter p).length < l.length:=λl h=>by
 have:=(ae0 p l).length_eq;rw[gs] at this;omega
theorem Gn.nds {N:Nt} (g:Gn N):(N.sums.map (·.1)).Nodup:=by
 have:=g.nd;unfold Nt.names at this;rw[VS,VS] at this;exact this.1.2.1
structure NetA (H:Hp) (C CI CS CT p:dt) (N:Nt) (od:B1):Prop where
 ho:∃(dx i s t o d tq:dt) (rs:ee Rw) (qs:ee Qs) (ws:J1),H p=ag (.ins C dx [("ins",.ref i),("sums",.ref s),("kept_stores",.ref t),("outs",.ref o),("by_name",.ref d),("sum_order",.ref tq)])/\Kpt H i s t o rs qs N/\WiA H CI CS CT d N ws/\H tq=ag (.tup (od.map V.str))
 g:Gn N
 tp:Topo N.sums od
theorem NetA.same {H H2:Hp} {C χ φ υ p:dt} {N:Nt} {od:B1} (x:NetA H C χ φ υ p N od) (h:Same H H2):NetA H2 C χ φ υ p N od:=
 ⟨let ⟨dx,i,s,t,o,d,L,rs,qs,ws,a,b,c,e⟩:=x.ho;⟨dx,i,s,t,o,d,L,rs,qs,ws,h.get a,b.same h,c.same h,h.get e⟩,x.g,x.tp⟩
def Kx (x:dt) (H H2:Hp):Prop:=∀b ob,b≠x->H b=ag ob->H2 b=ag ob
theorem Kx.trans {x:dt} {H H2 L:Hp} (a:Kx x H H2) (b:Kx x H2 L):Kx x H L:=λc o n e=>b c o n (a c o n e)
theorem Kx.same {x:dt} {H H2:Hp} (s:Same H H2):Kx x H H2:=λ_ _ _ e=>s.get e
theorem Kx.upd {x:dt} {H H2:Hp} {o:HO} (u:Upd H H2 x o):Kx x H H2:=u.oth
theorem Kx.tup {x:dt} {H H2:Hp} (k:Kx x H H2) {C dx:dt} {fs:ee (mu×V)} (hx:H x=ag (.ins C dx fs)) {b:dt} {xs:ee V} (e:H b=ag (.tup xs)):H2 b=ag (.tup xs):=k b _ (cn e hx λz=>by cases z) e
theorem Kx.lst {x:dt} {H H2:Hp} (k:Kx x H H2) {C dx:dt} {fs:ee (mu×V)} (hx:H x=ag (.ins C dx fs)) {b:dt} {xs:ee V} (e:H b=ag (.lst xs)):H2 b=ag (.lst xs):=k b _ (cn e hx λz=>by cases z) e
def RwK (H:Hp) (rs:ee Rw):Prop:=∀r∈rs,H r.1=ag (.tup [.str r.2.2.1,.ref r.2.1])/\H r.2.1=ag (.tup (r.2.2.2.map V.str))
def QsK (H:Hp) (qs:ee Qs):Prop:=∀q∈qs,H q.1=ag (.tup [.str q.2.1,.str q.2.2])
theorem RwK.same {H H2:Hp} {rs:ee Rw} (h:RwK H rs) (s:Same H H2):RwK H2 rs:=λr m=>⟨s.get (h r m).1,s.get (h r m).2⟩
theorem QsK.same {H H2:Hp} {qs:ee Qs} (h:QsK H qs) (s:Same H H2):QsK H2 qs:=λq m=>s.get (h q m)
theorem Kx.rw{x:dt} {H H2:Hp} (k:Kx x H H2) {C dx:dt} {fs:ee (mu×V)} (hx:H x=ag (.ins C dx fs)) {rs:ee Rw} (h:RwK H rs):RwK H2 rs:=λr m=>⟨k.tup hx (h r m).1,k.tup hx (h r m).2⟩
theorem Kx.qs {x:dt} {H H2:Hp} (k:Kx x H H2) {C dx:dt} {fs:ee (mu×V)} (hx:H x=ag (.ins C dx fs)) {qs:ee Qs} (h:QsK H qs):QsK H2 qs:=λq m=>k.tup hx (h q m)
theorem RwK.updL {H H2:Hp} {rs:ee Rw} (h:RwK H rs) {D:dt} {xs:ee V} (α:H D=ag (.lst xs)) (k:∀b o,b≠D->H b=ag o->H2 b=ag o):RwK H2 rs:=λr m=>⟨k _ _ (cn (h r m).1 α λz=>by cases z) (h r m).1,k _ _ (cn (h r m).2 α λz=>by cases z) (h r m).2⟩
theorem QsK.updL {H H2:Hp} {qs:ee Qs} (h:QsK H qs) {D:dt} {xs:ee V} (α:H D=ag (.lst xs)) (k:∀b o,b≠D->H b=ag o->H2 b=ag o):QsK H2 qs:=λq m=>k _ _ (cn (h q m) α λz=>by cases z) (h q m)
theorem Kx.kpt {x:dt} {H H2:Hp} (k:Kx x H H2) {C dx:dt} {fs:ee (mu×V)} (hx:H x=ag (.ins C dx fs)) {i s t o:dt} {rs:ee Rw} {qs:ee Qs} {N:Nt} (h:Kpt H i s t o rs qs N):Kpt H2 i s t o rs qs N:=
 ⟨k.tup hx h.i,k.tup hx h.s,λr m=>⟨k.tup hx (h.sr r m).1,k.tup hx (h.sr r m).2⟩,h.es,k.tup hx h.t,λq m=>k.tup hx (h.tr q m),h.et,k.tup hx h.o⟩
theorem Kx.wia {x:dt} {H H2:Hp} (k:Kx x H H2) {χ φ υ d:dt} {N:Nt} {ws:J1} (h:WiA H χ φ υ d N ws) (hd:d≠x) (hw:∀q∈ws,q.2≠x) {C dx:dt} {fs:ee (mu×V)} (hx:H x=ag (.ins C dx fs)):WiA H2 χ φ υ d N ws:=
 ⟨k _ _ hd h.d,h.nm,λq m=>by
  cases h.ob q m with
  | i ρ β hk e=>exact .i ρ β hk (k _ _ (hw q m) e)
  | s L β δ hk e et=>exact .s L β δ hk (k _ _ (hw q m) e) (k.tup hx et)
  | t ρ y β hk e=>exact .t ρ y β hk (k _ _ (hw q m) e)⟩
noncomputable def xb (f:G') (ws:B1):Bool:=ws.foldl (λa w=>a^^f w) false
theorem kG (f:G') (ws:B1) (w:mu):xb f (ws++[w])=(xb f ws^^f w):=by unfold xb;rw[Wk];rfl
theorem uU {f g:G'}:∀{ws:B1},(∀w∈ws,f w=g w)->xb f ws=xb g ws:=by
 intro ws
 induction ws using M.rev_ind with
 | h0=>intro _;rfl
 | h1 l x ih=>intro h;rw[kG,kG,ih λw hw=>h w (hQ _ hw),h x (i' _ (gn.mpr rfl))]
theorem Sa (f g:G'):∀ws:B1,xb (λz=>f z^^g z) ws=(xb f ws^^xb g ws):=by
 intro ws
 induction ws using M.rev_ind with
 | h0=>rfl
 | h1 l x ih=>rw[kG,kG,kG,ih];cases xb f l<;>cases xb g l<;>cases f x<;>cases g x<;>rfl
structure Val (N:Nt) (row st:Nat) (f:G'):Prop where
 i:∀(k:Nat) z,N.ins[k]? =ag z->f z=row.testBit k
 t:∀(k:Nat) z y,N.sts[k]? =ag (z,y)->f z=st.testBit k
 s:∀z ws,(z,ws)∈N.sums->f z=xb f ws
theorem Val.uniq {N:Nt} (g:Gn N) {od:B1} (tp:Topo N.sums od) {r s:Nat} {f O:G'} (a:Val N r s f) (b:Val N r s O):∀z∈N.names,f z=O z:=by
 have ν:∀z∈N.ins,f z=O z:=λz h=>by
  obtain⟨k,hk⟩:=We.mp h;rw[a.i k z hk,b.i k z hk]
 have Z:∀z∈N.sts.map (·.1),f z=O z:=λz h=>by
  obtain⟨q,δ,rfl⟩:=ik.mp h;obtain⟨k,hk⟩:=We.mp δ;rw[a.t k q.1 q.2 hk,b.t k q.1 q.2 hk]
 have Y:∀n (k:Nat) z,k < n->od[k]? =ag z->f z=O z:=by
  intro n
  induction n with
  | zero=>intro k z h;omega
  | succ n ih=>
    intro k z hk hz;obtain⟨row,L,e⟩:=ik.mp (tp.perm.mem_iff.mp (f' hz));have e:row.1=z:=e;subst e;rw[a.s row.1 row.2 L,b.s row.1 row.2 L];refine uU λw hw=>?_;have γ:=g.ws row L w hw;unfold Nt.names at γ;rcases gF.mp γ with h | h
    ·rcases gF.mp h with h | h
     ·exact ν w h
     ·have:=tp.need k row.1 hz row.2 L w hw h;obtain⟨j,β⟩:=We.mp this
      have α:j < k:=by
       have:=(b'.mp β).1;rw[sv] at this;omega
      rw[Xy α] at β;exact ih j w @A β
    ·exact Z w h
 intro z hz;unfold Nt.names at hz;rcases gF.mp hz with h | h
 ·rcases gF.mp h with h | h
  ·exact ν z h
  ·obtain⟨k,hk⟩:=We.mp (tp.perm.mem_iff.mpr h);exact Y (k + 1) k z (WH k) hk
 ·exact Z z h
noncomputable def mat (f:G') (ws:B1):Nat:=M.pk (λk=>f (ws.getD k "")) 0 ws.length
theorem z8 (f:G') (ws:B1) (k:Nat):(mat f ws).testBit k=(decide (k < ws.length)&&f (ws.getD k "")):=by unfold mat;rw[M.pk_bit,WQ]
theorem Ub (f:G') (ws:B1):mat f ws < 2 ^ ws.length:=M.pk_lt _ _ _
theorem Bq {f g:G'} {ws:B1} (h:∀w∈ws,f w=g w):mat f ws=mat g ws:=by
 apply oe;intro k;rw[z8,z8];by_cases hk:k < ws.length
 ·have:ws.getD k ""∈ws:=by rw[eY,eF hk];exact Wn hk
  rw[h _ this]
 ·rw[gz hk];rfl
noncomputable def fv (N:Nt) (row st:Nat):G':=af1 (Val N row st)
noncomputable def nan (N:Nt) (row st:Nat):Nat:=mat (fv N row st) N.outs
noncomputable def nst (N:Nt) (row st:Nat):Nat:=mat (fv N row st) (N.sts.map (·.2))
theorem On {N:Nt} (g:Gn N) {od:B1} (tp:Topo N.sums od) {r s:Nat} {f:G'} (a:Val N r s f):∀z∈N.names,f z=fv N r s z:=a.uniq g tp (aa8 ⟨f,a⟩)
theorem Pm {N:Nt} (g:Gn N) {od:B1} (tp:Topo N.sums od) {r s:Nat} {f:G'} (a:Val N r s f):mat f N.outs=nan N r s:=Bq λw h=>On g tp a w (g.os w h)
theorem Pk {N:Nt} (g:Gn N) {od:B1} (tp:Topo N.sums od) {r s:Nat} {f:G'} (a:Val N r s f):mat f (N.sts.map (·.2))=nst N r s:=Bq λw h=>On g tp a w (by obtain⟨q,L,rfl⟩:=ik.mp h;exact g.ts q L)
noncomputable def rst (N:Nt):Nat->B'->Nat
 | st,[]=>st
 | st,r::rs=>rst N (nst N r st) rs
noncomputable def ran (N:Nt):Nat->B'->B'
 | _,[]=>[]
 | st,r::rs=>nan N r st::ran N (nst N r st) rs
theorem Ff (N:Nt) (r:Nat):∀(rs:B') (st:Nat),rst N st (rs++[r])=nst N r (rst N st rs)
 | [],_=>rfl
 | q::rs,st=>Ff N r rs (nst N q st)
theorem Fj (N:Nt) (r:Nat):∀(rs:B') (st:Nat),ran N st (rs++[r])=ran N st rs++[nan N r (rst N st rs)]
 | [],_=>rfl
 | q::rs,st=>by show nan N q st::ran N (nst N q st) (rs++[r])=_;rw[Fj N r rs];rfl
theorem Ke (N:Nt):∀(rs:B') (st:Nat),(ran N st rs).length=rs.length
 | [],_=>rfl
 | q::rs,st=>by show(ran N (nst N q st) rs).length + 1=_;rw[Ke N rs];rfl
def VN (N:Nt):Prop:=∀r s,∃f,Val N r s f
noncomputable def need (N:Nt) (od:B1):B1:=N.ins++N.sts.map (·.1)++od
structure Pre (N:Nt) (row st:Nat) (pre:B1) (f:G'):Prop where
 i:∀(k:Nat) z,N.ins[k]? =ag z->z∈pre->f z=row.testBit k
 t:∀(k:Nat) z y,N.sts[k]? =ag (z,y)->z∈pre->f z=st.testBit k
 s:∀z ws,(z,ws)∈N.sums->z∈pre->f z=xb f ws/\∀w∈ws,w∈pre
structure Bt (N:Nt) (row st:Nat) (pre:B1) (f:G') (z:mu) (v:V6):Prop where
 i:∀k:Nat,N.ins[k]? =ag z->v=row.testBit k
 t:∀(k:Nat) y,N.sts[k]? =ag (z,y)->v=st.testBit k
 s:∀ws,(z,ws)∈N.sums->v=xb f ws/\∀w∈ws,w∈pre
theorem Pre.nil (N:Nt) (row st:Nat) (f:G'):Pre N row st [] f:=⟨λ_ _ _ h=>hB h @F,λ_ _ _ _ h=>hB h @F,λ_ _ _ h=>hB h @F⟩
theorem Pre.step {N:Nt} {row st:Nat} {pre:B1} {f:G'} (p:Pre N row st pre f) {z:mu} {v:V6} (hz:z∉pre) (b:Bt N row st pre f z v):Pre N row st (pre++[z]) (λy=>if y=z then v else f y):=by
 have O:∀y,y∈pre->(if y=z then v else f y)=f y:=λy L=>n' (λ(e:y=z)=>hz (e ▸ L));have Y:∀ws:B1,(∀w∈ws,w∈pre)->xb (λy=>if y=z then v else f y) ws=xb f ws:=λws h=>uU λw hw=>O w (h w hw);refine⟨λk y hk L=>?_,λk y x hk L=>?_,λy ws hs L=>?_⟩
 ·rcases gF.mp L with h | h
  ·rw[O y h];exact p.i k y hk h
  ·rw[gn] at h;subst h;rw[qq rfl];exact b.i k hk
 ·rcases gF.mp L with h | h
  ·rw[O y h];exact p.t k y x hk h
  ·rw[gn] at h;subst h;rw[qq rfl];exact b.t k x hk
 ·rcases gF.mp L with h | h
  ·obtain⟨e,hw⟩:=p.s y ws hs h;rw[O y h,Y ws hw];exact⟨e,λw m=>hQ _ (hw w m)⟩
  ·rw[gn] at h;subst h;obtain⟨e,hw⟩:=b.s ws hs;rw[qq rfl,Y ws hw];exact⟨e,λw m=>hQ _ (hw w m)⟩
section
variable {N:Nt} (g:Gn N)
include g
theorem md:N.ins.Nodup/\(N.sums.map (·.1)).Nodup/\(N.sts.map (·.1)).Nodup/\(∀z∈N.ins,z∉N.sums.map (·.1))/\(∀z∈N.ins,z∉N.sts.map (·.1))/\∀z∈N.sums.map (·.1),z∉N.sts.map (·.1):=by
 have h:=g.nd;unfold Nt.names at h;rw[VS,VS] at h;obtain⟨⟨a,b,c⟩,d,e⟩:=h;exact⟨a,b,d,λz h1 h2=>c z h1 z h2 rfl,λz h1 h2=>e z (hQ _ h1) z h2 rfl,λz h1 h2=>e z (i' _ h1) z h2 rfl⟩
theorem UJ {row st:Nat} {pre:B1} {f:G'} {k:Nat} {z:mu} (h:N.ins[k]? =ag z):Bt N row st pre f z (row.testBit k):=by
 obtain⟨a,b,c,d,e,_⟩:=md g;have hm:=f' h;refine⟨λj L=>?_,λj y L=>?_,λws hs=>?_⟩
 ·have:k=j:=(Zz (b'.mp h).1 a).mp (h.trans L.symm);rw[this]
 ·exact hB (ik.mpr ⟨_,f' L,rfl⟩) (e z hm)
 ·exact hB (ik.mpr ⟨_,hs,rfl⟩) (d z hm)
theorem UI {row st:Nat} {pre:B1} {f:G'} {k:Nat} {z y:mu} (h:N.sts[k]? =ag (z,y)):Bt N row st pre f z (st.testBit k):=by
 obtain⟨a,b,c,d,e,O⟩:=md g;have hm:z∈N.sts.map (·.1):=ik.mpr ⟨_,f' h,rfl⟩;refine⟨λj L=>?_,λj x L=>?_,λws hs=>?_⟩
 ·exact hB hm (e z (f' L))
 ·have h1:(N.sts.map (·.1))[k]? =ag z:=by rw[kf,h];rfl
  have h2:(N.sts.map (·.1))[j]? =ag z:=by rw[kf,L];rfl
  have:k=j:=(Zz (b'.mp h1).1 c).mp (h1.trans h2.symm);rw[this]
 ·exact hB hm (O z (ik.mpr ⟨_,hs,rfl⟩))
theorem PL {row st:Nat} {pre:B1} {f:G'} {z:mu} {ws:B1} (h:(z,ws)∈N.sums) (hw:∀w∈ws,w∈pre):Bt N row st pre f z (xb f ws):=by
 obtain⟨a,b,c,d,e,Y⟩:=md g;have hm:z∈N.sums.map (·.1):=ik.mpr ⟨_,h,rfl⟩;refine⟨λj L=>?_,λj x L=>?_,λO hs=>?_⟩
 ·exact hB hm (d z (f' L))
 ·exact hB (ik.mpr ⟨_,f' L,rfl⟩) (Y z hm)
 ·have:=KA b h hs;subst this;exact⟨rfl,hw⟩
variable {od:B1} (tp:Topo N.sums od)
include tp
theorem km (z:mu):z∈need N od↔z∈N.names:=by
 unfold need Nt.names;rw[gF,gF,gF,gF,tp.perm.mem_iff];constructor
 ·rintro((h | h) | h)
  ·exact .inl (.inl h)
  ·exact .inr h
  ·exact .inl (.inr h)
 ·rintro((h | h) | h)
  ·exact .inl (.inl h)
  ·exact .inr h
  ·exact .inl (.inr h)
theorem Q8:(need N od).Nodup:=by
 obtain⟨a,b,c,d,e,Y⟩:=md g;unfold need;rw[VS,VS];refine⟨⟨a,c,λx O y L z=>e x O (z ▸ L)⟩,tp.perm.nodup_iff.mpr b,λx O y L z=>?_⟩;have L:=tp.perm.mem_iff.mp L;subst z;rcases gF.mp O with h | h
 ·exact d x h L
 ·exact Y x L h
theorem z6:(need N od).length<=62:=by
 have:=tp.perm.length_eq;have h1:=g.li;have h2:=g.ls;have L:=g.lt;unfold need;rw[a'] at this;rw[gs,gs,a'];omega
theorem DR {i:Nat} {z:mu} (h:(need N od)[i]? =ag z):∀ws,(z,ws)∈N.sums->∀w∈ws,w∈(need N od).take i:=by
 intro ws hs w hw;obtain⟨a,b,c,d,e,O⟩:=md g;have hm:z∈N.sums.map (·.1):=ik.mpr ⟨_,hs,rfl⟩;unfold need at h ⊢
 have hi:(N.ins++N.sts.map (·.1)).length<=i:=by
  refine ZV λL=>?_;rw[P' L] at h;rcases gF.mp (f' h) with h | h
  ·exact d z h hm
  ·exact O z hm h
 rw[V0 hi] at h;rw[ak4,gF,WT hi];have γ:=g.ws _ hs w hw;unfold Nt.names at γ;rcases gF.mp γ with h' | h'
 ·rcases gF.mp h' with h' | h'
  ·exact .inl (hQ _ h')
  ·exact .inr (tp.need _ z h ws hs w hw h')
 ·exact .inl (i' _ h')
theorem RL {row st i:Nat} {f:G'} {z:mu} (h:(need N od)[i]? =ag z):∃v,Bt N row st ((need N od).take i) f z v:=by
 have hm:=(km g tp z).mp (f' h);unfold Nt.names at hm;rcases gF.mp hm with h' | h'
 ·rcases gF.mp h' with h' | h'
  ·obtain⟨k,hk⟩:=We.mp h';exact⟨_,UJ g hk⟩
  ·obtain⟨r,L,rfl⟩:=ik.mp h';exact⟨_,PL g (ws:=r.2) L (DR g tp h r.2 L)⟩
 ·obtain⟨r,L,rfl⟩:=ik.mp h';obtain⟨k,hk⟩:=We.mp L;exact⟨_,UI g (y:=r.2) hk⟩
theorem vV {i:Nat} {z:mu} (h:(need N od)[i]? =ag z):z∉(need N od).take i:=λm=>by
 have nd:=Q8 g tp;rw[<-X2 i (need N od),VS] at nd;exact nd.2.2 z m z (f' (i:=0) (by rw[Yb,ac8];exact h)) rfl
theorem Kq {row st:Nat} {f:G'} (p:Pre N row st (need N od) f):Val N row st f:=by
 have ν:∀z,z∈N.names->z∈need N od:=λz=>(km g tp z).mpr;refine⟨λk z h=>p.i k z h (ν z ?_),λk z y h=>p.t k z y h (ν z ?_),λz ws h=>(p.s z ws h (ν z ?_)).1⟩
 ·exact hQ _ (hQ _ (f' h))
 ·exact i' _ (ik.mpr ⟨_,f' h,rfl⟩)
 ·exact hQ _ (i' _ (ik.mpr ⟨_,h,rfl⟩))
theorem IY:VN N:=λrow st=>by
 have χ:∀n,n<=(need N od).length->∃f,Pre N row st ((need N od).take n) f:=by
  intro n
  induction n with
  | zero=>intro _;exact⟨λ_=>false,Pre.nil ..⟩
  | succ n ih=>
    intro hn;obtain⟨f,hf⟩:=ih @A;obtain⟨z,hz⟩:∃z,(need N od)[n]? =ag z:=⟨_,eF @A⟩;obtain⟨v,L⟩:=RL (row:=row) (st:=st) (f:=f) g tp hz;have:=hf.step (vV g tp hz) L;rw[<-take_succ hz] at this;exact⟨_,this⟩
 obtain⟨f,hf⟩:=χ _ (ov _);rw[pT] at hf;exact⟨f,Kq g tp hf⟩
end
noncomputable abbrev NP:=Hp->dt->Nt->B1->Prop
def Gm (L:NP):Sp:=λvs H Q _=>∃(p:dt) (N:Nt) (od:B1),vs=[.ref p]/\L H p N od/\∀(D:dt) (H2:Hp),H D=fy->Same H H2->H2 D=ag (.lst (N.ins.map V.str))->Q (.ref D) H2
def Qg (L:NP):Sp:=λvs H Q _=>∃(p:dt) (N:Nt) (od:B1),vs=[.ref p]/\L H p N od/\∀(D:dt) (H2:Hp),H D=fy->Same H H2->H2 D=ag (.lst (N.outs.map V.str))->Q (.ref D) H2
def Jq (L:NP):Sp:=λvs H Q _=>∃(p:dt) (N:Nt) (od:B1),vs=[.ref p]/\L H p N od/\∀(D:dt) (H2:Hp) (qs:ee Qs),H D=fy->Same H H2->H2 D=ag (.lst (qs.map λq=>V.ref q.1))->QsK H2 qs->qs.map (·.2)=N.sts->Q (.ref D) H2
def Qj (L:NP):Sp:=λvs H Q _=>∃(p:dt) (N:Nt) (od:B1),vs=[.ref p]/\L H p N od/\∀(D:dt) (H2:Hp),H D=fy->Same H H2->H2 D=ag (.lst ((need N od).map V.str))->Q (.ref D) H2
noncomputable def bitK (f:G') (zs:B1):ee (Key×V):=zs.map λz=>(zt z,nat (M.bn (f z)))
def Nh (L:NP):Sp:=λvs H Q _=>∃(p:dt) (N:Nt) (od:B1) (row st:Nat),vs=[.ref p,nat row,nat st]/\L H p N od/\∀(d:dt) (H2:Hp) (f:G'),H d=fy->Same H H2->H2 d=ag (.dK (bitK f (need N od)))->Val N row st f->Q (.ref d) H2
def Ju:Sp:=λvs H Q _=>∃(l d:dt) (ws zs:B1) (f:G'),vs=[.ref l,.ref d]/\H l=ag (.lst (ws.map V.str))/\H d=ag (.dK (bitK f zs))/\ws.length<=100/\(∀w∈ws,w∈zs)/\∀H2,Same H H2->Q (nat (mat f ws)) H2
theorem zm (f:G') {z:mu}:∀{zs:B1},z∈zs->valV (bitK f zs) (zt z)=ag (nat (M.bn (f z)))
 | [],h=>by cases h
 | y::zs,h=>by
   unfold bitK;rw[W5];by_cases e:y=z
   ·subst e;exact og rfl
   ·rw[oh λh2=>e (YK h2)];exact zm f ((xY.mp h).resolve_left λh2=>e h2.symm)
theorem Mm (f:G') (zs:B1):(bitK f zs).map (·.1)=zs.map Sum.inr:=by unfold bitK;rw[y2];rfl
theorem R7 (a b:V6):V4 ((M.bn a:Nat):Int) ((M.bn b:Nat):Int)=((M.bn (a^^b):Nat):Int):=by cases a<;>cases b<;>decide
theorem RB (f:G'):∀ws:B1,(ws.map λw=>((M.bn (f w):Nat):Int)).foldl V4 0=((M.bn (xb f ws):Nat):Int):=by
 intro ws
 induction ws using M.rev_ind with
 | h0=>rfl
 | h1 l x ih=>rw[fI,Wk,ih,kG];exact R7 _ _
theorem Ua (f:G') (ws:B1):M.xm ((lj ws.length).filter λk=>f (ws.getD k ""))=mat f ws:=by
 have e:(lj ws.length).filter (λk=>f (ws.getD k ""))=M.pl ws.length (mat f ws):=by
  unfold M.pl;refine aj6 λk hk=>?_;rw[z8,hG (V2.mp hk)];rfl
 rw[e,U7 (Ub f ws)]
structure RunA (NA:NP) (H:Hp) (C p l n:dt) (N:Nt) (od:B1) (st:Nat) (as:B'):Prop where
 ho:∃(dx d:dt),H p=ag (.ins C dx [("net",.ref n),("held",nat st),("bits",.ref d),("given",.ref l)])
 hl:H l=ag (.lst (as.map nat))
 na:NA H n N od
def K2 (p l:dt) (H H2:Hp):Prop:=∀b ob,b≠p->b≠l->H b=ag ob->H2 b=ag ob
def Gf (L:NP) (C:dt):Sp:=λvs H Q _=>∃(x dx n:dt) (N:Nt) (od:B1),vs=[.ref x,.ref n]/\H x=ag (.ins C dx [])/\L H n N od/\∀(H2:Hp) (l:dt),Kx x H H2->H l=fy->RunA L H2 C x l n N od 0 []->Q .non H2
def Nj (O:NP) (C:dt):Sp:=λvs H Q _=>∃(p l n:dt) (N:Nt) (od:B1) (st row:Nat) (L:B'),vs=[.ref p,nat row]/\RunA O H C p l n N od st L/\row < 2 ^ N.ins.length/\L.length<=900/\∀(H2:Hp),K2 p l H H2->RunA O H2 C p l n N od (nst N row st) (L++[nan N row st])->Q (nat (nan N row st)) H2
def Nk (O:NP) (C:dt):Sp:=λvs H Q _=>∃(p l n:dt) (N:Nt) (od:B1) (st:Nat) (L:B'),vs=[.ref p]/\RunA O H C p l n N od st L/\∀(D:dt) (H2:Hp),H D=fy->Same H H2->H2 D=ag (.lst (L.map nat))->Q (.ref D) H2
def JH (L:NP):Sp:=λvs H Q _=>∃(n r:dt) (N:Nt) (od:B1) (rs:B'),vs=[.ref n,.ref r]/\L H n N od/\H r=ag (.lst (rs.map nat))/\rs.length<=900/\(∀x∈rs,x < 2 ^ N.ins.length)/\∀(D:dt) (H2:Hp),H D=fy->Same H H2->H2 D=ag (.lst ((ran N 0 rs).map nat))->Q (.ref D) H2
theorem NetA.keep {H H2:Hp} {C χ φ υ n:dt} {N:Nt} {od:B1} (x:NetA H C χ φ υ n N od) {p γ dx:dt} {fs:ee (mu×V)} (hp:H p=ag (.ins γ dx fs)) (hf:(∀(v:V) (r:ee (mu×V)),fs≠(("name":mu),v)::r)/\∀(v:V) (r:ee (mu×V)),fs≠(("ins":mu),v)::r) (k:Kx p H H2):NetA H2 C χ φ υ n N od:=by
 obtain⟨β,i,s,t,o,d,O,rs,qs,ws,a,b,c,e⟩:=x.ho
 have α:∀q∈ws,q.2≠p:=λq Y z=>by
  obtain⟨ω,δ,Z,L,_⟩:=(c.ob q Y).name;rw[z,hp] at L;injection L with L
  injection L with _ _ L
  exact hf.1 _ _ L
 have hn:n≠p:=λz=>by
  rw[z,hp] at a;injection a with a
  injection a with _ _ a
  exact hf.2 _ _ a
 exact⟨⟨β,i,s,t,o,d,O,rs,qs,ws,k _ _ hn a,k.kpt hp b,k.wia c (cn c.d hp λz=>by cases z) α hp,k.tup hp e⟩,x.g,x.tp⟩
theorem NetA.updL {H H2:Hp} {C χ φ υ n:dt} {N:Nt} {od:B1} (x:NetA H C χ φ υ n N od) {l:dt} {xs:ee V} (hl:H l=ag (.lst xs)) (k:Kx l H H2):NetA H2 C χ φ υ n N od:=by
 obtain⟨β,i,s,t,o,d,O,rs,qs,ws,a,b,c,e⟩:=x.ho;have L:∀{b:dt} {ys:ee V},H b=ag (.tup ys)->H2 b=ag (.tup ys):=λe=>k _ _ (cn e hl λz=>by cases z) e;refine⟨⟨β,i,s,t,o,d,O,rs,qs,ws,k _ _ (cn a hl λz=>by cases z) a,⟨L b.i,L b.s,λr m=>⟨L (b.sr r m).1,L (b.sr r m).2⟩,b.es,L b.t,λq m=>L (b.tr q m),b.et,L b.o⟩,⟨k _ _ (cn c.d hl λz=>by cases z) c.d,c.nm,λq m=>(c.ob q m).keep hl k⟩,L e⟩,x.g,x.tp⟩
noncomputable def mixV (c k:Int):Int:=((c % 2147483647 * 48271 + 7919 * k + 11) % 2147483647 * ((c % 2147483647 * 48271 + 7919 * k + 11) % 2147483647) % 2147483629) * ((c % 2147483647 * 48271 + 7919 * k + 11) % 2147483647 * ((c % 2147483647 * 48271 + 7919 * k + 11) % 2147483647) % 2147483629 + 48271 * k + 7) % 2147483587
theorem Rb (c k:Int):0<=mixV c k:=x7 _ @C
theorem Rc (c k:Int):mixV c k < 2147483587:=tu _ @C
def C6:Sp:=λvs H Q _=>∃(c k:Int),vs=[.int c,.int k]/\0<=k/\k < 100000/\Q (.int (mixV c k)) H
noncomputable def IV:Str:=("cut x x0 x1 fresh new zero none nil tmp c c0 cut0 cut1 gnd off in out sum store":mu)++(" i0 i1 s0 s1 n0 n1 o0 o1 net wire a b z y0 t0 w w0 k dead open":mu)
noncomputable def W40:B1:=YD IV " "
theorem xD:W40.length=40:=by decide +kernel
theorem UV:W40.Nodup:=by decide +kernel
theorem UU:∀z∈W40,nm z.cps.toList=true:=by decide +kernel
noncomputable def dval (l:B'):Nat:=l.foldl (λa c=>10 * a + (c - 48)) 0
noncomputable def tx (n:Nat):Str:=(toString (n:Int):U')
noncomputable def txB (n:Nat):Bool:=decide ((dval (tx n).cps.toList=n/\(tx n).cps.toList.all fig=true)/\(tx n).cps.toList.length<=4)
noncomputable def txR (k:Nat):Bool:=(lj 250).all λi=>txB (250 * k + i)
theorem txk:∀k,k < 10->txR k=true
 | 0,_=>by decide +kernel
 | 1,_=>by decide +kernel
 | 2,_=>by decide +kernel
 | 3,_=>by decide +kernel
 | 4,_=>by decide +kernel
 | 5,_=>by decide +kernel
 | 6,_=>by decide +kernel
 | 7,_=>by decide +kernel
 | 8,_=>by decide +kernel
 | 9,_=>by decide +kernel
 | k + 10,h=>hB h @A
theorem qt:∀n:Fin 2500,(dval (tx n.1).cps.toList=n.1/\(tx n.1).cps.toList.all fig=true)/\(tx n.1).cps.toList.length<=4:=λn=>by
 have h:=Wc.mp (txk (n.1 / 250) @A) (n.1 % 250) (V2.mpr @A);rw[YA] at h;exact WD h
noncomputable def nmf (c k:Int):Str:=if mixV c 402 % 2=0 then W40.getD ((k + mixV c 403) % 40).toNat "" else (⟨#[97 + (mixV c 400 % 26).toNat]⟩:mu)++tx ((mixV c 401 % 1000).toNat + 37 * k.toNat)
theorem qm (x y:mu):(x++y).cps.toList=x.cps.toList++y.cps.toList:=by
 show(x.cps++y.cps).toList=_;rw[Array.toList_append]
theorem T4 (c:Int) {k:Int} (h0:0<=k) (h1:k < 40):Nm (nmf c k):=by
 unfold nmf;by_cases h:mixV c 402 % 2=0
 ·rw[qq h]
  have hi:((k + mixV c 403) % 40).toNat < W40.length:=by
   rw[xD];have:=tu (k + mixV c 403) (show(0:Int) < 40 by decide);have:=x7 (k + mixV c 403) (show(40:Int)≠0 by decide);omega
  rw[eY,eF hi];exact UU _ (Wn hi)
 ·rw[n' h]
  have hb:(mixV c 401 % 1000).toNat + 37 * k.toNat < 2500:=by
   have:=tu (mixV c 401) (show(0:Int) < 1000 by decide);have:=x7 (mixV c 401) (show(1000:Int)≠0 by decide);omega
  obtain⟨⟨_,h2⟩,Y⟩:=qt ⟨_,hb⟩
  have hd:low (97 + (mixV c 400 % 26).toNat)=true:=by
   have:=tu (mixV c 400) (show(0:Int) < 26 by decide);have:=x7 (mixV c 400) (show(26:Int)≠0 by decide);unfold low;rw[hG @A,hG @A];rfl
  show nm _=true;rw[qm];show nm ((97 + (mixV c 400 % 26).toNat)::(tx ((mixV c 401 % 1000).toNat + 37 * k.toNat)).cps.toList)=true;generalize hl:(tx ((mixV c 401 % 1000).toNat + 37 * k.toNat)).cps.toList=l at h2 Y;generalize 97 + (mixV c 400 % 26).toNat=d at hd;show(decide ((d::l).length<=6)&&low d&&(d::l).all λc=>low c||fig c)=true;rw[hd,Z3,hd]
  have L:l.all (λc=>low c||fig c)=true:=by
   rw[Wc] at h2 ⊢;intro x O;rw[h2 x O,ae5]
  rw[L,V1,hG @A];rfl
theorem Q6 (c:Int) {j k:Int} (ε:0<=j) (δ:j < 40) (k0:0<=k) (k1:k < 40) (e:nmf c j=nmf c k):j=k:=by
 unfold nmf at e;by_cases h:mixV c 402 % 2=0
 ·rw[qq h,qq h] at e;have ζ:=tu (j + mixV c 403) (show(0:Int) < 40 by decide);have τ:=x7 (j + mixV c 403) (show(40:Int)≠0 by decide);have hk:=tu (k + mixV c 403) (show(0:Int) < 40 by decide);have β:=x7 (k + mixV c 403) (show(40:Int)≠0 by decide);have O:((j + mixV c 403) % 40).toNat < W40.length:=by rw[xD];omega
  have lk:((k + mixV c 403) % 40).toNat < W40.length:=by rw[xD];omega
  rw[eY,eY,eF O,eF lk] at e;have L:W40[((j + mixV c 403) % 40).toNat]? =W40[((k + mixV c 403) % 40).toNat]? :=by rw[eF O,eF lk];exact ri ag e
  have:=(Zz O UV).mp L;omega
 ·rw[n' h,n' h] at e;have hm:=tu (mixV c 401) (show(0:Int) < 1000 by decide);have α:=x7 (mixV c 401) (show(1000:Int)≠0 by decide);have Y:(mixV c 401 % 1000).toNat + 37 * j.toNat < 2500:=by omega
  have ρ:(mixV c 401 % 1000).toNat + 37 * k.toNat < 2500:=by omega
  have L:=ri (λz:mu=>z.cps.toList) e;simp only[qm] at L;have γ:=List.append_cancel_left L;have Z:=ri dval γ;rw[(qt ⟨_,Y⟩).1.1,(qt ⟨_,ρ⟩).1.1] at Z;have Z:(mixV c 401 % 1000).toNat + 37 * j.toNat=(mixV c 401 % 1000).toNat + 37 * k.toNat:=Z;omega
def yT:Sp:=λvs H Q _=>∃(c k:Int),vs=[.int c,.int k]/\0<=k/\k < 40/\∀H2,Same H H2->Q (.str (nmf c k)) H2
def Jv:Sp:=λvs H Q _=>∃(c:Int) (st:Int) (l:dt) (zs:B1) (dg:V6),vs=[.int c,.int st,.ref l,.bl dg]/\0<=st/\st<=900/\H l=ag (.lst (zs.map V.str))/\zs.length<=50/\∀(D:dt) (H2:Hp) (ws:B1),H D=fy->Same H H2->H2 D=ag (.lst (ws.map V.str))->ws.length<=4->(∀w∈ws,w∈zs)->Q (.ref D) H2
theorem y4 (i:Int) (h0:0<=i) (h1:i < 26):atI ("abcdefghijklmnopqrstuvwxyz":mu).cps.toList i=ag (97 + i.toNat):=by
 have e:("abcdefghijklmnopqrstuvwxyz":mu).cps.toList=ZR 97 26:=by decide +kernel
 obtain⟨j,rfl⟩:=W8 h0;rw[e];refine d9 ?_;rw[List.getElem?_range' @A];show ag (97 + 1 * j)=ag (97 + (j:Int).toNat);rw[Nat.one_mul,pY]
def RwL (H:Hp) (rs:ee Rw):Prop:=∀r∈rs,H r.1=ag (.tup [.str r.2.2.1,.ref r.2.1])/\H r.2.1=ag (.lst (r.2.2.2.map V.str))
theorem RwL.same {H H2:Hp} {rs:ee Rw} (h:RwL H rs) (s:Same H H2):RwL H2 rs:=λr m=>⟨s.get (h r m).1,s.get (h r m).2⟩
noncomputable def nms (c:Int) (a n:Nat):B1:=(lj n).map λk=>nmf c ((a + k:Nat):Int)
theorem fh (c:Int) (a n:Nat):(nms c a n).length=n:=by unfold nms;rw[a',S']
theorem ro (c:Int) (a n:Nat):nms c a (n + 1)=nms c a n++[nmf c ((a + n:Nat):Int)]:=by unfold nms;rw[X7,fI];rfl
theorem jN {c:Int} {a n:Nat} {z:mu} (h:z∈nms c a n):∃k,k < n/\z=nmf c ((a + k:Nat):Int):=by
 obtain⟨k,hk,rfl⟩:=ik.mp h;exact⟨k,V2.mp hk,rfl⟩
theorem T3 {c:Int} {a n k:Nat} (h:k < n):nmf c ((a + k:Nat):Int)∈nms c a n:=ik.mpr ⟨k,V2.mpr h,rfl⟩
theorem zZ (c:Int) {j k:Nat} (L:j < 40) (k1:k < 40) (e:nmf c (j:Int)=nmf c (k:Int)):j=k:=by
 have:=Q6 c @A @A @A @A e;omega
structure Mk (c:Int) (ni nt:Nat) (rows:ee (mu×ee mu)):Prop where
 nm:rows.map (·.1)=nms c 22 rows.length
 ws:∀(k:Nat) r,rows[k]? =ag r->r.2.length<=4/\∀w∈r.2,w∈nms c 0 ni++nms c 6 nt++nms c 22 k
theorem Mk.nil (c:Int) (ξ ε:Nat):Mk c ξ ε []:=⟨rfl,λk r h=>by simp at h⟩
theorem Mk.put {c:Int} {ξ ε:Nat} {rows:ee (mu×ee mu)} (m:Mk c ξ ε rows) {ws:B1} (l:ws.length<=4) (h:∀w∈ws,w∈nms c 0 ξ++nms c 6 ε++nms c 22 rows.length):Mk c ξ ε (rows++[(nmf c ((22 + rows.length:Nat):Int),ws)]):=by
 refine⟨by rw[fI,m.nm,gs,V8,ro];rfl,λk r hk=>?_⟩;by_cases L:k < rows.length
 ·rw[P' L] at hk;exact m.ws k r hk
 ·rw[V0 @A] at hk
  have:k - rows.length=0:=by
   have:=(b'.mp hk).1;rw[V8] at this;omega
  rw[this] at hk;cases hk;rw[show k=rows.length by omega];exact⟨l,h⟩
noncomputable def xf (f:mu->Nat) (ws:B1):Nat:=ws.foldl (λa w=>a^^^f w) 0
theorem pB (f:mu->Nat) (ws:B1) (w:mu):xf f (ws++[w])=xf f ws^^^f w:=by unfold xf;rw[Wk];rfl
theorem OR (f:mu->Nat) (j:Nat):∀ws:B1,(xf f ws).testBit j=xb (λw=>(f w).testBit j) ws:=by
 intro ws
 induction ws using M.rev_ind with
 | h0=>show(0:Nat).testBit j=false;exact X8 j
 | h1 l x ih=>rw[pB,kG,KI,ih]
theorem TU (f:mu->Nat) (y:Nat):∀ws:B1,M.od (xf f ws&&&y)=xb (λw=>M.od (f w&&&y)) ws:=by
 intro ws
 induction ws using M.rev_ind with
 | h0=>show M.od (0&&&y)=false;rw[Yd];exact M.od_zero
 | h1 l x ih=>rw[pB,kG,ZF,M.and_xor,M.od_xor,ZF y,ZF y,ih]
theorem LL (f:mu->Nat):∀ws:B1,(ws.map λw=>((f w:Nat):Int)).foldl V4 0=((xf f ws:Nat):Int):=by
 intro ws
 induction ws using M.rev_ind with
 | h0=>rfl
 | h1 l x ih=>rw[pB,fI,Wk,ih];exact eJ _ _
structure Hng (N:Nt) (p:mu->Nat×Nat):Prop where
 i:∀(k:Nat) z,N.ins[k]? =ag z->p z=(0,2 ^ k)
 t:∀(k:Nat) z y,N.sts[k]? =ag (z,y)->p z=(2 ^ k,0)
 s:∀z ws,(z,ws)∈N.sums->p z=(xf (λw=>(p w).1) ws,xf (λw=>(p w).2) ws)
noncomputable def hvl (p:mu->Nat×Nat) (row st:Nat):G':=λz=>M.od ((p z).1&&&st)^^M.od ((p z).2&&&row)
theorem Hng.val {N:Nt} (g:Gn N) {p:mu->Nat×Nat} (h:Hng N p) (row st:Nat):Val N row st (hvl p row st):=by
 refine⟨λk z hk=>?_,λk z y hk=>?_,λz ws hz=>?_⟩
 ·have:=(b'.mp hk).1;have:=g.li;unfold hvl;rw[h.i k z hk,Yd,M.od_zero,M.od_pow @A];exact Bool.false_xor _
 ·have:=(b'.mp hk).1;have:=g.lt;unfold hvl;rw[h.t k z y hk,Yd,M.od_zero,M.od_pow @A];exact am6 _
 ·unfold hvl;rw[h.s z ws hz,TU,TU];exact(Sa _ _ ws).symm
noncomputable def hgp (N:Nt) (z:mu):Nat×Nat:=(M.pk (λk=>fv N 0 (2 ^ k) z) 0 N.sts.length,M.pk (λk=>fv N (2 ^ k) 0 z) 0 N.ins.length)
theorem FD (N:Nt) (z:mu):(hgp N z).1 < 2 ^ N.sts.length:=M.pk_lt _ _ _
theorem Ln (N:Nt) (z:mu):(hgp N z).2 < 2 ^ N.ins.length:=M.pk_lt _ _ _
theorem OS (b:V6) (f:G'):∀ws:B1,xb (λw=>b&&f w) ws=(b&&xb f ws):=by
 intro ws
 induction ws using M.rev_ind with
 | h0=>show false=(b&&false);rw[Wj]
 | h1 l x ih=>rw[kG,kG,ih];cases b<;>simp
theorem tK {N:Nt} (g:Gn N) {od:B1} (tp:Topo N.sums od):Hng N (hgp N):=by
 have v:∀r s,Val N r s (fv N r s):=λr s=>aa8 (IY g tp r s);refine⟨λk z hk=>?_,λk z y hk=>?_,λz ws hz=>?_⟩
 ·have hl:=(b'.mp hk).1;refine ab0 (oe λj=>?_) (oe λj=>?_)
  ·show(M.pk _ 0 _).testBit j=(0:Nat).testBit j;rw[M.pk_bit,WQ,(v 0 (2 ^ j)).i k z hk,X8,X8,Wj]
  ·show(M.pk _ 0 _).testBit j=(2 ^ k:Nat).testBit j;rw[M.pk_bit,WQ,(v (2 ^ j) 0).i k z hk,v',v'];by_cases e:k=j
   ·subst e;rw[hG hl,hG rfl];rfl
   ·rw[show decide (k=j)=false from gz e,show decide (j=k)=false from gz (λh=>e h.symm),Wj]
 ·have hl:=(b'.mp hk).1;refine ab0 (oe λj=>?_) (oe λj=>?_)
  ·show(M.pk _ 0 _).testBit j=(2 ^ k:Nat).testBit j;rw[M.pk_bit,WQ,(v 0 (2 ^ j)).t k z y hk,v',v'];by_cases e:k=j
   ·subst e;rw[hG hl,hG rfl];rfl
   ·rw[show decide (k=j)=false from gz e,show decide (j=k)=false from gz (λh=>e h.symm),Wj]
  ·show(M.pk _ 0 _).testBit j=(0:Nat).testBit j;rw[M.pk_bit,WQ,(v (2 ^ j) 0).t k z y hk,X8,X8,Wj]
 ·refine ab0 (oe λj=>?_) (oe λj=>?_)
  ·show(M.pk _ 0 _).testBit j=(xf _ ws).testBit j;rw[M.pk_bit,WQ,(v 0 (2 ^ j)).s z ws hz,OR,<-OS];exact uU λw _=>by show _=(M.pk _ 0 _).testBit j;rw[M.pk_bit,WQ]
  ·show(M.pk _ 0 _).testBit j=(xf _ ws).testBit j;rw[M.pk_bit,WQ,(v (2 ^ j) 0).s z ws hz,OR,<-OS];exact uU λw _=>by show _=(M.pk _ 0 _).testBit j;rw[M.pk_bit,WQ]
theorem KF {x j:Nat} (h:j < 1000):M.od (x&&&2 ^ j)=x.testBit j:=by rw[ZF];exact M.od_pow h x
theorem Up {N:Nt} (g:Gn N) {od:B1} (tp:Topo N.sums od) {p:mu->Nat×Nat} (h:Hng N p) {z:mu} (hz:z∈N.names) (b1:(p z).1 < 2 ^ N.sts.length) (b2:(p z).2 < 2 ^ N.ins.length):hgp N z=p z:=by
 have li:=g.li;have lt:=g.lt;refine ab0 (oe λj=>?_) (oe λj=>?_)
 ·show(M.pk _ 0 _).testBit j=(p z).1.testBit j;rw[M.pk_bit,WQ];by_cases L:j < N.sts.length
  ·rw[<-On g tp (h.val g 0 (2 ^ j)) z hz,hG L];unfold hvl;rw[Z2,M.od_zero,KF @A];simp
  ·rw[gz L,ry (hA b1 (hL @C @A))];rfl
 ·show(M.pk _ 0 _).testBit j=(p z).2.testBit j;rw[M.pk_bit,WQ];by_cases L:j < N.ins.length
  ·rw[<-On g tp (h.val g (2 ^ j) 0) z hz,hG L];unfold hvl;rw[Z2,M.od_zero,KF @A];simp
  ·rw[gz L,ry (hA b2 (hL @C @A))];rfl
theorem Po (p:mu->Nat×Nat) (row st:Nat) (ws:B1):mat (hvl p row st) ws=M.tr2 (ws.map p) st row:=by
 apply oe;intro k;rw[z8,M.tr2_bit,a'];by_cases hk:k < ws.length
 ·have L:(ws.map p).getD k (0,0)=p (ws.getD k ""):=by rw[eY,kf,eY,eF hk];rfl
  rw[L];unfold hvl;exact Eq.refl _
 ·rw[gz hk,YY,YY]
section
variable {N:Nt} (g:Gn N) {od:B1} (tp:Topo N.sums od) {p:mu->Nat×Nat} (h:Hng N p)
include g tp h
theorem T6 (row st:Nat):nan N row st=M.tr2 (N.outs.map p) st row:=by rw[<-Pm g tp (h.val g row st),Po]
theorem TZ (row st:Nat):nst N row st=M.tr2 ((N.sts.map (·.2)).map p) st row:=by rw[<-Pk g tp (h.val g row st),Po]
theorem Pb:∀(rs:B') (st:Nat),ran N st rs=M.wan ((N.sts.map (·.2)).map p) (N.outs.map p) st rs
 | [],_=>rfl
 | r::rs,st=>by show nan N r st::ran N (nst N r st) rs=M.tr2 _ st r::M.wan _ _ (M.tr2 _ st r) rs;rw[Pb rs,TZ g tp h,T6 g tp h]
end
structure Hgd (H:Hp) (d:dt) (N:Nt) (zs:B1) (hs:J1):Prop where
 d:H d=ag (.dK (hs.map λq=>(zt q.1,V.ref q.2)))
 nm:hs.map (·.1)=zs
 ob:∀q∈hs,H q.2=ag (.tup [nat (hgp N q.1).1,nat (hgp N q.1).2])
theorem Hgd.same {H H2:Hp} {d:dt} {N:Nt} {zs:B1} {hs:J1} (x:Hgd H d N zs hs) (s:Same H H2):Hgd H2 d N zs hs:=⟨s.get x.d,x.nm,λq m=>s.get (x.ob q m)⟩
theorem E1 {hs:J1} {z:mu}:z∈hs.map (·.1)->∃t,(z,t)∈hs/\valV (hs.map λq=>((zt q.1:Key),V.ref q.2)) (zt z)=ag (.ref t):=by
 induction hs with
 | nil=>intro h;cases h
 | cons q hs ih=>
   intro h;by_cases e:q.1=z
   ·subst e;exact⟨q.2,wq,by show valV ((zt q.1,V.ref q.2)::_) (zt q.1)=_;exact og rfl⟩
   ·have h':z∈hs.map (·.1):=by
     rw[W5,xY] at h;exact h.resolve_left λL=>e L.symm
    obtain⟨t,m,v⟩:=ih h';refine⟨t,z4 _ m,?_⟩;show valV ((zt q.1,V.ref q.2)::_) (zt z)=_;rw[oh λL=>e (YK L)];exact v
theorem Hgd.val {H:Hp} {d:dt} {N:Nt} {zs:B1} {hs:J1} (x:Hgd H d N zs hs) {z:mu} (h:z∈zs):∃t,valV (hs.map λq=>((zt q.1:Key),V.ref q.2)) (zt z)=ag (.ref t)/\H t=ag (.tup [nat (hgp N z).1,nat (hgp N z).2]):=by
 obtain⟨t,m,v⟩:=E1 (hs:=hs) (z:=z) (by rw[x.nm];exact h);exact⟨t,v,x.ob _ m⟩
def NB (L:NP):Sp:=λvs H Q _=>∃(p:dt) (N:Nt) (od:B1),vs=[.ref p]/\L H p N od/\∀(d:dt) (H2:Hp) (hs:J1),H d=fy->Same H H2->Hgd H2 d N (need N od) hs->Q (.ref d) H2
def Ni (L:NP) (C:dt):Sp:=λvs H Q _=>∃(p:dt) (N:Nt) (od:B1),vs=[.ref p]/\L H p N od/\∀(x:dt) (H2:Hp) (nx os:ee Pr3),H x=fy->Same H H2->MaA H2 C x N.ins.length nx os->MaG N.ins.length nx os->prs nx=(N.sts.map (·.2)).map (hgp N)->prs os=N.outs.map (hgp N)->Q (.ref x) H2
structure Sml (m:Nat) (ps os:A'):Prop where
 m6:m<=6
 lp:ps.length<=16
 lo:os.length<=6
 bn:∀q∈ps++os,q.1 < 2 ^ ps.length/\q.2 < 2 ^ m
section
variable {m:Nat} {ps os:A'} (b:Sml m ps os)
include b
end
section
variable {m:Nat} {ps os:A'} (b:Sml m ps os)
include b
end
theorem RJ {k:Nat} (hk:k<=1000):((k:Int)).natAbs.log2 < 1920:=by
 rw[Zr];rcases aj4 k with z | z
 ·rw[z];decide
 ·exact(Zc @A).mpr (hA (show k < 2 ^ 14 by omega) (hL @C @C))
theorem PJ {l:mu} {k:Nat} (hl:l.length<=10) (hk:k<=1000):l.length + (tx k).length<=sizeLine:=by
 have L:=XC (RJ hk);rw[lT];show l.length + (toString (k:Int):mu).length<=_;omega
end Sx
namespace M
noncomputable def stj (ps:A'):B'->Nat->B'
 | S,0=>S
 | S,j + 1=>(stj ps S j).map λx=>tr2 ps x 0
noncomputable def sg0 (ps:A') (m:Nat):B':=(lj m).map λw=>tr2 ps 0 (2 ^ w)
noncomputable def rch (ps:A') (m:Nat):Nat->B'
 | 0=>[]
 | T + 1=>stj ps (sg0 ps m) T++rch ps m T
theorem stj_len (ps:A') (S:B'):∀j,(stj ps S j).length=S.length
 | 0=>rfl
 | j + 1=>by show((stj ps S j).map _).length=_;rw[a',stj_len ps S j]
theorem sg0_len (ps:A') (m:Nat):(sg0 ps m).length=m:=by unfold sg0;rw[a',S']
theorem stj_lt (ps:A') (m:Nat):∀j,∀x∈stj ps (sg0 ps m) j,x < 2 ^ ps.length
 | 0,x,h=>by obtain⟨w,_,rfl⟩:=ik.mp h;exact tr2_lt _ _ _
 | j + 1,x,h=>by obtain⟨y,_,rfl⟩:=ik.mp h;exact tr2_lt _ _ _
theorem Pa (ps:A') (m:Nat):∀T,∀x∈rch ps m T,x < 2 ^ ps.length
 | 0,x,h=>hB h (by simp[rch])
 | T + 1,x,h=>(gF.mp h).elim (stj_lt ps m T x) (Pa ps m T x)
theorem E6 (ps:A'):∀(rows:B') (F:Nat),tr2 ps (sm rows F) 0=sm (rows.map λx=>tr2 ps x 0) F
 | [],F=>qv ps
 | r::rows,F=>by
   show tr2 ps ((if F.testBit 0 then r else 0)^^^sm rows (F / 2)) 0=(if F.testBit 0 then tr2 ps r 0 else 0)^^^sm (rows.map λx=>tr2 ps x 0) (F / 2);have e:=mX ps (if F.testBit 0 then r else 0) (sm rows (F / 2)) 0 0;rw[Xo] at e;rw[e,E6 ps rows];cases F.testBit 0<;>simp[qv]
theorem si (ps:A') (r:Nat):∀m,r < 2 ^ m->tr2 ps 0 r=sm (sg0 ps m) r
 | 0,h=>by have:r=0:=by have:r < 1:=h;omega
           rw[this,qv];rfl
 | m + 1,h=>by
   have es:sg0 ps (m + 1)=sg0 ps m++[tr2 ps 0 (2 ^ m)]:=by unfold sg0;rw[X7,fI];rfl
   rw[es,m7,sg0_len];by_cases hb:r.testBit m=true
   ·have L:r^^^2 ^ m < 2 ^ m:=by
     apply Xx;intro i hi;rw[KI,v'];by_cases e:m=i
     ·subst e;rw[hb];simp
     ·rw[ry (hA h (hL @C @A))];simp[e]
    have ih:=si ps (r^^^2 ^ m) m L
    have Y:sm (sg0 ps m) r=sm (sg0 ps m) (r^^^2 ^ m):=by
     have:sm (sg0 ps m) (2 ^ m)=0:=by
      have h1:=m7 (sg0 ps m) 0 (2 ^ m);have h2:=JJ (sg0 ps m) 0;rw[sg0_len] at h2;rw[h2] at h1;simpa using h1.symm
     rw[sm_xor,this,Wa]
    rw[qq hb,Y,<-ih];have O:=mX ps 0 0 (r^^^2 ^ m) (2 ^ m);rw[Xo,b7] at O;exact O
   ·have L:r < 2 ^ m:=by
     apply Xx;intro i hi;by_cases e:i=m
     ·subst e;simpa using hb
     ·exact ry (hA h (hL @C @A))
    rw[n' hb,Wa,si ps r m L]
theorem O5:∀(L bs:B') (s:Nat),sm (L++bs) s=sm L s^^^sm bs (s>>>L.length)
 | [],bs,s=>by show sm bs s=0^^^sm bs (s>>>0);rw[Xe,Nat.shiftRight_zero]
 | a::L,bs,s=>by
   show(if s.testBit 0 then a else 0)^^^sm (L++bs) (s / 2)=(if s.testBit 0 then a else 0)^^^sm L (s / 2)^^^sm bs (s>>>(L.length + 1));rw[O5 L bs (s / 2),Wb,Nat.shiftRight_succ_inside]
theorem JL:∀(L:B') (P:Nat),sm L (P <<< L.length)=0
 | [],_=>rfl
 | a::L,P=>by
   show(if (P <<< (L.length + 1)).testBit 0 then a else 0)^^^sm L ((P <<< (L.length + 1)) / 2)=0;have Y:(P <<< (L.length + 1)).testBit 0=false:=by rw[WA];simp
   have O:(P <<< (L.length + 1)) / 2=P <<< L.length:=by rw[Nat.shiftLeft_succ];omega
   rw[Y,O,JL L P];simp
theorem parts_high {w r P:Nat} (h:r < 2 ^ w):(r^^^(P <<< w))>>>w=P:=by
 apply oe;intro i;rw[Ws,KI,WA,ry (hA h (hL @C @A))];simp
noncomputable def zs (ps:A') (x:Nat):Nat->Nat
 | 0=>x
 | n + 1=>tr2 ps (zs ps x n) 0
theorem OU (ps:A') (x:Nat):∀n,wst ps x (p' n 0)=zs ps x n
 | 0=>rfl
 | n + 1=>by rw[XD,wst_snoc,OU ps x n];rfl
theorem O1 (ps:A') (S:B') (F:Nat):∀n,sm (stj ps S n) F=zs ps (sm S F) n
 | 0=>rfl
 | n + 1=>by show sm ((stj ps S n).map λx=>tr2 ps x 0) F=tr2 ps (zs ps (sm S F) n) 0;rw[<-E6,O1 ps S F n]
theorem IT (ps:A') (x:Nat) (rs:B'):wst ps x rs=zs ps x rs.length^^^wst ps 0 rs:=by
 have e:=IU ps (p' rs.length 0) rs x 0 (by rw[V'])
 have L:ae3 (·^^^·) (p' rs.length 0) rs=rs:=by
  apply ak5
  ·rw[List.length_zipWith,V',Nat.min_self]
  ·intro i h1 h2;rw[List.getElem_zipWith,ae8,Xe]
 rw[L,Wa,OU] at e;exact e
theorem Fh (ps:A') (m:Nat):∀rs:B',(∀r∈rs,r < 2 ^ m)->wst ps 0 rs=sm (rch ps m rs.length) (pkw m rs)
 | [],_=>rfl
 | r::rs,h=>by
   have ih:=Fh ps m rs λx Y=>h x (z4 _ Y);have L:=h r (wq ..);show wst ps (tr2 ps 0 r) rs=sm (stj ps (sg0 ps m) rs.length++rch ps m rs.length) (r^^^(pkw m rs <<< m));have hl:(stj ps (sg0 ps m) rs.length).length=m:=by rw[stj_len,sg0_len]
   rw[IT,ih,O5,hl,parts_high L,sm_xor];have O:=JL (stj ps (sg0 ps m) rs.length) (pkw m rs);rw[hl] at O;rw[O,Wa,O1,<-si ps r m L]
noncomputable def upk (w q T:Nat):B':=(lj T).map λt=>(q>>>(t * w))&&&(2 ^ w - 1)
theorem Jm (ps:A') (m w:Nat) (hw:w < m):∀j,zs ps (tr2 ps 0 (2 ^ w)) j∈stj ps (sg0 ps m) j
 | 0=>ik.mpr ⟨w,V2.mpr hw,rfl⟩
 | j + 1=>ik.mpr ⟨_,Jm ps m w hw j,rfl⟩
theorem Kc (ps:A') (m:Nat) {j:Nat} {x:Nat} (h:x∈stj ps (sg0 ps m) j):∀{T},j < T->x∈rch ps m T
 | T + 1,L=>by
   by_cases e:j=T
   ·subst e;exact hQ _ h
   ·exact i' _ (Kc ps m h @A)
structure Kern (R ms:B'):Prop where
 inj:Inj ms
 lt:∀m∈ms,m < 2 ^ R.length
 ev:∀m∈ms,sm R m=0
 all:∀z,z < 2 ^ R.length->sm R z=0->Span ms z
structure Lft (left rows:B'):Prop where
 nz:∀x∈left,x≠0
 pw:left.Pairwise λa b=>b.testBit a.log2=false
 sp:∀x,Span left x↔Span rows x
 len:left.length=(fr rows).length
noncomputable def bm (rows:B') (b:Nat):Nat:=af1 (Bar rows b)
structure Fst (ms:B') (p:Nat):Prop where
 lt:p < ms.length
 out:∀k,k < p->¬Span (ms.take k) (ms.getD k 0)
 in_:Span (ms.take p) (ms.getD p 0)
theorem Pt {ms:B'}:∀j,j<=ms.length->(∀k,k < j->¬Span (ms.take k) (ms.getD k 0))->(fr (ms.take j)).length=j
 | 0,_,_=>by have:=fr_len (ms.take 0);simpa using this
 | j + 1,L,h=>by
   have e:ms.take (j + 1)=ms.take j++[ms.getD j 0]:=by
    rw[YX,eF @A,eY,eF @A];rfl
   rw[e,fr_out (h j (WH j)),gs,Pt j @A (λk hk=>h k @A)];rfl
theorem EA {ms:B'} {n j:Nat} (hb:∀x∈ms,x < 2 ^ n) (O:j<=ms.length) (h:∀k,k < j->¬Span (ms.take k) (ms.getD k 0)):j<=n:=by
 rw[<-Pt j O h];exact Kd λr L=>hb r (List.mem_of_mem_take L)
noncomputable def zl (ps:A') (d n:Nat):B':=(lj (n + 1)).map (zs ps d)
theorem IC (ps:A') (d n:Nat):(zl ps d n).length=n + 1:=by unfold zl;rw[a',S']
theorem EV {ps:A'} {d n k:Nat} (h:k<=n):(zl ps d n)[k]? =ag (zs ps d k):=by
 unfold zl;rw[kf,W6 @A];rfl
theorem PY {ps:A'} {d n k:Nat} (h:k<=n):(zl ps d n).getD k 0=zs ps d k:=by rw[eY,EV h];rfl
theorem CZ {ps:A'} {d:Nat} (h:d < 2 ^ ps.length):∀k,zs ps d k < 2 ^ ps.length
 | 0=>h
 | k + 1=>tr2_lt _ _ _
theorem UZ {ps:A'} {d n:Nat} (h:d < 2 ^ ps.length):∀x∈zl ps d n,x < 2 ^ ps.length:=λx L=>by
 obtain⟨k,_,rfl⟩:=ik.mp L;exact CZ h k
theorem JK {rows:B'}:∀(rs:B'),(∀x∈rs,Span rows x)->∀F,Span rows (sm rs F)
 | [],_,_=>span_zero rows
 | r::rs,h,F=>by
   show Span rows ((if F.testBit 0 then r else 0)^^^sm rs (F / 2));refine span_xor ?_ (JK rs (λx L=>h x (z4 _ L)) (F / 2));split
   ·exact h r wq
   ·exact span_zero rows
theorem PX {ps:A'} {d n p:Nat} (F:Fst (zl ps d n) p):∀t,Span ((zl ps d n).take p) (zs ps d t):=by
 have hp:p<=n:=by have:=F.lt;rw[IC] at this;omega
 have ν:=F.in_;rw[PY hp] at ν;have L:∀k,k < p->Span ((zl ps d n).take p) (zs ps d k):=λk hk=>E8 (f' (i:=k) (by rw[Xy hk];exact EV @A));intro t
 induction t with
 | zero=>
   by_cases Z:p=0
   ·subst Z;exact ν
   ·exact L 0 @A
 | succ t ih=>
   obtain⟨G,_,β⟩:=span_sm ih;show Span _ (tr2 ps (zs ps d t) 0);rw[<-β,E6];refine JK _ (λx α=>?_) G;obtain⟨y,Y,rfl⟩:=ik.mp α;obtain⟨k,hk⟩:=List.getElem?_of_mem Y
   have O:k < p:=by
    have:=(b'.mp hk).1;rw[sv] at this;omega
   rw[Xy O,EV @A] at hk;cases hk;show Span _ (zs ps d (k + 1));by_cases h1:k + 1 < p
   ·exact L _ h1
   ·have:k + 1=p:=by omega
    rw[this];exact ν
theorem R1 (ps:A') (d:Nat):∀i,zs ps (tr2 ps d 0) i=zs ps d (i + 1)
 | 0=>rfl
 | i + 1=>by show tr2 ps (zs ps (tr2 ps d 0) i) 0=_;rw[R1 ps d i];rfl
theorem wan_take (ps os:A'):∀(rs:B') (a k:Nat),wan ps os a (rs.take k)=(wan ps os a rs).take k
 | [],_,k=>by simp[wan]
 | r::rs,a,0=>rfl
 | r::rs,a,k + 1=>by
   show tr2 os a r::wan ps os (tr2 ps a r) (rs.take k)=_;rw[wan_take ps os rs];rfl
noncomputable def act (ps:A') (x Q:Nat):Nat:=if Q=0 then 0 else (if Q % 2=1 then x else 0)^^^act ps (tr2 ps x 0) (Q / 2)
termination_by Q
decreasing_by omega
structure Lst (ps:A') (x P:Nat):Prop where
 nz:P≠0
 dv:∀Q,act ps x Q=0↔Dv P Q
structure Rng (ps:A') (x l n:Nat):Prop where
 pos:1<=n
 back:zs ps x (l + n)=zs ps x l
 least:∀e,1<=e->e < n->zs ps x (l + e)≠zs ps x l
 early:1<=l->zs ps x (l - 1 + n)≠zs ps x (l - 1)
noncomputable def bl (A:B') (s n:Nat):B':=(lj (n + 1)).map (bkI A s)
end M
namespace Sx
open PySem L2
structure Sgl (H:Hp) (D:dt) (ds:Dk) (ps os:A') (n m:Nat):Prop where
 d:H D=ag (.lst (ds.map V.ref))
 len:ds.length=m
 at':∀(w:Nat) (d:dt),ds[w]? =ag d->H d=ag (.lst ((M.wan ps os 0 (M.pulse w n)).map nat))
noncomputable def strD (z:mu):Dt:= .str z
theorem zF {K:ak} {H:Hp} {D:dt} {zs:B1} (e:H D=ag (.lst (zs.map V.str))):Rep K H (.ref D) (.lst (zs.map strD)):= .lst (SqL.of e) (by rw[a',a']) (vD V.str strD (λz=> .str z) zs)
theorem Tb {K:ak} {H:Hp} {t:dt} {v w:V} {d e:Dt} (h:H t=ag (.tup [v,w])) (L:Rep K H v d) (η:Rep K H w e):Rep K H (.ref t) (.tup [d,e]):= .tup (SqT.of h) rfl λi x y h1 h2=>by
 match i,h1,h2 with
 | 0,h1,h2=>cases h1;cases h2;exact L
 | 1,h1,h2=>cases h1;cases h2;exact η
 | i + 2,h1,_=>simp at h1
theorem Ta {K:ak} {H:Hp} {t:dt} {v w ζ L:V} {d e d' O:Dt} (h:H t=ag (.tup [v,w,ζ,L])) (Z:Rep K H v d) (η:Rep K H w e) (ψ:Rep K H ζ d') (Y:Rep K H L O):Rep K H (.ref t) (.tup [d,e,d',O]):= .tup (SqT.of h) rfl λi x y h1 h2=>by
 match i,h1,h2 with
 | 0,h1,h2=>cases h1;cases h2;exact Z
 | 1,h1,h2=>cases h1;cases h2;exact η
 | 2,h1,h2=>cases h1;cases h2;exact ψ
 | 3,h1,h2=>cases h1;cases h2;exact Y
 | i + 4,h1,_=>simp at h1
structure TldA (H:Hp) (t D1 D2 D3 D4:dt) (rs:ee Rw) (qs:ee Qs) (N:Nt):Prop where
 t:H t=ag (.tup [.ref D1,.ref D2,.ref D3,.ref D4])
 i:H D1=ag (.lst (N.ins.map V.str))
 s:H D2=ag (.lst (rs.map λr=>V.ref r.1))
 sr:RwK H rs
 es:rs.map (·.2.2)=N.sums
 st:H D3=ag (.lst (qs.map λr=>V.ref r.1))
 tr:QsK H qs
 et:qs.map (·.2)=N.sts
 o:H D4=ag (.lst (N.outs.map V.str))
theorem Ay:∀l:B1,ml (l.map strD)=0
 | []=>rfl
 | z::l=>by rw[W5,ml,Ay l];rfl
def Qe (L:NP):Sp:=λvs H Q _=>∃(p:dt) (N:Nt) (od:B1),vs=[.ref p]/\L H p N od/\∀(D:dt) (H2:Hp) (rs:ee Rw),H D=fy->Same H H2->H2 D=ag (.lst (rs.map λr=>V.ref r.1))->RwK H2 rs->rs.map (·.2.2)=N.sums->Q (.ref D) H2
structure Sumd (rows:B') (x q:Nat):Prop where
 lt:q < 2 ^ rows.length
 sm:M.sm rows q=x
 fr:M.Frs rows q
theorem Sumd.uniq {rows:B'} {x p q:Nat} (a:Sumd rows x p) (b:Sumd rows x q):p=q:=M.sum_uniq a.fr b.fr (by rw[a.sm,b.sm])
structure Bard (rows:B') (x m:Nat):Prop where
 ns:¬M.Span rows x
 bar:∃y,M.Span rows y/\x^^^y≠0/\UX rows (x^^^y).log2/\M.Bar rows (x^^^y).log2 m
 ev:∀y,M.Span rows y->M.od (m&&&y)=false
 odd:M.od (m&&&x)=true
 lt:∀W,(∀r∈rows,r < 2 ^ W)->x < 2 ^ W->m < 2 ^ W
def Ge:Sp:=λvs H Q _=>∃(r:dt) (rows:B') (x:Nat),vs=[.ref r,nat x]/\H r=ag (.lst (rows.map nat))/\rows.length<=1000/\(∀r∈rows,r < 2 ^ 1000)/\x < 2 ^ 1000/\(M.Span rows x∨(M.fr rows).length < 64)/\
 (∀(t D:dt) (H2:Hp) (q:Nat),H D=fy->Same H H2->H2 t=ag (.tup [.str "sum",.ref D])->H2 D=ag (.lst ((M.pl 1000 q).map nat))->Sumd rows x q->Q (.ref t) H2)/\
 (∀(t:dt) (H2:Hp) (m:Nat),Same H H2->H2 t=ag (.tup [.str "no",nat m])->Bard rows x m->Q (.ref t) H2)
end Sx
namespace L2
open PySem
theorem Be {X:Cx} {K:ak} (h:X.K=K):OpR X (compareOp .NotIn) (rIn K true):=by subst h;exact Bd
end L2
namespace Sx
open PySem L2
noncomputable def natD (n:Nat):Dt:= .int n
noncomputable def J (c:Nat):ee B'->B'
 | []=>[]
 | [x]=>x
 | x::y::r=>x++c::J c (y::r)
theorem Kz {X:Cx} {K:ak} (h:X.K=K):OpR X (compareOp .In) (rIn K false):=by subst h;exact Ky
inductive Fm:B1->Prop where
 | i (z:mu) (h:Nm z):Fm ["in",z]
 | o (z:mu) (h:Nm z):Fm ["out",z]
 | s (z:mu) (ws:B1) (h:Nm z) (hw:∀w∈ws,Nm w) (l:ws.length<=24):Fm ("sum"::z::"="::ws)
 | t (z y:mu) (h:Nm z) (hy:Nm y):Fm ["store",z,"=",y]
noncomputable def kd (k:mu) (r:B1):Bool:=decide (r.getD 0 ""=k)
theorem KO {c:Int} {ξ O:Nat} {rows sums:ee (mu×ee mu)} {sts:ee (mu×mu)} {outs:B1} (m:Mk c ξ O rows) (h1:ξ<=3) (h2:O<=12) (ω:rows.length<=12) (hp:sums.Perm rows) (hs:sts.map (·.1)=nms c 6 O) (ο:outs.length<=6)
  (ht:∀q∈sts,q.2∈nms c 0 ξ++nms c 6 O++nms c 22 rows.length) (ho:∀z∈outs,z∈nms c 0 ξ++nms c 6 O++nms c 22 rows.length):Gn ⟨nms c 0 ξ,sums,sts,outs⟩:=by
 have pn:(sums.map (·.1)).Perm (nms c 22 rows.length):=by rw[<-m.nm];exact hp.map _
 have Z:∀z,z∈nms c 0 ξ++nms c 6 O++nms c 22 rows.length->z∈Nt.names ⟨nms c 0 ξ,sums,sts,outs⟩:=λz hz=>by
  unfold Nt.names;show z∈nms c 0 ξ++sums.map (·.1)++sts.map (·.1);rw[hs];rcases gF.mp hz with h | h
  ·rcases gF.mp h with h | h
   ·exact hQ _ (hQ _ h)
   ·exact i' _ h
  ·exact hQ _ (i' _ (pn.mem_iff.mpr h))
 have π:sts.length=O:=by have:=ri y1 hs;rw[a',fh] at this;exact this
 have L:∀r∈sums,∃k,rows[k]? =ag r:=λr Y=>We.mp (hp.mem_iff.mp Y)
 have υ:∀z∈Nt.names ⟨nms c 0 ξ,sums,sts,outs⟩,∃k:Nat,k < 40/\z=nmf c (k:Int):=λz hz=>by
  unfold Nt.names at hz;have hz:z∈nms c 0 ξ++sums.map (·.1)++sts.map (·.1):=hz;rw[hs] at hz;rcases gF.mp hz with h | h
  ·rcases gF.mp h with h | h
   ·obtain⟨k,hk,e⟩:=jN h;exact⟨_,@A,e⟩
   ·obtain⟨k,hk,e⟩:=jN (pn.mem_iff.mp h);exact⟨_,@A,e⟩
  ·obtain⟨k,hk,e⟩:=jN h;exact⟨_,@A,e⟩
 have β:∀(a n:Nat),a + n<=40->(nms c a n).Nodup:=λa n h=>by
  unfold nms;refine Yq.mpr (Yc (λ{i j} hi γ ψ=>?_) List.pairwise_lt_range);intro e;have:=zZ c (show a + i < 40 by have:=V2.mp hi;omega) (show a + j < 40 by have:=V2.mp γ;omega) e;omega
 have ε:∀{a n b k:Nat},a + n<=40->b + k<=40->a + n<=b->∀x∈nms c a n,∀y∈nms c b k,x≠y:=λh1 h2 ω x ζ y δ e=>by
  obtain⟨i,hi,rfl⟩:=jN ζ;obtain⟨j,γ,rfl⟩:=jN δ;have:=zZ c @A @A e;omega
 refine⟨by show(nms c 0 ξ).length<=6;rw[fh];omega,by show sums.length<=40;rw[hp.length_eq];omega,by show sts.length<=16;omega,ο,λr Y=>?_,λz hz=>?_,?_,λr Y z hz=>?_,λr Y=>Z _ (ht r Y),λz hz=>Z _ (ho z hz),?_⟩
 ·obtain⟨k,hk⟩:=L r Y;have:=(m.ws k r hk).1;omega
 ·obtain⟨k,hk,rfl⟩:=υ z hz;exact T4 c @A @A
 ·unfold Nt.names;show(nms c 0 ξ++sums.map (·.1)++sts.map (·.1)).Nodup;rw[hs,VS,VS];refine⟨⟨β _ _ @A,pn.nodup_iff.mpr (β _ _ @A),λx ζ y δ=>ε @A @A @A x ζ y (pn.mem_iff.mp δ)⟩,β _ _ @A,λx ζ y δ=>?_⟩;rcases gF.mp ζ with h | h
  ·exact ε @A @A @A x h y δ
  ·exactλe=>ε (a:=6) (n:=O) (b:=22) (k:=rows.length) @A @A @A y δ x (pn.mem_iff.mp h) e.symm
 ·obtain⟨k,hk⟩:=L r Y;have η:=(b'.mp hk).1;refine Z z ?_;rcases gF.mp ((m.ws k r hk).2 z hz) with h | h
  ·exact hQ _ h
  ·obtain⟨j,γ,rfl⟩:=jN h;exact i' _ (T3 @A)
 ·refine⟨λz=>(nms c 22 rows.length).idxOf z,λr Y z hz α=>?_⟩;obtain⟨k,hk⟩:=L r Y;have η:=(b'.mp hk).1;have er:(nms c 22 rows.length)[k]? =ag r.1:=by rw[<-m.nm,kf,hk];rfl
  have nd:=β 22 rows.length @A
  have ι:∀(j:Nat) y,(nms c 22 rows.length)[j]? =ag y->(nms c 22 rows.length).idxOf y=j:=λj y γ=>by
   obtain⟨χ,φ⟩:=b'.mp γ;rw[<-φ];exact nd.idxOf_getElem j χ
  obtain⟨j,γ,ν⟩:=jN (pn.mem_iff.mp α)
  have θ:j < k:=by
   rcases gF.mp ((m.ws k r hk).2 z hz) with h | h
   ·exfalso;rcases gF.mp h with h | h
    ·exact ε (a:=0) (n:=ξ) (b:=22) (k:=rows.length) @A @A @A z h z (pn.mem_iff.mp α) rfl
    ·exact ε (a:=6) (n:=O) (b:=22) (k:=rows.length) @A @A @A z h z (pn.mem_iff.mp α) rfl
   ·obtain⟨ρ,τ,e'⟩:=jN h;have:=zZ c (show 22 + j < 40 by omega) (show 22 + ρ < 40 by omega) (ν.symm.trans e');omega
  have ez:(nms c 22 rows.length)[j]? =ag z:=by unfold nms;rw[kf,W6 γ,ν];rfl
  show(nms c 22 rows.length).idxOf z < (nms c 22 rows.length).idxOf r.1;rw[ι j z ez,ι k r.1 er];exact θ
inductive Scl:V->U'->Prop where
 | str (z:mu) (l:z.length<=1000):Scl (.str z) "str"
 | int (i:Int):Scl (.int i) "int"
 | bl (b:V6):Scl (.bl b) "bool"
 | non:Scl .non "NoneType"
theorem Scl.kind {K:ak} {H:Hp} {v:V} {k:U'} (s:Scl v k):lC K H v k:=by cases s<;>rfl
theorem Scl.len {v:V} {k:U'} (s:Scl v k):∀z,v= .str z->z.length<=1000:=λz e=>by cases s with
 | str y l=>cases e;exact l
 | int=>cases e
 | bl=>cases e
 | non=>cases e
def Tld (H H2:Hp) (dx:dt) (v:V):Prop:=Same H H2/\H2 dx=ag (.xd [("name",v)])
theorem R9 {H H2:Hp} {x C:dt} {v:V} (f:H x=fy) (e:ExcV H2 x C [("name",v)]) (hk:∀b u,b≠x->H b=ag u->H2 b=ag u):∃dx,H2 x=ag (ExcF x C (ag dx))/\Tld H (del H2 x) dx v:=by
 obtain⟨o,a,b⟩:=e;cases o with
 | none=>cases b
 | some d=>
   have b:H2 d=ag (.xd [("name",v)]):=b;have hd:d≠x:=λz=>by rw[z,a] at b;cases b
   exact⟨d,a,fun γ u L=>by rw[za (aq L f)];exact hk _ _ (aq L f) L,by rw[za hd];exact b⟩
theorem Tld.pre {H H1 H2:Hp} {dx:dt} {v:V} (s:Same H H1) (t:Tld H1 H2 dx v):Tld H H2 dx v:=⟨s.trans t.1,t.2⟩
theorem RG {H H2:Hp} {x C dx:dt} {v:V} (f:H x=fy) (t:H dx=ag (.xd [("name",v)])) (u:Upd H H2 x (ExcO x (.ref C) (ag dx))):ExcC H2 x C [("name",v)]:=⟨dx,u.at',u.oth _ _ (aq t f) t⟩
def Jn (L:NP):Sp:=λvs H Q _=>∃(p:dt) (N:Nt) (od:B1),vs=[.ref p]/\L H p N od/\∀(D:dt) (H2:Hp),H D=fy->Same H H2->H2 D=ag (.lst (N.names.map V.str))->Q (.ref D) H2
theorem Bm (c:Int) {k:Nat} (hk:k < 40):nmf c (k:Int)∈W40∨∃(d n:Nat),n < 2500/\n=(mixV c 401 % 1000).toNat + 37 * k/\d=97 + (mixV c 400 % 26).toNat/\(nmf c (k:Int)).cps.toList=d::(tx n).cps.toList:=by
 unfold nmf;by_cases L:mixV c 402 % 2=0
 ·left;rw[qq L]
  have hi:(((k:Int) + mixV c 403) % 40).toNat < W40.length:=by
   rw[xD];have:=tu ((k:Int) + mixV c 403) (show(0:Int) < 40 by decide);have:=x7 ((k:Int) + mixV c 403) (show(40:Int)≠0 by decide);omega
  rw[eY,eF hi];exact Wn hi
 ·right;rw[n' L];refine⟨_,(mixV c 401 % 1000).toNat + 37 * k,?_,rfl,rfl,?_⟩
  ·have:=tu (mixV c 401) (show(0:Int) < 1000 by decide);have:=x7 (mixV c 401) (show(1000:Int)≠0 by decide);omega
  ·rw[qm];rfl
def Nmc (c:Int) (N:Nt):Prop:=∀z∈N.names,∃k:Nat,k < 40/\z=nmf c (k:Int)
noncomputable def sbw (w f z:mu):Str:=if z=w then f else z
noncomputable def cutN (N:Nt) (w f:mu):Nt:=⟨N.ins,N.sums.map (λr=>(r.1,r.2.map (sbw w f)))++[(f,[])],N.sts.map (λq=>(q.1,sbw w f q.2)),N.outs.map (sbw w f)⟩
theorem xt (N:Nt) (w f:mu):(cutN N w f).names.Perm (N.names++[f]):=by
 unfold Nt.names cutN;rw[fI,y2,y2];show(N.ins++(N.sums.map (·.1)++[f])++N.sts.map (·.1)).Perm (N.ins++N.sums.map (·.1)++N.sts.map (·.1)++[f]);rw[<-VW,VW (N.ins++N.sums.map (·.1)),VW (N.ins++N.sums.map (·.1))];exact XG _ Xv
theorem Fc {N:Nt} {w f z:mu} (h:z∈N.names):sbw w f z∈(cutN N w f).names:=by
 rw[(xt N w f).mem_iff];unfold sbw;split
 ·exact i' _ wq
 ·exact hQ _ h
theorem OB {N:Nt} (g:Gn N) {w f:mu} (hl:N.sums.length<=39) (hf:Nm f) (hn:f∉N.names):Gn (cutN N w f) where
 li:=g.li
 ls:=by
  show(N.sums.map _++[(f,[])]).length<=40;rw[gs,a',V8];omega
 lt:=by show(N.sts.map _).length<=16;rw[a'];exact g.lt
 lo:=by show(N.outs.map _).length<=6;rw[a'];exact g.lo
 lw:=λr Y=>by
  rcases gF.mp Y with h | h
  ·obtain⟨ο,Z,rfl⟩:=ik.mp h;show(ο.2.map _).length<=24;rw[a'];exact g.lw ο Z
  ·rw[gn.mp h];exact VY _
 nm:=λz hz=>by
  rcases gF.mp ((xt N w f).mem_iff.mp hz) with h | h
  ·exact g.nm z h
  ·rw[gn.mp h];exact hf
 nd:=by
  refine(xt N w f).nodup_iff.mpr (VS.mpr ⟨g.nd,by simp,λx β y α e=>?_⟩);rw[gn] at α;rw[e,α] at β;exact hn β
 ws:=λr Y z hz=>by
  rcases gF.mp Y with h | h
  ·obtain⟨ο,Z,rfl⟩:=ik.mp h;obtain⟨η,ζ,rfl⟩:=ik.mp hz;exact Fc (g.ws ο Z η ζ)
  ·rw[gn.mp h] at hz;cases hz
 ts:=λr Y=>by
  obtain⟨ο,Z,rfl⟩:=ik.mp Y;exact Fc (g.ts ο Z)
 os:=λz hz=>by
  obtain⟨η,ζ,rfl⟩:=ik.mp hz;exact Fc (g.os η ζ)
 rk:=by
  obtain⟨L,hk⟩:=g.rk;refine⟨λz=>if z=f then 0 else L z + 1,λr Y z hz hs=>?_⟩;rcases gF.mp Y with h | h
  ·obtain⟨ο,Z,rfl⟩:=ik.mp h;obtain⟨η,ζ,rfl⟩:=ik.mp hz;have h1:ο.1≠f:=λe=>hn (by rw[<-e];unfold Nt.names;exact hQ _ (i' _ (ik.mpr ⟨ο,Z,rfl⟩)));show(if sbw w f η=f then 0 else L (sbw w f η) + 1) < (if ο.1=f then 0 else L ο.1 + 1);rw[n' h1];split
   ·omega
   ·rename_i O
    have γ:sbw w f η=η:=by
     unfold sbw at O ⊢;split
     ·rename_i hw;rw[qq hw] at O;exact hB rfl O
     ·rfl
    rw[γ] at hs ⊢;have hs:η∈(N.sums.map (λr:mu×ee mu=>(r.1,r.2.map (sbw w f)))++[(f,[])]).map (λr:mu×ee mu=>r.1):=hs;rw[fI,y2] at hs;rcases gF.mp hs with h2 | h2
    ·have:=hk ο Z η ζ h2;omega
    ·rw[γ] at O;exact hB (gn.mp h2) O
  ·rw[gn.mp h] at hz;cases hz
noncomputable def TupV (K:ak) (H:Hp) (y:V):pa (ee V)->Prop
 | some xs=>∃r,y= .ref r/\SqT K H r xs/\MQ K H xs
 | none=>∃k,lC K H y k/\k≠"tuple"
noncomputable def Vw (n m:Nat):pa (ee V)->V6
 | some [x,y]=>p9 x n&&p9 y m
 | _=>false
noncomputable abbrev It2:=V×pa (ee V)
noncomputable def LstV (K:ak) (H:Hp) (y:V):pa (ee It2)->Prop
 | some zs=>∃r,y= .ref r/\H r=ag (.lst (zs.map (·.1)))/\∀z∈zs,TupV K H z.1 z.2
 | none=>∃k,lC K H y k/\k≠"list"
noncomputable def tabB (x:V) (O L:pa (ee It2)):Bool:=match x,O,L with
 | .int i,ag zs,ag ws=>decide (0<=i)&&decide (i<=6)&&decide (zs.length<=120)&&decide (ws.length<=6)&&(zs++ws).all λz=>Vw zs.length i.toNat z.2
 | _,_,_=>false
end Sx
namespace L2
open PySem
section
variable {σ:St} {H:Hp} {Q:VK}
def ML (C:dt) (sp:Sp) (W:XW) (σ:St) (Q:VK) (vs:ee V) (H:Hp):Prop:=∀x dx,H x=fy->H dx=fy->dx≠x->sp (.ref x::(vs++[])) (upd (upd H dx (.own x)) x (.ins C dx [])) (λv H2=>v= .non/\Q (.ref x) H2) (W σ)
theorem zC {C:dt} {sp:Sp} {W:XW} {tr:TA} (h:tr σ H (ML C sp W σ Q)):OZ C sp [] W tr σ H Q:=h
theorem qJ {C:dt} {sp:Sp} {W:XW} {vs:ee V} (h:∀x dx H2,H x=fy->Same H H2->H2 x=ag (.ins C dx [])->sp (.ref x::vs) H2 (λv H2=>v= .non/\Q (.ref x) H2) (W σ)):ML C sp W σ Q vs H:=by
 intro x dx L O n;rw[Wr];exact h x dx _ L (λb o e=>by rw[aE (aq e L),aE (aq e O)];exact e) aD
end
end L2
namespace Sx
open PySem L2
structure BadT (K:ak) (H:Hp) (x y z:V):Prop where
 ex:∃k on oo,lC K H x k/\LstV K H y on/\LstV K H z oo/\tabB x on oo=false
end Sx
namespace L2
open PySem
theorem JM {X:Cx} {K:ak} (h:X.K=K):SlR X (rSlT K):=by subst h;exact Sw
theorem SE {K:ak} {H:Hp} {Q:VK} {a:dt} {xs:ee V} {lo hi:pa Int} (ha:SqT K H a xs) (hn:¬(HT.sIx xs.length 0 lo=0/\HT.sIx xs.length xs.length hi=xs.length)) (h:∀p H2,H p=fy->Same H H2->H2 p=ag (.tup (cutV xs lo hi))->Q (.ref p) H2):rSlT K (.ref a) lo hi H Q:=
 ⟨a,xs,rfl,ha,hn,λp f=>h p _ f (bK f) aD⟩
end L2
namespace Sx
open PySem L2
noncomputable def cps (p q k:Nat):B':=if k + 1 < p then [k + 1] else M.pl 1000 q
structure ChS (H:Hp) (S:dt) (p q:Nat) (rs:Dk):Prop where
 at_:H S=ag (.lst (rs.map V.ref))
 len:rs.length=p
 get:∀(k:Nat) (r:dt),rs[k]? =ag r->H r=ag (.lst ((cps p q k).map nat))
structure ChT (H:Hp) (D S:dt) (ms:B') (p q:Nat):Prop where
 fs:M.Fst ms p
 sd:Sumd (ms.take p) (ms.getD p 0) q
 d:H D=ag (.lst ((ms.take p).map nat))
 s:∃rs,ChS H S p q rs
structure LA (K:ak) (H:Hp) (t n o rr:dt) (m:Nat) (nx os:ee Pr3) (rs:B') (a b:Nat):Prop where
 tt:TabT H t n o m nx os
 sq:SqL K H rr (rs.map nat)
 lr:rs.length=20
 br:∀r∈rs,r < 2 ^ m
 ln:nx.length<=16
 ha:a < 2 ^ nx.length
 hb:b < 2 ^ nx.length
structure ApA (H:Hp) (f:dt) (nx os:ee Pr3) (d k ans:Nat):Prop where
 f:H f=ag (.tup [.str "apart",nat k,nat ans.log2])
 hk:k < nx.length
 an:ans=M.tr2 (prs os) (M.zs (prs nx) d k) 0
 ne:ans≠0
 qu:∀j,j < k->M.tr2 (prs os) (M.zs (prs nx) d j) 0=0
structure ApL (H:Hp) (f D S:dt) (nx os:ee Pr3) (d p q:Nat):Prop where
 f:H f=ag (.tup [.str "alike",.ref D,.ref S])
 ct:ChT H D S (M.zl (prs nx) d nx.length) p q
 qu:∀j,j < p->M.tr2 (prs os) (M.zs (prs nx) d j) 0=0
structure CmA (H:Hp) (t D:dt) (m:Nat) (nx:ee Pr3) (st T q mk:Nat):Prop where
 f:H t=ag (.tup [.str "come",.ref D,nat mk])
 d:H D=ag (.lst ((M.upk m q T).map nat))
 hT:T<=nx.length
 no:∀j,j < T->¬M.Span (M.rch (prs nx) m j) st
 sd:Sumd (M.rch (prs nx) m T) st q
 br:(T=0/\mk=0)∨∃T',T=T' + 1/\Bard (M.rch (prs nx) m T') st mk
structure CmN (H:Hp) (t D S:dt) (m:Nat) (nx:ee Pr3) (st mk p q:Nat):Prop where
 f:H t=ag (.tup [.str "never",.ref D,.ref S])
 no:∀j,j<=nx.length->¬M.Span (M.rch (prs nx) m j) st
 bd:Bard (M.rch (prs nx) m nx.length) st mk
 ct:ChT H D S (M.bl (nA nx) mk nx.length) p q
structure LN (K:ak) (H:Hp) (n:dt) (m:Nat) (nx os:ee Pr3) (st:Nat):Prop where
 sq:SqL K H n (refs nx)
 pt:Prt H nx
 g:MaG m nx os
 ln:nx.length<=16
 hs:st < 2 ^ nx.length
end Sx
namespace M
noncomputable def fR (rows:B'):B':=(fr rows).map λi=>rows.getD i 0
theorem fr_lt {rows:B'}:∀i∈fr rows,i < rows.length:=by
 intro i hi;unfold fr at hi;exact V2.mp (WB.mp hi).1
theorem w9 (rows:B') (r:Nat):(fr rows).map (λi=>(rows++[r]).getD i 0)=fR rows:=by
 unfold fR;refine Wx λi hi=>?_;rw[eY,eY,P' (fr_lt i hi)]
theorem Uu {rows:B'} {r:Nat} (h:Span rows r):fR (rows++[r])=fR rows:=by
 rw[<-w9 rows r];unfold fR;rw[fr_in h]
theorem Pu {rows:B'} {r:Nat} (h:¬Span rows r):fR (rows++[r])=fR rows++[r]:=by
 rw[<-w9 rows r];unfold fR;rw[fr_out h,fI];congr 1;simp
theorem LQ:∀(rows:B') (x:Nat),Span (fR rows) x↔Span rows x:=by
 refine uX ?_ λl w ih=>?_
 ·intro x;exact aj9
 ·intro x;by_cases h:Span l w
  ·rw[Uu h,ih,gZ];exact⟨.inl,λz=>z.elim id λz=>by have:=span_xor z h;rwa [b7] at this⟩
  ·rw[Pu h,gZ,gZ,ih,ih]
theorem Inj.out {ws:B'} {w:Nat} (I:Inj ws) (h:¬Span ws w):Inj (ws++[w]):=by
 intro p hp e;rw[m7] at e;by_cases hb:p.testBit ws.length=true
 ·rw[qq hb] at e;exfalso;apply h
  have:sm ws p=w:=by
   have:=ri (·^^^w) e;simpa[Wb] using this
  rw[<-this];exact sm_span _ _
 ·rw[n' hb,Wa] at e;refine I p ?_ e;rw[gs,V8] at hp;refine Xx p λi hi=>?_;by_cases L:i=ws.length
  ·rw[L];simpa using hb
  ·exact ry (hA hp (hL @C @A))
theorem fR_inj:∀rows:B',Inj (fR rows):=by
 refine uX Inj.nil λl w ih=>?_;by_cases h:Span l w
 ·rw[Uu h];exact ih
 ·rw[Pu h];exact ih.out λz=>h ((LQ l w).mp z)
theorem Inj.out' {ws:B'} {w:Nat} (I:Inj (ws++[w])):Inj ws/\¬Span ws w:=by
 refine⟨λp hp e=>I p (by rw[gs,V8,XT];omega) (by rw[jm hp];exact e),λh=>?_⟩;obtain⟨p,hp,e⟩:=span_sm h;have:=I (p^^^2 ^ ws.length) (by rw[gs];exact lt_more hp) (by rw[Da hp,e,Xo]);exact(log2_more hp).1 this
theorem Ob:∀ws:B',Inj ws->(fr ws).length=ws.length:=by
 refine uX (λ_=>rfl) λl w ih h=>?_;have:=h.out';rw[fr_out this.2,gs,gs,ih this.1];rfl
theorem Rj {ws:B'} {t:Nat} (I:Inj ws) (h:∀x∈ws,x < 2 ^ t):ws.length<=t:=by
 rw[<-Ob ws I];exact Kd h
noncomputable def ow (x:Nat) (L:B'):Nat:=pk (λk=>od (x&&&L.getD k 0)) 0 L.length
theorem HD {ms:B'} {n:Nat} (hb:∀x∈ms,x < 2 ^ n) (hl:n < ms.length):∃p,p<=n/\Fst ms p:=by
 have χ:∀j,(∃p,p < j/\Fst ms p)∨∀k,k < j->k < ms.length->¬Span (ms.take k) (ms.getD k 0):=λj=>by
  induction j with
  | zero=>exact .inr λk hk=>hB hk (aa3 k)
  | succ j ih=>
    rcases ih with ⟨p,hp,F⟩ | h
    ·exact .inl ⟨p,by omega,F⟩
    ·by_cases O:j < ms.length
     ·by_cases hs:Span (ms.take j) (ms.getD j 0)
      ·exact .inl ⟨j,by omega,O,λk hk=>h k hk @A,hs⟩
      ·exact .inr λk hk L=>by
        by_cases e:k=j
        ·rw[e];exact hs
        ·exact h k @A L
     ·exact .inr λk hk L=>h k @A L
 rcases χ (n + 1) with ⟨p,hp,F⟩ | h
 ·exact⟨p,@A,F⟩
 ·have:=EA hb (j:=n + 1) @A λk hk=>h k hk @A;omega
theorem vi:∀{L:B'} {bs:B'},(∀x∈L,Span bs x)->∀z,Span L z->Span bs z:=λ{L bs} h z hz=>by
 obtain⟨p,_,e⟩:=span_sm hz;rw[<-e];exact JK L h p
theorem R3 {ps:A'} {d:Nat} (hd:d < 2 ^ ps.length) {S:B'} (h:∀k,k < ps.length->Span S (zs ps d k)) (t:Nat):Span S (zs ps d t):=by
 obtain⟨p,hp,F⟩:=HD (UZ (n:=ps.length) hd) (by rw[IC];omega);refine vi (λx L=>?_) _ (PX F t);obtain⟨k,hk,e⟩:=Wp.mp L;rw[sv] at hk;have O:k < p:=by omega
 rw[Zy] at e;have:=EV (ps:=ps) (d:=d) (n:=ps.length) (k:=k) @A;rw[eF (by rw[IC];omega)] at this;rw[<-e,vu this];exact h k @A
theorem O2 (ps:A') (m w:Nat) (hw:w < m):∀j,(stj ps (sg0 ps m) j)[w]? =ag (zs ps (tr2 ps 0 (2 ^ w)) j)
 | 0=>by
   show(sg0 ps m)[w]? =_;unfold sg0;rw[kf,W6 hw];rfl
 | j + 1=>by
   show((stj ps (sg0 ps m) j).map λx=>tr2 ps x 0)[w]? =_;rw[kf,O2 ps m w hw j];rfl
theorem Sm (ps:A') (m j:Nat) {x:Nat} (h:x∈stj ps (sg0 ps m) j):∃w,w < m/\x=zs ps (tr2 ps 0 (2 ^ w)) j:=by
 obtain⟨w,hw,e⟩:=Wp.mp h;have hm:w < m:=by rw[stj_len,sg0_len] at hw;exact hw
 have:=O2 ps m w hm j;rw[eF hw,e] at this;exact⟨w,hm,vu this⟩
theorem Kb (ps:A') (m:Nat):∀{T x:Nat},x∈rch ps m T->∃w j,w < m/\j < T/\x=zs ps (tr2 ps 0 (2 ^ w)) j
 | 0,x,h=>hB h (by unfold rch;simp)
 | T + 1,x,h=>by
   unfold rch at h;rcases gF.mp h with h | h
   ·obtain⟨w,hw,e⟩:=Sm ps m T h;exact⟨w,T,hw,@A,e⟩
   ·obtain⟨w,j,hw,L,e⟩:=Kb ps m h;exact⟨w,j,hw,@A,e⟩
theorem Dj {ps:A'} {m w:Nat} (hw:w < m) (t:Nat):Span (rch ps m ps.length) (zs ps (tr2 ps 0 (2 ^ w)) t):=
 R3 (tr2_lt ps 0 (2 ^ w)) (λk hk=>E8 (Kc ps m (Jm ps m w hw k) hk)) t
theorem NR {ps:A'} {m x r:Nat} (hx:Span (rch ps m ps.length) x) (hr:r < 2 ^ m):Span (rch ps m ps.length) (tr2 ps x r):=by
 have e:=mX ps x 0 0 r;rw[Wa,Xe] at e;rw[e];refine span_xor ?_ ?_
 ·obtain⟨F,_,O⟩:=span_sm hx;rw[<-O,E6];refine JK _ (λy L=>?_) F;obtain⟨z,hz,rfl⟩:=ik.mp L;obtain⟨w,j,hw,Y,rfl⟩:=Kb ps m hz;exact Dj hw (j + 1)
 ·rw[si ps r m hr];refine JK _ (λy L=>?_) r;unfold sg0 at L;obtain⟨w,hw,rfl⟩:=ik.mp L;exact Dj (V2.mp hw) 0
noncomputable def lk1 (A os:B') (t:Nat):B':=os.map λs=>bkI A s t
noncomputable def lkm (A os:B'):Nat->B'
 | 0=>[]
 | T + 1=>lkm A os T++lk1 A os T
section
variable (ps os:A') (m:Nat)
noncomputable def msk:B':=lkm (ps.map (·.1)) (os.map (·.1)) ps.length
noncomputable def ldp:B':=fr ((rch ps m ps.length).map (ow · (msk ps os)))
noncomputable def lst_:B':=(ldp ps os m).map λi=>(rch ps m ps.length).getD i 0
noncomputable def lkp:B':=fr ((msk ps os).map (ow · (lst_ ps os m)))
noncomputable def lkL:B':=(lkp ps os m).map λi=>(msk ps os).getD i 0
noncomputable def sen:B':=(lkL ps os m).map (ow · (lst_ ps os m))
end
section
variable {ps os:A'} {m:Nat}
structure Lsr (ps os:A') (m:Nat) (nx' os':A'):Prop where
 ln:nx'.length=(lkp ps os m).length
 lo:os'.length=os.length
 n1:∀(j:Nat) (q:Nat×Nat),nx'[j]? =ag q->q.1 < 2 ^ (lkp ps os m).length/\sm (sen ps os m) q.1=ow (sm (ps.map (·.1)) ((lkL ps os m).getD j 0)) (lst_ ps os m)/\q.2=sm (ps.map (·.2)) ((lkL ps os m).getD j 0)
 o1:∀(j:Nat) (q:Nat×Nat),os'[j]? =ag q->q.1 < 2 ^ (lkp ps os m).length/\sm (sen ps os m) q.1=ow (os.getD j (0,0)).1 (lst_ ps os m)/\q.2=(os.getD j (0,0)).2
structure Fit (ps os:A') (m:Nat):Prop where
 ln:ps.length<=120
 bn:∀q∈ps++os,q.1 < 2 ^ ps.length
end
end M
namespace Sx
open PySem L2
def Co (ob:Nat->HO) (H1:Hp) (D:dt) (i:Nat) (ys:ee V) (H:Hp):Prop:=∃ds:Dk,ys=ds.map V.ref/\ds.length=i/\(∀(j:Nat) (d:dt),ds[j]? =ag d->H d=ag (ob j))/\(∀d∈ds,H1 d=fy/\d≠D)/\Same H1 H/\H D=ag (.lst ys)
theorem xv {ob:Nat->HO} {H1:Hp} {D:dt} (α:H1 D=fy):Co ob H1 D 0 [] (upd H1 D (.lst [])):=⟨[],rfl,rfl,λj d h=>(by simp at h),λ_ h=>(by cases h),bK α,aD⟩
theorem Cq {ob:Nat->HO} {H1 H L:Hp} {D t:dt} {i:Nat} {ys:ee V} (α:H1 D=fy) (c:Co ob H1 D i ys H) (O:Same H L) (ft:H t=fy) (et:L t=ag (ob i)) (hi:i < 1000):L D=ag (.lst ys)/\ys.length < ix/\Co ob H1 D (i + 1) (ys++[.ref t]) (upd L D (.lst (ys++[.ref t]))):=by
 obtain⟨ds,rfl,ld,ha,hf,s,Z⟩:=c;have ε:t≠D:=λz=>by rw[z,Z] at ft;cases ft
 refine⟨O.get Z,by rw[a',ld];exact aZ @A,ds++[t],by rw[fI];rfl,by rw[gs,ld];rfl,λj d h=>?_,λd hd=>?_,λb o e=>?_,aD⟩
 ·by_cases Y:j < ds.length
  ·rw[P' Y] at h;rw[aE (hf d (f' h)).2];exact O.get (ha j d h)
  ·rw[V0 @A] at h
   have hz:j - ds.length=0:=by
    cases e:j - ds.length with
    | zero=>rfl
    | succ m=>rw[e] at h;simp at h
   rw[hz] at h;have h:d=t:=(vu h).symm;have Y:j=i:=by omega
   rw[h,aE ε,Y];exact et
 ·rcases gF.mp hd with h | h
  ·exact hf d h
  ·rw[gn.mp h];exact⟨s.free ft,ε⟩
 ·rw[aE (aq e α)];exact O.get (s.get e)
structure Lrl (H:Hp) (Dr Dl:dt) (ds es:Dk) (m:Nat) (nx os:ee Pr3):Prop where
 r:H Dr=ag (.lst (ds.map V.ref))
 l:H Dl=ag (.lst (es.map V.ref))
 dl:ds.length=(M.ldp (prs nx) (prs os) m).length
 el:es.length=(M.lkp (prs nx) (prs os) m).length
 da:∀(j:Nat) (d k:Nat),ds[j]? =ag d->(M.ldp (prs nx) (prs os) m)[j]? =ag k->H d=ag (.lst ((M.upk m (2 ^ k) nx.length).map nat))
 ea:∀(j:Nat) (e k:Nat),es[j]? =ag e->(M.lkp (prs nx) (prs os) m)[j]? =ag k->H e=ag (.tup [nat (k / os.length),nat (k % os.length)])
noncomputable def less (H:Hp) (R:dt->Prop):Hp:=λb=>@ite _ (R b) (Wt _) fy (H b)
structure Hnd2 (H:Hp) (i s t o:dt) (rs:ee Rw) (qs:ee Qs) (N:Nt):Prop where
 i:H i=ag (.lst (N.ins.map V.str))
 s:H s=ag (.lst (rs.map λr=>V.ref r.1))
 sr:∀r∈rs,H r.1=ag (.tup [.str r.2.2.1,.ref r.2.1])/\(H r.2.1=ag (.lst (r.2.2.2.map V.str))∨H r.2.1=ag (.tup (r.2.2.2.map V.str)))
 es:rs.map (·.2.2)=N.sums
 t:H t=ag (.lst (qs.map λq=>V.ref q.1))
 tr:∀q∈qs,H q.1=ag (.tup [.str q.2.1,.str q.2.2])
 et:qs.map (·.2)=N.sts
 o:H o=ag (.lst (N.outs.map V.str))
theorem Hnd2.same {H H2:Hp} {i s t o:dt} {rs:ee Rw} {qs:ee Qs} {N:Nt} (x:Hnd2 H i s t o rs qs N) (h:Same H H2):Hnd2 H2 i s t o rs qs N:=⟨h.get x.i,h.get x.s,λr m=>⟨h.get (x.sr r m).1,(x.sr r m).2.imp h.get h.get⟩,x.es,h.get x.t,λq m=>h.get (x.tr q m),x.et,h.get x.o⟩
theorem Kx.hnd2 {x:dt} {H H2:Hp} (k:Kx x H H2) {C dx:dt} {fs:ee (mu×V)} (hx:H x=ag (.ins C dx fs)) {i s t o:dt} {rs:ee Rw} {qs:ee Qs} {N:Nt} (h:Hnd2 H i s t o rs qs N):Hnd2 H2 i s t o rs qs N:=
 ⟨k.lst hx h.i,k.lst hx h.s,λr m=>⟨k.tup hx (h.sr r m).1,(h.sr r m).2.imp (k.lst hx) (k.tup hx)⟩,h.es,k.lst hx h.t,λq m=>k.tup hx (h.tr q m),h.et,k.lst hx h.o⟩
inductive Thg (H:Hp):V->U'->Prop where
 | sc {v:V} {k:U'} (s:Scl v k):Thg H v k
 | nil {p:dt} (e:H p=ag (.lst [])):Thg H (.ref p) "list"
inductive Cpy (H H2:Hp):V->V->Prop where
 | sc {v:V} {k:U'} (s:Scl v k):Cpy H H2 v v
 | nil {p p2:dt} (e:H p=ag (.lst [])) (e2:H2 p2=ag (.lst [])):Cpy H H2 (.ref p) (.ref p2)
def Vf:Sp:=λ_ _ _ _=>False
def Nr (K:ak):Sp:=λvs H Q _=>∃(p:dt) (ns:E') (st mo:Nat),vs=[.ref p,nat st,nat mo]/\SqL K H p (ns.map V.int)/\st<=900/\mo<=12/\∀(t i s u o:dt) (H2:Hp) (rs:ee Rw) (qs:ee Qs) (N:Nt),Same H H2->H2 t=ag (.tup [.ref i,.ref s,.ref u,.ref o])->Hnd H2 i s u o rs qs N->Gn N->N.ins.length<=3->N.sums.length<=mo->Nmc (cell ns (st:Int)) N->Q (.ref t) H2
theorem Ra {c:Int} {ξ ε:Nat} {rows sums:ee (mu×ee mu)} {sts:ee (mu×mu)} {outs:B1} (m:Mk c ξ ε rows) (h1:ξ<=3) (h2:ε<=12) (L:rows.length<=12) (hp:sums.Perm rows) (hs:sts.map (·.1)=nms c 6 ε) (ο:outs.length<=6)
  (ht:∀q∈sts,q.2∈nms c 0 ξ++nms c 6 ε++nms c 22 rows.length) (ho:∀z∈outs,z∈nms c 0 ξ++nms c 6 ε++nms c 22 rows.length):Nmc c ⟨nms c 0 ξ,sums,sts,outs⟩:=by
 have pn:(sums.map (·.1)).Perm (nms c 22 rows.length):=by rw[<-m.nm];exact hp.map _
 intro z hz;unfold Nt.names at hz;have hz:z∈nms c 0 ξ++sums.map (·.1)++sts.map (·.1):=hz;rw[hs] at hz;rcases gF.mp hz with h | h
 ·rcases gF.mp h with h | h
  ·obtain⟨k,hk,e⟩:=jN h;exact⟨_,@A,e⟩
  ·obtain⟨k,hk,e⟩:=jN (pn.mem_iff.mp h);exact⟨_,@A,e⟩
 ·obtain⟨k,hk,e⟩:=jN h;exact⟨_,@A,e⟩
def RwLs (H:Hp) (rs:ee Rw):Prop:=∀r∈rs,H r.1=ag (.tup [.str r.2.2.1,.ref r.2.1])/\H r.2.1=ag (.lst (r.2.2.2.map V.str))
theorem qe {z:mu} {l:B1}:(inV (V.str z) (l.map V.str))=true↔z∈l:=by
 unfold inV;rw[Xq];constructor
 ·rintro⟨x,O,e⟩;obtain⟨y,L,rfl⟩:=ik.mp O;have:y=z:=by simpa[eqV] using e
  rw[<-this];exact L
 ·intro h;exact⟨_,ik.mpr ⟨z,h,rfl⟩,by simp[eqV]⟩
inductive Thg2 (H:Hp):V->U'->Prop where
 | sc {v:V} {k:U'} (s:Scl v k):Thg2 H v k
 | nil {p:dt} (e:H p=ag (.lst [])):Thg2 H (.ref p) "list"
 | one {p:dt} {z:mu} (l:z.length<=1000) (e:H p=ag (.tup [.str z])):Thg2 H (.ref p) "tuple"
inductive Cpy2 (H H2:Hp):V->V->Prop where
 | sc {v:V} {k:U'} (s:Scl v k):Cpy2 H H2 v v
 | nil {p p2:dt} (e:H p=ag (.lst [])) (e2:H2 p2=ag (.lst [])):Cpy2 H H2 (.ref p) (.ref p2)
 | one {p p2:dt} {z:mu} (e:H p=ag (.tup [.str z])) (e2:H2 p2=ag (.tup [.str z])):Cpy2 H H2 (.ref p) (.ref p2)
theorem Thg2.same {H H2:Hp} {v:V} {k:U'} (t:Thg2 H v k) (s:Same H H2):Thg2 H2 v k:=by
 cases t with
 | sc h=>exact .sc h
 | nil e=>exact .nil (s.get e)
 | one l e=>exact .one l (s.get e)
theorem Thg2.str {H:Hp} {z:mu} {k:U'} (t:Thg2 H (.str z) k):z.length<=1000:=by
 cases t with
 | sc h=>exact h.len z rfl
theorem Thg2.kind {K:ak} {H:Hp} {v:V} {k:U'} (t:Thg2 H v k):lC K H v k:=by
 cases t with
 | sc h=>exact h.kind
 | nil e=>exact .inl ⟨rfl,_,SqL.of e⟩
 | one l e=>exact .inr (.inl ⟨rfl,_,SqT.of e⟩)
theorem Cpy2.rep {K:ak} {H H2:Hp} {v O:V} (c:Cpy2 H H2 v O) (s:Same H H2):∃d,Rep K H2 v d/\Rep K H2 O d/\depD d<=1:=by
 cases c with
 | sc h=>
   cases h with
   | str z l=>exact⟨.str z,.str z,.str z,VY _⟩
   | int i=>exact⟨.int i,.int i,.int i,VY _⟩
   | bl b=>exact⟨.bl b,.bl b,.bl b,VY _⟩
   | non=>exact⟨.non,.non,.non,VY _⟩
 | nil e L=>exact⟨.lst [],.lst (SqL.of (s.get e)) rfl λi x d h=>by simp at h,.lst (SqL.of L) rfl λi x d h=>by simp at h,@C⟩
 | one e L=>
   rename_i p p2 z
   have one:∀{q:dt},H2 q=ag (.tup [.str z])->Rep K H2 (.ref q) (.tup [.str z]):=λ{q} h=> .tup (SqT.of h) rfl λi x y h1 h2=>by
    match i,h1,h2 with
    | 0,h1,h2=>cases h1;cases h2;exact .str z
    | i + 1,h1,_=>simp at h1
   exact⟨.tup [.str z],one (s.get e),one L,by simp[depD,ml]⟩
def JC:Sp:=λvs H Q _=>∃(v:V) (k:U') (d:Int),vs=[v,.int d]/\Scl v k/\Q v H
def JB:Sp:=λvs H Q _=>∃(v:V) (k:U'),vs=[v,.int 12]/\Thg2 H v k/\∀L H2,Same H H2->Cpy2 H H2 v L->Q L H2
def kU (C:dt):Sp:=λvs H Q _=>∃(p:dt) (v:V) (k:U'),vs=[.ref p,v]/\Thg2 H v k/\H p=ag (ExcF p C fy)/\∀L H2,ExcV H2 p C [("name",L)]->(∀b u,b≠p->H b=ag u->H2 b=ag u)->Cpy2 H H2 v L->Q .non H2
def Tld3 (H H2:Hp) (dx:dt) (v:V):Prop:=∃L,Tld H H2 dx L/\Cpy2 H H2 v L
def Gp (η:dt):Sp:=λvs H Q E=>∃(v:V) (k:U') (d:dt) (zs:B1),vs=[v,.ref d]/\Thg2 H v k/\Knw H d zs/\(∀z∈zs,Nm z)/\(∀z∈zs,v= .str z->∀H2,Same H H2->Q .non H2)/\((∀z∈zs,v≠.str z)->∀H2 dx,Tld3 H H2 dx v->E (.ref η) (ag dx) H2)
def C5 (L:NP) (χ φ υ η:dt):Sp:=λvs H Q E=>∃(p:dt) (N:Nt) (od:B1) (v:V) (k:U'),vs=[.ref p,v]/\L H p N od/\Thg2 H v k/\(∀z∈N.names,v= .str z->∀(w:dt) (H2:Hp),Same H H2->Wob H2 χ φ υ N z w->Q (.ref w) H2)/\((∀z∈N.names,v≠.str z)->∀H2 dx,Tld3 H H2 dx v->E (.ref η) (ag dx) H2)
def Gq (θ:dt):Sp:=λvs H Q E=>∃(i s t o:dt) (rs:ee Rw) (qs:ee Qs) (N:Nt),vs=[.ref i,.ref s,.ref t,.ref o]/\Hnd2 H i s t o rs qs N/\N.ins.length<=6/\(Gn N->∀H2,Same H H2->Q .non H2)/\(40 < N.sums.length->E (.ref θ) fy H)/\(Gn N∨40 < N.sums.length)
def Qi (C χ φ υ θ:dt):Sp:=λvs H Q E=>∃(x dx i s t o:dt) (rs:ee Rw) (qs:ee Qs) (N:Nt),vs=[.ref x,.ref i,.ref s,.ref t,.ref o]/\H x=ag (.ins C dx [])/\Hnd2 H i s t o rs qs N/\N.ins.length<=6/\(Gn N->∀(H2:Hp) (od:B1),Kx x H H2->NetA H2 C χ φ υ x N od->Q .non H2)/\(40 < N.sums.length->E (.ref θ) fy H)/\(Gn N∨40 < N.sums.length)
def Gg:Sp:=λvs H Q _=>∃(l:dt) (zs:B1) (w f:mu),vs=[.ref l,.str w,.str f]/\(H l=ag (.lst (zs.map V.str))∨H l=ag (.tup (zs.map V.str)))/\zs.length<=1000/\∀(D:dt) (H2:Hp),H D=fy->Same H H2->H2 D=ag (.lst ((zs.map (sbw w f)).map V.str))->Q (.ref D) H2
def O4 (O:NP) (η ω ψ θ:dt):Sp:=λvs H Q E=>∃(p:dt) (N:Nt) (od:B1) (v f:V) (k ρ:U'),vs=[.ref p,v,f]/\O H p N od/\Thg2 H v k/\Scl f ρ/\
 ((∀z∈N.names,v≠.str z)->∀H2 dx,Tld3 H H2 dx v->E (.ref η) (ag dx) H2)/\
 (∀w∈N.names,v= .str w->Bp f=false->∀H2 dx,Tld H H2 dx f->E (.ref ω) (ag dx) H2)/\
 (∀w∈N.names,v= .str w->∀z∈N.names,f= .str z->∀H2 dx,Tld H H2 dx f->E (.ref ψ) (ag dx) H2)/\
 (∀w∈N.names,v= .str w->∀z,f= .str z->Nm z->z∉N.names->(39 < N.sums.length->∀H2,Same H H2->E (.ref θ) fy H2)/\(N.sums.length<=39->∀(n:dt) (H2:Hp) (L:B1),H n=fy->Same H H2->O H2 n (cutN N w z) L->Q (.ref n) H2))
noncomputable def fln (k:Nat):Str:=("n":mu)++tx k++("z":mu)
theorem LO (k:Nat):(fln k).cps.toList=110::((tx k).cps.toList++[122]):=by
 unfold fln;rw[qm,qm];rfl
theorem Ep:∀k:Fin 40,(nm (fln k.1).cps.toList=true/\fln k.1∉W40)/\(fln k.1).cps.toList.getLast? =ag 122:=by decide +kernel
theorem RE {j k:Nat} (O:j < 40) (hk:k < 40) (e:fln j=fln k):j=k:=by
 have L:=ri (λz:mu=>z.cps.toList) e;simp only[LO] at L;injection L with _ L
 have ρ:=ri dval (List.append_cancel_right L);rw[(qt ⟨j,by omega⟩).1.1,(qt ⟨k,by omega⟩).1.1] at ρ;exact ρ
theorem Q7 {c:Int} {k j:Nat} (hk:k < 40) (L:j < 40):nmf c (k:Int)≠fln j:=λe=>by
 have ha:=Ep ⟨j,L⟩;rcases Bm c hk with h | ⟨d,n,hn,_,_,h⟩
 ·rw[e] at h;exact ha.1.2 h
 ·rw[e] at h;have h2:=ha.2;have h2:(fln j).cps.toList.getLast? =ag 122:=h2;rw[h] at h2;have hf:=(qt ⟨n,hn⟩).1.2;rw[Wc] at hf;cases hl:(tx n).cps.toList with
  | nil=>
    rw[hl] at h;have:=ri y1 h;rw[LO,V1,gs] at this;simp at this
  | cons x xs=>
    rw[hl,List.getLast?_cons_cons] at h2;have hm:122∈(tx n).cps.toList:=by rw[hl];exact List.mem_of_getLast? h2
    exact hB (hf 122 hm) @C
noncomputable def flrs (n:Nat):ee (mu×ee mu):=(lj n).map λk=>(fln k,[])
theorem va (n:Nat):(flrs n).length=n:=by unfold flrs;rw[a',S']
theorem LM (n:Nat):flrs (n + 1)=flrs n++[(fln n,[])]:=by unfold flrs;rw[X7,fI];rfl
theorem y9 (n:Nat):(flrs n).map (·.1)=(lj n).map fln:=by unfold flrs;rw[y2];rfl
noncomputable def fil (N:Nt) (n:Nat):Nt:=⟨N.ins,N.sums++flrs n,N.sts,N.outs⟩
theorem lF (N:Nt) (n:Nat):(fil N n).names.Perm (N.names++(lj n).map fln):=by
 unfold Nt.names fil;rw[fI,y9];show(N.ins++(N.sums.map (·.1)++_)++N.sts.map (·.1)).Perm (N.ins++N.sums.map (·.1)++N.sts.map (·.1)++_);rw[<-VW,VW (N.ins++N.sums.map (·.1)),VW (N.ins++N.sums.map (·.1))];exact XG _ Xv
theorem Nmc.fln {c:Int} {N:Nt} (h:Nmc c N) {j:Nat} (L:j < 40):Sx.fln j∉N.names:=λhz=>by
 obtain⟨k,hk,e⟩:=h _ hz;exact Q7 hk L e.symm
theorem Gn.fil {c:Int} {N:Nt} (g:Gn N) (h:Nmc c N) {n:Nat} (hn:N.sums.length + n<=40):Gn (fil N n) where
 li:=g.li
 ls:=by
  show(N.sums++flrs n).length<=40;rw[gs,va];omega
 lt:=g.lt
 lo:=g.lo
 lw:=λr hr=>by
  rcases gF.mp hr with hr | hr
  ·exact g.lw r hr
  ·obtain⟨k,_,rfl⟩:=ik.mp hr;exact VY _
 nm:=λz hz=>by
  rcases gF.mp ((lF N n).mem_iff.mp hz) with h1 | h1
  ·exact g.nm z h1
  ·obtain⟨k,hk,rfl⟩:=ik.mp h1;exact(Ep ⟨k,by have:=V2.mp hk;omega⟩).1.1
 nd:=by
  refine(lF N n).nodup_iff.mpr (VS.mpr ⟨g.nd,?_,λx Y y Z e=>?_⟩)
  ·refine Yq.mpr (Yc (λ{a b} ha hb ne e=>ne ?_) Z6);exact RE (by have:=V2.mp ha;omega) (by have:=V2.mp hb;omega) e
  ·obtain⟨k,hk,rfl⟩:=ik.mp Z;rw[e] at Y;exact h.fln (by have:=V2.mp hk;omega) Y
 ws:=λr hr z hz=>by
  refine(lF N n).mem_iff.mpr ?_;rcases gF.mp hr with hr | hr
  ·exact hQ _ (g.ws r hr z hz)
  ·obtain⟨k,hk,rfl⟩:=ik.mp hr;cases hz
 ts:=λr hr=>(lF N n).mem_iff.mpr (hQ _ (g.ts r hr))
 os:=λr hr=>(lF N n).mem_iff.mpr (hQ _ (g.os r hr))
 rk:=by
  obtain⟨L,hk⟩:=g.rk;refine⟨L,λr hr z hz hs=>?_⟩;rcases gF.mp hr with hr | hr
  ·refine hk r hr z hz ?_;have hs:z∈(N.sums++flrs n).map (·.1):=hs;rw[fI,y9] at hs;rcases gF.mp hs with hs | hs
   ·exact hs
   ·obtain⟨k,O,e⟩:=ik.mp hs;exact hB (g.ws r hr z hz) (by rw[<-e];exact h.fln (by have:=V2.mp O;omega))
  ·obtain⟨k,O,rfl⟩:=ik.mp hr;cases hz
theorem Cpy2.same {H H2 O:Hp} {v L:V} (c:Cpy2 H H2 v L) (s:Same H2 O):Cpy2 H O v L:=by
 cases c with
 | sc h=>exact .sc h
 | nil a1 a2=>exact .nil a1 (s.get a2)
 | one a1 a2=>exact .one a1 (s.get a2)
theorem Os:∀j:Fin 41,(("n":mu)++tx j.1).length<=100:=by decide +kernel
theorem flen {j:Nat} (h:j < 41):(("n":mu)++tx j).length + ("z":mu).length<=sizeLine:=by
 have h1:=Os ⟨j,h⟩;have h2:("z":mu).length=1:=rfl;rw[lT,h2];have h1:(("n":mu)++tx j).length<=100:=h1;omega
end Sx
namespace M
noncomputable def jn (p1 p2:A'):A':=p1++p2.map λq=>(q.1 <<< p1.length,q.2)
theorem jn_len (p1 p2:A'):(jn p1 p2).length=p1.length + p2.length:=by unfold jn;rw[gs,a']
noncomputable def lo (n x:Nat):Nat:=x&&&(2 ^ n - 1)
theorem Pp (n x k:Nat):(lo n x).testBit k=(decide (k < n)&&x.testBit k):=by
 unfold lo;rw[WS,Nat.testBit_two_pow_sub_one,Bool.and_comm]
theorem lo_lt (n x:Nat):lo n x < 2 ^ n:=by
 unfold lo;rw[Y3];exact Nat.mod_lt _ (qb n)
theorem lo_xor (n x y:Nat):lo n (x^^^y)=lo n x^^^lo n y:=by unfold lo;rw[IJ]
theorem hi_xor (n x y:Nat):(x^^^y)>>>n=x>>>n^^^y>>>n:=oe λk=>by
 rw[Ws,KI,KI,Ws,Ws]
theorem spl (n x:Nat):lo n x^^^((x>>>n) <<< n)=x:=oe λk=>by
 rw[KI,Pp,WA,Ws];by_cases h:k < n
 ·rw[hG h,gz @A];simp
 ·rw[gz h,hG (by omega:k≥n),show n + (k - n)=k by omega];simp
theorem lo_of {n a b:Nat} (h:a < 2 ^ n):lo n (a^^^(b <<< n))=a:=oe λk=>by
 rw[Pp,KI,WA];by_cases hk:k < n
 ·rw[hG hk,gz (by omega:¬k≥n)];simp
 ·rw[gz hk,ry (hA h (hL @C @A))];rfl
theorem hi_lt {n m x:Nat} (h:x < 2 ^ (n + m)):x>>>n < 2 ^ m:=by
 rw[V3,ag9 (qb n),ac7,<-ag1];exact h
structure Jo (p1 p2:A'):Prop where
 a1:∀q∈p1,q.1 < 2 ^ p1.length
 a2:∀q∈p2,q.1 < 2 ^ p2.length
 l:p1.length + p2.length<=500
theorem Jo.tr {p1 p2:A'} (j:Jo p1 p2) {a b r:Nat} (ha:a < 2 ^ p1.length) (hb:b < 2 ^ p2.length):tr2 (jn p1 p2) (a^^^(b <<< p1.length)) r=tr2 p1 a r^^^(tr2 p2 b r <<< p1.length):=oe λk=>by
 have hl:=j.l;rw[tr2_bit,jn_len,KI,WA,tr2_bit,tr2_bit];by_cases h1:k < p1.length
 ·have e:(jn p1 p2).getD k (0,0)=p1.getD k (0,0):=by
   unfold jn;rw[eY,eY,P' h1]
  have hm:p1.getD k (0,0)∈p1:=by
   rw[eY,eF h1];exact Wn h1
  have O:=j.a1 _ hm
  have ea:(p1.getD k (0,0)).1&&&(a^^^(b <<< p1.length))=(p1.getD k (0,0)).1&&&a:=by
   have:=CG (p:=(p1.getD k (0,0)).1) (r:=a) (P:=0) (R:=b) O ha;rw[Zp,Wa,Yd,Zp,Wa] at this;exact this
  rw[e,ea,hG h1,hG (show k < p1.length + p2.length by omega),gz (show ¬k≥p1.length by omega)];simp
 ·by_cases h2:k < p1.length + p2.length
  ·have L:k - p1.length < p2.length:=by omega
   have e:(jn p1 p2).getD k (0,0)=((p2.getD (k - p1.length) (0,0)).1 <<< p1.length,(p2.getD (k - p1.length) (0,0)).2):=by
    unfold jn;rw[eY,V0 @A,kf,eY,eF L];rfl
   have hm:p2.getD (k - p1.length) (0,0)∈p2:=by
    rw[eY,eF L];exact Wn L
   have O:=j.a2 _ hm
   have ea:od (((p2.getD (k - p1.length) (0,0)).1 <<< p1.length)&&&(a^^^(b <<< p1.length)))=od ((p2.getD (k - p1.length) (0,0)).1&&&b):=by
    have:=CG (p:=0) (r:=a) (P:=(p2.getD (k - p1.length) (0,0)).1) (R:=b) (qb _) ha;rw[Xe,Yd,Xe] at this;rw[this];refine TV (Wl aa5 (hA O (hL @C @A))) @A
   rw[e];show(decide (k < p1.length + p2.length)&&(od (((p2.getD (k - p1.length) (0,0)).1 <<< p1.length)&&&(a^^^(b <<< p1.length)))^^od ((p2.getD (k - p1.length) (0,0)).2&&&r)))=_;rw[ea,hG h2,gz h1,hG (show k≥p1.length by omega),hG L];simp
  ·rw[gz h2,gz h1,gz (show ¬k - p1.length < p2.length by omega)];simp
section
variable {p1 p2 o1 o2:A'} {m:Nat}
theorem Jo.tr' (j:Jo p1 p2) {x r:Nat} (hx:x < 2 ^ (p1.length + p2.length)):tr2 (jn p1 p2) x r=tr2 p1 (lo p1.length x) r^^^(tr2 p2 (x>>>p1.length) r <<< p1.length):=by
 have:=j.tr (r:=r) (lo_lt p1.length x) (hi_lt hx);rwa [spl] at this
theorem Jo.zs (j:Jo p1 p2) {a b:Nat} (ha:a < 2 ^ p1.length) (hb:b < 2 ^ p2.length):∀t,M.zs (jn p1 p2) (a^^^(b <<< p1.length)) t=M.zs p1 a t^^^(M.zs p2 b t <<< p1.length)
 | 0=>rfl
 | t + 1=>by
   show tr2 _ (M.zs _ _ t) 0=_;rw[j.zs ha hb t,j.tr (CZ ha t) (CZ hb t)];rfl
theorem Jo.wst (j:Jo p1 p2):∀(rs:B') {a b:Nat},a < 2 ^ p1.length->b < 2 ^ p2.length->M.wst (jn p1 p2) (a^^^(b <<< p1.length)) rs=M.wst p1 a rs^^^(M.wst p2 b rs <<< p1.length)
 | [],_,_,_,_=>rfl
 | r::rs,a,b,ha,hb=>by
   show M.wst _ (tr2 _ _ r) rs=_;rw[j.tr ha hb,j.wst rs (tr2_lt _ _ _) (tr2_lt _ _ _)];rfl
theorem ve (n:Nat):(0:Nat)^^^(0 <<< n)=0:=by rw[Zp];rfl
noncomputable def sgl (p o:A') (w:Nat):Nat->Nat
 | 0=>tr2 o 0 (2 ^ w)
 | t + 1=>tr2 o (zs p (tr2 p 0 (2 ^ w)) t) 0
theorem AN (p o:A'):∀(T x t:Nat),t < T->(wan p o x (p' T 0)).getD t 0=tr2 o (zs p x t) 0
 | 0,_,_,h=>hB h @A
 | T + 1,x,t,h=>by
   rw[X1];show(tr2 o x 0::wan p o (tr2 p x 0) (p' T 0)).getD t 0=_
   match t with
   | 0=>rfl
   | t + 1=>
     show(wan p o (tr2 p x 0) (p' T 0)).getD t 0=_;rw[AN p o T _ t @A,R1]
theorem wan_sgl (p o:A') (w T:Nat):∀t,t<=T->(wan p o 0 (2 ^ w::p' T 0)).getD t 0=sgl p o w t
 | 0,_=>rfl
 | t + 1,h=>by
   show(wan p o (tr2 p 0 (2 ^ w)) (p' T 0)).getD t 0=_;rw[AN p o T _ t @A];rfl
theorem pulse_sgl (p o:A') (w:Nat) {T t:Nat} (h:t < T):(wan p o 0 (pulse w T)).getD t 0=sgl p o w t:=by
 rw[<-pulse_eq,wan_take,eY,List.getElem?_take,qq h,<-eY,wan_sgl p o w T t @A]
def Al (p1 o1 p2 o2:A') (m T:Nat):Prop:=∀t,t < T->∀w,w < m->sgl p1 o1 w t=sgl p2 o2 w t
theorem Al.step (j:Jo p1 p2) {T:Nat} (al:Al p1 o1 p2 o2 m T) {i x r:Nat} (hi:i < T) (hx:Span (rch (jn p1 p2) m i) x) (hr:r < 2 ^ m):tr2 o1 (lo p1.length x) r=tr2 o2 (x>>>p1.length) r:=by
 have O:∀y,Span (rch (jn p1 p2) m i) y->tr2 o1 (lo p1.length y) 0=tr2 o2 (y>>>p1.length) 0:=λy Y=>by
  obtain⟨F,_,rfl⟩:=span_sm Y
  have gen:∀(L:B'),(∀z∈L,tr2 o1 (lo p1.length z) 0=tr2 o2 (z>>>p1.length) 0)->∀F,tr2 o1 (lo p1.length (sm L F)) 0=tr2 o2 (sm L F>>>p1.length) 0:=by
   intro L β F;refine rev_ind (P:=λL=>(∀z∈L,tr2 o1 (lo p1.length z) 0=tr2 o2 (z>>>p1.length) 0)->tr2 o1 (lo p1.length (sm L F)) 0=tr2 o2 (sm L F>>>p1.length) 0) ?_ ?_ L β
   ·intro _;show tr2 o1 (lo p1.length 0) 0=tr2 o2 (0>>>p1.length) 0;have α:lo p1.length 0=0:=by unfold lo;rw[Yd]
    rw[α,Zg,qv,qv]
   ·intro L z ih h;have i1:=ih λy Y=>h y (hQ _ Y);have i2:=h z (i' _ wq);rw[m7];split
    ·rw[lo_xor,hi_xor];have a1:=mX o1 (lo p1.length (sm L F)) (lo p1.length z) 0 0;have a2:=mX o2 (sm L F>>>p1.length) (z>>>p1.length) 0 0;rw[Xo] at a1 a2;rw[a1,a2,i1,i2]
    ·rw[Wa];exact i1
  refine gen _ (λz hz=>?_) F;obtain⟨w,k,hw,hk,rfl⟩:=Kb _ _ hz
  have γ:tr2 (jn p1 p2) 0 (2 ^ w)=tr2 p1 0 (2 ^ w)^^^(tr2 p2 0 (2 ^ w) <<< p1.length):=by
   have:=j.tr (a:=0) (b:=0) (r:=2 ^ w) (qb _) (qb _);rwa [ve] at this
  rw[γ,j.zs (tr2_lt _ _ _) (tr2_lt _ _ _),lo_of (CZ (tr2_lt _ _ _) _),parts_high (CZ (tr2_lt _ _ _) _)];exact al (k + 1) @A w hw
 have Z:=mX o1 (lo p1.length x) 0 0 r;have η:=mX o2 (x>>>p1.length) 0 0 r;rw[Wa,Xe] at Z η;rw[Z,η,O x hx,si o1 r m hr,si o2 r m hr];congr 1
 have:sg0 o1 m=sg0 o2 m:=by
  unfold sg0;exact Wx λw hw=>al 0 @A w (V2.mp hw)
 rw[this]
theorem Td (ps:A') {rs:B'} (h:∀r∈rs,r < 2 ^ m):Span (rch ps m rs.length) (wst ps 0 rs):=by
 rw[Fh ps m rs h];exact sm_span _ _
theorem Al.runs (j:Jo p1 p2) {T:Nat} (al:Al p1 o1 p2 o2 m T) {rs:B'} (h:∀r∈rs,r < 2 ^ m) (hl:rs.length<=T):wan p1 o1 0 rs=wan p2 o2 0 rs:=by
 revert h hl;refine rev_ind (P:=λrs=>(∀r∈rs,r < 2 ^ m)->rs.length<=T->wan p1 o1 0 rs=wan p2 o2 0 rs) (λ_ _=>rfl) ?_ rs;intro rs r ih h hl;have h1:∀r∈rs,r < 2 ^ m:=λr L=>h r (hQ _ L);have h2:=h r (i' _ wq);rw[gs,V8] at hl;rw[wan_snoc,wan_snoc,ih h1 @A];have hw:=j.wst rs (a:=0) (b:=0) (qb _) (qb _);rw[ve] at hw;have hs:=al.step j (i:=rs.length) (r:=r) @A (Td (jn p1 p2) h1) h2;rw[hw,lo_of (wst_lt (qb _)),parts_high (wst_lt (qb _))] at hs;rw[hs]
theorem Al.all (j:Jo p1 p2) (al:Al p1 o1 p2 o2 m (p1.length + p2.length + 1)) {x r:Nat} (hx:Span (rch (jn p1 p2) m (p1.length + p2.length)) x) (hr:r < 2 ^ m):tr2 o1 (lo p1.length x) r=tr2 o2 (x>>>p1.length) r:=al.step j (i:=p1.length + p2.length) @A hx hr
theorem Al.ever (j:Jo p1 p2) (al:Al p1 o1 p2 o2 m (p1.length + p2.length + 1)) (T:Nat):Al p1 o1 p2 o2 m T:=λt _ w hw=>by
 match t with
 | 0=>exact al 0 @A w hw
 | t + 1=>
   have hs:=Dj (ps:=jn p1 p2) hw t;rw[jn_len] at hs;have:=al.all j hs (qb m)
   have L:tr2 (jn p1 p2) 0 (2 ^ w)=tr2 p1 0 (2 ^ w)^^^(tr2 p2 0 (2 ^ w) <<< p1.length):=by
    have:=j.tr (a:=0) (b:=0) (r:=2 ^ w) (qb _) (qb _);rwa [ve] at this
   rw[L,j.zs (tr2_lt _ _ _) (tr2_lt _ _ _),lo_of (CZ (tr2_lt _ _ _) _),parts_high (CZ (tr2_lt _ _ _) _)] at this;exact this
end
noncomputable def rcf (ps:A') (m:Nat):Nat->B'
 | 0=>[]
 | T + 1=>rcf ps m T++stj ps (sg0 ps m) T
theorem rcf_len (ps:A') (m:Nat):∀T,(rcf ps m T).length=T * m
 | 0=>by show 0=0 * m;omega
 | T + 1=>by
   show(rcf ps m T++stj ps (sg0 ps m) T).length=_;rw[gs,rcf_len ps m T,stj_len,sg0_len,Nat.succ_mul]
theorem Dp (ps:A') (m:Nat) (x:Nat):∀T,x∈rcf ps m T↔x∈rch ps m T
 | 0=>aj9
 | T + 1=>by
   show x∈rcf ps m T++stj ps (sg0 ps m) T↔x∈stj ps (sg0 ps m) T++rch ps m T;rw[gF,gF,Dp ps m x T,or_comm]
theorem mem_span:∀{L:B'} {x:Nat},x∈L->Span L x:=λ{L x} h=>by
 obtain⟨i,hi⟩:=We.mp h;have:=sm_span L (2 ^ i);rwa [sm_two_pow,eY,hi] at this
theorem NS (ps:A') (m T x:Nat):Span (rcf ps m T) x↔Span (rch ps m T) x:=
 ⟨vi (λy L=>mem_span ((Dp ps m y T).mp L)) x,vi (λy L=>mem_span ((Dp ps m y T).mpr L)) x⟩
noncomputable def prs2 (p1 p2:A') (m:Nat):B':=fR (rcf (jn p1 p2) m (p1.length + p2.length))
theorem prs2_span (p1 p2:A') (m x:Nat):Span (prs2 p1 p2 m) x↔Span (rch (jn p1 p2) m (p1.length + p2.length)) x:=by
 unfold prs2;rw[LQ,NS]
theorem prs2_next {p1 p2:A'} {m x r:Nat} (hx:Span (prs2 p1 p2 m) x) (hr:r < 2 ^ m):Span (prs2 p1 p2 m) (tr2 (jn p1 p2) x r):=by
 rw[prs2_span] at hx ⊢;have:=NR (ps:=jn p1 p2) (m:=m) (x:=x) (r:=r) (by rw[jn_len];exact hx) hr;rwa [jn_len] at this
theorem prs2_lt {p1 p2:A'} {m x:Nat} (hx:x∈prs2 p1 p2 m):x < 2 ^ (p1.length + p2.length):=by
 have h:=(prs2_span p1 p2 m x).mp (mem_span hx);rw[<-jn_len];exact span_lt (Pa _ _ _) h
theorem prs2_few (p1 p2:A') (m:Nat):(prs2 p1 p2 m).length<=p1.length + p2.length:=Rj (fR_inj _) λx L=>prs2_lt L
end M
namespace Sx
open PySem L2
structure TwoA (H:Hp) (C p1 p2:dt) (m:Nat) (nx1 os1 nx2 os2:ee Pr3):Prop where
 a1:MaA H C p1 m nx1 os1
 g1:MaG m nx1 os1
 a2:MaA H C p2 m nx2 os2
 g2:MaG m nx2 os2
 lo:os1.length=os2.length
 l:nx1.length + nx2.length<=60
theorem TwoA.same {H H2:Hp} {C p1 p2:dt} {m:Nat} {Z O Y L:ee Pr3} (x:TwoA H C p1 p2 m Z O Y L) (s:Same H H2):TwoA H2 C p1 p2 m Z O Y L:=⟨x.a1.same s,x.g1,x.a2.same s,x.g2,x.lo,x.l⟩
theorem TwoA.jo {H:Hp} {C p1 p2:dt} {m:Nat} {O Z L Y:ee Pr3} (x:TwoA H C p1 p2 m O Z L Y):M.Jo (prs O) (prs L) where
 a1:=λq β=>by
  obtain⟨r,α,rfl⟩:=ik.mp β;rw[aX];exact(x.g1.bn r (hQ _ α)).1
 a2:=λq β=>by
  obtain⟨r,α,rfl⟩:=ik.mp β;rw[aX];exact(x.g2.bn r (hQ _ α)).1
 l:=by rw[aX,aX];have:=x.l;omega
noncomputable abbrev jnp (O L:ee Pr3):A':=M.jn (prs O) (prs L)
theorem Lg (O L:ee Pr3):(jnp O L).length=O.length + L.length:=by rw[M.jn_len,aX,aX]
def Nn (C:dt):Sp:=λvs H Q _=>∃(p1 p2:dt) (m:Nat) (O Z L Y:ee Pr3) (x r:Nat),vs=[.ref p1,.ref p2,nat x,nat r]/\TwoA H C p1 p2 m O Z L Y/\x < 2 ^ (O.length + L.length)/\r < 2 ^ m/\∀H2,Same H H2->Q (nat (M.tr2 (jnp O L) x r)) H2
structure Fun2 (p1 o1 p2 o2:A') (m w t:Nat):Prop where
 hw:w < m
 ht:t<=p1.length + p2.length
 al:M.Al p1 o1 p2 o2 m t
 al':∀w',w' < w->M.sgl p1 o1 w' t=M.sgl p2 o2 w' t
 un:M.sgl p1 o1 w t≠M.sgl p2 o2 w t
theorem Fun2.uniq {p1 o1 p2 o2:A'} {m w t L t':Nat} (a:Fun2 p1 o1 p2 o2 m w t) (b:Fun2 p1 o1 p2 o2 m L t'):w=L/\t=t':=by
 have ht:t=t':=by
  rcases XB t t' with h | h | h
  ·exact hB (b.al t h w a.hw) a.un
  ·exact h
  ·exact hB (a.al t' h L b.hw) b.un
 subst ht;refine⟨?_,rfl⟩;rcases XB w L with h | h | h
 ·exact hB (b.al' w h) a.un
 ·exact h
 ·exact hB (a.al' L h) b.un
theorem Fun2.not {p1 o1 p2 o2:A'} {m w t:Nat} (a:Fun2 p1 o1 p2 o2 m w t) (b:M.Al p1 o1 p2 o2 m (p1.length + p2.length + 1)):False:=a.un (b t (by have:=a.ht;omega) w a.hw)
def Qm (C:dt):Sp:=λvs H Q _=>∃(p1 p2:dt) (m:Nat) (O Z L Y:ee Pr3),vs=[.ref p1,.ref p2]/\TwoA H C p1 p2 m O Z L Y/\
 (M.Al (prs O) (prs Z) (prs L) (prs Y) m (O.length + L.length + 1)->∀H2,Same H H2->Q .non H2)/\
 (∀w t,Fun2 (prs O) (prs Z) (prs L) (prs Y) m w t->∀(tt:dt) (H2:Hp),Same H H2->H2 tt=ag (.tup [.str "apart",nat w,nat t])->Q (.ref tt) H2)
def So (C:dt):Sp:=λvs H Q _=>∃(p1 p2:dt) (m:Nat) (O Z L Y:ee Pr3),vs=[.ref p1,.ref p2]/\TwoA H C p1 p2 m O Z L Y/\∀(D:dt) (H2:Hp),H D=fy->Same H H2->H2 D=ag (.lst ((M.prs2 (prs O) (prs L) m).map nat))->Q (.ref D) H2
noncomputable def sfq (rows:B') (x:Nat):Nat:=@dite _ (∃q,Sumd rows x q) (Wt _) (λh=>h.choose) λ_=>0
theorem JO {rows:B'} {x q:Nat} (h:Sumd rows x q):q=sfq rows x:=by
 unfold sfq;rw[dif_pos ⟨q,h⟩];exact h.uniq (Classical.choose_spec (⟨q,h⟩:∃q,Sumd rows x q))
structure AlkA (H:Hp) (t Ds Db Du:dt) (ts bs us:Dk) (m:Nat) (p1 p2:A'):Prop where
 t:H t=ag (.tup [.str "alike",.ref Ds,.ref Db,.ref Du])
 s:H Ds=ag (.lst (ts.map V.ref))
 ls:ts.length=(M.prs2 p1 p2 m).length
 sa:∀(j:Nat) a,ts[j]? =ag a->H a=ag (.tup [nat (M.lo p1.length ((M.prs2 p1 p2 m).getD j 0)),nat ((M.prs2 p1 p2 m).getD j 0>>>p1.length)])
 b:H Db=ag (.lst (bs.map V.ref))
 lb:bs.length=m
 ba:∀(j:Nat) a,bs[j]? =ag a->H a=ag (.lst ((M.pl 1000 (sfq (M.prs2 p1 p2 m) (M.tr2 (M.jn p1 p2) 0 (2 ^ j)))).map nat))
 u:H Du=ag (.lst (us.map V.ref))
 lu:us.length=(M.prs2 p1 p2 m).length
 ua:∀(j:Nat) a,us[j]? =ag a->H a=ag (.lst ((M.pl 1000 (sfq (M.prs2 p1 p2 m) (M.tr2 (M.jn p1 p2) ((M.prs2 p1 p2 m).getD j 0) 0))).map nat))
theorem AlkA.same {H H2:Hp} {t Z L Y:dt} {ts bs us:Dk} {m:Nat} {p1 p2:A'} (x:AlkA H t Z L Y ts bs us m p1 p2) (s:Same H H2):AlkA H2 t Z L Y ts bs us m p1 p2:=⟨s.get x.t,s.get x.s,x.ls,λj a h=>s.get (x.sa j a h),s.get x.b,x.lb,λj a h=>s.get (x.ba j a h),s.get x.u,x.lu,λj a h=>s.get (x.ua j a h)⟩
def Ss (C:dt):Sp:=λvs H Q _=>∃(p1 p2:dt) (m:Nat) (O β L α:ee Pr3),vs=[.ref p1,.ref p2]/\TwoA H C p1 p2 m O β L α/\
 (M.Al (prs O) (prs β) (prs L) (prs α) m (O.length + L.length + 1)->∀(t Z γ Y:dt) (ts bs us:Dk) (H2:Hp),Same H H2->AlkA H2 t Z γ Y ts bs us m (prs O) (prs L)->Q (.ref t) H2)/\
 (∀w t,Fun2 (prs O) (prs β) (prs L) (prs α) m w t->∀(tt:dt) (H2:Hp),Same H H2->H2 tt=ag (.tup [.str "apart",nat w,nat t])->Q (.ref tt) H2)
theorem vF {p1 p2:A'} {m x r q:Nat} (hx:x=0∨x∈M.prs2 p1 p2 m) (hr:r < 2 ^ m):M.Span (M.prs2 p1 p2 m) (M.tr2 (M.jn p1 p2) x r):=by
 refine M.prs2_next ?_ hr;rcases hx with rfl | h
 ·exact M.span_zero _
 ·exact M.mem_span h
noncomputable def cz (w:mu) (q:mu->Nat×Nat) (x:mu):Nat×Nat:=if x=w then (0,0) else q x
structure CutP (N:Nt) (w:mu) (q:mu->Nat×Nat):Prop where
 i:∀(k:Nat) z,N.ins[k]? =ag z->q z=(0,2 ^ k)
 t:∀(k:Nat) z y,N.sts[k]? =ag (z,y)->q z=(2 ^ k,0)
 s:∀z ws,(z,ws)∈N.sums->q z=(xf (λx=>(cz w q x).1) ws,xf (λx=>(cz w q x).2) ws)
theorem EX (f:mu->Nat) (g:mu->mu):∀ws:B1,xf f (ws.map g)=xf (λx=>f (g x)) ws:=by
 intro ws
 induction ws using M.rev_ind with
 | h0=>rfl
 | h1 l x ih=>rw[fI,pB,show[x].map g=[g x] from rfl,pB,ih]
theorem oa {f g:mu->Nat}:∀{ws:B1},(∀x∈ws,f x=g x)->xf f ws=xf g ws:=by
 intro ws
 induction ws using M.rev_ind with
 | h0=>intro _;rfl
 | h1 l x ih=>intro h;rw[pB,pB,ih λy L=>h y (hQ _ L),h x (i' _ (gn.mpr rfl))]
theorem Nd {N:Nt} {z:mu} {ws:B1} (h:(z,ws)∈N.sums):z∈N.names:=by
 unfold Nt.names;exact hQ _ (i' _ (ik.mpr ⟨_,h,rfl⟩))
theorem Rk {N:Nt} {z:mu} {k:Nat} (h:N.ins[k]? =ag z):z∈N.names:=by
 unfold Nt.names;exact hQ _ (hQ _ (f' h))
theorem Qc {N:Nt} {z y:mu} {k:Nat} (h:N.sts[k]? =ag (z,y)):z∈N.names:=by
 unfold Nt.names;exact i' _ (ik.mpr ⟨_,f' h,rfl⟩)
theorem Od {N:Nt} {w f:mu} {p:mu->Nat×Nat} (h:Hng (cutN N w f) p):p f=(0,0):=h.s f [] (i' _ wq)
theorem O6 {N:Nt} {w f:mu} {p:mu->Nat×Nat} (h:Hng (cutN N w f) p) (x:mu):p (sbw w f x)=cz w p x:=by
 unfold sbw cz;split
 ·exact Od h
 ·rfl
theorem Hng.cut {N:Nt} {w f:mu} {p:mu->Nat×Nat} (h:Hng (cutN N w f) p):CutP N w p where
 i:=h.i
 t:=λk z y hk=>h.t k z (sbw w f y) (by
  show(N.sts.map (λq=>(q.1,sbw w f q.2)))[k]? =_;rw[kf,hk];rfl)
 s:=λz ws hz=>by
  rw[h.s z (ws.map (sbw w f)) (hQ _ (ik.mpr ⟨(z,ws),hz,rfl⟩)),EX,EX];rw[oa (f:=λx=>(p (sbw w f x)).1) (g:=λx=>(cz w p x).1) λx _=>by rw[O6 h],oa (f:=λx=>(p (sbw w f x)).2) (g:=λx=>(cz w p x).2) λx _=>by rw[O6 h]]
noncomputable def ext (f:mu) (q:mu->Nat×Nat) (z:mu):Nat×Nat:=if z=f then (0,0) else q z
theorem CutP.hng {N:Nt} {w f:mu} {q:mu->Nat×Nat} (c:CutP N w q) (g:Gn N) (hf:f∉N.names):Hng (cutN N w f) (ext f q):=by
 have ne:∀{z},z∈N.names->ext f q z=q z:=λ{z} hz=>by
  unfold ext;rw[n' λe=>hf (by rw[<-e];exact hz)]
 have es:∀{x},x∈N.names->ext f q (sbw w f x)=cz w q x:=λ{x} L=>by
  unfold sbw cz;split
  ·unfold ext;rw[qq rfl]
  ·exact ne L
 refine⟨λk z hk=>?_,λk z y hk=>?_,λz ws hz=>?_⟩
 ·rw[ne (Rk hk)];exact c.i k z hk
 ·have hk:(N.sts.map (λq=>(q.1,sbw w f q.2)))[k]? =ag (z,y):=hk;rw[kf] at hk;cases e:N.sts[k]? with
  | none=>rw[e] at hk;cases hk
  | some r=>
    rw[e] at hk;have hk:=vu hk;have h1:r.1=z:=ri al6 hk;rw[<-h1,ne (Qc (y:=r.2) e)];exact c.t k r.1 r.2 e
 ·rcases gF.mp hz with h | h
  ·obtain⟨r,O,e⟩:=ik.mp h;have h1:r.1=z:=ri al6 e;have h2:r.2.map (sbw w f)=ws:=ri Prod.snd e;rw[<-h1,<-h2,ne (Nd (ws:=r.2) O),c.s r.1 r.2 O,EX,EX];rw[oa (f:=λx=>(cz w q x).1) (g:=λx=>(ext f q (sbw w f x)).1) λx L=>by rw[es (g.ws r O x L)],oa (f:=λx=>(cz w q x).2) (g:=λx=>(ext f q (sbw w f x)).2) λx L=>by rw[es (g.ws r O x L)]]
  ·rw[gn] at h;cases h;unfold ext;rw[qq rfl];rfl
theorem CutP.tab {N:Nt} {w f:mu} {q:mu->Nat×Nat} (c:CutP N w q) (g:Gn N) (hf:f∉N.names) (g2:Gn (cutN N w f)) {od:B1} (tp:Topo (cutN N w f).sums od) (b:∀z∈N.names,(q z).1 < 2 ^ N.sts.length/\(q z).2 < 2 ^ N.ins.length):
  ((cutN N w f).sts.map (·.2)).map (hgp (cutN N w f))=(N.sts.map (·.2)).map (cz w q)/\(cutN N w f).outs.map (hgp (cutN N w f))=N.outs.map (cz w q):=by
 have ζ:=c.hng (f:=f) g hf;have lst:(cutN N w f).sts.length=N.sts.length:=a' ..
 have χ:∀x∈N.names,hgp (cutN N w f) (sbw w f x)=cz w q x:=λx L=>by
  have e:ext f q (sbw w f x)=cz w q x:=by
   unfold sbw cz;split
   ·unfold ext;rw[qq rfl]
   ·unfold ext;rw[n' λe=>hf (by rw[<-e];exact L)]
  have hb:(cz w q x).1 < 2 ^ N.sts.length/\(cz w q x).2 < 2 ^ N.ins.length:=by
   unfold cz;split
   ·exact⟨qb _,qb _⟩
   ·exact b x L
  rw[Up g2 tp ζ (Fc L) (by rw[e,lst];exact hb.1) (by rw[e];exact hb.2),e]
 constructor
 ·show((N.sts.map (λq=>(q.1,sbw w f q.2))).map (·.2)).map _=_;rw[y2,y2,y2];exact Wx λr O=>χ r.2 (g.ts r O)
 ·show(N.outs.map (sbw w f)).map _=_;rw[y2];exact Wx λr O=>χ r (g.os r O)
theorem OA {N:Nt} {w f:mu} (g:Gn N) (hf:f∉N.names) (g2:Gn (cutN N w f)) {od:B1} (tp:Topo (cutN N w f).sums od):∃q:mu->Nat×Nat,CutP N w q/\∀z∈N.names,(q z).1 < 2 ^ N.sts.length/\(q z).2 < 2 ^ N.ins.length:=by
 refine⟨hgp (cutN N w f),(tK g2 tp).cut,λz hz=>⟨?_,Ln (cutN N w f) z⟩⟩;have:=FD (cutN N w f) z;rwa [show(cutN N w f).sts.length=N.sts.length from a' ..] at this
theorem unread {N:Nt} {w:mu} (g:Gn N) {od:B1} (tp:Topo N.sums od) (h1:∀r∈N.sums,w∉r.2):CutP N w (hgp N) where
 i:=(tK g tp).i
 t:=(tK g tp).t
 s:=λz ws hz=>by
  rw[(tK g tp).s z ws hz]
  have e:∀x∈ws,cz w (hgp N) x=hgp N x:=λx L=>by
   unfold cz;rw[n' λe=>h1 (z,ws) hz (by rw[<-e];exact L)]
  rw[oa (f:=λx=>(hgp N x).1) (g:=λx=>(cz w (hgp N) x).1) λx L=>by rw[e x L],oa (f:=λx=>(hgp N x).2) (g:=λx=>(cz w (hgp N) x).2) λx L=>by rw[e x L]]
theorem F3 {N:Nt} {w:mu} (h2:∀r∈N.sts,r.2≠w) (Y:w∉N.outs):(N.sts.map (·.2)).map (cz w (hgp N))=(N.sts.map (·.2)).map (hgp N)/\N.outs.map (cz w (hgp N))=N.outs.map (hgp N):=by
 constructor
 ·refine Wx λx L=>?_;obtain⟨r,O,rfl⟩:=ik.mp L;unfold cz;rw[n' (h2 r O)]
 ·refine Wx λx L=>?_;unfold cz;rw[n' λe=>Y (by rw[<-e];exact L)]
noncomputable def frn (k:Nat):Str:=("c":mu)++tx k
theorem Rz (k:Nat):(frn k).cps.toList=99::(tx k).cps.toList:=by unfold frn;rw[qm];rfl
theorem Us:∀k:Fin 64,nm (frn k.1).cps.toList=true:=by decide +kernel
theorem Ry {j k:Nat} (O:j < 64) (hk:k < 64) (e:frn j=frn k):j=k:=by
 have L:=ri (λz:mu=>z.cps.toList) e;simp only[Rz] at L;injection L with _ L
 have ρ:=ri dval L;rw[(qt ⟨j,by omega⟩).1.1,(qt ⟨k,by omega⟩).1.1] at ρ;exact ρ
noncomputable def frns (n:Nat):B1:=(lj n).map frn
theorem FG (n:Nat):(frns n).length=n:=by unfold frns;rw[a',S']
theorem LH (n:Nat):frns (n + 1)=frns n++[frn n]:=by unfold frns;rw[X7,fI];rfl
theorem Rx {n:Nat} (h:n<=64):(frns n).Nodup:=by
 refine Yq.mpr (Yc (λ{a b} ha hb ne e=>ne ?_) Z6);exact Ry (by have:=V2.mp ha;omega) (by have:=V2.mp hb;omega) e
theorem Bk:∀(l L:B1),l.Nodup->(∀x∈l,x∈L)->l.length<=L.length
 | [],_,_,_=>VY _
 | x::l,L,nd,h=>by
   have Y:=h x wq;rw[Y6] at nd
   have:=Bk l (L.erase x) nd.2 λy O=>by
    refine(List.mem_erase_of_ne λe=>nd.1 (by rw[<-e];exact O)).mpr (h y (z4 _ O))
   rw[ad3 Y] at this;have Z:0 < L.length:=ae7 Y;rw[V1];omega
theorem LJ {n:Nat} (L:B1) (h:n + 1<=64) (hl:L.length<=n):((frns (n + 1)).filter λz=> !decide (z∈L))≠[]:=λe=>by
 have:∀x∈frns (n + 1),x∈L:=λx O=>by
  have:=ae9.mp e x O;simpa using this
 have:=Bk _ _ (Rx h) this;rw[FG] at this;omega
def NG (L:NP):Sp:=λvs H Q _=>∃(p:dt) (N:Nt) (od:B1),vs=[.ref p]/\L H p N od/\∀(z:mu) (H2:Hp),Nm z->z∉N.names->Same H H2->Q (.str z) H2
theorem Tld3.pre {H H1 H2:Hp} {dx:dt} {v:V} {k:U'} (th:Thg2 H v k) (s:Same H H1) (t:Tld3 H1 H2 dx v):Tld3 H H2 dx v:=by
 obtain⟨α,π,cp⟩:=t;refine⟨α,π.pre s,?_⟩;cases cp with
 | sc h=>exact .sc h
 | nil O Y=>
   cases th with
   | sc h=>cases h
   | one l L=>have:=s.get L;rw[O] at this;cases this
   | nil L=>exact .nil L Y
 | one O Y=>
   cases th with
   | sc h=>cases h
   | nil L=>have:=s.get L;rw[O] at this;cases this
   | one l L=>
     have Z:=s.get L;rw[O] at Z;cases Z;exact .one L Y
noncomputable def tbN (N:Nt):A'×ee (Nat×Nat):=((N.sts.map (·.2)).map (hgp N),N.outs.map (hgp N))
noncomputable def cqp (N:Nt) (w:mu):mu->Nat×Nat:=@dite _ (∃q,CutP N w q/\∀z∈N.names,(q z).1 < 2 ^ N.sts.length/\(q z).2 < 2 ^ N.ins.length) (Wt _) (λh=>h.choose) λ_ _=>(0,0)
noncomputable def tbC (N:Nt) (w:mu):A'×ee (Nat×Nat):=((N.sts.map (·.2)).map (cz w (cqp N w)),N.outs.map (cz w (cqp N w)))
theorem Jc {N:Nt} {w f:mu} (g:Gn N) (hf:f∉N.names) (g2:Gn (cutN N w f)) {od:B1} (tp:Topo (cutN N w f).sums od):tbN (cutN N w f)=tbC N w:=by
 have L:=OA g hf g2 tp
 have O:CutP N w (cqp N w)/\∀z∈N.names,((cqp N w) z).1 < 2 ^ N.sts.length/\((cqp N w) z).2 < 2 ^ N.ins.length:=by
  unfold cqp;rw[dif_pos L];exact L.choose_spec
 obtain⟨Z,Y⟩:=O.1.tab g hf g2 tp O.2;unfold tbN tbC;rw[Z,Y]
theorem Jb {N:Nt} {w f:mu} (g:Gn N) {od:B1} (tp:Topo N.sums od) (h1:∀r∈N.sums,w∉r.2) (h2:∀r∈N.sts,r.2≠w) (Z:w∉N.outs) (hf:f∉N.names) (g2:Gn (cutN N w f)) {O:B1} (L:Topo (cutN N w f).sums O):tbC N w=tbN N:=by
 rw[<-Jc g hf g2 L];obtain⟨β,α⟩:=(unread g tp h1).tab g hf g2 L λz _=>⟨FD N z,Ln N z⟩;obtain⟨Y,ι⟩:=F3 (N:=N) (w:=w) h2 Z;unfold tbN;rw[β,α,Y,ι]
def JF (O:NP) (η θ:dt):Sp:=λvs H Q E=>∃(p:dt) (N:Nt) (od:B1) (v:V) (k:U'),vs=[.ref p,v]/\O H p N od/\Thg2 H v k/\N.sts.length<=16/\
 ((∀z∈N.names,v≠.str z)->∀H2 dx,Tld3 H H2 dx v->E (.ref η) (ag dx) H2)/\
 (∀w∈N.names,v= .str w->(39 < N.sums.length->∀H2,Same H H2->E (.ref θ) fy H2)/\
  (N.sums.length<=39->(M.Al (tbN N).1 (tbN N).2 (tbC N w).1 (tbC N w).2 N.ins.length (N.sts.length + N.sts.length + 1)->∀(t Z α Y:dt) (ts bs us:Dk) (H2:Hp),Same H H2->AlkA H2 t Z α Y ts bs us N.ins.length (tbN N).1 (tbC N w).1->Q (.ref t) H2)/\
   (∀L t',Fun2 (tbN N).1 (tbN N).2 (tbC N w).1 (tbC N w).2 N.ins.length L t'->∀(tt:dt) (H2:Hp),Same H H2->H2 tt=ag (.tup [.str "apart",nat L,nat t'])->Q (.ref tt) H2)))
theorem Q4:("nobody":mu)∉W40/\(("nobody":mu).cps.toList.getLast? =ag 121/\fig (("nobody":mu).cps.toList.getD 1 0)=false):=by decide +kernel
theorem KL:("nobody":mu).cps.toList=[110,111,98,111,100,121]:=by decide +kernel
theorem Q5 {c:Int} {k:Nat} (hk:k < 40):nmf c (k:Int)≠"nobody":=λe=>by
 rcases Bm c hk with h | ⟨d,n,hn,_,_,h⟩
 ·rw[e] at h;exact Q4.1 h
 ·rw[e,KL] at h;injection h with _ h
  have hf:=(qt ⟨n,hn⟩).1.2;rw[Wc] at hf;have:=hf 111 (by show 111∈(tx n).cps.toList;rw[<-h];simp);revert this;decide
theorem RD {j:Nat} (L:j < 40):fln j≠"nobody":=λe=>by
 have ha:=(Ep ⟨j,L⟩).2;have ha:(fln j).cps.toList.getLast? =ag 122:=ha;rw[e,KL] at ha;revert ha;decide
theorem Nmc.nob {c:Int} {N:Nt} (h:Nmc c N):("nobody":mu)∉N.names:=λhz=>by
 obtain⟨k,hk,e⟩:=h _ hz;exact Q5 hk e.symm
theorem Nmc.nobF {c:Int} {N:Nt} (h:Nmc c N) {n:Nat} (hn:n<=40):("nobody":mu)∉(fil N n).names:=λhz=>by
 rcases gF.mp ((lF N n).mem_iff.mp hz) with h1 | h1
 ·exact h.nob h1
 ·obtain⟨k,hk,e⟩:=ik.mp h1;exact RD (by have:=V2.mp hk;omega) e
theorem bigA:nm ("A":mu).cps.toList=false:=by decide +kernel
theorem Gn.bigA {N:Nt} (g:Gn N):("A":mu)∉N.names:=λhz=>by
 have:=g.nm _ hz;have h:Sx.nm ("A":mu).cps.toList=true:=this;rw[Sx.bigA] at h;cases h
theorem tx90:∀n:Fin 1000,(tx (n.1 + 3330)).cps.toList.length=4/\(tx (n.1 + 3330)).cps.toList.all fig=true:=by decide +kernel
noncomputable def nm9 (c:Int):Str:=(⟨#[97 + (mixV c 400 % 26).toNat]⟩:mu)++tx ((mixV c 401 % 1000).toNat + 3330)
theorem T5 (c:Int):Nm (nm9 c):=by
 have hd:low (97 + (mixV c 400 % 26).toNat)=true:=by
  have:=tu (mixV c 400) (show(0:Int) < 26 by decide);have:=x7 (mixV c 400) (show(26:Int)≠0 by decide);unfold low;rw[hG @A,hG @A];rfl
 have hb:(mixV c 401 % 1000).toNat < 1000:=by
  have:=tu (mixV c 401) (show(0:Int) < 1000 by decide);have:=x7 (mixV c 401) (show(1000:Int)≠0 by decide);omega
 obtain⟨L,h2⟩:=tx90 ⟨_,hb⟩;show nm _=true;unfold nm9;rw[qm];show nm ((97 + (mixV c 400 % 26).toNat)::(tx ((mixV c 401 % 1000).toNat + 3330)).cps.toList)=true;have L:(tx ((mixV c 401 % 1000).toNat + 3330)).cps.toList.length=4:=L;have h2:(tx ((mixV c 401 % 1000).toNat + 3330)).cps.toList.all fig=true:=h2;generalize (tx ((mixV c 401 % 1000).toNat + 3330)).cps.toList=l at h2 L;generalize 97 + (mixV c 400 % 26).toNat=d at hd;show(decide ((d::l).length<=6)&&low d&&(d::l).all λc=>low c||fig c)=true;rw[hd,Z3,hd]
 have O:l.all (λc=>low c||fig c)=true:=by
  rw[Wc] at h2 ⊢;intro x Y;rw[h2 x Y,ae5]
 rw[O,V1,hG @A];rfl
noncomputable def rdl (N:Nt):B1:=N.sts.map (·.2)++N.outs++(N.sums.map (·.2)).flatten
theorem QP {N:Nt} {w:mu} (h:w∉rdl N):(∀r∈N.sums,w∉r.2)/\(∀r∈N.sts,r.2≠w)/\w∉N.outs:=by
 refine⟨λr L hw=>h ?_,λr L e=>h ?_,λhw=>h ?_⟩
 ·exact i' _ (List.mem_flatten.mpr ⟨r.2,ik.mpr ⟨r,L,rfl⟩,hw⟩)
 ·exact hQ _ (hQ _ (ik.mpr ⟨r,L,e⟩))
 ·exact hQ _ (i' _ hw)
def Gk:Sp:=λvs H Q _=>∃(t i s u o:dt) (rs:ee Rw) (qs:ee Qs) (N:Nt) (w:mu),vs=[.ref t,.str w]/\H t=ag (.tup [.ref i,.ref s,.ref u,.ref o])/\Hnd H i s u o rs qs N/\Gn N/\∀H2,Same H H2->Q (.bl (decide (w∈rdl N))) H2
def Gj (L:NP):Sp:=λvs H Q _=>∃(p:dt) (N:Nt) (od:B1) (v:V) (k:U'),vs=[.ref p,v]/\L H p N od/\Thg2 H v k/\(∀z∈N.names,v≠.str z)/\∀H2,Same H H2->Q (.bl true) H2
noncomputable def x1 (L:ee Pr3):Nat:=L.foldl (λa g=>a^^^g.2.1) 0
noncomputable def x2 (L:ee Pr3):Nat:=L.foldl (λa g=>a^^^g.2.2) 0
theorem IS (L:ee Pr3) (g:Pr3):x1 (L++[g])=x1 L^^^g.2.1:=by unfold x1;rw[Wk];rfl
theorem IR (L:ee Pr3) (g:Pr3):x2 (L++[g])=x2 L^^^g.2.2:=by unfold x2;rw[Wk];rfl
def Ql:Sp:=λvs H Q _=>∃(β n1 o1 π δ o2 tp γ:dt) (m:Nat) (Z O Y L α:ee Pr3) (a b r:Nat),vs=[.ref β,.ref π,.ref tp,nat r,.ref γ]/\TabT H β n1 o1 m Z O/\TabT H π δ o2 m Y L/\H tp=ag (.tup [nat a,nat b])/\H γ=ag (.lst (refs α))/\Prt H α/\α.length<=1000/\a < 2 ^ 1000/\b < 2 ^ 1000/\r < 2 ^ 1000/\M.tr2 (prs O) a r=M.tr2 (prs L) b r/\x1 α=M.tr2 (prs Z) a r/\x2 α=M.tr2 (prs Y) b r/\∀H2,Same H H2->Q (.bl true) H2
theorem Rv {rows:B'} (I:M.Inj rows) {q:Nat} (hq:q < 2 ^ rows.length):M.Frs rows q:=λi hi=>by
 have L:i < rows.length:=by
  refine al0 λh=>?_;rw[ry (hA hq (hL @C h))] at hi;cases hi
 refine⟨L,λsp=>?_⟩;have lt:(rows.take i).length=i:=by rw[sv];omega
 obtain⟨p,hp,e⟩:=M.span_sm sp;rw[lt] at hp
 have Z:M.sm rows p=M.sm (rows.take i) p:=by
  have:=M.sm_append (rows.take i) (rows.drop i) p;rw[X2,lt,al2 hp,M.sm_zero,Wa] at this;exact this
 have Y:M.sm rows (p^^^2 ^ i)=0:=by
  rw[M.sm_xor,M.sm_two_pow,Z,e,Xo]
 have O:=I (p^^^2 ^ i) (hA (M.lt_more hp) (hL @C L)) Y;exact(M.log2_more hp).1 O
theorem Jk {rows:B'} (I:M.Inj rows) {x:Nat} (h:M.Span rows x):Sumd rows x (sfq rows x):=by
 obtain⟨q,L,e⟩:=M.span_sm h;have sd:Sumd rows x q:=⟨L,e,Rv I L⟩;rw[<-JO sd];exact sd
noncomputable def gat (n:Nat) (ts:Dk) (rows:B') (ks:B'):ee Pr3:=ks.map λk=>(ts.getD k 0,M.lo n (rows.getD k 0),rows.getD k 0>>>n)
theorem Ro (n:Nat) (ts:Dk) (rows:B'):∀ks:B',x1 (gat n ts rows ks)=M.lo n (ks.foldl (λa k=>a^^^rows.getD k 0) 0)/\x2 (gat n ts rows ks)=(ks.foldl (λa k=>a^^^rows.getD k 0) 0)>>>n:=by
 intro ks
 induction ks using M.rev_ind with
 | h0=>
   refine⟨?_,?_⟩
   ·show 0=M.lo n 0;unfold M.lo;rw[Yd]
   ·show 0=0>>>n;rw[Zg]
 | h1 l k ih=>
   have e:gat n ts rows (l++[k])=gat n ts rows l++[(ts.getD k 0,M.lo n (rows.getD k 0),rows.getD k 0>>>n)]:=by unfold gat;rw[fI];rfl
   rw[e,IS,IR,ih.1,ih.2,Wk];exact⟨(M.lo_xor _ _ _).symm,(M.hi_xor _ _ _).symm⟩
theorem Rp {n:Nat} {ts:Dk} {rows:B'} {x q:Nat} (hl:rows.length<=1000) (sd:Sumd rows x q):x1 (gat n ts rows (M.pl 1000 q))=M.lo n x/\x2 (gat n ts rows (M.pl 1000 q))=x>>>n:=by
 have h:=Ro n ts rows (M.pl 1000 q);rw[M.sm_places rows q sd.lt 1000 hl,sd.sm] at h;exact h
def Jy:Sp:=λvs H Q _=>∃(t Z ε Y γ n1 o1 π δ o2:dt) (ts bs us:Dk) (m:Nat) (O β L α:ee Pr3),vs=[.ref t,.ref γ,.ref π]/\AlkA H t Z ε Y ts bs us m (prs O) (prs L)/\TabT H γ n1 o1 m O β/\TabT H π δ o2 m L α/\O.length + L.length<=60/\M.Al (prs O) (prs β) (prs L) (prs α) m (O.length + L.length + 1)/\∀H2,Same H H2->Q (.bl true) H2
theorem Ut {L α O Z:ee Pr3} {m x r:Nat} (ts:Dk) (j:M.Jo (prs L) (prs O)) (hl:L.length + O.length<=60) (al:M.Al (prs L) (prs α) (prs O) (prs Z) m (L.length + O.length + 1)) (hx:x=0∨x∈M.prs2 (prs L) (prs O) m) (hr:r < 2 ^ m):
  M.tr2 (prs α) (M.lo L.length x) r=M.tr2 (prs Z) (x>>>L.length) r/\
  x1 (gat L.length ts (M.prs2 (prs L) (prs O) m) (M.pl 1000 (sfq (M.prs2 (prs L) (prs O) m) (M.tr2 (M.jn (prs L) (prs O)) x r))))=M.tr2 (prs L) (M.lo L.length x) r/\
  x2 (gat L.length ts (M.prs2 (prs L) (prs O) m) (M.pl 1000 (sfq (M.prs2 (prs L) (prs O) m) (M.tr2 (M.jn (prs L) (prs O)) x r))))=M.tr2 (prs O) (x>>>L.length) r:=by
 have β:M.Span (M.prs2 (prs L) (prs O) m) x:=by
  rcases hx with rfl | h
  ·exact M.span_zero _
  ·exact M.mem_span h
 have γ:x < 2 ^ ((prs L).length + (prs O).length):=by
  rcases hx with rfl | h
  ·exact qb _
  ·exact M.prs2_lt h
 have few:=M.prs2_few (prs L) (prs O) m;rw[aX,aX] at few;have sd:=Jk (M.fR_inj _) (vF (q:=0) hx hr:M.Span (M.prs2 (prs L) (prs O) m) _);have ga:=Rp (n:=L.length) (ts:=ts) (rows:=M.prs2 (prs L) (prs O) m) @A sd;have Y:=j.tr' (r:=r) γ;rw[aX] at Y;refine⟨?_,?_,?_⟩
 ·have h:=(M.prs2_span _ _ _ _).mp β;have:=M.Al.all j (by rw[aX,aX];exact al) h hr;rw[aX] at this;exact this
 ·refine ga.1.trans ?_;rw[Y];exact M.lo_of (by have:=M.tr2_lt (prs L) (M.lo L.length x) r;rwa [aX] at this)
 ·refine ga.2.trans ?_;rw[Y];exact M.parts_high (by have:=M.tr2_lt (prs L) (M.lo L.length x) r;rwa [aX] at this)
structure Nts (NA:NP) (H:Hp) (p1 p2:dt) (N N2:Nt) (od od2:B1):Prop where
 a1:NA H p1 N od
 a2:NA H p2 N2 od2
 li:N2.ins.length=N.ins.length
 lt:N2.sts.length=N.sts.length
theorem mY {N:Nt} (g:Gn N):(∀q∈(tbN N).1,q.1 < 2 ^ (tbN N).1.length)/\(tbN N).1.length=N.sts.length:=by
 have l:(tbN N).1.length=N.sts.length:=by unfold tbN;rw[a',a']
 refine⟨λq L=>?_,l⟩;rw[l];obtain⟨z,hz,rfl⟩:=ik.mp L;exact FD N z
theorem Se {N L:Nt} (g:Gn N) (g2:Gn L):M.Jo (tbN N).1 (tbN L).1:=⟨(mY g).1,(mY g2).1,by rw[(mY g).2,(mY g2).2];have:=g.lt;have:=g2.lt;omega⟩
theorem yW {N:Nt} (g:Gn N) {od:B1} (tp:Topo N.sums od) (rs:B') (st:Nat):ran N st rs=M.wan (tbN N).1 (tbN N).2 st rs:=Pb g tp (tK g tp) rs st
def Jw (β:NP):Sp:=λvs H Q _=>∃(t p1 p2 Z:dt) (N O:Nt) (od L:B1) (Y t':Nat) (α:E'),vs=[.ref t,.ref p1,.ref p2,nat N.ins.length,.ref Z]/\H t=ag (.tup [.str "apart",nat Y,nat t'])/\H Z=ag (.lst (α.map V.int))/\α.length<=100/\Nts β H p1 p2 N O od L/\Fun2 (tbN N).1 (tbN N).2 (tbN O).1 (tbN O).2 N.ins.length Y t'/\∀H2,Same H H2->Q (.bl true) H2
def FndR (H:Hp) (t:dt) (N L:Nt):Prop:=(∃(Z α Y:dt) (ts bs us:Dk),M.Al (tbN N).1 (tbN N).2 (tbN L).1 (tbN L).2 N.ins.length (N.sts.length + N.sts.length + 1)/\AlkA H t Z α Y ts bs us N.ins.length (tbN N).1 (tbN L).1)∨(∃O t':Nat,Fun2 (tbN N).1 (tbN N).2 (tbN L).1 (tbN L).2 N.ins.length O t'/\H t=ag (.tup [.str "apart",nat O,nat t']))
def C8 (Z:NP):Sp:=λvs H Q _=>∃(t p1 p2 Y:dt) (N O:Nt) (od L:B1) (α:E'),vs=[.ref t,.ref p1,.ref p2,nat N.ins.length,.ref Y]/\FndR H t N O/\H Y=ag (.lst (α.map V.int))/\α.length<=100/\Nts Z H p1 p2 N O od L/\∀H2,Same H H2->Q (.bl true) H2
def Jz:Sp:=λvs H Q _=>∃(c:Int),vs=[.int c,.int 90]/\∀H2,Same H H2->Q (.str (nm9 c)) H2
def Nu (L:NP):Sp:=λvs H Q _=>∃(t i s u o:dt) (rs:ee Rw) (qs:ee Qs) (N:Nt) (c:Int),vs=[.ref t]/\H t=ag (.tup [.ref i,.ref s,.ref u,.ref o])/\Hnd H i s u o rs qs N/\Gn N/\Nmc c N/\N.sums.length<=12/\∀H2,Same H H2->Q (.bl true) H2
structure Kn (N:Nt) (od:B1) (t i:Nat) (ks:B1):Prop where
 nd:ks.Nodup
 sub:∀z∈ks,z∈N.names
 io:∀z∈N.ins,z∈ks
 so:∀z∈N.sts.map (·.1),z∈ks
 odk:∀j,j < t->∀z,od[j]? =ag z->z∈ks
 cur:∀j,j < i->∀r,N.sums[j]? =ag r->od[t]? =ag r.1->r.1∈ks
theorem Bo {N:Nt} (g:Gn N):N.names.length<=62:=by
 unfold Nt.names;rw[gs,gs,a',a'];have:=g.li;have:=g.ls;have:=g.lt;omega
def FndC (H:Hp) (t:dt) (N:Nt) (w:mu):Prop:=(∃(Z O Y:dt) (ts bs us:Dk),M.Al (tbN N).1 (tbN N).2 (tbC N w).1 (tbC N w).2 N.ins.length (N.sts.length + N.sts.length + 1)/\AlkA H t Z O Y ts bs us N.ins.length (tbN N).1 (tbC N w).1)∨(∃L t':Nat,Fun2 (tbN N).1 (tbN N).2 (tbC N w).1 (tbC N w).2 N.ins.length L t'/\H t=ag (.tup [.str "apart",nat L,nat t']))
theorem FndC.same {H H2:Hp} {t:dt} {N:Nt} {w:mu} (f:FndC H t N w) (s:Same H H2):FndC H2 t N w:=by
 rcases f with ⟨Z,O,Y,ts,bs,us,al,γ⟩ | ⟨L,t',ζ,e⟩
 ·exact .inl ⟨Z,O,Y,ts,bs,us,al,γ.same s⟩
 ·exact .inr ⟨L,t',ζ,s.get e⟩
theorem FndC.r {H:Hp} {t:dt} {N:Nt} {w f:mu} (x:FndC H t N w) (e:tbN (cutN N w f)=tbC N w):FndR H t N (cutN N w f):=by
 unfold FndR;rw[e];exact x
theorem Mh {α:NP} {η θ p:dt} {H:Hp} {Q:VK} {E:XK} {N:Nt} {od:B1} {w:mu} (na:α H p N od) (g:Gn N) (hw:w∈N.names) (ls:N.sums.length<=39) (q:∀(t:dt) (H2:Hp),Same H H2->FndC H2 t N w->Q (.ref t) H2):JF α η θ [.ref p,.str w] H Q E:=
 ⟨p,N,od,.str w,"str",rfl,na,.sc (.str w (by have:=(g.nm w hw).len;omega)),g.lt,λO=>hB rfl (O w hw),fun ν δ ev=>by
   have ev:=V.str.inj ev;subst ev;exact⟨λhm=>hB hm @A,λ_=>⟨λal t Z ι Y ts bs us H2 L γ=>q t H2 L (.inl ⟨Z,ι,Y,ts,bs,us,al,γ⟩),fun β π ζ tt H2 L ε=>q tt H2 L (.inr ⟨β,π,ζ,ε⟩)⟩⟩⟩
theorem RK {β:NP} {η ω ψ θ p:dt} {H:Hp} {Q:VK} {E:XK} {N:Nt} {od:B1} {w z:mu} (na:β H p N od) (g:Gn N) (hw:w∈N.names) (nz:Nm z) (hz:z∉N.names) (ls:N.sums.length<=39) (q:∀(n:dt) (H2:Hp) (L:B1),Same H H2->β H2 n (cutN N w z) L->Q (.ref n) H2):O4 β η ω ψ θ [.ref p,.str w,.str z] H Q E:=
 ⟨p,N,od,.str w,.str z,"str","str",rfl,na,.sc (.str w (by have:=(g.nm w hw).len;omega)),.str z (by have:=nz.len;omega),fun α=>hB rfl (α w hw),fun γ Y ev hn=>hB (show Bp (.str z)=true from nz) (by rw[hn];decide),fun γ Y ev δ O e=>hB O (by rw[<-V.str.inj e];exact hz),fun γ Y ev δ e ζ O=>by
   have ev:=V.str.inj ev;have e:=V.str.inj e;subst ev;subst e;exact⟨λhm=>hB hm @A,λ_ n H2 L _ ε Z=>q n H2 L ε Z⟩⟩
theorem Fg {K:ak} {H:Hp} {D:dt} {ks:B'} (e:H D=ag (.lst (ks.map nat))):Rep K H (.ref D) (.lst (ks.map natD)):= .lst (SqL.of e) (by rw[a',a']) (vD nat natD (λk=> .int _) ks)
noncomputable def alkD (m:Nat) (p1 p2:A'):Dt:= .tup [.str "alike",.lst ((lj (M.prs2 p1 p2 m).length).map λj=> .tup [natD (M.lo p1.length ((M.prs2 p1 p2 m).getD j 0)),natD ((M.prs2 p1 p2 m).getD j 0>>>p1.length)]),
 .lst ((lj m).map λj=> .lst ((M.pl 1000 (sfq (M.prs2 p1 p2 m) (M.tr2 (M.jn p1 p2) 0 (2 ^ j)))).map natD)),.lst ((lj (M.prs2 p1 p2 m).length).map λj=> .lst ((M.pl 1000 (sfq (M.prs2 p1 p2 m) (M.tr2 (M.jn p1 p2) ((M.prs2 p1 p2 m).getD j 0) 0))).map natD))]
theorem zG {K:ak} {H:Hp} {D:dt} {ts:Dk} {n:Nat} {f:Nat->Dt} (e:H D=ag (.lst (ts.map V.ref))) (l:ts.length=n) (h:∀(j:Nat) a,ts[j]? =ag a->Rep K H (.ref a) (f j)):Rep K H (.ref D) (.lst ((lj n).map f)):= .lst (SqL.of e) (by rw[a',a',S',l]) λi x d h1 h2=>by
 obtain⟨a,ha,rfl⟩:=aF h1;have hi:=(b'.mp ha).1;rw[kf,W6 @A] at h2;cases h2;exact h i a ha
theorem AlkA.rep {K:ak} {H:Hp} {t Z L Y:dt} {ts bs us:Dk} {m:Nat} {p1 p2:A'} (x:AlkA H t Z L Y ts bs us m p1 p2):Rep K H (.ref t) (alkD m p1 p2):=
 Ta x.t (.str _) (zG x.s x.ls λj a h=>Tb (x.sa j a h) (.int _) (.int _)) (zG x.b x.lb λj a h=>Fg (x.ba j a h)) (zG x.u x.lu λj a h=>Fg (x.ua j a h))
theorem xc {α:Type} {f:α->Dt} {n:Nat} (h:∀x,depD (f x)<=n):∀l:ee α,ml (l.map f)<=n
 | []=>VY _
 | x::l=>by
   rw[W5,ml];have h1:=h x;have h2:=xc h l;omega
theorem FJ (l:B'):ml (l.map natD)=0:=Nat.le_zero.mp (xc (λ_=>VY _) l)
theorem OI (m:Nat) (p1 p2:A'):depD (alkD m p1 p2)<=100:=by
 unfold alkD;have h1:∀l:B',ml (l.map λj=>Dt.tup [natD (M.lo p1.length ((M.prs2 p1 p2 m).getD j 0)),natD ((M.prs2 p1 p2 m).getD j 0>>>p1.length)])<=1:=xc λx=>by unfold natD;simp[depD,ml]
 have h2:∀l:B',ml (l.map λj=>Dt.lst ((M.pl 1000 (sfq (M.prs2 p1 p2 m) (M.tr2 (M.jn p1 p2) 0 (2 ^ j)))).map natD))<=1:=xc λx=>by show depD (Dt.lst (Y5 natD _))<=1;rw[depD,FJ];decide
 have L:∀l:B',ml (l.map λj=>Dt.lst ((M.pl 1000 (sfq (M.prs2 p1 p2 m) (M.tr2 (M.jn p1 p2) ((M.prs2 p1 p2 m).getD j 0) 0))).map natD))<=1:=xc λx=>by show depD (Dt.lst (Y5 natD _))<=1;rw[depD,FJ];decide
 have a1:=h1 (lj (M.prs2 p1 p2 m).length);have a2:=h2 (lj m);have O:=L (lj (M.prs2 p1 p2 m).length);simp only[depD,ml];omega
theorem FndC.two {K:ak} {H:Hp} {t t':dt} {N:Nt} {w:mu} (ω:(tbN N).1.length=N.sts.length) (L:(tbC N w).1.length=N.sts.length) (x:FndC H t N w) (y:FndC H t' N w):∃d,Rep K H (.ref t) d/\Rep K H (.ref t') d/\depD d<=100:=by
 rcases x with ⟨Z,τ,Y,ts,bs,us,al,γ⟩ | ⟨ν,ξ,ζ,e⟩
 ·rcases y with ⟨θ,ι,η,δ,ε,β,al',α⟩ | ⟨ρ,π,O,ο⟩
  ·exact⟨_,γ.rep,α.rep,OI _ _ _⟩
  ·exact(O.not (by rw[ω,L];exact al)).elim
 ·rcases y with ⟨θ,ι,η,δ,ε,β,al',α⟩ | ⟨ρ,π,O,ο⟩
  ·exact(ζ.not (by rw[ω,L];exact al')).elim
  ·obtain⟨rfl,rfl⟩:=ζ.uniq O
   have r:∀{q:dt},H q=ag (.tup [.str "apart",nat ν,nat ξ])->Rep K H (.ref q) (.tup [.str "apart",natD ν,natD ξ]):=λ{q} h=> .tup (SqT.of h) rfl λi x y h1 h2=>by
    match i,h1,h2 with
    | 0,h1,h2=>cases h1;cases h2;exact .str _
    | 1,h1,h2=>cases h1;cases h2;exact .int _
    | 2,h1,h2=>cases h1;cases h2;exact .int _
    | i + 3,h1,_=>simp at h1
   exact⟨_,r e,r ο,by unfold natD;simp[depD,ml]⟩
theorem FndC.unread {H:Hp} {t:dt} {N:Nt} {w:mu} (h:tbC N w=tbN N) (x:FndC H t N w):∃a b c,H t=ag (.tup [.str "alike",.ref a,.ref b,.ref c]):=by
 rcases x with ⟨Z,α,Y,ts,bs,us,al,γ⟩ | ⟨L,O,ζ,e⟩
 ·exact⟨_,_,_,γ.t⟩
 ·rw[h] at ζ;exact hB rfl ζ.un
end Sx
namespace My
open PySem L2 Sx
local macro_rules | `(tactic| walk_at "o") =>`(tactic| first | exact Yj rfl | exact XS rfl)
local macro_rules | `(tactic| walk_at "s") =>`(tactic| exact ⟨rfl,rfl,rfl,by decide +kernel,rfl,by decide +kernel,by decide +kernel⟩)
local macro_rules | `(tactic| walk_at "n") =>`(tactic| (intro vs H Q E h;repeat (first | (obtain ⟨e,_⟩:=h;subst e;rfl) | (obtain ⟨_,h⟩:=h))))
local macro_rules | `(tactic| walk_at "l2side") =>`(tactic| first | assumption | rfl | omega | decide | ((try dsimp only [CDiv,VP,CPow,CMul]);first | omega | decide | (refine (⟨?_,?_⟩)<;>first | omega | decide) | (refine (⟨?_,?_,?_⟩)<;>first | omega | decide) | (left;refine (⟨?_,?_⟩)<;>first | omega | decide) | (right;refine (⟨?_,?_⟩)<;>first | omega | decide)))
local macro_rules | `(tactic| walk_at "l2len") =>`(tactic| ((with_reducible show _ + _≤ix);first | assumption | (rw [lT];omega) | omega))
local macro_rules | `(tactic| walk_at "l2at") =>`(tactic| first | assumption | exact aD | (refine' Same.get (by assumption) ?h;(case h=>walk_at "l2at")))
local macro_rules | `(tactic| walk_at "l2hp") =>`(tactic| first | walk_at "l2at")
local macro_rules | `(tactic| walk_at "l2hp") =>`(tactic| first | (refine' Same.tup (by assumption) ?h;(case h=>walk_at "l2hp")) | (refine' Rep.same (by assumption) ?h;(case h=>walk_at "l2hp")))
local macro_rules | `(tactic| walk_at "l2hp") =>`(tactic| first | assumption | (refine' SqL.of ?h;(case h=>walk_at "l2at")) | (refine' SqT.of ?h;(case h=>walk_at "l2at")) | (refine' Same.seq (by assumption) ?h;(case h=>walk_at "l2hp")))
local macro_rules | `(tactic| walk_at "l2kind") =>`(tactic| first | assumption | exact rfl | (refine' Yj ⟨rfl,_,?e⟩;(case e=>walk_at "l2hp")) | (refine' XS (Yj ⟨rfl,_,?e⟩);(case e=>walk_at "l2hp")) | (refine' XS (XS ⟨rfl,_,Yj ?e⟩);(case e=>walk_at "l2hp")))
local macro_rules | `(tactic| walk_at "l2step") =>`(tactic| first | ((with_reducible refine' s_go ?e ?_);(case e=>assumption)))
local macro_rules | `(tactic| walk_at "l2step") =>`(tactic| first | (with_reducible refine(⟨_,rfl,?_⟩)) | (with_reducible refine(⟨rfl,?_⟩)) | ((with_reducible refine' (⟨⟨_,?e⟩,?_⟩));(case e=>walk_at "l2hp")))
local macro_rules | `(tactic| walk_at "l2step") =>`(tactic| first | (with_reducible refine(⟨_,_,rfl,rfl,?_⟩);(with_reducible refine(⟨?l,?_⟩));(case l=>walk_at "l2len")) | (with_reducible refine(⟨_,_,rfl,rfl,?_⟩)) | (with_reducible refine Yj ⟨_,rfl,?_⟩) | (with_reducible refine XS ⟨_,rfl,?_⟩))
local macro_rules | `(tactic| walk_at "l2step") =>`(tactic| first | (with_reducible refine S3 ?_) | ((with_reducible refine' pK ?e ?_);(case e=>first | rfl | decide | assumption)) | ((with_reducible refine' j9 ?e ?_);(case e=>first | rfl | decide | assumption)) | ((with_reducible refine' NO ?a ?b ?_);(case a=>omega);(case b=>omega)))
local macro_rules | `(tactic| walk_at "l2step") =>`(tactic| first | (with_reducible refine QK ?_) | (with_reducible refine s_intB ?_) | (with_reducible refine s_inS ?_) | ((with_reducible refine' s_addS ?e ?_);(case e=>walk_at "l2side")))
local macro_rules | `(tactic| walk_at "l2step") =>`(tactic| first | (with_reducible refine S0 ?_) | (with_reducible refine Vs ?_) | (with_reducible refine Vg ?_) | (with_reducible refine SD ?_))
local macro_rules | `(tactic| walk_at "l2step") =>`(tactic| first | ((with_reducible refine' SU ?e ?_);(case e=>walk_at "l2hp")) | ((with_reducible refine' SR ?e ?_);(case e=>walk_at "l2hp")) | ((with_reducible refine' SS ?e ?_);(case e=>walk_at "l2side")) | ((with_reducible refine' Vr ?e ?m ?_);(case e=>walk_at "l2kind");(case m=>decide)))
local macro_rules | `(tactic| walk_at "l2step") =>`(tactic| first | ((with_reducible refine' Vq ?e ?a ?_);(case e=>walk_at "l2hp");(case a=>first | assumption | rfl)) | ((with_reducible refine' Vp ?e ?a ?_);(case e=>walk_at "l2hp");(case a=>first | assumption | rfl)) | ((with_reducible refine' s_ty ?e ?_);(case e=>first | exact rfl | (refine' Yj ⟨rfl,_,?f⟩;(case f=>walk_at "l2hp")) | (refine' XS (XS (Yj ⟨rfl,Yj ⟨_,?f⟩⟩));(case f=>walk_at "l2hp")))) | (with_reducible refine S4 ?_))
local macro_rules | `(tactic| walk_at "l2step") =>`(tactic| first | ((with_reducible refine' SL ?l ?_);(case l=>exact KS (ag8 rfl))) | ((with_reducible refine' SK ?l ?_);(case l=>exact KS (ag8 rfl))) | ((with_reducible refine' Vj ?e ?_);(case e=>walk_at "l2hp")) | ((with_reducible refine' s_slS ?e ?_);(case e=>walk_at "l2side")))
local macro_rules | `(tactic| walk_at "l2step") =>`(tactic| first | (with_reducible refine SX ?_) | ((with_reducible refine' SW ?e ?l ?_);(case e=>walk_at "l2hp");(case l=>rfl)) | (with_reducible refine Vi ?_) | (with_reducible refine Vo ?_))
local macro_rules | `(tactic| walk_at "l2step") =>`(tactic| first | ((with_reducible refine' Vk ?e ?_);(case e=>rfl)) | (with_reducible refine s_leS ?_) | ((with_reducible refine' QI ?e ?_);(case e=>repeat constructor)) | (with_reducible refine QJ ?_))
local macro_rules | `(tactic| walk_at "l2step") =>`(tactic| first | (with_reducible refine Vl ?_) | ((with_reducible refine' s_rI ?e ?_);(case e=>walk_at "l2side")) | (with_reducible refine s_rU ?_) | ((with_reducible refine' Vm ?e ?_);(case e=>rfl)))
local macro_rules | `(tactic| walk_at "l2step") =>`(tactic| first | ((with_reducible refine SG ?_);intro _ _) | (with_reducible refine SJ ?_) | ((with_reducible refine' Vh ?e ?_);(case e=>repeat constructor)) | (with_reducible refine QO ?_))
local macro_rules | `(tactic| walk_at "l2") =>`(tactic| repeat walk_at "l2step")
local macro_rules | `(tactic| walk_at "l2step") =>`(tactic| first | ((with_reducible refine' SA ?e ?_);(case e=>walk_at "l2hp")))
local macro_rules | `(tactic| walk_at "l2step") =>`(tactic| first | ((with_reducible refine' QF ?e ?_);(case e=>walk_at "l2hp")) | ((with_reducible refine' QE ?e ?_);(case e=>walk_at "l2hp")) | ((with_reducible refine' SB ?e ?_);(case e=>walk_at "l2hp")))
local macro_rules | `(tactic| walk_at "l2step") =>`(tactic| first | (with_reducible refine SM ?_) | (with_reducible refine SY ?_) | (with_reducible refine S2 ?_) | (with_reducible refine JV ?_))
local macro_rules | `(tactic| walk_at "l2step") =>`(tactic| first | (with_reducible refine NJ ?_) | (with_reducible refine Vt ?_) | (with_reducible refine SN ?_) | (with_reducible refine NK ?_))
local macro_rules | `(tactic| walk_at "l2step") =>`(tactic| first | (with_reducible refine Vu ?_) | (with_reducible refine SZ ?_) | (with_reducible refine s_disp1I ?_) | ((with_reducible refine' QG ?e ?_);(case e=>walk_at "l2at")))
local macro_rules | `(tactic| walk_at "l2step") =>`(tactic| first | (with_reducible refine QD ?_) | (with_reducible refine SC ?_) | (with_reducible refine QN ?_))
noncomputable def top (i:Nat):Stmt:=PySem.Challenge.pw_sumwires_k85_whole_cuts_shown.main.body.getD i (.Pass ⟨0,0,0,0⟩)
noncomputable abbrev vA:Stmt:=top 3
theorem Df:au ["thing","depth"] ["thing","depth"] (ah vA):=by walk_at "s"
noncomputable abbrev hU:Stmt:=bo (top 9) 0
theorem pH:au ["self","name"] ["self","name"] (ah hU):=by walk_at "s"
noncomputable abbrev g9:Stmt:=bo (top 10) 0
theorem pG:au ["self","name"] ["self","name"] (ah g9):=by walk_at "s"
noncomputable abbrev iq:Stmt:=bo (top 11) 0
theorem qy:au ["self","name"] ["self","name"] (ah iq):=by walk_at "s"
noncomputable abbrev sE:Stmt:=top 17
theorem Dh:au ["thing"] ["thing"] (ah sE):=by walk_at "s"
noncomputable abbrev vC:Stmt:=top 18
theorem Gz:au ["thing","width"] ["thing","width"] (ah vC):=by walk_at "s"
noncomputable abbrev qK:Stmt:=top 19
theorem Gy:au ["thing"] ["thing"] (ah qK):=by walk_at "s"
noncomputable abbrev JW:Stmt:=top 20
theorem vj:au ["number","width","half"] ["number"] (ah JW):=by walk_at "s"
noncomputable abbrev qP:Stmt:=top 21
theorem GA:au ["mask"] ["mask"] (ah qP):=by walk_at "s"
noncomputable abbrev vz:Stmt:=top 22
theorem oi:au ["places","mask","place"] ["places"] (ah vz):=by walk_at "s"
noncomputable abbrev i3:Stmt:=bo (top 24) 0
theorem ip:au ["self","rows","place","row"] ["self","rows"] (ah i3):=by walk_at "s"
noncomputable abbrev jC:Stmt:=bo (top 24) 1
theorem eA:au ["self","mask","places","found"] ["self","mask"] (ah jC):=by walk_at "s"
noncomputable abbrev pR:Stmt:=bo (top 24) 2
theorem nh:au ["self","place","row","found","places"] ["self","place","row"] (ah pR):=by walk_at "s"
noncomputable abbrev jD:Stmt:=bo (top 24) 3
theorem gx:au ["self","bit","mask","top"] ["self","bit"] (ah jD):=by walk_at "s"
noncomputable abbrev J0:Stmt:=top 25
theorem QA:au ["rows"] ["rows"] (ah J0):=by walk_at "s"
noncomputable abbrev vy:Stmt:=top 26
theorem sk:au ["rows","wish","steps","found"] ["rows","wish"] (ah vy):=by walk_at "s"
noncomputable abbrev pJ:Stmt:=top 28
theorem m9:au ["one","other","pair","row","width","low"] ["one","other","pair","row"] (ah pJ):=by walk_at "s"
noncomputable abbrev gf:Stmt:=top 29
theorem c7:au ["one","other","turns","inputs","ones","others","turn","which"] ["one","other"] (ah gf):=by walk_at "s"
noncomputable abbrev dS:Stmt:=top 30
theorem eu:au ["one","other","pairs","told","turn"] ["one","other"] (ah dS):=by walk_at "s"
noncomputable abbrev jr:Stmt:=top 31
theorem gA:au ["one","other","apart","pairs","begins","sums","width","states"] ["one","other"] (ah jr):=by walk_at "s"
noncomputable abbrev jA:Stmt:=bo (top 33) 0
theorem uk:au ["self","name"] ["self","name"] (ah jA):=by walk_at "s"
noncomputable abbrev iu:Stmt:=bo (top 34) 0
theorem qC:au ["self","name","number"] ["self","name","number"] (ah iu):=by walk_at "s"
noncomputable abbrev nD:Stmt:=bo (top 34) 2
theorem zy:au ["self","known","row","state"] ["self","known","row","state"] (ah nD):=by walk_at "s"
noncomputable abbrev l6:Stmt:=bo (top 34) 3
theorem xT:au ["self","known"] ["self","known"] (ah l6):=by walk_at "s"
noncomputable abbrev g7:Stmt:=bo (top 35) 0
theorem pE:au ["self","name","wires"] ["self","name","wires"] (ah g7):=by walk_at "s"
noncomputable abbrev l3:Stmt:=bo (top 35) 3
theorem iI:au ["self","known","row","state","total","wire"] ["self","known","row","state"] (ah l3):=by walk_at "s"
noncomputable abbrev kK:Stmt:=bo (top 35) 4
theorem c8:au ["self","known","store_mask","input_mask","wire","pair"] ["self","known"] (ah kK):=by walk_at "s"
noncomputable abbrev fZ:Stmt:=bo (top 36) 0
theorem ng:au ["self","name","wire","number"] ["self","name","wire","number"] (ah fZ):=by walk_at "s"
noncomputable abbrev jB:Stmt:=bo (top 36) 2
theorem um:au ["self","known","row","state"] ["self","known","row","state"] (ah jB):=by walk_at "s"
noncomputable abbrev i0:Stmt:=bo (top 36) 3
theorem su:au ["self","known"] ["self","known"] (ah i0):=by walk_at "s"
noncomputable abbrev jf:Stmt:=top 43
theorem xQ:au ["ins","sums","stores","outs"] ["ins","sums","stores","outs"] (ah jf):=by walk_at "s"
noncomputable abbrev lY:Stmt:=top 44
theorem kI:au ["names","known","name"] ["names"] (ah lY):=by walk_at "s"
noncomputable abbrev nq:Stmt:=top 45
theorem zw:au ["wire","known"] ["wire","known"] (ah nq):=by walk_at "s"
noncomputable abbrev lX:Stmt:=top 46
theorem gc:au ["sums","stores","outs","known","row","wire"] ["sums","stores","outs","known"] (ah lX):=by walk_at "s"
noncomputable abbrev c9:Stmt:=top 47
theorem mz:au ["ins","sums","stores","wires"] ["ins","sums","stores"] (ah c9):=by walk_at "s"
noncomputable abbrev zA:Stmt:=top 48
theorem NH:au ["row","waiting"] ["row","waiting"] (ah zA):=by walk_at "s"
noncomputable abbrev nj:Stmt:=top 50
theorem jq:au ["sums","names","left","waiting","ready"] ["sums"] (ah nj):=by walk_at "s"
noncomputable abbrev dE:Stmt:=bo (top 51) 0
theorem vq:au ["self","ins","sums","stores","outs"] ["self","ins","sums","stores","outs"] (ah dE):=by walk_at "s"
noncomputable abbrev kO:Stmt:=bo (top 51) 1
theorem vp:au ["self"] ["self"] (ah kO):=by walk_at "s"
noncomputable abbrev kN:Stmt:=bo (top 51) 2
theorem vo:au ["self"] ["self"] (ah kN):=by walk_at "s"
noncomputable abbrev i5:Stmt:=bo (top 51) 3
theorem sC:au ["self"] ["self"] (ah i5):=by walk_at "s"
noncomputable abbrev jE:Stmt:=bo (top 51) 4
theorem uo:au ["self"] ["self"] (ah jE):=by walk_at "s"
noncomputable abbrev i4:Stmt:=bo (top 51) 6
theorem sy:au ["self"] ["self"] (ah i4):=by walk_at "s"
noncomputable abbrev l5:Stmt:=bo (top 51) 7
theorem xR:au ["self","name"] ["self","name"] (ah l5):=by walk_at "s"
noncomputable abbrev d0:Stmt:=bo (top 51) 9
theorem oK:au ["self"] ["self"] (ah d0):=by walk_at "s"
noncomputable abbrev vB:Stmt:=top 56
theorem Gx:au ["thing","stores","inputs"] ["thing","stores","inputs"] (ah vB):=by walk_at "s"
noncomputable abbrev je:Stmt:=top 57
theorem xP:au ["inputs","nexts","outs"] ["inputs","nexts","outs"] (ah je):=by walk_at "s"
noncomputable abbrev zD:Stmt:=top 58
theorem JQ:au ["pair","state","row"] ["pair","state","row"] (ah zD):=by walk_at "s"
noncomputable abbrev ka:Stmt:=top 59
theorem zu:au ["pairs","state","row"] ["pairs","state","row"] (ah ka):=by walk_at "s"
noncomputable abbrev g8:Stmt:=bo (top 60) 0
theorem pF:au ["self","inputs","nexts","outs"] ["self","inputs","nexts","outs"] (ah g8):=by walk_at "s"
noncomputable abbrev i7:Stmt:=bo (top 60) 1
theorem sD:au ["self"] ["self"] (ah i7):=by walk_at "s"
noncomputable abbrev ir:Stmt:=bo (top 60) 2
theorem qz:au ["self"] ["self"] (ah ir):=by walk_at "s"
noncomputable abbrev kP:Stmt:=bo (top 60) 3
theorem vt:au ["self"] ["self"] (ah kP):=by walk_at "s"
noncomputable abbrev fg:Stmt:=bo (top 60) 4
theorem mQ:au ["self","state"] ["self","state"] (ah fg):=by walk_at "s"
noncomputable abbrev kQ:Stmt:=bo (top 60) 5
theorem vv:au ["self","state","row"] ["self","state","row"] (ah kQ):=by walk_at "s"
noncomputable abbrev i6:Stmt:=bo (top 60) 6
theorem dR:au ["self","rows","state","answers","row","done"] ["self","rows","state"] (ah i6):=by walk_at "s"
noncomputable abbrev fM:Stmt:=bo (top 60) 7
theorem xS:au ["self","rows","state"] ["self","rows","state"] (ah fM):=by walk_at "s"
noncomputable abbrev i8:Stmt:=bo (top 60) 9
theorem kW:au ["self","which","turns","rows"] ["self","which","turns"] (ah i8):=by walk_at "s"
noncomputable abbrev Di:Stmt:=top 62
theorem zv:au ["net","pairs","name"] ["net"] (ah Di):=by walk_at "s"
noncomputable abbrev kX:Stmt:=top 63
theorem lS:au ["net","pairs","nexts","outs"] ["net"] (ah kX):=by walk_at "s"
noncomputable abbrev qH:Stmt:=top 65
theorem Gv:au ["wires","wire","fresh"] ["wires","wire","fresh"] (ah qH):=by walk_at "s"
noncomputable abbrev s_cut:Stmt:=top 66
theorem JR:au ["net","wire","fresh","sums","stores"] ["net","wire","fresh"] (ah s_cut):=by walk_at "s"
noncomputable abbrev jy:Stmt:=top 67
theorem nc:au ["net","known","names"] ["net"] (ah jy):=by walk_at "s"
noncomputable abbrev pM:Stmt:=top 68
theorem AX:au ["net","wire"] ["net","wire"] (ah pM):=by walk_at "s"
noncomputable abbrev pI:Stmt:=top 70
theorem m8:au ["net","row","state","bits","name"] ["net","row","state"] (ah pI):=by walk_at "s"
noncomputable abbrev qI:Stmt:=top 71
theorem Gw:au ["wires","bits"] ["wires","bits"] (ah qI):=by walk_at "s"
noncomputable abbrev kM:Stmt:=bo (top 72) 0
theorem vn:au ["self","net"] ["self","net"] (ah kM):=by walk_at "s"
noncomputable abbrev oj:Stmt:=bo (top 72) 1
theorem vk:au ["self","row","answer"] ["self","row"] (ah oj):=by walk_at "s"
noncomputable abbrev kL:Stmt:=bo (top 72) 4
theorem vm:au ["self"] ["self"] (ah kL):=by walk_at "s"
noncomputable abbrev nu:Stmt:=top 73
theorem lU:au ["net","rows","going","row"] ["net","rows"] (ah nu):=by walk_at "s"
noncomputable abbrev pP:Stmt:=top 75
theorem AZ:au ["_law_script","_law_k"] ["_law_script","_law_k"] (ah pP):=by walk_at "s"
noncomputable abbrev sH:Stmt:=top 76
theorem pD:au ["_law_cell_here","_law_k","_law_number"] ["_law_cell_here","_law_k"] (ah sH):=by walk_at "s"
noncomputable abbrev nC:Stmt:=top 77
theorem g5:au ["_law_cell_here","_law_start","_law_many","_law_width","_law_digits","_law_found","_law_left","_law_k"] ["_law_cell_here","_law_start","_law_many","_law_width","_law_digits"] (ah nC):=by walk_at "s"
noncomputable abbrev pO:Stmt:=top 78
theorem dZ:au ["_law_cell_here","_law_k","_law_letters","_law_some"] ["_law_cell_here","_law_k"] (ah pO):=by walk_at "s"
noncomputable abbrev kb:Stmt:=top 79
theorem fL:au ["_law_cell_here","_law_start","_law_names","_law_digits","_law_left","_law_found","_law_k","_law_many"] ["_law_cell_here","_law_start","_law_names","_law_digits"] (ah kb):=by walk_at "s"
noncomputable abbrev jt:Stmt:=top 80
theorem bw:au ["_law_script","_law_start","_law_most","_law_cell_here","_law_sizes","_law_ins","_law_stores","_law_known","_law_sums","_law_k","_law_wires_here","_law_at","_law_ends","_law_name_here","_law_outs"] ["_law_script","_law_start","_law_most"] (ah jt):=by walk_at "s"
noncomputable abbrev pN:Stmt:=top 81
theorem AY:au ["_law_cell_here","_law_many","_law_width"] ["_law_cell_here","_law_many","_law_width"] (ah pN):=by walk_at "s"
noncomputable abbrev nv:Stmt:=top 82
theorem cR:au ["_law_found","_law_net_one","_law_net_two","_law_inputs","_law_cells","_law_which","_law_turns","_law_number","_law_rows_here","_law_one","_law_other","_law_cell_here"] ["_law_found","_law_net_one","_law_net_two","_law_inputs","_law_cells"] (ah nv):=by walk_at "s"
noncomputable abbrev sG:Stmt:=top 83
theorem lW:au ["_law_number","_law_many"] ["_law_number"] (ah sG):=by walk_at "s"
noncomputable abbrev pQ:Stmt:=top 84
theorem iQ:au ["_law_pairs","_law_state","_law_row","_law_found","_law_k","_law_pair"] ["_law_pairs","_law_state","_law_row"] (ah pQ):=by walk_at "s"
noncomputable abbrev jz:Stmt:=top 85
theorem gw:au ["_law_one","_law_other","_law_pair","_law_row","_law_goals","_law_total","_law_goal"] ["_law_one","_law_other","_law_pair","_law_row","_law_goals"] (ah jz):=by walk_at "s"
noncomputable abbrev dU:Stmt:=top 86
theorem bG:au ["_law_found","_law_one","_law_other","_law_pairs","_law_begins","_law_sums","_law_which","_law_places","_law_pair"] ["_law_found","_law_one","_law_other"] (ah dU):=by walk_at "s"
noncomputable abbrev ny:Stmt:=top 87
theorem lV:au ["_law_found","_law_net_one","_law_net_two","_law_inputs","_law_cells","_law_cell_here","_law_rows_here"] ["_law_found","_law_net_one","_law_net_two","_law_inputs","_law_cells"] (ah ny):=by walk_at "s"
noncomputable abbrev iJ:Stmt:=top 88
theorem eZ:au ["_law_lists","_law_wire","_law_read","_law_name_here","_law_wires_here"] ["_law_lists","_law_wire"] (ah iJ):=by walk_at "s"
noncomputable abbrev kJ:Stmt:=top 89
theorem g0:au ["_law_net_one","_law_name_here","_law_told","e"] ["_law_net_one","_law_name_here"] (ah kJ):=by walk_at "s"
noncomputable abbrev lZ:Stmt:=top 90
theorem ff:au ["_law_lists","_law_sums","_law_k","_law_net_one","_law_refused","_law_some"] ["_law_lists"] (ah lZ):=by walk_at "s"
noncomputable abbrev GD:Stmt:=top 91
theorem qx:au ["_law_script","_law_lists","_law_net_one","_law_names","_law_cells","_law_cell_here","_law_fresh","_law_wire","_law_found"] ["_law_script"] (ah GD):=by walk_at "s"
noncomputable abbrev FR (K:ak) (x q:mu) (st:Xs) (f:dt):Prop:=∃(Z:ic) (od:F') (kV υ Y:ic) (an:F') (L ct:ic) (O:Cr),K.lookup f=ag ⟨Z,od,.func (Wg x q (iG st) (fE st) (ah st) .none kV υ Y an L ct),O⟩/\Xg K L q=true/\W3 K (.ref f)=true
theorem FR.mk {K:ak} {x q:mu} {st:Xs} {f:dt} {Z:ic} {od:F'} {kV υ Y:ic} {an:F'} {L ct:ic} {O:Cr} (h1:K.lookup f=ag ⟨Z,od,.func (Wg x q (iG st) (fE st) (ah st) .none kV υ Y an L ct),O⟩) (h2:Xg K L q=true) (α:W3 K (.ref f)=true):FR K x q st f:=⟨_,_,_,_,_,_,_,_,_,h1,h2,α⟩
structure FT (K:ak) (x q:mu) (st:Xs) (f:dt) (d:hE) (ps:B1):Prop where
 F:Fun K x q st f d
 b:mx K d ps []
theorem FR.ok {K:ak} {x q:mu} {st:Xs} {f:dt} {ps:B1} (h:FR K x q st f) (g:∀(kV υ O:ic) (an:F') (L ct:ic) (us:CD),us.length=ps.length->bindArgs (Wg x q (iG st) (fE st) (ah st) .none kV υ O an L ct) ⟨us,[]⟩=pure (ps.zip us)):∃d,FT K x q st f d ps:=by
 obtain⟨_,_,_,_,_,_,_,_,_,h1,h2,Y⟩:=h;have F:=Pr (st:=st) h1 h2 Y;exact⟨_,F,F.binds g⟩
theorem ao {X:Cx} {CX:CXT} {k j:Nat} {f:dt} {fd:hE} {ps:B1} {sp:Sp} {E:XK} {x n q:mu} {st:Xs} {p pos:Pos} {e:L'} {es:ee L'} {t:TA} (F:FnOk X.prog X.w X.K X.mg X.base CX k f fd ps sp) (hr:Room j X.A) (hm:X.mg x=ag (.ref f)) (U:FT X.K n q st f fd ps)
  (ha:PA X (e::es) t) (hp:pq CX X E:=by exact cJ) (Y:k<=j:=by decide) (Z:Gl X x:=by rfl) (O:(x == ("__debug__":mu))=false:=by decide) (he:ll (e::es) X.env=(false,eval e X.env)::ll es X.env:=by rfl) (L:(backTo pos (ll es X.env)).any (·.1)=false:=by rfl):
  PE X (.Call (.Name x p) (e::es) [] pos) (Jh sp [] E t):=QW F (hr.mono Y) Z hm U.1.2 U.2 .nil hp ha O he L
noncomputable abbrev NI (K:ak) (x:mu) (f:dt):Prop:=ak8 K Q' x=ag (ag (.ref f))
noncomputable abbrev NN (K:ak) (x:mu):Prop:=ak8 K Q' x=ag fy
noncomputable abbrev FI (K:ak) (c:dt) (x:mu) (f:dt):Prop:=wh K (.ref c) x=ag (ag (.ref f))
noncomputable abbrev FN (K:ak) (c:dt) (x:mu):Prop:=wh K (.ref c) x=ag fy
theorem bln0 {l:ee W7} (h:l.length=0):l=[]:=List.eq_nil_of_length_eq_zero h
theorem bln1 {l:ee W7} (h:l.length=1):∃a,l=[a]:=List.length_eq_one_iff.mp h
theorem bln2 {l:ee W7} (h:l.length=2):∃a b,l=[a,b]:=by cases l with | nil=>cases h | cons a l=>obtain ⟨b,z⟩:=bln1 (Y8 h);exact ⟨a,b,z ▸ rfl⟩
theorem bln3 {l:ee W7} (h:l.length=3):∃a b c,l=[a,b,c]:=by cases l with | nil=>cases h | cons a l=>obtain ⟨b,c,z⟩:=bln2 (Y8 h);exact ⟨a,b,c,z ▸ rfl⟩
theorem bln4 {l:ee W7} (h:l.length=4):∃a b c d,l=[a,b,c,d]:=by cases l with | nil=>cases h | cons a l=>obtain ⟨b,c,d,z⟩:=bln3 (Y8 h);exact ⟨a,b,c,d,z ▸ rfl⟩
theorem bln5 {l:ee W7} (h:l.length=5):∃a b c d e,l=[a,b,c,d,e]:=by cases l with | nil=>cases h | cons a l=>obtain ⟨b,c,d,e,z⟩:=bln4 (Y8 h);exact ⟨a,b,c,d,e,z ▸ rfl⟩
theorem bln6 {l:ee W7} (h:l.length=6):∃a b c d e f,l=[a,b,c,d,e,f]:=by cases l with | nil=>cases h | cons a l=>obtain ⟨b,c,d,e,f,z⟩:=bln5 (Y8 h);exact ⟨a,b,c,d,e,f,z ▸ rfl⟩
theorem bln7 {l:ee W7} (h:l.length=7):∃a b c d e f g,l=[a,b,c,d,e,f,g]:=by cases l with | nil=>cases h | cons a l=>obtain ⟨b,c,d,e,f,g,z⟩:=bln6 (Y8 h);exact ⟨a,b,c,d,e,f,g,z ▸ rfl⟩
local macro_rules | `(tactic| walk_at "b") =>`(tactic| first | (refine fun _ _ _ _ _ _ us hl=>?_;obtain ⟨_,hz⟩:=bln1 hl;subst hz;rfl) | (refine fun _ _ _ _ _ _ us hl=>?_;obtain ⟨_,_,hz⟩:=bln2 hl;subst hz;rfl) | (refine fun _ _ _ _ _ _ us hl=>?_;obtain ⟨_,_,_,hz⟩:=bln3 hl;subst hz;rfl) | (refine fun _ _ _ _ _ _ us hl=>?_;obtain ⟨_,_,_,_,hz⟩:=bln4 hl;subst hz;rfl) | (refine fun _ _ _ _ _ _ us hl=>?_;obtain ⟨_,_,_,_,_,hz⟩:=bln5 hl;subst hz;rfl) | (refine fun _ _ _ _ _ _ us hl=>?_;obtain ⟨_,_,_,_,_,_,hz⟩:=bln6 hl;subst hz;rfl) | (refine fun _ _ _ _ _ _ us hl=>?_;obtain ⟨_,_,_,_,_,_,_,hz⟩:=bln7 hl;subst hz;rfl))
abbrev n10:B1:=["row"]
abbrev n11:B1:=["part","depth"]
abbrev n12:B1:=["row","waiting"]
abbrev n13:B1:=["thing","depth"]
abbrev n14:B1:=["ins","sums","stores","wires"]
abbrev n15:B1:=["self","ins","sums","stores","outs"]
abbrev n16:B1:=["_law_place","_law_pairs"]
abbrev n17:B1:=["row","wire","fresh"]
abbrev n18:B1:=["_law_k","_law_cell_here"]
abbrev n19:B1:=["place","pair","state","row"]
abbrev n20:B1:=["one","other","pairs","told","turn"]
abbrev n21:B1:=["one","other","apart","pairs","begins","sums","width","states"]
abbrev n22:B1:=["_law_name_here","_law_one"]
abbrev n23:B1:=["_law_script","_law_start","_law_most","_law_cell_here","_law_sizes","_law_ins","_law_stores","_law_known","_law_sums","_law_k","_law_wires_here","_law_at","_law_ends","_law_name_here","_law_outs"]
abbrev n24:B1:=["_law_found","_law_one","_law_other","_law_pairs","_law_begins","_law_sums","_law_which","_law_places","_law_pair"]
abbrev n25:B1:=["one","other","turns","inputs","ones","others","turn","which"]
abbrev n26:B1:=["_law_k","_law_names","_law_cell_here","_law_start"]
set_option genInjectivity false in
set_option genSizeOf false in
structure Ad where
 rL:dt
 FL:hE
 bI:dt
 kA:hE
 bH:dt
 kz:hE
 bW:dt
 lH:hE
 fP:dt
 oF:hE
 iT:dt
 xi:hE
 j2:dt
 Cj:hE
 w6:dt
 PB:hE
 j3:dt
 Ck:hE
 jX:dt
 Cf:hE
 bO:dt
 mH:hE
 bZ:dt
 nX:hE
 d8:dt
 xr:hE
 b0:dt
 nY:hE
 w8:dt
 PD:hE
 jU:dt
 Cc:hE
 gH:dt
 xh:hE
 dI:dt
 o3:hE
 di:dt
 nU:hE
 iC:dt
 zc:hE
 cF:dt
 dX:hE
 bD:dt
 lK:hE
 dB:dt
 uf:hE
 cU:dt
 rT:hE
 bp:dt
 kr:hE
 cS:dt
 rR:hE
 cq:dt
 o6:hE
 be:dt
 jd:hE
 bY:dt
 nW:hE
 bN:dt
 mG:hE
 d6:dt
 rP:hE
 d7:dt
 rQ:hE
 fo:dt
 t6:hE
 d4:dt
 rN:hE
 dh:dt
 nT:hE
 qh:dt
 Ma:hE
 jW:dt
 Ce:hE
 cy:dt
 pe:hE
 cx:dt
 pd:hE
 cw:dt
 o9:hE
 bQ:dt
 mJ:hE
 b4:dt
 nZ:hE
 bP:dt
 mI:hE
 cT:dt
 rS:hE
 bg:dt
 j4:hE
 jZ:dt
 Ci:hE
 d5:dt
 rO:hE
 mi:dt
 FM:hE
 fk:dt
 t5:hE
 bq:dt
 ku:hE
 bS:dt
 mL:hE
 bC:dt
 lI:hE
 cA:dt
 pf:hE
 a9:dt
 iU:hE
 cB:dt
 ph:hE
 bR:dt
 mK:hE
 cC:dt
 mm:hE
 mj:ic
 bT:dt
 mM:hE
 qi:dt
 Mc:hE
 iB:dt
 zb:hE
 jV:dt
 Cd:hE
 Et:dt
 UG:hE
 gI:dt
 xj:hE
 gJ:dt
 xk:hE
 gG:dt
 xg:hE
 jY:dt
 Cg:hE
 cv:dt
 o8:hE
 fQ:dt
 zg:hE
 cu:dt
 o7:hE
 fq:dt
 t8:hE
 gM:dt
 xp:hE
 iF:dt
 zf:hE
 fC:dt
 ue:hE
 fB:dt
 qj:hE
 fw:dt
 ub:hE
 iE:dt
 ze:hE
 gK:dt
 xl:hE
 fz:dt
 uc:hE
 iD:dt
 zd:hE
 gN:dt
 xq:hE
 dj:dt
 nV:hE
 cj:dt
 lG:hE
 fA:dt
 ud:hE
 dM:dt
 o5:hE
 dJ:dt
 o4:hE
 gL:dt
 xn:hE
 HE:dt
 UF:hE
 bE:dt
 rX:dt
 bc:dt
 aM:dt
 aB:dt
 cV:dt
 aw:dt
 gi:dt
 bU:dt
 tR:dt
 cf:dt
 fF:dt
 ju:dt
 cH:dt
 cG:dt
 aW:dt
 m5:Tok
 vh:Tok
 kH:Tok
 lQ:Tok
 sj:Tok
 fY:Tok
 iY:Tok
 eN:Tok
 gY:Tok
 pC:Tok
 m4:Tok
 mZ:Tok
open PySem.W in
structure Tx (K:Frag) (mg:CM) (a:Ad):Prop where
 mP:FT K "kept" "kept" vA a.rL a.FL ["thing","depth"]
 wR:mg "kept"=ag (.ref a.rL)
 eW:FT K "__init__" "BadName.__init__" hU a.bI a.kA ["self","name"]
 eV:FT K "__init__" "Doubled.__init__" g9 a.bH a.kz ["self","name"]
 fU:FT K "__init__" "NoWire.__init__" iq a.bW a.lH ["self","name"]
 jv:FT K "is_whole" "is_whole" sE a.fP a.oF ["thing"]
 tM:mg "is_whole"=ag (.ref a.fP)
 iW:FT K "is_mask" "is_mask" vC a.iT a.xi ["thing","width"]
 nP:mg "is_mask"=ag (.ref a.iT)
 lM:FT K "is_name" "is_name" qK a.j2 a.Cj ["thing"]
 wU:mg "is_name"=ag (.ref a.j2)
 zk:FT K "even" "even" JW a.w6 a.PB ["number"]
 Lv:mg "even"=ag (.ref a.w6)
 r9:FT K "bits_of" "bits_of" qP a.j3 a.Ck ["mask"]
 Lw:mg "bits_of"=ag (.ref a.j3)
 n5:FT K "mask_of" "mask_of" vz a.jX a.Cf ["places"]
 BN:mg "mask_of"=ag (.ref a.jX)
 eE:FT K "__init__" "Steps.__init__" i3 a.bO a.mH ["self","rows"]
 dY:FT K "lowered" "Steps.lowered" jC a.bZ a.nX ["self","mask"]
 j7:FT K "lay" "Steps.lay" pR a.d8 a.xr ["self","place","row"]
 fJ:FT K "barring" "Steps.barring" jD a.b0 a.nY ["self","bit"]
 FX:FT K "base" "base" J0 a.w8 a.PD ["rows"]
 Ur:mg "base"=ag (.ref a.w8)
 n4:FT K "sum_for" "sum_for" vy a.jU a.Cc ["rows","wish"]
 BM:mg "sum_for"=ag (.ref a.jU)
 gO:FT K "next_pair" "next_pair" pJ a.gH a.xh ["one","other","pair","row"]
 me:mg "next_pair"=ag (.ref a.gH)
 iN:FT K "first_unlike" "first_unlike" gf a.dI a.o3 ["one","other"]
 yH:mg "first_unlike"=ag (.ref a.dI)
 h9:FT K "pairs_come_to" "pairs_come_to" dS a.di a.nU ["one","other"]
 wQ:mg "pairs_come_to"=ag (.ref a.di)
 oI:FT K "compared" "compared" jr a.iC a.zc ["one","other"]
 Hz:mg "compared"=ag (.ref a.iC)
 dq:FT K "__init__" "Wire.__init__" jA a.cF a.dX ["self","name"]
 fV:FT K "__init__" "InWire.__init__" iu a.bD a.lK ["self","name","number"]
 iX:FT K "bit" "InWire.bit" nD a.dB a.uf ["self","known","row","state"]
 ig:FT K "hang" "InWire.hang" l6 a.cU a.rT ["self","known"]
 eS:FT K "__init__" "SumWire.__init__" g7 a.bp a.kr ["self","name","wires"]
 ib:FT K "bit" "SumWire.bit" l3 a.cS a.rR ["self","known","row","state"]
 gq:FT K "hang" "SumWire.hang" kK a.cq a.o6 ["self","known"]
 dQ:FT K "__init__" "StoreWire.__init__" fZ a.be a.jd ["self","name","wire","number"]
 fH:FT K "bit" "StoreWire.bit" jB a.bY a.nW ["self","known","row","state"]
 eC:FT K "hang" "StoreWire.hang" i0 a.bN a.mG ["self","known"]
 ia:FT K "check_sizes" "check_sizes" jf a.d6 a.rP ["ins","sums","stores","outs"]
 As:mg "check_sizes"=ag (.ref a.d6)
 jl:FT K "check_names" "check_names" lY a.d7 a.rQ ["names"]
 Au:mg "check_names"=ag (.ref a.d7)
 cI:FT K "check_wire" "check_wire" nq a.fo a.t6 ["wire","known"]
 kq:mg "check_wire"=ag (.ref a.fo)
 ji:FT K "check_wires" "check_wires" lX a.d4 a.rN ["sums","stores","outs","known"]
 Aq:mg "check_wires"=ag (.ref a.d4)
 h8:FT K "wires_by_name" "wires_by_name" c9 a.dh a.nT ["ins","sums","stores"]
 wN:mg "wires_by_name"=ag (.ref a.dh)
 xG:FT K "waits" "waits" zA a.qh a.Ma ["row","waiting"]
 Lr:mg "waits"=ag (.ref a.qh)
 r6:FT K "ordered" "ordered" nj a.jW a.Ce ["sums"]
 Ls:mg "ordered"=ag (.ref a.jW)
 eL:FT K "__init__" "Net.__init__" dE a.cy a.pe ["self","ins","sums","stores","outs"]
 dN:FT K "in_names" "Net.in_names" kO a.cx a.pd ["self"]
 gv:FT K "sum_rows" "Net.sum_rows" kN a.cw a.o9 ["self"]
 cN:FT K "store_rows" "Net.store_rows" i5 a.bQ a.mJ ["self"]
 dr:FT K "out_wires" "Net.out_wires" jE a.b4 a.nZ ["self"]
 b8:FT K "wire_names" "Net.wire_names" i4 a.bP a.mI ["self"]
 b5:FT K "wire_of" "Net.wire_of" l5 a.cT a.rS ["self","name"]
 ck:FT K "names_by_need" "Net.names_by_need" d0 a.bg a.j4 ["self"]
 r8:FT K "is_pair" "is_pair" vB a.jZ a.Ci ["thing","stores","inputs"]
 Lu:mg "is_pair"=ag (.ref a.jZ)
 jk:FT K "check_table" "check_table" je a.d5 a.rO ["inputs","nexts","outs"]
 Ar:mg "check_table"=ag (.ref a.d5)
 vd:FT K "is_odd" "is_odd" zD a.mi a.FM ["pair","state","row"]
 Ol:mg "is_odd"=ag (.ref a.mi)
 iV:FT K "odd_places" "odd_places" ka a.fk a.t5 ["pairs","state","row"]
 tY:mg "odd_places"=ag (.ref a.fk)
 eU:FT K "__init__" "Machine.__init__" g8 a.bq a.ku ["self","inputs","nexts","outs"]
 bz:FT K "stores" "Machine.stores" i7 a.bS a.mL ["self"]
 c6:FT K "outputs" "Machine.outputs" ir a.bC a.lI ["self"]
 eM:FT K "told" "Machine.told" kP a.cA a.pf ["self"]
 bX:FT K "check_state" "Machine.check_state" fg a.a9 a.iU ["self","state"]
 dO:FT K "step" "Machine.step" kQ a.cB a.ph ["self","state","row"]
 eG:FT K "walked" "Machine.walked" i6 a.bR a.mK ["self","rows","state"]
 ie:FunD K "run" "Machine.run" fM a.cC a.mm a.mj
 my:mx K a.mm ["self","rows","state"] [a.mj]
 zo:RelV (.int 0) a.mj
 dz:FT K "single" "Machine.single" i8 a.bT a.mM ["self","which","turns"]
 AJ:FT K "hangs" "hangs" Di a.qi a.Mc ["net"]
 Rq:mg "hangs"=ag (.ref a.qi)
 iH:FT K "table_of" "table_of" kX a.iB a.zb ["net"]
 oB:mg "table_of"=ag (.ref a.iB)
 lL:FT K "put_for" "put_for" qH a.jV a.Cd ["wires","wire","fresh"]
 wO:mg "put_for"=ag (.ref a.jV)
 EU:FT K "cut" "cut" s_cut a.Et a.UG ["net","wire","fresh"]
 Uq:mg "cut"=ag (.ref a.Et)
 mq:FT K "free_name" "free_name" jy a.gI a.xj ["net"]
 Ek:mg "free_name"=ag (.ref a.gI)
 dn:FT K "cut_shown" "cut_shown" pM a.gJ a.xk ["net","wire"]
 mf:mg "cut_shown"=ag (.ref a.gJ)
 mn:FT K "turn_bits" "turn_bits" pI a.gG a.xg ["net","row","state"]
 Ej:mg "turn_bits"=ag (.ref a.gG)
 n6:FT K "mask_at" "mask_at" qI a.jY a.Cg ["wires","bits"]
 BO:mg "mask_at"=ag (.ref a.jY)
 iP:FT K "__init__" "Run.__init__" kM a.cv a.o8 ["self","net"]
 lO:FT K "step" "Run.step" oj a.fQ a.zg ["self","row"]
 gu:FT K "answered" "Run.answered" kL a.cu a.o7 ["self"]
 dC:FT K "answers_of" "answers_of" nu a.fq a.t8 ["net","rows"]
 gU:mg "answers_of"=ag (.ref a.fq)
 j6:FT K "_law_cell" "_law_cell" pP a.gM a.xp ["_law_script","_law_k"]
 wW:mg "_law_cell"=ag (.ref a.gM)
 bj:FT K "_law_mix" "_law_mix" sH a.iF a.zf ["_law_cell_here","_law_k"]
 bJ:mg "_law_mix"=ag (.ref a.iF)
 kF:FT K "_law_masks" "_law_masks" nC a.fC a.ue ["_law_cell_here","_law_start","_law_many","_law_width","_law_digits"]
 BS:mg "_law_masks"=ag (.ref a.fC)
 eh:FT K "_law_name" "_law_name" pO a.fB a.qj ["_law_cell_here","_law_k"]
 jT:mg "_law_name"=ag (.ref a.fB)
 kC:FT K "_law_wires" "_law_wires" kb a.fw a.ub ["_law_cell_here","_law_start","_law_names","_law_digits"]
 BP:mg "_law_wires"=ag (.ref a.fw)
 oJ:FT K "_law_net" "_law_net" jt a.iE a.ze ["_law_script","_law_start","_law_most"]
 HA:mg "_law_net"=ag (.ref a.iE)
 j5:FT K "_law_rows" "_law_rows" pN a.gK a.xl ["_law_cell_here","_law_many","_law_width"]
 wV:mg "_law_rows"=ag (.ref a.gK)
 kD:FT K "_law_shown" "_law_shown" nv a.fz a.uc ["_law_found","_law_net_one","_law_net_two","_law_inputs","_law_cells"]
 BQ:mg "_law_shown"=ag (.ref a.fz)
 lN:FT K "_law_odd" "_law_odd" sG a.iD a.zd ["_law_number"]
 y8:mg "_law_odd"=ag (.ref a.iD)
 gP:FT K "_law_bits" "_law_bits" pQ a.gN a.xq ["_law_pairs","_law_state","_law_row"]
 mh:mg "_law_bits"=ag (.ref a.gN)
 fG:FT K "_law_followed" "_law_followed" jz a.dj a.nV ["_law_one","_law_other","_law_pair","_law_row","_law_goals"]
 nQ:mg "_law_followed"=ag (.ref a.dj)
 fT:FT K "_law_pairs_hold" "_law_pairs_hold" dU a.cj a.lG ["_law_found","_law_one","_law_other"]
 tN:mg "_law_pairs_hold"=ag (.ref a.cj)
 kE:FT K "_law_right" "_law_right" ny a.fA a.ud ["_law_found","_law_net_one","_law_net_two","_law_inputs","_law_cells"]
 BR:mg "_law_right"=ag (.ref a.fA)
 iO:FT K "_law_is_read" "_law_is_read" iJ a.dM a.o5 ["_law_lists","_law_wire"]
 yI:mg "_law_is_read"=ag (.ref a.dM)
 gm:FT K "_law_no_wire" "_law_no_wire" kJ a.dJ a.o4 ["_law_net_one","_law_name_here"]
 oY:mg "_law_no_wire"=ag (.ref a.dJ)
 mr:FT K "_law_full" "_law_full" lZ a.gL a.xn ["_law_lists"]
 El:mg "_law_full"=ag (.ref a.gL)
 OQ:Fun K "law" "law" GD a.HE a.UF
 Lz:mg "Steps"=ag (.ref a.bE)
 gQ:Cls K a.bE
 MN:Mk K a.bE a.bO
 nM:Meth K a.bE "lowered" a.bZ
 DU:Meth K a.bE "lay" a.d8
 vX:Meth K a.bE "barring" a.b0
 eI:bF K a.bE "by_top"
 gE:bF K a.bE "free_places"
 ko:bF K a.bE "null_masks"
 Lx:mg "Wire"=ag (.ref a.rX)
 Om:mg "InWire"=ag (.ref a.bc)
 mw:Cls K a.bc
 OO:Mk K a.bc a.bD
 Br:Meth K a.bc "bit" a.dB
 Ac:Meth K a.bc "hang" a.cU
 rz:bF K a.bc "name"
 jP:bF K a.bc "number"
 Ly:mg "SumWire"=ag (.ref a.aM)
 j8:Cls K a.aM
 MM:Mk K a.aM a.bp
 Aa:Meth K a.aM "bit" a.cS
 yi:Meth K a.aM "hang" a.cq
 oW:bF K a.aM "name"
 jO:bF K a.aM "wires"
 Em:mg "StoreWire"=ag (.ref a.aB)
 fK:Cls K a.aB
 ET:Mk K a.aB a.be
 vW:Meth K a.aB "bit" a.bY
 uB:Meth K a.aB "hang" a.bN
 mE:bF K a.aB "name"
 hZ:bF K a.aB "number"
 uA:bF K a.aB "wire"
 Rr:mg "Net"=ag (.ref a.cV)
 du:Cls K a.cV
 RU:Mk K a.cV a.cy
 kS:Meth K a.cV "in_names" a.cx
 yk:Meth K a.cV "sum_rows" a.cw
 jb:Meth K a.cV "store_rows" a.bQ
 jQ:Meth K a.cV "out_wires" a.b4
 gy:Meth K a.cV "wire_names" a.bP
 d3:Meth K a.cV "wire_of" a.cT
 jR:Meth K a.cV "names_by_need" a.bg
 h7:bF K a.cV "by_name"
 rq:bF K a.cV "ins"
 dW:bF K a.cV "kept_stores"
 sR:bF K a.cV "outs"
 nL:bF K a.cV "sum_order"
 lA:bF K a.cV "sums"
 LB:mg "Machine"=ag (.ref a.aw)
 aI:Cls K a.aw
 MO:Mk K a.aw a.bq
 dy:Meth K a.aw "stores" a.bS
 lB:Meth K a.aw "outputs" a.bC
 oX:Meth K a.aw "told" a.cA
 iS:Meth K a.aw "check_state" a.a9
 kT:Meth K a.aw "step" a.cB
 uC:Meth K a.aw "walked" a.bR
 Ab:Meth K a.aw "run" a.cC
 mF:Meth K a.aw "single" a.bT
 bL:bF K a.aw "inputs"
 fj:bF K a.aw "nexts"
 iK:bF K a.aw "outs"
 VE:mg "Run"=ag (.ref a.gi)
 n9:Cls K a.gi
 VO:Mk K a.gi a.cv
 G6:Meth K a.gi "step" a.fQ
 yj:Meth K a.gi "answered" a.cu
 oy:bF K a.gi "bits"
 p7:bF K a.gi "given"
 sQ:bF K a.gi "held"
 nK:bF K a.gi "net"
 dX:PV K a.rX "__init__" a.cF
 qg:mg "WireError"=ag (.ref a.bU)
 pA:UT K a.bU
 BU:mg "TooMany"=ag (.ref a.cf)
 mW:excIn K a.cf [.type "ValueError",.type "Exception",.type "BaseException",.type "object"] "ValueError.__new__"=true
 iw:mroIn K a.cf (.ref a.cf)=ag true
 Lq:tT K a.cf
 wX:mg "BadMask"=ag (.ref a.fF)
 jx:excIn K a.fF [.type "ValueError",.type "Exception",.type "BaseException",.type "object"] "ValueError.__new__"=true
 oC:mg "BadTable"=ag (.ref a.ju)
 gR:excIn K a.ju [.type "ValueError",.type "Exception",.type "BaseException",.type "object"] "ValueError.__new__"=true
 LF:mg "BadName"=ag (.ref a.cH)
 xF:XOwn K a.cH a.bU a.bI
 yh:bF K a.cH "name"
 LD:mg "Doubled"=ag (.ref a.cG)
 xE:XOwn K a.cG a.bU a.bH
 yg:bF K a.cG "name"
 FF:mg "NoWire"=ag (.ref a.aW)
 Oh:tT K a.aW
 AI:XOwn K a.aW a.bU a.bW
 OP:XIsi K a.aW
 wL:hasDictIn K a.aW=true
 jF:mroIn K a.aW (.ref a.aW)=ag true
 rp:bF K a.aW "name"
 nR:mg "KEPT_DEPTH"=ag (.int 12 a.m5)
 LC:mg "LETTERS"=ag (.str "abcdefghijklmnopqrstuvwxyz" a.vh)
 yJ:mg "LONGEST_NAME"=ag (.int 6 a.kH)
 Av:mg "MOST_INPUTS"=ag (.int 6 a.lQ)
 HC:mg "MOST_INS"=ag (.int 6 a.sj)
 oQ:mg "MOST_OUTS_machines"=ag (.int 6 a.fY)
 uS:mg "MOST_OUTS_nets"=ag (.int 6 a.iY)
 mU:mg "MOST_STORES_machines"=ag (.int 120 a.eN)
 rK:mg "MOST_STORES_nets"=ag (.int 16 a.gY)
 Eo:mg "MOST_SUMS"=ag (.int 40 a.pC)
 BW:mg "MOST_WIRES"=ag (.int 24 a.m4)
 BV:mg "NAME_SIGNS"=ag (.str "abcdefghijklmnopqrstuvwxyz0123456789" a.mZ)
 T9:mg "all"=fy
 T8:mg "any"=fy
 Pn:mg "bool"=fy
 Ft:mg "dict"=fy
 fi:mg "enumerate"=fy
 T7:mg "int"=fy
 bx:mg "isinstance"=fy
 eX:mg "len"=fy
 gT:mg "list"=fy
 VA:mg "min"=fy
 gD:mg "range"=fy
 G3:mg "reversed"=fy
 N5:mg "sorted"=fy
 KN:mg "str"=fy
 gC:mg "tuple"=fy
 Vz:mg "zip"=fy
section
variable {P:oT} {w:w7} {K:ak} {mg:CM} {base:N'} {a:Ad}
section
theorem pX (T:Tx K mg a):FnOk P w K mg base CX0 1 a.fP a.oF ["thing"] (uW K):=by
 refine T.jv.1.okA Dh λO A outer s H vs Q E Y h=>?_;obtain⟨x,k,rfl,hk,q⟩:=h;refine⟨_,((aj (ay (oU (aC (dm (K:=K) rfl) @D T.bx qa (!j 0 (aa (gB (v:= .ty "int") @D T.T7 ZX rfl) ae))) (tV (TH (aC (dm (K:=K) rfl) @D T.bx qa (!j 0 (aa (gB (v:= .ty "bool") @D T.Pn ZN rfl) ae))))))))),av (σ':=[ag _]) rfl ?_⟩;lia;unfold IW at q;cases L:subB k "int"
 ·rw[L] at q;lia;exact q
 ·rw[L] at q;lia;exact q
local macro_rules | `(tactic| walk_at "l2step") =>`(tactic| ((with_reducible refine' dw ?e ?_);(case e=>walk_at "l2kind")))
theorem ou (T:Tx K mg a):FnOk P w K mg base CX0 2 a.iT a.xi ["thing","width"] (C7 K):=by
 have L:FnOk P w K mg base CX0 1 a.fP a.oF ["thing"] (uW K):=pX T;refine T.iW.1.okA Gz λZ A outer s H vs Q E Y h=>?_;obtain⟨x,k,δ,rfl,hk,q⟩:=h;refine⟨_,((aj (ay (oU (ao L Y T.tM T.jv (!j 0 ae)) (oU (gb QZ (pv 0) ai (aU _)) (tV (gb Vy (pW (K:=K) rfl Wh VU VT p8 (pv 0)) (pv 1) (aU _)))))))),av (σ':=[ag _,ag _]) rfl ?_⟩;lia;cases x with
 | int i=>
   have hk:k="int":=hk;subst hk;lia;have q:Q (.bl (decide (0<=i)&&decide (((xo i:Nat):Int)<=δ))) H:=q;cases O:decide (0<=i)
   ·rw[O] at q;lia;exact q
   ·rw[O] at q;lia;exact q
 | bl b=>have hk:k="bool":=hk;subst hk;lia;exact q
 | non=>have hk:k="NoneType":=hk;subst hk;lia;exact q
 | str z=>have hk:k="str":=hk;subst hk;lia;exact q
 | ref p=>
   rcases hk with ⟨rfl,_⟩ | ⟨rfl,_⟩ | ⟨rfl,_⟩<;>lia<;>exact q
 | _=>exact y' hk
local macro_rules | `(tactic| walk_at "l2step") =>`(tactic| ((with_reducible refine' fX ?e ?_);(case e=>walk_at "l2kind")))
theorem DL (T:Tx K mg a):FnOk P w K mg base CX0 1 a.w6 a.PB ["number"] Qn:=by
 refine T.zk.1.okA vj fun ε A outer s H vs Q E ζ h=>?_;obtain⟨m,rfl,hm,q⟩:=h
 refine⟨_,((af (aA (i:=1) vj.nd rfl @E (pW (K:=K) rfl Wh VU VT p8 (pv 0)))
  (af (uY la (aJ qZ (pv 1) ai (aU _)) (af (aA (i:=2) vj.nd rfl @E (ax vJ (ax cE (pv 1) ai) ai))
  (af (aA (i:=0) vj.nd rfl @E (ax mB (ax yX (pv 0) (pv 2)) (ax nG (pv 0) (ax lh (ax gS ai (pv 2)) ai))))
  (aj (aA (i:=1) vj.nd rfl @E (pv 2))))))
  (aj (ay (gb mR (pv 0) ai (aU _))))))),av (σ':=[ag _,fy,fy]) rfl ?_⟩
 lia;refine⟨fun μ σ' H'=>∃n hf,σ'=[ag (nat n),ag (nat μ),hf]/\H'=H/\n < 2 ^ μ/\μ<=1000/\M.od n=M.od m,⟨xo (m:Int),m,fy,rfl,rfl,EB m,EC hm,rfl⟩,?_⟩;rintro μ σ' H' ⟨n,hf,rfl,rfl,hn,hw,hp⟩;lia;refine iteB (λO=>?_) (λO=>?_)
 ·have O:=WD O;have Z:(μ + 1) / 2 < μ:=by omega
  refine⟨fun ξ H2=>∃L hf,ξ=[ag (nat L),ag (nat ((μ + 1) / 2)),hf]/\H2=H'/\L < 2 ^ ((μ + 1) / 2)/\M.od L=M.od m,fun ξ H2 ⟨L,α,δ,γ,β,ρ⟩=>⟨(μ + 1) / 2,Z,L,α,δ,γ,β,@A,ρ⟩,?_⟩;lia;refine⟨(n>>>((μ + 1) / 2))^^^(n&&&(2 ^ ((μ + 1) / 2) - 1)),ag (nat ((μ + 1) / 2)),?_,rfl,M.fold_lt μ _ n hn @A,?_⟩
  ·rw[Lp,LR]
  ·rw[<-hp];have f:=M.pb_fold μ ((μ + 1) / 2) n @A hn @A;show M.pb 1000 _=M.pb 1000 _;rw[M.pb_up (M.fold_lt μ _ n hn @A) @A,f,<-M.pb_up hn hw]
 ·have O:=of_decide_eq_false O;have Y:n < 2:=hA hn (hL @C (show μ<=1 by omega));lia;rw[show decide (V.int (n:Int)=V.int 0)= !M.od n from N4 Y,hp];exact q
theorem uv (T:Tx K mg a):FnOk P w K mg base CX0 2 a.b0 a.nY ["self","bit"] (Sv a.bE):=by
 refine T.fJ.1.okA gx λa0 A outer s H vs Q E ρ h=>?_;obtain⟨p,d,f,n,rows,b,rfl,st,hb,ζ,β,δ,q⟩:=h;have χ:=qf ρ;obtain⟨dx,ho⟩:=st.ho;obtain⟨es,hd,ht,g,l⟩:=st.he;have nd:(es.map λe=>e.m.log2).Nodup:=by have:=g.nd;rw[y2] at this;exact this
 refine⟨_,((af (aA (i:=2) gx.nd rfl @E (ax gS ai (pv 1)))
  (af (de la rfl (aR (K:=K) rfl (aC (HW rfl) @D T.N5 PyProof.Rows.boot_sorted (aa (aH (K:=K) rfl (pv 0) rfl) ae))) (ar (i:=3) gx.nd rfl @E) (aj (cc (fW (cK (ao (DL T) ρ T.Lv T.zk (aa (ax nG (pv 2) (!A @H (nF χ (aH (K:=K) rfl (pv 0) rfl) (pv 3) (λ_ _=>rfl)) ai)) ae)))) (aj (aA (i:=2) gx.nd rfl @E (ax mB (pv 2) (ax gS ai (pv 3))))) aL)))
  (aj (ay (pv 2)))))),av (σ':=[ag _,ag _,fy,fy]) rfl ?_⟩
 lia;refine aG ho T.gQ T.eI rfl ?_;lia;refine QC hd (Oa es) (by unfold rJ;rw[a'];omega) λL ns H1 f1 ε υ hp hw=>?_;obtain⟨ts,rfl,up,mem⟩:=C2 hp hw nd;rw[<-Q9] at υ;lia;rw[shl1];refine eQ (xs:=ts.map nat) (λi σ H'=>∃(m:Nat) (v:pa V),σ=[ag (.ref p),ag (nat b),ag (nat m),v]/\H'=H1/\M.BarI (es.map λe=>(e.m,e.p)) (ts.take i) b m) ⟨2 ^ b,fy,rfl,rfl,M.BarI.zero _ b⟩ (λi σ H' _ ⟨_,_,_,e,_⟩=>by rw[e];exact SqL.of υ) ?_ ?_
 ·rintro i y σ H' φ ⟨m,v,rfl,rfl,I⟩;obtain⟨t,γ,rfl⟩:=aF φ;obtain⟨hi,π⟩:=b'.mp γ;rcases vg es (t:Int) with ⟨e,he,θ,ev⟩ | ⟨ο,_⟩
  ·have θ:e.m.log2=t:=by omega
   subst θ;have Z:(e.m,e.p)∈es.map (λe=>(e.m,e.p)):=ik.mpr ⟨e,he,rfl⟩;have α:e.m < 2 ^ 1000:=M.span_lt ζ (g.span Z);have η:e.m.log2 < 1000:=M.log2_under (g.nz _ Z) α;have ψ:=ε.get (ht e he)
   have ξ:∀t∈ts.take i,t < e.m.log2:=λt hm=>by
    obtain⟨j,ω,τ⟩:=Wp.mp hm;rw[sv] at ω;rw[Zy] at τ;have:=ac3.mp up j i @A hi @A;rw[τ,π] at this;exact this
   have ν:e.m.log2≠b:=δ e.m (g.span Z) (g.nz _ Z);have O:=g.nd;lia;refine aG (ε.get ho) T.gQ T.eI rfl ?_;lia;refine JY (ε.get hd) ev ?_;lia;rw[eK];refine⟨m&&&e.m,rfl,Wl ZW α,?_⟩;cases ι:M.od (m&&&e.m) with
   | true=>
     lia;refine⟨m^^^2 ^ e.m.log2,ag (nat e.m.log2),by rw[shl1,eJ],rfl,?_⟩;rw[take_succ γ];exact I.flip (e:=(e.m,e.p)) O g.nz Z ι ξ ν η
   | false=>
     lia;rw[take_succ γ];exact I.keep (e:=(e.m,e.p)) O Z ι
  ·obtain⟨e,he,θ⟩:=(mem t).mp (f' γ);exact hB (by rw[θ]) (ο e he)
 ·rintro σ H' ⟨m,v,rfl,rfl,I⟩;rw[a',pT] at I;lia;refine q m H' ε (I.done g λe he=>?_);obtain⟨e',Y,rfl⟩:=ik.mp he;exact(mem _).mpr ⟨e',Y,rfl⟩
theorem GU (T:Tx K mg a):FnOk P w K mg base CX0 1 a.j3 a.Ck ["mask"] Qp:=by
 refine T.r9.1.okA GA λL A outer s H vs Q E O h=>?_;obtain⟨m,rfl,hm,q⟩:=h;have hb:=EC hm;refine⟨_,((aj (ay (b9 (osc:=ah qP) (ON:=["mask"]) (N:=["place","mask"]) (n:=1) (fx:=[0]) rfl rfl rfl @I (dA @D T.gD (aa (pW (K:=K) rfl Wh VU VT p8 (pv 0)) ae)) (aP @C) (λ_ _ _ _ _=>⟨(ar (i:=0) (show ox (["place","mask"]:B1) from by decide +kernel) rfl @E),(nE (aJ mR (ax nG (ax yX (pv 1) (pv 0)) ai) ai (aU _))),(pv 0)⟩))))),av (σ':=[ag _]) rfl ?_⟩;lia;intro D α;refine gW (λi ys H'=>Cs (λi ys=>ys=(M.pl i m).map nat) H D i ys H') (Cs.zero α rfl) (λi ys H' hi c=>?_) (λys H' c=>?_)
 ·lia;rw[FV];by_cases ht:m.testBit i=true
  ·rw[qq ht];lia;refine Cs.put α c.same c.at' c.len @A ?_;rw[c.pv,M.pl_next,qq ht,fI,XO];rfl
  ·rw[n' ht];lia;refine Cs.skip c.same c.at' c.len ?_;rw[c.pv,M.pl_next,n' ht,Wr]
 ·have e:=c.pv;rw[pY] at e;refine q D H' α c.same ?_;rw[c.at',e,M.pl_up (EB m) hb]
theorem yZ (T:Tx K mg a):FnOk P w K mg base CX0 1 a.jX a.Cf ["places"] Jt:=by
 refine T.n5.1.okA oi λO A outer s H vs Q E Y h=>?_;obtain⟨r,ps,rfl,hp,hl,q⟩:=h
 refine⟨_,((af (aA (i:=1) oi.nd rfl @E ai)
  (af (de la rfl (aR (K:=K) rfl (pv 0)) (ar (i:=2) oi.nd rfl @E) (aj (aA (i:=1) oi.nd rfl @E (ax mB (pv 1) (ax gS ai (pv 2))))))
  (aj (ay (pv 1)))))),av (σ':=[ag _,fy,fy]) rfl ?_⟩
 lia;refine eQ (xs:=ps.map nat) (λi σ H'=>∃v,σ=[ag (.ref r),ag (nat (M.xm (ps.take i))),v]/\H'=H) ⟨fy,rfl,rfl⟩ (λi σ H' _ ⟨_,_,e⟩=>by rw[e];exact SqL.of hp) ?_ ?_
 ·rintro i y σ H' L ⟨v,rfl,rfl⟩;obtain⟨k,hk,rfl⟩:=aF L;have:=hl k (f' hk);lia;refine⟨ag (nat k),?_,rfl⟩;rw[shl1,eJ,P4 hk]
 ·rintro σ H' ⟨v,rfl,rfl⟩;rw[a',pT];lia;exact q
end
theorem sL (T:Tx K mg a):FnOk P w K mg base CX0 1 a.j2 a.Cj ["thing"] (Js K):=by
 refine T.lM.1.okA Gy λY A outer s H vs Q E Z h=>?_;obtain⟨x,k,rfl,hk,hz,q⟩:=h;have ν:=q H (Same.refl H)
 refine⟨_,((af (cc (PW.pt (kZ (fW (cK (aC (dm (K:=K) rfl) @D T.bx qa (!j 0 (aa (gB (v:= .ty "str") @D T.KN WZ rfl) ae))))) (kZ (aJ mR (pv 0) cD (aU _)) (jG (aJ qZ (aC (aK (K:=K) rfl) @D T.eX lJ (!j 0 ae)) (hV (v:= .int 6) @D T.yJ ⟨_,rfl⟩) (aU _)))))) (aj (ay l8)) aL)
  (aj (ay (oU (gb Bf (!A Lh (pv 0) ai) (hV (v:= .str "abcdefghijklmnopqrstuvwxyz") @D T.LC ⟨_,rfl⟩) @D) (tV (aC (Cv (K:=K) rfl rfl) @D T.T9 ZZ (aa (b9 (osc:=ah qK) (ON:=["thing"]) (N:=["sign"]) (n:=1) (fx:=[]) rfl rfl rfl @I (TC (pv 0)) (aP @C) (λ_ _ _ _ _=>⟨(ar (i:=0) (show ox (["sign"]:B1) from by decide +kernel) rfl @E),bh,(gb Bf (pv 0) (hV (v:= .str "abcdefghijklmnopqrstuvwxyz0123456789") @D T.BV ⟨_,rfl⟩) @D)⟩)) ae)))))))),av (σ':=[ag _]) rfl ?_⟩
 lia;cases x with
 | int i=>have hk:k="int":=hk;subst hk;lia;exact ν
 | bl b=>have hk:k="bool":=hk;subst hk;lia;exact ν
 | non=>have hk:k="NoneType":=hk;subst hk;lia;exact ν
 | ref p=>rcases hk with ⟨rfl,_⟩ | ⟨rfl,_⟩ | ⟨rfl,_⟩<;>lia<;>exact ν
 | str z=>
   have hk:k="str":=hk;subst hk;have hz:=hz z rfl;have hs:z.length<=sizeLine:=XA (aZ hz);have q:∀H',Same H H'->Q (.bl (nm z.cps.toList)) H':=q;have ν:=q H (Same.refl H);lia;by_cases h1:z=""
   ·rw[Jl.mp h1] at ν;refine pK (by rw[hG];rw[h1]) ?_;lia;exact ν
   ·refine j9 (by rw[gz];exactλz=>h1 (V.str.inj z)) ?_;lia
    obtain⟨c,r,ε⟩:∃c r,z.cps.toList=c::r:=by
     cases hl:z.cps.toList with
     | nil=>exact hB (Jl.mpr hl) h1
     | cons c r=>exact⟨c,r,rfl⟩
    have L:=Fx z;rw[ε] at ν L;have q:∀H',Same H H'->Q (.bl (decide ((c::r).length<=6)&&low c&&(c::r).all λc=>low c||fig c)) H':=λH' s=>by have:=q H' s;rw[ε] at this;exact this
    by_cases h2:(6:Int) < z.length
    ·refine pK (hG h2) ?_;lia;have:=q H (Same.refl H);rw[gz (show ¬(c::r).length<=6 by omega)] at this;exact this
    ·refine j9 (gz h2) ?_;rw[hG (show(c::r).length<=6 by omega)] at q;lia;refine QH hs (c:=c) (by rw[ε];exact d9 (j:=0) rfl) ?_;lia;rw[ag3,memL];cases O:low c
     ·rw[O] at q;lia;exact q H (Same.refl H)
     ·rw[O] at q;lia;intro D f;refine OD (Cs (λi ys=>ys=(((c::r).take i).map λc=>low c||fig c).map V.bl) H D) (Cs.zero f rfl) (λi d ys H' hd ⟨e,s,at',len⟩=>?_) (λys H' ⟨e,s,at',len⟩=>?_)
      ·have hi:i < z.cps.size:=(WI.mp hd).1;have ι:(c::r)[i]? =ag d:=by rw[<-ε];simpa using hd
       lia;rw[ag3,memN];refine Cs.put f s at' len (by have:z.cps.size=z.length:=rfl;omega) ?_;rw[e,YX,ι,fI,fI];rfl
      ·have hsz:z.cps.size=(c::r).length:=L.symm;rw[hsz,pT] at e;refine O9 (SqL.of (by rw[at',e])) ?_;have:=q H' s;rw[ao2];exact this
 | _=>exact y' hk
theorem i9 (T:Tx K mg a):FnOk P w K mg base CX0 1 a.cF a.dX ["self","name"] (Nz K):=by
 refine T.dq.1.okA uk λY A outer s H vs Q E Z h=>?_;obtain⟨x,C,dx,nm,rfl,O,hn,L,q⟩:=h;refine⟨_,((aj (df (K:=K) rfl (pv 0) (pv 1) rfl))),av (σ':=[ag _,ag _]) rfl ?_⟩;lia;exact dc L O hn @C rfl q
theorem rj (T:Tx K mg a):FnOk P w K mg base CX0 2 a.bD a.lK ["self","name","number"] (Ny a.bc):=by
 refine T.fV.1.okA qC λY A outer s H vs Q E O h=>?_;obtain⟨x,dx,nm,k,rfl,L,q⟩:=h
 refine⟨_,((af (bu (vI @D T.Lx T.dX (i9 T) (O.mono @C) T.dq.2 .nil cJ (!j 0 (!j 1 ae))))
  (aj (df (K:=K) rfl (pv 0) (pv 2) rfl)))),av (σ':=[ag _,ag _,ag _]) rfl ?_⟩
 lia;refine⟨x,_,dx,nm,rfl,T.mw,T.rz,L,λH2 u=>?_⟩;lia;exact dc u.at' T.mw T.jP (by show 1 < 1000;decide) rfl λZ α=>q Z (u.trans α)
theorem nI (T:Tx K mg a):FnOk P w K mg base CX0 2 a.be a.jd ["self","name","wire","number"] (Nx a.aB):=by
 refine T.dQ.1.okA ng λZ A outer s H vs Q E Y h=>?_;obtain⟨x,dx,nm,wr,k,rfl,O,q⟩:=h
 refine⟨_,((af (bu (vI @D T.Lx T.dX (i9 T) (Y.mono @C) T.dq.2 .nil cJ (!j 0 (!j 1 ae))))
  (af (df (K:=K) rfl (pv 0) (pv 2) rfl)
  (aj (df (K:=K) rfl (pv 0) (pv 3) rfl))))),av (σ':=[ag _,ag _,ag _,ag _]) rfl ?_⟩
 lia;refine⟨x,_,dx,nm,rfl,T.fK,T.mE,O,λH2 u=>?_⟩;lia;refine dc u.at' T.fK T.uA (by show 1 < 1000;decide) rfl fun γ α=>?_;lia;exact dc α.at' T.fK T.hZ (by show 2 < 1000;decide) rfl fun β L=>q β ((u.trans α).trans L)
theorem pZ (T:Tx K mg a):FnOk P w K mg base CX0 2 a.bp a.kr ["self","name","wires"] (JD K a.aM):=by
 refine T.eS.1.okA pE fun β A outer s H vs Q E α h=>?_;obtain⟨x,dx,nm,δ,ws,rfl,hw,L,q⟩:=h;have O:δ≠x:=cn hw L λz=>by cases z
 refine⟨_,((af (bu (vI @D T.Lx T.dX (i9 T) (α.mono @C) T.dq.2 .nil cJ (!j 0 (!j 1 ae))))
  (aj (df (K:=K) rfl (pv 0) (aV (dk (K:=K) rfl) @D T.gC u' (!j 2 ae)) rfl)))),av (σ':=[ag _,ag _,ag _]) rfl ?_⟩
 lia;refine⟨x,_,dx,nm,rfl,T.j8,T.oW,L,λH2 u=>?_⟩;have Z:=u.oth _ _ O hw;lia;exact dc u.at' T.j8 T.jO (by show 1 < 1000;decide) rfl fun γ Y=>q γ (u.trans Y)
theorem zT (T:Tx K mg a):FnOk P w K mg base CX0 1 a.dB a.uf ["self","known","row","state"] (Qt a.bc):=by
 refine T.iX.1.okA zy λL A outer s H vs Q E O h=>?_;obtain⟨p,dx,nm,k,τ,row,st,rfl,hp,Z,q⟩:=h;refine⟨_,((aj (ay (ax nG (ax yX (pv 2) (aH (K:=K) rfl (pv 0) rfl)) ai)))),av (σ':=[ag _,ag _,ag _,ag _]) rfl ?_⟩;lia;refine aG hp T.mw T.jP rfl ?_;lia;exact q
theorem uu (T:Tx K mg a):FnOk P w K mg base CX0 1 a.bY a.nW ["self","known","row","state"] (Qq a.aB):=by
 refine T.fH.1.okA um λL A outer s H vs Q E O h=>?_;obtain⟨p,dx,nm,wr,k,τ,row,st,rfl,hp,Z,q⟩:=h;refine⟨_,((aj (ay (ax nG (ax yX (pv 3) (aH (K:=K) rfl (pv 0) rfl)) ai)))),av (σ':=[ag _,ag _,ag _,ag _]) rfl ?_⟩;lia;refine aG hp T.fK T.hZ rfl ?_;lia;exact q
theorem x4 (T:Tx K mg a):FnOk P w K mg base CX0 1 a.cS a.rR ["self","known","row","state"] (Qr K a.aM):=by
 refine T.ib.1.okA iI λZ A outer s H vs Q E Y h=>?_;obtain⟨p,dx,nm,δ,d,ws,kvs,f,row,st,rfl,hp,ht,hd,hf,q⟩:=h;have O:=qf Y
 refine⟨_,((af (aA (i:=4) iI.nd rfl @E ai)
  (af (de la rfl (l7 (K:=K) rfl (aH (K:=K) rfl (pv 0) rfl)) (ar (i:=5) iI.nd rfl @E) (aj (aA (i:=4) iI.nd rfl @E (ax mB (pv 4) (nF O (pv 1) (pv 5) (λ_ _=>rfl))))))
  (aj (ay (pv 4)))))),av (σ':=[ag _,ag _,ag _,ag _,fy,fy]) rfl ?_⟩
 lia;refine aG hp T.j8 T.jO rfl ?_;lia;refine tO (λi σ H2=>∃v,σ=[ag (.ref p),ag (.ref d),ag (.int row),ag (.int st),ag (.int (((ws.take i).map f).foldl V4 0)),v]/\H2=H) ⟨fy,rfl,rfl⟩ (λi σ H2 _ ⟨v,_,e⟩=>by rw[e];exact ht) ?_ ?_
 ·rintro i x σ H2 L ⟨v,rfl,rfl⟩;obtain⟨z,hz,rfl⟩:=aF L;lia;refine sF hd (hf z (f' hz)) ?_;lia;exact⟨_,by rw[wZ hz],rfl⟩
 ·rintro σ H2 ⟨v,rfl,rfl⟩;lia;rw[a',pT];exact q
theorem x6 (T:Tx K mg a):FnOk P w K mg base CX0 1 a.cU a.rT ["self","known"] (NF a.bc):=by
 refine T.ig.1.okA xT λL A outer s H vs Q E O h=>?_;obtain⟨p,dx,nm,k,τ,rfl,hp,Z,h1,q⟩:=h;refine⟨_,((aj (ay (eP (aa ai (aa (ax gS ai (aH (K:=K) rfl (pv 0) rfl)) ae)))))),av (σ':=[ag _,ag _]) rfl ?_⟩;lia;refine aG hp T.mw T.jP rfl ?_;lia;exactλt H2 _ s e=>q t H2 s e
theorem sM (T:Tx K mg a):FnOk P w K mg base CX0 1 a.bN a.mG ["self","known"] (NC a.aB):=by
 refine T.eC.1.okA su λL A outer s H vs Q E O h=>?_;obtain⟨p,dx,nm,wr,k,τ,rfl,hp,Z,h1,q⟩:=h;refine⟨_,((aj (ay (eP (aa (ax gS ai (aH (K:=K) rfl (pv 0) rfl)) (aa ai ae)))))),av (σ':=[ag _,ag _]) rfl ?_⟩;lia;refine aG hp T.fK T.hZ rfl ?_;lia;exactλt H2 _ s e=>q t H2 s e
theorem vN (T:Tx K mg a):FnOk P w K mg base CX0 1 a.cq a.o6 ["self","known"] (ND K a.aM):=by
 refine T.gq.1.okA c8 fun α A outer s H vs Q E Z h=>?_;obtain⟨p,dx,nm,δ,d,ws,kvs,f,g,rfl,hp,ht,hd,hf,q⟩:=h;have O:=qf Z
 refine⟨_,((af (aA (i:=2) c8.nd rfl @E ai)
  (af (aA (i:=3) c8.nd rfl @E ai)
  (af (de la rfl (l7 (K:=K) rfl (aH (K:=K) rfl (pv 0) rfl)) (ar (i:=4) c8.nd rfl @E) (af (aA (i:=5) c8.nd rfl @E (nF O (pv 1) (pv 4) (λ_ _=>rfl)))
  (af (aA (i:=2) c8.nd rfl @E (ax mB (pv 2) (!A @H (pv 5) ai)))
  (aj (aA (i:=3) c8.nd rfl @E (ax mB (pv 3) (!A @H (pv 5) ai)))))))
  (aj (ay (eP (!j 2 (!j 3 ae))))))))),av (σ':=[ag _,ag _,fy,fy,fy,fy]) rfl ?_⟩
 lia;refine aG hp T.j8 T.jO rfl ?_;lia;refine tO (λi σ H2=>∃v ζ,σ=[ag (.ref p),ag (.ref d),ag (.int (((ws.take i).map f).foldl V4 0)),ag (.int (((ws.take i).map g).foldl V4 0)),v,ζ]/\H2=H) ⟨fy,fy,rfl,rfl⟩ (λi σ H2 _ ⟨v,ζ,_,e⟩=>by rw[e];exact ht) ?_ ?_
 ·rintro i x σ H2 L ⟨v,ζ,rfl,rfl⟩;obtain⟨z,hz,rfl⟩:=aF L;obtain⟨t,η,Y⟩:=hf z (f' hz);lia;refine sF hd η ?_;lia;exact⟨_,_,by rw[wZ hz,wZ hz],rfl⟩
 ·rintro σ H2 ⟨v,ζ,rfl,rfl⟩;lia;rw[a',pT];exactλt β _ s e=>q t β s e
section
local macro_rules | `(tactic| walk_at "l2step") =>`(tactic| first | ((with_reducible refine' dw ?e ?_);(case e=>walk_at "l2kind")) | ((with_reducible refine' fX ?e ?_);(case e=>walk_at "l2kind")) | (with_reducible refine cb ?_) | (with_reducible refine dD ?_))
section
local macro_rules | `(tactic| walk_at "l2step") =>`(tactic| first | (with_reducible refine JT ?_))
local macro_rules | `(tactic| walk_at "l2step") =>`(tactic| first | (with_reducible refine vx ?_))
local macro_rules | `(tactic| walk_at "l2step") =>`(tactic| first | (with_reducible refine qG ?_) | (with_reducible refine s_tryH ?_) | (with_reducible refine A4 ?_) | (with_reducible refine A3 ?_))
local macro_rules | `(tactic| walk_at "l2step") =>`(tactic| first | (with_reducible refine JU ?_))
theorem Fp (T:Tx K mg a):FnOk P w K mg base CX0 1 a.rL a.FL ["thing","depth"] Vf:=by
 refine T.mP.1.ok Df (λvs H Q E h=>?_) (λL A outer s H vs Q E O h=>?_)
 ·exact y' h
 ·exact y' h
theorem Fo (T:Tx K mg a):FnOk P w K mg base CX0 2 a.rL a.FL ["thing","depth"] JC:=by
 refine T.mP.1.okA Df λY A outer s H vs Q E L h=>?_;obtain⟨v,k,d,rfl,O,q⟩:=h
 refine⟨_,((af (cc (aJ mR (pv 1) ai (aU _)) (aj (ay (pv 0))) aL)
  (af (cc (cK (aC (dm (K:=K) rfl) @D T.bx qa (!j 0 (aa (gB (v:= .ty "list") @D T.gT oD rfl) ae)))) (aj (ay (b9 (osc:=ah vA) (ON:=n13) (N:=n11) (n:=1) (fx:=[1]) rfl rfl rfl @I (vG (K:=K) rfl (pv 0)) (aP @C) (λ_ _ _ _ _=>⟨(ar (i:=0) (show ox (n11:B1) from by decide +kernel) rfl @E),bh,(ao (Fp T) L T.wR T.mP (!j 0 (aa (ax lh (pv 1) ai) ae)))⟩)))) aL)
  (af (cc (cK (aC (dm (K:=K) rfl) @D T.bx qa (!j 0 (aa (gB (v:= .ty "tuple") @D T.gC u' rfl) ae)))) (aj (ay (aV (dk (K:=K) rfl) @D T.gC u' (aa (b9 (osc:=ah vA) (ON:=n13) (N:=n11) (n:=1) (fx:=[1]) rfl rfl rfl @I (vG (K:=K) rfl (pv 0)) (aP @C) (λ_ _ _ _ _=>⟨(ar (i:=0) (show ox (n11:B1) from by decide +kernel) rfl @E),bh,(ao (Fp T) L T.wR T.mP (!j 0 (aa (ax lh (pv 1) ai) ae)))⟩)) ae)))) aL)
  (af (cc (cK (aC (dm (K:=K) rfl) @D T.bx qa (!j 0 (aa (gB (v:= .ty "dict") @D T.Ft Xw rfl) ae)))) (aj jH) aL)
  (aj (ay (pv 0)))))))),av (σ':=[ag _,ag _]) rfl ?_⟩
 lia;by_cases hd:d=0
 ·refine pK (hG (by rw[hd])) ?_;lia;exact q
 ·refine j9 (gz λz=>hd (V.int.inj z)) ?_;cases O<;>(lia;exact q)
theorem DK (T:Tx K mg a):FnOk P w K mg base CX0 3 a.rL a.FL ["thing","depth"] JB:=by
 refine T.mP.1.okA Df fun ε A outer s H vs Q E Y h=>?_;obtain⟨v,k,rfl,th,q⟩:=h
 refine⟨_,((af (cc (aJ mR (pv 1) ai (aU _)) (aj (ay (pv 0))) aL)
  (af (cc (cK (aC (dm (K:=K) rfl) @D T.bx qa (!j 0 (aa (gB (v:= .ty "list") @D T.gT oD rfl) ae)))) (aj (ay (b9 (osc:=ah vA) (ON:=n13) (N:=n11) (n:=1) (fx:=[1]) rfl rfl rfl @I (vG (K:=K) rfl (pv 0)) (aP @C) (λ_ _ _ _ _=>⟨(ar (i:=0) (show ox (n11:B1) from by decide +kernel) rfl @E),bh,(ao (Fo T) Y T.wR T.mP (!j 0 (aa (ax lh (pv 1) ai) ae)))⟩)))) aL)
  (af (cc (cK (aC (dm (K:=K) rfl) @D T.bx qa (!j 0 (aa (gB (v:= .ty "tuple") @D T.gC u' rfl) ae)))) (aj (ay (aV (dk (K:=K) rfl) @D T.gC u' (aa (b9 (osc:=ah vA) (ON:=n13) (N:=n11) (n:=1) (fx:=[1]) rfl rfl rfl @I (vG (K:=K) rfl (pv 0)) (aP @C) (λ_ _ _ _ _=>⟨(ar (i:=0) (show ox (n11:B1) from by decide +kernel) rfl @E),bh,(ao (Fo T) Y T.wR T.mP (!j 0 (aa (ax lh (pv 1) ai) ae)))⟩)) ae)))) aL)
  (af (cc (cK (aC (dm (K:=K) rfl) @D T.bx qa (!j 0 (aa (gB (v:= .ty "dict") @D T.Ft Xw rfl) ae)))) (aj jH) aL)
  (aj (ay (pv 0)))))))),av (σ':=[ag _,ag _]) rfl ?_⟩
 cases th with
 | sc Z=>
   cases Z with
   | str z l=>lia;exact q _ H (Same.refl _) (.sc (.str z l))
   | int i=>lia;exact q _ H (Same.refl _) (.sc (.int i))
   | bl b=>lia;exact q _ H (Same.refl _) (.sc (.bl b))
   | non=>lia;exact q _ H (Same.refl _) (.sc .non)
 | nil e=>
   lia;refine .inl ⟨⟨_,SqL.of e⟩,λD α=>?_⟩;refine bf (xs:=[]) (λi ys H'=>Cs (λi ys=>ys=[]) H D i ys H') (Cs.zero α rfl) (λi ys H' _ c=>SqL.of (c.same.get e)) (λi v ys H' O c=>by simp at O) (λys H' c=>?_);have L:=c.at';rw[c.pv] at L;lia;exact q _ H' c.same (.nil e L)
 | one l e=>
   rename_i p z;lia;refine .inr ⟨⟨_,SqT.of e⟩,λD α=>?_⟩;refine rW (xs:=[.str z]) (λi ys H'=>Cs (λi ys=>ys=([V.str z]).take i) H D i ys H') (Cs.zero α rfl) (λi ys H' _ c=>SqT.of (c.same.get e)) (λi v ys H' O c=>?_) (λys H' c=>?_)
   ·have hi:i=0:=by
     have:=(b'.mp O).1;simp only[V1,Xp] at this;omega
    subst hi;cases O;lia;refine⟨.str z,"str",_,rfl,.str z l,?_⟩;refine Cs.put α c.same c.at' c.len @A ?_;rw[c.pv];rfl
   ·have L:=c.at';rw[c.pv] at L;have L:H' D=ag (.lst [.str z]):=L;have γ:=c.same;clear c;lia;intro η ζ τ β δ;lia;exact q _ ζ (γ.trans β) (.one e δ)
theorem rh (T:Tx K mg a):FnOk P w K mg base CX0 4 a.bW a.lH ["self","name"] (kU a.aW):=by
 refine T.fU.1.okA qy fun ε A outer s H vs Q E γ h=>?_;obtain⟨p,v,k,rfl,α,e,q⟩:=h
 refine⟨_,((af (bu (zJ (K:=K) rfl @D T.qg T.pA (!j 0 (aa cD ae))))
  (aj (DD (K:=K) rfl (pv 0) (ao (DK T) γ T.wR T.mP (!j 1 (aa (hV (v:= .int 12) @D T.nR ⟨_,rfl⟩) ae))) rfl)))),av (σ':=[ag _,ag _]) rfl ?_⟩
 lia;refine vw e T.AI ?_;lia;refine⟨v,k,rfl,α,λZ H1 Y cp=>?_⟩;have O:=Y.get e;lia;refine zB O T.AI T.rp λH2 δ L=>?_;lia;refine q Z H2 δ (λb u hb β=>L _ _ hb (Y.get β)) ?_;cases cp with
 | sc h=>exact .sc h
 | nil a1 a2=>exact .nil a1 (L _ _ (λz=>by rw[z,O] at a2;cases a2) a2)
 | one a1 a2=>exact .one a1 (L _ _ (λz=>by rw[z,O] at a2;cases a2) a2)
theorem p5 (T:Tx K mg a):FnOk P w K mg base CX0 4 a.bI a.kA ["self","name"] (kU a.cH):=by
 refine T.eW.1.okA pH fun ε A outer s H vs Q E γ h=>?_;obtain⟨p,v,k,rfl,α,e,q⟩:=h
 refine⟨_,((af (bu (zJ (K:=K) rfl @D T.qg T.pA (!j 0 (aa cD ae))))
  (aj (DD (K:=K) rfl (pv 0) (ao (DK T) γ T.wR T.mP (!j 1 (aa (hV (v:= .int 12) @D T.nR ⟨_,rfl⟩) ae))) rfl)))),av (σ':=[ag _,ag _]) rfl ?_⟩
 lia;refine vw e T.xF ?_;lia;refine⟨v,k,rfl,α,λZ H1 Y cp=>?_⟩;have O:=Y.get e;lia;refine zB O T.xF T.yh λH2 δ L=>?_;lia;refine q Z H2 δ (λb u hb β=>L _ _ hb (Y.get β)) ?_;cases cp with
 | sc h=>exact .sc h
 | nil a1 a2=>exact .nil a1 (L _ _ (λz=>by rw[z,O] at a2;cases a2) a2)
 | one a1 a2=>exact .one a1 (L _ _ (λz=>by rw[z,O] at a2;cases a2) a2)
theorem p4 (T:Tx K mg a):FnOk P w K mg base CX0 4 a.bH a.kz ["self","name"] (kU a.cG):=by
 refine T.eV.1.okA pG fun ε A outer s H vs Q E γ h=>?_;obtain⟨p,v,k,rfl,α,e,q⟩:=h
 refine⟨_,((af (bu (zJ (K:=K) rfl @D T.qg T.pA (!j 0 (aa cD ae))))
  (aj (DD (K:=K) rfl (pv 0) (ao (DK T) γ T.wR T.mP (!j 1 (aa (hV (v:= .int 12) @D T.nR ⟨_,rfl⟩) ae))) rfl)))),av (σ':=[ag _,ag _]) rfl ?_⟩
 lia;refine vw e T.xE ?_;lia;refine⟨v,k,rfl,α,λZ H1 Y cp=>?_⟩;have O:=Y.get e;lia;refine zB O T.xE T.yg λH2 δ L=>?_;lia;refine q Z H2 δ (λb u hb β=>L _ _ hb (Y.get β)) ?_;cases cp with
 | sc h=>exact .sc h
 | nil a1 a2=>exact .nil a1 (L _ _ (λz=>by rw[z,O] at a2;cases a2) a2)
 | one a1 a2=>exact .one a1 (L _ _ (λz=>by rw[z,O] at a2;cases a2) a2)
theorem jh (T:Tx K mg a):FnOk P w K mg base (CX1 P w) 6 a.fo a.t6 ["wire","known"] (Gp a.aW):=by
 refine T.cI.1.okX zw (λvs H Q E h=>?_) (fun ψ A outer s H vs Q E δ h=>?_)
 ·obtain⟨v,k,d,zs,rfl,_⟩:=h;rfl
 ·obtain⟨v,k,d,zs,rfl,O,⟨kvs,υ,π⟩,nms,ι,ν⟩:=h;have ο:=qf δ
  have fin:∀{H2:Hp} (σ:St),Same H H2->(∀z∈zs,v≠.str z)->vc a.aW (kU a.aW) E0 (λ_=>E) σ [v] H2:=λ{H2} σ L hb=>yV λx H3 τ α φ=>⟨x,v,k,rfl,(O.same L).same α,φ,fun η ω ρ ξ cp=>by
   obtain⟨dx,a1,a2⟩:=R9 (H:=H2) τ ρ λb u θ χ=>ξ _ _ θ (α.get χ)
   exact⟨rfl,ag dx,a1,ν hb _ dx ⟨η,a2.pre L,by
    cases cp with
    | sc h=>exact .sc h
    | nil β Z=>
      cases O with
      | sc h=>cases h
      | one l Y=>
        have:=α.get (L.get Y);rw[β] at this;cases this
      | nil Y=>
        refine .nil Y ?_;rw[za (λz=>by rw[z,a1] at Z;cases Z)];exact Z
    | one β Z=>
      cases O with
      | sc h=>cases h
      | nil Y=>
        have:=α.get (L.get Y);rw[β] at this;cases this
      | one l Y=>
        have ζ:=α.get (L.get Y);rw[β] at ζ;cases ζ;refine .one Y ?_;rw[za (λz=>by rw[z,a1] at Z;cases Z)];exact Z⟩⟩⟩
  refine⟨_,((aj (cc (PW.pt (kZ (fW (cK (ao (sL T) δ T.wU T.lM (!j 0 ae)))) (jG (Ko (Kt ο (pv 0) (pv 1)))))) (aj (vE T.AI (rh T) (δ.mono @C) @D T.FF T.fU.2 cJ cQ rfl (!j 0 ae))) aL))),av (σ':=[ag _,ag _]) rfl ?_⟩;lia;refine⟨v,k,rfl,O.kind,λz e=>by subst e;exact O.str,λH2 L=>?_⟩;by_cases hn:Bp v=true
  ·rw[hn];cases O with
   | nil=>cases hn
   | one=>cases hn
   | sc O=>
    cases O with
    | int=>cases hn
    | bl=>cases hn
    | non=>cases hn
    | str z l=>
     have ε:=L.get υ;lia;refine QM ε ?_;rw[uV π z];by_cases hz:z∈zs
     ·rw[hG hz];lia;exact ι z hz rfl H2 L
     ·rw[gz hz];lia;exact fin _ L λy γ e=>hz (by cases e;exact γ)
  ·rw[show Bp v=false by simpa using hn];lia;exact fin _ L λy γ e=>hn (by rw[e];exact nms y γ)
end
theorem xX (T:Tx K mg a):FnOk P w K mg base (CX1 P w) 1 a.d6 a.rP ["ins","sums","stores","outs"] (Gq a.cf):=by
 refine T.ia.1.okX xQ (λvs H Q E h=>?_) (fun γ A outer s H vs Q E δ h=>?_)
 ·obtain⟨i,s,t,o,rs,qs,N,rfl,_⟩:=h;rfl
 ·obtain⟨i,s,t,o,rs,qs,N,rfl,hn,li,θ,Y,Z⟩:=h;have hi:=hn.i;have hs:=hn.s;have ht:=hn.t;have ho:=hn.o;have π:rs.length=N.sums.length:=by rw[<-hn.es,a']
  have ν:qs.length=N.sts.length:=by rw[<-hn.et,a']
  refine⟨_,((af (cc (aJ qZ (aC (aK (K:=K) rfl) @D T.eX lJ (!j 0 ae)) (hV (v:= .int 6) @D T.HC ⟨_,rfl⟩) (aU _)) (aj jH) aL)
   (af (cc (aJ qZ (aC (aK (K:=K) rfl) @D T.eX lJ (!j 1 ae)) (hV (v:= .int 40) @D T.Eo ⟨_,rfl⟩) (aU _)) (aj (kc M' T.mW cQ rfl @D T.BU (aa cD ae))) aL)
   (af (cc (aJ qZ (aC (aK (K:=K) rfl) @D T.eX lJ (!j 2 ae)) (hV (v:= .int 16) @D T.rK ⟨_,rfl⟩) (aU _)) (aj jH) aL)
   (af (cc (aJ qZ (aC (aK (K:=K) rfl) @D T.eX lJ (!j 3 ae)) (hV (v:= .int 6) @D T.uS ⟨_,rfl⟩) (aU _)) (aj jH) aL)
   (aj (cc (cK (aC (Cu (K:=K) rfl rfl) @D T.T8 ZY (aa (b9 (osc:=ah jf) (ON:=["ins","sums","stores","outs"]) (N:=n10) (n:=1) (fx:=[]) rfl rfl rfl @I (aR (K:=K) rfl (pv 1)) (aP @C) (λ_ _ _ _ _=>⟨(ar (i:=0) (show ox (n10:B1) from by decide +kernel) rfl @E),bh,(gb qZ (aC (aK (K:=K) rfl) @D T.eX lJ (aa (!A @H (pv 0) ai) ae)) (hV (v:= .int 24) @D T.BW ⟨_,rfl⟩) (aU _))⟩)) ae))) (aj jH) aL))))))),av (σ':=[ag _,ag _,ag _,ag _]) rfl ?_⟩
  lia;rw[a'];refine j9 (gz @A) ?_;lia;rw[a'];by_cases L:40 < N.sums.length
  ·refine pK (hG @A) ?_;lia;exact⟨by rw[lT];decide,Y L⟩
  have g:Gn N:=Z.resolve_right L;have ls:=g.ls;have lt:=g.lt;have lo:=g.lo;have q:=θ g;refine j9 (gz @A) ?_;lia;rw[a'];refine j9 (gz @A) ?_;lia;rw[a'];refine j9 (gz @A) ?_;lia;intro D α;refine bf (xs:=rs.map λr=>V.ref r.1) (λi ys H'=>Cs (λi ys=>ys=(p' i false).map V.bl) H D i ys H') (Cs.zero α rfl) (λi ys H' _ c=>SqL.of (c.same.get hs)) (λi x ys H' β c=>?_) (λys H' c=>?_)
  ·obtain⟨r,O,rfl⟩:=aF β;have hi:=(b'.mp O).1;have hm:=f' O;have ε:=c.same.get (hn.sr r hm).1;have hw:=g.lw r.2.2 (by rw[<-hn.es];exact ik.mpr ⟨r,hm,rfl⟩);rcases(hn.sr r hm).2 with ew | ew
   ·have ew:=c.same.get ew;lia;rw[a',gz (show ¬(24:Int) < (r.2.2.2.length:Int) by omega)];refine Cs.put α c.same c.at' c.len @A ?_;rw[c.pv,XD,fI];rfl
   ·have ew:=c.same.get ew;lia;rw[a',gz (show ¬(24:Int) < (r.2.2.2.length:Int) by omega)];refine Cs.put α c.same c.at' c.len @A ?_;rw[c.pv,XD,fI];rfl
  ·have υ:=c.at';rw[c.pv] at υ;lia;refine O8 (SqL.of υ) ?_;lia;refine j9 @F ?_;lia;exact q H' c.same
theorem xZ (T:Tx K mg a):FnOk P w K mg base CX0 2 a.d7 a.rQ ["names"] JG:=by
 refine T.jl.1.okA kI fun ι A outer s H vs Q E δ h=>?_;obtain⟨l,zs,rfl,hl,ln,nd,hn,q⟩:=h;have γ:=qf δ
 refine⟨_,((af (aA (i:=1) kI.nd rfl @E qV)
  (aj (de la rfl (aR (K:=K) rfl (pv 0)) (ar (i:=2) kI.nd rfl @E) (af (cc (fW (cK (ao (sL T) δ T.wU T.lM (!j 2 ae)))) (aj jH) aL)
  (af (cc (Ko (Ku γ (pv 2) (pv 1))) (aj jH) aL)
  (aj (zH γ (pv 1) (pv 2) l8 rfl)))))))),av (σ':=[ag _,fy,fy]) rfl ?_⟩
 lia;intro D H1 ζ β θ;have hl1:=β.get hl;lia;refine eQ (xs:=zs.map V.str) (λi σ H'=>∃v,σ=[ag (.ref l),ag (.ref D),v]/\Same H H'/\∃kvs:ee (Key×V),H' D=ag (.dK kvs)/\kvs.map (·.1)=(zs.take i).map zt) ⟨fy,rfl,β,[],θ,rfl⟩ (λi σ H' _ ⟨_,_,s',_⟩=>SqL.of (s'.get hl)) ?_ ?_
 ·rintro i y σ H' ε ⟨v,rfl,s',kvs,η,Y⟩;obtain⟨z,hz,rfl⟩:=aF ε;have hi:=(b'.mp hz).1
  have L:z∉zs.take i:=λm=>by
   have h2:=nd;rw[<-X2 i zs,VS] at h2;exact h2.2.2 z m z (f' (i:=0) (by rw[Yb,ac8];exact hz)) rfl
  have lk:kvs.length<=1000:=by have:=ri y1 Y;rw[a',a',sv] at this;omega
  lia;refine c_nm (hn z (f' hz)) λH2 Z=>?_;have O:=Z.get η;lia;refine O7 O ?_;rw[uV Y z,gz L];lia;refine pL O (aZ lk) fun ν α=>?_;rw[DC Y L] at α;lia;refine⟨λb o e=>α.oth _ _ (aq e ζ) (Z.get (s'.get e)),_,α.at',?_⟩;rw[fI,Y,take_succ hz,fI];rfl
 ·rintro σ H' ⟨v,rfl,s',_⟩;lia;exact q H' s'
theorem xV (T:Tx K mg a):FnOk P w K mg base CX0 7 a.d4 a.rN ["sums","stores","outs","known"] JE:=by
 refine T.ji.1.okA gc fun ρ A outer s H vs Q E ξ h=>?_;obtain⟨i,s,t,o,d,rs,qs,N,rfl,kp,g,τ,q⟩:=h;have hs:=kp.s;have ht:=kp.t;have ho:=kp.o
 refine⟨_,((af (de la rfl (l7 (K:=K) rfl (pv 0)) (ar (i:=4) gc.nd rfl @E) (aj (de la rfl (l7 (K:=K) rfl (!A @H (pv 4) ai)) (ar (i:=5) gc.nd rfl @E) (aj (bu (hX (jh T) (ξ.mono @C) @D T.kq T.cI.1.2 T.cI.2 .nil thr0 (!j 5 (!j 3 ae))))))))
  (af (de la rfl (l7 (K:=K) rfl (pv 1)) (ar (i:=4) gc.nd rfl @E) (aj (bu (hX (jh T) (ξ.mono @C) @D T.kq T.cI.1.2 T.cI.2 .nil thr0 (aa (!A @H (pv 4) ai) (!j 3 ae))))))
  (aj (de la rfl (l7 (K:=K) rfl (pv 2)) (ar (i:=5) gc.nd rfl @E) (aj (bu (hX (jh T) (ξ.mono @C) @D T.kq T.cI.1.2 T.cI.2 .nil thr0 (!j 5 (!j 3 ae)))))))))),av (σ':=[ag _,ag _,ag _,ag _,fy,fy]) rfl ?_⟩
 lia;refine tO (xs:=rs.map λr=>V.ref r.1) (λi σ H'=>∃γ β,σ=[ag (.ref s),ag (.ref t),ag (.ref o),ag (.ref d),γ,β]/\Same H H') ⟨fy,fy,rfl,Same.refl _⟩ (λi σ H' _ ⟨_,_,_,s'⟩=>SqT.of (s'.get hs)) ?_ ?_
 ·rintro i y σ H' η ⟨γ,β,rfl,s'⟩;obtain⟨r,θ,rfl⟩:=aF η;have hm:=f' θ;have ε:=s'.get (kp.sr r hm).1;have π:=s'.get (kp.sr r hm).2;have ν:r.2.2∈N.sums:=by rw[<-kp.es];exact ik.mpr ⟨r,hm,rfl⟩
  lia;refine tO (xs:=r.2.2.2.map V.str) (λj σ H2=>∃v,σ=[ag (.ref s),ag (.ref t),ag (.ref o),ag (.ref d),ag (.ref r.1),v]/\Same H' H2) ⟨_,rfl,Same.refl _⟩ (λj σ H2 _ ⟨_,_,Y⟩=>SqT.of (Y.get π)) ?_ ?_
  ·rintro j y σ H2 η ⟨v,rfl,Y⟩;obtain⟨z,hz,rfl⟩:=aF η;have O:=g.ws r.2.2 ν z (f' hz);lia;refine⟨.str z,"str",d,N.names,rfl,.sc (.str _ (by have:=(g.nm _ O).len;omega)),(τ.same s').same Y,g.nm,λ_ _ _ ι α=>?_,λZ=>hB rfl (Z _ O)⟩;lia;exact Y.trans α
  ·rintro σ H2 ⟨v,rfl,Y⟩;lia;exact⟨_,_,rfl,s'.trans Y⟩
 ·rintro σ H' ⟨γ,β,rfl,s'⟩;have δ:=s'.get ht;lia;refine tO (xs:=qs.map λr=>V.ref r.1) (λi σ H2=>∃γ,σ=[ag (.ref s),ag (.ref t),ag (.ref o),ag (.ref d),γ,β]/\Same H' H2) ⟨_,rfl,Same.refl _⟩ (λi σ H2 _ ⟨_,_,Y⟩=>SqT.of (Y.get δ)) ?_ ?_
  ·rintro i y σ H2 η ⟨γ,rfl,Y⟩;obtain⟨r,θ,rfl⟩:=aF η;have hm:=f' θ;have ε:=Y.get (s'.get (kp.tr r hm));have ν:r.2∈N.sts:=by rw[<-kp.et];exact ik.mpr ⟨r,hm,rfl⟩
   have O:=g.ts r.2 ν;lia;refine⟨.str r.2.2,"str",d,N.names,rfl,.sc (.str _ (by have:=(g.nm _ O).len;omega)),(τ.same s').same Y,g.nm,λ_ _ _ ι α=>?_,λZ=>hB rfl (Z _ O)⟩;lia;exact Y.trans α
  ·rintro σ H2 ⟨γ,rfl,Y⟩;have L:=s'.trans Y;have ζ:=L.get ho;lia;refine tO (xs:=N.outs.map V.str) (λi σ ι=>∃β,σ=[ag (.ref s),ag (.ref t),ag (.ref o),ag (.ref d),γ,β]/\Same H2 ι) ⟨_,rfl,Same.refl _⟩ (λi σ ι _ ⟨_,_,α⟩=>SqT.of (α.get ζ)) ?_ ?_
   ·rintro i y σ ι η ⟨β,rfl,α⟩;obtain⟨z,hz,rfl⟩:=aF η;have O:=g.os z (f' hz);lia;refine⟨.str z,"str",d,N.names,rfl,.sc (.str _ (by have:=(g.nm _ O).len;omega)),(τ.same L).same α,g.nm,λ_ _ _ υ ο=>?_,λZ=>hB rfl (Z _ O)⟩;lia;exact α.trans ο
   ·rintro σ ι ⟨β,rfl,α⟩;lia;exact q _ (L.trans α)
theorem Fn (T:Tx K mg a):FnOk P w K mg base CX0 1 a.qh a.Ma ["row","waiting"] Ng:=by
 refine T.xG.1.okA NH fun ζ A outer s H vs Q E Z h=>?_;obtain⟨r,d,zs,rfl,ε,β,lw,⟨kvs,δ,γ⟩,q⟩:=h;have Y:=qf Z;refine⟨_,((aj (ay (aC (Cu (K:=K) rfl rfl) @D T.T8 ZY (aa (b9 (osc:=ah zA) (ON:=n12) (N:=["wire","waiting"]) (n:=1) (fx:=[1]) rfl rfl rfl @I (l7 (K:=K) rfl (!A @H (pv 0) ai)) (aP @C) (λ_ _ _ _ _=>⟨(ar (i:=0) (show ox (["wire","waiting"]:B1) from by decide +kernel) rfl @E),bh,(TK (Ku Y (pv 0) (pv 1)))⟩)) ae))))),av (σ':=[ag _,ag _]) rfl ?_⟩;lia;intro D α;refine rW (xs:=r.2.2.2.map V.str) (λi ys H'=>Cs (λi ys=>ys=((r.2.2.2.take i).map λw=>decide (w∈zs)).map V.bl) H D i ys H') (Cs.zero α rfl) (λi ys H' _ c=>SqT.of (c.same.get β)) (λi x ys H' O c=>?_) (λys H' c=>?_)
 ·obtain⟨z,hz,rfl⟩:=aF O;have hi:=(b'.mp hz).1;lia;refine O7 (c.same.get δ) ?_;rw[uV γ z];refine Cs.put α c.same c.at' c.len @A ?_;rw[c.pv,take_succ hz,fI,fI];rfl
 ·have υ:=c.at';rw[c.pv,a',pT] at υ;lia;refine O8 (SqL.of υ) ?_;have L:(r.2.2.2.map λw=>decide (w∈zs)).any id=il zs r.2.2.2:=by rw[List.any_map];rfl
  lia;rw[L];exact q H' c.same
theorem uq (T:Tx K mg a):FnOk P w K mg base CX0 4 a.dh a.nT ["ins","sums","stores"] (Gd a.bc a.aM a.aB):=by
 refine T.h8.1.okA mz λf1 A outer s H vs Q E hr h=>?_;obtain⟨i,s,t,o,rs,qs,N,rfl,kp,g,q⟩:=h;have hi:=kp.i;have hs:=kp.s;have ht:=kp.t;have li:=g.li;have ls:=g.ls;have lt:=g.lt;have π:rs.length=N.sums.length:=by rw[<-kp.es,a']
 have f0:qs.length=N.sts.length:=by rw[<-kp.et,a']
 refine⟨_,((af (eO (osc:=ah c9) (ON:=n14) (N:=["number","name"]) (n:=2) (fx:=[]) (i:=3) mz.nd rfl rfl rfl rfl rfl rfl @I (qT (K:=K) rfl @D T.fi (pv 0)) (BL (iL (aP @C) (iL (aP @C) wM))) (λ_ _ _ _ _=>⟨(vH (K:=K) (n:=2) rfl rfl (bA (ar (i:=0) (show ox (["number","name"]:B1) from by decide +kernel) rfl @E) (bA (ar (i:=1) (show ox (["number","name"]:B1) from by decide +kernel) rfl @E) iy))),bh,(pV T.OO (rj T) (hr.mono @C) @D T.Om T.fV.2 .nil cJ (!j 1 (!j 0 ae)))⟩))
  (af (bu (iR (K:=K) rfl vr Xu Xt rA (pv 3) (aa (b9 (osc:=ah c9) (ON:=n14) (N:=n10) (n:=1) (fx:=[]) rfl rfl rfl @I (l7 (K:=K) rfl (pv 1)) (aP @C) (λ_ _ _ _ _=>⟨(ar (i:=0) (show ox (n10:B1) from by decide +kernel) rfl @E),bh,(pV T.MM (pZ T) (hr.mono @C) @D T.Ly T.eS.2 .nil cJ (aa (!A @H (pv 0) ai) (aa (!A @H (pv 0) ai) ae)))⟩)) ae)))
  (af (bu (iR (K:=K) rfl vr Xu Xt rA (pv 3) (aa (b9 (osc:=ah c9) (ON:=n14) (N:=["number","row"]) (n:=2) (fx:=[]) rfl rfl rfl @I (qT (K:=K) rfl @D T.fi (pv 2)) (BL (iL (aP @C) (iL (aP @C) wM))) (λ_ _ _ _ _=>⟨(vH (K:=K) (n:=2) rfl rfl (bA (ar (i:=0) (show ox (["number","row"]:B1) from by decide +kernel) rfl @E) (bA (ar (i:=1) (show ox (["number","row"]:B1) from by decide +kernel) rfl @E) iy))),bh,(pV T.ET (nI T) (hr.mono @C) @D T.Em T.dQ.2 .nil cJ (aa (!A @H (pv 1) ai) (aa (!A @H (pv 1) ai) (!j 0 ae))))⟩)) ae)))
  (aj (ay (aV (zj rfl) @D T.Ft Xw (aa (b9 (osc:=ah c9) (ON:=n14) (N:=["wire"]) (n:=1) (fx:=[]) rfl rfl rfl @I (aR (K:=K) rfl (pv 3)) (aP @C) (λ_ _ _ _ _=>⟨(ar (i:=0) (show ox (["wire"]:B1) from by decide +kernel) rfl @E),bh,(eP (aa (aH (K:=K) rfl (pv 0) rfl) (!j 0 ae)))⟩)) ae)))))))),av (σ':=[ag _,ag _,ag _,fy]) rfl ?_⟩
 lia;refine .inr ⟨⟨_,SqT.of hi⟩,?_⟩;intro D hD;refine tP (xs:=N.ins.map V.str) (λi ys H'=>∃ws,WL H H' a.bc a.aM a.aB N D ys (N.ins.take i) ws) ⟨[],rfl,rfl,λ_ h=>hB h @F,bK hD,aD⟩ (λi ys H' _ ⟨ws,c⟩=>SqT.of (c.same.get hi)) (λi x ys H' pz H2 hx ⟨ws,c⟩ fp s2 e2=>?_) (λys H' ⟨ws,c⟩=>?_)
 ·obtain⟨z,hz,rfl⟩:=aF hx;have a0:=(b'.mp hz).1;have lw:ws.length=i:=by have:=ri y1 c.nm;rw[a',sv] at this;omega
  lia;intro x dx H3 τ s3 e3;refine⟨x,dx,.str z,nat i,rfl,e3,λH4 u4=>⟨rfl,?_⟩⟩;have β:Same H2 H4:=λb o e=>u4.oth _ _ (aq e τ) (s3.get e);exact c.put hD (s2.trans β) (.i i dx hz u4.at') (by rw[sv];omega) (take_succ hz)
 ·rw[a',pT] at c;have a5:=c.same.get hs;have d2:=c.same.get ht;have b3:=c.d;lia;intro D2 γ;refine rW (xs:=rs.map λr=>V.ref r.1) (λi ys H2=>∃ws,WL H' H2 a.bc a.aM a.aB N D2 ys ((rs.take i).map (·.2.2.1)) ws) ⟨[],rfl,rfl,λ_ h=>hB h @F,bK γ,aD⟩ (λi ys H2 _ ⟨ws,ι⟩=>SqT.of (ι.same.get a5)) (λi x ε H2 hx ⟨a4,ι⟩=>?_) (fun ε H2 ⟨a4,ι⟩=>?_)
  ·obtain⟨r,Y,rfl⟩:=aF hx;have a0:=(b'.mp Y).1;have hm:=f' Y;have L:=c.same.trans ι.same;have er:=L.get (kp.sr r hm).1;have ew:=L.get (kp.sr r hm).2;lia;intro x dx H3 τ s3 e3;refine⟨x,dx,.str r.2.2.1,r.2.1,_,rfl,s3.get ew,e3,λH4 u4=>⟨rfl,?_⟩⟩;have β:Same H2 H4:=λb o e=>u4.oth _ _ (aq e τ) (s3.get e);exact ι.put γ β (.s r.2.2.2 dx r.2.1 (by rw[<-kp.es];exact ik.mpr ⟨r,hm,rfl⟩) u4.at' (β.get ew)) (by rw[a',sv];omega) (by rw[take_succ Y,fI];rfl)
  ·rw[a',pT] at ι;have χ:=ι.same.get b3;have b6:=ι.d;have ζ:ys.length=N.ins.length:=by rw[c.ey,<-c.nm,a',a']
   have O:ε.length=rs.length:=by rw[ι.ey,a',<-a' (f:=(·.1)),ι.nm,a']
   lia;refine qL χ b6 (by rw[lT];omega) λH3 u3=>?_;have c3:=c.join ι hD u3;have a8:=c3.d;have α:=c3.same.get ht;have e4:(ys++ε).length=N.ins.length + rs.length:=by rw[gs,ζ,O]
   clear c ι χ b6 a5 d2 b3 ζ O γ;generalize ys++ε=ys3 at *
   lia;refine .inr ⟨⟨_,SqT.of α⟩,?_⟩;intro D4 a3;refine tP (xs:=qs.map λq=>V.ref q.1) (λi ys H'=>∃ws,WL H3 H' a.bc a.aM a.aB N D4 ys ((qs.take i).map (·.2.1)) ws) ⟨[],rfl,rfl,λ_ h=>hB h @F,bK a3,aD⟩ (λi ys H' _ ⟨ws,c⟩=>SqT.of (c.same.get α)) (λi x ys H4 pz H5 hx ⟨ws,c⟩ fp ο e5=>?_) (λc0 H4 ⟨c1,c4⟩=>?_)
   ·obtain⟨r,Y,rfl⟩:=aF hx;have a0:=(b'.mp Y).1;have hm:=f' Y;have er:=ο.get (c.same.get (c3.same.get (kp.tr r hm)));lia;intro x dx H6 f6 s6 e6;refine⟨x,dx,.str r.2.1,.str r.2.2,nat i,rfl,e6,λH7 u7=>⟨rfl,?_⟩⟩;have υ:Same H5 H7:=λb o e=>u7.oth _ _ (aq e f6) (s6.get e);exact c.put a3 (ο.trans υ) (.t i r.2.2 dx (by rw[<-kp.et,kf,Y];rfl) u7.at') (by rw[a',sv];omega) (by rw[take_succ Y,fI];rfl)
   ·rw[a',pT] at c4;have φ:=c4.same.get a8;have η:=c4.d;have e1:c0.length=qs.length:=by rw[c4.ey,a',<-a' (f:=(·.1)),c4.nm,a']
    lia;refine qL φ η (by rw[lT];omega) λH5 u5=>?_;have ρ:=c3.join c4 hD u5;have a7:=ρ.d;have e0:=ρ.ey
    have ξ:N.ins++rs.map (·.2.2.1)++qs.map (·.2.1)=N.names:=by
     unfold Nt.names;rw[<-kp.es,<-kp.et,y2,y2];rfl
    rw[ξ] at ρ;clear c3 c4 φ η a8 α a3;rw[e0] at a7;generalize ws++a4++c1=wl at *
    have e9:wl.length<=100:=by rw[<-a' (f:=(·.1)),ρ.nm,<-ξ,gs,gs,a',a'];omega
    lia;intro θ a6;refine bf (xs:=wl.map λq=>V.ref q.2) (λi ys H'=>∃ps:ee (dt×Key×V),ys=ps.map (λq=>V.ref q.1)/\ps.map (·.2)=(wl.take i).map (λq=>((zt q.1:Key),V.ref q.2))/\(∀q∈ps,H' q.1=ag (.tup [kV q.2.1,q.2.2]))/\Same H5 H'/\H' θ=ag (.lst ys)) ⟨[],rfl,rfl,λ_ h=>hB h @F,bK a6,aD⟩ (λi ys H' _ ⟨_,_,_,_,s',_⟩=>SqL.of (s'.get a7)) ?_ ?_
    ·rintro i y ys H' hy ⟨ps,rfl,Z,hq,s',eD⟩;obtain⟨ν,ψ,rfl⟩:=aF hy;have a0:=(b'.mp ψ).1;have e8:ps.length=i:=by have:=ri y1 Z;rw[a',a',sv] at this;omega
     have wb:=(ρ.ob ν (f' ψ)).same s'
     have fld:∀{Q:VK},Q (.str ν.1) H'->RV K (YL "name") Q (V.ref ν.2) H':=λh=>by
      cases wb with
      | i k dx hk e=>exact aG e T.mw T.rz rfl h
      | s ws dx δ hk e et=>exact aG e T.j8 T.oW rfl h
      | t k y dx hk e=>exact aG e T.fK T.mE rfl h
     lia;refine fld ?_;lia;intro tt H6 f6 s6 e6;have d1:tt≠θ:=λz=>by rw[z,eD] at f6;cases f6
     refine⟨s6.get eD,by rw[a'];exact aZ @A,ps++[(tt,zt ν.1,.ref ν.2)],by rw[fI];rfl,by rw[fI,Z,take_succ ψ,fI];rfl,λq' ω=>?_,λb o e=>?_,aD⟩
     ·rcases gF.mp ω with h | h
      ·have e:=hq q' h;rw[aE (cn e eD λz=>by cases z)];exact s6.get e
      ·rw[gn] at h;subst h;rw[aE d1];exact e6
     ·rw[aE (aq e a6)];exact s6.get (s'.get e)
    ·rintro ys H6 ⟨ps,rfl,Z,hq,s',eD⟩;rw[a',pT] at Z
     have ek:ps.map (λq=>q.2.1)=N.names.map Sum.inr:=by
      have:=ri (Y5 (·.1)) Z;rw[y2,y2] at this;rw[<-ρ.nm,y2];exact this
     lia;refine JX eD hq (by rw[ek];exact YN _ (λx y h z=>h (YK z)) g.nd) λd H7 f7 s7 e7=>?_;have υ:=s'.trans s7;rw[Z] at e7;exact q d H7 wl ((ρ.same.trans s').free f7) (ρ.same.trans υ) ⟨e7,ρ.nm,λq' ω=>(ρ.ob q' ω).same υ⟩
theorem GS (T:Tx K mg a):FnOk P w K mg base CX0 2 a.jW a.Ce ["sums"] Gi:=by
 refine T.r6.1.okA jq λh3 A outer s H vs Q E υ h=>?_;obtain⟨s,rs,N,rfl,hs,Z,ε,g,q⟩:=h;have f8:rs.length=N.sums.length:=by rw[<-ε,a']
 have ls:=g.ls
 refine⟨_,((af (aA (i:=1) jq.nd rfl @E (cL ae))
  (af (aA (i:=2) jq.nd rfl @E (aV (cZ (K:=K) rfl) @D T.gT oD (!j 0 ae)))
  (af (uY la (aJ qZ (aC (aK (K:=K) rfl) @D T.eX lJ (!j 2 ae)) ai (aU _)) (af (aA (i:=3) jq.nd rfl @E (aV (zj rfl) @D T.Ft Xw (!j 2 ae)))
  (af (eO (osc:=ah nj) (ON:=["sums","names","left","waiting","ready"]) (N:=n12) (n:=1) (fx:=[3]) (i:=4) jq.nd rfl rfl rfl rfl rfl rfl @I (aR (K:=K) rfl (pv 2)) (aP @C) (λ_ _ _ _ _=>⟨(ar (i:=0) (show ox (n12:B1) from by decide +kernel) rfl @E),(nE (fW (cK (ao (Fn T) υ T.Lr T.xG (!j 0 (!j 1 ae)))))),(!A @H (pv 0) ai)⟩))
  (af (cc (aJ mR (aC (aK (K:=K) rfl) @D T.eX lJ (!j 4 ae)) ai (aU _)) (aj jH) aL)
  (af (bu (iR (K:=K) rfl vr Xu Xt rA (pv 1) (!j 4 ae)))
  (aj (eO (osc:=ah nj) (ON:=["sums","names","left","waiting","ready"]) (N:=n12) (n:=1) (fx:=[3]) (i:=2) jq.nd rfl rfl rfl rfl rfl rfl @I (aR (K:=K) rfl (pv 2)) (aP @C) (λ_ _ _ _ _=>⟨(ar (i:=0) (show ox (n12:B1) from by decide +kernel) rfl @E),(nE (cK (ao (Fn T) υ T.Lr T.xG (!j 0 (!j 1 ae))))),(pv 0)⟩))))))))
  (aj (ay (pv 1))))))),av (σ':=[ag _,fy,fy,fy,fy]) rfl ?_⟩
 lia;intro ω H1 f1 s1 e1;have g4:=s1.get hs;lia;intro ξ H2 f2 s2 e2;lia;have nd:=g.nds;refine⟨fun μ σ' H'=>∃(od:B1) (lf:ee Rw) (ξ:dt) (v3 v4:pa V),σ'=[ag (.ref s),ag (.ref ω),ag (.ref ξ),v3,v4]/\Same H H'/\H' ω=ag (.lst (od.map V.str))/\H' ξ=ag (.lst (lf.map λr=>V.ref r.1))/\ξ≠ω/\(∀r∈lf,r∈rs)/\Otp N.sums od (lf.map (·.2.2))/\μ=lf.length,⟨rs.length,[],rs,ξ,fy,fy,rfl,s1.trans s2,s2.get e1,e2,λz=>(by rw[z,e1] at f2;cases f2),λ_ h=>h,by rw[ε];exact Otp.start _,rfl⟩,?_⟩;rintro μ σ' H3 ⟨od,lf,ξ,v3,v4,rfl,s3,en,el,c5,sub,ot,rfl⟩;lia;rw[a'];by_cases h0:lf=[]
 ·subst h0;refine j9 (gz @F) ?_;lia;exact q ω H3 od f1 s3 en ot.done
 ·have f6:0 < lf.length:=XY.mpr h0;refine pK (hG @A) ?_;have ο:=ot.perm.nodup_iff.mpr nd;rw[VS] at ο;have d1:(lf.map (·.2.2.1)).Nodup:=by have:=ο.2.1;rw[y2] at this;exact this
  have f9:od.length + lf.length=N.sums.length:=by have:=ot.perm.length_eq;rw[gs,a',a',a'] at this;exact this
  have a0:=ot.ready g (by simpa using h0);have b3:(lf.map (·.2.2)).map (·.1)=lf.map (·.2.2.1):=by rw[y2];rfl
  rw[b3] at a0;have ι:∀r∈lf,∀{H'},Same H H'->H' r.1=ag (.tup [.str r.2.2.1,.ref r.2.1])/\H' r.2.1=ag (.tup (r.2.2.2.map V.str)):=λr υ H' s'=>⟨s'.get (Z r (sub r υ)).1,s'.get (Z r (sub r υ)).2⟩;have Y:∀r∈lf,r.2.2.2.length<=24:=λr υ=>g.lw r.2.2 (by rw[<-ε];exact ik.mpr ⟨r,sub r υ,rfl⟩);refine⟨fun σ' H'=>∃(od:B1) (θ:ee Rw) (ξ:dt) (v3 v4:pa V),σ'=[ag (.ref s),ag (.ref ω),ag (.ref ξ),v3,v4]/\Same H H'/\H' ω=ag (.lst (od.map V.str))/\H' ξ=ag (.lst (θ.map λr=>V.ref r.1))/\ξ≠ω/\(∀r∈θ,r∈rs)/\Otp N.sums od (θ.map (·.2.2))/\θ.length < lf.length,fun σ' H' ⟨od,θ,ξ,v3,v4,a1,a2,a3,a4,χ,ψ,a7,a8⟩=>⟨θ.length,a8,od,θ,ξ,v3,v4,a1,a2,a3,a4,χ,ψ,a7,rfl⟩,?_⟩;lia;refine JX (ps:=lf.map λr=>(r.1,zt r.2.2.1,V.ref r.2.1)) (by rw[y2];exact el) (fun ν e6=>?_) ?_ λd H4 f4 s4 ρ=>?_
  ·obtain⟨r,η,rfl⟩:=ik.mp e6;exact(ι r η s3).1
  ·rw[y2];have:=YN (zt:mu->Key) (S:=λa b=>a≠b) (λx y h z=>h (YK z)) d1;rw[y2] at this;exact this
  have τ:Knw H4 d (lf.map (·.2.2.1)):=⟨_,ρ,by rw[y2,y2,y2];rfl⟩;have γ:=s4.get el;have β:=s4.get en;have c1:=s3.trans s4;lia;intro D5 c4;refine bf (xs:=lf.map λr=>V.ref r.1) (λi ys H'=>ys=(((lf.take i).filter λr=> !il (lf.map (·.2.2.1)) r.2.2.2).map (·.2.2.1)).map V.str/\Same H4 H'/\H' D5=ag (.lst ys)) ⟨rfl,bK c4,aD⟩ (λi ys H' _ ⟨_,s',_⟩=>SqL.of (s'.get γ)) (λi x ys H' hx ⟨ey,s',e'⟩=>?_) (λys H5 ⟨ey,s5,e5⟩=>?_)
  ·obtain⟨r,η,rfl⟩:=aF hx;have hm:=f' η;have e8:=(b'.mp η).1;have rr:=ι r hm (c1.trans s');have r1:=rr.1;have fs:(lf.take (i + 1)).filter (λr=> !il (lf.map (·.2.2.1)) r.2.2.2)=(lf.take i).filter (λr=> !il (lf.map (·.2.2.1)) r.2.2.2)++(if (!il (lf.map (·.2.2.1)) r.2.2.2)=true then [r] else []):=by rw[take_succ η,Wu,XJ];rfl
   lia;refine⟨r,d,lf.map (·.2.2.1),rfl,rr.1,rr.2,Y r hm,τ.same s',λH6 s6=>?_⟩;have f7:=s6.get r1;cases hw:il (lf.map (·.2.2.1)) r.2.2.2 with
   | true=>
     lia;refine⟨?_,s'.trans s6,s6.get e'⟩;rw[fs,hw,ey];simp
   | false=>
     lia;refine⟨s6.get e',?_,?_,λb o e=>?_,aD⟩
     ·rw[ey,a',a'];have:=WJ (λr:Rw=> !il (lf.map (·.2.2.1)) r.2.2.2) (lf.take i);rw[sv] at this;exact aZ @A
     ·rw[fs,hw,ey];simp
     ·rw[aE (aq e c4)];exact s6.get (s'.get e)
  ·rw[a',pT] at ey;have fm:((lf.map (·.2.2)).filter λr=> !il (lf.map (·.2.2.1)) r.2)=(lf.filter λr=> !il (lf.map (·.2.2.1)) r.2.2.2).map (·.2.2):=by rw[al4];rfl
   have e9:((lf.map (·.2.2)).filter λr=>il (lf.map (·.2.2.1)) r.2)=(lf.filter λr=>il (lf.map (·.2.2.1)) r.2.2.2).map (·.2.2):=by rw[al4];rfl
   rw[fm,a'] at a0;have e0:ys.length=(lf.filter λr=> !il (lf.map (·.2.2.1)) r.2.2.2).length:=by rw[ey,a',a']
   have g3:=WJ (λr:Rw=> !il (lf.map (·.2.2.1)) r.2.2.2) lf;have δ:=Es (λr:Rw=>il (lf.map (·.2.2.1)) r.2.2.2) lf a0;have c2:=ot.step nd;rw[b3,fm,e9,y2] at c2;have f5:=s5.get γ;have f0:=s5.get β;lia;refine j9 (gz λz=>by have:=V.int.inj z;omega) ?_;lia;refine qL f0 e5 (by rw[a',e0,lT];omega) λH6 O=>?_;have b6:∀b o,b≠ω->H4 b=ag o->H6 b=ag o:=λb o n e=>O.oth _ _ n (s5.get e);have c0:Same H H6:=λb o e=>b6 b o (aq e f1) (c1.get e);have f3:=O.oth _ _ c5 f5;have ζ:=O.at';rw[ey,<-fI] at ζ
   have e3:Knw H6 d (lf.map (·.2.2.1)):=by
    obtain⟨kvs,ed,ek⟩:=τ;exact⟨kvs,b6 _ _ (cn ed β λz=>by cases z) ed,ek⟩
   lia;intro π φ;refine bf (xs:=lf.map λr=>V.ref r.1) (λi ys H'=>ys=((lf.take i).filter λr=>il (lf.map (·.2.2.1)) r.2.2.2).map (λr=>V.ref r.1)/\Same H6 H'/\H' π=ag (.lst ys)) ⟨rfl,bK φ,aD⟩ (λi ys H' _ ⟨_,s',_⟩=>SqL.of (s'.get f3)) (λi x ys H' hx ⟨ey,s',e'⟩=>?_) (λys H7 ⟨α,s7,e7⟩=>?_)
   ·obtain⟨r,η,rfl⟩:=aF hx;have hm:=f' η;have e8:=(b'.mp η).1;have rr:=ι r hm (c0.trans s');have fs:(lf.take (i + 1)).filter (λr=>il (lf.map (·.2.2.1)) r.2.2.2)=(lf.take i).filter (λr=>il (lf.map (·.2.2.1)) r.2.2.2)++(if il (lf.map (·.2.2.1)) r.2.2.2=true then [r] else []):=by rw[take_succ η,Wu,XJ];rfl
    lia;refine⟨r,d,lf.map (·.2.2.1),rfl,rr.1,rr.2,Y r hm,e3.same s',λH8 L=>?_⟩;cases hw:il (lf.map (·.2.2.1)) r.2.2.2 with
    | false=>
      lia;refine⟨?_,s'.trans L,L.get e'⟩;rw[fs,hw,ey];simp
    | true=>
      lia;refine⟨L.get e',?_,?_,λb o e=>?_,aD⟩
      ·rw[ey,a'];have:=WJ (λr:Rw=>il (lf.map (·.2.2.1)) r.2.2.2) (lf.take i);rw[sv] at this;exact aZ @A
      ·rw[fs,hw,ey];simp
      ·rw[aE (aq e φ)];exact L.get (s'.get e)
   ·rw[a',pT] at α;rw[α] at e7;lia;have c3:∀r∈lf.filter (λr=>il (lf.map (·.2.2.1)) r.2.2.2),r∈rs:=λr υ=>sub r (WB.mp υ).1;have d2:π≠ω:=λz=>(by rw[z,ζ] at φ;cases φ);exact⟨_,_,π,_,_,rfl,c0.trans s7,s7.get ζ,e7,d2,c3,c2,δ⟩
theorem jL (T:Tx K mg a):FnOk P w K mg base (CX1 P w) 9 a.cy a.pe ["self","ins","sums","stores","outs"] (Qi a.cV a.bc a.aM a.aB a.cf):=by
 refine T.eL.1.okX vq (λvs H Q E h=>?_) (λu8 A outer s H vs Q E hr h=>?_)
 ·obtain⟨x,dx,i,s,t,o,rs,qs,N,rfl,_⟩:=h;rfl
 ·obtain⟨x,dx,i,s,t,o,rs,qs,N,rfl,hx,hn,li,qQ,qE,r7⟩:=h;have u1:rs.length=N.sums.length:=by rw[<-hn.es,a']
  have u2:qs.length=N.sts.length:=by rw[<-hn.et,a']
  refine⟨_,((af (bu (hX (xX T) (hr.mono @C) @D T.As T.ia.1.2 T.ia.2 .nil cQ (!j 1 (!j 2 (!j 3 (!j 4 ae))))))
   (af (bu (ao (xZ T) hr T.Au T.jl (aa (ax ke (ax ke (aV (cZ (K:=K) rfl) @D T.gT oD (!j 1 ae)) (b9 (osc:=ah dE) (ON:=n15) (N:=n10) (n:=1) (fx:=[]) rfl rfl rfl @I (aR (K:=K) rfl (pv 2)) (aP @C) (λ_ _ _ _ _=>⟨(ar (i:=0) (show ox (n10:B1) from by decide +kernel) rfl @E),bh,(!A @H (pv 0) ai)⟩))) (b9 (osc:=ah dE) (ON:=n15) (N:=n10) (n:=1) (fx:=[]) rfl rfl rfl @I (aR (K:=K) rfl (pv 3)) (aP @C) (λ_ _ _ _ _=>⟨(ar (i:=0) (show ox (n10:B1) from by decide +kernel) rfl @E),bh,(!A @H (pv 0) ai)⟩))) ae)))
   (af (df (K:=K) rfl (pv 0) (aV (dk (K:=K) rfl) @D T.gC u' (!j 1 ae)) rfl)
   (af (df (K:=K) rfl (pv 0) (aV (dk (K:=K) rfl) @D T.gC u' (aa (b9 (osc:=ah dE) (ON:=n15) (N:=n10) (n:=1) (fx:=[]) rfl rfl rfl @I (aR (K:=K) rfl (pv 2)) (aP @C) (λ_ _ _ _ _=>⟨(ar (i:=0) (show ox (n10:B1) from by decide +kernel) rfl @E),bh,(eP (aa (!A @H (pv 0) ai) (aa (aV (dk (K:=K) rfl) @D T.gC u' (aa (!A @H (pv 0) ai) ae)) ae)))⟩)) ae)) rfl)
   (af (df (K:=K) rfl (pv 0) (aV (dk (K:=K) rfl) @D T.gC u' (aa (b9 (osc:=ah dE) (ON:=n15) (N:=n10) (n:=1) (fx:=[]) rfl rfl rfl @I (aR (K:=K) rfl (pv 3)) (aP @C) (λ_ _ _ _ _=>⟨(ar (i:=0) (show ox (n10:B1) from by decide +kernel) rfl @E),bh,(eP (aa (!A @H (pv 0) ai) (aa (!A @H (pv 0) ai) ae)))⟩)) ae)) rfl)
   (af (df (K:=K) rfl (pv 0) (aV (dk (K:=K) rfl) @D T.gC u' (!j 4 ae)) rfl)
   (af (df (K:=K) rfl (pv 0) (ao (uq T) hr T.wN T.h8 (aa (aH (K:=K) rfl (pv 0) rfl) (aa (aH (K:=K) rfl (pv 0) rfl) (aa (aH (K:=K) rfl (pv 0) rfl) ae)))) rfl)
   (af (bu (ao (xV T) hr T.Aq T.ji (aa (aH (K:=K) rfl (pv 0) rfl) (aa (aH (K:=K) rfl (pv 0) rfl) (aa (aH (K:=K) rfl (pv 0) rfl) (aa (aH (K:=K) rfl (pv 0) rfl) ae))))))
   (aj (df (K:=K) rfl (pv 0) (aV (dk (K:=K) rfl) @D T.gC u' (aa (ao (GS T) hr T.Ls T.r6 (aa (aH (K:=K) rfl (pv 0) rfl) ae)) ae)) rfl))))))))))),av (σ':=[ag _,ag _,ag _,ag _,ag _]) rfl ?_⟩
  lia;refine⟨i,s,t,o,rs,qs,N,rfl,hn,li,λg H1 s1=>?_,λhb=>qE hb,r7⟩;have ls:=g.ls;have lt:=g.lt;have lo:=g.lo;have q:=qQ g;have ν:=hn.same s1;have s3:=ν.i;have q2:=ν.s;have p6:=ν.t;lia;intro D2 H2 f2 s2 e2;have q1:=s2.get q2;lia;intro D3 m1;refine bf (xs:=rs.map λr=>V.ref r.1) (λi ys H'=>Cs (λi ys=>ys=((rs.take i).map (·.2.2.1)).map V.str) H2 D3 i ys H') (Cs.zero m1 rfl) (λi ys H' _ c=>SqL.of (c.same.get q1)) (λi x ys H' hx c=>?_) (λys H3 c=>?_)
  ·obtain⟨r,O,rfl⟩:=aF hx;have l4:=(b'.mp O).1;have er:=c.same.get (s2.get (ν.sr r (f' O)).1);lia;refine Cs.put m1 c.same c.at' c.len @A ?_;rw[c.pv,take_succ O,fI,fI];rfl
  ·have e3:=c.at';rw[c.pv,a',pT] at e3;have l0:=c.same;clear c;refine qO (l0.get e2) e3 (by rw[a',a',a',lT];omega) λD4 H4 f4 s4 e4=>?_;have a3:=s2.trans (l0.trans s4);have p0:=a3.get p6;lia;intro D5 m0;refine bf (xs:=qs.map λr=>V.ref r.1) (λi ys H'=>Cs (λi ys=>ys=((qs.take i).map (·.2.1)).map V.str) H4 D5 i ys H') (Cs.zero m0 rfl) (λi ys H' _ c=>SqL.of (c.same.get p0)) (λi x ys H' hx c=>?_) (λys H5 c=>?_)
   ·obtain⟨r,O,rfl⟩:=aF hx;have l4:=(b'.mp O).1;have er:=c.same.get (a3.get (ν.tr r (f' O)));lia;refine Cs.put m0 c.same c.at' c.len @A ?_;rw[c.pv,take_succ O,fI,fI];rfl
   ·have e5:=c.at';rw[c.pv,a',pT] at e5;have k8:=c.same;clear c
    have q7:N.ins++rs.map (·.2.2.1)++qs.map (·.2.1)=N.names:=by
     unfold Nt.names;rw[<-hn.es,<-hn.et,y2,y2];rfl
    have u3:N.names.length<=100:=by rw[<-q7,gs,gs,a',a'];omega
    refine qO (k8.get e4) e5 (by rw[gs,a',a',a',a',a',lT];omega) λD6 H6 f6 s6 e6=>?_;rw[<-fI,<-fI,q7] at e6;have a4:=a3.trans (k8.trans s6);lia;refine⟨D6,N.names,rfl,e6,@A,g.nd,g.nm,λH7 s7=>?_⟩;have f5:=s1.trans (a4.trans s7);have ψ:=hn.same f5;have l2:=f5.get hx;clear e6 e5 e4 e3 e2 a4 a3 q1 p0 s3 q2 p6 ν m1 m0 f2 f4 f6 s1 s2 l0 s4 k8 s6 s7;have s0:=ψ.i;lia;intro ti H8 f8 s8 e8;lia;refine dc (s8.get l2) T.du T.rq (by show 0 < 1000;decide) rfl λH9 u9=>?_;have l1:=s8.get l2;have χ:=(Kx.upd u9).hnd2 l1 (ψ.same s8);have e9:=(Kx.upd u9).tup l1 e8;have ζ:=u9.at';have k9:Kx x H H9:=(Kx.same (f5.trans s8)).trans (Kx.upd u9);have q0:=χ.s;clear u9 l1 s8 e8 f8 s0 l2 ψ f5;lia;intro f0 ω;refine bf (xs:=rs.map λr=>V.ref r.1) (λi ys H'=>∃γ:ee Rw,ys=γ.map (λr=>V.ref r.1)/\γ.map (·.2.2)=(rs.take i).map (·.2.2)/\RwK H' γ/\Same H9 H'/\H' f0=ag (.lst ys)) ⟨[],rfl,rfl,λ_ h=>hB h @F,bK ω,aD⟩ (λi ys H' _ ⟨_,_,_,_,s',_⟩=>SqL.of (s'.get q0)) ?_ ?_
    ·rintro i y ys H' hy ⟨γ,rfl,c4,hk,s',eD⟩;obtain⟨r,O,rfl⟩:=aF hy;have l4:=(b'.mp O).1;have hm:=f' O;have er:=s'.get (χ.sr r hm).1;have q5:γ.length=i:=by have:=ri y1 c4;rw[a',a',sv] at this;omega
     rcases(χ.sr r hm).2 with ew | ew
     ·have ew:=s'.get ew;lia;intro tw t9 f9 ι g4;lia;intro tr ε e7 c0 c5;have d2:tr≠f0:=λz=>(by rw[z,ι.get eD] at e7;cases e7);have θ:tw≠f0:=λz=>(by rw[z,eD] at f9;cases f9);have c2:=c0.get (ι.get eD);refine⟨c2,by rw[a'];exact aZ @A,γ++[(tr,tw,r.2.2)],by rw[fI];rfl,by rw[fI,c4,take_succ O,fI];rfl,λr2 h2=>?_,λb ob e=>?_,aD⟩
      ·rcases gF.mp h2 with h2 | h2
       ·exact((hk.same ι).same c0).updL c2 (λb ob n e=>by rw[aE n];exact e) r2 h2
       ·rw[gn] at h2;subst h2;exact⟨by rw[aE d2];exact c5,by rw[aE θ];exact c0.get g4⟩
      ·rw[aE (aq e ω)];exact c0.get (ι.get (s'.get e))
     ·have ew:=s'.get ew;lia;intro tr ε e7 c0 c5;have ι:Same H' H':=Same.refl _;have d2:tr≠f0:=λz=>(by rw[z,ι.get eD] at e7;cases e7);have θ:r.2.1≠f0:=λz=>(by rw[z,eD] at ew;cases ew);have c2:=c0.get (ι.get eD);refine⟨c2,by rw[a'];exact aZ @A,γ++[(tr,r.2.1,r.2.2)],by rw[fI];rfl,by rw[fI,c4,take_succ O,fI];rfl,λr2 h2=>?_,λb ob e=>?_,aD⟩
      ·rcases gF.mp h2 with h2 | h2
       ·exact((hk.same ι).same c0).updL c2 (λb ob n e=>by rw[aE n];exact e) r2 h2
       ·rw[gn] at h2;subst h2;exact⟨by rw[aE d2];exact c5,by rw[aE θ];exact c0.get ew⟩
      ·rw[aE (aq e ω)];exact c0.get (ι.get (s'.get e))
    ·rintro ys v6 ⟨γ,rfl,c4,hk,m3,q9⟩;rw[a',pT,hn.es] at c4;lia;intro ts t9 f9 ι g4;have δ:=m3.trans ι;have a8:=δ.get ζ;lia;refine dc a8 T.du T.lA (by show 1 < 1000;decide) rfl fun ε c3=>?_;have ο:=(Kx.upd c3).hnd2 a8 (χ.same δ);have k7:=(Kx.upd c3).tup a8 (δ.get e9);have c5:=(Kx.upd c3).tup a8 g4;have h4:=(Kx.upd c3).rw a8 (hk.same ι);have j1:=c3.at';have n3:Kx x H ε:=k9.trans ((Kx.same δ).trans (Kx.upd c3));have Y:=ο.t;clear c3 a8 δ m3 ι g4 f9 hk q9 ω χ q0 ζ e9 k9;lia;intro r1 e1;refine bf (xs:=qs.map λr=>V.ref r.1) (λi ys H'=>∃a5:ee Qs,ys=a5.map (λr=>V.ref r.1)/\a5.map (·.2)=(qs.take i).map (·.2)/\QsK H' a5/\Same ε H'/\H' r1=ag (.lst ys)) ⟨[],rfl,rfl,λ_ h=>hB h @F,bK e1,aD⟩ (λi ys H' _ ⟨_,_,_,_,s',_⟩=>SqL.of (s'.get Y)) ?_ ?_
     ·rintro i y ys H' hy ⟨a5,rfl,e0,hk,s',eD⟩;obtain⟨r,O,rfl⟩:=aF hy;have l4:=(b'.mp O).1;have er:=s'.get (ο.tr r (f' O));have q5:a5.length=i:=by have:=ri y1 e0;rw[a',a',sv] at this;omega
      lia;intro tr t7 f7 a3 g3;have d2:tr≠r1:=λz=>(by rw[z,eD] at f7;cases f7);have k6:=a3.get eD;refine⟨k6,by rw[a'];exact aZ @A,a5++[(tr,r.2)],by rw[fI];rfl,by rw[fI,e0,take_succ O,fI];rfl,λr2 h2=>?_,λb ob e=>?_,aD⟩
      ·rcases gF.mp h2 with h2 | h2
       ·exact(hk.same a3).updL k6 (λb ob n e=>by rw[aE n];exact e) r2 h2
       ·rw[gn] at h2;subst h2;rw[aE d2];exact g3
      ·rw[aE (aq e e1)];exact a3.get (s'.get e)
     ·rintro ys v5 ⟨a5,rfl,e0,q3,m2,q8⟩;rw[a',pT,hn.et] at e0;lia;intro tk t7 f7 a3 g3;have L:=m2.trans a3;have a0:=L.get j1;lia;refine dc a0 T.du T.dW (by show 2 < 1000;decide) rfl λt4 b3=>?_;have Z:=(Kx.upd b3).hnd2 a0 (ο.same L);have k4:=(Kx.upd b3).tup a0 (L.get k7);have β:=(Kx.upd b3).tup a0 (L.get c5);have h3:=(Kx.upd b3).rw a0 (h4.same L);have α:=(Kx.upd b3).tup a0 g3;have h5:=(Kx.upd b3).qs a0 (q3.same a3);have j0:=b3.at';have n2:Kx x H t4:=n3.trans ((Kx.same L).trans (Kx.upd b3));have q4:=Z.o;clear b3 a0 L m2 a3 g3 f7 q3 q8 e1 ο Y j1 c5 k7 n3 h4;lia;intro to v4 s9 a4 π;have φ:=a4.get j0;lia;refine dc φ T.du T.sR (by show 3 < 1000;decide) rfl λr0 f1=>?_;have υ:Kpt r0 ti ts tk to γ a5 N:=(Kx.upd f1).kpt φ ⟨a4.get k4,a4.get β,h3.same a4,c4,a4.get α,h5.same a4,e0,π⟩;have c1:=f1.at';have n0:Kx x H r0:=n2.trans ((Kx.same a4).trans (Kx.upd f1));clear f1 φ a4 π s9 j0 n2 k4 β h3 α h5 q4 Z;lia;refine aG c1 T.du T.rq rfl ?_;lia;refine aG c1 T.du T.lA rfl ?_;lia;refine aG c1 T.du T.dW rfl ?_;lia;refine⟨ti,ts,tk,to,γ,a5,N,rfl,υ,g,λdb v3 ws s5 f3 wi=>?_⟩;have a7:=f3.get c1;lia;refine dc a7 T.du T.h7 (by show 4 < 1000;decide) rfl λt3 d1=>?_;have q6:db≠x:=cn wi.d a7 λz=>by cases z
      have o0:∀q∈ws,q.2≠x:=λq hq z=>by
       obtain⟨C,u7,fs,e,_⟩:=(wi.ob q hq).name;rw[z,a7] at e;injection e with e
       injection e with _ _ e
       injection e with e _
       injection e with e _
       exact hB e @C
      have h0:=(Kx.upd d1).wia wi q6 o0 a7;have τ:=(Kx.upd d1).kpt a7 (υ.same f3);have a6:=d1.at';have r5:Kx x H t3:=n0.trans ((Kx.same f3).trans (Kx.upd d1));clear d1 wi υ c1 a7 f3 n0 s5;lia;refine aG a6 T.du T.lA rfl ?_;lia;refine aG a6 T.du T.dW rfl ?_;lia;refine aG a6 T.du T.sR rfl ?_;lia;refine aG a6 T.du T.h7 rfl ?_;lia;refine⟨ti,ts,tk,to,db,γ,a5,N,rfl,τ,g,h0.knw,λv2 η=>?_⟩;have n7:=η.get a6;have h6:=τ.same η;lia;refine aG n7 T.du T.lA rfl ?_;lia;refine⟨ts,γ,N,rfl,h6.s,h6.sr,c4,g,λDo v1 od u5 r4 u6 tp=>?_⟩;lia;intro tq v0 u4 r3 t1;have b6:=η.trans (r4.trans r3);have ξ:=b6.get a6;lia;refine dc ξ T.du T.nL (by show 5 < 1000;decide) rfl λt2 ρ=>?_;lia;exact q t2 od (r5.trans ((Kx.same b6).trans (Kx.upd ρ))) ⟨⟨dx,ti,ts,tk,to,db,tq,γ,a5,ws,ρ.at',(Kx.upd ρ).kpt ξ (τ.same b6),(Kx.upd ρ).wia (h0.same b6) q6 o0 ξ,(Kx.upd ρ).tup ξ t1⟩,g,tp⟩
noncomputable abbrev NAof (a:Ad):NP:=λH p N od=>NetA H a.cV a.bc a.aM a.aB p N od
theorem jK (T:Tx K mg a):FnOk P w K mg base CX0 1 a.cx a.pd ["self"] (Gm (NAof a)):=by
 refine T.dN.1.okA vp λL A outer s H vs Q E Z h=>?_;obtain⟨p,N,od,rfl,na,q⟩:=h;obtain⟨dx,i,s,t,o,d,Y,rs,qs,ws,hp,kp,O,eq⟩:=na.ho;have hi:=kp.i;refine⟨_,((aj (ay (aV (cZ (K:=K) rfl) @D T.gT oD (aa (aH (K:=K) rfl (pv 0) rfl) ae))))),av (σ':=[ag _]) rfl ?_⟩;lia;refine aG hp T.du T.rq rfl ?_;lia;exact q
theorem ja (T:Tx K mg a):FnOk P w K mg base CX0 1 a.b4 a.nZ ["self"] (Qg (NAof a)):=by
 refine T.dr.1.okA uo λL A outer s H vs Q E Z h=>?_;obtain⟨p,N,od,rfl,na,q⟩:=h;obtain⟨dx,i,s,t,o,d,Y,rs,qs,ws,hp,kp,O,eq⟩:=na.ho;have ho:=kp.o;refine⟨_,((aj (ay (aV (cZ (K:=K) rfl) @D T.gT oD (aa (aH (K:=K) rfl (pv 0) rfl) ae))))),av (σ':=[ag _]) rfl ?_⟩;lia;refine aG hp T.du T.sR rfl ?_;lia;exact q
theorem iA (T:Tx K mg a):FnOk P w K mg base CX0 1 a.bQ a.mJ ["self"] (Jq (NAof a)):=by
 refine T.cN.1.okA sC λZ A outer s H vs Q E γ h=>?_;obtain⟨p,N,od,rfl,na,q⟩:=h;obtain⟨dx,i,s,t,o,d,β,rs,qs,ws,hp,kp,α,eq⟩:=na.ho;have ht:=kp.t;refine⟨_,((aj (ay (aV (cZ (K:=K) rfl) @D T.gT oD (aa (aH (K:=K) rfl (pv 0) rfl) ae))))),av (σ':=[ag _]) rfl ?_⟩;lia;refine aG hp T.du T.dW rfl ?_;lia;intro D H2 O L Y;exact q D H2 qs O L Y (fun ν m=>L.get (kp.tr ν m)) kp.et
theorem jc (T:Tx K mg a):FnOk P w K mg base CX0 1 a.bg a.j4 ["self"] (Qj (NAof a)):=by
 refine T.ck.1.okA oK λa0 A outer s H vs Q E hr h=>?_;obtain⟨p,N,od,rfl,na,q⟩:=h;obtain⟨dx,i,s,t,o,d,tq,rs,qs,ws,hp,kp,wi,eq⟩:=na.ho;have g:=na.g;have π:=z6 g na.tp;have hi:=kp.i;have ht:=kp.t;have ν:qs.length=N.sts.length:=by rw[<-kp.et,a']
 have φ:=π;unfold need at φ;rw[gs,gs,a'] at φ;refine⟨_,((aj (ay (ax ke (ax ke (aV (cZ (K:=K) rfl) @D T.gT oD (aa (aH (K:=K) rfl (pv 0) rfl) ae)) (b9 (osc:=ah d0) (ON:=["self"]) (N:=n10) (n:=1) (fx:=[]) rfl rfl rfl @I (l7 (K:=K) rfl (aH (K:=K) rfl (pv 0) rfl)) (aP @C) (λ_ _ _ _ _=>⟨(ar (i:=0) (show ox (n10:B1) from by decide +kernel) rfl @E),bh,(!A @H (pv 0) ai)⟩))) (aV (cZ (K:=K) rfl) @D T.gT oD (aa (aH (K:=K) rfl (pv 0) rfl) ae)))))),av (σ':=[ag _]) rfl ?_⟩;lia;refine aG hp T.du T.rq rfl ?_;lia;intro D2 H2 f2 α e2;have γ:=α.get ht;lia;refine aG (α.get hp) T.du T.dW rfl ?_;lia;intro τ Z;refine rW (xs:=qs.map λr=>V.ref r.1) (λi ys H'=>Cs (λi ys=>ys=((qs.take i).map (·.2.1)).map V.str) H2 τ i ys H') (Cs.zero Z rfl) (λi ys H' _ c=>SqT.of (c.same.get γ)) (λi x ys H' υ c=>?_) (λys H3 c=>?_)
 ·obtain⟨r,O,rfl⟩:=aF υ;have χ:=(b'.mp O).1;have ε:=c.same.get (α.get (kp.tr r (f' O)));lia;refine Cs.put Z c.same c.at' c.len @A ?_;rw[c.pv,take_succ O,fI,fI];rfl
 ·have ζ:=c.at';rw[c.pv,a',pT] at ζ;have Y:=c.same;clear c;refine qO (Y.get e2) ζ (by rw[a',a',a',lT];omega) λD4 H4 f4 ξ ρ=>?_;have L:=α.trans (Y.trans ξ);have ω:=L.get eq;lia;refine aG (L.get hp) T.du T.nL rfl ?_;lia;intro D5 H5 f5 ο β;refine qO (ο.get ρ) β (by rw[gs,a',a',a',a',lT];omega) fun θ H6 ψ η δ=>?_;have en:N.ins++qs.map (·.2.1)++od=need N od:=by unfold need;rw[<-kp.et,y2];rfl
  rw[<-fI,<-fI,en] at δ;have ι:=L.trans ο;exact q θ H6 (ι.free ψ) (ι.trans η) δ
theorem dF (T:Tx K mg a):FnOk P w K mg base (CX1 P w) 7 a.cT a.rS ["self","name"] (C5 (NAof a) a.bc a.aM a.aB a.aW):=by
 refine T.b5.1.okX xR (λvs H Q E h=>?_) (fun ε A outer s H vs Q E Y h=>?_)
 ·obtain⟨p,N,od,v,k,rfl,_⟩:=h;rfl
 ·obtain⟨p,N,od,v,k,rfl,na,α,θ,γ⟩:=h;have δ:=qf Y;obtain⟨dx,i,s,t,o,d,η,rs,qs,ws,hp,kp,L,eq⟩:=na.ho;have g:=na.g
  refine⟨_,((af (bu (hX (jh T) (Y.mono @C) @D T.kq T.cI.1.2 T.cI.2 .nil cQ (!j 1 (aa (aH (K:=K) rfl (pv 0) rfl) ae))))
   (aj (ay (nF δ (aH (K:=K) rfl (pv 0) rfl) (pv 1) (λ_ _=>rfl)))))),av (σ':=[ag _,ag _]) rfl ?_⟩
  lia;refine aG hp T.du T.h7 rfl ?_;lia;refine⟨v,k,d,N.names,rfl,α,L.knw,g.nm,λz hz ev H2 O=>?_,λhb H2 β tl=>γ hb H2 β tl⟩;subst ev;have χ:=L.same O;lia;refine aG (O.get hp) T.du T.h7 rfl ?_;lia;obtain⟨t',m,ζ⟩:=E1 (hs:=ws) (z:=z) (by rw[L.nm];exact hz);refine sF χ.d ζ ?_;have Z:=χ.ob _ m;lia;exact θ z hz rfl t' H2 O Z
theorem fO (T:Tx K mg a):FnOk P w K mg base CX0 1 a.bP a.mI ["self"] (Jn (NAof a)):=by
 refine T.b8.1.okA sy fun α A outer s H vs Q E γ h=>?_;obtain⟨p,N,od,rfl,na,q⟩:=h;obtain⟨dx,i,s,t,o,d,β,rs,qs,ws,hp,kp,L,eq⟩:=na.ho;have hd:=L.d;refine⟨_,((aj (ay (aV (HX rfl) @D T.gT oD (aa (aH (K:=K) rfl (pv 0) rfl) ae))))),av (σ':=[ag _]) rfl ?_⟩;lia;refine aG hp T.du T.h7 rfl ?_;lia;intro D H2 Y O Z;refine q D H2 Y O ?_;rw[Z,<-L.nm];unfold BG;rw[y2,y2];rfl
theorem vQ (T:Tx K mg a):FnOk P w K mg base CX0 1 a.cw a.o9 ["self"] (Qe (NAof a)):=by
 refine T.gv.1.okA vo λZ A outer s H vs Q E γ h=>?_;obtain⟨p,N,od,rfl,na,q⟩:=h;obtain⟨dx,i,s,t,o,d,β,rs,qs,ws,hp,kp,α,eq⟩:=na.ho;have hs:=kp.s;refine⟨_,((aj (ay (aV (cZ (K:=K) rfl) @D T.gT oD (aa (aH (K:=K) rfl (pv 0) rfl) ae))))),av (σ':=[ag _]) rfl ?_⟩;lia;refine aG hp T.du T.lA rfl ?_;lia;intro D H2 O L Y;exact q D H2 rs O L Y (RwK.same kp.sr L) kp.es
theorem Bg (T:Tx K mg a):FnOk P w K mg base CX0 8 a.gG a.xg ["net","row","state"] (Nh (NAof a)):=by
 refine T.mn.1.okA m8 λb3 A outer s H vs Q E ι h=>?_;obtain⟨p,N,od,row,st,rfl,na,q⟩:=h;have hu:=qf ι;obtain⟨dx,i,s,t,o,d,tq,rs,qs,ws,hp,kp,wi,eq⟩:=na.ho;have g:=na.g;have tp:=na.tp;have nl:=z6 g tp
 refine⟨_,((af (aA (i:=3) m8.nd rfl @E qV)
  (af (de la rfl (aR (K:=K) rfl (bB (pv 0) T.du T.jR (jc T) (ι.mono @C) T.ck.2 .nil cJ)) (ar (i:=4) m8.nd rfl @E) (aj (zH hu (pv 3) (pv 4) (PE.or (jJ (dP (pv 0) T.du T.d3 (dF T) (ι.mono @C) T.b5.2 .nil thr0 (!j 4 ae)) T.mw T.Br (zT T) (ι.mono @C) T.iX.2 .nil cJ (!j 3 (!j 1 (!j 2 ae)))) (PE.or (jJ (dP (pv 0) T.du T.d3 (dF T) (ι.mono @C) T.b5.2 .nil thr0 (!j 4 ae)) T.j8 T.Aa (x4 T) (ι.mono @C) T.ib.2 .nil cJ (!j 3 (!j 1 (!j 2 ae)))) (jJ (dP (pv 0) T.du T.d3 (dF T) (ι.mono @C) T.b5.2 .nil thr0 (!j 4 ae)) T.fK T.vW (uu T) (ι.mono @C) T.fH.2 .nil cJ (!j 3 (!j 1 (!j 2 ae)))))) rfl)))
  (aj (ay (pv 3)))))),av (σ':=[ag _,ag _,ag _,fy,fy]) rfl ?_⟩
 lia;intro ξ H1 f1 s1 e1;have a0:=s1.get hp;lia;refine aS a0 rfl ?_;lia;refine⟨p,N,od,rfl,na.same s1,λD2 H2 f2 s2 e2=>?_⟩;have L:=s1.trans s2;lia;refine eQ (xs:=(need N od).map V.str) (λi σ H'=>∃v f,σ=[ag (.ref p),ag (nat row),ag (nat st),ag (.ref ξ),v]/\Same H H'/\H' D2=ag (.lst ((need N od).map V.str))/\H' ξ=ag (.dK (bitK f ((need N od).take i)))/\Pre N row st ((need N od).take i) f) ⟨fy,λ_=>false,rfl,L,e2,s2.get e1,Pre.nil ..⟩ (λi σ H' _ ⟨_,_,_,_,e',_⟩=>SqL.of e') ?_ ?_
 ·rintro i y σ H' φ ⟨v,f,rfl,s',eD,τ,pr⟩;obtain⟨z,hz,rfl⟩:=aF φ;have a8:=(b'.mp hz).1;have O:=(km g tp z).mp (f' hz);have ρ:=s'.get hp;have π:=na.same s';obtain⟨a7,a6,a5,x1,x2,ψ⟩:=md g;have α:=vV g tp hz
  have fin:∀(b:V6) (H4 ζ:Hp),Same H' H4->Upd H4 ζ ξ (.dK (putK (bitK f ((need N od).take i)) (zt z) (nat (M.bn b))))->Bt N row st ((need N od).take i) f z b->∃ν,Same H ζ/\ζ D2=ag (.lst ((need N od).map V.str))/\ζ ξ=ag (.dK (bitK ν ((need N od).take (i + 1))))/\Pre N row st ((need N od).take (i + 1)) ν:=λb H4 ζ s4 η bt=>by
   have ek:putK (bitK f ((need N od).take i)) (zt z) (nat (M.bn b))=bitK (λy=>if y=z then b else f y) ((need N od).take (i + 1)):=by
    rw[DC (Mm f _) α,take_succ hz];unfold bitK;rw[fI];congr 1
    ·exact Wx λy φ=>by show(_,nat (M.bn (f y)))=(_,nat (M.bn (if y=z then b else f y)));rw[n' (λ(e:y=z)=>α (e ▸ φ))]
    ·show[(_,nat (M.bn b))]=[(_,nat (M.bn (if z=z then b else f z)))];rw[qq rfl]
   rw[ek] at η;refine⟨_,λbb o e=>η.oth _ _ (aq e f1) (s4.get (s'.get e)),η.oth _ _ (cn (s4.get eD) (s4.get τ) λz=>by cases z) (s4.get eD),η.at',by rw[take_succ hz];exact pr.step α bt⟩
  have lk:(bitK f ((need N od).take i)).length<=1000:=by unfold bitK;rw[a',sv];omega
  lia;have ο:=O;unfold Nt.names at ο;rcases gF.mp ο with h' | h'
  ·rcases gF.mp h' with h' | h'
   ·refine Yj ?_;lia;refine cO ρ rfl ?_;lia;refine⟨p,N,od,.str z,"str",rfl,π,.sc (.str z (by have:=(g.nm z O).len;omega)),λ_ _ ω w H3 θ υ=>?_,fun ε=>hB rfl (ε z O)⟩;cases ω;have Y:=θ.get τ;cases υ with
    | i k β hk e=>
      lia;refine aS e rfl ?_;lia;refine⟨w,β,.str z,(k:Int),.ref ξ,(row:Int),(st:Int),rfl,e,@A,?_⟩;rw[Cy,show(if row.testBit k=true then (1:Int) else 0)=((M.bn (row.testBit k):Nat):Int) by unfold M.bn;cases row.testBit k<;>rfl];lia;refine pL Y (aZ lk) fun ζ η=>?_;obtain⟨ν,a1,a2,a3,γ⟩:=fin (row.testBit k) H3 ζ θ η (UJ g hk);lia;exact⟨_,ν,rfl,a1,a2,a3,γ⟩
    | s Z β δ hk e et=>exact hB (ik.mpr ⟨_,hk,rfl⟩) (x1 z h')
    | t k y β hk e=>exact hB (ik.mpr ⟨_,f' hk,rfl⟩) (x2 z h')
   ·refine XS (Yj ?_);lia;refine cO ρ rfl ?_;lia;refine⟨p,N,od,.str z,"str",rfl,π,.sc (.str z (by have:=(g.nm z O).len;omega)),λ_ _ ω w H3 θ υ=>?_,fun ε=>hB rfl (ε z O)⟩;cases ω;have Y:=θ.get τ;cases υ with
    | i k β hk e=>exact hB h' (x1 z (f' hk))
    | s Z β δ hk e et=>
      have χ:=DR g tp hz Z hk;lia;refine aS e rfl ?_;lia;refine⟨w,β,.str z,δ,ξ,Z,_,λy=>((M.bn (f y):Nat):Int),(row:Int),(st:Int),rfl,e,SqT.of et,Y,λy φ=>zm f (χ y φ),?_⟩;rw[RB];lia;refine pL Y (aZ lk) fun ζ η=>?_;obtain⟨ν,a1,a2,a3,γ⟩:=fin (xb f Z) H3 ζ θ η (PL g hk χ);lia;exact⟨_,ν,rfl,a1,a2,a3,γ⟩
    | t k y β hk e=>exact hB (ik.mpr ⟨_,f' hk,rfl⟩) (ψ z h')
  ·refine XS (XS ?_);lia;refine cO ρ rfl ?_;lia;refine⟨p,N,od,.str z,"str",rfl,π,.sc (.str z (by have:=(g.nm z O).len;omega)),λ_ _ ω w H3 θ υ=>?_,fun ε=>hB rfl (ε z O)⟩;cases ω;have Y:=θ.get τ;cases υ with
   | i k β hk e=>exact hB h' (x2 z (f' hk))
   | s Z β δ hk e et=>exact hB h' (ψ z (ik.mpr ⟨_,hk,rfl⟩))
   | t k y β hk e=>
     lia;refine aS e rfl ?_;lia;refine⟨w,β,.str z,.str y,(k:Int),.ref ξ,(row:Int),(st:Int),rfl,e,@A,?_⟩;rw[Cy,show(if st.testBit k=true then (1:Int) else 0)=((M.bn (st.testBit k):Nat):Int) by unfold M.bn;cases st.testBit k<;>rfl];lia;refine pL Y (aZ lk) fun ζ η=>?_;obtain⟨ν,a1,a2,a3,γ⟩:=fin (st.testBit k) H3 ζ θ η (UI g hk);lia;exact⟨_,ν,rfl,a1,a2,a3,γ⟩
 ·rintro σ H' ⟨v,f,rfl,s',eD,τ,pr⟩;rw[a',pT] at τ pr;lia;exact q ξ H' f f1 s' τ (Kq g tp pr)
theorem y3 (T:Tx K mg a):FnOk P w K mg base CX0 2 a.jY a.Cg ["wires","bits"] Ju:=by
 refine T.n6.1.okA Gw fun ζ A outer s H vs Q E Z h=>?_;obtain⟨l,d,ws,zs,f,rfl,hl,hd,ln,sub,q⟩:=h;have γ:=qf Z;refine⟨_,((aj (ay (ao (yZ T) Z T.BN T.n5 (aa (b9 (osc:=ah qI) (ON:=["wires","bits"]) (N:=["place","wire","bits"]) (n:=2) (fx:=[1]) rfl rfl rfl @I (qT (K:=K) rfl @D T.fi (pv 0)) (BL (iL (aP @C) (iL (aP @C) wM))) (λ_ _ _ _ _=>⟨(vH (K:=K) (n:=2) rfl rfl (bA (ar (i:=0) (show ox (["place","wire","bits"]:B1) from by decide +kernel) rfl @E) (bA (ar (i:=1) (show ox (["place","wire","bits"]:B1) from by decide +kernel) rfl @E) iy))),(nE (aJ mR (nF γ (pv 2) (pv 1) (λ_ _=>rfl)) ai (aU _))),(pv 0)⟩)) ae))))),av (σ':=[ag _,ag _]) rfl ?_⟩;lia;refine .inl ⟨⟨_,SqL.of hl⟩,?_⟩;intro D α;refine HS (xs:=ws.map V.str) (λi ys H'=>ys=((lj i).filter λk=>f (ws.getD k "")).map nat/\Same H H'/\H' D=ag (.lst ys)) ⟨rfl,bK α,aD⟩ (λi ys H' _ ⟨_,s',_⟩=>SqL.of (s'.get hl)) (λi x ys H' η H2 β ⟨ey,s',Y⟩ fp O θ=>?_) (λys H' ⟨ey,s',Y⟩=>?_)
 ·obtain⟨z,hz,rfl⟩:=aF β;have δ:=(b'.mp hz).1;have ε:ws.getD i ""=z:=by rw[eY,hz];rfl
  have fs:(lj (i + 1)).filter (λk=>f (ws.getD k ""))=(lj i).filter (λk=>f (ws.getD k ""))++(if f z=true then [i] else []):=by rw[X7,Wu,XJ,ε];rfl
  have L:=O.get Y;lia;refine sF (O.get (s'.get hd)) (zm f (sub z (f' hz))) ?_;cases hf:f z with
  | true=>
    lia;refine⟨L,?_,?_,λb o e=>?_,aD⟩
    ·rw[ey,a'];have:=WJ (λk=>f (ws.getD k "")) (lj i);rw[S'] at this;exact aZ @A
    ·rw[fs,hf,ey];simp
    ·rw[aE (aq e α)];exact O.get (s'.get e)
  | false=>
    lia;refine⟨?_,s'.trans O,L⟩;rw[fs,hf,ey];simp
 ·rw[a'] at ey;rw[ey] at Y;lia;refine⟨D,_,rfl,Y,λk hk=>?_,?_⟩
  ·have:=V2.mp (WB.mp hk).1;omega
  ·rw[Ua];exact q H' s'
theorem S9:(∀(v:V) (r:ee (mu×V)),([]:ee (mu×V))≠(("name":mu),v)::r)/\∀(v:V) (r:ee (mu×V)),([]:ee (mu×V))≠(("ins":mu),v)::r:=⟨λ_ _ h=>(by cases h),λ_ _ h=>(by cases h)⟩
theorem J9 (x:V) (fs:ee (mu×V)):(∀(v:V) (r:ee (mu×V)),(("net":mu),x)::fs≠(("name":mu),v)::r)/\∀(v:V) (r:ee (mu×V)),(("net":mu),x)::fs≠(("ins":mu),v)::r:=
 ⟨λ_ _ h=>(by injection h with h _;injection h with h _;exact hB h @C),λ_ _ h=>(by injection h with h _;injection h with h _;exact hB h @C)⟩
theorem vP (T:Tx K mg a):FnOk P w K mg base CX0 1 a.cv a.o8 ["self","net"] (Gf (NAof a) a.gi):=by
 refine T.iP.1.okA vn fun θ A outer s H vs Q E ν h=>?_;obtain⟨x,dx,n,N,od,rfl,ζ,na,q⟩:=h
 refine⟨_,((af (df (K:=K) rfl (pv 0) (pv 1) rfl)
  (af (df (K:=K) rfl (pv 0) ai rfl)
  (af (df (K:=K) rfl (pv 0) qV rfl)
  (aj (df (K:=K) rfl (pv 0) (cL ae) rfl)))))),av (σ':=[ag _,ag _]) rfl ?_⟩
 lia;refine dc ζ T.n9 T.nK (by show 0 < 1000;decide) rfl λH1 δ=>?_;lia;refine dc δ.at' T.n9 T.sQ (by show 1 < 1000;decide) rfl λH2 ι=>?_;have Y:=δ.trans ι;lia;intro d φ τ α π;lia;refine dc (α.get Y.at') T.n9 T.oy (by show 2 < 1000;decide) rfl fun υ Z=>?_;lia;intro l ρ γ ο β;lia;refine dc (ο.get Z.at') T.n9 T.p7 (by show 3 < 1000;decide) rfl fun η O=>?_;lia;have ε:Kx x H η:=(Kx.upd Y).trans ((Kx.same α).trans ((Kx.upd Z).trans ((Kx.same ο).trans (Kx.upd O))));have ξ:l≠x:=λz=>(by rw[z,Z.at'] at γ;cases γ)
 have L:H l=none:=by
  cases e:H l with
  | none=>rfl
  | some o=>
    have:=Z.oth _ _ ξ (α.get (Y.oth _ _ ξ e));rw[γ] at this;cases this
 exact q η l ε L ⟨⟨dx,d,O.at'⟩,O.oth _ _ ξ β,na.keep ζ S9 ε⟩
theorem vO (T:Tx K mg a):FnOk P w K mg base CX0 1 a.cu a.o7 ["self"] (Nk (NAof a) a.gi):=by
 refine T.gu.1.okA vm λO A outer s H vs Q E Y h=>?_;obtain⟨p,l,n,N,od,st,Z,rfl,L,q⟩:=h;obtain⟨dx,d,hp⟩:=L.ho;have hl:=L.hl;refine⟨_,((aj (ay (aV (cZ (K:=K) rfl) @D T.gT oD (aa (aH (K:=K) rfl (pv 0) rfl) ae))))),av (σ':=[ag _]) rfl ?_⟩;lia;refine aG hp T.n9 T.p7 rfl ?_;lia;exact q
theorem DO (T:Tx K mg a):FnOk P w K mg base CX0 9 a.fQ a.zg ["self","row"] (Nj (NAof a) a.gi):=by
 refine T.lO.1.okA vk λe9 A outer s H vs Q E ζ h=>?_;obtain⟨p,l,n,N,od,st,row,as,rfl,ra,φ,e3,q⟩:=h;obtain⟨dx,d,hp⟩:=ra.ho;have hl:=ra.hl;have na:=ra.na;have g:=na.g;have tp:=na.tp;have θ:l≠p:=cn hl hp λz=>by cases z
 obtain⟨e7,ξ,ns,ε,no,nd,c5,d1,d2,c4,hn,_⟩:=na.ho
 refine⟨_,((af (cc (fW (cK (ao (ou T) ζ T.nP T.iW (!j 1 (aa (aC (aK (K:=K) rfl) @D T.eX lJ (aa (bB (aH (K:=K) rfl (pv 0) rfl) T.du T.kS (jK T) (ζ.mono @C) T.dN.2 .nil cJ) ae)) ae))))) (aj jH) aL)
  (af (df (K:=K) rfl (pv 0) (ao (Bg T) ζ T.Ej T.mn (aa (aH (K:=K) rfl (pv 0) rfl) (!j 1 (aa (aH (K:=K) rfl (pv 0) rfl) ae)))) rfl)
  (af (df (K:=K) rfl (pv 0) (ao (y3 T) ζ T.BO T.n6 (aa (b9 (osc:=ah oj) (ON:=["self","row","answer"]) (N:=["store"]) (n:=1) (fx:=[]) rfl rfl rfl @I (aR (K:=K) rfl (bB (aH (K:=K) rfl (pv 0) rfl) T.du T.jb (iA T) (ζ.mono @C) T.cN.2 .nil cJ)) (aP @C) (λ_ _ _ _ _=>⟨(ar (i:=0) (show ox (["store"]:B1) from by decide +kernel) rfl @E),bh,(!A @H (pv 0) ai)⟩)) (aa (aH (K:=K) rfl (pv 0) rfl) ae))) rfl)
  (af (aA (i:=2) vk.nd rfl @E (ao (y3 T) ζ T.BO T.n6 (aa (bB (aH (K:=K) rfl (pv 0) rfl) T.du T.jQ (ja T) (ζ.mono @C) T.dr.2 .nil cJ) (aa (aH (K:=K) rfl (pv 0) rfl) ae))))
  (af (bu (iR (K:=K) rfl vr LI K' eB (aH (K:=K) rfl (pv 0) rfl) (!j 2 ae)))
  (aj (ay (pv 2))))))))),av (σ':=[ag _,ag _,fy]) rfl ?_⟩
 lia;refine aG hp T.n9 T.nK rfl ?_;lia;refine aS hn rfl ?_;lia;refine⟨n,N,od,rfl,na,λD1 H1 f1 s1 e1=>?_⟩;have a5:=s1.get hp;lia;rw[a',gh φ];lia;refine aG a5 T.n9 T.nK rfl ?_;lia;refine aG a5 T.n9 T.sQ rfl ?_;lia;refine⟨n,N,od,row,st,rfl,na.same s1,fun ν H2 f f2 s2 e2 vl=>?_⟩;have L:=s1.trans s2;have a4:=L.get hp;lia;refine dc a4 T.n9 T.oy (by show 4 < 1000;decide) rfl λH3 α=>?_;have Y:=α.at';have k3:Kx p H H3:=(Kx.same L).trans (Kx.upd α);have τ:=na.keep hp (J9 _ _) k3;have O:=k3 _ _ θ hl
 have a6:n≠p:=λz=>by
  rw[z,hp] at hn;injection hn with hn
  injection hn with _ _ hn
  exact(J9 _ _).2 _ _ hn
 have a7:=k3 _ _ a6 hn;have γ:=α.oth _ _ (cn e2 a4 λz=>by cases z) e2;lia;refine aG Y T.n9 T.nK rfl ?_;lia;refine aS a7 rfl ?_;lia;refine⟨n,N,od,rfl,τ,λD4 H4 qs f4 s4 e4 qk et=>?_⟩;have e0:qs.length<=16:=by have:=g.lt;rw[<-et,a'] at this;exact this
 lia;intro D5 ι;refine bf (xs:=qs.map λr=>V.ref r.1) (λi ys H'=>Cs (λi ys=>ys=((qs.take i).map (·.2.2)).map V.str) H4 D5 i ys H') (Cs.zero ι rfl) (λi ys H' _ c=>SqL.of (c.same.get e4)) (λi x ys H' hx c=>?_) (λys H5 c=>?_)
 ·obtain⟨r,δ,rfl⟩:=aF hx;have e6:=(b'.mp δ).1;have er:=c.same.get (qk r (f' δ));lia;refine Cs.put ι c.same c.at' c.len @A ?_;rw[c.pv,take_succ δ,fI,fI];rfl
 ·have β:=c.at';rw[c.pv,a',pT] at β;have Z:=s4.trans c.same;clear c;have c1:qs.map (·.2.2)=N.sts.map (·.2):=by rw[<-et,y2];rfl
  rw[c1] at β;have a3:=Z.get Y;lia;refine aG a3 T.n9 T.oy rfl ?_;lia;refine⟨D5,ν,_,need N od,f,rfl,β,Z.get γ,by rw[a',<-et,a'];omega,λw hw=>(km g tp w).mpr (by obtain⟨q',b3,rfl⟩:=ik.mp hw;exact g.ts q' b3),λH6 s6=>?_⟩;rw[Pk g tp vl];have υ:=Z.trans s6;have a0:=υ.get Y;lia;refine dc a0 T.n9 T.sQ (by show 4 < 1000;decide) rfl λH7 u7=>?_;have η:=u7.at';have ο:Kx p H3 H7:=(Kx.same υ).trans (Kx.upd u7);have k7:Kx p H H7:=k3.trans ο;have ω:=na.keep hp (J9 _ _) k7;have c0:=k7 _ _ θ hl;have ψ:=k7 _ _ a6 hn;have c2:=ο _ _ (cn γ Y λz=>by cases z) γ;clear u7 a0 υ s6 a3 β ι Z e4 qk et f4 s4 a7 τ O ο γ Y;lia;refine aG η T.n9 T.nK rfl ?_;lia;refine aS ψ rfl ?_;lia;refine⟨n,N,od,rfl,ω,λD8 H8 f8 s8 e8=>?_⟩;have b6:=s8.get η;lia;refine aG b6 T.n9 T.oy rfl ?_;lia;have lo:=g.lo;refine⟨D8,ν,N.outs,need N od,f,rfl,e8,s8.get c2,@A,λw hw=>(km g tp w).mpr (g.os w hw),λH9 s9=>?_⟩;rw[Pm g tp vl];have ρ:=s8.trans s9;have χ:=ρ.get η;have a8:=ρ.get c0;lia;refine aG χ T.n9 T.p7 rfl ?_;lia;refine g6 a8 (by rw[a',lT];omega) λc3 π=>?_;lia;refine q c3 (λb ob n1 n2 e=>π.oth _ _ n2 (ρ.get (k7 _ _ n1 e))) ⟨⟨dx,ν,π.oth _ _ θ.symm χ⟩,by rw[π.at',fI];rfl,(ω.same ρ).updL a8 π.oth⟩
theorem fN (T:Tx K mg a):FnOk P w K mg base CX0 10 a.fq a.t8 ["net","rows"] (JH (NAof a)):=by
 refine T.dC.1.okA lU fun φ A outer s H vs Q E δ h=>?_;obtain⟨n,r,N,od,rs,rfl,na,γ,π,hb,q⟩:=h
 refine⟨_,((af (aA (i:=2) lU.nd rfl @E (pV T.VO (vP T) (δ.mono @C) @D T.VE T.iP.2 .nil cJ (!j 0 ae)))
  (af (de la rfl (aR (K:=K) rfl (pv 1)) (ar (i:=3) lU.nd rfl @E) (aj (bu (jJ (pv 2) T.n9 T.G6 (DO T) (δ.mono @C) T.lO.2 .nil cJ (!j 3 ae)))))
  (aj (ay (bB (pv 2) T.n9 T.yj (vO T) (δ.mono @C) T.gu.2 .nil cJ)))))),av (σ':=[ag _,ag _,fy,fy]) rfl ?_⟩
 lia;intro x dx H1 ζ Z υ;refine⟨x,dx,n,N,od,rfl,υ,na.same Z,λH2 l k2 Y ν=>⟨rfl,?_⟩⟩;have L:Same H H2:=λb ob e=>k2 _ _ (aq e ζ) (Z.get e);have ε:H l=none:=Z.free Y;lia;refine eQ (xs:=rs.map nat) (λi σ H'=>∃v,σ=[ag (.ref n),ag (.ref r),ag (.ref x),v]/\Same H H'/\RunA (NAof a) H' a.gi x l n N od (rst N 0 (rs.take i)) (ran N 0 (rs.take i))) ⟨fy,rfl,L,ν⟩ (λi σ H' _ ⟨_,_,s',_⟩=>SqL.of (s'.get γ)) ?_ ?_
 ·rintro i y σ H' ξ ⟨v,rfl,s',O⟩;obtain⟨z,hz,rfl⟩:=aF ξ;have ο:=(b'.mp hz).1;obtain⟨β,d',η⟩:=O.ho;lia;refine aS η rfl ?_;lia;refine⟨x,l,n,N,od,_,z,_,rfl,O,hb z (f' hz),by rw[Ke,sv];omega,fun θ k3 α=>?_⟩;lia;refine⟨λb ob e=>k3 _ _ (aq e ζ) (aq e ε) (s'.get e),?_⟩;rw[take_succ hz,Ff,Fj];exact α
 ·rintro σ H' ⟨v,rfl,s',O⟩;rw[a',pT] at O;obtain⟨β,d',η⟩:=O.ho;lia;refine aS η rfl ?_;lia;refine⟨x,l,n,N,od,_,_,rfl,O,λD θ τ ι ρ=>?_⟩;exact q D θ (s'.free τ) (s'.trans ι) ρ
end
section
theorem tX (T:Tx K mg a):FnOk P w K mg base CX0 1 a.gM a.xp ["_law_script","_law_k"] (Fb K):=by
 refine T.j6.1.okA AZ λY A outer s H vs Q E α h=>?_;obtain⟨p,ns,k,rfl,β,Z,q⟩:=h
 refine⟨_,((af (cc (aJ DJ (pv 1) (aC (aK (K:=K) rfl) @D T.eX lJ (!j 0 ae)) (aU _)) (aj (ay (!A (bM (K:=K) rfl) (pv 0) (pv 1)))) aL)
  (aj (ay (ax cE (ax oV ai (pv 1)) ai))))),av (σ':=[ag _,ag _]) rfl ?_⟩
 lia;rw[a'];unfold cell at q;refine ite2 (λL=>?_) (λL=>?_)
 ·have L:=WD L
  have ha:atI (ns.map V.int) k=ag (.int (ns.getD k.toNat 0)):=by
   obtain⟨j,rfl⟩:=W8 Z;have O:j < ns.length:=by omega
   exact d9 (by rw[kf,eF O,eY,pY,eF O];rfl)
  rw[qq L] at q;lia;exact q
 ·have L:¬k < ns.length:=λz=>L (hG z);rw[n' L] at q;lia;exact q
theorem Mg {H:Hp} {Q:VK} {E:XK} {c k:Int} (h0:0<=k) (h1:k < 100000) (q:Q (.int (mixV c k)) H):C6 [.int c,.int k] H Q E:=⟨c,k,rfl,h0,h1,q⟩
local macro_rules | `(tactic| walk_at "l2step") =>`(tactic| first | ((with_reducible refine' Mg ?a ?b ?_);(case a=>walk_at "l2side");(case b=>walk_at "l2side")) | ((with_reducible refine' xx ?e ?a ?_);(case e=>walk_at "l2hp");(case a=>walk_at "l2side")))
theorem cM (T:Tx K mg a):FnOk P w K mg base CX0 1 a.iF a.zf ["_law_cell_here","_law_k"] C6:=by
 refine T.bj.1.okA pD λL A outer s H vs Q E O h=>?_;obtain⟨c,k,rfl,Z,h1,q⟩:=h
 refine⟨_,((af (aA (i:=2) pD.nd rfl @E (ax cP (ax cE (ax cE (ax oV (ax cP (pv 0) ai) ai) (ax oV ai (pv 1))) ai) ai))
  (af (aA (i:=2) pD.nd rfl @E (ax cP (ax oV (pv 2) (pv 2)) ai))
  (aj (ay (ax cP (ax oV (pv 2) (ax cE (ax cE (pv 2) (ax oV ai (pv 1))) ai)) ai)))))),av (σ':=[ag _,ag _,fy]) rfl ?_⟩
 lia;exact q
theorem ki (T:Tx K mg a):FnOk P w K mg base CX0 2 a.fB a.qj ["_law_cell_here","_law_k"] yT:=by
 refine T.eh.1.okA dZ fun η A outer s H vs Q E O h=>?_;obtain⟨c,k,rfl,Z,h1,q⟩:=h;have hk:decide (k < 40)=true:=hG h1
 refine⟨_,((af (aA (i:=2) dZ.nd rfl @E cD)
  (af (aA (i:=3) dZ.nd rfl @E cD)
  (af (aA (i:=3) dZ.nd rfl @E (ax iz (pv 3) cD))
  (af (cc (PW.pt (Km (aJ DJ (pv 1) ai (aU _)) (DB (aJ mR (ax cP (ao (cM T) O T.bJ T.bj (!j 0 (aa ai ae))) ai) ai (aU _))))) (aj (ay (!A (bM (K:=K) rfl) (iR (K:=K) rfl ac2 ac1 ac0 Fu (pv 3) (aa cD ae)) (ax cP (ax cE (pv 1) (ao (cM T) O T.bJ T.bj (!j 0 (aa ai ae)))) ai)))) aL)
  (aj (ay (ax iz (!A Lh (pv 2) (ax cP (ao (cM T) O T.bJ T.bj (!j 0 (aa ai ae))) ai)) (aV kB @D T.KN WZ (aa (ax cE (ax cP (ao (cM T) O T.bJ T.bj (!j 0 (aa ai ae))) ai) (ax oV ai (pv 1))) ae)))))))))),av (σ':=[ag _,ag _,fy,fy]) rfl ?_⟩
 lia;refine⟨@I,?_⟩;lia;generalize hw:((_:mu)++_)=words;have hw:words=IV:=hw.symm;by_cases h2:mixV c 402 % 2=0
 ·refine pK (hG (by rw[h2])) ?_;lia;refine QB @I (by rw[hw];decide +kernel) λD H2 θ β Y=>?_;have hm:=tu (k + mixV c 403) (show(0:Int) < 40 by decide);have L:=x7 (k + mixV c 403) (show(40:Int)≠0 by decide);rw[hw] at Y
  have ε:atI (W40.map V.str) ((k + mixV c 403) % 40)=ag (.str (nmf c k)):=by
   obtain⟨j,δ⟩:=W8 L;have γ:j < W40.length:=by rw[xD];omega
   unfold nmf;rw[qq h2,δ];refine d9 ?_;rw[kf,eY,pY,eF γ];rfl
  have Y:H2 D=ag (.lst (W40.map V.str)):=Y;lia;exact q H2 β
 ·refine j9 (gz λz=>h2 (V.int.inj z)) ?_;have hm:=tu (mixV c 400) (show(0:Int) < 26 by decide);have L:=x7 (mixV c 400) (show(26:Int)≠0 by decide);have ζ:=tu (mixV c 401) (show(0:Int) < 1000 by decide);have ρ:=x7 (mixV c 401) (show(1000:Int)≠0 by decide);lia;refine QH @I (y4 _ L hm) ?_;lia;have hn:(mixV c 401 % 1000 + 37 * k).natAbs < 10 ^ 4:=by omega
  have π:(mixV c 401 % 1000 + 37 * k).natAbs.log2 < 1920:=by
   rcases aj4 (mixV c 401 % 1000 + 37 * k).natAbs with z | z
   ·rw[z];decide
   ·exact(Zc @A).mpr (hA hn (WK (by decide:10 ^ 4<=2 ^ 14) (hL @C @C)))
  have α:=XC π;refine⟨π,?_⟩;lia;refine⟨by rw[lT];have:(⟨#[97 + (mixV c 400 % 26).toNat]⟩:mu).length=1:=rfl;omega,?_⟩;have e:(mixV c 401 % 1000 + 37 * k)=(((mixV c 401 % 1000).toNat + 37 * k.toNat:Nat):Int):=by omega
  have ν:=q H (Same.refl _);unfold nmf at ν;rw[n' h2] at ν;rw[e];exact ν
end
end
local macro_rules | `(tactic| walk_at "l2step") =>`(tactic| first | ((with_reducible refine' xx ?e ?a ?_);(case e=>walk_at "l2hp");(case a=>walk_at "l2side")) | ((with_reducible refine' VG ?a ?b ?_);(case a=>walk_at "l2side");(case b=>walk_at "l2side");(with_reducible intro _ _)))
section
variable {P:oT} {w:w7} {K:ak} {mg:CM} {base:N'} {a:Ad}
theorem N6 (vs:ee V) (H:Hp) (Q:VK) (E:XK) (h:O3 vs H Q E):C6 vs H Q E:=by
 obtain⟨c,k,rfl,Z,h1,q⟩:=h;refine⟨c,k,rfl,Z,h1,?_⟩;have L:=Rb c k;have n1:=Rc c k;have:=q (mixV c k).toNat @A;unfold nat at this;rwa [Int.toNat_of_nonneg L] at this
theorem zS (T:Tx K mg a):FnOk P w K mg base CX0 2 a.fC a.ue ["_law_cell_here","_law_start","_law_many","_law_width","_law_digits"] JA:=by
 have τ:=(cM (P:=P) (w:=w) (base:=base) T).imp N6;refine T.kF.1.okA g5 fun χ A outer s H vs Q E ο h=>?_;obtain⟨c,st,n,δ,dg,rfl,Z,hn,hw,q⟩:=h;have ρ:n * δ<=1024:=WK (ab8 hn hw) @C;have Y:(1:Int) * 2 ^ ((δ:Int).toNat)=((2 ^ δ:Nat):Int):=shl1 δ;have π:=qb δ;have ι:2 ^ δ<=2 ^ 16:=hL @C hw;have υ:(n:Int) * (δ:Int) + 1=((n * δ + 1:Nat):Int):=by push_cast;rfl
 have O:(1:Int) * 2 ^ (((n * δ + 1:Nat):Int).toNat)=((2 ^ (n * δ + 1):Nat):Int):=shl1 _;have ζ:=qb (n * δ + 1)
 refine⟨_,((af (aA (i:=5) g5.nd rfl @E (cL ae))
  (af (aA (i:=6) g5.nd rfl @E (ax vJ (ax cP (pv 0) (ax gS ai (ax cE (ax oV (pv 2) (pv 3)) ai))) ai))
  (af (de la rfl (dA @D T.gD (!j 2 ae)) (ar (i:=7) g5.nd rfl @E) (aj (cc (cK (pv 4)) (af (bu (iR (K:=K) rfl vr LI K' eB (pv 5) (aa (ax cP (pv 6) (ax gS ai (pv 3))) ae)))
  (aj (aA (i:=6) g5.nd rfl @E (ax vJ (pv 6) (ax gS ai (pv 3)))))) (aj (bu (iR (K:=K) rfl vr LI K' eB (pv 5) (aa (ax cP (ao τ ο T.bJ T.bj (!j 0 (aa (ax cE (pv 1) (pv 7)) ae))) (ax gS ai (pv 3))) ae)))))))
  (aj (ay (pv 5))))))),av (σ':=[ag _,ag _,ag _,ag _,ag _,fy,fy,fy]) rfl ?_⟩
 lia;intro D H1 θ ν φ;lia;rw[υ];lia;rw[O];lia;refine lE (λi σ H'=>∃(l:Int) (v:pa V) (ms:B'),σ=[ag (.int c),ag (nat st),ag (nat n),ag (nat δ),ag (.bl dg),ag (.ref D),ag (.int l),v]/\Same H H'/\H' D=ag (.lst (ms.map nat))/\ms.length=i/\∀x∈ms,x < 2 ^ δ) ⟨_,fy,[],rfl,ν,φ,rfl,λ_ h=>hB h @F⟩ ?_ ?_
 ·rintro i σ H' hi ⟨l,v,ms,rfl,β,γ,el,hb⟩;have L:i < n:=by omega
  clear O ζ υ;cases dg with
  | true=>
    lia;rw[Y];obtain⟨k,hk,η⟩:=iM (c:=l) (m:=((2 ^ δ:Nat):Int)) @A;lia;rw[hk];refine g6 γ (by rw[a',lT];omega) fun ψ α=>?_;lia;rw[Y];lia;refine⟨_,_,ms++[k],rfl,λb o e=>α.oth _ _ (aq e θ) (β.get e),?_,by rw[gs,el];rfl,λx ε=>?_⟩
    ·rw[α.at',fI];rfl
    ·rcases gF.mp ε with h | h
     ·exact hb x h
     ·rw[gn.mp h];omega
  | false=>
    lia;rename_i r ξ;rw[Y];obtain⟨k,hk,η⟩:=iM (c:=(r:Int)) (m:=((2 ^ δ:Nat):Int)) @A;lia;rw[hk];refine g6 γ (by rw[a',lT];omega) fun ψ α=>?_;lia;refine⟨_,_,ms++[k],rfl,λb o e=>α.oth _ _ (aq e θ) (β.get e),?_,by rw[gs,el];rfl,λx ε=>?_⟩
    ·rw[α.at',fI];rfl
    ·rcases gF.mp ε with h | h
     ·exact hb x h
     ·rw[gn.mp h];omega
 ·rintro σ H' ⟨l,v,ms,rfl,β,γ,el,hb⟩;lia;exact q D H' ms θ β γ @A hb
theorem tW (T:Tx K mg a):FnOk P w K mg base CX0 3 a.gK a.xl ["_law_cell_here","_law_many","_law_width"] Jx:=by
 refine T.j5.1.okA AY λO A outer s H vs Q E L h=>?_;obtain⟨c,n,δ,rfl,hn,hw,q⟩:=h;refine⟨_,((aj (ay (ao (zS T) L T.BS T.kF (!j 0 (aa ai (!j 1 (!j 2 (aa (gb mR (ax cP (pv 0) ai) ai (aU _)) ae))))))))),av (σ':=[ag _,ag _,ag _]) rfl ?_⟩;lia;exact⟨c,500,n,δ,_,rfl,@C,hn,hw,q⟩
theorem vL (T:Tx K mg a):FnOk P w K mg base CX0 1 a.iD a.zd ["_law_number"] Nq:=by
 refine T.lN.1.okA lW fun γ A outer s H vs Q E δ h=>?_;obtain⟨n,rfl,hn,q⟩:=h
 refine⟨_,((af (aA (i:=1) lW.nd rfl @E ai)
  (af (uY la (aJ qZ (pv 0) ai (aU _)) (af (aA (i:=1) lW.nd rfl @E (ax cE (pv 1) (ax cP (pv 0) ai)))
  (aj (aA (i:=0) lW.nd rfl @E (ax vJ (pv 0) ai)))))
  (aj (ay (ax cP (pv 1) ai)))))),av (σ':=[ag _,fy]) rfl ?_⟩
 lia;refine⟨fun μ σ' H'=>∃c:Nat,σ'=[ag (nat μ),ag (nat c)]/\H'=H/\μ < 2 ^ 1000/\(decide (c % 2=1)^^M.od μ)=M.od n,⟨n,0,rfl,rfl,hn,@F⟩,?_⟩;rintro μ σ' H' ⟨c,rfl,rfl,L,ho⟩;lia;by_cases Z:0 < μ
 ·refine pK (hG @A) ?_;refine⟨fun ξ H2=>∃c:Nat,ξ=[ag (nat (μ / 2)),ag (nat c)]/\H2=H'/\(decide (c % 2=1)^^M.od (μ / 2))=M.od n,fun ξ H2 ⟨c,O,α,Y⟩=>⟨μ / 2,@A,c,O,α,@A,Y⟩,?_⟩;lia;rw[show Int.natAbs 2=2 from rfl];rw[<-ho,Q3 L,ZU];rcases V5 μ with h | h<;>rcases V5 c with h' | h'
  ·rw[show(c + μ % 2) % 2=0 by omega,h,h'];cases M.od (μ / 2)<;>rfl
  ·rw[show(c + μ % 2) % 2=1 by omega,h,h'];cases M.od (μ / 2)<;>rfl
  ·rw[show(c + μ % 2) % 2=1 by omega,h,h'];cases M.od (μ / 2)<;>rfl
  ·rw[show(c + μ % 2) % 2=0 by omega,h,h'];cases M.od (μ / 2)<;>rfl
 ·have β:μ=0:=by omega
  subst β;lia;rw[M.od_zero,am6] at ho
  have O:(c:Int) % 2=((M.bn (M.od n):Nat):Int):=by
   rw[<-ho];unfold M.bn;rcases V5 c with h | h
   ·rw[h];simp;omega
   ·rw[h];simp;omega
  rw[O];exact q
local macro_rules | `(tactic| walk_at "l2step") =>`(tactic| (with_reducible refine s_iRevL ?_))
theorem kj (T:Tx K mg a):FnOk P w K mg base CX0 2 a.gN a.xq ["_law_pairs","_law_state","_law_row"] (Nv K):=by
 refine T.gP.1.okA iQ fun ε A outer s H vs Q E β h=>?_;obtain⟨r,ps,x,y,rfl,hp,pt,hl,δ,γ,q⟩:=h
 refine⟨_,((af (aA (i:=3) iQ.nd rfl @E ai)
  (af (de la rfl (DF (K:=K) rfl @D T.fi (pv 0)) (qU rfl (bA (ar (i:=4) iQ.nd rfl @E) (bA (ar (i:=5) iQ.nd rfl @E) iy))) (aj (aA (i:=3) iQ.nd rfl @E (ax cE (pv 3) (ax oV (ax cP (ax cE (ao (vL T) β T.y8 T.lN (aa (ax nG (!A @H (pv 5) ai) (pv 1)) ae)) (ao (vL T) β T.y8 T.lN (aa (ax nG (!A @H (pv 5) ai) (pv 2)) ae))) ai) (ax gS ai (pv 4)))))))
  (aj (ay (pv 3)))))),av (σ':=[ag _,ag _,ag _,fy,fy,fy]) rfl ?_⟩
 lia;refine u0 (xs:=refs ps) (λi σ H'=>∃Y O,σ=[ag (.ref r),ag (nat x),ag (nat y),ag (nat (M.tr2 (prs (ps.take i)) x y)),Y,O]/\Same H H') ⟨fy,fy,rfl,Same.refl _⟩ (λi σ H' _ ⟨_,_,_,e⟩=>Same.seq e hp) ?_ ?_
 ·rintro i z σ H' p η hz ⟨Y,O,rfl,L⟩ fp α ζ;obtain⟨Z,φ,rfl⟩:=aF hz;have hi:=(b'.mp φ).1;have ht:=α.get (L.get (pt Z (f' φ)));lia;rw[eK];refine⟨Z.2.1&&&x,rfl,Wl ZW δ,?_⟩;lia;rw[eK];refine⟨Z.2.2&&&y,rfl,Wl ZW γ,?_⟩;lia;rw[UL,ah6,UK,<-Int.natCast_add,<-I0 x y φ];exact⟨_,_,rfl,L.trans α⟩
 ·rintro σ H' ⟨Y,O,rfl,L⟩;rw[om,pT];lia;exact q _ L
end
section
variable {P:oT} {w:w7} {K:ak} {mg:CM} {base:N'} {a:Ad}
local macro_rules | `(tactic| walk_at "l2step") =>`(tactic| first | ((with_reducible refine' dw ?e ?_);(case e=>walk_at "l2kind")) | ((with_reducible refine' fX ?e ?_);(case e=>walk_at "l2kind")) | (with_reducible refine cb ?_) | (with_reducible refine dD ?_))
local macro_rules | `(tactic| walk_at "l2step") =>`(tactic| first | (with_reducible refine Vn ?_))
theorem S5 (n d:Nat):HT.sIx n d (ag (-1))=n - 1:=by
 have:=HT.clip_eq (-1) n d;rw[qq @C] at this;omega
theorem FQ (ns:B'):cutV (ns.map nat) fy (ag (-1))=(ns.take (ns.length - 1)).map nat:=by
 unfold cutV;rw[S5,HT.sIx_none,a',am4,Nat.sub_zero,YG]
theorem KU {ns:B'} {t:Nat} (h:ns.length=t + 1):atI (ns.map nat) (-1)=ag (nat (ns.getD t 0)):=by
 have L:ns[t]? =ag (ns.getD t 0):=by rw[eY,eF @A];rfl
 have e:ns=ns.take t++[ns.getD t 0]:=by rw[<-take_succ L,WT @A]
 have O:ns.map nat=(ns.take t).map nat++[nat (ns.getD t 0)]:=by
  have:=ri (Y5 nat) e;rwa [fI] at this
 rw[O];exact OH _ _
theorem zP (T:Tx K mg a):FnOk P w K mg base CX0 11 a.fz a.uc ["_law_found","_law_net_one","_law_net_two","_law_inputs","_law_cells"] (Jw (NAof a)):=by
 refine T.kD.1.okA cR λh6 A outer s H vs Q E hr h=>?_;obtain⟨t,p1,p2,Dc,N,Z,od,a7,O,t',α,rfl,ef,υ,lc,ε,ζ,q⟩:=h;have a8:=FC hr;have g1:=ε.a1.g;have g2:=ε.a2.g;have li:=g1.li;have g4:=g1.lt;have g3:=g2.lt;have jo:=Se g1 g2;have hw:=ζ.hw;have ht:=ζ.ht;rw[(mY g1).2,(mY g2).2] at ht
 refine⟨_,((af (Pg (jg (JM (K:=K) rfl) (pv 0) (jI ai) pU) (qU rfl (bA (ar (i:=5) cR.nd rfl @E) (bA (ar (i:=6) cR.nd rfl @E) iy))))
  (af (de la rfl (aR (K:=K) rfl (cL (!j 5 (!j 6 ae)))) (ar (i:=7) cR.nd rfl @E) (aj (cc (PW.pt (kZ (fW (cK (aC (dm (K:=K) rfl) @D T.bx qa (!j 7 (aa (gB (v:= .ty "int") @D T.T7 ZX rfl) ae))))) (kZ (cK (aC (dm (K:=K) rfl) @D T.bx qa (!j 7 (aa (gB (v:= .ty "bool") @D T.Pn ZN rfl) ae)))) (jG (aJ DJ (pv 7) ai (aU _)))))) (aj (ay l8)) aL)))
  (af (cc (PW.pt (kZ (aJ QZ (pv 5) (pv 3) (aU _)) (jG (aJ qZ (pv 6) ai (aU _))))) (aj (ay l8)) aL)
  (af (aA (i:=8) cR.nd rfl @E (ax ke (cL (aa (ax gS ai (pv 5)) ae)) (ax Pi (cL (aa ai ae)) (pv 6))))
  (af (aA (i:=9) cR.nd rfl @E (ao (fN T) hr T.gU T.dC (!j 1 (!j 8 ae))))
  (af (aA (i:=10) cR.nd rfl @E (ao (fN T) hr T.gU T.dC (!j 2 (!j 8 ae))))
  (af (cc (PW.pt (kZ (aJ (DH (K:=K) rfl a8) (jg (lR (K:=K) rfl) (pv 9) pU (jI (N0 E3 ai))) (jg (lR (K:=K) rfl) (pv 10) pU (jI (N0 E3 ai))) (aU _)) (jG (aJ mR (!A (bM (K:=K) rfl) (pv 9) (N0 E3 ai)) (!A (bM (K:=K) rfl) (pv 10) (N0 E3 ai)) (aU _))))) (aj (ay l8)) aL)
  (af (de la rfl (aR (K:=K) rfl (pv 4)) (ar (i:=11) cR.nd rfl @E) (af (aA (i:=8) cR.nd rfl @E (ao (tW T) hr T.wV T.j5 (!j 11 (aa (aC (Me rfl) @D T.VA PyProof.Rows.boot_min (!j 6 (aa ai ae))) (!j 3 ae)))))
  (aj (cc (aJ (DH (K:=K) rfl a8) (ao (fN T) hr T.gU T.dC (!j 1 (!j 8 ae))) (ao (fN T) hr T.gU T.dC (!j 2 (!j 8 ae))) (aU _)) (aj (ay l8)) aL))))
  (aj (ay l8))))))))))),av (σ':=[ag _,ag _,ag _,ag _,ag _,fy,fy,fy,fy,fy,fy,fy]) rfl ?_⟩
 lia;refine SE (SqT.of ef) (by show ¬(HT.sIx 3 0 (ag 1)=0/\HT.sIx 3 3 fy=3);decide) λtp H1 f1 s1 e1=>?_;have e1:H1 tp=ag (.tup [nat O,nat t']):=e1;lia;intro D2 H2 f2 s2 e2;lia;refine eQ (xs:=[nat O,nat t']) (λj σ H'=>∃(v7:pa V),σ=[ag (.ref t),ag (.ref p1),ag (.ref p2),ag (nat N.ins.length),ag (.ref Dc),ag (nat O),ag (nat t'),v7,fy,fy,fy,fy]/\Same H2 H') ⟨fy,rfl,Same.refl _⟩ (λj σ H' _ ⟨_,_,s'⟩=>SqL.of (s'.get e2)) ?_ ?_
 ·rintro j y σ H' φ ⟨v7,rfl,s'⟩
  obtain⟨n,rfl⟩:∃n:Nat,y=nat n:=by
   match j,φ with
   | 0,φ=>exact⟨O,(vu φ).symm⟩
   | 1,φ=>exact⟨t',(vu φ).symm⟩
   | j + 2,φ=>simp at φ
  lia;exact s'
 ·rintro σ H' ⟨v7,rfl,s'⟩;lia;have c5:=s1.trans s2;have d1:=c5.trans s';dsimp only;rw[n' (by rw[ZS];omega)];lia;dsimp only;rw[n' (by rw[ZS];omega)];lia;rw[shl1];intro B3 H3 f3 s3 e3;lia;intro B4 H4 f4 s4 e4;lia;refine SI e4 @A @A (by rw[lT,pY];simp;omega) λB5 H5 f5 ο β=>?_;rw[pY,ZC] at β;refine qO (ο.get (s4.get e3)) β (by rw[V',lT];simp;omega) λB6 H6 f6 s6 e6=>?_;have er:[nat (2 ^ O)]++p' t' (V.int 0)=(2 ^ O::p' t' 0).map nat:=by rw[W5,aj0];rfl
  rw[er] at e6;obtain⟨rs,θ⟩:∃rs,rs=2 ^ O::p' t' 0:=⟨_,rfl⟩;have π:rs.length=t' + 1:=by rw[θ,V1,V']
  have c3:∀x∈rs,x < 2 ^ N.ins.length:=λx hx=>by
   rw[θ] at hx;rcases xY.mp hx with h | h
   ·rw[h];exact V7 @C hw
   ·rw[(List.mem_replicate.mp h).2];exact qb _
  rw[<-θ] at e6;have a6:=d1.trans (s3.trans (s4.trans (ο.trans s6)));lia;refine⟨p1,B6,N,od,rs,rfl,ε.a1.same a6,e6,@A,c3,λD7 H7 f7 s7 e7=>?_⟩;have a5:=a6.trans s7;lia;refine⟨p2,B6,Z,a7,rs,rfl,ε.a2.same a5,s7.get e6,@A,by rw[ε.li];exact c3,λD8 H8 f8 s8 e8=>?_⟩;have c4:=a5.trans s8;have b6:=s8.get e7;rw[yW g1 ε.a1.tp] at b6;rw[yW g2 ε.a2.tp] at e8;have k1:=M.wan_sgl (tbN N).1 (tbN N).2 O t' t' (ov _);have k2:=M.wan_sgl (tbN Z).1 (tbN Z).2 O t' t' (ov _)
  have ψ:(M.wan (tbN N).1 (tbN N).2 0 rs).take t'=(M.wan (tbN Z).1 (tbN Z).2 0 rs).take t':=by
   rw[<-M.wan_take,<-M.wan_take,θ,M.pulse_eq];exact ζ.al.runs jo (M.pulse_lt hw t') (by rw[M.pulse_len];exact ov _)
  rw[<-θ] at k1 k2;have e0:=M.wan_len (tbN N).1 (tbN N).2 rs 0;have d2:=M.wan_len (tbN Z).1 (tbN Z).2 rs 0;generalize M.wan (tbN N).1 (tbN N).2 0 rs=a1 at *
  generalize M.wan (tbN Z).1 (tbN Z).2 0 rs=a2 at *
  have t1:atI (a1.map nat) (-1)=ag (nat (M.sgl (tbN N).1 (tbN N).2 O t')):=by
   rw[<-k1];exact KU @A
  have t2:atI (a2.map nat) (-1)=ag (nat (M.sgl (tbN Z).1 (tbN Z).2 O t')):=by
   rw[<-k2];exact KU @A
  lia;intro D9 H9 f9 s9 η;rw[FQ,e0,π,aj5,ψ] at η;have h5:=s9.get e8;lia;intro k8 f0 h4 a4 c2;rw[FQ,d2,π,aj5] at c2;refine Fd (SqL.of (a4.get η)) (SqL.of c2) ?_;refine⟨_,rfl,?_⟩;dsimp only;rw[n' @C];have γ:=s9.trans a4;have ν:=γ.get b6;have x8:=γ.get e8;lia;dsimp only;rw[n' (by rw[ZS];intro e;exact ζ.un (kR e))];have δ:=c4.trans γ;have b3:=δ.get υ;lia;refine eQ (xs:=α.map V.int) (λj σ H'=>∃(v8 ω:pa V),σ=[ag (.ref t),ag (.ref p1),ag (.ref p2),ag (nat N.ins.length),ag (.ref Dc),ag (nat O),ag (nat t'),v7,v8,ag (.ref D7),ag (.ref D8),ω]/\Same f0 H') ⟨_,fy,rfl,Same.refl _⟩ (λj σ H' _ ⟨_,_,_,s'⟩=>SqL.of (s'.get b3)) ?_ ?_
  ·rintro j y σ H' φ ⟨v8,ω,rfl,s'⟩;obtain⟨c,hc,rfl⟩:=aF φ;have em:min (t':Int) 20=((min t' 20:Nat):Int):=by omega
   lia;rw[em];refine⟨c,min t' 20,N.ins.length,rfl,@A,@A,λY k4 ms ρ ι c1 h0 L=>?_⟩;have χ:=δ.trans (s'.trans ι);lia;refine⟨p1,Y,N,od,ms,rfl,ε.a1.same χ,c1,@A,L,λk7 j1 h3 a0 c0=>?_⟩;lia;refine⟨p2,Y,Z,a7,ms,rfl,ε.a2.same (χ.trans a0),a0.get c1,@A,by rw[ε.li];exact L,λk6 j0 τ a3 ξ=>?_⟩;rw[yW g1 ε.a1.tp] at c0;rw[yW g2 ε.a2.tp,<-ζ.al.runs jo L @A] at ξ;refine Fd (SqL.of (a3.get c0)) (SqL.of ξ) ?_;lia;exact⟨_,_,rfl,s'.trans (ι.trans (a0.trans a3))⟩
  ·rintro σ H' ⟨v8,ω,rfl,s'⟩;lia;exact q H' (δ.trans s')
end
section
variable {P:oT} {w:w7} {K:ak} {mg:CM} {base:N'} {a:Ad}
local macro_rules | `(tactic| walk_at "l2step") =>`(tactic| first | ((with_reducible refine' dw ?e ?_);(case e=>walk_at "l2kind")) | ((with_reducible refine' fX ?e ?_);(case e=>walk_at "l2kind")) | (with_reducible refine cb ?_) | (with_reducible refine dD ?_))
theorem mC (T:Tx K mg a):FnOk P w K mg base CX0 3 a.dj a.nV ["_law_one","_law_other","_law_pair","_law_row","_law_goals"] Ql:=by
 refine T.fG.1.okA gw λc3 A outer s H vs Q E ε h=>?_;obtain⟨t1,n1,o1,π,n2,o2,tp,Dg,m,ν,a3,ι,ω,α,Y,γ,r,rfl,T1,T2,ep,eg,pg,lg,ha,hb,Z,q1,θ,η,q⟩:=h;have c0:=sI ε;have a4:=FC ε;have a5:=T1.t;have χ:=T2.t
 refine⟨_,((af (cc (aJ zM (ao (kj T) ε T.mh T.gP (aa (!A @H (pv 0) ai) (aa (!A @H (pv 2) ai) (!j 3 ae)))) (ao (kj T) ε T.mh T.gP (aa (!A @H (pv 1) ai) (aa (!A @H (pv 2) ai) (!j 3 ae)))) (aU _)) (aj (ay l8)) aL)
  (af (aA (i:=5) gw.nd rfl @E (cL (aa ai (aa ai ae))))
  (af (de la rfl (aR (K:=K) rfl (pv 4)) (ar (i:=6) gw.nd rfl @E) (aj (aA (i:=5) gw.nd rfl @E (cL (aa (ax mB (!A (bM (K:=K) rfl) (pv 5) ai) (!A @H (pv 6) ai)) (aa (ax mB (!A (bM (K:=K) rfl) (pv 5) ai) (!A @H (pv 6) ai)) ae))))))
  (aj (ay (gb (Q0 (K:=K) rfl a4) (pv 5) (cL (aa (ao (kj T) ε T.mh T.gP (aa (!A @H (pv 0) ai) (aa (!A @H (pv 2) ai) (!j 3 ae)))) (aa (ao (kj T) ε T.mh T.gP (aa (!A @H (pv 1) ai) (aa (!A @H (pv 2) ai) (!j 3 ae)))) ae))) (aU _)))))))),av (σ':=[ag _,ag _,ag _,ag _,ag _,fy,fy]) rfl ?_⟩
 lia;refine⟨o1,a3,Y,r,rfl,SqL.of T1.tab.o,T1.tab.po,by have:=T1.tab.lo;omega,ha,Z,λH1 ζ=>?_⟩;have b3:=ζ.get χ;have c2:=ζ.get ep;lia;refine⟨o2,ω,γ,r,rfl,SqL.of (ζ.get T2.tab.o),T2.tab.po.same ζ,by have:=T2.tab.lo;omega,hb,Z,λH2 s2=>?_⟩;rw[q1];have L:=ζ.trans s2;lia;dsimp only;rw[n' @F];lia;intro τ H3 f3 s3 e3;have δ:=L.trans s3;have a7:=δ.get eg;lia;refine eQ (xs:=refs α) (λj σ H'=>∃(ψ:pa V) (Dt:dt),σ=[ag (.ref t1),ag (.ref π),ag (.ref tp),ag (nat r),ag (.ref Dg),ag (.ref Dt),ψ]/\Same H3 H'/\H' Dt=ag (.lst [nat (x1 (α.take j)),nat (x2 (α.take j))])) ⟨fy,τ,rfl,Same.refl _,e3⟩ (λj σ H' _ ⟨_,_,_,s',_⟩=>SqL.of (s'.get a7)) ?_ ?_
 ·rintro j y σ H' hy ⟨ψ,Dt,rfl,s',eD⟩;obtain⟨g,ξ,rfl⟩:=aF hy;have ge:=s'.get (δ.get (pg g (f' ξ)));have υ:atI [nat (x1 (α.take j)),nat (x2 (α.take j))] 0=ag (nat (x1 (α.take j))):=d9 (j:=0) rfl;have a1:atI [nat (x1 (α.take j)),nat (x2 (α.take j))] 1=ag (nat (x2 (α.take j))):=d9 (j:=1) rfl;lia;intro D4 H4 f4 β ρ;rw[eJ,eJ] at ρ;lia;exact⟨_,D4,rfl,s'.trans β,by rw[ρ,take_succ ξ,IS,IR]⟩
 ·rintro σ H' ⟨ψ,Dt,rfl,s',eD⟩;rw[om,pT,θ,η] at eD;have O:=δ.trans s';have b6:=O.get a5;have φ:=O.get χ;have a6:=O.get ep;lia;refine⟨n1,ν,Y,r,rfl,SqL.of (O.get T1.tab.n),T1.tab.pn.same O,T1.tab.ln,ha,Z,λH4 β=>?_⟩;have a8:=β.get φ;have c1:=β.get a6;lia;refine⟨n2,ι,γ,r,rfl,SqL.of (β.get (O.get T2.tab.n)),T2.tab.pn.same (O.trans β),T2.tab.ln,hb,Z,λH5 ο=>?_⟩;lia;intro D6 H6 f6 s6 e6;refine Fd (ns:=[M.tr2 (prs ν) Y r,M.tr2 (prs ι) γ r]) (SqL.of (s6.get (ο.get (β.get eD)))) (SqL.of e6) ?_;exact q H6 (O.trans (β.trans (ο.trans s6)))
end
section
variable {P:oT} {w:w7} {K:ak} {mg:CM} {base:N'} {a:Ad}
local macro_rules | `(tactic| walk_at "l2step") =>`(tactic| first | ((with_reducible refine' dw ?e ?_);(case e=>walk_at "l2kind")) | ((with_reducible refine' fX ?e ?_);(case e=>walk_at "l2kind")) | (with_reducible refine cb ?_) | (with_reducible refine dD ?_))
local macro_rules | `(tactic| walk_at "l2step") =>`(tactic| first | (with_reducible refine SV ?_) | (with_reducible refine JV ?_))
theorem rg (T:Tx K mg a):FnOk P w K mg base CX0 4 a.cj a.lG ["_law_found","_law_one","_law_other"] Jy:=by
 refine T.fT.1.okA bG λe2 A outer s H vs Q E hr h=>?_;obtain⟨t,Z,Db,Y,t1,n1,o1,π,n2,o2,ts,bs,us,m,δ,a5,ε,a4,rfl,γ,T1,T2,hl,al,q⟩:=h;have m6:=T1.tab.m6
 have jo:M.Jo (prs δ) (prs ε):=⟨λq hq=>by
   obtain⟨r,hr,rfl⟩:=ik.mp hq;rw[aX];exact(T1.tab.bn r (hQ _ hr)).1,λq hq=>by
   obtain⟨r,hr,rfl⟩:=ik.mp hq;rw[aX];exact(T2.tab.bn r (hQ _ hr)).1,by rw[aX,aX];omega⟩
 have few:=M.prs2_few (prs δ) (prs ε) m;rw[aX,aX] at few;obtain⟨rows,L⟩:∃rows,rows=M.prs2 (prs δ) (prs ε) m:=⟨_,rfl⟩;have ls:=γ.ls;have lu:=γ.lu;have lb:=γ.lb;rw[<-L] at few ls lu;have ef:=γ.t;have c4:=T1.t
 refine⟨_,((af (Pg (jg (JM (K:=K) rfl) (pv 0) (jI ai) pU) (qU rfl (bA (ar (i:=3) bG.nd rfl @E) (bA (ar (i:=4) bG.nd rfl @E) (bA (ar (i:=5) bG.nd rfl @E) iy)))))
  (af (cc (PW.pt (kZ (aJ zM (aC (aK (K:=K) rfl) @D T.eX lJ (!j 4 ae)) (!A @H (pv 1) ai) (aU _)) (jG (aJ zM (aC (aK (K:=K) rfl) @D T.eX lJ (!j 5 ae)) (aC (aK (K:=K) rfl) @D T.eX lJ (!j 3 ae)) (aU _))))) (aj (ay l8)) aL)
  (af (de la rfl (DF (K:=K) rfl @D T.fi (pv 4)) (qU rfl (bA (ar (i:=6) bG.nd rfl @E) (bA (ar (i:=7) bG.nd rfl @E) iy))) (aj (cc (fW (cK (ao (mC T) hr T.nQ T.fG (!j 1 (!j 2 (aa (eP (aa ai (aa ai ae))) (aa (ax gS ai (pv 6)) (aa (b9 (osc:=ah dU) (ON:=n24) (N:=n16) (n:=1) (fx:=[3]) rfl rfl rfl @I (aR (K:=K) rfl (pv 7)) (aP @C) (λ_ _ _ _ _=>⟨(ar (i:=0) (show ox (n16:B1) from by decide +kernel) rfl @E),bh,(!A (bM (K:=K) rfl) (pv 1) (pv 0))⟩)) ae)))))))) (aj (ay l8)) aL)))
  (af (de la rfl (Tz (K:=K) rfl @D T.Vz (pv 3) (pv 5)) (qU rfl (bA (ar (i:=8) bG.nd rfl @E) (bA (ar (i:=7) bG.nd rfl @E) iy))) (aj (cc (fW (cK (ao (mC T) hr T.nQ T.fG (!j 1 (!j 2 (!j 8 (aa ai (aa (b9 (osc:=ah dU) (ON:=n24) (N:=n16) (n:=1) (fx:=[3]) rfl rfl rfl @I (aR (K:=K) rfl (pv 7)) (aP @C) (λ_ _ _ _ _=>⟨(ar (i:=0) (show ox (n16:B1) from by decide +kernel) rfl @E),bh,(!A (bM (K:=K) rfl) (pv 1) (pv 0))⟩)) ae)))))))) (aj (ay l8)) aL)))
  (aj (ay l8))))))),av (σ':=[ag _,ag _,ag _,fy,fy,fy,fy,fy,fy]) rfl ?_⟩
 lia;refine SE (SqT.of ef) (by show ¬(HT.sIx 4 0 (ag 1)=0/\HT.sIx 4 4 fy=4);decide) λtp H1 f1 s1 e1=>?_;have e1:H1 tp=ag (.tup [.ref Z,.ref Db,.ref Y]):=e1;have O:=s1.get γ.s;have e0:=s1.get γ.b;have d2:=s1.get γ.u;have d1:=s1.get c4
 have prt:∀{H':Hp},Same H H'->∀ks:B',(∀k∈ks,k < rows.length)->Prt H' (gat δ.length ts rows ks):=λ{H'} s' ks hk g hg=>by
  obtain⟨k,c0,rfl⟩:=ik.mp hg;have ζ:=hk k c0;have b3:ts[k]? =ag (ts.getD k 0):=by rw[eY,eF @A];rfl
  have:=s'.get (γ.sa k _ b3);rw[aX,<-L] at this;exact this
 have a3:∀{x:Nat},(x=0∨x∈rows)->∀{r:Nat},r < 2 ^ m->∀k∈M.pl 1000 (sfq rows (M.tr2 (M.jn (prs δ) (prs ε)) x r)),k < rows.length:=λ{x} hx {r} ι=>by
  have sp:M.Span rows (M.tr2 (M.jn (prs δ) (prs ε)) x r):=by
   rw[L] at hx ⊢;exact vF (q:=0) hx ι
  exact M.pl_lt (Jk (by rw[L];exact M.fR_inj _) sp).lt
 have χ:∀{x:Nat},(x=0∨x∈rows)->∀{r:Nat},r < 2 ^ m->_:=λ{x} hx {r} ι=>Ut (m:=m) ts jo hl al (by rw[<-L];exact hx) ι;rw[<-L] at χ;have ω:∀{x n:Nat},n<=60->x < 2 ^ n->x < 2 ^ 1000:=λ{x n} hn hx=>hA hx (hL @C @A);lia;dsimp only;rw[n' (by rw[a',lb];simp)];lia;dsimp only;rw[n' (by rw[a',a',lu,ls];simp)];lia;refine u0 (xs:=bs.map V.ref) (λj σ H'=>∃(v6 ξ:pa V),σ=[ag (.ref t),ag (.ref t1),ag (.ref π),ag (.ref Z),ag (.ref Db),ag (.ref Y),v6,ξ,fy]/\Same H H') ⟨fy,fy,rfl,s1⟩ (λj σ H' _ ⟨_,_,_,s'⟩=>SqL.of (s'.get γ.b)) ?_ ?_
 ·rintro j y σ H' pt H2 hy ⟨v6,ξ,rfl,s'⟩ ft st et;obtain⟨d,hd,rfl⟩:=aF hy;have hj:=(b'.mp hd).1;have φ:2 ^ j < 2 ^ m:=V7 @C @A;have s2:=s'.trans st;have ed:=s2.get (γ.ba j d hd);rw[<-L] at ed;obtain⟨ks,θ⟩:∃ks,ks=M.pl 1000 (sfq rows (M.tr2 (M.jn (prs δ) (prs ε)) 0 (2 ^ j))):=⟨_,rfl⟩;have ζ:=a3 (.inl rfl) φ;have hf:=χ (.inl rfl) φ;rw[<-θ] at ed ζ hf;have υ:ks.length<=1000:=by rw[θ];exact M.pl_le _ _
  lia;intro tz H3 τ s3 e3;have a0:=s2.trans s3;have α:=s3.get ed;have ψ:=a0.get γ.s;lia;rw[shl1];lia;intro D4 ν;refine bf (xs:=ks.map nat) (λi ys H'=>Cs (λi ys=>ys=refs (gat δ.length ts rows (ks.take i))) H3 D4 i ys H') (Cs.zero ν rfl) (λi ys H' _ c=>SqL.of (c.same.get α)) (λi v ys H' hv c=>?_) (λys H4 c=>?_)
  ·obtain⟨k,hk,rfl⟩:=aF hv;have hi:=(b'.mp hk).1;have b6:=ζ k (f' hk);have c5:=c.same.get ψ;have c3:atI (ts.map V.ref) (k:Int)=ag (.ref (ts.getD k 0)):=d9 (by rw[kf,eY,eF @A];rfl);lia;refine Cs.put ν c.same c.at' c.len @A ?_;rw[c.pv,take_succ hk];unfold gat refs;rw[fI,fI];rfl
  have ρ:=c.at';rw[c.pv,a',pT] at ρ;have s4:=c.same;clear c;have β:=a0.trans s4;have z1:M.lo δ.length 0=0:=by unfold M.lo;rw[Yd]
  rw[z1,Zg] at hf;lia;refine⟨t1,n1,o1,π,n2,o2,tz,D4,m,δ,a5,ε,a4,_,0,0,2 ^ j,rfl,T1.same β,T2.same β,s4.get e3,ρ,prt β ks ζ,by unfold gat;rw[a'];exact υ,qb _,qb _,ω @A φ,hf.1,hf.2.1,hf.2.2,λH5 ο=>?_⟩;lia;exact⟨_,_,rfl,β.trans ο⟩
 ·rintro σ H' ⟨v6,ξ,rfl,s'⟩;lia;have sA:=s';refine⟨Z,Y,_,_,rfl,rfl,SqL.of (sA.get γ.s),SqL.of (sA.get γ.u),by rw[a',a',ls,lu],?_⟩;refine RA (xs:=ts.map V.ref) (ys:=us.map V.ref) (by rw[a',a',ls,lu]) (λj σ H'=>∃(v6 ξ v8:pa V),σ=[ag (.ref t),ag (.ref t1),ag (.ref π),ag (.ref Z),ag (.ref Db),ag (.ref Y),v6,ξ,v8]/\Same H H') ⟨v6,ξ,fy,rfl,sA⟩ (λj σ H' _ ⟨_,_,_,_,s'⟩=>⟨SqL.of (s'.get γ.s),SqL.of (s'.get γ.u)⟩) ?_ ?_
  ·rintro j x y σ H' pt H2 hx hy ⟨v6,ξ,v8,rfl,s'⟩ ft st et;obtain⟨ta,a6,rfl⟩:=aF hx;obtain⟨d,hd,rfl⟩:=aF hy;have hj:=(b'.mp a6).1;have c1:j < rows.length:=by omega
   have c2:rows[j]? =ag (rows.getD j 0):=by rw[eY,eF c1];rfl
   have η:rows.getD j 0∈rows:=f' c2;have a7:(0:Nat) < 2 ^ m:=qb _;have s2:=s'.trans st;have ed:=s2.get (γ.ua j d hd);have ep:=s2.get (γ.sa j ta a6);rw[<-L] at ed ep;rw[aX] at ep;obtain⟨ks,θ⟩:∃ks,ks=M.pl 1000 (sfq rows (M.tr2 (M.jn (prs δ) (prs ε)) (rows.getD j 0) 0)):=⟨_,rfl⟩;have ζ:=a3 (.inr η) a7;have hf:=χ (.inr η) a7;rw[<-θ] at ed ζ hf;have υ:ks.length<=1000:=by rw[θ];exact M.pl_le _ _
   have ψ:=s2.get γ.s
   have a8:rows.getD j 0 < 2 ^ (δ.length + ε.length):=by
    have:=M.prs2_lt (show rows.getD j 0∈M.prs2 (prs δ) (prs ε) m by rw[<-L];exact η);rwa [aX,aX] at this
   lia;intro D4 ν;refine bf (xs:=ks.map nat) (λi ys H'=>Cs (λi ys=>ys=refs (gat δ.length ts rows (ks.take i))) H2 D4 i ys H') (Cs.zero ν rfl) (λi ys H' _ c=>SqL.of (c.same.get ed)) (λi v ys H' hv c=>?_) (λys H4 c=>?_)
   ·obtain⟨k,hk,rfl⟩:=aF hv;have hi:=(b'.mp hk).1;have b6:=ζ k (f' hk);have c5:=c.same.get ψ;have c3:atI (ts.map V.ref) (k:Int)=ag (.ref (ts.getD k 0)):=d9 (by rw[kf,eY,eF @A];rfl);lia;refine Cs.put ν c.same c.at' c.len @A ?_;rw[c.pv,take_succ hk];unfold gat refs;rw[fI,fI];rfl
   have ρ:=c.at';rw[c.pv,a',pT] at ρ;have s4:=c.same;clear c;have β:=s2.trans s4;lia;refine⟨t1,n1,o1,π,n2,o2,ta,D4,m,δ,a5,ε,a4,_,_,_,0,rfl,T1.same β,T2.same β,s4.get ep,ρ,prt β ks ζ,by unfold gat;rw[a'];exact υ,ω @A (M.lo_lt _ _),ω @A (M.hi_lt a8),qb _,hf.1,hf.2.1,hf.2.2,λH5 ο=>?_⟩;lia;exact⟨_,_,_,rfl,β.trans ο⟩
  ·rintro σ H' ⟨v6,ξ,v8,rfl,s'⟩;lia;exact q H' s'
end
section
variable {P:oT} {w:w7} {K:ak} {mg:CM} {base:N'} {a:Ad}
local macro_rules | `(tactic| walk_at "l2step") =>`(tactic| first | ((with_reducible refine' dw ?e ?_);(case e=>walk_at "l2kind")) | ((with_reducible refine' fX ?e ?_);(case e=>walk_at "l2kind")) | (with_reducible refine cb ?_) | (with_reducible refine dD ?_))
theorem GT (T:Tx K mg a):FnOk P w K mg base CX0 3 a.jZ a.Ci ["thing","stores","inputs"] Nl:=by
 have Z:FnOk P w K mg base CX0 2 a.iT a.xi ["thing","width"] (C7 K):=ou T;refine T.r8.1.okA Gx fun α A outer s H vs Q E L h=>?_;obtain⟨t,x,y,n,m,rfl,ht,Y,O,q⟩:=h
 refine⟨_,((af (cc (PW.pt (kZ (fW (cK (aC (dm (K:=K) rfl) @D T.bx qa (!j 0 (aa (gB (v:= .ty "tuple") @D T.gC u' rfl) ae))))) (jG (aJ zM (aC (aK (K:=K) rfl) @D T.eX lJ (!j 0 ae)) ai (aU _))))) (aj (ay l8)) aL)
  (aj (ay (oU (ao Z L T.nP T.iW (aa (!A @H (pv 0) ai) (!j 1 ae))) (tV (ao Z L T.nP T.iW (aa (!A @H (pv 0) ai) (!j 2 ae))))))))),av (σ':=[ag _,ag _,ag _]) rfl ?_⟩
 lia;refine pK (gh Y) ?_;lia;rw[gh O];exact q
theorem xW (T:Tx K mg a):FnOk P w K mg base CX0 4 a.d5 a.rO ["inputs","nexts","outs"] Qo:=by
 have L:FnOk P w K mg base CX0 1 a.fP a.oF ["thing"] (uW K):=pX T;refine T.jk.1.okA xP fun ε A outer s H vs Q E β h=>?_;obtain⟨n,o,m,nx,os,rfl,t,q⟩:=h
 refine⟨_,((af (cc (PW.pt (kZ (fW (cK (ao L β T.tM T.jv (!j 0 ae)))) (kZ (aJ DJ (pv 0) ai (aU _)) (jG (aJ qZ (pv 0) (hV (v:= .int 6) @D T.Av ⟨_,rfl⟩) (aU _)))))) (aj (kc M' T.gR thr0 rfl @D T.oC (aa cD ae))) aL)
  (af (cc (PW.pt (kZ (fW (cK (aC (dm (K:=K) rfl) @D T.bx qa (!j 1 (aa (gB (v:= .ty "list") @D T.gT oD rfl) ae))))) (jG (aJ qZ (aC (aK (K:=K) rfl) @D T.eX lJ (!j 1 ae)) (hV (v:= .int 120) @D T.mU ⟨_,rfl⟩) (aU _))))) (aj (kc M' T.gR thr0 rfl @D T.oC (aa cD ae))) aL)
  (af (cc (PW.pt (kZ (fW (cK (aC (dm (K:=K) rfl) @D T.bx qa (!j 2 (aa (gB (v:= .ty "list") @D T.gT oD rfl) ae))))) (jG (aJ qZ (aC (aK (K:=K) rfl) @D T.eX lJ (!j 2 ae)) (hV (v:= .int 6) @D T.oQ ⟨_,rfl⟩) (aU _))))) (aj (kc M' T.gR thr0 rfl @D T.oC (aa cD ae))) aL)
  (aj (cc (fW (cK (aC (Cv (K:=K) rfl rfl) @D T.T9 ZZ (aa (b9 (osc:=ah je) (ON:=["inputs","nexts","outs"]) (N:=["pair","nexts","inputs"]) (n:=1) (fx:=[1,0]) rfl rfl rfl @I (aR (K:=K) rfl (ax ke (pv 1) (pv 2))) (aP @C) (λ_ _ _ _ _=>⟨(ar (i:=0) (show ox (["pair","nexts","inputs"]:B1) from by decide +kernel) rfl @E),bh,(ao (GT T) β T.Lu T.r8 (!j 0 (aa (aC (aK (K:=K) rfl) @D T.eX lJ (!j 1 ae)) (!j 2 ae))))⟩)) ae)))) (aj (kc M' T.gR thr0 rfl @D T.oC (aa cD ae))) aL)))))),av (σ':=[ag _,ag _,ag _]) rfl ?_⟩
 lia;have m6:=t.m6;have ln:=t.ln;have lo:=t.lo;have hn:=t.n;have ho:=t.o;have γ:(refs nx).length=nx.length:=a' ..
 have η:(refs os).length=os.length:=a' ..
 refine j9 (gz @A) ?_;lia;refine j9 (gz @A) ?_;lia;refine j9 (gz @A) ?_;lia;refine qO hn ho (by rw[lT];omega) λp H2 ζ Z δ=>?_;lia;intro D α;refine bf (xs:=refs nx++refs os) (λi ys H'=>Cs (λi ys=>ys=(p' i true).map V.bl) H2 D i ys H') (Cs.zero α rfl) (λi ys H' _ c=>SqL.of (c.same.get δ)) (λi x ys H' Y c=>?_) (λys H' c=>?_)
 ·have Y:(refs (nx++os))[i]? =ag x:=by unfold refs at Y ⊢;rw[fI];exact Y
  obtain⟨O,φ,rfl⟩:=aF Y;have hm:=f' φ;have hi:=(b'.mp φ).1;rw[gs] at hi;have hb:=t.bn O hm;have ht:H O.1=ag (.tup [nat O.2.1,nat O.2.2]):=(gF.mp hm).elim (t.pn O) (t.po O);have ω:=c.same.get (Z.get hn);lia;rw[γ];refine⟨O.1,O.2.1,O.2.2,nx.length,m,rfl,c.same.get (Z.get ht),hb.1,hb.2,?_⟩;refine Cs.put α c.same c.at' c.len @A ?_;rw[c.pv,XD,fI];rfl
 ·have υ:=c.at';rw[c.pv] at υ;lia;refine O9 (SqL.of υ) ?_;lia;refine j9 (by rw[List.all_replicate];simp) ?_;lia;exact q H' (Z.trans c.same)
theorem p3 (T:Tx K mg a):FnOk P w K mg base CX0 5 a.bq a.ku ["self","inputs","nexts","outs"] (Qk a.aw):=by
 refine T.eU.1.okA pF λa0 A outer s H vs Q E π h=>?_;obtain⟨x,dx,n,o,m,nx,os,rfl,δ,t,q⟩:=h
 refine⟨_,((af (bu (ao (xW T) π T.Ar T.jk (!j 1 (!j 2 (!j 3 ae)))))
  (af (df (K:=K) rfl (pv 0) (pv 1) rfl)
  (af (df (K:=K) rfl (pv 0) (aV (dk (K:=K) rfl) @D T.gC u' (!j 2 ae)) rfl)
  (aj (df (K:=K) rfl (pv 0) (aV (dk (K:=K) rfl) @D T.gC u' (!j 3 ae)) rfl)))))),av (σ':=[ag _,ag _,ag _,ag _]) rfl ?_⟩
 lia;refine⟨n,o,m,nx,os,rfl,t,λH1 ε=>?_⟩;have γ:=cn t.n δ @F;have α:=cn t.o δ @F;lia;refine dc (ε.get δ) T.aI T.bL @C rfl λH2 ι=>?_;have χ:=ι.oth _ _ γ (ε.get t.n);have φ:=ι.oth _ _ α (ε.get t.o);lia;intro θ H3 τ ζ ω;have Y:θ≠x:=λz=>by rw[z,ι.at'] at τ;cases τ
 lia;refine dc (ζ.get ι.at') T.aI T.fj (by show 1 < 1000;decide) rfl λH4 L=>?_;have υ:=L.oth _ _ α (ζ.get φ);have ρ:=L.oth _ _ Y ω;lia;intro to H5 ν ο ψ;have β:to≠x:=λz=>by rw[z,L.at'] at ν;cases ν
 lia;refine dc (ο.get L.at') T.aI T.iK (by show 2 < 1000;decide) rfl fun ξ O=>?_;have k:∀b ob,b≠x->H b=ag ob->ξ b=ag ob:=λb ob η e=>O.oth _ _ η (ο.get (L.oth _ _ η (ζ.get (ι.oth _ _ η (ε.get e)))));lia;refine q ξ k ⟨⟨dx,θ,to,O.at',O.oth _ _ Y (ο.get ρ),O.oth _ _ β ψ⟩,λZ h=>k _ _ ?_ (t.pn Z h),λZ h=>k _ _ ?_ (t.po Z h)⟩
 ·exact cn (t.pn Z h) δ @F
 ·exact cn (t.po Z h) δ @F
theorem cX (T:Tx K mg a):FnOk P w K mg base CX0 1 a.bS a.mL ["self"] (Jp a.aw):=by
 refine T.bz.1.okA sD λL A outer s H vs Q E Y h=>?_;obtain⟨p,m,nx,os,rfl,ma,q⟩:=h;obtain⟨dx,O,to,ho,hn,φ⟩:=ma.ho;refine⟨_,((aj (ay (aC (aK (K:=K) rfl) @D T.eX lJ (aa (aH (K:=K) rfl (pv 0) rfl) ae))))),av (σ':=[ag _]) rfl ?_⟩;lia;refine aG ho T.aI T.fj rfl ?_;lia;unfold refs;rw[a'];exact q
theorem KB (T:Tx K mg a):FnOk P w K mg base CX0 2 a.mi a.FM ["pair","state","row"] Nw:=by
 refine T.vd.1.okA JQ λO A outer s H vs Q E L h=>?_;obtain⟨t,a1,b1,x,r,rfl,ht,ha,hb,q⟩:=h;refine⟨_,((aj (ay (gb zM (ao (DL T) L T.Lv T.zk (aa (ax nG (!A @H (pv 0) ai) (pv 1)) ae)) (ao (DL T) L T.Lv T.zk (aa (ax nG (!A @H (pv 0) ai) (pv 2)) ae)) (aU _))))),av (σ':=[ag _,ag _,ag _]) rfl ?_⟩;lia;rw[eK];refine⟨a1&&&x,rfl,Wl aa5 ha,?_⟩;lia;rw[eK];refine⟨b1&&&r,rfl,Wl aa5 hb,?_⟩;lia;rw[II];exact q
theorem rf (T:Tx K mg a):FnOk P w K mg base CX0 3 a.fk a.t5 ["pairs","state","row"] (Qh K):=by
 refine T.iV.1.okA zu fun δ A outer s H vs Q E β h=>?_;obtain⟨r,ps,x,y,rfl,hp,pt,hl,hb,q⟩:=h;refine⟨_,((aj (ay (ao (yZ T) β T.BN T.n5 (aa (b9 (osc:=ah ka) (ON:=["pairs","state","row"]) (N:=n19) (n:=2) (fx:=[1,2]) rfl rfl rfl @I (qT (K:=K) rfl @D T.fi (pv 0)) (BL (iL (aP @C) (iL (aP @C) wM))) (λ_ _ _ _ _=>⟨(vH (K:=K) (n:=2) rfl rfl (bA (ar (i:=0) (show ox (n19:B1) from by decide +kernel) rfl @E) (bA (ar (i:=1) (show ox (n19:B1) from by decide +kernel) rfl @E) iy))),(nE (cK (ao (KB T) β T.Ol T.vd (!j 1 (!j 2 (!j 3 ae)))))),(pv 0)⟩)) ae))))),av (σ':=[ag _,ag _,ag _]) rfl ?_⟩;lia;refine .inr ⟨⟨_,hp⟩,?_⟩;intro D α;refine tP (xs:=refs ps) (λi ys H'=>Cs (λi ys=>∃qs:B',ys=qs.map nat/\(∀p∈qs,p < i)/\M.xm qs=M.tr2 (prs (ps.take i)) x y) H D i ys H') (Cs.zero α ⟨[],rfl,λ_ h=>hB h @F,rfl⟩) (λi ys H' _ c=>Same.tup c.same hp) (λi v ys H' p ζ γ c fp Y ε=>?_) (λys H' c=>?_)
 ·obtain⟨O,φ,rfl⟩:=aF γ;obtain⟨qs,χ,Z,L⟩:=c.pv;have hm:=f' φ;have hi:=(b'.mp φ).1;have ht:=Y.get (c.same.get (pt O hm));have ts:=Nb x y φ;lia;refine⟨O.1,O.2.1,O.2.2,x,y,rfl,ht,(hb O hm).1,(hb O hm).2,?_⟩;cases ι:(M.od (O.2.1&&&x)^^M.od (O.2.2&&&y)) with
  | true=>
    rw[ι,qq rfl] at ts;lia;refine Cs.put α (c.same.trans Y) (Y.get c.at') c.len @A ⟨qs++[i],?_,λk hk=>?_,?_⟩
    ·rw[χ,fI];rfl
    ·rcases gF.mp hk with h | h
     ·have:=Z k h;omega
     ·rw[gn.mp h];omega
    ·rw[M.xm_snoc,L,ts]
  | false=>
    rw[ι,n' iv,Wa] at ts;lia;refine Cs.skip (c.same.trans Y) (Y.get c.at') c.len ⟨qs,χ,λk hk=>?_,?_⟩
    ·have:=Z k hk;omega
    ·rw[L,ts]
 ·obtain⟨qs,χ,Z,L⟩:=c.pv;rw[om] at Z L;have υ:=c.at';rw[χ] at υ;lia;refine⟨D,qs,rfl,υ,λk hk=>by have:=Z k hk;omega,?_⟩;rw[L,pT];exact q _ c.same
theorem ij (T:Tx K mg a):FnOk P w K mg base (CX1 P w) 3 a.a9 a.iU ["self","state"] (Su K a.aw a.fF):=by
 refine T.bX.1.okX mQ (λvs H Q E h=>?_) (λY A outer s H vs Q E O h=>?_)
 ·obtain⟨p,m,nx,os,x,k,rfl,_⟩:=h;rfl
 ·obtain⟨p,m,nx,os,x,k,rfl,ma,hk,θ,L⟩:=h;obtain⟨dx,Z,to,ho,hn,φ⟩:=ma.ho;refine⟨_,((aj (cc (fW (cK (ao (ou T) O T.nP T.iW (!j 1 (aa (aC (aK (K:=K) rfl) @D T.eX lJ (aa (aH (K:=K) rfl (pv 0) rfl) ae)) ae))))) (aj (kc M' T.jx cQ rfl @D T.wX (aa cD ae))) aL))),av (σ':=[ag _,ag _]) rfl ?_⟩;lia;refine aG ho T.aI T.fj rfl ?_;lia;rw[om];cases hm:p9 x (nx.length:Int) with
  | false=>
    lia;exact⟨by rw[lT];decide,L hm⟩
  | true=>
    lia;exact θ hm
theorem jM (T:Tx K mg a):FnOk P w K mg base (CX1 P w) 4 a.cB a.ph ["self","state","row"] (Np K a.aw a.fF):=by
 refine T.dO.1.okX vv (λvs H Q E h=>?_) (fun η A outer s H vs Q E O h=>?_)
 ·obtain⟨p,m,nx,os,x,y,kx,ε,rfl,_⟩:=h;rfl
 ·obtain⟨p,m,nx,os,x,y,kx,ε,rfl,ma,g,Y,ζ,θ,Z⟩:=h;obtain⟨dx,α,to,ho,hn,φ⟩:=ma.ho;have ln:=g.ln;have lo:=g.lo
  refine⟨_,((af (bu (dP (pv 0) T.aI T.iS (ij T) (O.mono @C) T.bX.2 .nil cQ (!j 1 ae)))
   (af (cc (fW (cK (ao (ou T) O T.nP T.iW (!j 2 (aa (aH (K:=K) rfl (pv 0) rfl) ae))))) (aj (kc M' T.jx cQ rfl @D T.wX (aa cD ae))) aL)
   (aj (ay (eP (aa (ao (rf T) O T.tY T.iV (aa (aH (K:=K) rfl (pv 0) rfl) (!j 1 (!j 2 ae)))) (aa (ao (rf T) O T.tY T.iV (aa (aH (K:=K) rfl (pv 0) rfl) (!j 1 (!j 2 ae)))) ae)))))))),av (σ':=[ag _,ag _,ag _]) rfl ?_⟩
  lia;refine cO ho rfl ?_;lia;refine⟨p,m,nx,os,x,kx,rfl,ma,Y,λhm=>?_,λhm=>Z (.inl hm)⟩;lia;refine aG ho T.aI T.bL rfl ?_;lia;cases β:p9 y (m:Int) with
  | false=>
    lia;exact⟨by rw[lT];decide,Z (.inr β)⟩
  | true=>
    obtain⟨a1,rfl,ha⟩:=z9 hm;obtain⟨b1,rfl,hb⟩:=z9 β;lia;refine aG ho T.aI T.iK rfl ?_;lia;refine⟨to,os,a1,b1,rfl,SqT.of φ,ma.hs,@A,g.b2,λH2 L=>?_⟩;lia;refine aG (L.get ho) T.aI T.fj rfl ?_;lia;refine⟨α,nx,a1,b1,rfl,SqT.of (L.get hn),ma.hn.same L,@A,g.b1,fun ξ δ=>?_⟩;lia;intro t ι ν γ ρ;exact θ a1 b1 rfl rfl ha hb t ι (L.trans (δ.trans γ)) ρ
theorem sN (T:Tx K mg a):FnOk P w K mg base (CX1 P w) 5 a.bR a.mK ["self","rows","state"] (Nf K a.aw a.fF):=by
 refine T.eG.1.okX dR (λvs H Q E h=>?_) (λa4 A outer s H vs Q E χ h=>?_)
 ·obtain⟨p,ρ,m,nx,os,x,xs,rfl,_⟩:=h;rfl
 ·obtain⟨p,ρ,m,nx,os,x,xs,rfl,γ,θ,τ⟩:=h;obtain⟨dx,tn,to,ho,hn,φ⟩:=γ.ma.ho;obtain⟨kx,ο⟩:=γ.kx;have ln:=γ.ln;have a3:=γ.sq
  refine⟨_,((af (bu (dP (pv 0) T.aI T.iS (ij T) (χ.mono @C) T.bX.2 .nil cQ (!j 2 ae)))
   (af (aA (i:=3) dR.nd rfl @E (cL ae))
   (af (de (DG ⟨rfl,rfl⟩) rfl (aR (K:=K) rfl (pv 1)) (ar (i:=4) dR.nd rfl @E) (af (aA (i:=5) dR.nd rfl @E (dP (pv 0) T.aI T.kT (jM T) (χ.mono @C) T.dO.2 .nil cQ (!j 2 (!j 4 ae))))
   (af (bu (iR (K:=K) rfl vr LI K' eB (pv 3) (aa (!A @H (pv 5) ai) ae)))
   (aj (aA (i:=2) dR.nd rfl @E (!A @H (pv 5) ai))))))
   (aj (ay (eP (!j 3 (!j 2 ae))))))))),av (σ':=[ag _,ag _,ag _,fy,fy,fy]) rfl ?_⟩
  lia;refine cO ho rfl ?_;lia;refine⟨p,m,nx,os,x,kx,rfl,γ.ma,ο,λhm=>?_,λhm=>τ (.inl hm) H (Same.refl _)⟩;obtain⟨υ,rfl,β⟩:=z9 hm;lia;intro D H1 ψ s1 e1;lia;refine eQ (xs:=xs) (λi σ H'=>∃(rs:B') (v ζ:pa V),σ=[ag (.ref p),ag (.ref ρ),ag (nat (M.wst (prs nx) υ rs)),ag (.ref D),v,ζ]/\Same H H'/\H' D=ag (.lst ((M.wan (prs nx) (prs os) υ rs).map nat))/\xs.take i=rs.map nat/\∀r∈rs,r < 2 ^ m) ⟨[],fy,fy,rfl,s1,e1,rfl,λ_ h=>hB h @F⟩ (λi σ H' _ ⟨_,_,_,_,e,_⟩=>Same.seq e γ.sq) ?_ ?_
  ·rintro i y σ H' δ ⟨rs,v,ζ,rfl,L,η,et,O⟩;obtain⟨ky,ξ⟩:=γ.ks y (f' δ);have hi:=(b'.mp δ).1;have π:rs.length=i:=by have:=ri y1 et;rw[sv,a'] at this;omega
   have Z:M.wst (prs nx) υ rs < 2 ^ nx.length:=by have:=M.wst_lt (ps:=prs nx) (rs:=rs) (x:=υ) (by rw[aX];exact β);rwa [aX] at this
   lia;refine cO (L.get ho) rfl ?_;lia;refine⟨p,m,nx,os,nat (M.wst (prs nx) υ rs),y,"int",ky,rfl,γ.ma.same L,γ.g,rfl,K8 ξ L,λa1 b1 ea eb ha hb t ω Y ε=>?_,fun α=>?_⟩
   ·have ea:=kR ea;subst ea;subst eb;lia;refine g6 (Y.get η) (by rw[a',M.wan_len,lT];omega) λH8 ι=>?_;have e8:=ι.oth _ _ (cn ε (Y.get η) @F) ε;lia;refine⟨rs++[b1],?_⟩;rw[M.wst_snoc,M.wan_snoc,fI];refine⟨_,_,rfl,λb o e=>ι.oth _ _ (aq e ψ) (Y.get (L.get e)),ι.at',?_,λr ν=>?_⟩
    ·rw[Zx,et,δ,fI];rfl
    ·rcases gF.mp ν with h | h
     ·exact O r h
     ·rw[gn.mp h];exact hb
   ·rcases α with h | h
    ·rw[gh Z] at h;cases h
    ·exact τ (.inr ⟨y,f' δ,h⟩) H' L
  ·rintro σ H' ⟨rs,v,ζ,rfl,L,η,et,O⟩;rw[pT] at et;lia;intro t ω f7 Y ε;exact θ υ rs ⟨rfl,et,β,O⟩ t D ω ψ (L.trans Y) ε (Y.get η)
theorem x5 (T:Tx K mg a):FnOk P w K mg base (CX1 P w) 6 a.cC a.mm ["self","rows","state"] (Sn K a.aw a.fF):=by
 refine T.ie.okX xS (λvs H Q E h=>?_) (fun δ A outer s H vs Q E Z h=>?_)
 ·obtain⟨p,L,m,nx,os,x,xs,rfl,_⟩:=h;rfl
 ·obtain⟨p,L,m,nx,os,x,xs,rfl,γ,θ,Y⟩:=h;obtain⟨dx,ε,to,ho,hn,φ⟩:=γ.ma.ho;refine⟨_,((aj (ay (!A @H (dP (pv 0) T.aI T.uC (sN T) (Z.mono @C) T.eG.2 .nil cQ (!j 1 (!j 2 ae))) ai)))),av (σ':=[ag _,ag _,ag _]) rfl ?_⟩;lia;refine cO ho rfl ?_;lia;refine⟨p,L,m,nx,os,x,xs,rfl,γ,λa1 rs g t D H2 α O et β=>?_,Y⟩;lia;exact θ a1 rs g D H2 α O β
theorem ly (T:Tx K mg a):FnOk P w K mg base (CX1 P w) 7 a.bT a.mM ["self","which","turns"] (Jr K a.aw a.fF):=by
 refine T.dz.1.okX kW (λvs H Q E h=>?_) (λa0 A outer s H vs Q E π h=>?_)
 ·obtain⟨p,m,nx,os,x,k,Y,rfl,_⟩:=h;rfl
 ·obtain⟨p,m,nx,os,x,k,Y,rfl,ma,g,hk,hT,θ,α⟩:=h;obtain⟨dx,tn,to,ho,hn,φ⟩:=ma.ho;have m6:=g.m6
  refine⟨_,((af (cc (PW.pt (kZ (fW (cK (ao (pX T) π T.tM T.jv (!j 1 ae)))) (kZ (aJ DJ (pv 1) ai (aU _)) (jG (aJ QZ (pv 1) (aH (K:=K) rfl (pv 0) rfl) (aU _)))))) (aj (kc M' T.jx cQ rfl @D T.wX (aa cD ae))) aL)
   (af (aA (i:=3) kW.nd rfl @E (ax ke (cL (aa (ax gS ai (pv 1)) ae)) (ax Pi (cL (aa ai ae)) (pv 2))))
   (aj (ay (dP (dvs:=[.int 0]) (pv 0) T.aI T.Ab (x5 T) (π.mono @C) T.my (.cons T.zo .nil) cQ (aa (jg (lR (K:=K) rfl) (pv 3) pU (jI (pv 2))) ae))))))),av (σ':=[ag _,ag _,ag _,fy]) rfl ?_⟩
  lia;cases x with
  | int i=>
    have hk:k="int":=hk;subst hk;lia;by_cases Z:i < 0
    ·refine pK (hG Z) ?_;lia;exact⟨by rw[lT];decide,α (by show(decide ((0:Int)<=i)&&decide (i < (m:Int)))=false;rw[gz @A];rfl)⟩
    ·refine j9 (gz Z) ?_;lia;refine aG ho T.aI T.bL rfl ?_;lia;by_cases h1:(m:Int)<=i
     ·refine pK (hG h1) ?_;lia;exact⟨by rw[lT];decide,α (by show(decide ((0:Int)<=i)&&decide (i < (m:Int)))=false;rw[gz (show ¬i < (m:Int) by omega),Wj])⟩
     ·refine j9 (gz h1) ?_;obtain⟨j,rfl⟩:=W8 (show 0<=i by omega);lia;rw[shl1];intro ω H1 f1 ξ e1;lia;intro D2 H2 f2 ζ e2;lia;refine SI e2 @A @A (by rw[lT,pY];simp;omega) λD3 H3 τ γ υ=>?_;rw[pY,ZC] at υ;refine qO (γ.get (ζ.get e1)) υ (by rw[V',lT];simp;omega) λD4 H4 f4 ν ρ=>?_;have ε:[nat (2 ^ j)]++p' Y (V.int 0)=(2 ^ j::p' Y 0).map nat:=by rw[W5,aj0];rfl
      rw[ε] at ρ;lia;refine cO (ν.get (γ.get (ζ.get (ξ.get ho)))) rfl ?_;lia;intro D5 H5 f5 ο β;rw[FO _ Y (by rw[a',V1,V'];omega),<-YG,M.pulse_eq] at β;have L:=ξ.trans (ζ.trans (γ.trans (ν.trans ο)));lia;refine⟨p,D5,m,nx,os,nat 0,(M.pulse j Y).map nat,rfl,⟨ma.same L,g,⟨"int",rfl⟩,SqL.of β,MQ.nats _ _ _,by rw[a',M.pulse_len];omega⟩,λa1 rs gd D H6 fD χ eD=>?_,fun ι=>?_⟩
      ·obtain⟨ea,O,_,_⟩:=gd;have ea:=kR ea;subst ea
       have O:rs=M.pulse j Y:=by
        have:=ri (Y5 λv:V=>match v with | .int i=>i.toNat | _=>0) O;rw[y2,y2] at this;exact(this.symm.trans (map_id _)) ▸ (map_id _).symm ▸ rfl
       subst O
       have δ:H D=none:=by
        cases hx:H D with
        | none=>rfl
        | some v=>have:=L.get hx;rw[fD] at this;cases this
       exact θ j rfl @A D H6 δ (L.trans χ) eD
      ·rcases ι with h | ⟨y,ψ,h⟩
       ·rw[show p9 (nat 0) (nx.length:Int)=true from gh (qb _)] at h;cases h
       ·obtain⟨r,η,rfl⟩:=ik.mp ψ;rw[gh (M.pulse_lt (show j < m by omega) Y r η)] at h;cases h
  | bl b=>have hk:k="bool":=hk;subst hk;lia;exact⟨by rw[lT];decide,α rfl⟩
  | non=>have hk:k="NoneType":=hk;subst hk;lia;exact⟨by rw[lT];decide,α rfl⟩
  | str z=>have hk:k="str":=hk;subst hk;lia;exact⟨by rw[lT];decide,α rfl⟩
  | ref p2=>
    rcases hk with ⟨rfl,_⟩ | ⟨rfl,_⟩ | ⟨rfl,_⟩<;>lia<;>exact⟨by rw[lT];decide,α rfl⟩
  | _=>exact y' hk
theorem nJ (T:Tx K mg a):FnOk P w K mg base CX0 1 a.cA a.pf ["self"] (Qd a.aw):=by
 refine T.eM.1.okA vt fun ι A outer s H vs Q E ο h=>?_;obtain⟨p,m,nx,os,rfl,ma,g,q⟩:=h;obtain⟨dx,ξ,to,ho,hn,φ⟩:=ma.ho;refine⟨_,((aj (ay (eP (aa (aH (K:=K) rfl (pv 0) rfl) (aa (aV (cZ (K:=K) rfl) @D T.gT oD (aa (aH (K:=K) rfl (pv 0) rfl) ae)) (aa (aV (cZ (K:=K) rfl) @D T.gT oD (aa (aH (K:=K) rfl (pv 0) rfl) ae)) ae))))))),av (σ':=[ag _]) rfl ?_⟩;lia;refine aG ho T.aI T.bL rfl ?_;lia;refine aG ho T.aI T.fj rfl ?_;lia;intro ω H1 ζ L γ;have ε:=L.get φ;lia;refine aG (L.get ho) T.aI T.iK rfl ?_;lia;intro Z H2 β α θ;lia;intro t ν τ O η
 have Y:H Z=none:=by
  cases δ:H Z with
  | none=>rfl
  | some v=>have:=L.get δ;rw[β] at this;cases this
 exact q t ω Z ν ζ Y (aq γ β) (L.trans (α.trans O)) η (O.get (α.get γ)) (O.get θ)
theorem kl (T:Tx K mg a):FnOk P w K mg base CX0 1 a.bC a.lI ["self"] (Gh a.aw):=by
 refine T.c6.1.okA qz λL A outer s H vs Q E Y h=>?_;obtain⟨p,m,nx,os,rfl,ma,q⟩:=h;obtain⟨dx,O,to,ho,hn,φ⟩:=ma.ho;refine⟨_,((aj (ay (aC (aK (K:=K) rfl) @D T.eX lJ (aa (aH (K:=K) rfl (pv 0) rfl) ae))))),av (σ':=[ag _]) rfl ?_⟩;lia;refine aG ho T.aI T.iK rfl ?_;lia;unfold refs;rw[a'];exact q
end
section
variable {P:oT} {w:w7} {K:ak} {mg:CM} {base:N'} {a:Ad}
local macro_rules | `(tactic| walk_at "l2step") =>`(tactic| first | ((with_reducible refine' dw ?e ?_);(case e=>walk_at "l2kind")) | ((with_reducible refine' fX ?e ?_);(case e=>walk_at "l2kind")) | (with_reducible refine cb ?_) | (with_reducible refine dD ?_))
theorem N3 (T:Tx K mg a):FnOk P w K mg base CX0 8 a.qi a.Mc ["net"] (NB (NAof a)):=by
 refine T.AJ.1.okA zv λc1 A outer s H vs Q E ι h=>?_;obtain⟨p,N,od,rfl,na,q⟩:=h;have hu:=qf ι;obtain⟨dx,i,s,t,o,d,tq,rs,qs,ws,hp,kp,wi,eq⟩:=na.ho;have g:=na.g;have tp:=na.tp;have nl:=z6 g tp;have hg:=tK g tp
 refine⟨_,((af (aA (i:=1) zv.nd rfl @E qV)
  (af (de la rfl (aR (K:=K) rfl (bB (pv 0) T.du T.jR (jc T) (ι.mono @C) T.ck.2 .nil cJ)) (ar (i:=2) zv.nd rfl @E) (aj (zH hu (pv 1) (pv 2) (PE.or (jJ (dP (pv 0) T.du T.d3 (dF T) (ι.mono @C) T.b5.2 .nil thr0 (!j 2 ae)) T.mw T.Ac (x6 T) (ι.mono @C) T.ig.2 .nil cJ (!j 1 ae)) (PE.or (jJ (dP (pv 0) T.du T.d3 (dF T) (ι.mono @C) T.b5.2 .nil thr0 (!j 2 ae)) T.j8 T.yi (vN T) (ι.mono @C) T.gq.2 .nil cJ (!j 1 ae)) (jJ (dP (pv 0) T.du T.d3 (dF T) (ι.mono @C) T.b5.2 .nil thr0 (!j 2 ae)) T.fK T.uB (sM T) (ι.mono @C) T.eC.2 .nil cJ (!j 1 ae)))) rfl)))
  (aj (ay (pv 1)))))),av (σ':=[ag _,fy,fy]) rfl ?_⟩
 lia;intro ξ H1 f1 s1 e1;have a5:=s1.get hp;lia;refine aS a5 rfl ?_;lia;refine⟨p,N,od,rfl,na.same s1,λD2 H2 f2 s2 e2=>?_⟩;have L:=s1.trans s2;lia;refine eQ (xs:=(need N od).map V.str) (λi σ H'=>∃v hs,σ=[ag (.ref p),ag (.ref ξ),v]/\Same H H'/\H' D2=ag (.lst ((need N od).map V.str))/\Hgd H' ξ N ((need N od).take i) hs) ⟨fy,[],rfl,L,e2,s2.get e1,rfl,λ_ h=>by cases h⟩ (λi σ H' _ ⟨_,_,_,_,e',_⟩=>SqL.of e') ?_ ?_
 ·rintro i y σ H' hy ⟨v,hs,rfl,s',eD,hd⟩;obtain⟨z,hz,rfl⟩:=aF hy;have c0:=(b'.mp hz).1;have O:=(km g tp z).mp (f' hz);have υ:=s'.get hp;have τ:=na.same s';obtain⟨b6,b3,a8,x1,x2,ψ⟩:=md g;have a0:=vV g tp hz
  have lk:(hs.map λq=>((zt q.1:Key),V.ref q.2)).length<=1000:=by
   have:=ri y1 hd.nm;rw[a',sv] at this;rw[a'];omega
  have fin:∀(t:dt) (Z η:Hp),Same H' Z->Z t=ag (.tup [nat (hgp N z).1,nat (hgp N z).2])->Upd Z η ξ (.dK (putK (hs.map λq=>((zt q.1:Key),V.ref q.2)) (zt z) (.ref t)))->∃ν,Same H η/\η D2=ag (.lst ((need N od).map V.str))/\Hgd η ξ N ((need N od).take (i + 1)) ν:=λt Z η Y et α=>by
   rw[DC (zs:=(need N od).take i) (by rw[y2,<-hd.nm,y2];rfl) a0] at α;have χ:=Y.get hd.d;refine⟨hs++[(z,t)],λbb o e=>α.oth _ _ (aq e f1) (Y.get (s'.get e)),α.oth _ _ (cn (Y.get eD) χ λz=>by cases z) (Y.get eD),by rw[fI];exact α.at',by rw[fI,hd.nm,take_succ hz];rfl,λq hq=>?_⟩;rcases gF.mp hq with h | h
   ·have ρ:=Y.get (hd.ob q h);exact α.oth _ _ (cn ρ χ λz=>by cases z) ρ
   ·rw[gn.mp h];exact α.oth _ _ (cn et χ λz=>by cases z) et
  lia;have ο:=O;unfold Nt.names at ο;rcases gF.mp ο with h' | h'
  ·rcases gF.mp h' with h' | h'
   ·refine Yj ?_;lia;refine cO υ rfl ?_;lia;refine⟨p,N,od,.str z,"str",rfl,τ,.sc (.str z (by have:=(g.nm z O).len;omega)),λ_ _ ez w H3 θ ω=>?_,fun ζ=>hB rfl (ζ z O)⟩;cases ez;cases ω with
    | i k β hk e=>
      have a6:=(b'.mp hk).1;have:=g.li;lia;refine aS e rfl ?_;lia;refine⟨w,β,.str z,(k:Int),.ref ξ,rfl,e,@A,@A,λt Z Y et=>?_⟩;rw[shl1] at et;have ε:Z t=ag (.tup [nat (hgp N z).1,nat (hgp N z).2]):=by rw[hg.i k z hk];exact et
      lia;refine pL (Y.get (θ.get hd.d)) (aZ lk) fun η α=>?_;obtain⟨ν,a1,a2,a3⟩:=fin t Z η (θ.trans Y) ε α;lia;exact⟨_,ν,rfl,a1,a2,a3⟩
    | s γ β δ hk e et=>exact hB (ik.mpr ⟨_,hk,rfl⟩) (x1 z h')
    | t k y β hk e=>exact hB (ik.mpr ⟨_,f' hk,rfl⟩) (x2 z h')
   ·refine XS (Yj ?_);lia;refine cO υ rfl ?_;lia;refine⟨p,N,od,.str z,"str",rfl,τ,.sc (.str z (by have:=(g.nm z O).len;omega)),λ_ _ ez w H3 θ ω=>?_,fun ζ=>hB rfl (ζ z O)⟩;cases ez;cases ω with
    | i k β hk e=>exact hB h' (x1 z (f' hk))
    | s γ β δ hk e et=>
      have a7:=DR g tp hz γ hk;have φ:=hd.same θ;lia;refine aS e rfl ?_;lia;refine⟨w,β,.str z,δ,ξ,γ,_,λy=>(((hgp N y).1:Nat):Int),λy=>(((hgp N y).2:Nat):Int),rfl,e,SqT.of et,φ.d,λy hy=>(by obtain⟨t,t1,π⟩:=φ.val (a7 y hy);exact⟨t,t1,SqT.of π⟩),λt Z Y a4=>?_⟩;rw[LL,LL] at a4;have ε:Z t=ag (.tup [nat (hgp N z).1,nat (hgp N z).2]):=by rw[hg.s z γ hk];exact a4
      lia;refine pL (Y.get φ.d) (aZ lk) fun η α=>?_;obtain⟨ν,a1,a2,a3⟩:=fin t Z η (θ.trans Y) ε α;lia;exact⟨_,ν,rfl,a1,a2,a3⟩
    | t k y β hk e=>exact hB (ik.mpr ⟨_,f' hk,rfl⟩) (ψ z h')
  ·refine XS (XS ?_);lia;refine cO υ rfl ?_;lia;refine⟨p,N,od,.str z,"str",rfl,τ,.sc (.str z (by have:=(g.nm z O).len;omega)),λ_ _ ez w H3 θ ω=>?_,fun ζ=>hB rfl (ζ z O)⟩;cases ez;cases ω with
   | i k β hk e=>exact hB h' (x2 z (f' hk))
   | s γ β δ hk e et=>exact hB h' (ψ z (ik.mpr ⟨_,hk,rfl⟩))
   | t k y β hk e=>
     have a6:=(b'.mp hk).1;have:=g.lt;lia;refine aS e rfl ?_;lia;refine⟨w,β,.str z,.str y,(k:Int),.ref ξ,rfl,e,@A,@A,λt Z Y et=>?_⟩;rw[shl1] at et;have ε:Z t=ag (.tup [nat (hgp N z).1,nat (hgp N z).2]):=by rw[hg.t k z y hk];exact et
     lia;refine pL (Y.get (θ.get hd.d)) (aZ lk) fun η α=>?_;obtain⟨ν,a1,a2,a3⟩:=fin t Z η (θ.trans Y) ε α;lia;exact⟨_,ν,rfl,a1,a2,a3⟩
 ·rintro σ H' ⟨v,hs,rfl,s',eD,hd⟩;rw[a',pT] at hd;lia;exact q ξ H' hs f1 s' hd
theorem l9 (T:Tx K mg a):FnOk P w K mg base CX0 10 a.iB a.zb ["net"] (Ni (NAof a) a.aw):=by
 refine T.iH.1.okA lS λb6 A outer s H vs Q E χ h=>?_;obtain⟨p,N,od,rfl,na,q⟩:=h;have hu:=qf χ;obtain⟨dx,i,s,t,o,d,tq,rs,qs,ws,hp,kp,wi,eq⟩:=na.ho;have g:=na.g;have tp:=na.tp;have lt:=g.lt;have lo:=g.lo;have li:=g.li
 refine⟨_,((af (aA (i:=1) lS.nd rfl @E (ao (N3 T) χ T.Rq T.AJ (!j 0 ae)))
  (af (eO (osc:=ah kX) (ON:=["net","pairs","nexts","outs"]) (N:=["row","pairs"]) (n:=1) (fx:=[1]) (i:=2) lS.nd rfl rfl rfl rfl rfl rfl @I (aR (K:=K) rfl (bB (pv 0) T.du T.jb (iA T) (χ.mono @C) T.cN.2 .nil cJ)) (aP @C) (λ_ _ _ _ _=>⟨(ar (i:=0) (show ox (["row","pairs"]:B1) from by decide +kernel) rfl @E),bh,(nF hu (pv 1) (!A @H (pv 0) ai) (λ_ _=>rfl))⟩))
  (af (eO (osc:=ah kX) (ON:=["net","pairs","nexts","outs"]) (N:=["wire","pairs"]) (n:=1) (fx:=[1]) (i:=3) lS.nd rfl rfl rfl rfl rfl rfl @I (aR (K:=K) rfl (bB (pv 0) T.du T.jQ (ja T) (χ.mono @C) T.dr.2 .nil cJ)) (aP @C) (λ_ _ _ _ _=>⟨(ar (i:=0) (show ox (["wire","pairs"]:B1) from by decide +kernel) rfl @E),bh,(nF hu (pv 1) (pv 0) (λ_ _=>rfl))⟩))
  (aj (ay (pV T.MO (p3 T) (χ.mono @C) @D T.LB T.eU.2 .nil cJ (aa (aC (aK (K:=K) rfl) @D T.eX lJ (aa (bB (pv 0) T.du T.kS (jK T) (χ.mono @C) T.dN.2 .nil cJ) ae)) (!j 2 (!j 3 ae)))))))))),av (σ':=[ag _,fy,fy,fy]) rfl ?_⟩
 lia;refine⟨p,N,od,rfl,na,λDd H1 hs f1 s1 hd=>?_⟩;lia;refine aS (s1.get hp) rfl ?_;lia;refine⟨p,N,od,rfl,na.same s1,λD2 H2 ξ f2 s2 e2 qk et=>?_⟩;have L:=s1.trans s2;have φ:=hd.same s2;have lq:ξ.length=N.sts.length:=by rw[<-et,a']
 have ψ:∀{k:Nat} {r:Qs},ξ[k]? =ag r->(N.sts.map (·.2))[k]? =ag r.2.2:=λ{k r} h=>by rw[<-et,kf,kf,h];rfl
 lia;intro τ a3;refine bf (xs:=ξ.map λr=>V.ref r.1) (λi ys H'=>∃nx:ee Pr3,ys=refs nx/\Same H2 H'/\H' τ=ag (.lst ys)/\Prt H2 nx/\prs nx=((N.sts.map (·.2)).take i).map (hgp N)) ⟨[],rfl,bK a3,aD,λ_ h=>(by cases h),rfl⟩ (λi ys H' _ ⟨_,_,s',_⟩=>SqL.of (s'.get e2)) ?_ ?_
 ·rintro i y ys H' hy ⟨nx,rfl,s',e',pt,ep⟩;obtain⟨r,π,rfl⟩:=aF hy;have a5:=(b'.mp π).1;have er:=s'.get (qk r (f' π));have Z:=ψ π;have υ:r.2.2∈need N od:=(km g tp _).mpr (by obtain⟨ν,O,e'⟩:=ik.mp (f' Z);rw[<-e'];exact g.ts ν O);obtain⟨tt,v1,v2⟩:=φ.val υ;have ln:nx.length=i:=by have:=ri y1 ep;rw[a',a',sv,a'] at this;omega
  lia;refine sF (s'.get φ.d) v1 ?_;lia;refine⟨e',by rw[om];exact aZ @A,nx++[(tt,hgp N r.2.2)],by unfold refs;rw[fI];rfl,λb ob e=>?_,aD,fun ν O=>?_,?_⟩
  ·rw[aE (aq e a3)];exact s'.get e
  ·rcases gF.mp O with h | h
   ·exact pt ν h
   ·rw[gn.mp h];exact v2
  ·show Y5 _ (nx++_)=_;rw[fI,show nx.map (·.2)=_ from ep,take_succ Z,fI];rfl
 ·rintro ys H3 ⟨nx,rfl,s3,e3,pn,en⟩;rw[a',lq,WT (by rw[a'];exact ov _)] at en;have θ:=pn.same s3;have a6:=φ.same s3;have δ:=L.trans s3;clear e2 qk et ψ pn f2;lia;refine aS (δ.get hp) rfl ?_;lia;refine⟨p,N,od,rfl,na.same δ,λD4 H4 f4 s4 ρ=>?_⟩;have ω:=a6.same s4;lia;intro D5 a0;refine bf (xs:=N.outs.map V.str) (λi ys H'=>∃nx:ee Pr3,ys=refs nx/\Same H4 H'/\H' D5=ag (.lst ys)/\Prt H4 nx/\prs nx=(N.outs.take i).map (hgp N)) ⟨[],rfl,bK a0,aD,λ_ h=>(by cases h),rfl⟩ (λi ys H' _ ⟨_,_,s',_⟩=>SqL.of (s'.get ρ)) ?_ ?_
  ·rintro i y ys H' hy ⟨nx,rfl,s',e',pt,ep⟩;obtain⟨z,hz,rfl⟩:=aF hy;have a5:=(b'.mp hz).1;have υ:z∈need N od:=(km g tp _).mpr (g.os z (f' hz));obtain⟨tt,v1,v2⟩:=ω.val υ;have ln:nx.length=i:=by have:=ri y1 ep;rw[a',a',sv] at this;omega
   lia;refine sF (s'.get ω.d) v1 ?_;lia;refine⟨e',by rw[om];exact aZ @A,nx++[(tt,hgp N z)],by unfold refs;rw[fI];rfl,λb ob e=>?_,aD,fun ν O=>?_,?_⟩
   ·rw[aE (aq e a0)];exact s'.get e
   ·rcases gF.mp O with h | h
    ·exact pt ν h
    ·rw[gn.mp h];exact v2
   ·show Y5 _ (nx++_)=_;rw[fI,show nx.map (·.2)=_ from ep,take_succ hz,fI];rfl
  ·rintro ys H5 ⟨os,rfl,ο,β,po,eo⟩;rw[a',pT] at eo;have γ:=s4.trans ο;have α:=δ.trans γ;have ζ:=po.same ο;have η:=θ.same γ;have a7:=γ.get e3;have ι:nx.length=N.sts.length:=by have:=ri y1 en;rw[a',a',a'] at this;exact this
   have b3:os.length=N.outs.length:=by have:=ri y1 eo;rw[a',a'] at this;exact this
   have a4:∀q∈nx++os,q.2.1 < 2 ^ nx.length/\q.2.2 < 2 ^ N.ins.length:=fun ν O=>by
    have:∃z,ν.2=hgp N z:=by
     rcases gF.mp O with h | h
     ·have:ν.2∈prs nx:=ik.mpr ⟨ν,h,rfl⟩;rw[en] at this;obtain⟨z,_,e⟩:=ik.mp this;exact⟨z,e.symm⟩
     ·have:ν.2∈prs os:=ik.mpr ⟨ν,h,rfl⟩;rw[eo] at this;obtain⟨z,_,e⟩:=ik.mp this;exact⟨z,e.symm⟩
    obtain⟨z,e⟩:=this;rw[e,ι];exact⟨FD N z,Ln N z⟩
   clear ρ f4;lia;refine aS (α.get hp) rfl ?_;lia;refine⟨p,N,od,rfl,na.same α,λD6 H6 f6 s6 e6=>?_⟩;lia;rw[a'];intro x a8 H7 f7 s7 e7;have Y:=s6.trans s7;refine⟨x,a8,τ,D5,N.ins.length,nx,os,rfl,e7,⟨li,Y.get a7,Y.get β,η.same Y,ζ.same Y,@A,@A,a4⟩,λH8 k8 ma=>⟨rfl,?_⟩⟩;have ε:Same H6 H8:=λb ob e=>k8 _ _ (aq e f7) (s7.get e);exact q x H8 nx os (α.free (s6.free f7)) (α.trans (s6.trans ε)) ma ⟨li,by omega,by omega,a4⟩ en eo
end
section
variable {P:oT} {w:w7} {K:ak} {mg:CM} {base:N'} {a:Ad}
local macro_rules | `(tactic| walk_at "l2step") =>`(tactic| first | ((with_reducible refine' dw ?e ?_);(case e=>walk_at "l2kind")) | ((with_reducible refine' fX ?e ?_);(case e=>walk_at "l2kind")) | (with_reducible refine cb ?_) | (with_reducible refine dD ?_))
theorem zQ (T:Tx K mg a):FnOk P w K mg base CX0 12 a.fA a.ud ["_law_found","_law_net_one","_law_net_two","_law_inputs","_law_cells"] (C8 (NAof a)):=by
 refine T.kE.1.okA lV λk4 A outer s H vs Q E hr h=>?_;obtain⟨t,p1,p2,Dc,N,N2,od,a7,α,rfl,fn,υ,lc,ε,q⟩:=h;have d2:=FC hr;have g1:=ε.a1.g;have g2:=ε.a2.g;have li:=g1.li;have f7:=g1.lt;have f6:=g2.lt;have jo:=Se g1 g2
 refine⟨_,((af (cc (PW.pt (kZ (fW (cK (aC (dm (K:=K) rfl) @D T.bx qa (!j 0 (aa (gB (v:= .ty "tuple") @D T.gC u' rfl) ae))))) (kZ (aJ DJ (aC (aK (K:=K) rfl) @D T.eX lJ (!j 0 ae)) ai (aU _)) (jG (aJ (Be (K:=K) rfl) (!A @H (pv 0) ai) (cL (aa cD (aa cD ae))) @D))))) (aj (ay l8)) aL)
  (af (cc (aJ mR (!A @H (pv 0) ai) cD (aU _)) (aj (ay (oU (gb mR (aC (aK (K:=K) rfl) @D T.eX lJ (!j 0 ae)) ai (aU _)) (tV (ao (zP T) hr T.BQ T.kD (!j 0 (!j 1 (!j 2 (!j 3 (!j 4 ae)))))))))) aL)
  (af (de la rfl (aR (K:=K) rfl (pv 4)) (ar (i:=5) lV.nd rfl @E) (af (aA (i:=6) lV.nd rfl @E (ao (tW T) hr T.wV T.j5 (!j 5 (aa ai (!j 3 ae)))))
  (aj (cc (aJ (DH (K:=K) rfl d2) (ao (fN T) hr T.gU T.dC (!j 1 (!j 6 ae))) (ao (fN T) hr T.gU T.dC (!j 2 (!j 6 ae))) (aU _)) (aj (ay l8)) aL))))
  (aj (ay (oU (gb mR (aC (aK (K:=K) rfl) @D T.eX lJ (!j 0 ae)) ai (aU _)) (tV (ao (rg T) hr T.tN T.fT (!j 0 (aa (bB (ao (l9 T) hr T.oB T.iH (!j 1 ae)) T.aI T.oX (nJ T) (hr.mono @C) T.eM.2 .nil cJ) (aa (bB (ao (l9 T) hr T.oB T.iH (!j 2 ae)) T.aI T.oX (nJ T) (hr.mono @C) T.eM.2 .nil cJ) ae)))))))))))),av (σ':=[ag _,ag _,ag _,ag _,ag _,fy,fy]) rfl ?_⟩
 rcases fn with ⟨Ds,Db,Du,ts,bs,us,al,γ⟩ | ⟨w',t',fu,ef⟩
 ·have ef:=γ.t;lia;intro D1 H1 f1 s1 e1;refine⟨D1,_,rfl,.inl (SqL.of e1),rfl,rfl,?_⟩;have a8:(if true=true then !inV (V.str "alike") [V.str "apart",V.str "alike"] else inV (V.str "alike") [V.str "apart",V.str "alike"])=false:=by decide +kernel
  refine⟨_,rfl,?_⟩;dsimp only;rw[n' (by rw[a8];decide)];have c3:=s1.get ef;have ν:=s1.get υ;lia;refine eQ (xs:=α.map V.int) (λj σ H'=>∃(v5 v6:pa V),σ=[ag (.ref t),ag (.ref p1),ag (.ref p2),ag (nat N.ins.length),ag (.ref Dc),v5,v6]/\Same H1 H') ⟨fy,fy,rfl,Same.refl _⟩ (λj σ H' _ ⟨_,_,_,s'⟩=>SqL.of (s'.get ν)) ?_ ?_
  ·rintro j y σ H' hy ⟨v5,v6,rfl,s'⟩;obtain⟨c,hc,rfl⟩:=aF hy;lia;refine⟨c,20,N.ins.length,rfl,@A,@A,λY k8 ms h6 ι c5 f8 L=>?_⟩;have a5:=s1.trans (s'.trans ι);lia;refine⟨p1,Y,N,od,ms,rfl,ε.a1.same a5,c5,@A,L,λl0 k7 h5 a6 c4=>?_⟩;lia;refine⟨p2,Y,N2,a7,ms,rfl,ε.a2.same (a5.trans a6),a6.get c5,@A,by rw[ε.li];exact L,λk9 k6 h4 c0 ξ=>?_⟩;have f0:M.Al (tbN N).1 (tbN N).2 (tbN N2).1 (tbN N2).2 N.ins.length ((tbN N).1.length + (tbN N2).1.length + 1):=by rw[(mY g1).2,(mY g2).2,ε.lt];exact al
   rw[yW g1 ε.a1.tp] at c4;rw[yW g2 ε.a2.tp,<-(f0.ever jo 20).runs jo L @A] at ξ;refine Fd (SqL.of (c0.get c4)) (SqL.of ξ) ?_;lia;exact⟨_,_,rfl,s'.trans (ι.trans (a6.trans c0))⟩
  ·rintro σ H' ⟨v5,v6,rfl,s'⟩;have sA:=s1.trans s';have j0:=sA.get ef;lia;refine⟨p1,N,od,rfl,ε.a1.same sA,λx1 H2 θ a3 g3 s2 a4 O e4 e5=>?_⟩;obtain⟨j1,f5,f3,e0,_,_⟩:=a4.ho;lia;refine aS e0 rfl ?_;lia;refine⟨x1,N.ins.length,θ,a3,rfl,a4,O,λt1 A1 A2 H3 Z h3 nA s3 e3 ρ π=>?_⟩;have T1:TabT H3 t1 A1 A2 N.ins.length θ a3:=⟨e3,⟨O.m6,ρ,π,a4.hn.same s3,a4.hs.same s3,O.ln,O.lo,O.bn⟩⟩;have c2:=sA.trans (s2.trans s3);lia;refine⟨p2,N2,a7,rfl,ε.a2.same c2,λx2 H4 η a0 f9 s4 χ τ ψ ω=>?_⟩;obtain⟨δ,f4,f2,φ,_,_⟩:=χ.ho;rw[ε.li] at χ τ;lia;refine aS φ rfl ?_;lia;refine⟨x2,N.ins.length,η,a0,rfl,χ,τ,λt2 ζ B2 H5 h0 g4 nB s5 e2 e7 e6=>?_⟩;have β:TabT H5 t2 ζ B2 N.ins.length η a0:=⟨e2,⟨τ.m6,e7,e6,χ.hn.same s5,χ.hs.same s5,τ.ln,τ.lo,τ.bn⟩⟩;have b6:=s4.trans s5;have c1:=c2.trans b6;have b3:prs θ=(tbN N).1:=e4;have e9:prs a3=(tbN N).2:=e5;have ο:prs η=(tbN N2).1:=ψ;have e8:prs a0=(tbN N2).2:=ω;have l1:θ.length=N.sts.length:=by rw[<-aX,b3,(mY g1).2]
   have d1:η.length=N.sts.length:=by rw[<-aX,ο,(mY g2).2,ε.lt]
   lia;refine⟨t,Ds,Db,Du,t1,A1,A2,t2,ζ,B2,ts,bs,us,N.ins.length,θ,a3,η,a0,rfl,by rw[b3,ο];exact γ.same c1,T1.same b6,β,@A,by rw[b3,e9,ο,e8,l1,d1];exact al,λH6 s6=>?_⟩;exact q H6 (c1.trans s6)
 ·lia;intro D1 H1 f1 s1 e1;refine⟨D1,_,rfl,.inl (SqL.of e1),rfl,rfl,?_⟩;have a8:(if true=true then !inV (V.str "apart") [V.str "apart",V.str "alike"] else inV (V.str "apart") [V.str "apart",V.str "alike"])=false:=by decide +kernel
  refine⟨_,rfl,?_⟩;dsimp only;rw[n' (by rw[a8];decide)];have c3:=s1.get ef;lia;refine⟨t,p1,p2,Dc,N,N2,od,a7,w',t',α,rfl,c3,s1.get υ,lc,⟨ε.a1.same s1,ε.a2.same s1,ε.li,ε.lt⟩,fu,λH2 s2=>?_⟩;exact q H2 (s1.trans s2)
end
section
variable {P:oT} {w:w7} {K:ak} {mg:CM} {base:N'} {a:Ad}
local macro_rules | `(tactic| walk_at "l2step") =>`(tactic| first | ((with_reducible refine' dw ?e ?_);(case e=>walk_at "l2kind")) | ((with_reducible refine' fX ?e ?_);(case e=>walk_at "l2kind")) | (with_reducible refine cb ?_) | (with_reducible refine dD ?_))
local macro_rules | `(tactic| walk_at "l2step") =>`(tactic| first | (with_reducible refine JU ?_))
theorem sJ (T:Tx K mg a):FnOk P w K mg base CX0 1 a.jV a.Cd ["wires","wire","fresh"] Gg:=by
 refine T.lL.1.okA Gv fun β A outer s H vs Q E γ h=>?_;obtain⟨l,zs,O,f,rfl,hl,ln,q⟩:=h
 have π:∀{D:dt} {i:Nat} {z:mu} {ys:ee V} {H':Hp} (α:H D=fy),zs[i]? =ag z->Cs (λi ys=>ys=((zs.take i).map (sbw O f)).map V.str) H D i ys H'->H' D=ag (.lst ys)/\ys.length < ix/\Cs (λi ys=>ys=((zs.take i).map (sbw O f)).map V.str) H D (i + 1) (ys++[.str (sbw O f z)]) (upd H' D (.lst (ys++[.str (sbw O f z)]))):=λ{D i z ys H'} α hz c=>by
  have hi:=(b'.mp hz).1;refine Cs.put α c.same c.at' c.len @A ?_;rw[c.pv,take_succ hz,fI,fI];rfl
 refine⟨_,((aj (ay (b9 (osc:=ah qH) (ON:=["wires","wire","fresh"]) (N:=["other","wire","fresh"]) (n:=1) (fx:=[1,2]) rfl rfl rfl @I (vG (K:=K) rfl (pv 0)) (aP @C) (λ_ _ _ _ _=>⟨(ar (i:=0) (show ox (["other","wire","fresh"]:B1) from by decide +kernel) rfl @E),bh,(N1 (aJ mR (pv 0) (pv 1) (aU _)) (pv 2) (pv 0))⟩))))),av (σ':=[ag _,ag _,ag _]) rfl ?_⟩;lia;rcases hl with hl | hl
 ·refine .inl ⟨⟨_,SqL.of hl⟩,λD α=>?_⟩;refine bf (xs:=zs.map V.str) (λi ys H'=>Cs (λi ys=>ys=((zs.take i).map (sbw O f)).map V.str) H D i ys H') (Cs.zero α rfl) (λi ys H' _ c=>SqL.of (c.same.get hl)) (λi v ys H' Z c=>?_) (λys H' c=>?_)
  ·obtain⟨z,hz,rfl⟩:=aF Z;have t':=π α hz c;lia;unfold sbw at t';by_cases L:z=O
   ·rw[qq L] at t';refine pK (hG (by rw[L])) ?_;lia;exact t'
   ·rw[n' L] at t';refine j9 (gz λe=>L (V.str.inj e)) ?_;lia;exact t'
  ·have Y:=c.at';rw[c.pv,a',pT] at Y;exact q D H' α c.same Y
 ·refine .inr ⟨⟨_,SqT.of hl⟩,λD α=>?_⟩;refine rW (xs:=zs.map V.str) (λi ys H'=>Cs (λi ys=>ys=((zs.take i).map (sbw O f)).map V.str) H D i ys H') (Cs.zero α rfl) (λi ys H' _ c=>SqT.of (c.same.get hl)) (λi v ys H' Z c=>?_) (λys H' c=>?_)
  ·obtain⟨z,hz,rfl⟩:=aF Z;have t':=π α hz c;lia;unfold sbw at t';by_cases L:z=O
   ·rw[qq L] at t';refine pK (hG (by rw[L])) ?_;lia;exact t'
   ·rw[n' L] at t';refine j9 (gz λe=>L (V.str.inj e)) ?_;lia;exact t'
  ·have Y:=c.at';rw[c.pv,a',pT] at Y;exact q D H' α c.same Y
end
section
variable {P:oT} {w:w7} {K:ak} {mg:CM} {base:N'} {a:Ad}
local macro_rules | `(tactic| walk_at "l2step") =>`(tactic| first | ((with_reducible refine' dw ?e ?_);(case e=>walk_at "l2kind")) | ((with_reducible refine' fX ?e ?_);(case e=>walk_at "l2kind")) | (with_reducible refine cb ?_) | (with_reducible refine dD ?_))
local macro_rules | `(tactic| walk_at "l2step") =>`(tactic| first | (with_reducible refine JT ?_))
local macro_rules | `(tactic| walk_at "l2step") =>`(tactic| first | (with_reducible refine vx ?_))
local macro_rules | `(tactic| walk_at "l2step") =>`(tactic| first | (with_reducible refine qG ?_) | (with_reducible refine s_tryH ?_) | (with_reducible refine A4 ?_) | (with_reducible refine A3 ?_))
local macro_rules | `(tactic| walk_at "l2step") =>`(tactic| first | (with_reducible refine JU ?_))
local macro_rules | `(tactic| walk_at "l2step") =>`(tactic| first | (with_reducible refine zC ?_) | (with_reducible refine qJ ?_))
theorem Pj (T:Tx K mg a):FnOk P w K mg base (CX1 P w) 11 a.Et a.UG ["net","wire","fresh"] (O4 (NAof a) a.aW a.cH a.cG a.cf):=by
 refine T.EU.1.okX JR (λvs H Q E h=>?_) (λq9 A outer s H vs Q E hr h=>?_)
 ·obtain⟨p,N,od,v,f,k,k',rfl,_⟩:=h;rfl
 ·obtain⟨p,N,od,v,f,k,k',rfl,na,th,sf,qN,qB,qD,qM⟩:=h;have hu:=qf hr;obtain⟨dx,i,s,t,o,d,tq,rs,qs,ws,hp,kp,wi,eq⟩:=na.ho;have g:=na.g;have li:=g.li;have ls:=g.ls;have lt:=g.lt;have lo:=g.lo
  have fin:∀(C:dt) {H2:Hp} (σ:St),Same H H2->(∀H2 dx,Tld H H2 dx f->E (.ref C) (ag dx) H2)->vc C (kU C) E0 (λ_=>E) σ [f] H2:=λC {H2} σ s2 qE=>yV λx H3 f3 s3 e3=>⟨x,f,k',rfl,.sc sf,e3,λv2 H4 ρ k4 cp=>by
   obtain⟨dx,a1,a2⟩:=R9 (H:=H2) f3 ρ λb u θ e'=>k4 _ _ θ (s3.get e')
   have hv:v2=f:=by
    cases cp with
    | sc h=>rfl
    | nil c1 c2=>cases sf
    | one c1 c2=>cases sf
   rw[hv] at a2;exact⟨rfl,ag dx,a1,qE _ dx (a2.pre s2)⟩⟩
  refine⟨_,((af (bu (dP (pv 0) T.du T.d3 (dF T) (hr.mono @C) T.b5.2 .nil cQ (!j 1 ae)))
   (af (cc (fW (cK (ao (sL T) hr T.wU T.lM (!j 2 ae)))) (aj (vE T.xF (p5 T) (hr.mono @C) @D T.LF T.eW.2 cJ cQ rfl (!j 2 ae))) aL)
   (af (cc (aJ (Kz (K:=K) rfl) (pv 2) (bB (pv 0) T.du T.gy (fO T) (hr.mono @C) T.b8.2 .nil cJ) @D) (aj (vE T.xE (p4 T) (hr.mono @C) @D T.LD T.eV.2 cJ cQ rfl (!j 2 ae))) aL)
   (af (eO (osc:=ah s_cut) (ON:=["net","wire","fresh","sums","stores"]) (N:=n17) (n:=1) (fx:=[1,2]) (i:=3) JR.nd rfl rfl rfl rfl rfl rfl @I (aR (K:=K) rfl (bB (pv 0) T.du T.yk (vQ T) (hr.mono @C) T.gv.2 .nil cJ)) (aP @C) (λ_ _ _ _ _=>⟨(ar (i:=0) (show ox (n17:B1) from by decide +kernel) rfl @E),bh,(eP (aa (!A @H (pv 0) ai) (aa (ao (sJ T) hr T.wO T.lL (aa (!A @H (pv 0) ai) (!j 1 (!j 2 ae)))) ae)))⟩))
   (af (bu (iR (K:=K) rfl vr LI K' eB (pv 3) (aa (eP (!j 2 (aa (cL ae) ae))) ae)))
   (af (eO (osc:=ah s_cut) (ON:=["net","wire","fresh","sums","stores"]) (N:=n17) (n:=1) (fx:=[1,2]) (i:=4) JR.nd rfl rfl rfl rfl rfl rfl @I (aR (K:=K) rfl (bB (pv 0) T.du T.jb (iA T) (hr.mono @C) T.cN.2 .nil cJ)) (aP @C) (λ_ _ _ _ _=>⟨(ar (i:=0) (show ox (n17:B1) from by decide +kernel) rfl @E),bh,(eP (aa (!A @H (pv 0) ai) (aa (!A (bM (K:=K) rfl) (ao (sJ T) hr T.wO T.lL (aa (cL (aa (!A @H (pv 0) ai) ae)) (!j 1 (!j 2 ae)))) ai) ae)))⟩))
   (aj (ay (zK T.RU (jL T) (hr.mono @C) @D T.Rr T.eL.2 .nil cQ (aa (bB (pv 0) T.du T.kS (jK T) (hr.mono @C) T.dN.2 .nil cJ) (!j 3 (!j 4 (aa (ao (sJ T) hr T.wO T.lL (aa (bB (pv 0) T.du T.jQ (ja T) (hr.mono @C) T.dr.2 .nil cJ) (!j 1 (!j 2 ae)))) ae)))))))))))))),av (σ':=[ag _,ag _,ag _,fy,fy]) rfl ?_⟩
  lia;refine cO hp rfl ?_;lia;refine⟨p,N,od,v,k,rfl,na,th,fun β hw ev w1 H1 s1 wb=>?_,λn2 H2 dx tl=>qN n2 H2 dx tl⟩;subst ev;clear wb;lia;refine⟨f,k',rfl,sf.kind,λz e=>by subst e;exact sf.len z rfl,λH2 s2=>?_⟩;have L:=s1.trans s2;by_cases hn:Bp f=false
  ·rw[hn];lia;exact fin a.cH _ L λH2 dx tl=>qB β hw rfl hn H2 dx tl
  have hn:Bp f=true:=by simpa using hn
  rw[hn];cases sf with
  | int=>cases hn
  | bl=>cases hn
  | non=>cases hn
  | str z lz=>
  have nz:Nm z:=hn;lia;refine aS (L.get hp) rfl ?_;lia;refine⟨p,N,od,rfl,na.same L,λDn H3 f3 s3 e3=>?_⟩;have d1:=L.trans s3;lia;refine⟨Dn,_,rfl,.inl (SqL.of e3),rfl,by rw[Wc];intro x hx;obtain⟨y,_,rfl⟩:=ik.mp hx;rfl,?_⟩;refine⟨_,rfl,?_⟩;by_cases hz:z∈N.names
  ·have e0:(if false=true then !inV (V.str z) (N.names.map V.str) else inV (V.str z) (N.names.map V.str))=true:=qe.mpr hz;dsimp only;rw[qq e0];lia;exact fin a.cG _ d1 λH2 dx tl=>qD β hw rfl z hz rfl H2 dx tl
  have e0:(if false=true then !inV (V.str z) (N.names.map V.str) else inV (V.str z) (N.names.map V.str))=false:=by
   rw[<-ZM];exactλh=>hz (qe.mp h)
  dsimp only;rw[n' (by rw[e0];decide)];obtain⟨χ,m1⟩:=qM β hw rfl z rfl nz hz;clear fin qN qB qD e0;lia;refine aS (d1.get hp) rfl ?_;lia;refine⟨p,N,od,rfl,na.same d1,λD4 H4 d2 f4 s4 ρ f2 g4=>?_⟩;have m0:=d1.trans s4;have δ:d2.length=N.sums.length:=by rw[<-g4,a']
  lia;intro D5 f8;refine bf (xs:=d2.map λr=>V.ref r.1) (λi ys H'=>∃γ:ee Rw,ys=γ.map (λr=>V.ref r.1)/\γ.map (·.2.2)=(d2.take i).map (λr=>(r.2.2.1,r.2.2.2.map (sbw β z)))/\RwLs H' γ/\(∀r∈γ,r.2.1≠D5)/\Same H4 H'/\H' D5=ag (.lst ys)) ⟨[],rfl,rfl,λ_ h=>hB h @F,λ_ h=>hB h @F,bK f8,aD⟩ (λi ys H' _ ⟨_,_,_,_,_,s',_⟩=>SqL.of (s'.get ρ)) ?_ ?_
  ·rintro j y ys H' hy ⟨γ,rfl,a4,rl,rd,s',eD⟩;obtain⟨r,a5,rfl⟩:=aF hy;have n3:=(b'.mp a5).1;have hm:=f' a5;have er:=s'.get (f2 r hm).1;have ew:=s'.get (f2 r hm).2;have q6:=g.lw r.2.2 (by rw[<-g4];exact ik.mpr ⟨r,hm,rfl⟩);have j1:γ.length=j:=by have:=ri y1 a4;rw[a',a',sv] at this;omega
   lia;refine⟨r.2.1,r.2.2.2,β,z,rfl,.inr ew,@A,fun ζ H6 f6 s6 e6=>?_⟩;lia;intro tr H7 f7 s7 e7;have nB:ζ≠D5:=λzz=>by rw[zz,eD] at f6;cases f6
   have Z:=s7.get (s6.get eD);refine⟨Z,by rw[a'];exact aZ @A,γ++[(tr,ζ,r.2.2.1,r.2.2.2.map (sbw β z))],by rw[fI];rfl,by rw[fI,a4,take_succ a5,fI];rfl,fun η h2=>?_,fun η h2=>?_,λb ob e=>?_,aD⟩
   ·rcases gF.mp h2 with h | h
    ·have t1:=s7.get (s6.get (rl η h).1);have t2:=s7.get (s6.get (rl η h).2);exact⟨by rw[aE (cn t1 Z λz=>by cases z)];exact t1,by rw[aE (rd η h)];exact t2⟩
    ·rw[gn] at h;subst h;exact⟨by rw[aE (cn e7 Z λz=>by cases z)];exact e7,by rw[aE nB];exact s7.get e6⟩
   ·rcases gF.mp h2 with h | h
    ·exact rd η h
    ·rw[gn] at h;subst h;exact nB
   ·rw[aE (aq e f8)];exact s7.get (s6.get (s'.get e))
  rintro ys H5 ⟨γ,rfl,a4,rl,rd,ν,eD⟩;rw[a',pT] at a4;have q3:γ.length=d2.length:=by have:=ri y1 a4;rw[a',a'] at this;exact this
  lia;intro B6 H6 f6 s6 e6;lia;intro t7 H7 f7 s7 e7;have a8:=s6.trans s7;have Z:=a8.get eD;have nB:B6≠D5:=λzz=>by rw[zz,eD] at f6;cases f6
  lia;refine g6 Z (by rw[a'];exact aZ @A) λH8 u8=>?_;have τ:Same H4 H8:=λb ob e=>u8.oth _ _ (aq e f8) (a8.get (ν.get e));have f1:=m0.trans τ;obtain⟨a3,π⟩:∃a3:ee Rw,a3=γ++[(t7,B6,z,[])]:=⟨_,rfl⟩;have e8:H8 D5=ag (.lst (a3.map λr=>V.ref r.1)):=by rw[u8.at',π,fI];rfl
  have h4:RwLs H8 a3:=λr h5=>by
   rw[π] at h5;rcases gF.mp h5 with h | h
   ·have t1:=a8.get (rl r h).1;exact⟨u8.oth _ _ (cn t1 Z λz=>by cases z) t1,u8.oth _ _ (rd r h) (a8.get (rl r h).2)⟩
   ·rw[gn] at h;subst h;exact⟨u8.oth _ _ (cn e7 Z λz=>by cases z) e7,u8.oth _ _ nB (s7.get e6)⟩
  have ψ:a3.map (·.2.2)=(cutN N β z).sums:=by
   unfold cutN;rw[π,fI,a4,<-g4,y2];rfl
  clear u8 e7 e6 f6 f7 Z eD rl rd a8 s6 s7 ν nB ρ f2 a4 π;lia;refine aS (f1.get hp) rfl ?_;lia;refine⟨p,N,od,rfl,na.same f1,λD9 H9 f5 f9 s9 e9 υ k9=>?_⟩;have l4:=f1.trans s9;have q5:f5.length=N.sts.length:=by rw[<-k9,a']
  lia;intro A7 k7;refine bf (xs:=f5.map λr=>V.ref r.1) (λi ys H'=>∃O:ee Qs,ys=O.map (λr=>V.ref r.1)/\O.map (·.2)=(f5.take i).map (λr=>(r.2.1,sbw β z r.2.2))/\QsK H' O/\Same H9 H'/\H' A7=ag (.lst ys)) ⟨[],rfl,rfl,λ_ h=>hB h @F,bK k7,aD⟩ (λi ys H' _ ⟨_,_,_,_,s',_⟩=>SqL.of (s'.get e9)) ?_ ?_
  ·rintro j y ys H' hy ⟨O,rfl,c5,n7,s',eD⟩;obtain⟨r,a5,rfl⟩:=aF hy;have n3:=(b'.mp a5).1;have hm:=f' a5;have er:=s'.get (υ r hm);have j1:O.length=j:=by have:=ri y1 c5;rw[a',a',sv] at this;omega
   lia;intro B8 q1 q8 c0 q0;lia;refine⟨B8,[r.2.2],β,z,rfl,.inl q0,by show 1<=1000;omega,λB9 l1 o0 ι e1=>?_⟩;have e1:l1 B9=ag (.lst [.str (sbw β z r.2.2)]):=e1;lia;intro tr ε g3 b6 h0;have a0:=c0.trans (ι.trans b6);have e2:=a0.get eD;have m3:tr≠A7:=λzz=>(by rw[zz,ι.get (c0.get eD)] at g3;cases g3);refine⟨e2,by rw[a'];exact aZ @A,O++[(tr,r.2.1,sbw β z r.2.2)],by rw[fI];rfl,by rw[fI,c5,take_succ a5,fI];rfl,fun η h2=>?_,λb ob e=>?_,aD⟩
   ·rcases gF.mp h2 with h2 | h2
    ·have h6:=a0.get (n7 η h2);rw[aE (cn h6 e2 λz=>by cases z)];exact h6
    ·rw[gn] at h2;subst h2;rw[aE m3];exact h0
   ·rw[aE (aq e k7)];exact a0.get (s'.get e)
  rintro ys q1 ⟨O,rfl,c5,k6,c0,l0⟩;rw[a',pT] at c5;have c4:=l4.trans c0;have a7:=s9.trans c0;lia;refine aS (c4.get hp) rfl ?_;lia;refine⟨p,N,od,rfl,na.same c4,λY l1 o0 ι e1=>?_⟩;have c3:=c4.trans ι;lia;refine aS (c3.get hp) rfl ?_;lia;refine⟨p,N,od,rfl,na.same c3,λq2 ε g3 b6 h0=>?_⟩;have h3:=c3.trans b6;lia;refine⟨q2,N.outs,β,z,rfl,.inl h0,@A,λl2 r0 q7 e5 p6=>?_⟩;have a6:=h3.trans e5;have f0:=ι.trans (b6.trans e5);lia;intro x dx ω k8 b3 p0;have φ:=a6.trans b3;have α:=f0.trans b3;have j0:Hnd2 ω Y D5 A7 l2 a3 O (cutN N β z):=⟨b3.get (e5.get (b6.get e1)),α.get (a7.get e8),λr m=>⟨α.get (a7.get (h4 r m).1),.inl (α.get (a7.get (h4 r m).2))⟩,ψ,α.get l0,λq' m=>α.get (k6 q' m),by unfold cutN;rw[c5,<-k9,y2];rfl,b3.get p6⟩;have q4:(cutN N β z).sums.length=N.sums.length + 1:=by unfold cutN;rw[gs,a'];rfl
  refine⟨x,dx,Y,D5,A7,l2,a3,O,cutN N β z,rfl,p0,j0,li,λg2 ο m2 ξ n0=>⟨rfl,?_⟩,λhb=>χ @A ω φ,?_⟩
  ·have:=g2.ls;exact m1 @A x ο m2 (a6.free k8) (λb ob e=>ξ _ _ (aq (a6.get e) k8) (b3.get (a6.get e))) n0
  ·by_cases hm:N.sums.length<=39
   ·exact .inl (OB g hm nz hz)
   ·exact .inr @A
end
section
variable {P:oT} {w:w7} {K:ak} {mg:CM} {base:N'} {a:Ad}
theorem mD (T:Tx K mg a):FnOk P w K mg base CX0 1 a.bZ a.nX ["self","mask"] (Sq a.bE):=by
 refine T.dY.1.okA eA λa0 A outer s H vs Q E φ h=>?_;obtain⟨p,d,f,n,rows,x,rfl,st,q⟩:=h;have ζ:=qf φ;obtain⟨dx,ho⟩:=st.ho;obtain⟨es,hd,ht,g,l⟩:=st.he
 refine⟨_,((af (aA (i:=2) eA.nd rfl @E ai)
  (af (uY la (Ko (Ku ζ (ax lh (pW (K:=K) rfl Wh VU VT p8 (pv 1)) ai) (aH (K:=K) rfl (pv 0) rfl))) (af (aA (i:=3) eA.nd rfl @E (nF ζ (aH (K:=K) rfl (pv 0) rfl) (ax lh (pW (K:=K) rfl Wh VU VT p8 (pv 1)) ai) (λ_ _=>rfl)))
  (af (aA (i:=1) eA.nd rfl @E (ax mB (pv 1) (!A @H (pv 3) ai)))
  (aj (aA (i:=2) eA.nd rfl @E (ax mB (pv 2) (!A @H (pv 3) ai)))))))
  (aj (ay (eP (!j 1 (!j 2 ae)))))))),av (σ':=[ag _,ag _,fy,fy]) rfl ?_⟩
 lia;refine⟨fun μ σ' H'=>∃O v,σ'=[ag (.ref p),ag (nat (x^^^M.sm rows O)),ag (nat O),v]/\H'=H/\O < 2 ^ rows.length/\μ=x^^^M.sm rows O/\M.Frs rows O,⟨x,0,fy,?_,rfl,qb _,?_,M.Frs.zero _⟩,?_⟩
 ·rw[M.sm_zero,Wa];rfl
 ·rw[M.sm_zero,Wa]
 rintro μ σ' H' ⟨O,v,rfl,rfl,η,rfl,α⟩;lia;refine aG ho T.gQ T.eI rfl ?_;refine S1 hd ?_;lia;generalize hm:x^^^M.sm rows O=m;refine iteB (fun β=>?_) (fun β=>?_)
 ·rcases vg es ((xo (m:Int):Nat) - 1:Int) with ⟨e,he,γ,ev⟩ | ⟨_,ε⟩
  ·have Z:m≠0:=λz=>by rw[z,Cw] at γ;omega
   have hl2:m.log2=e.m.log2:=by rw[oG Z] at γ;omega
   have L:(e.m,e.p)∈es.map (λe=>(e.m,e.p)):=ik.mpr ⟨e,he,rfl⟩;have e0:=g.nz _ L;refine⟨fun ξ H2=>∃θ v,ξ=[ag (.ref p),ag (nat (x^^^M.sm rows θ)),ag (nat θ),v]/\H2=H'/\θ < 2 ^ rows.length/\x^^^M.sm rows θ < m/\M.Frs rows θ,fun ξ H2 ⟨θ,v,h1,h2,ψ,ο,χ⟩=>⟨_,ο,θ,v,h1,h2,ψ,rfl,χ⟩,?_⟩;lia;refine aG ho T.gQ T.eI rfl ?_;lia;refine JY hd ev ?_;have υ:=ht e he;lia;refine⟨O^^^e.p,ag (.ref e.a),?_,rfl,M.xor_lt_pow η (g.lt _ L),?_,α.xor (g.sub _ L)⟩
   ·rw[M.sm_xor,g.sm _ L,<-Wb,hm,eJ,eJ]
   ·rw[M.sm_xor,g.sm _ L,<-Wb,hm];exact M.xor_less Z e0 hl2
  ·rw[ε] at β;cases β
 ·lia;intro t H2 ω π e2;subst hm;refine q t H2 O ω π e2 η (fun ρ y τ ν hl2=>?_) α;rcases vg es ((xo ((x^^^M.sm rows O:Nat):Int):Nat) - 1:Int) with ⟨e,he,γ,ev⟩ | ⟨h1,ε⟩
  ·rw[ev] at β;cases β
  ·obtain⟨e,he,δ⟩:=g.all y τ ν;obtain⟨ι,Y,rfl⟩:=ik.mp he;refine h1 ι Y ?_;have δ:ι.m.log2=y.log2:=δ;rw[oG ρ,δ,hl2];omega
theorem Bj (T:Tx K mg a):FnOk P w K mg base CX0 2 a.d8 a.xr ["self","place","row"] (Sr a.bE):=by
 refine T.j7.1.okA nh fun ψ A outer s H vs Q E θ h=>?_;obtain⟨p,d,f,n,rows,r,rfl,st,hl,q⟩:=h;have τ:=qf θ;obtain⟨dx,ho⟩:=st.ho
 refine⟨_,((af (aA (i:=3) nh.nd rfl @E (jJ (pv 0) T.gQ T.nM (mD T) (θ.mono @C) T.dY.2 .nil cJ (!j 2 ae)))
  (af (aA (i:=4) nh.nd rfl @E (ax mB (!A @H (pv 3) ai) (ax gS ai (pv 1))))
  (aj (cc (aJ mR (!A @H (pv 3) ai) ai (aU _)) (aj (bu (iR (K:=K) rfl vr LI K' eB (aH (K:=K) rfl (pv 0) rfl) (!j 4 ae)))) (af (bu (iR (K:=K) rfl vr LI K' eB (aH (K:=K) rfl (pv 0) rfl) (!j 1 ae)))
  (aj (zH τ (aH (K:=K) rfl (pv 0) rfl) (ax lh (pW (K:=K) rfl Wh VU VT p8 (!A @H (pv 3) ai)) ai) (eP (aa (!A @H (pv 3) ai) (!j 4 ae))) rfl)))))))),av (σ':=[ag _,ag _,ag _,fy,fy]) rfl ?_⟩
 lia;refine aS ho rfl ?_;lia;refine⟨p,d,f,n,rows,r,rfl,st,λt H2 O f2 β ο ι hn ζ=>?_⟩;lia;rw[shl1,eJ];have φ:=β.get ho;have L:=st.same β;have lf:=M.fr_len rows;refine iteB (fun γ=>?_) (fun γ=>?_)
 ·have hz:r^^^M.sm rows O=0:=by have:=V.int.inj (WD γ);omega
  obtain⟨nms,Y,ξ⟩:=L.hn;have ln:=ξ.len;lia;refine aG φ T.gQ T.ko rfl ?_;lia;refine g6 Y (by rw[a'];exact aZ @A) fun π α=>?_;lia;exact q π (λb o h1 h2 ν e=>α.oth _ _ ν (β.get e)) (L.null ι hz ξ Y α)
 ·have hz:r^^^M.sm rows O≠0:=λz=>by rw[z] at γ;exact hB γ @C
  obtain⟨es,hd,ht,g,le⟩:=L.he;have υ:=L.hf;lia;refine aG φ T.gQ T.gE rfl ?_;lia;refine g6 L.hf (by rw[a'];exact aZ @A) fun π α=>?_;have e3:=α.oth _ _ (cn ο L.hf @F) ο;have ε:=α.oth _ _ (cn φ L.hf @F) φ;have η:=α.oth _ _ (cn hd L.hf @F) hd;lia;intro t' H4 f4 Z ρ;lia;refine aG (Z.get ε) T.gQ T.eI rfl ?_;lia;refine QL (Z.get η) (by unfold rJ;rw[a'];exact aZ @A) fun ω δ=>?_;lia;refine q ω (λb o h1 h2 ν e=>δ.oth _ _ h1 (Z.get (α.oth _ _ h2 (β.get e)))) (L.more ι hz (hn hz) ζ α Z ρ hd ht g le ?_);have χ:(((r^^^M.sm rows O).log2 + 1:Nat):Int) - 1=(((r^^^M.sm rows O).log2:Nat):Int):=by omega
  rw[oG hz,χ] at δ;exact δ
theorem lx (T:Tx K mg a):FnOk P w K mg base CX0 3 a.bO a.mH ["self","rows"] (Qf a.bE):=by
 refine T.eE.1.okA ip λa4 A outer s H vs Q E hr h=>?_;obtain⟨x,dx,r,rows,rfl,hw,hl,ρ,q⟩:=h;have hu:=qf hr;have rx:r≠x:=cn hw ρ @F
 refine⟨_,((af (df (K:=K) rfl (pv 0) qV rfl)
  (af (df (K:=K) rfl (pv 0) (cL ae) rfl)
  (af (df (K:=K) rfl (pv 0) (cL ae) rfl)
  (aj (de la rfl (DF (K:=K) rfl @D T.fi (pv 1)) (qU rfl (bA (ar (i:=2) ip.nd rfl @E) (bA (ar (i:=3) ip.nd rfl @E) iy))) (aj (bu (jJ (pv 0) T.gQ T.DU (Bj T) (hr.mono @C) T.j7.2 .nil cJ (!j 2 (!j 3 ae))))))))))),av (σ':=[ag _,ag _,fy,fy]) rfl ?_⟩
 lia;intro d H1 ω s1 e1;lia;have υ:d≠x:=λz=>by rw[z,ρ] at ω;cases ω
 refine dc (s1.get ρ) T.gQ T.eI @C rfl λH2 ι=>?_;lia;intro f H3 τ ξ e3;lia;have α:f≠x:=λz=>by rw[z,ι.at'] at τ;cases τ
 refine dc (ξ.get ι.at') T.gQ T.gE (by show 1 < 1000;decide) rfl λH4 Z=>?_;lia;intro n H5 δ γ β;lia;have π:n≠x:=λz=>by rw[z,Z.at'] at δ;cases δ
 refine dc (γ.get Z.at') T.gQ T.ko (by show 2 < 1000;decide) rfl λH6 O=>?_;have k1:∀b o,b≠x->H b=ag o->H2 b=ag o:=λb o L e=>ι.oth _ _ L (s1.get e);have k2:∀b o,b≠x->H b=ag o->H4 b=ag o:=λb o L e=>Z.oth _ _ L (ξ.get (k1 b o L e));have k3:∀b o,b≠x->H b=ag o->H6 b=ag o:=λb o L e=>O.oth _ _ L (γ.get (k2 b o L e));have nd:∀b o,H b=ag o->b≠d:=λb o e=>aq e ω;have nf:∀b o,b≠x->H b=ag o->b≠f:=λb o L e=>aq (k1 b o L e) τ;have θ:∀b o,b≠x->H b=ag o->b≠n:=λb o L e=>aq (k2 b o L e) δ;have ο:=Z.oth _ _ α e3;have fn:f≠n:=aq ο δ;have χ:H6 d=ag (.dK (rJ [])):=O.oth _ _ υ (γ.get (Z.oth _ _ υ (ξ.get (ι.oth _ _ υ e1))));have a0:=k3 _ _ rx hw;lia;refine u0 (xs:=rows.map nat) (λi σ H'=>∃v ζ,σ=[ag (.ref x),ag (.ref r),v,ζ]/\StA H' a.bE x d f n (rows.take i)/\∀b o,b≠x->H b=ag o->H' b=ag o) ?_ ?_ ?_ ?_
 ·refine⟨fy,fy,rfl,⟨⟨dx,O.at'⟩,⟨[],χ,λ_ h=>hB h @F,M.Ech.nil,rfl⟩,O.oth _ _ α (γ.get ο),⟨[],O.oth _ _ π β,M.Nul.nil⟩,fn⟩,k3⟩
 ·rintro i σ H' _ ⟨v,ζ,_,_,k⟩;exact SqL.of (k _ _ rx hw)
 ·rintro i y σ H' p H7 hy ⟨v,ζ,rfl,st,k⟩ fp ν e7;obtain⟨η,Y,rfl⟩:=aF hy;obtain⟨a3,φ⟩:=(st.same ν).ho;lia;refine aS φ rfl ?_;lia;have tl:=E7 Y;refine⟨x,d,f,n,rows.take i,η,by rw[tl],st.same ν,by rw[tl];have:=(b'.mp Y).1;omega,λH8 ψ ε=>?_⟩;lia;refine⟨_,_,rfl,by rw[take_succ Y];exact ε,λb o L e=>ψ b o (nd b o e) (nf b o L e) (θ b o L e) (ν.get (k b o L e))⟩
 ·rintro σ H' ⟨v,ζ,rfl,st,k⟩;rw[a',pT] at st;lia;exact q H' d f n k st
theorem Q1 (T:Tx K mg a):FnOk P w K mg base CX0 5 a.w8 a.PD ["rows"] Qu:=by
 refine T.FX.1.okA QA fun δ A outer s H vs Q E Y h=>?_;obtain⟨r,rows,rfl,hw,hl,q⟩:=h;refine⟨_,((aj (ay (aV (cZ (K:=K) rfl) @D T.gT oD (aa (aH (K:=K) rfl (pV T.MN (lx T) (Y.mono @C) @D T.Lz T.eE.2 .nil cJ (!j 0 ae)) rfl) ae))))),av (σ':=[ag _]) rfl ?_⟩;lia;intro x dx H2 α L β;refine⟨x,dx,r,rows,rfl,L.get hw,hl,β,fun ζ d f n k st=>⟨rfl,?_⟩⟩;obtain⟨γ,ho⟩:=st.ho;refine aG ho T.gQ T.gE rfl ?_;have hf:=st.hf;lia;intro D ε Z O ρ;have hs:Same H ζ:=λb o e=>k b o (aq e α) (L.get e);exact q D ε (hs.free Z) (hs.trans O) ρ
theorem yY (T:Tx K mg a):FnOk P w K mg base CX0 5 a.jU a.Cc ["rows","wish"] Ge:=by
 refine T.n4.1.okA sk λa3 A outer s H vs Q E ε h=>?_;obtain⟨r,rows,x,rfl,hw,hl,ζ,ι,β,qA,ω⟩:=h
 refine⟨_,((af (aA (i:=2) sk.nd rfl @E (pV T.MN (lx T) (ε.mono @C) @D T.Lz T.eE.2 .nil cJ (!j 0 ae)))
  (af (aA (i:=3) sk.nd rfl @E (jJ (pv 2) T.gQ T.nM (mD T) (ε.mono @C) T.dY.2 .nil cJ (!j 1 ae)))
  (af (cc (aJ mR (!A @H (pv 3) ai) ai (aU _)) (aj (ay (eP (aa cD (aa (ao (GU T) ε T.Lw T.r9 (aa (!A @H (pv 3) ai) ae)) ae))))) aL)
  (aj (ay (eP (aa cD (aa (jJ (pv 2) T.gQ T.vX (uv T) (ε.mono @C) T.fJ.2 .nil cJ (aa (ax lh (pW (K:=K) rfl Wh VU VT p8 (!A @H (pv 3) ai)) ai) ae)) ae))))))))),av (σ':=[ag _,ag _,fy,fy]) rfl ?_⟩
 lia;intro p dx H2 f2 φ e2;refine⟨p,dx,r,rows,rfl,φ.get hw,hl,e2,λH3 d f n k st=>⟨rfl,?_⟩⟩;obtain⟨a0,ho⟩:=st.ho;have hs:Same H H3:=λb o e=>k b o (aq e f2) (φ.get e);lia;refine aS ho rfl ?_;lia;refine⟨p,d,f,n,rows,x,rfl,st,λt H4 O f4 L ρ χ hn π=>?_⟩;lia;refine iteB (fun η=>?_) (fun η=>?_)
 ·have hz:x^^^M.sm rows O=0:=by have:=V.int.inj (WD η);omega
  have ξ:M.sm rows O=x:=by
   have:=ri (x^^^·) hz;simp only[<-Wb,Xo,Xe,Wa] at this;exact this
  lia;refine⟨O,rfl,hA χ (hL @C hl),λD H5 f5 ο e5=>?_⟩;lia;intro t' υ f6 δ τ;exact qA t' D υ O (Oq (hs.trans L) f5) (hs.trans (L.trans (ο.trans δ))) τ (δ.get e5) ⟨χ,ξ,π⟩
 ·have hz:x^^^M.sm rows O≠0:=λz=>by rw[z] at η;exact hB η @C
  have Y:x^^^M.sm rows O < 2 ^ 1000:=M.xor_lt_pow ι (M.span_lt ζ (M.sm_span rows O));have α:=M.log2_under hz Y;have Z:¬M.Span rows x:=fun ν=>hn hz _ (M.span_xor ν (M.sm_span rows O)) hz rfl;have γ:(M.fr rows).length < 64:=β.resolve_left Z;have ez:(((x^^^M.sm rows O).log2 + 1:Nat):Int) - 1=(((x^^^M.sm rows O).log2:Nat):Int):=by omega
  lia;refine aS (L.get ho) rfl ?_;lia;rw[oG hz,ez];refine⟨p,d,f,n,rows,(x^^^M.sm rows O).log2,rfl,st.same L,α,ζ,γ,hn hz,λm H5 ο B=>?_⟩;lia;intro t' υ f6 δ τ;refine ω t' υ m (hs.trans (L.trans (ο.trans δ))) τ ⟨Z,⟨M.sm rows O,M.sm_span _ _,hz,hn hz,B⟩,B.ev,B.odd hz rfl α,λW ψ θ=>B.lt W ψ ?_⟩;exact M.log2_under hz (M.xor_lt_pow θ (M.span_lt ψ (M.sm_span rows O)))
end
section
variable {P:oT} {w:w7} {K:ak} {mg:CM} {base:N'} {a:Ad}
local macro_rules | `(tactic| walk_at "l2step") =>`(tactic| first | ((with_reducible refine' dw ?e ?_);(case e=>walk_at "l2kind")) | ((with_reducible refine' fX ?e ?_);(case e=>walk_at "l2kind")) | (with_reducible refine cb ?_) | (with_reducible refine dD ?_))
local macro_rules | `(tactic| walk_at "l2step") =>`(tactic| first | (with_reducible refine SO ?_))
theorem kg (T:Tx K mg a):FnOk P w K mg base CX0 6 a.gH a.xh ["one","other","pair","row"] (Nn a.aw):=by
 refine T.gO.1.okA m9 λa5 A outer s H vs Q E η h=>?_;obtain⟨p1,p2,m,L,α,O,ζ,x,r,rfl,δ,ξ,β,q⟩:=h;obtain⟨υ,χ,ρ,γ,ν,a0⟩:=δ.a1.ho;obtain⟨a4,τ,ο,φ,a3,ω⟩:=δ.a2.ho;have θ:=M.lo_lt L.length x;have ι:=M.hi_lt ξ;have Y:=δ.l;have e6:(1:Int) * 2 ^ ((L.length:Int).toNat) - 1=((2 ^ L.length - 1:Nat):Int):=by rw[shl1];have:=qb L.length;omega
 have ek:M.tr2 (jnp L O) x r=M.tr2 (prs L) (M.lo L.length x) r^^^(M.tr2 (prs O) (x>>>L.length) r * 2 ^ L.length):=by
  have:=δ.jo.tr' (x:=x) (r:=r) (by rw[aX,aX];exact ξ);rw[aX,ak9] at this;exact this
 have cp:CPow ((M.tr2 (prs O) (x>>>L.length) r:Nat):Int) (L.length:Int):=⟨@A,@A,by
  rw[Zr];refine hA (M.tr2_lt _ _ _) (hL @C ?_);rw[aX];omega⟩
 refine⟨_,((af (aA (i:=4) m9.nd rfl @E (bB (pv 0) T.aI T.dy (cX T) (η.mono @C) T.bz.2 .nil cJ))
  (af (aA (i:=5) m9.nd rfl @E (ax nG (pv 2) (ax lh (ax gS ai (pv 4)) ai)))
  (aj (ay (ax mB (!A @H (dP (pv 0) T.aI T.kT (jM T) (η.mono @C) T.dO.2 .nil thr0 (!j 5 (!j 3 ae))) ai) (ax gS (!A @H (dP (pv 1) T.aI T.kT (jM T) (η.mono @C) T.dO.2 .nil thr0 (aa (ax yX (pv 2) (pv 4)) (!j 3 ae))) ai) (pv 4)))))))),av (σ':=[ag _,ag _,ag _,ag _,fy,fy]) rfl ?_⟩
 lia;refine aS γ rfl ?_;lia;refine⟨p1,m,L,α,rfl,δ.a1,?_⟩;lia;rw[e6,eK];lia;refine cO γ rfl ?_;lia;refine⟨p1,m,L,α,nat (M.lo L.length x),nat r,"int","int",rfl,δ.a1,δ.g1,rfl,rfl,λa1 b1 ea Z ha hb π H2 ε e2=>?_,λbad=>?_⟩
 ·have ea:=kR ea;have Z:=kR Z;subst ea;subst Z;lia;refine cO (ε.get φ) rfl ?_;lia;rw[JN];refine⟨p2,m,O,ζ,nat (x>>>L.length),nat r,"int","int",rfl,δ.a2.same ε,δ.g2,rfl,rfl,λa1 b1 ea Z ha hb t3 H3 ψ e3=>?_,λbad=>?_⟩
  ·have ea:=kR ea;have Z:=kR Z;subst ea;subst Z;lia;rw[Qx,eJ,<-ek];exact q H3 (ε.trans ψ)
  ·rw[gh ι,gh β] at bad;rcases bad with bad | bad<;>cases bad
 ·rw[gh θ,gh β] at bad;rcases bad with bad | bad<;>cases bad
theorem vK (T:Tx K mg a):FnOk P w K mg base CX0 8 a.dI a.o3 ["one","other"] (Qm a.aw):=by
 refine T.iN.1.okA c7 λf6 A outer s H vs Q E hr h=>?_;obtain⟨p1,p2,m,β,ζ,ε,ι,rfl,δ,q1,q2⟩:=h;obtain⟨υ,e6,e4,a6,ν,e8⟩:=δ.a1.ho;obtain⟨f5,e5,e3,φ,f0,e7⟩:=δ.a2.ho;have Y:=δ.l;have m6:=δ.g1.m6;obtain⟨θ,c4⟩:∃θ,θ=β.length + ε.length + 1:=⟨_,rfl⟩;have eT:(β.length:Int) + (ε.length:Int) + 1=(θ:Int):=by omega
 refine⟨_,((af (aA (i:=2) c7.nd rfl @E (ax cE (ax cE (bB (pv 0) T.aI T.dy (cX T) (hr.mono @C) T.bz.2 .nil cJ) (bB (pv 1) T.aI T.dy (cX T) (hr.mono @C) T.bz.2 .nil cJ)) ai))
  (af (aA (i:=3) c7.nd rfl @E (Bc rfl @D @D T.gT T.gD (aH (K:=K) rfl (pv 0) rfl)))
  (af (eO (osc:=ah gf) (ON:=n25) (N:=["which","one","turns"]) (n:=1) (fx:=[0,2]) (i:=4) c7.nd rfl rfl rfl rfl rfl rfl @I (aR (K:=K) rfl (pv 3)) (aP @C) (λ_ _ _ _ _=>⟨(ar (i:=0) (show ox (["which","one","turns"]:B1) from by decide +kernel) rfl @E),bh,(dP (pv 1) T.aI T.mF (ly T) (hr.mono @C) T.dz.2 .nil thr0 (!j 0 (!j 2 ae)))⟩))
  (af (eO (osc:=ah gf) (ON:=n25) (N:=["which","other","turns"]) (n:=1) (fx:=[1,2]) (i:=5) c7.nd rfl rfl rfl rfl rfl rfl @I (aR (K:=K) rfl (pv 3)) (aP @C) (λ_ _ _ _ _=>⟨(ar (i:=0) (show ox (["which","other","turns"]:B1) from by decide +kernel) rfl @E),bh,(dP (pv 1) T.aI T.mF (ly T) (hr.mono @C) T.dz.2 .nil thr0 (!j 0 (!j 2 ae)))⟩))
  (af (de la rfl (dA @D T.gD (!j 2 ae)) (ar (i:=6) c7.nd rfl @E) (aj (de la rfl (aR (K:=K) rfl (pv 3)) (ar (i:=7) c7.nd rfl @E) (aj (cc (aJ zM (!A (bM (K:=K) rfl) (!A (bM (K:=K) rfl) (pv 4) (pv 7)) (pv 6)) (!A (bM (K:=K) rfl) (!A (bM (K:=K) rfl) (pv 5) (pv 7)) (pv 6)) (aU _)) (aj (ay (eP (aa cD (!j 7 (!j 6 ae)))))) aL)))))
  (aj (ay Ks)))))))),av (σ':=[ag _,ag _,fy,fy,fy,fy,fy,fy]) rfl ?_⟩
 lia;refine aS a6 rfl ?_;lia;refine⟨p1,m,β,ζ,rfl,δ.a1,?_⟩;lia;refine aS φ rfl ?_;lia;refine⟨p2,m,ε,ι,rfl,δ.a2,?_⟩;lia;rw[eT];refine aG a6 T.aI T.bL rfl ?_;lia;refine⟨m,rfl,@A,λD H1 f1 s1 e1=>?_⟩;have e1:H1 D=ag (.lst ((lj m).map nat)):=e1;lia;intro ω a8;refine bf (xs:=(lj m).map nat) (λj ys H'=>Co (λj=> .lst ((M.wan (prs β) (prs ζ) 0 (M.pulse j θ)).map nat)) H1 ω j ys H') (xv a8) (λj ys H' _ ⟨_,_,_,_,_,s',_⟩=>SqL.of (s'.get e1)) (λj v ys π hv c=>?_) (λys H2 c=>?_)
 ·obtain⟨w',O,rfl⟩:=aF hv;have hj:=(b'.mp O).1;rw[S'] at hj;rw[W6 hj] at O;cases O;have c':=c;obtain⟨_,_,_,_,_,sB,_⟩:=c';have ρ:=s1.trans sB;lia;refine cO (ρ.get a6) rfl ?_;lia;refine⟨p1,m,β,ζ,nat j,"int",θ,rfl,δ.a1.same ρ,δ.g1,rfl,@A,λi ei hi Dn H9 f9 s9 η=>?_,fun τ=>?_⟩
  ·have ei:=kR ei;subst ei;exact Cq a8 c s9 f9 η @A
  ·unfold idxB at τ;simp at τ;omega
 obtain⟨a3,rfl,c3,a1,e0,a5,b3⟩:=c;rw[a',S'] at c3;have L:=s1.trans a5;have b6:=a5.get e1;lia;intro D2 γ;refine bf (xs:=(lj m).map nat) (λj ys H'=>Co (λj=> .lst ((M.wan (prs ε) (prs ι) 0 (M.pulse j θ)).map nat)) H2 D2 j ys H') (xv γ) (λj ys H' _ ⟨_,_,_,_,_,s',_⟩=>SqL.of (s'.get b6)) (λj v ys π hv c=>?_) (λys H3 c=>?_)
 ·obtain⟨w',O,rfl⟩:=aF hv;have hj:=(b'.mp O).1;rw[S'] at hj;rw[W6 hj] at O;cases O;have c':=c;obtain⟨_,_,_,_,_,sB,_⟩:=c';have ρ:=L.trans sB;lia;refine cO (ρ.get φ) rfl ?_;lia;refine⟨p2,m,ε,ι,nat j,"int",θ,rfl,δ.a2.same ρ,δ.g2,rfl,@A,λi ei hi Dn H9 f9 s9 η=>?_,fun τ=>?_⟩
  ·have ei:=kR ei;subst ei;exact Cq γ c s9 f9 η @A
  ·unfold idxB at τ;simp at τ;omega
 obtain⟨c0,rfl,c2,a2,c5,ψ,e2⟩:=c;rw[a',S'] at c2;have c1:=L.trans ψ;have ξ:=ψ.get b6;have b3:=ψ.get b3;have a1:∀(j:Nat) d,a3[j]? =ag d->H3 d=ag (.lst ((M.wan (prs β) (prs ζ) 0 (M.pulse j θ)).map nat)):=λj d h=>ψ.get (a1 j d h);clear b6 e1 s1 a5 L e0 c5 a8 γ f1;lia;refine lE (λi σ H'=>∃v6 v7,σ=[ag (.ref p1),ag (.ref p2),ag (nat θ),ag (.ref D),ag (.ref ω),ag (.ref D2),v6,v7]/\Same H3 H'/\M.Al (prs β) (prs ζ) (prs ε) (prs ι) m i) ⟨fy,fy,rfl,Same.refl _,λt h=>hB h @A⟩ ?_ ?_
 ·rintro i σ H' hi ⟨v6,v7,rfl,s',al⟩;have hi:i < θ:=by omega
  have ei:(0:Int) + (i:Int)=(i:Int):=XO _;lia;rw[ei];refine eQ (xs:=(lj m).map nat) (λj σ a4=>∃v7,σ=[ag (.ref p1),ag (.ref p2),ag (nat θ),ag (.ref D),ag (.ref ω),ag (.ref D2),ag (nat i),v7]/\Same H3 a4/\∀w',w' < j->M.sgl (prs β) (prs ζ) w' i=M.sgl (prs ε) (prs ι) w' i) ⟨v7,rfl,s',λw' h=>hB h @A⟩ (λj σ a4 _ ⟨_,_,α,_⟩=>SqL.of (α.get ξ)) ?_ ?_
  ·rintro j y σ a4 hy ⟨v7,rfl,α,χ⟩;obtain⟨w',O,rfl⟩:=aF hy;have hj:=(b'.mp O).1;rw[S'] at hj;rw[W6 hj] at O;cases O;have Z:=eF (l:=a3) (i:=j) @A;have a7:=eF (l:=c0) (i:=j) @A;generalize a3[j]=d1 at Z;generalize c0[j]=d2 at a7;have ο:=α.get b3;have f4:=α.get e2;have f3:=α.get (a1 j d1 Z);have f2:=α.get (a2 j d2 a7);have t1:atI (a3.map V.ref) (j:Int)=ag (.ref d1):=d9 (by rw[kf,Z];rfl);have t2:atI (c0.map V.ref) (j:Int)=ag (.ref d2):=d9 (by rw[kf,a7];rfl)
   have sg:∀(p o:A'),atI ((M.wan p o 0 (M.pulse j θ)).map nat) (i:Int)=ag (nat (M.sgl p o j i)):=λp o=>d9 (by
    have hl:i < (M.wan p o 0 (M.pulse j θ)).length:=by rw[M.wan_len,M.pulse_len];exact hi
    rw[kf,eF hl,<-M.pulse_sgl p o j hi,eY,eF hl];rfl)
   have t3:=sg (prs β) (prs ζ);have t4:=sg (prs ε) (prs ι);lia;by_cases hs:M.sgl (prs β) (prs ζ) j i=M.sgl (prs ε) (prs ι) j i
   ·refine j9 (by rw[hs];simp) ?_;lia;refine⟨α,λw2 h2=>?_⟩;by_cases a0:w2=j
    ·rw[a0];exact hs
    ·exact χ w2 @A
   ·refine pK (by rw[Yx,decide_eq_false_iff_not];intro e;exact hs (kR e)) ?_;lia;intro tt H9 f9 s9 η;exact q2 j i ⟨hj,by rw[aX,aX];omega,al,χ,hs⟩ tt H9 (c1.trans (α.trans s9)) η
  ·rintro σ a4 ⟨v7,rfl,α,χ⟩;rw[a',S'] at χ;lia;refine⟨_,_,rfl,α,λt ht w2 a0=>?_⟩;by_cases h:t=i
   ·rw[h];exact χ w2 a0
   ·exact al t @A w2 a0
 ·rintro σ H' ⟨v6,v7,rfl,s',al⟩;rw[pY,c4] at al;lia;exact q1 al H' (c1.trans s')
theorem ur (T:Tx K mg a):FnOk P w K mg base CX0 8 a.di a.nU ["one","other"] (So a.aw):=by
 refine T.h9.1.okA eu λd2 A outer s H vs Q E hr h=>?_;obtain⟨p1,p2,m,β,π,O,ξ,rfl,δ,q⟩:=h;obtain⟨υ,c1,b3,a4,ν,c3⟩:=δ.a1.ho;obtain⟨d1,c0,a8,φ,c4,c2⟩:=δ.a2.ho;have Y:=δ.l;have m6:=δ.g1.m6;obtain⟨θ,ω⟩:∃θ,θ=β.length + O.length:=⟨_,rfl⟩;have eT:(β.length:Int) + (O.length:Int)=(θ:Int):=by omega
 have ρ:(jnp β O).length=θ:=by rw[Lg,ω]
 have l0:=M.sg0_len (jnp β O) m
 refine⟨_,((af (eO (osc:=ah dS) (ON:=n20) (N:=["which","one","other"]) (n:=1) (fx:=[0,1]) (i:=2) eu.nd rfl rfl rfl rfl rfl rfl @I (dA @D T.gD (aa (aH (K:=K) rfl (pv 0) rfl) ae)) (aP @C) (λ_ _ _ _ _=>⟨(ar (i:=0) (show ox (["which","one","other"]:B1) from by decide +kernel) rfl @E),bh,(ao (kg T) hr T.me T.gO (!j 1 (!j 2 (aa ai (aa (ax gS ai (pv 0)) ae)))))⟩))
  (af (aA (i:=3) eu.nd rfl @E (cL ae))
  (af (de la rfl (dA @D T.gD (aa (ax cE (bB (pv 0) T.aI T.dy (cX T) (hr.mono @C) T.bz.2 .nil cJ) (bB (pv 1) T.aI T.dy (cX T) (hr.mono @C) T.bz.2 .nil cJ)) ae)) (ar (i:=4) eu.nd rfl @E) (af (bu (iR (K:=K) rfl vr Xu Xt rA (pv 3) (!j 2 ae)))
  (aj (eO (osc:=ah dS) (ON:=n20) (N:=["pair","one","other"]) (n:=1) (fx:=[0,1]) (i:=2) eu.nd rfl rfl rfl rfl rfl rfl @I (aR (K:=K) rfl (pv 2)) (aP @C) (λ_ _ _ _ _=>⟨(ar (i:=0) (show ox (["pair","one","other"]:B1) from by decide +kernel) rfl @E),bh,(ao (kg T) hr T.me T.gO (!j 1 (!j 2 (!j 0 (aa ai ae)))))⟩)))))
  (aj (ay (b9 (osc:=ah dS) (ON:=n20) (N:=["place","told"]) (n:=1) (fx:=[3]) rfl rfl rfl @I (aR (K:=K) rfl (ao (Q1 T) hr T.Ur T.FX (!j 3 ae))) (aP @C) (λ_ _ _ _ _=>⟨(ar (i:=0) (show ox (["place","told"]:B1) from by decide +kernel) rfl @E),bh,(!A (bM (K:=K) rfl) (pv 1) (pv 0))⟩)))))))),av (σ':=[ag _,ag _,fy,fy,fy]) rfl ?_⟩
 lia;refine aG a4 T.aI T.bL rfl ?_;lia;rw[pY];intro D α;refine gW (λi ys H'=>Cs (λi ys=>ys=((lj i).map λw=>M.tr2 (jnp β O) 0 (2 ^ w)).map nat) H D i ys H') (Cs.zero α rfl) (λi ys H' hi c=>?_) (λys H1 c=>?_)
 ·lia;rw[XO,shl1];refine⟨p1,p2,m,β,π,O,ξ,0,2 ^ i,rfl,δ.same c.same,qb _,V7 @C hi,λH6 s6=>?_⟩;refine Cs.put α (c.same.trans s6) (s6.get c.at') c.len @A ?_;rw[c.pv,X7,fI,fI];rfl
 have e1:=c.at';rw[c.pv] at e1;have e1:H1 D=ag (.lst ((M.stj (jnp β O) (M.sg0 (jnp β O) m) 0).map nat)):=e1;have s1:=c.same;clear c;lia;intro D0 H2 f2 s2 e2;have L:=s1.trans s2;lia;refine aS (L.get a4) rfl ?_;lia;refine⟨p1,m,β,π,rfl,δ.a1.same L,?_⟩;lia;refine aS (L.get φ) rfl ?_;lia;refine⟨p2,m,O,ξ,rfl,δ.a2.same L,?_⟩;lia;rw[eT];have ε:H D0=none:=s1.free f2;refine lE (λi σ H'=>∃(v:pa V) (Dm:dt),σ=[ag (.ref p1),ag (.ref p2),ag (.ref Dm),ag (.ref D0),v]/\Same H H'/\H' Dm=ag (.lst ((M.stj (jnp β O) (M.sg0 (jnp β O) m) i).map nat))/\H' D0=ag (.lst ((M.rcf (jnp β O) m i).map nat))/\Dm≠D0) ⟨fy,D,rfl,L,s2.get e1,e2,λz=>by rw[<-z,e1] at f2;cases f2⟩ ?_ ?_
 ·rintro i σ H' hi ⟨v,Dm,rfl,s',em,et,χ⟩;have hi:i < θ:=by omega
  have lr:=M.rcf_len (jnp β O) m i;have a3:(M.stj (jnp β O) (M.sg0 (jnp β O) m) i).length=m:=by rw[M.stj_len,l0]
  have b6:i * m<=60 * 6:=ab8 @A m6;lia;refine qL et em (by rw[a',a',lr,a3];exact XA (aZ @A)) χ.symm λH5 u5=>?_;have ο:=u5.same ε s';have a7:=u5.oth _ _ χ em;have ζ:=u5.at';rw[<-fI] at ζ;have ζ:H5 D0=ag (.lst ((M.rcf (jnp β O) m (i + 1)).map nat)):=ζ;lia;intro D5 η;refine bf (xs:=(M.stj (jnp β O) (M.sg0 (jnp β O) m) i).map nat) (λj ys H'=>Cs (λj ys=>ys=(((M.stj (jnp β O) (M.sg0 (jnp β O) m) i).take j).map λx=>M.tr2 (jnp β O) x 0).map nat) H5 D5 j ys H') (Cs.zero η rfl) (λj ys H' _ c=>SqL.of (c.same.get a7)) (λj v ys H6 hv c=>?_) (λys H6 c=>?_)
  ·obtain⟨y,ψ,rfl⟩:=aF hv;have hj:=(b'.mp ψ).1;have Z:=M.stj_lt (jnp β O) m i y (f' ψ);rw[ρ,ω] at Z;lia;refine⟨p1,p2,m,β,π,O,ξ,y,0,rfl,δ.same (ο.trans c.same),Z,qb _,λH7 s7=>?_⟩;refine Cs.put η (c.same.trans s7) (s7.get c.at') c.len @A ?_;rw[c.pv,take_succ ψ,fI,fI];rfl
  have e6:=c.at';rw[c.pv,a',pT] at e6;have s6:=c.same;clear c;lia;exact⟨_,D5,rfl,ο.trans s6,e6,s6.get ζ,λz=>by rw[z,ζ] at η;cases η⟩
 ·rintro σ H' ⟨v,Dm,rfl,s',em,et,χ⟩;rw[pY] at et;have lr:=M.rcf_len (jnp β O) m θ;have b6:θ * m<=60 * 6:=ab8 @A m6;obtain⟨rows,γ⟩:∃rows,rows=M.rcf (jnp β O) m θ:=⟨_,rfl⟩;rw[<-γ] at et lr;lia;refine⟨D0,rows,rfl,et,@A,λB H7 f7 s7 e7=>?_⟩;have a6:=s7.get et;lia;intro D8 a0;refine bf (xs:=(M.fr rows).map nat) (λj ys H'=>Cs (λj ys=>ys=(((M.fr rows).take j).map λi=>rows.getD i 0).map nat) H7 D8 j ys H') (Cs.zero a0 rfl) (λj ys H' _ c=>SqL.of (c.same.get e7)) (λj v ys H8 hv c=>?_) (λys H8 c=>?_)
  ·obtain⟨y,ψ,rfl⟩:=aF hv;have hj:=(b'.mp ψ).1;have a5:=M.fr_lt y (f' ψ);have τ:=c.same.get a6;have c5:atI (rows.map nat) (y:Int)=ag (nat (rows.getD y 0)):=d9 (by rw[kf,eY,eF a5];rfl);have ι:=M.fr_len rows;lia;refine Cs.put a0 c.same c.at' c.len @A ?_;rw[c.pv,take_succ ψ,fI,fI];rfl
  have e8:=c.at';rw[c.pv,a',pT] at e8;refine q D8 H8 ((s'.trans s7).free a0) ((s'.trans s7).trans c.same) ?_;unfold M.prs2 M.fR;rw[aX,aX,<-ω,<-γ];exact e8
theorem DM (T:Tx K mg a):FnOk P w K mg base CX0 10 a.iC a.zc ["one","other"] (Ss a.aw):=by
 refine T.oI.1.okA gA λk8 A outer s H vs Q E hr h=>?_;obtain⟨p1,p2,m,α,γ,β,ξ,rfl,δ,q1,θ⟩:=h;obtain⟨k7,h3,g4,a0,j1,h6⟩:=δ.a1.ho;obtain⟨k6,h0,g3,φ,j0,h5⟩:=δ.a2.ho;have Y:=δ.l;have e5:=δ.lo;have m6:=δ.g1.m6;obtain⟨Z,χ⟩:∃Z,Z=M.prs2 (prs α) (prs β) m:=⟨_,rfl⟩;have h4:Z.length<=60:=by rw[χ];have:=M.prs2_few (prs α) (prs β) m;rw[aX,aX] at this;omega
 have e3:∀x∈Z,x < 2 ^ (α.length + β.length):=λx hx=>by
  rw[χ] at hx;have:=M.prs2_lt hx;rwa [aX,aX] at this
 have ο:∀x∈Z,x < 2 ^ 1000:=λx hx=>hA (e3 x hx) (hL @C @A);have c1:∀x r,M.tr2 (jnp α β) x r < 2 ^ 1000:=λx r=>hA (M.tr2_lt _ _ _) (hL @C (by rw[Lg];omega))
 have ρ:∀{x r:Nat},(x=0∨x∈Z)->r < 2 ^ m->M.Span Z (M.tr2 (jnp α β) x r):=λhx ι=>by
  rw[χ] at hx ⊢;exact vF (q:=0) hx ι
 have e6:(1:Int) * 2 ^ ((α.length:Int).toNat) - 1=((2 ^ α.length - 1:Nat):Int):=by rw[shl1];have:=qb α.length;omega
 refine⟨_,((af (cc (PW.pt (kZ (aJ zM (aH (K:=K) rfl (pv 0) rfl) (aH (K:=K) rfl (pv 1) rfl) (aU _)) (jG (aJ zM (bB (pv 0) T.aI T.lB (kl T) (hr.mono @C) T.c6.2 .nil cJ) (bB (pv 1) T.aI T.lB (kl T) (hr.mono @C) T.c6.2 .nil cJ) (aU _))))) (aj jH) aL)
  (af (aA (i:=2) gA.nd rfl @E (ao (vK T) hr T.yH T.iN (!j 0 (!j 1 ae))))
  (af (cc (aJ QY (pv 2) Ks (aU _)) (aj (ay (pv 2))) aL)
  (af (aA (i:=3) gA.nd rfl @E (ao (ur T) hr T.wQ T.h9 (!j 0 (!j 1 ae))))
  (af (eO (osc:=ah jr) (ON:=n21) (N:=["which","pairs","one","other"]) (n:=1) (fx:=[3,0,1]) (i:=4) gA.nd rfl rfl rfl rfl rfl rfl @I (dA @D T.gD (aa (aH (K:=K) rfl (pv 0) rfl) ae)) (aP @C) (λ_ _ _ _ _=>⟨(ar (i:=0) (show ox (["which","pairs","one","other"]:B1) from by decide +kernel) rfl @E),bh,(!A @H (ao (yY T) hr T.BM T.n4 (!j 1 (aa (ao (kg T) hr T.me T.gO (!j 2 (!j 3 (aa ai (aa (ax gS ai (pv 0)) ae))))) ae))) ai)⟩))
  (af (eO (osc:=ah jr) (ON:=n21) (N:=["pair","pairs","one","other"]) (n:=1) (fx:=[3,0,1]) (i:=5) gA.nd rfl rfl rfl rfl rfl rfl @I (aR (K:=K) rfl (pv 3)) (aP @C) (λ_ _ _ _ _=>⟨(ar (i:=0) (show ox (["pair","pairs","one","other"]:B1) from by decide +kernel) rfl @E),bh,(!A @H (ao (yY T) hr T.BM T.n4 (!j 1 (aa (ao (kg T) hr T.me T.gO (!j 2 (!j 3 (!j 0 (aa ai ae))))) ae))) ai)⟩))
  (af (aA (i:=6) gA.nd rfl @E (bB (pv 0) T.aI T.dy (cX T) (hr.mono @C) T.bz.2 .nil cJ))
  (af (eO (osc:=ah jr) (ON:=n21) (N:=["pair","width"]) (n:=1) (fx:=[6]) (i:=7) gA.nd rfl rfl rfl rfl rfl rfl @I (aR (K:=K) rfl (pv 3)) (aP @C) (λ_ _ _ _ _=>⟨(ar (i:=0) (show ox (["pair","width"]:B1) from by decide +kernel) rfl @E),bh,(eP (aa (ax nG (pv 0) (ax lh (ax gS ai (pv 1)) ai)) (aa (ax yX (pv 0) (pv 1)) ae)))⟩))
  (aj (ay (eP (aa cD (!j 7 (!j 4 (!j 5 ae)))))))))))))))),av (σ':=[ag _,ag _,fy,fy,fy,fy,fy,fy]) rfl ?_⟩
 lia;refine aG a0 T.aI T.bL rfl ?_;lia;refine aG φ T.aI T.bL rfl ?_;lia;dsimp only;rw[n' @F];lia;refine aS a0 rfl ?_;lia;refine⟨p1,m,α,γ,rfl,δ.a1,?_⟩;lia;refine aS φ rfl ?_;lia;refine⟨p2,m,β,ξ,rfl,δ.a2,?_⟩;lia;dsimp only;rw[n' (by rw[e5];simp)];lia;refine⟨p1,p2,m,α,γ,β,ξ,rfl,δ,λal H1 s1=>?_,λw' t' ζ tt H1 s1 e1=>?_⟩
 ·lia;refine⟨p1,p2,m,α,γ,β,ξ,rfl,δ.same s1,λD H2 f2 s2 e2=>?_⟩;rw[<-χ] at e2;have L:=s1.trans s2;lia;refine aG (L.get a0) T.aI T.bL rfl ?_;lia;rw[pY];intro τ e0;refine gW (λj ys H'=>Co (λj=> .lst ((M.pl 1000 (sfq Z (M.tr2 (jnp α β) 0 (2 ^ j)))).map nat)) H2 τ j ys H') (xv e0) (λi ys H' hi c=>?_) (λys H3 c=>?_)
  ·have c':=c;obtain⟨_,_,_,_,_,sB,_⟩:=c';have a5:=L.trans sB;have b3:2 ^ i < 2 ^ m:=V7 @C hi;lia;rw[XO,shl1];refine⟨p1,p2,m,α,γ,β,ξ,0,2 ^ i,rfl,δ.same a5,qb _,b3,λH6 ε=>?_⟩;lia;refine⟨D,Z,_,rfl,ε.get (sB.get e2),@A,ο,c1 _ _,.inl (ρ (.inl rfl) b3),λt7 π H7 O f7 s7 e7 b6 sd=>?_,λt7 H7 mk s7 e7 bd=>hB (ρ (.inl rfl) b3) bd.ns⟩;lia;exact Cq e0 c (ε.trans s7) (ε.free f7) (by rw[b6,JO sd]) @A
  obtain⟨bs,rfl,e8,e4,ω,c2,f1⟩:=c;have a6:=L.trans c2;have c0:=c2.get e2;lia;intro D4 d2;refine bf (xs:=Z.map nat) (λj ys H'=>Co (λj=> .lst ((M.pl 1000 (sfq Z (M.tr2 (jnp α β) (Z.getD j 0) 0))).map nat)) H3 D4 j ys H') (xv d2) (λj ys H' _ ⟨_,_,_,_,_,s',_⟩=>SqL.of (s'.get c0)) (λj v ys H' hv c=>?_) (λys H4 c=>?_)
  ·obtain⟨y,hy,rfl⟩:=aF hv;have hj:=(b'.mp hy).1;have a7:=f' hy;have a8:Z.getD j 0=y:=by rw[eY,hy];rfl
   have c':=c;obtain⟨_,_,_,_,_,sB,_⟩:=c';have a5:=a6.trans sB;lia;refine⟨p1,p2,m,α,γ,β,ξ,y,0,rfl,δ.same a5,e3 y a7,qb _,λH6 ε=>?_⟩;lia;refine⟨D,Z,_,rfl,ε.get (sB.get c0),@A,ο,c1 _ _,.inl (ρ (.inr a7) (qb _)),λt7 π H7 O f7 s7 e7 b6 sd=>?_,λt7 H7 mk s7 e7 bd=>hB (ρ (.inr a7) (qb _)) bd.ns⟩;lia;exact Cq d2 c (ε.trans s7) (ε.free f7) (by rw[b6,JO sd,a8]) @A
  obtain⟨us,rfl,c4,f5,k4,a4,η⟩:=c;rw[a'] at c4;have c3:=a6.trans a4;have f4:=a4.get c0;lia;refine aS (c3.get a0) rfl ?_;lia;refine⟨p1,m,α,γ,rfl,δ.a1.same c3,?_⟩;lia;intro D5 d1;refine bf (xs:=Z.map nat) (λj ys H'=>Co (λj=> .tup [nat (M.lo α.length (Z.getD j 0)),nat (Z.getD j 0>>>α.length)]) H4 D5 j ys H') (xv d1) (λj ys H' _ ⟨_,_,_,_,_,s',_⟩=>SqL.of (s'.get f4)) (λj v ys H' hv c=>?_) (λys H5 c=>?_)
  ·obtain⟨y,hy,rfl⟩:=aF hv;have hj:=(b'.mp hy).1;have a8:Z.getD j 0=y:=by rw[eY,hy];rfl
   lia;rw[e6,eK,JN];intro t9 H9 f9 s9 e9;exact Cq d1 c s9 f9 (by rw[e9,a8];rfl) @A
  obtain⟨ts,rfl,c5,f8,ψ,ν,f0⟩:=c;rw[a'] at c5;lia;intro tt H6 f6 ε f3;have a3:=ν.trans ε;have υ:=a4.trans a3;subst χ;exact q1 al tt D5 τ D4 ts bs us H6 (a6.trans υ) ⟨f3,ε.get f0,c5,λj d h=>by rw[aX];exact ε.get (f8 j d h),υ.get f1,e8,λj d h=>υ.get (e4 j d h),a3.get η,c4,λj d h=>a3.get (f5 j d h)⟩
 ·lia;exact θ w' t' ζ tt H1 s1 e1
end
section
variable {P:oT} {w:w7} {K:ak} {mg:CM} {base:N'} {a:Ad}
local macro_rules | `(tactic| walk_at "l2step") =>`(tactic| first | ((with_reducible refine' dw ?e ?_);(case e=>walk_at "l2kind")) | ((with_reducible refine' fX ?e ?_);(case e=>walk_at "l2kind")) | (with_reducible refine cb ?_) | (with_reducible refine dD ?_))
local macro_rules | `(tactic| walk_at "l2step") =>`(tactic| first | (with_reducible refine JT ?_))
local macro_rules | `(tactic| walk_at "l2step") =>`(tactic| first | (with_reducible refine vx ?_))
local macro_rules | `(tactic| walk_at "l2step") =>`(tactic| first | (with_reducible refine qG ?_) | (with_reducible refine s_tryH ?_) | (with_reducible refine A4 ?_) | (with_reducible refine A3 ?_))
local macro_rules | `(tactic| walk_at "l2step") =>`(tactic| first | (with_reducible refine zC ?_) | (with_reducible refine qJ ?_))
theorem Bh (T:Tx K mg a):FnOk P w K mg base CX0 2 a.gI a.xj ["net"] (NG (NAof a)):=by
 refine T.mq.1.okA nc fun υ A outer s H vs Q E ο h=>?_;obtain⟨p,N,od,rfl,na,q⟩:=h;have g:=na.g;have θ:=Bo g;obtain⟨_,_,_,_,_,_,_,_,_,_,hp,_⟩:=na.ho
 refine⟨_,((af (aA (i:=1) nc.nd rfl @E (bB (pv 0) T.du T.gy (fO T) (ο.mono @C) T.b8.2 .nil cJ))
  (af (eO (osc:=ah jy) (ON:=["net","known","names"]) (N:=["number"]) (n:=1) (fx:=[]) (i:=2) nc.nd rfl rfl rfl rfl rfl rfl @I (dA @D T.gD (aa (ax cE (aC (aK (K:=K) rfl) @D T.eX lJ (!j 1 ae)) ai) ae)) (aP @C) (λ_ _ _ _ _=>⟨(ar (i:=0) (show ox (["number"]:B1) from by decide +kernel) rfl @E),bh,(ax iz cD (aV kB @D T.KN WZ (!j 0 ae)))⟩))
  (aj (ay (!A (bM (K:=K) rfl) (b9 (osc:=ah jy) (ON:=["net","known","names"]) (N:=["name","known"]) (n:=1) (fx:=[1]) rfl rfl rfl @I (aR (K:=K) rfl (pv 2)) (aP @C) (λ_ _ _ _ _=>⟨(ar (i:=0) (show ox (["name","known"]:B1) from by decide +kernel) rfl @E),(nE (aJ (Be (K:=K) rfl) (pv 0) (pv 1) @D)),(pv 0)⟩)) ai)))))),av (σ':=[ag _,fy,fy]) rfl ?_⟩
 lia;refine aS hp rfl ?_;lia;refine⟨p,N,od,rfl,na,λD H1 ψ η ρ=>?_⟩;lia;rw[a',show((N.names.length:Int) + 1)=((N.names.length + 1:Nat):Int) by omega];lia;rw[pY];intro χ γ;refine gW (λi ys H'=>Cs (λi ys=>ys=(frns i).map V.str) H1 χ i ys H') (Cs.zero γ rfl) (λi ys H' hi c=>?_) (λys H2 c=>?_)
 ·lia;rw[XO];refine⟨RJ @A,"c",tx i,rfl,rfl,PJ @I @A,?_⟩;refine Cs.put γ c.same c.at' c.len @A ?_;rw[c.pv,LH,fI];rfl
 have ε:=c.at';rw[c.pv] at ε;have β:=c.same;clear c;have α:=β.get ρ;lia;intro τ Z;refine bf (xs:=(frns (N.names.length + 1)).map V.str) (λi ys H'=>Cs (λi ys=>ys=(((frns (N.names.length + 1)).take i).filter λz=> !decide (z∈N.names)).map V.str) H2 τ i ys H') (Cs.zero Z rfl) (λi ys H' _ c=>SqL.of (c.same.get ε)) (λi v ys H' ν c=>?_) (λys φ c=>?_)
 ·obtain⟨z,hz,rfl⟩:=aF ν;have hi:=(b'.mp hz).1;rw[FG] at hi;have ξ:=c.same.get α;lia;refine⟨D,_,rfl,.inl (SqL.of ξ),rfl,by rw[Wc];intro x ι;obtain⟨y,_,rfl⟩:=ik.mp ι;rfl,?_⟩;refine⟨_,rfl,?_⟩;by_cases L:z∈N.names
  ·have O:(if true=true then !inV (V.str z) (N.names.map V.str) else inV (V.str z) (N.names.map V.str))=false:=by rw[qq rfl,qe.mpr L];rfl
   dsimp only;rw[n' (by rw[O];decide)];refine Cs.skip c.same c.at' c.len ?_;have e:[z].filter (λz=> !decide (z∈N.names))=[]:=by rw[XJ,hG L];rfl
   rw[c.pv,take_succ hz,Wu,e,Wr]
  ·have O:(if true=true then !inV (V.str z) (N.names.map V.str) else inV (V.str z) (N.names.map V.str))=true:=by
    rw[qq rfl,Yx,<-ZM];exactλh=>L (qe.mp h)
   dsimp only;rw[qq O];lia;refine Cs.put Z c.same c.at' c.len @A ?_;have e:[z].filter (λz=> !decide (z∈N.names))=[z]:=by rw[XJ,gz L];rfl
   rw[c.pv,take_succ hz,Wu,e,fI];rfl
 have δ:=c.at';rw[c.pv,a',pT] at δ;have ζ:=c.same;clear c
 obtain⟨z,zs,Y⟩:∃z zs,((frns (N.names.length + 1)).filter λz=> !decide (z∈N.names))=z::zs:=by
  cases e:((frns (N.names.length + 1)).filter λz=> !decide (z∈N.names)) with
  | nil=>exact hB e (LJ N.names @A (ov _))
  | cons z zs=>exact⟨z,zs,rfl⟩
 have hz:=WB.mp (show z∈((frns (N.names.length + 1)).filter λz=> !decide (z∈N.names)) by rw[Y];exact wq);rw[Y] at δ;have π:atI ((z::zs).map V.str) 0=ag (.str z):=d9 (j:=0) rfl;lia;obtain⟨k,hk,rfl⟩:=ik.mp hz.1;exact q _ φ (Us ⟨k,by have:=V2.mp hk;omega⟩) (by simpa using hz.2) (η.trans (β.trans ζ))
theorem kh (T:Tx K mg a):FnOk P w K mg base (CX1 P w) 13 a.gJ a.xk ["net","wire"] (JF (NAof a) a.aW a.cf):=by
 refine T.dn.1.okX AX (λvs H Q E h=>?_) (λc2 A outer s H vs Q E ρ h=>?_)
 ·obtain⟨p,N,od,v,k,rfl,_⟩:=h;rfl
 ·obtain⟨p,N,od,v,k,rfl,na,th,ht,qN,qW⟩:=h;have g:=na.g;have li:=g.li;refine⟨_,((aj (ay (ao (DM T) ρ T.Hz T.oI (aa (ao (l9 T) ρ T.oB T.iH (!j 0 ae)) (aa (ao (l9 T) ρ T.oB T.iH (aa (hX (Pj T) (ρ.mono @C) @D T.Uq T.EU.1.2 T.EU.2 .nil cQ (!j 0 (!j 1 (aa (ao (Bh T) ρ T.Ek T.mq (!j 0 ae)) ae)))) ae)) ae)))))),av (σ':=[ag _,ag _]) rfl ?_⟩;lia;refine⟨p,N,od,rfl,na,λx1 H1 ε γ f1 s1 a8 O φ χ=>?_⟩;lia;refine⟨p,N,od,rfl,na.same s1,λz H2 nz hz s2=>?_⟩;have L:=s1.trans s2;have l1:ε.length=N.sts.length:=by have:=ri y1 φ;rw[aX,a',a'] at this;exact this
  have lo1:γ.length=N.outs.length:=by have:=ri y1 χ;rw[aX,a'] at this;exact this
  lia;refine⟨p,N,od,v,.str z,k,"str",rfl,na.same L,th.same L,.str z (by have:=nz.len;omega),λb6 H3 dx tl=>qN b6 H3 dx (tl.pre th L),fun ι hw ev hn=>hB (show Bp (.str z)=true from nz) (by rw[hn];decide),fun ι hw ev z' ξ e=>hB ξ (by rw[<-V.str.inj e];exact hz),fun ι hw ev z' e c0 ξ=>?_⟩;have e:=V.str.inj e;subst e;obtain⟨qM,qR⟩:=qW ι hw ev;refine⟨λhm H3 s3=>qM hm H3 (L.trans s3),λhm n H3 a6 fn s3 η=>?_⟩;obtain⟨qA,qF⟩:=qR hm;have g2:=η.g;have ν:=L.trans s3;have a5:=s2.trans s3;lia;refine⟨n,cutN N ι z,a6,rfl,η,λx2 H4 δ α f4 s4 a7 τ ψ ω=>?_⟩;have υ:=Jc g hz g2 η.tp;have θ:prs ε=(tbN N).1:=φ;have a3:prs γ=(tbN N).2:=χ;have ο:prs δ=(tbC N ι).1:=by rw[<-υ];exact ψ
  have a0:prs α=(tbC N ι).2:=by rw[<-υ];exact ω
  have b3:δ.length=N.sts.length:=by have:=ri y1 ψ;rw[aX,a',a'] at this;rw[this];exact a' ..
  have c1:α.length=N.outs.length:=by have:=ri y1 ω;rw[aX,a'] at this;rw[this];exact a' ..
  lia;refine⟨x1,x2,N.ins.length,ε,γ,δ,α,rfl,⟨a8.same (a5.trans s4),O,a7,τ,@A,@A⟩,λal t Z Db Y ts bs us H5 s5 a4=>?_,λw2 π ζ tt H5 s5 β=>?_⟩
  ·rw[θ,a3,ο,a0,l1,b3] at al;rw[θ,ο] at a4;exact qA al t Z Db Y ts bs us H5 (ν.trans (s4.trans s5)) a4
  ·rw[θ,a3,ο,a0] at ζ;exact qF w2 π ζ tt H5 (ν.trans (s4.trans s5)) β
end
section
variable {P:oT} {w:w7} {K:ak} {mg:CM} {base:N'} {a:Ad}
local macro_rules | `(tactic| walk_at "l2step") =>`(tactic| first | ((with_reducible refine' dw ?e ?_);(case e=>walk_at "l2kind")) | ((with_reducible refine' fX ?e ?_);(case e=>walk_at "l2kind")) | (with_reducible refine cb ?_) | (with_reducible refine dD ?_))
local macro_rules | `(tactic| walk_at "l2step") =>`(tactic| first | (with_reducible refine JT ?_))
local macro_rules | `(tactic| walk_at "l2step") =>`(tactic| first | (with_reducible refine vx ?_))
local macro_rules | `(tactic| walk_at "l2step") =>`(tactic| first | (with_reducible refine qG ?_) | (with_reducible refine s_tryH ?_) | (with_reducible refine A4 ?_) | (with_reducible refine A3 ?_))
theorem vM (T:Tx K mg a):FnOk P w K mg base CX0 1 a.dM a.o5 ["_law_lists","_law_wire"] Gk:=by
 refine T.iO.1.okA eZ λa5 A outer s H vs Q E hr h=>?_;obtain⟨t,i,s,u,o,rs,qs,N,γ,rfl,et,hn,g,q⟩:=h;have ht:=hn.t;have ls:=g.ls;have lt:=g.lt;have lo:=g.lo;have π:rs.length=N.sums.length:=by rw[<-hn.es,a']
 have ν:qs.length=N.sts.length:=by rw[<-hn.et,a']
 refine⟨_,((af (aA (i:=2) eZ.nd rfl @E (ax ke (b9 (osc:=ah iJ) (ON:=["_law_lists","_law_wire","_law_read","_law_name_here","_law_wires_here"]) (N:=n22) (n:=2) (fx:=[]) rfl rfl rfl @I (aR (K:=K) rfl (!A @H (pv 0) ai)) (BL (iL (aP @C) (iL (aP @C) wM))) (λ_ _ _ _ _=>⟨(vH (K:=K) (n:=2) rfl rfl (bA (ar (i:=0) (show ox (n22:B1) from by decide +kernel) rfl @E) (bA (ar (i:=1) (show ox (n22:B1) from by decide +kernel) rfl @E) iy))),bh,(pv 1)⟩)) (!A @H (pv 0) ai)))
  (af (de la rfl (aR (K:=K) rfl (!A @H (pv 0) ai)) (qU rfl (bA (ar (i:=3) eZ.nd rfl @E) (bA (ar (i:=4) eZ.nd rfl @E) iy))) (aj (aA (i:=2) eZ.nd rfl @E (ax ke (pv 2) (pv 4)))))
  (aj (ay (gb (Kz (K:=K) rfl) (pv 1) (pv 2) @D)))))),av (σ':=[ag _,ag _,fy,fy,fy]) rfl ?_⟩
 lia;intro ω Z;refine bf (xs:=qs.map λr=>V.ref r.1) (λi ys H'=>Cs (λi ys=>ys=((qs.take i).map (·.2.2)).map V.str) H ω i ys H') (Cs.zero Z rfl) (λi ys H' _ c=>SqL.of (c.same.get ht)) (λi x ys H' ι c=>?_) (λys H1 c=>?_)
 ·obtain⟨r,O,rfl⟩:=aF ι;have ο:=(b'.mp O).1;have ε:=c.same.get (hn.tr r (f' O));lia;refine Cs.put Z c.same c.at' c.len @A ?_;rw[c.pv,take_succ O,fI,fI];rfl
 have χ:=c.at';rw[c.pv,a',pT] at χ;have θ:=c.same;clear c;have a4:=θ.get et;lia;refine qO χ (θ.get hn.o) (by rw[a',a',a',lT];omega) λD2 H2 f2 s2 φ=>?_;rw[<-fI] at φ;have L:=θ.trans s2;have ξ:=L.get hn.s;have a3:=L.get et;lia;refine eQ (xs:=rs.map λr=>V.ref r.1) (λj σ H'=>∃(ζ δ:pa V) (β:dt),σ=[ag (.ref t),ag (.str γ),ag (.ref β),ζ,δ]/\Same H2 H'/\H' β=ag (.lst ((qs.map (·.2.2)++N.outs++((rs.take j).map (·.2.2.2)).flatten).map V.str))/\(qs.map (·.2.2)++N.outs++((rs.take j).map (·.2.2.2)).flatten).length<=22 + 24 * j) ⟨fy,fy,D2,rfl,Same.refl _,by rw[φ];simp,by simp;omega⟩ (λj σ H' _ ⟨_,_,_,_,s',_⟩=>SqL.of (s'.get ξ)) ?_ ?_
 ·rintro j y σ H' hy ⟨ζ,δ,β,rfl,s',α,lD⟩;obtain⟨r,O,rfl⟩:=aF hy;have ο:=(b'.mp O).1;have hm:=f' O;have Y:=L.trans s';have ε:=Y.get (hn.sr r hm).1;have ew:=Y.get (hn.sr r hm).2;have a0:=g.lw r.2.2 (by rw[<-hn.es];exact ik.mpr ⟨r,hm,rfl⟩)
  have η:qs.map (·.2.2)++N.outs++((rs.take (j + 1)).map (·.2.2.2)).flatten=(qs.map (·.2.2)++N.outs++((rs.take j).map (·.2.2.2)).flatten)++r.2.2.2:=by
   rw[take_succ O,fI,List.flatten_append,VW,VW,VW];simp
  lia;refine qO α ew (by rw[a',a',lT];omega) fun τ H3 f3 ψ υ=>?_;rw[<-fI,<-η] at υ;lia;exact⟨_,_,τ,rfl,s'.trans ψ,υ,by rw[η,gs];omega⟩
 ·rintro σ H' ⟨ζ,δ,β,rfl,s',α,lD⟩;rw[a',pT] at α
  have ρ:qs.map (·.2.2)++N.outs++(rs.map (·.2.2.2)).flatten=rdl N:=by
   unfold rdl;rw[<-hn.et,<-hn.es,y2,y2];rfl
  rw[ρ] at α;lia;refine⟨β,_,rfl,.inl (SqL.of α),rfl,by rw[Wc];intro x ι;obtain⟨y,_,rfl⟩:=ik.mp ι;rfl,?_⟩
  have eb:(if false=true then !inV (V.str γ) ((rdl N).map V.str) else inV (V.str γ) ((rdl N).map V.str))=decide (γ∈rdl N):=by
   rw[n' @C,Wz,V9];exact qe
  rw[eb];exact q H' (L.trans s')
theorem nH (T:Tx K mg a):FnOk P w K mg base CX0 14 a.dJ a.o4 ["_law_net_one","_law_name_here"] (Gj (NAof a)):=by
 refine T.gm.1.okA g0 fun θ A outer s H vs Q E ε h=>?_;obtain⟨p,N,od,v,k,rfl,na,th,γ,q⟩:=h;have β:=sI ε;have g:=na.g
 refine⟨_,((af (aA (i:=2) g0.nd rfl @E (cL (aa cD ae)))
  (af (Tu (i:=3) ⟨rfl,rfl⟩ thr0 T.Oh @D T.FF g0.nd rfl rfl (λ_ _=>(aj (bu (hX (kh T) (ε.mono @C) @D T.mf T.dn.1.2 T.dn.2 .nil cQ (!j 0 (!j 1 ae)))))) (λ_ _=>(aj (aA (i:=2) g0.nd rfl @E (QV (K:=K) rfl (pv 3) rfl)))))
  (aj (ay (gb (zN (K:=K) rfl β) (pv 2) (pv 1) (aU _))))))),av (σ':=[ag _,ag _,fy,fy]) rfl ?_⟩
 lia;intro ω H1 ξ Y ο;lia;refine⟨p,N,od,v,k,rfl,na.same Y,th.same Y,g.lt,λ_ H2 dx tl=>?_,fun ζ hw ev=>hB ev (γ ζ hw)⟩;obtain⟨ν,tl,cp⟩:=tl;refine NM T.jF λx ι τ α=>?_;have υ:=RG τ tl.2 α;have L:=IZ τ α;have O:=tl.1.trans L;have δ:=cp.same L;lia;refine NL υ T.OP T.wL T.rp rfl ?_;lia;refine SQ ?_;lia;obtain⟨d,η,Z,hd⟩:=δ.rep (K:=K) O;refine A5 Z η @A ?_;rw[oE];exact q ι (Y.trans O)
end
section
variable {P:oT} {w:w7} {K:ak} {mg:CM} {base:N'} {a:Ad}
local macro_rules | `(tactic| walk_at "l2step") =>`(tactic| first | ((with_reducible refine' dw ?e ?_);(case e=>walk_at "l2kind")) | ((with_reducible refine' fX ?e ?_);(case e=>walk_at "l2kind")) | (with_reducible refine cb ?_) | (with_reducible refine dD ?_))
local macro_rules | `(tactic| walk_at "l2step") =>`(tactic| first | (with_reducible refine JT ?_))
local macro_rules | `(tactic| walk_at "l2step") =>`(tactic| first | (with_reducible refine vx ?_))
local macro_rules | `(tactic| walk_at "l2step") =>`(tactic| first | (with_reducible refine qG ?_) | (with_reducible refine s_tryH ?_) | (with_reducible refine A4 ?_) | (with_reducible refine A3 ?_))
local macro_rules | `(tactic| walk_at "l2step") =>`(tactic| first | (with_reducible refine zC ?_) | (with_reducible refine qJ ?_))
theorem Bi (T:Tx K mg a):FnOk P w K mg base CX0 15 a.gL a.xn ["_law_lists"] (Nu (NAof a)):=by
 refine T.mr.1.okA ff λd2 A outer s H vs Q E hr h=>?_;obtain⟨t,i,s,u,o,rs,qs,N,c,rfl,et,hn,g,a0,c1,q⟩:=h;have a7:=sI hr;have hs:=hn.s;have π:rs.length=N.sums.length:=by rw[<-hn.es,a']
 refine⟨_,((af (aA (i:=1) ff.nd rfl @E (aV (cZ (K:=K) rfl) @D T.gT oD (aa (!A @H (pv 0) ai) ae)))
  (af (de la rfl (dA @D T.gD (aa (ax lh ai (aC (aK (K:=K) rfl) @D T.eX lJ (!j 1 ae))) ae)) (ar (i:=2) ff.nd rfl @E) (aj (bu (iR (K:=K) rfl vr LI K' eB (pv 1) (aa (eP (aa (ax iz (ax iz cD (aV kB @D T.KN WZ (!j 2 ae))) cD) (aa (cL ae) ae))) ae)))))
  (af (aA (i:=3) ff.nd rfl @E (zK T.RU (jL T) (hr.mono @C) @D T.Rr T.eL.2 .nil thr0 (aa (!A @H (pv 0) ai) (!j 1 (aa (!A @H (pv 0) ai) (aa (!A @H (pv 0) ai) ae))))))
  (af (aA (i:=4) ff.nd rfl @E l8)
  (af (QR ⟨rfl,rfl⟩ thr0 T.Lq @D T.BU (λ_ _=>(aj (bu (hX (kh T) (hr.mono @C) @D T.mf T.dn.1.2 T.dn.2 .nil cQ (!j 3 (aa (!A @H (!A (bM (K:=K) rfl) (pv 1) ai) ai) ae)))))) (λ_ _=>(aj (aA (i:=4) ff.nd rfl @E l8))))
  (af (aA (i:=5) ff.nd rfl @E (cL (aa cD (aa Ks (aa ai (aa (cL ae) (aa cD ae)))))))
  (aj (ay (oU (pv 4) (tV (gb (zN (K:=K) rfl a7) (b9 (osc:=ah lZ) (ON:=["_law_lists","_law_sums","_law_k","_law_net_one","_law_refused","_law_some"]) (N:=["_law_thing","_law_net_one"]) (n:=1) (fx:=[3]) rfl rfl rfl @I (aR (K:=K) rfl (pv 5)) (aP @C) (λ_ _ _ _ _=>⟨(ar (i:=0) (show ox (["_law_thing","_law_net_one"]:B1) from by decide +kernel) rfl @E),(nE (fW (cK (ao (nH T) hr T.oY T.gm (!j 1 (!j 0 ae)))))),(pv 0)⟩)) (cL ae) (aU _))))))))))))),av (σ':=[ag _,fy,fy,fy,fy,fy]) rfl ?_⟩
 lia;intro ψ H1 f1 s1 e1;lia;rw[a',show(40:Int) - (rs.length:Int)=((40 - rs.length:Nat):Int) by omega];obtain⟨n,Y⟩:∃n,n=40 - rs.length:=⟨_,rfl⟩;rw[<-Y];lia;refine lE (λj σ H'=>∃(v2:pa V) (γ:ee Rw),σ=[ag (.ref t),ag (.ref ψ),v2,fy,fy,fy]/\γ.map (·.2.2)=flrs j/\RwLs H' γ/\(∀r∈γ,r.2.1≠ψ)/\Same H H'/\H' ψ=ag (.lst ((rs++γ).map λr=>V.ref r.1))) ⟨fy,[],rfl,rfl,λ_ h=>hB h @F,λ_ h=>hB h @F,s1,by rw[Wr];exact e1⟩ ?_ ?_
 ·rintro j σ H' hj ⟨v2,γ,rfl,Z,rl,rd,s',eD⟩;have c2:j < 40:=by omega
  have b3:γ.length=j:=by have:=ri y1 Z;rw[a',va] at this;exact this
  lia;rw[XO];refine⟨RJ @A,"n",tx j,rfl,rfl,PJ @I @A,?_⟩;lia;refine⟨flen @A,?_⟩;lia;intro ζ H6 f6 s6 e6;lia;intro tr H7 f7 s7 e7;have α:=s6.trans s7;have ξ:=α.get eD;have nB:ζ≠ψ:=λzz=>by rw[zz,eD] at f6;cases f6
  lia;refine g6 ξ (by rw[a',gs];exact aZ @A) λH8 τ=>?_;lia;refine⟨_,γ++[(tr,ζ,fln j,[])],rfl,by rw[fI,Z,LM];rfl,fun η h2=>?_,fun η h2=>?_,λb ob e=>τ.oth _ _ (aq e f1) (α.get (s'.get e)),by rw[τ.at',<-VW,fI (l₁:=rs++γ)];rfl⟩
  ·rcases gF.mp h2 with h | h
   ·have t1:=α.get (rl η h).1;exact⟨τ.oth _ _ (cn t1 ξ λz=>by cases z) t1,τ.oth _ _ (rd η h) (α.get (rl η h).2)⟩
   ·rw[gn] at h;subst h;exact⟨τ.oth _ _ (cn e7 ξ λz=>by cases z) e7,τ.oth _ _ nB (s7.get e6)⟩
  ·rcases gF.mp h2 with h | h
   ·exact rd η h
   ·rw[gn] at h;subst h;exact nB
 ·rintro σ H' ⟨v2,γ,rfl,Z,rl,rd,s',eD⟩;rw[pY] at Z;have ω:=hn.same s';have c5:=s'.get et;have φ:Gn (fil N n):=g.fil a0 @A
  have c3:(fil N n).sums.length=40:=by
   unfold fil;show(N.sums++flrs n).length=40;rw[gs,va];omega
  have ν:Hnd2 H' i ψ u o (rs++γ) qs (fil N n):=⟨ω.i,eD,λr ι=>by
   rcases gF.mp ι with h | h
   ·exact⟨(ω.sr r h).1,.inl (ω.sr r h).2⟩
   ·exact⟨(rl r h).1,.inl (rl r h).2⟩,by rw[fI,Z,hn.es];rfl,ω.t,ω.tr,ω.et,ω.o⟩
  lia;intro x dx H2 f2 s2 e2;refine⟨x,dx,i,ψ,u,o,rs++γ,qs,fil N n,rfl,e2,ν.same s2,φ.li,λ_ H3 od k3 na=>⟨rfl,?_⟩,λhb=>hB φ.ls @A,.inl φ⟩;have ε:Same H' H3:=λb ob e=>k3 _ _ (aq e f2) (s2.get e);have a3:=s'.trans ε
  obtain⟨ο,rest,ρ⟩:∃ο rest,rs++γ=ο::rest:=by
   cases e:rs++γ with
   | nil=>
     have:=ri y1 Z;have e2:=ri y1 e;rw[a',va] at this;rw[gs,Xp] at e2;omega
   | cons a b=>exact⟨a,b,rfl⟩
  have c0:=ε.get eD;rw[ρ] at c0;have d1:=ε.get (ν.sr ο (by rw[ρ];exact wq)).1;have c4:atI ((ο::rest).map λr=>V.ref r.1) 0=ag (.ref ο.1):=d9 (j:=0) rfl
  have δ:ο.2.2.1∈(fil N n).names:=by
   unfold Nt.names;refine hQ _ (i' _ ?_);rw[<-ν.es,ρ];exact wq
  have a8:=(φ.nm _ δ).len;lia;refine⟨x,fil N n,od,.str ο.2.2.1,"str",rfl,na,.sc (.str _ @A),φ.lt,fun θ=>hB rfl (θ _ δ),λw' hw ev=>⟨λhm H4 s4=>?_,λhm=>hB hm @A⟩⟩;refine JZ T.iw ?_;lia;intro Bn H5 f5 s5 β;lia;intro Bl H6 f6 s6 e6;have υ:=s4.trans (s5.trans s6);have a6:=na.same υ;have a5:=φ.bigA;have a4:=a0.nobF (n:=n) @A;lia;intro D7 b6;refine bf (xs:=[V.str "nobody",V.non,V.int 7,V.ref Bn,V.str "A"]) (λj ys H'=>Cs (λj ys=>ys=[]) H6 D7 j ys H') (Cs.zero b6 rfl) (λj ys H' _ c=>SqL.of (c.same.get e6)) (λj v ys H' O c=>?_) (λys H7 c=>?_)
  ·have χ:∃kd,Thg2 H' v kd/\∀z∈(fil N n).names,v≠.str z:=by
    match j,O with
    | 0,O=>cases O;exact⟨_,.sc (.str _ @I),λz hz e=>a4 (by rw[V.str.inj e];exact hz)⟩
    | 1,O=>cases O;exact⟨_,.sc .non,λz hz e=>by cases e⟩
    | 2,O=>cases O;exact⟨_,.sc (.int _),λz hz e=>by cases e⟩
    | 3,O=>cases O;exact⟨_,.nil (c.same.get (s6.get β)),λz hz e=>by cases e⟩
    | 4,O=>cases O;exact⟨_,.sc (.str _ @I),λz hz e=>a5 (by rw[V.str.inj e];exact hz)⟩
    | j + 5,O=>simp at O
   obtain⟨kd,th,θ⟩:=χ;lia;refine⟨x,fil N n,od,v,kd,rfl,a6.same c.same,th,θ,λH8 L=>?_⟩;lia;exact Cs.skip (c.same.trans L) (L.get c.at') c.len c.pv
  have e7:=c.at';rw[c.pv] at e7;have s7:=c.same;clear c;lia;intro B8 H8 f8 L e8;refine A5 (Rep.lst (ds:=[]) (SqL.of (L.get e7)) rfl λi x d h=>by simp at h) (Rep.lst (ds:=[]) (SqL.of e8) rfl λi x d h=>by simp at h) @C ?_;rw[oE];exact q H8 (a3.trans (υ.trans (s7.trans L)))
end
section
variable {P:oT} {w:w7} {K:ak} {mg:CM} {base:N'} {a:Ad}
local macro_rules | `(tactic| walk_at "l2step") =>`(tactic| first | ((with_reducible refine' dw ?e ?_);(case e=>walk_at "l2kind")) | ((with_reducible refine' fX ?e ?_);(case e=>walk_at "l2kind")) | (with_reducible refine cb ?_) | (with_reducible refine dD ?_))
theorem zR (T:Tx K mg a):FnOk P w K mg base CX0 2 a.fB a.qj ["_law_cell_here","_law_k"] Jz:=by
 refine T.eh.1.okA dZ λZ A outer s H vs Q E L h=>?_;obtain⟨c,rfl,q⟩:=h
 refine⟨_,((af (aA (i:=2) dZ.nd rfl @E cD)
  (af (aA (i:=3) dZ.nd rfl @E cD)
  (af (aA (i:=3) dZ.nd rfl @E (ax iz (pv 3) cD))
  (af (cc (PW.pt (Km (aJ DJ (pv 1) ai (aU _)) (DB (aJ mR (ax cP (ao (cM T) L T.bJ T.bj (!j 0 (aa ai ae))) ai) ai (aU _))))) (aj (ay (!A (bM (K:=K) rfl) (iR (K:=K) rfl ac2 ac1 ac0 Fu (pv 3) (aa cD ae)) (ax cP (ax cE (pv 1) (ao (cM T) L T.bJ T.bj (!j 0 (aa ai ae)))) ai)))) aL)
  (aj (ay (ax iz (!A Lh (pv 2) (ax cP (ao (cM T) L T.bJ T.bj (!j 0 (aa ai ae))) ai)) (aV kB @D T.KN WZ (aa (ax cE (ax cP (ao (cM T) L T.bJ T.bj (!j 0 (aa ai ae))) ai) (ax oV ai (pv 1))) ae)))))))))),av (σ':=[ag _,ag _,fy,fy]) rfl ?_⟩
 lia;refine⟨@I,?_⟩;lia;generalize hw:((_:mu)++_)=words;have hm:=tu (mixV c 400) (show(0:Int) < 26 by decide);have O:=x7 (mixV c 400) (show(26:Int)≠0 by decide);have ζ:=tu (mixV c 401) (show(0:Int) < 1000 by decide);have ρ:=x7 (mixV c 401) (show(1000:Int)≠0 by decide);refine⟨c,400,rfl,@C,@C,?_⟩;lia;refine QH @I (y4 _ O hm) ?_;lia;refine⟨c,401,rfl,@C,@C,?_⟩;lia;have hn:(mixV c 401 % 1000 + 37 * 90).natAbs < 10 ^ 4:=by omega
 have π:(mixV c 401 % 1000 + 37 * 90).natAbs.log2 < 1920:=by
  exact(Zc @A).mpr (hA hn (WK (by decide:10 ^ 4<=2 ^ 14) (hL @C @C)))
 have Y:=XC π;refine⟨π,?_⟩;refine⟨_,_,rfl,rfl,by rw[lT];have:(⟨#[97 + (mixV c 400 % 26).toNat]⟩:mu).length=1:=rfl;omega,?_⟩;have e:(mixV c 401 % 1000 + 37 * 90)=(((mixV c 401 % 1000).toNat + 3330:Nat):Int):=by omega
 have ν:=q H (Same.refl _);unfold nm9 at ν;rw[e];exact ν
end
section
variable {P:oT} {w:w7} {K:ak} {mg:CM} {base:N'} {a:Ad}
local macro_rules | `(tactic| walk_at "l2step") =>`(tactic| first | ((with_reducible refine' Mg ?a ?b ?_);(case a=>walk_at "l2side");(case b=>walk_at "l2side")) | ((with_reducible refine' xx ?e ?a ?_);(case e=>walk_at "l2hp");(case a=>walk_at "l2side")))
theorem zE {K:ak} {H:Hp} {D:dt} {ws:B1} (h:H D=ag (.lst (ws.map V.str))):Rep K H (.ref D) (.lst (ws.map Dt.str)):= .lst (SqL.of h) (by rw[a',a']) (vD V.str Dt.str (λz=> .str z) ws)
theorem Ex:∀ws:B1,ml (ws.map Dt.str)=0
 | []=>rfl
 | w::ws=>by rw[W5,ml,Ex ws];rfl
theorem FH (ws:B1):eqD (.lst (ws.map Dt.str)) (.lst [])=decide (ws=[]):=by
 cases ws with
 | nil=>rfl
 | cons w l=>rw[gz @F];rfl
theorem zO (T:Tx K mg a):FnOk P w K mg base CX0 2 a.fw a.ub ["_law_cell_here","_law_start","_law_names","_law_digits"] Jv:=by
 refine T.kC.1.okA fL λa5 A outer s H vs Q E π h=>?_;obtain⟨c,st,l,zs,dg,rfl,a0,ω,hl,Y,q⟩:=h;have ξ:=sI π;have θ:(((zs.map V.str).length:Nat):Int)=(zs.length:Int):=by rw[a']
 refine⟨_,((af (cc (cK (pv 3)) (af (aA (i:=4) fL.nd rfl @E (ax cP (pv 0) (ax TM (ax cE (aC (aK (K:=K) rfl) @D T.eX lJ (!j 2 ae)) ai) ai)))
  (af (aA (i:=5) fL.nd rfl @E (cL ae))
  (af (de la rfl (dA @D T.gD (aa ai ae)) (ar (i:=6) fL.nd rfl @E) (Kp (cc (aJ qZ (ax cP (pv 4) (ax cE (aC (aK (K:=K) rfl) @D T.eX lJ (!j 2 ae)) ai)) ai (aU _)) (aj (bu (iR (K:=K) rfl vr LI K' eB (pv 5) (aa (!A (bM (K:=K) rfl) (pv 2) (ax lh (ax cP (pv 4) (ax cE (aC (aK (K:=K) rfl) @D T.eX lJ (!j 2 ae)) ai)) ai)) ae)))) aL)
  (aj (aA (i:=4) fL.nd rfl @E (ax vJ (pv 4) (ax cE (aC (aK (K:=K) rfl) @D T.eX lJ (!j 2 ae)) ai))))))
  (aj (ay (pv 5)))))) aL)
  (af (aA (i:=7) fL.nd rfl @E (ax cP (ao (cM T) π T.bJ T.bj (!j 0 (!j 1 ae))) ai))
  (aj (ay (b9 (osc:=ah kb) (ON:=["_law_cell_here","_law_start","_law_names","_law_digits","_law_left","_law_found","_law_k","_law_many"]) (N:=n26) (n:=1) (fx:=[2,0,1]) rfl rfl rfl @I (dA @D T.gD (!j 7 ae)) (aP @C) (λ_ _ _ _ _=>⟨(ar (i:=0) (show ox (n26:B1) from by decide +kernel) rfl @E),(nE (aJ (DI (K:=K) rfl ξ) (pv 1) (cL ae) (aU _))),(!A (bM (K:=K) rfl) (pv 1) (ax cP (ao (cM T) π T.bJ T.bj (!j 2 (aa (ax cE (ax cE (pv 3) ai) (pv 0)) ae))) (aC (aK (K:=K) rfl) @D T.eX lJ (!j 1 ae))))⟩))))))),av (σ':=[ag _,ag _,ag _,ag _,fy,fy,fy,fy]) rfl ?_⟩
 have ε:(0:Int) < ((((zs.map V.str).length:Nat):Int) + 1) ^ (4:Int).toNat:=Int.pow_pos @A;have ν:(0:Int) < (((zs.map V.str).length:Nat):Int) + 1:=by omega
 lia;cases dg with
 | true=>
   lia;generalize c % ((((zs.map V.str).length:Nat):Int) + 1) ^ (4:Int).toNat=left;clear ε;intro D H1 ψ χ e1;have hl1:=χ.get hl;lia;refine lE (λi σ H'=>∃(v:pa V) (left:Int) (ws:B1),σ=[ag (V.int c),ag (V.int st),ag (V.ref l),ag (V.bl true),ag (V.int left),ag (V.ref D),v,fy]/\Same H H'/\H' D=ag (.lst (ws.map V.str))/\ws.length<=i/\∀w∈ws,w∈zs) ⟨fy,left,[],rfl,χ,e1,ov _,λ_ h=>hB h @F⟩ ?_ ?_
   ·rintro i σ H' hi ⟨v,left,ws,rfl,s',γ,lw,hw⟩;have ζ:=s'.get hl;have a4:i < 4:=hi;lia;refine L2.s_cut (fun σ H2=>∃O:B1,σ=[ag (V.int c),ag (V.int st),ag (V.ref l),ag (V.bl true),ag (V.int left),ag (V.ref D),ag (V.int (0 + (i:Int))),fy]/\Same H H2/\H2 D=ag (.lst (O.map V.str))/\O.length<=i + 1/\∀w∈O,w∈zs) ?_ ?_
    ·have ο:=x7 left (Int.ne_of_gt ν);have r1:=tu left ν;lia;by_cases ρ:0 < left % ((((zs.map V.str).length:Nat):Int) + 1)
     ·refine pK (hG ρ) ?_;obtain⟨j,τ⟩:=W8 (show 0<=left % ((((zs.map V.str).length:Nat):Int) + 1) - 1 by omega);have L:j < zs.length:=by omega
      have υ:atI (zs.map V.str) (left % ((((zs.map V.str).length:Nat):Int) + 1) - 1)=ag (.str zs[j]):=by
       rw[τ];exact d9 (by rw[kf,eF L];rfl)
      lia;refine g6 γ (by rw[a',lT];omega) λH3 φ=>?_;lia;refine⟨ws++[zs[j]],rfl,λb o e=>φ.oth _ _ (aq e ψ) (s'.get e),by rw[φ.at',fI];rfl,by rw[gs];show _ + 1<=_;omega,λw Z=>?_⟩;rcases gF.mp Z with h | h
      ·exact hw w h
      ·rw[gn.mp h];exact Wn L
     ·refine j9 (gz ρ) ?_;lia;exact⟨ws,rfl,s',γ,@A,hw⟩
    ·rintro σ H2 ⟨O,rfl,δ,β,η,Z⟩;have hl2:=δ.get hl;lia;exact⟨_,_,O,rfl,δ,β,η,Z⟩
   ·rintro σ H' ⟨v,left,ws,rfl,s',γ,lw,hw⟩;lia;exact q D H' ws ψ s' γ lw hw
 | false=>
   have m0:=x7 (mixV c st) (show(5:Int)≠0 by decide);have m1:=tu (mixV c st) (show(0:Int) < 5 by decide);lia;intro D α;refine gW (λi ys H'=>∃ws:B1,ys=ws.map V.str/\Same H H'/\H' D=ag (.lst ys)/\ws.length<=i/\∀w∈ws,w∈zs) ⟨[],rfl,bK α,aD,ov _,λ_ h=>hB h @F⟩ ?_ ?_
   ·rintro i ys H' hi ⟨ws,rfl,s',γ,lw,hw⟩;have ζ:=s'.get hl;lia;intro L2 H2 f2 δ e2;have hl2:=δ.get ζ;have β:=δ.get γ;refine A5 (zE hl2) (zE (ws:=[]) e2) (by rw[depD,Ex];decide) ?_;rw[show(Y5 Dt.str [])=[] from rfl,FH];by_cases hz:zs=[]
    ·rw[hG hz];lia;exact⟨s'.trans δ,β,@A,hw⟩
    ·rw[gz hz];have a3:0 < zs.length:=XY.mpr hz;have ι:(0:Int) < (((zs.map V.str).length:Nat):Int):=by omega
     lia;obtain⟨j,τ,L⟩:=iM (c:=mixV c (st + 1 + (0 + (i:Int)))) ι;have L:j < zs.length:=by omega
     have υ:atI (zs.map V.str) (mixV c (st + 1 + (0 + (i:Int))) % (((zs.map V.str).length:Nat):Int))=ag (.str zs[j]):=by
      rw[τ];exact d9 (by rw[kf,eF L];rfl)
     lia;refine⟨β,by rw[a'];exact aZ @A,ws++[zs[j]],by rw[fI];rfl,λb o e=>?_,aD,by rw[gs];show _ + 1<=_;omega,λw Z=>?_⟩
     ·rw[aE (aq e α)];exact δ.get (s'.get e)
     ·rcases gF.mp Z with h | h
      ·exact hw w h
      ·rw[gn.mp h];exact Wn L
   ·rintro ys H' ⟨ws,rfl,s',γ,lw,hw⟩;exact q D H' ws α s' γ @A hw
end
section
variable {P:oT} {w:w7} {K:ak} {mg:CM} {base:N'} {a:Ad}
theorem AB {H:Hp} {Q:VK} {E:XK} {c k:Int} (h0:0<=k) (h1:k < 40) (q:∀H2,Same H H2->Q (.str (nmf c k)) H2):yT [.int c,.int k] H Q E:=⟨c,k,rfl,h0,h1,q⟩
local macro_rules | `(tactic| walk_at "l2step") =>`(tactic| first | (with_reducible refine cb ?_) | ((with_reducible refine' Mg ?a ?b ?_);(case a=>omega);(case b=>omega)) | ((with_reducible refine' xx ?e ?a ?_);(case e=>walk_at "l2hp");(case a=>walk_at "l2side")))
theorem DN (T:Tx K mg a):FnOk P w K mg base CX0 3 a.iE a.ze ["_law_script","_law_start","_law_most"] (Nr K):=by
 have fS:=@cM P w K mg base a T;refine T.oJ.1.okA bw λw2 A outer s H vs Q E χ h=>?_;obtain⟨p,ns,st,mo,rfl,hS,v1,v2,q⟩:=h;have r4:=sI χ
 refine⟨_,((af (aA (i:=3) bw.nd rfl @E (ao (tX T) χ T.wW T.j6 (!j 0 (!j 1 ae))))
  (af (aA (i:=4) bw.nd rfl @E (cL (aa (ax cP (ao fS χ T.bJ T.bj (!j 3 (aa ai ae))) ai) (aa (ax cP (ao fS χ T.bJ T.bj (!j 3 (aa ai ae))) (ax cE (pv 2) ai)) (aa (ax cP (ao fS χ T.bJ T.bj (!j 3 (aa ai ae))) (ax cE (pv 2) ai)) ae)))))
  (af (eO (osc:=ah jt) (ON:=n23) (N:=n18) (n:=1) (fx:=[3]) (i:=5) bw.nd rfl rfl rfl rfl rfl rfl @I (dA @D T.gD (aa (!A (bM (K:=K) rfl) (pv 4) ai) ae)) (aP @C) (λ_ _ _ _ _=>⟨(ar (i:=0) (show ox (n18:B1) from by decide +kernel) rfl @E),bh,(ao (ki T) χ T.jT T.eh (!j 1 (!j 0 ae)))⟩))
  (af (eO (osc:=ah jt) (ON:=n23) (N:=n18) (n:=1) (fx:=[3]) (i:=6) bw.nd rfl rfl rfl rfl rfl rfl @I (dA @D T.gD (aa (!A (bM (K:=K) rfl) (pv 4) ai) ae)) (aP @C) (λ_ _ _ _ _=>⟨(ar (i:=0) (show ox (n18:B1) from by decide +kernel) rfl @E),bh,(ao (ki T) χ T.jT T.eh (!j 1 (aa (ax cE ai (pv 0)) ae)))⟩))
  (af (aA (i:=7) bw.nd rfl @E (ax ke (pv 5) (pv 6)))
  (af (aA (i:=8) bw.nd rfl @E (cL ae))
  (af (de la rfl (dA @D T.gD (aa (!A (bM (K:=K) rfl) (pv 4) ai) ae)) (ar (i:=9) bw.nd rfl @E) (af (aA (i:=10) bw.nd rfl @E (ao (zO T) χ T.BP T.kC (aa (ao (tX T) χ T.wW T.j6 (!j 0 (aa (ax cE (ax cE (pv 1) ai) (pv 9)) ae))) (aa ai (!j 7 (aa (gb mR (ax cP (pv 3) ai) ai (aU _)) ae))))))
  (af (bu (iR (K:=K) rfl vr LI K' eB (pv 8) (aa (eP (aa (ao (ki T) χ T.jT T.eh (!j 3 (aa (ax cE ai (pv 9)) ae))) (!j 10 ae))) ae)))
  (aj (aA (i:=7) bw.nd rfl @E (ax ke (pv 7) (cL (aa (ao (ki T) χ T.jT T.eh (!j 3 (aa (ax cE ai (pv 9)) ae))) ae))))))))
  (af (aA (i:=11) bw.nd rfl @E (ax cP (ao fS χ T.bJ T.bj (!j 3 (aa ai ae))) (ax cE (aC (aK (K:=K) rfl) @D T.eX lJ (!j 8 ae)) ai)))
  (af (aA (i:=8) bw.nd rfl @E (ax ke (jg (lR (K:=K) rfl) (pv 8) (jI (pv 11)) pU) (GQ @D @D T.gT T.G3 rfl (jg (lR (K:=K) rfl) (pv 8) pU (jI (pv 11))))))
  (af (aA (i:=12) bw.nd rfl @E (cL ae))
  (af (de la rfl (qT (K:=K) rfl @D T.fi (pv 6)) (qU rfl (bA (ar (i:=9) bw.nd rfl @E) (bA (ar (i:=13) bw.nd rfl @E) iy))) (aj (bu (iR (K:=K) rfl vr LI K' eB (pv 12) (aa (eP (!j 13 (aa (!A (bM (K:=K) rfl) (pv 7) (ax cP (ao fS χ T.bJ T.bj (!j 3 (aa (ax cE ai (pv 9)) ae))) (aC (aK (K:=K) rfl) @D T.eX lJ (!j 7 ae)))) ae))) ae)))))
  (af (aA (i:=14) bw.nd rfl @E (cL ae))
  (Kp (cc (aJ (DI (K:=K) rfl r4) (pv 7) (cL ae) (aU _)) (aj (eO (osc:=ah jt) (ON:=n23) (N:=["_law_k","_law_known","_law_cell_here"]) (n:=1) (fx:=[7,3]) (i:=14) bw.nd rfl rfl rfl rfl rfl rfl @I (dA @D T.gD (aa (ax cP (ao fS χ T.bJ T.bj (!j 3 (aa ai ae))) ai) ae)) (aP @C) (λ_ _ _ _ _=>⟨(ar (i:=0) (show ox (["_law_k","_law_known","_law_cell_here"]:B1) from by decide +kernel) rfl @E),bh,(!A (bM (K:=K) rfl) (pv 1) (ax cP (ao fS χ T.bJ T.bj (!j 2 (aa (ax cE ai (pv 0)) ae))) (aC (aK (K:=K) rfl) @D T.eX lJ (!j 1 ae))))⟩))) aL)
  (aj (ay (eP (!j 5 (!j 8 (!j 12 (!j 14 ae))))))))))))))))))))),av (σ':=[ag _,ag _,ag _,fy,fy,fy,fy,fy,fy,fy,fy,fy,fy,fy,fy]) rfl ?_⟩
 lia;generalize v6:cell ns ((st:Nat):Int)=c at *
 intro Z H1 f1 s1 e1;obtain⟨ξ,m2,r2⟩:=iM (c:=mixV c 1) (m:=4) @C;obtain⟨ε,l2,r1⟩:=iM (c:=mixV c 2) (m:=(mo:Int) + 1) @A;obtain⟨nz,l1,O⟩:=iM (c:=mixV c 3) (m:=(mo:Int) + 1) @A;rw[m2,l2,l1] at e1;have b6:ξ<=3:=by omega
 have g4:ε<=12:=by omega
 have g3:nz<=12:=by omega
 have l0:nz<=mo:=by omega
 have n0:=Same.seq s1 hS;clear m2 l2 l1 r2 r1 O;lia;intro D2 γ;refine gW (λi ys H'=>Cs (λi ys=>ys=(nms c 0 i).map V.str) H1 D2 i ys H') (Cs.zero γ rfl) (λi ys H' hi α=>?_) (λys H2 α=>?_)
 ·have v5:i < 3:=by omega
  lia;refine AB @A @A λH3 s3=>?_;refine Cs.put γ (α.same.trans s3) (s3.get α.at') α.len @A ?_;rw[α.pv,ro,fI,show(0:Int) + (i:Int)=((0 + i:Nat):Int) by push_cast;rfl];rfl
 ·have e2:=α.at';rw[α.pv,pY] at e2;have a0:=α.same;clear α;have a3:=a0.get e1;lia;intro D3 h6;refine gW (λi ys H'=>Cs (λi ys=>ys=(nms c 6 i).map V.str) H2 D3 i ys H') (Cs.zero h6 rfl) (λi ys H' hi α=>?_) (λys H3 α=>?_)
  ·have r7:i < 12:=by omega
   lia;refine AB @A @A λH4 s4=>?_;refine Cs.put h6 (α.same.trans s4) (s4.get α.at') α.len @A ?_;rw[α.pv,ro,fI,show(6:Int) + (0 + (i:Int))=((6 + i:Nat):Int) by push_cast;omega];rfl
  ·have e3:=α.at';rw[α.pv,pY] at e3;have c2:=α.same;clear α;lia;refine qO (c2.get e2) e3 (by rw[a',a',fh,fh,lT];omega) λD4 H4 f4 s4 ρ=>?_;rw[<-fI] at ρ;have c3:=a0.trans (c2.trans s4);have q4:=c3.get e1;have q2:=s4.get (c2.get e2);have p6:=s4.get e3;have h4:=Same.seq c3 n0;have c5:=s1.trans c3;clear a3 γ h6 f1 f4 a0 c2 s4 c3 e1 e2 e3 n0 s1;lia;intro D5 H5 f5 s5 e5;have u3:=s5.get q4;have q7:=c5.trans s5;have t1:H D5=none:=c5.free f5;lia;refine lE (λi σ H'=>∃(v9 b3:pa V) (π:dt) (rs:ee Rw),σ=[ag (V.ref p),ag (nat st),ag (nat mo),ag (V.int c),ag (V.ref Z),ag (V.ref D2),ag (V.ref D3),ag (V.ref π),ag (V.ref D5),v9,b3,fy,fy,fy,fy]/\Same H4 H'/\H' π=ag (.lst ((nms c 0 ξ++nms c 6 ε++nms c 22 i).map V.str))/\π≠D5/\H' D5=ag (.lst (rs.map λr=>V.ref r.1))/\RwL H' rs/\(∀r∈rs,r.2.1≠D5)/\Mk c ξ ε (rs.map (·.2.2))/\rs.length=i) ⟨fy,fy,D4,[],rfl,s5,by rw[show nms c 22 0=[] from rfl,Wr];exact s5.get ρ,aq ρ f5,e5,λ_ h=>hB h @F,λ_ h=>hB h @F,Mk.nil ..,rfl⟩ ?_ ?_
   ·rintro i σ H' hi ⟨v9,b3,π,rs,rfl,s',ek,nk,eD,rl,nr,mk,lr⟩;have r7:i < 12:=by omega
    have h5:=Same.seq s' h4;lia;refine⟨_,10,π,_,_,rfl,@C,@C,ek,by rw[gs,gs,fh,fh,fh];omega,λDw H6 ws f6 s6 e6 l4 hw=>?_⟩;have e0:=s6.get eD;lia;refine AB @A @A λH7 s7=>?_;lia;intro tr H8 f8 L e8;have ω:=s7.trans L;have d2:=ω.get e0;have η:=ω.get (s6.get ek);have n3:=ω.get e6;lia;refine g6 d2 (by rw[a',lT];omega) λH9 u9=>?_;have nw:Dw≠D5:=(aq eD f6).symm;have a4:Same H4 H9:=λb o e=>u9.oth _ _ (aq e f5) (ω.get (s6.get (s'.get e)));have c0:=u9.oth _ _ nk η;have ζ:=u9.oth _ _ (cn e8 d2 λz=>by cases z) e8;have t4:=u9.oth _ _ nw n3;have d1:RwL H9 rs:=λr χ=>⟨u9.oth _ _ (cn ((rl.same s6).same ω r χ).1 d2 λz=>by cases z) ((rl.same s6).same ω r χ).1,u9.oth _ _ (nr r χ) ((rl.same s6).same ω r χ).2⟩;have o0:=u9.at';clear u9 e8 n3 η d2 ω s7 L f8 e0 e6 h5;lia;refine AB @A @A λu8 c4=>?_;lia;intro Y u7 t2 ι k4;have δ:=c4.trans ι;refine qO (δ.get c0) k4 (by rw[a',gs,gs,fh,fh,fh,lT];show _ + 1<=_;omega) λv0 k6 n2 a0 a3=>?_;have ψ:=δ.trans a0;have ei:(22:Int) + (0 + (i:Int))=((22 + i:Nat):Int):=by push_cast;omega
    rw[ei] at a3 ζ
    have t7:(nms c 0 ξ++nms c 6 ε++nms c 22 i).map V.str++[V.str (nmf c ((22 + i:Nat):Int))]=(nms c 0 ξ++nms c 6 ε++nms c 22 (i + 1)).map V.str:=by
     rw[ro,<-VW,fI (l₂:=[_])];rfl
    rw[t7] at a3;lia;refine⟨_,_,v0,rs++[(tr,Dw,nmf c ((22 + i:Nat):Int),ws)],rfl,a4.trans ψ,a3,(aq (δ.get o0) n2).symm,by rw[ψ.get o0,fI];rfl,λr χ=>?_,λr χ=>?_,?_,by rw[gs,lr];rfl⟩
    ·rcases gF.mp χ with h | h
     ·exact d1.same ψ r h
     ·rw[gn] at h;subst h;exact⟨ψ.get ζ,ψ.get t4⟩
    ·rcases gF.mp χ with h | h
     ·exact nr r h
     ·rw[gn] at h;subst h;exact nw
    ·have lm:(rs.map (·.2.2)).length=i:=by rw[a',lr]
     have:=mk.put (ws:=ws) l4 (by rw[lm];exact hw);rw[lm] at this;rw[fI];exact this
   ·rintro σ H' ⟨v9,b3,π,rs,rfl,s',ek,nk,eD,rl,nr,mk,lr⟩;rw[pY] at lr;rw[pY] at ek;have f0:=s'.get q2;have q1:=s'.get p6;have h5:=Same.seq s' h4;have k7:=c5.trans s';obtain⟨j,hj,v3⟩:=iM (c:=mixV c 4) (m:=(((rs.map λr=>V.ref r.1).length:Nat):Int) + 1) @A;have k8:(rs.map λr=>V.ref r.1).length=rs.length:=a' ..
    have φ:j<=rs.length:=by omega
    clear q4 q2 p6 ρ e5 h4 c5 q7 s5 f5 t1 u3;lia;rw[hj];intro D6 H6 f6 s6 e6;rw[OC _ j (by rw[k8];exact φ),<-an4] at e6;have e0:=s6.get eD;lia;refine SH ?_;lia;intro D7 H7 f7 s7 e7;rw[FO _ j (by rw[k8];exact φ),<-YG] at e7;refine⟨D7,_,rfl,SqL.of e7,λD8 f8=>?_⟩;rw[<-List.map_reverse];have L:=bK (o:=HO.lst ((rs.take j).reverse.map λr=>V.ref r.1)) f8;have e8:upd H7 D8 (HO.lst ((rs.take j).reverse.map λr=>V.ref r.1)) D8=ag (HO.lst ((rs.take j).reverse.map λr=>V.ref r.1)):=aD;generalize upd H7 D8 (HO.lst ((rs.take j).reverse.map λr=>V.ref r.1))=H8 at L e8 ⊢;refine qO (L.get (s7.get e6)) e8 (by rw[a',a',ai0,XI,sv,lT];omega) λD9 H9 f9 s9 e9=>?_;rw[<-fI] at e9;have a4:=s6.trans (s7.trans (L.trans s9));have u2:=a4.get f0;have p0:=a4.get q1;have c0:=a4.get ek;have d1:=rl.same a4;have q6:=k7.trans a4
    have perm:(rs.drop j++(rs.take j).reverse).Perm rs:=by
     refine Yy (XG _ (List.reverse_perm _)) ?_;refine Yy Xv ?_;rw[X2]
    generalize k9:rs.drop j++(rs.take j).reverse=rs' at e9 perm;have q9:RwL H9 rs':=λr χ=>d1 r (perm.mem_iff.mp χ);clear d1 rl L e8 e7 f7 f8 s7 e6 f6 s6 s9 f9 a4 f0 q1 eD e0 nr nk s' k7 h5 ek k9;lia;intro f2 u8 t3 c4 u5;have q0:=c4.get p0;lia;refine .inl ⟨⟨_,SqL.of q0⟩,?_⟩;have lk:(nms c 0 ξ++nms c 6 ε++nms c 22 nz).length=ξ + ε + nz:=by rw[gs,gs,fh,fh,fh]
    generalize r5:nms c 0 ξ++nms c 6 ε++nms c 22 nz=τ at c0 lk;refine u0 (xs:=(nms c 6 ε).map V.str) (λi σ H'=>∃(v9 c1:pa V) (qs:ee Qs),σ=[ag (V.ref p),ag (nat st),ag (nat mo),ag (V.int c),ag (V.ref Z),ag (V.ref D2),ag (V.ref D3),ag (V.ref π),ag (V.ref D9),v9,b3,ag (V.int j),ag (V.ref f2),c1,fy]/\Same H9 H'/\H' f2=ag (.lst (qs.map λq=>V.ref q.1))/\QsK H' qs/\qs.map (·.2.1)=nms c 6 i/\∀q∈qs,q.2.2∈τ) ⟨_,fy,[],rfl,c4,u5,λ_ h=>hB h @F,rfl,λ_ h=>hB h @F⟩ (λi σ H' _ ⟨_,_,_,_,s',_⟩=>SqL.of (s'.get p0)) ?_ ?_
    ·rintro i y σ H' pz H7 hy ⟨v9,c1,qs,rfl,s',eq,qk,qn,qw⟩ fp s7 e7;obtain⟨z,hz,rfl⟩:=aF hy;have m3:=(b'.mp hz).1;rw[fh] at m3
     have ez:z=nmf c ((6 + i:Nat):Int):=by
      unfold nms at hz;rw[kf,W6 m3] at hz;exact(vu hz).symm
     have lq:qs.length=i:=by have:=ri y1 qn;rw[a',fh] at this;exact this
     have v8:=s7.get (s'.get c0);have θ:(τ.map V.str).length=ξ + ε + nz:=by rw[a',lk]
     have j0:=s7.get eq;lia;obtain⟨m,hm,a6⟩:=iM (c:=mixV c (50 + (i:Int))) (m:=(((τ.map V.str).length:Nat):Int)) @A;have a6:m < τ.length:=by rw[a'] at a6;omega
     have s0:atI (τ.map V.str) (mixV c (50 + (i:Int)) % (((τ.map V.str).length:Nat):Int))=ag (.str τ[m]):=by
      rw[hm];exact d9 (by rw[kf,eF a6];rfl)
     lia;intro tq H8 f8 L e8;lia;refine g6 (L.get j0) (by rw[a',lT];omega) λw5 u9=>?_;lia;refine⟨_,_,qs++[(tq,z,τ[m])],rfl,λb o e=>u9.oth _ _ (aq e t3) (L.get (s7.get (s'.get e))),by rw[u9.at',fI];rfl,?_,?_,fun ν a7=>?_⟩
     ·intro ν a7;rcases gF.mp a7 with h | h
      ·exact((qk.same s7).same L).updL (L.get j0) u9.oth ν h
      ·rw[gn] at h;subst h;exact u9.oth _ _ (cn e8 (L.get j0) λz=>by cases z) e8
     ·rw[fI,qn,ro,ez];rfl
     ·rcases gF.mp a7 with h | h
      ·exact qw ν h
      ·rw[gn] at h;subst h;exact Wn a6
    ·rintro σ H' ⟨v9,c1,qs,rfl,s',eq,qk,qn,qw⟩;rw[a',fh] at qn;have t9:=s'.get c0;have f0:=s'.get u2;have u1:=s'.get e9;have q8:=q9.same s';lia;intro Y u7 t2 ι k4;lia;refine L2.s_cut (fun σ H2=>∃(υ:dt) (outs:B1),σ=[ag (V.ref p),ag (nat st),ag (nat mo),ag (V.int c),ag (V.ref Z),ag (V.ref D2),ag (V.ref D3),ag (V.ref π),ag (V.ref D9),v9,b3,ag (V.int j),ag (V.ref f2),c1,ag (V.ref υ)]/\Same H' H2/\H2 υ=ag (.lst (outs.map V.str))/\outs.length<=3/\∀z∈outs,z∈τ) ?_ ?_
     ·have n7:=ι.get t9;lia;intro w3 k6 n2 a0 a3;have ο:=a0.get n7;refine A5 (zE ο) (zE (ws:=[]) a3) (by rw[depD,Ex];decide) ?_;rw[show(Y5 Dt.str [])=[] from rfl,FH];have f3:=ι.trans a0;have j1:=a0.get k4;by_cases hz:τ=[]
      ·rw[hG hz];lia;exact⟨Y,[],rfl,f3,j1,VY _,λ_ h=>hB h @F⟩
      ·rw[gz hz];have m0:=x7 (mixV c 5) (show(4:Int)≠0 by decide);have m1:=tu (mixV c 5) (show(0:Int) < 4 by decide);have a8:1<=τ.length:=XY.mpr hz;have θ:(τ.map V.str).length=τ.length:=a' ..
       lia;intro q5 h0;refine gW (λi ys H2=>∃ws:B1,ys=ws.map V.str/\Same k6 H2/\H2 q5=ag (.lst ys)/\ws.length=i/\∀w∈ws,w∈τ) ⟨[],rfl,bK h0,aD,rfl,λ_ h=>hB h @F⟩ ?_ ?_
       ·rintro i ys H2 hi ⟨ws,rfl,s2,eD,lw,hw⟩;have w1:=s2.get ο;have v4:i < 4:=by omega
        lia;obtain⟨m,hm,a6⟩:=iM (c:=mixV c (80 + (0 + (i:Int)))) (m:=(((τ.map V.str).length:Nat):Int)) @A;have a6:m < τ.length:=by omega
        have s0:atI (τ.map V.str) (mixV c (80 + (0 + (i:Int))) % (((τ.map V.str).length:Nat):Int))=ag (.str τ[m]):=by
         rw[hm];exact d9 (by rw[kf,eF a6];rfl)
        lia;refine⟨eD,by rw[a'];exact aZ @A,ws++[τ[m]],by rw[fI];rfl,λb o e=>?_,aD,by rw[gs,lw];rfl,λw r3=>?_⟩
        ·rw[aE (aq e h0)];exact s2.get e
        ·rcases gF.mp r3 with h | h
         ·exact hw w h
         ·rw[gn.mp h];exact Wn a6
       ·rintro ys H2 ⟨ws,rfl,s2,eD,lw,hw⟩;lia;exact⟨q5,ws,rfl,f3.trans s2,eD,@A,hw⟩
     ·rintro σ k6 ⟨υ,outs,rfl,a0,a3,lo,ho⟩;have q3:=a0.get f0;lia;intro tt u6 v7 h3 u4;have a5:=a0.trans h3;have a8:(rs.map (·.2.2)).length=nz:=by rw[a',lr]
      subst r5
      have aT:∀ν∈qs.map (·.2),ν.2∈nms c 0 ξ++nms c 6 ε++nms c 22 (rs.map (·.2.2)).length:=fun ν a7=>by
       obtain⟨r0,β,rfl⟩:=ik.mp a7;rw[a8];exact qw r0 β
      have aO:∀z∈outs,z∈nms c 0 ξ++nms c 6 ε++nms c 22 (rs.map (·.2.2)).length:=by rw[a8];exact ho
      have aN:(qs.map (·.2)).map (·.1)=nms c 6 ε:=by rw[y2];exact qn
      refine q tt D2 D9 f2 υ u6 rs' qs ⟨nms c 0 ξ,rs'.map (·.2.2),qs.map (·.2),outs⟩ (q6.trans (s'.trans a5)) u4 ⟨h3.get q3,a5.get u1,λr χ=>q8.same a5 r χ,rfl,a5.get eq,fun ν a7=>qk.same a5 ν a7,rfl,h3.get a3⟩ (KO mk b6 g4 (by rw[a8];exact g3) (perm.map _) aN @A aT aO) (by show(nms c 0 ξ).length<=3;rw[fh];exact b6) (by show(rs'.map (·.2.2)).length<=mo;rw[(perm.map _).length_eq,a8];exact l0) (Ra mk b6 g4 (by rw[a8];exact g3) (perm.map _) aN @A aT aO)
end
section
variable {P:oT} {w:w7} {K:ak} {mg:CM} {base:N'} {a:Ad}
local macro_rules | `(tactic| walk_at "l2step") =>`(tactic| first | ((with_reducible refine' dw ?e ?_);(case e=>walk_at "l2kind")) | ((with_reducible refine' fX ?e ?_);(case e=>walk_at "l2kind")) | (with_reducible refine cb ?_) | (with_reducible refine dD ?_))
theorem Ot (ws:B1):eqD (.lst (ws.map strD)) (.lst [])=decide (ws=[]):=by
 cases ws with
 | nil=>rfl
 | cons w l=>rw[gz @F];rfl
local macro_rules | `(tactic| walk_at "l2step") =>`(tactic| first | (with_reducible refine zC ?_) | (with_reducible refine qJ ?_) | ((with_reducible refine' xx ?e ?a ?_);(case e=>walk_at "l2hp");(case a=>walk_at "l2side")))
theorem TR (T:Tx K mg a):FnOk P w K mg base CX0 16 a.HE a.UF ["_law_script"] (E9 K):=by
 refine T.OQ.okA qx λq3 A outer s H vs Q E hr h=>?_;obtain⟨p0,ns,rfl,hS,m2,q⟩:=h;have q0:=FC hr;have d1:=sI hr
 refine⟨_,((af (aA (i:=1) qx.nd rfl @E (ao (DN T) hr T.HA T.oJ (!j 0 (aa ai (aa ai ae)))))
  (af (aA (i:=2) qx.nd rfl @E (zK T.RU (jL T) (hr.mono @C) @D T.Rr T.eL.2 .nil thr0 (aa (!A @H (pv 1) ai) (aa (!A @H (pv 1) ai) (aa (!A @H (pv 1) ai) (aa (!A @H (pv 1) ai) ae))))))
  (af (aA (i:=3) qx.nd rfl @E (bB (pv 2) T.du T.gy (fO T) (hr.mono @C) T.b8.2 .nil cJ))
  (af (aA (i:=4) qx.nd rfl @E (ax ke (jg (lR (K:=K) rfl) (pv 0) (jI ai) (jI ai)) (cL (aa ai (aa ai ae)))))
  (af (de la rfl (aR (K:=K) rfl (ax ke (jg (lR (K:=K) rfl) (pv 0) (jI ai) (jI ai)) (cL (aa ai ae)))) (ar (i:=5) qx.nd rfl @E) (af (aA (i:=6) qx.nd rfl @E (ao (zR T) hr T.jT T.eh (!j 5 (aa ai ae))))
  (af (cc (PW.pt (kZ (aJ (zN (K:=K) rfl d1) (pv 3) (cL ae) (aU _)) (jG (aJ (Kz (K:=K) rfl) (pv 6) (pv 3) @D)))) (aj DE) aL)
  (af (aA (i:=7) qx.nd rfl @E (!A (bM (K:=K) rfl) (pv 3) (ax cP (pv 5) (aC (aK (K:=K) rfl) @D T.eX lJ (!j 3 ae)))))
  (af (aA (i:=8) qx.nd rfl @E (hX (kh T) (hr.mono @C) @D T.mf T.dn.1.2 T.dn.2 .nil thr0 (!j 2 (!j 7 ae))))
  (af (cc (fW (cK (ao (zQ T) hr T.BR T.kE (!j 8 (!j 2 (aa (hX (Pj T) (hr.mono @C) @D T.Uq T.EU.1.2 T.EU.2 .nil thr0 (!j 2 (!j 7 (!j 6 ae)))) (aa (aC (aK (K:=K) rfl) @D T.eX lJ (aa (!A @H (pv 1) ai) ae)) (!j 4 ae)))))))) (aj (ay l8)) aL)
  (aj (cc (PW.pt (kZ (PW.pt (Km (fW (cK (ao (vM T) hr T.yI T.iO (!j 1 (!j 7 ae))))) (DB (aJ zM (!A @H (pv 8) ai) cD (aU _))))) (jG (aJ (DI (K:=K) rfl d1) (hX (kh T) (hr.mono @C) @D T.mf T.dn.1.2 T.dn.2 .nil thr0 (!j 2 (!j 7 ae))) (pv 8) (aU _))))) (aj (ay l8)) aL))))))))
  (aj (ay (oU (ao (nH T) hr T.oY T.gm (!j 2 (aa cD ae))) (oU (gb (zN (K:=K) rfl d1) (bB (pv 2) T.du T.gy (fO T) (hr.mono @C) T.b8.2 .nil cJ) (pv 3) (aU _)) (tV (ao (Bi T) hr T.El T.mr (!j 1 ae))))))))))))),av (σ':=[ag _,fy,fy,fy,fy,fy,fy,fy,fy]) rfl ?_⟩
 lia;refine⟨p0,ns,0,6,rfl,hS,@C,@C,λt i s u o H1 rs qs N s1 et hn g p6 ε f3=>?_⟩;have h4:=Same.seq s1 hS;have n3:=Bo g;lia;intro x dx H2 f2 s2 e2;have Y:=hn.same s2;refine⟨x,dx,i,s,u,o,rs,qs,N,rfl,e2,⟨Y.i,Y.s,λr m=>⟨(Y.sr r m).1,.inl (Y.sr r m).2⟩,Y.es,Y.t,Y.tr,Y.et,Y.o⟩,g.li,λ_ H3 od k3 na=>⟨rfl,?_⟩,λhb=>hB ε @A,.inl g⟩;have ψ:Same H1 H3:=λb ob e=>k3 _ _ (aq e f2) (s2.get e);have h5:=ψ.get et;have g4:=hn.same ψ;have h3:=Same.seq ψ h4;obtain⟨_,_,_,_,_,_,_,_,_,_,hp,_⟩:=na.ho;clear k3 e2 s2 f2 Y h4;lia;refine aS hp rfl ?_;lia;refine⟨x,N,od,rfl,na,λDn H4 f4 s4 e4=>?_⟩;have h0:=Same.seq s4 h3;lia;intro Dx H5 f5 ο e5;lia;intro Dy H6 f6 s6 e6;obtain⟨ms,k4,n7⟩:=FP ns (ag 13) (ag 18);rw[k4] at e5;refine qO (s6.get e5) e6 (by rw[a',lT];simp only[V1,Xp];omega) λDc H7 f7 s7 e7=>?_;rw[show ms.map V.int++[V.int 6,V.int 9]=(ms++[6,9]).map V.int by rw[fI];rfl] at e7;have c4:=ο.trans (s6.trans s7);have θ:=Same.seq c4 h0;lia;intro Dz H8 f8 L e8;lia;intro D9 H9 f9 s9 e9;obtain⟨ks,k6,o0⟩:=FP ns (ag 8) (ag 12);rw[k6] at e8;refine qO (s9.get e8) e9 (by rw[a',lT];simp only[V1,Xp];omega) λDe m1 k7 f1 j0=>?_;rw[show ks.map V.int++[V.int 3]=(ks++[3]).map V.int by rw[fI];rfl] at j0;have a4:=L.trans (s9.trans f1);have a5:=c4.trans a4;have χ:=s4.trans a5;have O:=na.same χ;have b6:=g4.same χ;have c0:=χ.get h5;have c3:=a5.get e4;have τ:=a4.get e7;have π:=χ.get hp;clear e5 e6 e8 e9 L s9 f1 ο s6 s7 f5 f6 f7 f8 f9 k7 c4 a4 a5 χ e4 e7 hp na g4 h5 h3 h0 θ;lia;refine eQ (xs:=(ks++[3]).map V.int) (λj σ H'=>∃(v5 v6 v7 v8:pa V),σ=[ag (.ref p0),ag (.ref t),ag (.ref x),ag (.ref Dn),ag (.ref Dc),v5,v6,v7,v8]/\Same m1 H') ⟨fy,fy,fy,fy,rfl,Same.refl _⟩ (λj σ H' _ ⟨_,_,_,_,_,s'⟩=>SqL.of (s'.get j0)) ?_ ?_
 ·rintro j y σ H' hy ⟨v5,v6,v7,v8,rfl,s'⟩;obtain⟨c,hc,rfl⟩:=aF hy;lia;refine⟨c,rfl,λm0 ι=>?_⟩;have ν:=s'.trans ι;have h6:=ν.get c3;lia;intro Bx Hx fx sx ex;have c1:=ν.trans sx;have υ:=sx.get h6;refine A5 (zF υ) (Rep.lst (ds:=[]) (SqL.of ex) rfl λi x d h=>by simp at h) (by unfold depD;rw[Ay];decide) ?_;rw[Ot];by_cases a8:N.names=[]
  ·refine⟨true,by rw[hG a8];rfl,?_⟩;dsimp only;rw[qq rfl,qq rfl];exact⟨_,_,_,_,rfl,c1⟩
  refine⟨false,by rw[gz a8];rfl,?_⟩;dsimp only;rw[n' @C];lia;refine⟨Dn,_,rfl,.inl (SqL.of υ),rfl,by rw[Wc];intro x hx;obtain⟨y,_,rfl⟩:=ik.mp hx;rfl,?_⟩;refine⟨_,rfl,?_⟩;by_cases hz:nm9 c∈N.names
  ·have e0:(if false=true then !inV (V.str (nm9 c)) (N.names.map V.str) else inV (V.str (nm9 c)) (N.names.map V.str))=true:=qe.mpr hz;dsimp only;rw[qq e0];exact⟨_,_,_,_,rfl,c1⟩
  have e0:(if false=true then !inV (V.str (nm9 c)) (N.names.map V.str) else inV (V.str (nm9 c)) (N.names.map V.str))=false:=by
   rw[<-ZM];exactλh=>hz (qe.mp h)
  dsimp only;rw[n' (by rw[e0];decide)];have lp:0 < N.names.length:=XY.mpr a8;have ζ:(0:Int) < (((N.names.map V.str).length:Nat):Int):=by rw[a'];omega
  obtain⟨jj,hj,c2⟩:=iM (c:=c) (m:=(((N.names.map V.str).length:Nat):Int)) ζ;rw[a'] at c2;have c2:jj < N.names.length:=by omega
  obtain⟨w',g3⟩:∃w',N.names[jj]=w':=⟨_,rfl⟩;have hw:w'∈N.names:=by rw[<-g3];exact Wn c2
  have q1:atI (N.names.map V.str) (c % (((N.names.map V.str).length:Nat):Int))=ag (.str w'):=by
   rw[hj];exact d9 (by rw[kf,eF c2,g3];rfl)
  have ω:=(mY g).2;have l2:(tbC N w').1.length=N.sts.length:=by unfold tbC;rw[a',a']
  lia;refine Mh (O.same c1) g hw @A λtf l4 c5 fc=>?_;have Z:=c1.trans c5;lia;refine RK (O.same Z) g hw (T5 c) hz @A λn2 ξ j1 ψ a7=>?_;have a0:=Z.trans ψ;have m3:=a0.get c0;have n0:=a0.get b6.i;have k8:=Jc g hz a7.g a7.tp;lia;rw[a'];refine⟨tf,x,n2,Dc,N,cutN N w' (nm9 c),od,j1,ms++[6,9],rfl,(fc.same ψ).r k8,a0.get τ,by rw[gs];simp only[V1,Xp];omega,⟨O.same a0,a7,rfl,a' ..⟩,λq5 f0=>?_⟩;have φ:=a0.trans f0;lia;refine⟨t,i,s,u,o,rs,qs,N,w',rfl,φ.get c0,b6.same φ,g,λq4 e3=>?_⟩;have ρ:=φ.trans e3;have a3:=ψ.trans (f0.trans e3);by_cases d2:w'∈rdl N
  ·rw[hG d2];lia;refine Mh (O.same ρ) g hw @A fun α l0 a6 e1=>?_;lia;obtain⟨d,r1,η,hd⟩:=FndC.two (K:=K) ω l2 e1 ((fc.same a3).same a6);refine A5 r1 η hd ?_;refine⟨false,by rw[oE];rfl,?_⟩;dsimp only;rw[n' @C];lia;exact⟨_,_,_,_,rfl,ρ.trans a6⟩
  ·rw[gz d2];obtain⟨δ,γ,β⟩:=QP d2;obtain⟨b1,b2,b3,ea⟩:=FndC.unread (Jb g O.tp δ γ β hz a7.g a7.tp) (fc.same a3);lia;refine Mh (O.same ρ) g hw @A fun α l0 a6 e1=>?_;lia;obtain⟨d,r1,η,hd⟩:=FndC.two (K:=K) ω l2 e1 ((fc.same a3).same a6);refine A5 r1 η hd ?_;refine⟨false,by rw[oE];rfl,?_⟩;dsimp only;rw[n' @C];lia;exact⟨_,_,_,_,rfl,ρ.trans a6⟩
 ·rintro σ H' ⟨v5,v6,v7,v8,rfl,s'⟩;lia;refine⟨x,N,od,.str "nobody","str",rfl,O.same s',.sc (.str _ @I),λz hz e=>f3.nob (by rw[V.str.inj e];exact hz),λm0 ι=>?_⟩;have ν:=s'.trans ι;refine⟨true,rfl,?_⟩;rw[qq rfl];lia;refine aS (ν.get π) rfl ?_;lia;refine⟨x,N,od,rfl,O.same ν,λDm l4 q2 c5 k9=>?_⟩;have Z:=ν.trans c5;lia;refine A5 (zF k9) (zF (Z.get c3)) (by unfold depD;rw[Ay];decide) ?_;refine⟨true,by rw[oE];rfl,?_⟩;rw[qq rfl];lia;refine⟨t,i,s,u,o,rs,qs,N,cell ns 0,rfl,Z.get c0,b6.same Z,g,f3,@A,fun ξ ψ=>?_⟩;exact q ξ
end
open PySem.W in
theorem all_mk {l:aj1} {w:w7} {K:Frag} {h:N'} {mg:CM} {fa:dt} (X:K.In h) (G:h.Ns Q' mg) (hfa:mg "law"=ag (.ref fa)){rL bI bH bW fP iT j2 w6 j3 jX bO bZ d8 b0 w8 jU gH dI di iC cF bD dB cU bp cS cq be bY bN d6 d7 fo d4 dh qh jW cy cx cw bQ b4 bP cT bg jZ d5 mi fk bq bS bC cA a9 cB bR rZ:dt}{xN:ic}{xM:F'}{xK:Nat}{xJ:Cr}{oZ:Tok}{x9 yM:F'}{xO:Cr}{ya yG yK xU pj yL:ic}{cC bT qi iB jV Et gI gJ gG jY cv fQ cu fq gM iF fC fB fw iE gK fz iD gN dj cj fA dM dJ gL:dt}{TX UN:F'}{Sy:Cr}{TY Ug UE Tw PF UH:ic}{HE bE:dt}(RP:NI K "Steps" bE){rX:dt}(US:NI K "Wire" rX){bc:dt}(OL:NI K "InWire" bc){aM:dt}(MB:NI K "SumWire" aM){aB:dt}(EO:NI K "StoreWire" aB){cV:dt}(VM:NI K "Net" cV){aw:dt}(MC:NI K "Machine" aw){gi:dt}(VL:NI K "Run" gi){bU:dt}(EN:NI K "WireError" bU){tR:dt}(RY:NI K "BadSizes" tR){cf:dt}(MA:NI K "TooMany" cf){fF:dt}(MG:NI K "BadMask" fF){ju:dt}(Im:NI K "BadTable" ju){cH:dt}(MF:NI K "BadName" cH){cG:dt}(ME:NI K "Doubled" cG){aW:dt}(OK:NI K "NoWire" aW)(UP:NI K "kept" rL)(Uc:FR K "kept" "kept" vA rL)(qp:FI K cH "__init__" bI)(rH:FR K "__init__" "BadName.__init__" hU bI)(qo:FI K cG "__init__" bH)(rG:FR K "__init__" "Doubled.__init__" g9 bH)(se:FI K aW "__init__" bW)(tH:FR K "__init__" "NoWire.__init__" iq bW)(Ig:NI K "is_whole" fP)(Ha:FR K "is_whole" "is_whole" sE fP)(Mx:NI K "is_mask" iT)(K5:FR K "is_mask" "is_mask" vC iT)(Mw:NI K "is_name" j2)(K4:FR K "is_name" "is_name" qK j2)(UQ:NI K "even" w6)(Ud:FR K "even" "even" JW w6)(Mz:NI K "bits_of" j3)(K6:FR K "bits_of" "bits_of" qP j3)(Ms:NI K "mask_of" jX)(K0:FR K "mask_of" "mask_of" vz jX)(Iv:FI K bE "__init__" bO)(uM:FR K "__init__" "Steps.__init__" i3 bO)(IM:FI K bE "lowered" bZ)(wG:FR K "lowered" "Steps.lowered" jC bZ)(P7:FI K bE "lay" d8)(Eh:FR K "lay" "Steps.lay" pR d8)(IP:FI K bE "barring" b0)(wH:FR K "barring" "Steps.barring" jD b0)(UR:NI K "base" w8)(Ue:FR K "base" "base" J0 w8)(Mp:NI K "sum_for" jU)(KW:FR K "sum_for" "sum_for" vy jU)(EF:NI K "next_pair" gH)(DZ:FR K "next_pair" "next_pair" pJ gH)(yN:NI K "first_unlike" dI)(yv:FR K "first_unlike" "first_unlike" gf dI)(xB:NI K "pairs_come_to" di)(wB:FR K "pairs_come_to" "pairs_come_to" dS di)(Ih:NI K "compared" iC)(Hb:FR K "compared" "compared" jr iC)(IK:FI K rX "__init__" cF)(wD:FR K "__init__" "Wire.__init__" jA cF)(F2:FI K bc "__init__" bD)(tJ:FR K "__init__" "InWire.__init__" iu bD)(OT:FI K bc "bit" dB)(BF:FR K "bit" "InWire.bit" nD dB)(M8:FI K bc "hang" cU)(Ao:FR K "hang" "InWire.hang" l6 cU)(EY:FI K aM "__init__" bp)(rE:FR K "__init__" "SumWire.__init__" g7 bp)(M5:FI K aM "bit" cS)(Ak:FR K "bit" "SumWire.bit" l3 cS)(MT:FI K aM "hang" cq)(yy:FR K "hang" "SumWire.hang" kK cq)(CY:FI K aB "__init__" be)(oP:FR K "__init__" "StoreWire.__init__" fZ be)(IL:FI K aB "bit" bY)(wF:FR K "bit" "StoreWire.bit" jB bY)(Iu:FI K aB "hang" bN)(uL:FR K "hang" "StoreWire.hang" i0 bN)(AF:NI K "check_sizes" d6)(Ai:FR K "check_sizes" "check_sizes" jf d6)(AG:NI K "check_names" d7)(Aj:FR K "check_names" "check_names" lY d7)(CJ:NI K "check_wire" fo)(Bz:FR K "check_wire" "check_wire" nq fo)(AD:NI K "check_wires" d4)(Ag:FR K "check_wires" "check_wires" lX d4)(xA:NI K "wires_by_name" dh)(wA:FR K "wires_by_name" "wires_by_name" c9 dh)(RN:NI K "waits" qh)(Rf:FR K "waits" "waits" zA qh)(Mr:NI K "ordered" jW)(KZ:FR K "ordered" "ordered" nj jW)(MY:FI K cV "__init__" cy)(yD:FR K "__init__" "Net.__init__" dE cy)(MX:FI K cV "in_names" cx)(yC:FR K "in_names" "Net.in_names" kO cx)(MW:FI K cV "sum_rows" cw)(yB:FR K "sum_rows" "Net.sum_rows" kN cw)(Iy:FI K cV "store_rows" bQ)(uO:FR K "store_rows" "Net.store_rows" i5 bQ)(IQ:FI K cV "out_wires" b4)(wI:FR K "out_wires" "Net.out_wires" jE b4)(Iw:FI K cV "wire_names" bP)(uN:FR K "wire_names" "Net.wire_names" i4 bP)(M6:FI K cV "wire_of" cT)(Am:FR K "wire_of" "Net.wire_of" l5 cT)(C1:FI K cV "names_by_need" bg)(qd:FR K "names_by_need" "Net.names_by_need" d0 bg)(Mu:NI K "is_pair" jZ)(K3:FR K "is_pair" "is_pair" vB jZ)(AE:NI K "check_table" d5)(Ah:FR K "check_table" "check_table" je d5)(OJ:NI K "is_odd" mi)(N9:FR K "is_odd" "is_odd" zD mi)(CH:NI K "odd_places" fk)(By:FR K "odd_places" "odd_places" ka fk)(EZ:FI K aw "__init__" bq)(rF:FR K "__init__" "Machine.__init__" g8 bq)(IA:FI K aw "stores" bS)(uQ:FR K "stores" "Machine.stores" i7 bS)(F1:FI K aw "outputs" bC)(tI:FR K "outputs" "Machine.outputs" ir bC)(MZ:FI K aw "told" cA)(yE:FR K "told" "Machine.told" kP cA)(AM:FI K aw "check_state" a9)(nO:FR K "check_state" "Machine.check_state" fg a9)(M0:FI K aw "step" cB)(yF:FR K "step" "Machine.step" kQ cB)(Iz:FI K aw "walked" bR)(uP:FR K "walked" "Machine.walked" i6 bR)(M7:FI K aw "run" cC)(An:K.lookup cC=ag ⟨ya,x9,.func (fnOf "run" "Machine.run" (iG fM) (fE fM) (ah fM) (.ref rZ) yG yK xU yM pj yL),xO⟩)(yu:K.lookup rZ=ag ⟨xN,xM,.seq #[.int 0 oZ] xK,xJ⟩)(AC:codeIn K pj "Machine.run"=true)(qY:keepIn K (.ref cC)=true)(IB:FI K aw "single" bT)(uR:FR K "single" "Machine.single" i8 bT)(RO:NI K "hangs" qi)(Rg:FR K "hangs" "hangs" Di qi)(Ie:NI K "table_of" iB)(G9:FR K "table_of" "table_of" kX iB)(Mq:NI K "put_for" jV)(KY:FR K "put_for" "put_for" qH jV)(VJ:NI K "cut" Et)(VC:FR K "cut" "cut" s_cut Et)(EG:NI K "free_name" gI)(Ea:FR K "free_name" "free_name" jy gI)(EH:NI K "cut_shown" gJ)(Eb:FR K "cut_shown" "cut_shown" pM gJ)(EE:NI K "turn_bits" gG)(DY:FR K "turn_bits" "turn_bits" pI gG)(Mt:NI K "mask_at" jY)(K1:FR K "mask_at" "mask_at" qI jY)(MV:FI K gi "__init__" cv)(yA:FR K "__init__" "Run.__init__" kM cv)(RX:FI K gi "step" fQ)(Hf:FR K "step" "Run.step" oj fQ)(MU:FI K gi "answered" cu)(yz:FR K "answered" "Run.answered" kL cu)(CK:NI K "answers_of" fq)(BA:FR K "answers_of" "answers_of" nu fq)(EL:NI K "_law_cell" gM)(Ef:FR K "_law_cell" "_law_cell" pP gM)(Ik:NI K "_law_mix" iF)(He:FR K "_law_mix" "_law_mix" sH iF)(CQ:NI K "_law_masks" fC)(BE:FR K "_law_masks" "_law_masks" nC fC)(EJ:NI K "_law_name" fB)(Ed:FR K "_law_name" "_law_name" pO fB)(CL:NI K "_law_wires" fw)(BB:FR K "_law_wires" "_law_wires" kb fw)(Ij:NI K "_law_net" iE)(Hd:FR K "_law_net" "_law_net" jt iE)(EI:NI K "_law_rows" gK)(Ec:FR K "_law_rows" "_law_rows" pN gK)(CO:NI K "_law_shown" fz)(BC:FR K "_law_shown" "_law_shown" nv fz)(Ii:NI K "_law_odd" iD)(Hc:FR K "_law_odd" "_law_odd" sG iD)(EM:NI K "_law_bits" gN)(Eg:FR K "_law_bits" "_law_bits" pQ gN)(xC:NI K "_law_followed" dj)(wC:FR K "_law_followed" "_law_followed" jz dj)(tS:NI K "_law_pairs_hold" cj)(tG:FR K "_law_pairs_hold" "_law_pairs_hold" dU cj)(CP:NI K "_law_right" fA)(BD:FR K "_law_right" "_law_right" ny fA)(yP:NI K "_law_is_read" dM)(yx:FR K "_law_is_read" "_law_is_read" iJ dM)(yO:NI K "_law_no_wire" dJ)(yw:FR K "_law_no_wire" "_law_no_wire" kJ dJ)(EK:NI K "_law_full" gL)(Ee:FR K "_law_full" "_law_full" lZ gL)(VI:NI K "law" HE)(VB:K.lookup HE=ag ⟨TY,TX,.func (fnOf "law" "law" (iG GD) (fE GD) (ah GD) .none Ug UE Tw UN PF UH),Sy⟩)(VH:codeIn K PF "law"=true)(Vx:keepIn K (.ref HE)=true)(NX:plainGet K bE Yo=true)(NW:hasDictIn K bE=true)(NV:plainOver K bE=true)(NU:findIn K (.ref bE) "__setattr__"=ag (ag (.builtin "object.__setattr__")))(Oy:makesIn K bE=true)(Ox:FI K bE "__init__" bO)(Ow:isFn K (.ref bO)=true)(Ov:keepIn K (.ref bE)=true)(uI:FI K bE "lowered" bZ)(uE:isFn K (.ref bZ)=true)(Bu:FI K bE "lay" d8)(Bs:isFn K (.ref d8)=true)(uJ:FI K bE "barring" b0)(uF:isFn K (.ref b0)=true)(yc:FN K bE "by_top")(p6:FN K bE "free_places")(rn:FN K bE "null_masks")(Kl:plainGet K bc Yo=true)(Kk:hasDictIn K bc=true)(Kj:plainOver K bc=true)(Ki:findIn K (.ref bc) "__setattr__"=ag (ag (.builtin "object.__setattr__")))(LX:makesIn K bc=true)(LW:FI K bc "__init__" bD)(LV:isFn K (.ref bD)=true)(LU:keepIn K (.ref bc)=true)(Af:FI K bc "bit" dB)(Ae:isFn K (.ref dB)=true)(yt:FI K bc "hang" cU)(yo:isFn K (.ref cU)=true)(zW:FN K bc "name")(vU:FN K bc "number")(GM:plainGet K aM Yo=true)(GK:hasDictIn K aM=true)(GI:plainOver K aM=true)(GG:findIn K (.ref aM) "__setattr__"=ag (ag (.builtin "object.__setattr__")))(HM:makesIn K aM=true)(HK:FI K aM "__init__" bp)(HI:isFn K (.ref bp)=true)(HG:keepIn K (.ref aM)=true)(yp:FI K aM "bit" cS)(yl:isFn K (.ref cS)=true)(wj:FI K aM "hang" cq)(vY:isFn K (.ref cq)=true)(yb:FN K aM "name")(vR:FN K aM "wires")(Ba:plainGet K aB Yo=true)(A9:hasDictIn K aB=true)(A8:plainOver K aB=true)(A6:findIn K (.ref aB) "__setattr__"=ag (ag (.builtin "object.__setattr__")))(Cb:makesIn K aB=true)(Ca:FI K aB "__init__" be)(B7:isFn K (.ref be)=true)(B0:keepIn K (.ref aB)=true)(uH:FI K aB "bit" bY)(uD:isFn K (.ref bY)=true)(sY:FI K aB "hang" bN)(sS:isFn K (.ref bN)=true)(ux:FN K aB "name")(rm:FN K aB "number")(uw:FN K aB "wire")(Tt:plainGet K cV Yo=true)(Tr:hasDictIn K cV=true)(Tp:plainOver K cV=true)(Tj:findIn K (.ref cV) "__setattr__"=ag (ag (.builtin "object.__setattr__")))(UC:makesIn K cV=true)(UA:FI K cV "__init__" cy)(Uy:isFn K (.ref cy)=true)(Uw:keepIn K (.ref cV)=true)(wo:FI K cV "in_names" cx)(wc:isFn K (.ref cx)=true)(wm:FI K cV "sum_rows" cw)(wa:isFn K (.ref cw)=true)(tj:FI K cV "store_rows" bQ)(sU:isFn K (.ref bQ)=true)(uK:FI K cV "out_wires" b4)(uG:isFn K (.ref b4)=true)(sZ:FI K cV "wire_names" bP)(sT:isFn K (.ref bP)=true)(yq:FI K cV "wire_of" cT)(ym:isFn K (.ref cT)=true)(oO:FI K cV "names_by_need" bg)(oN:isFn K (.ref bg)=true)(zV:FN K cV "by_name")(KH:FN K cV "ins")(sO:FN K cV "kept_stores")(G0:FN K cV "outs")(vS:FN K cV "sum_order")(GZ:FN K cV "sums")(GN:plainGet K aw Yo=true)(GL:hasDictIn K aw=true)(GJ:plainOver K aw=true)(GH:findIn K (.ref aw) "__setattr__"=ag (ag (.builtin "object.__setattr__")))(HN:makesIn K aw=true)(HL:FI K aw "__init__" bq)(HJ:isFn K (.ref bq)=true)(HH:keepIn K (.ref aw)=true)(tE:FI K aw "stores" bS)(sW:isFn K (.ref bS)=true)(rD:FI K aw "outputs" bC)(rC:isFn K (.ref bC)=true)(wt:FI K aw "told" cA)(we:isFn K (.ref cA)=true)(mT:FI K aw "check_state" a9)(mS:isFn K (.ref a9)=true)(wu:FI K aw "step" cB)(wg:isFn K (.ref cB)=true)(tD:FI K aw "walked" bR)(sV:isFn K (.ref bR)=true)(yr:FI K aw "run" cC)(yn:isFn K (.ref cC)=true)(tF:FI K aw "single" bT)(sX:isFn K (.ref bT)=true)(uy:FN K aw "inputs")(vT:FN K aw "nexts")(yd:FN K aw "outs")(Ts:plainGet K gi Yo=true)(Tq:hasDictIn K gi=true)(To:plainOver K gi=true)(Ti:findIn K (.ref gi) "__setattr__"=ag (ag (.builtin "object.__setattr__")))(UB:makesIn K gi=true)(Uz:FI K gi "__init__" cv)(Ux:isFn K (.ref cv)=true)(Uv:keepIn K (.ref gi)=true)(DW:FI K gi "step" fQ)(DV:isFn K (.ref fQ)=true)(wk:FI K gi "answered" cu)(vZ:isFn K (.ref cu)=true)(GY:FN K gi "bits")(DP:FN K gi "given")(GX:FN K gi "held")(KG:FN K gi "net")(w1:specialIn K (.builtin "object.__class__") "__get__"=ag (ag (.builtin "getset_descriptor.__get__")))(w2:takesIn K (.builtin "object.__class__")=ag true)(jw:excIn K bU [.type "ValueError",.type "Exception",.type "BaseException",.type "object"] "ValueError.__new__"=true)(F9:isClsIn K cf=true)(F8:typeIn K (.ref cf)=ag (.type "type"))(Jj:isClsIn K aW=true)(Ji:typeIn K (.ref aW)=ag (.type "type"))(AS:specialIn K (.ref bU) "__getattribute__"=ag (ag (.builtin "type.__getattribute__")))(AR:readsIn K bU (.type "type")=true)(AQ:findCls K (.ref bU) (.type "type") "__init__"=ag (.val (.builtin "ValueError.__init__")))(mW:excIn K cf [.type "ValueError",.type "Exception",.type "BaseException",.type "object"] "ValueError.__new__"=true)(iw:mroIn K cf (.ref cf)=ag true)(Hw:mroIn K cf (.type "BaseException")=ag true)(jx:excIn K fF [.type "ValueError",.type "Exception",.type "BaseException",.type "object"] "ValueError.__new__"=true)(gR:excIn K ju [.type "ValueError",.type "Exception",.type "BaseException",.type "object"] "ValueError.__new__"=true){G2 GF:mu}{MJ:dt}{HZ:CD}{Gs:B1}{C4:CD}{Ic:V6}{Ez:pa V6}{HQ:F'}{Ht Hr Ho Hm Hk:J5}(G8:K.lookup cH=ag (Zn G2 GF cH MJ HZ (.ref bU::xBM) true Gs C4 Ic Ez HQ Ht Hr Ho Hm Hk "ValueError.__new__"))(GW:isFn K (.ref bI)=true)(Hh:keepIn K (.ref cH)=true)(GC:findIn K (.ref cH) "__setattr__"=ag (ag (.builtin "object.__setattr__")))(F0:mroIn K cH (.type "object")=ag true)(Hv:mroIn K cH (.type "ValueError")=ag true)(yf:FN K cH "name"){G1 GE:mu}{MI:dt}{HY:CD}{Gr:B1}{C3:CD}{Ib:V6}{Ey:pa V6}{HP:F'}{Hs Hq Hn Hl Hj:J5}(G7:K.lookup cG=ag (Zn G1 GE cG MI HY (.ref bU::xBM) true Gr C3 Ib Ey HP Hs Hq Hn Hl Hj "ValueError.__new__"))(GV:isFn K (.ref bH)=true)(Hg:keepIn K (.ref cG)=true)(GB:findIn K (.ref cG) "__setattr__"=ag (ag (.builtin "object.__setattr__")))(FZ:mroIn K cG (.type "object")=ag true)(Hu:mroIn K cG (.type "ValueError")=ag true)(ye:FN K cG "name")(Lo:mroIn K aW (.type "BaseException")=ag true){KM Kh:mu}{OM:dt}{Mi:CD}{JI:B1}{Gb:CD}{Mo:V6}{HV:pa V6}{L8:F'}{Lf Le Ld Lc Lb:J5}(KR:K.lookup aW=ag (Zn KM Kh aW OM Mi (.ref bU::xBM) true JI Gb Mo HV L8 Lf Le Ld Lc Lb "ValueError.__new__"))(KD:isFn K (.ref bW)=true)(K7:keepIn K (.ref aW)=true)(JS:findIn K (.ref aW) "__setattr__"=ag (ag (.builtin "object.__setattr__")))(AL:mroIn K aW (.type "object")=ag true)(Li:mroIn K aW (.type "ValueError")=ag true)(IH:isClsIn K aW=true)(IG:findIn K (.ref aW) "__getattribute__"=ag (ag (.builtin "BaseException.__getattribute__")))(IF:FN K aW "__getattr__")(IE:findIn K (.ref aW) "__class__"=ag (ag (.builtin "object.__class__")))(ID:mroIn K aW (.type "BaseException")=ag true)(wL:hasDictIn K aW=true)(jF:mroIn K aW (.ref aW)=ag true)(zU:FN K aW "name")(ui:specialIn K (.ref rX) "__getattribute__"=ag (ag (.builtin "type.__getattribute__")))(uh:readsIn K rX (.type "type")=true)(ug:findCls K (.ref rX) (.type "type") "__init__"=ag (.val (.ref cF))){m5:Tok}(CW:nsIn K Q' "KEPT_DEPTH"=ag (ag (.int 12 m5))){vh:Tok}(MD:nsIn K Q' "LETTERS"=ag (ag (.str "abcdefghijklmnopqrstuvwxyz" vh))){kH:Tok}(yQ:nsIn K Q' "LONGEST_NAME"=ag (ag (.int 6 kH))){lQ:Tok}(AH:nsIn K Q' "MOST_INPUTS"=ag (ag (.int 6 lQ))){sj:Tok}(Il:nsIn K Q' "MOST_INS"=ag (ag (.int 6 sj))){fY:Tok}(oS:nsIn K Q' "MOST_OUTS_machines"=ag (ag (.int 6 fY))){iY:Tok}(uT:nsIn K Q' "MOST_OUTS_nets"=ag (ag (.int 6 iY))){eN:Tok}(mV:nsIn K Q' "MOST_STORES_machines"=ag (ag (.int 120 eN))){gY:Tok}(rY:nsIn K Q' "MOST_STORES_nets"=ag (ag (.int 16 gY))){pC:Tok}(ER:nsIn K Q' "MOST_SUMS"=ag (ag (.int 40 pC))){m4:Tok}(CV:nsIn K Q' "MOST_WIRES"=ag (ag (.int 24 m4))){mZ:Tok}(CU:nsIn K Q' "NAME_SIGNS"=ag (ag (.str "abcdefghijklmnopqrstuvwxyz0123456789" mZ)))(U6:NN K "all")(U5:NN K "any")(R6:NN K "bool")(R5:NN K "dict")(C0:NN K "enumerate")(U4:NN K "int")(AK:NN K "isinstance")(U3:NN K "len")(R4:NN K "list")(U2:NN K "min")(P1:NN K "range")(FY:NN K "reversed")(M3:NN K "sorted")(U1:NN K "str")(PZ:NN K "tuple")(U0:NN K "zip"):∃fd:hE,(∀(s:hJ) (v:ic),BindsTo s fd ⟨[v],[]⟩ [("_law_script",v)])/\∀base:N',K.In base->base.Ns Q' mg->FnOk l.prog w K mg base CX0 16 fa fd ["_law_script"] (E9 K):=by
 have e:=hfa.symm.trans (zx X G VI);cases e;obtain⟨_,mP⟩:=Uc.ok (ps:=["thing","depth"]) @G;obtain⟨_,eW⟩:=rH.ok (ps:=["self","name"]) @G;obtain⟨_,eV⟩:=rG.ok (ps:=["self","name"]) @G;obtain⟨_,fU⟩:=tH.ok (ps:=["self","name"]) @G;obtain⟨_,jv⟩:=Ha.ok (ps:=["thing"]) @G;obtain⟨_,iW⟩:=K5.ok (ps:=["thing","width"]) @G;obtain⟨_,lM⟩:=K4.ok (ps:=["thing"]) @G;obtain⟨_,zk⟩:=Ud.ok (ps:=["number"]) @G;obtain⟨_,r9⟩:=K6.ok (ps:=["mask"]) @G;obtain⟨_,n5⟩:=K0.ok (ps:=["places"]) @G;obtain⟨_,eE⟩:=uM.ok (ps:=["self","rows"]) @G;obtain⟨_,dY⟩:=wG.ok (ps:=["self","mask"]) @G;obtain⟨_,j7⟩:=Eh.ok (ps:=["self","place","row"]) @G;obtain⟨_,fJ⟩:=wH.ok (ps:=["self","bit"]) @G;obtain⟨_,FX⟩:=Ue.ok (ps:=["rows"]) @G;obtain⟨_,n4⟩:=KW.ok (ps:=["rows","wish"]) @G;obtain⟨_,gO⟩:=DZ.ok (ps:=["one","other","pair","row"]) @G;obtain⟨_,iN⟩:=yv.ok (ps:=["one","other"]) @G;obtain⟨_,h9⟩:=wB.ok (ps:=["one","other"]) @G;obtain⟨_,oI⟩:=Hb.ok (ps:=["one","other"]) @G;obtain⟨_,dq⟩:=wD.ok (ps:=["self","name"]) @G;obtain⟨_,fV⟩:=tJ.ok (ps:=["self","name","number"]) @G;obtain⟨_,iX⟩:=BF.ok (ps:=["self","known","row","state"]) @G;obtain⟨_,ig⟩:=Ao.ok (ps:=["self","known"]) @G;obtain⟨_,eS⟩:=rE.ok (ps:=["self","name","wires"]) @G;obtain⟨_,ib⟩:=Ak.ok (ps:=["self","known","row","state"]) @G;obtain⟨_,gq⟩:=yy.ok (ps:=["self","known"]) @G;obtain⟨_,dQ⟩:=oP.ok (ps:=["self","name","wire","number"]) @G;obtain⟨_,fH⟩:=wF.ok (ps:=["self","known","row","state"]) @G;obtain⟨_,eC⟩:=uL.ok (ps:=["self","known"]) @G;obtain⟨_,ia⟩:=Ai.ok (ps:=["ins","sums","stores","outs"]) @G;obtain⟨_,jl⟩:=Aj.ok (ps:=["names"]) @G;obtain⟨_,cI⟩:=Bz.ok (ps:=["wire","known"]) @G;obtain⟨_,ji⟩:=Ag.ok (ps:=["sums","stores","outs","known"]) @G;obtain⟨_,h8⟩:=wA.ok (ps:=["ins","sums","stores"]) @G;obtain⟨_,xG⟩:=Rf.ok (ps:=["row","waiting"]) @G;obtain⟨_,r6⟩:=KZ.ok (ps:=["sums"]) @G;obtain⟨_,eL⟩:=yD.ok (ps:=["self","ins","sums","stores","outs"]) @G;obtain⟨_,dN⟩:=yC.ok (ps:=["self"]) @G;obtain⟨_,gv⟩:=yB.ok (ps:=["self"]) @G;obtain⟨_,cN⟩:=uO.ok (ps:=["self"]) @G;obtain⟨_,dr⟩:=wI.ok (ps:=["self"]) @G;obtain⟨_,b8⟩:=uN.ok (ps:=["self"]) @G;obtain⟨_,b5⟩:=Am.ok (ps:=["self","name"]) @G;obtain⟨_,ck⟩:=qd.ok (ps:=["self"]) @G;obtain⟨_,r8⟩:=K3.ok (ps:=["thing","stores","inputs"]) @G;obtain⟨_,jk⟩:=Ah.ok (ps:=["inputs","nexts","outs"]) @G;obtain⟨_,vd⟩:=N9.ok (ps:=["pair","state","row"]) @G;obtain⟨_,iV⟩:=By.ok (ps:=["pairs","state","row"]) @G;obtain⟨_,eU⟩:=rF.ok (ps:=["self","inputs","nexts","outs"]) @G;obtain⟨_,bz⟩:=uQ.ok (ps:=["self"]) @G;obtain⟨_,c6⟩:=tI.ok (ps:=["self"]) @G;obtain⟨_,eM⟩:=yE.ok (ps:=["self"]) @G;obtain⟨_,bX⟩:=nO.ok (ps:=["self","state"]) @G;obtain⟨_,dO⟩:=yF.ok (ps:=["self","state","row"]) @G;obtain⟨_,eG⟩:=uP.ok (ps:=["self","rows","state"]) @G;have ie:=Ru (st:=fM) An yu AC qY;have b_Machine_run:=ie.binds (ps:=["self","rows","state"]) (ds:=[]) λ_ _ _ _ _ _ _ us hl=>match us,hl with | [_,_,_],_=>⟨_,rfl,rfl⟩
 have my:=ie.binds (ps:=["self","rows","state"]) (ds:=[.int 0 oZ]) λ_ _ _ _ _ _ _ us hl=>match us,(show us.length=2 by simpa using hl) with | [_,_],_=>⟨_,rfl,rfl⟩
 obtain⟨_,dz⟩:=uR.ok (ps:=["self","which","turns"]) @G;obtain⟨_,AJ⟩:=Rg.ok (ps:=["net"]) @G;obtain⟨_,iH⟩:=G9.ok (ps:=["net"]) @G;obtain⟨_,lL⟩:=KY.ok (ps:=["wires","wire","fresh"]) @G;obtain⟨_,EU⟩:=VC.ok (ps:=["net","wire","fresh"]) @G;obtain⟨_,mq⟩:=Ea.ok (ps:=["net"]) @G;obtain⟨_,dn⟩:=Eb.ok (ps:=["net","wire"]) @G;obtain⟨_,mn⟩:=DY.ok (ps:=["net","row","state"]) @G;obtain⟨_,n6⟩:=K1.ok (ps:=["wires","bits"]) @G;obtain⟨_,iP⟩:=yA.ok (ps:=["self","net"]) @G;obtain⟨_,lO⟩:=Hf.ok (ps:=["self","row"]) @G;obtain⟨_,gu⟩:=yz.ok (ps:=["self"]) @G;obtain⟨_,dC⟩:=BA.ok (ps:=["net","rows"]) @G;obtain⟨_,j6⟩:=Ef.ok (ps:=["_law_script","_law_k"]) @G;obtain⟨_,bj⟩:=He.ok (ps:=["_law_cell_here","_law_k"]) @G;obtain⟨_,kF⟩:=BE.ok (ps:=["_law_cell_here","_law_start","_law_many","_law_width","_law_digits"]) @G;obtain⟨_,eh⟩:=Ed.ok (ps:=["_law_cell_here","_law_k"]) @G;obtain⟨_,kC⟩:=BB.ok (ps:=["_law_cell_here","_law_start","_law_names","_law_digits"]) @G;obtain⟨_,oJ⟩:=Hd.ok (ps:=["_law_script","_law_start","_law_most"]) @G;obtain⟨_,j5⟩:=Ec.ok (ps:=["_law_cell_here","_law_many","_law_width"]) @G;obtain⟨_,kD⟩:=BC.ok (ps:=["_law_found","_law_net_one","_law_net_two","_law_inputs","_law_cells"]) @G;obtain⟨_,lN⟩:=Hc.ok (ps:=["_law_number"]) @G;obtain⟨_,gP⟩:=Eg.ok (ps:=["_law_pairs","_law_state","_law_row"]) @G;obtain⟨_,fG⟩:=wC.ok (ps:=["_law_one","_law_other","_law_pair","_law_row","_law_goals"]) @G;obtain⟨_,fT⟩:=tG.ok (ps:=["_law_found","_law_one","_law_other"]) @G;obtain⟨_,kE⟩:=BD.ok (ps:=["_law_found","_law_net_one","_law_net_two","_law_inputs","_law_cells"]) @G;obtain⟨_,iO⟩:=yx.ok (ps:=["_law_lists","_law_wire"]) @G;obtain⟨_,gm⟩:=yw.ok (ps:=["_law_net_one","_law_name_here"]) @G;obtain⟨_,mr⟩:=Ee.ok (ps:=["_law_lists"]) @G;have OQ:=Pr (st:=GD) VB VH Vx;have b_law:=OQ.binds (ps:=["_law_script"]) λ_ _ _ _ _ _ us hl=>match us,hl with | [_],_=>rfl
 have T:Tx K mg ⟨rL,_,bI,_,bH,_,bW,_,fP,_,iT,_,j2,_,w6,_,j3,_,jX,_,bO,_,bZ,_,d8,_,b0,_,w8,_,jU,_,gH,_,dI,_,di,_,iC,_,cF,_,bD,_,dB,_,cU,_,bp,_,cS,_,cq,_,be,_,bY,_,bN,_,d6,_,d7,_,fo,_,d4,_,dh,_,qh,_,jW,_,cy,_,cx,_,cw,_,bQ,_,b4,_,bP,_,cT,_,bg,_,jZ,_,d5,_,mi,_,fk,_,bq,_,bS,_,bC,_,cA,_,a9,_,cB,_,bR,_,cC,_,_,bT,_,qi,_,iB,_,jV,_,Et,_,gI,_,gJ,_,gG,_,jY,_,cv,_,fQ,_,cu,_,fq,_,gM,_,iF,_,fC,_,fB,_,fw,_,iE,_,gK,_,fz,_,iD,_,gN,_,dj,_,cj,_,fA,_,dM,_,dJ,_,gL,_,fa,_,bE,rX,bc,aM,aB,cV,aw,gi,bU,tR,cf,fF,ju,cH,cG,aW,_,_,_,_,_,_,_,_,_,_,_,_⟩:=⟨mP,zx X G UP,eW,eV,fU,jv,zx X G Ig,iW,zx X G Mx,lM,zx X G Mw,zk,zx X G UQ,r9,zx X G Mz,n5,zx X G Ms,eE,dY,j7,fJ,FX,zx X G UR,n4,zx X G Mp,gO,zx X G EF,iN,zx X G yN,h9,zx X G xB,oI,zx X G Ih,dq,fV,iX,ig,eS,ib,gq,dQ,fH,eC,ia,zx X G AF,jl,zx X G AG,cI,zx X G CJ,ji,zx X G AD,h8,zx X G xA,xG,zx X G RN,r6,zx X G Mr,eL,dN,gv,cN,dr,b8,b5,ck,r8,zx X G Mu,jk,zx X G AE,vd,zx X G OJ,iV,zx X G CH,eU,bz,c6,eM,bX,dO,eG,ie,my,⟨_,rfl⟩,dz,AJ,zx X G RO,iH,zx X G Ie,lL,zx X G Mq,EU,zx X G VJ,mq,zx X G EG,dn,zx X G EH,mn,zx X G EE,n6,zx X G Mt,iP,lO,gu,dC,zx X G CK,j6,zx X G EL,bj,zx X G Ik,kF,zx X G CQ,eh,zx X G EJ,kC,zx X G CL,oJ,zx X G Ij,j5,zx X G EI,kD,zx X G CO,lN,zx X G Ii,gP,zx X G EM,fG,zx X G xC,fT,zx X G tS,kE,zx X G CP,iO,zx X G yP,gm,zx X G yO,mr,zx X G EK,OQ,zx X G RP,⟨NX,NW,NV,NU⟩,⟨Oy,Ox,Ow,Ov⟩,⟨uI,uE,dY.1.2⟩,⟨Bu,Bs,j7.1.2⟩,⟨uJ,uF,fJ.1.2⟩,yc,p6,rn,zx X G US,zx X G OL,⟨Kl,Kk,Kj,Ki⟩,⟨LX,LW,LV,LU⟩,⟨Af,Ae,iX.1.2⟩,⟨yt,yo,ig.1.2⟩,zW,vU,zx X G MB,⟨GM,GK,GI,GG⟩,⟨HM,HK,HI,HG⟩,⟨yp,yl,ib.1.2⟩,⟨wj,vY,gq.1.2⟩,yb,vR,zx X G EO,⟨Ba,A9,A8,A6⟩,⟨Cb,Ca,B7,B0⟩,⟨uH,uD,fH.1.2⟩,⟨sY,sS,eC.1.2⟩,ux,rm,uw,zx X G VM,⟨Tt,Tr,Tp,Tj⟩,⟨UC,UA,Uy,Uw⟩,⟨wo,wc,dN.1.2⟩,⟨wm,wa,gv.1.2⟩,⟨tj,sU,cN.1.2⟩,⟨uK,uG,dr.1.2⟩,⟨sZ,sT,b8.1.2⟩,⟨yq,ym,b5.1.2⟩,⟨oO,oN,ck.1.2⟩,zV,KH,sO,G0,vS,GZ,zx X G MC,⟨GN,GL,GJ,GH⟩,⟨HN,HL,HJ,HH⟩,⟨tE,sW,bz.1.2⟩,⟨rD,rC,c6.1.2⟩,⟨wt,we,eM.1.2⟩,⟨mT,mS,bX.1.2⟩,⟨wu,wg,dO.1.2⟩,⟨tD,sV,eG.1.2⟩,⟨yr,yn,qY⟩,⟨tF,sX,dz.1.2⟩,uy,vT,yd,zx X G VL,⟨Ts,Tq,To,Ti⟩,⟨UB,Uz,Ux,Uv⟩,⟨DW,DV,lO.1.2⟩,⟨wk,vZ,gu.1.2⟩,GY,DP,GX,KG,⟨ui,uh,ug,@D,dq.1.2⟩,zx X G EN,⟨AS,AR,AQ⟩,zx X G MA,mW,iw,⟨F8,F9,Hw⟩,zx X G MG,jx,zx X G Im,gR,zx X G MF,⟨⟨_,_,_,_,_,_,_,_,_,_,_,_,_,_,G8⟩,jw,qp,GW,Hh,GC,F0,Hv⟩,yf,zx X G ME,⟨⟨_,_,_,_,_,_,_,_,_,_,_,_,_,_,G7⟩,jw,qo,GV,Hg,GB,FZ,Hu⟩,ye,zx X G OK,⟨Ji,Jj,Lo⟩,⟨⟨_,_,_,_,_,_,_,_,_,_,_,_,_,_,KR⟩,jw,se,KD,K7,JS,AL,Li⟩,⟨IH,IG,IF,IE,w1,w2,AL,ID⟩,wL,jF,zU,zx X G CW,zx X G MD,zx X G yQ,zx X G AH,zx X G Il,zx X G oS,zx X G uT,zx X G mV,zx X G rY,zx X G ER,zx X G CV,zx X G CU,Wm X G U6,Wm X G U5,Wm X G R6,Wm X G R5,Wm X G C0,Wm X G U4,Wm X G AK,Wm X G U3,Wm X G R4,Wm X G U2,Wm X G P1,Wm X G FY,Wm X G M3,Wm X G U1,Wm X G PZ,Wm X G U0⟩;exact⟨_,λs v=> .of_eq rfl,λbase _ _=>TR T⟩
open PySem.W in
theorem walk {l:aj1} {q:oT} {loose:B1} {XP:CM->N'->Prop} {YP:w7->N'->Prop} {d:DefRec} {K:Params->Frag} (hn:l.most=ag 63) (hdf:d.params.defaults=[])
  (hY:∀(w:w7) (h:N'),YP w h->(K w.params).In h)
  (F:∀(w:w7) (mg:CM) (fa:dt) (h:N'),(K w.params).In h->h.Ns Q' mg->mg d.name=ag (.ref fa)->
   ∃fd:hE,(∀(s:hJ) (u:ic),BindsTo s fd ⟨[u],[]⟩ [("_law_script",u)])/\∀base:N',(K w.params).In base->base.Ns Q' mg->FnOk l.prog w (K w.params) mg base CX0 16 fa fd ["_law_script"] (E9 (K w.params))):
  WalkO q loose XP YP l.row.toRowW d [] (λf vs=>ah5 f vs):=
 L2.walk_of (n:=63) (k:=16) (x:="_law_script") (CX:=λ_=>CX0) (sp:=λw=>E9 (K w.params)) hn @C hdf ⟨rfl,@C,@C⟩ hY F (λ_ _ a ns hl _ hS=>⟨a,ns,rfl,hS,hl,λ_=>rfl⟩) λ_ _ _ _ _ z=>z
end My
structure PySem.W.Fast:Prop where(tw1001949591898469389 tw10049254988210739362 tw10156913465770581281 tw10162648057535137237 tw10188142616880920845 tw10193705598020963855 tw10201176244470747894 tw10282450525317437050 tw10298324869487390103 tw10339591454273347624 tw10391395070107616003 tw1041239521681006481 tw10414428002195537060 tw10433321679711229193 tw10486482898633772589 tw10523979827046026086 tw10552559423696808710 tw10559090333051616236 tw10570506902764815594 tw1060517261663762378 tw10610912385962514833 tw10633615480831252657 tw10689862465552280006 tw10714838815894254704 tw1072028792829174588 tw10739283512626253300 tw10781770936419473571 tw10821434174387486388 tw10835388549330690791 tw10836088137293269507 tw10966096024651439422 tw1098795058622294709 tw11010484314893065672 tw11043985575450036644 tw11068549990421042430 tw11070371594773474227 tw11125466786724072449 tw11130418991909057030 tw11141054623882823795 tw11161968429604712452 tw11195051133964396018 tw11230245289586061302 tw11266378610346345839 tw11274335599314557448 tw11290074012429576993 tw11293584521277426823 tw11312528320718742309 tw11316743766653450410 tw1132936200631760219 tw11342358257757822595 tw11375836924655574072 tw11469433804300881265 tw11475663475195222798 tw11488811148117716990 tw11503520158402347827 tw11517092552184502772 tw11522537619785413111 tw11527235706889995636 tw11562211795309091267 tw1161740748907392665 tw11629957467204115513 tw11648606087623723322 tw11650334731436104745 tw11661550567548023570 tw11664879333784605312 tw11665320684551514922 tw11714510145561667513 tw11722727499625774451 tw1174514821296616966 tw11746396706957311683 tw1176270634740469201 tw11787149742498715550 tw11790714638902476194 tw11792205997967695525 tw11792363668947896232 tw1187617759647170368 tw11896758243757014987 tw11915563999635431400 tw11934939442487804794 tw11967005863470733328 tw11995574911926428064 tw12018795134635275402 tw12088369731791288551 tw1211069043243926751 tw12116007603709929533 tw12128326344419971408 tw12130029636065458920 tw12138764657903776176 tw12211025838937091205 tw12244362991629318671 tw12256596599278432123 tw12259748206792901880 tw12290127153394538408 tw12340991699207550592 tw12385947298280838791 tw12501282353192582163 tw12566099940664110878 tw1256780175836763998 tw12568453684899551551 tw12582628575642605225 tw12620037404281523973 tw12632167263199161802 tw12639483012305035004 tw12639799811556751587 tw12654842553450755470 tw12679458690999674763 tw12681261513238453192 tw12713085378605366462 tw12784662241585203755 tw12799217482050248199 tw12809723678886810251 tw12812127855097327637 tw12882886073427840221 tw12893671420506829833 tw12894619591217978963 tw12896356106722368440 tw13007808612979914569 tw13030719285806380237 tw13066499661566123911 tw13090647676467446378 tw13214838768402311390 tw13221885833199535421 tw1322315246075541100 tw13237551502726913240 tw13258822795147996027 tw13288507400429357628 tw13299839848719505057 tw13325705785966707260 tw13329362296414795077 tw13338340562461386393 tw13379739471502542883 tw13394898858229412615 tw13441191943125731214 tw13450922861047414396 tw13531763171175667152 tw13546959360451394654 tw13552488353160312863 tw13561435421980051765 tw13564116149742506747 tw1360100067507952983 tw13622167576166190043 tw13632087179528299719 tw13645536508420036865 tw13648456259393408041 tw13648762818836234452 tw13683386750846597170 tw13691939009047251109 tw13785376162671874142 tw13813708864190968547 tw13821786516688130763 tw13853847563765752446 tw13902853083403770698 tw13911048453441611215 tw13921699819703150649 tw13954307661135058252 tw13967700226396211969 tw14011751134958666575 tw14031664600192352227 tw14045042361563911252 tw14047376338193202977 tw14124160903219616477 tw141571233865505499 tw14162340957817776421 tw14196375160458932586 tw14203842455270557743 tw14229150628288495991 tw14276030686723801580 tw14298421076465956072 tw14315246079367400014 tw14323247900837987479 tw14408989300503135041 tw14459491854772159789 tw1446772384392313633 tw14490994255226085560 tw14508510918779219438 tw14522848293307607064 tw14613254225356359924 tw14640291838804663847 tw14642062790446035495 tw1464400060929335730 tw14646611879882311801 tw14676362634384011532 tw14704873279750905616 tw14733843469144477852 tw14753569087392003137 tw14855911121628972588 tw14859371883147943933 tw14872252600826678005 tw14889826575932802863 tw14895706187204467949 tw1489808029849887553 tw14907263138853802886 tw14924048467016991706 tw14924552922045432278 tw14975176734605697278 tw1499224260392477696 tw15017395635829366722 tw15069393329590275807 tw15080245426213919699 tw15083060292135759933 tw15087037270121995172 tw15097206777598876026 tw15132712781088335120 tw1513855604286199797 tw15235286854518952770 tw15262341272351065084 tw15282536055897036455 tw15294814338918240702 tw15305204452568919270 tw15330197236017978813 tw15361447190483203108 tw15375296554041916534 tw15377864079702741362 tw15409726338561391936 tw15417697982397572916 tw15548008258804527233 tw1558698942449508895 tw15620928460306661383 tw15631675332300292707 tw15679930008630547114 tw15709075741231057951 tw15721558627161461992 tw15783768735497122188 tw15838612221694084853 tw15852665346165313244 tw15892257550423941316 tw15893226967454373919 tw15906695336836576012 tw15916930500194412955 tw15930437033664586883 tw15934562890393550213 tw15941723183889373955 tw15982398549344013414 tw15989902978370432573 tw15999653555722131391 tw16010485621003197700 tw16040290027426531937 tw16046382050203273085 tw16057547932383952895 tw16084403332031216193 tw16098050710493278246 tw16132698498798718750 tw16135782347489901801 tw16154889752943421740 tw16158177453061664755 tw16178128968275461641 tw16210295050857333567 tw16213552963839856947 tw16220198237656873848 tw16291461823138425016 tw16307411144269222328 tw16315177285288794528 tw16341298003627114624 tw1634468459236116934 tw1634789858857200593 tw16372614300607914449 tw16372813425887311771 tw16388394079875135332 tw1640469093118735520 tw1654821100423546576 tw16549871812781251673 tw16571513950481313192 tw16580270425574857657 tw16629008309229253331 tw16634917051346158946 tw16643300524648526371 tw16674870026663862014 tw1669278198245104344 tw16710257232974734678 tw16794407068167469531 tw16807734990714436677 tw16885560374719518435 tw16885814555145515319 tw16912794605261796501 tw16940532498610278016 tw17003013516041739327 tw17030621145432099981 tw17054980730472269557 tw17059678124179511712 tw17061374060389942126 tw17074731311009713795 tw17097206689580548150 tw17104927933993972342 tw17113121692000483740 tw17153567648946959481 tw17207607210170264239 tw17277207298914375928 tw17287221029376122829 tw17323831825391819776 tw17339526245309274465 tw17343021421359687463 tw17358033252564552828 tw1736401426281478712 tw17410067584447377398 tw17431964275300562046 tw17470978819200785022 tw17478476655469837405 tw17487021658800639929 tw17496501770993247179 tw17511576706182894533 tw17529514746457454857 tw1754015158227054468 tw17541958784471510240 tw17587533051180361737 tw17590092563640279600 tw17594286976341674634 tw17616781194484643241 tw17657173396492794143 tw17657442601787724493 tw17674184871686135768 tw1771630665047124992 tw17744631747335302675 tw17767012960911059271 tw17767291338056539969 tw17778112152652851699 tw17940129802078077470 tw17958467754232757844 tw17961592148023267878 tw179654804396909025 tw17971028037005205331 tw17974019379821683070 tw18027690117671590876 tw18057780610179890725 tw18066640550195974153 tw18070209523526113694 tw18165462138889289631 tw18171457821368183829 tw18177471248410703330 tw18207744443988468739 tw18252046936472392735 tw18266981435710919344 tw18413264535901869381 tw18421110857076254175 tw18427053380536727087 tw18432783184841017824 tw18433022147969326204 tw1852481072711255479 tw1864193675817241219 tw1864288139660430065 tw1868993869661241132 tw1910522921240338737 tw193390820980101262 tw1937803654427424372 tw1971106163697204175 tw2006599008894191937 tw2018006412883868848 tw2058763884652041308 tw2082664272321342951 tw2090540245708534641 tw2121861601791218801 tw2133770262094189191 tw2179259026714280504 tw2190656784645882598 tw2224040396610867488 tw2297210391780855287 tw2328290676054683283 tw23364264591579381 tw2373304565398017655 tw2400346744668071910 tw2502791030731446266 tw2509620373689223830 tw2527126122277456417 tw2540244701605736711 tw2559390124802208354 tw2571561108829378355 tw257687931202616460 tw2679745976245526965 tw2685031445897157139 tw2692028537510019970 tw2698711430721010288 tw2731258510175297143 tw2761667787636133944 tw2768716557193460961 tw2909035747178678124 tw2909714662718011385 tw2912205201991998846 tw2918144578516711704 tw2947261323912408653 tw3049981920605722459 tw3123983128006240069 tw3125018001535492403 tw3158386980060881706 tw3173514374830649205 tw3177099594745698934 tw3204508133845760869 tw3207023092873738066 tw323503079019884591 tw3258759654608334129 tw3274201635630777563 tw3278706590684401708 tw3300280146480018390 tw3321330483283171477 tw3333323260621643614 tw3338787354340227616 tw3340601695231566220 tw3394801293684131784 tw339615904091341071 tw3404723958263292524 tw3434221671337276250 tw3462879475014937466 tw3497144509657743503 tw3501606609880496219 tw3558179645230491668 tw3563952352888666413 tw3649286777042697457 tw3655523533051989457 tw3687735545425436655 tw3699866848466549468 tw3740545228253757655 tw3758702920456537646 tw379058705906494231 tw3798639062272317805 tw3828583589928359760 tw3875300889820506494 tw3884233005876190187 tw3948369876673306612 tw3949668868114701994 tw4023514849358488708 tw4042063607202655556 tw4054306240510502587 tw4082031683073959385 tw4120521525419839577 tw4140661302384375426 tw4152526795666950835 tw4262868760728872671 tw4300476956594462805 tw4311911161809619033 tw4350364472868854225 tw4449954500805967783 tw4460609431914983225 tw447543574781275535 tw4483703259776759040 tw4485391241739460859 tw4533471452522620532 tw4554742388511590837 tw4616032002715930718 tw4646125441652442443 tw4648967850591600958 tw4685816734838687674 tw4732454666268562204 tw4810423915342166937 tw4825735583820878584 tw4901030648143165903 tw4907603809538535001 tw4958117103126642669 tw4962227114228629849 tw4981205021276126667 tw5040709973846646931 tw508553076361502807 tw5103701627674475285 tw5117256721826943068 tw5144645946611243887 tw5149278801321640170 tw51883405175541004 tw5190291205414304514 tw52094376007583202 tw5218451641879309660 tw5253135935794262142 tw5283393866741960398 tw5327547928989383819 tw5327770785000499294 tw5330295213329170521 tw5341941485728735992 tw5354328958536920919 tw5392363568164668451 tw5407651935021077123 tw5429093337320362229 tw544761095045209982 tw5485160054423371781 tw5508228858301467746 tw5576302166951018453 tw57418369279201868 tw5769807747988420671 tw5903323157561238096 tw5910085724008939456 tw5929115200322977778 tw5942469713224770277 tw596694439593569235 tw5987064442613632520 tw5988917502293420413 tw6013266121149376830 tw6104585234014829598 tw6112733093292658834 tw6149826761063700354 tw6189998672358514755 tw6251734681283751440 tw6252486093303616766 tw626742185672930134 tw6373565515056230850 tw6431583737490696318 tw6451506409561481638 tw6453079570788931532 tw6469029525473492536 tw6483668667410853798 tw6553209941246101361 tw6632496102333585939 tw6649499216588956165 tw6654937545579424368 tw6684501298990546579 tw6716545956606750954 tw6726679660379723960 tw6768326621632100183 tw6816035618987092183 tw6991371080733400720 tw6994793949253352869 tw7037233119794799054 tw7042551752083549636 tw7095910782193151617 tw7113789955050590370 tw7157379422675704185 tw7162222620585001588 tw7193748192562005379 tw7244853365813615918 tw7294012548667621105 tw7315393642637827554 tw7342217094564315965 tw7465867169105894528 tw7472860532862667757 tw7473276724406024583 tw7485735319391763609 tw7487415473106548448 tw7520316509223556616 tw7524231317561443706 tw7550226990227177749 tw7574638888223214165 tw7619933008013200589 tw7697783913577724938 tw7797661247816748211 tw7803575857862435333 tw7804906724120091242 tw782034442508680731 tw7823524199600801609 tw7829944311216564242 tw7832147514725253863 tw7833043842079108453 tw7834809058578166513 tw7859535860271793309 tw7864844860041097193 tw7893009680841705846 tw7911080860985986642 tw7953656782358590812 tw8049938321563545125 tw8141685913409233523 tw816308919815783553 tw8165320203439796382 tw8182221989464536797 tw8213051212858498850 tw8219315039684149102 tw8226657158424099667 tw8249657798240191824 tw8270620004959600522 tw8275355715287190960 tw8289341525058993014 tw8325839237753155244 tw8437070305409449100 tw8443933821931020718 tw8497195041281409428 tw849743974621084626 tw8535514290731848342 tw8543914091267615602 tw8561768959471147357 tw8563785674067252553 tw8586646586259931032 tw8615757604710605863 tw8641825573039054766 tw87182217472633297 tw8719434916037191139 tw8723142327749819814 tw8726747052634888914 tw8731069178595972479 tw875603115609089265 tw8771390133210177409 tw8852627903138300562 tw8858311604947759382 tw8882209670184031366 tw8916472552091235944 tw8953581712027202527 tw8974258725831821463 tw9008991374574447707 tw9009797279714094154 tw9027260359563844667 tw9107475018062134686 tw9107543101672674038 tw9150417066615394074 tw9162679950900354103 tw9236190653370716079 tw9272425603133756569 tw9307038174988481764 tw9403047549107965937 tw9420387272194619308 tw9445973526666136966 tw9455641149791605960 tw9473539279823695571 tw9481395385797412708 tw9509871442537651884 tw9619350027531019425 tw9642296728831647886 tw9695165699629721216 tw9706474701618295700 tw9711339073513422131 tw9725613896588041104 tw9767727289160223699 tw9780484488266103523 tw9800520637670799232 tw9821926132409819447 tw988237411441257078 tw9885352304022831982 tw9909786975718442776 tw9915163634079277322 tw9946742314791504995 tw9972066178203641415:True)
open PySem PySem.W PyProof.Rows
set_option maxRecDepth 100000 in
set_option maxHeartbeats 0 in
theorem PySem.Challenge.cw_sumwires_k85_whole_cuts_shown_holds : PySem.Challenge.rw_sumwires_k85_whole_cuts_shown.Holds := by
 w_on;o_law;k_head;(case hw=>w_witness2)
 k_fill
 refine My.walk (l:=PySem.Challenge.rw_sumwires_k85_whole_cuts_shown) rfl rfl (λw h Y=>PySem.W.kIn_of Y) ?F
 case F=>
  intro w mg fa h KX G hmg;refine' My.all_mk KX G hmg _ _ _ _ _ _ _ _ _ _ _ _ _ _ _ _ _ _ _ _ _ _ _ _ _ _ _ _ _ _ _ _ _ _ _ _ _ _ _ _ _ _ _ _ _ _ _ _ _ _ _ _ _ _ _ _ _ _ _ _ _ _ _ _ _ _ _ _ _ _ _ _ _ _ _ _ _ _ _ _ _ _ _ _ _ _ _ _ _ _ _ _ _ _ _ _ _ _ _ _ _ _ _ _ _ _ _ _ _ _ _ _ _ _ _ _ _ _ _ _ _ _ _ _ _ _ _ _ _ _ _ _ _ _ _ _ _ _ _ _ _ _ _ _ _ _ _ _ _ _ _ _ _ _ _ _ _ _ _ _ _ _ _ _ _ _ _ _ _ _ _ _ _ _ _ _ _ _ _ _ _ _ _ _ _ _ _ _ _ _ _ _ _ _ _ _ _ _ _ _ _ _ _ _ _ _ _ _ _ _ _ _ _ _ _ _ _ _ _ _ _ _ _ _ _ _ _ _ _ _ _ _ _ _ _ _ _ _ _ _ _ _ _ _ _ _ _ _ _ _ _ _ _ _ _ _ _ _ _ _ _ _ _ _ _ _ _ _ _ _ _ _ _ _ _ _ _ _ _ _ _ _ _ _ _ _ _ _ _ _ _ _ _ _ _ _ _ _ _ _ _ _ _ _ _ _ _ _ _ _ _ _ _ _ _ _ _ _ _ _ _ _ _ _ _ _ _ _ ?jw _ _ _ _ _ _ _ ?mW _ _ ?jx ?gR _ _ _ _ _ _ _ _ _ _ _ _ _ _ _ _ _ _ _ _ _ _ _ _ _ _ _ _ _ _ _ _ _ _ _ _ _ _ _ _ _ _ _ _ _ _ _ _ _ _ _ _ _ _ _ _ _ _ _ _
  any_goals ((with_reducible show _=_);k_is)
  any_goals (refine' My.FR.mk ?u ?v ?w;(case u=>k_is);(case v=>k_is);(case w=>k_is))
  (case jw=>k_exc)
  (case mW=>k_exc)
  (case jx=>k_exc)
  (case gR=>k_exc)
