import PyProof.Rows.All
import Wide.All
import OpenK.AllK
import Wide.FinOn
import Lean
import PyProof.EqAt
import PyProof.EqKinds
import PyProof.TupleCall
import PyProof.NeKinds
import PyProof.Rows.Range3
import KE.KIsAll
import PyProof.ExcClass3
import PyProof.InstStoreFacts
import PyProof.ExcArgsOwn
import PyProof.ExcBaseAll.ValueError
import PyProof.ExcAttrAll.ValueError
import PyProof.Draws
import PyProof.ZipIter
import PyProof.SumWalk
import PyProof.Rows.FactsT2
import PyProof.EnumMake
import PyProof.Rows.EnumRows
import KE.KTab
import PyProof.StationsW
import PyProof.RulesAs
import PyProof.NsDelKeeps
import PyProof.PassesOwn
import PyProof.Rows.ListMulArg
import PyProof.StrWalks
import PyProof.MeetsStr
import PyProof.MeetsStr2
import PyProof.StrBlockL
import PyProof.SliceStr2
import PyProof.StrLawsIdx
import PyProof.FitsStr
import PyProof.StrLaws
import PyProof.Rows.FStr
import KE.KIntText
import PyProof.StrLawsTight
import PyProof.Rows.StrIntSpec
import PyProof.Rows.CountFlat
import PyProof.Rows.SeqMore2
import PyProof.SeqRoads
import PyProof.StrLawsAffix
import PyProof.InstEq
import PyProof.DictUpdate
import PyProof.DictWalks
import KE.KDictList
import PyProof.FactsAll.NoneType_1
import Wide.Seal
import KE.KSortTup
import PySem.Challenge.RW_cutrestore_k32_words_of_two
set_option compiler.extract_closed false
set_option Elab.async false
set_option linter.all false
set_option maxRecDepth 100000
theorem L2.fo{p:Prop}(h:∀g:Prop,(p->g)->g):p:=h p id
theorem L2.yo1{A:Sort _}{p:A->Prop}{z:Prop}(h:∃a,p a)(y:∀a,p a->z):z:=h.elim λa x=>y a x
theorem L2.yo2{A B:Sort _}{p:A->B->Prop}{z:Prop}(h:∃a b,p a b)(y:∀a b,p a b->z):z:=h.elim λa x=>x.elim λb x=>y a b x
theorem L2.yo3{A B C:Sort _}{p:A->B->C->Prop}{z:Prop}(h:∃a b c,p a b c)(y:∀a b c,p a b c->z):z:=h.elim λa x=>x.elim λb x=>x.elim λc x=>y a b c x
theorem L2.yo4{A B C D:Sort _}{p:A->B->C->D->Prop}{z:Prop}(h:∃a b c d,p a b c d)(y:∀a b c d,p a b c d->z):z:=h.elim λa x=>x.elim λb x=>x.elim λc x=>x.elim λd x=>y a b c d x
theorem L2.yo5{A B C D E:Sort _}{p:A->B->C->D->E->Prop}{z:Prop}(h:∃a b c d e,p a b c d e)(y:∀a b c d e,p a b c d e->z):z:=h.elim λa x=>x.elim λb x=>x.elim λc x=>x.elim λd x=>x.elim λe x=>y a b c d e x
theorem L2.yo6{A B C D E F:Sort _}{p:A->B->C->D->E->F->Prop}{z:Prop}(h:∃a b c d e f,p a b c d e f)(y:∀a b c d e f,p a b c d e f->z):z:=h.elim λa x=>x.elim λb x=>x.elim λc x=>x.elim λd x=>x.elim λe x=>x.elim λf x=>y a b c d e f x
theorem L2.yo7{A B C D E F G:Sort _}{p:A->B->C->D->E->F->G->Prop}{z:Prop}(h:∃a b c d e f g,p a b c d e f g)(y:∀a b c d e f g,p a b c d e f g->z):z:=h.elim λa x=>x.elim λb x=>x.elim λc x=>x.elim λd x=>x.elim λe x=>x.elim λf x=>x.elim λg x=>y a b c d e f g x
theorem L2.yo8{A B C D E F G H:Sort _}{p:A->B->C->D->E->F->G->H->Prop}{z:Prop}(h:∃a b c d e f g h,p a b c d e f g h)(y:∀a b c d e f g h,p a b c d e f g h->z):z:=h.elim λa x=>x.elim λb x=>x.elim λc x=>x.elim λd x=>x.elim λe x=>x.elim λf x=>x.elim λg x=>x.elim λh x=>y a b c d e f g h x
theorem L2.ya2{A B y:Prop}(h:A/\B)(x:A->B->y):y:=x h.1 h.2
theorem L2.ya3{A B C y:Prop}(h:A/\B/\C)(x:A->B->C->y):y:=x h.1 h.2.1 h.2.2
theorem L2.ya4{A B C D y:Prop}(h:A/\B/\C/\D)(x:A->B->C->D->y):y:=x h.1 h.2.1 h.2.2.1 h.2.2.2
theorem L2.ya5{A B C D E y:Prop}(h:A/\B/\C/\D/\E)(x:A->B->C->D->E->y):y:=x h.1 h.2.1 h.2.2.1 h.2.2.2.1 h.2.2.2.2
theorem L2.ya6{A B C D E F y:Prop}(h:A/\B/\C/\D/\E/\F)(x:A->B->C->D->E->F->y):y:=x h.1 h.2.1 h.2.2.1 h.2.2.2.1 h.2.2.2.2.1 h.2.2.2.2.2
theorem L2.ya7{A B C D E F G y:Prop}(h:A/\B/\C/\D/\E/\F/\G)(x:A->B->C->D->E->F->G->y):y:=x h.1 h.2.1 h.2.2.1 h.2.2.2.1 h.2.2.2.2.1 h.2.2.2.2.2.1 h.2.2.2.2.2.2
theorem L2.ya8{A B C D E F G H y:Prop}(h:A/\B/\C/\D/\E/\F/\G/\H)(x:A->B->C->D->E->F->G->H->y):y:=x h.1 h.2.1 h.2.2.1 h.2.2.2.1 h.2.2.2.2.1 h.2.2.2.2.2.1 h.2.2.2.2.2.2.1 h.2.2.2.2.2.2.2
theorem L2.ya9{A B C D E F G H I y:Prop}(h:A/\B/\C/\D/\E/\F/\G/\H/\I)(x:A->B->C->D->E->F->G->H->I->y):y:=x h.1 h.2.1 h.2.2.1 h.2.2.2.1 h.2.2.2.2.1 h.2.2.2.2.2.1 h.2.2.2.2.2.2.1 h.2.2.2.2.2.2.2.1 h.2.2.2.2.2.2.2.2
noncomputable section
section
set_option hygiene false
local macro_rules | `(tactic| calc $e:term) => `(tactic| refine $e)
local macro_rules | `(tactic| lia) => `(tactic| first | with_reducible assumption | exact Nat.zero_le _ | exact Nat.le_refl _ | (refine Nat.le_of_lt ?_; with_reducible assumption) | (refine Nat.lt_succ_of_le ?_; with_reducible assumption) | (refine Int.ofNat_lt.mpr ?_; with_reducible assumption) | (refine Eq.symm ?_; with_reducible assumption) | omega)
local macro_rules | `(tactic| obtain $p:rcasesPatMed := $e:term) => `(tactic| (refine L2.fo λgZ hZ => ?_; rcases $e:term with $p:rcasesPatMed) <;> (refine hZ ?_; clear hZ gZ))
local macro_rules
 | `(tactic| obtain ⟨$ps,*⟩ := $e:term) => do
  let q := ps.getElems
  let n := q.size
  let k0 ← `(tactic| skip)
  let i : Lean.Ident := ⟨e.raw⟩
  let ce ← if e.raw.isIdent then `(tactic| try clear $i:ident) else pure k0
  let mut xs := #[]
  let mut re := #[]
  for p in q do
    let a := p.raw[0][0]
    let x := a[0][0]
    let z := Lean.mkIdent (.num `z_ xs.size)
    let b := x.isIdent && a.getNumArgs == 1 && x.getId != `rfl
    let r ← `(tactic| rcases $z:ident with $p:rcasesPatLo)
    xs := xs.push (if b then ⟨x⟩ else z)
    re := re.push (if b then k0 else r)
  let mut t ← `(tactic| rcases $e:term with ⟨$q,*⟩)
  for m in [2:n+n] do
    let c := if m ≤ n then m - 1 else m - n
    let l := Lean.mkIdent (.str `L2 (if m ≤ n then s!"ya{m}" else s!"yo{c}"))
    let w := q[c:].toArray
    let w ← `(tactic| obtain ⟨$w,*⟩ := zH)
    let f := n ≤ c + 1
    let y := if f then xs else xs[:c].toArray.push (Lean.mkIdent `zH)
    let r := if f then re else re[:c].toArray.push w
    t ← `(tactic| first | (refine $l $e ?_; ($ce:tactic); intro $y*; $[$r]*) | $t:tactic)
  if e.raw.getId == `zH then return t
  `(tactic| (refine L2.fo λgZ hZ => ?_; $t:tactic) <;> (refine hZ ?_; clear hZ gZ))
local macro_rules | `(tactic| nofun) => `(tactic| refine L2.fo λgZ hZ => ?_)
local macro_rules | `(tactic| ac_rfl) => `(tactic| (refine hZ ?_; clear hZ gZ))
local macro_rules | `(()) => `(by lia)
local macro_rules | `(∅) => `(by decide)
local macro_rules | `(⋯) => `(by decide +kernel)
local macro_rules | `(nofun) => `(by simp)
local macro_rules | `(Sort) => `(by grind)
set_option hygiene true
set_option hygiene false
local macro_rules | `(tactic| grind) => `(tactic| first | exact Or.inl rfl | exact Or.inr rfl | assumption)
local macro_rules | `(tactic| exists $n:term) => `(tactic| (have sc : List.Nodup ($n : List PySem.Str) := (by decide +kernel); refine D.ok (N:=$n) (by walk_at "s") (λvs H Q E h => ?_) (λf fF A outer s H vs Q E hr h => ?_); (first | (cases h; subst_vars; rfl) | ((repeat rcases h with ⟨_, h⟩) <;> subst_vars <;> rfl))))
local macro_rules
 | `(tactic| walk_at "xc") => `(tactic| (refine ⟨?_⟩; intro pins s σ H Q I h))
 | `(tactic| walk_at "xd") => `(tactic| (refine ⟨?_⟩; intro pins s σ H D I h))
set_option hygiene true
set_option hygiene false
local macro_rules
 | `(tactic| let ($a,$b,*) := $e) => do
  let w (n : Lean.Syntax) : Lean.MacroM (Lean.TSyntax ``Lean.Parser.Tactic.rcasesPatLo) := do
   let x : Lean.TSyntax `rcasesPat := ⟨n⟩
   `(Lean.Parser.Tactic.rcasesPatLo| $x:rcasesPat)
  let t (p : Array Lean.Syntax) : Lean.MacroM Lean.Syntax := do
   let q ← p.mapM w
   return (← `(rcasesPat| ⟨$q,*⟩)).raw
  let r ← (← `(($a,$b,*))).raw.rewriteBottomUpM λ n => do
   if n.isIdent then
    let i : Lean.Ident := ⟨n⟩
    return (← `(rcasesPat| $i:ident)).raw
   if n.isOfKind ``Lean.Parser.Term.hole then return (← `(rcasesPat| _)).raw
   if n.isOfKind ``Lean.Parser.Term.tuple then return ← t (#[n[1][0]] ++ n[1][2].getSepArgs)
   if n.isOfKind ``Lean.Parser.Term.anonymousCtor then return ← t n[1].getSepArgs
   return n
  let r : Lean.TSyntax `rcasesPat := ⟨r⟩
  `(tactic| obtain $r:rcasesPat := $e)
local macro_rules
 | `(($a,$b,*)) => if a.raw.isOfKind ``Lean.Parser.Term.paren then Lean.Macro.throwUnsupported else `(⟨$a,$b,*⟩)
set_option hygiene true
abbrev L8:= @PySem.F.slot_dict_get
abbrev Vk:= @PySem.F.entry_dict_get
abbrev Wv:= @PySem.F.plainAttrs_dict
abbrev zA4:= @PySem.F.type_dict_get
abbrev zA5:= @PySem.F.excBase_ValueError
abbrev vO:= @PyProof.Rows.boot_isinstance
abbrev pO:= @PySem.F.plainAttrs_list
abbrev rZ:= @PySem.F.slot_list_append
abbrev r6:= @PySem.F.type_list_append
abbrev iY:= @PyProof.Rows.boot_tuple
abbrev MH:= @PyProof.Rows.boot_str
abbrev kW:= @PyProof.Rows.boot_list
abbrev He:= @PyProof.Rows.boot_all
section
open PySem
abbrev j':= @wpAny_bind
abbrev J':= @List.getElem?_map
abbrev K':= @wpAny_pure
abbrev P':= @Heap.get?_push_of_some
abbrev S':= @Nat.le_refl
abbrev T':= @Bool.false_ne_true
abbrev U':= @Nat.le_of_lt
abbrev V':= @Heap.lt_size
abbrev W':= @Nat.lt_of_lt_of_le
abbrev X':= @PySem.boot_len
abbrev Y':= @List.getElem?_append_right
abbrev aaf:= @List.getElem?_append_left
abbrev aas:= @Heap.get?_push_size
abbrev aau:= @List.length_map
abbrev aay:= @List.map_append
abbrev aaD:= @List.mem_cons_of_mem
abbrev aaG:= @List.size_toArray
abbrev aaK:= @List.getD_eq_getElem?_getD
abbrev aaL:= @decide_eq_true
abbrev aaM:= @decide_eq_false
abbrev aaN:= @Nat.ne_of_lt
abbrev aaO:= @Nat.zero_le
abbrev aaP:= @List.append_nil
abbrev aaQ:= @List.length_append
abbrev aaR:= @PySem.mem_of_lookup
abbrev aaS:= @Nat.le_trans
abbrev aaT:= @List.mem_of_getElem?
abbrev aaU:= @List.map_cons
abbrev aaV:= @List.getElem_mem
abbrev aaW:= @List.mem_append_right
abbrev aaX:= @Int.toNat_natCast
abbrev aaY:= @List.mem_cons_self
abbrev aaZ:= @Heap.size_push
abbrev aa0:= @List.take_length
abbrev aa1:= @of_decide_eq_true
abbrev aa2:= @wpAny_mono
abbrev aa3:= @False.elim
abbrev aa4:= @True.intro
abbrev aa5:= @Heap.get?_update_self
abbrev aa6:= @wpAny_field
abbrev aa7:= @wpAny_loadPart_at
abbrev aa8:= @wpAny_holding
abbrev aa9:= @Bool.and_eq_true
abbrev aba:= @wpAny_newObj_type
abbrev abb:= @wpAny_callSpecial?_slot
abbrev abc:= @Int.emod_lt_of_pos
abbrev abd:= @W.mg_none_of
abbrev abe:= @sizeLine_eq
abbrev abf:= @List.length_cons
abbrev abg:= @List.length_take
abbrev abh:= @wpAny_dictEntries
abbrev abi:= @Int.emod_nonneg
abbrev abj:= @Int.eq_ofNat_of_zero_le
abbrev abk:= @Nat.ne_of_gt
abbrev abl:= @Heap.get?_update_other
abbrev abm:= @decide_eq_true_eq
abbrev abn:= @wpAny_call_entry
abbrev abo:= @wpAny_pyIter_tuple
abbrev abp:= @Obj.data_mapFields
abbrev abq:= @Nat.lt_irrefl
abbrev abr:= @wpAny_truthy_bool
abbrev abt:= @List.take_add_one
abbrev abu:= @wpAny_isSubtype_exc
abbrev abv:= @Int.toNat_of_nonneg
abbrev abw:= @List.take_of_length_le
abbrev abx:= @tupleKind_room_in1
abbrev aby:= @Nat.lt_of_le_of_lt
abbrev abz:= @PyProof.Rows.slot_tuple_getitem
abbrev abA:= @List.getElem?_set_ne
abbrev abB:= @wpAny_typeNameOfWhole_keyiter
abbrev abC:= @List.take_append_of_le_length
abbrev abD:= @wpAny_seqItems
abbrev abE:= @List.take_succ
end
section
open PySem
noncomputable abbrev ah:List Str:=["self","way","number","at"]
noncomputable abbrev aK:List Str:=["_law_pot_here","_law_many"]
noncomputable abbrev aP:List Str:=["thing","low","beyond"]
noncomputable abbrev a0:List Str:=["self","way","number"]
noncomputable abbrev bh:List Str:=["self","m"]
noncomputable abbrev bO:List Str:=["thing","many"]
noncomputable abbrev bY:List Str:=["self"]
noncomputable abbrev b0:List Str:=["_law_value_here","_law_state","_law_way","_law_said","_law_modulus"]
noncomputable abbrev cc:List Str:=["_law_run","_law_own","_law_ahead_here","_law_events","_law_cell"]
noncomputable abbrev cx:List Str:=["_law_ahead_here","_law_one","_law_other"]
noncomputable abbrev cG:List Str:=["_law_machine_here","_law_state","_law_way","_law_said"]
noncomputable abbrev c6:List Str:=["self","modulus","numbers","row","deeds"]
noncomputable abbrev c7:List Str:=["value","state","way","said","modulus"]
noncomputable abbrev dn:List Str:=["_law_run","_law_way","_law_one","_law_other"]
noncomputable abbrev du:List Str:=["numbers","deed","worths","modulus"]
noncomputable abbrev dU:List Str:=["self","machines","ways","letters"]
noncomputable abbrev dV:List Str:=["self","way","said","sender"]
noncomputable abbrev d8:List Str:=["things","least","most","modulus"]
noncomputable abbrev ef:List Str:=["modulus","numbers","row","deeds"]
noncomputable abbrev eg:List Str:=["run","m","c"]
noncomputable abbrev eh:List Str:=["_law_k","_law_pot_here","_law_modulus"]
noncomputable abbrev ek:List Str:=["_law_one","_law_way","_law_said","_law_numbers","_law_row","_law_machine_here"]
noncomputable abbrev et:List Str:=["things","least","most"]
noncomputable abbrev eu:List Str:=["_law_run","_law_way","_law_number"]
noncomputable abbrev eD:List Str:=["machines","ways","letters"]
noncomputable abbrev eH:List Str:=["_law_script","_law_k"]
noncomputable abbrev eN:List Str:=["_law_run","_law_own","_law_load"]
noncomputable abbrev eO:List Str:=["run","event","other"]
noncomputable abbrev e8:List Str:=["_law_net_here"]
noncomputable abbrev fh:List Str:=["_law_k","_law_told","_law_m"]
noncomputable abbrev fv:List Str:=["value","state","way","said"]
noncomputable abbrev fx:List Str:=["_law_script"]
noncomputable abbrev fy:List Str:=["self","state","way","said"]
noncomputable abbrev fN:List Str:=["thing","sort","many"]
noncomputable abbrev gg:List Str:=["row","deed","worths"]
noncomputable abbrev gI:List Str:=["_law_run","_law_way"]
noncomputable abbrev g0:List Str:=["self","m","end"]
noncomputable abbrev g8:List Str:=["_law_run"]
noncomputable abbrev hC:List Str:=["_law_own","_law_cell"]
noncomputable abbrev hE:List Str:=["self","way","at"]
noncomputable abbrev hH:List Str:=["machine"]
noncomputable abbrev hI:List Str:=["deed","worths"]
end
namespace L2
open PySem PySem.Spec PyProof.Rows
section
theorem cT{α:Type _}{l:List α}{i:Nat}(h:i<l.length):l[i]?=some l[i]:=List.getElem?_eq_getElem h
abbrev Key:=Sum Int Str
noncomputable def vP:Key->Value->Bool
 | .inl k,v=>Value.isInt k v
 | .inr x,v=>Value.isStrOf x v
noncomputable def acb(w:World):Key->Int
 | .inl k=>hashInt k
 | .inr x=>hashStr w x
theorem dw:∀{k:Key}{v:Value},vP k v=true->(∃i t,k=Sum.inl i/\v=Value.int i t)\/(∃x t,k=Sum.inr x/\v=Value.str x t)
 | .inl i,v,h=>by
  let(t,e):=Value.isInt_shape (k:=i) (v:=v) h;calc .inl (i,t,rfl,e)
 | .inr x,v,h=>by
  let(t,e):=Value.isStrOf_shape (x:=x) (v:=v) h;calc .inr (x,t,rfl,e)
theorem EH(i:Int)(t:Tok):vP (.inl i) (.int i t)=true:=by simp[vP,Value.isInt]
theorem EI(x:Str)(t:Tok):vP (.inr x) (.str x t)=true:=by simp[vP,Value.isStrOf]
theorem Rg(a b:Int):decide ((Sum.inl a:Key)=Sum.inl b)=(a==b):=by
 by_cases e:a=b
 ·subst e;simp
 ·have h:¬(Sum.inl a:Key)=Sum.inl b:=λq=>e (Sum.inl.inj q);rw[aaM h];calc(beq_eq_false_iff_ne.mpr e).symm
theorem Rh(a b:Str):decide ((Sum.inr a:Key)=Sum.inr b)=decide (a=b):=by
 by_cases e:a=b
 ·subst e;simp
 ·have h:¬(Sum.inr a:Key)=Sum.inr b:=λq=>e (Sum.inr.inj q);rw[aaM h,aaM e]
theorem Ri(a:Int)(b:Str):decide ((Sum.inl a:Key)=Sum.inr b)=false:=aaM (λq=>nomatch q)
theorem Rj(a:Str)(b:Int):decide ((Sum.inr a:Key)=Sum.inl b)=false:=aaM (λq=>nomatch q)
noncomputable def bM(prog:Program)(w:World):PySem.KeyKind prog w Key where
 is:=vP
 hash:=acb w
 inj:=λv a b f d=>by
  rcases dw f with⟨i,t,rfl,rfl⟩|⟨x,t,rfl,rfl⟩
  ·rcases dw d with⟨j,u,rfl,e⟩ | ⟨y,u,rfl,e⟩
   ·injection e with e1 _;rw[e1]
   ·exact nomatch e
  ·rcases dw d with⟨j,u,rfl,e⟩ | ⟨y,u,rfl,e⟩
   ·exact nomatch e
   ·injection e with e1 _;rw[e1]
 byValue:=λk v h=>by
  rcases dw h with⟨i,t,rfl,rfl⟩|⟨x,t,rfl,rfl⟩<;>rfl
 pyHash:=λc h=>by
  rcases dw c with⟨i,t,rfl,rfl⟩|⟨x,t,rfl,rfl⟩
  ·exact wpAny_pyHash_int h
  ·exact wpAny_pyHash_str h
 eqBool:=λg c h=>by
  rcases dw g with⟨i,t,rfl,rfl⟩|⟨x,t,rfl,rfl⟩
  ·rcases dw c with⟨j,u,rfl,rfl⟩ | ⟨y,u,rfl,rfl⟩
   ·rw[Rg]at h;exact wpAny_eqBool_int h
   ·rw[Ri]at h;exact SeqAt.EqAt.int_str i t y u _ _ _ _ h
  ·rcases dw c with⟨j,u,rfl,rfl⟩ | ⟨y,u,rfl,rfl⟩
   ·rw[Rj]at h;exact SeqAt.EqAt.str_int x t j u _ _ _ _ h
   ·rw[Rh]at h;exact wpAny_eqBool_str h
 «strs»:=λk x t v h=>by
  rcases dw h with⟨i,u,rfl,e⟩|⟨y,u,rfl,e⟩
  ·exact nomatch e
  ·injection e with e1 _
   subst e1
   cases v<;>rfl
theorem yJ(prog:Program)(w:World)(i:Int)(t:Tok):(bM prog w).is (.inl i) (.int i t)=true:=EH i t
theorem yK(prog:Program)(w:World)(x:Str)(t:Tok):(bM prog w).is (.inr x) (.str x t)=true:=EI x t
end
section
variable {a b:Addr}{H:Hp}
inductive V where
 |bG|bl (b:Bool)|int (i:Int)|str (x:Str)|CB (b:Array UInt8)|Pg (b:UInt64)|ref (a:Addr)|ty (n:String)
 deriving DecidableEq
def RelV:V->Value->Prop
 | .bG,u=>u=Value.none
 | .bl b,u=>u=Value.bool b
 | .int i,u=>∃t,u=Value.int i t
 | .str x,u=>∃t,u=Value.str x t
 | .CB b,u=>∃t,u=Value.bytes b t
 | .Pg b,u=>∃t,u=Value.float b t
 | .ref a,u=>u=Value.ref a
 | .ty n,u=>u=Value.type n
abbrev Vals:List V->List Value->Prop:=Paired RelV
theorem Vals.length{xs:List V}{us:List Value}(r:Vals xs us):xs.length=us.length:=Paired.length r
theorem Vals.get:∀{xs:List V}{us:List Value}{i:Nat}{x:V},Vals xs us->xs[i]?=some x->∃u,us[i]?=some u/\RelV x u
 |_,_,_,_,.nil,e=>by simp at e
 |_,_,0,_,.cons r _,e=>by simp at e;subst e;calc(_,rfl,r)
 |_,_,i+1,x,.cons _ t,e=>by
  let(u,a,b):=Vals.get (i:=i) (x:=x) t (by simpa using e);calc(u,by simpa using a,b)
theorem Vals.set{x:V}{u:Value}(r:RelV x u):∀{xs:List V}{us:List Value}(i:Nat),Vals xs us->Vals (xs.set i x) (us.set i u)
 |_,_,_,.nil=>.nil
 |_,_,0,.cons _ t=>.cons r t
 |_,_,i+1,.cons q t=>.cons q (Vals.set r i t)
theorem Vals.append:∀{xs a:List V}{us ws:List Value},Vals xs us->Vals a ws->Vals (xs++a) (us++ws)
 |_,_,_,_,.nil,s=>s
 |_,_,_,_,.cons r t,s=>.cons r (Vals.append t s)
theorem Vals.take:∀{xs:List V}{us:List Value}(n:Nat),Vals xs us->Vals (xs.take n) (us.take n)
 |_,_,0,_=>.nil
 |_,_,_+1,.nil=>.nil
 |_,_,n+1,.cons r t=>.cons r (Vals.take n t)
theorem Vals.drop:∀{xs:List V}{us:List Value}(n:Nat),Vals xs us->Vals (xs.drop n) (us.drop n)
 |_,_,0,r=>r
 |_,_,_+1,.nil=>.nil
 |_,_,n+1,.cons _ t=>Vals.drop n t
def j4:Option V->Option Value->Prop
 |some v,some u=>RelV v u
 |none,none=>True
 |_,_=>False
def KV{κ:Type}:List (κ×V)->List (κ×Value)->Prop:=Paired λ(p:κ×V) (q:κ×Value)=>p.1=q.1/\RelV p.2 q.2
noncomputable def kV:Key->V
 | .inl i=>.int i
 | .inr x=>.str x
inductive HO where
 |lst (xs:List V)
 |tup (xs:List V)
 |dK (aL:List (Key×V))|dT (aL:List (List Key×V))
 |set (S:Int->Bool) (n:Nat)
 |ins (C dx:Addr) (fs:List (Str×V))
 |own (x:Addr)
 |xd (fs:List (Str×V))
 |met (f x:Addr)
 |rng (lo hi:Int)
 |AJ (o:Obj) (u:HO)
 |Rk (ps:Array Value)
 |ext (φ:Heap->Prop)
abbrev Hp:=Addr->Option HO
noncomputable def upd(H:Hp)(a:Addr)(o:HO):Hp:=λb=>if b=a then some o else H b
theorem af{o:HO}:upd H a o a=some o:=by unfold upd;rw[if_pos rfl]
theorem ay{o:HO}(h:b≠a):upd H a o b=H b:=by unfold upd;rw[if_neg h]
theorem gK{o u:HO}(h:H a=some o)(h':H b=some u)(d:o≠u):a≠b:=by
 intro e;subst e;rw[h]at h';calc d (Option.some.inj h')
theorem au{o:HO}(h:H a=some o)(h':H b=none):a≠b:=by
 intro e;subst e;rw[h]at h';cases h'
section
variable (P:Program)(w:World)
def cA(H:Hp)(h:Heap)(a:Addr):HO->Prop
 | .lst xs=>xs.length<=sizeLine/\∃(b:List Value) (n:Nat),Vals xs b/\h.get? a=some {cls:=.type "list",data:=.seq b.toArray n}
 | .tup xs=>xs.length<=sizeLine/\∃b:List Value,Vals xs b/\IsTup h a b.toArray
 | .dK b=>b.length<=sizeLine/\(a==sysModules)=false/\∃vs,KV b vs/\h.DictOf (bM P w) a vs
 | .dT b=>b.length<=sizeLine/\(a == sysModules)=false/\∃xs:List (List Key×Addr×Value),
   Paired (λ(p:List Key×V) (q:List Key×Addr×Value)=>p.1=q.1/\H q.2.1=some (.tup (p.1.map kV))/\RelV p.2 q.2.2) b xs/\
   ∃o es ep,h.get? a=some o/\o.ExactDict/\o.data=.dict es ep/\es.toList=xs.map (entryOfKey (tupleKind (bM P w)))/\(xs.map (·.1)).Nodup
 | .set S n=>h.SetOf (intKind P w) a S n
 | .ins C d c=>H d=some (.own a)/\c.length<=1000/\d≠a/\h.get? a=some (W.instObj C d)/\
   ∃b,h.Ns1 d b/\(∀f,j4 (c.lookup f) (b f))/\PySem.Within b (c.map (·.1))
 | .own _=>∃o,h.get? a=some o
 | .xd c=>∃b,h.Ns1 a b/\∀f,j4 (c.lookup f) (b f)
 | .rng b c=>∃t u v,h.get? a=some {cls:=.type "range",data:=.fields #[.int b t,.int c u,.int 1 v]}
 | .AJ o u=>h.get? a=some o/\cA H h a u
 | .Rk b=>h.get? a=some {cls:=.none,data:=.fields b}
 | .met f x=>h.get? a=some (W.methodObj (.ref f) (.ref x))
 | .ext φ=>φ h/\(∃o,h.get? a=some o)/\∀b c:Heap,φ b->(∀o,b.get? a=some o->c.get? a=some o)->φ c
def mS(H:Hp)(h:Heap):Prop:=∀a o,H a=some o->cA P w H h a o
end
section
variable {P:Program}{w:World}{H H':Hp}{h h':Heap}{a:Addr}{o:HO}
theorem cA.lt(x:cA P w H h a o):a<h.objs.size:=by
 cases o with
 |lst b=>let(_,_,_,_,e):=x;calc V' e
 |tup b=>let(_,_,_,p):=x;calc p.lt
 |dK b=>let(_,_,_,_,o,_,_,e,_):=x;calc V' e
 |dT b=>let(_,_,_,_,o,_,_,e,_):=x;calc V' e
 |set S n=>let(o,_,_,_,e,_):=x;calc V' e
 |ins C c b=>let(_,_,_,e,_):=x;calc V' e
 |own y=>let(_,e):=x;calc V' e
 |xd b=>let(_,(_,_,_,e,_),_):=x;calc V' e
 |rng b c=>let(_,_,_,e):=x;calc V' e
 |AJ b u=>let(e,_):=x;calc V' e
 |Rk b=>calc V' (show h.get? a=some _ from x)
 |met f y=>calc V' (show h.get? a=some _ from x)
 |ext φ=>let(_,(_,e),_):=x;calc V' e
theorem Paired.EJ{α β:Type}{F G:α->β->Prop}:∀{c:List α}{d:List β},Paired F c d->(∀a b,F a b->G a b)->Paired G c d
 |_,_,.nil,_=>.nil
 |_,_,.cons r t,f=>.cons (f _ _ r) (Paired.EJ t f)
theorem cA.aM(x:cA P w H h a o)(k:∀b u,(b=a\/H b=some (.own a))->h.get? b=some u->h'.get? b=some u)
  (m:∀b,H b=some (.own a)->H' b=some (.own a)) (j:∀b xs,H b=some (.tup xs)->H' b=some (.tup xs)):cA P w H' h' a o:=by
 induction o with
 |lst xs=>let(z,d,n,r,e):=x;calc(z,d,n,r,k _ _ (.inl rfl) e)
 |tup xs=>let(z,d,r,f,e,c):=x;calc(z,d,r,f,k _ _ (.inl rfl) e,c)
 |dK d=>let(z,y,l,r,f,g,i,e,c):=x;calc(z,y,l,r,f,g,i,k _ _ (.inl rfl) e,c)
 |dT d=>
  let(z,y,xs,r,f,g,i,e,c):=x;calc(z,y,xs,Paired.EJ r λp q z=>(z.1,j _ _ z.2.1,z.2.2),f,g,i,k _ _ (.inl rfl) e,c)
 |set S n=>let(f,g,i,t,e,c):=x;calc(f,g,i,t,k _ _ (.inl rfl) e,c)
 |ins C d n=>
  let(d,z,s,e,j,(l,g,i,v,c),r):=x;calc(m _ d,z,s,k _ _ (.inl rfl) e,j,(l,g,i,k _ _ (.inr d) v,c),r)
 |own y=>let(f,e):=x;calc(f,k _ _ (.inl rfl) e)
 |xd n=>let(j,(l,g,i,e,c),r):=x;calc(j,(l,g,i,k _ _ (.inl rfl) e,c),r)
 |rng c d=>let(t,u,v,e):=x;calc(t,u,v,k _ _ (.inl rfl) e)
 |AJ f u c=>let(e,q):=x;calc(k _ _ (.inl rfl) e,c q)
 |Rk c=>
  have e:h.get? a=some {cls:=.none,data:=.fields c}:=x;show h'.get? a=some {cls:=.none,data:=.fields c};calc k a _ (.inl rfl) e
 |met f y=>
  have e:h.get? a=some (W.methodObj (.ref f) (.ref y)):=x;show h'.get? a=some (W.methodObj (.ref f) (.ref y));calc k a _ (.inl rfl) e
 |ext φ=>let(p,(o,e),c):=x;calc(c _ _ p λo q=>k _ _ (.inl rfl) q,(o,k _ _ (.inl rfl) e),c)
theorem mS.lt(x:mS P w H h)(e:H a=some o):a<h.objs.size:=(x a o e).lt
theorem mS.fresh(x:mS P w H h)(e:h.objs.size<=a):H a=none:=by
 cases q:H a with
 |none=>rfl
 |some u=>calc absurd (W' (x.lt q) e) (abq _)
theorem mS.kept(x:mS P w H h)(k:∀b u,h.get? b=some u->h'.get? b=some u):mS P w H h':=λa o e=>
 (x a o e).aM (λb u _ q=>k b u q) (λ_ q=>q) λ_ _ q=>q
theorem mS.laid(x:mS P w H h)(k:∀b u,h.get? b=some u->h'.get? b=some u)(g:h.objs.size<=a)(c:cA P w (upd H a o) h' a o):mS P w (upd H a o) h':=λb u e=>by
 have d:=x.fresh g;by_cases f:b=a
 ·subst f;rw[af]at e;cases e;exact c
 ·rw[ay f]at e;exact(x b u e).aM (λc v _ q=>k c v q) (λc q=>by rw[ay (au q d)];calc q) λc e q=>by rw[ay (au q d)];calc q
end
def Rd(H:Hp)(a:Addr)(u:HO):Prop:=H a=some u\/∃o,H a=some (.AJ o u)
theorem Rd.ok{P:Program}{w:World}{h:Heap}{u:HO}(r:Rd H a u)(x:mS P w H h):cA P w H h a u:=by
 rcases r with r|⟨o,r⟩
 ·exact x a u r
 ·let(_,q):=x a _ r;calc q
def Ww:Option HO->Prop
 |some (.lst _)=>True
 |some (.dK _)=>True
 |some (.dT _)=>True
 |some (.set _ _)=>True
 |some (.ins _ _ _)=>True
 |some (.ext _)=>True
 |_=>False
section
variable {P:Program}{w:World}{H:Hp}{h h':Heap}{x e:Addr}{o':HO}
theorem mS.write(o:mS P w H h)(a:Ww (H x))(l:e=x\/H e=some (.own x))(k:∀b u,b≠e->h.get? b=some u->h'.get? b=some u)(p:∃u,h'.get? e=some u)
  (j:cA P w (upd H x o') h' x o'):mS P w (upd H x o') h':=λb u q=>by
 have m:∀c y,H c=some (.own y)->c≠x:=λc y r z=>by subst z;rw[r]at a;exact a
 have s:∀c d,H c=some (.tup d)->c≠x:=λc d r z=>by subst z;rw[r]at a;exact a
 by_cases f:b=x
 ·subst f;rw[af]at q;cases q;exact j
 ·rw[ay f] at q;by_cases g:b=e
  ·have n:H b=some (.own x):=by
    rcases l with z|z
    ·exact absurd (g.trans z) f
    ·rw[g];exact z
   rw[q]at n;cases n;let(v,a):=p;exact(v,by rw[g];calc a)
  ·refine(o b u q).aM (λc v i r=>k c v ?_ r) (λc r=>by rw[ay (m c b r)];calc r) λc d r=>by rw[ay (s c d r)];exact r
   rcases i with rfl|i
   ·exact g
   ·rintro rfl;rcases l with z | z
    ·exact m c b i z
    ·rw[i]at z;cases z;calc f rfl
end
structure Un(fs ex:List Addr)(H H':Hp)(h h':Heap):Prop where
 keep:∀b o,h.get? b=some o->H b=none->b∉fs->b∉ex->h'.get? b=some o
 slot:∀b o,h.get? b=some o->H b=none->b∈fs->b∉ex->∃sl,h'.get? b=some {o with slots:=sl}
 free:∀b o,h.get? b=some o->H b=none->b∉ex->H' b=none
 there:∀b o,h.get? b=some o->b∉ex->∃o',h'.get? b=some o'
 aU:∀b xs,H b=some (.tup xs)->H' b=some (.tup xs)
 u7:∀b o u,H b=some (.AJ o u)->H' b=some (.AJ o u)
 xo:∀b ps,H b=some (.Rk ps)->∃more,H' b=some (.Rk (ps++more))
section
variable {fs vQ ex ex':List Addr}{H H1 H2:Hp}{h h1 h2 h':Heap}{a x e:Addr}{o:HO}
theorem Un.any(u:Un fs ex H H1 h h1){b:Addr}{ob:Obj}(q:h.get? b=some ob)(n:H b=none)(a:b∉ex):∃c,h1.get? b=some {ob with slots:=c}:=by
 by_cases c:b∈fs
 ·exact u.slot b ob q n c a
 ·calc(ob.slots,u.keep b ob q n c a)
theorem Un.kept(k:∀b u,h.get? b=some u->h'.get? b=some u):Un fs ex H H h h':=
 (λb a q _ _ _=>k b a q,λb a q _ _ _=>(a.slots,k b a q),λ_ _ _ n _=>n,λb a q _=>(a,k b a q),λ_ _ q=>q,λ_ _ _ q=>q,λ_ a q=>(#[],by rw[q];simp))
theorem Un.refl:Un fs ex H H h h:=Un.kept λ_ _ q=>q
theorem Un.laid(k:∀b u,h.get? b=some u->h'.get? b=some u)(d:h.objs.size<=a)(c:H a=none):Un fs ex H (upd H a o) h h' where
 keep:=λb u q _ _ _=>k b u q
 slot:=λb u q _ _ _=>(u.slots,k b u q)
 free:=λb u q n _=>by rw[ay (aaN (W' (V' q) d))];exact n
 there:=λb u q _=>(u,k b u q)
 aU:=λb d q=>by rw[ay (au q c)];exact q
 u7:=λb u d q=>by rw[ay (au q c)];exact q
 xo:=λb d q=>(#[],by rw[ay (au q c),q];simp)
theorem Un.write(a:Ww (H x))(i:e=x\/H e=some (.own x))(k:∀b u,b≠e->h.get? b=some u->h'.get? b=some u)(j:∃u,h'.get? e=some u):Un fs ex H (upd H x o) h h':=by
 have d:∀b,H b=none->b≠x:=λb n z=>by subst z;rw[n]at a;exact a
 have f:∀b,H b=none->b≠e:=λb n z=>by
  subst z;rcases i with r|r
  ·exact d b n r
  ·rw[n]at r;cases r
 have c:∀b u,H b=some u->¬Ww (some u)->b≠x:=λb u q l z=>by subst z;rw[q]at a;exact l a
 refine(λb u q n _ _=>k b u (f b n) q,λb u q n _ _=>(u.slots,k b u (f b n) q),λb u q n _=>by rw[ay (d b n)];exact n,λb u q _=>?_,
  λb a q=>by rw[ay (c b _ q λz=>z)];calc q,λb u a q=>by rw[ay (c b _ q λz=>z)];calc q,λb a q=>(#[],by rw[ay (c b _ q λz=>z),q];simp))
 by_cases g:b=e
 ·subst g;exact j
 ·calc(u,k b u g q)
end
noncomputable def trk(h:Heap)(H:Hp):List Addr:=(List.range h.objs.size).filter λa=>(H a).isSome
noncomputable def xq(h:Heap)(H:Hp):Heap:=W.hideAll h (trk h H)
theorem EK(h:Heap)(H:Hp):(xq h H).objs.size=h.objs.size:=W.hideAll_size _ _
theorem Hf{h:Heap}{o:Obj}(e:h.get? b=some o)(n:H b=none):(xq h H).get? b=some o:=
 W.hideAll_get _ e λa=>by
  have q:(H b).isSome=true:=(List.mem_filter.mp a).2;rw[n]at q;simp at q
theorem MK{h:Heap}{H:Hp}{b:Addr}{o:Obj}(e:(xq h H).get? b=some o):h.get? b=some o/\H b=none:=by
 have a:h.get? b=some o:=W.of_hideAll (trk h H) e;refine(a,?_)
 cases q:H b with
 |none=>rfl
 |some x=>
  have c:b∈trk h H:=List.mem_filter.mpr (List.mem_range.mpr (V' a),by simp[q]);have z:(xq h H).get? b=none:=W.hideAll_none (trk h H) c;rw[z]at e;cases e
end
section
variable {A:Around}{ch:List Addr}{t':Nat}{E:Value->Shared->Prop}
structure Mod(K:W.Frag)(mg:Str->Option Value)(base:Heap):Prop where
 A0:K.In base
 glob:base.Ns mainGlobals mg
 blt:∃mb,base.Ns builtinsNs mb/\∀x:Str,x≠"__name__"->mb x=bootBuiltins x
 nolimit:base.NoLimit
structure Cx where
 prog:Program
 w:World
 K:W.Frag
 mg:Str->Option Value
 base:Heap
 A:Around
 N:List Str
 s₀:Shared
 H₀:Hp
 env:Env
 outer:List Env
 stack:List Env
 ex:List Addr
 fn:Str->Bool
 calm:Bool
 pn:List (Addr×Obj)
 xe:Value->Shared->Prop
noncomputable def yC(l:List Env):List Addr:=l.filterMap (·.frame)
noncomputable abbrev Cx.fs(X:Cx):List Addr:=yC X.outer
def Wy(sc:Scope)(x:Str):Prop:=sc.names.lookup x=some .local\/sc.names.lookup x=some .cell\/sc.names.lookup x=some .free
def Loc(sc:Scope)(x:Str):Prop:=sc.names.lookup x=some .local\/sc.names.lookup x=some .cell
def Look(env:Env)(h:Heap)(m:Str->Option Value)(x:Str)(u:Value):Prop:=
 (env.kindOf x=some .local/\m x=some u)\/((env.kindOf x=some .cell\/env.kindOf x=some .free)/\∃c,env.cells.lookup x=some c/\h.IsCell c (some u))
structure Cx.Ok(X:Cx):Prop where
 mod:Mod X.K X.mg X.base
 kind:X.env.scope.kind=.function
 glob:X.env.globals=mainGlobals
 blt:X.env.builtins=builtinsNs
 above:X.s₀.heap.objs.size<=X.env.locals
 inj:∀x y c,X.env.cells.lookup x=some c->X.env.cells.lookup y=some c->x=y
 has:∀x,(X.env.kindOf x=some .cell\/X.env.kindOf x=some .free)->∃c,X.env.cells.lookup x=some c
 Rl:∀x c,X.fn x=true->X.env.cells.lookup x=some c->X.s₀.heap.objs.size<=c
 hd:X.calm=true->X.A.handled=none
 frames:X.A.frames=some X.stack
 Vl:X.stack=X.outer\/(X.stack=X.env::X.outer/\X.env.frame=some X.env.locals)
 Wz:∀b∈X.ex,b≠X.env.locals/\∀x c,X.env.cells.lookup x=some c->c≠b
 bs:∀b o,X.base.get? b=some o->X.s₀.heap.get? b=some o/\X.H₀ b=none
 GH:X.base.objs.size<=X.s₀.heap.objs.size
 yL:∀b o,X.base.get? b=some o->b∉X.ex
 A7:∀b∈X.ex,b∉X.fs
 oH:X.s₀.heap.FunFrames X.base X.outer
 ML:∀b∈X.fs,X.H₀ b=none
structure Inv(X:Cx)(pins:List (Addr×Obj))(σ:List (Option V))(H:Hp)(s:Shared):Prop where
 ok:X.Ok
 os:s.os=X.s₀.os
 bare:AllBare s.gens
 base:Un X.fs X.ex X.H₀ H X.s₀.heap s.heap
 loc:∃m,s.heap.Ns X.env.locals m/\∀(i:Nat) (x:Str) (v:V),X.N[i]?=some x->σ[i]?=some (some v)->Wy X.env.scope x->∃u,RelV v u/\Look X.env s.heap m x u
 cell:∀x c,X.env.cells.lookup x=some c->∃v,s.heap.IsCell c v
 free:H X.env.locals=none
 i8:∀x c,X.env.cells.lookup x=some c->H c=none
 pin:∀p∈X.pn++pins,s.heap.get? p.1=some p.2/\H p.1=none/\p.1≠X.env.locals/\p.1∉X.fs/\∀v,p.2.data≠.cell v
 aW:mS X.prog X.w H s.heap
 len:σ.length=X.N.length
section
variable {X:Cx}{pins:List (Addr×Obj)}{σ:List (Option V)}{H H':Hp}{s:Shared}{h':Heap}
theorem Cx.Ok.Rm(a:X.Ok){b:Addr}{o:Obj}(e:X.base.get? b=some o):b∉X.fs:=λc=>by
 have:=(a.oH.mem c).1;rw[e]at this;cases this
theorem Inv.bs(I:Inv X pins σ H s):∀b o,X.base.get? b=some o->s.heap.get? b=some o/\H b=none:=λb o e=>
 (I.base.keep b o (I.ok.bs b o e).1 (I.ok.bs b o e).2 (I.ok.Rm e) (I.ok.yL b o e),I.base.free b o (I.ok.bs b o e).1 (I.ok.bs b o e).2 (I.ok.yL b o e))
theorem Inv.bk(I:Inv X pins σ H s):∀b o,X.base.get? b=some o->s.heap.get? b=some o:=λb o e=>(I.bs b o e).1
theorem Inv.mod(I:Inv X pins σ H s):Mod X.K X.mg X.base:=I.ok.mod
theorem Inv.il(I:Inv X pins σ H s):X.K.In s.heap:=I.ok.mod.A0.keeps I.bk
theorem Inv.lt(I:Inv X pins σ H s):X.env.locals<s.heap.objs.size:=let ⟨_,a,_⟩:=I.loc;a.lt
theorem Inv.sz(I:Inv X pins σ H s):X.s₀.heap.objs.size<=s.heap.objs.size:=aaS I.ok.above (U' I.lt)
theorem Inv.Rn(I:Inv X pins σ H s){a:Addr}(h:s.heap.objs.size<=a):a∉X.fs:=λa=>by
 let(_,o,b,_):=I.ok.oH.mem a;calc absurd (W' (V' b) (aaS I.sz h)) (abq _)
theorem Inv.Hg(I:Inv X pins σ H s):∀x c,X.env.cells.lookup x=some c->c≠X.env.locals:=λx c e z=>by
 let(v,o,a,b):=I.cell x c e;let(m,(g,h,i,d,f,_),_):=I.loc;rw[z,d]at a;cases a;rw[f]at b;cases b
theorem Inv.oH(I:Inv X pins σ H s):s.heap.FunFrames X.base X.outer:=by
 have a:∀(l:List Env),(∀b∈yC l,b∈X.fs)->X.s₀.heap.FunFrames X.base l->s.heap.FunFrames X.base l:=by
  intro l;induction l with
  |nil=>intro _ _;trivial
  |cons c r h=>
   intro g e;let(i,(L,o,c,j,f,k),l):=e;have d:L∈X.fs:=g L (by unfold yC;rw[List.filterMap_cons,c];calc aaY);let(m,e):=I.base.slot L o f (I.ok.ML L d) d λz=>I.ok.A7 L z d;exact(i,(L,_,c,j,e,k),h (λb f=>g b (by unfold yC;rw[List.filterMap_cons,c];calc aaD _ f)) l)
 calc a X.outer (λ_ f=>f) I.ok.oH
theorem Inv.stack(I:Inv X pins σ H s):s.heap.FunFrames X.base X.stack:=by
 rcases I.ok.Vl with e|⟨e,a⟩
 ·rw[e];exact I.oH
 ·rw[e];let(m,b,_):=I.loc;calc .cons (by rw[I.ok.kind];decide) a b ?_ I.oH;calc Heap.get?_none_of_le (aaS I.ok.GH I.ok.above)
theorem Inv.xt(I:Inv X pins σ H s):∀b∈yC X.stack,b∈X.env.locals::X.fs:=λb a=>by
 rcases I.ok.Vl with e|⟨e,b⟩
 ·rw[e]at a;exact aaD _ a
 ·rw[e]at a;unfold yC at a;rw[List.filterMap_cons,b]at a;calc a
theorem Inv.r9(I:Inv X pins σ H s):∀b∈yC X.stack,H b=none:=λb a=>by
 rcases List.mem_cons.mp (I.xt b a) with e|a
 ·rw[e];exact I.free
 ·let(_,o,c,_):=I.ok.oH.mem a;calc I.base.free b o c (I.ok.ML b a) λz=>I.ok.A7 b z a
theorem Inv.step{g':Array GenState}{t':Nat}{d':Drawn}(I:Inv X pins σ H s)
  (t:∀b∈ch,(b∈X.ex\/X.s₀.heap.objs.size<=b)/\b≠X.env.locals/\(∀x c,X.env.cells.lookup x=some c->c≠b)/\∀p∈X.pn++pins,p.1≠b)
  (keep:∀b o,b≠X.env.locals->b∉X.fs->b∉ch->s.heap.get? b=some o->H b=none->h'.get? b=some o)
  (slot:∀b o,b≠X.env.locals->b∈X.fs->b∉ch->s.heap.get? b=some o->H b=none->∃D,h'.get? b=some {o with slots:=D}) (free:∀b o,b∉ch->s.heap.get? b=some o->H b=none->H' b=none)
  (there:∀b o,b∉ch->s.heap.get? b=some o->∃k,h'.get? b=some k)
  (J:∀b xs,H b=some (.tup xs)->H' b=some (.tup xs)) (K:∀b o u,H b=some (.AJ o u)->H' b=some (.AJ o u)) (L:∀b C,H b=some (.Rk C)->∃q,H' b=some (.Rk (C++q)))
  (M:∀m,s.heap.Ns X.env.locals m->h'.Ns X.env.locals m) (N:mS X.prog X.w H' h') (O:AllBare g'):
  Inv X pins σ H' {s with heap:=h',gens:=g',drawn:=d',toks:=t'}:=by
 have y:∀b o,X.s₀.heap.get? b=some o->b≠X.env.locals:=λb o e=>aaN (W' (V' e) I.ok.above);have f:∀b o,X.s₀.heap.get? b=some o->b∉X.ex->b∉ch:=λb o e a h=>by
  rcases(t b h).1 with z|z
  ·exact a z
  ·exact absurd (W' (V' e) z) (abq _)
 have d:∀x c,X.env.cells.lookup x=some c->∀v,s.heap.IsCell c v->h'.IsCell c v:=λx c e v (o,j,E)=>by
  have A:c∉ch:=λz=>(t c z).2.2.1 x c e rfl;by_cases F:c∈X.fs
  ·let(D,q):=slot c o (I.Hg x c e) F A j (I.i8 x c e);exact(_,q,E)
  ·exact(o,keep c o (I.Hg x c e) F A j (I.i8 x c e),E)
 refine(I.ok,I.os,O,(λb o e n h a=>?_,λb o e n h a=>?_,λb o e n a=>?_,λb o e a=>?_,λb xs e=>J b xs (I.base.aU b xs e),λb o xs e=>K b o xs (I.base.u7 b o xs e),λb C e=>?_),?_,λx c e=>?_,?_,λx c e=>?_,λp G=>?_,N,I.len)
 ·exact keep b o (y b o e) h (f b o e a) (I.base.keep b o e n h a) (I.base.free b o e n a)
 ·let(D,g):=I.base.slot b o e n h a;let(q,B):=slot b _ (y b o e) h (f b o e a) g (I.base.free b o e n a);exact(q,B)
 ·let(k,g):=I.base.there b o e a;exact free b k (f b o e a) g (I.base.free b o e n a)
 ·let(k,g):=I.base.there b o e a;exact there b k (f b o e a) g
 ·let(a,g):=I.base.xo b C e;let(f,B):=L b _ g;exact(a++f,by rw[B,Array.append_assoc])
 ·let(m,a,P):=I.loc;calc(m,M m a,λi x v g B Q=>?_);let(u,r,l):=P i x v g B Q;calc(u,r,?_);rcases l with l | ⟨k,c,e,z⟩
  ·exact .inl l
  ·exact .inr (k,c,e,d x c e _ z)
 ·let(v,z):=I.cell x c e;exact(v,d x c e v z)
 ·let(m,(o,_,_,j,_),_):=I.loc;exact free _ o (λz=>(t _ z).2.1 rfl) j I.free
 ·let(v,o,j,E):=I.cell x c e;exact free c o (λz=>(t c z).2.2.1 x c e rfl) j (I.i8 x c e)
 ·let(e,n,a,b,d):=I.pin p G;have A:p.1∉ch:=λz=>(t p.1 z).2.2.2 p G rfl;calc(keep p.1 p.2 a b A e n,free p.1 p.2 A e n,a,b,d)
theorem Inv.un(I:Inv X pins σ H s)(u:Un X.fs [] H H' s.heap h')(g:mS X.prog X.w H' h'):Inv X pins σ H' {s with heap:=h',toks:=t'}:=by
 let(m,(o,a,b,d,r),_):=id I.loc;let(a,h):=u.any d I.free nofun;exact I.step (g':=s.gens) (d':=s.drawn) (ch:=[]) (λ_ z=>nomatch z) (λb o _ a _ e n=>u.keep b o e n a nofun) (λb o _ a _ e n=>u.slot b o e n a nofun) (λb o _ e n=>u.free b o e n nofun) (λb o _ e=>u.there b o e nofun) u.aU u.u7 u.xo (λa i=>by
  let(a,c,j,f,k):=i;rw[d] at f;cases f;calc(_,c,j,h,k)) g I.bare
theorem Inv.call{g':Array GenState}{d':Drawn}(I:Inv X pins σ H s)(u:Un (yC X.stack) ch H H' s.heap h')(j:mS X.prog X.w H' h')(k:AllBare g')
  (g:∀b∈ch,(b∈X.ex\/X.s₀.heap.objs.size<=b)/\b≠X.env.locals/\(∀x c,X.env.cells.lookup x=some c->c≠b)/\∀p∈X.pn++pins,p.1≠b):
  Inv X pins σ H' {s with heap:=h',gens:=g',drawn:=d',toks:=t'}:=by
 let(m,(o,a,c,h,r),_):=id I.loc;let(a,d):=u.any h I.free λz=>(g _ z).2.1 rfl;exact I.step (ch:=ch) g (λb o d c a e n=>u.keep b o e n (λz=>(List.mem_cons.mp (I.xt b z)).elim d c) a) (λb o _ _ a e n=>u.any e n a) (λb o a e n=>u.free b o e n a) (λb o a e=>u.there b o e a) u.aU u.u7 u.xo (λc l=>by
  let(a,f,q,i,t):=l;rw[h] at i;cases i;calc(_,f,q,d,t)) j k
theorem Inv.turned{a:Addr}(I:Inv X pins σ H s)(k:∀b o,b≠a->s.heap.get? b=some o->h'.get? b=some o)(j:H a=none)(g:a≠X.env.locals)
  (l:a∈X.ex\/X.s₀.heap.objs.size<=a) (r:∀x c,X.env.cells.lookup x=some c->c≠a) (t:∀p∈X.pn++pins,p.1≠a):Inv X pins σ H {s with heap:=h',toks:=t'}:=by
 have i:∀b u,H b=some u->b≠a:=λb u e z=>by rw[z,j]at e;cases e
 refine I.step (g':=s.gens) (d':=s.drawn) (ch:=[a]) (λb j=>?_) (λb o _ _ d e _=>k b o (λz=>d (by simp[z])) e) (λb o _ _ d e _=>(o.slots,k b o (λz=>d (by simp[z])) e)) (λ_ _ _ _ n=>n)
  (λb o d e=>(o,k b o (λz=>d (by simp[z])) e)) (λ_ _ e=>e) (λ_ _ _ e=>e) (λb m e=>(#[],by rw[e];simp)) (λm v=>?_) (λb u e=>?_) I.bare
 ·have e:b=a:=by simpa using j
  subst e;exact(l,g,r,t)
 ·let(o,a,j,l,r):=v;exact(o,a,j,k _ o (Ne.symm g) l,r)
 ·calc(I.aW b u e).aM (λc v d q=>k c v ?_ q) (λ_ q=>q) λ_ _ q=>q;rcases d with z | z
  ·rw[z];exact i b u e
  ·calc i c _ z
theorem Inv.tok(I:Inv X pins σ H s)(t:Nat):Inv X pins σ H {s with toks:=t}:=I.un (h':=s.heap) (t':=t) Un.refl I.aW
theorem Inv.kept(I:Inv X pins σ H s)(k:∀b u,s.heap.get? b=some u->h'.get? b=some u):Inv X pins σ H {s with heap:=h',toks:=t'}:=I.un (Un.kept k) (I.aW.kept k)
theorem Inv.laid{a:Addr}{o:HO}(I:Inv X pins σ H s)(k:∀b u,s.heap.get? b=some u->h'.get? b=some u)(c:s.heap.objs.size<=a)(d:cA X.prog X.w (upd H a o) h' a o):
  Inv X pins σ (upd H a o) {s with heap:=h',toks:=t'}:=I.un (Un.laid k c (I.aW.fresh c)) (I.aW.laid k c d)
theorem Inv.write{x e:Addr}{o:HO}(I:Inv X pins σ H s)(c:Ww (H x))(d:e=x\/H e=some (.own x))(k:∀b u,b≠e->s.heap.get? b=some u->h'.get? b=some u)(f:∃u,h'.get? e=some u)
  (a:cA X.prog X.w (upd H x o) h' x o):Inv X pins σ (upd H x o) {s with heap:=h',toks:=t'}:=I.un (Un.write c d k f) (I.aW.write c d k f a)
theorem Inv.xu{a:List (Addr×Obj)}(I:Inv X pins σ H s)(h:∀p∈a,s.heap.get? p.1=some p.2/\H p.1=none/\p.1≠X.env.locals/\p.1∉X.fs/\∀v,p.2.data≠.cell v):Inv X a σ H s:=
 (I.ok,I.os,I.bare,I.base,I.loc,I.cell,I.free,I.i8,λp a=>(List.mem_append.mp a).elim (λz=>I.pin p (List.mem_append_left _ z)) (h p),I.aW,I.len)
theorem sR{N:List Str}(c:N.Nodup){i j:Nat}{x:Str}(a:N[i]?=some x)(b:N[j]?=some x):i=j:=by
 let(e,d):=List.getElem?_eq_some_iff.mp a;let(g,e):=List.getElem?_eq_some_iff.mp b;calc(List.getElem_inj c).mp (d.trans e.symm)
theorem EL{M:Model}{i:Nat}{x:Str}{v:V}{u:Value}{Q:Unit->Shared->Prop}(I:Inv X pins σ H s)(hN:X.N.Nodup)(L:X.N[i]?=some x)(C:Loc X.env.scope x)(r:RelV v u)
  (h:∀s',Inv X pins (σ.set i (some v)) H s'->(∃a,Heap.SameBut a s.heap s'.heap/\(a=X.env.locals\/X.env.cells.lookup x=some a))->Q ⟨⟩ s') (hf:X.fn x=true\/X.env.scope.names.lookup x=some .local:=by grind):wpAny M A (storeName X.env x u) Q E s:=by
 let(m,T,hl):=id I.loc;have Rp:(X.env.scope.kind == .class||(X.env.scope.kind == .module&&X.env.locals !=X.env.globals))=false:=by rw[I.ok.kind];rfl
 have WC:i<σ.length:=by rw[I.len];exact(List.getElem?_eq_some_iff.mp L).1
 have U:=I.Hg;have l:∀{a:Addr} {h':Heap},(∃o,s.heap.get? a=some o/\H a=none)->Heap.SameBut a s.heap h'->mS X.prog X.w H h':=λ{a h'} v g b M e=>by
  let(_,_,Pk):=v;calc(I.aW b M e).aM (λc P B q=>(g.2 c ?_).trans q) (λ_ q=>q) λ_ _ q=>q;rintro rfl;rcases B with rfl|B
  ·rw[Pk]at e;cases e
  ·rw[Pk]at B;cases B
 rcases C with G|G
 ·calc wpAny_storeName_local G T (λh' a g=>?_) Rp;let(v,_,_,M,_):=id T;refine h _ (I.ok,I.os,I.bare,(λb o e n J C=>?_,λb o e n J C=>?_,I.base.free,λb o e C=>?_,I.base.aU,I.base.u7,I.base.xo),(_,a,λj y W t F Y=>?_),λy c e=>?_,I.free,I.i8,λp Z=>?_,l (v,M,I.free) g,by simpa using I.len) (_,g,.inl rfl)
  ·exact(g.2 b (aaN (W' (V' e) I.ok.above))).trans (I.base.keep b o e n J C)
  ·let(sl,t):=I.base.slot b o e n J C;exact(sl,(g.2 b (aaN (W' (V' e) I.ok.above))).trans t)
  ·let(o',t):=I.base.there b o e C;exact(o',(g.2 b (aaN (W' (V' e) I.ok.above))).trans t)
  ·by_cases K:j=i
   ·subst K;rw[L] at t;cases t;rw[List.getElem?_set_self WC] at F
    cases F;exact(u,r,.inl (G,nofun))
   ·rw[abA (Ne.symm K)] at F;let(u',r',q):=hl j y W t F Y;calc(u',r',?_);rcases q with⟨k,e⟩ | ⟨k,c,e,z⟩
    ·calc .inl (k,?_);have:y≠x:=λe=>K (sR hN t (e▸L));simp[this,e]
    ·exact .inr (k,c,e,z.sameBut g (U y c e))
  ·let(P,z):=I.cell y c e;exact(P,z.sameBut g (U y c e))
  ·let(e,n,R,nf,d):=I.pin p Z;exact((g.2 p.1 R).trans e,n,R,nf,d)
 ·have MM:X.fn x=true:=by
   rcases hf with z|z
   ·exact z
   ·rw[z]at G;cases G
  let(c,B):=I.ok.has x (.inl G);let(P,z):=I.cell x c B;calc wpAny_storeName_cell I.ok.kind G B z (λh' Pl g=>?_);let(oc,O,acg):=id z;refine h {s with heap:=h'} (I.ok,I.os,I.bare,(λb o e n J C=>?_,λb o e n J C=>?_,I.base.free,λb o e C=>?_,I.base.aU,I.base.u7,I.base.xo),(m,T.sameBut g (Ne.symm (U x c B)),λj y W t F Y=>?_),λy S e=>?_,I.free,I.i8,λp Z=>?_,l (oc,O,I.i8 x c B) g,by simpa using I.len) (c,g,.inr B)
  ·exact(g.2 b (aaN (W' (V' e) (I.ok.Rl x c MM B)))).trans (I.base.keep b o e n J C)
  ·let(sl,t):=I.base.slot b o e n J C;exact(sl,(g.2 b (aaN (W' (V' e) (I.ok.Rl x c MM B)))).trans t)
  ·let(o',t):=I.base.there b o e C;exact(o',(g.2 b (aaN (W' (V' e) (I.ok.Rl x c MM B)))).trans t)
  ·by_cases K:j=i
   ·subst K;rw[L] at t;cases t;rw[List.getElem?_set_self WC] at F
    cases F;exact(u,r,.inr (.inl G,c,B,Pl))
   ·rw[abA (Ne.symm K)] at F;let(u',r',q):=hl j y W t F Y;calc(u',r',?_);rcases q with q | ⟨k,S,e,z'⟩
    ·exact .inl q
    ·calc .inr (k,S,e,z'.sameBut g ?_);rintro rfl;exact K (sR hN t (I.ok.inj _ _ _ e B▸L))
  ·by_cases Vm:S=c
   ·subst Vm;exact(_,Pl)
   ·let(a,b):=I.cell y S e;exact(a,b.sameBut g Vm)
  ·let(e,n,R,nf,d):=I.pin p Z;calc((g.2 p.1 ?_).trans e,n,R,nf,d);intro q;rw[q,O]at e;have a:oc=p.2:=Option.some.inj e;calc d P (by rw[<-a];calc acg)
theorem jS{M:Model}{i:Nat}{x:Str}{v:V}{u:Value}{Q:Unit->Shared->Prop}(I:Inv X pins σ H s)(a:X.N.Nodup)(b:X.N[i]?=some x)(c:Loc X.env.scope x)(r:RelV v u)
  (h:∀s',Inv X pins (σ.set i (some v)) H s'->Q ⟨⟩ s') (d:X.fn x=true\/X.env.scope.names.lookup x=some .local:=by grind):wpAny M A (storeName X.env x u) Q E s:=
 EL I a b c r (λs' e _=>h s' e) d
theorem Inv.Pm{s':Shared}(I:Inv X pins σ H s)(f:s'.os=s.os)(u:Un (yC X.stack) ch H H' s.heap s'.heap)(g:mS X.prog X.w H' s'.heap)(h:AllBare s'.gens)
  (i:∀b∈ch,(b∈X.ex\/X.s₀.heap.objs.size<=b)/\b≠X.env.locals/\(∀x c,X.env.cells.lookup x=some c->c≠b)/\∀p∈X.pn++pins,p.1≠b):Inv X pins σ H' s':=by
 let(h',a,d,t',b):=s';have e:b=s.os:=f;subst e;calc I.call (g':=a) (t':=t') (d':=d) u g h i
end
abbrev XK:=Value->Option Addr->Hp->Prop
abbrev St:=List (Option V)
abbrev VK:=V->Hp->Prop
abbrev TE:=St->Hp->VK->Prop
abbrev TT:=St->Hp->(Bool->Hp->Prop)->Prop
abbrev TA:=St->Hp->(List V->Hp->Prop)->Prop
structure Ends where
 nx:St->Hp->Prop
 rt:VK
 bk:St->Hp->Prop:=λ_ _=>False
 ct:St->Hp->Prop:=λ_ _=>False
abbrev TS:=Ends->St->Hp->Prop
def EP(X:Cx)(pins:List (Addr×Obj))(σ:St)(Q:VK)(u:Value)(s':Shared):Prop:=∃v a,Inv X pins σ a s'/\RelV v u/\Q v a
def TP(X:Cx)(pins:List (Addr×Obj))(σ:St)(Q:Bool->Hp->Prop)(b:Bool)(s':Shared):Prop:=∃a,Inv X pins σ a s'/\Q b a
def AP(X:Cx)(pins:List (Addr×Obj))(σ:St)(Q:List V->Hp->Prop)(us:List Value)(s':Shared):Prop:=∃vs a,Inv X pins σ a s'/\Vals vs us/\Q vs a
def SP(X:Cx)(pins:List (Addr×Obj))(D:Ends)(f:Flow)(s':Shared):Prop:=
 match f with
 | .next=>∃a b,Inv X pins a b s'/\D.nx a b
 | .brk=>∃a b,Inv X pins a b s'/\D.bk a b
 | .cont=>∃a b,Inv X pins a b s'/\D.ct a b
 | .ret u=>∃v a b,Inv X pins a b s'/\RelV v u/\D.rt v b
structure PE(X:Cx)(e:Expr)(t:TE):Prop where
 out:
  ∀(pins:List (Addr×Obj)) (s:Shared) (σ:St) (H:Hp) (Q:VK),Inv X pins σ H s->t σ H Q->wpAny (model X.prog X.w) X.A (eval e X.env) (EP X pins σ Q) X.xe s
instance {X:Cx}{e:Expr}{t:TE}:CoeFun (PE X e t) λ_=>
 ∀(pins:List (Addr×Obj)) (s:Shared) (σ:St) (H:Hp) (Q:VK),Inv X pins σ H s->t σ H Q->wpAny (model X.prog X.w) X.A (eval e X.env) (EP X pins σ Q) X.xe s:=⟨PE.out⟩
structure PT(X:Cx)(e:Expr)(t:TT):Prop where
 out:
  ∀(pins:List (Addr×Obj)) (s:Shared) (σ:St) (H:Hp) (Q:Bool->Hp->Prop),Inv X pins σ H s->t σ H Q->wpAny (model X.prog X.w) X.A (isTrue e X.env (eval e X.env)) (TP X pins σ Q) X.xe s
instance {X:Cx}{e:Expr}{t:TT}:CoeFun (PT X e t) λ_=>
 ∀(pins:List (Addr×Obj)) (s:Shared) (σ:St) (H:Hp) (Q:Bool->Hp->Prop),Inv X pins σ H s->t σ H Q->wpAny (model X.prog X.w) X.A (isTrue e X.env (eval e X.env)) (TP X pins σ Q) X.xe s:=⟨PT.out⟩
structure PW(X:Cx)(e:Expr)(t:TT):Prop where
 out:
  ∀(whole:Sem Value) (pins:List (Addr×Obj)) (s:Shared) (σ:St) (H:Hp) (Q:Bool->Hp->Prop),Inv X pins σ H s->t σ H Q->wpAny (model X.prog X.w) X.A (isTrue e X.env whole) (TP X pins σ Q) X.xe s
instance {X:Cx}{e:Expr}{t:TT}:CoeFun (PW X e t) λ_=>
 ∀(a:Sem Value) (pins:List (Addr×Obj)) (s:Shared) (σ:St) (H:Hp) (Q:Bool->Hp->Prop),Inv X pins σ H s->t σ H Q->wpAny (model X.prog X.w) X.A (isTrue e X.env a) (TP X pins σ Q) X.xe s:=⟨PW.out⟩
theorem PW.pt{X:Cx}{e:Expr}{t:TT}(h:PW X e t):PT X e t:=⟨h.out _⟩
structure PA(X:Cx)(es:List Expr)(t:TA):Prop where
 out:
  ∀(pos:Pos) (pins:List (Addr×Obj)) (s:Shared) (σ:St) (H:Hp) (Q:List V->Hp->Prop),Inv X pins σ H s->t σ H Q->wpAny (model X.prog X.w) X.A (spliced (backTo pos (starEach es X.env))) (AP X pins σ Q) X.xe s
instance {X:Cx}{es:List Expr}{t:TA}:CoeFun (PA X es t) λ_=>
 ∀(pos:Pos) (pins:List (Addr×Obj)) (s:Shared) (σ:St) (H:Hp) (Q:List V->Hp->Prop),Inv X pins σ H s->t σ H Q->wpAny (model X.prog X.w) X.A (spliced (backTo pos (starEach es X.env))) (AP X pins σ Q) X.xe s:=⟨PA.out⟩
structure PS(X:Cx)(st:Stmt)(t:TS):Prop where
 out:
  ∀(pins:List (Addr×Obj)) (s:Shared) (σ:St) (H:Hp) (D:Ends),Inv X pins σ H s->t D σ H->wpAny (model X.prog X.w) X.A (exec st X.env) (SP X pins D) X.xe s
instance {X:Cx}{a:Stmt}{t:TS}:CoeFun (PS X a t) λ_=>
 ∀(pins:List (Addr×Obj)) (s:Shared) (σ:St) (H:Hp) (D:Ends),Inv X pins σ H s->t D σ H->wpAny (model X.prog X.w) X.A (exec a X.env) (SP X pins D) X.xe s:=⟨PS.out⟩
structure u9(X:Cx)(st:List Stmt)(t:TS):Prop where
 out:
  ∀(pins:List (Addr×Obj)) (s:Shared) (σ:St) (H:Hp) (D:Ends),Inv X pins σ H s->t D σ H->wpAny (model X.prog X.w) X.A (execs st X.env) (SP X pins D) X.xe s
instance {X:Cx}{a:List Stmt}{t:TS}:CoeFun (u9 X a t) λ_=>
 ∀(pins:List (Addr×Obj)) (s:Shared) (σ:St) (H:Hp) (D:Ends),Inv X pins σ H s->t D σ H->wpAny (model X.prog X.w) X.A (execs a X.env) (SP X pins D) X.xe s:=⟨u9.out⟩
theorem cU{α:Type}{t:Sem α}{Q b:α->Shared->Prop}{M:Model}{s:Shared}(h:wpAny M A t Q E s)(c:∀a s,Q a s->b a s):wpAny M A t b E s:=aa2 h c λ_ _ x=>x
end
section
variable {pins:List (Addr×Obj)}{pos:Pos}{σ:St}{x:Str}{u:Value}{E Q:Value->Shared->Prop}
section
variable {X:Cx}
def Hh(i:Nat):TE:=λσ H Q=>∃v,σ[i]?=some (some v)/\Q v H
def tC(v:V):TE:=λ_ H Q=>Q v H
theorem Hi{i:Nat}(c:X.N[i]?=some x)(j:Wy X.env.scope x)(d:(x==("__debug__":Str))=false:=by decide)(k:(x==("__classdict__":Str))=false:=by decide):PE X (.Name x pos) (Hh i):=by
 walk_at "xc";let(v,e,h):=h;let(m,n,o):=I.loc;let(u,r,l):=o i x v c e j;have a:EP X pins σ Q u s:=(v,H,I,r,h)
 rcases l with⟨b,e⟩|⟨b,c,f,g⟩
 ·exact wpAny_Name (wpAny_loadName_local I.ok.kind b n e a) d
 ·rcases b with b | b
  ·exact wpAny_Name (wpAny_loadName_cell I.ok.kind b f g a) d
  ·calc wpAny_Name (wpAny_loadName_free I.ok.kind b f g a k) d
theorem aj{i j pos}:PE X (.Constant (.int i) j pos) (tC (.int i)):=.mk λ_ _ _ H _ I h=>wpAny_Constant_int (.int i,H,I.tok _,(_,rfl),h)
theorem kR{b j pos}:PE X (.Constant (.bool b) j pos) (tC (.bl b)):=.mk λ_ _ _ H _ I h=>Constant_bool (.bl b,H,I,rfl,h)
theorem k8{j pos}:PE X (.Constant .none j pos) (tC .bG):=.mk λ_ _ _ H _ I h=>Constant_none (.bG,H,I,rfl,h)
theorem aD{x j pos}:PE X (.Constant (.str x) j pos) (tC (.str x)):=.mk λ_ _ _ H _ I h=>Calls.Constant_str (.str x,H,I.tok _,(_,rfl),h)
def Gl(X:Cx)(x:Str):Prop:=X.env.kindOf x=some .globalImplicit
theorem j5{s:Shared}{H:Hp}(I:Inv X pins σ H s)(a:Gl X x)(b:X.mg x=some u)(h:Q u s)
  (c:(x==("__debug__":Str))=false:=by decide):wpAny (model X.prog X.w) X.A (eval (.Name x pos) X.env) Q E s:=
 Calls.Name_function_global I.ok.kind a (Calls.loadGlobal_global (by rw[I.ok.glob];calc I.mod.glob.keeps I.bk) b h) c
theorem pT{s:Shared}{H:Hp}(I:Inv X pins σ H s)(a:Gl X x)(b:X.mg x=none)(c:bootBuiltins x=some u)(h:Q u s)
  (d:x≠"__name__":=by decide) (e:(x==("__debug__":Str))=false:=by decide):wpAny (model X.prog X.w) X.A (eval (.Name x pos) X.env) Q E s:=by
 let(i,f,g):=I.mod.blt;calc Calls.Name_function_global I.ok.kind a (Calls.loadGlobal_builtin (by rw[I.ok.glob];calc I.mod.glob.keeps I.bk) b (by rw[I.ok.blt];calc f.keeps I.bk) ((g x d).trans c) h) e
theorem cH{v:V}(a:Gl X x)(b:X.mg x=some u)(r:RelV v u)(c:(x==("__debug__":Str))=false:=by decide):PE X (.Name x pos) (tC v):=
 .mk λ_ _ _ H _ I h=>j5 I a b (v,H,I,r,h) c
theorem dy{v:V}(a:Gl X x)(b:X.mg x=none)(c:bootBuiltins x=some u)(r:RelV v u)(d:x≠"__name__":=by decide)(e:(x==("__debug__":Str))=false:=by decide):PE X (.Name x pos) (tC v):=
 .mk λ_ _ _ H _ I h=>pT I a b c (v,H,I,r,h) d e
variable {a b:Expr}{ta tb:TE}{pos:Pos}
structure PC(X:Cx)(op:CmpOp)(a b:Expr)(t:TE):Prop where
 out:
  ∀(pins:List (Addr×Obj)) (s:Shared) (σ:St) (H:Hp) (Q:VK),Inv X pins σ H s->t σ H Q->
   wpAny (model X.prog X.w) X.A (eval a X.env) (λv s₁=>wpAny (model X.prog X.w) X.A (eval b X.env) (λu s₂=>wpAny (model X.prog X.w) X.A (compareOp op v u) (EP X pins σ Q) X.xe s₂) X.xe s₁) X.xe s
instance {X:Cx}{e:CmpOp}{a b:Expr}{t:TE}:CoeFun (PC X e a b t) λ_=>
 ∀(pins:List (Addr×Obj)) (s:Shared) (σ:St) (H:Hp) (Q:VK),Inv X pins σ H s->t σ H Q->
  wpAny (model X.prog X.w) X.A (eval a X.env) (λv c=>wpAny (model X.prog X.w) X.A (eval b X.env) (λu d=>wpAny (model X.prog X.w) X.A (compareOp e v u) (EP X pins σ Q) X.xe d) X.xe c) X.xe s:=⟨PC.out⟩
def tB(t:TE):TT:=λσ H Q=>t σ H λx a=>∃c,x=.bl c/\Q c a
theorem A8{c:CmpOp}{t:TE}(h:PC X c a b t)(e:behindInMarks c b=false:=by first|calc f _ ∅ ∅|rfl):PT X (.Compare a [c] [b] pos) (tB t):=by
 calc⟨?_⟩;intro pins s σ H Q I c;calc wpAny_isTrue_Compare1 (cU (h pins s σ H _ I c) λv f e=>cU e λu c f=>cU f λc h g=>?_) e;let(x,i,j,k,l):=g;let(d,rfl,q):=l
 cases k;calc abr (i,j,q)
theorem Rq{e:Expr}{t:TE}(h:PE X e t)(b:∀a,isTrue e X.env a=(do let v <-a;standAt e.pos;holding [v] (truthy v)):=by intro _;rfl):PT X e (tB t):=by
 calc⟨?_⟩;intro pins s σ H Q I a;calc isTrue_plain (cU (h pins s σ H _ I a) λv e c=>?_) (b _);let(x,f,g,i,j):=c;let(d,rfl,q):=j
 cases i;calc abr (f,g,q)
variable {tA tB':TT}{rest:List Expr}
def Rr(t u:TT):TT:=λσ H Q=>t σ H λc a=>if c=true then u σ a Q else Q false a
def tOr(t u:TT):TT:=λσ H Q=>t σ H λc a=>if c=true then Q true a else u σ a Q
def Rt(t:TT):TT:=λσ H Q=>t σ H λc a=>Q (!c) a
theorem pw_and1(b:PT X a tA):PW X (.BoolOp .And [a] pos) tA:=by
 calc⟨?_⟩;intro d pins s σ H Q I h;refine isTrue_and (cU (b pins s σ H Q I h) λc f e=>?_)
 cases c with
 |true=>calc isTrue_and_nil e
 |false=>calc e
theorem pw_or1(b:PT X a tA):PW X (.BoolOp .Or [a] pos) tA:=by
 calc⟨?_⟩;intro d pins s σ H Q I h;refine isTrue_or (cU (b pins s σ H Q I h) λc f e=>?_)
 cases c with
 |false=>calc isTrue_or_nil e
 |true=>calc e
theorem pw_and(g:PT X a tA)(i:PW X (.BoolOp .And (b::rest) pos) tB'):PW X (.BoolOp .And (a::b::rest) pos) (Rr tA tB'):=by
 calc⟨?_⟩;intro j pins s σ H Q I h;calc isTrue_and (cU (g pins s σ H _ I h) λc k l=>?_);let(d,e,f):=l
 cases c with
 |true=>calc i j pins k σ d Q e f
 |false=>calc(d,e,f)
theorem pw_or(g:PT X a tA)(i:PW X (.BoolOp .Or (b::rest) pos) tB'):PW X (.BoolOp .Or (a::b::rest) pos) (tOr tA tB'):=by
 calc⟨?_⟩;intro j pins s σ H Q I h;calc isTrue_or (cU (g pins s σ H _ I h) λc k l=>?_);let(d,e,f):=l
 cases c with
 |true=>calc(d,e,f)
 |false=>calc i j pins k σ d Q e f
theorem cC(b:PT X a tA):PT X (.UnaryOp .Not a pos) (Rt tA):=by
 walk_at "xc";exact isTrue_not (b pins s σ H (λc d=>Q (!c) d) I h)
def Hk(ta tb:TE):TE:=λσ H Q=>ta σ H λx a=>∃c,x=.bl c/\if c=true then tb σ a Q else Q (.bl false) a
def Ru(ta tb:TE):TE:=λσ H Q=>ta σ H λx a=>∃c,x=.bl c/\if c=true then Q (.bl true) a else tb σ a Q
def Hl(ta:TE):TE:=λσ H Q=>ta σ H λx a=>∃c,x=.bl c/\Q (.bl (!c)) a
theorem gR{op}{t:TE}(h:PE X a t):PE X (.BoolOp op [a] pos) t:=.mk λpins s σ H Q I b=>BoolOp_one (h pins s σ H Q I b)
theorem ip(g:PE X a ta)(i:PE X (.BoolOp .And (b::rest) pos) tb):PE X (.BoolOp .And (a::b::rest) pos) (Hk ta tb):=by
 walk_at "xc";refine BoolOp_and (cU (g pins s σ H _ I h) λv j k=>?_);let(x,e,f,l,d):=k;let(c,rfl,d):=d
 cases l;refine abr ?_
 cases c with
 |true=>calc i pins j σ e Q f d
 |false=>calc(.bl false,e,f,rfl,d)
theorem Hm(g:PE X a ta)(i:PE X (.BoolOp .Or (b::rest) pos) tb):PE X (.BoolOp .Or (a::b::rest) pos) (Ru ta tb):=by
 walk_at "xc";refine BoolOp_or (cU (g pins s σ H _ I h) λv j k=>?_);let(x,e,f,l,d):=k;let(c,rfl,d):=d
 cases l;refine abr ?_
 cases c with
 |false=>calc i pins j σ e Q f d
 |true=>calc(.bl true,e,f,rfl,d)
theorem Hn(d:PE X a ta):PE X (.UnaryOp .Not a pos) (Hl ta):=by
 walk_at "xc";refine UnaryOp_ (cU (d pins s σ H _ I h) λv j e=>?_);let(x,f,g,i,b):=e;let(c,rfl,b):=b
 cases i;calc not_of (abr (.bl (!c),f,g,rfl,b))
def tIf(t:TT)(ta tb:TE):TE:=λσ H Q=>t σ H λc a=>if c=true then ta σ a Q else tb σ a Q
theorem Ho{c:Expr}(j:PT X c tA)(k:PE X a ta)(l:PE X b tb):PE X (.IfExp c a b pos) (tIf tA ta tb):=by
 walk_at "xc";refine wpAny_IfExp (cU (j pins s σ H _ I h) λd e c=>?_);let(f,g,i):=c
 cases d with
 |true=>calc k pins e σ f Q g i
 |false=>calc l pins e σ f Q g i
end
end
section
variable {X:Cx}{e tg:Expr}{pins:List (Addr×Obj)}{i:Nat}{σ:St}{x:Str}{te:TE}{K:W.Frag}
def aV(K:W.Frag)(H:Hp)(a:Addr)(xs:List V):Prop:=
 Rd H a (.lst xs)\/
  ∃(o:Obj) (b:Array Value) (n:Nat),K.lookup a=some o/\o.cls=.type "list"/\o.dict=none/\o.data=.seq b n/\b.size<=sizeLine/\Vals xs b.toList
def bI(K:W.Frag)(H:Hp)(a:Addr)(xs:List V):Prop:=
 Rd H a (.tup xs)\/
  ∃(o:Obj) (b:Array Value) (n:Nat),K.lookup a=some o/\o.cls=.type "tuple"/\o.data=.seq b n/\b.size<=sizeLine/\Vals xs b.toList
noncomputable def acj:Value->Option V
 | .none=>some .bG
 | .bool b=>some (.bl b)
 | .int i _=>some (.int i)
 | .str x _=>some (.str x)
 | .bytes b _=>some (.CB b)
 | .float b _=>some (.Pg b)
 | .ref a=>some (.ref a)
 | .type n=>some (.ty n)
 |_=>none
theorem RelV.abs{x:V}{u:Value}(r:RelV x u):acj u=some x:=by
 cases x with
 |bG=>cases r;rfl
 |bl _=>cases r;rfl
 |int _=>let(t,rfl):=r;rfl
 |str _=>let(t,rfl):=r;rfl
 |CB _=>let(t,rfl):=r;rfl
 |Pg _=>let(t,rfl):=r;rfl
 |ref _=>cases r;rfl
 |ty _=>cases r;rfl
theorem RelV.inj{x y:V}{u:Value}(r:RelV x u)(q:RelV y u):x=y:=Option.some.inj (r.abs.symm.trans q.abs)
theorem Vals.inj:∀{xs a:List V}{us:List Value},Vals xs us->Vals a us->xs=a
 |_,_,_,.nil,.nil=>rfl
 |_,_,_,.cons r t,.cons a b=>by rw[r.inj a,Vals.inj t b]
section
variable {X:Cx}{pins:List (Addr×Obj)}{σ:St}{H:Hp}{s:Shared}{a:Addr}{xs ys:List V}
theorem aV.of(h:H a=some (.lst xs)):aV K H a xs:=.inl (.inl h)
theorem bI.of(h:H a=some (.tup xs)):bI K H a xs:=.inl (.inl h)
theorem Inv.list(I:Inv X pins σ H s)(h:aV X.K H a xs):∃b:List Value,Vals xs b/\PlainL s.heap a b.toArray/\xs.length<=sizeLine:=by
 rcases h with h|⟨o,b,n,c,d,f,g,i,r⟩
 ·let(z,b,n,r,e):=h.ok I.aW;exact(b,r,(_,n,e,rfl,rfl,rfl),z)
 ·calc(b.toList,r,(o,n,I.il a o c,d,f,by simpa using g),?_);have e:=r.length;simp only[Array.length_toList]at e;lia
theorem Inv.tuple(I:Inv X pins σ H s)(h:bI X.K H a xs):∃b:List Value,Vals xs b/\IsTup s.heap a b.toArray/\xs.length<=sizeLine:=by
 rcases h with h|⟨o,b,n,c,d,f,g,r⟩
 ·let(z,b,r,p):=h.ok I.aW;exact(b,r,p,z)
 ·calc(b.toList,r,(o,I.il a o c,d,n,by simpa using f),?_);have e:=r.length;simp only[Array.length_toList]at e;lia
theorem Inv.yM(I:Inv X pins σ H s)(h:aV X.K H a xs)(h':aV X.K H a ys):xs=ys:=by
 let(f,r,(o,n,e,_,_,d),_):=I.list h;let(g,i,(j,k,b,_,_,c),_):=I.list h';rw[e]at b;cases b;rw[d]at c;injection c with h _
 have:f=g:=by simpa using congrArg Array.toList h
 subst this;calc r.inj i
theorem Inv.vR(I:Inv X pins σ H s)(h:bI X.K H a xs)(h':bI X.K H a ys):xs=ys:=by
 let(f,r,(o,e,_,n,d),_):=I.tuple h;let(g,i,(j,b,_,k,c),_):=I.tuple h';rw[e]at b;cases b;rw[d]at c;injection c with h _
 have:f=g:=by simpa using congrArg Array.toList h
 subst this;calc r.inj i
end
noncomputable abbrev Cx.rH(X:Cx)(E:Value->Shared->Prop):Cx:={X with xe:=E}
noncomputable abbrev Cx.GI(X:Cx):Cx:=X.rH λ_ _=>False
theorem Cx.Ok.rH(a:X.Ok)(E:Value->Shared->Prop):(X.rH E).Ok:=
 (a.mod,a.kind,a.glob,a.blt,a.above,a.inj,a.has,a.Rl,a.hd,a.frames,a.Vl,a.Wz,a.bs,a.GH,a.yL,a.A7,a.oH,a.ML)
theorem Cx.Ok.iq{E:Value->Shared->Prop}(a:(X.rH E).Ok):X.Ok:=
 (a.mod,a.kind,a.glob,a.blt,a.above,a.inj,a.has,a.Rl,a.hd,a.frames,a.Vl,a.Wz,a.bs,a.GH,a.yL,a.A7,a.oH,a.ML)
section
variable {X:Cx}{pins:List (Addr×Obj)}{σ:St}{H:Hp}{s:Shared}{E:Value->Shared->Prop}
theorem Inv.rH(I:Inv X pins σ H s)(E:Value->Shared->Prop):Inv (X.rH E) pins σ H s:=(I.ok.rH E,I.os,I.bare,I.base,I.loc,I.cell,I.free,I.i8,I.pin,I.aW,I.len)
theorem Inv.iq(I:Inv (X.rH E) pins σ H s):Inv X pins σ H s:=(I.ok.iq,I.os,I.bare,I.base,I.loc,I.cell,I.free,I.i8,I.pin,I.aW,I.len)
theorem SP.iq{D:Ends}{f:Flow}{s':Shared}(h:SP (X.rH E) pins D f s'):SP X pins D f s':=by
 cases f with
 |next=>let(a,b,I,q):=h;calc(a,b,I.iq,q)
 |brk=>let(a,b,I,q):=h;calc(a,b,I.iq,q)
 |cont=>let(a,b,I,q):=h;calc(a,b,I.iq,q)
 |ret u=>let(v,a,b,I,r,q):=h;calc(v,a,b,I.iq,r,q)
theorem u9.GI{a:List Stmt}{t:TS}(h:u9 X.GI a t):u9 X a t:=.mk λpins s σ H D I a=>
 aa2 (h pins s σ H D (I.rH _) a) (λ_ _ q=>q.iq) λ_ _ z=>aa3 z
end
section
variable {X:Cx}{st:Stmt}{rest:List Stmt}{t u:TS}{e:Expr}{te:TE}{pos:Pos}
def Hr:TS:=λD σ H=>D.nx σ H
def EM(t u:TS):TS:=λD σ H=>t {D with nx:=u D} σ H
theorem aJ:u9 X [] Hr:=.mk λ_ _ σ H _ I h=>wpAny_execs_nil (σ,H,I,h)
theorem ai(a:PS X st t)(b:u9 X rest u):u9 X (st::rest) (EM t u):=by
 walk_at "xd";refine wpAny_execs_cons (cU (a pins s σ H {D with nx:=u D} I h) λf c q=>?_)
 cases f with
 |next=>
  let(a,d,e,q):=q;calc b pins c a d D e q
 |ret v=>calc q
 |brk=>calc q
 |cont=>calc q
theorem ao(a:PS X st t):u9 X [st] t:=by
 walk_at "xd";refine wpAny_execs_cons (cU (a pins s σ H D I h) λf b q=>?_)
 cases f with
 |next=>calc wpAny_execs_nil q
 |ret v=>calc q
 |brk=>calc q
 |cont=>calc q
theorem Inv.quiet{H:Hp}{s:Shared}(I:Inv X pins σ H s):interactive X.env=false:=by simp[interactive,I.ok.kind]
def yN(te:TE):TS:=λD σ H=>te σ H λ_ a=>D.nx σ a
theorem MN(a:PE X e te)(b:swapsWith e none pos.line X.env=pure false:=by rfl):PS X (.Expr e pos) (yN te):=by
 walk_at "xd";exact wpAny_Expr_any (cU (a pins s σ H _ I h) λv g (x,c,d,i,f)=>(σ,c,d,f)) I.quiet b
def Rv(te:TE):TS:=λD σ H=>te σ H D.rt
theorem aH(a:PE X e te):PS X (.Return (some e) pos) (Rv te):=by
 walk_at "xd";exact wpAny_Return_some (cU (a pins s σ H _ I h) λv g (x,b,c,d,f)=>(x,σ,b,c,d,f))
def yO(c:TT)(t u:TS):TS:=λD σ H=>c σ H λb a=>if b=true then t D σ a else u D σ a
theorem aY{c:Expr}{a b:List Stmt}{e:TT}(k:PT X c e)(l:u9 X a t)(m:u9 X b u):PS X (.If c a b pos) (yO e t u):=by
 walk_at "xd";refine wpAny_If (cU (k pins s σ H _ I h) λd f a=>?_);let(g,i,j):=a
 cases d with
 |true=>calc l pins f σ g D i j
 |false=>calc m pins f σ g D i j
def A9:TS:=λ_ _ _=>False
theorem dz:PS X st A9:=.mk λ_ _ _ _ _ _ h=>h.elim
end
abbrev TG:=V->St->Hp->(St->Hp->Prop)->Prop
abbrev Pn:=List V->St->Hp->(St->Hp->Prop)->Prop
structure PG(X:Cx)(target:Expr)(t:TG):Prop where
 out:
  ∀(pins:List (Addr×Obj)) (s:Shared) (σ:St) (H:Hp) (v:V) (u:Value) (Q:St->Hp->Prop),Inv X pins σ H s->RelV v u->t v σ H Q->
   wpAny (model X.prog X.w) X.A (assign target X.env u) (λ_ s'=>∃σ' H',Inv X pins σ' H' s'/\Q σ' H') X.xe s
instance {X:Cx}{a:Expr}{t:TG}:CoeFun (PG X a t) λ_=>
 ∀(pins:List (Addr×Obj)) (s:Shared) (σ:St) (H:Hp) (v:V) (u:Value) (Q:St->Hp->Prop),Inv X pins σ H s->RelV v u->t v σ H Q->
  wpAny (model X.prog X.w) X.A (assign a X.env u) (λ_ s'=>∃a b,Inv X pins a b s'/\Q a b) X.xe s:=⟨PG.out⟩
structure Vn(X:Cx)(ts:List Expr)(t:Pn):Prop where
 out:
  ∀(pins:List (Addr×Obj)) (s:Shared) (σ:St) (H:Hp) (vs:List V) (us:List Value) (Q:St->Hp->Prop),Inv X pins σ H s->Vals vs us->t vs σ H Q->
   wpAny (model X.prog X.w) X.A (assignInOrder ((assignEach ts X.env).map (·.2)) us) (λ_ s'=>∃σ' H',Inv X pins σ' H' s'/\Q σ' H') X.xe s
instance {X:Cx}{a:List Expr}{t:Pn}:CoeFun (Vn X a t) λ_=>
 ∀(pins:List (Addr×Obj)) (s:Shared) (σ:St) (H:Hp) (vs:List V) (us:List Value) (Q:St->Hp->Prop),Inv X pins σ H s->Vals vs us->t vs σ H Q->
  wpAny (model X.prog X.w) X.A (assignInOrder ((assignEach a X.env).map (·.2)) us) (λ_ s'=>∃a b,Inv X pins a b s'/\Q a b) X.xe s:=⟨Vn.out⟩
abbrev Rw:=V->V->V->Hp->(Hp->Prop)->Prop
def Rx(X:Cx)(t:Rw):Prop:=
 ∀(pins:List (Addr×Obj)) (s:Shared) (σ:St) (H:Hp) (o i v:V) (a b u:Value) (Q:Hp->Prop),Inv X pins σ H s->RelV o a->RelV i b->RelV v u->t o i v H Q->
  wpAny (model X.prog X.w) X.A (setItem a b u) (λ_ s'=>∃a,Inv X pins σ a s'/\Q a) X.xe s
abbrev TIp:=V->V->Hp->VK->Prop
def PIp(X:Cx)(a:Operator)(t:TIp):Prop:=
 ∀(pins:List (Addr×Obj)) (s:Shared) (σ:St) (H:Hp) (x y:V) (v u:Value) (Q:VK),Inv X pins σ H s->RelV x v->RelV y u->t x y H Q->
  wpAny (model X.prog X.w) X.A (inplaceOp a v u) (EP X pins σ Q) X.xe s
section
variable {X:Cx}{pos:Pos}
def gj(i:Nat):TG:=λv σ H Q=>Q (σ.set i (some v)) H
theorem bg(a:X.N.Nodup)(b:X.N[i]?=some x)(c:Loc X.env.scope x)(d:X.fn x=true\/X.env.scope.names.lookup x=some .local:=by grind):PG X (.Name x pos) (gj i):=by
 calc⟨?_⟩;intro pins s σ H v u Q I r h;calc wpAny_assign_Name (jS I a b c r (λf e=>(_,H,e,h)) d)
def Ht:Pn:=λvs σ H Q=>vs=[]/\Q σ H
def mT(t:TG)(u:Pn):Pn:=λvs σ H Q=>∃v r,vs=v::r/\t v σ H λa b=>u r a b Q
theorem xA:Vn X [] Ht:=by
 calc⟨?_⟩;intro pins s σ H a b Q I r h;let(e,h):=h;subst e
 cases r;calc assignInOrder_nil (σ,H,I,h)
theorem ir{es:List Expr}{t:TG}{u:Pn}(a:PG X e t)(b:Vn X es u)
  (c:(assignEach (e::es) X.env).map (·.2)=assign e X.env::(assignEach es X.env).map (·.2):=by rfl):Vn X (e::es) (mT t u):=by
 calc⟨?_⟩;intro pins s σ H f g Q I r h;let(v,i,d,h):=h;subst d
 cases r with
 |cons r d=>
  rw[c];calc assignInOrder_cons (cU (a pins s σ H _ _ _ I r h) λ_ f g=>?_);let(a,c,h,i):=g;calc b pins f a c _ _ Q h d i
def Hu(K:W.Frag)(n:Nat)(t:Pn):TG:=λv σ H Q=>∃a xs,v=.ref a/\bI K H a xs/\xs.length=n/\t xs σ H Q
theorem Ba{es:List Expr}{k:Nat}{t:Pn}{n:Nat}(b:X.calm=true)(h:Vn X es t)
  (d:(assignEach es X.env).length=n:=by rfl) (f:(assignEach es X.env).findIdx? (·.1)=none:=by rfl):PG X (.Tuple es k pos) (Hu X.K n t):=by
 calc⟨?_⟩;intro pins s σ H v u Q I r c;let(a,g,i,j,l,c):=c;subst i
 cases r;let(k,a,i,m):=I.tuple j;calc assign_Tuple_tuple (I.ok.hd b) i (by simp[d,<-l,a.length]) f λk m=>?_;have d:Inv X pins σ H {s with heap:=k}:=I.kept (t':=s.toks) λb o e=>m b o (aaN (V' e)) e;calc h pins _ σ H g _ Q d (by simpa using a) c
def Ry(a b:TE)(t:Rw):TG:=λv σ H Q=>a σ H λo c=>b σ c λi a=>t o i v a λb=>Q σ b
theorem iu{o i:Expr}{c d:TE}{t:Rw}(e:PE X o c)(f:PE X i d)(g:Rx X t)
  (j:∀v,assign (.Subscript o i pos) X.env v=(do
   let a <-holding [v] (eval o X.env)
   let b <-holding [v,a] (eval i X.env)
   standAt pos
   holding [v,a,b] (setItem a b v)
   release [v,a,b] []):=by intro _;rfl):PG X (.Subscript o i pos) (Ry c d t):=by
 calc⟨?_⟩;intro pins s σ H v u Q I r h;rw[j];calc j' (aa8 (cU (e pins s σ H _ I h) λa d c=>?_));let(x,e,h,j,k):=c;calc j' (aa8 (cU (f pins d σ e _ h k) λb l c=>?_));let(y,d,e,f,h):=c;calc j' (wpAny_standAt (j' (aa8 (cU (g pins l σ d x y v a b u _ e j f r h) λ_ k c=>?_))));let(a,b,d):=c;calc wpAny_release (σ,a,b,d)
def EN(te:TE)(g:TG):TS:=λD σ H=>te σ H λx a=>g x σ a D.nx
theorem eP{g:TG}(a:PE X e te)(b:PG X tg g)(c:swapsWithSole [tg] e pos.line X.env=pure false:=by rfl)(d:swappedStores [tg] e X.env=pure none:=by rfl)
  (f:(assignEach [tg] X.env).map (·.2)=[assign tg X.env]:=by rfl):PS X (.Assign [tg] e pos) (EN te g):=by
 walk_at "xd";refine wpAny_Assign_stores (cU (a pins s σ H _ I h) λv g i=>?_) c d;let(x,a,j,k,l):=i;rw[f];exact cU (b pins g σ a x v _ j k l) λ_ c q=>q
theorem Hv{a:Pos}(b:X.N.Nodup)(c:X.N[i]?=some x)(d:Loc X.env.scope x)(f:PE X e te)(g:swapsWith e (some (.Name x a)) pos.line X.env=pure false:=by rfl)(j:X.fn x=true\/X.env.scope.names.lookup x=some .local:=by grind):
  PS X (.Assign [.Name x a] e pos) (EN te (gj i)):=by
 walk_at "xd";refine wpAny_Assign_Name (cU (f pins s σ H _ I h) λv k a=>?_) g;let(y,f,k,l,m):=a;exact jS k b c d l (λn g=>(_,f,g,m)) j
def Rz(i:Nat)(te:TE)(a:TIp):TS:=λD σ H=>∃x,σ[i]?=some (some x)/\te σ H λy b=>a x y b λz c=>D.nx (σ.set i (some z)) c
theorem RA{d:Operator}{g:TIp}{b:Pos}(o:X.N.Nodup)(j:X.N[i]?=some x)(f:Loc X.env.scope x)(p:PE X e te)(q:PIp X d g)(t:X.fn x=true\/X.env.scope.names.lookup x=some .local:=by grind):
  PS X (.AugAssign (.Name x b) d e pos) (Rz i te g):=by
 walk_at "xd";let(v,y,h):=h;let(m,B,z):=I.loc;have c:Wy X.env.scope x:=by rcases f with k|k;exact .inl k;exact .inr (.inl k)
 let(u,r,l):=z i x v j y c;calc wpAny_AugAssign_Name ?_;have n:wpAny (model X.prog X.w) X.A (eval e X.env) (λw b=>wpAny (model X.prog X.w) X.A (inplaceOp d u w) (λr c=>wpAny (model X.prog X.w) X.A (storeName X.env x r) (λ_=>SP X pins D .next) X.xe c) X.xe b) X.xe s:=by
  calc cU (p pins s σ H _ I h) λw c b=>?_;let(y,d,g,m,p):=b;calc cU (q pins c σ d v y u w _ g r m p) λz F b=>?_;let(p,c,d,g,m):=b;exact jS d o j f g (λq p=>(_,c,p,m)) t
 rcases l with⟨a,b⟩|⟨a,c,C,E⟩
 ·exact wpAny_loadName_local I.ok.kind a B b n
 ·rcases a with a | a
  ·exact wpAny_loadName_cell I.ok.kind a C E n
  ·rcases f with k | k
   ·have:X.env.scope.names.lookup x=some .free:=a;rw[k]at this;cases this
   ·have:X.env.scope.names.lookup x=some .free:=a;rw[k]at this;cases this
def ipI(f:Int->Int->Int):TIp:=λx y H Q=>∃i j,x=.int i/\y=.int j/\Q (.int (f i j)) H
theorem RB:PIp X .Add (ipI λi j=>i+j):=by
 intro pins s σ H x y v u Q I a b h;let(i,j,c,d,q):=h;subst c;subst d;let(t,rfl):=a;let(e,rfl):=b;calc iadd_int (.int _,H,I.tok _,(_,rfl),q)
end
section
variable {X:Cx}{pos:Pos}
def xB(c:TT)(f:TS):TS:=λD σ H=>∃W:Nat->St->Hp->Prop,(∃m,W m σ H)/\∀m σ H,W m σ H->
 c σ H λb d=>if b=true then ∃N:St->Hp->Prop,(∀a c,N a c->∃e,e<m/\W e a c)/\f {D with nx:=N,ct:=N,bk:=D.nx} σ d else D.nx σ d
theorem Hw{c:Expr}{a:List Stmt}{i:TT}{j:TS}(k:PassesOwn (model X.prog X.w) X.A X.env X.xe)(p:PT X c i)(q:u9 X a j):PS X (.While c a [] pos) (xB i j):=by
 walk_at "xd";let(W,(r,t),a):=h;refine wpAny_While (codeAny_whileLoop (λn u=>∃c i,Inv X pins c i u/\W n c i) ?_ r (σ,H,I,t));rintro n v ⟨d,j,x,y⟩;refine wpAny_passesOwn k (cU (p pins v d j _ x (a n d j y)) λb z B=>?_);let(l,m,e):=B
 cases b with
 |true=>
  let(N,o,e):=e;rw[if_pos rfl];refine wpAny_passesOwn k (cU (q pins z d l _ m e) λf a g=>?_)
  cases f with
  |next=>
   let(a,b,c,f):=g;let(i,j,k):=o a b f;calc(i,j,a,b,c,k)
  |cont=>
   let(a,b,c,f):=g;let(i,j,k):=o a b f;calc(i,j,a,b,c,k)
  |brk=>calc g
  |ret v=>calc g
 |false=>
  rw[if_neg T'];calc wpAny_execs_nil (d,l,m,e)
end
structure It where
 go:Nat->Hp->Prop
 Po:Nat->Hp->V->Hp->Prop
 stop:Nat->Hp->Prop
def pU(X:Cx)(pins:List (Addr×Obj))(H:Hp)(b:Addr):Prop:=
 H b=none/\b≠X.env.locals/\b∉X.fs/\(b∈X.ex\/X.s₀.heap.objs.size<=b)/\(∀x c,X.env.cells.lookup x=some c->c≠b)/\∀p∈X.pn++pins,p.1≠b
theorem Inv.Hx{H c:Hp}{s:Shared}{b:Addr}(I:Inv X pins σ H s)(a:s.heap.objs.size<=b)(d:c b=none):pU X pins c b:=by
 refine(d,abk (W' I.lt a),I.Rn a,.inr (aaS I.sz a),λx c e z=>?_,λp b z=>?_)
 ·let(v,q):=I.cell x c e;exact absurd (W' q.lt (by rw[z];calc a)) (abq _)
 ·calc absurd (W' (V' (I.pin p b).1) (by rw[z];calc a)) (abq _)
structure Turn(P:Program)(w:World)(K:W.Frag)(tg:Expr)(J:It)(fp:List Addr)(it:Addr)(tn:Nat->Heap->Prop):Prop where
 mem:it∈fp
 obj:∀i h,tn i h->∀b∈fp,∃o,h.get? b=some o/\∀v,o.data≠.cell v
 keep:∀i h h',tn i h->(∀b∈fp,∀o,h.get? b=some o->h'.get? b=some o)->tn i h'
 item:∀(X:Cx),X.prog=P->X.w=w->X.K=K->X.calm=true->∀(i:Nat) (pins:List (Addr×Obj)) (s:Shared) (σ:St) (H:Hp) (E:Value->Shared->Prop),Inv X pins σ H s->(∀b ∈ fp,pU X pins H b)->tn i s.heap->J.go i H->
  wpAny (model P w) X.A (pyNext (.ref it)) (λr s1=>∃u,r=some u/\
   wpAny (model P w) X.A (letOwnedTupleGo tg (.ref it) u) (λ_ s2=>∃x H',Inv X pins σ H' s2/\RelV x u/\J.Po i H x H'/\tn (i + 1) s2.heap/\∀b ∈ fp,H' b=none) E s1) E s
 done:∀(X:Cx),X.prog=P->X.w=w->X.K=K->X.calm=true->∀(i:Nat) (pins:List (Addr×Obj)) (s:Shared) (σ:St) (H:Hp) (E:Value->Shared->Prop),Inv X pins σ H s->(∀b ∈ fp,pU X pins H b)->tn i s.heap->J.stop i H->
  wpAny (model P w) X.A (pyNext (.ref it)) (λr s1=>r=none/\Inv X pins σ H s1) E s
 self:∀(A:Around) (i:Nat) (s:Shared) (Q:Value->Shared->Prop) (E:Value->Shared->Prop),tn i s.heap->Q (.ref it) s->wpAny (model P w) A (pyIter (.ref it)) Q E s
abbrev TI:=St->Hp->(It->Hp->Prop)->Prop
def PIE(X:Cx)(pins:List (Addr×Obj))(σ:St)(tg:Expr)(R:It->Hp->Prop)(a:Value)(d:Shared):Prop:=
 ∃(e:Addr) (f:List Addr) (g:Nat->Heap->Prop) (J:It) (c:Hp),a=.ref e/\Inv X pins σ c d/\Turn X.prog X.w X.K tg J f e g/\g 0 d.heap/\(∀b∈f,pU X pins c b)/\R J c
structure PI(X:Cx)(tg iter:Expr)(wi:TI):Prop where
 out:
  ∀(pins:List (Addr×Obj)) (s:Shared) (σ:St) (H:Hp) (R:It->Hp->Prop),Inv X pins σ H s->wi σ H R->
   wpAny (model X.prog X.w) X.A (eval iter X.env) (λv s1=>wpAny (model X.prog X.w) X.A (pyIter v) (PIE X pins σ tg R) X.xe s1) X.xe s
instance {X:Cx}{tg a:Expr}{b:TI}:CoeFun (PI X tg a b) λ_=>
 ∀(pins:List (Addr×Obj)) (s:Shared) (σ:St) (H:Hp) (R:It->Hp->Prop),Inv X pins σ H s->b σ H R->
  wpAny (model X.prog X.w) X.A (eval a X.env) (λv b=>wpAny (model X.prog X.w) X.A (pyIter v) (PIE X pins σ tg R) X.xe b) X.xe s:=⟨PI.out⟩
theorem Hy{M:Model}{A:Around}{E:Value->Shared->Prop}{s:Shared}{tg:Expr}{b:Addr}{u:Value}{o:Obj}{n:String}{vs:Array Value}{Q:Unit->Shared->Prop}(c:s.heap.get? b=some o)(d:o.cls=.type n)(e:o.data=.fields vs)
    (f:["enumerate","zip","dict_itemiterator","dict_reverseitemiterator","odict_iterator","itertools.zip_longest","itertools.pairwise"].contains n=false) (a:Q ⟨⟩ s):wpAny M A (letOwnedTupleGo tg (.ref b) u) Q E s:=by
  unfold letOwnedTupleGo
  cases tg<;>first
    |calc K' a
    | (cases u <;> first
        |calc K' a
        | (refine j' (wpAny_load c ?_)
           rw[d,e];show wpAny M A (if (["enumerate","zip","dict_itemiterator","dict_reverseitemiterator","odict_iterator","itertools.zip_longest","itertools.pairwise"].contains n && vs[0]? == some (rawInt _))=true then _ else _) Q E s;rw[if_neg (by intro h;rw[f,Bool.false_and] at h;cases h)];exact K' a))
def yP(K:W.Frag)(a:Addr):It:=
 (λi H=>∃xs x,aV K H a xs/\xs[i]?=some x,λi H x b=>b=H/\∀xs,aV K H a xs->xs[i]?=some x,λi H=>∃xs,aV K H a xs/\xs.length<=i)
def WG(K:W.Frag)(a:Addr):It:=
 (λi H=>∃xs x,bI K H a xs/\xs[i]?=some x,λi H x b=>b=H/\∀xs,bI K H a xs->xs[i]?=some x,λi H=>∃xs,bI K H a xs/\xs.length<=i)
def EO(a:Int)(n:Nat):It:=(λi _=>i<n,λi H x b=>b=H/\x=.int (a+i),λi _=>n<=i)
theorem ER{P:Program}{w:World}(a g:Addr):Turn P w K tg (yP K a) [g] g (λi h=>h.IsListIter g a i) where
 mem:=by simp
 obj:=λi h f b j=>by
  have e:b=g:=by simpa using j
  subst e;let(o,e,c,d):=f;exact(o,e,λv z=>by rw[d]at z;cases z)
 keep:=λi h l f k=>f.at λo e=>k g nofun o e
 item:=by
  intro X q r t L i pins s σ H E I m f y;subst q r t;let(M,x,n,A):=y;let(N,B,p,O):=I.list n;let(u,k,v):=B.get A;let(C,D,Q,F,G,J):=m g nofun;calc wpAny_pyNext_list_item f p.isList (x:=u) (by simpa using k) λl a w=>?_;have k:Inv X pins σ H {s with heap:=l}:=I.turned (t':=s.toks) (λb o j e=>(w.2 b j).trans e) C D F G J;let(o,e,c,d):=id a;exact(u,rfl,Hy (s:={s with heap:=l}) e c d ∅ (x,H,k,v,(rfl,λw u=>by rw[I.yM u n];calc A),a,λb j=>(m b j).1))
 done:=by
  intro X q r t L i pins s σ H E I m f y;subst q r t;let(M,n,A):=y;let(N,B,p,O):=I.list n;let(C,D,Q,F,G,J):=m g nofun;have a:=B.length;exact wpAny_pyNext_list_end (I.ok.hd L) f p.isList (by simp;lia) λl a=>(rfl,I.turned (t':=s.toks) (λb o j e=>a b o j e) C D F G J)
 self:=λ_ _ _ _ _ f h=>wpAny_pyIter_listiter f h
theorem Bb{P:Program}{w:World}(a g:Addr):Turn P w K tg (WG K a) [g] g (λi h=>h.IsTupleIter g a i) where
 mem:=by simp
 obj:=λi h f b j=>by
  have e:b=g:=by simpa using j
  subst e;let(o,e,c,d):=f;exact(o,e,λv z=>by rw[d]at z;cases z)
 keep:=λi h l f k=>f.at λo e=>k g nofun o e
 item:=by
  intro X q r t M i pins s σ H E I m f y;subst q r t;let(N,x,n,A):=y;let(B,C,p,O):=I.tuple n;let(u,v,w):=C.get A;let(D,F,Q,G,J,L):=m g nofun;calc wpAny_pyNext_tuple_item f (show s.heap.IsTuple a B.toArray from p) (x:=u) (by simpa using v) λl k z=>?_;have v:Inv X pins σ H {s with heap:=l}:=I.turned (t':=s.toks) (λb o j e=>(z.2 b j).trans e) D F G J L;let(o,e,c,d):=id k;exact(u,rfl,Hy (s:={s with heap:=l}) e c d ∅ (x,H,v,w,(rfl,λz u=>by rw[I.vR u n];calc A),k,λb j=>(m b j).1))
 done:=by
  intro X q r t M i pins s σ H E I m f y;subst q r t;let(N,n,A):=y;let(B,C,p,O):=I.tuple n;let(D,F,Q,G,J,L):=m g nofun;have c:=C.length;exact wpAny_pyNext_tuple_end (I.ok.hd M) f (show s.heap.IsTuple a B.toArray from p) (by simp;lia) λl c=>(rfl,I.turned (t':=s.toks) (λb o j e=>c b o j e) D F G J L)
 self:=λ_ _ _ _ _ f h=>wpAny_pyIter_tupleiter f h
theorem Bc{P:Program}{w:World}(c:Addr)(f:Int)(n:Nat):Turn P w K tg (EO f n) [c] c (λi h=>IsRangeIter h c (f+(i:Nat)*1) ((n:Int)-(i:Nat)) 1) where
 mem:=by simp
 obj:=λi h a b d=>by
  have e:b=c:=by simpa using d
  subst e;exact(_,a,λv z=>by
   have k:Data.fields _=Data.cell v:=z
   cases k)
 keep:=λi h g a k=>k c nofun _ a
 item:=by
  intro X l m p q i pins s σ H E I j a r;subst l m p;let(u,x,F,y,A,B):=j c nofun;have W:=Walks.range (prog:=X.prog) (w:=X.w) (I.ok.hd q) c f 1 n;calc W.item i s _ _ r a λv g C G D J=>?_;let(t,rfl):=G;have k:Inv X pins σ H {s with heap:=g,toks:=C}:=I.turned (λb o d e=>J b o (by simpa using d) e) u x y A B;calc(_,rfl,Hy (s:={s with heap:=g,toks:=C}) (n:="range_iterator") D rfl rfl ∅ (.int (f+i),H,k,(t,?_),(rfl,rfl),D,λb d=>(j b d).1));rw[Int.mul_one]
 done:=by
  intro X l m p q i pins s σ H E I j a r;subst l m p;let(u,x,F,y,A,B):=j c nofun;exact wpAny_pyNext_range_end (I.ok.hd q) a (by have:n<=i:=r;lia) λg c=>(rfl,I.turned (t':=s.toks) (λb o d e=>c b o d e) u x y A B)
 self:=λ_ _ _ _ _ a h=>wpAny_pyIter_rangeiter a h
end
section
variable {H:Hp}{pins:List (Addr×Obj)}{s:Shared}{σ:St}{g:TG}{tb:TS}
section
variable {X:Cx}{tg:Expr}
theorem HA{R:It->Hp->Prop}{E:Value->Shared->Prop}{a c:Int}{t u v:Tok}{d:Nat}(I:Inv X pins σ H s)(g:-(2^62)<=a)(h:a<2^62)(i:-(2^62)<=c)(j:c<2^62)
  (q:R (EO a (c-a).toNat) H):wpAny (model X.prog X.w) X.A (pyIter (.ref s.heap.objs.size)) (PIE X pins σ tg R) E {s with heap:=s.heap.push {cls:=.type "range",data:=.fields #[.int a t,.int c u,.int 1 v]},toks:=d}:=by
 refine wpAny_pyIter_range (IsRange.new ..) (small_one g h i j) ?_;have f:Inv X pins σ H {s with heap:=s.heap.push {cls:=.type "range",data:=.fields #[.int a t,.int c u,.int 1 v]},toks:=d}:=I.kept λb o e=>P' _ e;refine((s.heap.push {cls:=.type "range",data:=.fields #[.int a t,.int c u,.int 1 v]}).objs.size,[(s.heap.push {cls:=.type "range",data:=.fields #[.int a t,.int c u,.int 1 v]}).objs.size],_,_,H,rfl,
  f.kept (t':=d) λb o e=>P' _ e,Bc _ a (c - a).toNat,?_,λb k=>?_,q)
 ·have l:a + ((0:Nat):Int) * 1=a:=by simp
  have m:(((c-a).toNat:Nat):Int)-((0:Nat):Int)=Builtin.Range.rangeSize a c 1:=by rw[rangeSize_one];split<;>lia
  show IsRangeIter _ _ (a+((0:Nat):Int)*1) ((((c-a).toNat:Nat):Int)-((0:Nat):Int)) 1;rw[l,m];exact aas _ rfl
 ·have e:b=(s.heap.push {cls:=.type "range",data:=.fields #[.int a t,.int c u,.int 1 v]}).objs.size:=by simpa using k
  subst e;calc f.Hx (S' _) (f.aW.fresh (S' _))
def HB(a:TA):TI:=λσ H R=>a σ H λvs b=>∃j:Int,vs=[.int j]/\-(2^62)<=j/\j<2^62/\R (EO 0 j.toNat) b
theorem eI{a:Expr}{c:TA}{p pos:Pos}(d:Gl X "range")(f:X.mg "range"=none)(g:PA X [a] c)(i:starEach [a] X.env=[((false),eval a X.env)]:=by rfl):PI X tg (.Call (.Name "range" p) [a] [] pos) (HB c):=by
 calc⟨?_⟩;intro pins s σ H R I h;calc Call_ (pT I d f boot_range (PyProof.Rows.callWith_type1 (cU (g pos pins s σ H _ I h) λc j a=>?_) i rfl));let(c,d,k,l,b):=a;let(j,e,b,m,q):=b;subst e
 cases l with
 |cons r n=>
  cases n;let(t,rfl):=r;calc call_range_1 (HA k () () b m (by simpa using q))
def RC(a:TI)(g:TG)(tb:TS):TS:=λD σ H=>a σ H λJ b=>∃W:Nat->Nat->St->Hp->Prop,(∃m,W 0 m σ b)/\∀i m σ H,W i m σ H->
 (J.stop i H/\D.nx σ H)\/(J.go i H/\∃N:St->Hp->Prop,(∀a b,N a b->∃d,d<m/\W (i+1) d a b)/\∀x b,J.Po i H x b->g x σ b λc e=>tb {D with nx:=N,ct:=N,bk:=D.nx} c e)
noncomputable def pV(a:List Addr)(h:Heap):List (Addr×Obj):=a.filterMap λb=>(h.get? b).map λo=>((b),o)
theorem j6{a:List Addr}{h:Heap}{b:Addr}{o:Obj}(c:b∈a)(e:h.get? b=some o):((b),o)∈pV a h:=List.mem_filterMap.mpr (b,c,by rw[e];rfl)
theorem ES{a:List Addr}{h:Heap}{p:Addr×Obj}(c:p∈pV a h):p.1∈a/\h.get? p.1=some p.2:=by
 let(b,d,e):=List.mem_filterMap.mp c
 cases q:h.get? b with
 |none=>rw[q]at e;cases e
 |some o=>
  rw[q]at e;have f:((b),o)=p:=Option.some.inj e;subst f;calc(d,q)
theorem Inv.pinned{a:List Addr}(I:Inv X pins σ H s)(g:∀b∈a,pU X pins H b)(h:∀b∈a,∃o,s.heap.get? b=some o/\∀v,o.data≠.cell v):Inv X (pins++pV a s.heap) σ H s:=
 I.xu λp a=>(List.mem_append.mp a).elim (λz=>I.pin p (aaW _ z)) λz=>by
  let(c,e):=ES z;let(i,j,k,_):=g p.1 c;let(o,f,d):=h p.1 c;rw[e]at f;cases f;calc(e,i,j,k,d)
theorem Inv.k9{pl:List (Addr×Obj)}(I:Inv X (pins++pl) σ H s):Inv X pins σ H s:=I.xu λp a=>I.pin p (aaW _ (List.mem_append_left _ a))
theorem fc{c:Expr}{m:List Stmt}{J:TI}{pos:Pos}(z:PassesOwn (model X.prog X.w) X.A X.env X.xe)(M:X.calm=true)(Y:PI X tg c J)(Z:PG X tg g)(j:u9 X m tb)
  (hs:∀x,foldedSetIterable c X.env x=pure x:=by intro _;rfl):PS X (.For tg c m [] pos) (RC J g tb):=by
 walk_at "xd";refine wpAny_For (cU (Y pins s σ H _ I h) λv m c=>cU c λm J h2=>?_) hs;let(c,B,O,J,H2,e,I2,T,CF,P,W,(m0,w0),C):=h2;subst e;have K:∀{o:Hp},(∀b∈B,o b=none)->∀b∈B,pU X pins o b:=λc b j=>(c b j,(P b j).2)
 calc codeAny_forLoop_any (λn c=>∃i d o,Inv X pins d o c/\O i c.heap/\(∀b∈B,o b=none)/\W i n d o) ?_ m0 (0,σ,H2,I2,CF,λb j=>(P b j).1,w0);rintro n Q ⟨i,k,G,R,S,U,w3⟩;rcases C i n k G w3 with⟨c,qn⟩|⟨go,N,hN,E⟩
 ·calc wpAny_passesOwn z (cU (T.done X rfl rfl rfl M i pins Q k G X.xe R (K U) S c) λr s4 y=>?_);let(L,I4):=y;subst L;exact wpAny_execs_nil (k,G,I4,qn)
 ·calc wpAny_passesOwn z (cU (T.item X rfl rfl rfl M i pins Q k G X.xe R (K U) S go) λr s4 y=>?_);let(u,L,h4):=y;subst L;calc wpAny_passesOwn z (cU h4 λ_ C y=>?_);let(x,G,J,L,M,c,m):=y;have r:=J.pinned (K m) (T.obj _ _ c);calc wpAny_passesOwn z (cU (Z _ C k G x u _ r L (E x G M)) λ_ P y=>?_);let(k,m,u,x):=y;calc wpAny_passesOwn z (cU (j _ P k m _ u x) λf r t=>?_);have l:∀{a:St} {p:Hp},Inv X (pins++pV B C.heap) a p r->N a p->∃m,m<n/\∃i d o,Inv X pins d o r/\O i r.heap/\(∀b∈B,o b=none)/\W i m d o:=λ{a p} q F=>by
   let(d,k,m):=hN a p F;calc(d,k,i+1,a,p,q.k9,T.keep _ _ _ c λb j o e=>(q.pin ((b),o) (aaW _ (aaW _ (j6 j e)))).1,λb j=>?_,m);let(o,e,d):=T.obj _ _ c b j;exact(q.pin ((b),o) (aaW _ (aaW _ (j6 j e)))).2.1
  cases f with
  |next=>let(a,p,q,F):=t;calc l q F
  |cont=>let(a,p,q,F):=t;calc l q F
  |brk=>let(a,p,q,t):=t;calc(a,p,q.k9,t)
  |ret v=>let(b,a,p,q,c,t):=t;calc(b,a,p,q.k9,c,t)
end
theorem fw{K:W.Frag}{a:Addr}{xs:List V}{D:Ends}(b:Nat->St->Hp->Prop)(k:b 0 σ H)(l:∀i σ H,i<=xs.length->b i σ H->aV K H a xs)
  (n:∀i x σ H,xs[i]?=some x->b i σ H->g x σ H λc h=>tb {D with nx:=b (i+1),ct:=b (i+1),bk:=D.nx} c h) (o:∀σ H,b xs.length σ H->D.nx σ H):
  ∃W:Nat->Nat->St->Hp->Prop,(∃m,W 0 m σ H)/\∀i m σ H,W i m σ H->
   ((yP K a).stop i H/\D.nx σ H)\/((yP K a).go i H/\∃N:St->Hp->Prop,(∀d f,N d f->∃j,j<m/\W (i+1) j d f)/\∀x f,(yP K a).Po i H x f->g x σ f λc h=>tb {D with nx:=N,ct:=N,bk:=D.nx} c h):=by
 calc(λi m σ H=>m=xs.length-i/\i<=xs.length/\b i σ H,(xs.length,nofun,aaO _,k),?_);rintro i m σ H ⟨rfl,c,p⟩;have q:=l i σ H c p;by_cases a:i<xs.length
 ·calc .inr ((xs,xs[i],q,by simp[a]),b (i+1),λd f c=>(xs.length-(i+1),(),rfl,a,c),λx f y=>?_);let(e,y):=y;subst e;exact n i x σ _ (y xs q) p
 ·have e:i=xs.length:=by lia
  subst e;calc .inl ((xs,q,S' _),o σ H p)
theorem pW{f:Int}{n:Nat}{D:Ends}(a:Nat->St->Hp->Prop)(l:a 0 σ H)
  (o:∀i σ H,i<n->a i σ H->g (.int (f+i)) σ H λb h=>tb {D with nx:=a (i+1),ct:=a (i+1),bk:=D.nx} b h) (q:∀σ H,a n σ H->D.nx σ H):
  ∃W:Nat->Nat->St->Hp->Prop,(∃m,W 0 m σ H)/\∀i m σ H,W i m σ H->
   ((EO f n).stop i H/\D.nx σ H)\/((EO f n).go i H/\∃N:St->Hp->Prop,(∀c d,N c d->∃k,k<m/\W (i+1) k c d)/\∀x d,(EO f n).Po i H x d->g x σ d λb h=>tb {D with nx:=N,ct:=N,bk:=D.nx} b h):=by
 calc(λi m σ H=>m=n-i/\i<=n/\a i σ H,(n,nofun,aaO _,l),?_);rintro i m σ H ⟨rfl,b,p⟩;by_cases j:i<n
 ·calc .inr (j,a (i+1),λc d b=>(n-(i+1),(),rfl,j,b),λx d y=>?_);let(e,y):=y;subst e y;exact o i σ _ j p
 ·have e:i=n:=by lia
  subst e;calc .inl (S' _,q σ H p)
end
section
variable {op:CmpOp}{g:Int->Int->Int}
abbrev R2:=V->V->Hp->VK->Prop
def gP(X:Cx)(f:Value->Value->Sem Value)(r:R2):Prop:=
 ∀(pins:List (Addr×Obj)) (s:Shared) (σ:St) (H:Hp) (x y:V) (v u:Value) (Q:VK),Inv X pins σ H s->RelV x v->RelV y u->r x y H Q->
  wpAny (model X.prog X.w) X.A (f v u) (EP X pins σ Q) X.xe s
def UnR(X:Cx)(f:Value->Sem Value)(r:V->Hp->VK->Prop):Prop:=
 ∀(pins:List (Addr×Obj)) (s:Shared) (σ:St) (H:Hp) (x:V) (v:Value) (Q:VK),Inv X pins σ H s->RelV x v->r x H Q->
  wpAny (model X.prog X.w) X.A (f v) (EP X pins σ Q) X.xe s
def eW(X:Cx)(f:Value)(r:List V->Hp->VK->Prop):Prop:=
 ∀(pins:List (Addr×Obj)) (s:Shared) (σ:St) (H:Hp) (xs:List V) (us:List Value) (Q:VK),Inv X pins σ H s->Vals xs us->r xs H Q->
  wpAny (model X.prog X.w) X.A (call f us) (EP X pins σ Q) X.xe s
def HC(r:R2)(a b:TE):TE:=λσ H Q=>a σ H λx c=>b σ c λy a=>r x y a Q
def tUn(r:V->Hp->VK->Prop)(a:TE):TE:=λσ H Q=>a σ H λx b=>r x b Q
def rI(C:Int->Int->Prop)(g:Int->Int->V):R2:=λx y H Q=>∃i j,x=.int i/\y=.int j/\C i j/\Q (g i j) H
def MO(g:Int->Int->V):R2:=λx y H Q=>∃i j,x=.int i/\y=.int j/\Q (g i j) H
def rU(g:Int->V):V->Hp->VK->Prop:=λx H Q=>∃i,x=.int i/\Q (g i) H
section
variable {X:Cx}{a b c:Expr}{ta tb tc:TE}{pos:Pos}
theorem RD(j:PE X a ta)(k:PE X b tb){pins:List (Addr×Obj)}{s:Shared}{σ:St}{H:Hp}{R:V->V->Hp->Prop}(I:Inv X pins σ H s)
  (h:ta σ H λx i=>tb σ i λy c=>R x y c) {Q:Value->Shared->Prop} {f:Value->Value->Sem Value}
  (l:∀v u g x y c,Inv X pins σ c g->RelV x v->RelV y u->R x y c->wpAny (model X.prog X.w) X.A (f v u) Q X.xe g):
  wpAny (model X.prog X.w) X.A (eval a X.env) (λv d=>wpAny (model X.prog X.w) X.A (eval b X.env) (λu e=>wpAny (model X.prog X.w) X.A (f v u) Q X.xe e) X.xe d) X.xe s:=by
 calc cU (j pins s σ H _ I h) λv e d=>?_;let(x,i,f,h,j):=d;calc cU (k pins e σ i _ f j) λu g d=>?_;let(y,c,e,f,i):=d;calc l v u g x y c e h f i
theorem aR{op:Operator}{r:R2}(c:gP X (binaryOp op) r)(d:PE X a ta)(e:PE X b tb):PE X (.BinOp a op b pos) (HC r ta tb):=by
 walk_at "xc";exact wpAny_BinOp (RD d e I h λv u f x y g i j k q=>c pins f σ g x y v u Q i j k q)
theorem jT{op:UnaryOp}{r:V->Hp->VK->Prop}(b:UnR X (unaryOp op) r)(c:PE X a ta):PE X (.UnaryOp op a pos) (tUn r ta):=by
 walk_at "xc";exact UnaryOp_ (cU (c pins s σ H _ I h) λv d (x,e,f,g,i)=>b pins d σ e x v Q f g i)
theorem opI{f:Value->Value->Sem Value}{C:Int->Int->Prop}
  (a:∀(i j:Int) (t u:Tok) (s:Shared) (Q:Value->Shared->Prop) (E:Value->Shared->Prop),C i j->Q (.int (g i j) s.toks) {s with toks:=s.toks+1}->wpAny (model X.prog X.w) X.A (f (.int i t) (.int j u)) Q E s):
  gP X f (rI C λi j=>.int (g i j)):=by
 intro b s σ H x y v u Q I c d h;let(i,j,rfl,rfl,e,q):=h;let(t,rfl):=c;let(k,rfl):=d;calc a i j t k s _ _ e (.int (g i j),H,I.tok _,(_,rfl),q)
theorem WI{f:Value->Value->Sem Value}
  (a:∀(i j:Int) (t u:Tok) (s:Shared) (Q:Value->Shared->Prop) (E:Value->Shared->Prop),Q (.int (g i j) s.toks) {s with toks:=s.toks+1}->wpAny (model X.prog X.w) X.A (f (.int i t) (.int j u)) Q E s):
  gP X f (MO λi j=>.int (g i j)):=by
 intro b s σ H x y v u Q I c d h;let(i,j,rfl,rfl,q):=h;let(t,rfl):=c;let(e,rfl):=d;calc a i j t e s _ _ (.int (g i j),H,I.tok _,(_,rfl),q)
theorem MP{f:Value->Value->Sem Value}{g:Int->Int->Bool}
  (a:∀(i j:Int) (t u:Tok) (s:Shared) (Q:Value->Shared->Prop) (E:Value->Shared->Prop),Q (.bool (g i j)) s->wpAny (model X.prog X.w) X.A (f (.int i t) (.int j u)) Q E s):
  gP X f (MO λi j=>.bl (g i j)):=by
 intro b s σ H x y v u Q I c d h;let(i,j,rfl,rfl,q):=h;let(t,rfl):=c;let(e,rfl):=d;calc a i j t e s _ _ (.bl (g i j),H,I,rfl,q)
def MQ(i j:Int):Prop:=0<=j/\j<=1000000/\i.natAbs<2^64
def HE(i j:Int):Prop:=(-(2^64)<i/\i<2^64)\/(-(2^64)<j/\j<2^64)
theorem HE.ok{i j:Int}(h:HE i j):IntMulOk i j:=by
 rcases h with⟨a,b⟩|⟨a,b⟩
 ·exact .of_left (intBits_le_64 a b)
 ·calc .of_right (intBits_le_64 a b)
theorem RE:gP X (binaryOp .Add) (MO λi j=>.int (i+j)):=WI λ_ _ _ _ _ _ _ q=>add_int q
theorem RF:gP X (binaryOp .Sub) (MO λi j=>.int (i-j)):=WI λ_ _ _ _ _ _ _ q=>sub_int q
theorem RG:gP X (binaryOp .Mult) (rI HE λi j=>.int (i*j)):=opI λ_ _ _ _ _ _ _ a q=>mul_int q a.ok
theorem RH:gP X (binaryOp .Mod) (rI (λ_ j=>0<j) λi j=>.int (i%j)):=opI λi j _ _ _ _ _ a q=>by
 have b:(0:Int)<j:=a;calc mod_int' () (by rw[Int.fmod_eq_emod_of_nonneg i ()];calc q)
theorem RI:gP X (binaryOp .Pow) (rI MQ λi j=>.int (i^j.toNat)):=opI λ_ _ _ _ _ _ _ a q=>pow_int_small a.1 a.2.1 a.2.2 q
theorem unI{f:Value->Sem Value}{g:Int->Int}
  (a:∀(i:Int) (t:Tok) (s:Shared) (Q:Value->Shared->Prop) (E:Value->Shared->Prop),Q (.int (g i) s.toks) {s with toks:=s.toks+1}->wpAny (model X.prog X.w) X.A (f (.int i t)) Q E s):
  UnR X f (rU λi=>.int (g i)):=by
 intro b s σ H x v Q I c h;let(i,rfl,q):=h;let(t,rfl):=c;calc a i t s _ _ (.int (g i),H,I.tok _,(_,rfl),q)
theorem gn:UnR X (unaryOp .USub) (rU λi=>.int (-i)):=unI λ_ _ _ _ _ q=>neg_int q
end
noncomputable def MR:V->V->Bool
 | .bG,.bG=>true | .bG,.int _=>true | .int _,.bG=>true | .bG,.bl _=>true | .bl _,.bG=>true | .bG,.str _=>true | .str _,.bG=>true
 | .int _,.int _=>true | .bl _,.bl _=>true | .str _,.str _=>true | .CB _,.CB _=>true
 | .int _,.str _=>true | .str _,.int _=>true | .bl _,.str _=>true | .str _,.bl _=>true
 |_,_=>false
def rEq:R2:=λx y H Q=>MR x y=true/\Q (.bl (decide (x=y))) H
def rNe:R2:=λx y H Q=>MR x y=true/\Q (.bl (!decide (x=y))) H
theorem CG{i j:Int}:decide (V.int i=V.int j)=(i==j):=by
 rw[Bool.eq_iff_iff];simp
theorem HF{i j:Bool}:decide (V.bl i=V.bl j)=(i==j):=by
 rw[Bool.eq_iff_iff];simp
theorem CH{i j:Str}:decide (V.str i=V.str j)=(i==j):=by
 rw[Bool.eq_iff_iff];simp
theorem CI{i j:Array UInt8}:decide (V.CB i=V.CB j)=(i.toList==j.toList):=by
 rw[Bool.eq_iff_iff]
 cases i
 cases j;simp
section
variable {X:Cx}{a b c:Expr}{ta tb tc:TE}{pos:Pos}
theorem bX{pins:List (Addr×Obj)}{σ:St}{H:Hp}{s:Shared}{Q:VK}{k a:Bool}(I:Inv X pins σ H s)(q:Q (.bl k) H)(e:k=a):EP X pins σ Q (.bool a) s:=by
 subst e;calc(.bl k,H,I,rfl,q)
theorem WJ:gP X (compareOp .Eq) rEq:=by
 intro e s σ H x y v u Q I d a h;let(c,q):=h
 cases x with
 |bG=>
  cases d
  cases y with
  |bG=>cases a;calc PySem.EqNone.eq_none_none (bX I q nofun)
  |bl j=>cases a;calc PySem.EqNone.eq_none_bool (bX I q nofun)
  |int j=>let(b,rfl):=a;calc PySem.EqNone.eq_none_int (bX I q nofun)
  |str j=>let(b,rfl):=a;calc PySem.EqNone.eq_none_str (bX I q nofun)
  |_=>calc absurd (show false=true from c) T'
 |bl i=>
  cases d
  cases y with
  |bG=>cases a;calc PySem.EqNone.eq_bool_none (bX I q nofun)
  |bl j=>cases a;calc eq_bool (bX I q HF)
  |str j=>let(b,rfl):=a;calc PySem.EqMixed.eq_bool_str (bX I q nofun)
  |_=>calc absurd (show false=true from c) T'
 |int i=>
  let(t,rfl):=d
  cases y with
  |bG=>cases a;calc PySem.EqNone.eq_int_none (bX I q nofun)
  |int j=>let(b,rfl):=a;calc eq_int (bX I q CG)
  |str j=>let(b,rfl):=a;calc PySem.EqMixed.eq_int_str (bX I q nofun)
  |_=>calc absurd (show false=true from c) T'
 |str i=>
  let(t,rfl):=d
  cases y with
  |bG=>cases a;calc PySem.EqNone.eq_str_none (bX I q nofun)
  |bl j=>cases a;calc PySem.EqMixed.eq_str_bool (bX I q nofun)
  |int j=>let(b,rfl):=a;calc PySem.EqMixed.eq_str_int (bX I q nofun)
  |str j=>let(b,rfl):=a;calc eq_str (bX I q CH)
  |_=>calc absurd (show false=true from c) T'
 |CB i=>
  let(t,rfl):=d
  cases y with
  |CB j=>let(b,rfl):=a;calc W.eq_bytes (bX I q CI)
  |_=>calc absurd (show false=true from c) T'
 |_=>cases y<;>calc absurd (show false=true from c) T'
theorem WK:gP X (compareOp .NotEq) rNe:=by
 intro e s σ H x y v u Q I d a h;let(c,q):=h
 cases x with
 |bG=>
  cases d
  cases y with
  |bG=>cases a;calc PySem.EqNone.ne_none_none (bX I q nofun)
  |bl j=>cases a;calc PySem.EqNone.ne_none_bool (bX I q nofun)
  |int j=>let(b,rfl):=a;calc PySem.EqNone.ne_none_int (bX I q nofun)
  |str j=>let(b,rfl):=a;calc PySem.EqNone.ne_none_str (bX I q nofun)
  |_=>calc absurd (show false=true from c) T'
 |bl i=>
  cases d
  cases y with
  |bG=>cases a;calc PySem.EqNone.ne_bool_none (bX I q nofun)
  |bl j=>cases a;calc ne_bool (bX I q (congrArg not HF))
  |str j=>let(b,rfl):=a;calc PySem.EqMixed.ne_bool_str (bX I q nofun)
  |_=>calc absurd (show false=true from c) T'
 |int i=>
  let(t,rfl):=d
  cases y with
  |bG=>cases a;calc PySem.EqNone.ne_int_none (bX I q nofun)
  |int j=>let(b,rfl):=a;calc ne_int (bX I q (congrArg not CG))
  |str j=>let(b,rfl):=a;calc PySem.EqMixed.ne_int_str (bX I q nofun)
  |_=>calc absurd (show false=true from c) T'
 |str i=>
  let(t,rfl):=d
  cases y with
  |bG=>cases a;calc PySem.EqNone.ne_str_none (bX I q nofun)
  |bl j=>cases a;calc PySem.EqMixed.ne_str_bool (bX I q nofun)
  |int j=>let(b,rfl):=a;calc PySem.EqMixed.ne_str_int (bX I q nofun)
  |str j=>let(b,rfl):=a;calc ne_str (bX I q (congrArg not CH))
  |_=>calc absurd (show false=true from c) T'
 |CB i=>
  let(t,rfl):=d
  cases y with
  |CB j=>let(b,rfl):=a;calc W.ne_bytes (bX I q (congrArg not CI))
  |_=>calc absurd (show false=true from c) T'
 |_=>cases y<;>calc absurd (show false=true from c) T'
theorem WL:gP X (compareOp .Lt) (MO λi j=>.bl (decide (i<j))):=MP λ_ _ _ _ _ _ _ q=>lt_int q
theorem WM:gP X (compareOp .LtE) (MO λi j=>.bl (decide (i<=j))):=MP λ_ _ _ _ _ _ _ q=>le_int q
theorem WN:gP X (compareOp .Gt) (MO λi j=>.bl (decide (j<i))):=MP λ_ _ _ _ _ _ _ q=>gt_int q
theorem WO:gP X (compareOp .GtE) (MO λi j=>.bl (decide (j<=i))):=MP λ_ _ _ _ _ _ _ q=>ge_int q
theorem RJ:gP X (compareOp .Is) (λx y H Q=>y=.bG/\Q (.bl (decide (x=.bG))) H):=by
 intro a s σ H x y v u Q I b c h;let(rfl,q):=h
 cases c;refine is_none_gen (bX I q ?_)
 cases x<;>first
  |(cases b;rfl)
  |(let(t,rfl):=b;rfl)
theorem MT:gP X (compareOp .IsNot) (λx y H Q=>y=.bG/\Q (.bl (!decide (x=.bG))) H):=by
 intro a s σ H x y v u Q I b c h;let(rfl,q):=h
 cases c;refine isnot_none_gen (bX I q ?_)
 cases x<;>first
  |(cases b;rfl)
  |(let(t,rfl):=b;rfl)
theorem aI(b:Expr){op:CmpOp}(h:op≠.In:=by decide)(a:op≠.NotIn:=by decide):behindInMarks op b=false:=by
 have c:(op==CmpOp.In)=false:=by cases op<;>first|rfl|exact absurd rfl h
 have d:(op==CmpOp.NotIn)=false:=by cases op<;>first|rfl|exact absurd rfl a
 cases b<;>simp[behindInMarks,c,d]
theorem i9{r:R2}(c:gP X (compareOp op) r)(d:PE X a ta)(e:PE X b tb)(f:behindInMarks op b=false):PE X (.Compare a [op] [b] pos) (HC r ta tb):=by
 walk_at "xc";exact wpAny_Compare1 (RD d e I h λv u g x y i j k l q=>c pins g σ i x y v u Q j k l q) f
def CJ(t:TE):TT:=λσ H Q=>t σ H λx a=>∃k,x=.bl k/\Q k a
theorem CK{r:R2}(d:gP X (compareOp op) r)(f:PE X a ta)(g:PE X b tb)(i:behindInMarks op b=false):PT X (.Compare a [op] [b] pos) (CJ (HC r ta tb)):=by
 walk_at "xc";refine wpAny_isTrue_Compare1 (cU (f pins s σ H _ I h) λv j (x,k,l,m,n)=>cU (g pins j σ k _ l n) λu f (y,o,p,q,r)=>
  cU (d pins f σ o x y v u _ p m q r) λc g (z,t,w,A,k,e,B)=>?_) i
 subst e
 cases A;calc abr (t,w,B)
def Be(r b:R2)(ta tb tc:TE):TE:=λσ H Q=>ta σ H λx a=>tb σ a λy c=>r x y c λz a=>∃k,z=.bl k/\
 (if k=true then tc σ a λw' c=>b y w' c Q else Q (.bl false) a)
theorem yQ{d:CmpOp}{r f:R2}(m:gP X (compareOp op) r)(n:gP X (compareOp d) f)(o:PE X a ta)(p:PE X b tb)(q:PE X c tc)
  (t:lastMarks [op,d] [b,c]=false:=by with_unfolding_all rfl):PE X (.Compare a [op,d] [b,c] pos) (Be r f ta tb tc):=by
 walk_at "xc";refine Compare_chain (cU (o pins s σ H _ I h) λv d (x,f,r,w,z)=>chain_link (cU (p pins d σ f _ r z) λu o (y,A,B,g,C)=>
  cU (m pins o σ A x y v u _ B w g C) λd D (z,i,j,E,k,e,l)=>?_)) t
 subst e
 cases E;refine abr ?_
 cases k with
 |false=>calc ite_ff (.bl false,i,j,rfl,l)
 |true=>calc ite_tt (chain_last (cU (q pins D σ i _ j l) λd e (f,k,m,o,p)=>n pins e σ k y f u d Q m g o p))
theorem sS:(sizeLine:Nat)<2^63:=by rw[abe];decide
theorem Bf:gP X (binaryOp .Add) (λx y H Q=>∃i j,x=.str i/\y=.str j/\i.length+j.length<=sizeLine/\Q (.str (i++j)) H):=by
 intro a s σ H x y v u Q I b c h;let(i,j,rfl,rfl,d,q):=h;let(t,rfl):=b;let(e,rfl):=c;calc add_str (λe a=>(.str (i++j),H,I.tok _,(_,rfl),q)) d
theorem vals1{x:V}{us:List Value}(r:Vals [x] us):∃u,us=[u]/\RelV x u:=by
 cases r with
 |cons a b=>cases b;calc(_,rfl,a)
theorem vals2{x y:V}{us:List Value}(r:Vals [x,y] us):∃u w',us=[u,w']/\RelV x u/\RelV y w':=by
 cases r with
 |cons a b=>
  cases b with
  |cons c d=>cases d;calc(_,_,rfl,a,c)
theorem ET(b:X.calm=true):eW X (.builtin "max") (λxs H Q=>∃i j,xs=[.int i,.int j]/\Q (.int (if j > i then j else i)) H):=by
 intro a s σ H xs c Q I r h;let(i,j,rfl,q):=h;let(u,d,rfl,(t,rfl),(e,rfl)):=vals2 r;refine max_two_ints (I.ok.hd b) λa c k=>(_,H,I.kept k,?_,q)
 by_cases a:j > i
 ·rw[if_pos a,if_pos a];exact(_,rfl)
 ·rw[if_neg a,if_neg a];calc(_,rfl)
theorem EU:eW X (.type "int") (λxs H Q=>(∃i,xs=[.int i]/\Q (.int i) H)\/∃k,xs=[.bl k]/\Q (.int (if k then 1 else 0)) H):=by
 intro a s σ H xs c Q I r h;rcases h with⟨i,rfl,q⟩|⟨k,rfl,q⟩
 ·let(u,rfl,t,rfl):=vals1 r;exact call_int_int (.int i,H,I,(_,rfl),q)
 ·let(u,rfl,b):=vals1 r
  cases b;calc call_int_bool (.int (if k then 1 else 0),H,I.tok _,(_,rfl),q)
def HG(K:W.Frag)(x:V)(H:Hp)(n:Nat):Prop:=
 match x with
 | .str y=>y.length<=sizeLine/\n=y.length
 | .CB y=>y.size<=sizeLine/\n=y.size
 | .ref p=>(∃xs,aV K H p xs/\n=xs.length)\/∃xs,bI K H p xs/\n=xs.length
 |_=>False
theorem HH:eW X (.builtin "len") (λxs H Q=>∃x n,xs=[x]/\HG X.K x H n/\Q (.int n) H):=by
 intro i s σ H xs m Q I r h;let(x,n,rfl,e,q):=h;let(u,rfl,c):=vals1 r;have h:=sS;have h:sizeLine=16777216:=abe
 cases x with
 |str y=>
  let(t,rfl):=c;obtain⟨j,b⟩:y.length<=sizeLine/\n=y.length:=e;subst b;calc len_str () (.int _,H,I.tok _,(_,rfl),q)
 |CB y=>
  let(t,rfl):=c;obtain⟨j,b⟩:y.size<=sizeLine/\n=y.size:=e;subst b;calc W.len_bytes () (.int _,H,I.tok _,(_,rfl),q)
 |ref p=>
  cases c;have b:(∃xs,aV X.K H p xs/\n=xs.length)\/∃xs,bI X.K H p xs/\n=xs.length:=e;rcases b with⟨xs,d,b⟩|⟨xs,d,b⟩
  ·subst b;let(k,f,g,l):=I.list d;have a:=f.length;exact Calls.call_len_list g.isList (by simp only[List.size_toArray];lia) (.int xs.length,H,I.tok _,(_,by simp only[List.size_toArray];rw[a]),q)
  ·subst b;let(k,f,g,l):=I.tuple d;have a:=f.length;calc len_tuple g (by simp only[List.size_toArray];lia) (.int xs.length,H,I.tok _,(_,by simp only[List.size_toArray];rw[a]),q)
 |_=>calc(show False from e).elim
end
end
section
variable {C:Addr}{mA:Str->Option Value}{Q:Value->Shared->Prop}
structure Bg(h:Heap)(x dx C:Addr)(mA:Str->Option Value):Prop where
 obj:h.get? x=some (W.instObj C dx)
 ns:h.Ns1 dx mA
 ne:dx≠x
theorem EV{h:Heap}{b:Addr}(n:h.Ns1 b mA):∃od,h.get? b=some od/\∀name,W.lookIn name od=some (mA name):=by
 let(o,c,m,d,f,g,_,i):=n;calc(o,d,λname=>?_);have e:=i name;unfold nsFind findBy at e;rw[<-Array.find?_toList]at e;unfold W.lookIn;rw[f];dsimp only;split
 ·rename_i y q;rw[q]at e;exact congrArg some e
 ·rename_i q;rw[q]at e;have a:c.toList.any (·.refKey)=false:=by
   rw[List.any_eq_false];intro y j;let(z,t,k):=g y (Array.mem_toList_iff.mp j);simp[DictEntry.refKey,k]
  have l:¬c.toList.any (·.refKey)=true:=by rw[a];exact T'
  rw[if_neg l];calc congrArg some e
theorem Bg.look{h:Heap}{x a:Addr}(I:Bg h x a C mA):∃od,W.InstAt h x (W.instObj C a) C (some od)/\∀name,W.lookIn name od=some (mA name):=
 let ⟨od,a,b⟩:=EV I.ns
 (od,(I.obj,rfl,rfl,a),b)
section
variable {prog:Program}{w:World}{A:Around}{E:Value->Shared->Prop}{s:Shared}{K:W.Frag}{x dx C f:Addr}{mA:Str->Option Value}{name:Str}{v:Value}
theorem get_map{a:Bool}(X:K.In s.heap)(I:Bg s.heap x dx C mA)(c:W.plainGet K C name=true)(d:W.hasDictIn K C=true)
  (e:W.findIn K (.ref C) name=some none) (f:mA name=some v) (b:W.handedIn v=true) (h:Q v {s with toks:=s.toks+1}):
  wpAny (model prog w) A (getAttr (.ref x) name a) Q E s:=by
 let(g,J,a):=I.look;calc W.get_value X J (W.plainGet_of c).1 (W.findObj_own d e rfl (by rw[a,f])) b h
theorem HI{pl:Sem Bool}{Q:Value×List Value->Shared->Prop}(X:K.In s.heap)(I:Bg s.heap x dx C mA)(a:W.plainGet K C name=true)
  (b:W.findIn K (.ref C) name=some (some (.ref f))) (c:W.isFn K (.ref f)=true) (d:mA name=none) (h:Q ((.ref f),[.ref x]) s):
  wpAny (model prog w) A (getMethod (.ref x) name pl) Q E s:=by
 let(e,J,g):=I.look;calc W.method_fn X J (W.plainGet_of a).1 (W.plainGet_of a).2 b (beq_iff_eq.mp c) (by show(W.lookIn name e).map (·.isSome)=some false;rw[g,d];rfl) h
theorem MU{ns:List Str}{Q:Unit->Shared->Prop}(X:K.In s.heap)(I:Bg s.heap x dx C mA)
  (b:W.findIn K (.ref C) "__setattr__"=some (some (.builtin "object.__setattr__"))) (c:W.plainOver K C=true) (d:W.takerIn K C name=some none) (e:W.hasDictIn K C=true)
  (i:PySem.Within mA ns) (hsz:ns.length<=sizeLine)
  (h:∀h',Bg h' x dx C (λy=>if y=name then some v else mA y)->Heap.SameBut dx s.heap h'->Q ⟨⟩ {s with heap:=h',toks:=s.toks+2}):
  wpAny (model prog w) A (setAttr (.ref x) name v) Q E s:=by
 let(g,J,j):=I.look;calc W.set_plain X J b (W.osa_open (s:={s with toks:=s.toks+1}) (r:=none) X J c d λb=>?_);let(d,b,c):=W.any_some e;have d:s.heap.get? x=some (.ref C,some dx,.plain,#[]):=I.obj;calc j' (K' (j' (j' (wpAny_loadPart d (j' (W.Looks.here (s:={s with toks:=s.toks+1}) (W.looks_clsIn X b) ?_))))));rw[c];calc K' (a:=some dx) (j' (K' (j' ?_)));calc wpAny_nsSet1 (s:={s with toks:=s.toks+1}) I.ns λh' b g=>?_;let(l,j,k,c,d,e):=b.count (PySem.Within.cons name v i);calc j' (wpAny_lookBehind c (by rw[d];calc pastItsLine_dict (aaS e (by rw[abf];lia))) ?_);calc K' (h _ ((g.2 _ (Ne.symm I.ne)).trans I.obj,b,I.ne) g)
theorem HJ{R:Result->Shared->Prop}{vs:List Value}{a:List (Str×Value)}(X:K.In s.heap)(b:W.makesIn K C=true)
  (c:W.findIn K (.ref C) "__init__"=some (some (.ref f))) (e:W.typeIn K (.ref f)=some (.type "function"))
  (h:codeAny (model prog w) (A.under (.builtin "type.__call__" (.ref C::vs,a))) (.call (.ref f) (.ref (s.heap.objs.size + 1)::vs,a)) (W.InitBack (s.heap.objs.size + 1) R)
   {s with heap:=(s.heap.push W.emptyDict).push (W.instObj C s.heap.objs.size)}):
  codeAny (model prog w) A (.call (.ref C) (vs,a)) R s:=by
 let(a,g,d,t,i):=s;calc W.make_core (W.makes_of X b) (W.looks_findIn X c) (λa=>W.bind_fn X a e) (.inl rfl) h
end
noncomputable def bP(f:Str)(v:V):List (Str×V)->List (Str×V)
 | []=>[((f),v)]
 |(g,x)::r=>if g=f then((g),v)::r else((g),x)::bP f v r
theorem bx(f g:Str)(v:V):∀a:List (Str×V),(bP f v a).lookup g=if g=f then some v else a.lookup g
 | []=>by
  show List.lookup g [((f),v)]=_;by_cases h:g=f
  ·have a:(g==f)=true:=beq_iff_eq.mpr h;simp only[List.lookup,a,if_pos h]
  ·have a:(g==f)=false:=beq_eq_false_iff_ne.mpr h;simp only[List.lookup,a,if_neg h]
 |(k,x)::r=>by
  have c:=bx f g v r;rw[show bP f v (((k),x)::r)=(if k=f then((k),v)::r else((k),x)::bP f v r) from rfl];by_cases b:k=f
  ·rw[if_pos b];by_cases h:g=k
   ·have a:(g==k)=true:=beq_iff_eq.mpr h;simp only[List.lookup,a,if_pos (h.trans b)]
   ·have a:(g==k)=false:=beq_eq_false_iff_ne.mpr h;simp only[List.lookup,a,if_neg (λe:g=f=>h (e.trans b.symm))]
  ·rw[if_neg b];by_cases h:g=k
   ·have a:(g==k)=true:=beq_iff_eq.mpr h;simp only[List.lookup,a,if_neg (λe:g=f=>b (h.symm.trans e))]
   ·have a:(g==k)=false:=beq_eq_false_iff_ne.mpr h;simp only[List.lookup,a];calc c
theorem pX(f:Str)(v:V):∀a:List (Str×V),f∈(bP f v a).map (·.1)/\∀g,g∈a.map (·.1)->g∈(bP f v a).map (·.1)
 | []=>(by simp[bP],λg h=>by simp at h)
 |(k,x)::r=>by
  let(c,d):=pX f v r;rw[show bP f v (((k),x)::r)=(if k=f then((k),v)::r else((k),x)::bP f v r) from rfl];by_cases b:k=f
  ·rw[if_pos b];subst b;exact(nofun,λg h=>by simpa using h)
  ·rw[if_neg b];refine(?_,λg h=>?_)
   ·rw[aaU];exact aaD _ c
   ·rw[aaU] at h ⊢;rcases List.mem_cons.mp h with e | e
    ·exact List.mem_cons.mpr (.inl e)
    ·calc aaD _ (d g e)
theorem lg(f:Str)(v:V):∀a:List (Str×V),(bP f v a).length<=a.length+1
 | []=>by simp[bP]
 |(k,x)::r=>by
  have a:=lg f v r;rw[show bP f v (((k),x)::r)=(if k=f then((k),v)::r else((k),x)::bP f v r) from rfl];by_cases a:k=f
  ·rw[if_pos a,abf,abf];lia
  ·rw[if_neg a,abf,abf];lia
theorem j4.some_of{v:V}{o:Option Value}(r:j4 (some v) o):∃u,o=some u/\RelV v u:=by
 cases o with
 |none=>calc(show False from r).elim
 |some u=>calc(u,rfl,r)
theorem j4.none_of{o:Option Value}(r:j4 none o):o=none:=by
 cases o with
 |none=>rfl
 |some u=>calc(show False from r).elim
theorem EX{v:V}{u:Value}(r:RelV v u):W.handedIn u=true:=by
 cases v with
 |bG=>cases(show u=Value.none from r);rfl
 |bl b=>cases(show u=Value.bool b from r);rfl
 |int i=>let(t,e):=(show ∃t,u=Value.int i t from r);cases e;rfl
 |str x=>let(t,e):=(show ∃t,u=Value.str x t from r);cases e;rfl
 |CB b=>let(t,e):=(show ∃t,u=Value.bytes b t from r);cases e;rfl
 |Pg b=>let(t,e):=(show ∃t,u=Value.float b t from r);cases e;rfl
 |ref a=>cases(show u=Value.ref a from r);rfl
 |ty n=>cases(show u=Value.type n from r);rfl
section
variable {P:Program}{w:World}{H H':Hp}{h h':Heap}{a C dx:Addr}{fs vQ:List (Str×V)}
theorem oJ(b:mS P w H h)(e:H a=some (.ins C dx fs)):∃mA,Bg h a dx C mA/\(∀f,j4 (fs.lookup f) (mA f))/\PySem.Within mA (fs.map (·.1))/\fs.length<=1000/\H dx=some (.own a):=by
 let(d,z,c,f,mA,n,r,q):=(show cA P w H h a (.ins C dx fs) from b a _ e)
 calc(mA,(f,n,c),r,q,z,d)
end
structure va(K:W.Frag)(C:Addr):Prop where
 pg:W.plainGet K C Str.empty=true
 hd:W.hasDictIn K C=true
 po:W.plainOver K C=true
 sa:W.findIn K (.ref C) "__setattr__"=some (some (.builtin "object.__setattr__"))
theorem va.get{K:W.Frag}(c:va K C)(f:Str):W.plainGet K C f=true:=c.pg
def bS(K:W.Frag)(C:Addr)(f:Str):Prop:=W.findIn K (.ref C) f=some none
theorem bS.WQ{K:W.Frag}{f:Str}(n:bS K C f):W.takerIn K C f=some none:=by
 unfold W.takerIn;rw[show W.findIn K (.ref C) f=some none from n];rfl
structure Meth(K:W.Frag)(C:Addr)(m:Str)(f:Addr):Prop where
 at_:W.findIn K (.ref C) m=some (some (.ref f))
 fn:W.isFn K (.ref f)=true
 kp:W.keepIn K (.ref f)=true
section
variable {X:Cx}{pins:List (Addr×Obj)}{σ:St}{H:Hp}{s:Shared}{a C dx:Addr}{fs:List (Str×V)}{f:Str}{v:V}{A:Around}{E:Value->Shared->Prop}
theorem Bh{b:Bool}(I:Inv X pins σ H s)(e:H a=some (.ins C dx fs))(c:va X.K C)(n:bS X.K C f)(l:fs.lookup f=some v)
  (h:∀u s',Inv X pins σ H s'->RelV v u->Q u s'):wpAny (model X.prog X.w) A (getAttr (.ref a) f b) Q E s:=by
 let(mA,O,r,_,_,_):=oJ I.aW e;let(u,d,b):=j4.some_of (v:=v) (o:=mA f) (by rw[<-l];calc r f);calc get_map I.il O (c.get f) c.hd n d (EX b) (h u _ (I.tok _) b)
theorem sT{m:Str}{g:Addr}{pl:Sem Bool}{Q:Value×List Value->Shared->Prop}(I:Inv X pins σ H s)(e:H a=some (.ins C dx fs))(c:va X.K C)(k:Meth X.K C m g)(l:fs.lookup m=none)
  (h:Q ((.ref g),[.ref a]) s):wpAny (model X.prog X.w) A (getMethod (.ref a) m pl) Q E s:=by
 let(mA,O,r,_,_,_):=oJ I.aW e;have b:mA m=none:=j4.none_of (by rw[<-l];calc r m);calc HI I.il O (c.get m) k.at_ k.fn b h
theorem Bi{y:V}{u:Value}{Q:Unit->Shared->Prop}(I:Inv X pins σ H s)(e:H a=some (.ins C dx fs))(c:va X.K C)(n:bS X.K C f)(b:fs.length<1000)(k:RelV y u)
  (h:∀s',Inv X pins σ (upd H a (.ins C dx (bP f y fs))) s'->Q ⟨⟩ s'):wpAny (model X.prog X.w) A (setAttr (.ref a) f u) Q E s:=by
 let(mA,O,r,i,_,j):=oJ I.aW e;have b:(fs.map (·.1)).length<=sizeLine:=by rw[aau,abe];lia
 calc MU I.il O c.sa c.po n.WQ c.hd i b λg d l=>h _ ?_;have hd:∃o,g.get? dx=some o:=let ⟨o,_,_,b,_⟩:=d.ns;(o,b)
 calc I.write (x:=a) (e:=dx) (by rw[e];calc aa4) (.inr j) (λb q c z=>(l.2 b c).trans z) hd ?_;refine(by rw[ay O.ne];calc j,?_,O.ne,d.obj,_,d.ns,λg=>?_,λg b=>?_)
 ·have:=lg f y fs;lia
 ·show j4 ((bP f y fs).lookup g) (if g=f then some u else mA g);rw[bx];by_cases q:g=f
  ·rw[if_pos q,if_pos q];exact k
  ·rw[if_neg q,if_neg q];exact r g
 ·by_cases q:g=f
  ·rw[q];exact(pX f y fs).1
  ·calc(pX f y fs).2 g (i g λz=>b ?_);show(if g=f then some u else mA g)=none;rw[if_neg q];calc z
theorem Inv.made(I:Inv X pins σ H s):Inv X pins σ (upd (upd H s.heap.objs.size (.own (s.heap.objs.size+1))) (s.heap.objs.size+1) (.ins C s.heap.objs.size []))
  {s with heap:=(s.heap.push W.emptyDict).push (W.instObj C s.heap.objs.size)}:=by
 have c:(s.heap.push W.emptyDict).get? s.heap.objs.size=some W.emptyDict:=aas s.heap rfl;have d:((s.heap.push W.emptyDict).push (W.instObj C s.heap.objs.size)).get? (s.heap.objs.size+1)=some (W.instObj C s.heap.objs.size):=by
  have:=aas (s.heap.push W.emptyDict) (o:=W.instObj C s.heap.objs.size) rfl;rwa [aaZ]at this
 have f:(s.heap.push W.emptyDict).Ns s.heap.objs.size (λ_=>none):=(W.emptyDict,#[],_,c,rfl,(λe b=>absurd b nofun),λ_=>rfl)
 have e:=I.laid (a:=s.heap.objs.size) (o:=.own (s.heap.objs.size+1)) (h':=s.heap.push W.emptyDict) (t':=s.toks) (λb u q=>P' _ q) (S' _) (_,c);calc e.laid (a:=s.heap.objs.size+1) (o:=.ins C s.heap.objs.size []) (t':=s.toks) (λb u q=>P' _ q) (Nat.le_of_eq (aaZ _ _)) ?_;have b:s.heap.objs.size≠s.heap.objs.size+1:=aaN (Nat.lt_succ_self _);calc(by rw[ay b,af],aaO _,b,d,λ_=>none,(Heap.Ns1.of_empty f).at λo q=>P' _ q,λ_=>aa4,λy b=>absurd rfl b)
theorem MV{prog:Program}{w:World}{env:Env}{e:Expr}{f:Str}{pos:Pos}{s:Shared}(b:attributeBase e f env (eval e env)=eval e env)
  (h:wpAny (model prog w) A (eval e env) (λo a=>wpAny (model prog w) A (getAttr o f true) Q E a) E s):wpAny (model prog w) A (eval (.Attribute e f pos) env) Q E s:=
 Attribute_any_ h (by rw[arm_eval_Attribute,b])
end
def MW(K:W.Frag)(a:TE)(f:Str):TE:=λσ H Q=>a σ H λx b=>∃a C d c v,x=.ref a/\b a=some (.ins C d c)/\va K C/\bS K C f/\c.lookup f=some v/\Q v b
def RK(K:W.Frag)(a b:TE)(f:Str):TS:=λD σ H=>b σ H λy d=>a σ d λx c=>∃a C d b,x=.ref a/\c a=some (.ins C d b)/\va K C/\bS K C f/\b.length<1000/\
 D.nx σ (upd c a (.ins C d (bP f y b)))
section
variable {X:Cx}{o e value:Expr}{f:Str}{pos pos' RL:Pos}{ta tv:TE}
theorem bL(b:PE X e ta)(d:attributeBase e f X.env (eval e X.env)=eval e X.env):PE X (.Attribute e f pos) (MW X.K ta f):=by
 walk_at "xc";refine MV d (cU (b pins s σ H _ I h) λu p g=>?_);let(x,i,j,k,a,C,b,d,v,m,o,c,n,l,q):=g;subst m;obtain rfl:u=Value.ref a:=k;exact Bh j o c n l λd g a b=>(v,i,a,b,q)
theorem fS(b:PE X o ta)(d:PE X value tv)(e:swapsWith value (some (.Attribute o f pos')) pos.line X.env=pure false):PS X (.Assign [.Attribute o f pos'] value pos) (RK X.K ta tv f):=by
 walk_at "xd";refine plainObj_wpAny_Assign_Attribute (cU (d pins s σ H _ I h) λu g (y,i,j,k,q)=>cU (b pins g σ i _ j q) λm d p=>?_) e;let(x,b,r,t,a,C,d,g,v,w,c,n,l,z):=p;subst v;obtain rfl:m=Value.ref a:=t;exact Bi r w c n l k λb a=>(σ,_,a,z)
end
section
variable {X:Cx}{pins:List (Addr×Obj)}{σ:St}{H:Hp}{s:Shared}{A:Around}{E:Value->Shared->Prop}{Q:Value->Shared->Prop}{c:Value}{b:Bool}
inductive gS(K:W.Frag)(H:Hp):V->Value->Prop where
  |bG:gS K H .bG (.type "NoneType")
  |bl (x:Bool):gS K H (.bl x) (.type "bool")
  |int (i:Int):gS K H (.int i) (.type "int")
  |str (x:Str):gS K H (.str x) (.type "str")
  |Pg (x:UInt64):gS K H (.Pg x) (.type "float")
  |lst {a:Addr} {xs:List V} (e:H a=some (.lst xs)):gS K H (.ref a) (.type "list")
  |AJ {a:Addr} {o:Obj} {xs:List V} (e:H a=some (.AJ o (.lst xs))):gS K H (.ref a) (.type "list")
  |tup {a:Addr} {xs:List V} (e:H a=some (.tup xs)):gS K H (.ref a) (.type "tuple")
  |dK {a:Addr} {aL:List (Key×V)} (e:H a=some (.dK aL)):gS K H (.ref a) (.type "dict")
  |dT {a:Addr} {aL:List (List Key×V)} (e:H a=some (.dT aL)):gS K H (.ref a) (.type "dict")
  | ins {a C dx:Addr} {fs:List (Str×V)} (e:H a=some (.ins C dx fs)) (cl:va K C) (ha:W.findIn K (.ref C) "__class__"=some (some (.builtin "object.__class__")))
      (hn:W.specialIn K (.builtin "object.__class__") "__get__"=some (some (.builtin "getset_descriptor.__get__"))) (Vo:W.takesIn K (.builtin "object.__class__")=some true)
      (hm:W.mroIn K C (.type "object")=some true):gS K H (.ref a) (.ref C)
theorem vS{x:V}{u t:Value}(I:Inv X pins σ H s)(d:RelV x u)(r:gS X.K H x t)(e:W.kitOne X.K t c=some b)(h:∀v,Q (.bool b) {s with toks:=v}):
  wpAny (model X.prog X.w) A (call (.builtin "isinstance") [u,c]) Q E s:=by
 cases r with
 |bG=>cases(show u=Value.none from d);calc W.kia_one W.kitx_none I.il aa4 e (λz=>nomatch z) h
 |bl y=>cases(show u=Value.bool y from d);calc W.kia_one W.kitx_bool I.il aa4 e (λz=>nomatch z) h
 |int i=>let(t,q):=(show ∃t,u=Value.int i t from d);cases q;calc W.kia_one W.kitx_int I.il aa4 e (λz=>nomatch z) h
 |str y=>let(t,q):=(show ∃t,u=Value.str y t from d);cases q;calc W.kia_one W.kitx_str I.il aa4 e (λz=>nomatch z) h
 |Pg y=>let(t,q):=(show ∃t,u=Value.float y t from d);cases q;calc W.kia_one W.kitx_float I.il aa4 e (λz=>nomatch z) h
 | @lst a j f=>
  cases(show u=Value.ref a from d);let(_,_,n,_,g):=(show cA X.prog X.w H s.heap a (.lst j) from I.aW a _ f)
  calc W.kia_one W.kitx_list I.il (_,g,rfl) e (λz=>nomatch z) h
 | @AJ a B j f=>
  cases(show u=Value.ref a from d);let(_,_,_,n,_,g):=(show cA X.prog X.w H s.heap a (.AJ B (.lst j)) from I.aW a _ f)
  calc W.kia_one W.kitx_list I.il (_,g,rfl) e (λz=>nomatch z) h
 | @tup a j f=>
  cases(show u=Value.ref a from d);let(_,_,_,p):=(show cA X.prog X.w H s.heap a (.tup j) from I.aW a _ f)
  let(o,g,k,_):=p;calc W.kia_one W.kitx_tuple I.il (o,g,k) e (λz=>nomatch z) h
 | @dK a l f=>
  cases(show u=Value.ref a from d);let(_,_,i,_,p):=(show cA X.prog X.w H s.heap a (.dK l) from I.aW a _ f)
  let(o,D,F,g,k,_):=p;calc W.kia_one W.kitx_dict I.il (o,g,k.1) e (λz=>nomatch z) h
 | @dT a l f=>
  cases(show u=Value.ref a from d);let(_,_,j,_,o,D,F,g,k,_):=(show cA X.prog X.w H s.heap a (.dT l) from I.aW a _ f)
  calc W.kia_one W.kitx_dict I.il (o,g,k.1) e (λz=>nomatch z) h
 | @ins a C g i f m G L M N=>
  cases(show u=Value.ref a from d);let(mA,O,_):=oJ I.aW f;let(a,J,_):=O.look;calc W.kia_one (W.kitx_own (m.get _) m.hd G L M N) I.il J e (λz=>nomatch z) h
end
end
section
variable {A:Around}{base:Heap}{H:Hp}{kw:List (Str×Value)}{us:List Value}{s:Shared}{mg:Str->Option Value}{K:W.Frag}
structure eQ(k:Nat)(A:Around):Prop where
 hd:A.handled=none
 dp:A.depth+3*k+5<recursionLimit
 un:A.units+16*k+200<cLine
theorem eQ.mono{j k:Nat}(r:eQ k A)(h:j<=k):eQ j A:=(r.hd,by have:=r.dp;lia,by have:=r.un;lia)
theorem eQ.deeper{k:Nat}(r:eQ (k+1) A)(env:Env):eQ k (A.deeper env):=
 (r.hd,by have:=r.dp;show A.depth+1+3*k+5<_;lia,by have:=r.un;show A.units+3+16*k+200<_;lia)
theorem Bj{C:Addr}:(A.under (.builtin "type.__call__" (.ref C::us,kw))).depth=A.depth+1:=by
 first|rfl|simp[Around.under,Code.weight,Code.isCreation,Code.isGuard,Code.isCaller,Code.frames,Code.isFrame,guardIds]
theorem Bk{C:Addr}:(A.under (.builtin "type.__call__" (.ref C::us,kw))).units=A.units+1:=by
 first|rfl|simp[Around.under,Code.cUnits,Code.frames,Code.isFrame]
theorem eQ.make{k:Nat}(r:eQ (k+1) A)(C:Addr)(us:List Value)(kw:List (Str×Value)):eQ k (A.under (.builtin "type.__call__" (.ref C::us,kw))):=
 (r.hd,by have:=r.dp;rw[Bj];lia,by have:=r.un;rw[Bk];lia)
theorem eQ.depth{k:Nat}(r:eQ k A):A.depth<recursionLimit:=by have:=r.dp;lia
theorem eQ.units{k:Nat}(r:eQ k A):A.units+64<cLine:=by have:=r.un;lia
def EY:TA:=λ_ H Q=>Q [] H
def yR(a:TE)(b:TA):TA:=λσ H Q=>a σ H λx c=>b σ c λxs a=>Q (x::xs) a
section
variable {X:Cx}{e:Expr}{es:List Expr}{te:TE}{t:TA}{pos:Pos}
theorem aa:PA X [] EY:=.mk λ_ _ _ _ H Q I h=>Calls.spliced_nil ([],H,I,.nil,h)
theorem MX(b:PE X e te)(c:PA X es t)(d:starEach (e::es) X.env=((false),eval e X.env)::starEach es X.env:=by rfl):PA X (e::es) (yR te t):=by
 calc⟨?_⟩;intro pos a s σ H Q I h;rw[d];show wpAny _ _ (spliced (((false),eval e X.env)::backTo pos (starEach es X.env))) _ _ s;calc Calls.spliced_cons (cU (b a s σ H _ I h) λu f g=>?_);let(x,b,d,h,i):=g;calc cU (c pos a f σ b _ d i) λus o (j,k,l,m,n)=>(x::j,k,l,.cons h m,n)
def RM(t:TA):TE:=λσ H Q=>t σ H λxs a=>xs.length<=sizeLine/\∀p,a p=none->Q (.ref p) (upd a p (.tup xs))
def RN(t:TA):TE:=λσ H Q=>t σ H λxs a=>xs.length<=sizeLine/\∀p,a p=none->Q (.ref p) (upd a p (.lst xs))
theorem bz{a}(h:PA X es t):PE X (.Tuple es a pos) (RM t):=by
 calc⟨?_⟩;intro a s σ H Q I f;calc wpAny_Tuple_spliced (cU (h pos a s σ H _ I f) λus c (g,b,d,r,z,q)=>(by rw[<-r.length];calc z,?_));have a:b c.heap.objs.size=none:=d.aW.fresh (S' _);calc(.ref c.heap.objs.size,upd b c.heap.objs.size (.tup g),d.laid (t':=c.toks) (λb u e=>P' _ e) (S' _) ?_,rfl,q _ a);calc(z,us,r,(_,aas _ rfl,rfl,_,rfl))
theorem bH(h:PA X es t):PE X (.List es pos) (RN t):=by
 calc⟨?_⟩;intro a s σ H Q I f;calc wpAny_List_spliced (cU (h pos a s σ H _ I f) λus c (g,b,d,r,z,q)=>(by rw[<-r.length];calc z,?_));have a:b c.heap.objs.size=none:=d.aW.fresh (S' _);calc(.ref c.heap.objs.size,upd b c.heap.objs.size (.lst g),d.laid (t':=c.toks) (λb u e=>P' _ e) (S' _) ?_,rfl,q _ a);calc(z,us,0,r,aas _ rfl)
end
abbrev Sp:=List V->Hp->VK->XK->Prop
abbrev HK:=List Env->Hp->Shared->XK->Value->Shared->Prop
structure Bl(P:Program)(w:World)(K:W.Frag)(mg:Str->Option Value)(base:Heap)(A:Around)(outer:List Env)(s:Shared)(H:Hp):Prop where
 frames:A.frames=some outer
 mod:Mod K mg base
 bs:∀b o,base.get? b=some o->s.heap.get? b=some o/\H b=none
 GH:base.objs.size<=s.heap.objs.size
 oH:s.heap.FunFrames base outer
 ML:∀b∈yC outer,H b=none
 aW:mS P w H s.heap
 bare:AllBare s.gens
def CE(outer:List Env)(P:Program)(w:World)(H:Hp)(s:Shared)(Q:VK)(u:Value)(s':Shared):Prop:=
 ∃v a,s'.os=s.os/\AllBare s'.gens/\Un (yC outer) [] H a s.heap s'.heap/\mS P w a s'.heap/\RelV v u/\Q v a
def CR(CX:HK)(outer:List Env)(P:Program)(w:World)(H:Hp)(s:Shared)(Q:VK)(E:XK)(r:Result)(s':Shared):Prop:=
 match r with
 | .ok (.ret u)=>CE outer P w H s Q u s'
 | .ok _=>False
 | .error e=>CX outer H s E e s'
structure j7(P:Program)(w:World)(K:W.Frag)(mg:Str->Option Value)(base:Heap)(CX:HK)(k:Nat)(f:Addr)(fd:FuncData)(ps:List Str)(sp:Sp):Prop where
 len:∀vs H Q E,sp vs H Q E->vs.length=ps.length
 run:∀(A:Around) (outer:List Env) (s:Shared) (H:Hp) (args:Args) (us:List Value) (vs:List V) (Q:VK) (E:XK),eQ k A->Bl P w K mg base A outer s H->BindsTo s fd args (ps.zip us)->Vals vs us->sp vs H Q E->
  codeAny (model P w) A (.call (.ref f) args) (CR CX outer P w H s Q E) s
theorem Bl.make{P:Program}{w:World}{outer:List Env}(e:Bl P w K mg base A outer s H)(C:Addr)(us:List Value)(kw:List (Str×Value)):
  Bl P w K mg base (A.under (.builtin "type.__call__" (.ref C::us,kw))) outer s H:=⟨by first|exact e.frames|(simpa[Around.under,Code.envs,Code.isFrame,pushEnvs] using e.frames),e.mod,e.bs,e.GH,e.oH,e.ML,e.aW,e.bare⟩
section
variable {X:Cx}{pins:List (Addr×Obj)}{σ:St}{H:Hp}{s s':Shared}
theorem Inv.RO(I:Inv X pins σ H s):Bl X.prog X.w X.K X.mg X.base X.A X.stack s H:=
 (I.ok.frames,I.ok.mod,I.bs,aaS I.ok.GH I.sz,I.stack,I.r9,I.aW,I.bare)
theorem Inv.after{Q:VK}{u:Value}(I:Inv X pins σ H s)(h:CE X.stack X.prog X.w H s Q u s'):EP X pins σ Q u s':=by
 let(v,c,os,a,e,f,r,q):=h;let(i,g,d,t,b):=s';obtain rfl:b=s.os:=os;calc(v,c,I.call (h':=i) (g':=g) (d':=d) (t':=t) (ch:=[]) e f a (λb z=>absurd z nofun),r,q)
end
def sU(sp:Sp)(a:List V)(E:XK)(t:TA):TE:=λσ H Q=>t σ H λvs b=>sp (vs++a) b Q E
def vT(C:Addr)(m:Str)(sp:Sp)(d:List V)(E:XK)(a:TE)(t:TA):TE:=λσ H Q=>a σ H λx b=>∃a e c,x=.ref a/\b a=some (.ins C e c)/\c.lookup m=none/\
 t σ b λvs a=>sp (x::(vs++d)) a Q E
def CL(C:Addr)(sp:Sp)(c:List V)(E:XK)(t:TA):TE:=λσ H Q=>t σ H λvs b=>∀x a,b x=none->b a=none->a≠x->
 sp (.ref x::(vs++c)) (upd (upd b a (.own x)) x (.ins C a [])) (λv d=>v=.bG/\Q (.ref x) d) E
def Binds(K:W.Frag)(c:FuncData)(a:List Str)(b:List Value):Prop:=
 ∀(s:Shared) (us:List Value),K.In s.heap->(us++b).length=a.length->BindsTo s c (us,[]) (a.zip (us++b))
theorem Binds.all{b:FuncData}{a:List Str}(h:∀us:List Value,us.length=a.length->bindArgs b (us,[])=pure (a.zip us)):Binds K b a []:=λs us _ a=>by
 rw[aaP]at a ⊢;calc .of_eq (h us a)
def Passes(CX:HK)(X:Cx)(E:XK):Prop:=∀(pins:List (Addr×Obj)) (σ:St) (H:Hp) (s:Shared) (e:Value) (s':Shared),Inv X pins σ H s->CX X.stack H s E e s'->X.xe e s'
section
variable {X:Cx}{CX:HK}{k:Nat}{f C:Addr}{fd:FuncData}{ps:List Str}{sp:Sp}{vb:List V}{ds:List Value}{E:XK}{x m:Str}{p pos apos:Pos}{e o:Expr}{es:List Expr}{ta:TE}{t:TA}
theorem Bm{pins:List (Addr×Obj)}{σ:St}{H:Hp}{s:Shared}{Q:VK}{us:List Value}{vs:List V}(F:j7 X.prog X.w X.K X.mg X.base CX k f fd ps sp)(c:eQ k X.A)(d:Binds X.K fd ps ds)(g:Vals vb ds)(i:Passes CX X E)
  (I:Inv X pins σ H s) (r:Vals vs us) (h:sp (vs++vb) H Q E):wpAny (model X.prog X.w) X.A (call (.ref f) us) (EP X pins σ Q) X.xe s:=by
 have b:Vals (vs++vb) (us++ds):=r.append g;have j:(us++ds).length=ps.length:=by rw[<-b.length];exact F.len _ _ _ _ h
 refine wpAny_call (codeAny_mono (F.run X.A X.stack s H (us,[]) (us++ds) (vs++vb) Q E c I.RO (d s us I.il j) b h) λr l a=>?_)
 cases r with
 |error e=>calc i pins σ H s e l I a
 |ok m=>
  cases m with
  |ret u=>calc I.after a
  |next=>calc aa3 a
  |brk=>calc aa3 a
  |cont=>calc aa3 a
theorem CM(F:j7 X.prog X.w X.K X.mg X.base CX k f fd ps sp)(b:eQ k X.A)(a:Gl X x)(c:X.mg x=some (.ref f))(d:W.keepIn X.K (.ref f)=true)(g:Binds X.K fd ps ds)(i:Vals vb ds)(j:Passes CX X E)
  (l:PA X (e::es) t) (m:(x==("__debug__":Str))=false:=by decide) (n:starEach (e::es) X.env=((false),eval e X.env)::starEach es X.env:=by rfl) (o:(backTo pos (starEach es X.env)).any (·.1)=false:=by rfl):
  PE X (.Call (.Name x p) (e::es) [] pos) (sU sp vb E t):=by
 walk_at "xc";refine wpAny_Call_Name_kw (j5 I a c ?_ m);refine W.callWith_K (h₀:=X.base) I.ok.mod.A0 d (cU (l pos pins s σ H _ I h) λus c (m,u,a,r,q)=>(a.il,?_)) n o;exact Bm F b g i j a r q
theorem MY{pl:Sem Bool}(i:PE X o ta)(c:va X.K C)(b:Meth X.K C m f)(F:j7 X.prog X.w X.K X.mg X.base CX k f fd ps sp)(j:eQ k X.A)(n:Binds X.K fd ps ds)(p:Vals vb ds)(v:Passes CX X E)(y:PA X (e::es) t)
  (z:starEach (e::es) X.env=((false),eval e X.env)::starEach es X.env:=by rfl) (B:(backTo pos (starEach es X.env)).any (·.1)=false:=by rfl)
  (r:eval (.Call (.Attribute o m apos) (e::es) [] pos) X.env=(do
   let d <-eval o X.env
   standAt apos.atName
   let (f,first) <-holding [d] (getMethod d m pl)
   callWith pos f first (backTo pos (starEach (e::es) X.env)) (backToKw pos (keywordEach [] X.env))):=by rfl):
  PE X (.Call (.Attribute o m apos) (e::es) [] pos) (vT C m sp vb E ta t):=by
 walk_at "xc";refine W.methodCall_KW (pl:=pl) (cU (i pins s σ H _ I h) λu D G=>?_) r;let(x,J,g,L,a,d,i,M,N,l,q):=G;subst M;obtain rfl:u=Value.ref a:=L;refine sT g N c b l ?_;refine W.callWith_K (first:=[.ref a]) (h₀:=X.base) I.ok.mod.A0 b.kp (cU (y pos pins D σ J _ g q) λus l (c,u,d,r,i)=>(d.il,?_)) z B;exact Bm (us:=.ref a::us) (vs:=.ref a::c) F j n p v d (.cons rfl r) i
theorem HL{pl:Sem Bool}(g:PE X o ta)(c:va X.K C)(d:Meth X.K C m f)(F:j7 X.prog X.w X.K X.mg X.base CX k f fd ps sp)(i:eQ k X.A)(j:Binds X.K fd ps ds)(n:Vals vb ds)(p:Passes CX X E)
  (r:eval (.Call (.Attribute o m apos) [] [] pos) X.env=(do
   let e <-eval o X.env
   standAt apos.atName
   let (f,first) <-holding [e] (getMethod e m pl)
   callWith pos f first (backTo pos (starEach [] X.env)) (backToKw pos (keywordEach [] X.env))):=by rfl):
  PE X (.Call (.Attribute o m apos) [] [] pos) (vT C m sp vb E ta EY):=by
 walk_at "xc";refine W.methodCall_KW (pl:=pl) (cU (g pins s σ H _ I h) λu e t=>?_) r;let(x,e,b,v,a,g,B,y,z,l,q):=t;subst y;obtain rfl:u=Value.ref a:=v;refine sT b z c d l ?_;exact W.callWith_K0 (first:=[.ref a]) b.il d.kp (Bm (us:=[.ref a]) (vs:=[.ref a]) F i j n p b (.cons rfl .nil) q)
structure Mk(K:W.Frag)(C f:Addr):Prop where
 makes:W.makesIn K C=true
 init:W.findIn K (.ref C) "__init__"=some (some (.ref f))
 fn:W.isFn K (.ref f)=true
 kp:W.keepIn K (.ref C)=true
theorem HM{pins:List (Addr×Obj)}{σ:St}{Q:VK}{vs:List V}(M:Mk X.K C f)(F:j7 X.prog X.w X.K X.mg X.base CX k f fd ps sp)(hr:eQ (k+1) X.A)(g:Binds X.K fd ps ds)(i:Vals vb ds)
  (j:Passes CX X E) (I:Inv X pins σ H s) (r:Vals vs us)
  (h:∀x b,H x=none->H b=none->b≠x->sp (.ref x::(vs++vb)) (upd (upd H b (.own x)) x (.ins C b [])) (λv d=>v=.bG/\Q (.ref x) d) E):
  wpAny (model X.prog X.w) X.A (call (.ref C) us) (EP X pins σ Q) X.xe s:=by
 have b:=h (s.heap.objs.size+1) s.heap.objs.size (I.aW.fresh (Nat.le_succ _)) (I.aW.fresh (S' _)) (aaN (Nat.lt_succ_self _));have c:=Inv.made (C:=C) I;have d:Vals (V.ref (s.heap.objs.size+1)::(vs++vb)) (Value.ref (s.heap.objs.size+1)::(us++ds)):=.cons rfl (r.append i);have l:(Value.ref (s.heap.objs.size+1)::us++ds).length=ps.length:=by
  have e:=d.length;rw[F.len _ _ _ _ b]at e;exact e.symm
 refine wpAny_call (HJ (f:=f) I.il M.makes M.init (beq_iff_eq.mp M.fn) (codeAny_mono (F.run _ X.stack _ _ (Value.ref (s.heap.objs.size + 1)::us,[]) (Value.ref (s.heap.objs.size + 1)::(us++ds)) _ _ E (hr.make C us [])
  (c.RO.make C us []) (g _ (Value.ref (s.heap.objs.size + 1)::us) c.il l) d b) λr m a=>?_))
 cases r with
 |error e=>calc j pins σ _ _ e m c a
 |ok n=>
  cases n with
  |ret u=>
   let(v,o,p,q,t,y):=c.after a;subst t;calc(q,(V.ref (s.heap.objs.size+1),o,p,rfl,y))
  |next=>calc aa3 a
  |brk=>calc aa3 a
  |cont=>calc aa3 a
theorem MZ(M:Mk X.K C f)(F:j7 X.prog X.w X.K X.mg X.base CX k f fd ps sp)(b:eQ (k+1) X.A)(a:Gl X x)(c:X.mg x=some (.ref C))(d:Binds X.K fd ps ds)(g:Vals vb ds)(i:Passes CX X E)
  (j:PA X (e::es) t) (l:(x==("__debug__":Str))=false:=by decide) (m:starEach (e::es) X.env=((false),eval e X.env)::starEach es X.env:=by rfl) (n:(backTo pos (starEach es X.env)).any (·.1)=false:=by rfl):
  PE X (.Call (.Name x p) (e::es) [] pos) (CL C sp vb E t):=by
 walk_at "xc";refine wpAny_Call_Name_kw (j5 I a c ?_ l);refine W.callWith_K (h₀:=X.base) I.ok.mod.A0 M.kp (cU (j pos pins s σ H _ I h) λus c (l,o,a,r,q)=>(a.il,?_)) m n;exact HM M F b d g i a r q
end
structure aE(N P:List Str)(sc:Scope):Prop where
 kind:sc.kind=.function
 co:sc.isCoroutine=false
 gen:sc.isGenerator=false
 nd:N.Nodup
 pre:N.take P.length=P
 par:∀x∈P,sc.names.lookup x=some .local\/sc.names.lookup x=some .cell
 RP:∀y∈sc.names,y.2≠.free
theorem vU{b:Str->Option NameKind}{x:Str}:∀{a:List (Str×Value)}{m:Str->Option Value},(∀v,((x),v)∉a)->bindL b a m x=m x
 | [],_,_=>rfl
 |(n,v)::r,m,h=>by
  unfold bindL;rw[vU λw c=>h w (aaD _ c)];split
  ·have:x≠n:=by rintro rfl;exact h v aaY
   simp[this]
  ·rfl
theorem vV{b:Str->Option NameKind}{x:Str}:∀{a:List (Str×Value)}{m:Str->Option Value},(∀v,((x),v)∉a)->bindC b a m x=m x
 | [],_,_=>rfl
 |(n,v)::r,m,h=>by
  unfold bindC;rw[vV λw c=>h w (aaD _ c)];split
  ·rfl
  ·have:x≠n:=by rintro rfl;exact h v aaY
   simp[this]
theorem vW{a:Str->Option NameKind}{x:Str}{v:Value}:∀{P:List Str}{vs:List Value}{i:Nat}{m:Str->Option Value},P.Nodup->P[i]?=some x->vs[i]?=some v->a x=some .local->
  bindL a (P.zip vs) m x=some v
 | [],_,_,_,_,h,_,_=>by simp at h
 |_::_,[],_,_,_,_,h,_=>by simp at h
 |p::P,w::vs,0,m,d,b,c,e=>by
  simp at b c;subst b;subst c;show bindL a (((p),w)::P.zip vs) m p=_;unfold bindL;rw[vU λv f=>(List.nodup_cons.mp d).1 (List.of_mem_zip f).1,if_pos e];simp
 |p::P,w::vs,i+1,m,d,b,c,e=>by
  show bindL a (((p),w)::P.zip vs) m x=_;unfold bindL;calc vW (i:=i) (List.nodup_cons.mp d).2 (by simpa using b) (by simpa using c) e
theorem vX{a:Str->Option NameKind}{x:Str}{v:Value}:∀{P:List Str}{vs:List Value}{i:Nat}{m:Str->Option Value},P.Nodup->P[i]?=some x->vs[i]?=some v->a x≠some .local->
  bindC a (P.zip vs) m x=some v
 | [],_,_,_,_,h,_,_=>by simp at h
 |_::_,[],_,_,_,_,h,_=>by simp at h
 |p::P,w::vs,0,m,d,b,c,e=>by
  simp at b c;subst b;subst c;show bindC a (((p),w)::P.zip vs) m p=_;unfold bindC;rw[vV λv f=>(List.nodup_cons.mp d).1 (List.of_mem_zip f).1,if_neg e];simp
 |p::P,w::vs,i+1,m,d,b,c,e=>by
  show bindC a (((p),w)::P.zip vs) m x=_;unfold bindC;calc vX (i:=i) (List.nodup_cons.mp d).2 (by simpa using b) (by simpa using c) e
noncomputable def start(N:List Str)(vs:List V):St:=vs.map some++List.replicate (N.length-vs.length) none
noncomputable def lj(CX:HK)(P:Program)(w:World)(K:W.Frag)(mg:Str->Option Value)(base:Heap)(N:List Str)(qual:Str)(scope:Scope)(f:Addr)(a:Value)(A:Around)(outer:List Env)(s:Shared)(H:Hp)(E:XK):Cx where
 prog:=P
 w:=w
 K:=K
 mg:=mg
 base:=base
 A:=A.deeper (envOfC qual scope s.heap.objs.size f a)
 N:=N
 s₀:=s
 H₀:=H
 env:=envOfC qual scope s.heap.objs.size f a
 outer:=outer
 stack:=envOfC qual scope s.heap.objs.size f a::outer
 ex:=[]
 calm:=true
 fn:=λ_=>true
 pn:=[]
 xe:=λe s'=>wpAny (model P w) (A.deeper (envOfC qual scope s.heap.objs.size f a)) (leaving (envOfC qual scope s.heap.objs.size f a) e) (λ_ b=>CX outer H s E e b) (λa b=>CX outer H s E a b) s'
theorem sV{sc:Scope}{n:Nat}{x:Str}(h:sc.names.lookup x=some .cell):∃c,(cellsFrom n sc.names []).lookup x=some c:=by
 have q:=W.cellsFrom_some sc.names n [] (.inl h);calc Option.isSome_iff_exists.mp q
theorem EZ{CX:HK}{P:Program}{w:World}{N j:List Str}{qual:Str}{scope:Scope}{f:Addr}{k:Value}{outer:List Env}{b:Shared}{E:XK}{vs:List V}
  (S:aE N j scope) (C:A.handled=none) (g:Bl P w K mg base A outer s H) (p:vs.length=j.length) (r:Vals vs us)
  (x:InCallC s s.heap.objs.size (bindL (envOfC qual scope s.heap.objs.size f k).kindOf (j.zip us) λ_=>none) (cellsFrom (s.heap.objs.size+1) scope.names []) (bindC (envOfC qual scope s.heap.objs.size f k).kindOf (j.zip us) λ_=>none) b):
  Inv (lj CX P w K mg base N qual scope f k A outer s H E) [] (start N vs) H b:=by
 have b:j.length<=N.length:=by have:=congrArg List.length S.pre;rw[abg]at this;lia
 let(o,z,rfl,t):=x.done;have p:∀b:Addr,b ∉ (lj CX P w K mg base N qual scope f k A outer s H E).ex:=λb z=>absurd (show b ∈ ([]:List Addr) from z) nofun;refine((g.mod,S.kind,rfl,rfl,S' _,λy z c o d=>?_,λy a=>?_,λy c _ h=>?_,λ_=>C,Around.frames_deeper g.frames,.inr (rfl,rfl),λb z=>absurd z (p b),g.bs,g.GH,λb _ _=>p b,λb z=>absurd z (p b),g.oH,g.ML),
  rfl,g.bare,Un.kept t,(_,x.toInCall.ns,λi y v o d b=>?_),λy c h=>(_,x.cell y c h),g.aW.fresh (S' _),λy c h=>?_,λp l=>absurd (show p ∈ ([]:List (Addr×Obj)) from l) nofun,g.aW.kept t,?_)
 ·exact name_of_addr x.apart (aaR o) (aaR d)
 ·have a:scope.names.lookup y=some .cell\/scope.names.lookup y=some .free:=a;rcases a with a | a
  ·exact sV a
  ·exact absurd rfl (S.RP _ (aaR a))
 ·exact U' (x.above y c (aaR h))
 ·have q:i<vs.length:=by
   unfold start at d;by_cases q:i<vs.length
   ·exact q
   ·rw[Y' (by simpa using q)]at d;rw[List.getElem?_replicate]at d;split at d<;>cases d
  have D:vs[i]?=some v:=by
   unfold start at d;rw[aaf (by simpa using q),J']at d
   cases e:vs[i]? with
   |none=>rw[e]at d;cases d
   |some a=>rw[e]at d;cases d;rfl
  let(u,B,F):=r.get D;have l:j[i]?=some y:=by
   rw[<-S.pre,List.getElem?_take_of_lt ()];exact o
  have m:j.Nodup:=by rw[<-S.pre];exact S.nd.sublist (List.take_sublist _ _)
  calc(u,F,?_);rcases S.par y (aaT l) with k|k
  ·exact .inl (k,vW m l B k)
  ·let(c,e):=sV (n:=s.heap.objs.size+1) k;calc .inr (.inl k,c,e,?_);have q:=x.cell y c e;rw[vX m l B (by show scope.names.lookup y≠_;rw[k];decide)]at q;exact q
 ·exact g.aW.fresh (U' (x.above y c (aaR h)))
 ·unfold start;show _=N.length;rw[aaQ,aau,List.length_replicate];lia
theorem Pp{CX:HK}{P:Program}{w:World}{k:Nat}{f:Addr}{name qual:Str}{a:Arguments}{b:List Stmt}{scope:Scope}{o kV i y g ct j:Value}{D od:Option Addr}
  {I:Array (Option Value)} {N p:List Str} {sp:Sp} (M:K.lookup f=some (j,od,.func (W.fnOf name qual a b scope o kV i y D g ct),I)) (O:W.codeIn K g qual=true) (S:aE N p scope)
  (j:∀vs H Q E,sp vs H Q E->vs.length=p.length)
  (R:∀(A:Around) (outer:List Env) (s:Shared) (H:Hp) (vs:List V) (Q:VK) (E:XK),eQ k (A.deeper (envOfC qual scope s.heap.objs.size f g))->sp vs H Q E->
   ∃t,u9 (lj CX P w K mg base N qual scope f g A outer s H E) b t/\t {nx:=λ_ d=>Q .bG d,rt:=Q} (start N vs) H):
  j7 P w K mg base CX (k+1) f (W.fnOf name qual a b scope o kV i y D g ct) p sp:=by
 calc(j,λA outer s H a us vs Q E z l T r F=>?_);have U:=j _ _ _ _ F;have G:K.In s.heap:=l.mod.A0.keeps λb o e=>(l.bs b o e).1;have B:s.heap.NoLimit:=l.mod.nolimit.keeps λb o e=>(l.bs b o e).1;have X:∀y∈p.zip us,scope.names.lookup y.1=some .local\/(scope.names.lookup y.1=some .cell/\((cellsFrom (s.heap.objs.size+1) scope.names []).lookup y.1).isSome=true):=λ⟨n,v⟩ Y=>by
  rcases S.par n (List.of_mem_zip Y).1 with q|q
  ·exact .inl q
  ·exact .inr (q,W.cellsFrom_some _ _ _ (.inl q))
 calc codeAny_call_function z.depth (G _ _ M) rfl S.co S.gen rfl (W.codeRec_of G O) (T _ _ _ _ ?_);calc wpAny_newFunctionEnv_cells S.kind X λa Z L x=>?_;subst Z;calc(B.keeps x.toInCall.keep,codeAny_func ?_);let(t,b,i):=R A outer s H vs Q E (z.deeper _) F;have I:Inv (lj CX P w K mg base N qual scope f g A outer s H E) [] (start N vs) H L:=EZ S z.hd l U r x;calc aa2 (b [] L (start N vs) H _ I i) (λfl a h=>?_) λe a h=>h;have m:∀{c:St} {d:Hp} {v:V} {u:Value},Inv (lj CX P w K mg base N qual scope f g A outer s H E) [] c d a->RelV v u->Q v d->CE outer P w H s Q u a:=
  λ{c d v u} J C q=>(v,d,J.os,J.bare,J.base,J.aW,C,q)
 cases fl with
 |ret u=>
  let(v,c,d,J,C,q):=h;calc m J C q
 |next=>
  let(c,d,J,q):=h;calc m (v:=V.bG) (u:=Value.none) J rfl q
 |brk=>
  let(_,_,_,q):=h;calc aa3 q
 |cont=>
  let(_,_,_,q):=h;calc aa3 q
end
section
section
variable {X:Cx}{x:Str}{p pos:Pos}{e:Expr}{es:List Expr}{t:TA}{id T:String}{r:List V->Hp->VK->Prop}
def Vp(r:List V->Hp->VK->Prop)(t:TA):TE:=λσ H Q=>t σ H λvs a=>r vs a Q
theorem HN(a:eW X (.builtin id) r)(b:Gl X x)(c:X.mg x=none)(d:bootBuiltins x=some (.builtin id))(f:PA X (e::es) t)(g:x≠"__name__":=by decide)(i:(x==("__debug__":Str))=false:=by decide)
  (j:starEach (e::es) X.env=((false),eval e X.env)::starEach es X.env:=by rfl) (k:(backTo pos (starEach es X.env)).any (·.1)=false:=by rfl):PE X (.Call (.Name x p) (e::es) [] pos) (Vp r t):=by
 walk_at "xc";refine wpAny_Call_Name_kw (pT I b c d ?_ g i);exact PyProof.Rows.callWith_builtin1 (cU (f pos pins s σ H _ I h) λl m (n,o,q,u,v)=>a pins m σ o n l Q q u v) j k
theorem E2(a:eW X (.type T) r)(b:Gl X x)(c:X.mg x=none)(d:bootBuiltins x=some (.type T))(f:PA X (e::es) t)(g:x≠"__name__":=by decide)(i:(x==("__debug__":Str))=false:=by decide)
  (j:starEach (e::es) X.env=((false),eval e X.env)::starEach es X.env:=by rfl) (k:(backTo pos (starEach es X.env)).any (·.1)=false:=by rfl):PE X (.Call (.Name x p) (e::es) [] pos) (Vp r t):=by
 walk_at "xc";refine wpAny_Call_Name_kw (pT I b c d ?_ g i);exact PyProof.Rows.callWith_type1 (cU (f pos pins s σ H _ I h) λl m (n,o,q,u,v)=>a pins m σ o n l Q q u v) j k
end
end
end L2
namespace HT
open PySem PyProof.Rows
variable {Q:Value->Shared->Prop}
section
open PySem.SeqAt
open PySem.AutoSeq1 (wpAny_loadPart')
open PySem.MeetsSeq PySem.MeetsSeq2 PySem.MeetsSeq3
end
section
variable {prog:Program}{w:World}{A:Around}{E:Value->Shared->Prop}{s:Shared}
theorem M3{t b:Addr}{vs ws:List Value}(p:IsTup s.heap t vs.toArray)(q:IsTup s.heap b ws.toArray)(g:vs≠[])
  (r:ws=[]->Q (.ref t) s) (u:ws≠[]->Q (.ref s.heap.objs.size) {s with heap:=s.heap.push {cls:=.type "tuple",data:=.seq (vs++ws).toArray}})
  (hsz:vs.length+ws.length<=sizeLine):wpAny (model prog w) A (binaryOp .Add (.ref t) (.ref b)) Q E s:=by
 let((cls,h,data,i),d,j,n,k):=id p;let((v,l,e,a),f,m,o,c):=id q;simp only at j k m c;subst j k m c;have e:vs.toArray++ws.toArray=(vs++ws).toArray:=by simp
 by_cases c:ws=[]
 ·exact concat_meets (_,d,rfl) (_,f,rfl) noFill_tuple_add seq_tuple_add PySem.F.slot_tuple_add PySem.F.entry_tuple_add (PySem.F.args_tuple_add_2 _ _)
   (tuple_addW1 t b vs.toArray ws.toArray n o h l i a (by simpa using g) (by simp[c])) (d,f,r c)
 ·refine concat_meets (_,d,rfl) (_,f,rfl) noFill_tuple_add seq_tuple_add PySem.F.slot_tuple_add PySem.F.entry_tuple_add (PySem.F.args_tuple_add_2 _ _)
   (tuple_addW2 t b vs.toArray ws.toArray n o h l i a (by simpa using g) (by simpa using c) (by rw[aaG,aaG];calc hsz)) (d,f,?_)
  rw[e];calc u c
noncomputable def eX(n d:Nat):Option Int->Nat
 |none=>d
 |some v=>if v<0 then(v+(n:Int)).toNat else min v.toNat n
theorem CQ(n d k:Nat):eX n d (some (k:Int))=min k n:=by
 show(if (k:Int)<0 then((k:Int)+(n:Int)).toNat else min (k:Int).toNat n)=min k n;rw[if_neg (),aaX]
theorem RT(n d:Nat)(a:d<=n)(o:Option Int):eX n d o<=n:=by
 cases o with
 |none=>calc a
 |some v=>
  show(if v<0 then(v+(n:Int)).toNat else min v.toNat n)<=n;by_cases a:v<0
  ·rw[if_pos a];lia
  ·rw[if_neg a];calc Nat.min_le_right _ _
theorem CS(v:Int)(n d:Nat):(if v<0 then max (v+(n:Int)) 0 else min v (n:Int))=((eX n d (some v):Nat):Int):=by
 show(if v<0 then max (v+(n:Int)) 0 else min v (n:Int))=(((if v<0 then(v+(n:Int)).toNat else min v.toNat n):Nat):Int)
 by_cases a:v<0
 ·simp only[if_pos a];lia
 ·simp only[if_neg a];lia
theorem Bn(a b:Option Int)(n:Nat):Builtin.Slice.sliceAdjust a b 1 (n:Int)=((((eX n 0 a:Nat):Int)),((eX n n b:Nat):Int)):=by
 have c:¬((1:Int)<0):=by lia
 unfold Builtin.Slice.sliceAdjust;simp only[c,if_false];refine Prod.ext ?_ ?_
 ·cases a with
  |none=>rfl
  |some v=>exact CS v n 0
 ·cases b with
  |none=>rfl
  |some v=>calc CS v n n
theorem Bo(i j:Nat):Builtin.Slice.slicePlaces (i:Int) (j:Int) 1=j-i:=by
 unfold Builtin.Slice.slicePlaces;have a:(1:Int) > 0:=by lia
 simp only[a,if_true,Int.ediv_one];split<;>lia
theorem sW{v:Value}{o:Option Int}{Q:Option Int->Shared->Prop}(p:IsPart v o)(h:Q o s):wpAny (model prog w) A (Builtin.Slice.slicePartIndex v) Q E s:=by
 cases p with
 |none=>calc slicePart_none h
 |int i t=>calc slicePart_int h
theorem jV{e:Addr}{c d:Value}{a b:Option Int}{n:Nat}{Q:Int×Int×Nat->Shared->Prop}(g:s.heap.IsSliceOf e c d .none)(pl:IsPart c a)(i:IsPart d b)
  (h:Q ((((eX n 0 a:Nat):Int)),1,eX n n b-eX n 0 a) s):wpAny (model prog w) A (Builtin.Slice.sliceApplied (.ref e) (pure (n:Int))) Q E s:=by
 let(j,e,k,f):=id g;unfold Builtin.Slice.sliceApplied Builtin.Slice.sliceFields;calc j' (j' (aa6 e f (x:=c) rfl (j' (aa6 e f (x:=d) rfl (j' (aa6 e f (x:=.none) rfl (K' ?_)))))));calc j' (slicePart_none ?_);show wpAny _ _ (if ((1:Int)==0)=true then _ else _) _ _ s;rw[if_neg ∅];calc j' (sW pl (j' (sW i (j' (K' ?_)))));show wpAny _ _ (match Builtin.Slice.sliceAdjust a b 1 (n:Int) with|(a,b)=>pure ((a),(1:Int),Builtin.Slice.slicePlaces a b 1)) _ _ s;rw[Bn a b n];show wpAny _ _ (pure ((((eX n 0 a:Nat):Int)),(1:Int),Builtin.Slice.slicePlaces ((eX n 0 a:Nat):Int) ((eX n n b:Nat):Int) 1)) _ _ s;rw[Bo];calc K' h
theorem HQ(xs:Array Value)(i k:Nat):((List.range k).filterMap λ(m:Nat)=>xs[((i:Int)+(m:Int)*1).toNat]?).toArray=((xs.toList.drop i).take k).toArray:=by
 have e:(λ(m:Nat)=>xs[((i:Int)+(m:Int)*1).toNat]?)=λm=>xs[i+m]?:=by
  funext m;have:((i:Int)+(m:Int)*1).toNat=i+m:=by lia
  rw[this]
 rw[e];have:=pick_run xs i k;rw[List.filterMap_map]at this;have a:((λx=>xs[x]?) ∘ λx=>i+x)=λm=>xs[i+m]?:=rfl;rw[a]at this;rw[this]
theorem oK{t f:Addr}{a:Array Value}{e g:Value}{b c:Option Int}(d:IsTup s.heap t a)(i:s.heap.IsSliceOf f e g .none)(pl:IsPart e b)(j:IsPart g c)
  (k:¬(eX a.size 0 b=0/\eX a.size a.size c=a.size))
  (h:Q (.ref s.heap.objs.size) {s with heap:=s.heap.push {cls:=.type "tuple",data:=.seq ((a.toList.drop (eX a.size 0 b)).take (eX a.size a.size c-eX a.size 0 b)).toArray}})
  (hsz:a.size<=sizeLine):wpAny (model prog w) A (getItem (.ref t) (.ref f)) Q E s:=by
 have e:sizeOk (.seq ((a.toList.drop (eX a.size 0 b)).take (eX a.size a.size c-eX a.size 0 b)).toArray):=by
  show((a.toList.drop (eX a.size 0 b)).take (eX a.size a.size c-eX a.size 0 b)).toArray.size<=sizeLine;rw[aaG,abg,List.length_drop,Array.length_toList];lia
 have g:eX a.size a.size c<=a.size:=RT _ _ (S' _) c;let(l,n,o,g):=id i;have g:s.TypeIs (.ref f) "slice":=(l,n,o)
 unfold getItem
 try with_reducible refine aa8 ?_
 first|calc j' (K' ?_)|skip
 calc j' (wpAny_sequenceKey d.typeIs ∅ ?_);refine j' (abb (name:=Str.ofString "__getitem__") d.typeIs abz
  (abn abz d.typeIs entry_tuple_getitem ?_ (args_tuple_getitem _ _)))
 show wpAny _ _ (Builtin.Tuple.tupleItemsOf (.ref t) >>= _) _ _ s;calc j' (tupleItemsOf_ d ?_);calc j' (wpAny_typeOf g ?_);rw[if_pos ∅];calc j' (jV i pl j ?_);have f:¬((((eX a.size 0 b:Nat):Int)==0&&(1:Int)==1&&(eX a.size a.size c-eX a.size 0 b)==a.size)=true):=by
  intro q;rw[aa9,aa9]at q;have d:((eX a.size 0 b:Nat):Int)=0:=eq_of_beq q.1.1;have d:eX a.size a.size c-eX a.size 0 b=a.size:=eq_of_beq q.2;exact k ((),())
 show wpAny _ _ (if (((eX a.size 0 b:Nat):Int)==0&&(1:Int)==1&&(eX a.size a.size c-eX a.size 0 b)==a.size)=true then _ else _) _ _ s;rw[if_neg f,HQ]
 first
  |calc j' (m:=Builtin.Tuple.tupleExact _) (aba (K' (_,rfl,K' h)) e)
  |calc j' (m:=Builtin.Tuple.tupleExact _) (aba (j' (K' (K' (_,rfl,K' h)))) e)
  |calc j' (j' (m:=Builtin.Tuple.tupleExact _) (aba (K' (K' (_,rfl,K' h))) e))
  |calc j' (j' (m:=Builtin.Tuple.tupleExact _) (aba (K' (_,rfl,K' h)) e))
end
end HT
namespace L2
open PySem PySem.Spec PyProof.Rows
section
abbrev TO:=St->Hp->(Option Int->Hp->Prop)->Prop
def PO(X:Cx)(e:Option Expr)(t:TO):Prop:=
 ∀(pins:List (Addr×Obj)) (s:Shared) (σ:St) (H:Hp) (Q:Option Int->Hp->Prop),Inv X pins σ H s->t σ H Q->
  wpAny (model X.prog X.w) X.A (evalPart e X.env) (λu s'=>∃o a,Inv X pins σ a s'/\IsPart u o/\Q o a) X.xe s
def xC:TO:=λ_ H Q=>Q none H
def HR(t:TE):TO:=λσ H Q=>t σ H λx a=>∃i,x=.int i/\Q (some i) a
section
variable {X:Cx}{e:Expr}{te:TE}{lo hi:Option Expr}{tl th:TO}{pos p2:Pos}
theorem sk:PO X none xC:=by
 intro a s σ H Q I h;rw[evalPart_none];calc K' (none,H,I,.none,h)
theorem ja(h:PE X e te):PO X (some e) (HR te):=by
 intro a s σ H Q I b;rw[evalPart_some];calc cU (h a s σ H _ I b) λu k c=>?_;let(x,d,f,g,j):=c;let(i,rfl,q):=j;let(t,rfl):=g;calc(some i,d,f,.int i t,q)
def WV(X:Cx)(r:V->Option Int->Option Int->Hp->VK->Prop):Prop:=
 ∀(pins:List (Addr×Obj)) (s:Shared) (σ:St) (H:Hp) (x:V) (v a b:Value) (lo hi:Option Int) (c:Addr) (Q:VK),Inv X pins σ H s->RelV x v->s.heap.IsSliceOf c a b .none->IsPart a lo->IsPart b hi->r x lo hi H Q->
  ∃T a,typeLookup (.type T) "__getitem__"=pure (some (.builtin a))/\s.TypeIs v T/\wpAny (model X.prog X.w) X.A (getItem v (.ref c)) (EP X pins σ Q) X.xe s
def WW(r:V->Option Int->Option Int->Hp->VK->Prop)(te:TE)(tl th:TO):TE:=λσ H Q=>te σ H λx a=>tl σ a λl b=>th σ b λu a=>r x l u a Q
theorem yS{r:V->Option Int->Option Int->Hp->VK->Prop}(g:WV X r)(a:PE X e te)(d:PO X lo tl)(f:PO X hi th):PE X (.Subscript e (.Slice lo hi none p2) pos) (WW r te tl th):=by
 walk_at "xc";refine Subscript_ (cU (a pins s σ H _ I h) λv i b=>?_);let(x,a,j,k,m):=b;refine wpAny_Slice (cU (d pins i σ a _ j m) λc n (l,o,p,r,q)=>cU (f pins n σ o _ p q) λd a b=>?_);let(u,f,i,j,m):=b;rw[evalPart_none];refine K' ?_;have n:Inv X pins σ f {a with heap:=a.heap.push {cls:=.type "slice",data:=.fields #[c,d,.none]}}:=i.kept (t':=a.toks) λb i q=>P' _ q;let(T,p,b,i,o):=g pins {a with heap:=a.heap.push {cls:=.type "slice",data:=.fields #[c,d,.none]}} σ f x v c d l u a.heap.objs.size Q n k (Heap.IsSliceOf.new ..) r j m;show wpAny (model X.prog X.w) X.A (subscriptTail e (.Slice lo hi none p2) v (.ref a.heap.objs.size)) (EP X pins σ Q) X.xe {a with heap:=a.heap.push {cls:=.type "slice",data:=.fields #[c,d,.none]}};exact tail_any (ops:=[.ref a.heap.objs.size,v]) i b o (by with_unfolding_all rfl)
noncomputable def dD(xs:List V)(lo hi:Option Int):List V:=(xs.drop (HT.eX xs.length 0 lo)).take (HT.eX xs.length xs.length hi-HT.eX xs.length 0 lo)
theorem rf(xs:List V)(lo hi:Option Int):(dD xs lo hi).length<=xs.length:=by
 unfold dD;rw[abg,List.length_drop];lia
def acv(K:W.Frag):V->Option Int->Option Int->Hp->VK->Prop:=λx lo hi H Q=>∃a xs,x=.ref a/\bI K H a xs/\
 ¬(HT.eX xs.length 0 lo=0/\HT.eX xs.length xs.length hi=xs.length)/\∀p,H p=none->Q (.ref p) (upd H p (.tup (dD xs lo hi)))
theorem RV:WV X (acv X.K):=by
 intro b s σ H x v d m lo hi n Q I e g i j h;let(a,c,rfl,k,l,q):=h
 cases e;let(m,r,b,d):=I.tuple k;have a:m.toArray.size=c.length:=by rw[aaG];exact r.length.symm
 refine("tuple",_,PyProof.Rows.slot_tuple_getitem.lookup,b.typeIs,?_);refine HT.oK b g i j (by rw[a];exact l) ?_ (by rw[a];exact d);rw[a];refine(.ref s.heap.objs.size,_,I.laid (t':=s.toks) (o:=.tup (dD c lo hi)) (λb a q=>P' _ q) (S' _) ?_,rfl,q _ (I.aW.fresh (S' _)));exact(aaS (rf c lo hi) d,_,(r.drop (HT.eX c.length 0 lo)).take (HT.eX c.length c.length hi-HT.eX c.length 0 lo),IsTup.new _ _)
def WX(K:W.Frag):R2:=λx y H Q=>∃a b xs c,x=.ref a/\y=.ref b/\bI K H a xs/\bI K H b c/\xs≠[]/\xs.length+c.length<=sizeLine/\
 (c=[]->Q (.ref a) H)/\(c≠[]->∀p,H p=none->Q (.ref p) (upd H p (.tup (xs++c))))
theorem Vals.xD{xs:List V}{us:List Value}(r:Vals xs us):us=[]↔xs=[]:=by
 cases r with
 |nil=>simp
 |cons _ _=>simp
theorem M4:gP X (binaryOp .Add) (WX X.K):=by
 intro c s σ H x y v u Q I d f h;let(a,b,g,i,rfl,rfl,j,k,l,e,m,n):=h
 cases d
 cases f;let(c,d,h,_):=I.tuple j;let(f,c,p2,_):=I.tuple k;calc HT.M3 h p2 (λz=>l (d.xD.mp z)) (λz=>(.ref a,H,I,rfl,m (c.xD.mp z))) (λz=>?_) (by rw[<-d.length,<-c.length];calc e);calc(.ref s.heap.objs.size,_,I.laid (t':=s.toks) (o:=.tup (g++i)) (λb a q=>P' _ q) (S' _) ?_,rfl,n (λw=>z (c.xD.mpr w)) _ (I.aW.fresh (S' _)));calc(by rw[aaQ];calc e,_,d.append c,IsTup.new _ _)
end
end
section
noncomputable def Bp(n:Nat)(i:Int):Option Nat:=if 0<=i then(if i<n then some i.toNat else none) else if -(n:Int)<=i then some (i+n).toNat else none
noncomputable def iZ{α:Type}(xs:List α)(i:Int):Option α:=(Bp xs.length i).bind λj=>xs[j]?
theorem CU{n:Nat}{i:Int}{j:Nat}(h:Bp n i=some j):seqIndex? i n=some j/\j<n/\-(n:Int)<=i/\i<n:=by
 unfold Bp at h;by_cases b:0<=i
 ·rw[if_pos b] at h;by_cases a:i < n
  ·rw[if_pos a]at h;have e:i.toNat=j:=Option.some.inj h;exact(by rw[seqIndex_of b a,e],(),(),a)
  ·rw[if_neg a]at h;cases h
 ·rw[if_neg b] at h;by_cases a:-(n:Int)<=i
  ·rw[if_pos a]at h;have e:(i+n).toNat=j:=Option.some.inj h;exact(by rw[seqIndex_neg () a,e],(),a,())
  ·rw[if_neg a]at h;cases h
theorem xE{α:Type}{xs:List α}{i:Int}{v:α}(h:iZ xs i=some v):∃j,seqIndex? i xs.length=some j/\xs[j]?=some v/\j<xs.length/\-(xs.length:Int)<=i/\i<xs.length:=by
 unfold iZ at h
 cases e:Bp xs.length i with
 |none=>rw[e]at h;cases h
 |some j=>
  rw[e]at h;let(a,b,c,d):=CU e;calc(j,a,h,b,c,d)
theorem aA{α:Type}{xs:List α}{j:Nat}{v:α}(h:xs[j]?=some v):iZ xs (j:Int)=some v:=by
 have a:j<xs.length:=(List.getElem?_eq_some_iff.mp h).1;have e:Bp xs.length (j:Int)=some j:=by
  unfold Bp;rw[if_pos (),if_pos ()];simp
 unfold iZ;rw[e];calc h
def CV(b:Expr):Prop:=∀o i,subscripted b false o i=operate [o,i] (getItem o i)
def WZ(X:Cx)(r:R2):Prop:=
 ∀(b a:Expr) (pins:List (Addr×Obj)) (s:Shared) (σ:St) (H:Hp) (x y:V) (v u:Value) (Q:VK),Inv X pins σ H s->RelV x v->RelV y u->r x y H Q->
  subscripted a false v u=operate [v,u] (getItem v u)->wpAny (model X.prog X.w) X.A (subscriptTail b a v u) (EP X pins σ Q) X.xe s
def RW(X:Cx)(a:String)(r:V->List V->Hp->VK->Prop):Prop:=
 ∀(pins:List (Addr×Obj)) (s:Shared) (σ:St) (H:Hp) (x:V) (xs:List V) (v:Value) (us:List Value) (Q:VK),Inv X pins σ H s->RelV x v->Vals xs us->r x xs H Q->
  wpAny (model X.prog X.w) X.A (call (.builtin a) (v::us)) (EP X pins σ Q) X.xe s
section
variable {X:Cx}{a b:Expr}{ta tb:TE}{pos:Pos}
theorem W0{r:R2}(c:WZ X r)(d:PE X a ta)(e:PE X b tb)(f:CV b):PE X (.Subscript a b pos) (HC r ta tb):=by
 walk_at "xc";exact Subscript_ (RD d e I h λv u g x y i j k l q=>c a b pins g σ i x y v u Q j k l q (f _ _))
def acw(K:W.Frag):R2:=λx y H Q=>∃p xs i v,x=.ref p/\y=.int i/\aV K H p xs/\iZ xs i=some v/\Q v H
def acx(K:W.Frag):R2:=λx y H Q=>∃p xs i v,x=.ref p/\y=.int i/\bI K H p xs/\iZ xs i=some v/\Q v H
def acy:R2:=λx y H Q=>∃z i c,x=.str z/\y=.int i/\z.length<=sizeLine/\iZ z.cps.toList i=some c/\Q (.str ⟨#[c]⟩) H
theorem M5:WZ X (acw X.K):=by
 intro b c a s σ H x y v u Q I d e h f;let(p,j,i,z,rfl,rfl,g,k,q):=h
 cases d;let(t,rfl):=e;let(l,r,d,b):=I.list g;let(j,c,b,e,m,n):=xE k;let(w,g,e):=r.get b;have k:=r.length;have b:=sS;have b:EP X a σ Q w s:=(z,H,I,e,q)
 by_cases h:0<=i
 ·have e:i.toNat=j:=by
   rw[seqIndex_of h n]at c;exact Option.some.inj c
  exact item_listR d.isList h () (by rw[e];simpa using g) b f
 ·have e:(i+(l.toArray.size:Int)).toNat=j:=by
   rw[seqIndex_neg () m]at c;rw[aaG,<-k];exact Option.some.inj c
  exact subscriptTail_builtinR (x:=w) d.isList.typeIs slot_list_getitem.lookup
   (wpAny_getItem_list_neg (Q:=λr c=>r=w/\EP X a σ Q r c) d.isList () (by rw[aaG]<;>lia) () (by rw[e];simpa using g) (rfl,b)) f
theorem RX:WZ X (acx X.K):=by
 intro b c a s σ H x y v u Q I d e h f;let(p,j,i,z,rfl,rfl,g,k,q):=h
 cases d;let(t,rfl):=e;let(b,r,c,d):=I.tuple g;let(j,d,b,e,h,i):=xE k;let(w,e,g):=r.get b;have h:=r.length;have b:=sS;have b:EP X a σ Q w s:=(z,H,I,g,q)
 exact subscriptTail_builtinR (x:=w) c.typeIs slot_tuple_getitem.lookup
  (getItem_tuple (j:=j) (Q:=λr g=>r=w/\EP X a σ Q r g) c () () (by rw[aaG,<-h];calc d) (by simpa using e) (rfl,b)) f
theorem RY:WZ X acy:=by
 intro a b d s σ H x y v u Q I e f h g;let(z,i,c,rfl,rfl,j,k,q):=h;let(t,rfl):=e;let(l,rfl):=f;let(j,a,b,h,d,e):=xE k;have f:z.cps.toList.length=z.length:=by simp[Str.length]
 rw[f] at a d e;have h:=sS;exact tail_any (typeIs_str s z t) slot_str_getitem.lookup (getItem_str (c:=c) (by
  have d:decide (i < -(2 ^ 63:Int))=false:=aaM ();have e:decide (i >= 2 ^ 63)=false:=aaM ();rw[d,e,Bool.or_false]) (by rw[a];simpa using b) (.str ⟨#[c]⟩,H,I.tok _,(_,rfl),q)) g
theorem Br(a:List Value)(n j:Nat)(u:Value):Obj.mapSeq (·.setIfInBounds j u) {cls:=.type "list",data:=.seq a.toArray n}={cls:=.type "list",data:=.seq (a.set j u).toArray n}:=by
 simp[Obj.mapSeq]
theorem Inv.lst{pins:List (Addr×Obj)}{σ:St}{H:Hp}{s:Shared}{p:Addr}{xs:List V}(I:Inv X pins σ H s)(h:H p=some (.lst xs)):
  ∃(a:List Value) (n:Nat),Vals xs a/\s.heap.get? p=some {cls:=.type "list",data:=.seq a.toArray n}/\xs.length<=sizeLine:=by
 let(z,a,n,r,e):=I.aW p _ h;calc(a,n,r,e,z)
theorem Inv.RZ{pins:List (Addr×Obj)}{σ:St}{H:Hp}{s:Shared}{p:Addr}{xs a:List V}{d mN:List Value}{n c:Nat}{f:Obj->Obj}(I:Inv X pins σ H s)(h:H p=some (.lst xs))
  (i:s.heap.get? p=some {cls:=.type "list",data:=.seq d.toArray n}) (g:f {cls:=.type "list",data:=.seq d.toArray n}={cls:=.type "list",data:=.seq mN.toArray c}) (r:Vals a mN) (hz:a.length<=sizeLine) (t:Nat):
  Inv X pins σ (upd H p (.lst a)) {s with heap:=s.heap.update p f,toks:=t}:=by
 have e:(s.heap.update p f).get? p=some {cls:=.type "list",data:=.seq mN.toArray c}:=by
  rw[aa5 f i (by rw[g]<;>rfl),g]
 calc I.write (x:=p) (e:=p) (by rw[h];trivial) (.inl rfl) (λb u a q=>(abl _ _ (Ne.symm a)).trans q) (_,e) ?_;calc(hz,mN,c,r,e)
def W2:V->V->V->Hp->(Hp->Prop)->Prop:=λo i v H Q=>∃p xs k j,o=.ref p/\i=.int k/\H p=some (.lst xs)/\Bp xs.length k=some j/\Q (upd H p (.lst (xs.set j v)))
theorem set_list:Rx X W2:=by
 intro a s σ H o i v c f u Q I b d l h;let(p,m,k,j,rfl,rfl,e,w,q):=h
 cases b;let(t,rfl):=d;let(f,n,r,c,o):=I.lst e;let(b,d,g,h):=CU w;have d:=r.length;have i:=sS;have i:Inv X a σ (upd H p (.lst (m.set j v))) {s with heap:=s.heap.update p (Obj.mapSeq (·.setIfInBounds j u))}:=
  I.RZ e c (Br f n j u) (r.set l j) (by rw[List.length_set];calc o) s.toks
 by_cases e:0<=k
 ·have a:k.toNat=j:=by
   rw[seqIndex_of e h]at b;exact Option.some.inj b
  exact W.ki_setAt c e () (by rw[aaG,<-d];calc h) (by rw[a];calc(_,i,q))
 ·have a:(k+(f.toArray.size:Int)).toNat=j:=by
   rw[seqIndex_neg () g]at b;rw[aaG,<-d];exact Option.some.inj b
  calc W.ki_setBack c () (by rw[aaG,<-d];calc g) () (by rw[a];calc(_,i,q))
theorem xF(a b:Option Int)(n:Nat):(sliceBounds a b none n).1=((HT.eX n 0 a:Nat):Int)/\(sliceBounds a b none n).2.1=((HT.eX n n b:Nat):Int)/\(sliceBounds a b none n).2.2=1:=by
 refine(?_,?_,rfl)
 ·cases a with
  |none=>simp[sliceBounds,HT.eX]
  |some i=>
   simp only[sliceBounds,HT.eX,Option.getD_none,show(1:Int) > 0 by decide,if_true];by_cases h:i<0
   ·simp only[h,if_true]<;>lia
   ·simp only[h,if_false]<;>lia
 ·cases b with
  |none=>simp[sliceBounds,HT.eX]
  |some i=>
   simp only[sliceBounds,HT.eX,Option.getD_none,show(1:Int) > 0 by decide,if_true];by_cases h:i<0
   ·simp only[h,if_true]<;>lia
   ·simp only[h,if_false]<;>lia
theorem vd(a:List Value)(b c:Option Int):slicePick a.toArray b c none=((a.drop (HT.eX a.length 0 b)).take (HT.eX a.length a.length c-HT.eX a.length 0 b)).toArray:=by
 let(d,e,f):=xF b c a.toArray.size;unfold slicePick;rw[d,e,f];simp only[sliceRange_one,pick_run,List.size_toArray]<;>rfl
def acz(K:W.Frag):V->Option Int->Option Int->Hp->VK->Prop:=λx b c H Q=>∃a xs,x=.ref a/\aV K H a xs/\∀p,H p=none->Q (.ref p) (upd H p (.lst (dD xs b c)))
theorem CW:WV X (acz X.K):=by
 intro d s σ H x v g n e f p Q I i j k l h;let(a,c,rfl,m,q):=h
 cases i;let(d,r,g,h):=I.list m;have d:=r.length;refine("list",_,slot_list_getitem.lookup,g.isList.typeIs,?_);refine wpAny_getItem_list_slice g.isList j k l .none nofun ?_ (by rw[aaG]<;>lia);rw[vd,<-d];refine(.ref s.heap.objs.size,_,I.laid (t':=s.toks) (o:=.lst (dD c e f)) (λb d q=>P' _ q) (S' _) ?_,rfl,q _ (I.aW.fresh (S' _)));exact(aaS (rf c e f) h,_,0,(r.drop (HT.eX c.length 0 e)).take (HT.eX c.length c.length f-HT.eX c.length 0 e),aas _ rfl)
noncomputable def gk:V->Bool
 | .bG=>true
 | .bl _=>true
 | .int _=>true
 | .str _=>true
 |_=>false
noncomputable def GJ:V->V->Bool
 | .bG,.bG=>true
 | .bl a,.bl b=>a==b
 | .bl a,.int b=>(if a then 1 else 0)==b
 | .int a,.bl b=>a==(if b then 1 else 0)
 | .int a,.int b=>a==b
 | .str a,.str b=>a==b
 |_,_=>false
theorem Bs{A:Around}{s:Shared}{y x:V}{u v:Value}(e:RelV y u)(c:RelV x v)(g:gk y=true)(f:gk x=true):SeqAt.EqAt A s u v (GJ y x):=by
 cases y with
 |bG=>
  cases e
  cases x with
  |bG=>cases c;calc SeqAt.EqAt.same _
  |bl b=>cases c;calc SeqAt.EqAt.none_bool b
  |int b=>let(t,rfl):=c;calc SeqAt.EqAt.none_int b t
  |str b=>let(t,rfl):=c;calc SeqAt.EqAt.none_str b t
  |_=>calc absurd (show false=true from f) T'
 |bl a=>
  cases e
  cases x with
  |bG=>cases c;calc SeqAt.EqAt.bool_none a
  |bl b=>cases c;calc SeqAt.EqAt.bool_bool a b
  |int b=>let(t,rfl):=c;calc SeqAt.EqAt.bool_int a b t
  |str b=>let(t,rfl):=c;calc SeqAt.EqAt.bool_str a b t
  |_=>calc absurd (show false=true from f) T'
 |int a=>
  let(d,rfl):=e
  cases x with
  |bG=>cases c;calc SeqAt.EqAt.int_none a d
  |bl b=>cases c;calc SeqAt.EqAt.int_bool a d b
  |int b=>let(t,rfl):=c;calc SeqAt.EqAt.int_int a d b t
  |str b=>let(t,rfl):=c;calc SeqAt.EqAt.int_str a d b t
  |_=>calc absurd (show false=true from f) T'
 |str a=>
  let(d,rfl):=e
  cases x with
  |bG=>cases c;calc SeqAt.EqAt.str_none a d
  |bl b=>cases c;calc SeqAt.EqAt.str_bool a d b
  |int b=>let(t,rfl):=c;calc SeqAt.EqAt.str_int a d b t
  |str b=>let(t,rfl):=c;calc SeqAt.EqAt.str_str a d b t
  |_=>calc absurd (show false=true from f) T'
 |_=>calc absurd (show false=true from g) T'
noncomputable def M6(x:V)(u:Value):Bool:=match u with
 | .none=>GJ .bG x
 | .bool b=>GJ (.bl b) x
 | .int i _=>GJ (.int i) x
 | .str z _=>GJ (.str z) x
 |_=>false
theorem HS{x y:V}{u:Value}(r:RelV y u)(f:gk y=true):M6 x u=GJ y x:=by
 cases y with
 |bG=>cases r;rfl
 |bl b=>cases r;rfl
 |int i=>let(t,rfl):=r;rfl
 |str z=>let(t,rfl):=r;rfl
 |_=>calc absurd (show false=true from f) T'
theorem xG{x:V}:∀{xs:List V}{us:List Value},Vals xs us->xs.all gk=true->us.any (M6 x)=xs.any λy=>GJ y x
 |_,_,.nil,_=>rfl
 |y::xs,u::us,.cons r t,f=>by
  rw[List.all_cons,aa9]at f;rw[List.any_cons,List.any_cons,HS r f.1,xG t f.2]
theorem sX{A:Around}{s:Shared}{x:V}{v:Value}(b:RelV x v)(c:gk x=true):∀{xs:List V}{us:List Value},Vals xs us->xs.all gk=true->∀u∈us,SeqAt.EqAt A s u v (M6 x u)
 |_,_,.nil,_=>λu a=>by cases a
 |y::xs,u::us,.cons r t,f=>λd a=>by
  rw[List.all_cons,aa9]at f;rcases List.mem_cons.mp a with rfl|a
  ·rw[HS r f.1];exact Bs r b f.1 c
  ·calc sX b c t f.2 d a
def CY(x:V)(xs:List V):Bool:=xs.any λy=>GJ y x
def rIn(K:W.Frag)(a:Bool):R2:=λx y H Q=>∃p xs,y=.ref p/\(aV K H p xs\/bI K H p xs)/\gk x=true/\xs.all gk=true/\Q (.bl (if a then !CY x xs else CY x xs)) H
theorem E3:gP X (compareOp .In) (rIn X.K false):=by
 intro b s σ H x y v u Q I f d h;let(p,e,rfl,a,g,c,q):=h
 cases d;rcases a with a|a
 ·let(b,r,d,h):=I.list a;calc SeqAt.in_listAt (M6 x) d.isList (λw e=>sX f g r c w (by simpa using e)) (.bl _,H,I,rfl,?_);rw[show b.toArray.any (M6 x)=b.any (M6 x) by simp,xG r c];exact q
 ·let(b,r,d,h):=I.tuple a;calc SeqAt.in_tupleAt (M6 x) d (λw e=>sX f g r c w (by simpa using e)) (.bl _,H,I,rfl,?_);rw[show b.toArray.any (M6 x)=b.any (M6 x) by simp,xG r c];calc q
theorem xH:eW X (.type "list") (λxs H Q=>∃p d,xs=[.ref p]/\(aV X.K H p d\/bI X.K H p d)/\∀l,H l=none->Q (.ref l) (upd H l (.lst d))):=by
 intro i s σ H xs o Q I r h;let(p,d,rfl,j,q):=h;let(u,rfl,n):=vals1 r
 cases n;have k:∀(c:List Value),Vals d c->d.length<=sizeLine->∀(a:Heap) (f:Nat),(∀b h,s.heap.get? b=some h->a.get? b=some h)->
   a.get? s.heap.objs.size=some {cls:=.type "list",dict:=none,data:=.seq c.toArray f,slots:=#[]}->EP X i σ Q (.ref s.heap.objs.size) {s with heap:=a}:=λc g m a f t e=>
  (.ref s.heap.objs.size,_,I.laid (t':=s.toks) t (S' _) (show cA X.prog X.w _ a _ (.lst d) from(m,c,f,g,e)),rfl,q _ (I.aW.fresh (S' _)))
 rcases j with j|j
 ·let(c,g,h,m):=I.list j;have d:=g.length;let(o,i,l,n,q):=h.isList;exact call_list_seq p (.inl rfl) i l q (λa f t e=>k c g m a f t e) (by simp only[List.size_toArray]<;>lia)
 ·let(c,g,h,m):=I.tuple j;have d:=g.length;let(o,i,l,n,q):=h;calc call_list_seq p (.inr rfl) i l q (λa f t e=>k c g m a f t e) (by simp only[List.size_toArray]<;>lia)
theorem mV:eW X (.type "tuple") (λxs H Q=>∃p c,xs=[.ref p]/\((aV X.K H p c/\∀l,H l=none->Q (.ref l) (upd H l (.tup c)))\/(bI X.K H p c/\Q (.ref p) H))):=by
 intro a s σ H xs e Q I r h;let(p,c,rfl,h):=h;let(u,rfl,d):=vals1 r
 cases d;rcases h with⟨f,q⟩|⟨f,q⟩
 ·let(g,h,i,j):=I.list f;have d:=h.length;calc call_tuple_list i.isList (λd e=>?_) (by simp only[List.size_toArray]<;>lia);have k:Inv X a σ H {s with heap:=d}:=I.kept (t':=s.toks) e;have m:Inv X a σ (upd H d.objs.size (.tup c)) {s with heap:=d.push {cls:=.type "tuple",data:=.seq g.toArray}}:=
   k.laid (t':=s.toks) (λb o e=>P' _ e) (S' _) (show cA X.prog X.w _ _ _ (.tup c) from(j,g,h,IsTup.new _ _))
  exact(.ref d.objs.size,_,m,rfl,q _ (k.aW.fresh (S' _)))
 ·let(g,h,i,j):=I.tuple f;calc call_tuple_same i (.ref p,H,I,rfl,q)
def W3(K:W.Frag)(T:String)(x:V)(H:Hp):Prop:=match x with
 | .str _=>T="str"
 | .int _=>T="int"
 | .ref p=>(T="list"/\∃xs,aV K H p xs)\/(T="tuple"/\∃o,K.lookup p=some o/\o.cls=.type "tuple"/\o.dict=none)\/
   (T="dict"/\((∃a,H p=some (.dK a))\/∃a,H p=some (.dT a)))\/(T="set"/\∃S n,H p=some (.set S n))
 |_=>False
theorem HU{pins:List (Addr×Obj)}{σ:St}{H:Hp}{s:Shared}{T:String}{x:V}{v:Value}(I:Inv X pins σ H s)(r:RelV x v)(f:W3 X.K T x H):
  s.TypeIs v T/\∀a,v=.ref a->∃ob,s.heap.get? a=some ob/\ob.dict=none:=by
 cases x with
 |str z=>
  let(t,rfl):=r
  cases(show T="str" from f);exact(typeIs_str s z t,λ_ e=>nomatch e)
 |int i=>
  let(t,rfl):=r
  cases(show T="int" from f);exact(typeIs_int s i t,λ_ e=>nomatch e)
 |ref p=>
  cases r;rcases f with⟨rfl,l,c⟩|⟨rfl,o,b,k,g⟩|⟨rfl,b⟩|⟨rfl,S,n,b⟩
  ·let(i,_,j,_):=I.list c;refine(j.isList.typeIs,λa e=>?_)
   cases e;let(o,n,e,c,g,_):=j;exact(o,e,g)
  ·refine((o,I.il p o b,k),λa e=>?_)
   cases e;exact(o,I.il _ o b,g)
  ·have z:∃o,s.heap.get? p=some o/\o.ExactDict:=by
    rcases b with⟨c,b⟩|⟨c,b⟩
    ·let(_,_,_,_,o,_,_,e,d,_):=I.aW p _ b;exact(o,e,d)
    ·let(_,_,_,_,o,_,_,e,d,_):=I.aW p _ b;exact(o,e,d)
   let(o,e,d):=z;refine((o,e,d.1),λa h=>?_)
   cases h;exact(o,e,d.2.1)
  ·let(o,_,_,_,e,d,_):=I.aW p _ b;refine((o,e,d.1),λa h=>?_)
   cases h;calc(o,e,d.2.1)
 |_=>calc aa3 f
def R0(K:W.Frag)(T:String)(r:V->List V->Hp->VK->Prop)(b:TE):TE:=λσ H Q=>b σ H λx a=>W3 K T x a/\r x [] a Q
def tBM(K:W.Frag)(T:String)(r:V->List V->Hp->VK->Prop)(b:TE)(t:TA):TE:=λσ H Q=>b σ H λx a=>W3 K T x a/\t σ a λxs b=>r x xs b Q
variable {o e:Expr}{es:List Expr}{to:TE}{t:TA}{name:Str}{apos jj:Pos}{T id:String}{r:V->List V->Hp->VK->Prop}
theorem R1(d:PlainAttrs T)(a:Slot T name id)(e:typeOf (.builtin id)=pure (.type "method_descriptor"))(f:RW X id r)(b:PE X o to)
  (c:attributeBase o name X.env (eval o X.env)=eval o X.env:=by rfl) (g:(apos.endLine==jj.line)=true:=by rfl):PE X (.Call (.Attribute o name apos) [] [] jj) (R0 X.K T r to):=by
 walk_at "xc";refine wpAny_Call_method0_late c g (cU (b pins s σ H _ I h) λv i j=>?_);let(x,g,b,c,k,l):=j;let(m,n):=HU b c k;exact(T,id,d,a,e,m,n,Calls.callWith_builtin rfl (PySem.evalArgs_none (f pins i σ g x [] v [] Q b c .nil l)))
theorem dg(f:PlainAttrs T)(a:Slot T name id)(g:typeOf (.builtin id)=pure (.type "method_descriptor"))(i:RW X id r)(b:PE X o to)(j:PA X (e::es) t)
  (c:attributeBase o name X.env (eval o X.env)=eval o X.env:=by rfl)
  (d:((backTo jj (starEach (e::es) X.env)).all (λx=> !x.1) && (backToKw jj (keywordEach [] X.env)).all (λx=>x.1.isSome)
   && decide ((e::es).length + ([]:List Keyword).length + (if ([]:List Keyword).isEmpty then 0 else 1) < 30))=true:=by rfl)
  (k:(apos.endLine==jj.line)=true:=by rfl) (l:starEach (e::es) X.env=((false),eval e X.env)::starEach es X.env:=by rfl) (m:(backTo jj (starEach es X.env)).any (·.1)=false:=by rfl):
  PE X (.Call (.Attribute o name apos) (e::es) [] jj) (tBM X.K T r to t):=by
 walk_at "xc";refine wpAny_Call_method_late c d k rfl (cU (b pins s σ H _ I h) λv n p=>?_);let(x,k,b,c,q,u):=p;let(w,y):=HU b c q;refine(T,id,f,a,g,w,y,?_);have d:=j jj pins n σ k _ b u;rw[l]at d ⊢;refine Calls.callWith_builtin (by show(false||(backTo jj (starEach es X.env)).any (·.1))=false;rw[m]<;>rfl) (Calls.evalArgs_plain ?_);exact cU d λa f (g,p,q,w,y)=>i pins f σ p x g v a Q q c w y
end
end
section
def MtM(X:Cx)(a:String)(r:V->List V->Hp->VK->Prop):Prop:=
 ∀(pins:List (Addr×Obj)) (s:Shared) (σ:St) (H:Hp) (x:V) (xs:List V) (v:Value) (us:List Value) (Q:VK),Inv X pins σ H s->RelV x v->Vals xs us->r x xs H Q->
  wpAny (model X.prog X.w) X.A (call (.builtin a) (v::us)) (EP X pins σ Q) X.xe s
theorem Vals.one:∀{x:V}{us:List Value},Vals [x] us->∃u,us=[u]/\RelV x u
 |_,_,.cons r .nil=>(_,rfl,r)
theorem Vals.two:∀{x y:V}{us:List Value},Vals [x,y] us->∃u v,us=[u,v]/\RelV x u/\RelV y v
 |_,_,_,.cons r (.cons q .nil)=>(_,_,rfl,r,q)
theorem Vals.zero:∀{us:List Value},Vals [] us->us=[]
 |_,.nil=>rfl
theorem Vals.dropLast{xs:List V}{us:List Value}(h:Vals xs us):Vals xs.dropLast us.dropLast:=by
 induction h with
 |nil=>calc .nil
 |cons r t a=>
  cases t with
  |nil=>calc .nil
  |cons q b=>calc .cons r a
theorem Vals.eraseIdx:∀{xs:List V}{us:List Value}(i:Nat),Vals xs us->Vals (xs.eraseIdx i) (us.eraseIdx i)
 |_,_,_,.nil=>.nil
 |_,_,0,.cons _ t=>t
 |_,_,i+1,.cons r t=>.cons r (Vals.eraseIdx i t)
theorem Bt{α:Type}(l:List α):l.eraseIdx (l.length-1)=l.dropLast:=by
 induction l with
 |nil=>rfl
 |cons a r c=>
  cases r with
  |nil=>rfl
  |cons b r=>
   have e:(a::b::r).length-1=((b::r).length-1)+1:=by
    have d:(a::b::r).length=r.length+2:=rfl;have a:(b::r).length=r.length+1:=rfl;lia
   rw[e,List.eraseIdx_cons_succ,c]
   all_goals rfl
theorem vZ{α:Type}:∀(l:List α) (i:Nat),(l.eraseIdx i).length<=l.length
 | [],_=>S' _
 |_::_,0=>Nat.le_succ _
 |_::r,i+1=>Nat.succ_le_succ (vZ r i)
section
variable {X:Cx}{pins:List (Addr×Obj)}{σ:St}{H:Hp}{s:Shared}{l b:Addr}{xs ys zs:List V}
theorem Inv.M8{a mN:List Value}{n:Nat}{f:Array Value->Array Value}{t':Nat}(I:Inv X pins σ H s)(b:H l=some (.lst xs))
  (e:s.heap.get? l=some {cls:=.type "list",data:=.seq a.toArray n}) (c:f a.toArray=mN.toArray) (d:Vals ys mN) (hz:ys.length<=sizeLine):
  Inv X pins σ (upd H l (.lst ys)) {s with heap:=s.heap.update l (Obj.mapSeq f),toks:=t'}:=by
 have q:=PySem.IsL.update e f;rw[c]at q;calc I.write (x:=l) (e:=l) (by rw[b];calc trivial) (.inl rfl) (λe u a c=>(abl s.heap (Obj.mapSeq f) (Ne.symm a)).trans c) (_,q) ?_;calc(hz,mN,_,d,q)
theorem Inv.acC{a:List Value}{t':Nat}(I:Inv X pins σ H s)(b:Vals ys a)(hz:ys.length<=sizeLine):
  Inv X pins σ (upd H s.heap.objs.size (.lst ys)) {s with heap:=s.heap.push {cls:=.type "list",data:=.seq a.toArray},toks:=t'}:=
 I.laid (λ_ _ q=>P' _ q) (S' _) (hz,a,0,b,aas _ rfl)
theorem Inv.fresh(I:Inv X pins σ H s):H s.heap.objs.size=none:=I.aW.fresh (S' _)
theorem Inv.Bu(I:Inv X pins σ H s)(b:H l=some (.lst xs)):xs.length<=sizeLine/\∃(a:List Value) (n:Nat),Vals xs a/\xs.length=a.length/\s.heap.get? l=some {cls:=.type "list",data:=.seq a.toArray n}:=by
 let(z,a,n,r,e):=I.aW l _ b;calc(z,a,n,r,r.length,e)
theorem HV{n:Nat}(h:n<=sizeLine):Builtin.List.listTooLong n=false:=by
 unfold Builtin.List.listTooLong;calc aaM ()
end
section
variable {X:Cx}
def M9:V->List V->Hp->VK->Prop:=λx vs H Q=>∃l xs y,x=.ref l/\vs=[y]/\H l=some (.lst xs)/\xs.length<sizeLine/\Q .bG (upd H l (.lst (xs++[y])))
theorem v7:MtM X "list.append" M9:=by
 intro a s σ H x e v f Q I c d h;let(l,g,y,rfl,rfl,b,i,q):=h
 cases c;let(u,rfl,f):=d.one;let(z,a,n,r,c,e):=I.Bu b;calc call_meets F.slot_list_append (_,e,rfl) F.entry_list_append (F.args_list_append_2 _ _) (PySem.list_append l a.toArray n u (by rw[aaG];lia)) (e,?_);calc(.bG,_,I.M8 (mN:=a++[u]) b e nofun (r.append (.cons f .nil)) ?_,rfl,q);rw[aaQ,List.length_singleton];lia
def Na:V->List V->Hp->VK->Prop:=λx vs H Q=>∃l b xs a,x=.ref l/\vs=[.ref b]/\H l=some (.lst xs)/\H b=some (.lst a)/\xs.length+a.length<=sizeLine/\Q .bG (upd H l (.lst (xs++a)))
theorem E4:MtM X "list.extend" Na:=by
 intro a s σ H x e v j Q I c d h;let(l,b,k,m,rfl,rfl,f,g,n,q):=h
 cases c;let(u,rfl,i):=d.one
 cases i;let(z,a,n,r,c,e):=I.Bu f;let(d,c,h,i,k,j):=I.Bu g;have d:a.toArray.size+c.toArray.size<=sizeLine:=by rw[aaG,aaG];lia
 have g:¬(!a.toArray.isEmpty&&Builtin.List.listTooLong (a.toArray.size+c.toArray.size))=true:=by
  rw[HV d,Bool.and_false];exact T'
 refine call_meets F.slot_list_extend (_,e,rfl) F.entry_list_extend (F.args_list_extend_2 _ _)
  (AutoSeq1.list_extend_list_list_0 l a.toArray n b c.toArray h g (by rw[aaG];lia) ()) (e,j,?_)
 calc(.bG,_,I.M8 (mN:=a++c) f e nofun (r.append i) ?_,rfl,q);rw[aaQ];lia
def acD:V->List V->Hp->VK->Prop:=λx vs H Q=>∃l xs y,x=.ref l/\vs=[]/\H l=some (.lst xs)/\xs[xs.length-1]?=some y/\Q y (upd H l (.lst xs.dropLast))
theorem R4:MtM X "list.pop" acD:=by
 intro a s σ H x e v i Q I d f h;let(l,j,y,rfl,rfl,c,g,q):=h
 cases d;have b:=f.zero;subst b;let(z,a,n,r,d,e):=I.Bu c;let(u,b,f):=r.get g;have h:a.toArray[a.toArray.size-1]?=some u:=by
  show a.toArray[a.length-1]?=some u;rw[<-Array.getElem?_toList,<-d];exact b
 calc call_meets F.slot_list_pop (_,e,rfl) F.entry_list_pop (F.args_list_pop_1 _) (MeetsSeq.list_pop_last l a.toArray n u h (by rw[aaG];lia)) (e,?_);refine(y,_,I.M8 (mN:=a.dropLast) c e ?_ r.dropLast ?_,f,q)
 ·show a.toArray.eraseIdxIfInBounds (a.toArray.size-1)=a.dropLast.toArray;rw[aaG,List.eraseIdxIfInBounds_toArray,Bt]
 ·rw[List.length_dropLast];lia
def acE:R2:=λx y H Q=>∃l b xs a,x=.ref l/\y=.ref b/\H l=some (.lst xs)/\H b=some (.lst a)/\xs.length+a.length<=sizeLine/\∀p,H p=none->Q (.ref p) (upd H p (.lst (xs++a)))
theorem R5:gP X (binaryOp .Add) acE:=by
 intro a s σ H x y v u Q I c d h;let(l,b,e,i,rfl,rfl,f,g,j,q):=h
 cases c
 cases d;let(z,a,n,r,b,e):=I.Bu f;let(h,b,i,c,j,d):=I.Bu g;calc PySem.P.add_list e d ?_ (by rw[aaG,aaG];lia);have f:a.toArray++b.toArray=(a++b).toArray:=by simp
 rw[f];calc(.ref _,_,I.acC (t':=s.toks) (r.append c) (by rw[aaQ];lia),rfl,q _ I.fresh)
theorem HW{pins:List (Addr×Obj)}{s:Shared}{σ:St}{H:Hp}{l:Addr}{xs:List V}{i:Int}{t:Tok}{k:Nat}{Q:Unit->Shared->Prop}(I:Inv X pins σ H s)(b:H l=some (.lst xs))
  (c:-(2^63)<=i) (d:i<2^63) (f:seqIndex? i xs.length=some k) (h:∀s',Inv X pins σ (upd H l (.lst (xs.eraseIdx k))) s'->Q ⟨⟩ s'):
  wpAny (model X.prog X.w) X.A (delItem (.ref l) (.int i t)) Q X.xe s:=by
 let(z,a,n,r,g,e):=I.Bu b;calc PySem.P.delItem_list (k:=k) e (fitsIndex_both c d) (by rw[aaG,<-g];calc f) (h _ ?_) (by rw[aaG];lia);refine I.M8 (mN:=a.eraseIdx k) (t':=s.toks) b e ?_ (r.eraseIdx k) ?_
 ·show a.toArray.eraseIdxIfInBounds k=(a.eraseIdx k).toArray;rw[List.eraseIdxIfInBounds_toArray]
 ·have:=vZ xs k;lia
end
section
variable {prog:Program}{w:World}{A:Around}{E:Value->Shared->Prop}{s:Shared}
set_option maxRecDepth 100000 in
end
section
variable {X:Cx}
end
end
section
variable {a:Addr}{X:Cx}{H H':Hp}{pins:List (Addr×Obj)}{xs:List (List Key×Addr×Value)}{aL:List (List Key×V)}{AK:List (TE×TE)}{pos:Pos}{s:Shared}{σ:St}{Q:Value->Shared->Prop}
section
variable {κ:Type} [DecidableEq κ]
noncomputable def dW(aL:List (κ×V))(k:κ):Option V:=(aL.find? λa=>decide (a.1=k)).map (·.2)
noncomputable def putK(aL:List (κ×V))(k:κ)(v:V):List (κ×V):=
 if (aL.any λa=>decide (a.1=k))=true then aL.map (λa=>if a.1=k then((a.1),v) else a) else aL++[((k),v)]
theorem HX{k:κ}:dW ([]:List (κ×V)) k=none:=rfl
theorem dF{p:κ×V}{r:List (κ×V)}{k:κ}(e:p.1=k):dW (p::r) k=some p.2:=by simp[dW,List.find?_cons,e]
theorem dG{p:κ×V}{r:List (κ×V)}{k:κ}(e:¬p.1=k):dW (p::r) k=dW r k:=by simp[dW,List.find?_cons,e]
theorem iy(k:κ):∀aL:List (κ×V),(aL.any λa=>decide (a.1=k))=(dW aL k).isSome
 | []=>rfl
 |p::r=>by
  rw[List.any_cons];by_cases e:p.1=k
  ·simp only[dF e,decide_eq_true e,Bool.true_or,Option.isSome_some]
  ·rw[dG e,aaM e,Bool.false_or];calc iy k r
theorem yW(k j:κ)(y:V):∀aL:List (κ×V),dW (aL.map λa=>if a.1=k then((a.1),y) else a) j=(dW aL j).map λx=>if j=k then y else x
 | []=>rfl
 |p::r=>by
  have a:=yW k j y r;rw[aaU];by_cases h:p.1=k
  ·rw[if_pos h];by_cases e:p.1=j
   ·rw[dF (p:=((p.1),y)) e,dF e,Option.map_some,if_pos (e.symm.trans h)]
   ·rw[dG (p:=((p.1),y)) e,dG e,a]
  ·rw[if_neg h];by_cases e:p.1=j
   ·rw[dF (p:=p) e,dF e,Option.map_some,if_neg (λz=>h (e.trans z))]
   ·rw[dG (p:=p) e,dG e,a]
theorem v8(k j:κ)(y:V):∀aL:List (κ×V),dW aL k=none->dW (aL++[((k),y)]) j=if j=k then some y else dW aL j
 | [],_=>by
  by_cases e:k=j
  ·rw[if_pos e.symm];exact dF (p:=((k),y)) e
  ·rw[if_neg (λz=>e z.symm)];calc dG (p:=((k),y)) e
 |p::r,a=>by
  rw[List.cons_append];have b:¬p.1=k:=λz=>by rw[dF z]at a;cases a
  rw[dG b]at a;have c:=v8 k j y r a;by_cases e:p.1=j
  ·rw[dF e,dF e,if_neg (λz=>b (e.trans z))]
  ·rw[dG e,dG e,c]
theorem sY(aL:List (κ×V))(k j:κ)(y:V):dW (putK aL k y) j=if j=k then some y else dW aL j:=by
 unfold putK;by_cases a:(aL.any λb=>decide (b.1=k))=true
 ·rw[if_pos a,yW];rw[iy] at a;by_cases e:j=k
  ·let(x,b):=Option.isSome_iff_exists.mp a;rw[if_pos e,e,b,Option.map_some,if_pos rfl]
  ·rw[if_neg e]
   cases dW aL j with
   |none=>rfl
   |some x=>rw[Option.map_some,if_neg e]
 ·rw[if_neg a];calc v8 k j y aL ?_;rw[iy] at a
  cases q:dW aL k with
  |none=>rfl
  |some x=>rw[q]at a;calc(a rfl).elim
theorem jb(aL:List (κ×V))(k:κ)(v:V):(putK aL k v).length<=aL.length+1:=by
 unfold putK;split
 ·rw[aau];lia
 ·rw[aaQ,abf,List.length_nil];lia
theorem HY{aL:List (κ×V)}{k:κ}(v:V)(h:dW aL k=none):putK aL k v=aL++[((k),v)]:=by
 unfold putK;rw[iy,h];calc if_neg ∅
theorem j4.jW{o:Option V}{u:Option Value}(r:j4 o u):o.isSome=u.isSome:=by
 cases o with
 |none=>cases u with
  |none=>rfl
  |some _=>calc(show False from r).elim
 |some _=>cases u with
  |none=>calc(show False from r).elim
  |some _=>rfl
theorem j4.getD{o:Option V}{u:Option Value}{d:V}{d':Value}(r:j4 o u)(a:RelV d d'):RelV (o.getD d) (u.getD d'):=by
 cases o with
 |none=>cases u with
  |none=>calc a
  |some _=>calc(show False from r).elim
 |some _=>cases u with
  |none=>calc(show False from r).elim
  |some _=>calc r
theorem KV.val{aL:List (κ×V)}{vs:List (κ×Value)}(r:KV aL vs)(k:κ):j4 (dW aL k) (valueAt vs k):=by
 unfold KV at r;induction r with
 |nil=>calc aa4
 | @cons p q b a h t g=>
  let(d,i):=h;by_cases e:p.1=k
  ·have c:q.1=k:=d.symm.trans e;have b:valueAt (q::a) k=some q.2:=by simp[valueAt,List.find?_cons,c]
   rw[dF e,b];exact i
  ·have c:¬q.1=k:=λz=>e (d.trans z);have b:valueAt (q::a) k=valueAt a k:=by simp[valueAt,List.find?_cons,c]
   rw[dG e,b];calc g
theorem KV.any{aL:List (κ×V)}{vs:List (κ×Value)}(r:KV aL vs)(k:κ):(aL.any λa=>decide (a.1=k))=vs.any λa=>decide (a.1=k):=by
 unfold KV at r;induction r with
 |nil=>rfl
 |cons h t a=>rw[List.any_cons,List.any_cons,a,h.1]
theorem KV.R6{aL:List (κ×V)}{vs:List (κ×Value)}(r:KV aL vs)(k:κ){y:V}{u:Value}(b:RelV y u):
  KV (aL.map λa=>if a.1=k then((a.1),y) else a) (vs.map λa=>if a.1=k then((a.1),u) else a):=by
 unfold KV at r ⊢;induction r with
 |nil=>calc .nil
 | @cons p q a d h t c=>
  rw[aaU,aaU];calc .cons ?_ c;let(a,d):=h;by_cases e:p.1=k
  ·rw[if_pos e,if_pos (a.symm.trans e)];exact(a,b)
  ·rw[if_neg e,if_neg (λz=>e (a.trans z))];calc(a,d)
theorem KV.put{aL:List (κ×V)}{vs:List (κ×Value)}(r:KV aL vs)(k:κ){y:V}{u:Value}(a:RelV y u):KV (putK aL k y) (stored vs k u):=by
 unfold putK stored;rw[r.any k];by_cases e:(vs.any λb=>decide (b.1=k))=true
 ·rw[if_pos e,if_pos e];exact r.R6 k a
 ·rw[if_neg e,if_neg e];calc Paired.snoc r (rfl,a)
theorem KV.length{aL:List (κ×V)}{vs:List (κ×Value)}(r:KV aL vs):aL.length=vs.length:=Paired.length r
end
theorem rg{P:Program}{w:World}{k:Key}{u:Value}(r:RelV (kV k) u):(bM P w).is k u=true:=by
 cases k with
 |inl i=>let(t,e):=(show ∃t,u=Value.int i t from r);subst e;calc yJ P w i t
 |inr x=>let(t,e):=(show ∃t,u=Value.str x t from r);subst e;calc yK P w x t
theorem v9{P:Program}{w:World}:∀{a:List Key}{us:List Value},Vals (a.map kV) us->ItemsAre (bM P w) a us
 | [],_,r=>by rw[List.map_nil]at r;cases r;calc .nil
 |k::a,_,r=>by
  rw[aaU]at r
  cases r with
  |cons h t=>calc .cons (rg h) (v9 t)
abbrev KT(H:Hp):List (List Key×V)->List (List Key×Addr×Value)->Prop:=Paired λp q=>p.1=q.1/\H q.2.1=some (.tup (p.1.map kV))/\RelV p.2 q.2.2
theorem KT.val{H:Hp}{aL:List (List Key×V)}{xs:List (List Key×Addr×Value)}(r:KT H aL xs)(k:List Key):j4 (dW aL k) ((atKey xs k).map (·.2)):=by
 induction r with
 |nil=>calc aa4
 | @cons p q b a h t g=>
  let(d,_,i):=h;by_cases e:p.1=k
  ·have c:q.1=k:=d.symm.trans e;have b:atKey (q::a) k=some q.2:=by simp[atKey,List.find?_cons,c]
   rw[dF e,b];exact i
  ·have c:¬q.1=k:=λz=>e (d.trans z);have b:atKey (q::a) k=atKey a k:=by simp[atKey,List.find?_cons,c]
   rw[dG e,b];calc g
theorem KT.R6{H:Hp}{aL:List (List Key×V)}{xs:List (List Key×Addr×Value)}(r:KT H aL xs)(k:List Key){y:V}{u:Value}(c:RelV y u):
  KT H (aL.map λa=>if a.1=k then((a.1),y) else a) (xs.map (putAt k u)):=by
 induction r with
 |nil=>calc .nil
 | @cons p q a b h t d=>
  rw[aaU,aaU];calc .cons ?_ d;let(a,b,g):=h;unfold putAt;by_cases e:p.1=k
  ·rw[if_pos e,if_pos (a.symm.trans e)];exact(a,b,c)
  ·rw[if_neg e,if_neg (λz=>e (a.trans z))];calc(a,b,g)
theorem KT.put(r:KT H aL xs)(k:List Key){b:Addr}{y:V}{u:Value}(c:H b=some (.tup (k.map kV)))(a:RelV y u):
  KT H (putK aL k y) (storedH xs k b u):=by
 have e:(aL.any λb=>decide (b.1=k))=(atKey xs k).isSome:=by
  rw[iy,(r.val k).jW,Option.isSome_map]
 unfold putK storedH;rw[e];by_cases q:(atKey xs k).isSome=true
 ·rw[if_pos q,if_pos q];exact r.R6 k a
 ·rw[if_neg q,if_neg q];calc Paired.snoc r (rfl,c,a)
theorem KT.keeps(r:KT H aL xs)(c:∀b a,H b=some (.tup a)->H' b=some (.tup a)):KT H' aL xs:=
 Paired.EJ r λ_ _ z=>(z.1,c _ _ z.2.1,z.2.2)
section
variable {P:Program}{w:World}{H:Hp}{h:Heap}{a:Addr}
theorem CZ{u:HO}(ok:mS P w H h)(e:Rd H a u):cA P w H h a u:=e.ok ok
theorem rj{aL:List (Key×V)}(b:mS P w H h)(e:Rd H a (.dK aL)):aL.length<=sizeLine/\(a==sysModules)=false/\∃vs,KV aL vs/\h.DictOf (bM P w) a vs:=
 show cA P w H h a (.dK aL) from CZ b e
theorem Pt{aL:List (Key×V)}(b:mS P w H h)(e:H a=some (.dK aL)):aL.length<=sizeLine/\(a==sysModules)=false/\∃vs,KV aL vs/\h.DictOf (bM P w) a vs:=rj b (.inl e)
theorem m9{b:List Key}(c:mS P w H h)(e:H a=some (.tup (b.map kV))):(tupleKind (bM P w)).is h b a:=by
 let(_,d,r,o,f,g,n,i):=(show cA P w H h a (.tup (b.map kV)) from c a _ e)
 calc(o,d.toArray,n,f,g,i,by simpa using v9 r)
theorem oM(d:mS P w H h)(e:Rd H a (.dT aL)):aL.length<=sizeLine/\(a==sysModules)=false/\
  ∃xs,KT H aL xs/\h.DictOfH (tupleKind (bM P w)) a xs:=by
 let(z,y,xs,r,o,g,i,j,k,n,p,s):=(show cA P w H h a (.dT aL) from CZ d e)
 calc(z,y,xs,r,o,g,i,j,k,n,p,λx b=>?_,s);have c:∀{l:List (List Key×V)} {m:List (List Key×Addr×Value)},KT H l m->∀x∈m,(tupleKind (bM P w)).is h x.1 x.2.1:=by
  intro l m q;induction q with
  |nil=>intro x b;calc nomatch b
  | @cons p q g i f t u=>
   intro x b;rcases List.mem_cons.mp b with e|b
   ·subst e;exact m9 d (by rw[<-f.1];calc f.2.1)
   ·exact u x b
 calc c r x b
theorem Pu(b:mS P w H h)(e:H a=some (.dT aL)):aL.length<=sizeLine/\(a==sysModules)=false/\
  ∃xs,KT H aL xs/\h.DictOfH (tupleKind (bM P w)) a xs:=oM b (.inl e)
end
def fQ(H:Hp)(a:Addr)(y:V)(r:Option V):Prop:=
 (∃aL k,Rd H a (.dK aL)/\y=kV k/\r=dW aL k)\/∃aL k b,Rd H a (.dT aL)/\y=.ref b/\H b=some (.tup (k.map kV))/\r=dW aL k
def pZ(H:Hp)(a:Addr)(y v:V)(H':Hp):Prop:=
 (∃aL k,H a=some (.dK aL)/\y=kV k/\aL.length<sizeLine/\H'=upd H a (.dK (putK aL k v)))\/
 ∃aL k b,H a=some (.dT aL)/\y=.ref b/\H b=some (.tup (k.map kV))/\aL.length<sizeLine/\H'=upd H a (.dT (putK aL k v))
theorem fQ.k{aL:List (Key×V)}{k:Key}(e:H a=some (.dK aL)):fQ H a (kV k) (dW aL k):=.inl (aL,k,.inl e,rfl,rfl)
theorem fQ.t{b:Addr}{k:List Key}(e:H a=some (.dT aL))(c:H b=some (.tup (k.map kV))):fQ H a (.ref b) (dW aL k):=.inr (aL,k,b,.inl e,rfl,c,rfl)
theorem pZ.k{aL:List (Key×V)}{k:Key}{v:V}(e:H a=some (.dK aL))(b:aL.length<sizeLine):pZ H a (kV k) v (upd H a (.dK (putK aL k v))):=.inl (aL,k,e,rfl,b,rfl)
theorem pZ.t{b:Addr}{k:List Key}{v:V}(e:H a=some (.dT aL))(c:H b=some (.tup (k.map kV)))(d:aL.length<sizeLine):
  pZ H a (.ref b) v (upd H a (.dT (putK aL k v))):=.inr (aL,k,b,e,rfl,c,d,rfl)
section
variable {X:Cx}{pins:List (Addr×Obj)}{σ:St}{H:Hp}{s:Shared}{a:Addr}{y v:V}{u r:Value}{o:Option V}{A:Around}{E:Value->Shared->Prop}
theorem Inv.big(I:Inv X pins σ H s):sysModules<s.heap.objs.size:=by
 have h:mainGlobals<s.heap.objs.size:=(I.mod.glob.keeps I.bk).lt;calc Nat.lt_trans ∅ h
theorem wa(n:A.units+1<cLine)(I:Inv X pins σ H s)(g:fQ H a y (some v))(m:RelV y u)(h:∀w' s',Inv X pins σ H s'->RelV v w'->Q w' s'):
  wpAny (model X.prog X.w) A (getItem (.ref a) u) Q E s:=by
 rcases g with⟨aL,k,e,d,l⟩|⟨aL,k,b,e,d,q,l⟩
 ·subst d;let(z,p,g,c,f):=rj I.aW e;let(w',i,j):=j4.some_of (v:=v) (o:=valueAt g k) (by rw[l];calc c.val k);exact wpAny_getItem_of (rg m) f.mapOf i (h w' _ (I.tok _) j)
 ·subst d
  cases(show u=Value.ref b from m);let(z,p,xs,c,f):=oM I.aW e;let(w',i,j):=j4.some_of (v:=v) (o:=(atKey xs k).map (·.2)) (by rw[l];calc c.val k);let(p,b,d):=Option.map_eq_some_iff.mp i;calc wpAny_getItem_heap (abx n) (m9 I.aW q) f b ?_;rw[d];calc h w' _ (I.tok _) j
theorem acF(m:A.units+1<cLine)(I:Inv X pins σ H s)(g:fQ H a y o)(j:RelV y u)(h:∀s',Inv X pins σ H s'->Q (.bool o.isSome) s'):
  wpAny (model X.prog X.w) A (compareOp .In u (.ref a)) Q E s:=by
 rcases g with⟨aL,k,e,d,l⟩|⟨aL,k,b,e,d,n,l⟩
 ·subst d;let(z,f,g,c,i):=rj I.aW e;calc wpAny_in_of (rg j) f i.mapOf ?_;rw[<-(c.val k).jW,<-l];exact h _ (I.tok _)
 ·subst d
  cases(show u=Value.ref b from j);let(z,f,xs,c,i):=oM I.aW e;calc wpAny_in_heap (abx m) (m9 I.aW n) f i ?_;have q:=(c.val k).jW;rw[Option.isSome_map]at q;rw[<-q,<-l];calc h _ (I.tok _)
theorem Nb(m:A.units+1<cLine)(I:Inv X pins σ H s)(g:fQ H a y o)(j:RelV y u)(h:∀s',Inv X pins σ H s'->Q (.bool (!o.isSome)) s'):
  wpAny (model X.prog X.w) A (compareOp .NotIn u (.ref a)) Q E s:=by
 rcases g with⟨aL,k,e,d,l⟩|⟨aL,k,b,e,d,n,l⟩
 ·subst d;let(z,f,g,c,i):=rj I.aW e;calc wpAny_notIn_of (rg j) f i.mapOf ?_;rw[<-(c.val k).jW,<-l];exact h _ (I.tok _)
 ·subst d
  cases(show u=Value.ref b from j);let(z,f,xs,c,i):=oM I.aW e;calc wpAny_notIn_heap (abx m) (m9 I.aW n) f i ?_;have q:=(c.val k).jW;rw[Option.isSome_map]at q;rw[<-q,<-l];calc h _ (I.tok _)
theorem sm{h':Heap}{t':Nat}{ob:HO}(I:Inv X pins σ H s)(d:Ww (H a))(f:Heap.SameBut a s.heap h')(g:∃q,h'.get? a=some q)(c:cA X.prog X.w (upd H a ob) h' a ob):
  Inv X pins σ (upd H a ob) {s with heap:=h',toks:=t'}:=
 I.write (x:=a) (e:=a) d (.inl rfl) (λb q h z=>(f.2 b h).trans z) g c
theorem HZ{P:Program}{w:World}{h':Heap}{aL:List (Key×V)}{vs:List (Key×Value)}(z:aL.length<=sizeLine)(c:(a==sysModules)=false)(b:KV aL vs)(d:h'.DictOf (bM P w) a vs):
  cA P w H' h' a (.dK aL):=(z,c,vs,b,d)
theorem E5{Q:Unit->Shared->Prop}(G:A.units+1<cLine)(I:Inv X pins σ H s)(g:pZ H a y v H')(B:RelV y u)(C:RelV v r)(h:∀s',Inv X pins σ H' s'->Q ⟨⟩ s'):
  wpAny (model X.prog X.w) A (setItem (.ref a) u r) Q E s:=by
 rcases g with⟨aL,k,e,c,l,j⟩|⟨aL,k,b,e,c,D,l,j⟩
 ·subst c j;let(z,m,g,d,n):=Pt I.aW e;have o:g.length<=sizeLine:=by rw[<-d.length];exact z
  have p:(putK aL k v).length<=sizeLine:=by have:=jb aL k v;lia
  calc wpAny_setItem_pairs (hsz:=o) (rg B) n λF f x=>h _ ?_;have g:∃q,F.get? a=some q:=let ⟨q,_,_,i,_⟩:=f;(q,i)
  exact sm I (by rw[e];calc aa4) x g (HZ p m (d.put k C) f)
 ·subst c j
  cases(show u=Value.ref b from B);let(z,m,xs,d,n):=Pu I.aW e;have o:xs.length<=sizeLine:=by rw[<-Paired.length d];exact z
  have p:(putK aL k v).length<=sizeLine:=by have:=jb aL k v;lia
  calc wpAny_setItem_heap (hsz:=o) (abx G) (m9 I.aW D) n λF f x=>h _ ?_;let(q,g,j,i,l,n,o,_,t):=f;calc sm I (by rw[e];calc aa4) x (q,i) (p,m,_,(d.put k D C).keeps λc h b=>?_,q,g,j,i,l,n,o,t);rw[ay (gK b e (λz=>nomatch z))];calc b
end
section
variable {X:Cx}{pins:List (Addr×Obj)}{σ:St}{H:Hp}{s:Shared}{a:Addr}{aL:List (Key×V)}{k:Key}{u:Value}{A:Around}{E:Value->Shared->Prop}
end
def W7(i:Expr):Prop:=∀a b,subscripted i false a b=operate [a,b] (getItem a b)
theorem Nc{prog:Program}{w:World}{A:Around}{E:Value->Shared->Prop}{env:Env}{b a:Expr}{T c:String}
  (j:typeLookup (.type T) "__getitem__"=pure (some (.builtin c))) (k:W7 a)
  (h:wpAny (model prog w) A (eval b env) (λo d=>wpAny (model prog w) A (eval a env) (λi c=>c.TypeIs o T/\wpAny (model prog w) A (getItem o i) Q E c) E d) E s):
  wpAny (model prog w) A (eval (.Subscript b a pos) env) Q E s:=by
 calc Subscript_ (aa2 h (λo d e=>aa2 e (λi c d=>?_) λ_ _ x=>x) λ_ _ x=>x);let(g,d):=d;unfold subscriptTail;calc j' ?_;rw[getitemInPython_of_ne g.not_modules];calc j' (wpAny_specialOf g j ?_);have f:wpAny (model prog w) A (subscripted a false o i) (λr e=>wpAny (model prog w) A (letTemporaryGo b o r >>= λ_=>pure r) Q E e) E c:=by
  rw[k o i];exact wpAny_operating (aa2 d (λr e a=>j' (wpAny_letTemporaryGo (K' a))) λ_ _ x=>x)
 first
  |calc K' (j' f)
  |calc j' (K' (j' f))
  |calc j' f
theorem rm{y:V}{o:Option V}(I:Inv X pins σ H s)(g:fQ H a y o):s.TypeIs (.ref a) "dict":=by
 rcases g with⟨aL,k,e,_,_⟩|⟨aL,k,b,e,_,_,_⟩
 ·let(_,_,c,_,b):=rj I.aW e;exact b.typeIs
 ·let(_,_,xs,_,b):=oM I.aW e;calc b.typeIs
def Ib(b c:TE):TE:=λσ H Q=>b σ H λx d=>c σ d λy b=>∃a v,x=.ref a/\fQ b a y (some v)/\Q v b
def R7(b c:TE):TE:=λσ H Q=>b σ H λy d=>c σ d λx b=>∃a o,x=.ref a/\fQ b a y o/\Q (.bl o.isSome) b
def xI(b c:TE):TE:=λσ H Q=>b σ H λy d=>c σ d λx b=>∃a o,x=.ref a/\fQ b a y o/\Q (.bl (!o.isSome)) b
def Ic(b c d:TE):TS:=λD σ H=>d σ H λv e=>b σ e λx d=>c σ d λy e=>∃a b,x=.ref a/\pZ e a y v b/\D.nx σ b
section
variable {X:Cx}{o i e value:Expr}{pos pos' RL:Pos}{td ty tv:TE}
theorem j8(c:X.A.units+1<cLine)(d:PE X o td)(e:PE X i ty)(f:W7 i):PE X (.Subscript o i pos) (Ib td ty):=by
 walk_at "xc";refine Nc PySem.F.slot_dict_getitem.lookup f (cU (d pins s σ H _ I h) λu j (x,k,l,m,n)=>cU (e pins j σ k _ l n) λd f p=>?_);let(y,q,b,r,a,v,t,g,w):=p;subst t;obtain rfl:u=Value.ref a:=m;exact(rm b g,wa c b g r λf j d e=>(v,q,d,e,w))
theorem Ie(b:X.A.units+1<cLine)(c:PE X i ty)(d:PE X o td):PC X .In i o (R7 ty td):=by
 walk_at "xc";refine cU (c pins s σ H _ I h) λw e (y,f,j,k,l)=>cU (d pins e σ f _ j l) λu c m=>?_;let(x,n,p,q,a,r,t,g,v):=m;subst t;obtain rfl:u=Value.ref a:=q;exact acF b p g k λd c=>(.bl r.isSome,n,c,rfl,v)
theorem E6(b:X.A.units+1<cLine)(c:PE X i ty)(d:PE X o td):PC X .NotIn i o (xI ty td):=by
 walk_at "xc";refine cU (c pins s σ H _ I h) λw e (y,f,j,k,l)=>cU (d pins e σ f _ j l) λu c m=>?_;let(x,n,p,q,a,r,t,g,v):=m;subst t;obtain rfl:u=Value.ref a:=q;exact Nb b p g k λd c=>(.bl (!r.isSome),n,c,rfl,v)
theorem gF(b:X.A.units+1<cLine)(c:PE X o td)(d:PE X i ty)(e:PE X value tv)(f:swapsWith value (some (.Subscript o i pos')) pos.line X.env=pure false):
  PS X (.Assign [.Subscript o i pos'] value pos) (Ic td ty tv):=by
 walk_at "xd";refine wpAny_Assign_Subscript (cU (e pins s σ H _ I h) λr j (v,k,l,m,n)=>cU (c pins j σ k _ l n) λu e (x,p,q,t,r)=>cU (d pins e σ p _ q r) λc j w=>?_) f;let(y,c,z,B,a,C,E,g,F):=w;subst E;obtain rfl:u=Value.ref a:=t;exact E5 b z g B m λd c=>(σ,C,c,F)
end
theorem yY{P:Program}{w:World}(h:Heap)(a:sysModules<h.objs.size):cA P w H (h.push {cls:=.type "dict",data:=.dict #[]}) h.objs.size (.dK []):=
 (aaO _,beq_eq_false_iff_ne.mpr (Ne.symm (aaN a)),[],.nil,Heap.DictOf.new h)
theorem Ig{P:Program}{w:World}(h:Heap)(a:sysModules<h.objs.size):cA P w H (h.push {cls:=.type "dict",data:=.dict #[]}) h.objs.size (.dT []):=
 (aaO _,beq_eq_false_iff_ne.mpr (Ne.symm (aaN a)),[],.nil,_,#[],0,aas _ rfl,(rfl,rfl,rfl),rfl,rfl,List.nodup_nil)
def Bv:TE:=λ_ H Q=>∀p,H p=none->Q (.ref p) (upd H p (.dK []))
def Bw:TE:=λ_ H Q=>∀p,H p=none->Q (.ref p) (upd H p (.dT []))
section
variable {X:Cx}{pos:Pos}
theorem yZ:PE X (.Dict [] [] pos) Bv:=.mk λpins s σ H Q I h=>
 wpAny_Dict_empty (.ref s.heap.objs.size,_,I.laid (a:=s.heap.objs.size) (o:=.dK []) (t':=s.toks) (λ_ _ q=>P' _ q) (S' _) (yY s.heap I.big),rfl,h _ (I.aW.fresh (S' _)))
theorem sZ:PE X (.Dict [] [] pos) Bw:=.mk λpins s σ H Q I h=>
 wpAny_Dict_empty (.ref s.heap.objs.size,_,I.laid (a:=s.heap.objs.size) (o:=.dT []) (t':=s.toks) (λ_ _ q=>P' _ q) (S' _) (Ig s.heap I.big),rfl,h _ (I.aW.fresh (S' _)))
end
def p6:List (TE×TE)->St->Hp->(List (V×V)->Hp->Prop)->Prop
 | [],_,H,Q=>Q [] H
 |(a,b)::r,σ,H,Q=>a σ H λx c=>b σ c λy a=>p6 r σ a λb c=>Q (((x),y)::b) c
abbrev VV:List (V×V)->List (Value×Value)->Prop:=Paired λp q=>RelV p.1 q.1/\RelV p.2 q.2
def PPs(X:Cx)(pos:Pos)(b:List (Option Expr))(a:List Expr)(AK:List (TE×TE)):Prop:=
 ∀(pins:List (Addr×Obj)) (s:Shared) (σ:St) (H:Hp) (Q:List (V×V)->Hp->Prop),Inv X pins σ H s->p6 AK σ H Q->
  wpAny (model X.prog X.w) X.A (evalPairs (pairTrees b a X.env pos)) (λvs s'=>∃a H',Inv X pins σ H' s'/\VV a vs/\Q a H') X.xe s
theorem Nd:PPs X pos [] [] []:=λpins s σ H Q I h=>pairTrees_nil_walk ([],H,I,.nil,h)
theorem tf{k v:Expr}{a:List (Option Expr)}{vs:List Expr}{b c:TE}(d:PE X k b)(e:PE X v c)(f:PPs X pos a vs AK):
  PPs X pos (some k::a) (v::vs) (((b),c)::AK):=λpins s σ H Q I h=>
 pairTrees_cons_walk (cU (d pins s σ H _ I h) λu a (x,b,c,g,i)=>cU (e pins a σ b _ c i) λm d (y,h,j,k,l)=>
  cU (f pins d σ h _ j l) λm n (b,c,e,a,i)=>(((x),y)::b,c,e,.cons (g,k) a,i))
noncomputable def nc(aL a:List (Key×V)):List (Key×V):=a.foldl (λb c=>putK b c.1 c.2) aL
theorem KV.merge:∀{a:List (Key×V)}{b:List (Key×Value)}{aL:List (Key×V)}{vs:List (Key×Value)},KV a b->KV aL vs->KV (nc aL a) (merged vs b):=by
 intro a b aL vs r;unfold KV at r;induction r generalizing aL vs with
 |nil=>intro q;calc q
 | @cons p q b c h t a=>
  intro b;have e:KV (putK aL p.1 p.2) (stored vs q.1 q.2):=by
   have:=b.put p.1 h.2;rw[<-h.1];exact this
  calc a e
theorem mW:∀(a aL:List (Key×V)),(nc aL a).length<=aL.length+a.length
 | [],aL=>by show aL.length<=aL.length+0;lia
 |p::r,aL=>by
  have a:=mW r (putK aL p.1 p.2);have a:=jb aL p.1 p.2;show(nc (putK aL p.1 p.2) r).length<=_;rw[abf];lia
theorem tj{P:Program}{w:World}:∀{aL:List (Key×V)}{ws:List (Value×Value)},VV (aL.map λb=>((kV b.1),b.2)) ws->∃d,Carries (bM P w) ws d/\KV aL d
 | [],_,r=>by rw[List.map_nil]at r;cases r;calc([],aa4,.nil)
 |p::aL,_,r=>by
  rw[aaU]at r
  cases r with
  | @cons a b c e h t=>
   let(d,c,q):=tj (P:=P) (w:=w) t;let(f,e):=b;calc(((p.1),e)::d,(rg h.1,rfl,c),.cons (rfl,h.2) q)
def Dc(AK:List (TE×TE)):TE:=λσ H Q=>∀p,H p=none->p6 AK σ (upd H p (.dK [])) λc a=>a p=some (.dK [])/\∃aL:List (Key×V),c=aL.map (λb=>((kV b.1),b.2))/\aL.length<=15/\Q (.ref p) (upd a p (.dK (nc [] aL)))
theorem Nf{b:List (Option Expr)}{d:List Expr}(h:PPs X pos b d AK)(k:b.all (·.isSome)=true)(l:b.length=d.length)(m:b≠[])
  (f:b.length<=15):PE X (.Dict b d pos) (Dc AK):=by
 refine⟨?_⟩;intro pins s σ H Q I q;have b:=I.aW.fresh (S' s.heap.objs.size);have d:=I.laid (a:=s.heap.objs.size) (o:=.dK []) (h':=s.heap.push {cls:=.type "dict",data:=.dict #[]}) (t':=s.toks) (λ_ _ q=>P' _ q) (S' _) (yY s.heap I.big);refine wpAny_Dict_walk (knd:=bM X.prog X.w) k l m f (cU (h pins _ σ _ _ d (q _ b)) λz A n=>?_);let(b,d,j,g,e,aL,p,f,r):=n;subst p;let(t,c,u):=tj (P:=X.prog) (w:=X.w) g;let(z,v,b,x,y):=Pt j.aW e
 cases x;calc(t,c,y,λi b d=>(.ref s.heap.objs.size,_,?_,rfl,r));have c:(nc [] aL).length<=sizeLine:=by
  have f:=mW aL [];rw[List.length_nil]at f;rw[abe];lia
 have f:∃q,i.get? s.heap.objs.size=some q:=let ⟨q,_,_,g,_⟩:=b;(q,g)
 calc sm j (by rw[e];calc aa4) d f (HZ c v (u.merge .nil) b)
structure M1(X:Cx)(o:Expr)(m:Str)(apos:Pos)(e:Expr)(jj:Pos):Prop where
 base:attributeBase o m X.env (eval o X.env)=eval o X.env
 few:((backTo jj (starEach [e] X.env)).all (λx=> !x.1) && (backToKw jj (keywordEach [] X.env)).all (λx=>x.1.isSome)
  && decide (([e]:List Expr).length + ([]:List Keyword).length + (if ([]:List Keyword).isEmpty then 0 else 1) < 30))=true
 line:(apos.endLine==jj.line)=true
 trees:backTo jj (starEach [e] X.env)=[((false),eval e X.env)]
def IsD(H:Hp)(a:Addr):Prop:=(∃aL,Rd H a (.dK aL))\/∃aL,Rd H a (.dT aL)
theorem R9(I:Inv X pins σ H s)(d:IsD H a):
  s.TypeIs (.ref a) "dict"/\(∀b,Value.ref a=.ref b->∃ob,s.heap.get? b=some ob/\ob.dict=none)/\(a==sysModules)=false:=by
 rcases d with⟨aL,e⟩|⟨aL,e⟩
 ·let(_,f,d,_,c):=rj I.aW e;refine(c.typeIs,λb q=>?_,f)
  cases q;let(ob,_,_,g,h,_):=c;exact(ob,g,h.2.1)
 ·let(_,f,xs,_,c):=oM I.aW e;refine(c.typeIs,λb q=>?_,f)
  cases q;let(ob,_,_,g,h,_):=c;calc(ob,g,h.2.1)
section
variable {X:Cx}{pins:List (Addr×Obj)}{σ:St}{H:Hp}{s:Shared}{a:Addr}{y d:V}{u r:Value}{o:Option V}{A:Around}{E:Value->Shared->Prop}
theorem Sa(m:A.units+1<cLine)(I:Inv X pins σ H s)(g:fQ H a y o)(j:RelV y u)(h:∀w' s',Inv X pins σ H s'->RelV (o.getD .bG) w'->Q w' s'):
  wpAny (model X.prog X.w) A (call (.builtin "dict.get") [.ref a,u]) Q E s:=by
 rcases g with⟨aL,k,e,f,l⟩|⟨aL,k,b,e,f,n,l⟩
 ·subst f;let(z,i,g,c,d):=rj I.aW e;calc call_meetsIn L8 d.typeIs Vk (PySem.F.args_dict_get_2 _ _) (meets_dict_get (bM X.prog X.w) a (rg j) i) (_,d.mapOf,h _ _ (I.tok _) ?_);rw[l];exact(c.val k).getD rfl
 ·subst f
  cases(show u=Value.ref b from j);let(z,i,xs,c,d):=oM I.aW e;calc call_meetsIn L8 d.typeIs Vk (PySem.F.args_dict_get_2 _ _) (meetsH_dict_get (tupleKind (bM X.prog X.w)) a b i) (abx m,k,xs,m9 I.aW n,d,h _ _ (I.tok _) ?_);rw[l];calc(c.val k).getD rfl
theorem Sb(p:A.units+1<cLine)(I:Inv X pins σ H s)(g:fQ H a y o)(m:RelV y u)(n:RelV d r)(h:∀w' s',Inv X pins σ H s'->RelV (o.getD d) w'->Q w' s'):
  wpAny (model X.prog X.w) A (call (.builtin "dict.get") [.ref a,u,r]) Q E s:=by
 rcases g with⟨aL,k,e,i,l⟩|⟨aL,k,b,e,i,q,l⟩
 ·subst i;let(z,j,g,c,f):=rj I.aW e;calc call_meetsIn L8 f.typeIs Vk (PySem.F.args_dict_get_3 _ _ _) (meets_dict_get_default (bM X.prog X.w) a (rg m) j r) (_,f.mapOf,h _ _ (I.tok _) ?_);rw[l];exact(c.val k).getD n
 ·subst i
  cases(show u=Value.ref b from m);let(z,j,xs,c,f):=oM I.aW e;calc call_meetsIn L8 f.typeIs Vk (PySem.F.args_dict_get_3 _ _ _) (meetsH_dict_get_default (tupleKind (bM X.prog X.w)) a b j r) (abx p,k,xs,m9 I.aW q,f,h _ _ (I.tok _) ?_);rw[l];calc(c.val k).getD n
end
def Bx(c d:TE):TE:=λσ H Q=>c σ H λx b=>∃a,x=.ref a/\IsD b a/\d σ b λy c=>∃o,fQ c a y o/\Q (o.getD .bG) c
section
variable {X:Cx}{o e f:Expr}{apos jj:Pos}{td ty tx:TE}
theorem Ih(c:X.A.units+1<cLine)(f:PE X o td)(i:PE X e ty)(m:M1 X o "get" apos e jj):PE X (.Call (.Attribute o "get" apos) [e] [] jj) (Bx td ty):=by
 walk_at "xc";refine wpAny_Call_method m.base m.few m.line Wv L8 zA4 (cU (f pins s σ H _ I h) λu j g=>?_);let(x,k,b,l,a,n,d,p):=g;subst n;obtain rfl:u=Value.ref a:=l;let(f,n,_):=R9 b d;refine(f,n,?_);rw[m.trees];refine Calls.callWith_builtin rfl (Calls.evalArgs_plain (Calls.spliced_cons (cU (i pins j σ k _ b p) λu v (y,l,q,r,w,g,t)=>Calls.spliced_nil ?_)));exact Sa c q g r λf i b d=>(_,l,b,d,t)
end
section
variable {X:Cx}{pins:List (Addr×Obj)}{σ:St}{H:Hp}{s:Shared}{a:Addr}{y:V}{u:Value}{A:Around}{E:Value->Shared->Prop}
end
end
end L2
namespace Att
open PySem PySem.W PySem.Calls PyProof.Rows
theorem rJ{P:Params}{h:Heap}:∀(c:List Int) (vs:List Value),WellAll P h vs (c.map WData.int)->IntsAre vs c:=by
 intro c;induction c with
 |nil=>
  intro vs w;rw[List.map_nil]at w
  cases w;calc .nil
 |cons n c d=>
  intro vs w;rw[aaU]at w
  cases w with
  |cons a b=>
   cases a;calc .cons _ _ (d _ b)
theorem E8{l:OpenLaw}{n:Nat}(j:l.most=some n){P:Params}{h:Heap}{args:List WData}{c:List Value}
  (g:l.row.toRowW.claim.pre args=true) (k:WellAll P h c args):
  ∃a vs b,c=[Value.ref a]/\args=[WData.list (b.map WData.int)]/\h.get? a=some {cls:=.type "list",data:=.seq vs.toArray}/\IntsAre vs b/\b.length<=n:=by
 have f:WShape.hasAll [] args [.list .int]=true:=(pre_splitW g).1;have i:l.pre.holds [] {args:=args}=true:=(pre_splitW g).2;let(d,r,rfl,m,o):=hasAllW_cons f;obtain rfl:=hasAllW_nil o;let(q,rfl,p):=hasW_list m;let(b,rfl):=items_int p;have e:b.length<=n:=by
  unfold OpenLaw.pre at i;have a:(WTm.not (.lt (.lit (.int (n:Int))) (.len (.arg 0)))).holds [] {args:=[.list (b.map .int)]}=true:=by
   have a:=(holds_andW i).1;rw[j]at a;exact a
  have c:=condW_of a (w_not (w_lt w_lit (w_len_list (w_arg rfl))));rw[aau]at c;calc Nat.le_of_not_lt λq=>?_;have a:(n:Int)<((b.length:Nat):Int):=by lia
  first
   |(rw[aaL a]at c;calc absurd c ∅)
   |(simp at c;lia)
 cases k with
 |cons s t=>
  cases t
  cases s with
  |list a c=>calc(_,_,b,rfl,rfl,a,rJ b _ c,e)
theorem E9(l:OpenLaw)(args:List WData):l.row.toRowW.claim.post args (.bool true) args=true:=
 postW_of (r:=l.row.toRowW) (X:=(true == true))
  (show WShape.has [] (.bool true) .bool=true by first|rfl|decide|simp[WShape.has,WShape.arms,WShape.armsAll])
  (show(WTm.eq .res (.lit (.bool true))).value [] {args:=args,res:=some (.bool true),after:=args}=some (.bool (true==true)) from w_eq_bool (w_res rfl) w_lit) rfl
theorem y0{l:OpenLaw}{n:Nat}{q:Program}{c:List Str}{p:(Str->Option Value)->Heap->Prop}{s:World->Heap->Prop}{d:DefRec}
  (x:l.most=some n) (y:d.params.defaults=[])
  (call:∀(w:World) (s₀ b:Shared) (h k:Str->Option Value) (g:Addr) (o:Obj) (m i e:Value) (a:Addr) (vs:List Value) (j:List Int),
   Ground q c [] p w s₀ h k b.heap->s w b.heap->
   b.heap.get? g=some o->o.data=.func (docDef d.name d.params d.body d.scope m i e)->b.heap.CodeRec i d.name->h d.name=some (.ref g)->
   b.heap.get? a=some {cls:=.type "list",data:=.seq vs.toArray}->IntsAre vs j->j.length<=n->b.gens=#[]->
   codeAny (model l.prog w) callerA (.call (.ref g) ([.ref a],[])) (λr s'=>r=.ok (.ret (.bool true))/\OldK b.heap s'.heap/\s'.os=b.os/\AllBare s'.gens) b):
  WalkO q c p s l.row.toRowW d [] (λf vs=>PySem.call f vs):=by
 intro w s₀ b h k G Y g o m i e z kV A B C t D E u v L F H I J M;obtain rfl:z=.none:=Dflts.none t y;obtain rfl:kV=.none:=Dflts.noKw t;let(a,vs,j,rfl,rfl,f,c,d):=E8 x F J;calc enter_call (codeAny_mono (call w s₀ b h k g o m i e a vs j G Y A (fd_plain B) C D f c d E) λr s' K=>?_);let(rfl,a,b,c):=K;calc(.inl (.bool true,.bool true,[],rfl,λ_=>rfl,.bool true,E9 l _,λ_=>(List.Pairwise.nil,λ_ d=>(nomatch d))),a,b,c)
section
variable {prog:Program}{w:World}{A:Around}{E:Value->Shared->Prop}{s:Shared}{K:Frag}
end
end Att
namespace L2
open PySem PySem.Spec PyProof.Rows
section
theorem wb:∀{vs:List Value}{a:List Int},IntsAre vs a->Vals (a.map V.int) vs
 |_,_,.nil=>.nil
 |_,_,.cons n t h=>.cons (t,rfl) (wb h)
def Sf(H:Hp):Prop:=∀b,H b=none\/∃o xs,H b=some (.AJ o (.lst xs))
theorem Ii{P:Program}{w:World}{K:W.Frag}{l L:Str->Option Value}{CX:HK}{k:Nat}{m a:Addr}{n:FuncData}{x:Str}{sp:Sp}{c:Shared}{vs:List Value}{p:List Int}
  (X:K.In c.heap) (t:c.heap.Ns mainGlobals l) (g:c.heap.Ns builtinsNs L) (M:∀x:Str,x≠"__name__"->L x=bootBuiltins x) (N:c.heap.NoLimit) (hg:c.gens=#[])
  (J:c.heap.get? a=some {cls:=.type "list",data:=.seq vs.toArray}) (Y:IntsAre vs p) (Z:p.length<=sizeLine) (hr:eQ k callerA)
  (F:∀base:Heap,K.In base->base.Ns mainGlobals l->j7 P w K l base CX k m n [x] sp) (Xa:∀(s:Shared) (u:Value),BindsTo s n ([u],[]) [((x),u)])
  (Ma:∀H:Hp,Sf H->aV K H a (p.map V.int)->sp [.ref a] H (λv _=>v=.bl true) λ_ _ _=>False)
  (O:∀H e s',CX [] H c (λ_ _ _=>False) e s'->False):
  codeAny (model P w) callerA (.call (.ref m) ([.ref a],[])) (λr s'=>r=.ok (.ret (.bool true))/\OldK c.heap s'.heap/\s'.os=c.os/\AllBare s'.gens) c:=by
 have rv:=wb Y;have R:=Y.length;have j:∀H:Hp,Sf H->aV K H a (p.map V.int)->mS P w H c.heap->(∀b,H b≠none->b=a)->(H a≠none->K.lookup a=none)->
   codeAny (model P w) callerA (.call (.ref m) ([.ref a],[])) (λr s'=>r=.ok (.ret (.bool true))/\OldK c.heap s'.heap/\s'.os=c.os/\AllBare s'.gens) c:=by
  intro H hO hS aW hA hK;have Dd:∀{b:Addr} {o:Obj},c.heap.get? b=some o->H b=none->(xq c.heap H).get? b=some o:=λe n=>Hf e n;have WU:∀{b:Addr} {o:Obj} {y:Array DictEntry} {B:Nat},c.heap.get? b=some o->o.data=.dict y B->H b=none:=λ{b o y B} e d=>by
   cases q:H b with
   |none=>rfl
   |some u=>
    have S:b=a:=hA b (by rw[q];simp);subst S;rw[J]at e;cases e;have d':Data.seq vs.toArray _=Data.dict y B:=d
    cases d'
  have i:∀{b:Addr} {m:Str->Option Value},c.heap.Ns b m->(xq c.heap H).Ns b m:=λ{b m} (o,y,B,e,d,r)=>(o,y,B,Dd e (WU e d),d,r)
  have C:K.In (xq c.heap H):=λb o e=>Dd (X b o e) (by
   cases q:H b with
   |none=>rfl
   |some u=>
    have S:b=a:=hA b (by rw[q];simp);subst S;rw[hK (by rw[q];simp)] at e;cases e)
  have d:Mod K l (xq c.heap H):=(C,i t,(L,i g,M),let ⟨k,m,n⟩:=N;(k,i m,n))
  have k:Bl P w K l (xq c.heap H) callerA [] c H:=(rfl,d,λb o e=>MK e,Nat.le_of_eq (EK _ _),trivial,λb g=>absurd (show b∈([]:List Addr) from g) nofun,aW,.of_eq hg)
  refine codeAny_mono ((F _ C (i t)).run callerA [] c H ([.ref a],[]) [.ref a] [.ref a] _ _ hr k (Xa c (.ref a)) (.cons rfl .nil) (Ma H hO hS)) λr s' h=>?_
  cases r with
  |error e=>calc(O H e s' h).elim
  |ok fl=>
   cases fl with
   |next=>calc aa3 h
   |brk=>calc aa3 h
   |cont=>calc aa3 h
   |ret u=>
    let(v,c,os,G,un,T,r',q):=h;have q':v=.bl true:=q;subst q';obtain rfl:u=Value.bool true:=r';refine(rfl,OldK.of_keep λb o e=>?_,os,G)
    cases q:H b with
    |none=>calc un.keep b o e q (by intro z;calc absurd (show b∈([]:List Addr) from z) nofun) nofun
    |some u=>
     rcases hO b with z|⟨ob,c,z⟩
     ·rw[q]at z;cases z
     ·have z2:=un.u7 b ob _ z;let(e1,_):=aW b _ z;let(e2,_):=T b _ z2;rw[e]at e1;cases e1;exact e2
 cases U:K.lookup a with
 |some o=>
  have e:=X a o U;rw[J]at e
  cases e;calc j (λ_=>none) (λ_=>.inl rfl) (.inr (_,vs.toArray,_,U,rfl,rfl,rfl,by rw[aaG,R];calc Z,by simpa using rv)) (λb u z=>by have I:(none:Option HO)=some u:=z;cases I) (λb z=>absurd rfl z) λz=>absurd rfl z
 |none=>
  refine j (λb=>if b=a then some (.AJ {cls:=.type "list",data:=.seq vs.toArray} (.lst (p.map V.int))) else none) (λb=>?_) (.inl (.inr ({cls:=.type "list",data:=.seq vs.toArray},if_pos rfl))) (λb u z=>?_) (λb z=>?_) λ_=>U
  ·by_cases g:b=a
   ·exact .inr (_,_,if_pos g)
   ·exact .inl (if_neg g)
  ·by_cases g:b=a
   ·have I:=(if_pos g).symm.trans z
    cases I;subst g;exact(J,by rw[aau];calc Z,vs,_,rv,J)
   ·have I:=(if_neg g).symm.trans z
    cases I
  ·by_cases g:b=a
   ·exact g
   ·calc absurd (if_neg g) z
end
section
theorem Nh{l:W.OpenLaw}{n k:Nat}{q:Program}{c:List Str}{r:(Str->Option Value)->Heap->Prop}{o:World->Heap->Prop}{d:DefRec}{K:Params->W.Frag}{CX:World->HK}{sp:World->Sp}{x:Str}
  (t:l.most=some n) (m:n<=sizeLine) (y:d.params.defaults=[]) (z:eQ k callerA)
  (A:∀(w:World) (h:Heap),o w h->(K w.params).In h)
  (F:∀(w:World) (i:Str->Option Value) (j:Addr) (h:Heap),(K w.params).In h->h.Ns mainGlobals i->i d.name=some (.ref j)->
   ∃p:FuncData,(∀(s:Shared) (u:Value),BindsTo s p ([u],[]) [((x),u)])/\
    ∀base:Heap,(K w.params).In base->base.Ns mainGlobals i->j7 l.prog w (K w.params) i base (CX w) k j p [x] (sp w))
  (u:∀(w:World) (H:Hp) (a:Addr) (h:List Int),h.length<=n->Sf H->aV (K w.params) H a (h.map V.int)->sp w [.ref a] H (λv _=>v=.bl true) λ_ _ _=>False)
  (k:∀(w:World) (H:Hp) (s:Shared) (e:Value) (s':Shared),CX w [] H s (λ_ _ _=>False) e s'->False):
  W.WalkO q c r o l.row.toRowW d [] (λf vs=>PySem.call f vs):=by
 calc Att.y0 t y λw l f i v j o x B n a vs h G Y C D E q r d c s=>?_;have l:=A w _ Y;let(p,n,o):=F w i j _ l G.T.g q;calc Ii l G.T.g G.T.b G.T.builtins G.T.nolimit s r d (aaS c m) z o n (λH p t=>u w H a h c p t) λH e s'=>k w H f e s'
end
section
variable {f:Addr}{st:Stmt}{qual:Str}
noncomputable def eY(s:Stmt):Arguments:=match s with
 | .FunctionDef _ a _ _ _ _ _ _ _ _=>a
 |_=>{posonlyargs:=[],args:=[],vararg:=none,kwonlyargs:=[],kw_defaults:=[],kwarg:=none,defaults:=[]}
noncomputable def cO(s:Stmt):List Stmt:=match s with
 | .FunctionDef _ _ b _ _ _ _ _ _ _=>b
 |_=>[]
noncomputable def az(s:Stmt):Scope:=match s with
 | .FunctionDef _ _ _ _ _ _ sc _ _ _=>sc
 |_=>{kind:=.function,names:=[],isGenerator:=false,isCoroutine:=false}
abbrev Fb:HK:=λ_ _ _ _ _ _=>False
abbrev E0:XK:=λ_ _ _=>False
theorem De{X:Cx}:Passes Fb X E0:=λ_ _ _ _ _ _ _ h=>h.elim
structure Ij(K:W.Frag)(x qual:Str)(st:Stmt)(f:Addr)(fd:FuncData):Prop where
 ex:∃(oc:Value) (od:Option Addr) (kV doc pm:Value) (an:Option Addr) (fF ct:Value) (M0:Array (Option Value)),
  fd=W.fnOf x qual (eY st) (cO st) (az st) .none kV doc pm an fF ct/\K.lookup f=some (oc,od,.func fd,M0)/\W.codeIn K fF qual=true
 kp:W.keepIn K (.ref f)=true
section
variable {P:Program}{w:World}{K:W.Frag}{mg:Str->Option Value}{base:Heap}
theorem Ij.ok{x:Str}{d:FuncData}{N b:List Str}{k:Nat}{sp:Sp}(F:Ij K x qual st f d)(S:aE N b (az st))(c:∀vs H Q E,sp vs H Q E->vs.length=b.length)
  (e:∀(a:Value) (A:Around) (outer:List Env) (s:Shared) (H:Hp) (vs:List V) (Q:VK) (E:XK),eQ k (A.deeper (envOfC qual (az st) s.heap.objs.size f a))->sp vs H Q E->
   ∃t,u9 (lj Fb P w K mg base N qual (az st) f a A outer s H E).GI (cO st) t/\t {nx:=λ_ g=>Q .bG g,rt:=Q} (start N vs) H):j7 P w K mg base Fb (k + 1) f d b sp:=by
 let(i,j,kV,h,l,m,a,n,o,rfl,b,d):=F.ex;calc Pp b d S c λA outer s H vs Q E g i=>?_;let(t,h,q):=e a A outer s H vs Q E g i;calc(t,h.GI,q)
theorem Ij.binds{x:Str}{g:FuncData}{b:List Str}(F:Ij K x qual st f g)
  (h:∀(kV a c:Value) (d:Option Addr) (e ct:Value) (us:List Value),us.length=b.length->bindArgs (W.fnOf x qual (eY st) (cO st) (az st) .none kV a c d e ct) (us,[])=pure (b.zip us)):Binds K g b []:=by
 let(i,j,kV,a,c,d,e,ct,k,rfl,b,g):=F.ex;calc .all (h kV a c d e ct)
theorem ng{x:Str}{g:Value}{od d:Option Addr}{h:Array (Option Value)}{kV a e b ct:Value}(l:K.lookup f=some (g,od,.func (W.fnOf x qual (eY st) (cO st) (az st) .none kV a e d b ct),h))
  (c:W.codeIn K b qual=true) (k:W.keepIn K (.ref f)=true):Ij K x qual st f (W.fnOf x qual (eY st) (cO st) (az st) .none kV a e d b ct):=((g,od,kV,a,e,d,b,ct,h,rfl,l,c),k)
end
theorem aG{n:Nat}(h:n<=1000):n<sizeLine:=aby h ∅
section
variable {X:Cx}
theorem pv(i:Nat){x:Str}{pos:Pos}(a:X.N[i]?=some x:=by rfl)(b:Wy X.env.scope x:=by first|calc Or.inl rfl|calc Or.inr (Or.inl rfl)|calc Or.inr (Or.inr rfl))(c:(x==("__debug__":Str))=false:=by decide)
  (d:(x==("__classdict__":Str))=false:=by decide):PE X (.Name x pos) (Hh i):=Hi a b c d
end
def av(H a:Hp):Prop:=∀b o,H b=some o->a b=some o
theorem av.refl(H:Hp):av H H:=λ_ _ h=>h
theorem av.trans{H c d:Hp}(a:av H c)(b:av c d):av H d:=λc o h=>b c o (a c o h)
theorem av.free{H a:Hp}(e:av H a){l:Addr}(h:a l=Option.none):H l=Option.none:=by
 cases q:H l with
 |none=>rfl
 |some o=>
  rw[e l o q]at h
  cases h
theorem av.seq{K:W.Frag}{H b:Hp}{a:Addr}{xs:List V}(e:av H b)(h:aV K H a xs):aV K b a xs:=by
 rcases h with(h|⟨o,h⟩)|h
 ·exact .inl (.inl (e _ _ h))
 ·exact .inl (.inr (o,e _ _ h))
 ·calc .inr h
end
end L2
set_option maxHeartbeats 4000000
namespace L2
open PySem PySem.Spec PyProof.Rows
section
variable {X:Cx}{H H₂:Hp}{pins:List (Addr×Obj)}{s:Shared}{σ:St}
noncomputable def lp(env:Env):List (Str×NameKind)->List (Str×Addr)->List (Str×Addr)
 | [],cs=>cs
 |(n,k)::r,cs=>lp env r (if k == .free then((n),(env.cells.lookup n).getD 0)::cs else cs)
theorem y6{env:Env}{x:Str}{c:Addr}:∀{l:List (Str×NameKind)}{cs:List (Str×Addr)},((x),c)∈lp env l cs->((x),c)∈cs\/(((x),NameKind.free)∈l/\c=(env.cells.lookup x).getD 0)
 | [],cs,h=>.inl h
 |(n,k)::r,cs,h=>by
  unfold lp at h;rcases y6 h with a|⟨a,g⟩
  ·by_cases b:(k == NameKind.free)=true
   ·rw[if_pos b] at a;have i:k=.free:=by simpa using b
    rcases List.mem_cons.mp a with e|e
    ·have d:=congrArg Prod.fst e;have f:=congrArg Prod.snd e;simp only at d f;subst d i;exact .inr (aaY,f)
    ·exact .inl e
   ·rw[if_neg b]at a;exact .inl a
  ·calc .inr (aaD _ a,g)
theorem wc{env:Env}{p:Str×Addr}:∀{l:List (Str×NameKind)}{cs:List (Str×Addr)},p∈cs->p∈lp env l cs
 | [],_,h=>h
 |(n,k)::r,cs,h=>by
  unfold lp;calc wc ?_;split
  ·exact aaD _ h
  ·calc h
theorem tq{env:Env}{x:Str}:∀{l:List (Str×NameKind)}{cs:List (Str×Addr)},((x),NameKind.free)∈l->((x),(env.cells.lookup x).getD 0)∈lp env l cs
 | [],_,h=>by simp at h
 |(n,k)::r,cs,h=>by
  unfold lp;rcases List.mem_cons.mp h with e|e
  ·have a:=congrArg Prod.fst e;have b:=congrArg Prod.snd e;simp only at a b;subst a b;calc wc ?_;rw[if_pos nofun];exact aaY
  ·calc tq e
theorem fG{β:Type}:∀{l:List (Str×β)}{x:Str}{c:β},((x),c)∈l->∃d,l.lookup x=some d
 | [],_,_,h=>by simp at h
 |(n,b)::r,x,c,h=>by
  by_cases e:x=n
  ·subst e;exact(b,nofun)
  ·have a:(x == n)=false:=beq_eq_false_iff_ne.mpr e;rcases List.mem_cons.mp h with q | q
   ·exact absurd (congrArg Prod.fst q) e
   ·let(d,b):=fG q;calc(d,by simp only[List.lookup_cons,a];calc b)
theorem mX{scope:Scope}{env:Env}(h:∀x∈scope.names,x.2=.free->∃c,env.cells.lookup x.1=some c):closureFor scope env=pure (lp env scope.names []):=by
 unfold closureFor;have b:∀(l:List (Str×NameKind)) (a:List (Str×Addr)),(∀x ∈ l,x.2=.free->∃c,env.cells.lookup x.1=some c)->
   ((forIn l a λ(x:Str×NameKind) (r:List (Str×Addr))=>if (x.2==NameKind.free)=true then do let y <-cellOf env x.1;pure (ForInStep.yield (((x.1),y)::r)) else pure (ForInStep.yield r)):Sem (List (Str×Addr)))=pure (lp env l a):=by
  intro l;induction l with
  |nil=>intro a _;rfl
  |cons p r f=>
   intro a d;let(n,k):=p;rw[List.forIn_cons];dsimp only;by_cases a:(k==NameKind.free)=true
   ·let(c,g):=d ((n),k) aaY (by simpa using a);have e:cellOf env n=pure c:=by unfold cellOf;rw[g]
    rw[if_pos a,e,pure_bind,pure_bind];dsimp only;rw[f _ λx c=>d x (aaD _ c)];show _=pure (lp env r _);rw[if_pos a,g];rfl
   ·rw[if_neg a,pure_bind];dsimp only;rw[f _ λx c=>d x (aaD _ c)];show _=pure (lp env r _);rw[if_neg a]
 have:=b scope.names [] h;simp only at this ⊢;rw[this,pure_bind]
noncomputable def Df(a:List Expr)(env:Env):Sem Bool:=forIn a true λc r=>if r=true then do let ok <-isTrue c env (eval c env);pure (ForInStep.yield ok) else pure (ForInStep.yield r)
def Vr(X:Cx)(a:List Expr)(t:TT):Prop:=
 ∀(pins:List (Addr×Obj)) (s:Shared) (σ:St) (H:Hp) (Q:Bool->Hp->Prop),Inv X pins σ H s->t σ H Q->wpAny (model X.prog X.w) X.A (Df a X.env) (TP X pins σ Q) X.xe s
def jc:TT:=λ_ H Q=>Q true H
theorem Ni:Vr X [] jc:=λ_ _ _ H _ I h=>K' (H,I,h)
theorem mE{c:Expr}{t:TT}(h:PT X c t):Vr X [c] t:=λpins s σ H Q I a=>wpAny_tests_one (h pins s σ H Q I a)
section
variable {prog:Program}{w:World}{A:Around}{R:Result->Shared->Prop}{s:Shared}
theorem xJ{o a e:Expr}{p:List Expr}{scope:Scope}{pos:Pos}{u q:Value}{env:Env}(I:Nat->Shared->Prop)
  (t:∀n s,I n s->wpAny (model prog w) A (pyNext u) (λr b=>match r with
   |none=>R (.ok .next) b
   | some v=>wpAny (model prog w) A (letOwnedTupleGo a u v) (λ_ f=>wpAny (model prog w) A (assign a env v) (λ_ g=>
     wpAny (model prog w) A (Df p env) (λok c=>
      if ok=true then wpAny (model prog w) A (eval o env) (λx i=>
       wpAny (model prog w) A (call (.builtin "list.append") [q,x]) (λ_ j=>∃m,m < n/\I m j) (λ_ _=>False) i) (λ_ _=>False) c
      else ∃m,m < n/\I m c) (λ_ _=>False) g) (λ_ _=>False) f) (λ_ _=>False) b) (λ_ _=>False) s)
  (n:Nat) (h:I n s):
  codeAny (model prog w) A (.compLoop (.ListComp o [(a,e,p,0)] scope pos) 0 u q env) R s:=by
 calc codeAny_loop rfl I (λn s m=>?_) n h;show wpAny _ A ((compTurn (.ListComp o [(a,e,p,0)] scope pos) 0 u q env).onRaise (λx=>do noteFrame x env;theTreesLotGoes x)) _ _ s;calc wpAny_noted ?_;rw[compTurn_list];refine j' (wpAny_standAt (j' (aa2 (t n s m) (λr b k=>?_) λ_ _ d=>d.elim)))
 cases r with
 |none=>calc K' k
 |some v=>
  calc j' (aa2 k (λ_ f a=>?_) λ_ _ d=>d.elim);refine j' (aa2 a (λ_ g b=>j' (aa2 b (λok c l=>?_) λ_ _ d=>d.elim)) λ_ _ d=>d.elim)
  cases ok with
  |false=>calc K' (rfl,l)
  |true=>
   calc j' (j' (aa2 l (λx i a=>j' (aa2 a (λ_ j b=>K' (K' (rfl,b))) λ_ _ d=>d.elim)) λ_ _ d=>d.elim))
end
noncomputable def Fc(N N':List Str)(ix:List (Option Nat))(scope:Scope):Bool:=
 N'.length==ix.length&&(N'.zip ix).all λp=>match p.2 with|none=>true|some j=>N[j]? == some p.1&&scope.names.lookup p.1==some .free
noncomputable def vf(ix:List (Option Nat))(σ:St):St:=ix.map λo=>match o with|none=>none|some j=>(σ[j]?).join
noncomputable def freeOk(scope:Scope)(outer:Scope):Bool:=
 scope.names.all λx=>(x.2 != .cell||scope.names.lookup x.1==some .cell)&&(x.2 != .free||(outer.names.lookup x.1==some .cell||outer.names.lookup x.1==some .free))&&(x.2 != .local||scope.names.lookup x.1==some .local)&&(x.2 != .free||scope.names.lookup x.1==some .free)
noncomputable def Vs(env:Env)(names:List (Str×NameKind))(C:Addr):List (Str×Addr):=cellsFrom (C+1) names (lp env names [])
theorem mF:∀(names:List (Str×NameKind)) (n:Nat) (a:List (Str×Addr)),cellsFrom n names a=cellsFrom n names []++a
 | [],_,_=>rfl
 |(x,k)::r,n,a=>by
  unfold cellsFrom;split
  ·rw[mF r (n+1) (((x),n)::a),mF r (n+1) [((x),n)],List.append_assoc];rfl
  ·calc mF r n a
theorem tw{x:Str}{c:Addr}:∀{names:List (Str×NameKind)}{n:Nat}{a:List (Str×Addr)},((x),c)∈cellsFrom n names a->((x),c)∈a\/((x),NameKind.cell)∈names
 | [],_,_,h=>.inl h
 |(y,k)::r,n,a,h=>by
  unfold cellsFrom at h;split at h
  ·next b=>
   rcases tw h with h|h
   ·rcases List.mem_cons.mp h with e | e
    ·cases e;exact .inr (by rw[show k=.cell by simpa using b];calc aaY)
    ·exact .inl e
   ·exact .inr (aaD _ h)
  ·rcases tw h with h | h
   ·exact .inl h
   ·calc .inr (aaD _ h)
theorem tD{β:Type}{x:Str}{a:List (Str×β)}:∀{l:List (Str×β)},(l++a).lookup x=(l.lookup x).or (a.lookup x)
 | []=>rfl
 |(n,b)::r=>by
  rw[List.cons_append,List.lookup_cons,List.lookup_cons]
  cases x==n with
  |true=>rfl
  |false=>calc tD
theorem Ik{env:Env}{names:List (Str×NameKind)}{C:Addr}{x:Str}:(Vs env names C).lookup x=((cellsFrom (C+1) names []).lookup x).or ((lp env names []).lookup x):=by
 unfold Vs;rw[mF,tD]
noncomputable def Vt(X:Cx)(scope:Scope)(C:Addr)(N':List Str)(a:Shared)(H₂:Hp)(b:List Addr):Cx:=
 {X with N:=N',s₀:=a,H₀:=H₂,env:=compEnvC scope (Vs X.env scope.names C) C X.env,outer:=X.stack,stack:=X.stack,ex:=b,fn:=λx=>scope.names.lookup x==some .cell,pn:=[],xe:=λ_ _=>False}
theorem freeOk.at{scope outer:Scope}(h:freeOk scope outer=true){x:Str×NameKind}(e:x∈scope.names):(x.2=.cell->scope.names.lookup x.1=some .cell)/\(x.2=.free->outer.names.lookup x.1=some .cell\/outer.names.lookup x.1=some .free)/\(x.2=.local->scope.names.lookup x.1=some .local)/\(x.2=.free->scope.names.lookup x.1=some .free):=by
 have f:=List.all_eq_true.mp h x e;simp only[Bool.and_eq_true,Bool.or_eq_true,bne_iff_ne,ne_eq,beq_iff_eq]at f;let(((a,b),c),d):=f;calc(λe=>a.resolve_left λz=>z e,λe=>b.resolve_left λz=>z e,λe=>c.resolve_left λz=>z e,λe=>d.resolve_left λz=>z e)
theorem fe{scope:Scope}{env:Env}:∀{names:List (Str×NameKind)}{x:Str}{k:NameKind},
  (names.map λ(n,k)=>if (k==NameKind.free&&env.scope.kind == .function&&env.kindOf n==some .cell) then((n),NameKind.cell) else((n),k)).lookup x=some k->∃a,((x),a)∈names/\(k=a\/(k=.cell/\a=.free))
 | [],_,_,h=>by simp at h
 |(n,c)::r,x,k,h=>by
  rw[aaU]at h;by_cases d:(c==NameKind.free&&env.scope.kind == .function&&env.kindOf n==some .cell)=true
  ·simp only[d,if_true] at h
   cases b:x==n with
   |true=>
    simp only[List.lookup_cons,b]at h;have e:x=n:=by simpa using b
    subst e;have g:c=.free:=by
     simp only[Bool.and_eq_true,beq_iff_eq]at d;exact d.1.1
    calc(c,aaY,.inr ((Option.some.inj h).symm,g))
   |false=>
    simp only[List.lookup_cons,b]at h;let(a,m,q):=fe (scope:=scope) (env:=env) h;exact(a,aaD _ m,q)
  ·dsimp only at h;rw[if_neg d] at h
   cases b:x==n with
   |true=>
    simp only[List.lookup_cons,b]at h;have e:x=n:=by simpa using b
    subst e;calc(c,aaY,.inl (Option.some.inj h).symm)
   |false=>
    simp only[List.lookup_cons,b]at h;let(a,m,q):=fe (scope:=scope) (env:=env) h;calc(a,aaD _ m,q)
section
variable {X:Cx}{scope:Scope}{C:Addr}{N':List Str}{s₂:Shared}{H₂:Hp}{fp:List Addr}{pins:List (Addr×Obj)}{σ:St}
theorem y7(I:Inv X pins σ H₂ s₂)(d:freeOk scope X.env.scope=true){x:Str}{c:Addr}(h:(lp X.env scope.names []).lookup x=some c):X.env.cells.lookup x=some c/\((x),NameKind.free)∈scope.names:=by
 rcases y6 (aaR h) with z|⟨a,b⟩
 ·simp at z
 ·have q:=(d |> λh=>freeOk.at h a).2.1 rfl;let(c,e):=I.ok.has x q;rw[e]at b;calc(by rw[e,b];rfl,a)
theorem Il(a:freeOk scope X.env.scope=true){x:Str}(h:scope.names.lookup x=some .free){n:Nat}:(cellsFrom n scope.names []).lookup x=none:=by
 cases e:(cellsFrom n scope.names []).lookup x with
 |none=>rfl
 |some c=>
  rcases tw (aaR e) with z|z
  ·cases z
  ·have:=(freeOk.at a z).1 rfl;rw[h]at this;cases this
theorem mG(I:Inv X pins σ H₂ s₂)(a:freeOk scope X.env.scope=true){x:Str}{c:Addr}(h:(Vs X.env scope.names C).lookup x=some c):(X.env.cells.lookup x=some c/\ @LT.lt Nat _ c s₂.heap.objs.size/\(cellsFrom (C+1) scope.names []).lookup x=none)\/(cellsFrom (C+1) scope.names []).lookup x=some c:=by
 rw[Ik]at h
 cases e:(cellsFrom (C+1) scope.names []).lookup x with
 |some d=>rw[e]at h;calc .inr h
 |none=>
  rw[e]at h;have q:=(y7 I a h).1;calc .inl (q,let ⟨_,z⟩:=I.cell x c q;z.lt,rfl)
theorem Sg{g:Heap}(i:CellsOk g (C+1) (cellsFrom (C+1) scope.names []))(I:Inv X pins σ H₂ s₂)(j:freeOk scope X.env.scope=true)(E:scope.kind=.function)(v:s₂.heap.objs.size<=C)(k:∀b∈fp,pU X pins H₂ b)(F:∀b∈fp,∃o,s₂.heap.get? b=some o):(Vt X scope C N' s₂ H₂ fp).Ok where
 mod:=I.ok.mod
 kind:=E
 glob:=I.ok.glob
 blt:=I.ok.blt
 above:=v
 inj:=λx y c l p=>by
  rcases mG I j l with⟨a,H,_⟩|a<;>rcases mG I j p with⟨b,g,_⟩|b
  ·exact I.ok.inj x y c a b
  ·have:=(i.empty y c (aaR b)).2;lia
  ·have:=(i.empty x c (aaR a)).2;lia
  ·exact PySem.name_of_addr i.apart (aaR a) (aaR b)
 has:=λx h=>by
  have h:(relabel scope X.env).names.lookup x=some .cell\/(relabel scope X.env).names.lookup x=some .free:=h;have w:((x),NameKind.free)∈scope.names->((lp X.env scope.names []).lookup x).isSome=true:=λm=>let ⟨d,e⟩:=fG (tq (env:=X.env) (cs:=[]) m);by rw[e];rfl
  calc Option.isSome_iff_exists.mp (W.cellsFrom_some scope.names (C+1) (lp X.env scope.names []) ?_);rcases h with h|h
  ·let(G,m,q):=fe (scope:=scope) h;rcases q with q | ⟨_,q⟩
   ·subst q;exact .inl ((freeOk.at j m).1 rfl)
   ·subst q;exact .inr (w m)
  ·let(G,m,q):=fe (scope:=scope) h;rcases q with q | ⟨q,_⟩
   ·subst q;exact .inr (w m)
   ·cases q
 Rl:=λx c l p=>by
  rcases mG I j p with⟨_,_,a⟩|a
  ·let(d,e):=sV (sc:=scope) (n:=C+1) (x:=x) (by simpa[Vt] using l);rw[e]at a;cases a
  ·have:=(i.empty x c (aaR a)).2;show s₂.heap.objs.size<=c;lia
 hd:=I.ok.hd
 frames:=I.ok.frames
 Vl:=.inl rfl
 Wz:=λb f=>by
  let(o,A):=F b f;let(B,r,s,t,u,D):=k b f;calc(aaN (W' (V' A) v),λx c h=>?_);rcases mG I j h with⟨a,_⟩|a
  ·exact u x c a
  ·have:=(i.empty x c (aaR a)).2;have: @LT.lt Nat _ b _:=V' A;exact abk ()
 bs:=I.bs
 GH:=aaS I.ok.GH I.sz
 yL:=λb o e f=>by
  let(B,r,s,t,u,D):=k b f;rcases t with z|z
  ·exact I.ok.yL b o e z
  ·exact absurd (W' (W' (V' e) I.ok.GH) z) (abq _)
 A7:=λb f z=>by
  let(B,r,s,t,u,D):=k b f;rcases List.mem_cons.mp (I.xt b z) with e|e
  ·exact r e
  ·exact s e
 oH:=I.stack
 ML:=I.r9
end
theorem Inv.less{a:St}(I:Inv X pins σ H s)(b:a.length=σ.length)(h:∀(i:Nat) (v:V),a[i]?=some (some v)->σ[i]?=some (some v)):Inv X pins a H s:=
 (I.ok,I.os,I.bare,I.base,(let ⟨m,a,c⟩:=I.loc;(m,a,λi x v d e f=>c i x v d (h i v e) f)),I.cell,I.free,I.i8,I.pin,I.aW,b.trans I.len)
def Ext(σ a:St):Prop:=a.length=σ.length/\∀(i:Nat) (v:V),σ[i]?=some (some v)->a[i]?=some (some v)
theorem Ext.refl(σ:St):Ext σ σ:=(rfl,λ_ _ h=>h)
theorem Ext.set{a:St}(h:Ext σ a){j:Nat}{w:Option V}(b:σ[j]?=some none):Ext σ (a.set j w):=by
 calc(by rw[List.length_set];calc h.1,λi v e=>?_);have c:j≠i:=by rintro rfl;rw[b]at e;cases e
 rw[abA c];calc h.2 i v e
theorem Nj(ix:List (Option Nat))(σ:St):(vf ix σ).length=ix.length:=by unfold vf;rw[aau]
section
variable {X:Cx}{scope:Scope}{N':List Str}{ix:List (Option Nat)}{s₂ s₄:Shared}{H₂:Hp}{fp:List Addr}{pins:List (Addr×Obj)}{σ:St}{C D:Addr}{h₄:Heap}
theorem acK(I:Inv X pins σ H₂ s₂)(k:freeOk scope X.env.scope=true)(p:scope.kind=.function)(M:Fc X.N N' ix scope=true)(y:∀b∈fp,pU X pins H₂ b)(T:∀b∈fp,∃o,s₂.heap.get? b=some o)
  (n:s₂.heap.objs.size<=D) (F: @LT.lt Nat _ D C) (G:CellsOk h₄ (C+1) (cellsFrom (C+1) scope.names [])) (U:h₄.Ns C (λ_=>none)) (t:∀b o,s₂.heap.get? b=some o->h₄.get? b=some o)
  (W:h₄.get? D=some {cls:=.type "list",data:=.seq ([]:List Value).toArray 0}) (t':Nat):
  Inv (Vt X scope C N' s₂ H₂ fp) [] (vf ix σ) (upd H₂ D (.lst [])) {s₂ with heap:=h₄,toks:=t'}:=by
 have b:H₂ D=none:=I.aW.fresh n;have J:s₂.heap.objs.size<=C:=aaS n (U' F);have Y:H₂ C=none:=I.aW.fresh J;have Z:mS X.prog X.w (upd H₂ D (.lst [])) h₄:=I.aW.laid t n (aaO _,[],0,.nil,W);refine(Sg G I k p J y T,rfl,I.bare,Un.laid t n b,(_,U,λi x v m l e3=>?_),λx c e=>?_,?_,λx c e=>?_,λp b=>absurd (show p∈([]:List (Addr×Obj)) from b) nofun,Z,?_)
 ·have g:=M;unfold Fc at g;rw[aa9] at g;have b:N'.length=ix.length:=by simpa using g.1
  have b:i<N'.length:=(List.getElem?_eq_some_iff.mp m).1;unfold vf at l;rw[J']at l
  cases q:ix[i]? with
  |none=>rw[q]at l;cases l
  |some o=>
   rw[q]at l
   cases o with
   |none=>cases l
   |some j=>
    have o:((x),some j)∈N'.zip ix:=by
     calc aaT (i:=i) ?_;rw[List.getElem?_zip_eq_some];exact(m,q)
    have b:=List.all_eq_true.mp g.2 _ o;simp only[Bool.and_eq_true,beq_iff_eq]at b;let(K,L):=b;have d:(σ[j]?).join=some v:=by simpa using l
    have e4:σ[j]?=some (some v):=by
     cases z:σ[j]? with
     |none=>rw[z]at d;cases d
     |some y=>rw[z]at d;exact congrArg some d
    have O:((x),NameKind.free)∈scope.names:=aaR L;have P:=(freeOk.at k O).2.1 rfl;let(m,b,hv):=I.loc;let(u,ru,lk):=hv j x v K e4 (by rcases P with z|z;calc .inr (.inl z);calc .inr (.inr z));refine(u,ru,.inr (?_,?_))
    ·rcases e3 with z | z | z
     ·let(b,m',r):=fe (scope:=scope) (env:=X.env) (show(relabel scope X.env).names.lookup x=some .local from z);rcases r with r | ⟨r,_⟩
      ·subst r;have:=(freeOk.at k m').2.2.1 rfl;rw[L]at this;cases this
      ·cases r
     ·exact .inl z
     ·exact .inr z
    ·rcases lk with⟨B,_⟩ | ⟨_,c,l2,l3⟩
     ·have B:X.env.scope.names.lookup x=some .local:=B;rcases P with z | z
      ·rw[B]at z;cases z
      ·rw[B]at z;cases z
     ·let(b,R):=fG (tq (env:=X.env) (cs:=[]) O);have S:=(y7 I k R).1;rw[l2]at S;have e7:c=b:=Option.some.inj S;subst e7;exact(c,by show(Vs X.env scope.names C).lookup x=some c;rw[Ik,Il k L];calc R,l3.keeps t)
 ·rcases mG I k e with⟨a,_⟩ | a
  ·let(v,z):=I.cell x c a;exact(v,z.keeps t)
  ·exact(_,(G.empty x c (aaR a)).1)
 ·show upd H₂ D (.lst []) C=none;rw[ay (abk F)];exact Y
 ·show upd H₂ D (.lst []) c=none;rcases mG I k e with⟨a,z,_⟩ | a
  ·rw[ay (aaN (W' z n))];exact I.i8 x c a
  ·have b: @LT.lt Nat _ C c:=(G.empty x c (aaR a)).2;rw[ay (abk (Nat.lt_trans F b))];exact I.aW.fresh (aaS J (U' b))
 ·rw[Nj];have g:=M;unfold Fc at g;rw[aa9] at g;have:N'.length=ix.length:=by simpa using g.1
  calc this.symm
end
theorem By{M:Model}{A:Around}{E:Value->Shared->Prop}{scope:Scope}{g:Addr}{d:List (Str×Addr)}{qual:Str}{env:Env}{Q:Env->Shared->Prop}
  (f:∀a,a.Ns s.heap.objs.size (λ_=>none)->(∀b o,s.heap.get? b=some o->a.get? b=some o)->CellsOk a (s.heap.objs.size + 1) (cellsFrom (s.heap.objs.size + 1) scope.names [])->
   Q {scope:=scope,locals:=s.heap.objs.size,globals:=g,cells:=cellsFrom (s.heap.objs.size + 1) scope.names d,qual:=qual,func:=none,code:=env.code,frame:=env.frame,builtins:=env.builtins} {s with heap:=a}):
  wpAny M A (newFunctionEnv scope g d [] qual none .none (some env)) Q E s:=by
 simp only[newFunctionEnv,Option.isSome_some,if_true];refine j' (wpAny_alloc ?_);refine j' (wpAny_layCells _ (λa c cells=>by cases a:c==NameKind.cell<;>simp[a]) _ _ _ _ ?_);have d:=cellsFrom_ok scope.names (s.heap.push {cls:=.type "dict",data:=.dict #[]}) (s.heap.objs.size+1) [] (λ_ _ a=>(nomatch a),List.Pairwise.nil) (by rw[aaZ];exact S' _);rw[aaZ]at d;rw[show({s with heap:=s.heap.push {cls:=.type "dict",data:=.dict #[]}}:Shared).heap.objs.size=s.heap.objs.size+1 from aaZ ..];rw[List.forIn_nil];exact j' (K' (K' (f _ ((Heap.Ns.new s.heap (.type "dict")).keeps (pushCells_keeps _ _)) (λb o e=>pushCells_keeps _ _ b o (P' _ e)) d)))
def lu(ix:List (Option Nat))(J:It)(g:TG)(d:TT)(e:TE)(σ:St)(a:Hp)(Q:VK)(D:Addr):Prop:=
 ∃W:Nat->Nat->Hp->Prop,(∃m,W 0 m (upd a D (.lst [])))/\∀i m H,W i m H->
  (J.stop i H/\Q (.ref D) H)\/(J.go i H/\∃N:Hp->Prop,(∀b,N b->∃c,c < m/\W (i + 1) c b)/\∀x b,J.Po i H x b->g x (vf ix σ) b λa f=>Ext (vf ix σ) a/\d a f λb c=>
   if b=true then e a c λy d=>∃a,d D=some (.lst a)/\a.length < sizeLine/\N (upd d D (.lst (a++[y]))) else N c)
def Xd(ix:List (Option Nat))(b:TI)(g:TG)(c:TT)(d:TE):TE:=λσ H Q=>b σ H λJ a=>∀D,a D=none->lu ix J g c d σ a Q D
abbrev vg(X:Cx)(scope:Scope)(N':List Str)(F:Cx->Prop):Prop:=∀(C:Addr) (a:Shared) (H₂:Hp) (b:List Addr),F (Vt X scope C N' a H₂ b)
section
variable {X:Cx}{elt target iter:Expr}{ifs:List Expr}{scope:Scope}{pos:Pos}{N':List Str}{ix:List (Option Nat)}{wi:TI}{g:TG}{tt:TT}{te:TE}
theorem y9{a:Shared}{it:Addr}{l:List Addr}{R:Nat->Heap->Prop}{J:It}{QD:Addr->Hp->Prop}{RR:Value->Addr->Result->Shared->Prop}{E:Value->Shared->Prop}
  (Nl:X.calm=true) (hf:freeOk scope X.env.scope=true) (hk:scope.kind=.function) (hx:Fc X.N N' ix scope=true)
  (hg:vg X scope N' λY=>PG Y target g) (ht:vg X scope N' λY=>Vr Y ifs tt) (he:vg X scope N' λY=>PE Y elt te)
  (I:Inv X pins σ H₂ a) (T:Turn X.prog X.w X.K target J l it R) (st:R 0 a.heap) (Mc:∀b∈l,pU X pins H₂ b)
  (hw:∀D,H₂ D=none->∃W:Nat->Nat->Hp->Prop,(∃m,W 0 m (upd H₂ D (.lst [])))/\∀i m H,W i m H->
   (J.stop i H/\QD D H)\/(J.go i H/\∃N:Hp->Prop,(∀d,N d->∃B,B < m/\W (i + 1) B d)/\∀x d,J.Po i H x d->g x (vf ix σ) d λp C=>Ext (vf ix σ) p/\tt p C λb L=>
    if b=true then te p L λy C=>∃S,C D=some (.lst S)/\S.length < sizeLine/\N (upd C D (.lst (S++[y]))) else N L))
  (hRR:∀(D C:Addr) (s':Shared) (d:Hp) (m:Str->Option Value),a.heap.objs.size<=C->d C=none->C∉yC X.stack->s'.heap.Ns C m->(∃o,s'.heap.get? C=some o/\∀v,o.data≠.cell v)->Inv X pins σ d s'->QD D d->RR (.ref D) C (.ok .next) s'):
  wpAny (model X.prog X.w) X.A (newList []) (λp j=>wpAny (model X.prog X.w) X.A (newFunctionEnv scope X.env.globals (lp X.env scope.names []) [] X.env.qual none .none (some X.env)) (λJ C=>
   codeAny (model X.prog X.w) X.A (.compStart (.ListComp elt [(target,iter,ifs,0)] scope pos) 0 (.ref it) p {J with scope:=relabel scope X.env}) (RR p J.locals) C) E j) E a:=by
 calc aba (By λk Si Nm Dg=>?_);dsimp only at Si Nm Dg ⊢;generalize p:a.heap.push {cls:=.type "list",dict:=none,data:=.seq ([]:List Value).toArray}=P2 at Si Nm Dg ⊢;have C:P2.objs.size=a.heap.objs.size+1:=by rw[<-p,aaZ]
 have J:a.heap.objs.size<P2.objs.size:=by rw[C];exact Nat.lt_succ_self _
 have U:a.heap.objs.size<=P2.objs.size:=by rw[C];exact Nat.le_succ _
 have Z:∀b o,a.heap.get? b=some o->k.get? b=some o:=λb o e=>Nm b o (p▸P' _ e);have N:k.get? a.heap.objs.size=some {cls:=.type "list",data:=.seq ([]:List Value).toArray 0}:=Nm _ _ (p▸aas _ rfl);have C:∀b∈l,∃o,a.heap.get? b=some o:=λb c=>let ⟨o,e,_⟩:=T.obj _ _ st b c;(o,e)
 have p:a.heap.get? P2.objs.size=none:=Heap.get?_none_of_le U;have p:H₂ a.heap.objs.size=none:=I.aW.fresh (S' _);let(W,(m0,w0),turn):=hw a.heap.objs.size p;have fpD:∀b∈l,b≠a.heap.objs.size:=λb c=>let ⟨o,e⟩:=C b c;aaN (V' e)
 have fpC:∀b∈l,b≠P2.objs.size:=λb c=>let ⟨o,e⟩:=C b c;aaN (W' (V' e) U)
 let Y:=Vt X scope P2.objs.size N' a H₂ l
 have hcY:Y.calm=true:=Nl;have I0:Inv Y [] (vf ix σ) (upd H₂ a.heap.objs.size (.lst [])) {a with heap:=k}:=
  acK I hf hk hx Mc C (S' _) J Dg (by simpa using Si) Z N _
 have Rm:P2.objs.size∉yC X.stack:=λz=>by
  rcases List.mem_cons.mp (I.xt _ z) with e|e
  ·exact absurd I.lt (by rw[<-e];calc Nat.not_lt.mpr U)
  ·exact I.Rn U e
 have Bd:∀{d:Hp},(∀b∈l,d b=none)->∀b∈l,pU Y [] d b:=λhn b c=>by
  let(f0,f1,f2,f3,f4,f5):=Mc b c;refine(hn b c,fpC b c,I0.ok.A7 b c,.inl c,(I0.ok.Wz b c).2,λp C=>absurd (show p∈([]:List (Addr×Obj)) from C) nofun)
 have Xf:R 0 k:=T.keep _ _ _ st λb _ o e=>Z b o e;have G:∀j:Shared,j={a with heap:=k}->
   codeAny (model X.prog X.w) X.A (.compLoop (.ListComp elt [(target,iter,ifs,0)] scope pos) 0 (.ref it) (.ref a.heap.objs.size) (compEnvC scope (Vs X.env scope.names P2.objs.size) P2.objs.size X.env))
    (RR (.ref a.heap.objs.size) P2.objs.size) j:=by
  rintro j rfl;calc xJ (λn s'=>∃i d,Inv Y [] (vf ix σ) d s'/\R i s'.heap/\(∀b∈l,d b=none)/\W i n d) ?_ m0 (0,_,I0,Xf,λb c=>by rw[ay (fpD b c)];calc(Mc b c).1,w0);rintro n s3 ⟨i,L,I3,pP,WH,w3⟩;rcases turn i n L w3 with⟨stop,qn⟩|⟨go,Nn,hNn,step⟩
  ·calc cU (T.done Y rfl rfl rfl hcY i [] s3 _ L _ I3 (Bd WH) pP stop) λr s4 q=>?_;let(hr,M):=q;subst hr;let(m,hn,_):=M.loc;refine hRR _ _ s4 L m U M.free Rm hn ?_ ?_ qn
   ·let(o,k,p,j,hd,_):=hn;exact(o,j,λv z=>by rw[hd]at z;cases z)
   ·refine I.Pm (s':=s4) (ch:=l) M.os ?_ M.aW M.bare λb c=>?_
    ·exact M.base
    ·let(f0,f1,f2,f3,f4,f5):=Mc b c;exact(f3,f1,f4,f5)
  ·calc cU (T.item Y rfl rfl rfl hcY i [] s3 _ L _ I3 (Bd WH) pP go) λr s4 q=>?_;let(u,hr,h4):=q;subst hr;calc cU h4 λ_ s5 q=>?_;let(x,r,v,z,C,k,j):=q;have p:=v.pinned (Bd j) (T.obj _ _ k);calc cU (hg _ _ _ _ _ s5 _ r x u _ p z (step x r C)) λ_ I q=>?_;let(F,p,r,j,u):=q;calc cU (ht _ _ _ _ _ I F p _ r u) λok s7 q=>?_;let(H7,I7,q7):=q;have t:∀{O:Shared} {P:Hp} {B:Nat},Inv Y ([]++pV l s5.heap) F P O->B<n->W (i+1) B P->∃m,m<n/\∃i d,Inv Y [] (vf ix σ) d O/\R i O.heap/\(∀b∈l,d b=none)/\W i m d:=λ{O P B} I8 hm w8=>by
    calc(B,hm,i+1,P,(I8.k9).less j.1.symm j.2,T.keep _ _ _ k λb c o e=>(I8.pin ((b),o) (aaW _ (aaW _ (j6 c e)))).1,λb c=>?_,w8);let(o,e,d):=T.obj _ _ k b c;exact(I8.pin ((b),o) (aaW _ (aaW _ (j6 c e)))).2.1
   cases ok with
   |false=>
    rw[if_neg T']at q7 ⊢;let(B,hm,w8):=hNn _ q7;calc t I7 hm w8
   |true=>
    rw[if_pos rfl] at q7 ⊢;calc cU (he _ _ _ _ _ s7 F H7 _ I7 q7) λy O q=>?_;let(b,P,I8,d,S,e,i,j):=q;have k:=(v7 (X:=Y)) (pins:=[]++pV l s5.heap) O F P (.ref a.heap.objs.size) [b] (.ref a.heap.objs.size) [y] (λ_ c=>Nn c) I8 rfl (.cons d .nil)
     (_,S,b,rfl,rfl,e,i,j)
    exact cU k λ_ d (_,c,a,_,b)=>let ⟨B,hm,c⟩:=hNn _ b;t a hm c
 calc codeAny_compStart_list (G _ rfl) (T.self _ 0 _ _ _ Xf (G _ rfl))
theorem Inv.acO{b:Shared}{C:Addr}{h':Heap}(a:Inv X pins σ H₂ b)(I:Inv X pins σ H s)(d:b.heap.objs.size<=C)(f:H C=none)(g:Heap.SameBut C s.heap h'):Inv X pins σ H {s with heap:=h'}:=by
 refine I.turned (t':=s.toks) (λb o h e=>(g.2 b h).trans e) f (abk (W' a.lt d)) (.inr (aaS a.sz d)) (λx c e z=>?_) λp b z=>?_
 ·let(v,q):=a.cell x c e;exact absurd (W' q.lt (by rw[z];calc d)) (abq _)
 ·calc absurd (W' (V' (a.pin p b).1) (by rw[z];calc d)) (abq _)
theorem dR
  (l:PI X target iter wi) (n:vg X scope N' λY=>PG Y target g) (o:vg X scope N' λY=>Vr Y ifs tt) (a:vg X scope N' λY=>PE Y elt te)
  (p:X.calm=true:=by rfl) (f:freeOk scope X.env.scope=true:=by kernel_rfl) (i:scope.kind=.function:=by rfl) (b:Fc X.N N' ix scope=true:=by kernel_rfl) (j:∀x,foldedSetIterable iter X.env x=pure x:=by intro _;rfl):PE X (.ListComp elt [(target,iter,ifs,0)] scope pos) (Xd ix wi g tt te):=by
 walk_at "xc";rw[eval_ListComp];have m:∀x∈scope.names,x.2=.free->∃c,X.env.cells.lookup x.1=some c:=λx b a=>I.ok.has x.1 ((freeOk.at f b).2.1 a);refine wpAny_comprehension_free (use:=none) rfl j (mX m) i (λx b a=>(freeOk.at f b).2.2.1 a) (aa2 (l pins s σ H _ I h) (λm j c=>aa2 c (λl j d=>?_) λ_ _ e=>e) λ_ _ e=>e);let(c,j,l,J,m,e,k,T,r,t,u):=d;subst e;refine y9 (RR:=λc C=>compPost (model X.prog X.w) X.A X.xe none (EP X pins σ Q) c C) (QD:=λD c=>Q (.ref D) c) p f i b n o a k T r t u ?_;intro D C x c m d e y j z l q;exact(m,j,λB v=>(.ref D,c,k.acO l d e v,rfl,q))
theorem gL{i:Nat}{y:Str}{d U:Pos}(hN:X.N.Nodup)(F:X.N[i]?=some y)(hy:Loc X.env.scope y)
  (hi:PI X target iter wi) (hg:vg X scope N' λY=>PG Y target g) (ht:vg X scope N' λY=>Vr Y ifs tt) (j:vg X scope N' λY=>PE Y elt te)
  (G:swapsWith (.ListComp elt [(target,iter,ifs,0)] scope pos) (some (.Name y d)) U.line X.env=pure true:=by rfl)
  (Nl:X.calm=true:=by rfl) (K:freeOk scope X.env.scope=true:=by kernel_rfl) (W:scope.kind=.function:=by rfl) (k:Fc X.N N' ix scope=true:=by kernel_rfl) (hs:∀x,foldedSetIterable iter X.env x=pure x:=by intro _;rfl) (MM:X.fn y=true\/X.env.scope.names.lookup y=some .local:=by grind):
  PS X (.Assign [.Name y d] (.ListComp elt [(target,iter,ifs,0)] scope pos) U) (EN (Xd ix wi g tt te) (gj i)):=by
 walk_at "xd";rw[exec_Assign_Name_used _ _ _ _ G];refine j' (wpAny_standAt (j' ?_));show wpAny _ X.A (do let _ <-comprehension (.ListComp elt [(target,iter,ifs,0)] scope pos) scope X.env _ (newList []) false (eval iter X.env) (some (assign (.Name y d) X.env))) _ _ s;have Vu:∀x ∈ scope.names,x.2=.free->∃c,X.env.cells.lookup x.1=some c:=λx k j=>I.ok.has x.1 ((freeOk.at K k).2.1 j);refine j' (aa2 (wpAny_comprehension_free (use:=some (assign (.Name y d) X.env)) (Q:=λ_ a=>SP X pins D .next a) rfl hs (mX Vu) W (λx k j=>(freeOk.at K k).2.2.1 j)
  (aa2 (hi pins s σ H _ I h) (λxv Z l=>aa2 l (λitv s₂ n=>?_) λ_ _ e=>e) λ_ _ e=>e)) (λ_ a hq=>K' (K' hq)) λ_ _ e=>e)
 let(it,fp,tn,J,H2,e,f,T,CF,f2,hw):=n;subst e;calc y9 (RR:=λL C=>compPost (model X.prog X.w) X.A X.xe (some (assign (.Name y d) X.env)) (λ_ a=>SP X pins D .next a) L C) (QD:=λr t=>D.nx (σ.set i (some (.ref r))) t) Nl K W k hg ht j f T CF f2 hw ?_;intro r C a t m u Xb GK hn E I' q;let(o,E,M):=E;show wpAny _ X.A (assign (.Name y d) X.env (.ref r)) _ _ a;have B:C≠X.env.locals:=abk (W' f.lt u);have O:C∉X.fs:=f.Rn u;have P:Inv X (pins++[((C),o)]) σ t a:=I'.xu λp R=>(List.mem_append.mp R).elim (λz=>I'.pin p (aaW _ z)) λz=>by
  have z':p=((C),o):=by simpa using z
  subst z';exact(E,Xb,B,O,M)
 calc wpAny_assign_Name (jS P hN F hy (v:=.ref r) rfl (λs3 I3=>?_) MM);let(e3,n3,_):=I3.pin ((C),o) (aaW _ (aaW _ nofun));let(o',es,ep,mD,r'):=hn;rw[E]at mD;cases mD;have S:Inv X pins (σ.set i (some (.ref r))) t s3:=I3.k9;calc(m,(o,es,ep,e3,r'),λh' Bz=>(_,t,?_,q));refine S.turned (t':=s3.toks) (λb o hb e=>(Bz.2 b hb).trans e) n3 B (.inr (aaS f.sz u)) (λx c e z=>?_) λp R z=>?_
 ·let(v,q):=f.cell x c e;exact absurd (W' q.lt (by rw[z];calc u)) (abq _)
 ·calc absurd (W' (V' (f.pin p R).1) (by rw[z];calc u)) (abq _)
end
def LcN(b:Nat->List V->Hp->Prop)(D:Addr)(i:Nat)(H:Hp):Prop:=∃a,H D=some (.lst a)/\a.length<=i+1/\b (i+1) a H
theorem cD{c:Nat->List V->Hp->Prop}{D:Addr}{i n:Nat}{a:List V}{y:V}(d:H D=some (.lst a))(b:a.length<=i)(e:i<n)(f:n<=sizeLine)(h:c (i+1) (a++[y]) (upd H D (.lst (a++[y])))):
  ∃b,H D=some (.lst b)/\b.length<sizeLine/\LcN c D i (upd H D (.lst (b++[y]))):=
 (a,d,(),a++[y],af,by rw[aaQ,List.length_singleton];lia,h)
theorem bF{ix:List (Option Nat)}{J:It}{n:Nat}{g:TG}{c:TT}{k:TE}{l:Hp}{Q:VK}{D:Addr}(f:Nat->List V->Hp->Prop)(a:n<=sizeLine)(t:f 0 [] (upd l D (.lst [])))
  (u:∀i d H,i<n->f i d H->J.go i H) (v:∀d H,f n d H->J.stop n H)
  (w:∀i d H,i < n->H D=some (.lst d)->d.length<=i->f i d H->∀x h,J.Po i H x h->g x (vf ix σ) h λa q=>Ext (vf ix σ) a/\c a q λb o=>
   if b=true then k a o λy q=>∃j,q D=some (.lst j)/\j.length < sizeLine/\LcN f D i (upd q D (.lst (j++[y]))) else LcN f D i o)
  (z:∀d H,H D=some (.lst d)->d.length<=n->f n d H->Q (.ref D) H):
  lu ix J g c k σ l Q D:=by
 calc(λi m H=>m=n-i/\i<=n/\∃d,H D=some (.lst d)/\d.length<=i/\f i d H,(n,nofun,aaO _,[],af,S' _,t),?_);rintro i m H ⟨rfl,a,d,r,s,p⟩;by_cases g:i<n
 ·exact .inr (u i d H g p,LcN f D i,λh (j,a,b,c)=>(n-(i+1),(),rfl,g,j,a,b,c),λx h y=>w i d H g r s p x h y)
 ·have e:i=n:=by lia
  subst e;calc .inl (v d H p,z d H r s p)
end
section
section
variable {X:Cx}
def Dh(i j:Int):Prop:=0<j/\j.natAbs.log2<9000
theorem Ip:gP X (binaryOp .FloorDiv) (rI Dh λi j=>.int (i/j)):=opI λi j _ _ _ _ _ a q=>by
 have b:(0:Int)<j:=a.1;calc floordiv_int () (by rw[Int.fdiv_eq_ediv_of_nonneg i ()];calc q) (.inl (PyProof.noPylong_of_log2 a.2))
def uI(C:Int->Int->Prop)(g:Int->Int->V):R2:=λx y H Q=>match x,y with
 | .int i,.int j=>C i j/\Q (g i j) H
 |_,_=>False
def Sj(g:Int->Int->V):R2:=λx y H Q=>match x,y with
 | .int i,.int j=>Q (g i j) H
 |_,_=>False
theorem opU{f:Value->Value->Sem Value}{C:Int->Int->Prop}{g:Int->Int->V}(h:gP X f (rI C g)):gP X f (uI C g):=by
 intro a s σ H x y v u Q I b c q
 cases x<;>cases y<;>first
  |calc(show False from q).elim
  |calc h a s σ H _ _ v u Q I b c (_,_,rfl,rfl,q.1,q.2)
theorem Iq{f:Value->Value->Sem Value}{g:Int->Int->V}(h:gP X f (MO g)):gP X f (Sj g):=by
 intro a s σ H x y v u Q I b c q
 cases x<;>cases y<;>first
  |calc(show False from q).elim
  |calc h a s σ H _ _ v u Q I b c (_,_,rfl,rfl,q)
theorem dX:gP X (binaryOp .Sub) (Sj λi j=>.int (i-j)):=Iq RF
theorem mH:gP X (binaryOp .Mult) (uI HE λi j=>.int (i*j)):=opU RG
theorem cp:gP X (binaryOp .Mod) (uI (λ_ j=>0<j) λi j=>.int (i%j)):=opU RH
theorem c8:gP X (binaryOp .FloorDiv) (uI Dh λi j=>.int (i/j)):=opU Ip
theorem oO:gP X (binaryOp .Pow) (uI MQ λi j=>.int (i^j.toNat)):=opU RI
theorem gT:gP X (compareOp .Lt) (Sj λi j=>.bl (decide (i<j))):=Iq WL
theorem BA:gP X (compareOp .LtE) (Sj λi j=>.bl (decide (i<=j))):=Iq WM
theorem p7:gP X (compareOp .Gt) (Sj λi j=>.bl (decide (j<i))):=Iq WN
theorem BB:gP X (compareOp .GtE) (Sj λi j=>.bl (decide (j<=i))):=Iq WO
def oP(K:W.Frag)(H:Hp):Nat->V->V->Prop
 |0,_,_=>False
 |n+1,x,y=>(x=y/\gk x=true)\/∃a b xs c,x=.ref a/\y=.ref b/\((bI K H a xs/\bI K H b c)\/(aV K H a xs/\aV K H b c))/\xs.length=c.length/\∀(i:Nat) u v,xs[i]?=some u->c[i]?=some v->oP K H n u v
theorem in1_units(A:Around):A.in1.units=A.units+1:=rfl
theorem oQ{pins:List (Addr×Obj)}{σ:St}{H:Hp}{s:Shared}(I:Inv X pins σ H s):∀(n:Nat) (A:Around) {x y:V}{u v:Value},oP X.K H n x y->A.units+n<cLine->RelV x u->RelV y v->SeqAt.EqAt A s u v true
 |0,_,_,_,_,_,h,_,_,_=>h.elim
 |n+1,A,x,y,u,v,h,o,c,d=>by
  rcases h with⟨e,f⟩|⟨a,b,J,L,j,k,l,o,M⟩
  ·subst e;have q:=Bs (A:=A) (s:=s) c d f f;have g:GJ x x=true:=by cases x <;> first | rfl | calc absurd (show false=true from f) T' | simp[GJ]
   rw[g]at q;exact q
  ·subst j k
   cases c
   cases d;by_cases m:a=b
   ·subst m;exact SeqAt.EqAt.same _
   rcases l with⟨o,p⟩|⟨o,p⟩
   ·let(c,h,q,H):=I.tuple o;let(f,k,r,N):=I.tuple p;have O:=h.length;have P:=k.length;have t:c.toArray.size=f.toArray.size:=by simp;lia
    have d:=SeqAt.RcAt.tuples (A:=A) (e:=λ_=>true) (show s.heap.IsTuple a c.toArray from q) (show s.heap.IsTuple b f.toArray from r) () λj u v=>by
     have w:j<c.length:=by simpa using u
     have y:j<f.length:=by simpa using v
     let(z,l,B):=h.get (i:=j) (x:=J[j]'()) nofun;let(C,g,D):=k.get (i:=j) (x:=L[j]'()) nofun;have E:c.toArray[j]=z:=by
      have:=cT w;rw[this]at l;simpa using Option.some.inj l
     have F:f.toArray[j]=C:=by
      have:=cT y;rw[this]at g;simpa using Option.some.inj g
     rw[E,F];exact oQ I n A.in1 (M j _ _ nofun nofun) (by rw[in1_units];lia) B D
    have G:SeqAt.RcAt A s (.ref a) (.ref b) true:=by
     have:((List.range (min c.toArray.size f.toArray.size)).all (λ_=>true)&&c.toArray.size==f.toArray.size)=true:=by
      rw[t];simp
     rw[this]at d;exact d
    exact SeqAt.EqAt.of_refs m G
   ·let(c,h,q,H):=I.list o;let(f,k,r,N):=I.list p;have O:=h.length;have P:=k.length;have t:c.toArray.size=f.toArray.size:=by simp;lia
    have d:=SeqAt.RcAt.lists (A:=A) (e:=λ_=>true) q.isList r.isList t () λj u v=>by
     have w:j<c.length:=by simpa using u
     have y:j<f.length:=by simpa using v
     let(z,l,B):=h.get (i:=j) (x:=J[j]'()) nofun;let(C,g,D):=k.get (i:=j) (x:=L[j]'()) nofun;have E:c.toArray[j]=z:=by
      have:=cT w;rw[this]at l;simpa using Option.some.inj l
     have F:f.toArray[j]=C:=by
      have:=cT y;rw[this]at g;simpa using Option.some.inj g
     rw[E,F];exact oQ I n A.in1 (M j _ _ nofun nofun) (by rw[in1_units];lia) B D
    have G:SeqAt.RcAt A s (.ref a) (.ref b) true:=by
     have:((List.range c.toArray.size).all (λ_=>true))=true:=by simp
     rw[this]at d;exact d
    calc SeqAt.EqAt.of_refs m G
end
end
section
variable {pins:List (Addr×Obj)}{σ:St}
section
variable {X:Cx}
theorem Ir{H:Hp}{s:Shared}(I:Inv X pins σ H s){A:Around}{n:Nat}{a b:Addr}(h:oP X.K H (n+1) (.ref a) (.ref b))(f:A.units+n+1<cLine):
  SeqAt.RcAt A s (.ref a) (.ref b) true/\SeqAt.RcNeAt A s (.ref a) (.ref b) false:=by
 rcases h with⟨e,f⟩|⟨g,k,J,L,c,d,j,l,M⟩
 ·exact absurd (show false=true from f) T'
 ·cases c
  cases d;rcases j with⟨g,h⟩|⟨g,h⟩
  ·let(d,k,l,H):=I.tuple g;let(f,m,o,N):=I.tuple h;have O:=k.length;have P:=m.length;have u:d.toArray.size=f.toArray.size:=by simp;lia
   have c:∀j (g:j<d.toArray.size) (h:j<f.toArray.size),SeqAt.EqAt A.in1 s d.toArray[j] f.toArray[j] ((λ_=>true) j):=λj v w=>by
    have y:j<d.length:=by simpa using v
    have z:j<f.length:=by simpa using w
    let(B,p,C):=k.get (i:=j) (x:=J[j]'()) nofun;let(D,q,E):=m.get (i:=j) (x:=L[j]'()) nofun;have F:d.toArray[j]=B:=by
     have:=cT y;rw[this]at p;simpa using Option.some.inj p
    have G:f.toArray[j]=D:=by
     have:=cT z;rw[this]at q;simpa using Option.some.inj q
    rw[F,G];exact oQ I n A.in1 (M j _ _ nofun nofun) (by rw[in1_units];lia) C E
   have e:((List.range (min d.toArray.size f.toArray.size)).all (λ_=>true)&&d.toArray.size==f.toArray.size)=true:=by
    rw[u];simp
   have r:=SeqAt.RcAt.tuples (A:=A) (show s.heap.IsTuple a d.toArray from l) (show s.heap.IsTuple b f.toArray from o) () c;have t:=SeqAt.RcNeAt.tuples (A:=A) (show s.heap.IsTuple a d.toArray from l) (show s.heap.IsTuple b f.toArray from o) () c;rw[e]at r t;exact(r,t)
  ·let(d,k,l,H):=I.list g;let(f,m,o,N):=I.list h;have O:=k.length;have P:=m.length;have u:d.toArray.size=f.toArray.size:=by simp;lia
   have c:∀j (g:j<d.toArray.size) (h:j<f.toArray.size),SeqAt.EqAt A.in1 s d.toArray[j] f.toArray[j] ((λ_=>true) j):=λj v w=>by
    have y:j<d.length:=by simpa using v
    have z:j<f.length:=by simpa using w
    let(B,p,C):=k.get (i:=j) (x:=J[j]'()) nofun;let(D,q,E):=m.get (i:=j) (x:=L[j]'()) nofun;have F:d.toArray[j]=B:=by
     have:=cT y;rw[this]at p;simpa using Option.some.inj p
    have G:f.toArray[j]=D:=by
     have:=cT z;rw[this]at q;simpa using Option.some.inj q
    rw[F,G];exact oQ I n A.in1 (M j _ _ nofun nofun) (by rw[in1_units];lia) C E
   have e:(List.range d.toArray.size).all (λ_=>true)=true:=by simp
   have r:=SeqAt.RcAt.lists (A:=A) l.isList o.isList u () c;have t:=SeqAt.RcNeAt.lists (A:=A) l.isList o.isList u () c;rw[e]at r t;calc(r,t)
def tE(K:W.Frag)(H:Hp)(a b:Addr):Prop:=∃xs c,xs.length≠c.length/\((aV K H a xs/\aV K H b c)\/(bI K H a xs/\bI K H b c/\(xs=[]\/c=[])))
theorem Di{H:Hp}{s:Shared}(I:Inv X pins σ H s){A:Around}{a b:Addr}(h:tE X.K H a b)(k:A.units<cLine):
  SeqAt.RcAt A s (.ref a) (.ref b) false/\SeqAt.RcNeAt A s (.ref a) (.ref b) true:=by
 obtain⟨j,n,r,⟨l,m⟩|⟨l,m,q⟩⟩:=h
 ·let(d,h,g,r):=I.list l;let(f,n,i,t):=I.list m;have o:=h.length;have p:=n.length;have j:(d.toArray.size != f.toArray.size)=true:=by simp;lia
  exact(SeqAt.RcAt.lists_lengths g.isList i.isList j k,SeqAt.RcNeAt.lists_lengths g.isList i.isList j k)
 ·let(d,h,g,r):=I.tuple l;let(f,n,i,t):=I.tuple m;have o:=h.length;have p:=n.length;have c:∀j (l:j<d.toArray.size) (m:j<f.toArray.size),SeqAt.EqAt A.in1 s d.toArray[j] f.toArray[j] ((λ_=>true) j):=λj h l=>by
   exfalso;have m:j<d.length:=by simpa using h
   have h:j<f.length:=by simpa using l
   rcases q with e|e
   ·subst e;simp at o;lia
   ·subst e;simp at p;lia
  have e:((List.range (min d.toArray.size f.toArray.size)).all (λ_=>true)&&d.toArray.size==f.toArray.size)=false:=by
   have:d.toArray.size≠f.toArray.size:=by simp;lia
   rw[Bool.and_eq_false_iff];exact .inr (beq_eq_false_iff_ne.mpr this)
  have h:=SeqAt.RcAt.tuples (A:=A) (show s.heap.IsTuple a d.toArray from g) (show s.heap.IsTuple b f.toArray from i) k c;have j:=SeqAt.RcNeAt.tuples (A:=A) (show s.heap.IsTuple a d.toArray from g) (show s.heap.IsTuple b f.toArray from i) k c;rw[e]at h j;calc(h,j)
def Sl(K:W.Frag):R2:=λx y H Q=>match x,y with
 | .ref a,.ref b=>(oP K H 20 (.ref a) (.ref b)/\Q (.bl true) H)\/(tE K H a b/\Q (.bl false) H)
 |x,y=>MR x y=true/\Q (.bl (decide (x=y))) H
def Vv(K:W.Frag):R2:=λx y H Q=>match x,y with
 | .ref a,.ref b=>(oP K H 20 (.ref a) (.ref b)/\Q (.bl false) H)\/(tE K H a b/\Q (.bl true) H)
 |x,y=>MR x y=true/\Q (.bl (!decide (x=y))) H
theorem Iu(c:X.A.units+64<cLine):gP X (compareOp .Eq) (Sl X.K):=by
  intro pins s σ H x y v u Q I a b h
  cases x<;>cases y<;>first
    |calc WJ pins s σ H _ _ v u Q I a b h
    | (cases a;cases b
       rcases h with⟨a,q⟩|⟨a,q⟩
       · exact(Ir I (A:=X.A) a ()).1 X.prog X.w X.xe _ (.bl true,H,I,rfl,q)
       · calc(Di I (A:=X.A) a ()).1 X.prog X.w X.xe _ (.bl false,H,I,rfl,q))
theorem Sm(c:X.A.units+64<cLine):gP X (compareOp .NotEq) (Vv X.K):=by
  intro pins s σ H x y v u Q I a b h
  cases x<;>cases y<;>first
    |calc WK pins s σ H _ _ v u Q I a b h
    | (cases a;cases b
       rcases h with⟨a,q⟩|⟨a,q⟩
       · exact(Ir I (A:=X.A) a ()).2 X.prog X.w X.xe _ (.bl false,H,I,rfl,q)
       · calc(Di I (A:=X.A) a ()).2 X.prog X.w X.xe _ (.bl true,H,I,rfl,q))
def Xj(g:Bool->Bool):R2:=λx y H Q=>match x,y with
 | .bl c,.bl d=>Q (.bl (g (c==d))) H
 |x,.bG=>Q (.bl (g (decide (x=.bG)))) H
 |_,_=>False
theorem Iv:gP X (compareOp .Is) (Xj id):=by
 intro pins s σ H x y v u Q I a b h
 cases x<;>cases y<;>first
  |calc(show False from h).elim
  |calc RJ pins s σ H _ _ v u Q I a b (rfl,h)
  |(cases a;cases b;calc is_bool (.bl _,H,I,rfl,h))
theorem p8:gP X (compareOp .IsNot) (Xj not):=by
 intro pins s σ H x y v u Q I a b h
 cases x<;>cases y<;>first
  |calc(show False from h).elim
  |calc MT pins s σ H _ _ v u Q I a b (rfl,h)
  |(cases a;cases b;calc isnot_bool (.bl _,H,I,rfl,h))
def uIn(K:W.Frag)(a:Bool):R2:=λx y H Q=>match y with
 | .ref p=>∃xs,(aV K H p xs\/bI K H p xs)/\gk x=true/\xs.all gk=true/\Q (.bl (if a then !CY x xs else CY x xs)) H
 |_=>False
theorem Iw:gP X (compareOp .In) (uIn X.K false):=by
 intro pins s σ H x y v u Q I a b h
 cases y<;>first
  |calc(show False from h).elim
  |(let(c,d,e,f,g):=h;calc E3 pins s σ H _ _ v u Q I a b (_,c,rfl,d,e,f,g))
def Sn(K:W.Frag)(a:TE):TI:=λσ H R=>a σ H λx b=>match x with
 | .ref a=>((∃xs,aV K b a xs)/\R (yP K a) b)\/((∃xs,bI K b a xs)/\R (WG K a) b)
 |_=>False
theorem cj{n l:Expr}{i:TE}(r:PE X l i):PI X n l (Sn X.K i):=by
  calc⟨?_⟩;intro pins s σ H R I h;calc cU (r pins s σ H _ I h) λv c t=>?_;let(x,j,d,u,k):=t
  cases x<;>first
    |calc(show False from k).elim
    | (rename_i a;cases u
       rcases k with⟨⟨w,f⟩,q⟩|⟨⟨w,f⟩,q⟩
       · let(m,y,p,z):=d.list f;calc wpAny_pyIter_list p.isList ?_;calc(c.heap.objs.size,[c.heap.objs.size],_,_,j,rfl,d.kept (t':=c.toks) λb o e=>P' _ e,ER a _,(_,aas _ rfl,rfl,rfl),λb g=>?_,q);have e:b=c.heap.objs.size:=by simpa using g
         subst e;exact d.Hx (S' _) (d.aW.fresh (S' _))
       · let(m,y,p,z):=d.tuple f;calc abo (show c.heap.IsTuple a m.toArray from p) ?_;calc(c.heap.objs.size,[c.heap.objs.size],_,_,j,rfl,d.kept (t':=c.toks) λb o e=>P' _ e,Bb a _,(_,aas _ rfl,rfl,rfl),λb g=>?_,q);have e:b=c.heap.objs.size:=by simpa using g
         subst e;calc d.Hx (S' _) (d.aW.fresh (S' _)))
end
structure Def(P:Program)(w:World)(K:W.Frag)(mg:Str->Option Value)(base:Heap)(x:Str)(k:Nat)(ps:List Str)(sp:Sp):Prop where
 ex:∃f fd,j7 P w K mg base Fb k f fd ps sp/\mg x=some (.ref f)/\W.keepIn K (.ref f)=true/\Binds K fd ps []
structure cV(K:W.Frag)(mg:Str->Option Value)(x qual:Str)(st:Stmt)(ps:List Str):Prop where
 ex:∃f fd,Ij K x qual st f fd/\mg x=some (.ref f)/\Binds K fd ps []
section
variable {P:Program}{w:World}{K:W.Frag}{mg:Str->Option Value}{base:Heap}
theorem cV.ok{x qual:Str}{a:Stmt}{N b:List Str}{k:Nat}{sp:Sp}(T:cV K mg x qual a b)(S:aE N b (az a))(c:∀vs H Q E,sp vs H Q E->vs.length=b.length)
  (e:∀(f:Addr) (d:Value) (A:Around) (outer:List Env) (s:Shared) (H:Hp) (vs:List V) (Q:VK) (E:XK),eQ k (A.deeper (envOfC qual (az a) s.heap.objs.size f d))->sp vs H Q E->
   ∃t,u9 (lj Fb P w K mg base N qual (az a) f d A outer s H E).GI (cO a) t/\t {nx:=λ_ a=>Q .bG a,rt:=Q} (start N vs) H):Def P w K mg base x (k + 1) b sp:=by
 let(f,a,F,b,d):=T.ex;calc(f,a,F.ok S c (e f),b,F.kp,d)
end
theorem Xk{X:Cx}{k j:Nat}{a:List Str}{sp:Sp}{x:Str}{p pos:Pos}{e:Expr}{es:List Expr}{t:TA}(D:Def X.prog X.w X.K X.mg X.base x k a sp)(b:eQ j X.A)(c:PA X (e::es) t)(d:Gl X x:=by rfl)(a:k<=j:=by decide)
  (g:(x==("__debug__":Str))=false:=by decide) (h:starEach (e::es) X.env=((false),eval e X.env)::starEach es X.env:=by rfl) (i:(backTo pos (starEach es X.env)).any (·.1)=false:=by rfl):
  PE X (.Call (.Name x p) (e::es) [] pos) (sU sp [] E0 t):=by
 let(f,l,F,e,j,k):=D.ex;calc CM F (b.mono a) d e j k .nil De c g h i
end
section
variable {H:Hp}
section
variable {X:Cx}
def Sr(K:W.Frag):R2:=λx y H Q=>match x,y with
 | .str z,.int i=>∃c,z.length<=sizeLine/\iZ z.cps.toList i=some c/\Q (.str ⟨#[c]⟩) H
 | .ref p,.int i=>∃xs v,(aV K H p xs\/bI K H p xs)/\iZ xs i=some v/\Q v H
 | .ref p,.str k=>∃v,fQ H p (.str k) (some v)/\Q v H
 |_,_=>False
theorem acP(c:X.A.units+64<cLine):WZ X (Sr X.K):=by
  intro a b d s σ H x y v u Q I i j h k
  cases x<;>cases y<;>first
    |calc(show False from h).elim
    |(let(c,f,l,e):=h;calc RY a b d s σ H _ _ v u Q I i j (_,_,c,rfl,rfl,f,l,e) k)
    | (obtain⟨c,m,f | f,l,e⟩:=h
       · exact M5 a b d s σ H _ _ v u Q I i j (_,c,_,m,rfl,rfl,f,l,e) k
       · calc RX a b d s σ H _ _ v u Q I i j (_,c,_,m,rfl,rfl,f,l,e) k)
    | (let(m,g,e):=h
       cases i;calc tail_any (rm I g) PySem.F.slot_dict_getitem.lookup (wa () I g j λc d a b=>(m,H,a,b,e)) k)
end
inductive DV where
 |bG|bl (b:Bool)|int (i:Int)|str (x:Str)|tup (ds:List DV)|lst (ds:List DV)|dict
inductive HD(H:Hp):Nat->V->DV->Prop
 |bG {n}:HD H n .bG .bG
 |bl {n} (b:Bool):HD H n (.bl b) (.bl b)
 |int {n} (i:Int):HD H n (.int i) (.int i)
 |str {n} (x:Str):HD H n (.str x) (.str x)
 |tup {n a xs ds}:H a=some (.tup xs)->xs.length=ds.length->(∀(i:Nat) u e,xs[i]?=some u->ds[i]?=some e->HD H n u e)->HD H (n+1) (.ref a) (.tup ds)
 |lst {n a xs ds}:H a=some (.lst xs)->xs.length=ds.length->(∀(i:Nat) u e,xs[i]?=some u->ds[i]?=some e->HD H n u e)->HD H (n+1) (.ref a) (.lst ds)
 |dict {n a aL}:H a=some (.dK aL)->HD H n (.ref a) .dict
theorem HD.same{H a:Hp}(s:av H a){n:Nat}{x:V}{d:DV}(h:HD H n x d):HD a n x d:=by
 induction h with
 |bG=>calc .bG
 |bl b=>calc .bl b
 |int i=>calc .int i
 |str x=>calc .str x
 |tup a b c d=>calc .tup (s _ _ a) b d
 |lst a b c d=>calc .lst (s _ _ a) b d
 |dict a=>calc .dict (s _ _ a)
theorem HD.mono{H:Hp}{n:Nat}{x:V}{d:DV}(h:HD H n x d):∀{m:Nat},n<=m->HD H m x d:=by
 induction h with
 |bG=>intro m _;calc .bG
 |bl b=>intro m _;calc .bl b
 |int i=>intro m _;calc .int i
 |str x=>intro m _;calc .str x
 |tup a b c f=>
  intro m g;obtain⟨k,rfl⟩:∃k,m=k+1:=(m-1,())
  calc .tup a b λi u e p q=>f i u e p q ()
 |lst a b c f=>
  intro m g;obtain⟨k,rfl⟩:∃k,m=k+1:=(m-1,())
  calc .lst a b λi u e p q=>f i u e p q ()
 |dict a=>intro m _;calc .dict a
inductive HT(H:Hp):Nat->V->DV->Prop
 |bG {n}:HT H n .bG .bG
 |bl {n} (b:Bool):HT H n (.bl b) (.bl b)
 |int {n} (i:Int):HT H n (.int i) (.int i)
 |str {n} (x:Str):HT H n (.str x) (.str x)
 |tup {n a xs ds}:H a=some (.tup xs)->xs.length=ds.length->(∀(i:Nat) u e,xs[i]?=some u->ds[i]?=some e->HT H n u e)->HT H (n+1) (.ref a) (.tup ds)
theorem HT.hd{H:Hp}{n:Nat}{x:V}{d:DV}(h:HT H n x d):HD H n x d:=by
 induction h with
 |bG=>calc .bG
 |bl b=>calc .bl b
 |int i=>calc .int i
 |str x=>calc .str x
 |tup a b c d=>calc .tup a b d
def cw(H a:Hp):Prop:=∀b xs,H b=some (.tup xs)->a b=some (.tup xs)
theorem av.aU{a:Hp}(h:av H a):cw H a:=λb a e=>h b _ e
theorem cw.refl(H:Hp):cw H H:=λ_ _ h=>h
theorem cw.trans{c d:Hp}(a:cw H c)(b:cw c d):cw H d:=λc o h=>b c o (a c o h)
theorem cw.upd{a:Hp}(h:cw H a){p:Addr}{o:HO}(d:∀xs,a p≠some (.tup xs)):cw H (upd a p o):=λb xs e=>by
 have c:=h b xs e;have:b≠p:=λz=>by subst z;exact d xs c
 rw[ay this];calc c
theorem HT.aM{H a:Hp}(s:cw H a){n:Nat}{x:V}{d:DV}(h:HT H n x d):HT a n x d:=by
 induction h with
 |bG=>calc .bG
 |bl b=>calc .bl b
 |int i=>calc .int i
 |str x=>calc .str x
 |tup a b c d=>calc .tup (s _ _ a) b d
theorem av.new{p:Addr}(o:HO)(a:H p=none):av H (upd H p o):=λb u e=>by rw[ay (au e a)];calc e
end
section
section
variable {X:Cx}
def Ss(K:W.Frag):List V->Hp->VK->Prop:=λxs H Q=>match xs with
 | [x]=>∃n,HG K x H n/\Q (.int (n:Nat)) H
 |_=>False
theorem aO:eW X (.builtin "len") (Ss X.K):=by
 intro a s σ H b c Q I r h
 match b,r,h with
 | [x],r,h=>
  let(n,b,d):=h;calc HH a s σ H _ c Q I r (x,n,rfl,b,d)
def uII(g:Int->Int->Int):List V->Hp->VK->Prop:=λxs H Q=>match xs with
 | [.int i,.int j]=>Q (.int (g i j)) H
 |_=>False
theorem we(b:X.calm=true):eW X (.builtin "max") (uII λi j=>if j > i then j else i):=by
 intro a s σ H c d Q I r h
 match c,r,h with
 | [.int i,.int j],r,h=>calc ET b a s σ H _ d Q I r (i,j,rfl,h)
def xK(K:W.Frag):List V->Hp->VK->Prop:=λxs H Q=>match xs with
 | [.ref p]=>(∃a,aV K H p a/\∀l,H l=none->Q (.ref l) (upd H l (.tup a)))\/(∃a,bI K H p a/\Q (.ref p) H)
 |_=>False
theorem ck:eW X (.type "tuple") (xK X.K):=by
 intro a s σ H b e Q I r h
 match b,r,h with
 | [.ref p],r,h=>
  rcases h with⟨b,c,d⟩|⟨b,c,d⟩
  ·exact mV a s σ H _ e Q I r (p,b,rfl,.inl (c,d))
  ·calc mV a s σ H _ e Q I r (p,b,rfl,.inr (c,d))
def Pw(K:W.Frag):List V->Hp->VK->Prop:=λxs H Q=>match xs with
 | [.ref p]=>∃a,(aV K H p a\/bI K H p a)/\∀l,H l=none->Q (.ref l) (upd H l (.lst a))
 |_=>False
theorem cq:eW X (.type "list") (Pw X.K):=by
 intro a s σ H b c Q I r h
 match b,r,h with
 | [.ref p],r,h=>
  let(b,d,e):=h;calc xH a s σ H _ c Q I r (p,b,rfl,d,e)
def Px:V->V->V->Hp->(Hp->Prop)->Prop:=λo i v H Q=>match o,i with
 | .ref p,.int k=>∃xs j,H p=some (.lst xs)/\Bp xs.length k=some j/\Q (upd H p (.lst (xs.set j v)))
 |_,_=>False
theorem dH:Rx X Px:=by
 intro a s σ H o i v b c u Q I d e f h
 cases o<;>cases i<;>first
  |calc(show False from h).elim
  |(let(g,j,i,k,l):=h;calc set_list a s σ H _ _ v b c u Q I d e f (_,g,_,j,rfl,rfl,i,k,l))
end
theorem Xl{CX P w K mg base N qual scope f cd A outer s H E}:(lj CX P w K mg base N qual scope f cd A outer s H E).GI.K=K:=rfl
theorem Py{X:Cx}:X.GI.K=X.K:=rfl
theorem Iy{CX P w K mg base N qual scope f cd A outer s H E}:(lj CX P w K mg base N qual scope f cd A outer s H E).K=K:=rfl
theorem Pz{X:Cx}{scope C N' a b fp}:(Vt X scope C N' a b fp).K=X.K:=rfl
theorem cP:2<=sizeLine:=by decide
end
section
variable {g:Int->Int->V}
section
variable {K:W.Frag}{H:Hp}{Q:VK}{i j:Int}{a b:Addr}{x y:V}{s t:Str}
theorem PB{C:Int->Int->Prop}:uI C g (.int i) (.int j) H Q=(C i j/\Q (g i j) H):=rfl
theorem Iz:Sj g (.int i) (.int j) H Q=Q (g i j) H:=rfl
theorem IA:decide (V.int i=V.int j)=decide (i=j):=by simp
theorem IB:decide (V.str s=V.str t)=decide (s=t):=by simp
theorem xM:Sl K (.int i) (.int j) H Q=Q (.bl (decide (i=j))) H:=by
 show(true=true/\Q (.bl (decide (V.int i=V.int j))) H)=_;rw[IA];simp
theorem xN:Sl K (.str s) (.str t) H Q=Q (.bl (decide (s=t))) H:=by
 show(true=true/\Q (.bl (decide (V.str s=V.str t))) H)=_;rw[IB];simp
theorem xO:Vv K (.int i) (.int j) H Q=Q (.bl (!decide (i=j))) H:=by
 show(true=true/\Q (.bl (!decide (V.int i=V.int j))) H)=_;rw[IA];simp
theorem xP:Vv K (.str s) (.str t) H Q=Q (.bl (!decide (s=t))) H:=by
 show(true=true/\Q (.bl (!decide (V.str s=V.str t))) H)=_;rw[IB];simp
theorem IC:Sl K (.ref a) (.ref b) H Q=((oP K H 20 (.ref a) (.ref b)/\Q (.bl true) H)\/(tE K H a b/\Q (.bl false) H)):=rfl
theorem ID:Vv K (.ref a) (.ref b) H Q=((oP K H 20 (.ref a) (.ref b)/\Q (.bl false) H)\/(tE K H a b/\Q (.bl true) H)):=rfl
theorem IE{g:Bool->Bool}{c d:Bool}:Xj g (.bl c) (.bl d) H Q=Q (.bl (g (c==d))) H:=rfl
theorem PD{b:Bool}:uIn K b x (.ref a) H Q=∃xs,(aV K H a xs\/bI K H a xs)/\gk x=true/\xs.all gk=true/\Q (.bl (if b then !CY x xs else CY x xs)) H:=rfl
theorem IF:Sr K (.ref a) (.int i) H Q=∃xs v,(aV K H a xs\/bI K H a xs)/\iZ xs i=some v/\Q v H:=rfl
theorem IG:Sr K (.ref a) (.str s) H Q=∃v,fQ H a (.str s) (some v)/\Q v H:=rfl
theorem IH:Sr K (.str s) (.int i) H Q=∃c,s.length<=sizeLine/\iZ s.cps.toList i=some c/\Q (.str ⟨#[c]⟩) H:=rfl
theorem II:Ss K [x] H Q=∃n,HG K x H n/\Q (.int (n:Nat)) H:=rfl
theorem PF{g:Int->Int->Int}:uII g [.int i,.int j] H Q=Q (.int (g i j)) H:=rfl
theorem oR:xK K [.ref a] H Q=((∃b,aV K H a b/\∀l,H l=none->Q (.ref l) (upd H l (.tup b)))\/(∃b,bI K H a b/\Q (.ref a) H)):=rfl
theorem Dj:Pw K [.ref a] H Q=∃b,(aV K H a b\/bI K H a b)/\∀l,H l=none->Q (.ref l) (upd H l (.lst b)):=rfl
theorem za{R:Hp->Prop}:Px (.ref a) (.int i) x H R=∃xs j,H a=some (.lst xs)/\Bp xs.length i=some j/\R (upd H a (.lst (xs.set j x))):=rfl
theorem wg{α:Type}{o:Option α}:(some o).join=o:=rfl
end
end
section
variable {r:List V->Hp->VK->Prop}
noncomputable def dY:Expr->Bool
 | .Starred ..=>false
 |_=>true
theorem eJ{e:Expr}{es:List Expr}{env:Env}(h:dY e=true):starEach (e::es) env=((false),eval e env)::starEach es env:=by
 cases e<;>first|rfl|calc absurd h T'
theorem fT{pos:Pos}{env:Env}:∀{es:List Expr},es.all dY=true->(backTo pos (starEach es env)).any (·.1)=false
 | [],_=>rfl
 |e::es,h=>by
  rw[List.all_cons,aa9]at h;rw[eJ h.1];show(false||(backTo pos (starEach es env)).any (·.1))=false;rw[fT h.2];rfl
noncomputable def BC:Expr->Bool
 | .ListComp ..=>false
 | .SetComp ..=>false
 | .DictComp ..=>false
 |_=>true
theorem gG{e:Expr}{t:Option Expr}{l:Nat}{env:Env}(h:BC e=true):swapsWith e t l env=pure false:=by
 cases e<;>first|rfl|calc absurd h T'
section
variable {X:Cx}{e:Expr}{es:List Expr}{te:TE}{t:TA}{pos p:Pos}{x:Str}
theorem ag(a:PE X e te)(b:PA X es t)(h:dY e=true:=by rfl):PA X (e::es) (yR te t):=MX a b (eJ h)
theorem aN{k j:Nat}{a:List Str}{sp:Sp}(D:Def X.prog X.w X.K X.mg X.base x k a sp)(b:eQ j X.A)(c:PA X (e::es) t)(d:Gl X x:=by rfl)(a:k<=j:=by decide)
  (f:(x==("__debug__":Str))=false:=by decide) (g:dY e=true:=by rfl) (h:es.all dY=true:=by rfl):
  PE X (.Call (.Name x p) (e::es) [] pos) (sU sp [] E0 t):=Xk D b c d a f (eJ g) (fT h)
theorem bf{a:String}(b:eW X (.builtin a) r)(c:Gl X x)(d:X.mg x=none)(f:bootBuiltins x=some (.builtin a))(g:PA X (e::es) t)(h:x≠"__name__":=by decide)(a:(x==("__debug__":Str))=false:=by decide)
  (i:dY e=true:=by rfl) (j:es.all dY=true:=by rfl):PE X (.Call (.Name x p) (e::es) [] pos) (Vp r t):=HN b c d f g h a (eJ i) (fT j)
theorem c9{T:String}(a:eW X (.type T) r)(b:Gl X x)(c:X.mg x=none)(d:bootBuiltins x=some (.type T))(f:PA X (e::es) t)(g:x≠"__name__":=by decide)(h:(x==("__debug__":Str))=false:=by decide)
  (i:dY e=true:=by rfl) (j:es.all dY=true:=by rfl):PE X (.Call (.Name x p) (e::es) [] pos) (Vp r t):=E2 a b c d f g h (eJ i) (fT j)
theorem aT{i:Nat}{a:Pos}(b:X.N.Nodup)(c:X.N[i]?=some x)(d:Loc X.env.scope x)(f:PE X e te)(h:BC e=true:=by rfl)(g:X.fn x=true\/X.env.scope.names.lookup x=some .local:=by grind):
  PS X (.Assign [.Name x a] e pos) (EN te (gj i)):=Hv b c d f (gG h) g
theorem bR(a:PE X e te)(h:BC e=true:=by rfl):PS X (.Expr e pos) (yN te):=MN a (gG h)
end
end
section
noncomputable def xQ:Expr->Bool
 | .Slice ..=>false
 |_=>true
theorem gM{b:Expr}(h:xQ b=true):CV b:=λo i=>by
 cases b<;>first|rfl|calc absurd h T'
theorem ak{X:Cx}{a b:Expr}{c d:TE}{pos:Pos}(e:X.A.units+64<cLine)(f:PE X a c)(g:PE X b d)(h:xQ b=true:=by rfl):PE X (.Subscript a b pos) (HC (Sr X.K) c d):=W0 (acP e) f g (gM h)
end
section
noncomputable def tF:List Value:=[.type "ValueError",.type "Exception",.type "BaseException",.type "object"]
section
variable {prog:Program}{w:World}{A:Around}{h:Heap}{g:Array GenState}{d:Drawn}{t:Nat}{os:OsState}
variable {nm q:Str}{C B N:Addr}{bs:List Value}{sn:List Str}{sub:List Value}{ab:Bool}{col:Option Bool}{dd:Option Addr}{k0 k1 k2 k3 k5:Option Value}
theorem BD{M:Model}{E:Value->Shared->Prop}{a:List Value}{Q:Unit->Shared->Prop}(b:h.get? C=some (excClassObj nm q C N bs (.ref B::tF) true sn sub ab col dd k0 k1 k2 k3 k5 "ValueError.__new__"))
  (c:Q ⟨⟩ (h,g,d,t,os)):wpAny M A (checkBuiltinCall "ValueError.__new__" (.ref C::a,[])) Q E (h,g,d,t,os):=by
 have a:=zA5;have e:(Value.ref C::.ref B::tF).contains (.type "ValueError")=true:=rfl;have f:=a.noStar;simp only[checkBuiltinCall,a.newKind,a.newSplit,a.newRow]
 repeat (first|calc aa7 b ?_|(calc abu b ?_;rw[e])|calc wpAny_staticBase_exc b ?_|calc wpAny_madeBy_exc b ?_|simp only[bne_self_eq_false,Bool.false_eq_true,if_false]|wp_step)
 calc c
theorem Ff{R:Result->Shared->Prop}{a:List Value}(b:h.get? C=some (excClassObj nm q C N bs (.ref B::tF) true sn sub ab col dd k0 k1 k2 k3 k5 "ValueError.__new__"))
  (i:R (.ok (.ret (.ref (h.objs.size + 1)))) ((h.push {cls:=.type "tuple",data:=.seq a.toArray}).push
   {cls:=.ref C,data:=.fields #[.ref h.objs.size,.none,.none,.none,.bool false,.none]},g,d,t,os)) (c:a.length<=sizeLine):
  codeAny (model prog w) A (.builtin "ValueError.__new__" (.ref C::a,[])) R (h,g,d,t,os):=by
 have a:=zA5;have c:=a.ends;have j:(Value.ref C::.ref B::tF).contains (.type "ValueError")=true:=rfl;have c:(Value.ref C::.ref B::tF).contains (.type "AttributeError")=false:=rfl;have e:(Value.ref C::.ref B::tF).contains (.type "NameError")=false:=rfl;refine codeAny_builtinAt a.entry ?_;unfold Builtin.«BaseException.__new__»;refine PySem.wpAt_bind ?_;show PySem.wpAt _ _ _ (stack >>= _) _ _ _;refine PySem.wpAt_bind (PySem.wpAt_stack λp f=>PySem.wpAt_of_wpAny ?_);wp_walk;refine PySem.wpAt_of_wpAny ?_;rw[a.owner]
 repeat (first|with_reducible calc wpAny_madeHere_exc a.canon b ?_|with_reducible calc aa7 b ?_|(with_reducible calc abu b ?_;first|rw[j]|rw[c]|rw[e])|wp_step)
 show R _ _;rw[aaZ];calc i
end
end
end L2
set_option maxHeartbeats 400000
namespace L2
open PySem PySem.Spec PyProof.Rows
section
structure j9(K:W.Frag)(C B:Addr):Prop where
 ob:∃nm q N bs sn sub ab col dd k0 k1 k2 k3 k5,K.lookup C=some (excClassObj nm q C N bs (.ref B::tF) true sn sub ab col dd k0 k1 k2 k3 k5 "ValueError.__new__")
 ga:W.findIn K (.ref C) "__getattribute__"=some (some (.builtin "BaseException.__getattribute__"))
 gt:W.findIn K (.ref C) "__getattr__"=some none
 sa:W.findIn K (.ref C) "__setattr__"=some (some (.builtin "object.__setattr__"))
 cl:W.findIn K (.ref C) "__class__"=some (some (.builtin "object.__class__"))
 cg:W.specialIn K (.builtin "object.__class__") "__get__"=some (some (.builtin "getset_descriptor.__get__"))
 ct:W.takesIn K (.builtin "object.__class__")=some true
 kp:W.keepIn K (.ref C)=true
theorem j9.cd{K:W.Frag}{C B:Addr}(c:j9 K C B):∃cd:ClassData,W.clsIn K C=some cd/\cd.mro=.ref C::.ref B::tF/\cd.hasDict=true:=by
 let(d,q,N,f,g,a,h,b,i,j,k,l,m,n,e):=c.ob;calc(_,by unfold W.clsIn;rw[e],rfl,rfl)
theorem j9.mro{K:W.Frag}{C B:Addr}(c:j9 K C B)(v:Value):W.mroIn K C v=some ((.ref C::.ref B::tF).contains v):=by
 let(cd,e,a,_):=c.cd;unfold W.mroIn;rw[e,Option.bind_some,a];rfl
section
variable {prog:Program}{w:World}{A:Around}{E:Value->Shared->Prop}{s:Shared}{K:W.Frag}{x C B:Addr}{ox:Obj}{od:Option Obj}{name:Str}
open PySem.W in
open PySem.W in
theorem BE{g a:Value}{b:Tok}{R:Result->Shared->Prop}(X:K.In s.heap)(I:InstAt s.heap x ox C od)(c:j9 K C B)(f:findObj K C od name=some (.bind g a))
  (h:∀A,wpAny (model prog w) A (call g [a,.ref x,.ref C]) (λv s'=>R (.ok (.ret v)) s') (λe s'=>R (.error e) s') s):
  codeAny (model prog w) A (.call (.builtin "BaseException.__getattribute__") ([.ref x,.str name b],[])) R s:=by
 have i:=PySem.F.attrBase_ValueError;have j:builtinKind "BaseException.__getattribute__"=some .slot:=by decide +kernel
 have k:splitId "BaseException.__getattribute__"=some (("BaseException"),"__getattribute__"):=by decide +kernel
 have e:=I.type (M:=model prog w);have l:mroIn K C (.type "BaseException")=some true:=(c.mro _).trans rfl;have L2:Looks (model prog w) s.heap (isInstance (.ref x) (.type "BaseException")) true:=e.andThen (looks_mroIn X l);refine codeAny_call_builtin i.ga.plain PySem.F.entry_bexc_ga (@check_slot (model prog w) _ _ s "BaseException.__getattribute__" "BaseException" "__getattribute__" (.ref x) [.str name b] [] _ j k L2 (PySem.F.args_bexc_ga _ _) ?_);let(c,m,d,t,n):=s;have b:=looks_find (M:=model prog w) X I f;refine j' (K' (j' (K' (j' (e.here (j' (b.here ?_)))))));show wpAny _ _ (Builtin.ObjectAttr.bindTo g a (.ref x) (.ref C)) _ _ _;exact j' (aa8 (aa2 (h _) (λv s' z=>K' z) λ_ _ z=>z))
end
end
section
section
variable {prog:Program}{w:World}{A:Around}{E:Value->Shared->Prop}{s:Shared}{K:W.Frag}{x C B:Addr}{ox:Obj}{od:Option Obj}{name:Str}
open PySem.W in
open PySem.W in
theorem Sw{Q:Option Value->Shared->Prop}(X:K.In s.heap)(I:InstAt s.heap x ox C od)(c:j9 K C B)(h:Q (some (.ref C)) {s with toks:=s.toks+1}):
  wpAny (model prog w) A (getAttr? (.ref x) "__class__") Q E s:=by
 let(a,g,d,t,b):=s;have f:=PySem.F.attrBase_ValueError;have i:=I.type (M:=model prog w);have j:=looks_findIn (M:=model prog w) X c.ga;have L2:=looks_findIn (M:=model prog w) X c.gt;have k:mroIn K C (.type "object")=some true:=(c.mro _).trans rfl;have l:findObj K C od "__class__"=some (.bind (.builtin "getset_descriptor.__get__") (.builtin "object.__class__")):=by
  let(cd,e,_):=c.cd;unfold findObj;rw[e,Option.bind_some,c.cl,Option.bind_some];simp[c.cg,c.ct]
 unfold getAttr? getAttrBy? getAttrBy;calc j' (wpAny_mkText (j' (wpAny_attempt (aa8 (j' (i.at (j' (j.at ?_))))))));show wpAny _ _ (getAttrByItsOwn _ _ _ _ _ _) _ _ _;unfold getAttrByItsOwn callGetattribute boundAndCalled;calc j' (L2.at (j' (wpAny_attempt (aa8 ?_))));simp only[Bool.false_and,Bool.false_eq_true,if_false];rw[f.ga.bind];calc j' (K' (wpAny_call ?_));calc BE (s:=(a,g,d,t+1,b)) X I c l λe=>?_;calc wpAny_call (class_get (s:=(a,g,d,t+1,b)) (ox:=ox) (od:=od) X I k ?_);show wpAny _ _ (handedOut (.ref C)) _ _ _;exact K' (K' h)
open PySem.W in
theorem zb(c:j9 K C B):KitX K (.ref x) (.ref C) (λh=>∃ox od,InstAt h x ox C od) where
 ty:=λ_ _ _ I=>let ⟨_,_,I⟩:=I;I.type
 it:=λ_ _ X _=>by
  let(i,q,N,j,l,a,m,b,g,o,p,r,t,u,d):=c.ob;intro n v y z k q;unfold isType loadHead;exact j' (wpAny_loadPart (k _ _ (X _ _ d)) (K' q))
 ne:=λh v g y n z X w=>by
  let(i,q,N,j,l,a,m,b,g,o,p,r,t,u,d):=c.ob;calc Bool.eq_false_iff.mpr λq=>?_;have e:C=v:=Value.ref.inj (beq_iff_eq.mp q);subst e;have z:=(X _ _ d).symm.trans w;have a:=congrArg (Option.map Obj.cls) z;simp at a
 ca:=λX I k=>let ⟨_,_,I⟩:=I;Sw X I c k
end
end
section
def XOb(C:Addr)(d:Option Addr)(c:Bool)(a:Addr)(h:Heap):Prop:=∃b e,h.get? a=some ((.ref C,d,.fields b,e):Obj)/\(c=true->b[1]?=some .none)
noncomputable abbrev XO(a C:Addr)(d:Option Addr)(b:Bool):HO:=.ext (XOb C d b a)
def XDb(c:List (Str×V))(a:Addr)(h:Heap):Prop:=∃b,h.Ns1 a b/\(∀f,j4 (c.lookup f) (b f))/\PySem.Within b (c.map (·.1))
abbrev XD(a:Addr)(b:List (Str×V)):HO:=.ext (XDb b a)
section
variable {P:Program}{w:World}{H:Hp}{h:Heap}{a C:Addr}{d:Option Addr}{fl:Bool}
theorem PH{b:Array Value}{c:Array (Option Value)}(e:h.get? a=some ((.ref C,d,.fields b,c):Obj))(f:fl=true->b[1]?=some .none):cA P w H h a (XO a C d fl):=
 ((b,c,e,f),(_,e),λ_ _ (b,c,e,f) k=>(b,c,k _ e,f))
theorem Sx(x:cA P w H h a (XO a C d fl)):XOb C d fl a h:=x.1
theorem IJ{b:List (Str×V)}(x:cA P w H h a (XD a b)):XDb b a h:=x.1
end
end
section
section
variable {X:Cx}{pins:List (Addr×Obj)}{σ:St}{H:Hp}{s:Shared}{a C B dx:Addr}{fs:List (Str×V)}{f:Str}{v:V}{A:Around}{E:Value->Shared->Prop}
theorem xR{b:Bool}(I:Inv X pins σ H s){d:Option Addr}(e:H a=some (XO a C d b)):∃vs c,s.heap.get? a=some ((.ref C,d,.fields vs,c):Obj)/\(b=true->vs[1]?=some .none):=Sx (I.aW a _ e)
theorem IK{c:Bool}(I:Inv X pins σ H s){d:Option Addr}(e:H a=some (XO a C d c)):∃vs b,s.heap.get? a=some ((.ref C,d,.fields vs,b):Obj):=by
 let(vs,b,h,_):=xR I e;calc(vs,b,h)
theorem BG{f:Bool}{c:Value}{b:Bool}{d:Option Addr}{Q:Value->Shared->Prop}(I:Inv X pins σ H s)(e:H a=some (XO a C d f))(g:∀dx,d=some dx->∃fs,H dx=some (XD dx fs))(i:j9 X.K C B)
  (k:W.kitOne X.K (.ref C) c=some b) (h:∀f,Q (.bool b) {s with toks:=f}):wpAny (model X.prog X.w) A (call (.builtin "isinstance") [.ref a,c]) Q E s:=by
 calc W.kia_one (zb i) I.il ?_ k (λz=>nomatch z) h;let(b,c,q):=IK I e
 cases d with
 |none=>calc(_,none,q,rfl,rfl,aa4)
 |some dx=>
  let(fs,z):=g dx rfl;let(_,(o,_,_,b,_),_):=IJ (I.aW dx _ z);calc(_,some o,q,rfl,rfl,b)
end
end
section
variable {rest:List Value}{E:Value->Shared->Prop}
section
variable {prog:Program}{w:World}{A:Around}{h:Heap}{g:Array GenState}{d:Drawn}{t:Nat}{os:OsState}
variable {nm q:Str}{C B N:Addr}{bs:List Value}{sn:List Str}{sub:List Value}{ab:Bool}{col:Option Bool}{dd:Option Addr}{k0 k1 k2 k3 k5:Option Value}
theorem zc{M:Model}{e:Addr}{a:Obj}{Q:Unit->Shared->Prop}
  (b:h.get? C=some (excClassObj nm q C N bs (.ref B::tF) true sn sub ab col dd k0 k1 k2 k3 k5 "ValueError.__new__")) (c:h.get? e=some a) (f:a.cls=.ref C) (i:Q ⟨⟩ (h,g,d,t,os)):
  wpAny M A (checkBuiltinCall "ValueError.__init__" (.ref e::rest,[])) Q E (h,g,d,t,os):=by
 have a:=zA5;have j:(Value.ref C::.ref B::tF).contains (.type "ValueError")=true:=rfl;have k:=a.noStar;simp only[checkBuiltinCall,a.initKind,a.initSplit,a.initRow]
 repeat (first|(with_reducible calc aa7 c ?_;rw[f])|with_reducible calc aa7 b ?_|(with_reducible calc abu b ?_;rw[j])|wp_step)
 calc wpAny_onRaise ?_;rw[show ∀(a b:String) (n:Nat),Bind.check (.positional,"*","ValueError",.self,[("args",.varPos,false)]) a b n (List.map (λx=>x.fst) ({pos:=Value.ref e::rest}:Args).kw)=pure ⟨⟩ from
  λa b n=>check_star_args _ _ _ _ _ _]
 calc K' i
theorem zd{K:W.Frag}{Q:PySem.Fin->Shared->Prop}(X:K.In h)
    (c:h.get? C=some (excClassObj nm q C N bs (.ref B::tF) true sn sub ab col dd k0 k1 k2 k3 k5 "ValueError.__new__"))
    (j:W.findIn K (.ref C) "__init__"=some (some (.builtin "ValueError.__init__")))
    (k:∀h' a,a[1]?=some .none->(∀b o,h.get? b=some o->h'.get? b=some o)->h'.get? (h.objs.size+1)=some ((.ref C,none,.fields a,#[]):Obj)->Q (.done (.ret (.ref (h.objs.size+1)))) (h',g,d,t,os)) (e:rest.length<=sizeLine):
    wpAny (model prog w) A (Builtin.«type.__call__» (.ref C::rest,[])) Q E (h,g,d,t,os):=by
  have f:=zA5
  repeat (first|with_reducible calc aa7 c ?_|with_reducible calc wpAny_madeBy_exc c ?_|wp_step)
  calc codeAny_call_builtin_code (Code.quiet_builtin _ f.quiet) (BD c ?_);calc Ff c ?_ e;show wpAny _ _ _ _ _ _;have i:∀b o,h.get? b=some o->((h.push {cls:=.type "tuple",data:=.seq rest.toArray}).push {cls:=.ref C,data:=.fields #[.ref h.objs.size,.none,.none,.none,.bool false,.none]}).get? b=some o:=
    λb o e=>P' _ (P' _ e)
  have a:=i _ _ c;have e:=X.keeps i;have c:((h.push {cls:=.type "tuple",data:=.seq rest.toArray}).push
      {cls:=.ref C,data:=.fields #[.ref h.objs.size,.none,.none,.none,.bool false,.none]}).get? (h.objs.size + 1)=some
      {cls:=.ref C,data:=.fields #[.ref h.objs.size,.none,.none,.none,.bool false,.none]}:=by heap_get
  have i:(Value.ref C::.ref B::tF).contains (.ref C)=true:=by simp
  unfold isInstance
  repeat (first|with_reducible calc aa7 c ?_|(with_reducible calc abu a ?_;rw[i])|wp_step)
  show wpAny _ _ (typeLookup (.ref C) _) _ _ _;calc(W.looks_findIn e j).here ?_;calc aa8 (j' (wpAny_of_eq (f.init.bind _) ?_));calc j' (wpAny_call (codeAny_call_builtin f.init.plain f.initEntry (zc a c rfl ?_)));wp_walk;refine k _ #[.ref (h.objs.size+2),.none,.none,.none,.bool false,.none] rfl (λb o i=>?_) ?_
  · rw[abl _ _ (abk (Nat.lt_succ_of_lt (V' i)))];exact P' _ (P' _ (P' _ i))
  · rw[aa5 _ (P' _ c) rfl];simp only[Heap.size_push];rfl
theorem Sz{K:W.Frag}{Q:Value->Shared->Prop}(X:K.In h)
  (a:h.get? C=some (excClassObj nm q C N bs (.ref B::tF) true sn sub ab col dd k0 k1 k2 k3 k5 "ValueError.__new__"))
  (e:W.findIn K (.ref C) "__init__"=some (some (.builtin "ValueError.__init__")))
  (f:∀h' c,c[1]?=some .none->(∀b o,h.get? b=some o->h'.get? b=some o)->h'.get? (h.objs.size+1)=some ((.ref C,none,.fields c,#[]):Obj)->Q (.ref (h.objs.size+1)) (h',g,d,t,os)) (i:rest.length<=sizeLine):
  wpAny (model prog w) A (call (.ref C) rest) Q E (h,g,d,t,os):=by
 have b:=tc_lookup;have b:=tc_bind (.ref C);have b:((h,g,d,t,os):Shared).TypeIs (.ref C) "type":=(_,a,rfl)
 calc wpAny_call (codeAny_of_tree ?_);show wpAny _ _ (callAny (.ref C) _) _ _ _
 repeat (any_goals (first|assumption|with_reducible calc aa7 a ?_|wp_step))
 calc(rfl,?_);calc codeAny_call_builtin_at (Code.quiet_builtin _ ⋯) entry_typeCall (wpAny_check_type_call_sub a (zd X a e ?_ i));calc f
end
structure oS(K:W.Frag)(mg:Str->Option Value)(x:Str)(C B:Addr):Prop where
 cl:j9 K C B
 init:W.findIn K (.ref C) "__init__"=some (some (.builtin "ValueError.__init__"))
 mg:mg x=some (.ref C)
def tX0(C:Addr)(t:TA):TE:=λσ H Q=>t σ H λvs b=>vs.length<=1/\∀a,b a=none->Q (.ref a) (upd b a (XO a C none true))
section
variable {X:Cx}{pins:List (Addr×Obj)}{σ:St}{H:Hp}{s:Shared}{C B:Addr}{x:Str}{p pos:Pos}{e:Expr}{es:List Expr}{t:TA}
theorem SA{Q:VK}{us:List Value}(M:oS X.K X.mg x C B)(I:Inv X pins σ H s)(b:us.length<=1)(h:∀a,H a=none->Q (.ref a) (upd H a (XO a C none true))):
  wpAny (model X.prog X.w) X.A (call (.ref C) us) (EP X pins σ Q) X.xe s:=by
 let(d,q,N,f,g,b,i,c,j,k,l,m,n,o,e):=M.cl.ob;let(b,g,d,t,c):=s;have c:H (b.objs.size+1)=none:=I.aW.fresh (Nat.le_succ _);calc Sz (h:=b) I.il (I.il _ _ e) M.init (λi j d f g=>(V.ref (b.objs.size+1),_,I.laid (a:=b.objs.size+1) f (Nat.le_succ _) (PH g λ_=>d),rfl,h _ c)) (by rw[abe];lia)
theorem Xn(M:oS X.K X.mg x C B)(b:PA X (e::es) t)(a:Gl X x:=by rfl)(c:(x==("__debug__":Str))=false:=by decide)
  (d:dY e=true:=by rfl) (f:es.all dY=true:=by rfl):PE X (.Call (.Name x p) (e::es) [] pos) (tX0 C t):=by
 walk_at "xc";refine wpAny_Call_Name_kw (j5 I a M.mg ?_ c);refine W.callWith_K (h₀:=X.base) I.ok.mod.A0 M.cl.kp (cU (b pos pins s σ H _ I h) λc i (j,k,a,r,g,q)=>(a.il,?_)) (eJ d) (fT f);exact SA M a (by show c.length<=1;rw[<-r.length];exact g) q
end
end
end L2
set_option maxHeartbeats 4000000
namespace PySem
variable {a j:Addr}{Q:Value->Shared->Prop}
section
variable {prog:Program}{w:World}{A:Around}{E:Value->Shared->Prop}{s:Shared}
theorem rM{n:Nat}{c:Array Value}{v:Value}(b:s.heap.IsTupleIter j a n)(f:s.heap.IsTuple a c)(h:c[n]?=some v)
  (q:∀g,g.IsTupleIter j a (n+1)->Heap.SameBut j s.heap g->Q v {s with heap:=g}):wpAny (model prog w) A (Builtin.SmallTypes.nextOf (.ref j)) Q E s:=by
 let(g,e,c,d):=id b;let(k,g,_,l,i):=f;unfold Builtin.SmallTypes.nextOf;refine j' (abb (name:=Str.ofString "__next__") b.typeIs F.slot_tuple_iterator_next (abn F.slot_tuple_iterator_next b.typeIs F.entry_tuple_iterator_next ?_ (F.args_tuple_iterator_next_1 _)));refine j' (m:=field (.ref j) 0) (aa6 e d (x:=.ref a) rfl ?_);show wpAny _ _ (if (Value.ref a==Value.none)=true then _ else _) _ _ _;rw[if_neg (by exact T')];refine j' (m:=field (.ref j) 1) (aa6 e d (x:=.int n 0) rfl ?_);refine j' (m:=seqItems? (.ref a)) (abD g i ?_);simp only[Int.toNat_natCast,h];refine j' (wpAny_setField e d nofun (K' (v,rfl,K' (q _ (_,aa5 _ e (Obj.isFreed_of_fields (abp d _)),(Obj.cls_mapFields ..).trans c,?_) (Heap.SameBut.update ..)))));rw[abp d];simp[rawInt]
theorem tH{n:Nat}{c:Array Value}(f:A.handled=none)(b:s.heap.IsTupleIter j a n)(h:s.heap.IsTuple a c)(i:c[n]?=none)
  (q:∀g e,Heap.ExtBut j s.heap g->(∃o,g.get? e=some o/\o.cls=.type "StopIteration")->E (.ref e) {s with heap:=g}):wpAny (model prog w) A (Builtin.SmallTypes.nextOf (.ref j)) Q E s:=by
 let(g,e,c,d):=id b;let(k,c,_,l,g):=h;unfold Builtin.SmallTypes.nextOf;refine j' (abb (name:=Str.ofString "__next__") b.typeIs F.slot_tuple_iterator_next (abn F.slot_tuple_iterator_next b.typeIs F.entry_tuple_iterator_next ?_ (F.args_tuple_iterator_next_1 _)));refine j' (m:=field (.ref j) 0) (aa6 e d (x:=.ref a) rfl ?_);show wpAny _ _ (if (Value.ref a==Value.none)=true then _ else _) _ _ _;rw[if_neg (by exact T')];refine j' (m:=field (.ref j) 1) (aa6 e d (x:=.int n 0) rfl ?_);refine j' (m:=seqItems? (.ref a)) (abD c g ?_);simp only[Int.toNat_natCast,i];refine j' (wpAny_rule (j' (wpAny_setField e d nofun (j' (m:=newExc (.type "StopIteration") []) ?_))));simp only[newExc,newTuple];refine j' (aba (j' (m:=firstArgMember _ _) (wpAny_of_eq (a:=Value.none) (by first|rfl|(simp only[firstArgMember];rfl)) (aba ?_ (by size_fits)))) (by size_fits));simp only[raiseNew];refine j' (wpAny_handled ?_)
 first|rw[show A.in1.handled=none from f]|rw[f]
 calc j' (K' (wpAny_throw (q _ _ (((Heap.SameBut.update ..).extBut.push _).push _) (_,aas _ rfl,rfl))))
end
theorem Draws.tup{prog:Program}{w:World}{A:Around}(f:A.handled=none)(j a:Addr)(l:a≠j)(c:Array Value):
  Draws prog w A j [j,a] c.size (λi v=>c[i]?=some v) (λi h=>h.IsTupleIter j a i/\h.IsTuple a c) where
 live:=λ_ _ b=>let ⟨o,d,_⟩:=b.1;(o,d)
 frame:=λ_ _ _ b k=>(b.1.at λo e=>k j nofun o e,b.2.at λo e=>k a nofun o e)
 item:=λi s Q E d b q=>rM b.1 b.2 (v:=c[i]) (by simp[d]) λg h e=>q _ g s.toks (by simp[d]) (h,b.2.extBut e.extBut l) e
 done:=λs Q E b q=>tH f b.1 b.2 nofun q
def BH(b:Bool)(h:Heap)(a:Addr)(c:Array Value):Prop:=if b=true then h.IsList a c else h.IsTuple a c
def p9(b:Bool)(h:Heap)(j a:Addr)(n:Nat):Prop:=if b=true then h.IsListIter j a n else h.IsTupleIter j a n
theorem p9.at{b:Bool}{h h':Heap}{n:Nat}(x:p9 b h j a n)(k:∀o,h.get? j=some o->h'.get? j=some o):p9 b h' j a n:=by
 cases b
 ·exact Heap.IsTupleIter.at x k
 ·calc Heap.IsListIter.at x k
theorem p9.obj{b:Bool}{h:Heap}{n:Nat}(x:p9 b h j a n):∃o,h.get? j=some o/\∀v,o.data≠.cell v:=by
 cases b<;>(let(o,e,c,d):=x;calc(o,e,λv z=>by rw[d]at z;cases z))
theorem Draws.sq{prog:Program}{w:World}{A:Around}(d:A.handled=none)(b:Bool)(j a:Addr)(e:a≠j)(c:Array Value):
  Draws prog w A j [j,a] c.size (λi v=>c[i]?=some v) (λi h=>p9 b h j a i/\BH b h a c):=by
 cases b
 ·exact Draws.tup d j a e c
 ·calc Draws.list d j a e c
end PySem
namespace PySem
variable {Q:Option Value->Shared->Prop}
structure ZA(z ti to i1 i2:Addr)(f1 f2:List Addr):Prop where
 a1:ti≠z
 a2:to≠z
 a3:i1≠z
 a4:i2≠z
 a5:ti≠to
 a6:ti≠i1
 a7:ti≠i2
 a8:to≠i1
 a9:to≠i2
 a10:i1≠i2
 b1:z∉f1
 b2:to∉f1
 b3:i2∉f1
 c1:z∉f2
 c2:to∉f2
 c3:i1∉f2
section
variable {prog:Program}{w:World}{A:Around}{E:Value->Shared->Prop}{s:Shared}{z ti to i1 i2:Addr}{f1 f2:List Addr}{n1 n2 k:Nat}{P1 P2:Nat->Value->Prop}{S1 S2:Nat->Heap->Prop}{a b:Value}
theorem Fg{Q:Value->Shared->Prop}(Z:ZA z ti to i1 i2 f1 f2)(B:Draws prog w A i1 f1 n1 P1 S1)(C:Draws prog w A i2 f2 n2 P2 S2)(hz:IsZip s.heap z ti to .none)(e:IsPair s.heap ti (.ref i1) (.ref i2))(u:IsPair s.heap to a b)
  (i:S1 k s.heap) (F:S2 k s.heap) (l:k<n1) (G:k<n2)
  (q:∀x y g d,P1 k x->P2 k y->IsZip g z ti to (rawInt s.heap.objs.size)->IsPair g to x y->S1 (k + 1) g->S2 (k + 1) g->IsPair g s.heap.objs.size x y->g.objs.size=s.heap.objs.size + 1->
   (∀c o,c≠z->c≠to->c≠i1->c≠i2->s.heap.get? c=some o->g.get? c=some o)->Q (.ref s.heap.objs.size) {s with heap:=g,toks:=d}):
  wpAny (model prog w) A (Builtin.«zip.__next__» ([.ref z],[])) (λd s'=>∃v,d=.done (.ret v)/\Q v s') E s:=by
 calc j' (m:=field (.ref z) 2) (aa6 hz rfl (x:=.bool false) rfl (j' (m:=field (.ref z) 3) (aa6 hz rfl (x:=.ref ti) rfl ?_)));calc j' (abD e rfl (j' (m:=Builtin.SmallTypes.ownedTupleIsFree (.ref z)) ?_));unfold Builtin.SmallTypes.ownedTupleIsFree;calc j' (aa6 hz rfl (x:=.none) rfl (K' ?_));simp only[if_true];refine j' (wpAny_rule (j' (aa6 hz rfl (x:=.ref to) rfl (j' (wpAny_setField_rec hz nofun λj p r=>?_)))))
 replace p:IsZip j z ti to .ellipsis:=p
 calc j' ?_;simp only[List.zipIdx_cons,List.zipIdx_nil,List.forIn_cons,List.forIn_nil];calc j' (j' (wpAny_onRaise (j' (m:=Builtin.SmallTypes.nextOf (.ref i1)) ?_)));refine B.item k _ _ _ l (B.frame _ _ _ i λc g o e=>r.extBut c o (λh=>Z.b1 (h▸g)) e) λx d l L J i=>K' ?_
 replace i:Heap.SameBut i1 j d:=i
 have l:IsPair d to a b:=i.extBut _ _ Z.a8 (r.extBut _ _ Z.a2 u);refine j' (abD l rfl (j' (wpAny_updateSeq_pair l λn t j=>j' (wpAny_letGo (K' ?_)))))
 replace t:IsPair n to x b:=t
 replace j:Heap.SameBut to d n:=j
 calc j' (j' (wpAny_onRaise (j' (m:=Builtin.SmallTypes.nextOf (.ref i2)) ?_)));refine C.item k _ _ _ G (C.frame _ _ _ F λc g o e=>j.extBut c o (λh=>Z.c2 (h▸g)) (i.extBut c o (λh=>Z.c3 (h▸g)) (r.extBut c o (λh=>Z.c1 (h▸g)) e))) λy u d M K l=>K' ?_
 replace l:Heap.SameBut i2 n u:=l
 have F:IsPair u to x b:=l.extBut _ _ Z.a9 t;refine j' (abD F rfl (j' (wpAny_updateSeq_pair F λd v n=>j' (wpAny_letGo (K' (K' ?_))))))
 replace v:IsPair d to x y:=v
 replace n:Heap.SameBut to u d:=n
 calc j' (abD v rfl (j' (wpAny_newTuple ?_)));have t:d.objs.size=s.heap.objs.size:=by rw[n.1,l.1,j.1,i.1,r.1]
 have u:IsZip d z ti to .ellipsis:=n.extBut _ _ Z.a2.symm (l.extBut _ _ Z.a4.symm (j.extBut _ _ Z.a2.symm (i.extBut _ _ Z.a3.symm p)));have N:∀c o,c≠z->c≠to->c≠i1->c≠i2->s.heap.get? c=some o->d.get? c=some o:=λc o p F G I e=>n.extBut _ _ F (l.extBut _ _ I (j.extBut _ _ F (i.extBut _ _ G (r.extBut _ _ p e))));have O:S1 (k+1) d:=B.frame _ _ _ J λc g o e=>n.extBut c o (λh=>Z.b2 (h▸g)) (l.extBut c o (λh=>Z.b3 (h▸g)) (j.extBut c o (λh=>Z.b2 (h▸g)) e));have P:S2 (k+1) d:=C.frame _ _ _ K λc g o e=>n.extBut c o (λh=>Z.c2 (h▸g)) e;have l:z<d.objs.size:=V' u;refine j' (m:=Builtin.SmallTypes.ownedTupleHandOut (.ref z) (.ref d.objs.size)) ?_;unfold Builtin.SmallTypes.ownedTupleHandOut;have i:IsZip (d.push {cls:=.type "tuple",data:=.seq #[x,y]}) z ti to .ellipsis:=P' _ u;refine j' (wpAny_setField_rec i nofun λn j J=>?_)
 replace j:IsZip n z ti to (rawInt d.objs.size):=j
 refine wpAny_setField_rec j nofun λn i u=>?_
 replace i:IsZip n z ti to (rawInt d.objs.size):=i
 have r:∀c o,c≠z->d.get? c=some o->n.get? c=some o:=λc o p e=>u.extBut _ _ p (J.extBut _ _ p (P' _ e));have K:IsPair n d.objs.size x y:=u.extBut _ _ (abk l) (J.extBut _ _ (abk l) (aas _ rfl));have j:n.objs.size=d.objs.size+1:=by rw[u.1,J.1,aaZ]
 rw[t]at i K j;calc K' (_,rfl,?_);show Q (.ref d.objs.size) _;rw[t];calc q x y n _ L M i (r _ _ Z.a2 v) (B.frame _ _ _ O λc g o e=>r c o (λh=>Z.b1 (h▸g)) e) (C.frame _ _ _ P λc g o e=>r c o (λh=>Z.c1 (h▸g)) e) K j λc o p F G I e=>r c o p (N c o p F G I e)
theorem IM{Q:Fin->Shared->Prop}(Z:ZA z ti to i1 i2 f1 f2)(J:Draws prog w A i1 f1 n1 P1 S1)(P:Draws prog w A i2 f2 n2 P2 S2)(hz:IsZip s.heap z ti to .none)(S:IsPair s.heap ti (.ref i1) (.ref i2))(T:IsPair s.heap to a b)
  (U:S1 k s.heap) (W:S2 k s.heap) (l:k=n1\/(k<n1/\k=n2))
  (q:∀g e X,(∀c o,c≠z->c≠to->c≠i1->c≠i2->s.heap.get? c=some o->g.get? c=some o)->(∃o,g.get? e=some o/\o.cls=.type "StopIteration")->E (.ref e) {s with heap:=g,toks:=X}):
  wpAny (model prog w) A (Builtin.«zip.__next__» ([.ref z],[])) Q E s:=by
 calc j' (m:=field (.ref z) 2) (aa6 hz rfl (x:=.bool false) rfl (j' (m:=field (.ref z) 3) (aa6 hz rfl (x:=.ref ti) rfl ?_)));calc j' (abD S rfl (j' (m:=Builtin.SmallTypes.ownedTupleIsFree (.ref z)) ?_));unfold Builtin.SmallTypes.ownedTupleIsFree;calc j' (aa6 hz rfl (x:=.none) rfl (K' ?_));simp only[if_true];refine j' (wpAny_rule (j' (aa6 hz rfl (x:=.ref to) rfl (j' (wpAny_setField_rec hz nofun λK F r=>?_)))))
 replace F:IsZip K z ti to .ellipsis:=F
 calc j' ?_;simp only[List.zipIdx_cons,List.zipIdx_nil,List.forIn_cons,List.forIn_nil];calc j' (j' (wpAny_onRaise (j' (m:=Builtin.SmallTypes.nextOf (.ref i1)) ?_)));have t:=J.frame _ _ _ U λc u o e=>r.extBut c o (λh=>Z.b1 (h▸u)) e;rcases l with l|⟨Y,l2⟩
 ·subst l;calc J.done _ _ _ t λp x d L=>?_;let(M,j,v):=L
  replace d:Heap.ExtBut i1 K p:=d
  have R:IsZip p z ti to .ellipsis:=d _ _ Z.a3.symm F;have n:x≠z:=λy=>by subst y;rw[R]at j;cases j;simp at v
  exact wpAny_setField_rec R nofun λG _ i=>q G x s.toks (λc o B _ N _ y=>i.extBut _ _ B (d _ _ N (r.extBut _ _ B y))) (M,i.extBut _ _ n j,v)
 ·subst l2;refine J.item k _ _ _ Y t λx p O g l d=>K' ?_
  replace d:Heap.SameBut i1 K p:=d
  have g:IsPair p to a b:=d.extBut _ _ Z.a8 (r.extBut _ _ Z.a2 T);refine j' (abD g rfl (j' (wpAny_updateSeq_pair g λG l i=>j' (wpAny_letGo (K' ?_)))))
  replace i:Heap.SameBut to p G:=i
  calc j' (j' (wpAny_onRaise (j' (m:=Builtin.SmallTypes.nextOf (.ref i2)) ?_)));calc P.done _ _ _ (P.frame _ _ _ W λc u o e=>i.extBut c o (λh=>Z.c2 (h▸u)) (d.extBut c o (λh=>Z.c3 (h▸u)) (r.extBut c o (λh=>Z.c1 (h▸u)) e))) λg x I L=>?_;let(M,j,v):=L
  replace I:Heap.ExtBut i2 G g:=I
  have C:IsZip g z ti to .ellipsis:=I _ _ Z.a4.symm (i.extBut _ _ Z.a2.symm (d.extBut _ _ Z.a3.symm F));have n:x≠z:=λy=>by subst y;rw[C]at j;cases j;simp at v
  calc wpAny_setField_rec C nofun λg _ e=>q g x O (λc o B l N p y=>e.extBut _ _ B (I _ _ p (i.extBut _ _ l (d.extBut _ _ N (r.extBut _ _ B y))))) (M,e.extBut _ _ n j,v)
end
section
variable {prog:Program}{w:World}{A:Around}{E:Value->Shared->Prop}{s:Shared}{z ti to i1 i2:Addr}{f1 f2:List Addr}{n1 n2 k:Nat}{P1 P2:Nat->Value->Prop}{S1 S2:Nat->Heap->Prop}{a b:Value}
theorem vh(Z:ZA z ti to i1 i2 f1 f2)(e:Draws prog w A.in1 i1 f1 n1 P1 S1)(f:Draws prog w A.in1 i2 f2 n2 P2 S2)(hz:IsZip s.heap z ti to .none)(h:IsPair s.heap ti (.ref i1) (.ref i2))(i:IsPair s.heap to a b)
  (j:S1 k s.heap) (l:S2 k s.heap) (m:k<n1) (n:k<n2)
  (q:∀x y g d,P1 k x->P2 k y->IsZip g z ti to (rawInt s.heap.objs.size)->IsPair g to x y->S1 (k + 1) g->S2 (k + 1) g->IsPair g s.heap.objs.size x y->g.objs.size=s.heap.objs.size + 1->
   (∀c o,c≠z->c≠to->c≠i1->c≠i2->s.heap.get? c=some o->g.get? c=some o)->Q (some (.ref s.heap.objs.size)) {s with heap:=g,toks:=d}):
  wpAny (model prog w) A (pyNext (.ref z)) Q E s:=by
 have c:s.TypeIs (.ref z) "zip":=(_,hz,rfl)
 unfold pyNext;exact j' (wpAny_attempt (abb (name:=Str.ofString "__next__") c F.slot_zip_next (abn F.slot_zip_next c F.entry_zip_next
  (Fg Z e f hz h i j l m n λx y g d c o p r t u v B C=>K' (q x y g d c o p r t u v B C)) (F.args_zip_next_1 _))))
theorem xS(Z:ZA z ti to i1 i2 f1 f2)(f:Draws prog w A.in1 i1 f1 n1 P1 S1)(h:Draws prog w A.in1 i2 f2 n2 P2 S2)(hz:IsZip s.heap z ti to .none)(i:IsPair s.heap ti (.ref i1) (.ref i2))(j:IsPair s.heap to a b)
  (m:S1 k s.heap) (n:S2 k s.heap) (l:k=n1\/(k<n1/\k=n2))
  (q:∀g d,(∀c o,c≠z->c≠to->c≠i1->c≠i2->s.heap.get? c=some o->g.get? c=some o)->Q none {s with heap:=g,toks:=d}):wpAny (model prog w) A (pyNext (.ref z)) Q E s:=by
 have c:s.TypeIs (.ref z) "zip":=(_,hz,rfl)
 unfold pyNext;refine j' (wpAny_attempt (abb (name:=Str.ofString "__next__") c F.slot_zip_next (abn F.slot_zip_next c F.entry_zip_next
  (IM Z f h hz i j m n l λg e d c (o,p,r)=>?_) (F.args_zip_next_1 _))))
 calc j' (wpAny_isInstance (T:="StopIteration") (b:=true) (o,p,r) isSubtype_stop (K' (q _ _ c)))
end
noncomputable def Md(b:Bool)(a:Addr):Obj:=if b=true then {cls:=.type "list_iterator",data:=.fields #[.ref a,.int 0 0]} else {cls:=.type "tuple_iterator",data:=.fields #[.ref a,.int 0 0]}
noncomputable abbrev zz1(h:Heap)(b:Bool)(l:Addr):Heap:=h.push (Md b l)
noncomputable abbrev zz2(h:Heap)(b c:Bool)(l m:Addr):Heap:=(zz1 h b l).push (Md c m)
noncomputable abbrev zz3(h:Heap)(b c:Bool)(l m:Addr):Heap:=(zz2 h b c l m).push {cls:=.type "tuple",data:=.seq #[.ref h.objs.size,.ref (zz1 h b l).objs.size]}
noncomputable abbrev zz4(h:Heap)(b c:Bool)(l m:Addr):Heap:=(zz3 h b c l m).push {cls:=.type "tuple",data:=.seq #[.none,.none]}
noncomputable abbrev SG(h:Heap)(b c:Bool)(l m:Addr):Heap:=(zz4 h b c l m).push {cls:=.type "zip",data:=.fields #[.none,.bool false,.bool false,.ref (zz2 h b c l m).objs.size,.ref (zz3 h b c l m).objs.size]}
theorem Fh(b c:Bool)(l m:Addr)(xs i:Array Value):
  Meets (Builtin.«zip.__new__» ([.type "zip",.ref l,.ref m],[])) (λ_ R s=>BH b s.heap l xs/\BH c s.heap m i/\R (.ok (.ret (.ref (zz4 s.heap b c l m).objs.size))) {s with heap:=SG s.heap b c l m}):=
 .of_wp λn w A R s h=>by
  let(a,g,d,e,f):=s;let(j,k,h):=h;have n:=sub_zip
  cases b<;>cases c
  ·have b:Heap.IsTuple (Shared.heap (a,g,d,e,f)) l xs:=j;have L2:Heap.IsTuple (Shared.heap (a.push {cls:=.type "tuple_iterator",data:=.fields #[.ref l,.int 0 0]},g,d,e,f)) m i:=Heap.IsTuple.push k _;wp_walk using abo b,abo L2;exact(_,rfl,h)
  ·have b:Heap.IsTuple (Shared.heap (a,g,d,e,f)) l xs:=j;have L2:Heap.IsList (Shared.heap (a.push {cls:=.type "tuple_iterator",data:=.fields #[.ref l,.int 0 0]},g,d,e,f)) m i:=Heap.IsList.push k _;wp_walk using abo b,wpAny_pyIter_list L2;exact(_,rfl,h)
  ·have b:Heap.IsList (Shared.heap (a,g,d,e,f)) l xs:=j;have L2:Heap.IsTuple (Shared.heap (a.push {cls:=.type "list_iterator",data:=.fields #[.ref l,.int 0 0]},g,d,e,f)) m i:=Heap.IsTuple.push k _;wp_walk using wpAny_pyIter_list b,abo L2;exact(_,rfl,h)
  ·have b:Heap.IsList (Shared.heap (a,g,d,e,f)) l xs:=j;have L2:Heap.IsList (Shared.heap (a.push {cls:=.type "list_iterator",data:=.fields #[.ref l,.int 0 0]},g,d,e,f)) m i:=Heap.IsList.push k _;wp_walk using wpAny_pyIter_list b,wpAny_pyIter_list L2;exact(_,rfl,h)
theorem tI(b:Bool)(a:Addr):(Md b a).isFreed=false:=by cases b<;>rfl
theorem BI{b:Bool}{h:Heap}{j a:Addr}(e:h.get? j=some (Md b a)):p9 b h j a 0:=by
 cases b
 ·exact(_,e,rfl,rfl)
 ·calc(_,e,rfl,rfl)
theorem IP{prog:Program}{w:World}{A:Around}{E:Value->Shared->Prop}{s:Shared}{b c:Bool}{l m:Addr}{xs f:Array Value}{Q:Value->Shared->Prop}(h:BH b s.heap l xs)(i:BH c s.heap m f)
  (q:∀g,IsZip g (s.heap.objs.size + 4) (s.heap.objs.size + 2) (s.heap.objs.size + 3) .none->IsPair g (s.heap.objs.size + 2) (.ref s.heap.objs.size) (.ref (s.heap.objs.size + 1))->
   IsPair g (s.heap.objs.size+3) .none .none->p9 b g s.heap.objs.size l 0->p9 c g (s.heap.objs.size+1) m 0->g.objs.size=s.heap.objs.size+5->
   (∀d o,s.heap.get? d=some o->g.get? d=some o)->Q (.ref (s.heap.objs.size + 4)) {s with heap:=g}):
  wpAny (model prog w) A (call (.type "zip") [.ref l,.ref m]) Q E s:=by
 calc callType_new F.called_zip ∅ (F.typeCall_zip_2 _ _) (F.newCall_zip_2 _ _) (λa=>F.args_object_init_3 a _ _) F.entry_zip_new (Fh b c l m xs f) (h,i,?_);have e:(zz1 s.heap b l).objs.size=s.heap.objs.size+1:=aaZ ..;have a:(zz2 s.heap b c l m).objs.size=s.heap.objs.size+2:=by rw[aaZ,e]
 have f:(zz3 s.heap b c l m).objs.size=s.heap.objs.size+3:=by rw[aaZ,a]
 have g:(zz4 s.heap b c l m).objs.size=s.heap.objs.size+4:=by rw[aaZ,f]
 have n:(SG s.heap b c l m).objs.size=s.heap.objs.size+5:=by rw[aaZ,g]
 have h:(SG s.heap b c l m).get? (zz4 s.heap b c l m).objs.size=some _:=aas _ rfl;have i:(SG s.heap b c l m).get? (zz3 s.heap b c l m).objs.size=some _:=P' _ (aas _ rfl);have j:(SG s.heap b c l m).get? (zz2 s.heap b c l m).objs.size=some _:=P' _ (P' _ (aas _ rfl));have k:(SG s.heap b c l m).get? (zz1 s.heap b l).objs.size=some (Md c m):=P' _ (P' _ (P' _ (aas _ (tI ..))));have p:(SG s.heap b c l m).get? s.heap.objs.size=some (Md b l):=P' _ (P' _ (P' _ (P' _ (aas _ (tI ..)))));show _/\_;rw[a,f,g]at h;rw[e,a]at j;rw[f]at i;rw[e]at k;rw[g];calc((_,h,rfl),q _ h j i (BI p) (BI k) n λd o x=>P' _ (P' _ (P' _ (P' _ (P' _ x)))))
theorem tJ(l:Addr)(e:Array Value):
  Meets (Builtin.«enumerate.__new__» ([.type "enumerate",.ref l],[])) (λ_ R s=>s.heap.IsTuple l e/\
   R (.ok (.ret (.ref (s.heap.push (Md false l)).objs.size))) {s with heap:=(s.heap.push (Md false l)).push {cls:=.type "enumerate",data:=.fields #[.none,.bool false,.ref s.heap.objs.size,rawInt 0,.none,.none]}}):=
 .of_wp λf w A R s h=>by
  let(i,g,d,k,m):=s;let(j,h):=h;have p:=sub_enumerate;have b:Heap.IsTuple (Shared.heap (i,g,d,k,m)) l e:=j;let(n,a,q,r,o):=id j
  replace a:i.get? l=some n:=a
  wp_walk using AutoSeq1.wpAny_loadPart' a;calc wpAny_stack_any λt=>K' ?_;split
  ·rename_i c _ _ _ _ _
   cases(c==Value.type "enumerate")
   ·wp_walk using AutoSeq1.wpAny_loadPart' a,abo b;exact(_,rfl,h)
   ·wp_walk using AutoSeq1.wpAny_loadPart' a,abo b;exact(_,rfl,h)
  ·wp_walk using AutoSeq1.wpAny_loadPart' a,abo b;calc(_,rfl,h)
end PySem
namespace L2
open PySem PySem.Spec PyProof.Rows
section
variable {a:Addr}{xs:List V}
section
variable {X:Cx}{pins:List (Addr×Obj)}{σ:St}{H:Hp}{s:Shared}
theorem Inv.Dk{t':Nat}{ch:List Addr}{h':Heap}(I:Inv X pins σ H s)(d:∀b∈ch,pU X pins H b)(k:∀b o,b∉ch->s.heap.get? b=some o->h'.get? b=some o):Inv X pins σ H {s with heap:=h',toks:=t'}:=by
 have f:∀b u,H b=some u->b∉ch:=λb u e z=>by rw[(d b z).1]at e;cases e
 refine I.step (g':=s.gens) (d':=s.drawn) (ch:=ch) (λb g=>?_) (λb o _ _ a e _=>k b o a e) (λb o _ _ a e _=>(o.slots,k b o a e)) (λ_ _ _ _ n=>n) (λb o a e=>(o,k b o a e)) (λ_ _ e=>e) (λ_ _ _ e=>e) (λb h e=>(#[],by rw[e];simp)) (λm h=>?_) (λb u e=>?_) I.bare
 ·let(n,i,p,j,l,m):=d b g;exact(j,i,l,m)
 ·let(o,g,i,j,r):=h;exact(o,g,i,k _ o (λz=>(d _ z).2.1 rfl) j,r)
 ·calc(I.aW b u e).aM (λc v a q=>k c v ?_ q) (λ_ q=>q) λ_ _ q=>q;rcases a with z | z
  ·rw[z];exact f b u e
  ·calc f c _ z
theorem Inv.Dl{t':Nat}{ch:List Addr}{h':Heap}{T:Addr}{g:List Value}(I:Inv X pins σ H s)(h:∀b∈ch,pU X pins H b)(k:∀b o,b∉ch->s.heap.get? b=some o->h'.get? b=some o)
  (i:s.heap.objs.size<=T) (l:Vals xs g) (hz:xs.length<=sizeLine) (p:IsTup h' T g.toArray):Inv X pins σ (upd H T (.tup xs)) {s with heap:=h',toks:=t'}:=by
 have j:∀b u,H b=some u->b∉ch:=λb u e z=>by rw[(h b z).1]at e;cases e
 have d:H T=none:=I.aW.fresh i;have m:∀b o,s.heap.get? b=some o->b≠T:=λb o e=>aaN (W' (V' e) i);refine I.step (g':=s.gens) (d':=s.drawn) (ch:=ch) (λb f=>?_) (λb o _ _ a e _=>k b o a e) (λb o _ _ a e _=>(o.slots,k b o a e)) (λb o _ e n=>by rw[ay (m b o e)];calc n) (λb o a e=>(o,k b o a e))
  (λb t e=>by rw[ay (au e d)];calc e) (λb o u e=>by rw[ay (au e d)];calc e) (λb i e=>(#[],by rw[ay (au e d),e];simp)) (λm i=>?_) (λb u e=>?_) I.bare
 ·let(v,m,w,n,q,r):=h b f;exact(n,m,q,r)
 ·let(o,m,n,q,r):=i;exact(o,m,n,k _ o (λz=>(h _ z).2.1 rfl) q,r)
 ·by_cases f:b=T
  ·subst f;rw[af] at e
   cases e;exact(hz,g,l,p)
  ·rw[ay f] at e;refine(I.aW b u e).aM (λc v a q=>k c v ?_ q) (λc q=>by rw[ay (au q d)];calc q) λc t q=>by rw[ay (au q d)];exact q
   rcases a with z|z
   ·rw[z];exact j b u e
   ·calc j c _ z
def Sq(b:Bool)(K:W.Frag)(H:Hp)(a:Addr)(xs:List V):Prop:=if b=true then aV K H a xs else bI K H a xs
theorem Sq.l{K:W.Frag}(h:H a=some (.lst xs)):Sq true K H a xs:=aV.of h
theorem Sq.t{K:W.Frag}(h:H a=some (.tup xs)):Sq false K H a xs:=bI.of h
theorem Inv.sq(I:Inv X pins σ H s){b:Bool}{a:Addr}{xs:List V}(h:Sq b X.K H a xs):∃c:List Value,Vals xs c/\BH b s.heap a c.toArray/\xs.length<=sizeLine:=by
 cases b
 ·exact I.tuple h
 ·let(c,r,p,z):=I.list h;calc(c,r,p.isList,z)
theorem Inv.BJ(I:Inv X pins σ H s){b:Bool}{a:Addr}{xs c:List V}(h:Sq b X.K H a xs)(h':Sq b X.K H a c):xs=c:=by
 cases b
 ·exact I.vR h h'
 ·calc I.yM h h'
theorem PJ{u:HO}{b:Addr}(h:Rd H a u)(c:H b=none):a≠b:=λz=>by
 subst z;rcases h with h|⟨o,h⟩<;>(rw[c]at h;cases h)
theorem Inv.tK(I:Inv X pins σ H s){b:Bool}{a c:Addr}{xs:List V}(h:Sq b X.K H a xs)(f:pU X pins H c):a≠c:=by
 have d:∀o,X.K.lookup a=some o->a≠c:=λo e z=>by
  subst z;have i:=I.ok.mod.A0 a o e;rcases f.2.2.2.1 with y|y
  ·exact I.ok.yL a o i y
  ·exact absurd (W' (W' (V' i) I.ok.GH) y) (abq _)
 cases b
 ·rcases h with h | ⟨o,j,n,g,_⟩
  ·exact PJ h f.1
  ·exact d o g
 ·rcases h with h | ⟨o,j,n,g,_⟩
  ·exact PJ h f.1
  ·calc d o g
end
end
section
noncomputable def SI(b:Bool)(K:W.Frag)(a:Addr):It:=
 (λi H=>∃xs x,Sq b K H a xs/\xs[i]?=some x,λi H y c=>∃T,H T=none/\y=.ref T/\∀xs,Sq b K H a xs->∃x,xs[i]?=some x/\c=upd H T (.tup [.int i,x]),λi H=>∃xs,Sq b K H a xs/\xs.length=i)
noncomputable def Xp(b c:Bool)(K:W.Frag)(a d:Addr):It:=
  (λi H=>∃xs e x y,Sq b K H a xs/\Sq c K H d e/\xs[i]?=some x/\e[i]?=some y,λi H v f=>∃T,H T=none/\v=.ref T/\∀xs e,Sq b K H a xs->Sq c K H d e->∃x y,xs[i]?=some x/\e[i]?=some y/\f=upd H T (.tup [x,y]),
   λi H=>∃xs e,Sq b K H a xs/\Sq c K H d e/\(i=xs.length\/(i < xs.length/\i=e.length)))
theorem ze{a b:V}:([a,b]:List V).length<=sizeLine:=by show 2<=sizeLine;decide
theorem xT{a:List Value}{i:Nat}{u:Value}(h:a[i]?=some u):i<a.toArray.size:=by
 have:=(List.getElem?_eq_some_iff.mp h).1;simpa using this
theorem Fi{P:Program}{w:World}{K:W.Frag}{es:List Expr}{k:Nat}{u:Pos}(b:Bool)(e j a:Addr)(n:e≠j):
  Turn P w K (.Tuple es k u) (SI b K a) [e,j] e (λi h=>(∃d,IsEnum h e j i d)/\p9 b h j a i) where
 mem:=by simp
 obj:=λi h l c C=>by
  let((d,g),m):=l;simp only[List.mem_cons,List.not_mem_nil,or_false]at C;rcases C with rfl|rfl
  ·exact(_,g,λv z=>by
    have z':Data.fields _=Data.cell v:=z
    cases z')
  ·exact m.obj
 keep:=λi h h' l k=>by
  let((d,g),m):=l;exact((d,k e nofun _ g),m.at λo q=>k j nofun o q)
 item:=by
  intro X L M N C i F s σ H E I r l O;subst L M N;let((d,g),m):=l;let(xs,x,t,R):=O;let(G,S,p,hz):=I.sq t;let(u,v,ru):=S.get R;have k:a≠e:=I.tK t (r e nofun);have B:a≠j:=I.tK t (r j nofun);have D:=Draws.sq (prog:=X.prog) (w:=X.w) (A:=X.A.in1) (show X.A.in1.handled=none from I.ok.hd C) b j a B G.toArray;calc wpAny_pyNext_enum_itemD D g (m,p) (xT v) n (by simp[n,Ne.symm k]) λy P Y K ho s1 hT sz T=>?_;have ey:y=u:=by
   have:G.toArray[i]?=some u:=by simpa using v
   exact Option.some.inj (K.symm.trans this)
  subst ey;calc(_,rfl,wpAny_letOwnedTupleGo_enum ho λv k u=>?_);have K:∀c o,c ∉ [e,j]->s.heap.get? c=some o->v.get? c=some o:=λc o J q=>(u.2 c λz=>J (by simp[z])).trans (T c o (λz=>J (by simp[z])) (λz=>J (by simp[z])) q);have Z:s.heap.objs.size≠e:=abk (V' g);have e:IsTup v s.heap.objs.size ([.int i Y,y]:List Value).toArray:=(_,(u.2 _ Z).trans hT,rfl,_,rfl)
  have v:H s.heap.objs.size=none:=I.aW.fresh (S' _);refine(.ref s.heap.objs.size,upd H s.heap.objs.size (.tup [.int i,x]),I.Dl r K (S' _) (.cons (Y,rfl) (.cons ru .nil)) ze e,rfl,(_,v,rfl,λys P=>(x,by rw[I.BJ P t];calc R,rfl)),((y,?_),?_),λc U=>?_)
  ·simpa using k
  ·exact s1.1.at λo q=>(u.2 j (Ne.symm n)).trans q
  ·have pQ:c≠s.heap.objs.size:=by
    simp only[List.mem_cons,List.not_mem_nil,or_false]at U;rcases U with rfl|rfl
    ·exact Ne.symm Z
    ·let(o,e,_):=m.obj;exact aaN (V' e)
   rw[ay pQ];exact(r c U).1
 done:=by
  intro X L M N C i F s σ H E I r l O;subst L M N;let((d,g),m):=l;let(xs,t,R):=O;let(G,S,p,hz):=I.sq t;have B:a≠j:=I.tK t (r j nofun);have D:=Draws.sq (prog:=X.prog) (w:=X.w) (A:=X.A.in1) (show X.A.in1.handled=none from I.ok.hd C) b j a B G.toArray;have e:G.toArray.size=i:=by have:=S.length;simp;lia
  refine wpAny_pyNext_enum_endD D g (by rw[e];calc(m,p)) λh' T=>(rfl,I.Dk (t':=s.toks) r λc o J q=>T c o (λz=>J (by simp[z])) q)
 self:=λ_ _ _ _ _ l h=>by
  let((d,g),m):=l;calc wpAny_pyIter_enum g h
theorem Fl{prog:Program}{w:World}{A:Around}{E:Value->Shared->Prop}{s:Shared}{b:Bool}{l:Addr}{d:Array Value}{Q:Value->Shared->Prop}(e:BH b s.heap l d)
  (q:∀g,IsEnum g (s.heap.objs.size+1) s.heap.objs.size 0 .none->p9 b g s.heap.objs.size l 0->g.objs.size=s.heap.objs.size+2->(∀c o,s.heap.get? c=some o->g.get? c=some o)->Q (.ref (s.heap.objs.size+1)) {s with heap:=g}):
  wpAny (model prog w) A (call (.type "enumerate") [.ref l]) Q E s:=by
 cases b
 ·refine callType_new F.called_enumerate ∅ (F.typeCall_enumerate_1 _) (F.newCall_enumerate_1 _) (λa=>F.args_object_init_2 a _) F.entry_enumerate_new (tJ l d) (e,?_);have b:(s.heap.push (Md false l)).objs.size=s.heap.objs.size+1:=aaZ ..;show _/\_;rw[b];have a:=aas (s.heap.push (Md false l)) (o:={cls:=.type "enumerate",data:=.fields #[.none,.bool false,.ref s.heap.objs.size,rawInt 0,.none,.none]}) rfl;rw[b]at a;refine((_,a,rfl),q _ a (BI (P' _ (aas _ (tI ..)))) (by rw[aaZ,b]) λc o x=>P' _ (P' _ x))
 ·calc call_enumerate_list e q
theorem m5{z a b c d:Addr}:z ∈ [z,a,b,c,d]/\a ∈ [z,a,b,c,d]/\b ∈ [z,a,b,c,d]/\c ∈ [z,a,b,c,d]/\d ∈ [z,a,b,c,d]:=(.head _,.tail _ (.head _),.tail _ (.tail _ (.head _)),.tail _ (.tail _ (.tail _ (.head _))),.tail _ (.tail _ (.tail _ (.tail _ (.head _)))))
theorem in5{z a b c d e:Addr}{P:Addr->Prop}(f:e ∈ [z,a,b,c,d])(g:P z)(h:P a)(i:P b)(j:P c)(k:P d):P e:=by
 simp only[List.mem_cons,List.not_mem_nil,or_false]at f;rcases f with rfl|rfl|rfl|rfl|rfl<;>assumption
theorem no5{z a b c d e:Addr}(f:e ∉ [z,a,b,c,d]):e≠z/\e≠a/\e≠b/\e≠c/\e≠d:=by
 simpa only[List.mem_cons,List.not_mem_nil,or_false,not_or] using f
theorem nd5{z a b c d:Addr}(N:[z,a,b,c,d].Nodup):(z≠a/\z≠b/\z≠c/\z≠d)/\(a≠b/\a≠c/\a≠d)/\(b≠c/\b≠d)/\c≠d:=by
 simpa only[List.nodup_cons,List.mem_cons,List.not_mem_nil,or_false,not_or,List.nodup_nil,not_false_eq_true,and_true] using N
theorem GQ{x i a:Addr}(b:x≠i)(c:x≠a):x ∉ [i,a]:=by simp[b,c]
theorem IQ{l:List Value}{i:Nat}{u x:Value}(h:l[i]?=some u)(g:l.toArray[i]?=some x):x=u:=by
 have:l.toArray[i]?=some u:=by simpa using h
 calc Option.some.inj (g.symm.trans this)
theorem IS{P:Program}{w:World}{K:W.Frag}{es:List Expr}{kt:Nat}{tp:Pos}(b c:Bool)(z r m g j a d:Addr)(N:[z,r,m,g,j].Nodup):
  Turn P w K (.Tuple es kt tp) (Xp b c K a d) [z,r,m,g,j] z (λi h=>IsZip h z r m .none/\IsPair h r (.ref g) (.ref j)/\(∃u v,IsPair h m u v)/\p9 b h g a i/\p9 c h j d i) where
 mem:=m5.1
 obj:=λi h t e l=>by
  let(G,B,(u,v,J),L,M):=t;refine in5 (P:=λe=>∃o,h.get? e=some o/\∀v,o.data≠.cell v) l (_,G,λv z=>?_) (_,B,λv z=>?_) (_,J,λv z=>?_) L.obj M.obj
  ·have k:Data.fields _=Data.cell v:=z
   cases k
  ·have k:Data.seq _ _=Data.cell v:=z
   cases k
  ·have k:Data.seq _ _=Data.cell v:=z
   cases k
 keep:=λi h h' t k=>by
  let(G,B,(u,v,J),L,M):=t;exact(k z m5.1 _ G,k r m5.2.1 _ B,(u,v,k m m5.2.2.1 _ J),L.at λo q=>k g m5.2.2.2.1 o q,M.at λo q=>k j m5.2.2.2.2 o q)
 item:=by
  intro X hP hw hK hc i pins s σ H E I O t hg;subst hP hw hK;let(G,B,(u0,v0,J),L,M):=t;let(xs,ys,x,y,T,hr,hx,hy):=hg;let(aS,rv,p,hz):=I.sq T;let(R,rt,pt,hzt):=I.sq hr;let(u,k,ru):=rv.get hx;let(v,n,rv'):=rt.get hy;have C:∀e ∈ [z,r,m,g,j],e≠a:=λe l=>Ne.symm (I.tK T (O e l));have F:∀e ∈ [z,r,m,g,j],e≠d:=λe l=>Ne.symm (I.tK hr (O e l));let((n1,n2,U,Y),(n5,n6,n7),(n8,n9),S):=nd5 N;have hh:X.A.in1.handled=none:=I.ok.hd hc;have D1:=Draws.sq (prog:=X.prog) (w:=X.w) (A:=X.A.in1) hh b g a (Ne.symm (C g m5.2.2.2.1)) aS.toArray;have D2:=Draws.sq (prog:=X.prog) (w:=X.w) (A:=X.A.in1) hh c j d (Ne.symm (F j m5.2.2.2.2)) R.toArray;have Z:ZA z r m g j [g,a] [j,d]:=(Ne.symm n1,Ne.symm n2,Ne.symm U,Ne.symm Y,n5,n6,n7,n8,n9,S,GQ U (C z m5.1),GQ n8 (C m m5.2.2.1),GQ (Ne.symm S) (C j m5.2.2.2.2),GQ Y (F z m5.1),GQ n9 (F m m5.2.2.1),GQ S (F g m5.2.2.2.1))
  calc vh Z D1 D2 G B J (L,p) (M,pt) (xT k) (xT n) λx' y' h1 tk K py GN acW s1 s2 hT sz kk=>?_;have ex:x'=u:=IQ k K;have ey:y'=v:=IQ n py;subst ex ey;calc(_,rfl,wpAny_letOwnedTupleGo_zip GN λu v k=>?_);have K:∀e o,e ∉ [z,r,m,g,j]->s.heap.get? e=some o->u.get? e=some o:=λe o l q=>
   have n:=no5 l;(k.2 e n.1).trans (kk e o n.1 n.2.2.1 n.2.2.2.1 n.2.2.2.2 q)
  have n:s.heap.objs.size≠z:=abk (V' G);have Fj:IsTup u s.heap.objs.size ([x',y']:List Value).toArray:=(_,(k.2 _ n).trans hT,rfl,_,rfl)
  have u:H s.heap.objs.size=none:=I.aW.fresh (S' _);refine(.ref s.heap.objs.size,upd H s.heap.objs.size (.tup [x,y]),I.Dl O K (S' _) (.cons ru (.cons rv' .nil)) ze Fj,rfl,
   (_,u,rfl,λK PK BK W6=>(x,y,by rw[I.BJ BK T];calc hx,by rw[I.BJ W6 hr];calc hy,rfl)),(v,?_,(_,_,(k.2 m (Ne.symm n2)).trans acW),s1.1.at λo q=>(k.2 g (Ne.symm U)).trans q,s2.1.at λo q=>(k.2 j (Ne.symm Y)).trans q),λe l=>?_)
  ·exact(k.2 r (Ne.symm n1)).trans (kk r _ (Ne.symm n1) n5 n6 n7 B)
  ·have u:e≠s.heap.objs.size:=in5 (P:=λe=>e≠s.heap.objs.size) l (Ne.symm n) (aaN (V' B)) (aaN (V' J)) (let ⟨_,k,_⟩:=L.obj;aaN (V' k)) (let ⟨_,k,_⟩:=M.obj;aaN (V' k));rw[ay u];exact(O e l).1
 done:=by
  intro X hP hw hK hc i pins s σ H E I O t hg;subst hP hw hK;let(G,B,(u0,v0,J),L,M):=t;let(xs,ys,T,hr,hx):=hg;let(aS,rv,p,hz):=I.sq T;let(R,rt,pt,hzt):=I.sq hr;have C:∀e ∈ [z,r,m,g,j],e≠a:=λe l=>Ne.symm (I.tK T (O e l));have F:∀e ∈ [z,r,m,g,j],e≠d:=λe l=>Ne.symm (I.tK hr (O e l));let((n1,n2,U,Y),(n5,n6,n7),(n8,n9),S):=nd5 N;have hh:X.A.in1.handled=none:=I.ok.hd hc;have D1:=Draws.sq (prog:=X.prog) (w:=X.w) (A:=X.A.in1) hh b g a (Ne.symm (C g m5.2.2.2.1)) aS.toArray;have D2:=Draws.sq (prog:=X.prog) (w:=X.w) (A:=X.A.in1) hh c j d (Ne.symm (F j m5.2.2.2.2)) R.toArray;have Z:ZA z r m g j [g,a] [j,d]:=(Ne.symm n1,Ne.symm n2,Ne.symm U,Ne.symm Y,n5,n6,n7,n8,n9,S,GQ U (C z m5.1),GQ n8 (C m m5.2.2.1),GQ (Ne.symm S) (C j m5.2.2.2.2),GQ Y (F z m5.1),GQ n9 (F m m5.2.2.1),GQ S (F g m5.2.2.2.1))
  have a:=rv.length;have a:=rt.length;exact xS Z D1 D2 G B J (L,p) (M,pt) (by simp only[List.size_toArray];lia) λh' tk kk=>(rfl,I.Dk O λe o l q=>kk e o (λw=>l (by simp[w])) (λw=>l (by simp[w])) (λw=>l (by simp[w])) (λw=>l (by simp[w])) q)
 self:=λ_ _ _ _ _ t h=>wpAny_pyIter_zip t.1 h
section
variable {X:Cx}
def IT(K:W.Frag)(a:TA):TI:=λσ H R=>a σ H λvs c=>match vs with
 | [.ref a]=>∃b xs,Sq b K c a xs/\R (SI b K a) c
 |_=>False
def SK(K:W.Frag)(a:TA):TI:=λσ H R=>a σ H λvs e=>match vs with
 | [.ref a,.ref d]=>∃b c xs f,Sq b K e a xs/\Sq c K e d f/\R (Xp b c K a d) e
 |_=>False
theorem kb{es:List Expr}{h:Nat}{l:Pos}{a:Expr}{g:TA}{p pos:Pos}(m:Gl X "enumerate")(n:X.mg "enumerate"=none)(o:PA X [a] g)(t:starEach [a] X.env=[((false),eval a X.env)]:=by rfl):
  PI X (.Tuple es h l) (.Call (.Name "enumerate" p) [a] [] pos) (IT X.K g):=by
 calc⟨?_⟩;intro c s σ H R I h;calc Call_ (pT I m n boot_enumerate (PyProof.Rows.callWith_type1 (cU (o pos c s σ H _ I h) λg d l=>?_) (by rw[t];rfl) rfl));let(h,i,e,f,g):=l
 match h,f,g with
 | [.ref a],f,g=>
  let(b,h,u,q):=g
  cases f with
  |cons r v=>
   cases v
   cases r;let(f,g,p,h):=e.sq u;calc Fl p λg f h m l=>wpAny_pyIter_enum f ?_;have m:Inv X c σ i {d with heap:=g}:=e.kept (t':=d.toks) l;calc(_,[d.heap.objs.size+1,d.heap.objs.size],_,_,i,rfl,m,Fi b _ _ a (Nat.succ_ne_self _),((_,f),h),λc j=>?_,q);have k:d.heap.objs.size<=c:=by
    simp only[List.mem_cons,List.not_mem_nil,or_false]at j;rcases j with rfl|rfl
    ·exact Nat.le_succ _
    ·exact S' _
   calc e.Hx k (e.aW.fresh k)
theorem BL{es:List Expr}{o:Nat}{s:Pos}{a b:Expr}{h:TA}{p pos:Pos}(t:Gl X "zip")(u:X.mg "zip"=none)(v:PA X [a,b] h)(w:starEach [a,b] X.env=[((false),eval a X.env),((false),eval b X.env)]:=by rfl)(k:starEach [b] X.env=[((false),eval b X.env)]:=by rfl):
  PI X (.Tuple es o s) (.Call (.Name "zip" p) [a,b] [] pos) (SK X.K h):=by
 calc⟨?_⟩;intro e s σ H R I h;calc Call_ (pT I t u boot_zip (PyProof.Rows.callWith_type1 (cU (v pos e s σ H _ I h) λp f o=>?_) (by rw[w,k]) (by rw[k];rfl)));let(p,l,i,g,h):=o
 match p,g,h with
 | [.ref a,.ref d],g,h=>
  let(b,c,k,o,x,y,q):=h
  cases g with
  |cons r j=>
   cases j with
   |cons z j=>
    cases j
    cases r
    cases z;let(g,h,j,k):=i.sq x;let(g,o,k,h):=i.sq y;calc IP j k λg h o p r s u t=>wpAny_pyIter_zip h ?_;have j:Inv X e σ l {f with heap:=g}:=i.kept (t':=f.toks) t;refine(_,[f.heap.objs.size+4,f.heap.objs.size+2,f.heap.objs.size+3,f.heap.objs.size,f.heap.objs.size+1],_,_,l,rfl,j,IS b c _ _ _ _ _ a d ?_,(h,o,(_,_,p),r,s),λe m=>?_,q)
    ·simp
    ·have n:f.heap.objs.size<=e:=by
      simp only[List.mem_cons,List.not_mem_nil,or_false]at m;rcases m with rfl|rfl|rfl|rfl|rfl
      ·exact Nat.le_add_right _ _
      ·exact Nat.le_add_right _ _
      ·exact Nat.le_add_right _ _
      ·exact S' _
      ·exact Nat.le_add_right _ _
     calc i.Hx n (i.aW.fresh n)
end
end
end L2
namespace HT
open PySem PyProof.Rows
section
variable {prog:Program}{w:World}{A:Around}{E:Value->Shared->Prop}{s:Shared}
theorem oU{t e:Addr}{a:Array Value}{f g:Value}{b d:Option Int}{Q:Value->Shared->Prop}(c:IsTup s.heap t a)(i:s.heap.IsSliceOf e f g .none)(pl:IsPart f b)(j:IsPart g d)
  (g:eX a.size 0 b=0/\eX a.size a.size d=a.size) (h:Q (.ref t) s):wpAny (model prog w) A (getItem (.ref t) (.ref e)) Q E s:=by
 let(k,l,n,f):=id i;have f:s.TypeIs (.ref e) "slice":=(k,l,n)
 unfold getItem
 try with_reducible refine aa8 ?_
 first|calc j' (K' ?_)|skip
 refine j' (wpAny_sequenceKey c.typeIs ∅ (j' (abb (name:=Str.ofString "__getitem__") c.typeIs abz
  (abn abz c.typeIs entry_tuple_getitem ?_ (args_tuple_getitem _ _)))))
 calc j' (m:=Builtin.Tuple.tupleItemsOf (.ref t)) (tupleItemsOf_ c (j' (wpAny_typeOf f ?_)));rw[if_pos ∅];calc j' (jV i pl j ?_);have e:(((eX a.size 0 b:Nat):Int)==0&&(1:Int)==1&&(eX a.size a.size d-eX a.size 0 b)==a.size)=true:=by
  rw[g.1,g.2];simp
 show wpAny _ _ (if (((eX a.size 0 b:Nat):Int)==0&&(1:Int)==1&&(eX a.size a.size d-eX a.size 0 b)==a.size)=true then _ else _) _ _ s;rw[if_pos e];calc j' (m:=Builtin.Tuple.tupleIsExact (.ref t)) ?_;unfold Builtin.Tuple.tupleIsExact;calc j' (wpAny_typeOf c.typeIs (K' ?_));rw[if_pos ∅];calc j' (wpAny_rule (K' (_,rfl,K' h)))
end
end HT
namespace L2
open PySem PySem.Spec PyProof.Rows
section
variable {H:Hp}{Q:VK}{K:W.Frag}
section
variable {X:Cx}
def uSl:V->Option Int->Option Int->Hp->VK->Prop:=λx c d H Q=>match x with
 | .ref a=>(∃xs,H a=some (.lst xs)/\∀p,H p=none->Q (.ref p) (upd H p (.lst (dD xs c d))))\/(∃xs,H a=some (.tup xs)/\∀p b,av H b->b p=some (.tup (dD xs c d))->Q (.ref p) b)
 |_=>False
theorem PM{a:Addr}{b c:Option Int}:uSl (.ref a) b c H Q=((∃xs,H a=some (.lst xs)/\∀p,H p=none->Q (.ref p) (upd H p (.lst (dD xs b c))))\/(∃xs,H a=some (.tup xs)/\∀p d,av H d->d p=some (.tup (dD xs b c))->Q (.ref p) d)):=rfl
theorem acZ:WV X uSl:=by
 intro c s σ H x v t u i j w Q I l m n o h
 cases x<;>first
  |calc(show False from h).elim
  |skip
 rename_i a;rcases h with⟨b,d,q⟩|⟨b,d,q⟩
 ·exact CW c s σ H _ v t u i j w Q I l m n o (a,b,rfl,aV.of d,q)
 ·by_cases k:HT.eX b.length 0 i=0/\HT.eX b.length b.length j=b.length
  ·cases l;let(z,r,y,C):=I.tuple (bI.of d);have g:z.toArray.size=b.length:=by rw[aaG];exact r.length.symm
   refine("tuple",_,PyProof.Rows.slot_tuple_getitem.lookup,y.typeIs,HT.oU y m n o (by rw[g];exact k) (.ref a,H,I,rfl,q a H (av.refl H) ?_));have e:dD b i j=b:=by
    unfold dD;rw[k.1,k.2];simp
   rw[e];exact d
  ·calc RV c s σ H _ v t u i j w Q I l m n o (a,b,rfl,bI.of d,k,λp B=>q p _ (av.new _ B) af)
theorem xU{e:Expr}{a:TE}{b c:Option Expr}{d f:TO}{pos g:Pos}(h:PE X e a)(i:PO X b d)(j:PO X c f):PE X (.Subscript e (.Slice b c none g) pos) (WW uSl a d f):=yS acZ h i j
def uAd:R2:=λx y H Q=>match x,y with
 | .int i,.int j=>Q (.int (i+j)) H
 | .str i,.str j=>i.length+j.length<=sizeLine/\Q (.str (i++j)) H
 | .ref a,.ref b=>(∃xs c,H a=some (.lst xs)/\H b=some (.lst c)/\xs.length + c.length<=sizeLine/\∀p,H p=none->Q (.ref p) (upd H p (.lst (xs++c))))\/
   (∃xs c,H a=some (.tup xs)/\H b=some (.tup c)/\xs.length+c.length<=sizeLine/\∀p d,av H d->d p=some (.tup (xs++c))->Q (.ref p) d)
 |_,_=>False
theorem IU{i j:Int}:uAd (.int i) (.int j) H Q=Q (.int (i+j)) H:=rfl
theorem IV{i j:Str}:uAd (.str i) (.str j) H Q=(i.length+j.length<=sizeLine/\Q (.str (i++j)) H):=rfl
theorem IW {a b:Addr}:uAd (.ref a) (.ref b) H Q=((∃xs c,H a=some (.lst xs)/\H b=some (.lst c)/\xs.length + c.length<=sizeLine/\∀p,H p=none->Q (.ref p) (upd H p (.lst (xs++c))))\/
      (∃xs c,H a=some (.tup xs)/\H b=some (.tup c)/\xs.length + c.length<=sizeLine/\∀p d,av H d->d p=some (.tup (xs++c))->Q (.ref p) d)):=rfl
theorem cE:gP X (binaryOp .Add) uAd:=by
 intro c s σ H x y v u Q I d e h
 cases x<;>cases y<;>first
  |calc(show False from h).elim
  |calc RE c s σ H _ _ v u Q I d e (_,_,rfl,rfl,h)
  |calc Bf c s σ H _ _ v u Q I d e (_,_,rfl,rfl,h.1,h.2)
  |skip
 rename_i a b;rcases h with⟨k,l,f,g,m,i⟩|⟨k,l,f,g,m,i⟩
 ·exact R5 c s σ H _ _ v u Q I d e (_,_,k,l,rfl,rfl,f,g,m,i)
 ·by_cases r:k=[]
  ·subst r
   cases d
   cases e;let(S,E,G,_):=I.tuple (bI.of f);let(T,U,J,_):=I.tuple (bI.of g)
   cases E;let((K,L,t,M),w,A,n,B):=id G;let((N,O,o,q),C,D,P,j):=id J;simp only at A B D j;subst A B D j;exact concat_meets (_,w,rfl) (_,C,rfl) noFill_tuple_add seq_tuple_add PySem.F.slot_tuple_add PySem.F.entry_tuple_add (PySem.F.args_tuple_add_2 _ _)
    (tuple_addW0 a b _ _ n P L O M q nofun) (w,C,(.ref b,H,I,rfl,i b H (av.refl H) (by simpa using g)))
  ·calc M4 c s σ H _ _ v u Q I d e (_,_,k,l,rfl,rfl,bI.of f,bI.of g,r,m,λz=>?_,λ_ p R=>i p _ (av.new _ R) af);subst z;calc i a H (av.refl H) (by simpa using f)
def Xr(K:W.Frag):List V->Hp->VK->Prop:=λxs H Q=>match xs with
 | [.ref p]=>∃bs:List Bool,aV K H p (bs.map V.bl)/\Q (.bl (bs.all id)) H
 |_=>False
theorem IX{p:Addr}:Xr K [.ref p] H Q=∃bs:List Bool,aV K H p (bs.map V.bl)/\Q (.bl (bs.all id)) H:=rfl
theorem Dm:∀{bs:List Bool}{us:List Value},Vals (bs.map V.bl) us->us=bs.map Value.bool
 | [],_,.nil=>rfl
 |b::bs,_,.cons r t=>by
  cases r;rw[Dm t];rfl
theorem all_range:∀(bs:List Bool),((List.range bs.length).all λi=>bs.getD i false)=bs.all id:=by
 intro bs;induction bs with
 |nil=>rfl
 |cons b r a=>
  rw[abf,List.range_succ_eq_map,List.all_cons,List.all_map,List.all_cons];have:((λi=>(b::r).getD i false) ∘ Nat.succ)=λi=>r.getD i false:=by funext i;simp
  rw[this,a];rfl
theorem IY{prog:Program}{w:World}{A:Around}{bs:List Bool}:TruthOf prog w A (λi v=>(bs.map Value.bool).toArray[i]?=some v) (λi=>bs.getD i false):=by
 intro i v s Q E e c;have a:(bs.map Value.bool)[i]?=some v:=by simpa using e
 rw[J']at a
 cases d:bs[i]? with
 |none=>rw[d]at a;cases a
 |some b=>
  rw[d]at a
  cases a;have:bs.getD i false=b:=by rw[aaK,d];rfl
  replace c:Q (bs.getD i false) s:=c
  rw[this]at c;calc abr c
theorem jX(d:X.calm=true):eW X (.builtin "all") (Xr X.K):=by
 intro c s σ H f k Q I r h
 match f,r,h with
 | [.ref p],r,h=>
  let(a,g,q):=h;let(u,rfl,i):=Vals.one r
  cases i;let(c,j,b,f):=I.list g;have e:=Dm j;subst e;refine call_all_walk (wpAny_pyIter_list b.isList (s.heap.objs.size,_,_,_,_,_,λi=>a.getD i false,rfl,Walks.list (show X.A.in1.handled=none from I.ok.hd d) _ p ?_ (a.map Value.bool).toArray,((_,aas _ rfl,rfl,rfl),b.isList.push _),IY,λf g c=>?_))
  ·let(o,e,_):=b.isList;exact aaN (V' e)
  ·have:(a.map Value.bool).toArray.size=a.length:=by simp
   rw[this,all_range];calc(.bl _,H,I.kept λb o e=>c b o (by simp[Nat.ne_of_lt (Heap.lt_size e)]) (P' _ e),rfl,q)
noncomputable def zf:List V->Option (List Value)
 | []=>some []
 | .ty n::r=>(zf r).map (.type n::·)
 |_=>none
theorem zg:∀{xs:List V}{us a:List Value},Vals xs us->zf xs=some a->us=a
  | [],_,_,.nil,h=>by cases h;rfl
  |x::xs,_,a,.cons r t,h=>by
    cases x<;>first
      |cases h
      | (rename_i n
         unfold zf at h;let(b,c,d):=Option.map_eq_some_iff.mp h
         cases r;rw[<-d,zg t c])
def Nu(K:W.Frag):List V->Hp->VK->Prop:=λxs H Q=>match xs with
 | [x,.ty n]=>∃t b,gS K H x t/\W.kitOne K t (.type n)=some b/\Q (.bl b) H
 | [x,.ref p]=>∃t b a c,gS K H x t/\H p=some (.tup a)/\zf a=some c/\W.kitAny K t c=some b/\Q (.bl b) H
 |_=>False
theorem IZ{x:V}{n:String}:Nu K [x,.ty n] H Q=∃t b,gS K H x t/\W.kitOne K t (.type n)=some b/\Q (.bl b) H:=rfl
theorem Ja{x:V}{p:Addr}:Nu K [x,.ref p] H Q=∃t b a c,gS K H x t/\H p=some (.tup a)/\zf a=some c/\W.kitAny K t c=some b/\Q (.bl b) H:=rfl
theorem BM{x:V}{u t:Value}{pins:List (Addr×Obj)}{σ:St}{H:Hp}{s:Shared}{A:Around}{E:Value->Shared->Prop}{Q:Value->Shared->Prop}{b:Bool}{m:Addr}{r:List Value}(I:Inv X pins σ H s)(c:RelV x u)(C:gS X.K H x t)
  (D:IsTup s.heap m r.toArray) (e:W.kitAny X.K t r=some b) (h:∀x,Q (.bool b) {s with toks:=x}):wpAny (model X.prog X.w) A (call (.builtin "isinstance") [u,.ref m]) Q E s:=by
 let((m,r,b,x),d,v,n,hd):=id D;simp only at v hd;subst v hd
 cases C with
 |bG=>cases(show u=Value.none from c);calc W.kia_tup W.kitx_none I.il aa4 d e (λz=>nomatch z) h
 |bl y=>cases(show u=Value.bool y from c);calc W.kia_tup W.kitx_bool I.il aa4 d e (λz=>nomatch z) h
 |int i=>let(t,q):=(show ∃t,u=Value.int i t from c);cases q;calc W.kia_tup W.kitx_int I.il aa4 d e (λz=>nomatch z) h
 |str y=>let(t,q):=(show ∃t,u=Value.str y t from c);cases q;calc W.kia_tup W.kitx_str I.il aa4 d e (λz=>nomatch z) h
 |Pg y=>let(t,q):=(show ∃t,u=Value.float y t from c);cases q;calc W.kia_tup W.kitx_float I.il aa4 d e (λz=>nomatch z) h
 | @lst a j f=>
  cases(show u=Value.ref a from c);let(_,_,n,_,g):=(show cA X.prog X.w H s.heap a (.lst j) from I.aW a _ f)
  calc W.kia_tup W.kitx_list I.il (_,g,rfl) d e (λz=>nomatch z) h
 | @AJ a F j f=>
  cases(show u=Value.ref a from c);let(_,_,_,n,_,g):=(show cA X.prog X.w H s.heap a (.AJ F (.lst j)) from I.aW a _ f)
  calc W.kia_tup W.kitx_list I.il (_,g,rfl) d e (λz=>nomatch z) h
 | @tup a j f=>
  cases(show u=Value.ref a from c);let(_,_,_,p):=(show cA X.prog X.w H s.heap a (.tup j) from I.aW a _ f)
  let(o,g,k,_):=p;calc W.kia_tup W.kitx_tuple I.il (o,g,k) d e (λz=>nomatch z) h
 | @dK a l f=>
  cases(show u=Value.ref a from c);let(_,_,b,_,p):=(show cA X.prog X.w H s.heap a (.dK l) from I.aW a _ f)
  let(o,G,J,g,k,_):=p;calc W.kia_tup W.kitx_dict I.il (o,g,k.1) d e (λz=>nomatch z) h
 | @dT a l f=>
  cases(show u=Value.ref a from c);let(_,_,j,_,o,G,J,g,k,_):=(show cA X.prog X.w H s.heap a (.dT l) from I.aW a _ f)
  calc W.kia_tup W.kitx_dict I.il (o,g,k.1) d e (λz=>nomatch z) h
 | @ins a C b g f B L M N P=>
  cases(show u=Value.ref a from c);let(b,O,_):=oJ I.aW f;let(a,J,_):=O.look;calc W.kia_tup (W.kitx_own (B.get _) B.hd L M N P) I.il J d e (λz=>nomatch z) h
theorem dI:eW X (.builtin "isinstance") (Nu X.K):=by
 intro f s σ H g n Q I r h
 match g,r,h with
 | [x,.ty n],r,h=>
  let(t,b,ty,e,q):=h;let(u,i,rfl,a,c):=vals2 r
  cases c;calc vS I a ty e λj=>(.bl b,H,I.tok _,rfl,q)
 | [x,.ref p],r,h=>
  let(t,b,f,g,ty,k,d,e,q):=h;let(u,i,rfl,a,c):=vals2 r
  cases c;let(f,l,m,g):=I.tuple (bI.of k);have o:=zg l d;subst o;calc BM I a ty m e λj=>(.bl b,H,I.tok _,rfl,q)
end
end
section
variable {a:Addr}{D:List (Str×V)}
section
variable {X:Cx}
def Xs:V->List V->Hp->VK->Prop:=λx vs H Q=>match x,vs with
 | .ref l,[y]=>∃xs,H l=some (.lst xs)/\xs.length<sizeLine/\Q .bG (upd H l (.lst (xs++[y])))
 |_,_=>False
theorem Jb{l:Addr}{y:V}{H:Hp}{Q:VK}:Xs (.ref l) [y] H Q=∃xs,H l=some (.lst xs)/\xs.length<sizeLine/\Q .bG (upd H l (.lst (xs++[y]))):=rfl
theorem cm:RW X "list.append" Xs:=by
 intro a s σ H x c v d Q I e b h
 match x,c,b,h with
 | .ref l,[y],b,(c,f,g,h)=>calc v7 a s σ H _ _ v d Q I e b (l,c,y,rfl,rfl,f,g,h)
def Xt:V->List V->Hp->VK->Prop:=λx vs H Q=>match x,vs with
 | .ref l,[.ref b]=>∃xs a,H l=some (.lst xs)/\H b=some (.lst a)/\xs.length+a.length<=sizeLine/\Q .bG (upd H l (.lst (xs++a)))
 |_,_=>False
theorem Jc{l b:Addr}{H:Hp}{Q:VK}:Xt (.ref l) [.ref b] H Q=∃xs a,H l=some (.lst xs)/\H b=some (.lst a)/\xs.length+a.length<=sizeLine/\Q .bG (upd H l (.lst (xs++a))):=rfl
theorem Nv:RW X "list.extend" Xt:=by
 intro a s σ H x b v d Q I e c h
 match x,b,c,h with
 | .ref l,[.ref b],c,(f,g,h,i,j,k)=>calc E4 a s σ H _ _ v d Q I e c (l,b,f,g,rfl,rfl,h,i,j,k)
def Jd(a b:TE):TS:=λD σ H=>a σ H λx c=>b σ c λy a=>∃l i xs k,x=.ref l/\y=.int i/\a l=some (.lst xs)/\-(2^63)<=i/\i<2^63/\seqIndex? i xs.length=some k/\D.nx σ (upd a l (.lst (xs.eraseIdx k)))
theorem Nw{o i:Expr}{a b:TE}{c pos:Pos}(d:PE X o a)(e:PE X i b):PS X (.Delete [.Subscript o i c] pos) (Jd a b):=by
 walk_at "xd";refine wpAny_Delete (wpAny_deleteEach_cons (wpAny_delete_Subscript (cU (d pins s σ H _ I h) λu a (x,b,c,f,g)=>cU (e pins a σ b _ c g) λd k j=>?_)));let(y,a,m,n,l,i,b,k,p,q,r,v,w,z,A):=j;subst p q;obtain rfl:u=Value.ref l:=f;let(t,rfl):=n;exact HW m r v w z λb a=>wpAny_deleteEach_nil (σ,_,a,A)
structure CD(K:W.Frag)(a:Addr)(D:List (Str×V)):Prop where
 ex:∃o es ep,K.lookup a=some o/\o.ExactDict/\o.data=.dict es ep/\KTD.Rows RelV es.toList D
 ne:(a==sysModules)=false
theorem SM{prog:Program}{w:World}{A:Around}{E:Value->Shared->Prop}{s:Shared}{o:Obj}{es:Array DictEntry}{ep:Nat}{k:Str}{c:Tok}{Q:Option Value->Shared->Prop}(h:s.heap.get? a=some o)(j:o.data=.dict es ep)(f:KTD.Rows RelV es.toList D)
  (i:∀d v,KTD.datumAt k D=some d->RelV d v->Q (some v) {s with toks:=s.toks+1}) (m:KTD.datumAt k D=none->Q none {s with toks:=s.toks+1}):wpAny (model prog w) A (dictGet a (.str k c)) Q E s:=by
 unfold dictGet
 try with_reducible refine aa8 ?_
 calc j' (wpAny_pyHash_str (j' (KTD.kt_dictFind_strs (s:={s with toks:=s.toks+1}) h j (by obtain⟨l⟩:=es;simpa using f.exact) ?_)));have b:Q (findBy (λk v=>v.isStr k) es k) {s with toks:=s.toks+1}:=by
  have c:findBy (λk v=>v.isStr k) es k=(es.toList.find? λe=>e.key.isStr k).map (·.val):=by
   obtain⟨l⟩:=es;simp[findBy]
  rw[c]
  cases c:KTD.datumAt k D with
  |some d=>
   let(v,l,g):=f.find_some c;rw[l];calc i d v c g
  |none=>rw[f.find_none c];exact m c
 rw[findBy_of_findIdx?]at b
 cases c:es.findIdx? λe=>e.key.isStr k with
 |none=>rw[c]at b;calc K' b
 |some i=>rw[c]at b;calc j' (abh (s:={s with toks:=s.toks+1}) h j (K' b))
theorem BN{prog:Program}{w:World}{o:Obj}{es:Array DictEntry}{ep:Nat}{k:Str}{b:Tok}(c:o.data=.dict es ep)(e:KTD.Rows RelV es.toList D)(f:(a==sysModules)=false):
  MeetsIn prog w (Builtin.«dict.get» ([.ref a,.str k b],[])) (λ_ R s=>s.heap.get? a=some o/\(∀d v,KTD.datumAt k D=some d->RelV d v->R (.ok (.ret v)) {s with toks:=s.toks+1})/\(KTD.datumAt k D=none->R (.ok (.ret .none)) {s with toks:=s.toks+1})):=
 .of_wp λA R s (T,g,h)=>by
  show wpAny _ _ (dictGet a (.str k b) >>= _) _ _ s;calc j' (SM T c e (λd v i j=>K' (v,rfl,g d v i j)) λc=>?_);show wpAny _ _ (Builtin.Dict.missed a (.str k b) >>= _) _ _ _;calc j' (wpAny_missed_other f (K' (.none,rfl,h c)))
def Je(D:List (Str×V))(t:TA):TE:=λσ H Q=>t σ H λxs a=>match xs with
 | [.str k]=>Q ((KTD.datumAt k D).getD .bG) a
 |_=>False
theorem Nx{n:Str}{e:Expr}{t:TA}{p b d:Pos}(C:CD X.K a D)(r:Gl X n)(v:X.mg n=some (.ref a))(w:PA X [e] t)
  (x:(n==("__debug__":Str))=false:=by decide) (y:attributeBase (.Name n p) "get" X.env (eval (.Name n p) X.env)=eval (.Name n p) X.env:=by rfl)
  (z:(b.endLine==d.line)=true:=by rfl) (l:starEach [e] X.env=[((false),eval e X.env)]:=by rfl):PE X (.Call (.Attribute (.Name n p) "get" b) [e] [] d) (Je D t):=by
 walk_at "xc";let(o,b,n,m,f,A,B):=C.ex;refine wpAny_Call_method_late y (by rw[l];rfl) z rfl (j5 I r v ?_ x);have q:s.heap.get? a=some o:=I.il a o m;refine("dict","dict.get",Wv,L8,zA4,(o,q,f.1),λb e=>?_,?_)
 ·cases e;exact(o,q,f.2.1)
 have b:=w d pins s σ H _ I h;rw[l]at b ⊢;calc Calls.callWith_builtin rfl (Calls.evalArgs_plain (cU b λn E e=>?_));let(b,g,i,j,c):=e
 match b,j,c with
 | [.str k],j,c=>
  let(u,rfl,G):=Vals.one j;let(J,rfl):=G;have e:E.heap.get? a=some o:=i.il a o m
  replace c:Q ((KTD.datumAt k D).getD .bG) g:=c
  refine call_meetsIn L8 (o,e,f.1) Vk (PySem.F.args_dict_get_2 _ _) (BN A B C.ne) (e,λd v b j=>?_,λe=>?_)
  ·exact(d,g,i.tok _,j,by have:=c;rw[b]at this;calc this)
  ·calc(.bG,g,i.tok _,rfl,by have:=c;rw[e]at this;calc this)
end
end
section
variable {x:Str}
section
variable {X:Cx}
theorem fU{n:Int}{pos:Pos}(a:∃t,X.mg x=some (.int n t))(b:Gl X x)(c:(x==("__debug__":Str))=false:=by decide):PE X (.Name x pos) (tC (.int n)):=by
 let(t,a):=a;calc cH b a (t,rfl) c
end
structure cy(P:Program)(w:World)(K:W.Frag)(mg:Str->Option Value)(base:Heap)(C:Addr)(m:Str)(k:Nat)(ps:List Str)(sp:Sp):Prop where
 ex:∃f fd,Meth K C m f/\j7 P w K mg base Fb k f fd ps sp/\Binds K fd ps []
structure ic(K:W.Frag)(C:Addr)(m qual:Str)(st:Stmt)(ps:List Str):Prop where
 ex:∃f fd,Meth K C m f/\Ij K m qual st f fd/\Binds K fd ps []
structure xV(P:Program)(w:World)(K:W.Frag)(mg:Str->Option Value)(base:Heap)(x:Str)(C:Addr)(k:Nat)(ps:List Str)(sp:Sp):Prop where
 ex:∃f fd,Mk K C f/\j7 P w K mg base Fb k f fd ps sp/\Binds K fd ps []
 mg:mg x=some (.ref C)
structure Fm(K:W.Frag)(mg:Str->Option Value)(x:Str)(C:Addr)(qual:Str)(st:Stmt)(ps:List Str):Prop where
 ex:∃f fd,Mk K C f/\Ij K "__init__" qual st f fd/\Binds K fd ps []
 mg:mg x=some (.ref C)
section
variable {P:Program}{w:World}{K:W.Frag}{mg:Str->Option Value}{base:Heap}
theorem ic.ok{C:Addr}{m qual:Str}{a:Stmt}{N b:List Str}{k:Nat}{sp:Sp}(T:ic K C m qual a b)(S:aE N b (az a))(c:∀vs H Q E,sp vs H Q E->vs.length=b.length)
  (e:∀(f:Addr) (d:Value) (A:Around) (outer:List Env) (s:Shared) (H:Hp) (vs:List V) (Q:VK) (E:XK),eQ k (A.deeper (envOfC qual (az a) s.heap.objs.size f d))->sp vs H Q E->
   ∃t,u9 (lj Fb P w K mg base N qual (az a) f d A outer s H E).GI (cO a) t/\t {nx:=λ_ a=>Q .bG a,rt:=Q} (start N vs) H):cy P w K mg base C m (k + 1) b sp:=by
 let(f,a,M,F,b):=T.ex;calc(f,a,M,F.ok S c (e f),b)
theorem Fm.ok{C:Addr}{qual:Str}{a:Stmt}{N b:List Str}{k:Nat}{sp:Sp}(T:Fm K mg x C qual a b)(S:aE N b (az a))(c:∀vs H Q E,sp vs H Q E->vs.length=b.length)
  (e:∀(f:Addr) (d:Value) (A:Around) (outer:List Env) (s:Shared) (H:Hp) (vs:List V) (Q:VK) (E:XK),eQ k (A.deeper (envOfC qual (az a) s.heap.objs.size f d))->sp vs H Q E->
   ∃t,u9 (lj Fb P w K mg base N qual (az a) f d A outer s H E).GI (cO a) t/\t {nx:=λ_ a=>Q .bG a,rt:=Q} (start N vs) H):xV P w K mg base x C (k + 1) b sp:=by
 let(f,a,M,F,b):=T.ex;calc((f,a,M,F.ok S c (e f),b),T.mg)
end
section
variable {X:Cx}{o e:Expr}{es:List Expr}{to:TE}{t:TA}{apos p pos:Pos}{C:Addr}{m x:Str}{k j:Nat}{ps:List Str}{sp:Sp}
theorem fz{pl:Sem Bool}(D:cy X.prog X.w X.K X.mg X.base C m k ps sp)(c:va X.K C)(b:eQ j X.A)(d:PE X o to)(g:PA X (e::es) t)(h:k<=j:=by decide)(i:dY e=true:=by rfl)(l:es.all dY=true:=by rfl)
  (n:eval (.Call (.Attribute o m apos) (e::es) [] pos) X.env=(do
   let a <-eval o X.env
   standAt apos.atName
   let (f,first) <-holding [a] (getMethod a m pl)
   callWith pos f first (backTo pos (starEach (e::es) X.env)) (backToKw pos (keywordEach [] X.env))):=by rfl):
  PE X (.Call (.Attribute o m apos) (e::es) [] pos) (vT C m sp [] E0 to t):=by
 let(f,p,M,F,a):=D.ex;calc MY d c M F (b.mono h) a .nil De g (eJ i) (fT l) n
theorem ft{pl:Sem Bool}(D:cy X.prog X.w X.K X.mg X.base C m k ps sp)(c:va X.K C)(b:eQ j X.A)(d:PE X o to)(e:k<=j:=by decide)
  (g:eval (.Call (.Attribute o m apos) [] [] pos) X.env=(do
   let a <-eval o X.env
   standAt apos.atName
   let (f,first) <-holding [a] (getMethod a m pl)
   callWith pos f first (backTo pos (starEach [] X.env)) (backToKw pos (keywordEach [] X.env))):=by rfl):
  PE X (.Call (.Attribute o m apos) [] [] pos) (vT C m sp [] E0 to EY):=by
 let(f,h,M,F,a):=D.ex;calc HL d c M F (b.mono e) a .nil De g
theorem Dn(D:xV X.prog X.w X.K X.mg X.base x C k ps sp)(a:eQ j X.A)(b:PA X (e::es) t)(c:Gl X x:=by rfl)(d:k+1<=j:=by decide)(g:(x==("__debug__":Str))=false:=by decide)
  (h:dY e=true:=by rfl) (i:es.all dY=true:=by rfl):PE X (.Call (.Name x p) (e::es) [] pos) (CL C sp [] E0 t):=by
 let(f,m,M,F,l):=D.ex;calc MZ M F (a.mono d) c D.mg l .nil De b g (eJ h) (fT i)
end
theorem lx{K:W.Frag}{b:Bool}{a:Addr}{xs:List V}{g:TG}{l:TS}{D:Ends}{σ:St}{H:Hp}(c:Nat->St->Hp->Prop)(o:c 0 σ H)(j:∀i σ H,c i σ H->Sq b K H a xs)
  (q:∀i x σ H T,xs[i]?=some x->c i σ H->H T=none->g (.ref T) σ (upd H T (.tup [.int i,x])) λd k=>l {D with nx:=c (i+1),ct:=c (i+1),bk:=D.nx} d k) (r:∀σ H,c xs.length σ H->D.nx σ H):
  ∃W:Nat->Nat->St->Hp->Prop,(∃m,W 0 m σ H)/\∀i m σ H,W i m σ H->
   ((SI b K a).stop i H/\D.nx σ H)\/((SI b K a).go i H/\∃N:St->Hp->Prop,(∀f h,N f h->∃n,n<m/\W (i+1) n f h)/\∀x h,(SI b K a).Po i H x h->g x σ h λd k=>l {D with nx:=N,ct:=N,bk:=D.nx} d k):=by
 calc(λi m σ H=>m=xs.length-i/\i<=xs.length/\c i σ H,(xs.length,nofun,aaO _,o),?_);rintro i m σ H ⟨rfl,b,p⟩;by_cases a:i<xs.length
 ·calc .inr ((xs,xs[i],j i σ H p,cT a),c (i+1),λf h b=>(xs.length-(i+1),(),rfl,a,b),λx h y=>?_);let(T,s,rfl,y):=y;let(x,t,rfl):=y xs (j i σ H p);exact q i x σ H T t p s
 ·have e:i=xs.length:=by lia
  subst e;calc .inl ((xs,j _ σ H p,rfl),r σ H p)
theorem fu{X:Cx}{i j:Nat}{y:Str}{b c pos:Pos}{k:Nat}(d:X.calm=true)(a:X.N.Nodup)(e:X.N[i]?=some x)(f:X.N[j]?=some y)(g:Loc X.env.scope x)(h:Loc X.env.scope y)
  (l:X.fn x=true\/X.env.scope.names.lookup x=some .local:=by grind) (m:X.fn y=true\/X.env.scope.names.lookup y=some .local:=by grind):
  PG X (.Tuple [.Name x b,.Name y c] k pos) (Hu X.K 2 (mT (gj i) (mT (gj j) Ht))):=Ba d (ir (bg a e g l) (ir (bg a f h m) xA))
end
end L2
set_option maxHeartbeats 400000
namespace L2
open PySem PySem.Spec PyProof.Rows
noncomputable def vc:V->Value
 | .ref a=>.ref a
 | .ty n=>.type n
 |_=>.none
def Xx(K:W.Frag):List V->Hp->VK->Prop:=λxs H Q=>∃a C B d c b f,xs=[.ref a,c]/\H a=some (XO a C d f)/\(∀e,d=some e->∃g,H e=some (XD e g))/\j9 K C B/\(c=.ref (match c with | .ref z=>z|_=>0)\/∃n,c=.ty n)/\W.kitOne K (.ref C) (vc c)=some b/\Q (.bl b) H
theorem Jf{X:Cx}:eW X (.builtin "isinstance") (Xx X.K):=by
 intro i s σ H w j Q I r h;let(a,C,B,d,c,b,x,rfl,l,m,o,e,k,q):=h;obtain⟨u,g,rfl,n,p⟩:∃u g,j=u::g/\RelV (.ref a) u/\Vals [c] g:=by cases r with|cons a b=>exact(_,_,rfl,a,b)
 let(t,rfl,f):=p.one
 cases(show u=Value.ref a from n);have v:t=vc c:=by
  rcases e with e|⟨n,e⟩
  ·rw[e]at f ⊢;exact f
  ·rw[e]at f ⊢;exact f
 subst v;calc BG I l m o k λa=>(.bl b,H,I.tok _,rfl,q)
end L2
set_option maxHeartbeats 4000000
namespace L2
open PySem PySem.Spec PyProof.Rows
variable {a:Addr}{g:Bool->Bool}{H:Hp}{ix:List (Option Nat)}{AK:List (TE×TE)}{σ:St}{te:TE}{wi:TI}{tt:TT}{Q:VK}{K:W.Frag}
section
variable {X:Cx}{K:W.Frag}
theorem wm(a:X.K=K):eW X (.builtin "isinstance") (Nu K):=a▸dI
theorem tL(a:X.K=K):eW X (.builtin "len") (Ss K):=a▸aO
theorem oV(a:X.K=K):eW X (.type "tuple") (xK K):=a▸ck
theorem Ny(a:X.K=K)(b:X.A.units+64<cLine):gP X (compareOp .Eq) (Sl K):=a▸Iu b
theorem fV{a b:Expr}{c d:TE}{pos:Pos}(e:X.K=K)(f:X.A.units+64<cLine)(g:PE X a c)(i:PE X b d)(h:xQ b=true:=by rfl):PE X (.Subscript a b pos) (HC (Sr K) c d):=e▸ak f g i h
theorem Nz{e:Expr}{a:TE}{f:Str}{pos:Pos}(b:X.K=K)(c:PE X e a)(d:attributeBase e f X.env (eval e X.env)=eval e X.env):PE X (.Attribute e f pos) (MW K a f):=b▸bL c d
theorem mI{i j:Nat}{x y:Str}{a b pos:Pos}{k:Nat}(c:X.K=K)(d:X.calm=true)(e:X.N.Nodup)(f:X.N[i]?=some x)(g:X.N[j]?=some y)(h:Loc X.env.scope x)(l:Loc X.env.scope y)
  (m:X.fn x=true\/X.env.scope.names.lookup x=some .local:=by grind) (n:X.fn y=true\/X.env.scope.names.lookup y=some .local:=by grind):
  PG X (.Tuple [.Name x a,.Name y b] k pos) (Hu K 2 (mT (gj i) (mT (gj j) Ht))):=c▸fu d e f g h l m n
end
inductive Xy{α:Sort _}(x:α):Type
 |mk
def ac0(ix:List (Option Nat))(wi:TI)(g:TG)(tt:TT)(te:TE)(_:Xy ((ix),wi,g,tt,te)):TE:=Xd ix wi g tt te
theorem Dp{g:TG}:Xd ix wi g tt te=ac0 ix wi g tt te .mk:=rfl
def Xz(wi:TI)(g:TG)(a:TS)(_:Xy ((wi),g,a)):TS:=RC wi g a
theorem zh{g:TG}{a:TS}:RC wi g a=Xz wi g a .mk:=rfl
def NA(a:TT)(b:TS)(_:Xy ((a),b)):TS:=xB a b
theorem tM{a:TT}{b:TS}:xB a b=NA a b .mk:=rfl
theorem bT{g:TG}(h:wi σ H λJ a=>∀D,a D=none->lu ix J g tt te σ a Q D):Xd ix wi g tt te σ H Q:=h
def NB(ix:List (Option Nat))(J:It)(g:TG)(tt:TT)(te:TE)(σ:St)(H:Hp)(Q:VK)(D:Addr)(_:Xy ((ix),J,g,tt,te,σ,H,Q,D)):Prop:=lu ix J g tt te σ H Q D
theorem tN{J:It}{g:TG}{D:Addr}:lu ix J g tt te σ H Q D=NB ix J g tt te σ H Q D .mk:=rfl
theorem BO:Xj g (.ref a) .bG H Q=Q (.bl (g false)) H:=by
 show Q (.bl (g (decide (V.ref a=.bG)))) H=_;simp
theorem BP:Xj g .bG .bG H Q=Q (.bl (g true)) H:=by
 show Q (.bl (g (decide (V.bG=.bG)))) H=_;simp
theorem av.Vx{b:Hp}(s:av H b){a:Addr}{xs:List V}(h:bI K H a xs):bI K b a xs:=by
 rcases h with(h|⟨o,h⟩)|h
 ·exact .inl (.inl (s _ _ h))
 ·exact .inl (.inr (o,s _ _ h))
 ·calc .inr h
theorem jY{α:Type}(x:α)(n:Nat):List.replicate n x++[x]=List.replicate (n+1) x:=by
 rw[List.replicate_succ',]
theorem qa(n:Nat):List.replicate n (V.bl true)=(List.replicate n true).map V.bl:=by simp
theorem da{xs:List V}{i:Int}{v:V}{P:V->Prop}(h:H a=some (.tup xs))(e:iZ xs i=some v)(k:P v):∃xs v,(aV K H a xs\/bI K H a xs)/\iZ xs i=some v/\P v:=(xs,v,.inr (bI.of h),e,k)
theorem bC{xs:List V}{i:Int}{v:V}{P:V->Prop}(h:H a=some (.lst xs))(e:iZ xs i=some v)(k:P v):∃xs v,(aV K H a xs\/bI K H a xs)/\iZ xs i=some v/\P v:=(xs,v,.inl (aV.of h),e,k)
def SQ(AK:List (TE×TE))(_:Xy AK):TE:=Dc AK
theorem wq:Dc AK=SQ AK .mk:=rfl
theorem NC(h:∀p,H p=none->p6 AK σ (upd H p (.dK [])) λd b=>b p=some (.dK [])/\∃a:List (Key×V),d=a.map (λc=>((kV c.1),c.2))/\a.length<=15/\Q (.ref p) (upd b p (.dK (nc [] a)))):Dc AK σ H Q:=h
end L2
set_option maxHeartbeats 400000
namespace L2
open PySem PySem.Spec PyProof.Rows
section
section
variable {X:Cx}{K:W.Frag}
theorem qb(a:X.K=K):eW X (.builtin "isinstance") (Xx K):=a▸Jf
end
end
section
variable {L:Addr}{outer:List Env}
def rN(h:Heap)(e:Addr)(T:Option Addr)(d:Value):Prop:=
 ∃a vs,h.get? e=some a/\a.data=.fields vs/\((T=none/\vs[1]?=some .none)\/∃t b c,T=some t/\t≠e/\vs[1]?=some (.ref t)/\h.get? t=some b/\b.data=.fields c/\c[3]?=some d)
structure Chg(S:List Addr)(e:Addr)(T:Option Addr)(h h':Heap):Prop where
 keep:∀b o,b≠e->T≠some b->b∉S->h.get? b=some o->h'.get? b=some o
 slot:∀b o,b≠e->T≠some b->h.get? b=some o->∃sl,h'.get? b=some {o with slots:=sl}
 XA:∀o vs,h.get? e=some o->o.data=.fields vs->∃PN,h'.get? e=some {o with data:=.fields PN}
 ac2:∀t o,T=some t->h.get? t=some o->∃o',h'.get? t=some o'
 size:h.objs.size<=h'.objs.size
theorem tO{o:Obj}{vs:Array Value}{f:Array Value->Array Value}(a:o.data=.fields vs):o.mapFields f={o with data:=.fields (f vs)}:=by
 let(c,d,b,e):=o
 cases a;rfl
section
variable {M:Model}{A:Around}{E:Value->Shared->Prop}{s:Shared}
theorem entry_at{base:Heap}{env:Env}{e:Addr}{i:Obj}{vs:Array Value}{d:Value}{y:Bool}{Q:Unit->Shared->Prop}
  (z:A.frames=some (env::outer)) (u:s.heap.FunFrames base (env::outer)) (B:env.frame=some L)
  (q:s.heap.get? e=some i) (n:i.data=.fields vs) (hsz:1<vs.size)
  (h:∀h' t,s.heap.objs.size<=t->Chg (yC (env::outer)) e none s.heap h'->rN h' e (some t) (rawInt L)->Q ⟨⟩ {s with heap:=h'}):
  wpAny M A (do let a <-frameOf env;let pl <-entryPlaceOf L y;let b <-EntryCells.newEntry d a .none (rawInt L) .none pl;setField (.ref e) 1 b) Q E s:=by
 have r:e∉(env::outer).filterMap (·.frame):=λC=>by
  let(_,o,g,F):=u.mem C;rw[q]at g;injection g with g;subst g;exact F vs n
 calc j' (wpAny_frameOf_fun z u B λc p=>?_);calc j' (wpAny_entryPlaceOf λpl v=>?_);unfold EntryCells.newEntry newFields;calc j' (aba ?_ (v.sizeOk5 _ _ _ _ _));have g:c.get? e=some i:=(p.2.1 e r).trans q;have i:=P' (h:=c) {cls:=.type "traceback",dict:=none,data:=.fields ([d,.ref L,.none,rawInt L,.none]++(if pl.isEmpty then List.replicate 6 Value.none else pl)).toArray} g;have w:c.objs.size≠e:=abk (V' g);have j:=abp n (·.setIfInBounds 1 (Value.ref c.objs.size));have k:=aa5 (Obj.mapFields (·.setIfInBounds 1 (Value.ref c.objs.size))) i (Obj.isFreed_of_fields j);have l:=(abl (c.push {cls:=.type "traceback",dict:=none,data:=.fields ([d,.ref L,.none,rawInt L,.none]++(if pl.isEmpty then List.replicate 6 Value.none else pl)).toArray})
  (Obj.mapFields (·.setIfInBounds 1 (Value.ref c.objs.size))) (Ne.symm w)).trans (aas c rfl)
 have g:∀b o,b≠e->c.get? b=some o->
   ((c.push {cls:=.type "traceback",dict:=none,data:=.fields ([d,.ref L,.none,rawInt L,.none]++(if pl.isEmpty then List.replicate 6 Value.none else pl)).toArray}).update e (Obj.mapFields (·.setIfInBounds 1 (Value.ref c.objs.size)))).get? b=some o:=
  λb o e d=>by
   rw[abl _ _ (Ne.symm e)];exact P' _ d
 refine wpAny_setField i n hsz (h _ c.objs.size (by rw[p.1];calc S' _) (λb o d _ e m=>g b o d ((p.2.1 b e).trans m),λb o d _ m=>?_,λo e m x=>?_,λt o z _=>(nomatch z),?_) ?_)
 ·let(e,i):=p.2.2 b o m;exact(e,g b _ d i)
 ·rw[q] at m
  cases m;rw[n]at x
  cases x;exact(_,by rw[k,tO n])
 ·rw[Heap.size_update,aaZ,p.1];exact Nat.le_succ _
 ·calc(_,_,k,j,.inr (c.objs.size,_,_,rfl,w,by simp[hsz],l,rfl,by first|(simp;done)|(rcases v with rfl|⟨_,_,_,_,_,_,_,rfl⟩<;>simp)))
theorem NF{base:Heap}{env:Env}{e:Addr}{T:Option Addr}{Q:Unit->Shared->Prop}
  (u:A.frames=some (env::outer)) (v:s.heap.FunFrames base (env::outer)) (m:env.frame=some L) (n:rN s.heap e T .none)
  (h:∀h' t,s.heap.objs.size<=t->Chg (yC (env::outer)) e T s.heap h'->rN h' e (some t) (rawInt L)->Q ⟨⟩ {s with heap:=h'}):wpAny M A (noteFrame (.ref e) env) Q E s:=by
 let(w,vs,j,g,n):=n;unfold noteFrame;simp only[m];rcases n with⟨rfl,i⟩|⟨t,C,x,rfl,p,i,k,l,w⟩
 ·calc j' (aa6 j g i ?_);rw[if_neg ∅];exact entry_at u v m j g (Array.getElem?_eq_some_iff.mp i).1 h
 ·calc j' (aa6 j g i ?_);rw[if_pos (show(Value.ref t !=Value.none)=true from by simp)];calc j' (aa6 k l w ?_);rw[if_neg (show ¬((Value.none==rawInt L)=true) from by simp[rawInt])];calc j' (wpAny_setField k l (Array.getElem?_eq_some_iff.mp w).1 ?_);have a:∀b,b≠t->(s.heap.update t (Obj.mapFields (·.setIfInBounds 3 Value.none))).get? b=s.heap.get? b:=λb d=>abl _ _ (Ne.symm d);have y:∀b o,s.heap.get? b=some o->(∀vs,o.data≠.fields vs)->b≠t:=λb o d r q=>by
   rw[q,k]at d;injection d with d;subst d;exact r x l
  have B:=aa5 (Obj.mapFields (·.setIfInBounds 3 Value.none)) k (Obj.isFreed_of_fields (abp l _));refine entry_at u (v.of_keeps λb o d r=>(o,(a b (y b o d r)).trans d,rfl)) m ((a e (Ne.symm p)).trans j) g (Array.getElem?_eq_some_iff.mp i).1 λh' k l c n=>h h' k ?_ ?_ n
  ·have:=l;rw[Heap.size_update]at this;exact this
  ·refine(λb o d j k i=>c.keep b o d (λz=>nomatch z) k ((a b (λz=>j (by rw[z]))).trans i),λb o d j i=>c.slot b o d (λz=>nomatch z) ((a b (λz=>j (by rw[z]))).trans i),λo vs i g=>c.XA o vs ((a e (Ne.symm p)).trans i) g,λb o z i=>?_,?_)
   ·cases z;let(a,q):=c.slot t _ p (λz=>nomatch z) B;exact(_,q)
   ·have:=c.size;rw[Heap.size_update]at this;calc this
theorem Fo{e t:Addr}{d:Value}{Q:Unit->Shared->Prop}(a:rN s.heap e (some t) d)
  (h:∀h',(∀b o,b≠t->s.heap.get? b=some o->h'.get? b=some o)->h'.objs.size=s.heap.objs.size->rN h' e (some t) .none->Q ⟨⟩ {s with heap:=h'}):wpAny M A (setFlight (.ref e) none) Q E s:=by
 let(n,vs,g,i,a):=a;rcases a with⟨z,_⟩|⟨d,m,p,z,j,k,l,c,q⟩
 ·cases z
 cases z;have m:3<p.size:=(Array.getElem?_eq_some_iff.mp q).1;unfold setFlight;calc j' (aa6 g i k ?_);rw[if_pos (show(Value.ref t !=Value.none)=true from by simp)];have a:∀b,b≠t->(s.heap.update t (Obj.mapFields (·.setIfInBounds 3 ((none:Option Addr).elim Value.none λf=>rawInt f)))).get? b=s.heap.get? b:=
  λb d=>abl _ _ (Ne.symm d)
 calc wpAny_setField l c m (h _ (λb o d p=>(a b d).trans p) (Heap.size_update ..) ?_);calc(n,vs,(a e (Ne.symm j)).trans g,i,.inr (t,_,_,rfl,j,k,aa5 _ l (Obj.isFreed_of_fields (abp c _)),abp c _,by simp[m]))
end
section
variable {X:Cx}{pins:List (Addr×Obj)}{σ:St}{H:Hp}{s:Shared}{e C:Addr}{d:Option Addr}{fl:Bool}{T:Option Addr}{h':Heap}
def zi(X:Cx)(pins:List (Addr×Obj))(H:Hp)(t:Addr):Prop:=H t=none/\X.s₀.heap.objs.size<=t/\t≠X.env.locals/\(∀x c,X.env.cells.lookup x=some c->c≠t)/\∀p∈X.pn++pins,p.1≠t
theorem Inv.XG(I:Inv X pins σ H s){t:Addr}(h:s.heap.objs.size<=t):zi X pins H t:=by
 refine(I.aW.fresh h,aaS I.sz h,abk (W' I.lt h),λx c a=>?_,λp b=>?_)
 ·let(v,o,d):=I.cell x c a;exact aaN (W' (V' d.1) h)
 ·calc aaN (W' (V' (I.pin p b).1) h)
theorem Inv.chg(I:Inv X pins σ H s)(a:H e=some (XO e C d fl))(c:Chg (yC X.stack) e T s.heap h')(r:∀t,T=some t->zi X pins H t):Inv X pins σ (upd H e (XO e C d false)) {s with heap:=h'}:=by
 let(y,n,k,_):=xR I a;let(y,v):=c.XA _ _ k rfl;have w:∀b u,H b=some u->T≠some b:=λb u q z=>by rw[(r b z).1]at q;cases q
 have x:∀b o,s.heap.get? b=some o->∃k,h'.get? b=some k:=λb o g=>by
  by_cases z:b=e
  ·subst z;exact(_,v)
  ·by_cases k:T=some b
   ·exact c.ac2 b o k g
   ·let(n,q):=c.slot b o z k g;exact(_,q)
 have j:∀b,H b=none->b≠e:=λb q z=>by rw[z,a]at q;cases q
 refine I.call (g':=s.gens) (t':=s.toks) (d':=s.drawn) (ch:=T.toList) (λb o g n y k=>c.keep b o (j b n) (λz=>k (by simp[z])) y g,λb o g n _ k=>c.slot b o (j b n) (λz=>k (by simp[z])) g,λb o _ n _=>by rw[ay (j b n)];calc n,λb o g _=>x b o g,λb A q=>?_,λb o u q=>?_,λb j q=>?_) (λb u q=>?_) I.bare (λb l=>?_)
 ·rw[ay (λz=>by rw[z,a]at q;cases q)];exact q
 ·rw[ay (λz=>by rw[z,a]at q;cases q)];exact q
 ·rw[ay (λz=>by rw[z,a]at q;cases q)];exact(#[],by simp[q])
 ·by_cases z:b=e
  ·subst z;rw[af] at q
   cases q;exact PH v (λz=>nomatch z)
  ·rw[ay z] at q;refine(I.aW b u q).aM (λi B f g=>?_) (λi h=>?_) (λi A h=>?_)
   ·have m:i≠e/\T≠some i/\i∉yC X.stack:=by
     rcases f with rfl|f
     ·exact(z,w _ _ q,λp=>by rw[I.r9 _ p]at q;cases q)
     ·exact⟨(λz=>by rw[z,a]at f;cases f),w _ _ f,(λp=>by rw[I.r9 _ p]at f;cases f)⟩
    exact c.keep i B m.1 m.2.1 m.2.2 g
   ·rw[ay (λz=>by rw[z,a]at h;cases h)];exact h
   ·rw[ay (λz=>by rw[z,a]at h;cases h)];exact h
 ·have e:T=some b:=by
   cases T with
   |none=>simp at l
   |some t=>simp at l;rw[l]
  let(h,a,c,f,g):=r b e;calc(.inr a,c,f,g)
theorem Inv.ac4(I:Inv X pins σ H s){t:Addr}(o:zi X pins H t)(k:∀b o,b≠t->s.heap.get? b=some o->h'.get? b=some o):Inv X pins σ H {s with heap:=h'}:=
 I.turned (t':=s.toks) k o.1 o.2.2.1 (.inr o.2.1) o.2.2.2.1 o.2.2.2.2
end
def yE(P:Program)(w:World):HK:=λouter H s E e s'=>∃a C d b t,e=.ref a/\s'.os=s.os/\AllBare s'.gens/\Un (yC outer) [] H b s.heap s'.heap/\mS P w b s'.heap/\b a=some (XO a C d false)/\
 rN s'.heap a (some t) .none/\b t=none/\s.heap.objs.size<=t/\E e none b
section
variable {X:Cx}{pins:List (Addr×Obj)}{σ:St}{H:Hp}{s:Shared}{a C:Addr}{d:Option Addr}{fl:Bool}{T:Option Addr}{h':Heap}{E:XK}{E1:Value->Shared->Prop}
theorem zj{Q:Unit->Shared->Prop}(b:X.stack=X.env::outer)(i:X.env.frame=some L)(I:Inv X pins σ H s)(f:H a=some (XO a C d fl))(j:rN s.heap a T .none)(k:∀t,T=some t->zi X pins H t)
  (h:∀h' t,Inv X pins σ (upd H a (XO a C d false)) {s with heap:=h'}->rN h' a (some t) (rawInt L)->zi X pins (upd H a (XO a C d false)) t->s.heap.objs.size<=t->Q ⟨⟩ {s with heap:=h'}):wpAny (model X.prog X.w) X.A (noteFrame (.ref a) X.env) Q E1 s:=by
 have e:X.A.frames=some (X.env::outer):=by rw[<-b];exact I.ok.frames
 have l:s.heap.FunFrames X.base (X.env::outer):=by rw[<-b];exact I.stack
 calc NF e l i j λh' t g c m=>?_;rw[<-b]at c;have e:=I.chg f c k;have o:=I.XG g;calc h h' t e m (?_,o.2) g;rw[ay (λz=>by have:=o.1;rw[z,f]at this;cases this)];calc o.1
theorem tP{t:Addr}{b:Value}{Q:Unit->Shared->Prop}{A:Around}(I:Inv X pins σ H s)(c:rN s.heap a (some t) b)(o:zi X pins H t)
  (h:∀h',Inv X pins σ H {s with heap:=h'}->rN h' a (some t) .none->Q ⟨⟩ {s with heap:=h'}):wpAny (model X.prog X.w) A (setFlight (.ref a) none) Q E1 s:=
 Fo c λh' k _ b=>h h' (I.ac4 o k) b
theorem zk(b:X.stack=X.env::outer)(g:X.outer=outer)(e:X.ex=[])(c:X.env.frame=some L)(I:Inv X pins σ H s)(f:H a=some (XO a C d fl))(h:rN s.heap a T .none)(i:∀t,T=some t->zi X pins H t)
  (j:E (.ref a) none (upd H a (XO a C d false))):wpAny (model X.prog X.w) X.A (leaving X.env (.ref a)) (λ_ k=>yE X.prog X.w outer X.H₀ X.s₀ E (.ref a) k) E1 s:=by
 unfold leaving;calc j' (zj b c I f h i λk t l m o n=>?_);calc tP (s:={s with heap:=k}) l m o λb c f=>?_;have b:=c.base;rw[e,Cx.fs,g]at b;calc(a,C,d,_,t,rfl,c.os,c.bare,b,c.aW,af,f,o.1,aaS I.sz n,j)
end
def Throws(X:Cx)(E:XK):Prop:=∀(pins:List (Addr×Obj)) (σ:St) (H:Hp) (s:Shared) (a C:Addr) (d:Option Addr),Inv X pins σ H s->H a=some (XO a C d true)->E (.ref a) none (upd H a (XO a C d false))->X.xe (.ref a) s
theorem Jh{H:Hp}{a:Addr}{o:HO}(h:H a=some o):upd H a o=H:=by
 funext b;by_cases z:b=a
 ·subst z;rw[af];exact h.symm
 ·calc ay z
section
variable {P:Program}{w:World}{K:W.Frag}{mg:Str->Option Value}{base:Heap}{N:List Str}{qual:Str}{scope:Scope}{f:Addr}{cd:Value}{A:Around}{outer:List Env}{s:Shared}{H:Hp}{E:XK}
theorem NG:Throws (lj (yE P w) P w K mg base N qual scope f cd A outer s H E) E:=by
 intro b σ j k a C d I c e;let(g,l,h,i):=xR I c;calc zk (X:=lj (yE P w) P w K mg base N qual scope f cd A outer s H E) (T:=none) rfl rfl rfl rfl I c (_,g,h,rfl,.inl (rfl,i rfl)) (λt z=>nomatch z) e
theorem Inv.thrown{X:Cx}{pins:List (Addr×Obj)}{σ:St}{H:Hp}{s s':Shared}{e:Value}(I:Inv X pins σ H s)(h:yE X.prog X.w X.stack H s E e s'):
  ∃a C d c t,e=.ref a/\Inv X pins σ c s'/\c a=some (XO a C d false)/\rN s'.heap a (some t) .none/\zi X pins c t/\E e none c:=by
 let(a,C,d,c,t,rfl,f,e,g,i,j,k,l,m,q):=h;have n:Inv X pins σ c s':=I.Pm (ch:=[]) f g i e λb z=>absurd z nofun;calc(a,C,d,c,t,rfl,n,j,k,(l,(I.XG m).2),q)
theorem xW:Passes (yE P w) (lj (yE P w) P w K mg base N qual scope f cd A outer s H E) E:=by
 intro b σ j k e l I h;let(a,C,d,m,t,rfl,g,c,i,o,q):=I.thrown h;calc zk (X:=lj (yE P w) P w K mg base N qual scope f cd A outer s H E) (T:=some t) rfl rfl rfl rfl g c i (λa z=>by cases z;calc o) (by rw[Jh c];calc q)
end
end
section
section
variable {M:Model}{A:Around}{E:Value->Shared->Prop}{env:Env}{K:W.Frag}
theorem Fp{s:Shared}{x:Sem Value}{Q:Flow->Shared->Prop}(f:A.handled=none)
  (h:wpAny M A x (λv a=>∃e C B d vs c,v=.ref e/\K.In a.heap/\j9 K C B/\a.heap.get? e=some ((.ref C,d,.fields vs,c):Obj)/\vs[1]?=some .none/\E (.ref e) a) E s):
  wpAny M A (raiseStmt env (some x) none) Q E s:=by
 unfold raiseStmt;calc j' (aa2 h (λv a b=>?_) λ_ _ x=>x);let(e,C,B,d,vs,c,rfl,g,h,i,j,k):=b;let(l,q,N,m,n,c,o,d,p,r,s,t,u,v,e):=h.ob;have b:=g _ _ e;have c:(Value.ref C::.ref B::tF).contains (.type "BaseException")=true:=rfl;let(d,g,e,h,l):=a
 repeat (first|with_reducible calc aa7 i ?_|with_reducible calc aa7 b ?_|(with_reducible calc abu b ?_;rw[c])|wp_step)
 rw[j];calc K' ?_;rw[if_neg ∅];calc K' ?_;calc wpAny_raiseNew_none f k
end
def Ji(K:W.Frag)(E:XK)(a:TE):TS:=λ_ σ H=>a σ H λx b=>∃a C B d,x=.ref a/\b a=some (XO a C d true)/\j9 K C B/\E (.ref a) none (upd b a (XO a C d false))
section
variable {X:Cx}{E:XK}{e:Expr}{te:TE}{pos:Pos}
theorem Jj(f:X.calm=true)(g:Throws X E)(i:PE X e te):PS X (.Raise (some e) none pos) (Ji X.K E te):=by
 walk_at "xd";rw[arm_exec_Raise];refine j' (wpAny_standAt ?_);show wpAny _ _ (raiseStmt X.env (some (do let v <-eval e X.env;standAt pos;pure v)) none) _ _ _;refine Fp (K:=X.K) (I.ok.hd f) (j' (cU (i pins s σ H _ I h) λv j (x,k,b,l,a,C,B,d,m,c,n,q)=>j' (wpAny_standAt (K' ?_))));subst m;obtain rfl:v=Value.ref a:=l;let(f,i,m,o):=xR b c;exact(a,C,B,d,f,i,rfl,b.il,n,m,o rfl,g pins σ k j a C d b c q)
end
section
variable {P:Program}{w:World}{K:W.Frag}{mg:Str->Option Value}{base:Heap}
theorem Ij.XH{x qual:Str}{a:Stmt}{f:Addr}{e:FuncData}{N c:List Str}{k:Nat}{sp:Sp}(F:Ij K x qual a f e)(S:aE N c (az a))(d:∀vs H Q E,sp vs H Q E->vs.length=c.length)
  (g:∀(b:Value) (A:Around) (outer:List Env) (s:Shared) (H:Hp) (vs:List V) (Q:VK) (E:XK),eQ k (A.deeper (envOfC qual (az a) s.heap.objs.size f b))->sp vs H Q E->
   ∃t,u9 (lj (yE P w) P w K mg base N qual (az a) f b A outer s H E) (cO a) t/\t {nx:=λ_ a=>Q .bG a,rt:=Q} (start N vs) H):j7 P w K mg base (yE P w) (k + 1) f e c sp:=by
 let(i,j,kV,h,l,m,b,n,o,rfl,a,c):=F.ex;calc Pp a c S d λA outer s H vs Q E e f=>g b A outer s H vs Q E e f
structure DefX(P:Program)(w:World)(K:W.Frag)(mg:Str->Option Value)(base:Heap)(x:Str)(k:Nat)(ps:List Str)(sp:Sp):Prop where
 ex:∃f fd,j7 P w K mg base (yE P w) k f fd ps sp/\mg x=some (.ref f)/\W.keepIn K (.ref f)=true/\Binds K fd ps []
theorem cV.XH{x qual:Str}{a:Stmt}{N b:List Str}{k:Nat}{sp:Sp}(T:cV K mg x qual a b)(S:aE N b (az a))(c:∀vs H Q E,sp vs H Q E->vs.length=b.length)
  (e:∀(f:Addr) (d:Value) (A:Around) (outer:List Env) (s:Shared) (H:Hp) (vs:List V) (Q:VK) (E:XK),eQ k (A.deeper (envOfC qual (az a) s.heap.objs.size f d))->sp vs H Q E->
   ∃t,u9 (lj (yE P w) P w K mg base N qual (az a) f d A outer s H E) (cO a) t/\t {nx:=λ_ a=>Q .bG a,rt:=Q} (start N vs) H):DefX P w K mg base x (k + 1) b sp:=by
 let(f,a,F,b,d):=T.ex;calc(f,a,F.XH S c (e f),b,F.kp,d)
end
section
variable {X:Cx}{o e:Expr}{es:List Expr}{to:TE}{t:TA}{apos p pos:Pos}{C:Addr}{m x:Str}{k j:Nat}{ps:List Str}{sp:Sp}{E:XK}
theorem qc(D:DefX X.prog X.w X.K X.mg X.base x k ps sp)(a:Passes (yE X.prog X.w) X E)(b:eQ j X.A)(c:PA X (e::es) t)(d:Gl X x:=by rfl)(g:k<=j:=by decide)
  (h:(x==("__debug__":Str))=false:=by decide) (i:dY e=true:=by rfl) (l:es.all dY=true:=by rfl):PE X (.Call (.Name x p) (e::es) [] pos) (sU sp [] E t):=by
 let(f,q,F,m,n,o):=D.ex;calc CM F (b.mono g) d m n o .nil a c h (eJ i) (fT l)
end
structure PEX(X:Cx)(e:Expr)(t:XK->TE):Prop where
 out:∀(pins:List (Addr×Obj)) (s:Shared) (σ:St) (H:Hp) (Q:VK) (E:XK) (xe:Value->Shared->Prop),(∀H1 s1 x s',Inv X pins σ H1 s1->yE X.prog X.w X.stack H1 s1 E x s'->xe x s')->Inv X pins σ H s->t E σ H Q->
  wpAny (model X.prog X.w) X.A (eval e X.env) (EP X pins σ Q) xe s
section
variable {X:Cx}{k j:Nat}{f C:Addr}{fd:FuncData}{ps:List Str}{sp:Sp}{E:XK}{x m:Str}{p pos apos:Pos}{e o:Expr}{es:List Expr}{ta:TE}{t:TA}
theorem PA.any{xe:Value->Shared->Prop}(a:PA X.GI es t){pins:List (Addr×Obj)}{s:Shared}{σ:St}{H:Hp}{Q:List V->Hp->Prop}(I:Inv X pins σ H s)(h:t σ H Q)(pos:Pos):
  wpAny (model X.prog X.w) X.A (spliced (backTo pos (starEach es X.env))) (AP X pins σ Q) xe s:=
 aa2 (a.out pos pins s σ H Q (I.rH _) h) (λ_ _ (b,c,d,r,q)=>(b,c,d.iq,r,q)) λ_ _ z=>aa3 z
theorem NH{pins:List (Addr×Obj)}{σ:St}{H:Hp}{s:Shared}{Q:VK}{us:List Value}{vs:List V}{xe:Value->Shared->Prop}(F:j7 X.prog X.w X.K X.mg X.base (yE X.prog X.w) k f fd ps sp)(d:eQ k X.A)(g:Binds X.K fd ps [])
  (i:∀b c x s',Inv X pins σ b c->yE X.prog X.w X.stack b c E x s'->xe x s') (I:Inv X pins σ H s) (r:Vals vs us) (h:sp vs H Q E):wpAny (model X.prog X.w) X.A (call (.ref f) us) (EP X pins σ Q) xe s:=by
 have b:(us++[]).length=ps.length:=by rw[aaP,<-r.length];exact F.len _ _ _ _ h
 have c:Vals vs (us++[]):=by rw[aaP];exact r
 refine wpAny_call (codeAny_mono (F.run X.A X.stack s H (us,[]) (us++[]) vs Q E d I.RO (g s us I.il b) c h) λr s' a=>?_)
 cases r with
 |error e=>calc i H s e s' I a
 |ok j=>
  cases j with
  |ret u=>calc I.after a
  |next=>calc aa3 a
  |brk=>calc aa3 a
  |cont=>calc aa3 a
theorem BQ(D:DefX X.prog X.w X.K X.mg X.base x k ps sp)(b:eQ j X.A)(c:PA X.GI (e::es) t)(d:Gl X x:=by rfl)(g:k<=j:=by decide)(i:(x==("__debug__":Str))=false:=by decide)
  (l:dY e=true:=by rfl) (m:es.all dY=true:=by rfl):PEX X (.Call (.Name x p) (e::es) [] pos) (λE=>sU sp [] E t):=by
 let(f,fd,F,n,o,u):=D.ex;calc⟨λa s σ H Q E q v I h=>?_⟩;calc wpAny_Call_Name_kw (j5 I d n ?_ i);calc W.callWith_K (h₀:=X.base) I.ok.mod.A0 o (cU (c.any I h pos) λd i (n,s,a,r,q)=>(a.il,?_)) (eJ l) (fT m);calc NH F (b.mono g) u v a r (by have:=q;simp only[List.append_nil]at this;calc this)
end
structure PSX(X:Cx)(st:Stmt)(t:XK->TS):Prop where
 out:∀(pins:List (Addr×Obj)) (s:Shared) (σ:St) (H:Hp) (D:Ends) (E:XK) (xe:Value->Shared->Prop),(∀H1 s1 x s',Inv X pins σ H1 s1->yE X.prog X.w X.stack H1 s1 E x s'->xe x s')->Inv X pins σ H s->t E D σ H->
  wpAny (model X.prog X.w) X.A (exec st X.env) (SP X pins D) xe s
section
variable {X:Cx}{e:Expr}{t:XK->TE}{pos pos':Pos}{x:Str}{i:Nat}
theorem tQ(b:PEX X e t)(c:swapsWith e none pos.line X.env=pure false:=by rfl):PSX X (.Expr e pos) (λE=>yN (t E)):=
 ⟨λa s σ H D E d f I h=>wpAny_Expr_any (cU (b.out a s σ H _ E d f I h) λv k (x,g,i,l,j)=>(σ,g,i,j)) I.quiet c⟩
end
end
section
structure XBase(K:W.Frag)(B:Addr):Prop where
 ob:∃nm q N bs sn sub ab col dd k0 k1 k2 k3 k5,K.lookup B=some (excClassObj nm q B N bs tF true sn sub ab col dd k0 k1 k2 k3 k5 "ValueError.__new__")
section
variable {M:Model}{A:Around}{E:Value->Shared->Prop}{K:W.Frag}
theorem ac5{s:Shared}{e C B:Addr}{d:Option Addr}{vs:Array Value}{b:Array (Option Value)}{Q:Bool->Shared->Prop}(a:K.In s.heap)(c:j9 K C B)(f:XBase K B)(i:s.heap.get? e=some ((.ref C,d,.fields vs,b):Obj))
  (d:Q true s):wpAny M A (excMatches (.ref e) (.ref B)) Q E s:=by
 let(h,q,N,j,k,b,l,e,m,n,o,p,r,t,g):=c.ob;have b:=a _ _ g;let(c,t,u,e,h,j,k,l,v,m,n,o,p,q,r):=f.ob;have c:=a _ _ r;let(h,g,e,t,f):=s;have e:(Value.ref B::tF).contains (.type "BaseException")=true:=rfl;have a:(Value.ref C::.ref B::tF).contains (.ref B)=true:=by simp
 have f:=tc_notTuple;unfold excMatches
 repeat (first|with_reducible calc aa7 i ?_|with_reducible calc aa7 b ?_|with_reducible calc aa7 c ?_|(with_reducible calc abu b ?_;rw[a])|(with_reducible calc abu c ?_;rw[e])|wp_step)
 calc d
end
noncomputable abbrev Cx.qd(X:Cx)(a:Addr):Cx:={X with A:=X.A.mark (some (.ref a)),calm:=false,xe:=λ_ _=>False}
section
variable {X:Cx}{pins:List (Addr×Obj)}{σ:St}{H:Hp}{s:Shared}{a:Addr}
theorem Cx.Ok.qd(b:X.Ok)(a:Addr):(X.qd a).Ok:=
 (b.mod,b.kind,b.glob,b.blt,b.above,b.inj,b.has,b.Rl,(λz=>nomatch z),b.frames,b.Vl,b.Wz,b.bs,b.GH,b.yL,b.A7,b.oH,b.ML)
theorem Inv.qd(I:Inv X pins σ H s)(a:Addr):Inv (X.qd a) pins σ H s:=(I.ok.qd a,I.os,I.bare,I.base,I.loc,I.cell,I.free,I.i8,I.pin,I.aW,I.len)
theorem Inv.xX(b:X.Ok)(I:Inv (X.qd a) pins σ H s):Inv X pins σ H s:=(b,I.os,I.bare,I.base,I.loc,I.cell,I.free,I.i8,I.pin,I.aW,I.len)
theorem su{M:Model}{A:Around}{E:Value->Shared->Prop}{i:Nat}{n:Str}{pos:Pos}{Q:Unit->Shared->Prop}(I:Inv X pins σ H s)(C:X.N.Nodup)(r:X.N[i]?=some n)(o:X.env.scope.names.lookup n=some .local)
  (h:∀s',Inv X pins (σ.set i none) H s'->Q ⟨⟩ s'):wpAny M A (do bindName X.env n .none;unbindBehindTheSuite X.env n pos) Q E s:=by
 calc j' (wpAny_bindName (jS I C r (.inl o) (v:=.bG) (u:=.none) rfl (λm a=>?_) (.inr o)));have z:i<σ.length:=by rw[I.len];exact(List.getElem?_eq_some_iff.mp r).1
 let(m,F,G):=id a.loc;have J:X.env.kindOf n=some .local:=o;have B:(X.env.scope.kind == .class||(X.env.scope.kind == .module&&X.env.locals !=X.env.globals))=false:=by rw[I.ok.kind];rfl
 have d:∃u,m n=some u:=by
  let(u,_,q):=G i n .bG r (List.getElem?_set_self z) (.inl o);rcases q with⟨_,e⟩|⟨k,_⟩
  ·exact(u,e)
  ·rcases k with k|k<;>(rw[J]at k;cases k)
 let(m,d):=d;have K:=a.Hg;let(m,_,_,o,_):=id F;unfold unbindBehindTheSuite;calc wpAny_onRaise ?_;unfold unbindName;calc j' (wpAny_point (j' ?_));unfold deleteName;simp only[J,B];rw[if_neg ∅];calc j' (wpAny_nsDel_keeps F λm v u g=>?_);rw[d];simp only[if_true,Option.isSome_some,Bool.not_true,Bool.false_eq_true,if_false];refine K' (wpAny_point (h _ (a.ok,a.os,a.bare,(λb o e n v m=>?_,λb o e n v m=>?_,a.base.free,λb o e m=>?_,a.base.aU,a.base.u7,a.base.xo),(_,u,λj y L l t O=>?_),λy c e=>?_,a.free,a.i8,λp B=>?_,λb P e=>?_,by simpa using I.len)))
 ·exact(g.2 b (aaN (W' (V' e) I.ok.above))).trans (a.base.keep b o e n v m)
 ·let(d,l):=a.base.slot b o e n v m;exact(d,(g.2 b (aaN (W' (V' e) I.ok.above))).trans l)
 ·let(d,l):=a.base.there b o e m;exact(d,(g.2 b (aaN (W' (V' e) I.ok.above))).trans l)
 ·by_cases w:j=i
  ·subst w;rw[List.getElem?_set_self z] at t
   cases t
  ·rw[abA (Ne.symm w)] at t;let(R,S,q):=G j y L l (by rw[abA (Ne.symm w)];calc t) O;calc(R,S,?_);rcases q with⟨k,e⟩ | ⟨k,c,e,z⟩
   ·calc .inl (k,?_);have:y≠n:=λe=>w (sR C l (e▸r));simp[this,e]
   ·exact .inr (k,c,e,z.sameBut g (K y c e))
 ·let(i,z):=a.cell y c e;exact(i,z.sameBut g (K y c e))
 ·let(e,n,j,k,d):=a.pin p B;exact((g.2 p.1 j).trans e,n,j,k,d)
 ·calc(a.aW b P e).aM (λc i x q=>(g.2 c ?_).trans q) (λ_ q=>q) λ_ _ q=>q;rintro rfl;rcases x with rfl | x
  ·rw[a.free]at e;cases e
  ·rw[a.free]at x;cases x
end
end
section
end
end L2
set_option maxHeartbeats 4000000
namespace DD
open PySem L2
variable {H:Hp}{x:V}
inductive Kd(H:Hp):V->Value->Prop
 |bG:Kd H .bG (.type "NoneType")
 |bl (b:Bool):Kd H (.bl b) (.type "bool")
 |int (i:Int):Kd H (.int i) (.type "int")
 |str (x:Str):Kd H (.str x) (.type "str")
 |lst {a xs}:H a=some (.lst xs)->Kd H (.ref a) (.type "list")
 |tup {a xs}:H a=some (.tup xs)->Kd H (.ref a) (.type "tuple")
 |dK {a aL}:H a=some (.dK aL)->Kd H (.ref a) (.type "dict")
theorem Kd.ty{K:W.Frag}{H:Hp}{x:V}{t:Value}(h:Kd H x t):gS K H x t:=by
 cases h with
 |bG=>calc .bG
 |bl b=>calc .bl b
 |int i=>calc .int i
 |str x=>calc .str x
 |lst e=>calc .lst e
 |tup e=>calc .tup e
 |dK e=>calc .dK e
noncomputable def isI:V->Bool
 | .int _=>true
 |_=>false
theorem SR{K:W.Frag}{H:Hp}{x:V}{t:Value}(h:Kd H x t):∃b c,W.kitOne K t (.type "int")=some b/\W.kitOne K t (.type "bool")=some c/\isI x=(b && !c):=by
 cases h with
 |bG=>calc(false,false,rfl,rfl,rfl)
 |bl b=>calc(true,true,rfl,rfl,rfl)
 |int i=>calc(true,false,rfl,rfl,rfl)
 |str x=>calc(false,false,rfl,rfl,rfl)
 |lst e=>calc(false,false,rfl,rfl,rfl)
 |tup e=>calc(false,false,rfl,rfl,rfl)
 |dK e=>calc(false,false,rfl,rfl,rfl)
noncomputable def inR(a b:Int):V->Bool
 | .int i=>decide (a<=i)&&decide (i<b)
 |_=>false
theorem XI{H:Hp}{n:Nat}{x:V}{d:DV}(h:HD H n x d):∃t,Kd H x t:=by
 cases h with
 |bG=>calc(_,.bG)
 |bl b=>calc(_,.bl b)
 |int i=>calc(_,.int i)
 |str x=>calc(_,.str x)
 |tup e=>calc(_,.tup e)
 |lst e=>calc(_,.lst e)
 |dict e=>calc(_,.dK e)
noncomputable def SS:DV->Bool
 | .int _=>true
 |_=>false
noncomputable def XJ(a b:Int):DV->Bool
 | .int i=>decide (a<=i)&&decide (i<b)
 |_=>false
theorem SU{n:Nat}{d:DV}(h:HD H n x d):isI x=SS d:=by cases h<;>rfl
theorem SV{n:Nat}{d:DV}(h:HD H n x d)(a b:Int):inR a b x=XJ a b d:=by cases h<;>rfl
noncomputable def tR:List V:=[.str "letter",.str "way",.str "first"]
noncomputable def NI(w:Str)(m:Int):List DV->Bool
 | [z]=>if w="is" then SS z else(decide (w="number")&&XJ 0 m z)
 |_=>false
noncomputable def Fq(m:Int):DV->Bool
 | .tup (.str w::r)=>if CY (.str w) tR=true then decide (r.length=0) else NI w m r
 |_=>false
inductive Val where
 |is (c:Int)|number (i:Int)|nh|way|first
noncomputable def Val.dv:Val->DV
 | .is c=>.tup [.str "is",.int c]
 | .number i=>.tup [.str "number",.int i]
 | .nh=>.tup [.str "letter"]
 | .way=>.tup [.str "way"]
 | .first=>.tup [.str "first"]
def Val.ok(m:Int):Val->Prop
 | .number i=>0<=i/\i<m
 |_=>True
theorem SW{m:Int}{v:Val}(h:v.ok m):Fq m v.dv=true:=by
 cases v with
 |is c=>calc rfl
 |number i=>
  let(a,b):=h;show(if CY (.str "number") tR=true then decide (([DV.int i]:List DV).length=0) else if ("number":Str)="is" then SS (.int i) else(decide (("number":Str)="number")&&(decide (0<=i)&&decide (i<m))))=true;rw[if_neg ⋯,if_neg ⋯];simp[a,b]
 |nh=>calc rfl
 |way=>calc rfl
 |first=>calc rfl
noncomputable def tS(b a:List Int)(way said:Int):Val->Int
 | .is c=>c
 | .number i=>b.getD i.toNat 0
 | .nh=>said
 | .way=>way
 | .first=>a.headD 0
noncomputable abbrev zm(b a:List Int):DV:=.tup [.tup (b.map .int),.tup (a.map .int)]
theorem ln1{l:List V}(h:l.length=1):∃a,l=[a]:=List.length_eq_one_iff.mp h
theorem ln2{l:List V}(h:l.length=2):∃a b,l=[a,b]:=by
 cases l with
 |nil=>cases h
 |cons a r=>
  let(b,rfl):=ln1 (Nat.succ.inj h);calc(a,b,rfl)
theorem ln3{l:List V}(h:l.length=3):∃a b c,l=[a,b,c]:=by
 cases l with
 |nil=>cases h
 |cons a r=>
  let(b,c,rfl):=ln2 (Nat.succ.inj h);calc(a,b,c,rfl)
theorem ln4{l:List V}(h:l.length=4):∃a b c d,l=[a,b,c,d]:=by
 cases l with
 |nil=>cases h
 |cons a r=>
  let(b,c,d,rfl):=ln3 (Nat.succ.inj h);calc(a,b,c,d,rfl)
theorem jk{H:Hp}{n:Nat}{x:V}{d:DV}(h:HT H n x (.tup [d])):∃a u k,x=.ref a/\H a=some (.tup [u])/\HT H k u d:=by
 cases h with
 | @tup k a b _ e l i=>
  let(u,rfl):=ln1 l;calc(a,u,k,rfl,e,i 0 u d rfl rfl)
theorem dZ{H:Hp}{n:Nat}{x:V}{d d':DV}(h:HT H n x (.tup [d,d'])):∃a u v k,x=.ref a/\H a=some (.tup [u,v])/\HT H k u d/\HT H k v d':=by
 cases h with
 | @tup k a b _ e l i=>
  let(u,v,rfl):=ln2 l;calc(a,u,v,k,rfl,e,i 0 u d rfl rfl,i 1 v d' rfl rfl)
theorem Dq{H:Hp}{n:Nat}{x:V}{b:List Int}(h:HT H n x (.tup (b.map .int))):∃a,x=.ref a/\H a=some (.tup (b.map V.int)):=by
 cases h with
 | @tup k a c _ e l i=>
  calc(a,rfl,?_);have:c=b.map V.int:=by
   apply List.ext_getElem?;intro j;rw[J']
   cases d:b[j]? with
   |none=>
    have a:b.length<=j:=List.getElem?_eq_none_iff.mp d;rw[List.getElem?_eq_none_iff.mpr (by rw[l,aau];calc a)];rfl
   |some z=>
    have a:j<b.length:=(List.getElem?_eq_some_iff.mp d).1;have f:j<c.length:=by rw[l,aau];exact a
    have g:=i j c[j] (.int z) (cT f) (by rw[J',d];rfl);rw[cT f];generalize c[j]=y at g
    cases g;rfl
  rw[<-this];calc e
theorem oW{H:Hp}{n:Nat}{a:Addr}{c:List Int}(e:H a=some (.tup (c.map V.int))):HT H (n+1) (.ref a) (.tup (c.map .int)):=by
 calc .tup e nofun λi u d b f=>?_;rw[J']at b f
 cases g:c[i]? with
 |none=>rw[g]at b;cases b
 |some z=>rw[g]at b f;cases b;cases f;calc .int z
theorem tU{H:Hp}{n:Nat}{a:Addr}{u:V}{d:DV}(e:H a=some (.tup [u]))(h:HT H n u d):HT H (n+1) (.ref a) (.tup [d]):=by
 refine .tup e rfl λi x y b c=>?_
 cases i with
 |zero=>simp at b c;subst b c;calc h
 |succ i=>simp at b
theorem di{H:Hp}{n:Nat}{a:Addr}{u v:V}{d d':DV}(e:H a=some (.tup [u,v]))(h:HT H n u d)(h':HT H n v d'):HT H (n+1) (.ref a) (.tup [d,d']):=by
 refine .tup e rfl λi x y b c=>?_
 match i,b,c with
 |0,b,c=>simp at b c;subst b c;calc h
 |1,b,c=>simp at b c;subst b c;calc h'
theorem _root_.L2.HT.mono{H:Hp}{n:Nat}{x:V}{d:DV}(h:HT H n x d):∀{m:Nat},n<=m->HT H m x d:=by
 induction h with
 |bG=>intro m _;calc .bG
 |bl b=>intro m _;calc .bl b
 |int i=>intro m _;calc .int i
 |str x=>intro m _;calc .str x
 |tup a b c f=>
  intro m e;obtain⟨k,rfl⟩:∃k,m=k+1:=(m-1,())
  calc .tup a b λi u e p q=>f i u e p q ()
inductive bA where
 |set (i:Int) (v:Val)|add (i:Int) (v:Val)|times (i:Int) (v:Val)|put (v:Val)|drop|send (j:Int) (v:Val)|say (v:Val)|skip (v w:Val) (k:Int)
noncomputable def bA.dv:bA->DV
 | .set i v=>.tup [.str "set",.int i,v.dv]
 | .add i v=>.tup [.str "add",.int i,v.dv]
 | .times i v=>.tup [.str "times",.int i,v.dv]
 | .put v=>.tup [.str "put",v.dv]
 | .drop=>.tup [.str "drop"]
 | .send j v=>.tup [.str "send",.int j,v.dv]
 | .say v=>.tup [.str "say",v.dv]
 | .skip v w k=>.tup [.str "skip",v.dv,w.dv,.int k]
def bA.ok(m:Int):bA->Prop
 | .set i v=>0<=i/\i<m/\v.ok m
 | .add i v=>0<=i/\i<m/\v.ok m
 | .times i v=>0<=i/\i<m/\v.ok m
 | .put v=>v.ok m
 | .drop=>True
 | .send j v=>0<=j/\v.ok m
 | .say v=>v.ok m
 | .skip v w k=>v.ok m/\w.ok m/\1<=k/\k<25
noncomputable def bA.vals:bA->List Val
 | .set _ v=>[v]
 | .add _ v=>[v]
 | .times _ v=>[v]
 | .put v=>[v]
 | .drop=>[]
 | .send _ v=>[v]
 | .say v=>[v]
 | .skip v w _=>[v,w]
noncomputable def bA.word:bA->Str
 | .set _ _=>"set"
 | .add _ _=>"add"
 | .times _ _=>"times"
 | .put _=>"put"
 | .drop=>"drop"
 | .send _ _=>"send"
 | .say _=>"say"
 | .skip _ _ _=>"skip"
noncomputable def bA.vi:bA->List Str
 | .set _ _=>["number","value"]
 | .add _ _=>["number","value"]
 | .times _ _=>["number","value"]
 | .put _=>["value"]
 | .drop=>[]
 | .send _ _=>["way","value"]
 | .say _=>["value"]
 | .skip _ _ _=>["value","value","many"]
structure WS where
 ns:List Int
 row:List Int
 cM:List (Int×Int)
 words:List Int
noncomputable def fW(M way said:Int)(b a:List Int)(v:Val):Int:=tS b a way said v%M
noncomputable def jZ(M:Int)(a:List Int)(x:Int):bA->List Int
 | .set i _=>a.set i.toNat x
 | .add i _=>a.set i.toNat ((a.getD i.toNat 0+x)%M)
 | .times i _=>a.set i.toNat ((a.getD i.toNat 0*x)%M)
 |_=>a
noncomputable def oX(a:List Int)(x:Int):bA->List Int
 | .put _=>if a.length<12 then a++[x] else a
 | .drop=>a.tail
 |_=>a
noncomputable def iz(x:Int):bA->List (Int×Int)
 | .send j _=>[((j),x)]
 |_=>[]
noncomputable def gp(x:Int):bA->List Int
 | .say _=>[x]
 |_=>[]
noncomputable def oY(x y:Int):bA->Int
 | .skip _ _ k=>if x<y then k else 0
 |_=>0
noncomputable def kS(M way said:Int)(d:bA)(s:WS):WS:=
 let ws:=d.vals.map (fW M way said s.ns s.row)
 (jZ M s.ns (ws.getD 0 0) d,oX s.row (ws.getD 0 0) d,s.cM++iz (ws.getD 0 0) d,s.words++gp (ws.getD 0 0) d)
noncomputable def mY(M way said:Int)(d:bA)(s:WS):Int:=
 let ws:=d.vals.map (fW M way said s.ns s.row)
 oY (ws.getD 0 0) (ws.getD 1 0) d
noncomputable def zo(M way said:Int):Nat->List bA->WS->WS
 |0,_,s=>s
 |_,[],s=>s
 |f+1,d::r,s=>zo M way said f (r.drop (mY M way said d s).toNat) (kS M way said d s)
theorem Dr{M way said:Int}{f:Nat}{s:WS}:zo M way said f [] s=s:=by cases f<;>rfl
noncomputable def oZ(M way said:Int)(b:List bA)(c a:List Int):WS:=zo M way said b.length b (c,a,[],[])
theorem qf{M x:Int}{a:List Int}{d:bA}:(jZ M a x d).length=a.length:=by cases d<;>simp[jZ]
def zp(K:W.Frag)(H:Hp)(f:V)(e d:List Int):Prop:=∃a b c,f=.ref a/\H a=some (.tup [.ref b,.ref c])/\(aV K H b (e.map V.int)\/bI K H b (e.map V.int))/\(aV K H c (d.map V.int)\/bI K H c (d.map V.int))
theorem zp.of{K:W.Frag}{n:Nat}{f:V}{g d:List Int}(h:HT H n f (zm g d)):zp K H f g d:=by
 let(a,u,v,k,rfl,e,i,j):=dZ h;let(b,rfl,l):=Dq i;let(c,rfl,d):=Dq j;calc(a,b,c,rfl,e,.inr (bI.of l),.inr (bI.of d))
noncomputable def cn:Stmt->List Stmt
 | .ClassDef _ _ _ a _ _ _ _ _ _ _=>a
 |_=>[]
theorem bZ{H:Hp}{n:Nat}{x:V}{d d' b:DV}(h:HT H n x (.tup [d,d',b])):∃a u v w k,x=.ref a/\H a=some (.tup [u,v,w])/\HT H k u d/\HT H k v d'/\HT H k w b:=by
 cases h with
 | @tup k a c _ e l i=>
  let(u,v,w,rfl):=ln3 l;calc(a,u,v,w,k,rfl,e,i 0 u d rfl rfl,i 1 v d' rfl rfl,i 2 w b rfl rfl)
theorem o7{H:Hp}{n:Nat}{x:V}{d d' b c:DV}(h:HT H n x (.tup [d,d',b,c])):∃a u v w z k,x=.ref a/\H a=some (.tup [u,v,w,z])/\HT H k u d/\HT H k v d'/\HT H k w b/\HT H k z c:=by
 cases h with
 | @tup k a f _ e l i=>
  let(u,v,w,z,rfl):=ln4 l;calc(a,u,v,w,z,k,rfl,e,i 0 u d rfl rfl,i 1 v d' rfl rfl,i 2 w b rfl rfl,i 3 z c rfl rfl)
theorem ni{H:Hp}{n:Nat}{a:Addr}{u v w:V}{d d' f:DV}(e:H a=some (.tup [u,v,w]))(h:HT H n u d)(h':HT H n v d')(g:HT H n w f):HT H (n+1) (.ref a) (.tup [d,d',f]):=by
 refine .tup e rfl λi x y b c=>?_
 match i,b,c with
 |0,b,c=>simp at b c;subst b c;calc h
 |1,b,c=>simp at b c;subst b c;calc h'
 |2,b,c=>simp at b c;subst b c;calc g
theorem Ds{n:Nat}{v:Val}(h:HT H n x v.dv):∃a xs,x=.ref a/\H a=some (.tup xs):=by
 cases v<;>(cases h;rename_i a xs e l i;calc(_,_,rfl,by assumption))
end DD
set_option maxHeartbeats 400000
namespace L2
open PySem PySem.Spec PyProof.Rows
def XM:R2:=λx y H Q=>match x,y with
 | .ref a,.int n=>∃v,H a=some (.lst [v])/\-1000<=n/\n<=1000/\∀p,H p=none->Q (.ref p) (upd H p (.lst (List.replicate n.toNat v)))
 |_,_=>False
theorem Jk{α:Type}(n:Nat)(v:α):(List.replicate n [v]).flatten=List.replicate n v:=by
 induction n with
 |zero=>rfl
 |succ n a=>rw[List.replicate_succ,List.flatten_cons,a];rfl
theorem zr{v:V}{u:Value}(r:RelV v u):∀n:Nat,Vals (List.replicate n v) (List.replicate n u)
 |0=>.nil
 |n+1=>.cons r (zr r n)
section
variable {X:Cx}
theorem Jl:gP X (binaryOp .Mult) XM:=by
 intro g s σ H x y v u Q I i j h
 cases x<;>cases y<;>first
  |calc(show False from h).elim
  |skip
 rename_i a n;let(w,l,A,B,q):=h;obtain rfl:v=Value.ref a:=i;obtain⟨c,rfl⟩:∃c,u=Value.int n c:=j;let(_,C,k,m,d):=I.aW a _ l;let(f,rfl,p):=m.one;have r:([f]:List Value).toArray.size*n.toNat<=1000:=by simp;lia
 refine wpAny_binaryOp_repeat_ref (T:="list") (U:="int") ∅ (_,d,rfl) (λt=>typeIs_int t n c) noFill_list_mul F.fills_int_mul F.slot_int_rmul repeat_list F.slot_int_index.lookup
  (call_meets F.slot_int_rmul (typeIs_int s n c) F.entry_int_rmul (F.args_int_rmul_2 _ _) (lm_int_rmul_list_any n c a ([f]:List Value).toArray k none #[])
   (d,rfl,(_,d,rfl),call_meets F.slot_list_mul (_,d,rfl) F.entry_list_mul (F.args_list_mul_2 _ _)
    (lm_list_mul_any a ([f]:List Value).toArray k none #[] n c (by simp[Builtin.List.listFitsIndex];lia) () (by simp[Builtin.List.listTooLong,sizeLine];lia))
    (d,?_)))
 rw[listMul_foldl_if,Jk];have z:H s.heap.objs.size=none:=I.aW.fresh (S' _);calc(V.ref s.heap.objs.size,_,I.laid (o:=.lst (List.replicate n.toNat w)) (a:=s.heap.objs.size) (λb o e=>P' _ e) (S' _) (show _/\_ from(?_,_,0,zr p _,aas _ rfl)),rfl,q _ z);rw[List.length_replicate,abe];lia
end
def PR(K:W.Frag):List V->Hp->VK->Prop:=λxs H Q=>∃(a C B:Addr) (d:Option Addr) (p:Addr) (cs:List Addr) (b e:Bool),xs=[.ref a,.ref p]/\H a=some (XO a C d e)/\(∀c,d=some c->∃f,H c=some (XD c f))/\j9 K C B/\H p=some (.tup (cs.map V.ref))/\W.kitAny K (.ref C) (cs.map Value.ref)=some b/\Q (.bl b) H
theorem wt:∀{cs:List Addr}{us:List Value},Vals (cs.map V.ref) us->us=cs.map Value.ref
 | [],_,h=>by cases h;rfl
 |c::cs,_,h=>by
  cases h with
  |cons a b=>
   rw[wt b]
   cases(show _=Value.ref c from a);rfl
theorem Ft{X:Cx}:eW X (.builtin "isinstance") (PR X.K):=by
 intro e s σ H l m Q I r h;let(a,C,B,d,p,F,b,G,rfl,o,t,v,w,k,q):=h;obtain⟨u,c,rfl,n,x⟩:∃u c,m=u::c/\RelV (.ref a) u/\Vals [.ref p] c:=by cases r with|cons a b=>exact(_,_,rfl,a,b)
 let(y,rfl,A):=x.one
 cases(show u=Value.ref a from n)
 cases(show y=Value.ref p from A);let(_,a,c,f):=I.aW p _ w;rw[wt c]at f;let((e,h,a,D),E,g,n,i):=id f;simp only at g i;subst g i;refine W.kia_tup (zb v) I.il ?_ E k (λz=>nomatch z) λa=>(.bl b,H,I.tok _,rfl,q)
 let(l,D,j):=IK I o
 cases d with
 |none=>calc(_,none,j,rfl,rfl,aa4)
 |some a=>
  let(b,z):=t a rfl;let(_,(o,_,_,b,_),_):=IJ (I.aW a _ z);calc(_,some o,j,rfl,rfl,b)
end L2
namespace L2
open PySem
theorem tW{X:Cx}{K:W.Frag}(a:X.K=K):eW X (.builtin "isinstance") (PR K):=a▸Ft
theorem NJ:bootBuiltins "ValueError"=some (.type "ValueError"):=by kernel_rfl
structure PU(K:W.Frag)(mg:Str->Option Value)(B:Addr)(c:Nat->Addr):Prop where
 o8:mg "BadMachine"=some (.ref (c 0))
 wu:mg "BadDeed"=some (.ref (c 1))
 zt:mg "NoText"=some (.ref (c 2))
 zu:mg "BadNet"=some (.ref (c 3))
 tX:mg "NoLetter"=some (.ref (c 4))
 tY:mg "NotFirst"=some (.ref (c 5))
 wx:mg "NoCount"=some (.ref (c 6))
 wz:mg "NoEvent"=some (.ref (c 7))
 tZ:mg "Orphaned"=some (.ref (c 8))
 wA:mg "TooMany"=some (.ref (c 9))
 zw:mg "NoLine"=some (.ref (c 10))
 rq:mg "NoMachine"=some (.ref (c 11))
 zx:mg "NotRow"=some (.ref (c 12))
 Jm:mg "Busy"=some (.ref (c 13))
 o9:mg "NotReached"=some (.ref (c 14))
 zy:mg "NoMark"=some (.ref (c 15))
 Dt:mg "NoRow"=some (.ref (c 16))
 zz:mg "NoName"=some (.ref (c 17))
 zA:mg "NoDeed"=some (.ref (c 18))
 t9:mg "NetError"=some (.ref B)
 xY:oS K mg "BadMachine" (c 0) B
 Jn:oS K mg "NoText" (c 2) B
 Jo:oS K mg "BadNet" (c 3) B
 Fu:oS K mg "NoCount" (c 6) B
 wB:oS K mg "NoEvent" (c 7) B
 Fv:oS K mg "TooMany" (c 9) B
 zB:oS K mg "NoMachine" (c 11) B
 SX:oS K mg "Busy" (c 13) B
 Jp:oS K mg "NoMark" (c 15) B
 NK:oS K mg "NoRow" (c 16) B
 Jq:oS K mg "NoName" (c 17) B
 Jr:oS K mg "NoDeed" (c 18) B
 cl:∀i,i<19->j9 K (c i) B
 inj:∀i j,i<19->j<19->c i=c j->i=j
 nB:∀i,i<19->c i≠B
 XN:(W.clsIn K B).isSome=true
 tyB:W.typeIn K (.ref B)=some (.type "type")
 xb:XBase K B
 fX:bS K (c 1) "at"
 fA:bS K (c 4) "at"
 fB:bS K (c 5) "at"
 dA:bS K (c 8) "letter"
 ff:bS K (c 10) "falls"
 eF:bS K (c 10) "letter"
 fY:bS K (c 12) "way"
 cK:bS K (c 14) "machine"
section
variable {K:W.Frag}{mg:Str->Option Value}{B:Addr}{c:Nat->Addr}
theorem BR(T:PU K mg B c){i j:Nat}(a:i<19)(b:j<19):W.kitOne K (.ref (c i)) (.ref (c j))=some (decide (i=j)):=by
 unfold W.kitOne;by_cases e:i=j
 ·subst e;rw[if_pos nofun];simp
 ·have d:c i≠c j:=λz=>e (T.inj i j a b z);have g:c j≠B:=T.nB j b;rw[if_neg (by simpa using d)];let(cd,k,l,_):=(T.cl i a).cd;let(n,q,N,o,p,l,r,m,t,u,v,w,x,y,k):=(T.cl j b).ob;have l:W.typeIn K (.ref (c j))=some (.type "type"):=by show Option.map (·.cls) (K.lookup (c j))=_;rw[k];rfl
  have b:(W.clsIn K (c j)).isSome=true:=by unfold W.clsIn;rw[k];rfl
  have k:=(T.cl i a).mro (.ref (c j));show(if ((W.clsIn K (c j)).isSome&&W.typeIn K (.ref (c j))==some (.type "type"))=true then W.subIn K (.ref (c i)) (.ref (c j)) else none)=_;rw[l,b];simp only[beq_self_eq_true,Bool.and_self,if_true];show W.mroIn K (c i) (.ref (c j))=_;rw[k];have z:((Value.ref (c i)::.ref B::tF).contains (.ref (c j)))=false:=by
   simp[tF,List.contains_cons,d,g,Ne.symm d]
  rw[z];simp[e]
theorem SY(T:PU K mg B c){i:Nat}(a:i<19):W.kitOne K (.ref (c i)) (.type "ValueError")=some true:=by
 unfold W.kitOne;rw[if_neg (by intro z;cases z)];show(if W.kitMeta "ValueError"=true then W.subIn K (.ref (c i)) (.type "ValueError") else none)=_;rw[if_pos ⋯];show W.mroIn K (c i) (.type "ValueError")=_;exact((T.cl i a).mro _).trans rfl
theorem xZ(T:PU K mg B c){i:Nat}(b:i<19):∀a:List Nat,(∀j∈a,j<19)->W.kitAny K (.ref (c i)) ((a.map c).map Value.ref)=some (decide (i∈a))
 | [],_=>by simp[W.kitAny]
 |j::a,h=>by
  have d:=xZ T b a λk f=>h k (aaD _ f);have e:=BR T b (h j nofun);show(match W.kitOne K (.ref (c i)) (.ref (c j)) with|some true=>some true|some false=>W.kitAny K (.ref (c i)) ((a.map c).map Value.ref)|none=>none)=_;rw[e];by_cases z:i=j
  ·subst z;simp
  ·rw[aaM z];show W.kitAny K (.ref (c i)) ((a.map c).map Value.ref)=_;rw[d];simp[z]
end
end L2
namespace L2
open PySem PySem.Spec PyProof.Rows Builtin.Str
end L2
namespace L2
open PySem PySem.Spec PyProof.Rows Builtin.Str
end L2
set_option maxHeartbeats 4000000
namespace L2
open PySem
section
variable {X:Cx}
def ac8(K:W.Frag):List V->Hp->VK->Prop:=λxs H Q=>∃(x:V) (C:Addr) (t:Value) (b:Bool),xs=[x,.ref C]/\gS K H x t/\W.kitOne K t (.ref C)=some b/\Q (.bl b) H
theorem Js{K:W.Frag}(c:X.K=K):eW X (.builtin "isinstance") (ac8 K):=by
 subst c;intro a s σ H i j Q I r h;let(x,C,t,b,rfl,d,e,q):=h;let(u,k,rfl,f,g):=vals2 r
 cases g;calc vS I f d e λa=>(.bl b,H,I.tok _,rfl,q)
end
end L2
namespace L2
open PySem PySem.Spec PyProof.Rows
variable {e:Nat->Bool}
def GS(K:W.Frag)(H:Hp):Nat->V->V->Bool->Prop
 |0,_,_,_=>False
 | n + 1,x,y,b=>(∃a,x=.ref a/\y=.ref a/\b=true)\/(gk x=true/\gk y=true/\b=GJ x y)
  \/(∃a xs,gk x=true/\y=.ref a/\(bI K H a xs\/aV K H a xs)/\b=false)\/(∃a xs,gk y=true/\x=.ref a/\(bI K H a xs\/aV K H a xs)/\b=false)
  \/(∃a c xs d,x=.ref a/\y=.ref c/\((bI K H a xs/\aV K H c d)\/(aV K H a xs/\bI K H c d))/\b=false)
  \/∃a c xs d,∃e:Nat->Bool,x=.ref a/\y=.ref c/\a≠c/\((bI K H a xs/\bI K H c d)\/(aV K H a xs/\aV K H c d))
   /\(∀(i:Nat) u v,xs[i]?=some u->d[i]?=some v->GS K H n u v (e i))/\b=((List.range (min xs.length d.length)).all e&&(xs.length==d.length))
def EqT(K:W.Frag)(H:Hp)(n:Nat)(a c:Addr)(b:Bool):Prop:=∃xs d,∃e:Nat->Bool,((bI K H a xs/\bI K H c d)\/(aV K H a xs/\aV K H c d))
      /\(∀(i:Nat) u v,xs[i]?=some u->d[i]?=some v->GS K H n u v (e i))/\b=((List.range (min xs.length d.length)).all e&&(xs.length==d.length))
section
variable {X:Cx}
theorem Jt{pins:List (Addr×Obj)}{σ:St}{H:Hp}{s:Shared}(I:Inv X pins σ H s){n:Nat}(L:∀(A:Around) {x y:V}{u v:Value}{b:Bool},GS X.K H n x y b->A.units+n<cLine->RelV x u->RelV y v->SeqAt.EqAt A s u v b)
  {A:Around} {a c:Addr} {b:Bool} (h:EqT X.K H n a c b) (f:A.units+n+1<cLine):SeqAt.RcAt A s (.ref a) (.ref c) b/\SeqAt.RcNeAt A s (.ref a) (.ref c) (!b):=by
 let(g,k,e,d,M,rfl):=h;rcases d with⟨m,n⟩|⟨m,n⟩
 ·let(d,o,h,p):=I.tuple m;let(f,q,l,w):=I.tuple n;have N:=o.length;have O:=q.length;have b:∀j (m:j<d.toArray.size) (n:j<f.toArray.size),SeqAt.EqAt A.in1 s d.toArray[j] f.toArray[j] (e j):=λj y z=>by
   have B:j<d.length:=by simpa using y
   have C:j<f.length:=by simpa using z
   let(D,r,E):=o.get (i:=j) (x:=g[j]'()) nofun;let(F,t,G):=q.get (i:=j) (x:=k[j]'()) nofun;have H:d.toArray[j]=D:=by
    have:=cT B;rw[this]at r;simpa using Option.some.inj r
   have J:f.toArray[j]=F:=by
    have:=cT C;rw[this]at t;simpa using Option.some.inj t
   rw[H,J];exact L A.in1 (M j _ _ nofun nofun) (by rw[in1_units];lia) E G
  have u:=SeqAt.RcAt.tuples (A:=A) (show s.heap.IsTuple a d.toArray from h) (show s.heap.IsTuple c f.toArray from l) () b;have v:=SeqAt.RcNeAt.tuples (A:=A) (show s.heap.IsTuple a d.toArray from h) (show s.heap.IsTuple c f.toArray from l) () b;have p:d.toArray.size=g.length:=by simp;lia
  have w:f.toArray.size=k.length:=by simp;lia
  rw[p,w]at u v;exact(u,v)
 ·let(d,o,h,p):=I.list m;let(f,q,l,w):=I.list n;have N:=o.length;have O:=q.length;by_cases a:g.length=k.length
  ·have c:d.toArray.size=f.toArray.size:=by simp;lia
   have b:∀j (m:j<d.toArray.size) (n:j<f.toArray.size),SeqAt.EqAt A.in1 s d.toArray[j] f.toArray[j] (e j):=λj y z=>by
    have B:j<d.length:=by simpa using y
    have C:j<f.length:=by simpa using z
    let(D,r,E):=o.get (i:=j) (x:=g[j]'()) nofun;let(F,t,G):=q.get (i:=j) (x:=k[j]'()) nofun;have H:d.toArray[j]=D:=by
     have:=cT B;rw[this]at r;simpa using Option.some.inj r
    have J:f.toArray[j]=F:=by
     have:=cT C;rw[this]at t;simpa using Option.some.inj t
    rw[H,J];exact L A.in1 (M j _ _ nofun nofun) (by rw[in1_units];lia) E G
   have u:=SeqAt.RcAt.lists (A:=A) h.isList l.isList c () b;have v:=SeqAt.RcNeAt.lists (A:=A) h.isList l.isList c () b;have p:d.toArray.size=g.length:=by simp;lia
   have b:((List.range (min g.length k.length)).all e&&(g.length==k.length))=(List.range g.length).all e:=by rw[a];simp
   rw[p]at u v;rw[b];exact(u,v)
  ·have c:(d.toArray.size != f.toArray.size)=true:=by simp;lia
   have b:((List.range (min g.length k.length)).all e&&(g.length==k.length))=false:=by simp[a]
   rw[b];calc(SeqAt.RcAt.lists_lengths h.isList l.isList c (),SeqAt.RcNeAt.lists_lengths h.isList l.isList c ())
theorem Ju{pins:List (Addr×Obj)}{σ:St}{H:Hp}{s:Shared}(I:Inv X pins σ H s):∀(n:Nat) (A:Around) {x y:V}{u v:Value}{b:Bool},GS X.K H n x y b->A.units+n<cLine->RelV x u->RelV y v->SeqAt.EqAt A s u v b
 |0,_,_,_,_,_,_,h,_,_,_=>h.elim
 |n+1,A,x,y,u,v,b,h,r,k,l=>by
  rcases h with⟨a,rfl,rfl,rfl⟩|⟨f,g,rfl⟩|⟨a,p,f,rfl,i,rfl⟩|⟨a,p,f,rfl,i,rfl⟩|⟨a,c,p,q,rfl,rfl,i,rfl⟩|⟨a,c,p,q,e,rfl,rfl,w,i,z,B⟩
  ·cases k;cases l;exact SeqAt.EqAt.same _
  ·exact Bs k l f g
  ·cases l;rcases i with i | i
   ·let(j,m,d,o):=I.tuple i
    cases x<;>first|calc absurd (show false=true from f) T'|skip
    ·cases k;exact SeqAt.EqAt.none_tuple (show s.heap.IsTuple a j.toArray from d) ()
    ·cases k;exact SeqAt.EqAt.bool_tuple _ (show s.heap.IsTuple a j.toArray from d) ()
    ·let(t,rfl):=k;exact SeqAt.EqAt.int_tuple _ _ (show s.heap.IsTuple a j.toArray from d) ()
    ·let(t,rfl):=k;exact SeqAt.EqAt.str_tuple _ _ (show s.heap.IsTuple a j.toArray from d) ()
   ·let(j,m,d,o):=I.list i
    cases x<;>first|calc absurd (show false=true from f) T'|skip
    ·cases k;exact SeqAt.EqAt.none_list d.isList ()
    ·cases k;exact SeqAt.EqAt.bool_list _ d.isList ()
    ·let(t,rfl):=k;exact SeqAt.EqAt.int_list _ _ d.isList ()
    ·let(t,rfl):=k;exact SeqAt.EqAt.str_list _ _ d.isList ()
  ·cases k;rcases i with i | i
   ·let(j,m,d,o):=I.tuple i
    cases y<;>first|calc absurd (show false=true from f) T'|skip
    ·cases l;exact SeqAt.EqAt.tuple_none (show s.heap.IsTuple a j.toArray from d) ()
    ·cases l;exact SeqAt.EqAt.tuple_bool _ (show s.heap.IsTuple a j.toArray from d) ()
    ·let(t,rfl):=l;exact SeqAt.EqAt.tuple_int _ _ (show s.heap.IsTuple a j.toArray from d) ()
    ·let(t,rfl):=l;exact SeqAt.EqAt.tuple_str _ _ (show s.heap.IsTuple a j.toArray from d) ()
   ·let(j,m,d,o):=I.list i
    cases y<;>first|calc absurd (show false=true from f) T'|skip
    ·cases l;exact SeqAt.EqAt.list_none d.isList ()
    ·cases l;exact SeqAt.EqAt.list_bool _ d.isList ()
    ·let(t,rfl):=l;exact SeqAt.EqAt.list_int _ _ d.isList ()
    ·let(t,rfl):=l;exact SeqAt.EqAt.list_str _ _ d.isList ()
  ·cases k
   cases l;rcases i with⟨f,g⟩|⟨f,g⟩
   ·let(j,m,d,o):=I.tuple f;let(r,t,h,C):=I.list g;exact SeqAt.EqAt.tuple_list (show s.heap.IsTuple a j.toArray from d) h.isList ()
   ·let(j,m,d,o):=I.list f;let(r,t,h,C):=I.tuple g;exact SeqAt.EqAt.list_tuple d.isList (show s.heap.IsTuple c r.toArray from h) ()
  ·cases k
   cases l;calc SeqAt.EqAt.of_refs w (Jt I (λA {x y u v b}=>Ju I n A) (p,q,e,i,z,B) ()).1
def S8(K:W.Frag):R2:=λx y H Q=>∃a c b,x=.ref a/\y=.ref c/\EqT K H 19 a c b/\Q (.bl b) H
theorem x6(i:X.A.units+64<cLine):gP X (compareOp .Eq) (S8 X.K):=by
 intro d s σ H x y v u Q I e f h;let(a,c,b,rfl,rfl,g,q):=h
 cases e
 cases f;calc(Jt I (λA {x y u v b}=>Ju I 19 A) (A:=X.A) g ()).1 X.prog X.w X.xe _ (.bl b,H,I,rfl,q)
end
inductive x8:DV->Prop
 |bG:x8 .bG
 |int (i:Int):x8 (.int i)
 |str (x:Str):x8 (.str x)
 |tup {ds:List DV}:(∀e∈ds,x8 e)->x8 (.tup ds)
 |lst {ds:List DV}:(∀e∈ds,x8 e)->x8 (.lst ds)
theorem GS.mono{K:W.Frag}{H:Hp}:∀{n:Nat}{x y:V}{b:Bool},GS K H n x y b->∀{m:Nat},n<=m->GS K H m x y b
 |0,_,_,_,h,_,_=>h.elim
 |n+1,x,y,b,h,m,a=>by
  obtain⟨k,rfl⟩:∃k,m=k+1:=(m-1,())
  rcases h with h|h|h|h|h|⟨a,c,b,d,e,f,g,j,k,l,m⟩
  ·exact .inl h
  ·exact .inr (.inl h)
  ·exact .inr (.inr (.inl h))
  ·exact .inr (.inr (.inr (.inl h)))
  ·exact .inr (.inr (.inr (.inr (.inl h))))
  ·calc .inr (.inr (.inr (.inr (.inr (a,c,b,d,e,f,g,j,k,λi u v p q=>(l i u v p q).mono (),m)))))
theorem NL{H:Hp}{n:Nat}{x:V}{d:DV}(h:HD H n x d):∀{m:Nat}{d':DV},HD H m x d'->d=d':=by
 induction h with
 |bG=>intro m d' h;cases h;rfl
 |bl b=>intro m d' h;cases h;rfl
 |int i=>intro m d' h;cases h;rfl
 |str x=>intro m d' h;cases h;rfl
 | @tup n a f g e l i k=>
  intro m d' h
  cases h with
  | @tup m _ q o c r p=>
   rw[e]at c
   cases c;congr 1;apply List.ext_getElem ();intro j s t;have u:j<f.length:=by lia
   calc k j f[j] g[j] nofun nofun (p j f[j] o[j] nofun nofun)
  |lst c=>rw[e]at c;cases c
  |dict c=>rw[e]at c;cases c
 | @lst n a f g e l i k=>
  intro m d' h
  cases h with
  | @lst m _ q o c r p=>
   rw[e]at c
   cases c;congr 1;apply List.ext_getElem ();intro j s t;have u:j<f.length:=by lia
   calc k j f[j] g[j] nofun nofun (p j f[j] o[j] nofun nofun)
  |tup c=>rw[e]at c;cases c
  |dict c=>rw[e]at c;cases c
 |dict e=>
  intro m d' h
  cases h with
  |tup c=>rw[e]at c;cases c
  |lst c=>rw[e]at c;cases c
  |dict _=>rfl
theorem all_eq{a b:List DV}(f:∀(i:Nat) u v,a[i]?=some u->b[i]?=some v->e i=true->u=v)(h:((List.range (min a.length b.length)).all e&&(a.length==b.length))=true):a=b:=by
 rw[aa9]at h;let(d,c):=h;have c:a.length=b.length:=by simpa using c
 apply List.ext_getElem c;intro j a b;calc f j _ _ nofun nofun ?_;rw[List.all_eq_true]at d;calc d j (by simp;lia)
theorem Fw{a:List DV}(b:∀i,i<a.length->e i=true):((List.range (min a.length a.length)).all e&&(a.length==a.length))=true:=by
 simp;calc b
theorem mJ{K:W.Frag}{H:Hp}{n m:Nat}{x y:V}{d d':DV}(h:HD H 0 x d)(h':HD H m y d')(a:x8 d)(c:x8 d')(f:gk x=true):∃b,GS K H (n+1) x y b/\(b=true↔d=d'):=by
 cases h<;>cases h'<;>first
  |(calc(_,.inr (.inl (rfl,rfl,rfl)),?_);simp[GJ];done)
  |(rename_i e _ _;calc(false,.inr (.inr (.inl (_,_,rfl,rfl,.inl (bI.of e),rfl))),nofun))
  |(rename_i e _ _;calc(false,.inr (.inr (.inl (_,_,rfl,rfl,.inr (aV.of e),rfl))),nofun))
  |(exfalso;cases a;done)
  |(exfalso;cases c;done)
theorem x9{K:W.Frag}{H:Hp}:∀(n:Nat) {x y:V}{d d':DV}{m:Nat},HD H n x d->HD H m y d'->x8 d->x8 d'->∃b,GS K H (n+1) x y b/\(b=true↔d=d'):=by
 have A:∀{k m:Nat} {g s:List V} {t w:List DV},(∀{x y:V} {d d':DV} {m:Nat},HD H k x d->HD H m y d'->x8 d->x8 d'->∃b,GS K H (k + 1) x y b/\(b=true↔d=d'))->g.length=t.length->s.length=w.length->
   (∀(i:Nat) u e,g[i]?=some u->t[i]?=some e->HD H k u e)->(∀(i:Nat) u e,s[i]?=some u->w[i]?=some e->HD H m u e)->(∀e∈t,x8 e)->(∀e∈w,x8 e)->
   ∃e:Nat->Bool,(∀(i:Nat) u v,g[i]?=some u->s[i]?=some v->GS K H (k+1) u v (e i))/\(((List.range (min g.length s.length)).all e&&(g.length==s.length))=true↔t=w):=by
  intro k m g s t w I l C i D o r;have G:∀j:Nat,∃b:Bool,(∀u v,g[j]?=some u->s[j]?=some v->GS K H (k+1) u v b)/\(∀u v,t[j]?=some u->w[j]?=some v->(b=true↔u=v)):=by
   intro j;by_cases J:j<g.length/\j<s.length
   ·let(Q,R):=J;have O:j < t.length:=by lia
    have P:j<w.length:=by lia
    let(b,S,T):=I (i j g[j] t[j] nofun nofun) (D j s[j] w[j] nofun nofun) (o _ (aaV O)) (r _ (aaV P));refine(b,λu v p q=>?_,λu v p q=>?_)
    ·rw[cT Q]at p;rw[cT R]at q;cases p;cases q;exact S
    ·rw[cT O]at p;rw[cT P]at q;cases p;cases q;exact T
   ·refine(true,λu v p q=>?_,λu v p q=>?_)
    ·exact absurd ((List.getElem?_eq_some_iff.mp p).1,(List.getElem?_eq_some_iff.mp q).1) J
    ·exact absurd (by rw[l];calc(List.getElem?_eq_some_iff.mp p).1,by rw[C];calc(List.getElem?_eq_some_iff.mp q).1) J
  let(e,L):=Classical.axiomOfChoice G;refine(e,λi u v p q=>(L i).1 u v p q,λh=>?_,λh=>?_)
  ·rw[l,C]at h;exact all_eq (λi u v p q=>((L i).2 u v p q).mp) h
  ·subst h;rw[l,C];calc Fw λi b=>?_;exact((L i).2 t[i] t[i] nofun nofun).mpr rfl
 intro n;induction n with
 |zero=>
  intro x y d d' m h B o r
  cases h with
  |bG=>calc mJ .bG B o r rfl
  |int j=>calc mJ (.int j) B o r rfl
  |str j=>calc mJ (.str j) B o r rfl
  |bl _=>cases o
  |dict _=>cases o
 |succ n I=>
  intro x y d d' m h B o r;by_cases E:∃a,x=.ref a/\y=.ref a
  ·let(a,rfl,rfl):=E;exact(true,.inl (a,rfl,rfl,rfl),by simp[NL h B])
  cases h with
  | @tup _ a g t e l i=>
   cases o with
   |tup o=>
   cases B with
   | @tup m c s w F C D=>
    cases r with
    |tup r=>
    let(f,M,N):=A I l C i D o r;calc(_,.inr (.inr (.inr (.inr (.inr (a,c,g,s,f,rfl,rfl,λz=>E (a,rfl,by rw[z]),.inl (bI.of e,bI.of F),M,rfl))))),N.trans nofun)
   | @lst m c s w F C D=>calc(false,.inr (.inr (.inr (.inr (.inl (a,c,g,s,rfl,rfl,.inl (bI.of e,aV.of F),rfl))))),nofun)
   |dict _=>cases r
   |bl _=>cases r
   |bG=>calc(false,.inr (.inr (.inr (.inl (a,g,rfl,rfl,.inl (bI.of e),rfl)))),nofun)
   |int j=>calc(false,.inr (.inr (.inr (.inl (a,g,rfl,rfl,.inl (bI.of e),rfl)))),nofun)
   |str j=>calc(false,.inr (.inr (.inr (.inl (a,g,rfl,rfl,.inl (bI.of e),rfl)))),nofun)
  | @lst _ a g t e l i=>
   cases o with
   |lst o=>
   cases B with
   | @lst m c s w F C D=>
    cases r with
    |lst r=>
    let(f,M,N):=A I l C i D o r;calc(_,.inr (.inr (.inr (.inr (.inr (a,c,g,s,f,rfl,rfl,λz=>E (a,rfl,by rw[z]),.inr (aV.of e,aV.of F),M,rfl))))),N.trans nofun)
   | @tup m c s w F C D=>calc(false,.inr (.inr (.inr (.inr (.inl (a,c,g,s,rfl,rfl,.inr (aV.of e,bI.of F),rfl))))),nofun)
   |dict _=>cases r
   |bl _=>cases r
   |bG=>calc(false,.inr (.inr (.inr (.inl (a,g,rfl,rfl,.inr (aV.of e),rfl)))),nofun)
   |int j=>calc(false,.inr (.inr (.inr (.inl (a,g,rfl,rfl,.inr (aV.of e),rfl)))),nofun)
   |str j=>calc(false,.inr (.inr (.inr (.inl (a,g,rfl,rfl,.inr (aV.of e),rfl)))),nofun)
  |dict _=>cases o
  |bl _=>cases o
  |bG=>calc(mJ (n:=n+1) .bG B o r rfl)
  |int j=>calc(mJ (n:=n+1) (.int j) B o r rfl)
  |str j=>calc(mJ (n:=n+1) (.str j) B o r rfl)
end L2
namespace L2
open PySem
variable {H:Hp}{σ:St}
theorem aX{t u:TS}{D:Ends}(h:∀N:St->Hp->Prop,N=u D->t {D with nx:=N} σ H):EM t u D σ H:=h _ rfl
theorem fE{c:TT}{t u:TS}{D:Ends}(h:∀T U:St->Hp->Prop,T=t D->U=u D->c σ H λb a=>if b=true then T σ a else U σ a):yO c t u D σ H:=h _ _ rfl rfl
theorem S9{i:Nat}{v:V}{Q:St->Hp->Prop}(h:Q (σ.set i (some v)) H):gj i v σ H Q:=h
theorem aQ{N M:St->Hp->Prop}(e:N=M)(h:M σ H):N σ H:=e▸h
end L2
namespace DD
open PySem L2
variable {x:Addr}{Z:Addr->Prop}{H H':Hp}{vs:List V}
structure MD where
 M:Int
 ns:List Int
 row:List Int
 ds:List bA
structure Good(M:Int)(ns row:List Int)(ds:List bA):Prop where
 m2:2<=M
 m12:M<=1000000000000
 l1:1<=ns.length
 l4:ns.length<=4
 r12:row.length<=12
 bn:∀z∈ns,0<=z/\z<M
 br:∀z∈row,0<=z/\z<M
 d24:ds.length<=24
 ok:∀d∈ds,d.ok ns.length
abbrev MD.good(d:MD):Prop:=Good d.M d.ns d.row d.ds
instance:Inhabited MD:=⟨(0,[],[],[])⟩
noncomputable def i3 (Z:Addr->Prop) (H:Hp):Hp:=λx=> @ite _ (Z x) (Classical.propDecidable _) (some (.own 0)) (H x)
theorem gq(h:¬Z x):i3 Z H x=H x:=by unfold i3;rw[if_neg h]
theorem BS(h:Z x):i3 Z H x=some (.own 0):=by unfold i3;rw[if_pos h]
theorem dB{o:HO}(h:i3 Z H x=some o)(b:∀k,o≠.own k):¬Z x/\H x=some o:=by
 by_cases a:Z x
 ·rw[BS a]at h;cases h;exact absurd rfl (b 0)
 ·rw[gq a]at h;calc(a,h)
theorem NM{o:HO}(h:Z x):i3 Z (upd H x o)=i3 Z H:=by
 funext b;by_cases a:Z b
 ·rw[BS a,BS a]
 ·rw[gq a,gq a,ay (λe:b=x=>a (e▸h))]
def Cv(H H':Hp):Prop:=∀b o,H b=some o->(∀k,o≠.own k)->H' b=some o
theorem _root_.L2.av.cv(s:av H H'):Cv H H':=λb o e _=>s b o e
def soft:HO->Prop
 | .lst _=>True
 | .dK _=>True
 |_=>False
def Fr(Z:Addr->Prop)(H H':Hp):Prop:=∀b o,H b=some o->(Z b->¬soft o)->H' b=some o
theorem Fr.refl:Fr Z H H:=λ_ _ e _=>e
theorem Fr.trans{c d:Hp}(a:Fr Z H c)(b:Fr Z c d):Fr Z H d:=λc o e n=>b c o (a c o e n) n
theorem _root_.L2.av.fr(s:av H H'):Fr Z H H':=λb o e _=>s b o e
theorem Fr.at(a:Fr Z H H'){b:Addr}{o:HO}(e:H b=some o)(h:¬Z b):H' b=some o:=a b o e λz=>absurd z h
theorem Fr.mO(a:Fr Z H H'){b:Addr}{o:HO}(e:H b=some o)(h:¬soft o):H' b=some o:=a b o e λ_=>h
theorem Fr.upd{b:Hp}(a:Fr Z H b){x:Addr}{o u:HO}(h:Z x)(f:b x=some u)(g:soft u):Fr Z H (upd b x o):=λc v e n=>by
 by_cases z:c=x
 ·subst z;have d:=a c v e n;rw[f] at d
  cases d;exact absurd g (n h)
 ·rw[ay z];calc a c v e n
theorem Fr.mono{c:Addr->Prop}{d:Hp}(a:Fr Z H d)(h:∀b,Z b->c b):Fr c H d:=λc o e n=>a c o e λz=>n (h c z)
theorem Fr.aU(h:Fr Z H H'):cw H H':=λb a e=>h b _ e λ_=>id
theorem Fr.i3(h:Fr Z H H'):Cv (i3 Z H) (i3 Z H'):=λb o e n=>by
 let(a,b):=dB e n;rw[gq a];calc h.at b a
theorem d7:Cv (i3 Z H) H:=λb o e n=>(dB e n).2
theorem Cv.aU(h:Cv H H'):cw H H':=λb a e=>h b _ e (λk z=>by cases z)
theorem _root_.L2.HD.cv{H H':Hp}(s:Cv H H'){n:Nat}{x:V}{d:DV}(h:HD H n x d):HD H' n x d:=by
 induction h with
 |bG=>calc .bG
 |bl b=>calc .bl b
 |int i=>calc .int i
 |str x=>calc .str x
 |tup e l i a=>calc .tup (s _ _ e (λk z=>by cases z)) l a
 |lst e l i a=>calc .lst (s _ _ e (λk z=>by cases z)) l a
 |dict e=>calc .dict (s _ _ e (λk z=>by cases z))
def e9(H:Hp)(n:Nat)(vs:List V)(a:List DV):Prop:=vs.length=a.length/\∀(i:Nat) v d,vs[i]?=some v->a[i]?=some d->HD H n v d
theorem e9.cv(s:Cv H H'){n:Nat}{vs:List V}{a:List DV}(h:e9 H n vs a):e9 H' n vs a:=(h.1,λi v d a b=>(h.2 i v d a b).cv s)
theorem e9.nil{n:Nat}:e9 H n [] []:=(rfl,λi v d a=>by simp at a)
theorem e9.mono{n m:Nat}{a:List DV}(h:e9 H n vs a)(c:n<=m):e9 H m vs a:=(h.1,λi v d a b=>(h.2 i v d a b).mono c)
theorem e9.app{n:Nat}{us:List V}{a es:List DV}(h:e9 H n vs a)(g:e9 H n us es):e9 H n (vs++us) (a++es):=by
 calc(by simp[h.1,g.1],λi v d a b=>?_);by_cases c:i<vs.length
 ·rw[aaf c]at a;rw[aaf (by rw[<-h.1];calc c)]at b;exact h.2 i _ _ a b
 ·rw[Y' ()]at a;rw[Y' (by rw[<-h.1];lia),<-h.1]at b;calc g.2 _ _ _ a b
theorem e9.one{H:Hp}{n:Nat}{v:V}{d:DV}(h:HD H n v d):e9 H n [v] [d]:=by
 refine(rfl,λi u e a b=>?_)
 cases i with
 |zero=>simp at a b;subst a b;calc h
 |succ i=>simp at a
theorem e9.set{n:Nat}{c:List DV}{v:V}{d:DV}(h:e9 H n vs c)(g:HD H n v d)(k:Nat):e9 H n (vs.set k v) (c.set k d):=by
 calc(by simp[h.1],λi u e a b=>?_);rw[List.getElem?_set]at a b;by_cases f:k=i
 ·rw[if_pos f] at a b;split at a
  ·rw[if_pos (by rw[<-h.1];assumption)]at b;cases a;cases b;exact g
  ·cases a
 ·rw[if_neg f]at a b;calc h.2 i u e a b
theorem e9.ints{H:Hp}{n:Nat}(c:List Int):e9 H n (c.map V.int) (c.map DV.int):=by
 calc(nofun,λi v d a b=>?_);rw[J']at a b
 cases e:c[i]? with
 |none=>rw[e]at a;cases a
 |some z=>rw[e]at a b;cases a;cases b;calc .int z
theorem e9.ua{n:Nat}{a:List Int}(h:e9 H n vs (a.map DV.int)):vs=a.map V.int:=by
 apply List.ext_getElem (by simpa using h.1);intro j d b;have c:j<a.length:=by simpa using b
 have:=h.2 j vs[j] (.int a[j]) nofun (by simp[c]);simp only[List.getElem_map];generalize vs[j]=y at this
 cases this;rfl
theorem e9.get{n:Nat}{a:List DV}(h:e9 H n vs a){i:Nat}{d:DV}(e:a[i]?=some d):∃v,vs[i]?=some v/\HD H n v d:=by
 have b:i<a.length:=(List.getElem?_eq_some_iff.mp e).1;have a:i<vs.length:=by rw[h.1];exact b
 calc(vs[i],nofun,h.2 i _ _ nofun e)
inductive CO where
 |l (ds:List DV)|d (g:Int->Option DV) (n:Nat)
def OR(H:Hp):CO->HO->Prop
 | .l a,.lst vs=>e9 H 4 vs a
 | .d g n,.dK a=>a.length<=n/\∀k:Int,match g k with
  |none=>dW a (Sum.inl k)=none
  |some d=>∃v,dW a (Sum.inl k)=some v/\HD H 4 v d
 |_,_=>False
theorem OR.cv{H H':Hp}(s:Cv H H'){c:CO}{o:HO}(h:OR H c o):OR H' c o:=by
 cases c with
 |l a=>
  cases o with
  |lst vs=>calc e9.cv s h
  |_=>calc aa3 h
 |d g n=>
  cases o with
  |dK a=>
   calc(h.1,λk=>?_);have:=h.2 k;revert this
   cases g k with
   |none=>calc id
   |some d=>calc λ⟨v,e,a⟩=>(v,e,a.cv s)
  |_=>calc aa3 h
def FP(n:Nat->Nat)(ad:Nat->Nat->Addr)(b:Addr):Prop:=∃t i,i<n t/\b=ad t i
structure dJ(F:Addr->Prop)(H:Hp)(n:Nat->Nat)(ad:Nat->Nat->Addr)(ct:Nat->Nat->CO):Prop where
 inj:∀t i t' i',i<n t->i'<n t'->ad t i=ad t' i'->t=t'/\i=i'
 out:∀t i,i<n t->¬F (ad t i)
 Me:∀t i,i<n t->∃o,H (ad t i)=some o/\OR (i3 (λb=>F b\/FP n ad b) H) (ct t i) o
noncomputable def setC(ct:Nat->Nat->CO)(t i:Nat)(c:CO):Nat->Nat->CO:=λt' a=>if t'=t/\a=i then c else ct t' a
section
variable {F:Addr->Prop}{H H':Hp}{n:Nat->Nat}{ad:Nat->Nat->Addr}{ct ct':Nat->Nat->CO}
theorem dJ.keep(h:dJ F H n ad ct)(a:Fr F H H'):dJ F H' n ad ct:=
 (h.inj,h.out,λt i c=>by
  let(o,e,r):=h.Me t i c;calc(o,a.at e (h.out t i c),r.cv (a.mono λb z=>.inl z).i3))
theorem dJ.same(h:dJ F H n ad ct)(s:av H H'):dJ F H' n ad ct:=h.keep s.fr
theorem dJ.congr(h:dJ F H n ad ct)(e:∀t i,i<n t->ct t i=ct' t i):dJ F H n ad ct':=
 (h.inj,h.out,λt i a=>by rw[<-e t i a];calc h.Me t i a)
theorem dJ.upd(h:dJ F H n ad ct){t i:Nat}(a:i<n t){c:CO}{o:HO}(r:OR (i3 (λb=>F b\/FP n ad b) H) c o):dJ F (upd H (ad t i) o) n ad (setC ct t i c):=by
 have c:(λb=>F b\/FP n ad b) (ad t i):=.inr (t,i,a,rfl);calc(h.inj,h.out,λd f g=>?_);rw[NM c];by_cases e:d=t/\f=i
 ·let(rfl,rfl):=e;exact(o,af,by unfold setC;rw[if_pos (rfl,rfl)];calc r)
 ·let(b,c,i):=h.Me d f g;calc(b,?_,by unfold setC;rw[if_neg e];calc i);rw[ay (λz=>e (h.inj _ _ _ _ g a z))];calc c
theorem dJ.lst(h:dJ F H n ad ct){t i:Nat}(c:i<n t){a:List DV}(e:ct t i=.l a):∃vs,H (ad t i)=some (.lst vs)/\e9 (i3 (λb=>F b\/FP n ad b) H) 4 vs a:=by
 let(o,d,r):=h.Me t i c;rw[e]at r
 cases o with
 |lst vs=>calc(vs,d,r)
 |_=>calc r.elim
theorem dJ.dct(h:dJ F H n ad ct){t i:Nat}(c:i<n t){g:Int->Option DV}{N:Nat}(e:ct t i=.d g N):∃a,H (ad t i)=some (.dK a)/\OR (i3 (λb=>F b\/FP n ad b) H) (.d g N) (.dK a):=by
 let(o,f,r):=h.Me t i c;rw[e]at r
 cases o with
 |dK vs=>calc(vs,f,r)
 |_=>calc r.elim
theorem dJ.app(h:dJ F H n ad ct){t i:Nat}(a:i<n t){c:List DV}(e:ct t i=.l c){vs:List V}(f:H (ad t i)=some (.lst vs)){us:List V}{es:List DV}(g:e9 (i3 (λb=>F b\/FP n ad b) H) 4 us es):
  dJ F (L2.upd H (ad t i) (.lst (vs++us))) n ad (setC ct t i (.l (c++es))):=by
 let(b,d,r):=h.lst a e;rw[f]at d
 cases d;calc h.upd a (show e9 _ 4 _ _ from r.app g)
theorem dJ.set(h:dJ F H n ad ct){t i:Nat}(a:i<n t){c:List DV}(e:ct t i=.l c){vs:List V}(j:H (ad t i)=some (.lst vs)){k:Nat}{v:V}{d:DV}(g:HD (i3 (λb=>F b\/FP n ad b) H) 4 v d):
  dJ F (L2.upd H (ad t i) (.lst (vs.set k v))) n ad (setC ct t i (.l (c.set k d))):=by
 let(b,f,r):=h.lst a e;rw[j]at f
 cases f;calc h.upd a (show e9 _ 4 _ _ from r.set g k)
theorem OR.soft{c:CO}{o:HO}(h:OR H c o):soft o:=by
 cases c<;>cases o<;>first|trivial|calc aa3 h
theorem dJ.soft(h:dJ F H n ad ct){t i:Nat}(a:i<n t):∃o,H (ad t i)=some o/\DD.soft o:=by
 let(o,e,r):=h.Me t i a;calc(o,e,r.soft)
theorem dJ.fp(h:dJ F H n ad ct){b:Addr}(a:FP n ad b):∃o,H b=some o/\DD.soft o:=by
 let(t,i,c,rfl):=a;calc h.soft c
theorem dJ.ne(h:dJ F H n ad ct){b:Addr}{o:HO}(e:H b=some o)(c:¬DD.soft o):¬FP n ad b:=λz=>by
 let(u,a,d):=h.fp z;rw[e]at a;cases a;calc c d
theorem dJ.ht(h:dJ F H n ad ct)(c:∀b,F b->∃o,H b=some o/\DD.soft o){m:Nat}{x:V}{d:DV}(g:HT H m x d):HD (DD.i3 (λb=>F b\/FP n ad b) H) m x d:=by
 calc HT.hd (g.aM λb d e=>?_);rw[gq]
 ·exact e
 ·rintro(z | z)
  ·let(o,a,f):=c b z;rw[e]at a;cases a;exact f
  ·calc h.ne e id z
end
end DD
namespace DD
open PySem L2
variable {B i:Nat}
noncomputable def _root_.List.bJ{α:Type}(l:List α)(d:α):α:=l.getD (l.length-1) d
theorem getD_at{α:Type}{l:List α}{x d:α}(h:l[i]?=some x):l.getD i d=x:=by rw[aaK,h];rfl
theorem bu{α:Type}{l:List α}{d:α}(h:i<l.length):l[i]?=some (l.getD i d):=by rw[aaK,cT h];rfl
theorem getD_mem{α:Type}{l:List α}{d:α}(h:i<l.length):l.getD i d∈l:=aaT (bu h)
theorem ub{α:Type}{l:List α}{x d:α}:(l++[x]).bJ d=x:=by
 unfold List.bJ;calc getD_at nofun
theorem ij{α:Type}{l:List α}{d:α}(h:1<=l.length):l.bJ d∈l:=getD_mem ()
theorem pd{α:Type}{l:List α}{d:α}(h:1<=l.length):l[l.length-1]?=some (l.bJ d):=bu ()
structure MS where
 fm:List (List Int×List Int)
 wp:List (List Int)
 hr:List (List Int)
structure WY where
 say:List Int
 snd:List (Option (Int×Int))
 fb:List (Option (Int×Int))
structure RS where
 picks:List (Int×Int)
 mm:Nat->MS
 ww:Nat->WY
structure NT where
 ms:List MD
 ws:List (Int×Int×Str)
noncomputable def pairD(p:Int×Int):DV:=.tup [.int p.1,.int p.2]
noncomputable def oG:Option (Int×Int)->DV
 |none=>.bG
 |some p=>pairD p
noncomputable def uc(s:List Int×List Int):DV:=zm s.1 s.2
noncomputable def NT.M(n:NT)(m:Nat):Int:=(n.ms.getD m default).M
noncomputable def NT.nn(n:NT)(m:Nat):Nat:=(n.ms.getD m default).ns.length
noncomputable def NT.ds(n:NT)(m:Nat):List bA:=(n.ms.getD m default).ds
noncomputable def NT.w(n:NT)(w:Nat):Int×Int×Str:=n.ws.getD w ((0),0,"")
noncomputable def NT.outs(n:NT)(m:Int):List Nat:=(List.range n.ws.length).filter λi=>decide ((n.w i).1=m)
noncomputable def NT.ins(n:NT)(m:Int):List Nat:=(List.range n.ws.length).filter λi=>decide ((n.w i).2.1=m)
noncomputable def NT.goal(n:NT)(w:Nat):Nat:=(n.w w).2.1.toNat
noncomputable def NT.place(n:NT)(w:Nat):Nat:=(n.ins (n.w w).2.1).idxOf w
noncomputable def RS.put(r:RS)(w:Nat)(x:Int)(s:Option (Int×Int)):RS:=
 {r with ww:=λk=>if k=w then((r.ww w).say++[x],(r.ww w).snd++[s],(r.ww w).fb++[none]) else r.ww k}
noncomputable def RS.send(r:RS)(outs:List Nat)(ev:Int×Int):List (Int×Int)->RS
 | []=>r
 |p::a=>(if p.1.toNat<outs.length then r.put (outs.getD p.1.toNat 0) p.2 (some ev) else r).send outs ev a
noncomputable def NT.work(n:NT)(r:RS)(w k:Nat):WS:=
 oZ (n.M (n.goal w)) (n.place w) ((r.ww w).say.getD k 0) (n.ds (n.goal w)) ((r.mm (n.goal w)).fm.bJ (([]),[])).1 ((r.mm (n.goal w)).fm.bJ (([]),[])).2
noncomputable def NT.ev(n:NT)(r:RS)(w:Nat):Int×Int:=(((n.goal w:Nat)),((r.mm (n.goal w)).fm.length:Nat))
noncomputable def NT.ie(n:NT)(r:RS)(w k:Nat):List Int:=
 let m:=n.goal w
 let b:=(r.mm m).hr.bJ (List.replicate n.ms.length 0)
 let a:=match (r.ww w).snd.getD k none with
  |none=>b
  |some ((s),c)=>List.zipWith max b ((r.mm s.toNat).hr.getD (c-1).toNat [])
 a.set m (n.ev r w).2
noncomputable def RS.step(n:NT)(r:RS)(w k:Nat):RS:=
 let m:=n.goal w
 let res:=n.work r w k
 {picks:=r.picks++[(((w:Int)),(k:Int))]
  mm:=λi=>if i=m then((r.mm m).fm++[((res.ns),res.row)],(r.mm m).wp++[(r.mm m).wp.bJ []++res.words],(r.mm m).hr++[n.ie r w k]) else r.mm i
  ww:=λi=>if i=w then {(r.ww w) with fb:=(r.ww w).fb.set k (some (n.ev r w))} else r.ww i}
noncomputable def RS.pick(n:NT)(r:RS)(w k:Nat):RS:=(r.step n w k).send (n.outs (n.goal w)) (n.ev r w) (n.work r w k).cM
noncomputable def RS.pf(r:RS):List (Int×Int)->RS
 | []=>r
 |p::a=>(r.put p.1.toNat p.2 none).pf a
noncomputable def RS.new(n:NT):RS:=([],λm=>([(((n.ms.getD m default).ns),(n.ms.getD m default).row)],[[]],[]),λ_=>([],[],[]))
noncomputable def RS.begin(n:NT)(a:List (Int×Int)):RS:=(RS.new n).pf a
noncomputable def kd(l:List (Option (Int×Int)))(k:Int):Option DV:=if 0<=k then(l.getD k.toNat none).map pairD else none
noncomputable def RS.ct(r:RS):Nat->Nat->CO
 |0,_=>.l (r.picks.map pairD)
 |1,m=>.l ((r.mm m).fm.map uc)
 |2,m=>.l ((r.mm m).wp.map λw=>.int (w.length:Nat))
 |3,m=>.l (((r.mm m).wp.bJ []).map .int)
 |4,w=>.l ((r.ww w).say.map .int)
 |5,w=>.l ((r.ww w).snd.map oG)
 |_,w=>.l ((r.ww w).fb.map oG)
noncomputable def NT.n(n:NT):Nat->Nat
 |0=>1
 |1=>n.ms.length
 |2=>n.ms.length
 |3=>n.ms.length
 |4=>n.ws.length
 |5=>n.ws.length
 |6=>n.ws.length
 |_=>0
structure NT.Ok(n:NT):Prop where
 Ta:n.ms.length<=5
 ms1:1<=n.ms.length
 Fy:n.ws.length<=10
 good:∀d∈n.ms,d.good
 XQ:∀w∈n.ws,0<=w.1/\w.1<n.ms.length/\0<=w.2.1/\w.2.1<n.ms.length/\(w.2.2="row"\/w.2.2="heap")
structure NN(M:Int)(nn:Nat)(s:List Int×List Int):Prop where
 ln:s.1.length=nn
 bn:∀z∈s.1,0<=z/\z<M
 lr:s.2.length<=12
structure RS.Ok(n:NT)(r:RS):Prop where
 lw:∀m,m<n.ms.length->(r.mm m).fm.length=(r.mm m).wp.length
 lh:∀m,m<n.ms.length->(r.mm m).fm.length=(r.mm m).hr.length+1
 so:∀m,m<n.ms.length->∀s∈(r.mm m).fm,NN (n.M m) (n.nn m) s
 hl:∀m,m<n.ms.length->∀h∈(r.mm m).hr,h.length=n.ms.length
 ls:∀w,w<n.ws.length->(r.ww w).say.length=(r.ww w).snd.length
 lk:∀w,w<n.ws.length->(r.ww w).say.length=(r.ww w).fb.length
 sd:∀w,w<n.ws.length->∀s c,some ((s),c)∈(r.ww w).snd->0<=s/\s<n.ms.length/\1<=c/\c<=(r.mm s.toNat).hr.length
 bp:∀m,m<n.ms.length->(r.mm m).fm.length<=r.picks.length+1
 bw:∀m,m<n.ms.length->∀w∈(r.mm m).wp,w.length<=24*r.picks.length
 bs:∀w,w<n.ws.length->(r.ww w).say.length<=20+24*r.picks.length
 XR:∀m,m<n.ms.length->∀u∈(r.mm m).wp,u <+:(r.mm m).wp.bJ []
theorem zC{M way said:Int}{n:Int}:∀(f:Nat) (b:List bA) (s:WS),(∀d∈b,d.ok n)->(∀p∈s.cM,0<=p.1)->∀p∈(zo M way said f b s).cM,0<=p.1
 |0,_,s,_,h=>h
 |f+1,[],s,_,h=>h
 |f+1,d::r,s,c,h=>by
  calc zC f _ _ (λe b=>c e (aaD _ (List.mem_of_mem_drop b))) ?_;intro p a;have a:p∈s.cM++iz ((d.vals.map (fW M way said s.ns s.row)).getD 0 0) d:=a;rcases List.mem_append.mp a with a|a
  ·exact h p a
  ·have g:=c d (aaY ..)
   cases d with
   |send j v=>
    simp only[iz,List.mem_singleton]at a;subst a;calc g.1
   |_=>simp only[iz,List.not_mem_nil]at a
theorem Du{M way said:Int}:∀(f:Nat) (a:List bA) (s:WS),(zo M way said f a s).cM.length<=s.cM.length+a.length/\(zo M way said f a s).words.length<=s.words.length+a.length/\(zo M way said f a s).ns.length=s.ns.length
 |0,_,s=>(Nat.le_add_right ..,Nat.le_add_right ..,rfl)
 |f+1,[],s=>(S' _,S' _,rfl)
 |f+1,d::r,s=>by
  let(a,b,c):=Du (M:=M) (way:=way) (said:=said) f (r.drop (mY M way said d s).toNat) (kS M way said d s);have a:(kS M way said d s).cM.length<=s.cM.length+1:=by
   show(s.cM++iz _ d).length<=_
   cases d<;>simp[iz]
  have a:(kS M way said d s).words.length<=s.words.length+1:=by
   show(s.words++gp _ d).length<=_
   cases d<;>simp[gp]
  have a:(kS M way said d s).ns.length=s.ns.length:=qf;have a:(r.drop (mY M way said d s).toNat).length<=r.length:=by simp
  refine(?_,?_,?_)
  ·show(zo M way said f _ _).cM.length<=_;simp only[List.length_cons];lia
  ·show(zo M way said f _ _).words.length<=_;simp only[List.length_cons];lia
  ·show(zo M way said f _ _).ns.length=_;lia
theorem Dv{M way said:Int}(c:0<M):∀(f:Nat) (e:List bA) (s:WS),(∀z∈s.ns,0<=z/\z<M)->s.row.length<=12->(∀z∈(zo M way said f e s).ns,0<=z/\z<M)/\(zo M way said f e s).row.length<=12
 |0,_,s,h,g=>(h,g)
 |f+1,[],s,h,g=>(h,g)
 |f+1,d::r,s,h,g=>by
  refine Dv c f _ _ ?_ ?_
  ·have b:∀y:Int,0<=y % M/\y % M < M:=λy=>(abi _ (),abc _ c)
   have a:∀(j:Nat) (y:Int),(0<=y/\y<M)->∀z∈s.ns.set j y,0<=z/\z<M:=λj y k z l=>by
    rcases List.mem_or_eq_of_mem_set l with c|c
    ·exact h z c
    ·rw[c];exact k
   show ∀z∈jZ M s.ns ((d.vals.map (fW M way said s.ns s.row)).getD 0 0) d,0<=z/\z<M
   cases d with
   |set i v=>calc a _ _ (b _)
   |add i v=>calc a _ _ (b _)
   |times i v=>calc a _ _ (b _)
   |_=>exact h
  ·show(oX s.row ((d.vals.map (fW M way said s.ns s.row)).getD 0 0) d).length<=12
   cases d with
   |put v=>
    simp only[oX];split
    ·simp;lia
    ·calc g
   |drop=>simp only[oX,List.length_tail];lia
   |_=>calc g
section
variable {n:NT}{r:RS}
theorem NT.Ok.gd(h:n.Ok){m:Nat}(a:m<n.ms.length):(n.ms.getD m default).good:=by
 calc h.good _ (getD_mem a)
theorem NT.Ok.wy(h:n.Ok){w:Nat}(a:w<n.ws.length):0<=(n.w w).1/\(n.w w).1<n.ms.length/\0<=(n.w w).2.1/\(n.w w).2.1<n.ms.length/\((n.w w).2.2="row"\/(n.w w).2.2="heap"):=by
 calc h.XQ _ (getD_mem a)
theorem NT.Ok.kg(h:n.Ok){w:Nat}(a:w<n.ws.length):n.goal w<n.ms.length:=by
 have:=h.wy a;unfold NT.goal;lia
theorem RS.Ok.zD(h:r.Ok n){m:Nat}(a:m<n.ms.length):1<=(r.mm m).fm.length:=by rw[h.lh m a];lia
theorem RS.Ok.last(h:r.Ok n){m:Nat}(a:m<n.ms.length):NN (n.M m) (n.nn m) ((r.mm m).fm.bJ (([]),[])):=h.so m a _ (ij (h.zD a))
theorem sy(a:n.Ok)(h:r.Ok n){w:Nat}(c:w<n.ws.length)(k:Nat):NN (n.M (n.goal w)) (n.nn (n.goal w)) (((n.work r w k).ns),(n.work r w k).row)/\(n.work r w k).cM.length<=24/\(n.work r w k).words.length<=24/\∀p∈(n.work r w k).cM,0<=p.1:=by
 have b:=a.kg c;have g:=a.gd b;have l:=h.last b;have a:(n.ds (n.goal w)).length<=24:=g.d24;have b:0<n.M (n.goal w):=by have:=g.m2;show 0<(n.ms.getD (n.goal w) default).M;lia
 let(d,e,f):=Du (M:=n.M (n.goal w)) (way:=n.place w) (said:=(r.ww w).say.getD k 0) (n.ds (n.goal w)).length (n.ds (n.goal w)) (((r.mm (n.goal w)).fm.bJ (([]),[])).1,((r.mm (n.goal w)).fm.bJ (([]),[])).2,[],[]);let(h,i):=Dv b (way:=n.place w) (said:=(r.ww w).say.getD k 0) (n.ds (n.goal w)).length (n.ds (n.goal w)) (((r.mm (n.goal w)).fm.bJ (([]),[])).1,((r.mm (n.goal w)).fm.bJ (([]),[])).2,[],[]) l.bn l.lr;have c:=zC (M:=n.M (n.goal w)) (way:=n.place w) (said:=(r.ww w).say.getD k 0) (n:=n.nn (n.goal w)) (n.ds (n.goal w)).length (n.ds (n.goal w)) (((r.mm (n.goal w)).fm.bJ (([]),[])).1,((r.mm (n.goal w)).fm.bJ (([]),[])).2,[],[]) g.ok (λp b=>by simp at b);refine((?_,h,i),?_,?_,c)
 ·exact f.trans l.ln
 ·exact aaS d (by simpa using a)
 ·calc aaS e (by simpa using a)
structure RS.uX(n:NT)(r:RS)(B:Nat):Prop where
 lw:∀m,m<n.ms.length->(r.mm m).fm.length=(r.mm m).wp.length
 lh:∀m,m<n.ms.length->(r.mm m).fm.length=(r.mm m).hr.length+1
 so:∀m,m<n.ms.length->∀s∈(r.mm m).fm,NN (n.M m) (n.nn m) s
 hl:∀m,m<n.ms.length->∀h∈(r.mm m).hr,h.length=n.ms.length
 ls:∀w,w<n.ws.length->(r.ww w).say.length=(r.ww w).snd.length
 lk:∀w,w<n.ws.length->(r.ww w).say.length=(r.ww w).fb.length
 sd:∀w,w<n.ws.length->∀s c,some ((s),c)∈(r.ww w).snd->0<=s/\s<n.ms.length/\1<=c/\c<=(r.mm s.toNat).hr.length
 bp:∀m,m<n.ms.length->(r.mm m).fm.length<=r.picks.length+1
 bw:∀m,m<n.ms.length->∀w∈(r.mm m).wp,w.length<=24*r.picks.length
 bs:∀w,w<n.ws.length->(r.ww w).say.length<=B
 XR:∀m,m<n.ms.length->∀u∈(r.mm m).wp,u <+:(r.mm m).wp.bJ []
theorem RS.uX.ok(h:r.uX n B)(a:B<=20+24*r.picks.length):r.Ok n:=(h.lw,h.lh,h.so,h.hl,h.ls,h.lk,h.sd,h.bp,h.bw,λw b=>aaS (h.bs w b) a,h.XR)
theorem RS.uX.put(h:r.uX n B){w:Nat}{x:Int}{s:Option (Int×Int)}(g:∀a c,s=some ((a),c)->0<=a/\a<n.ms.length/\1<=c/\c<=(r.mm a.toNat).hr.length):(r.put w x s).uX n (B+1):=by
 have e:∀k,(r.put w x s).ww k=if k=w then((r.ww w).say++[x],(r.ww w).snd++[s],(r.ww w).fb++[none]) else r.ww k:=λk=>rfl
 refine(h.lw,h.lh,h.so,h.hl,λv b=>?_,λv b=>?_,λv b a c d=>?_,h.bp,h.bw,λv b=>?_,h.XR)
 ·rw[e];split
  ·next z=>subst z;simp[h.ls v b]
  ·exact h.ls v b
 ·rw[e];split
  ·next z=>subst z;simp[h.lk v b]
  ·exact h.lk v b
 ·rw[e] at d;split at d
  ·next z=>
   subst z;rcases List.mem_append.mp d with d|d
   ·exact h.sd v b a c d
   ·simp at d;exact g a c d.symm
  ·exact h.sd v b a c d
 ·rw[e];split
  ·next z=>subst z;have:=h.bs v b;simp;lia
  ·have:=h.bs v b;lia
theorem RS.uX.mono{a:Nat}(h:r.uX n B)(b:B<=a):r.uX n a:={h with bs:=λw a=>aaS (h.bs w a) b}
theorem RS.uX.send{outs:List Nat}{ev:Int×Int}:∀(b:List (Int×Int)) {r:RS}{B:Nat},r.uX n B->(∀a c,some ev=some ((a),c)->0<=a/\a<n.ms.length/\1<=c/\c<=(r.mm a.toNat).hr.length)->(r.send outs ev b).uX n (B+b.length)
 | [],r,B,h,_=>h
 |p::b,r,B,h,d=>by
  show((if p.1.toNat<outs.length then r.put (outs.getD p.1.toNat 0) p.2 (some ev) else r).send outs ev b).uX n _;have e:B+(p::b).length=B+1+b.length:=by simp;lia
  rw[e];split
  ·exact RS.uX.send b (h.put d) d
  ·calc RS.uX.send b (h.mono ()) d
theorem RS.ph{outs:List Nat}{ev:Int×Int}:∀(a:List (Int×Int)) {r:RS},(r.send outs ev a).mm=r.mm/\(r.send outs ev a).picks=r.picks
 | [],r=>(rfl,rfl)
 |p::a,r=>by
  show((if p.1.toNat<outs.length then r.put (outs.getD p.1.toNat 0) p.2 (some ev) else r).send outs ev a).mm=_/\((if p.1.toNat<outs.length then r.put (outs.getD p.1.toNat 0) p.2 (some ev) else r).send outs ev a).picks=_;split
  ·exact RS.ph a
  ·calc RS.ph a
theorem BU{u v w:List Int}(h:u <+:v):u <+:v++w:=by
 let(t,rfl):=h;calc(t++w,nofun)
theorem zE(o:n.Ok)(h:r.Ok n){w:Nat}(j:w<n.ws.length){k:Nat}:(n.ie r w k).length=n.ms.length:=by
 have p:=o.kg j;have m:((r.mm (n.goal w)).hr.bJ (List.replicate n.ms.length 0)).length=n.ms.length:=by
  by_cases f:1<=(r.mm (n.goal w)).hr.length
  ·exact h.hl _ p _ (ij f)
  ·have e:(r.mm (n.goal w)).hr=[]:=by
    cases q:(r.mm (n.goal w)).hr with
    |nil=>rfl
    |cons a b=>rw[q]at f;simp at f
   rw[e];simp[List.bJ]
 unfold NT.ie;simp only[List.length_set];split
 ·exact m
 ·next s c e=>
  have g:k<(r.ww w).snd.length:=by
   by_cases g:k<(r.ww w).snd.length
   ·exact g
   ·rw[aaK,List.getElem?_eq_none ()]at e;cases e
  have t:some ((s),c)∈(r.ww w).snd:=by rw[<-e];exact getD_mem g
  let(u,v,x,y):=h.sd w j s c t;have:=h.hl s.toNat () _ (getD_mem (l:=(r.mm s.toNat).hr) (i:=(c-1).toNat) (d:=[]) ());rw[List.length_zipWith,m,this];lia
theorem RS.Ok.step(t:n.Ok)(h:r.Ok n){w k:Nat}(p:w<n.ws.length):(r.step n w k).uX n (20+24*r.picks.length):=by
 have g:=t.kg p;let(A,F,G,H):=sy t h p k;have j:∀i,(r.step n w k).mm i=if i=n.goal w then((r.mm (n.goal w)).fm++[(((n.work r w k).ns),(n.work r w k).row)],(r.mm (n.goal w)).wp++[(r.mm (n.goal w)).wp.bJ []++(n.work r w k).words],(r.mm (n.goal w)).hr++[n.ie r w k]) else r.mm i:=λi=>rfl
 have q:∀i,(r.step n w k).ww i=if i=w then {(r.ww w) with fb:=(r.ww w).fb.set k (some (n.ev r w))} else r.ww i:=λi=>rfl
 have x:(r.step n w k).picks.length=r.picks.length+1:=by show(r.picks++[_]).length=_;simp
 refine(λm f=>?_,λm f=>?_,λm f s b=>?_,λm f s b=>?_,λv o=>?_,λv o=>?_,λv o a c b=>?_,λm f=>?_,λm f u e=>?_,λv o=>?_,λm f u e=>?_)
 ·rw[j];split
  ·simp[h.lw _ g]
  ·exact h.lw m f
 ·rw[j];split
  ·simp[h.lh _ g]
  ·exact h.lh m f
 ·rw[j] at b;split at b
  ·next z=>
   subst z;rcases List.mem_append.mp b with b|b
   ·exact h.so _ g s b
   ·simp at b;subst b;exact A
  ·exact h.so m f s b
 ·rw[j] at b;split at b
  ·rcases List.mem_append.mp b with b | b
   ·exact h.hl _ g s b
   ·simp at b;subst b;exact zE t h p
  ·exact h.hl m f s b
 ·rw[q];split
  ·exact h.ls w p
  ·exact h.ls v o
 ·rw[q];split
  ·simp[h.lk w p]
  ·exact h.lk v o
 ·have B:some ((a),c)∈(r.ww v).snd:=by
   rw[q]at b;split at b
   ·next z=>subst z;exact b
   ·exact b
  let(C,D,E,y):=h.sd v o a c B;calc(C,D,E,?_);rw[j];split
  ·next z=>rw[z]at y;simp;lia
  ·exact y
 ·rw[j,x];split
  ·have:=h.bp _ g;simp;lia
  ·have:=h.bp _ f;lia
 ·rw[x];rw[j] at e;split at e
  ·rcases List.mem_append.mp e with e | e
   ·have:=h.bw _ g u e;lia
   ·simp at e;subst e;have:=h.bw _ g _ (ij (l:=(r.mm (n.goal w)).wp) (d:=[]) (by rw[<-h.lw _ g];calc h.zD g));simp;lia
  ·have:=h.bw _ f u e;lia
 ·rw[q];split
  ·exact h.bs w p
  ·exact h.bs v o
 ·rw[j] at e ⊢;split at e
  ·next z=>
   rw[if_pos z];show u <+:((r.mm (n.goal w)).wp++[_]).bJ [];rw[ub];rcases List.mem_append.mp e with e|e
   ·exact BU (h.XR _ g u e)
   ·simp at e;subst e;exact List.prefix_refl _
  ·next z=>rw[if_neg z];calc h.XR m f u e
theorem RS.Ok.pick(a:n.Ok)(h:r.Ok n){w k:Nat}(b:w<n.ws.length):(r.pick n w k).Ok n/\(r.pick n w k).picks=r.picks++[(((w:Int)),(k:Int))]:=by
 have d:=a.kg b;let(c,f,g,i):=sy a h b k;have s:=RS.uX.send (outs:=n.outs (n.goal w)) (ev:=n.ev r w) (n.work r w k).cM (h.step a b (k:=k)) (λa c e=>by
  cases e;refine((),(),?_,?_)
  ·have:=h.zD d;lia
  ·have a:(r.step n w k).mm (n.goal w)=((r.mm (n.goal w)).fm++[(((n.work r w k).ns),(n.work r w k).row)],(r.mm (n.goal w)).wp++[(r.mm (n.goal w)).wp.bJ []++(n.work r w k).words],(r.mm (n.goal w)).hr++[n.ie r w k]):=if_pos rfl;rw[show((n.goal w:Nat):Int).toNat=n.goal w from aaX _,a,h.lh _ d];simp)
 have a:=(RS.ph (outs:=n.outs (n.goal w)) (ev:=n.ev r w) (n.work r w k).cM (r:=r.step n w k)).2;calc(s.ok ?_,a);rw[a];show _<=20+24*(r.picks++[_]).length;simp;lia
end
end DD
namespace L2
open PySem PySem.Spec PyProof.Rows Builtin Builtin.Str
section
variable {X:Cx}
theorem zF{i j l:Nat}{x y z:Str}{c d e pos:Pos}{k:Nat}(f:X.calm=true)(a:X.N.Nodup)(g:X.N[i]?=some x)(h:X.N[j]?=some y)(m:X.N[l]?=some z)(n:Loc X.env.scope x)(o:Loc X.env.scope y)(hz:Loc X.env.scope z)
  (p:X.fn x=true\/X.env.scope.names.lookup x=some .local:=by grind) (q:X.fn y=true\/X.env.scope.names.lookup y=some .local:=by grind) (b:X.fn z=true\/X.env.scope.names.lookup z=some .local:=by grind):
  PG X (.Tuple [.Name x c,.Name y d,.Name z e] k pos) (Hu X.K 3 (mT (gj i) (mT (gj j) (mT (gj l) Ht)))):=Ba f (ir (bg a g n p) (ir (bg a h o q) (ir (bg a m hz b) xA)))
end
end L2
namespace L2
open PySem PyProof.Rows
theorem PV{a b:Nat}(h:a+64<b):a+1<b:=by lia
section
variable {X:Cx}
noncomputable def BV(z:Int):Value->Bool
 | .int i _=>i==z
 |_=>false
theorem ud:∀{c:List Int}{us:List Value},Vals (c.map V.int) us->us.length=c.length/\∀(i:Nat) u z,us[i]?=some u->c[i]?=some z->∃t,u=.int z t
 | [],_,.nil=>(rfl,λi u z h=>by simp at h)
 |n::c,_,.cons r t=>by
  let(l,h):=ud t;refine(by simp[l],λi u z a b=>?_)
  cases i with
  |zero=>simp at a b;subst a b;calc r
  |succ i=>calc h i u z (by simpa using a) (by simpa using b)
def NO:V->List V->Hp->VK->Prop:=λx vs H Q=>∃(a:Addr) (b:List Int) (j:Nat) (z:Int),x=.ref a/\vs=[.int z]/\H a=some (.lst (b.map V.int))/\b[j]?=some z/\(∀i y,i<j->b[i]?=some y->y≠z)/\Q (.int j) H
theorem wC:RW X "list.index" NO:=by
 intro k s σ H x O v P Q I r D h;let(a,d,j,z,rfl,rfl,E,l,G,q):=h
 cases r;let(u,rfl,o,rfl):=D.one;let(b,r,J,k):=I.list (aV.of E);let(h,K):=ud r;have h:j<d.length:=(List.getElem?_eq_some_iff.mp l).1;have p:(d.map V.int).length<=sizeLine:=k;rw[aau]at p;let((r,s,h,L),n,w,A,B,e):=id J;simp only at A B e;subst A B e;have h:j<b.length:=by lia
 have c:∀m (f:m<b.length),∃y t,d[m]?=some y/\b[m]=.int y t:=λm f=>by
  have C:m<d.length:=by lia
  let(t,e):=K m b[m] d[m] nofun nofun;exact(d[m],t,nofun,e)
 refine call_meets PySem.F.slot_list_index (_,w,rfl) PySem.F.entry_list_index (PySem.F.args_list_index_2 _ _) (SeqAt.list_indexAt a b.toArray n none L (.int z o) (BV z) j (by simpa using h) (by rw[abe]at p;lia) ?_ ?_) (w,λy M=>?_,?_)
 ·let(y,t,g,i):=c j h;rw[l] at g
  cases g;simp[i,BV]
 ·intro m f a;have C:m < b.length:=by simpa using f
  let(y,t,g,i):=c m C;have:=G m y a g;simp[i,BV,this]
 ·have N:y ∈ b:=by simpa using M
  let(m,f,rfl):=List.getElem_of_mem N;let(y,t,g,i):=c m f;rw[i];exact SeqAt.EqAt.int_int y t z o
 ·calc(.int _,H,I.tok _,(_,rfl),q)
end
end L2
namespace L2
open PySem PySem.Spec PyProof.Rows
section
def XS(K:W.Frag):V->Option Int->Option Int->Hp->VK->Prop:=λx b c H Q=>match x with
 | .ref a=>∃xs,aV K H a xs/\∀p,H p=none->Q (.ref p) (upd H p (.lst (dD xs b c)))
 |_=>False
theorem adf{X:Cx}:WV X (XS X.K):=by
 intro a s σ H x v b c d e f Q I g i j k h
 cases x<;>first
  |calc(show False from h).elim
  |skip
 let(l,m,q):=h;calc CW a s σ H _ v b c d e f Q I g i j k (_,l,rfl,m,q)
theorem Jv{X:Cx}{e:Expr}{a:TE}{b c:Option Expr}{d f:TO}{pos g:Pos}(h:PE X e a)(i:PO X b d)(j:PO X c f):PE X (.Subscript e (.Slice b c none g) pos) (WW (XS X.K) a d f):=yS adf h i j
theorem Dw{xs:List V}{i j:Nat}:(dD xs (some (i:Int)) (some (j:Int))).length<=j-i:=by
 unfold dD;rw[show HT.eX xs.length 0 (some (i:Int))=min i xs.length from HT.CQ _ _ i,show HT.eX xs.length xs.length (some (j:Int))=min j xs.length from HT.CQ _ _ j,abg];calc aaS (Nat.min_le_left _ _) ?_;rcases Nat.le_total xs.length i with h|h
 ·rw[Nat.min_eq_right h,Nat.sub_eq_zero_of_le (Nat.min_le_right _ _)];exact aaO _
 ·rw[Nat.min_eq_left h];calc Nat.sub_le_sub_right (Nat.min_le_left _ _) _
theorem Dx{xs:List V}{a b:Option Int}{v:V}(h:v∈dD xs a b):v∈xs:=List.mem_of_mem_drop (List.mem_of_mem_take h)
end
section
variable {a dx:Addr}{Q:Bool->Hp->Prop}{X:Cx}{H:Hp}{f:Str}{v:V}{K:W.Frag}
theorem fld{C:Addr}{b:List (Str×V)}{Q:V->Prop}(h:H a=some (.ins C dx b))(c:va K C)(n:bS K C f)(l:b.lookup f=some v)(q:Q v):∃e d j g i,V.ref a=.ref e/\H e=some (.ins d j g)/\va K d/\bS K d f/\g.lookup f=some i/\Q i:=(a,C,dx,b,v,rfl,h,c,n,l,q)
theorem mth{C:Addr}{b:List (Str×V)}{Q:Addr->Prop}(h:H a=some (.ins C dx b))(l:b.lookup f=none)(q:Q a):∃c e d,V.ref a=.ref c/\H c=some (.ins C e d)/\d.lookup f=none/\Q c:=(a,dx,b,rfl,h,l,q)
theorem fR{C:Addr}{b:List (Str×V)}{Q:V->Prop}(h:H a=some (.ins C dx b))(c:va K C)(n:bS K C f)(l:b.lookup f=some v)(q:Q v):∃e d j g i,a=e/\H e=some (.ins d j g)/\va K d/\bS K d f/\g.lookup f=some i/\Q i:=(a,C,dx,b,v,rfl,h,c,n,l,q)
theorem gN{C:Addr}{b:List (Str×V)}{Q:Addr->Prop}(h:H a=some (.ins C dx b))(l:b.lookup f=none)(q:Q a):∃c e d,a=c/\H c=some (.ins C e d)/\d.lookup f=none/\Q c:=(a,dx,b,rfl,h,l,q)
theorem wD{x y:V}{P:V->V->Prop}(h:bI K H a [x,y])(q:P x y):∃b xs,V.ref a=.ref b/\bI K H b xs/\xs.length=2/\∃v r,xs=v::r/\∃c d,r=c::d/\d=[]/\P v c:=(a,_,rfl,h,rfl,_,_,rfl,_,_,rfl,rfl,q)
theorem un3{x y z:V}{P:V->V->V->Prop}(h:bI K H a [x,y,z])(q:P x y z):∃d xs,V.ref a=.ref d/\bI K H d xs/\xs.length=3/\∃v r,xs=v::r/\∃e f,r=e::f/\∃b c,f=b::c/\c=[]/\P v e b:=(a,_,rfl,h,rfl,_,_,rfl,_,_,rfl,_,_,rfl,rfl,q)
theorem gO{A B R:Prop}(a:A)(b:B)(r:R):A/\B/\R:=(a,b,r)
theorem adg{A B C R:Prop}(a:A)(b:B)(ch:C)(r:R):A/\B/\C/\R:=(a,b,ch,r)
theorem bQ{α:Type}{A R:α->Prop}(x:α)(a:A x)(r:R x):∃x,A x/\R x:=(x,a,r)
theorem gU{α:Type}{A B R:α->Prop}(x:α)(a:A x)(b:B x)(r:R x):∃x,A x/\B x/\R x:=(x,a,b,r)
theorem Tb{α:Type}{A B C R:α->Prop}(x:α)(a:A x)(b:B x)(ch:C x)(r:R x):∃x,A x/\B x/\C x/\R x:=(x,a,b,ch,r)
theorem Jw{α β:Type}{A R:α->β->Prop}(x:α)(y:β)(a:A x y)(r:R x y):∃x y,A x y/\R x y:=(x,y,a,r)
theorem dC{α β:Type}{A B R:α->β->Prop}(x:α)(y:β)(a:A x y)(b:B x y)(r:R x y):∃x y,A x y/\B x y/\R x y:=(x,y,a,b,r)
theorem vm{α β:Type}{A B C R:α->β->Prop}(x:α)(y:β)(a:A x y)(b:B x y)(ch:C x y)(r:R x y):∃x y,A x y/\B x y/\C x y/\R x y:=(x,y,a,b,ch,r)
theorem nj{α β:Type}{A B C D R:α->β->Prop}(x:α)(y:β)(a:A x y)(b:B x y)(ch:C x y)(c:D x y)(r:R x y):∃x y,A x y/\B x y/\C x y/\D x y/\R x y:=(x,y,a,b,ch,c,r)
theorem adh{α β γ:Type}{A B R:α->β->γ->Prop}(x:α)(y:β)(z:γ)(a:A x y z)(b:B x y z)(r:R x y z):∃x y z,A x y z/\B x y z/\R x y z:=(x,y,z,a,b,r)
theorem Tc{α β γ:Type}{A B C R:α->β->γ->Prop}(x:α)(y:β)(z:γ)(a:A x y z)(b:B x y z)(ch:C x y z)(r:R x y z):∃x y z,A x y z/\B x y z/\C x y z/\R x y z:=(x,y,z,a,b,ch,r)
theorem fH{α β γ δ:Type}{A B R:α->β->γ->δ->Prop}(x:α)(y:β)(z:γ)(u:δ)(a:A x y z u)(b:B x y z u)(r:R x y z u):∃x y z u,A x y z u/\B x y z u/\R x y z u:=(x,y,z,u,a,b,r)
theorem Td{α β γ δ:Type}{A B C R:α->β->γ->δ->Prop}(x:α)(y:β)(z:γ)(u:δ)(a:A x y z u)(b:B x y z u)(ch:C x y z u)(r:R x y z u):∃x y z u,A x y z u/\B x y z u/\C x y z u/\R x y z u:=(x,y,z,u,a,b,ch,r)
theorem XT{α β γ δ:Type}{A B C D R:α->β->γ->δ->Prop}(x:α)(y:β)(z:γ)(u:δ)(a:A x y z u)(b:B x y z u)(ch:C x y z u)(c:D x y z u)(r:R x y z u):∃x y z u,A x y z u/\B x y z u/\C x y z u/\D x y z u/\R x y z u:=(x,y,z,u,a,b,ch,c,r)
theorem Fz{α β γ δ:Type}{A B C D E R:α->β->γ->δ->Prop}(x:α)(y:β)(z:γ)(u:δ)(a:A x y z u)(b:B x y z u)(ch:C x y z u)(c:D x y z u)(d:E x y z u)(r:R x y z u):∃x y z u,A x y z u/\B x y z u/\C x y z u/\D x y z u/\E x y z u/\R x y z u:=(x,y,z,u,a,b,ch,c,d,r)
theorem adi{α β γ δ:Type}{A B C D E F R:α->β->γ->δ->Prop}(x:α)(y:β)(z:γ)(u:δ)(a:A x y z u)(b:B x y z u)(ch:C x y z u)(c:D x y z u)(d:E x y z u)(e:F x y z u)(r:R x y z u):∃x y z u,A x y z u/\B x y z u/\C x y z u/\D x y z u/\E x y z u/\F x y z u/\R x y z u:=(x,y,z,u,a,b,ch,c,d,e,r)
theorem adj{α β γ δ ε:Type}{A B C D R:α->β->γ->δ->ε->Prop}(x:α)(y:β)(z:γ)(u:δ)(v:ε)(a:A x y z u v)(b:B x y z u v)(ch:C x y z u v)(c:D x y z u v)(r:R x y z u v):∃x y z u v,A x y z u v/\B x y z u v/\C x y z u v/\D x y z u v/\R x y z u v:=(x,y,z,u,v,a,b,ch,c,r)
theorem adk{α β γ δ ε:Type}{A B C D E R:α->β->γ->δ->ε->Prop}(x:α)(y:β)(z:γ)(u:δ)(v:ε)(a:A x y z u v)(b:B x y z u v)(ch:C x y z u v)(c:D x y z u v)(d:E x y z u v)(r:R x y z u v):∃x y z u v,A x y z u v/\B x y z u v/\C x y z u v/\D x y z u v/\E x y z u v/\R x y z u v:=(x,y,z,u,v,a,b,ch,c,d,r)
theorem XU{α β γ δ ε:Type}{A B C D E F R:α->β->γ->δ->ε->Prop}(x:α)(y:β)(z:γ)(u:δ)(v:ε)(a:A x y z u v)(b:B x y z u v)(ch:C x y z u v)(c:D x y z u v)(d:E x y z u v)(e:F x y z u v)(r:R x y z u v):∃x y z u v,A x y z u v/\B x y z u v/\C x y z u v/\D x y z u v/\E x y z u v/\F x y z u v/\R x y z u v:=(x,y,z,u,v,a,b,ch,c,d,e,r)
theorem PE.imp{e:Expr}{t u:TE}(h:PE X e t)(i:∀σ H Q,u σ H Q->t σ H Q):PE X e u:=⟨λp s σ H Q I q=>h.out p s σ H Q I (i σ H Q q)⟩
def tV(i:Nat):TE:=λσ H Q=>match σ[i]? with
 |some (some v)=>Q v H
 |_=>False
theorem Te{i:Nat}(σ:St)(H:Hp)(Q:VK)(h:tV i σ H Q):Hh i σ H Q:=by
 unfold tV at h;split at h
 ·exact(_,by assumption,h)
 ·calc h.elim
def bB(Q:Bool->Hp->Prop):V->Hp->Prop
 | .bl k,H=>Q k H
 |_,_=>False
theorem Tf{Q:Bool->Hp->Prop}{x:V}{H:Hp}(h:bB Q x H):∃k,x=.bl k/\Q k H:=by
 cases x with
 |bl k=>calc(k,rfl,h)
 |_=>calc h.elim
theorem XW{k:Bool}:bB Q (.bl k) H=Q k H:=rfl
theorem vn{k:Bool}(h:Q k H):bB Q (.bl k) H:=h
def tT(t:TE):TT:=λσ H Q=>t σ H (bB Q)
theorem XX:bB Q=λx H=>∃k,x=.bl k/\Q k H:=by
 funext x H;calc propext (Tf,?_);rintro⟨k,rfl,h⟩;calc h
theorem PY:tT=CJ:=by
 funext t σ H Q;show t σ H (bB Q)=_;rw[XX];rfl
theorem Tg:tT=tB:=PY
section
variable {X:Cx}{a b:Expr}{ta tb:TE}{pos:Pos}
theorem aC{c:CmpOp}{r:R2}(d:gP X (compareOp c) r)(e:PE X a ta)(f:PE X b tb)(g:behindInMarks c b=false):PT X (.Compare a [c] [b] pos) (tT (HC r ta tb)):=by
 rw[PY];calc CK d e f g
theorem bN{e:Expr}{t:TE}(h:PE X e t)(b:∀a,PySem.isTrue e X.env a=(do let v <-a;standAt e.pos;holding [v] (truthy v)):=by intro _;rfl):PT X e (tT t):=by
 rw[Tg];calc Rq h b
theorem aq(i:Nat){x:Str}{pos:Pos}(a:X.N[i]?=some x:=by rfl)(b:Wy X.env.scope x:=by first|calc Or.inl rfl|calc Or.inr (Or.inl rfl)|calc Or.inr (Or.inr rfl))(c:(x==("__debug__":Str))=false:=by decide)
  (d:(x==("__classdict__":Str))=false:=by decide):PE X (.Name x pos) (tV i):=(Hi a b c d).imp Te
end
section
variable {K:W.Frag}{H:Hp}{Q:VK}{i j:Int}{s t:Str}{a b:Addr}
def Th(K:W.Frag):R2:=λx y H Q=>match x,y with
 | .int i,.int j=>Q (.bl (decide (i=j))) H
 | .str s,.str t=>Q (.bl (decide (s=t))) H
 |x,y=>Sl K x y H Q
def XY(K:W.Frag):R2:=λx y H Q=>match x,y with
 | .int i,.int j=>Q (.bl (!decide (i=j))) H
 | .str s,.str t=>Q (.bl (!decide (s=t))) H
 |x,y=>Vv K x y H Q
theorem Jx:Th K (.int i) (.int j) H Q=Q (.bl (decide (i=j))) H:=rfl
theorem Jy:Th K (.str s) (.str t) H Q=Q (.bl (decide (s=t))) H:=rfl
theorem Jz:Th K (.ref a) (.ref b) H Q=((oP K H 20 (.ref a) (.ref b)/\Q (.bl true) H)\/(tE K H a b/\Q (.bl false) H)):=rfl
theorem JA:XY K (.int i) (.int j) H Q=Q (.bl (!decide (i=j))) H:=rfl
theorem JB:XY K (.str s) (.str t) H Q=Q (.bl (!decide (s=t))) H:=rfl
theorem JC:XY K (.ref a) (.ref b) H Q=((oP K H 20 (.ref a) (.ref b)/\Q (.bl false) H)\/(tE K H a b/\Q (.bl true) H)):=rfl
theorem JD:Th K=Sl K:=by
 funext x y H Q
 cases x<;>cases y<;>first|rfl|calc xM.symm|calc xN.symm
theorem Ti:XY K=Vv K:=by
 funext x y H Q
 cases x<;>cases y<;>first|rfl|calc xO.symm|calc xP.symm
theorem aZ(a:X.A.units+64<cLine):gP X (compareOp .Eq) (Th X.K):=JD▸Iu a
theorem ig(a:X.A.units+64<cLine):gP X (compareOp .NotEq) (XY X.K):=Ti▸Sm a
theorem pk(a:X.K=K)(b:X.A.units+64<cLine):gP X (compareOp .Eq) (Th K):=JD▸Ny a b
end
theorem HT.cN{n:Nat}{i:Int}(h:HT H n v (.int i)):v=.int i:=by
 cases h;rfl
theorem HT.cW{n:Nat}{s:Str}(h:HT H n v (.str s)):v=.str s:=by
 cases h;rfl
theorem HD.cN{n:Nat}{i:Int}(h:HD H n v (.int i)):v=.int i:=by
 cases h;rfl
theorem HD.cW{n:Nat}{s:Str}(h:HD H n v (.str s)):v=.str s:=by
 cases h;rfl
end
end L2
namespace DD
open PySem L2
variable {e:Int×Int}{u:Nat}{s:Option (Int×Int)}
theorem wF{l:List (Option (Int×Int))}{k:Nat}:(l++[none])[k]?=some (some e)↔l[k]?=some (some e):=by
 by_cases h:k<l.length
 ·rw[aaf h]
 ·rw[Y' (),List.getElem?_eq_none (l:=l) ()];constructor
  ·intro z
   cases a:k-l.length with
   |zero=>rw[a]at z;simp at z
   |succ j=>rw[a]at z;simp at z
  ·intro z;cases z
section
variable {n:NT}{r:RS}
theorem Tj{w:Nat}{x:Int}:((r.put w x s).ww u).fb=if u=w then(r.ww w).fb++[none] else(r.ww u).fb:=by
 show(if u=w then _ else _:WY).fb=_;split<;>rfl
theorem NP{w:Nat}{x:Int}{k:Nat}:((r.put w x s).ww u).fb[k]?=some (some e)↔(r.ww u).fb[k]?=some (some e):=by
 rw[Tj];split
 ·next z=>subst z;exact wF
 ·calc Iff.rfl
theorem NQ{w k:Nat}:((r.step n w k).ww u).fb=if u=w then(r.ww w).fb.set k (some (n.ev r w)) else(r.ww u).fb:=by
 show(if u=w then _ else _:WY).fb=_;split<;>rfl
theorem zG{w k j:Nat}(b:(r.ww w).fb[k]?=some none):((r.step n w k).ww u).fb[j]?=some (some e)↔(u=w/\j=k/\e=n.ev r w)\/(r.ww u).fb[j]?=some (some e):=by
 have c:k<(r.ww w).fb.length:=(List.getElem?_eq_some_iff.mp b).1;rw[NQ];split
 ·next z=>
  subst z;by_cases a:j=k
  ·subst a;rw[List.getElem?_set_self c,b];constructor
   ·intro z;cases z;exact .inl (rfl,rfl,rfl)
   ·rintro(⟨_,_,rfl⟩ | z)
    ·rfl
    ·cases z
  ·rw[abA (λz=>a z.symm)];exact(.inr,λz=>z.elim (λq=>absurd q.2.1 a) id)
 ·next z=>calc(.inr,λq=>q.elim (λq=>absurd q.1 z) id)
variable {H H':Hp}{aL:List (List Key×V)}{w k:Nat}
end
end DD
namespace DD
open PySem L2
end DD
set_option maxHeartbeats 400000
namespace L2
open PySem PySem.Spec PyProof.Rows
section
section
variable {X:Cx}{o e:Expr}{es:List Expr}{to:TE}{t:TA}{apos p pos:Pos}{C:Addr}{m x:Str}{k j:Nat}{ps:List Str}{sp:Sp}{E:XK}
end
def XZ(K:W.Frag)(B:Addr)(PC:Addr->Prop):Prop:=∀{M:Model} {A:Around} {E:Value->Shared->Prop} {s:Shared} {e C:Addr} {d:Option Addr} {vs:Array Value} {a:Array (Option Value)} {Q:Bool->Shared->Prop},K.In s.heap->PC C->
 s.heap.get? e=some ((.ref C,d,.fields vs,a):Obj)->Q true s->wpAny M A (excMatches (.ref e) (.ref B)) Q E s
theorem FA{K:W.Frag}{B:Addr}(a:XBase K B):XZ K B (λC=>j9 K C B):=λb c d e=>ac5 b c a d e
def PZ (PC:Addr->Prop)(i:Nat)(a:XK->TS)(b:TS):TS:=λD σ H=>a (λe _ f=>∃a C d,e=.ref a/\f a=some (XO a C d false)/\PC C/\
 b {nx:=λb c=>D.nx (b.set i none) c,rt:=D.rt,bk:=λb c=>D.bk (b.set i none) c,ct:=λb c=>D.ct (b.set i none) c} (σ.set i (some (.ref a))) f) D σ H
section
variable {X:Cx}{i:Nat}{B:Addr}{PC:Addr->Prop}{tb:XK->TS}{th:TS}{n x:Str}{st b₀:Stmt}{P0:List Stmt}{np X0 pos:Pos}
theorem NR(y:X.stack=X.env::X.outer)(E:X.env.frame=some X.env.locals)(j:X.N.Nodup)(k:X.N[i]?=some n)(g:X.env.scope.names.lookup n=some .local)(F:Gl X x)(G:X.mg x=some (.ref B))(J:XZ X.K B PC)
  (d:PSX X st tb) (L:∀a,u9 (X.qd a) (b₀::P0) th) (M:(x==("__debug__":Str))=false:=by decide):
  PS X (.Try [st] [.ExceptHandler (some (.Name x np)) (some n) (b₀::P0) X0] [] [] pos) (PZ PC i tb th):=by
 walk_at "xd";refine wpAny_Try_except ?_;refine wpAny_execs_cons (cU (d.out pins s σ H D _ _ (λZ C x r O P=>?_) I h) λf C q=>?_)
 ·let(a,C0,d0,Q,t,rfl,w,Z,R,o,a',C,d,S,c,U,q):=O.thrown P
  cases S;have l:=w.ok;calc zj (T:=some t) y E w c R (λd z=>by cases z;calc o) λw y t d e _=>?_;rw[Jh c]at t e;calc tP (s:={r with heap:=w}) t d e λW b p=>?_;let(d,o,Y):=IK b c;calc wpAny_handleBy_cons (codeAny_handlers_test (j5 (X:=X.qd a) (b.qd a) F G (J (b.qd a).il U Y ?_) M)) (by intro z;cases z);calc codeAny_handlers_suite_as (tP (X:=X.qd a) (s:={r with heap:=W}) (b.qd a) p e λd c _=>?_);calc jS (X:=X.qd a) c j k (.inl g) (v:=.ref a) (u:=.ref a) rfl (λb c=>?_) (.inr g);calc aa2 ((L a) pins b _ Q _ c q) (λf d m=>?_) λ_ _ z=>aa3 z;show wpAny _ X.A (do bindName X.env n .none;unbindBehindTheSuite X.env n X0) _ _ d
  cases f with
  |next=>
   let(a,b,c,d):=m;calc su (c.xX l) j k g λo e=>(_,b,e,d)
  |brk=>
   let(a,b,c,d):=m;calc su (c.xX l) j k g λo e=>(_,b,e,d)
  |cont=>
   let(a,b,c,d):=m;calc su (c.xX l) j k g λo e=>(_,b,e,d)
  |ret u=>
   let(v,a,b,c,p,d):=m;exact su (c.xX l) j k g λo e=>(v,_,b,e,p,d)
 ·cases f with
  |next=>calc wpAny_execs_nil (wpAny_execs_nil q)
  |ret v=>calc q
  |brk=>calc q
  |cont=>calc q
end
theorem NS {PC:Addr->Prop}{i:Nat}{e:XK->TS}{g:TS}{D:Ends}{σ:St}{H:Hp}(h:∀j:XK,(∀a C d f,f a=some (XO a C d false)->PC C->
  g {nx:=λb c=>D.nx (b.set i none) c,rt:=D.rt,bk:=λb c=>D.bk (b.set i none) c,ct:=λb c=>D.ct (b.set i none) c} (σ.set i (some (.ref a))) f->j (.ref a) none f)->e j D σ H):PZ PC i e g D σ H:=
 h _ λa C d f e b q=>(a,C,d,rfl,e,b,q)
end
section
structure Tn(X:Cx)(fm:List Stmt)(t:XK->TS):Prop where
 out:∀(pins:List (Addr×Obj)) (s:Shared) (σ:St) (H:Hp) (D:Ends) (E:XK) (xe:Value->Shared->Prop),(∀H1 s1 x s',Inv X pins σ H1 s1->yE X.prog X.w X.stack H1 s1 E x s'->xe x s')->Inv X pins σ H s->t E D σ H->
  wpAny (model X.prog X.w) X.A (execs fm X.env) (SP X pins D) xe s
section
variable {X:Cx}{st:Stmt}{t:XK->TS}{pos:Pos}
theorem pq(h:PSX X st t):Tn X [st] t:=by
 calc⟨λa s σ H D E b c I q=>?_⟩;refine wpAny_execs_cons (cU (h.out a s σ H D E b c I q) λf d q=>?_)
 cases f with
 |next=>calc wpAny_execs_nil q
 |ret v=>calc q
 |brk=>calc q
 |cont=>calc q
theorem JE{c:Expr}{a b:List Stmt}{f:TT}{g h:XK->TS}(o:PT X.GI c f)(p:Tn X a g)(q:Tn X b h):PSX X (.If c a b pos) (λE=>yO f (g E) (h E)):=by
 calc⟨λe s σ H D E i j I h=>?_⟩;calc wpAny_If (aa2 (o.out e s σ H _ (I.rH _) h) (λd k a=>?_) λ_ _ z=>aa3 z);let(l,m,n):=a
 cases d with
 |true=>calc p.out e k σ l D E i j m.iq n
 |false=>calc q.out e k σ l D E i j m.iq n
end
end
section
end
end L2
namespace L2
open PySem PySem.Spec PyProof.Rows
end L2
namespace L2
open PySem PySem.Spec PyProof.Rows
section
variable {Q:Option Value->Shared->Prop}
def qg(h:Heap)(d:Addr)(es:Array DictEntry)(ep:Nat):Prop:=∃o,h.get? d=some o/\o.ExactDict/\o.data=.dict es ep
theorem qg.type{s:Shared}{d:Addr}{es:Array DictEntry}{ep:Nat}(x:qg s.heap d es ep):s.TypeIs (.ref d) "dict":=let ⟨o,h,c,_⟩:=x;(o,h,c.1)
theorem qg.at{h h':Heap}{d:Addr}{es:Array DictEntry}{ep:Nat}(x:qg h d es ep)(e:∀o,h.get? d=some o->h'.get? d=some o):qg h' d es ep:=let ⟨o,a,b⟩:=x;(o,e _ a,b)
section
variable {prog:Program}{w:World}{A:Around}{E:Value->Shared->Prop}{s:Shared}{d it:Addr}{es:Array DictEntry}{i ep:Nat}
theorem JF{Q:Value->Shared->Prop}(e:(d==sysModules)=false)(x:qg s.heap d es ep)
  (f:Q (.ref s.heap.objs.size) {s with heap:=s.heap.push {cls:=.type "dict_keyiterator",data:=.fields #[.ref d,.int 0 0,.int es.size 0,.int ep 0]}}):wpAny (model prog w) A (pyIter (.ref d)) Q E s:=by
 have a:=x.type;let(o,b,_,c):=x;calc wpAny_pyIter_slot a F.slot_dict_iter (abn F.slot_dict_iter a F.entry_dict_iter ?_ (F.args_dict_iter_1 _));unfold Builtin.«dict.__iter__»;calc j' ?_;unfold Builtin.Dict.dictSlotNone;calc j' (wpAny_notOrdered_dict a ?_);show wpAny _ _ (pure (Value.ref d)) _ _ s;calc K' ?_;show wpAny _ _ (Builtin.Dict.showsAll d >>= _) _ _ s;unfold Builtin.Dict.showsAll;rw[if_neg (by rw[e];calc T')];calc j' (K' (j' (abh b c (j' (wpAny_dictEpoch b c ?_)))));calc j' (aba (K' (_,rfl,"dict_keyiterator",_,(_,aas _ rfl,rfl),F.slot_dict_keyiterator_next.lookup,?_)));simpa[rawInt] using f
theorem JG(a:s.heap.IsKeyIter it d i es.size ep)(x:qg s.heap d es ep)(g:i<es.size)
  (h:∀h',h'.IsKeyIter it d (i+1) es.size ep->Heap.SameBut it s.heap h'->Q (some es[i].key) {s with heap:=h'}):wpAny (model prog w) A (pyNext (.ref it)) Q E s:=by
 let(o,c,j,b):=id a;let(k,e,_,f):=x;unfold pyNext;refine j' (wpAny_attempt (abb (name:=Str.ofString "__next__") a.typeIs F.slot_dict_keyiterator_next
  (abn F.slot_dict_keyiterator_next a.typeIs F.entry_dict_keyiterator_next ?_ (F.args_dict_keyiterator_next_1 _))))
 refine j' (K' (j' (j' ?_)))
 first|calc j' (abB a.typeIs (K' ?_))|refine j' (wpAny_typeNameOf_keyiter a.typeIs (K' ?_))
 calc j' (wpAny_fieldsOf c b ?_);have k:Builtin.Dict_items.ownsTuple "dict_keyiterator"=false:=by decide
 simp only[k,Bool.false_eq_true,if_false];show wpAny _ _ (if (Value.ref d==Value.none)=true then _ else _) _ _ s;rw[if_neg (show ¬((Value.ref d==Value.none)=true) from T')];calc j' (K' (j' (abh e f ?_)));rw[if_neg nofun];calc j' (K' (j' (wpAny_dictEpoch e f ?_)));rw[if_neg nofun];calc K' ?_;simp only[show ¬((i:Int)<0) from by lia,if_false,Int.toNat_natCast,Array.getElem?_eq_getElem g];refine j' ?_
 first|calc j' (abB a.typeIs (K' ?_))|refine j' (wpAny_typeNameOf_keyiter a.typeIs (K' ?_))
 calc j' (wpAny_isOneOf_keyiter a.typeIs ?_);show wpAny _ _ (setField (.ref it) 1 (rawInt ((i:Int)+1)) >>= _) _ _ s;calc j' (wpAny_setField c b nofun ?_);have e:(s.heap.update it (Obj.mapFields (·.setIfInBounds 1 (rawInt ((i:Int)+1))))).IsKeyIter it d (i+1) es.size ep:=
  (_,aa5 _ c (Obj.isFreed_of_fields (abp b _)),(Obj.cls_mapFields ..).trans j,by rw[abp b];simp[rawInt])
 calc j' (aa8 (j' (wpAny_isOneOf_keyiter (s:={s with heap:=s.heap.update it (Obj.mapFields (·.setIfInBounds 1 (rawInt ((i:Int)+1))))}) e.typeIs ?_)));show wpAny _ _ (pure es[i].key) _ _ _;calc K' (K' (_,rfl,K' (h _ e (Heap.SameBut.update ..))))
theorem NV(j:A.handled=none)(c:s.heap.IsKeyIter it d i es.size ep)(x:qg s.heap d es ep)(k:es.size<=i)
  (l:∀h',Heap.ExtBut it s.heap h'->Q none {s with heap:=h'}):wpAny (model prog w) A (pyNext (.ref it)) Q E s:=by
 let(o,e,g,f):=id c;let(n,g,_,h):=x;unfold pyNext;refine j' (wpAny_attempt (abb (name:=Str.ofString "__next__") c.typeIs F.slot_dict_keyiterator_next
  (abn F.slot_dict_keyiterator_next c.typeIs F.entry_dict_keyiterator_next ?_ (F.args_dict_keyiterator_next_1 _))))
 refine j' (K' (j' (j' ?_)))
 first|calc j' (abB c.typeIs (K' ?_))|refine j' (wpAny_typeNameOf_keyiter c.typeIs (K' ?_))
 calc j' (wpAny_fieldsOf e f ?_);have n:Builtin.Dict_items.ownsTuple "dict_keyiterator"=false:=by decide
 simp only[n,Bool.false_eq_true,if_false];show wpAny _ _ (if (Value.ref d==Value.none)=true then _ else _) _ _ s;rw[if_neg (show ¬((Value.ref d==Value.none)=true) from T')];calc j' (K' (j' (abh g h ?_)));rw[if_neg nofun];calc j' (K' (j' (wpAny_dictEpoch g h ?_)));rw[if_neg nofun];calc K' ?_;simp only[show ¬((i:Int)<0) from by lia,if_false,Int.toNat_natCast,Array.getElem?_eq_none k];refine j' ?_
 first|calc j' (abB c.typeIs (K' ?_))|refine j' (wpAny_typeNameOf_keyiter c.typeIs (K' ?_))
 show wpAny _ _ (setField (.ref it) 0 .none >>= _) _ _ s;refine j' (wpAny_setField e f nofun ?_);show wpAny _ _ (newExc (.type "StopIteration") [] >>= _) _ _ _;refine j' ?_;simp only[newExc,newTuple];refine j' (aba ?_ (by size_fits));refine j' (m:=firstArgMember _ _) (wpAny_of_eq (a:=Value.none) (by first|rfl|(simp only[firstArgMember];rfl)) ?_);refine aba ?_ (by size_fits);simp only[raiseNew];refine j' (wpAny_handled ?_);rw[show A.in1.handled=none from j];refine j' (K' (wpAny_throw ?_));refine j' (wpAny_isInstance (T:="StopIteration") (b:=true) (_,aas _ rfl,rfl) isSubtype_stop ?_);exact K' (l _ (((Heap.SameBut.update ..).extBut.push _).push _))
theorem FC(l:A.handled=none)(I d:Addr)(m:d≠I)(es:Array DictEntry)(ep:Nat):
  Walks prog w A I [I,d] [I] es.size (λi v=>∃e,es[i]?=some e/\v=e.key) (λi h=>h.IsKeyIter I d i es.size ep/\qg h d es ep) where
 sub:=λb c=>by simp at c;simp[c]
 frame:=λ_ _ _ a f=>(a.1.at λo e=>f I nofun o e,a.2.at λo e=>f d nofun o e)
 item:=λi s Q E j a f=>JG a.1 a.2 j λg n k=>
  f _ g s.toks (_,Array.getElem?_eq_getElem j,rfl) (n,a.2.at λo e=>(k.2 d m).trans e) λb o c e=>k.extBut b o (λh=>c (by simp[h])) e
 done:=λs Q E a f=>NV l a.1 a.2 (S' _) λg j=>f g s.toks λb o c e=>j b o (λh=>c (by simp[h])) e
 self:=λ_ _ _ _ a f=>wpAny_pyIter_keyiter a.1 f
theorem NW(c:(d==sysModules)=false):W.KdlSrc prog w "dict" d d es.size (λi v=>∃e,es[i]?=some e/\v=e.key) (λh=>qg h d es ep) where
 type:=λ_ a=>a.type
 there:=λ_ a=>let ⟨_,e,_⟩:=a;(V' e,V' e)
 keep:=λ_ _ a b=>a.at λo e=>b d (.inl rfl) o e
 notList:=by decide
 notTuple:=by decide
 hint:=λ_ _ _ _ a b=>W.kdl_hint_dict a.type b
 iter:=λ_ s f a=>(_,_,(λ_ _ b=>JF c a b),FC f _ d (let ⟨_,e,_⟩:=a;aaN (V' e)) es ep,((_,aas _ rfl,rfl,rfl),a.at λo e=>P' _ e))
end
section
variable {P:Program}{w:World}{H:Hp}{h:Heap}{a:Addr}{aL:List (List Key×V)}
theorem JI(c:cA P w H h a (.dT aL)):(a==sysModules)=false/\∃o es ep xs,h.get? a=some o/\o.ExactDict/\o.data=.dict es ep/\KT H aL xs/\es.toList=xs.map (entryOfKey (tupleKind (bM P w)))/\es.size=aL.length/\aL.length<=sizeLine:=by
 let(z,y,xs,r,o,es,ep,d,e,f,b,g):=c;calc(y,o,es,ep,xs,d,e,f,r,b,by rw[size_of_entries b,<-Paired.length r],z)
theorem Paired.get{α β:Type}{F:α->β->Prop}:∀{c:List α}{d:List β},Paired F c d->∀{i:Nat}{a:α},c[i]?=some a->∃b,d[i]?=some b/\F a b
 |_,_,.nil,i,a,e=>by simp at e
 |_,_,.cons r t,0,a,e=>by cases e;calc(_,rfl,r)
 |_,_,.cons r t,i+1,a,e=>Paired.get t (i:=i) e
theorem NX{xs:List (List Key×Addr×Value)}{es:Array DictEntry}(r:KT H aL xs)(a:es.toList=xs.map (entryOfKey (tupleKind (bM P w)))){i:Nat}{k:List Key}{x:V}(e:aL[i]?=some ((k),x)):
  ∃b y,es[i]?=some ((tupleKind (bM P w)).hash k,.ref b,y)/\H b=some (.tup (k.map kV))/\RelV x y:=by
 let(q,b,c,d,f):=Paired.get r e;calc(q.2.1,q.2.2,?_,d,f);rw[PySem.entry_at a i,b];show some (entryOfKey _ q)=_;rw[show entryOfKey (tupleKind (bM P w)) q=((tupleKind (bM P w)).hash q.1,.ref q.2.1,q.2.2) from rfl,<-c]
end
theorem Dz:∀(us:List Value),(∀i,i<us.length->∃b,us[i]?=some (Value.ref b))->∃bs:List V,Vals bs us/\∀(i:Nat) b,us[i]?=some (Value.ref b)->bs[i]?=some (.ref b)
 | [],_=>([],.nil,λi b e=>by simp at e)
 |u::us,h=>by
  let(b,e):=h 0 nofun;obtain rfl:u=.ref b:=by simpa using e
  let(bs,a,d):=Dz us λi f=>by simpa using h (i+1) (by simpa using f)
  refine(.ref b::bs,.cons rfl a,λi c e=>?_)
  cases i with
  |zero=>simp at e;simp[e]
  |succ i=>simpa using d i c (by simpa using e)
section
variable {P:Program}{w:World}{K:W.Frag}{tg:Expr}{X:Cx}{pins:List (Addr×Obj)}{σ:St}{H:Hp}{s:Shared}{a:Addr}{aL:List (List Key×V)}
def adl:List V->Hp->VK->Prop:=λvs H Q=>∃a aL,vs=[.ref a]/\Rd H a (.dT aL)/\∀p bs,H p=none->bs.length=aL.length->(∀(i:Nat) k x,aL[i]?=some ((k),x)->∃b,bs[i]?=some (.ref b)/\H b=some (.tup (k.map kV)))->Q (.ref p) (upd H p (.lst bs))
theorem wG(t:X.calm=true):eW X (.type "list") adl:=by
 intro pins s σ H v n Q I r h;let(a,aL,rfl,w,q):=h;let(u,rfl,y):=r.one
 cases y;let(r,o,h,n,v,u,z,A,B,C,j,K):=JI (CZ I.aW w);calc W.kdl_call (NW (es:=h) (ep:=n) r) (I.ok.hd t) (o,u,z,A) () λh D c E F G f=>?_;have d:∀(i:Nat) k x,aL[i]?=some ((k),x)->∃b,c[i]?=some (.ref b)/\H b=some (.tup (k.map kV)):=λi k x e=>by
  let(b,y,l,m,_):=NX B C e;have g:i<c.size:=by rw[f.1,j];exact(List.getElem?_eq_some_iff.mp e).1
  let(h,p,J):=f.2 i c[i] (Array.getElem?_eq_getElem g);rw[l]at p
  cases p;exact(b,by rw[Array.getElem?_eq_getElem g,J],m)
 have p:∀i,i<c.toList.length->∃b,c.toList[i]?=some (Value.ref b):=λi g=>by
  have h:i<aL.length:=by rw[<-j,<-f.1];simpa using g
  let(b,e,_):=d i _ _ (cT h);exact(b,by rw[Array.getElem?_toList];calc e)
 let(g,n,h):=Dz c.toList p;have r:g.length=aL.length:=by rw[n.length];simp[f.1,j]
 calc(.ref s.heap.objs.size,_,I.laid (a:=s.heap.objs.size) (o:=.lst g) (t':=D) F (S' _) ((),c.toList,E,n,by simpa using G),rfl,q _ g (I.aW.fresh (S' _)) r λi k x e=>?_);let(b,l,m):=d i k x e;calc(b,h i b (by rw[Array.getElem?_toList];calc l),m)
end
end
section
section
variable {prog:Program}{w:World}{A:Around}{E:Value->Shared->Prop}{s:Shared}{d:Addr}{es:Array DictEntry}{ep:Nat}
theorem get_none{Q:Option Value->Shared->Prop}(x:qg s.heap d es ep)(a:∀e∈es.toList,e.hash≠4238894112)(b:∀c,Q none {s with toks:=c}):wpAny (model prog w) A (dictGet d .none) Q E s:=by
 let(o,c,_,f):=x;unfold dictGet
 try with_reducible refine aa8 ?_
 calc j' ?_;show wpAny _ _ (pyHashByItsType .none) _ _ _;calc W.pyHash_slot (typeIs_none s) F.slot_NoneType_hash F.entry_NoneType_hash (F.args_NoneType_hash_1 _) rfl (.inl rfl) ?_;show wpAny _ _ (do ret (<-mkInt 4238894112)) _ _ s;calc j' (wpAny_mkInt (K' (_,_,rfl,?_)));rw[show reduceHash 4238894112=4238894112 by decide +kernel];calc j' ?_;unfold dictFind
 try with_reducible refine aa8 ?_
 calc j' (abh c f ?_);have g:placesWithHash es.size (λi=>es[i]?.map (·.hash)) 4238894112=[]:=by
  unfold placesWithHash;rw[List.filter_eq_nil_iff];intro i c e;dsimp only at e
  cases q:es[i]? with
  |none=>rw[q]at e;simp at e
  |some z=>
   rw[q]at e;exact a z (Array.mem_toList_iff.mpr (Array.mem_of_getElem? q)) (by simpa using e)
 dsimp only;rw[g];rw[if_pos (by rfl)];calc j' ?_;calc K' (K' (K' (b _)))
theorem ue(c:(d==sysModules)=false)(a:Value):
  MeetsIn prog w (Builtin.«dict.get» ([.ref d,.none,a],[])) (λA R s=>∃es ep,qg s.heap d es ep/\(∀e∈es.toList,e.hash≠4238894112)/\∀b,R (.ok (.ret a)) {s with toks:=b}):=
 .of_wp λA R s (es,ep,x,e,h)=>by
  show wpAny _ _ (dictGet d .none >>= _) _ _ s;calc j' (get_none x e λb=>?_);show wpAny _ _ (Builtin.Dict.missed d .none >>= _) _ _ _;calc j' (wpAny_missed_other c (K' (a,rfl,h _)))
end
section
variable {prog:Program}{w:World}{K:Type} [DecidableEq K]{knd:HeapKind prog w K}{A:Around}{E:Value->Shared->Prop}{s:Shared}
theorem uf{d a:Addr}{xs:List (K×Addr×Value)}{k:K}{v:Value}{Q:Unit->Shared->Prop}(p:knd.room A)(l:knd.is s.heap k a)(z:s.heap.DictOfH knd d xs)
  (r:∀h',h'.DictOfH knd d (storedH xs k a v)->Heap.SameBut d s.heap h'->Q ⟨⟩ {s with heap:=h'}) (hsz:xs.length<=sizeLine):
  wpAny (model prog w) A (dictSetHashed d (.ref a) (knd.hash k) v) Q E s:=by
 let(o,B,t,f,u,b,h,q,g):=z;unfold dictSetHashed
 try with_reducible refine aa8 ?_
 refine j' (wpAny_dictFind_heap p l f b h q g ?_ ?_)
 ·intro i;have j:k ∉ xs.map (·.1):=not_mem_keys_of_get i;refine j' (wpAny_rule (wpAny_updateDictKeys (hz:=by have e:=size_of_entries h;lia) f b (r _ (_,_,t + 1,aa5 _ f (Obj.isFreed_of_dict (Obj.data_mapDictKeys b _)),
   u.mapDictKeys _,Obj.data_mapDictKeys b _,?_,?_,?_) (Heap.SameBut.update ..))))
  ·rw[storedH_new (atKey_none_of_get i)];simp[h,entryOfKey]
  ·rw[storedH_new (atKey_none_of_get i)];intro x c;rcases List.mem_append.mp c with c | c
   ·exact knd.keeps (q x c) f b (Heap.SameBut.update ..)
   ·simp only[List.mem_singleton]at c;subst c;exact knd.keeps l f b (Heap.SameBut.update ..)
  ·rw[storedH_new (atKey_none_of_get i),aay,List.nodup_append];calc(g,nofun,?_);intro x c y m;simp only[List.map_cons,List.map_nil,List.mem_singleton]at m;subst m;exact λe=>j (e▸c)
 ·intro j p n;refine j' (wpAny_rule (j' (wpAny_updateDict f b (wpAny_point (r _ (_,_,t,aa5 _ f (Obj.isFreed_of_dict (Obj.data_mapDict b _)),
   u.mapDict _,Obj.data_mapDict b _,?_,?_,?_) (Heap.SameBut.update ..))))))
  ·rw[storedH_old (atKey_of_get g n)];have:=modify_map_putAt (entryOfKey knd) (λe:DictEntry=>{e with val:=v}) k v (λ_ _=>rfl) g n;rw[<-h]at this;obtain⟨l⟩:=B;simpa using this
  ·rw[storedH_old (atKey_of_get g n)];intro x c;let(y,m,rfl):=List.mem_map.mp c;unfold putAt;split<;>exact knd.keeps (q y m) f b (Heap.SameBut.update ..)
  ·rw[storedH_old (atKey_of_get g n),keys_map_putAt];calc g
noncomputable def dE(xs b:List (K×Addr×Value)):List (K×Addr×Value):=b.foldl (λa y=>storedH a y.1 y.2.1 y.2.2) xs
theorem ug(xs a:List (K×Addr×Value)):(dE xs a).length<=xs.length+a.length:=by
 induction a generalizing xs with
 |nil=>simp[dE]
 |cons y a b=>
  have c:=b (storedH xs y.1 y.2.1 y.2.2);have c:(storedH xs y.1 y.2.1 y.2.2).length<=xs.length+1:=by unfold storedH;split<;>simp
  show(dE (storedH xs y.1 y.2.1 y.2.2) a).length<=_;rw[abf];lia
theorem ya{xs a:List (K×Addr×Value)}{i:Nat}{y:K×Addr×Value}(h:a[i]?=some y):dE xs (a.take (i+1))=storedH (dE xs (a.take i)) y.1 y.2.1 y.2.2:=by
 unfold dE;rw[abt,h,List.foldl_append];rfl
theorem vp(a b:List (K×Addr×Value))(c:((a++b).map (·.1)).Nodup):dE a b=a++b:=by
 induction b generalizing a with
 |nil=>simp[dE]
 |cons y b d=>
  have f:atKey a y.1=none:=atKey_none_of_get λj p e=>by
   rw[aay,aaU,List.nodup_append]at c;exact c.2.2 y.1 (List.mem_map.mpr (((y.1),p),aaT e,rfl)) y.1 aaY rfl
  show dE (storedH a y.1 y.2.1 y.2.2) b=_;rw[storedH_new f,d _ (by simpa using c)];simp
theorem mZ:∀{a:List (K×Addr×Value)},(a.map λy=>knd.hash y.1).Nodup->∀{z:K×Addr×Value},z∈a->((a.map (entryOfKey knd)).filter λx=>x.hash==(entryOfKey knd z).hash).length<=1
 | [],_,z,b=>by simp at b
 |y::a,h,z,b=>by
  rw[aaU,List.nodup_cons]at h;rw[aaU,List.filter_cons];by_cases e:knd.hash y.1=knd.hash z.1
  ·have c:((a.map (entryOfKey knd)).filter λx=>x.hash==(entryOfKey knd z).hash)=[]:=by
    rw[List.filter_eq_nil_iff];intro x d q;let(u,f,rfl):=List.mem_map.mp d;exact h.1 (List.mem_map.mpr (u,f,by rw[e];calc(beq_iff_eq.mp q)))
   rw[c];split<;>simp
  ·rw[if_neg (by simpa[entryOfKey] using e)];rcases List.mem_cons.mp b with rfl | b
   ·exact absurd rfl e
   ·calc mZ h.2 b
theorem BX{nm:String}{d o:Addr}{xs g:List (K×Addr×Value)}{Q:Unit->Shared->Prop}(hu:knd.room A)(u:d≠o)(N:(o==sysModules)=false)
  (O:s.heap.DictOfH knd d xs) (ho:s.heap.DictOfH knd o g) (hsz:xs.length+g.length<=sizeLine) (P:xs=[]->(g.map λy=>knd.hash y.1).Nodup)
  (hT:∀e∈g,s.TypeIs (.ref e.2.1) "tuple")
  (I:∀h',h'.DictOfH knd d (dE xs g)->Heap.SameBut d s.heap h'->Q ⟨⟩ {s with heap:=h'}):
  wpAny (model prog w) A (Builtin.Dict.mergeDict nm d o) Q E s:=by
 let(od,R,S,z,xy,r,T,i3,hnd):=id O;let(oo,j,epo,B,Dg,t,C,G,vY):=id ho;unfold Builtin.Dict.mergeDict;rw[if_neg (by simpa using u)];unfold Builtin.Dict.showsAll;rw[if_neg (by rw[N];calc T')];calc j' (K' ?_);calc j' (abh B t ?_);have m:j.size=g.length:=size_of_entries C;have p:wpAny (model prog w) A (do
   let X2 <-dictEpoch o
   let l <-dictEntries o
   forIn [:l.size] PUnit.unit λi (_:PUnit)=>(do
     let l' <-dictEntries o
     match l'[i]? with
      | some e=>do
       holding [e.key,e.val] (dictSetHashed d e.key e.hash e.val)
       let WB <-dictEpoch o
       if (WB != X2)=true then do
         (unsupported (toString nm++toString ":source-changed-during-callback"):Sem PUnit)
         pure (ForInStep.yield PUnit.unit)
        else pure (ForInStep.yield PUnit.unit)
      | _=>do
       (unsupported "internal:dict-merge":Sem PUnit)
       pure (ForInStep.yield PUnit.unit):Sem (ForInStep PUnit))
   pure ⟨⟩) Q E s:=by
  calc j' (wpAny_dictEpoch B t ?_);calc j' (abh B t ?_);calc j' ?_;rw[Std.Legacy.Range.forIn_eq_forIn_range'];simp only[Std.Legacy.Range.size,Nat.sub_zero,Nat.add_sub_cancel,Nat.div_one];refine wpAny_forIn_list _
   (λc _ q=>∃h' i,q={s with heap:=h'}/\c=List.range' i (j.size-i)/\i<=j.size/\h'.DictOfH knd d (dE xs (g.take i))/\h'.get? o=some oo/\Heap.SameBut d s.heap h')
   _ ?_ ?_ _ _ (s.heap,0,rfl,nofun,aaO _,by simpa[dE] using O,B,Heap.SameBut.refl _ _)
  ·rintro x c b q ⟨h',i,rfl,hr,hi,J,U,L⟩;have kZ:i<j.size:=by
    rcases Nat.lt_or_ge i j.size with h|h
    ·exact h
    ·rw[Nat.sub_eq_zero_of_le h]at hr;simp at hr
   obtain⟨rfl,wj⟩:x=i/\c=List.range' (i+1) (j.size-(i+1)):=by
    have e:j.size-i=(j.size-(i+1))+1:=by lia
    rw[e,List.range'_succ]at hr;injection hr with h1 h2
    exact(h1,h2)
   calc j' (abh U t ?_);obtain⟨⟨k,a,v⟩,W⟩:∃y,g[x]?=some y:=(g[x]'(by rw[<-m];calc kZ),cT _)
   rw[PySem.entry_at C x,W];show wpAny _ _ (holding [.ref a,v] (dictSetHashed d (.ref a) (knd.hash k) v) >>= _) _ _ _;have X:(dE xs (g.take x)).length<=sizeLine:=by
    have e1:=ug xs (g.take x);have e2:(g.take x).length<=g.length:=by rw[abg];lia
    lia
   have EW:knd.is h' k a:=knd.keeps (G _ (aaT W)) z r L;calc j' (aa8 (uf (s:={s with heap:=h'}) hu EW J (λVy Y X4=>?_) X));have Qa:Vy.get? o=some oo:=(X4.2 o (Ne.symm u)).trans U;calc j' (wpAny_dictEpoch Qa t ?_);rw[if_neg nofun];exact K' (Vy,x+1,rfl,wj,kZ,by rw[ya W];calc Y,Qa,L.trans X4)
  ·rintro b q ⟨h',i,rfl,hr,hi,J,U,L⟩;have n:i=j.size:=by
    rcases Nat.lt_or_ge i j.size with h|h
    ·have e:j.size - i=(j.size - (i + 1)) + 1:=by lia
     rw[e,List.range'_succ]at hr;exact nomatch hr
    ·exact Nat.le_antisymm hi h
   calc K' (I h' ?_ L);rw[n,m,aa0]at J;exact J
 dsimp only;split
 ·calc j' (abh z r ?_);split
  ·rename_i Z;have Qb:xs=[]:=by
    have h0:R=#[]:=Array.isEmpty_iff.mp Z;have:=size_of_entries T;rw[h0]at this;exact List.length_eq_zero_iff.mp (by simpa using this.symm)
   subst Qb;have P:=P rfl;calc j' ?_;unfold Builtin.Dict.entriesForEmpty;calc j' (abh B t ?_);calc j' ?_;rw[<-Array.forIn_toList];refine wpAny_forIn_list _ (λc _ q=>q=s/\∀e∈c,e∈j.toList) _ ?_ ?_ _ _ (rfl,λe h=>h)
   ·rintro e c b q ⟨rfl,hr⟩;have n:=hr e aaY;rw[C] at n;let(y,M,rfl):=List.mem_map.mp n;refine j' ?_;show wpAny _ _ (do return (<-specialOf (.ref y.2.1) "__eq__") == some (.builtin "object.__eq__")) _ _ _;refine j' (wpAny_specialOf (hT y M) F.slot_tuple_eq.lookup (K' ?_));rw[show(some (Value.builtin "tuple.__eq__") == some (Value.builtin "object.__eq__"))=false by decide];rw[if_pos (show(!false)=true from rfl)];rw[if_neg ?_]
    ·exact K' (rfl,λe h=>hr e (aaD _ h))
    ·rw[<-Array.length_toList,Array.toList_filter,C];exact Nat.not_lt.mpr (mZ P M)
   ·rintro b q ⟨rfl,_⟩;calc K' ?_;have hm:=vp [] g (by simpa using vY);rw[List.nil_append] at hm;rw[hm] at I;split
    ·refine j' (wpAny_updateDictKeysTo z r (K' (I _ (_,_,S + 1,aa5 _ z (Obj.isFreed_of_dict (Obj.data_mapDictKeys r _)),xy.mapDictKeys _,
      Obj.data_mapDictKeys r _,C,λy M=>knd.keeps (G y M) z r (Heap.SameBut.update ..),vY) (Heap.SameBut.update ..))) (by simp at hsz;lia))
    ·rename_i pQ;have h0:j=#[]:=Array.isEmpty_iff.mp (by simpa using pQ);have Mg:g=[]:=List.length_eq_zero_iff.mp (by rw[<-m,h0];rfl);subst Mg;exact K' (I _ O (Heap.SameBut.refl _ _))
  ·exact p
 ·calc p
end
noncomputable def ly(d a:List (List Key×V)):List (List Key×V):=a.foldl (λb c=>putK b c.1 c.2) d
theorem KT.merge{H:Hp}:∀{a:List (List Key×V)}{b:List (List Key×Addr×Value)}{c:List (List Key×V)}{xs:List (List Key×Addr×Value)},KT H a b->KT H c xs->KT H (ly c a) (dE xs b)
 |_,_,_,_,.nil,q=>q
 |p::a,y::b,c,xs,.cons h r,q=>by
  let(d,f,g):=h;have e:=q.put p.1 f g;rw[show storedH xs p.1 y.2.1 y.2.2=storedH xs y.1 y.2.1 y.2.2 by rw[d]]at e;show KT H (ly (putK c p.1 p.2) a) (dE (storedH xs y.1 y.2.1 y.2.2) b);calc KT.merge r e
def DB(k:List Key):Int->Prop:=λh=>∀(P:Program) (w:World),(tupleKind (bM P w)).hash k=h
section
variable {X:Cx}
def adq:V->List V->Hp->VK->Prop:=λx vs H Q=>∃a b d c,x=.ref a/\vs=[.ref b]/\a≠b/\H a=some (.dT d)/\Rd H b (.dT c)/\d.length+c.length<=sizeLine/\(d=[]->∃e:List Int,e.Nodup/\e.length=c.length/\∀(i:Nat) p h,c[i]?=some p->e[i]?=some h->DB p.1 h)/\Q .bG (upd H a (.dT (ly d c)))
def Qc:V->List V->Hp->VK->Prop:=λx vs H Q=>∃a y z o,x=.ref a/\vs=[y,z]/\(fQ H a y o\/(y=.bG/\o=none/\∃b,Rd H a (.dT b)/\∀p∈b,∃h,DB p.1 h/\h≠4238894112))/\Q (o.getD z) H
theorem zH(e:X.A.units+1<cLine):RW X "dict.get" Qc:=by
 intro c s σ H x D v E Q I g i h;let(a,y,z,o,rfl,rfl,b,q):=h
 cases g;let(G,n,rfl,d,f):=i.two;rcases b with b|⟨rfl,rfl,r,b,t⟩
 ·exact Sb e I b d f λg h a c=>(_,H,a,c,q)
 ·cases d;let(h,o,i,s,e,a,c,g,j,u,v,x):=JI (CZ I.aW b);calc call_meetsIn L8 (qg.type (o,a,c,g)) Vk (PySem.F.args_dict_get_3 _ _ _) (ue h n) (i,s,(o,a,c,g),λe k=>?_,λa=>(z,H,I.tok _,f,q));rw[u] at k;let(p,B,rfl):=List.mem_map.mp k;let(i,a):=List.mem_iff_getElem?.mp B;have l:i < r.length:=by rw[Paired.length j];exact(List.getElem?_eq_some_iff.mp a).1
  let(b,m,C):=Paired.get j (cT l);rw[a]at m
  cases m;let(k,a,b):=t _ (aaV l);show(tupleKind (bM X.prog X.w)).hash p.1≠_;rw[<-C.1,a];calc b
theorem NZ(r:X.A.units+1<cLine):RW X "dict.update" adq:=by
 intro e s σ H x O v P Q I t u h;let(a,b,m,c,rfl,rfl,y,n,A,R,B,q):=h
 cases t;let(T,rfl,C):=u.one
 cases C;let(z,D,p,d,o):=Pu I.aW n;let(e,E,j,k,g):=oM I.aW A;have G:=Paired.length d;have e:=Paired.length k;refine call_meetsIn PySem.F.slot_dict_update o.typeIs PySem.F.entry_dict_update (PySem.F.args_dict_update_2 _ _) (.of_wp (S:=λA R i=>A=X.A/\i=s/\∀f,f.DictOfH (tupleKind (bM X.prog X.w)) a (dE p j)->Heap.SameBut a s.heap f->R (.ok (.ret .none)) {s with heap:=f}) λA R i (J,K,L)=>?_) (rfl,rfl,λf M N=>?_)
 ·subst J K;unfold Builtin.«dict.update»;refine j' ?_;unfold Builtin.Dict.selfAndRest;refine j' (wpAny_notOrdered_dict o.typeIs ?_);show wpAny _ _ (pure ((a),[Value.ref b])) _ _ i;refine K' ?_;show wpAny _ _ (Builtin.Dict.updateFrom "dict.update" a (.ref b) [] .none) _ _ i;unfold Builtin.Dict.updateFrom;refine j' (wpAny_typeOf g.typeIs ?_);rw[if_neg ∅];refine j' ?_;unfold Builtin.Dict.merge;refine j' ?_;unfold Builtin.Dict.readDirectly;refine j' (wpAny_isInstance g.typeIs isSubtype_dict_dict ?_);simp only[Bool.not_true,Bool.false_eq_true,if_false];refine j' (wpAny_specialOf g.typeIs F.slot_dict_iter.lookup (K' ?_));simp only[beq_self_eq_true,if_true];refine j' (K' ?_);refine BX (abx r) y E o g () (λe=>?_) (λe r=>?_) λf t u=>?_
  ·have h:m=[]:=List.length_eq_zero_iff.mp (by rw[G,e];rfl);let(b,v,i,x):=B h;have:(j.map λy=>(tupleKind (bM X.prog X.w)).hash y.1)=b:=by
    apply List.ext_getElem?;intro i;rw[J'];by_cases h:i<c.length
    ·let(y,A,B):=Paired.get k (cT h);have o:=cT (l:=b) (i:=i) ();rw[A,o];show some ((tupleKind (bM X.prog X.w)).hash y.1)=some _;rw[<-B.1,x i _ _ (cT h) o]
    ·rw[List.getElem?_eq_none (),List.getElem?_eq_none ()];rfl
   rw[this];exact v
  ·let(_,_,_,_,_,_,_,h,_):=g;exact(h e r).typeIs
  ·show wpAny _ _ (Builtin.Dict.addKeywords a [] >>= _) _ _ _;exact j' (K' (K' (.none,rfl,L f t u)))
 ·let(a,g,h,f,i,o,r,_,t):=M;have b:(ly m c).length<=sizeLine:=by
   have:=ug p j;have e:=Paired.length (KT.merge k d);lia
  calc(.bG,_,sm (ob:=.dT (ly m c)) (t':=s.toks) I (by rw[n];calc aa4) N (a,f) (b,D,_,(KT.merge k d).keeps λc j e=>?_,a,g,h,f,i,o,r,t),rfl,q);rw[ay (gK e n (λz=>nomatch z))];calc e
end
end
end L2
namespace L2
open PySem PySem.Spec PyProof.Rows DD
noncomputable def zI(p:Int×Int):Int:=reduceHash (Builtin.Tuple.tupleHashOf [hashInt p.1,hashInt p.2])
noncomputable def kh:List (Int×Int):=(List.range 205).map λi=>((((i/41:Nat):Int)),((i%41:Nat):Int))
theorem N8:(kh.map zI).Nodup:=by decide +kernel
theorem N9:∀p∈kh,zI p≠4238894112:=by decide +kernel
abbrev Ev:=Int×Int
noncomputable def kE(p:Ev):List Key:=[.inl p.1,.inl p.2]
theorem uh{p q:Ev}(h:kE p=kE q):p=q:=by
 unfold kE at h;injection h with h1 h2
 injection h2 with h2 _
 calc Prod.ext (Sum.inl.inj h1) (Sum.inl.inj h2)
theorem DC(p:Ev):DB (kE p) (zI p):=λP w=>rfl
theorem wH{α β:Type}{f:α->β}:∀{l:List α},(l.map f).Nodup->∀{x y},x∈l->y∈l->f x=f y->x=y
 |a::l,h,x,y,c,d,e=>by
  rw[aaU,List.nodup_cons]at h;rcases List.mem_cons.mp c with b|b<;>rcases List.mem_cons.mp d with a|a
  ·rw[b,a]
  ·exact absurd (List.mem_map.mpr (y,a,by rw[<-e,b])) h.1
  ·exact absurd (List.mem_map.mpr (x,b,by rw[e,a])) h.1
  ·calc wH h.2 b a e
theorem DE{p:Ev}(c:0<=p.1)(d:p.1<5)(e:0<=p.2)(f:p.2<=40):p∈kh:=by
 let(a,b):=p;calc List.mem_map.mpr (a.toNat*41+b.toNat,List.mem_range.mpr (by simp only at *;lia),Prod.ext ?_ ?_)<;>(simp only at *;lia)
theorem JJ{α β:Type}{f:α->β}:∀{l:List α},l.Nodup->(∀x∈l,∀y∈l,f x=f y->x=y)->(l.map f).Nodup
 | [],_,_=>List.nodup_nil
 |a::l,h,g=>by
  rw[List.nodup_cons]at h;rw[aaU,List.nodup_cons];calc(λz=>?_,JJ h.2 λx c y b=>g x (aaD _ c) y (aaD _ b));let(y,b,e):=List.mem_map.mp z;calc h.1 (g y (aaD _ b) a aaY e▸b)
theorem FG{a:List (List Key×V)}{es:List Ev}(h:a.map (·.1)=es.map kE)(j:es.Nodup)(g:∀p∈es,p∈kh):
  ∃c:List Int,c.Nodup/\c.length=a.length/\∀(i:Nat) p h,a[i]?=some p->c[i]?=some h->DB p.1 h:=by
 calc(es.map zI,JJ j λx c y k e=>wH N8 (g x c) (g y k) e,by have:=congrArg List.length h;simpa using this.symm,λi p z c b=>?_);have d:(a.map (·.1))[i]?=some p.1:=by rw[J',c];rfl
 rw[h,J']at d;rw[J']at b
 cases q:es[i]? with
 |none=>rw[q]at b;cases b
 |some y=>
  rw[q]at b d
  cases b;rw[<-Option.some.inj d];calc DC y
abbrev Lg:=List (Ev×Option Ev)
noncomputable def gV(L:Lg)(m:Int):Nat:=(L.filter λx=>decide (x.1.1=m)).length
theorem j0{L:Lg}{x:Ev×Option Ev}{m:Int}:gV (L++[x]) m=gV L m+if x.1.1=m then 1 else 0:=by
 unfold gV;rw[List.filter_append,aaQ];congr 1;by_cases h:x.1.1=m<;>simp[h]
inductive gm(n:Nat):Lg->Prop
 |nil:gm n []
 |snoc {L:Lg} {e:Ev} {s:Option Ev}:gm n L->0<=e.1->e.1<n->e.2=gV L e.1+1->(∀p,s=some p->p∈L.map (·.1))->gm n (L++[((e),s)])
theorem gm.mem{n:Nat}{L:Lg}(h:gm n L):∀j k:Int,((j),k)∈L.map (·.1)↔0<=j/\j<n/\1<=k/\k<=gV L j:=by
 induction h with
 |nil=>intro j k;simp[gV];lia
 | @snoc L e s a c d f b g=>
  intro j k;rw[aay,List.mem_append,g,j0];let(a,b):=e;simp only[List.map_cons,List.map_nil,List.mem_singleton,Prod.mk.injEq]at c d f ⊢;by_cases q:a=j
  ·subst q;rw[if_pos rfl];lia
  ·rw[if_neg q];lia
theorem gm.inv{n:Nat}{L:Lg}{e:Ev}{s:Option Ev}(h:gm n (L++[((e),s)])):gm n L/\0<=e.1/\e.1<n/\e.2=gV L e.1+1/\e∉L.map (·.1)/\∀p,s=some p->p∈L.map (·.1):=by
 generalize c:L++[((e),s)]=M at h
 cases h with
 |nil=>simp at c
 | @snoc j k l h d f g i=>
  let(a,b):=List.append_inj' c rfl;subst a;simp only[List.cons.injEq,Prod.mk.injEq,and_true]at b;let(rfl,rfl):=b;calc(h,d,f,g,λz=>by have:=(h.mem e.1 e.2).mp z;lia,i)
theorem gm.take{n:Nat}{L:Lg}(h:gm n L)(i:Nat):gm n (L.take i):=by
 induction h with
 |nil=>rw[List.take_nil];calc .nil
 | @snoc L e s a b c d f g=>
  by_cases e:i<=L.length
  ·rw[abC e];exact g
  ·rw[abw (by simp;lia)];calc .snoc a b c d f
theorem gm.evs{n:Nat}{L:Lg}(h:gm n L)(b:n<=5)(c:L.length<=40){p:Ev}(a:p∈L.map (·.1)):p∈kh:=by
 have:=(h.mem p.1 p.2).mp a;have b:gV L p.1<=L.length:=List.length_filter_le _ _;calc DE () () () ()
noncomputable def eG{α:Type}(D:List (Ev×α))(p:Ev):Option α:=(D.find? λx=>decide (x.1=p)).map (·.2)
theorem ki{α:Type}{D:List (Ev×α)}{e p:Ev}{x:α}:eG (D++[((e),x)]) p=(eG D p).or (if e=p then some x else none):=by
 unfold eG;rw[List.find?_append]
 cases D.find? λx=>decide (x.1=p) with
 |some y=>rfl
 |none=>by_cases h:e=p<;>simp[h]
theorem iA{α:Type}{D:List (Ev×α)}{p:Ev}(h:p∉D.map (·.1)):eG D p=none:=by
 unfold eG;rw[List.find?_eq_none.mpr λx a q=>h (List.mem_map.mpr (x,a,aa1 q))];rfl
noncomputable def dM(e:Ev):Option Ev:=if e.2<=1 then none else some ((e.1),e.2-1)
noncomputable def fq(n:Nat)(D:List (Ev×List Int)):Option Ev->List Int
 |none=>List.replicate n 0
 |some p=>(eG D p).getD (List.replicate n 0)
noncomputable def ui(n:Nat)(D:List (Ev×List Int))(x:Ev×Option Ev):List Int:=(List.zipWith max (fq n D (some ((x.1.1),x.1.2-1))) (fq n D x.2)).set x.1.1.toNat x.1.2
noncomputable def cL(n:Nat)(L:Lg):List (Ev×List Int):=L.foldl (λD x=>D++[((x.1),ui n D x)]) []
noncomputable def kj(S:List Ev)(x:Ev):List Ev:=if x∈S then S else S++[x]
noncomputable def iB(D:List (Ev×List Ev))(S:List Ev):Option Ev->List Ev
 |none=>S
 |some p=>kj (((eG D p).getD []).foldl kj S) p
noncomputable def qh(D:List (Ev×List Ev))(x:Ev×Option Ev):List Ev:=iB D (iB D [] (dM x.1)) x.2
noncomputable def cF(L:Lg):List (Ev×List Ev):=L.foldl (λD x=>D++[((x.1),qh D x)]) []
theorem uj{n:Nat}{L:Lg}{x:Ev×Option Ev}:cL n (L++[x])=cL n L++[((x.1),ui n (cL n L) x)]:=by unfold cL;rw[List.foldl_append];rfl
theorem rz{L:Lg}{x:Ev×Option Ev}:cF (L++[x])=cF L++[((x.1),qh (cF L) x)]:=by unfold cF;rw[List.foldl_append];rfl
theorem pw{S:List Ev}{x y:Ev}:y∈kj S x↔y∈S\/y=x:=by
 unfold kj;split
 ·exact(.inl,λh=>h.elim id λh=>by rw[h];assumption)
 ·simp
theorem yb{S:List Ev}{x:Ev}(h:S.Nodup):(kj S x).Nodup:=by
 unfold kj;split
 ·exact h
 ·rename_i d;rw[List.nodup_append];calc(h,nofun,λa f b c=>by simp at c;subst c;calc λe=>d (e▸f))
theorem nk{y:Ev}:∀{T S:List Ev},y∈T.foldl kj S↔y∈S\/y∈T
 | [],S=>by simp
 |x::T,S=>by rw[List.foldl_cons,nk,pw,List.mem_cons];calc or_assoc
theorem qi:∀{T S:List Ev},S.Nodup->(T.foldl kj S).Nodup
 | [],S,h=>h
 |x::T,S,h=>qi (T:=T) (yb h)
structure VA(n:Nat)(L:Lg)(e:Ev)(R:List Int)(S:List Ev):Prop where
 len:R.length=n
 nd:S.Nodup
 out:e∉S
 mem:∀j k:Int,(((j),k)∈S\/((j),k)=e)↔0<=j/\j<n/\1<=k/\k<=R.getD j.toNat 0
 pos:∀j:Nat,j<n->0<=R.getD j 0/\R.getD j 0<=gV L j
 own:R.getD e.1.toNat 0=e.2
theorem FH{a b:List Int}{j:Nat}{n:Nat}(c:a.length=n)(d:b.length=n)(h:j<n):(List.zipWith max a b).getD j 0=max (a.getD j 0) (b.getD j 0):=by
 rw[aaK,aaK,aaK,List.getElem?_zipWith,cT (),cT ()];rfl
theorem gm.all{n:Nat}{L:Lg}(h:gm n L):(cL n L).map (·.1)=L.map (·.1)/\(cF L).map (·.1)=L.map (·.1)/\∀e∈L.map (·.1),∃R S,eG (cL n L) e=some R/\eG (cF L) e=some S/\VA n L e R S:=by
 induction h with
 |nil=>calc(rfl,rfl,λe U=>by simp at U)
 | @snoc L e s m F G W X U=>
  let(t,I,J):=U;have i:e∉L.map (·.1):=λz=>by have:=(m.mem e.1 e.2).mp z;lia
  rw[uj,rz];calc(by rw[aay,aay,t];rfl,by rw[aay,aay,I];rfl,λp g=>?_);have Y:∀j:Int,gV L j<=gV (L++[((e),s)]) j:=λj=>by rw[j0];lia
  by_cases K:p=e
  ·subst K;have l:∀o:Option Ev,(∀q,o=some q->q ∈ L.map (·.1))->(fq n (cL n L) o).length=n/\(∀a:List Ev,a.Nodup->(iB (cF L) a o).Nodup)/\
     (∀j:Nat,j<n->0<=(fq n (cL n L) o).getD j 0/\(fq n (cL n L) o).getD j 0<=gV L j)/\
     (∀(a:List Ev) (j k:Int),((j),k)∈iB (cF L) a o↔((j),k)∈a\/(0<=j/\j<n/\1<=k/\k<=(fq n (cL n L) o).getD j.toNat 0)):=by
    intro o Z
    cases o with
    |none=>
     calc(by simp[fq],λa h=>h,λj c=>by simp[fq,List.getD_eq_getElem?_getD,List.getElem?_replicate,c],λa j k=>?_);show _∈a↔_;calc(.inl,λz=>z.elim id λz=>?_);have:(fq n (cL n L) none).getD j.toNat 0=0:=by simp[fq,List.getD_eq_getElem?_getD,List.getElem?_replicate];split<;>rfl
     lia
    |some q=>
     let(R,S,w,C,b):=J q (Z q rfl);have U:fq n (cL n L) (some q)=R:=by simp[fq,w]
     have o:∀a,iB (cF L) a (some q)=kj (S.foldl kj a) q:=λa=>by simp[iB,C]
     rw[U];calc(b.len,λa h=>by rw[o];calc yb (qi h),b.pos,λa j k=>?_);rw[o,pw,nk,<-b.mem j k,or_assoc]
   have Mh:∀q,dM p=some q->q∈L.map (·.1):=λq e=>by
    unfold dM at e;split at e
    ·cases e
    ·cases e;exact(m.mem _ _).mpr (F,G,(),())
   have e1:fq n (cL n L) (some ((p.1),p.2-1))=fq n (cL n L) (dM p):=by
    unfold dM;split
    ·have:eG (cL n L) ((p.1),p.2-1)=none:=iA λz=>by
      rw[t]at z;have:=(m.mem _ _).mp z;lia
     simp[fq,this]
    ·rfl
   let(M,a2,N,O):=l (dM p) Mh;let(P,b2,T,b4):=l s X;generalize fq n (cL n L) (dM p)=A at *;generalize hB:fq n (cL n L) s=B at *;have y:p.1.toNat<n:=by lia
   have hz:(List.zipWith max A B).length=n:=by rw[List.length_zipWith,M,P];lia
   have hR:ui n (cL n L) ((p),s)=(List.zipWith max A B).set p.1.toNat p.2:=by unfold ui;simp only;rw[e1,hB]
   have hS:qh (cF L) ((p),s)=iB (cF L) (iB (cF L) [] (dM p)) s:=rfl;have d:∀j:Nat,j<n->((List.zipWith max A B).set p.1.toNat p.2).getD j 0=if j=p.1.toNat then p.2 else max (A.getD j 0) (B.getD j 0):=λj c=>by
    rw[aaK,List.getElem?_set];by_cases q:p.1.toNat=j
    ·rw[if_pos q,if_pos q.symm,if_pos ()];rfl
    ·rw[if_neg q,if_neg (Ne.symm q),<-aaK,FH M P c]
   have am:A.getD p.1.toNat 0=p.2-1:=by
    have u:=N p.1.toNat y;rw[show((p.1.toNat:Nat):Int)=p.1 by lia]at u;by_cases q:p.2<=1
    ·lia
    ·have v:=(O [] p.1 (p.2 - 1)).mp (by rw[show dM p=some ((p.1),p.2 - 1) by unfold dM;rw[if_neg q]];calc pw.mpr (.inr rfl));rcases v with v | v
     ·simp at v
     ·lia
   have a:B.getD p.1.toNat 0<=p.2-1:=by
    have u:=T p.1.toNat y;rw[show((p.1.toNat:Nat):Int)=p.1 by lia]at u;lia
   calc(_,_,by rw[ki,iA (by rw[t];calc i),if_pos rfl];rfl,by rw[ki,iA (by rw[I];calc i),if_pos rfl];rfl,?_);show VA n _ p (ui n (cL n L) ((p),s)) (qh (cF L) ((p),s));have a:∀j k:Int,((j),k)∈qh (cF L) ((p),s)↔(0<=j/\j<n/\1<=k/\k<=A.getD j.toNat 0)\/(0<=j/\j<n/\1<=k/\k<=B.getD j.toNat 0):=λj k=>by
    rw[hS,b4,O];simp
   rw[hR];refine(by rw[List.length_set];calc hz,b2 _ (a2 [] List.nodup_nil),λz=>?_,λj k=>?_,λj c=>?_,by rw[d _ y,if_pos rfl])
   ·have:=(a p.1 p.2).mp z;lia
   ·rw[a];by_cases q:0<=j/\j < n
    ·rw[d j.toNat ()];by_cases r:j=p.1
     ·subst r;rw[if_pos rfl,am];have:(((p.1),k)=p)↔k=p.2:=(λz=>by rw[<-z],λz=>by rw[z])
      rw[this];lia
     ·rw[if_neg ()];have:¬(((j),k)=p):=λz=>r (by rw[<-z]);rw[or_iff_left this];generalize A.getD j.toNat 0=x;generalize B.getD j.toNat 0=y;lia
    ·have:¬(((j),k)=p):=λz=>q (by rw[show j=p.1 by rw[<-z]];calc(F,G));constructor
     ·rintro(z | z)
      ·lia
      ·exact absurd z this
     ·intro z;lia
   ·rw[d j c,j0];have u:=N j c;have v:=T j c;by_cases q:j=p.1.toNat
    ·subst q;have a:((p.1.toNat:Nat):Int)=p.1:=by lia
     rw[if_pos rfl,a,if_pos rfl];have d:0<=(gV L p.1:Int):=Int.natCast_nonneg _;exact((),by rw[W];push_cast;lia)
    ·rw[if_neg q];lia
  ·have yX:p∈L.map (·.1):=by
    rw[aay,List.mem_append]at g;rcases g with g|g
    ·exact g
    ·exact absurd (by simpa using g) K
   let(R,S,w,C,b):=J p yX;calc(R,S,by rw[ki,w];rfl,by rw[ki,C];rfl,b.len,b.nd,b.out,b.mem,λj c=>((b.pos j c).1,Int.le_trans (b.pos j c).2 (by have:=Y j;lia)),b.own)
end L2
set_option maxHeartbeats 4000000
namespace DD
open PySem L2
variable {r:RS}
structure RS.Le(r r':RS)(ev:Int×Int):Prop where
 fb:∀(u k:Nat) e,(r.ww u).fb[k]?=some (some e)->(r'.ww u).fb[k]?=some (some e)
 snd:∀(u k:Nat) s,(r.ww u).snd[k]?=some s->(r'.ww u).snd[k]?=some s
 new:∀(u k:Nat) e,(r'.ww u).snd[k]?=some (some e)->(r.ww u).snd[k]?=some (some e)\/e=ev
theorem RS.Le.put{b:RS}{ev:Int×Int}(h:b.Le r ev){w:Nat}{x:Int}:b.Le (r.put w x (some ev)) ev where
 fb:=λu k e z=>NP.mpr (h.fb u k e z)
 snd:=λu k s z=>by
  have z:=h.snd u k s z;show((if u=w then _ else _:WY).snd)[k]?=_;split
  ·next q=>subst q;exact(aaf (List.getElem?_eq_some_iff.mp z).1).trans z
  ·exact z
 new:=λu k e z=>by
  have z:((if u=w then(((r.ww w).say++[x],(r.ww w).snd++[some ev],(r.ww w).fb++[none]):WY) else r.ww u).snd)[k]?=some (some e):=z;split at z
  ·next q=>
   subst q;by_cases d:k<(r.ww u).snd.length
   ·exact h.new u k e ((aaf d).symm.trans z)
   ·right;have a:([some ev]:List (Option (Int×Int)))[k - (r.ww u).snd.length]?=some (some e):=(Y' ()).symm.trans z
    cases c:k-(r.ww u).snd.length with
    |zero=>rw[c]at a;simpa using a.symm
    |succ j=>rw[c]at a;simp at a
  ·calc h.new u k e z
theorem RS.Le.send{outs:List Nat}{ev:Int×Int}{b:RS}:∀(a:List (Int×Int)) {r:RS},b.Le r ev->b.Le (r.send outs ev a) ev
 | [],r,h=>h
 |p::a,r,h=>by
  show b.Le ((if p.1.toNat<outs.length then r.put (outs.getD p.1.toNat 0) p.2 (some ev) else r).send outs ev a) ev;split
  ·exact RS.Le.send a h.put
  ·calc RS.Le.send a h
theorem Oa{n:NT}{w k:Nat}(b:(r.ww w).fb[k]?=some none):r.Le (r.pick n w k) (n.ev r w)/\((r.pick n w k).ww w).fb[k]?=some (some (n.ev r w)):=by
 have c:∀u,((r.step n w k).ww u).snd=(r.ww u).snd:=λu=>by
  show(if u=w then _ else _:WY).snd=_;split
  ·next q=>subst q;rfl
  ·rfl
 have a:(r.step n w k).Le (r.pick n w k) (n.ev r w):=RS.Le.send _ (λ_ _ _ z=>z,λ_ _ _ z=>z,λ_ _ _ z=>.inl z);calc((λu j e z=>a.fb u j e ((zG b).mpr (.inr z)),λu j s z=>a.snd u j s (by rw[c];calc z),λu j e z=>(a.new u j e z).imp (λy=>by rw[c]at y;calc y) id),a.fb w k _ ((zG b).mpr (.inl (rfl,rfl,rfl))))
structure RS.Lk(n:NT)(r:RS)(L:Lg):Prop where
 good:gm n.ms.length L
 cnt:∀m:Nat,m<n.ms.length->gV L m+1=(r.mm m).fm.length
 len:L.length=r.picks.length
 «at»:∀(i:Nat) p,r.picks[i]?=some p->∃(w k:Nat) (e:Ev) (s:Option Ev),p=(((w:Int)),(k:Int))/\L[i]?=some ((e),s)/\(r.ww w).fb[k]?=some (some e)/\(r.ww w).snd[k]?=some s/\w<n.ws.length
 snd:∀(w k:Nat) e,(r.ww w).snd[k]?=some (some e)->e∈L.map (·.1)
theorem RS.Lk.pick{n:NT}{L:Lg}(h:r.Lk n L)(l:n.Ok){w k:Nat}{s:Option Ev}(d:w<n.ws.length)(o:(r.ww w).fb[k]?=some none)(f:(r.ww w).snd[k]?=some s):(r.pick n w k).Lk n (L++[((n.ev r w),s)]):=by
 let(b,t):=Oa (n:=n) o;have g:n.goal w<n.ms.length:=by
  have:=l.XQ (n.w w) (by unfold NT.w;calc getD_mem d);unfold NT.goal;lia
 have c:=(RS.ph (outs:=n.outs (n.goal w)) (ev:=n.ev r w) (n.work r w k).cM (r:=r.step n w k)).1;have a:(r.pick n w k).picks=r.picks++[(((w:Int)),(k:Int))]:=(RS.ph (outs:=n.outs (n.goal w)) (ev:=n.ev r w) (n.work r w k).cM (r:=r.step n w k)).2;refine(.snoc h.good (Int.natCast_nonneg _) (by show((n.goal w:Nat):Int)<_;lia) ?_ (λp e=>by subst e;calc h.snd w k p f),λm v=>?_,?_,λi p e=>?_,λu j e z=>?_)
 ·show(((r.mm (n.goal w)).fm.length:Nat):Int)=gV L ((n.goal w:Nat):Int)+1;rw[<-h.cnt _ g];rfl
 ·rw[j0];show _=(((r.step n w k).send _ _ _).mm m).fm.length;rw[c];show _=(if m=n.goal w then _ else r.mm m:MS).fm.length;by_cases q:m=n.goal w
  ·subst q;rw[if_pos rfl,if_pos (show(n.ev r w).1=((n.goal w:Nat):Int) from rfl)];show _=((r.mm (n.goal w)).fm++[_]).length;rw[aaQ,<-h.cnt _ g];rfl
  ·rw[if_neg q,if_neg (λz=>q (by have:((n.goal w:Nat):Int)=(m:Int):=z;lia)),h.cnt m v]
 ·rw[a,aaQ,aaQ,h.len];rfl
 ·rw[a] at e;by_cases c:i < r.picks.length
  ·rw[aaf c]at e;let(a,g,l,m,n,o,q,v,x):=h.at i p e;exact(a,g,l,m,n,(aaf (by rw[h.len];calc c)).trans o,b.fb _ _ _ q,b.snd _ _ _ v,x)
  ·have:i=r.picks.length:=by
    have:=(List.getElem?_eq_some_iff.mp e).1;simp at this;lia
   subst this;rw[Y' (S' _),Nat.sub_self]at e;obtain rfl:(((w:Int)),(k:Int))=p:=by simpa using e
   exact(w,k,_,s,rfl,by rw[<-h.len,Y' (S' _),Nat.sub_self];rfl,t,b.snd _ _ _ f,d)
 ·rw[aay,List.mem_append];rcases b.new u j e z with y | y
  ·exact .inl (h.snd u j e y)
  ·calc .inr (by simp[y])
theorem DG{n:NT}:∀(a:List (Int×Int)) {r:RS},r.Lk n []->r.picks=[]->(r.pf a).Lk n []
 | [],r,h,_=>h
 | p::b,r,h,e=>DG b (r:=r.put p.1.toNat p.2 none) ⟨h.good,h.cnt,h.len,λi q z=>by rw[show(r.put p.1.toNat p.2 none).picks=[] from e] at z;simp at z,λu j x z=>by
   have y:((if u=p.1.toNat then(((r.ww p.1.toNat).say++[p.2],(r.ww p.1.toNat).snd++[none],(r.ww p.1.toNat).fb++[none]):WY) else r.ww u).snd)[j]?=some (some x):=z;clear z;split at y
   ·next q=>subst q;exact h.snd _ j x (wF.mp y)
   ·calc h.snd u j x y⟩ e
theorem RS.Lk.begin{n:NT}{a:List (Int×Int)}:(RS.begin n a).Lk n []:=
 DG a (.nil,λ_ _=>rfl,rfl,λi p e=>by simp[RS.new]at e,λw k e z=>by simp[RS.new]at z) rfl
end DD
namespace L2
open PySem PySem.W PyProof.Rows
end L2
namespace L2
open PySem PySem.W PySem.Spec PyProof.Rows
end L2
namespace L2
open PySem PySem.W PySem.Spec PyProof.Rows
end L2
namespace DD
open PySem L2
end DD
namespace L2
open PySem PySem.Spec PyProof.Rows
end L2
namespace L2
open PySem PySem.Spec PyProof.Rows
section
variable {X:Cx}
theorem JK:Passes (yE X.prog X.w) X E0:=λ_ _ _ _ _ _ _ h=>by
 let(_,_,_,_,_,_,_,_,_,_,_,_,_,_,q):=h;calc q.elim
end
end L2
namespace GW
open PySem L2 DD
noncomputable def top(i:Nat):Stmt:=PySem.Challenge.pw_cutrestore_k32_words_of_two.main.body.getD i (.Pass (0,0,0,0))
structure Tx(K:W.Frag)(mg:Str->Option Value)(C CN CR F:Addr)(FD:List (Str×V)):Prop where
 bc:mg "isinstance"=none
 JL:mg "int"=none
 JM:mg "bool"=none
 zJ:mg "str"=none
 cu:mg "tuple"=none
 d9:mg "list"=none
 bV:mg "len"=none
 fZ:mg "range"=none
 X7:mg "min"=none
 JN:mg "max"=none
 wI:mg "all"=none
 X8:mg "any"=none
 DH:mg "zip"=none
 dS:mg "enumerate"=none
 pA:mg "ValueError"=none
 eA:∃t,mg "MOST_DEEDS"=some (.int 24 t)
 dN:∃t,mg "MOST_MODULUS"=some (.int 1000000000000 t)
 dO:∃t,mg "MOST_NUMBERS"=some (.int 4 t)
 fI:∃t,mg "MOST_ROW"=some (.int 12 t)
 dj:∃t,mg "MOST_MACHINES"=some (.int 5 t)
 fM:∃t,mg "MOST_WAYS"=some (.int 10 t)
 dP:∃t,mg "MOST_LETTERS"=some (.int 20 t)
 eB:∃t,mg "SAID_BOUND"=some (.int 1000000000000000000000000000000000000000000000000000000000000 t)
 cQ:va K C
 wJ:mg "Machine"=some (.ref C)
 Qd:bS K C "own_modulus"
 Ts:bS K C "own_state"
 Qe:bS K C "own_deeds"
 FI:W.findIn K (.ref C) "__class__"=some (some (.builtin "object.__class__"))
 FJ:W.mroIn K C (.type "object")=some true
 cR:va K CN
 X9:mg "Net"=some (.ref CN)
 zK:bS K CN "own_machines"
 zL:bS K CN "own_ways"
 BY:bS K CN "own_letters"
 JO:W.findIn K (.ref CN) "__class__"=some (some (.builtin "object.__class__"))
 JP:W.mroIn K CN (.type "object")=some true
 bb:va K CR
 Ya:mg "Run"=some (.ref CR)
 cS:bS K CR "own_net"
 cX:bS K CR "picks_done"
 b8:bS K CR "states_had"
 eC:bS K CR "words_had"
 cY:bS K CR "words_said"
 cb:bS K CR "letters_say"
 fg:bS K CR "senders"
 de:bS K CR "workers"
 JQ:W.findIn K (.ref CR) "__class__"=some (some (.builtin "object.__class__"))
 JR:W.mroIn K CR (.type "object")=some true
 eR:W.specialIn K (.builtin "object.__class__") "__get__"=some (some (.builtin "getset_descriptor.__get__"))
 cB:W.takesIn K (.builtin "object.__class__")=some true
 i_k:W.kitOne K (.ref C) (.ref C)=some true
 DI:mg "FORMS"=some (.ref F)
 DJ:CD K F FD
 Qf:∀d:bA,∃p,PyProof.Rows.KTD.datumAt d.word FD=some (.ref p)/\∀H,bI K H p (d.vi.map V.str)
theorem uo{H:Hp}{a:Addr}{o b:HO}(c:H a=none):av H (upd (upd H a o) a b):=λb p e=>by
 rw[ay (au e c),ay (au e c)];calc e
theorem zM{K:W.Frag}{E:XK}{C B:Addr}{z:Str}{D:Ends}{σ:St}{H:Hp}(b:j9 K C B)(q:∀a,H a=none->E (.ref a) none (upd (upd H a (XO a C none true)) a (XO a C none false))):Ji K E (tX0 C (yR (tC (.str z)) EY)) D σ H:=
 (S' _,λa c=>(a,C,B,none,rfl,af,b,q a c))
end GW
namespace GW
open PySem L2 DD
variable {D a b m p:Addr}{Z:Addr->Prop}{d:bA}{H H' H0 H1 H2:Hp}{e:Int×Int}{ws:List (Int×Int×Str)}{ls s:List (Int×Int)}{AN:List (Key×V)}{ks aL:List (List Key×V)}{as ms:List Addr}{R ns row:List Int}{gQ:List MD}{lv wv ys:List V}{ad:Nat->Nat->Addr}{r:RS}{σ:St}{f:Str}{dd st:V}{Q:VK}
theorem pR{X:Cx}{c:Scope}{N:List Str}:vg X c N λY=>Vr Y [] jc:=λ_ _ _ _=>Ni
section
variable {P:Program}{w:World}{K:W.Frag}{mg:Str->Option Value}{base:Heap}{C CN CR F B:Addr}{c:Nat->Addr}{FD:List (Str×V)}
local macro_rules | `(tactic| walk_at "s") => `(tactic| exact (rfl, rfl, rfl, by decide +kernel, rfl, by decide +kernel, by decide +kernel))
def zqI(s:String):Array Lean.Ident:=(s.splitOn " ").toArray.map (Lean.mkIdent ·.toName)
def zqK:=zqI "tV tT XW Jx Jy Jz JA JB JC Hh tC HC tUn rU CJ tB Rt Hl Rr tOr Hk Ru tIf Hr Rv EN gj Ry sU Vp yR EY RM RN yN Ib Bx Bw R7 xI Ic Bv S8 Be IU IV IW PM IX IZ Ja Jb Jc WW xC HR MW RK vT CL tBM R0 Je Jd Rz ipI A9 id_eq SK IT Sn HB p6 PB Iz IC ID IE PD IF IG IH II PF Dj za jc vf wg Xl Iy Py Pz L2.start List.map_cons List.map_nil List.cons_append List.nil_append List.replicate List.getElem?_cons_zero List.getElem?_cons_succ List.set_cons_zero List.set_cons_succ"
def zqL:=zqI "BO BP xM xN xO xP List.length_cons List.length_nil List.append_nil Option.some.injEq exists_eq_left' exists_eq_left V.int.injEq V.bl.injEq V.str.injEq V.ref.injEq List.cons.injEq and_true true_and Nat.reduceSub Nat.reduceAdd"
local macro_rules | `(tactic| simp_arith only [$xs,*]) => let l:=zqK; `(tactic| simp only [$[$l:ident],*, ↓Dp, ↓zh, ↓tM, ↓wq, ↓tN, $xs,*])
local macro_rules | `(tactic| simp_arith! only [$xs:simpLemma,*]) => let l:=zqK; `(tactic| dsimp only [$[$l:ident],*, ↓Dp, ↓zh, ↓tM, ↓wq, ↓tN, $xs:simpLemma,*])
local macro_rules | `(tactic| walk_at "l0") => `(tactic| simp_arith! only [yO, EM, oR])
local macro_rules | `(tactic| walk_at "l1") => let l:=zqL; `(tactic| simp_arith only [yO, EM, oR, $[$l:ident],*])
local macro_rules | `(tactic| walk_at "l2") => `(tactic| simp_arith! only [yO, EM])
local macro_rules | `(tactic| walk_at "l3") => let l:=zqL; `(tactic| simp_arith only [yO, EM, $[$l:ident],*])
local macro_rules | `(tactic| walk_at "l4") => `(tactic| simp_arith! only [oR])
local macro_rules | `(tactic| walk_at "l5") => let l:=zqL; `(tactic| simp_arith only [oR, $[$l:ident],*])
local macro_rules | `(tactic| walk_at "rd") => `(tactic| first | (walk_at "l0"; try walk_at "l1") | walk_at "l1")
local macro_rules | `(tactic| walk_at "r") => `(tactic| try walk_at "rd")
local macro_rules | `(tactic| walk_at "rt") => `(tactic| first | (walk_at "l2"; try walk_at "l3") | walk_at "l3")
local macro_rules | `(tactic| walk_at "gj") => `(tactic| first
  |refine da (by assumption) (by first|rfl|exact aA (j := 0) rfl|exact aA (j := 1) rfl|exact aA (j := 2) rfl|exact aA (j := 3) rfl) ?_
  |refine bC (by assumption) (by first|rfl|exact aA (j := 0) rfl|exact aA (j := 1) rfl|assumption) ?_
  |rw [if_pos (by decide +kernel)]
  | rw [if_neg (by decide +kernel)])
local macro_rules | `(tactic| walk_at "go") => `(tactic| repeat (first|walk_at "rd"|walk_at "gj"))
local macro_rules | `(tactic| walk_at "r0") => `(tactic| first | (walk_at "l4"; try walk_at "l5") | walk_at "l5")
local macro_rules | `(tactic| walk_at "rh") => `(tactic| first | with_reducible refine L2.S9 ?_ | (with_reducible refine L2.aX ?_; intro N hN) | (with_reducible refine L2.fE ?_; intro T U hT hU))
local macro_rules | `(tactic| walk_at "rn") => `(tactic| (refine L2.aQ (by assumption) ?_; (repeat walk_at "rh"); try walk_at "r0"))
local macro_rules | `(tactic| walk_at "jd") => `(tactic| first
  |(walk_at "rh"; (repeat walk_at "rh"); (try walk_at "r0"); repeat walk_at "rn")
  |(walk_at "rn"; repeat walk_at "rn")
  | (walk_at "r0"; repeat walk_at "rn"))
local macro_rules | `(tactic| walk_at "j") => `(tactic| try walk_at "jd")
local macro_rules | `(tactic| walk_at "jt") => `(tactic| first | (walk_at "l2"; try walk_at "l3") | walk_at "l3")
local macro_rules | `(tactic| walk_at "jg") => `(tactic| repeat (first|walk_at "jd"|walk_at "gj"))
theorem zN{z:V}:Bp (ys++[z]).length (-1)=some ys.length:=by
 unfold Bp;rw[if_neg ∅,if_pos (by simp;lia)];congr 1;simp;lia
theorem lA{z:V}:iZ (ys++[z]) (-1)=some z:=by
 unfold iZ;rw[zN];simp
theorem JS{α:Type}{ys:List α}{z y:α}:(ys++[z]).set ys.length y=ys++[y]:=by simp
theorem yc{o c:HO}:upd (upd H a o) a c=upd H a c:=by
 funext b;by_cases h:b=a
 ·subst h;rw[af,af]
 ·rw[ay h,ay h,ay h]
def gb(H:Hp)(p:Addr):Prop:=∃xs:List Int,H p=some (.lst (xs.map V.int))/\1<=xs.length
structure Step(p:Addr)(H H':Hp):Prop where
 gH:gb H' p
 rest:∀b o,H b=some o->b≠p->H' b=some o
theorem Step.refl(h:gb H p):Step p H H:=(h,λ_ _ e _=>e)
theorem Step.trans(a:Step p H H1)(b:Step p H1 H2):Step p H H2:=(b.gH,λc o e n=>b.rest c o (a.rest c o e n) n)
theorem gb.same(s:av H H')(h:gb H p):gb H' p:=by
 let(a,e,h):=h;calc(a,s _ _ e,h)
theorem Step.same(a:Step p H H1)(b:av H1 H2):Step p H H2:=(a.gH.same b,λc o e n=>b _ _ (a.rest c o e n))
theorem Step.set(a:Step p H H1)(xs:List Int)(h:1<=xs.length):Step p H (upd H1 p (.lst (xs.map V.int))):=
 ((xs,af,h),λc o e n=>by rw[ay n];calc a.rest c o e n)
theorem Step.new{q:Addr}(a:Step p H H1){o:HO}(b:H1 q=none):Step p H (upd H1 q o):=a.same (av.new o b)
theorem Step.aU(a:Step p H H1)(c:gb H p):cw H H1:=λb d e=>a.rest b _ e λz=>by
 subst z;let(a,h,_):=c;rw[h]at e;cases e
theorem Step.ne{q:Addr}(c:gb H p)(b:H q=none):q≠p:=λz=>by
 subst z;let(a,h,_):=c;rw[h]at b;cases b
theorem Step.over(s:av H0 H1)(a:H0 p=none)(st:Step p H1 H2):av H0 H2:=λb o e=>st.rest b o (s b o e) (au e a)
theorem gb.upd{q:Addr}{o:HO}(h:gb H p)(b:p≠q):gb (upd H q o) p:=by
 let(a,e,h):=h;calc(a,by rw[ay b];calc e,h)
abbrev nr:Stmt:=top 23
def je:Sp:=λvs H Q _=>∃x t,vs=[x]/\Kd H x t/\Q (.bl (isI x)) H
theorem BZ(D:cV K mg "is_whole" "is_whole" nr ["thing"])(T:Tx K mg C CN CR F FD):Def P w K mg base "is_whole" 1 ["thing"] je:=by
 exists["thing"];let(x,t,rfl,a,q):=h;have d:=hr.units;refine(_,(ao (aH (ip (bf dI rfl T.bc vO (ag (aq 0) (ag (dy (v:=.ty "int") rfl T.JL PyProof.Rows.boot_int rfl) aa))) (gR (Hn (bf dI rfl T.bc vO (ag (aq 0) (ag (dy (v:=.ty "bool") rfl T.JM PyProof.Rows.boot_bool rfl) aa)))))))),?_);walk_at "rd";let(b,c,d,e,g):=SR (K:=K) a;refine dC t b a.ty d ?_;rw[g] at q
 cases b
 ·rw[if_neg T'];exact q
 ·rw[if_pos rfl];calc(t,c,a.ty,e,q)
abbrev lB:Stmt:=top 24
def cf:Sp:=λvs H Q _=>∃x t a b,vs=[x,.int a,.int b]/\Kd H x t/\Q (.bl (inR a b x)) H
theorem zO(D:cV K mg "is_within" "is_within" lB aP)(T:Tx K mg C CN CR F FD)(j:Def P w K mg base "is_whole" 1 ["thing"] je):Def P w K mg base "is_within" 2 aP cf:=by
  exists aP;let(x,t,a,b,rfl,g,q):=h;have k:=hr.units;refine(_,(ao (aH (ip (aN j hr (ag (aq 0) aa)) (gR (yQ BA gT (aq 1) (aq 0) (aq 2)))))),?_);walk_at "rd";refine dC x t rfl g ?_
  cases g<;>first
    | (rename_i i
       show ∃c,V.bl true=.bl c/\_;calc(true,rfl,?_);rw[if_pos rfl];walk_at "rd";by_cases d:a<=i
       · rw[if_pos (by simpa using d)];have e:inR a b (.int i)=decide (i < b):=by simp[inR,d]
         rw[e]at q;exact q
       · rw[if_neg (by simpa using d)];have e:inR a b (.int i)=false:=by simp[inR,d]
         rw[e] at q;calc q)
    | (show ∃c,V.bl false=.bl c/\_
       calc(false,rfl,?_);rw[if_neg T'];calc q)
abbrev uq:Stmt:=top 66
def JT(K:W.Frag):Sp:=λvs H Q _=>∃(a:Addr) (ns:List Int) (k:Int),vs=[.ref a,.int k]/\aV K H a (ns.map V.int)/\0<=k/\∀c,Q (.int c) H
theorem JU(D:cV K mg "_law_at" "_law_at" uq eH)(T:Tx K mg C CN CR F FD):Def P w K mg base "_law_at" 1 eH (JT K):=by
 exists eH;let(a,ns,k,rfl,b,c,q):=h;have e:=hr.units;refine(_,(ai (aY (aC gT (aq 1) (bf aO rfl T.bV X' (ag (aq 0) aa)) (aI _)) (ao (aH (ak e (aq 0) (aq 1)))) aJ)
  (ao (aH aj))),?_)
 walk_at "rd";refine bQ _ (.inl (_,b,rfl)) ?_;rw[aau];by_cases d:k<(ns.length:Int)
 ·rw[if_pos (by simpa using d)];let(n,rfl):=abj c;have e:n < ns.length:=by lia
  exact(_,.int ns[n],.inl b,aA (by rw[J',cT e];rfl),q _)
 ·rw[if_neg (by simpa using d)];calc q _
abbrev qj:Stmt:=top 67
def JV:Sp:=λvs H Q _=>∃n:Int,vs=[.int n]/\∀(p:Addr) (xs:List Int),H p=none->1<=xs.length->Q (.ref p) (upd H p (.lst (xs.map V.int)))
theorem FK(D:cV K mg "_law_pot" "_law_pot" qj ["_law_cell"])(T:Tx K mg C CN CR F FD):Def P w K mg base "_law_pot" 1 ["_law_cell"] JV:=by
 exists["_law_cell","_law_number","_law_pot_here","_law_k"];let(n,rfl,q):=h;have c:=hr.units;refine(_,(ai (aT (i:=1) sc rfl Sort (aR cE (aR cp (aR c8 (aq 0) aj) aj) aj))
  (ai (aT (i:=2) sc rfl Sort (bH (ag aj aa)))
  (ai (fc PassesOwn.never rfl (eI rfl T.fZ (ag aj aa)) (bg (i:=3) sc rfl Sort)
  (ai (aT (i:=1) sc rfl Sort (aR cp (aR cE (aR cE (aR mH (aq 1) (aq 1)) (aR mH aj (aq 1))) (aq 3)) aj))
  (ao (eP (aR cE (aR mH (ak c (aq 2) aj) aj) (aq 1)) (iu (aq 2) aj dH)))))
  (ai (aY (PW.pt (pw_and (aC (aZ c) (aR cp (aq 0) aj) aj (aI _)) (pw_and1 (aC (ig c) (aR c8 (aq 0) aj) aj (aI _))))) (ao (bR (dg pO rZ r6 cm (aq 2) (ag (aR c8 (aq 0) aj) aa)))) aJ)
  (ao (aH (aq 2))))))),?_)
 walk_at "r";have d:Dh n 2:=(∅,∅)
 refine gO d ∅ ?_;walk_at "r";refine(by show 1<=sizeLine;decide,λp e=>?_);have c:=abi (n/2) (b:=2147483629) ∅;have c:=abc (n/2) (b:=2147483629) ∅;refine(40,rfl,∅,∅,pW (n:=40) (λi σ H'=>∃(u a:Int) (z:Option V),0<=u/\u<2147483648/\σ=[some (.int n),some (.int u),some (.ref p),z]/\H'=upd H p (.lst [.int a])) ?_ ?_ ?_)
 ·exact(_,0,none,(),(),rfl,rfl)
 ·intro i σ H' o k;let(u,a,z,g,l,rfl,rfl):=k;walk_at "r";refine(.inl ((),()),?_);walk_at "r";refine gO (.inl ((),())) ∅ ?_;walk_at "r";refine bC af (aA (j:=0) rfl) ?_;walk_at "r";refine(.inr (∅,∅),?_);walk_at "r";refine dC _ 0 af rfl ?_;walk_at "r";have c:=abi (u*u+48271*u+(0+(i:Int))) (b:=2147483647) ∅;have k:=abc (u*u+48271*u+(0+(i:Int))) (b:=2147483647) ∅;exact(_,_,_,c,(),(rfl,rfl),yc)
 ·intro σ H' m;let(u,a,z,g,l,rfl,rfl):=m;walk_at "r";refine(∅,?_);walk_at "r";split
  ·calc(d,?_);walk_at "r";split
   ·refine gO (.inl (rfl,_,aV.of af)) d ?_;walk_at "r";refine gU _ af (aG nofun) ?_;walk_at "r";rw[yc];exact q p [a,n/2] e nofun
   ·walk_at "r";exact q p [a] e nofun
  ·walk_at "r";exact q p [a] e nofun
abbrev lC:Stmt:=top 68
def j1:Sp:=λvs H Q _=>∃(p:Addr) (m:Int),vs=[.ref p,.int m]/\gb H p/\0<m/\m.natAbs.log2<9000/\∀d H',0<=d->d<m->Step p H H'->Q (.int d) H'
theorem zP(D:cV K mg "_law_digit" "_law_digit" lC aK)(T:Tx K mg C CN CR F FD):Def P w K mg base "_law_digit" 1 aK j1:=by
 exists["_law_pot_here","_law_many","_law_digit_here"];let(p,m,rfl,k,g,r,q):=h;have j:=hr.units;refine(_,(ai (aT (i:=2) sc rfl Sort (aR cp (ak j (aq 0) (jT gn aj)) (aq 1)))
  (ai (eP (aR c8 (ak j (aq 0) (jT gn aj)) (aq 1)) (iu (aq 0) (jT gn aj) dH))
  (ai (aY (PW.pt (pw_and (aC (aZ j) (ak j (aq 0) (jT gn aj)) aj (aI _)) (pw_and1 (aC p7 (bf aO rfl T.bV X' (ag (aq 0) aa)) aj (aI _))))) (ao (bR (R1 pO PySem.F.slot_list_pop PySem.F.type_list_pop R4 (aq 0)))) aJ)
  (ao (aH (aq 2)))))),?_)
 nofun;let(l,c,t):=id k;obtain⟨ys,z,rfl⟩:∃ys z,l=ys++[z]:=(l.dropLast,l.getLast (by intro e;rw[e]at t;simp at t),(List.dropLast_concat_getLast _).symm)
 rw[aay]at c
 replace c:H p=some (.lst (ys.map V.int++[.int z])):=c
 ac_rfl;have d:Step p H H:=Step.refl k;walk_at "r";refine dC _ _ (.inl (aV.of c)) lA ?_;walk_at "r";refine(g,?_);walk_at "r";refine dC _ _ (.inl (aV.of c)) lA ?_;walk_at "r";refine((g,r),?_);walk_at "r";refine dC _ _ c zN ?_;rw[JS];refine dC _ _ (.inl (aV.of af)) lA ?_;have n:=abi z (b:=m) ();have o:=abc z g;have u:Step p H (upd H p (.lst (ys.map V.int++[.int (z/m)]))):=by
  have:=d.set (ys++[z/m]) nofun;rw[aay]at this;exact this
 walk_at "r";split
 ·calc bQ _ (.inl (_,aV.of af,rfl)) ?_;walk_at "r";split
  ·rename_i a;have a:1<=ys.length:=by
    simp at a;lia
   refine(.inl (rfl,_,aV.of af),?_);refine(p,_,.int (z/m),rfl,rfl,af,nofun,?_);walk_at "r";rw[List.dropLast_concat,yc];exact q _ _ n o (d.set ys a)
  ·walk_at "r";exact q _ _ n o u
 ·walk_at "r";exact q _ _ n o u
theorem B0:MQ 10 60:=(∅,∅,⋯)
theorem Tt:MQ 10 12:=(∅,∅,⋯)
theorem Tu:HE 2 (10^Int.toNat 60):=.inl (⋯,⋯)
theorem Yc:(0:Int)<2*10^Int.toNat 60-1:=by decide +kernel
theorem Yd:(2*10^Int.toNat 60-1:Int).natAbs.log2<9000:=by decide +kernel
theorem Tv:(0:Int)<10^Int.toNat 60:=by decide +kernel
theorem Tw:(10^Int.toNat 60:Int).natAbs.log2<9000:=by decide +kernel
theorem Ye:(0:Int)<10^Int.toNat 12-1:=by decide +kernel
theorem Tz:(10^Int.toNat 12-1:Int).natAbs.log2<9000:=by decide +kernel
theorem dig{m:Int}{E:XK}(a:gb H p)(b:0<m)(c:m.natAbs.log2<9000)(q:∀d H',0<=d->d<m->Step p H H'->Q (.int d) H'):j1 [.ref p,.int m] H Q E:=(p,m,rfl,a,b,c,q)
theorem Ob{H:Hp}{n:Nat}{x:V}{d:List DV}(h:HD H n x (.tup d)):∃k a xs,x=.ref a/\H a=some (.tup xs)/\xs.length=d.length/\∀(i:Nat) u e,xs[i]?=some u->d[i]?=some e->HD H k u e:=by
 cases h with
 |tup a b c=>calc(_,_,_,rfl,a,b,c)
abbrev nu:Stmt:=top 32
def JW:Sp:=λvs H Q _=>∃x m n d,vs=[x,.int m]/\HD H n x d/\∀H',av H H'->Q (.bl (Fq m d)) H'
theorem Oc{K:W.Frag}{H:Hp}{n:Nat}{x:V}{d:DV}(h:HD H n x d)(a:∀c,d≠.tup c):∃t,gS K H x t/\W.kitOne K t (.type "tuple")=some false:=by
 cases h with
 |bG=>calc(_,.bG,rfl)
 |bl b=>calc(_,.bl b,rfl)
 |int i=>calc(_,.int i,rfl)
 |str x=>calc(_,.str x,rfl)
 |tup e=>calc absurd rfl (a _)
 |lst e=>calc(_,.lst e,rfl)
 |dict e=>calc(_,.dK e,rfl)
theorem Od{K:W.Frag}{H:Hp}{n:Nat}{x:V}{d:DV}(h:HD H n x d)(a:∀s,d≠.str s):∃t,gS K H x t/\W.kitOne K t (.type "str")=some false:=by
 cases h with
 |bG=>calc(_,.bG,rfl)
 |bl b=>calc(_,.bl b,rfl)
 |int i=>calc(_,.int i,rfl)
 |str x=>calc absurd rfl (a _)
 |tup e=>calc(_,.tup e,rfl)
 |lst e=>calc(_,.lst e,rfl)
 |dict e=>calc(_,.dK e,rfl)
theorem Oe{m:Int}{d:DV}(b:∀a,d≠.tup a):Fq m d=false:=by
 cases d with
 |tup a=>calc absurd rfl (b a)
 |_=>rfl
theorem JX{m:Int}{d:DV}{r:List DV}(a:∀s,d≠.str s):Fq m (.tup (d::r))=false:=by
 cases d with
 |str s=>calc absurd rfl (a s)
 |_=>rfl
theorem B1(D:cV K mg "is_value" "is_value" nu bO)(T:Tx K mg C CN CR F FD)(X:Def P w K mg base "is_whole" 1 ["thing"] je)(Y:Def P w K mg base "is_within" 2 aP cf):Def P w K mg base "is_value" 3 bO JW:=by
 exists["thing","many","word"];let(x,m,n,d,rfl,I,q):=h;have k:=hr.units;refine(_,(ai (aY (PW.pt (pw_or (cC (bN (bf dI rfl T.bc vO (ag (aq 0) (ag (dy (v:=.ty "tuple") rfl T.cu iY rfl) aa))))) (pw_or (aC (aZ k) (bf aO rfl T.bV X' (ag (aq 0) aa)) aj (aI _)) (pw_or1 (cC (bN (bf dI rfl T.bc vO (ag (ak k (aq 0) aj) (ag (dy (v:=.ty "str") rfl T.zJ MH rfl) aa))))))))) (ao (aH kR)) aJ)
  (ai (aT (i:=2) sc rfl Sort (ak k (aq 0) aj))
  (ai (aY (aC Iw (aq 2) (bz (ag aD (ag aD (ag aD aa)))) (by with_unfolding_all rfl)) (ao (aH (i9 (aZ k) (bf aO rfl T.bV X' (ag (aq 0) aa)) aj (aI _)))) aJ)
  (ai (aY (aC (ig k) (bf aO rfl T.bV X' (ag (aq 0) aa)) aj (aI _)) (ao (aH kR)) aJ)
  (ai (aY (aC (aZ k) (aq 2) aD (aI _)) (ao (aH (aN X hr (ag (ak k (aq 0) aj) aa)))) aJ)
  (ao (aH (ip (i9 (aZ k) (aq 2) aD (aI _)) (gR (aN Y hr (ag (ak k (aq 0) aj) (ag aj (ag (aq 1) aa))))))))))))),?_)
 walk_at "rd";by_cases J:∀l,d≠.tup l
 ·let(t,r,N):=Oc (K:=K) I J;calc dC t false r N ?_;rw[Oe J]at q;exact q H (av.refl H)
 ·have:∃l,d=.tup l:=Classical.byContradiction λz=>J λl e=>z (l,e);nofun;let(l,rfl):=this;let(n,a,Z,rfl,G,O,U):=Ob I;calc hZ ?_;clear hZ gZ I J
  ·skip
   refine(.type "tuple",true,.tup G,rfl,?_);simp only[Bool.not_true,Bool.false_eq_true,if_false];refine bQ _ (.inr (_,bI.of G,rfl)) ?_;walk_at "r";rcases l with _|⟨R,b⟩<;>rcases Z with _|⟨x0,L⟩
   ·exact q H (av.refl H)
   ·cases O
   ·cases O
   ·skip
    rw[if_neg (by simp;lia)];calc dC _ _ (.inr (bI.of G)) (aA (j:=0) rfl) ?_;have W:=U 0 x0 R rfl rfl;by_cases k:∀s,R≠.str s
    ·let(t,r,N):=Od (K:=K) W k;calc dC t false r N ?_;rw[JX k]at q;exact q H (av.refl H)
    ·have:∃s,R=.str s:=Classical.byContradiction λz=>k λl e=>z (l,e);nofun;let(g,rfl):=this;obtain rfl:=W.cW;ac_rfl;refine(.type "str",true,.str _,rfl,?_);simp only[Bool.not_true,Bool.false_eq_true,if_false];refine dC _ _ (.inr (bI.of G)) (aA (j:=0) rfl) ?_;walk_at "r";refine(∅,λp k=>?_);have u:av H (upd H p (.tup [.str "letter",.str "way",.str "first"])):=av.new _ k;have o:=u _ _ G;refine Tb _ (.inr (bI.of af)) rfl rfl ?_;walk_at "r";have B:L.length=b.length:=by simpa using O
     by_cases M:CY (.str g) tR=true
     ·have S:Fq m (.tup (.str g::b))=decide (b.length=0):=by
       show(if CY (.str g) tR=true then decide (b.length=0) else _)=_;rw[if_pos M]
      rw[if_pos (show CY (.str g) [.str "letter",.str "way",.str "first"]=true from M)];refine bQ _ (.inr (_,bI.of o,rfl)) ?_;walk_at "r";have e:decide (((L.length+1:Nat):Int)=1)=decide (b.length=0):=by
       rw[B];by_cases z:b.length=0
       ·rw[aaL z,aaL ()]
       ·rw[aaM z,aaM ()]
      rw[S]at q;have c:=q _ u;rw[<-e]at c;exact c
     ·have S:Fq m (.tup (.str g::b))=NI g m b:=by
       show(if CY (.str g) tR=true then decide (b.length=0) else _)=_;rw[if_neg M]
      rw[if_neg (show ¬CY (.str g) [.str "letter",.str "way",.str "first"]=true from M)];refine bQ _ (.inr (_,bI.of o,rfl)) ?_;walk_at "r";rw[S]at q;rcases b with _|⟨z,_|⟨z',b⟩⟩<;>rcases L with _|⟨y,_|⟨k,L⟩⟩
      ·rw[if_pos nofun];exact q _ u
      ·cases B
      ·cases B
      ·cases B
      ·skip
       rw[if_neg nofun];have r:=(U 1 y z rfl rfl).same u;let(t,l):=XI r;by_cases b:g="is"
       ·rw[if_pos (by simpa using b)];calc(_,_,.inr (bI.of o),rfl,y,t,rfl,l,?_);have c:=q _ u;simp only[NI,if_pos b]at c;rw[SU r];exact c
       ·rw[if_neg (by simpa using b)];have c:=q _ u;simp only[NI,if_neg b] at c;by_cases k:g="number"
        ·rw[if_pos (by simpa using k)];calc(_,_,.inr (bI.of o),rfl,y,t,0,m,rfl,l,?_);rw[aaL k,Bool.true_and]at c;rw[SV r];exact c
        ·rw[if_neg (by simpa using k)];rw[aaM k,Bool.false_and]at c;exact c
      ·simp at B
      ·cases B
      ·simp at B
      ·rw[if_pos (by simp;lia)];calc q _ u
abbrev qk:Stmt:=top 25
def nv:Sp:=λvs H Q _=>∃(a:Addr) (xs:List V) (b c:Int),vs=[.ref a,.int b,.int c]/\(H a=some (.lst xs)\/H a=some (.tup xs))/\∀H',av H H'->Q (.bl (decide (b<=(xs.length:Int))&&decide ((xs.length:Int)<=c))) H'
theorem FL(D:cV K mg "is_list" "is_list" qk et)(T:Tx K mg C CN CR F FD):Def P w K mg base "is_list" 1 et nv:=by
 exists et;let(a,d,g,i,rfl,b,q):=h;have i:=hr.units;refine(_,(ao (aH (ip (bf dI rfl T.bc vO (ag (aq 0) (ag (bz (ag (dy (v:=.ty "list") rfl T.d9 kW rfl) (ag (dy (v:=.ty "tuple") rfl T.cu iY rfl) aa))) aa))) (gR (yQ BA BA (aq 1) (bf aO rfl T.bV X' (ag (aq 0) aa)) (aq 2)))))),?_);walk_at "r";refine(cP,λp i=>?_);have c:av H (upd H p (.tup [.ty "list",.ty "tuple"])):=av.new _ i;have e:∃t,gS K (upd H p (.tup [.ty "list",.ty "tuple"])) (.ref a) t/\W.kitAny K t [.type "list",.type "tuple"]=some true/\HG K (.ref a) (upd H p (.tup [.ty "list",.ty "tuple"])) d.length:=by
  rcases b with b|b
  ·exact(_,.lst (c _ _ b),rfl,.inl (_,aV.of (c _ _ b),rfl))
  ·exact(_,.tup (c _ _ b),rfl,.inr (_,bI.of (c _ _ b),rfl))
 let(t,i,j,k):=e;calc XT t true _ _ i af rfl j ?_;rw[if_pos rfl];calc bQ _ k ?_;have b:=q _ c;by_cases h:g<=(d.length:Int)
 ·rw[if_pos (by simpa using h)];rw[aaL h,Bool.true_and]at b;exact b
 ·rw[if_neg (by simpa using h)];rw[aaM h,Bool.false_and]at b;calc b
abbrev ql:Stmt:=top 38
def DK(K:W.Frag):Sp:=λvs H Q _=>∃d:bA,vs=[.str d.word]/\∀p,bI K H p (d.vi.map V.str)->Q (.ref p) H
theorem FN(D:cV K mg "form_of" "form_of" ql ["word"])(T:Tx K mg C CN CR F FD):Def P w K mg base "form_of" 1 ["word"] (DK K):=by
 exists["word"];let(d,rfl,q):=h;have a:=hr.units;calc(_,(ao (aH (Nx T.DJ rfl T.DI (ag (aq 0) aa)))),?_);let(p,a,b):=T.Qf d;show Q ((PyProof.Rows.KTD.datumAt d.word FD).getD .bG) H;rw[a];calc q p (b H)
abbrev qm:Stmt:=top 39
inductive kq(H:Hp)(m:Int):V->Str->Prop
 |value {n x v}:HT H n x (Val.dv v)->v.ok m->kq H m x "value"
 |number {i}:0<=i->i<m->kq H m (.int i) "number"
 |many {i}:1<=i->i<25->kq H m (.int i) "many"
 |way {i}:0<=i->kq H m (.int i) "way"
theorem kq.same{H H':Hp}{m:Int}{x:V}{w:Str}(s:av H H')(h:kq H m x w):kq H' m x w:=by
 cases h with
 |value a b=>calc .value (a.aM s.aU) b
 |number a b=>calc .number a b
 |many a b=>calc .many a b
 |way a=>calc .way a
def DM:Sp:=λvs H Q _=>∃x w m,vs=[x,.str w,.int m]/\kq H m x w/\∀H',av H H'->Q (.bl true) H'
theorem FO(D:cV K mg "is_part" "is_part" qm fN)(T:Tx K mg C CN CR F FD)(g:Def P w K mg base "is_value" 3 bO JW)(i:Def P w K mg base "is_whole" 1 ["thing"] je)(c:Def P w K mg base "is_within" 2 aP cf):Def P w K mg base "is_part" 4 fN DM:=by
 exists fN;let(x,w,m,rfl,d,q):=h;have b:=hr.units;refine(_,(ai (aY (aC (aZ b) (aq 1) aD (aI _)) (ao (aH (aN g hr (ag (aq 0) (ag (aq 2) aa))))) aJ)
  (ai (aY (aC (aZ b) (aq 1) aD (aI _)) (ao (aH (aN c hr (ag (aq 0) (ag aj (ag (aq 2) aa)))))) aJ)
  (ai (aY (aC (aZ b) (aq 1) aD (aI _)) (ao (aH (aN c hr (ag (aq 0) (ag aj (ag (aR cE (fU T.eA rfl) aj) aa)))))) aJ)
  (ao (aH (ip (aN i hr (ag (aq 0) aa)) (gR (i9 BB (aq 0) aj (aI _))))))))),?_)
 walk_at "r"
 cases d with
 | @value n x v a b=>
  rw[if_pos ⋯];calc fH x m n _ rfl a.hd (λH' s=>?_);rw[SW b];calc q H' s
 | @number i a b=>
  rw[if_neg ⋯,if_pos ⋯];calc fH (.int i) _ 0 m rfl (.int i) ?_;have e:inR 0 m (.int i)=true:=by simp[inR,a,b]
  rw[e];calc q H (av.refl H)
 | @many i a b=>
  rw[if_neg ⋯,if_neg ⋯,if_pos ⋯];calc fH (.int i) _ 1 _ rfl (.int i) ?_;have e:inR 1 (24+1) (.int i)=true:=by simp[inR,a];lia
  rw[e];calc q H (av.refl H)
 | @way i a=>
  rw[if_neg ⋯,if_neg ⋯,if_neg ⋯];refine(.int i,_,rfl,.int i,true,rfl,?_);rw[if_pos rfl];have e:decide ((0:Int)<=i)=true:=aaL a;walk_at "r";rw[e];exact q H (av.refl H)
abbrev qo:Stmt:=top 40
theorem adt{x:V}{a:List V}:dD (x::a) (some 1) none=a:=by
 unfold dD;have e:HT.eX (x::a).length 0 (some 1)=1:=by
  show(if (1:Int)<0 then((1:Int)+((x::a).length:Int)).toNat else min (1:Int).toNat (x::a).length)=1;rw[if_neg ∅];show min 1 (a.length+1)=1;lia
 rw[e];show List.take ((x::a).length-1) a=a;simp
theorem ur{H:Hp}{n:Nat}{x:V}{d:bA}{m:Int}(h:HT H n x d.dv)(f:d.ok m):∃a q,x=.ref a/\H a=some (.tup (.str d.word::q))/\q.length=d.vi.length/\∀(i:Nat) p s,q[i]?=some p->d.vi[i]?=some s->kq H m p s:=by
 cases d with
 |set i v=>
  nofun;let(a,u,y,z,k,rfl,e,g,l,o):=bZ h;obtain rfl:=g.cW;obtain rfl:=l.cN;ac_rfl;refine vm a _ rfl e rfl (λj p s b c=>?_)
  match j,b,c with
  |0,b,c=>cases b;cases c;calc .number f.1 f.2.1
  |1,b,c=>cases b;cases c;calc .value o f.2.2
 |add i v=>
  nofun;let(a,u,y,z,k,rfl,e,g,l,o):=bZ h;obtain rfl:=g.cW;obtain rfl:=l.cN;ac_rfl;refine vm a _ rfl e rfl (λj p s b c=>?_)
  match j,b,c with
  |0,b,c=>cases b;cases c;calc .number f.1 f.2.1
  |1,b,c=>cases b;cases c;calc .value o f.2.2
 |times i v=>
  nofun;let(a,u,y,z,k,rfl,e,g,l,o):=bZ h;obtain rfl:=g.cW;obtain rfl:=l.cN;ac_rfl;refine vm a _ rfl e rfl (λj p s b c=>?_)
  match j,b,c with
  |0,b,c=>cases b;cases c;calc .number f.1 f.2.1
  |1,b,c=>cases b;cases c;calc .value o f.2.2
 |put v=>
  nofun;let(a,u,y,k,rfl,e,g,l):=dZ h;obtain rfl:=g.cW;ac_rfl;refine vm a _ rfl e rfl (λj p s b c=>?_)
  match j,b,c with
  |0,b,c=>cases b;cases c;calc .value l f
 |drop=>
  nofun;let(a,u,k,rfl,e,g):=jk h;obtain rfl:=g.cW;ac_rfl;calc(a,_,rfl,e,rfl,λj p s b c=>by simp at b)
 |send j v=>
  nofun;let(a,u,y,z,k,rfl,e,g,l,o):=bZ h;obtain rfl:=g.cW;obtain rfl:=l.cN;ac_rfl;refine vm a _ rfl e rfl (λj p s b c=>?_)
  match j,b,c with
  |0,b,c=>cases b;cases c;calc .way f.1
  |1,b,c=>cases b;cases c;calc .value o f.2
 |say v=>
  nofun;let(a,u,y,k,rfl,e,g,l):=dZ h;obtain rfl:=g.cW;ac_rfl;refine vm a _ rfl e rfl (λj p s b c=>?_)
  match j,b,c with
  |0,b,c=>cases b;cases c;calc .value l f
 |skip v w i=>
  nofun;let(a,u,y,z,t,k,rfl,e,g,l,o,r):=o7 h;obtain rfl:=g.cW;obtain rfl:=r.cN;ac_rfl;refine vm a _ rfl e rfl (λj p s b c=>?_)
  match j,b,c with
  |0,b,c=>cases b;cases c;calc .value l f.1
  |1,b,c=>cases b;cases c;calc .value o f.2.1
  |2,b,c=>cases b;cases c;calc .many f.2.2.1 f.2.2.2
theorem B2:d.vi.length<=3:=by cases d<;>simp[bA.vi]
def wK:Sp:=λvs H Q _=>∃x m n d,vs=[x,.int m]/\HT H n x (bA.dv d)/\d.ok m/\∀H',av H H'->Q (.bl true) H'
theorem FQ(D:cV K mg "is_deed" "is_deed" qo bO)(T:Tx K mg C CN CR F FD)(W:Def P w K mg base "form_of" 1 ["word"] (DK K))(X:Def P w K mg base "is_part" 4 fN DM):Def P w K mg base "is_deed" 5 bO wK:=by
 exists["thing","many","form"];let(x,m,n,d,rfl,M,N,q):=h;have y:=hr.units;refine(_,(ai (aY (PW.pt (pw_or (cC (bN (bf dI rfl T.bc vO (ag (aq 0) (ag (dy (v:=.ty "tuple") rfl T.cu iY rfl) aa))))) (pw_or (aC (aZ y) (bf aO rfl T.bV X' (ag (aq 0) aa)) aj (aI _)) (pw_or1 (cC (bN (bf dI rfl T.bc vO (ag (ak y (aq 0) aj) (ag (dy (v:=.ty "str") rfl T.zJ MH rfl) aa))))))))) (ao (aH kR)) aJ)
  (ai (aT (i:=2) sc rfl Sort (aN W hr (ag (ak y (aq 0) aj) aa)))
  (ai (aY (PW.pt (pw_or (aC Iv (aq 2) k8 (aI _)) (pw_or1 (aC (ig y) (bf aO rfl T.bV X' (ag (aq 0) aa)) (aR cE (bf aO rfl T.bV X' (ag (aq 2) aa)) aj) (aI _))))) (ao (aH kR)) aJ)
  (ao (aH (bf (jX rfl) rfl T.wI He (ag (dR (N':=["part","sort","many"]) (ix:=[none,none,some 1]) (BL rfl T.DH (ag (xU (aq 0) (ja aj) sk) (ag (aq 2) aa))) (λ_ _ _ _=>(mI (K:=K) rfl (i:=0) (j:=1) rfl (show(["part","sort","many"]:List Str).Nodup by decide +kernel) rfl rfl Sort Sort)) pR (λ_ _ _ _=>(aN X hr (ag (aq 0) (ag (aq 1) (ag (aq 2) aa)))))) aa))))))),?_)
 let(a,k,rfl,l,o,Y):=ur M N;have y:=B2 (d:=d);walk_at "r";refine dC _ true (.tup l) rfl ?_;simp only[Bool.not_true,Bool.false_eq_true,if_false];refine bQ _ (.inr (_,bI.of l,rfl)) ?_;rw[if_neg (by simp;lia)];refine(_,.str d.word,.inr (bI.of l),aA (j:=0) rfl,_,true,.str _,rfl,?_);simp only[Bool.not_true,Bool.false_eq_true,if_false];refine(_,.str d.word,.inr (bI.of l),aA (j:=0) rfl,d,rfl,λp O=>?_);walk_at "r";rw[if_neg T'];refine(_,.inr (_,bI.of l,rfl),_,.inr (_,O,rfl),?_);rw[if_neg (by simp[o])];refine bT ?_;walk_at "r";refine .inr (_,l,λy H2 G r=>?_);rw[adt]at r;have g:=G.Vx O;refine fH false false _ _ (Sq.t r) g (λD R=>?_);refine bF (J:=Xp false false K y p) (n:=k.length) (λi ys H'=>ys=List.replicate i (V.bl true)/\av H2 H') (U' (aG ())) (rfl,av.new _ R) ?_ ?_ ?_ ?_
 ·rintro i ys H' I ⟨_,c⟩;exact(k,d.vi.map V.str,k[i],.str (d.vi[i]'()),Sq.t (c _ _ r),c.Vx g,cT I,by rw[J',cT ()];rfl)
 ·rintro ys H' ⟨_,c⟩;exact(k,d.vi.map V.str,Sq.t (c _ _ r),c.Vx g,.inl rfl)
 ·intro i ys H' I B S Z x H4 jm;nofun;let(rfl,c):=Z;let(T,hT,rfl,hy):=jm;let(u,v,e1,U,rfl):=hy k (d.vi.map V.str) (Sq.t (c _ _ r)) (c.Vx g);rw[J']at U;let(z,ez,rfl):=Option.map_eq_some_iff.mp U;ac_rfl;have L:av H' (upd H' T (.tup [u,.str z])):=av.new _ hT;refine wD (bI.of af) (Ext.set (Ext.set (Ext.refl _) rfl) rfl,?_);walk_at "r";rw[if_pos trivial];refine adh u z m rfl ((Y i u z e1 ez).same (G.trans (c.trans L))) (λl g=>?_);have n:l D=some (.lst (List.replicate i (V.bl true))):=g _ _ (L _ _ B);refine cD n S I (U' (aG ())) (jY _ _,λb o e=>?_);rw[ay (au e R)];exact g _ _ (L _ _ (c _ _ e))
 ·rintro ys H' B S ⟨rfl,c⟩;walk_at "r";rw[qa] at B;refine bQ _ (aV.of B) ?_;have e:(List.replicate k.length true).all id=true:=by simp
  rw[e];calc q _ (G.trans c)
abbrev jo:Stmt:=top 46
def LT(H:Hp)(a:Addr)(xs:List V):Prop:=H a=some (.lst xs)\/H a=some (.tup xs)
theorem LT.same{xs:List V}(s:av H H')(h:LT H a xs):LT H' a xs:=h.elim (λz=>.inl (s _ _ z)) (λz=>.inr (s _ _ z))
theorem j2{K:W.Frag}(h:LT H a ys)(q:∀p H',av H H'->H' p=some (.tup ys)->Q (.ref p) H'):xK K [.ref a] H Q:=by
 rcases h with h|h
 ·exact .inl (_,aV.of h,λl b=>q l _ (av.new _ b) af)
 ·calc .inr (_,bI.of h,q a H (av.refl H) h)
def uu:Sp:=λvs H Q _=>∃(a:Addr) (ns:List Int) (c b M:Int),vs=[.ref a,.int c,.int b,.int M]/\LT H a (ns.map V.int)/\c<=(ns.length:Int)/\(ns.length:Int)<=b/\b<=100/\(∀z∈ns,0<=z/\z<M)/\∀H',av H H'->Q (.bl true) H'
theorem vq(D:cV K mg "are_counted" "are_counted" jo d8)(T:Tx K mg C CN CR F FD)(L:Def P w K mg base "is_list" 1 et nv)(N:Def P w K mg base "is_within" 2 aP cf):Def P w K mg base "are_counted" 3 d8 uu:=by
 exists d8;let(a,ns,B,G,M,rfl,g,I,m,v,y,q):=h;have v:=hr.units;refine(_,(ao (aH (ip (aN L hr (ag (aq 0) (ag (aq 1) (ag (aq 2) aa)))) (gR (bf (jX rfl) rfl T.wI He (ag (dR (N':=["thing","modulus"]) (ix:=[none,some 3]) (cj (pv 0)) (λ_ _ _ _=>(bg (i:=0) (show(["thing","modulus"]:List Str).Nodup by decide +kernel) rfl Sort)) pR (λ_ _ _ _=>(aN N hr (ag (aq 0) (ag aj (ag (aq 1) aa)))))) aa)))))),?_);walk_at "r";refine fH a _ B G rfl g (λH1 k=>?_);rw[aau,aaL I,aaL m];show ∃c,V.bl true=.bl c/\_;refine bQ true rfl ?_;rw[if_pos rfl];refine bT ?_;walk_at "r";rcases g with g | g
 ·calc .inl ((_,aV.of (k _ _ g)),λD p=>?_);refine bF (J:=yP K a) (n:=ns.length) (λi ys H'=>ys=List.replicate i (V.bl true)/\av H1 H') (U' (aG ())) (rfl,av.new _ p) ?_ ?_ ?_ ?_
  ·rintro i ys H' j ⟨_,d⟩;exact(_,.int ns[i],aV.of (d _ _ (k _ _ g)),by rw[J',cT j];rfl)
  ·rintro ys H' ⟨_,d⟩;exact(_,aV.of (d _ _ (k _ _ g)),nofun)
  ·intro i ys H' j l r O x R S;nofun;let(rfl,d):=O;let(rfl,z):=S;have t:=z _ (aV.of (d _ _ (k _ _ g)));rw[J',cT j] at t;obtain rfl:=Option.some.inj t;ac_rfl;refine(Ext.set (Ext.refl _) rfl,?_);walk_at "r";rw[if_pos trivial];refine fH (.int ns[i]) _ 0 M rfl (.int _) ?_;have u:=y ns[i] (aaV j);have e:inR 0 M (.int ns[i])=true:=by simp[inR,u.1,u.2]
   rw[e];calc cD l r j (U' (aG ())) (jY _ _,λb o e=>?_);rw[ay (au e p)];exact d _ _ e
  ·rintro ys H' l r ⟨rfl,d⟩;walk_at "r";rw[qa] at l;refine bQ _ (aV.of l) ?_;have e:(List.replicate ns.length true).all id=true:=by simp
   rw[e];exact q _ (k.trans d)
 ·calc .inr ((_,bI.of (k _ _ g)),λD p=>?_);refine bF (J:=WG K a) (n:=ns.length) (λi ys H'=>ys=List.replicate i (V.bl true)/\av H1 H') (U' (aG ())) (rfl,av.new _ p) ?_ ?_ ?_ ?_
  ·rintro i ys H' j ⟨_,d⟩;exact(_,.int ns[i],bI.of (d _ _ (k _ _ g)),by rw[J',cT j];rfl)
  ·rintro ys H' ⟨_,d⟩;exact(_,bI.of (d _ _ (k _ _ g)),nofun)
  ·intro i ys H' j l r U x R W;nofun;let(rfl,d):=U;let(rfl,z):=W;have t:=z _ (bI.of (d _ _ (k _ _ g)));rw[J',cT j] at t;obtain rfl:=Option.some.inj t;ac_rfl;refine(Ext.set (Ext.refl _) rfl,?_);walk_at "r";rw[if_pos trivial];refine fH (.int ns[i]) _ 0 M rfl (.int _) ?_;have u:=y ns[i] (aaV j);have e:inR 0 M (.int ns[i])=true:=by simp[inR,u.1,u.2]
   rw[e];calc cD l r j (U' (aG ())) (jY _ _,λb o e=>?_);rw[ay (au e p)];exact d _ _ e
  ·rintro ys H' l r ⟨rfl,d⟩;walk_at "r";rw[qa] at l;refine bQ _ (aV.of l) ?_;have e:(List.replicate ns.length true).all id=true:=by simp
   rw[e];calc q _ (k.trans d)
abbrev gr:Stmt:=top 47
def DN:Sp:=λvs H Q _=>∃(M:Int) (a b ad:Addr) (ns row:List Int) (xs:List V),vs=[.int M,.ref a,.ref b,.ref ad]/\2<=M/\M<=1000000000000/\LT H a (ns.map V.int)/\LT H b (row.map V.int)/\LT H ad xs/\1<=ns.length/\ns.length<=4/\row.length<=12/\(∀z∈ns,0<=z/\z<M)/\(∀z∈row,0<=z/\z<M)/\∀H',av H H'->Q .bG H'
theorem qu(D:cV K mg "refuse_machine" "refuse_machine" gr ef)(T:Tx K mg C CN CR F FD)(b:Def P w K mg base "are_counted" 3 d8 uu)(r:Def P w K mg base "is_within" 2 aP cf):Def P w K mg base "refuse_machine" 4 ef DN:=by
 exists ef;let(M,c,d,ad,ns,row,u,rfl,g,x,i,j,k,y,z,B,l,m,q):=h;have u:=hr.units;refine(_,(ai (aY (cC (bN (aN r hr (ag (aq 0) (ag aj (ag (aR cE (fU T.dN rfl) aj) aa)))))) (ao dz) aJ)
  (ai (aY (cC (bN (aN b hr (ag (aq 1) (ag aj (ag (fU T.dO rfl) (ag (aq 0) aa))))))) (ao dz) aJ)
  (ai (aY (cC (bN (aN b hr (ag (aq 2) (ag aj (ag (fU T.fI rfl) (ag (aq 0) aa))))))) (ao dz) aJ)
  (ao (aY (cC (bN (bf dI rfl T.bc vO (ag (aq 3) (ag (bz (ag (dy (v:=.ty "list") rfl T.d9 kW rfl) (ag (dy (v:=.ty "tuple") rfl T.cu iY rfl) aa))) aa))))) (ao dz) aJ))))),?_)
 walk_at "r";refine fH (.int M) _ 2 _ rfl (.int M) ?_;have e:inR 2 (1000000000000+1) (.int M)=true:=by simp[inR,g];lia
 rw[e];walk_at "r";rw[if_neg ∅];refine XU c ns 1 4 M rfl i () () ∅ l (λH1 a=>?_);walk_at "r";rw[if_neg ∅];refine XU d row 0 12 M rfl (j.same a) () () ∅ m (λH2 n=>?_);walk_at "r";rw[if_neg ∅];refine(cP,λp b=>?_);have o:av H2 (upd H2 p (.tup [.ty "list",.ty "tuple"])):=av.new _ b;have G:∃t,gS K (upd H2 p (.tup [.ty "list",.ty "tuple"])) (.ref ad) t/\W.kitAny K t [.type "list",.type "tuple"]=some true:=by
  rcases k.same (a.trans (n.trans o)) with z|z
  ·exact(_,.lst z,rfl)
  ·exact(_,.tup z,rfl)
 let(t,I,J):=G;refine XT t true _ _ I af rfl J ?_;walk_at "r";rw[if_neg ∅];exact q _ (a.trans (n.trans o))
abbrev iC:Stmt:=top 48
def DL(H:Hp)(n:Nat)(xs:List V)(a:List bA):Prop:=xs.length=a.length/\∀(i:Nat) x d,xs[i]?=some x->a[i]?=some d->HT H n x (bA.dv d)
theorem DL.aM{n:Nat}{xs:List V}{a:List bA}(s:cw H H')(h:DL H n xs a):DL H' n xs a:=(h.1,λi x d a b=>(h.2 i x d a b).aM s)
theorem DL.ht{n:Nat}{xs:List V}{b:List bA}(h:DL H n xs b)(e:H a=some (.tup xs)):HT H (n+1) (.ref a) (.tup (b.map bA.dv)):=by
 calc .tup e (by rw[aau];calc h.1) λi u d f c=>?_;rw[J']at c;let(dd,g,rfl):=Option.map_eq_some_iff.mp c;calc h.2 i u dd f g
def DO:Sp:=λvs H Q _=>∃(a:Addr) (xs:List V) (b:List bA) (m:Int) (n:Nat),vs=[.ref a,.int m]/\LT H a xs/\DL H n xs b/\b.length<=24/\(∀d∈b,d.ok m)/\∀H',av H H'->Q .bG H'
theorem uv(D:cV K mg "refuse_deeds" "refuse_deeds" iC ["deeds","many"])(T:Tx K mg C CN CR F FD)(B:Def P w K mg base "is_deed" 5 bO wK):Def P w K mg base "refuse_deeds" 6 ["deeds","many"] DO:=by
 exists["deeds","many","at","deed"];let(a,c,e,m,n,rfl,d,g,G,u,q):=h;have G:=hr.units;refine(_,(ao (fc PassesOwn.never rfl (kb rfl T.dS (ag (aq 0) aa)) (fu (i:=2) (j:=3) rfl sc rfl rfl Sort Sort)
  (ao (aY (PW.pt (pw_or (aC (aZ G) (aq 2) (fU T.eA rfl) (aI _)) (pw_or1 (cC (bN (aN B hr (ag (aq 3) (ag (aq 1) aa)))))))) (ao dz) aJ)))),?_)
 rcases d with d|d
 ·calc Jw true c (Sq.l d) ?_;refine lx (xs:=c) (λi σ H'=>av H H'/\∃k o,σ=[some (.ref a),some (.int m),k,o]) (av.refl H,none,none,rfl) (λi σ H' (b,_)=>Sq.l (b _ _ d)) ?_ ?_
  ·intro i x σ H1 T p I v;let(b,k,o,rfl):=I;have y:i < c.length:=(List.getElem?_eq_some_iff.mp p).1;have i3:i < e.length:=by rw[<-g.1];exact y
   have r:av H1 (upd H1 T (.tup [.int i,x])):=av.new _ v;refine wD (bI.of af) ?_;walk_at "r";rw[if_neg (by simp;lia)];refine(x,m,n,e[i],rfl,(g.2 i x e[i] p (cT i3)).aM (b.trans r).aU,u _ (aaV i3),λJ z=>?_);walk_at "r"
   first|rw[if_neg ∅]|skip
   exact(b.trans (r.trans z),_,_,rfl,rfl)
  ·rintro σ H1 ⟨b,_⟩;exact q _ b
 ·calc Jw false c (Sq.t d) ?_;refine lx (xs:=c) (λi σ H'=>av H H'/\∃k o,σ=[some (.ref a),some (.int m),k,o]) (av.refl H,none,none,rfl) (λi σ H' (b,_)=>Sq.t (b _ _ d)) ?_ ?_
  ·intro i x σ H1 T p L v;let(b,k,o,rfl):=L;have y:i < c.length:=(List.getElem?_eq_some_iff.mp p).1;have i3:i < e.length:=by rw[<-g.1];exact y
   have r:av H1 (upd H1 T (.tup [.int i,x])):=av.new _ v;refine wD (bI.of af) ?_;walk_at "r";rw[if_neg (by simp;lia)];refine(x,m,n,e[i],rfl,(g.2 i x e[i] p (cT i3)).aM (b.trans r).aU,u _ (aaV i3),λJ z=>?_);walk_at "r"
   first|rw[if_neg ∅]|skip
   exact(b.trans (r.trans z),_,_,rfl,rfl)
  ·rintro σ H1 ⟨b,_⟩;calc q _ b
noncomputable abbrev qx:Stmt:=(cn (top 52)).getD 0 (.Pass (0,0,0,0))
noncomputable def Mi(M:Int)(st dd:V):List (Str×V):=bP "own_deeds" dd (bP "own_state" st (bP "own_modulus" (.int M) []))
theorem Yf{M:Int}:(Mi M st dd).lookup ("own_modulus":Str)=some (.int M):=by
 unfold Mi;rw[bx,if_neg ⋯,bx,if_neg ⋯,bx,if_pos rfl]
theorem adv{M:Int}:(Mi M st dd).lookup ("own_state":Str)=some st:=by
 unfold Mi;rw[bx,if_neg ⋯,bx,if_pos rfl]
theorem Yg{M:Int}:(Mi M st dd).lookup ("own_deeds":Str)=some dd:=by
 unfold Mi;rw[bx,if_pos rfl]
theorem DP{M:Int}(a:f≠"own_modulus")(b:f≠"own_state")(c:f≠"own_deeds"):(Mi M st dd).lookup f=none:=by
 unfold Mi;rw[bx,if_neg c,bx,if_neg b,bx,if_neg a];rfl
theorem jq{v:V}{a:List (Str×V)}{n:Nat}(h:a.length<n):(bP f v a).length<n+1:=by
 have:=lg f v a;lia
def iD(C:Addr)(H:Hp)(m:Addr)(M:Int)(ns row:List Int)(a:List bA):Prop:=∃b st dd,H m=some (.ins C b (Mi M st dd))/\HT H 2 st (zm ns row)/\HT H 4 dd (.tup (a.map bA.dv))
theorem iD.same{C:Addr}{M:Int}{a:List bA}(s:av H H')(h:iD C H m M ns row a):iD C H' m M ns row a:=by
 let(a,st,dd,b,c,d):=h;calc(a,st,dd,s _ _ b,c.aM s.aU,d.aM s.aU)
def DQ(C:Addr):Sp:=λvs H Q _=>∃(x f:Addr) (M:Int) (c e ad:Addr) (ns row:List Int) (xs:List V) (a:List bA) (n:Nat),vs=[.ref x,.int M,.ref c,.ref e,.ref ad]/\H x=some (.ins C f [])/\2<=M/\M<=1000000000000/\LT H c (ns.map V.int)/\LT H e (row.map V.int)/\LT H ad xs/\1<=ns.length/\ns.length<=4/\row.length<=12/\
 (∀z∈ns,0<=z/\z<M)/\(∀z∈row,0<=z/\z<M)/\DL H n xs a/\n<=3/\a.length<=24/\(∀d∈a,d.ok ns.length)/\∀H',iD C H' x M ns row a->(∀b o,b≠x->H b=some o->H' b=some o)->Q .bG H'
theorem FU(D:Fm K mg "Machine" C "Machine.__init__" qx c6)(T:Tx K mg C CN CR F FD)(iE:Def P w K mg base "refuse_deeds" 6 ["deeds","many"] DO)(gs:Def P w K mg base "refuse_machine" 4 ef DN):xV P w K mg base "Machine" C 7 c6 (DQ C):=by
 exists c6;let(x,a,M,N,ar,ad,ns,row,u,ds,n,rfl,v,FT,qv,y,O,l,JY,Qg,pB,hb,TC,R,m,Qh,aW,q):=h;have m:=hr.units;refine(_,(ai (bR (aN gs hr (ag (aq 1) (ag (aq 2) (ag (aq 3) (ag (aq 4) aa))))))
  (ai (bR (aN iE hr (ag (aq 4) (ag (bf aO rfl T.bV X' (ag (aq 2) aa)) aa))))
  (ai (fS (aq 0) (aq 1) (gG rfl))
  (ai (fS (aq 0) (bz (ag (c9 ck rfl T.cu iY (ag (aq 2) aa)) (ag (c9 ck rfl T.cu iY (ag (aq 3) aa)) aa))) (gG rfl))
  (ao (fS (aq 0) (c9 ck rfl T.cu iY (ag (aq 4) aa)) (gG rfl))))))),?_)
 try walk_at "rt"
 refine(M,N,ar,ad,ns,row,u,rfl,FT,qv,y,O,l,JY,Qg,pB,hb,TC,λH1 B=>?_)
 try walk_at "rt"
 have m:HG K (.ref N) H1 (ns.map V.int).length:=(y.same B).elim (λz=>.inl (_,aV.of z,rfl)) (λz=>.inr (_,bI.of z,rfl));calc bQ _ m ?_;calc adk ad u ds _ n rfl (l.same B) (R.aM B.aU) Qh (by rw[aau];calc aW) (λH2 N=>?_);have Mj:=B.trans N
 try walk_at "rt"
 have m:=Mj _ _ v;calc(x,C,a,[],rfl,m,T.cQ,T.Qd,∅,?_);have p:∀{b:Addr} {ys:List V},LT H b ys->b≠x:=λh z=>by
  subst z;rcases h with h|h<;>(rw[v]at h;cases h)
 have S:∀b o,b≠x->H b=some o->upd H2 x (.ins C a (bP "own_modulus" (.int M) [])) b=some o:=λb o d e=>by rw[ay d];exact Mj _ _ e
 have r:∀{b:Addr} {ys:List V},LT H b ys->LT (upd H2 x (.ins C a (bP "own_modulus" (.int M) []))) b ys:=λh=>by
  have g:=p h;exact h.elim (λz=>.inl (S _ _ g z)) (λz=>.inr (S _ _ g z))
 have t:upd H2 x (.ins C a (bP "own_modulus" (.int M) [])) x=some (.ins C a (bP "own_modulus" (.int M) [])):=af;generalize TF:upd H2 x (.ins C a (bP "own_modulus" (.int M) []))=G2 at *
 try walk_at "rt"
 refine j2 (r y) λI m s3 zQ=>?_
 try walk_at "rt"
 refine j2 ((r O).same s3) λJ U s4 rB=>?_
 try walk_at "rt"
 calc(cP,λc m=>?_);have W:=av.new (.tup [.ref I,.ref J]) m;have i:=s3.trans (s4.trans W)
 try walk_at "rt"
 calc Fz x C a _ rfl (i _ _ t) T.cQ T.Ts (jq (n:=999) ∅) ?_;have X:HT (upd U c (.tup [.ref I,.ref J])) 2 (.ref c) (zm ns row):=di af (oW (W _ _ (s4 _ _ zQ))) (oW (W _ _ rB));have Y:=i _ _ t;have L:∀b o,b≠x->H b=some o->upd U c (.tup [.ref I,.ref J]) b=some o:=λb o d e=>i _ _ (S b o d e);generalize hG:upd U c (.tup [.ref I,.ref J])=G at *;have tG:cw H G:=λb ys e=>L b _ (λz=>by subst z;rw[v]at e;cases e) e;have t6:cw G (upd G x (.ins C a (bP "own_state" (.ref c) (bP "own_modulus" (.int M) [])))):=(cw.refl G).upd λys e=>by rw[Y]at e;cases e
 have e6:LT (upd G x (.ins C a (bP "own_state" (.ref c) (bP "own_modulus" (.int M) [])))) ad u:=by
  have g:=p l;exact l.elim (λz=>.inl (by rw[ay g];calc L _ _ g z)) (λz=>.inr (by rw[ay g];calc L _ _ g z))
 have n6:∀b o,b≠x->H b=some o->upd G x (.ins C a (bP "own_state" (.ref c) (bP "own_modulus" (.int M) []))) b=some o:=λb o d e=>by rw[ay d];exact L b o d e
 have j:upd G x (.ins C a (bP "own_state" (.ref c) (bP "own_modulus" (.int M) []))) x=some (.ins C a (bP "own_state" (.ref c) (bP "own_modulus" (.int M) []))):=af;generalize hG6:upd G x (.ins C a (bP "own_state" (.ref c) (bP "own_modulus" (.int M) [])))=G6 at *
 try walk_at "rt"
 refine j2 e6 λZ H7 k B5=>?_
 try walk_at "rt"
 calc Fz x C a _ rfl (k _ _ j) T.cQ T.Qe (jq (n:=999) (jq (n:=998) ∅)) ?_;have ne4:Z≠x:=λz=>by subst z;rw[k _ _ j]at B5;cases B5
 have t8:cw H7 (upd H7 x (.ins C a (Mi M (.ref c) (.ref Z)))):=(cw.refl _).upd λys e=>by rw[k _ _ j]at e;cases e
 refine q _ (a,.ref c,.ref Z,af,(X.aM t6).aM (k.aU.trans t8),?_) λb o d e=>?_
 ·calc HT.mono (n:=n+1) ?_ ();calc DL.ht (R.aM (tG.trans (t6.trans (k.aU.trans t8)))) ?_;rw[ay ne4];exact B5
 ·rw[ay d];calc k _ _ (n6 b o d e)
noncomputable abbrev eS:Stmt:=(cn (top 52)).getD 2 (.Pass (0,0,0,0))
def JZ(C:Addr):Sp:=λvs H Q _=>∃(m:Addr) (M:Int) (ns row:List Int) (a:List bA),vs=[.ref m]/\iD C H m M ns row a/\∀st,HT H 2 st (zm ns row)->Q st H
theorem kX(D:ic K C "first_state" "Machine.first_state" eS bY)(T:Tx K mg C CN CR F FD):cy P w K mg base C "first_state" 1 bY (JZ C):=by
 exists bY;let(m,M,ns,row,d,rfl,(a,st,dd,b,c,e),q):=h;have d:=hr.units;calc(_,(ao (aH (bL (aq 0) rfl))),?_);calc(m,C,a,_,_,rfl,b,T.cQ,T.Ts,adv,q _ c)
theorem Yh{H:Hp}{n:Nat}{x:V}{b:List bA}(h:HT H (n+1) x (.tup (b.map bA.dv))):∃a xs,x=.ref a/\H a=some (.tup xs)/\DL H n xs b:=by
 cases h with
 | @tup _ a xs _ e l i=>
  calc(a,xs,rfl,e,by simpa using l,λj x d b c=>i j x _ b ?_);rw[J',c];rfl
def gJ(H:Hp)(n:Nat)(ys:List V)(es:List DV):Prop:=ys.length=es.length/\∀(i:Nat) y e,ys[i]?=some y->es[i]?=some e->HT H n y e
theorem gJ.nil{n:Nat}:gJ H n [] []:=(rfl,λi y e h=>by simp at h)
theorem gJ.aM{n:Nat}{es:List DV}(h:gJ H n ys es)(t:cw H H'):gJ H' n ys es:=(h.1,λi y e a b=>(h.2 i y e a b).aM t)
theorem gJ.snoc{H:Hp}{n:Nat}{ys:List V}{es:List DV}{y:V}{e:DV}(h:gJ H n ys es)(g:HT H n y e):gJ H n (ys++[y]) (es++[e]):=by
 calc(by simp[h.1],λi c f a b=>?_);by_cases c:i<ys.length
 ·rw[aaf c]at a;rw[aaf (by rw[<-h.1];calc c)]at b;exact h.2 i _ _ a b
 ·rw[Y' ()] at a;rw[Y' (by rw[<-h.1];lia),<-h.1] at b
  cases d:i-ys.length with
  |zero=>rw[d]at a b;cases a;cases b;calc g
  |succ k=>rw[d]at a;simp at a
theorem gJ.dl{n:Nat}{xs:List V}{a:List bA}(h:gJ H n xs (a.map bA.dv)):DL H n xs a:=(by simpa using h.1,λi x d a b=>h.2 i x _ a (by rw[J',b];rfl))
abbrev uw:Stmt:=top 58
abbrev VC(C:Addr)(H:Hp)(m:Addr)(d:MD):Prop:=iD C H m d.M d.ns d.row d.ds
noncomputable def mQ(w:Int×Int×Str):DV:=.tup [.int w.1,.int w.2.1,.str w.2.2]
noncomputable def pC(l:Int×Int):DV:=.tup [.int l.1,.int l.2]
def wL(m:Int)(w:Int×Int×Str):Prop:=0<=w.1/\w.1<m/\0<=w.2.1/\w.2.1<m/\(w.2.2="row"\/w.2.2="heap")
def wM(m:Int)(l:Int×Int):Prop:=0<=l.1/\l.1<m/\1-1000000000000000000000000000000000000000000000000000000000000<=l.2/\l.2<1000000000000000000000000000000000000000000000000000000000000
def zR:Sp:=λvs H Q _=>∃(x:V) (n:Nat) (a b:Int) (c:Str) (m:Int),vs=[x,.int m]/\HT H n x (mQ ((a),b,c))/\wL m ((a),b,c)/\∀H',av H H'->Q (.bl true) H'
theorem J0(D:cV K mg "is_way" "is_way" uw bO)(T:Tx K mg C CN CR F FD)(l:Def P w K mg base "is_within" 2 aP cf):Def P w K mg base "is_way" 3 bO zR:=by
 exists bO;let(x,n,c,d,g,m,rfl,o,r,q):=h;have i:=hr.units;refine(_,(ai (aY (PW.pt (pw_or (cC (bN (bf dI rfl T.bc vO (ag (aq 0) (ag (dy (v:=.ty "tuple") rfl T.cu iY rfl) aa))))) (pw_or (aC (ig i) (bf aO rfl T.bV X' (ag (aq 0) aa)) aj (aI _)) (pw_or1 (cC (bN (bf dI rfl T.bc vO (ag (ak i (aq 0) aj) (ag (dy (v:=.ty "str") rfl T.zJ MH rfl) aa))))))))) (ao (aH kR)) aJ)
  (ao (aH (ip (aN l hr (ag (ak i (aq 0) aj) (ag aj (ag (aq 1) aa)))) (ip (aN l hr (ag (ak i (aq 0) aj) (ag aj (ag (aq 1) aa)))) (gR (i9 Iw (ak i (aq 0) aj) (bz (ag aD (ag aD aa))) (by with_unfolding_all rfl)))))))),?_)
 nofun;let(a,M,N,O,k,rfl,b,t,u,y):=bZ o;obtain rfl:=t.cN;obtain rfl:=u.cN;obtain rfl:=y.cW
 replace b:H a=some (.tup [.int c,.int d,.str g]):=b
 obtain⟨z,B,G,I,J⟩:0<=c/\c<m/\0<=d/\d<m/\(g="row"\/g="heap"):=r;ac_rfl;walk_at "j";refine dC _ true (.tup b) rfl ?_;simp only[Bool.not_true,Bool.false_eq_true,if_false];refine bQ _ (.inr (_,bI.of b,rfl)) ?_;rw[if_neg nofun];refine(_,_,.inr (bI.of b),aA (j:=2) rfl,_,true,.str _,rfl,?_);simp only[Bool.not_true,Bool.false_eq_true,if_false];walk_at "j";refine dC _ _ (.inr (bI.of b)) (aA (j:=0) rfl) ?_;refine fH (.int c) _ 0 m rfl (.int c) ?_;rw[show inR 0 m (.int c)=true by simp[inR,z,B]];walk_at "j";rw[if_pos trivial];refine dC _ _ (.inr (bI.of b)) (aA (j:=1) rfl) ?_;refine fH (.int d) _ 0 m rfl (.int d) ?_;rw[show inR 0 m (.int d)=true by simp[inR,G,I]];walk_at "j";rw[if_pos trivial];refine vm _ _ (.inr (bI.of b)) (aA (j:=2) rfl) cP (λp L=>?_);refine Tb _ (.inr (bI.of af)) rfl rfl ?_;have e:CY (.str g) [.str "row",.str "heap"]=true:=by
  rcases J with rfl|rfl<;>decide +kernel
 rw[e];calc q _ (av.new _ L)
abbrev lD:Stmt:=top 59
def zS:Sp:=λvs H Q _=>∃(x:V) (n:Nat) (a b:Int) (m:Int),vs=[x,.int m]/\HT H n x (pC ((a),b))/\wM m ((a),b)/\Q (.bl true) H
theorem zT(D:cV K mg "is_letter" "is_letter" lD bO)(T:Tx K mg C CN CR F FD)(g:Def P w K mg base "is_within" 2 aP cf):Def P w K mg base "is_letter" 3 bO zS:=by
 exists bO;let(x,n,b,c,m,rfl,i,l,q):=h;have e:=hr.units;refine(_,(ai (aY (PW.pt (pw_or (cC (bN (bf dI rfl T.bc vO (ag (aq 0) (ag (dy (v:=.ty "tuple") rfl T.cu iY rfl) aa))))) (pw_or1 (aC (ig e) (bf aO rfl T.bV X' (ag (aq 0) aa)) aj (aI _))))) (ao (aH kR)) aJ)
  (ao (aH (ip (aN g hr (ag (ak e (aq 0) aj) (ag aj (ag (aq 1) aa)))) (gR (aN g hr (ag (ak e (aq 0) aj) (ag (aR dX aj (fU T.eB rfl)) (ag (fU T.eB rfl) aa))))))))),?_)
 nofun;let(a,z,B,k,rfl,d,o,p):=dZ i;obtain rfl:=o.cN;obtain rfl:=p.cN
 replace d:H a=some (.tup [.int b,.int c]):=d
 obtain⟨r,t,u,y⟩:0<=b/\b<m/\1-1000000000000000000000000000000000000000000000000000000000000<=c/\c<1000000000000000000000000000000000000000000000000000000000000:=l;ac_rfl;walk_at "j";refine dC _ true (.tup d) rfl ?_;simp only[Bool.not_true,Bool.false_eq_true,if_false];refine bQ _ (.inr (_,bI.of d,rfl)) ?_;rw[if_neg nofun];walk_at "j";refine dC _ _ (.inr (bI.of d)) (aA (j:=0) rfl) ?_;refine fH (.int b) _ 0 m rfl (.int b) ?_;rw[show inR 0 m (.int b)=true by simp[inR,r,t]];walk_at "j";rw[if_pos trivial];refine dC _ _ (.inr (bI.of d)) (aA (j:=1) rfl) ?_;refine fH (.int c) _ _ _ rfl (.int c) ?_;rw[show inR (1-1000000000000000000000000000000000000000000000000000000000000) 1000000000000000000000000000000000000000000000000000000000000 (.int c)=true by simp only[inR,decide_eq_true u,decide_eq_true y,Bool.and_self]];exact q
abbrev kr:Stmt:=top 60
def DR(C:Addr):Sp:=λvs H Q _=>∃(a b c:Addr) (ms:List Addr) (wv lv:List V) (ws:List (Int×Int×Str)) (ls:List (Int×Int)),vs=[.ref a,.ref b,.ref c]/\H a=some (.lst (ms.map V.ref))/\H b=some (.lst wv)/\H c=some (.lst lv)/\1<=ms.length/\ms.length<=5/\wv.length<=10/\lv.length<=20/\(∀m∈ms,∃d e,H m=some (.ins C d e))/\gJ H 1 wv (ws.map mQ)/\gJ H 1 lv (ls.map pC)/\(∀w∈ws,wL ms.length w)/\(∀l∈ls,wM wv.length l)/\∀H',av H H'->Q .bG H'
theorem ye(D:cV K mg "refuse_net" "refuse_net" kr eD)(T:Tx K mg C CN CR F FD)(lE:Def P w K mg base "is_letter" 3 bO zS)(O:Def P w K mg base "is_list" 1 et nv)(ux:Def P w K mg base "is_way" 3 bO zR):Def P w K mg base "refuse_net" 4 eD (DR C):=by
 exists eD;let(R,S,U,ms,wv,lv,ws,ls,rfl,I,W,GX,FW,Mm,rO,rP,Yi,X,Y,Og,tm,q):=h;have hu:=hr.units;refine(_,(ai (aY (PW.pt (pw_or (cC (bN (aN O hr (ag (aq 0) (ag aj (ag (fU T.dj rfl) aa)))))) (pw_or1 (cC (bN (bf (jX rfl) rfl T.wI He (ag (dR (N':=["one"]) (ix:=[none]) (cj (pv 0)) (λ_ _ _ _=>(bg (i:=0) (show(["one"]:List Str).Nodup by decide +kernel) rfl Sort)) pR (λ_ _ _ _=>(bf (Js (K:=K) rfl) rfl T.bc vO (ag (aq 0) (ag (cH (v:=.ref C) rfl T.wJ rfl) aa))))) aa))))))) (ao dz) aJ)
  (ai (aY (PW.pt (pw_or (cC (bN (aN O hr (ag (aq 1) (ag aj (ag (fU T.fM rfl) aa)))))) (pw_or1 (cC (bN (bf (jX rfl) rfl T.wI He (ag (dR (N':=["way","machines"]) (ix:=[none,some 0]) (cj (pv 1)) (λ_ _ _ _=>(bg (i:=0) (show(["way","machines"]:List Str).Nodup by decide +kernel) rfl Sort)) pR (λ_ _ _ _=>(aN ux hr (ag (aq 0) (ag (bf (tL (K:=K) rfl) rfl T.bV X' (ag (aq 1) aa)) aa))))) aa))))))) (ao dz) aJ)
  (ao (aY (PW.pt (pw_or (cC (bN (aN O hr (ag (aq 2) (ag aj (ag (fU T.dP rfl) aa)))))) (pw_or1 (cC (bN (bf (jX rfl) rfl T.wI He (ag (dR (N':=["letter","ways"]) (ix:=[none,some 1]) (cj (pv 2)) (λ_ _ _ _=>(bg (i:=0) (show(["letter","ways"]:List Str).Nodup by decide +kernel) rfl Sort)) pR (λ_ _ _ _=>(aN lE hr (ag (aq 0) (ag (bf (tL (K:=K) rfl) rfl T.bV X' (ag (aq 1) aa)) aa))))) aa))))))) (ao dz) aJ)))),?_)
 have O:(ms.map V.ref).length<=5:=by simpa using Mm
 walk_at "j";refine fH R _ 1 _ rfl (.inl I) (λH1 Z=>?_);rw[show(decide ((1:Int)<=((ms.map V.ref).length:Int))&&decide (((ms.map V.ref).length:Int)<=5))=true by simp;lia];walk_at "j"
 try simp only[Bool.not_true,Bool.false_eq_true,if_false]
 have L:=Z _ _ I;refine bT ?_;walk_at "j";refine .inl ((_,aV.of L),λD r=>?_);refine bF (J:=yP K R) (n:=(ms.map V.ref).length) (λi a H'=>a=List.replicate i (V.bl true)/\av H1 H') (U' (aG ())) (rfl,av.new _ r) ?_ ?_ ?_ ?_
 ·rintro i a H' d ⟨_,l⟩;exact(_,(ms.map V.ref)[i],aV.of (l _ _ L),cT d)
 ·rintro a H' ⟨_,l⟩;exact(_,aV.of (l _ _ L),S' _)
 ·intro i a H' d c g jl x p jm;nofun;let(rfl,l):=jl;let(rfl,z):=jm;ac_rfl;have B:=z _ (aV.of (l _ _ L));calc(Ext.set (Ext.refl _) rfl,?_);walk_at "j";rw[if_pos trivial];have hxm:∃m,x=.ref m/\m∈ms:=by
   have:=aaT B;let(m,hm,rfl):=List.mem_map.mp this;exact(m,rfl,hm)
  nofun;let(m,rfl,L):=hxm;let(R,fs,O):=Yi m L;ac_rfl;calc Td _ C _ true rfl (.ins (l _ _ (Z _ _ O)) T.cQ T.FI T.eR T.cB T.FJ) T.i_k ?_;have t:=av.refl p;calc cD (t _ _ c) g d (U' (aG ())) (jY _ _,λb o e=>?_);rw[ay (au e r)];exact t _ _ (l _ _ e)
 rintro a H2 c g ⟨rfl,l⟩;walk_at "j";rw[qa]at c;refine bQ _ (aV.of c) ?_;have e:(List.replicate (ms.map V.ref).length true).all id=true:=by simp
 rw[e];clear e c g;walk_at "j"
 try simp only[Bool.not_true,Bool.false_eq_true,if_false]
 have Mj:=Z.trans l;have Yj:=Mj _ _ W;walk_at "j";refine fH S _ 0 _ rfl (.inl Yj) (λH3 s3=>?_);rw[show(decide ((0:Int)<=(wv.length:Int))&&decide ((wv.length:Int)<=10))=true by simp;lia];walk_at "j"
 try simp only[Bool.not_true,Bool.false_eq_true,if_false]
 have M:=s3 _ _ Yj;have u:=Mj.trans s3;refine bT ?_;walk_at "j";refine .inl ((_,aV.of M),λD r=>?_);refine bF (J:=yP K S) (n:=wv.length) (λi a H'=>a=List.replicate i (V.bl true)/\av H3 H') (U' (aG ())) (rfl,av.new _ r) ?_ ?_ ?_ ?_
 ·rintro i a H' d ⟨_,j⟩;exact(_,wv[i],aV.of (j _ _ M),cT d)
 ·rintro a H' ⟨_,j⟩;exact(_,aV.of (j _ _ M),S' _)
 ·intro i a H' d c g qt x p yd;nofun;let(rfl,j):=qt;let(rfl,z):=yd;ac_rfl;have B:=z _ (aV.of (j _ _ M));calc(Ext.set (Ext.refl _) rfl,?_);walk_at "j";rw[if_pos trivial];have l:i < ws.length:=by have:=X.1;rw[aau] at this;lia
  have hw:=(X.2 i x (mQ ws[i]) B (by rw[J',cT l];rfl)).aM (u.trans j).aU;calc bQ _ (.inl (_,aV.of (j _ _ (u _ _ I)),rfl)) ?_;refine(x,1,ws[i].1,ws[i].2.1,ws[i].2.2,_,rfl,hw,?_,λL t=>?_)
  ·have:=Og ws[i] (aaV l);simpa[wL] using this
  calc cD (t _ _ c) g d (U' (aG ())) (jY _ _,λb o e=>?_);rw[ay (au e r)];exact t _ _ (j _ _ e)
 rintro a H4 c g ⟨rfl,j⟩;walk_at "j";rw[qa]at c;refine bQ _ (aV.of c) ?_;have e:(List.replicate wv.length true).all id=true:=by simp
 rw[e];clear e c g;walk_at "j"
 try simp only[Bool.not_true,Bool.false_eq_true,if_false]
 have G:=u.trans j;have Yk:=G _ _ GX;walk_at "j";refine fH U _ 0 _ rfl (.inl Yk) (λH5 s5=>?_);rw[show(decide ((0:Int)<=(lv.length:Int))&&decide ((lv.length:Int)<=20))=true by simp;lia];walk_at "j"
 try simp only[Bool.not_true,Bool.false_eq_true,if_false]
 have N:=s5 _ _ Yk;have y:=G.trans s5;refine bT ?_;walk_at "j";refine .inl ((_,aV.of N),λD r=>?_);refine bF (J:=yP K U) (n:=lv.length) (λi a H'=>a=List.replicate i (V.bl true)/\av H5 H') (U' (aG ())) (rfl,av.new _ r) ?_ ?_ ?_ ?_
 ·rintro i a H' d ⟨_,k⟩;exact(_,lv[i],aV.of (k _ _ N),cT d)
 ·rintro a H' ⟨_,k⟩;exact(_,aV.of (k _ _ N),S' _)
 ·intro i a H' d c g B3 x p B4;nofun;let(rfl,k):=B3;let(rfl,z):=B4;ac_rfl;have B:=z _ (aV.of (k _ _ N));calc(Ext.set (Ext.refl _) rfl,?_);walk_at "j";rw[if_pos trivial];have j:i < ls.length:=by have:=Y.1;rw[aau] at this;lia
  have hw:=(Y.2 i x (pC ls[i]) B (by rw[J',cT j];rfl)).aM (y.trans k).aU;calc bQ _ (.inl (_,aV.of (k _ _ (y _ _ W)),rfl)) ?_;refine(x,1,ls[i].1,ls[i].2,_,rfl,hw,?_,?_)
  ·have:=tm ls[i] (aaV j);simpa[wM] using this
  have t:=av.refl p;calc cD (t _ _ c) g d (U' (aG ())) (jY _ _,λb o e=>?_);rw[ay (au e r)];exact t _ _ (k _ _ e)
 rintro a H6 c g ⟨rfl,k⟩;walk_at "j";rw[qa]at c;refine bQ _ (aV.of c) ?_;have e:(List.replicate lv.length true).all id=true:=by simp
 rw[e];clear e c g;walk_at "j"
 try simp only[Bool.not_true,Bool.false_eq_true,if_false]
 calc q _ (y.trans k)
abbrev lG:Stmt:=top 69
def zU:Sp:=λvs H Q _=>∃p m,vs=[.ref p,.int m]/\gb H p/\0<m/\m<=4/\∀x v H',Step p H H'->HT H' 1 x (Val.dv v)->v.ok m->Q x H'
theorem zV(D:cV K mg "_law_value" "_law_value" lG aK)(T:Tx K mg C CN CR F FD)(u:Def P w K mg base "_law_digit" 1 aK j1):Def P w K mg base "_law_value" 2 aK zU:=by
 exists["_law_pot_here","_law_many","_law_kind"];let(p,m,rfl,G,I,J,q):=h;have L:=hr.units;refine(_,(ai (aT (i:=2) sc rfl Sort (aN u hr (ag (aq 0) (ag aj aa))))
  (ai (aY (aC gT (aq 2) aj (aI _)) (ao (aH (bz (ag aD (ag (ak L (bH (ag (aR dX (aN u hr (ag (aq 0) (ag aj aa))) aj) (ag (aR dX (aN u hr (ag (aq 0) (ag (aR dX (aR mH aj (aR oO aj aj)) aj) aa))) (aR dX (aR oO aj aj) aj)) aa))) (aq 2)) aa))))) aJ)
  (ai (aY (aC gT (aq 2) aj (aI _)) (ao (aH (bz (ag aD (ag (aN u hr (ag (aq 0) (ag (aq 1) aa))) aa))))) aJ)
  (ao (aH (ak L (bH (ag (bz (ag aD aa)) (ag (bz (ag aD aa)) (ag (bz (ag aD aa)) (ag (bz (ag aD aa)) aa))))) (aR dX (aq 2) aj))))))),?_)
 walk_at "r";refine nj p 8 rfl G ⋯ ⋯ (λd H1 h1 h2 st=>?_);walk_at "r";split
 ·rename_i j;have j:d < 2:=by simpa using j
  refine nj p 9 rfl st.gH ⋯ ⋯ (λR H2 M J k=>?_);walk_at "r";refine(B0,Tu,dig k.gH Yc Yd λd2 H3 h5 h6 N=>?_);walk_at "r";refine gO B0 ∅ (λl c=>?_);have y:d=0\/d=1:=by lia
  rcases y with rfl|rfl
  ·exact(_,_,.inl (aV.of af),rfl,∅,λt n=>q _ (.is _) _ ((((st.trans k).trans N).new c).new n) (di af (.str _) (.int _)) trivial)
  ·exact(_,_,.inl (aV.of af),rfl,∅,λt n=>q _ (.is _) _ ((((st.trans k).trans N).new c).new n) (di af (.str _) (.int _)) trivial)
 ·rename_i j;have j:¬d < 2:=by simpa using j
  split
  ·refine(p,m,rfl,st.gH,I,?_,λR H2 M z k=>?_)
   ·have:m=1\/m=2\/m=3\/m=4:=by lia
    rcases this with rfl|rfl|rfl|rfl<;>decide +kernel
   walk_at "r";exact(∅,λt n=>q _ (.number _) _ ((st.trans k).new n) (di af (.str _) (.int _)) (M,z))
  ·rename_i r;have r:¬d < 4:=by simpa using r
   calc(∅,λa S=>(∅,λb O=>(∅,λe B=>(∅,λg v=>(∅,λl c=>?_)))));have x:=((((st.new S (o:=.tup [.str "letter"])).new O (o:=.tup [.str "letter"])).new B (o:=.tup [.str "way"])).new v (o:=.tup [.str "first"])).new c (o:=.lst [.ref a,.ref b,.ref e,.ref g]);have y:d=4\/d=5\/d=6\/d=7:=by lia
   have U:=(av.new (H:=upd H1 a (.tup [.str "letter"])) (.tup [.str "letter"]) O) a _ af;have W:=(av.new (.tup [.str "way"]) B) _ _ U;have X:=(av.new (.tup [.str "first"]) v) _ _ W;have Y:=(av.new (.lst [.ref a,.ref b,.ref e,.ref g]) c) _ _ X;have Z:=(av.new (H:=upd (upd H1 a (.tup [.str "letter"])) b (.tup [.str "letter"])) (.tup [.str "way"]) B) b _ af;have k3:=(av.new (.tup [.str "first"]) v) _ _ Z;have k4:=(av.new (.lst [.ref a,.ref b,.ref e,.ref g]) c) _ _ k3;have l3:=(av.new (H:=upd (upd (upd H1 a (.tup [.str "letter"])) b (.tup [.str "letter"])) e (.tup [.str "way"])) (.tup [.str "first"]) v) e _ af;have l4:=(av.new (.lst [.ref a,.ref b,.ref e,.ref g]) c) _ _ l3;have m4:=(av.new (H:=upd (upd (upd (upd H1 a (.tup [.str "letter"])) b (.tup [.str "letter"])) e (.tup [.str "way"])) g (.tup [.str "first"])) (.lst [.ref a,.ref b,.ref e,.ref g]) c) g _ af;rcases y with rfl|rfl|rfl|rfl
   ·exact(_,_,.inl (aV.of af),rfl,q _ .nh _ x (tU Y (.str _)) trivial)
   ·exact(_,_,.inl (aV.of af),rfl,q _ .nh _ x (tU k4 (.str _)) trivial)
   ·exact(_,_,.inl (aV.of af),rfl,q _ .way _ x (tU l4 (.str _)) trivial)
   ·calc(_,_,.inl (aV.of af),rfl,q _ .first _ x (tU m4 (.str _)) trivial)
theorem adC{d:Int}(a:0<=d)(h:d<10):d=0\/d=1\/d=2\/d=3\/d=4\/d=5\/d=6\/d=7\/d=8\/d=9:=by
 have:∀n:Fin 10,((n.1:Nat):Int)=0\/((n.1:Nat):Int)=1\/((n.1:Nat):Int)=2\/((n.1:Nat):Int)=3\/((n.1:Nat):Int)=4\/((n.1:Nat):Int)=5\/((n.1:Nat):Int)=6\/((n.1:Nat):Int)=7\/((n.1:Nat):Int)=8\/((n.1:Nat):Int)=9:=by decide
 rw[<-abv a];calc this (d.toNat,())
abbrev nH:Stmt:=top 70
theorem TH{H:Hp}{n:Nat}{a:Addr}{u v w z:V}{d d' f g:DV}(e:H a=some (.tup [u,v,w,z]))(h:HT H n u d)(h':HT H n v d')(j:HT H n w f)(k:HT H n z g):HT H (n+1) (.ref a) (.tup [d,d',f,g]):=by
 refine .tup e rfl λi x y b c=>?_
 match i,b,c with
 |0,b,c=>simp at b c;subst b c;calc h
 |1,b,c=>simp at b c;subst b c;calc h'
 |2,b,c=>simp at b c;subst b c;calc j
 |3,b,c=>simp at b c;subst b c;calc k
def zW:Sp:=λvs H Q _=>∃p m,vs=[.ref p,.int m]/\gb H p/\0<m/\m<=4/\∀x d H',Step p H H'->HT H' 2 x (bA.dv d)->d.ok m->Q x H'
theorem B6(D:cV K mg "_law_deed" "_law_deed" nH aK)(T:Tx K mg C CN CR F FD)(M:Def P w K mg base "_law_digit" 1 aK j1)(I:Def P w K mg base "_law_value" 2 aK zU):Def P w K mg base "_law_deed" 3 aK zW:=by
 exists["_law_pot_here","_law_many","_law_kind"];let(p,m,rfl,W,k,u,q):=h;have N:=hr.units;refine(_,(ai (aT (i:=2) sc rfl Sort (aN M hr (ag (aq 0) (ag aj aa))))
  (ai (aY (aC gT (aq 2) aj (aI _)) (ao (aH (bz (ag (ak N (bH (ag aD (ag aD (ag aD aa)))) (aq 2)) (ag (aN M hr (ag (aq 0) (ag (aq 1) aa))) (ag (aN I hr (ag (aq 0) (ag (aq 1) aa))) aa)))))) aJ)
  (ai (aY (aC gT (aq 2) aj (aI _)) (ao (aH (bz (ag aD (ag (aN M hr (ag (aq 0) (ag aj aa))) (ag (aN I hr (ag (aq 0) (ag (aq 1) aa))) aa)))))) aJ)
  (ai (aY (aC (aZ N) (aq 2) aj (aI _)) (ao (aH (bz (ag aD (ag (aN I hr (ag (aq 0) (ag (aq 1) aa))) aa))))) aJ)
  (ai (aY (aC (aZ N) (aq 2) aj (aI _)) (ao (aH (bz (ag aD (ag (aN I hr (ag (aq 0) (ag (aq 1) aa))) aa))))) aJ)
  (ai (aY (aC (aZ N) (aq 2) aj (aI _)) (ao (aH (bz (ag aD aa)))) aJ)
  (ao (aH (bz (ag aD (ag (aN I hr (ag (aq 0) (ag (aq 1) aa))) (ag (aN I hr (ag (aq 0) (ag (aq 1) aa))) (ag (aR cE aj (aN M hr (ag (aq 0) (ag aj aa)))) aa))))))))))))),?_)
 walk_at "r";refine nj p 10 rfl W ⋯ ⋯ (λd H1 I M st=>?_);have O:m.natAbs.log2<9000:=by
  have:m=1\/m=2\/m=3\/m=4:=by lia
  rcases this with rfl|rfl|rfl|rfl<;>decide +kernel
 have Z:d=0\/d=1\/d=2\/d=3\/d=4\/d=5\/d=6\/d=7\/d=8\/d=9:=adC (by assumption) (by assumption);rcases Z with rfl|rfl|rfl|rfl|rfl|rfl|rfl|rfl|rfl|rfl
 ·walk_at "go";refine(∅,λl J=>?_);have B:=st.new (o:=.lst [.str "set",.str "add",.str "times"]) J;refine bC af rfl ?_;refine dig B.gH k O λe L r y x=>?_;have b:=B.trans x;walk_at "go";refine nj p m rfl b.gH k u (λz v G c g j=>?_);walk_at "go";exact(∅,λt a=>q _ (.set e v) _ ((b.trans c).new a) (ni af (.str _) (.int _) (g.aM (av.new _ a).aU)) (r,y,j))
 ·walk_at "go";refine(∅,λl J=>?_);have B:=st.new (o:=.lst [.str "set",.str "add",.str "times"]) J;refine bC af rfl ?_;refine dig B.gH k O λe L r y x=>?_;have b:=B.trans x;walk_at "go";refine nj p m rfl b.gH k u (λz v G c g j=>?_);walk_at "go";exact(∅,λt a=>q _ (.add e v) _ ((b.trans c).new a) (ni af (.str _) (.int _) (g.aM (av.new _ a).aU)) (r,y,j))
 ·walk_at "go";refine(∅,λl J=>?_);have B:=st.new (o:=.lst [.str "set",.str "add",.str "times"]) J;refine bC af rfl ?_;refine dig B.gH k O λe L r y x=>?_;have b:=B.trans x;walk_at "go";refine nj p m rfl b.gH k u (λz v G c g j=>?_);walk_at "go";exact(∅,λt a=>q _ (.times e v) _ ((b.trans c).new a) (ni af (.str _) (.int _) (g.aM (av.new _ a).aU)) (r,y,j))
 ·walk_at "go";refine dig st.gH ∅ ⋯ λe L r y x=>?_;have b:=st.trans x;walk_at "r";refine nj p m rfl b.gH k u (λz v G c g j=>?_);walk_at "r";exact(∅,λt a=>q _ (.send e v) _ ((b.trans c).new a) (ni af (.str _) (.int _) (g.aM (av.new _ a).aU)) (r,j))
 ·walk_at "go";refine dig st.gH ∅ ⋯ λe L r y x=>?_;have b:=st.trans x;walk_at "r";refine nj p m rfl b.gH k u (λz v G c g j=>?_);walk_at "r";exact(∅,λt a=>q _ (.send e v) _ ((b.trans c).new a) (ni af (.str _) (.int _) (g.aM (av.new _ a).aU)) (r,j))
 ·walk_at "go";refine dig st.gH ∅ ⋯ λe L r y x=>?_;have b:=st.trans x;walk_at "r";refine nj p m rfl b.gH k u (λz v G c g j=>?_);walk_at "r";exact(∅,λt a=>q _ (.send e v) _ ((b.trans c).new a) (ni af (.str _) (.int _) (g.aM (av.new _ a).aU)) (r,j))
 ·walk_at "go";refine nj p m rfl st.gH k u (λz v G c g j=>?_);walk_at "go";exact(∅,λt a=>q _ (.say v) _ ((st.trans c).new a) (di af (.str _) (g.aM (av.new _ a).aU)) j)
 ·walk_at "go";refine nj p m rfl st.gH k u (λz v G c g j=>?_);walk_at "go";exact(∅,λt a=>q _ (.put v) _ ((st.trans c).new a) (di af (.str _) (g.aM (av.new _ a).aU)) j)
 ·walk_at "go";exact(∅,λt a=>q _ .drop _ (st.new a) (tU (n:=1) af (.str _)) trivial)
 ·walk_at "go";refine nj p m rfl st.gH k u (λz v G c g j=>?_);walk_at "go";have R:=st.trans c;refine nj p m rfl R.gH k u (λvy v2 b X S Yl=>?_);have U:=R.trans X;walk_at "go";refine dig U.gH ∅ ⋯ λe b r y Y=>?_;walk_at "go";refine(∅,λt a=>q _ (.skip v v2 (1+e)) _ ((U.trans Y).new a) ?_ (j,Yl,(),()));have b:=(Y.aU U.gH).trans (av.new (.tup [.str "skip",z,vy,.int (1+e)]) a).aU;exact TH af (.str _) (g.aM ((X.aU R.gH).trans b)) (S.aM b) (.int _)
abbrev ju:Stmt:=top 71
theorem Step.free{p b:Addr}{H H':Hp}(st:Step p H H')(h:H' b=none):H b=none:=by
 cases e:H b with
 |none=>rfl
 |some o=>
  by_cases a:b=p
  ·subst a;let(x,c,_):=st.gH;rw[h]at c;cases c
  ·rw[st.rest b o e a]at h;cases h
theorem zX{m:Int}(a:0<m)(h:m<=1000000000000):m.natAbs.log2<9000:=(Nat.log2_lt ()).mpr (aby (show m.natAbs<=1000000000000 by lia) ⋯)
noncomputable def mods(d:Int):List V:=[.int 2,.int 3,.int 7,.int 10,.int 97,.int (2+d)]
theorem Oj{d k:Int}(b:0<=d)(a:d<10^Int.toNat 12-1)(c:0<=k)(f:k<6):∃z:Int,iZ (mods d) k=some (.int z)/\2<=z/\z<=1000000000000:=by
 have e:(10:Int)^Int.toNat 12=1000000000000:=by decide +kernel
 rw[e]at a;have:k=0\/k=1\/k=2\/k=3\/k=4\/k=5:=by lia
 rcases this with rfl|rfl|rfl|rfl|rfl|rfl
 ·exact(_,aA (j:=0) rfl,∅,∅)
 ·exact(_,aA (j:=1) rfl,∅,∅)
 ·exact(_,aA (j:=2) rfl,∅,∅)
 ·exact(_,aA (j:=3) rfl,∅,∅)
 ·exact(_,aA (j:=4) rfl,∅,∅)
 ·calc(_,aA (j:=5) rfl,(),())
def zY:Sp:=λvs H Q _=>∃p,vs=[.ref p]/\gb H p/\∀t a b c xs M ns row d H',Step p H H'->H' t=some (.tup [.int M,.ref a,.ref b,.ref c])->H' a=some (.lst (ns.map V.int))->H' b=some (.lst (row.map V.int))->H' c=some (.lst xs)->gJ H' 2 xs (d.map bA.dv)->H a=none->H b=none->H c=none->Good M ns row d->Q (.ref t) H'
theorem vv(D:cV K mg "_law_machine" "_law_machine" ju ["_law_pot_here"])(T:Tx K mg C CN CR F FD)(nI:Def P w K mg base "_law_deed" 3 aK zW)(j:Def P w K mg base "_law_digit" 1 aK j1):Def P w K mg base "_law_machine" 4 ["_law_pot_here"] zY:=by
 exists["_law_pot_here","_law_modulus","_law_many","_law_numbers","_law_row","_law_deeds"];let(p,rfl,k,q):=h;have l:=hr.units;refine(_,(ai (aT (i:=1) sc rfl Sort (ak l (bH (ag aj (ag aj (ag aj (ag aj (ag aj (ag (aR cE aj (aN j hr (ag (aq 0) (ag (aR dX (aR oO aj aj) aj) aa)))) aa))))))) (aN j hr (ag (aq 0) (ag aj aa)))))
  (ai (aT (i:=2) sc rfl Sort (aR cE aj (aN j hr (ag (aq 0) (ag aj aa)))))
  (ai (gL (i:=3) sc rfl Sort (N':=eh) (ix:=[none,some 0,some 1]) (eI rfl T.fZ (ag (aq 2) aa)) (λ_ _ _ _=>(bg (i:=0) (show(eh:List Str).Nodup by decide +kernel) rfl Sort)) pR (λ_ _ _ _=>(aN j hr (ag (aq 1) (ag (aq 2) aa)))))
  (ai (gL (i:=4) sc rfl Sort (N':=eh) (ix:=[none,some 0,some 1]) (eI rfl T.fZ (ag (aN j hr (ag (aq 0) (ag aj aa))) aa)) (λ_ _ _ _=>(bg (i:=0) (show(eh:List Str).Nodup by decide +kernel) rfl Sort)) pR (λ_ _ _ _=>(aN j hr (ag (aq 1) (ag (aq 2) aa)))))
  (ai (gL (i:=5) sc rfl Sort (N':=["_law_k","_law_pot_here","_law_many"]) (ix:=[none,some 0,some 2]) (eI rfl T.fZ (ag (aN j hr (ag (aq 0) (ag aj aa))) aa)) (λ_ _ _ _=>(bg (i:=0) (show(["_law_k","_law_pot_here","_law_many"]:List Str).Nodup by decide +kernel) rfl Sort)) pR (λ_ _ _ _=>(aN nI hr (ag (aq 1) (ag (aq 2) aa)))))
  (ao (aH (bz (ag (aq 1) (ag (aq 3) (ag (aq 4) (ag (aq 5) aa)))))))))))),?_)
 walk_at "r";refine(Tt,?_);refine dig k Ye Tz λd0 H1 TL h11 Yb=>?_;walk_at "r";refine(∅,λl t=>?_);have j:=Yb.new (o:=.lst (mods d0)) t;have hlp:l≠p:=Step.ne Yb.gH t;refine dig j.gH ∅ ⋯ λk H3 hk0 hk1 c=>?_;have Ym:=j.trans c;let(M,eM,FT,qv):=Oj TL h11 hk0 hk1;walk_at "r";refine bC (c.rest _ _ af hlp) eM ?_;walk_at "r";refine dig Ym.gH ∅ ⋯ λm H4 j k sD=>?_;have N:=Ym.trans sD;walk_at "r";refine bT ?_;walk_at "r";refine gO () () (λD O=>?_);have y:D≠p:=Step.ne N.gH O;refine bF (J:=EO 0 (1+m).toNat) (n:=(1+m).toNat) (λi ys H'=>∃ns:List Int,ys=ns.map V.int/\ns.length=i/\Step p H4 H'/\(∀z∈ns,0<=z/\z<M)) (U' (aG ())) ([],rfl,rfl,(Step.refl N.gH).new O,λz r=>by simp at r) (λi ys H' a _=>a) (λys H' _=>S' _) ?_ ?_
 ·intro i ys H' a B t jl x H2 jm;nofun;let(ns,rfl,G,st,hb):=jl;let(rfl,rfl):=jm;ac_rfl;refine(Ext.set (Ext.refl _) rfl,?_);walk_at "r";rw[if_pos trivial];refine dig st.gH () (zX () qv) λd H3 h3 h4 c=>?_;refine cD (c.rest _ _ B y) t a (U' (aG ())) (ns++[d],nofun,by simp[G],?_,λz r=>?_)
  ·exact(c.gH.upd (Ne.symm y),λb o e ne=>by rw[ay (au e O)];calc c.rest _ _ (st.rest _ _ e ne) ne)
  ·rcases List.mem_append.mp r with g | g
   ·exact hb z g
   ·simp at g;subst g;exact(h3,h4)
 intro ys H5 en hl5 qt;let(ns,rfl,G,mU,Mo):=qt;have fD:H D=none:=N.free O;have Yn:=N.trans mU;refine bT ?_;walk_at "r";refine dig Yn.gH ∅ ⋯ λm6 H6 j k Qi=>?_;have R:=Yn.trans Qi;have en6:=Qi.rest _ _ en y;walk_at "r";refine gO () () (λS U=>?_);have W:S≠p:=Step.ne R.gH U;refine bF (J:=EO 0 m6.toNat) (n:=m6.toNat) (λi ys H'=>∃ns:List Int,ys=ns.map V.int/\ns.length=i/\Step p H6 H'/\(∀z∈ns,0<=z/\z<M)) (U' (aG ())) ([],rfl,rfl,(Step.refl R.gH).new U,λz r=>by simp at r) (λi ys H' a _=>a) (λys H' _=>S' _) ?_ ?_
 ·intro i ys H' a B t yd x H2 B3;nofun;let(ns,rfl,G,st,hb):=yd;let(rfl,rfl):=B3;ac_rfl;refine(Ext.set (Ext.refl _) rfl,?_);walk_at "r";rw[if_pos trivial];refine dig st.gH () (zX () qv) λd H3 h3 h4 c=>?_;refine cD (c.rest _ _ B W) t a (U' (aG ())) (ns++[d],nofun,by simp[G],?_,λz r=>?_)
  ·exact(c.gH.upd (Ne.symm W),λb o e ne=>by rw[ay (au e U)];calc c.rest _ _ (st.rest _ _ e ne) ne)
  ·rcases List.mem_append.mp r with g | g
   ·exact hb z g
   ·simp at g;subst g;exact(h3,h4)
 intro ys H7 er hl7 B4;let(row,rfl,c,TK,TC):=B4;have Yo:H S=none:=R.free U;have Yp:=R.trans TK;have en7:=TK.rest _ _ en6 y;refine bT ?_;walk_at "r";refine dig Yp.gH ∅ ⋯ λm8 H8 c g Mp=>?_;have X:=Yp.trans Mp;have en8:=Mp.rest _ _ en7 y;have er8:=Mp.rest _ _ er W;walk_at "r";refine gO () () (λI Y=>?_);have Yq:I≠p:=Step.ne X.gH Y;have Yr:H I=none:=X.free Y;refine bF (J:=EO 0 m8.toNat) (n:=m8.toNat) (λi ys H'=>∃u:List bA,gJ H' 2 ys (u.map bA.dv)/\u.length=i/\(∀Z∈u,Z.ok (1+m))/\Step p H8 H') (U' (aG ())) ([],gJ.nil,rfl,λZ sQ=>by simp at sQ,(Step.refl X.gH).new Y) (λi ys H' a _=>a) (λys H' _=>S' _) ?_ ?_
 ·intro i ys H' a B wN Ot x H9 TM;nofun;let(u,vt,L,TN,v):=Ot;let(rfl,rfl):=TM;ac_rfl;refine(Ext.set (Ext.refl _) rfl,?_);walk_at "r";rw[if_pos trivial];refine(p,1 + m,rfl,v.gH,(),(),λg dd c Ou Qj Ys=>?_);have Yt:=Ou.rest _ _ B Yq;have t10:cw c (upd c I (.lst (ys++[g]))):=(cw.refl _).upd λc e=>by rw[Yt] at e;cases e
  refine cD Yt wN a (U' (aG ())) (u++[dd],?_,by simp[L],?_,?_)
  ·rw[aay];exact((vt.aM (Ou.aU v.gH)).snoc Qj).aM t10
  ·intro Z sQ;rcases List.mem_append.mp sQ with z | z
   ·exact TN Z z
   ·simp at z;subst z;exact Ys
  ·exact(Ou.gH.upd (Ne.symm Yq),λb o e ne=>by rw[ay (au e Y)];calc Ou.rest _ _ (v.rest _ _ e ne) ne)
 intro ys H9 ed a c;let(u,vt,L,TN,v):=c;have adH:=X.trans v;walk_at "r";refine(by show 4<=sizeLine;decide,λt c=>?_);have a:=av.new (.tup [.int M,.ref D,.ref S,.ref I]) c;refine q t D S I ys M ns row u _ (adH.new c) af (a _ _ (v.rest _ _ en8 y)) (a _ _ (v.rest _ _ er8 W)) (a _ _ ed) (vt.aM a.aU) fD Yo Yr (FT,qv,(),(),(),Mo,TC,(),λd g=>?_);rw[G];have e:(((1+m).toNat:Nat):Int)=1+m:=by lia
 rw[e];calc TN d g
theorem adI{l:List Int}(h:l.length=1):∃a,l=[a]:=List.length_eq_one_iff.mp h
abbrev jv:Stmt:=top 33
inductive wO(K:W.Frag)(vs:List V)(H:Hp)(Q:VK):Prop
 |mk (x:_) (st:_) (way:_) (said:_) (v:_) (ns:_) (row:_) (n:_) (h0:vs=[x,st,.int way,.int said]) (h1:HT H n x (Val.dv v)) (h2:zp K H st ns row) (h3:v.ok ns.length) (h4:Q (.int (tS ns row way said v)) H):wO K vs H Q
def Aa(K:W.Frag):Sp:=λvs H Q _=>wO K vs H Q
theorem vz(D:cV K mg "plain_worth" "plain_worth" jv fv)(T:Tx K mg C CN CR F FD):Def P w K mg base "plain_worth" 1 fv (Aa K):=by
 exists["value","state","way","said","word"];let(x,st,way,g,v,ns,row,n,rfl,k,B,o,q):=h;have b:=hr.units;refine(_,(ai (aT (i:=4) sc rfl Sort (ak b (aq 0) aj))
  (ai (aY (aC (aZ b) (aq 4) aD (aI _)) (ao (aH (ak b (aq 0) aj))) aJ)
  (ai (aY (aC (aZ b) (aq 4) aD (aI _)) (ao (aH (ak b (ak b (aq 1) aj) (ak b (aq 0) aj)))) aJ)
  (ai (aY (aC (aZ b) (aq 4) aD (aI _)) (ao (aH (aq 3))) aJ)
  (ai (aY (aC (aZ b) (aq 4) aD (aI _)) (ao (aH (aq 2))) aJ)
  (ao (aH (Ho (aC p7 (bf aO rfl T.bV X' (ag (ak b (aq 1) aj) aa)) aj (aI _)) (ak b (ak b (aq 1) aj) aj) aj)))))))),?_)
 let(a,L,M,rfl,t,u,G):=B
 cases v with
 |is z=>
  nofun;let(p,l,J,m,rfl,c,d,y):=dZ k;obtain rfl:=d.cW;obtain rfl:=y.cN;ac_rfl;walk_at "jd";refine dC _ _ (.inr (bI.of c)) rfl ?_;walk_at "jd"
  try rw[if_pos ⋯]
  calc(_,_,.inr (bI.of c),rfl,q)
 |number i=>
  nofun;let(p,l,J,m,rfl,c,d,y):=dZ k;obtain rfl:=d.cW;obtain rfl:=y.cN;let(j,rfl):=abj o.1;ac_rfl;have I:j<ns.length:=by have:=o.2;lia
  walk_at "jd";refine dC _ _ (.inr (bI.of c)) rfl ?_;walk_at "jd"
  try rw[if_neg ⋯]
  walk_at "j"
  try rw[if_pos ⋯]
  calc(_,_,.inr (bI.of t),rfl,_,_,.inr (bI.of c),rfl,?_);calc(_,.int ns[j],u,aA (by rw[J',cT I];rfl),?_);have e:tS ns row way g (.number j)=ns[j]:=by
   show ns.getD (j:Int).toNat 0=ns[j];simp[List.getD_eq_getElem?_getD,cT I]
  rw[e]at q;calc q
 |nh=>
  nofun;let(p,l,m,rfl,c,d):=jk k;obtain rfl:=d.cW;ac_rfl;walk_at "jd";refine dC _ _ (.inr (bI.of c)) rfl ?_;walk_at "jd"
  try rw[if_neg ⋯]
  walk_at "j"
  try rw[if_neg ⋯]
  walk_at "j"
  try rw[if_pos ⋯]
  calc q
 |way=>
  nofun;let(p,l,m,rfl,c,d):=jk k;obtain rfl:=d.cW;ac_rfl;walk_at "jd";refine dC _ _ (.inr (bI.of c)) rfl ?_;walk_at "jd"
  try rw[if_neg ⋯]
  walk_at "j"
  try rw[if_neg ⋯]
  walk_at "j"
  try rw[if_neg ⋯]
  walk_at "j"
  try rw[if_pos ⋯]
  calc q
 |first=>
  nofun;let(p,l,m,rfl,c,d):=jk k;obtain rfl:=d.cW;ac_rfl;walk_at "jd";refine dC _ _ (.inr (bI.of c)) rfl ?_;walk_at "jd"
  try rw[if_neg ⋯]
  walk_at "j"
  try rw[if_neg ⋯]
  walk_at "j"
  try rw[if_neg ⋯]
  walk_at "j"
  try rw[if_neg ⋯]
  calc dC _ _ (.inr (bI.of t)) rfl ?_;refine bQ _ (G.elim (λz=>.inl (_,z,rfl)) (λz=>.inr (_,z,rfl))) ?_
  cases row with
  |nil=>
   walk_at "j";rw[if_neg nofun];exact q
  |cons r b=>
   walk_at "j";rw[if_pos nofun];exact(_,_,.inr (bI.of t),rfl,_,_,G,aA (j:=0) rfl,q)
abbrev nJ:Stmt:=top 34
inductive wQ(K:W.Frag)(vs:List V)(H:Hp)(Q:VK):Prop
 |mk (x:_) (st:_) (way:_) (said:_) (m:_) (v:_) (ns:_) (row:_) (n:_) (h0:vs=[x,st,.int way,.int said,.int m]) (h1:HT H n x (Val.dv v)) (h2:zp K H st ns row) (h3:v.ok ns.length) (h4:0<m) (h5:Q (.int (tS ns row way said v%m)) H):wQ K vs H Q
def Ab(K:W.Frag):Sp:=λvs H Q _=>wQ K vs H Q
theorem B7(D:cV K mg "worth_of" "worth_of" nJ c7)(T:Tx K mg C CN CR F FD)(i:Def P w K mg base "plain_worth" 1 fv (Aa K)):Def P w K mg base "worth_of" 2 c7 (Ab K):=by
 exists c7;let(x,st,b,a,m,v,ns,row,n,rfl,c,d,e,g,q):=h;have j:=hr.units;refine(_,(ao (aH (aR cp (aN i hr (ag (aq 0) (ag (aq 1) (ag (aq 2) (ag (aq 3) aa))))) (aq 4)))),?_);walk_at "jd";exact(x,st,b,a,v,ns,row,n,rfl,c,d,e,g,q)
abbrev lI:Stmt:=top 41
inductive VL(H:Hp)(n:Nat):List V->List Val->Prop
 |nil:VL H n [] []
 |cons {x v xs vs}:HT H n x (Val.dv v)->VL H n xs vs->VL H n (x::xs) (v::vs)
theorem VL.same{H H':Hp}{n:Nat}(s:cw H H'){xs:List V}{vs:List Val}(h:VL H n xs vs):VL H' n xs vs:=by
 induction h with
 |nil=>calc .nil
 |cons a _ b=>calc .cons (a.aM s) b
theorem VL.snoc{H:Hp}{n:Nat}{xs:List V}{vs:List Val}{x:V}{v:Val}(h:VL H n xs vs)(a:HT H n x v.dv):VL H n (xs++[x]) (vs++[v]):=by
 induction h with
 |nil=>calc .cons a .nil
 |cons a _ b=>calc .cons a b
theorem VL.len{H:Hp}{n:Nat}{xs:List V}{vs:List Val}(h:VL H n xs vs):xs.length=vs.length:=by
 induction h with
 |nil=>rfl
 |cons _ _ a=>simp[a]
inductive PL(H:Hp)(n:Nat):List V->List (Option Val)->Prop
 |nil:PL H n [] []
 |str {w xs os}:PL H n xs os->PL H n (.str w::xs) (none::os)
 |int {i xs os}:PL H n xs os->PL H n (.int i::xs) (none::os)
 |val {x v xs os}:HT H n x (Val.dv v)->PL H n xs os->PL H n (x::xs) (some v::os)
theorem PL.get{H:Hp}{n:Nat}{xs:List V}{b:List (Option Val)}(h:PL H n xs b):∀{i:Nat}{x:V},xs[i]?=some x->∃o,b[i]?=some o/\((o=none/\((∃w,x=.str w)\/∃j,x=.int j))\/∃v,o=some v/\HT H n x (Val.dv v)):=by
 induction h with
 |nil=>intro i x h;simp at h
 |str _ a=>
  intro i x h
  cases i with
  |zero=>cases h;calc(none,rfl,.inl (rfl,.inl (_,rfl)))
  |succ i=>calc a h
 |int _ a=>
  intro i x h
  cases i with
  |zero=>cases h;calc(none,rfl,.inl (rfl,.inr (_,rfl)))
  |succ i=>calc a h
 |val c _ a=>
  intro i x h
  cases i with
  |zero=>cases h;calc(some _,rfl,.inr (_,rfl,c))
  |succ i=>calc a h
theorem PL.len{H:Hp}{n:Nat}{xs:List V}{a:List (Option Val)}(h:PL H n xs a):xs.length=a.length:=by
 induction h with
 |nil=>rfl
 |str _ a=>simp[a]
 |int _ a=>simp[a]
 |val _ _ a=>simp[a]
theorem DS{H:Hp}{n:Nat}{x:V}{d:bA}(h:HT H n x d.dv):∃a xs j b,x=.ref a/\H a=some (.tup xs)/\PL H b xs j/\j.filterMap id=d.vals/\xs.length<=4:=by
 cases d with
 |set i v=>
  nofun;let(a,k,l,m,b,rfl,c,e,f,g):=bZ h;obtain rfl:=e.cW;obtain rfl:=f.cN;ac_rfl;calc(a,_,_,b,rfl,c,.str (.int (.val g .nil)),rfl,nofun)
 |add i v=>
  nofun;let(a,k,l,m,b,rfl,c,e,f,g):=bZ h;obtain rfl:=e.cW;obtain rfl:=f.cN;ac_rfl;calc(a,_,_,b,rfl,c,.str (.int (.val g .nil)),rfl,nofun)
 |times i v=>
  nofun;let(a,k,l,m,b,rfl,c,e,f,g):=bZ h;obtain rfl:=e.cW;obtain rfl:=f.cN;ac_rfl;calc(a,_,_,b,rfl,c,.str (.int (.val g .nil)),rfl,nofun)
 |put v=>
  nofun;let(a,k,l,b,rfl,c,e,f):=dZ h;obtain rfl:=e.cW;ac_rfl;calc(a,_,_,b,rfl,c,.str (.val f .nil),rfl,nofun)
 |drop=>
  nofun;let(a,k,b,rfl,c,e):=jk h;obtain rfl:=e.cW;ac_rfl;calc(a,_,_,b,rfl,c,.str (.nil),rfl,nofun)
 |send j v=>
  nofun;let(a,k,l,m,b,rfl,c,e,f,g):=bZ h;obtain rfl:=e.cW;obtain rfl:=f.cN;ac_rfl;calc(a,_,_,b,rfl,c,.str (.int (.val g .nil)),rfl,nofun)
 |say v=>
  nofun;let(a,k,l,b,rfl,c,e,f):=dZ h;obtain rfl:=e.cW;ac_rfl;calc(a,_,_,b,rfl,c,.str (.val f .nil),rfl,nofun)
 |skip v i j=>
  nofun;let(a,k,l,m,p,b,rfl,c,e,f,g,o):=o7 h;obtain rfl:=e.cW;obtain rfl:=o.cN;ac_rfl;calc(a,_,_,b,rfl,c,.str (.val f (.val g (.int .nil))),rfl,nofun)
inductive Ac(vs:List V)(H:Hp)(Q:VK):Prop
 |mk (x:_) (n:_) (d:_) (h0:vs=[x]) (h1:HT H n x (bA.dv d)) (h2:∀l zs k0 H',av H H'->H l=none->H' l=some (.lst zs)->VL H' k0 zs d.vals->Q (.ref l) H'):Ac vs H Q
def DT:Sp:=λvs H Q _=>Ac vs H Q
theorem Ad(D:cV K mg "values_of" "values_of" lI ["deed"])(T:Tx K mg C CN CR F FD):Def P w K mg base "values_of" 1 ["deed"] DT:=by
 exists["deed"];let(x,n,d,rfl,I,q):=h;have hu:=hr.units;refine(_,(ao (aH (dR (N':=["part"]) (ix:=[none]) (cj (pv 0)) (λ_ _ _ _=>(bg (i:=0) (show(["part"]:List Str).Nodup by decide +kernel) rfl Sort)) (λ_ _ _ _=>(mE (bN (bf (wm (K:=K) rfl) rfl T.bc vO (ag (aq 0) (ag (dy (v:=.ty "tuple") rfl T.cu iY rfl) aa)))))) (λ_ _ _ _=>(aq 0))))),?_);let(a,k,u,L,rfl,p,M,U,T):=DS I;walk_at "j";refine bT ?_;walk_at "j";refine .inr ((_,bI.of p),λD y=>?_);refine bF (J:=WG K a) (n:=k.length) (λi ys H'=>av H H'/\VL H' L ys ((u.take i).filterMap id)) (U' (aG ())) (av.new _ y,.nil) ?_ ?_ ?_ ?_
 ·rintro i ys H' z ⟨g,_⟩;exact(k,k[i],bI.of (g _ _ p),cT z)
 ·rintro ys H' ⟨g,_⟩;exact(k,bI.of (g _ _ p),S' _)
 ·intro i ys H' z l N X x r Y;nofun;let(g,m):=X;let(rfl,n):=Y;have I:=n k (bI.of (g _ _ p));let(o,T,Z):=M.get I;ac_rfl;have O:u.take (i+1)=u.take i++[o]:=by
   rw[abt,T];rfl
  calc(Ext.set (Ext.refl _) rfl,?_);walk_at "j";rcases Z with⟨rfl,hc⟩|⟨v,rfl,B⟩
  ·have G:∃t,gS K r x t/\W.kitOne K t (.type "tuple")=some false:=by
    rcases hc with⟨w,rfl⟩|⟨j,rfl⟩
    ·exact(_,.str w,rfl)
    ·exact(_,.int j,rfl)
   let(t,i,j):=G;refine dC t false i j ?_
   first|calc(false,rfl,?_)|skip
   walk_at "j"
   try rw[if_neg T']
   exact(ys,l,(),g,by rw[O];simpa using m)
  ·have R:=B.aM g.aU;let(b,zs,rfl,i):=Ds R;refine dC _ true (.tup i) rfl ?_
   first|calc(true,rfl,?_)|skip
   walk_at "j"
   try first|rw[if_pos rfl]|rw[if_pos trivial]
   calc cD l N z (U' (aG ())) (λc o e=>by rw[ay (au e y)];calc g _ _ e,?_);rw[O,List.filterMap_append];have S:cw r (upd r D (.lst (ys++[.ref b]))):=(cw.refl r).upd λzs e=>by rw[l]at e;cases e
   exact(m.same S).snoc (R.aM S)
 ·rintro ys H' l N ⟨g,m⟩;rw[M.len,aa0,U]at m;calc q _ ys L _ g y l m
theorem yf{H:Hp}{n:Nat}{x:V}{d:bA}(f:HT H n x d.dv):∃a l,x=.ref a/\H a=some (.tup (.str d.word::l)):=by
  cases d with
  |drop=>
    let(g,h,i,b,c,e):=jk f;obtain rfl:=e.cW;calc(_,_,b,c)
  |skip v l n=>
    let(g,h,j,m,l,i,b,c,e,k,o,n):=o7 f;obtain rfl:=e.cW;calc(_,_,b,c)
  |_=>
    first
    | (let(g,h,j,m,i,b,c,e,k,o):=bZ f
       obtain rfl:=e.cW;calc(_,_,b,c))
    | (let(g,h,j,i,b,c,e,k):=dZ f
       obtain rfl:=e.cW;calc(_,_,b,c))
theorem J9(e:d.word="put"):d.vals.length=1/\∀row x,oX row x d=if row.length<12 then row++[x] else row:=by
 cases d<;>first|calc absurd e (by simp only[bA.word];decide)|calc(rfl,λ_ _=>rfl)
theorem F1(e:d.word="drop"):∀row x,oX row x d=row.tail:=by
 cases d<;>first|calc absurd e (by simp only[bA.word];decide)|calc λ_ _=>rfl
theorem Ka(e:¬d.word="put")(a:¬d.word="drop"):∀row x,oX row x d=row:=by
 cases d<;>first|calc λ_ _=>rfl|calc absurd rfl e|calc absurd rfl a
theorem F2{n:Nat}(b:HT H n (.ref a) d.dv)(e:d.word="skip"):∃u v k,H a=some (.tup [.str "skip",u,v,.int k])/\d.vals.length=2/\∀x y,oY x y d=if x<y then k else 0:=by
 cases d<;>first|calc absurd e (by simp only[bA.word];decide)|skip
 let(i,j,k,l,m,n,c,f,g,o,p,h):=o7 b;obtain rfl:=V.ref.inj c;obtain rfl:=g.cW;obtain rfl:=h.cN;calc(_,_,_,f,rfl,λ_ _=>rfl)
theorem Af(e:¬d.word="skip"):∀x y,oY x y d=0:=by
 cases d<;>first|calc λ_ _=>rfl|calc absurd rfl e
theorem lJ{n k:Nat}(h:k<n):Bp n (k:Int)=some k:=by
 unfold Bp;rw[if_pos (),if_pos ()];simp
theorem iF{ws:List Int}{j:Nat}(h:j<ws.length):iZ (ws.map V.int) ((j:Nat):Int)=some (.int (ws.getD j 0)):=aA (by rw[J',bu (d:=0) h];rfl)
theorem DU{M:Int}{l:List Int}(h:∀z∈l,0<=z/\z<M){j:Nat}(a:j<l.length):0<=l.getD j 0/\l.getD j 0<M:=h _ (DD.getD_mem a)
noncomputable def uy(M:Int)(ns row:List Int)(x y:Int)(d:bA):List Int×List Int×List (Int×Int)×List Int×Int:=((jZ M ns x d),oX row x d,iz x d,gp x d,oY x y d)
inductive Yu(H:Hp)(a:Addr)(m:Int)(d:bA):Prop
 |set (j:Nat) (u:V) (hj:(j:Int)<m) (h:H a=some (.tup [.str "set",.int j,u])) (hl:d.vals.length=1) (e:∀M ns row x y,uy M ns row x y d=((ns.set j x),row,[],[],0))
 |add (j:Nat) (u:V) (hj:(j:Int)<m) (h:H a=some (.tup [.str "add",.int j,u])) (hl:d.vals.length=1) (e:∀M ns row x y,uy M ns row x y d=((ns.set j ((ns.getD j 0+x)%M)),row,[],[],0))
 |times (j:Nat) (u:V) (hj:(j:Int)<m) (h:H a=some (.tup [.str "times",.int j,u])) (hl:d.vals.length=1) (e:∀M ns row x y,uy M ns row x y d=((ns.set j ((ns.getD j 0*x)%M)),row,[],[],0))
 |put (u:V) (h:H a=some (.tup [.str "put",u])) (hl:d.vals.length=1) (e:∀M ns row x y,uy M ns row x y d=((ns),if row.length<12 then row++[x] else row,[],[],0))
 |drop (h:H a=some (.tup [.str "drop"])) (e:∀M ns row x y,uy M ns row x y d=((ns),row.tail,[],[],0))
 |send (j:Int) (u:V) (h:H a=some (.tup [.str "send",.int j,u])) (hl:d.vals.length=1) (e:∀M ns row x y,uy M ns row x y d=((ns),row,[((j),x)],[],0))
 |say (u:V) (h:H a=some (.tup [.str "say",u])) (hl:d.vals.length=1) (e:∀M ns row x y,uy M ns row x y d=((ns),row,[],[x],0))
 |skip (u v:V) (k:Nat) (h:H a=some (.tup [.str "skip",u,v,.int k])) (hl:d.vals.length=2) (e:∀M ns row x y,uy M ns row x y d=((ns),row,[],[],if x<y then(k:Int) else 0))
theorem wR{H:Hp}{n:Nat}{a:Addr}{d:bA}{m:Int}(k:HT H n (.ref a) d.dv)(l:d.ok m):Yu H a m d:=by
 cases d with
 |set i v=>
  let(o,p,g,h,q,b,c,e,f,s):=bZ k;obtain rfl:=V.ref.inj b;obtain rfl:=e.cW;obtain rfl:=f.cN;let(r,rfl):=abj l.1;calc .set r h l.2.1 c rfl λ_ _ _ _ _=>rfl
 |add i v=>
  let(o,p,g,h,q,b,c,e,f,s):=bZ k;obtain rfl:=V.ref.inj b;obtain rfl:=e.cW;obtain rfl:=f.cN;let(r,rfl):=abj l.1;calc .add r h l.2.1 c rfl λ_ _ _ _ _=>rfl
 |times i v=>
  let(o,p,g,h,q,b,c,e,f,s):=bZ k;obtain rfl:=V.ref.inj b;obtain rfl:=e.cW;obtain rfl:=f.cN;let(r,rfl):=abj l.1;calc .times r h l.2.1 c rfl λ_ _ _ _ _=>rfl
 |put v=>
  let(o,p,g,q,b,c,e,f):=dZ k;obtain rfl:=V.ref.inj b;obtain rfl:=e.cW;calc .put g c rfl λ_ _ _ _ _=>rfl
 |drop=>
  let(o,p,q,b,c,e):=jk k;obtain rfl:=V.ref.inj b;obtain rfl:=e.cW;calc .drop c λ_ _ _ _ _=>rfl
 |send j v=>
  let(o,p,g,h,q,b,c,e,f,s):=bZ k;obtain rfl:=V.ref.inj b;obtain rfl:=e.cW;obtain rfl:=f.cN;calc .send j h c rfl λ_ _ _ _ _=>rfl
 |say v=>
  let(o,p,g,q,b,c,e,f):=dZ k;obtain rfl:=V.ref.inj b;obtain rfl:=e.cW;calc .say g c rfl λ_ _ _ _ _=>rfl
 |skip v i j=>
  let(o,p,g,h,i,q,b,c,e,f,s,t):=o7 k;obtain rfl:=V.ref.inj b;obtain rfl:=e.cW;obtain rfl:=t.cN;let(r,rfl):=abj (Int.le_trans ∅ l.2.2.1);calc .skip g h r c rfl λ_ _ _ _ _=>rfl
abbrev gu:Stmt:=top 49
inductive DW(vs:List V)(H:Hp)(Q:VK):Prop
 |mk (an:Addr) (x:V) (l:Addr) (ns ws:List Int) (M:Int) (n:Nat) (d:bA) (h0:vs=[.ref an,x,.ref l,.int M]) (h1:H an=some (.lst (ns.map V.int))) (h2:HT H n x d.dv) (h3:H l=some (.lst (ws.map V.int))) (h4:ws.length=d.vals.length) (h5:d.ok ns.length) (h6:0<M) (h7:M<=1000000000000) (h8:(∀z∈ns,0<=z/\z<M)) (h9:∀H',H' an=some (.lst ((jZ M ns (ws.getD 0 0) d).map V.int))->(∀b o,b≠an->H b=some o->H' b=some o)->Q .bG H'):DW vs H Q
def Kb:Sp:=λvs H Q _=>DW vs H Q
theorem qy(D:cV K mg "change_numbers" "change_numbers" gu du)(T:Tx K mg C CN CR F FD):Def P w K mg base "change_numbers" 1 du Kb:=by
 exists du;let(o,x,l,ns,ws,M,n,d,rfl,p,v,y,R,z,B,S,G,q):=h;have g:=hr.units;calc(_,(ao (aY (aC (aZ g) (ak g (aq 1) aj) aD (aI _)) (ao (eP (ak g (aq 2) aj) (iu (aq 0) (ak g (aq 1) aj) dH))) (ao (aY (aC (aZ g) (ak g (aq 1) aj) aD (aI _)) (ao (eP (aR cp (aR cE (ak g (aq 0) (ak g (aq 1) aj)) (ak g (aq 2) aj)) (aq 3)) (iu (aq 0) (ak g (aq 1) aj) dH))) (ao (aY (aC (aZ g) (ak g (aq 1) aj) aD (aI _)) (ao (eP (aR cp (aR mH (ak g (aq 0) (ak g (aq 1) aj)) (ak g (aq 2) aj)) (aq 3)) (iu (aq 0) (ak g (aq 1) aj) dH))) aJ)))))),?_);nofun;let(a,W,rfl,i):=yf v;have U:=wR v z;have I:∀c:Nat,((c:Nat):Int) < ns.length->Bp (ns.map V.int).length ((c:Nat):Int)=some c/\iZ (ns.map V.int) ((c:Nat):Int)=some (.int (ns.getD c 0))/\0<=ns.getD c 0/\ns.getD c 0 < M:=λc k=>(lJ (by rw[aau];lia),iF (),DU G ())
 have J:∀c y,jZ M ns (ws.getD 0 0) d=ns.set c y->Q .bG (upd H o (.lst ((ns.map V.int).set c (.int y)))):=λc y E=>q _ (by rw[af,E,List.map_set]) λb o g e=>by rw[ay g];exact e
 have r:jZ M ns (ws.getD 0 0) d=ns->Q .bG H:=λE=>q H (by rw[E];calc p) λ_ _ _ e=>e;calc hZ ?_;clear hZ gZ v z i G q
 cases U with
 |set c u k i m E=>
  have L:=iF (ws:=ws) (j:=0) ();let(t,N,O):=I c k;walk_at "jg";exact dC _ c p t (J _ _ (congrArg Prod.fst (E M ns [] (ws.getD 0 0) 0)))
 |add c u k i m E=>
  have L:=iF (ws:=ws) (j:=0) ();let(t,N,O):=I c k;walk_at "jg";refine(B,?_);walk_at "jg";exact dC _ c p t (J _ _ (congrArg Prod.fst (E M ns [] (ws.getD 0 0) 0)))
 |times c u k i m E=>
  have L:=iF (ws:=ws) (j:=0) ();let(t,N,O):=I c k;walk_at "jg";refine gO (.inl ((),())) B ?_;walk_at "jg";exact dC _ c p t (J _ _ (congrArg Prod.fst (E M ns [] (ws.getD 0 0) 0)))
 |put u i m E=>walk_at "jg";exact r (congrArg Prod.fst (E M ns [] (ws.getD 0 0) 0))
 |drop i E=>walk_at "jg";exact r (congrArg Prod.fst (E M ns [] (ws.getD 0 0) 0))
 |send j u i m E=>walk_at "jg";exact r (congrArg Prod.fst (E M ns [] (ws.getD 0 0) 0))
 |say u i m E=>walk_at "jg";exact r (congrArg Prod.fst (E M ns [] (ws.getD 0 0) 0))
 |skip u v k i m E=>walk_at "jg";exact r (congrArg Prod.fst (E M ns [] (ws.getD 0 0) 0))
abbrev ku:Stmt:=top 50
inductive DY(vs:List V)(H:Hp)(Q:VK):Prop
 |mk (an:Addr) (x:V) (l:Addr) (row ws:List Int) (n:Nat) (d:bA) (h0:vs=[.ref an,x,.ref l]) (h1:H an=some (.lst (row.map V.int))) (h2:HT H n x d.dv) (h3:H l=some (.lst (ws.map V.int))) (h4:ws.length=d.vals.length) (h5:row.length<=12) (h6:∀H',H' an=some (.lst ((oX row (ws.getD 0 0) d).map V.int))->(∀b o,b≠an->H b=some o->H' b=some o)->Q .bG H'):DY vs H Q
def Kc:Sp:=λvs H Q _=>DY vs H Q
theorem yg(D:cV K mg "change_row" "change_row" ku gg)(T:Tx K mg C CN CR F FD):Def P w K mg base "change_row" 1 gg Kc:=by
 exists gg;let(G,x,l,row,ws,n,d,rfl,c,u,I,B,g,q):=h;have i:=hr.units;calc(_,(ao (aY (PW.pt (pw_and (aC (aZ i) (ak i (aq 1) aj) aD (aI _)) (pw_and1 (aC gT (bf aO rfl T.bV X' (ag (aq 0) aa)) (fU T.fI rfl) (aI _))))) (ao (bR (dg pO rZ r6 cm (aq 0) (ag (ak i (aq 2) aj) aa)))) (ao (aY (PW.pt (pw_and (aC (aZ i) (ak i (aq 1) aj) aD (aI _)) (pw_and1 (aC p7 (bf aO rfl T.bV X' (ag (aq 0) aa)) aj (aI _))))) (ao (Nw (aq 0) aj)) aJ)))),?_);let(a,J,rfl,t):=yf u;by_cases k:d.word="put"
 ·let(g,v):=J9 k;rw[k] at t;have g:=iF (ws:=ws) (j:=0) ();rw[v] at q;walk_at "jg";refine bQ _ (.inl (_,aV.of c,rfl)) ?_;rw[aau];by_cases m:row.length < 12
  ·rw[if_pos m]at q;walk_at "j";rw[if_pos (by simp;lia)];walk_at "jg";refine(.inl (rfl,_,aV.of c),?_);walk_at "jg";refine gU _ c (aby (by simp;lia) (aG (n:=100) ())) ?_;exact q _ (by rw[af,aay];rfl) λb o y e=>by rw[ay y];exact e
  ·rw[if_neg m]at q;walk_at "j";rw[if_neg (by simp;lia)];walk_at "jg";exact q H c λ_ _ _ e=>e
 by_cases p:d.word="drop"
 ·rw[p] at t;rw[F1 p] at q;walk_at "jg";refine bQ _ (.inl (_,aV.of c,rfl)) ?_;clear k p u B
  cases row with
  |nil=>
   walk_at "j"
   try rw[if_neg nofun]
   calc q H c λ_ _ _ e=>e
  |cons r g=>
   walk_at "j";rw[if_pos nofun];walk_at "jg";refine adi _ _ _ 0 rfl rfl c ∅ ∅ (by simp[seqIndex?]) ?_;exact q _ af λb o y e=>by rw[ay y];exact e
 ·rw[Ka k p]at q;walk_at "j";refine da t (aA (j:=0) rfl) ?_;walk_at "j";rw[if_neg λz=>k (aa1 z)];walk_at "j";refine da t (aA (j:=0) rfl) ?_;walk_at "j";rw[if_neg λz=>p (aa1 z)];walk_at "j";exact q H c λ_ _ _ e=>e
abbrev nK:Stmt:=top 51
inductive Ag(vs:List V)(H:Hp)(Q:VK):Prop
 |mk (x:V) (l:Addr) (ws:List Int) (n:Nat) (d:bA) (h0:vs=[x,.ref l]) (h1:HT H n x d.dv) (h2:H l=some (.lst (ws.map V.int))) (h3:ws.length=d.vals.length) (h4:Q (.int (oY (ws.getD 0 0) (ws.getD 1 0) d)) H):Ag vs H Q
def DZ:Sp:=λvs H Q _=>Ag vs H Q
theorem B9(D:cV K mg "left_out" "left_out" nK hI)(T:Tx K mg C CN CR F FD):Def P w K mg base "left_out" 1 hI DZ:=by
 exists hI;let(x,l,ws,n,d,rfl,c,b,i,q):=h;have b:=hr.units;refine(_,(ai (aY (PW.pt (pw_and (aC (aZ b) (ak b (aq 0) aj) aD (aI _)) (pw_and1 (aC gT (ak b (aq 1) aj) (ak b (aq 1) aj) (aI _))))) (ao (aH (ak b (aq 0) aj))) aJ)
  (ao (aH aj))),?_)
 let(a,o,rfl,k):=yf c;by_cases e:d.word="skip"
 ·let(u,v,b,k,l,m):=F2 c e;rw[m] at q;have b:=iF (ws:=ws) (j:=0) ();have b:=iF (ws:=ws) (j:=1) ();clear c i m e;walk_at "jg";by_cases g:ws.getD 0 0 < ws.getD 1 0
  ·rw[if_pos g]at q;walk_at "j";rw[if_pos (aaL g)];walk_at "jg";exact q
  ·rw[if_neg g]at q;walk_at "j";rw[if_neg λz=>g (aa1 z)];walk_at "j";exact q
 ·rw[Af e]at q;walk_at "j";refine da k (aA (j:=0) rfl) ?_;walk_at "j";rw[if_neg λz=>e (aa1 z)];walk_at "j";exact q
theorem Ke{d:TT}{f:TS}{D:Ends}(e:St->Hp->Prop)(μ:St->Nat)(h:e σ H)
  (i:∀σ H,e σ H->d σ H λb H1=>if b=true then ∃N:St->Hp->Prop,(∀a H',N a H'->e a H'/\μ a<μ σ)/\f {D with nx:=N,ct:=N,bk:=D.nx} σ H1 else D.nx σ H1)
  (c:∀σ H (Q g:Bool->Hp->Prop),(∀b H1,Q b H1->g b H1)->d σ H Q->d σ H g):xB d f D σ H:=by
 calc(λm σ H=>m=μ σ/\e σ H,(_,rfl,h),?_);rintro m σ H ⟨rfl,p⟩;refine c σ H _ _ (λb H1 q=>?_) (i σ H p)
 cases b with
 |true=>
  let(N,c,d):=q;calc(N,λa H' n=>(_,(c a H' n).2,rfl,(c a H' n).1),d)
 |false=>calc q
def SL(H:Hp)(a:List V)(b:List (Int×Int)):Prop:=a.length=b.length/\∀(i:Nat) z p,a[i]?=some z->b[i]?=some p->HT H 1 z (.tup [.int p.1,.int p.2])
theorem SL.aM(s:cw H H'){a:List V}{b:List (Int×Int)}(h:SL H a b):SL H' a b:=(h.1,λi z p a b=>(h.2 i z p a b).aM s)
theorem SL.snoc{H:Hp}{c:List V}{d:List (Int×Int)}{z:V}{j w:Int}(h:SL H c d)(hz:HT H 1 z (.tup [.int j,.int w])):SL H (c++[z]) (d++[((j),w)]):=by
 calc(by simp[h.1],λi g p a b=>?_);by_cases e:i<c.length
 ·rw[aaf e]at a;rw[aaf (by rw[<-h.1];calc e)]at b;exact h.2 i g p a b
 ·rw[Y' ()] at a;rw[Y' (by rw[<-h.1];lia)] at b;rw[h.1] at a
  cases f:i-d.length with
  |zero=>rw[f]at a b;cases a;cases b;calc hz
  |succ k=>rw[f]at a;simp at a
structure Res(H H':Hp)(x:V)(s:WS):Prop where
 ex:∃p st l1 l2 zs,x=.ref p/\H' p=some (.tup [st,.ref l1,.ref l2])/\HT H' 2 st (zm s.ns s.row)/\H' l1=some (.lst zs)/\SL H' zs s.cM/\H' l2=some (.lst (s.words.map V.int))/\H l1=none/\H l2=none/\l1≠l2
theorem D0{M w:Int}(e:0<M)(b:∀z∈ns,0<=z/\z<M)(f:0<=w/\w<M):∀z∈jZ M ns w d,0<=z/\z<M:=by
 have a:∀(j:Nat) (y:Int),(0<=y/\y<M)->∀z∈ns.set j y,0<=z/\z<M:=λj y g z i=>by
  rcases List.mem_or_eq_of_mem_set i with h|h
  ·exact b z h
  ·rw[h];exact g
 have c:∀y:Int,0<=y%M/\y%M<M:=λy=>(abi _ (),abc _ e)
 cases d with
 |set i v=>calc a _ _ f
 |add i v=>calc a _ _ (c _)
 |times i v=>calc a _ _ (c _)
 |_=>calc b
theorem Kf{w:Int}{row:List Int}{d:bA}(h:row.length<=12):(oX row w d).length<=12:=by
 cases d with
 |put v=>
  show(if row.length<12 then row++[w] else row).length<=12;split
  ·simp;lia
  ·calc h
 |drop=>show row.tail.length<=12;simp;lia
 |_=>calc h
theorem Kg{m w w':Int}{d:bA}(h:d.ok m):0<=oY w w' d:=by
 cases d with
 |skip v u k=>
  show 0<=(if w<w' then k else 0)
  split
  ·exact Int.le_trans ∅ h.2.2.1
  ·calc Int.le_refl _
 |_=>calc Int.le_refl _
theorem pD{m:Int}(h:d.ok m):∀v∈d.vals,v.ok m:=by
 intro v a
 cases d<;>simp only[bA.vals,List.mem_cons,List.not_mem_nil,or_false]at a
 case set=>subst a;exact h.2.2
 case add=>subst a;exact h.2.2
 case times=>subst a;exact h.2.2
 case put=>subst a;exact h
 case send=>subst a;exact h.2
 case say=>subst a;exact h
 case skip=>rcases a with rfl|rfl;calc h.1;calc h.2.1
theorem VL.get{H:Hp}{n:Nat}{xs:List V}{vs:List Val}(h:VL H n xs vs):∀{i:Nat}{x:V},xs[i]?=some x->∃v,vs[i]?=some v/\HT H n x (Val.dv v):=by
 induction h with
 |nil=>intro i x h;simp at h
 |cons a _ b=>
  intro i x h
  cases i with
  |zero=>cases h;calc(_,rfl,a)
  |succ i=>calc b h
theorem Ah:d.vals.length<=2:=by cases d<;>simp[bA.vals]
theorem wU{M way said:Int}{ns row:List Int}{vs:List Val}{i:Nat}(a:0<M):0<=(vs.map (fW M way said ns row)).getD i 0/\(vs.map (fW M way said ns row)).getD i 0<M:=by
 rw[aaK,J']
 cases vs[i]? with
 |none=>calc(Int.le_refl _,a)
 |some v=>calc(abi _ (),abc _ a)
theorem sk1{a:Nat}{k:Int}(h:0<=k):(a:Int)+(1+k)=((a+1+k.toNat:Nat):Int):=by lia
theorem sk2{α:Type}{x:α}{xs:List α}{a k f:Nat}(h:(x::xs.drop (a+1)).length<=f+1):(xs.drop (a+1+k)).length<=f:=by
 rw[List.length_drop];rw[abf,List.length_drop]at h;lia
theorem sk3{n a:Nat}{k:Int}(b:a<n)(h:0<=k):n-((a:Int)+(1+k)).toNat<n-a:=by lia
theorem Ov{n:Nat}{w:Int}(h:HT H n (.ref a) d.dv)(e:d.word="send"):∃j u,H a=some (.tup [.str "send",.int j,u])/\iz w d=[((j),w)]/\gp w d=[]/\d.vals.length=1:=by
 cases d<;>first|calc absurd e (by simp only[bA.word];decide)|skip
 let(g,i,j,k,l,z,b,c,f,m):=bZ h;obtain rfl:=L2.V.ref.inj z;obtain rfl:=f.cN;obtain rfl:=c.cW;calc(_,_,b,rfl,rfl,rfl)
theorem TR{w:Int}(e:d.word="say"):gp w d=[w]/\d.vals.length=1:=by
 cases d<;>first|calc absurd e (by simp only[bA.word];decide)|calc(rfl,rfl)
theorem Ai{w:Int}:(iz w d).length<=1/\(gp w d).length<=1:=by cases d<;>simp[iz,gp]
theorem Ow{w:Int}(e:¬d.word="send"):iz w d=[]:=by cases d<;>first|rfl|exact absurd rfl e
theorem Kh{w:Int}(e:¬d.word="say"):gp w d=[]:=by cases d<;>first|rfl|exact absurd rfl e
theorem Aj{l:List Int}(h:0<l.length):l[0]?=some (l.getD 0 0):=by
 cases l with
 |nil=>simp at h
 |cons a r=>rfl
noncomputable abbrev gv:Stmt:=(cn (top 52)).getD 4 (.Pass (0,0,0,0))
noncomputable def muW(n:Nat)(σ:St):Nat:=match σ[8]? with
 |some (some (V.int i))=>n-i.toNat
 |_=>0
inductive uz(K:W.Frag)(C:Addr)(vs:List V)(H:Hp)(Q:VK):Prop
 |mk (m:Addr) (st:V) (way said M:Int) (ns0 Fx:List Int) (ds:List bA) (ns row:List Int) (h0:vs=[.ref m,st,.int way,.int said]) (h1:iD C H m M ns0 Fx ds) (h2:zp K H st ns row) (h3:2<=M) (h4:M<=1000000000000) (h5:(∀z∈ns,0<=z/\z<M)) (h6:row.length<=12) (h7:ds.length<=24) (h8:(∀d∈ds,d.ok ns.length)) (h9:∀x H',av H H'->Res H H' x (oZ M way said ds ns row)->Q x H'):uz K C vs H Q
def wV(K:W.Frag)(C:Addr):Sp:=λvs H Q _=>uz K C vs H Q
inductive TU(H:Hp)(m:Addr)(st:V)(way said M:Int)(ds:List bA)(ns row:List Int)(σ:St)(H':Hp):Prop
 |mk (an ar ib aw:Addr) (zs:List V) (z9 TV:Option V) (at_:Nat) (s:WS) (f:Nat) (h0:σ=[some (.ref m),some st,some (.int way),some (.int said),some (.ref an),some (.ref ar),some (.ref ib),some (.ref aw),some (.int at_),z9,TV]) (h1:av H H') (h2:H an=none) (h3:H ar=none) (h4:H ib=none) (h5:H aw=none) (h6:an≠ar) (h7:an≠ib) (h8:an≠aw) (h9:ar≠ib) (TL:ar≠aw) (h11:ib≠aw) (h12:H' an=some (.lst (s.ns.map V.int))) (h13:H' ar=some (.lst (s.row.map V.int))) (h14:H' ib=some (.lst zs)) (h15:SL H' zs s.cM) (h16:H' aw=some (.lst (s.words.map V.int))) (h17:s.ns.length=ns.length) (h18:(∀z∈s.ns,0<=z/\z<M)) (h19:s.row.length<=12) (h20:s.cM.length<=at_) (h21:s.words.length<=at_) (h22:zo M way said f (ds.drop at_) s=oZ M way said ds ns row) (h23:(ds.drop at_).length<=f):TU H m st way said M ds ns row σ H'
theorem qz(D:ic K C "worked" "Machine.worked" gv fy)(T:Tx K mg C CN CR F FD)(gw:Def P w K mg base "change_numbers" 1 du Kb)(kx:Def P w K mg base "change_row" 1 gg Kc)(nL:Def P w K mg base "left_out" 1 hI DZ)(lK:Def P w K mg base "values_of" 1 ["deed"] DT)(nM:Def P w K mg base "worth_of" 2 c7 (Ab K)):cy P w K mg base C "worked" 3 fy (wV K C):=by
  exists["self","state","way","said","numbers","row","sent","words","at","deed","worths"];let(m,st,k,c,M,ns0,Fx,t,ns,row,rfl,hm,oI,FT,qv,hb,pB,Qh,aW,q):=h;have O:=hr.units;refine(_,(ai (aT (i:=4) sc rfl Sort (c9 cq rfl T.d9 kW (ag (ak O (aq 1) aj) aa)))
    (ai (aT (i:=5) sc rfl Sort (c9 cq rfl T.d9 kW (ag (ak O (aq 1) aj) aa)))
    (ai (aT (i:=6) sc rfl Sort (bH aa))
    (ai (aT (i:=7) sc rfl Sort (bH aa))
    (ai (aT (i:=8) sc rfl Sort aj)
    (ai (Hw PassesOwn.never (CK gT (pv 8) (bf aO rfl T.bV X' (ag (bL (pv 0) rfl) aa)) (aI _))
    (ai (aT (i:=9) sc rfl Sort (ak O (bL (aq 0) rfl) (aq 8)))
    (ai (gL (i:=10) sc rfl Sort (N':=["value","way","said","numbers","row","self"]) (ix:=[none,some 2,some 3,some 4,some 5,some 0]) (cj (aN lK hr (ag (aq 9) aa))) (λ_ _ _ _=>(bg (i:=0) (show(["value","way","said","numbers","row","self"]:List Str).Nodup by decide +kernel) rfl Sort)) pR (λ_ _ _ _=>(aN nM hr (ag (aq 0) (ag (bz (ag (aq 3) (ag (aq 4) aa))) (ag (aq 1) (ag (aq 2) (ag (Nz (K:=K) rfl (aq 5) rfl) aa))))))))
    (ai (bR (aN gw hr (ag (aq 4) (ag (aq 9) (ag (aq 10) (ag (bL (aq 0) rfl) aa))))))
    (ai (bR (aN kx hr (ag (aq 5) (ag (aq 9) (ag (aq 10) aa)))))
    (ai (aY (aC (aZ O) (ak O (aq 9) aj) aD (aI _)) (ao (bR (dg pO rZ r6 cm (aq 6) (ag (bz (ag (ak O (aq 9) aj) (ag (ak O (aq 10) aj) aa))) aa)))) (ao (aY (aC (aZ O) (ak O (aq 9) aj) aD (aI _)) (ao (bR (dg pO rZ r6 cm (aq 7) (ag (ak O (aq 10) aj) aa)))) aJ)))
    (ao (RA (i:=8) sc rfl Sort (aR cE aj (aN nL hr (ag (aq 9) (ag (aq 10) aa)))) RB))))))))
    (ao (aH (bz (ag (bz (ag (c9 ck rfl T.cu iY (ag (aq 4) aa)) (ag (c9 ck rfl T.cu iY (ag (aq 5) aa)) aa))) (ag (aq 6) (ag (aq 7) aa)))))))))))),?_)
  nofun;let(dx,stm,dd,FW,hm2,hm3):=hm;let(ad,xs,rfl,Yv,vt):=Yh hm3;let(sa,sb,Yw,rfl,Yx,X5,hsc):=oI;ac_rfl;walk_at "j";refine dC _ _ (.inr (bI.of Yx)) rfl ?_;walk_at "j";refine bQ _ X5 (λB TY=>?_);have Z:=av.new (.lst (ns.map V.int)) TY;walk_at "j";refine dC _ _ (.inr (bI.of (Z _ _ Yx))) rfl ?_;walk_at "j";have TZ:aV K (upd H B (.lst (ns.map V.int))) Yw (row.map V.int)\/bI K (upd H B (.lst (ns.map V.int))) Yw (row.map V.int):=hsc.elim (λz=>.inl (Z.seq z)) (λz=>.inr (Z.Vx z));refine bQ _ TZ (λI F3=>?_);have R:=av.new (.lst (row.map V.int)) F3;walk_at "j";refine(aaO _,λu qA=>?_);have r:=av.new (.lst []) qA;walk_at "j";refine(aaO _,λG Y=>?_);have W:=av.new (.lst []) Y;walk_at "j";have nra:I≠B:=λz=>by subst z;rw[af]at F3;cases F3
  have hrH:H I=none:=Z.free F3;have hsH:H u=none:=(Z.trans R).free qA;have hwH:H G=none:=(Z.trans (R.trans r)).free Y;have nsa:u≠B:=λz=>by subst z;rw[R _ _ af]at qA;cases qA
  have nsr:u≠I:=λz=>by subst z;rw[af]at qA;cases qA
  have nwa:G≠B:=λz=>by subst z;rw[r _ _ (R _ _ af)]at Y;cases Y
  have nwr:G≠I:=λz=>by subst z;rw[r _ _ af]at Y;cases Y
  have nws:G≠u:=λz=>by subst z;rw[af]at Y;cases Y
  have Ca:=Z.trans (R.trans (r.trans W));have Mr:0<M:=by lia
  refine Ke (TU H m (.ref sa) k c M t ns row) (muW t.length) ?_ ?_ ?_
  · refine(B,I,u,G,[],none,none,0,(ns,row,[],[]),t.length,rfl,Ca,TY,hrH,hsH,hwH,Ne.symm nra,Ne.symm nsa,Ne.symm nwa,Ne.symm nsr,Ne.symm nwr,Ne.symm nws,W _ _ (r _ _ (R _ _ af)),W _ _ (r _ _ af),W _ _ af,(rfl,λi z p e=>by simp at e),af,rfl,hb,pB,S' _,S' _,rfl,S' _)
  · intro σ H1 jl;let(B,I,u,G,zs,z9,TV,g,s,f,rfl,sH,a1,a2,a3,a4,n1,n2,n3,n4,n5,n6,e1,e2,e3,Ki,e5,Ms,Mo,Ak,F4,hwn,S,Ql):=jl;have Ox:=sH _ _ FW;have Yy:=sH _ _ Yv;have adY:=vt.aM sH.aU;walk_at "j";refine fR Ox T.cQ T.Qe Yg ?_;walk_at "j";refine bQ _ (.inr (_,bI.of Yy,rfl)) ?_;by_cases kZ:g < t.length
    · have Yz:g < xs.length:=by rw[vt.1];exact kZ
      walk_at "j";rw[if_pos (by simpa using Yz)];refine(λσ' H'=>TU H m (.ref sa) k c M t ns row σ' H'/\muW t.length σ'<t.length-g,λσ' H' h=>h,?_);have rC:=aW t[g] (aaV kZ);have hx:=adY.2 g xs[g] t[g] (cT Yz) (cT kZ);have VE:t.drop g=t[g]::t.drop (g+1):=List.drop_eq_getElem_cons kZ;nofun;generalize Dy:t[g]=d at rC hx VE;generalize hxx:xs[g]=x at hx;have exx:xs[g]?=some x:=by rw[cT Yz,hxx]
      obtain⟨f',rfl⟩:∃f',f=f'+1:=(f-1,by rw[VE]at Ql;simp at Ql;lia)
      rw[VE]at S Ql
      replace S:zo M k c f' ((t.drop (g+1)).drop (mY M k c d s).toNat) (kS M k c d s)=oZ M k c t ns row:=S
      ac_rfl;rw[List.drop_drop]at S;walk_at "j";refine fR Ox T.cQ T.Qe Yg ?_;walk_at "j";refine dC _ x (.inr (bI.of Yy)) (aA exx) ?_;walk_at "j";refine bT ?_;walk_at "j";refine(x,3,d,rfl,hx,λl zv k0 H2 R F5 hl J6=>?_);refine .inl ((_,aV.of hl),λD hD=>?_);have Mt:=J6.len;have M7:=Ah (d:=d);refine bF (J:=yP K l) (n:=zv.length) (λi ys H'=>ys=((d.vals.take i).map (fW M k c s.ns s.row)).map V.int/\av H2 H') (U' (aG ())) (rfl,av.new _ hD) ?_ ?_ ?_ ?_
      · rintro i ys H' hi ⟨_,r⟩;exact(_,zv[i],aV.of (r _ _ hl),cT hi)
      · rintro ys H' ⟨_,r⟩;exact(_,aV.of (r _ _ hl),S' _)
      · intro i ys H3 hi bE wN jm y H4 qt;nofun;let(rfl,r):=jm;let(rfl,hy):=qt;have ey:=hy _ (aV.of (r _ _ hl));let(v,ev,hv):=J6.get ey;ac_rfl;have jr:=pD rC v (aaT ev);refine(Ext.set (Ext.refl _) rfl,?_);walk_at "j";rw[if_pos trivial];refine(cP,λp hp=>?_);have W:=av.new (.tup [.ref B,.ref I]) hp;have YA:=R.trans (r.trans W);refine fR (YA _ _ Ox) T.cQ T.Qd Yf ?_;refine(y,.ref p,k,c,M,v,s.ns,s.row,k0,rfl,(hv.aM (r.trans W).aU),(p,B,I,rfl,af,.inl (aV.of (YA _ _ e1)),.inl (aV.of (YA _ _ e2))),by rw[Ms];exact jr,Mr,?_);refine cD (W _ _ bE) wN hi (U' (aG ())) (?_,λb o e=>?_)
        · rw[abt,ev];simp[fW]
        · rw[ay (au e hD)];exact W _ _ (r _ _ e)
      rintro ys H3 bE wN ⟨rfl,r⟩;rw[Mt,aa0]at bE;have X:=R.trans r;have G9:H1 D=none:=R.free hD;generalize sC:d.vals.map (fW M k c s.ns s.row)=ws at bE;have k6:ws.length=d.vals.length:=by rw[<-sC];simp
      have YB:0<=ws.getD 0 0/\ws.getD 0 0<M:=by rw[<-sC];exact wU Mr
      have D7:kS M k c d s=(jZ M s.ns (ws.getD 0 0) d,oX s.row (ws.getD 0 0) d,s.cM++iz (ws.getD 0 0) d,s.words++gp (ws.getD 0 0) d):=by rw[<-sC];rfl
      have D8:mY M k c d s=oY (ws.getD 0 0) (ws.getD 1 0) d:=by rw[<-sC];rfl
      rw[D7,D8]at S;have D9:∀{b:Addr} {o:HO},H1 b=some o->b≠D:=λe=>au e G9;walk_at "j";refine fR (X _ _ Ox) T.cQ T.Qd Yf ?_;refine(B,x,D,s.ns,ws,M,3,d,rfl,X _ _ e1,hx.aM X.aU,bE,k6,by rw[Ms];exact rC,Mr,qv,Mo,λH4 e14 k4=>?_);have t4:cw H3 H4:=λb ys e=>k4 b _ (λz=>by subst z;rw[X _ _ e1]at e;cases e) e;walk_at "j";refine(I,x,D,s.row,ws,3,d,rfl,k4 _ _ (Ne.symm n1) (X _ _ e2),hx.aM (X.aU.trans t4),k4 _ _ (Ne.symm (D9 e1)) bE,k6,Ak,λL e25 k5=>?_);have t5:cw H4 L:=λb ys e=>k5 b _ (λz=>by subst z;rw[k4 _ _ (Ne.symm n1) (X _ _ e2)]at e;cases e) e;have t15:cw H1 L:=X.aU.trans (t4.trans t5);have kk:∀b o,b≠B->b≠I->H1 b=some o->L b=some o:=λb o ne1 ne2 e=>k5 b o ne2 (k4 b o ne1 (X _ _ e));have e15:=k5 _ _ n1 e14;have VF:=kk _ _ (Ne.symm n2) (Ne.symm n4) e3;have YC:=kk _ _ (Ne.symm n3) (Ne.symm n5) e5;have yF:L D=some (.lst (ws.map V.int)):=k5 _ _ (Ne.symm (D9 e2)) (k4 _ _ (Ne.symm (D9 e1)) bE);have T3:=Ki.aM t15;have T4:av H L:=λb o e=>kk b o (au e a1) (au e a2) (sH _ _ e);have Ha:=hx.aM t15;have Qm:=Kg (w:=ws.getD 0 0) (w':=ws.getD 1 0) rC;obtain⟨a,us,rfl,ha,-⟩:=ur Ha rC;walk_at "j";rename_i N1 hN1 T1 U1 VG Qn;have fin:∀U Mu,av H U->U B=some (.lst ((jZ M s.ns (ws.getD 0 0) d).map V.int))->U I=some (.lst ((oX s.row (ws.getD 0 0) d).map V.int))->U u=some (.lst Mu)->SL U Mu (s.cM++iz (ws.getD 0 0) d)->U G=some (.lst ((s.words++gp (ws.getD 0 0) d).map V.int))->HT U 3 (.ref a) d.dv->U D=some (.lst (ws.map V.int))->N1 [some (V.ref m),some (V.ref sa),some (V.int k),some (V.int c),some (V.ref B),some (V.ref I),some (V.ref u),some (V.ref G),some (V.int (g:Nat)),some (V.ref a),some (V.ref D)] U:=by
        intro U Mu f0 f1 f2 f3 f4 f5 f6 f7;walk_at "j";refine(.ref a,D,ws,_,_,rfl,f6,f7,k6,?_);walk_at "j";refine dC _ _ rfl rfl ?_;have l1:=Ai (w:=ws.getD 0 0) (d:=d);refine((B,I,u,G,Mu,some (.ref a),some (.ref D),g+1+(oY (ws.getD 0 0) (ws.getD 1 0) d).toNat,(jZ M s.ns (ws.getD 0 0) d,oX s.row (ws.getD 0 0) d,s.cM++iz (ws.getD 0 0) d,s.words++gp (ws.getD 0 0) d),f',?_,f0,a1,a2,a3,a4,n1,n2,n3,n4,n5,n6,f1,f2,f3,f4,f5,by rw[qf];exact Ms,D0 (d:=d) Mr Mo YB,Kf (w:=ws.getD 0 0) (d:=d) Ak,(by rw[aaQ];lia),(by rw[aaQ];lia),S,?_),?_)
        · first|rfl|rw[sk1 Qm]
        · exact sk2 Ql
        · exact sk3 kZ Qm
      calc da ha (aA (j:=0) rfl) ?_;walk_at "j";by_cases k1:d.word="send"
      · rw[if_pos (aaL k1)];let(j,u2,Mf,es,hv1,hv2):=Ov (w:=ws.getD 0 0) Ha k1;have DX:iZ (ws.map V.int) 0=some (.int (ws.getD 0 0)):=aA (j:=0) (by rw[J',Aj ()];rfl);generalize ws.getD 0 0=w0 at *
        · skip
          walk_at "j";refine(.inl (rfl,_,aV.of VF),?_);refine da Mf (aA (j:=1) rfl) ?_;walk_at "j";refine bC yF DX ?_;refine(cP,λtp GL=>?_);have s6:=av.new (.tup [.int j,.int w0]) GL;refine gU _ (s6 _ _ VF) (aby (by have:=Ki.1;lia) (aG (n:=100) ())) ?_;have htn:tp≠u:=λz=>by subst z;rw[VF]at GL;cases GL
          have t6:cw (upd L tp (.tup [.int j,.int w0])) (upd (upd L tp (.tup [.int j,.int w0])) u (.lst (zs++[.ref tp]))):=(cw.refl _).upd λys e=>by rw[s6 _ _ VF]at e;cases e
          have N:∀b o,b≠u->L b=some o->upd (upd L tp (.tup [.int j,.int w0])) u (.lst (zs++[.ref tp])) b=some o:=λb o ne e=>by rw[ay ne];exact s6 _ _ e
          exact fin _ _ (λb o e=>N b o (au e a3) (T4 _ _ e)) (N _ _ n2 e15) (N _ _ n4 e25) af (by rw[es];calc(T3.aM (s6.aU.trans t6)).snoc (di (n:=0) (by rw[ay htn];calc af) (.int _) (.int _))) (by rw[hv1,aaP];calc N _ _ (Ne.symm n6) YC) (Ha.aM (s6.aU.trans t6)) (N _ _ (Ne.symm (D9 e3)) yF)
      · rw[if_neg λz=>k1 (aa1 z)];have es:=Ow (w:=ws.getD 0 0) k1;walk_at "j";refine da ha (aA (j:=0) rfl) ?_;walk_at "j";by_cases k2:d.word="say"
        · rw[if_pos (aaL k2)];let(ew,hv1):=TR (w:=ws.getD 0 0) k2;have DX:iZ (ws.map V.int) 0=some (.int (ws.getD 0 0)):=aA (j:=0) (by rw[J',Aj ()];rfl);generalize ws.getD 0 0=w0 at *
          · skip
            walk_at "j";refine(.inl (rfl,_,aV.of YC),?_);walk_at "j";refine bC yF DX ?_;refine gU _ YC (aby (by simp;lia) (aG (n:=100) ())) ?_;have t6:cw L (upd L G (.lst (s.words.map V.int++[.int w0]))):=(cw.refl _).upd λys e=>by rw[YC]at e;cases e
            have N:∀b o,b≠G->L b=some o->upd L G (.lst (s.words.map V.int++[.int w0])) b=some o:=λb o ne e=>by rw[ay ne];exact e
            exact fin _ zs (λb o e=>N b o (au e a4) (T4 _ _ e)) (N _ _ n3 e15) (N _ _ n5 e25) (N _ _ n6 VF) (by rw[es,aaP];calc T3.aM t6) (by rw[af,ew,aay];rfl) (Ha.aM t6) (N _ _ (Ne.symm (D9 e5)) yF)
        · rw[if_neg λz=>k2 (aa1 z)];have ew:=Kh (w:=ws.getD 0 0) k2;calc L2.aQ (by assumption) ?_;exact fin _ _ T4 e15 e25 VF (by rw[es,aaP];calc T3) (by rw[ew,aaP];calc YC) Ha yF
    · have Yz:¬g < xs.length:=by rw[vt.1];exact kZ
      walk_at "j";rw[if_neg (by simpa using Yz)];rw[List.drop_eq_nil_of_le (),Dr]at S;walk_at "j";refine .inl (_,aV.of e1,λt1 zQ=>?_);have r1:=av.new (.tup (s.ns.map V.int)) zQ;walk_at "j";refine .inl (_,aV.of (r1 _ _ e2),λt2 rB=>?_);have r2:=av.new (.tup (s.row.map V.int)) rB;walk_at "j";refine(cP,λt3 AO=>?_);have r3:=av.new (.tup [.ref t1,.ref t2]) AO;walk_at "j";refine(by show 3<=sizeLine;decide,λt4 B5=>?_);have r4:=av.new (.tup [.ref t3,.ref u,.ref G]) B5;have Oy:=r1.trans (r2.trans (r3.trans r4));refine q _ _ (sH.trans Oy) (_,_,u,G,zs,rfl,af,?_,Oy _ _ e3,?_,?_,a3,a4,n6)
      · rw[<-S];exact(di af (oW (r3 _ _ (r2 _ _ af))) (oW (r3 _ _ af))).aM r4.aU
      · rw[<-S];exact Ki.aM Oy.aU
      · rw[<-S];exact Oy _ _ e5
  · intro σ H1 Q Q' hq hc;let(x,h1,x0,h0,a,C',vk,fs,v,h2,h3,h4,h5,h6,n,h7,h8):=hc;refine(x,h1,x0,h0,a,C',vk,fs,v,h2,h3,h4,h5,h6,n,h7,?_)
    cases x<;>first
      |calc(show False from h8).elim
      | (let(k',h9,TL):=h8
         calc(k',h9,hq _ _ TL))
abbrev lL:Stmt:=top 73
inductive Kj(vs:List V)(H:Hp)(Q:VK):Prop
 |mk (x:V) (st an ar:Addr) (way said M:Int) (v:Val) (ns row:List Int) (n:Nat) (h0:vs=[x,.ref st,.int way,.int said,.int M]) (h1:HT H n x (Val.dv v)) (h2:H st=some (.tup [.ref an,.ref ar])) (h3:H an=some (.lst (ns.map V.int))) (h4:H ar=some (.lst (row.map V.int))) (h5:v.ok ns.length) (h6:0<M) (h7:row.length<=12) (h8:∀H',av H H'->Q (.int (fW M way said ns row v)) H'):Kj vs H Q
def Ea:Sp:=λvs H Q _=>Kj vs H Q
theorem Al(D:cV K mg "_law_worth" "_law_worth" lL b0)(T:Tx K mg C CN CR F FD):Def P w K mg base "_law_worth" 1 b0 Ea:=by
 exists["_law_value_here","_law_state","_law_way","_law_said","_law_modulus","_law_worth_here"];let(x,st,a,z,way,c,M,v,ns,row,n,rfl,g,R,Y,o,S,k,Z,q):=h;have a:=hr.units;refine(_,(ai (aT (i:=5) sc rfl Sort (aq 2))
  (ai (aY (aC (aZ a) (ak a (aq 0) aj) aD (aI _)) (ao (aT (i:=5) sc rfl Sort (ak a (aq 0) aj))) aJ)
  (ai (aY (aC (aZ a) (ak a (aq 0) aj) aD (aI _)) (ao (aT (i:=5) sc rfl Sort (ak a (ak a (aq 1) aj) (ak a (aq 0) aj)))) aJ)
  (ai (aY (aC (aZ a) (ak a (aq 0) aj) aD (aI _)) (ao (aT (i:=5) sc rfl Sort (aq 3))) aJ)
  (ai (aY (aC (aZ a) (ak a (aq 0) aj) aD (aI _)) (ao (aT (i:=5) sc rfl Sort (ak a (aR cE (dR (N':=["_law_k","_law_state"]) (ix:=[none,some 1]) (eI rfl T.fZ (ag (bf aO rfl T.bV X' (ag (ak a (aq 1) aj) aa)) aa)) (λ_ _ _ _=>(bg (i:=0) (show(["_law_k","_law_state"]:List Str).Nodup by decide +kernel) rfl Sort)) pR (λ_ _ _ _=>(fV (K:=K) rfl a (fV (K:=K) rfl a (aq 1) aj) (aq 0)))) (bH (ag aj aa))) aj))) aJ)
  (ao (aH (aR cp (aq 5) (aq 4))))))))),?_)
 walk_at "j"
 cases v with
 |is z=>
  nofun;let(p,t,w2,u,rfl,y,d,I):=dZ g;obtain rfl:=d.cW;obtain rfl:=I.cN;ac_rfl;walk_at "jg";exact(k,q H (av.refl H))
 |number i=>
  nofun;let(p,t,w2,u,rfl,y,d,I):=dZ g;obtain rfl:=d.cW;obtain rfl:=I.cN;let(L,a):=S;let(j,rfl):=abj L;ac_rfl;have U:j<ns.length:=by lia
  have a:iZ (ns.map V.int) (j:Int)=some (.int ns[j]):=aA (by rw[J',cT U];rfl);walk_at "jg";have a:=q H (av.refl H);have N:fW M way c ns row (.number j)=ns[j]%M:=by
   show ns.getD (j:Int).toNat 0%M=_;simp[List.getD_eq_getElem?_getD,cT U]
  rw[N]at a;calc(k,a)
 |first=>
  nofun;let(p,t,u,rfl,y,d):=jk g;obtain rfl:=d.cW;ac_rfl;walk_at "jg"
  skip
  walk_at "jg";refine bQ _ (.inl (_,aV.of o,rfl)) ?_;walk_at "j";have a:(row.map V.int).length=row.length:=by simp
  rw[a];calc gO () () (λD W=>?_);refine bF (J:=EO 0 row.length) (n:=row.length) (λi ys H'=>ys=(row.take i).map V.int/\av H H') (U' (aG ())) (rfl,av.new _ W) (λi ys H' l _=>l) (λys H' _=>S' _) ?_ ?_
  ·intro i ys H' l B G jl x H2 jm;nofun;let(rfl,m):=jl;let(rfl,rfl):=jm;ac_rfl;calc(Ext.set (Ext.refl _) rfl,?_);have a:=m _ _ R;have O:=m _ _ o;walk_at "jg"
   try rw[if_pos trivial]
   calc bC O (show iZ (row.map V.int) (0+(i:Int))=some (.int row[i]) from by rw[Int.zero_add];calc aA (by rw[J',cT l];rfl)) ?_;calc cD B G l (U' (aG ())) (?_,λb o e=>by rw[ay (au e W)];calc m _ _ e);rw[abE,cT l,aay];rfl
  rintro ys H1 B G ⟨rfl,m⟩;rw[aa0]at B;walk_at "jg";refine(∅,λl G=>?_);have X:=av.new (.lst [.int 0]) G;walk_at "jg";refine .inl (_,_,X _ _ B,af,U' (aG (by simp;lia)),λi a=>?_);have s3:=av.new (.lst (row.map V.int++[.int 0])) a;have N:iZ (row.map V.int++[.int 0]) 0=some (.int (tS ns row way c .first)):=by
   cases row with
   |nil=>calc aA (j:=0) rfl
   |cons r a=>exact aA (j:=0) rfl
  walk_at "j";refine bC af N ?_;walk_at "jg";exact(k,q _ (m.trans (X.trans s3)))
 |nh=>
  nofun;let(p,t,u,rfl,y,d):=jk g;obtain rfl:=d.cW;ac_rfl;walk_at "jg";exact(k,q _ (av.refl H))
 |way=>
  nofun;let(p,t,u,rfl,y,d):=jk g;obtain rfl:=d.cW;ac_rfl;walk_at "jg";exact(k,q _ (av.refl H))
noncomputable abbrev Kk:Stmt:=(cn (top 61)).getD 0 (.Pass (0,0,0,0))
noncomputable def Oz(a b c:V):List (Str×V):=bP "own_letters" c (bP "own_ways" b (bP "own_machines" a []))
theorem YE{a b c:V}:(Oz a b c).lookup ("own_machines":Str)=some a:=by
 unfold Oz;rw[bx,if_neg ⋯,bx,if_neg ⋯,bx,if_pos rfl]
theorem YF{a b c:V}:(Oz a b c).lookup ("own_ways":Str)=some b:=by
 unfold Oz;rw[bx,if_neg ⋯,bx,if_pos rfl]
theorem ad3{a b c:V}:(Oz a b c).lookup ("own_letters":Str)=some c:=by
 unfold Oz;rw[bx,if_pos rfl]
theorem eZ{a b c:V}(d:f≠"own_machines")(e:f≠"own_ways")(g:f≠"own_letters"):(Oz a b c).lookup f=none:=by
 unfold Oz;rw[bx,if_neg g,bx,if_neg e,bx,if_neg d];rfl
def lM(CN:Addr)(H:Hp)(x:Addr)(ms:List Addr)(wv lv:List V):Prop:=∃d a b c,H x=some (.ins CN d (Oz (.ref a) (.ref b) (.ref c)))/\H a=some (.tup (ms.map V.ref))/\H b=some (.tup wv)/\H c=some (.tup lv)
theorem lM.same{CN:Addr}{x:Addr}(s:av H H')(h:lM CN H x ms wv lv):lM CN H' x ms wv lv:=by
 let(d,a,b,c,e,f,g,i):=h;calc(d,a,b,c,s _ _ e,s _ _ f,s _ _ g,s _ _ i)
def Am(C CN:Addr):Sp:=λvs H Q _=>∃(x a c d e:Addr) (ms:List Addr) (wv lv:List V) (ws:List (Int×Int×Str)) (ls:List (Int×Int)),vs=[.ref x,.ref c,.ref d,.ref e]/\H x=some (.ins CN a [])/\H c=some (.lst (ms.map V.ref))/\H d=some (.lst wv)/\H e=some (.lst lv)/\1<=ms.length/\ms.length<=5/\wv.length<=10/\lv.length<=20/\(∀m∈ms,∃a f,H m=some (.ins C a f))/\gJ H 1 wv (ws.map mQ)/\gJ H 1 lv (ls.map pC)/\(∀w∈ws,wL ms.length w)/\(∀l∈ls,wM wv.length l)/\∀H',lM CN H' x ms wv lv->(∀b o,b≠x->H b=some o->H' b=some o)->Q .bG H'
theorem YG(D:Fm K mg "Net" CN "Net.__init__" Kk dU)(T:Tx K mg C CN CR F FD)(ky:Def P w K mg base "refuse_net" 4 eD (DR C)):xV P w K mg base "Net" CN 7 dU (Am C CN):=by
 exists dU;let(x,a,y,B,G,ms,wv,lv,ws,ls,rfl,g,j,k,l,W,X,Y,Z,Yi,sC,Of,Og,tm,q):=h;have hu:=hr.units;refine(_,(ai (bR (aN ky hr (ag (aq 1) (ag (aq 2) (ag (aq 3) aa)))))
  (ai (fS (aq 0) (c9 ck rfl T.cu iY (ag (aq 1) aa)) (gG rfl))
  (ai (fS (aq 0) (c9 ck rfl T.cu iY (ag (aq 2) aa)) (gG rfl))
  (ao (fS (aq 0) (c9 ck rfl T.cu iY (ag (aq 3) aa)) (gG rfl)))))),?_)
 try walk_at "rt"
 calc(y,B,G,ms,wv,lv,ws,ls,rfl,j,k,l,W,X,Y,Z,Yi,sC,Of,Og,tm,λH1 I=>?_);have W:=I _ _ g;have W:y≠x:=λz=>by subst z;rw[g]at j;cases j
 have YH:B≠x:=λz=>by subst z;rw[g]at k;cases k
 have T5:G≠x:=λz=>by subst z;rw[g]at l;cases l
 try walk_at "rt"
 refine j2 (.inl (I _ _ j)) λc H2 s2 J=>?_
 try walk_at "rt"
 have m:=I.trans s2;have FV:=m _ _ g;calc(x,CN,a,[],rfl,FV,T.cR,T.zK,∅,?_);have L:c≠x:=λz=>by subst z;rw[FV]at J;cases J
 have p:∀b o,b≠x->H2 b=some o->upd H2 x (.ins CN a (bP "own_machines" (.ref c) [])) b=some o:=λb o d e=>by rw[ay d];exact e
 have Mv:upd H2 x (.ins CN a (bP "own_machines" (.ref c) [])) x=some (.ins CN a (bP "own_machines" (.ref c) [])):=af;generalize hG3:upd H2 x (.ins CN a (bP "own_machines" (.ref c) []))=G3 at *;have M:=p _ _ L J;have FX:=p _ _ YH (m _ _ k);have N:=p _ _ T5 (m _ _ l)
 try walk_at "rt"
 refine j2 (.inl FX) λi r t O=>?_
 try walk_at "rt"
 have T6:=t _ _ Mv;calc Fz x CN a _ rfl T6 T.cR T.zL (jq (n:=999) ∅) ?_;have n2:i≠x:=λz=>by subst z;rw[T6]at O;cases O
 have u:∀b o,b≠x->r b=some o->upd r x (.ins CN a (bP "own_ways" (.ref i) (bP "own_machines" (.ref c) []))) b=some o:=λb o d e=>by rw[ay d];exact e
 have Ha:upd r x (.ins CN a (bP "own_ways" (.ref i) (bP "own_machines" (.ref c) []))) x=some (.ins CN a (bP "own_ways" (.ref i) (bP "own_machines" (.ref c) []))):=af;generalize hG5:upd r x (.ins CN a (bP "own_ways" (.ref i) (bP "own_machines" (.ref c) [])))=G5 at *;have R:=u _ _ L (t _ _ M);have S:=u _ _ n2 O;have FY:=u _ _ T5 (t _ _ N)
 try walk_at "rt"
 refine j2 (.inl FY) λt3 g v U=>?_
 try walk_at "rt"
 have YI:=v _ _ Ha;calc Fz x CN a _ rfl YI T.cR T.BY (jq (n:=999) (jq (n:=998) ∅)) ?_;have n3:t3≠x:=λz=>by subst z;rw[YI]at U;cases U
 refine q _ (a,c,i,t3,af,?_,?_,?_) λb o d e=>?_
 ·rw[ay L];exact v _ _ R
 ·rw[ay n2];exact v _ _ S
 ·rw[ay n3];exact U
 ·rw[ay d];calc v _ _ (u _ _ d (t _ _ (p _ _ d (m _ _ e))))
noncomputable abbrev iG:Stmt:=(cn (top 61)).getD 1 (.Pass (0,0,0,0))
def gc(CN:Addr):Sp:=λvs H Q _=>∃(x:Addr) (ms:List Addr) (wv lv:List V),vs=[.ref x]/\lM CN H x ms wv lv/\∀l,H l=none->Q (.ref l) (upd H l (.lst (ms.map V.ref)))
theorem uA(D:ic K CN "machines" "Net.machines" iG bY)(T:Tx K mg C CN CR F FD):cy P w K mg base CN "machines" 1 bY (gc CN):=by
 exists bY;let(x,ms,wv,lv,rfl,(e,a,b,g,c,d,i,j),q):=h;have e:=hr.units;refine(_,(ao (aH (c9 cq rfl T.d9 kW (ag (bL (aq 0) rfl) aa)))),?_);refine fld c T.cR T.zK YE ?_;walk_at "r";exact(_,.inr (bI.of d),λl e=>q l e)
noncomputable abbrev nN:Stmt:=(cn (top 61)).getD 2 (.Pass (0,0,0,0))
def pE(CN:Addr):Sp:=λvs H Q _=>∃(x:Addr) (ms:List Addr) (wv lv:List V),vs=[.ref x]/\lM CN H x ms wv lv/\∀l,H l=none->Q (.ref l) (upd H l (.lst wv))
theorem Cb(D:ic K CN "ways" "Net.ways" nN bY)(T:Tx K mg C CN CR F FD):cy P w K mg base CN "ways" 1 bY (pE CN):=by
 exists bY;let(x,ms,wv,lv,rfl,(e,a,b,g,c,i,d,j),q):=h;have e:=hr.units;refine(_,(ao (aH (c9 cq rfl T.d9 kW (ag (bL (aq 0) rfl) aa)))),?_);refine fld c T.cR T.zL YF ?_;walk_at "r";exact(_,.inr (bI.of d),λl e=>q l e)
noncomputable abbrev jx:Stmt:=(cn (top 61)).getD 3 (.Pass (0,0,0,0))
def rE(CN:Addr):Sp:=λvs H Q _=>∃(x:Addr) (ms:List Addr) (wv lv:List V),vs=[.ref x]/\lM CN H x ms wv lv/\∀l,H l=none->Q (.ref l) (upd H l (.lst lv))
theorem vA(D:ic K CN "letters" "Net.letters" jx bY)(T:Tx K mg C CN CR F FD):cy P w K mg base CN "letters" 1 bY (rE CN):=by
 exists bY;let(x,ms,wv,lv,rfl,(e,a,b,g,c,i,j,d),q):=h;have e:=hr.units;refine(_,(ao (aH (c9 cq rfl T.d9 kW (ag (bL (aq 0) rfl) aa)))),?_);refine fld c T.cR T.BY ad3 ?_;walk_at "r";exact(_,.inr (bI.of d),λl e=>q l e)
noncomputable def Qo(M way said:Int):Nat->List bA->WS->WS
 |_,[],s=>s
 |l+1,_::r,s=>Qo M way said l r s
 |0,d::r,s=>Qo M way said (mY M way said d s).toNat r (kS M way said d s)
theorem yh{M way said:Int}:∀(b:List bA) (l:Nat) (s:WS) (f:Nat),b.length<=f->Qo M way said l b s=zo M way said f (b.drop l) s
 | [],l,s,f,_=>by rw[List.drop_nil,Dr];cases l<;>rfl
 |d::r,l+1,s,f,h=>by
  show Qo M way said l r s=zo M way said f (r.drop l) s;calc yh r l s f (by simp at h;lia)
 |d::r,0,s,f,h=>by
  obtain⟨a,rfl⟩:∃a,f=a+1:=(f-1,by simp at h;lia)
  show Qo M way said (mY M way said d s).toNat r (kS M way said d s)=zo M way said a (r.drop (mY M way said d s).toNat) (kS M way said d s);calc yh r _ _ a (by simp at h;lia)
theorem Kl{M way said:Int}{a:List bA}:Qo M way said 0 a (ns,row,[],[])=oZ M way said a ns row:=yh a 0 _ _ (S' _)
inductive OA(H:Hp)(mt:Addr)(st:V)(way said M:Int)(ds:List bA)(ns row:List Int)(i:Nat)(σ:St)(H':Hp):Prop
 |mk (an ar ib aw:Addr) (zs:List V) (z9 TV:Option V) (l:Nat) (s:WS) (h0:σ=[some (.ref mt),some st,some (.int way),some (.int said),some (.ref an),some (.ref ar),some (.ref ib),some (.ref aw),some (.int ((l:Nat):Int)),z9,TV]) (h1:av H H') (a1:H an=none) (a2:H ar=none) (a3:H ib=none) (a4:H aw=none) (n1:an≠ar) (n2:an≠ib) (n3:an≠aw) (n4:ar≠ib) (n5:ar≠aw) (n6:ib≠aw) (e1:H' an=some (.lst (s.ns.map V.int))) (e2:H' ar=some (.lst (s.row.map V.int))) (e3:H' ib=some (.lst zs)) (Ki:SL H' zs s.cM) (e5:H' aw=some (.lst (s.words.map V.int))) (Ms:s.ns.length=ns.length) (Mo:∀z∈s.ns,0<=z/\z<M) (Ak:s.row.length<=12) (F4:s.cM.length<=i) (hwn:s.words.length<=i) (oN:Qo M way said l (ds.drop i) s=oZ M way said ds ns row):OA H mt st way said M ds ns row i σ H'
inductive Km(K:W.Frag)(vs:List V)(H:Hp)(Q:VK):Prop
 |mk (mt ln lr ld:Addr) (st:V) (way said M:Int) (xs:List V) (ds:List bA) (ns row:List Int) (h0:vs=[.ref mt,st,.int way,.int said]) (YJ:H mt=some (.tup [.int M,.ref ln,.ref lr,.ref ld])) (h1:H ld=some (.lst xs)) (h2:gJ H 2 xs (ds.map bA.dv)) (h3:zp K H st ns row) (h5:2<=M) (h6:M<=1000000000000) (h7:∀z∈ns,0<=z/\z<M) (h9:row.length<=12) (TL:ds.length<=24) (h11:∀d∈ds,d.ok ns.length) (h13:∀x H',av H H'->Res H H' x (oZ M way said ds ns row)->Q x H'):Km K vs H Q
theorem T7{xs:List V}:dD xs none (some 12)=xs.take 12:=by
 unfold dD;have a:HT.eX xs.length 0 none=0:=rfl;rw[a];have b:HT.eX xs.length xs.length (some 12)=min 12 xs.length:=by
  unfold HT.eX;simp
 rw[b,List.drop_zero,Nat.sub_zero];by_cases h:xs.length<=12
 ·rw[Nat.min_eq_right h,aa0,abw h]
 ·rw[Nat.min_eq_left ()]
theorem YK{xs:List V}:dD xs (some 1) none=xs.tail:=by
 unfold dD;have b:HT.eX xs.length xs.length none=xs.length:=rfl;rw[b]
 cases xs with
 |nil=>simp
 |cons a r=>
  have b:HT.eX (a::r).length 0 (some 1)=1:=by
   unfold HT.eX;simp
  rw[b];simp
theorem Eb{α:Type}{l m:List α}{i:Nat}(h:l.length<=i)(h':m.length<=1):(l++m).length<=i+1:=by rw[aaQ];lia
theorem OB{x:Int}(h:row.length<=12):dD (row.map V.int++[x].map V.int) none (some 12)=(if row.length<12 then row++[x] else row).map V.int:=by
 rw[T7,<-aay,<-List.map_take];split
 ·rw[abw (by simp;lia)]
 ·rw[abC (),abw h]
abbrev kB:Stmt:=top 74
def Ec(K:W.Frag):Sp:=λvs H Q _=>Km K vs H Q
theorem yi(D:cV K mg "_law_worked" "_law_worked" kB cG)(T:Tx K mg C CN CR F FD)(lN:Def P w K mg base "_law_worth" 1 b0 Ea):Def P w K mg base "_law_worked" 2 cG (Ec K):=by
 exists["_law_machine_here","_law_state","_law_way","_law_said","_law_numbers","_law_row","_law_sent","_law_words","_law_left","_law_deed_here","_law_worths"];let(mt,g,lr,ld,st,k,a,M,xs,U,ns,row,rfl,YJ,Yv,vt,oI,FT,qv,hb,pB,Qh,aW,q):=h;have g:=hr.units;refine(_,(ai (aT (i:=4) sc rfl Sort (c9 cq rfl T.d9 kW (ag (ak g (aq 1) aj) aa)))
  (ai (aT (i:=5) sc rfl Sort (c9 cq rfl T.d9 kW (ag (ak g (aq 1) aj) aa)))
  (ai (aT (i:=6) sc rfl Sort (bH aa))
  (ai (aT (i:=7) sc rfl Sort (bH aa))
  (ai (aT (i:=8) sc rfl Sort aj)
  (ai (fc PassesOwn.never rfl (cj (ak g (aq 0) aj)) (bg (i:=9) sc rfl Sort)
  (ai (gL (i:=10) sc rfl Sort (N':=ek) (ix:=[none,some 2,some 3,some 4,some 5,some 0]) (cj (pv 9)) (λ_ _ _ _=>(bg (i:=0) (show(ek:List Str).Nodup by decide +kernel) rfl Sort)) (λ_ _ _ _=>(mE (bN (bf (wm (K:=K) rfl) rfl T.bc vO (ag (aq 0) (ag (dy (v:=.ty "tuple") rfl T.cu iY rfl) aa)))))) (λ_ _ _ _=>(aN lN hr (ag (aq 0) (ag (bz (ag (aq 3) (ag (aq 4) aa))) (ag (aq 1) (ag (aq 2) (ag (fV (K:=K) rfl g (aq 5) aj) aa))))))))
  (ao (aY (aC p7 (aq 8) aj (aI _)) (ao (aT (i:=8) sc rfl Sort (aR dX (aq 8) aj))) (ao (aY (aC (aZ g) (ak g (aq 9) aj) aD (aI _)) (ao (eP (ak g (aq 10) aj) (iu (aq 4) (ak g (aq 9) aj) dH))) (ao (aY (aC (aZ g) (ak g (aq 9) aj) aD (aI _)) (ao (eP (aR cp (aR cE (ak g (aq 4) (ak g (aq 9) aj)) (ak g (aq 10) aj)) (ak g (aq 0) aj)) (iu (aq 4) (ak g (aq 9) aj) dH))) (ao (aY (aC (aZ g) (ak g (aq 9) aj) aD (aI _)) (ao (eP (aR cp (aR mH (ak g (aq 4) (ak g (aq 9) aj)) (ak g (aq 10) aj)) (ak g (aq 0) aj)) (iu (aq 4) (ak g (aq 9) aj) dH))) (ao (aY (aC (aZ g) (ak g (aq 9) aj) aD (aI _)) (ao (aT (i:=5) sc rfl Sort (xU (aR cE (aq 5) (aq 10)) sk (ja aj)))) (ao (aY (aC (aZ g) (ak g (aq 9) aj) aD (aI _)) (ao (aT (i:=5) sc rfl Sort (xU (aq 5) (ja aj) sk))) (ao (aY (aC (aZ g) (ak g (aq 9) aj) aD (aI _)) (ao (bR (dg pO rZ r6 cm (aq 6) (ag (bz (ag (ak g (aq 9) aj) (ag (ak g (aq 10) aj) aa))) aa)))) (ao (aY (aC (aZ g) (ak g (aq 9) aj) aD (aI _)) (ao (bR (dg pO rZ r6 cm (aq 7) (ag (ak g (aq 10) aj) aa)))) (ao (aY (aC gT (ak g (aq 10) aj) (ak g (aq 10) aj) (aI _)) (ao (aT (i:=8) sc rfl Sort (ak g (aq 9) aj))) aJ))))))))))))))))))))
  (ao (aH (bz (ag (bz (ag (c9 ck rfl T.cu iY (ag (aq 4) aa)) (ag (c9 ck rfl T.cu iY (ag (aq 5) aa)) aa))) (ag (aq 6) (ag (aq 7) aa)))))))))))),?_)
 let(sa,sb,Yw,rfl,Yx,X5,hsc):=oI;have Mr:0<M:=by lia
 walk_at "j";refine da Yx rfl ?_;walk_at "j";refine bQ _ X5 (λB TY=>?_);have s1:=av.new (.lst (ns.map V.int)) TY;walk_at "j";refine da (s1 _ _ Yx) rfl ?_;walk_at "j";have g:aV K (upd H B (.lst (ns.map V.int))) Yw (row.map V.int)\/bI K (upd H B (.lst (ns.map V.int))) Yw (row.map V.int):=hsc.elim (λz=>.inl (s1.seq z)) (λz=>.inr (s1.Vx z));refine bQ _ g (λN F3=>?_);have s2:=av.new (.lst (row.map V.int)) F3;walk_at "j";refine(aaO _,λG qA=>?_);have m:=av.new (.lst []) qA;walk_at "j";refine(aaO _,λI nC=>?_);have s4:=av.new (.lst []) nC;walk_at "j";have nra:N≠B:=λz=>by subst z;rw[af]at F3;cases F3
 have hrH:H N=none:=s1.free F3;have hsH:H G=none:=(s1.trans s2).free qA;have hwH:H I=none:=(s1.trans (s2.trans m)).free nC;have nsa:G≠B:=λz=>by subst z;rw[s2 _ _ af]at qA;cases qA
 have nsr:G≠N:=λz=>by subst z;rw[af]at qA;cases qA
 have nwa:I≠B:=λz=>by subst z;rw[m _ _ (s2 _ _ af)]at nC;cases nC
 have nwr:I≠N:=λz=>by subst z;rw[m _ _ af]at nC;cases nC
 have nws:I≠G:=λz=>by subst z;rw[af]at nC;cases nC
 have g:=s1.trans (s2.trans (m.trans s4));have exs:xs.length=U.length:=by simpa using vt.1
 refine da (g _ _ YJ) (aA (j:=3) rfl) (.inl ((_,aV.of (g _ _ Yv)),fw (K:=K) (xs:=xs) (OA H mt (.ref sa) k a M U ns row) ?_ ?_ ?_ ?_))
 ·refine(B,N,G,I,[],none,none,0,(ns,row,[],[]),rfl,g,TY,hrH,hsH,hwH,Ne.symm nra,Ne.symm nsa,Ne.symm nwa,Ne.symm nsr,Ne.symm nwr,Ne.symm nws,s4 _ _ (m _ _ (s2 _ _ af)),s4 _ _ (m _ _ af),s4 _ _ af,(rfl,λi z p e=>by simp at e),af,rfl,hb,pB,S' _,S' _,Kl)
 ·intro i σ H1 hi jl;let(B,N,G,I,zs,z9,TV,l,s,rfl,sH,_):=jl;exact aV.of (sH _ _ Yv)
 ·intro i x σ H1 hxi jm;nofun;let(B,N,G,I,zs,z9,TV,l,s,rfl,sH,a1,a2,a3,a4,n1,n2,n3,n4,n5,n6,L,X,O,Ki,R,Ms,Mo,Ak,F4,hwn,Y):=jm;have uY:i < U.length:=by rw[<-exs];exact(List.getElem?_eq_some_iff.mp hxi).1
  have rC:=aW U[i] (aaV uY);have hx:=(vt.2 i x (bA.dv U[i]) hxi (by rw[J',cT uY];rfl)).aM sH.aU;have VE:U.drop i=U[i]::U.drop (i+1):=List.drop_eq_getElem_cons uY;generalize Dy:U[i]=d at rC hx VE;rw[VE]at Y;let(pa,xp,os,k0,rfl,hpa,se,T8,vB):=DS hx;ac_rfl;walk_at "j";refine bT ?_;walk_at "j";refine .inr ((_,bI.of hpa),λD hD=>?_);have M7:=Ah (d:=d);refine bF (J:=WG K pa) (n:=xp.length) (λi ys H'=>ys=(((os.take i).filterMap id).map (fW M k a s.ns s.row)).map V.int/\av H1 H') (U' (aG ())) (rfl,av.new _ hD) ?_ ?_ ?_ ?_
  ·rintro i ys H' hi ⟨_,m⟩;exact(_,xp[i],bI.of (m _ _ hpa),cT hi)
  ·rintro ys H' ⟨_,m⟩;exact(_,bI.of (m _ _ hpa),S' _)
  ·intro i ys S hi bE wN qt y H4 yd;nofun;let(rfl,m):=qt;let(rfl,g):=yd;have T:=g _ (bI.of (m _ _ hpa));let(o,ho,J7):=se.get T;ac_rfl;have Ae:os.take (i+1)=os.take i++[o]:=by
    rw[abt,ho];rfl
   calc(Ext.set (Ext.refl _) rfl,?_);walk_at "j";rcases J7 with⟨rfl,hc⟩|⟨v,rfl,hvx⟩
   ·have ety:∃t,gS K H4 y t/\W.kitOne K t (.type "tuple")=some false:=by
     rcases hc with⟨w,rfl⟩|⟨j,rfl⟩
     ·exact(_,.str w,rfl)
     ·exact(_,.int j,rfl)
    let(t,h1,h2):=ety;refine dC t false h1 h2 ?_
    first|calc(false,rfl,?_)|skip
    walk_at "j"
    try rw[if_neg T']
    exact(_,bE,(),by rw[Ae];simp,m)
   ·have J8:=hvx.aM m.aU;let(b,Mu,rfl,gx):=Ds J8;refine dC _ true (.tup gx) rfl ?_
    first|calc(true,rfl,?_)|skip
    walk_at "j"
    try first|rw[if_pos rfl]|rw[if_pos trivial]
    have jr:v.ok ns.length:=pD rC v (by rw[<-T8];exact List.mem_filterMap.mpr (some v,aaT ho,rfl));walk_at "j";refine(cP,λy t=>?_);have g:=av.new (.tup [.ref B,.ref N]) t;refine da (g _ _ (m _ _ (sH _ _ YJ))) (aA (j:=0) rfl) ?_;refine(.ref b,y,B,N,k,a,M,v,s.ns,s.row,k0,rfl,J8.aM g.aU,af,g _ _ (m _ _ L),g _ _ (m _ _ X),by rw[Ms];exact jr,Mr,Ak,λT t=>?_);refine cD (t _ _ (g _ _ bE)) wN hi (U' (aG ())) (?_,λc o e=>by rw[ay (au e hD)];exact t _ _ (g _ _ (m _ _ e)));rw[Ae,List.filterMap_append,aay,aay];rfl
  rintro ys S bE wN ⟨rfl,m⟩;rw[se.len,aa0,T8]at bE;have G9:H1 D=none:=hD;nofun;generalize g:d.vals.map (fW M k a s.ns s.row)=ws at bE;have k6:ws.length=d.vals.length:=by rw[<-g];simp
  have YB:0<=ws.getD 0 0/\ws.getD 0 0<M:=by rw[<-g];exact wU Mr
  have D7:kS M k a d s=(jZ M s.ns (ws.getD 0 0) d,oX s.row (ws.getD 0 0) d,s.cM++iz (ws.getD 0 0) d,s.words++gp (ws.getD 0 0) d):=by rw[<-g];rfl
  have D8:mY M k a d s=oY (ws.getD 0 0) (ws.getD 1 0) d:=by rw[<-g];rfl
  have g:∀{b:Addr} {o:HO},H1 b=some o->b≠D:=λe=>au e G9;have pS:av H S:=sH.trans m;have Mv:=hx.aM m.aU;have yj:=Ki.aM m.aU;have t:B≠D:=g L;have t:N≠D:=g X;have t:G≠D:=g O;have t:I≠D:=g R;have nPs:∀{b:Addr} {ys zs:List V},S b=some (.tup ys)->∀{c:Addr},S c=some (.lst zs)->b≠c:=λh1 _ h2 z=>by subst z;rw[h1]at h2;cases h2
  have ad9:=pS _ _ YJ
  replace L:=m _ _ L
  replace X:=m _ _ X
  replace O:=m _ _ O
  replace R:=m _ _ R
  ac_rfl;clear se T8 vB M7 wN hx
  cases l with
  |succ l=>
   walk_at "j";rw[if_pos nofun];walk_at "j";refine(B,N,G,I,zs,some (.ref pa),some (.ref D),l,s,?_,pS,a1,a2,a3,a4,n1,n2,n3,n4,n5,n6,L,X,O,yj,R,Ms,Mo,Ak,(),(),Y);have:((l+1:Nat):Int)-1=((l:Nat):Int):=by lia
   rw[this]
  |zero=>
  replace Y:Qo M k a (mY M k a d s).toNat (U.drop (i+1)) (kS M k a d s)=oZ M k a U ns row:=Y
  rw[D7,D8]at Y;walk_at "j"
  try rw[if_neg nofun]
  have g:((ns.length:Nat):Int)=s.ns.length:=by rw[Ms]
  have Z:∀H6 Qp Mu n' r' sn' w' (k':Nat),uy M s.ns s.row (ws.getD 0 0) (ws.getD 1 0) d=((n'),r',sn',w',((k':Nat):Int))->av H H6->H Qp=none->B≠Qp->Qp≠G->Qp≠I->H6 B=some (.lst (n'.map V.int))->H6 Qp=some (.lst (r'.map V.int))->H6 G=some (.lst Mu)->SL H6 Mu (s.cM++sn')->H6 I=some (.lst ((s.words++w').map V.int))->OA H mt (.ref sa) k a M U ns row (i+1) [some (.ref mt),some (.ref sa),some (.int k),some (.int a),some (.ref B),some (.ref Qp),some (.ref G),some (.ref I),some (.int ((k':Nat):Int)),some (.ref pa),some (.ref D)] H6:=by
   clear bE Mv yj L X O R ad9 nPs;intro H6 Qp Mu n' r' sn' w' k' E f0 f1 f2 f3 f4 f5 f6 f7 f8 f9;simp only[uy,Prod.mk.injEq]at E;let(rfl,rfl,rfl,rfl,E):=E;rw[E,aaX]at Y;have g:=Ai (w:=ws.getD 0 0) (d:=d);exact(B,Qp,G,I,Mu,_,_,k',(_,_,_,_),rfl,f0,a1,f1,a3,a4,f2,n2,n3,f3,f4,n6,f5,f6,f7,f8,f9,qf.trans Ms,D0 (d:=d) Mr Mo YB,Kf (d:=d) Ak,Eb F4 g.1,Eb hwn g.2,Y)
  have B8:∀r x,uy M s.ns s.row (ws.getD 0 0) (ws.getD 1 0) d=((s.ns.set r x),s.row,[],[],0)->OA H mt (.ref sa) k a M U ns row (i+1) [some (.ref mt),some (.ref sa),some (.int k),some (.int a),some (.ref B),some (.ref N),some (.ref G),some (.ref I),some (.int 0),some (.ref pa),some (.ref D)] (upd S B (.lst ((s.ns.map V.int).set r (.int x)))):=λr x E=>by
   have t6:cw S (upd S B (.lst ((s.ns.map V.int).set r (.int x)))):=(cw.refl _).upd λys e=>by rw[L]at e;cases e
   exact Z _ N zs _ _ _ _ 0 E (λb o e=>by rw[ay (au e a1)];calc pS _ _ e) a2 n1 n4 n5 (by rw[af,List.map_set]) (by rw[ay (Ne.symm n1)];calc X) (by rw[ay (Ne.symm n2)];calc O) (by rw[aaP];calc yj.aM t6) (by rw[ay (Ne.symm n3),aaP];calc R)
  have Nk:=wR Mv rC;clear Mv rC Y D7 D8;have Qk:∀r:Nat,((r:Nat):Int)<ns.length->Bp (s.ns.map V.int).length ((r:Nat):Int)=some r/\iZ (s.ns.map V.int) ((r:Nat):Int)=some (.int (s.ns.getD r 0)):=λr hj=>(lJ (by rw[aau];lia),iF ())
  cases Nk with
  |set r u hj ha hl E=>
   have DX:=iF (ws:=ws) (j:=0) ();let(x1,x2):=Qk r hj;walk_at "jg";refine dC _ r L x1 ?_;exact B8 _ _ (E _ _ _ _ _)
  |add r u hj ha hl E=>
   have DX:=iF (ws:=ws) (j:=0) ();let(x1,x2):=Qk r hj;walk_at "jg";refine(Mr,?_);walk_at "jg";refine dC _ r L x1 ?_;exact B8 _ _ (E _ _ _ _ _)
  |times r u hj ha hl E=>
   have DX:=iF (ws:=ws) (j:=0) ();let(x1,x2):=Qk r hj;walk_at "jg";have g:=DU Mo (j:=r) ();refine(.inl ((),()),?_);walk_at "jg";refine(Mr,?_);walk_at "jg";refine dC _ r L x1 ?_;exact B8 _ _ (E _ _ _ _ _)
  |put u ha hl E=>
   let(g,aea):=adI (k6.trans hl);walk_at "jg";refine .inl (_,_,X,bE,U' (aG (by simp;lia)),λg yV=>?_);have s6:=av.new (.lst (s.row.map V.int++ws.map V.int)) yV;walk_at "jg";refine .inl (_,af,λl3 Cc=>?_);have s7:=av.new (.lst (dD (s.row.map V.int++ws.map V.int) none (some 12))) Cc;have g:=s6.trans s7;have f3:S l3=none:=s6.free Cc;exact Z _ l3 zs _ _ _ _ 0 (E _ _ _ _ _) (pS.trans g) (pS.free f3) (au L f3) (Ne.symm (au O f3)) (Ne.symm (au R f3)) (g _ _ L) (by rw[af,aea];exact congrArg (λz=>some (HO.lst z)) (OB Ak)) (g _ _ O) (by rw[aaP];exact yj.aM g.aU) (by rw[aaP];exact g _ _ R)
  |drop ha E=>
   walk_at "jg";refine .inl (_,X,λl3 Cc=>?_);have s7:=av.new (.lst (dD (s.row.map V.int) (some 1) none)) Cc;exact Z _ l3 zs _ _ _ _ 0 (E _ _ _ _ _) (pS.trans s7) (pS.free Cc) (au L Cc) (Ne.symm (au O Cc)) (Ne.symm (au R Cc)) (s7 _ _ L) (by rw[af,YK,List.map_tail]) (s7 _ _ O) (by rw[aaP];exact yj.aM s7.aU) (by rw[aaP];exact s7 _ _ R)
  |send j u ha hl E=>
   have DX:=iF (ws:=ws) (j:=0) ();walk_at "jg";refine(.inl (rfl,_,aV.of O),?_);walk_at "jg";refine(cP,λtp GL=>?_);have s6:=av.new (.tup [.int j,.int (ws.getD 0 0)]) GL;walk_at "jg";refine gU _ (s6 _ _ O) (aby (by have:=Ki.1;lia) (aG (n:=100) ())) ?_;have t6:cw (upd S tp (.tup [.int j,.int (ws.getD 0 0)])) (upd (upd S tp (.tup [.int j,.int (ws.getD 0 0)])) G (.lst (zs++[.ref tp]))):=(cw.refl _).upd λys e=>by rw[s6 _ _ O]at e;cases e
   have q6:∀b o,b≠G->S b=some o->upd (upd S tp (.tup [.int j,.int (ws.getD 0 0)])) G (.lst (zs++[.ref tp])) b=some o:=λb o ne e=>by rw[ay ne];exact s6 _ _ e
   calc Z _ N _ _ _ _ _ 0 (E _ _ _ _ _) (λb o e=>q6 b o (au e a3) (pS _ _ e)) a2 n1 n4 n5 (q6 _ _ n2 L) (q6 _ _ n4 X) af ((yj.aM (s6.aU.trans t6)).snoc (di (n:=0) (t6 _ _ af) (.int _) (.int _))) (by rw[aaP];calc q6 _ _ (Ne.symm n6) R)
  |say u ha hl E=>
   have DX:=iF (ws:=ws) (j:=0) ();walk_at "jg";refine(.inl (rfl,_,aV.of R),?_);walk_at "jg";refine gU _ R (aby (by simp;lia) (aG (n:=100) ())) ?_;have t6:cw S (upd S I (.lst (s.words.map V.int++[.int (ws.getD 0 0)]))):=(cw.refl _).upd λys e=>by rw[R]at e;cases e
   have q6:∀b o,b≠I->S b=some o->upd S I (.lst (s.words.map V.int++[.int (ws.getD 0 0)])) b=some o:=λb o ne e=>by rw[ay ne];exact e
   calc Z _ N zs _ _ _ _ 0 (E _ _ _ _ _) (λb o e=>q6 b o (au e a4) (pS _ _ e)) a2 n1 n4 n5 (q6 _ _ n3 L) (q6 _ _ n5 X) (q6 _ _ n6 O) (by rw[aaP];calc yj.aM t6) (by rw[af,aay];rfl)
  |skip u v kk ha hl E=>
   have DX:=iF (ws:=ws) (j:=0) ();have g:=iF (ws:=ws) (j:=1) ();have E:=E M s.ns s.row (ws.getD 0 0) (ws.getD 1 0);walk_at "jg";by_cases OC:ws.getD 0 0<ws.getD 1 0
   ·rw[if_pos OC]at E;walk_at "j";rw[if_pos (aaL OC)];walk_at "jg";exact Z _ N zs _ _ _ _ kk E pS a2 n1 n4 n5 L X O (by rw[aaP];exact yj) (by rw[aaP];exact R)
   ·rw[if_neg OC]at E;walk_at "j";rw[if_neg λz=>OC (aa1 z)];walk_at "jg";exact Z _ N zs _ _ _ _ 0 E pS a2 n1 n4 n5 L X O (by rw[aaP];exact yj) (by rw[aaP];exact R)
 ·intro σ H1 B3;let(B,N,G,I,zs,z9,TV,l,s,rfl,sH,a1,a2,a3,a4,n1,n2,n3,n4,n5,n6,L,X,O,Ki,R,Ms,Mo,Ak,F4,hwn,Y):=B3;rw[exs,List.drop_length] at Y;have Y:s=oZ M k a U ns row:=by rw[<-Y];cases l <;> rfl
  walk_at "j";refine .inl (_,aV.of L,λt1 zQ=>?_);have r1:=av.new (.tup (s.ns.map V.int)) zQ;walk_at "j";refine .inl (_,aV.of (r1 _ _ X),λt2 rB=>?_);have r2:=av.new (.tup (s.row.map V.int)) rB;walk_at "j";refine(cP,λt3 AO=>?_);have r3:=av.new (.tup [.ref t1,.ref t2]) AO;walk_at "j";refine(by show 3<=sizeLine;decide,λa i=>?_);have g:=av.new (.tup [.ref t3,.ref G,.ref I]) i;have a:=r1.trans (r2.trans (r3.trans g));refine q _ _ (sH.trans a) (_,_,G,I,zs,rfl,af,?_,a _ _ O,?_,?_,a3,a4,n6)
  ·rw[<-Y];exact(di af (oW (r3 _ _ (r2 _ _ af))) (oW (r3 _ _ af))).aM g.aU
  ·rw[<-Y];exact Ki.aM a.aU
  ·rw[<-Y];calc a _ _ R
noncomputable def m7(n:Nat->Nat)(ad:Nat->Nat->Addr)(t:Nat):List V:=(List.range (n t)).map λi=>V.ref (ad t i)
theorem uB{n:Nat->Nat}{t:Nat}:(m7 n ad t).length=n t:=by simp[m7]
theorem bt{n:Nat->Nat}{t i:Nat}(h:i<n t):iZ (m7 n ad t) (i:Int)=some (.ref (ad t i)):=aA (by simp[m7,h])
noncomputable def Hc(a:V)(p:Addr)(o:Nat->Addr):List (Str×V):=[(("own_net"),a),(("picks_done"),.ref p),(("states_had"),.ref (o 1)),(("words_had"),.ref (o 2)),(("words_said"),.ref (o 3)),(("letters_say"),.ref (o 4)),(("senders"),.ref (o 5)),(("workers"),.ref (o 6))]
section
variable {bq:V}{p:Addr}{o:Nat->Addr}
theorem qB:(Hc bq p o).lookup ("own_net":Str)=some bq:=by kernel_rfl
theorem YL:(Hc bq p o).lookup ("picks_done":Str)=some (.ref p):=by kernel_rfl
theorem Kn:(Hc bq p o).lookup ("states_had":Str)=some (.ref (o 1)):=by kernel_rfl
theorem aeb:(Hc bq p o).lookup ("words_had":Str)=some (.ref (o 2)):=by kernel_rfl
theorem YM:(Hc bq p o).lookup ("words_said":Str)=some (.ref (o 3)):=by kernel_rfl
theorem OD:(Hc bq p o).lookup ("letters_say":Str)=some (.ref (o 4)):=by kernel_rfl
theorem YN:(Hc bq p o).lookup ("senders":Str)=some (.ref (o 5)):=by kernel_rfl
theorem Ko:(Hc bq p o).lookup ("workers":Str)=some (.ref (o 6)):=by kernel_rfl
end
structure uC(C CN:Addr)(H:Hp)(bq:Addr)(nt:NT):Prop where
 ex:∃ms wv lv,lM CN H bq ms wv lv/\ms.length=nt.ms.length/\(∀(i:Nat) m d,ms[i]?=some m->nt.ms[i]?=some d->VC C H m d)/\gJ H 1 wv (nt.ws.map mQ)
 ok:nt.Ok
theorem VC.fr{C:Addr}{d:MD}(f:Fr Z H H')(h:VC C H m d):VC C H' m d:=by
 let(a,st,dd,b,c,e):=h;calc(a,st,dd,f.mO b id,c.aM f.aU,e.aM f.aU)
theorem lM.fr{CN:Addr}{x:Addr}(f:Fr Z H H')(h:lM CN H x ms wv lv):lM CN H' x ms wv lv:=by
 let(d,a,b,c,e,g,i,j):=h;calc(d,a,b,c,f.mO e id,f.mO g id,f.mO i id,f.mO j id)
theorem uC.fr{C CN:Addr}{c:Addr}{nt:NT}(f:Fr Z H H')(h:uC C CN H c nt):uC C CN H' c nt:=by
 let((ms,wv,lv,c,e,g,j),k):=h;calc((ms,wv,lv,c.fr f,e,λi m d a b=>(g i m d a b).fr f,j.aM f.aU),k)
structure bW(C CN CR:Addr)(F:Addr->Prop)(H:Hp)(x bq:Addr)(nt:NT)(r:RS)(ad:Nat->Nat->Addr):Prop where
 ins:∃dx o,H x=some (.ins CR dx (Hc (.ref bq) (ad 0 0) o))/\∀t,1<=t->t<=6->H (o t)=some (.lst (m7 nt.n ad t))/\¬F (o t)/\¬FP nt.n ad (o t)
 cI:dJ F H nt.n ad r.ct
 OE:uC C CN H bq nt
section
variable {C CN CR:Addr}{F:Addr->Prop}{H H':Hp}{x bq:Addr}{nt:NT}{r:RS}{ad:Nat->Nat->Addr}
theorem bW.keep(h:bW C CN CR F H x bq nt r ad)(f:Fr F H H'):bW C CN CR F H' x bq nt r ad:=by
 let((d,o,e,c),g,i):=h;calc((d,o,f.mO e id,λt a b=>(f.at (c t a b).1 (c t a b).2.1,(c t a b).2)),g.keep f,i.fr f)
theorem bW.same(h:bW C CN CR F H x bq nt r ad)(s:av H H'):bW C CN CR F H' x bq nt r ad:=h.keep s.fr
theorem bW.own{c:RS}(h:bW C CN CR F H x bq nt r ad)(f:Fr (FP nt.n ad) H H')(b:dJ F H' nt.n ad c.ct):bW C CN CR F H' x bq nt c ad:=by
 let((d,o,e,c),i,g):=h;calc((d,o,f.mO e id,λt a b=>(f.at (c t a b).1 (c t a b).2.2,(c t a b).2)),b,g.fr f)
end
noncomputable abbrev jy:Stmt:=(cn (top 61)).getD 6 (.Pass (0,0,0,0))
noncomputable def uD(nt:NT)(e j:Nat):Int:=if e=0 then(nt.w j).1 else(nt.w j).2.1
noncomputable def vC(nt:NT)(e m:Nat):List Nat:=(List.range nt.ws.length).filter λj=>decide (uD nt e j=m)
def Cd(C CN:Addr):Sp:=λvs H Q _=>∃(x:Addr) (nt:NT) (m e:Nat),vs=[.ref x,.int m,.int e]/\uC C CN H x nt/\m<nt.ms.length/\e<2/\∀l H',av H H'->H l=none->H' l=some (.lst ((vC nt e m).map λi=>.int (i:Nat)))->Q (.ref l) H'
theorem vD(D:ic K CN "ways_at" "Net.ways_at" jy g0)(T:Tx K mg C CN CR F FD)(S:Def P w K mg base "is_within" 2 aP cf):cy P w K mg base CN "ways_at" 3 g0 (Cd C CN):=by
 exists g0;let(x,d,m,e,rfl,z,B,I,q):=h;have I:=hr.units;refine(_,(ai (aY (cC (bN (aN S hr (ag (aq 1) (ag aj (ag (bf aO rfl T.bV X' (ag (bL (aq 0) rfl) aa)) aa)))))) (ao dz) aJ)
  (ao (aH (dR (N':=["number","way","m","end"]) (ix:=[none,none,some 1,some 2]) (kb rfl T.dS (ag (bL (aq 0) rfl) aa)) (λ_ _ _ _=>(mI (K:=K) rfl (i:=0) (j:=1) rfl (show(["number","way","m","end"]:List Str).Nodup by decide +kernel) rfl rfl Sort Sort)) (λ_ _ _ _=>(mE (aC (pk (K:=K) rfl I) (fV (K:=K) rfl I (aq 1) (aq 3)) (aq 2) (aI _)))) (λ_ _ _ _=>(aq 0)))))),?_)
 nofun;let((ms,wv,lv,U,W,I,L),X):=id z;let(Y,a,b,I,M,Z,l,S):=id U;ac_rfl;walk_at "j";refine(x,CN,Y,_,_,rfl,M,T.cR,T.zK,YE,_,.inr (_,bI.of Z,rfl),?_);refine fH (.int m) _ 0 _ rfl (.int _) ?_;rw[show inR 0 (((ms.map V.ref).length:Nat):Int) (.int (m:Int))=true by simp[inR,W,B]];refine vn ?_;rw[if_neg ∅];walk_at "j";refine bT ?_;walk_at "j";refine fR M T.cR T.zL YF ?_;walk_at "j";refine Jw false wv (Sq.t l) (λD r=>?_);have k6:wv.length=d.ws.length:=by simpa using L.1
 have x:=X.Fy;refine bF (J:=SI false K b) (n:=wv.length) (λi ys H'=>av H H'/\ys=((List.range i).filter λj=>decide (uD d e j=m)).map λj=>V.int (j:Nat)) (U' (aG ())) (av.new _ r,rfl) ?_ ?_ ?_ ?_
 ·rintro i ys H' u ⟨g,_⟩;exact(wv,wv[i],Sq.t (g _ _ l),cT u)
 ·rintro ys H' ⟨g,_⟩;exact(wv,Sq.t (g _ _ l),rfl)
 ·intro i ys H' u p N jl xx H4 jm;nofun;let(g,rfl):=jl;let(t,ht,rfl,y):=jm;let(k,ex,rfl):=y wv (Sq.t (g _ _ l));have x:i < d.ws.length:=by lia
  have o:=(L.2 i k (mQ (d.w i)) ex (by rw[J',show d.ws[i]?=some (d.w i) from bu x];rfl)).aM g.aU;have v:=av.new (.tup [.int (i:Nat),k]) ht
  replace o:=o.aM v.aU
  have rB:upd H' t (.tup [.int (i:Nat),k]) t=some (.tup [.int (i:Nat),k]):=af;have O:=v _ _ p;have R:=g.trans v;generalize hG:upd H' t (.tup [.int (i:Nat),k])=G at *;let(ta,u1,u2,u3,kk,rfl,vE,g1,g2,g3):=bZ o;obtain rfl:=g1.cN;obtain rfl:=g2.cN;obtain rfl:=g3.cW;ac_rfl;calc wD (bI.of rB) (Ext.set (Ext.set (Ext.refl _) rfl) rfl,?_);walk_at "j";have YO:iZ [V.int (d.w i).1,V.int (d.w i).2.1,V.str (d.w i).2.2] (e:Int)=some (.int (uD d e i)):=by
   have:e=0\/e=1:=by lia
   rcases this with rfl|rfl
   ·exact aA (j:=0) rfl
   ·exact aA (j:=1) rfl
  calc da vE YO ?_;walk_at "j";have k:(List.range (i+1)).filter (λj=>decide (uD d e j=m))=(List.range i).filter (λj=>decide (uD d e j=m))++(if uD d e i=m then[i] else[]):=by
   rw[List.range_succ,List.filter_append];congr 1;by_cases z:uD d e i=m<;>simp[z]
  by_cases z:uD d e i=m
  ·rw[if_pos (by simp[z])];calc cD O N u (U' (aG ())) (λc o e=>by rw[ay (au e r)];calc R _ _ e,?_);rw[k,if_pos z,aay];rfl
  ·rw[if_neg (by simp[z])];exact(_,O,(),R,by rw[k,if_neg z,aaP])
 ·rintro ys H' p N ⟨g,rfl⟩;rw[k6]at p;calc q _ _ g r p
noncomputable abbrev iH:Stmt:=(cn (top 61)).getD 4 (.Pass (0,0,0,0))
def rF(C CN:Addr):Sp:=λvs H Q _=>∃(x:Addr) (nt:NT) (m:Nat),vs=[.ref x,.int m]/\uC C CN H x nt/\m<nt.ms.length/\∀l H',av H H'->H l=none->H' l=some (.lst ((vC nt 0 m).map λi=>.int (i:Nat)))->Q (.ref l) H'
theorem uE(D:ic K CN "ways_out" "Net.ways_out" iH bh)(T:Tx K mg C CN CR F FD)(g:cy P w K mg base CN "ways_at" 3 g0 (Cd C CN)):cy P w K mg base CN "ways_out" 4 bh (rF C CN):=by
 exists bh;let(x,d,m,rfl,c,e,q):=h;have k:=hr.units;refine(_,(ao (aH (fz g T.cR hr (aq 0) (ag (aq 1) (ag aj aa))))),?_);nofun;let((ms,wv,lv,i,k,l,n),o):=id c;let(g,a,b,k,j,l,n,o):=id i;ac_rfl;walk_at "j";refine gN j (eZ ⋯ ⋯ ⋯) ?_;exact(x,d,m,0,rfl,c,e,∅,q)
noncomputable abbrev jz:Stmt:=(cn (top 61)).getD 5 (.Pass (0,0,0,0))
def uF(C CN:Addr):Sp:=λvs H Q _=>∃(x:Addr) (nt:NT) (m:Nat),vs=[.ref x,.int m]/\uC C CN H x nt/\m<nt.ms.length/\∀l H',av H H'->H l=none->H' l=some (.lst ((vC nt 1 m).map λi=>.int (i:Nat)))->Q (.ref l) H'
theorem vF(D:ic K CN "ways_in" "Net.ways_in" jz bh)(T:Tx K mg C CN CR F FD)(g:cy P w K mg base CN "ways_at" 3 g0 (Cd C CN)):cy P w K mg base CN "ways_in" 4 bh (uF C CN):=by
 exists bh;let(x,d,m,rfl,c,e,q):=h;have k:=hr.units;refine(_,(ao (aH (fz g T.cR hr (aq 0) (ag (aq 1) (ag aj aa))))),?_);nofun;let((ms,wv,lv,i,k,l,n),o):=id c;let(g,a,b,k,j,l,n,o):=id i;ac_rfl;walk_at "j";refine gN j (eZ ⋯ ⋯ ⋯) ?_;exact(x,d,m,1,rfl,c,e,∅,q)
def FS(F:Addr->Prop)(H:Hp):Prop:=∀b,F b->∃o,H b=some o/\soft o
theorem FS.fr{F:Addr->Prop}(h:FS F H)(f:Fr Z H H')(hz:∀b,F b->¬Z b):FS F H':=λb a=>by
 let(o,e,s):=h b a;calc(o,f.at e (hz b a),s)
theorem _root_.DD.dJ.yk{F:Addr->Prop}{n:Nat->Nat}{ct:Nat->Nat->CO}(h:dJ F H n ad ct):∀b,F b->¬FP n ad b:=λb a (t,i,c,e)=>h.out t i c (e▸a)
theorem small{n:Nat}(h:n<=20000):n<sizeLine:=by rw[abe];lia
theorem Ua{r:RS}{n:NT}{w:Nat}{x:Int}{s:Option (Int×Int)}:∀t i,i<n.n t->setC (setC (setC r.ct 4 w (.l ((r.ww w).say.map .int++[.int x]))) 5 w (.l ((r.ww w).snd.map oG++[oG s]))) 6 w (.l ((r.ww w).fb.map oG++[.bG])) t i=(r.put w x s).ct t i:=by
 intro t i a;unfold setC
 match t,a with
 |0,_=>simp[RS.ct,RS.put]
 |1,_=>simp[RS.ct,RS.put]
 |2,_=>simp[RS.ct,RS.put]
 |3,_=>simp[RS.ct,RS.put]
 |4,_=>by_cases e:i=w<;>simp[RS.ct,RS.put,e]
 |5,_=>by_cases e:i=w<;>simp[RS.ct,RS.put,e]
 |6,_=>by_cases e:i=w<;>simp[RS.ct,RS.put,e,oG]
 |(t+7),a=>calc absurd a (Nat.not_lt_zero i)
noncomputable abbrev gy:Stmt:=(cn (top 63)).getD 1 (.Pass (0,0,0,0))
inductive Ed(C CN CR:Addr)(vs:List V)(H:Hp)(Q:VK):Prop
 |mk (F:Addr->Prop) (x bq:Addr) (nt:NT) (r:RS) (ad:Nat->Nat->Addr) (wy:Nat) (said:Int) (sv:V) (s:Option (Int×Int)) (h0:vs=[.ref x,.int (wy:Nat),.int said,sv]) (h1:bW C CN CR F H x bq nt r ad) (h2:FS F H) (h3:wy<nt.ws.length) (h4:HT H 4 sv (oG s)) (h5:r.uX nt 19999) (h6:∀H',Fr (FP nt.n ad) H H'->bW C CN CR F H' x bq nt (r.put wy said s) ad->Q .bG H'):Ed C CN CR vs H Q
def uG(C CN CR:Addr):Sp:=λvs H Q _=>Ed C CN CR vs H Q
theorem qC(D:ic K CR "put_letter" "Run.put_letter" gy dV)(T:Tx K mg C CN CR F FD):cy P w K mg base CR "put_letter" 1 dV (uG C CN CR):=by
 exists dV;let(F,x,o,g,r,ad,a,c,y,s,rfl,j,O,b,R,k,q):=h;have o:=hr.units;refine(_,(ai (bR (dg pO rZ r6 cm (ak o (bL (aq 0) rfl) (aq 1)) (ag (aq 2) aa)))
  (ai (bR (dg pO rZ r6 cm (ak o (bL (aq 0) rfl) (aq 1)) (ag (aq 3) aa)))
  (ao (bR (dg pO rZ r6 cm (ak o (bL (aq 0) rfl) (aq 1)) (ag k8 aa)))))),?_)
 nofun;let(x,o,z,d):=j.ins;have B:=j.cI;have W:=(d 4 ∅ ∅).1;have X:=(d 5 ∅ ∅).2.2;have Y:=(d 6 ∅ ∅).2.2;have o:=k.bs a b;have o:=k.ls a b;have o:=k.lk a b;let(l,m,o):=B.lst (t:=4) (i:=a) b rfl;ac_rfl;have k:l.length=(r.ww a).say.length:=by simpa using o.1
 walk_at "j";refine fR z T.bb T.cb OD ?_;walk_at "j";refine bC W (bt b) ?_;refine(.inl (rfl,_,aV.of m),?_);walk_at "j";refine gU l m (small ()) ?_;have G:=B.app (t:=4) (i:=a) b rfl m (e9.one (.int c));have e:Fr (FP g.n ad) H (upd H (ad 4 a) (.lst (l++[.int c]))):=Fr.refl.upd (4,a,b,rfl) m trivial;generalize Z:upd H (ad 4 a) (.lst (l++[.int c]))=S at *;walk_at "j";have sr:=e.mO z id;have I:=e.at (d 5 ∅ ∅).1 X;let(p,u,c):=G.lst (t:=5) (i:=a) b rfl;have k:p.length=(r.ww a).snd.length:=by simpa using c.1
 have J:=O.fr e B.yk;walk_at "j";refine fR sr T.bb T.fg YN ?_;walk_at "j";refine bC I (bt b) ?_;refine(.inl (rfl,_,aV.of u),?_);walk_at "j";refine gU p u (small ()) ?_;have U:=G.app (t:=5) (i:=a) b rfl u (e9.one (G.ht J (R.aM e.aU)));have L:Fr (FP g.n ad) H (upd S (ad 5 a) (.lst (p++[y]))):=e.upd (5,a,b,rfl) u trivial;generalize TF:upd S (ad 5 a) (.lst (p++[y]))=G2 at *;walk_at "j";have FV:=L.mO z id;have M:=L.at (d 6 ∅ ∅).1 Y;let(N,v,c):=U.lst (t:=6) (i:=a) b rfl;have d:N.length=(r.ww a).fb.length:=by simpa using c.1
 walk_at "j";refine fR FV T.bb T.de Ko ?_;walk_at "j";refine bC M (bt b) ?_;refine(.inl (rfl,_,aV.of v),?_);walk_at "j";refine gU N v (small ()) ?_;have d:=U.app (t:=6) (i:=a) b rfl v (e9.one (.bG));have c:Fr (FP g.n ad) H (upd G2 (ad 6 a) (.lst (N++[.bG]))):=L.upd (6,a,b,rfl) v trivial;exact q _ c (j.own c (d.congr Ua))
noncomputable abbrev fJ:Stmt:=(cn (top 63)).getD 2 (.Pass (0,0,0,0))
def Kp(C CN CR:Addr):Sp:=λvs H Q _=>∃(F:Addr->Prop) (x a:Addr) (nt:NT) (r:RS) (ad:Nat->Nat->Addr) (m:Nat),vs=[.ref x,.int m]/\bW C CN CR F H x a nt r ad/\m<nt.ms.length/\Q .bG H
theorem nO(D:ic K CR "need_machine" "Run.need_machine" fJ bh)(T:Tx K mg C CN CR F FD)(d:Def P w K mg base "is_within" 2 aP cf):cy P w K mg base CR "need_machine" 3 bh (Kp C CN CR):=by
 exists bh;let(F,x,e,a,r,ad,m,rfl,b,c,q):=h;have e:=hr.units;refine(_,(ao (aY (cC (bN (aN d hr (ag (aq 1) (ag aj (ag (bf aO rfl T.bV X' (ag (bL (aq 0) rfl) aa)) aa)))))) (ao dz) aJ)),?_);let(g,o,i,j):=b.ins;have k:=(j 1 ∅ ∅).1;walk_at "j";refine(x,CR,g,_,_,rfl,i,T.bb,T.b8,Kn,_,.inl (_,aV.of k,rfl),?_);refine fH (.int m) _ 0 _ rfl (.int _) ?_;rw[uB];rw[show inR 0 ((a.n 1:Nat):Int) (.int (m:Int))=true by simp[inR];exact c];refine vn ?_;rw[if_neg ∅];walk_at "j";exact q
noncomputable abbrev iI:Stmt:=(cn (top 63)).getD 4 (.Pass (0,0,0,0))
def Qq(C CN CR:Addr):Sp:=λvs H Q _=>∃(F:Addr->Prop) (x b:Addr) (nt:NT) (r:RS) (ad:Nat->Nat->Addr) (m:Nat) (a:V),vs=[.ref x,.int m,a]/\bW C CN CR F H x b nt r ad/\m<nt.ws.length/\Q .bG H
theorem uH(D:ic K CR "need_way" "Run.need_way" iI hE)(T:Tx K mg C CN CR F FD)(e:Def P w K mg base "is_within" 2 aP cf):cy P w K mg base CR "need_way" 3 hE (Qq C CN CR):=by
 exists hE;let(F,x,g,b,r,ad,m,a,rfl,c,d,q):=h;have g:=hr.units;refine(_,(ao (aY (cC (bN (aN e hr (ag (aq 1) (ag aj (ag (bf aO rfl T.bV X' (ag (bL (aq 0) rfl) aa)) aa)))))) (ao dz) aJ)),?_);let(i,o,j,k):=c.ins;have l:=(k 4 ∅ ∅).1;walk_at "j";refine(x,CR,i,_,_,rfl,j,T.bb,T.cb,OD,_,.inl (_,aV.of l,rfl),?_);refine fH (.int m) _ 0 _ rfl (.int _) ?_;rw[uB];rw[show inR 0 ((b.n 4:Nat):Int) (.int (m:Int))=true by simp[inR];exact d];refine vn ?_;rw[if_neg ∅];walk_at "j";exact q
noncomputable abbrev gf:Stmt:=(cn (top 63)).getD 5 (.Pass (0,0,0,0))
theorem gh{a:V}{o:Nat->Addr}(h:f∉(["own_net","picks_done","states_had","words_had","words_said","letters_say","senders","workers"]:List Str)):(Hc a p o).lookup f=none:=by
 simp only[List.mem_cons,List.not_mem_nil,or_false,not_or]at h;unfold Hc;simp[List.lookup,beq_eq_false_iff_ne.mpr h.1,beq_eq_false_iff_ne.mpr h.2.1,beq_eq_false_iff_ne.mpr h.2.2.1,beq_eq_false_iff_ne.mpr h.2.2.2.1,beq_eq_false_iff_ne.mpr h.2.2.2.2.1,beq_eq_false_iff_ne.mpr h.2.2.2.2.2.1,beq_eq_false_iff_ne.mpr h.2.2.2.2.2.2.1,beq_eq_false_iff_ne.mpr h.2.2.2.2.2.2.2]
def Ee(C CN CR:Addr):Sp:=λvs H Q _=>∃(F:Addr->Prop) (x b:Addr) (nt:NT) (r:RS) (ad:Nat->Nat->Addr) (m k:Nat) (a:V),vs=[.ref x,.int m,.int k,a]/\bW C CN CR F H x b nt r ad/\m<nt.ws.length/\k<(r.ww m).say.length/\Q .bG H
theorem pF(D:ic K CR "need_letter" "Run.need_letter" gf ah)(T:Tx K mg C CN CR F FD)(l:Def P w K mg base "is_within" 2 aP cf)(n:cy P w K mg base CR "need_way" 3 hE (Qq C CN CR)):cy P w K mg base CR "need_letter" 4 ah (Ee C CN CR):=by
 exists ah;let(F,x,d,e,r,ad,m,k,a,rfl,b,c,o,q):=h;have o:=hr.units;refine(_,(ai (bR (fz n T.bb hr (aq 0) (ag (aq 1) (ag (aq 3) aa))))
  (ao (aY (cC (bN (aN l hr (ag (aq 2) (ag aj (ag (bf aO rfl T.bV X' (ag (ak o (bL (aq 0) rfl) (aq 1)) aa)) aa)))))) (ao dz) aJ))),?_)
 nofun;let(n,o,g,l):=b.ins;have p:=(l 4 ∅ ∅).1;let(j,u,n):=b.cI.lst (t:=4) (i:=m) c rfl;ac_rfl;have l:j.length=(r.ww m).say.length:=by simpa using n.1
 walk_at "j";refine gN g (gh ⋯) ?_;refine(_,x,d,e,r,ad,m,_,rfl,b,c,?_);walk_at "j";refine fR g T.bb T.cb OD ?_;walk_at "j";refine bC p (bt c) ?_;refine bQ _ (.inl (_,aV.of u,rfl)) ?_;refine fH (.int k) _ 0 _ rfl (.int _) ?_;rw[show inR 0 ((j.length:Nat):Int) (.int (k:Int))=true by simp[inR];lia];refine vn ?_;rw[if_neg ∅];walk_at "j";exact q
structure _root_.DD.RS.OF(nt:NT)(r:RS)(w k:Nat):Prop where
 lt:w<nt.ws.length
 lies:(r.ww w).fb[k]?=some none
 row:(nt.w w).2.2="row"->0<k->∃e,(r.ww w).fb[k-1]?=some (some e)
theorem Ce{n:Nat}{v:V}(h:HD H n v (oG none)):v=.bG:=by
 have h:HD H n v .bG:=h
 cases h;rfl
theorem sE{H:Hp}{n:Nat}{v:V}{e:Int×Int}(h:HD H n v (oG (some e))):∃a,v=.ref a/\H a=some (.tup [.int e.1,.int e.2]):=by
 have h:HD H n v (.tup [.int e.1,.int e.2]):=h
 cases h with
 | @tup n a b _ e l i=>
  match b,l,e,i with
  | [u,v],_,e,i=>
   have c:=i 0 u _ rfl rfl;have d:=i 1 v _ rfl rfl;obtain rfl:=c.cN;obtain rfl:=d.cN;calc(a,rfl,e)
theorem An{H:Hp}{n:Nat}{v:V}{e:Option (Int×Int)}(h:HD H n v (oG e)):HT H 1 v (oG e):=by
 cases e with
 |none=>rw[Ce h];calc .bG
 |some e=>let(a,rfl,b):=sE h;calc di b (.int _) (.int _)
theorem mL{vs:List V}{v:V}(h:1<=vs.length)(e:vs[vs.length-1]?=some v):iZ vs (-1)=some v:=by
 obtain⟨ys,z,rfl⟩:∃ys z,vs=ys++[z]:=(vs.dropLast,vs.getLast (by intro a;rw[a]at h;simp at h),(List.dropLast_concat_getLast _).symm)
 rw[lA];simpa using e
noncomputable abbrev gW:Stmt:=(cn (top 63)).getD 6 (.Pass (0,0,0,0))
def Qr(C CN CR:Addr):Sp:=λvs H Q _=>∃(F:Addr->Prop) (x b:Addr) (nt:NT) (r:RS) (ad:Nat->Nat->Addr) (m k:Nat) (a:V),vs=[.ref x,.int m,.int k,a]/\bW C CN CR F H x b nt r ad/\r.Ok nt/\r.OF nt m k/\∀H',av H H'->Q .bG H'
theorem rS(D:ic K CR "need_pick" "Run.need_pick" gW ah)(T:Tx K mg C CN CR F FD)(o:cy P w K mg base CN "ways" 1 bY (pE CN))(Z:cy P w K mg base CR "need_letter" 4 ah (Ee C CN CR)):cy P w K mg base CR "need_pick" 5 ah (Qr C CN CR):=by
 exists["self","way","number","at","sort"];let(F,x,B,c,r,ad,m,k,a,rfl,n,R,u,q):=h;have b:=hr.units;refine(_,(ai (bR (fz Z T.bb hr (aq 0) (ag (aq 1) (ag (aq 2) (ag (aq 3) aa)))))
  (ai (aY (aC p8 (ak b (ak b (bL (aq 0) rfl) (aq 1)) (aq 2)) k8 (aI _)) (ao dz) aJ)
  (ai (aT (i:=4) sc rfl Sort (ak b (ak b (ft o T.cR hr (bL (aq 0) rfl)) (aq 1)) aj))
  (ao (aY (PW.pt (pw_and (aC (aZ b) (aq 4) aD (aI _)) (pw_and (aC p7 (aq 2) aj (aI _)) (pw_and1 (aC Iv (ak b (ak b (bL (aq 0) rfl) (aq 1)) (aR dX (aq 2) aj)) k8 (aI _)))))) (ao dz) aJ))))),?_)
 nofun;let(Z,o,y,b):=n.ins;let((ms,wv,lv,S,o,Z,U),aW):=n.OE;have W:=(b 6 ∅ ∅).1;have g:=u.lt;let(v6,X,Y):=n.cI.lst (t:=6) (i:=m) g rfl;have b:=u.lies;have zl:k<(r.ww m).fb.length:=(List.getElem?_eq_some_iff.mp b).1;let(v,ev,dv):=Y.get (i:=k) (d:=oG none) (by rw[J',b];rfl);have:=Ce dv;subst this;ac_rfl;walk_at "j";refine gN y (gh ⋯) ?_;refine(_,x,B,c,r,ad,m,k,a,rfl,n,g,by rw[R.lk m g];exact zl,?_);walk_at "j";refine fR y T.bb T.de Ko ?_;walk_at "j";refine bC W (bt g) ?_;refine bC X (aA ev) ?_;walk_at "j"
 try rw[if_neg ∅]
 walk_at "j";refine fR y T.bb T.cS qB ?_;let(b,n,o,x,g1,R,Z,g4):=id S;walk_at "j";refine gN g1 (eZ ⋯ ⋯ ⋯) ?_;refine fH B ms wv lv rfl S (λl b=>?_);have p:=av.new (.lst wv) b;have el:upd H l (.lst wv) l=some (.lst wv):=af;generalize hG:upd H l (.lst wv)=G at *;walk_at "j";have b:c.ws[m]?=some (c.w m):=bu g;have l:m<wv.length:=by have:=U.1;simp at this;lia
 have F6:=(U.2 m wv[m] (mQ (c.w m)) nofun (by rw[J',b];rfl)).aM p.aU;nofun;let(ta,l,n,o,x,I,vE,q1,q2,q3):=bZ F6;obtain rfl:=q1.cN;obtain rfl:=q2.cN;obtain rfl:=q3.cW;ac_rfl;calc bC el (aA (j:=m) (v:=.ref ta) (by rw[<-I];simp)) ?_;calc da vE (aA (j:=2) rfl) ?_;walk_at "j";have FV:=p _ _ y;have J:=p _ _ W;have L:=p _ _ X;have M:=q _ p;have b:=u.row;by_cases z:(c.w m).2.2="row"
 ·by_cases c:0 < k
  ·nofun;let(e,he):=b z c;let(l,N,O):=Y.get (i:=k - 1) (d:=oG (some e)) (by rw[J',he];rfl);let(ae,rfl,b):=sE O;ac_rfl;rw[if_pos (by simp[z]),if_pos (by simp;lia)];refine fR FV T.bb T.de Ko ?_;walk_at "j";refine bC J (bt g) ?_;refine bC L (show iZ v6 ((k:Int) - 1)=some (.ref ae) from by rw[show(k:Int) - 1=((k - 1:Nat):Int) by lia];exact aA N) ?_;walk_at "j"
   try rw[if_neg ∅]
   walk_at "j";exact M
  ·rw[if_pos (by simp[z]),if_neg (by simp;lia),if_neg ∅];walk_at "j";exact M
 ·rw[if_neg (by simp[z]),if_neg ∅];walk_at "j";exact M
noncomputable abbrev lO:Stmt:=(cn (top 63)).getD 11 (.Pass (0,0,0,0))
theorem Qs{H:Hp}{n:Nat}{v:V}{s:List Int×List Int}(h:HD H n v (uc s)):HT H 2 v (zm s.1 s.2):=by
 have h:HD H n v (.tup [.tup (s.1.map .int),.tup (s.2.map .int)]):=h
 cases h with
 | @tup n a c _ e l i=>
  match c,l,e,i with
  | [u,v],_,e,i=>
   have d:=i 0 u _ rfl rfl;have f:=i 1 v _ rfl rfl;have b:∀{n:Nat} {u:V} {ns:List Int},HD H n u (.tup (ns.map .int))->HT H 1 u (.tup (ns.map .int)):=λ{n u ns} h=>by
    cases h with
    | @tup n a c _ e l i=>exact oW (n:=0) (by rw[e,show c=ns.map V.int from e9.ua (l,i)])
   calc di e (b d) (b f)
def Qt(C CN CR:Addr):Sp:=λvs H Q _=>∃(F:Addr->Prop) (x a:Addr) (nt:NT) (r:RS) (ad:Nat->Nat->Addr) (m:Nat),vs=[.ref x,.int m]/\bW C CN CR F H x a nt r ad/\r.Ok nt/\m<nt.ms.length/\∀v,HT H 2 v (zm ((r.mm m).fm.bJ (([]),[])).1 ((r.mm m).fm.bJ (([]),[])).2)->Q v H
theorem Ao(D:ic K CR "state" "Run.state" lO bh)(T:Tx K mg C CN CR F FD)(l:cy P w K mg base CR "need_machine" 3 bh (Kp C CN CR)):cy P w K mg base CR "state" 4 bh (Qt C CN CR):=by
 exists bh;let(F,x,c,e,r,ad,m,rfl,b,g,a,q):=h;have j:=hr.units;refine(_,(ai (bR (fz l T.bb hr (aq 0) (ag (aq 1) aa)))
  (ao (aH (ak j (ak j (bL (aq 0) rfl) (aq 1)) (jT gn aj))))),?_)
 nofun;let(j,o,k,l):=b.ins;have n:=(l 1 ∅ ∅).1;let(o,p,j):=b.cI.lst (t:=1) (i:=m) a rfl;have u:o.length=(r.mm m).fm.length:=by simpa using j.1
 have y:=g.zD a;let(v,z,B):=j.get (i:=(r.mm m).fm.length-1) (d:=uc ((r.mm m).fm.bJ (([]),[]))) (by rw[J',pd (d:=(([]),[])) y];rfl);ac_rfl;walk_at "j";refine gN k (gh ⋯) ?_;refine(_,x,c,e,r,ad,m,rfl,b,a,?_);walk_at "j";refine fR k T.bb T.b8 Kn ?_;walk_at "j";refine bC n (bt a) ?_;refine bC p (mL () (by rw[u];exact z)) ?_;exact q _ (Qs (B.cv d7))
noncomputable abbrev lP:Stmt:=(cn (top 63)).getD 10 (.Pass (0,0,0,0))
def Kq(C CN CR:Addr):Sp:=λvs H Q _=>∃(F:Addr->Prop) (x a:Addr) (nt:NT) (r:RS) (ad:Nat->Nat->Addr) (m:Nat),vs=[.ref x,.int m]/\bW C CN CR F H x a nt r ad/\m<nt.ms.length/\Q (.int (((r.mm m).fm.length:Nat)-1)) H
theorem Ap(D:ic K CR "count" "Run.count" lP bh)(T:Tx K mg C CN CR F FD)(g:cy P w K mg base CR "need_machine" 3 bh (Kp C CN CR)):cy P w K mg base CR "count" 4 bh (Kq C CN CR):=by
 exists bh;let(F,x,c,d,r,ad,m,rfl,a,b,q):=h;have j:=hr.units;refine(_,(ai (bR (fz g T.bb hr (aq 0) (ag (aq 1) aa)))
  (ao (aH (aR dX (bf aO rfl T.bV X' (ag (ak j (bL (aq 0) rfl) (aq 1)) aa)) aj)))),?_)
 nofun;let(j,o,e,g):=a.ins;have k:=(g 1 ∅ ∅).1;let(j,l,n):=a.cI.lst (t:=1) (i:=m) b rfl;ac_rfl;have p:j.length=(r.mm m).fm.length:=by simpa using n.1
 walk_at "j";refine gN e (gh ⋯) ?_;refine(_,x,c,d,r,ad,m,rfl,a,b,?_);walk_at "j";refine fR e T.bb T.b8 Kn ?_;walk_at "j";refine bC k (bt b) ?_;refine bQ _ (.inl (_,aV.of l,rfl)) ?_;walk_at "j";rw[p];exact q
noncomputable abbrev iK:Stmt:=(cn (top 63)).getD 15 (.Pass (0,0,0,0))
def Kr(C CN CR:Addr):Sp:=λvs H Q _=>∃(F:Addr->Prop) (x b:Addr) (nt:NT) (r:RS) (ad:Nat->Nat->Addr),vs=[.ref x]/\bW C CN CR F H x b nt r ad/\∀l a,H l=none->e9 H 4 a (r.picks.map pairD)->Q (.ref l) (upd H l (.lst a))
theorem uJ(D:ic K CR "schedule" "Run.schedule" iK bY)(T:Tx K mg C CN CR F FD):cy P w K mg base CR "schedule" 1 bY (Kr C CN CR):=by
 exists bY;let(F,x,b,c,r,ad,rfl,a,q):=h;have b:=hr.units;refine(_,(ao (aH (c9 cq rfl T.d9 kW (ag (bL (aq 0) rfl) aa)))),?_);nofun;let(b,o,d,c):=a.ins;let(b,e,g):=a.cI.lst (t:=0) (i:=0) (by show 0<1;decide) rfl;ac_rfl;walk_at "j";refine fR d T.bb T.cX YL ?_;walk_at "j";refine bQ _ (.inl (aV.of e)) (λl a=>?_);exact q l _ a (g.cv d7)
noncomputable abbrev qD:Stmt:=(cn (top 63)).getD 8 (.Pass (0,0,0,0))
def yl(C CN CR:Addr):Sp:=λvs H Q _=>∃(F:Addr->Prop) (x a:Addr) (nt:NT) (r:RS) (ad:Nat->Nat->Addr),vs=[.ref x]/\bW C CN CR F H x a nt r ad/\Q (.ref a) H
theorem F7(D:ic K CR "net" "Run.net" qD bY)(T:Tx K mg C CN CR F FD):cy P w K mg base CR "net" 1 bY (yl C CN CR):=by
 exists bY;let(F,x,b,c,r,ad,rfl,a,q):=h;have b:=hr.units;refine(_,(ao (aH (bL (aq 0) rfl))),?_);let(b,o,d,c):=a.ins;walk_at "j";refine fR d T.bb T.cS qB ?_;exact q
theorem uK{w:Nat}:∀{l:List Nat},w∈l->l[l.idxOf w]?=some w/\∀i y,i<l.idxOf w->l[i]?=some y->y≠w
 | [],h=>by simp at h
 |a::r,h=>by
  by_cases e:a=w
  ·subst e;rw[List.idxOf_cons_self];exact(rfl,λi y c=>absurd c (Nat.not_lt_zero i))
  ·have hr:w∈r:=by
    rcases List.mem_cons.mp h with h|h
    ·exact absurd h.symm e
    ·exact h
   let(d,g):=uK hr;have j:(a::r).idxOf w=r.idxOf w+1:=by rw[List.idxOf_cons,beq_eq_false_iff_ne.mpr e];rfl
   rw[j];refine(by simpa using d,λi y c b=>?_)
   cases i with
   |zero=>simp at b;subst b;calc e
   |succ i=>calc g i y () (by simpa using b)
theorem sF{nt:NT}(h:nt.Ok){w:Nat}(a:w<nt.ws.length):(nt.w w).2.1=((nt.goal w:Nat):Int):=by
 have:=h.wy a;unfold NT.goal;lia
theorem Ks{nt:NT}(h:nt.Ok){w:Nat}(a:w<nt.ws.length):w∈vC nt 1 (nt.goal w):=by
 unfold vC;rw[List.mem_filter];calc(List.mem_range.mpr a,?_);rw[abm];calc sF h a
theorem pG{nt:NT}(h:nt.Ok){w:Nat}(a:w<nt.ws.length):(vC nt 1 (nt.goal w)).idxOf w=nt.place w:=by
 unfold NT.place;rw[sF h a];rfl
theorem wW{l:List Nat}:(l.map λi=>V.int (i:Nat))=(l.map λi=>((i:Nat):Int)).map V.int:=by simp[List.map_map]
theorem OG{r:RS}{n:NT}{w k:Nat}:∀t i,i<n.n t->setC (setC (setC (setC (setC r.ct 0 0 (.l (r.picks.map pairD++[pairD (((w:Int)),(k:Int))]))) 6 w (.l (((r.ww w).fb.map oG).set k (oG (some (n.ev r w)))))) 1 (n.goal w) (.l ((r.mm (n.goal w)).fm.map uc++[uc (((n.work r w k).ns),(n.work r w k).row)]))) 3 (n.goal w) (.l (((r.mm (n.goal w)).wp.bJ []).map .int++(n.work r w k).words.map .int))) 2 (n.goal w) (.l (((r.mm (n.goal w)).wp.map λu=>DV.int (u.length:Nat))++[.int ((((r.mm (n.goal w)).wp.bJ []++(n.work r w k).words).length:Nat))])) t i=(r.step n w k).ct t i:=by
 intro t i a;unfold setC
 match t,a with
 |0,a=>
  have:i=0:=by have:i<1:=a;lia
  subst this;simp[RS.ct,RS.step]
 |1,_=>by_cases e:i=n.goal w<;>simp[RS.ct,RS.step,e]
 |2,_=>by_cases e:i=n.goal w<;>simp[RS.ct,RS.step,e]
 |3,_=>by_cases e:i=n.goal w<;>simp[RS.ct,RS.step,e,ub]
 |4,_=>by_cases e:i=w<;>simp[RS.ct,RS.step,e]
 |5,_=>by_cases e:i=w<;>simp[RS.ct,RS.step,e]
 |6,_=>by_cases e:i=w<;>simp[RS.ct,RS.step,e,List.map_set]
 |(t+7),a=>calc absurd a (Nat.not_lt_zero i)
theorem Ef{nt:NT}(d:nt.Ok)(h:r.Ok nt){w k:Nat}(f:w<nt.ws.length):∀a c,some (nt.ev r w)=some ((a),c)->0<=a/\a<nt.ms.length/\1<=c/\c<=((r.step nt w k).mm a.toNat).hr.length:=by
 have b:=d.kg f;intro a c e
 cases e;refine((),(),?_,?_)
 ·have:=h.zD b;lia
 ·have d:(r.step nt w k).mm (nt.goal w)=((r.mm (nt.goal w)).fm++[(((nt.work r w k).ns),(nt.work r w k).row)],(r.mm (nt.goal w)).wp++[(r.mm (nt.goal w)).wp.bJ []++(nt.work r w k).words],(r.mm (nt.goal w)).hr++[nt.ie r w k]):=if_pos rfl;rw[show((nt.goal w:Nat):Int).toNat=nt.goal w from aaX _,d,h.lh _ b];simp
theorem qE{outs:List Nat}{ev:Int×Int}:∀(a:List (Int×Int)) {r:RS}{p:Int×Int},r.send outs ev (a++[p])=(r.send outs ev a).send outs ev [p]
 | [],r,p=>rfl
 |q::a,r,p=>qE a
structure BF(F:Addr->Prop)(n:Nat->Nat)(ad:Nat->Nat->Addr)(A B H:Hp)(ct:Nat->Nat->CO):Prop where
 b:dJ F H n ad ct
 f:Fr (FP n ad) A H
 g:Fr (FP n ad) B H
section
variable {F:Addr->Prop}{n:Nat->Nat}{ad:Nat->Nat->Addr}{A B H H':Hp}{ct:Nat->Nat->CO}
theorem BF.same(h:BF F n ad A B H ct)(s:av H H'):BF F n ad A B H' ct:=(h.b.same s,h.f.trans s.fr,h.g.trans s.fr)
theorem BF.app(h:BF F n ad A B H ct){t i:Nat}(a:i<n t){d:List DV}(e:ct t i=.l d){vs:List V}(c:H (ad t i)=some (.lst vs)){us:List V}{es:List DV}(g:e9 (i3 (λb=>F b\/FP n ad b) H) 4 us es):BF F n ad A B (upd H (ad t i) (.lst (vs++us))) (setC ct t i (.l (d++es))):=(h.b.app a e c g,h.f.upd (t,i,a,rfl) c trivial,h.g.upd (t,i,a,rfl) c trivial)
end
noncomputable abbrev jA:Stmt:=(cn (top 63)).getD 7 (.Pass (0,0,0,0))
inductive Kt(C CN CR:Addr)(vs:List V)(H:Hp)(Q:VK):Prop
 |mk (F:Addr->Prop) (x bq:Addr) (nt:NT) (r:RS) (ad:Nat->Nat->Addr) (wy k:Nat) (a:V) (h0:vs=[.ref x,.int (wy:Nat),.int (k:Nat),a]) (h1:bW C CN CR F H x bq nt r ad) (h2:FS F H) (h3:r.Ok nt) (h4:r.OF nt wy k) (h5:r.picks.length<=400) (h6:∀t H',Fr (FP nt.n ad) H H'->bW C CN CR F H' x bq nt (r.pick nt wy k) ad->HT H' 1 t (pairD (nt.ev r wy))->Q t H'):Kt C CN CR vs H Q
def ym(C CN CR:Addr):Sp:=λvs H Q _=>Kt C CN CR vs H Q
theorem vG(D:ic K CR "pick_at" "Run.pick_at" jA ah)(T:Tx K mg C CN CR F FD)(gz:cy P w K mg base C "worked" 3 fy (wV K C))(bD:cy P w K mg base CN "machines" 1 bY (gc CN))(df:cy P w K mg base CN "ways" 1 bY (pE CN))(jB:cy P w K mg base CN "ways_in" 4 bh (uF C CN))(iL:cy P w K mg base CN "ways_out" 4 bh (rF C CN))(gX:cy P w K mg base CR "need_pick" 5 ah (Qr C CN CR))(cZ:cy P w K mg base CR "put_letter" 1 dV (uG C CN CR))(lQ:cy P w K mg base CR "state" 4 bh (Qt C CN CR)):cy P w K mg base CR "pick_at" 6 ah (ym C CN CR):=by
 exists["self","way","number","at","m","place","machine","state","sent","words","event","ways_out","j","said"];let(F,x,N,m,r,ad,B,k,a,rfl,J,mK,L,hc,o,q):=h;have o:=hr.units;refine(_,(ai (bR (fz gX T.bb hr (aq 0) (ag (aq 1) (ag (aq 2) (ag (aq 3) aa)))))
  (ai (aT (i:=4) sc rfl Sort (ak o (ak o (ft df T.cR hr (bL (aq 0) rfl)) (aq 1)) aj))
  (ai (aT (i:=5) sc rfl Sort (dg pO PySem.F.slot_list_index PySem.F.type_list_index wC (fz jB T.cR hr (bL (aq 0) rfl) (ag (aq 4) aa)) (ag (aq 1) aa)))
  (ai (aT (i:=6) sc rfl Sort (ak o (ft bD T.cR hr (bL (aq 0) rfl)) (aq 4)))
  (ai (eP (fz gz T.cQ hr (aq 6) (ag (fz lQ T.bb hr (aq 0) (ag (aq 4) aa)) (ag (aq 5) (ag (ak o (ak o (bL (aq 0) rfl) (aq 1)) (aq 2)) aa)))) (zF (i:=7) (j:=8) (l:=9) rfl sc rfl rfl rfl Sort Sort Sort))
  (ai (aT (i:=10) sc rfl Sort (bz (ag (aq 4) (ag (bf aO rfl T.bV X' (ag (ak o (bL (aq 0) rfl) (aq 4)) aa)) aa))))
  (ai (bR (dg pO rZ r6 cm (bL (aq 0) rfl) (ag (bz (ag (aq 1) (ag (aq 2) aa))) aa)))
  (ai (eP (aq 10) (iu (ak o (bL (aq 0) rfl) (aq 1)) (aq 2) dH))
  (ai (bR (dg pO rZ r6 cm (ak o (bL (aq 0) rfl) (aq 4)) (ag (aq 7) aa)))
  (ai (bR (dg pO PySem.F.slot_list_extend PySem.F.type_list_extend Nv (ak o (bL (aq 0) rfl) (aq 4)) (ag (aq 9) aa)))
  (ai (bR (dg pO rZ r6 cm (ak o (bL (aq 0) rfl) (aq 4)) (ag (bf aO rfl T.bV X' (ag (ak o (bL (aq 0) rfl) (aq 4)) aa)) aa)))
  (ai (aT (i:=11) sc rfl Sort (fz iL T.cR hr (bL (aq 0) rfl) (ag (aq 4) aa)))
  (ai (fc PassesOwn.never rfl (cj (pv 8)) (fu (i:=12) (j:=13) rfl sc rfl rfl Sort Sort)
  (ao (aY (aC gT (aq 12) (bf aO rfl T.bV X' (ag (aq 11) aa)) (aI _)) (ao (bR (fz cZ T.bb hr (aq 0) (ag (ak o (aq 11) (aq 12)) (ag (aq 13) (ag (aq 10) aa)))))) aJ)))
  (ao (aH (aq 10)))))))))))))))),?_)
 nofun;let(dx,o,M,ho):=J.ins;have hn:=J.OE;have U:=hn.ok;let((ms,wv,lv,hf,o,yH,Mw),_):=id hn;let(o,a1,b1,c1,g1,g2,g3,g4):=id hf;ac_rfl;walk_at "j";refine gN M (gh ⋯) ?_;refine(_,x,N,m,r,ad,B,k,a,rfl,J,L,hc,λH1 s1=>?_);nofun;have I:=hc.lt;have G:=U.kg I;let(o,wk2,wk3,wk4):=sy U L I k;ac_rfl;walk_at "j";refine fR (s1 _ _ M) T.bb T.cS qB ?_;walk_at "j";refine gN (s1 _ _ g1) (eZ ⋯ ⋯ ⋯) ?_;refine fH N ms wv lv rfl (hf.same s1) (λl o=>?_);have s2:av H (upd H1 l (.lst wv)):=s1.trans (av.new _ o);have el:upd H1 l (.lst wv) l=some (.lst wv):=af;nofun;generalize TF:upd H1 l (.lst wv)=H2 at *;have o:m.ws[B]?=some (m.w B):=bu I;have k6:B<wv.length:=by have:=Mw.1;simp at this;lia
 have F6:=(Mw.2 B wv[B] (mQ (m.w B)) nofun (by rw[J',o];rfl)).aM s2.aU;let(ta,u1,u2,u3,kk,eta,vE,q1,q2,q3):=bZ F6;obtain rfl:=q1.cN;obtain rfl:=q2.cN;obtain rfl:=q3.cW;ac_rfl;walk_at "j";refine bC el (aA (j:=B) (v:=.ref ta) (by rw[<-eta];simp)) ?_;refine da vE (show iZ _ 1=some (.int ((m.goal B:Nat):Int)) from by rw[<-sF U I];exact aA (j:=1) rfl) ?_;walk_at "j";refine fR (s2 _ _ M) T.bb T.cS qB ?_;walk_at "j";refine gN (s2 _ _ g1) (eZ ⋯ ⋯ ⋯) ?_;refine(N,m,m.goal B,rfl,hn.fr (Z:=λ_=>False) s2.fr,G,λl2 H3 s23 fl2 o=>?_);have s3:=s2.trans s23;refine(.inl (rfl,_,aV.of o),?_);let(ix1,ix2):=uK (Ks U I);refine(l2,_,m.place B,B,rfl,rfl,by rw[o,wW],?_,?_,?_)
 ·rw[J',<-pG U I,ix1];rfl
 ·intro i y hi hy;rw[J']at hy;let(z,hz,rfl):=Option.map_eq_some_iff.mp hy;have:=ix2 i z (by rw[pG U I];calc hi) hz;lia
 walk_at "j";refine fR (s3 _ _ M) T.bb T.cS qB ?_;walk_at "j";refine gN (s3 _ _ g1) (eZ ⋯ ⋯ ⋯) ?_;refine fH N ms wv lv rfl (hf.same s3) (λl4 o=>?_);have W:av H (upd H3 l4 (.lst (ms.map V.ref))):=s3.trans (av.new _ o);have el4:upd H3 l4 (.lst (ms.map V.ref)) l4=some (.lst (ms.map V.ref)):=af;generalize hG4:upd H3 l4 (.lst (ms.map V.ref))=H4 at *;have Ql:m.goal B<ms.length:=by lia
 have o:m.ms[m.goal B]?=some (m.ms.getD (m.goal B) default):=bu G;have Eg:=(yH (m.goal B) ms[m.goal B] _ (cT Ql) o).same W;have OH:=U.gd G;walk_at "j";refine bC el4 (aA (j:=m.goal B) (v:=.ref ms[m.goal B]) (by rw[J',cT Ql];rfl)) ?_;walk_at "j";nofun;generalize ms[m.goal B]=mch at *;let(dm,o,y,FW,hm2,hm3):=id Eg;ac_rfl;refine gN FW (DP ⋯ ⋯ ⋯) ?_;refine gN (W _ _ M) (gh ⋯) ?_;refine(_,x,N,m,r,ad,m.goal B,rfl,J.same W,L,G,λsv VH=>?_);have l4':=W _ _ (ho 4 ∅ ∅).1;nofun;let(o,e4,d4):=(J.cI.same W).lst (t:=4) (i:=B) I rfl;have z4:=d4.ua;subst z4;ac_rfl;have zl:k<(r.ww B).say.length:=by rw[L.lk B I];exact(List.getElem?_eq_some_iff.mp hc.lies).1
 walk_at "j";refine fR (W _ _ M) T.bb T.cb OD ?_;walk_at "j";refine bC l4' (bt I) ?_;refine bC e4 (aA (j:=k) (v:=.int ((r.ww B).say.getD k 0)) (by rw[J',bu (d:=0) zl];rfl)) ?_;have o:=L.last G;refine(mch,sv,_,_,_,_,_,_,_,_,rfl,Eg,zp.of VH,OH.m2,OH.m12,o.bn,o.lr,OH.d24,by rw[o.ln];exact OH.ok,λy Y s45 Ub=>?_);have s5:=W.trans s45;nofun;let(rp,Mx,VI,Qu,zs,rfl,hrp,Cf,Uc,rQ,Cg,fl1,ael,o):=Ub.ex
 replace Cf:HT Y 2 Mx (zm (m.work r B k).ns (m.work r B k).row):=Cf
 replace rQ:SL Y zs (m.work r B k).cM:=rQ
 replace Cg:Y Qu=some (.lst ((m.work r B k).words.map V.int)):=Cg
 ac_rfl;refine un3 (bI.of hrp) ?_;walk_at "j";refine fR (s5 _ _ M) T.bb T.b8 Kn ?_;have b5:=J.cI.same s5;have i0:0<m.n 0:=by show 0<1;decide
 let(o,e1,d1):=b5.lst (t:=1) (i:=m.goal B) G rfl;have z1:o.length=(r.mm (m.goal B)).fm.length:=by simpa using d1.1
 walk_at "j";refine bC (s5 _ _ (ho 1 ∅ ∅).1) (bt G) ?_;refine gU _ (.inl (_,aV.of e1,rfl)) cP (λev o=>?_);rw[z1];have s6:av H (upd Y ev (.tup [.int ((m.goal B:Nat):Int),.int (((r.mm (m.goal B)).fm.length:Nat):Int)])):=s5.trans (av.new _ o);have s56:av Y (upd Y ev (.tup [.int ((m.goal B:Nat):Int),.int (((r.mm (m.goal B)).fm.length:Nat):Int)])):=av.new _ o;have aeo:HT (upd Y ev (.tup [.int ((m.goal B:Nat):Int),.int (((r.mm (m.goal B)).fm.length:Nat):Int)])) 1 (.ref ev) (pairD (m.ev r B)):=di (n:=0) af (.int _) (.int _);generalize hG6:upd Y ev (.tup [.int ((m.goal B:Nat):Int),.int (((r.mm (m.goal B)).fm.length:Nat):Int)])=H6 at *;have b6:=J.cI.same s6;walk_at "j";refine fR (s6 _ _ M) T.bb T.cX YL ?_;let(v0,e0,d0):=b6.lst (t:=0) (i:=0) i0 rfl;have o:v0.length=r.picks.length:=by simpa using d0.1
 walk_at "j";refine gO (.inl (rfl,_,aV.of e0)) cP (λtp GL=>?_);walk_at "j";have s7:av H (upd H6 tp (.tup [.int ((B:Nat):Int),.int ((k:Nat):Int)])):=s6.trans (av.new _ GL);have yG:av H6 (upd H6 tp (.tup [.int ((B:Nat):Int),.int ((k:Nat):Int)])):=av.new _ GL;have aep:HT (upd H6 tp (.tup [.int ((B:Nat):Int),.int ((k:Nat):Int)])) 1 (.ref tp) (pairD (((B:Int)),(k:Int))):=di (n:=0) af (.int _) (.int _);generalize hG7:upd H6 tp (.tup [.int ((B:Nat):Int),.int ((k:Nat):Int)])=H7 at *;have b7:=J.cI.same s7;have FS7:FS F H7:=mK.fr (Z:=λ_=>False) s7.fr (λ_ _ h=>h);have e07:=yG _ _ e0;have VJ:=s56.trans yG;refine gU v0 e07 (small ()) ?_;have S:=(BF.mk b7 s7.fr (Fr.refl:Fr (FP m.n ad) H7 H7)).app (t:=0) (i:=0) i0 rfl e07 (e9.one ((b7.ht FS7 aep).mono ∅));generalize hG8:upd H7 (ad 0 0) (.lst (v0++[.ref tp]))=H8 at *;have o6:=ho 6 ∅ ∅;have o1:=ho 1 ∅ ∅;have o2:=ho 2 ∅ ∅;have o3:=ho 3 ∅ ∅;walk_at "j";refine fR (S.f.mO M id) T.bb T.de Ko ?_;let(v6,e6,d6):=S.b.lst (t:=6) (i:=B) I rfl;have o:v6.length=(r.ww B).fb.length:=by simpa using d6.1
 have hk6:k<v6.length:=by rw[o,<-L.lk B I];exact zl
 walk_at "j";refine bC (S.f.at o6.1 o6.2.2) (bt I) ?_;walk_at "j";refine dC v6 k e6 (lJ hk6) ?_;have YR:=aeo.aM yG.aU;have w9:=BF.mk (S.b.set (t:=6) (i:=B) I rfl e6 (k:=k) ((S.b.ht (mK.fr S.f J.cI.yk) (YR.aM S.g.aU)).mono ∅)) (S.f.upd (6,B,I,rfl) e6 trivial) (S.g.upd (6,B,I,rfl) e6 trivial);generalize hG9:upd H8 (ad 6 B) (.lst (v6.set k (.ref ev)))=H9 at *;walk_at "j";refine fR (w9.f.mO M id) T.bb T.b8 Kn ?_;let(v19,e19,d19):=w9.b.lst (t:=1) (i:=m.goal B) G rfl;have o:v19.length=(r.mm (m.goal B)).fm.length:=by simpa using d19.1
 have o:=L.bp _ G;walk_at "j";refine bC (w9.f.at o1.1 o1.2.2) (bt G) ?_;refine(.inl (rfl,_,aV.of e19),?_);walk_at "j";refine gU v19 e19 (small ()) ?_;have Io:=w9.app (t:=1) (i:=m.goal B) G rfl e19 (e9.one (show HD _ 4 Mx (uc (((m.work r B k).ns),(m.work r B k).row)) from(w9.b.ht (mK.fr w9.f J.cI.yk) ((Cf.aM VJ.aU).aM w9.g.aU)).mono ∅));have Ku:¬FP m.n ad VI:=λz=>by
  let(u,e,_):=(J.cI.same W).fp z;rw[fl1]at e;cases e
 have Ue:¬FP m.n ad Qu:=λz=>by
  let(u,e,_):=(J.cI.same W).fp z;rw[ael]at e;cases e
 generalize YS:upd H9 (ad 1 (m.goal B)) (.lst (v19++[Mx]))=GZ at *;walk_at "j";refine fR (Io.f.mO M id) T.bb T.cY YM ?_;let(v3,e3,d3):=Io.b.lst (t:=3) (i:=m.goal B) G rfl;have o:=d3.ua;have y:=L.bw _ G _ (ij (l:=(r.mm (m.goal B)).wp) (d:=[]) (by rw[<-L.lw _ G];exact L.zD G));have l:v3.length=((r.mm (m.goal B)).wp.bJ []).length:=by rw[o];simp
 walk_at "j";refine bC (Io.f.at o3.1 o3.2.2) (bt G) ?_;refine(.inl (rfl,_,aV.of e3),?_);walk_at "j";refine vm v3 _ e3 (Io.g.at (VJ _ _ Cg) Ue) (U' (small (by simp;lia))) ?_;have wd:=Io.app (t:=3) (i:=m.goal B) G rfl e3 (e9.ints (m.work r B k).words);have aes:upd GZ (ad 3 (m.goal B)) (.lst (v3++(m.work r B k).words.map V.int)) (ad 3 (m.goal B))=some (.lst (v3++(m.work r B k).words.map V.int)):=af;generalize YT:upd GZ (ad 3 (m.goal B)) (.lst (v3++(m.work r B k).words.map V.int))=H11 at *;walk_at "j";refine fR (wd.f.mO M id) T.bb T.eC aeb ?_;let(v2,e2,d2):=wd.b.lst (t:=2) (i:=m.goal B) G rfl;have l:v2.length=(r.mm (m.goal B)).wp.length:=by simpa using d2.1
 have l:=L.lw _ G;walk_at "j";refine bC (wd.f.at o2.1 o2.2.2) (bt G) ?_;refine(.inl (rfl,_,aV.of e2),?_);walk_at "j";refine fR (wd.f.mO M id) T.bb T.cY YM ?_;walk_at "j";refine bC (wd.f.at o3.1 o3.2.2) (bt G) ?_;refine bQ _ (.inl (_,aV.of aes,rfl)) ?_;walk_at "j";refine gU v2 e2 (small ()) ?_;rw[show(v3++(m.work r B k).words.map V.int).length=((r.mm (m.goal B)).wp.bJ []++(m.work r B k).words).length by simp;lia];have AQ:=wd.app (t:=2) (i:=m.goal B) G rfl e2 (e9.one (.int (((r.mm (m.goal B)).wp.bJ []++(m.work r B k).words).length:Nat)));generalize YU:upd H11 (ad 2 (m.goal B)) (.lst (v2++[.int (((r.mm (m.goal B)).wp.bJ []++(m.work r B k).words).length:Nat)]))=YV at *;have YW:bW C CN CR F YV x N m (r.step m B k) ad:=J.own AQ.f (AQ.b.congr OG);have YX:SL YV zs (m.work r B k).cM:=(rQ.aM VJ.aU).aM AQ.g.aU;have pB:=AQ.g.at (VJ _ _ Uc) Ku;have YY:=YR.aM AQ.g.aU;have X:=AQ.f;clear b5 b6 b7 S w9 Io wd AQ d0 d1 d2 d3 d4 d6 d19 hG8 hG9 YS YT YU;walk_at "j";refine fR (X.mO M id) T.bb T.cS qB ?_;walk_at "j";refine gN (X.mO g1 id) (eZ ⋯ ⋯ ⋯) ?_;refine(N,m,m.goal B,rfl,hn.fr X,G,λlo Ug rD flo elo=>?_);have nlo:¬FP m.n ad lo:=λz=>by
  let(u,e,_):=YW.cI.fp z;rw[flo]at e;cases e
 walk_at "j";have l:=YW.same rD;have o:=rD _ _ pB;have Qv:=YY.aM rD.aU;have Qw:=YX.aM rD.aU;have hzl:zs.length=(m.work r B k).cM.length:=Qw.1;have f13:=X.trans rD.fr;have Uh:=L.step U I (k:=k);have Ui:∀a c,some (m.ev r B)=some ((a),c)->0<=a/\a<m.ms.length/\1<=c/\c<=((r.step m B k).mm a.toNat).hr.length:=Ef U L I;refine(_,rfl,.inl ((_,aV.of o),fw (K:=K) (xs:=zs) (λi σ H'=>(∃Uj Uk,σ=[some (V.ref x),some (V.int ((B:Nat):Int)),some (V.int ((k:Nat):Int)),some a,some (V.int ((m.goal B:Nat):Int)),some (V.int ((m.place B:Nat):Int)),some (V.ref mch),some Mx,some (V.ref VI),some (V.ref Qu),some (V.ref ev),some (V.ref lo),Uj,Uk])/\Fr (FP m.n ad) Ug H'/\bW C CN CR F H' x N m ((r.step m B k).send (m.outs (m.goal B)) (m.ev r B) ((m.work r B k).cM.take i)) ad) ?_ ?_ ?_ ?_))
 ·exact((_,_,rfl),Fr.refl,l)
 ·rintro i σ H' hi ⟨_,O,_⟩;exact aV.of (O.at o Ku)
 ·intro i z σ H' hz jl;nofun;let((Uj,Uk,rfl),O,u6):=jl;have l:i < zs.length:=(List.getElem?_eq_some_iff.mp hz).1;have l:i < (m.work r B k).cM.length:=by lia
  have o:(m.work r B k).cM[i]?=some (m.work r B k).cM[i]:=cT l;have My:=wk4 _ (aaV l);have Ul:=(Qw.2 i z _ hz o).aM O.aU;have OI:(r.step m B k).send (m.outs (m.goal B)) (m.ev r B) ((m.work r B k).cM.take (i+1))=((r.step m B k).send (m.outs (m.goal B)) (m.ev r B) ((m.work r B k).cM.take i)).send (m.outs (m.goal B)) (m.ev r B) [(m.work r B k).cM[i]]:=by
   rw[abE,o];exact qE _
  generalize (m.work r B k).cM[i]=p at *;let(R,px):=p;let(tz,u1,u2,kz,rfl,GO,y1,y2):=dZ Ul;obtain rfl:=y1.cN;obtain rfl:=y2.cN;ac_rfl;refine wD (bI.of GO) ?_;have Y0:=O.at elo nlo;walk_at "j";refine bQ _ (.inl (_,aV.of Y0,rfl)) ?_;walk_at "j";have l:((vC m 0 (m.goal B)).map λi=>V.int ((i:Nat):Int)).length=(m.outs (m.goal B)).length:=by rw[aau];rfl
  rw[l];have o:R.toNat=R.toNat:=rfl;have ej:((R.toNat:Nat):Int)=R:=abv My;by_cases kZ:R<((m.outs (m.goal B)).length:Nat)
  ·rw[if_pos (by simpa using kZ)];have PX:R.toNat < (m.outs (m.goal B)).length:=by lia
   have sG:(m.outs (m.goal B)).getD R.toNat 0<m.ws.length:=by
    have:=getD_mem (d:=0) PX;unfold NT.outs at this ⊢;rw[List.mem_filter,List.mem_range]at this;exact this.1
   walk_at "j";let(o,u,l,y):=u6.ins;refine gN l (gh ⋯) ?_;refine bC Y0 (show iZ _ R=some (.int (((m.outs (m.goal B)).getD R.toNat 0:Nat):Int)) from by
    rw[<-ej];calc aA ?_;rw[J'];show Option.map _ (m.outs (m.goal B))[_]?=_;rw[aaX,bu (d:=0) PX];rfl) ?_
   have l:=(RS.uX.send (outs:=m.outs (m.goal B)) (ev:=m.ev r B) ((m.work r B k).cM.take i) Uh Ui).mono (show _<=19999 by simp;lia);refine(F,x,N,m,_,ad,_,px,.ref ev,some (m.ev r B),rfl,u6,mK.fr (f13.trans O) J.cI.yk,sG,(Qv.aM O.aU).mono ∅,l,λH'' f2 Qx=>?_);walk_at "j";refine gO (_,_,rfl,rfl) (O.trans f2) ?_;rw[OI];show bW C CN CR F H'' x N m (if R.toNat<_ then _ else _) ad;rw[if_pos PX];exact Qx
  ·rw[if_neg (by simpa using kZ)];walk_at "j";refine gO (_,_,rfl,rfl) O ?_;rw[OI];show bW C CN CR F H' x N m (if R.toNat<_ then _ else _) ad;rw[if_neg ()];exact u6
 ·intro σ H' jm;let((Uj,Uk,rfl),O,u6):=jm;walk_at "j";rw[hzl,aa0]at u6;exact q _ _ (f13.trans O) u6 (Qv.aM O.aU)
noncomputable def _root_.DD.RS.Mz(r:RS)(w:Nat):List Nat:=(List.range (r.ww w).say.length).filter λk=>((r.ww w).fb.getD k none).isNone
theorem jf{p:Nat->Bool}{i:Nat}:(List.range (i+1)).filter p=(List.range i).filter p++(if p i=true then[i] else[]):=by
 rw[List.range_succ,List.filter_append];congr 1
 cases h:p i<;>simp[h]
theorem Kv(hz:∀b,Z b->∃o,H b=some o/\soft o){m:Nat}{x:V}{d:DV}(g:HT H m x d):HD (i3 Z H) m x d:=by
 calc HT.hd (g.aM λb f e=>?_);rw[gq (λz=>by
  let(o,a,c):=hz b z;rw[e] at a;cases a;calc c)]
 calc e
structure uM(H0 H':Hp)(D:Addr)(as:List Addr)(n:Nat)(ct:Nat->Hp->List V->Prop):Prop where
 len:as.length=n
 nd:as.Nodup
 new:∀a∈as,H0 a=none/\a≠D
 ins:∀(j:Nat) a,as[j]?=some a->∃vs,H' a=some (.lst vs)/\ct j H' vs
theorem uM.nil{ct:Nat->Hp->List V->Prop}:uM H0 H' D [] 0 ct:=(rfl,List.nodup_nil,λa h=>by simp at h,λj a h=>by simp at h)
theorem uM.snoc{H0 H1 H':Hp}{D a:Addr}{as:List Addr}{n:Nat}{ct:Nat->Hp->List V->Prop}(h:uM H0 H1 D as n ct)(p:av H0 H1)(q:H1 D≠none)(g:H1 a=none){vs:List V}(e:H' a=some (.lst vs))(c:ct n H' vs)(s:∀b o,b≠D->H1 b=some o->H' b=some o)(f:∀j vs,ct j H1 vs->ct j H' vs):uM H0 H' D (as++[a]) (n+1) ct:=by
 refine(by simp[h.len],?_,λb d=>?_,λj b d=>?_)
 ·rw[List.nodup_append];calc gO h.nd nofun (λb d c l=>?_);simp at l;subst l;intro z;subst z;let(j,k):=List.getElem?_of_mem d;let(vs,i,_):=h.ins j b k;rw[g]at i;cases i
 ·rcases List.mem_append.mp d with d | d
  ·exact h.new b d
  ·simp at d;subst d;refine(?_,λz=>q (z ▸ g))
   cases r:H0 b with
   |none=>rfl
   |some o=>rw[p _ _ r]at g;cases g
 ·by_cases k:j < as.length
  ·rw[aaf k]at d;let(vs,i,g):=h.ins j b d;exact(vs,s _ _ (h.new b (aaT d)).2 i,f _ _ g)
  ·rw[Y' ()] at d
   cases m:j-as.length with
   |zero=>
    rw[m]at d;simp at d;subst d;have:j=n:=by have:=h.len;lia
    subst this;calc(vs,e,c)
   |succ k=>rw[m]at d;simp at d
theorem uM.keep{n:Nat}{ct:Nat->Hp->List V->Prop}(h:uM H0 H1 D as n ct)(s:∀(b:Addr) (vs:List V),H1 b=some (.lst vs)->H' b=some (.lst vs))(c:∀j vs,ct j H1 vs->ct j H' vs):uM H0 H' D as n ct:=
 (h.len,h.nd,h.new,λj a e=>by
  let(vs,d,f):=h.ins j a e;calc(vs,s _ _ d,c _ _ f))
theorem lR{K:W.Frag}{ix:List (Option Nat)}{m:TE}{l:Addr}{xs vs:List V}(o:H l=some (.lst xs))(r:H D=none)(C:xs.length<=10)(u:∀x,Ext (vf ix σ) ((vf ix σ).set 0 (some x)))(v:∀d g (R:VK),(∀p,g p=none->R (.ref p) (upd g p (.lst vs)))->m d g R)(q:∀as H1,H1 D=some (.lst (as.map V.ref))->av H H1->uM H H1 D as xs.length (λ_ _ ws=>ws=vs)->Q (.ref D) H1):lu ix (yP K l) (gj 0) jc m σ H Q D:=by
 refine bF (n:=xs.length) (λi ys H'=>∃as:List Addr,ys=as.map V.ref/\av H H'/\uM H H' D as i (λ_ _ ws=>ws=vs)) (U' (small ())) ([],rfl,av.new _ r,uM.nil) ?_ ?_ ?_ ?_
 ·rintro i ys H' j ⟨_,_,a,_⟩;exact(_,xs[i],aV.of (a _ _ o),cT j)
 ·rintro ys H' ⟨_,_,a,_⟩;exact(_,aV.of (a _ _ o),S' _)
 ·intro i ys H' j c t w y F z;let(as,rfl,a,k):=w;let(rfl,d):=z;calc(u y,?_);simp only[jc,if_true];calc v _ _ _ λp d=>?_;have g:=av.new (.lst vs) d;have i:p≠D:=Ne.symm (au c d);refine cD (g _ _ c) t j (U' (small ())) (as++[p],nofun,λb o e=>?_,?_)
  ·rw[ay (au e r)];exact g _ _ (a _ _ e)
  ·refine k.snoc a (by rw[c];simp) d (vs:=vs) ?_ rfl (λb o a e=>?_) (λj vs e=>e)
   ·rw[ay i];exact af
   ·rw[ay a];exact g _ _ e
 ·intro ys H1 c t B;let(as,rfl,a,k):=B;calc q as H1 c a k
noncomputable abbrev nQ:Stmt:=(cn (top 63)).getD 9 (.Pass (0,0,0,0))
inductive Qz(C CN CR:Addr)(vs:List V)(H:Hp)(Q:VK):Prop
 |mk (F:Addr->Prop) (x bq:Addr) (nt:NT) (r:RS) (ad:Nat->Nat->Addr) (wy k:Nat) (h0:vs=[.ref x,.int (wy:Nat),.int (k:Nat)]) (h1:bW C CN CR F H x bq nt r ad) (h2:FS F H) (h3:r.Ok nt) (h4:r.OF nt wy k) (h5:r.picks.length<=400) (h6:∀t H',Fr (FP nt.n ad) H H'->bW C CN CR F H' x bq nt (r.pick nt wy k) ad->HT H' 1 t (pairD (nt.ev r wy))->Q t H'):Qz C CN CR vs H Q
def Kw(C CN CR:Addr):Sp:=λvs H Q _=>Qz C CN CR vs H Q
theorem Cj(D:ic K CR "pick" "Run.pick" nQ a0)(T:Tx K mg C CN CR F FD)(l:cy P w K mg base CR "pick_at" 6 ah (ym C CN CR)):cy P w K mg base CR "pick" 7 a0 (Kw C CN CR):=by
 exists a0;let(F,x,b,c,r,ad,d,k,rfl,a,e,g,i,j,q):=h;have n:=hr.units;refine(_,(ao (aH (fz l T.bb hr (aq 0) (ag (aq 1) (ag (aq 2) (ag aj aa)))))),?_);let(n,o,m,p):=a.ins;walk_at "j";refine gN m (gh ⋯) ?_;exact(F,x,b,c,r,ad,d,k,_,rfl,a,e,g,i,j,q)
theorem Y1{CR x a:Addr}{C:Hp}{f:List (Str×V)}(c:List (Str×V))(s:av C H)(d:H x=some (.ins CR a f)):∃G,upd H x (.ins CR a c)=G/\G x=some (.ins CR a c)/\(∀b o,b≠x->C b=some o->G b=some o)/\(∀b vs,H b=some (.lst vs)->G b=some (.lst vs))/\cw H G:=(_,rfl,af,λb o n e=>by rw[ay n];calc s _ _ e,λb vs e=>by rw[ay (λz=>by rw[z,d]at e;cases e)];calc e,λb vs e=>by rw[ay (λz=>by rw[z,d]at e;cases e)];calc e)
theorem Y2{C:Hp}{d:Addr}(a:List (Key×V))(s:av C H):∃G,upd H d (.dK a)=G/\G d=some (.dK a)/\(∀b o,b≠d->C b=some o->G b=some o)/\(∀b o,b≠d->H b=some o->G b=some o):=(_,rfl,af,λb o n e=>by rw[ay n];calc s _ _ e,λb o n e=>by rw[ay n];calc e)
theorem qF:∀(a:List (Int×Int)) {r:RS}{p:Int×Int},r.pf (a++[p])=(r.pf a).put p.1.toNat p.2 none
 | [],r,p=>rfl
 |q::a,r,p=>qF a
theorem Ck{nt:NT}(j:nt.Ok):(RS.new nt).uX nt 0:=by
 refine(λm e=>rfl,λm e=>rfl,λm e s d=>?_,λm e h f=>?_,λv i=>rfl,λv i=>rfl,λv i a c d=>?_,λm e=>S' _,λm e u b=>?_,λv i=>S' _,λm e u b=>?_)
 ·have g:=j.gd e;have d:s ∈ [(((nt.ms.getD m default).ns),(nt.ms.getD m default).row)]:=d;simp at d;subst d;exact(rfl,g.bn,g.r12)
 ·have f:h∈([]:List (List Int)):=f;simp at f
 ·have d:some ((a),c)∈([]:List (Option (Int×Int))):=d;simp at d
 ·have b:u∈([[]]:List (List Int)):=b;simp at b;subst b;exact S' _
 ·have b:u∈([[]]:List (List Int)):=b;simp at b;subst b;calc List.nil_prefix
theorem sI{nt:NT}:∀(b:List (Int×Int)) {r:RS}{B:Nat},r.uX nt B->(r.pf b).uX nt (B+b.length)
 | [],r,B,h=>h
 |p::b,r,B,h=>by
  have e:B+(p::b).length=B+1+b.length:=by simp;lia
  rw[e];calc sI b (h.put (λa c z=>by cases z))
theorem uN:∀(a:List (Int×Int)) {r:RS},(r.pf a).picks=r.picks
 | [],r=>rfl
 |p::a,r=>uN a
theorem Aq{nt:NT}(a:nt.Ok){ls:List (Int×Int)}(h:ls.length<=20):(RS.begin nt ls).Ok nt/\(RS.begin nt ls).picks=[]:=by
 have e:(RS.begin nt ls).picks=[]:=uN ls;calc((sI ls (Ck a)).ok ?_,e);show 0+ls.length<=20+24*(RS.begin nt ls).picks.length;rw[e];simp;lia
structure rG(H0 H':Hp)(D:Addr)(as:List Addr)(n:Nat)(ct:Nat->Hp->HO->Prop):Prop where
 len:as.length=n
 nd:as.Nodup
 new:∀a∈as,H0 a=none/\a≠D
 ins:∀(j:Nat) a,as[j]?=some a->∃o,H' a=some o/\ct j H' o
theorem uM.o{n:Nat}{ct:Nat->Hp->List V->Prop}(h:uM H0 H' D as n ct):rG H0 H' D as n (λj H u=>∃vs,u=.lst vs/\ct j H vs):=(h.len,h.nd,h.new,λj a e=>by
 let(vs,a,b):=h.ins j a e;calc(_,a,_,rfl,b))
theorem uM.some{n:Nat}{ct:Nat->Hp->List V->Prop}(h:uM H0 H1 D as n ct)(s:av H1 H2):∀a∈as,H2 a≠none:=λa m=>by
 let(j,e):=List.getElem?_of_mem m;let(b,e,_):=h.ins j a e;rw[s _ _ e];calc λz=>nomatch z
theorem Eh{F:Addr->Prop}{G:Hp}{n:Nat->Nat}{c:Nat->Nat->CO}(g:Nat->Hp)(k:Nat->Nat)(p:Nat->List Addr)(o:Nat->Addr)(ct:Nat->Nat->Hp->HO->Prop)(W:∀t i,ad t i=(p t).getD i 0)(X:∀t,n (t+7)=0)(K:∀t t',t<=6->t'<=6->k t=k t'->t=t')(B:∀t b,g t b≠none->g (t+1) b≠none)(C:∀b,F b->g 0 b≠none/\∃u,G b=some u/\soft u)
  (q:∀t,t<=6->rG (g (k t)) G (o t) (p t) (n t) (ct t)/\(∀a∈p t,g (k t+1) a≠none)/\(1<=t->g (k t) (o t)=none/\g (k t+1) (o t)≠none)) (Y:∀t i u,t<=6->ct t i G u->soft u)
  (Z:(∀b,F b\/FP n ad b->∃u,G b=some u/\soft u)->(∀s D,g s D=none->g (s+1) D≠none->(∀t,t<=6->k t=s->¬D∈p t)->¬(F D\/FP n ad D))->∀t i u,t<=6->i<n t->G (ad t i)=some u->ct t i G u->OR (i3 (λb=>F b\/FP n ad b) G) (c t i) u):
  dJ F G n ad c/\(∀b,FP n ad b->g 0 b=none/\∃u,G b=some u/\soft u)/\∀t,1<=t->t<=6->¬F (o t)/\¬FP n ad (o t)/\(p t).map V.ref=m7 n ad t:=by
 have r:∀t i,i<n t->t<=6:=λt i h=>Classical.byContradiction λz=>by
  have:=X (t-7);rw[show t-7+7=t by lia]at this;lia
 have up:∀(d t:Nat) (b:Addr),g t b≠none->g (t+d) b≠none:=λd=>by
  induction d with
  |zero=>calc λt b h=>h
  |succ d o=>exact λt b h=>B _ _ (o t b h)
 have v:∀s o b,s<=o->g s b≠none->g o b≠none:=λs o b h e=>by
  have:=up (o-s) s b e;rwa [show s+(o-s)=o by lia]at this
 have w:∀t i,i<n t->(p t)[i]?=some (ad t i)/\g (k t) (ad t i)=none/\g (k t+1) (ad t i)≠none/\∃u,G (ad t i)=some u/\ct t i G u:=λt i j=>by
  let(h,x,_):=q t (r t i j);have e:(p t)[i]?=some (ad t i):=by rw[W];exact bu (by rw[h.len];calc j)
  have m:=aaT e;exact(e,(h.new _ m).1,x _ m,h.ins _ _ e)
 have L:∀s D,g s D=none->g (s+1) D≠none->(∀t,t<=6->k t=s->¬D∈p t)->¬(F D\/FP n ad D):=λs D M x hn z=>by
  rcases z with z|⟨t,i,j,rfl⟩
  ·exact v 0 s D (aaO _) (C D z).1 M
  ·let(e,I,y,_):=w t i j;rcases Nat.lt_trichotomy s (k t) with l | l | l
   ·exact v _ _ _ l x I
   ·exact hn t (r t i j) l.symm (aaT e)
   ·exact v _ _ _ l y M
 have N:∀b,FP n ad b->g 0 b=none/\∃u,G b=some u/\soft u:=λb (t,i,j,e)=>by
  subst e;let(_,I,_,u,y,J):=w t i j;exact(Classical.byContradiction λz=>v 0 _ _ (aaO _) z I,u,y,Y t i u (r t i j) J)
 refine((λt i t' O j P e=>?_,λt i j z=>?_,λt i j=>?_),N,λt x R=>?_)
 ·let(a1,a2,a3,_):=w t i j;let(S,T,U,_):=w t' O P;rw[<-e]at S T U;have es:k t=k t':=by
   rcases Nat.lt_trichotomy (k t) (k t') with l|l|l
   ·exact absurd T (v _ _ _ l a3)
   ·exact l
   ·exact absurd a2 (v _ _ _ l U)
  have:=K t t' (r t i j) (r t' O P) es;subst this;have h:=(q t (r t i j)).1;exact(rfl,(List.getElem?_inj (by rw[h.len];calc j) h.nd).mp (a1.trans S.symm))
 ·exact v 0 _ _ (aaO _) (C _ z).1 (w t i j).2.1
 ·let(_,_,_,u,y,J):=w t i j;exact(u,y,Z (λb z=>z.elim (λh=>(C b h).2) λh=>(N b h).2) L t i u (r t i j) j y J)
 ·let(h,_,g):=q t R;have:=L _ _ (g x).1 (g x).2 (λt' h' e m=>by
   have:=K t' t h' R e;subst this;calc(h.new _ m).2 rfl)
  calc(λz=>this (.inl z),λz=>this (.inr z),?_);unfold m7;apply List.ext_getElem (by simp[h.len]);intro j k g;have i:j<n t:=by simpa using g
  simp only[List.getElem_map,List.getElem_range];congr 1;calc(List.getElem_eq_iff _).mpr (w t j i).1
theorem OJ{CN e:Addr}{c:List Addr}{d f:List V}(h:lM CN H e ms wv lv)(h':lM CN H e c d f):lv=f:=by
 let(d,e,f,i,c,j,k,g):=h;let(d,e,f,i,a,j,k,b):=h';rw[c]at a
 cases a;rw[g]at b
 cases b;rfl
theorem yn{C c:Addr}{p:Str×V}{l:List (Str×V)}(h:some (HO.ins C a [])=some (HO.ins c b (p::l))):False:=by cases h
theorem mM{K:W.Frag}{C:Hp}{x CR h:Addr}{c:List (Str×V)}{v:V}{n:Nat}{R:Hp->Prop}(s:av C H)(d:C x=some (.ins CR h c))(k:va K CR)(l:bS K CR f)(m:c.length<n)(q:∀G,G x=some (.ins CR h (bP f v c))->(∀b o,b≠x->C b=some o->G b=some o)->(∀b vs,H b=some (.lst vs)->G b=some (.lst vs))->cw H G->(bP f v c).length<n+1->R G)(g:n<=1000:=by decide):∃a g j i,x=a/\H a=some (.ins g j i)/\va K g/\bS K g f/\i.length<1000/\R (upd H a (.ins g j (bP f v i))):=by
 have d:=s _ _ d;let(G,e,g,i,j,n):=Y1 (bP f v c) s d;calc(x,CR,h,c,rfl,d,k,l,(),e▸q G g i j n (jq m))
noncomputable abbrev Kx:Stmt:=(cn (top 63)).getD 0 (.Pass (0,0,0,0))
inductive Ky(C CN CR:Addr)(vs:List V)(H:Hp)(Q:VK):Prop
 |mk (F:Addr->Prop) (x dx bq:Addr) (nt:NT) (ls:List (Int×Int)) (ms:List Addr) (wv lv:List V) (h0:vs=[.ref x,.ref bq]) (h1:H x=some (.ins CR dx [])) (h2:uC C CN H bq nt) (h3:lM CN H bq ms wv lv) (h4:gJ H 1 lv (ls.map pC)) (h5:ls.length<=20) (h6:∀l∈ls,0<=l.1/\l.1<nt.ws.length) (mK:FS F H) (h7:∀ad H',(∀b o,b≠x->H b=some o->H' b=some o)->(∀b,FP nt.n ad b->H b=none)->bW C CN CR F H' x bq nt (RS.begin nt ls) ad->Q .bG H'):Ky C CN CR vs H Q
def yo(C CN CR:Addr):Sp:=λvs H Q _=>Ky C CN CR vs H Q
theorem Y4(D:Fm K mg "Run" CR "Run.__init__" Kx ["self","net"])(T:Tx K mg C CN CR F FD)(eU:cy P w K mg base C "first_state" 1 bY (JZ C))(jC:cy P w K mg base CN "letters" 1 bY (rE CN))(bD:cy P w K mg base CN "machines" 1 bY (gc CN))(df:cy P w K mg base CN "ways" 1 bY (pE CN))(cZ:cy P w K mg base CR "put_letter" 1 dV (uG C CN CR)):xV P w K mg base "Run" CR 2 ["self","net"] (yo C CN CR):=by
 exists["self","net","way","said"];let(FF,x,S,k,l,ls,ms0,wv0,lv,rfl,U,hn,hf0,Mt,rP,tm,mK,q):=h;have hu:=hr.units;refine(_,(ai (fS (aq 0) (aq 1) (gG rfl))
  (ai (fS (aq 0) (bH aa) (gG rfl))
  (ai (fS (aq 0) (dR (N':=hH) (ix:=[none]) (cj (ft bD T.cR hr (aq 1))) (λ_ _ _ _=>(bg (i:=0) (show(hH:List Str).Nodup by decide +kernel) rfl Sort)) pR (λ_ _ _ _=>(bH (ag (ft eU T.cQ hr (aq 0)) aa)))) rfl)
  (ai (fS (aq 0) (dR (N':=hH) (ix:=[none]) (cj (ft bD T.cR hr (aq 1))) (λ_ _ _ _=>(bg (i:=0) (show(hH:List Str).Nodup by decide +kernel) rfl Sort)) pR (λ_ _ _ _=>(bH (ag aj aa)))) rfl)
  (ai (fS (aq 0) (dR (N':=hH) (ix:=[none]) (cj (ft bD T.cR hr (aq 1))) (λ_ _ _ _=>(bg (i:=0) (show(hH:List Str).Nodup by decide +kernel) rfl Sort)) pR (λ_ _ _ _=>(bH aa))) rfl)
  (ai (fS (aq 0) (dR (N':=["way"]) (ix:=[none]) (cj (ft df T.cR hr (aq 1))) (λ_ _ _ _=>(bg (i:=0) (show(["way"]:List Str).Nodup by decide +kernel) rfl Sort)) pR (λ_ _ _ _=>(bH aa))) rfl)
  (ai (fS (aq 0) (dR (N':=["way"]) (ix:=[none]) (cj (ft df T.cR hr (aq 1))) (λ_ _ _ _=>(bg (i:=0) (show(["way"]:List Str).Nodup by decide +kernel) rfl Sort)) pR (λ_ _ _ _=>(bH aa))) rfl)
  (ai (fS (aq 0) (dR (N':=["way"]) (ix:=[none]) (cj (ft df T.cR hr (aq 1))) (λ_ _ _ _=>(bg (i:=0) (show(["way"]:List Str).Nodup by decide +kernel) rfl Sort)) pR (λ_ _ _ _=>(bH aa))) rfl)
  (ao (fc PassesOwn.never rfl (cj (ft jC T.cR hr (aq 1))) (fu (i:=2) (j:=3) rfl sc rfl rfl Sort Sort)
  (ao (bR (fz cZ T.bb hr (aq 0) (ag (aq 2) (ag (aq 3) (ag k8 aa)))))))))))))))),?_)
 have aW:=hn.ok;nofun;let((ms,wv,N,hf,nE,yH,Mw),_):=id hn;let(Z,a1,b1,c1,I,g2,g3,g4):=id hf;have SH:N=lv:=OJ hf hf0;subst SH;ac_rfl;have Mm:(ms.map V.ref).length<=5:=by simp[nE];exact aW.Ta
 have k6:wv.length=l.ws.length:=by simpa using Mw.1
 have rO:wv.length<=10:=by rw[k6];exact aW.Fy
 have O:k≠x:=λz=>by rw[z,U]at I;exact yn I
 have QB:a1≠x:=gK g2 U (λz=>nomatch z);have QC:b1≠x:=gK g3 U (λz=>nomatch z);have QE:c1≠x:=gK g4 U (λz=>nomatch z);walk_at "j";refine Fz x CR S _ rfl U T.bb T.cS ∅ ?_;have VM:upd H x (.ins CR S (bP "own_net" (.ref k) [])) x=some (.ins CR S (bP "own_net" (.ref k) [])):=af;have nxa:∀b o,b≠x->H b=some o->upd H x (.ins CR S (bP "own_net" (.ref k) [])) b=some o:=λb o n e=>by rw[ay n];exact e
 generalize hGa:upd H x (.ins CR S (bP "own_net" (.ref k) []))=Ga at *;walk_at "j";refine(aaO _,λp hp=>?_);have sp0:=av.new (.lst []) hp;have ep0:upd Ga p (.lst []) p=some (.lst []):=af;generalize hGb:upd Ga p (.lst [])=Gb at *;walk_at "j";refine Fz x CR S _ rfl (sp0 _ _ VM) T.bb T.cX (jq (n:=999) ∅) ?_;have Up:upd Gb x (.ins CR S (bP "picks_done" (.ref p) (bP "own_net" (.ref k) []))) x=some (.ins CR S (bP "picks_done" (.ref p) (bP "own_net" (.ref k) []))):=af;have ka:∀b o,b≠x->Ga b=some o->upd Gb x (.ins CR S (bP "picks_done" (.ref p) (bP "own_net" (.ref k) []))) b=some o:=λb o n e=>by rw[ay n];exact sp0 _ _ e
 have npx:p≠x:=Ne.symm (au VM hp);have ep:upd Gb x (.ins CR S (bP "picks_done" (.ref p) (bP "own_net" (.ref k) []))) p=some (.lst []):=by rw[ay npx];exact ep0
 generalize hG0:upd Gb x (.ins CR S (bP "picks_done" (.ref p) (bP "own_net" (.ref k) [])))=G0 at *;have F5:(bP "picks_done" (.ref p) (bP "own_net" (.ref k) [])).length<3:=jq (jq (Nat.zero_lt_succ _));have QF:∀b o,b≠x->H b=some o->G0 b=some o:=λb o n e=>ka b o n (nxa b o n e);walk_at "j";refine bT ?_;walk_at "j";refine gN (QF _ _ O I) (eZ ⋯ ⋯ ⋯) ?_;refine fH k ms wv N rfl (Z,a1,b1,c1,QF _ _ O I,QF _ _ QB g2,QF _ _ QC g3,QF _ _ QE g4) (λlm1 aeA=>?_);have Uq:=av.new (.lst (ms.map V.ref)) aeA;have F8:upd G0 lm1 (.lst (ms.map V.ref)) lm1=some (.lst (ms.map V.ref)):=af;generalize akI:upd G0 lm1 (.lst (ms.map V.ref))=Y5 at *;walk_at "j";refine .inl ((_,aV.of F8),λD1 G9=>?_);refine bF (J:=yP K lm1) (n:=(ms.map V.ref).length) (λi ys H'=>∃as:List Addr,ys=as.map V.ref/\av Y5 H'/\uM Y5 H' D1 as i (λj H' vs=>∃v,vs=[v]/\HT H' 2 v (zm (l.ms.getD j default).ns (l.ms.getD j default).row))) (U' (small ())) ([],rfl,av.new _ G9,uM.nil) ?_ ?_ ?_ ?_
 ·rintro i ys H' hi ⟨_,_,s3,_⟩;exact(_,(ms.map V.ref)[i],aV.of (s3 _ _ F8),cT hi)
 ·rintro ys H' ⟨_,_,s3,_⟩;exact(_,aV.of (s3 _ _ F8),S' _)
 ·intro i ys H' hi y hl jl xx H4 jm;nofun;let(as,rfl,s3,hL):=jl;let(rfl,hy):=jm;ac_rfl;have ex:=hy _ (aV.of (s3 _ _ F8));calc(Ext.set (Ext.refl _) rfl,?_);walk_at "j"
  try rw[if_pos trivial]
  have him:i<ms.length:=by simpa using hi
  have exm:xx=.ref ms[i]:=by
   rw[J',cT him]at ex
   cases ex;rfl
  nofun;subst exm;have OK:i<l.ms.length:=by lia
  have nmx:ms[i]≠x:=λz=>by
   let(d1,s1,d2,X,_):=yH i ms[i] _ (cT him) (bu (d:=default) OK);rw[z,U]at X;exact yn X
  have F9:VC C H4 ms[i] (l.ms.getD i default):=by
   let(d1,s1,d2,X,w2,w3):=yH i ms[i] _ (cT him) (bu (d:=default) OK);have tt:cw H H4:=λb xs e=>s3 _ _ (Uq _ _ (QF b _ (λz=>by rw[z,U]at e;cases e) e));exact(d1,s1,d2,s3 _ _ (Uq _ _ (QF _ _ nmx X)),w2.aM tt,w3.aM tt)
  let(d1,s1,d2,X,w2,w3):=id F9;ac_rfl;refine mth X (DP ⋯ ⋯ ⋯) ?_;refine(ms[i],_,_,_,_,rfl,F9,λst oI=>?_);walk_at "j";refine(U' (small nofun),λp hp=>?_);have sN:=av.new (.lst [st]) hp;have nD:p≠D1:=Ne.symm (au y hp);refine cD (sN _ _ y) hl hi (U' (small ())) (as++[p],nofun,λb o e=>?_,?_)
  ·rw[ay (au e G9)];exact sN _ _ (s3 _ _ e)
  ·refine hL.snoc s3 (by rw[y];simp) hp (vs:=[st]) ?_ (st,rfl,oI.aM (λb xs e=>by rw[ay (λz=>by rw[z,y] at e;cases e)];calc sN _ _ e)) (λb o nb e=>?_) (λj vs (v,e,h)=>(v,e,h.aM (λb xs e=>by rw[ay (λz=>by rw[z,y] at e;cases e)];calc sN _ _ e)))
   ·rw[ay nD];exact af
   ·rw[ay nb];exact sN _ _ e
 intro ys H1 y hl qt;let(A1,rfl,Y6,hL1):=qt;walk_at "j";refine mM Y6 (Uq _ _ Up) T.bb T.b8 F5 λG1 sr kd1 Y7 aeC JY=>?_;have Y8:=Y7 _ _ y;have kg1:∀b o,b≠x->G0 b=some o->G1 b=some o:=λb o n e=>kd1 b o n (Uq _ _ e);have VN:∀b o,b≠x->H b=some o->G1 b=some o:=λb o n e=>kg1 b o n (QF b o n e);have fD1:Y5 D1=none:=G9;clear y;walk_at "j";refine bT ?_;walk_at "j";refine gN (VN _ _ O I) (eZ ⋯ ⋯ ⋯) ?_;refine fH k ms wv N rfl (Z,a1,b1,c1,VN _ _ O I,VN _ _ QB g2,VN _ _ QC g3,VN _ _ QE g4) (λlm2 aeF=>?_);have VO:=av.new (.lst (ms.map V.ref)) aeF;have vH:upd G1 lm2 (.lst (ms.map V.ref)) lm2=some (.lst (ms.map V.ref)):=af;generalize akL:upd G1 lm2 (.lst (ms.map V.ref))=Gd2 at *;walk_at "j";refine .inl ((_,aV.of vH),λD2 F0=>?_);refine lR (vs:=[V.int 0]) vH F0 () (λ_=>Ext.set (Ext.refl _) rfl) (λ_ _ _ r=>And.intro ∅ r) ?_;intro A2 H2 y VP Ur;walk_at "j";refine mM VP (VO _ _ sr) T.bb T.eC JY λG2 FV VQ Y9 akM yV=>?_;have VR:=Y9 _ _ y;have kg2:∀b o,b≠x->G1 b=some o->G2 b=some o:=λb o n e=>VQ b o n (VO _ _ e);have VS:∀b o,b≠x->H b=some o->G2 b=some o:=λb o n e=>kg2 b o n (VN b o n e);have Yo:Gd2 D2=none:=F0;clear y;walk_at "j";refine bT ?_;walk_at "j";refine gN (VS _ _ O I) (eZ ⋯ ⋯ ⋯) ?_;refine fH k ms wv N rfl (Z,a1,b1,c1,VS _ _ O I,VS _ _ QB g2,VS _ _ QC g3,VS _ _ QE g4) (λlm3 aeI=>?_);have VT:=av.new (.lst (ms.map V.ref)) aeI;have Za:upd G2 lm3 (.lst (ms.map V.ref)) lm3=some (.lst (ms.map V.ref)):=af;generalize akN:upd G2 lm3 (.lst (ms.map V.ref))=Gd3 at *;walk_at "j";refine .inl ((_,aV.of Za),λD3 zZ=>?_);refine lR (vs:=[]) Za zZ () (λ_=>Ext.set (Ext.refl _) rfl) (λ_ _ _ r=>And.intro ∅ r) ?_;intro A3 H3 y Zb hL3;walk_at "j";refine mM Zb (VT _ _ FV) T.bb T.cY yV λG3 Mv Zc Zd akO Cc=>?_;have VU:=Zd _ _ y;have kg3:∀b o,b≠x->G2 b=some o->G3 b=some o:=λb o n e=>Zc b o n (VT _ _ e);have VW:∀b o,b≠x->H b=some o->G3 b=some o:=λb o n e=>kg3 b o n (VS b o n e);have Yr:Gd3 D3=none:=zZ;clear y;walk_at "j";refine bT ?_;walk_at "j";refine gN (VW _ _ O I) (eZ ⋯ ⋯ ⋯) ?_;refine fH k ms wv N rfl (Z,a1,b1,c1,VW _ _ O I,VW _ _ QB g2,VW _ _ QC g3,VW _ _ QE g4) (λlm4 aeL=>?_);have VX:=av.new (.lst wv) aeL;have Ze:upd G3 lm4 (.lst wv) lm4=some (.lst wv):=af;generalize akP:upd G3 lm4 (.lst wv)=Gd4 at *;walk_at "j";refine .inl ((_,aV.of Ze),λD4 Kz=>?_);refine lR (vs:=[]) Ze Kz () (λ_=>Ext.set (Ext.refl _) rfl) (λ_ _ _ r=>And.intro ∅ r) ?_;intro A4 H4 y VY hL4;walk_at "j";refine mM VY (VX _ _ Mv) T.bb T.cb Cc λG4 T6 Zf Zg akQ Qg=>?_;have VZ:=Zg _ _ y;have kg4:∀b o,b≠x->G3 b=some o->G4 b=some o:=λb o n e=>Zf b o n (VX _ _ e);have V0:∀b o,b≠x->H b=some o->G4 b=some o:=λb o n e=>kg4 b o n (VW b o n e);have fD4:Gd4 D4=none:=Kz;clear y;walk_at "j";refine bT ?_;walk_at "j";refine gN (V0 _ _ O I) (eZ ⋯ ⋯ ⋯) ?_;refine fH k ms wv N rfl (Z,a1,b1,c1,V0 _ _ O I,V0 _ _ QB g2,V0 _ _ QC g3,V0 _ _ QE g4) (λlm5 aeP=>?_);have V1:=av.new (.lst wv) aeP;have Zh:upd G4 lm5 (.lst wv) lm5=some (.lst wv):=af;generalize akR:upd G4 lm5 (.lst wv)=Gd5 at *;walk_at "j";refine .inl ((_,aV.of Zh),λD5 yF=>?_);refine lR (vs:=[]) Zh yF () (λ_=>Ext.set (Ext.refl _) rfl) (λ_ _ _ r=>And.intro ∅ r) ?_;intro A5 H5 y V2 hL5;walk_at "j";refine mM V2 (V1 _ _ T6) T.bb T.fg Qg λG5 Ha Zi Zj akS hl5=>?_;have V3:=Zj _ _ y;have kg5:∀b o,b≠x->G4 b=some o->G5 b=some o:=λb o n e=>Zi b o n (V1 _ _ e);have V4:∀b o,b≠x->H b=some o->G5 b=some o:=λb o n e=>kg5 b o n (V0 b o n e);have fD5:Gd5 D5=none:=yF;clear y;walk_at "j";refine bT ?_;walk_at "j";refine gN (V4 _ _ O I) (eZ ⋯ ⋯ ⋯) ?_;refine fH k ms wv N rfl (Z,a1,b1,c1,V4 _ _ O I,V4 _ _ QB g2,V4 _ _ QC g3,V4 _ _ QE g4) (λlm6 aeT=>?_);have V5:=av.new (.lst wv) aeT;have Zk:upd G5 lm6 (.lst wv) lm6=some (.lst wv):=af;generalize akT:upd G5 lm6 (.lst wv)=Gd6 at *;walk_at "j";refine .inl ((_,aV.of Zk),λD6 Zl=>?_);refine lR (vs:=[]) Zk Zl () (λ_=>Ext.set (Ext.refl _) rfl) (λ_ _ _ r=>And.intro ∅ r) ?_;intro A6 H6 y Zm hL6;walk_at "j";refine mM Zm (V5 _ _ Ha) T.bb T.de hl5 λW YI Zn Zo akU hl6=>?_;have V6:=Zo _ _ y;have kg6:∀b o,b≠x->G5 b=some o->W b=some o:=λb o n e=>Zn b o n (V5 _ _ e);have L:∀b o,b≠x->H b=some o->W b=some o:=λb o n e=>kg6 b o n (V4 b o n e);have fD6:Gd6 D6=none:=Zl;clear y;have g:∀(G T:Hp),(∀b o,b≠x->G b=some o->T b=some o)->(∃fs,G x=some (.ins CR S fs))->(∀b vs,G b=some (.lst vs)->T b=some (.lst vs))/\cw G T:=λG T h (fs,e)=>(λb vs M=>h b _ (λz=>by rw[z,e]at M;cases M) M,λb vs M=>h b _ (λz=>by rw[z,e]at M;cases M) M)
 have OL:=kg6;have QG:∀b o,b≠x->G4 b=some o->W b=some o:=λb o n e=>OL b o n (kg5 b o n e);have QH:∀b o,b≠x->G3 b=some o->W b=some o:=λb o n e=>QG b o n (kg4 b o n e);have Us:∀b o,b≠x->G2 b=some o->W b=some o:=λb o n e=>QH b o n (kg3 b o n e);have Zp:∀b o,b≠x->G1 b=some o->W b=some o:=λb o n e=>Us b o n (kg2 b o n e);have kc0:∀b o,b≠x->G0 b=some o->W b=some o:=λb o n e=>Zp b o n (kg1 b o n e);have Ut:uM Y5 G1 D1 A1 (ms.map V.ref).length (λj H' vs=>∃v,vs=[v]/\HT H' 2 v (zm (l.ms.getD j default).ns (l.ms.getD j default).row)):=hL1.keep Y7 (λj vs (v,e,h)=>(v,e,h.aM aeC));have Uu:=Ut.keep (g _ _ Zp (_,sr)).1 (λj vs (v,e,h)=>(v,e,h.aM (g _ _ Zp (_,sr)).2));have QI:=(g _ _ Zp (_,sr)).1 _ _ Y8;have Uv:uM Gd2 G2 D2 A2 (ms.map V.ref).length (λ_ _ vs=>vs=[V.int 0]):=Ur.keep Y9 (λj vs e=>e);have Uw:=Uv.keep (g _ _ Us (_,FV)).1 (λj vs e=>e);have QJ:=(g _ _ Us (_,FV)).1 _ _ VR;have Ux:uM Gd3 G3 D3 A3 (ms.map V.ref).length (λ_ _ vs=>vs=[]):=hL3.keep Zd (λj vs e=>e);have Uy:=Ux.keep (g _ _ QH (_,Mv)).1 (λj vs e=>e);have QK:=(g _ _ QH (_,Mv)).1 _ _ VU;have Uz:uM Gd4 G4 D4 A4 wv.length (λ_ _ vs=>vs=[]):=hL4.keep Zg (λj vs e=>e);have UA:=Uz.keep (g _ _ QG (_,T6)).1 (λj vs e=>e);have QL:=(g _ _ QG (_,T6)).1 _ _ VZ;have UB:uM Gd5 G5 D5 A5 wv.length (λ_ _ vs=>vs=[]):=hL5.keep Zj (λj vs e=>e);have yp:=UB.keep (g _ _ OL (_,Ha)).1 (λj vs e=>e);have wX:=(g _ _ OL (_,Ha)).1 _ _ V3;have OM:uM Gd6 W D6 A6 wv.length (λ_ _ vs=>vs=[]):=hL6.keep Zo (λj vs e=>e);have Zq:=(g _ _ kc0 (_,Up)).1 _ _ ep;have y:(ms.map V.ref).length=l.ms.length:=by simp[nE]
 rw[y]at Uu;rw[y]at Uw;rw[y]at Uy;rw[k6]at UA;rw[k6]at yp;rw[k6]at OM;obtain⟨ad,Um⟩:∃ad:Nat->Nat->Addr,∀t i,ad t i=([[p],A1,A2,A3,A4,A5,A6].getD t []).getD i 0:=(_,λ_ _=>rfl)
 have pz:∀{A B:Hp},(∀b o,b≠x->A b=some o->B b=some o)->∀{o},B x=some o->∀b,A b≠none->B b≠none:=λ{A B} h {o} e b hb=>by
  by_cases z:b=x
  ·rw[z,e];exact λz=>nomatch z
  ·cases e1:A b with
   |none=>calc absurd e1 hb
   |some u=>rw[h b u z e1];exact λz=>nomatch z
 have Y:∀{A:Hp} {b:Addr} {o:HO},A b=some o->A b≠none:=λe z=>by rw[e]at z;cases z
 have nFx:∀b,FF b->b≠x:=λb h z=>by
  let(o,e,so):=mK b h;rw[z,U]at e;cases e;exact so
 let(cI,QA,hDo):=Eh (F:=FF) (G:=W) (n:=l.n) (c:=(RS.new l).ct) (λt=>[Ga,Y5,Gd2,Gd3,Gd4,Gd5,Gd6].getD t W) (λt=>t) _ (λt=>[x,D1,D2,D3,D4,D5,D6].getD t x) (λt=>[λ_ _ u=>u=.lst [],λj H u=>∃vs,u=.lst vs/\∃v,vs=[v]/\HT H 2 v (zm (l.ms.getD j default).ns (l.ms.getD j default).row),λ_ _ u=>∃vs,u=.lst vs/\vs=[V.int 0]].getD t λ_ _ u=>∃vs,u=.lst vs/\vs=[]) Um (λ_=>rfl) (λ_ _ _ _ h=>h)
  (λt=>match t with
   |0=>pz (λb o n e=>Uq _ _ (ka b o n e)) (Uq _ _ Up)
   |1=>pz (λb o n e=>VO _ _ (kd1 b o n e)) (VO _ _ sr)
   |2=>pz (λb o n e=>VT _ _ (VQ b o n e)) (VT _ _ FV)
   |3=>pz (λb o n e=>VX _ _ (Zc b o n e)) (VX _ _ Mv)
   |4=>pz (λb o n e=>V1 _ _ (Zf b o n e)) (V1 _ _ T6)
   |5=>pz (λb o n e=>V5 _ _ (Zi b o n e)) (V5 _ _ Ha)
   |6=>pz Zn YI
   | (t + 7)=>λb h=>h)
  (λb h=>by
   let(o,e,so):=mK b h;calc(Y (nxa b o (nFx b h) e),o,L b o (nFx b h) e,so))
  (λt ht=>match t,ht with
   | 0,_=>((rfl,nofun,λa m=>by rw[List.mem_singleton.mp m];exact(hp,npx),λj a e=>by cases j with
    |zero=>cases e;calc(_,Zq,rfl)
    | succ j=>cases e),λa m=>by rw[List.mem_singleton.mp m];calc Y (Uq _ _ ep),λh=>absurd h ∅)
   |1,_=>(Uu.o,Ut.some VO,λ_=>(fD1,Y (VO _ _ Y8)))
   |2,_=>(Uw.o,Uv.some VT,λ_=>(Yo,Y (VT _ _ VR)))
   |3,_=>(Uy.o,Ux.some VX,λ_=>(Yr,Y (VX _ _ VU)))
   |4,_=>(UA.o,Uz.some V1,λ_=>(fD4,Y (V1 _ _ VZ)))
   |5,_=>(yp.o,UB.some V5,λ_=>(fD5,Y (V5 _ _ V3)))
   |6,_=>(OM.o,OM.some (av.refl _),λ_=>(fD6,Y V6))
   | (t + 7),h=>absurd h ())
  (λt i u ht h=>by
   match t,ht,h with
   |0,_,h=>cases h;trivial
   |1,_,(_,e,_)|2,_,(_,e,_)|3,_,(_,e,_)|4,_,(_,e,_)|5,_,(_,e,_)|6,_,(_,e,_)=>cases e;trivial
   | (t + 7),h,_=>calc absurd h ())
  (λhz _ t i u ht hi e h=>by
   match t,ht,h with
   |0,_,h=>cases h;calc(e9.nil:e9 _ 4 [] [])
   |1,_,(_,e,v,M,hv)=>cases e;cases M;calc(e9.one ((Kv hz hv).mono ∅):e9 _ 4 [v] [_])
   |2,_,(_,e,M)=>cases e;cases M;calc(e9.one (.int 0):e9 _ 4 [.int 0] [.int 0])
   |3,_,(_,e,M)|4,_,(_,e,M)|5,_,(_,e,M)|6,_,(_,e,M)=>cases e;cases M;calc(e9.nil:e9 _ 4 [] [])
   | (t + 7),h,_=>calc absurd h ())
 have R:∀b,FP l.n ad b->H b=none:=λb hb=>by
  cases j:H b with
  |none=>rfl
  |some o=>
   have e:=(QA b hb).1;have:b≠x:=λz=>by rw[z]at e;exact Y VM e
   exact absurd e (Y (nxa b o this j))
 have hR:bW C CN CR FF W x k l (RS.new l) ad:=by
  refine((S,λt=>[x,D1,D2,D3,D4,D5,D6].getD t x,?_,λt j v=>?_),cI,?_)
  ·rw[YI,Hc,Um];rfl
  ·let(X,w2,w3):=hDo t j v;calc(?_,X,w2);rw[<-w3]
   match t,j,v with
   |1,_,_=>calc QI
   |2,_,_=>calc QJ
   |3,_,_=>calc QK
   |4,_,_=>calc QL
   |5,_,_=>calc wX
   |6,_,_=>calc V6
   |(t+7),_,h=>exact absurd h ()
  ·calc((ms,wv,N,(Z,a1,b1,c1,L _ _ O I,L _ _ QB g2,L _ _ QC g3,L _ _ QE g4),nE,λi m d e1 j=>?_,Mw.aM (g _ _ L (_,U)).2),aW);let(d1,s1,d2,X,w2,w3):=yH i m d e1 j;have t:m≠x:=λz=>by rw[z,U] at X;exact yn X
   exact(d1,s1,d2,L _ _ t X,w2.aM (g _ _ L (_,U)).2,w3.aM (g _ _ L (_,U)).2)
 have aeY:=Mt.aM (g _ _ L (_,U)).2;clear Ut Uu Uv Uw Ux Uy Uz UA UB yp OM QI QJ QK QL wX Y8 hL1 VR Ur VU hL3 VZ hL4 V3 hL5 V6 hL6 Zq kc0 Zp Us QH QG OL;walk_at "j";refine(k,Z,_,rfl,L _ _ O I,eZ ⋯ ⋯ ⋯,k,ms,wv,N,rfl,(Z,a1,b1,c1,L _ _ O I,L _ _ QB g2,L _ _ QC g3,L _ _ QE g4),λll wN=>?_);have s7:=av.new (.lst N) wN;have ell:upd W ll (.lst N) ll=some (.lst N):=af;generalize hG7:upd W ll (.lst N)=G7 at *;have nll:¬FP l.n ad ll:=λz=>by
  let(_,u,e,_):=QA ll z;rw[wN]at e;cases e
 have g:=hR.same s7;have Zr:=aeY.aM s7.aU;have Zs:N.length=ls.length:=by simpa using Zr.1
 refine .inl ((_,aV.of ell),fw (K:=K) (xs:=N) (λi σ H'=>(∃z2 z3,σ=[some (V.ref x),some (V.ref k),z2,z3])/\Fr (FP l.n ad) G7 H'/\bW C CN CR FF H' x k l ((RS.new l).pf (ls.take i)) ad) ?_ ?_ ?_ ?_)
 ·exact((_,_,rfl),Fr.refl,g)
 ·rintro i σ H' hi ⟨_,fi,_⟩;exact aV.of (fi.at ell nll)
 ·intro i z σ H' hz B4;nofun;let((z2,z3,rfl),fi,u6):=B4;have g:i < ls.length:=by rw[<-Zs];exact(List.getElem?_eq_some_iff.mp hz).1
  have j:ls[i]?=some ls[i]:=cT g;have Ul:=(Zr.2 i z (pC ls[i]) hz (by rw[J',j];rfl)).aM fi.aU;have KA:=tm _ (aaV g);have OI:(RS.new l).pf (ls.take (i+1))=((RS.new l).pf (ls.take i)).put ls[i].1.toNat ls[i].2 none:=by
   rw[abE,j];exact qF _
  generalize ls[i]=p at *;let(pj,px):=p;let(tz,u1,u2,kz,rfl,GO,y1,y2):=dZ Ul;obtain rfl:=y1.cN;obtain rfl:=y2.cN;ac_rfl;refine wD (bI.of GO) ?_;walk_at "j";let(j,t,g,u):=u6.ins;refine gN g (gh ⋯) ?_;have j:((pj.toNat:Nat):Int)=pj:=abv KA.1;refine(FF,x,k,l,_,ad,pj.toNat,px,.bG,none,by rw[j],u6,λb h=>by
   let(o,e,so):=mK b h;calc(o,fi.at (s7 _ _ (L b o (nFx b h) e)) (λz=>by rw[R b z] at e;cases e),so),by have:=KA.2;show pj.toNat < _;simp at this;lia,.bG,(sI (ls.take i) (Ck aW)).mono (by simp;lia),λg f2 Qx=>?_)
  walk_at "j";refine gO (_,_,rfl,rfl) (fi.trans f2) ?_;rw[OI];exact Qx
 ·rintro σ H' ⟨_,fi,u6⟩;rw[Zs,aa0]at u6;calc q ad _ (λb o n e=>?_) R u6;calc fi.at (s7 _ _ (L b o n e)) λz=>?_;rw[R b z]at e;cases e
def gY(H:Hp)(x:V)(M:Int)(ns row:List Int)(d:List bA):Prop:=∃t a b c xs,x=.ref t/\H t=some (.tup [.int M,.ref a,.ref b,.ref c])/\H a=some (.lst (ns.map V.int))/\H b=some (.lst (row.map V.int))/\H c=some (.lst xs)/\gJ H 2 xs (d.map bA.dv)
theorem gY.cv{x:V}{M:Int}{a:List bA}(s:Cv H H')(h:gY H x M ns row a):gY H' x M ns row a:=by
 let(t,a,b,c,d,e,f,g,i,j,l):=h;calc(t,a,b,c,d,e,s _ _ f (λk z=>by cases z),s _ _ g (λk z=>by cases z),s _ _ i (λk z=>by cases z),s _ _ j (λk z=>by cases z),l.aM s.aU)
def Cm(H:Hp)(a:List V)(gQ:List MD):Prop:=a.length=gQ.length/\∀(i:Nat) v d,a[i]?=some v->gQ[i]?=some d->gY H v d.M d.ns d.row d.ds
theorem Cm.cv{c:List V}(s:Cv H H')(h:Cm H c gQ):Cm H' c gQ:=(h.1,λi v d a b=>(h.2 i v d a b).cv s)
def ToldN(H:Hp)(x:V)(gQ:List MD)(ws:List (Int×Int×Str))(ls:List (Int×Int)):Prop:=∃t a b c d wv lv,x=.ref t/\H t=some (.tup [.ref a,.ref b,.ref c])/\H a=some (.lst d)/\H b=some (.lst wv)/\H c=some (.lst lv)/\Cm H d gQ/\gJ H 1 wv (ws.map mQ)/\gJ H 1 lv (ls.map pC)
theorem ToldN.cv{x:V}(s:Cv H H')(h:ToldN H x gQ ws ls):ToldN H' x gQ ws ls:=by
 let(t,a,b,c,d,wv,lv,e,f,g,i,j,l,m,n):=h;calc(t,a,b,c,d,wv,lv,e,s _ _ f (λk z=>by cases z),s _ _ g (λk z=>by cases z),s _ _ i (λk z=>by cases z),s _ _ j (λk z=>by cases z),l.cv s,m.aM s.aU,n.aM s.aU)
noncomputable def MA(a:V)(ev:Addr)(o:Nat->Addr):List (Key×V):=[((.inr "net"),a),((.inr "put"),.ref (o 4)),((.inr "sender"),.ref (o 5)),((.inr "worker"),.ref (o 6)),((.inr "states"),.ref (o 1)),((.inr "words"),.ref (o 2)),((.inr "heard"),.ref (o 3)),((.inr "events"),.ref ev)]
section
variable {H:Hp}{d:Addr}{tn:V}{ev:Addr}{o:Nat->Addr}
theorem Gd(h:H d=some (.dK (MA tn ev o))):fQ H d (.str "net") (some tn):=.inl (_,.inr "net",.inl h,rfl,by kernel_rfl)
theorem OO(h:H d=some (.dK (MA tn ev o))):fQ H d (.str "put") (some (.ref (o 4))):=.inl (_,.inr "put",.inl h,rfl,by kernel_rfl)
theorem KC(h:H d=some (.dK (MA tn ev o))):fQ H d (.str "sender") (some (.ref (o 5))):=.inl (_,.inr "sender",.inl h,rfl,by kernel_rfl)
theorem UC(h:H d=some (.dK (MA tn ev o))):fQ H d (.str "worker") (some (.ref (o 6))):=.inl (_,.inr "worker",.inl h,rfl,by kernel_rfl)
theorem KD(h:H d=some (.dK (MA tn ev o))):fQ H d (.str "states") (some (.ref (o 1))):=.inl (_,.inr "states",.inl h,rfl,by kernel_rfl)
theorem Zt(h:H d=some (.dK (MA tn ev o))):fQ H d (.str "words") (some (.ref (o 2))):=.inl (_,.inr "words",.inl h,rfl,by kernel_rfl)
theorem OP(h:H d=some (.dK (MA tn ev o))):fQ H d (.str "heard") (some (.ref (o 3))):=.inl (_,.inr "heard",.inl h,rfl,by kernel_rfl)
theorem UD(h:H d=some (.dK (MA tn ev o))):fQ H d (.str "events") (some (.ref ev)):=.inl (_,.inr "events",.inl h,rfl,by kernel_rfl)
end
noncomputable def _root_.DD.RS.tv(r:RS):Nat->Nat->CO
 |0,_=>.l (r.picks.map pairD)
 |1,m=>.l ((r.mm m).fm.map uc)
 |2,m=>.l ((r.mm m).wp.map λw=>.lst (w.map .int))
 |3,m=>.l ((r.mm m).hr.map λw=>.lst (w.map .int))
 |4,w=>.l ((r.ww w).say.map .int)
 |5,w=>.l ((r.ww w).snd.map oG)
 |_,w=>.d (kd (r.ww w).fb) ((r.ww w).fb.countP Option.isSome)
theorem count_set{e:Int×Int}:∀{l:List (Option (Int×Int))}{k:Nat},l[k]?=some none->(l.set k (some e)).countP Option.isSome=l.countP Option.isSome+1
 | [],k,h=>by simp at h
 |a::r,0,h=>by simp at h;subst h;simp
 |a::r,k+1,h=>by
  have b:=count_set (e:=e) (l:=r) (k:=k) (by simpa using h);simp only[List.set_cons_succ,List.countP_cons];rw[b];lia
theorem KG{l:List (Option (Int×Int))}{k:Nat}(h:k<l.length)(j:Int):kd (l.set k (some e)) j=if j=((k:Nat):Int) then some (pairD e) else kd l j:=by
 unfold kd;by_cases a:0<=j
 ·rw[if_pos a,if_pos a];by_cases z:j=((k:Nat):Int)
  ·subst z;rw[if_pos rfl,aaX,aaK,List.getElem?_set];simp[h]
  ·rw[if_neg z,aaK,List.getElem?_set,if_neg (),<-aaK]
 ·rw[if_neg a,if_neg a,if_neg ()]
theorem Ge{l:List (Option (Int×Int))}:kd (l++[none])=kd l:=by
 funext j;unfold kd;split
 ·congr 1;rw[aaK,aaK,List.getElem?_append];split
  ·rfl
  ·next z=>
   rw[List.getElem?_eq_none (l:=l) ()]
   cases a:j.toNat-l.length with
   |zero=>rfl
   |succ n=>rfl
 ·rfl
structure bU(F:Addr->Prop)(H:Hp)(d:Addr)(tn:V)(nt:NT)(r:RS)(ad:Nat->Nat->Addr):Prop where
 dk:∃o,H d=some (.dK (MA tn (ad 0 0) o))/\¬F d/\¬FP nt.n ad d/\∀t,1<=t->t<=6->H (o t)=some (.lst (m7 nt.n ad t))/\¬F (o t)/\¬FP nt.n ad (o t)
 cI:dJ F H nt.n ad r.tv
 told:∃ls,ToldN (i3 (λb=>F b\/FP nt.n ad b) H) tn nt.ms nt.ws ls
 ok:nt.Ok
section
variable {F:Addr->Prop}{H H':Hp}{d:Addr}{tn:V}{nt:NT}{r:RS}{ad:Nat->Nat->Addr}
theorem bU.keep(h:bU F H d tn nt r ad)(f:Fr F H H'):bU F H' d tn nt r ad:=by
 let((o,g,e,i,c),j,(ls,k),l):=h;calc((o,f.at g e,e,i,λt a b=>(f.at (c t a b).1 (c t a b).2.1,(c t a b).2)),j.keep f,(ls,k.cv (f.mono λb z=>.inl z).i3),l)
theorem bU.same(h:bU F H d tn nt r ad)(s:av H H'):bU F H' d tn nt r ad:=h.keep s.fr
theorem bU.own{c:RS}(h:bU F H d tn nt r ad)(f:Fr (FP nt.n ad) H H')(b:dJ F H' nt.n ad c.tv):bU F H' d tn nt c ad:=by
 let((o,g,i,e,c),l,(ls,j),k):=h;calc((o,f.at g e,i,e,λt a b=>(f.at (c t a b).1 (c t a b).2.2,(c t a b).2)),b,(ls,j.cv (f.mono λb z=>.inr z).i3),k)
end
theorem Gf{l:List (Option (Int×Int))}{k:Nat}:(kd l ((k:Nat):Int)).isSome= !(l.getD k none).isNone:=by
 unfold kd;rw[if_pos (),aaX]
 cases l.getD k none<;>rfl
theorem Gg{H0 H:Hp}{a:Addr}{aL:List (Key×V)}{g:Int->Option DV}{N:Nat}(e:H a=some (.dK aL))(h:OR H0 (.d g N) (.dK aL))(k:Int):∃o,fQ H a (.int k) o/\o.isSome=(g k).isSome:=by
 calc bQ _ (fQ.k (k:=Sum.inl k) e) ?_;have:=h.2 k;revert this
 cases g k with
 |none=>intro h;rw[h];rfl
 |some d=>intro⟨v,h,_⟩;rw[h];rfl
abbrev lS:Stmt:=top 76
def KH:Sp:=λvs H Q _=>∃(F:Addr->Prop) (d:Addr) (a:V) (nt:NT) (r:RS) (ad:Nat->Nat->Addr) (m:Nat),vs=[.ref d,.int m]/\bU F H d a nt r ad/\r.Ok nt/\r.picks.length<=400/\m<nt.ws.length/\∀l H',av H H'->H l=none->H' l=some (.lst ((r.Mz m).map λk=>.int (k:Nat)))->Q (.ref l) H'
theorem As(D:cV K mg "_law_lying" "_law_lying" lS gI)(T:Tx K mg C CN CR F FD):Def P w K mg base "_law_lying" 1 gI KH:=by
 exists gI;let(F,d,g,z,r,ad,m,rfl,j,k,B,b,q):=h;have g:=hr.units;have z:=PV g;calc(_,(ao (aH (dR (N':=["_law_k","_law_way","_law_run"]) (ix:=[none,some 1,some 0]) (eI rfl T.fZ (ag (bf aO rfl T.bV X' (ag (ak g (ak g (aq 0) aD) (aq 1)) aa)) aa)) (λ_ _ _ _=>(bg (i:=0) (show(["_law_k","_law_way","_law_run"]:List Str).Nodup by decide +kernel) rfl Sort)) (λ_ _ _ _=>(mE (A8 (E6 z (aq 0) (fV (K:=K) rfl g (fV (K:=K) rfl g (aq 2) aD) (aq 1)))))) (λ_ _ _ _=>(aq 0))))),?_);nofun;let(o,v,z,B,g):=j.dk;have G:=(g 4 ∅ ∅).1;have I:=(g 6 ∅ ∅).1;let(z,L,B):=j.cI.lst (t:=4) (i:=m) b rfl;let(g,M,N):=j.cI.dct (t:=6) (i:=m) b rfl;ac_rfl;have O:z.length=(r.ww m).say.length:=by simpa using B.1
 have g:=k.bs m b;walk_at "j";refine bT ?_;walk_at "j";refine bQ _ (OO v) ?_;walk_at "j";refine bC G (bt b) ?_;refine bQ _ (.inl (_,aV.of L,rfl)) ?_;walk_at "j";rw[O];refine gO () () (λD p=>?_);rw[aaX];refine bF (J:=EO 0 (r.ww m).say.length) (n:=(r.ww m).say.length) (λi ys H'=>av H H'/\ys=((List.range i).filter λk=>((r.ww m).fb.getD k none).isNone).map λk=>V.int (k:Nat)) (U' (small ())) (av.new _ p,rfl) (λi ys H' u _=>u) (λys H' _=>S' _) ?_ ?_
 ·intro i ys H' u l y R x H2 S;nofun;let(a,rfl):=R;let(rfl,rfl):=S;ac_rfl;refine(Ext.set (Ext.refl _) rfl,?_);walk_at "j";refine bQ _ (UC (a _ _ v)) ?_;walk_at "j";refine bC (a _ _ I) (bt b) ?_;rw[Int.zero_add];let(U,W,X):=Gg (a _ _ M) N ((i:Nat):Int);refine(ad 6 m,U,rfl,W,?_);rw[X,Gf,Bool.not_not];walk_at "j";by_cases z:((r.ww m).fb.getD i none).isNone=true
  ·rw[z]
   try rw[if_pos rfl]
   calc cD l y u (U' (small ())) (λc o e=>by rw[ay (au e p)];calc a _ _ e,?_);rw[jf,if_pos z,aay];rfl
  ·rw[Bool.not_eq_true] at z;rw[z]
   try rw[if_neg ∅]
   exact(_,l,(),a,by rw[jf,if_neg (by rw[z];decide),aaP])
 ·rintro ys H' l y ⟨a,rfl⟩;calc q _ _ a p l
noncomputable def jh(nt:NT)(r:RS)(w:Nat):List Nat:=if (nt.w w).2.2="row" then(r.Mz w).take 1 else r.Mz w
noncomputable def kU(nt:NT)(r:RS)(n:Nat):List (Nat×Nat):=(List.range n).flatMap λw=>(jh nt r w).map λk=>((w),k)
theorem uO{nt:NT}{n:Nat}:kU nt r (n+1)=kU nt r n++(jh nt r n).map λk=>((n),k):=by
 unfold kU;rw[List.range_succ,List.flatMap_append];simp
theorem gJ.app{n:Nat}{vs us:List V}{c es:List DV}(h:gJ H n vs c)(g:gJ H n us es):gJ H n (vs++us) (c++es):=by
 calc(by simp[h.1,g.1],λi v d a b=>?_);by_cases c:i<vs.length
 ·rw[aaf c]at a;rw[aaf (by rw[<-h.1];calc c)]at b;exact h.2 i _ _ a b
 ·rw[Y' ()]at a;rw[Y' (by rw[<-h.1];lia),<-h.1]at b;calc g.2 _ _ _ a b
theorem yq{w:Nat}:(r.Mz w).length<=(r.ww w).say.length:=by
 unfold RS.Mz;calc aaS (List.length_filter_le _ _) nofun
theorem wY{nt:NT}{w:Nat}:(jh nt r w).length<=(r.ww w).say.length:=by
 unfold jh;split
 ·rw[abg];have:=yq (r:=r) (w:=w);lia
 ·calc yq
theorem qG{nt:NT}{r:RS}{B:Nat}:∀n,(∀w,w<n->(r.ww w).say.length<=B)->(kU nt r n).length<=n*B
 |0,_=>by simp[kU]
 |n+1,h=>by
  rw[uO,aaQ,aau];have a:=qG (nt:=nt) n (λw a=>h w ());have a:=h n ();have a:=wY (nt:=nt) (r:=r) (w:=n);rw[Nat.succ_mul];lia
noncomputable def pkD(p:Nat×Nat):DV:=pairD ((((p.1:Nat):Int)),((p.2:Nat):Int))
theorem Gh{r:RS}{w k:Nat}(h:k∈(r.Mz w).take 1):∀j,j<k->((r.ww w).fb.getD j none).isNone=false:=by
 unfold RS.Mz at h;generalize b:(List.range (r.ww w).say.length).filter (λk=>((r.ww w).fb.getD k none).isNone)=l at h
 cases l with
 |nil=>simp at h
 |cons a t=>
  simp at h;subst h;intro j g;have f:(List.range (r.ww w).say.length).Pairwise (· < ·):=List.pairwise_lt_range;have c:=f.filter (λk=>((r.ww w).fb.getD k none).isNone);rw[b]at c;have f:k∈(List.range (r.ww w).say.length).filter (λk=>((r.ww w).fb.getD k none).isNone):=by rw[b];simp
  rw[List.mem_filter,List.mem_range]at f
  cases z:((r.ww w).fb.getD j none).isNone with
  |false=>rfl
  |true=>
   exfalso;have d:j∈(List.range (r.ww w).say.length).filter (λk=>((r.ww w).fb.getD k none).isNone):=by
    rw[List.mem_filter,List.mem_range];exact((),z)
   rw[b]at d;rcases List.mem_cons.mp d with e|e
   ·lia
   ·have:=(List.pairwise_cons.mp c).1 j e;lia
theorem KI{nt:NT}(h:r.Ok nt){w k:Nat}(c:((w),k)∈kU nt r nt.ws.length):r.OF nt w k:=by
 unfold kU at c;rw[List.mem_flatMap]at c;let(j,a,c):=c;rw[List.mem_range]at a;rw[List.mem_map]at c;let(j,b,e):=c
 cases e;have g:k∈r.Mz w:=by
  unfold jh at b;split at b
  ·exact List.mem_of_mem_take b
  ·exact b
 have f:k<(r.ww w).say.length/\((r.ww w).fb.getD k none).isNone=true:=by
  unfold RS.Mz at g;rw[List.mem_filter,List.mem_range]at g;exact g
 have c:=h.lk w a;refine(a,?_,λi c=>?_)
 ·rw[bu (d:=none) ()]
  cases z:(r.ww w).fb.getD k none with
  |none=>rfl
  |some e=>rw[z]at f;simp at f
 ·unfold jh at b;rw[if_pos i] at b;have:=Gh b (k - 1) ();rw[bu (d:=none) (show k - 1 < (r.ww w).fb.length by lia)]
  cases z:(r.ww w).fb.getD (k-1) none with
  |none=>rw[z]at this;simp at this
  |some e=>calc(e,rfl)
theorem UE{xs:List V}:dD xs none (some 1)=xs.take 1:=by
 unfold dD;have b:HT.eX xs.length 0 none=0:=rfl;rw[b]
 cases xs with
 |nil=>simp
 |cons a r=>
  have b:HT.eX (a::r).length (a::r).length (some 1)=1:=by
   unfold HT.eX;simp
  rw[b];simp
abbrev nS:Stmt:=top 77
def KJ:Sp:=λvs H Q _=>∃(F:Addr->Prop) (d:Addr) (a:V) (nt:NT) (r:RS) (ad:Nat->Nat->Addr),vs=[.ref d]/\bU F H d a nt r ad/\r.Ok nt/\r.picks.length<=400/\∀l ys H',av H H'->H l=none->H' l=some (.lst ys)->gJ H' 1 ys ((kU nt r nt.ws.length).map pkD)->Q (.ref l) H'
theorem Cn(D:cV K mg "_law_free" "_law_free" nS g8)(T:Tx K mg C CN CR F FD)(lT:Def P w K mg base "_law_lying" 1 gI KH):Def P w K mg base "_law_free" 2 g8 KJ:=by
 exists["_law_run","_law_free_here","_law_way","_law_told","_law_numbers"];let(F,d,tn,a,r,ad,rfl,L,Z,vB,q):=h;have S:=hr.units;refine(_,(ai (aT (i:=1) sc rfl Sort (bH aa))
  (ai (fc PassesOwn.never rfl (kb rfl T.dS (ag (ak S (ak S (aq 0) aD) aj) aa)) (fu (i:=2) (j:=3) rfl sc rfl rfl Sort Sort)
  (ai (aT (i:=4) sc rfl Sort (aN lT hr (ag (aq 0) (ag (aq 2) aa))))
  (ai (aY (aC (aZ S) (ak S (aq 3) aj) aD (aI _)) (ao (aT (i:=4) sc rfl Sort (xU (aq 4) sk (ja aj)))) aJ)
  (ao (aT (i:=1) sc rfl Sort (aR cE (aq 1) (dR (N':=["_law_number","_law_way"]) (ix:=[none,some 2]) (cj (pv 4)) (λ_ _ _ _=>(bg (i:=0) (show(["_law_number","_law_way"]:List Str).Nodup by decide +kernel) rfl Sort)) pR (λ_ _ _ _=>(bz (ag (aq 1) (ag (aq 0) aa)))))))))))
  (ao (aH (aq 1))))),?_)
 nofun;let(o,hd,nF,nP,ho):=L.dk;let(ls,t,am,aw,al,mv,wv,lv,rfl,h1,h2,h3,h4,h5,U,h7):=L.told;have g1:=(dB h1 (λk z=>by cases z)).2;have g3:=(dB h3 (λk z=>by cases z)).2
 replace U:=U.aM d7.aU
 ac_rfl;have k6:wv.length=a.ws.length:=by simpa using U.1
 have rO:wv.length<=10:=by rw[k6];exact L.ok.Fy
 have hB:∀w,w<a.ws.length->(r.ww w).say.length<=9620:=λw hw=>by have:=Z.bs w hw;lia
 walk_at "j";refine(aaO _,λW F5=>?_);have X:=av.new (.lst []) F5;have el0:upd H W (.lst []) W=some (.lst []):=af;generalize hG0:upd H W (.lst [])=G0 at *;walk_at "j";refine Gd (X _ _ hd) |> λh=>(_,h,?_)
 refine da (X _ _ g1) (aA (j:=1) rfl) (true,wv,Sq.l (X _ _ g3),lx (xs:=wv) (λi σ H'=>∃z2 z3 z4 G ys,σ=[some (V.ref d),some (V.ref G),z2,z3,z4]/\av H H'/\H G=none/\H' G=some (.lst ys)/\gJ H' 1 ys ((kU a r i).map pkD)) ?_ ?_ ?_ ?_)
 ·exact(_,_,_,W,[],rfl,X,F5,el0,show gJ _ 1 [] [] from gJ.nil)
 ·intro i σ H' qt;let(_,_,_,_,_,_,g,_):=qt;exact Sq.l (g _ _ g3)
 ·intro i x σ H' tt hx yd T9;nofun;let(z2,z3,z4,G,ys,rfl,g,Zu,u,M):=yd;have Mn:i < a.ws.length:=by rw[<-k6];exact(List.getElem?_eq_some_iff.mp hx).1
  have s2:=av.new (.tup [.int (i:Nat),x]) T9;have Zv:upd H' tt (.tup [.int (i:Nat),x]) tt=some (.tup [.int (i:Nat),x]):=af;have F6:=(U.2 i x (mQ (a.w i)) hx (by rw[J',show a.ws[i]?=some (a.w i) from bu Mn];rfl)).aM (g.trans s2).aU;generalize TF:upd H' tt (.tup [.int (i:Nat),x])=G2 at *;let(ta,u1,u2,u3,kk,rfl,vE,y1,y2,y3):=bZ F6;obtain rfl:=y1.cN;obtain rfl:=y2.cN;obtain rfl:=y3.cW;ac_rfl;refine wD (bI.of Zv) ?_;walk_at "j";refine(F,d,_,a,r,ad,i,rfl,(L.same g).same s2,Z,vB,Mn,λln H3 s3 fln v=>?_);have rD:av H' H3:=s2.trans s3;have hly:=yq (r:=r) (w:=i);have hfw:=wY (nt:=a) (r:=r) (w:=i);have hBi:=hB i Mn;walk_at "j";refine da (s3 _ _ vE) (aA (j:=2) rfl) ?_;walk_at "j";rename_i N1 hN1 T1 U1 VG Qn;have m:∀N I,av H' N->N I=some (.lst ((jh a r i).map λk=>V.int ((k:Nat):Int)))->N1 [some (V.ref d),some (V.ref G),some (V.int ((i:Nat):Int)),some (V.ref ta),some (V.ref I)] N:=by
   intro N I YA v;clear VG Qn;walk_at "j";refine bT ?_;walk_at "j";refine .inl ((_,aV.of v),λD hD=>?_);refine bF (J:=yP K I) (n:=(jh a r i).length) (λj y H'=>av N H'/\gJ H' 1 y (((jh a r i).take j).map λk=>pkD ((i),k))) (U' (small ())) (av.new _ hD,show gJ _ 1 [] [] from gJ.nil) ?_ ?_ ?_ ?_
   ·rintro j y H' O ⟨p,_⟩;exact(_,_,aV.of (p _ _ v),by rw[J',cT O];rfl)
   ·rintro y H' ⟨p,_⟩;exact(_,aV.of (p _ _ v),nofun)
   ·intro j y H' O UH rA Ot xx H4 TM;nofun;let(p,R):=Ot;let(rfl,hy):=TM;have ex:=hy _ (aV.of (p _ _ v));rw[J',cT O] at ex;obtain rfl:=Option.some.inj ex;ac_rfl;calc(Ext.set (Ext.refl _) rfl,?_);walk_at "j"
    try rw[if_pos trivial]
    calc(cP,λt2 rB=>?_);have s6:=av.new (.tup [.int ((i:Nat):Int),.int (((jh a r i)[j]:Nat):Int)]) rB;have Zx:=s6 _ _ UH;calc cD Zx rA O (U' (small ())) (λc o e=>by rw[ay (au e hD)];calc s6 _ _ (p _ _ e),?_);have tu:cw (upd H4 t2 (.tup [.int ((i:Nat):Int),.int (((jh a r i)[j]:Nat):Int)])) (upd (upd H4 t2 (.tup [.int ((i:Nat):Int),.int (((jh a r i)[j]:Nat):Int)])) D (.lst (y++[.ref t2]))):=(cw.refl _).upd λzs e=>by rw[Zx]at e;cases e
    rw[abE,cT O,aay];exact((R.aM s6.aU).snoc (di (n:=0) af (.int _) (.int _))).aM tu
   rintro y H6 UH rA ⟨p,R⟩;rw[aa0]at R;have b:av H' H6:=YA.trans p;walk_at "j";refine .inl (_,_,b _ _ u,UH,?_,λlf' Zy=>?_)
   ·have a1:=M.1;have a2:=R.1;have a3:=qG (nt:=a) (r:=r) (B:=9620) i (λw hw=>hB w ());simp at a1 a2;rw[abe];have a5:i<=9:=by lia
    have a4:i*9620<=9*9620:=Nat.mul_le_mul_right _ a5;lia
   have s7:=av.new (.lst (ys++y)) Zy;walk_at "j";refine adj _ _ _ lf' _ (rfl,rfl,rfl,rfl) (g.trans (b.trans s7)) ((g.trans b).free Zy) af ?_;rw[uO,aay];refine((M.aM b.aU).app ?_).aM s7.aU;rw[List.map_map];exact R
  by_cases Y:(a.w i).2.2="row"
  ·rw[if_pos (by simp[Y])];walk_at "j";refine .inl (_,v,λI yV=>?_);rw[UE];have s4:=av.new (.lst (((r.Mz i).map λk=>V.int ((k:Nat):Int)).take 1)) yV;exact m _ I (rD.trans s4) (by unfold jh;rw[af,if_pos Y,List.map_take])
  ·rw[if_neg (by simp[Y])];calc L2.aQ (by assumption) ?_;exact m _ ln rD (by unfold jh;rw[if_neg Y];calc v)
 ·intro σ H' TQ;let(z2,z3,z4,G,ys,rfl,g,Zu,u,M):=TQ;rw[k6]at M;walk_at "j";exact q _ _ _ g Zu u M
def OQ(H H':Hp):Prop:=∀b o,H b=some o->(∀k,o≠.own k)->H' b=some o
theorem OQ.aU(h:OQ H H'):cw H H':=λb a e=>h b _ e (λk z=>by cases z)
theorem _root_.L2.av.MB(s:av H H'):OQ H H':=λb o e _=>s b o e
theorem gY.MB{x:V}{M:Int}{a:List bA}(s:OQ H H')(h:gY H x M ns row a):gY H' x M ns row a:=by
 let(t,a,b,c,d,e,f,g,i,j,l):=h;calc(t,a,b,c,d,e,s _ _ f (λk z=>by cases z),s _ _ g (λk z=>by cases z),s _ _ i (λk z=>by cases z),s _ _ j (λk z=>by cases z),l.aM s.aU)
theorem Cm.MB{c:List V}(s:OQ H H')(h:Cm H c gQ):Cm H' c gQ:=(h.1,λi v d a b=>(h.2 i v d a b).MB s)
theorem Cm.nil:Cm H [] []:=(rfl,λi v d a=>by simp at a)
theorem Cm.snoc{H:Hp}{c:List V}{gQ:List MD}{v:V}{d:MD}(h:Cm H c gQ)(g:gY H v d.M d.ns d.row d.ds):Cm H (c++[v]) (gQ++[d]):=by
 calc(by simp[h.1],λi y e a b=>?_);by_cases f:i<c.length
 ·rw[aaf f]at a;rw[aaf (by rw[<-h.1];calc f)]at b;exact h.2 i _ _ a b
 ·rw[Y' ()] at a;rw[Y' (by rw[<-h.1];lia),<-h.1] at b
  cases j:i-c.length with
  |zero=>rw[j]at a b;cases a;cases b;calc g
  |succ k=>rw[j]at a;simp at a
noncomputable def mask(a b c:Addr)(H:Hp):Hp:=λx=>if x=a\/x=b\/x=c then some (.own 0) else H x
theorem pH{c x:Addr}(d:x≠a)(e:x≠b)(f:x≠c):mask a b c H x=H x:=by unfold mask;rw[if_neg (by simp[d,e,f])]
theorem wZ{c x:Addr}{o:HO}(h:mask a b c H x=some o)(d:∀k,o≠.own k):x≠a/\x≠b/\x≠c/\H x=some o:=by
 unfold mask at h;split at h
 ·cases h;exact absurd rfl (d 0)
 ·rename_i hn;simp only[not_or]at hn;calc(hn.1,hn.2.1,hn.2.2,h)
theorem KL{c:Addr}:OQ (mask a b c H) H:=λx o e n=>(wZ e n).2.2.2
theorem Au{c:Addr}(h:∀x o,x≠a->x≠b->x≠c->H x=some o->H' x=some o):OQ (mask a b c H) (mask a b c H'):=λx o e n=>by
 let(d,f,g,i):=wZ e n;rw[pH d f g];calc h x o d f g i
theorem Gj{c t d f g:Addr}{xs:List V}{M:Int}{n:List bA}(p:H t=some (.tup [.int M,.ref d,.ref f,.ref g]))(q:H d=some (.lst (ns.map V.int)))(r:H f=some (.lst (row.map V.int)))(s:H g=some (.lst xs))(u:gJ H 2 xs (n.map bA.dv))
  (h:∃ys,H a=some (.lst ys)) (i:∃ys,H b=some (.lst ys)) (j:∃ys,H c=some (.lst ys)) (k:d≠a/\d≠b/\d≠c) (l:f≠a/\f≠b/\f≠c) (m:g≠a/\g≠b/\g≠c):gY (mask a b c H) (.ref t) M ns row n:=by
 let(n,h):=h;let(n,i):=i;let(n,j):=j;have o:cw H (mask a b c H):=λx ys e=>by
  rw[pH (λz=>by rw[z,h]at e;cases e) (λz=>by rw[z,i]at e;cases e) (λz=>by rw[z,j]at e;cases e)];exact e
 calc(t,d,f,g,xs,rfl,o _ _ p,by rw[pH k.1 k.2.1 k.2.2];calc q,by rw[pH l.1 l.2.1 l.2.2];calc r,by rw[pH m.1 m.2.1 m.2.2];calc s,u.aM o)
structure Ei(gQ:List MD)(ws:List (Int×Int×Str))(ls:List (Int×Int)):Prop where
 m1:1<=gQ.length
 m5:gQ.length<=5
 Io:ws.length<=10
 Zz:ls.length<=20
 mg:∀d∈gQ,d.good
 wo:∀w∈ws,wL gQ.length w
 lo:∀l∈ls,wM ws.length l
theorem Ei.nt(h:Ei gQ ws ls):(NT.mk gQ ws).Ok:=(h.m5,h.m1,h.Io,h.mg,h.wo)
abbrev qH:Stmt:=top 72
def Ej(K:W.Frag):Sp:=λvs H Q _=>∃(a:Addr) (ns:List Int),vs=[.ref a]/\aV K H a (ns.map V.int)/\ns.length<=63/\∀t b c d e wv lv gQ ws ls H',av H H'->H' t=some (.tup [.ref b,.ref c,.ref d])->H' b=some (.lst e)->H' c=some (.lst wv)->H' d=some (.lst lv)->Cm H' e gQ->gJ H' 1 wv (ws.map mQ)->gJ H' 1 lv (ls.map pC)->Ei gQ ws ls->Q (.ref t) H'
theorem Gk(D:cV K mg "_law_net" "_law_net" qH fx)(T:Tx K mg C CN CR F FD)(x:Def P w K mg base "_law_at" 1 eH (JT K))(v:Def P w K mg base "_law_digit" 1 aK j1)(jD:Def P w K mg base "_law_machine" 4 ["_law_pot_here"] zY)(M:Def P w K mg base "_law_pot" 1 ["_law_cell"] JV):Def P w K mg base "_law_net" 5 fx (Ej K):=by
 exists["_law_script","_law_many","_law_machines","_law_pot_here","_law_ways","_law_k","_law_letters","_law_way","_law_said"];let(a,ns,rfl,hS,h63,q):=h;have hu:=hr.units;refine(_,(ai (aT (i:=1) sc rfl Sort (aR cE aj (aR cp (aN x hr (ag (aq 0) (ag aj aa))) aj)))
  (ai (gL (i:=2) sc rfl Sort (N':=["_law_k","_law_script"]) (ix:=[none,some 0]) (eI rfl T.fZ (ag (aq 1) aa)) (λ_ _ _ _=>(bg (i:=0) (show(["_law_k","_law_script"]:List Str).Nodup by decide +kernel) rfl Sort)) pR (λ_ _ _ _=>(aN jD hr (ag (aN M hr (ag (aN x hr (ag (aq 1) (ag (aR cE aj (aq 0)) aa))) aa)) aa))))
  (ai (aT (i:=3) sc rfl Sort (aN M hr (ag (aN x hr (ag (aq 0) (ag aj aa))) aa)))
  (ai (aT (i:=4) sc rfl Sort (bH aa))
  (ai (fc PassesOwn.never rfl (eI rfl T.fZ (ag (aN v hr (ag (aq 3) (ag aj aa))) aa)) (bg (i:=5) sc rfl Sort)
  (ao (bR (dg pO rZ r6 cm (aq 4) (ag (bz (ag (aN v hr (ag (aq 3) (ag (aq 1) aa))) (ag (aN v hr (ag (aq 3) (ag (aq 1) aa))) (ag (ak hu (bH (ag aD (ag aD aa))) (aN v hr (ag (aq 3) (ag aj aa)))) aa)))) aa)))))
  (ai (aT (i:=3) sc rfl Sort (aN M hr (ag (aN x hr (ag (aq 0) (ag aj aa))) aa)))
  (ai (aT (i:=6) sc rfl Sort (bH aa))
  (ai (fc PassesOwn.never rfl (eI rfl T.fZ (ag (aN v hr (ag (aq 3) (ag aj aa))) aa)) (bg (i:=5) sc rfl Sort)
  (ao (aY (aC (ig hu) (aq 4) (bH aa) (aI _)) (ai (aT (i:=7) sc rfl Sort (aN v hr (ag (aq 3) (ag (bf aO rfl T.bV X' (ag (aq 4) aa)) aa))))
  (ai (aT (i:=8) sc rfl Sort (bH (ag (aN v hr (ag (aq 3) (ag aj aa))) (ag (aN v hr (ag (aq 3) (ag (aR oO aj aj) aa))) aa))))
  (ao (bR (dg pO rZ r6 cm (aq 6) (ag (bz (ag (aq 7) (ag (ak hu (aq 8) (aN v hr (ag (aq 3) (ag aj aa)))) aa))) aa)))))) aJ)))
  (ao (aH (bz (ag (aq 2) (ag (aq 4) (ag (aq 6) aa)))))))))))))),?_)
 walk_at "j";refine(a,ns,_,rfl,hS,(),λg=>((by decide:(0:Int)<5),?_));have v:=abi g (b:=5) ∅;have v:=abc g (b:=5) ∅;walk_at "j";refine bT ?_;walk_at "j";refine gO () () (λD hD=>?_);refine bF (J:=EO 0 (1+g%5).toNat) (n:=(1+g%5).toNat) (λi ys H'=>av H H'/\∃gQ,gQ.length=i/\Cm (mask D D D H') ys gQ/\∀d∈gQ,d.good) (U' (aG ())) (av.new _ hD,[],rfl,Cm.nil,λd hd=>by simp at hd) (λi ys H' hi _=>hi) (λys H' _=>S' _) ?_ ?_
 ·intro i ys H1 hi bE hl jl x H2 jm;nofun;let(Z,gQ,nE,hM,R):=jl;let(rfl,rfl):=jm;ac_rfl;refine(Ext.set (Ext.refl _) rfl,?_);walk_at "j";rw[if_pos trivial];refine(a,ns,_,rfl,Z.seq hS,(),λv=>(v,rfl,λp V7 S sr=>(p,rfl,(_,af,sr),λt v x ld xs M mns row ds T st h1 h2 h3 h4 h5 f1 f2 f3 hg=>?_)));have q3:∀b o,H2 b=some o->T b=some o:=λb o e=>st.rest b o ((av.new _ S) _ _ e) (au e S);have v:=q3 _ _ bE;have p1:=(av.new (.lst (V7.map V.int)) S) _ _ bE;have x:∀{b:Addr},upd H2 p (.lst (V7.map V.int)) b=none->b≠D:=λf=>Ne.symm (au p1 f);refine cD v hl hi (U' (aG ())) (λb o e=>by rw[ay (au e hD)];exact q3 _ _ (Z _ _ e),gQ++[(M,mns,row,ds)],by simp[nE],?_,λd hd=>?_)
  ·have c4:OQ (mask D D D H2) (mask D D D (upd T D (.lst (ys++[.ref t])))):=Au λb o M b2 b3 e=>by rw[ay M];exact q3 _ _ e
   have c5:OQ (mask D D D T) (mask D D D (upd T D (.lst (ys++[.ref t])))):=Au λb o M b2 b3 e=>by rw[ay M];exact e
   exact(hM.MB c4).snoc (gY.MB c5 (Gj h1 h2 h3 h4 h5 (_,v) (_,v) (_,v) (x f1,x f1,x f1) (x f2,x f2,x f2) (x f3,x f3,x f3)))
  ·rcases List.mem_append.mp hd with hd | hd
   ·exact R d hd
   ·simp only[List.mem_singleton]at hd;subst hd;exact hg
 intro mv H1 ZC hl v;nofun;let(Z,gQ,nE,hM0,R):=v;have hM:=hM0.MB KL;generalize hDa:D=am at *;ac_rfl;walk_at "j";refine(a,ns,_,rfl,Z.seq hS,(),λv=>(v,rfl,λp V7 S sr=>?_));have s2:=av.new (.lst (V7.map V.int)) S;have yX:gb (upd H1 p (.lst (V7.map V.int))) p:=(_,af,sr)
 generalize TF:upd H1 p (.lst (V7.map V.int))=G2 at *;walk_at "j";refine(aaO _,λB v=>?_);have s3:=av.new (.lst []) v;have YH:B≠p:=Step.ne yX v;have hp3:=yX.same s3;have eaw:upd G2 B (.lst []) B=some (.lst []):=af;have faw:H1 B=none:=s2.free v;have rD:=s2.trans s3;generalize hG3:upd G2 B (.lst [])=G3 at *;walk_at "j";refine nj p 11 rfl hp3 ∅ ⋯ (λx T rC M v=>?_);refine(x,rfl,(),(),pW (n:=x.toNat) (λi σ H'=>(∃U,σ=[some (.ref a),some (.int (1+g%5)),some (.ref am),some (.ref p),some (.ref B),U,none,none,none])/\gb H' p/\av H1 H'/\∃(wv:List V) (ws:List (Int×Int×Str)),H' B=some (.lst wv)/\gJ H' 1 wv (ws.map mQ)/\ws.length=i/\∀w∈ws,wL (1+g%5) w) ?_ ?_ ?_)
 ·exact((_,rfl),v.gH,v.over rD S,[],[],v.rest _ _ eaw YH,gJ.nil,rfl,λw y=>by simp at y)
 ·intro i σ H5 hi yd;let((U,rfl),V8,s5,wv,ws,UI,hW,k6,Og):=yd;have KN:wv.length=i:=by have:=hW.1;simp at this;lia
  walk_at "j";refine(.inl (rfl,_,aV.of UI),?_);have l5:(1+g%5).natAbs.log2<9000:=by
   have:1+g%5=1\/1+g%5=2\/1+g%5=3\/1+g%5=4\/1+g%5=5:=by lia
   rcases this with e|e|e|e|e<;>(rw[e];decide +kernel)
  refine dig V8 () l5 λc v h60 h61 Qi=>?_;walk_at "j";refine dig Qi.gH () l5 λm v h70 h71 TK=>?_;have ZD:=Qi.trans TK;walk_at "j";refine(cP,λl hl=>?_);have Mp:=ZD.new (o:=.lst [.str "row",.str "heap"]) hl;have hlp:l≠p:=Step.ne ZD.gH hl;refine dig Mp.gH ∅ ⋯ λk W hk0 hk1 Mq=>?_;have ae4:=Mp.trans Mq;obtain⟨u,ew3,hw3⟩:∃u:Str,iZ [V.str "row",V.str "heap"] k=some (.str u)/\(u="row"\/u="heap"):=by
   have:k=0\/k=1:=by lia
   rcases this with rfl|rfl
   ·exact(_,aA (j:=0) rfl,.inl rfl)
   ·exact(_,aA (j:=1) rfl,.inr rfl)
  walk_at "j";refine bC (Mq.rest _ _ af hlp) ew3 ?_;walk_at "j";refine(by show 3<=sizeLine;decide,λt ht=>?_);have I:=ae4.new (o:=.tup [.int c,.int m,.str u]) ht;have ZE:=I.rest _ _ UI YH;have eT:upd W t (.tup [.int c,.int m,.str u]) t=some (.tup [.int c,.int m,.str u]):=af;have X:=I.gH;have tA:=I.aU V8;have sA:av H1 (upd W t (.tup [.int c,.int m,.str u])):=I.over s5 S;generalize hGA:upd W t (.tup [.int c,.int m,.str u])=GA at *;walk_at "j";have tB:cw GA (upd GA B (.lst (wv++[.ref t]))):=(cw.refl _).upd λys e=>by rw[ZE]at e;cases e
  refine(_,ZE,aG (),(_,rfl),X.upd (Ne.symm YH),λb o e=>by rw[ay (au e faw)];calc sA _ _ e,wv++[.ref t],ws++[((c),m,u)],af,?_,by simp[k6],λw y=>?_)
  ·have h6:=((hW.aM tA).snoc (ni (n:=0) eT (.int c) (.int m) (.str u))).aM tB;simpa[mQ] using h6
  ·rcases List.mem_append.mp y with y | y
   ·exact Og w y
   ·simp only[List.mem_singleton]at y;subst y;exact(h60,h61,h70,h71,hw3)
 intro σ H5 B3;let((U,rfl),V8,s5,wv,ws,UI,hW,k6,Og):=B3;have KN:wv.length=ws.length:=by have:=hW.1;simpa using this
 have Mm:=s5 _ _ ZC;have hM5:=hM.MB s5.MB;walk_at "j";refine(a,ns,_,rfl,(Z.trans s5).seq hS,(),λv=>(v,rfl,λN Y Nt u=>?_));have s6:=av.new (.lst (Y.map V.int)) Nt;have hp6:gb (upd H5 N (.lst (Y.map V.int))) N:=(_,af,u)
 generalize hG6:upd H5 N (.lst (Y.map V.int))=G6 at *;walk_at "j";refine(aaO _,λG u=>?_);have s7:=av.new (.lst []) u;have T5:G≠N:=Step.ne hp6 u;have hp7:=hp6.same s7;have eal:upd G6 G (.lst []) G=some (.lst []):=af;have fal:H5 G=none:=s6.free u;have VJ:=s6.trans s7;generalize hG7:upd G6 G (.lst [])=G7 at *;walk_at "j";refine nj N 13 rfl hp7 ∅ ⋯ (λu M v x Mp=>?_);refine(u,rfl,(),(),pW (n:=u.toNat) (λi σ H'=>(∃U z7 z8,σ=[some (.ref a),some (.int (1+g%5)),some (.ref am),some (.ref N),some (.ref B),U,some (.ref G),z7,z8])/\gb H' N/\av H5 H'/\∃(lv:List V) (ls:List (Int×Int)),H' G=some (.lst lv)/\gJ H' 1 lv (ls.map pC)/\ls.length<=i/\∀l∈ls,wM ws.length l) ?_ ?_ ?_)
 ·exact((_,_,_,rfl),Mp.gH,Mp.over VJ Nt,[],[],Mp.rest _ _ eal T5,gJ.nil,S' _,λw y=>by simp at y)
 ·intro i σ W hi B4;let((U,z7,z8,rfl),hp9,O,lv,ls,Mt,hL,wN,tm):=B4;have i:lv.length=ls.length:=by have:=hL.1;simpa using this
  have ae8:=O _ _ UI;walk_at "j";refine(aaO _,λl0 i=>?_);have r:=av.new (.lst []) i;have KO:=r _ _ ae8;have el0:upd W l0 (.lst []) l0=some (.lst []):=af;have KP:=r _ _ Mt;have UJ:=hp9.same r;have Gm:=O.trans r;have ZF:=hL.aM r.aU;generalize YS:upd W l0 (.lst [])=G10 at *;walk_at "j"
  cases ws with
  |nil=>
   have YB:wv=[]:=by simpa using KN
   subst YB;calc .inl (.inr (_,_,_,_,rfl,rfl,.inr (aV.of KO,aV.of el0),rfl,λj u v hu=>by simp at hu),?_);walk_at "j"
   try rw[if_neg T']
   calc((_,_,_,rfl,rfl,rfl),UJ,Gm,lv,ls,KP,ZF,(),tm)
  |cons i u=>
   have hwp:0<(wv.length:Int):=by rw[KN];simp
   have i:wv.length<=10:=by lia
   calc .inr ((_,_,by simp[KN],.inl (aV.of KO,aV.of el0)),?_);walk_at "j"
   try rw[if_pos trivial]
   refine bQ _ (.inl (_,aV.of KO,rfl)) ?_;have i:((wv.length:Nat):Int).natAbs.log2<9000:=zX hwp ();refine dig UJ hwp i λc u ae9 afa ZG=>?_;walk_at "j";refine dig ZG.gH ∅ ⋯ λm v i u afb=>?_;have KQ:=ZG.trans afb;walk_at "j";refine(B0,dig KQ.gH Tv Tw λe3 Ug i afc afd=>?_);have KR:=KQ.trans afd;walk_at "j";refine(cP,λL i=>?_);have UK:=KR.new (o:=.lst [.int m,.int e3]) i;have afe:L≠N:=Step.ne KR.gH i;have aff:upd Ug L (.lst [.int m,.int e3]) L=some (.lst [.int m,.int e3]):=af;generalize afg:upd Ug L (.lst [.int m,.int e3])=G14 at *;walk_at "j";have ZI:=UK.rest _ _ KP T5;walk_at "j";refine(.inl (rfl,_,aV.of ZI),?_);refine dig UK.gH ∅ ⋯ λk ZJ hk0 hk1 FZ=>?_;have UL:=UK.trans FZ;have i:(10:Int)^Int.toNat 60=1000000000000000000000000000000000000000000000000000000000000:=by decide +kernel
   rw[i]at afc;obtain⟨z,ez,hz0,GN⟩:∃z:Int,iZ [V.int m,V.int e3] k=some (.int z)/\1-1000000000000000000000000000000000000000000000000000000000000<=z/\z<1000000000000000000000000000000000000000000000000000000000000:=by
    have:k=0\/k=1:=by lia
    rcases this with rfl|rfl
    ·exact(_,aA (j:=0) rfl,(),())
    ·exact(_,aA (j:=1) rfl,(),())
   walk_at "j";refine bC (FZ.rest _ _ aff afe) ez ?_;walk_at "j";refine(cP,λt ht=>?_);have I:=UL.new (o:=.tup [.int c,.int z]) ht;have ZK:=I.rest _ _ KP T5;have eT:upd ZJ t (.tup [.int c,.int z]) t=some (.tup [.int c,.int z]):=af;have X:=I.gH;have tA:=I.aU UJ;have sA:av H5 (upd ZJ t (.tup [.int c,.int z])):=I.over Gm Nt;generalize hGA:upd ZJ t (.tup [.int c,.int z])=GA at *;walk_at "j";have tB:cw GA (upd GA G (.lst (lv++[.ref t]))):=(cw.refl _).upd λys e=>by rw[ZK]at e;cases e
   refine(_,ZK,aG (),(_,_,_,rfl,rfl,rfl),X.upd (Ne.symm T5),λb o e=>by rw[ay (au e fal)];calc sA _ _ e,lv++[.ref t],ls++[((c),z)],af,?_,by simp;lia,λl hl=>?_)
   ·have h6:=((ZF.aM tA).snoc (di (n:=0) eT (.int c) (.int z))).aM tB;simpa[pC] using h6
   ·rcases List.mem_append.mp hl with hl | hl
    ·exact tm l hl
    ·simp only[List.mem_singleton]at hl;subst hl;exact(ae9,by have:=afa;rw[KN]at this;calc this,hz0,GN)
 intro σ W Ot;let((U,z7,z8,rfl),hp9,O,lv,ls,Mt,hL,wN,tm):=Ot;walk_at "j";refine(by show 3<=sizeLine;decide,λt ht=>?_);have r:=av.new (.tup [.ref am,.ref B,.ref G]) ht;refine q t am B G mv wv lv gQ ws ls _ (Z.trans (s5.trans (O.trans r))) af (r _ _ (O _ _ Mm)) (r _ _ (O _ _ UI)) (r _ _ Mt) (hM5.MB (O.trans r).MB) (hW.aM (O.trans r).aU) (hL.aM r.aU) ((),(),(),(),R,λw y=>?_,tm);have e:((gQ.length:Nat):Int)=1+g%5:=by lia
 rw[e];calc Og w y
noncomputable def V9(M:Int)(ns row:List Int)(a:List bA):DV:=.tup [.int M,.lst (ns.map .int),.lst (row.map .int),.lst (a.map bA.dv)]
theorem ji(v:Val):x8 v.dv:=by
 cases v<;>(calc .tup λe a=>?_;simp at a)<;>first|(rcases a with rfl|rfl;calc .str _;calc .int _)|(subst a;calc .str _)
theorem KS(d:bA):x8 d.dv:=by
 cases d with
 |set i v=>calc .tup λe a=>?_;simp at a;rcases a with rfl|rfl|rfl;calc .str _;calc .int _;calc ji v
 |add i v=>calc .tup λe a=>?_;simp at a;rcases a with rfl|rfl|rfl;calc .str _;calc .int _;calc ji v
 |times i v=>calc .tup λe a=>?_;simp at a;rcases a with rfl|rfl|rfl;calc .str _;calc .int _;calc ji v
 |put v=>calc .tup λe a=>?_;simp at a;rcases a with rfl|rfl;calc .str _;calc ji v
 |drop=>calc .tup λe a=>?_;simp at a;subst a;calc .str _
 |send j v=>calc .tup λe a=>?_;simp at a;rcases a with rfl|rfl|rfl;calc .str _;calc .int _;calc ji v
 |say v=>calc .tup λe a=>?_;simp at a;rcases a with rfl|rfl;calc .str _;calc ji v
 |skip v w k=>calc .tup λe a=>?_;simp at a;rcases a with rfl|rfl|rfl|rfl;calc .str _;calc ji v;calc ji w;calc .int _
theorem pI:x8 (.lst (ns.map .int)):=.lst λe a=>by
 let(z,_,rfl):=List.mem_map.mp a;calc .int z
theorem xc{a:List bA}:x8 (.lst (a.map bA.dv)):=.lst λe b=>by
 let(z,_,rfl):=List.mem_map.mp b;calc KS z
theorem qI{n:Nat}{vs:List V}{b:List DV}(e:H a=some (.lst vs))(h:e9 H n vs b):HD H (n+1) (.ref a) (.lst b):=.lst e h.1 h.2
theorem gJ.Pr{n:Nat}{vs:List V}{c:List DV}(h:gJ H n vs c):e9 H n vs c:=(h.1,λi v d a b=>(h.2 i v d a b).hd)
theorem OT{K:W.Frag}{c:Addr}{d d':MD}(h:gY H (.ref a) d.M d.ns d.row d.ds)(h':gY H (.ref c) d'.M d'.ns d'.row d'.ds):∃b,EqT K H 19 a c b/\(b=true->V9 d.M d.ns d.row d.ds=V9 d'.M d'.ns d'.row d'.ds):=by
 let(t,u,v,w,L,e,n,p,q,r,s):=h;let(L,t,u,v,w,z,j,i,k,l,A):=h'
 cases e
 cases z;let(h,B,C):=x9 (K:=K) (H:=H) 4 (x:=.int d.M) (y:=.int d'.M) (m:=4) (.int _) (.int _) (.int _) (.int _);let(t,D,E):=x9 (K:=K) (H:=H) 4 (m:=4) (qI p (e9.ints d.ns)) (qI i (e9.ints d'.ns)) pI pI;let(u,F,G):=x9 (K:=K) (H:=H) 4 (m:=4) (qI q (e9.ints d.row)) (qI k (e9.ints d'.row)) pI pI;let(p,I,J):=x9 (K:=K) (H:=H) 4 (m:=4) (qI r ((s.Pr).mono ∅)) (qI l ((A.Pr).mono ∅)) xc xc;refine(_,(_,_,λi=>match i with
  |0=>h
  |1=>t
  |2=>u
  | _=>p,.inl (bI.of n,bI.of j),λi u v f g=>?_,rfl),λo=>?_)
 ·match i,f,g with
  |0,f,g=>simp at f g;subst f g;calc B.mono ∅
  |1,f,g=>simp at f g;subst f g;calc D.mono ∅
  |2,f,g=>simp at f g;subst f g;calc F.mono ∅
  |3,f,g=>simp at f g;subst f g;calc I.mono ∅
  |(n+4),f,g=>simp at f
 ·simp[List.range_succ]at o;let(f,g,h,i):=o;unfold V9;rw[C.mp f,E.mp g,G.mp h,J.mp i]
theorem OU{C:Addr}{M c:Int}{a b:List Int}{d f:List bA}(e:V9 M ns row d=V9 c a b f)(h:iD C H m M ns row d):iD C H m c a b f:=by
 unfold V9 at e;simp only[DV.tup.injEq,List.cons.injEq,DV.int.injEq,DV.lst.injEq,and_true]at e;let(g,i,j,k):=e;let(l,st,dd,n,o,p):=h;subst g;refine(l,st,dd,n,?_,?_)
 ·show HT H 2 st (.tup [.tup (a.map .int),.tup (b.map .int)]);rw[<-i,<-j];exact o
 ·rw[<-k];calc p
theorem kC{C:Addr}{M:Int}{a:List bA}(t:cw H H')(i:∀b c d e,H b=some (.ins c d e)->H' b=some (.ins c d e))(h:iD C H m M ns row a):iD C H' m M ns row a:=by
 let(a,st,dd,f,g,j):=h;calc(a,st,dd,i _ _ _ _ f,g.aM t,j.aM t)
abbrev iM:Stmt:=top 79
inductive Av(C CN:Addr)(vs:List V)(H:Hp)(Q:VK):Prop
 |mk (x:V) (gQ:List MD) (ws:List (Int×Int×Str)) (ls:List (Int×Int)) (h0:vs=[x]) (h1:ToldN H x gQ ws ls) (h2:Ei gQ ws ls) (h3:∀n ms wv lv H',av H H'->uC C CN H' n (gQ,ws)->lM CN H' n ms wv lv->gJ H' 1 lv (ls.map pC)->Q (.ref n) H'):Av C CN vs H Q
def xf(C CN:Addr):Sp:=λvs H Q _=>Av C CN vs H Q
theorem uP(D:cV K mg "_law_net_made" "_law_net_made" iM e8)(T:Tx K mg C CN CR F FD)(qJ:xV P w K mg base "Machine" C 7 c6 (DQ C))(KU:xV P w K mg base "Net" CN 7 dU (Am C CN)):Def P w K mg base "_law_net_made" 9 e8 (xf C CN):=by
 exists["_law_net_here","_law_machines","_law_k","_law_one"];let(x,gQ,ws,ls,rfl,hT,g,q):=h;have r:=hr.units;refine(_,(ai (aT (i:=1) sc rfl Sort (bH aa))
  (ai (fc PassesOwn.never rfl (kb rfl T.dS (ag (ak r (aq 0) aj) aa)) (fu (i:=2) (j:=3) rfl sc rfl rfl Sort Sort)
  (ao (aY (PW.pt (pw_and (aC p7 (aq 2) aj (aI _)) (pw_and1 (aC (x6 r) (aq 3) (ak r (ak r (aq 0) aj) aj) (aI _))))) (ao (bR (dg pO rZ r6 cm (aq 1) (ag (ak r (aq 1) aj) aa)))) (ao (bR (dg pO rZ r6 cm (aq 1) (ag (Dn qJ hr (ag (ak r (aq 3) aj) (ag (c9 cq rfl T.d9 kW (ag (ak r (aq 3) aj) aa)) (ag (c9 cq rfl T.d9 kW (ag (ak r (aq 3) aj) aa)) (ag (c9 cq rfl T.d9 kW (ag (ak r (aq 3) aj) aa)) aa))))) aa)))))))
  (ao (aH (Dn KU hr (ag (aq 1) (ag (c9 cq rfl T.d9 kW (ag (ak r (aq 0) aj) aa)) (ag (c9 cq rfl T.d9 kW (ag (ak r (aq 0) aj) aa)) aa)))))))),?_)
 let(t,am,aw,al,N,wv,lv,rfl,ht,ZC,UI,Mt,hM,hW,hL):=id hT;have alp:N.length<=5:=by have:=hM.1;have:=g.m5;lia
 walk_at "j";refine(aaO _,λu O=>?_);have s0:=av.new (.lst []) O;have elm:upd H u (.lst []) u=some (.lst []):=af;generalize hG0:upd H u (.lst [])=G0 at *;walk_at "j";refine da (s0 _ _ ht) (aA (j:=0) rfl) (true,N,Sq.l (s0 _ _ ZC),lx (xs:=N) (λi σ H'=>∃(z2 z3:Option V) (ms:List Addr),σ=[some (V.ref t),some (V.ref u),z2,z3]/\av H H'/\H' u=some (.lst (ms.map V.ref))/\ms.length=i/\(∀(j:Nat) m d,ms[j]?=some m->gQ[j]?=some d->VC C H' m d)) ?_ ?_ ?_ ?_)
 ·exact(_,_,[],rfl,s0,elm,rfl,λj m d e=>by simp at e)
 ·intro i σ H' jl;let(_,_,_,_,s1,_):=jl;exact Sq.l (s1 _ _ ZC)
 ·intro i x σ H' tt hx jm T9;nofun;let(z2,z3,ms,rfl,s1,F8,F9,yH):=jm;have hiv:i < N.length:=(List.getElem?_eq_some_iff.mp hx).1;have i3:i < gQ.length:=by have:=hM.1;lia
  have I:=g.mg _ (aaV i3);have s2:=av.new (.tup [.int (i:Nat),x]) T9;have Zv:upd H' tt (.tup [.int (i:Nat),x]) tt=some (.tup [.int (i:Nat),x]):=af;generalize TF:upd H' tt (.tup [.int (i:Nat),x])=B at *;ac_rfl;have kT:=s1.trans s2;have QN:=(hM.2 i x gQ[i] hx (cT i3)).cv kT.cv;have R:=s2 _ _ F8;calc wD (bI.of Zv) ?_;let(ta,ln,lr,ld,Z,rfl,h1,h2,h3,h4,h5):=id QN;walk_at "j";rename_i T2 U2 Fj hU2;have mk:U2 [some (V.ref t),some (V.ref u),some (V.int ((i:Nat):Int)),some (V.ref ta)] B:=by
   clear Fj T2;generalize hmd:gQ[i]=p at *;walk_at "j";refine(.inl (rfl,_,aV.of R),?_);refine da h1 (aA (j:=0) rfl) ?_;refine da h1 (aA (j:=1) rfl) ?_;walk_at "j";refine bQ _ (.inl (aV.of h2)) (λG JY=>?_);have s4:=av.new (.lst (p.ns.map V.int)) JY;refine da (s4 _ _ h1) (aA (j:=2) rfl) ?_;walk_at "j";refine bQ _ (.inl (aV.of (s4 _ _ h3))) (λJ yV=>?_);have L:=av.new (.lst (p.row.map V.int)) yV;refine da (L _ _ (s4 _ _ h1)) (aA (j:=3) rfl) ?_;walk_at "j";refine bQ _ (.inl (aV.of (L _ _ (s4 _ _ h4)))) (λl3 Cc=>?_);have S:=av.new (.lst Z) Cc;have s46:=s4.trans (L.trans S);have n:=S _ _ (L _ _ (af (H:=B) (a:=G) (o:=.lst (p.ns.map V.int))));have y:=S _ _ (af (H:=upd B G (.lst (p.ns.map V.int))) (a:=J) (o:=.lst (p.row.map V.int)));have e3:upd (upd (upd B G (.lst (p.ns.map V.int))) J (.lst (p.row.map V.int))) l3 (.lst Z) l3=some (.lst Z):=af;generalize hG6:upd (upd (upd B G (.lst (p.ns.map V.int))) J (.lst (p.row.map V.int))) l3 (.lst Z)=G6 at *;intro m U BK Qj UO;have W:av G6 (upd (upd G6 U (.own m)) m (.ins C U [])):=λb o e=>by rw[ay (au e BK),ay (au e Qj)];exact e
   have ZL:=s46.trans W;refine(m,U,p.M,G,J,l3,p.ns,p.row,Z,p.ds,2,rfl,af,I.m2,I.m12,.inl (W _ _ n),.inl (W _ _ y),.inl (W _ _ e3),I.l1,I.l4,I.r12,I.bn,I.br,(h5.aM ZL.aU).dl,∅,I.d24,I.ok,λH8 Eg hk=>(rfl,?_));have X:av B H8:=λb o e=>hk b o (au (s46 _ _ e) BK) (ZL _ _ e);have UP:=X _ _ R;walk_at "j";refine gU _ UP (aG (by simp;lia)) ?_;have t7:cw H8 (upd H8 u (.lst (ms.map V.ref++[.ref m]))):=(cw.refl _).upd λzs e=>by rw[UP]at e;cases e
   have i7:∀b c d e,H8 b=some (.ins c d e)->upd H8 u (.lst (ms.map V.ref++[.ref m])) b=some (.ins c d e):=λb c d e h=>by
    rw[ay (λz=>by subst z;rw[UP]at h;cases h)];exact h
   walk_at "j";refine(_,_,ms++[m],(rfl,rfl),λb o e=>?_,by rw[aay];exact af,by simp[F9],λj m' d n y=>?_)
   ·rw[ay (au e O)];exact X _ _ (kT _ _ e)
   ·by_cases hj:j < ms.length
    ·rw[aaf hj]at n;exact kC t7 i7 ((yH j m' d n y).same (s2.trans X))
    ·rw[Y' ()] at n
     cases Gi:j-ms.length with
     |succ k=>rw[Gi]at n;simp at n
     |zero=>
      rw[Gi]at n;nofun;obtain rfl:=Option.some.inj n;have Vz:j=i:=by lia
      subst Vz;rw[cT i3,hmd]at y;obtain rfl:=Option.some.inj y;ac_rfl;exact kC t7 i7 Eg
  by_cases h0:0<i
  ·rw[if_pos (by simpa using h0)];have ZM:0 < gQ.length:=by lia
   have ZN:0<N.length:=by lia
   have Co:=(hM.2 0 N[0] gQ[0] (cT ZN) (cT ZM)).cv kT.cv;have ht0:∃c,N[0]=.ref c:=by
    let(c,_,_,_,_,e,_):=Co;exact(c,e)
   let(c,ec):=ht0;rw[ec]at Co;calc da (kT _ _ ht) (aA (j:=0) rfl) ?_;calc bC (kT _ _ ZC) (aA (j:=0) (v:=.ref c) (by rw[<-ec];calc cT ZN)) ?_;let(b,hb1,VD):=OT (K:=K) QN Co;refine Tc ta c b rfl rfl hb1 ?_
   cases b with
   |false=>rw[if_neg ∅];calc mk
   |true=>
    have VD:=VD rfl;rw[if_pos rfl];clear mk;walk_at "j";refine(.inl (rfl,_,aV.of R),?_);have Mg:0<ms.length:=by lia
    refine bC R (aA (j:=0) (v:=.ref ms[0]) (by rw[J',cT Mg];rfl)) ?_;walk_at "j";refine gU _ R (aG (by simp;lia)) ?_;have t7:cw B (upd B u (.lst (ms.map V.ref++[.ref ms[0]]))):=(cw.refl _).upd λzs e=>by rw[R]at e;cases e
    have i7:∀b c d e,B b=some (.ins c d e)->upd B u (.lst (ms.map V.ref++[.ref ms[0]])) b=some (.ins c d e):=λb c d e h=>by
     rw[ay (λz=>by subst z;rw[R]at h;cases h)];exact h
    walk_at "j";refine(_,_,ms++[ms[0]],(rfl,rfl),λb o e=>?_,by rw[aay];exact af,by simp[F9],λj m' d n y=>?_)
    ·rw[ay (au e O)];exact kT _ _ e
    ·by_cases hj:j < ms.length
     ·rw[aaf hj]at n;exact kC t7 i7 ((yH j m' d n y).same s2)
     ·rw[Y' ()] at n
      cases Gi:j-ms.length with
      |succ k=>rw[Gi]at n;simp at n
      |zero=>
       rw[Gi]at n;nofun;obtain rfl:=Option.some.inj n;have Vz:j=i:=by lia
       subst Vz;rw[cT i3]at y;obtain rfl:=Option.some.inj y;ac_rfl;exact OU VD.symm (kC t7 i7 ((yH 0 ms[0] gQ[0] (cT Mg) (cT ZM)).same s2))
  ·rw[if_neg (by simpa using h0),if_neg ∅];exact mk
 ·intro σ H4 qt;let(z2,z3,ms,rfl,s5,bE,F9,yH):=qt;have nE:ms.length=gQ.length:=by have:=hM.1;lia
  have B5:=s5 _ _ ht;walk_at "j";refine da B5 (aA (j:=1) rfl) ?_;walk_at "j";refine bQ _ (.inl (aV.of (s5 _ _ UI))) (λG JY=>?_);have S:=av.new (.lst wv) JY;refine da (S _ _ B5) (aA (j:=2) rfl) ?_;walk_at "j";refine bQ _ (.inl (aV.of (S _ _ (s5 _ _ Mt)))) (λJ yV=>?_);have W:=av.new (.lst lv) yV;have n:=W _ _ (af (H:=H4) (a:=G) (o:=.lst wv));have y:upd (upd H4 G (.lst wv)) J (.lst lv) J=some (.lst lv):=af;have yG:=S.trans W;generalize hG7:upd (upd H4 G (.lst wv)) J (.lst lv)=G7 at *;have k6:wv.length=ws.length:=by have:=hW.1;simpa using this
  have wN:lv.length=ls.length:=by have:=hL.1;simpa using this
  intro x U hx Qj UO;have s8:av G7 (upd (upd G7 U (.own x)) x (.ins CN U [])):=λb o e=>by rw[ay (au e hx),ay (au e Qj)];exact e
  have s58:=s5.trans (yG.trans s8);have hgm:=g.m1;have alu:=g.m5;have hgw:=g.Io;have Ql:=g.Zz;refine(x,U,u,G,J,ms,wv,lv,ws,ls,rfl,af,s8 _ _ (yG _ _ bE),s8 _ _ n,s8 _ _ y,(),(),(),(),λm hm=>?_,hW.aM s58.aU,hL.aM s58.aU,λw hw=>by rw[nE];calc g.wo w hw,λl hl=>by rw[k6];calc g.lo l hl,λH9 hn9 hk9=>(rfl,?_))
  ·nofun;let(j,hj,rfl):=List.getElem_of_mem hm;let(vk,Hz,Ia,h1,_,_):=(yH j _ gQ[j] (cT hj) (cT ())).same (yG.trans s8);ac_rfl;exact(_,_,h1)
  ·have Wa:av H4 H9:=λb o e=>hk9 b o (au (yG _ _ e) hx) (s8 _ _ (yG _ _ e));have Y:=s5.trans Wa;calc q x ms wv lv H9 Y ((ms,wv,lv,hn9,nE,λj m d a b=>(yH j m d a b).same Wa,hW.aM Y.aU),g.nt) hn9 (hL.aM Y.aU)
noncomputable def pJ(n:NT)(r:RS)(w k:Nat):List Int:=match (r.ww w).snd.getD k none with
 |none=>(r.mm (n.goal w)).hr.bJ (List.replicate n.ms.length 0)
 |some ((s),c)=>List.zipWith max ((r.mm (n.goal w)).hr.bJ (List.replicate n.ms.length 0)) ((r.mm s.toNat).hr.getD (c-1).toNat [])
theorem OV{n:NT}{w k:Nat}:n.ie r w k=(pJ n r w k).set (n.goal w) (n.ev r w).2:=rfl
theorem OW{l:List Int}{m:Nat}{c:Int}{n:Nat}(a:l.length=n)(b:m<n):((List.range n).map λj=>V.int (l.getD j 0+(if decide (((j:Nat):Int)=((m:Nat):Int))=true then 1 else 0))).set m (.int c)=(l.set m c).map V.int:=by
 apply List.ext_getElem (by simp[a]);intro j b d;have e:j<n:=by simpa using b
 simp only[List.getElem_map,List.getElem_set,List.getElem_range];by_cases z:m=j
 ·rw[if_pos z,if_pos z]
 ·rw[if_neg z,if_neg z,if_neg (by simp;lia),getD_at (cT ()),Int.add_zero]
theorem UQ{l:List (Option (Int×Int))}{k:Nat}{aL:List (Key×V)}{v:V}(h:OR H0 (.d (kd l) (l.countP Option.isSome)) (.dK aL))(a:l[k]?=some none)(b:HD H0 4 v (pairD e)):OR H0 (.d (kd (l.set k (some e))) ((l.set k (some e)).countP Option.isSome)) (.dK (putK aL (Sum.inl ((k:Nat):Int)) v)):=by
 have c:k<l.length:=(List.getElem?_eq_some_iff.mp a).1;have f:dW aL (Sum.inl ((k:Nat):Int))=none:=by
  have:=h.2 ((k:Nat):Int);have g:kd l ((k:Nat):Int)=none:=by
   unfold kd;rw[if_pos (),aaX,getD_at a];rfl
  rw[g]at this;exact this
 refine(?_,λj=>?_)
 ·rw[HY v f,count_set a,aaQ,List.length_singleton];have:=h.1;lia
 ·rw[KG c,sY];by_cases z:j=((k:Nat):Int)
  ·rw[if_pos z,if_pos (by rw[z])];exact(v,rfl,b)
  ·rw[if_neg z,if_neg (λq=>z (Sum.inl.inj q))];calc h.2 j
theorem OX{r:RS}{n:NT}{w k:Nat}:∀t i,i<n.n t->setC (setC (setC (setC (setC r.tv 3 (n.goal w) (.l (((r.mm (n.goal w)).hr.map λu=>DV.lst (u.map .int))++[.lst ((n.ie r w k).map .int)]))) 6 w (.d (kd ((r.ww w).fb.set k (some (n.ev r w)))) (((r.ww w).fb.set k (some (n.ev r w))).countP Option.isSome))) 1 (n.goal w) (.l ((r.mm (n.goal w)).fm.map uc++[uc (((n.work r w k).ns),(n.work r w k).row)]))) 2 (n.goal w) (.l (((r.mm (n.goal w)).wp.map λu=>DV.lst (u.map .int))++[.lst (((r.mm (n.goal w)).wp.bJ []++(n.work r w k).words).map .int)]))) 0 0 (.l (r.picks.map pairD++[pairD (((w:Int)),(k:Int))])) t i=(r.step n w k).tv t i:=by
 intro t i a;unfold setC
 match t,a with
 |0,a=>
  have:i=0:=by have:i<1:=a;lia
  subst this;simp[RS.tv,RS.step]
 |1,_=>by_cases e:i=n.goal w<;>simp[RS.tv,RS.step,e]
 |2,_=>by_cases e:i=n.goal w<;>simp[RS.tv,RS.step,e]
 |3,_=>by_cases e:i=n.goal w<;>simp[RS.tv,RS.step,e]
 |4,_=>by_cases e:i=w<;>simp[RS.tv,RS.step,e]
 |5,_=>by_cases e:i=w<;>simp[RS.tv,RS.step,e]
 |6,_=>by_cases e:i=w<;>simp[RS.tv,RS.step,e]
 |(t+7),a=>calc absurd a (Nat.not_lt_zero i)
theorem KW{r:RS}{n:NT}{w:Nat}{x:Int}{s:Option (Int×Int)}:∀t i,i<n.n t->setC (setC r.tv 4 w (.l ((r.ww w).say.map .int++[.int x]))) 5 w (.l ((r.ww w).snd.map oG++[oG s])) t i=(r.put w x s).tv t i:=by
 intro t i a;unfold setC
 match t,a with
 |0,_=>simp[RS.tv,RS.put]
 |1,_=>simp[RS.tv,RS.put]
 |2,_=>simp[RS.tv,RS.put]
 |3,_=>simp[RS.tv,RS.put]
 |4,_=>by_cases e:i=w<;>simp[RS.tv,RS.put,e]
 |5,_=>by_cases e:i=w<;>simp[RS.tv,RS.put,e]
 |6,_=>by_cases e:i=w<;>simp[RS.tv,RS.put,e,Ge]
 |(t+7),a=>calc absurd a (Nat.not_lt_zero i)
theorem yr{H:Hp}{n:Nat}{v:V}{ns:List Int}(h:HD H n v (.lst (ns.map .int))):∃a,v=.ref a/\H a=some (.lst (ns.map V.int)):=by
 cases h with
 | @lst n a b _ e l i=>calc(a,rfl,by rw[e,show b=ns.map V.int from e9.ua (l,i)])
theorem KY{x y:HO}(h:a≠b):upd (upd H a x) b y=upd (upd H b y) a x:=by
 funext c;by_cases d:c=a
 ·subst d;rw[ay h,af,af]
 ·by_cases e:c=b
  ·subst e;rw[af,ay d,af]
  ·rw[ay e,ay d,ay d,ay e]
theorem Ek{K:W.Frag}{j:Addr}{nt:NT}{g:Nat}{e:Nat}(u:e<2)(f:H j=some (.lst wv))(o:gJ H 1 wv (nt.ws.map mQ))(O:wv.length<=10)(v:σ[3]?=some (some (.int ((g:Nat):Int))))(p:H D=none)(q:∀H1,av H H1->H1 D=some (.lst ((vC nt e g).map λi=>V.int ((i:Nat):Int)))->Q (.ref D) H1):lu [none,none,some 3] (SI true K j) (Hu K 2 (mT (gj 0) (mT (gj 1) Ht))) (tT (HC (Th K) (HC (Sr K) (tV 1) (tC (V.int ((e:Nat):Int)))) (tV 2))) (tV 0) σ H Q D:=by
 have x:wv.length=nt.ws.length:=by simpa using o.1
 have z:vf [none,none,some 3] σ=[none,none,some (.int ((g:Nat):Int))]:=by simp[vf,v]
 refine bF (n:=wv.length) (λi ys H'=>av H H'/\ys=((List.range i).filter λj=>decide (uD nt e j=((g:Nat):Int))).map λj=>V.int (j:Nat)) (U' (aG ())) (av.new _ p,rfl) ?_ ?_ ?_ ?_
 ·rintro i ys H' h ⟨a,_⟩;exact(wv,wv[i],Sq.l (a _ _ f),cT h)
 ·rintro ys H' ⟨a,_⟩;exact(wv,Sq.l (a _ _ f),rfl)
 ·intro i ys H' h d r A P R B;rw[z];let(a,rfl):=A;let(k,C,rfl,y):=B;let(b,E,rfl):=y wv (Sq.l (a _ _ f));have j:i < nt.ws.length:=by lia
  have m:=av.new (.tup [.int (i:Nat),b]) C;have F:=(o.2 i b (mQ (nt.w i)) E (by rw[J',show nt.ws[i]?=some (nt.w i) from bu j];rfl)).aM (a.trans m).aU;have I:upd H' k (.tup [.int (i:Nat),b]) k=some (.tup [.int (i:Nat),b]):=af;have s:=m _ _ d;have t:=a.trans m;generalize S:upd H' k (.tup [.int (i:Nat),b])=G at *;let(T,U,X,Y,Z,rfl,J,L,M,N):=bZ F;obtain rfl:=L.cN;obtain rfl:=M.cN;obtain rfl:=N.cW;refine wD (bI.of I) (Ext.set (Ext.set (Ext.refl _) rfl) rfl,?_);walk_at "j";refine da J (show iZ _ ((e:Nat):Int)=some (.int (uD nt e i)) from aA (by match e,u with
   |0,_=>rfl
   | 1,_=>rfl)) ?_
  walk_at "j";by_cases z:uD nt e i=((g:Nat):Int)
  ·rw[if_pos (aaL z)];calc cD s r h (U' (aG ())) (λc o e=>by rw[ay (au e p)];calc t _ _ e,?_);rw[jf,if_pos (aaL z),aay];rfl
  ·rw[if_neg λh=>z (aa1 h)];exact(_,s,(),t,by rw[jf,if_neg λh=>z (aa1 h),aaP])
 ·rintro ys H1 d r ⟨a,rfl⟩;rw[x]at d;calc q H1 a d
abbrev nU:Stmt:=top 78
inductive KZ(vs:List V)(H:Hp)(Q:VK):Prop
 |mk (F:Addr->Prop) (d:Addr) (tn:V) (nt:NT) (r:RS) (ad:Nat->Nat->Addr) (wy k:Nat) (h0:vs=[.ref d,.int (wy:Nat),.int (k:Nat)]) (h1:bU F H d tn nt r ad) (h2:FS F H) (h3:r.Ok nt) (h4:r.OF nt wy k) (h5:r.picks.length<=400) (h6:∀t H',Fr (FP nt.n ad) H H'->bU F H' d tn nt (r.pick nt wy k) ad->HT H' 1 t (pairD (nt.ev r wy))->Q t H'):KZ vs H Q
def El:Sp:=λvs H Q _=>KZ vs H Q
theorem Cp(D:cV K mg "_law_pick" "_law_pick" nU eu)(T:Tx K mg C CN CR F FD)(kD:Def P w K mg base "_law_worked" 2 cG (Ec K)):Def P w K mg base "_law_pick" 3 eu El:=by
 exists["_law_run","_law_way","_law_number","_law_m","_law_place","_law_outs","_law_event","_law_state","_law_sent","_law_words","_law_row","_law_source","_law_c","_law_j","_law_said"];let(F,d,tn,m,r,ad,B,k,rfl,M,mK,O,hc,vB,q):=h;have G:=hr.units;have mP:=PV G;refine(_,(ai (aT (i:=3) sc rfl Sort (ak G (ak G (ak G (ak G (aq 0) aD) aj) (aq 1)) aj))
  (ai (aT (i:=4) sc rfl Sort (dg pO PySem.F.slot_list_index PySem.F.type_list_index wC (dR (N':=fh) (ix:=[none,none,some 3]) (kb rfl T.dS (ag (ak G (ak G (aq 0) aD) aj) aa)) (λ_ _ _ _=>(mI (K:=K) rfl (i:=0) (j:=1) rfl (show(fh:List Str).Nodup by decide +kernel) rfl rfl Sort Sort)) (λ_ _ _ _=>(mE (aC (pk (K:=K) rfl G) (fV (K:=K) rfl G (aq 1) aj) (aq 2) (aI _)))) (λ_ _ _ _=>(aq 0))) (ag (aq 1) aa)))
  (ai (gL (i:=5) sc rfl Sort (N':=fh) (ix:=[none,none,some 3]) (kb rfl T.dS (ag (ak G (ak G (aq 0) aD) aj) aa)) (λ_ _ _ _=>(mI (K:=K) rfl (i:=0) (j:=1) rfl (show(fh:List Str).Nodup by decide +kernel) rfl rfl Sort Sort)) (λ_ _ _ _=>(mE (aC (pk (K:=K) rfl G) (fV (K:=K) rfl G (aq 1) aj) (aq 2) (aI _)))) (λ_ _ _ _=>(aq 0)))
  (ai (aT (i:=6) sc rfl Sort (bz (ag (aq 3) (ag (bf aO rfl T.bV X' (ag (ak G (ak G (aq 0) aD) (aq 3)) aa)) aa))))
  (ai (eP (aN kD hr (ag (ak G (ak G (ak G (aq 0) aD) aj) (aq 3)) (ag (ak G (ak G (ak G (aq 0) aD) (aq 3)) (jT gn aj)) (ag (aq 4) (ag (ak G (ak G (ak G (aq 0) aD) (aq 1)) (aq 2)) aa))))) (zF (i:=7) (j:=8) (l:=9) rfl sc rfl rfl rfl Sort Sort Sort))
  (ai (aT (i:=10) sc rfl Sort (ak G (aR cE (bH (ag (aR Jl (bH (ag aj aa)) (bf aO rfl T.bV X' (ag (ak G (ak G (aq 0) aD) aj) aa))) aa)) (ak G (ak G (aq 0) aD) (aq 3))) (jT gn aj)))
  (ai (aY (aC p8 (ak G (ak G (ak G (aq 0) aD) (aq 1)) (aq 2)) k8 (aI _)) (ai (eP (ak G (ak G (ak G (aq 0) aD) (aq 1)) (aq 2)) (fu (i:=11) (j:=12) rfl sc rfl rfl Sort Sort))
  (ao (Hv (i:=10) sc rfl Sort (dR (N':=["_law_one","_law_other"]) (ix:=[none,none]) (BL rfl T.DH (ag (aq 10) (ag (ak G (ak G (ak G (aq 0) aD) (aq 11)) (aR dX (aq 12) aj)) aa))) (λ_ _ _ _=>(mI (K:=K) rfl (i:=0) (j:=1) rfl (show(["_law_one","_law_other"]:List Str).Nodup by decide +kernel) rfl rfl Sort Sort)) pR (λ_ _ _ _=>(bf (we rfl) rfl T.JN PyProof.Rows.boot_max (ag (aq 0) (ag (aq 1) aa))))) rfl))) aJ)
  (ai (bR (dg pO rZ r6 cm (ak G (ak G (aq 0) aD) (aq 3)) (ag (dR (N':=["_law_k","_law_row","_law_m"]) (ix:=[none,some 10,some 3]) (eI rfl T.fZ (ag (bf aO rfl T.bV X' (ag (aq 10) aa)) aa)) (λ_ _ _ _=>(bg (i:=0) (show(["_law_k","_law_row","_law_m"]:List Str).Nodup by decide +kernel) rfl Sort)) pR (λ_ _ _ _=>(aR cE (fV (K:=K) rfl G (aq 1) (aq 0)) (c9 EU rfl T.JL PyProof.Rows.boot_int (ag (i9 (pk (K:=K) rfl G) (aq 0) (aq 2) (aI _)) aa))))) aa)))
  (ai (eP (ak G (aq 6) aj) (iu (ak G (ak G (ak G (aq 0) aD) (aq 3)) (jT gn aj)) (aq 3) dH))
  (ai (gF mP (ak G (ak G (aq 0) aD) (aq 1)) (aq 2) (aq 6) rfl)
  (ai (bR (dg pO rZ r6 cm (ak G (ak G (aq 0) aD) (aq 3)) (ag (aq 7) aa)))
  (ai (bR (dg pO rZ r6 cm (ak G (ak G (aq 0) aD) (aq 3)) (ag (aR cE (ak G (ak G (ak G (aq 0) aD) (aq 3)) (jT gn aj)) (aq 9)) aa)))
  (ai (bR (dg pO rZ r6 cm (ak G (aq 0) aD) (ag (bz (ag (aq 1) (ag (aq 2) aa))) aa)))
  (ai (fc PassesOwn.never rfl (cj (pv 8)) (fu (i:=13) (j:=14) rfl sc rfl rfl Sort Sort)
  (ao (aY (aC gT (aq 13) (bf aO rfl T.bV X' (ag (aq 5) aa)) (aI _)) (ai (bR (dg pO rZ r6 cm (ak G (ak G (aq 0) aD) (ak G (aq 5) (aq 13))) (ag (aq 14) aa)))
  (ao (bR (dg pO rZ r6 cm (ak G (ak G (aq 0) aD) (ak G (aq 5) (aq 13))) (ag (aq 6) aa))))) aJ)))
  (ao (aH (aq 6))))))))))))))))),?_)
 nofun;let(o,N,nF,nP,ho):=M.dk;let(ls,tt,am,aw,al,mv,wv,lv,rfl,h1,h2,h3,h4,h5,h6,h7):=M.told;have g1:=(dB h1 (λk z=>by cases z)).2;have g2:=(dB h2 (λk z=>by cases z)).2;have g3:=(dB h3 (λk z=>by cases z)).2
 replace h5:=h5.cv d7
 replace h6:=h6.aM d7.aU
 have W:=M.ok;have L:=hc.lt;have I:=W.kg L;have k6:wv.length=m.ws.length:=by simpa using h6.1
 have nE:mv.length=m.ms.length:=h5.1;have rO:wv.length<=10:=by rw[k6];exact W.Fy
 have Mm:m.ms.length<=5:=W.Ta;let(wk1,wk2,wk3,wk4):=sy W O L k;ac_rfl;have zl:k<(r.ww B).say.length:=by rw[O.lk B L];exact(List.getElem?_eq_some_iff.mp hc.lies).1
 walk_at "j";refine bQ _ (Gd N) ?_;walk_at "j";refine da g1 (aA (j:=1) rfl) ?_;have YQ:m.ws[B]?=some (m.w B):=bu L;have alw:B<wv.length:=by lia
 have F6:=h6.2 B wv[B] (mQ (m.w B)) nofun (by rw[J',YQ];rfl);nofun;let(ta,u1,u2,u3,kk,eta,vE,q1,q2,q3):=bZ F6;obtain rfl:=q1.cN;obtain rfl:=q2.cN;obtain rfl:=q3.cW;ac_rfl;refine bC g3 (aA (j:=B) (v:=.ref ta) (by rw[<-eta];simp)) ?_;refine da vE (show iZ _ 1=some (.int ((m.goal B:Nat):Int)) from by rw[<-sF W L];exact aA (j:=1) rfl) ?_;walk_at "j";refine bT ?_;walk_at "j";refine bQ _ (Gd ((av.refl H) _ _ N)) ?_;walk_at "j";refine da ((av.refl H) _ _ g1) (aA (j:=1) rfl) ?_;walk_at "j";refine Jw true wv (Sq.l ((av.refl H) _ _ g3)) (λD1 G9=>?_);refine Ek ∅ g3 h6 rO rfl G9 (λH1 s1x H1e=>?_);have UR:av H H1:=s1x;walk_at "j";refine(.inl (rfl,_,aV.of H1e),?_);let(ix1,ix2):=uK (Ks W L);refine(D1,_,m.place B,B,rfl,rfl,by rw[H1e,wW],?_,?_,?_)
 ·rw[J',<-pG W L,ix1];rfl
 ·intro i y hi hy;rw[J']at hy;let(z,hz,rfl):=Option.map_eq_some_iff.mp hy;have:=ix2 i z (by rw[pG W L];calc hi) hz;lia
 walk_at "j";refine bT ?_;walk_at "j";refine bQ _ (Gd (UR _ _ N)) ?_;walk_at "j";refine da (UR _ _ g1) (aA (j:=1) rfl) ?_;walk_at "j";refine Jw true wv (Sq.l (UR _ _ g3)) (λD2 F0=>?_);refine Ek ∅ (UR _ _ g3) (h6.aM UR.aU) rO rfl F0 (λH2 s2x H2e=>?_);have sH2:av H H2:=UR.trans s2x;walk_at "j";refine bQ _ (KD (sH2 _ _ N)) ?_;have o1:=ho 1 ∅ ∅;have o2:=ho 2 ∅ ∅;have o3:=ho 3 ∅ ∅;have o4:=ho 4 ∅ ∅;have o5:=ho 5 ∅ ∅;have o6:=ho 6 ∅ ∅;have i0:0<m.n 0:=by show 0<1;decide
 let(v1,e1,d1):=M.cI.lst (t:=1) (i:=m.goal B) I rfl;have z1:v1.length=(r.mm (m.goal B)).fm.length:=by simpa using d1.1
 have YD:=O.zD I;walk_at "j";refine bC (sH2 _ _ o1.1) (bt I) ?_;refine gU _ (.inl (_,aV.of (sH2 _ _ e1),rfl)) cP (λev hev=>?_);rw[z1];have s23:=av.new (.tup [.int ((m.goal B:Nat):Int),.int (((r.mm (m.goal B)).fm.length:Nat):Int)]) hev;have R:=sH2.trans s23;have afl:HT (upd H2 ev (.tup [.int ((m.goal B:Nat):Int),.int (((r.mm (m.goal B)).fm.length:Nat):Int)])) 1 (.ref ev) (pairD (m.ev r B)):=di (n:=0) af (.int _) (.int _);have afm:upd H2 ev (.tup [.int ((m.goal B:Nat):Int),.int (((r.mm (m.goal B)).fm.length:Nat):Int)]) ev=some (.tup [.int ((m.goal B:Nat):Int),.int (((r.mm (m.goal B)).fm.length:Nat):Int)]):=af;generalize hG3:upd H2 ev (.tup [.int ((m.goal B:Nat):Int),.int (((r.mm (m.goal B)).fm.length:Nat):Int)])=H3 at *;have H3o:=s23 _ _ H2e;walk_at "j";refine bQ _ (Gd (R _ _ N)) ?_;walk_at "j";refine da (R _ _ g1) (aA (j:=0) rfl) ?_;have alB:m.goal B<mv.length:=by lia
 have emd:m.ms[m.goal B]?=some (m.ms.getD (m.goal B) default):=bu I;let(mt,ln,lr,ld,xsd,emt,t1,t2,t3,t4,t5):=h5.2 (m.goal B) mv[m.goal B] _ nofun emd;have OH:=W.gd I;refine bC (R _ _ g2) (aA (j:=m.goal B) (v:=.ref mt) (by rw[<-emt];simp)) ?_;refine bQ _ (KD (R _ _ N)) ?_;walk_at "j";refine bC (R _ _ o1.1) (bt I) ?_;let(sv,esv,dsv):=d1.get (i:=(r.mm (m.goal B)).fm.length-1) (d:=uc ((r.mm (m.goal B)).fm.bJ (([]),[]))) (by rw[J',pd (d:=(([]),[])) YD];rfl);have VH:=(Qs (dsv.cv d7)).aM R.aU;refine bC (R _ _ e1) (mL () (by rw[z1];exact esv)) ?_;walk_at "j";refine bQ _ (OO (R _ _ N)) ?_;nofun;let(v4,e4,d4):=M.cI.lst (t:=4) (i:=B) L rfl;have z4:=d4.ua;subst z4;ac_rfl;walk_at "j";refine bC (R _ _ o4.1) (bt L) ?_;refine bC (R _ _ e4) (aA (j:=k) (v:=.int ((r.ww B).say.getD k 0)) (by rw[J',bu (d:=0) zl];rfl)) ?_;have uL:=O.last I;refine(mt,ln,lr,ld,sv,_,_,_,xsd,_,_,_,rfl,R _ _ t1,R _ _ t4,t5.aM R.aU,zp.of VH,OH.m2,OH.m12,uL.bn,uL.lr,OH.d24,by rw[uL.ln];exact OH.ok,λrx H4 K0 Ub=>?_);have sH4:=R.trans K0;nofun;let(rp,Mx,VI,Qu,zs,rfl,hrp,Cf,Uc,rQ,Cg,fl1,fl2,aem):=Ub.ex
 replace Cf:HT H4 2 Mx (zm (m.work r B k).ns (m.work r B k).row):=Cf
 replace rQ:SL H4 zs (m.work r B k).cM:=rQ
 replace Cg:H4 Qu=some (.lst ((m.work r B k).words.map V.int)):=Cg
 ac_rfl;have ZP:=afl.aM K0.aU;have afn:=K0 _ _ afm;have H4o:=K0 _ _ H3o;refine un3 (bI.of hrp) ?_;walk_at "j";refine(∅,λlz hlz=>?_);have s45:=av.new (.lst [.int 0]) hlz;have elz:upd H4 lz (.lst [.int 0]) lz=some (.lst [.int 0]):=af;generalize hG5:upd H4 lz (.lst [.int 0])=H5 at *;have T4:=sH4.trans s45;refine bQ _ (Gd (T4 _ _ N)) ?_;walk_at "j";refine da (T4 _ _ g1) (aA (j:=0) rfl) ?_;refine bQ _ (.inl (_,aV.of (T4 _ _ g2),rfl)) ?_;refine Tb _ elz () () (λS hlq=>?_);rw[aaX,nE];have s56:=av.new (.lst (List.replicate m.ms.length (V.int 0))) hlq;have elq:upd H5 S (.lst (List.replicate m.ms.length (V.int 0))) S=some (.lst ((List.replicate m.ms.length 0).map V.int)):=by rw[af,List.map_replicate]
 generalize hG6:upd H5 S (.lst (List.replicate m.ms.length (V.int 0)))=H6 at *;calc(∅,λla ZQ=>?_);have yG:=av.new (.lst [.ref S]) ZQ;have ela:upd H6 la (.lst [.ref S]) la=some (.lst [.ref S]):=af;generalize hG7:upd H6 la (.lst [.ref S])=H7 at *;have ZL:=s45.trans (s56.trans yG);have sH7:=sH4.trans ZL;calc bQ _ (OP (sH7 _ _ N)) ?_;let(v3,e3,d3):=M.cI.lst (t:=3) (i:=m.goal B) I rfl;have z3:v3.length=(r.mm (m.goal B)).hr.length:=by simpa using d3.1
 have hlh:=O.lh _ I;have Ud:=O.bp _ I;walk_at "j";refine bC (sH7 _ _ o3.1) (bt I) ?_;refine .inl (_,_,ela,sH7 _ _ e3,U' (small (by simp;lia)),λlb hlb=>?_);have Wb:=av.new (.lst ([.ref S]++v3)) hlb;have elb:upd H7 lb (.lst ([.ref S]++v3)) lb=some (.lst ([.ref S]++v3)):=af;generalize hG8:upd H7 lb (.lst ([.ref S]++v3))=H8 at *;have s48:=ZL.trans Wb;have X:=sH4.trans s48;have ZR:∃rl,iZ ([V.ref S]++v3) (-1)=some (.ref rl)/\H8 rl=some (.lst (((r.mm (m.goal B)).hr.bJ (List.replicate m.ms.length 0)).map V.int)):=by
  by_cases h1:1<=(r.mm (m.goal B)).hr.length
  ·nofun;let(v,ev',dv):=d3.get (i:=(r.mm (m.goal B)).hr.length-1) (d:=.lst (((r.mm (m.goal B)).hr.bJ (List.replicate m.ms.length 0)).map .int)) (by rw[J',pd (d:=List.replicate m.ms.length 0) h1];rfl);let(a,rfl,ea):=yr (dv.cv d7);ac_rfl;calc(a,mL nofun ?_,X _ _ ea);rw[aaQ,List.length_singleton,Y' (by simp;lia)];rw[show 1+v3.length-1 - [V.ref S].length=(r.mm (m.goal B)).hr.length-1 by simp;lia];exact ev'
  ·have ez:(r.mm (m.goal B)).hr=[]:=List.length_eq_zero_iff.mp ();have ev3:v3=[]:=List.length_eq_zero_iff.mp ();refine(S,?_,?_)
   ·rw[ev3];exact mL nofun rfl
   ·rw[ez];show H8 S=some (.lst (List.map V.int (List.getD ([]:List (List Int)) _ _)));exact Wb _ _ (yG _ _ elq)
 let(rl,erl,Ak):=ZR;refine bC elb erl ?_;walk_at "j";refine bQ _ (KC (X _ _ N)) ?_;let(v5,e5,d5):=M.cI.lst (t:=5) (i:=B) L rfl;have Of:=O.ls B L;walk_at "j";refine bC (X _ _ o5.1) (bt L) ?_;let(v5k,ev5,dv5):=d5.get (i:=k) (d:=oG ((r.ww B).snd.getD k none)) (by rw[J',bu (d:=none) ()];rfl);refine bC (X _ _ e5) (aA ev5) ?_;walk_at "j";rename_i N2 hN2 T2 U2 Fj hU2;have ZS:(pJ m r B k).length=m.ms.length:=by
  have:=zE W O L (k:=k);rw[OV,List.length_set]at this;exact this
 have rest:∀(rl':Addr) (z11 Uj:Option V) (H9:Hp),av H8 H9->H9 rl'=some (.lst ((pJ m r B k).map V.int))->N2 [some (V.ref d),some (V.int ((B:Nat):Int)),some (V.int ((k:Nat):Int)),some (V.int ((m.goal B:Nat):Int)),some (V.int ((m.place B:Nat):Int)),some (V.ref D2),some (V.ref ev),some Mx,some (V.ref VI),some (V.ref Qu),some (V.ref rl'),z11,Uj,none,none] H9:=by
  clear Fj hU2 T2 U2;intro rl' z11 Uj H9 s89 ZT;have Wa:=s48.trans s89;have QO:=sH4.trans Wa;have b9:=M.cI.same QO;walk_at "j";refine bQ _ (OP (QO _ _ N)) ?_;walk_at "j";refine bC (QO _ _ o3.1) (bt I) ?_;refine(.inl (rfl,_,aV.of (QO _ _ e3)),?_);refine bT ?_;walk_at "j";refine bQ _ (.inl (_,aV.of ZT,rfl)) ?_;walk_at "j";rw[aau,ZS];refine gO () () (λhl ZU=>?_);rw[aaX];refine bF (J:=EO 0 m.ms.length) (n:=m.ms.length) (λi ys H'=>av H9 H'/\ys=(List.range i).map λj=>V.int ((pJ m r B k).getD j 0+(if decide (((j:Nat):Int)=((m.goal B:Nat):Int))=true then 1 else 0))) (U' (aG ())) (av.new _ ZU,rfl) (λi ys H' hi _=>hi) (λys H' _=>S' _) ?_ ?_
  ·intro i ys H' hi bE rA B3 x H2' B4;nofun;let(Y,rfl):=B3;let(rfl,rfl):=B4;ac_rfl;calc(Ext.set (Ext.refl _) rfl,?_);walk_at "j"
   try rw[if_pos trivial]
   calc bC (Y _ _ ZT) (show iZ _ (0+(i:Int))=some (.int ((pJ m r B k).getD i 0)) from by rw[Int.zero_add];calc aA (by rw[J',bu (d:=0) ()];rfl)) ?_;refine .inr ?_
   try rw[Int.zero_add]
   calc cD bE rA hi (U' (aG ())) (λc o e=>by rw[ay (au e ZU)];calc Y _ _ e,?_);rw[List.range_succ,aay];rfl
  rintro ys GZ bE rA ⟨Gm,rfl⟩;clear rA;have Gn:=QO.trans Gm;walk_at "j";refine gU v3 (Gn _ _ e3) (small ()) ?_;walk_at "j";have nA:ad 3 (m.goal B)≠hl:=λz=>by have:=QO _ _ e3;rw[z,ZU]at this;cases this
  have kA:∀b o,b≠ad 3 (m.goal B)->GZ b=some o->upd GZ (ad 3 (m.goal B)) (.lst (v3++[.ref hl])) b=some o:=λb o n e=>by rw[ay n];exact e
  have K1:∀{b:Addr} {o:HO},GZ b=some o->¬FP m.n ad b->b≠ad 3 (m.goal B):=λ{b o} _ h z=>h (3,m.goal B,I,z);have QP:=Gm _ _ (Wa _ _ afn);have nev:ev≠ad 3 (m.goal B):=λz=>by have:=Gn _ _ e3;rw[<-z,QP]at this;cases this
  refine da (kA _ _ nev QP) (aA (j:=1) rfl) ?_;refine bQ _ (OP (kA _ _ (K1 (Gn _ _ N) nP) (Gn _ _ N))) ?_;walk_at "j";refine bC (kA _ _ (K1 (Gn _ _ o3.1) o3.2.2) (Gn _ _ o3.1)) (bt I) ?_;refine bC af lA ?_;walk_at "j";refine(_,m.goal B,kA _ _ (Ne.symm nA) bE,lJ (by simp;lia),?_);rw[OW ZS I,show(pJ m r B k).set (m.goal B) (((r.mm (m.goal B)).fm.length:Nat):Int)=m.ie r B k from rfl,KY nA];have sK:av H9 (upd GZ hl (.lst ((m.ie r B k).map V.int))):=λb o e=>by rw[ay (au e ZU)];exact Gm _ _ e
  have eK:upd GZ hl (.lst ((m.ie r B k).map V.int)) hl=some (.lst ((m.ie r B k).map V.int)):=af;generalize hGK:upd GZ hl (.lst ((m.ie r B k).map V.int))=K10 at *;have sHK:=QO.trans sK;have bK:=M.cI.same sHK;have FSK:FS F K10:=mK.fr (Z:=λ_=>False) sHK.fr (λ_ _ h=>h);have fresh:∀{b:Addr},H9 b=none->¬(F b\/FP m.n ad b):=λ{b} hb z=>by
   rcases z with z|z
   ·let(o,e,_):=mK b z;rw[QO _ _ e]at hb;cases hb
   ·let(o,e,_):=b9.fp z;rw[e]at hb;cases hb
  have e3K:=sHK _ _ e3;have wd:=(BF.mk bK sHK.fr (Wa.trans sK).fr).app (t:=3) (i:=m.goal B) I rfl e3K (e9.one (show HD _ 4 (.ref hl) (.lst ((m.ie r B k).map .int)) from .lst (by rw[gq (fresh ZU)];exact eK) nofun (λi u e G he=>(e9.ints (H:=i3 (λb=>F b\/FP m.n ad b) K10) (n:=3) (m.ie r B k)).2 i u e G he)));generalize YT:upd K10 (ad 3 (m.goal B)) (.lst (v3++[.ref hl]))=H11 at *;clear kA K1;walk_at "j";refine bQ _ (UC (wd.f.at N nP)) ?_;let(QM,e6,d6):=wd.b.dct (t:=6) (i:=B) L rfl;have hlk:=O.lk B L;have hbs:=O.bs B L;walk_at "j";refine bC (wd.f.at o6.1 o6.2.2) (bt L) ?_;have Vu:((r.ww B).fb.countP Option.isSome)<=(r.ww B).fb.length:=List.countP_le_length;have h6l:=d6.1;refine(ad 6 B,_,rfl,pZ.k (k:=Sum.inl ((k:Nat):Int)) e6 (small ()),?_);have AQ:=BF.mk (wd.b.upd (t:=6) (i:=B) L (UQ d6 hc.lies ((wd.b.ht (mK.fr wd.f M.cI.yk) (ZP.aM wd.g.aU)).mono ∅))) (wd.f.upd (6,B,L,rfl) e6 trivial) (wd.g.upd (6,B,L,rfl) e6 trivial);generalize YU:upd H11 (ad 6 B) (.dK (putK QM (Sum.inl ((k:Nat):Int)) (.ref ev)))=YV at *;walk_at "j";refine bQ _ (KD (AQ.f.at N nP)) ?_;let(v1',e1',d1'):=AQ.b.lst (t:=1) (i:=m.goal B) I rfl;have z1':v1'.length=(r.mm (m.goal B)).fm.length:=by simpa using d1'.1
  walk_at "j";refine bC (AQ.f.at o1.1 o1.2.2) (bt I) ?_;refine(.inl (rfl,_,aV.of e1'),?_);walk_at "j";refine gU v1' e1' (small ()) ?_;have MC:=AQ.app (t:=1) (i:=m.goal B) I rfl e1' (e9.one (show HD _ 4 Mx (uc (((m.work r B k).ns),(m.work r B k).row)) from(AQ.b.ht (mK.fr AQ.f M.cI.yk) (Cf.aM AQ.g.aU)).mono ∅));generalize alR:upd YV (ad 1 (m.goal B)) (.lst (v1'++[Mx]))=Ug at *;walk_at "j";refine bQ _ (Zt (MC.f.at N nP)) ?_;let(v2,e2,d2):=MC.b.lst (t:=2) (i:=m.goal B) I rfl;have z2:v2.length=(r.mm (m.goal B)).wp.length:=by simpa using d2.1
  have hlw:=O.lw _ I;walk_at "j";refine bC (MC.f.at o2.1 o2.2.2) (bt I) ?_;refine(.inl (rfl,_,aV.of e2),?_);refine bQ _ (Zt (MC.f.at N nP)) ?_;walk_at "j";refine bC (MC.f.at o2.1 o2.2.2) (bt I) ?_;nofun;let(vw,evw,dvw):=d2.get (i:=(r.mm (m.goal B)).wp.length-1) (d:=.lst (((r.mm (m.goal B)).wp.bJ []).map .int)) (by rw[J',pd (d:=[]) ()];rfl);let(lw,rfl,elw):=yr (dvw.cv d7);ac_rfl;refine bC e2 (mL () (by rw[z2];exact evw)) ?_;have Ku:¬FP m.n ad VI:=λz=>by
   let(u,e,_):=(M.cI.same R).fp z;rw[fl1]at e;cases e
  have Ue:¬FP m.n ad Qu:=λz=>by
   let(u,e,_):=(M.cI.same R).fp z;rw[fl2]at e;cases e
  have hbw:=O.bw _ I _ (ij (l:=(r.mm (m.goal B)).wp) (d:=[]) ());calc .inl (_,_,elw,MC.g.at Cg Ue,U' (small (by simp;lia)),λnw hnw=>?_);have K2:=av.new (.lst (((r.mm (m.goal B)).wp.bJ []).map V.int++(m.work r B k).words.map V.int)) hnw;have enw:upd Ug nw (.lst (((r.mm (m.goal B)).wp.bJ []).map V.int++(m.work r B k).words.map V.int)) nw=some (.lst (((r.mm (m.goal B)).wp.bJ []++(m.work r B k).words).map V.int)):=by rw[af,aay]
  generalize afg:upd Ug nw (.lst (((r.mm (m.goal B)).wp.bJ []).map V.int++(m.work r B k).words.map V.int))=H14 at *;have w14:=MC.same K2;have nnw:¬(F nw\/FP m.n ad nw):=λz=>by
   rcases z with z|z
   ·let(o,e,_):=(mK.fr MC.f M.cI.yk) nw z;rw[hnw]at e;cases e
   ·let(o,e,_):=MC.b.fp z;rw[hnw]at e;cases e
  walk_at "j";refine gU v2 (K2 _ _ e2) (small ()) ?_;have w15:=w14.app (t:=2) (i:=m.goal B) I rfl (K2 _ _ e2) (e9.one (show HD _ 4 (.ref nw) (.lst (((r.mm (m.goal B)).wp.bJ []++(m.work r B k).words).map .int)) from .lst (by rw[gq nnw];exact enw) nofun (λi u e G he=>(e9.ints (H:=i3 (λb=>F b\/FP m.n ad b) H14) (n:=3) ((r.mm (m.goal B)).wp.bJ []++(m.work r B k).words)).2 i u e G he)));generalize alX:upd H14 (ad 2 (m.goal B)) (.lst (v2++[.ref nw]))=H15 at *;walk_at "j";refine bQ _ (UD (w15.f.at N nP)) ?_;let(v0,e0,d0):=w15.b.lst (t:=0) (i:=0) i0 rfl;have z0:v0.length=r.picks.length:=by simpa using d0.1
  walk_at "j";refine gO (.inl (rfl,_,aV.of e0)) cP (λtp GL=>?_);have QQ:=av.new (.tup [.int ((B:Nat):Int),.int ((k:Nat):Int)]) GL;have ZV:HT (upd H15 tp (.tup [.int ((B:Nat):Int),.int ((k:Nat):Int)])) 1 (.ref tp) (pairD (((B:Int)),(k:Int))):=di (n:=0) af (.int _) (.int _);generalize alY:upd H15 tp (.tup [.int ((B:Nat):Int),.int ((k:Nat):Int)])=ZJ at *;have w16:=w15.same QQ;have ZW:=QQ _ _ e0;walk_at "j";refine gU v0 ZW (small ()) ?_;have QR:=w16.app (t:=0) (i:=0) i0 rfl ZW (e9.one ((w16.b.ht (mK.fr w16.f M.cI.yk) ZV).mono ∅));generalize alZ:upd ZJ (ad 0 0) (.lst (v0++[.ref tp]))=H17 at *;have afx:bU F H17 d (.ref tt) m (r.step m B k) ad:=M.own QR.f (QR.b.congr OX);have QS:SL H17 zs (m.work r B k).cM:=rQ.aM QR.g.aU;have ZX:=QR.g.at Uc Ku;have QT:=ZP.aM QR.g.aU;have nD2:¬FP m.n ad D2:=λz=>by
   let(u,e,_):=(M.cI.same UR).fp z;rw[F0]at e;cases e
  have afz:=QR.g.at H4o nD2;clear b9 bK wd AQ MC w14 w15 w16 d0 d1' d2 d6;walk_at "j";have hzl:zs.length=(m.work r B k).cM.length:=QS.1;have Uh:=O.step W L (k:=k);have Ui:∀a c,some (m.ev r B)=some ((a),c)->0<=a/\a<m.ms.length/\1<=c/\c<=((r.step m B k).mm a.toNat).hr.length:=Ef W O L;refine(_,rfl,.inl ((_,aV.of ZX),fw (K:=K) (xs:=zs) (λi σ H'=>(∃Uk z14,σ=[some (V.ref d),some (V.int ((B:Nat):Int)),some (V.int ((k:Nat):Int)),some (V.int ((m.goal B:Nat):Int)),some (V.int ((m.place B:Nat):Int)),some (V.ref D2),some (V.ref ev),some Mx,some (V.ref VI),some (V.ref Qu),some (V.ref rl'),z11,Uj,Uk,z14])/\Fr (FP m.n ad) H17 H'/\bU F H' d (.ref tt) m ((r.step m B k).send (m.outs (m.goal B)) (m.ev r B) ((m.work r B k).cM.take i)) ad) ?_ ?_ ?_ ?_))
  ·exact((_,_,rfl),Fr.refl,afx)
  ·rintro i σ H' hi ⟨_,fi,_⟩;exact aV.of (fi.at ZX Ku)
  ·intro i z σ H' hz Ot;nofun;let((Uk,z14,rfl),fi,Em):=Ot;have uY:i < zs.length:=(List.getElem?_eq_some_iff.mp hz).1;have NY:i < (m.work r B k).cM.length:=by lia
   have uk:(m.work r B k).cM[i]?=some (m.work r B k).cM[i]:=cT NY;have My:=wk4 _ (aaV NY);have Ul:=(QS.2 i z _ hz uk).aM fi.aU;have OI:(r.step m B k).send (m.outs (m.goal B)) (m.ev r B) ((m.work r B k).cM.take (i+1))=((r.step m B k).send (m.outs (m.goal B)) (m.ev r B) ((m.work r B k).cM.take i)).send (m.outs (m.goal B)) (m.ev r B) [(m.work r B k).cM[i]]:=by
    rw[abE,uk];exact qE _
   have Ci:=(RS.uX.send (outs:=m.outs (m.goal B)) (ev:=m.ev r B) ((m.work r B k).cM.take i) Uh Ui).mono (show _<=19998 by simp;lia);generalize (m.work r B k).cM[i]=p at *;let(pj,px):=p;let(tz,u1,u2,kz,rfl,GO,y1,y2):=dZ Ul;obtain rfl:=y1.cN;obtain rfl:=y2.cN;ac_rfl;refine wD (bI.of GO) ?_;have eDi:=fi.at afz nD2;walk_at "j";refine bQ _ (.inl (_,aV.of eDi,rfl)) ?_;walk_at "j";have hlen:((vC m 0 (m.goal B)).map λi=>V.int ((i:Nat):Int)).length=(m.outs (m.goal B)).length:=by rw[aau];rfl
   rw[hlen];have ej:((pj.toNat:Nat):Int)=pj:=abv My;by_cases kZ:pj<((m.outs (m.goal B)).length:Nat)
   ·rw[if_pos (by simpa using kZ)];have PX:pj.toNat < (m.outs (m.goal B)).length:=by lia
    have sG:(m.outs (m.goal B)).getD pj.toNat 0<m.ws.length:=by
     have:=getD_mem (d:=0) PX;unfold NT.outs at this ⊢;rw[List.mem_filter,List.mem_range]at this;exact this.1
    have YO:iZ ((vC m 0 (m.goal B)).map λi=>V.int ((i:Nat):Int)) pj=some (.int (((m.outs (m.goal B)).getD pj.toNat 0:Nat):Int)):=by
     rw[<-ej];calc aA ?_;rw[J'];show Option.map _ (m.outs (m.goal B))[_]?=_;rw[aaX,bu (d:=0) PX];rfl
    nofun;obtain⟨U,how⟩:∃U,U=(m.outs (m.goal B)).getD pj.toNat 0:=(_,rfl)
    rw[<-how]at sG YO;generalize hri:(r.step m B k).send (m.outs (m.goal B)) (m.ev r B) ((m.work r B k).cM.take i)=ri at *;let(oi,ZY,nFi,nPi,ZZ):=Em.dk;have oi4:=ZZ 4 ∅ ∅;have Z0:=ZZ 5 ∅ ∅;have bi:=Em.cI;let(w4,x4,y4):=bi.lst (t:=4) (i:=U) sG rfl;ac_rfl;have l4:w4.length=(ri.ww U).say.length:=by simpa using y4.1
    have hb4:=Ci.bs U sG;have hb5:=Ci.ls U sG;walk_at "j";refine bQ _ (OO ZY) ?_;walk_at "j";refine bC eDi YO ?_;refine bC oi4.1 (bt sG) ?_;refine(.inl (rfl,_,aV.of x4),?_);walk_at "j";refine gU w4 x4 (small ()) ?_;have bj:=bi.app (t:=4) (i:=U) sG rfl x4 (e9.one (.int px));have fj:Fr (FP m.n ad) H' (upd H' (ad 4 U) (.lst (w4++[.int px]))):=Fr.refl.upd (4,U,sG,rfl) x4 trivial;generalize hGj:upd H' (ad 4 U) (.lst (w4++[.int px]))=Hj at *;let(w5,x5,y5):=bj.lst (t:=5) (i:=U) sG rfl;have l5:w5.length=(ri.ww U).snd.length:=by simpa using y5.1
    walk_at "j";refine bQ _ (KC (fj.at ZY nPi)) ?_;walk_at "j";refine bC (fj.at eDi nD2) YO ?_;refine bC (fj.at Z0.1 Z0.2.2) (bt sG) ?_;refine(.inl (rfl,_,aV.of x5),?_);walk_at "j";refine gU w5 x5 (small ()) ?_;have FSj:FS F Hj:=mK.fr ((QR.f.trans fi).trans fj) M.cI.yk;have bk:=bj.app (t:=5) (i:=U) sG rfl x5 (e9.one (show HD _ 4 (.ref ev) (oG (some (m.ev r B))) from(bj.ht FSj ((QT.aM fi.aU).aM fj.aU)).mono ∅));have fk:Fr (FP m.n ad) H' (upd Hj (ad 5 U) (.lst (w5++[.ref ev]))):=fj.upd (5,U,sG,rfl) x5 trivial;walk_at "j";refine gO (_,_,rfl,rfl) (fi.trans fk) ?_;rw[OI];show bU F _ d _ m (if pj.toNat<_ then _ else _) ad;rw[if_pos PX];show bU F _ d _ m (ri.put ((m.outs (m.goal B)).getD pj.toNat 0) px (some (m.ev r B))) ad;rw[<-how];exact Em.own fk (bk.congr KW)
   ·rw[if_neg (by simpa using kZ)];walk_at "j";refine gO (_,_,rfl,rfl) fi ?_;rw[OI];show bU F H' d _ m (if pj.toNat<_ then _ else _) ad;rw[if_neg ()];exact Em
  ·intro σ H' TM;let((Uk,z14,rfl),fi,Em):=TM;walk_at "j";rw[hzl,aa0]at Em;exact q _ _ (QR.f.trans fi) Em (QT.aM fi.aU)
 clear hN2
 cases F4:(r.ww B).snd.getD k none with
 |none=>
  rw[F4]at dv5;have:=Ce dv5;subst this;walk_at "j"
  try rw[if_neg ∅]
  walk_at "j";refine rest rl _ _ H8 (av.refl _) ?_;unfold pJ;rw[F4];exact Ak
 |some sc=>
  nofun;let(s0,c0):=sc;rw[F4]at dv5;let(ae,rfl,hae):=sE (dv5.cv d7);have afE:=X _ _ hae;have y8:some ((s0),c0)∈(r.ww B).snd:=by rw[<-F4];exact getD_mem ()
  let(q1,q2,q3,q4):=O.sd B L s0 c0 y8;ac_rfl;walk_at "j"
  try rw[if_pos ∅]
  walk_at "j";refine bQ _ (KC (X _ _ N)) ?_;walk_at "j";refine bC (X _ _ o5.1) (bt L) ?_;refine bC (X _ _ e5) (aA ev5) ?_;refine wD (bI.of afE) ?_;walk_at "j";refine bT ?_;walk_at "j";refine bQ _ (OP (X _ _ N)) ?_;have hsm:s0.toNat<m.ms.length:=by lia
  have es0:((s0.toNat:Nat):Int)=s0:=abv q1;have ec0:(((c0-1).toNat:Nat):Int)=c0-1:=abv ();walk_at "j";refine bC (X _ _ o3.1) (show iZ _ s0=some (.ref (ad 3 s0.toNat)) from by have:=bt (n:=m.n) (ad:=ad) (t:=3) hsm;rw[es0]at this;exact this) ?_;nofun;let(vs3,es3,ds3):=M.cI.lst (t:=3) (i:=s0.toNat) hsm rfl;let(vr,evr,dvr):=ds3.get (i:=(c0-1).toNat) (d:=.lst (((r.mm s0.toNat).hr.getD (c0-1).toNat []).map .int)) (by rw[J',bu (d:=[]) ()];rfl);let(lo,rfl,elo):=yr (dvr.cv d7);ac_rfl;refine bC (X _ _ es3) (show iZ _ (c0-1)=some (.ref lo) from by rw[<-ec0];exact aA evr) ?_;have OY:=X _ _ elo;walk_at "j";refine fH true true _ _ (Sq.l Ak) (Sq.l OY) (λD3 zZ=>?_);have aid:((r.mm (m.goal B)).hr.bJ (List.replicate m.ms.length 0)).length=m.ms.length:=by
   by_cases h1:1<=(r.mm (m.goal B)).hr.length
   ·exact O.hl _ I _ (ij h1)
   ·have ez:(r.mm (m.goal B)).hr=[]:=List.length_eq_zero_iff.mp ();rw[ez];simp[List.bJ]
  have aie:((r.mm s0.toNat).hr.getD (c0-1).toNat []).length=m.ms.length:=O.hl _ hsm _ (getD_mem ());have ehr:pJ m r B k=List.zipWith max ((r.mm (m.goal B)).hr.bJ (List.replicate m.ms.length 0)) ((r.mm s0.toNat).hr.getD (c0-1).toNat []):=by
   unfold pJ;rw[F4]
  generalize hA:(r.mm (m.goal B)).hr.bJ (List.replicate m.ms.length 0)=LA at *;generalize hB:(r.mm s0.toNat).hr.getD (c0-1).toNat []=LB at *;refine bF (J:=Xp true true K rl lo) (n:=m.ms.length) (λi ys H'=>av H8 H'/\ys=((List.zipWith max LA LB).take i).map V.int) (U' (aG ())) (av.new _ zZ,rfl) ?_ ?_ ?_ ?_
  ·rintro i ys H' hi ⟨Y,_⟩;exact(_,_,_,_,Sq.l (Y _ _ Ak),Sq.l (Y _ _ OY),by rw[J',bu (d:=0) ()];rfl,by rw[J',bu (d:=0) ()];rfl)
  ·rintro ys H' ⟨Y,_⟩;exact(_,_,Sq.l (Y _ _ Ak),Sq.l (Y _ _ OY),.inl (by simp;lia))
  ·intro i ys H' hi bE hl TQ xx H4' zq9;nofun;let(Y,rfl):=TQ;let(t',ZO,rfl,y):=zq9;let(x1,x2,Z1,Z2,rfl):=y _ _ (Sq.l (Y _ _ Ak)) (Sq.l (Y _ _ OY));rw[J',bu (d:=0) ()] at Z1 Z2;obtain rfl:=Option.some.inj Z1;obtain rfl:=Option.some.inj Z2;ac_rfl;have s2:=av.new (.tup [.int (LA.getD i 0),.int (LB.getD i 0)]) ZO;have rB:upd H' t' (.tup [.int (LA.getD i 0),.int (LB.getD i 0)]) t'=some (.tup [.int (LA.getD i 0),.int (LB.getD i 0)]):=af;calc wD (bI.of rB) (Ext.set (Ext.set (Ext.refl _) rfl) rfl,?_);walk_at "j"
   try rw[if_pos trivial]
   calc cD (s2 _ _ bE) hl hi (U' (aG ())) (λc o e=>by rw[ay (au e zZ)];calc s2 _ _ (Y _ _ e),?_);rw[abE,List.getElem?_zipWith,bu (l:=LA) (d:=0) (),bu (l:=LB) (d:=0) (),aay];show _++[V.int (if LB.getD i 0 > LA.getD i 0 then LB.getD i 0 else LA.getD i 0)]=_++[V.int (max (LA.getD i 0) (LB.getD i 0))]
   congr 3;split<;>lia
  rintro ys H9 bE hl ⟨s89,rfl⟩;rw[abw (by simp;lia),<-ehr]at bE;walk_at "j";exact rest D3 _ _ H9 s89 bE
theorem rG.nil{ct:Nat->Hp->HO->Prop}:rG H0 H' D [] 0 ct:=(rfl,List.nodup_nil,λa h=>by simp at h,λj a h=>by simp at h)
theorem rG.snoc{H0 H1 H':Hp}{D a:Addr}{as:List Addr}{n:Nat}{ct:Nat->Hp->HO->Prop}(h:rG H0 H1 D as n ct)(q:av H0 H1)(r:H1 D≠none)(g:H1 a=none){o:HO}(e:H' a=some o)(c:ct n H' o)(s:∀b o,b≠D->H1 b=some o->H' b=some o)(f:∀j o,ct j H1 o->ct j H' o):rG H0 H' D (as++[a]) (n+1) ct:=by
 refine(by simp[h.len],?_,λb d=>?_,λj b d=>?_)
 ·rw[List.nodup_append];calc gO h.nd nofun (λb d c l=>?_);simp at l;subst l;intro z;subst z;let(j,k):=List.getElem?_of_mem d;let(m,i,_):=h.ins j b k;rw[g]at i;cases i
 ·rcases List.mem_append.mp d with d | d
  ·exact h.new b d
  ·simp at d;subst d;refine(?_,λz=>r (z ▸ g))
   cases t:H0 b with
   |none=>rfl
   |some o=>rw[q _ _ t]at g;cases g
 ·by_cases k:j < as.length
  ·rw[aaf k]at d;let(m,i,g):=h.ins j b d;exact(m,s _ _ (h.new b (aaT d)).2 i,f _ _ g)
  ·rw[Y' ()] at d
   cases p:j-as.length with
   |zero=>
    rw[p]at d;simp at d;subst d;have:j=n:=by have:=h.len;lia
    subst this;calc(o,e,c)
   |succ k=>rw[p]at d;simp at d
theorem rG.keep{n:Nat}{ct:Nat->Hp->HO->Prop}(h:rG H0 H1 D as n ct)(s:∀(j:Nat) (b:Addr) (o:HO),H1 b=some o->ct j H1 o->H' b=some o/\ct j H' o):rG H0 H' D as n ct:=
 (h.len,h.nd,h.new,λj a e=>by
  let(c,d,f):=h.ins j a e;calc(c,s _ _ _ d f))
theorem sJ{K:W.Frag}{ix:List (Option Nat)}{m:TE}{l:Addr}{xs:List V}{o:HO}(r:H l=some (.lst xs))(t:H D=none)(G:xs.length<=10)(w:∀x,Ext (vf ix σ) ((vf ix σ).set 0 (some x)))(y:∀d g (R:VK),(∀p,g p=none->R (.ref p) (upd g p o))->m d g R)(q:∀as H1,H1 D=some (.lst (as.map V.ref))->av H H1->rG H H1 D as xs.length (λ_ _ u=>u=o)->Q (.ref D) H1):lu ix (yP K l) (gj 0) jc m σ H Q D:=by
 refine bF (n:=xs.length) (λi ys H'=>∃as:List Addr,ys=as.map V.ref/\av H H'/\rG H H' D as i (λ_ _ u=>u=o)) (U' (small ())) ([],rfl,av.new _ t,rG.nil) ?_ ?_ ?_ ?_
 ·rintro i ys H' j ⟨_,_,a,_⟩;exact(_,xs[i],aV.of (a _ _ r),cT j)
 ·rintro ys H' ⟨_,_,a,_⟩;exact(_,aV.of (a _ _ r),S' _)
 ·intro i ys H' j c v z B I C;let(as,rfl,a,k):=z;let(rfl,d):=C;calc(w B,?_);simp only[jc,if_true];calc y _ _ _ λp d=>?_;have g:=av.new o d;have i:p≠D:=Ne.symm (au c d);refine cD (g _ _ c) v j (U' (small ())) (as++[p],nofun,λb o e=>?_,?_)
  ·rw[ay (au e t)];exact g _ _ (a _ _ e)
  ·refine k.snoc a (by rw[c];simp) d (o:=o) ?_ rfl (λb o a e=>?_) (λj u e=>e)
   ·rw[ay i];exact af
   ·rw[ay a];exact g _ _ e
 ·intro ys H1 c v F;let(as,rfl,a,k):=F;calc q as H1 c a k
theorem rG.some{n:Nat}{ct:Nat->Hp->HO->Prop}(h:rG H0 H1 D as n ct):∀a∈as,H1 a≠none:=λa m=>by
 let(j,e):=List.getElem?_of_mem m;let(b,e,_):=h.ins j a e;rw[e];calc λz=>nomatch z
noncomputable def kL(l:List Addr):List (Key×V):=List.zipWith (λk a=>((Sum.inr k),V.ref a)) ["net","put","sender","worker","states","words","heard","events"] l
theorem pK{C:Hp}{d:Addr}{l:List Addr}{k:Key}{R:Hp->Prop}(c:H d=none)(S:av H C)(f:C d=some (.dK (kL l)))(a:av C H')(g:putK (kL l) k (V.ref D)=kL (l++[D]))(h:l.length<=8)(q:∀G,G d=some (.dK (kL (l++[D])))->(∀b o,b≠d->C b=some o->G b=some o)->(∀b o,b≠d->H' b=some o->G b=some o)->av H G->R G):∃d' G,d=d'/\pZ H' d' (kV k) (V.ref D) G/\R G:=by
 calc(d,_,rfl,pZ.k (a _ _ f) (small (by unfold kL;rw[List.length_zipWith];lia)),?_);rw[g];calc q _ af (λb o n e=>by rw[ay n];calc a _ _ e) (λb o n e=>by rw[ay n];calc e) (λb o e=>by rw[ay (au e c)];calc a _ _ (S _ _ e))
abbrev lU:Stmt:=top 75
inductive K3(vs:List V)(H:Hp)(Q:VK):Prop
 |mk (F:Addr->Prop) (tn:V) (nt:NT) (ls:List (Int×Int)) (h0:vs=[tn]) (h1:ToldN (i3 F H) tn nt.ms nt.ws ls) (h2:FS F H) (h3:nt.Ok) (h4:ls.length<=20) (h5:∀l∈ls,0<=l.1/\l.1<nt.ws.length) (h6:∀d ad H',av H H'->(∀b,FP nt.n ad b->H b=none)->H d=none->bU F H' d tn nt (RS.begin nt ls) ad->Q (.ref d) H'):K3 vs H Q
def En:Sp:=λvs H Q _=>K3 vs H Q
theorem Aw(D:cV K mg "_law_begun" "_law_begun" lU e8)(T:Tx K mg C CN CR F FD):Def P w K mg base "_law_begun" 1 e8 En:=by
 exists["_law_net_here","_law_run","_law_way","_law_said"];let(F,tn,g,ls,rfl,hN,mK,aW,rP,tm,q):=h;have N:=hr.units;have mP:=PV N;refine(_,(ai (aT (i:=1) sc rfl Sort (Nf (tf aD (aq 0) (tf aD (dR (N':=["_law_way"]) (ix:=[none]) (cj (ak N (aq 0) aj)) (λ_ _ _ _=>(bg (i:=0) (show(["_law_way"]:List Str).Nodup by decide +kernel) rfl Sort)) pR (λ_ _ _ _=>(bH aa))) (tf aD (dR (N':=["_law_way"]) (ix:=[none]) (cj (ak N (aq 0) aj)) (λ_ _ _ _=>(bg (i:=0) (show(["_law_way"]:List Str).Nodup by decide +kernel) rfl Sort)) pR (λ_ _ _ _=>(bH aa))) Nd))) rfl rfl ∅ ∅))
  (ai (gF mP (aq 1) aD (dR (N':=["_law_way"]) (ix:=[none]) (cj (ak N (aq 0) aj)) (λ_ _ _ _=>(bg (i:=0) (show(["_law_way"]:List Str).Nodup by decide +kernel) rfl Sort)) pR (λ_ _ _ _=>yZ)) rfl)
  (ai (gF mP (aq 1) aD (dR (N':=["_law_one"]) (ix:=[none]) (cj (ak N (aq 0) aj)) (λ_ _ _ _=>(bg (i:=0) (show(["_law_one"]:List Str).Nodup by decide +kernel) rfl Sort)) pR (λ_ _ _ _=>(bH (ag (bz (ag (c9 (oV (K:=K) rfl) rfl T.cu iY (ag (fV (K:=K) rfl N (aq 0) aj) aa)) (ag (c9 (oV (K:=K) rfl) rfl T.cu iY (ag (fV (K:=K) rfl N (aq 0) aj) aa)) aa))) aa)))) rfl)
  (ai (gF mP (aq 1) aD (dR (N':=["_law_one"]) (ix:=[none]) (cj (ak N (aq 0) aj)) (λ_ _ _ _=>(bg (i:=0) (show(["_law_one"]:List Str).Nodup by decide +kernel) rfl Sort)) pR (λ_ _ _ _=>(bH (ag (bH aa) aa)))) rfl)
  (ai (gF mP (aq 1) aD (dR (N':=["_law_one"]) (ix:=[none]) (cj (ak N (aq 0) aj)) (λ_ _ _ _=>(bg (i:=0) (show(["_law_one"]:List Str).Nodup by decide +kernel) rfl Sort)) pR (λ_ _ _ _=>(bH aa))) rfl)
  (ai (gF mP (aq 1) aD (bH aa) rfl)
  (ai (fc PassesOwn.never rfl (cj (ak N (aq 0) aj)) (fu (i:=2) (j:=3) rfl sc rfl rfl Sort Sort)
  (ai (bR (dg pO rZ r6 cm (ak N (ak N (aq 1) aD) (aq 2)) (ag (aq 3) aa)))
  (ao (bR (dg pO rZ r6 cm (ak N (ak N (aq 1) aD) (aq 2)) (ag k8 aa))))))
  (ao (aH (aq 1)))))))))),?_)
 nofun;let(tt,am,aw,al,Y,wv,lv,rfl,h1,h2,h3,h4,h5,h6,h7):=id hN;have g1:=(dB h1 (λk z=>by cases z)).2;have Z:=(dB h2 (λk z=>by cases z)).2;have g3:=(dB h3 (λk z=>by cases z)).2;have g4:=(dB h4 (λk z=>by cases z)).2
 replace h5:=h5.cv d7
 replace h6:=h6.aM d7.aU
 replace h7:=h7.aM d7.aU
 ac_rfl;have k6:wv.length=g.ws.length:=by simpa using h6.1
 have nE:Y.length=g.ms.length:=h5.1;have wN:lv.length=ls.length:=by simpa using h7.1
 have T:wv.length<=10:=by rw[k6];exact aW.Fy
 have T:Y.length<=5:=by rw[nE];exact aW.Ta
 walk_at "j";refine NC λd rC=>?_;have Wc:=av.new (.dK []) rC;have ed0:upd H d (.dK []) d=some (.dK []):=af;generalize hGd:upd H d (.dK [])=C1 at *;walk_at "j";refine bT ?_;walk_at "j";refine da (Wc _ _ g1) (aA (j:=1) rfl) ?_;walk_at "j";refine .inl ((_,aV.of (Wc _ _ g3)),λD1 G9=>?_);refine sJ (o:=.lst []) (Wc _ _ g3) G9 () (λ_=>Ext.set (Ext.refl _) rfl) (λ_ _ _ r=>And.intro ∅ r) ?_;intro A1 H1 l Y6 hL1;have Y8:=l;clear l;have fD1:C1 D1=none:=G9;walk_at "j";generalize hC2:H1=C2 at *;have S2:=Wc.trans Y6;have Wd:=Y6 _ _ ed0;have kd1:∀b o,b≠d->C1 b=some o->C2 b=some o:=λb o _ e=>Y6 _ _ e;refine bT ?_;walk_at "j";refine da (S2 _ _ g1) (aA (j:=1) rfl) ?_;walk_at "j";refine .inl ((_,aV.of (S2 _ _ g3)),λD2 F0=>?_);refine sJ (o:=.lst []) (S2 _ _ g3) F0 () (λ_=>Ext.set (Ext.refl _) rfl) (λ_ _ _ r=>And.intro ∅ r) ?_;intro A2 H2 l VP Ur;have VR:=l;clear l;have Yo:C2 D2=none:=F0;walk_at "j";have edE:H2 d=some (.dK []):=VP _ _ Wd;refine(edE,kL [tt,D1,D2],rfl,by simp[kL,List.zipWith],?_);rw[show nc [] (kL [tt,D1,D2])=kL [tt,D1,D2] by kernel_rfl];let(C3,hC3,We,VQ,ke2):=Y2 (d:=d) (kL [tt,D1,D2]) VP;rw[hC3];have S3:av H C3:=λb o e=>VQ b o (au e rC) (S2 _ _ e);clear hC3;clear edE;walk_at "j";refine bT ?_;walk_at "j";refine da (S3 _ _ g1) (aA (j:=1) rfl) ?_;walk_at "j";refine .inl ((_,aV.of (S3 _ _ g3)),λD3 zZ=>?_);refine sJ (o:=.dK []) (S3 _ _ g3) zZ () (λ_=>Ext.set (Ext.refl _) rfl) (λ_ _ _ r=>r) ?_;intro A3 T l Zb hL3;have VU:=l;clear l;have Yr:C3 D3=none:=zZ;walk_at "j";refine pK (k:=Sum.inr "worker") rC S3 We Zb (by kernel_rfl) nofun λC4 US Zc ke3 S4=>?_;walk_at "j";refine bT ?_;walk_at "j";refine da (S4 _ _ g1) (aA (j:=0) rfl) ?_;walk_at "j";refine .inl ((_,aV.of (S4 _ _ Z)),λD4 Kz=>?_);refine bF (J:=yP K am) (n:=Y.length) (λi ys H'=>∃as:List Addr,ys=as.map V.ref/\av C4 H'/\rG C4 H' D4 as i (λj H' o=>∃v,o=.lst [v]/\HT H' 2 v (zm (g.ms.getD j default).ns (g.ms.getD j default).row))) (U' (small ())) ([],rfl,av.new _ Kz,rG.nil) ?_ ?_ ?_ ?_
 ·rintro i ys H' hi ⟨_,_,M,_⟩;exact(_,Y[i],aV.of (M _ _ (S4 _ _ Z)),cT hi)
 ·rintro ys H' ⟨_,_,M,_⟩;exact(_,aV.of (M _ _ (S4 _ _ Z)),S' _)
 ·intro i ys H' hi l hl yd xx H4 B3;nofun;let(as,rfl,M,hL):=yd;let(rfl,hy):=B3;ac_rfl;have ex:=hy _ (aV.of (M _ _ (S4 _ _ Z)));calc(Ext.set (Ext.refl _) rfl,?_);walk_at "j"
  try rw[if_pos trivial]
  have OK:i<g.ms.length:=by lia
  let(mt,ln,lr,ld,xsd,rfl,m1,m2,m3,T,m5):=h5.2 i xx _ ex (bu (d:=default) OK);have sHk:=(S4.trans M)
  refine da (sHk _ _ m1) (aA (j:=1) rfl) ?_;walk_at "j";refine .inl (_,aV.of (sHk _ _ m2),λt1 T=>?_);have r1:=av.new (.tup ((g.ms.getD i default).ns.map V.int)) T;refine da (r1 _ _ (sHk _ _ m1)) (aA (j:=2) rfl) ?_;walk_at "j";refine .inl (_,aV.of (r1 _ _ (sHk _ _ m3)),λt2 T=>?_);have r2:=av.new (.tup ((g.ms.getD i default).row.map V.int)) T;refine(cP,λt3 AO=>?_);have r3:=av.new (.tup [.ref t1,.ref t2]) AO;have S:=r1.trans (r2.trans r3);have O:HT (upd (upd (upd H4 t1 (.tup ((g.ms.getD i default).ns.map V.int))) t2 (.tup ((g.ms.getD i default).row.map V.int))) t3 (.tup [.ref t1,.ref t2])) 2 (.ref t3) (zm (g.ms.getD i default).ns (g.ms.getD i default).row):=di af (oW (r3 _ _ (r2 _ _ af))) (oW (r3 _ _ af));generalize hGP:upd (upd (upd H4 t1 (.tup ((g.ms.getD i default).ns.map V.int))) t2 (.tup ((g.ms.getD i default).row.map V.int))) t3 (.tup [.ref t1,.ref t2])=HP at *;have Gq:=S _ _ l;walk_at "j";refine(∅,λp hp=>?_);have U:=av.new (.lst [.ref t3]) hp;have UT:=U _ _ Gq;have nD:p≠D4:=Ne.symm (au Gq hp);refine cD UT hl hi (U' (small ())) (as++[p],nofun,λb o e=>?_,?_)
  ·rw[ay (au e Kz)];exact U _ _ (S _ _ (M _ _ e))
  ·refine hL.snoc M (by rw[l];simp) (S.free hp) (o:=.lst [.ref t3]) ?_ (_,rfl,O.aM (λb xs e=>by rw[ay (λz=>by rw[z,Gq] at e;cases e)];calc U _ _ e)) (λb o nb e=>?_) (λj o (v,e,h)=>(v,e,h.aM (λb xs e=>by rw[ay (λz=>by rw[z,l] at e;cases e)];calc U _ _ (S _ _ e))))
   ·rw[ay nD];exact af
   ·rw[ay nb];exact U _ _ (S _ _ e)
 intro ys H4 l hl B4;let(A4,rfl,VY,hL4):=B4;have VZ:=l;clear l hl;have fD4:C4 D4=none:=Kz;walk_at "j";refine pK (k:=Sum.inr "states") rC S4 US VY (by kernel_rfl) nofun λR QU Zf ke4 S5=>?_;walk_at "j";refine bT ?_;walk_at "j";refine da (S5 _ _ g1) (aA (j:=0) rfl) ?_;walk_at "j";refine .inl ((_,aV.of (S5 _ _ Z)),λD5 yF=>?_);refine bF (J:=yP K am) (n:=Y.length) (λi ys H'=>∃as:List Addr,ys=as.map V.ref/\av R H'/\rG R H' D5 as i (λ_ H' o=>∃q,o=.lst [.ref q]/\H' q=some (.lst [])/\R q=none/\q≠D5)) (U' (small ())) ([],rfl,av.new _ yF,rG.nil) ?_ ?_ ?_ ?_
 ·rintro i ys H' hi ⟨_,_,M,_⟩;exact(_,Y[i],aV.of (M _ _ (S5 _ _ Z)),cT hi)
 ·rintro ys H' ⟨_,_,M,_⟩;exact(_,aV.of (M _ _ (S5 _ _ Z)),S' _)
 ·intro i ys H' hi l hl Ot xx H4 TM;nofun;let(as,rfl,M,hL):=Ot;let(rfl,hy):=TM;ac_rfl;have ex:=hy _ (aV.of (M _ _ (S5 _ _ Z)));calc(Ext.set (Ext.refl _) rfl,?_);walk_at "j"
  try rw[if_pos trivial]
  refine(aaO _,λqq hqq=>?_);have S:=av.new (.lst []) hqq;have eqq:upd H4 qq (.lst []) qq=some (.lst []):=af;have nqD:qq≠D5:=Ne.symm (au l hqq);generalize hGP:upd H4 qq (.lst [])=HP at *;have Gq:=S _ _ l;walk_at "j";refine(∅,λp hp=>?_);have U:=av.new (.lst [.ref qq]) hp;have UT:=U _ _ Gq;have nD:p≠D5:=Ne.symm (au Gq hp);refine cD UT hl hi (U' (small ())) (as++[p],nofun,λb o e=>?_,?_)
  ·rw[ay (au e yF)];exact U _ _ (S _ _ (M _ _ e))
  ·refine hL.snoc M (by rw[l];simp) (S.free hp) (o:=.lst [.ref qq]) ?_ (qq,rfl,by rw[ay nqD];calc U _ _ eqq,M.free hqq,nqD) (λb o nb e=>?_) (λj o (M,e,h,h',h2)=>(M,e,by rw[ay h2];calc U _ _ (S _ _ h),h',h2))
   ·rw[ay nD];exact af
   ·rw[ay nb];exact U _ _ (S _ _ e)
 intro ys H5 l hl TQ;let(A5,rfl,V2,hL5):=TQ;have V3:=l;clear l hl;have fD5:R D5=none:=yF;walk_at "j";refine pK (k:=Sum.inr "words") rC S5 QU V2 (by kernel_rfl) nofun λC6 UU Zi ke5 S6=>?_;walk_at "j";refine bT ?_;walk_at "j";refine da (S6 _ _ g1) (aA (j:=0) rfl) ?_;walk_at "j";refine .inl ((_,aV.of (S6 _ _ Z)),λD6 Zl=>?_);refine sJ (o:=.lst []) (S6 _ _ Z) Zl () (λ_=>Ext.set (Ext.refl _) rfl) (λ_ _ _ r=>And.intro ∅ r) ?_;intro A6 M l Zm hL6;have V6:=l;clear l;have fD6:C6 D6=none:=Zl;walk_at "j";refine pK (k:=Sum.inr "heard") rC S6 UU Zm (by kernel_rfl) nofun λC7 Wf Zn ke6 S7=>?_;walk_at "j";refine(aaO _,λpe uk=>?_);have sE7:=av.new (.lst []) uk;have afK:upd C7 pe (.lst []) pe=some (.lst []):=af;have npe:pe≠d:=Ne.symm (au Wf uk);generalize amf:upd C7 pe (.lst [])=E7 at *;refine pK (k:=Sum.inr "events") rC S7 Wf sE7 (by kernel_rfl) nofun λGF edF kd7 l SF=>?_;have epe:=l _ _ npe afK;have x:∀(A:Hp) (kv:List (Key×V)) (b:Addr) (vs:List V),A d=some (.dK kv)->A b=some (.lst vs)->b≠d:=λA kv b vs I W z=>by rw[z,I]at W;cases W
 have ndk:∀(A:Hp) (p:Key×V) (kv:List (Key×V)) (b:Addr),A d=some (.dK (p::kv))->A b=some (.dK [])->b≠d:=λA p kv b I W z=>by rw[z,I]at W;cases W
 have MI:∀(A:Hp) (kv:List (Key×V)) (b:Addr) (vs:List V),A d=some (.dK kv)->A b=some (.tup vs)->b≠d:=λA kv b vs I W z=>by rw[z,I]at W;cases W
 have kc7:=kd7;have kc6:∀b o,b≠d->C6 b=some o->GF b=some o:=λb o n e=>kc7 b o n (Zn b o n e);have OL:∀b o,b≠d->R b=some o->GF b=some o:=λb o n e=>kc6 b o n (Zi b o n e);have QG:∀b o,b≠d->C4 b=some o->GF b=some o:=λb o n e=>OL b o n (Zf b o n e);have QH:∀b o,b≠d->C3 b=some o->GF b=some o:=λb o n e=>QG b o n (Zc b o n e);have Us:∀b o,b≠d->C2 b=some o->GF b=some o:=λb o n e=>QH b o n (VQ b o n e);have Z3:rG C1 C2 D1 A1 wv.length (λ_ _ o=>o=.lst []):=hL1;have K4:=Y8;have Z4:=Z3.keep (λj b o e c=>by subst c;calc(Us b _ (x _ _ _ _ Wd e) e,rfl));have Z5:=Us _ _ (x _ _ _ _ Wd K4) K4;have Z6:rG C2 C3 D2 A2 wv.length (λ_ _ o=>o=.lst []):=Ur.keep (λj b o e c=>by subst c;calc(ke2 b _ (x _ _ _ _ (VP _ _ Wd) e) e,rfl));have K5:=ke2 _ _ (x _ _ _ _ (VP _ _ Wd) VR) VR;have Z7:=Z6.keep (λj b o e c=>by subst c;calc(QH b _ (x _ _ _ _ We e) e,rfl));have Z8:=QH _ _ (x _ _ _ _ We K5) K5;have Z9:rG C3 C4 D3 A3 wv.length (λ_ _ o=>o=.dK []):=hL3.keep (λj b o e c=>by subst c;calc(ke3 b _ (ndk _ _ _ _ (Zb _ _ We) e) e,rfl));have K6:=ke3 _ _ (x _ _ _ _ (Zb _ _ We) VU) VU;have aaa:=Z9.keep (λj b o e c=>by subst c;calc(QG b _ (ndk _ _ _ _ US e) e,rfl));have aab:=QG _ _ (x _ _ _ _ US K6) K6;have aac:rG C4 R D4 A4 Y.length (λj H' o=>∃v,o=.lst [v]/\HT H' 2 v (zm (g.ms.getD j default).ns (g.ms.getD j default).row)):=hL4.keep (λj b o e c=>by
  let(v,rfl,O):=c;calc(ke4 b _ (x _ _ _ _ (VY _ _ US) e) e,v,rfl,O.aM (λb' xs e'=>ke4 b' _ (MI _ _ _ _ (VY _ _ US) e') e')))
 have K7:=ke4 _ _ (x _ _ _ _ (VY _ _ US) VZ) VZ;have aad:=aac.keep (λj b o e c=>by
  let(v,rfl,O):=c;calc(OL b _ (x _ _ _ _ QU e) e,v,rfl,O.aM (λb' xs e'=>OL b' _ (MI _ _ _ _ QU e') e')))
 have aae:=OL _ _ (x _ _ _ _ QU K7) K7;have yp:rG R C6 D5 A5 Y.length (λ_ H' o=>∃q,o=.lst [.ref q]/\H' q=some (.lst [])/\R q=none/\q≠D5):=hL5.keep (λj b o e c=>by
  let(v,rfl,O,UM,X):=c;calc(ke5 b _ (x _ _ _ _ (V2 _ _ QU) e) e,v,rfl,ke5 v _ (x _ _ _ _ (V2 _ _ QU) O) O,UM,X))
 have wX:=ke5 _ _ (x _ _ _ _ (V2 _ _ QU) V3) V3;have nn:∀{A:Hp} {b:Addr} {o:HO},A b=some o->A b≠none:=λe z=>by rw[e]at z;cases z
 have aag:rG R C6 D5 A5 Y.length (λ_ H' o=>∃q,o=.lst [.ref q]/\H' q=some (.lst [])/\R q=none/\C6 q≠none):=(yp.len,yp.nd,yp.new,λj a e=>by
  let(o,I,q,rfl,W,l,_):=yp.ins j a e;calc(_,I,q,rfl,W,l,nn W))
 have UW:=aag.keep (λj b o e c=>by
  let(v,rfl,O,UM,X):=c;calc(kc6 b _ (x _ _ _ _ UU e) e,v,rfl,kc6 v _ (x _ _ _ _ UU O) O,UM,X))
 have aah:=kc6 _ _ (x _ _ _ _ UU wX) wX;have aai:rG C6 C7 D6 A6 Y.length (λ_ _ o=>o=.lst []):=hL6.keep (λj b o e c=>by subst c;calc(ke6 b _ (x _ _ _ _ (Zm _ _ UU) e) e,rfl));have K8:=ke6 _ _ (x _ _ _ _ (Zm _ _ UU) V6) V6;have aaj:=aai.keep (λj b o e c=>by subst c;calc(kc7 b _ (x _ _ _ _ Wf e) e,rfl));have aak:=kc7 _ _ (x _ _ _ _ Wf K8) K8;rw[k6]at Z4;rw[k6]at Z7;rw[k6]at aaa;rw[nE]at aad;rw[nE]at UW;rw[nE]at aaj;obtain⟨ad,Um⟩:∃ad:Nat->Nat->Addr,∀t i,ad t i=([[pe],A4,A5,A6,A1,A2,A3].getD t []).getD i 0:=(_,λ_ _=>rfl)
 have pz:∀{A B:Hp},(∀b o,b≠d->A b=some o->B b=some o)->∀{o},B d=some o->∀b,A b≠none->B b≠none:=λ{A B} h {o} e b hb=>by
  by_cases z:b=d
  ·rw[z,e];exact λz=>nomatch z
  ·cases I:A b with
   |none=>calc absurd I hb
   |some u=>rw[h b u z I];exact λz=>nomatch z
 have Y3:∀a<7,∀b<7,[6,3,4,5,0,1,2].getD a 7=[6,3,4,5,0,1,2].getD b 7->a=b:=by decide
 let(cI,QA,hDo):=Eh (F:=F) (G:=GF) (n:=g.n) (c:=(RS.new g).tv) (λt=>[C1,C2,C3,C4,R,C6,C7].getD t GF) (λt=>[6,3,4,5,0,1,2].getD t 7) _ (λt=>[d,D4,D5,D6,D1,D2,D3].getD t d) (λt=>[λ_ _ u=>u=.lst [],λj H' o=>∃v,o=.lst [v]/\HT H' 2 v (zm (g.ms.getD j default).ns (g.ms.getD j default).row),λ_ H' o=>∃q,o=.lst [.ref q]/\H' q=some (.lst [])/\R q=none/\C6 q≠none,λ_ _ o=>o=.lst [],λ_ _ o=>o=.lst [],λ_ _ o=>o=.lst []].getD t λ_ _ o=>o=.dK []) Um (λ_=>rfl) (λt l h h'=>Y3 t () l ())
  (λt=>match t with
   |0=>pz kd1 Wd
   |1=>pz VQ We
   |2=>pz Zc US
   |3=>pz Zf QU
   |4=>pz Zi UU
   |5=>pz Zn Wf
   |6=>pz kd7 edF
   | (t + 7)=>λb h=>h)
  (λb h=>by
   let(o,e,l):=mK b h;calc(nn (Wc _ _ e),o,SF _ _ e,l))
  (λt ht=>match t,ht with
   | 0,_=>((rfl,nofun,λa m=>by rw[List.mem_singleton.mp m];exact(uk,Ne.symm (au Wf uk)),λj a e=>by cases j with
    |zero=>cases e;calc(_,epe,rfl)
    | succ j=>cases e),λa m=>by rw[List.mem_singleton.mp m];calc nn epe,λh=>absurd h ∅)
   |1,_=>(aad,aac.some,λ_=>(fD4,nn K7))
   |2,_=>(UW,yp.some,λ_=>(fD5,nn wX))
   |3,_=>(aaj,aai.some,λ_=>(fD6,nn K8))
   |4,_=>(Z4,Z3.some,λ_=>(fD1,nn K4))
   |5,_=>(Z7,Z6.some,λ_=>(Yo,nn K5))
   |6,_=>(aaa,Z9.some,λ_=>(Yr,nn K6))
   | (t + 7),h=>absurd h ())
  (λt i u ht h=>by
   match t,ht,h with
   |0,_,h|3,_,h|4,_,h|5,_,h|6,_,h=>cases h;trivial
   |1,_,(_,e,_)|2,_,(_,e,_)=>cases e;trivial
   | (t + 7),h,_=>calc absurd h ())
  (λhz fo t i u ht hi e h=>by
   match t,ht,h with
   |0,_,h|3,_,h|4,_,h|5,_,h=>cases h;calc(e9.nil:e9 _ 4 [] [])
   |1,_,(v,e,O)=>cases e;calc(e9.one ((Kv hz O).mono ∅):e9 _ 4 [v] [_])
   |2,_,(v,e,O,UM,X)=>
    cases e;have nq:=fo 4 v UM X (λt ht es m=>by
     have:=Y3 t () 2 () es;subst this;let(j,e):=List.getElem?_of_mem m;let(_,I,q,rfl,_):=UW.ins j _ e;rw[O] at I;cases I)
    show e9 (i3 (λb=>F b\/FP g.n ad b) GF) 4 [.ref v] [.lst []];calc e9.one (.lst (by rw[gq nq];calc O) rfl (λi u e N=>by simp at N))
   |6,_,h=>
    cases h;exact(aaO _,λk=>by
     have I:kd ((RS.new g).ww i).fb k=none:=by
      show kd [] k=none;unfold kd;split<;>rfl
     rw[I];calc HX)
   | (t + 7),h,_=>calc absurd h ())
 have y:∀b,FP g.n ad b->H b=none:=λb hb=>Wc.free (QA b hb).1;have nF:∀b,H b=none->¬F b:=λb e z=>by
  let(o,I,_):=mK b z;rw[e]at I;cases I
 have hT:bU F GF d (.ref tt) g (RS.new g) ad:=by
  refine((λt=>[d,D4,D5,D6,D1,D2,D3].getD t d,?_,nF d rC,λz=>nn ed0 (QA d z).1,λt h1 h6=>?_),cI,(ls,hN.cv ?_),aW)
  ·rw[edF,MA,Um];rfl
  ·let(k,l,u):=hDo t h1 h6;calc(?_,k,l);rw[<-u]
   match t,h1,h6 with
   |1,_,_=>calc aae
   |2,_,_=>calc aah
   |3,_,_=>calc aak
   |4,_,_=>calc Z5
   |5,_,_=>calc Z8
   |6,_,_=>calc aab
   |(t+7),_,h=>exact absurd h ()
  ·intro b l e n;let(k,z2):=dB e n;rw[gq]
   ·exact SF _ _ z2
   ·rintro(z | z)
    ·exact k z
    ·rw[y b z]at z2;cases z2
 have h7F:=h7.aM SF.aU;walk_at "j";refine da (SF _ _ g1) (aA (j:=2) rfl) (.inl ((_,aV.of (SF _ _ g4)),fw (K:=K) (xs:=lv) (λi σ H'=>(∃z2 z3,σ=[some (V.ref tt),some (V.ref d),z2,z3])/\Fr (FP g.n ad) GF H'/\bU F H' d (.ref tt) g ((RS.new g).pf (ls.take i)) ad) ?_ ?_ ?_ ?_))
 ·exact((_,_,rfl),Fr.refl,hT)
 ·rintro i σ H' hi ⟨_,fi,_⟩;exact aV.of (fi.at (SF _ _ g4) (λz=>by rw[y _ z]at g4;cases g4))
 ·intro i z σ H' hzz afM;nofun;let((z2,z3,rfl),fi,Em):=afM;have k:i < ls.length:=by rw[<-wN];exact(List.getElem?_eq_some_iff.mp hzz).1
  have j:ls[i]?=some ls[i]:=cT k;have Ul:=(h7F.2 i z (pC ls[i]) hzz (by rw[J',j];rfl)).aM fi.aU;have KA:=tm _ (aaV k);have OI:(RS.new g).pf (ls.take (i+1))=((RS.new g).pf (ls.take i)).put ls[i].1.toNat ls[i].2 none:=by
   rw[abE,j];exact qF _
  have Ci:=(sI (ls.take i) (Ck aW)).mono (show _<=19998 by simp;lia);generalize ls[i]=p at *;let(L,px):=p;let(tz,u1,u2,kz,rfl,GO,y1,y2):=dZ Ul;obtain rfl:=y1.cN;obtain rfl:=y2.cN;have j:=KA.1;have k:=KA.2;simp only at j k;have ej:((L.toNat:Nat):Int)=L:=abv j;have sG:L.toNat<g.ws.length:=by lia
  generalize hri:(RS.new g).pf (ls.take i)=ri at *;ac_rfl;calc wD (bI.of GO) ?_;nofun;let(l,ZY,k,nPi,j):=Em.dk;have oi4:=j 4 ∅ ∅;have Z0:=j 5 ∅ ∅;have bi:=Em.cI;let(w4,x4,j):=bi.lst (t:=4) (i:=L.toNat) sG rfl;ac_rfl;have k:w4.length=(ri.ww L.toNat).say.length:=by simpa using j.1
  have j:=Ci.bs _ sG;have j:=Ci.ls _ sG;walk_at "j";refine bQ _ (OO ZY) ?_;walk_at "j";have ra:iZ (m7 g.n ad 4) L=some (.ref (ad 4 L.toNat)):=by have:=bt (n:=g.n) (ad:=ad) (t:=4) sG;rw[ej]at this;exact this
  have rb:iZ (m7 g.n ad 5) L=some (.ref (ad 5 L.toNat)):=by have:=bt (n:=g.n) (ad:=ad) (t:=5) sG;rw[ej]at this;exact this
  refine bC oi4.1 ra ?_;refine(.inl (rfl,_,aV.of x4),?_);walk_at "j";refine gU w4 x4 (small ()) ?_;have bj:=bi.app (t:=4) (i:=L.toNat) sG rfl x4 (e9.one (.int px));have fj:Fr (FP g.n ad) H' (upd H' (ad 4 L.toNat) (.lst (w4++[.int px]))):=Fr.refl.upd (4,L.toNat,sG,rfl) x4 trivial;generalize hGj:upd H' (ad 4 L.toNat) (.lst (w4++[.int px]))=Hj at *;let(w5,x5,j):=bj.lst (t:=5) (i:=L.toNat) sG rfl;have k:w5.length=(ri.ww L.toNat).snd.length:=by simpa using j.1
  walk_at "j";refine bQ _ (KC (fj.at ZY nPi)) ?_;walk_at "j";refine bC (fj.at Z0.1 Z0.2.2) rb ?_;refine(.inl (rfl,_,aV.of x5),?_);walk_at "j";refine gU w5 x5 (small ()) ?_;have bk:=bj.app (t:=5) (i:=L.toNat) sG rfl x5 (e9.one (show HD _ 4 .bG (oG none) from .bG));have fk:Fr (FP g.n ad) H' (upd Hj (ad 5 L.toNat) (.lst (w5++[.bG]))):=fj.upd (5,L.toNat,sG,rfl) x5 trivial;walk_at "j";refine gO (_,_,rfl,rfl) (fi.trans fk) ?_;rw[OI];exact Em.own fk (bk.congr KW)
 ·intro σ H' afO;let((z2,z3,rfl),fi,Em):=afO;walk_at "j";rw[wN,aa0]at Em;refine q d ad H' (λb o e=>?_) y rC Em;exact fi.at (SF _ _ e) (λz=>by rw[y b z]at e;cases e)
def lV(nt:NT)(r:RS)(s:List (Int×Int)):RS:=s.foldl (λr p=>r.pick nt p.1.toNat p.2.toNat) r
def vI(nt:NT)(r:RS)(s:List (Int×Int)):Prop:=∀(i:Nat) p,s[i]?=some p->∃w k:Nat,p=(((w:Int)),(k:Int))/\(lV nt r (s.take i)).OF nt w k
theorem nV{nt:NT}{w k:Nat}:lV nt r (s++[(((w:Int)),(k:Int))])=(lV nt r s).pick nt w k:=by
 unfold lV;rw[List.foldl_append];rfl
theorem K9{nt:NT}:vI nt r []:=λi p e=>by simp at e
theorem Gr{nt:NT}{w k:Nat}(h:vI nt r s)(a:(lV nt r s).OF nt w k):vI nt r (s++[(((w:Int)),(k:Int))]):=λi p e=>by
 by_cases b:i<s.length
 ·rw[aaf b]at e;rw[abC ()];exact h i p e
 ·have c:i=s.length:=by
   have:=(List.getElem?_eq_some_iff.mp e).1;simp at this;lia
  subst c;rw[Y' (S' _),Nat.sub_self]at e;obtain rfl:=Option.some.inj e;calc(w,k,rfl,by rw[List.take_left];calc a)
theorem Gs{nt:NT}{p:Int×Int}(h:vI nt r (s++[p])):vI nt r s/\∃w k:Nat,p=(((w:Int)),(k:Int))/\(lV nt r s).OF nt w k:=by
 refine(λi q e=>?_,?_)
 ·have a:=(List.getElem?_eq_some_iff.mp e).1;have:=h i q (by rw[aaf a];calc e);rw[abC ()]at this;exact this
 ·have:=h s.length p (by rw[Y' (S' _),Nat.sub_self];rfl);rw[List.take_left]at this;calc this
theorem Eo{nt:NT}(d:nt.Ok){r:RS}(h:r.Ok nt)(e:r.picks=[]):∀n (s:List (Int×Int)),s.length=n->vI nt r s->(lV nt r s).Ok nt/\(lV nt r s).picks=s
 |0,s,c,_=>by
  have:s=[]:=List.length_eq_zero_iff.mp c;subst this;calc(h,e)
 |n+1,s,c,g=>by
  rcases List.eq_nil_or_concat s with rfl|⟨i,p,f⟩
  ·simp at c
  rw[List.concat_eq_append]at f;subst f;let(j,w,k,rfl,l):=Gs g;let(a,b):=Eo d h e n i (by simpa using c) j;rw[nV];have:=RS.Ok.pick d a (k:=k) l.lt;rw[b]at this;calc this
theorem take_snoc{i:Nat}{p:Int×Int}(e:s[i]?=some p):s.take (i+1)=s.take i++[p]:=by rw[abt,e];rfl
abbrev kF:Stmt:=top 64
inductive Lb(C CN CR:Addr)(vs:List V)(H:Hp)(Q:VK):Prop
 |mk (F:Addr->Prop) (bq l:Addr) (nt:NT) (ls:List (Int×Int)) (ms:List Addr) (wv lv ys:List V) (s:List (Int×Int)) (h0:vs=[.ref bq,.ref l]) (h2:uC C CN H bq nt) (h3:lM CN H bq ms wv lv) (h4:gJ H 1 lv (ls.map pC)) (h5:ls.length<=20) (h6:∀l∈ls,0<=l.1/\l.1<nt.ws.length) (hl:H l=some (.lst ys)) (hs:gJ H 1 ys (s.map pairD)) (hn:s.length<=100) (hF:FS F H) (hc:vI nt (RS.begin nt ls) s) (q:∀x ad H',av H H'->H x=none->(∀b,FP nt.n ad b->H b=none)->bW C CN CR F H' x bq nt (lV nt (RS.begin nt ls) s) ad->Q (.ref x) H'):Lb C CN CR vs H Q
def Ep(C CN CR:Addr):Sp:=λvs H Q _=>Lb C CN CR vs H Q
theorem Gu{nt:NT}(h:vI nt r s)(n:Nat):vI nt r (s.take n):=λi p e=>by
 have a:=(List.getElem?_eq_some_iff.mp e).1;rw[abg]at a;rw[List.getElem?_take,if_pos ()]at e;rw[List.take_take,Nat.min_eq_left ()];calc h i p e
theorem yt(D:cV K mg "played_run" "played_run" kF ["net","schedule"])(T:Tx K mg C CN CR F FD)(S:cy P w K mg base CR "pick_at" 6 ah (ym C CN CR))(xg:xV P w K mg base "Run" CR 2 ["self","net"] (yo C CN CR)):Def P w K mg base "played_run" 7 ["net","schedule"] (Ep C CN CR):=by
 exists["net","schedule","run","at","way","number"];let(F,r,l,c,ls,ms,wv,lv,ys,s,rfl,J,Wg,Wh,L,tm,t,M,d,N,O,q):=h;have d:=hr.units;refine(_,(ai (aT (i:=2) sc rfl Sort (Dn xg hr (ag (aq 0) aa)))
  (ai (fc PassesOwn.never rfl (kb rfl T.dS (ag (aq 1) aa)) (Ba rfl (ir (bg (i:=3) sc rfl Sort) (ir (fu (i:=4) (j:=5) rfl sc rfl rfl Sort Sort) xA)))
  (ao (bR (fz S T.bb hr (aq 2) (ag (aq 4) (ag (aq 5) (ag (aq 3) aa)))))))
  (ao (aH (aq 2))))),?_)
 have UX:=J.ok;let(OZ,Ud):=Aq UX L;refine L2.aX λd h1=>?_;walk_at "j";intro p d R S T;have g:av H (upd (upd H d (.own p)) p (.ins CR d [])):=λb o e=>by rw[ay (au e R),ay (au e S)];exact e
 calc(F,p,d,r,c,ls,ms,wv,lv,rfl,af,J.fr (Z:=λ_=>False) g.fr,Wg.same g,Wh.aM g.aU,L,tm,N.fr (Z:=λ_=>False) g.fr (λ_ _ h=>h),λad H3 k0 f0 U=>?_);have u:av H H3:=λb o e=>k0 b o (au e R) (g _ _ e);have a:∀b,FP c.n ad b->H b=none:=λb hb=>by
  cases e:H b with
  |none=>rfl
  |some o=>
   have:=f0 b hb;rw[g _ _ e]at this;cases this
 clear k0 f0 g;calc(rfl,L2.aQ h1 ?_);clear h1;walk_at "j";have O0:ys.length=s.length:=by simpa using M.1
 refine(true,ys,Sq.l (u _ _ t),lx (xs:=ys) (λi σ H'=>(∃W X Y,σ=[some (V.ref r),some (V.ref l),some (V.ref p),W,X,Y])/\Fr (FP c.n ad) H3 H'/\bW C CN CR F H' p r c (lV c (RS.begin c ls) (s.take i)) ad) ?_ ?_ ?_ ?_)
 ·exact((_,_,_,rfl),Fr.refl,U)
 ·rintro i σ H' ⟨_,m,_⟩;exact Sq.l (m.at (u _ _ t) (λz=>by rw[a _ z]at t;cases t))
 ·intro i v σ H' G hx jl T9;nofun;let((W,X,Y,rfl),m,x):=jl;have d:i < s.length:=by rw[<-O0];exact(List.getElem?_eq_some_iff.mp hx).1
  have I:s[i]?=some s[i]:=cT d;have y:=av.new (.tup [.int (i:Nat),v]) T9;have Zv:upd H' G (.tup [.int (i:Nat),v]) G=some (.tup [.int (i:Nat),v]):=af;have B:=(((M.2 i v (pairD s[i]) hx (by rw[J',I];rfl)).aM u.aU).aM m.aU).aM y.aU;generalize TF:upd H' G (.tup [.int (i:Nat),v])=G2 at *;let(wy,k,ep,hc):=O i _ I;rw[ep]at B I;let(ta,u1,u2,kk,rfl,vE,y1,y2):=dZ B;obtain rfl:=y1.cN;obtain rfl:=y2.cN;ac_rfl;refine(G,_,rfl,bI.of Zv,rfl,_,_,rfl,_,_,rfl,(ta,_,rfl,bI.of vE,rfl,_,_,rfl,_,_,rfl,rfl,rfl,?_));walk_at "j";nofun;let(d,g,BK,l):=x.ins;let(afR,afS):=Eo UX OZ Ud _ _ rfl (Gu O i);ac_rfl;have Ca:∀{G:Hp},av G2 G->av H G:=λd b o e=>d _ _ (y _ _ (m.at (u _ _ e) (λz=>by rw[a _ z]at e;cases e)));refine gN (y _ _ BK) (gh ⋯) ?_;refine(F,p,r,c,_,ad,wy,k,.int (i:Nat),rfl,x.same y,N.fr (Z:=λ_=>False) (Ca (av.refl _)).fr (λ_ _ h=>h),afR,hc,by rw[afS,abg];lia,λt d f c g=>?_);refine((_,_,_,rfl,rfl,rfl),(m.trans y.fr).trans f,?_);rw[take_snoc I,nV];exact c
 ·intro σ H' jm;let((W,X,Y,rfl),m,x):=jm;rw[O0,aa0]at x;walk_at "j";exact q _ _ _ (λb o e=>m.at (u _ _ e) (λz=>by rw[a _ z]at e;cases e)) R a x
noncomputable abbrev jE:Stmt:=(cn (top 63)).getD 17 (.Pass (0,0,0,0))
def Ax(C CN CR:Addr):Sp:=λvs H Q _=>∃(F:Addr->Prop) (x b:Addr) (nt:NT) (r:RS) (ad:Nat->Nat->Addr) (a i:Nat),vs=[.ref x,.int a,.int i]/\bW C CN CR F H x b nt r ad/\r.Ok nt/\a<nt.ws.length/\i<(r.ww a).say.length/\∀v,HT H 1 v (oG ((r.ww a).snd.getD i none))->Q v H
theorem vJ(D:ic K CR "sent_by" "Run.sent_by" jE a0)(T:Tx K mg C CN CR F FD)(o:cy P w K mg base CR "need_letter" 4 ah (Ee C CN CR)):cy P w K mg base CR "sent_by" 5 a0 (Ax C CN CR):=by
 exists a0;let(F,x,j,k,r,ad,a,i,rfl,c,m,b,g,q):=h;have n:=hr.units;refine(_,(ai (bR (fz o T.bb hr (aq 0) (ag (aq 1) (ag (aq 2) (ag aj aa)))))
  (ao (aH (ak n (ak n (bL (aq 0) rfl) (aq 1)) (aq 2))))),?_)
 let(n,o,p,u):=c.ins;walk_at "j";refine gN p (gh ⋯) ?_;refine(_,x,j,k,r,ad,a,i,_,rfl,c,b,g,?_);walk_at "j";have l:=(u 5 ∅ ∅).1;nofun;let(v,e,d):=c.cI.lst (t:=5) (i:=a) b rfl;have y:i<(r.ww a).snd.length:=by rw[<-m.ls a b];exact g
 let(u,z,B):=d.get (i:=i) (d:=oG ((r.ww a).snd.getD i none)) (by rw[J',bu (d:=none) y];rfl);ac_rfl;refine fR p T.bb T.fg YN ?_;walk_at "j";refine bC l (bt b) ?_;refine bC e (aA z) ?_;exact q _ (An (B.cv d7))
noncomputable abbrev g9:Stmt:=(cn (top 63)).getD 18 (.Pass (0,0,0,0))
def Er(C CN CR:Addr):Sp:=λvs H Q _=>∃(F:Addr->Prop) (x b:Addr) (nt:NT) (r:RS) (ad:Nat->Nat->Addr) (a i:Nat),vs=[.ref x,.int a,.int i]/\bW C CN CR F H x b nt r ad/\r.Ok nt/\a<nt.ws.length/\i<(r.ww a).say.length/\∀v,HT H 1 v (oG ((r.ww a).fb.getD i none))->Q v H
theorem rT(D:ic K CR "worked_by" "Run.worked_by" g9 a0)(T:Tx K mg C CN CR F FD)(o:cy P w K mg base CR "need_letter" 4 ah (Ee C CN CR)):cy P w K mg base CR "worked_by" 5 a0 (Er C CN CR):=by
 exists a0;let(F,x,j,k,r,ad,a,i,rfl,c,m,b,g,q):=h;have n:=hr.units;refine(_,(ai (bR (fz o T.bb hr (aq 0) (ag (aq 1) (ag (aq 2) (ag aj aa)))))
  (ao (aH (ak n (ak n (bL (aq 0) rfl) (aq 1)) (aq 2))))),?_)
 let(n,o,p,u):=c.ins;walk_at "j";refine gN p (gh ⋯) ?_;refine(_,x,j,k,r,ad,a,i,_,rfl,c,b,g,?_);walk_at "j";have l:=(u 6 ∅ ∅).1;nofun;let(v,e,d):=c.cI.lst (t:=6) (i:=a) b rfl;have y:i<(r.ww a).fb.length:=by rw[<-m.lk a b];exact g
 let(u,z,B):=d.get (i:=i) (d:=oG ((r.ww a).fb.getD i none)) (by rw[J',bu (d:=none) y];rfl);ac_rfl;refine fR p T.bb T.de Ko ?_;walk_at "j";refine bC l (bt b) ?_;refine bC e (aA z) ?_;exact q _ (An (B.cv d7))
theorem uQ{v:V}(h:HT H 1 v (pairD e)):∃a,v=.ref a/\H a=some (.tup [.int e.1,.int e.2]):=by
 let(b,g,i,j,rfl,c,d,f):=dZ h;obtain rfl:=d.cN;obtain rfl:=f.cN;calc(b,rfl,c)
theorem Es {n:Nat}{vs:List V}(h:e9 H n vs (s.map pairD)):gJ H 1 vs (s.map pairD):=(h.1,λi v d b a=>by
 rw[J'] at a;let(p,c,rfl):=Option.map_eq_some_iff.mp a;calc An (e:=some p) (h.2 i v _ b (by rw[J',c];rfl)))
theorem Lc{K:W.Frag}(e:H a=some (.dT aL)):W3 K "dict" (.ref a) H:=.inr (.inr (.inl (rfl,.inr (_,e))))
theorem Cq:2<=sizeLine:=by rw[abe];lia
def fK(H:Hp)(aL:List (List Key×V))(D:List (Ev×List Int)):Prop:=Paired (λ(q:List Key×V) (x:Ev×List Int)=>q.1=kE x.1/\∃b,q.2=.ref b/\H b=some (.tup (x.2.map V.int))) aL D
theorem fK.same{D:List (Ev×List Int)}(h:fK H aL D)(s:av H H'):fK H' aL D:=Paired.EJ h λ_ _ z=>(z.1,let ⟨b,e,f⟩:=z.2;(b,e,s _ _ f))
theorem fK.keys{H:Hp}{aL:List (List Key×V)}{D:List (Ev×List Int)}(h:fK H aL D):aL.map (·.1)=D.map λx=>kE x.1:=by
 induction h with
 |nil=>rfl
 |cons h _ a=>rw[aaU,aaU,a,h.1]
theorem fK.val{H:Hp}{aL:List (List Key×V)}{D:List (Ev×List Int)}(h:fK H aL D)(p:Ev):(eG D p=none/\dW aL (kE p)=none)\/∃R b,eG D p=some R/\dW aL (kE p)=some (.ref b)/\H b=some (.tup (R.map V.int)):=by
 induction h with
 |nil=>calc .inl (rfl,rfl)
 | @cons q x c a h _ d=>
  let(c,b,g,i):=h;by_cases e:x.1=p
  ·exact .inr (x.2,b,by simp[eG,List.find?_cons,e],by rw[dF (c.trans (by rw[e])),g],i)
  ·have g:eG (x::a) p=eG a p:=by simp[eG,List.find?_cons,e]
   rw[g,dG (λz=>e (uh (c.symm.trans z)))];calc d
theorem Et{n:Nat}{D:List (Ev×List Int)}(h:fK H aL D){a:Addr}(e:H a=some (.tup ((List.replicate n 0).map V.int)))(p:Ev):∃b,(dW aL (kE p)).getD (.ref a)=.ref b/\H b=some (.tup ((fq n D (some p)).map V.int)):=by
 rcases h.val p with⟨c,d⟩|⟨R,b,c,d,f⟩
 ·exact(a,by rw[d];rfl,by rw[show fq n D (some p)=List.replicate n 0 by simp[fq,c]];calc e)
 ·calc(b,by rw[d];rfl,by rw[show fq n D (some p)=R by simp[fq,c]];calc f)
theorem Gv{n:Nat}{H:Hp}{aL:List (List Key×V)}{D:List (Ev×List Int)}(h:fK H aL D)(g:∀p∈D.map (·.1),p∈kh){d c:Addr}(f:H d=some (.tup ((List.replicate n 0).map V.int)))(i:H c=some (.dT aL)){v:V}{s:Option Ev}(j:HT H 1 v (oG s)){Q:VK}(q:∀b,H b=some (.tup ((fq n D s).map V.int))->Q (.ref b) H):Qc (.ref c) [v,.ref d] H Q:=by
 cases s with
 |none=>
  have:v=.bG:=by cases(show HT H 1 v .bG from j);rfl
  subst this;calc(c,_,_,none,rfl,rfl,.inr (rfl,rfl,aL,.inl i,λp l=>?_),q d f);have:p.1∈aL.map (·.1):=List.mem_map.mpr (p,l,rfl);rw[h.keys]at this;let(y,d,e):=List.mem_map.mp this;calc(zI y.1,by rw[<-e];calc DC _,N9 _ (g _ (List.mem_map.mpr (y,d,rfl))))
 |some p=>
  let(a,rfl,d):=uQ (show HT H 1 v (pairD p) from j);let(b,g,l):=Et h f p;calc Td c _ _ _ rfl rfl (.inl (.t (k:=kE p) i d)) ?_;rw[g];calc q b l
theorem Ay{n:Nat}{L:Lg}(h:gm n L)(o:Option Ev):(fq n (cL n L) o).length=n:=by
 cases o with
 |none=>calc List.length_replicate
 |some p=>
  by_cases a:p∈L.map (·.1)
  ·let(R,S,b,_,c):=h.all.2.2 p a;rw[show fq n (cL n L) (some p)=R by simp[fq,b]];exact c.len
  ·rw[show fq n (cL n L) (some p)=List.replicate n 0 by simp[fq,iA (show p∉(cL n L).map (·.1) by rw[h.all.1];calc a)]];calc List.length_replicate
theorem fK.put{D:List (Ev×List Int)}(h:fK H aL D){p:Ev}(a:p∉D.map (·.1)){R:List Int}{b:Addr}(e:H b=some (.tup (R.map V.int))):fK H (putK aL (kE p) (.ref b)) (D++[((p),R)]):=by
 have:¬(aL.any λc=>decide (c.1=kE p))=true:=by
  rw[iy];rcases h.val p with⟨_,z⟩|⟨c,d,z,_⟩
  ·rw[z];exact T'
  ·rw[iA a]at z;cases z
 unfold putK;rw[if_neg this];calc Paired.snoc h (rfl,b,rfl,e)
abbrev lW:Stmt:=top 28
inductive Eu(C CN CR:Addr)(vs:List V)(H:Hp)(Q:VK):Prop
 |mk (F:Addr->Prop) (x bq:Addr) (nt:NT) (r:RS) (ad:Nat->Nat->Addr) (L:Lg) (h0:vs=[.ref x]) (h1:bW C CN CR F H x bq nt r ad) (h2:r.Ok nt) (h3:r.Lk nt L) (h4:L.length<=40) (q:∀a aL H',av H H'->H' a=some (.dT aL)->fK H' aL (cL nt.ms.length L)->Q (.ref a) H'):Eu C CN CR vs H Q
def uR(C CN CR:Addr):Sp:=λvs H Q _=>Eu C CN CR vs H Q
theorem Az(D:cV K mg "all_heard" "all_heard" lW ["run"])(T:Tx K mg C CN CR F FD)(bD:cy P w K mg base CN "machines" 1 bY (gc CN))(ik:cy P w K mg base CR "net" 1 bY (yl C CN CR))(iN:cy P w K mg base CR "schedule" 1 bY (Kr C CN CR))(jF:cy P w K mg base CR "sent_by" 5 a0 (Ax C CN CR))(hV:cy P w K mg base CR "worked_by" 5 a0 (Er C CN CR)):Def P w K mg base "all_heard" 6 ["run"] (uR C CN CR):=by
 exists["run","noughts","heard","way","number","m","c","before","sender","counts"];let(F,x,U,a,r,ad,L,rfl,W,dq,k7,jG,q):=h;have hu:=hr.units;have mP:=PV hu;refine(_,(ai (aT (i:=1) sc rfl Sort (c9 ck rfl T.cu iY (ag (dR (N':=hH) (ix:=[none]) (cj (ft bD T.cR hr (ft ik T.bb hr (aq 0)))) (λ_ _ _ _=>(bg (i:=0) (show(hH:List Str).Nodup by decide +kernel) rfl Sort)) pR (λ_ _ _ _=>aj)) aa)))
  (ai (aT (i:=2) sc rfl Sort (sZ))
  (ai (fc PassesOwn.never rfl (cj (ft iN T.bb hr (aq 0))) (fu (i:=3) (j:=4) rfl sc rfl rfl Sort Sort)
  (ai (eP (fz hV T.bb hr (aq 0) (ag (aq 3) (ag (aq 4) aa))) (fu (i:=5) (j:=6) rfl sc rfl rfl Sort Sort))
  (ai (aT (i:=7) sc rfl Sort (dg Wv L8 zA4 (zH mP) (aq 2) (ag (bz (ag (aq 5) (ag (aR dX (aq 6) aj) aa))) (ag (aq 1) aa))))
  (ai (aT (i:=8) sc rfl Sort (dg Wv L8 zA4 (zH mP) (aq 2) (ag (fz jF T.bb hr (aq 0) (ag (aq 3) (ag (aq 4) aa))) (ag (aq 1) aa))))
  (ai (gL (i:=9) sc rfl Sort (N':=["one","other"]) (ix:=[none,none]) (BL rfl T.DH (ag (aq 7) (ag (aq 8) aa))) (λ_ _ _ _=>(mI (K:=K) rfl (i:=0) (j:=1) rfl (show(["one","other"]:List Str).Nodup by decide +kernel) rfl rfl Sort Sort)) pR (λ_ _ _ _=>(bf (we rfl) rfl T.JN PyProof.Rows.boot_max (ag (aq 0) (ag (aq 1) aa)))))
  (ai (eP (aq 6) (iu (aq 9) (aq 5) dH))
  (ao (gF mP (aq 2) (bz (ag (aq 5) (ag (aq 6) aa))) (c9 ck rfl T.cu iY (ag (aq 9) aa)) rfl))))))))
  (ao (aH (aq 2)))))),?_)
 nofun;let(dx,o,hx,T):=W.ins;let((ms,wv,lv,hf,nE,T,Mw),aW):=W.OE;ac_rfl;have T:=aW.Ta;refine L2.aX λT h1=>?_;walk_at "r";refine bT ?_;walk_at "r";refine(x,dx,_,rfl,hx,gh ⋯,F,x,U,a,r,ad,rfl,W,?_);have MM:=hf;let(T,_,_,_,hxn,_):=MM;refine(U,T,_,rfl,hxn,by rfl,U,ms,wv,lv,rfl,hf,λl hl=>?_);have N:=av.new (.lst (ms.map V.ref)) hl;have el:upd H l (.lst (ms.map V.ref)) l=some (.lst (ms.map V.ref)):=af;generalize hG:upd H l (.lst (ms.map V.ref))=G at *;refine .inl ((_,aV.of el),λD hD=>?_);refine bF (J:=yP K l) (n:=ms.length) (λi ys H'=>av G H'/\ys=List.replicate i (.int 0)) (U' (aG ())) (av.new _ hD,rfl) ?_ ?_ ?_ ?_
 ·rintro i ys H' X ⟨I,_⟩;exact(_,_,aV.of (I _ _ el),by rw[J',cT X];rfl)
 ·rintro ys H' ⟨I,_⟩;exact(_,aV.of (I _ _ el),nofun)
 ·intro i ys H' X O hl jl xx H4 jm;nofun;let(I,rfl):=jl;let(rfl,y):=jm;ac_rfl;calc(Ext.set (Ext.refl _) rfl,?_);walk_at "r"
  try rw[if_pos trivial]
  calc cD O hl X (U' (aG ())) (λc o e=>by rw[ay (au e hD)];calc I _ _ e,?_);exact List.replicate_succ'.symm
 rintro ys H1 O O0 ⟨I,rfl⟩;rw[nE]at O;calc .inl (_,aV.of O,λnz T=>?_);have t2:=av.new (.tup (List.replicate a.ms.length (.int 0))) T;have enz:upd H1 nz (.tup (List.replicate a.ms.length (.int 0))) nz=some (.tup ((List.replicate a.ms.length 0).map V.int)):=by rw[List.map_replicate];exact af
 have Y:av H (upd H1 nz (.tup (List.replicate a.ms.length (.int 0)))):=N.trans (I.trans t2);generalize TF:upd H1 nz (.tup (List.replicate a.ms.length (.int 0)))=G2 at *;refine L2.aQ h1 ?_;clear h1 I t2 O O0;walk_at "r";intro M Z;have t3:=av.new (.dT []) Z;have ehd:upd G2 M (.dT []) M=some (.dT []):=af;have s3:av H (upd G2 M (.dT [])):=Y.trans t3;have T:H M=none:=Y.free Z;have aao:=t3 _ _ enz;generalize hG3:upd G2 M (.dT [])=G3 at *;walk_at "r";refine(x,dx,_,rfl,s3 _ _ hx,gh ⋯,F,x,U,a,r,ad,rfl,W.same s3,λls vs T hvs=>?_);have t4:=av.new (.lst vs) T;have UZ:upd G3 ls (.lst vs) ls=some (.lst vs):=af;have T:av H (upd G3 ls (.lst vs)):=s3.trans t4;have aap:=t4 _ _ ehd;have T:=t4 _ _ aao;have nls:ls≠M:=gK UZ aap (λz=>nomatch z);have aaq:=(Es hvs).aM t4.aU;have t24:av G2 (upd G3 ls (.lst vs)):=t3.trans t4;have Qx:=W.same Y;generalize hG4:upd G3 ls (.lst vs)=G4 at *;clear t3 t4 aao ehd s3 hvs W;have J6:vs.length=r.picks.length:=by simpa using aaq.1
 refine .inl ((_,aV.of UZ),fw (K:=K) (xs:=vs) (λi σ H'=>(∃z3 z4 z5 z6 z7 z8 z9,σ=[some (V.ref x),some (V.ref nz),some (V.ref M),z3,z4,z5,z6,z7,z8,z9])/\av G2 H'/\H' ls=some (.lst vs)/\gJ H' 1 vs (r.picks.map pairD)/\∃aL,H' M=some (.dT aL)/\fK H' aL (cL a.ms.length (L.take i))) ?_ ?_ ?_ ?_)
 ·exact((_,_,_,_,_,_,_,rfl),t24,UZ,aaq,[],aap,Paired.nil)
 ·rintro i σ H' X ⟨_,_,fi,_⟩;exact aV.of fi
 ·intro i z σ H' hz qt;nofun;let((z3,z4,z5,z6,z7,z8,z9,rfl),fi,aar,U3,aL,Ld,pL):=qt;have uY:i < r.picks.length:=by rw[<-J6];exact(List.getElem?_eq_some_iff.mp hz).1
  let(wy,k,e,s,ep,eL,ew,es,hw):=k7.at i _ (cT uY);have hzp:=U3.2 i z (pairD r.picks[i]) hz (by rw[J',cT uY];rfl);rw[ep]at hzp;let(ta,rfl,T):=uQ hzp;ac_rfl;calc wD (bI.of T) ?_;have u6:=Qx.same fi;let(vk,T,BK,W):=u6.ins;have zl:k<(r.ww wy).say.length:=by rw[dq.lk wy hw];exact(List.getElem?_eq_some_iff.mp ew).1
  walk_at "r";refine(x,vk,_,rfl,BK,gh ⋯,_,x,U,a,r,ad,wy,k,rfl,u6,dq,hw,zl,λv hv=>?_);nofun;rw[getD_at ew]at hv;let(te,rfl,T):=uQ hv;let(m,g):=e;ac_rfl;refine wD (bI.of T) ?_;refine L2.aX λW h2=>?_;walk_at "r";refine gO (Lc Ld) Cq (λI T=>?_);have u1:=av.new (.tup [.int m,.int (g-1)]) T;have et1:upd H' I (.tup [.int m,.int (g-1)]) I=some (.tup ((kE ((m),g-1)).map kV)):=af;have aat:=u1 _ _ (fi _ _ enz);have Lf:=pL.same u1;have O1:=u1 _ _ Ld;generalize hJ1:upd H' I (.tup [.int m,.int (g-1)])=J1 at *;let(b1,T,R):=Et Lf aat ((m),g-1)
  calc Td M _ _ _ rfl rfl (.inl (.t O1 et1)) ?_;rw[T];calc L2.aQ h2 ?_;clear h2;calc L2.aX λI h3=>?_;walk_at "r";have T:=u6.same u1;have QW:L.take (i+1)=L.take i++[((((m),g)),s)]:=by rw[abt,eL];rfl
  have I:=k7.good.take (i+1);rw[QW]at I;let(ME,W,FW,_,U4,F4):=I.inv;have D9:=ME.all.1;have hD:∀p∈(cL a.ms.length (L.take i)).map (·.1),p∈kh:=λp I=>by
   rw[D9]at I;exact ME.evs aW.Ta (aaS (by rw[abg];lia) jG) I
  refine(Lc O1,x,vk,_,rfl,u1 _ _ BK,gh ⋯,_,x,U,a,r,ad,wy,k,rfl,T,dq,hw,zl,λv hv=>?_);nofun;ac_rfl;rw[getD_at es]at hv;refine Gv Lf hD aat O1 hv λb2 S=>?_;refine L2.aQ h3 ?_;clear h3 hv;refine L2.aX λx h4=>?_;walk_at "r";refine bT ?_;walk_at "r";refine fH false false _ _ (Sq.t R) (Sq.t S) (λD3 zZ=>?_);have x:(fq a.ms.length (cL a.ms.length (L.take i)) (some ((m),g-1))).length=a.ms.length:=Ay ME _;have x:(fq a.ms.length (cL a.ms.length (L.take i)) s).length=a.ms.length:=Ay ME _;have ehr:ui a.ms.length (cL a.ms.length (L.take i)) ((((m),g)),s)=(List.zipWith max (fq a.ms.length (cL a.ms.length (L.take i)) (some ((m),g-1))) (fq a.ms.length (cL a.ms.length (L.take i)) s)).set m.toNat g:=rfl;generalize fq a.ms.length (cL a.ms.length (L.take i)) (some ((m),g-1))=u at *;generalize fq a.ms.length (cL a.ms.length (L.take i)) s=B at *;refine bF (J:=Xp false false K b1 b2) (n:=a.ms.length) (λi ys H'=>av J1 H'/\ys=((List.zipWith max u B).take i).map V.int) (U' (aG ())) (av.new _ zZ,rfl) ?_ ?_ ?_ ?_
  ·rintro i ys H' X ⟨N,_⟩;exact(_,_,_,_,Sq.t (N _ _ R),Sq.t (N _ _ S),by rw[J',bu (d:=0) ()];rfl,by rw[J',bu (d:=0) ()];rfl)
  ·rintro ys H' ⟨N,_⟩;exact(_,_,Sq.t (N _ _ R),Sq.t (N _ _ S),.inl (by simp;lia))
  ·intro i ys H' X O hl yd xx H4' B3;nofun;let(N,rfl):=yd;let(t',ZO,rfl,y):=B3;let(x1,x2,Z1,Z2,rfl):=y _ _ (Sq.t (N _ _ R)) (Sq.t (N _ _ S));rw[J',bu (d:=0) ()] at Z1 Z2;obtain rfl:=Option.some.inj Z1;obtain rfl:=Option.some.inj Z2;ac_rfl;have Y:=av.new (.tup [.int (u.getD i 0),.int (B.getD i 0)]) ZO;have rB:upd H' t' (.tup [.int (u.getD i 0),.int (B.getD i 0)]) t'=some (.tup [.int (u.getD i 0),.int (B.getD i 0)]):=af;calc wD (bI.of rB) (Ext.set (Ext.set (Ext.refl _) rfl) rfl,?_);walk_at "r"
   try rw[if_pos trivial]
   calc cD (Y _ _ O) hl X (U' (aG ())) (λc o e=>by rw[ay (au e zZ)];calc Y _ _ (N _ _ e),?_);rw[abE,List.getElem?_zipWith,bu (l:=u) (d:=0) (),bu (l:=B) (d:=0) (),aay];show _++[V.int (if B.getD i 0 > u.getD i 0 then B.getD i 0 else u.getD i 0)]=_++[V.int (max (u.getD i 0) (B.getD i 0))]
   congr 3;split<;>lia
  rintro ys H9 O O0 ⟨s9,rfl⟩;rw[abw (by simp;lia)]at O;calc L2.aQ h4 ?_;clear h4 O0;walk_at "r";have l:=s9 _ _ O1;have l:m.toNat<a.ms.length:=by lia
  calc(_,m.toNat,O,by rw[show m=((m.toNat:Nat):Int) by lia];calc lJ (by simp;lia),.inl (_,aV.of af,λtv htv=>(Cq,λtk Vo=>?_)));have w2:av J1 (upd H9 D3 (.lst (((List.zipWith max u B).map V.int).set m.toNat (.int g)))):=λb o e=>by rw[ay (au e zZ)];exact s9 _ _ e
  generalize hJ2:upd H9 D3 (.lst (((List.zipWith max u B).map V.int).set m.toNat (.int g)))=J2 at *;have w3:=av.new (.tup (((List.zipWith max u B).map V.int).set m.toNat (.int g))) htv;have etv:upd J2 tv (.tup (((List.zipWith max u B).map V.int).set m.toNat (.int g))) tv=some (.tup ((ui a.ms.length (cL a.ms.length (L.take i)) ((((m),g)),s)).map V.int)):=by rw[af,ehr,List.map_set]
  generalize hJ3:upd J2 tv (.tup (((List.zipWith max u B).map V.int).set m.toNat (.int g)))=J3 at *;have w4:=av.new (.tup [.int m,.int g]) Vo;have etk:upd J3 tk (.tup [.int m,.int g]) tk=some (.tup ((kE ((m),g)).map kV)):=af;have aav:=w4 _ _ etv;have Wi:av H' (upd J3 tk (.tup [.int m,.int g])):=u1.trans (w2.trans (w3.trans w4));generalize hJ4:upd J3 tk (.tup [.int m,.int g])=J4 at *;have a:=Wi _ _ Ld;have i:∀b o,G2 b=some o->b≠M:=λb o e=>au e Z;have l:aL.length<sizeLine:=by
   have u:=Paired.length pL;have u:=congrArg List.length D9;rw[aau,aau,abg]at u;rw[abe];lia
  refine(M,_,rfl,pZ.t (k:=kE ((m),g)) (v:=.ref tv) a etk l,(_,_,_,_,_,_,_,rfl,rfl,rfl,rfl,rfl,rfl,rfl),λb o e=>?_,?_,?_,_,af,?_)
  ·rw[ay (i b o e)];exact Wi _ _ (fi _ _ e)
  ·rw[ay nls];exact Wi _ _ aar
  ·exact U3.aM λb ys e=>by rw[ay (gK (Wi _ _ e) a (λz=>nomatch z))];exact Wi _ _ e
  ·rw[QW,uj];calc fK.put ?_ (by rw[D9];calc U4) (by rw[ay (gK aav a (λz=>nomatch z))];calc aav);exact Paired.EJ (pL.same Wi) λq y z=>(z.1,let ⟨b,e,f⟩:=z.2;(b,e,by rw[ay (gK f a (λz=>nomatch z))];calc f))
 ·intro σ H' B4;let((z3,z4,z5,z6,z7,z8,z9,rfl),fi,aar,U3,aL,Ld,pL):=B4;walk_at "r";rw[J6,<-k7.len,aa0]at pL;exact q M aL H' (Y.trans fi) Ld pL
theorem bU.wk{F:Addr->Prop}{d:Addr}{l:V}{nt:NT}(h:bU F H d l nt r ad){w:Nat}(c:w<nt.ws.length)(k:Nat):∃aL g,H (ad 6 w)=some (.dK aL)/\fQ H (ad 6 w) (.int (k:Nat)) g/\HT H 1 (g.getD .bG) (oG ((r.ww w).fb.getD k none))/\∀e,(r.ww w).fb.getD k none=some e->∃a,g=some (.ref a)/\H a=some (.tup [.int e.1,.int e.2]):=by
 let(f,g,l):=h.cI.dct (t:=6) (i:=w) c rfl;have b:=l.2 (k:Int);have h:kd (r.ww w).fb (k:Int)=((r.ww w).fb.getD k none).map pairD:=by unfold kd;rw[if_pos (),aaX]
 rw[h]at b;refine(f,dW f (.inl (k:Int)),g,fQ.k (k:=.inl (k:Int)) g,?_)
 cases c:(r.ww w).fb.getD k none with
 |none=>
  rw[c]at b;have b:dW f (.inl (k:Int))=none:=b;rw[b];calc(.bG,λe z=>by cases z)
 |some e=>
  rw[c]at b;let(v,m,n):=(show ∃v,dW f (.inl (k:Int))=some v/\HD _ 4 v (pairD e) from b)
  rw[m];let(a,rfl,j):=sE (e:=e) (n.cv d7);calc(di j (.int _) (.int _),λb z=>by cases z;calc(a,rfl,j))
theorem AB{S:List Ev}(h:ks.map (·.1)=S.map kE)(p:Ev)(v:V):(putK ks (kE p) v).map (·.1)=(kj S p).map kE:=by
 have e:((ks.any λb=>decide (b.1=kE p))=true)↔p∈S:=by
  rw[List.any_eq_true];constructor
  ·rintro⟨x,b,e⟩;have:x.1∈ks.map (·.1):=List.mem_map.mpr (x,b,rfl);rw[h,aa1 e]at this;let(y,c,e):=List.mem_map.mp this;rw[<-uh e];exact c
  ·intro a;have:kE p ∈ ks.map (·.1):=by rw[h];exact List.mem_map.mpr (p,a,rfl)
   let(x,b,e):=List.mem_map.mp this;exact(x,b,aaL e)
 unfold putK kj;by_cases a:p∈S
 ·rw[if_pos a,if_pos (e.mpr a),<-h,List.map_map];exact List.map_congr_left λx _=>by
   show(if x.1=kE p then((x.1),v) else x).1=x.1;split<;>rfl
 ·rw[if_neg a,if_neg (λz=>a (e.mp z)),aay,aay,h];rfl
theorem uS:∀{a ks:List (List Key×V)}{S T:List Ev},ks.map (·.1)=S.map kE->a.map (·.1)=T.map kE->(ly ks a).map (·.1)=(T.foldl kj S).map kE
 | [],ks,S,T,c,b=>by
  have:T=[]:=List.map_eq_nil_iff.mp b.symm;subst this;calc c
 |q::a,ks,S,T,c,b=>by
  cases T with
  |nil=>cases b
  |cons p T=>
   rw[aaU,aaU]at b;injection b with b h3
   show(ly (putK ks q.1 q.2) a).map (·.1)=(T.foldl kj (kj S p)).map kE;calc uS (by rw[b];calc AB c p q.2) h3
structure Ew(S:List Ev):Prop where
 nd:S.Nodup
 «in»:∀p∈S,p∈kh
theorem Lh{α:Type} [BEq α] [LawfulBEq α]:∀{l m:List α},l.Nodup->(∀x∈l,x∈m)->l.length<=m.length
 | [],m,_,_=>aaO _
 |a::l,m,h,g=>by
  rw[List.nodup_cons]at h;have b:=g a aaY;have:=Lh (l:=l) (m:=m.erase a) h.2 λx c=>(List.mem_erase_of_ne (show x≠a from λz=>h.1 (by rw[<-z];calc c))).mpr (g x (aaD _ c));have d:=List.length_pos_of_mem b;rw[List.length_erase_of_mem b]at this;rw[abf];lia
theorem Ew.len{S:List Ev}(h:Ew S):S.length<=205:=Lh h.nd h.in
theorem Ew.sz{S T:List Ev}(h:Ew S)(g:Ew T){ks c:List (List Key×V)}(e:ks.map (·.1)=S.map kE)(f:c.map (·.1)=T.map kE):ks.length+c.length<=sizeLine:=by
 have a:=congrArg List.length e;have b:=congrArg List.length f;rw[aau,aau]at a b;have:=h.len;have:=g.len;rw[abe];lia
theorem Ew.add{S:List Ev}(h:Ew S){p:Ev}(a:p∈kh):Ew (kj S p):=(yb h.nd,λq b=>(pw.mp b).elim (h.in q) λz=>by rw[z];calc a)
theorem Ew.all{S T:List Ev}(h:Ew S)(g:Ew T):Ew (T.foldl kj S):=(qi h.nd,λq a=>(nk.mp a).elim (h.in q) (g.in q))
theorem VA.evs{n:Nat}{L:Lg}{e:Ev}{S:List Ev}(h:VA n L e R S)(c:n<=5)(d:L.length<=40):Ew S:=(h.nd,λp c=>by
 have a:=(h.mem p.1 p.2).mp (.inl c);have b:=h.pos p.1.toNat ()
 have c:gV L ((p.1.toNat:Nat):Int)<=L.length:=List.length_filter_le _ _;calc DE () () () ())
def kY(H:Hp)(a:Addr)(aL:List (List Key×V))(A:List (Ev×List Ev)):Prop:=Paired (λ(q:List Key×V) (x:Ev×List Ev)=>q.1=kE x.1/\∃b ks,q.2=.ref b/\b≠a/\H b=some (.dT ks)/\ks.map (·.1)=x.2.map kE) aL A
theorem kY.keep{A:List (Ev×List Ev)}(h:kY H a aL A)(s:∀b ks,b≠a->H b=some (.dT ks)->H' b=some (.dT ks)):kY H' a aL A:=Paired.EJ h λ_ _ z=>(z.1,let ⟨b,ks,e,n,f,g⟩:=z.2;(b,ks,e,n,s b ks n f,g))
theorem kY.same{A:List (Ev×List Ev)}(h:kY H a aL A)(s:av H H'):kY H' a aL A:=h.keep λ_ _ _ e=>s _ _ e
theorem kY.keys{H:Hp}{a:Addr}{aL:List (List Key×V)}{A:List (Ev×List Ev)}(h:kY H a aL A):aL.map (·.1)=(A.map (·.1)).map kE:=by
 induction h with
 |nil=>rfl
 |cons h _ b=>rw[aaU,aaU,aaU,b,h.1]
theorem kY.val{H:Hp}{a:Addr}{aL:List (List Key×V)}{A:List (Ev×List Ev)}(h:kY H a aL A){p:Ev}{S:List Ev}(e:eG A p=some S):∃b ks,dW aL (kE p)=some (.ref b)/\b≠a/\H b=some (.dT ks)/\ks.map (·.1)=S.map kE:=by
 induction h with
 |nil=>cases e
 | @cons q x m c h _ g=>
  let(d,b,ks,i,j,k,l):=h;by_cases z:x.1=p
  ·have:eG (x::c) p=some x.2:=by simp[eG,List.find?_cons,z]
   rw[this]at e;obtain rfl:=Option.some.inj e;exact(b,ks,by rw[dF (d.trans (by rw[z])),i],j,k,l)
  ·have i:eG (x::c) p=eG c p:=by simp[eG,List.find?_cons,z]
   rw[i]at e;rw[dG (λy=>z (uh (d.symm.trans y)))];calc g e
theorem kY.put{A:List (Ev×List Ev)}(h:kY H a aL A){p:Ev}(c:p∉A.map (·.1)){S:List Ev}{b:Addr}{ks:List (List Key×V)}(n:b≠a)(e:H b=some (.dT ks))(g:ks.map (·.1)=S.map kE):kY H a (putK aL (kE p) (.ref b)) (A++[((p),S)]):=by
 have:¬(aL.any λd=>decide (d.1=kE p))=true:=by
  rw[List.any_eq_true];rintro⟨x,d,e⟩;have:x.1∈aL.map (·.1):=List.mem_map.mpr (x,d,rfl);rw[h.keys,aa1 e]at this;let(y,f,e):=List.mem_map.mp this;exact c (by rw[<-uh e];calc f)
 unfold putK;rw[if_neg this];calc Paired.snoc h (rfl,b,ks,rfl,n,e,g)
def Cr(H:Hp)(AN:List (Key×V))(L:Lg):Prop:=∀m:Int,(gV L m=0/\dW AN (.inl m)=none)\/∃b,dW AN (.inl m)=some (.ref b)/\gV L m≠0/\H b=some (.tup [.int m,.int (gV L m:Nat)])
theorem Cr.get{L:Lg}(h:Cr H AN L){e:Ev}(a:e.2=gV L e.1+1):HT H 1 ((dW AN (.inl e.1)).getD .bG) (oG (dM e)):=by
 rcases h e.1 with⟨a,c⟩|⟨b,a,c,d⟩
 ·rw[c,show dM e=none by unfold dM;rw[if_pos ()]];exact .bG
 ·rw[a,show dM e=some ((e.1),((gV L e.1:Nat):Int)) by unfold dM;rw[if_neg (),show e.2-1=((gV L e.1:Nat):Int) by lia]];calc di d (.int _) (.int _)
theorem Cr.put{L:Lg}(h:Cr H AN L)(t:cw H H'){e:Ev}{s:Option Ev}(c:e.2=gV L e.1+1){b:Addr}(a:H' b=some (.tup [.int e.1,.int e.2])):Cr H' (putK AN (.inl e.1) (.ref b)) (L++[((e),s)]):=λm=>by
 rw[j0];by_cases q:e.1=m
 ·subst q;rw[if_pos rfl];exact .inr (b,by rw[sY,if_pos rfl],(),by rw[show((gV L e.1+1:Nat):Int)=e.2 by lia];calc a)
 ·rw[if_neg q,Nat.add_zero,sY,if_neg (λz=>q (Sum.inl.inj z).symm)];calc(h m).imp id λ⟨b,a,c,d⟩=>(b,a,c,t _ _ d)
abbrev lX:Stmt:=top 80
inductive Li(vs:List V)(H:Hp)(Q:VK):Prop
 |mk (F:Addr->Prop) (d:Addr) (tn:V) (nt:NT) (r:RS) (ad:Nat->Nat->Addr) (L:Lg) (h0:vs=[.ref d]) (h1:bU F H d tn nt r ad) (h2:r.Ok nt) (h3:r.Lk nt L) (h4:L.length<=40) (q:∀a aL H',av H H'->H a=none->H' a=some (.dT aL)->kY H' a aL (cF L)->Q (.ref a) H'):Li vs H Q
def yu:Sp:=λvs H Q _=>Li vs H Q
theorem AD(D:cV K mg "_law_ahead" "_law_ahead" lX g8)(T:Tx K mg C CN CR F FD):Def P w K mg base "_law_ahead" 1 g8 yu:=by
 exists["_law_run","_law_found","_law_last","_law_way","_law_number","_law_event","_law_mine","_law_one"];let(F,d,tn,nt,r,ad,L,rfl,hT,dq,k7,jG,q):=h;have N:=hr.units;have mP:=PV N;refine(_,(ai (aT (i:=1) sc rfl Sort (sZ))
  (ai (aT (i:=2) sc rfl Sort (yZ))
  (ai (fc PassesOwn.never rfl (cj (ak N (aq 0) aD)) (fu (i:=3) (j:=4) rfl sc rfl rfl Sort Sort)
  (ai (aT (i:=5) sc rfl Sort (j8 mP (ak N (ak N (aq 0) aD) (aq 3)) (aq 4) (gM rfl)))
  (ai (aT (i:=6) sc rfl Sort (sZ))
  (ai (fc PassesOwn.never rfl (cj (bH (ag (Ih mP (aq 2) (ak N (aq 5) aj) (rfl,rfl,rfl,rfl)) (ag (ak N (ak N (ak N (aq 0) aD) (aq 3)) (aq 4)) aa)))) (bg (i:=7) sc rfl Sort)
  (ao (aY (aC p8 (aq 7) k8 (aI _)) (ai (bR (dg Wv PySem.F.slot_dict_update PySem.F.type_dict_update (NZ mP) (aq 6) (ag (j8 mP (aq 1) (aq 7) (gM rfl)) aa)))
  (ao (gF mP (aq 6) (aq 7) kR rfl))) aJ)))
  (ai (gF mP (aq 1) (aq 5) (aq 6) rfl)
  (ao (gF mP (aq 2) (ak N (aq 5) aj) (aq 5) rfl)))))))
  (ao (aH (aq 1)))))),?_)
 nofun;let(o',hd,nF,nP,mD):=hT.dk;have l6:=(mD 6 ∅ ∅).1;have l5:=(mD 5 ∅ ∅).1;let(v0,e0,d0):=hT.cI.lst (t:=0) (i:=0) (by show 0<1;decide) rfl;ac_rfl;have z0:v0.length=r.picks.length:=by simpa using d0.1
 have aW:=hT.ok;walk_at "r";intro g Wj u ZQ;have s1:av H (upd (upd H g (.dT [])) u (.dK [])):=(av.new _ Wj).trans (av.new _ ZQ);have nfl:g≠u:=au af ZQ;have efa:upd (upd H g (.dT [])) u (.dK []) g=some (.dT []):=by rw[ay nfl];exact af
 have ela:upd (upd H g (.dT [])) u (.dK []) u=some (.dK []):=af;have afY:H u=none:=(av.new (.dT []) Wj).free ZQ;generalize hG:upd (upd H g (.dT [])) u (.dK [])=G at *;walk_at "r";refine(_,UD (s1 _ _ hd),.inl ((_,aV.of (s1 _ _ e0)),fw (K:=K) (xs:=v0) (λi σ H'=>(∃z3 z4 z5 z6 z7,σ=[some (V.ref d),some (V.ref g),some (V.ref u),z3,z4,z5,z6,z7])/\av H H'/\∃aL AN,H' g=some (.dT aL)/\kY H' g aL (cF (L.take i))/\H' u=some (.dK AN)/\Cr H' AN (L.take i)/\AN.length<=i) ?_ ?_ ?_ ?_))
 ·exact((_,_,_,_,_,rfl),s1,[],[],efa,Paired.nil,ela,λm=>.inl (rfl,rfl),S' _)
 ·rintro i σ H' hi ⟨_,I,_⟩;exact aV.of (I _ _ e0)
 ·intro i z σ H' hz jl;nofun;let((z3,z4,z5,z6,z7,rfl),I,aL,AN,Ld,hA,O,hL,wN):=jl;have uY:i < r.picks.length:=by rw[<-z0];exact(List.getElem?_eq_some_iff.mp hz).1
  let(wy,k,e,s,ep,eL,ew,es,hw):=k7.at i _ (cT uY);have hzp:=d0.2 i z (pairD r.picks[i]) hz (by rw[J',cT uY];rfl);rw[ep]at hzp;let(ta,rfl,vE):=uQ (An (e:=some (((wy:Int)),(k:Int))) (hzp.cv d7));ac_rfl;refine wD (bI.of (I _ _ vE)) ?_;refine L2.aX λN2 h2=>?_;walk_at "r";refine bQ _ (UC (I _ _ hd)) ?_;walk_at "r";refine bC (I _ _ l6) (bt hw) ?_;nofun;let(QM,ov,g1,g2,g3,g4):=(hT.same I).wk hw k;let(te,rfl,Qy):=g4 e (getD_at ew);ac_rfl;refine dC _ _ rfl g2 ?_;refine L2.aQ h2 ?_;clear h2 g1 g2 g3 g4;let(m,c):=e;walk_at "r";intro l F9;have Z:=av.new (.dT []) F9;have emi:upd H' l (.dT []) l=some (.dT []):=af;have U:l≠g:=Ne.symm (au Ld F9);have nml:l≠u:=Ne.symm (au O F9);have afZ:H l=none:=I.free F9;have aaw:=Z _ _ Ld;have U5:=Z _ _ O;have hA2:=hA.same Z;have Ur:Cr (upd H' l (.dT [])) AN (L.take i):=λm=>(hL m).imp id λ⟨b,x1,x2,x3⟩=>(b,x1,x2,Z _ _ x3)
  have O2:=Z _ _ Qy;have sj:av H (upd H' l (.dT [])):=I.trans Z;nofun;generalize hJ:upd H' l (.dT [])=J at *;clear Ld O hL Qy I;have QW:L.take (i+1)=L.take i++[((((m),c)),s)]:=by rw[abt,eL];rfl
  have hgi:=k7.good.take (i+1);rw[QW]at hgi;let(ME,Mg,FW,Vm,U4,F4):=hgi.inv;ac_rfl;have aax:(L.take i).length<=40:=aaS (by rw[abg];lia) jG;calc(u,rfl,.inl (_,.inl U5),da O2 (aA (j:=0) rfl) (_,fQ.k (k:=.inl m) U5,?_));nofun;let(v5,e5,d5):=(hT.same sj).cI.lst (t:=5) (i:=wy) hw rfl;let(u5,eu5,du5):=d5.get (i:=k) (d:=oG s) (by rw[J',es];rfl);ac_rfl;calc(_,KC (sj _ _ hd),bC (sj _ _ l5) (bt hw) (bC e5 (aA eu5) (Cq,λlt kZ=>?_)));have hv1:=Ur.get (e:=((m),c)) Vm;have hv2:=An (du5.cv d7);generalize (dW AN (.inl ((m),c).1)).getD .bG=v1 at *;have B:=av.new (.lst [v1,u5]) kZ;have elt:upd J lt (.lst [v1,u5]) lt=some (.lst [v1,u5]):=af;have Mh:∀q,dM ((m),c)=some q->q∈(L.take i).map (·.1):=λq e=>by
   unfold dM at e;split at e
   ·cases e
   ·rename_i hc1
    cases e;have Vq:¬c<=1:=hc1;have hc3:c=gV (L.take i) m+1:=Vm;exact(ME.mem m (c-1)).mpr (Mg,FW,(),())
  have ho:∀(j:Nat) x o,[v1,u5][j]?=some x->[dM ((m),c),s][j]?=some o->HT (upd J lt (.lst [v1,u5])) 1 x (oG o)/\∀p,o=some p->p∈(L.take i).map (·.1):=λj x o e1 e2=>by
   match j,e1,e2 with
   |0,e1,e2=>cases e1;cases e2;calc(hv1.aM B.aU,Mh)
   |1,e1,e2=>cases e1;cases e2;calc(hv2.aM B.aU,F4)
   |j+2,e1,e2=>simp at e1
  have Lj:=B _ _ emi;have nmt:lt≠l:=gK elt Lj (λz=>nomatch z);generalize hJ2:upd J lt (.lst [v1,u5])=J2 at *;refine .inl ⟨(_,aV.of elt),fw (K:=K) (xs:=[v1,u5]) (λj σ H'=>(∃z7,σ=[some (V.ref d),some (V.ref g),some (V.ref u),some (V.int wy),some (V.int k),some (V.ref te),some (V.ref l),z7])/\(∀b o,b≠l->J2 b=some o->H' b=some o)/\∃ks,H' l=some (.dT ks)/\ks.map (·.1)=(([dM ((m),c),s].take j).foldl (iB (cF (L.take i))) []).map kE/\Ew (([dM ((m),c),s].take j).foldl (iB (cF (L.take i))) [])) ?_ ?_ ?_ ?_⟩
  ·exact((_,rfl),λb o _ e=>e,[],Lj,rfl,(List.nodup_nil,λp hp=>by cases hp))
  ·rintro j σ H2 hj ⟨_,y,_⟩;exact aV.of (y _ _ nmt elt)
  ·intro j x σ H2 hx jm;nofun;let((z7,rfl),y,ks,M,U6,hS):=jm;have hj:j < 2:=(List.getElem?_eq_some_iff.mp hx).1;obtain⟨o,eo⟩:∃o,[dM ((m),c),s][j]?=some o:=([dM ((m),c),s][j],cT hj)
   let(hxo,hop):=ho j x o hx eo;ac_rfl;have etk:[dM ((m),c),s].take (j+1)=[dM ((m),c),s].take j++[o]:=by rw[abt,eo];rfl
   cases o with
   |none=>
    have:x=.bG:=by cases(show HT J2 1 x .bG from hxo);rfl
    subst this;walk_at "r"
    try rw[if_neg ∅]
    walk_at "r";rw[etk,List.foldl_append];exact((_,rfl),y,ks,M,U6,hS)
   |some p=>
    nofun;let(xa,rfl,VM):=uQ (show HT J2 1 x (pairD p) from hxo);have hxm:xa≠l:=gK VM Lj (λz=>nomatch z);have aaz:=y _ _ hxm VM;have vK:=y _ _ (Ne.symm U) (B _ _ aaw);have aaA:=hop p rfl;let(R,S,_,r2,kn):=ME.all.2.2 p aaA;have W:=VA.evs kn aW.Ta aax;have uk:=ME.evs aW.Ta aax aaA;let(b,ks2,y1,y2,y3,y4):=hA.val r2;ac_rfl;have nbm:b≠l:=au y3 F9;have y3':H2 b=some (.dT ks2):=y _ _ nbm (B _ _ (Z _ _ y3));walk_at "r"
    try rw[if_pos ∅]
    walk_at "r";have em:iB (cF (L.take i)) (([dM ((m),c),s].take j).foldl (iB (cF (L.take i))) []) (some p)=kj (S.foldl kj (([dM ((m),c),s].take j).foldl (iB (cF (L.take i))) [])) p:=by simp[iB,r2]
    rw[etk,List.foldl_append];show W3 K "dict" _ _/\_;rw[List.foldl_cons,List.foldl_nil,em];generalize ([dM ((m),c),s].take j).foldl (iB (cF (L.take i))) []=S0 at *;have km:=uS U6 y4;have h1:=hS.all W;have kl:(ly ks ks2).length<sizeLine:=by
     have a:=congrArg List.length km;rw[aau,aau]at a;have:=h1.len;rw[abe];lia
    calc(Lc M,g,.ref b,rfl,by rw[<-y1];calc .t (k:=kE p) vK aaz,l,b,ks,ks2,rfl,rfl,Ne.symm nbm,M,.inl y3',hS.sz W U6 y4,λ_=>FG y4 W.nd W.in,?_);exact(l,_,rfl,pZ.t (k:=kE p) (v:=.bl true) af (by rw[ay hxm];calc aaz) kl,(_,rfl),λb' o' n e=>by rw[ay n,ay n];calc y _ _ n e,_,af,AB km p _,h1.add uk)
  ·intro σ H2 qt;let((z7,rfl),y,ks,M,U6,hS):=qt;have U6:ks.map (·.1)=(qh (cF (L.take i)) ((((m),c)),s)).map kE:=U6;walk_at "r";have vK:=y _ _ (Ne.symm U) (B _ _ aaw);have U7:=y _ _ (Ne.symm nml) (B _ _ U5);have U8:=y _ _ (gK (B _ _ O2) Lj (λz=>nomatch z)) (B _ _ O2);have kl:aL.length<sizeLine:=by
    have e1:=Paired.length hA;have e2:=congrArg List.length ME.all.2.1;rw[aau,aau]at e2;rw[abe];lia
   have ll:AN.length<sizeLine:=by have:=k7.len;rw[abe];lia
   have ntf:te≠g:=gK U8 vK (λz=>nomatch z);have tp:∀{b ys X Y},J b=some (.tup ys)->upd (upd H2 g X) u Y b=some (.tup ys):=λ{b ys X Y} e=>by
    have e4:=y _ _ (gK (B _ _ e) Lj (λz=>nomatch z)) (B _ _ e);rw[ay (gK e4 U7 (λz=>nomatch z)),ay (gK e4 vK (λz=>nomatch z))];exact e4
   have dt:∀{b ys X Y},b≠g->H2 b=some (.dT ys)->upd (upd H2 g X) u Y b=some (.dT ys):=λ{b ys X Y} n e=>by
    rw[ay (gK e U7 (λz=>nomatch z)),ay n];exact e
   refine(g,_,rfl,pZ.t (k:=kE ((m),c)) (v:=.ref l) vK U8 kl,_,_,.inr (bI.of (by rw[ay ntf];calc U8)),aA (j:=0) rfl,u,_,rfl,pZ.k (k:=.inl m) (v:=.ref te) (by rw[ay (Ne.symm nfl)];calc U7) ll,(_,_,_,_,_,rfl,rfl,rfl,rfl,rfl),λb o e=>?_,_,_,by rw[ay nfl];calc af,?_,af,?_,aaS (jb _ _ _) (Nat.succ_le_succ wN))
   ·rw[ay (au e afY),ay (au e Wj)];exact y _ _ (au e afZ) (B _ _ (sj _ _ e))
   ·rw[QW,rz];exact kY.put (hA.keep λb ys n e=>dt n (y _ _ (au e F9) (B _ _ (Z _ _ e)))) (by rw[ME.all.2.1];calc U4) U (dt U M) U6
   ·rw[QW];exact Ur.put (λb ys e=>tp e) Vm (tp O2)
 ·intro σ H' yd;let((z3,z4,z5,z6,z7,rfl),I,aL,AN,Ld,hA,O,hL,wN):=yd;walk_at "r";rw[z0,<-k7.len,aa0]at hA;exact q g aL H' I Wj Ld hA
def AE(nt:NT)(r:RS)(m c:Int):Prop:=0<=m/\m<nt.ms.length/\1<=c/\c<((r.mm m.toNat).fm.length:Nat)
theorem AF{nt:NT}{L:Lg}(h:r.Lk nt L)(e:Ev):AE nt r e.1 e.2↔e∈L.map (·.1):=by
 calc Iff.trans ?_ (h.good.mem e.1 e.2).symm;unfold AE;constructor
 ·rintro⟨a,b,c,d⟩;have g:=h.cnt e.1.toNat ()
  rw[show((e.1.toNat:Nat):Int)=e.1 by lia]at g;exact(a,b,c,())
 ·rintro⟨a,b,c,d⟩;have g:=h.cnt e.1.toNat ()
  rw[show((e.1.toNat:Nat):Int)=e.1 by lia]at g;calc(a,b,c,())
noncomputable def Cs(L:Lg)(e o:Ev):Str:=if e=o then "same" else if e∈(eG (cF L) o).getD [] then "ahead" else if o∈(eG (cF L) e).getD [] then "behind" else "beside"
theorem QX{n:Nat}{L:Lg}{e o:Ev}{S:List Ev}(h:VA n L o R S)(a:e≠o)(b:0<=e.1)(c:e.1<n)(d:1<=e.2):decide (e.2<=R.getD e.1.toNat 0)=decide (e∈S):=by
 have:=h.mem e.1 e.2;calc decide_eq_decide.mpr (λz=>?_,λz=>(this.mp (.inl z)).2.2.2);calc(this.mpr (b,c,d,z)).elim id λq=>absurd q a
theorem Ll{n:Nat}(a:R.length=n){m:Int}(b:0<=m)(c:m<n):iZ (R.map V.int) m=some (.int (R.getD m.toNat 0)):=by
 have:=aA (xs:=R.map V.int) (j:=m.toNat) (v:=.int (R.getD m.toNat 0)) (by rw[J',bu (d:=0) ()];rfl);rwa [show((m.toNat:Nat):Int)=m by lia]at this
theorem Lm{K:W.Frag}{H:Hp}{a c:Addr}{e o:Ev}(f:H a=some (.tup [.int e.1,.int e.2]))(g:H c=some (.tup [.int o.1,.int o.2])):EqT K H 19 a c (decide (e=o)):=by
 refine(_,_,λi=>if i=0 then decide (e.1=o.1) else decide (e.2=o.2),.inl (bI.of f,bI.of g),λi u v b d=>.inr (.inl ?_),?_)
 ·match i with
  |0=>cases b;cases d;calc(rfl,rfl,rfl)
  |1=>cases b;cases d;calc(rfl,rfl,rfl)
  |i+2=>simp at b
 ·show _=((List.range 2).all _ && true)
  rw[Bool.and_true,show List.range 2=[0,1] from rfl];simp only[List.all_cons,List.all_nil,if_true,Nat.one_ne_zero,if_false,Bool.and_true];rw[<-Bool.decide_and];calc decide_eq_decide.mpr (λz=>by rw[z];calc(rfl,rfl),λz=>Prod.ext z.1 z.2)
abbrev kG:Stmt:=top 27
def Ct(C CN CR:Addr)(c:Nat->Addr):Sp:=λvs H Q E=>∃(F:Addr->Prop) (x d:Addr) (nt:NT) (r:RS) (ad:Nat->Nat->Addr) (m b:Int),vs=[.ref x,.int m,.int b]/\bW C CN CR F H x d nt r ad/\r.Ok nt/\(AE nt r m b->∀H',av H H'->Q .bG H')/\(¬AE nt r m b->∀a H',av H H'->H' a=some (XO a (c 7) none false)->E (.ref a) none H')
theorem yw(D:cV K mg "need_event" "need_event" kG eg)(T:Tx K mg C CN CR F FD)(p:PU K mg B c)(y:Def P w K mg base "is_within" 2 aP cf)(L:cy P w K mg base CN "machines" 1 bY (gc CN))(M:cy P w K mg base CR "count" 4 bh (Kq C CN CR))(N:cy P w K mg base CR "net" 1 bY (yl C CN CR)):DefX P w K mg base "need_event" 5 eg (Ct C CN CR c):=by
 have o:aE eg eg (az kG):=by walk_at "s"
 refine D.XH o (λO H Q E h=>?_) (λf X A o s H O Q E d h=>?_)
 ·let(F,x,g,b,r,ad,m,e,rfl,i,I,q,t):=h;rfl
 ·let(F,x,g,b,r,ad,m,e,rfl,i,I,q,t):=h;have o:=d.units;refine(_,(ao (aY (PW.pt (pw_or (cC (bN (aN y d (ag (aq 1) (ag aj (ag (bf aO rfl T.bV X' (ag (ft L T.cR d (ft N T.bb d (aq 0))) aa)) aa)))))) (pw_or1 (cC (bN (aN y d (ag (aq 2) (ag aj (ag (aR cE (fz M T.bb d (aq 0) (ag (aq 1) aa)) aj) aa))))))))) (ao (Jj rfl NG (Xn p.wB (ag aD aa)))) aJ)),?_);nofun;let(R,o,S,h):=i.ins;let((ms,wv,lv,J,U,d,h),o):=i.OE;ac_rfl;walk_at "r";refine(x,R,_,rfl,S,gh ⋯,F,x,g,b,r,ad,rfl,i,?_);have o:=J;let(d,_,_,_,h,_):=o;refine(g,d,_,rfl,h,by rfl,g,ms,wv,lv,rfl,J,λl y=>?_);have n:=av.new (.lst (ms.map V.ref)) y;have W:upd H l (.lst (ms.map V.ref)) l=some (.lst (ms.map V.ref)):=af;generalize Y:upd H l (.lst (ms.map V.ref))=G at *;refine(_,.inl (_,aV.of W,rfl),.int m,_,0,_,rfl,.int _,?_);rw[aau,U];by_cases j:0<=m/\m < ((b.ms.length:Nat):Int)
  ·rw[show inR 0 ((b.ms.length:Nat):Int) (.int m)=true by simp only[inR];rw[aa9,abm,abm];calc j];calc vn ?_;rw[if_neg ∅];nofun;obtain⟨k,rfl⟩:∃k:Nat,m=k:=(m.toNat,())
   have d:=i.same n;let(h,o,l,y):=d.ins;ac_rfl;calc(x,h,_,rfl,l,gh ⋯,F,x,g,b,r,ad,k,rfl,d,(),?_);calc fH (.int e) _ 1 _ rfl (.int _) ?_;have i:=I.zD (show k<b.ms.length by lia);by_cases u:1<=e/\e<(((r.mm k).fm.length:Nat):Int)
   ·rw[show inR 1 _ (.int e)=true by simp only[inR];rw[aa9,abm,abm];lia];refine vn ?_;rw[if_neg ∅];walk_at "r";exact q (j.1,j.2,u.1,u.2) G n
   ·rw[show inR 1 _ (.int e)=false by rw[<-Bool.not_eq_true];simp only[inR];rw[aa9,abm,abm];lia];refine vn ?_;rw[if_pos ∅];walk_at "r";exact zM (D:=(λ_ _=>True,λ_ _=>True,λ_ _=>True,λ_ _=>True)) (σ:=[]) (p.cl 7 ∅) λa v=>t (λz=>u (z.2.2.1,z.2.2.2)) a _ (n.trans (uo v)) af
  ·rw[show inR 0 ((b.ms.length:Nat):Int) (.int m)=false by rw[<-Bool.not_eq_true];simp only[inR];rw[aa9,abm,abm];exact j];refine vn ?_;rw[if_pos ∅];walk_at "r";exact zM (D:=(λ_ _=>True,λ_ _=>True,λ_ _=>True,λ_ _=>True)) (σ:=[]) (p.cl 7 ∅) λa v=>t (λz=>j (z.1,z.2.1)) a _ (n.trans (uo v)) af
abbrev nW:Stmt:=top 29
def Ln(C CN CR:Addr)(c:Nat->Addr):Sp:=λvs H Q E=>∃(F:Addr->Prop) (x d:Addr) (nt:NT) (r:RS) (ad:Nat->Nat->Addr) (m b:Int),vs=[.ref x,.int m,.int b]/\bW C CN CR F H x d nt r ad/\r.Ok nt/\¬AE nt r m b/\(∀a H',av H H'->H' a=some (XO a (c 7) none false)->E (.ref a) none H')
theorem Cu(D:cV K mg "heard_of" "heard_of" nW eg)(T:Tx K mg C CN CR F FD)(p:PU K mg B c)(n:Def P w K mg base "all_heard" 6 ["run"] (uR C CN CR))(o:DefX P w K mg base "need_event" 5 eg (Ct C CN CR c)):DefX P w K mg base "heard_of" 7 eg (Ln C CN CR c):=by
 have a:aE eg eg (az nW):=by walk_at "s"
 refine D.XH a (λp H Q E h=>?_) (λf q A a s H p Q E b h=>?_)
 ·let(F,x,d,e,r,ad,m,g,rfl,i,j,k,l):=h;rfl
 ·let(F,x,d,e,r,ad,m,g,rfl,i,j,k,l):=h;have a:=b.units;have h:=PV a;refine(_,(ai (bR (qc o xW b (ag (aq 0) (ag (aq 1) (ag (aq 2) aa)))))
   (ao (aH (j8 h (aN n b (ag (aq 0) aa)) (bz (ag (aq 1) (ag (aq 2) aa))) (gM rfl))))),?_)
  walk_at "r";refine(F,x,d,e,r,ad,m,g,rfl,i,j,λz=>absurd z k,λ_=>l)
abbrev qK:Stmt:=top 30
inductive Lo(C CN CR:Addr)(c:Nat->Addr)(vs:List V)(H:Hp)(Q:VK)(E:XK):Prop
 |mk (F:Addr->Prop) (x bq:Addr) (nt:NT) (r:RS) (ad:Nat->Nat->Addr) (L:Lg) (a b:Addr) (e o:Ev) (h0:vs=[.ref x,.ref a,.ref b]) (h1:bW C CN CR F H x bq nt r ad) (h2:r.Ok nt) (h3:r.Lk nt L) (h4:L.length<=40) (h5:H a=some (.tup [.int e.1,.int e.2])) (h6:H b=some (.tup [.int o.1,.int o.2])) (q:e∈L.map (·.1)/\o∈L.map (·.1)->∀H',av H H'->Q (.str (Cs L e o)) H') (qe:¬(e∈L.map (·.1)/\o∈L.map (·.1))->∀a H',av H H'->H' a=some (XO a (c 7) none false)->E (.ref a) none H'):Lo C CN CR c vs H Q E
def sL(C CN CR:Addr)(c:Nat->Addr):Sp:=λvs H Q E=>Lo C CN CR c vs H Q E
theorem Gw(D:cV K mg "word_of" "word_of" qK eO)(T:Tx K mg C CN CR F FD)(I:PU K mg B c)(fO:Def P w K mg base "all_heard" 6 ["run"] (uR C CN CR))(eE:DefX P w K mg base "need_event" 5 eg (Ct C CN CR c)):DefX P w K mg base "word_of" 7 eO (sL C CN CR c):=by
 have sc:aE ["run","event","other","m","c","other_m","other_c","heard"] eO (az qK):=by walk_at "s"
 refine D.XH sc (λvs H Q E h=>?_) (λf fF A outer s H vs Q E hr h=>?_)
 ·let(F,x,O,G,r,ad,L,a,b,e,o,rfl,m,S,k,jG,U,W,q,X):=h;rfl
 ·let(F,x,O,G,r,ad,L,a,b,e,o,rfl,m,S,k,jG,U,W,q,X):=h;have I:=hr.units;have T:=PV I;refine(_,(ai (eP (aq 1) (fu (i:=3) (j:=4) rfl sc.nd rfl rfl Sort Sort))
   (ai (eP (aq 2) (fu (i:=5) (j:=6) rfl sc.nd rfl rfl Sort Sort))
   (ai (bR (qc eE xW hr (ag (aq 0) (ag (aq 3) (ag (aq 4) aa)))))
   (ai (bR (qc eE xW hr (ag (aq 0) (ag (aq 5) (ag (aq 6) aa)))))
   (ai (aY (aC (x6 I) (aq 1) (aq 2) (aI _)) (ao (aH aD)) aJ)
   (ai (aT (i:=7) sc.nd rfl Sort (aN fO hr (ag (aq 0) aa)))
   (ai (aY (aC BB (ak I (j8 T (aq 7) (aq 2) (gM rfl)) (aq 3)) (aq 4) (aI _)) (ao (aH aD)) aJ)
   (ai (aY (aC BB (ak I (j8 T (aq 7) (aq 1) (gM rfl)) (aq 5)) (aq 6) (aI _)) (ao (aH aD)) aJ)
   (ao (aH aD)))))))))),?_)
  refine L2.aX λl g=>?_;walk_at "r";refine wD (bI.of U) ?_;refine L2.aQ g ?_;clear g;refine L2.aX λl g=>?_;walk_at "r";refine wD (bI.of W) ?_;refine L2.aQ g ?_;clear g;refine L2.aX λl g=>?_;walk_at "r";refine(F,x,O,G,r,ad,e.1,e.2,rfl,m,S,λn H1 Y=>?_,λno a' H' s' ea=>X (λz=>no ((AF k e).mpr z.1)) a' H' s' ea);refine L2.aQ g ?_;clear g;refine L2.aX λl g=>?_;walk_at "r";refine(F,x,O,G,r,ad,o.1,o.2,rfl,m.same Y,S,λu H2 s2=>?_,λno a' H' s' ea=>X (λz=>no ((AF k o).mpr z.2)) a' H' (Y.trans s') ea);refine L2.aQ g ?_;clear g;have I:=(AF k e).mp n;have WD:=(AF k o).mp u;have q:=q (I,WD);clear X;have v:=Y.trans s2;nofun;let(Re,Se,re1,T,ke):=k.good.all.2.2 e I;let(Ro,So,ro1,X,ko):=k.good.all.2.2 o WD;ac_rfl;have I:Cs L e o=(if e=o then("same":Str) else if e∈So then("ahead":Str) else if o∈Se then("behind":Str) else("beside":Str)):=by unfold Cs;rw[T,X];rfl
  rw[I]at q;refine L2.aX λl g=>?_;refine L2.fE λT0 U0 J M=>?_;walk_at "r";refine(_,_,decide (e=o),rfl,rfl,Lm (v _ _ U) (v _ _ W),?_);by_cases y:e=o
  ·rw[aaL y];rw[if_pos y]at q;rw[if_pos rfl];refine L2.aQ J ?_;walk_at "r";exact q _ v
  rw[aaM y];rw[if_neg y]at q;rw[if_neg ∅];refine L2.aQ M ?_;show l _ _;refine L2.aQ g ?_;clear g J M;refine L2.aX λl g=>?_;walk_at "r";refine(F,x,O,G,r,ad,L,rfl,m.same v,S,k,jG,λd aL H3 s3 ed pL=>?_);refine L2.aQ g ?_;clear g;have N:=v.trans s3;have row:∀(p:Ev) (R:List Int),eG (cL G.ms.length L) p=some R->∃b,dW aL (kE p)=some (.ref b)/\H3 b=some (.tup (R.map V.int)):=λp R m=>by
   rcases pL.val p with⟨z,_⟩|⟨k,b,z1,z2,z3⟩
   ·rw[m]at z;cases z
   ·rw[m]at z1;cases z1;exact(b,z2,z3)
  nofun;let(bo,vo,eo):=row o Ro ro1;let(be,ve,ee):=row e Re re1;ac_rfl;have ha3:H3 a=some (.tup ((kE e).map kV)):=N _ _ U;have hb3:H3 b=some (.tup ((kE o).map kV)):=N _ _ W;clear row pL v s3 Y s2;refine L2.aX λl g=>?_;refine L2.fE λT0 U0 J M=>?_;walk_at "r";refine(d,.ref bo,rfl,by rw[<-vo];exact .t ed hb3,da eo (Ll ko.len n.1 n.2.1) ?_);walk_at "r";rw[QX ko y n.1 n.2.1 n.2.2.1];by_cases Z:e∈So
  ·rw[aaL Z];rw[if_pos Z]at q;rw[if_pos rfl];refine L2.aQ J ?_;walk_at "r";exact q _ N
  rw[aaM Z];rw[if_neg Z]at q;rw[if_neg ∅];refine L2.aQ M ?_;show l _ _;refine L2.aQ g ?_;clear g J M;walk_at "r";refine(d,.ref be,rfl,by rw[<-ve];exact .t ed ha3,da ee (Ll ke.len u.1 u.2.1) ?_);walk_at "r";rw[QX ke (Ne.symm y) u.1 u.2.1 u.2.2.1];by_cases O4:o∈Se
  ·rw[aaL O4];rw[if_pos O4]at q;rw[if_pos rfl];walk_at "r";exact q _ N
  ·rw[aaM O4];rw[if_neg O4]at q;rw[if_neg ∅];walk_at "r";exact q _ N
theorem Ex{S:List Ev}{p:Ev}(h:ks.map (·.1)=S.map kE):(dW ks (kE p)).isSome=decide (p∈S):=by
 rw[<-iy];by_cases a:p∈S
 ·rw[aaL a,List.any_eq_true];have:kE p ∈ ks.map (·.1):=by rw[h];exact List.mem_map.mpr (p,a,rfl)
  let(x,b,e):=List.mem_map.mp this;exact(x,b,aaL e)
 ·rw[aaM a,<-Bool.not_eq_true,List.any_eq_true];rintro⟨x,b,e⟩;have:x.1∈ks.map (·.1):=List.mem_map.mpr (x,b,rfl);rw[h,aa1 e]at this;let(y,c,e):=List.mem_map.mp this;calc a (by rw[<-uh e];calc c)
abbrev qL:Stmt:=top 81
inductive Lp(vs:List V)(H:Hp)(Q:VK):Prop
 |mk (d a b:Addr) (L:Lg) (e o:Ev) (n:Nat) (aL:List (List Key×V)) (h0:vs=[.ref d,.ref a,.ref b]) (h1:H d=some (.dT aL)) (h2:kY H d aL (cF L)) (h3:gm n L) (h4:H a=some (.tup [.int e.1,.int e.2])) (h5:H b=some (.tup [.int o.1,.int o.2])) (h6:e∈L.map (·.1)) (h7:o∈L.map (·.1)) (q:Q (.str (Cs L e o)) H):Lp vs H Q
def sO:Sp:=λvs H Q _=>Lp vs H Q
theorem Gx(D:cV K mg "_law_due" "_law_due" qL cx)(T:Tx K mg C CN CR F FD):Def P w K mg base "_law_due" 1 cx sO:=by
 exists cx;let(d,a,b,L,e,o,n,aL,rfl,u,v,x,y,z,G,I,q):=h;have n:=hr.units;have l:=PV n;refine(_,(ai (aY (aC (x6 n) (aq 1) (aq 2) (aI _)) (ao (aH aD)) aJ)
  (ai (aY (A8 (Ie l (aq 1) (j8 l (aq 0) (aq 2) (gM rfl)))) (ao (aH aD)) aJ)
  (ai (aY (A8 (Ie l (aq 2) (j8 l (aq 0) (aq 1) (gM rfl)))) (ao (aH aD)) aJ)
  (ao (aH aD))))),?_)
 nofun;let(l,J,_,c,n):=x.all.2.2 e G;let(l,M,_,g,n):=x.all.2.2 o I;ac_rfl;have l:Cs L e o=(if e=o then("same":Str) else if e∈M then("ahead":Str) else if o∈J then("behind":Str) else("beside":Str)):=by unfold Cs;rw[c,g];rfl
 rw[l]at q;refine L2.aX λB i=>?_;refine L2.fE λU W j k=>?_;walk_at "r";refine(_,_,decide (e=o),rfl,rfl,Lm y z,?_);nofun;let(N,l,X,_,Y,Z):=v.val g;let(O,l,ve,_,ee,me):=v.val c;ac_rfl;have R:H a=some (.tup ((kE e).map kV)):=y;have S:H b=some (.tup ((kE o).map kV)):=z;by_cases m:e=o
 ·rw[aaL m];rw[if_pos m]at q;rw[if_pos rfl];refine L2.aQ j ?_;walk_at "r";exact q
 rw[aaM m];rw[if_neg m]at q;rw[if_neg ∅];refine L2.aQ k ?_;show B _ _;refine L2.aQ i ?_;clear i j k;refine L2.aX λB i=>?_;refine L2.fE λU W j k=>?_;walk_at "r";refine(d,.ref N,rfl,by rw[<-X];exact .t u S,N,_,rfl,.t Y R,?_);rw[Ex Z];by_cases p:e∈M
 ·rw[aaL p];rw[if_pos p]at q;rw[if_pos rfl];refine L2.aQ j ?_;walk_at "r";exact q
 rw[aaM p];rw[if_neg p]at q;rw[if_neg ∅];refine L2.aQ k ?_;show B _ _;refine L2.aQ i ?_;clear i j k;walk_at "r";refine(d,.ref O,rfl,by rw[<-ve];exact .t u R,O,_,rfl,.t ee S,?_);rw[Ex me];by_cases r:o∈J
 ·rw[aaL r];rw[if_pos r]at q;rw[if_pos rfl];walk_at "r";exact q
 ·rw[aaM r];rw[if_neg r]at q;rw[if_neg ∅];walk_at "r";exact q
abbrev iO:Stmt:=top 82
inductive Lq(vs:List V)(H:Hp)(Q:VK):Prop
 |mk (F:Addr->Prop) (d:Addr) (tn:V) (nt:NT) (r:RS) (ad:Nat->Nat->Addr) (j:Int) (h0:vs=[.ref d,.int j]) (h1:bU F H d tn nt r ad) (h2:r.Ok nt) (h3:r.picks.length<=40) (q:∀a (e:Ev) H',av H H'->H' a=some (.tup [.int e.1,.int e.2])->¬AE nt r e.1 e.2->Q (.ref a) H'):Lq vs H Q
def Ey:Sp:=λvs H Q _=>Lq vs H Q
theorem uU(D:cV K mg "_law_stranger" "_law_stranger" iO hC)(T:Tx K mg C CN CR F FD):Def P w K mg base "_law_stranger" 1 hC Ey:=by
 exists["_law_own","_law_cell","_law_many","_law_m","_law_last","_law_far"];let(F,d,N,g,r,ad,j,rfl,L,dq,M,q):=h;have N:=hr.units;refine(_,(ai (aT (i:=2) sc rfl Sort (bf aO rfl T.bV X' (ag (ak N (aq 0) aD) aa)))
  (ai (aT (i:=3) sc rfl Sort (aR cp (aR c8 (aq 1) aj) (aq 2)))
  (ai (aT (i:=4) sc rfl Sort (aR dX (bf aO rfl T.bV X' (ag (ak N (ak N (aq 0) aD) (aq 3)) aa)) aj))
  (ai (aT (i:=5) sc rfl Sort (aR cp (aR c8 (aq 1) aj) (aR oO aj aj)))
  (ao (aH (ak N (bH (ag (bz (ag (aq 3) (ag aj aa))) (ag (bz (ag (aq 3) (ag (aR cE (aq 4) aj) aa))) (ag (bz (ag (aq 3) (ag (aR dX (jT gn aj) (aq 5)) aa))) (ag (bz (ag (aR cE (aq 2) (aq 5)) (ag aj aa))) (ag (bz (ag (aR dX (jT gn aj) (aq 5)) (ag aj aa))) (ag (bz (ag (aq 3) (ag (aR cE (aR cE (aq 4) aj) (aq 5)) aa))) aa))))))) (aR cp (aq 1) aj)))))))),?_)
 let(T,U,nF,nP,N):=L.dk;have W:=(N 1 ∅ ∅).1;refine L2.aX λO l=>?_;walk_at "r";refine(_,KD U,_,.inl (_,aV.of W,rfl),?_);rw[uB,show g.n 1=g.ms.length from rfl];refine L2.aQ l ?_;clear l;refine L2.aX λO l=>?_;walk_at "r";have N:=L.ok.ms1;refine gO (∅,⋯) () ?_;refine L2.aQ l ?_;clear l;obtain⟨k,N,I⟩:∃k:Nat,j/6%((g.ms.length:Nat):Int)=k/\k<g.ms.length:=by
  have a:=abi (j/6) (show((g.ms.length:Nat):Int)≠0 by lia);have b:=abc (j/6) (show(0:Int)<((g.ms.length:Nat):Int) by lia);exact((j/6%((g.ms.length:Nat):Int)).toNat,(),())
 rw[N];clear N;let(T,R,d1):=L.cI.lst (t:=1) (i:=k) I rfl;have z1:T.length=(r.mm k).fm.length:=by simpa using d1.1
 refine L2.aX λO l=>?_;walk_at "r";refine(_,KD U,bC W (bt I) (_,.inl (_,aV.of R,rfl),?_));rw[z1];refine L2.aQ l ?_;clear l;refine L2.aX λO l=>?_;walk_at "r";have z:(0:Int)<10^Int.toNat 59:=by decide
 calc adg (∅,⋯) (∅,∅,∅) z ?_;obtain⟨c,X,I⟩:∃c:Int,j/30%10^Int.toNat 59=c/\0<=c:=(_,rfl,abi _ (Int.ne_of_gt z))
 rw[X];clear X z;refine L2.aQ l ?_;clear l;walk_at "r";refine(cP,λo Y=>?_);have Z:=av.new (.tup [.int (k:Nat),.int 0]) Y;have e0:upd H o (.tup [.int (k:Nat),.int 0]) o=some (.tup [.int (k:Nat),.int 0]):=af;generalize upd H o (.tup [.int (k:Nat),.int 0])=H0 at *;refine(cP,λp Mh=>?_);have s1:=av.new (.tup [.int (k:Nat),.int (((r.mm k).fm.length:Nat)-1+1)]) Mh;have R:upd H0 p (.tup [.int (k:Nat),.int (((r.mm k).fm.length:Nat)-1+1)]) p=some (.tup [.int (k:Nat),.int (((r.mm k).fm.length:Nat)-1+1)]):=af;generalize upd H0 p (.tup [.int (k:Nat),.int (((r.mm k).fm.length:Nat)-1+1)])=H1 at *;refine(cP,λu yX=>?_);have s2:=av.new (.tup [.int (k:Nat),.int (-1-c)]) yX;have e2:upd H1 u (.tup [.int (k:Nat),.int (-1-c)]) u=some (.tup [.int (k:Nat),.int (-1-c)]):=af;generalize upd H1 u (.tup [.int (k:Nat),.int (-1-c)])=H2 at *;refine(cP,λv J=>?_);have s3:=av.new (.tup [.int ((g.ms.length:Nat)+c),.int 1]) J;have e3:upd H2 v (.tup [.int ((g.ms.length:Nat)+c),.int 1]) v=some (.tup [.int ((g.ms.length:Nat)+c),.int 1]):=af;generalize upd H2 v (.tup [.int ((g.ms.length:Nat)+c),.int 1])=H3 at *;refine(cP,λx M=>?_);have s4:=av.new (.tup [.int (-1-c),.int 1]) M;have e4:upd H3 x (.tup [.int (-1-c),.int 1]) x=some (.tup [.int (-1-c),.int 1]):=af;generalize upd H3 x (.tup [.int (-1-c),.int 1])=H4 at *;refine(cP,λy V8=>?_);have s5:=av.new (.tup [.int (k:Nat),.int (((r.mm k).fm.length:Nat)-1+1+c)]) V8;have e5:upd H4 y (.tup [.int (k:Nat),.int (((r.mm k).fm.length:Nat)-1+1+c)]) y=some (.tup [.int (k:Nat),.int (((r.mm k).fm.length:Nat)-1+1+c)]):=af;generalize upd H4 y (.tup [.int (k:Nat),.int (((r.mm k).fm.length:Nat)-1+1+c)])=H5 at *;refine(∅,λS se=>(∅,?_));have s6:=av.new (.lst [.ref o,.ref p,.ref u,.ref v,.ref x,.ref y]) se;have B:upd H5 S (.lst [.ref o,.ref p,.ref u,.ref v,.ref x,.ref y]) S=some (.lst [.ref o,.ref p,.ref u,.ref v,.ref x,.ref y]):=af;generalize upd H5 S (.lst [.ref o,.ref p,.ref u,.ref v,.ref x,.ref y])=G at *;have I:=s5.trans s6;have L:=s4.trans I;have N:=s3.trans L;have O:=s2.trans N;have S:=s1.trans O;have q:=λa e=>q a e G (Z.trans S);clear Y Mh yX J M V8 se Z s1 s2 s3 s4 s5;obtain⟨i,z,l⟩:∃i:Nat,j%6=i/\i<6:=((j%6).toNat,(),())
 rw[z];have c:∀m k:Int,(0<=m->m<(g.ms.length:Nat)->1<=k->k<((r.mm m.toNat).fm.length:Nat)->False)->¬AE g r m k:=λm k h z=>h z.1 z.2.1 z.2.2.1 z.2.2.2
 match i,l with
 |0,_=>calc bC B (aA (j:=0) rfl) (q o ((_),_) (S _ _ e0) (c _ _ ()))
 |1,_=>calc bC B (aA (j:=1) rfl) (q p ((_),_) (O _ _ R) (c _ _ (by rw[aaX];lia)))
 |2,_=>calc bC B (aA (j:=2) rfl) (q u ((_),_) (N _ _ e2) (c _ _ ()))
 |3,_=>calc bC B (aA (j:=3) rfl) (q v ((_),_) (L _ _ e3) (c _ _ ()))
 |4,_=>calc bC B (aA (j:=4) rfl) (q x ((_),_) (I _ _ e4) (c _ _ ()))
 |5,_=>calc bC B (aA (j:=5) rfl) (q y ((_),_) (s6 _ _ e5) (c _ _ (by rw[aaX];lia)))
abbrev jH:Stmt:=top 83
inductive Lr(C CN CR:Addr)(vs:List V)(H:Hp)(Q:VK):Prop
 |mk (F:Addr->Prop) (x bq:Addr) (nt:NT) (r:RS) (ad:Nat->Nat->Addr) (L:Lg) (a b:Addr) (dr:Int) (e o:Ev) (h0:vs=[.ref x,.int dr,.ref a,.ref b]) (h1:bW C CN CR F H x bq nt r ad) (h2:r.Ok nt) (h3:r.Lk nt L) (h4:L.length<=40) (h5:H a=some (.tup [.int e.1,.int e.2])) (h6:H b=some (.tup [.int o.1,.int o.2])) (h7:¬AE nt r e.1 e.2) (q:∀H',av H H'->Q (.bl true) H'):Lr C CN CR vs H Q
def Ez(C CN CR:Addr):Sp:=λvs H Q _=>Lr C CN CR vs H Q
theorem vL(D:cV K mg "_law_refused" "_law_refused" jH dn)(T:Tx K mg C CN CR F FD)(d:PU K mg B c)(nX:DefX P w K mg base "heard_of" 7 eg (Ln C CN CR c))(dQ:DefX P w K mg base "word_of" 7 eO (sL C CN CR c)):Def P w K mg base "_law_refused" 8 dn (Ez C CN CR):=by
 exists["_law_run","_law_way","_law_one","_law_other","_law_good","e","_law_others"];let(F,x,G,I,r,ad,L,a,b,W,e,o,rfl,J,M,N,X,t,Y,Z,q):=h;have O:=hr.units;refine(_,(ai (aT (i:=4) sc rfl Sort kR)
  (ai (NR (i:=5) rfl rfl sc rfl rfl rfl d.t9 (FA d.xb) (JE (aC (aZ O) (aq 1) aj (aI _)) (pq (tQ (BQ dQ hr (ag (aq 0) (ag (aq 2) (ag (aq 3) aa)))))) (pq (JE (aC (aZ O) (aq 1) aj (aI _)) (pq (tQ (BQ dQ hr (ag (aq 0) (ag (aq 3) (ag (aq 2) aa)))))) (pq (tQ (BQ nX hr (ag (aq 0) (ag (ak O (aq 2) aj) (ag (ak O (aq 2) aj) aa))))))))) (λa=>
  (ai (aT (i:=6) sc rfl Sort (bf (tW (K:=K) rfl) rfl T.bc vO (ag (aq 5) (ag (bz (ag (cH (v:=.ref (c 1)) rfl d.wu rfl) (ag (cH (v:=.ref (c 0)) rfl d.o8 rfl) (ag (cH (v:=.ref (c 3)) rfl d.zu rfl) (ag (cH (v:=.ref (c 13)) rfl d.Jm rfl) (ag (cH (v:=.ref (c 6)) rfl d.wx rfl) (ag (cH (v:=.ref (c 18)) rfl d.zA rfl) (ag (cH (v:=.ref (c 4)) rfl d.tX rfl) (ag (cH (v:=.ref (c 10)) rfl d.zw rfl) (ag (cH (v:=.ref (c 11)) rfl d.rq rfl) aa)))))))))) aa))))
  (ai (aT (i:=6) sc rfl Sort (Hm (aq 6) (gR (bf (tW (K:=K) rfl) rfl T.bc vO (ag (aq 5) (ag (bz (ag (cH (v:=.ref (c 15)) rfl d.zy rfl) (ag (cH (v:=.ref (c 17)) rfl d.zz rfl) (ag (cH (v:=.ref (c 16)) rfl d.Dt rfl) (ag (cH (v:=.ref (c 2)) rfl d.zt rfl) (ag (cH (v:=.ref (c 5)) rfl d.tY rfl) (ag (cH (v:=.ref (c 14)) rfl d.o9 rfl) (ag (cH (v:=.ref (c 12)) rfl d.zx rfl) (ag (cH (v:=.ref (c 8)) rfl d.tZ rfl) aa))))))))) aa))))))
  (ai (aT (i:=6) sc rfl Sort (Hm (aq 6) (gR (bf (qb (K:=K) rfl) rfl T.bc vO (ag (aq 5) (ag (cH (v:=.ref (c 9)) rfl d.wA rfl) aa))))))
  (ao (aT (i:=4) sc rfl Sort (ip (bf (qb (K:=K) rfl) rfl T.bc vO (ag (aq 5) (ag (cH (v:=.ref (c 7)) rfl d.wz rfl) aa))) (ip (bf (qb (K:=K) rfl) rfl T.bc vO (ag (aq 5) (ag (dy (v:=.ty "ValueError") rfl T.pA NJ rfl) aa))) (gR (Hn (aq 6))))))))))))
  (ao (aH (aq 4))))),?_)
 refine L2.aX λO h1=>?_;walk_at "r";refine L2.aQ h1 ?_;clear h1;refine L2.aX λO h2=>?_;refine NS λT O=>?_;have n:∀(g:Addr) (H2:Hp),av H H2->H2 g=some (XO g (c 7) none false)->T (.ref g) none H2:=λg H2 p l=>by
  refine O g (c 7) none H2 l (d.cl 7 ()) ?_
  try dsimp only[List.set]
  refine L2.aX λN3 m=>?_;walk_at "r";refine(by show 9<=sizeLine;decide,λR O=>?_);have s3:=av.new (.tup [.ref (c 1),.ref (c 0),.ref (c 3),.ref (c 13),.ref (c 6),.ref (c 18),.ref (c 4),.ref (c 10),.ref (c 11)]) O;have et1:upd H2 R (.tup [.ref (c 1),.ref (c 0),.ref (c 3),.ref (c 13),.ref (c 6),.ref (c 18),.ref (c 4),.ref (c 10),.ref (c 11)]) R=some (.tup [.ref (c 1),.ref (c 0),.ref (c 3),.ref (c 13),.ref (c 6),.ref (c 18),.ref (c 4),.ref (c 10),.ref (c 11)]):=af;have u:=s3 _ _ l;generalize upd H2 R (.tup [.ref (c 1),.ref (c 0),.ref (c 3),.ref (c 13),.ref (c 6),.ref (c 18),.ref (c 4),.ref (c 10),.ref (c 11)])=H3 at *;refine(g,c 7,B,none,R,[1,0,3,13,6,18,4,10,11].map c,false,false,rfl,u,(λS z=>nomatch z),d.cl 7 (),et1,(xZ d () _ ∅).trans ∅,?_);refine L2.aQ m ?_;clear m;refine L2.aX λN3 m=>?_;walk_at "r"
  try first|rw[if_neg T']|skip
  calc(by show 8<=sizeLine;decide,λU O=>?_);have s4:=av.new (.tup [.ref (c 15),.ref (c 17),.ref (c 16),.ref (c 2),.ref (c 5),.ref (c 14),.ref (c 12),.ref (c 8)]) O;have et2:upd H3 U (.tup [.ref (c 15),.ref (c 17),.ref (c 16),.ref (c 2),.ref (c 5),.ref (c 14),.ref (c 12),.ref (c 8)]) U=some (.tup [.ref (c 15),.ref (c 17),.ref (c 16),.ref (c 2),.ref (c 5),.ref (c 14),.ref (c 12),.ref (c 8)]):=af;have k:=s4 _ _ u;generalize upd H3 U (.tup [.ref (c 15),.ref (c 17),.ref (c 16),.ref (c 2),.ref (c 5),.ref (c 14),.ref (c 12),.ref (c 8)])=H4 at *;calc(g,c 7,B,none,U,[15,17,16,2,5,14,12,8].map c,false,false,rfl,k,(λS z=>nomatch z),d.cl 7 (),et2,(xZ d () _ ∅).trans ∅,?_);calc L2.aQ m ?_;clear m;calc L2.aX λN3 m=>?_;walk_at "r"
  try first|rw[if_neg T']|skip
  refine(g,c 7,B,none,.ref (c 9),false,false,rfl,k,(λS z=>nomatch z),d.cl 7 (),.inl rfl,(BR d () ∅).trans ∅,?_);refine L2.aQ m ?_;clear m;walk_at "r";refine(g,c 7,B,none,.ref (c 7),true,false,rfl,k,(λS z=>nomatch z),d.cl 7 (),.inl rfl,(BR d () ∅).trans ∅,?_);refine bQ _ rfl ?_;rw[if_pos rfl];refine(g,c 7,B,none,_,true,false,rfl,k,(λS z=>nomatch z),d.cl 7 (),.inr (_,rfl),SY d (),?_);refine bQ _ rfl ?_;rw[if_pos rfl]
  try dsimp only[List.set]
  refine L2.aQ h2 ?_;walk_at "r";exact q _ (p.trans (s3.trans s4))
 clear h2;have y:¬e∈L.map (·.1):=λz=>Z ((AF N e).mpr z);walk_at "r";by_cases k:W=0
 ·rw[aaL k]
  try rw[if_pos rfl]
  exact(F,x,G,I,r,ad,L,a,b,e,o,rfl,J,M,N,X,t,Y,λz=>absurd z.1 y,λ_ g H2 p l=>n g H2 p l)
 rw[aaM k];rw[if_neg ∅];by_cases d:W=1
 ·rw[aaL d]
  try rw[if_pos rfl]
  exact(F,x,G,I,r,ad,L,b,a,o,e,rfl,J,M,N,X,Y,t,λz=>absurd z.2 y,λ_ g H2 p l=>n g H2 p l)
 rw[aaM d];rw[if_neg ∅];calc da t (aA (j:=0) rfl) ?_;calc da t (aA (j:=1) rfl) ?_;calc(F,x,G,I,r,ad,e.1,e.2,rfl,J,M,Z,λg H2 p l=>n g H2 p l)
theorem pM{L:Lg}(h:gJ H 1 ys ((L.map (·.1)).map pairD))(b:0<ys.length)(j:Int):∃(i:Nat) (a:Addr) (e:Ev),j%((ys.length:Nat):Int)=i/\ys[i]?=some (.ref a)/\H a=some (.tup [.int e.1,.int e.2])/\e∈L.map (·.1):=by
 have b:=abi j (show((ys.length:Nat):Int)≠0 by lia);have b:=abc j (show(0:Int)<((ys.length:Nat):Int) by lia);have b:(j%((ys.length:Nat):Int)).toNat<ys.length:=by lia
 have d:=h.1;rw[aau]at d;have c:=cT (l:=L.map (·.1)) (i:=(j%((ys.length:Nat):Int)).toNat) ();let(a,d,f):=uQ (h.2 _ _ _ (cT b) (by rw[J',c];rfl));calc((j%((ys.length:Nat):Int)).toNat,a,_,(),by rw[cT b,d],f,aaT c)
theorem EA {bs:List V}{es:List Ev}(a:aL.map (·.1)=es.map kE)(f:bs.length=aL.length)(h:∀(i:Nat) k x,aL[i]?=some ((k),x)->∃b,bs[i]?=some (.ref b)/\H b=some (.tup (k.map kV))):gJ H 1 bs (es.map pairD):=⟨by rw[f];simpa using congrArg List.length a,λi u d m c=>by
 rw[J']at c;let(e,o,rfl):=Option.map_eq_some_iff.mp c;have f:(aL.map (·.1))[i]?=some (kE e):=by rw[a,J',o];rfl
 rw[J'] at f;let(g,p,q):=Option.map_eq_some_iff.mp f;let(b,j,l):=h i g.1 g.2 p;rw[m] at j;obtain rfl:=Option.some.inj j;rw[q] at l;calc di (n:=0) l (.int _) (.int _)⟩
abbrev lZ:Stmt:=top 84
inductive Ls(C CN CR:Addr)(vs:List V)(H:Hp)(Q:VK):Prop
 |mk (F G:Addr->Prop) (x bq d:Addr) (tn:V) (nt:NT) (r:RS) (ad bd:Nat->Nat->Addr) (L:Lg) (dh le:Addr) (aL:List (List Key×V)) (ys:List V) (j:Int) (h0:vs=[.ref x,.ref d,.ref dh,.ref le,.int j]) (h1:bW C CN CR F H x bq nt r ad) (h2:r.Ok nt) (h3:r.Lk nt L) (h4:L.length<=40) (h5:r.picks.length<=40) (h6:bU G H d tn nt r bd) (h7:H dh=some (.dT aL)) (h8:kY H dh aL (cF L)) (h9:H le=some (.lst ys)) (TL:gJ H 1 ys ((L.map (·.1)).map pairD)) (q:∀H',av H H'->Q (.bl true) H'):Ls C CN CR vs H Q
def EB(C CN CR:Addr):Sp:=λvs H Q _=>Ls C CN CR vs H Q
theorem AG(D:cV K mg "_law_asked" "_law_asked" lZ cc)(T:Tx K mg C CN CR F FD)(gA:Def P w K mg base "_law_due" 1 cx sO)(jI:Def P w K mg base "_law_refused" 8 dn (Ez C CN CR))(iP:Def P w K mg base "_law_stranger" 1 hC Ey)(dQ:DefX P w K mg base "word_of" 7 eO (sL C CN CR c)):Def P w K mg base "_law_asked" 9 cc (EB C CN CR):=by
 exists["_law_run","_law_own","_law_ahead_here","_law_events","_law_cell","_law_stranger_here","_law_other","_law_one","_law_found"];let(F,G,x,bq,d,tn,W,r,ad,bd,L,X,le,aL,ys,j,rfl,hR,Y,Z,jG,vB,hT,Lu,Cw,m,bE,q):=h;have k:=hr.units;refine(_,(ai (aY (PW.pt (pw_or (aC (aZ k) (aq 3) (bH aa) (aI _)) (pw_or1 (aC (aZ k) (aR cp (aq 4) aj) aj (aI _))))) (ai (aT (i:=5) sc rfl Sort (aN iP hr (ag (aq 1) (ag (aR c8 (aq 4) aj) aa))))
  (ai (aT (i:=6) sc rfl Sort (aq 5))
  (ai (aY (aC (ig k) (aq 3) (bH aa) (aI _)) (ao (aT (i:=6) sc rfl Sort (ak k (aq 3) (aR cp (aR c8 (aq 4) aj) (bf aO rfl T.bV X' (ag (aq 3) aa)))))) aJ)
  (ao (aH (aN jI hr (ag (aq 0) (ag (aR cp (aR c8 (aq 4) aj) aj) (ag (aq 5) (ag (aq 6) aa)))))))))) aJ)
  (ai (aT (i:=7) sc rfl Sort (ak k (aq 3) (aR cp (aR c8 (aq 4) aj) (bf aO rfl T.bV X' (ag (aq 3) aa)))))
  (ai (aT (i:=6) sc rfl Sort (ak k (aq 3) (aR cp (aR c8 (aR c8 (aq 4) aj) (bf aO rfl T.bV X' (ag (aq 3) aa))) (bf aO rfl T.bV X' (ag (aq 3) aa)))))
  (ai (aT (i:=8) sc rfl Sort (qc dQ JK hr (ag (aq 0) (ag (aq 7) (ag (aq 6) aa)))))
  (ai (aY (PW.pt (pw_or (cC (bN (bf dI rfl T.bc vO (ag (aq 8) (ag (dy (v:=.ty "str") rfl T.zJ MH rfl) aa))))) (pw_or1 (aC (ig k) (aq 8) (aN gA hr (ag (aq 2) (ag (aq 7) (ag (aq 6) aa)))) (aI _))))) (ao (aH kR)) aJ)
  (ao (aH (i9 (aZ k) (qc dQ JK hr (ag (aq 0) (ag (aq 6) (ag (aq 7) aa)))) (aN gA hr (ag (aq 2) (ag (aq 6) (ag (aq 7) aa)))) (aI _))))))))),?_)
 have T:ys.length=L.length:=by simpa using bE.1
 refine L2.aX λR g=>?_;refine L2.fE λT0 U0 uT S=>?_;walk_at "r";refine(aaO _,λp0 T=>?_);have B:=av.new (.lst []) T;have ep0:upd H p0 (.lst []) p0=some (.lst []):=af;generalize upd H p0 (.lst [])=H1 at *;have N:T0 [some (V.ref x),some (V.ref d),some (V.ref X),some (V.ref le),some (V.int j),none,none,none,none] H1:=by
  refine L2.aQ uT ?_;clear g uT S Cw Lu;refine L2.aX λN2 I=>?_;walk_at "r";refine((∅,⋯),G,d,tn,W,r,bd,_,rfl,hT.same B,Y,vB,λa e H2 p t vY=>?_);refine L2.aQ I ?_;clear I;have y:=B.trans p;refine L2.aX λN2 I=>?_;walk_at "r";refine L2.aQ I ?_;clear I;refine L2.aX λN2 I=>?_;have J:∀(b:Addr) (o:Ev) (H':Hp),av H2 H'->H' b=some (.tup [.int o.1,.int o.2])->N2 [some (V.ref x),some (V.ref d),some (V.ref X),some (V.ref le),some (V.int j),some (V.ref a),some (V.ref b),none,none] H':=λb o H' l n=>by
   refine L2.aQ I ?_;walk_at "r";refine gO (∅,⋯) ∅ ?_;exact(F,x,bq,W,r,ad,L,a,b,_,e,o,rfl,hR.same (y.trans l),Y,Z,jG,l _ _ t,n,vY,λG T=>q G ((y.trans l).trans T))
  clear I;refine L2.fE λG T VG Qn=>?_;walk_at "r";refine(aaO _,λp1 G=>?_);have l:=av.new (.lst []) G;have ep1:upd H2 p1 (.lst []) p1=some (.lst []):=af;generalize upd H2 p1 (.lst [])=M at *;have O5:=l _ _ (y _ _ m);by_cases F5:ys=[]
  ·subst F5;calc .inl (.inr (_,_,[],[],rfl,rfl,.inr (aV.of O5,aV.of ep1),rfl,λj u v k=>by simp at k),?_);rw[if_neg ∅];calc L2.aQ Qn ?_;exact J a e _ l (l _ _ t)
  have z:0<ys.length:=List.length_pos_iff.mpr F5;refine .inr ((ys,[],by rw[List.length_nil];lia,.inl (aV.of O5,aV.of ep1)),?_);rw[if_pos trivial];refine L2.aQ VG ?_;walk_at "r";refine((∅,⋯),_,.inl (_,aV.of O5,rfl),(),?_);let(i,b,o,ei,ey,n,O):=pM (bE.aM (y.trans l).aU) z (j/35);rw[ei];refine bC O5 (aA ey) ?_;exact J b o _ l n
 by_cases F5:ys=[]
 ·subst F5;calc .inl (.inr (_,_,[],[],rfl,rfl,.inr (aV.of (B _ _ m),aV.of ep0),rfl,λj u v k=>by simp at k),?_);rw[if_pos trivial,if_pos trivial];exact N
 have z:0<ys.length:=List.length_pos_iff.mpr F5;calc .inr ((ys,[],by rw[List.length_nil];lia,.inl (aV.of (B _ _ m),aV.of ep0)),?_);rw[if_neg ∅];calc(∅,?_);by_cases k:j%5=4
 ·rw[aaL k,if_pos rfl];exact N
 rw[aaM k,if_neg ∅];clear N;refine L2.aQ S ?_;show R _ _;refine L2.aQ g ?_;clear g uT S;refine L2.aX λR g=>?_;walk_at "r";have Lv:=B _ _ m;have aaC:=bE.aM B.aU;let(i,a,e,ei,ey,t,U):=pM aaC z (j/5);refine((∅,⋯),_,.inl (_,aV.of Lv,rfl),(),?_);rw[ei];refine bC Lv (aA ey) ?_;refine L2.aQ g ?_;clear g;refine L2.aX λR g=>?_;walk_at "r";have m:Dh (j/5) ((ys.length:Nat):Int):=((),zX () ())
 refine((∅,⋯),_,.inl (_,aV.of Lv,rfl),m,_,.inl (_,aV.of Lv,rfl),(),?_);let(u,b,o,i,k,n,O):=pM aaC z (j/5/((ys.length:Nat):Int));rw[i];refine bC Lv (aA k) ?_;refine L2.aQ g ?_;clear g;refine L2.aX λR g=>?_;walk_at "r";refine(F,x,bq,W,r,ad,L,a,b,e,o,rfl,hR.same B,Y,Z,jG,t,n,λ_ H2 p=>?_,λno=>absurd (U,O) no);refine L2.aQ g ?_;clear g;have y:=B.trans p;have due:∀{M:Hp} {e o:Ev} {a b:Addr} {Q:VK},av H M->M a=some (.tup [.int e.1,.int e.2])->M b=some (.tup [.int o.1,.int o.2])->e∈L.map (·.1)->o∈L.map (·.1)->Q (.str (Cs L e o)) M->sO [.ref X,.ref a,.ref b] M Q E0:=λ{M e o a b Q} s t n U O k=>(X,a,b,L,e,o,_,aL,rfl,s _ _ Lu,Cw.same s,Z.good,t,n,U,O,k)
 refine L2.aX λR g=>?_;refine L2.fE λT0 U0 uT S=>?_;walk_at "r";refine dC _ true (.str _) rfl ?_;rw[if_neg ∅];refine due y (p _ _ t) (p _ _ n) U O ?_;walk_at "r";rw[if_neg nofun];refine L2.aQ S ?_;show R _ _;refine L2.aQ g ?_;clear g uT S;walk_at "r";refine(F,x,bq,W,r,ad,L,b,a,o,e,rfl,hR.same y,Y,Z,jG,p _ _ n,p _ _ t,λ_ M l=>?_,λno=>absurd (O,U) no);refine due (y.trans l) (l _ _ (p _ _ n)) (l _ _ (p _ _ t)) O U ?_;walk_at "r"
 try simp only[decide_true]
 calc q _ (y.trans l)
abbrev nY:Stmt:=top 85
inductive Lw(C CN CR:Addr)(vs:List V)(H:Hp)(Q:VK):Prop
 |mk (F G:Addr->Prop) (x bq d:Addr) (tn:V) (nt:NT) (r:RS) (ad bd:Nat->Nat->Addr) (L:Lg) (j:Int) (h0:vs=[.ref x,.ref d,.int j]) (h1:bW C CN CR F H x bq nt r ad) (h2:r.Ok nt) (h3:r.Lk nt L) (h4:L.length<=40) (h5:bU G H d tn nt r bd) (h6:0<L.length) (q:∀H',av H H'->Q (.bl true) H'):Lw C CN CR vs H Q
def EC(C CN CR:Addr):Sp:=λvs H Q _=>Lw C CN CR vs H Q
theorem Cy(D:cV K mg "_law_amid" "_law_amid" nY eN)(T:Tx K mg C CN CR F FD)(fP:Def P w K mg base "_law_ahead" 1 g8 yu)(gA:Def P w K mg base "_law_due" 1 cx sO)(dQ:DefX P w K mg base "word_of" 7 eO (sL C CN CR c)):Def P w K mg base "_law_amid" 8 eN (EC C CN CR):=by
 exists["_law_run","_law_own","_law_load","_law_ahead_here","_law_events","_law_one"];let(F,G,x,S,d,U,y,r,ad,W,L,j,rfl,X,z,m,B,Y,n,q):=h;have n:=hr.units;refine(_,(ai (aT (i:=3) sc rfl Sort (aN fP hr (ag (aq 1) aa)))
  (ai (aT (i:=4) sc rfl Sort (c9 (wG rfl) rfl T.d9 kW (ag (aq 3) aa)))
  (ai (aT (i:=5) sc rfl Sort (ak n (aq 4) (aR cp (aR c8 (aq 2) aj) (bf aO rfl T.bV X' (ag (aq 4) aa)))))
  (ao (aH (Hm (i9 (aZ n) (aR cp (aq 2) aj) aj (aI _)) (gR (i9 (aZ n) (qc dQ JK hr (ag (aq 0) (ag (aq 5) (ag (ak n (aq 4) (jT gn aj)) aa)))) (aN gA hr (ag (aq 3) (ag (aq 5) (ag (ak n (aq 4) (jT gn aj)) aa)))) (aI _))))))))),?_)
 refine L2.aX λZ g=>?_;walk_at "r";refine(G,d,U,y,r,W,L,rfl,Y,z,m,B,λdh aL H1 s1 I J M=>?_);refine L2.aQ g ?_;clear g;refine L2.aX λZ g=>?_;walk_at "r";have n:=m.good.all;refine dC dh aL rfl (.inl J) (λN k p t hb=>?_);have bE:=EA (M.keys.trans (by rw[n.2.1])) t hb;have u:=av.new (.lst k) p;have v:upd H1 N (.lst k) N=some (.lst k):=af;have O:=bE.aM u.aU;have O6:=u _ _ J;have O7:=M.same u;have R:=s1.trans u;generalize upd H1 N (.lst k)=H2 at *;clear p t hb bE s1 u I J M;have n:k.length=L.length:=by simpa using O.1
 refine L2.aQ g ?_;clear g;refine L2.aX λZ g=>?_;walk_at "r";refine((∅,⋯),_,.inl (_,aV.of v,rfl),(),?_);let(i,a,e,ei,ey,ea,he):=pM O () (j/2);rw[ei];refine bC v (aA ey) ?_;refine L2.aQ g ?_;clear g;walk_at "r";refine(∅,?_);by_cases n:j%2=0
 ·rw[aaL n,if_pos rfl];exact q _ R
 rw[aaM n,if_neg ∅];let(j,b,o,g,i,eb,ho):=pM O () (((k.length:Nat):Int)-1);rw[Int.emod_eq_of_lt () ()]at g;have la:iZ k (-1)=some (.ref b):=mL () (by rw[show k.length-1=j by lia];calc i);calc bC v la ?_;calc(F,x,S,y,r,ad,L,a,b,e,o,rfl,X.same R,z,m,B,ea,eb,λ_ g l=>?_,λno=>absurd (he,ho) no);calc bC (l _ _ v) la ?_;calc(dh,a,b,L,e,o,_,aL,rfl,l _ _ O6,O7.same l,m.good,l _ _ ea,l _ _ eb,he,ho,?_);walk_at "r"
 try simp only[decide_true]
 calc q _ (R.trans l)
theorem _root_.DD.dJ.weak{F a:Addr->Prop}{n:Nat->Nat}{ct:Nat->Nat->CO}(h:dJ F H n ad ct)(s:av H H')(d:∀b,a b->F b\/H b=none):dJ a H' n ad ct:=by
 have c:∀{b:Addr} {o:HO},H b=some o->¬F b->¬a b:=λ{b o} e f z=>(d _ z).elim f λq=>by rw[q]at e;cases e
 have f:Cv (i3 (λb=>F b\/FP n ad b) H) (i3 (λb=>a b\/FP n ad b) H'):=λb u g i=>by
  let(a,d):=dB g i;rw[gq (λz=>z.elim (c d (λq=>a (.inl q))) (λq=>a (.inr q)))];exact s _ _ d
 refine(h.inj,λt i a=>?_,λt i a=>?_)
 ·let(d,e,_):=h.Me t i a;exact c e (h.out t i a)
 ·let(d,e,c):=h.Me t i a;calc(d,s _ _ e,c.cv f)
theorem bU.aaE{F c:Addr->Prop}{d:Addr}{g:V}{nt:NT}(h:bU F H d g nt r ad)(s:av H H')(i:∀b,c b->F b\/H b=none):bU c H' d g nt r ad:=by
 have f:∀{b:Addr} {o:HO},H b=some o->¬F b->¬c b:=λ{b o} e g z=>(i _ z).elim g λq=>by rw[q]at e;cases e
 have j:Cv (i3 (λb=>F b\/FP nt.n ad b) H) (i3 (λb=>c b\/FP nt.n ad b) H'):=λb u k l=>by
  let(c,g):=dB k l;rw[gq (λz=>z.elim (f g (λq=>c (.inl q))) (λq=>c (.inr q)))];exact s _ _ g
 let((o,g,k,l,c),m,(ls,p),q):=h;calc((o,s _ _ g,f g k,l,λt a b=>(s _ _ (c t a b).1,f (c t a b).1 (c t a b).2.1,(c t a b).2.2)),m.weak s i,(ls,p.cv j),q)
structure O8(C CN:Addr)(H:Hp)(n:Addr)(nt:NT)(ls:List (Int×Int))(ms:List Addr)(wv lv:List V):Prop where
 na:uC C CN H n nt
 nf:lM CN H n ms wv lv
 nl:gJ H 1 lv (ls.map pC)
theorem O8.fr{C CN:Addr}{n:Addr}{nt:NT}(h:O8 C CN H n nt ls ms wv lv){Z:Addr->Prop}(f:Fr Z H H'):O8 C CN H' n nt ls ms wv lv:=(h.na.fr f,h.nf.fr f,h.nl.aM f.aU)
theorem U9{K:W.Frag}{xs:List V}(f:Fr Z H H')(n:¬Z a)(h:aV K H a xs):aV K H' a xs:=by
 rcases h with(h|⟨o,h⟩)|h
 ·exact .inl (.inl (f.at h n))
 ·exact .inl (.inr (o,f.at h n))
 ·calc .inr h
structure MG(C CN CR:Addr)(H:Hp)(n:Addr)(v:V)(nt:NT)(ls:List (Int×Int))(ms:List Addr)(wv lv:List V)(x d:Addr)(a b:Nat->Nat->Addr)(r:RS)(L:Lg):Prop where
 run:bW C CN CR (FP nt.n b) H x n nt r a
 twin:bU (FP nt.n a) H d v nt r b
 ok:r.Ok nt
 lk:r.Lk nt L
 pl:r=lV nt (RS.begin nt ls) r.picks
 can:vI nt (RS.begin nt ls) r.picks
 bq:O8 C CN H n nt ls ms wv lv
section
variable {C CN CR:Addr}{H H':Hp}{n:Addr}{v:V}{nt:NT}{ls:List (Int×Int)}{ms:List Addr}{wv lv:List V}{x d:Addr}{r:RS}{L:Lg}{a b:Nat->Nat->Addr}
theorem MG.same(h:MG C CN CR H n v nt ls ms wv lv x d a b r L)(s:av H H'):MG C CN CR H' n v nt ls ms wv lv x d a b r L:=(h.run.same s,h.twin.same s,h.ok,h.lk,h.pl,h.can,h.bq.fr (Z:=λ_=>False) s.fr)
theorem MG.step(h:MG C CN CR H n v nt ls ms wv lv x d a b r L)(g:nt.Ok){w k:Nat}(c:r.OF nt w k)(f:Fr (λz=>FP nt.n a z\/FP nt.n b z) H H')(i:bW C CN CR (FP nt.n b) H' x n nt (r.pick nt w k) a)(j:bU (FP nt.n a) H' d v nt (r.pick nt w k) b):∃e,e.length=L.length+1/\MG C CN CR H' n v nt ls ms wv lv x d a b (r.pick nt w k) e:=by
 have l:k<(r.ww w).snd.length:=by rw[<-h.ok.ls w c.lt,h.ok.lk w c.lt];exact(List.getElem?_eq_some_iff.mp c.lies).1
 have e:=RS.Ok.pick g h.ok (k:=k) c.lt;calc(_,aaQ,i,j,e.1,h.lk.pick g c.lt c.lies (cT l),by rw[e.2,nV,<-h.pl],by rw[e.2];calc Gr h.can (by rw[<-h.pl];calc c),h.bq.fr f)
end
abbrev xh:Stmt:=top 86
def yx(K:W.Frag):Sp:=λvs H Q _=>∃(a:Addr) (ns:List Int),vs=[.ref a]/\aV K H a (ns.map V.int)/\ns.length<=63/\∀H',Q (.bl true) H'
theorem Va{f:Addr}{fd:FuncData}(D:Ij K "law" "law" xh f fd)(T:Tx K mg C CN CR F FD)(fP:Def P w K mg base "_law_ahead" 1 g8 yu)(nZ:Def P w K mg base "_law_amid" 8 eN (EC C CN CR))(l7:Def P w K mg base "_law_asked" 9 cc (EB C CN CR))(fC:Def P w K mg base "_law_at" 1 eH (JT K))(l8:Def P w K mg base "_law_begun" 1 e8 En)(n0:Def P w K mg base "_law_free" 2 g8 KJ)(qM:Def P w K mg base "_law_net" 5 fx (Ej K))(iQ:Def P w K mg base "_law_net_made" 9 e8 (xf C CN))(oa:Def P w K mg base "_law_pick" 3 eu El)(kH:Def P w K mg base "played_run" 7 ["net","schedule"] (Ep C CN CR))(og:cy P w K mg base CR "pick" 7 a0 (Kw C CN CR))(xg:xV P w K mg base "Run" CR 2 ["self","net"] (yo C CN CR)):j7 P w K mg base Fb 10 f fd fx (yx K):=by
 have M:aE ["_law_script","_law_net_here","_law_own","_law_made","_law_run","_law_cell","_law_free_here","_law_way","_law_number","_law_ahead_here","_law_events"] fx (az xh):=by walk_at "s"
 refine D.ok M (λvs H Q E h=>?_) (λfF A outer s H vs Q E u h=>?_)
 ·let(a,ns,rfl,hS,h63,q):=h;rfl
 ·let(a,ns,rfl,hS,h63,q):=h;have hu:=u.units;refine(_,(ai (aT (i:=1) M.nd rfl Sort (aN qM u (ag (aq 0) aa)))
   (ai (aT (i:=2) M.nd rfl Sort (aN l8 u (ag (aq 1) aa)))
   (ai (aT (i:=3) M.nd rfl Sort (aN iQ u (ag (aq 1) aa)))
   (ai (aT (i:=4) M.nd rfl Sort (Dn xg u (ag (aq 3) aa)))
   (ai (fc PassesOwn.never rfl (cj (Jv (aq 0) (ja aj) (ja aj))) (bg (i:=5) M.nd rfl Sort)
   (ai (aT (i:=6) M.nd rfl Sort (aN n0 u (ag (aq 2) aa)))
   (ao (aY (aC (ig hu) (aq 6) (bH aa) (aI _)) (ai (eP (ak hu (aq 6) (aR cp (aq 5) (bf aO rfl T.bV X' (ag (aq 6) aa)))) (fu (i:=7) (j:=8) rfl M.nd rfl rfl Sort Sort))
   (ai (bR (aN oa u (ag (aq 2) (ag (aq 7) (ag (aq 8) aa)))))
   (ai (bR (fz og T.bb u (aq 4) (ag (aq 7) (ag (aq 8) aa))))
   (ao (aY (cC (bN (aN nZ u (ag (aq 4) (ag (aq 2) (ag (aR c8 (aq 5) (bf aO rfl T.bV X' (ag (aq 6) aa))) aa)))))) (ao (aH kR)) aJ))))) aJ))))
   (ai (aY (aC (aZ hu) (aR cp (aR c8 (aN fC u (ag (aq 0) (ag aj aa))) aj) aj) aj (aI _)) (ao (aT (i:=4) M.nd rfl Sort (aN kH u (ag (aq 3) (ag (c9 cq rfl T.d9 kW (ag (ak hu (aq 2) aD) aa)) aa))))) aJ)
   (ai (aT (i:=9) M.nd rfl Sort (aN fP u (ag (aq 2) aa)))
   (ai (aT (i:=10) M.nd rfl Sort (c9 (wG rfl) rfl T.d9 kW (ag (aq 9) aa)))
   (ai (fc PassesOwn.never rfl (cj (aR cE (bH (ag (aN fC u (ag (aq 0) (ag aj aa))) aa)) (Jv (aq 0) (ja aj) (ja aj)))) (bg (i:=5) M.nd rfl Sort)
   (ao (aY (cC (bN (aN l7 u (ag (aq 4) (ag (aq 2) (ag (aq 9) (ag (aq 10) (ag (aq 5) aa)))))))) (ao (aH kR)) aJ)))
   (ao (aH kR))))))))))),?_)
  refine L2.aX λN1 J=>?_;walk_at "j";refine vm a ns rfl hS h63 (λt u A E M wv lv gQ ws ls H1 s1 g1 g2 g3 g4 g5 g6 g7 g=>?_);have hTN:ToldN H1 (.ref t) gQ ws ls:=(t,u,A,E,M,wv,lv,rfl,g1,g2,g3,g4,g5,g6,g7)
  clear g1 g2 g3 g4 g5 g6 g7;calc L2.aQ J ?_;clear J;generalize V.ref t=v at *;obtain⟨k,U⟩:∃k:NT,k=(gQ,ws):=(_,rfl)
  have UZ:∀l∈ls,0<=l.1/\l.1<k.ws.length:=λl hl=>by rw[U];exact((g.lo l hl).1,(g.lo l hl).2.1)
  have UX:k.Ok:=by rw[U];exact g.nt
  refine L2.aX λu h2=>?_;walk_at "j";refine(λ_=>False,v,k,ls,rfl,?_,λb m=>m.elim,UX,g.Zz,UZ,λd I H2 s2 f2 fd Fj=>?_)
  ·rw[U];calc hTN.cv λb o e n=>?_;rw[gq id];exact e
  refine L2.aQ h2 ?_;clear h2;refine L2.aX λu h3=>?_;walk_at "j";refine(v,gQ,ws,ls,rfl,hTN.cv s2.cv,g,λn ms wv lv H3 s3 QV Wg Wh=>?_);rw[<-U]at QV;refine L2.aQ h3 ?_;clear h3;refine L2.aX λu h4=>?_;walk_at "j";intro x dx hx Qj UO;have sx:av H3 (upd (upd H3 dx (.own x)) x (.ins CR dx [])):=λb o e=>by rw[ay (au e hx),ay (au e Qj)];exact e
  have Wk:=Fj.same s3;calc(FP k.n I,x,dx,n,k,ls,ms,wv,lv,rfl,af,QV.fr (Z:=λ_=>False) sx.fr,Wg.same sx,Wh.aM sx.aU,g.Zz,UZ,λb m=>(Wk.same sx).cI.fp m,λad O k4 f4 W=>(rfl,?_));have K0:av H3 O:=λb o e=>k4 b o (au e hx) (sx _ _ e);have f43:∀b,FP k.n ad b->H3 b=none:=λb m=>sx.free (f4 b m);have s4:av H O:=s1.trans (s2.trans (s3.trans K0));have hsq:∀{u:Hp},Fr (λz=>FP k.n ad z\/FP k.n I z) O u->aV K u a (ns.map V.int):=λ{u} f=>by
   by_cases z:FP k.n ad a\/FP k.n I a
   ·have no:H a=none:=z.elim (λz=>(s1.trans (s2.trans s3)).free (f43 a z)) λz=>s1.free (f2 a z);rcases hS with(e | ⟨o,e⟩) | e
    ·rw[e]at no;cases no
    ·rw[e]at no;cases no
    ·exact .inr e
   ·exact U9 f z (s4.seq hS)
  have X:bU (FP k.n ad) O d v k (RS.begin k ls) I:=Wk.aaE K0 λb m=>.inr (f43 b m);let(A,u):=Aq UX g.Zz;have Kz:MG C CN CR O n v k ls ms wv lv x d ad I (RS.begin k ls) []:=(W,X,A,RS.Lk.begin,by rw[u];rfl,by rw[u];calc K9,(QV.fr (Z:=λ_=>False) K0.fr,Wg.fr (Z:=λ_=>False) K0.fr,Wh.aM K0.aU))
  calc L2.aQ h4 ?_;clear h4 X W f43 k4 f4 QV Wg Wh hTN Fj Wk sx K0 s1 s2 s3 f2 fd hx Qj UO A u;calc L2.aX λN5 h5=>?_;calc(_,rfl,_,rfl,_,s4.seq hS,λlc Y=>?_);have slc:=av.new (.lst (dD (ns.map V.int) (some 8) (some 36))) Y;have elc:upd O lc (.lst (dD (ns.map V.int) (some 8) (some 36))) lc=some (.lst (dD (ns.map V.int) (some 8) (some 36))):=af;have nlc:¬(FP k.n ad lc\/FP k.n I lc):=λm=>by
   rcases m with m|m
   ·let(o,e,_):=Kz.run.cI.fp m;rw[Y]at e;cases e
   ·let(o,e,_):=Kz.twin.cI.fp m;rw[Y]at e;cases e
  have Vu:(dD (ns.map V.int) (some 8) (some 36)).length<=28:=Dw (i:=8) (j:=36);have hci:∀c∈dD (ns.map V.int) (some 8) (some 36),∃z,c=.int z:=λc N=>by
   let(z,_,rfl):=List.mem_map.mp (Dx N);exact(z,rfl)
  have yF:=Kz.same slc;have f5:Fr (λz=>FP k.n ad z\/FP k.n I z) O (upd O lc (.lst (dD (ns.map V.int) (some 8) (some 36)))):=slc.fr;generalize upd O lc (.lst (dD (ns.map V.int) (some 8) (some 36)))=H5 at *;generalize dD (ns.map V.int) (some 8) (some 36)=cs at *;clear Kz slc Y;refine .inl ((_,aV.of elc),fw (K:=K) (xs:=cs) (λi σ H'=>(∃z5 z6 z7 z8,σ=[some (V.ref a),some v,some (V.ref d),some (V.ref n),some (V.ref x),z5,z6,z7,z8,none,none])/\Fr (λz=>FP k.n ad z\/FP k.n I z) O H'/\H' lc=some (.lst cs)/\∃r L,L.length<=i/\MG C CN CR H' n v k ls ms wv lv x d ad I r L) ?_ ?_ ?_ ?_)
  ·exact((_,_,_,_,rfl),f5,elc,_,_,S' _,yF)
  ·rintro i σ H' hi ⟨_,_,e,_⟩;exact aV.of e
  ·intro i c σ Hq N jl;nofun;let((z5,z6,z7,z8,rfl),fi,eli,r,L,QW,y):=jl;clear h5 yF f5 elc;have u:i < 28:=by have:=(List.getElem?_eq_some_iff.mp N).1;lia
   let(cz,rfl):=hci c (aaT N);ac_rfl;have se:r.picks.length<40:=by rw[<-y.lk.len];lia
   refine L2.aX λN1 J=>?_;walk_at "j";refine(FP k.n ad,d,v,k,r,I,rfl,y.twin,y.ok,(),λlf ys H2 s2 Zu eys GK=>?_);refine L2.aQ J ?_;clear J;refine L2.fE λT0 U0 uT sM=>?_;walk_at "j";refine(aaO _,λp0 u=>?_);have sp:=av.new (.lst []) u;have Lx:=sp _ _ eys;have aaF:=GK.aM sp.aU;have hep:upd H2 p0 (.lst []) p0=some (.lst []):=af;have kT:=s2.trans sp;generalize upd H2 p0 (.lst [])=Gp at *;have fin:∀{G:Hp} {u A E:Option V} {M:RS} {L':Lg},Fr (λz=>FP k.n ad z\/FP k.n I z) Hq G->L'.length<=i+1->MG C CN CR G n v k ls ms wv lv x d ad I M L'->(∃z5 z6 z7 z8,[some (V.ref a),some v,some (V.ref d),some (V.ref n),some (V.ref x),some (V.int cz),u,A,E,none,none]=[some (V.ref a),some v,some (V.ref d),some (V.ref n),some (V.ref x),z5,z6,z7,z8,none,none])/\Fr (λz=>FP k.n ad z\/FP k.n I z) O G/\G lc=some (.lst cs)/\∃r L,L.length<=i+1/\MG C CN CR G n v k ls ms wv lv x d ad I r L:=λf hl hd=>((_,_,_,_,rfl),fi.trans f,f.at eli nlc,_,_,hl,hd)
   by_cases hy:ys=[]
   ·subst hy;refine .inl (.inr (_,_,[],[],rfl,rfl,.inr (aV.of Lx,aV.of hep),rfl,λj u v hu=>by simp at hu),?_)
    try rw[if_neg ∅]
    calc L2.aQ sM ?_;exact fin kT.fr () (y.same kT)
   refine .inr ((ys,[],λh=>hy (List.length_eq_zero_iff.mp h),.inl (aV.of Lx,aV.of hep)),?_)
   try rw[if_pos trivial]
   calc L2.aQ uT ?_;clear uT sM;have J5:=y.same kT;have h:0<ys.length:=List.length_pos_iff.mpr hy;nofun;obtain⟨kf,af7⟩:∃kf:Nat,cz%(ys.length:Int)=kf:=((cz%(ys.length:Int)).toNat,by have:=abi cz (show(ys.length:Int)≠0 by lia);lia)
   have zl:kf<ys.length:=by have:=abc cz (show(0:Int)<ys.length by lia);lia
   have h:ys.length=(kU k r k.ws.length).length:=by simpa using aaF.1
   have hkf:kf<(kU k r k.ws.length).length:=by lia
   have hel:=aaF.2 kf ys[kf] _ (cT zl) (by rw[J',cT hkf];rfl);have y8:=aaV hkf;generalize (kU k r k.ws.length)[kf]=pr at *;let(wy,num):=pr;have La:=KI y.ok y8;let(h,eta,vE):=uQ hel;ac_rfl;refine L2.aX λN1 J=>?_;walk_at "j";refine(_,.inl (_,aV.of Lx,rfl),(),_,_,.inl (aV.of Lx),by rw[af7];exact aA (cT zl),?_);rw[eta];refine wD (bI.of vE) ?_;refine L2.aQ J ?_;clear J;refine L2.aX λN1 J=>?_;walk_at "j";refine(FP k.n ad,d,v,k,r,I,wy,num,rfl,J5.twin,λb m=>J5.run.cI.fp m,y.ok,La,(),λt H3 f3 Wk h=>?_);refine L2.aQ J ?_;clear J;have hR3:=J5.run.keep f3;let(dx,o,hx,h):=hR3.ins;refine L2.aX λN1 J=>?_;walk_at "j";refine(x,dx,_,rfl,hx,gh ⋯,FP k.n I,x,n,k,r,ad,wy,num,rfl,hR3,λb m=>Wk.cI.fp m,y.ok,La,(),λt h f4 W _=>?_);refine L2.aQ J ?_;clear J;have X:=Wk.keep f4;have f34:Fr (λz=>FP k.n ad z\/FP k.n I z) Gp h:=(f3.mono λb z=>.inr z).trans (f4.mono λb z=>.inl z);let(L',u,R):=J5.step UX La f34 W X;have frA:Fr (λz=>FP k.n ad z\/FP k.n I z) Hq h:=kT.fr.trans f34;have nlf:¬(FP k.n ad lf\/FP k.n I lf):=λm=>by
    rcases m with m|m
    ·let(o,e,_):=y.run.cI.fp m;rw[Zu]at e;cases e
    ·let(o,e,_):=y.twin.cI.fp m;rw[Zu]at e;cases e
   have af9:=f34.at Lx nlf;calc L2.fE λT1 U1 VG Qn=>?_;have h:=qG (nt:=k) (r:=r) (B:=20000) k.ws.length λw h=>by have:=y.ok.bs w h;lia
   have h:=UX.Fy;walk_at "j";refine gU _ (.inl (_,aV.of af9,rfl)) ((),zX () ()) ?_;refine(FP k.n I,FP k.n ad,x,n,d,v,k,_,ad,I,L',_,rfl,R.run,R.ok,R.lk,(),R.twin,(),λH5 h=>vn ?_);rw[if_neg ∅];refine L2.aQ Qn ?_;exact fin (frA.trans h.fr) () (R.same h)
  intro σ H6 jm;let((z5,z6,z7,z8,rfl),f46,_,r,L,QW,y):=jm;show N5 _ _;calc L2.aQ h5 ?_;clear h5 yF f5 elc nlc;calc L2.aX λN6 h6=>?_;calc L2.fE λT0 U0 uT sM=>?_;walk_at "j";have sq6:=hsq f46;have h:L.length<=28:=by lia
  have se:r.picks.length<=28:=by rw[<-y.lk.len];exact h
  calc Tc a ns 0 rfl sq6 ∅ (λc0=>?_);calc gO (∅,⋯) (by show(0:Int)<2;decide) ?_;have rest:∀(F':Addr->Prop) (xx:Addr) (ad':Nat->Nat->Addr) (G:Hp),av H6 G->bW C CN CR F' G xx n k r ad'->N6 [some (V.ref a),some v,some (V.ref d),some (V.ref n),some (V.ref xx),z5,z6,z7,z8,none,none] G:=λF' xx ad' G s6 hR=>by
   refine L2.aQ h6 ?_;clear h6 uT sM hci Vu hsq f46;have hT:=y.twin.same s6;refine L2.aX λN7 h7=>?_;walk_at "j";refine(FP k.n ad,d,v,k,r,I,L,rfl,hT,y.ok,y.lk,(),λdh aL G1 s7 _ Lu Cw=>?_);refine L2.aQ h7 ?_;clear h7;refine L2.aX λN7 h7=>?_;walk_at "j";have h:=y.lk.good.all;refine dC dh aL rfl (.inl Lu) (λle bs hle hbl m=>?_);have bE:=EA (Cw.keys.trans (by rw[h.2.1])) hbl m;have s8:=av.new (.lst bs) hle;have el:upd G1 le (.lst bs) le=some (.lst bs):=af;have rR:=bE.aM s8.aU;have O6:=s8 _ _ Lu;have O7:=Cw.same s8;have Wb:=s7.trans s8;generalize upd G1 le (.lst bs)=G2 at *;clear hle hbl m bE Lu Cw s8 s7;have Fj:=hT.same Wb;have Qx:=hR.same Wb;have sq2:=(s6.trans Wb).seq sq6;refine L2.aQ h7 ?_;clear h7;refine L2.aX λN7 h7=>?_;refine Tc a ns 0 rfl sq2 ∅ (λS=>?_);refine(by show 1<=sizeLine;decide,λp hp=>?_);have s9:=av.new (.lst [.int S]) hp;have ep:upd G2 p (.lst [.int S]) p=some (.lst [.int S]):=af;have sq3:=s9.seq sq2;generalize upd G2 p (.lst [.int S])=G3 at *;refine(_,rfl,_,rfl,_,sq3,λl2 yV=>?_);have uZ:=av.new (.lst (dD (ns.map V.int) (some 36) (some 52))) yV;have el2:upd G3 l2 (.lst (dD (ns.map V.int) (some 36) (some 52))) l2=some (.lst (dD (ns.map V.int) (some 36) (some 52))):=af;have ep2:=uZ _ _ ep;have h:(dD (ns.map V.int) (some 36) (some 52)).length<=16:=Dw (i:=36) (j:=52);have agc:∀c∈dD (ns.map V.int) (some 36) (some 52),∃z,c=.int z:=λc N=>by
    let(z,_,rfl):=List.mem_map.mp (Dx N);exact(z,rfl)
   generalize upd G3 l2 (.lst (dD (ns.map V.int) (some 36) (some 52)))=G4 at *;generalize dD (ns.map V.int) (some 36) (some 52)=Vb at *;calc .inl ([.int S],Vb,ep2,el2,by rw[abe];simp;lia,λl3 Cc=>?_);have s11:=av.new (.lst ([V.int S]++Vb)) Cc;have el3:upd G4 l3 (.lst ([V.int S]++Vb)) l3=some (.lst ([V.int S]++Vb)):=af;have Wl:=s9.trans (uZ.trans s11);have agd:∀c ∈ [V.int S]++Vb,∃z,c=.int z:=λc N=>by
    rcases List.mem_cons.mp N with rfl|N
    ·exact(_,rfl)
    ·exact agc c N
   generalize upd G4 l3 (.lst ([V.int S]++Vb))=G5 at *;generalize [V.int S]++Vb=cs3 at *;have hT5:=Fj.same Wl;have hR5:=Qx.same Wl;have age:=Wl _ _ O6;have agf:=O7.same Wl;have el5:=Wl _ _ el;have agg:=rR.aM Wl.aU;clear Fj Qx O6 O7 el rR s9 uZ s11 yV Cc hp hT hR;refine .inl ((_,aV.of el3),fw (K:=K) (xs:=cs3) (λi σ H'=>(∃w5,σ=[some (V.ref a),some v,some (V.ref d),some (V.ref n),some (V.ref xx),w5,z6,z7,z8,some (V.ref dh),some (V.ref le)])/\av G5 H') ?_ ?_ ?_ ?_)
   ·exact((_,rfl),av.refl _)
   ·rintro i σ H' hi ⟨_,s⟩;exact aV.of (s _ _ el3)
   ·intro i c σ H' N qt;nofun;let((w5,rfl),s):=qt;let(z,rfl):=agd c (aaT N);ac_rfl;clear h7;show yO _ _ _ _ _ _;refine L2.fE λT1 U1 VG Qn=>?_;walk_at "j";refine(F',FP k.n ad,xx,n,d,v,k,r,ad',I,L,dh,le,aL,bs,z,rfl,hR5.same s,y.ok,y.lk,(),(),hT5.same s,s _ _ age,agf.same s,s _ _ el5,agg.aM s.aU,λh s6=>vn ?_);rw[if_neg ∅];refine L2.aQ Qn ?_;exact((_,rfl),s.trans s6)
   intro σ H' yd;let((w5,rfl),s):=yd;show N7 _ _;refine L2.aQ h7 ?_;walk_at "j";exact q _
  walk_at "j"
  cases m:decide (c0/5%2=1) with
  |false=>
   rw[if_neg ∅];calc L2.aQ sM ?_;calc rest _ x ad H6 (av.refl _) y.run
  |true=>
   rw[if_pos rfl];refine L2.aQ uT ?_;nofun;let(h,hd,j,o,q):=y.twin.dk;let(v0,e0,d0):=y.twin.cI.lst (t:=0) (i:=0) (by show 0<1;decide) rfl;ac_rfl;walk_at "j";have h:gJ H6 1 v0 (r.picks.map pairD):=Es ((show e9 _ 4 v0 (r.picks.map pairD) from d0).cv d7);refine(_,UD hd,_,.inl (aV.of e0),λl hl=>?_);have sl:=av.new (.lst v0) hl;have el:upd H6 l (.lst v0) l=some (.lst v0):=af;have bE:=h.aM sl.aU;have hN:=y.bq.fr (Z:=λ_=>False) sl.fr;generalize upd H6 l (.lst v0)=G7 at *;refine(λ_=>False,n,l,k,ls,ms,wv,lv,v0,r.picks,rfl,hN.na,hN.nf,hN.nl,g.Zz,UZ,el,bE,(),λb m=>m.elim,y.can,λxx h i s8 _ _ g=>?_);rw[<-y.pl]at g;exact rest _ xx h i (sl.trans s8) g
end
end GW
namespace GW
open PySem L2 DD
variable {p0 p1:Str}{K:W.Frag}
structure i5(K:W.Frag)(B C:Addr)(x:Str):Prop where
 ax:W.nsIn K mainGlobals x=some (some (.ref C))
 ob:∃nm q N bs sn sub ab col dd k0 k1 k2 k3 k5,K.lookup C=some (excClassObj nm q C N bs (.ref B::tF) true sn sub ab col dd k0 k1 k2 k3 k5 "ValueError.__new__")
 ga:W.findIn K (.ref C) "__getattribute__"=some (some (.builtin "BaseException.__getattribute__"))
 gt:W.findIn K (.ref C) "__getattr__"=some none
 sa:W.findIn K (.ref C) "__setattr__"=some (some (.builtin "object.__setattr__"))
 cl:W.findIn K (.ref C) "__class__"=some (some (.builtin "object.__class__"))
 kp:W.keepIn K (.ref C)=true
theorem aaH{B C:Addr}{x c q:Str}{N:Addr}{bs a:List Value}{d:List Str}{e:Bool}{b:Option Bool}{f:Option Addr}{g h i j k:Option Value}(l:W.nsIn K mainGlobals x=some (some (.ref C)))(ob:K.lookup C=some (excClassObj c q C N bs (.ref B::tF) true d a e b f g h i j k "ValueError.__new__"))
  (a:W.findIn K (.ref C) "__getattribute__"=some (some (.builtin "BaseException.__getattribute__"))) (b:W.findIn K (.ref C) "__getattr__"=some none) (c:W.findIn K (.ref C) "__setattr__"=some (some (.builtin "object.__setattr__"))) (d:W.findIn K (.ref C) "__class__"=some (some (.builtin "object.__class__"))) (e:W.keepIn K (.ref C)=true):i5 K B C x:=
 (l,(_,_,_,_,_,_,_,_,_,_,_,_,_,_,ob),a,b,c,d,e)
theorem i5.cls{B C:Addr}{x:Str}(h:i5 K B C x)(a:W.specialIn K (.builtin "object.__class__") "__get__"=some (some (.builtin "getset_descriptor.__get__")))(ct:W.takesIn K (.builtin "object.__class__")=some true):j9 K C B:=
 (h.ob,h.ga,h.gt,h.sa,h.cl,a,ct,h.kp)
def FnAt(K:W.Frag)(f:Addr)(x q:Str)(a:Stmt):Prop:=∃od c d e kV g h b ct,K.lookup f=some (e,od,.func (W.fnOf x q (eY a) (cO a) (az a) .none kV g h c b ct),d)/\W.codeIn K b q=true/\W.keepIn K (.ref f)=true
def DF(K:W.Frag)(x:Str)(a:Stmt):Prop:=∃f,W.nsIn K mainGlobals x=some (some (.ref f))/\FnAt K f x x a
def MF(K:W.Frag)(C:Addr)(m q:Str)(a:Stmt):Prop:=∃f,W.findIn K (.ref C) m=some (some (.ref f))/\W.isFn K (.ref f)=true/\FnAt K f m q a
def QY(x q:Str)(a:Stmt)(c:List Str):Prop:=∀(kV b d:Value) (e:Option Addr) (f ct:Value) (us:List Value),us.length=c.length->bindArgs (W.fnOf x q (eY a) (cO a) (az a) .none kV b d e f ct) (us,[])=pure (c.zip us)
section
variable {K:W.Frag}{h:Heap}{mg:Str->Option Value}{x m q:Str}{C f:Addr}{st:Stmt}{ps:List Str}{od an:Option Addr}{sl:Array (Option Value)}{oc kV dc pm cd ct:Value}
theorem QZ(a:W.nsIn K mainGlobals x=some (some (.ref f)))(l:K.lookup f=some (oc,od,.func (W.fnOf x x (eY st) (cO st) (az st) .none kV dc pm an cd ct),sl))(c:W.codeIn K cd x=true)(k:W.keepIn K (.ref f)=true):DF K x st:=(f,a,_,_,_,_,_,_,_,_,_,l,c,k)
theorem Q0(a:W.findIn K (.ref C) m=some (some (.ref f)))(i:W.isFn K (.ref f)=true)(l:K.lookup f=some (oc,od,.func (W.fnOf m q (eY st) (cO st) (az st) .none kV dc pm an cd ct),sl))(c:W.codeIn K cd q=true)(k:W.keepIn K (.ref f)=true):MF K C m q st:=(f,a,i,_,_,_,_,_,_,_,_,_,l,c,k)
theorem ba(X:K.In h)(G:h.Ns mainGlobals mg)(d:DF K x st)(b:QY x x st ps):cV K mg x x st ps:=by
 let(f,a,_,_,_,_,_,_,_,_,_,l,c,k):=d;calc(_,_,ng l c k,W.mg_of X G a,(ng l c k).binds b)
theorem cJ(d:MF K C m q st)(b:QY m q st ps):ic K C m q st ps:=by
 let(f,a,i,_,_,_,_,_,_,_,_,_,l,c,k):=d;calc(_,_,(a,i,k),ng l c k,(ng l c k).binds b)
theorem yy(X:K.In h)(G:h.Ns mainGlobals mg)(e:W.makesIn K C=true)(g:W.keepIn K (.ref C)=true)(d:MF K C "__init__" q st)(j:W.nsIn K mainGlobals x=some (some (.ref C)))(b:QY "__init__" q st ps):Fm K mg x C q st ps:=by
 let(f,a,i,_,_,_,_,_,_,_,_,_,l,c,k):=d;calc((_,_,(e,a,i,g),ng l c k,(ng l c k).binds b),W.mg_of X G j)
theorem oh{us:List Value}{n:Nat}(h:us.length=n+1):∃x r,us=x::r/\r.length=n:=by
 cases us with
 |nil=>cases h
 |cons x r=>calc(x,r,rfl,Nat.succ.inj h)
theorem l9(e:∀(kV a pm:Value) (an:Option Addr) (c ct b:Value),bindArgs (W.fnOf x q (eY st) (cO st) (az st) .none kV a pm an c ct) ([b],[])=pure ([p0].zip [b])):QY x q st [p0]:=λkV a pm an c ct g d=>by
 let(b,h,rfl,f):=oh d
 cases List.length_eq_zero_iff.mp f;calc e ..
theorem kI(e:∀(kV a pm:Value) (an:Option Addr) (d ct b c:Value),bindArgs (W.fnOf x q (eY st) (cO st) (az st) .none kV a pm an d ct) ([b,c],[])=pure ([p0,p1].zip [b,c])):QY x q st [p0,p1]:=λkV a pm an d ct i f=>by
 let(b,j,rfl,g):=oh f;let(c,k,rfl,h):=oh g
 cases List.length_eq_zero_iff.mp h;calc e ..
theorem mR{f:Str}(e:∀(kV a pm:Value) (an:Option Addr) (g ct b c d:Value),bindArgs (W.fnOf x q (eY st) (cO st) (az st) .none kV a pm an g ct) ([b,c,d],[])=pure ([p0,p1,f].zip [b,c,d])):QY x q st [p0,p1,f]:=λkV a pm an g ct f h=>by
 let(b,l,rfl,i):=oh h;let(c,m,rfl,j):=oh i;let(d,n,rfl,k):=oh j
 cases List.length_eq_zero_iff.mp k;calc e ..
theorem rV{g h:Str}(e:∀(kV a pm:Value) (an:Option Addr) (i ct b c d f:Value),bindArgs (W.fnOf x q (eY st) (cO st) (az st) .none kV a pm an i ct) ([b,c,d,f],[])=pure ([p0,p1,g,h].zip [b,c,d,f])):QY x q st [p0,p1,g,h]:=λkV a pm an i ct g j=>by
 let(b,o,rfl,k):=oh j;let(c,p,rfl,l):=oh k;let(d,r,rfl,m):=oh l;let(f,s,rfl,n):=oh m
 cases List.length_eq_zero_iff.mp n;calc e ..
theorem O9{h i j:Str}(e:∀(kV a pm:Value) (an:Option Addr) (k ct b c d f g:Value),bindArgs (W.fnOf x q (eY st) (cO st) (az st) .none kV a pm an k ct) ([b,c,d,f,g],[])=pure ([p0,p1,h,i,j].zip [b,c,d,f,g])):QY x q st [p0,p1,h,i,j]:=λkV a pm an k ct h l=>by
 let(b,s,rfl,m):=oh l;let(c,t,rfl,n):=oh m;let(d,u,rfl,o):=oh n;let(f,v,rfl,p):=oh o;let(g,w,rfl,r):=oh p
 cases List.length_eq_zero_iff.mp r;calc e ..
end
theorem all_mk{l:W.OpenLaw}{w:World}{h:Heap}{S:Str->Option Value}{fa C g CR F B m n o p q r t u x y k z I J L M N O R:Addr}(X:K.In h)(G:h.Ns mainGlobals S)(Wj:S "law"=some (.ref fa))
  {cdB:ClassData} (aB:W.nsIn K mainGlobals "NetError"=some (some (.ref B))) (XN:W.clsIn K B=some cdB) (tyB:W.typeIn K (.ref B)=some (.type "type"))
  {agi q_B:Str} {N_B:Addr} {agj aaI:List Value} {agk:List Str} {agl:Bool} {aaJ:Option Bool} {agm:Option Addr} {agn ago agp agq agr:Option Value} (Vc:K.lookup B=some (excClassObj agi q_B B N_B agj tF true agk aaI agl aaJ agm agn ago agp agq agr "ValueError.__new__")) (Gy:i5 K B m "BadMachine") (Pa:i5 K B n "BadDeed") (Gz:i5 K B o "NoText") (GB:i5 K B p "BadNet") (Pb:i5 K B q "NoLetter") (Pc:i5 K B r "NotFirst") (GC:i5 K B t "NoCount") (GD:i5 K B u "NoEvent") (Pd:i5 K B x "Orphaned") (GG:i5 K B y "TooMany") (ED:i5 K B k "NoLine") (xi:i5 K B z "NoMachine") (EF:i5 K B I "NotRow") (xj:i5 K B J "Busy") (EG:i5 K B L "NotReached") (xk:i5 K B M "NoMark") (xl:i5 K B N "NoRow") (xm:i5 K B O "NoName") (xn:i5 K B R "NoDeed") (fX:W.findIn K (.ref n) "at"=some none) (fA:W.findIn K (.ref q) "at"=some none) (fB:W.findIn K (.ref r) "at"=some none) (dA:W.findIn K (.ref x) "letter"=some none) (ff:W.findIn K (.ref k) "falls"=some none) (eF:W.findIn K (.ref k) "letter"=some none) (fY:W.findIn K (.ref I) "way"=some none) (cK:W.findIn K (.ref L) "machine"=some none) (Vd:W.findIn K (.ref m) "__init__"=some (some (.builtin "ValueError.__init__"))) (Ve:W.findIn K (.ref o) "__init__"=some (some (.builtin "ValueError.__init__"))) (Vf:W.findIn K (.ref p) "__init__"=some (some (.builtin "ValueError.__init__"))) (Vg:W.findIn K (.ref t) "__init__"=some (some (.builtin "ValueError.__init__"))) (Vh:W.findIn K (.ref u) "__init__"=some (some (.builtin "ValueError.__init__"))) (Vi:W.findIn K (.ref y) "__init__"=some (some (.builtin "ValueError.__init__"))) (Ly:W.findIn K (.ref z) "__init__"=some (some (.builtin "ValueError.__init__"))) (Lz:W.findIn K (.ref J) "__init__"=some (some (.builtin "ValueError.__init__"))) (LC:W.findIn K (.ref M) "__init__"=some (some (.builtin "ValueError.__init__"))) (LD:W.findIn K (.ref N) "__init__"=some (some (.builtin "ValueError.__init__"))) (LF:W.findIn K (.ref O) "__init__"=some (some (.builtin "ValueError.__init__"))) (LG:W.findIn K (.ref R) "__init__"=some (some (.builtin "ValueError.__init__"))) (pN:W.nsIn K mainGlobals "Machine"=some (some (.ref C))) (Pe:W.nsIn K mainGlobals "Net"=some (some (.ref g))) (Pf:W.nsIn K mainGlobals "Run"=some (some (.ref CR))) (ma:DF K "_law_ahead" lX) (qN:DF K "_law_due" qL) (iR:MF K g "machines" "Net.machines" iG) (qO:MF K CR "net" "Run.net" qD) (iS:MF K CR "schedule" "Run.schedule" iK) (oj:DF K "is_whole" nr) (mf:DF K "is_within" lB) (iT:MF K CR "need_way" "Run.need_way" iI) (gi:MF K CR "need_letter" "Run.need_letter" gf) (jJ:MF K CR "sent_by" "Run.sent_by" jE) (hX:MF K CR "worked_by" "Run.worked_by" g9) (mh:DF K "all_heard" lW) (fL:MF K CR "need_machine" "Run.need_machine" fJ) (mj:MF K CR "count" "Run.count" lP) (kJ:DF K "need_event" kG) (qP:DF K "word_of" qK) (om:DF K "_law_amid" nY) (oq:DF K "heard_of" nW) (jK:DF K "_law_refused" jH) (iU:DF K "_law_stranger" iO) (ml:DF K "_law_asked" lZ) (uV:DF K "_law_at" uq) (mn:DF K "_law_begun" lU) (mq:DF K "_law_lying" lS) (ou:DF K "_law_free" nS) (mr:DF K "_law_digit" lC) (mw:DF K "_law_value" lG) (oy:DF K "_law_deed" nH) (jL:DF K "_law_machine" ju) (qQ:DF K "_law_pot" qj) (qR:DF K "_law_net" qH) (qS:DF K "form_of" ql) (oz:DF K "is_value" nu) (qT:DF K "is_part" qm) (qU:DF K "is_deed" qo) (iV:DF K "refuse_deeds" iC) (qV:DF K "is_list" qk) (jM:DF K "are_counted" jo) (gB:DF K "refuse_machine" gr) (qW:MF K C "__init__" "Machine.__init__" qx) (mx:DF K "is_letter" lD) (uW:DF K "is_way" uw) (kK:DF K "refuse_net" kr) (LH:MF K g "__init__" "Net.__init__" Kk) (iW:DF K "_law_net_made" iM) (my:DF K "_law_worth" lL) (kM:DF K "_law_worked" kB) (oA:DF K "_law_pick" nU) (gC:DF K "change_numbers" gu) (kN:DF K "change_row" ku) (oB:DF K "left_out" nK) (mz:DF K "values_of" lI) (jN:DF K "plain_worth" jv) (oC:DF K "worth_of" nJ) (gD:MF K C "worked" "Machine.worked" gv) (oE:MF K g "ways" "Net.ways" nN) (jO:MF K g "ways_at" "Net.ways_at" jy) (jP:MF K g "ways_in" "Net.ways_in" jz) (iX:MF K g "ways_out" "Net.ways_out" iH) (ia:MF K CR "need_pick" "Run.need_pick" gW) (gE:MF K CR "put_letter" "Run.put_letter" gy) (mB:MF K CR "state" "Run.state" lO) (jQ:MF K CR "pick_at" "Run.pick_at" jA) (eV:MF K C "first_state" "Machine.first_state" eS) (jR:MF K g "letters" "Net.letters" jx) (LI:MF K CR "__init__" "Run.__init__" Kx) (kO:DF K "played_run" kF) (oF:MF K CR "pick" "Run.pick" nQ) (LJ:DF K "law" xh) (qX:W.plainGet K C Str.empty=true) (qY:W.hasDictIn K C=true) (qZ:W.plainOver K C=true) (q0:W.findIn K (.ref C) "__setattr__"=some (some (.builtin "object.__setattr__"))) (q5:W.makesIn K C=true) (q8:W.keepIn K (.ref C)=true) (FI:W.findIn K (.ref C) "__class__"=some (some (.builtin "object.__class__"))) (FJ:W.mroIn K C (.type "object")=some true) (Qd:W.findIn K (.ref C) "own_modulus"=some none) (Ts:W.findIn K (.ref C) "own_state"=some none) (Qe:W.findIn K (.ref C) "own_deeds"=some none) (LK:W.plainGet K g Str.empty=true) (LL:W.hasDictIn K g=true) (LM:W.plainOver K g=true) (LN:W.findIn K (.ref g) "__setattr__"=some (some (.builtin "object.__setattr__"))) (LO:W.makesIn K g=true) (LP:W.keepIn K (.ref g)=true) (JO:W.findIn K (.ref g) "__class__"=some (some (.builtin "object.__class__"))) (JP:W.mroIn K g (.type "object")=some true) (zK:W.findIn K (.ref g) "own_machines"=some none) (zL:W.findIn K (.ref g) "own_ways"=some none) (BY:W.findIn K (.ref g) "own_letters"=some none) (LQ:W.plainGet K CR Str.empty=true) (LR:W.hasDictIn K CR=true) (LS:W.plainOver K CR=true) (LU:W.findIn K (.ref CR) "__setattr__"=some (some (.builtin "object.__setattr__"))) (LV:W.makesIn K CR=true) (LW:W.keepIn K (.ref CR)=true) (JQ:W.findIn K (.ref CR) "__class__"=some (some (.builtin "object.__class__"))) (JR:W.mroIn K CR (.type "object")=some true) (cS:W.findIn K (.ref CR) "own_net"=some none) (cX:W.findIn K (.ref CR) "picks_done"=some none) (b8:W.findIn K (.ref CR) "states_had"=some none) (eC:W.findIn K (.ref CR) "words_had"=some none) (cY:W.findIn K (.ref CR) "words_said"=some none) (cb:W.findIn K (.ref CR) "letters_say"=some none) (fg:W.findIn K (.ref CR) "senders"=some none) (de:W.findIn K (.ref CR) "workers"=some none) (a:W.specialIn K (.builtin "object.__class__") "__get__"=some (some (.builtin "getset_descriptor.__get__"))) (b:W.takesIn K (.builtin "object.__class__")=some true)
  (kP:W.nsIn K mainGlobals "isinstance"=some none) (LX:W.nsIn K mainGlobals "int"=some none) (Cz:W.nsIn K mainGlobals "bool"=some none) (LY:W.nsIn K mainGlobals "str"=some none) (yz:W.nsIn K mainGlobals "tuple"=some none) (CA:W.nsIn K mainGlobals "list"=some none) (LZ:W.nsIn K mainGlobals "len"=some none) (yA:W.nsIn K mainGlobals "range"=some none) (L3:W.nsIn K mainGlobals "min"=some none) (L4:W.nsIn K mainGlobals "max"=some none) (L5:W.nsIn K mainGlobals "all"=some none) (L6:W.nsIn K mainGlobals "any"=some none) (L7:W.nsIn K mainGlobals "zip"=some none) (mC:W.nsIn K mainGlobals "enumerate"=some none) (kQ:W.nsIn K mainGlobals "ValueError"=some none) {vM:Tok} (eA:W.nsIn K mainGlobals "MOST_DEEDS"=some (some (.int 24 vM))) {rW:Tok} (dN:W.nsIn K mainGlobals "MOST_MODULUS"=some (some (.int 1000000000000 rW))) {rX:Tok} (dO:W.nsIn K mainGlobals "MOST_NUMBERS"=some (some (.int 4 rX))) {AI:Tok} (fI:W.nsIn K mainGlobals "MOST_ROW"=some (some (.int 12 AI))) {q9:Tok} (dj:W.nsIn K mainGlobals "MOST_MACHINES"=some (some (.int 5 q9))) {yB:Tok} (fM:W.nsIn K mainGlobals "MOST_WAYS"=some (some (.int 10 yB))) {rY:Tok} (dP:W.nsIn K mainGlobals "MOST_LETTERS"=some (some (.int 20 rY))) {vN:Tok} (eB:W.nsIn K mainGlobals "SAID_BOUND"=some (some (.int 1000000000000000000000000000000000000000000000000000000000000 vN)))
  {fh0 fh1 fh2 fh3 fh4 fh5 fh6 fh7:Int} {fk0 fk1 fk2 fk3 fk4 fk5 fk6 fk7:Tok} {U Y Z Wq Wr Ws Wt Wu:Addr} {fep:Nat}
  (aF:W.nsIn K mainGlobals "FORMS"=some (some (.ref F))) (lF:K.lookup F=some {cls:=.type "dict",dict:=none,data:=.dict #[(fh0,.str "set" fk0,.ref U),(fh1,.str "add" fk1,.ref Y),(fh2,.str "times" fk2,.ref Z),(fh3,.str "put" fk3,.ref Wq),(fh4,.str "drop" fk4,.ref Wr),(fh5,.str "send" fk5,.ref Ws),(fh6,.str "say" fk6,.ref Wt),(fh7,.str "skip" fk7,.ref Wu)] fep,slots:=#[]}) (neF:(F==sysModules)=false) {Q1 Q2:Tok} {fo0:Option Addr} {fn0:Nat} {fs0:Array (Option Value)} (lP0:K.lookup U=some (.type "tuple",fo0,.seq #[.str "number" Q1,.str "value" Q2] fn0,fs0)) {Q3 Q4:Tok} {fo1:Option Addr} {fn1:Nat} {fs1:Array (Option Value)} (lP1:K.lookup Y=some (.type "tuple",fo1,.seq #[.str "number" Q3,.str "value" Q4] fn1,fs1)) {Q5 Q6:Tok} {fo2:Option Addr} {fn2:Nat} {fs2:Array (Option Value)} (lP2:K.lookup Z=some (.type "tuple",fo2,.seq #[.str "number" Q5,.str "value" Q6] fn2,fs2)) {Q7:Tok} {fo3:Option Addr} {fn3:Nat} {fs3:Array (Option Value)} (lP3:K.lookup Wq=some (.type "tuple",fo3,.seq #[.str "value" Q7] fn3,fs3)) {fo4:Option Addr} {fn4:Nat} {fs4:Array (Option Value)} (lP4:K.lookup Wr=some (.type "tuple",fo4,.seq #[] fn4,fs4)) {Q8 Q9:Tok} {fo5:Option Addr} {fn5:Nat} {fs5:Array (Option Value)} (lP5:K.lookup Ws=some (.type "tuple",fo5,.seq #[.str "way" Q8,.str "value" Q9] fn5,fs5)) {Ra:Tok} {fo6:Option Addr} {fn6:Nat} {fs6:Array (Option Value)} (lP6:K.lookup Wt=some (.type "tuple",fo6,.seq #[.str "value" Ra] fn6,fs6)) {Rb Rc Rf:Tok} {fo7:Option Addr} {fn7:Nat} {fs7:Array (Option Value)} (lP7:K.lookup Wu=some (.type "tuple",fo7,.seq #[.str "value" Rb,.str "value" Rc,.str "many" Rf] fn7,fs7))
  (Vj:∀i,i<19->∀j,j<19->([m,n,o,p,q,r,t,u,x,y,k,z,I,J,L,M,N,O,R]:List Addr).getD i 0=([m,n,o,p,q,r,t,u,x,y,k,z,I,J,L,M,N,O,R]:List Addr).getD j 0->i=j) (hnB:∀i,i<19->([m,n,o,p,q,r,t,u,x,y,k,z,I,J,L,M,N,O,R]:List Addr).getD i 0≠B)
  :∃fd:FuncData,(∀(s:Shared) (v:Value),BindsTo s fd ([v],[]) [(("_law_script"),v)])/\∀base:Heap,K.In base->base.Ns mainGlobals S->j7 l.prog w K S base Fb 10 fa fd fx (yx K):=by
 have FR:PyProof.Rows.KTD.Rows RelV (#[(fh0,.str "set" fk0,.ref U),(fh1,.str "add" fk1,.ref Y),(fh2,.str "times" fk2,.ref Z),(fh3,.str "put" fk3,.ref Wq),(fh4,.str "drop" fk4,.ref Wr),(fh5,.str "send" fk5,.ref Ws),(fh6,.str "say" fk6,.ref Wt),(fh7,.str "skip" fk7,.ref Wu)]:Array DictEntry).toList ([(("set"),V.ref U),(("add"),V.ref Y),(("times"),V.ref Z),(("put"),V.ref Wq),(("drop"),V.ref Wr),(("send"),V.ref Ws),(("say"),V.ref Wt),(("skip"),V.ref Wu)]:List (Str×V)):=.cons rfl rfl (.cons rfl rfl (.cons rfl rfl (.cons rfl rfl (.cons rfl rfl (.cons rfl rfl (.cons rfl rfl (.cons rfl rfl (.nil))))))));have T:Tx K S C g CR F ([(("set"),V.ref U),(("add"),V.ref Y),(("times"),V.ref Z),(("put"),V.ref Wq),(("drop"),V.ref Wr),(("send"),V.ref Ws),(("say"),V.ref Wt),(("skip"),V.ref Wu)]:List (Str×V)):={
  bc:=abd X G kP
  JL:=abd X G LX
  JM:=abd X G Cz
  zJ:=abd X G LY
  cu:=abd X G yz
  d9:=abd X G CA
  bV:=abd X G LZ
  fZ:=abd X G yA
  X7:=abd X G L3
  JN:=abd X G L4
  wI:=abd X G L5
  X8:=abd X G L6
  DH:=abd X G L7
  dS:=abd X G mC
  pA:=abd X G kQ
  eA:=(_,W.mg_of X G eA)
  dN:=(_,W.mg_of X G dN)
  dO:=(_,W.mg_of X G dO)
  fI:=(_,W.mg_of X G fI)
  dj:=(_,W.mg_of X G dj)
  fM:=(_,W.mg_of X G fM)
  dP:=(_,W.mg_of X G dP)
  eB:=(_,W.mg_of X G eB)
  cQ:=(qX,qY,qZ,q0)
  wJ:=W.mg_of X G pN
  FI:=FI
  FJ:=FJ
  Qd:=Qd
  Ts:=Ts
  Qe:=Qe
  cR:=(LK,LL,LM,LN)
  X9:=W.mg_of X G Pe
  JO:=JO
  JP:=JP
  zK:=zK
  zL:=zL
  BY:=BY
  bb:=(LQ,LR,LS,LU)
  Ya:=W.mg_of X G Pf
  JQ:=JQ
  JR:=JR
  cS:=cS
  cX:=cX
  b8:=b8
  eC:=eC
  cY:=cY
  cb:=cb
  fg:=fg
  de:=de
  eR:=a
  cB:=b
  i_k:=by unfold W.kitOne;rw[if_pos nofun]
  DI:=W.mg_of X G aF
  DJ:=((_,_,_,lF,(rfl,rfl,rfl),rfl,FR),neF)
  Qf:=λd=>by
   cases d with
   |set _ _=>calc(U,by kernel_rfl,λH=>.inr (_,_,_,lP0,rfl,rfl,by show 2<=sizeLine;decide,(.cons (Q1,rfl) (.cons (Q2,rfl) .nil))))
   |add _ _=>calc(Y,by kernel_rfl,λH=>.inr (_,_,_,lP1,rfl,rfl,by show 2<=sizeLine;decide,(.cons (Q3,rfl) (.cons (Q4,rfl) .nil))))
   |times _ _=>calc(Z,by kernel_rfl,λH=>.inr (_,_,_,lP2,rfl,rfl,by show 2<=sizeLine;decide,(.cons (Q5,rfl) (.cons (Q6,rfl) .nil))))
   |put _=>calc(Wq,by kernel_rfl,λH=>.inr (_,_,_,lP3,rfl,rfl,by show 1<=sizeLine;decide,(.cons (Q7,rfl) .nil)))
   |drop=>calc(Wr,by kernel_rfl,λH=>.inr (_,_,_,lP4,rfl,rfl,by show 0<=sizeLine;decide,.nil))
   |send _ _=>calc(Ws,by kernel_rfl,λH=>.inr (_,_,_,lP5,rfl,rfl,by show 2<=sizeLine;decide,(.cons (Q8,rfl) (.cons (Q9,rfl) .nil))))
   |say _=>calc(Wt,by kernel_rfl,λH=>.inr (_,_,_,lP6,rfl,rfl,by show 1<=sizeLine;decide,(.cons (Ra,rfl) .nil)))
   |skip _ _ _=>exact(Wu,by kernel_rfl,λH=>.inr (_,_,_,lP7,rfl,rfl,by show 3<=sizeLine;decide,(.cons (Rb,rfl) (.cons (Rc,rfl) (.cons (Rf,rfl) .nil)))))
 }
 have d:∀C∈([m,n,o,p,q,r,t,u,x,y,k,z,I,J,L,M,N,O,R]:List Addr),j9 K C B:=(List.forall_mem_cons.mpr (Gy.cls a b,(List.forall_mem_cons.mpr (Pa.cls a b,(List.forall_mem_cons.mpr (Gz.cls a b,(List.forall_mem_cons.mpr (GB.cls a b,(List.forall_mem_cons.mpr (Pb.cls a b,(List.forall_mem_cons.mpr (Pc.cls a b,(List.forall_mem_cons.mpr (GC.cls a b,(List.forall_mem_cons.mpr (GD.cls a b,(List.forall_mem_cons.mpr (Pd.cls a b,(List.forall_mem_cons.mpr (GG.cls a b,(List.forall_mem_cons.mpr (ED.cls a b,(List.forall_mem_cons.mpr (xi.cls a b,(List.forall_mem_cons.mpr (EF.cls a b,(List.forall_mem_cons.mpr (xj.cls a b,(List.forall_mem_cons.mpr (EG.cls a b,(List.forall_mem_cons.mpr (xk.cls a b,(List.forall_mem_cons.mpr (xl.cls a b,(List.forall_mem_cons.mpr (xm.cls a b,(List.forall_mem_cons.mpr (xn.cls a b,(λ_ h=>absurd h nofun)))))))))))))))))))))))))))))))))))))))
 have TX:PU K S B (λi:Nat=>([m,n,o,p,q,r,t,u,x,y,k,z,I,J,L,M,N,O,R]:List Addr).getD i 0):={
  o8:=W.mg_of X G Gy.ax
  wu:=W.mg_of X G Pa.ax
  zt:=W.mg_of X G Gz.ax
  zu:=W.mg_of X G GB.ax
  tX:=W.mg_of X G Pb.ax
  tY:=W.mg_of X G Pc.ax
  wx:=W.mg_of X G GC.ax
  wz:=W.mg_of X G GD.ax
  tZ:=W.mg_of X G Pd.ax
  wA:=W.mg_of X G GG.ax
  zw:=W.mg_of X G ED.ax
  rq:=W.mg_of X G xi.ax
  zx:=W.mg_of X G EF.ax
  Jm:=W.mg_of X G xj.ax
  o9:=W.mg_of X G EG.ax
  zy:=W.mg_of X G xk.ax
  Dt:=W.mg_of X G xl.ax
  zz:=W.mg_of X G xm.ax
  zA:=W.mg_of X G xn.ax
  t9:=W.mg_of X G aB
  xY:=(Gy.cls a b,Vd,W.mg_of X G Gy.ax)
  Jn:=(Gz.cls a b,Ve,W.mg_of X G Gz.ax)
  Jo:=(GB.cls a b,Vf,W.mg_of X G GB.ax)
  Fu:=(GC.cls a b,Vg,W.mg_of X G GC.ax)
  wB:=(GD.cls a b,Vh,W.mg_of X G GD.ax)
  Fv:=(GG.cls a b,Vi,W.mg_of X G GG.ax)
  zB:=(xi.cls a b,Ly,W.mg_of X G xi.ax)
  SX:=(xj.cls a b,Lz,W.mg_of X G xj.ax)
  Jp:=(xk.cls a b,LC,W.mg_of X G xk.ax)
  NK:=(xl.cls a b,LD,W.mg_of X G xl.ax)
  Jq:=(xm.cls a b,LF,W.mg_of X G xm.ax)
  Jr:=(xn.cls a b,LG,W.mg_of X G xn.ax)
  cl:=λi a=>d _ (by
   have e:([m,n,o,p,q,r,t,u,x,y,k,z,I,J,L,M,N,O,R]:List Addr).getD i 0=([m,n,o,p,q,r,t,u,x,y,k,z,I,J,L,M,N,O,R]:List Addr)[i]'a:=by simp only[List.getD_eq_getElem?_getD,cT (show i<([m,n,o,p,q,r,t,u,x,y,k,z,I,J,L,M,N,O,R]:List Addr).length from a),Option.getD_some]
   show([m,n,o,p,q,r,t,u,x,y,k,z,I,J,L,M,N,O,R]:List Addr).getD i 0 ∈ ([m,n,o,p,q,r,t,u,x,y,k,z,I,J,L,M,N,O,R]:List Addr);rw[e];calc aaV _)
  inj:=λi j a b e=>Vj i a j b e
  nB:=hnB
  XN:=by rw[XN];rfl
  tyB:=tyB
  xb:=⟨(_,_,_,_,_,_,_,_,_,_,_,_,_,_,Vc)⟩
  fX:=fX
  fA:=fA
  fB:=fB
  dA:=dA
  ff:=ff
  eF:=eF
  fY:=fY
  cK:=cK
 }
 let(f,a,b,an,d,g,kV,dc,pm,cd,ct,ll,lc,lk):=LJ;have e:=Wj.symm.trans (W.mg_of X G a)
 cases e;refine(W.fnOf "law" "law" (eY xh) (cO xh) (az xh) .none kV dc pm an cd ct,λs v=>.of_eq rfl,λbase _ _=>?_);have j:=AD (P:=l.prog) (w:=w) (base:=base) (ba X G ma (l9 λ_ _ _ _ _ _ _=>rfl)) T;have v:=Gx (P:=l.prog) (w:=w) (base:=base) (ba X G qN (mR λ_ _ _ _ _ _ _ _ _=>rfl)) T;have b:=uA (P:=l.prog) (w:=w) (base:=base) (cJ iR (l9 λ_ _ _ _ _ _ _=>rfl)) T;have B:=F7 (P:=l.prog) (w:=w) (base:=base) (cJ qO (l9 λ_ _ _ _ _ _ _=>rfl)) T;have d:=uJ (P:=l.prog) (w:=w) (base:=base) (cJ iS (l9 λ_ _ _ _ _ _ _=>rfl)) T;have e:=BZ (P:=l.prog) (w:=w) (base:=base) (ba X G oj (l9 λ_ _ _ _ _ _ _=>rfl)) T;have a:=zO (ba X G mf (mR λ_ _ _ _ _ _ _ _ _=>rfl)) T e;have C:=uH (cJ iT (mR λ_ _ _ _ _ _ _ _ _=>rfl)) T a;have g:=pF (cJ gi (rV λ_ _ _ _ _ _ _ _ _ _=>rfl)) T a C;have S:=vJ (cJ jJ (mR λ_ _ _ _ _ _ _ _ _=>rfl)) T g;have U:=rT (cJ hX (mR λ_ _ _ _ _ _ _ _ _=>rfl)) T g;have C:=Az (ba X G mh (l9 λ_ _ _ _ _ _ _=>rfl)) T b B d S U;have F:=nO (cJ fL (kI λ_ _ _ _ _ _ _ _=>rfl)) T a;have U:=Ap (cJ mj (kI λ_ _ _ _ _ _ _ _=>rfl)) T F;have S:=yw (c:=(λi:Nat=>([m,n,o,p,q,r,t,u,x,y,k,z,I,J,L,M,N,O,R]:List Addr).getD i 0)) (ba X G kJ (mR λ_ _ _ _ _ _ _ _ _=>rfl)) T TX a b U B;have d:=Gw (c:=(λi:Nat=>([m,n,o,p,q,r,t,u,x,y,k,z,I,J,L,M,N,O,R]:List Addr).getD i 0)) (ba X G qP (mR λ_ _ _ _ _ _ _ _ _=>rfl)) T TX C S;have B:=Cy (ba X G om (mR λ_ _ _ _ _ _ _ _ _=>rfl)) T j v d;have U:=Cu (c:=(λi:Nat=>([m,n,o,p,q,r,t,u,x,y,k,z,I,J,L,M,N,O,R]:List Addr).getD i 0)) (ba X G oq (mR λ_ _ _ _ _ _ _ _ _=>rfl)) T TX C S;have Y:=vL (c:=(λi:Nat=>([m,n,o,p,q,r,t,u,x,y,k,z,I,J,L,M,N,O,R]:List Addr).getD i 0)) (ba X G jK (rV λ_ _ _ _ _ _ _ _ _ _=>rfl)) T TX U d;have k:=uU (P:=l.prog) (w:=w) (base:=base) (ba X G iU (kI λ_ _ _ _ _ _ _ _=>rfl)) T;have m:=AG (ba X G ml (O9 λ_ _ _ _ _ _ _ _ _ _ _=>rfl)) T v Y k d;have i:=JU (P:=l.prog) (w:=w) (base:=base) (ba X G uV (kI λ_ _ _ _ _ _ _ _=>rfl)) T;have k:=Aw (P:=l.prog) (w:=w) (base:=base) (ba X G mn (l9 λ_ _ _ _ _ _ _=>rfl)) T;have n:=As (P:=l.prog) (w:=w) (base:=base) (ba X G mq (kI λ_ _ _ _ _ _ _ _=>rfl)) T;have o:=Cn (ba X G ou (l9 λ_ _ _ _ _ _ _=>rfl)) T n;have d:=zP (P:=l.prog) (w:=w) (base:=base) (ba X G mr (kI λ_ _ _ _ _ _ _ _=>rfl)) T;have n:=zV (ba X G mw (kI λ_ _ _ _ _ _ _ _=>rfl)) T d;have p:=B6 (ba X G oy (kI λ_ _ _ _ _ _ _ _=>rfl)) T d n;have q:=vv (ba X G jL (l9 λ_ _ _ _ _ _ _=>rfl)) T p d;have n:=FK (P:=l.prog) (w:=w) (base:=base) (ba X G qQ (l9 λ_ _ _ _ _ _ _=>rfl)) T;have p:=Gk (ba X G qR (l9 λ_ _ _ _ _ _ _=>rfl)) T i d q n;have r:=FN (P:=l.prog) (w:=w) (base:=base) (ba X G qS (l9 λ_ _ _ _ _ _ _=>rfl)) T;have d:=B1 (ba X G oz (kI λ_ _ _ _ _ _ _ _=>rfl)) T e a;have n:=FO (ba X G qT (mR λ_ _ _ _ _ _ _ _ _=>rfl)) T d e a;have q:=FQ (ba X G qU (kI λ_ _ _ _ _ _ _ _=>rfl)) T r n;have e:=uv (ba X G iV (kI λ_ _ _ _ _ _ _ _=>rfl)) T q;have d:=FL (P:=l.prog) (w:=w) (base:=base) (ba X G qV (mR λ_ _ _ _ _ _ _ _ _=>rfl)) T;have n:=vq (ba X G jM (rV λ_ _ _ _ _ _ _ _ _ _=>rfl)) T d a;have q:=qu (ba X G gB (rV λ_ _ _ _ _ _ _ _ _ _=>rfl)) T n a;have r:=FU (yy X G q5 q8 qW pN (O9 λ_ _ _ _ _ _ _ _ _ _ _=>rfl)) T e q;have n:=zT (ba X G mx (kI λ_ _ _ _ _ _ _ _=>rfl)) T a;have e:=J0 (ba X G uW (kI λ_ _ _ _ _ _ _ _=>rfl)) T a;have q:=ye (ba X G kK (mR λ_ _ _ _ _ _ _ _ _=>rfl)) T n d e;have t:=YG (yy X G LO LP LH Pe (rV λ_ _ _ _ _ _ _ _ _ _=>rfl)) T q;have n:=uP (ba X G iW (l9 λ_ _ _ _ _ _ _=>rfl)) T r t;have d:=Al (P:=l.prog) (w:=w) (base:=base) (ba X G my (O9 λ_ _ _ _ _ _ _ _ _ _ _=>rfl)) T;have e:=yi (ba X G kM (rV λ_ _ _ _ _ _ _ _ _ _=>rfl)) T d;have q:=Cp (ba X G oA (mR λ_ _ _ _ _ _ _ _ _=>rfl)) T e;have r:=qy (P:=l.prog) (w:=w) (base:=base) (ba X G gC (rV λ_ _ _ _ _ _ _ _ _ _=>rfl)) T;have e:=yg (P:=l.prog) (w:=w) (base:=base) (ba X G kN (mR λ_ _ _ _ _ _ _ _ _=>rfl)) T;have t:=B9 (P:=l.prog) (w:=w) (base:=base) (ba X G oB (kI λ_ _ _ _ _ _ _ _=>rfl)) T;have u:=Ad (P:=l.prog) (w:=w) (base:=base) (ba X G mz (l9 λ_ _ _ _ _ _ _=>rfl)) T;have d:=vz (P:=l.prog) (w:=w) (base:=base) (ba X G jN (rV λ_ _ _ _ _ _ _ _ _ _=>rfl)) T;have v:=B7 (ba X G oC (O9 λ_ _ _ _ _ _ _ _ _ _ _=>rfl)) T d;have x:=qz (cJ gD (rV λ_ _ _ _ _ _ _ _ _ _=>rfl)) T r e t u v;have d:=Cb (P:=l.prog) (w:=w) (base:=base) (cJ oE (l9 λ_ _ _ _ _ _ _=>rfl)) T;have e:=vD (cJ jO (mR λ_ _ _ _ _ _ _ _ _=>rfl)) T a;have r:=vF (cJ jP (kI λ_ _ _ _ _ _ _ _=>rfl)) T e;have t:=uE (cJ iX (kI λ_ _ _ _ _ _ _ _=>rfl)) T e;have u:=rS (cJ ia (rV λ_ _ _ _ _ _ _ _ _ _=>rfl)) T d g;have a:=qC (P:=l.prog) (w:=w) (base:=base) (cJ gE (rV λ_ _ _ _ _ _ _ _ _ _=>rfl)) T;have g:=Ao (cJ mB (kI λ_ _ _ _ _ _ _ _=>rfl)) T F;have e:=vG (cJ jQ (rV λ_ _ _ _ _ _ _ _ _ _=>rfl)) T x b d r t u a g;have v:=kX (P:=l.prog) (w:=w) (base:=base) (cJ eV (l9 λ_ _ _ _ _ _ _=>rfl)) T;have r:=vA (P:=l.prog) (w:=w) (base:=base) (cJ jR (l9 λ_ _ _ _ _ _ _=>rfl)) T;have g:=Y4 (yy X G LV LW LI Pf (kI λ_ _ _ _ _ _ _ _=>rfl)) T v r b d a;have l:=yt (ba X G kO (kI λ_ _ _ _ _ _ _ _=>rfl)) T e g;have a:=Cj (cJ oF (mR λ_ _ _ _ _ _ _ _ _=>rfl)) T e;exact Va (ng ll lc lk) T j B m i k o p n q l a g
theorem walk{l:W.OpenLaw}{q:Program}{a:List Str}{g:(Str->Option Value)->Heap->Prop}{c:World->Heap->Prop}{d:DefRec}{K:Params->W.Frag}(i:l.most=some 63)(j:d.params.defaults=[])
  (m:∀(w:World) (h:Heap),c w h->(K w.params).In h)
  (F:∀(w:World) (b:Str->Option Value) (e:Addr) (h:Heap),(K w.params).In h->h.Ns mainGlobals b->b d.name=some (.ref e)->
   ∃f:FuncData,(∀(s:Shared) (u:Value),BindsTo s f ([u],[]) [(("_law_script"),u)])/\∀base:Heap,(K w.params).In base->base.Ns mainGlobals b->j7 l.prog w (K w.params) b base Fb 10 e f fx (yx (K w.params))):
  W.WalkO q a g c l.row.toRowW d [] (λf vs=>PySem.call f vs):=
 L2.Nh (n:=63) (k:=10) (x:="_law_script") (CX:=λ_=>Fb) (sp:=λw=>yx (K w.params)) i ∅ j (rfl,∅,∅) m F (λ_ _ a b c _ d=>(a,b,rfl,d,c,λ_=>rfl)) λ_ _ _ _ _ z=>z
end GW
end
end
section
set_option hygiene false
local macro_rules | `(command| include $x*) => do return Lean.mkNullNode (← x.mapM λ i => do return (← `(def $i:ident := Nat)).raw)
namespace PySem.W.Fast
include tw9977383525530399807 tw7218473770437982285 tw6703243301328799882 tw2168655718282260013 tw17791303693454184594 tw6684445019351165989 tw17987069800575758257 tw11846623652199117562 tw15813110853254489551 tw10997280480678578464 tw997115780266571832 tw13542744233044918077 tw5539333097275641711 tw6033319117555131126 tw15776756061371353716 tw10809549957373891484 tw9727407263182272142 tw14537781654285785234 tw4679502571779307014 tw13057037959517335032 tw7507303440044435880 tw7344447626239058574 tw398591092552672169 tw2877507402930802909 tw14155571702966747235 tw13169551033964834811 tw3157632243446515931 tw5397493666275476159 tw8680764684245823048 tw17846291656393775085 tw9061101328131755942 tw4859432437913244506 tw1430779455092975133 tw9411265293355884064 tw7174778323617361071 tw1651739359719461114 tw14121077431724424442 tw4549484519697827521 tw11299129879868241117 tw6647588027056493960 tw10629014089849993488 tw4935360165210117202 tw3005553643298339976 tw15847563487044248114 tw9770065827590739552 tw9028402979939889834 tw10429204327731671701 tw910542730743853002 tw1054985224761198625 tw7534341997290806378 tw8338676250460182185 tw1541447871400393337 tw8754072320828990301 tw9176949561439450454 tw3515820657028816237 tw13096790886255783823 tw1820584242690257392 tw836344325626101979 tw13412569219492076113 tw13882559098618495850 tw5367299706002145708 tw9052647737560275230 tw14183517893573160073 tw7942129795295036775 tw3466449314529751059 tw5966560011640422851 tw15636749661535231869 tw3642428194355641049 tw7299714171203119769 tw8116442093891190860 tw2220141087162506093 tw13933241250638000428 tw10057839240069868911 tw6457625122375171713 tw7899749190799153909 tw9941618261715639501 tw17647593809469613425 tw257416812095082475 tw13974189384550331056 tw15044898741839710923 tw17260665896247625006 tw15868889162841004179 tw7917824112762281094 tw10454723939963494444 tw13966657854977390764 tw10009335730412329976 tw10051299076977886613 tw6923957532254676618 tw14323517028560190222 tw5271529415371333044 tw12218757206865191498 tw8769051534220675268 tw1297658279500249368 tw7901555567526687367 tw6895979656073817316 tw5096495345057135263 tw5661030135421547008 tw10560787230221858811 tw8811090953254623901 tw12479945635601814378 tw15723429116279529360 tw2691363011218629132 tw3922515460729253551 tw14943575876684345155 tw5375720937148202064 tw12372368737167326660 tw8925276795145172904 tw4891974078369779240 tw17468509918188630450 tw11861345452035890556 tw5450158429128214027 tw4010622250790909826 tw8513663498241309928 tw338114570087164273 tw10760012756190813812 tw7477206789275437035 tw1664185477344373929 tw11667430795735240303 tw1626440460931166549 tw2397842333206781474 tw7340350713513492226 tw1321884379707726503 tw5578494028285330392 tw2765602210490197942 tw2774531669571807815 tw10493574091045419032 tw14206996180603672627 tw3020108015853400128 tw4244949402334016285 tw14479704323183696552 tw7524811677042377386 tw12418061940407282194 tw13977107822892692177 tw17985328836391010249 tw6518732937421725485 tw10074539300656953144 tw5550827157460216619 tw3044493694483336082 tw10097287143474741776 tw15191334964590620426 tw4251480740679187801 tw5670308496944794266 tw4114766675978973481 tw9431080031326839422 tw10282368772301011689 tw16251931557889963507 tw13203901662482354793 tw10854101827019641708 tw7747877998027476425 tw8060697823623529846 tw11682109617775059753 tw5864197185593805257 tw13400831516718672104 tw18194083578486077274 tw15901760675412142847 tw13904001131758681350 tw15472221732021038697 tw15742653685953361244 tw2785757665580244383 tw4833457478017272958 tw301924837942503381 tw1884267963539499294 tw14727151417252696137 tw15739992204200850645 tw14622947685696454638 tw7584301789347563646 tw2040887588198608957 tw2211629480478838709 tw14864237274718679810 tw6531278129117794954 tw3556779009861080945 tw13424231386578574648 tw5738221628180944597 tw15461793550032804460 tw7265296038935911582 tw17571261942629697823 tw3191980877283658507 tw16457016114146525903 tw7092246834952856750 tw445776614512390314 tw16216904700493963390 tw8327979952255474032 tw4160304195971530987 tw11430273078370709786 tw4901164683848181552 tw3329408958017171495 tw1415776584891850482 tw7090583626032040766 tw4566718177588510464 tw17723508641550052653 tw10196149046892879285 tw6232169435636050956 tw7082475273902004841 tw6873915793584102350 tw10450220191011398340 tw17527640667901000898 tw12621862963322028345 tw2526486310592031546 tw11700648703393616793 tw3361079302442342464 tw5067869421725302687 tw11487749150132637144 tw7494074420754247473 tw7662900547368971566 tw14065062693473987710 tw9307710140930800586 tw15690925991557781674 tw12601183037820243081 tw8687111224911955520 tw9571296082737246943 tw16164764932037847417 tw8712267835156831465 tw12432260721225155892 tw5736853856101402046 tw6214457724675541900 tw10019579679854152607 tw7047404791200409394 tw13458235144287316296 tw12805657112042455761 tw15964825737060975320 tw11570521899213669567 tw14471658833118419017 tw9346152637959813974 tw13975561525033470784 tw7223920618291431825 tw6442388280989138196 tw2725536847965094852 tw4719622115373669189 tw13314004217559858527 tw7636512809543938215 tw10251648722768303341 tw8256959843141105264 tw7432178981008984415 tw11947433608114581104 tw15208445374422436140 tw13787090028764544748 tw7484488460502058963 tw11026451806377167557 tw7036716893850149008 tw640959512553614271 tw11587970486674131349 tw3714025056938355210 tw5010830183615882925 tw1444775496209767832 tw10111495521460749975 tw6174906048036372153 tw9439793532108088954 tw3492262653318973725 tw6077578946344154999 tw9538071990440974134 tw13477394623228771942 tw14835990425443516401 tw4704602269250639235 tw11302066471301937608 tw11114602945925778091 tw9538469098898284005 tw14990123786424325648 tw11853255385070111174 tw10677714731435976850 tw3813799702372179082 tw4145618438876290917 tw17004265017686429992 tw7893784703733634287 tw5531660913512553564 tw1312338509240895987 tw512601457879543297 tw5808458316070639475 tw6333583987180698332 tw7171672810274551408 tw12136441010502206132 tw12150324500891409263 tw17114206730226882766 tw5366658182244388547 tw9965563418961865405 tw15029477625750034493 tw12758646195728380479 tw680003232311928851 tw4318833649510613997 tw247647693166358446 tw16102182078703737054 tw11391462658129923337 tw5574179683490494497 tw10159260292405005388 tw10968270280185253133 tw17096442920038481082 tw16409661109165346614 tw16815972692136664892 tw5565492109928700979 tw11782923328186117495 tw5445726079546971576 tw13064832082070809011 tw11463222328188182824 tw2507595018241363425 tw17054420335585356875 tw8340704588079218245 tw11888142528502050392 tw7663788011778222261 tw4397196016960929473 tw9168226615832865176 tw3645340325825324218 tw7939762489384059569 tw16087916585249779593 tw2100784330327159291 tw12739836438122972557 tw9735629205416173046 tw4969924907931098625 tw14699549530523708619 tw16124103829167610291 tw6025663924929894101 tw551612090010369055 tw6244893849487354590 tw16202250852973918502 tw2553022379362428694 tw16793635034682686390 tw14284233895380187572 tw4481065641886838929 tw799935367051214259 tw10350331698004978601 tw14491188858582791832 tw16921897497470348071 tw5444105536217606294 tw3678444150973057891 tw18414457322699876303 tw13021055249550421831 tw16520049987586723505 tw4925588403212815222 tw1694326584525766505 tw3526098088013361462 tw6189277537777010379 tw8588720173149319762 tw10443920569087600691 tw17235278178465455091 tw2779771892941703003 tw5086072430841882537 tw4506489988599366480 tw608288665711937413 tw5412541792045968322 tw3455423920179485287 tw5952373727412810515 tw2181748076016596308 tw678980336250788962 tw11367990853173683108 tw9964983702085482893 tw12278720850729865113 tw18419136509833874582 tw11801828809736257037 tw13954545059533594252 tw18034744530491510484 tw13420563848113788115 tw11069364726723681759 tw111134184826659758 tw3171679666758109211 tw3344777123772399338 tw3614282953740478502 tw5294846491008238918 tw6799364414192867270 tw1488437005604442056 tw5066863387603835440 tw16753505543452559930 tw3726368601662978329 tw2474686979476969540 tw8953439279036446440 tw10279904658197803595 tw5034127286629640062 tw9176416785189993654 tw2523648239374433982 tw2906074294052470995 tw17816910020664765373 tw5463925930316502101 tw17561218170504781911 tw6886580849400679498 tw13692064459255126921 tw17614646905619077617 tw15471306060438659461 tw2076857743543239993 tw11145128853430432775 tw14056767120016153928 tw1350266767293527515 tw7757035261091172237 tw7244257323468908334 tw4393298103925008668 tw3732959864154778482 tw4617136695044117605 tw8486492551505562515 tw15091915123028100928 tw4551730480659274398 tw3560823703580827131 tw16762889590298553306 tw15673738034533382056 tw15387822718443952390 tw13604447391672329071 tw10472305963414991345 tw3869582086622995279 tw15532777838539939787 tw13080889052521277517 tw5318829960459829086 tw6256850874302221168 tw9919523175511936488 tw18423625696502618381 tw1448738055878673207 tw9648543617891056159 tw14157588089117836902 tw656070829563448264 tw934752498360819673 tw7255705200490481583 tw1734863611857421610 tw3798974634858937521 tw16353450795860758884 tw7218779118282980675 tw145733179073690965 tw13028251121506492431 tw16348248656023498633 tw4465441008309260428 tw17287172391370021192 tw13950504826080793828 tw8473266083624628721 tw6295274250629483288 tw235148560364184072 tw272979728973129936 tw10713435277014031765 tw101384570633500629 tw16127977646107582107 tw8234418435249129023 tw12080909475889844891 tw5223437023656534102 tw9442649396028386234 tw12276815843523792174 tw13984647773893901495 tw4700665254393024064 tw2510167624452173388 tw6843325442471274897 tw16556955430578124728 tw14693029217425769680 tw6593676443876711100 tw2677891646235239027 tw10980882059370029183 tw12341091654265680688 tw11340947432552804985 tw6853657803186723742 tw14726600303439676834 tw12537310921778802720 tw14922853756248736024 tw15332751472512076779 tw7625719535133201666 tw13784129571983576661 tw1089965302385542174 tw449790921964659377 tw16325274533406370498 tw4126271618845165988 tw5228597984483348311 tw15199114293064624081 tw4237866775050676132 tw11026801924311875046 tw14479351880033601175 tw15176396111937411948 tw2661289274278710343 tw4083887722316143559 tw2306575705993328580 tw10036491105608795681 tw2830366579734069735 tw348001830635205663 tw9452083484967650761 tw14513718272760757928 tw16079198173029684746 tw4458232718596798899 tw14694060240449242940 tw15572726600319855003 tw7361542292025983602 tw15512639222104500517 tw103250737617905767 tw13412141905501407695 tw8146388928491894703 tw1375698654246641298 tw15383821847643977561 tw6561882459532832819 tw14178779874773393231 tw1554160539438942276 tw13796580860172925203 tw15344197409361266637 tw2674967264319937465 tw3296470273775622011 tw7025333948947544855 tw6994783923863582381 tw13966298276188523534 tw13898102352674611412 tw8741001293290172656 tw15672843374542673554 tw5563900611443121101 tw8226357540332552811 tw5450573610514994899 tw6407225319158973221 tw10624585687518320525 tw18057791775285018139 tw5057040796945774325 tw1531458189903360839 tw875035616228846083 tw7220545417807415037 tw2264487177556768504 tw17860202169580573486 tw5849902937142068287 tw3378437137151398189 tw1652378473834147005 tw1596604572929322068 tw16637855769283812466 tw406951946733733744 tw9756376455523379459 tw4188461588708568625 tw1694204165790975479 tw9957571738150989428 tw12149938867943383960 tw14228989726800353553 tw5226466589699951776 tw1110747686574060040 tw8134169943317028617 tw13169171224322670163 tw12706418675035202290 tw8216391893433873687 tw10375263406104291788 tw10927125404561332001 tw2470778396666757669 tw11096339335011628554 tw7450443089441335716 tw30748094995641322 tw4895142577135038022 tw14050478486483449247 tw2882375380942929151 tw3731842520976777320 tw14034235945517481579 tw12093228968340893715 tw7398197248067751741 tw12468826598243378142 tw1743424518299923266 tw4670184156479584548 tw3630539262600829923 tw11374776371181895230 tw4649945225599932690 tw11101699978584289375 tw9240917159864723673 tw7900552641316355333 tw15236802774082376247 tw4629834244626122989 tw1479251646031311658 tw11356986754880998674 tw10967942754984157485 tw5990412725241083851 tw3643140405474921421 tw16266241454907585607 tw15754606220890900238 tw4001752739966608981 tw16921281398313702933 tw18279560979335884334 tw7631228611015195940 tw1230571159705288573 tw16270305810161433914 tw15147738647676030515 tw5495351805201346719 tw4517464510634413735 tw10140811211370700277 tw14911547111107642819 tw276384824688045854 tw7488148729142514052 tw14474200927723034140 tw9674745646654348806 tw7782173713000072354 tw16144088664564461599 tw6070504431524047901 tw7520463253237750434 tw6091301024526780417 tw16102120384691542711 tw5258119699308714186 tw10931951291906480380 tw13091355152359751312 tw15167666787411561670 tw16159078418744550350 tw17595540806853225641 tw3895611005867341666 tw15690849021728610165 tw17800264748627969436 tw6893651512331669977 tw18186469257915475316 tw17622753116476938970 tw7505322854941294237 tw11947833192758193817 tw5579951737811683997 tw10057242890631659996 tw17658927349492141009 tw11580905673462679904 tw2684811786840766984 tw9624079465285508205 tw13416024661549002705 tw3530332535144094334 tw17151931193609872841 tw718156950686964783 tw10030861930160122400 tw12224702183006229502 tw5933935852707415900 tw5422835942934252607 tw11638704718909063361 tw194432032314776320 tw12033192909547763804 tw10657513498101863421 tw3730676175103529912 tw6880876617704789116 tw29660081884483936 tw17527460317831683081 tw15437620413117538436 tw1384756316753334922 tw14269849944939884288 tw12196111653765105775 tw3315254357873884900 tw8731210440966007978 tw7276489730905060528 tw9162512951405381274 tw12462258634487214715 tw13913938484075361599 tw7911081976572698514 tw16485125997013975441 tw8712293324736547930 tw11321938308254862399 tw9666055618330952373 tw10315758561174261704 tw18423205959784446496 tw16280509249021821835 tw3595340827150914355 tw16796370693063660596 tw17830068977787359553 tw17861239036278792890 tw9663050994521827678 tw9896390409745519458 tw7190830546619739137 tw15498365657485069438 tw12070287941110873111 tw651823316634577713 tw7270450756398542958 tw6333694300937094151 tw1515573793963901290 tw16012392567147031832 tw6290620532759929900 tw6928429575630143323 tw367514716392860900 tw7318065868484687206 tw9561405287730487385 tw15584501389553020832 tw8145201218182989959 tw2292468040604240982 tw11034912491288633784 tw17663778556026265076 tw467999104429589970 tw1768289112999308191 tw17284245977318855430 tw16172741041451192480 tw9117934116411201074 tw1310383149051853428 tw14525476182516049079 tw18387017931048064901 tw17754515960767749059 tw7471730549987884439 tw104485634939740447 tw10465075613100691946 tw331959486628950068 tw1994510069438131385 tw5843634481038503081 tw7871017236238434398 tw10860668725498089406 tw10702800901439483244 tw17156141353731118422 tw11057442724837630687 tw13167211804581392793 tw16464822540318207097 tw16339817363885581852 tw74224723984573623 tw7814367907881598390 tw11245479337710667190 tw17300792223372750083 tw11615861560289470297 tw1714023950713505034 tw16332467857349760700 tw10233816024040475178 tw8072828601640525145 tw13402903710091319724 tw10421650780254344526 tw9114107247553050899 tw15371781784883313112 tw16747484144840114230 tw832975094028952656 tw5474777659366209541 tw13999278634821137207 tw7843803222903139984 tw9242240025899974061 tw13840576202427331909 tw14476773501758003757 tw2409496519976964121 tw2802075858535943316 tw12514631314297384516 tw13055239199909214078 tw6487724540770345923 tw18033789447323518501 tw17138819617147263719 tw5481246847806898859 tw165325828656116472 tw1262274994437417033 tw12267129671923504511 tw16275259196108945249 tw16406040639922944196 tw1579786867912676354 tw12911132596557426431 tw18201246679862103642 tw15590844151150138957 tw2220524072419029486 tw1937530643473953016 tw9060820294607689842 tw9578492094223328108 tw6095847312298780135 tw13872653620148126739 tw12221919760751055679 tw13845775277565832068 tw15746199595297987678 tw13695382577553393326 tw6272637290207547414 tw5311688666850441384 tw13965358592161561848 tw1602921396143230668 tw3726279426639539947 tw11228602214585017249 tw2232330544514230251 tw852527857936515018 tw2442376444169147542 tw14116332494424709469 tw15356445699760723306 tw42110589521828324 tw10831433811290752465 tw14559670065112570119 tw368122193955956631 tw12068448151732194165 tw5945618621462213656 tw2302283387336902545 tw158670818032077599 tw4630622799886176472 tw5017654133563574720 tw3697162102610026040 tw16468024352534696200 tw15158452427178768803 tw12342970277858425026 tw6826968382920866858 tw6605494463564706123 tw5498943322216283423 tw16583177380832556683 tw5041515475335571254 tw16075672565802059925 tw9889568536754704552 tw10545786081130539531 tw7214686419559527119 tw7255273703292668508 tw5294405571342713343 tw16263363972949107347 tw1547578189443707384 tw1220124099225793190 tw9574373922567432589 tw13135376353885449887 tw17559765525077082382 tw12612435690205845966 tw10460967258202534820 tw8754795684838950959 tw2238885482329524410 tw4659237997741235532 tw10199425254842557851 tw9628965662830191350 tw9675166141009166607 tw5965232888305764756 tw11870067188417390248 tw13358635405083569103 tw16612164251496049211 tw10717118617252293076 tw12654674151090080196 tw3157936991939303186 tw725600065007700965 tw13185890664059785718 tw1986317241734361543 tw13740611275677105273 tw15969578239899780524 tw11954577698901551242 tw2899502910515411108 tw232990808696715856 tw3201260795087414365 tw2326959853194682759 tw2629782878762267774 tw17947106931796548129 tw11270888513713698175 tw11961032581393267550 tw2692279661984095215 tw8680391296537024363 tw1378688543754151588 tw6813924668494450574 tw10215524267796298110 tw15336376616850684145 tw17502657011681289728 tw9427891280695891976 tw11292248492391872958 tw16615317469795102074 tw6152640519212354890 tw4593395827019755472 tw3868371756636355806 tw13073408803547252270 tw1641670147585485661 tw16559539676798337840 tw1757150635943127642 tw1780267705127621403 tw4252438388572788245 tw3023490955655413876 tw3676060693377555803 tw14927727759240226654 tw11205109044854335573 tw15416370756387564258 tw18158590154132138770 tw6444148171127440357 tw17210992916413867852 tw5300160483253472320 tw16204433003989369505 tw5658054486867895119 tw13183339104634165520 tw16346692359097757415 tw10266656090481472366 tw12034914017502485863 tw14571421686306871226 tw10495157522727697927 tw9347531407568172697 tw16818099711875736248 tw13537831807034413220 tw4373975836727114017 tw525391561569810237 tw16633543689257194840 tw10609217413135869931 tw10978142748902656952 tw2604791554067304091 tw11955630750505239496 tw11382242959258541512 tw14170053171743390384 tw5377452735110915940 tw2149431140107410393 tw15457128258860244277 tw5946916998893635914 tw7424825122579570930 tw3632824168563446502 tw5301945598620383434 tw4068558374477887334 tw15797185046264032596 tw4897409972073473147 tw2269015735079914292 tw11355346525292849479 tw8933514301544362862 tw15029254631133261153 tw12371053337473694789 tw5909282699646487905 tw14573899649777113356 tw15854231460817924525 tw12733081932394004809 tw2432419947338558865 tw17585629523473382650 tw17231603564987700659 tw10465734211249579348 tw4660552535702940603 tw11580996940825249351 tw23295109100148697 tw7005304455064888651 tw9981486231647915445 tw12555636580790072170 tw15925513848350215516 tw14023382230359510814 tw11470094198162711386 tw14913298834144156663 tw8433708994110669111 tw2277575228269336591 tw3949007396849519716 tw4162526237515214200 tw16384696085048346256 tw2649488074879918058 tw12503566912441253271 tw7577292297496316632 tw15027282965660565782 tw18242199300397557811 tw6596953519620014209 tw1362636520737302660 tw1310773094716024559 tw10957169206841790681 tw14426993991205734863 tw2627030231241595834 tw5370220264988573709 tw10405521128710974035 tw15464374097877340353 tw9509169726776393262 tw8177590873070154411 tw18261161662134636716 tw7101897330197984791 tw14198361804085431051 tw2304242629638661621 tw6667429569633787893 tw10507413404137714817 tw8626408452062837482 tw7385687372448719373 tw6106296611397514149 tw5495208800952097300 tw10793555136680303560 tw2836950879189426207 tw8091523863201144499 tw18198508799521967802 tw6032557325450381458 tw12674973458251636951 tw4048521718920436308 tw2332420760635968214 tw10121371283298013655 tw4735672806332054061 tw4710783825826399462 tw15433850510187475365 tw4993055867884094999 tw10291663626570002126 tw956529156065552511 tw2621777089067113003 tw17029791563734539544 tw16280962455885534399 tw4544887927993078759 tw15550873647190501932 tw15263676297625369775 tw8171477431765705716 tw11973856721183763804 tw2024739625526067430 tw13057108902350804699 tw4463026168701468807 tw3132064230359656641 tw10838427100614374113 tw12547339497808314160 tw4317545991831885887 tw5284853688718009844 tw9331770207082604042 tw736405154742746945 tw7023772852253527817 tw4068762590963257033 tw14269141219565728440 tw11826457968100868720 tw15844486032317905677
end PySem.W.Fast
end
open PySem PySem.W PyProof.Rows
local macro_rules | `(tactic| walk_at "d") => `(tactic| first | exact GW.QZ (by k_is) (by k_is) (by k_is) (by k_is) | (refine' GW.QZ ?a ?l ?c ?k; (case a => k_is); (case l => k_is); (case c => k_is); (case k => k_is)))
local macro_rules | `(tactic| walk_at "x") => `(tactic| (refine' GW.aaH ?a ?b ?c ?d ?e ?f ?g; (case a => k_is); (case b => k_is); (case c => k_is); (case d => k_is); (case e => k_is); (case f => k_is); (case g => k_is)))
local macro_rules | `(tactic| walk_at "m") => `(tactic| first | exact GW.Q0 (by k_is) (by k_is) (by k_is) (by k_is) (by k_is) | (refine' GW.Q0 ?a ?i ?l ?c ?k; (case a => k_is); (case i => k_is); (case l => k_is); (case c => k_is); (case k => k_is)))
set_option maxRecDepth 100000 in
set_option maxHeartbeats 0 in
theorem PySem.Challenge.cw_cutrestore_k32_words_of_two_holds : PySem.Challenge.rw_cutrestore_k32_words_of_two.Holds := by
 w_on;o_law;k_head;(case hw=>w_witness2)
 k_fill
 refine GW.walk (l:=PySem.Challenge.rw_cutrestore_k32_words_of_two) rfl rfl (λw h Y=>W.kIn_of Y) ?F
 case F=>
  intro w mg fa h KX G W9;refine' GW.all_mk KX G W9 ?aB ?XN ?tyB ?Vc ?Gy ?Pa ?Gz ?GB ?Pb ?Pc ?GC ?GD ?Pd ?GG ?ED ?xi ?EF ?xj ?EG ?xk ?xl ?xm ?xn ?fX ?fA ?fB ?dA ?ff ?eF ?fY ?cK ?Vd ?Ve ?Vf ?Vg ?Vh ?Vi ?Ly ?Lz ?LC ?LD ?LF ?LG ?pN ?Pe ?Pf ?ma ?qN ?iR ?qO ?iS ?oj ?mf ?iT ?gi ?jJ ?hX ?mh ?fL ?mj ?kJ ?qP ?om ?oq ?jK ?iU ?ml ?uV ?mn ?mq ?ou ?mr ?mw ?oy ?jL ?qQ ?qR ?qS ?oz ?qT ?qU ?iV ?qV ?jM ?gB ?qW ?mx ?uW ?kK ?LH ?iW ?my ?kM ?oA ?gC ?kN ?oB ?mz ?jN ?oC ?gD ?oE ?jO ?jP ?iX ?ia ?gE ?mB ?jQ ?eV ?jR ?LI ?kO ?oF ?LJ ?qX ?qY ?qZ ?q0 ?q5 ?q8 ?FI ?FJ ?Qd ?Ts ?Qe ?LK ?LL ?LM ?LN ?LO ?LP ?JO ?JP ?zK ?zL ?BY ?LQ ?LR ?LS ?LU ?LV ?LW ?JQ ?JR ?cS ?cX ?b8 ?eC ?cY ?cb ?fg ?de ?eR ?cB ?kP ?LX ?Cz ?LY ?yz ?CA ?LZ ?yA ?L3 ?L4 ?L5 ?L6 ?L7 ?mC ?kQ ?eA ?dN ?dO ?fI ?dj ?fM ?dP ?eB ?aF ?lF ?neF ?lP0 ?lP1 ?lP2 ?lP3 ?lP4 ?lP5 ?lP6 ?lP7 ?Vj ?hnB
  (case aB|XN|tyB|Vc=>k_is)
  (case Gy|Pa|Gz|GB|Pb|Pc|GC|GD|Pd|GG|ED|xi|EF|xj|EG|xk|xl|xm|xn=>walk_at "x")
  (case fX|fA|fB|dA|ff|eF|fY|cK|Vd|Ve|Vf|Vg|Vh|Vi|Ly|Lz|LC|LD|LF|LG|pN|Pe|Pf=>k_is)
  (case ma|qN=>walk_at "d")
  (case iR|qO|iS=>walk_at "m")
  (case oj|mf=>walk_at "d")
  (case iT|gi|jJ|hX=>walk_at "m")
  (case mh=>walk_at "d")
  (case fL|mj=>walk_at "m")
  (case kJ|qP|om|oq|jK|iU|ml|uV|mn|mq|ou|mr|mw|oy|jL|qQ|qR|qS|oz|qT|qU|iV|qV|jM|gB=>walk_at "d")
  (case qW=>walk_at "m")
  (case mx|uW|kK=>walk_at "d")
  (case LH=>walk_at "m")
  (case iW|my|kM|oA|gC|kN|oB|mz|jN|oC=>walk_at "d")
  (case gD|oE|jO|jP|iX|ia|gE|mB|jQ|eV|jR|LI=>walk_at "m")
  (case kO=>walk_at "d")
  (case oF=>walk_at "m")
  (case LJ=>walk_at "d")
  (case qX|qY|qZ|q0|q5|q8|FI|FJ|Qd|Ts|Qe|LK|LL|LM|LN|LO|LP|JO|JP|zK|zL|BY|LQ|LR|LS|LU|LV|LW|JQ|JR|cS|cX|b8|eC|cY|cb|fg|de|eR|cB|kP|LX|Cz|LY|yz|CA|LZ|yA|L3|L4|L5|L6|L7|mC|kQ|eA|dN|dO|fI|dj|fM|dP|eB|aF|lF=>k_is)
  (case neF=>first|rfl|decide)
  (case lP0|lP1|lP2|lP3|lP4|lP5|lP6|lP7=>k_is)
  (case Vj|hnB=>decide +kernel)
