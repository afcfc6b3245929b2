import PyProof.Rows.All
import Wide.All
import OpenK.AllK
import Wide.FinOn
import Lean
import PyProof.EqAt
import PyProof.EqKinds
import PyProof.TupleCall
import PyProof.NeKinds
import PyProof.Rows.Range3
import KE.KIsAll
import PyProof.ExcClass3
import PyProof.InstStoreFacts
import PyProof.ExcArgsOwn
import PyProof.ExcBaseAll.ValueError
import PyProof.ExcAttrAll.ValueError
import PyProof.Draws
import PyProof.ZipIter
import PyProof.SumWalk
import PyProof.Rows.FactsT2
import PyProof.EnumMake
import PyProof.Rows.EnumRows
import KE.KTab
import PyProof.StationsW
import PyProof.RulesAs
import PyProof.NsDelKeeps
import PyProof.PassesOwn
import PyProof.Rows.ListMulArg
import PyProof.StrWalks
import PyProof.MeetsStr
import PyProof.MeetsStr2
import PyProof.StrBlockL
import PyProof.SliceStr2
import PyProof.StrLawsIdx
import PyProof.FitsStr
import PyProof.StrLaws
import PyProof.Rows.FStr
import KE.KIntText
import PyProof.StrLawsTight
import PyProof.Rows.StrIntSpec
import PyProof.Rows.CountFlat
import PyProof.Rows.SeqMore2
import PyProof.SeqRoads
import PyProof.StrLawsAffix
import PyProof.InstEq
import KE.KSortTup
import PyProof.DictUpdate
import PyProof.DictWalks
import KE.KDictList
import PyProof.FactsAll.NoneType_1
import Wide.Seal
import PyProof.WalkInts
import PyProof.Rows.CallKwBuiltin
import KE.KMinKey
import PyProof.ListRange
import PySem.Challenge.RW_cutrestore_k44_no_cuts
set_option compiler.extract_closed false
set_option Elab.async false
set_option linter.all false
set_option maxRecDepth 100000
theorem L2.fo{p:Prop}(h:∀g:Prop,(p->g)->g):p:=h p id
theorem L2.yo1{A:Sort _}{p:A->Prop}{z:Prop}(h:∃a,p a)(y:∀a,p a->z):z:=h.elim λa x=>y a x
theorem L2.yo2{A B:Sort _}{p:A->B->Prop}{z:Prop}(h:∃a b,p a b)(y:∀a b,p a b->z):z:=h.elim λa x=>x.elim λb x=>y a b x
theorem L2.yo3{A B C:Sort _}{p:A->B->C->Prop}{z:Prop}(h:∃a b c,p a b c)(y:∀a b c,p a b c->z):z:=h.elim λa x=>x.elim λb x=>x.elim λc x=>y a b c x
theorem L2.yo4{A B C D:Sort _}{p:A->B->C->D->Prop}{z:Prop}(h:∃a b c d,p a b c d)(y:∀a b c d,p a b c d->z):z:=h.elim λa x=>x.elim λb x=>x.elim λc x=>x.elim λd x=>y a b c d x
theorem L2.yo5{A B C D E:Sort _}{p:A->B->C->D->E->Prop}{z:Prop}(h:∃a b c d e,p a b c d e)(y:∀a b c d e,p a b c d e->z):z:=h.elim λa x=>x.elim λb x=>x.elim λc x=>x.elim λd x=>x.elim λe x=>y a b c d e x
theorem L2.yo6{A B C D E F:Sort _}{p:A->B->C->D->E->F->Prop}{z:Prop}(h:∃a b c d e f,p a b c d e f)(y:∀a b c d e f,p a b c d e f->z):z:=h.elim λa x=>x.elim λb x=>x.elim λc x=>x.elim λd x=>x.elim λe x=>x.elim λf x=>y a b c d e f x
theorem L2.yo7{A B C D E F G:Sort _}{p:A->B->C->D->E->F->G->Prop}{z:Prop}(h:∃a b c d e f g,p a b c d e f g)(y:∀a b c d e f g,p a b c d e f g->z):z:=h.elim λa x=>x.elim λb x=>x.elim λc x=>x.elim λd x=>x.elim λe x=>x.elim λf x=>x.elim λg x=>y a b c d e f g x
theorem L2.yo8{A B C D E F G H:Sort _}{p:A->B->C->D->E->F->G->H->Prop}{z:Prop}(h:∃a b c d e f g h,p a b c d e f g h)(y:∀a b c d e f g h,p a b c d e f g h->z):z:=h.elim λa x=>x.elim λb x=>x.elim λc x=>x.elim λd x=>x.elim λe x=>x.elim λf x=>x.elim λg x=>x.elim λh x=>y a b c d e f g h x
theorem L2.ya2{A B y:Prop}(h:A/\B)(x:A->B->y):y:=x h.1 h.2
theorem L2.ya3{A B C y:Prop}(h:A/\B/\C)(x:A->B->C->y):y:=x h.1 h.2.1 h.2.2
theorem L2.ya4{A B C D y:Prop}(h:A/\B/\C/\D)(x:A->B->C->D->y):y:=x h.1 h.2.1 h.2.2.1 h.2.2.2
theorem L2.ya5{A B C D E y:Prop}(h:A/\B/\C/\D/\E)(x:A->B->C->D->E->y):y:=x h.1 h.2.1 h.2.2.1 h.2.2.2.1 h.2.2.2.2
theorem L2.ya6{A B C D E F y:Prop}(h:A/\B/\C/\D/\E/\F)(x:A->B->C->D->E->F->y):y:=x h.1 h.2.1 h.2.2.1 h.2.2.2.1 h.2.2.2.2.1 h.2.2.2.2.2
theorem L2.ya7{A B C D E F G y:Prop}(h:A/\B/\C/\D/\E/\F/\G)(x:A->B->C->D->E->F->G->y):y:=x h.1 h.2.1 h.2.2.1 h.2.2.2.1 h.2.2.2.2.1 h.2.2.2.2.2.1 h.2.2.2.2.2.2
theorem L2.ya8{A B C D E F G H y:Prop}(h:A/\B/\C/\D/\E/\F/\G/\H)(x:A->B->C->D->E->F->G->H->y):y:=x h.1 h.2.1 h.2.2.1 h.2.2.2.1 h.2.2.2.2.1 h.2.2.2.2.2.1 h.2.2.2.2.2.2.1 h.2.2.2.2.2.2.2
theorem L2.ya9{A B C D E F G H I y:Prop}(h:A/\B/\C/\D/\E/\F/\G/\H/\I)(x:A->B->C->D->E->F->G->H->I->y):y:=x h.1 h.2.1 h.2.2.1 h.2.2.2.1 h.2.2.2.2.1 h.2.2.2.2.2.1 h.2.2.2.2.2.2.1 h.2.2.2.2.2.2.2.1 h.2.2.2.2.2.2.2.2
section
set_option hygiene false
local macro_rules | `(tactic| calc $e:term) => `(tactic| refine $e)
local macro_rules | `(tactic| lia) => `(tactic| first | with_reducible assumption | exact Nat.zero_le _ | exact Nat.le_refl _ | (refine Nat.le_of_lt ?_; with_reducible assumption) | (refine Nat.lt_succ_of_le ?_; with_reducible assumption) | (refine Int.ofNat_lt.mpr ?_; with_reducible assumption) | (refine Eq.symm ?_; with_reducible assumption) | omega)
local macro_rules | `(tactic| obtain $p:rcasesPatMed := $e:term) => `(tactic| (refine L2.fo λgZ hZ => ?_; rcases $e:term with $p:rcasesPatMed) <;> (refine hZ ?_; clear hZ gZ))
local macro_rules
 | `(tactic| obtain ⟨$ps,*⟩ := $e:term) => do
  let q := ps.getElems
  let n := q.size
  let k0 ← `(tactic| skip)
  let i : Lean.Ident := ⟨e.raw⟩
  let ce ← if e.raw.isIdent then `(tactic| try clear $i:ident) else pure k0
  let mut xs := #[]
  let mut re := #[]
  for p in q do
    let a := p.raw[0][0]
    let x := a[0][0]
    let z := Lean.mkIdent (.num `z_ xs.size)
    let b := x.isIdent && a.getNumArgs == 1 && x.getId != `rfl
    let r ← `(tactic| rcases $z:ident with $p:rcasesPatLo)
    xs := xs.push (if b then ⟨x⟩ else z)
    re := re.push (if b then k0 else r)
  let mut t ← `(tactic| rcases $e:term with ⟨$q,*⟩)
  for m in [2:n+n] do
    let c := if m ≤ n then m - 1 else m - n
    let l := Lean.mkIdent (.str `L2 (if m ≤ n then s!"ya{m}" else s!"yo{c}"))
    let w := q[c:].toArray
    let w ← `(tactic| obtain ⟨$w,*⟩ := zH)
    let f := n ≤ c + 1
    let y := if f then xs else xs[:c].toArray.push (Lean.mkIdent `zH)
    let r := if f then re else re[:c].toArray.push w
    t ← `(tactic| first | (refine $l $e ?_; ($ce:tactic); intro $y*; $[$r]*) | $t:tactic)
  if e.raw.getId == `zH then return t
  `(tactic| (refine L2.fo λgZ hZ => ?_; $t:tactic) <;> (refine hZ ?_; clear hZ gZ))
local macro_rules | `(tactic| nofun) => `(tactic| refine L2.fo λgZ hZ => ?_)
local macro_rules | `(tactic| ac_rfl) => `(tactic| (refine hZ ?_; clear hZ gZ))
local macro_rules | `(()) => `(by lia)
local macro_rules | `(∅) => `(by decide)
local macro_rules | `(⋯) => `(by decide +kernel)
local macro_rules | `(nofun) => `(by simp)
local macro_rules | `(Sort) => `(by grind)
set_option hygiene true
set_option hygiene false
local macro_rules | `(tactic| grind) => `(tactic| first | exact Or.inl rfl | exact Or.inr rfl | assumption)
local macro_rules | `(tactic| exists $n:term) => `(tactic| (have sc : List.Nodup ($n : List PySem.Str) := (by decide +kernel); refine D.ok (N:=$n) (by walk_at "s") (λvs H Q E h => ?_) (λf fY A outer s H vs Q E hr h => ?_); (first | (cases h; subst_vars; rfl) | ((repeat rcases h with ⟨_, h⟩) <;> subst_vars <;> rfl))))
local macro_rules
 | `(tactic| walk_at "xc") => `(tactic| (refine ⟨?_⟩; intro pins s σ H Q I h))
 | `(tactic| walk_at "xd") => `(tactic| (refine ⟨?_⟩; intro pins s σ H D I h))
 | `(tactic| walk_at "xf") => `(tactic| refine ⟨Ext.set (Ext.refl _) rfl, ?_⟩)
 | `(tactic| walk_at "xg") => `(tactic| refine L2.fJ λN1 h1 => ?_)
 | `(tactic| walk_at "xh") => `(tactic| refine D.okx sc (λvs H Q E h => ?_) (λf fY A outer s H vs Q E hr h => ?_))
set_option hygiene true
set_option hygiene false
local macro_rules
 | `(tactic| let ($a,$b,*) := $e) => do
  let w (n : Lean.Syntax) : Lean.MacroM (Lean.TSyntax ``Lean.Parser.Tactic.rcasesPatLo) := do
   let x : Lean.TSyntax `rcasesPat := ⟨n⟩
   `(Lean.Parser.Tactic.rcasesPatLo| $x:rcasesPat)
  let t (p : Array Lean.Syntax) : Lean.MacroM Lean.Syntax := do
   let q ← p.mapM w
   return (← `(rcasesPat| ⟨$q,*⟩)).raw
  let r ← (← `(($a,$b,*))).raw.rewriteBottomUpM λ n => do
   if n.isIdent then
    let i : Lean.Ident := ⟨n⟩
    return (← `(rcasesPat| $i:ident)).raw
   if n.isOfKind ``Lean.Parser.Term.hole then return (← `(rcasesPat| _)).raw
   if n.isOfKind ``Lean.Parser.Term.tuple then return ← t (#[n[1][0]] ++ n[1][2].getSepArgs)
   if n.isOfKind ``Lean.Parser.Term.anonymousCtor then return ← t n[1].getSepArgs
   return n
  let r : Lean.TSyntax `rcasesPat := ⟨r⟩
  `(tactic| obtain $r:rcasesPat := $e)
local macro_rules
 | `(($a,$b,*)) => if a.raw.isOfKind ``Lean.Parser.Term.paren then Lean.Macro.throwUnsupported else `(⟨$a,$b,*⟩)
set_option hygiene true
abbrev zA1:= @PySem.F.excBase_ValueError
abbrev vZ:= @PyProof.Rows.boot_isinstance
abbrev qb:= @PySem.F.plainAttrs_list
abbrev sm:= @PySem.F.slot_list_append
abbrev sr:= @PySem.F.type_list_append
abbrev su:= @PyProof.Rows.boot_tuple
abbrev Bd:= @PyProof.Rows.boot_list
abbrev U7:= @PyProof.Rows.boot_all
section
open PySem
abbrev F':= @wpAny_bind
abbrev J':= @List.getElem?_map
abbrev K':= @Heap.get?_push_of_some
abbrev L':= @Nat.le_refl
abbrev M':= @Nat.le_of_lt
abbrev P':= @wpAny_pure
abbrev R':= @Heap.lt_size
abbrev S':= @Bool.false_ne_true
abbrev T':= @List.length_map
abbrev U':= @PySem.boot_len
abbrev V':= @Nat.lt_of_lt_of_le
abbrev W':= @List.map_append
abbrev X':= @List.getElem?_append_right
abbrev Y':= @Heap.get?_push_size
abbrev aad:= @List.getElem?_append_left
abbrev aah:= @List.getD_eq_getElem?_getD
abbrev aai:= @Nat.ne_of_lt
abbrev aaj:= @List.size_toArray
abbrev aak:= @List.mem_cons_of_mem
abbrev aal:= @decide_eq_true
abbrev aam:= @decide_eq_false
abbrev aan:= @List.append_nil
abbrev aao:= @List.mem_of_getElem?
abbrev aap:= @Nat.zero_le
abbrev aaq:= @PySem.mem_of_lookup
abbrev aar:= @Nat.le_trans
abbrev aas:= @List.mem_cons_self
abbrev aat:= @List.length_append
abbrev aau:= @List.mem_append_right
abbrev aav:= @Int.toNat_natCast
abbrev aaw:= @sizeLine_eq
abbrev aax:= @List.getElem_mem
abbrev aay:= @Heap.size_push
abbrev aaz:= @List.take_length
abbrev aaA:= @False.elim
abbrev aaB:= @wpAny_field
abbrev aaC:= @wpAny_loadPart_at
abbrev aaD:= @True.intro
abbrev aaE:= @List.take_of_length_le
abbrev aaF:= @Bool.and_eq_true
abbrev aaG:= @W.mg_none_of
abbrev aaH:= @wpAny_mono
abbrev aaI:= @Array.getD_eq_getD_getElem?
abbrev aaJ:= @Nat.ne_of_gt
abbrev aaK:= @Int.emod_nonneg
abbrev aaL:= @Int.emod_lt_of_pos
abbrev aaM:= @of_decide_eq_true
abbrev aaN:= @wpAny_holding
abbrev aaO:= @Int.eq_ofNat_of_zero_le
abbrev aaP:= @Nat.lt_irrefl
abbrev aaQ:= @Heap.get?_update_other
abbrev aaR:= @decide_eq_true_eq
abbrev aaS:= @List.length_cons
abbrev aaT:= @List.length_take
abbrev aaU:= @wpAny_pyIter_tuple
abbrev aaV:= @Heap.size_update
abbrev aaW:= @List.map_cons
abbrev aaX:= @wpAny_callSpecial?_slot
abbrev aaY:= @wpAny_newObj_type
abbrev aaZ:= @wpAny_isSubtype_exc
abbrev aa0:= @Int.toNat_of_nonneg
abbrev aa1:= @List.getElem?_set_self
abbrev aa2:= @Nat.le_succ
abbrev aa3:= @wpAny_call_entry
abbrev aa4:= @Heap.get?_update_self
abbrev aa5:= @Nat.lt_of_le_of_lt
abbrev aa6:= @List.take_succ
abbrev aa7:= @PyProof.Rows.slot_tuple_getitem
abbrev aa8:= @List.getElem?_set_ne
abbrev aa9:= @Nat.not_lt_zero
abbrev aba:= @wpAny_truthy_bool
abbrev abb:= @Heap.get?_push_ne
abbrev abc:= @List.take_add_one
abbrev abd:= @wpAny_seqItems
abbrev abe:= @Nat.le_add_right
abbrev abf:= @List.mem_range
end
section
open PySem
abbrev ah:List Str:=["_law_pot_here","_law_many"]
abbrev aK:List Str:=["self","way","number","at"]
abbrev bh:List Str:=["_law_door","_law_told","_law_cut","_law_bad"]
abbrev bx:List Str:=["self","way","number"]
abbrev b8:List Str:=["thing","low","beyond"]
abbrev cb:List Str:=["self","m"]
abbrev cx:List Str:=["run","cut"]
abbrev cz:List Str:=["self"]
abbrev cI:List Str:=["thing","many"]
abbrev c6:List Str:=["_law_value_here","_law_state","_law_way","_law_said","_law_modulus"]
abbrev c7:List Str:=["run","one","other"]
abbrev da:List Str:=["_law_machine_here","_law_state","_law_way","_law_said"]
abbrev de:List Str:=["run","m","c"]
abbrev dg:List Str:=["self","modulus","numbers","row","deeds"]
abbrev dh:List Str:=["value","state","way","said","modulus"]
abbrev dn:List Str:=["numbers","deed","worths","modulus"]
abbrev dt:List Str:=["self","machines","ways","letters"]
abbrev du:List Str:=["self","way","said","sender"]
abbrev dV:List Str:=["things","least","most","modulus"]
abbrev d7:List Str:=["modulus","numbers","row","deeds"]
abbrev d8:List Str:=["_law_k","_law_pot_here","_law_modulus"]
abbrev d9:List Str:=["_law_one","_law_way","_law_said","_law_numbers","_law_row","_law_machine_here"]
abbrev eb:List Str:=["things","least","most"]
abbrev ec:List Str:=["_law_run","_law_way","_law_number"]
abbrev ed:List Str:=["machines","ways","letters"]
abbrev ef:List Str:=["_law_script","_law_k"]
abbrev eh:List Str:=["_law_run","_law_cut","_law_cell"]
abbrev ek:List Str:=["_law_net_here"]
abbrev eo:List Str:=["_law_k","_law_told","_law_m"]
abbrev et:List Str:=["value","state","way","said"]
abbrev eu:List Str:=["_law_script"]
abbrev eD:List Str:=["_law_net_here","_law_cells"]
abbrev eH:List Str:=["self","state","way","said"]
abbrev eP:List Str:=["thing","sort","many"]
abbrev fh:List Str:=["row","deed","worths"]
abbrev fv:List Str:=["_law_run","_law_way"]
abbrev fy:List Str:=["self","way","at"]
abbrev fU:List Str:=["run","cut","way","number"]
abbrev gg:List Str:=["self","m","end"]
abbrev gP:List Str:=["_law_one"]
abbrev g0:List Str:=["_law_run","_law_cell"]
abbrev g8:List Str:=["deed","worths"]
abbrev hE:List Str:=["passed","cut"]
abbrev hQ:List Str:=["event","cut"]
abbrev hY:List Str:=["run","thing"]
end
namespace L2
open PySem PySem.Spec PyProof.Rows
section
theorem dH{α:Type _}{l:List α}{i:Nat}(h:i<l.length):l[i]?=some l[i]:=List.getElem?_eq_getElem h
abbrev Key:=Sum Int Str
def sW:Key->Value->Bool
 | .inl k,v=>Value.isInt k v
 | .inr x,v=>Value.isStrOf x v
def abA(w:World):Key->Int
 | .inl k=>hashInt k
 | .inr x=>hashStr w x
theorem cX:∀{k:Key}{v:Value},sW k v=true->(∃i t,k=Sum.inl i/\v=Value.int i t)\/(∃x t,k=Sum.inr x/\v=Value.str x t)
 | .inl i,v,h=>by
  let(t,e):=Value.isInt_shape (k:=i) (v:=v) h;calc .inl (i,t,rfl,e)
 | .inr x,v,h=>by
  let(t,e):=Value.isStrOf_shape (x:=x) (v:=v) h;calc .inr (x,t,rfl,e)
theorem Fe(i:Int)(t:Tok):sW (.inl i) (.int i t)=true:=by simp[sW,Value.isInt]
theorem Ff(x:Str)(t:Tok):sW (.inr x) (.str x t)=true:=by simp[sW,Value.isStrOf]
theorem Rb(a b:Int):decide ((Sum.inl a:Key)=Sum.inl b)=(a==b):=by
 by_cases e:a=b
 ·subst e;simp
 ·have h:¬(Sum.inl a:Key)=Sum.inl b:=λq=>e (Sum.inl.inj q);rw[aam h];calc(beq_eq_false_iff_ne.mpr e).symm
theorem Rc(a b:Str):decide ((Sum.inr a:Key)=Sum.inr b)=decide (a=b):=by
 by_cases e:a=b
 ·subst e;simp
 ·have h:¬(Sum.inr a:Key)=Sum.inr b:=λq=>e (Sum.inr.inj q);rw[aam h,aam e]
theorem Rf(a:Int)(b:Str):decide ((Sum.inl a:Key)=Sum.inr b)=false:=aam (λq=>nomatch q)
theorem Rg(a:Str)(b:Int):decide ((Sum.inr a:Key)=Sum.inl b)=false:=aam (λq=>nomatch q)
def dJ(prog:Program)(w:World):PySem.KeyKind prog w Key where
 is:=sW
 hash:=abA w
 inj:=λv a b f d=>by
  rcases cX f with⟨i,t,rfl,rfl⟩|⟨x,t,rfl,rfl⟩
  ·rcases cX d with⟨j,u,rfl,e⟩ | ⟨y,u,rfl,e⟩
   ·injection e with e1 _;rw[e1]
   ·exact nomatch e
  ·rcases cX d with⟨j,u,rfl,e⟩ | ⟨y,u,rfl,e⟩
   ·exact nomatch e
   ·injection e with e1 _;rw[e1]
 byValue:=λk v h=>by
  rcases cX h with⟨i,t,rfl,rfl⟩|⟨x,t,rfl,rfl⟩<;>rfl
 pyHash:=λc h=>by
  rcases cX c with⟨i,t,rfl,rfl⟩|⟨x,t,rfl,rfl⟩
  ·exact wpAny_pyHash_int h
  ·exact wpAny_pyHash_str h
 eqBool:=λg c h=>by
  rcases cX g with⟨i,t,rfl,rfl⟩|⟨x,t,rfl,rfl⟩
  ·rcases cX c with⟨j,u,rfl,rfl⟩ | ⟨y,u,rfl,rfl⟩
   ·rw[Rb]at h;exact wpAny_eqBool_int h
   ·rw[Rf]at h;exact SeqAt.EqAt.int_str i t y u _ _ _ _ h
  ·rcases cX c with⟨j,u,rfl,rfl⟩ | ⟨y,u,rfl,rfl⟩
   ·rw[Rg]at h;exact SeqAt.EqAt.str_int x t j u _ _ _ _ h
   ·rw[Rc]at h;exact wpAny_eqBool_str h
 «strs»:=λk x t v h=>by
  rcases cX h with⟨i,u,rfl,e⟩|⟨y,u,rfl,e⟩
  ·exact nomatch e
  ·injection e with e1 _
   subst e1
   cases v<;>rfl
theorem Bq(prog:Program)(w:World)(k:Key)(v:Value):(dJ prog w).is k v=sW k v:=rfl
theorem yW(prog:Program)(w:World)(i:Int)(t:Tok):(dJ prog w).is (.inl i) (.int i t)=true:=Fe i t
theorem yX(prog:Program)(w:World)(x:Str)(t:Tok):(dJ prog w).is (.inr x) (.str x t)=true:=Ff x t
end
section
variable {a b:Addr}{H:Hp}
inductive V where
 |bO|bl (b:Bool)|int (i:Int)|str (x:Str)|Dg (b:Array UInt8)|Pj (b:UInt64)|ref (a:Addr)|ty (n:String)
 deriving DecidableEq
def RelV:V->Value->Prop
 | .bO,u=>u=Value.none
 | .bl b,u=>u=Value.bool b
 | .int i,u=>∃t,u=Value.int i t
 | .str x,u=>∃t,u=Value.str x t
 | .Dg b,u=>∃t,u=Value.bytes b t
 | .Pj b,u=>∃t,u=Value.float b t
 | .ref a,u=>u=Value.ref a
 | .ty n,u=>u=Value.type n
abbrev Vals:List V->List Value->Prop:=Paired RelV
theorem Vals.length{xs:List V}{us:List Value}(r:Vals xs us):xs.length=us.length:=Paired.length r
theorem Vals.get:∀{xs:List V}{us:List Value}{i:Nat}{x:V},Vals xs us->xs[i]?=some x->∃u,us[i]?=some u/\RelV x u
 |_,_,_,_,.nil,e=>by simp at e
 |_,_,0,_,.cons r _,e=>by simp at e;subst e;calc(_,rfl,r)
 |_,_,i+1,x,.cons _ t,e=>by
  let(u,a,b):=Vals.get (i:=i) (x:=x) t (by simpa using e);calc(u,by simpa using a,b)
theorem Vals.set{x:V}{u:Value}(r:RelV x u):∀{xs:List V}{us:List Value}(i:Nat),Vals xs us->Vals (xs.set i x) (us.set i u)
 |_,_,_,.nil=>.nil
 |_,_,0,.cons _ t=>.cons r t
 |_,_,i+1,.cons q t=>.cons q (Vals.set r i t)
theorem Vals.append:∀{xs a:List V}{us ws:List Value},Vals xs us->Vals a ws->Vals (xs++a) (us++ws)
 |_,_,_,_,.nil,s=>s
 |_,_,_,_,.cons r t,s=>.cons r (Vals.append t s)
theorem Vals.take:∀{xs:List V}{us:List Value}(n:Nat),Vals xs us->Vals (xs.take n) (us.take n)
 |_,_,0,_=>.nil
 |_,_,_+1,.nil=>.nil
 |_,_,n+1,.cons r t=>.cons r (Vals.take n t)
theorem Vals.drop:∀{xs:List V}{us:List Value}(n:Nat),Vals xs us->Vals (xs.drop n) (us.drop n)
 |_,_,0,r=>r
 |_,_,_+1,.nil=>.nil
 |_,_,n+1,.cons _ t=>Vals.drop n t
def lC:Option V->Option Value->Prop
 |some v,some u=>RelV v u
 |none,none=>True
 |_,_=>False
def KV{κ:Type}:List (κ×V)->List (κ×Value)->Prop:=Paired λ(p:κ×V) (q:κ×Value)=>p.1=q.1/\RelV p.2 q.2
def kV:Key->V
 | .inl i=>.int i
 | .inr x=>.str x
inductive HO where
 |lst (xs:List V)
 |tup (xs:List V)
 |dK (bt:List (Key×V))|dT (bt:List (List Key×V))
 |set (S:Int->Bool) (n:Nat)
 |ins (C dx:Addr) (fs:List (Str×V))
 |own (x:Addr)
 |xd (fs:List (Str×V))
 |met (f x:Addr)
 |rng (lo hi:Int)
 |Be (o:Obj) (u:HO)
 |Rh (ps:Array Value)
 |ext (φ:Heap->Prop)
abbrev Hp:=Addr->Option HO
def upd(H:Hp)(a:Addr)(o:HO):Hp:=λb=>if b=a then some o else H b
theorem af{o:HO}:upd H a o a=some o:=by unfold upd;rw[if_pos rfl]
theorem az{o:HO}(h:b≠a):upd H a o b=H b:=by unfold upd;rw[if_neg h]
theorem Dh{o u:HO}(h:H a=some o)(h':H b=some u)(d:o≠u):a≠b:=by
 intro e;subst e;rw[h]at h';calc d (Option.some.inj h')
theorem av{o:HO}(h:H a=some o)(h':H b=none):a≠b:=by
 intro e;subst e;rw[h]at h';cases h'
section
variable (P:Program)(w:World)
def cA(H:Hp)(h:Heap)(a:Addr):HO->Prop
 | .lst xs=>xs.length<=sizeLine/\∃(b:List Value) (n:Nat),Vals xs b/\h.get? a=some {cls:=.type "list",data:=.seq b.toArray n}
 | .tup xs=>xs.length<=sizeLine/\∃b:List Value,Vals xs b/\IsTup h a b.toArray
 | .dK b=>b.length<=sizeLine/\(a==sysModules)=false/\∃vs,KV b vs/\h.DictOf (dJ P w) a vs
 | .dT b=>b.length<=sizeLine/\(a == sysModules)=false/\∃xs:List (List Key×Addr×Value),
   Paired (λ(p:List Key×V) (q:List Key×Addr×Value)=>p.1=q.1/\H q.2.1=some (.tup (p.1.map kV))/\RelV p.2 q.2.2) b xs/\
   ∃o b ep,h.get? a=some o/\o.ExactDict/\o.data=.dict b ep/\b.toList=xs.map (entryOfKey (tupleKind (dJ P w)))/\(xs.map (·.1)).Nodup
 | .set S n=>h.SetOf (intKind P w) a S n
 | .ins C d c=>H d=some (.own a)/\c.length<=1000/\d≠a/\h.get? a=some (W.instObj C d)/\
   ∃b,h.Ns1 d b/\(∀f,lC (c.lookup f) (b f))/\PySem.Within b (c.map (·.1))
 | .own _=>∃o,h.get? a=some o
 | .xd c=>∃b,h.Ns1 a b/\∀f,lC (c.lookup f) (b f)
 | .rng b c=>∃t u v,h.get? a=some {cls:=.type "range",data:=.fields #[.int b t,.int c u,.int 1 v]}
 | .Be o u=>h.get? a=some o/\cA H h a u
 | .Rh b=>h.get? a=some {cls:=.none,data:=.fields b}
 | .met f x=>h.get? a=some (W.methodObj (.ref f) (.ref x))
 | .ext φ=>φ h/\(∃o,h.get? a=some o)/\∀b c:Heap,φ b->(∀o,b.get? a=some o->c.get? a=some o)->φ c
def nz(H:Hp)(h:Heap):Prop:=∀a o,H a=some o->cA P w H h a o
end
section
variable {P:Program}{w:World}{H H':Hp}{h h':Heap}{a:Addr}{o:HO}
theorem cA.lt(x:cA P w H h a o):a<h.objs.size:=by
 cases o with
 |lst b=>let(_,_,_,_,e):=x;calc R' e
 |tup b=>let(_,_,_,p):=x;calc p.lt
 |dK b=>let(_,_,_,_,o,_,_,e,_):=x;calc R' e
 |dT b=>let(_,_,_,_,o,_,_,e,_):=x;calc R' e
 |set S n=>let(o,_,_,_,e,_):=x;calc R' e
 |ins C c b=>let(_,_,_,e,_):=x;calc R' e
 |own y=>let(_,e):=x;calc R' e
 |xd b=>let(_,(_,_,_,e,_),_):=x;calc R' e
 |rng b c=>let(_,_,_,e):=x;calc R' e
 |Be b u=>let(e,_):=x;calc R' e
 |Rh b=>calc R' (show h.get? a=some _ from x)
 |met f y=>calc R' (show h.get? a=some _ from x)
 |ext φ=>let(_,(_,e),_):=x;calc R' e
theorem Paired.Ri{α β:Type}{F G:α->β->Prop}:∀{c:List α}{d:List β},Paired F c d->(∀a b,F a b->G a b)->Paired G c d
 |_,_,.nil,_=>.nil
 |_,_,.cons r t,f=>.cons (f _ _ r) (Paired.Ri t f)
theorem cA.aL(x:cA P w H h a o)(k:∀b u,(b=a\/H b=some (.own a))->h.get? b=some u->h'.get? b=some u)
  (m:∀b,H b=some (.own a)->H' b=some (.own a)) (j:∀b xs,H b=some (.tup xs)->H' b=some (.tup xs)):cA P w H' h' a o:=by
 induction o with
 |lst xs=>let(z,d,n,r,e):=x;calc(z,d,n,r,k _ _ (.inl rfl) e)
 |tup xs=>let(z,d,r,f,e,c):=x;calc(z,d,r,f,k _ _ (.inl rfl) e,c)
 |dK d=>let(z,y,l,r,f,g,i,e,c):=x;calc(z,y,l,r,f,g,i,k _ _ (.inl rfl) e,c)
 |dT d=>
  let(z,y,xs,r,f,g,i,e,c):=x;calc(z,y,xs,Paired.Ri r λp q z=>(z.1,j _ _ z.2.1,z.2.2),f,g,i,k _ _ (.inl rfl) e,c)
 |set S n=>let(f,g,i,t,e,c):=x;calc(f,g,i,t,k _ _ (.inl rfl) e,c)
 |ins C d n=>
  let(d,z,s,e,j,(l,g,i,v,c),r):=x;calc(m _ d,z,s,k _ _ (.inl rfl) e,j,(l,g,i,k _ _ (.inr d) v,c),r)
 |own y=>let(f,e):=x;calc(f,k _ _ (.inl rfl) e)
 |xd n=>let(j,(l,g,i,e,c),r):=x;calc(j,(l,g,i,k _ _ (.inl rfl) e,c),r)
 |rng c d=>let(t,u,v,e):=x;calc(t,u,v,k _ _ (.inl rfl) e)
 |Be f u c=>let(e,q):=x;calc(k _ _ (.inl rfl) e,c q)
 |Rh c=>
  have e:h.get? a=some {cls:=.none,data:=.fields c}:=x;show h'.get? a=some {cls:=.none,data:=.fields c};calc k a _ (.inl rfl) e
 |met f y=>
  have e:h.get? a=some (W.methodObj (.ref f) (.ref y)):=x;show h'.get? a=some (W.methodObj (.ref f) (.ref y));calc k a _ (.inl rfl) e
 |ext φ=>let(p,(o,e),c):=x;calc(c _ _ p λo q=>k _ _ (.inl rfl) q,(o,k _ _ (.inl rfl) e),c)
theorem nz.lt(x:nz P w H h)(e:H a=some o):a<h.objs.size:=(x a o e).lt
theorem nz.fresh(x:nz P w H h)(e:h.objs.size<=a):H a=none:=by
 cases q:H a with
 |none=>rfl
 |some u=>calc absurd (V' (x.lt q) e) (aaP _)
theorem nz.kept(x:nz P w H h)(k:∀b u,h.get? b=some u->h'.get? b=some u):nz P w H h':=λa o e=>
 (x a o e).aL (λb u _ q=>k b u q) (λ_ q=>q) λ_ _ q=>q
theorem nz.laid(x:nz P w H h)(k:∀b u,h.get? b=some u->h'.get? b=some u)(g:h.objs.size<=a)(c:cA P w (upd H a o) h' a o):nz P w (upd H a o) h':=λb u e=>by
 have d:=x.fresh g;by_cases f:b=a
 ·subst f;rw[af]at e;cases e;exact c
 ·rw[az f]at e;exact(x b u e).aL (λc v _ q=>k c v q) (λc q=>by rw[az (av q d)];calc q) λc e q=>by rw[az (av q d)];calc q
end
def Rd(H:Hp)(a:Addr)(u:HO):Prop:=H a=some u\/∃o,H a=some (.Be o u)
theorem Rd.ok{P:Program}{w:World}{h:Heap}{u:HO}(r:Rd H a u)(x:nz P w H h):cA P w H h a u:=by
 rcases r with r|⟨o,r⟩
 ·exact x a u r
 ·let(_,q):=x a _ r;calc q
def Wm:Option HO->Prop
 |some (.lst _)=>True
 |some (.dK _)=>True
 |some (.dT _)=>True
 |some (.set _ _)=>True
 |some (.ins _ _ _)=>True
 |some (.ext _)=>True
 |_=>False
section
variable {P:Program}{w:World}{H:Hp}{h h':Heap}{x e:Addr}{o':HO}
theorem nz.write(o:nz P w H h)(a:Wm (H x))(l:e=x\/H e=some (.own x))(k:∀b u,b≠e->h.get? b=some u->h'.get? b=some u)(p:∃u,h'.get? e=some u)
  (j:cA P w (upd H x o') h' x o'):nz P w (upd H x o') h':=λb u q=>by
 have m:∀c y,H c=some (.own y)->c≠x:=λc y r z=>by subst z;rw[r]at a;exact a
 have s:∀c d,H c=some (.tup d)->c≠x:=λc d r z=>by subst z;rw[r]at a;exact a
 by_cases f:b=x
 ·subst f;rw[af]at q;cases q;exact j
 ·rw[az f] at q;by_cases g:b=e
  ·have n:H b=some (.own x):=by
    rcases l with z|z
    ·exact absurd (g.trans z) f
    ·rw[g];exact z
   rw[q]at n;cases n;let(v,a):=p;exact(v,by rw[g];calc a)
  ·refine(o b u q).aL (λc v i r=>k c v ?_ r) (λc r=>by rw[az (m c b r)];calc r) λc d r=>by rw[az (s c d r)];exact r
   rcases i with rfl|i
   ·exact g
   ·rintro rfl;rcases l with z | z
    ·exact m c b i z
    ·rw[i]at z;cases z;calc f rfl
end
structure Un(fs ex:List Addr)(H H':Hp)(h h':Heap):Prop where
 keep:∀b o,h.get? b=some o->H b=none->b∉fs->b∉ex->h'.get? b=some o
 slot:∀b o,h.get? b=some o->H b=none->b∈fs->b∉ex->∃sl,h'.get? b=some {o with slots:=sl}
 free:∀b o,h.get? b=some o->H b=none->b∉ex->H' b=none
 there:∀b o,h.get? b=some o->b∉ex->∃o',h'.get? b=some o'
 aQ:∀b xs,H b=some (.tup xs)->H' b=some (.tup xs)
 vo:∀b o u,H b=some (.Be o u)->H' b=some (.Be o u)
 xB:∀b ps,H b=some (.Rh ps)->∃more,H' b=some (.Rh (ps++more))
section
variable {fs v7 ex ex':List Addr}{H H1 H2:Hp}{h h1 h2 h':Heap}{a x e:Addr}{o:HO}
theorem Un.any(u:Un fs ex H H1 h h1){b:Addr}{a:Obj}(q:h.get? b=some a)(n:H b=none)(c:b∉ex):∃d,h1.get? b=some {a with slots:=d}:=by
 by_cases d:b∈fs
 ·exact u.slot b a q n d c
 ·calc(a.slots,u.keep b a q n d c)
theorem Un.kept(k:∀b u,h.get? b=some u->h'.get? b=some u):Un fs ex H H h h':=
 (λb a q _ _ _=>k b a q,λb a q _ _ _=>(a.slots,k b a q),λ_ _ _ n _=>n,λb a q _=>(a,k b a q),λ_ _ q=>q,λ_ _ _ q=>q,λ_ a q=>(#[],by rw[q];simp))
theorem Un.refl:Un fs ex H H h h:=Un.kept λ_ _ q=>q
theorem Un.laid(k:∀b u,h.get? b=some u->h'.get? b=some u)(d:h.objs.size<=a)(c:H a=none):Un fs ex H (upd H a o) h h' where
 keep:=λb u q _ _ _=>k b u q
 slot:=λb u q _ _ _=>(u.slots,k b u q)
 free:=λb u q n _=>by rw[az (aai (V' (R' q) d))];exact n
 there:=λb u q _=>(u,k b u q)
 aQ:=λb d q=>by rw[az (av q c)];exact q
 vo:=λb u d q=>by rw[az (av q c)];exact q
 xB:=λb d q=>(#[],by rw[az (av q c),q];simp)
theorem Un.write(a:Wm (H x))(i:e=x\/H e=some (.own x))(k:∀b u,b≠e->h.get? b=some u->h'.get? b=some u)(j:∃u,h'.get? e=some u):Un fs ex H (upd H x o) h h':=by
 have d:∀b,H b=none->b≠x:=λb n z=>by subst z;rw[n]at a;exact a
 have f:∀b,H b=none->b≠e:=λb n z=>by
  subst z;rcases i with r|r
  ·exact d b n r
  ·rw[n]at r;cases r
 have c:∀b u,H b=some u->¬Wm (some u)->b≠x:=λb u q l z=>by subst z;rw[q]at a;exact l a
 refine(λb u q n _ _=>k b u (f b n) q,λb u q n _ _=>(u.slots,k b u (f b n) q),λb u q n _=>by rw[az (d b n)];exact n,λb u q _=>?_,
  λb a q=>by rw[az (c b _ q λz=>z)];calc q,λb u a q=>by rw[az (c b _ q λz=>z)];calc q,λb a q=>(#[],by rw[az (c b _ q λz=>z),q];simp))
 by_cases g:b=e
 ·subst g;exact j
 ·calc(u,k b u g q)
end
def trk(h:Heap)(H:Hp):List Addr:=(List.range h.objs.size).filter λa=>(H a).isSome
def xC(h:Heap)(H:Hp):Heap:=W.hideAll h (trk h H)
theorem Fg(h:Heap)(H:Hp):(xC h H).objs.size=h.objs.size:=W.hideAll_size _ _
theorem HC{h:Heap}{o:Obj}(e:h.get? b=some o)(n:H b=none):(xC h H).get? b=some o:=
 W.hideAll_get _ e λa=>by
  have q:(H b).isSome=true:=(List.mem_filter.mp a).2;rw[n]at q;simp at q
theorem MU{h:Heap}{H:Hp}{b:Addr}{o:Obj}(e:(xC h H).get? b=some o):h.get? b=some o/\H b=none:=by
 have a:h.get? b=some o:=W.of_hideAll (trk h H) e;refine(a,?_)
 cases q:H b with
 |none=>rfl
 |some x=>
  have c:b∈trk h H:=List.mem_filter.mpr (List.mem_range.mpr (R' a),by simp[q]);have z:(xC h H).get? b=none:=W.hideAll_none (trk h H) c;rw[z]at e;cases e
end
section
variable {A:Around}{ch:List Addr}{t':Nat}{E:Value->Shared->Prop}
structure Mod(K:W.Frag)(mg:Str->Option Value)(base:Heap):Prop where
 Br:K.In base
 glob:base.Ns mainGlobals mg
 blt:∃mb,base.Ns builtinsNs mb/\∀x:Str,x≠"__name__"->mb x=bootBuiltins x
 nolimit:base.NoLimit
structure Cx where
 prog:Program
 w:World
 K:W.Frag
 mg:Str->Option Value
 base:Heap
 A:Around
 N:List Str
 s₀:Shared
 H₀:Hp
 env:Env
 outer:List Env
 stack:List Env
 ex:List Addr
 fn:Str->Bool
 calm:Bool
 pn:List (Addr×Obj)
 xe:Value->Shared->Prop
def yQ(l:List Env):List Addr:=l.filterMap (·.frame)
abbrev Cx.fs(X:Cx):List Addr:=yQ X.outer
def Wo(sc:Scope)(x:Str):Prop:=sc.names.lookup x=some .local\/sc.names.lookup x=some .cell\/sc.names.lookup x=some .free
def Loc(sc:Scope)(x:Str):Prop:=sc.names.lookup x=some .local\/sc.names.lookup x=some .cell
def Look(env:Env)(h:Heap)(m:Str->Option Value)(x:Str)(u:Value):Prop:=
 (env.kindOf x=some .local/\m x=some u)\/((env.kindOf x=some .cell\/env.kindOf x=some .free)/\∃c,env.cells.lookup x=some c/\h.IsCell c (some u))
structure Cx.Ok(X:Cx):Prop where
 mod:Mod X.K X.mg X.base
 kind:X.env.scope.kind=.function
 glob:X.env.globals=mainGlobals
 blt:X.env.builtins=builtinsNs
 above:X.s₀.heap.objs.size<=X.env.locals
 inj:∀x y c,X.env.cells.lookup x=some c->X.env.cells.lookup y=some c->x=y
 has:∀x,(X.env.kindOf x=some .cell\/X.env.kindOf x=some .free)->∃c,X.env.cells.lookup x=some c
 Rj:∀x c,X.fn x=true->X.env.cells.lookup x=some c->X.s₀.heap.objs.size<=c
 hd:X.calm=true->X.A.handled=none
 frames:X.A.frames=some X.stack
 U9:X.stack=X.outer\/(X.stack=X.env::X.outer/\X.env.frame=some X.env.locals)
 Wq:∀b∈X.ex,b≠X.env.locals/\∀x c,X.env.cells.lookup x=some c->c≠b
 bs:∀b o,X.base.get? b=some o->X.s₀.heap.get? b=some o/\X.H₀ b=none
 Hm:X.base.objs.size<=X.s₀.heap.objs.size
 yY:∀b o,X.base.get? b=some o->b∉X.ex
 Bs:∀b∈X.ex,b∉X.fs
 pq:X.s₀.heap.FunFrames X.base X.outer
 MV:∀b∈X.fs,X.H₀ b=none
structure Inv(X:Cx)(pins:List (Addr×Obj))(σ:List (Option V))(H:Hp)(s:Shared):Prop where
 ok:X.Ok
 os:s.os=X.s₀.os
 bare:AllBare s.gens
 base:Un X.fs X.ex X.H₀ H X.s₀.heap s.heap
 loc:∃m,s.heap.Ns X.env.locals m/\∀(i:Nat) (x:Str) (v:V),X.N[i]?=some x->σ[i]?=some (some v)->Wo X.env.scope x->∃u,RelV v u/\Look X.env s.heap m x u
 cell:∀x c,X.env.cells.lookup x=some c->∃v,s.heap.IsCell c v
 free:H X.env.locals=none
 jk:∀x c,X.env.cells.lookup x=some c->H c=none
 pin:∀p∈X.pn++pins,s.heap.get? p.1=some p.2/\H p.1=none/\p.1≠X.env.locals/\p.1∉X.fs/\∀v,p.2.data≠.cell v
 aW:nz X.prog X.w H s.heap
 len:σ.length=X.N.length
section
variable {X:Cx}{pins:List (Addr×Obj)}{σ:List (Option V)}{H H':Hp}{s:Shared}{h':Heap}
theorem Cx.Ok.Rk(a:X.Ok){b:Addr}{o:Obj}(e:X.base.get? b=some o):b∉X.fs:=λc=>by
 have:=(a.pq.mem c).1;rw[e]at this;cases this
theorem Inv.bs(I:Inv X pins σ H s):∀b o,X.base.get? b=some o->s.heap.get? b=some o/\H b=none:=λb o e=>
 (I.base.keep b o (I.ok.bs b o e).1 (I.ok.bs b o e).2 (I.ok.Rk e) (I.ok.yY b o e),I.base.free b o (I.ok.bs b o e).1 (I.ok.bs b o e).2 (I.ok.yY b o e))
theorem Inv.bk(I:Inv X pins σ H s):∀b o,X.base.get? b=some o->s.heap.get? b=some o:=λb o e=>(I.bs b o e).1
theorem Inv.mod(I:Inv X pins σ H s):Mod X.K X.mg X.base:=I.ok.mod
theorem Inv.iz(I:Inv X pins σ H s):X.K.In s.heap:=I.ok.mod.Br.keeps I.bk
theorem Inv.lt(I:Inv X pins σ H s):X.env.locals<s.heap.objs.size:=let ⟨_,a,_⟩:=I.loc;a.lt
theorem Inv.sz(I:Inv X pins σ H s):X.s₀.heap.objs.size<=s.heap.objs.size:=aar I.ok.above (M' I.lt)
theorem Inv.Rl(I:Inv X pins σ H s){a:Addr}(h:s.heap.objs.size<=a):a∉X.fs:=λa=>by
 let(_,o,b,_):=I.ok.pq.mem a;calc absurd (V' (R' b) (aar I.sz h)) (aaP _)
theorem Inv.HE(I:Inv X pins σ H s):∀x c,X.env.cells.lookup x=some c->c≠X.env.locals:=λx c e z=>by
 let(v,o,a,b):=I.cell x c e;let(m,(g,h,i,d,f,_),_):=I.loc;rw[z,d]at a;cases a;rw[f]at b;cases b
theorem Inv.pq(I:Inv X pins σ H s):s.heap.FunFrames X.base X.outer:=by
 have a:∀(l:List Env),(∀b∈yQ l,b∈X.fs)->X.s₀.heap.FunFrames X.base l->s.heap.FunFrames X.base l:=by
  intro l;induction l with
  |nil=>intro _ _;trivial
  |cons c r h=>
   intro g e;let(i,(L,o,c,j,f,k),l):=e;have d:L∈X.fs:=g L (by unfold yQ;rw[List.filterMap_cons,c];calc aas);let(m,e):=I.base.slot L o f (I.ok.MV L d) d λz=>I.ok.Bs L z d;exact(i,(L,_,c,j,e,k),h (λb f=>g b (by unfold yQ;rw[List.filterMap_cons,c];calc aak _ f)) l)
 calc a X.outer (λ_ f=>f) I.ok.pq
theorem Inv.stack(I:Inv X pins σ H s):s.heap.FunFrames X.base X.stack:=by
 rcases I.ok.U9 with e|⟨e,a⟩
 ·rw[e];exact I.pq
 ·rw[e];let(m,b,_):=I.loc;calc .cons (by rw[I.ok.kind];decide) a b ?_ I.pq;calc Heap.get?_none_of_le (aar I.ok.Hm I.ok.above)
theorem Inv.xD(I:Inv X pins σ H s):∀b∈yQ X.stack,b∈X.env.locals::X.fs:=λb a=>by
 rcases I.ok.U9 with e|⟨e,b⟩
 ·rw[e]at a;exact aak _ a
 ·rw[e]at a;unfold yQ at a;rw[List.filterMap_cons,b]at a;calc a
theorem Inv.sx(I:Inv X pins σ H s):∀b∈yQ X.stack,H b=none:=λb a=>by
 rcases List.mem_cons.mp (I.xD b a) with e|a
 ·rw[e];exact I.free
 ·let(_,o,c,_):=I.ok.pq.mem a;calc I.base.free b o c (I.ok.MV b a) λz=>I.ok.Bs b z a
theorem Inv.step{g':Array GenState}{t':Nat}{d':Drawn}(I:Inv X pins σ H s)
  (t:∀b∈ch,(b∈X.ex\/X.s₀.heap.objs.size<=b)/\b≠X.env.locals/\(∀x c,X.env.cells.lookup x=some c->c≠b)/\∀p∈X.pn++pins,p.1≠b)
  (keep:∀b o,b≠X.env.locals->b∉X.fs->b∉ch->s.heap.get? b=some o->H b=none->h'.get? b=some o)
  (slot:∀b o,b≠X.env.locals->b∈X.fs->b∉ch->s.heap.get? b=some o->H b=none->∃D,h'.get? b=some {o with slots:=D}) (free:∀b o,b∉ch->s.heap.get? b=some o->H b=none->H' b=none)
  (there:∀b o,b∉ch->s.heap.get? b=some o->∃k,h'.get? b=some k)
  (J:∀b xs,H b=some (.tup xs)->H' b=some (.tup xs)) (K:∀b o u,H b=some (.Be o u)->H' b=some (.Be o u)) (L:∀b C,H b=some (.Rh C)->∃q,H' b=some (.Rh (C++q)))
  (ns:∀m,s.heap.Ns X.env.locals m->h'.Ns X.env.locals m) (M:nz X.prog X.w H' h') (N:AllBare g'):
  Inv X pins σ H' {s with heap:=h',gens:=g',drawn:=d',toks:=t'}:=by
 have y:∀b o,X.s₀.heap.get? b=some o->b≠X.env.locals:=λb o e=>aai (V' (R' e) I.ok.above);have f:∀b o,X.s₀.heap.get? b=some o->b∉X.ex->b∉ch:=λb o e a h=>by
  rcases(t b h).1 with z|z
  ·exact a z
  ·exact absurd (V' (R' e) z) (aaP _)
 have d:∀x c,X.env.cells.lookup x=some c->∀v,s.heap.IsCell c v->h'.IsCell c v:=λx c e v (o,j,E)=>by
  have A:c∉ch:=λz=>(t c z).2.2.1 x c e rfl;by_cases F:c∈X.fs
  ·let(D,q):=slot c o (I.HE x c e) F A j (I.jk x c e);exact(_,q,E)
  ·exact(o,keep c o (I.HE x c e) F A j (I.jk x c e),E)
 refine(I.ok,I.os,N,(λb o e n h a=>?_,λb o e n h a=>?_,λb o e n a=>?_,λb o e a=>?_,λb xs e=>J b xs (I.base.aQ b xs e),λb o xs e=>K b o xs (I.base.vo b o xs e),λb C e=>?_),?_,λx c e=>?_,?_,λx c e=>?_,λp G=>?_,M,I.len)
 ·exact keep b o (y b o e) h (f b o e a) (I.base.keep b o e n h a) (I.base.free b o e n a)
 ·let(D,g):=I.base.slot b o e n h a;let(q,B):=slot b _ (y b o e) h (f b o e a) g (I.base.free b o e n a);exact(q,B)
 ·let(k,g):=I.base.there b o e a;exact free b k (f b o e a) g (I.base.free b o e n a)
 ·let(k,g):=I.base.there b o e a;exact there b k (f b o e a) g
 ·let(a,g):=I.base.xB b C e;let(f,B):=L b _ g;exact(a++f,by rw[B,Array.append_assoc])
 ·let(m,a,O):=I.loc;calc(m,ns m a,λi x v g B P=>?_);let(u,r,l):=O i x v g B P;calc(u,r,?_);rcases l with l | ⟨k,c,e,z⟩
  ·exact .inl l
  ·exact .inr (k,c,e,d x c e _ z)
 ·let(v,z):=I.cell x c e;exact(v,d x c e v z)
 ·let(m,(o,_,_,j,_),_):=I.loc;exact free _ o (λz=>(t _ z).2.1 rfl) j I.free
 ·let(v,o,j,E):=I.cell x c e;exact free c o (λz=>(t c z).2.2.1 x c e rfl) j (I.jk x c e)
 ·let(e,n,a,b,d):=I.pin p G;have A:p.1∉ch:=λz=>(t p.1 z).2.2.2 p G rfl;calc(keep p.1 p.2 a b A e n,free p.1 p.2 A e n,a,b,d)
theorem Inv.un(I:Inv X pins σ H s)(u:Un X.fs [] H H' s.heap h')(h:nz X.prog X.w H' h'):Inv X pins σ H' {s with heap:=h',toks:=t'}:=by
 let(m,(o,a,b,f,r),_):=id I.loc;let(a,i):=u.any f I.free nofun;exact I.step (g':=s.gens) (d':=s.drawn) (ch:=[]) (λ_ z=>nomatch z) (λb o _ a _ e n=>u.keep b o e n a nofun) (λb o _ a _ e n=>u.slot b o e n a nofun) (λb o _ e n=>u.free b o e n nofun) (λb o _ e=>u.there b o e nofun) u.aQ u.vo u.xB (λa j=>by
  let(a,c,d,g,k):=j;rw[f] at g;cases g;calc(_,c,d,i,k)) h I.bare
theorem Inv.call{g':Array GenState}{d':Drawn}(I:Inv X pins σ H s)(u:Un (yQ X.stack) ch H H' s.heap h')(k:nz X.prog X.w H' h')(l:AllBare g')
  (h:∀b∈ch,(b∈X.ex\/X.s₀.heap.objs.size<=b)/\b≠X.env.locals/\(∀x c,X.env.cells.lookup x=some c->c≠b)/\∀p∈X.pn++pins,p.1≠b):
  Inv X pins σ H' {s with heap:=h',gens:=g',drawn:=d',toks:=t'}:=by
 let(m,(o,a,c,i,r),_):=id I.loc;let(a,d):=u.any i I.free λz=>(h _ z).2.1 rfl;exact I.step (ch:=ch) h (λb o d c a e n=>u.keep b o e n (λz=>(List.mem_cons.mp (I.xD b z)).elim d c) a) (λb o _ _ a e n=>u.any e n a) (λb o a e n=>u.free b o e n a) (λb o a e=>u.there b o e a) u.aQ u.vo u.xB (λc q=>by
  let(a,f,g,j,t):=q;rw[i] at j;cases j;calc(_,f,g,d,t)) k l
theorem Inv.turned{a:Addr}(I:Inv X pins σ H s)(k:∀b o,b≠a->s.heap.get? b=some o->h'.get? b=some o)(j:H a=none)(g:a≠X.env.locals)
  (l:a∈X.ex\/X.s₀.heap.objs.size<=a) (r:∀x c,X.env.cells.lookup x=some c->c≠a) (t:∀p∈X.pn++pins,p.1≠a):Inv X pins σ H {s with heap:=h',toks:=t'}:=by
 have i:∀b u,H b=some u->b≠a:=λb u e z=>by rw[z,j]at e;cases e
 refine I.step (g':=s.gens) (d':=s.drawn) (ch:=[a]) (λb j=>?_) (λb o _ _ d e _=>k b o (λz=>d (by simp[z])) e) (λb o _ _ d e _=>(o.slots,k b o (λz=>d (by simp[z])) e)) (λ_ _ _ _ n=>n)
  (λb o d e=>(o,k b o (λz=>d (by simp[z])) e)) (λ_ _ e=>e) (λ_ _ _ e=>e) (λb m e=>(#[],by rw[e];simp)) (λm v=>?_) (λb u e=>?_) I.bare
 ·have e:b=a:=by simpa using j
  subst e;exact(l,g,r,t)
 ·let(o,a,j,l,r):=v;exact(o,a,j,k _ o (Ne.symm g) l,r)
 ·calc(I.aW b u e).aL (λc v d q=>k c v ?_ q) (λ_ q=>q) λ_ _ q=>q;rcases d with z | z
  ·rw[z];exact i b u e
  ·calc i c _ z
theorem Inv.tok(I:Inv X pins σ H s)(t:Nat):Inv X pins σ H {s with toks:=t}:=I.un (h':=s.heap) (t':=t) Un.refl I.aW
theorem Inv.kept(I:Inv X pins σ H s)(k:∀b u,s.heap.get? b=some u->h'.get? b=some u):Inv X pins σ H {s with heap:=h',toks:=t'}:=I.un (Un.kept k) (I.aW.kept k)
theorem Inv.laid{a:Addr}{o:HO}(I:Inv X pins σ H s)(k:∀b u,s.heap.get? b=some u->h'.get? b=some u)(c:s.heap.objs.size<=a)(d:cA X.prog X.w (upd H a o) h' a o):
  Inv X pins σ (upd H a o) {s with heap:=h',toks:=t'}:=I.un (Un.laid k c (I.aW.fresh c)) (I.aW.laid k c d)
theorem Inv.write{x e:Addr}{o:HO}(I:Inv X pins σ H s)(c:Wm (H x))(d:e=x\/H e=some (.own x))(k:∀b u,b≠e->s.heap.get? b=some u->h'.get? b=some u)(f:∃u,h'.get? e=some u)
  (a:cA X.prog X.w (upd H x o) h' x o):Inv X pins σ (upd H x o) {s with heap:=h',toks:=t'}:=I.un (Un.write c d k f) (I.aW.write c d k f a)
theorem Inv.xE{a:List (Addr×Obj)}(I:Inv X pins σ H s)(h:∀p∈a,s.heap.get? p.1=some p.2/\H p.1=none/\p.1≠X.env.locals/\p.1∉X.fs/\∀v,p.2.data≠.cell v):Inv X a σ H s:=
 (I.ok,I.os,I.bare,I.base,I.loc,I.cell,I.free,I.jk,λp a=>(List.mem_append.mp a).elim (λz=>I.pin p (List.mem_append_left _ z)) (h p),I.aW,I.len)
theorem sX{N:List Str}(c:N.Nodup){i j:Nat}{x:Str}(a:N[i]?=some x)(b:N[j]?=some x):i=j:=by
 let(e,d):=List.getElem?_eq_some_iff.mp a;let(g,e):=List.getElem?_eq_some_iff.mp b;calc(List.getElem_inj c).mp (d.trans e.symm)
theorem Fh{M:Model}{i:Nat}{x:Str}{v:V}{u:Value}{Q:Unit->Shared->Prop}(I:Inv X pins σ H s)(hN:X.N.Nodup)(L:X.N[i]?=some x)(C:Loc X.env.scope x)(r:RelV v u)
  (h:∀s',Inv X pins (σ.set i (some v)) H s'->(∃a,Heap.SameBut a s.heap s'.heap/\(a=X.env.locals\/X.env.cells.lookup x=some a))->Q ⟨⟩ s') (hf:X.fn x=true\/X.env.scope.names.lookup x=some .local:=by grind):wpAny M A (storeName X.env x u) Q E s:=by
 let(m,U,hl):=id I.loc;have Rm:(X.env.scope.kind == .class||(X.env.scope.kind == .module&&X.env.locals !=X.env.globals))=false:=by rw[I.ok.kind];rfl
 have Ws:i<σ.length:=by rw[I.len];exact(List.getElem?_eq_some_iff.mp L).1
 have W:=I.HE;have l:∀{a:Addr} {h':Heap},(∃o,s.heap.get? a=some o/\H a=none)->Heap.SameBut a s.heap h'->nz X.prog X.w H h':=λ{a h'} v g b M e=>by
  let(_,_,Pn):=v;calc(I.aW b M e).aL (λc R B q=>(g.2 c ?_).trans q) (λ_ q=>q) λ_ _ q=>q;rintro rfl;rcases B with rfl|B
  ·rw[Pn]at e;cases e
  ·rw[Pn]at B;cases B
 rcases C with G|G
 ·calc wpAny_storeName_local G U (λh' a g=>?_) Rm;let(v,_,_,M,_):=id U;refine h _ (I.ok,I.os,I.bare,(λb o e n J C=>?_,λb o e n J C=>?_,I.base.free,λb o e C=>?_,I.base.aQ,I.base.vo,I.base.xB),(_,a,λj y Y t F Z=>?_),λy c e=>?_,I.free,I.jk,λp hp=>?_,l (v,M,I.free) g,by simpa using I.len) (_,g,.inl rfl)
  ·exact(g.2 b (aai (V' (R' e) I.ok.above))).trans (I.base.keep b o e n J C)
  ·let(sl,t):=I.base.slot b o e n J C;exact(sl,(g.2 b (aai (V' (R' e) I.ok.above))).trans t)
  ·let(o',t):=I.base.there b o e C;exact(o',(g.2 b (aai (V' (R' e) I.ok.above))).trans t)
  ·by_cases K:j=i
   ·subst K;rw[L] at t;cases t;rw[aa1 Ws] at F
    cases F;exact(u,r,.inl (G,nofun))
   ·rw[aa8 (Ne.symm K)] at F;let(u',r',q):=hl j y Y t F Z;calc(u',r',?_);rcases q with⟨k,e⟩ | ⟨k,c,e,z⟩
    ·calc .inl (k,?_);have:y≠x:=λe=>K (sX hN t (e▸L));simp[this,e]
    ·exact .inr (k,c,e,z.sameBut g (W y c e))
  ·let(R,z):=I.cell y c e;exact(R,z.sameBut g (W y c e))
  ·let(e,n,S,nf,d):=I.pin p hp;exact((g.2 p.1 S).trans e,n,S,nf,d)
 ·have Fi:X.fn x=true:=by
   rcases hf with z|z
   ·exact z
   ·rw[z]at G;cases G
  let(c,B):=I.ok.has x (.inl G);let(R,z):=I.cell x c B;calc wpAny_storeName_cell I.ok.kind G B z (λh' Po g=>?_);let(oc,O,abF):=id z;refine h {s with heap:=h'} (I.ok,I.os,I.bare,(λb o e n J C=>?_,λb o e n J C=>?_,I.base.free,λb o e C=>?_,I.base.aQ,I.base.vo,I.base.xB),(m,U.sameBut g (Ne.symm (W x c B)),λj y Y t F Z=>?_),λy T e=>?_,I.free,I.jk,λp hp=>?_,l (oc,O,I.jk x c B) g,by simpa using I.len) (c,g,.inr B)
  ·exact(g.2 b (aai (V' (R' e) (I.ok.Rj x c Fi B)))).trans (I.base.keep b o e n J C)
  ·let(sl,t):=I.base.slot b o e n J C;exact(sl,(g.2 b (aai (V' (R' e) (I.ok.Rj x c Fi B)))).trans t)
  ·let(o',t):=I.base.there b o e C;exact(o',(g.2 b (aai (V' (R' e) (I.ok.Rj x c Fi B)))).trans t)
  ·by_cases K:j=i
   ·subst K;rw[L] at t;cases t;rw[aa1 Ws] at F
    cases F;exact(u,r,.inr (.inl G,c,B,Po))
   ·rw[aa8 (Ne.symm K)] at F;let(u',r',q):=hl j y Y t F Z;calc(u',r',?_);rcases q with q | ⟨k,T,e,z'⟩
    ·exact .inl q
    ·calc .inr (k,T,e,z'.sameBut g ?_);rintro rfl;exact K (sX hN t (I.ok.inj _ _ _ e B▸L))
  ·by_cases P:T=c
   ·subst P;exact(_,Po)
   ·let(a,b):=I.cell y T e;exact(a,b.sameBut g P)
  ·let(e,n,S,nf,d):=I.pin p hp;calc((g.2 p.1 ?_).trans e,n,S,nf,d);intro q;rw[q,O]at e;have a:oc=p.2:=Option.some.inj e;calc d R (by rw[<-a];calc abF)
theorem j4{M:Model}{i:Nat}{x:Str}{v:V}{u:Value}{Q:Unit->Shared->Prop}(I:Inv X pins σ H s)(a:X.N.Nodup)(b:X.N[i]?=some x)(c:Loc X.env.scope x)(r:RelV v u)
  (h:∀s',Inv X pins (σ.set i (some v)) H s'->Q ⟨⟩ s') (d:X.fn x=true\/X.env.scope.names.lookup x=some .local:=by grind):wpAny M A (storeName X.env x u) Q E s:=
 Fh I a b c r (λs' e _=>h s' e) d
theorem Inv.Pp{s':Shared}(I:Inv X pins σ H s)(f:s'.os=s.os)(u:Un (yQ X.stack) ch H H' s.heap s'.heap)(g:nz X.prog X.w H' s'.heap)(h:AllBare s'.gens)
  (i:∀b∈ch,(b∈X.ex\/X.s₀.heap.objs.size<=b)/\b≠X.env.locals/\(∀x c,X.env.cells.lookup x=some c->c≠b)/\∀p∈X.pn++pins,p.1≠b):Inv X pins σ H' s':=by
 let(h',a,d,t',b):=s';have e:b=s.os:=f;subst e;calc I.call (g':=a) (t':=t') (d':=d) u g h i
end
abbrev XK:=Value->Option Addr->Hp->Prop
abbrev St:=List (Option V)
abbrev VK:=V->Hp->Prop
abbrev TE:=St->Hp->VK->Prop
abbrev TT:=St->Hp->(Bool->Hp->Prop)->Prop
abbrev TA:=St->Hp->(List V->Hp->Prop)->Prop
structure Ends where
 nx:St->Hp->Prop
 rt:VK
 bk:St->Hp->Prop:=λ_ _=>False
 ct:St->Hp->Prop:=λ_ _=>False
abbrev TS:=Ends->St->Hp->Prop
def EP(X:Cx)(pins:List (Addr×Obj))(σ:St)(Q:VK)(u:Value)(s':Shared):Prop:=∃v a,Inv X pins σ a s'/\RelV v u/\Q v a
def TP(X:Cx)(pins:List (Addr×Obj))(σ:St)(Q:Bool->Hp->Prop)(b:Bool)(s':Shared):Prop:=∃a,Inv X pins σ a s'/\Q b a
def AP(X:Cx)(pins:List (Addr×Obj))(σ:St)(Q:List V->Hp->Prop)(us:List Value)(s':Shared):Prop:=∃vs a,Inv X pins σ a s'/\Vals vs us/\Q vs a
def SP(X:Cx)(pins:List (Addr×Obj))(D:Ends)(f:Flow)(s':Shared):Prop:=
 match f with
 | .next=>∃a b,Inv X pins a b s'/\D.nx a b
 | .brk=>∃a b,Inv X pins a b s'/\D.bk a b
 | .cont=>∃a b,Inv X pins a b s'/\D.ct a b
 | .ret u=>∃v a b,Inv X pins a b s'/\RelV v u/\D.rt v b
structure PE(X:Cx)(e:Expr)(t:TE):Prop where
 out:
  ∀(pins:List (Addr×Obj)) (s:Shared) (σ:St) (H:Hp) (Q:VK),Inv X pins σ H s->t σ H Q->wpAny (model X.prog X.w) X.A (eval e X.env) (EP X pins σ Q) X.xe s
instance {X:Cx}{e:Expr}{t:TE}:CoeFun (PE X e t) λ_=>
 ∀(pins:List (Addr×Obj)) (s:Shared) (σ:St) (H:Hp) (Q:VK),Inv X pins σ H s->t σ H Q->wpAny (model X.prog X.w) X.A (eval e X.env) (EP X pins σ Q) X.xe s:=⟨PE.out⟩
structure PT(X:Cx)(e:Expr)(t:TT):Prop where
 out:
  ∀(pins:List (Addr×Obj)) (s:Shared) (σ:St) (H:Hp) (Q:Bool->Hp->Prop),Inv X pins σ H s->t σ H Q->wpAny (model X.prog X.w) X.A (isTrue e X.env (eval e X.env)) (TP X pins σ Q) X.xe s
instance {X:Cx}{e:Expr}{t:TT}:CoeFun (PT X e t) λ_=>
 ∀(pins:List (Addr×Obj)) (s:Shared) (σ:St) (H:Hp) (Q:Bool->Hp->Prop),Inv X pins σ H s->t σ H Q->wpAny (model X.prog X.w) X.A (isTrue e X.env (eval e X.env)) (TP X pins σ Q) X.xe s:=⟨PT.out⟩
structure PW(X:Cx)(e:Expr)(t:TT):Prop where
 out:
  ∀(whole:Sem Value) (pins:List (Addr×Obj)) (s:Shared) (σ:St) (H:Hp) (Q:Bool->Hp->Prop),Inv X pins σ H s->t σ H Q->wpAny (model X.prog X.w) X.A (isTrue e X.env whole) (TP X pins σ Q) X.xe s
instance {X:Cx}{e:Expr}{t:TT}:CoeFun (PW X e t) λ_=>
 ∀(a:Sem Value) (pins:List (Addr×Obj)) (s:Shared) (σ:St) (H:Hp) (Q:Bool->Hp->Prop),Inv X pins σ H s->t σ H Q->wpAny (model X.prog X.w) X.A (isTrue e X.env a) (TP X pins σ Q) X.xe s:=⟨PW.out⟩
theorem PW.pt{X:Cx}{e:Expr}{t:TT}(h:PW X e t):PT X e t:=⟨h.out _⟩
structure PA(X:Cx)(es:List Expr)(t:TA):Prop where
 out:
  ∀(pos:Pos) (pins:List (Addr×Obj)) (s:Shared) (σ:St) (H:Hp) (Q:List V->Hp->Prop),Inv X pins σ H s->t σ H Q->wpAny (model X.prog X.w) X.A (spliced (backTo pos (starEach es X.env))) (AP X pins σ Q) X.xe s
instance {X:Cx}{a:List Expr}{t:TA}:CoeFun (PA X a t) λ_=>
 ∀(pos:Pos) (pins:List (Addr×Obj)) (s:Shared) (σ:St) (H:Hp) (Q:List V->Hp->Prop),Inv X pins σ H s->t σ H Q->wpAny (model X.prog X.w) X.A (spliced (backTo pos (starEach a X.env))) (AP X pins σ Q) X.xe s:=⟨PA.out⟩
structure PS(X:Cx)(st:Stmt)(t:TS):Prop where
 out:
  ∀(pins:List (Addr×Obj)) (s:Shared) (σ:St) (H:Hp) (D:Ends),Inv X pins σ H s->t D σ H->wpAny (model X.prog X.w) X.A (exec st X.env) (SP X pins D) X.xe s
instance {X:Cx}{a:Stmt}{t:TS}:CoeFun (PS X a t) λ_=>
 ∀(pins:List (Addr×Obj)) (s:Shared) (σ:St) (H:Hp) (D:Ends),Inv X pins σ H s->t D σ H->wpAny (model X.prog X.w) X.A (exec a X.env) (SP X pins D) X.xe s:=⟨PS.out⟩
structure vp(X:Cx)(st:List Stmt)(t:TS):Prop where
 out:
  ∀(pins:List (Addr×Obj)) (s:Shared) (σ:St) (H:Hp) (D:Ends),Inv X pins σ H s->t D σ H->wpAny (model X.prog X.w) X.A (execs st X.env) (SP X pins D) X.xe s
instance {X:Cx}{a:List Stmt}{t:TS}:CoeFun (vp X a t) λ_=>
 ∀(pins:List (Addr×Obj)) (s:Shared) (σ:St) (H:Hp) (D:Ends),Inv X pins σ H s->t D σ H->wpAny (model X.prog X.w) X.A (execs a X.env) (SP X pins D) X.xe s:=⟨vp.out⟩
theorem dy{α:Type}{t:Sem α}{Q b:α->Shared->Prop}{M:Model}{s:Shared}(h:wpAny M A t Q E s)(c:∀a s,Q a s->b a s):wpAny M A t b E s:=aaH h c λ_ _ x=>x
end
section
variable {pins:List (Addr×Obj)}{pos:Pos}{σ:St}{x:Str}{u:Value}{E Q:Value->Shared->Prop}
section
variable {X:Cx}
def HF(i:Nat):TE:=λσ H Q=>∃v,σ[i]?=some (some v)/\Q v H
def tC(v:V):TE:=λ_ H Q=>Q v H
theorem HG{i:Nat}(c:X.N[i]?=some x)(j:Wo X.env.scope x)(d:(x==("__debug__":Str))=false:=by decide)(k:(x==("__classdict__":Str))=false:=by decide):PE X (.Name x pos) (HF i):=by
 walk_at "xc";let(v,e,h):=h;let(m,n,o):=I.loc;let(u,r,l):=o i x v c e j;have a:EP X pins σ Q u s:=(v,H,I,r,h)
 rcases l with⟨b,e⟩|⟨b,c,f,g⟩
 ·exact wpAny_Name (wpAny_loadName_local I.ok.kind b n e a) d
 ·rcases b with b | b
  ·exact wpAny_Name (wpAny_loadName_cell I.ok.kind b f g a) d
  ·calc wpAny_Name (wpAny_loadName_free I.ok.kind b f g a k) d
theorem aj{i j pos}:PE X (.Constant (.int i) j pos) (tC (.int i)):=.mk λ_ _ _ H _ I h=>wpAny_Constant_int (.int i,H,I.tok _,(_,rfl),h)
theorem ij{b j pos}:PE X (.Constant (.bool b) j pos) (tC (.bl b)):=.mk λ_ _ _ H _ I h=>Constant_bool (.bl b,H,I,rfl,h)
theorem jw{j pos}:PE X (.Constant .none j pos) (tC .bO):=.mk λ_ _ _ H _ I h=>Constant_none (.bO,H,I,rfl,h)
theorem aI{x j pos}:PE X (.Constant (.str x) j pos) (tC (.str x)):=.mk λ_ _ _ H _ I h=>Calls.Constant_str (.str x,H,I.tok _,(_,rfl),h)
def Gl(X:Cx)(x:Str):Prop:=X.env.kindOf x=some .globalImplicit
theorem km{s:Shared}{H:Hp}(I:Inv X pins σ H s)(a:Gl X x)(b:X.mg x=some u)(h:Q u s)
  (c:(x==("__debug__":Str))=false:=by decide):wpAny (model X.prog X.w) X.A (eval (.Name x pos) X.env) Q E s:=
 Calls.Name_function_global I.ok.kind a (Calls.loadGlobal_global (by rw[I.ok.glob];calc I.mod.glob.keeps I.bk) b h) c
theorem qf{s:Shared}{H:Hp}(I:Inv X pins σ H s)(a:Gl X x)(b:X.mg x=none)(c:bootBuiltins x=some u)(h:Q u s)
  (d:x≠"__name__":=by decide) (e:(x==("__debug__":Str))=false:=by decide):wpAny (model X.prog X.w) X.A (eval (.Name x pos) X.env) Q E s:=by
 let(i,f,g):=I.mod.blt;calc Calls.Name_function_global I.ok.kind a (Calls.loadGlobal_builtin (by rw[I.ok.glob];calc I.mod.glob.keeps I.bk) b (by rw[I.ok.blt];calc f.keeps I.bk) ((g x d).trans c) h) e
theorem cJ{v:V}(a:Gl X x)(b:X.mg x=some u)(r:RelV v u)(c:(x==("__debug__":Str))=false:=by decide):PE X (.Name x pos) (tC v):=
 .mk λ_ _ _ H _ I h=>km I a b (v,H,I,r,h) c
theorem dD{v:V}(a:Gl X x)(b:X.mg x=none)(c:bootBuiltins x=some u)(r:RelV v u)(d:x≠"__name__":=by decide)(e:(x==("__debug__":Str))=false:=by decide):PE X (.Name x pos) (tC v):=
 .mk λ_ _ _ H _ I h=>qf I a b c (v,H,I,r,h) d e
variable {a b:Expr}{ta tb:TE}{pos:Pos}
structure PC(X:Cx)(op:CmpOp)(a b:Expr)(t:TE):Prop where
 out:
  ∀(pins:List (Addr×Obj)) (s:Shared) (σ:St) (H:Hp) (Q:VK),Inv X pins σ H s->t σ H Q->
   wpAny (model X.prog X.w) X.A (eval a X.env) (λv s₁=>wpAny (model X.prog X.w) X.A (eval b X.env) (λu s₂=>wpAny (model X.prog X.w) X.A (compareOp op v u) (EP X pins σ Q) X.xe s₂) X.xe s₁) X.xe s
instance {X:Cx}{e:CmpOp}{a b:Expr}{t:TE}:CoeFun (PC X e a b t) λ_=>
 ∀(pins:List (Addr×Obj)) (s:Shared) (σ:St) (H:Hp) (Q:VK),Inv X pins σ H s->t σ H Q->
  wpAny (model X.prog X.w) X.A (eval a X.env) (λv c=>wpAny (model X.prog X.w) X.A (eval b X.env) (λu d=>wpAny (model X.prog X.w) X.A (compareOp e v u) (EP X pins σ Q) X.xe d) X.xe c) X.xe s:=⟨PC.out⟩
def tB(t:TE):TT:=λσ H Q=>t σ H λx a=>∃c,x=.bl c/\Q c a
theorem Rn{c:CmpOp}{t:TE}(h:PC X c a b t)(e:behindInMarks c b=false:=by first|calc f _ ∅ ∅|rfl):PT X (.Compare a [c] [b] pos) (tB t):=by
 calc⟨?_⟩;intro pins s σ H Q I c;calc wpAny_isTrue_Compare1 (dy (h pins s σ H _ I c) λv f e=>dy e λu c f=>dy f λc h g=>?_) e;let(x,i,j,k,l):=g;let(d,rfl,q):=l
 cases k;calc aba (i,j,q)
theorem Ro{e:Expr}{t:TE}(h:PE X e t)(b:∀a,isTrue e X.env a=(do let v <-a;standAt e.pos;holding [v] (truthy v)):=by intro _;rfl):PT X e (tB t):=by
 calc⟨?_⟩;intro pins s σ H Q I a;calc isTrue_plain (dy (h pins s σ H _ I a) λv e c=>?_) (b _);let(x,f,g,i,j):=c;let(d,rfl,q):=j
 cases i;calc aba (f,g,q)
variable {tA tB':TT}{rest:List Expr}
def Rp(t u:TT):TT:=λσ H Q=>t σ H λc a=>if c=true then u σ a Q else Q false a
def tOr(t u:TT):TT:=λσ H Q=>t σ H λc a=>if c=true then Q true a else u σ a Q
def Rq(t:TT):TT:=λσ H Q=>t σ H λc a=>Q (!c) a
theorem pw_and1(b:PT X a tA):PW X (.BoolOp .And [a] pos) tA:=by
 calc⟨?_⟩;intro d pins s σ H Q I h;refine isTrue_and (dy (b pins s σ H Q I h) λc f e=>?_)
 cases c with
 |true=>calc isTrue_and_nil e
 |false=>calc e
theorem pw_or1(b:PT X a tA):PW X (.BoolOp .Or [a] pos) tA:=by
 calc⟨?_⟩;intro d pins s σ H Q I h;refine isTrue_or (dy (b pins s σ H Q I h) λc f e=>?_)
 cases c with
 |false=>calc isTrue_or_nil e
 |true=>calc e
theorem pw_and(g:PT X a tA)(i:PW X (.BoolOp .And (b::rest) pos) tB'):PW X (.BoolOp .And (a::b::rest) pos) (Rp tA tB'):=by
 calc⟨?_⟩;intro j pins s σ H Q I h;calc isTrue_and (dy (g pins s σ H _ I h) λc k l=>?_);let(d,e,f):=l
 cases c with
 |true=>calc i j pins k σ d Q e f
 |false=>calc(d,e,f)
theorem pw_or(g:PT X a tA)(i:PW X (.BoolOp .Or (b::rest) pos) tB'):PW X (.BoolOp .Or (a::b::rest) pos) (tOr tA tB'):=by
 calc⟨?_⟩;intro j pins s σ H Q I h;calc isTrue_or (dy (g pins s σ H _ I h) λc k l=>?_);let(d,e,f):=l
 cases c with
 |true=>calc(d,e,f)
 |false=>calc i j pins k σ d Q e f
theorem cB(b:PT X a tA):PT X (.UnaryOp .Not a pos) (Rq tA):=by
 walk_at "xc";exact isTrue_not (b pins s σ H (λc d=>Q (!c) d) I h)
def HH(ta tb:TE):TE:=λσ H Q=>ta σ H λx a=>∃c,x=.bl c/\if c=true then tb σ a Q else Q (.bl false) a
def HI(ta:TE):TE:=λσ H Q=>ta σ H λx a=>∃c,x=.bl c/\Q (.bl (!c)) a
theorem lD{op}{t:TE}(h:PE X a t):PE X (.BoolOp op [a] pos) t:=.mk λpins s σ H Q I b=>BoolOp_one (h pins s σ H Q I b)
theorem kn(g:PE X a ta)(i:PE X (.BoolOp .And (b::rest) pos) tb):PE X (.BoolOp .And (a::b::rest) pos) (HH ta tb):=by
 walk_at "xc";refine BoolOp_and (dy (g pins s σ H _ I h) λv j k=>?_);let(x,e,f,l,d):=k;let(c,rfl,d):=d
 cases l;refine aba ?_
 cases c with
 |true=>calc i pins j σ e Q f d
 |false=>calc(.bl false,e,f,rfl,d)
theorem HJ(d:PE X a ta):PE X (.UnaryOp .Not a pos) (HI ta):=by
 walk_at "xc";refine UnaryOp_ (dy (d pins s σ H _ I h) λv j e=>?_);let(x,f,g,i,b):=e;let(c,rfl,b):=b
 cases i;calc not_of (aba (.bl (!c),f,g,rfl,b))
def tIf(t:TT)(ta tb:TE):TE:=λσ H Q=>t σ H λc a=>if c=true then ta σ a Q else tb σ a Q
theorem HK{c:Expr}(j:PT X c tA)(k:PE X a ta)(l:PE X b tb):PE X (.IfExp c a b pos) (tIf tA ta tb):=by
 walk_at "xc";refine wpAny_IfExp (dy (j pins s σ H _ I h) λd e c=>?_);let(f,g,i):=c
 cases d with
 |true=>calc k pins e σ f Q g i
 |false=>calc l pins e σ f Q g i
end
end
section
variable {X:Cx}{e tg:Expr}{pins:List (Addr×Obj)}{i:Nat}{σ:St}{x:Str}{te:TE}{K:W.Frag}
def aY(K:W.Frag)(H:Hp)(a:Addr)(xs:List V):Prop:=
 Rd H a (.lst xs)\/
  ∃(o:Obj) (b:Array Value) (n:Nat),K.lookup a=some o/\o.cls=.type "list"/\o.dict=none/\o.data=.seq b n/\b.size<=sizeLine/\Vals xs b.toList
def bP(K:W.Frag)(H:Hp)(a:Addr)(xs:List V):Prop:=
 Rd H a (.tup xs)\/
  ∃(o:Obj) (b:Array Value) (n:Nat),K.lookup a=some o/\o.cls=.type "tuple"/\o.data=.seq b n/\b.size<=sizeLine/\Vals xs b.toList
def abI:Value->Option V
 | .none=>some .bO
 | .bool b=>some (.bl b)
 | .int i _=>some (.int i)
 | .str x _=>some (.str x)
 | .bytes b _=>some (.Dg b)
 | .float b _=>some (.Pj b)
 | .ref a=>some (.ref a)
 | .type n=>some (.ty n)
 |_=>none
theorem RelV.abs{x:V}{u:Value}(r:RelV x u):abI u=some x:=by
 cases x with
 |bO=>cases r;rfl
 |bl _=>cases r;rfl
 |int _=>let(t,rfl):=r;rfl
 |str _=>let(t,rfl):=r;rfl
 |Dg _=>let(t,rfl):=r;rfl
 |Pj _=>let(t,rfl):=r;rfl
 |ref _=>cases r;rfl
 |ty _=>cases r;rfl
theorem RelV.inj{x y:V}{u:Value}(r:RelV x u)(q:RelV y u):x=y:=Option.some.inj (r.abs.symm.trans q.abs)
theorem Vals.inj:∀{xs a:List V}{us:List Value},Vals xs us->Vals a us->xs=a
 |_,_,_,.nil,.nil=>rfl
 |_,_,_,.cons r t,.cons a b=>by rw[r.inj a,Vals.inj t b]
section
variable {X:Cx}{pins:List (Addr×Obj)}{σ:St}{H:Hp}{s:Shared}{a:Addr}{xs ys:List V}
theorem aY.of(h:H a=some (.lst xs)):aY K H a xs:=.inl (.inl h)
theorem bP.of(h:H a=some (.tup xs)):bP K H a xs:=.inl (.inl h)
theorem Inv.list(I:Inv X pins σ H s)(h:aY X.K H a xs):∃b:List Value,Vals xs b/\PlainL s.heap a b.toArray/\xs.length<=sizeLine:=by
 rcases h with h|⟨o,b,n,c,d,f,g,i,r⟩
 ·let(z,b,n,r,e):=h.ok I.aW;exact(b,r,(_,n,e,rfl,rfl,rfl),z)
 ·calc(b.toList,r,(o,n,I.iz a o c,d,f,by simpa using g),?_);have e:=r.length;simp only[Array.length_toList]at e;lia
theorem Inv.tuple(I:Inv X pins σ H s)(h:bP X.K H a xs):∃b:List Value,Vals xs b/\IsTup s.heap a b.toArray/\xs.length<=sizeLine:=by
 rcases h with h|⟨o,b,n,c,d,f,g,r⟩
 ·let(z,b,r,p):=h.ok I.aW;exact(b,r,p,z)
 ·calc(b.toList,r,(o,I.iz a o c,d,n,by simpa using f),?_);have e:=r.length;simp only[Array.length_toList]at e;lia
theorem Inv.yZ(I:Inv X pins σ H s)(h:aY X.K H a xs)(h':aY X.K H a ys):xs=ys:=by
 let(f,r,(o,n,e,_,_,d),_):=I.list h;let(g,i,(j,k,b,_,_,c),_):=I.list h';rw[e]at b;cases b;rw[d]at c;injection c with h _
 have:f=g:=by simpa using congrArg Array.toList h
 subst this;calc r.inj i
theorem Inv.v8(I:Inv X pins σ H s)(h:bP X.K H a xs)(h':bP X.K H a ys):xs=ys:=by
 let(f,r,(o,e,_,n,d),_):=I.tuple h;let(g,i,(j,b,_,k,c),_):=I.tuple h';rw[e]at b;cases b;rw[d]at c;injection c with h _
 have:f=g:=by simpa using congrArg Array.toList h
 subst this;calc r.inj i
end
abbrev Cx.sY(X:Cx)(E:Value->Shared->Prop):Cx:={X with xe:=E}
abbrev Cx.HL(X:Cx):Cx:=X.sY λ_ _=>False
theorem Cx.Ok.sY(a:X.Ok)(E:Value->Shared->Prop):(X.sY E).Ok:=
 (a.mod,a.kind,a.glob,a.blt,a.above,a.inj,a.has,a.Rj,a.hd,a.frames,a.U9,a.Wq,a.bs,a.Hm,a.yY,a.Bs,a.pq,a.MV)
theorem Cx.Ok.ko{E:Value->Shared->Prop}(a:(X.sY E).Ok):X.Ok:=
 (a.mod,a.kind,a.glob,a.blt,a.above,a.inj,a.has,a.Rj,a.hd,a.frames,a.U9,a.Wq,a.bs,a.Hm,a.yY,a.Bs,a.pq,a.MV)
section
variable {X:Cx}{pins:List (Addr×Obj)}{σ:St}{H:Hp}{s:Shared}{E:Value->Shared->Prop}
theorem Inv.sY(I:Inv X pins σ H s)(E:Value->Shared->Prop):Inv (X.sY E) pins σ H s:=(I.ok.sY E,I.os,I.bare,I.base,I.loc,I.cell,I.free,I.jk,I.pin,I.aW,I.len)
theorem Inv.ko(I:Inv (X.sY E) pins σ H s):Inv X pins σ H s:=(I.ok.ko,I.os,I.bare,I.base,I.loc,I.cell,I.free,I.jk,I.pin,I.aW,I.len)
theorem SP.ko{D:Ends}{f:Flow}{s':Shared}(h:SP (X.sY E) pins D f s'):SP X pins D f s':=by
 cases f with
 |next=>let(a,b,I,q):=h;calc(a,b,I.ko,q)
 |brk=>let(a,b,I,q):=h;calc(a,b,I.ko,q)
 |cont=>let(a,b,I,q):=h;calc(a,b,I.ko,q)
 |ret u=>let(v,a,b,I,r,q):=h;calc(v,a,b,I.ko,r,q)
theorem vp.HL{a:List Stmt}{t:TS}(h:vp X.HL a t):vp X a t:=.mk λpins s σ H D I a=>
 aaH (h pins s σ H D (I.sY _) a) (λ_ _ q=>q.ko) λ_ _ z=>aaA z
end
section
variable {X:Cx}{st:Stmt}{rest:List Stmt}{t u:TS}{e:Expr}{te:TE}{pos:Pos}
def HM:TS:=λD σ H=>D.nx σ H
def Bu(t u:TS):TS:=λD σ H=>t {D with nx:=u D} σ H
theorem aH:vp X [] HM:=.mk λ_ _ σ H _ I h=>wpAny_execs_nil (σ,H,I,h)
theorem ai(a:PS X st t)(b:vp X rest u):vp X (st::rest) (Bu t u):=by
 walk_at "xd";refine wpAny_execs_cons (dy (a pins s σ H {D with nx:=u D} I h) λf c q=>?_)
 cases f with
 |next=>
  let(a,d,e,q):=q;calc b pins c a d D e q
 |ret v=>calc q
 |brk=>calc q
 |cont=>calc q
theorem ak(a:PS X st t):vp X [st] t:=by
 walk_at "xd";refine wpAny_execs_cons (dy (a pins s σ H D I h) λf b q=>?_)
 cases f with
 |next=>calc wpAny_execs_nil q
 |ret v=>calc q
 |brk=>calc q
 |cont=>calc q
theorem Inv.quiet{H:Hp}{s:Shared}(I:Inv X pins σ H s):interactive X.env=false:=by simp[interactive,I.ok.kind]
def y0(te:TE):TS:=λD σ H=>te σ H λ_ a=>D.nx σ a
theorem MX(a:PE X e te)(b:swapsWith e none pos.line X.env=pure false:=by rfl):PS X (.Expr e pos) (y0 te):=by
 walk_at "xd";exact wpAny_Expr_any (dy (a pins s σ H _ I h) λv g (x,c,d,i,f)=>(σ,c,d,f)) I.quiet b
def Rr(te:TE):TS:=λD σ H=>te σ H D.rt
theorem aG(a:PE X e te):PS X (.Return (some e) pos) (Rr te):=by
 walk_at "xd";exact wpAny_Return_some (dy (a pins s σ H _ I h) λv g (x,b,c,d,f)=>(x,σ,b,c,d,f))
def y6(c:TT)(t u:TS):TS:=λD σ H=>c σ H λb a=>if b=true then t D σ a else u D σ a
theorem aT{c:Expr}{a b:List Stmt}{e:TT}(k:PT X c e)(l:vp X a t)(m:vp X b u):PS X (.If c a b pos) (y6 e t u):=by
 walk_at "xd";refine wpAny_If (dy (k pins s σ H _ I h) λd f a=>?_);let(g,i,j):=a
 cases d with
 |true=>calc l pins f σ g D i j
 |false=>calc m pins f σ g D i j
def Bv:TS:=λ_ _ _=>False
theorem cq:PS X st Bv:=.mk λ_ _ _ _ _ _ h=>h.elim
end
abbrev TG:=V->St->Hp->(St->Hp->Prop)->Prop
abbrev Pq:=List V->St->Hp->(St->Hp->Prop)->Prop
structure PG(X:Cx)(target:Expr)(t:TG):Prop where
 out:
  ∀(pins:List (Addr×Obj)) (s:Shared) (σ:St) (H:Hp) (v:V) (u:Value) (Q:St->Hp->Prop),Inv X pins σ H s->RelV v u->t v σ H Q->
   wpAny (model X.prog X.w) X.A (assign target X.env u) (λ_ s'=>∃σ' H',Inv X pins σ' H' s'/\Q σ' H') X.xe s
instance {X:Cx}{a:Expr}{t:TG}:CoeFun (PG X a t) λ_=>
 ∀(pins:List (Addr×Obj)) (s:Shared) (σ:St) (H:Hp) (v:V) (u:Value) (Q:St->Hp->Prop),Inv X pins σ H s->RelV v u->t v σ H Q->
  wpAny (model X.prog X.w) X.A (assign a X.env u) (λ_ s'=>∃a b,Inv X pins a b s'/\Q a b) X.xe s:=⟨PG.out⟩
structure Va(X:Cx)(ts:List Expr)(t:Pq):Prop where
 out:
  ∀(pins:List (Addr×Obj)) (s:Shared) (σ:St) (H:Hp) (vs:List V) (us:List Value) (Q:St->Hp->Prop),Inv X pins σ H s->Vals vs us->t vs σ H Q->
   wpAny (model X.prog X.w) X.A (assignInOrder ((assignEach ts X.env).map (·.2)) us) (λ_ s'=>∃σ' H',Inv X pins σ' H' s'/\Q σ' H') X.xe s
instance {X:Cx}{a:List Expr}{t:Pq}:CoeFun (Va X a t) λ_=>
 ∀(pins:List (Addr×Obj)) (s:Shared) (σ:St) (H:Hp) (vs:List V) (us:List Value) (Q:St->Hp->Prop),Inv X pins σ H s->Vals vs us->t vs σ H Q->
  wpAny (model X.prog X.w) X.A (assignInOrder ((assignEach a X.env).map (·.2)) us) (λ_ s'=>∃a b,Inv X pins a b s'/\Q a b) X.xe s:=⟨Va.out⟩
abbrev Rt:=V->V->V->Hp->(Hp->Prop)->Prop
def Ru(X:Cx)(t:Rt):Prop:=
 ∀(pins:List (Addr×Obj)) (s:Shared) (σ:St) (H:Hp) (o i v:V) (a b u:Value) (Q:Hp->Prop),Inv X pins σ H s->RelV o a->RelV i b->RelV v u->t o i v H Q->
  wpAny (model X.prog X.w) X.A (setItem a b u) (λ_ s'=>∃a,Inv X pins σ a s'/\Q a) X.xe s
abbrev TIp:=V->V->Hp->VK->Prop
def PIp(X:Cx)(a:Operator)(t:TIp):Prop:=
 ∀(pins:List (Addr×Obj)) (s:Shared) (σ:St) (H:Hp) (x y:V) (v u:Value) (Q:VK),Inv X pins σ H s->RelV x v->RelV y u->t x y H Q->
  wpAny (model X.prog X.w) X.A (inplaceOp a v u) (EP X pins σ Q) X.xe s
section
variable {X:Cx}{pos:Pos}
def fE(i:Nat):TG:=λv σ H Q=>Q (σ.set i (some v)) H
theorem ba(a:X.N.Nodup)(b:X.N[i]?=some x)(c:Loc X.env.scope x)(d:X.fn x=true\/X.env.scope.names.lookup x=some .local:=by grind):PG X (.Name x pos) (fE i):=by
 calc⟨?_⟩;intro pins s σ H v u Q I r h;calc wpAny_assign_Name (j4 I a b c r (λf e=>(_,H,e,h)) d)
def Fj:Pq:=λvs σ H Q=>vs=[]/\Q σ H
def j5(t:TG)(u:Pq):Pq:=λvs σ H Q=>∃v r,vs=v::r/\t v σ H λa b=>u r a b Q
theorem xF:Va X [] Fj:=by
 calc⟨?_⟩;intro pins s σ H a b Q I r h;let(e,h):=h;subst e
 cases r;calc assignInOrder_nil (σ,H,I,h)
theorem iA{a:List Expr}{t:TG}{u:Pq}(b:PG X e t)(c:Va X a u)
  (d:(assignEach (e::a) X.env).map (·.2)=assign e X.env::(assignEach a X.env).map (·.2):=by rfl):Va X (e::a) (j5 t u):=by
 calc⟨?_⟩;intro pins s σ H a g Q I r h;let(v,i,f,h):=h;subst f
 cases r with
 |cons r f=>
  rw[d];calc assignInOrder_cons (dy (b pins s σ H _ _ _ I r h) λ_ g i=>?_);let(a,b,d,h):=i;calc c pins g a b _ _ Q d f h
def Fl(K:W.Frag)(n:Nat)(t:Pq):TG:=λv σ H Q=>∃a xs,v=.ref a/\bP K H a xs/\xs.length=n/\t xs σ H Q
theorem Bw{a:List Expr}{k:Nat}{t:Pq}{n:Nat}(b:X.calm=true)(h:Va X a t)
  (d:(assignEach a X.env).length=n:=by rfl) (f:(assignEach a X.env).findIdx? (·.1)=none:=by rfl):PG X (.Tuple a k pos) (Fl X.K n t):=by
 calc⟨?_⟩;intro pins s σ H v u Q I r c;let(a,g,i,j,l,c):=c;subst i
 cases r;let(k,a,i,m):=I.tuple j;calc assign_Tuple_tuple (I.ok.hd b) i (by simp[d,<-l,a.length]) f λk m=>?_;have d:Inv X pins σ H {s with heap:=k}:=I.kept (t':=s.toks) λb o e=>m b o (aai (R' e)) e;calc h pins _ σ H g _ Q d (by simpa using a) c
def Rv(a b:TE)(t:Rt):TG:=λv σ H Q=>a σ H λo c=>b σ c λi a=>t o i v a λb=>Q σ b
theorem jx{o i:Expr}{c d:TE}{t:Rt}(e:PE X o c)(f:PE X i d)(g:Ru X t)
  (j:∀v,assign (.Subscript o i pos) X.env v=(do
   let a <-holding [v] (eval o X.env)
   let b <-holding [v,a] (eval i X.env)
   standAt pos
   holding [v,a,b] (setItem a b v)
   release [v,a,b] []):=by intro _;rfl):PG X (.Subscript o i pos) (Rv c d t):=by
 calc⟨?_⟩;intro pins s σ H v u Q I r h;rw[j];calc F' (aaN (dy (e pins s σ H _ I h) λa d c=>?_));let(x,e,h,j,k):=c;calc F' (aaN (dy (f pins d σ e _ h k) λb l c=>?_));let(y,d,e,f,h):=c;calc F' (wpAny_standAt (F' (aaN (dy (g pins l σ d x y v a b u _ e j f r h) λ_ k c=>?_))));let(a,b,d):=c;calc wpAny_release (σ,a,b,d)
def Fm(te:TE)(g:TG):TS:=λD σ H=>te σ H λx a=>g x σ a D.nx
theorem fA{g:TG}(a:PE X e te)(b:PG X tg g)(c:swapsWithSole [tg] e pos.line X.env=pure false:=by rfl)(d:swappedStores [tg] e X.env=pure none:=by rfl)
  (f:(assignEach [tg] X.env).map (·.2)=[assign tg X.env]:=by rfl):PS X (.Assign [tg] e pos) (Fm te g):=by
 walk_at "xd";refine wpAny_Assign_stores (dy (a pins s σ H _ I h) λv g i=>?_) c d;let(x,a,j,k,l):=i;rw[f];exact dy (b pins g σ a x v _ j k l) λ_ c q=>q
theorem HN{a:Pos}(b:X.N.Nodup)(c:X.N[i]?=some x)(d:Loc X.env.scope x)(f:PE X e te)(g:swapsWith e (some (.Name x a)) pos.line X.env=pure false:=by rfl)(j:X.fn x=true\/X.env.scope.names.lookup x=some .local:=by grind):
  PS X (.Assign [.Name x a] e pos) (Fm te (fE i)):=by
 walk_at "xd";refine wpAny_Assign_Name (dy (f pins s σ H _ I h) λv k a=>?_) g;let(y,f,k,l,m):=a;exact j4 k b c d l (λn g=>(_,f,g,m)) j
def Rw(i:Nat)(te:TE)(a:TIp):TS:=λD σ H=>∃x,σ[i]?=some (some x)/\te σ H λy b=>a x y b λz c=>D.nx (σ.set i (some z)) c
theorem Rx{d:Operator}{g:TIp}{b:Pos}(o:X.N.Nodup)(j:X.N[i]?=some x)(f:Loc X.env.scope x)(p:PE X e te)(q:PIp X d g)(t:X.fn x=true\/X.env.scope.names.lookup x=some .local:=by grind):
  PS X (.AugAssign (.Name x b) d e pos) (Rw i te g):=by
 walk_at "xd";let(v,y,h):=h;let(m,B,z):=I.loc;have c:Wo X.env.scope x:=by rcases f with k|k;exact .inl k;exact .inr (.inl k)
 let(u,r,l):=z i x v j y c;calc wpAny_AugAssign_Name ?_;have n:wpAny (model X.prog X.w) X.A (eval e X.env) (λw b=>wpAny (model X.prog X.w) X.A (inplaceOp d u w) (λr c=>wpAny (model X.prog X.w) X.A (storeName X.env x r) (λ_=>SP X pins D .next) X.xe c) X.xe b) X.xe s:=by
  calc dy (p pins s σ H _ I h) λw c b=>?_;let(y,d,g,m,p):=b;calc dy (q pins c σ d v y u w _ g r m p) λz F b=>?_;let(p,c,d,g,m):=b;exact j4 d o j f g (λq p=>(_,c,p,m)) t
 rcases l with⟨a,b⟩|⟨a,c,C,E⟩
 ·exact wpAny_loadName_local I.ok.kind a B b n
 ·rcases a with a | a
  ·exact wpAny_loadName_cell I.ok.kind a C E n
  ·rcases f with k | k
   ·have:X.env.scope.names.lookup x=some .free:=a;rw[k]at this;cases this
   ·have:X.env.scope.names.lookup x=some .free:=a;rw[k]at this;cases this
def ipI(f:Int->Int->Int):TIp:=λx y H Q=>∃i j,x=.int i/\y=.int j/\Q (.int (f i j)) H
theorem Ry:PIp X .Add (ipI λi j=>i+j):=by
 intro pins s σ H x y v u Q I a b h;let(i,j,c,d,q):=h;subst c;subst d;let(t,rfl):=a;let(e,rfl):=b;calc iadd_int (.int _,H,I.tok _,(_,rfl),q)
end
section
variable {X:Cx}{pos:Pos}
def xG(c:TT)(f:TS):TS:=λD σ H=>∃W:Nat->St->Hp->Prop,(∃m,W m σ H)/\∀m σ H,W m σ H->
 c σ H λb d=>if b=true then ∃N:St->Hp->Prop,(∀a c,N a c->∃e,e<m/\W e a c)/\f {D with nx:=N,ct:=N,bk:=D.nx} σ d else D.nx σ d
theorem HQ{c:Expr}{a:List Stmt}{i:TT}{j:TS}(k:PassesOwn (model X.prog X.w) X.A X.env X.xe)(p:PT X c i)(q:vp X a j):PS X (.While c a [] pos) (xG i j):=by
 walk_at "xd";let(W,(r,t),a):=h;refine wpAny_While (codeAny_whileLoop (λn u=>∃c i,Inv X pins c i u/\W n c i) ?_ r (σ,H,I,t));rintro n v ⟨d,j,x,y⟩;refine wpAny_passesOwn k (dy (p pins v d j _ x (a n d j y)) λb z B=>?_);let(l,m,e):=B
 cases b with
 |true=>
  let(N,o,e):=e;rw[if_pos rfl];refine wpAny_passesOwn k (dy (q pins z d l _ m e) λf a g=>?_)
  cases f with
  |next=>
   let(a,b,c,f):=g;let(i,j,k):=o a b f;calc(i,j,a,b,c,k)
  |cont=>
   let(a,b,c,f):=g;let(i,j,k):=o a b f;calc(i,j,a,b,c,k)
  |brk=>calc g
  |ret v=>calc g
 |false=>
  rw[if_neg S'];calc wpAny_execs_nil (d,l,m,e)
end
structure It where
 go:Nat->Hp->Prop
 Pr:Nat->Hp->V->Hp->Prop
 stop:Nat->Hp->Prop
def qg(X:Cx)(pins:List (Addr×Obj))(H:Hp)(b:Addr):Prop:=
 H b=none/\b≠X.env.locals/\b∉X.fs/\(b∈X.ex\/X.s₀.heap.objs.size<=b)/\(∀x c,X.env.cells.lookup x=some c->c≠b)/\∀p∈X.pn++pins,p.1≠b
theorem Inv.HR{H c:Hp}{s:Shared}{b:Addr}(I:Inv X pins σ H s)(a:s.heap.objs.size<=b)(d:c b=none):qg X pins c b:=by
 refine(d,aaJ (V' I.lt a),I.Rl a,.inr (aar I.sz a),λx c e z=>?_,λp b z=>?_)
 ·let(v,q):=I.cell x c e;exact absurd (V' q.lt (by rw[z];calc a)) (aaP _)
 ·calc absurd (V' (R' (I.pin p b).1) (by rw[z];calc a)) (aaP _)
structure Turn(P:Program)(w:World)(K:W.Frag)(tg:Expr)(J:It)(fp:List Addr)(it:Addr)(tn:Nat->Heap->Prop):Prop where
 mem:it∈fp
 obj:∀i h,tn i h->∀b∈fp,∃o,h.get? b=some o/\∀v,o.data≠.cell v
 keep:∀i h h',tn i h->(∀b∈fp,∀o,h.get? b=some o->h'.get? b=some o)->tn i h'
 item:∀(X:Cx),X.prog=P->X.w=w->X.K=K->X.calm=true->∀(i:Nat) (pins:List (Addr×Obj)) (s:Shared) (σ:St) (H:Hp) (E:Value->Shared->Prop),Inv X pins σ H s->(∀b ∈ fp,qg X pins H b)->tn i s.heap->J.go i H->
  wpAny (model P w) X.A (pyNext (.ref it)) (λr s1=>∃u,r=some u/\
   wpAny (model P w) X.A (letOwnedTupleGo tg (.ref it) u) (λ_ s2=>∃x H',Inv X pins σ H' s2/\RelV x u/\J.Pr i H x H'/\tn (i + 1) s2.heap/\∀b ∈ fp,H' b=none) E s1) E s
 done:∀(X:Cx),X.prog=P->X.w=w->X.K=K->X.calm=true->∀(i:Nat) (pins:List (Addr×Obj)) (s:Shared) (σ:St) (H:Hp) (E:Value->Shared->Prop),Inv X pins σ H s->(∀b ∈ fp,qg X pins H b)->tn i s.heap->J.stop i H->
  wpAny (model P w) X.A (pyNext (.ref it)) (λr s1=>r=none/\Inv X pins σ H s1) E s
 self:∀(A:Around) (i:Nat) (s:Shared) (Q:Value->Shared->Prop) (E:Value->Shared->Prop),tn i s.heap->Q (.ref it) s->wpAny (model P w) A (pyIter (.ref it)) Q E s
abbrev TI:=St->Hp->(It->Hp->Prop)->Prop
def PIE(X:Cx)(pins:List (Addr×Obj))(σ:St)(tg:Expr)(R:It->Hp->Prop)(a:Value)(d:Shared):Prop:=
 ∃(e:Addr) (f:List Addr) (g:Nat->Heap->Prop) (J:It) (c:Hp),a=.ref e/\Inv X pins σ c d/\Turn X.prog X.w X.K tg J f e g/\g 0 d.heap/\(∀b∈f,qg X pins c b)/\R J c
structure PI(X:Cx)(tg iter:Expr)(wi:TI):Prop where
 out:
  ∀(pins:List (Addr×Obj)) (s:Shared) (σ:St) (H:Hp) (R:It->Hp->Prop),Inv X pins σ H s->wi σ H R->
   wpAny (model X.prog X.w) X.A (eval iter X.env) (λv s1=>wpAny (model X.prog X.w) X.A (pyIter v) (PIE X pins σ tg R) X.xe s1) X.xe s
instance {X:Cx}{tg a:Expr}{b:TI}:CoeFun (PI X tg a b) λ_=>
 ∀(pins:List (Addr×Obj)) (s:Shared) (σ:St) (H:Hp) (R:It->Hp->Prop),Inv X pins σ H s->b σ H R->
  wpAny (model X.prog X.w) X.A (eval a X.env) (λv b=>wpAny (model X.prog X.w) X.A (pyIter v) (PIE X pins σ tg R) X.xe b) X.xe s:=⟨PI.out⟩
theorem HS{M:Model}{A:Around}{E:Value->Shared->Prop}{s:Shared}{tg:Expr}{b:Addr}{u:Value}{o:Obj}{n:String}{vs:Array Value}{Q:Unit->Shared->Prop}(c:s.heap.get? b=some o)(d:o.cls=.type n)(e:o.data=.fields vs)
    (f:["enumerate","zip","dict_itemiterator","dict_reverseitemiterator","odict_iterator","itertools.zip_longest","itertools.pairwise"].contains n=false) (a:Q ⟨⟩ s):wpAny M A (letOwnedTupleGo tg (.ref b) u) Q E s:=by
  unfold letOwnedTupleGo
  cases tg<;>first
    |calc P' a
    | (cases u <;> first
        |calc P' a
        | (refine F' (wpAny_load c ?_)
           rw[d,e];show wpAny M A (if (["enumerate","zip","dict_itemiterator","dict_reverseitemiterator","odict_iterator","itertools.zip_longest","itertools.pairwise"].contains n && vs[0]? == some (rawInt _))=true then _ else _) Q E s;rw[if_neg (by intro h;rw[f,Bool.false_and] at h;cases h)];exact P' a))
def v9(K:W.Frag)(a:Addr):It:=
 (λi H=>∃xs x,aY K H a xs/\xs[i]?=some x,λi H x b=>b=H/\∀xs,aY K H a xs->xs[i]?=some x,λi H=>∃xs,aY K H a xs/\xs.length<=i)
def Wu(K:W.Frag)(a:Addr):It:=
 (λi H=>∃xs x,bP K H a xs/\xs[i]?=some x,λi H x b=>b=H/\∀xs,bP K H a xs->xs[i]?=some x,λi H=>∃xs,bP K H a xs/\xs.length<=i)
def Dj(a:Int)(n:Nat):It:=(λi _=>i<n,λi H x b=>b=H/\x=.int (a+i),λi _=>n<=i)
theorem Fo{P:Program}{w:World}(a g:Addr):Turn P w K tg (v9 K a) [g] g (λi h=>h.IsListIter g a i) where
 mem:=by simp
 obj:=λi h f b j=>by
  have e:b=g:=by simpa using j
  subst e;let(o,e,c,d):=f;exact(o,e,λv z=>by rw[d]at z;cases z)
 keep:=λi h l f k=>f.at λo e=>k g nofun o e
 item:=by
  intro X q r t L i pins s σ H E I m f y;subst q r t;let(M,x,n,A):=y;let(N,B,p,O):=I.list n;let(u,k,v):=B.get A;let(C,D,Q,F,G,J):=m g nofun;calc wpAny_pyNext_list_item f p.isList (x:=u) (by simpa using k) λl a w=>?_;have k:Inv X pins σ H {s with heap:=l}:=I.turned (t':=s.toks) (λb o j e=>(w.2 b j).trans e) C D F G J;let(o,e,c,d):=id a;exact(u,rfl,HS (s:={s with heap:=l}) e c d ∅ (x,H,k,v,(rfl,λw u=>by rw[I.yZ u n];calc A),a,λb j=>(m b j).1))
 done:=by
  intro X q r t L i pins s σ H E I m f y;subst q r t;let(M,n,A):=y;let(N,B,p,O):=I.list n;let(C,D,Q,F,G,J):=m g nofun;have a:=B.length;exact wpAny_pyNext_list_end (I.ok.hd L) f p.isList (by simp;lia) λl a=>(rfl,I.turned (t':=s.toks) (λb o j e=>a b o j e) C D F G J)
 self:=λ_ _ _ _ _ f h=>wpAny_pyIter_listiter f h
theorem Bx{P:Program}{w:World}(a g:Addr):Turn P w K tg (Wu K a) [g] g (λi h=>h.IsTupleIter g a i) where
 mem:=by simp
 obj:=λi h f b j=>by
  have e:b=g:=by simpa using j
  subst e;let(o,e,c,d):=f;exact(o,e,λv z=>by rw[d]at z;cases z)
 keep:=λi h l f k=>f.at λo e=>k g nofun o e
 item:=by
  intro X q r t M i pins s σ H E I m f y;subst q r t;let(N,x,n,A):=y;let(B,C,p,O):=I.tuple n;let(u,v,w):=C.get A;let(D,F,Q,G,J,L):=m g nofun;calc wpAny_pyNext_tuple_item f (show s.heap.IsTuple a B.toArray from p) (x:=u) (by simpa using v) λl k z=>?_;have v:Inv X pins σ H {s with heap:=l}:=I.turned (t':=s.toks) (λb o j e=>(z.2 b j).trans e) D F G J L;let(o,e,c,d):=id k;exact(u,rfl,HS (s:={s with heap:=l}) e c d ∅ (x,H,v,w,(rfl,λz u=>by rw[I.v8 u n];calc A),k,λb j=>(m b j).1))
 done:=by
  intro X q r t M i pins s σ H E I m f y;subst q r t;let(N,n,A):=y;let(B,C,p,O):=I.tuple n;let(D,F,Q,G,J,L):=m g nofun;have c:=C.length;exact wpAny_pyNext_tuple_end (I.ok.hd M) f (show s.heap.IsTuple a B.toArray from p) (by simp;lia) λl c=>(rfl,I.turned (t':=s.toks) (λb o j e=>c b o j e) D F G J L)
 self:=λ_ _ _ _ _ f h=>wpAny_pyIter_tupleiter f h
theorem By{P:Program}{w:World}(c:Addr)(f:Int)(n:Nat):Turn P w K tg (Dj f n) [c] c (λi h=>IsRangeIter h c (f+(i:Nat)*1) ((n:Int)-(i:Nat)) 1) where
 mem:=by simp
 obj:=λi h a b d=>by
  have e:b=c:=by simpa using d
  subst e;exact(_,a,λv z=>by
   have k:Data.fields _=Data.cell v:=z
   cases k)
 keep:=λi h g a k=>k c nofun _ a
 item:=by
  intro X l m p q i pins s σ H E I j a r;subst l m p;let(u,x,F,y,A,B):=j c nofun;have W:=Walks.range (prog:=X.prog) (w:=X.w) (I.ok.hd q) c f 1 n;calc W.item i s _ _ r a λv g C G D J=>?_;let(t,rfl):=G;have k:Inv X pins σ H {s with heap:=g,toks:=C}:=I.turned (λb o d e=>J b o (by simpa using d) e) u x y A B;calc(_,rfl,HS (s:={s with heap:=g,toks:=C}) (n:="range_iterator") D rfl rfl ∅ (.int (f+i),H,k,(t,?_),(rfl,rfl),D,λb d=>(j b d).1));rw[Int.mul_one]
 done:=by
  intro X l m p q i pins s σ H E I j a r;subst l m p;let(u,x,F,y,A,B):=j c nofun;exact wpAny_pyNext_range_end (I.ok.hd q) a (by have:n<=i:=r;lia) λg c=>(rfl,I.turned (t':=s.toks) (λb o d e=>c b o d e) u x y A B)
 self:=λ_ _ _ _ _ a h=>wpAny_pyIter_rangeiter a h
end
section
variable {H:Hp}{pins:List (Addr×Obj)}{s:Shared}{σ:St}{g:TG}{tb:TS}
section
variable {X:Cx}{tg:Expr}
theorem HU{R:It->Hp->Prop}{E:Value->Shared->Prop}{a c:Int}{t u v:Tok}{d:Nat}(I:Inv X pins σ H s)(g:-(2^62)<=a)(h:a<2^62)(i:-(2^62)<=c)(j:c<2^62)
  (q:R (Dj a (c-a).toNat) H):wpAny (model X.prog X.w) X.A (pyIter (.ref s.heap.objs.size)) (PIE X pins σ tg R) E {s with heap:=s.heap.push {cls:=.type "range",data:=.fields #[.int a t,.int c u,.int 1 v]},toks:=d}:=by
 refine wpAny_pyIter_range (IsRange.new ..) (small_one g h i j) ?_;have f:Inv X pins σ H {s with heap:=s.heap.push {cls:=.type "range",data:=.fields #[.int a t,.int c u,.int 1 v]},toks:=d}:=I.kept λb o e=>K' _ e;refine((s.heap.push {cls:=.type "range",data:=.fields #[.int a t,.int c u,.int 1 v]}).objs.size,[(s.heap.push {cls:=.type "range",data:=.fields #[.int a t,.int c u,.int 1 v]}).objs.size],_,_,H,rfl,
  f.kept (t':=d) λb o e=>K' _ e,By _ a (c - a).toNat,?_,λb k=>?_,q)
 ·have l:a + ((0:Nat):Int) * 1=a:=by simp
  have m:(((c-a).toNat:Nat):Int)-((0:Nat):Int)=Builtin.Range.rangeSize a c 1:=by rw[rangeSize_one];split<;>lia
  show IsRangeIter _ _ (a+((0:Nat):Int)*1) ((((c-a).toNat:Nat):Int)-((0:Nat):Int)) 1;rw[l,m];exact Y' _ rfl
 ·have e:b=(s.heap.push {cls:=.type "range",data:=.fields #[.int a t,.int c u,.int 1 v]}).objs.size:=by simpa using k
  subst e;calc f.HR (L' _) (f.aW.fresh (L' _))
def HV(a:TA):TI:=λσ H R=>a σ H λvs b=>∃j:Int,vs=[.int j]/\-(2^62)<=j/\j<2^62/\R (Dj 0 j.toNat) b
theorem c8{a:Expr}{c:TA}{p pos:Pos}(d:Gl X "range")(f:X.mg "range"=none)(g:PA X [a] c)(i:starEach [a] X.env=[((false),eval a X.env)]:=by rfl):PI X tg (.Call (.Name "range" p) [a] [] pos) (HV c):=by
 calc⟨?_⟩;intro pins s σ H R I h;calc Call_ (qf I d f boot_range (PyProof.Rows.callWith_type1 (dy (g pos pins s σ H _ I h) λc j a=>?_) i rfl));let(c,d,k,l,b):=a;let(j,e,b,m,q):=b;subst e
 cases l with
 |cons r n=>
  cases n;let(t,rfl):=r;calc call_range_1 (HU k () () b m (by simpa using q))
def Rz(a:TI)(g:TG)(tb:TS):TS:=λD σ H=>a σ H λJ b=>∃W:Nat->Nat->St->Hp->Prop,(∃m,W 0 m σ b)/\∀i m σ H,W i m σ H->
 (J.stop i H/\D.nx σ H)\/(J.go i H/\∃N:St->Hp->Prop,(∀a b,N a b->∃d,d<m/\W (i+1) d a b)/\∀x b,J.Pr i H x b->g x σ b λc e=>tb {D with nx:=N,ct:=N,bk:=D.nx} c e)
def qh(a:List Addr)(h:Heap):List (Addr×Obj):=a.filterMap λb=>(h.get? b).map λo=>((b),o)
theorem kq{a:List Addr}{h:Heap}{b:Addr}{o:Obj}(c:b∈a)(e:h.get? b=some o):((b),o)∈qh a h:=List.mem_filterMap.mpr (b,c,by rw[e];rfl)
theorem Fp{a:List Addr}{h:Heap}{p:Addr×Obj}(c:p∈qh a h):p.1∈a/\h.get? p.1=some p.2:=by
 let(b,d,e):=List.mem_filterMap.mp c
 cases q:h.get? b with
 |none=>rw[q]at e;cases e
 |some o=>
  rw[q]at e;have f:((b),o)=p:=Option.some.inj e;subst f;calc(d,q)
theorem Inv.pinned{a:List Addr}(I:Inv X pins σ H s)(g:∀b∈a,qg X pins H b)(h:∀b∈a,∃o,s.heap.get? b=some o/\∀v,o.data≠.cell v):Inv X (pins++qh a s.heap) σ H s:=
 I.xE λp a=>(List.mem_append.mp a).elim (λz=>I.pin p (aau _ z)) λz=>by
  let(c,e):=Fp z;let(i,j,k,_):=g p.1 c;let(o,f,d):=h p.1 c;rw[e]at f;cases f;calc(e,i,j,k,d)
theorem Inv.lG{pl:List (Addr×Obj)}(I:Inv X (pins++pl) σ H s):Inv X pins σ H s:=I.xE λp a=>I.pin p (aau _ (List.mem_append_left _ a))
theorem fB{c:Expr}{m:List Stmt}{J:TI}{pos:Pos}(z:PassesOwn (model X.prog X.w) X.A X.env X.xe)(M:X.calm=true)(Y:PI X tg c J)(Z:PG X tg g)(j:vp X m tb)
  (hs:∀x,foldedSetIterable c X.env x=pure x:=by intro _;rfl):PS X (.For tg c m [] pos) (Rz J g tb):=by
 walk_at "xd";refine wpAny_For (dy (Y pins s σ H _ I h) λv m c=>dy c λm J h2=>?_) hs;let(c,B,O,J,H2,e,I2,T,Dk,P,W,(m0,w0),C):=h2;subst e;have K:∀{o:Hp},(∀b∈B,o b=none)->∀b∈B,qg X pins o b:=λc b j=>(c b j,(P b j).2)
 calc codeAny_forLoop_any (λn c=>∃i d o,Inv X pins d o c/\O i c.heap/\(∀b∈B,o b=none)/\W i n d o) ?_ m0 (0,σ,H2,I2,Dk,λb j=>(P b j).1,w0);rintro n Q ⟨i,k,G,R,S,U,w3⟩;rcases C i n k G w3 with⟨c,qn⟩|⟨go,N,hN,E⟩
 ·calc wpAny_passesOwn z (dy (T.done X rfl rfl rfl M i pins Q k G X.xe R (K U) S c) λr s4 y=>?_);let(L,I4):=y;subst L;exact wpAny_execs_nil (k,G,I4,qn)
 ·calc wpAny_passesOwn z (dy (T.item X rfl rfl rfl M i pins Q k G X.xe R (K U) S go) λr s4 y=>?_);let(u,L,h4):=y;subst L;calc wpAny_passesOwn z (dy h4 λ_ C y=>?_);let(x,G,J,L,M,c,m):=y;have r:=J.pinned (K m) (T.obj _ _ c);calc wpAny_passesOwn z (dy (Z _ C k G x u _ r L (E x G M)) λ_ P y=>?_);let(k,m,u,x):=y;calc wpAny_passesOwn z (dy (j _ P k m _ u x) λf r t=>?_);have l:∀{a:St} {p:Hp},Inv X (pins++qh B C.heap) a p r->N a p->∃m,m<n/\∃i d o,Inv X pins d o r/\O i r.heap/\(∀b∈B,o b=none)/\W i m d o:=λ{a p} q F=>by
   let(d,k,m):=hN a p F;calc(d,k,i+1,a,p,q.lG,T.keep _ _ _ c λb j o e=>(q.pin ((b),o) (aau _ (aau _ (kq j e)))).1,λb j=>?_,m);let(o,e,d):=T.obj _ _ c b j;exact(q.pin ((b),o) (aau _ (aau _ (kq j e)))).2.1
  cases f with
  |next=>let(a,p,q,F):=t;calc l q F
  |cont=>let(a,p,q,F):=t;calc l q F
  |brk=>let(a,p,q,t):=t;calc(a,p,q.lG,t)
  |ret v=>let(b,a,p,q,c,t):=t;calc(b,a,p,q.lG,c,t)
end
theorem gQ{K:W.Frag}{a:Addr}{xs:List V}{D:Ends}(b:Nat->St->Hp->Prop)(k:b 0 σ H)(l:∀i σ H,i<=xs.length->b i σ H->aY K H a xs)
  (n:∀i x σ H,xs[i]?=some x->b i σ H->g x σ H λc h=>tb {D with nx:=b (i+1),ct:=b (i+1),bk:=D.nx} c h) (o:∀σ H,b xs.length σ H->D.nx σ H):
  ∃W:Nat->Nat->St->Hp->Prop,(∃m,W 0 m σ H)/\∀i m σ H,W i m σ H->
   ((v9 K a).stop i H/\D.nx σ H)\/((v9 K a).go i H/\∃N:St->Hp->Prop,(∀d f,N d f->∃j,j<m/\W (i+1) j d f)/\∀x f,(v9 K a).Pr i H x f->g x σ f λc h=>tb {D with nx:=N,ct:=N,bk:=D.nx} c h):=by
 calc(λi m σ H=>m=xs.length-i/\i<=xs.length/\b i σ H,(xs.length,nofun,aap _,k),?_);rintro i m σ H ⟨rfl,c,p⟩;have q:=l i σ H c p;by_cases a:i<xs.length
 ·calc .inr ((xs,xs[i],q,by simp[a]),b (i+1),λd f c=>(xs.length-(i+1),(),rfl,a,c),λx f y=>?_);let(e,y):=y;subst e;exact n i x σ _ (y xs q) p
 ·have e:i=xs.length:=by lia
  subst e;calc .inl ((xs,q,L' _),o σ H p)
theorem j6{f:Int}{n:Nat}{D:Ends}(a:Nat->St->Hp->Prop)(l:a 0 σ H)
  (o:∀i σ H,i<n->a i σ H->g (.int (f+i)) σ H λb h=>tb {D with nx:=a (i+1),ct:=a (i+1),bk:=D.nx} b h) (q:∀σ H,a n σ H->D.nx σ H):
  ∃W:Nat->Nat->St->Hp->Prop,(∃m,W 0 m σ H)/\∀i m σ H,W i m σ H->
   ((Dj f n).stop i H/\D.nx σ H)\/((Dj f n).go i H/\∃N:St->Hp->Prop,(∀c d,N c d->∃k,k<m/\W (i+1) k c d)/\∀x d,(Dj f n).Pr i H x d->g x σ d λb h=>tb {D with nx:=N,ct:=N,bk:=D.nx} b h):=by
 calc(λi m σ H=>m=n-i/\i<=n/\a i σ H,(n,nofun,aap _,l),?_);rintro i m σ H ⟨rfl,b,p⟩;by_cases j:i<n
 ·calc .inr (j,a (i+1),λc d b=>(n-(i+1),(),rfl,j,b),λx d y=>?_);let(e,y):=y;subst e y;exact o i σ _ j p
 ·have e:i=n:=by lia
  subst e;calc .inl (L' _,q σ H p)
end
section
variable {op:CmpOp}{g:Int->Int->Int}
abbrev R2:=V->V->Hp->VK->Prop
def gU(X:Cx)(f:Value->Value->Sem Value)(r:R2):Prop:=
 ∀(pins:List (Addr×Obj)) (s:Shared) (σ:St) (H:Hp) (x y:V) (v u:Value) (Q:VK),Inv X pins σ H s->RelV x v->RelV y u->r x y H Q->
  wpAny (model X.prog X.w) X.A (f v u) (EP X pins σ Q) X.xe s
def UnR(X:Cx)(f:Value->Sem Value)(r:V->Hp->VK->Prop):Prop:=
 ∀(pins:List (Addr×Obj)) (s:Shared) (σ:St) (H:Hp) (x:V) (v:Value) (Q:VK),Inv X pins σ H s->RelV x v->r x H Q->
  wpAny (model X.prog X.w) X.A (f v) (EP X pins σ Q) X.xe s
def dN(X:Cx)(f:Value)(r:List V->Hp->VK->Prop):Prop:=
 ∀(pins:List (Addr×Obj)) (s:Shared) (σ:St) (H:Hp) (xs:List V) (us:List Value) (Q:VK),Inv X pins σ H s->Vals xs us->r xs H Q->
  wpAny (model X.prog X.w) X.A (call f us) (EP X pins σ Q) X.xe s
def HW(r:R2)(a b:TE):TE:=λσ H Q=>a σ H λx c=>b σ c λy a=>r x y a Q
def tUn(r:V->Hp->VK->Prop)(a:TE):TE:=λσ H Q=>a σ H λx b=>r x b Q
def rI(C:Int->Int->Prop)(g:Int->Int->V):R2:=λx y H Q=>∃i j,x=.int i/\y=.int j/\C i j/\Q (g i j) H
def MY(g:Int->Int->V):R2:=λx y H Q=>∃i j,x=.int i/\y=.int j/\Q (g i j) H
def rU(g:Int->V):V->Hp->VK->Prop:=λx H Q=>∃i,x=.int i/\Q (g i) H
section
variable {X:Cx}{a b c:Expr}{ta tb tc:TE}{pos:Pos}
theorem RA(j:PE X a ta)(k:PE X b tb){pins:List (Addr×Obj)}{s:Shared}{σ:St}{H:Hp}{R:V->V->Hp->Prop}(I:Inv X pins σ H s)
  (h:ta σ H λx i=>tb σ i λy c=>R x y c) {Q:Value->Shared->Prop} {f:Value->Value->Sem Value}
  (l:∀v u g x y c,Inv X pins σ c g->RelV x v->RelV y u->R x y c->wpAny (model X.prog X.w) X.A (f v u) Q X.xe g):
  wpAny (model X.prog X.w) X.A (eval a X.env) (λv d=>wpAny (model X.prog X.w) X.A (eval b X.env) (λu e=>wpAny (model X.prog X.w) X.A (f v u) Q X.xe e) X.xe d) X.xe s:=by
 calc dy (j pins s σ H _ I h) λv e d=>?_;let(x,i,f,h,j):=d;calc dy (k pins e σ i _ f j) λu g d=>?_;let(y,c,e,f,i):=d;calc l v u g x y c e h f i
theorem aR{op:Operator}{r:R2}(c:gU X (binaryOp op) r)(d:PE X a ta)(e:PE X b tb):PE X (.BinOp a op b pos) (HW r ta tb):=by
 walk_at "xc";exact wpAny_BinOp (RA d e I h λv u f x y g i j k q=>c pins f σ g x y v u Q i j k q)
theorem lH{op:UnaryOp}{r:V->Hp->VK->Prop}(b:UnR X (unaryOp op) r)(c:PE X a ta):PE X (.UnaryOp op a pos) (tUn r ta):=by
 walk_at "xc";exact UnaryOp_ (dy (c pins s σ H _ I h) λv d (x,e,f,g,i)=>b pins d σ e x v Q f g i)
theorem opI{f:Value->Value->Sem Value}{C:Int->Int->Prop}
  (a:∀(i j:Int) (t u:Tok) (s:Shared) (Q:Value->Shared->Prop) (E:Value->Shared->Prop),C i j->Q (.int (g i j) s.toks) {s with toks:=s.toks+1}->wpAny (model X.prog X.w) X.A (f (.int i t) (.int j u)) Q E s):
  gU X f (rI C λi j=>.int (g i j)):=by
 intro b s σ H x y v u Q I c d h;let(i,j,rfl,rfl,e,q):=h;let(t,rfl):=c;let(k,rfl):=d;calc a i j t k s _ _ e (.int (g i j),H,I.tok _,(_,rfl),q)
theorem Ww{f:Value->Value->Sem Value}
  (a:∀(i j:Int) (t u:Tok) (s:Shared) (Q:Value->Shared->Prop) (E:Value->Shared->Prop),Q (.int (g i j) s.toks) {s with toks:=s.toks+1}->wpAny (model X.prog X.w) X.A (f (.int i t) (.int j u)) Q E s):
  gU X f (MY λi j=>.int (g i j)):=by
 intro b s σ H x y v u Q I c d h;let(i,j,rfl,rfl,q):=h;let(t,rfl):=c;let(e,rfl):=d;calc a i j t e s _ _ (.int (g i j),H,I.tok _,(_,rfl),q)
theorem MZ{f:Value->Value->Sem Value}{g:Int->Int->Bool}
  (a:∀(i j:Int) (t u:Tok) (s:Shared) (Q:Value->Shared->Prop) (E:Value->Shared->Prop),Q (.bool (g i j)) s->wpAny (model X.prog X.w) X.A (f (.int i t) (.int j u)) Q E s):
  gU X f (MY λi j=>.bl (g i j)):=by
 intro b s σ H x y v u Q I c d h;let(i,j,rfl,rfl,q):=h;let(t,rfl):=c;let(e,rfl):=d;calc a i j t e s _ _ (.bl (g i j),H,I,rfl,q)
def M0(i j:Int):Prop:=0<=j/\j<=1000000/\i.natAbs<2^64
def HX(i j:Int):Prop:=(-(2^64)<i/\i<2^64)\/(-(2^64)<j/\j<2^64)
theorem HX.ok{i j:Int}(h:HX i j):IntMulOk i j:=by
 rcases h with⟨a,b⟩|⟨a,b⟩
 ·exact .of_left (intBits_le_64 a b)
 ·calc .of_right (intBits_le_64 a b)
theorem RB:gU X (binaryOp .Add) (MY λi j=>.int (i+j)):=Ww λ_ _ _ _ _ _ _ q=>add_int q
theorem RC:gU X (binaryOp .Sub) (MY λi j=>.int (i-j)):=Ww λ_ _ _ _ _ _ _ q=>sub_int q
theorem RD:gU X (binaryOp .Mult) (rI HX λi j=>.int (i*j)):=opI λ_ _ _ _ _ _ _ a q=>mul_int q a.ok
theorem RE:gU X (binaryOp .Mod) (rI (λ_ j=>0<j) λi j=>.int (i%j)):=opI λi j _ _ _ _ _ a q=>by
 have b:(0:Int)<j:=a;calc mod_int' () (by rw[Int.fmod_eq_emod_of_nonneg i ()];calc q)
theorem RF:gU X (binaryOp .Pow) (rI M0 λi j=>.int (i^j.toNat)):=opI λ_ _ _ _ _ _ _ a q=>pow_int_small a.1 a.2.1 a.2.2 q
theorem unI{f:Value->Sem Value}{g:Int->Int}
  (a:∀(i:Int) (t:Tok) (s:Shared) (Q:Value->Shared->Prop) (E:Value->Shared->Prop),Q (.int (g i) s.toks) {s with toks:=s.toks+1}->wpAny (model X.prog X.w) X.A (f (.int i t)) Q E s):
  UnR X f (rU λi=>.int (g i)):=by
 intro b s σ H x v Q I c h;let(i,rfl,q):=h;let(t,rfl):=c;calc a i t s _ _ (.int (g i),H,I.tok _,(_,rfl),q)
theorem iB:UnR X (unaryOp .USub) (rU λi=>.int (-i)):=unI λ_ _ _ _ _ q=>neg_int q
end
def M1:V->V->Bool
 | .bO,.bO=>true | .bO,.int _=>true | .int _,.bO=>true | .bO,.bl _=>true | .bl _,.bO=>true | .bO,.str _=>true | .str _,.bO=>true
 | .int _,.int _=>true | .bl _,.bl _=>true | .str _,.str _=>true | .Dg _,.Dg _=>true
 | .int _,.str _=>true | .str _,.int _=>true | .bl _,.str _=>true | .str _,.bl _=>true
 |_,_=>false
def rEq:R2:=λx y H Q=>M1 x y=true/\Q (.bl (decide (x=y))) H
def rNe:R2:=λx y H Q=>M1 x y=true/\Q (.bl (!decide (x=y))) H
theorem Dl{i j:Int}:decide (V.int i=V.int j)=(i==j):=by
 rw[Bool.eq_iff_iff];simp
theorem HY{i j:Bool}:decide (V.bl i=V.bl j)=(i==j):=by
 rw[Bool.eq_iff_iff];simp
theorem Dm{i j:Str}:decide (V.str i=V.str j)=(i==j):=by
 rw[Bool.eq_iff_iff];simp
theorem Dn{i j:Array UInt8}:decide (V.Dg i=V.Dg j)=(i.toList==j.toList):=by
 rw[Bool.eq_iff_iff]
 cases i
 cases j;simp
section
variable {X:Cx}{a b c:Expr}{ta tb tc:TE}{pos:Pos}
theorem bY{pins:List (Addr×Obj)}{σ:St}{H:Hp}{s:Shared}{Q:VK}{k a:Bool}(I:Inv X pins σ H s)(q:Q (.bl k) H)(e:k=a):EP X pins σ Q (.bool a) s:=by
 subst e;calc(.bl k,H,I,rfl,q)
theorem Wx:gU X (compareOp .Eq) rEq:=by
 intro e s σ H x y v u Q I d a h;let(c,q):=h
 cases x with
 |bO=>
  cases d
  cases y with
  |bO=>cases a;calc PySem.EqNone.eq_none_none (bY I q nofun)
  |bl j=>cases a;calc PySem.EqNone.eq_none_bool (bY I q nofun)
  |int j=>let(b,rfl):=a;calc PySem.EqNone.eq_none_int (bY I q nofun)
  |str j=>let(b,rfl):=a;calc PySem.EqNone.eq_none_str (bY I q nofun)
  |_=>calc absurd (show false=true from c) S'
 |bl i=>
  cases d
  cases y with
  |bO=>cases a;calc PySem.EqNone.eq_bool_none (bY I q nofun)
  |bl j=>cases a;calc eq_bool (bY I q HY)
  |str j=>let(b,rfl):=a;calc PySem.EqMixed.eq_bool_str (bY I q nofun)
  |_=>calc absurd (show false=true from c) S'
 |int i=>
  let(t,rfl):=d
  cases y with
  |bO=>cases a;calc PySem.EqNone.eq_int_none (bY I q nofun)
  |int j=>let(b,rfl):=a;calc eq_int (bY I q Dl)
  |str j=>let(b,rfl):=a;calc PySem.EqMixed.eq_int_str (bY I q nofun)
  |_=>calc absurd (show false=true from c) S'
 |str i=>
  let(t,rfl):=d
  cases y with
  |bO=>cases a;calc PySem.EqNone.eq_str_none (bY I q nofun)
  |bl j=>cases a;calc PySem.EqMixed.eq_str_bool (bY I q nofun)
  |int j=>let(b,rfl):=a;calc PySem.EqMixed.eq_str_int (bY I q nofun)
  |str j=>let(b,rfl):=a;calc eq_str (bY I q Dm)
  |_=>calc absurd (show false=true from c) S'
 |Dg i=>
  let(t,rfl):=d
  cases y with
  |Dg j=>let(b,rfl):=a;calc W.eq_bytes (bY I q Dn)
  |_=>calc absurd (show false=true from c) S'
 |_=>cases y<;>calc absurd (show false=true from c) S'
theorem Wy:gU X (compareOp .NotEq) rNe:=by
 intro e s σ H x y v u Q I d a h;let(c,q):=h
 cases x with
 |bO=>
  cases d
  cases y with
  |bO=>cases a;calc PySem.EqNone.ne_none_none (bY I q nofun)
  |bl j=>cases a;calc PySem.EqNone.ne_none_bool (bY I q nofun)
  |int j=>let(b,rfl):=a;calc PySem.EqNone.ne_none_int (bY I q nofun)
  |str j=>let(b,rfl):=a;calc PySem.EqNone.ne_none_str (bY I q nofun)
  |_=>calc absurd (show false=true from c) S'
 |bl i=>
  cases d
  cases y with
  |bO=>cases a;calc PySem.EqNone.ne_bool_none (bY I q nofun)
  |bl j=>cases a;calc ne_bool (bY I q (congrArg not HY))
  |str j=>let(b,rfl):=a;calc PySem.EqMixed.ne_bool_str (bY I q nofun)
  |_=>calc absurd (show false=true from c) S'
 |int i=>
  let(t,rfl):=d
  cases y with
  |bO=>cases a;calc PySem.EqNone.ne_int_none (bY I q nofun)
  |int j=>let(b,rfl):=a;calc ne_int (bY I q (congrArg not Dl))
  |str j=>let(b,rfl):=a;calc PySem.EqMixed.ne_int_str (bY I q nofun)
  |_=>calc absurd (show false=true from c) S'
 |str i=>
  let(t,rfl):=d
  cases y with
  |bO=>cases a;calc PySem.EqNone.ne_str_none (bY I q nofun)
  |bl j=>cases a;calc PySem.EqMixed.ne_str_bool (bY I q nofun)
  |int j=>let(b,rfl):=a;calc PySem.EqMixed.ne_str_int (bY I q nofun)
  |str j=>let(b,rfl):=a;calc ne_str (bY I q (congrArg not Dm))
  |_=>calc absurd (show false=true from c) S'
 |Dg i=>
  let(t,rfl):=d
  cases y with
  |Dg j=>let(b,rfl):=a;calc W.ne_bytes (bY I q (congrArg not Dn))
  |_=>calc absurd (show false=true from c) S'
 |_=>cases y<;>calc absurd (show false=true from c) S'
theorem Wz:gU X (compareOp .Lt) (MY λi j=>.bl (decide (i<j))):=MZ λ_ _ _ _ _ _ _ q=>lt_int q
theorem WA:gU X (compareOp .LtE) (MY λi j=>.bl (decide (i<=j))):=MZ λ_ _ _ _ _ _ _ q=>le_int q
theorem WB:gU X (compareOp .Gt) (MY λi j=>.bl (decide (j<i))):=MZ λ_ _ _ _ _ _ _ q=>gt_int q
theorem WC:gU X (compareOp .GtE) (MY λi j=>.bl (decide (j<=i))):=MZ λ_ _ _ _ _ _ _ q=>ge_int q
theorem RG:gU X (compareOp .Is) (λx y H Q=>y=.bO/\Q (.bl (decide (x=.bO))) H):=by
 intro a s σ H x y v u Q I b c h;let(rfl,q):=h
 cases c;refine is_none_gen (bY I q ?_)
 cases x<;>first
  |(cases b;rfl)
  |(let(t,rfl):=b;rfl)
theorem M3:gU X (compareOp .IsNot) (λx y H Q=>y=.bO/\Q (.bl (!decide (x=.bO))) H):=by
 intro a s σ H x y v u Q I b c h;let(rfl,q):=h
 cases c;refine isnot_none_gen (bY I q ?_)
 cases x<;>first
  |(cases b;rfl)
  |(let(t,rfl):=b;rfl)
theorem aJ(b:Expr){op:CmpOp}(h:op≠.In:=by decide)(a:op≠.NotIn:=by decide):behindInMarks op b=false:=by
 have c:(op==CmpOp.In)=false:=by cases op<;>first|rfl|exact absurd rfl h
 have d:(op==CmpOp.NotIn)=false:=by cases op<;>first|rfl|exact absurd rfl a
 cases b<;>simp[behindInMarks,c,d]
theorem kr{r:R2}(c:gU X (compareOp op) r)(d:PE X a ta)(e:PE X b tb)(f:behindInMarks op b=false):PE X (.Compare a [op] [b] pos) (HW r ta tb):=by
 walk_at "xc";exact wpAny_Compare1 (RA d e I h λv u g x y i j k l q=>c pins g σ i x y v u Q j k l q) f
def Dp(t:TE):TT:=λσ H Q=>t σ H λx a=>∃k,x=.bl k/\Q k a
theorem Dq{r:R2}(d:gU X (compareOp op) r)(f:PE X a ta)(g:PE X b tb)(i:behindInMarks op b=false):PT X (.Compare a [op] [b] pos) (Dp (HW r ta tb)):=by
 walk_at "xc";refine wpAny_isTrue_Compare1 (dy (f pins s σ H _ I h) λv j (x,k,l,m,n)=>dy (g pins j σ k _ l n) λu f (y,o,p,q,r)=>
  dy (d pins f σ o x y v u _ p m q r) λc g (z,t,w,A,k,e,B)=>?_) i
 subst e
 cases A;calc aba (t,w,B)
def BA(r b:R2)(ta tb tc:TE):TE:=λσ H Q=>ta σ H λx a=>tb σ a λy c=>r x y c λz a=>∃k,z=.bl k/\
 (if k=true then tc σ a λw' c=>b y w' c Q else Q (.bl false) a)
theorem y7{d:CmpOp}{r f:R2}(m:gU X (compareOp op) r)(n:gU X (compareOp d) f)(o:PE X a ta)(p:PE X b tb)(q:PE X c tc)
  (t:lastMarks [op,d] [b,c]=false:=by with_unfolding_all rfl):PE X (.Compare a [op,d] [b,c] pos) (BA r f ta tb tc):=by
 walk_at "xc";refine Compare_chain (dy (o pins s σ H _ I h) λv d (x,f,r,w,z)=>chain_link (dy (p pins d σ f _ r z) λu o (y,A,B,g,C)=>
  dy (m pins o σ A x y v u _ B w g C) λd D (z,i,j,E,k,e,l)=>?_)) t
 subst e
 cases E;refine aba ?_
 cases k with
 |false=>calc ite_ff (.bl false,i,j,rfl,l)
 |true=>calc ite_tt (chain_last (dy (q pins D σ i _ j l) λd e (f,k,m,o,p)=>n pins e σ k y f u d Q m g o p))
theorem sZ:(sizeLine:Nat)<2^63:=by rw[aaw];decide
theorem BB:gU X (binaryOp .Add) (λx y H Q=>∃i j,x=.str i/\y=.str j/\i.length+j.length<=sizeLine/\Q (.str (i++j)) H):=by
 intro a s σ H x y v u Q I b c h;let(i,j,rfl,rfl,d,q):=h;let(t,rfl):=b;let(e,rfl):=c;calc add_str (λe a=>(.str (i++j),H,I.tok _,(_,rfl),q)) d
theorem vals1{x:V}{us:List Value}(r:Vals [x] us):∃u,us=[u]/\RelV x u:=by
 cases r with
 |cons a b=>cases b;calc(_,rfl,a)
theorem vals2{x y:V}{us:List Value}(r:Vals [x,y] us):∃u w',us=[u,w']/\RelV x u/\RelV y w':=by
 cases r with
 |cons a b=>
  cases b with
  |cons c d=>cases d;calc(_,_,rfl,a,c)
theorem Fq(b:X.calm=true):dN X (.builtin "max") (λxs H Q=>∃i j,xs=[.int i,.int j]/\Q (.int (if j > i then j else i)) H):=by
 intro a s σ H xs c Q I r h;let(i,j,rfl,q):=h;let(u,d,rfl,(t,rfl),(e,rfl)):=vals2 r;refine max_two_ints (I.ok.hd b) λa c k=>(_,H,I.kept k,?_,q)
 by_cases a:j > i
 ·rw[if_pos a,if_pos a];exact(_,rfl)
 ·rw[if_neg a,if_neg a];calc(_,rfl)
theorem Fs(b:X.calm=true):dN X (.builtin "min") (λxs H Q=>∃i j,xs=[.int i,.int j]/\Q (.int (if j<i then j else i)) H):=by
 intro a s σ H xs c Q I r h;let(i,j,rfl,q):=h;let(u,d,rfl,(t,rfl),(e,rfl)):=vals2 r;refine min_two_ints (I.ok.hd b) λa c k=>(_,H,I.kept k,?_,q)
 by_cases a:j<i
 ·rw[if_pos a,if_pos a];exact(_,rfl)
 ·rw[if_neg a,if_neg a];calc(_,rfl)
theorem Ft:dN X (.type "int") (λxs H Q=>(∃i,xs=[.int i]/\Q (.int i) H)\/∃k,xs=[.bl k]/\Q (.int (if k then 1 else 0)) H):=by
 intro a s σ H xs c Q I r h;rcases h with⟨i,rfl,q⟩|⟨k,rfl,q⟩
 ·let(u,rfl,t,rfl):=vals1 r;exact call_int_int (.int i,H,I,(_,rfl),q)
 ·let(u,rfl,b):=vals1 r
  cases b;calc call_int_bool (.int (if k then 1 else 0),H,I.tok _,(_,rfl),q)
def HZ(K:W.Frag)(x:V)(H:Hp)(n:Nat):Prop:=
 match x with
 | .str y=>y.length<=sizeLine/\n=y.length
 | .Dg y=>y.size<=sizeLine/\n=y.size
 | .ref p=>(∃xs,aY K H p xs/\n=xs.length)\/∃xs,bP K H p xs/\n=xs.length
 |_=>False
theorem Ia:dN X (.builtin "len") (λxs H Q=>∃x n,xs=[x]/\HZ X.K x H n/\Q (.int n) H):=by
 intro i s σ H xs m Q I r h;let(x,n,rfl,e,q):=h;let(u,rfl,c):=vals1 r;have h:=sZ;have h:sizeLine=16777216:=aaw
 cases x with
 |str y=>
  let(t,rfl):=c;obtain⟨j,b⟩:y.length<=sizeLine/\n=y.length:=e;subst b;calc len_str () (.int _,H,I.tok _,(_,rfl),q)
 |Dg y=>
  let(t,rfl):=c;obtain⟨j,b⟩:y.size<=sizeLine/\n=y.size:=e;subst b;calc W.len_bytes () (.int _,H,I.tok _,(_,rfl),q)
 |ref p=>
  cases c;have b:(∃xs,aY X.K H p xs/\n=xs.length)\/∃xs,bP X.K H p xs/\n=xs.length:=e;rcases b with⟨xs,d,b⟩|⟨xs,d,b⟩
  ·subst b;let(k,f,g,l):=I.list d;have a:=f.length;exact Calls.call_len_list g.isList (by simp only[List.size_toArray];lia) (.int xs.length,H,I.tok _,(_,by simp only[List.size_toArray];rw[a]),q)
  ·subst b;let(k,f,g,l):=I.tuple d;have a:=f.length;calc len_tuple g (by simp only[List.size_toArray];lia) (.int xs.length,H,I.tok _,(_,by simp only[List.size_toArray];rw[a]),q)
 |_=>calc(show False from e).elim
end
end
section
variable {C:Addr}{mA:Str->Option Value}{Q:Value->Shared->Prop}
structure BC(h:Heap)(x dx C:Addr)(mA:Str->Option Value):Prop where
 obj:h.get? x=some (W.instObj C dx)
 ns:h.Ns1 dx mA
 ne:dx≠x
theorem Fu{h:Heap}{c:Addr}(n:h.Ns1 c mA):∃od,h.get? c=some od/\∀name,W.lookIn name od=some (mA name):=by
 let(o,d,m,f,g,i,_,j):=n;calc(o,f,λname=>?_);have e:=j name;unfold nsFind findBy at e;rw[<-Array.find?_toList]at e;unfold W.lookIn;rw[g];dsimp only;split
 ·rename_i y q;rw[q]at e;exact congrArg some e
 ·rename_i q;rw[q]at e;have a:d.toList.any (·.refKey)=false:=by
   rw[List.any_eq_false];intro y k;let(z,t,b):=i y (Array.mem_toList_iff.mp k);simp[DictEntry.refKey,b]
  have l:¬d.toList.any (·.refKey)=true:=by rw[a];exact S'
  rw[if_neg l];calc congrArg some e
theorem BC.look{h:Heap}{x a:Addr}(I:BC h x a C mA):∃od,W.InstAt h x (W.instObj C a) C (some od)/\∀name,W.lookIn name od=some (mA name):=
 let ⟨od,a,b⟩:=Fu I.ns
 (od,(I.obj,rfl,rfl,a),b)
section
variable {prog:Program}{w:World}{A:Around}{E:Value->Shared->Prop}{s:Shared}{K:W.Frag}{x dx C f:Addr}{mA:Str->Option Value}{name:Str}{v:Value}
theorem get_map{a:Bool}(X:K.In s.heap)(I:BC s.heap x dx C mA)(b:W.plainGet K C name=true)(c:W.hasDictIn K C=true)
  (d:W.findIn K (.ref C) name=some none) (e:mA name=some v) (f:W.handedIn v=true) (h:Q v {s with toks:=s.toks+1}):
  wpAny (model prog w) A (getAttr (.ref x) name a) Q E s:=by
 let(g,J,a):=I.look;calc W.get_value X J (W.plainGet_of b).1 (W.findObj_own c d rfl (by rw[a,e])) f h
theorem Ib{pl:Sem Bool}{Q:Value×List Value->Shared->Prop}(X:K.In s.heap)(I:BC s.heap x dx C mA)(a:W.plainGet K C name=true)
  (b:W.findIn K (.ref C) name=some (some (.ref f))) (c:W.isFn K (.ref f)=true) (d:mA name=none) (h:Q ((.ref f),[.ref x]) s):
  wpAny (model prog w) A (getMethod (.ref x) name pl) Q E s:=by
 let(e,J,g):=I.look;calc W.method_fn X J (W.plainGet_of a).1 (W.plainGet_of a).2 b (beq_iff_eq.mp c) (by show(W.lookIn name e).map (·.isSome)=some false;rw[g,d];rfl) h
theorem M4{ns:List Str}{Q:Unit->Shared->Prop}(X:K.In s.heap)(I:BC s.heap x dx C mA)
  (b:W.findIn K (.ref C) "__setattr__"=some (some (.builtin "object.__setattr__"))) (c:W.plainOver K C=true) (d:W.takerIn K C name=some none) (e:W.hasDictIn K C=true)
  (i:PySem.Within mA ns) (hsz:ns.length<=sizeLine)
  (h:∀h',BC h' x dx C (λy=>if y=name then some v else mA y)->Heap.SameBut dx s.heap h'->Q ⟨⟩ {s with heap:=h',toks:=s.toks+2}):
  wpAny (model prog w) A (setAttr (.ref x) name v) Q E s:=by
 let(g,J,j):=I.look;calc W.set_plain X J b (W.osa_open (s:={s with toks:=s.toks+1}) (r:=none) X J c d λb=>?_);let(d,b,c):=W.any_some e;have d:s.heap.get? x=some (.ref C,some dx,.plain,#[]):=I.obj;calc F' (P' (F' (F' (wpAny_loadPart d (F' (W.Looks.here (s:={s with toks:=s.toks+1}) (W.looks_clsIn X b) ?_))))));rw[c];calc P' (a:=some dx) (F' (P' (F' ?_)));calc wpAny_nsSet1 (s:={s with toks:=s.toks+1}) I.ns λh' b g=>?_;let(l,j,k,c,d,e):=b.count (PySem.Within.cons name v i);calc F' (wpAny_lookBehind c (by rw[d];calc pastItsLine_dict (aar e (by rw[aaS];lia))) ?_);calc P' (h _ ((g.2 _ (Ne.symm I.ne)).trans I.obj,b,I.ne) g)
theorem Ic{R:Result->Shared->Prop}{vs:List Value}{a:List (Str×Value)}(X:K.In s.heap)(b:W.makesIn K C=true)
  (c:W.findIn K (.ref C) "__init__"=some (some (.ref f))) (e:W.typeIn K (.ref f)=some (.type "function"))
  (h:codeAny (model prog w) (A.under (.builtin "type.__call__" (.ref C::vs,a))) (.call (.ref f) (.ref (s.heap.objs.size + 1)::vs,a)) (W.InitBack (s.heap.objs.size + 1) R)
   {s with heap:=(s.heap.push W.emptyDict).push (W.instObj C s.heap.objs.size)}):
  codeAny (model prog w) A (.call (.ref C) (vs,a)) R s:=by
 let(a,g,d,t,i):=s;calc W.make_core (W.makes_of X b) (W.looks_findIn X c) (λa=>W.bind_fn X a e) (.inl rfl) h
end
def bQ(f:Str)(v:V):List (Str×V)->List (Str×V)
 | []=>[((f),v)]
 |(g,x)::r=>if g=f then((g),v)::r else((g),x)::bQ f v r
theorem bz(f g:Str)(v:V):∀a:List (Str×V),(bQ f v a).lookup g=if g=f then some v else a.lookup g
 | []=>by
  show List.lookup g [((f),v)]=_;by_cases h:g=f
  ·have a:(g==f)=true:=beq_iff_eq.mpr h;simp only[List.lookup,a,if_pos h]
  ·have a:(g==f)=false:=beq_eq_false_iff_ne.mpr h;simp only[List.lookup,a,if_neg h]
 |(k,x)::r=>by
  have c:=bz f g v r;rw[show bQ f v (((k),x)::r)=(if k=f then((k),v)::r else((k),x)::bQ f v r) from rfl];by_cases b:k=f
  ·rw[if_pos b];by_cases h:g=k
   ·have a:(g==k)=true:=beq_iff_eq.mpr h;simp only[List.lookup,a,if_pos (h.trans b)]
   ·have a:(g==k)=false:=beq_eq_false_iff_ne.mpr h;simp only[List.lookup,a,if_neg (λe:g=f=>h (e.trans b.symm))]
  ·rw[if_neg b];by_cases h:g=k
   ·have a:(g==k)=true:=beq_iff_eq.mpr h;simp only[List.lookup,a,if_neg (λe:g=f=>b (h.symm.trans e))]
   ·have a:(g==k)=false:=beq_eq_false_iff_ne.mpr h;simp only[List.lookup,a];calc c
theorem qi(f:Str)(v:V):∀a:List (Str×V),f∈(bQ f v a).map (·.1)/\∀g,g∈a.map (·.1)->g∈(bQ f v a).map (·.1)
 | []=>(by simp[bQ],λg h=>by simp at h)
 |(k,x)::r=>by
  let(c,d):=qi f v r;rw[show bQ f v (((k),x)::r)=(if k=f then((k),v)::r else((k),x)::bQ f v r) from rfl];by_cases b:k=f
  ·rw[if_pos b];subst b;exact(nofun,λg h=>by simpa using h)
  ·rw[if_neg b];refine(?_,λg h=>?_)
   ·rw[aaW];exact aak _ c
   ·rw[aaW] at h ⊢;rcases List.mem_cons.mp h with e | e
    ·exact List.mem_cons.mpr (.inl e)
    ·calc aak _ (d g e)
theorem lI(f:Str)(v:V):∀a:List (Str×V),(bQ f v a).length<=a.length+1
 | []=>by simp[bQ]
 |(k,x)::r=>by
  have a:=lI f v r;rw[show bQ f v (((k),x)::r)=(if k=f then((k),v)::r else((k),x)::bQ f v r) from rfl];by_cases a:k=f
  ·rw[if_pos a,aaS,aaS];lia
  ·rw[if_neg a,aaS,aaS];lia
theorem lC.some_of{v:V}{o:Option Value}(r:lC (some v) o):∃u,o=some u/\RelV v u:=by
 cases o with
 |none=>calc(show False from r).elim
 |some u=>calc(u,rfl,r)
theorem lC.none_of{o:Option Value}(r:lC none o):o=none:=by
 cases o with
 |none=>rfl
 |some u=>calc(show False from r).elim
theorem Fv{v:V}{u:Value}(r:RelV v u):W.handedIn u=true:=by
 cases v with
 |bO=>cases(show u=Value.none from r);rfl
 |bl b=>cases(show u=Value.bool b from r);rfl
 |int i=>let(t,e):=(show ∃t,u=Value.int i t from r);cases e;rfl
 |str x=>let(t,e):=(show ∃t,u=Value.str x t from r);cases e;rfl
 |Dg b=>let(t,e):=(show ∃t,u=Value.bytes b t from r);cases e;rfl
 |Pj b=>let(t,e):=(show ∃t,u=Value.float b t from r);cases e;rfl
 |ref a=>cases(show u=Value.ref a from r);rfl
 |ty n=>cases(show u=Value.type n from r);rfl
section
variable {P:Program}{w:World}{H H':Hp}{h h':Heap}{a C dx:Addr}{fs v7:List (Str×V)}
theorem pw(b:nz P w H h)(e:H a=some (.ins C dx fs)):∃mA,BC h a dx C mA/\(∀f,lC (fs.lookup f) (mA f))/\PySem.Within mA (fs.map (·.1))/\fs.length<=1000/\H dx=some (.own a):=by
 let(d,z,c,f,mA,n,r,q):=(show cA P w H h a (.ins C dx fs) from b a _ e)
 calc(mA,(f,n,c),r,q,z,d)
end
structure vq(K:W.Frag)(C:Addr):Prop where
 pg:W.plainGet K C Str.empty=true
 hd:W.hasDictIn K C=true
 po:W.plainOver K C=true
 sa:W.findIn K (.ref C) "__setattr__"=some (some (.builtin "object.__setattr__"))
theorem vq.get{K:W.Frag}(c:vq K C)(f:Str):W.plainGet K C f=true:=c.pg
def bT(K:W.Frag)(C:Addr)(f:Str):Prop:=W.findIn K (.ref C) f=some none
theorem bT.WE{K:W.Frag}{f:Str}(n:bT K C f):W.takerIn K C f=some none:=by
 unfold W.takerIn;rw[show W.findIn K (.ref C) f=some none from n];rfl
structure Meth(K:W.Frag)(C:Addr)(m:Str)(f:Addr):Prop where
 at_:W.findIn K (.ref C) m=some (some (.ref f))
 fn:W.isFn K (.ref f)=true
 kp:W.keepIn K (.ref f)=true
section
variable {X:Cx}{pins:List (Addr×Obj)}{σ:St}{H:Hp}{s:Shared}{a C dx:Addr}{fs:List (Str×V)}{f:Str}{v:V}{A:Around}{E:Value->Shared->Prop}
theorem BD{b:Bool}(I:Inv X pins σ H s)(e:H a=some (.ins C dx fs))(c:vq X.K C)(n:bT X.K C f)(l:fs.lookup f=some v)
  (h:∀u s',Inv X pins σ H s'->RelV v u->Q u s'):wpAny (model X.prog X.w) A (getAttr (.ref a) f b) Q E s:=by
 let(mA,O,r,_,_,_):=pw I.aW e;let(u,d,b):=lC.some_of (v:=v) (o:=mA f) (by rw[<-l];calc r f);calc get_map I.iz O (c.get f) c.hd n d (Fv b) (h u _ (I.tok _) b)
theorem tf{m:Str}{g:Addr}{pl:Sem Bool}{Q:Value×List Value->Shared->Prop}(I:Inv X pins σ H s)(e:H a=some (.ins C dx fs))(c:vq X.K C)(k:Meth X.K C m g)(l:fs.lookup m=none)
  (h:Q ((.ref g),[.ref a]) s):wpAny (model X.prog X.w) A (getMethod (.ref a) m pl) Q E s:=by
 let(mA,O,r,_,_,_):=pw I.aW e;have b:mA m=none:=lC.none_of (by rw[<-l];calc r m);calc Ib I.iz O (c.get m) k.at_ k.fn b h
theorem BE{y:V}{u:Value}{Q:Unit->Shared->Prop}(I:Inv X pins σ H s)(e:H a=some (.ins C dx fs))(c:vq X.K C)(n:bT X.K C f)(b:fs.length<1000)(k:RelV y u)
  (h:∀s',Inv X pins σ (upd H a (.ins C dx (bQ f y fs))) s'->Q ⟨⟩ s'):wpAny (model X.prog X.w) A (setAttr (.ref a) f u) Q E s:=by
 let(mA,O,r,i,_,j):=pw I.aW e;have b:(fs.map (·.1)).length<=sizeLine:=by rw[T',aaw];lia
 calc M4 I.iz O c.sa c.po n.WE c.hd i b λg d l=>h _ ?_;have hd:∃o,g.get? dx=some o:=let ⟨o,_,_,b,_⟩:=d.ns;(o,b)
 calc I.write (x:=a) (e:=dx) (by rw[e];calc aaD) (.inr j) (λb q c z=>(l.2 b c).trans z) hd ?_;refine(by rw[az O.ne];calc j,?_,O.ne,d.obj,_,d.ns,λg=>?_,λg b=>?_)
 ·have:=lI f y fs;lia
 ·show lC ((bQ f y fs).lookup g) (if g=f then some u else mA g);rw[bz];by_cases q:g=f
  ·rw[if_pos q,if_pos q];exact k
  ·rw[if_neg q,if_neg q];exact r g
 ·by_cases q:g=f
  ·rw[q];exact(qi f y fs).1
  ·calc(qi f y fs).2 g (i g λz=>b ?_);show(if g=f then some u else mA g)=none;rw[if_neg q];calc z
theorem Inv.made(I:Inv X pins σ H s):Inv X pins σ (upd (upd H s.heap.objs.size (.own (s.heap.objs.size+1))) (s.heap.objs.size+1) (.ins C s.heap.objs.size []))
  {s with heap:=(s.heap.push W.emptyDict).push (W.instObj C s.heap.objs.size)}:=by
 have c:(s.heap.push W.emptyDict).get? s.heap.objs.size=some W.emptyDict:=Y' s.heap rfl;have d:((s.heap.push W.emptyDict).push (W.instObj C s.heap.objs.size)).get? (s.heap.objs.size+1)=some (W.instObj C s.heap.objs.size):=by
  have:=Y' (s.heap.push W.emptyDict) (o:=W.instObj C s.heap.objs.size) rfl;rwa [aay]at this
 have f:(s.heap.push W.emptyDict).Ns s.heap.objs.size (λ_=>none):=(W.emptyDict,#[],_,c,rfl,(λe b=>absurd b nofun),λ_=>rfl)
 have e:=I.laid (a:=s.heap.objs.size) (o:=.own (s.heap.objs.size+1)) (h':=s.heap.push W.emptyDict) (t':=s.toks) (λb u q=>K' _ q) (L' _) (_,c);calc e.laid (a:=s.heap.objs.size+1) (o:=.ins C s.heap.objs.size []) (t':=s.toks) (λb u q=>K' _ q) (Nat.le_of_eq (aay _ _)) ?_;have b:s.heap.objs.size≠s.heap.objs.size+1:=aai (Nat.lt_succ_self _);calc(by rw[az b,af],aap _,b,d,λ_=>none,(Heap.Ns1.of_empty f).at λo q=>K' _ q,λ_=>aaD,λy b=>absurd rfl b)
theorem M5{prog:Program}{w:World}{env:Env}{e:Expr}{f:Str}{pos:Pos}{s:Shared}(b:attributeBase e f env (eval e env)=eval e env)
  (h:wpAny (model prog w) A (eval e env) (λo a=>wpAny (model prog w) A (getAttr o f true) Q E a) E s):wpAny (model prog w) A (eval (.Attribute e f pos) env) Q E s:=
 Attribute_any_ h (by rw[arm_eval_Attribute,b])
end
def M6(K:W.Frag)(a:TE)(f:Str):TE:=λσ H Q=>a σ H λx b=>∃a C d c v,x=.ref a/\b a=some (.ins C d c)/\vq K C/\bT K C f/\c.lookup f=some v/\Q v b
def RH(K:W.Frag)(a b:TE)(f:Str):TS:=λD σ H=>b σ H λy d=>a σ d λx c=>∃a C d b,x=.ref a/\c a=some (.ins C d b)/\vq K C/\bT K C f/\b.length<1000/\
 D.nx σ (upd c a (.ins C d (bQ f y b)))
section
variable {X:Cx}{o e value:Expr}{f:Str}{pos pos' RI:Pos}{ta tv:TE}
theorem bH(b:PE X e ta)(d:attributeBase e f X.env (eval e X.env)=eval e X.env):PE X (.Attribute e f pos) (M6 X.K ta f):=by
 walk_at "xc";refine M5 d (dy (b pins s σ H _ I h) λu p g=>?_);let(x,i,j,k,a,C,b,d,v,m,o,c,n,l,q):=g;subst m;obtain rfl:u=Value.ref a:=k;exact BD j o c n l λd g a b=>(v,i,a,b,q)
theorem gb(b:PE X o ta)(d:PE X value tv)(e:swapsWith value (some (.Attribute o f pos')) pos.line X.env=pure false):PS X (.Assign [.Attribute o f pos'] value pos) (RH X.K ta tv f):=by
 walk_at "xd";refine plainObj_wpAny_Assign_Attribute (dy (d pins s σ H _ I h) λu g (y,i,j,k,q)=>dy (b pins g σ i _ j q) λm d p=>?_) e;let(x,b,r,t,a,C,d,g,v,w,c,n,l,z):=p;subst v;obtain rfl:m=Value.ref a:=t;exact BE r w c n l k λb a=>(σ,_,a,z)
end
section
variable {X:Cx}{pins:List (Addr×Obj)}{σ:St}{H:Hp}{s:Shared}{A:Around}{E:Value->Shared->Prop}{Q:Value->Shared->Prop}{c:Value}{b:Bool}
inductive gV(K:W.Frag)(H:Hp):V->Value->Prop where
  |bO:gV K H .bO (.type "NoneType")
  |bl (x:Bool):gV K H (.bl x) (.type "bool")
  |int (i:Int):gV K H (.int i) (.type "int")
  |str (x:Str):gV K H (.str x) (.type "str")
  |Pj (x:UInt64):gV K H (.Pj x) (.type "float")
  |lst {a:Addr} {xs:List V} (e:H a=some (.lst xs)):gV K H (.ref a) (.type "list")
  |Be {a:Addr} {o:Obj} {xs:List V} (e:H a=some (.Be o (.lst xs))):gV K H (.ref a) (.type "list")
  |tup {a:Addr} {xs:List V} (e:H a=some (.tup xs)):gV K H (.ref a) (.type "tuple")
  |dK {a:Addr} {bt:List (Key×V)} (e:H a=some (.dK bt)):gV K H (.ref a) (.type "dict")
  |dT {a:Addr} {bt:List (List Key×V)} (e:H a=some (.dT bt)):gV K H (.ref a) (.type "dict")
  | ins {a C dx:Addr} {fs:List (Str×V)} (e:H a=some (.ins C dx fs)) (cl:vq K C) (ha:W.findIn K (.ref C) "__class__"=some (some (.builtin "object.__class__")))
      (hn:W.specialIn K (.builtin "object.__class__") "__get__"=some (some (.builtin "getset_descriptor.__get__"))) (htk:W.takesIn K (.builtin "object.__class__")=some true)
      (hm:W.mroIn K C (.type "object")=some true):gV K H (.ref a) (.ref C)
theorem wa{x:V}{u t:Value}(I:Inv X pins σ H s)(d:RelV x u)(v:gV X.K H x t)(e:W.kitOne X.K t c=some b)(h:∀B,Q (.bool b) {s with toks:=B}):
  wpAny (model X.prog X.w) A (call (.builtin "isinstance") [u,c]) Q E s:=by
 cases v with
 |bO=>cases(show u=Value.none from d);calc W.kia_one W.kitx_none I.iz aaD e (λz=>nomatch z) h
 |bl y=>cases(show u=Value.bool y from d);calc W.kia_one W.kitx_bool I.iz aaD e (λz=>nomatch z) h
 |int i=>let(t,q):=(show ∃t,u=Value.int i t from d);cases q;calc W.kia_one W.kitx_int I.iz aaD e (λz=>nomatch z) h
 |str y=>let(t,q):=(show ∃t,u=Value.str y t from d);cases q;calc W.kia_one W.kitx_str I.iz aaD e (λz=>nomatch z) h
 |Pj y=>let(t,q):=(show ∃t,u=Value.float y t from d);cases q;calc W.kia_one W.kitx_float I.iz aaD e (λz=>nomatch z) h
 | @lst a j f=>
  cases(show u=Value.ref a from d);let(_,_,n,_,g):=(show cA X.prog X.w H s.heap a (.lst j) from I.aW a _ f)
  calc W.kia_one W.kitx_list I.iz (_,g,rfl) e (λz=>nomatch z) h
 | @Be a D j f=>
  cases(show u=Value.ref a from d);let(_,_,_,n,_,g):=(show cA X.prog X.w H s.heap a (.Be D (.lst j)) from I.aW a _ f)
  calc W.kia_one W.kitx_list I.iz (_,g,rfl) e (λz=>nomatch z) h
 | @tup a j f=>
  cases(show u=Value.ref a from d);let(_,_,_,p):=(show cA X.prog X.w H s.heap a (.tup j) from I.aW a _ f)
  let(o,g,k,_):=p;calc W.kia_one W.kitx_tuple I.iz (o,g,k) e (λz=>nomatch z) h
 | @dK a l f=>
  cases(show u=Value.ref a from d);let(_,_,i,_,p):=(show cA X.prog X.w H s.heap a (.dK l) from I.aW a _ f)
  let(o,F,G,g,k,_):=p;calc W.kia_one W.kitx_dict I.iz (o,g,k.1) e (λz=>nomatch z) h
 | @dT a l f=>
  cases(show u=Value.ref a from d);let(_,_,j,_,o,F,G,g,k,_):=(show cA X.prog X.w H s.heap a (.dT l) from I.aW a _ f)
  calc W.kia_one W.kitx_dict I.iz (o,g,k.1) e (λz=>nomatch z) h
 | @ins a C g i f r L M m N=>
  cases(show u=Value.ref a from d);let(mA,O,_):=pw I.aW f;let(a,J,_):=O.look;calc W.kia_one (W.kitx_own (r.get _) r.hd L M m N) I.iz J e (λz=>nomatch z) h
end
end
section
variable {A:Around}{base:Heap}{H:Hp}{kw:List (Str×Value)}{us:List Value}{s:Shared}{mg:Str->Option Value}{K:W.Frag}
structure eR(k:Nat)(A:Around):Prop where
 hd:A.handled=none
 dp:A.depth+3*k+5<recursionLimit
 un:A.units+16*k+200<cLine
theorem eR.mono{j k:Nat}(r:eR k A)(h:j<=k):eR j A:=(r.hd,by have:=r.dp;lia,by have:=r.un;lia)
theorem eR.deeper{k:Nat}(r:eR (k+1) A)(env:Env):eR k (A.deeper env):=
 (r.hd,by have:=r.dp;show A.depth+1+3*k+5<_;lia,by have:=r.un;show A.units+3+16*k+200<_;lia)
theorem BG{C:Addr}:(A.under (.builtin "type.__call__" (.ref C::us,kw))).depth=A.depth+1:=by
 first|rfl|simp[Around.under,Code.weight,Code.isCreation,Code.isGuard,Code.isCaller,Code.frames,Code.isFrame,guardIds]
theorem BH{C:Addr}:(A.under (.builtin "type.__call__" (.ref C::us,kw))).units=A.units+1:=by
 first|rfl|simp[Around.under,Code.cUnits,Code.frames,Code.isFrame]
theorem eR.make{k:Nat}(r:eR (k+1) A)(C:Addr)(us:List Value)(kw:List (Str×Value)):eR k (A.under (.builtin "type.__call__" (.ref C::us,kw))):=
 (r.hd,by have:=r.dp;rw[BG];lia,by have:=r.un;rw[BH];lia)
theorem eR.depth{k:Nat}(r:eR k A):A.depth<recursionLimit:=by have:=r.dp;lia
theorem eR.units{k:Nat}(r:eR k A):A.units+64<cLine:=by have:=r.un;lia
def Fw:TA:=λ_ H Q=>Q [] H
def y8(a:TE)(b:TA):TA:=λσ H Q=>a σ H λx c=>b σ c λxs a=>Q (x::xs) a
section
variable {X:Cx}{e:Expr}{es:List Expr}{te:TE}{t:TA}{pos:Pos}
theorem aa:PA X [] Fw:=.mk λ_ _ _ _ H Q I h=>Calls.spliced_nil ([],H,I,.nil,h)
theorem M7(b:PE X e te)(c:PA X es t)(d:starEach (e::es) X.env=((false),eval e X.env)::starEach es X.env:=by rfl):PA X (e::es) (y8 te t):=by
 calc⟨?_⟩;intro pos a s σ H Q I h;rw[d];show wpAny _ _ (spliced (((false),eval e X.env)::backTo pos (starEach es X.env))) _ _ s;calc Calls.spliced_cons (dy (b a s σ H _ I h) λu f g=>?_);let(x,b,d,h,i):=g;calc dy (c pos a f σ b _ d i) λus o (j,k,l,m,n)=>(x::j,k,l,.cons h m,n)
def RJ(t:TA):TE:=λσ H Q=>t σ H λxs a=>xs.length<=sizeLine/\∀p,a p=none->Q (.ref p) (upd a p (.tup xs))
def RK(t:TA):TE:=λσ H Q=>t σ H λxs a=>xs.length<=sizeLine/\∀p,a p=none->Q (.ref p) (upd a p (.lst xs))
theorem bu{a}(h:PA X es t):PE X (.Tuple es a pos) (RJ t):=by
 calc⟨?_⟩;intro a s σ H Q I f;calc wpAny_Tuple_spliced (dy (h pos a s σ H _ I f) λus c (g,b,d,r,z,q)=>(by rw[<-r.length];calc z,?_));have a:b c.heap.objs.size=none:=d.aW.fresh (L' _);calc(.ref c.heap.objs.size,upd b c.heap.objs.size (.tup g),d.laid (t':=c.toks) (λb u e=>K' _ e) (L' _) ?_,rfl,q _ a);calc(z,us,r,(_,Y' _ rfl,rfl,_,rfl))
theorem bE(h:PA X es t):PE X (.List es pos) (RK t):=by
 calc⟨?_⟩;intro a s σ H Q I f;calc wpAny_List_spliced (dy (h pos a s σ H _ I f) λus c (g,b,d,r,z,q)=>(by rw[<-r.length];calc z,?_));have a:b c.heap.objs.size=none:=d.aW.fresh (L' _);calc(.ref c.heap.objs.size,upd b c.heap.objs.size (.lst g),d.laid (t':=c.toks) (λb u e=>K' _ e) (L' _) ?_,rfl,q _ a);calc(z,us,0,r,Y' _ rfl)
end
abbrev Sp:=List V->Hp->VK->XK->Prop
abbrev Ie:=List Env->Hp->Shared->XK->Value->Shared->Prop
structure BI(P:Program)(w:World)(K:W.Frag)(mg:Str->Option Value)(base:Heap)(A:Around)(outer:List Env)(s:Shared)(H:Hp):Prop where
 frames:A.frames=some outer
 mod:Mod K mg base
 bs:∀b o,base.get? b=some o->s.heap.get? b=some o/\H b=none
 Hm:base.objs.size<=s.heap.objs.size
 pq:s.heap.FunFrames base outer
 MV:∀b∈yQ outer,H b=none
 aW:nz P w H s.heap
 bare:AllBare s.gens
def CE(outer:List Env)(P:Program)(w:World)(H:Hp)(s:Shared)(Q:VK)(u:Value)(s':Shared):Prop:=
 ∃v a,s'.os=s.os/\AllBare s'.gens/\Un (yQ outer) [] H a s.heap s'.heap/\nz P w a s'.heap/\RelV v u/\Q v a
def CR(CX:Ie)(outer:List Env)(P:Program)(w:World)(H:Hp)(s:Shared)(Q:VK)(E:XK)(r:Result)(s':Shared):Prop:=
 match r with
 | .ok (.ret u)=>CE outer P w H s Q u s'
 | .ok _=>False
 | .error e=>CX outer H s E e s'
structure ku(P:Program)(w:World)(K:W.Frag)(mg:Str->Option Value)(base:Heap)(CX:Ie)(k:Nat)(f:Addr)(fd:FuncData)(ps:List Str)(sp:Sp):Prop where
 len:∀vs H Q E,sp vs H Q E->vs.length=ps.length
 run:∀(A:Around) (outer:List Env) (s:Shared) (H:Hp) (args:Args) (us:List Value) (vs:List V) (Q:VK) (E:XK),eR k A->BI P w K mg base A outer s H->BindsTo s fd args (ps.zip us)->Vals vs us->sp vs H Q E->
  codeAny (model P w) A (.call (.ref f) args) (CR CX outer P w H s Q E) s
theorem BI.make{P:Program}{w:World}{outer:List Env}(e:BI P w K mg base A outer s H)(C:Addr)(us:List Value)(kw:List (Str×Value)):
  BI P w K mg base (A.under (.builtin "type.__call__" (.ref C::us,kw))) outer s H:=⟨by first|exact e.frames|(simpa[Around.under,Code.envs,Code.isFrame,pushEnvs] using e.frames),e.mod,e.bs,e.Hm,e.pq,e.MV,e.aW,e.bare⟩
section
variable {X:Cx}{pins:List (Addr×Obj)}{σ:St}{H:Hp}{s s':Shared}
theorem Inv.RL(I:Inv X pins σ H s):BI X.prog X.w X.K X.mg X.base X.A X.stack s H:=
 (I.ok.frames,I.ok.mod,I.bs,aar I.ok.Hm I.sz,I.stack,I.sx,I.aW,I.bare)
theorem Inv.after{Q:VK}{u:Value}(I:Inv X pins σ H s)(h:CE X.stack X.prog X.w H s Q u s'):EP X pins σ Q u s':=by
 let(v,c,os,a,e,f,r,q):=h;let(i,g,d,t,b):=s';obtain rfl:b=s.os:=os;calc(v,c,I.call (h':=i) (g':=g) (d':=d) (t':=t) (ch:=[]) e f a (λb z=>absurd z nofun),r,q)
end
def tj(sp:Sp)(a:List V)(E:XK)(t:TA):TE:=λσ H Q=>t σ H λvs b=>sp (vs++a) b Q E
def wb(C:Addr)(m:Str)(sp:Sp)(d:List V)(E:XK)(a:TE)(t:TA):TE:=λσ H Q=>a σ H λx b=>∃a e c,x=.ref a/\b a=some (.ins C e c)/\c.lookup m=none/\
 t σ b λvs a=>sp (x::(vs++d)) a Q E
def Dr(C:Addr)(sp:Sp)(c:List V)(E:XK)(t:TA):TE:=λσ H Q=>t σ H λvs b=>∀x a,b x=none->b a=none->a≠x->
 sp (.ref x::(vs++c)) (upd (upd b a (.own x)) x (.ins C a [])) (λv d=>v=.bO/\Q (.ref x) d) E
def Binds(K:W.Frag)(c:FuncData)(a:List Str)(b:List Value):Prop:=
 ∀(s:Shared) (us:List Value),K.In s.heap->(us++b).length=a.length->BindsTo s c (us,[]) (a.zip (us++b))
theorem Binds.all{b:FuncData}{a:List Str}(h:∀us:List Value,us.length=a.length->bindArgs b (us,[])=pure (a.zip us)):Binds K b a []:=λs us _ a=>by
 rw[aan]at a ⊢;calc .of_eq (h us a)
def Passes(CX:Ie)(X:Cx)(E:XK):Prop:=∀(pins:List (Addr×Obj)) (σ:St) (H:Hp) (s:Shared) (e:Value) (s':Shared),Inv X pins σ H s->CX X.stack H s E e s'->X.xe e s'
section
variable {X:Cx}{CX:Ie}{k:Nat}{f C:Addr}{fd:FuncData}{ps:List Str}{sp:Sp}{vt:List V}{ds:List Value}{E:XK}{x m:Str}{p pos apos:Pos}{e o:Expr}{es:List Expr}{ta:TE}{t:TA}
theorem BJ{pins:List (Addr×Obj)}{σ:St}{H:Hp}{s:Shared}{Q:VK}{us:List Value}{vs:List V}(F:ku X.prog X.w X.K X.mg X.base CX k f fd ps sp)(c:eR k X.A)(d:Binds X.K fd ps ds)(g:Vals vt ds)(i:Passes CX X E)
  (I:Inv X pins σ H s) (r:Vals vs us) (h:sp (vs++vt) H Q E):wpAny (model X.prog X.w) X.A (call (.ref f) us) (EP X pins σ Q) X.xe s:=by
 have b:Vals (vs++vt) (us++ds):=r.append g;have j:(us++ds).length=ps.length:=by rw[<-b.length];exact F.len _ _ _ _ h
 refine wpAny_call (codeAny_mono (F.run X.A X.stack s H (us,[]) (us++ds) (vs++vt) Q E c I.RL (d s us I.iz j) b h) λr l a=>?_)
 cases r with
 |error e=>calc i pins σ H s e l I a
 |ok m=>
  cases m with
  |ret u=>calc I.after a
  |next=>calc aaA a
  |brk=>calc aaA a
  |cont=>calc aaA a
theorem Ds(F:ku X.prog X.w X.K X.mg X.base CX k f fd ps sp)(b:eR k X.A)(a:Gl X x)(c:X.mg x=some (.ref f))(d:W.keepIn X.K (.ref f)=true)(g:Binds X.K fd ps ds)(i:Vals vt ds)(j:Passes CX X E)
  (l:PA X (e::es) t) (m:(x==("__debug__":Str))=false:=by decide) (n:starEach (e::es) X.env=((false),eval e X.env)::starEach es X.env:=by rfl) (o:(backTo pos (starEach es X.env)).any (·.1)=false:=by rfl):
  PE X (.Call (.Name x p) (e::es) [] pos) (tj sp vt E t):=by
 walk_at "xc";refine wpAny_Call_Name_kw (km I a c ?_ m);refine W.callWith_K (h₀:=X.base) I.ok.mod.Br d (dy (l pos pins s σ H _ I h) λus c (m,u,a,r,q)=>(a.iz,?_)) n o;exact BJ F b g i j a r q
theorem M8{pl:Sem Bool}(i:PE X o ta)(c:vq X.K C)(b:Meth X.K C m f)(F:ku X.prog X.w X.K X.mg X.base CX k f fd ps sp)(j:eR k X.A)(n:Binds X.K fd ps ds)(p:Vals vt ds)(v:Passes CX X E)(y:PA X (e::es) t)
  (z:starEach (e::es) X.env=((false),eval e X.env)::starEach es X.env:=by rfl) (B:(backTo pos (starEach es X.env)).any (·.1)=false:=by rfl)
  (r:eval (.Call (.Attribute o m apos) (e::es) [] pos) X.env=(do
   let d <-eval o X.env
   standAt apos.atName
   let (f,first) <-holding [d] (getMethod d m pl)
   callWith pos f first (backTo pos (starEach (e::es) X.env)) (backToKw pos (keywordEach [] X.env))):=by rfl):
  PE X (.Call (.Attribute o m apos) (e::es) [] pos) (wb C m sp vt E ta t):=by
 walk_at "xc";refine W.methodCall_KW (pl:=pl) (dy (i pins s σ H _ I h) λu D G=>?_) r;let(x,J,g,L,a,d,i,M,N,l,q):=G;subst M;obtain rfl:u=Value.ref a:=L;refine tf g N c b l ?_;refine W.callWith_K (first:=[.ref a]) (h₀:=X.base) I.ok.mod.Br b.kp (dy (y pos pins D σ J _ g q) λus l (c,u,d,r,i)=>(d.iz,?_)) z B;exact BJ (us:=.ref a::us) (vs:=.ref a::c) F j n p v d (.cons rfl r) i
theorem Ig{pl:Sem Bool}(g:PE X o ta)(c:vq X.K C)(d:Meth X.K C m f)(F:ku X.prog X.w X.K X.mg X.base CX k f fd ps sp)(i:eR k X.A)(j:Binds X.K fd ps ds)(n:Vals vt ds)(p:Passes CX X E)
  (r:eval (.Call (.Attribute o m apos) [] [] pos) X.env=(do
   let e <-eval o X.env
   standAt apos.atName
   let (f,first) <-holding [e] (getMethod e m pl)
   callWith pos f first (backTo pos (starEach [] X.env)) (backToKw pos (keywordEach [] X.env))):=by rfl):
  PE X (.Call (.Attribute o m apos) [] [] pos) (wb C m sp vt E ta Fw):=by
 walk_at "xc";refine W.methodCall_KW (pl:=pl) (dy (g pins s σ H _ I h) λu e t=>?_) r;let(x,e,b,v,a,g,B,y,z,l,q):=t;subst y;obtain rfl:u=Value.ref a:=v;refine tf b z c d l ?_;exact W.callWith_K0 (first:=[.ref a]) b.iz d.kp (BJ (us:=[.ref a]) (vs:=[.ref a]) F i j n p b (.cons rfl .nil) q)
structure Mk(K:W.Frag)(C f:Addr):Prop where
 makes:W.makesIn K C=true
 init:W.findIn K (.ref C) "__init__"=some (some (.ref f))
 fn:W.isFn K (.ref f)=true
 kp:W.keepIn K (.ref C)=true
theorem Ih{pins:List (Addr×Obj)}{σ:St}{Q:VK}{vs:List V}(M:Mk X.K C f)(F:ku X.prog X.w X.K X.mg X.base CX k f fd ps sp)(hr:eR (k+1) X.A)(g:Binds X.K fd ps ds)(i:Vals vt ds)
  (j:Passes CX X E) (I:Inv X pins σ H s) (r:Vals vs us)
  (h:∀x b,H x=none->H b=none->b≠x->sp (.ref x::(vs++vt)) (upd (upd H b (.own x)) x (.ins C b [])) (λv d=>v=.bO/\Q (.ref x) d) E):
  wpAny (model X.prog X.w) X.A (call (.ref C) us) (EP X pins σ Q) X.xe s:=by
 have b:=h (s.heap.objs.size+1) s.heap.objs.size (I.aW.fresh (aa2 _)) (I.aW.fresh (L' _)) (aai (Nat.lt_succ_self _));have c:=Inv.made (C:=C) I;have d:Vals (V.ref (s.heap.objs.size+1)::(vs++vt)) (Value.ref (s.heap.objs.size+1)::(us++ds)):=.cons rfl (r.append i);have l:(Value.ref (s.heap.objs.size+1)::us++ds).length=ps.length:=by
  have e:=d.length;rw[F.len _ _ _ _ b]at e;exact e.symm
 refine wpAny_call (Ic (f:=f) I.iz M.makes M.init (beq_iff_eq.mp M.fn) (codeAny_mono (F.run _ X.stack _ _ (Value.ref (s.heap.objs.size + 1)::us,[]) (Value.ref (s.heap.objs.size + 1)::(us++ds)) _ _ E (hr.make C us [])
  (c.RL.make C us []) (g _ (Value.ref (s.heap.objs.size + 1)::us) c.iz l) d b) λr m a=>?_))
 cases r with
 |error e=>calc j pins σ _ _ e m c a
 |ok n=>
  cases n with
  |ret u=>
   let(v,o,p,q,t,y):=c.after a;subst t;calc(q,(V.ref (s.heap.objs.size+1),o,p,rfl,y))
  |next=>calc aaA a
  |brk=>calc aaA a
  |cont=>calc aaA a
theorem M9(M:Mk X.K C f)(F:ku X.prog X.w X.K X.mg X.base CX k f fd ps sp)(b:eR (k+1) X.A)(a:Gl X x)(c:X.mg x=some (.ref C))(d:Binds X.K fd ps ds)(g:Vals vt ds)(i:Passes CX X E)
  (j:PA X (e::es) t) (l:(x==("__debug__":Str))=false:=by decide) (m:starEach (e::es) X.env=((false),eval e X.env)::starEach es X.env:=by rfl) (n:(backTo pos (starEach es X.env)).any (·.1)=false:=by rfl):
  PE X (.Call (.Name x p) (e::es) [] pos) (Dr C sp vt E t):=by
 walk_at "xc";refine wpAny_Call_Name_kw (km I a c ?_ l);refine W.callWith_K (h₀:=X.base) I.ok.mod.Br M.kp (dy (j pos pins s σ H _ I h) λus c (l,o,a,r,q)=>(a.iz,?_)) m n;exact Ih M F b d g i a r q
end
structure aD(N P:List Str)(sc:Scope):Prop where
 kind:sc.kind=.function
 co:sc.isCoroutine=false
 gen:sc.isGenerator=false
 nd:N.Nodup
 pre:N.take P.length=P
 par:∀x∈P,sc.names.lookup x=some .local\/sc.names.lookup x=some .cell
 RM:∀y∈sc.names,y.2≠.free
theorem wc{b:Str->Option NameKind}{x:Str}:∀{a:List (Str×Value)}{m:Str->Option Value},(∀v,((x),v)∉a)->bindL b a m x=m x
 | [],_,_=>rfl
 |(n,v)::r,m,h=>by
  unfold bindL;rw[wc λw c=>h w (aak _ c)];split
  ·have:x≠n:=by rintro rfl;exact h v aas
   simp[this]
  ·rfl
theorem wd{b:Str->Option NameKind}{x:Str}:∀{a:List (Str×Value)}{m:Str->Option Value},(∀v,((x),v)∉a)->bindC b a m x=m x
 | [],_,_=>rfl
 |(n,v)::r,m,h=>by
  unfold bindC;rw[wd λw c=>h w (aak _ c)];split
  ·rfl
  ·have:x≠n:=by rintro rfl;exact h v aas
   simp[this]
theorem we{a:Str->Option NameKind}{x:Str}{v:Value}:∀{P:List Str}{vs:List Value}{i:Nat}{m:Str->Option Value},P.Nodup->P[i]?=some x->vs[i]?=some v->a x=some .local->
  bindL a (P.zip vs) m x=some v
 | [],_,_,_,_,h,_,_=>by simp at h
 |_::_,[],_,_,_,_,h,_=>by simp at h
 |p::P,w::vs,0,m,d,b,c,e=>by
  simp at b c;subst b;subst c;show bindL a (((p),w)::P.zip vs) m p=_;unfold bindL;rw[wc λv f=>(List.nodup_cons.mp d).1 (List.of_mem_zip f).1,if_pos e];simp
 |p::P,w::vs,i+1,m,d,b,c,e=>by
  show bindL a (((p),w)::P.zip vs) m x=_;unfold bindL;calc we (i:=i) (List.nodup_cons.mp d).2 (by simpa using b) (by simpa using c) e
theorem wg{a:Str->Option NameKind}{x:Str}{v:Value}:∀{P:List Str}{vs:List Value}{i:Nat}{m:Str->Option Value},P.Nodup->P[i]?=some x->vs[i]?=some v->a x≠some .local->
  bindC a (P.zip vs) m x=some v
 | [],_,_,_,_,h,_,_=>by simp at h
 |_::_,[],_,_,_,_,h,_=>by simp at h
 |p::P,w::vs,0,m,d,b,c,e=>by
  simp at b c;subst b;subst c;show bindC a (((p),w)::P.zip vs) m p=_;unfold bindC;rw[wd λv f=>(List.nodup_cons.mp d).1 (List.of_mem_zip f).1,if_neg e];simp
 |p::P,w::vs,i+1,m,d,b,c,e=>by
  show bindC a (((p),w)::P.zip vs) m x=_;unfold bindC;calc wg (i:=i) (List.nodup_cons.mp d).2 (by simpa using b) (by simpa using c) e
def start(N:List Str)(vs:List V):St:=vs.map some++List.replicate (N.length-vs.length) none
def j7(CX:Ie)(P:Program)(w:World)(K:W.Frag)(mg:Str->Option Value)(base:Heap)(N:List Str)(qual:Str)(scope:Scope)(f:Addr)(a:Value)(A:Around)(outer:List Env)(s:Shared)(H:Hp)(E:XK):Cx where
 prog:=P
 w:=w
 K:=K
 mg:=mg
 base:=base
 A:=A.deeper (envOfC qual scope s.heap.objs.size f a)
 N:=N
 s₀:=s
 H₀:=H
 env:=envOfC qual scope s.heap.objs.size f a
 outer:=outer
 stack:=envOfC qual scope s.heap.objs.size f a::outer
 ex:=[]
 calm:=true
 fn:=λ_=>true
 pn:=[]
 xe:=λe s'=>wpAny (model P w) (A.deeper (envOfC qual scope s.heap.objs.size f a)) (leaving (envOfC qual scope s.heap.objs.size f a) e) (λ_ b=>CX outer H s E e b) (λa b=>CX outer H s E a b) s'
theorem tm{sc:Scope}{n:Nat}{x:Str}(h:sc.names.lookup x=some .cell):∃c,(cellsFrom n sc.names []).lookup x=some c:=by
 have q:=W.cellsFrom_some sc.names n [] (.inl h);calc Option.isSome_iff_exists.mp q
theorem Fx{CX:Ie}{P:Program}{w:World}{N j:List Str}{qual:Str}{scope:Scope}{f:Addr}{k:Value}{outer:List Env}{b:Shared}{E:XK}{vs:List V}
  (S:aD N j scope) (C:A.handled=none) (g:BI P w K mg base A outer s H) (p:vs.length=j.length) (r:Vals vs us)
  (x:InCallC s s.heap.objs.size (bindL (envOfC qual scope s.heap.objs.size f k).kindOf (j.zip us) λ_=>none) (cellsFrom (s.heap.objs.size+1) scope.names []) (bindC (envOfC qual scope s.heap.objs.size f k).kindOf (j.zip us) λ_=>none) b):
  Inv (j7 CX P w K mg base N qual scope f k A outer s H E) [] (start N vs) H b:=by
 have b:j.length<=N.length:=by have:=congrArg List.length S.pre;rw[aaT]at this;lia
 let(o,z,rfl,t):=x.done;have p:∀b:Addr,b ∉ (j7 CX P w K mg base N qual scope f k A outer s H E).ex:=λb z=>absurd (show b ∈ ([]:List Addr) from z) nofun;refine((g.mod,S.kind,rfl,rfl,L' _,λy z c o d=>?_,λy a=>?_,λy c _ h=>?_,λ_=>C,Around.frames_deeper g.frames,.inr (rfl,rfl),λb z=>absurd z (p b),g.bs,g.Hm,λb _ _=>p b,λb z=>absurd z (p b),g.pq,g.MV),
  rfl,g.bare,Un.kept t,(_,x.toInCall.ns,λi y v o d b=>?_),λy c h=>(_,x.cell y c h),g.aW.fresh (L' _),λy c h=>?_,λp l=>absurd (show p ∈ ([]:List (Addr×Obj)) from l) nofun,g.aW.kept t,?_)
 ·exact name_of_addr x.apart (aaq o) (aaq d)
 ·have a:scope.names.lookup y=some .cell\/scope.names.lookup y=some .free:=a;rcases a with a | a
  ·exact tm a
  ·exact absurd rfl (S.RM _ (aaq a))
 ·exact M' (x.above y c (aaq h))
 ·have q:i<vs.length:=by
   unfold start at d;by_cases q:i<vs.length
   ·exact q
   ·rw[X' (by simpa using q)]at d;rw[List.getElem?_replicate]at d;split at d<;>cases d
  have D:vs[i]?=some v:=by
   unfold start at d;rw[aad (by simpa using q),J']at d
   cases e:vs[i]? with
   |none=>rw[e]at d;cases d
   |some a=>rw[e]at d;cases d;rfl
  let(u,B,F):=r.get D;have l:j[i]?=some y:=by
   rw[<-S.pre,List.getElem?_take_of_lt ()];exact o
  have m:j.Nodup:=by rw[<-S.pre];exact S.nd.sublist (List.take_sublist _ _)
  calc(u,F,?_);rcases S.par y (aao l) with k|k
  ·exact .inl (k,we m l B k)
  ·let(c,e):=tm (n:=s.heap.objs.size+1) k;calc .inr (.inl k,c,e,?_);have q:=x.cell y c e;rw[wg m l B (by show scope.names.lookup y≠_;rw[k];decide)]at q;exact q
 ·exact g.aW.fresh (M' (x.above y c (aaq h)))
 ·unfold start;show _=N.length;rw[aat,T',List.length_replicate];lia
theorem Pt{CX:Ie}{P:Program}{w:World}{k:Nat}{f:Addr}{name qual:Str}{a:Arguments}{b:List Stmt}{scope:Scope}{o kV i y g ct j:Value}{D od:Option Addr}
  {I:Array (Option Value)} {N p:List Str} {sp:Sp} (M:K.lookup f=some (j,od,.func (W.fnOf name qual a b scope o kV i y D g ct),I)) (O:W.codeIn K g qual=true) (S:aD N p scope)
  (j:∀vs H Q E,sp vs H Q E->vs.length=p.length)
  (R:∀(A:Around) (outer:List Env) (s:Shared) (H:Hp) (vs:List V) (Q:VK) (E:XK),eR k (A.deeper (envOfC qual scope s.heap.objs.size f g))->sp vs H Q E->
   ∃t,vp (j7 CX P w K mg base N qual scope f g A outer s H E) b t/\t {nx:=λ_ d=>Q .bO d,rt:=Q} (start N vs) H):
  ku P w K mg base CX (k+1) f (W.fnOf name qual a b scope o kV i y D g ct) p sp:=by
 calc(j,λA outer s H a us vs Q E z l T r F=>?_);have U:=j _ _ _ _ F;have G:K.In s.heap:=l.mod.Br.keeps λb o e=>(l.bs b o e).1;have B:s.heap.NoLimit:=l.mod.nolimit.keeps λb o e=>(l.bs b o e).1;have X:∀y∈p.zip us,scope.names.lookup y.1=some .local\/(scope.names.lookup y.1=some .cell/\((cellsFrom (s.heap.objs.size+1) scope.names []).lookup y.1).isSome=true):=λ⟨n,v⟩ Y=>by
  rcases S.par n (List.of_mem_zip Y).1 with q|q
  ·exact .inl q
  ·exact .inr (q,W.cellsFrom_some _ _ _ (.inl q))
 calc codeAny_call_function z.depth (G _ _ M) rfl S.co S.gen rfl (W.codeRec_of G O) (T _ _ _ _ ?_);calc wpAny_newFunctionEnv_cells S.kind X λa Z L x=>?_;subst Z;calc(B.keeps x.toInCall.keep,codeAny_func ?_);let(t,b,i):=R A outer s H vs Q E (z.deeper _) F;have I:Inv (j7 CX P w K mg base N qual scope f g A outer s H E) [] (start N vs) H L:=Fx S z.hd l U r x;calc aaH (b [] L (start N vs) H _ I i) (λfl a h=>?_) λe a h=>h;have m:∀{c:St} {d:Hp} {v:V} {u:Value},Inv (j7 CX P w K mg base N qual scope f g A outer s H E) [] c d a->RelV v u->Q v d->CE outer P w H s Q u a:=
  λ{c d v u} J C q=>(v,d,J.os,J.bare,J.base,J.aW,C,q)
 cases fl with
 |ret u=>
  let(v,c,d,J,C,q):=h;calc m J C q
 |next=>
  let(c,d,J,q):=h;calc m (v:=V.bO) (u:=Value.none) J rfl q
 |brk=>
  let(_,_,_,q):=h;calc aaA q
 |cont=>
  let(_,_,_,q):=h;calc aaA q
end
section
section
variable {X:Cx}{x:Str}{p pos:Pos}{e:Expr}{es:List Expr}{t:TA}{id T:String}{r:List V->Hp->VK->Prop}
def Vb(r:List V->Hp->VK->Prop)(t:TA):TE:=λσ H Q=>t σ H λvs a=>r vs a Q
theorem Ii(a:dN X (.builtin id) r)(b:Gl X x)(c:X.mg x=none)(d:bootBuiltins x=some (.builtin id))(f:PA X (e::es) t)(g:x≠"__name__":=by decide)(i:(x==("__debug__":Str))=false:=by decide)
  (j:starEach (e::es) X.env=((false),eval e X.env)::starEach es X.env:=by rfl) (k:(backTo pos (starEach es X.env)).any (·.1)=false:=by rfl):PE X (.Call (.Name x p) (e::es) [] pos) (Vb r t):=by
 walk_at "xc";refine wpAny_Call_Name_kw (qf I b c d ?_ g i);exact PyProof.Rows.callWith_builtin1 (dy (f pos pins s σ H _ I h) λl m (n,o,q,u,v)=>a pins m σ o n l Q q u v) j k
theorem Fy(a:dN X (.type T) r)(b:Gl X x)(c:X.mg x=none)(d:bootBuiltins x=some (.type T))(f:PA X (e::es) t)(g:x≠"__name__":=by decide)(i:(x==("__debug__":Str))=false:=by decide)
  (j:starEach (e::es) X.env=((false),eval e X.env)::starEach es X.env:=by rfl) (k:(backTo pos (starEach es X.env)).any (·.1)=false:=by rfl):PE X (.Call (.Name x p) (e::es) [] pos) (Vb r t):=by
 walk_at "xc";refine wpAny_Call_Name_kw (qf I b c d ?_ g i);exact PyProof.Rows.callWith_type1 (dy (f pos pins s σ H _ I h) λl m (n,o,q,u,v)=>a pins m σ o n l Q q u v) j k
end
end
end L2
namespace HT
open PySem PyProof.Rows
variable {Q:Value->Shared->Prop}
section
open PySem.SeqAt
open PySem.AutoSeq1 (wpAny_loadPart')
open PySem.MeetsSeq PySem.MeetsSeq2 PySem.MeetsSeq3
end
section
variable {prog:Program}{w:World}{A:Around}{E:Value->Shared->Prop}{s:Shared}
theorem Nb{t b:Addr}{vs ws:List Value}(p:IsTup s.heap t vs.toArray)(q:IsTup s.heap b ws.toArray)(h:vs≠[])
  (r:ws=[]->Q (.ref t) s) (u:ws≠[]->Q (.ref s.heap.objs.size) {s with heap:=s.heap.push {cls:=.type "tuple",data:=.seq (vs++ws).toArray}})
  (hsz:vs.length+ws.length<=sizeLine):wpAny (model prog w) A (binaryOp .Add (.ref t) (.ref b)) Q E s:=by
 let((cls,i,data,j),f,k,n,l):=id p;let((v,a,e,c),g,m,o,d):=id q;simp only at k l m d;subst k l m d;have e:vs.toArray++ws.toArray=(vs++ws).toArray:=by simp
 by_cases d:ws=[]
 ·exact concat_meets (_,f,rfl) (_,g,rfl) noFill_tuple_add seq_tuple_add PySem.F.slot_tuple_add PySem.F.entry_tuple_add (PySem.F.args_tuple_add_2 _ _)
   (tuple_addW1 t b vs.toArray ws.toArray n o i a j c (by simpa using h) (by simp[d])) (f,g,r d)
 ·refine concat_meets (_,f,rfl) (_,g,rfl) noFill_tuple_add seq_tuple_add PySem.F.slot_tuple_add PySem.F.entry_tuple_add (PySem.F.args_tuple_add_2 _ _)
   (tuple_addW2 t b vs.toArray ws.toArray n o i a j c (by simpa using h) (by simpa using d) (by rw[aaj,aaj];calc hsz)) (f,g,?_)
  rw[e];calc u d
def eS(n d:Nat):Option Int->Nat
 |none=>d
 |some v=>if v<0 then(v+(n:Int)).toNat else min v.toNat n
theorem y9(n d:Nat):eS n d none=d:=rfl
theorem sy(n d k:Nat):eS n d (some (k:Int))=min k n:=by
 show(if (k:Int)<0 then((k:Int)+(n:Int)).toNat else min (k:Int).toNat n)=min k n;rw[if_neg (),aav]
theorem RO(n d:Nat)(a:d<=n)(o:Option Int):eS n d o<=n:=by
 cases o with
 |none=>calc a
 |some v=>
  show(if v<0 then(v+(n:Int)).toNat else min v.toNat n)<=n;by_cases a:v<0
  ·rw[if_pos a];lia
  ·rw[if_neg a];calc Nat.min_le_right _ _
theorem Du(v:Int)(n d:Nat):(if v<0 then max (v+(n:Int)) 0 else min v (n:Int))=((eS n d (some v):Nat):Int):=by
 show(if v<0 then max (v+(n:Int)) 0 else min v (n:Int))=(((if v<0 then(v+(n:Int)).toNat else min v.toNat n):Nat):Int)
 by_cases a:v<0
 ·simp only[if_pos a];lia
 ·simp only[if_neg a];lia
theorem BK(a b:Option Int)(n:Nat):Builtin.Slice.sliceAdjust a b 1 (n:Int)=((((eS n 0 a:Nat):Int)),((eS n n b:Nat):Int)):=by
 have c:¬((1:Int)<0):=by lia
 unfold Builtin.Slice.sliceAdjust;simp only[c,if_false];refine Prod.ext ?_ ?_
 ·cases a with
  |none=>rfl
  |some v=>exact Du v n 0
 ·cases b with
  |none=>rfl
  |some v=>calc Du v n n
theorem BL(i j:Nat):Builtin.Slice.slicePlaces (i:Int) (j:Int) 1=j-i:=by
 unfold Builtin.Slice.slicePlaces;have a:(1:Int) > 0:=by lia
 simp only[a,if_true,Int.ediv_one];split<;>lia
theorem tq{v:Value}{o:Option Int}{Q:Option Int->Shared->Prop}(p:IsPart v o)(h:Q o s):wpAny (model prog w) A (Builtin.Slice.slicePartIndex v) Q E s:=by
 cases p with
 |none=>calc slicePart_none h
 |int i t=>calc slicePart_int h
theorem j9{e:Addr}{c d:Value}{a b:Option Int}{n:Nat}{Q:Int×Int×Nat->Shared->Prop}(g:s.heap.IsSliceOf e c d .none)(pl:IsPart c a)(i:IsPart d b)
  (h:Q ((((eS n 0 a:Nat):Int)),1,eS n n b-eS n 0 a) s):wpAny (model prog w) A (Builtin.Slice.sliceApplied (.ref e) (pure (n:Int))) Q E s:=by
 let(j,e,k,f):=id g;unfold Builtin.Slice.sliceApplied Builtin.Slice.sliceFields;calc F' (F' (aaB e f (x:=c) rfl (F' (aaB e f (x:=d) rfl (F' (aaB e f (x:=.none) rfl (P' ?_)))))));calc F' (slicePart_none ?_);show wpAny _ _ (if ((1:Int)==0)=true then _ else _) _ _ s;rw[if_neg ∅];calc F' (tq pl (F' (tq i (F' (P' ?_)))));show wpAny _ _ (match Builtin.Slice.sliceAdjust a b 1 (n:Int) with|(a,b)=>pure ((a),(1:Int),Builtin.Slice.slicePlaces a b 1)) _ _ s;rw[BK a b n];show wpAny _ _ (pure ((((eS n 0 a:Nat):Int)),(1:Int),Builtin.Slice.slicePlaces ((eS n 0 a:Nat):Int) ((eS n n b:Nat):Int) 1)) _ _ s;rw[BL];calc P' h
theorem Ij(xs:Array Value)(i k:Nat):((List.range k).filterMap λ(m:Nat)=>xs[((i:Int)+(m:Int)*1).toNat]?).toArray=((xs.toList.drop i).take k).toArray:=by
 have e:(λ(m:Nat)=>xs[((i:Int)+(m:Int)*1).toNat]?)=λm=>xs[i+m]?:=by
  funext m;have:((i:Int)+(m:Int)*1).toNat=i+m:=by lia
  rw[this]
 rw[e];have:=pick_run xs i k;rw[List.filterMap_map]at this;have a:((λx=>xs[x]?) ∘ λx=>i+x)=λm=>xs[i+m]?:=rfl;rw[a]at this;rw[this]
theorem pA{t f:Addr}{a:Array Value}{e g:Value}{b c:Option Int}(d:IsTup s.heap t a)(i:s.heap.IsSliceOf f e g .none)(pl:IsPart e b)(j:IsPart g c)
  (k:¬(eS a.size 0 b=0/\eS a.size a.size c=a.size))
  (h:Q (.ref s.heap.objs.size) {s with heap:=s.heap.push {cls:=.type "tuple",data:=.seq ((a.toList.drop (eS a.size 0 b)).take (eS a.size a.size c-eS a.size 0 b)).toArray}})
  (hsz:a.size<=sizeLine):wpAny (model prog w) A (getItem (.ref t) (.ref f)) Q E s:=by
 have e:sizeOk (.seq ((a.toList.drop (eS a.size 0 b)).take (eS a.size a.size c-eS a.size 0 b)).toArray):=by
  show((a.toList.drop (eS a.size 0 b)).take (eS a.size a.size c-eS a.size 0 b)).toArray.size<=sizeLine;rw[aaj,aaT,List.length_drop,Array.length_toList];lia
 have g:eS a.size a.size c<=a.size:=RO _ _ (L' _) c;let(l,n,o,g):=id i;have g:s.TypeIs (.ref f) "slice":=(l,n,o)
 unfold getItem
 try with_reducible refine aaN ?_
 first|calc F' (P' ?_)|skip
 calc F' (wpAny_sequenceKey d.typeIs ∅ ?_);refine F' (aaX (name:=Str.ofString "__getitem__") d.typeIs aa7
  (aa3 aa7 d.typeIs entry_tuple_getitem ?_ (args_tuple_getitem _ _)))
 show wpAny _ _ (Builtin.Tuple.tupleItemsOf (.ref t) >>= _) _ _ s;calc F' (tupleItemsOf_ d ?_);calc F' (wpAny_typeOf g ?_);rw[if_pos ∅];calc F' (j9 i pl j ?_);have f:¬((((eS a.size 0 b:Nat):Int)==0&&(1:Int)==1&&(eS a.size a.size c-eS a.size 0 b)==a.size)=true):=by
  intro q;rw[aaF,aaF]at q;have d:((eS a.size 0 b:Nat):Int)=0:=eq_of_beq q.1.1;have d:eS a.size a.size c-eS a.size 0 b=a.size:=eq_of_beq q.2;exact k ((),())
 show wpAny _ _ (if (((eS a.size 0 b:Nat):Int)==0&&(1:Int)==1&&(eS a.size a.size c-eS a.size 0 b)==a.size)=true then _ else _) _ _ s;rw[if_neg f,Ij]
 first
  |calc F' (m:=Builtin.Tuple.tupleExact _) (aaY (P' (_,rfl,P' h)) e)
  |calc F' (m:=Builtin.Tuple.tupleExact _) (aaY (F' (P' (P' (_,rfl,P' h)))) e)
  |calc F' (F' (m:=Builtin.Tuple.tupleExact _) (aaY (P' (P' (_,rfl,P' h))) e))
  |calc F' (F' (m:=Builtin.Tuple.tupleExact _) (aaY (P' (_,rfl,P' h)) e))
end
end HT
namespace L2
open PySem PySem.Spec PyProof.Rows
section
abbrev TO:=St->Hp->(Option Int->Hp->Prop)->Prop
def PO(X:Cx)(e:Option Expr)(t:TO):Prop:=
 ∀(pins:List (Addr×Obj)) (s:Shared) (σ:St) (H:Hp) (Q:Option Int->Hp->Prop),Inv X pins σ H s->t σ H Q->
  wpAny (model X.prog X.w) X.A (evalPart e X.env) (λu s'=>∃o a,Inv X pins σ a s'/\IsPart u o/\Q o a) X.xe s
def xH:TO:=λ_ H Q=>Q none H
def Ik(t:TE):TO:=λσ H Q=>t σ H λx a=>∃i,x=.int i/\Q (some i) a
section
variable {X:Cx}{e:Expr}{te:TE}{lo hi:Option Expr}{tl th:TO}{pos p2:Pos}
theorem fK:PO X none xH:=by
 intro a s σ H Q I h;rw[evalPart_none];calc P' (none,H,I,.none,h)
theorem dM(h:PE X e te):PO X (some e) (Ik te):=by
 intro a s σ H Q I b;rw[evalPart_some];calc dy (h a s σ H _ I b) λu k c=>?_;let(x,d,f,g,j):=c;let(i,rfl,q):=j;let(t,rfl):=g;calc(some i,d,f,.int i t,q)
def WL(X:Cx)(r:V->Option Int->Option Int->Hp->VK->Prop):Prop:=
 ∀(pins:List (Addr×Obj)) (s:Shared) (σ:St) (H:Hp) (x:V) (v a b:Value) (lo hi:Option Int) (c:Addr) (Q:VK),Inv X pins σ H s->RelV x v->s.heap.IsSliceOf c a b .none->IsPart a lo->IsPart b hi->r x lo hi H Q->
  ∃T a,typeLookup (.type T) "__getitem__"=pure (some (.builtin a))/\s.TypeIs v T/\wpAny (model X.prog X.w) X.A (getItem v (.ref c)) (EP X pins σ Q) X.xe s
def Vc(r:V->Option Int->Option Int->Hp->VK->Prop)(te:TE)(tl th:TO):TE:=λσ H Q=>te σ H λx a=>tl σ a λl b=>th σ b λu a=>r x l u a Q
theorem tw{r:V->Option Int->Option Int->Hp->VK->Prop}(g:WL X r)(a:PE X e te)(d:PO X lo tl)(f:PO X hi th):PE X (.Subscript e (.Slice lo hi none p2) pos) (Vc r te tl th):=by
 walk_at "xc";refine Subscript_ (dy (a pins s σ H _ I h) λv i b=>?_);let(x,a,j,k,m):=b;refine wpAny_Slice (dy (d pins i σ a _ j m) λc n (l,o,p,r,q)=>dy (f pins n σ o _ p q) λd a b=>?_);let(u,f,i,j,m):=b;rw[evalPart_none];refine P' ?_;have n:Inv X pins σ f {a with heap:=a.heap.push {cls:=.type "slice",data:=.fields #[c,d,.none]}}:=i.kept (t':=a.toks) λb i q=>K' _ q;let(T,p,b,i,o):=g pins {a with heap:=a.heap.push {cls:=.type "slice",data:=.fields #[c,d,.none]}} σ f x v c d l u a.heap.objs.size Q n k (Heap.IsSliceOf.new ..) r j m;show wpAny (model X.prog X.w) X.A (subscriptTail e (.Slice lo hi none p2) v (.ref a.heap.objs.size)) (EP X pins σ Q) X.xe {a with heap:=a.heap.push {cls:=.type "slice",data:=.fields #[c,d,.none]}};exact tail_any (ops:=[.ref a.heap.objs.size,v]) i b o (by with_unfolding_all rfl)
def dE(xs:List V)(lo hi:Option Int):List V:=(xs.drop (HT.eS xs.length 0 lo)).take (HT.eS xs.length xs.length hi-HT.eS xs.length 0 lo)
theorem rL(xs:List V)(lo hi:Option Int):(dE xs lo hi).length<=xs.length:=by
 unfold dE;rw[aaT,List.length_drop];lia
def abT(K:W.Frag):V->Option Int->Option Int->Hp->VK->Prop:=λx lo hi H Q=>∃a xs,x=.ref a/\bP K H a xs/\
 ¬(HT.eS xs.length 0 lo=0/\HT.eS xs.length xs.length hi=xs.length)/\∀p,H p=none->Q (.ref p) (upd H p (.tup (dE xs lo hi)))
theorem RQ:WL X (abT X.K):=by
 intro b s σ H x v d m lo hi n Q I e g i j h;let(a,c,rfl,k,l,q):=h
 cases e;let(m,r,b,d):=I.tuple k;have a:m.toArray.size=c.length:=by rw[aaj];exact r.length.symm
 refine("tuple",_,PyProof.Rows.slot_tuple_getitem.lookup,b.typeIs,?_);refine HT.pA b g i j (by rw[a];exact l) ?_ (by rw[a];exact d);rw[a];refine(.ref s.heap.objs.size,_,I.laid (t':=s.toks) (o:=.tup (dE c lo hi)) (λb a q=>K' _ q) (L' _) ?_,rfl,q _ (I.aW.fresh (L' _)));exact(aar (rL c lo hi) d,_,(r.drop (HT.eS c.length 0 lo)).take (HT.eS c.length c.length hi-HT.eS c.length 0 lo),IsTup.new _ _)
def WM(K:W.Frag):R2:=λx y H Q=>∃a b xs c,x=.ref a/\y=.ref b/\bP K H a xs/\bP K H b c/\xs≠[]/\xs.length+c.length<=sizeLine/\
 (c=[]->Q (.ref a) H)/\(c≠[]->∀p,H p=none->Q (.ref p) (upd H p (.tup (xs++c))))
theorem Vals.xI{xs:List V}{us:List Value}(r:Vals xs us):us=[]↔xs=[]:=by
 cases r with
 |nil=>simp
 |cons _ _=>simp
theorem Nd:gU X (binaryOp .Add) (WM X.K):=by
 intro c s σ H x y v u Q I d f h;let(a,b,g,i,rfl,rfl,j,k,l,e,m,n):=h
 cases d
 cases f;let(c,d,h,_):=I.tuple j;let(f,c,p2,_):=I.tuple k;calc HT.Nb h p2 (λz=>l (d.xI.mp z)) (λz=>(.ref a,H,I,rfl,m (c.xI.mp z))) (λz=>?_) (by rw[<-d.length,<-c.length];calc e);calc(.ref s.heap.objs.size,_,I.laid (t':=s.toks) (o:=.tup (g++i)) (λb a q=>K' _ q) (L' _) ?_,rfl,n (λw=>z (c.xI.mpr w)) _ (I.aW.fresh (L' _)));calc(by rw[aat];calc e,_,d.append c,IsTup.new _ _)
end
end
section
def BM(n:Nat)(i:Int):Option Nat:=if 0<=i then(if i<n then some i.toNat else none) else if -(n:Int)<=i then some (i+n).toNat else none
def jc{α:Type}(xs:List α)(i:Int):Option α:=(BM xs.length i).bind λj=>xs[j]?
theorem Dw{n:Nat}{i:Int}{j:Nat}(h:BM n i=some j):seqIndex? i n=some j/\j<n/\-(n:Int)<=i/\i<n:=by
 unfold BM at h;by_cases b:0<=i
 ·rw[if_pos b] at h;by_cases a:i < n
  ·rw[if_pos a]at h;have e:i.toNat=j:=Option.some.inj h;exact(by rw[seqIndex_of b a,e],(),(),a)
  ·rw[if_neg a]at h;cases h
 ·rw[if_neg b] at h;by_cases a:-(n:Int)<=i
  ·rw[if_pos a]at h;have e:(i+n).toNat=j:=Option.some.inj h;exact(by rw[seqIndex_neg () a,e],(),a,())
  ·rw[if_neg a]at h;cases h
theorem xJ{α:Type}{xs:List α}{i:Int}{v:α}(h:jc xs i=some v):∃j,seqIndex? i xs.length=some j/\xs[j]?=some v/\j<xs.length/\-(xs.length:Int)<=i/\i<xs.length:=by
 unfold jc at h
 cases e:BM xs.length i with
 |none=>rw[e]at h;cases h
 |some j=>
  rw[e]at h;let(a,b,c,d):=Dw e;calc(j,a,h,b,c,d)
theorem aA{α:Type}{xs:List α}{j:Nat}{v:α}(h:xs[j]?=some v):jc xs (j:Int)=some v:=by
 have a:j<xs.length:=(List.getElem?_eq_some_iff.mp h).1;have e:BM xs.length (j:Int)=some j:=by
  unfold BM;rw[if_pos (),if_pos ()];simp
 unfold jc;rw[e];calc h
def Dx(b:Expr):Prop:=∀o i,subscripted b false o i=operate [o,i] (getItem o i)
def WN(X:Cx)(r:R2):Prop:=
 ∀(b a:Expr) (pins:List (Addr×Obj)) (s:Shared) (σ:St) (H:Hp) (x y:V) (v u:Value) (Q:VK),Inv X pins σ H s->RelV x v->RelV y u->r x y H Q->
  subscripted a false v u=operate [v,u] (getItem v u)->wpAny (model X.prog X.w) X.A (subscriptTail b a v u) (EP X pins σ Q) X.xe s
def WO(X:Cx)(a:String)(r:V->List V->Hp->VK->Prop):Prop:=
 ∀(pins:List (Addr×Obj)) (s:Shared) (σ:St) (H:Hp) (x:V) (xs:List V) (v:Value) (us:List Value) (Q:VK),Inv X pins σ H s->RelV x v->Vals xs us->r x xs H Q->
  wpAny (model X.prog X.w) X.A (call (.builtin a) (v::us)) (EP X pins σ Q) X.xe s
section
variable {X:Cx}{a b:Expr}{ta tb:TE}{pos:Pos}
theorem WQ{r:R2}(c:WN X r)(d:PE X a ta)(e:PE X b tb)(f:Dx b):PE X (.Subscript a b pos) (HW r ta tb):=by
 walk_at "xc";exact Subscript_ (RA d e I h λv u g x y i j k l q=>c a b pins g σ i x y v u Q j k l q (f _ _))
def abU(K:W.Frag):R2:=λx y H Q=>∃p xs i v,x=.ref p/\y=.int i/\aY K H p xs/\jc xs i=some v/\Q v H
def abV(K:W.Frag):R2:=λx y H Q=>∃p xs i v,x=.ref p/\y=.int i/\bP K H p xs/\jc xs i=some v/\Q v H
def abW:R2:=λx y H Q=>∃z i c,x=.str z/\y=.int i/\z.length<=sizeLine/\jc z.cps.toList i=some c/\Q (.str ⟨#[c]⟩) H
theorem Nf:WN X (abU X.K):=by
 intro b c a s σ H x y v u Q I d e h f;let(p,j,i,z,rfl,rfl,g,k,q):=h
 cases d;let(t,rfl):=e;let(l,r,d,b):=I.list g;let(j,c,b,e,m,n):=xJ k;let(w,g,e):=r.get b;have k:=r.length;have b:=sZ;have b:EP X a σ Q w s:=(z,H,I,e,q)
 by_cases h:0<=i
 ·have e:i.toNat=j:=by
   rw[seqIndex_of h n]at c;exact Option.some.inj c
  exact item_listR d.isList h () (by rw[e];simpa using g) b f
 ·have e:(i+(l.toArray.size:Int)).toNat=j:=by
   rw[seqIndex_neg () m]at c;rw[aaj,<-k];exact Option.some.inj c
  exact subscriptTail_builtinR (x:=w) d.isList.typeIs slot_list_getitem.lookup
   (wpAny_getItem_list_neg (Q:=λr c=>r=w/\EP X a σ Q r c) d.isList () (by rw[aaj]<;>lia) () (by rw[e];simpa using g) (rfl,b)) f
theorem RT:WN X (abV X.K):=by
 intro b c a s σ H x y v u Q I d e h f;let(p,j,i,z,rfl,rfl,g,k,q):=h
 cases d;let(t,rfl):=e;let(b,r,c,d):=I.tuple g;let(j,d,b,e,h,i):=xJ k;let(w,e,g):=r.get b;have h:=r.length;have b:=sZ;have b:EP X a σ Q w s:=(z,H,I,g,q)
 exact subscriptTail_builtinR (x:=w) c.typeIs slot_tuple_getitem.lookup
  (getItem_tuple (j:=j) (Q:=λr g=>r=w/\EP X a σ Q r g) c () () (by rw[aaj,<-h];calc d) (by simpa using e) (rfl,b)) f
theorem RU:WN X abW:=by
 intro a b d s σ H x y v u Q I e f h g;let(z,i,c,rfl,rfl,j,k,q):=h;let(t,rfl):=e;let(l,rfl):=f;let(j,a,b,h,d,e):=xJ k;have f:z.cps.toList.length=z.length:=by simp[Str.length]
 rw[f] at a d e;have h:=sZ;exact tail_any (typeIs_str s z t) slot_str_getitem.lookup (getItem_str (c:=c) (by
  have d:decide (i < -(2 ^ 63:Int))=false:=aam ();have e:decide (i >= 2 ^ 63)=false:=aam ();rw[d,e,Bool.or_false]) (by rw[a];simpa using b) (.str ⟨#[c]⟩,H,I.tok _,(_,rfl),q)) g
theorem BN(a:List Value)(n j:Nat)(u:Value):Obj.mapSeq (·.setIfInBounds j u) {cls:=.type "list",data:=.seq a.toArray n}={cls:=.type "list",data:=.seq (a.set j u).toArray n}:=by
 simp[Obj.mapSeq]
theorem Inv.lst{pins:List (Addr×Obj)}{σ:St}{H:Hp}{s:Shared}{p:Addr}{xs:List V}(I:Inv X pins σ H s)(h:H p=some (.lst xs)):
  ∃(a:List Value) (n:Nat),Vals xs a/\s.heap.get? p=some {cls:=.type "list",data:=.seq a.toArray n}/\xs.length<=sizeLine:=by
 let(z,a,n,r,e):=I.aW p _ h;calc(a,n,r,e,z)
theorem Inv.RV{pins:List (Addr×Obj)}{σ:St}{H:Hp}{s:Shared}{p:Addr}{xs a:List V}{d lE:List Value}{n c:Nat}{f:Obj->Obj}(I:Inv X pins σ H s)(h:H p=some (.lst xs))
  (i:s.heap.get? p=some {cls:=.type "list",data:=.seq d.toArray n}) (g:f {cls:=.type "list",data:=.seq d.toArray n}={cls:=.type "list",data:=.seq lE.toArray c}) (r:Vals a lE) (d:a.length<=sizeLine) (t:Nat):
  Inv X pins σ (upd H p (.lst a)) {s with heap:=s.heap.update p f,toks:=t}:=by
 have e:(s.heap.update p f).get? p=some {cls:=.type "list",data:=.seq lE.toArray c}:=by
  rw[aa4 f i (by rw[g]<;>rfl),g]
 calc I.write (x:=p) (e:=p) (by rw[h];trivial) (.inl rfl) (λb u a q=>(aaQ _ _ (Ne.symm a)).trans q) (_,e) ?_;calc(d,lE,c,r,e)
def WR:V->V->V->Hp->(Hp->Prop)->Prop:=λo i v H Q=>∃p xs k j,o=.ref p/\i=.int k/\H p=some (.lst xs)/\BM xs.length k=some j/\Q (upd H p (.lst (xs.set j v)))
theorem set_list:Ru X WR:=by
 intro a s σ H o i v c f u Q I b d l h;let(p,m,k,j,rfl,rfl,e,w,q):=h
 cases b;let(t,rfl):=d;let(f,n,r,c,o):=I.lst e;let(b,d,g,h):=Dw w;have d:=r.length;have i:=sZ;have i:Inv X a σ (upd H p (.lst (m.set j v))) {s with heap:=s.heap.update p (Obj.mapSeq (·.setIfInBounds j u))}:=
  I.RV e c (BN f n j u) (r.set l j) (by rw[List.length_set];calc o) s.toks
 by_cases e:0<=k
 ·have a:k.toNat=j:=by
   rw[seqIndex_of e h]at b;exact Option.some.inj b
  exact W.ki_setAt c e () (by rw[aaj,<-d];calc h) (by rw[a];calc(_,i,q))
 ·have a:(k+(f.toArray.size:Int)).toNat=j:=by
   rw[seqIndex_neg () g]at b;rw[aaj,<-d];exact Option.some.inj b
  calc W.ki_setBack c () (by rw[aaj,<-d];calc g) () (by rw[a];calc(_,i,q))
theorem xK(a b:Option Int)(n:Nat):(sliceBounds a b none n).1=((HT.eS n 0 a:Nat):Int)/\(sliceBounds a b none n).2.1=((HT.eS n n b:Nat):Int)/\(sliceBounds a b none n).2.2=1:=by
 refine(?_,?_,rfl)
 ·cases a with
  |none=>simp[sliceBounds,HT.eS]
  |some i=>
   simp only[sliceBounds,HT.eS,Option.getD_none,show(1:Int) > 0 by decide,if_true];by_cases h:i<0
   ·simp only[h,if_true]<;>lia
   ·simp only[h,if_false]<;>lia
 ·cases b with
  |none=>simp[sliceBounds,HT.eS]
  |some i=>
   simp only[sliceBounds,HT.eS,Option.getD_none,show(1:Int) > 0 by decide,if_true];by_cases h:i<0
   ·simp only[h,if_true]<;>lia
   ·simp only[h,if_false]<;>lia
theorem vv(a:List Value)(b c:Option Int):slicePick a.toArray b c none=((a.drop (HT.eS a.length 0 b)).take (HT.eS a.length a.length c-HT.eS a.length 0 b)).toArray:=by
 let(d,e,f):=xK b c a.toArray.size;unfold slicePick;rw[d,e,f];simp only[sliceRange_one,pick_run,List.size_toArray]<;>rfl
def abX(K:W.Frag):V->Option Int->Option Int->Hp->VK->Prop:=λx b c H Q=>∃a xs,x=.ref a/\aY K H a xs/\∀p,H p=none->Q (.ref p) (upd H p (.lst (dE xs b c)))
theorem Dy:WL X (abX X.K):=by
 intro d s σ H x v g n e f p Q I i j k l h;let(a,c,rfl,m,q):=h
 cases i;let(d,r,g,h):=I.list m;have d:=r.length;refine("list",_,slot_list_getitem.lookup,g.isList.typeIs,?_);refine wpAny_getItem_list_slice g.isList j k l .none nofun ?_ (by rw[aaj]<;>lia);rw[vv,<-d];refine(.ref s.heap.objs.size,_,I.laid (t':=s.toks) (o:=.lst (dE c e f)) (λb d q=>K' _ q) (L' _) ?_,rfl,q _ (I.aW.fresh (L' _)));exact(aar (rL c e f) h,_,0,(r.drop (HT.eS c.length 0 e)).take (HT.eS c.length c.length f-HT.eS c.length 0 e),Y' _ rfl)
def kb:V->Bool
 | .bO=>true
 | .bl _=>true
 | .int _=>true
 | .str _=>true
 |_=>false
def Mq:V->V->Bool
 | .bO,.bO=>true
 | .bl a,.bl b=>a==b
 | .bl a,.int b=>(if a then 1 else 0)==b
 | .int a,.bl b=>a==(if b then 1 else 0)
 | .int a,.int b=>a==b
 | .str a,.str b=>a==b
 |_,_=>false
theorem Im{A:Around}{s:Shared}{y x:V}{u v:Value}(e:RelV y u)(c:RelV x v)(g:kb y=true)(f:kb x=true):SeqAt.EqAt A s u v (Mq y x):=by
 cases y with
 |bO=>
  cases e
  cases x with
  |bO=>cases c;calc SeqAt.EqAt.same _
  |bl b=>cases c;calc SeqAt.EqAt.none_bool b
  |int b=>let(t,rfl):=c;calc SeqAt.EqAt.none_int b t
  |str b=>let(t,rfl):=c;calc SeqAt.EqAt.none_str b t
  |_=>calc absurd (show false=true from f) S'
 |bl a=>
  cases e
  cases x with
  |bO=>cases c;calc SeqAt.EqAt.bool_none a
  |bl b=>cases c;calc SeqAt.EqAt.bool_bool a b
  |int b=>let(t,rfl):=c;calc SeqAt.EqAt.bool_int a b t
  |str b=>let(t,rfl):=c;calc SeqAt.EqAt.bool_str a b t
  |_=>calc absurd (show false=true from f) S'
 |int a=>
  let(d,rfl):=e
  cases x with
  |bO=>cases c;calc SeqAt.EqAt.int_none a d
  |bl b=>cases c;calc SeqAt.EqAt.int_bool a d b
  |int b=>let(t,rfl):=c;calc SeqAt.EqAt.int_int a d b t
  |str b=>let(t,rfl):=c;calc SeqAt.EqAt.int_str a d b t
  |_=>calc absurd (show false=true from f) S'
 |str a=>
  let(d,rfl):=e
  cases x with
  |bO=>cases c;calc SeqAt.EqAt.str_none a d
  |bl b=>cases c;calc SeqAt.EqAt.str_bool a d b
  |int b=>let(t,rfl):=c;calc SeqAt.EqAt.str_int a d b t
  |str b=>let(t,rfl):=c;calc SeqAt.EqAt.str_str a d b t
  |_=>calc absurd (show false=true from f) S'
 |_=>calc absurd (show false=true from g) S'
def Ng(x:V)(u:Value):Bool:=match u with
 | .none=>Mq .bO x
 | .bool b=>Mq (.bl b) x
 | .int i _=>Mq (.int i) x
 | .str z _=>Mq (.str z) x
 |_=>false
theorem Io{x y:V}{u:Value}(r:RelV y u)(f:kb y=true):Ng x u=Mq y x:=by
 cases y with
 |bO=>cases r;rfl
 |bl b=>cases r;rfl
 |int i=>let(t,rfl):=r;rfl
 |str z=>let(t,rfl):=r;rfl
 |_=>calc absurd (show false=true from f) S'
theorem xM{x:V}:∀{xs:List V}{us:List Value},Vals xs us->xs.all kb=true->us.any (Ng x)=xs.any λy=>Mq y x
 |_,_,.nil,_=>rfl
 |y::xs,u::us,.cons r t,f=>by
  rw[List.all_cons,aaF]at f;rw[List.any_cons,List.any_cons,Io r f.1,xM t f.2]
theorem tx{A:Around}{s:Shared}{x:V}{v:Value}(b:RelV x v)(c:kb x=true):∀{xs:List V}{us:List Value},Vals xs us->xs.all kb=true->∀u∈us,SeqAt.EqAt A s u v (Ng x u)
 |_,_,.nil,_=>λu a=>by cases a
 |y::xs,u::us,.cons r t,f=>λd a=>by
  rw[List.all_cons,aaF]at f;rcases List.mem_cons.mp a with rfl|a
  ·rw[Io r f.1];exact Im r b f.1 c
  ·calc tx b c t f.2 d a
def Dz(x:V)(xs:List V):Bool:=xs.any λy=>Mq y x
def rIn(K:W.Frag)(a:Bool):R2:=λx y H Q=>∃p xs,y=.ref p/\(aY K H p xs\/bP K H p xs)/\kb x=true/\xs.all kb=true/\Q (.bl (if a then !Dz x xs else Dz x xs)) H
theorem Fz:gU X (compareOp .In) (rIn X.K false):=by
 intro b s σ H x y v u Q I f d h;let(p,e,rfl,a,g,c,q):=h
 cases d;rcases a with a|a
 ·let(b,r,d,h):=I.list a;calc SeqAt.in_listAt (Ng x) d.isList (λw e=>tx f g r c w (by simpa using e)) (.bl _,H,I,rfl,?_);rw[show b.toArray.any (Ng x)=b.any (Ng x) by simp,xM r c];exact q
 ·let(b,r,d,h):=I.tuple a;calc SeqAt.in_tupleAt (Ng x) d (λw e=>tx f g r c w (by simpa using e)) (.bl _,H,I,rfl,?_);rw[show b.toArray.any (Ng x)=b.any (Ng x) by simp,xM r c];calc q
theorem xN:dN X (.type "list") (λxs H Q=>∃p d,xs=[.ref p]/\(aY X.K H p d\/bP X.K H p d)/\∀l,H l=none->Q (.ref l) (upd H l (.lst d))):=by
 intro i s σ H xs o Q I r h;let(p,d,rfl,j,q):=h;let(u,rfl,n):=vals1 r
 cases n;have k:∀(c:List Value),Vals d c->d.length<=sizeLine->∀(a:Heap) (f:Nat),(∀b h,s.heap.get? b=some h->a.get? b=some h)->
   a.get? s.heap.objs.size=some {cls:=.type "list",dict:=none,data:=.seq c.toArray f,slots:=#[]}->EP X i σ Q (.ref s.heap.objs.size) {s with heap:=a}:=λc g m a f t e=>
  (.ref s.heap.objs.size,_,I.laid (t':=s.toks) t (L' _) (show cA X.prog X.w _ a _ (.lst d) from(m,c,f,g,e)),rfl,q _ (I.aW.fresh (L' _)))
 rcases j with j|j
 ·let(c,g,h,m):=I.list j;have d:=g.length;let(o,i,l,n,q):=h.isList;exact call_list_seq p (.inl rfl) i l q (λa f t e=>k c g m a f t e) (by simp only[List.size_toArray]<;>lia)
 ·let(c,g,h,m):=I.tuple j;have d:=g.length;let(o,i,l,n,q):=h;calc call_list_seq p (.inr rfl) i l q (λa f t e=>k c g m a f t e) (by simp only[List.size_toArray]<;>lia)
theorem nH:dN X (.type "tuple") (λxs H Q=>∃p c,xs=[.ref p]/\((aY X.K H p c/\∀l,H l=none->Q (.ref l) (upd H l (.tup c)))\/(bP X.K H p c/\Q (.ref p) H))):=by
 intro a s σ H xs e Q I r h;let(p,c,rfl,h):=h;let(u,rfl,d):=vals1 r
 cases d;rcases h with⟨f,q⟩|⟨f,q⟩
 ·let(g,h,i,j):=I.list f;have d:=h.length;calc call_tuple_list i.isList (λd e=>?_) (by simp only[List.size_toArray]<;>lia);have k:Inv X a σ H {s with heap:=d}:=I.kept (t':=s.toks) e;have m:Inv X a σ (upd H d.objs.size (.tup c)) {s with heap:=d.push {cls:=.type "tuple",data:=.seq g.toArray}}:=
   k.laid (t':=s.toks) (λb o e=>K' _ e) (L' _) (show cA X.prog X.w _ _ _ (.tup c) from(j,g,h,IsTup.new _ _))
  exact(.ref d.objs.size,_,m,rfl,q _ (k.aW.fresh (L' _)))
 ·let(g,h,i,j):=I.tuple f;calc call_tuple_same i (.ref p,H,I,rfl,q)
def tyV(K:W.Frag)(T:String)(x:V)(H:Hp):Prop:=match x with
 | .str _=>T="str"
 | .int _=>T="int"
 | .ref p=>(T="list"/\∃xs,aY K H p xs)\/(T="tuple"/\∃o,K.lookup p=some o/\o.cls=.type "tuple"/\o.dict=none)\/
   (T="dict"/\((∃a,H p=some (.dK a))\/∃a,H p=some (.dT a)))\/(T="set"/\∃S n,H p=some (.set S n))
 |_=>False
theorem Ip{pins:List (Addr×Obj)}{σ:St}{H:Hp}{s:Shared}{T:String}{x:V}{v:Value}(I:Inv X pins σ H s)(r:RelV x v)(f:tyV X.K T x H):
  s.TypeIs v T/\∀a,v=.ref a->∃c,s.heap.get? a=some c/\c.dict=none:=by
 cases x with
 |str z=>
  let(t,rfl):=r
  cases(show T="str" from f);exact(typeIs_str s z t,λ_ e=>nomatch e)
 |int i=>
  let(t,rfl):=r
  cases(show T="int" from f);exact(typeIs_int s i t,λ_ e=>nomatch e)
 |ref p=>
  cases r;rcases f with⟨rfl,m,k⟩|⟨rfl,o,b,l,g⟩|⟨rfl,b⟩|⟨rfl,S,n,b⟩
  ·let(c,_,j,_):=I.list k;refine(j.isList.typeIs,λa e=>?_)
   cases e;let(o,n,e,c,g,_):=j;exact(o,e,g)
  ·refine((o,I.iz p o b,l),λa e=>?_)
   cases e;exact(o,I.iz _ o b,g)
  ·have z:∃o,s.heap.get? p=some o/\o.ExactDict:=by
    rcases b with⟨c,b⟩|⟨c,b⟩
    ·let(_,_,_,_,o,_,_,e,d,_):=I.aW p _ b;exact(o,e,d)
    ·let(_,_,_,_,o,_,_,e,d,_):=I.aW p _ b;exact(o,e,d)
   let(o,e,d):=z;refine((o,e,d.1),λa h=>?_)
   cases h;exact(o,e,d.2.1)
  ·let(o,_,_,_,e,d,_):=I.aW p _ b;refine((o,e,d.1),λa h=>?_)
   cases h;calc(o,e,d.2.1)
 |_=>calc aaA f
def RW(K:W.Frag)(T:String)(r:V->List V->Hp->VK->Prop)(b:TE):TE:=λσ H Q=>b σ H λx a=>tyV K T x a/\r x [] a Q
def tBM(K:W.Frag)(T:String)(r:V->List V->Hp->VK->Prop)(b:TE)(t:TA):TE:=λσ H Q=>b σ H λx a=>tyV K T x a/\t σ a λxs b=>r x xs b Q
variable {o e:Expr}{es:List Expr}{to:TE}{t:TA}{name:Str}{apos qk:Pos}{T id:String}{r:V->List V->Hp->VK->Prop}
theorem RX(d:PlainAttrs T)(a:Slot T name id)(e:typeOf (.builtin id)=pure (.type "method_descriptor"))(f:WO X id r)(b:PE X o to)
  (c:attributeBase o name X.env (eval o X.env)=eval o X.env:=by rfl) (g:(apos.endLine==qk.line)=true:=by rfl):PE X (.Call (.Attribute o name apos) [] [] qk) (RW X.K T r to):=by
 walk_at "xc";refine wpAny_Call_method0_late c g (dy (b pins s σ H _ I h) λv i j=>?_);let(x,g,b,c,k,l):=j;let(m,n):=Ip b c k;exact(T,id,d,a,e,m,n,Calls.callWith_builtin rfl (PySem.evalArgs_none (f pins i σ g x [] v [] Q b c .nil l)))
theorem dO(f:PlainAttrs T)(a:Slot T name id)(g:typeOf (.builtin id)=pure (.type "method_descriptor"))(i:WO X id r)(b:PE X o to)(j:PA X (e::es) t)
  (c:attributeBase o name X.env (eval o X.env)=eval o X.env:=by rfl)
  (d:((backTo qk (starEach (e::es) X.env)).all (λx=> !x.1) && (backToKw qk (keywordEach [] X.env)).all (λx=>x.1.isSome)
   && decide ((e::es).length + ([]:List Keyword).length + (if ([]:List Keyword).isEmpty then 0 else 1) < 30))=true:=by rfl)
  (k:(apos.endLine==qk.line)=true:=by rfl) (l:starEach (e::es) X.env=((false),eval e X.env)::starEach es X.env:=by rfl) (m:(backTo qk (starEach es X.env)).any (·.1)=false:=by rfl):
  PE X (.Call (.Attribute o name apos) (e::es) [] qk) (tBM X.K T r to t):=by
 walk_at "xc";refine wpAny_Call_method_late c d k rfl (dy (b pins s σ H _ I h) λv n p=>?_);let(x,k,b,c,q,u):=p;let(w,y):=Ip b c q;refine(T,id,f,a,g,w,y,?_);have d:=j qk pins n σ k _ b u;rw[l]at d ⊢;refine Calls.callWith_builtin (by show(false||(backTo qk (starEach es X.env)).any (·.1))=false;rw[m]<;>rfl) (Calls.evalArgs_plain ?_);exact dy d λa f (g,p,q,w,y)=>i pins f σ p x g v a Q q c w y
end
end
section
def MtM(X:Cx)(a:String)(r:V->List V->Hp->VK->Prop):Prop:=
 ∀(pins:List (Addr×Obj)) (s:Shared) (σ:St) (H:Hp) (x:V) (xs:List V) (v:Value) (us:List Value) (Q:VK),Inv X pins σ H s->RelV x v->Vals xs us->r x xs H Q->
  wpAny (model X.prog X.w) X.A (call (.builtin a) (v::us)) (EP X pins σ Q) X.xe s
theorem Vals.one:∀{x:V}{us:List Value},Vals [x] us->∃u,us=[u]/\RelV x u
 |_,_,.cons r .nil=>(_,rfl,r)
theorem Vals.two:∀{x y:V}{us:List Value},Vals [x,y] us->∃u v,us=[u,v]/\RelV x u/\RelV y v
 |_,_,_,.cons r (.cons q .nil)=>(_,_,rfl,r,q)
theorem Vals.zero:∀{us:List Value},Vals [] us->us=[]
 |_,.nil=>rfl
theorem Vals.dropLast{xs:List V}{us:List Value}(h:Vals xs us):Vals xs.dropLast us.dropLast:=by
 induction h with
 |nil=>calc .nil
 |cons r t a=>
  cases t with
  |nil=>calc .nil
  |cons q b=>calc .cons r a
theorem Vals.eraseIdx:∀{xs:List V}{us:List Value}(i:Nat),Vals xs us->Vals (xs.eraseIdx i) (us.eraseIdx i)
 |_,_,_,.nil=>.nil
 |_,_,0,.cons _ t=>t
 |_,_,i+1,.cons r t=>.cons r (Vals.eraseIdx i t)
theorem BO{α:Type}(l:List α):l.eraseIdx (l.length-1)=l.dropLast:=by
 induction l with
 |nil=>rfl
 |cons a r c=>
  cases r with
  |nil=>rfl
  |cons b r=>
   have e:(a::b::r).length-1=((b::r).length-1)+1:=by
    have d:(a::b::r).length=r.length+2:=rfl;have a:(b::r).length=r.length+1:=rfl;lia
   rw[e,List.eraseIdx_cons_succ,c]
   all_goals rfl
theorem wj{α:Type}:∀(l:List α) (i:Nat),(l.eraseIdx i).length<=l.length
 | [],_=>L' _
 |_::_,0=>aa2 _
 |_::r,i+1=>Nat.succ_le_succ (wj r i)
section
variable {X:Cx}{pins:List (Addr×Obj)}{σ:St}{H:Hp}{s:Shared}{l b:Addr}{xs ys zs:List V}
theorem Inv.Ni{a lE:List Value}{n:Nat}{f:Array Value->Array Value}{t':Nat}(I:Inv X pins σ H s)(b:H l=some (.lst xs))
  (e:s.heap.get? l=some {cls:=.type "list",data:=.seq a.toArray n}) (c:f a.toArray=lE.toArray) (d:Vals ys lE) (g:ys.length<=sizeLine):
  Inv X pins σ (upd H l (.lst ys)) {s with heap:=s.heap.update l (Obj.mapSeq f),toks:=t'}:=by
 have q:=PySem.IsL.update e f;rw[c]at q;calc I.write (x:=l) (e:=l) (by rw[b];calc trivial) (.inl rfl) (λe u a c=>(aaQ s.heap (Obj.mapSeq f) (Ne.symm a)).trans c) (_,q) ?_;calc(g,lE,_,d,q)
theorem Inv.ab1{a:List Value}{t':Nat}(I:Inv X pins σ H s)(b:Vals ys a)(c:ys.length<=sizeLine):
  Inv X pins σ (upd H s.heap.objs.size (.lst ys)) {s with heap:=s.heap.push {cls:=.type "list",data:=.seq a.toArray},toks:=t'}:=
 I.laid (λ_ _ q=>K' _ q) (L' _) (c,a,0,b,Y' _ rfl)
theorem Inv.fresh(I:Inv X pins σ H s):H s.heap.objs.size=none:=I.aW.fresh (L' _)
theorem Inv.BP(I:Inv X pins σ H s)(b:H l=some (.lst xs)):xs.length<=sizeLine/\∃(a:List Value) (n:Nat),Vals xs a/\xs.length=a.length/\s.heap.get? l=some {cls:=.type "list",data:=.seq a.toArray n}:=by
 let(z,a,n,r,e):=I.aW l _ b;calc(z,a,n,r,r.length,e)
theorem Iq{n:Nat}(h:n<=sizeLine):Builtin.List.listTooLong n=false:=by
 unfold Builtin.List.listTooLong;calc aam ()
end
section
variable {X:Cx}
def Nj:V->List V->Hp->VK->Prop:=λx vs H Q=>∃l xs y,x=.ref l/\vs=[y]/\H l=some (.lst xs)/\xs.length<sizeLine/\Q .bO (upd H l (.lst (xs++[y])))
theorem wk:MtM X "list.append" Nj:=by
 intro a s σ H x e v f Q I c d h;let(l,g,y,rfl,rfl,b,i,q):=h
 cases c;let(u,rfl,f):=d.one;let(z,a,n,r,c,e):=I.BP b;calc call_meets F.slot_list_append (_,e,rfl) F.entry_list_append (F.args_list_append_2 _ _) (PySem.list_append l a.toArray n u (by rw[aaj];lia)) (e,?_);calc(.bO,_,I.Ni (lE:=a++[u]) b e nofun (r.append (.cons f .nil)) ?_,rfl,q);rw[aat,List.length_singleton];lia
def Nk:V->List V->Hp->VK->Prop:=λx vs H Q=>∃l b xs a,x=.ref l/\vs=[.ref b]/\H l=some (.lst xs)/\H b=some (.lst a)/\xs.length+a.length<=sizeLine/\Q .bO (upd H l (.lst (xs++a)))
theorem FA:MtM X "list.extend" Nk:=by
 intro a s σ H x e v j Q I c d h;let(l,b,k,m,rfl,rfl,f,g,n,q):=h
 cases c;let(u,rfl,i):=d.one
 cases i;let(z,a,n,r,c,e):=I.BP f;let(d,c,h,i,k,j):=I.BP g;have d:a.toArray.size+c.toArray.size<=sizeLine:=by rw[aaj,aaj];lia
 have g:¬(!a.toArray.isEmpty&&Builtin.List.listTooLong (a.toArray.size+c.toArray.size))=true:=by
  rw[Iq d,Bool.and_false];exact S'
 refine call_meets F.slot_list_extend (_,e,rfl) F.entry_list_extend (F.args_list_extend_2 _ _)
  (AutoSeq1.list_extend_list_list_0 l a.toArray n b c.toArray h g (by rw[aaj];lia) ()) (e,j,?_)
 calc(.bO,_,I.Ni (lE:=a++c) f e nofun (r.append i) ?_,rfl,q);rw[aat];lia
def ab2:V->List V->Hp->VK->Prop:=λx vs H Q=>∃l xs y,x=.ref l/\vs=[]/\H l=some (.lst xs)/\xs[xs.length-1]?=some y/\Q y (upd H l (.lst xs.dropLast))
theorem RZ:MtM X "list.pop" ab2:=by
 intro a s σ H x e v i Q I d f h;let(l,j,y,rfl,rfl,c,g,q):=h
 cases d;have b:=f.zero;subst b;let(z,a,n,r,d,e):=I.BP c;let(u,b,f):=r.get g;have h:a.toArray[a.toArray.size-1]?=some u:=by
  show a.toArray[a.length-1]?=some u;rw[<-Array.getElem?_toList,<-d];exact b
 calc call_meets F.slot_list_pop (_,e,rfl) F.entry_list_pop (F.args_list_pop_1 _) (MeetsSeq.list_pop_last l a.toArray n u h (by rw[aaj];lia)) (e,?_);refine(y,_,I.Ni (lE:=a.dropLast) c e ?_ r.dropLast ?_,f,q)
 ·show a.toArray.eraseIdxIfInBounds (a.toArray.size-1)=a.dropLast.toArray;rw[aaj,List.eraseIdxIfInBounds_toArray,BO]
 ·rw[List.length_dropLast];lia
def ab3:R2:=λx y H Q=>∃l b xs a,x=.ref l/\y=.ref b/\H l=some (.lst xs)/\H b=some (.lst a)/\xs.length+a.length<=sizeLine/\∀p,H p=none->Q (.ref p) (upd H p (.lst (xs++a)))
theorem R0:gU X (binaryOp .Add) ab3:=by
 intro a s σ H x y v u Q I c d h;let(l,b,e,i,rfl,rfl,f,g,j,q):=h
 cases c
 cases d;let(z,a,n,r,b,e):=I.BP f;let(h,b,i,c,j,d):=I.BP g;calc PySem.P.add_list e d ?_ (by rw[aaj,aaj];lia);have f:a.toArray++b.toArray=(a++b).toArray:=by simp
 rw[f];calc(.ref _,_,I.ab1 (t':=s.toks) (r.append c) (by rw[aat];lia),rfl,q _ I.fresh)
theorem Ir{pins:List (Addr×Obj)}{s:Shared}{σ:St}{H:Hp}{l:Addr}{xs:List V}{i:Int}{t:Tok}{k:Nat}{Q:Unit->Shared->Prop}(I:Inv X pins σ H s)(b:H l=some (.lst xs))
  (c:-(2^63)<=i) (d:i<2^63) (f:seqIndex? i xs.length=some k) (h:∀s',Inv X pins σ (upd H l (.lst (xs.eraseIdx k))) s'->Q ⟨⟩ s'):
  wpAny (model X.prog X.w) X.A (delItem (.ref l) (.int i t)) Q X.xe s:=by
 let(z,a,n,r,g,e):=I.BP b;calc PySem.P.delItem_list (k:=k) e (fitsIndex_both c d) (by rw[aaj,<-g];calc f) (h _ ?_) (by rw[aaj];lia);refine I.Ni (lE:=a.eraseIdx k) (t':=s.toks) b e ?_ (r.eraseIdx k) ?_
 ·show a.toArray.eraseIdxIfInBounds k=(a.eraseIdx k).toArray;rw[List.eraseIdxIfInBounds_toArray]
 ·have:=wj xs k;lia
end
section
variable {prog:Program}{w:World}{A:Around}{E:Value->Shared->Prop}{s:Shared}
set_option maxRecDepth 100000 in
end
section
variable {X:Cx}
end
end
section
variable {a:Addr}{X:Cx}{H H':Hp}{bt:List (Key×V)}{xs:List (List Key×Addr×Value)}{Bi:List (TE×TE)}{pos:Pos}{Q:Value->Shared->Prop}
section
variable {κ:Type} [DecidableEq κ]
def gW(bt:List (κ×V))(k:κ):Option V:=(bt.find? λa=>decide (a.1=k)).map (·.2)
def putK(bt:List (κ×V))(k:κ)(v:V):List (κ×V):=
 if (bt.any λa=>decide (a.1=k))=true then bt.map (λa=>if a.1=k then((a.1),v) else a) else bt++[((k),v)]
theorem Iu{k:κ}:gW ([]:List (κ×V)) k=none:=rfl
theorem ff{p:κ×V}{r:List (κ×V)}{k:κ}(e:p.1=k):gW (p::r) k=some p.2:=by simp[gW,List.find?_cons,e]
theorem fg{p:κ×V}{r:List (κ×V)}{k:κ}(e:¬p.1=k):gW (p::r) k=gW r k:=by simp[gW,List.find?_cons,e]
theorem lJ(k:κ):∀bt:List (κ×V),(bt.any λa=>decide (a.1=k))=(gW bt k).isSome
 | []=>rfl
 |p::r=>by
  rw[List.any_cons];by_cases e:p.1=k
  ·simp only[ff e,decide_eq_true e,Bool.true_or,Option.isSome_some]
  ·rw[fg e,aam e,Bool.false_or];calc lJ k r
theorem zc(k j:κ)(y:V):∀bt:List (κ×V),gW (bt.map λa=>if a.1=k then((a.1),y) else a) j=(gW bt j).map λx=>if j=k then y else x
 | []=>rfl
 |p::r=>by
  have a:=zc k j y r;rw[aaW];by_cases h:p.1=k
  ·rw[if_pos h];by_cases e:p.1=j
   ·rw[ff (p:=((p.1),y)) e,ff e,Option.map_some,if_pos (e.symm.trans h)]
   ·rw[fg (p:=((p.1),y)) e,fg e,a]
  ·rw[if_neg h];by_cases e:p.1=j
   ·rw[ff (p:=p) e,ff e,Option.map_some,if_neg (λz=>h (e.trans z))]
   ·rw[fg (p:=p) e,fg e,a]
theorem wm(k j:κ)(y:V):∀bt:List (κ×V),gW bt k=none->gW (bt++[((k),y)]) j=if j=k then some y else gW bt j
 | [],_=>by
  by_cases e:k=j
  ·rw[if_pos e.symm];exact ff (p:=((k),y)) e
  ·rw[if_neg (λz=>e z.symm)];calc fg (p:=((k),y)) e
 |p::r,a=>by
  rw[List.cons_append];have b:¬p.1=k:=λz=>by rw[ff z]at a;cases a
  rw[fg b]at a;have c:=wm k j y r a;by_cases e:p.1=j
  ·rw[ff e,ff e,if_neg (λz=>b (e.trans z))]
  ·rw[fg e,fg e,c]
theorem Iw(bt:List (κ×V))(k j:κ)(y:V):gW (putK bt k y) j=if j=k then some y else gW bt j:=by
 unfold putK;by_cases a:(bt.any λb=>decide (b.1=k))=true
 ·rw[if_pos a,zc];rw[lJ] at a;by_cases e:j=k
  ·let(x,b):=Option.isSome_iff_exists.mp a;rw[if_pos e,e,b,Option.map_some,if_pos rfl]
  ·rw[if_neg e]
   cases gW bt j with
   |none=>rfl
   |some x=>rw[Option.map_some,if_neg e]
 ·rw[if_neg a];calc wm k j y bt ?_;rw[lJ] at a
  cases q:gW bt k with
  |none=>rfl
  |some x=>rw[q]at a;calc(a rfl).elim
theorem lK(bt:List (κ×V))(k:κ)(v:V):(putK bt k v).length<=bt.length+1:=by
 unfold putK;split
 ·rw[T'];lia
 ·rw[aat,aaS,List.length_nil];lia
theorem Iy{bt:List (κ×V)}{k:κ}(v:V)(h:gW bt k=none):putK bt k v=bt++[((k),v)]:=by
 unfold putK;rw[lJ,h];calc if_neg ∅
theorem lC.ql{o:Option V}{u:Option Value}(r:lC o u):o.isSome=u.isSome:=by
 cases o with
 |none=>cases u with
  |none=>rfl
  |some _=>calc(show False from r).elim
 |some _=>cases u with
  |none=>calc(show False from r).elim
  |some _=>rfl
theorem KV.val{bt:List (κ×V)}{vs:List (κ×Value)}(r:KV bt vs)(k:κ):lC (gW bt k) (valueAt vs k):=by
 unfold KV at r;induction r with
 |nil=>calc aaD
 | @cons p q b a h t g=>
  let(d,i):=h;by_cases e:p.1=k
  ·have c:q.1=k:=d.symm.trans e;have b:valueAt (q::a) k=some q.2:=by simp[valueAt,List.find?_cons,c]
   rw[ff e,b];exact i
  ·have c:¬q.1=k:=λz=>e (d.trans z);have b:valueAt (q::a) k=valueAt a k:=by simp[valueAt,List.find?_cons,c]
   rw[fg e,b];calc g
theorem KV.any{bt:List (κ×V)}{vs:List (κ×Value)}(r:KV bt vs)(k:κ):(bt.any λa=>decide (a.1=k))=vs.any λa=>decide (a.1=k):=by
 unfold KV at r;induction r with
 |nil=>rfl
 |cons h t a=>rw[List.any_cons,List.any_cons,a,h.1]
theorem KV.R1{bt:List (κ×V)}{vs:List (κ×Value)}(r:KV bt vs)(k:κ){y:V}{u:Value}(b:RelV y u):
  KV (bt.map λa=>if a.1=k then((a.1),y) else a) (vs.map λa=>if a.1=k then((a.1),u) else a):=by
 unfold KV at r ⊢;induction r with
 |nil=>calc .nil
 | @cons p q a d h t c=>
  rw[aaW,aaW];calc .cons ?_ c;let(a,d):=h;by_cases e:p.1=k
  ·rw[if_pos e,if_pos (a.symm.trans e)];exact(a,b)
  ·rw[if_neg e,if_neg (λz=>e (a.trans z))];calc(a,d)
theorem KV.put{bt:List (κ×V)}{vs:List (κ×Value)}(r:KV bt vs)(k:κ){y:V}{u:Value}(a:RelV y u):KV (putK bt k y) (stored vs k u):=by
 unfold putK stored;rw[r.any k];by_cases e:(vs.any λb=>decide (b.1=k))=true
 ·rw[if_pos e,if_pos e];exact r.R1 k a
 ·rw[if_neg e,if_neg e];calc Paired.snoc r (rfl,a)
theorem KV.length{bt:List (κ×V)}{vs:List (κ×Value)}(r:KV bt vs):bt.length=vs.length:=Paired.length r
end
theorem zd{P:Program}{w:World}{k:Key}{u:Value}(r:RelV (kV k) u):(dJ P w).is k u=true:=by
 cases k with
 |inl i=>let(t,e):=(show ∃t,u=Value.int i t from r);subst e;calc yW P w i t
 |inr x=>let(t,e):=(show ∃t,u=Value.str x t from r);subst e;calc yX P w x t
theorem wq{P:Program}{w:World}:∀{ks:List Key}{us:List Value},Vals (ks.map kV) us->ItemsAre (dJ P w) ks us
 | [],_,r=>by rw[List.map_nil]at r;cases r;calc .nil
 |k::ks,_,r=>by
  rw[aaW]at r
  cases r with
  |cons h t=>calc .cons (zd h) (wq t)
abbrev KT(H:Hp):List (List Key×V)->List (List Key×Addr×Value)->Prop:=Paired λp q=>p.1=q.1/\H q.2.1=some (.tup (p.1.map kV))/\RelV p.2 q.2.2
theorem KT.val{H:Hp}{bt:List (List Key×V)}{xs:List (List Key×Addr×Value)}(r:KT H bt xs)(k:List Key):lC (gW bt k) ((atKey xs k).map (·.2)):=by
 induction r with
 |nil=>calc aaD
 | @cons p q b a h t g=>
  let(d,_,i):=h;by_cases e:p.1=k
  ·have c:q.1=k:=d.symm.trans e;have b:atKey (q::a) k=some q.2:=by simp[atKey,List.find?_cons,c]
   rw[ff e,b];exact i
  ·have c:¬q.1=k:=λz=>e (d.trans z);have b:atKey (q::a) k=atKey a k:=by simp[atKey,List.find?_cons,c]
   rw[fg e,b];calc g
theorem KT.R1{H:Hp}{bt:List (List Key×V)}{xs:List (List Key×Addr×Value)}(r:KT H bt xs)(k:List Key){y:V}{u:Value}(c:RelV y u):
  KT H (bt.map λa=>if a.1=k then((a.1),y) else a) (xs.map (putAt k u)):=by
 induction r with
 |nil=>calc .nil
 | @cons p q a b h t d=>
  rw[aaW,aaW];calc .cons ?_ d;let(a,b,g):=h;unfold putAt;by_cases e:p.1=k
  ·rw[if_pos e,if_pos (a.symm.trans e)];exact(a,b,c)
  ·rw[if_neg e,if_neg (λz=>e (a.trans z))];calc(a,b,g)
theorem KT.put{bt:List (List Key×V)}(r:KT H bt xs)(k:List Key){b:Addr}{y:V}{u:Value}(c:H b=some (.tup (k.map kV)))(a:RelV y u):
  KT H (putK bt k y) (storedH xs k b u):=by
 have e:(bt.any λb=>decide (b.1=k))=(atKey xs k).isSome:=by
  rw[lJ,(r.val k).ql,Option.isSome_map]
 unfold putK storedH;rw[e];by_cases q:(atKey xs k).isSome=true
 ·rw[if_pos q,if_pos q];exact r.R1 k a
 ·rw[if_neg q,if_neg q];calc Paired.snoc r (rfl,c,a)
theorem KT.keeps{bt:List (List Key×V)}(r:KT H bt xs)(c:∀b a,H b=some (.tup a)->H' b=some (.tup a)):KT H' bt xs:=
 Paired.Ri r λ_ _ z=>(z.1,c _ _ z.2.1,z.2.2)
section
variable {P:Program}{w:World}{H:Hp}{h:Heap}{a:Addr}
theorem Pw{u:HO}(ok:nz P w H h)(e:Rd H a u):cA P w H h a u:=e.ok ok
theorem DA(b:nz P w H h)(e:Rd H a (.dK bt)):bt.length<=sizeLine/\(a==sysModules)=false/\∃vs,KV bt vs/\h.DictOf (dJ P w) a vs:=
 show cA P w H h a (.dK bt) from Pw b e
theorem Iz(b:nz P w H h)(e:H a=some (.dK bt)):bt.length<=sizeLine/\(a==sysModules)=false/\∃vs,KV bt vs/\h.DictOf (dJ P w) a vs:=DA b (.inl e)
theorem xO{ks:List Key}(b:nz P w H h)(e:H a=some (.tup (ks.map kV))):(tupleKind (dJ P w)).is h ks a:=by
 let(_,c,r,o,d,f,n,g):=(show cA P w H h a (.tup (ks.map kV)) from b a _ e)
 calc(o,c.toArray,n,d,f,g,by simpa using wq r)
theorem DB{bt:List (List Key×V)}(d:nz P w H h)(e:Rd H a (.dT bt)):bt.length<=sizeLine/\(a==sysModules)=false/\
  ∃xs,KT H bt xs/\h.DictOfH (tupleKind (dJ P w)) a xs:=by
 let(z,y,xs,r,o,g,i,j,k,n,p,s):=(show cA P w H h a (.dT bt) from Pw d e)
 calc(z,y,xs,r,o,g,i,j,k,n,p,λx b=>?_,s);have c:∀{l:List (List Key×V)} {m:List (List Key×Addr×Value)},KT H l m->∀x∈m,(tupleKind (dJ P w)).is h x.1 x.2.1:=by
  intro l m q;induction q with
  |nil=>intro x b;calc nomatch b
  | @cons p q g i f t u=>
   intro x b;rcases List.mem_cons.mp b with e|b
   ·subst e;exact xO d (by rw[<-f.1];calc f.2.1)
   ·exact u x b
 calc c r x b
theorem WW{bt:List (List Key×V)}(b:nz P w H h)(e:H a=some (.dT bt)):bt.length<=sizeLine/\(a==sysModules)=false/\
  ∃xs,KT H bt xs/\h.DictOfH (tupleKind (dJ P w)) a xs:=DB b (.inl e)
end
def lu(H:Hp)(a:Addr)(y:V)(r:Option V):Prop:=
 (∃bt k,Rd H a (.dK bt)/\y=kV k/\r=gW bt k)\/∃bt k b,Rd H a (.dT bt)/\y=.ref b/\H b=some (.tup (k.map kV))/\r=gW bt k
def BQ(H:Hp)(a:Addr)(y v:V)(H':Hp):Prop:=
 (∃bt k,H a=some (.dK bt)/\y=kV k/\bt.length<sizeLine/\H'=upd H a (.dK (putK bt k v)))\/
 ∃bt k b,H a=some (.dT bt)/\y=.ref b/\H b=some (.tup (k.map kV))/\bt.length<sizeLine/\H'=upd H a (.dT (putK bt k v))
theorem lu.k{k:Key}(e:H a=some (.dK bt)):lu H a (kV k) (gW bt k):=.inl (bt,k,.inl e,rfl,rfl)
theorem BQ.k{k:Key}{v:V}(e:H a=some (.dK bt))(b:bt.length<sizeLine):BQ H a (kV k) v (upd H a (.dK (putK bt k v))):=.inl (bt,k,e,rfl,b,rfl)
section
variable {X:Cx}{pins:List (Addr×Obj)}{σ:St}{H:Hp}{s:Shared}{a:Addr}{y v:V}{u r:Value}{o:Option V}{A:Around}{E:Value->Shared->Prop}
theorem Inv.big(I:Inv X pins σ H s):sysModules<s.heap.objs.size:=by
 have h:mainGlobals<s.heap.objs.size:=(I.mod.glob.keeps I.bk).lt;calc Nat.lt_trans ∅ h
theorem FC(n:A.units+1<cLine)(I:Inv X pins σ H s)(g:lu H a y (some v))(m:RelV y u)(h:∀w' s',Inv X pins σ H s'->RelV v w'->Q w' s'):
  wpAny (model X.prog X.w) A (getItem (.ref a) u) Q E s:=by
 rcases g with⟨bt,k,e,d,l⟩|⟨bt,k,b,e,d,q,l⟩
 ·subst d;let(z,p,g,c,f):=DA I.aW e;let(w',i,j):=lC.some_of (v:=v) (o:=valueAt g k) (by rw[l];calc c.val k);exact wpAny_getItem_of (zd m) f.mapOf i (h w' _ (I.tok _) j)
 ·subst d
  cases(show u=Value.ref b from m);let(z,p,xs,c,f):=DB I.aW e;let(w',i,j):=lC.some_of (v:=v) (o:=(atKey xs k).map (·.2)) (by rw[l];calc c.val k);let(p,b,d):=Option.map_eq_some_iff.mp i;calc wpAny_getItem_heap (tupleKind_room_in1 n) (xO I.aW q) f b ?_;rw[d];calc h w' _ (I.tok _) j
theorem Nl(m:A.units+1<cLine)(I:Inv X pins σ H s)(g:lu H a y o)(j:RelV y u)(h:∀s',Inv X pins σ H s'->Q (.bool (!o.isSome)) s'):
  wpAny (model X.prog X.w) A (compareOp .NotIn u (.ref a)) Q E s:=by
 rcases g with⟨bt,k,e,d,l⟩|⟨bt,k,b,e,d,n,l⟩
 ·subst d;let(z,f,g,c,i):=DA I.aW e;calc wpAny_notIn_of (zd j) f i.mapOf ?_;rw[<-(c.val k).ql,<-l];exact h _ (I.tok _)
 ·subst d
  cases(show u=Value.ref b from j);let(z,f,xs,c,i):=DB I.aW e;calc wpAny_notIn_heap (tupleKind_room_in1 m) (xO I.aW n) f i ?_;have q:=(c.val k).ql;rw[Option.isSome_map]at q;rw[<-q,<-l];calc h _ (I.tok _)
theorem xP{h':Heap}{t':Nat}{b:HO}(I:Inv X pins σ H s)(d:Wm (H a))(f:Heap.SameBut a s.heap h')(g:∃q,h'.get? a=some q)(c:cA X.prog X.w (upd H a b) h' a b):
  Inv X pins σ (upd H a b) {s with heap:=h',toks:=t'}:=
 I.write (x:=a) (e:=a) d (.inl rfl) (λb q h z=>(f.2 b h).trans z) g c
theorem IA{P:Program}{w:World}{h':Heap}{vs:List (Key×Value)}(z:bt.length<=sizeLine)(c:(a==sysModules)=false)(b:KV bt vs)(d:h'.DictOf (dJ P w) a vs):
  cA P w H' h' a (.dK bt):=(z,c,vs,b,d)
theorem FE{Q:Unit->Shared->Prop}(G:A.units+1<cLine)(I:Inv X pins σ H s)(g:BQ H a y v H')(B:RelV y u)(C:RelV v r)(h:∀s',Inv X pins σ H' s'->Q ⟨⟩ s'):
  wpAny (model X.prog X.w) A (setItem (.ref a) u r) Q E s:=by
 rcases g with⟨bt,k,e,c,l,j⟩|⟨bt,k,b,e,c,D,l,j⟩
 ·subst c j;let(z,m,g,d,n):=Iz I.aW e;have o:g.length<=sizeLine:=by rw[<-d.length];exact z
  have p:(putK bt k v).length<=sizeLine:=by have:=lK bt k v;lia
  calc wpAny_setItem_pairs (hsz:=o) (zd B) n λF f x=>h _ ?_;have g:∃q,F.get? a=some q:=let ⟨q,_,_,i,_⟩:=f;(q,i)
  exact xP I (by rw[e];calc aaD) x g (IA p m (d.put k C) f)
 ·subst c j
  cases(show u=Value.ref b from B);let(z,m,xs,d,n):=WW I.aW e;have o:xs.length<=sizeLine:=by rw[<-Paired.length d];exact z
  have p:(putK bt k v).length<=sizeLine:=by have:=lK bt k v;lia
  calc wpAny_setItem_heap (hsz:=o) (tupleKind_room_in1 G) (xO I.aW D) n λF f x=>h _ ?_;let(q,g,j,i,l,n,o,_,t):=f;calc xP I (by rw[e];calc aaD) x (q,i) (p,m,_,(d.put k D C).keeps λc h b=>?_,q,g,j,i,l,n,o,t);rw[az (Dh b e (λz=>nomatch z))];calc b
end
section
variable {X:Cx}{pins:List (Addr×Obj)}{σ:St}{H:Hp}{s:Shared}{a:Addr}{bt:List (Key×V)}{k:Key}{u:Value}{A:Around}{E:Value->Shared->Prop}
end
theorem ze{pins:List (Addr×Obj)}{σ:St}{s:Shared}{y:V}{o:Option V}(I:Inv X pins σ H s)(g:lu H a y o):s.TypeIs (.ref a) "dict":=by
 rcases g with⟨bt,k,e,_,_⟩|⟨bt,k,b,e,_,_,_⟩
 ·let(_,_,c,_,b):=DA I.aW e;exact b.typeIs
 ·let(_,_,xs,_,b):=DB I.aW e;calc b.typeIs
def xQ(b c:TE):TE:=λσ H Q=>b σ H λy d=>c σ d λx b=>∃a o,x=.ref a/\lu b a y o/\Q (.bl (!o.isSome)) b
def IB(b c d:TE):TS:=λD σ H=>d σ H λv e=>b σ e λx d=>c σ d λy e=>∃a b,x=.ref a/\BQ e a y v b/\D.nx σ b
section
variable {X:Cx}{o i e value:Expr}{pos pos' RI:Pos}{td ty tv:TE}
theorem FG(b:X.A.units+1<cLine)(c:PE X i ty)(d:PE X o td):PC X .NotIn i o (xQ ty td):=by
 walk_at "xc";refine dy (c pins s σ H _ I h) λw e (y,f,j,k,l)=>dy (d pins e σ f _ j l) λu c m=>?_;let(x,n,p,q,a,r,t,g,v):=m;subst t;obtain rfl:u=Value.ref a:=q;exact Nl b p g k λd c=>(.bl (!r.isSome),n,c,rfl,v)
theorem mU(b:X.A.units+1<cLine)(c:PE X o td)(d:PE X i ty)(e:PE X value tv)(f:swapsWith value (some (.Subscript o i pos')) pos.line X.env=pure false):
  PS X (.Assign [.Subscript o i pos'] value pos) (IB td ty tv):=by
 walk_at "xd";refine wpAny_Assign_Subscript (dy (e pins s σ H _ I h) λr j (v,k,l,m,n)=>dy (c pins j σ k _ l n) λu e (x,p,q,t,r)=>dy (d pins e σ p _ q r) λc j w=>?_) f;let(y,c,z,B,a,C,E,g,F):=w;subst E;obtain rfl:u=Value.ref a:=t;exact FE b z g B m λd c=>(σ,C,c,F)
end
theorem zf{P:Program}{w:World}(h:Heap)(a:sysModules<h.objs.size):cA P w H (h.push {cls:=.type "dict",data:=.dict #[]}) h.objs.size (.dK []):=
 (aap _,beq_eq_false_iff_ne.mpr (Ne.symm (aai a)),[],.nil,Heap.DictOf.new h)
def BR:TE:=λ_ H Q=>∀p,H p=none->Q (.ref p) (upd H p (.dK []))
section
variable {X:Cx}{pos:Pos}
theorem IC:PE X (.Dict [] [] pos) BR:=.mk λb s σ H Q I h=>
 wpAny_Dict_empty (.ref s.heap.objs.size,_,I.laid (a:=s.heap.objs.size) (o:=.dK []) (t':=s.toks) (λ_ _ q=>K' _ q) (L' _) (zf s.heap I.big),rfl,h _ (I.aW.fresh (L' _)))
end
def qm:List (TE×TE)->St->Hp->(List (V×V)->Hp->Prop)->Prop
 | [],_,H,Q=>Q [] H
 |(a,b)::r,σ,H,Q=>a σ H λx c=>b σ c λy a=>qm r σ a λb c=>Q (((x),y)::b) c
abbrev VV:List (V×V)->List (Value×Value)->Prop:=Paired λp q=>RelV p.1 q.1/\RelV p.2 q.2
def PPs(X:Cx)(pos:Pos)(b:List (Option Expr))(a:List Expr)(Bi:List (TE×TE)):Prop:=
 ∀(pins:List (Addr×Obj)) (s:Shared) (σ:St) (H:Hp) (Q:List (V×V)->Hp->Prop),Inv X pins σ H s->qm Bi σ H Q->
  wpAny (model X.prog X.w) X.A (evalPairs (pairTrees b a X.env pos)) (λvs s'=>∃a H',Inv X pins σ H' s'/\VV a vs/\Q a H') X.xe s
theorem Np:PPs X pos [] [] []:=λa s σ H Q I h=>pairTrees_nil_walk ([],H,I,.nil,h)
theorem tD{k v:Expr}{ks:List (Option Expr)}{vs:List Expr}{a b:TE}(c:PE X k a)(d:PE X v b)(e:PPs X pos ks vs Bi):
  PPs X pos (some k::ks) (v::vs) (((a),b)::Bi):=λa s σ H Q I h=>
 pairTrees_cons_walk (dy (c a s σ H _ I h) λu b (x,f,g,i,j)=>dy (d a b σ f _ g j) λn c (y,h,k,l,m)=>
  dy (e a c σ h _ k m) λn o (d,f,g,b,j)=>(((x),y)::d,f,g,.cons (i,l) b,j))
def nO(bt a:List (Key×V)):List (Key×V):=a.foldl (λb c=>putK b c.1 c.2) bt
theorem KV.merge:∀{a:List (Key×V)}{b:List (Key×Value)}{bt:List (Key×V)}{vs:List (Key×Value)},KV a b->KV bt vs->KV (nO bt a) (merged vs b):=by
 intro a b bt vs r;unfold KV at r;induction r generalizing bt vs with
 |nil=>intro q;calc q
 | @cons p q b c h t a=>
  intro b;have e:KV (putK bt p.1 p.2) (stored vs q.1 q.2):=by
   have:=b.put p.1 h.2;rw[<-h.1];exact this
  calc a e
theorem nI:∀(a bt:List (Key×V)),(nO bt a).length<=bt.length+a.length
 | [],bt=>by show bt.length<=bt.length+0;lia
 |p::r,bt=>by
  have a:=nI r (putK bt p.1 p.2);have a:=lK bt p.1 p.2;show(nO (putK bt p.1 p.2) r).length<=_;rw[aaS];lia
theorem tE{P:Program}{w:World}:∀{bt:List (Key×V)}{ws:List (Value×Value)},VV (bt.map λb=>((kV b.1),b.2)) ws->∃d,Carries (dJ P w) ws d/\KV bt d
 | [],_,r=>by rw[List.map_nil]at r;cases r;calc([],aaD,.nil)
 |p::bt,_,r=>by
  rw[aaW]at r
  cases r with
  | @cons a b c e h t=>
   let(d,c,q):=tE (P:=P) (w:=w) t;let(f,e):=b;calc(((p.1),e)::d,(zd h.1,rfl,c),.cons (rfl,h.2) q)
def DC(Bi:List (TE×TE)):TE:=λσ H Q=>∀p,H p=none->qm Bi σ (upd H p (.dK [])) λc a=>a p=some (.dK [])/\∃bt:List (Key×V),c=bt.map (λb=>((kV b.1),b.2))/\bt.length<=15/\Q (.ref p) (upd a p (.dK (nO [] bt)))
theorem Nq{b:List (Option Expr)}{d:List Expr}(h:PPs X pos b d Bi)(k:b.all (·.isSome)=true)(l:b.length=d.length)(m:b≠[])
  (f:b.length<=15):PE X (.Dict b d pos) (DC Bi):=by
 refine⟨?_⟩;intro b s σ H Q I q;have d:=I.aW.fresh (L' s.heap.objs.size);have n:=I.laid (a:=s.heap.objs.size) (o:=.dK []) (h':=s.heap.push {cls:=.type "dict",data:=.dict #[]}) (t':=s.toks) (λ_ _ q=>K' _ q) (L' _) (zf s.heap I.big);refine wpAny_Dict_walk (knd:=dJ X.prog X.w) k l m f (dy (h b _ σ _ _ n (q _ d)) λz B p=>?_);let(b,d,j,g,e,bt,r,f,t):=p;subst r;let(u,c,v):=tE (P:=X.prog) (w:=X.w) g;let(z,x,b,y,A):=Iz j.aW e
 cases y;calc(u,c,A,λi b d=>(.ref s.heap.objs.size,_,?_,rfl,t));have c:(nO [] bt).length<=sizeLine:=by
  have f:=nI bt [];rw[List.length_nil]at f;rw[aaw];lia
 have f:∃q,i.get? s.heap.objs.size=some q:=let ⟨q,_,_,g,_⟩:=b;(q,g)
 calc xP j (by rw[e];calc aaD) d f (IA c x (v.merge .nil) b)
section
variable {X:Cx}{pins:List (Addr×Obj)}{σ:St}{H:Hp}{s:Shared}{a:Addr}{y d:V}{u r:Value}{o:Option V}{A:Around}{E:Value->Shared->Prop}
end
section
variable {X:Cx}{pins:List (Addr×Obj)}{σ:St}{H:Hp}{s:Shared}{a:Addr}{y:V}{u:Value}{A:Around}{E:Value->Shared->Prop}
end
end
end L2
namespace Att
open PySem PySem.W PySem.Calls PyProof.Rows
theorem rR{P:Params}{h:Heap}:∀(ns:List Int) (vs:List Value),WellAll P h vs (ns.map WData.int)->IntsAre vs ns:=by
 intro ns;induction ns with
 |nil=>
  intro vs w;rw[List.map_nil]at w
  cases w;calc .nil
 |cons n ns c=>
  intro vs w;rw[aaW]at w
  cases w with
  |cons a b=>
   cases a;calc .cons _ _ (c _ b)
theorem FH{l:OpenLaw}{n:Nat}(i:l.most=some n){P:Params}{h:Heap}{args:List WData}{b:List Value}
  (f:l.row.toRowW.claim.pre args=true) (j:WellAll P h b args):
  ∃a vs ns,b=[Value.ref a]/\args=[WData.list (ns.map WData.int)]/\h.get? a=some {cls:=.type "list",data:=.seq vs.toArray}/\IntsAre vs ns/\ns.length<=n:=by
 have e:WShape.hasAll [] args [.list .int]=true:=(pre_splitW f).1;have g:l.pre.holds [] {args:=args}=true:=(pre_splitW f).2;let(d,r,rfl,k,m):=hasAllW_cons e;obtain rfl:=hasAllW_nil m;let(q,rfl,o):=hasW_list k;let(ns,rfl):=items_int o;have c:ns.length<=n:=by
  unfold OpenLaw.pre at g;have a:(WTm.not (.lt (.lit (.int (n:Int))) (.len (.arg 0)))).holds [] {args:=[.list (ns.map .int)]}=true:=by
   have a:=(holds_andW g).1;rw[i]at a;exact a
  have b:=condW_of a (w_not (w_lt w_lit (w_len_list (w_arg rfl))));rw[T']at b;calc Nat.le_of_not_lt λq=>?_;have a:(n:Int)<((ns.length:Nat):Int):=by lia
  first
   |(rw[aal a]at b;calc absurd b ∅)
   |(simp at b;lia)
 cases j with
 |cons p s=>
  cases s
  cases p with
  |list a b=>calc(_,_,ns,rfl,rfl,a,rR ns _ b,c)
theorem FI(l:OpenLaw)(args:List WData):l.row.toRowW.claim.post args (.bool true) args=true:=
 postW_of (r:=l.row.toRowW) (X:=(true == true))
  (show WShape.has [] (.bool true) .bool=true by first|rfl|decide|simp[WShape.has,WShape.arms,WShape.armsAll])
  (show(WTm.eq .res (.lit (.bool true))).value [] {args:=args,res:=some (.bool true),after:=args}=some (.bool (true==true)) from w_eq_bool (w_res rfl) w_lit) rfl
theorem zg{l:OpenLaw}{n:Nat}{q:Program}{c:List Str}{m:(Str->Option Value)->Heap->Prop}{p:World->Heap->Prop}{d:DefRec}
  (v:l.most=some n) (x:d.params.defaults=[])
  (call:∀(w:World) (s₀ b:Shared) (h j:Str->Option Value) (g:Addr) (o:Obj) (k i e:Value) (a:Addr) (vs:List Value) (ns:List Int),
   Ground q c [] m w s₀ h j b.heap->p w b.heap->
   b.heap.get? g=some o->o.data=.func (docDef d.name d.params d.body d.scope k i e)->b.heap.CodeRec i d.name->h d.name=some (.ref g)->
   b.heap.get? a=some {cls:=.type "list",data:=.seq vs.toArray}->IntsAre vs ns->ns.length<=n->b.gens=#[]->
   codeAny (model l.prog w) callerA (.call (.ref g) ([.ref a],[])) (λr s'=>r=.ok (.ret (.bool true))/\OldK b.heap s'.heap/\s'.os=b.os/\AllBare s'.gens) b):
  WalkO q c m p l.row.toRowW d [] (λf vs=>PySem.call f vs):=by
 intro w s₀ b h j G Y g o k i e y kV z A B s C D t u K E F H I L;obtain rfl:y=.none:=Dflts.none s x;obtain rfl:kV=.none:=Dflts.noKw s;let(a,vs,ns,rfl,rfl,f,c,d):=FH v E I;calc enter_call (codeAny_mono (call w s₀ b h j g o k i e a vs ns G Y z (fd_plain A) B C f c d D) λr s' J=>?_);let(rfl,a,b,c):=J;calc(.inl (.bool true,.bool true,[],rfl,λ_=>rfl,.bool true,FI l _,λ_=>(List.Pairwise.nil,λ_ d=>(nomatch d))),a,b,c)
section
variable {prog:Program}{w:World}{A:Around}{E:Value->Shared->Prop}{s:Shared}{K:Frag}
end
end Att
namespace L2
open PySem PySem.Spec PyProof.Rows
section
theorem mV:∀{vs:List Value}{ns:List Int},IntsAre vs ns->Vals (ns.map V.int) vs
 |_,_,.nil=>.nil
 |_,_,.cons n t h=>.cons (t,rfl) (mV h)
def R5(H:Hp):Prop:=∀b,H b=none\/∃o xs,H b=some (.Be o (.lst xs))
theorem ID{P:Program}{w:World}{K:W.Frag}{l J:Str->Option Value}{CX:Ie}{k:Nat}{m a:Addr}{n:FuncData}{x:Str}{sp:Sp}{c:Shared}{vs:List Value}{ns:List Int}
  (U:K.In c.heap) (p:c.heap.Ns mainGlobals l) (g:c.heap.Ns builtinsNs J) (L:∀x:Str,x≠"__name__"->J x=bootBuiltins x) (M:c.heap.NoLimit) (hg:c.gens=#[])
  (I:c.heap.get? a=some {cls:=.type "list",data:=.seq vs.toArray}) (X:IntsAre vs ns) (Y:ns.length<=sizeLine) (hr:eR k callerA)
  (F:∀base:Heap,K.In base->base.Ns mainGlobals l->ku P w K l base CX k m n [x] sp) (W0:∀(s:Shared) (u:Value),BindsTo s n ([u],[]) [((x),u)])
  (Mp:∀H:Hp,R5 H->aY K H a (ns.map V.int)->sp [.ref a] H (λv _=>v=.bl true) λ_ _ _=>False)
  (N:∀H e s',CX [] H c (λ_ _ _=>False) e s'->False):
  codeAny (model P w) callerA (.call (.ref m) ([.ref a],[])) (λr s'=>r=.ok (.ret (.bool true))/\OldK c.heap s'.heap/\s'.os=c.os/\AllBare s'.gens) c:=by
 have Z:=mV X;have O:=X.length;have j:∀H:Hp,R5 H->aY K H a (ns.map V.int)->nz P w H c.heap->(∀b,H b≠none->b=a)->(H a≠none->K.lookup a=none)->
   codeAny (model P w) callerA (.call (.ref m) ([.ref a],[])) (λr s'=>r=.ok (.ret (.bool true))/\OldK c.heap s'.heap/\s'.os=c.os/\AllBare s'.gens) c:=by
  intro H hO hS aW hA hK;have DE:∀{b:Addr} {o:Obj},c.heap.get? b=some o->H b=none->(xC c.heap H).get? b=some o:=λe n=>HC e n;have WI:∀{b:Addr} {o:Obj} {t:Array DictEntry} {y:Nat},c.heap.get? b=some o->o.data=.dict t y->H b=none:=λ{b o t y} e d=>by
   cases q:H b with
   |none=>rfl
   |some u=>
    have R:b=a:=hA b (by rw[q];simp);subst R;rw[I]at e;cases e;have d':Data.seq vs.toArray _=Data.dict t y:=d
    cases d'
  have i:∀{b:Addr} {m:Str->Option Value},c.heap.Ns b m->(xC c.heap H).Ns b m:=λ{b m} (o,t,y,e,d,r)=>(o,t,y,DE e (WI e d),d,r)
  have B:K.In (xC c.heap H):=λb o e=>DE (U b o e) (by
   cases q:H b with
   |none=>rfl
   |some u=>
    have R:b=a:=hA b (by rw[q];simp);subst R;rw[hK (by rw[q];simp)] at e;cases e)
  have d:Mod K l (xC c.heap H):=(B,i p,(J,i g,L),let ⟨k,m,n⟩:=M;(k,i m,n))
  have k:BI P w K l (xC c.heap H) callerA [] c H:=(rfl,d,λb o e=>MU e,Nat.le_of_eq (Fg _ _),trivial,λb g=>absurd (show b∈([]:List Addr) from g) nofun,aW,.of_eq hg)
  refine codeAny_mono ((F _ B (i p)).run callerA [] c H ([.ref a],[]) [.ref a] [.ref a] _ _ hr k (W0 c (.ref a)) (.cons rfl .nil) (Mp H hO hS)) λr s' h=>?_
  cases r with
  |error e=>calc(N H e s' h).elim
  |ok fl=>
   cases fl with
   |next=>calc aaA h
   |brk=>calc aaA h
   |cont=>calc aaA h
   |ret u=>
    let(v,c,os,C,un,S,r',q):=h;have q':v=.bl true:=q;subst q';obtain rfl:u=Value.bool true:=r';refine(rfl,OldK.of_keep λb o e=>?_,os,C)
    cases q:H b with
    |none=>calc un.keep b o e q (by intro z;calc absurd (show b∈([]:List Addr) from z) nofun) nofun
    |some u=>
     rcases hO b with z|⟨ob,c,z⟩
     ·rw[q]at z;cases z
     ·have z2:=un.vo b ob _ z;let(e1,_):=aW b _ z;let(e2,_):=S b _ z2;rw[e]at e1;cases e1;exact e2
 cases T:K.lookup a with
 |some o=>
  have e:=U a o T;rw[I]at e
  cases e;calc j (λ_=>none) (λ_=>.inl rfl) (.inr (_,vs.toArray,_,T,rfl,rfl,rfl,by rw[aaj,O];calc Y,by simpa using Z)) (λb u z=>by have G:(none:Option HO)=some u:=z;cases G) (λb z=>absurd rfl z) λz=>absurd rfl z
 |none=>
  refine j (λb=>if b=a then some (.Be {cls:=.type "list",data:=.seq vs.toArray} (.lst (ns.map V.int))) else none) (λb=>?_) (.inl (.inr ({cls:=.type "list",data:=.seq vs.toArray},if_pos rfl))) (λb u z=>?_) (λb z=>?_) λ_=>T
  ·by_cases g:b=a
   ·exact .inr (_,_,if_pos g)
   ·exact .inl (if_neg g)
  ·by_cases g:b=a
   ·have G:=(if_pos g).symm.trans z
    cases G;subst g;exact(I,by rw[T'];calc Y,vs,_,Z,I)
   ·have G:=(if_neg g).symm.trans z
    cases G
  ·by_cases g:b=a
   ·exact g
   ·calc absurd (if_neg g) z
end
section
theorem Nt{l:W.OpenLaw}{n k:Nat}{q:Program}{c:List Str}{p:(Str->Option Value)->Heap->Prop}{o:World->Heap->Prop}{d:DefRec}{K:Params->W.Frag}{CX:World->Ie}{sp:World->Sp}{x:Str}
  (r:l.most=some n) (m:n<=sizeLine) (t:d.params.defaults=[]) (y:eR k callerA)
  (z:∀(w:World) (h:Heap),o w h->(K w.params).In h)
  (F:∀(w:World) (i:Str->Option Value) (j:Addr) (h:Heap),(K w.params).In h->h.Ns mainGlobals i->i d.name=some (.ref j)->
   ∃h:FuncData,(∀(s:Shared) (u:Value),BindsTo s h ([u],[]) [((x),u)])/\
    ∀base:Heap,(K w.params).In base->base.Ns mainGlobals i->ku l.prog w (K w.params) i base (CX w) k j h [x] (sp w))
  (u:∀(w:World) (H:Hp) (a:Addr) (ns:List Int),ns.length<=n->R5 H->aY (K w.params) H a (ns.map V.int)->sp w [.ref a] H (λv _=>v=.bl true) λ_ _ _=>False)
  (k:∀(w:World) (H:Hp) (s:Shared) (e:Value) (s':Shared),CX w [] H s (λ_ _ _=>False) e s'->False):
  W.WalkO q c p o l.row.toRowW d [] (λf vs=>PySem.call f vs):=by
 calc Att.zg r t λw l f i v j o x A n a vs ns G Y B C D p q d c s=>?_;have l:=z w _ Y;let(h,n,o):=F w i j _ l G.T.g p;calc ID l G.T.g G.T.b G.T.builtins G.T.nolimit s q d (aar c m) y o n (λH h r=>u w H a ns c h r) λH e s'=>k w H f e s'
end
section
variable {f:Addr}{st:Stmt}{qual:Str}
def eZ(s:Stmt):Arguments:=match s with
 | .FunctionDef _ a _ _ _ _ _ _ _ _=>a
 |_=>{posonlyargs:=[],args:=[],vararg:=none,kwonlyargs:=[],kw_defaults:=[],kwarg:=none,defaults:=[]}
def cP(s:Stmt):List Stmt:=match s with
 | .FunctionDef _ _ b _ _ _ _ _ _ _=>b
 |_=>[]
def ay(s:Stmt):Scope:=match s with
 | .FunctionDef _ _ _ _ _ _ sc _ _ _=>sc
 |_=>{kind:=.function,names:=[],isGenerator:=false,isCoroutine:=false}
abbrev FJ:Ie:=λ_ _ _ _ _ _=>False
abbrev E0:XK:=λ_ _ _=>False
theorem DG{X:Cx}:Passes FJ X E0:=λ_ _ _ _ _ _ _ h=>h.elim
structure IE(K:W.Frag)(x qual:Str)(st:Stmt)(f:Addr)(fd:FuncData):Prop where
 ex:∃(oc:Value) (od:Option Addr) (kV doc pm:Value) (an:Option Addr) (fY ct:Value) (Na:Array (Option Value)),
  fd=W.fnOf x qual (eZ st) (cP st) (ay st) .none kV doc pm an fY ct/\K.lookup f=some (oc,od,.func fd,Na)/\W.codeIn K fY qual=true
 kp:W.keepIn K (.ref f)=true
section
variable {P:Program}{w:World}{K:W.Frag}{mg:Str->Option Value}{base:Heap}
theorem IE.ok{x:Str}{d:FuncData}{N b:List Str}{k:Nat}{sp:Sp}(F:IE K x qual st f d)(S:aD N b (ay st))(c:∀vs H Q E,sp vs H Q E->vs.length=b.length)
  (e:∀(a:Value) (A:Around) (outer:List Env) (s:Shared) (H:Hp) (vs:List V) (Q:VK) (E:XK),eR k (A.deeper (envOfC qual (ay st) s.heap.objs.size f a))->sp vs H Q E->
   ∃t,vp (j7 FJ P w K mg base N qual (ay st) f a A outer s H E).HL (cP st) t/\t {nx:=λ_ g=>Q .bO g,rt:=Q} (start N vs) H):ku P w K mg base FJ (k + 1) f d b sp:=by
 let(i,j,kV,h,l,m,a,n,o,rfl,b,d):=F.ex;calc Pt b d S c λA outer s H vs Q E g i=>?_;let(t,h,q):=e a A outer s H vs Q E g i;calc(t,h.HL,q)
theorem IE.binds{x:Str}{g:FuncData}{b:List Str}(F:IE K x qual st f g)
  (h:∀(kV a c:Value) (d:Option Addr) (e ct:Value) (us:List Value),us.length=b.length->bindArgs (W.fnOf x qual (eZ st) (cP st) (ay st) .none kV a c d e ct) (us,[])=pure (b.zip us)):Binds K g b []:=by
 let(i,j,kV,a,c,d,e,ct,k,rfl,b,g):=F.ex;calc .all (h kV a c d e ct)
theorem nQ{x:Str}{g:Value}{od d:Option Addr}{h:Array (Option Value)}{kV a e b ct:Value}(l:K.lookup f=some (g,od,.func (W.fnOf x qual (eZ st) (cP st) (ay st) .none kV a e d b ct),h))
  (c:W.codeIn K b qual=true) (k:W.keepIn K (.ref f)=true):IE K x qual st f (W.fnOf x qual (eZ st) (cP st) (ay st) .none kV a e d b ct):=((g,od,kV,a,e,d,b,ct,h,rfl,l,c),k)
end
theorem aE{n:Nat}(h:n<=1000):n<sizeLine:=aa5 h ∅
section
variable {X:Cx}
theorem pv(i:Nat){x:Str}{pos:Pos}(a:X.N[i]?=some x:=by rfl)(b:Wo X.env.scope x:=by first|calc Or.inl rfl|calc Or.inr (Or.inl rfl)|calc Or.inr (Or.inr rfl))(c:(x==("__debug__":Str))=false:=by decide)
  (d:(x==("__classdict__":Str))=false:=by decide):PE X (.Name x pos) (HF i):=HG a b c d
end
def au(H a:Hp):Prop:=∀b o,H b=some o->a b=some o
theorem au.refl(H:Hp):au H H:=λ_ _ h=>h
theorem au.trans{H c d:Hp}(a:au H c)(b:au c d):au H d:=λc o h=>b c o (a c o h)
theorem au.free{H a:Hp}(e:au H a){l:Addr}(h:a l=Option.none):H l=Option.none:=by
 cases q:H l with
 |none=>rfl
 |some o=>
  rw[e l o q]at h
  cases h
theorem au.seq{K:W.Frag}{H b:Hp}{a:Addr}{xs:List V}(e:au H b)(h:aY K H a xs):aY K b a xs:=by
 rcases h with(h|⟨o,h⟩)|h
 ·exact .inl (.inl (e _ _ h))
 ·exact .inl (.inr (o,e _ _ h))
 ·calc .inr h
end
end L2
set_option maxHeartbeats 4000000
namespace L2
open PySem PySem.Spec PyProof.Rows
section
variable {X:Cx}{H H₂:Hp}{pins:List (Addr×Obj)}{s:Shared}{σ:St}
def lL(env:Env):List (Str×NameKind)->List (Str×Addr)->List (Str×Addr)
 | [],cs=>cs
 |(n,k)::r,cs=>lL env r (if k == .free then((n),(env.cells.lookup n).getD 0)::cs else cs)
theorem zh{env:Env}{x:Str}{c:Addr}:∀{l:List (Str×NameKind)}{cs:List (Str×Addr)},((x),c)∈lL env l cs->((x),c)∈cs\/(((x),NameKind.free)∈l/\c=(env.cells.lookup x).getD 0)
 | [],cs,h=>.inl h
 |(n,k)::r,cs,h=>by
  unfold lL at h;rcases zh h with a|⟨a,g⟩
  ·by_cases b:(k == NameKind.free)=true
   ·rw[if_pos b] at a;have i:k=.free:=by simpa using b
    rcases List.mem_cons.mp a with e|e
    ·have d:=congrArg Prod.fst e;have f:=congrArg Prod.snd e;simp only at d f;subst d i;exact .inr (aas,f)
    ·exact .inl e
   ·rw[if_neg b]at a;exact .inl a
  ·calc .inr (aak _ a,g)
theorem wt{env:Env}{p:Str×Addr}:∀{l:List (Str×NameKind)}{cs:List (Str×Addr)},p∈cs->p∈lL env l cs
 | [],_,h=>h
 |(n,k)::r,cs,h=>by
  unfold lL;calc wt ?_;split
  ·exact aak _ h
  ·calc h
theorem tF{env:Env}{x:Str}:∀{l:List (Str×NameKind)}{cs:List (Str×Addr)},((x),NameKind.free)∈l->((x),(env.cells.lookup x).getD 0)∈lL env l cs
 | [],_,h=>by simp at h
 |(n,k)::r,cs,h=>by
  unfold lL;rcases List.mem_cons.mp h with e|e
  ·have a:=congrArg Prod.fst e;have b:=congrArg Prod.snd e;simp only at a b;subst a b;calc wt ?_;rw[if_pos nofun];exact aas
  ·calc tF e
theorem fM{β:Type}:∀{l:List (Str×β)}{x:Str}{c:β},((x),c)∈l->∃d,l.lookup x=some d
 | [],_,_,h=>by simp at h
 |(n,b)::r,x,c,h=>by
  by_cases e:x=n
  ·subst e;exact(b,nofun)
  ·have a:(x == n)=false:=beq_eq_false_iff_ne.mpr e;rcases List.mem_cons.mp h with q | q
   ·exact absurd (congrArg Prod.fst q) e
   ·let(d,b):=fM q;calc(d,by simp only[List.lookup_cons,a];calc b)
theorem nJ{scope:Scope}{env:Env}(h:∀x∈scope.names,x.2=.free->∃c,env.cells.lookup x.1=some c):closureFor scope env=pure (lL env scope.names []):=by
 unfold closureFor;have b:∀(l:List (Str×NameKind)) (a:List (Str×Addr)),(∀x ∈ l,x.2=.free->∃c,env.cells.lookup x.1=some c)->
   ((forIn l a λ(x:Str×NameKind) (r:List (Str×Addr))=>if (x.2==NameKind.free)=true then do let y <-cellOf env x.1;pure (ForInStep.yield (((x.1),y)::r)) else pure (ForInStep.yield r)):Sem (List (Str×Addr)))=pure (lL env l a):=by
  intro l;induction l with
  |nil=>intro a _;rfl
  |cons p r f=>
   intro a d;let(n,k):=p;rw[List.forIn_cons];dsimp only;by_cases a:(k==NameKind.free)=true
   ·let(c,g):=d ((n),k) aas (by simpa using a);have e:cellOf env n=pure c:=by unfold cellOf;rw[g]
    rw[if_pos a,e,pure_bind,pure_bind];dsimp only;rw[f _ λx c=>d x (aak _ c)];show _=pure (lL env r _);rw[if_pos a,g];rfl
   ·rw[if_neg a,pure_bind];dsimp only;rw[f _ λx c=>d x (aak _ c)];show _=pure (lL env r _);rw[if_neg a]
 have:=b scope.names [] h;simp only at this ⊢;rw[this,pure_bind]
def DH(a:List Expr)(env:Env):Sem Bool:=forIn a true λc r=>if r=true then do let ok <-isTrue c env (eval c env);pure (ForInStep.yield ok) else pure (ForInStep.yield r)
def Vd(X:Cx)(a:List Expr)(t:TT):Prop:=
 ∀(pins:List (Addr×Obj)) (s:Shared) (σ:St) (H:Hp) (Q:Bool->Hp->Prop),Inv X pins σ H s->t σ H Q->wpAny (model X.prog X.w) X.A (DH a X.env) (TP X pins σ Q) X.xe s
def jl:TT:=λ_ H Q=>Q true H
theorem Nu:Vd X [] jl:=λ_ _ _ H _ I h=>P' (H,I,h)
theorem jm{c:Expr}{t:TT}(h:PT X c t):Vd X [c] t:=λpins s σ H Q I a=>wpAny_tests_one (h pins s σ H Q I a)
section
variable {prog:Program}{w:World}{A:Around}{R:Result->Shared->Prop}{s:Shared}
theorem xR{o a e:Expr}{p:List Expr}{scope:Scope}{pos:Pos}{u q:Value}{env:Env}(I:Nat->Shared->Prop)
  (t:∀n s,I n s->wpAny (model prog w) A (pyNext u) (λr b=>match r with
   |none=>R (.ok .next) b
   | some v=>wpAny (model prog w) A (letOwnedTupleGo a u v) (λ_ f=>wpAny (model prog w) A (assign a env v) (λ_ g=>
     wpAny (model prog w) A (DH p env) (λok c=>
      if ok=true then wpAny (model prog w) A (eval o env) (λx i=>
       wpAny (model prog w) A (call (.builtin "list.append") [q,x]) (λ_ j=>∃m,m < n/\I m j) (λ_ _=>False) i) (λ_ _=>False) c
      else ∃m,m < n/\I m c) (λ_ _=>False) g) (λ_ _=>False) f) (λ_ _=>False) b) (λ_ _=>False) s)
  (n:Nat) (h:I n s):
  codeAny (model prog w) A (.compLoop (.ListComp o [(a,e,p,0)] scope pos) 0 u q env) R s:=by
 calc codeAny_loop rfl I (λn s m=>?_) n h;show wpAny _ A ((compTurn (.ListComp o [(a,e,p,0)] scope pos) 0 u q env).onRaise (λx=>do noteFrame x env;theTreesLotGoes x)) _ _ s;calc wpAny_noted ?_;rw[compTurn_list];refine F' (wpAny_standAt (F' (aaH (t n s m) (λr b k=>?_) λ_ _ d=>d.elim)))
 cases r with
 |none=>calc P' k
 |some v=>
  calc F' (aaH k (λ_ f a=>?_) λ_ _ d=>d.elim);refine F' (aaH a (λ_ g b=>F' (aaH b (λok c l=>?_) λ_ _ d=>d.elim)) λ_ _ d=>d.elim)
  cases ok with
  |false=>calc P' (rfl,l)
  |true=>
   calc F' (F' (aaH l (λx i a=>F' (aaH a (λ_ j b=>P' (P' (rfl,b))) λ_ _ d=>d.elim)) λ_ _ d=>d.elim))
end
def FK(N N':List Str)(ix:List (Option Nat))(scope:Scope):Bool:=
 N'.length==ix.length&&(N'.zip ix).all λp=>match p.2 with|none=>true|some j=>N[j]? == some p.1&&scope.names.lookup p.1==some .free
def vz(ix:List (Option Nat))(σ:St):St:=ix.map λo=>match o with|none=>none|some j=>(σ[j]?).join
def freeOk(scope:Scope)(outer:Scope):Bool:=
 scope.names.all λx=>(x.2 != .cell||scope.names.lookup x.1==some .cell)&&(x.2 != .free||(outer.names.lookup x.1==some .cell||outer.names.lookup x.1==some .free))&&(x.2 != .local||scope.names.lookup x.1==some .local)&&(x.2 != .free||scope.names.lookup x.1==some .free)
def Ve(env:Env)(names:List (Str×NameKind))(C:Addr):List (Str×Addr):=cellsFrom (C+1) names (lL env names [])
theorem mW:∀(names:List (Str×NameKind)) (n:Nat) (a:List (Str×Addr)),cellsFrom n names a=cellsFrom n names []++a
 | [],_,_=>rfl
 |(x,k)::r,n,a=>by
  unfold cellsFrom;split
  ·rw[mW r (n+1) (((x),n)::a),mW r (n+1) [((x),n)],List.append_assoc];rfl
  ·calc mW r n a
theorem tH{x:Str}{c:Addr}:∀{names:List (Str×NameKind)}{n:Nat}{a:List (Str×Addr)},((x),c)∈cellsFrom n names a->((x),c)∈a\/((x),NameKind.cell)∈names
 | [],_,_,h=>.inl h
 |(y,k)::r,n,a,h=>by
  unfold cellsFrom at h;split at h
  ·next b=>
   rcases tH h with h|h
   ·rcases List.mem_cons.mp h with e | e
    ·cases e;exact .inr (by rw[show k=.cell by simpa using b];calc aas)
    ·exact .inl e
   ·exact .inr (aak _ h)
  ·rcases tH h with h | h
   ·exact .inl h
   ·calc .inr (aak _ h)
theorem tI{β:Type}{x:Str}{a:List (Str×β)}:∀{l:List (Str×β)},(l++a).lookup x=(l.lookup x).or (a.lookup x)
 | []=>rfl
 |(n,b)::r=>by
  rw[List.cons_append,List.lookup_cons,List.lookup_cons]
  cases x==n with
  |true=>rfl
  |false=>calc tI
theorem IF{env:Env}{names:List (Str×NameKind)}{C:Addr}{x:Str}:(Ve env names C).lookup x=((cellsFrom (C+1) names []).lookup x).or ((lL env names []).lookup x):=by
 unfold Ve;rw[mW,tI]
def Vf(X:Cx)(scope:Scope)(C:Addr)(N':List Str)(a:Shared)(H₂:Hp)(b:List Addr):Cx:=
 {X with N:=N',s₀:=a,H₀:=H₂,env:=compEnvC scope (Ve X.env scope.names C) C X.env,outer:=X.stack,stack:=X.stack,ex:=b,fn:=λx=>scope.names.lookup x==some .cell,pn:=[],xe:=λ_ _=>False}
theorem freeOk.at{scope outer:Scope}(h:freeOk scope outer=true){x:Str×NameKind}(e:x∈scope.names):(x.2=.cell->scope.names.lookup x.1=some .cell)/\(x.2=.free->outer.names.lookup x.1=some .cell\/outer.names.lookup x.1=some .free)/\(x.2=.local->scope.names.lookup x.1=some .local)/\(x.2=.free->scope.names.lookup x.1=some .free):=by
 have f:=List.all_eq_true.mp h x e;simp only[Bool.and_eq_true,Bool.or_eq_true,bne_iff_ne,ne_eq,beq_iff_eq]at f;let(((a,b),c),d):=f;calc(λe=>a.resolve_left λz=>z e,λe=>b.resolve_left λz=>z e,λe=>c.resolve_left λz=>z e,λe=>d.resolve_left λz=>z e)
theorem fm{scope:Scope}{env:Env}:∀{names:List (Str×NameKind)}{x:Str}{k:NameKind},
  (names.map λ(n,k)=>if (k==NameKind.free&&env.scope.kind == .function&&env.kindOf n==some .cell) then((n),NameKind.cell) else((n),k)).lookup x=some k->∃a,((x),a)∈names/\(k=a\/(k=.cell/\a=.free))
 | [],_,_,h=>by simp at h
 |(n,c)::r,x,k,h=>by
  rw[aaW]at h;by_cases d:(c==NameKind.free&&env.scope.kind == .function&&env.kindOf n==some .cell)=true
  ·simp only[d,if_true] at h
   cases b:x==n with
   |true=>
    simp only[List.lookup_cons,b]at h;have e:x=n:=by simpa using b
    subst e;have g:c=.free:=by
     simp only[Bool.and_eq_true,beq_iff_eq]at d;exact d.1.1
    calc(c,aas,.inr ((Option.some.inj h).symm,g))
   |false=>
    simp only[List.lookup_cons,b]at h;let(a,m,q):=fm (scope:=scope) (env:=env) h;exact(a,aak _ m,q)
  ·dsimp only at h;rw[if_neg d] at h
   cases b:x==n with
   |true=>
    simp only[List.lookup_cons,b]at h;have e:x=n:=by simpa using b
    subst e;calc(c,aas,.inl (Option.some.inj h).symm)
   |false=>
    simp only[List.lookup_cons,b]at h;let(a,m,q):=fm (scope:=scope) (env:=env) h;calc(a,aak _ m,q)
section
variable {X:Cx}{scope:Scope}{C:Addr}{N':List Str}{s₂:Shared}{H₂:Hp}{fp:List Addr}{pins:List (Addr×Obj)}{σ:St}
theorem zi(I:Inv X pins σ H₂ s₂)(d:freeOk scope X.env.scope=true){x:Str}{c:Addr}(h:(lL X.env scope.names []).lookup x=some c):X.env.cells.lookup x=some c/\((x),NameKind.free)∈scope.names:=by
 rcases zh (aaq h) with z|⟨a,b⟩
 ·simp at z
 ·have q:=(d |> λh=>freeOk.at h a).2.1 rfl;let(c,e):=I.ok.has x q;rw[e]at b;calc(by rw[e,b];rfl,a)
theorem IG(a:freeOk scope X.env.scope=true){x:Str}(h:scope.names.lookup x=some .free){n:Nat}:(cellsFrom n scope.names []).lookup x=none:=by
 cases e:(cellsFrom n scope.names []).lookup x with
 |none=>rfl
 |some c=>
  rcases tH (aaq e) with z|z
  ·cases z
  ·have:=(freeOk.at a z).1 rfl;rw[h]at this;cases this
theorem mX(I:Inv X pins σ H₂ s₂)(a:freeOk scope X.env.scope=true){x:Str}{c:Addr}(h:(Ve X.env scope.names C).lookup x=some c):(X.env.cells.lookup x=some c/\ @LT.lt Nat _ c s₂.heap.objs.size/\(cellsFrom (C+1) scope.names []).lookup x=none)\/(cellsFrom (C+1) scope.names []).lookup x=some c:=by
 rw[IF]at h
 cases e:(cellsFrom (C+1) scope.names []).lookup x with
 |some d=>rw[e]at h;calc .inr h
 |none=>
  rw[e]at h;have q:=(zi I a h).1;calc .inl (q,let ⟨_,z⟩:=I.cell x c q;z.lt,rfl)
theorem R6{g:Heap}(i:CellsOk g (C+1) (cellsFrom (C+1) scope.names []))(I:Inv X pins σ H₂ s₂)(j:freeOk scope X.env.scope=true)(E:scope.kind=.function)(v:s₂.heap.objs.size<=C)(k:∀b∈fp,qg X pins H₂ b)(F:∀b∈fp,∃o,s₂.heap.get? b=some o):(Vf X scope C N' s₂ H₂ fp).Ok where
 mod:=I.ok.mod
 kind:=E
 glob:=I.ok.glob
 blt:=I.ok.blt
 above:=v
 inj:=λx y c l p=>by
  rcases mX I j l with⟨a,H,_⟩|a<;>rcases mX I j p with⟨b,g,_⟩|b
  ·exact I.ok.inj x y c a b
  ·have:=(i.empty y c (aaq b)).2;lia
  ·have:=(i.empty x c (aaq a)).2;lia
  ·exact PySem.name_of_addr i.apart (aaq a) (aaq b)
 has:=λx h=>by
  have h:(relabel scope X.env).names.lookup x=some .cell\/(relabel scope X.env).names.lookup x=some .free:=h;have w:((x),NameKind.free)∈scope.names->((lL X.env scope.names []).lookup x).isSome=true:=λm=>let ⟨d,e⟩:=fM (tF (env:=X.env) (cs:=[]) m);by rw[e];rfl
  calc Option.isSome_iff_exists.mp (W.cellsFrom_some scope.names (C+1) (lL X.env scope.names []) ?_);rcases h with h|h
  ·let(G,m,q):=fm (scope:=scope) h;rcases q with q | ⟨_,q⟩
   ·subst q;exact .inl ((freeOk.at j m).1 rfl)
   ·subst q;exact .inr (w m)
  ·let(G,m,q):=fm (scope:=scope) h;rcases q with q | ⟨q,_⟩
   ·subst q;exact .inr (w m)
   ·cases q
 Rj:=λx c l p=>by
  rcases mX I j p with⟨_,_,a⟩|a
  ·let(d,e):=tm (sc:=scope) (n:=C+1) (x:=x) (by simpa[Vf] using l);rw[e]at a;cases a
  ·have:=(i.empty x c (aaq a)).2;show s₂.heap.objs.size<=c;lia
 hd:=I.ok.hd
 frames:=I.ok.frames
 U9:=.inl rfl
 Wq:=λb f=>by
  let(o,A):=F b f;let(B,r,s,t,u,D):=k b f;calc(aai (V' (R' A) v),λx c h=>?_);rcases mX I j h with⟨a,_⟩|a
  ·exact u x c a
  ·have:=(i.empty x c (aaq a)).2;have: @LT.lt Nat _ b _:=R' A;exact aaJ ()
 bs:=I.bs
 Hm:=aar I.ok.Hm I.sz
 yY:=λb o e f=>by
  let(B,r,s,t,u,D):=k b f;rcases t with z|z
  ·exact I.ok.yY b o e z
  ·exact absurd (V' (V' (R' e) I.ok.Hm) z) (aaP _)
 Bs:=λb f z=>by
  let(B,r,s,t,u,D):=k b f;rcases List.mem_cons.mp (I.xD b z) with e|e
  ·exact r e
  ·exact s e
 pq:=I.stack
 MV:=I.sx
end
theorem Inv.less{a:St}(I:Inv X pins σ H s)(b:a.length=σ.length)(h:∀(i:Nat) (v:V),a[i]?=some (some v)->σ[i]?=some (some v)):Inv X pins a H s:=
 (I.ok,I.os,I.bare,I.base,(let ⟨m,a,c⟩:=I.loc;(m,a,λi x v d e f=>c i x v d (h i v e) f)),I.cell,I.free,I.jk,I.pin,I.aW,b.trans I.len)
def Ext(σ a:St):Prop:=a.length=σ.length/\∀(i:Nat) (v:V),σ[i]?=some (some v)->a[i]?=some (some v)
theorem Ext.refl(σ:St):Ext σ σ:=(rfl,λ_ _ h=>h)
theorem Ext.set{a:St}(h:Ext σ a){j:Nat}{w:Option V}(b:σ[j]?=some none):Ext σ (a.set j w):=by
 calc(by rw[List.length_set];calc h.1,λi v e=>?_);have c:j≠i:=by rintro rfl;rw[b]at e;cases e
 rw[aa8 c];calc h.2 i v e
theorem Nv(ix:List (Option Nat))(σ:St):(vz ix σ).length=ix.length:=by unfold vz;rw[T']
section
variable {X:Cx}{scope:Scope}{N':List Str}{ix:List (Option Nat)}{s₂ s₄:Shared}{H₂:Hp}{fp:List Addr}{pins:List (Addr×Obj)}{σ:St}{C D:Addr}{h₄:Heap}
theorem ab8(I:Inv X pins σ H₂ s₂)(k:freeOk scope X.env.scope=true)(p:scope.kind=.function)(M:FK X.N N' ix scope=true)(y:∀b∈fp,qg X pins H₂ b)(T:∀b∈fp,∃o,s₂.heap.get? b=some o)
  (n:s₂.heap.objs.size<=D) (F: @LT.lt Nat _ D C) (G:CellsOk h₄ (C+1) (cellsFrom (C+1) scope.names [])) (U:h₄.Ns C (λ_=>none)) (t:∀b o,s₂.heap.get? b=some o->h₄.get? b=some o)
  (W:h₄.get? D=some {cls:=.type "list",data:=.seq ([]:List Value).toArray 0}) (t':Nat):
  Inv (Vf X scope C N' s₂ H₂ fp) [] (vz ix σ) (upd H₂ D (.lst [])) {s₂ with heap:=h₄,toks:=t'}:=by
 have b:H₂ D=none:=I.aW.fresh n;have J:s₂.heap.objs.size<=C:=aar n (M' F);have Y:H₂ C=none:=I.aW.fresh J;have Z:nz X.prog X.w (upd H₂ D (.lst [])) h₄:=I.aW.laid t n (aap _,[],0,.nil,W);refine(R6 G I k p J y T,rfl,I.bare,Un.laid t n b,(_,U,λi x v m l e3=>?_),λx c e=>?_,?_,λx c e=>?_,λp b=>absurd (show p∈([]:List (Addr×Obj)) from b) nofun,Z,?_)
 ·have g:=M;unfold FK at g;rw[aaF] at g;have b:N'.length=ix.length:=by simpa using g.1
  have b:i<N'.length:=(List.getElem?_eq_some_iff.mp m).1;unfold vz at l;rw[J']at l
  cases q:ix[i]? with
  |none=>rw[q]at l;cases l
  |some o=>
   rw[q]at l
   cases o with
   |none=>cases l
   |some j=>
    have o:((x),some j)∈N'.zip ix:=by
     calc aao (i:=i) ?_;rw[List.getElem?_zip_eq_some];exact(m,q)
    have b:=List.all_eq_true.mp g.2 _ o;simp only[Bool.and_eq_true,beq_iff_eq]at b;let(K,L):=b;have d:(σ[j]?).join=some v:=by simpa using l
    have e4:σ[j]?=some (some v):=by
     cases z:σ[j]? with
     |none=>rw[z]at d;cases d
     |some y=>rw[z]at d;exact congrArg some d
    have O:((x),NameKind.free)∈scope.names:=aaq L;have P:=(freeOk.at k O).2.1 rfl;let(m,b,hv):=I.loc;let(u,ru,lk):=hv j x v K e4 (by rcases P with z|z;calc .inr (.inl z);calc .inr (.inr z));refine(u,ru,.inr (?_,?_))
    ·rcases e3 with z | z | z
     ·let(b,m',r):=fm (scope:=scope) (env:=X.env) (show(relabel scope X.env).names.lookup x=some .local from z);rcases r with r | ⟨r,_⟩
      ·subst r;have:=(freeOk.at k m').2.2.1 rfl;rw[L]at this;cases this
      ·cases r
     ·exact .inl z
     ·exact .inr z
    ·rcases lk with⟨B,_⟩ | ⟨_,c,l2,l3⟩
     ·have B:X.env.scope.names.lookup x=some .local:=B;rcases P with z | z
      ·rw[B]at z;cases z
      ·rw[B]at z;cases z
     ·let(b,R):=fM (tF (env:=X.env) (cs:=[]) O);have S:=(zi I k R).1;rw[l2]at S;have e7:c=b:=Option.some.inj S;subst e7;exact(c,by show(Ve X.env scope.names C).lookup x=some c;rw[IF,IG k L];calc R,l3.keeps t)
 ·rcases mX I k e with⟨a,_⟩ | a
  ·let(v,z):=I.cell x c a;exact(v,z.keeps t)
  ·exact(_,(G.empty x c (aaq a)).1)
 ·show upd H₂ D (.lst []) C=none;rw[az (aaJ F)];exact Y
 ·show upd H₂ D (.lst []) c=none;rcases mX I k e with⟨a,z,_⟩ | a
  ·rw[az (aai (V' z n))];exact I.jk x c a
  ·have b: @LT.lt Nat _ C c:=(G.empty x c (aaq a)).2;rw[az (aaJ (Nat.lt_trans F b))];exact I.aW.fresh (aar J (M' b))
 ·rw[Nv];have g:=M;unfold FK at g;rw[aaF] at g;have:N'.length=ix.length:=by simpa using g.1
  calc this.symm
end
theorem BS{M:Model}{A:Around}{E:Value->Shared->Prop}{scope:Scope}{g:Addr}{d:List (Str×Addr)}{qual:Str}{env:Env}{Q:Env->Shared->Prop}
  (f:∀a,a.Ns s.heap.objs.size (λ_=>none)->(∀b o,s.heap.get? b=some o->a.get? b=some o)->CellsOk a (s.heap.objs.size + 1) (cellsFrom (s.heap.objs.size + 1) scope.names [])->
   Q {scope:=scope,locals:=s.heap.objs.size,globals:=g,cells:=cellsFrom (s.heap.objs.size + 1) scope.names d,qual:=qual,func:=none,code:=env.code,frame:=env.frame,builtins:=env.builtins} {s with heap:=a}):
  wpAny M A (newFunctionEnv scope g d [] qual none .none (some env)) Q E s:=by
 simp only[newFunctionEnv,Option.isSome_some,if_true];refine F' (wpAny_alloc ?_);refine F' (wpAny_layCells _ (λa c cells=>by cases a:c==NameKind.cell<;>simp[a]) _ _ _ _ ?_);have d:=cellsFrom_ok scope.names (s.heap.push {cls:=.type "dict",data:=.dict #[]}) (s.heap.objs.size+1) [] (λ_ _ a=>(nomatch a),List.Pairwise.nil) (by rw[aay];exact L' _);rw[aay]at d;rw[show({s with heap:=s.heap.push {cls:=.type "dict",data:=.dict #[]}}:Shared).heap.objs.size=s.heap.objs.size+1 from aay ..];rw[List.forIn_nil];exact F' (P' (P' (f _ ((Heap.Ns.new s.heap (.type "dict")).keeps (pushCells_keeps _ _)) (λb o e=>pushCells_keeps _ _ b o (K' _ e)) d)))
def lM(ix:List (Option Nat))(J:It)(g:TG)(d:TT)(e:TE)(σ:St)(a:Hp)(Q:VK)(D:Addr):Prop:=
 ∃W:Nat->Nat->Hp->Prop,(∃m,W 0 m (upd a D (.lst [])))/\∀i m H,W i m H->
  (J.stop i H/\Q (.ref D) H)\/(J.go i H/\∃N:Hp->Prop,(∀b,N b->∃c,c < m/\W (i + 1) c b)/\∀x b,J.Pr i H x b->g x (vz ix σ) b λa f=>Ext (vz ix σ) a/\d a f λb c=>
   if b=true then e a c λy d=>∃a,d D=some (.lst a)/\a.length < sizeLine/\N (upd d D (.lst (a++[y]))) else N c)
def W4(ix:List (Option Nat))(b:TI)(g:TG)(c:TT)(d:TE):TE:=λσ H Q=>b σ H λJ a=>∀D,a D=none->lM ix J g c d σ a Q D
abbrev vA(X:Cx)(scope:Scope)(N':List Str)(F:Cx->Prop):Prop:=∀(C:Addr) (a:Shared) (H₂:Hp) (b:List Addr),F (Vf X scope C N' a H₂ b)
section
variable {X:Cx}{elt target iter:Expr}{ifs:List Expr}{scope:Scope}{pos:Pos}{N':List Str}{ix:List (Option Nat)}{wi:TI}{g:TG}{tt:TT}{te:TE}
theorem zk{a:Shared}{it:Addr}{l:List Addr}{R:Nat->Heap->Prop}{J:It}{QD:Addr->Hp->Prop}{RR:Value->Addr->Result->Shared->Prop}{E:Value->Shared->Prop}
  (Nx:X.calm=true) (hf:freeOk scope X.env.scope=true) (hk:scope.kind=.function) (hx:FK X.N N' ix scope=true)
  (hg:vA X scope N' λY=>PG Y target g) (ht:vA X scope N' λY=>Vd Y ifs tt) (he:vA X scope N' λY=>PE Y elt te)
  (I:Inv X pins σ H₂ a) (T:Turn X.prog X.w X.K target J l it R) (st:R 0 a.heap) (Mr:∀b∈l,qg X pins H₂ b)
  (hw:∀D,H₂ D=none->∃W:Nat->Nat->Hp->Prop,(∃m,W 0 m (upd H₂ D (.lst [])))/\∀i m H,W i m H->
   (J.stop i H/\QD D H)\/(J.go i H/\∃N:Hp->Prop,(∀d,N d->∃B,B < m/\W (i + 1) B d)/\∀x d,J.Pr i H x d->g x (vz ix σ) d λp C=>Ext (vz ix σ) p/\tt p C λb L=>
    if b=true then te p L λy C=>∃S,C D=some (.lst S)/\S.length < sizeLine/\N (upd C D (.lst (S++[y]))) else N L))
  (hRR:∀(D C:Addr) (s':Shared) (d:Hp) (m:Str->Option Value),a.heap.objs.size<=C->d C=none->C∉yQ X.stack->s'.heap.Ns C m->(∃o,s'.heap.get? C=some o/\∀v,o.data≠.cell v)->Inv X pins σ d s'->QD D d->RR (.ref D) C (.ok .next) s'):
  wpAny (model X.prog X.w) X.A (newList []) (λp j=>wpAny (model X.prog X.w) X.A (newFunctionEnv scope X.env.globals (lL X.env scope.names []) [] X.env.qual none .none (some X.env)) (λJ C=>
   codeAny (model X.prog X.w) X.A (.compStart (.ListComp elt [(target,iter,ifs,0)] scope pos) 0 (.ref it) p {J with scope:=relabel scope X.env}) (RR p J.locals) C) E j) E a:=by
 calc aaY (BS λk R8 Ny FL=>?_);dsimp only at R8 Ny FL ⊢;generalize p:a.heap.push {cls:=.type "list",dict:=none,data:=.seq ([]:List Value).toArray}=P2 at R8 Ny FL ⊢;have C:P2.objs.size=a.heap.objs.size+1:=by rw[<-p,aay]
 have J:a.heap.objs.size<P2.objs.size:=by rw[C];exact Nat.lt_succ_self _
 have U:a.heap.objs.size<=P2.objs.size:=by rw[C];exact aa2 _
 have Z:∀b o,a.heap.get? b=some o->k.get? b=some o:=λb o e=>Ny b o (p▸K' _ e);have N:k.get? a.heap.objs.size=some {cls:=.type "list",data:=.seq ([]:List Value).toArray 0}:=Ny _ _ (p▸Y' _ rfl);have C:∀b∈l,∃o,a.heap.get? b=some o:=λb c=>let ⟨o,e,_⟩:=T.obj _ _ st b c;(o,e)
 have p:a.heap.get? P2.objs.size=none:=Heap.get?_none_of_le U;have p:H₂ a.heap.objs.size=none:=I.aW.fresh (L' _);let(W,(m0,w0),turn):=hw a.heap.objs.size p;have fpD:∀b∈l,b≠a.heap.objs.size:=λb c=>let ⟨o,e⟩:=C b c;aai (R' e)
 have fpC:∀b∈l,b≠P2.objs.size:=λb c=>let ⟨o,e⟩:=C b c;aai (V' (R' e) U)
 let Y:=Vf X scope P2.objs.size N' a H₂ l
 have hcY:Y.calm=true:=Nx;have I0:Inv Y [] (vz ix σ) (upd H₂ a.heap.objs.size (.lst [])) {a with heap:=k}:=
  ab8 I hf hk hx Mr C (L' _) J FL (by simpa using R8) Z N _
 have Rk:P2.objs.size∉yQ X.stack:=λz=>by
  rcases List.mem_cons.mp (I.xD _ z) with e|e
  ·exact absurd I.lt (by rw[<-e];calc Nat.not_lt.mpr U)
  ·exact I.Rl U e
 have Bz:∀{d:Hp},(∀b∈l,d b=none)->∀b∈l,qg Y [] d b:=λhn b c=>by
  let(f0,f1,f2,f3,f4,f5):=Mr b c;refine(hn b c,fpC b c,I0.ok.Bs b c,.inl c,(I0.ok.Wq b c).2,λp C=>absurd (show p∈([]:List (Addr×Obj)) from C) nofun)
 have W6:R 0 k:=T.keep _ _ _ st λb _ o e=>Z b o e;have G:∀j:Shared,j={a with heap:=k}->
   codeAny (model X.prog X.w) X.A (.compLoop (.ListComp elt [(target,iter,ifs,0)] scope pos) 0 (.ref it) (.ref a.heap.objs.size) (compEnvC scope (Ve X.env scope.names P2.objs.size) P2.objs.size X.env))
    (RR (.ref a.heap.objs.size) P2.objs.size) j:=by
  rintro j rfl;calc xR (λn s'=>∃i d,Inv Y [] (vz ix σ) d s'/\R i s'.heap/\(∀b∈l,d b=none)/\W i n d) ?_ m0 (0,_,I0,W6,λb c=>by rw[az (fpD b c)];calc(Mr b c).1,w0);rintro n s3 ⟨i,L,I3,nC,Wv,w3⟩;rcases turn i n L w3 with⟨stop,qn⟩|⟨go,Nn,hNn,step⟩
  ·calc dy (T.done Y rfl rfl rfl hcY i [] s3 _ L _ I3 (Bz Wv) nC stop) λr s4 q=>?_;let(hr,M):=q;subst hr;let(m,hn,_):=M.loc;refine hRR _ _ s4 L m U M.free Rk hn ?_ ?_ qn
   ·let(o,k,p,j,hd,_):=hn;exact(o,j,λv z=>by rw[hd]at z;cases z)
   ·refine I.Pp (s':=s4) (ch:=l) M.os ?_ M.aW M.bare λb c=>?_
    ·exact M.base
    ·let(f0,f1,f2,f3,f4,f5):=Mr b c;exact(f3,f1,f4,f5)
  ·calc dy (T.item Y rfl rfl rfl hcY i [] s3 _ L _ I3 (Bz Wv) nC go) λr s4 q=>?_;let(u,hr,h4):=q;subst hr;calc dy h4 λ_ s5 q=>?_;let(x,r,v,z,C,k,j):=q;have p:=v.pinned (Bz j) (T.obj _ _ k);calc dy (hg _ _ _ _ _ s5 _ r x u _ p z (step x r C)) λ_ I q=>?_;let(F,p,r,j,u):=q;calc dy (ht _ _ _ _ _ I F p _ r u) λok s7 q=>?_;let(H7,I7,q7):=q;have t:∀{O:Shared} {P:Hp} {B:Nat},Inv Y ([]++qh l s5.heap) F P O->B<n->W (i+1) B P->∃m,m<n/\∃i d,Inv Y [] (vz ix σ) d O/\R i O.heap/\(∀b∈l,d b=none)/\W i m d:=λ{O P B} I8 hm w8=>by
    calc(B,hm,i+1,P,(I8.lG).less j.1.symm j.2,T.keep _ _ _ k λb c o e=>(I8.pin ((b),o) (aau _ (aau _ (kq c e)))).1,λb c=>?_,w8);let(o,e,d):=T.obj _ _ k b c;exact(I8.pin ((b),o) (aau _ (aau _ (kq c e)))).2.1
   cases ok with
   |false=>
    rw[if_neg S']at q7 ⊢;let(B,hm,w8):=hNn _ q7;calc t I7 hm w8
   |true=>
    rw[if_pos rfl] at q7 ⊢;calc dy (he _ _ _ _ _ s7 F H7 _ I7 q7) λy O q=>?_;let(b,P,I8,d,S,e,i,j):=q;have k:=(wk (X:=Y)) (pins:=[]++qh l s5.heap) O F P (.ref a.heap.objs.size) [b] (.ref a.heap.objs.size) [y] (λ_ c=>Nn c) I8 rfl (.cons d .nil)
     (_,S,b,rfl,rfl,e,i,j)
    exact dy k λ_ d (_,c,a,_,b)=>let ⟨B,hm,c⟩:=hNn _ b;t a hm c
 calc codeAny_compStart_list (G _ rfl) (T.self _ 0 _ _ _ W6 (G _ rfl))
theorem Inv.acd{b:Shared}{C:Addr}{h':Heap}(a:Inv X pins σ H₂ b)(I:Inv X pins σ H s)(d:b.heap.objs.size<=C)(f:H C=none)(g:Heap.SameBut C s.heap h'):Inv X pins σ H {s with heap:=h'}:=by
 refine I.turned (t':=s.toks) (λb o h e=>(g.2 b h).trans e) f (aaJ (V' a.lt d)) (.inr (aar a.sz d)) (λx c e z=>?_) λp b z=>?_
 ·let(v,q):=a.cell x c e;exact absurd (V' q.lt (by rw[z];calc d)) (aaP _)
 ·calc absurd (V' (R' (a.pin p b).1) (by rw[z];calc d)) (aaP _)
theorem df
  (l:PI X target iter wi) (n:vA X scope N' λY=>PG Y target g) (o:vA X scope N' λY=>Vd Y ifs tt) (a:vA X scope N' λY=>PE Y elt te)
  (p:X.calm=true:=by rfl) (f:freeOk scope X.env.scope=true:=by kernel_rfl) (i:scope.kind=.function:=by rfl) (b:FK X.N N' ix scope=true:=by kernel_rfl) (j:∀x,foldedSetIterable iter X.env x=pure x:=by intro _;rfl):PE X (.ListComp elt [(target,iter,ifs,0)] scope pos) (W4 ix wi g tt te):=by
 walk_at "xc";rw[eval_ListComp];have m:∀x∈scope.names,x.2=.free->∃c,X.env.cells.lookup x.1=some c:=λx b a=>I.ok.has x.1 ((freeOk.at f b).2.1 a);refine wpAny_comprehension_free (use:=none) rfl j (nJ m) i (λx b a=>(freeOk.at f b).2.2.1 a) (aaH (l pins s σ H _ I h) (λm j c=>aaH c (λl j d=>?_) λ_ _ e=>e) λ_ _ e=>e);let(c,j,l,J,m,e,k,T,r,t,u):=d;subst e;refine zk (RR:=λc C=>compPost (model X.prog X.w) X.A X.xe none (EP X pins σ Q) c C) (QD:=λD c=>Q (.ref D) c) p f i b n o a k T r t u ?_;intro D C x c m d e y j z l q;exact(m,j,λB v=>(.ref D,c,k.acd l d e v,rfl,q))
theorem gc{i:Nat}{y:Str}{d U:Pos}(hN:X.N.Nodup)(F:X.N[i]?=some y)(hy:Loc X.env.scope y)
  (hi:PI X target iter wi) (hg:vA X scope N' λY=>PG Y target g) (ht:vA X scope N' λY=>Vd Y ifs tt) (j:vA X scope N' λY=>PE Y elt te)
  (G:swapsWith (.ListComp elt [(target,iter,ifs,0)] scope pos) (some (.Name y d)) U.line X.env=pure true:=by rfl)
  (Nx:X.calm=true:=by rfl) (K:freeOk scope X.env.scope=true:=by kernel_rfl) (W:scope.kind=.function:=by rfl) (k:FK X.N N' ix scope=true:=by kernel_rfl) (hs:∀x,foldedSetIterable iter X.env x=pure x:=by intro _;rfl) (Fi:X.fn y=true\/X.env.scope.names.lookup y=some .local:=by grind):
  PS X (.Assign [.Name y d] (.ListComp elt [(target,iter,ifs,0)] scope pos) U) (Fm (W4 ix wi g tt te) (fE i)):=by
 walk_at "xd";rw[exec_Assign_Name_used _ _ _ _ G];refine F' (wpAny_standAt (F' ?_));show wpAny _ X.A (do let _ <-comprehension (.ListComp elt [(target,iter,ifs,0)] scope pos) scope X.env _ (newList []) false (eval iter X.env) (some (assign (.Name y d) X.env))) _ _ s;have vB:∀x ∈ scope.names,x.2=.free->∃c,X.env.cells.lookup x.1=some c:=λx k j=>I.ok.has x.1 ((freeOk.at K k).2.1 j);refine F' (aaH (wpAny_comprehension_free (use:=some (assign (.Name y d) X.env)) (Q:=λ_ a=>SP X pins D .next a) rfl hs (nJ vB) W (λx k j=>(freeOk.at K k).2.2.1 j)
  (aaH (hi pins s σ H _ I h) (λxv Z l=>aaH l (λitv s₂ n=>?_) λ_ _ e=>e) λ_ _ e=>e)) (λ_ a hq=>P' (P' hq)) λ_ _ e=>e)
 let(it,fp,tn,J,H2,e,f,T,Dk,f2,hw):=n;subst e;calc zk (RR:=λL C=>compPost (model X.prog X.w) X.A X.xe (some (assign (.Name y d) X.env)) (λ_ a=>SP X pins D .next a) L C) (QD:=λr t=>D.nx (σ.set i (some (.ref r))) t) Nx K W k hg ht j f T Dk f2 hw ?_;intro r C a t m u W2 Hn hn E I' q;let(o,E,M):=E;show wpAny _ X.A (assign (.Name y d) X.env (.ref r)) _ _ a;have B:C≠X.env.locals:=aaJ (V' f.lt u);have O:C∉X.fs:=f.Rl u;have P:Inv X (pins++[((C),o)]) σ t a:=I'.xE λp R=>(List.mem_append.mp R).elim (λz=>I'.pin p (aau _ z)) λz=>by
  have z':p=((C),o):=by simpa using z
  subst z';exact(E,W2,B,O,M)
 calc wpAny_assign_Name (j4 P hN F hy (v:=.ref r) rfl (λs3 I3=>?_) Fi);let(e3,n3,_):=I3.pin ((C),o) (aau _ (aau _ nofun));let(o',es,ep,mT,r'):=hn;rw[E]at mT;cases mT;have S:Inv X pins (σ.set i (some (.ref r))) t s3:=I3.lG;calc(m,(o,es,ep,e3,r'),λh' W7=>(_,t,?_,q));refine S.turned (t':=s3.toks) (λb o hb e=>(W7.2 b hb).trans e) n3 B (.inr (aar f.sz u)) (λx c e z=>?_) λp R z=>?_
 ·let(v,q):=f.cell x c e;exact absurd (V' q.lt (by rw[z];calc u)) (aaP _)
 ·calc absurd (V' (R' (f.pin p R).1) (by rw[z];calc u)) (aaP _)
end
def Vg(b:Nat->List V->Hp->Prop)(D:Addr)(i:Nat)(H:Hp):Prop:=∃a,H D=some (.lst a)/\a.length<=i+1/\b (i+1) a H
theorem bW{c:Nat->List V->Hp->Prop}{D:Addr}{i n:Nat}{a:List V}{y:V}(d:H D=some (.lst a))(b:a.length<=i)(e:i<n)(f:n<=sizeLine)(h:c (i+1) (a++[y]) (upd H D (.lst (a++[y])))):
  ∃b,H D=some (.lst b)/\b.length<sizeLine/\Vg c D i (upd H D (.lst (b++[y]))):=
 (a,d,(),a++[y],af,by rw[aat,List.length_singleton];lia,h)
theorem bq{ix:List (Option Nat)}{J:It}{n:Nat}{g:TG}{c:TT}{k:TE}{l:Hp}{Q:VK}{D:Addr}(f:Nat->List V->Hp->Prop)(a:n<=sizeLine)(t:f 0 [] (upd l D (.lst [])))
  (u:∀i d H,i<n->f i d H->J.go i H) (v:∀d H,f n d H->J.stop n H)
  (w:∀i d H,i < n->H D=some (.lst d)->d.length<=i->f i d H->∀x h,J.Pr i H x h->g x (vz ix σ) h λa q=>Ext (vz ix σ) a/\c a q λb o=>
   if b=true then k a o λy q=>∃j,q D=some (.lst j)/\j.length < sizeLine/\Vg f D i (upd q D (.lst (j++[y]))) else Vg f D i o)
  (z:∀d H,H D=some (.lst d)->d.length<=n->f n d H->Q (.ref D) H):
  lM ix J g c k σ l Q D:=by
 calc(λi m H=>m=n-i/\i<=n/\∃d,H D=some (.lst d)/\d.length<=i/\f i d H,(n,nofun,aap _,[],af,L' _,t),?_);rintro i m H ⟨rfl,a,d,r,s,p⟩;by_cases g:i<n
 ·exact .inr (u i d H g p,Vg f D i,λh (j,a,b,c)=>(n-(i+1),(),rfl,g,j,a,b,c),λx h y=>w i d H g r s p x h y)
 ·have e:i=n:=by lia
  subst e;calc .inl (v d H p,z d H r s p)
end
section
section
variable {X:Cx}
def IJ(i j:Int):Prop:=0<j/\j.natAbs.log2<9000
theorem IK:gU X (binaryOp .FloorDiv) (rI IJ λi j=>.int (i/j)):=opI λi j _ _ _ _ _ a q=>by
 have b:(0:Int)<j:=a.1;calc floordiv_int () (by rw[Int.fdiv_eq_ediv_of_nonneg i ()];calc q) (.inl (PyProof.noPylong_of_log2 a.2))
def uI(C:Int->Int->Prop)(g:Int->Int->V):R2:=λx y H Q=>match x,y with
 | .int i,.int j=>C i j/\Q (g i j) H
 |_,_=>False
def R9(g:Int->Int->V):R2:=λx y H Q=>match x,y with
 | .int i,.int j=>Q (g i j) H
 |_,_=>False
theorem opU{f:Value->Value->Sem Value}{C:Int->Int->Prop}{g:Int->Int->V}(h:gU X f (rI C g)):gU X f (uI C g):=by
 intro a s σ H x y v u Q I b c q
 cases x<;>cases y<;>first
  |calc(show False from q).elim
  |calc h a s σ H _ _ v u Q I b c (_,_,rfl,rfl,q.1,q.2)
theorem IL{f:Value->Value->Sem Value}{g:Int->Int->V}(h:gU X f (MY g)):gU X f (R9 g):=by
 intro a s σ H x y v u Q I b c q
 cases x<;>cases y<;>first
  |calc(show False from q).elim
  |calc h a s σ H _ _ v u Q I b c (_,_,rfl,rfl,q)
theorem fw:gU X (binaryOp .Sub) (R9 λi j=>.int (i-j)):=IL RC
theorem mY:gU X (binaryOp .Mult) (uI HX λi j=>.int (i*j)):=opU RD
theorem cK:gU X (binaryOp .Mod) (uI (λ_ j=>0<j) λi j=>.int (i%j)):=opU RE
theorem gR:gU X (binaryOp .FloorDiv) (uI IJ λi j=>.int (i/j)):=opU IK
theorem mZ:gU X (binaryOp .Pow) (uI M0 λi j=>.int (i^j.toNat)):=opU RF
theorem gX:gU X (compareOp .Lt) (R9 λi j=>.bl (decide (i<j))):=IL Wz
theorem xT:gU X (compareOp .LtE) (R9 λi j=>.bl (decide (i<=j))):=IL WA
theorem tJ:gU X (compareOp .Gt) (R9 λi j=>.bl (decide (j<i))):=IL WB
theorem Sa:gU X (compareOp .GtE) (R9 λi j=>.bl (decide (j<=i))):=IL WC
def gS(K:W.Frag)(H:Hp):Nat->V->V->Prop
 |0,_,_=>False
 |n+1,x,y=>(x=y/\kb x=true)\/∃a b xs c,x=.ref a/\y=.ref b/\((bP K H a xs/\bP K H b c)\/(aY K H a xs/\aY K H b c))/\xs.length=c.length/\∀(i:Nat) u v,xs[i]?=some u->c[i]?=some v->gS K H n u v
theorem in1_units(A:Around):A.in1.units=A.units+1:=rfl
theorem pC{pins:List (Addr×Obj)}{σ:St}{H:Hp}{s:Shared}(I:Inv X pins σ H s):∀(n:Nat) (A:Around) {x y:V}{u v:Value},gS X.K H n x y->A.units+n<cLine->RelV x u->RelV y v->SeqAt.EqAt A s u v true
 |0,_,_,_,_,_,h,_,_,_=>h.elim
 |n+1,A,x,y,u,v,h,o,c,d=>by
  rcases h with⟨e,f⟩|⟨a,b,J,L,j,l,m,o,M⟩
  ·subst e;have q:=Im (A:=A) (s:=s) c d f f;have g:Mq x x=true:=by cases x <;> first | rfl | calc absurd (show false=true from f) S' | simp[Mq]
   rw[g]at q;exact q
  ·subst j l
   cases c
   cases d;by_cases k:a=b
   ·subst k;exact SeqAt.EqAt.same _
   rcases m with⟨o,p⟩|⟨o,p⟩
   ·let(c,h,q,H):=I.tuple o;let(f,l,r,N):=I.tuple p;have O:=h.length;have P:=l.length;have t:c.toArray.size=f.toArray.size:=by simp;lia
    have d:=SeqAt.RcAt.tuples (A:=A) (e:=λ_=>true) (show s.heap.IsTuple a c.toArray from q) (show s.heap.IsTuple b f.toArray from r) () λj u v=>by
     have w:j<c.length:=by simpa using u
     have y:j<f.length:=by simpa using v
     let(z,m,B):=h.get (i:=j) (x:=J[j]'()) nofun;let(C,g,D):=l.get (i:=j) (x:=L[j]'()) nofun;have E:c.toArray[j]=z:=by
      have:=dH w;rw[this]at m;simpa using Option.some.inj m
     have F:f.toArray[j]=C:=by
      have:=dH y;rw[this]at g;simpa using Option.some.inj g
     rw[E,F];exact pC I n A.in1 (M j _ _ nofun nofun) (by rw[in1_units];lia) B D
    have G:SeqAt.RcAt A s (.ref a) (.ref b) true:=by
     have:((List.range (min c.toArray.size f.toArray.size)).all (λ_=>true)&&c.toArray.size==f.toArray.size)=true:=by
      rw[t];simp
     rw[this]at d;exact d
    exact SeqAt.EqAt.of_refs k G
   ·let(c,h,q,H):=I.list o;let(f,l,r,N):=I.list p;have O:=h.length;have P:=l.length;have t:c.toArray.size=f.toArray.size:=by simp;lia
    have d:=SeqAt.RcAt.lists (A:=A) (e:=λ_=>true) q.isList r.isList t () λj u v=>by
     have w:j<c.length:=by simpa using u
     have y:j<f.length:=by simpa using v
     let(z,m,B):=h.get (i:=j) (x:=J[j]'()) nofun;let(C,g,D):=l.get (i:=j) (x:=L[j]'()) nofun;have E:c.toArray[j]=z:=by
      have:=dH w;rw[this]at m;simpa using Option.some.inj m
     have F:f.toArray[j]=C:=by
      have:=dH y;rw[this]at g;simpa using Option.some.inj g
     rw[E,F];exact pC I n A.in1 (M j _ _ nofun nofun) (by rw[in1_units];lia) B D
    have G:SeqAt.RcAt A s (.ref a) (.ref b) true:=by
     have:((List.range c.toArray.size).all (λ_=>true))=true:=by simp
     rw[this]at d;exact d
    calc SeqAt.EqAt.of_refs k G
end
end
section
variable {pins:List (Addr×Obj)}{σ:St}
section
variable {X:Cx}
theorem IM{H:Hp}{s:Shared}(I:Inv X pins σ H s){A:Around}{n:Nat}{a b:Addr}(h:gS X.K H (n+1) (.ref a) (.ref b))(f:A.units+n+1<cLine):
  SeqAt.RcAt A s (.ref a) (.ref b) true/\SeqAt.RcNeAt A s (.ref a) (.ref b) false:=by
 rcases h with⟨e,f⟩|⟨g,k,J,L,c,d,j,l,M⟩
 ·exact absurd (show false=true from f) S'
 ·cases c
  cases d;rcases j with⟨g,h⟩|⟨g,h⟩
  ·let(d,k,l,H):=I.tuple g;let(f,m,o,N):=I.tuple h;have O:=k.length;have P:=m.length;have u:d.toArray.size=f.toArray.size:=by simp;lia
   have c:∀j (g:j<d.toArray.size) (h:j<f.toArray.size),SeqAt.EqAt A.in1 s d.toArray[j] f.toArray[j] ((λ_=>true) j):=λj v w=>by
    have y:j<d.length:=by simpa using v
    have z:j<f.length:=by simpa using w
    let(B,p,C):=k.get (i:=j) (x:=J[j]'()) nofun;let(D,q,E):=m.get (i:=j) (x:=L[j]'()) nofun;have F:d.toArray[j]=B:=by
     have:=dH y;rw[this]at p;simpa using Option.some.inj p
    have G:f.toArray[j]=D:=by
     have:=dH z;rw[this]at q;simpa using Option.some.inj q
    rw[F,G];exact pC I n A.in1 (M j _ _ nofun nofun) (by rw[in1_units];lia) C E
   have e:((List.range (min d.toArray.size f.toArray.size)).all (λ_=>true)&&d.toArray.size==f.toArray.size)=true:=by
    rw[u];simp
   have r:=SeqAt.RcAt.tuples (A:=A) (show s.heap.IsTuple a d.toArray from l) (show s.heap.IsTuple b f.toArray from o) () c;have t:=SeqAt.RcNeAt.tuples (A:=A) (show s.heap.IsTuple a d.toArray from l) (show s.heap.IsTuple b f.toArray from o) () c;rw[e]at r t;exact(r,t)
  ·let(d,k,l,H):=I.list g;let(f,m,o,N):=I.list h;have O:=k.length;have P:=m.length;have u:d.toArray.size=f.toArray.size:=by simp;lia
   have c:∀j (g:j<d.toArray.size) (h:j<f.toArray.size),SeqAt.EqAt A.in1 s d.toArray[j] f.toArray[j] ((λ_=>true) j):=λj v w=>by
    have y:j<d.length:=by simpa using v
    have z:j<f.length:=by simpa using w
    let(B,p,C):=k.get (i:=j) (x:=J[j]'()) nofun;let(D,q,E):=m.get (i:=j) (x:=L[j]'()) nofun;have F:d.toArray[j]=B:=by
     have:=dH y;rw[this]at p;simpa using Option.some.inj p
    have G:f.toArray[j]=D:=by
     have:=dH z;rw[this]at q;simpa using Option.some.inj q
    rw[F,G];exact pC I n A.in1 (M j _ _ nofun nofun) (by rw[in1_units];lia) C E
   have e:(List.range d.toArray.size).all (λ_=>true)=true:=by simp
   have r:=SeqAt.RcAt.lists (A:=A) l.isList o.isList u () c;have t:=SeqAt.RcNeAt.lists (A:=A) l.isList o.isList u () c;rw[e]at r t;calc(r,t)
def tK(K:W.Frag)(H:Hp)(a b:Addr):Prop:=∃xs c,xs.length≠c.length/\((aY K H a xs/\aY K H b c)\/(bP K H a xs/\bP K H b c/\(xs=[]\/c=[])))
theorem DJ{H:Hp}{s:Shared}(I:Inv X pins σ H s){A:Around}{a b:Addr}(h:tK X.K H a b)(k:A.units<cLine):
  SeqAt.RcAt A s (.ref a) (.ref b) false/\SeqAt.RcNeAt A s (.ref a) (.ref b) true:=by
 obtain⟨j,n,r,⟨l,m⟩|⟨l,m,q⟩⟩:=h
 ·let(d,h,g,r):=I.list l;let(f,n,i,t):=I.list m;have o:=h.length;have p:=n.length;have j:(d.toArray.size != f.toArray.size)=true:=by simp;lia
  exact(SeqAt.RcAt.lists_lengths g.isList i.isList j k,SeqAt.RcNeAt.lists_lengths g.isList i.isList j k)
 ·let(d,h,g,r):=I.tuple l;let(f,n,i,t):=I.tuple m;have o:=h.length;have p:=n.length;have c:∀j (l:j<d.toArray.size) (m:j<f.toArray.size),SeqAt.EqAt A.in1 s d.toArray[j] f.toArray[j] ((λ_=>true) j):=λj h l=>by
   exfalso;have m:j<d.length:=by simpa using h
   have h:j<f.length:=by simpa using l
   rcases q with e|e
   ·subst e;simp at o;lia
   ·subst e;simp at p;lia
  have e:((List.range (min d.toArray.size f.toArray.size)).all (λ_=>true)&&d.toArray.size==f.toArray.size)=false:=by
   have:d.toArray.size≠f.toArray.size:=by simp;lia
   rw[Bool.and_eq_false_iff];exact .inr (beq_eq_false_iff_ne.mpr this)
  have h:=SeqAt.RcAt.tuples (A:=A) (show s.heap.IsTuple a d.toArray from g) (show s.heap.IsTuple b f.toArray from i) k c;have j:=SeqAt.RcNeAt.tuples (A:=A) (show s.heap.IsTuple a d.toArray from g) (show s.heap.IsTuple b f.toArray from i) k c;rw[e]at h j;calc(h,j)
def Sd(K:W.Frag):R2:=λx y H Q=>match x,y with
 | .ref a,.ref b=>(gS K H 20 (.ref a) (.ref b)/\Q (.bl true) H)\/(tK K H a b/\Q (.bl false) H)
 |x,y=>M1 x y=true/\Q (.bl (decide (x=y))) H
def Vh(K:W.Frag):R2:=λx y H Q=>match x,y with
 | .ref a,.ref b=>(gS K H 20 (.ref a) (.ref b)/\Q (.bl false) H)\/(tK K H a b/\Q (.bl true) H)
 |x,y=>M1 x y=true/\Q (.bl (!decide (x=y))) H
theorem IP(c:X.A.units+64<cLine):gU X (compareOp .Eq) (Sd X.K):=by
  intro pins s σ H x y v u Q I a b h
  cases x<;>cases y<;>first
    |calc Wx pins s σ H _ _ v u Q I a b h
    | (cases a;cases b
       rcases h with⟨a,q⟩|⟨a,q⟩
       · exact(IM I (A:=X.A) a ()).1 X.prog X.w X.xe _ (.bl true,H,I,rfl,q)
       · calc(DJ I (A:=X.A) a ()).1 X.prog X.w X.xe _ (.bl false,H,I,rfl,q))
theorem Se(c:X.A.units+64<cLine):gU X (compareOp .NotEq) (Vh X.K):=by
  intro pins s σ H x y v u Q I a b h
  cases x<;>cases y<;>first
    |calc Wy pins s σ H _ _ v u Q I a b h
    | (cases a;cases b
       rcases h with⟨a,q⟩|⟨a,q⟩
       · exact(IM I (A:=X.A) a ()).2 X.prog X.w X.xe _ (.bl false,H,I,rfl,q)
       · calc(DJ I (A:=X.A) a ()).2 X.prog X.w X.xe _ (.bl true,H,I,rfl,q))
def Xa(g:Bool->Bool):R2:=λx y H Q=>match x,y with
 | .bl c,.bl d=>Q (.bl (g (c==d))) H
 |x,.bO=>Q (.bl (g (decide (x=.bO)))) H
 |_,_=>False
theorem BU:gU X (compareOp .Is) (Xa id):=by
 intro pins s σ H x y v u Q I a b h
 cases x<;>cases y<;>first
  |calc(show False from h).elim
  |calc RG pins s σ H _ _ v u Q I a b (rfl,h)
  |(cases a;cases b;calc is_bool (.bl _,H,I,rfl,h))
theorem m7:gU X (compareOp .IsNot) (Xa not):=by
 intro pins s σ H x y v u Q I a b h
 cases x<;>cases y<;>first
  |calc(show False from h).elim
  |calc M3 pins s σ H _ _ v u Q I a b (rfl,h)
  |(cases a;cases b;calc isnot_bool (.bl _,H,I,rfl,h))
def uIn(K:W.Frag)(a:Bool):R2:=λx y H Q=>match y with
 | .ref p=>∃xs,(aY K H p xs\/bP K H p xs)/\kb x=true/\xs.all kb=true/\Q (.bl (if a then !Dz x xs else Dz x xs)) H
 |_=>False
theorem IQ:gU X (compareOp .In) (uIn X.K false):=by
 intro pins s σ H x y v u Q I a b h
 cases y<;>first
  |calc(show False from h).elim
  |(let(c,d,e,f,g):=h;calc Fz pins s σ H _ _ v u Q I a b (_,c,rfl,d,e,f,g))
def Sf(K:W.Frag)(a:TE):TI:=λσ H R=>a σ H λx b=>match x with
 | .ref a=>((∃xs,aY K b a xs)/\R (v9 K a) b)\/((∃xs,bP K b a xs)/\R (Wu K a) b)
 |_=>False
theorem bZ{n l:Expr}{i:TE}(r:PE X l i):PI X n l (Sf X.K i):=by
  calc⟨?_⟩;intro pins s σ H R I h;calc dy (r pins s σ H _ I h) λv c t=>?_;let(x,j,d,u,k):=t
  cases x<;>first
    |calc(show False from k).elim
    | (rename_i a;cases u
       rcases k with⟨⟨w,f⟩,q⟩|⟨⟨w,f⟩,q⟩
       · let(m,y,p,z):=d.list f;calc wpAny_pyIter_list p.isList ?_;calc(c.heap.objs.size,[c.heap.objs.size],_,_,j,rfl,d.kept (t':=c.toks) λb o e=>K' _ e,Fo a _,(_,Y' _ rfl,rfl,rfl),λb g=>?_,q);have e:b=c.heap.objs.size:=by simpa using g
         subst e;exact d.HR (L' _) (d.aW.fresh (L' _))
       · let(m,y,p,z):=d.tuple f;calc aaU (show c.heap.IsTuple a m.toArray from p) ?_;calc(c.heap.objs.size,[c.heap.objs.size],_,_,j,rfl,d.kept (t':=c.toks) λb o e=>K' _ e,Bx a _,(_,Y' _ rfl,rfl,rfl),λb g=>?_,q);have e:b=c.heap.objs.size:=by simpa using g
         subst e;calc d.HR (L' _) (d.aW.fresh (L' _)))
end
structure Def(P:Program)(w:World)(K:W.Frag)(mg:Str->Option Value)(base:Heap)(x:Str)(k:Nat)(ps:List Str)(sp:Sp):Prop where
 ex:∃f fd,ku P w K mg base FJ k f fd ps sp/\mg x=some (.ref f)/\W.keepIn K (.ref f)=true/\Binds K fd ps []
structure cE(K:W.Frag)(mg:Str->Option Value)(x qual:Str)(st:Stmt)(ps:List Str):Prop where
 ex:∃f fd,IE K x qual st f fd/\mg x=some (.ref f)/\Binds K fd ps []
section
variable {P:Program}{w:World}{K:W.Frag}{mg:Str->Option Value}{base:Heap}
theorem cE.ok{x qual:Str}{a:Stmt}{N b:List Str}{k:Nat}{sp:Sp}(T:cE K mg x qual a b)(S:aD N b (ay a))(c:∀vs H Q E,sp vs H Q E->vs.length=b.length)
  (e:∀(f:Addr) (d:Value) (A:Around) (outer:List Env) (s:Shared) (H:Hp) (vs:List V) (Q:VK) (E:XK),eR k (A.deeper (envOfC qual (ay a) s.heap.objs.size f d))->sp vs H Q E->
   ∃t,vp (j7 FJ P w K mg base N qual (ay a) f d A outer s H E).HL (cP a) t/\t {nx:=λ_ a=>Q .bO a,rt:=Q} (start N vs) H):Def P w K mg base x (k + 1) b sp:=by
 let(f,a,F,b,d):=T.ex;calc(f,a,F.ok S c (e f),b,F.kp,d)
end
theorem Xb{X:Cx}{k j:Nat}{b:List Str}{sp:Sp}{x:Str}{p pos:Pos}{e:Expr}{a:List Expr}{t:TA}(D:Def X.prog X.w X.K X.mg X.base x k b sp)(c:eR j X.A)(d:PA X (e::a) t)(g:Gl X x:=by rfl)(b:k<=j:=by decide)
  (h:(x==("__debug__":Str))=false:=by decide) (i:starEach (e::a) X.env=((false),eval e X.env)::starEach a X.env:=by rfl) (j:(backTo pos (starEach a X.env)).any (·.1)=false:=by rfl):
  PE X (.Call (.Name x p) (e::a) [] pos) (tj sp [] E0 t):=by
 let(f,l,F,a,e,k):=D.ex;calc Ds F (c.mono b) g a e k .nil DG d h i j
end
section
variable {H:Hp}
section
variable {X:Cx}
def Sg(K:W.Frag):R2:=λx y H Q=>match x,y with
 | .str z,.int i=>∃c,z.length<=sizeLine/\jc z.cps.toList i=some c/\Q (.str ⟨#[c]⟩) H
 | .ref p,.int i=>∃xs v,(aY K H p xs\/bP K H p xs)/\jc xs i=some v/\Q v H
 | .ref p,.str k=>∃v,lu H p (.str k) (some v)/\Q v H
 |_,_=>False
theorem acf(c:X.A.units+64<cLine):WN X (Sg X.K):=by
  intro a b d s σ H x y v u Q I i j h k
  cases x<;>cases y<;>first
    |calc(show False from h).elim
    |(let(c,f,l,e):=h;calc RU a b d s σ H _ _ v u Q I i j (_,_,c,rfl,rfl,f,l,e) k)
    | (obtain⟨c,m,f | f,l,e⟩:=h
       · exact Nf a b d s σ H _ _ v u Q I i j (_,c,_,m,rfl,rfl,f,l,e) k
       · calc RT a b d s σ H _ _ v u Q I i j (_,c,_,m,rfl,rfl,f,l,e) k)
    | (let(m,g,e):=h
       cases i;calc tail_any (ze I g) PySem.F.slot_dict_getitem.lookup (FC () I g j λc d a b=>(m,H,a,b,e)) k)
end
inductive DV where
 |bO|bl (b:Bool)|int (i:Int)|str (x:Str)|tup (ds:List DV)|lst (ds:List DV)|dict
inductive HD(H:Hp):Nat->V->DV->Prop
 |bO {n}:HD H n .bO .bO
 |bl {n} (b:Bool):HD H n (.bl b) (.bl b)
 |int {n} (i:Int):HD H n (.int i) (.int i)
 |str {n} (x:Str):HD H n (.str x) (.str x)
 |tup {n a xs ds}:H a=some (.tup xs)->xs.length=ds.length->(∀(i:Nat) u e,xs[i]?=some u->ds[i]?=some e->HD H n u e)->HD H (n+1) (.ref a) (.tup ds)
 |lst {n a xs ds}:H a=some (.lst xs)->xs.length=ds.length->(∀(i:Nat) u e,xs[i]?=some u->ds[i]?=some e->HD H n u e)->HD H (n+1) (.ref a) (.lst ds)
 |dict {n a bt}:H a=some (.dK bt)->HD H n (.ref a) .dict
theorem HD.same{H a:Hp}(s:au H a){n:Nat}{x:V}{d:DV}(h:HD H n x d):HD a n x d:=by
 induction h with
 |bO=>calc .bO
 |bl b=>calc .bl b
 |int i=>calc .int i
 |str x=>calc .str x
 |tup a b c d=>calc .tup (s _ _ a) b d
 |lst a b c d=>calc .lst (s _ _ a) b d
 |dict a=>calc .dict (s _ _ a)
theorem HD.mono{H:Hp}{n:Nat}{x:V}{d:DV}(h:HD H n x d):∀{m:Nat},n<=m->HD H m x d:=by
 induction h with
 |bO=>intro m _;calc .bO
 |bl b=>intro m _;calc .bl b
 |int i=>intro m _;calc .int i
 |str x=>intro m _;calc .str x
 |tup a b c f=>
  intro m g;obtain⟨k,rfl⟩:∃k,m=k+1:=(m-1,())
  calc .tup a b λi u e p q=>f i u e p q ()
 |lst a b c f=>
  intro m g;obtain⟨k,rfl⟩:∃k,m=k+1:=(m-1,())
  calc .lst a b λi u e p q=>f i u e p q ()
 |dict a=>intro m _;calc .dict a
inductive HT(H:Hp):Nat->V->DV->Prop
 |bO {n}:HT H n .bO .bO
 |bl {n} (b:Bool):HT H n (.bl b) (.bl b)
 |int {n} (i:Int):HT H n (.int i) (.int i)
 |str {n} (x:Str):HT H n (.str x) (.str x)
 |tup {n a xs ds}:H a=some (.tup xs)->xs.length=ds.length->(∀(i:Nat) u e,xs[i]?=some u->ds[i]?=some e->HT H n u e)->HT H (n+1) (.ref a) (.tup ds)
theorem HT.hd{H:Hp}{n:Nat}{x:V}{d:DV}(h:HT H n x d):HD H n x d:=by
 induction h with
 |bO=>calc .bO
 |bl b=>calc .bl b
 |int i=>calc .int i
 |str x=>calc .str x
 |tup a b c d=>calc .tup a b d
def ck(H a:Hp):Prop:=∀b xs,H b=some (.tup xs)->a b=some (.tup xs)
theorem au.aQ{a:Hp}(h:au H a):ck H a:=λb a e=>h b _ e
theorem ck.refl(H:Hp):ck H H:=λ_ _ h=>h
theorem ck.trans{c d:Hp}(a:ck H c)(b:ck c d):ck H d:=λc o h=>b c o (a c o h)
theorem ck.upd{a:Hp}(h:ck H a){p:Addr}{o:HO}(d:∀xs,a p≠some (.tup xs)):ck H (upd a p o):=λb xs e=>by
 have c:=h b xs e;have:b≠p:=λz=>by subst z;exact d xs c
 rw[az this];calc c
theorem HT.aL{H a:Hp}(s:ck H a){n:Nat}{x:V}{d:DV}(h:HT H n x d):HT a n x d:=by
 induction h with
 |bO=>calc .bO
 |bl b=>calc .bl b
 |int i=>calc .int i
 |str x=>calc .str x
 |tup a b c d=>calc .tup (s _ _ a) b d
theorem au.new{p:Addr}(o:HO)(a:H p=none):au H (upd H p o):=λb u e=>by rw[az (av e a)];calc e
end
section
section
variable {X:Cx}
def Sh(K:W.Frag):List V->Hp->VK->Prop:=λxs H Q=>match xs with
 | [x]=>∃n,HZ K x H n/\Q (.int (n:Nat)) H
 |_=>False
theorem aO:dN X (.builtin "len") (Sh X.K):=by
 intro a s σ H b c Q I r h
 match b,r,h with
 | [x],r,h=>
  let(n,b,d):=h;calc Ia a s σ H _ c Q I r (x,n,rfl,b,d)
def uII(g:Int->Int->Int):List V->Hp->VK->Prop:=λxs H Q=>match xs with
 | [.int i,.int j]=>Q (.int (g i j)) H
 |_=>False
theorem wz(b:X.calm=true):dN X (.builtin "max") (uII λi j=>if j > i then j else i):=by
 intro a s σ H c d Q I r h
 match c,r,h with
 | [.int i,.int j],r,h=>calc Fq b a s σ H _ d Q I r (i,j,rfl,h)
theorem FN(b:X.calm=true):dN X (.builtin "min") (uII λi j=>if j<i then j else i):=by
 intro a s σ H c d Q I r h
 match c,r,h with
 | [.int i,.int j],r,h=>calc Fs b a s σ H _ d Q I r (i,j,rfl,h)
def xU(K:W.Frag):List V->Hp->VK->Prop:=λxs H Q=>match xs with
 | [.ref p]=>(∃a,aY K H p a/\∀l,H l=none->Q (.ref l) (upd H l (.tup a)))\/(∃a,bP K H p a/\Q (.ref p) H)
 |_=>False
theorem bX:dN X (.type "tuple") (xU X.K):=by
 intro a s σ H b e Q I r h
 match b,r,h with
 | [.ref p],r,h=>
  rcases h with⟨b,c,d⟩|⟨b,c,d⟩
  ·exact nH a s σ H _ e Q I r (p,b,rfl,.inl (c,d))
  ·calc nH a s σ H _ e Q I r (p,b,rfl,.inr (c,d))
def IS(K:W.Frag):List V->Hp->VK->Prop:=λxs H Q=>match xs with
 | [.ref p]=>∃a,(aY K H p a\/bP K H p a)/\∀l,H l=none->Q (.ref l) (upd H l (.lst a))
 |_=>False
theorem cQ:dN X (.type "list") (IS X.K):=by
 intro a s σ H b c Q I r h
 match b,r,h with
 | [.ref p],r,h=>
  let(b,d,e):=h;calc xN a s σ H _ c Q I r (p,b,rfl,d,e)
def Px:V->V->V->Hp->(Hp->Prop)->Prop:=λo i v H Q=>match o,i with
 | .ref p,.int k=>∃xs j,H p=some (.lst xs)/\BM xs.length k=some j/\Q (upd H p (.lst (xs.set j v)))
 |_,_=>False
theorem eN:Ru X Px:=by
 intro a s σ H o i v b c u Q I d e f h
 cases o<;>cases i<;>first
  |calc(show False from h).elim
  |(let(g,j,i,k,l):=h;calc set_list a s σ H _ _ v b c u Q I d e f (_,g,_,j,rfl,rfl,i,k,l))
end
theorem Xc{CX P w K mg base N qual scope f cd A outer s H E}:(j7 CX P w K mg base N qual scope f cd A outer s H E).HL.K=K:=rfl
theorem Py{X:Cx}:X.HL.K=X.K:=rfl
theorem IT{CX P w K mg base N qual scope f cd A outer s H E}:(j7 CX P w K mg base N qual scope f cd A outer s H E).K=K:=rfl
theorem Pz{X:Cx}{scope C N' a b fp}:(Vf X scope C N' a b fp).K=X.K:=rfl
theorem cy:2<=sizeLine:=by decide
end
section
variable {g:Int->Int->V}
section
variable {K:W.Frag}{H:Hp}{Q:VK}{i j:Int}{a b:Addr}{x y:V}{s t:Str}
theorem PB{C:Int->Int->Prop}:uI C g (.int i) (.int j) H Q=(C i j/\Q (g i j) H):=rfl
theorem IU:R9 g (.int i) (.int j) H Q=Q (g i j) H:=rfl
theorem IV:decide (V.int i=V.int j)=decide (i=j):=by simp
theorem IW:decide (V.str s=V.str t)=decide (s=t):=by simp
theorem xV:Sd K (.int i) (.int j) H Q=Q (.bl (decide (i=j))) H:=by
 show(true=true/\Q (.bl (decide (V.int i=V.int j))) H)=_;rw[IV];simp
theorem xW:Sd K (.str s) (.str t) H Q=Q (.bl (decide (s=t))) H:=by
 show(true=true/\Q (.bl (decide (V.str s=V.str t))) H)=_;rw[IW];simp
theorem xX:Vh K (.int i) (.int j) H Q=Q (.bl (!decide (i=j))) H:=by
 show(true=true/\Q (.bl (!decide (V.int i=V.int j))) H)=_;rw[IV];simp
theorem xY:Vh K (.str s) (.str t) H Q=Q (.bl (!decide (s=t))) H:=by
 show(true=true/\Q (.bl (!decide (V.str s=V.str t))) H)=_;rw[IW];simp
theorem IX:Sd K (.ref a) (.ref b) H Q=((gS K H 20 (.ref a) (.ref b)/\Q (.bl true) H)\/(tK K H a b/\Q (.bl false) H)):=rfl
theorem IY:Vh K (.ref a) (.ref b) H Q=((gS K H 20 (.ref a) (.ref b)/\Q (.bl false) H)\/(tK K H a b/\Q (.bl true) H)):=rfl
theorem IZ{g:Bool->Bool}{c d:Bool}:Xa g (.bl c) (.bl d) H Q=Q (.bl (g (c==d))) H:=rfl
theorem PD{b:Bool}:uIn K b x (.ref a) H Q=∃xs,(aY K H a xs\/bP K H a xs)/\kb x=true/\xs.all kb=true/\Q (.bl (if b then !Dz x xs else Dz x xs)) H:=rfl
theorem Ja:Sg K (.ref a) (.int i) H Q=∃xs v,(aY K H a xs\/bP K H a xs)/\jc xs i=some v/\Q v H:=rfl
theorem Jb:Sg K (.ref a) (.str s) H Q=∃v,lu H a (.str s) (some v)/\Q v H:=rfl
theorem Jc:Sg K (.str s) (.int i) H Q=∃c,s.length<=sizeLine/\jc s.cps.toList i=some c/\Q (.str ⟨#[c]⟩) H:=rfl
theorem Jd:Sh K [x] H Q=∃n,HZ K x H n/\Q (.int (n:Nat)) H:=rfl
theorem PF{g:Int->Int->Int}:uII g [.int i,.int j] H Q=Q (.int (g i j)) H:=rfl
theorem pD:xU K [.ref a] H Q=((∃b,aY K H a b/\∀l,H l=none->Q (.ref l) (upd H l (.tup b)))\/(∃b,bP K H a b/\Q (.ref a) H)):=rfl
theorem DK:IS K [.ref a] H Q=∃b,(aY K H a b\/bP K H a b)/\∀l,H l=none->Q (.ref l) (upd H l (.lst b)):=rfl
theorem zp{R:Hp->Prop}:Px (.ref a) (.int i) x H R=∃xs j,H a=some (.lst xs)/\BM xs.length i=some j/\R (upd H a (.lst (xs.set j x))):=rfl
theorem wA{α:Type}{o:Option α}:(some o).join=o:=rfl
end
end
section
variable {r:List V->Hp->VK->Prop}
def ee:Expr->Bool
 | .Starred ..=>false
 |_=>true
theorem eO{e:Expr}{a:List Expr}{env:Env}(h:ee e=true):starEach (e::a) env=((false),eval e env)::starEach a env:=by
 cases e<;>first|rfl|calc absurd h S'
theorem gf{pos:Pos}{env:Env}:∀{a:List Expr},a.all ee=true->(backTo pos (starEach a env)).any (·.1)=false
 | [],_=>rfl
 |e::a,h=>by
  rw[List.all_cons,aaF]at h;rw[eO h.1];show(false||(backTo pos (starEach a env)).any (·.1))=false;rw[gf h.2];rfl
def BV:Expr->Bool
 | .ListComp ..=>false
 | .SetComp ..=>false
 | .DictComp ..=>false
 |_=>true
theorem gO{e:Expr}{t:Option Expr}{l:Nat}{env:Env}(h:BV e=true):swapsWith e t l env=pure false:=by
 cases e<;>first|rfl|calc absurd h S'
section
variable {X:Cx}{e:Expr}{es:List Expr}{te:TE}{t:TA}{pos p:Pos}{x:Str}
theorem ag(a:PE X e te)(b:PA X es t)(h:ee e=true:=by rfl):PA X (e::es) (y8 te t):=M7 a b (eO h)
theorem aM{k j:Nat}{a:List Str}{sp:Sp}(D:Def X.prog X.w X.K X.mg X.base x k a sp)(b:eR j X.A)(c:PA X (e::es) t)(d:Gl X x:=by rfl)(a:k<=j:=by decide)
  (f:(x==("__debug__":Str))=false:=by decide) (g:ee e=true:=by rfl) (h:es.all ee=true:=by rfl):
  PE X (.Call (.Name x p) (e::es) [] pos) (tj sp [] E0 t):=Xb D b c d a f (eO g) (gf h)
theorem bc{a:String}(b:dN X (.builtin a) r)(c:Gl X x)(d:X.mg x=none)(f:bootBuiltins x=some (.builtin a))(g:PA X (e::es) t)(h:x≠"__name__":=by decide)(a:(x==("__debug__":Str))=false:=by decide)
  (i:ee e=true:=by rfl) (j:es.all ee=true:=by rfl):PE X (.Call (.Name x p) (e::es) [] pos) (Vb r t):=Ii b c d f g h a (eO i) (gf j)
theorem dA{T:String}(a:dN X (.type T) r)(b:Gl X x)(c:X.mg x=none)(d:bootBuiltins x=some (.type T))(f:PA X (e::es) t)(g:x≠"__name__":=by decide)(h:(x==("__debug__":Str))=false:=by decide)
  (i:ee e=true:=by rfl) (j:es.all ee=true:=by rfl):PE X (.Call (.Name x p) (e::es) [] pos) (Vb r t):=Fy a b c d f g h (eO i) (gf j)
theorem bf{i:Nat}{a:Pos}(b:X.N.Nodup)(c:X.N[i]?=some x)(d:Loc X.env.scope x)(f:PE X e te)(h:BV e=true:=by rfl)(g:X.fn x=true\/X.env.scope.names.lookup x=some .local:=by grind):
  PS X (.Assign [.Name x a] e pos) (Fm te (fE i)):=HN b c d f (gO h) g
theorem bL(a:PE X e te)(h:BV e=true:=by rfl):PS X (.Expr e pos) (y0 te):=MX a (gO h)
end
end
section
def xZ:Expr->Bool
 | .Slice ..=>false
 |_=>true
theorem Je{b:Expr}(h:xZ b=true):Dx b:=λo i=>by
 cases b<;>first|rfl|calc absurd h S'
theorem ao{X:Cx}{a b:Expr}{c d:TE}{pos:Pos}(e:X.A.units+64<cLine)(f:PE X a c)(g:PE X b d)(h:xZ b=true:=by rfl):PE X (.Subscript a b pos) (HW (Sg X.K) c d):=WQ (acf e) f g (Je h)
end
section
def tL:List Value:=[.type "ValueError",.type "Exception",.type "BaseException",.type "object"]
section
variable {prog:Program}{w:World}{A:Around}{h:Heap}{g:Array GenState}{d:Drawn}{t:Nat}{os:OsState}
variable {nm q:Str}{C B N:Addr}{bs:List Value}{sn:List Str}{sub:List Value}{ab:Bool}{col:Option Bool}{dd:Option Addr}{k0 k1 k2 k3 k5:Option Value}
theorem BW{M:Model}{E:Value->Shared->Prop}{a:List Value}{Q:Unit->Shared->Prop}(b:h.get? C=some (excClassObj nm q C N bs (.ref B::tL) true sn sub ab col dd k0 k1 k2 k3 k5 "ValueError.__new__"))
  (c:Q ⟨⟩ (h,g,d,t,os)):wpAny M A (checkBuiltinCall "ValueError.__new__" (.ref C::a,[])) Q E (h,g,d,t,os):=by
 have a:=zA1;have e:(Value.ref C::.ref B::tL).contains (.type "ValueError")=true:=rfl;have f:=a.noStar;simp only[checkBuiltinCall,a.newKind,a.newSplit,a.newRow]
 repeat (first|calc aaC b ?_|(calc aaZ b ?_;rw[e])|calc wpAny_staticBase_exc b ?_|calc wpAny_madeBy_exc b ?_|simp only[bne_self_eq_false,Bool.false_eq_true,if_false]|wp_step)
 calc c
theorem FO{R:Result->Shared->Prop}{a:List Value}(b:h.get? C=some (excClassObj nm q C N bs (.ref B::tL) true sn sub ab col dd k0 k1 k2 k3 k5 "ValueError.__new__"))
  (i:R (.ok (.ret (.ref (h.objs.size + 1)))) ((h.push {cls:=.type "tuple",data:=.seq a.toArray}).push
   {cls:=.ref C,data:=.fields #[.ref h.objs.size,.none,.none,.none,.bool false,.none]},g,d,t,os)) (c:a.length<=sizeLine):
  codeAny (model prog w) A (.builtin "ValueError.__new__" (.ref C::a,[])) R (h,g,d,t,os):=by
 have a:=zA1;have c:=a.ends;have j:(Value.ref C::.ref B::tL).contains (.type "ValueError")=true:=rfl;have c:(Value.ref C::.ref B::tL).contains (.type "AttributeError")=false:=rfl;have e:(Value.ref C::.ref B::tL).contains (.type "NameError")=false:=rfl;refine codeAny_builtinAt a.entry ?_;unfold Builtin.«BaseException.__new__»;refine PySem.wpAt_bind ?_;show PySem.wpAt _ _ _ (stack >>= _) _ _ _;refine PySem.wpAt_bind (PySem.wpAt_stack λp f=>PySem.wpAt_of_wpAny ?_);wp_walk;refine PySem.wpAt_of_wpAny ?_;rw[a.owner]
 repeat (first|with_reducible calc wpAny_madeHere_exc a.canon b ?_|with_reducible calc aaC b ?_|(with_reducible calc aaZ b ?_;first|rw[j]|rw[c]|rw[e])|wp_step)
 show R _ _;rw[aay];calc i
end
end
end L2
set_option maxHeartbeats 400000
namespace L2
open PySem PySem.Spec PyProof.Rows
section
structure kx(K:W.Frag)(C B:Addr):Prop where
 ob:∃nm q N bs sn sub ab col dd k0 k1 k2 k3 k5,K.lookup C=some (excClassObj nm q C N bs (.ref B::tL) true sn sub ab col dd k0 k1 k2 k3 k5 "ValueError.__new__")
 ga:W.findIn K (.ref C) "__getattribute__"=some (some (.builtin "BaseException.__getattribute__"))
 gt:W.findIn K (.ref C) "__getattr__"=some none
 sa:W.findIn K (.ref C) "__setattr__"=some (some (.builtin "object.__setattr__"))
 cl:W.findIn K (.ref C) "__class__"=some (some (.builtin "object.__class__"))
 cg:W.specialIn K (.builtin "object.__class__") "__get__"=some (some (.builtin "getset_descriptor.__get__"))
 ct:W.takesIn K (.builtin "object.__class__")=some true
 kp:W.keepIn K (.ref C)=true
theorem kx.cd{K:W.Frag}{C B:Addr}(c:kx K C B):∃cd:ClassData,W.clsIn K C=some cd/\cd.mro=.ref C::.ref B::tL/\cd.hasDict=true:=by
 let(d,q,N,f,g,a,h,b,i,j,k,l,m,n,e):=c.ob;calc(_,by unfold W.clsIn;rw[e],rfl,rfl)
theorem kx.mro{K:W.Frag}{C B:Addr}(c:kx K C B)(v:Value):W.mroIn K C v=some ((.ref C::.ref B::tL).contains v):=by
 let(cd,e,a,_):=c.cd;unfold W.mroIn;rw[e,Option.bind_some,a];rfl
section
variable {prog:Program}{w:World}{A:Around}{E:Value->Shared->Prop}{s:Shared}{K:W.Frag}{x C B:Addr}{ox:Obj}{od:Option Obj}{name:Str}
open PySem.W in
open PySem.W in
theorem BX{g a:Value}{b:Tok}{R:Result->Shared->Prop}(X:K.In s.heap)(I:InstAt s.heap x ox C od)(c:kx K C B)(f:findObj K C od name=some (.bind g a))
  (h:∀A,wpAny (model prog w) A (call g [a,.ref x,.ref C]) (λv s'=>R (.ok (.ret v)) s') (λe s'=>R (.error e) s') s):
  codeAny (model prog w) A (.call (.builtin "BaseException.__getattribute__") ([.ref x,.str name b],[])) R s:=by
 have i:=PySem.F.attrBase_ValueError;have j:builtinKind "BaseException.__getattribute__"=some .slot:=by decide +kernel
 have k:splitId "BaseException.__getattribute__"=some (("BaseException"),"__getattribute__"):=by decide +kernel
 have e:=I.type (M:=model prog w);have l:mroIn K C (.type "BaseException")=some true:=(c.mro _).trans rfl;have L2:Looks (model prog w) s.heap (isInstance (.ref x) (.type "BaseException")) true:=e.andThen (looks_mroIn X l);refine codeAny_call_builtin i.ga.plain PySem.F.entry_bexc_ga (@check_slot (model prog w) _ _ s "BaseException.__getattribute__" "BaseException" "__getattribute__" (.ref x) [.str name b] [] _ j k L2 (PySem.F.args_bexc_ga _ _) ?_);let(c,m,d,t,n):=s;have b:=looks_find (M:=model prog w) X I f;refine F' (P' (F' (P' (F' (e.here (F' (b.here ?_)))))));show wpAny _ _ (Builtin.ObjectAttr.bindTo g a (.ref x) (.ref C)) _ _ _;exact F' (aaN (aaH (h _) (λv s' z=>P' z) λ_ _ z=>z))
end
end
section
section
variable {prog:Program}{w:World}{A:Around}{E:Value->Shared->Prop}{s:Shared}{K:W.Frag}{x C B:Addr}{ox:Obj}{od:Option Obj}{name:Str}
open PySem.W in
open PySem.W in
theorem Sk{Q:Option Value->Shared->Prop}(X:K.In s.heap)(I:InstAt s.heap x ox C od)(c:kx K C B)(h:Q (some (.ref C)) {s with toks:=s.toks+1}):
  wpAny (model prog w) A (getAttr? (.ref x) "__class__") Q E s:=by
 let(a,g,d,t,b):=s;have f:=PySem.F.attrBase_ValueError;have i:=I.type (M:=model prog w);have j:=looks_findIn (M:=model prog w) X c.ga;have L2:=looks_findIn (M:=model prog w) X c.gt;have k:mroIn K C (.type "object")=some true:=(c.mro _).trans rfl;have l:findObj K C od "__class__"=some (.bind (.builtin "getset_descriptor.__get__") (.builtin "object.__class__")):=by
  let(cd,e,_):=c.cd;unfold findObj;rw[e,Option.bind_some,c.cl,Option.bind_some];simp[c.cg,c.ct]
 unfold getAttr? getAttrBy? getAttrBy;calc F' (wpAny_mkText (F' (wpAny_attempt (aaN (F' (i.at (F' (j.at ?_))))))));show wpAny _ _ (getAttrByItsOwn _ _ _ _ _ _) _ _ _;unfold getAttrByItsOwn callGetattribute boundAndCalled;calc F' (L2.at (F' (wpAny_attempt (aaN ?_))));simp only[Bool.false_and,Bool.false_eq_true,if_false];rw[f.ga.bind];calc F' (P' (wpAny_call ?_));calc BX (s:=(a,g,d,t+1,b)) X I c l λe=>?_;calc wpAny_call (class_get (s:=(a,g,d,t+1,b)) (ox:=ox) (od:=od) X I k ?_);show wpAny _ _ (handedOut (.ref C)) _ _ _;exact P' (P' h)
open PySem.W in
theorem zr(c:kx K C B):KitX K (.ref x) (.ref C) (λh=>∃ox od,InstAt h x ox C od) where
 ty:=λ_ _ _ I=>let ⟨_,_,I⟩:=I;I.type
 it:=λ_ _ X _=>by
  let(i,q,N,j,l,a,m,b,g,o,p,r,t,u,d):=c.ob;intro n v y z k q;unfold isType loadHead;exact F' (wpAny_loadPart (k _ _ (X _ _ d)) (P' q))
 ne:=λh v g y n z X w=>by
  let(i,q,N,j,l,a,m,b,g,o,p,r,t,u,d):=c.ob;calc Bool.eq_false_iff.mpr λq=>?_;have e:C=v:=Value.ref.inj (beq_iff_eq.mp q);subst e;have z:=(X _ _ d).symm.trans w;have a:=congrArg (Option.map Obj.cls) z;simp at a
 ca:=λX I k=>let ⟨_,_,I⟩:=I;Sk X I c k
end
end
section
def XOb(C:Addr)(d:Option Addr)(c:Bool)(a:Addr)(h:Heap):Prop:=∃b e,h.get? a=some ((.ref C,d,.fields b,e):Obj)/\(c=true->b[1]?=some .none)
abbrev XO(a C:Addr)(d:Option Addr)(b:Bool):HO:=.ext (XOb C d b a)
def XDb(c:List (Str×V))(a:Addr)(h:Heap):Prop:=∃b,h.Ns1 a b/\(∀f,lC (c.lookup f) (b f))/\PySem.Within b (c.map (·.1))
abbrev XD(a:Addr)(b:List (Str×V)):HO:=.ext (XDb b a)
section
variable {P:Program}{w:World}{H:Hp}{h:Heap}{a C:Addr}{d:Option Addr}{fl:Bool}
theorem PH{b:Array Value}{c:Array (Option Value)}(e:h.get? a=some ((.ref C,d,.fields b,c):Obj))(f:fl=true->b[1]?=some .none):cA P w H h a (XO a C d fl):=
 ((b,c,e,f),(_,e),λ_ _ (b,c,e,f) k=>(b,c,k _ e,f))
theorem Sl(x:cA P w H h a (XO a C d fl)):XOb C d fl a h:=x.1
theorem Jf{b:List (Str×V)}(x:cA P w H h a (XD a b)):XDb b a h:=x.1
end
end
section
section
variable {X:Cx}{pins:List (Addr×Obj)}{σ:St}{H:Hp}{s:Shared}{a C B dx:Addr}{fs:List (Str×V)}{f:Str}{v:V}{A:Around}{E:Value->Shared->Prop}
theorem x6{b:Bool}(I:Inv X pins σ H s){d:Option Addr}(e:H a=some (XO a C d b)):∃vs c,s.heap.get? a=some ((.ref C,d,.fields vs,c):Obj)/\(b=true->vs[1]?=some .none):=Sl (I.aW a _ e)
theorem Jg{c:Bool}(I:Inv X pins σ H s){d:Option Addr}(e:H a=some (XO a C d c)):∃vs b,s.heap.get? a=some ((.ref C,d,.fields vs,b):Obj):=by
 let(vs,b,h,_):=x6 I e;calc(vs,b,h)
theorem BY{f:Bool}{c:Value}{b:Bool}{d:Option Addr}{Q:Value->Shared->Prop}(I:Inv X pins σ H s)(e:H a=some (XO a C d f))(g:∀dx,d=some dx->∃fs,H dx=some (XD dx fs))(i:kx X.K C B)
  (k:W.kitOne X.K (.ref C) c=some b) (h:∀f,Q (.bool b) {s with toks:=f}):wpAny (model X.prog X.w) A (call (.builtin "isinstance") [.ref a,c]) Q E s:=by
 calc W.kia_one (zr i) I.iz ?_ k (λz=>nomatch z) h;let(b,c,q):=Jg I e
 cases d with
 |none=>calc(_,none,q,rfl,rfl,aaD)
 |some dx=>
  let(fs,z):=g dx rfl;let(_,(o,_,_,b,_),_):=Jf (I.aW dx _ z);calc(_,some o,q,rfl,rfl,b)
end
end
section
variable {rest:List Value}{E:Value->Shared->Prop}
section
variable {prog:Program}{w:World}{A:Around}{h:Heap}{g:Array GenState}{d:Drawn}{t:Nat}{os:OsState}
variable {nm q:Str}{C B N:Addr}{bs:List Value}{sn:List Str}{sub:List Value}{ab:Bool}{col:Option Bool}{dd:Option Addr}{k0 k1 k2 k3 k5:Option Value}
theorem zt{M:Model}{e:Addr}{a:Obj}{Q:Unit->Shared->Prop}
  (b:h.get? C=some (excClassObj nm q C N bs (.ref B::tL) true sn sub ab col dd k0 k1 k2 k3 k5 "ValueError.__new__")) (c:h.get? e=some a) (f:a.cls=.ref C) (i:Q ⟨⟩ (h,g,d,t,os)):
  wpAny M A (checkBuiltinCall "ValueError.__init__" (.ref e::rest,[])) Q E (h,g,d,t,os):=by
 have a:=zA1;have j:(Value.ref C::.ref B::tL).contains (.type "ValueError")=true:=rfl;have k:=a.noStar;simp only[checkBuiltinCall,a.initKind,a.initSplit,a.initRow]
 repeat (first|(with_reducible calc aaC c ?_;rw[f])|with_reducible calc aaC b ?_|(with_reducible calc aaZ b ?_;rw[j])|wp_step)
 calc wpAny_onRaise ?_;rw[show ∀(a b:String) (n:Nat),Bind.check (.positional,"*","ValueError",.self,[("args",.varPos,false)]) a b n (List.map (λx=>x.fst) ({pos:=Value.ref e::rest}:Args).kw)=pure ⟨⟩ from
  λa b n=>check_star_args _ _ _ _ _ _]
 calc P' i
theorem zu{K:W.Frag}{Q:PySem.Fin->Shared->Prop}(X:K.In h)
    (c:h.get? C=some (excClassObj nm q C N bs (.ref B::tL) true sn sub ab col dd k0 k1 k2 k3 k5 "ValueError.__new__"))
    (j:W.findIn K (.ref C) "__init__"=some (some (.builtin "ValueError.__init__")))
    (k:∀h' a,a[1]?=some .none->(∀b o,h.get? b=some o->h'.get? b=some o)->h'.get? (h.objs.size+1)=some ((.ref C,none,.fields a,#[]):Obj)->Q (.done (.ret (.ref (h.objs.size+1)))) (h',g,d,t,os)) (e:rest.length<=sizeLine):
    wpAny (model prog w) A (Builtin.«type.__call__» (.ref C::rest,[])) Q E (h,g,d,t,os):=by
  have f:=zA1
  repeat (first|with_reducible calc aaC c ?_|with_reducible calc wpAny_madeBy_exc c ?_|wp_step)
  calc codeAny_call_builtin_code (Code.quiet_builtin _ f.quiet) (BW c ?_);calc FO c ?_ e;show wpAny _ _ _ _ _ _;have i:∀b o,h.get? b=some o->((h.push {cls:=.type "tuple",data:=.seq rest.toArray}).push {cls:=.ref C,data:=.fields #[.ref h.objs.size,.none,.none,.none,.bool false,.none]}).get? b=some o:=
    λb o e=>K' _ (K' _ e)
  have a:=i _ _ c;have e:=X.keeps i;have c:((h.push {cls:=.type "tuple",data:=.seq rest.toArray}).push
      {cls:=.ref C,data:=.fields #[.ref h.objs.size,.none,.none,.none,.bool false,.none]}).get? (h.objs.size + 1)=some
      {cls:=.ref C,data:=.fields #[.ref h.objs.size,.none,.none,.none,.bool false,.none]}:=by heap_get
  have i:(Value.ref C::.ref B::tL).contains (.ref C)=true:=by simp
  unfold isInstance
  repeat (first|with_reducible calc aaC c ?_|(with_reducible calc aaZ a ?_;rw[i])|wp_step)
  show wpAny _ _ (typeLookup (.ref C) _) _ _ _;calc(W.looks_findIn e j).here ?_;calc aaN (F' (wpAny_of_eq (f.init.bind _) ?_));calc F' (wpAny_call (codeAny_call_builtin f.init.plain f.initEntry (zt a c rfl ?_)));wp_walk;refine k _ #[.ref (h.objs.size+2),.none,.none,.none,.bool false,.none] rfl (λb o i=>?_) ?_
  · rw[aaQ _ _ (aaJ (Nat.lt_succ_of_lt (R' i)))];exact K' _ (K' _ (K' _ i))
  · rw[aa4 _ (K' _ c) rfl];simp only[Heap.size_push];rfl
theorem Sn{K:W.Frag}{Q:Value->Shared->Prop}(X:K.In h)
  (a:h.get? C=some (excClassObj nm q C N bs (.ref B::tL) true sn sub ab col dd k0 k1 k2 k3 k5 "ValueError.__new__"))
  (e:W.findIn K (.ref C) "__init__"=some (some (.builtin "ValueError.__init__")))
  (f:∀h' c,c[1]?=some .none->(∀b o,h.get? b=some o->h'.get? b=some o)->h'.get? (h.objs.size+1)=some ((.ref C,none,.fields c,#[]):Obj)->Q (.ref (h.objs.size+1)) (h',g,d,t,os)) (i:rest.length<=sizeLine):
  wpAny (model prog w) A (call (.ref C) rest) Q E (h,g,d,t,os):=by
 have b:=tc_lookup;have b:=tc_bind (.ref C);have b:((h,g,d,t,os):Shared).TypeIs (.ref C) "type":=(_,a,rfl)
 calc wpAny_call (codeAny_of_tree ?_);show wpAny _ _ (callAny (.ref C) _) _ _ _
 repeat (any_goals (first|assumption|with_reducible calc aaC a ?_|wp_step))
 calc(rfl,?_);calc codeAny_call_builtin_at (Code.quiet_builtin _ ⋯) entry_typeCall (wpAny_check_type_call_sub a (zu X a e ?_ i));calc f
end
structure pE(K:W.Frag)(mg:Str->Option Value)(x:Str)(C B:Addr):Prop where
 cl:kx K C B
 init:W.findIn K (.ref C) "__init__"=some (some (.builtin "ValueError.__init__"))
 mg:mg x=some (.ref C)
def tX0(C:Addr)(t:TA):TE:=λσ H Q=>t σ H λvs b=>vs.length<=1/\∀a,b a=none->Q (.ref a) (upd b a (XO a C none true))
section
variable {X:Cx}{pins:List (Addr×Obj)}{σ:St}{H:Hp}{s:Shared}{C B:Addr}{x:Str}{p pos:Pos}{e:Expr}{es:List Expr}{t:TA}
theorem So{Q:VK}{us:List Value}(M:pE X.K X.mg x C B)(I:Inv X pins σ H s)(b:us.length<=1)(h:∀a,H a=none->Q (.ref a) (upd H a (XO a C none true))):
  wpAny (model X.prog X.w) X.A (call (.ref C) us) (EP X pins σ Q) X.xe s:=by
 let(d,q,N,f,g,b,i,c,j,k,l,m,n,o,e):=M.cl.ob;let(b,g,d,t,c):=s;have c:H (b.objs.size+1)=none:=I.aW.fresh (aa2 _);calc Sn (h:=b) I.iz (I.iz _ _ e) M.init (λi j d f g=>(V.ref (b.objs.size+1),_,I.laid (a:=b.objs.size+1) f (aa2 _) (PH g λ_=>d),rfl,h _ c)) (by rw[aaw];lia)
theorem PJ(M:pE X.K X.mg x C B)(b:PA X (e::es) t)(a:Gl X x:=by rfl)(c:(x==("__debug__":Str))=false:=by decide)
  (d:ee e=true:=by rfl) (f:es.all ee=true:=by rfl):PE X (.Call (.Name x p) (e::es) [] pos) (tX0 C t):=by
 walk_at "xc";refine wpAny_Call_Name_kw (km I a M.mg ?_ c);refine W.callWith_K (h₀:=X.base) I.ok.mod.Br M.cl.kp (dy (b pos pins s σ H _ I h) λc i (j,k,a,r,g,q)=>(a.iz,?_)) (eO d) (gf f);exact So M a (by show c.length<=1;rw[<-r.length];exact g) q
end
end
end L2
set_option maxHeartbeats 4000000
namespace PySem
variable {a j:Addr}{Q:Value->Shared->Prop}
section
variable {prog:Program}{w:World}{A:Around}{E:Value->Shared->Prop}{s:Shared}
theorem rS{n:Nat}{c:Array Value}{v:Value}(b:s.heap.IsTupleIter j a n)(f:s.heap.IsTuple a c)(h:c[n]?=some v)
  (q:∀g,g.IsTupleIter j a (n+1)->Heap.SameBut j s.heap g->Q v {s with heap:=g}):wpAny (model prog w) A (Builtin.SmallTypes.nextOf (.ref j)) Q E s:=by
 let(g,e,c,d):=id b;let(k,g,_,l,i):=f;unfold Builtin.SmallTypes.nextOf;refine F' (aaX (name:=Str.ofString "__next__") b.typeIs F.slot_tuple_iterator_next (aa3 F.slot_tuple_iterator_next b.typeIs F.entry_tuple_iterator_next ?_ (F.args_tuple_iterator_next_1 _)));refine F' (m:=field (.ref j) 0) (aaB e d (x:=.ref a) rfl ?_);show wpAny _ _ (if (Value.ref a==Value.none)=true then _ else _) _ _ _;rw[if_neg (by exact S')];refine F' (m:=field (.ref j) 1) (aaB e d (x:=.int n 0) rfl ?_);refine F' (m:=seqItems? (.ref a)) (abd g i ?_);simp only[Int.toNat_natCast,h];refine F' (wpAny_setField e d nofun (P' (v,rfl,P' (q _ (_,aa4 _ e (Obj.isFreed_of_fields (Obj.data_mapFields d _)),(Obj.cls_mapFields ..).trans c,?_) (Heap.SameBut.update ..)))));rw[Obj.data_mapFields d];simp[rawInt]
theorem tM{n:Nat}{c:Array Value}(f:A.handled=none)(b:s.heap.IsTupleIter j a n)(h:s.heap.IsTuple a c)(i:c[n]?=none)
  (q:∀g e,Heap.ExtBut j s.heap g->(∃o,g.get? e=some o/\o.cls=.type "StopIteration")->E (.ref e) {s with heap:=g}):wpAny (model prog w) A (Builtin.SmallTypes.nextOf (.ref j)) Q E s:=by
 let(g,e,c,d):=id b;let(k,c,_,l,g):=h;unfold Builtin.SmallTypes.nextOf;refine F' (aaX (name:=Str.ofString "__next__") b.typeIs F.slot_tuple_iterator_next (aa3 F.slot_tuple_iterator_next b.typeIs F.entry_tuple_iterator_next ?_ (F.args_tuple_iterator_next_1 _)));refine F' (m:=field (.ref j) 0) (aaB e d (x:=.ref a) rfl ?_);show wpAny _ _ (if (Value.ref a==Value.none)=true then _ else _) _ _ _;rw[if_neg (by exact S')];refine F' (m:=field (.ref j) 1) (aaB e d (x:=.int n 0) rfl ?_);refine F' (m:=seqItems? (.ref a)) (abd c g ?_);simp only[Int.toNat_natCast,i];refine F' (wpAny_rule (F' (wpAny_setField e d nofun (F' (m:=newExc (.type "StopIteration") []) ?_))));simp only[newExc,newTuple];refine F' (aaY (F' (m:=firstArgMember _ _) (wpAny_of_eq (a:=Value.none) (by first|rfl|(simp only[firstArgMember];rfl)) (aaY ?_ (by size_fits)))) (by size_fits));simp only[raiseNew];refine F' (wpAny_handled ?_)
 first|rw[show A.in1.handled=none from f]|rw[f]
 calc F' (P' (wpAny_throw (q _ _ (((Heap.SameBut.update ..).extBut.push _).push _) (_,Y' _ rfl,rfl))))
end
theorem Draws.tup{prog:Program}{w:World}{A:Around}(f:A.handled=none)(j a:Addr)(l:a≠j)(c:Array Value):
  Draws prog w A j [j,a] c.size (λi v=>c[i]?=some v) (λi h=>h.IsTupleIter j a i/\h.IsTuple a c) where
 live:=λ_ _ b=>let ⟨o,d,_⟩:=b.1;(o,d)
 frame:=λ_ _ _ b k=>(b.1.at λo e=>k j nofun o e,b.2.at λo e=>k a nofun o e)
 item:=λi s Q E d b q=>rS b.1 b.2 (v:=c[i]) (by simp[d]) λg h e=>q _ g s.toks (by simp[d]) (h,b.2.extBut e.extBut l) e
 done:=λs Q E b q=>tM f b.1 b.2 nofun q
def BZ(b:Bool)(h:Heap)(a:Addr)(c:Array Value):Prop:=if b=true then h.IsList a c else h.IsTuple a c
def qo(b:Bool)(h:Heap)(j a:Addr)(n:Nat):Prop:=if b=true then h.IsListIter j a n else h.IsTupleIter j a n
theorem qo.at{b:Bool}{h h':Heap}{n:Nat}(x:qo b h j a n)(k:∀o,h.get? j=some o->h'.get? j=some o):qo b h' j a n:=by
 cases b
 ·exact Heap.IsTupleIter.at x k
 ·calc Heap.IsListIter.at x k
theorem qo.obj{b:Bool}{h:Heap}{n:Nat}(x:qo b h j a n):∃o,h.get? j=some o/\∀v,o.data≠.cell v:=by
 cases b<;>(let(o,e,c,d):=x;calc(o,e,λv z=>by rw[d]at z;cases z))
theorem Draws.sq{prog:Program}{w:World}{A:Around}(d:A.handled=none)(b:Bool)(j a:Addr)(e:a≠j)(c:Array Value):
  Draws prog w A j [j,a] c.size (λi v=>c[i]?=some v) (λi h=>qo b h j a i/\BZ b h a c):=by
 cases b
 ·exact Draws.tup d j a e c
 ·calc Draws.list d j a e c
end PySem
namespace PySem
variable {Q:Option Value->Shared->Prop}
structure ZA(z ti to i1 i2:Addr)(f1 f2:List Addr):Prop where
 a1:ti≠z
 a2:to≠z
 a3:i1≠z
 a4:i2≠z
 a5:ti≠to
 a6:ti≠i1
 a7:ti≠i2
 a8:to≠i1
 a9:to≠i2
 a10:i1≠i2
 b1:z∉f1
 b2:to∉f1
 b3:i2∉f1
 c1:z∉f2
 c2:to∉f2
 c3:i1∉f2
section
variable {prog:Program}{w:World}{A:Around}{E:Value->Shared->Prop}{s:Shared}{z ti to i1 i2:Addr}{f1 f2:List Addr}{n1 n2 k:Nat}{P1 P2:Nat->Value->Prop}{S1 S2:Nat->Heap->Prop}{a b:Value}
theorem FQ{Q:Value->Shared->Prop}(Z:ZA z ti to i1 i2 f1 f2)(B:Draws prog w A i1 f1 n1 P1 S1)(C:Draws prog w A i2 f2 n2 P2 S2)(d:IsZip s.heap z ti to .none)(i:IsPair s.heap ti (.ref i1) (.ref i2))(u:IsPair s.heap to a b)
  (l:S1 k s.heap) (F:S2 k s.heap) (n:k<n1) (G:k<n2)
  (q:∀x y g e,P1 k x->P2 k y->IsZip g z ti to (rawInt s.heap.objs.size)->IsPair g to x y->S1 (k + 1) g->S2 (k + 1) g->IsPair g s.heap.objs.size x y->g.objs.size=s.heap.objs.size + 1->
   (∀c o,c≠z->c≠to->c≠i1->c≠i2->s.heap.get? c=some o->g.get? c=some o)->Q (.ref s.heap.objs.size) {s with heap:=g,toks:=e}):
  wpAny (model prog w) A (Builtin.«zip.__next__» ([.ref z],[])) (λe s'=>∃v,e=.done (.ret v)/\Q v s') E s:=by
 calc F' (m:=field (.ref z) 2) (aaB d rfl (x:=.bool false) rfl (F' (m:=field (.ref z) 3) (aaB d rfl (x:=.ref ti) rfl ?_)));calc F' (abd i rfl (F' (m:=Builtin.SmallTypes.ownedTupleIsFree (.ref z)) ?_));unfold Builtin.SmallTypes.ownedTupleIsFree;calc F' (aaB d rfl (x:=.none) rfl (P' ?_));simp only[if_true];refine F' (wpAny_rule (F' (aaB d rfl (x:=.ref to) rfl (F' (wpAny_setField_rec d nofun λj p r=>?_)))))
 replace p:IsZip j z ti to .ellipsis:=p
 calc F' ?_;simp only[List.zipIdx_cons,List.zipIdx_nil,List.forIn_cons,List.forIn_nil];calc F' (F' (wpAny_onRaise (F' (m:=Builtin.SmallTypes.nextOf (.ref i1)) ?_)));refine B.item k _ _ _ n (B.frame _ _ _ l λc g o e=>r.extBut c o (λh=>Z.b1 (h▸g)) e) λx d l L J i=>P' ?_
 replace i:Heap.SameBut i1 j d:=i
 have l:IsPair d to a b:=i.extBut _ _ Z.a8 (r.extBut _ _ Z.a2 u);refine F' (abd l rfl (F' (wpAny_updateSeq_pair l λn t j=>F' (wpAny_letGo (P' ?_)))))
 replace t:IsPair n to x b:=t
 replace j:Heap.SameBut to d n:=j
 calc F' (F' (wpAny_onRaise (F' (m:=Builtin.SmallTypes.nextOf (.ref i2)) ?_)));refine C.item k _ _ _ G (C.frame _ _ _ F λc g o e=>j.extBut c o (λh=>Z.c2 (h▸g)) (i.extBut c o (λh=>Z.c3 (h▸g)) (r.extBut c o (λh=>Z.c1 (h▸g)) e))) λy u d M K l=>P' ?_
 replace l:Heap.SameBut i2 n u:=l
 have F:IsPair u to x b:=l.extBut _ _ Z.a9 t;refine F' (abd F rfl (F' (wpAny_updateSeq_pair F λd v n=>F' (wpAny_letGo (P' (P' ?_))))))
 replace v:IsPair d to x y:=v
 replace n:Heap.SameBut to u d:=n
 calc F' (abd v rfl (F' (wpAny_newTuple ?_)));have t:d.objs.size=s.heap.objs.size:=by rw[n.1,l.1,j.1,i.1,r.1]
 have u:IsZip d z ti to .ellipsis:=n.extBut _ _ Z.a2.symm (l.extBut _ _ Z.a4.symm (j.extBut _ _ Z.a2.symm (i.extBut _ _ Z.a3.symm p)));have N:∀c o,c≠z->c≠to->c≠i1->c≠i2->s.heap.get? c=some o->d.get? c=some o:=λc o p F G I e=>n.extBut _ _ F (l.extBut _ _ I (j.extBut _ _ F (i.extBut _ _ G (r.extBut _ _ p e))));have O:S1 (k+1) d:=B.frame _ _ _ J λc g o e=>n.extBut c o (λh=>Z.b2 (h▸g)) (l.extBut c o (λh=>Z.b3 (h▸g)) (j.extBut c o (λh=>Z.b2 (h▸g)) e));have P:S2 (k+1) d:=C.frame _ _ _ K λc g o e=>n.extBut c o (λh=>Z.c2 (h▸g)) e;have j:z<d.objs.size:=R' u;refine F' (m:=Builtin.SmallTypes.ownedTupleHandOut (.ref z) (.ref d.objs.size)) ?_;unfold Builtin.SmallTypes.ownedTupleHandOut;have i:IsZip (d.push {cls:=.type "tuple",data:=.seq #[x,y]}) z ti to .ellipsis:=K' _ u;refine F' (wpAny_setField_rec i nofun λl n J=>?_)
 replace n:IsZip l z ti to (rawInt d.objs.size):=n
 refine wpAny_setField_rec n nofun λl i u=>?_
 replace i:IsZip l z ti to (rawInt d.objs.size):=i
 have r:∀c o,c≠z->d.get? c=some o->l.get? c=some o:=λc o p e=>u.extBut _ _ p (J.extBut _ _ p (K' _ e));have K:IsPair l d.objs.size x y:=u.extBut _ _ (aaJ j) (J.extBut _ _ (aaJ j) (Y' _ rfl));have n:l.objs.size=d.objs.size+1:=by rw[u.1,J.1,aay]
 rw[t]at i K n;calc P' (_,rfl,?_);show Q (.ref d.objs.size) _;rw[t];calc q x y l _ L M i (r _ _ Z.a2 v) (B.frame _ _ _ O λc g o e=>r c o (λh=>Z.b1 (h▸g)) e) (C.frame _ _ _ P λc g o e=>r c o (λh=>Z.c1 (h▸g)) e) K n λc o p F G I e=>r c o p (N c o p F G I e)
theorem Ji{Q:Fin->Shared->Prop}(Z:ZA z ti to i1 i2 f1 f2)(K:Draws prog w A i1 f1 n1 P1 S1)(R:Draws prog w A i2 f2 n2 P2 S2)(r:IsZip s.heap z ti to .none)(T:IsPair s.heap ti (.ref i1) (.ref i2))(U:IsPair s.heap to a b)
  (W:S1 k s.heap) (X:S2 k s.heap) (l:k=n1\/(k<n1/\k=n2))
  (q:∀g e Y,(∀c o,c≠z->c≠to->c≠i1->c≠i2->s.heap.get? c=some o->g.get? c=some o)->(∃o,g.get? e=some o/\o.cls=.type "StopIteration")->E (.ref e) {s with heap:=g,toks:=Y}):
  wpAny (model prog w) A (Builtin.«zip.__next__» ([.ref z],[])) Q E s:=by
 calc F' (m:=field (.ref z) 2) (aaB r rfl (x:=.bool false) rfl (F' (m:=field (.ref z) 3) (aaB r rfl (x:=.ref ti) rfl ?_)));calc F' (abd T rfl (F' (m:=Builtin.SmallTypes.ownedTupleIsFree (.ref z)) ?_));unfold Builtin.SmallTypes.ownedTupleIsFree;calc F' (aaB r rfl (x:=.none) rfl (P' ?_));simp only[if_true];refine F' (wpAny_rule (F' (aaB r rfl (x:=.ref to) rfl (F' (wpAny_setField_rec r nofun λL G t=>?_)))))
 replace G:IsZip L z ti to .ellipsis:=G
 calc F' ?_;simp only[List.zipIdx_cons,List.zipIdx_nil,List.forIn_cons,List.forIn_nil];calc F' (F' (wpAny_onRaise (F' (m:=Builtin.SmallTypes.nextOf (.ref i1)) ?_)));have u:=K.frame _ _ _ W λc v o e=>t.extBut c o (λh=>Z.b1 (h▸v)) e;rcases l with l|⟨l1,l2⟩
 ·subst l;calc K.done _ _ _ u λp x d M=>?_;let(N,j,B):=M
  replace d:Heap.ExtBut i1 L p:=d
  have S:IsZip p z ti to .ellipsis:=d _ _ Z.a3.symm G;have n:x≠z:=λy=>by subst y;rw[S]at j;cases j;simp at B
  exact wpAny_setField_rec S nofun λI _ i=>q I x s.toks (λc o C _ O _ y=>i.extBut _ _ C (d _ _ O (t.extBut _ _ C y))) (N,i.extBut _ _ n j,B)
 ·subst l2;refine K.item k _ _ _ l1 u λx p P g l d=>P' ?_
  replace d:Heap.SameBut i1 L p:=d
  have g:IsPair p to a b:=d.extBut _ _ Z.a8 (t.extBut _ _ Z.a2 U);refine F' (abd g rfl (F' (wpAny_updateSeq_pair g λI l i=>F' (wpAny_letGo (P' ?_)))))
  replace i:Heap.SameBut to p I:=i
  calc F' (F' (wpAny_onRaise (F' (m:=Builtin.SmallTypes.nextOf (.ref i2)) ?_)));calc R.done _ _ _ (R.frame _ _ _ X λc v o e=>i.extBut c o (λh=>Z.c2 (h▸v)) (d.extBut c o (λh=>Z.c3 (h▸v)) (t.extBut c o (λh=>Z.c1 (h▸v)) e))) λg x J M=>?_;let(N,j,B):=M
  replace J:Heap.ExtBut i2 I g:=J
  have F:IsZip g z ti to .ellipsis:=J _ _ Z.a4.symm (i.extBut _ _ Z.a2.symm (d.extBut _ _ Z.a3.symm G));have n:x≠z:=λy=>by subst y;rw[F]at j;cases j;simp at B
  calc wpAny_setField_rec F nofun λg _ e=>q g x P (λc o C l O p y=>e.extBut _ _ C (J _ _ p (i.extBut _ _ l (d.extBut _ _ O (t.extBut _ _ C y))))) (N,e.extBut _ _ n j,B)
end
section
variable {prog:Program}{w:World}{A:Around}{E:Value->Shared->Prop}{s:Shared}{z ti to i1 i2:Addr}{f1 f2:List Addr}{n1 n2 k:Nat}{P1 P2:Nat->Value->Prop}{S1 S2:Nat->Heap->Prop}{a b:Value}
theorem vC(Z:ZA z ti to i1 i2 f1 f2)(f:Draws prog w A.in1 i1 f1 n1 P1 S1)(h:Draws prog w A.in1 i2 f2 n2 P2 S2)(e:IsZip s.heap z ti to .none)(i:IsPair s.heap ti (.ref i1) (.ref i2))(j:IsPair s.heap to a b)
  (l:S1 k s.heap) (m:S2 k s.heap) (n:k<n1) (p:k<n2)
  (q:∀x y g d,P1 k x->P2 k y->IsZip g z ti to (rawInt s.heap.objs.size)->IsPair g to x y->S1 (k + 1) g->S2 (k + 1) g->IsPair g s.heap.objs.size x y->g.objs.size=s.heap.objs.size + 1->
   (∀c o,c≠z->c≠to->c≠i1->c≠i2->s.heap.get? c=some o->g.get? c=some o)->Q (some (.ref s.heap.objs.size)) {s with heap:=g,toks:=d}):
  wpAny (model prog w) A (pyNext (.ref z)) Q E s:=by
 have c:s.TypeIs (.ref z) "zip":=(_,e,rfl)
 unfold pyNext;exact F' (wpAny_attempt (aaX (name:=Str.ofString "__next__") c F.slot_zip_next (aa3 F.slot_zip_next c F.entry_zip_next
  (FQ Z f h e i j l m n p λx y g d c o r t u v B C D=>P' (q x y g d c o r t u v B C D)) (F.args_zip_next_1 _))))
theorem x8(Z:ZA z ti to i1 i2 f1 f2)(h:Draws prog w A.in1 i1 f1 n1 P1 S1)(i:Draws prog w A.in1 i2 f2 n2 P2 S2)(d:IsZip s.heap z ti to .none)(j:IsPair s.heap ti (.ref i1) (.ref i2))(m:IsPair s.heap to a b)
  (n:S1 k s.heap) (p:S2 k s.heap) (l:k=n1\/(k<n1/\k=n2))
  (q:∀g f,(∀c o,c≠z->c≠to->c≠i1->c≠i2->s.heap.get? c=some o->g.get? c=some o)->Q none {s with heap:=g,toks:=f}):wpAny (model prog w) A (pyNext (.ref z)) Q E s:=by
 have c:s.TypeIs (.ref z) "zip":=(_,d,rfl)
 unfold pyNext;refine F' (wpAny_attempt (aaX (name:=Str.ofString "__next__") c F.slot_zip_next (aa3 F.slot_zip_next c F.entry_zip_next
  (Ji Z h i d j m n p l λg e f c (o,r,t)=>?_) (F.args_zip_next_1 _))))
 calc F' (wpAny_isInstance (T:="StopIteration") (b:=true) (o,r,t) isSubtype_stop (P' (q _ _ c)))
end
def Mt(b:Bool)(a:Addr):Obj:=if b=true then {cls:=.type "list_iterator",data:=.fields #[.ref a,.int 0 0]} else {cls:=.type "tuple_iterator",data:=.fields #[.ref a,.int 0 0]}
abbrev zz1(h:Heap)(b:Bool)(l:Addr):Heap:=h.push (Mt b l)
abbrev zz2(h:Heap)(b c:Bool)(l m:Addr):Heap:=(zz1 h b l).push (Mt c m)
abbrev zz3(h:Heap)(b c:Bool)(l m:Addr):Heap:=(zz2 h b c l m).push {cls:=.type "tuple",data:=.seq #[.ref h.objs.size,.ref (zz1 h b l).objs.size]}
abbrev zz4(h:Heap)(b c:Bool)(l m:Addr):Heap:=(zz3 h b c l m).push {cls:=.type "tuple",data:=.seq #[.none,.none]}
abbrev Su(h:Heap)(b c:Bool)(l m:Addr):Heap:=(zz4 h b c l m).push {cls:=.type "zip",data:=.fields #[.none,.bool false,.bool false,.ref (zz2 h b c l m).objs.size,.ref (zz3 h b c l m).objs.size]}
theorem FT(b c:Bool)(l m:Addr)(xs i:Array Value):
  Meets (Builtin.«zip.__new__» ([.type "zip",.ref l,.ref m],[])) (λ_ R s=>BZ b s.heap l xs/\BZ c s.heap m i/\R (.ok (.ret (.ref (zz4 s.heap b c l m).objs.size))) {s with heap:=Su s.heap b c l m}):=
 .of_wp λn w A R s h=>by
  let(a,g,d,e,f):=s;let(j,k,h):=h;have n:=sub_zip
  cases b<;>cases c
  ·have b:Heap.IsTuple (Shared.heap (a,g,d,e,f)) l xs:=j;have L2:Heap.IsTuple (Shared.heap (a.push {cls:=.type "tuple_iterator",data:=.fields #[.ref l,.int 0 0]},g,d,e,f)) m i:=Heap.IsTuple.push k _;wp_walk using aaU b,aaU L2;exact(_,rfl,h)
  ·have b:Heap.IsTuple (Shared.heap (a,g,d,e,f)) l xs:=j;have L2:Heap.IsList (Shared.heap (a.push {cls:=.type "tuple_iterator",data:=.fields #[.ref l,.int 0 0]},g,d,e,f)) m i:=Heap.IsList.push k _;wp_walk using aaU b,wpAny_pyIter_list L2;exact(_,rfl,h)
  ·have b:Heap.IsList (Shared.heap (a,g,d,e,f)) l xs:=j;have L2:Heap.IsTuple (Shared.heap (a.push {cls:=.type "list_iterator",data:=.fields #[.ref l,.int 0 0]},g,d,e,f)) m i:=Heap.IsTuple.push k _;wp_walk using wpAny_pyIter_list b,aaU L2;exact(_,rfl,h)
  ·have b:Heap.IsList (Shared.heap (a,g,d,e,f)) l xs:=j;have L2:Heap.IsList (Shared.heap (a.push {cls:=.type "list_iterator",data:=.fields #[.ref l,.int 0 0]},g,d,e,f)) m i:=Heap.IsList.push k _;wp_walk using wpAny_pyIter_list b,wpAny_pyIter_list L2;exact(_,rfl,h)
theorem tN(b:Bool)(a:Addr):(Mt b a).isFreed=false:=by cases b<;>rfl
theorem B0{b:Bool}{h:Heap}{j a:Addr}(e:h.get? j=some (Mt b a)):qo b h j a 0:=by
 cases b
 ·exact(_,e,rfl,rfl)
 ·calc(_,e,rfl,rfl)
theorem Jj{prog:Program}{w:World}{A:Around}{E:Value->Shared->Prop}{s:Shared}{b c:Bool}{l m:Addr}{xs f:Array Value}{Q:Value->Shared->Prop}(h:BZ b s.heap l xs)(i:BZ c s.heap m f)
  (q:∀g,IsZip g (s.heap.objs.size + 4) (s.heap.objs.size + 2) (s.heap.objs.size + 3) .none->IsPair g (s.heap.objs.size + 2) (.ref s.heap.objs.size) (.ref (s.heap.objs.size + 1))->
   IsPair g (s.heap.objs.size+3) .none .none->qo b g s.heap.objs.size l 0->qo c g (s.heap.objs.size+1) m 0->g.objs.size=s.heap.objs.size+5->
   (∀d o,s.heap.get? d=some o->g.get? d=some o)->Q (.ref (s.heap.objs.size + 4)) {s with heap:=g}):
  wpAny (model prog w) A (call (.type "zip") [.ref l,.ref m]) Q E s:=by
 calc callType_new F.called_zip ∅ (F.typeCall_zip_2 _ _) (F.newCall_zip_2 _ _) (λa=>F.args_object_init_3 a _ _) F.entry_zip_new (FT b c l m xs f) (h,i,?_);have e:(zz1 s.heap b l).objs.size=s.heap.objs.size+1:=aay ..;have a:(zz2 s.heap b c l m).objs.size=s.heap.objs.size+2:=by rw[aay,e]
 have f:(zz3 s.heap b c l m).objs.size=s.heap.objs.size+3:=by rw[aay,a]
 have g:(zz4 s.heap b c l m).objs.size=s.heap.objs.size+4:=by rw[aay,f]
 have n:(Su s.heap b c l m).objs.size=s.heap.objs.size+5:=by rw[aay,g]
 have h:(Su s.heap b c l m).get? (zz4 s.heap b c l m).objs.size=some _:=Y' _ rfl;have i:(Su s.heap b c l m).get? (zz3 s.heap b c l m).objs.size=some _:=K' _ (Y' _ rfl);have j:(Su s.heap b c l m).get? (zz2 s.heap b c l m).objs.size=some _:=K' _ (K' _ (Y' _ rfl));have k:(Su s.heap b c l m).get? (zz1 s.heap b l).objs.size=some (Mt c m):=K' _ (K' _ (K' _ (Y' _ (tN ..))));have p:(Su s.heap b c l m).get? s.heap.objs.size=some (Mt b l):=K' _ (K' _ (K' _ (K' _ (Y' _ (tN ..)))));show _/\_;rw[a,f,g]at h;rw[e,a]at j;rw[f]at i;rw[e]at k;rw[g];calc((_,h,rfl),q _ h j i (B0 p) (B0 k) n λd o x=>K' _ (K' _ (K' _ (K' _ (K' _ x)))))
theorem tO(l:Addr)(e:Array Value):
  Meets (Builtin.«enumerate.__new__» ([.type "enumerate",.ref l],[])) (λ_ R s=>s.heap.IsTuple l e/\
   R (.ok (.ret (.ref (s.heap.push (Mt false l)).objs.size))) {s with heap:=(s.heap.push (Mt false l)).push {cls:=.type "enumerate",data:=.fields #[.none,.bool false,.ref s.heap.objs.size,rawInt 0,.none,.none]}}):=
 .of_wp λf w A R s h=>by
  let(i,g,d,k,m):=s;let(j,h):=h;have p:=sub_enumerate;have b:Heap.IsTuple (Shared.heap (i,g,d,k,m)) l e:=j;let(n,a,q,r,o):=id j
  replace a:i.get? l=some n:=a
  wp_walk using AutoSeq1.wpAny_loadPart' a;calc wpAny_stack_any λt=>P' ?_;split
  ·rename_i c _ _ _ _ _
   cases(c==Value.type "enumerate")
   ·wp_walk using AutoSeq1.wpAny_loadPart' a,aaU b;exact(_,rfl,h)
   ·wp_walk using AutoSeq1.wpAny_loadPart' a,aaU b;exact(_,rfl,h)
  ·wp_walk using AutoSeq1.wpAny_loadPart' a,aaU b;calc(_,rfl,h)
end PySem
namespace L2
open PySem PySem.Spec PyProof.Rows
section
variable {a:Addr}{xs:List V}
section
variable {X:Cx}{pins:List (Addr×Obj)}{σ:St}{H:Hp}{s:Shared}
theorem Inv.DO{t':Nat}{ch:List Addr}{h':Heap}(I:Inv X pins σ H s)(d:∀b∈ch,qg X pins H b)(k:∀b o,b∉ch->s.heap.get? b=some o->h'.get? b=some o):Inv X pins σ H {s with heap:=h',toks:=t'}:=by
 have f:∀b u,H b=some u->b∉ch:=λb u e z=>by rw[(d b z).1]at e;cases e
 refine I.step (g':=s.gens) (d':=s.drawn) (ch:=ch) (λb g=>?_) (λb o _ _ a e _=>k b o a e) (λb o _ _ a e _=>(o.slots,k b o a e)) (λ_ _ _ _ n=>n) (λb o a e=>(o,k b o a e)) (λ_ _ e=>e) (λ_ _ _ e=>e) (λb h e=>(#[],by rw[e];simp)) (λm h=>?_) (λb u e=>?_) I.bare
 ·let(n,i,p,j,l,m):=d b g;exact(j,i,l,m)
 ·let(o,g,i,j,r):=h;exact(o,g,i,k _ o (λz=>(d _ z).2.1 rfl) j,r)
 ·calc(I.aW b u e).aL (λc v a q=>k c v ?_ q) (λ_ q=>q) λ_ _ q=>q;rcases a with z | z
  ·rw[z];exact f b u e
  ·calc f c _ z
theorem Inv.DP{t':Nat}{ch:List Addr}{h':Heap}{T:Addr}{g:List Value}(I:Inv X pins σ H s)(h:∀b∈ch,qg X pins H b)(k:∀b o,b∉ch->s.heap.get? b=some o->h'.get? b=some o)
  (i:s.heap.objs.size<=T) (l:Vals xs g) (p:xs.length<=sizeLine) (q:IsTup h' T g.toArray):Inv X pins σ (upd H T (.tup xs)) {s with heap:=h',toks:=t'}:=by
 have j:∀b u,H b=some u->b∉ch:=λb u e z=>by rw[(h b z).1]at e;cases e
 have d:H T=none:=I.aW.fresh i;have m:∀b o,s.heap.get? b=some o->b≠T:=λb o e=>aai (V' (R' e) i);refine I.step (g':=s.gens) (d':=s.drawn) (ch:=ch) (λb f=>?_) (λb o _ _ a e _=>k b o a e) (λb o _ _ a e _=>(o.slots,k b o a e)) (λb o _ e n=>by rw[az (m b o e)];calc n) (λb o a e=>(o,k b o a e))
  (λb t e=>by rw[az (av e d)];calc e) (λb o u e=>by rw[az (av e d)];calc e) (λb i e=>(#[],by rw[az (av e d),e];simp)) (λm i=>?_) (λb u e=>?_) I.bare
 ·let(w,m,x,n,r,v):=h b f;exact(n,m,r,v)
 ·let(o,m,n,v,r):=i;exact(o,m,n,k _ o (λz=>(h _ z).2.1 rfl) v,r)
 ·by_cases f:b=T
  ·subst f;rw[af] at e
   cases e;exact(p,g,l,q)
  ·rw[az f] at e;refine(I.aW b u e).aL (λc v a q=>k c v ?_ q) (λc q=>by rw[az (av q d)];calc q) λc t q=>by rw[az (av q d)];exact q
   rcases a with z|z
   ·rw[z];exact j b u e
   ·calc j c _ z
def Sq(b:Bool)(K:W.Frag)(H:Hp)(a:Addr)(xs:List V):Prop:=if b=true then aY K H a xs else bP K H a xs
theorem Sq.l{K:W.Frag}(h:H a=some (.lst xs)):Sq true K H a xs:=aY.of h
theorem Sq.t{K:W.Frag}(h:H a=some (.tup xs)):Sq false K H a xs:=bP.of h
theorem Inv.sq(I:Inv X pins σ H s){b:Bool}{a:Addr}{xs:List V}(h:Sq b X.K H a xs):∃c:List Value,Vals xs c/\BZ b s.heap a c.toArray/\xs.length<=sizeLine:=by
 cases b
 ·exact I.tuple h
 ·let(c,r,p,z):=I.list h;calc(c,r,p.isList,z)
theorem Inv.B1(I:Inv X pins σ H s){b:Bool}{a:Addr}{xs c:List V}(h:Sq b X.K H a xs)(h':Sq b X.K H a c):xs=c:=by
 cases b
 ·exact I.v8 h h'
 ·calc I.yZ h h'
theorem PK{u:HO}{b:Addr}(h:Rd H a u)(c:H b=none):a≠b:=λz=>by
 subst z;rcases h with h|⟨o,h⟩<;>(rw[c]at h;cases h)
theorem Inv.tP(I:Inv X pins σ H s){b:Bool}{a c:Addr}{xs:List V}(h:Sq b X.K H a xs)(f:qg X pins H c):a≠c:=by
 have d:∀o,X.K.lookup a=some o->a≠c:=λo e z=>by
  subst z;have i:=I.ok.mod.Br a o e;rcases f.2.2.2.1 with y|y
  ·exact I.ok.yY a o i y
  ·exact absurd (V' (V' (R' i) I.ok.Hm) y) (aaP _)
 cases b
 ·rcases h with h | ⟨o,j,n,g,_⟩
  ·exact PK h f.1
  ·exact d o g
 ·rcases h with h | ⟨o,j,n,g,_⟩
  ·exact PK h f.1
  ·calc d o g
end
end
section
def PM(b:Bool)(K:W.Frag)(a:Addr):It:=
 (λi H=>∃xs x,Sq b K H a xs/\xs[i]?=some x,λi H y c=>∃T,H T=none/\y=.ref T/\∀xs,Sq b K H a xs->∃x,xs[i]?=some x/\c=upd H T (.tup [.int i,x]),λi H=>∃xs,Sq b K H a xs/\xs.length=i)
def Vi(b c:Bool)(K:W.Frag)(a d:Addr):It:=
  (λi H=>∃xs e x y,Sq b K H a xs/\Sq c K H d e/\xs[i]?=some x/\e[i]?=some y,λi H v f=>∃T,H T=none/\v=.ref T/\∀xs e,Sq b K H a xs->Sq c K H d e->∃x y,xs[i]?=some x/\e[i]?=some y/\f=upd H T (.tup [x,y]),
   λi H=>∃xs e,Sq b K H a xs/\Sq c K H d e/\(i=xs.length\/(i < xs.length/\i=e.length)))
theorem zw{a b:V}:([a,b]:List V).length<=sizeLine:=by show 2<=sizeLine;decide
theorem x9{a:List Value}{i:Nat}{u:Value}(h:a[i]?=some u):i<a.toArray.size:=by
 have:=(List.getElem?_eq_some_iff.mp h).1;simpa using this
theorem FU{P:Program}{w:World}{K:W.Frag}{k:List Expr}{u:Nat}{v:Pos}(b:Bool)(e j a:Addr)(n:e≠j):
  Turn P w K (.Tuple k u v) (PM b K a) [e,j] e (λi h=>(∃d,IsEnum h e j i d)/\qo b h j a i) where
 mem:=by simp
 obj:=λi h l c C=>by
  let((d,g),m):=l;simp only[List.mem_cons,List.not_mem_nil,or_false]at C;rcases C with rfl|rfl
  ·exact(_,g,λv z=>by
    have z':Data.fields _=Data.cell v:=z
    cases z')
  ·exact m.obj
 keep:=λi h h' l k=>by
  let((d,g),m):=l;exact((d,k e nofun _ g),m.at λo q=>k j nofun o q)
 item:=by
  intro X L M N C i F s σ H E I r l O;subst L M N;let((d,g),m):=l;let(xs,x,t,R):=O;let(G,S,p,hz):=I.sq t;let(u,v,ru):=S.get R;have k:a≠e:=I.tP t (r e nofun);have B:a≠j:=I.tP t (r j nofun);have D:=Draws.sq (prog:=X.prog) (w:=X.w) (A:=X.A.in1) (show X.A.in1.handled=none from I.ok.hd C) b j a B G.toArray;calc wpAny_pyNext_enum_itemD D g (m,p) (x9 v) n (by simp[n,Ne.symm k]) λy P Y K ho s1 hT sz T=>?_;have ey:y=u:=by
   have:G.toArray[i]?=some u:=by simpa using v
   exact Option.some.inj (K.symm.trans this)
  subst ey;calc(_,rfl,wpAny_letOwnedTupleGo_enum ho λv k u=>?_);have K:∀c o,c ∉ [e,j]->s.heap.get? c=some o->v.get? c=some o:=λc o J q=>(u.2 c λz=>J (by simp[z])).trans (T c o (λz=>J (by simp[z])) (λz=>J (by simp[z])) q);have Z:s.heap.objs.size≠e:=aaJ (R' g);have e:IsTup v s.heap.objs.size ([.int i Y,y]:List Value).toArray:=(_,(u.2 _ Z).trans hT,rfl,_,rfl)
  have v:H s.heap.objs.size=none:=I.aW.fresh (L' _);refine(.ref s.heap.objs.size,upd H s.heap.objs.size (.tup [.int i,x]),I.DP r K (L' _) (.cons (Y,rfl) (.cons ru .nil)) zw e,rfl,(_,v,rfl,λys P=>(x,by rw[I.B1 P t];calc R,rfl)),((y,?_),?_),λc U=>?_)
  ·simpa using k
  ·exact s1.1.at λo q=>(u.2 j (Ne.symm n)).trans q
  ·have wx:c≠s.heap.objs.size:=by
    simp only[List.mem_cons,List.not_mem_nil,or_false]at U;rcases U with rfl|rfl
    ·exact Ne.symm Z
    ·let(o,e,_):=m.obj;exact aai (R' e)
   rw[az wx];exact(r c U).1
 done:=by
  intro X L M N C i F s σ H E I r l O;subst L M N;let((d,g),m):=l;let(xs,t,R):=O;let(G,S,p,hz):=I.sq t;have B:a≠j:=I.tP t (r j nofun);have D:=Draws.sq (prog:=X.prog) (w:=X.w) (A:=X.A.in1) (show X.A.in1.handled=none from I.ok.hd C) b j a B G.toArray;have e:G.toArray.size=i:=by have:=S.length;simp;lia
  refine wpAny_pyNext_enum_endD D g (by rw[e];calc(m,p)) λh' T=>(rfl,I.DO (t':=s.toks) r λc o J q=>T c o (λz=>J (by simp[z])) q)
 self:=λ_ _ _ _ _ l h=>by
  let((d,g),m):=l;calc wpAny_pyIter_enum g h
theorem FV{prog:Program}{w:World}{A:Around}{E:Value->Shared->Prop}{s:Shared}{b:Bool}{l:Addr}{d:Array Value}{Q:Value->Shared->Prop}(e:BZ b s.heap l d)
  (q:∀g,IsEnum g (s.heap.objs.size+1) s.heap.objs.size 0 .none->qo b g s.heap.objs.size l 0->g.objs.size=s.heap.objs.size+2->(∀c o,s.heap.get? c=some o->g.get? c=some o)->Q (.ref (s.heap.objs.size+1)) {s with heap:=g}):
  wpAny (model prog w) A (call (.type "enumerate") [.ref l]) Q E s:=by
 cases b
 ·refine callType_new F.called_enumerate ∅ (F.typeCall_enumerate_1 _) (F.newCall_enumerate_1 _) (λa=>F.args_object_init_2 a _) F.entry_enumerate_new (tO l d) (e,?_);have b:(s.heap.push (Mt false l)).objs.size=s.heap.objs.size+1:=aay ..;show _/\_;rw[b];have a:=Y' (s.heap.push (Mt false l)) (o:={cls:=.type "enumerate",data:=.fields #[.none,.bool false,.ref s.heap.objs.size,rawInt 0,.none,.none]}) rfl;rw[b]at a;refine((_,a,rfl),q _ a (B0 (K' _ (Y' _ (tN ..)))) (by rw[aay,b]) λc o x=>K' _ (K' _ x))
 ·calc call_enumerate_list e q
theorem m5{z a b c d:Addr}:z ∈ [z,a,b,c,d]/\a ∈ [z,a,b,c,d]/\b ∈ [z,a,b,c,d]/\c ∈ [z,a,b,c,d]/\d ∈ [z,a,b,c,d]:=(.head _,.tail _ (.head _),.tail _ (.tail _ (.head _)),.tail _ (.tail _ (.tail _ (.head _))),.tail _ (.tail _ (.tail _ (.tail _ (.head _)))))
theorem in5{z a b c d e:Addr}{P:Addr->Prop}(f:e ∈ [z,a,b,c,d])(g:P z)(h:P a)(i:P b)(j:P c)(k:P d):P e:=by
 simp only[List.mem_cons,List.not_mem_nil,or_false]at f;rcases f with rfl|rfl|rfl|rfl|rfl<;>assumption
theorem no5{z a b c d e:Addr}(f:e ∉ [z,a,b,c,d]):e≠z/\e≠a/\e≠b/\e≠c/\e≠d:=by
 simpa only[List.mem_cons,List.not_mem_nil,or_false,not_or] using f
theorem nd5{z a b c d:Addr}(N:[z,a,b,c,d].Nodup):(z≠a/\z≠b/\z≠c/\z≠d)/\(a≠b/\a≠c/\a≠d)/\(b≠c/\b≠d)/\c≠d:=by
 simpa only[List.nodup_cons,List.mem_cons,List.not_mem_nil,or_false,not_or,List.nodup_nil,not_false_eq_true,and_true] using N
theorem Hr{x i a:Addr}(b:x≠i)(c:x≠a):x ∉ [i,a]:=by simp[b,c]
theorem Jk{l:List Value}{i:Nat}{u x:Value}(h:l[i]?=some u)(g:l.toArray[i]?=some x):x=u:=by
 have:l.toArray[i]?=some u:=by simpa using h
 calc Option.some.inj (g.symm.trans this)
theorem Jl{P:Program}{w:World}{K:W.Frag}{es:List Expr}{kt:Nat}{tp:Pos}(b c:Bool)(z r m g j a d:Addr)(N:[z,r,m,g,j].Nodup):
  Turn P w K (.Tuple es kt tp) (Vi b c K a d) [z,r,m,g,j] z (λi h=>IsZip h z r m .none/\IsPair h r (.ref g) (.ref j)/\(∃u v,IsPair h m u v)/\qo b h g a i/\qo c h j d i) where
 mem:=m5.1
 obj:=λi h t e l=>by
  let(G,B,(u,v,J),L,M):=t;refine in5 (P:=λe=>∃o,h.get? e=some o/\∀v,o.data≠.cell v) l (_,G,λv z=>?_) (_,B,λv z=>?_) (_,J,λv z=>?_) L.obj M.obj
  ·have k:Data.fields _=Data.cell v:=z
   cases k
  ·have k:Data.seq _ _=Data.cell v:=z
   cases k
  ·have k:Data.seq _ _=Data.cell v:=z
   cases k
 keep:=λi h h' t k=>by
  let(G,B,(u,v,J),L,M):=t;exact(k z m5.1 _ G,k r m5.2.1 _ B,(u,v,k m m5.2.2.1 _ J),L.at λo q=>k g m5.2.2.2.1 o q,M.at λo q=>k j m5.2.2.2.2 o q)
 item:=by
  intro X hP hw hK hc i pins s σ H E I O t hg;subst hP hw hK;let(G,B,(u0,v0,J),L,M):=t;let(xs,ys,x,y,T,hr,hx,hy):=hg;let(aX,rv,p,hz):=I.sq T;let(R,rt,pt,hzt):=I.sq hr;let(u,k,ru):=rv.get hx;let(v,n,rv'):=rt.get hy;have C:∀e ∈ [z,r,m,g,j],e≠a:=λe l=>Ne.symm (I.tP T (O e l));have F:∀e ∈ [z,r,m,g,j],e≠d:=λe l=>Ne.symm (I.tP hr (O e l));let((n1,n2,U,Y),(n5,n6,n7),(n8,n9),S):=nd5 N;have hh:X.A.in1.handled=none:=I.ok.hd hc;have D1:=Draws.sq (prog:=X.prog) (w:=X.w) (A:=X.A.in1) hh b g a (Ne.symm (C g m5.2.2.2.1)) aX.toArray;have D2:=Draws.sq (prog:=X.prog) (w:=X.w) (A:=X.A.in1) hh c j d (Ne.symm (F j m5.2.2.2.2)) R.toArray;have Z:ZA z r m g j [g,a] [j,d]:=(Ne.symm n1,Ne.symm n2,Ne.symm U,Ne.symm Y,n5,n6,n7,n8,n9,S,Hr U (C z m5.1),Hr n8 (C m m5.2.2.1),Hr (Ne.symm S) (C j m5.2.2.2.2),Hr Y (F z m5.1),Hr n9 (F m m5.2.2.1),Hr S (F g m5.2.2.2.1))
  calc vC Z D1 D2 G B J (L,p) (M,pt) (x9 k) (x9 n) λx' y' h1 tk K py DN acn s1 s2 hT sz kk=>?_;have ex:x'=u:=Jk k K;have ey:y'=v:=Jk n py;subst ex ey;calc(_,rfl,wpAny_letOwnedTupleGo_zip DN λu v k=>?_);have K:∀e o,e ∉ [z,r,m,g,j]->s.heap.get? e=some o->u.get? e=some o:=λe o l q=>
   have n:=no5 l;(k.2 e n.1).trans (kk e o n.1 n.2.2.1 n.2.2.2.1 n.2.2.2.2 q)
  have n:s.heap.objs.size≠z:=aaJ (R' G);have Xg:IsTup u s.heap.objs.size ([x',y']:List Value).toArray:=(_,(k.2 _ n).trans hT,rfl,_,rfl)
  have u:H s.heap.objs.size=none:=I.aW.fresh (L' _);refine(.ref s.heap.objs.size,upd H s.heap.objs.size (.tup [x,y]),I.DP O K (L' _) (.cons ru (.cons rv' .nil)) zw Xg,rfl,
   (_,u,rfl,λK PN Jm WV=>(x,y,by rw[I.B1 Jm T];calc hx,by rw[I.B1 WV hr];calc hy,rfl)),(v,?_,(_,_,(k.2 m (Ne.symm n2)).trans acn),s1.1.at λo q=>(k.2 g (Ne.symm U)).trans q,s2.1.at λo q=>(k.2 j (Ne.symm Y)).trans q),λe l=>?_)
  ·exact(k.2 r (Ne.symm n1)).trans (kk r _ (Ne.symm n1) n5 n6 n7 B)
  ·have u:e≠s.heap.objs.size:=in5 (P:=λe=>e≠s.heap.objs.size) l (Ne.symm n) (aai (R' B)) (aai (R' J)) (let ⟨_,k,_⟩:=L.obj;aai (R' k)) (let ⟨_,k,_⟩:=M.obj;aai (R' k));rw[az u];exact(O e l).1
 done:=by
  intro X hP hw hK hc i pins s σ H E I O t hg;subst hP hw hK;let(G,B,(u0,v0,J),L,M):=t;let(xs,ys,T,hr,hx):=hg;let(aX,rv,p,hz):=I.sq T;let(R,rt,pt,hzt):=I.sq hr;have C:∀e ∈ [z,r,m,g,j],e≠a:=λe l=>Ne.symm (I.tP T (O e l));have F:∀e ∈ [z,r,m,g,j],e≠d:=λe l=>Ne.symm (I.tP hr (O e l));let((n1,n2,U,Y),(n5,n6,n7),(n8,n9),S):=nd5 N;have hh:X.A.in1.handled=none:=I.ok.hd hc;have D1:=Draws.sq (prog:=X.prog) (w:=X.w) (A:=X.A.in1) hh b g a (Ne.symm (C g m5.2.2.2.1)) aX.toArray;have D2:=Draws.sq (prog:=X.prog) (w:=X.w) (A:=X.A.in1) hh c j d (Ne.symm (F j m5.2.2.2.2)) R.toArray;have Z:ZA z r m g j [g,a] [j,d]:=(Ne.symm n1,Ne.symm n2,Ne.symm U,Ne.symm Y,n5,n6,n7,n8,n9,S,Hr U (C z m5.1),Hr n8 (C m m5.2.2.1),Hr (Ne.symm S) (C j m5.2.2.2.2),Hr Y (F z m5.1),Hr n9 (F m m5.2.2.1),Hr S (F g m5.2.2.2.1))
  have a:=rv.length;have a:=rt.length;exact x8 Z D1 D2 G B J (L,p) (M,pt) (by simp only[List.size_toArray];lia) λh' tk kk=>(rfl,I.DO O λe o l q=>kk e o (λw=>l (by simp[w])) (λw=>l (by simp[w])) (λw=>l (by simp[w])) (λw=>l (by simp[w])) q)
 self:=λ_ _ _ _ _ t h=>wpAny_pyIter_zip t.1 h
section
variable {X:Cx}
def Jn(K:W.Frag)(a:TA):TI:=λσ H R=>a σ H λvs c=>match vs with
 | [.ref a]=>∃b xs,Sq b K c a xs/\R (PM b K a) c
 |_=>False
def Sx(K:W.Frag)(a:TA):TI:=λσ H R=>a σ H λvs e=>match vs with
 | [.ref a,.ref d]=>∃b c xs f,Sq b K e a xs/\Sq c K e d f/\R (Vi b c K a d) e
 |_=>False
theorem ky{h:List Expr}{l:Nat}{m:Pos}{a:Expr}{g:TA}{p pos:Pos}(n:Gl X "enumerate")(o:X.mg "enumerate"=none)(t:PA X [a] g)(u:starEach [a] X.env=[((false),eval a X.env)]:=by rfl):
  PI X (.Tuple h l m) (.Call (.Name "enumerate" p) [a] [] pos) (Jn X.K g):=by
 calc⟨?_⟩;intro c s σ H R I h;calc Call_ (qf I n o boot_enumerate (PyProof.Rows.callWith_type1 (dy (t pos c s σ H _ I h) λg d l=>?_) (by rw[u];rfl) rfl));let(h,i,e,f,g):=l
 match h,f,g with
 | [.ref a],f,g=>
  let(b,h,v,q):=g
  cases f with
  |cons r w=>
   cases w
   cases r;let(f,g,p,h):=e.sq v;calc FV p λg f h m l=>wpAny_pyIter_enum f ?_;have m:Inv X c σ i {d with heap:=g}:=e.kept (t':=d.toks) l;calc(_,[d.heap.objs.size+1,d.heap.objs.size],_,_,i,rfl,m,FU b _ _ a (Nat.succ_ne_self _),((_,f),h),λc j=>?_,q);have k:d.heap.objs.size<=c:=by
    simp only[List.mem_cons,List.not_mem_nil,or_false]at j;rcases j with rfl|rfl
    ·exact aa2 _
    ·exact L' _
   calc e.HR k (e.aW.fresh k)
theorem ya{o:List Expr}{s:Nat}{t:Pos}{a b:Expr}{h:TA}{p pos:Pos}(u:Gl X "zip")(v:X.mg "zip"=none)(w:PA X [a,b] h)(x:starEach [a,b] X.env=[((false),eval a X.env),((false),eval b X.env)]:=by rfl)(k:starEach [b] X.env=[((false),eval b X.env)]:=by rfl):
  PI X (.Tuple o s t) (.Call (.Name "zip" p) [a,b] [] pos) (Sx X.K h):=by
 calc⟨?_⟩;intro e s σ H R I h;calc Call_ (qf I u v boot_zip (PyProof.Rows.callWith_type1 (dy (w pos e s σ H _ I h) λp f o=>?_) (by rw[x,k]) (by rw[k];rfl)));let(p,l,i,g,h):=o
 match p,g,h with
 | [.ref a,.ref d],g,h=>
  let(b,c,k,o,y,z,q):=h
  cases g with
  |cons r j=>
   cases j with
   |cons A j=>
    cases j
    cases r
    cases A;let(g,h,j,k):=i.sq y;let(g,o,k,h):=i.sq z;calc Jj j k λg h o p r s u t=>wpAny_pyIter_zip h ?_;have j:Inv X e σ l {f with heap:=g}:=i.kept (t':=f.toks) t;refine(_,[f.heap.objs.size+4,f.heap.objs.size+2,f.heap.objs.size+3,f.heap.objs.size,f.heap.objs.size+1],_,_,l,rfl,j,Jl b c _ _ _ _ _ a d ?_,(h,o,(_,_,p),r,s),λe m=>?_,q)
    ·simp
    ·have n:f.heap.objs.size<=e:=by
      simp only[List.mem_cons,List.not_mem_nil,or_false]at m;rcases m with rfl|rfl|rfl|rfl|rfl
      ·exact abe _ _
      ·exact abe _ _
      ·exact abe _ _
      ·exact L' _
      ·exact abe _ _
     calc i.HR n (i.aW.fresh n)
end
end
end L2
namespace HT
open PySem PyProof.Rows
section
variable {prog:Program}{w:World}{A:Around}{E:Value->Shared->Prop}{s:Shared}
theorem pF{t e:Addr}{a:Array Value}{f g:Value}{b d:Option Int}{Q:Value->Shared->Prop}(c:IsTup s.heap t a)(i:s.heap.IsSliceOf e f g .none)(pl:IsPart f b)(j:IsPart g d)
  (g:eS a.size 0 b=0/\eS a.size a.size d=a.size) (h:Q (.ref t) s):wpAny (model prog w) A (getItem (.ref t) (.ref e)) Q E s:=by
 let(k,l,n,f):=id i;have f:s.TypeIs (.ref e) "slice":=(k,l,n)
 unfold getItem
 try with_reducible refine aaN ?_
 first|calc F' (P' ?_)|skip
 refine F' (wpAny_sequenceKey c.typeIs ∅ (F' (aaX (name:=Str.ofString "__getitem__") c.typeIs aa7
  (aa3 aa7 c.typeIs entry_tuple_getitem ?_ (args_tuple_getitem _ _)))))
 calc F' (m:=Builtin.Tuple.tupleItemsOf (.ref t)) (tupleItemsOf_ c (F' (wpAny_typeOf f ?_)));rw[if_pos ∅];calc F' (j9 i pl j ?_);have e:(((eS a.size 0 b:Nat):Int)==0&&(1:Int)==1&&(eS a.size a.size d-eS a.size 0 b)==a.size)=true:=by
  rw[g.1,g.2];simp
 show wpAny _ _ (if (((eS a.size 0 b:Nat):Int)==0&&(1:Int)==1&&(eS a.size a.size d-eS a.size 0 b)==a.size)=true then _ else _) _ _ s;rw[if_pos e];calc F' (m:=Builtin.Tuple.tupleIsExact (.ref t)) ?_;unfold Builtin.Tuple.tupleIsExact;calc F' (wpAny_typeOf c.typeIs (P' ?_));rw[if_pos ∅];calc F' (wpAny_rule (P' (_,rfl,P' h)))
end
end HT
namespace L2
open PySem PySem.Spec PyProof.Rows
section
variable {H:Hp}{Q:VK}{K:W.Frag}
section
variable {X:Cx}
def uSl:V->Option Int->Option Int->Hp->VK->Prop:=λx c d H Q=>match x with
 | .ref a=>(∃xs,H a=some (.lst xs)/\∀p,H p=none->Q (.ref p) (upd H p (.lst (dE xs c d))))\/(∃xs,H a=some (.tup xs)/\∀p b,au H b->b p=some (.tup (dE xs c d))->Q (.ref p) b)
 |_=>False
theorem PQ{a:Addr}{b c:Option Int}:uSl (.ref a) b c H Q=((∃xs,H a=some (.lst xs)/\∀p,H p=none->Q (.ref p) (upd H p (.lst (dE xs b c))))\/(∃xs,H a=some (.tup xs)/\∀p d,au H d->d p=some (.tup (dE xs b c))->Q (.ref p) d)):=rfl
theorem Xh:WL X uSl:=by
 intro c s σ H x v t u i j w Q I l m n o h
 cases x<;>first
  |calc(show False from h).elim
  |skip
 rename_i a;rcases h with⟨b,d,q⟩|⟨b,d,q⟩
 ·exact Dy c s σ H _ v t u i j w Q I l m n o (a,b,rfl,aY.of d,q)
 ·by_cases k:HT.eS b.length 0 i=0/\HT.eS b.length b.length j=b.length
  ·cases l;let(z,r,y,C):=I.tuple (bP.of d);have g:z.toArray.size=b.length:=by rw[aaj];exact r.length.symm
   refine("tuple",_,PyProof.Rows.slot_tuple_getitem.lookup,y.typeIs,HT.pF y m n o (by rw[g];exact k) (.ref a,H,I,rfl,q a H (au.refl H) ?_));have e:dE b i j=b:=by
    unfold dE;rw[k.1,k.2];simp
   rw[e];exact d
  ·calc RQ c s σ H _ v t u i j w Q I l m n o (a,b,rfl,bP.of d,k,λp B=>q p _ (au.new _ B) af)
theorem yb{e:Expr}{a:TE}{b c:Option Expr}{d f:TO}{pos g:Pos}(h:PE X e a)(i:PO X b d)(j:PO X c f):PE X (.Subscript e (.Slice b c none g) pos) (Vc uSl a d f):=tw Xh h i j
def uAd:R2:=λx y H Q=>match x,y with
 | .int i,.int j=>Q (.int (i+j)) H
 | .str i,.str j=>i.length+j.length<=sizeLine/\Q (.str (i++j)) H
 | .ref a,.ref b=>(∃xs c,H a=some (.lst xs)/\H b=some (.lst c)/\xs.length + c.length<=sizeLine/\∀p,H p=none->Q (.ref p) (upd H p (.lst (xs++c))))\/
   (∃xs c,H a=some (.tup xs)/\H b=some (.tup c)/\xs.length+c.length<=sizeLine/\∀p d,au H d->d p=some (.tup (xs++c))->Q (.ref p) d)
 |_,_=>False
theorem Jo{i j:Int}:uAd (.int i) (.int j) H Q=Q (.int (i+j)) H:=rfl
theorem Jp{i j:Str}:uAd (.str i) (.str j) H Q=(i.length+j.length<=sizeLine/\Q (.str (i++j)) H):=rfl
theorem Jq {a b:Addr}:uAd (.ref a) (.ref b) H Q=((∃xs c,H a=some (.lst xs)/\H b=some (.lst c)/\xs.length + c.length<=sizeLine/\∀p,H p=none->Q (.ref p) (upd H p (.lst (xs++c))))\/
      (∃xs c,H a=some (.tup xs)/\H b=some (.tup c)/\xs.length + c.length<=sizeLine/\∀p d,au H d->d p=some (.tup (xs++c))->Q (.ref p) d)):=rfl
theorem cp:gU X (binaryOp .Add) uAd:=by
 intro c s σ H x y v u Q I d e h
 cases x<;>cases y<;>first
  |calc(show False from h).elim
  |calc RB c s σ H _ _ v u Q I d e (_,_,rfl,rfl,h)
  |calc BB c s σ H _ _ v u Q I d e (_,_,rfl,rfl,h.1,h.2)
  |skip
 rename_i a b;rcases h with⟨k,l,f,g,m,i⟩|⟨k,l,f,g,m,i⟩
 ·exact R0 c s σ H _ _ v u Q I d e (_,_,k,l,rfl,rfl,f,g,m,i)
 ·by_cases t:k=[]
  ·subst t
   cases d
   cases e;let(S,G,J,_):=I.tuple (bP.of f);let(T,U,K,_):=I.tuple (bP.of g)
   cases G;let((L,M,w,N),A,B,n,C):=id J;let((O,o,q,r),D,E,P,j):=id K;simp only at B C E j;subst B C E j;exact concat_meets (_,A,rfl) (_,D,rfl) noFill_tuple_add seq_tuple_add PySem.F.slot_tuple_add PySem.F.entry_tuple_add (PySem.F.args_tuple_add_2 _ _)
    (tuple_addW0 a b _ _ n P M o N r nofun) (A,D,(.ref b,H,I,rfl,i b H (au.refl H) (by simpa using g)))
  ·calc Nd c s σ H _ _ v u Q I d e (_,_,k,l,rfl,rfl,bP.of f,bP.of g,t,m,λz=>?_,λ_ p R=>i p _ (au.new _ R) af);subst z;calc i a H (au.refl H) (by simpa using f)
def Xi(K:W.Frag):List V->Hp->VK->Prop:=λxs H Q=>match xs with
 | [.ref p]=>∃bs:List Bool,aY K H p (bs.map V.bl)/\Q (.bl (bs.all id)) H
 |_=>False
theorem Jr{p:Addr}:Xi K [.ref p] H Q=∃bs:List Bool,aY K H p (bs.map V.bl)/\Q (.bl (bs.all id)) H:=rfl
theorem DQ:∀{bs:List Bool}{us:List Value},Vals (bs.map V.bl) us->us=bs.map Value.bool
 | [],_,.nil=>rfl
 |b::bs,_,.cons r t=>by
  cases r;rw[DQ t];rfl
theorem all_range:∀(bs:List Bool),((List.range bs.length).all λi=>bs.getD i false)=bs.all id:=by
 intro bs;induction bs with
 |nil=>rfl
 |cons b r a=>
  rw[aaS,List.range_succ_eq_map,List.all_cons,List.all_map,List.all_cons];have:((λi=>(b::r).getD i false) ∘ Nat.succ)=λi=>r.getD i false:=by funext i;simp
  rw[this,a];rfl
theorem Js{prog:Program}{w:World}{A:Around}{bs:List Bool}:TruthOf prog w A (λi v=>(bs.map Value.bool).toArray[i]?=some v) (λi=>bs.getD i false):=by
 intro i v s Q E e c;have a:(bs.map Value.bool)[i]?=some v:=by simpa using e
 rw[J']at a
 cases d:bs[i]? with
 |none=>rw[d]at a;cases a
 |some b=>
  rw[d]at a
  cases a;have:bs.getD i false=b:=by rw[aah,d];rfl
  replace c:Q (bs.getD i false) s:=c
  rw[this]at c;calc aba c
theorem iu(d:X.calm=true):dN X (.builtin "all") (Xi X.K):=by
 intro c s σ H f k Q I r h
 match f,r,h with
 | [.ref p],r,h=>
  let(a,g,q):=h;let(u,rfl,i):=Vals.one r
  cases i;let(c,j,b,f):=I.list g;have e:=DQ j;subst e;refine call_all_walk (wpAny_pyIter_list b.isList (s.heap.objs.size,_,_,_,_,_,λi=>a.getD i false,rfl,Walks.list (show X.A.in1.handled=none from I.ok.hd d) _ p ?_ (a.map Value.bool).toArray,((_,Y' _ rfl,rfl,rfl),b.isList.push _),Js,λf g c=>?_))
  ·let(o,e,_):=b.isList;exact aai (R' e)
  ·have:(a.map Value.bool).toArray.size=a.length:=by simp
   rw[this,all_range];calc(.bl _,H,I.kept λb o e=>c b o (by simp[Nat.ne_of_lt (Heap.lt_size e)]) (K' _ e),rfl,q)
def zx:List V->Option (List Value)
 | []=>some []
 | .ty n::r=>(zx r).map (.type n::·)
 |_=>none
theorem zy:∀{xs:List V}{us a:List Value},Vals xs us->zx xs=some a->us=a
  | [],_,_,.nil,h=>by cases h;rfl
  |x::xs,_,a,.cons r t,h=>by
    cases x<;>first
      |cases h
      | (rename_i n
         unfold zx at h;let(b,c,d):=Option.map_eq_some_iff.mp h
         cases r;rw[<-d,zy t c])
def ND(K:W.Frag):List V->Hp->VK->Prop:=λxs H Q=>match xs with
 | [x,.ty n]=>∃t b,gV K H x t/\W.kitOne K t (.type n)=some b/\Q (.bl b) H
 | [x,.ref p]=>∃t b a c,gV K H x t/\H p=some (.tup a)/\zx a=some c/\W.kitAny K t c=some b/\Q (.bl b) H
 |_=>False
theorem Ju{x:V}{n:String}:ND K [x,.ty n] H Q=∃t b,gV K H x t/\W.kitOne K t (.type n)=some b/\Q (.bl b) H:=rfl
theorem Jv{x:V}{p:Addr}:ND K [x,.ref p] H Q=∃t b a c,gV K H x t/\H p=some (.tup a)/\zx a=some c/\W.kitAny K t c=some b/\Q (.bl b) H:=rfl
theorem B2{x:V}{u t:Value}{pins:List (Addr×Obj)}{σ:St}{H:Hp}{s:Shared}{A:Around}{E:Value->Shared->Prop}{Q:Value->Shared->Prop}{b:Bool}{r:Addr}{v:List Value}(I:Inv X pins σ H s)(c:RelV x u)(C:gV X.K H x t)
  (F:IsTup s.heap r v.toArray) (e:W.kitAny X.K t v=some b) (h:∀x,Q (.bool b) {s with toks:=x}):wpAny (model X.prog X.w) A (call (.builtin "isinstance") [u,.ref r]) Q E s:=by
 let((r,v,b,x),d,B,n,hd):=id F;simp only at B hd;subst B hd
 cases C with
 |bO=>cases(show u=Value.none from c);calc W.kia_tup W.kitx_none I.iz aaD d e (λz=>nomatch z) h
 |bl y=>cases(show u=Value.bool y from c);calc W.kia_tup W.kitx_bool I.iz aaD d e (λz=>nomatch z) h
 |int i=>let(t,q):=(show ∃t,u=Value.int i t from c);cases q;calc W.kia_tup W.kitx_int I.iz aaD d e (λz=>nomatch z) h
 |str y=>let(t,q):=(show ∃t,u=Value.str y t from c);cases q;calc W.kia_tup W.kitx_str I.iz aaD d e (λz=>nomatch z) h
 |Pj y=>let(t,q):=(show ∃t,u=Value.float y t from c);cases q;calc W.kia_tup W.kitx_float I.iz aaD d e (λz=>nomatch z) h
 | @lst a j f=>
  cases(show u=Value.ref a from c);let(_,_,n,_,g):=(show cA X.prog X.w H s.heap a (.lst j) from I.aW a _ f)
  calc W.kia_tup W.kitx_list I.iz (_,g,rfl) d e (λz=>nomatch z) h
 | @Be a G j f=>
  cases(show u=Value.ref a from c);let(_,_,_,n,_,g):=(show cA X.prog X.w H s.heap a (.Be G (.lst j)) from I.aW a _ f)
  calc W.kia_tup W.kitx_list I.iz (_,g,rfl) d e (λz=>nomatch z) h
 | @tup a j f=>
  cases(show u=Value.ref a from c);let(_,_,_,p):=(show cA X.prog X.w H s.heap a (.tup j) from I.aW a _ f)
  let(o,g,k,_):=p;calc W.kia_tup W.kitx_tuple I.iz (o,g,k) d e (λz=>nomatch z) h
 | @dK a l f=>
  cases(show u=Value.ref a from c);let(_,_,b,_,p):=(show cA X.prog X.w H s.heap a (.dK l) from I.aW a _ f)
  let(o,J,L,g,k,_):=p;calc W.kia_tup W.kitx_dict I.iz (o,g,k.1) d e (λz=>nomatch z) h
 | @dT a l f=>
  cases(show u=Value.ref a from c);let(_,_,j,_,o,J,L,g,k,_):=(show cA X.prog X.w H s.heap a (.dT l) from I.aW a _ f)
  calc W.kia_tup W.kitx_dict I.iz (o,g,k.1) d e (λz=>nomatch z) h
 | @ins a C b g f D M N m P=>
  cases(show u=Value.ref a from c);let(b,O,_):=pw I.aW f;let(a,J,_):=O.look;calc W.kia_tup (W.kitx_own (D.get _) D.hd M N m P) I.iz J d e (λz=>nomatch z) h
theorem dP:dN X (.builtin "isinstance") (ND X.K):=by
 intro f s σ H g n Q I r h
 match g,r,h with
 | [x,.ty n],r,h=>
  let(t,b,ty,e,q):=h;let(u,i,rfl,a,c):=vals2 r
  cases c;calc wa I a ty e λj=>(.bl b,H,I.tok _,rfl,q)
 | [x,.ref p],r,h=>
  let(t,b,f,g,ty,k,d,e,q):=h;let(u,i,rfl,a,c):=vals2 r
  cases c;let(f,l,m,g):=I.tuple (bP.of k);have o:=zy l d;subst o;calc B2 I a ty m e λj=>(.bl b,H,I.tok _,rfl,q)
end
end
section
variable {a:Addr}{D:List (Str×V)}
section
variable {X:Cx}
def Xj:V->List V->Hp->VK->Prop:=λx vs H Q=>match x,vs with
 | .ref l,[y]=>∃xs,H l=some (.lst xs)/\xs.length<sizeLine/\Q .bO (upd H l (.lst (xs++[y])))
 |_,_=>False
theorem Jw{l:Addr}{y:V}{H:Hp}{Q:VK}:Xj (.ref l) [y] H Q=∃xs,H l=some (.lst xs)/\xs.length<sizeLine/\Q .bO (upd H l (.lst (xs++[y]))):=rfl
theorem cw:WO X "list.append" Xj:=by
 intro a s σ H x c v d Q I e b h
 match x,c,b,h with
 | .ref l,[y],b,(c,f,g,h)=>calc wk a s σ H _ _ v d Q I e b (l,c,y,rfl,rfl,f,g,h)
def Xk:V->List V->Hp->VK->Prop:=λx vs H Q=>match x,vs with
 | .ref l,[.ref b]=>∃xs a,H l=some (.lst xs)/\H b=some (.lst a)/\xs.length+a.length<=sizeLine/\Q .bO (upd H l (.lst (xs++a)))
 |_,_=>False
theorem Jx{l b:Addr}{H:Hp}{Q:VK}:Xk (.ref l) [.ref b] H Q=∃xs a,H l=some (.lst xs)/\H b=some (.lst a)/\xs.length+a.length<=sizeLine/\Q .bO (upd H l (.lst (xs++a))):=rfl
theorem NF:WO X "list.extend" Xk:=by
 intro a s σ H x b v d Q I e c h
 match x,b,c,h with
 | .ref l,[.ref b],c,(f,g,h,i,j,k)=>calc FA a s σ H _ _ v d Q I e c (l,b,f,g,rfl,rfl,h,i,j,k)
def Jy(a b:TE):TS:=λD σ H=>a σ H λx c=>b σ c λy a=>∃l i xs k,x=.ref l/\y=.int i/\a l=some (.lst xs)/\-(2^63)<=i/\i<2^63/\seqIndex? i xs.length=some k/\D.nx σ (upd a l (.lst (xs.eraseIdx k)))
theorem NG{o i:Expr}{a b:TE}{c pos:Pos}(d:PE X o a)(e:PE X i b):PS X (.Delete [.Subscript o i c] pos) (Jy a b):=by
 walk_at "xd";refine wpAny_Delete (wpAny_deleteEach_cons (wpAny_delete_Subscript (dy (d pins s σ H _ I h) λu a (x,b,c,f,g)=>dy (e pins a σ b _ c g) λd k j=>?_)));let(y,a,m,n,l,i,b,k,p,q,r,v,w,z,A):=j;subst p q;obtain rfl:u=Value.ref l:=f;let(t,rfl):=n;exact Ir m r v w z λb a=>wpAny_deleteEach_nil (σ,_,a,A)
structure CD(K:W.Frag)(a:Addr)(D:List (Str×V)):Prop where
 ex:∃o es ep,K.lookup a=some o/\o.ExactDict/\o.data=.dict es ep/\KTD.Rows RelV es.toList D
 ne:(a==sysModules)=false
theorem Sy{prog:Program}{w:World}{A:Around}{E:Value->Shared->Prop}{s:Shared}{o:Obj}{b:Array DictEntry}{ep:Nat}{k:Str}{f:Tok}{Q:Option Value->Shared->Prop}(j:s.heap.get? a=some o)(m:o.data=.dict b ep)(g:KTD.Rows RelV b.toList D)
  (i:∀d v,KTD.datumAt k D=some d->RelV d v->Q (some v) {s with toks:=s.toks+1}) (n:KTD.datumAt k D=none->Q none {s with toks:=s.toks+1}):wpAny (model prog w) A (dictGet a (.str k f)) Q E s:=by
 unfold dictGet
 try with_reducible refine aaN ?_
 calc F' (wpAny_pyHash_str (F' (KTD.kt_dictFind_strs (s:={s with toks:=s.toks+1}) j m (by obtain⟨l⟩:=b;simpa using g.exact) ?_)));have c:Q (findBy (λk v=>v.isStr k) b k) {s with toks:=s.toks+1}:=by
  have f:findBy (λk v=>v.isStr k) b k=(b.toList.find? λe=>e.key.isStr k).map (·.val):=by
   obtain⟨l⟩:=b;simp[findBy]
  rw[f]
  cases f:KTD.datumAt k D with
  |some d=>
   let(v,l,h):=g.find_some f;rw[l];calc i d v f h
  |none=>rw[g.find_none f];exact n f
 rw[findBy_of_findIdx?]at c
 cases d:b.findIdx? λe=>e.key.isStr k with
 |none=>rw[d]at c;calc P' c
 |some i=>rw[d]at c;calc F' (wpAny_dictEntries (s:={s with toks:=s.toks+1}) j m (P' c))
theorem B3{prog:Program}{w:World}{o:Obj}{c:Array DictEntry}{ep:Nat}{k:Str}{b:Tok}(e:o.data=.dict c ep)(f:KTD.Rows RelV c.toList D)(g:(a==sysModules)=false):
  MeetsIn prog w (Builtin.«dict.get» ([.ref a,.str k b],[])) (λ_ R s=>s.heap.get? a=some o/\(∀d v,KTD.datumAt k D=some d->RelV d v->R (.ok (.ret v)) {s with toks:=s.toks+1})/\(KTD.datumAt k D=none->R (.ok (.ret .none)) {s with toks:=s.toks+1})):=
 .of_wp λA R s (T,c,h)=>by
  show wpAny _ _ (dictGet a (.str k b) >>= _) _ _ s;calc F' (Sy T e f (λd v i j=>P' (v,rfl,c d v i j)) λe=>?_);show wpAny _ _ (Builtin.Dict.missed a (.str k b) >>= _) _ _ _;calc F' (wpAny_missed_other g (P' (.none,rfl,h e)))
def Jz(D:List (Str×V))(t:TA):TE:=λσ H Q=>t σ H λxs a=>match xs with
 | [.str k]=>Q ((KTD.datumAt k D).getD .bO) a
 |_=>False
theorem NH{n:Str}{e:Expr}{t:TA}{p b d:Pos}(C:CD X.K a D)(r:Gl X n)(v:X.mg n=some (.ref a))(w:PA X [e] t)
  (x:(n==("__debug__":Str))=false:=by decide) (y:attributeBase (.Name n p) "get" X.env (eval (.Name n p) X.env)=eval (.Name n p) X.env:=by rfl)
  (z:(b.endLine==d.line)=true:=by rfl) (l:starEach [e] X.env=[((false),eval e X.env)]:=by rfl):PE X (.Call (.Attribute (.Name n p) "get" b) [e] [] d) (Jz D t):=by
 walk_at "xc";let(o,b,n,m,f,A,B):=C.ex;refine wpAny_Call_method_late y (by rw[l];rfl) z rfl (km I r v ?_ x);have q:s.heap.get? a=some o:=I.iz a o m;refine("dict","dict.get",PySem.F.plainAttrs_dict,PySem.F.slot_dict_get,PySem.F.type_dict_get,(o,q,f.1),λb e=>?_,?_)
 ·cases e;exact(o,q,f.2.1)
 have b:=w d pins s σ H _ I h;rw[l]at b ⊢;calc Calls.callWith_builtin rfl (Calls.evalArgs_plain (dy b λn E e=>?_));let(b,g,i,j,c):=e
 match b,j,c with
 | [.str k],j,c=>
  let(u,rfl,G):=Vals.one j;let(J,rfl):=G;have e:E.heap.get? a=some o:=i.iz a o m
  replace c:Q ((KTD.datumAt k D).getD .bO) g:=c
  refine call_meetsIn PySem.F.slot_dict_get (o,e,f.1) PySem.F.entry_dict_get (PySem.F.args_dict_get_2 _ _) (B3 A B C.ne) (e,λd v b j=>?_,λe=>?_)
  ·exact(d,g,i.tok _,j,by have:=c;rw[b]at this;calc this)
  ·calc(.bO,g,i.tok _,rfl,by have:=c;rw[e]at this;calc this)
end
end
section
variable {x:Str}
section
variable {X:Cx}
theorem gh{n:Int}{pos:Pos}(a:∃t,X.mg x=some (.int n t))(b:Gl X x)(c:(x==("__debug__":Str))=false:=by decide):PE X (.Name x pos) (tC (.int n)):=by
 let(t,a):=a;calc cJ b a (t,rfl) c
end
structure cf(P:Program)(w:World)(K:W.Frag)(mg:Str->Option Value)(base:Heap)(C:Addr)(m:Str)(k:Nat)(ps:List Str)(sp:Sp):Prop where
 ex:∃f fd,Meth K C m f/\ku P w K mg base FJ k f fd ps sp/\Binds K fd ps []
structure gY(K:W.Frag)(C:Addr)(m qual:Str)(st:Stmt)(ps:List Str):Prop where
 ex:∃f fd,Meth K C m f/\IE K m qual st f fd/\Binds K fd ps []
structure zz(P:Program)(w:World)(K:W.Frag)(mg:Str->Option Value)(base:Heap)(x:Str)(C:Addr)(k:Nat)(ps:List Str)(sp:Sp):Prop where
 ex:∃f fd,Mk K C f/\ku P w K mg base FJ k f fd ps sp/\Binds K fd ps []
 mg:mg x=some (.ref C)
structure FW(K:W.Frag)(mg:Str->Option Value)(x:Str)(C:Addr)(qual:Str)(st:Stmt)(ps:List Str):Prop where
 ex:∃f fd,Mk K C f/\IE K "__init__" qual st f fd/\Binds K fd ps []
 mg:mg x=some (.ref C)
section
variable {P:Program}{w:World}{K:W.Frag}{mg:Str->Option Value}{base:Heap}
theorem gY.ok{C:Addr}{m qual:Str}{a:Stmt}{N b:List Str}{k:Nat}{sp:Sp}(T:gY K C m qual a b)(S:aD N b (ay a))(c:∀vs H Q E,sp vs H Q E->vs.length=b.length)
  (e:∀(f:Addr) (d:Value) (A:Around) (outer:List Env) (s:Shared) (H:Hp) (vs:List V) (Q:VK) (E:XK),eR k (A.deeper (envOfC qual (ay a) s.heap.objs.size f d))->sp vs H Q E->
   ∃t,vp (j7 FJ P w K mg base N qual (ay a) f d A outer s H E).HL (cP a) t/\t {nx:=λ_ a=>Q .bO a,rt:=Q} (start N vs) H):cf P w K mg base C m (k + 1) b sp:=by
 let(f,a,M,F,b):=T.ex;calc(f,a,M,F.ok S c (e f),b)
theorem FW.ok{C:Addr}{qual:Str}{a:Stmt}{N b:List Str}{k:Nat}{sp:Sp}(T:FW K mg x C qual a b)(S:aD N b (ay a))(c:∀vs H Q E,sp vs H Q E->vs.length=b.length)
  (e:∀(f:Addr) (d:Value) (A:Around) (outer:List Env) (s:Shared) (H:Hp) (vs:List V) (Q:VK) (E:XK),eR k (A.deeper (envOfC qual (ay a) s.heap.objs.size f d))->sp vs H Q E->
   ∃t,vp (j7 FJ P w K mg base N qual (ay a) f d A outer s H E).HL (cP a) t/\t {nx:=λ_ a=>Q .bO a,rt:=Q} (start N vs) H):zz P w K mg base x C (k + 1) b sp:=by
 let(f,a,M,F,b):=T.ex;calc((f,a,M,F.ok S c (e f),b),T.mg)
end
section
variable {X:Cx}{o e:Expr}{es:List Expr}{to:TE}{t:TA}{apos p pos:Pos}{C:Addr}{m x:Str}{k j:Nat}{ps:List Str}{sp:Sp}
theorem dX{pl:Sem Bool}(D:cf X.prog X.w X.K X.mg X.base C m k ps sp)(c:vq X.K C)(b:eR j X.A)(d:PE X o to)(g:PA X (e::es) t)(h:k<=j:=by decide)(i:ee e=true:=by rfl)(l:es.all ee=true:=by rfl)
  (n:eval (.Call (.Attribute o m apos) (e::es) [] pos) X.env=(do
   let a <-eval o X.env
   standAt apos.atName
   let (f,first) <-holding [a] (getMethod a m pl)
   callWith pos f first (backTo pos (starEach (e::es) X.env)) (backToKw pos (keywordEach [] X.env))):=by rfl):
  PE X (.Call (.Attribute o m apos) (e::es) [] pos) (wb C m sp [] E0 to t):=by
 let(f,p,M,F,a):=D.ex;calc M8 d c M F (b.mono h) a .nil DG g (eO i) (gf l) n
theorem eU{pl:Sem Bool}(D:cf X.prog X.w X.K X.mg X.base C m k ps sp)(c:vq X.K C)(b:eR j X.A)(d:PE X o to)(e:k<=j:=by decide)
  (g:eval (.Call (.Attribute o m apos) [] [] pos) X.env=(do
   let a <-eval o X.env
   standAt apos.atName
   let (f,first) <-holding [a] (getMethod a m pl)
   callWith pos f first (backTo pos (starEach [] X.env)) (backToKw pos (keywordEach [] X.env))):=by rfl):
  PE X (.Call (.Attribute o m apos) [] [] pos) (wb C m sp [] E0 to Fw):=by
 let(f,h,M,F,a):=D.ex;calc Ig d c M F (b.mono e) a .nil DG g
theorem JA(D:zz X.prog X.w X.K X.mg X.base x C k ps sp)(a:eR j X.A)(b:PA X (e::es) t)(c:Gl X x:=by rfl)(d:k+1<=j:=by decide)(g:(x==("__debug__":Str))=false:=by decide)
  (h:ee e=true:=by rfl) (i:es.all ee=true:=by rfl):PE X (.Call (.Name x p) (e::es) [] pos) (Dr C sp [] E0 t):=by
 let(f,m,M,F,l):=D.ex;calc M9 M F (a.mono d) c D.mg l .nil DG b g (eO h) (gf i)
end
theorem pG{K:W.Frag}{b:Bool}{a:Addr}{xs:List V}{g:TG}{l:TS}{D:Ends}{σ:St}{H:Hp}(c:Nat->St->Hp->Prop)(o:c 0 σ H)(j:∀i σ H,c i σ H->Sq b K H a xs)
  (q:∀i x σ H T,xs[i]?=some x->c i σ H->H T=none->g (.ref T) σ (upd H T (.tup [.int i,x])) λd k=>l {D with nx:=c (i+1),ct:=c (i+1),bk:=D.nx} d k) (r:∀σ H,c xs.length σ H->D.nx σ H):
  ∃W:Nat->Nat->St->Hp->Prop,(∃m,W 0 m σ H)/\∀i m σ H,W i m σ H->
   ((PM b K a).stop i H/\D.nx σ H)\/((PM b K a).go i H/\∃N:St->Hp->Prop,(∀f h,N f h->∃n,n<m/\W (i+1) n f h)/\∀x h,(PM b K a).Pr i H x h->g x σ h λd k=>l {D with nx:=N,ct:=N,bk:=D.nx} d k):=by
 calc(λi m σ H=>m=xs.length-i/\i<=xs.length/\c i σ H,(xs.length,nofun,aap _,o),?_);rintro i m σ H ⟨rfl,b,p⟩;by_cases a:i<xs.length
 ·calc .inr ((xs,xs[i],j i σ H p,dH a),c (i+1),λf h b=>(xs.length-(i+1),(),rfl,a,b),λx h y=>?_);let(T,s,rfl,y):=y;let(x,t,rfl):=y xs (j i σ H p);exact q i x σ H T t p s
 ·have e:i=xs.length:=by lia
  subst e;calc .inl ((xs,j _ σ H p,rfl),r σ H p)
theorem g9{X:Cx}{i j:Nat}{y:Str}{b c pos:Pos}{k:Nat}(d:X.calm=true)(a:X.N.Nodup)(e:X.N[i]?=some x)(f:X.N[j]?=some y)(g:Loc X.env.scope x)(h:Loc X.env.scope y)
  (l:X.fn x=true\/X.env.scope.names.lookup x=some .local:=by grind) (m:X.fn y=true\/X.env.scope.names.lookup y=some .local:=by grind):
  PG X (.Tuple [.Name x b,.Name y c] k pos) (Fl X.K 2 (j5 (fE i) (j5 (fE j) Fj))):=Bw d (iA (ba a e g l) (iA (ba a f h m) xF))
end
end L2
set_option maxHeartbeats 400000
namespace L2
open PySem PySem.Spec PyProof.Rows
def vc:V->Value
 | .ref a=>.ref a
 | .ty n=>.type n
 |_=>.none
def Xm(K:W.Frag):List V->Hp->VK->Prop:=λxs H Q=>∃a C B d c b f,xs=[.ref a,c]/\H a=some (XO a C d f)/\(∀e,d=some e->∃g,H e=some (XD e g))/\kx K C B/\(c=.ref (match c with | .ref z=>z|_=>0)\/∃n,c=.ty n)/\W.kitOne K (.ref C) (vc c)=some b/\Q (.bl b) H
theorem JB{X:Cx}:dN X (.builtin "isinstance") (Xm X.K):=by
 intro i s σ H w j Q I r h;let(a,C,B,d,c,b,x,rfl,l,m,o,e,k,q):=h;obtain⟨u,g,rfl,n,p⟩:∃u g,j=u::g/\RelV (.ref a) u/\Vals [c] g:=by cases r with|cons a b=>exact(_,_,rfl,a,b)
 let(t,rfl,f):=p.one
 cases(show u=Value.ref a from n);have v:t=vc c:=by
  rcases e with e|⟨n,e⟩
  ·rw[e]at f ⊢;exact f
  ·rw[e]at f ⊢;exact f
 subst v;calc BY I l m o k λa=>(.bl b,H,I.tok _,rfl,q)
end L2
set_option maxHeartbeats 4000000
namespace L2
open PySem PySem.Spec PyProof.Rows
variable {a:Addr}{g:Bool->Bool}{H:Hp}{ix:List (Option Nat)}{Bi:List (TE×TE)}{σ:St}{te:TE}{wi:TI}{tt:TT}{Q:VK}{K:W.Frag}
section
variable {X:Cx}{K:W.Frag}
theorem wB(a:X.K=K):dN X (.builtin "isinstance") (ND K):=a▸dP
theorem nR(a:X.K=K):dN X (.builtin "len") (Sh K):=a▸aO
theorem pH(a:X.K=K):dN X (.type "tuple") (xU K):=a▸bX
theorem lN(a:X.K=K):dN X (.type "list") (IS K):=a▸cQ
theorem NI(a:X.K=K)(b:X.A.units+64<cLine):gU X (compareOp .Eq) (Sd K):=a▸IP b
theorem eg{a b:Expr}{c d:TE}{pos:Pos}(e:X.K=K)(f:X.A.units+64<cLine)(g:PE X a c)(i:PE X b d)(h:xZ b=true:=by rfl):PE X (.Subscript a b pos) (HW (Sg K) c d):=e▸ao f g i h
theorem NJ{e:Expr}{a:TE}{f:Str}{pos:Pos}(b:X.K=K)(c:PE X e a)(d:attributeBase e f X.env (eval e X.env)=eval e X.env):PE X (.Attribute e f pos) (M6 K a f):=b▸bH c d
theorem jo{i j:Nat}{x y:Str}{a b pos:Pos}{k:Nat}(c:X.K=K)(d:X.calm=true)(e:X.N.Nodup)(f:X.N[i]?=some x)(g:X.N[j]?=some y)(h:Loc X.env.scope x)(l:Loc X.env.scope y)
  (m:X.fn x=true\/X.env.scope.names.lookup x=some .local:=by grind) (n:X.fn y=true\/X.env.scope.names.lookup y=some .local:=by grind):
  PG X (.Tuple [.Name x a,.Name y b] k pos) (Fl K 2 (j5 (fE i) (j5 (fE j) Fj))):=c▸g9 d e f g h l m n
end
inductive Xn{α:Sort _}(x:α):Type
 |mk
def acq(ix:List (Option Nat))(wi:TI)(g:TG)(tt:TT)(te:TE)(_:Xn ((ix),wi,g,tt,te)):TE:=W4 ix wi g tt te
theorem DR{g:TG}:W4 ix wi g tt te=acq ix wi g tt te .mk:=rfl
def Xo(wi:TI)(g:TG)(a:TS)(_:Xn ((wi),g,a)):TS:=Rz wi g a
theorem zA{g:TG}{a:TS}:Rz wi g a=Xo wi g a .mk:=rfl
def NK(a:TT)(b:TS)(_:Xn ((a),b)):TS:=xG a b
theorem tQ{a:TT}{b:TS}:xG a b=NK a b .mk:=rfl
theorem bI{g:TG}(h:wi σ H λJ a=>∀D,a D=none->lM ix J g tt te σ a Q D):W4 ix wi g tt te σ H Q:=h
def NL(ix:List (Option Nat))(J:It)(g:TG)(tt:TT)(te:TE)(σ:St)(H:Hp)(Q:VK)(D:Addr)(_:Xn ((ix),J,g,tt,te,σ,H,Q,D)):Prop:=lM ix J g tt te σ H Q D
theorem tR{J:It}{g:TG}{D:Addr}:lM ix J g tt te σ H Q D=NL ix J g tt te σ H Q D .mk:=rfl
theorem B4:Xa g (.ref a) .bO H Q=Q (.bl (g false)) H:=by
 show Q (.bl (g (decide (V.ref a=.bO)))) H=_;simp
theorem B5:Xa g .bO .bO H Q=Q (.bl (g true)) H:=by
 show Q (.bl (g (decide (V.bO=.bO)))) H=_;simp
theorem au.Vk{b:Hp}(s:au H b){a:Addr}{xs:List V}(h:bP K H a xs):bP K b a xs:=by
 rcases h with(h|⟨o,h⟩)|h
 ·exact .inl (.inl (s _ _ h))
 ·exact .inl (.inr (o,s _ _ h))
 ·calc .inr h
theorem kd{α:Type}(x:α)(n:Nat):List.replicate n x++[x]=List.replicate (n+1) x:=by
 rw[List.replicate_succ',]
theorem qp(n:Nat):List.replicate n (V.bl true)=(List.replicate n true).map V.bl:=by simp
theorem eF{xs:List V}{i:Int}{v:V}{P:V->Prop}(h:H a=some (.tup xs))(e:jc xs i=some v)(k:P v):∃xs v,(aY K H a xs\/bP K H a xs)/\jc xs i=some v/\P v:=(xs,v,.inr (bP.of h),e,k)
theorem bG{xs:List V}{i:Int}{v:V}{P:V->Prop}(h:H a=some (.lst xs))(e:jc xs i=some v)(k:P v):∃xs v,(aY K H a xs\/bP K H a xs)/\jc xs i=some v/\P v:=(xs,v,.inl (aY.of h),e,k)
def SH(Bi:List (TE×TE))(_:Xn Bi):TE:=DC Bi
theorem wC:DC Bi=SH Bi .mk:=rfl
theorem NM(h:∀p,H p=none->qm Bi σ (upd H p (.dK [])) λd b=>b p=some (.dK [])/\∃a:List (Key×V),d=a.map (λc=>((kV c.1),c.2))/\a.length<=15/\Q (.ref p) (upd b p (.dK (nO [] a)))):DC Bi σ H Q:=h
end L2
set_option maxHeartbeats 400000
namespace L2
open PySem PySem.Spec PyProof.Rows
section
section
variable {X:Cx}{K:W.Frag}
theorem qr(a:X.K=K):dN X (.builtin "isinstance") (Xm K):=a▸JB
end
end
section
variable {L:Addr}{outer:List Env}
def rT(h:Heap)(e:Addr)(T:Option Addr)(d:Value):Prop:=
 ∃a vs,h.get? e=some a/\a.data=.fields vs/\((T=none/\vs[1]?=some .none)\/∃t b c,T=some t/\t≠e/\vs[1]?=some (.ref t)/\h.get? t=some b/\b.data=.fields c/\c[3]?=some d)
structure Chg(S:List Addr)(e:Addr)(T:Option Addr)(h h':Heap):Prop where
 keep:∀b o,b≠e->T≠some b->b∉S->h.get? b=some o->h'.get? b=some o
 slot:∀b o,b≠e->T≠some b->h.get? b=some o->∃sl,h'.get? b=some {o with slots:=sl}
 Xp:∀o vs,h.get? e=some o->o.data=.fields vs->∃PR,h'.get? e=some {o with data:=.fields PR}
 acs:∀t o,T=some t->h.get? t=some o->∃o',h'.get? t=some o'
 size:h.objs.size<=h'.objs.size
theorem tS{o:Obj}{vs:Array Value}{f:Array Value->Array Value}(a:o.data=.fields vs):o.mapFields f={o with data:=.fields (f vs)}:=by
 let(c,d,b,e):=o
 cases a;rfl
section
variable {M:Model}{A:Around}{E:Value->Shared->Prop}{s:Shared}
theorem entry_at{base:Heap}{env:Env}{e:Addr}{i:Obj}{vs:Array Value}{d:Value}{y:Bool}{Q:Unit->Shared->Prop}
  (z:A.frames=some (env::outer)) (u:s.heap.FunFrames base (env::outer)) (B:env.frame=some L)
  (q:s.heap.get? e=some i) (n:i.data=.fields vs) (hsz:1<vs.size)
  (h:∀h' t,s.heap.objs.size<=t->Chg (yQ (env::outer)) e none s.heap h'->rT h' e (some t) (rawInt L)->Q ⟨⟩ {s with heap:=h'}):
  wpAny M A (do let a <-frameOf env;let pl <-entryPlaceOf L y;let b <-EntryCells.newEntry d a .none (rawInt L) .none pl;setField (.ref e) 1 b) Q E s:=by
 have r:e∉(env::outer).filterMap (·.frame):=λC=>by
  let(_,o,g,F):=u.mem C;rw[q]at g;injection g with g;subst g;exact F vs n
 calc F' (wpAny_frameOf_fun z u B λc p=>?_);calc F' (wpAny_entryPlaceOf λpl v=>?_);unfold EntryCells.newEntry newFields;calc F' (aaY ?_ (v.sizeOk5 _ _ _ _ _));have g:c.get? e=some i:=(p.2.1 e r).trans q;have i:=K' (h:=c) {cls:=.type "traceback",dict:=none,data:=.fields ([d,.ref L,.none,rawInt L,.none]++(if pl.isEmpty then List.replicate 6 Value.none else pl)).toArray} g;have w:c.objs.size≠e:=aaJ (R' g);have j:=Obj.data_mapFields n (·.setIfInBounds 1 (Value.ref c.objs.size));have k:=aa4 (Obj.mapFields (·.setIfInBounds 1 (Value.ref c.objs.size))) i (Obj.isFreed_of_fields j);have l:=(aaQ (c.push {cls:=.type "traceback",dict:=none,data:=.fields ([d,.ref L,.none,rawInt L,.none]++(if pl.isEmpty then List.replicate 6 Value.none else pl)).toArray})
  (Obj.mapFields (·.setIfInBounds 1 (Value.ref c.objs.size))) (Ne.symm w)).trans (Y' c rfl)
 have g:∀b o,b≠e->c.get? b=some o->
   ((c.push {cls:=.type "traceback",dict:=none,data:=.fields ([d,.ref L,.none,rawInt L,.none]++(if pl.isEmpty then List.replicate 6 Value.none else pl)).toArray}).update e (Obj.mapFields (·.setIfInBounds 1 (Value.ref c.objs.size)))).get? b=some o:=
  λb o e d=>by
   rw[aaQ _ _ (Ne.symm e)];exact K' _ d
 refine wpAny_setField i n hsz (h _ c.objs.size (by rw[p.1];calc L' _) (λb o d _ e m=>g b o d ((p.2.1 b e).trans m),λb o d _ m=>?_,λo e m x=>?_,λt o z _=>(nomatch z),?_) ?_)
 ·let(e,i):=p.2.2 b o m;exact(e,g b _ d i)
 ·rw[q] at m
  cases m;rw[n]at x
  cases x;exact(_,by rw[k,tS n])
 ·rw[aaV,aay,p.1];exact aa2 _
 ·calc(_,_,k,j,.inr (c.objs.size,_,_,rfl,w,by simp[hsz],l,rfl,by first|(simp;done)|(rcases v with rfl|⟨_,_,_,_,_,_,_,rfl⟩<;>simp)))
theorem NO{base:Heap}{env:Env}{e:Addr}{T:Option Addr}{Q:Unit->Shared->Prop}
  (u:A.frames=some (env::outer)) (v:s.heap.FunFrames base (env::outer)) (m:env.frame=some L) (n:rT s.heap e T .none)
  (h:∀h' t,s.heap.objs.size<=t->Chg (yQ (env::outer)) e T s.heap h'->rT h' e (some t) (rawInt L)->Q ⟨⟩ {s with heap:=h'}):wpAny M A (noteFrame (.ref e) env) Q E s:=by
 let(w,vs,j,g,n):=n;unfold noteFrame;simp only[m];rcases n with⟨rfl,i⟩|⟨t,C,x,rfl,p,i,k,l,w⟩
 ·calc F' (aaB j g i ?_);rw[if_neg ∅];exact entry_at u v m j g (Array.getElem?_eq_some_iff.mp i).1 h
 ·calc F' (aaB j g i ?_);rw[if_pos (show(Value.ref t !=Value.none)=true from by simp)];calc F' (aaB k l w ?_);rw[if_neg (show ¬((Value.none==rawInt L)=true) from by simp[rawInt])];calc F' (wpAny_setField k l (Array.getElem?_eq_some_iff.mp w).1 ?_);have a:∀b,b≠t->(s.heap.update t (Obj.mapFields (·.setIfInBounds 3 Value.none))).get? b=s.heap.get? b:=λb d=>aaQ _ _ (Ne.symm d);have y:∀b o,s.heap.get? b=some o->(∀vs,o.data≠.fields vs)->b≠t:=λb o d r q=>by
   rw[q,k]at d;injection d with d;subst d;exact r x l
  have B:=aa4 (Obj.mapFields (·.setIfInBounds 3 Value.none)) k (Obj.isFreed_of_fields (Obj.data_mapFields l _));refine entry_at u (v.of_keeps λb o d r=>(o,(a b (y b o d r)).trans d,rfl)) m ((a e (Ne.symm p)).trans j) g (Array.getElem?_eq_some_iff.mp i).1 λh' k l c n=>h h' k ?_ ?_ n
  ·have:=l;rw[aaV]at this;exact this
  ·refine(λb o d j k i=>c.keep b o d (λz=>nomatch z) k ((a b (λz=>j (by rw[z]))).trans i),λb o d j i=>c.slot b o d (λz=>nomatch z) ((a b (λz=>j (by rw[z]))).trans i),λo vs i g=>c.Xp o vs ((a e (Ne.symm p)).trans i) g,λb o z i=>?_,?_)
   ·cases z;let(a,q):=c.slot t _ p (λz=>nomatch z) B;exact(_,q)
   ·have:=c.size;rw[aaV]at this;calc this
theorem FX{e t:Addr}{d:Value}{Q:Unit->Shared->Prop}(a:rT s.heap e (some t) d)
  (h:∀h',(∀b o,b≠t->s.heap.get? b=some o->h'.get? b=some o)->h'.objs.size=s.heap.objs.size->rT h' e (some t) .none->Q ⟨⟩ {s with heap:=h'}):wpAny M A (setFlight (.ref e) none) Q E s:=by
 let(n,vs,g,i,a):=a;rcases a with⟨z,_⟩|⟨d,m,p,z,j,k,l,c,q⟩
 ·cases z
 cases z;have m:3<p.size:=(Array.getElem?_eq_some_iff.mp q).1;unfold setFlight;calc F' (aaB g i k ?_);rw[if_pos (show(Value.ref t !=Value.none)=true from by simp)];have a:∀b,b≠t->(s.heap.update t (Obj.mapFields (·.setIfInBounds 3 ((none:Option Addr).elim Value.none λf=>rawInt f)))).get? b=s.heap.get? b:=
  λb d=>aaQ _ _ (Ne.symm d)
 calc wpAny_setField l c m (h _ (λb o d p=>(a b d).trans p) (aaV ..) ?_);calc(n,vs,(a e (Ne.symm j)).trans g,i,.inr (t,_,_,rfl,j,k,aa4 _ l (Obj.isFreed_of_fields (Obj.data_mapFields c _)),Obj.data_mapFields c _,by simp[m]))
end
section
variable {X:Cx}{pins:List (Addr×Obj)}{σ:St}{H:Hp}{s:Shared}{e C:Addr}{d:Option Addr}{fl:Bool}{T:Option Addr}{h':Heap}
def zB(X:Cx)(pins:List (Addr×Obj))(H:Hp)(t:Addr):Prop:=H t=none/\X.s₀.heap.objs.size<=t/\t≠X.env.locals/\(∀x c,X.env.cells.lookup x=some c->c≠t)/\∀p∈X.pn++pins,p.1≠t
theorem Inv.Xu(I:Inv X pins σ H s){t:Addr}(h:s.heap.objs.size<=t):zB X pins H t:=by
 refine(I.aW.fresh h,aar I.sz h,aaJ (V' I.lt h),λx c a=>?_,λp b=>?_)
 ·let(v,o,d):=I.cell x c a;exact aai (V' (R' d.1) h)
 ·calc aai (V' (R' (I.pin p b).1) h)
theorem Inv.chg(I:Inv X pins σ H s)(a:H e=some (XO e C d fl))(c:Chg (yQ X.stack) e T s.heap h')(r:∀t,T=some t->zB X pins H t):Inv X pins σ (upd H e (XO e C d false)) {s with heap:=h'}:=by
 let(y,n,k,_):=x6 I a;let(y,v):=c.Xp _ _ k rfl;have w:∀b u,H b=some u->T≠some b:=λb u q z=>by rw[(r b z).1]at q;cases q
 have x:∀b o,s.heap.get? b=some o->∃k,h'.get? b=some k:=λb o g=>by
  by_cases z:b=e
  ·subst z;exact(_,v)
  ·by_cases k:T=some b
   ·exact c.acs b o k g
   ·let(n,q):=c.slot b o z k g;exact(_,q)
 have j:∀b,H b=none->b≠e:=λb q z=>by rw[z,a]at q;cases q
 refine I.call (g':=s.gens) (t':=s.toks) (d':=s.drawn) (ch:=T.toList) (λb o g n y k=>c.keep b o (j b n) (λz=>k (by simp[z])) y g,λb o g n _ k=>c.slot b o (j b n) (λz=>k (by simp[z])) g,λb o _ n _=>by rw[az (j b n)];calc n,λb o g _=>x b o g,λb A q=>?_,λb o u q=>?_,λb j q=>?_) (λb u q=>?_) I.bare (λb l=>?_)
 ·rw[az (λz=>by rw[z,a]at q;cases q)];exact q
 ·rw[az (λz=>by rw[z,a]at q;cases q)];exact q
 ·rw[az (λz=>by rw[z,a]at q;cases q)];exact(#[],by simp[q])
 ·by_cases z:b=e
  ·subst z;rw[af] at q
   cases q;exact PH v (λz=>nomatch z)
  ·rw[az z] at q;refine(I.aW b u q).aL (λi B f g=>?_) (λi h=>?_) (λi A h=>?_)
   ·have m:i≠e/\T≠some i/\i∉yQ X.stack:=by
     rcases f with rfl|f
     ·exact(z,w _ _ q,λp=>by rw[I.sx _ p]at q;cases q)
     ·exact⟨(λz=>by rw[z,a]at f;cases f),w _ _ f,(λp=>by rw[I.sx _ p]at f;cases f)⟩
    exact c.keep i B m.1 m.2.1 m.2.2 g
   ·rw[az (λz=>by rw[z,a]at h;cases h)];exact h
   ·rw[az (λz=>by rw[z,a]at h;cases h)];exact h
 ·have e:T=some b:=by
   cases T with
   |none=>simp at l
   |some t=>simp at l;rw[l]
  let(h,a,c,f,g):=r b e;calc(.inr a,c,f,g)
theorem Inv.acv(I:Inv X pins σ H s){t:Addr}(o:zB X pins H t)(k:∀b o,b≠t->s.heap.get? b=some o->h'.get? b=some o):Inv X pins σ H {s with heap:=h'}:=
 I.turned (t':=s.toks) k o.1 o.2.2.1 (.inr o.2.1) o.2.2.2.1 o.2.2.2.2
end
def wD(P:Program)(w:World):Ie:=λouter H s E e s'=>∃a C d b t,e=.ref a/\s'.os=s.os/\AllBare s'.gens/\Un (yQ outer) [] H b s.heap s'.heap/\nz P w b s'.heap/\b a=some (XO a C d false)/\
 rT s'.heap a (some t) .none/\b t=none/\s.heap.objs.size<=t/\E e none b
section
variable {X:Cx}{pins:List (Addr×Obj)}{σ:St}{H:Hp}{s:Shared}{a C:Addr}{d:Option Addr}{fl:Bool}{T:Option Addr}{h':Heap}{E:XK}{E1:Value->Shared->Prop}
theorem zC{Q:Unit->Shared->Prop}(b:X.stack=X.env::outer)(i:X.env.frame=some L)(I:Inv X pins σ H s)(f:H a=some (XO a C d fl))(j:rT s.heap a T .none)(k:∀t,T=some t->zB X pins H t)
  (h:∀h' t,Inv X pins σ (upd H a (XO a C d false)) {s with heap:=h'}->rT h' a (some t) (rawInt L)->zB X pins (upd H a (XO a C d false)) t->s.heap.objs.size<=t->Q ⟨⟩ {s with heap:=h'}):wpAny (model X.prog X.w) X.A (noteFrame (.ref a) X.env) Q E1 s:=by
 have e:X.A.frames=some (X.env::outer):=by rw[<-b];exact I.ok.frames
 have l:s.heap.FunFrames X.base (X.env::outer):=by rw[<-b];exact I.stack
 calc NO e l i j λh' t g c m=>?_;rw[<-b]at c;have e:=I.chg f c k;have o:=I.Xu g;calc h h' t e m (?_,o.2) g;rw[az (λz=>by have:=o.1;rw[z,f]at this;cases this)];calc o.1
theorem tU{t:Addr}{b:Value}{Q:Unit->Shared->Prop}{A:Around}(I:Inv X pins σ H s)(c:rT s.heap a (some t) b)(o:zB X pins H t)
  (h:∀h',Inv X pins σ H {s with heap:=h'}->rT h' a (some t) .none->Q ⟨⟩ {s with heap:=h'}):wpAny (model X.prog X.w) A (setFlight (.ref a) none) Q E1 s:=
 FX c λh' k _ b=>h h' (I.acv o k) b
theorem zD(b:X.stack=X.env::outer)(g:X.outer=outer)(e:X.ex=[])(c:X.env.frame=some L)(I:Inv X pins σ H s)(f:H a=some (XO a C d fl))(h:rT s.heap a T .none)(i:∀t,T=some t->zB X pins H t)
  (j:E (.ref a) none (upd H a (XO a C d false))):wpAny (model X.prog X.w) X.A (leaving X.env (.ref a)) (λ_ k=>wD X.prog X.w outer X.H₀ X.s₀ E (.ref a) k) E1 s:=by
 unfold leaving;calc F' (zC b c I f h i λk t l m o n=>?_);calc tU (s:={s with heap:=k}) l m o λb c f=>?_;have b:=c.base;rw[e,Cx.fs,g]at b;calc(a,C,d,_,t,rfl,c.os,c.bare,b,c.aW,af,f,o.1,aar I.sz n,j)
end
def Throws(X:Cx)(E:XK):Prop:=∀(pins:List (Addr×Obj)) (σ:St) (H:Hp) (s:Shared) (a C:Addr) (d:Option Addr),Inv X pins σ H s->H a=some (XO a C d true)->E (.ref a) none (upd H a (XO a C d false))->X.xe (.ref a) s
theorem JD{H:Hp}{a:Addr}{o:HO}(h:H a=some o):upd H a o=H:=by
 funext b;by_cases z:b=a
 ·subst z;rw[af];exact h.symm
 ·calc az z
section
variable {P:Program}{w:World}{K:W.Frag}{mg:Str->Option Value}{base:Heap}{N:List Str}{qual:Str}{scope:Scope}{f:Addr}{cd:Value}{A:Around}{outer:List Env}{s:Shared}{H:Hp}{E:XK}
theorem DS:Throws (j7 (wD P w) P w K mg base N qual scope f cd A outer s H E) E:=by
 intro b σ j k a C d I c e;let(g,l,h,i):=x6 I c;calc zD (X:=j7 (wD P w) P w K mg base N qual scope f cd A outer s H E) (T:=none) rfl rfl rfl rfl I c (_,g,h,rfl,.inl (rfl,i rfl)) (λt z=>nomatch z) e
theorem Inv.thrown{X:Cx}{pins:List (Addr×Obj)}{σ:St}{H:Hp}{s s':Shared}{e:Value}(I:Inv X pins σ H s)(h:wD X.prog X.w X.stack H s E e s'):
  ∃a C d c t,e=.ref a/\Inv X pins σ c s'/\c a=some (XO a C d false)/\rT s'.heap a (some t) .none/\zB X pins c t/\E e none c:=by
 let(a,C,d,c,t,rfl,f,e,g,i,j,k,l,m,q):=h;have n:Inv X pins σ c s':=I.Pp (ch:=[]) f g i e λb z=>absurd z nofun;calc(a,C,d,c,t,rfl,n,j,k,(l,(I.Xu m).2),q)
theorem dF:Passes (wD P w) (j7 (wD P w) P w K mg base N qual scope f cd A outer s H E) E:=by
 intro b σ j k e l I h;let(a,C,d,m,t,rfl,g,c,i,o,q):=I.thrown h;calc zD (X:=j7 (wD P w) P w K mg base N qual scope f cd A outer s H E) (T:=some t) rfl rfl rfl rfl g c i (λa z=>by cases z;calc o) (by rw[JD c];calc q)
theorem acw:PassesOwn (model P w) (j7 (wD P w) P w K mg base N qual scope f cd A outer s H E).A (j7 (wD P w) P w K mg base N qual scope f cd A outer s H E).env (j7 (wD P w) P w K mg base N qual scope f cd A outer s H E).xe:=PassesOwn.leaving
end
end
section
section
variable {M:Model}{A:Around}{E:Value->Shared->Prop}{env:Env}{K:W.Frag}
theorem FY{s:Shared}{x:Sem Value}{Q:Flow->Shared->Prop}(f:A.handled=none)
  (h:wpAny M A x (λv a=>∃e C B d vs c,v=.ref e/\K.In a.heap/\kx K C B/\a.heap.get? e=some ((.ref C,d,.fields vs,c):Obj)/\vs[1]?=some .none/\E (.ref e) a) E s):
  wpAny M A (raiseStmt env (some x) none) Q E s:=by
 unfold raiseStmt;calc F' (aaH h (λv a b=>?_) λ_ _ x=>x);let(e,C,B,d,vs,c,rfl,g,h,i,j,k):=b;let(l,q,N,m,n,c,o,d,p,r,s,t,u,v,e):=h.ob;have b:=g _ _ e;have c:(Value.ref C::.ref B::tL).contains (.type "BaseException")=true:=rfl;let(d,g,e,h,l):=a
 repeat (first|with_reducible calc aaC i ?_|with_reducible calc aaC b ?_|(with_reducible calc aaZ b ?_;rw[c])|wp_step)
 rw[j];calc P' ?_;rw[if_neg ∅];calc P' ?_;calc wpAny_raiseNew_none f k
end
def JE(K:W.Frag)(E:XK)(a:TE):TS:=λ_ σ H=>a σ H λx b=>∃a C B d,x=.ref a/\b a=some (XO a C d true)/\kx K C B/\E (.ref a) none (upd b a (XO a C d false))
section
variable {X:Cx}{E:XK}{e:Expr}{te:TE}{pos:Pos}
theorem zE(f:X.calm=true)(g:Throws X E)(i:PE X e te):PS X (.Raise (some e) none pos) (JE X.K E te):=by
 walk_at "xd";rw[arm_exec_Raise];refine F' (wpAny_standAt ?_);show wpAny _ _ (raiseStmt X.env (some (do let v <-eval e X.env;standAt pos;pure v)) none) _ _ _;refine FY (K:=X.K) (I.ok.hd f) (F' (dy (i pins s σ H _ I h) λv j (x,k,b,l,a,C,B,d,m,c,n,q)=>F' (wpAny_standAt (P' ?_))));subst m;obtain rfl:v=Value.ref a:=l;let(f,i,m,o):=x6 b c;exact(a,C,B,d,f,i,rfl,b.iz,n,m,o rfl,g pins σ k j a C d b c q)
end
section
variable {P:Program}{w:World}{K:W.Frag}{mg:Str->Option Value}{base:Heap}
theorem IE.okx{x qual:Str}{a:Stmt}{f:Addr}{e:FuncData}{N c:List Str}{k:Nat}{sp:Sp}(F:IE K x qual a f e)(S:aD N c (ay a))(d:∀vs H Q E,sp vs H Q E->vs.length=c.length)
  (g:∀(b:Value) (A:Around) (outer:List Env) (s:Shared) (H:Hp) (vs:List V) (Q:VK) (E:XK),eR k (A.deeper (envOfC qual (ay a) s.heap.objs.size f b))->sp vs H Q E->
   ∃t,vp (j7 (wD P w) P w K mg base N qual (ay a) f b A outer s H E) (cP a) t/\t {nx:=λ_ a=>Q .bO a,rt:=Q} (start N vs) H):ku P w K mg base (wD P w) (k + 1) f e c sp:=by
 let(i,j,kV,h,l,m,b,n,o,rfl,a,c):=F.ex;calc Pt a c S d λA outer s H vs Q E e f=>g b A outer s H vs Q E e f
structure DefX(P:Program)(w:World)(K:W.Frag)(mg:Str->Option Value)(base:Heap)(x:Str)(k:Nat)(ps:List Str)(sp:Sp):Prop where
 ex:∃f fd,ku P w K mg base (wD P w) k f fd ps sp/\mg x=some (.ref f)/\W.keepIn K (.ref f)=true/\Binds K fd ps []
theorem cE.okx{x qual:Str}{a:Stmt}{N b:List Str}{k:Nat}{sp:Sp}(T:cE K mg x qual a b)(S:aD N b (ay a))(c:∀vs H Q E,sp vs H Q E->vs.length=b.length)
  (e:∀(f:Addr) (d:Value) (A:Around) (outer:List Env) (s:Shared) (H:Hp) (vs:List V) (Q:VK) (E:XK),eR k (A.deeper (envOfC qual (ay a) s.heap.objs.size f d))->sp vs H Q E->
   ∃t,vp (j7 (wD P w) P w K mg base N qual (ay a) f d A outer s H E) (cP a) t/\t {nx:=λ_ a=>Q .bO a,rt:=Q} (start N vs) H):DefX P w K mg base x (k + 1) b sp:=by
 let(f,a,F,b,d):=T.ex;calc(f,a,F.okx S c (e f),b,F.kp,d)
end
section
variable {X:Cx}{o e:Expr}{es:List Expr}{to:TE}{t:TA}{apos p pos:Pos}{C:Addr}{m x:Str}{k j:Nat}{ps:List Str}{sp:Sp}{E:XK}
theorem di(D:DefX X.prog X.w X.K X.mg X.base x k ps sp)(a:Passes (wD X.prog X.w) X E)(b:eR j X.A)(c:PA X (e::es) t)(d:Gl X x:=by rfl)(g:k<=j:=by decide)
  (h:(x==("__debug__":Str))=false:=by decide) (i:ee e=true:=by rfl) (l:es.all ee=true:=by rfl):PE X (.Call (.Name x p) (e::es) [] pos) (tj sp [] E t):=by
 let(f,q,F,m,n,o):=D.ex;calc Ds F (b.mono g) d m n o .nil a c h (eO i) (gf l)
end
structure PEX(X:Cx)(e:Expr)(t:XK->TE):Prop where
 out:∀(pins:List (Addr×Obj)) (s:Shared) (σ:St) (H:Hp) (Q:VK) (E:XK) (xe:Value->Shared->Prop),(∀H1 s1 x s',Inv X pins σ H1 s1->wD X.prog X.w X.stack H1 s1 E x s'->xe x s')->Inv X pins σ H s->t E σ H Q->
  wpAny (model X.prog X.w) X.A (eval e X.env) (EP X pins σ Q) xe s
section
variable {X:Cx}{k j:Nat}{f C:Addr}{fd:FuncData}{ps:List Str}{sp:Sp}{E:XK}{x m:Str}{p pos apos:Pos}{e o:Expr}{es:List Expr}{ta:TE}{t:TA}
theorem PA.any{xe:Value->Shared->Prop}(a:PA X.HL es t){pins:List (Addr×Obj)}{s:Shared}{σ:St}{H:Hp}{Q:List V->Hp->Prop}(I:Inv X pins σ H s)(h:t σ H Q)(pos:Pos):
  wpAny (model X.prog X.w) X.A (spliced (backTo pos (starEach es X.env))) (AP X pins σ Q) xe s:=
 aaH (a.out pos pins s σ H Q (I.sY _) h) (λ_ _ (b,c,d,r,q)=>(b,c,d.ko,r,q)) λ_ _ z=>aaA z
theorem NQ{pins:List (Addr×Obj)}{σ:St}{H:Hp}{s:Shared}{Q:VK}{us:List Value}{vs:List V}{xe:Value->Shared->Prop}(F:ku X.prog X.w X.K X.mg X.base (wD X.prog X.w) k f fd ps sp)(d:eR k X.A)(g:Binds X.K fd ps [])
  (i:∀b c x s',Inv X pins σ b c->wD X.prog X.w X.stack b c E x s'->xe x s') (I:Inv X pins σ H s) (r:Vals vs us) (h:sp vs H Q E):wpAny (model X.prog X.w) X.A (call (.ref f) us) (EP X pins σ Q) xe s:=by
 have b:(us++[]).length=ps.length:=by rw[aan,<-r.length];exact F.len _ _ _ _ h
 have c:Vals vs (us++[]):=by rw[aan];exact r
 refine wpAny_call (codeAny_mono (F.run X.A X.stack s H (us,[]) (us++[]) vs Q E d I.RL (g s us I.iz b) c h) λr s' a=>?_)
 cases r with
 |error e=>calc i H s e s' I a
 |ok j=>
  cases j with
  |ret u=>calc I.after a
  |next=>calc aaA a
  |brk=>calc aaA a
  |cont=>calc aaA a
theorem SI(D:DefX X.prog X.w X.K X.mg X.base x k ps sp)(b:eR j X.A)(c:PA X.HL (e::es) t)(d:Gl X x:=by rfl)(g:k<=j:=by decide)(i:(x==("__debug__":Str))=false:=by decide)
  (l:ee e=true:=by rfl) (m:es.all ee=true:=by rfl):PEX X (.Call (.Name x p) (e::es) [] pos) (λE=>tj sp [] E t):=by
 let(f,fd,F,n,o,u):=D.ex;calc⟨λa s σ H Q E q v I h=>?_⟩;calc wpAny_Call_Name_kw (km I d n ?_ i);calc W.callWith_K (h₀:=X.base) I.ok.mod.Br o (dy (c.any I h pos) λd i (n,s,a,r,q)=>(a.iz,?_)) (eO l) (gf m);calc NQ F (b.mono g) u v a r (by have:=q;simp only[List.append_nil]at this;calc this)
end
structure PSX(X:Cx)(st:Stmt)(t:XK->TS):Prop where
 out:∀(pins:List (Addr×Obj)) (s:Shared) (σ:St) (H:Hp) (D:Ends) (E:XK) (xe:Value->Shared->Prop),(∀H1 s1 x s',Inv X pins σ H1 s1->wD X.prog X.w X.stack H1 s1 E x s'->xe x s')->Inv X pins σ H s->t E D σ H->
  wpAny (model X.prog X.w) X.A (exec st X.env) (SP X pins D) xe s
section
variable {X:Cx}{e:Expr}{t:XK->TE}{pos pos':Pos}{x:Str}{i:Nat}
theorem JF(b:PEX X e t)(c:swapsWith e none pos.line X.env=pure false:=by rfl):PSX X (.Expr e pos) (λE=>y0 (t E)):=
 ⟨λa s σ H D E d f I h=>wpAny_Expr_any (dy (b.out a s σ H _ E d f I h) λv k (x,g,i,l,j)=>(σ,g,i,j)) I.quiet c⟩
end
end
section
structure XBase(K:W.Frag)(B:Addr):Prop where
 ob:∃nm q N bs sn sub ab col dd k0 k1 k2 k3 k5,K.lookup B=some (excClassObj nm q B N bs tL true sn sub ab col dd k0 k1 k2 k3 k5 "ValueError.__new__")
section
variable {M:Model}{A:Around}{E:Value->Shared->Prop}{K:W.Frag}
theorem acx{s:Shared}{e C B:Addr}{d:Option Addr}{vs:Array Value}{b:Array (Option Value)}{Q:Bool->Shared->Prop}(a:K.In s.heap)(c:kx K C B)(f:XBase K B)(i:s.heap.get? e=some ((.ref C,d,.fields vs,b):Obj))
  (d:Q true s):wpAny M A (excMatches (.ref e) (.ref B)) Q E s:=by
 let(h,q,N,j,k,b,l,e,m,n,o,p,r,t,g):=c.ob;have b:=a _ _ g;let(c,t,u,e,h,j,k,l,v,m,n,o,p,q,r):=f.ob;have c:=a _ _ r;let(h,g,e,t,f):=s;have e:(Value.ref B::tL).contains (.type "BaseException")=true:=rfl;have a:(Value.ref C::.ref B::tL).contains (.ref B)=true:=by simp
 have f:=tc_notTuple;unfold excMatches
 repeat (first|with_reducible calc aaC i ?_|with_reducible calc aaC b ?_|with_reducible calc aaC c ?_|(with_reducible calc aaZ b ?_;rw[a])|(with_reducible calc aaZ c ?_;rw[e])|wp_step)
 calc d
end
abbrev Cx.qt(X:Cx)(a:Addr):Cx:={X with A:=X.A.mark (some (.ref a)),calm:=false,xe:=λ_ _=>False}
section
variable {X:Cx}{pins:List (Addr×Obj)}{σ:St}{H:Hp}{s:Shared}{a:Addr}
theorem Cx.Ok.qt(b:X.Ok)(a:Addr):(X.qt a).Ok:=
 (b.mod,b.kind,b.glob,b.blt,b.above,b.inj,b.has,b.Rj,(λz=>nomatch z),b.frames,b.U9,b.Wq,b.bs,b.Hm,b.yY,b.Bs,b.pq,b.MV)
theorem Inv.qt(I:Inv X pins σ H s)(a:Addr):Inv (X.qt a) pins σ H s:=(I.ok.qt a,I.os,I.bare,I.base,I.loc,I.cell,I.free,I.jk,I.pin,I.aW,I.len)
theorem Inv.yc(b:X.Ok)(I:Inv (X.qt a) pins σ H s):Inv X pins σ H s:=(b,I.os,I.bare,I.base,I.loc,I.cell,I.free,I.jk,I.pin,I.aW,I.len)
theorem sD{M:Model}{A:Around}{E:Value->Shared->Prop}{i:Nat}{n:Str}{pos:Pos}{Q:Unit->Shared->Prop}(I:Inv X pins σ H s)(C:X.N.Nodup)(r:X.N[i]?=some n)(o:X.env.scope.names.lookup n=some .local)
  (h:∀s',Inv X pins (σ.set i none) H s'->Q ⟨⟩ s'):wpAny M A (do bindName X.env n .none;unbindBehindTheSuite X.env n pos) Q E s:=by
 calc F' (wpAny_bindName (j4 I C r (.inl o) (v:=.bO) (u:=.none) rfl (λm a=>?_) (.inr o)));have z:i<σ.length:=by rw[I.len];exact(List.getElem?_eq_some_iff.mp r).1
 let(m,F,G):=id a.loc;have J:X.env.kindOf n=some .local:=o;have B:(X.env.scope.kind == .class||(X.env.scope.kind == .module&&X.env.locals !=X.env.globals))=false:=by rw[I.ok.kind];rfl
 have d:∃u,m n=some u:=by
  let(u,_,q):=G i n .bO r (aa1 z) (.inl o);rcases q with⟨_,e⟩|⟨k,_⟩
  ·exact(u,e)
  ·rcases k with k|k<;>(rw[J]at k;cases k)
 let(m,d):=d;have K:=a.HE;let(m,_,_,o,_):=id F;unfold unbindBehindTheSuite;calc wpAny_onRaise ?_;unfold unbindName;calc F' (wpAny_point (F' ?_));unfold deleteName;simp only[J,B];rw[if_neg ∅];calc F' (wpAny_nsDel_keeps F λm v u g=>?_);rw[d];simp only[if_true,Option.isSome_some,Bool.not_true,Bool.false_eq_true,if_false];refine P' (wpAny_point (h _ (a.ok,a.os,a.bare,(λb o e n v m=>?_,λb o e n v m=>?_,a.base.free,λb o e m=>?_,a.base.aQ,a.base.vo,a.base.xB),(_,u,λj y L l t O=>?_),λy c e=>?_,a.free,a.jk,λp B=>?_,λb P e=>?_,by simpa using I.len)))
 ·exact(g.2 b (aai (V' (R' e) I.ok.above))).trans (a.base.keep b o e n v m)
 ·let(d,l):=a.base.slot b o e n v m;exact(d,(g.2 b (aai (V' (R' e) I.ok.above))).trans l)
 ·let(d,l):=a.base.there b o e m;exact(d,(g.2 b (aai (V' (R' e) I.ok.above))).trans l)
 ·by_cases w:j=i
  ·subst w;rw[aa1 z] at t
   cases t
  ·rw[aa8 (Ne.symm w)] at t;let(R,S,q):=G j y L l (by rw[aa8 (Ne.symm w)];calc t) O;calc(R,S,?_);rcases q with⟨k,e⟩ | ⟨k,c,e,z⟩
   ·calc .inl (k,?_);have:y≠n:=λe=>w (sX C l (e▸r));simp[this,e]
   ·exact .inr (k,c,e,z.sameBut g (K y c e))
 ·let(i,z):=a.cell y c e;exact(i,z.sameBut g (K y c e))
 ·let(e,n,j,k,d):=a.pin p B;exact((g.2 p.1 j).trans e,n,j,k,d)
 ·calc(a.aW b P e).aL (λc i x q=>(g.2 c ?_).trans q) (λ_ q=>q) λ_ _ q=>q;rintro rfl;rcases x with rfl | x
  ·rw[a.free]at e;cases e
  ·rw[a.free]at x;cases x
end
end
section
end
end L2
set_option maxHeartbeats 4000000
namespace DD
open PySem L2
variable {H:Hp}{x:V}
inductive Kd(H:Hp):V->Value->Prop
 |bO:Kd H .bO (.type "NoneType")
 |bl (b:Bool):Kd H (.bl b) (.type "bool")
 |int (i:Int):Kd H (.int i) (.type "int")
 |str (x:Str):Kd H (.str x) (.type "str")
 |lst {a xs}:H a=some (.lst xs)->Kd H (.ref a) (.type "list")
 |tup {a xs}:H a=some (.tup xs)->Kd H (.ref a) (.type "tuple")
 |dK {a bt}:H a=some (.dK bt)->Kd H (.ref a) (.type "dict")
theorem Kd.ty{K:W.Frag}{H:Hp}{x:V}{t:Value}(h:Kd H x t):gV K H x t:=by
 cases h with
 |bO=>calc .bO
 |bl b=>calc .bl b
 |int i=>calc .int i
 |str x=>calc .str x
 |lst e=>calc .lst e
 |tup e=>calc .tup e
 |dK e=>calc .dK e
def isI:V->Bool
 | .int _=>true
 |_=>false
theorem SJ{K:W.Frag}{H:Hp}{x:V}{t:Value}(h:Kd H x t):∃b c,W.kitOne K t (.type "int")=some b/\W.kitOne K t (.type "bool")=some c/\isI x=(b && !c):=by
 cases h with
 |bO=>calc(false,false,rfl,rfl,rfl)
 |bl b=>calc(true,true,rfl,rfl,rfl)
 |int i=>calc(true,false,rfl,rfl,rfl)
 |str x=>calc(false,false,rfl,rfl,rfl)
 |lst e=>calc(false,false,rfl,rfl,rfl)
 |tup e=>calc(false,false,rfl,rfl,rfl)
 |dK e=>calc(false,false,rfl,rfl,rfl)
def inR(a b:Int):V->Bool
 | .int i=>decide (a<=i)&&decide (i<b)
 |_=>false
theorem Xv{H:Hp}{n:Nat}{x:V}{d:DV}(h:HD H n x d):∃t,Kd H x t:=by
 cases h with
 |bO=>calc(_,.bO)
 |bl b=>calc(_,.bl b)
 |int i=>calc(_,.int i)
 |str x=>calc(_,.str x)
 |tup e=>calc(_,.tup e)
 |lst e=>calc(_,.lst e)
 |dict e=>calc(_,.dK e)
def SK:DV->Bool
 | .int _=>true
 |_=>false
def Xw(a b:Int):DV->Bool
 | .int i=>decide (a<=i)&&decide (i<b)
 |_=>false
theorem SM{n:Nat}{d:DV}(h:HD H n x d):isI x=SK d:=by cases h<;>rfl
theorem SN{n:Nat}{d:DV}(h:HD H n x d)(a b:Int):inR a b x=Xw a b d:=by cases h<;>rfl
def tW:List V:=[.str "letter",.str "way",.str "first"]
def NR(w:Str)(m:Int):List DV->Bool
 | [z]=>if w="is" then SK z else(decide (w="number")&&Xw 0 m z)
 |_=>false
def FZ(m:Int):DV->Bool
 | .tup (.str w::r)=>if Dz (.str w) tW=true then decide (r.length=0) else NR w m r
 |_=>false
inductive Val where
 |is (c:Int)|number (i:Int)|nS|way|first
def Val.dv:Val->DV
 | .is c=>.tup [.str "is",.int c]
 | .number i=>.tup [.str "number",.int i]
 | .nS=>.tup [.str "letter"]
 | .way=>.tup [.str "way"]
 | .first=>.tup [.str "first"]
def Val.ok(m:Int):Val->Prop
 | .number i=>0<=i/\i<m
 |_=>True
theorem SO{m:Int}{v:Val}(h:v.ok m):FZ m v.dv=true:=by
 cases v with
 |is c=>calc rfl
 |number i=>
  let(a,b):=h;show(if Dz (.str "number") tW=true then decide (([DV.int i]:List DV).length=0) else if ("number":Str)="is" then SK (.int i) else(decide (("number":Str)="number")&&(decide (0<=i)&&decide (i<m))))=true;rw[if_neg ⋯,if_neg ⋯];simp[a,b]
 |nS=>calc rfl
 |way=>calc rfl
 |first=>calc rfl
def tX(ns a:List Int)(way said:Int):Val->Int
 | .is c=>c
 | .number i=>ns.getD i.toNat 0
 | .nS=>said
 | .way=>way
 | .first=>a.headD 0
abbrev zF(ns a:List Int):DV:=.tup [.tup (ns.map .int),.tup (a.map .int)]
theorem ln1{l:List V}(h:l.length=1):∃a,l=[a]:=List.length_eq_one_iff.mp h
theorem ln2{l:List V}(h:l.length=2):∃a b,l=[a,b]:=by
 cases l with
 |nil=>cases h
 |cons a r=>
  let(b,rfl):=ln1 (Nat.succ.inj h);calc(a,b,rfl)
theorem ln3{l:List V}(h:l.length=3):∃a b c,l=[a,b,c]:=by
 cases l with
 |nil=>cases h
 |cons a r=>
  let(b,c,rfl):=ln2 (Nat.succ.inj h);calc(a,b,c,rfl)
theorem ln4{l:List V}(h:l.length=4):∃a b c d,l=[a,b,c,d]:=by
 cases l with
 |nil=>cases h
 |cons a r=>
  let(b,c,d,rfl):=ln3 (Nat.succ.inj h);calc(a,b,c,d,rfl)
theorem jy{H:Hp}{n:Nat}{x:V}{d:DV}(h:HT H n x (.tup [d])):∃a u k,x=.ref a/\H a=some (.tup [u])/\HT H k u d:=by
 cases h with
 | @tup k a b _ e l i=>
  let(u,rfl):=ln1 l;calc(a,u,k,rfl,e,i 0 u d rfl rfl)
theorem dQ{H:Hp}{n:Nat}{x:V}{d d':DV}(h:HT H n x (.tup [d,d'])):∃a u v k,x=.ref a/\H a=some (.tup [u,v])/\HT H k u d/\HT H k v d':=by
 cases h with
 | @tup k a b _ e l i=>
  let(u,v,rfl):=ln2 l;calc(a,u,v,k,rfl,e,i 0 u d rfl rfl,i 1 v d' rfl rfl)
theorem DT{H:Hp}{n:Nat}{x:V}{ns:List Int}(h:HT H n x (.tup (ns.map .int))):∃a,x=.ref a/\H a=some (.tup (ns.map V.int)):=by
 cases h with
 | @tup k a b _ e l i=>
  calc(a,rfl,?_);have:b=ns.map V.int:=by
   apply List.ext_getElem?;intro j;rw[J']
   cases c:ns[j]? with
   |none=>
    have a:ns.length<=j:=List.getElem?_eq_none_iff.mp c;rw[List.getElem?_eq_none_iff.mpr (by rw[l,T'];calc a)];rfl
   |some z=>
    have a:j<ns.length:=(List.getElem?_eq_some_iff.mp c).1;have d:j<b.length:=by rw[l,T'];exact a
    have f:=i j b[j] (.int z) (dH d) (by rw[J',c];rfl);rw[dH d];generalize b[j]=y at f
    cases f;rfl
  rw[<-this];calc e
theorem pJ{H:Hp}{n:Nat}{a:Addr}{ns:List Int}(e:H a=some (.tup (ns.map V.int))):HT H (n+1) (.ref a) (.tup (ns.map .int)):=by
 calc .tup e nofun λi u d b c=>?_;rw[J']at b c
 cases f:ns[i]? with
 |none=>rw[f]at b;cases b
 |some z=>rw[f]at b c;cases b;cases c;calc .int z
theorem tY{H:Hp}{n:Nat}{a:Addr}{u:V}{d:DV}(e:H a=some (.tup [u]))(h:HT H n u d):HT H (n+1) (.ref a) (.tup [d]):=by
 refine .tup e rfl λi x y b c=>?_
 cases i with
 |zero=>simp at b c;subst b c;calc h
 |succ i=>simp at b
theorem dj{H:Hp}{n:Nat}{a:Addr}{u v:V}{d d':DV}(e:H a=some (.tup [u,v]))(h:HT H n u d)(h':HT H n v d'):HT H (n+1) (.ref a) (.tup [d,d']):=by
 refine .tup e rfl λi x y b c=>?_
 match i,b,c with
 |0,b,c=>simp at b c;subst b c;calc h
 |1,b,c=>simp at b c;subst b c;calc h'
theorem _root_.L2.HT.mono{H:Hp}{n:Nat}{x:V}{d:DV}(h:HT H n x d):∀{m:Nat},n<=m->HT H m x d:=by
 induction h with
 |bO=>intro m _;calc .bO
 |bl b=>intro m _;calc .bl b
 |int i=>intro m _;calc .int i
 |str x=>intro m _;calc .str x
 |tup a b c f=>
  intro m e;obtain⟨k,rfl⟩:∃k,m=k+1:=(m-1,())
  calc .tup a b λi u e p q=>f i u e p q ()
theorem NS{K:W.Frag}{H:Hp}{n:Nat}{x:V}{d:DV}(h:HT H n x d):∀{m:Nat}{y:V}{k:Nat},HT H m y d->n<k->gS K H k x y:=by
 induction h with
 |bO=>intro m y k h c;cases h;obtain⟨j,rfl⟩:∃j,k=j+1:=(k-1,());calc .inl (rfl,rfl)
 |bl b=>intro m y k h c;cases h;obtain⟨j,rfl⟩:∃j,k=j+1:=(k-1,());calc .inl (rfl,rfl)
 |int i=>intro m y k h c;cases h;obtain⟨j,rfl⟩:∃j,k=j+1:=(k-1,());calc .inl (rfl,rfl)
 |str i=>intro m y k h c;cases h;obtain⟨j,rfl⟩:∃j,k=j+1:=(k-1,());calc .inl (rfl,rfl)
 | @tup n a o g e l i q=>
  intro m y k h c;obtain⟨j,rfl⟩:∃j,k=j+1:=(k-1,())
  cases h with
  | @tup m b d _ i j k=>
   calc .inr (a,b,o,d,rfl,rfl,.inl (bP.of e,bP.of i),l.trans j.symm,λp u v c m=>?_);have a:p<g.length:=by rw[<-l];exact(List.getElem?_eq_some_iff.mp c).1
   calc q p u g[p] c (dH a) (k p v g[p] m (dH a)) ()
inductive bF where
 |set (i:Int) (v:Val)|add (i:Int) (v:Val)|times (i:Int) (v:Val)|put (v:Val)|drop|send (j:Int) (v:Val)|say (v:Val)|skip (v w:Val) (k:Int)
def bF.dv:bF->DV
 | .set i v=>.tup [.str "set",.int i,v.dv]
 | .add i v=>.tup [.str "add",.int i,v.dv]
 | .times i v=>.tup [.str "times",.int i,v.dv]
 | .put v=>.tup [.str "put",v.dv]
 | .drop=>.tup [.str "drop"]
 | .send j v=>.tup [.str "send",.int j,v.dv]
 | .say v=>.tup [.str "say",v.dv]
 | .skip v w k=>.tup [.str "skip",v.dv,w.dv,.int k]
def bF.ok(m:Int):bF->Prop
 | .set i v=>0<=i/\i<m/\v.ok m
 | .add i v=>0<=i/\i<m/\v.ok m
 | .times i v=>0<=i/\i<m/\v.ok m
 | .put v=>v.ok m
 | .drop=>True
 | .send j v=>0<=j/\v.ok m
 | .say v=>v.ok m
 | .skip v w k=>v.ok m/\w.ok m/\1<=k/\k<25
def bF.vals:bF->List Val
 | .set _ v=>[v]
 | .add _ v=>[v]
 | .times _ v=>[v]
 | .put v=>[v]
 | .drop=>[]
 | .send _ v=>[v]
 | .say v=>[v]
 | .skip v w _=>[v,w]
def bF.word:bF->Str
 | .set _ _=>"set"
 | .add _ _=>"add"
 | .times _ _=>"times"
 | .put _=>"put"
 | .drop=>"drop"
 | .send _ _=>"send"
 | .say _=>"say"
 | .skip _ _ _=>"skip"
def bF.vD:bF->List Str
 | .set _ _=>["number","value"]
 | .add _ _=>["number","value"]
 | .times _ _=>["number","value"]
 | .put _=>["value"]
 | .drop=>[]
 | .send _ _=>["way","value"]
 | .say _=>["value"]
 | .skip _ _ _=>["value","value","many"]
structure WS where
 ns:List Int
 row:List Int
 cU:List (Int×Int)
 words:List Int
def gi(M way said:Int)(ns a:List Int)(v:Val):Int:=tX ns a way said v%M
def ke(M:Int)(ns:List Int)(x:Int):bF->List Int
 | .set i _=>ns.set i.toNat x
 | .add i _=>ns.set i.toNat ((ns.getD i.toNat 0+x)%M)
 | .times i _=>ns.set i.toNat ((ns.getD i.toNat 0*x)%M)
 |_=>ns
def pK(a:List Int)(x:Int):bF->List Int
 | .put _=>if a.length<12 then a++[x] else a
 | .drop=>a.tail
 |_=>a
def iC(x:Int):bF->List (Int×Int)
 | .send j _=>[((j),x)]
 |_=>[]
def gs(x:Int):bF->List Int
 | .say _=>[x]
 |_=>[]
def pL(x y:Int):bF->Int
 | .skip _ _ k=>if x<y then k else 0
 |_=>0
def lg(M way said:Int)(d:bF)(s:WS):WS:=
 let ws:=d.vals.map (gi M way said s.ns s.row)
 (ke M s.ns (ws.getD 0 0) d,pK s.row (ws.getD 0 0) d,s.cU++iC (ws.getD 0 0) d,s.words++gs (ws.getD 0 0) d)
def nK(M way said:Int)(d:bF)(s:WS):Int:=
 let ws:=d.vals.map (gi M way said s.ns s.row)
 pL (ws.getD 0 0) (ws.getD 1 0) d
def zG(M way said:Int):Nat->List bF->WS->WS
 |0,_,s=>s
 |_,[],s=>s
 |f+1,d::r,s=>zG M way said f (r.drop (nK M way said d s).toNat) (lg M way said d s)
theorem DU{M way said:Int}{f:Nat}{s:WS}:zG M way said f [] s=s:=by cases f<;>rfl
def pM(M way said:Int)(b:List bF)(ns a:List Int):WS:=zG M way said b.length b (ns,a,[],[])
theorem qu{M x:Int}{ns:List Int}{d:bF}:(ke M ns x d).length=ns.length:=by cases d<;>simp[ke]
def zH(K:W.Frag)(H:Hp)(e:V)(ns d:List Int):Prop:=∃a b c,e=.ref a/\H a=some (.tup [.ref b,.ref c])/\(aY K H b (ns.map V.int)\/bP K H b (ns.map V.int))/\(aY K H c (d.map V.int)\/bP K H c (d.map V.int))
theorem zH.of{K:W.Frag}{n:Nat}{f:V}{ns d:List Int}(h:HT H n f (zF ns d)):zH K H f ns d:=by
 let(a,u,v,k,rfl,e,g,i):=dQ h;let(b,rfl,j):=DT g;let(c,rfl,d):=DT i;calc(a,b,c,rfl,e,.inr (bP.of j),.inr (bP.of d))
def cm:Stmt->List Stmt
 | .ClassDef _ _ _ a _ _ _ _ _ _ _=>a
 |_=>[]
theorem bV{H:Hp}{n:Nat}{x:V}{d d' b:DV}(h:HT H n x (.tup [d,d',b])):∃a u v w k,x=.ref a/\H a=some (.tup [u,v,w])/\HT H k u d/\HT H k v d'/\HT H k w b:=by
 cases h with
 | @tup k a c _ e l i=>
  let(u,v,w,rfl):=ln3 l;calc(a,u,v,w,k,rfl,e,i 0 u d rfl rfl,i 1 v d' rfl rfl,i 2 w b rfl rfl)
theorem pN{H:Hp}{n:Nat}{x:V}{d d' b c:DV}(h:HT H n x (.tup [d,d',b,c])):∃a u v w z k,x=.ref a/\H a=some (.tup [u,v,w,z])/\HT H k u d/\HT H k v d'/\HT H k w b/\HT H k z c:=by
 cases h with
 | @tup k a f _ e l i=>
  let(u,v,w,z,rfl):=ln4 l;calc(a,u,v,w,z,k,rfl,e,i 0 u d rfl rfl,i 1 v d' rfl rfl,i 2 w b rfl rfl,i 3 z c rfl rfl)
theorem lO{H:Hp}{n:Nat}{a:Addr}{u v w:V}{d d' g:DV}(e:H a=some (.tup [u,v,w]))(h:HT H n u d)(h':HT H n v d')(f:HT H n w g):HT H (n+1) (.ref a) (.tup [d,d',g]):=by
 refine .tup e rfl λi x y b c=>?_
 match i,b,c with
 |0,b,c=>simp at b c;subst b c;calc h
 |1,b,c=>simp at b c;subst b c;calc h'
 |2,b,c=>simp at b c;subst b c;calc f
theorem DW{n:Nat}{v:Val}(h:HT H n x v.dv):∃a xs,x=.ref a/\H a=some (.tup xs):=by
 cases v<;>(cases h;rename_i a xs e l i;calc(_,_,rfl,by assumption))
end DD
set_option maxHeartbeats 400000
namespace L2
open PySem PySem.Spec PyProof.Rows
def Xx:R2:=λx y H Q=>match x,y with
 | .ref a,.int n=>∃v,H a=some (.lst [v])/\-1000<=n/\n<=1000/\∀p,H p=none->Q (.ref p) (upd H p (.lst (List.replicate n.toNat v)))
 |_,_=>False
theorem JG{α:Type}(n:Nat)(v:α):(List.replicate n [v]).flatten=List.replicate n v:=by
 induction n with
 |zero=>rfl
 |succ n a=>rw[List.replicate_succ,List.flatten_cons,a];rfl
theorem zI{v:V}{u:Value}(r:RelV v u):∀n:Nat,Vals (List.replicate n v) (List.replicate n u)
 |0=>.nil
 |n+1=>.cons r (zI r n)
section
variable {X:Cx}
theorem JH:gU X (binaryOp .Mult) Xx:=by
 intro g s σ H x y v u Q I i j h
 cases x<;>cases y<;>first
  |calc(show False from h).elim
  |skip
 rename_i a n;let(w,l,A,B,q):=h;obtain rfl:v=Value.ref a:=i;obtain⟨c,rfl⟩:∃c,u=Value.int n c:=j;let(_,C,k,m,d):=I.aW a _ l;let(f,rfl,p):=m.one;have r:([f]:List Value).toArray.size*n.toNat<=1000:=by simp;lia
 refine wpAny_binaryOp_repeat_ref (T:="list") (U:="int") ∅ (_,d,rfl) (λt=>typeIs_int t n c) noFill_list_mul F.fills_int_mul F.slot_int_rmul repeat_list F.slot_int_index.lookup
  (call_meets F.slot_int_rmul (typeIs_int s n c) F.entry_int_rmul (F.args_int_rmul_2 _ _) (lm_int_rmul_list_any n c a ([f]:List Value).toArray k none #[])
   (d,rfl,(_,d,rfl),call_meets F.slot_list_mul (_,d,rfl) F.entry_list_mul (F.args_list_mul_2 _ _)
    (lm_list_mul_any a ([f]:List Value).toArray k none #[] n c (by simp[Builtin.List.listFitsIndex];lia) () (by simp[Builtin.List.listTooLong,sizeLine];lia))
    (d,?_)))
 rw[listMul_foldl_if,JG];have z:H s.heap.objs.size=none:=I.aW.fresh (L' _);calc(V.ref s.heap.objs.size,_,I.laid (o:=.lst (List.replicate n.toNat w)) (a:=s.heap.objs.size) (λb o e=>K' _ e) (L' _) (show _/\_ from(?_,_,0,zI p _,Y' _ rfl)),rfl,q _ z);rw[List.length_replicate,aaw];lia
end
def PV(K:W.Frag):List V->Hp->VK->Prop:=λxs H Q=>∃(a C B:Addr) (d:Option Addr) (p:Addr) (cs:List Addr) (b e:Bool),xs=[.ref a,.ref p]/\H a=some (XO a C d e)/\(∀c,d=some c->∃f,H c=some (XD c f))/\kx K C B/\H p=some (.tup (cs.map V.ref))/\W.kitAny K (.ref C) (cs.map Value.ref)=some b/\Q (.bl b) H
theorem wF:∀{cs:List Addr}{us:List Value},Vals (cs.map V.ref) us->us=cs.map Value.ref
 | [],_,h=>by cases h;rfl
 |c::cs,_,h=>by
  cases h with
  |cons a b=>
   rw[wF b]
   cases(show _=Value.ref c from a);rfl
theorem F1{X:Cx}:dN X (.builtin "isinstance") (PV X.K):=by
 intro e s σ H l m Q I r h;let(a,C,B,d,p,F,b,G,rfl,o,t,v,w,k,q):=h;obtain⟨u,c,rfl,n,x⟩:∃u c,m=u::c/\RelV (.ref a) u/\Vals [.ref p] c:=by cases r with|cons a b=>exact(_,_,rfl,a,b)
 let(y,rfl,A):=x.one
 cases(show u=Value.ref a from n)
 cases(show y=Value.ref p from A);let(_,a,c,f):=I.aW p _ w;rw[wF c]at f;let((e,h,a,D),E,g,n,i):=id f;simp only at g i;subst g i;refine W.kia_tup (zr v) I.iz ?_ E k (λz=>nomatch z) λa=>(.bl b,H,I.tok _,rfl,q)
 let(l,D,j):=Jg I o
 cases d with
 |none=>calc(_,none,j,rfl,rfl,aaD)
 |some a=>
  let(b,z):=t a rfl;let(_,(o,_,_,b,_),_):=Jf (I.aW a _ z);calc(_,some o,j,rfl,rfl,b)
end L2
namespace L2
open PySem
theorem tZ{X:Cx}{K:W.Frag}(a:X.K=K):dN X (.builtin "isinstance") (PV K):=a▸F1
theorem NU:bootBuiltins "ValueError"=some (.type "ValueError"):=by kernel_rfl
structure B6(K:W.Frag)(mg:Str->Option Value)(B:Addr)(c:Nat->Addr):Prop where
 pO:mg "BadMachine"=some (.ref (c 0))
 wG:mg "BadDeed"=some (.ref (c 1))
 zJ:mg "NoText"=some (.ref (c 2))
 zK:mg "BadNet"=some (.ref (c 3))
 t9:mg "NoLetter"=some (.ref (c 4))
 ua:mg "NotFirst"=some (.ref (c 5))
 wH:mg "NoCount"=some (.ref (c 6))
 wI:mg "NoEvent"=some (.ref (c 7))
 ub:mg "Orphaned"=some (.ref (c 8))
 wJ:mg "TooMany"=some (.ref (c 9))
 zL:mg "NoLine"=some (.ref (c 10))
 rN:mg "NoMachine"=some (.ref (c 11))
 zM:mg "NotRow"=some (.ref (c 12))
 JI:mg "Busy"=some (.ref (c 13))
 pP:mg "NotReached"=some (.ref (c 14))
 zN:mg "NoMark"=some (.ref (c 15))
 DX:mg "NoRow"=some (.ref (c 16))
 zO:mg "NoName"=some (.ref (c 17))
 zP:mg "NoDeed"=some (.ref (c 18))
 uc:mg "NetError"=some (.ref B)
 yd:pE K mg "BadMachine" (c 0) B
 JJ:pE K mg "NoText" (c 2) B
 JK:pE K mg "BadNet" (c 3) B
 wK:pE K mg "NoCount" (c 6) B
 wL:pE K mg "NoEvent" (c 7) B
 F2:pE K mg "TooMany" (c 9) B
 zQ:pE K mg "NoMachine" (c 11) B
 SQ:pE K mg "Busy" (c 13) B
 JL:pE K mg "NoMark" (c 15) B
 NV:pE K mg "NoRow" (c 16) B
 JM:pE K mg "NoName" (c 17) B
 JN:pE K mg "NoDeed" (c 18) B
 cl:∀i,i<19->kx K (c i) B
 inj:∀i j,i<19->j<19->c i=c j->i=j
 nB:∀i,i<19->c i≠B
 Xy:(W.clsIn K B).isSome=true
 tyB:W.typeIn K (.ref B)=some (.type "type")
 xb:XBase K B
 gj:bT K (c 1) "at"
 fF:bT K (c 4) "at"
 fG:bT K (c 5) "at"
 dG:bT K (c 8) "letter"
 fq:bT K (c 10) "falls"
 eG:bT K (c 10) "letter"
 gk:bT K (c 12) "way"
 cN:bT K (c 14) "machine"
section
variable {K:W.Frag}{mg:Str->Option Value}{B:Addr}{c:Nat->Addr}
theorem ud(T:B6 K mg B c){i j:Nat}(a:i<19)(b:j<19):W.kitOne K (.ref (c i)) (.ref (c j))=some (decide (i=j)):=by
 unfold W.kitOne;by_cases e:i=j
 ·subst e;rw[if_pos nofun];simp
 ·have d:c i≠c j:=λz=>e (T.inj i j a b z);have g:c j≠B:=T.nB j b;rw[if_neg (by simpa using d)];let(cd,k,l,_):=(T.cl i a).cd;let(n,q,N,o,p,l,r,m,t,u,v,w,x,y,k):=(T.cl j b).ob;have l:W.typeIn K (.ref (c j))=some (.type "type"):=by show Option.map (·.cls) (K.lookup (c j))=_;rw[k];rfl
  have b:(W.clsIn K (c j)).isSome=true:=by unfold W.clsIn;rw[k];rfl
  have k:=(T.cl i a).mro (.ref (c j));show(if ((W.clsIn K (c j)).isSome&&W.typeIn K (.ref (c j))==some (.type "type"))=true then W.subIn K (.ref (c i)) (.ref (c j)) else none)=_;rw[l,b];simp only[beq_self_eq_true,Bool.and_self,if_true];show W.mroIn K (c i) (.ref (c j))=_;rw[k];have z:((Value.ref (c i)::.ref B::tL).contains (.ref (c j)))=false:=by
   simp[tL,List.contains_cons,d,g,Ne.symm d]
  rw[z];simp[e]
theorem JO(T:B6 K mg B c){i:Nat}(a:i<19):W.kitOne K (.ref (c i)) (.type "ValueError")=some true:=by
 unfold W.kitOne;rw[if_neg (by intro z;cases z)];show(if W.kitMeta "ValueError"=true then W.subIn K (.ref (c i)) (.type "ValueError") else none)=_;rw[if_pos ⋯];show W.mroIn K (c i) (.type "ValueError")=_;exact((T.cl i a).mro _).trans rfl
theorem pQ(T:B6 K mg B c){i:Nat}(b:i<19):∀a:List Nat,(∀j∈a,j<19)->W.kitAny K (.ref (c i)) ((a.map c).map Value.ref)=some (decide (i∈a))
 | [],_=>by simp[W.kitAny]
 |j::a,h=>by
  have d:=pQ T b a λk f=>h k (aak _ f);have e:=ud T b (h j nofun);show(match W.kitOne K (.ref (c i)) (.ref (c j)) with|some true=>some true|some false=>W.kitAny K (.ref (c i)) ((a.map c).map Value.ref)|none=>none)=_;rw[e];by_cases z:i=j
  ·subst z;simp
  ·rw[aam z];show W.kitAny K (.ref (c i)) ((a.map c).map Value.ref)=_;rw[d];simp[z]
end
end L2
namespace L2
open PySem PySem.Spec PyProof.Rows Builtin.Str
end L2
namespace L2
open PySem PySem.Spec PyProof.Rows Builtin.Str
end L2
set_option maxHeartbeats 4000000
namespace L2
open PySem
section
variable {X:Cx}
def acB(K:W.Frag):List V->Hp->VK->Prop:=λxs H Q=>∃(x:V) (C:Addr) (t:Value) (b:Bool),xs=[x,.ref C]/\gV K H x t/\W.kitOne K t (.ref C)=some b/\Q (.bl b) H
theorem JP{K:W.Frag}(c:X.K=K):dN X (.builtin "isinstance") (acB K):=by
 subst c;intro a s σ H i j Q I r h;let(x,C,t,b,rfl,d,e,q):=h;let(u,k,rfl,f,g):=vals2 r
 cases g;calc wa I f d e λa=>(.bl b,H,I.tok _,rfl,q)
end
end L2
namespace L2
open PySem PySem.Spec PyProof.Rows
end L2
namespace L2
open PySem
variable {H:Hp}{σ:St}
theorem fJ{t u:TS}{D:Ends}(h:∀N:St->Hp->Prop,N=u D->t {D with nx:=N} σ H):Bu t u D σ H:=h _ rfl
theorem ei{c:TT}{t u:TS}{D:Ends}(h:∀T U:St->Hp->Prop,T=t D->U=u D->c σ H λb a=>if b=true then T σ a else U σ a):y6 c t u D σ H:=h _ _ rfl rfl
theorem SR{i:Nat}{v:V}{Q:St->Hp->Prop}(h:Q (σ.set i (some v)) H):fE i v σ H Q:=h
theorem aP{N M:St->Hp->Prop}(e:N=M)(h:M σ H):N σ H:=e▸h
end L2
namespace DD
open PySem L2
variable {x:Addr}{Z:Addr->Prop}{H H':Hp}{vs:List V}
structure MD where
 M:Int
 ns:List Int
 row:List Int
 ds:List bF
structure Good(M:Int)(ns row:List Int)(ds:List bF):Prop where
 m2:2<=M
 m12:M<=1000000000000
 l1:1<=ns.length
 l4:ns.length<=4
 r12:row.length<=12
 bn:∀z∈ns,0<=z/\z<M
 br:∀z∈row,0<=z/\z<M
 d24:ds.length<=24
 ok:∀d∈ds,d.ok ns.length
abbrev MD.good(d:MD):Prop:=Good d.M d.ns d.row d.ds
instance:Inhabited MD:=⟨(0,[],[],[])⟩
noncomputable def kj (Z:Addr->Prop) (H:Hp):Hp:=λx=> @ite _ (Z x) (Classical.propDecidable _) (some (.own 0)) (H x)
theorem iD(h:¬Z x):kj Z H x=H x:=by unfold kj;rw[if_neg h]
theorem B7(h:Z x):kj Z H x=some (.own 0):=by unfold kj;rw[if_pos h]
theorem eI{o:HO}(h:kj Z H x=some o)(b:∀k,o≠.own k):¬Z x/\H x=some o:=by
 by_cases a:Z x
 ·rw[B7 a]at h;cases h;exact absurd rfl (b 0)
 ·rw[iD a]at h;calc(a,h)
theorem NW{o:HO}(h:Z x):kj Z (upd H x o)=kj Z H:=by
 funext b;by_cases a:Z b
 ·rw[B7 a,B7 a]
 ·rw[iD a,iD a,az (λe:b=x=>a (e▸h))]
def Cv(H H':Hp):Prop:=∀b o,H b=some o->(∀k,o≠.own k)->H' b=some o
theorem _root_.L2.au.cv(s:au H H'):Cv H H':=λb o e _=>s b o e
def soft:HO->Prop
 | .lst _=>True
 | .dK _=>True
 |_=>False
def Fr(Z:Addr->Prop)(H H':Hp):Prop:=∀b o,H b=some o->(Z b->¬soft o)->H' b=some o
theorem Fr.refl:Fr Z H H:=λ_ _ e _=>e
theorem Fr.trans{c d:Hp}(a:Fr Z H c)(b:Fr Z c d):Fr Z H d:=λc o e n=>b c o (a c o e n) n
theorem _root_.L2.au.fr(s:au H H'):Fr Z H H':=λb o e _=>s b o e
theorem Fr.at(a:Fr Z H H'){b:Addr}{o:HO}(e:H b=some o)(h:¬Z b):H' b=some o:=a b o e λz=>absurd z h
theorem Fr.nh(a:Fr Z H H'){b:Addr}{o:HO}(e:H b=some o)(h:¬soft o):H' b=some o:=a b o e λ_=>h
theorem Fr.upd{b:Hp}(a:Fr Z H b){x:Addr}{o u:HO}(h:Z x)(f:b x=some u)(g:soft u):Fr Z H (upd b x o):=λc v e n=>by
 by_cases z:c=x
 ·subst z;have d:=a c v e n;rw[f] at d
  cases d;exact absurd g (n h)
 ·rw[az z];calc a c v e n
theorem Fr.mono{c:Addr->Prop}{d:Hp}(a:Fr Z H d)(h:∀b,Z b->c b):Fr c H d:=λc o e n=>a c o e λz=>n (h c z)
theorem Fr.aQ(h:Fr Z H H'):ck H H':=λb a e=>h b _ e λ_=>id
theorem Fr.kj(h:Fr Z H H'):Cv (kj Z H) (kj Z H'):=λb o e n=>by
 let(a,b):=eI e n;rw[iD a];calc h.at b a
theorem fC:Cv (kj Z H) H:=λb o e n=>(eI e n).2
theorem Cv.aQ(h:Cv H H'):ck H H':=λb a e=>h b _ e (λk z=>by cases z)
theorem _root_.L2.HD.cv{H H':Hp}(s:Cv H H'){n:Nat}{x:V}{d:DV}(h:HD H n x d):HD H' n x d:=by
 induction h with
 |bO=>calc .bO
 |bl b=>calc .bl b
 |int i=>calc .int i
 |str x=>calc .str x
 |tup e l i a=>calc .tup (s _ _ e (λk z=>by cases z)) l a
 |lst e l i a=>calc .lst (s _ _ e (λk z=>by cases z)) l a
 |dict e=>calc .dict (s _ _ e (λk z=>by cases z))
def fN(H:Hp)(n:Nat)(vs:List V)(a:List DV):Prop:=vs.length=a.length/\∀(i:Nat) v d,vs[i]?=some v->a[i]?=some d->HD H n v d
theorem fN.cv(s:Cv H H'){n:Nat}{vs:List V}{a:List DV}(h:fN H n vs a):fN H' n vs a:=(h.1,λi v d a b=>(h.2 i v d a b).cv s)
theorem fN.nil{n:Nat}:fN H n [] []:=(rfl,λi v d a=>by simp at a)
theorem fN.app{n:Nat}{us:List V}{a b:List DV}(h:fN H n vs a)(g:fN H n us b):fN H n (vs++us) (a++b):=by
 calc(by simp[h.1,g.1],λi v d a b=>?_);by_cases c:i<vs.length
 ·rw[aad c]at a;rw[aad (by rw[<-h.1];calc c)]at b;exact h.2 i _ _ a b
 ·rw[X' ()]at a;rw[X' (by rw[<-h.1];lia),<-h.1]at b;calc g.2 _ _ _ a b
theorem fN.one{H:Hp}{n:Nat}{v:V}{d:DV}(h:HD H n v d):fN H n [v] [d]:=by
 refine(rfl,λi u e a b=>?_)
 cases i with
 |zero=>simp at a b;subst a b;calc h
 |succ i=>simp at a
theorem fN.set{n:Nat}{c:List DV}{v:V}{d:DV}(h:fN H n vs c)(g:HD H n v d)(k:Nat):fN H n (vs.set k v) (c.set k d):=by
 calc(by simp[h.1],λi u e a b=>?_);rw[List.getElem?_set]at a b;by_cases f:k=i
 ·rw[if_pos f] at a b;split at a
  ·rw[if_pos (by rw[<-h.1];assumption)]at b;cases a;cases b;exact g
  ·cases a
 ·rw[if_neg f]at a b;calc h.2 i u e a b
theorem fN.ints{H:Hp}{n:Nat}(ns:List Int):fN H n (ns.map V.int) (ns.map DV.int):=by
 calc(nofun,λi v d a b=>?_);rw[J']at a b
 cases c:ns[i]? with
 |none=>rw[c]at a;cases a
 |some z=>rw[c]at a b;cases a;cases b;calc .int z
theorem fN.qv{n:Nat}{ns:List Int}(h:fN H n vs (ns.map DV.int)):vs=ns.map V.int:=by
 apply List.ext_getElem (by simpa using h.1);intro j c a;have b:j<ns.length:=by simpa using a
 have:=h.2 j vs[j] (.int ns[j]) nofun (by simp[b]);simp only[List.getElem_map];generalize vs[j]=y at this
 cases this;rfl
theorem fN.get{n:Nat}{a:List DV}(h:fN H n vs a){i:Nat}{d:DV}(e:a[i]?=some d):∃v,vs[i]?=some v/\HD H n v d:=by
 have b:i<a.length:=(List.getElem?_eq_some_iff.mp e).1;have a:i<vs.length:=by rw[h.1];exact b
 calc(vs[i],nofun,h.2 i _ _ nofun e)
inductive CO where
 |l (ds:List DV)|d (g:Int->Option DV) (n:Nat)
def OR(H:Hp):CO->HO->Prop
 | .l a,.lst vs=>fN H 4 vs a
 | .d g n,.dK a=>a.length<=n/\∀k:Int,match g k with
  |none=>gW a (Sum.inl k)=none
  |some d=>∃v,gW a (Sum.inl k)=some v/\HD H 4 v d
 |_,_=>False
theorem OR.cv{H H':Hp}(s:Cv H H'){c:CO}{o:HO}(h:OR H c o):OR H' c o:=by
 cases c with
 |l a=>
  cases o with
  |lst vs=>calc fN.cv s h
  |_=>calc aaA h
 |d g n=>
  cases o with
  |dK a=>
   calc(h.1,λk=>?_);have:=h.2 k;revert this
   cases g k with
   |none=>calc id
   |some d=>calc λ⟨v,e,a⟩=>(v,e,a.cv s)
  |_=>calc aaA h
def FP(n:Nat->Nat)(ad:Nat->Nat->Addr)(b:Addr):Prop:=∃t i,i<n t/\b=ad t i
structure eJ(F:Addr->Prop)(H:Hp)(n:Nat->Nat)(ad:Nat->Nat->Addr)(ct:Nat->Nat->CO):Prop where
 inj:∀t i t' i',i<n t->i'<n t'->ad t i=ad t' i'->t=t'/\i=i'
 out:∀t i,i<n t->¬F (ad t i)
 PX:∀t i,i<n t->∃o,H (ad t i)=some o/\OR (kj (λb=>F b\/FP n ad b) H) (ct t i) o
def setC(ct:Nat->Nat->CO)(t i:Nat)(c:CO):Nat->Nat->CO:=λt' a=>if t'=t/\a=i then c else ct t' a
section
variable {F:Addr->Prop}{H H':Hp}{n:Nat->Nat}{ad:Nat->Nat->Addr}{ct ct':Nat->Nat->CO}
theorem eJ.keep(h:eJ F H n ad ct)(a:Fr F H H'):eJ F H' n ad ct:=
 (h.inj,h.out,λt i c=>by
  let(o,e,r):=h.PX t i c;calc(o,a.at e (h.out t i c),r.cv (a.mono λb z=>.inl z).kj))
theorem eJ.same(h:eJ F H n ad ct)(s:au H H'):eJ F H' n ad ct:=h.keep s.fr
theorem eJ.congr(h:eJ F H n ad ct)(e:∀t i,i<n t->ct t i=ct' t i):eJ F H n ad ct':=
 (h.inj,h.out,λt i a=>by rw[<-e t i a];calc h.PX t i a)
theorem eJ.upd(h:eJ F H n ad ct){t i:Nat}(a:i<n t){c:CO}{o:HO}(r:OR (kj (λb=>F b\/FP n ad b) H) c o):eJ F (upd H (ad t i) o) n ad (setC ct t i c):=by
 have c:(λb=>F b\/FP n ad b) (ad t i):=.inr (t,i,a,rfl);calc(h.inj,h.out,λd f g=>?_);rw[NW c];by_cases e:d=t/\f=i
 ·let(rfl,rfl):=e;exact(o,af,by unfold setC;rw[if_pos (rfl,rfl)];calc r)
 ·let(b,c,i):=h.PX d f g;calc(b,?_,by unfold setC;rw[if_neg e];calc i);rw[az (λz=>e (h.inj _ _ _ _ g a z))];calc c
theorem eJ.lst(h:eJ F H n ad ct){t i:Nat}(c:i<n t){a:List DV}(e:ct t i=.l a):∃vs,H (ad t i)=some (.lst vs)/\fN (kj (λb=>F b\/FP n ad b) H) 4 vs a:=by
 let(o,d,r):=h.PX t i c;rw[e]at r
 cases o with
 |lst vs=>calc(vs,d,r)
 |_=>calc r.elim
theorem eJ.dct(h:eJ F H n ad ct){t i:Nat}(c:i<n t){g:Int->Option DV}{N:Nat}(e:ct t i=.d g N):∃a,H (ad t i)=some (.dK a)/\OR (kj (λb=>F b\/FP n ad b) H) (.d g N) (.dK a):=by
 let(o,f,r):=h.PX t i c;rw[e]at r
 cases o with
 |dK vs=>calc(vs,f,r)
 |_=>calc r.elim
theorem eJ.app(h:eJ F H n ad ct){t i:Nat}(a:i<n t){c:List DV}(e:ct t i=.l c){vs:List V}(j:H (ad t i)=some (.lst vs)){us:List V}{d:List DV}(g:fN (kj (λb=>F b\/FP n ad b) H) 4 us d):
  eJ F (L2.upd H (ad t i) (.lst (vs++us))) n ad (setC ct t i (.l (c++d))):=by
 let(b,f,r):=h.lst a e;rw[j]at f
 cases f;calc h.upd a (show fN _ 4 _ _ from r.app g)
theorem eJ.set(h:eJ F H n ad ct){t i:Nat}(a:i<n t){c:List DV}(e:ct t i=.l c){vs:List V}(j:H (ad t i)=some (.lst vs)){k:Nat}{v:V}{d:DV}(g:HD (kj (λb=>F b\/FP n ad b) H) 4 v d):
  eJ F (L2.upd H (ad t i) (.lst (vs.set k v))) n ad (setC ct t i (.l (c.set k d))):=by
 let(b,f,r):=h.lst a e;rw[j]at f
 cases f;calc h.upd a (show fN _ 4 _ _ from r.set g k)
theorem OR.soft{c:CO}{o:HO}(h:OR H c o):soft o:=by
 cases c<;>cases o<;>first|trivial|calc aaA h
theorem eJ.soft(h:eJ F H n ad ct){t i:Nat}(a:i<n t):∃o,H (ad t i)=some o/\DD.soft o:=by
 let(o,e,r):=h.PX t i a;calc(o,e,r.soft)
theorem eJ.fp(h:eJ F H n ad ct){b:Addr}(a:FP n ad b):∃o,H b=some o/\DD.soft o:=by
 let(t,i,c,rfl):=a;calc h.soft c
theorem eJ.ne(h:eJ F H n ad ct){b:Addr}{o:HO}(e:H b=some o)(c:¬DD.soft o):¬FP n ad b:=λz=>by
 let(u,a,d):=h.fp z;rw[e]at a;cases a;calc c d
theorem eJ.ht(h:eJ F H n ad ct)(c:∀b,F b->∃o,H b=some o/\DD.soft o){m:Nat}{x:V}{d:DV}(g:HT H m x d):HD (DD.kj (λb=>F b\/FP n ad b) H) m x d:=by
 calc HT.hd (g.aL λb d e=>?_);rw[iD]
 ·exact e
 ·rintro(z | z)
  ·let(o,a,f):=c b z;rw[e]at a;cases a;exact f
  ·calc h.ne e id z
end
end DD
namespace DD
open PySem L2
variable {B i:Nat}
def _root_.List.bN{α:Type}(l:List α)(d:α):α:=l.getD (l.length-1) d
theorem getD_at{α:Type}{l:List α}{x d:α}(h:l[i]?=some x):l.getD i d=x:=by rw[aah,h];rfl
theorem a0{α:Type}{l:List α}{d:α}(h:i<l.length):l[i]?=some (l.getD i d):=by rw[aah,dH h];rfl
theorem getD_mem{α:Type}{l:List α}{d:α}(h:i<l.length):l.getD i d∈l:=aao (a0 h)
theorem ue{α:Type}{l:List α}{x d:α}:(l++[x]).bN d=x:=by
 unfold List.bN;calc getD_at nofun
theorem iy{α:Type}{l:List α}{d:α}(h:1<=l.length):l.bN d∈l:=getD_mem ()
theorem pR{α:Type}{l:List α}{d:α}(h:1<=l.length):l[l.length-1]?=some (l.bN d):=a0 ()
structure MS where
 fe:List (List Int×List Int)
 wp:List (List Int)
 hr:List (List Int)
structure WY where
 say:List Int
 snd:List (Option (Int×Int))
 dz:List (Option (Int×Int))
structure RS where
 picks:List (Int×Int)
 mm:Nat->MS
 ww:Nat->WY
structure NT where
 ms:List MD
 ws:List (Int×Int×Str)
def pairD(p:Int×Int):DV:=.tup [.int p.1,.int p.2]
def nU:Option (Int×Int)->DV
 |none=>.bO
 |some p=>pairD p
def uf(s:List Int×List Int):DV:=zF s.1 s.2
def NT.M(n:NT)(m:Nat):Int:=(n.ms.getD m default).M
def NT.nn(n:NT)(m:Nat):Nat:=(n.ms.getD m default).ns.length
def NT.ds(n:NT)(m:Nat):List bF:=(n.ms.getD m default).ds
def NT.w(n:NT)(w:Nat):Int×Int×Str:=n.ws.getD w ((0),0,"")
def NT.outs(n:NT)(m:Int):List Nat:=(List.range n.ws.length).filter λi=>decide ((n.w i).1=m)
def NT.ins(n:NT)(m:Int):List Nat:=(List.range n.ws.length).filter λi=>decide ((n.w i).2.1=m)
def NT.goal(n:NT)(w:Nat):Nat:=(n.w w).2.1.toNat
def NT.place(n:NT)(w:Nat):Nat:=(n.ins (n.w w).2.1).idxOf w
def RS.put(r:RS)(w:Nat)(x:Int)(s:Option (Int×Int)):RS:=
 {r with ww:=λk=>if k=w then((r.ww w).say++[x],(r.ww w).snd++[s],(r.ww w).dz++[none]) else r.ww k}
def RS.send(r:RS)(outs:List Nat)(ev:Int×Int):List (Int×Int)->RS
 | []=>r
 |p::a=>(if p.1.toNat<outs.length then r.put (outs.getD p.1.toNat 0) p.2 (some ev) else r).send outs ev a
def NT.work(n:NT)(r:RS)(w k:Nat):WS:=
 pM (n.M (n.goal w)) (n.place w) ((r.ww w).say.getD k 0) (n.ds (n.goal w)) ((r.mm (n.goal w)).fe.bN (([]),[])).1 ((r.mm (n.goal w)).fe.bN (([]),[])).2
def NT.ev(n:NT)(r:RS)(w:Nat):Int×Int:=(((n.goal w:Nat)),((r.mm (n.goal w)).fe.length:Nat))
def NT.ip(n:NT)(r:RS)(w k:Nat):List Int:=
 let m:=n.goal w
 let b:=(r.mm m).hr.bN (List.replicate n.ms.length 0)
 let a:=match (r.ww w).snd.getD k none with
  |none=>b
  |some ((s),c)=>List.zipWith max b ((r.mm s.toNat).hr.getD (c-1).toNat [])
 a.set m (n.ev r w).2
def RS.step(n:NT)(r:RS)(w k:Nat):RS:=
 let m:=n.goal w
 let res:=n.work r w k
 {picks:=r.picks++[(((w:Int)),(k:Int))]
  mm:=λi=>if i=m then((r.mm m).fe++[((res.ns),res.row)],(r.mm m).wp++[(r.mm m).wp.bN []++res.words],(r.mm m).hr++[n.ip r w k]) else r.mm i
  ww:=λi=>if i=w then {(r.ww w) with dz:=(r.ww w).dz.set k (some (n.ev r w))} else r.ww i}
def RS.pick(n:NT)(r:RS)(w k:Nat):RS:=(r.step n w k).send (n.outs (n.goal w)) (n.ev r w) (n.work r w k).cU
def RS.lx(r:RS):List (Int×Int)->RS
 | []=>r
 |p::a=>(r.put p.1.toNat p.2 none).lx a
def RS.new(n:NT):RS:=([],λm=>([(((n.ms.getD m default).ns),(n.ms.getD m default).row)],[[]],[]),λ_=>([],[],[]))
def RS.begin(n:NT)(a:List (Int×Int)):RS:=(RS.new n).lx a
def lP(l:List (Option (Int×Int)))(k:Int):Option DV:=if 0<=k then(l.getD k.toNat none).map pairD else none
def RS.ct(r:RS):Nat->Nat->CO
 |0,_=>.l (r.picks.map pairD)
 |1,m=>.l ((r.mm m).fe.map uf)
 |2,m=>.l ((r.mm m).wp.map λw=>.int (w.length:Nat))
 |3,m=>.l (((r.mm m).wp.bN []).map .int)
 |4,w=>.l ((r.ww w).say.map .int)
 |5,w=>.l ((r.ww w).snd.map nU)
 |_,w=>.l ((r.ww w).dz.map nU)
def NT.n(n:NT):Nat->Nat
 |0=>1
 |1=>n.ms.length
 |2=>n.ms.length
 |3=>n.ms.length
 |4=>n.ws.length
 |5=>n.ws.length
 |6=>n.ws.length
 |_=>0
structure NT.Ok(n:NT):Prop where
 PY:n.ms.length<=5
 ms1:1<=n.ms.length
 F4:n.ws.length<=10
 good:∀d∈n.ms,d.good
 acE:∀w∈n.ws,0<=w.1/\w.1<n.ms.length/\0<=w.2.1/\w.2.1<n.ms.length/\(w.2.2="row"\/w.2.2="heap")
structure NX(M:Int)(nn:Nat)(s:List Int×List Int):Prop where
 ln:s.1.length=nn
 bn:∀z∈s.1,0<=z/\z<M
 lr:s.2.length<=12
structure RS.Ok(n:NT)(r:RS):Prop where
 lw:∀m,m<n.ms.length->(r.mm m).fe.length=(r.mm m).wp.length
 lh:∀m,m<n.ms.length->(r.mm m).fe.length=(r.mm m).hr.length+1
 so:∀m,m<n.ms.length->∀s∈(r.mm m).fe,NX (n.M m) (n.nn m) s
 hl:∀m,m<n.ms.length->∀h∈(r.mm m).hr,h.length=n.ms.length
 ls:∀w,w<n.ws.length->(r.ww w).say.length=(r.ww w).snd.length
 lk:∀w,w<n.ws.length->(r.ww w).say.length=(r.ww w).dz.length
 sd:∀w,w<n.ws.length->∀s c,some ((s),c)∈(r.ww w).snd->0<=s/\s<n.ms.length/\1<=c/\c<=(r.mm s.toNat).hr.length
 bp:∀m,m<n.ms.length->(r.mm m).fe.length<=r.picks.length+1
 bw:∀m,m<n.ms.length->∀w∈(r.mm m).wp,w.length<=24*r.picks.length
 bs:∀w,w<n.ws.length->(r.ww w).say.length<=20+24*r.picks.length
 Xz:∀m,m<n.ms.length->∀u∈(r.mm m).wp,u <+:(r.mm m).wp.bN []
theorem zR{M way said:Int}{n:Int}:∀(f:Nat) (b:List bF) (s:WS),(∀d∈b,d.ok n)->(∀p∈s.cU,0<=p.1)->∀p∈(zG M way said f b s).cU,0<=p.1
 |0,_,s,_,h=>h
 |f+1,[],s,_,h=>h
 |f+1,d::r,s,c,h=>by
  calc zR f _ _ (λe b=>c e (aak _ (List.mem_of_mem_drop b))) ?_;intro p a;have a:p∈s.cU++iC ((d.vals.map (gi M way said s.ns s.row)).getD 0 0) d:=a;rcases List.mem_append.mp a with a|a
  ·exact h p a
  ·have g:=c d (aas ..)
   cases d with
   |send j v=>
    simp only[iC,List.mem_singleton]at a;subst a;calc g.1
   |_=>simp only[iC,List.not_mem_nil]at a
theorem DY{M way said:Int}:∀(f:Nat) (a:List bF) (s:WS),(zG M way said f a s).cU.length<=s.cU.length+a.length/\(zG M way said f a s).words.length<=s.words.length+a.length/\(zG M way said f a s).ns.length=s.ns.length
 |0,_,s=>(abe ..,abe ..,rfl)
 |f+1,[],s=>(L' _,L' _,rfl)
 |f+1,d::r,s=>by
  let(a,b,c):=DY (M:=M) (way:=way) (said:=said) f (r.drop (nK M way said d s).toNat) (lg M way said d s);have a:(lg M way said d s).cU.length<=s.cU.length+1:=by
   show(s.cU++iC _ d).length<=_
   cases d<;>simp[iC]
  have a:(lg M way said d s).words.length<=s.words.length+1:=by
   show(s.words++gs _ d).length<=_
   cases d<;>simp[gs]
  have a:(lg M way said d s).ns.length=s.ns.length:=qu;have a:(r.drop (nK M way said d s).toNat).length<=r.length:=by simp
  refine(?_,?_,?_)
  ·show(zG M way said f _ _).cU.length<=_;simp only[List.length_cons];lia
  ·show(zG M way said f _ _).words.length<=_;simp only[List.length_cons];lia
  ·show(zG M way said f _ _).ns.length=_;lia
theorem DZ{M way said:Int}(c:0<M):∀(f:Nat) (e:List bF) (s:WS),(∀z∈s.ns,0<=z/\z<M)->s.row.length<=12->(∀z∈(zG M way said f e s).ns,0<=z/\z<M)/\(zG M way said f e s).row.length<=12
 |0,_,s,h,g=>(h,g)
 |f+1,[],s,h,g=>(h,g)
 |f+1,d::r,s,h,g=>by
  refine DZ c f _ _ ?_ ?_
  ·have b:∀y:Int,0<=y % M/\y % M < M:=λy=>(aaK _ (),aaL _ c)
   have a:∀(j:Nat) (y:Int),(0<=y/\y<M)->∀z∈s.ns.set j y,0<=z/\z<M:=λj y k z l=>by
    rcases List.mem_or_eq_of_mem_set l with c|c
    ·exact h z c
    ·rw[c];exact k
   show ∀z∈ke M s.ns ((d.vals.map (gi M way said s.ns s.row)).getD 0 0) d,0<=z/\z<M
   cases d with
   |set i v=>calc a _ _ (b _)
   |add i v=>calc a _ _ (b _)
   |times i v=>calc a _ _ (b _)
   |_=>exact h
  ·show(pK s.row ((d.vals.map (gi M way said s.ns s.row)).getD 0 0) d).length<=12
   cases d with
   |put v=>
    simp only[pK];split
    ·simp;lia
    ·calc g
   |drop=>simp only[pK,List.length_tail];lia
   |_=>calc g
section
variable {n:NT}{r:RS}
theorem NT.Ok.gd(h:n.Ok){m:Nat}(a:m<n.ms.length):(n.ms.getD m default).good:=by
 calc h.good _ (getD_mem a)
theorem NT.Ok.wy(h:n.Ok){w:Nat}(a:w<n.ws.length):0<=(n.w w).1/\(n.w w).1<n.ms.length/\0<=(n.w w).2.1/\(n.w w).2.1<n.ms.length/\((n.w w).2.2="row"\/(n.w w).2.2="heap"):=by
 calc h.acE _ (getD_mem a)
theorem NT.Ok.iq(h:n.Ok){w:Nat}(a:w<n.ws.length):n.goal w<n.ms.length:=by
 have:=h.wy a;unfold NT.goal;lia
theorem RS.Ok.vE(h:r.Ok n){m:Nat}(a:m<n.ms.length):1<=(r.mm m).fe.length:=by rw[h.lh m a];lia
theorem RS.Ok.last(h:r.Ok n){m:Nat}(a:m<n.ms.length):NX (n.M m) (n.nn m) ((r.mm m).fe.bN (([]),[])):=h.so m a _ (iy (h.vE a))
theorem sE(a:n.Ok)(h:r.Ok n){w:Nat}(c:w<n.ws.length)(k:Nat):NX (n.M (n.goal w)) (n.nn (n.goal w)) (((n.work r w k).ns),(n.work r w k).row)/\(n.work r w k).cU.length<=24/\(n.work r w k).words.length<=24/\∀p∈(n.work r w k).cU,0<=p.1:=by
 have b:=a.iq c;have g:=a.gd b;have l:=h.last b;have a:(n.ds (n.goal w)).length<=24:=g.d24;have b:0<n.M (n.goal w):=by have:=g.m2;show 0<(n.ms.getD (n.goal w) default).M;lia
 let(d,e,f):=DY (M:=n.M (n.goal w)) (way:=n.place w) (said:=(r.ww w).say.getD k 0) (n.ds (n.goal w)).length (n.ds (n.goal w)) (((r.mm (n.goal w)).fe.bN (([]),[])).1,((r.mm (n.goal w)).fe.bN (([]),[])).2,[],[]);let(h,i):=DZ b (way:=n.place w) (said:=(r.ww w).say.getD k 0) (n.ds (n.goal w)).length (n.ds (n.goal w)) (((r.mm (n.goal w)).fe.bN (([]),[])).1,((r.mm (n.goal w)).fe.bN (([]),[])).2,[],[]) l.bn l.lr;have c:=zR (M:=n.M (n.goal w)) (way:=n.place w) (said:=(r.ww w).say.getD k 0) (n:=n.nn (n.goal w)) (n.ds (n.goal w)).length (n.ds (n.goal w)) (((r.mm (n.goal w)).fe.bN (([]),[])).1,((r.mm (n.goal w)).fe.bN (([]),[])).2,[],[]) g.ok (λp b=>by simp at b);refine((?_,h,i),?_,?_,c)
 ·exact f.trans l.ln
 ·exact aar d (by simpa using a)
 ·calc aar e (by simpa using a)
structure RS.vn(n:NT)(r:RS)(B:Nat):Prop where
 lw:∀m,m<n.ms.length->(r.mm m).fe.length=(r.mm m).wp.length
 lh:∀m,m<n.ms.length->(r.mm m).fe.length=(r.mm m).hr.length+1
 so:∀m,m<n.ms.length->∀s∈(r.mm m).fe,NX (n.M m) (n.nn m) s
 hl:∀m,m<n.ms.length->∀h∈(r.mm m).hr,h.length=n.ms.length
 ls:∀w,w<n.ws.length->(r.ww w).say.length=(r.ww w).snd.length
 lk:∀w,w<n.ws.length->(r.ww w).say.length=(r.ww w).dz.length
 sd:∀w,w<n.ws.length->∀s c,some ((s),c)∈(r.ww w).snd->0<=s/\s<n.ms.length/\1<=c/\c<=(r.mm s.toNat).hr.length
 bp:∀m,m<n.ms.length->(r.mm m).fe.length<=r.picks.length+1
 bw:∀m,m<n.ms.length->∀w∈(r.mm m).wp,w.length<=24*r.picks.length
 bs:∀w,w<n.ws.length->(r.ww w).say.length<=B
 Xz:∀m,m<n.ms.length->∀u∈(r.mm m).wp,u <+:(r.mm m).wp.bN []
theorem RS.vn.ok(h:r.vn n B)(a:B<=20+24*r.picks.length):r.Ok n:=(h.lw,h.lh,h.so,h.hl,h.ls,h.lk,h.sd,h.bp,h.bw,λw b=>aar (h.bs w b) a,h.Xz)
theorem RS.vn.put(h:r.vn n B){w:Nat}{x:Int}{s:Option (Int×Int)}(g:∀a c,s=some ((a),c)->0<=a/\a<n.ms.length/\1<=c/\c<=(r.mm a.toNat).hr.length):(r.put w x s).vn n (B+1):=by
 have e:∀k,(r.put w x s).ww k=if k=w then((r.ww w).say++[x],(r.ww w).snd++[s],(r.ww w).dz++[none]) else r.ww k:=λk=>rfl
 refine(h.lw,h.lh,h.so,h.hl,λv b=>?_,λv b=>?_,λv b a c d=>?_,h.bp,h.bw,λv b=>?_,h.Xz)
 ·rw[e];split
  ·next z=>subst z;simp[h.ls v b]
  ·exact h.ls v b
 ·rw[e];split
  ·next z=>subst z;simp[h.lk v b]
  ·exact h.lk v b
 ·rw[e] at d;split at d
  ·next z=>
   subst z;rcases List.mem_append.mp d with d|d
   ·exact h.sd v b a c d
   ·simp at d;exact g a c d.symm
  ·exact h.sd v b a c d
 ·rw[e];split
  ·next z=>subst z;have:=h.bs v b;simp;lia
  ·have:=h.bs v b;lia
theorem RS.vn.mono{a:Nat}(h:r.vn n B)(b:B<=a):r.vn n a:={h with bs:=λw a=>aar (h.bs w a) b}
theorem RS.vn.send{outs:List Nat}{ev:Int×Int}:∀(b:List (Int×Int)) {r:RS}{B:Nat},r.vn n B->(∀a c,some ev=some ((a),c)->0<=a/\a<n.ms.length/\1<=c/\c<=(r.mm a.toNat).hr.length)->(r.send outs ev b).vn n (B+b.length)
 | [],r,B,h,_=>h
 |p::b,r,B,h,d=>by
  show((if p.1.toNat<outs.length then r.put (outs.getD p.1.toNat 0) p.2 (some ev) else r).send outs ev b).vn n _;have e:B+(p::b).length=B+1+b.length:=by simp;lia
  rw[e];split
  ·exact RS.vn.send b (h.put d) d
  ·calc RS.vn.send b (h.mono ()) d
theorem RS.ye{outs:List Nat}{ev:Int×Int}:∀(a:List (Int×Int)) {r:RS},(r.send outs ev a).mm=r.mm/\(r.send outs ev a).picks=r.picks
 | [],r=>(rfl,rfl)
 |p::a,r=>by
  show((if p.1.toNat<outs.length then r.put (outs.getD p.1.toNat 0) p.2 (some ev) else r).send outs ev a).mm=_/\((if p.1.toNat<outs.length then r.put (outs.getD p.1.toNat 0) p.2 (some ev) else r).send outs ev a).picks=_;split
  ·exact RS.ye a
  ·calc RS.ye a
theorem B8{u v w:List Int}(h:u <+:v):u <+:v++w:=by
 let(t,rfl):=h;calc(t++w,nofun)
theorem zS(o:n.Ok)(h:r.Ok n){w:Nat}(j:w<n.ws.length){k:Nat}:(n.ip r w k).length=n.ms.length:=by
 have p:=o.iq j;have m:((r.mm (n.goal w)).hr.bN (List.replicate n.ms.length 0)).length=n.ms.length:=by
  by_cases f:1<=(r.mm (n.goal w)).hr.length
  ·exact h.hl _ p _ (iy f)
  ·have e:(r.mm (n.goal w)).hr=[]:=by
    cases q:(r.mm (n.goal w)).hr with
    |nil=>rfl
    |cons a b=>rw[q]at f;simp at f
   rw[e];simp[List.bN]
 unfold NT.ip;simp only[List.length_set];split
 ·exact m
 ·next s c e=>
  have g:k<(r.ww w).snd.length:=by
   by_cases g:k<(r.ww w).snd.length
   ·exact g
   ·rw[aah,List.getElem?_eq_none ()]at e;cases e
  have t:some ((s),c)∈(r.ww w).snd:=by rw[<-e];exact getD_mem g
  let(u,v,x,y):=h.sd w j s c t;have:=h.hl s.toNat () _ (getD_mem (l:=(r.mm s.toNat).hr) (i:=(c-1).toNat) (d:=[]) ());rw[List.length_zipWith,m,this];lia
theorem RS.Ok.step(t:n.Ok)(h:r.Ok n){w k:Nat}(p:w<n.ws.length):(r.step n w k).vn n (20+24*r.picks.length):=by
 have g:=t.iq p;let(A,F,G,H):=sE t h p k;have j:∀i,(r.step n w k).mm i=if i=n.goal w then((r.mm (n.goal w)).fe++[(((n.work r w k).ns),(n.work r w k).row)],(r.mm (n.goal w)).wp++[(r.mm (n.goal w)).wp.bN []++(n.work r w k).words],(r.mm (n.goal w)).hr++[n.ip r w k]) else r.mm i:=λi=>rfl
 have q:∀i,(r.step n w k).ww i=if i=w then {(r.ww w) with dz:=(r.ww w).dz.set k (some (n.ev r w))} else r.ww i:=λi=>rfl
 have x:(r.step n w k).picks.length=r.picks.length+1:=by show(r.picks++[_]).length=_;simp
 refine(λm f=>?_,λm f=>?_,λm f s b=>?_,λm f s b=>?_,λv o=>?_,λv o=>?_,λv o a c b=>?_,λm f=>?_,λm f u e=>?_,λv o=>?_,λm f u e=>?_)
 ·rw[j];split
  ·simp[h.lw _ g]
  ·exact h.lw m f
 ·rw[j];split
  ·simp[h.lh _ g]
  ·exact h.lh m f
 ·rw[j] at b;split at b
  ·next z=>
   subst z;rcases List.mem_append.mp b with b|b
   ·exact h.so _ g s b
   ·simp at b;subst b;exact A
  ·exact h.so m f s b
 ·rw[j] at b;split at b
  ·rcases List.mem_append.mp b with b | b
   ·exact h.hl _ g s b
   ·simp at b;subst b;exact zS t h p
  ·exact h.hl m f s b
 ·rw[q];split
  ·exact h.ls w p
  ·exact h.ls v o
 ·rw[q];split
  ·simp[h.lk w p]
  ·exact h.lk v o
 ·have B:some ((a),c)∈(r.ww v).snd:=by
   rw[q]at b;split at b
   ·next z=>subst z;exact b
   ·exact b
  let(C,D,E,y):=h.sd v o a c B;calc(C,D,E,?_);rw[j];split
  ·next z=>rw[z]at y;simp;lia
  ·exact y
 ·rw[j,x];split
  ·have:=h.bp _ g;simp;lia
  ·have:=h.bp _ f;lia
 ·rw[x];rw[j] at e;split at e
  ·rcases List.mem_append.mp e with e | e
   ·have:=h.bw _ g u e;lia
   ·simp at e;subst e;have:=h.bw _ g _ (iy (l:=(r.mm (n.goal w)).wp) (d:=[]) (by rw[<-h.lw _ g];calc h.vE g));simp;lia
  ·have:=h.bw _ f u e;lia
 ·rw[q];split
  ·exact h.bs w p
  ·exact h.bs v o
 ·rw[j] at e ⊢;split at e
  ·next z=>
   rw[if_pos z];show u <+:((r.mm (n.goal w)).wp++[_]).bN [];rw[ue];rcases List.mem_append.mp e with e|e
   ·exact B8 (h.Xz _ g u e)
   ·simp at e;subst e;exact List.prefix_refl _
  ·next z=>rw[if_neg z];calc h.Xz m f u e
theorem RS.Ok.pick(a:n.Ok)(h:r.Ok n){w k:Nat}(b:w<n.ws.length):(r.pick n w k).Ok n/\(r.pick n w k).picks=r.picks++[(((w:Int)),(k:Int))]:=by
 have d:=a.iq b;let(c,f,g,i):=sE a h b k;have s:=RS.vn.send (outs:=n.outs (n.goal w)) (ev:=n.ev r w) (n.work r w k).cU (h.step a b (k:=k)) (λa c e=>by
  cases e;refine((),(),?_,?_)
  ·have:=h.vE d;lia
  ·have a:(r.step n w k).mm (n.goal w)=((r.mm (n.goal w)).fe++[(((n.work r w k).ns),(n.work r w k).row)],(r.mm (n.goal w)).wp++[(r.mm (n.goal w)).wp.bN []++(n.work r w k).words],(r.mm (n.goal w)).hr++[n.ip r w k]):=if_pos rfl;rw[show((n.goal w:Nat):Int).toNat=n.goal w from aav _,a,h.lh _ d];simp)
 have a:=(RS.ye (outs:=n.outs (n.goal w)) (ev:=n.ev r w) (n.work r w k).cU (r:=r.step n w k)).2;calc(s.ok ?_,a);rw[a];show _<=20+24*(r.picks++[_]).length;simp;lia
end
end DD
namespace L2
open PySem PySem.Spec PyProof.Rows Builtin Builtin.Str
section
variable {X:Cx}
theorem ug{i j l:Nat}{x y z:Str}{c d e pos:Pos}{k:Nat}(f:X.calm=true)(a:X.N.Nodup)(g:X.N[i]?=some x)(h:X.N[j]?=some y)(m:X.N[l]?=some z)(n:Loc X.env.scope x)(o:Loc X.env.scope y)(p:Loc X.env.scope z)
  (q:X.fn x=true\/X.env.scope.names.lookup x=some .local:=by grind) (r:X.fn y=true\/X.env.scope.names.lookup y=some .local:=by grind) (b:X.fn z=true\/X.env.scope.names.lookup z=some .local:=by grind):
  PG X (.Tuple [.Name x c,.Name y d,.Name z e] k pos) (Fl X.K 3 (j5 (fE i) (j5 (fE j) (j5 (fE l) Fj)))):=Bw f (iA (ba a g n q) (iA (ba a h o r) (iA (ba a m p b) xF)))
theorem F5{K:W.Frag}{i j l:Nat}{x y z:Str}{b c d pos:Pos}{k:Nat}(e:X.K=K)(f:X.calm=true)(g:X.N.Nodup)(h:X.N[i]?=some x)(m:X.N[j]?=some y)(n:X.N[l]?=some z)(o:Loc X.env.scope x)(p:Loc X.env.scope y)(q:Loc X.env.scope z)
  (r:X.fn x=true\/X.env.scope.names.lookup x=some .local:=by grind) (s:X.fn y=true\/X.env.scope.names.lookup y=some .local:=by grind) (a:X.fn z=true\/X.env.scope.names.lookup z=some .local:=by grind):
  PG X (.Tuple [.Name x b,.Name y c,.Name z d] k pos) (Fl K 3 (j5 (fE i) (j5 (fE j) (j5 (fE l) Fj)))):=e▸ug f g h m n o p q r s a
end
end L2
namespace L2
open PySem PyProof.Rows
theorem lt1{a b:Nat}(h:a+64<b):a+1<b:=by lia
section
variable {X:Cx}
def B9(z:Int):Value->Bool
 | .int i _=>i==z
 |_=>false
theorem uh:∀{ns:List Int}{us:List Value},Vals (ns.map V.int) us->us.length=ns.length/\∀(i:Nat) u z,us[i]?=some u->ns[i]?=some z->∃t,u=.int z t
 | [],_,.nil=>(rfl,λi u z h=>by simp at h)
 |n::ns,_,.cons r t=>by
  let(l,h):=uh t;refine(by simp[l],λi u z a b=>?_)
  cases i with
  |zero=>simp at a b;subst a b;calc r
  |succ i=>calc h i u z (by simpa using a) (by simpa using b)
def NY:V->List V->Hp->VK->Prop:=λx vs H Q=>∃(a:Addr) (ns:List Int) (j:Nat) (z:Int),x=.ref a/\vs=[.int z]/\H a=some (.lst (ns.map V.int))/\ns[j]?=some z/\(∀i y,i<j->ns[i]?=some y->y≠z)/\Q (.int j) H
theorem wM:WO X "list.index" NY:=by
 intro k s σ H x O v P Q I r D h;let(a,d,j,z,rfl,rfl,E,l,G,q):=h
 cases r;let(u,rfl,o,rfl):=D.one;let(b,r,J,k):=I.list (aY.of E);let(h,K):=uh r;have h:j<d.length:=(List.getElem?_eq_some_iff.mp l).1;have p:(d.map V.int).length<=sizeLine:=k;rw[T']at p;let((r,s,h,L),n,w,A,B,e):=id J;simp only at A B e;subst A B e;have h:j<b.length:=by lia
 have c:∀m (f:m<b.length),∃y t,d[m]?=some y/\b[m]=.int y t:=λm f=>by
  have C:m<d.length:=by lia
  let(t,e):=K m b[m] d[m] nofun nofun;exact(d[m],t,nofun,e)
 refine call_meets PySem.F.slot_list_index (_,w,rfl) PySem.F.entry_list_index (PySem.F.args_list_index_2 _ _) (SeqAt.list_indexAt a b.toArray n none L (.int z o) (B9 z) j (by simpa using h) (by rw[aaw]at p;lia) ?_ ?_) (w,λy M=>?_,?_)
 ·let(y,t,g,i):=c j h;rw[l] at g
  cases g;simp[i,B9]
 ·intro m f a;have C:m < b.length:=by simpa using f
  let(y,t,g,i):=c m C;have:=G m y a g;simp[i,B9,this]
 ·have N:y ∈ b:=by simpa using M
  let(m,f,rfl):=List.getElem_of_mem N;let(y,t,g,i):=c m f;rw[i];exact SeqAt.EqAt.int_int y t z o
 ·calc(.int _,H,I.tok _,(_,rfl),q)
end
end L2
namespace L2
open PySem PySem.Spec PyProof.Rows
section
def XA(K:W.Frag):V->Option Int->Option Int->Hp->VK->Prop:=λx b c H Q=>match x with
 | .ref a=>∃xs,aY K H a xs/\∀p,H p=none->Q (.ref p) (upd H p (.lst (dE xs b c)))
 |_=>False
theorem acH{X:Cx}:WL X (XA X.K):=by
 intro a s σ H x v b c d e f Q I g i j k h
 cases x<;>first
  |calc(show False from h).elim
  |skip
 let(l,m,q):=h;calc Dy a s σ H _ v b c d e f Q I g i j k (_,l,rfl,m,q)
theorem JQ{X:Cx}{e:Expr}{a:TE}{b c:Option Expr}{d f:TO}{pos g:Pos}(h:PE X e a)(i:PO X b d)(j:PO X c f):PE X (.Subscript e (.Slice b c none g) pos) (Vc (XA X.K) a d f):=tw acH h i j
theorem D0{xs:List V}{i j:Nat}:(dE xs (some (i:Int)) (some (j:Int))).length<=j-i:=by
 unfold dE;rw[show HT.eS xs.length 0 (some (i:Int))=min i xs.length from HT.sy _ _ i,show HT.eS xs.length xs.length (some (j:Int))=min j xs.length from HT.sy _ _ j,aaT];calc aar (Nat.min_le_left _ _) ?_;rcases Nat.le_total xs.length i with h|h
 ·rw[Nat.min_eq_right h,Nat.sub_eq_zero_of_le (Nat.min_le_right _ _)];exact aap _
 ·rw[Nat.min_eq_left h];calc Nat.sub_le_sub_right (Nat.min_le_left _ _) _
theorem D7{xs:List V}{a b:Option Int}{v:V}(h:v∈dE xs a b):v∈xs:=List.mem_of_mem_drop (List.mem_of_mem_take h)
end
section
variable {a dx:Addr}{Q:Bool->Hp->Prop}{X:Cx}{H:Hp}{f:Str}{v:V}{K:W.Frag}
theorem fld{C:Addr}{b:List (Str×V)}{Q:V->Prop}(h:H a=some (.ins C dx b))(c:vq K C)(n:bT K C f)(l:b.lookup f=some v)(q:Q v):∃e d j g i,V.ref a=.ref e/\H e=some (.ins d j g)/\vq K d/\bT K d f/\g.lookup f=some i/\Q i:=(a,C,dx,b,v,rfl,h,c,n,l,q)
theorem mth{C:Addr}{b:List (Str×V)}{Q:Addr->Prop}(h:H a=some (.ins C dx b))(l:b.lookup f=none)(q:Q a):∃c e d,V.ref a=.ref c/\H c=some (.ins C e d)/\d.lookup f=none/\Q c:=(a,dx,b,rfl,h,l,q)
theorem fH{C:Addr}{b:List (Str×V)}{Q:V->Prop}(h:H a=some (.ins C dx b))(c:vq K C)(n:bT K C f)(l:b.lookup f=some v)(q:Q v):∃e d j g i,a=e/\H e=some (.ins d j g)/\vq K d/\bT K d f/\g.lookup f=some i/\Q i:=(a,C,dx,b,v,rfl,h,c,n,l,q)
theorem gu{C:Addr}{b:List (Str×V)}{Q:Addr->Prop}(h:H a=some (.ins C dx b))(l:b.lookup f=none)(q:Q a):∃c e d,a=c/\H c=some (.ins C e d)/\d.lookup f=none/\Q c:=(a,dx,b,rfl,h,l,q)
theorem Bl{x y:V}{P:V->V->Prop}(h:bP K H a [x,y])(q:P x y):∃b xs,V.ref a=.ref b/\bP K H b xs/\xs.length=2/\∃v r,xs=v::r/\∃c d,r=c::d/\d=[]/\P v c:=(a,_,rfl,h,rfl,_,_,rfl,_,_,rfl,rfl,q)
theorem un3{x y z:V}{P:V->V->V->Prop}(h:bP K H a [x,y,z])(q:P x y z):∃d xs,V.ref a=.ref d/\bP K H d xs/\xs.length=3/\∃v r,xs=v::r/\∃e f,r=e::f/\∃b c,f=b::c/\c=[]/\P v e b:=(a,_,rfl,h,rfl,_,_,rfl,_,_,rfl,_,_,rfl,rfl,q)
theorem je{A B R:Prop}(a:A)(b:B)(r:R):A/\B/\R:=(a,b,r)
theorem bJ{α:Type}{A R:α->Prop}(x:α)(a:A x)(r:R x):∃x,A x/\R x:=(x,a,r)
theorem iE{α:Type}{A B R:α->Prop}(x:α)(a:A x)(b:B x)(r:R x):∃x,A x/\B x/\R x:=(x,a,b,r)
theorem NZ{α:Type}{A B C R:α->Prop}(x:α)(a:A x)(b:B x)(ch:C x)(r:R x):∃x,A x/\B x/\C x/\R x:=(x,a,b,ch,r)
theorem F6{α β:Type}{A R:α->β->Prop}(x:α)(y:β)(a:A x y)(r:R x y):∃x y,A x y/\R x y:=(x,y,a,r)
theorem dq{α β:Type}{A B R:α->β->Prop}(x:α)(y:β)(a:A x y)(b:B x y)(r:R x y):∃x y,A x y/\B x y/\R x y:=(x,y,a,b,r)
theorem yf{α β:Type}{A B C R:α->β->Prop}(x:α)(y:β)(a:A x y)(b:B x y)(ch:C x y)(r:R x y):∃x y,A x y/\B x y/\C x y/\R x y:=(x,y,a,b,ch,r)
theorem nj{α β:Type}{A B C D R:α->β->Prop}(x:α)(y:β)(a:A x y)(b:B x y)(ch:C x y)(c:D x y)(r:R x y):∃x y,A x y/\B x y/\C x y/\D x y/\R x y:=(x,y,a,b,ch,c,r)
theorem acI{α β γ:Type}{A B R:α->β->γ->Prop}(x:α)(y:β)(z:γ)(a:A x y z)(b:B x y z)(r:R x y z):∃x y z,A x y z/\B x y z/\R x y z:=(x,y,z,a,b,r)
theorem fZ{α β γ δ:Type}{A B R:α->β->γ->δ->Prop}(x:α)(y:β)(z:γ)(u:δ)(a:A x y z u)(b:B x y z u)(r:R x y z u):∃x y z u,A x y z u/\B x y z u/\R x y z u:=(x,y,z,u,a,b,r)
theorem acJ{α β γ δ:Type}{A B C R:α->β->γ->δ->Prop}(x:α)(y:β)(z:γ)(u:δ)(a:A x y z u)(b:B x y z u)(ch:C x y z u)(r:R x y z u):∃x y z u,A x y z u/\B x y z u/\C x y z u/\R x y z u:=(x,y,z,u,a,b,ch,r)
theorem SU{α β γ δ:Type}{A B C D R:α->β->γ->δ->Prop}(x:α)(y:β)(z:γ)(u:δ)(a:A x y z u)(b:B x y z u)(ch:C x y z u)(c:D x y z u)(r:R x y z u):∃x y z u,A x y z u/\B x y z u/\C x y z u/\D x y z u/\R x y z u:=(x,y,z,u,a,b,ch,c,r)
theorem F7{α β γ δ:Type}{A B C D E R:α->β->γ->δ->Prop}(x:α)(y:β)(z:γ)(u:δ)(a:A x y z u)(b:B x y z u)(ch:C x y z u)(c:D x y z u)(d:E x y z u)(r:R x y z u):∃x y z u,A x y z u/\B x y z u/\C x y z u/\D x y z u/\E x y z u/\R x y z u:=(x,y,z,u,a,b,ch,c,d,r)
theorem acK{α β γ δ:Type}{A B C D E F R:α->β->γ->δ->Prop}(x:α)(y:β)(z:γ)(u:δ)(a:A x y z u)(b:B x y z u)(ch:C x y z u)(c:D x y z u)(d:E x y z u)(e:F x y z u)(r:R x y z u):∃x y z u,A x y z u/\B x y z u/\C x y z u/\D x y z u/\E x y z u/\F x y z u/\R x y z u:=(x,y,z,u,a,b,ch,c,d,e,r)
theorem acL{α β γ δ ε:Type}{A B C D R:α->β->γ->δ->ε->Prop}(x:α)(y:β)(z:γ)(u:δ)(v:ε)(a:A x y z u v)(b:B x y z u v)(ch:C x y z u v)(c:D x y z u v)(r:R x y z u v):∃x y z u v,A x y z u v/\B x y z u v/\C x y z u v/\D x y z u v/\R x y z u v:=(x,y,z,u,v,a,b,ch,c,r)
theorem acM{α β γ δ ε:Type}{A B C D E R:α->β->γ->δ->ε->Prop}(x:α)(y:β)(z:γ)(u:δ)(v:ε)(a:A x y z u v)(b:B x y z u v)(ch:C x y z u v)(c:D x y z u v)(d:E x y z u v)(r:R x y z u v):∃x y z u v,A x y z u v/\B x y z u v/\C x y z u v/\D x y z u v/\E x y z u v/\R x y z u v:=(x,y,z,u,v,a,b,ch,c,d,r)
theorem XB{α β γ δ ε:Type}{A B C D E F R:α->β->γ->δ->ε->Prop}(x:α)(y:β)(z:γ)(u:δ)(v:ε)(a:A x y z u v)(b:B x y z u v)(ch:C x y z u v)(c:D x y z u v)(d:E x y z u v)(e:F x y z u v)(r:R x y z u v):∃x y z u v,A x y z u v/\B x y z u v/\C x y z u v/\D x y z u v/\E x y z u v/\F x y z u v/\R x y z u v:=(x,y,z,u,v,a,b,ch,c,d,e,r)
theorem PE.imp{e:Expr}{t u:TE}(h:PE X e t)(i:∀σ H Q,u σ H Q->t σ H Q):PE X e u:=⟨λp s σ H Q I q=>h.out p s σ H Q I (i σ H Q q)⟩
def tV(i:Nat):TE:=λσ H Q=>match σ[i]? with
 |some (some v)=>Q v H
 |_=>False
theorem SV{i:Nat}(σ:St)(H:Hp)(Q:VK)(h:tV i σ H Q):HF i σ H Q:=by
 unfold tV at h;split at h
 ·exact(_,by assumption,h)
 ·calc h.elim
def bB(Q:Bool->Hp->Prop):V->Hp->Prop
 | .bl k,H=>Q k H
 |_,_=>False
theorem SW{Q:Bool->Hp->Prop}{x:V}{H:Hp}(h:bB Q x H):∃k,x=.bl k/\Q k H:=by
 cases x with
 |bl k=>calc(k,rfl,h)
 |_=>calc h.elim
theorem XC{k:Bool}:bB Q (.bl k) H=Q k H:=rfl
theorem ly{k:Bool}(h:Q k H):bB Q (.bl k) H:=h
def tT(t:TE):TT:=λσ H Q=>t σ H (bB Q)
theorem XE:bB Q=λx H=>∃k,x=.bl k/\Q k H:=by
 funext x H;calc propext (SW,?_);rintro⟨k,rfl,h⟩;calc h
theorem P0:tT=Dp:=by
 funext t σ H Q;show t σ H (bB Q)=_;rw[XE];rfl
theorem SX:tT=tB:=P0
section
variable {X:Cx}{a b:Expr}{ta tb:TE}{pos:Pos}
theorem aC{c:CmpOp}{r:R2}(d:gU X (compareOp c) r)(e:PE X a ta)(f:PE X b tb)(g:behindInMarks c b=false):PT X (.Compare a [c] [b] pos) (tT (HW r ta tb)):=by
 rw[P0];calc Dq d e f g
theorem bC{e:Expr}{t:TE}(h:PE X e t)(b:∀a,PySem.isTrue e X.env a=(do let v <-a;standAt e.pos;holding [v] (truthy v)):=by intro _;rfl):PT X e (tT t):=by
 rw[SX];calc Ro h b
theorem aq(i:Nat){x:Str}{pos:Pos}(a:X.N[i]?=some x:=by rfl)(b:Wo X.env.scope x:=by first|calc Or.inl rfl|calc Or.inr (Or.inl rfl)|calc Or.inr (Or.inr rfl))(c:(x==("__debug__":Str))=false:=by decide)
  (d:(x==("__classdict__":Str))=false:=by decide):PE X (.Name x pos) (tV i):=(HG a b c d).imp SV
end
section
variable {K:W.Frag}{H:Hp}{Q:VK}{i j:Int}{s t:Str}{a b:Addr}
def SY(K:W.Frag):R2:=λx y H Q=>match x,y with
 | .int i,.int j=>Q (.bl (decide (i=j))) H
 | .str s,.str t=>Q (.bl (decide (s=t))) H
 |x,y=>Sd K x y H Q
def XF(K:W.Frag):R2:=λx y H Q=>match x,y with
 | .int i,.int j=>Q (.bl (!decide (i=j))) H
 | .str s,.str t=>Q (.bl (!decide (s=t))) H
 |x,y=>Vh K x y H Q
theorem JR:SY K (.int i) (.int j) H Q=Q (.bl (decide (i=j))) H:=rfl
theorem JS:SY K (.str s) (.str t) H Q=Q (.bl (decide (s=t))) H:=rfl
theorem JT:SY K (.ref a) (.ref b) H Q=((gS K H 20 (.ref a) (.ref b)/\Q (.bl true) H)\/(tK K H a b/\Q (.bl false) H)):=rfl
theorem JU:XF K (.int i) (.int j) H Q=Q (.bl (!decide (i=j))) H:=rfl
theorem JV:XF K (.str s) (.str t) H Q=Q (.bl (!decide (s=t))) H:=rfl
theorem JW:XF K (.ref a) (.ref b) H Q=((gS K H 20 (.ref a) (.ref b)/\Q (.bl false) H)\/(tK K H a b/\Q (.bl true) H)):=rfl
theorem JX:SY K=Sd K:=by
 funext x y H Q
 cases x<;>cases y<;>first|rfl|calc xV.symm|calc xW.symm
theorem S0:XF K=Vh K:=by
 funext x y H Q
 cases x<;>cases y<;>first|rfl|calc xX.symm|calc xY.symm
theorem aU(a:X.A.units+64<cLine):gU X (compareOp .Eq) (SY X.K):=JX▸IP a
theorem fL(a:X.A.units+64<cLine):gU X (compareOp .NotEq) (XF X.K):=S0▸Se a
theorem pS(a:X.K=K)(b:X.A.units+64<cLine):gU X (compareOp .Eq) (SY K):=JX▸NI a b
end
theorem HT.cL{n:Nat}{i:Int}(h:HT H n v (.int i)):v=.int i:=by
 cases h;rfl
theorem HT.cV{n:Nat}{s:Str}(h:HT H n v (.str s)):v=.str s:=by
 cases h;rfl
theorem HD.cL{n:Nat}{i:Int}(h:HD H n v (.int i)):v=.int i:=by
 cases h;rfl
theorem HD.cV{n:Nat}{s:Str}(h:HD H n v (.str s)):v=.str s:=by
 cases h;rfl
end
end L2
namespace DD
open PySem L2
variable {x:Int}{e:Int×Int}{u:Nat}{s:Option (Int×Int)}
def wO(r:RS):Nat->Nat
 |0=>0
 |W+1=>wO r W+(r.ww W).dz.countP Option.isSome
structure RS.Iv(n:NT)(r:RS):Prop where
 ev:∀(w k:Nat) (m c:Int),w<n.ws.length->(r.ww w).dz[k]?=some (some ((m),c))->0<=m/\m<n.ms.length/\c<(r.mm m.toNat).fe.length
 inj:∀(w k w' k':Nat) (e:Int×Int),w<n.ws.length->w'<n.ws.length->(r.ww w).dz[k]?=some (some e)->(r.ww w').dz[k']?=some (some e)->w=w'/\k=k'
 pk:∀p∈r.picks,∃w k:Nat,∃e,p=(((w:Int)),(k:Int))/\w<n.ws.length/\(r.ww w).dz[k]?=some (some e)
 cnt:wO r n.ws.length=r.picks.length
theorem qw{r a:RS}:∀{W:Nat},(∀w,w<W->(a.ww w).dz.countP Option.isSome=(r.ww w).dz.countP Option.isSome)->wO a W=wO r W
 |0,_=>rfl
 |W+1,h=>by rw[wO,wO,qw λw a=>h w (),h W ()]
theorem JY{r a:RS}{w:Nat}(c:(a.ww w).dz.countP Option.isSome=(r.ww w).dz.countP Option.isSome+1)(b:∀u,u≠w->a.ww u=r.ww u):∀{W:Nat},w<W->wO a W=wO r W+1
 |0,h=>absurd h (aa9 _)
 |W+1,h=>by
  by_cases e:w=W
  ·subst e;have d:wO a w=wO r w:=qw λu a=>by rw[b u ()]
   rw[wO,wO,c,d];lia
  ·rw[wO,wO,JY c b (W:=W) (),b W (λz=>e z.symm)];lia
theorem F8{l:List (Option (Int×Int))}{k:Nat}:(l++[none])[k]?=some (some e)↔l[k]?=some (some e):=by
 by_cases h:k<l.length
 ·rw[aad h]
 ·rw[X' (),List.getElem?_eq_none (l:=l) ()];constructor
  ·intro z
   cases a:k-l.length with
   |zero=>rw[a]at z;simp at z
   |succ j=>rw[a]at z;simp at z
  ·intro z;cases z
section
variable {n:NT}{r:RS}
theorem JZ{w:Nat}:((r.put w x s).ww u).dz=if u=w then(r.ww w).dz++[none] else(r.ww u).dz:=by
 show(if u=w then _ else _:WY).dz=_;split<;>rfl
theorem kB{w:Nat}{k:Nat}:((r.put w x s).ww u).dz[k]?=some (some e)↔(r.ww u).dz[k]?=some (some e):=by
 rw[JZ];split
 ·next z=>subst z;exact F8
 ·calc Iff.rfl
theorem N0{w:Nat}{W:Nat}:wO (r.put w x s) W=wO r W:=qw λu _=>by
 rw[JZ];split
 ·next z=>subst z;simp
 ·rfl
theorem RS.Iv.put(h:r.Iv n){w:Nat}{x:Int}{s:Option (Int×Int)}:(r.put w x s).Iv n:=
  (λu k m c a f=>h.ev u k m c a (kB.mp f),λu k g i e a j b d=>h.inj u k g i e a j (kB.mp b) (kB.mp d),
   λp a=>let ⟨u,k,e,b,d,c⟩:=h.pk p a;(u,k,e,b,d,kB.mpr c),N0.trans h.cnt)
theorem RS.Iv.send{outs:List Nat}{ev:Int×Int}:∀(a:List (Int×Int)) {r:RS},r.Iv n->(r.send outs ev a).Iv n
 | [],r,h=>h
 |p::a,r,h=>by
  show((if p.1.toNat<outs.length then r.put (outs.getD p.1.toNat 0) p.2 (some ev) else r).send outs ev a).Iv n;split
  ·exact RS.Iv.send a h.put
  ·calc RS.Iv.send a h
theorem RS.Iv.lx:∀(a:List (Int×Int)) {r:RS},r.Iv n->(r.lx a).Iv n
 | [],r,h=>h
 |p::a,r,h=>RS.Iv.lx a h.put
theorem RS.Iv.begin{a:List (Int×Int)}:(RS.begin n a).Iv n:=
 RS.Iv.lx a (λw k m c _ h=>by simp[RS.new] at h,λw k a b e _ _ h=>by simp[RS.new] at h,λp a=>absurd a List.not_mem_nil,by
  have:∀W,wO (RS.new n) W=0:=λW=>by
   induction W with
   |zero=>rfl
   |succ W a=>rw[wO,a];rfl
  calc this _)
theorem D8:∀{l:List (Option (Int×Int))}{k:Nat}{e:Int×Int},l[k]?=some none->(l.set k (some e)).countP Option.isSome=l.countP Option.isSome+1
 | [],k,e,h=>by simp at h
 |a::l,0,e,h=>by
  simp at h;subst h;simp
 |a::l,k+1,e,h=>by
  have:=D8 (l:=l) (k:=k) (e:=e) (by simpa using h);rw[List.set_cons_succ,List.countP_cons,List.countP_cons,this];lia
theorem D9{w k:Nat}:((r.step n w k).ww u).dz=if u=w then(r.ww w).dz.set k (some (n.ev r w)) else(r.ww u).dz:=by
 show(if u=w then _ else _:WY).dz=_;split<;>rfl
theorem iF{w k j:Nat}(b:(r.ww w).dz[k]?=some none):((r.step n w k).ww u).dz[j]?=some (some e)↔(u=w/\j=k/\e=n.ev r w)\/(r.ww u).dz[j]?=some (some e):=by
 have c:k<(r.ww w).dz.length:=(List.getElem?_eq_some_iff.mp b).1;rw[D9];split
 ·next z=>
  subst z;by_cases a:j=k
  ·subst a;rw[aa1 c,b];constructor
   ·intro z;cases z;exact .inl (rfl,rfl,rfl)
   ·rintro(⟨_,_,rfl⟩ | z)
    ·rfl
    ·cases z
  ·rw[aa8 (λz=>a z.symm)];exact(.inr,λz=>z.elim (λq=>absurd q.2.1 a) id)
 ·next z=>calc(.inr,λq=>q.elim (λq=>absurd q.1 z) id)
theorem zT{w k:Nat}{m:Nat}:((r.step n w k).mm m).fe.length=(r.mm m).fe.length+if m=n.goal w then 1 else 0:=by
 show(if m=n.goal w then _ else _:MS).fe.length=_;split
 ·next z=>subst z;simp
 ·simp
theorem RS.Iv.step(h:r.Iv n)(z:n.Ok){w k:Nat}(x:w<n.ws.length)(l:(r.ww w).dz[k]?=some none):(r.step n w k).Iv n:=by
 have K:=z.iq x;refine(λu j m c g t=>?_,λu j B C e g y o q=>?_,λp i=>?_,?_)
 ·rcases(iF l).mp t with⟨_,_,e⟩ | t
  ·cases e;calc((),(),?_);rw[aav,zT,if_pos rfl];lia
  ·let(a,b,d):=h.ev u j m c g t;calc(a,b,?_);rw[zT];split<;>lia
 ·have v:∀{u j:Nat},u<n.ws.length->(r.ww u).dz[j]?=some (some (n.ev r w))->False:=λ{u j} g t=>by
   let(_,_,d):=h.ev u j _ _ g t;rw[aav]at d;lia
  rcases(iF l).mp o with⟨F,G,I⟩|o<;>rcases(iF l).mp q with⟨a,b,J⟩|q
  ·exact(F.trans a.symm,G.trans b.symm)
  ·subst I;exact(v y q).elim
  ·subst J;exact(v g o).elim
  ·exact h.inj u j B C e g y o q
 ·have i:p ∈ r.picks++[(((w:Int)),(k:Int))]:=i;rcases List.mem_append.mp i with i | i
  ·let(u,j,e,o,q,a):=h.pk p i;exact(u,j,e,o,q,(iF l).mpr (.inr a))
  ·simp at i;exact(w,k,_,i,x,(iF l).mpr (.inl (rfl,rfl,rfl)))
 ·have a:((r.step n w k).ww w).dz.countP Option.isSome=(r.ww w).dz.countP Option.isSome + 1:=by rw[D9,if_pos rfl,D8 l]
  have b:∀u,u≠w->(r.step n w k).ww u=r.ww u:=λu g=>if_neg g;rw[JY a b x,h.cnt];show _=(r.picks++[_]).length;simp
theorem RS.Iv.pick(h:r.Iv n)(a:n.Ok){w k:Nat}(b:w<n.ws.length)(c:(r.ww w).dz[k]?=some none):(r.pick n w k).Iv n:=RS.Iv.send _ (h.step a b c)
variable {H H':Hp}{bt:List (List Key×V)}{w k:Nat}
end
end DD
namespace DD
open PySem L2
end DD
set_option maxHeartbeats 400000
namespace L2
open PySem PySem.Spec PyProof.Rows
section
section
variable {X:Cx}{o e:Expr}{es:List Expr}{to:TE}{t:TA}{apos p pos:Pos}{C:Addr}{m x:Str}{k j:Nat}{ps:List Str}{sp:Sp}{E:XK}
end
def XG(K:W.Frag)(B:Addr)(PC:Addr->Prop):Prop:=∀{M:Model} {A:Around} {E:Value->Shared->Prop} {s:Shared} {e C:Addr} {d:Option Addr} {vs:Array Value} {a:Array (Option Value)} {Q:Bool->Shared->Prop},K.In s.heap->PC C->
 s.heap.get? e=some ((.ref C,d,.fields vs,a):Obj)->Q true s->wpAny M A (excMatches (.ref e) (.ref B)) Q E s
theorem F9{K:W.Frag}{B:Addr}(a:XBase K B):XG K B (λC=>kx K C B):=λb c d e=>acx b c a d e
def Qa (PC:Addr->Prop)(i:Nat)(a:XK->TS)(b:TS):TS:=λD σ H=>a (λe _ f=>∃a C d,e=.ref a/\f a=some (XO a C d false)/\PC C/\
 b {nx:=λb c=>D.nx (b.set i none) c,rt:=D.rt,bk:=λb c=>D.bk (b.set i none) c,ct:=λb c=>D.ct (b.set i none) c} (σ.set i (some (.ref a))) f) D σ H
section
variable {X:Cx}{i:Nat}{B:Addr}{PC:Addr->Prop}{tb:XK->TS}{th:TS}{n x:Str}{st b₀:Stmt}{Qb:List Stmt}{np S8 pos:Pos}
theorem N4(y:X.stack=X.env::X.outer)(E:X.env.frame=some X.env.locals)(j:X.N.Nodup)(k:X.N[i]?=some n)(g:X.env.scope.names.lookup n=some .local)(F:Gl X x)(G:X.mg x=some (.ref B))(J:XG X.K B PC)
  (d:PSX X st tb) (L:∀a,vp (X.qt a) (b₀::Qb) th) (M:(x==("__debug__":Str))=false:=by decide):
  PS X (.Try [st] [.ExceptHandler (some (.Name x np)) (some n) (b₀::Qb) S8] [] [] pos) (Qa PC i tb th):=by
 walk_at "xd";refine wpAny_Try_except ?_;refine wpAny_execs_cons (dy (d.out pins s σ H D _ _ (λZ C x r O P=>?_) I h) λf C q=>?_)
 ·let(a,C0,d0,Q,t,rfl,w,Z,R,o,a',C,d,S,c,U,q):=O.thrown P
  cases S;have l:=w.ok;calc zC (T:=some t) y E w c R (λd z=>by cases z;calc o) λw y t d e _=>?_;rw[JD c]at t e;calc tU (s:={r with heap:=w}) t d e λW b p=>?_;let(d,o,Y):=Jg b c;calc wpAny_handleBy_cons (codeAny_handlers_test (km (X:=X.qt a) (b.qt a) F G (J (b.qt a).iz U Y ?_) M)) (by intro z;cases z);calc codeAny_handlers_suite_as (tU (X:=X.qt a) (s:={r with heap:=W}) (b.qt a) p e λd c _=>?_);calc j4 (X:=X.qt a) c j k (.inl g) (v:=.ref a) (u:=.ref a) rfl (λb c=>?_) (.inr g);calc aaH ((L a) pins b _ Q _ c q) (λf d m=>?_) λ_ _ z=>aaA z;show wpAny _ X.A (do bindName X.env n .none;unbindBehindTheSuite X.env n S8) _ _ d
  cases f with
  |next=>
   let(a,b,c,d):=m;calc sD (c.yc l) j k g λo e=>(_,b,e,d)
  |brk=>
   let(a,b,c,d):=m;calc sD (c.yc l) j k g λo e=>(_,b,e,d)
  |cont=>
   let(a,b,c,d):=m;calc sD (c.yc l) j k g λo e=>(_,b,e,d)
  |ret u=>
   let(v,a,b,c,p,d):=m;exact sD (c.yc l) j k g λo e=>(v,_,b,e,p,d)
 ·cases f with
  |next=>calc wpAny_execs_nil (wpAny_execs_nil q)
  |ret v=>calc q
  |brk=>calc q
  |cont=>calc q
end
theorem N5 {PC:Addr->Prop}{i:Nat}{e:XK->TS}{g:TS}{D:Ends}{σ:St}{H:Hp}(h:∀j:XK,(∀a C d f,f a=some (XO a C d false)->PC C->
  g {nx:=λb c=>D.nx (b.set i none) c,rt:=D.rt,bk:=λb c=>D.bk (b.set i none) c,ct:=λb c=>D.ct (b.set i none) c} (σ.set i (some (.ref a))) f->j (.ref a) none f)->e j D σ H):Qa PC i e g D σ H:=
 h _ λa C d f e b q=>(a,C,d,rfl,e,b,q)
end
section
end
end L2
namespace L2
open PySem PySem.Spec PyProof.Rows
end L2
set_option maxHeartbeats 4000000
namespace L2
open PySem PySem.W PyProof.Rows
variable {p:Array Nat}{i:Nat}
structure vF(n:Nat)(lt:Nat->Nat->Bool):Prop where
 as:∀i j,lt i j=true->lt j i=false
 tr:∀i j k,lt i j=true->lt j k=true->lt i k=true
 tot:∀i j,i<n->j<n->i≠j->lt i j=false->lt j i=true
def yg(n:Nat)(c:Nat->Nat->Bool){α:Type}(t:KasT α)(Q:α->Prop):Prop:=
 ∀(b:Nat->Nat->(Bool->Shared->Prop)->Shared->Prop) (G:α->Shared->Prop) (s:Shared),(∀i j C,i<n->j<n->C (c i j) s->b i j C s)->(∀a,Q a->G a s)->t.kasWp b G s
section
variable {n:Nat}{lt:Nat->Nat->Bool}{α β:Type}
theorem yg.ret{a:α}{Q:α->Prop}(h:Q a):yg n lt (.ret a) Q:=λ_ _ _ _ b=>b a h
theorem yg.ask{j:Nat}{k:Bool->KasT α}{Q:α->Prop}(c:i<n)(d:j<n)(h:yg n lt (k (lt i j)) Q):yg n lt (.ask i j k) Q:=λa G s b e=>b i j _ c d (h a G s b e)
theorem yg.bind{t:KasT α}{f:α->KasT β}{R:α->Prop}{Q:β->Prop}(h:yg n lt t R)(d:∀a,R a->yg n lt (f a) Q):yg n lt (t.bind f) Q:=λb G s c e=>by
 rw[KasT.kasWp_bind];calc h b _ s c λa f=>d a f b G s c e
theorem yg.mono{t:KasT α}{R Q:α->Prop}(h:yg n lt t R)(c:∀a,R a->Q a):yg n lt t Q:=λb G s d e=>h b G s d λa f=>e a (c a f)
def PP(n:Nat)(p:Array Nat):Prop:=p.Perm (List.range n).toArray
theorem PP.size(h:PP n p):p.size=n:=by have:=h.size_eq;simpa using this
theorem PP.get(h:PP n p){i:Nat}(a:i<n):p[i]?=some (p.getD i 0):=by
 have:=h.size;rw[aaI,Array.getElem?_eq_getElem ()];rfl
theorem PP.Bm(h:PP n p){i:Nat}(a:i<n):p.getD i 0<n:=by
 have e:=h.get a;have m:p.getD i 0∈p:=Array.mem_of_getElem? e;have:=h.mem_iff.mp m;simpa using this
theorem PP.inj(h:PP n p){i j:Nat}(b:i<n)(d:j<n)(f:i≠j):p.getD i 0≠p.getD j 0:=λe=>by
 have g:p.toList.Nodup:=(h.toList).nodup_iff.mpr (by simpa using List.nodup_range);have a:=h.get b;have c:=h.get d;rw[<-Array.getElem?_toList]at a c;rw[e,<-c]at a;calc f ((List.getElem?_inj (by have:=h.size;simpa[this] using b) g).mp a)
def SS(lt:Nat->Nat->Bool)(p:Array Nat)(k:Nat):Prop:=∀i j,i<j->j<k->lt (p.getD i 0) (p.getD j 0)=true
def SD(lt:Nat->Nat->Bool)(p:Array Nat)(k:Nat):Prop:=∀i j,i<j->j<k->lt (p.getD j 0) (p.getD i 0)=true
theorem SS.succ(a:vF n lt){p:Array Nat}{k:Nat}(h:SS lt p k)(b:1<=k)(e:lt (p.getD (k-1) 0) (p.getD k 0)=true):SS lt p (k+1):=λi j b c=>by
 by_cases z:j<k
 ·exact h i j b z
 ·obtain rfl:j=k:=by lia
  by_cases y:i=j-1
  ·rw[y];exact e
  ·calc a.tr _ _ _ (h i (j-1) () ()) e
theorem SD.succ(a:vF n lt){p:Array Nat}{k:Nat}(h:SD lt p k)(b:1<=k)(e:lt (p.getD k 0) (p.getD (k-1) 0)=true):SD lt p (k+1):=λi j b c=>by
 by_cases z:j<k
 ·exact h i j b z
 ·obtain rfl:j=k:=by lia
  by_cases y:i=j-1
  ·rw[y];exact e
  ·calc a.tr _ _ _ e (h i (j-1) () ())
theorem Ca(l:vF n lt){p:Array Nat}(g:PP n p):∀(f k:Nat),1<=k->k+f<=n->SS lt p k->yg n lt (kas_asc p f k) λm=>k<=m/\m<=k+f/\SS lt p m/\(m<k+f->lt (p.getD m 0) (p.getD (m-1) 0)=true)
 |0,k,o,_,h=>.ret (L' _,L' _,h,λz=>absurd z (aaP _))
 |f+1,k,o,a,h=>by
  unfold kas_asc;refine .ask (g.Bm ()) (g.Bm ()) ?_
  cases e:lt (p.getD k 0) (p.getD (k-1) 0) with
  |true=>
   rw[if_pos rfl];calc .ret (L' _,(),h,λ_=>e)
  |false=>
   rw[if_neg ∅];have q:=l.tot _ _ (g.Bm ()) (g.Bm ()) (g.inj (i:=k) (j:=k-1) () () ()) e;calc(Ca l g f (k+1) () () (h.succ l o q)).mono λm (a,b,c,d)=>((),(),c,λz=>d ())
theorem Ea(o:vF n lt){p:Array Nat}(l:PP n p):∀(f k:Nat),1<=k->k+f<=n->SD lt p k->yg n lt (kas_desc f p k 0) λr=>r.1=p/\k<=r.2.1/\r.2.1<=k+f/\r.2.2=0/\SD lt p r.2.1
 |0,k,q,_,h=>.ret (rfl,L' _,L' _,rfl,h)
 |f+1,k,q,a,h=>by
  unfold kas_desc;refine .ask (l.Bm ()) (l.Bm ()) ?_
  cases e:lt (p.getD k 0) (p.getD (k-1) 0) with
  |true=>
   rw[if_pos rfl,if_neg ()];calc(Ea o l f (k+1) () () (h.succ o q e)).mono λm (a,b,c,d,g)=>(a,(),(),d,g)
  |false=>
   rw[if_neg ∅];have a:=o.tot _ _ (l.Bm ()) (l.Bm ()) (l.inj (i:=k) (j:=k-1) () () ()) e;calc .ask (l.Bm ()) (l.Bm ()) ?_;rw[a,if_pos rfl];calc .ret (rfl,L' _,abe _ _,rfl,h)
theorem J0{k:Nat}(a:PP n p)(c:k<=n)(b:i<k):(kas_rev p 0 k).getD i 0=p.getD (k-1-i) 0:=by
 have c:=a.size;unfold kas_rev;rw[aaI,getElem?_mirror_all (),if_pos (aap _,b),Nat.zero_add,<-aaI]
theorem J1{j:Nat}(a:PP n p):PP n (kas_rev p i j):=(mirror_perm _ _ _ _).trans a
theorem J2(a:vF n lt){p:Array Nat}(d:PP n p){k:Nat}(b:1<=k)(e:k<=n)(h:SD lt p k):yg n lt (kas_tail3 k n p) λr=>1<=r.1/\r.1<=n/\PP n r.2/\SS lt r.2 r.1:=by
 unfold kas_tail3;calc .bind (Ca a (J1 (i:=0) (j:=k) d) (n-k) k b () λi j a f=>?_) λm (a,b,c,_)=>.ret ((),(),J1 d,c);rw[J0 d e (),J0 d e f];calc h _ _ () ()
theorem J3(g:vF n lt){p:Array Nat}(f:PP n p)(a:1<=n):yg n lt (kas_count n p) λr=>1<=r.1/\r.1<=n/\PP n r.2/\SS lt r.2 r.1:=by
 unfold kas_count;calc .bind (Ca g f (n-1) 1 (L' _) () λi j k l=>by lia) λm o=>?_;let(a,b,c,d):=o;by_cases b:m=n
 ·rw[if_pos (by simpa using b)];exact .ret (a,(),f,c)
 ·rw[if_neg (by simpa using b)];by_cases h:m > 1
  ·rw[if_pos h];calc .ask (f.Bm ()) (f.Bm ()) ?_;rw[c 0 (m-1) () (),if_pos rfl];exact .ret (a,(),f,c)
  ·rw[if_neg h];obtain rfl:m=1:=by lia
   unfold kas_descPart;refine .bind (Ea g f (n-(1+1)) (1+1) () () λi j k l=>?_) λr (e,a,b,c,q)=>?_
   ·obtain⟨rfl,rfl⟩:i=0/\j=1:=by lia
    exact d ()
   ·rw[if_neg (),e];calc J2 g f () () q
theorem ui(b:vF n lt){p:Array Nat}(a:PP n p){k:Nat}(c:k<n)(d:SS lt p k):∀(f l r:Nat),l<=r->r<=k->r-l<=f->(∀i,i<l->lt (p.getD i 0) (p.getD k 0)=true)->(∀i,r<=i->i<k->lt (p.getD k 0) (p.getD i 0)=true)->yg n lt (kas_place p k f l r) λm=>m<=k/\(∀i,i<m->lt (p.getD i 0) (p.getD k 0)=true)/\(∀i,m<=i->i<k->lt (p.getD k 0) (p.getD i 0)=true)
 |0,l,r,e,g,q,h,o=>by
  obtain rfl:l=r:=by lia
  calc .ret (g,h,o)
 |f+1,l,r,e,g,q,h,o=>by
  unfold kas_place;by_cases z:l >= r
  ·rw[if_pos z];obtain rfl:l=r:=by lia
   exact .ret (g,h,o)
  ·rw[if_neg z];refine .ask (a.Bm c) (a.Bm ()) ?_
   cases e:lt (p.getD k 0) (p.getD ((l+r)/2) 0) with
   |true=>
    rw[if_pos rfl];calc ui b a c d f l _ () () () h λi m q=>?_;by_cases y:i=(l+r)/2
    ·rw[y];exact e
    ·calc b.tr _ _ _ e (d _ _ () q)
   |false=>
    rw[if_neg ∅];have h:=b.tot _ _ (a.Bm c) (a.Bm ()) (a.inj (i:=k) (j:=(l+r)/2) c () ()) e;calc ui b a c d f _ r () g () (λi m=>?_) o;by_cases y:i=(l+r)/2
    ·rw[y];exact h
    ·calc b.tr _ _ _ (d _ _ () ()) h
theorem J4{k l:Nat}(b:PP n p)(a:k<n)(c:l<=k):(bubble p k (k-l)).getD i 0=if i=l then p.getD k 0 else if l<i/\i<=k then p.getD (i-1) 0 else p.getD i 0:=by
 have a:=b.size;rw[aaI,getElem?_bubble () _ (),show k-(k-l)=l by lia];by_cases a:i=l
 ·rw[if_pos a,if_pos a,<-aaI]
 ·rw[if_neg a,if_neg a];by_cases b:l < i/\i<=k
  ·rw[if_pos b,if_pos b,<-aaI]
  ·rw[if_neg b,if_neg b,<-aaI]
theorem J5(e:vF n lt):∀(f:Nat) {p:Array Nat}(k:Nat),PP n p->1<=k->k+f=n->SS lt p k->yg n lt (kas_bin f p k) λq=>PP n q/\SS lt q n
 |0,p,k,d,_,a,h=>.ret (d,by rw[show n=k by lia];calc h)
 |f+1,p,k,d,b,a,h=>by
  unfold kas_bin;calc .bind (ui e d () h k 0 k (aap _) (L' _) () (λi z=>absurd z (aa9 _)) λi a b=>by lia) λl g=>?_;let(a,b,c):=g;calc J5 e f (k+1) ((bubble_perm _ _ _).trans d) () () λi j m o=>?_;rw[J4 d () a,J4 d () a];by_cases e:i=l
  ·rw[if_pos e,if_neg (),if_pos ()];exact c _ () ()
  ·rw[if_neg e];by_cases a:j=l
   ·rw[if_neg (),if_pos a];exact b _ ()
   ·rw[if_neg a];by_cases b:l < i/\i<=k
    ·rw[if_pos b,if_pos ()];exact h _ _ () ()
    ·rw[if_neg b];by_cases a:l < j/\j<=k
     ·rw[if_pos a];by_cases z:i=j - 1
      ·lia
      ·exact h _ _ () ()
     ·rw[if_neg a];calc h _ _ m ()
theorem N6(e:vF n lt)(a:1<=n):yg n lt (kas_sort n) λq=>PP n q/\SS lt q n:=by
 unfold kas_sort;calc .bind (J3 e (Array.Perm.refl _) a) λr f=>?_;let(a,b,c,d):=f;by_cases z:r.1<n
 ·rw[if_pos z,show max r.1 1=r.1 by lia];exact J5 e _ _ c a () d
 ·rw[if_neg z];obtain e:r.1=n:=by lia
  rw[e]at d;calc .ret (c,d)
end
end L2
namespace L2
open PySem PySem.Spec PyProof.Rows
end L2
set_option maxHeartbeats 400000
namespace L2
open PySem PySem.Spec PyProof.Rows
section
def XH(h:Heap)(d:Addr)(a:Array DictEntry)(ep:Nat):Prop:=∃o,h.get? d=some o/\o.ExactDict/\o.data=.dict a ep
theorem XH.type{s:Shared}{d:Addr}{a:Array DictEntry}{ep:Nat}(x:XH s.heap d a ep):s.TypeIs (.ref d) "dict":=let ⟨o,h,c,_⟩:=x;(o,h,c.1)
section
variable {P:Program}{w:World}{H:Hp}{h:Heap}{a:Addr}{bt:List (List Key×V)}
theorem Paired.get{α β:Type}{F:α->β->Prop}:∀{c:List α}{d:List β},Paired F c d->∀{i:Nat}{a:α},c[i]?=some a->∃b,d[i]?=some b/\F a b
 |_,_,.nil,i,a,e=>by simp at e
 |_,_,.cons r t,0,a,e=>by cases e;calc(_,rfl,r)
 |_,_,.cons r t,i+1,a,e=>Paired.get t (i:=i) e
end
end
section
section
variable {prog:Program}{w:World}{A:Around}{E:Value->Shared->Prop}{s:Shared}{d:Addr}{es:Array DictEntry}{ep:Nat}
end
section
variable {prog:Program}{w:World}{K:Type} [DecidableEq K]{knd:HeapKind prog w K}{A:Around}{E:Value->Shared->Prop}{s:Shared}
end
end
end L2
namespace L2
open PySem PySem.Spec PyProof.Rows DD
end L2
set_option maxHeartbeats 4000000
namespace DD
open PySem L2
end DD
namespace L2
open PySem PySem.W PySem.Spec PyProof.Rows
variable {vs:List Value}{f:Nat->Int×Int}
def yh(a b:Int×Int):Bool:=decide (a.1<b.1)||(decide (a.1=b.1)&&decide (a.2<b.2))
theorem gm{a b:Int×Int}:yh a b=true↔a.1<b.1\/(a.1=b.1/\a.2<b.2):=by simp[yh]
theorem Cb{a b:Int×Int}:yh a b=false↔¬(a.1<b.1\/(a.1=b.1/\a.2<b.2)):=by rw[<-gm];simp
theorem Ta{n:Nat}(c:∀i j,i<n->j<n->i≠j->f i≠f j):vF n λi j=>yh (f i) (f j):=by
 refine(λi j h=>?_,λi j k a b=>?_,λi j d g k h=>?_)
 ·have:=gm.mp h;exact Cb.mpr ()
 ·have:=gm.mp a;have:=gm.mp b;exact gm.mpr ()
 ·have a:=Cb.mp h;have b:=c i j d g k;calc gm.mpr ?_;by_cases e:(f i).1=(f j).1
  ·by_cases a:(f i).2=(f j).2
   ·exact absurd (Prod.ext e a) b
   ·lia
  ·lia
def nV(h:Heap)(v:Value)(p:Int×Int):Prop:=∃a o n t u,v=.ref a/\h.get? a=some o/\o.cls=.type "tuple"/\o.data=.seq #[.int p.1 t,.int p.2 u] n
section
variable {prog:Program}{w:World}{A:Around}{E:Value->Shared->Prop}{s:Shared}
theorem N7{x y:Value}{p q:Int×Int}{Q:Bool->Shared->Prop}(c:nV s.heap x p)(d:nV s.heap y q)(h:Q (yh p q) s):wpAny (model prog w) A (keyLt' (tuples' true) x y) Q E s:=by
 let(a,e,i,j,k,rfl,f,l,g):=c;let(b,m,n,o,r,rfl,a,e,i):=d;calc kat_lt f g a i ?_;calc kat_cons (wpAny_eqBool_int ?_);by_cases e:p.1=q.1
 ·rw[show(p.1 == q.1)=true by simpa using e];calc kat_yes (kat_cons (wpAny_eqBool_int ?_));by_cases a:p.2=q.2
  ·rw[show(p.2==q.2)=true by simpa using a];calc kat_yes (kat_nil ?_);have:yh p q=false:=Cb.mpr ();rw[this]at h;exact h
  ·rw[show(p.2 == q.2)=false by simpa using a];calc kat_no ?_;calc kat_one _ _ (PyProof.Rows.lt_int ?_);have:yh p q=decide (p.2 < q.2):=by simp[yh,e]
   rw[this]at h;exact h
 ·rw[show(p.1 == q.1)=false by simpa using e];calc kat_no ?_;have:yh p q=decide (p.1 < q.1):=by simp[yh,e]
  rw[this]at h;calc oneLt_int h
theorem J6{h:Heap}:∀(vs:List Value) (f:Nat->Int×Int),(∀i v,vs[i]?=some v->nV h v (f i))->∃g,KatTups h vs g/\g.length=vs.length/\∀v∈g,∃n t,v=.int n t
 | [],_,_=>([],KatTups.nil,rfl,λv d=>by simp at d)
 |x::vs,f,d=>by
  let(g,a,b,c):=J6 vs (λi=>f (i + 1)) λi v e=>d (i + 1) v e;let(y,o,n,t,u,rfl,h,j,k):=d 0 x rfl;exact⟨_::g,KatTups.cons h j k rfl a,by simp[b],λv d=>by
   rcases List.mem_cons.mp d with rfl|d
   ·exact(_,_,rfl)
   ·calc c v d⟩
theorem Gd{Q:SortKind->Shared->Prop}(a:0<vs.length)(d:∀i v,vs[i]?=some v->nV s.heap v (f i))(h:Q (tuples' true) s):wpAny (model prog w) A (keyKind' vs.toArray) Q E s:=by
 let(e,a,b,c):=J6 vs f d;refine kat_kind (T:=Value.type "int") a () (λv d=>?_) ∅ ?_
 ·let(n,t,rfl):=c v d;exact Looks.of_pure rfl
 ·have:(Value.type "int" != Value.type "tuple")=true:=by decide
  rw[this];calc h
theorem rV{a:Addr}{n:Nat}{P:PySem.Fin->Shared->Prop}(r:s.heap.get? a=some (seqObj "list" vs.toArray n))(K:∀i v,vs[i]?=some v->nV s.heap v (f i))(L:∀i j,i<vs.length->j<vs.length->i≠j->f i≠f j)(M:vs.length<64)
  (h:∀p:List Nat,p.Perm (List.range vs.length)->p.Pairwise (λi j=>yh (f i) (f j)=true)->P (.done (.ret .none)) {s with heap:=sortedHeap s.heap a vs (p.map λi=>vs.getD i Value.none).toArray}):
  wpAny (model prog w) A (Builtin.«list.sort» ([.ref a],[])) P E s:=by
 rw[list_sort_plain];have z:a<s.heap.objs.size:=R' r;calc F' (listItems_at r rfl ?_);calc F' (listUpdate_at r rfl ?_);obtain⟨d,n⟩:∃d,(s.heap.update a (Obj.mapSeq λ_=>#[])).get? a=some (seqObj "list" #[] d):=(_,get?_update_seq r (λ_=>#[]))
 calc F' (seqEpoch_at n rfl ?_);calc F' (wpAny_newTuple ?_);calc F' (wpAny_newList ?_);calc aaN ?_;have x:∀b o,b≠a->s.heap.get? b=some o->(((s.heap.update a (Obj.mapSeq λ_=>#[])).push (seqObj "tuple" vs.toArray 0)).push (seqObj "list" #[] 0)).get? b=some o:=λb o N q=>by
  have J:b<s.heap.objs.size:=R' q;rw[abb _ _ _ (by rw[size_push',aaV];calc aai (Nat.lt_succ_of_lt J)),abb _ _ _ (by rw[aaV];calc aai J),Heap.get?_update_ne _ _ _ _ N];exact q
 have c:(((s.heap.update a (Obj.mapSeq λ_=>#[])).push (seqObj "tuple" vs.toArray 0)).push (seqObj "list" #[] 0)).get? a=some (seqObj "list" #[] d):=by
  rw[abb _ _ _ (by rw[size_push',aaV];calc aai (Nat.lt_succ_of_lt z)),abb _ _ _ (by rw[aaV];calc aai z)];exact n
 have g:∀i v,vs[i]?=some v->nV (((s.heap.update a (Obj.mapSeq λ_=>#[])).push (seqObj "tuple" vs.toArray 0)).push (seqObj "list" #[] 0)) v (f i):=λi v e=>by
  let(b,o,m,t,u,rfl,d,C,n):=K i v e;calc(b,o,m,t,u,rfl,x b o (λz=>?_) d,C,n);rw[z,r]at d
  cases d;exact absurd C (show ¬(Value.type "list"=Value.type "tuple") by decide)
 have y:=h;show wpAny (model prog w) A _ P E {s with heap:=((s.heap.update a (Obj.mapSeq λ_=>#[])).push (seqObj "tuple" vs.toArray 0)).push (seqObj "list" #[] 0)};dsimp only;have k:vs.toArray.size=vs.length:=by simp
 by_cases b:vs.toArray.size<2
 ·rw[if_pos b,if_pos b];calc F' (P' ?_);rw[StateT.run_pure];calc F' (P' ?_);dsimp only;calc F' (seqEpoch_at c rfl ?_);calc F' (listUpdate_at c rfl ?_ (hsz2:=by rw[Array.size_map];show(pairsOf vs).size<=_;rw[pairsOf_size,aaw];lia));simp only[bne_self_eq_false,Bool.false_eq_true,if_false];have e:=y (List.range vs.length) (List.Perm.refl _) (by
   match vs,k,b with
   | [],_,_=>calc .nil
   | [_],_,_=>calc List.pairwise_singleton _ _
   | _::_::_,d,b=>simp at b;lia)
  have C:((List.range vs.length).map λi=>vs.getD i Value.none).toArray=(vs.toArray.zip vs.toArray).map (·.2):=by
   apply Array.toList_inj.mp;apply List.ext_getElem?;intro i;by_cases l:i<vs.length
   ·simp[l]
   ·simp[l]
  rw[C]at e;exact P' e
 ·rw[if_neg b,if_neg b];have d:2<=vs.length:=by lia
  calc F' (Gd (f:=f) () g ?_);refine F' (aaH (kat_run (E:=E) (κ:=tuples' true) (ks:=vs) (vs:=vs) (Q:=λI D=>D={s with heap:=((s.heap.update a (Obj.mapSeq λ_=>#[])).push (seqObj "tuple" vs.toArray 0)).push (seqObj "list" #[] 0)}/\∃p:Array Nat,arrOf I=p.map (kas_item (vs.toArray.zip vs.toArray))/\failedOf I=none/\PP vs.length p/\SS (λi j=>yh (f i) (f j)) p vs.length)
   (G:=λp D=>D={s with heap:=((s.heap.update a (Obj.mapSeq λ_=>#[])).push (seqObj "tuple" vs.toArray 0)).push (seqObj "list" #[] 0)}/\PP vs.length p/\SS (λi j=>yh (f i) (f j)) p vs.length)
   rfl d M (λp I D _ b h a=>(a.1,p,b,h,a.2.1,a.2.2)) (N6 (Ta L) () _ _ _ (λi j C l F d=>?_) λp H=>(rfl,H))) ?_ λ_ _ e=>e)
  ·refine N7 (g i _ ?_) (g j _ ?_) d
   ·rw[aah,dH l];rfl
   ·rw[aah,dH F];rfl
  rintro⟨⟨⟩,I⟩ D ⟨rfl,p,b,d,H,e⟩;dsimp only;have a:=kat_snds rfl b;rw[a];calc F' (seqEpoch_at c rfl ?_);calc F' (listUpdate_at c rfl ?_ (hsz2:=by rw[aaj,T',Array.length_toList,H.size,aaw];lia));rw[d];simp only[bne_self_eq_false,Bool.false_eq_true,if_false];calc P' (y p.toList (by have:=Array.perm_iff_toList_perm.mp H;simpa using this) ?_);rw[List.pairwise_iff_getElem];intro i j l F a;have k:=H.size;have:=e i j a (by simpa[k] using F);rw[Array.length_toList]at l F;simpa[Array.getD,l,F] using this
theorem yi{l:Addr}{Q:Value->Shared->Prop}(d:s.heap.IsList l vs.toArray)(k:∀i v,vs[i]?=some v->nV s.heap v (f i))(n:∀i j,i<vs.length->j<vs.length->i≠j->f i≠f j)(r:vs.length<64)
  (h:∀p:List Nat,p.Perm (List.range vs.length)->p.Pairwise (λi j=>yh (f i) (f j)=true)->Q (.ref (s.heap.objs.size+1)) {s with heap:=sortedAll s.heap vs (p.map λi=>vs.getD i Value.none).toArray}):
  wpAny (model prog w) A (call (.builtin "sorted") [.ref l]) Q E s:=by
 refine Calls.call_function_entry kind_sorted plain_sorted entry_sorted (args_sorted1 _) ?_;unfold Builtin.«sorted»;refine F' (m:=checkCount "sorted" 1 1 _) (P' ?_);refine F' (collect_list d ?_);refine F' (wpAny_newList ?_);have a:((s.heap.push (seqObj "list" #[] 0)).update s.heap.objs.size (Obj.mapSeq (· ++vs.toArray))).objs.size=s.heap.objs.size+1:=by
  rw[aaV,size_push']
 have g:(((s.heap.push (seqObj "list" #[] 0)).update s.heap.objs.size (Obj.mapSeq (· ++vs.toArray))).push (seqObj "list" vs.toArray 0)).get? (s.heap.objs.size+1)=some (seqObj "list" vs.toArray 0):=by
  rw[<-a];exact Y' _ rfl
 have c:∀b o,s.heap.get? b=some o->(((s.heap.push (seqObj "list" #[] 0)).update s.heap.objs.size (Obj.mapSeq (· ++vs.toArray))).push (seqObj "list" vs.toArray 0)).get? b=some o:=λb o q=>by
  have d:b<s.heap.objs.size:=R' q;rw[abb _ _ _ (by rw[a];calc aai (Nat.lt_succ_of_lt d)),Heap.get?_update_ne _ _ _ _ (aai d),abb _ _ _ (aai d)];exact q
 show wpAny _ _ _ _ _ {s with heap:=((s.heap.push (seqObj "list" #[] 0)).update s.heap.objs.size (Obj.mapSeq (· ++vs.toArray))).push (seqObj "list" vs.toArray 0)};rw[a];refine F' (aaN (aa3 slot_list_sort (_,g,rfl) entry_list_sort (rV (f:=f) g (λi v e=>?_) n r λp x y=>(_,rfl,?_)) (args_list_sort _)))
 ·let(b,o,m,t,u,rfl,a,d,g):=k i v e;exact(b,o,m,t,u,rfl,c _ _ a,d,g)
 calc P' (_,rfl,h p x y)
end
end L2
namespace L2
open PySem PySem.W PySem.Spec PyProof.Rows
section
variable {prog:Program}{w:World}{A:Around}{E:Value->Shared->Prop}{s:Shared}{T:String}{r d:Addr}{n:Nat}{P:Nat->Value->Prop}{OK:Heap->Prop}
theorem zU{Q:List Value->Shared->Prop}(K:KdlSrc prog w T r d n P OK)(l:A.handled=none)(i:OK s.heap)(m:n<=sizeLine)
  (h:∀h' c f,(∀b o,s.heap.get? b=some o->h'.get? b=some o)->s.heap.objs.size<=h'.objs.size->ItemsOf P f n->Q f.toList {s with heap:=h',toks:=c}):wpAny (model prog w) A (collect (.ref r)) Q E s:=by
 unfold collect;refine F' (wpAny_runValue (codeAny_builtin entry_proto_collect' ?_));show wpAny _ _ (do again (.builtin "list.__iadd__" ([<-newList [],.ref r],[]))) _ _ s;refine F' (wpAny_newList (P' (Code.quiet_builtin _ ⋯,codeAny_builtin entry_list_iadd' ?_)));show wpAny _ _ (Builtin.List.listExtendWith (.ref s.heap.objs.size) (.ref r) (.ref s.heap.objs.size)) _ _ {s with heap:=s.heap.push (seqObj "list" #[] 0)};have j:=K.there _ i;have p:(s.heap.push (seqObj "list" #[] 0)).get? s.heap.objs.size=some (seqObj "list" #[] 0):=Y' _ rfl;rw[Around.under_plainId ⋯];refine kdl_extend (R:=λr k=>match r with
   | .ok (.ret v)=>wpAny (model prog w) A (match v with
    | .ref a=>(do
     let o <-load a
     match o.data with
     | .seq g _=>pure g.toList
     | _=>unsupported "internal:collect")
    | _=>unsupported "internal:collect") Q E k
   | .ok _=>False
   | .error e=>E e k) (s:={s with heap:=s.heap.push (seqObj "list" #[] 0)}) K l (K.keep _ _ i λb _ o e=>K' _ e) _ (aaJ j.1) (aaJ j.2) (.ref s.heap.objs.size) 0 p (λh' c f l i a k=>?_) m
 show wpAny (model prog w) A (do
   let o <-load s.heap.objs.size
   match o.data with
   | .seq g _=>pure g.toList
   | _=>unsupported "internal:collect") Q E {s with heap:=h',toks:=c}
 calc F' (wpAny_load a ?_);calc P' (h h' c f (λb o e=>i b o (aai (R' e)) (K' _ e)) (M' (R' a)) k)
theorem Cd{Q:Value->Shared->Prop}{ks:List Int}(K:KdlSrc prog w T r d n P OK)(i:A.handled=none)(j:OK s.heap)(a:n<64)(l:∀c:Array Value,ItemsOf P c n->IntsAre c.toList ks)
  (h:∀h' g (out:Array Value) f e a,(∀b o,s.heap.get? b=some o->h'.get? b=some o)->s.heap.objs.size<=a->h'.get? a=some (seqObj "list" out e)->IntsAre out.toList f->f.Perm ks->f.Pairwise (· <=·)->Q (.ref a) {s with heap:=h',toks:=g}):
  wpAny (model prog w) A (call (.builtin "sorted") [.ref r]) Q E s:=by
 refine Calls.call_function_entry kind_sorted plain_sorted entry_sorted (args_sorted1 _) ?_;unfold Builtin.«sorted»;refine F' (m:=checkCount "sorted" 1 1 _) (P' ?_);refine F' (zU K i j (by rw[aaw];lia) λh' g c p a k=>?_);have i:c.toList.length=n:=by rw[Array.length_toList];exact k.1
 refine F' (wpAny_newList ?_ (by rw[i,aaw];lia));have j:(h'.push (seqObj "list" c.toList.toArray 0)).get? h'.objs.size=some (seqObj "list" c.toList.toArray 0):=Y' _ rfl;refine F' (aaN (aa3 slot_list_sort (_,j,rfl) entry_list_sort (list_sort_tree j (l _ k) () λout f c i t=>(_,rfl,?_)) (args_list_sort _)));let(e,k):=sortedHeap_at (out:=out) j;refine P' (_,rfl,h _ g out f e _ (λb o q=>?_) ?_ k c i t)
 ·have e:=p b o q;have c:b<h'.objs.size:=R' e;show(sortedHeap (h'.push _) h'.objs.size _ out).get? b=some o;rw[sortedHeap_old (aai c) (by rw[size_push'];calc Nat.lt_succ_of_lt c),abb _ _ _ (aai c)];exact e
 ·calc a
end
structure Tc(H:Hp)(ys:List V)(ps:List (Int×Int)):Prop where
 len:ys.length=ps.length
 got:∀(i:Nat) p,ps[i]?=some p->∃b,ys[i]?=some (.ref b)/\H b=some (.tup [.int p.1,.int p.2])
theorem Tc.mono{H a:Hp}{b:List V}{c:List (Int×Int)}(h:Tc H b c)(s:ck H a):Tc a b c:=(h.len,λi p e=>let ⟨b,a,c⟩:=h.got i p e;(b,a,s _ _ c))
theorem wQ:∀{ns:List Int}{us:List Value},Vals (ns.map V.int) us->IntsAre us ns
 | [],_,.nil=>.nil
 |n::ns,_,.cons r a=>by
  let(t,rfl):=r;calc .cons n t (wQ a)
theorem ints_get:∀{us:List Value}{ks:List Int},us.length=ks.length->(∀(i:Nat) u k,us[i]?=some u->ks[i]?=some k->∃t,u=.int k t)->IntsAre us ks
 | [],[],_,_=>.nil
 |u::us,k::ks,a,h=>by
  let(t,rfl):=h 0 u k rfl rfl;calc .cons k t (ints_get (by simpa using a) λi u k b c=>h (i+1) u k b c)
theorem zV{a:List V}{us:List Value}(h:Vals a us):∀(p:List Nat),(∀i∈p,i<a.length)->Vals (p.map λi=>a.getD i .bO) (p.map λi=>us.getD i Value.none)
 | [],_=>.nil
 |i::p,b=>by
  have c:=b i aas;let(u,e,r):=h.get (dH c);calc .cons ?_ (zV h p λj d=>b j (aak _ d));show RelV (a.getD i .bO) (us.getD i Value.none);rw[aah,aah,dH c,e];calc r
def acQ(K:W.Frag):List V->Hp->VK->Prop:=λvs H Q=>∃a,vs=[.ref a]/\
  ((∃(b:List V) (c:List (Int×Int)),aY K H a b/\b.length < 64/\Tc H b c/\c.Nodup/\∀l (e:List V) (d:List (Int×Int)),H l=none->d.Perm c->d.Pairwise (λx y=>yh x y=true)->Tc H e d->Q (.ref l) (upd H l (.lst e)))\/
   (∃(b:List (Key×V)) (ks:List Int),H a=some (.dK b)/\b.map (·.1)=ks.map Sum.inl/\ks.length<64/\∀l (ns:List Int),H l=none->ns.Perm ks->ns.Pairwise (· <=·)->Q (.ref l) (upd H l (.lst (ns.map V.int))))\/
   (∃ks:List Int,aY K H a (ks.map V.int)/\ks.length < 64/\∀l (ns:List Int),H l=none->ns.Perm ks->ns.Pairwise (· <=·)->Q (.ref l) (upd H l (.lst (ns.map V.int)))))
theorem Ge{X:Cx}(O:X.calm=true):dN X (.builtin "sorted") (acQ X.K):=by
 intro v s σ H xs us Q I r h;let(a,rfl,h):=h;let(u,rfl,ru):=r.one
 cases ru;rcases h with⟨ys,c,P,r,l,z,q⟩|⟨R,L,e,F,r,q⟩|⟨L,P,r,q⟩
 ·let(M,B,S,hz):=I.list P;have d:=B.length;have nN:=l.len;refine yi (f:=λi=>c.getD i ((0),0)) S.isList (λi v e=>?_) (λi j m r Bn e=>?_) () λp T vm=>?_
  ·have m:i < c.length:=by have:=(List.getElem?_eq_some_iff.mp e).1;lia
   let(b,C,G):=l.got i _ (dH m);let(r,N,r3):=B.get C;rw[e]at N
   cases N
   cases r3;let(_,r,rt,o,ho,O,n,hd):=(show cA X.prog X.w H s.heap b (.tup [.int (c[i]).1,.int (c[i]).2]) from I.aW b _ G)
   let(v1,v2,rfl,(t1,rfl),(t2,rfl)):=rt.two;rw[show c.getD i ((0),0)=c[i] by simp[m]];exact(b,o,n,t1,t2,rfl,ho,O,hd)
  ·rw[show c.getD i ((0),0)=c[i]'() by simp[show i<c.length by lia],show c.getD j ((0),0)=c[j]'() by simp[show j<c.length by lia]]at e;exact Bn ((List.getElem_inj z).mp e)
  ·have ik:∀i ∈ p,i < ys.length:=λi m=>by have:=(T.mem_iff).mp m;rw[abf] at this;lia
   let(e,U):=sortedAll_at s.heap M (p.map λi=>M.getD i Value.none).toArray;have n:p.length=c.length:=by rw[T.length_eq];simp;lia
   refine(.ref (s.heap.objs.size+1),_,I.laid (a:=s.heap.objs.size+1) (o:=.lst (p.map λi=>ys.getD i .bO)) (t':=s.toks) (λb o q=>sortedAll_old q) (aa2 _) (show cA X.prog X.w _ _ _ (.lst _) from(by rw[T'];lia,_,e,zV B p ik,U)),rfl,q _ _ (p.map λi=>c.getD i ((0),0)) (I.aW.fresh (aa2 _)) ?_ ?_ (nofun,λi x e=>?_))
   ·have n:c=(List.range c.length).map λi=>c.getD i ((0),0):=by
     apply List.ext_getElem?;intro i;by_cases m:i<c.length
     ·simp[m]
     ·simp[m]
    have m:=T.map λi=>c.getD i ((0),0);rw[<-d,nN,<-n]at m;exact m
   ·exact List.pairwise_map.mpr vm
   ·rw[J']at e;let(k,F,rfl):=Option.map_eq_some_iff.mp e;have n:=ik k (aao F);let(b,C,G):=l.got k _ (dH (show k<c.length by lia));calc(b,by rw[J',F];simp[List.getD_eq_getElem?_getD,C],?_);rw[show c.getD k ((0),0)=c[k]'() by simp[show k<c.length by lia]];exact G
 ·let(z,r,vs,c,hd):=Iz I.aW e;let(o,v,m,z,T,g3,g4,g5):=id hd;have J7:vs.length=R.length:=c.length.symm;have n:R.length=L.length:=by have:=congrArg List.length F;simpa using this
  refine Cd (ks:=L) (kdl_dict (ep:=m) r) (I.ok.hd O) (o,v,z,T,g3,g4,g5) () (λL n=>?_) λm tk g W e a' Y J ha hI l hs=>?_
  ·calc ints_get (by rw[Array.length_toList,n.1];lia) λi u k C G=>?_;rw[Array.getElem?_toList] at C;let(k',x,N,e4):=n.2 i u C;have m:(R.map (·.1))[i]?=some (Sum.inl k):=by rw[F,J',G];rfl
   rw[J']at m;let(p,l,e6):=Option.map_eq_some_iff.mp m;let(i,e7,e8,_):=Paired.get c l;rw[N]at e7
   cases e7;rw[e6]at e8;rw[Bq,show k'=Sum.inl k from e8.symm]at e4;rcases cX e4 with⟨j,t,Z,rfl⟩|⟨y,t,Z,rfl⟩
   ·cases Z;exact(t,rfl)
   ·cases Z
  ·exact(.ref a',_,I.laid (a:=a') (o:=.lst (W.map V.int)) (t':=tk) Y J (show cA X.prog X.w _ _ _ (.lst _) from(by rw[T',l.length_eq];rw[aaw];lia,g.toList,e,mV hI,by simpa using ha)),rfl,q _ _ (I.aW.fresh J) l hs)
 ·let(M,B,S,hz):=I.list P;have d:=B.length;rw[T']at d;calc sorted_ints S.isList (wQ B) () λg W i c j=>?_;let(e,U):=sortedAll_at s.heap M g;calc(.ref (s.heap.objs.size+1),_,I.laid (a:=s.heap.objs.size+1) (o:=.lst (W.map V.int)) (t':=s.toks) (λb o q=>sortedAll_old q) (aa2 _) (show cA X.prog X.w _ _ _ (.lst _) from(by rw[T',c.length_eq];rw[aaw];lia,g.toList,e,mV i,by simpa using U)),rfl,q _ _ (I.aW.fresh (aa2 _)) c j)
end L2
namespace DD
open PySem L2
variable {r:RS}
structure RS.Pk(n:NT)(r:RS):Prop where
 nd:r.picks.Nodup
 mem:∀(w k:Nat) e,w<n.ws.length->(r.ww w).dz[k]?=some (some e)->(((w:Int)),(k:Int))∈r.picks
section
variable {n:NT}{r:RS}
theorem RS.Pk.put(h:r.Pk n){w:Nat}{x:Int}{s:Option (Int×Int)}:(r.put w x s).Pk n:=(h.nd,λu k e a b=>h.mem u k e a (kB.mp b))
theorem RS.Pk.send{outs:List Nat}{ev:Int×Int}:∀(a:List (Int×Int)) {r:RS},r.Pk n->(r.send outs ev a).Pk n
 | [],r,h=>h
 |p::a,r,h=>by
  show((if p.1.toNat<outs.length then r.put (outs.getD p.1.toNat 0) p.2 (some ev) else r).send outs ev a).Pk n;split
  ·exact RS.Pk.send a h.put
  ·calc RS.Pk.send a h
theorem RS.Pk.pick(h:r.Pk n)(f:r.Iv n){w k:Nat}(b:(r.ww w).dz[k]?=some none):(r.pick n w k).Pk n:=by
 refine RS.Pk.send _ (?_,λu j e g a=>?_)
 ·show(r.picks++[(((w:Int)),(k:Int))]).Nodup;rw[List.nodup_append];calc(h.nd,nofun,λp i q c e=>?_);rw[List.mem_singleton] at c;subst c;subst e;let(m,o,e,l,_,d):=f.pk _ i
  cases l;rw[b]at d
  cases d
 ·show _ ∈ r.picks++[(((w:Int)),(k:Int))]
  rcases(iF b).mp a with⟨rfl,rfl,_⟩|a
  ·simp
  ·calc List.mem_append_left _ (h.mem u j e g a)
theorem zW:∀{W:Nat},wO r W=0->∀w,w<W->(r.ww w).dz.countP Option.isSome=0
 |W+1,h,w,a=>by
  rw[wO]at h;by_cases e:w=W
  ·subst e;lia
  ·calc zW (W:=W) () w ()
theorem RS.Pk.zero(b:r.Iv n)(e:r.picks=[]):r.Pk n:=by
 have a:=b.cnt;rw[e]at a;calc(by rw[e];calc .nil,λw k f c d=>?_);have:=List.countP_eq_zero.mp (zW a w c) _ (aao d);simp at this
end
def J8(r:RS)(w n:Nat):List Nat:=(List.range n).filter λk=>((r.ww w).dz.getD k none).isSome
def lA(r:RS)(W:Nat):List (Nat×Nat):=(List.range W).flatMap λw=>(J8 r w (r.ww w).dz.length).map λk=>((w),k)
def pI(p:Nat×Nat):Int×Int:=(((p.1:Int)),(p.2:Int))
theorem wR{W:Nat}:lA r (W+1)=lA r W++(J8 r W (r.ww W).dz.length).map λk=>((W),k):=by
 unfold lA;rw[List.range_succ,List.flatMap_append];simp
theorem zX{r:RS}{w n k:Nat}:k∈J8 r w n↔k<n/\∃e,(r.ww w).dz[k]?=some (some e):=by
 unfold J8;rw[List.mem_filter,abf,aah];refine and_congr_right λ_=>?_
 cases(r.ww w).dz[k]? with
 |none=>simp
 |some o=>cases o<;>simp
theorem gT{r:RS}{p:Nat×Nat}:∀{W:Nat},p∈lA r W↔p.1<W/\∃e,(r.ww p.1).dz[p.2]?=some (some e)
 |0=>by simp[lA]
 |W+1=>by
  rw[wR,List.mem_append,gT (W:=W),List.mem_map];constructor
  ·rintro(⟨b,a⟩ | ⟨k,c,rfl⟩)
   ·exact((),a)
   ·exact(Nat.lt_succ_self _,(zX.mp c).2)
  ·rintro⟨b,e,a⟩;by_cases z:p.1 < W
   ·exact .inl (z,e,a)
   ·have b:p.1=W:=by lia
    calc .inr (p.2,zX.mpr (?_,e,by rw[<-b];calc a),by rw[<-b]);rw[<-b];calc(List.getElem?_eq_some_iff.mp a).1
theorem N9{w n:Nat}:(J8 r w n).Pairwise (· < ·):=List.Pairwise.filter _ List.pairwise_lt_range
theorem yj{r:RS}:∀{W:Nat},((lA r W).map pI).Pairwise λx y=>yh x y=true
 |0=>.nil
 |W+1=>by
  rw[wR,W',List.pairwise_append];refine(yj,?_,λx c y d=>?_)
  ·rw[List.map_map,List.pairwise_map];calc N9.imp λ{a b} h=>?_;exact gm.mpr (.inr (rfl,by show(a:Int)<b;lia))
  ·let(p,e,rfl):=List.mem_map.mp c;let(q,f,rfl):=List.mem_map.mp d;let(k,_,rfl):=List.mem_map.mp f;have:=(gT.mp e).1;calc gm.mpr (.inl (by show(p.1:Int)<W;lia))
theorem uj{α:Type}{R:α->α->Prop}(k:∀a b,R a b->¬R b a):∀{xs c:List α},xs.Pairwise R->c.Pairwise R->(∀p,p∈xs↔p∈c)->xs=c
 | [],[],_,_,_=>rfl
 | [],y::c,_,_,h=>absurd ((h y).mpr aas) List.not_mem_nil
 |x::xs,[],_,_,h=>absurd ((h x).mp aas) List.not_mem_nil
 |x::xs,y::c,i,j,h=>by
  rw[List.pairwise_cons]at i j;have e:x=y:=by
   rcases List.mem_cons.mp ((h x).mp aas) with e|l
   ·exact e
   rcases List.mem_cons.mp ((h y).mpr aas) with e|a
   ·exact e.symm
   exact absurd (i.1 y a) (k _ _ (j.1 x l))
  subst e;have d:¬R x x:=λz=>k _ _ z z;rw[uj k i.2 j.2 λp=>(λg=>?_,λg=>?_)]
  ·rcases List.mem_cons.mp ((h p).mp (aak _ g)) with rfl | q
   ·exact absurd (i.1 _ g) d
   ·exact q
  ·rcases List.mem_cons.mp ((h p).mpr (aak _ g)) with rfl | q
   ·exact absurd (j.1 _ g) d
   ·calc q
theorem Td(a b:Int×Int)(h:yh a b=true):¬yh b a=true:=λa=>by
 have:=gm.mp h;have:=gm.mp a;lia
theorem yk{n:NT}(d:r.Iv n)(f:r.Pk n){a:List (Int×Int)}(g:a.Perm r.picks)(i:a.Pairwise λx y=>yh x y=true):a=(lA r n.ws.length).map pI:=by
 calc uj Td i yj λp=>?_;rw[g.mem_iff,List.mem_map];constructor
 ·intro h;let(w,k,e,rfl,b,c):=d.pk p h;exact(((w),k),gT.mpr (b,e,c),rfl)
 ·rintro⟨q,j,rfl⟩;let(b,e,c):=gT.mp j;calc f.mem _ _ _ b c
theorem zY{n:NT}(g:r.Iv n)(f:r.Pk n):(lA r n.ws.length).length=r.picks.length:=by
 have i:((lA r n.ws.length).map pI).Nodup:=yj.imp λ{a b} h e=>by subst e;have:=gm.mp h;lia
 have j:((lA r n.ws.length).map pI).Perm r.picks:=(List.perm_ext_iff_of_nodup i f.nd).mpr λp=>by
  rw[List.mem_map];constructor
  ·rintro⟨q,l,rfl⟩;let(c,e,d):=gT.mp l;exact f.mem _ _ _ c d
  ·intro h;let(w,k,e,rfl,c,d):=g.pk p h;exact(((w),k),gT.mpr (c,e,d),rfl)
 have:=j.length_eq;rwa [T']at this
end DD
namespace L2
open PySem PySem.W PySem.Spec PyProof.Rows
end L2
namespace L2
open PySem PySem.Spec PyProof.Rows
end L2
namespace L2
open PySem PySem.W PySem.Spec PyProof.Rows
section
variable {X:Cx}
def acR:V->Option Int->Option Int->Hp->VK->Prop:=λx c d H Q=>∃a xs,x=.ref a/\H a=some (.tup xs)/\∀p b,au H b->b p=some (.tup (dE xs c d))->Q (.ref p) b
theorem lQ{e:Expr}{a:TE}{c d:Option Expr}{f g:TO}{pos h:Pos}(i:PE X e a)(j:PO X c f)(k:PO X d g):PE X (.Subscript e (.Slice c d none h) pos) (Vc acR a f g):=tw (λb s σ H x v l m c d n Q I o p q r (a,t,e,u,w)=>by subst e;calc Xh b s σ H _ v l m c d n Q I o p q r (.inr (t,u,w))) i j k
def acS:R2:=λx y H Q=>∃a b xs c,x=.ref a/\y=.ref b/\H a=some (.tup xs)/\H b=some (.tup c)/\xs.length+c.length<=sizeLine/\∀p d,au H d->d p=some (.tup (xs++c))->Q (.ref p) d
theorem kC:gU X (binaryOp .Add) acS:=λc s σ H x y v u Q I d e (a,b,f,g,i,j,h)=>by subst i j;calc cp c s σ H _ _ v u Q I d e (.inr (f,g,h))
end
end L2
namespace L2
open PySem PySem.Spec PyProof.Rows
section
variable {X:Cx}
theorem wU:Passes (wD X.prog X.w) X E0:=λ_ _ _ _ _ _ _ h=>by
 let(_,_,_,_,_,_,_,_,_,_,_,_,_,_,q):=h;calc q.elim
end
end L2
namespace Ht
open PySem L2 DD
def top(i:Nat):Stmt:=PySem.Challenge.pw_cutrestore_k44_no_cuts.main.body.getD i (.Pass (0,0,0,0))
structure Tx(K:W.Frag)(mg:Str->Option Value)(C CN CR F:Addr)(FD:List (Str×V)):Prop where
 bg:mg "isinstance"=none
 J9:mg "int"=none
 Ka:mg "bool"=none
 Eb:mg "str"=none
 cn:mg "tuple"=none
 ft:mg "list"=none
 bS:mg "len"=none
 fb:mg "range"=none
 Qc:mg "min"=none
 Kb:mg "max"=none
 uk:mg "all"=none
 XI:mg "any"=none
 zZ:mg "zip"=none
 dY:mg "enumerate"=none
 pT:mg "ValueError"=none
 Aa:mg "sorted"=none
 eA:∃t,mg "MOST_DEEDS"=some (.int 24 t)
 dR:∃t,mg "MOST_MODULUS"=some (.int 1000000000000 t)
 dS:∃t,mg "MOST_NUMBERS"=some (.int 4 t)
 fO:∃t,mg "MOST_ROW"=some (.int 12 t)
 dB:∃t,mg "MOST_MACHINES"=some (.int 5 t)
 fS:∃t,mg "MOST_WAYS"=some (.int 10 t)
 dU:∃t,mg "MOST_LETTERS"=some (.int 20 t)
 eB:∃t,mg "SAID_BOUND"=some (.int 1000000000000000000000000000000000000000000000000000000000000 t)
 cR:vq K C
 wV:mg "Machine"=some (.ref C)
 Qd:bT K C "own_modulus"
 Te:bT K C "own_state"
 Qe:bT K C "own_deeds"
 Gg:W.findIn K (.ref C) "__class__"=some (some (.builtin "object.__class__"))
 Gh:W.mroIn K C (.type "object")=some true
 cO:vq K CN
 XJ:mg "Net"=some (.ref CN)
 Ab:bT K CN "own_machines"
 Ac:bT K CN "own_ways"
 Ce:bT K CN "own_letters"
 Kc:W.findIn K (.ref CN) "__class__"=some (some (.builtin "object.__class__"))
 Ke:W.mroIn K CN (.type "object")=some true
 aV:vq K CR
 XM:mg "Run"=some (.ref CR)
 cS:bT K CR "own_net"
 cY:bT K CR "picks_done"
 cj:bT K CR "states_had"
 eC:bT K CR "words_had"
 cZ:bT K CR "words_said"
 bM:bT K CR "letters_say"
 fu:bT K CR "senders"
 dw:bT K CR "workers"
 Kf:W.findIn K (.ref CR) "__class__"=some (some (.builtin "object.__class__"))
 Kg:W.mroIn K CR (.type "object")=some true
 eV:W.specialIn K (.builtin "object.__class__") "__get__"=some (some (.builtin "getset_descriptor.__get__"))
 cH:W.takesIn K (.builtin "object.__class__")=some true
 i_k:W.kitOne K (.ref C) (.ref C)=some true
 Ec:mg "FORMS"=some (.ref F)
 Ed:CD K F FD
 Qf:∀d:bF,∃p,PyProof.Rows.KTD.datumAt d.word FD=some (.ref p)/\∀H,bP K H p (d.vD.map V.str)
theorem nW{H:Hp}{a:Addr}{o b:HO}(c:H a=none):au H (upd (upd H a o) a b):=λb p e=>by
 rw[az (av e c),az (av e c)];calc e
theorem uo{K:W.Frag}{E:XK}{C B:Addr}{z:Str}{D:Ends}{σ:St}{H:Hp}(b:kx K C B)(q:∀a,H a=none->E (.ref a) none (upd (upd H a (XO a C none true)) a (XO a C none false))):JE K E (tX0 C (y8 (tC (.str z)) Fw)) D σ H:=
 (L' _,λa c=>(a,C,B,none,rfl,af,b,q a c))
end Ht
namespace Ht
open PySem L2 DD
variable {D a b m p:Addr}{Z:Addr->Prop}{d:bF}{H H' H0 H1 H2:Hp}{R:Hp->Prop}{e:Int×Int}{ws:List (Int×Int×Str)}{ls ps s:List (Int×Int)}{as ms:List Addr}{es:List DV}{cut ns row:List Int}{ir:List MD}{mv wv ys:List V}{f:Nat->List Nat}{ad:Nat->Nat->Addr}{r:RS}{σ:St}{dd st z:V}{Q:VK}
theorem nL{X:Cx}{c:Scope}{N:List Str}:vA X c N λY=>Vd Y [] jl:=λ_ _ _ _=>Nu
section
variable {P:Program}{w:World}{K:W.Frag}{mg:Str->Option Value}{base:Heap}{C CN CR F B:Addr}{c:Nat->Addr}{FD:List (Str×V)}
local macro_rules | `(tactic| walk_at "s") => `(tactic| exact (rfl, rfl, rfl, by decide +kernel, rfl, by decide +kernel, by decide +kernel))
def zqI(s:String):Array Lean.Ident:=(s.splitOn " ").toArray.map (Lean.mkIdent ·.toName)
def zqK:=zqI "tV tT XC JR JS JT JU JV JW HF tC HW tUn rU Dp tB Rq HI Rp tOr HH tIf HM Rr Fm fE Rv tj Vb y8 Fw RJ RK y0 xQ IB BR BA Jo Jp Jq PQ Jr Ju Jv Jw Jx Vc xH Ik M6 RH wb Dr tBM RW Jz Jy Rw ipI Bv id_eq Sx Jn Sf HV qm PB IU IX IY IZ PD Ja Jb Jc Jd PF DK zp jl vz wA Xc IT Py Pz L2.start List.map_cons List.map_nil List.cons_append List.nil_append List.replicate List.getElem?_cons_zero List.getElem?_cons_succ List.set_cons_zero List.set_cons_succ"
def zqL:=zqI "B4 B5 xV xW xX xY List.length_cons List.length_nil List.append_nil Option.some.injEq exists_eq_left' exists_eq_left V.int.injEq V.bl.injEq V.str.injEq V.ref.injEq List.cons.injEq and_true true_and Nat.reduceSub Nat.reduceAdd"
local macro_rules | `(tactic| simp_arith only [$xs,*]) => let l:=zqK; `(tactic| simp only [$[$l:ident],*, ↓DR, ↓zA, ↓tQ, ↓wC, ↓tR, $xs,*])
local macro_rules | `(tactic| simp_arith! only [$xs:simpLemma,*]) => let l:=zqK; `(tactic| dsimp only [$[$l:ident],*, ↓DR, ↓zA, ↓tQ, ↓wC, ↓tR, $xs:simpLemma,*])
local macro_rules | `(tactic| walk_at "l0") => `(tactic| simp_arith! only [y6, Bu, pD])
local macro_rules | `(tactic| walk_at "l1") => let l:=zqL; `(tactic| simp_arith only [y6, Bu, pD, $[$l:ident],*])
local macro_rules | `(tactic| walk_at "l2") => `(tactic| simp_arith! only [y6, Bu])
local macro_rules | `(tactic| walk_at "l3") => let l:=zqL; `(tactic| simp_arith only [y6, Bu, $[$l:ident],*])
local macro_rules | `(tactic| walk_at "l4") => `(tactic| simp_arith! only [pD])
local macro_rules | `(tactic| walk_at "l5") => let l:=zqL; `(tactic| simp_arith only [pD, $[$l:ident],*])
local macro_rules | `(tactic| walk_at "rd") => `(tactic| first | (walk_at "l0"; try walk_at "l1") | walk_at "l1")
local macro_rules | `(tactic| right) => `(tactic| try walk_at "rd")
local macro_rules | `(tactic| walk_at "rt") => `(tactic| first | (walk_at "l2"; try walk_at "l3") | walk_at "l3")
local macro_rules | `(tactic| walk_at "gj") => `(tactic| first
  |refine eF (by assumption) (by first|rfl|exact aA (j := 0) rfl|exact aA (j := 1) rfl|exact aA (j := 2) rfl|exact aA (j := 3) rfl) ?_
  |refine bG (by assumption) (by first|rfl|exact aA (j := 0) rfl|exact aA (j := 1) rfl|assumption) ?_
  |rw [if_pos (by decide +kernel)]
  | rw [if_neg (by decide +kernel)])
local macro_rules | `(tactic| walk_at "go") => `(tactic| repeat (first|walk_at "rd"|walk_at "gj"))
local macro_rules | `(tactic| walk_at "r0") => `(tactic| first | (walk_at "l4"; try walk_at "l5") | walk_at "l5")
local macro_rules | `(tactic| walk_at "rh") => `(tactic| first | with_reducible refine L2.SR ?_ | (with_reducible refine L2.fJ ?_; intro N hN) | (with_reducible refine L2.ei ?_; intro T U hT hU))
local macro_rules | `(tactic| walk_at "rn") => `(tactic| (refine L2.aP (by assumption) ?_; (repeat walk_at "rh"); try walk_at "r0"))
local macro_rules | `(tactic| walk_at "jd") => `(tactic| first
  |(walk_at "rh"; (repeat walk_at "rh"); (try walk_at "r0"); repeat walk_at "rn")
  |(walk_at "rn"; repeat walk_at "rn")
  | (walk_at "r0"; repeat walk_at "rn"))
local macro_rules | `(tactic| left) => `(tactic| try walk_at "jd")
local macro_rules | `(tactic| walk_at "jt") => `(tactic| first | (walk_at "l2"; try walk_at "l3") | walk_at "l3")
local macro_rules | `(tactic| walk_at "jg") => `(tactic| repeat (first|walk_at "jd"|walk_at "gj"))
theorem Ad:BM (ys++[z]).length (-1)=some ys.length:=by
 unfold BM;rw[if_neg ∅,if_pos (by simp;lia)];congr 1;simp;lia
theorem lR:jc (ys++[z]) (-1)=some z:=by
 unfold jc;rw[Ad];simp
theorem Kh{α:Type}{ys:List α}{z y:α}:(ys++[z]).set ys.length y=ys++[y]:=by simp
theorem yl{o c:HO}:upd (upd H a o) a c=upd H a c:=by
 funext b;by_cases h:b=a
 ·subst h;rw[af,af]
 ·rw[az h,az h,az h]
def fT(H:Hp)(p:Addr):Prop:=∃xs:List Int,H p=some (.lst (xs.map V.int))/\1<=xs.length
structure Step(p:Addr)(H H':Hp):Prop where
 gv:fT H' p
 rest:∀b o,H b=some o->b≠p->H' b=some o
theorem Step.refl(h:fT H p):Step p H H:=(h,λ_ _ e _=>e)
theorem Step.trans(a:Step p H H1)(b:Step p H1 H2):Step p H H2:=(b.gv,λc o e n=>b.rest c o (a.rest c o e n) n)
theorem fT.same(s:au H H')(h:fT H p):fT H' p:=by
 let(a,e,h):=h;calc(a,s _ _ e,h)
theorem Step.same(a:Step p H H1)(b:au H1 H2):Step p H H2:=(a.gv.same b,λc o e n=>b _ _ (a.rest c o e n))
theorem Step.set(a:Step p H H1)(xs:List Int)(h:1<=xs.length):Step p H (upd H1 p (.lst (xs.map V.int))):=
 ((xs,af,h),λc o e n=>by rw[az n];calc a.rest c o e n)
theorem Step.new{q:Addr}(a:Step p H H1){o:HO}(b:H1 q=none):Step p H (upd H1 q o):=a.same (au.new o b)
theorem Step.aQ(a:Step p H H1)(c:fT H p):ck H H1:=λb d e=>a.rest b _ e λz=>by
 subst z;let(a,h,_):=c;rw[h]at e;cases e
theorem Step.ne{q:Addr}(c:fT H p)(b:H q=none):q≠p:=λz=>by
 subst z;let(a,h,_):=c;rw[h]at b;cases b
theorem Step.over(s:au H0 H1)(a:H0 p=none)(st:Step p H1 H2):au H0 H2:=λb o e=>st.rest b o (s b o e) (av e a)
theorem fT.upd{q:Addr}{o:HO}(h:fT H p)(b:p≠q):fT (upd H q o) p:=by
 let(a,e,h):=h;calc(a,by rw[az b];calc e,h)
abbrev nX:Stmt:=top 23
def jq:Sp:=λvs H Q _=>∃x t,vs=[x]/\Kd H x t/\Q (.bl (isI x)) H
theorem Cf(D:cE K mg "is_whole" "is_whole" nX ["thing"])(T:Tx K mg C CN CR F FD):Def P w K mg base "is_whole" 1 ["thing"] jq:=by
 exists["thing"];let(x,t,rfl,a,q):=h;have d:=hr.units;refine(_,(ak (aG (kn (bc dP rfl T.bg vZ (ag (aq 0) (ag (dD (v:=.ty "int") rfl T.J9 PyProof.Rows.boot_int rfl) aa))) (lD (HJ (bc dP rfl T.bg vZ (ag (aq 0) (ag (dD (v:=.ty "bool") rfl T.Ka PyProof.Rows.boot_bool rfl) aa)))))))),?_);walk_at "rd";let(b,c,d,e,g):=SJ (K:=K) a;refine dq t b a.ty d ?_;rw[g] at q
 cases b
 ·rw[if_neg S'];exact q
 ·rw[if_pos rfl];calc(t,c,a.ty,e,q)
abbrev lS:Stmt:=top 24
def bU:Sp:=λvs H Q _=>∃x t a b,vs=[x,.int a,.int b]/\Kd H x t/\Q (.bl (inR a b x)) H
theorem Ae(D:cE K mg "is_within" "is_within" lS b8)(T:Tx K mg C CN CR F FD)(j:Def P w K mg base "is_whole" 1 ["thing"] jq):Def P w K mg base "is_within" 2 b8 bU:=by
  exists b8;let(x,t,a,b,rfl,g,q):=h;have k:=hr.units;refine(_,(ak (aG (kn (aM j hr (ag (aq 0) aa)) (lD (y7 xT gX (aq 1) (aq 0) (aq 2)))))),?_);walk_at "rd";refine dq x t rfl g ?_
  cases g<;>first
    | (rename_i i
       show ∃c,V.bl true=.bl c/\_;calc(true,rfl,?_);rw[if_pos rfl];walk_at "rd";by_cases d:a<=i
       · rw[if_pos (by simpa using d)];have e:inR a b (.int i)=decide (i < b):=by simp[inR,d]
         rw[e]at q;exact q
       · rw[if_neg (by simpa using d)];have e:inR a b (.int i)=false:=by simp[inR,d]
         rw[e] at q;calc q)
    | (show ∃c,V.bl false=.bl c/\_
       calc(false,rfl,?_);rw[if_neg S'];calc q)
abbrev uq:Stmt:=top 79
def Ki(K:W.Frag):Sp:=λvs H Q _=>∃(a:Addr) (ns:List Int) (k:Int),vs=[.ref a,.int k]/\aY K H a (ns.map V.int)/\0<=k/\∀c,Q (.int c) H
theorem Kj(D:cE K mg "_law_at" "_law_at" uq ef)(T:Tx K mg C CN CR F FD):Def P w K mg base "_law_at" 1 ef (Ki K):=by
 exists ef;let(a,ns,k,rfl,b,c,q):=h;have e:=hr.units;refine(_,(ai (aT (aC gX (aq 1) (bc aO rfl T.bS U' (ag (aq 0) aa)) (aJ _)) (ak (aG (ao e (aq 0) (aq 1)))) aH)
  (ak (aG aj))),?_)
 walk_at "rd";refine bJ _ (.inl (_,b,rfl)) ?_;rw[T'];by_cases d:k<(ns.length:Int)
 ·rw[if_pos (by simpa using d)];let(n,rfl):=aaO c;have e:n < ns.length:=by lia
  exact(_,.int ns[n],.inl b,aA (by rw[J',dH e];rfl),q _)
 ·rw[if_neg (by simpa using d)];calc q _
abbrev qx:Stmt:=top 80
def Cg:Sp:=λvs H Q _=>∃n:Int,vs=[.int n]/\∀(p:Addr) (xs:List Int),H p=none->1<=xs.length->Q (.ref p) (upd H p (.lst (xs.map V.int)))
theorem Gi(D:cE K mg "_law_pot" "_law_pot" qx ["_law_cell"])(T:Tx K mg C CN CR F FD):Def P w K mg base "_law_pot" 1 ["_law_cell"] Cg:=by
 exists["_law_cell","_law_number","_law_pot_here","_law_k"];let(n,rfl,q):=h;have c:=hr.units;refine(_,(ai (bf (i:=1) sc rfl Sort (aR cp (aR cK (aR gR (aq 0) aj) aj) aj))
  (ai (bf (i:=2) sc rfl Sort (bE (ag aj aa)))
  (ai (fB PassesOwn.never rfl (c8 rfl T.fb (ag aj aa)) (ba (i:=3) sc rfl Sort)
  (ai (bf (i:=1) sc rfl Sort (aR cK (aR cp (aR cp (aR mY (aq 1) (aq 1)) (aR mY aj (aq 1))) (aq 3)) aj))
  (ak (fA (aR cp (aR mY (ao c (aq 2) aj) aj) (aq 1)) (jx (aq 2) aj eN)))))
  (ai (aT (PW.pt (pw_and (aC (aU c) (aR cK (aq 0) aj) aj (aJ _)) (pw_and1 (aC (fL c) (aR gR (aq 0) aj) aj (aJ _))))) (ak (bL (dO qb sm sr cw (aq 2) (ag (aR gR (aq 0) aj) aa)))) aH)
  (ak (aG (aq 2))))))),?_)
 right;have d:IJ n 2:=(∅,∅)
 calc je d ∅ ?_;right;calc(by show 1<=sizeLine;decide,λp e=>?_);have c:=aaK (n/2) (b:=2147483629) ∅;have c:=aaL (n/2) (b:=2147483629) ∅;refine(40,rfl,∅,∅,j6 (n:=40) (λi σ H'=>∃(u a:Int) (z:Option V),0<=u/\u<2147483648/\σ=[some (.int n),some (.int u),some (.ref p),z]/\H'=upd H p (.lst [.int a])) ?_ ?_ ?_)
 ·exact(_,0,none,(),(),rfl,rfl)
 ·intro i σ H' o k;let(u,a,z,g,l,rfl,rfl):=k;right;calc(.inl ((),()),?_);right;calc je (.inl ((),())) ∅ ?_;right;calc bG af (aA (j:=0) rfl) ?_;right;calc(.inr (∅,∅),?_);right;calc dq _ 0 af rfl ?_;right;have c:=aaK (u*u+48271*u+(0+(i:Int))) (b:=2147483647) ∅;have k:=aaL (u*u+48271*u+(0+(i:Int))) (b:=2147483647) ∅;exact(_,_,_,c,(),(rfl,rfl),yl)
 ·intro σ H' m;let(u,a,z,g,l,rfl,rfl):=m;right;calc(∅,?_);right;split
  ·calc(d,?_);right;split
   ·calc je (.inl (rfl,_,aY.of af)) d ?_;right;calc iE _ af (aE nofun) ?_;right;rw[yl];exact q p [a,n/2] e nofun
   ·right;exact q p [a] e nofun
  ·right;calc q p [a] e nofun
abbrev lT:Stmt:=top 81
def iG:Sp:=λvs H Q _=>∃(p:Addr) (m:Int),vs=[.ref p,.int m]/\fT H p/\0<m/\m.natAbs.log2<9000/\∀d H',0<=d->d<m->Step p H H'->Q (.int d) H'
theorem Af(D:cE K mg "_law_digit" "_law_digit" lT ah)(T:Tx K mg C CN CR F FD):Def P w K mg base "_law_digit" 1 ah iG:=by
 exists["_law_pot_here","_law_many","_law_digit_here"];let(p,m,rfl,k,g,r,q):=h;have j:=hr.units;refine(_,(ai (bf (i:=2) sc rfl Sort (aR cK (ao j (aq 0) (lH iB aj)) (aq 1)))
  (ai (fA (aR gR (ao j (aq 0) (lH iB aj)) (aq 1)) (jx (aq 0) (lH iB aj) eN))
  (ai (aT (PW.pt (pw_and (aC (aU j) (ao j (aq 0) (lH iB aj)) aj (aJ _)) (pw_and1 (aC tJ (bc aO rfl T.bS U' (ag (aq 0) aa)) aj (aJ _))))) (ak (bL (RX qb PySem.F.slot_list_pop PySem.F.type_list_pop RZ (aq 0)))) aH)
  (ak (aG (aq 2)))))),?_)
 nofun;let(l,c,t):=id k;obtain⟨ys,z,rfl⟩:∃ys z,l=ys++[z]:=(l.dropLast,l.getLast (by intro e;rw[e]at t;simp at t),(List.dropLast_concat_getLast _).symm)
 rw[W']at c
 replace c:H p=some (.lst (ys.map V.int++[.int z])):=c
 ac_rfl;have d:Step p H H:=Step.refl k;right;calc dq _ _ (.inl (aY.of c)) lR ?_;right;calc(g,?_);right;calc dq _ _ (.inl (aY.of c)) lR ?_;right;calc((g,r),?_);right;calc dq _ _ c Ad ?_;rw[Kh];calc dq _ _ (.inl (aY.of af)) lR ?_;have n:=aaK z (b:=m) ();have o:=aaL z g;have u:Step p H (upd H p (.lst (ys.map V.int++[.int (z/m)]))):=by
  have:=d.set (ys++[z/m]) nofun;rw[W']at this;exact this
 right;split
 ·calc bJ _ (.inl (_,aY.of af,rfl)) ?_;right;split
  ·rename_i a;have a:1<=ys.length:=by
    simp at a;lia
   calc(.inl (rfl,_,aY.of af),?_);calc(p,_,.int (z/m),rfl,rfl,af,nofun,?_);right;rw[List.dropLast_concat,yl];exact q _ _ n o (d.set ys a)
  ·right;exact q _ _ n o u
 ·right;calc q _ _ n o u
theorem Ci:M0 10 60:=(∅,∅,⋯)
theorem Tf:M0 10 12:=(∅,∅,⋯)
theorem Tg:HX 2 (10^Int.toNat 60):=.inl (⋯,⋯)
theorem XQ:(0:Int)<2*10^Int.toNat 60-1:=by decide +kernel
theorem XR:(2*10^Int.toNat 60-1:Int).natAbs.log2<9000:=by decide +kernel
theorem XS:(0:Int)<10^Int.toNat 12-1:=by decide +kernel
theorem Th:(10^Int.toNat 12-1:Int).natAbs.log2<9000:=by decide +kernel
theorem dig{m:Int}{E:XK}(a:fT H p)(b:0<m)(c:m.natAbs.log2<9000)(q:∀d H',0<=d->d<m->Step p H H'->Q (.int d) H'):iG [.ref p,.int m] H Q E:=(p,m,rfl,a,b,c,q)
theorem Ob{H:Hp}{n:Nat}{x:V}{d:List DV}(h:HD H n x (.tup d)):∃k a xs,x=.ref a/\H a=some (.tup xs)/\xs.length=d.length/\∀(i:Nat) u e,xs[i]?=some u->d[i]?=some e->HD H k u e:=by
 cases h with
 |tup a b c=>calc(_,_,_,rfl,a,b,c)
abbrev nY:Stmt:=top 45
def Kl:Sp:=λvs H Q _=>∃x m n d,vs=[x,.int m]/\HD H n x d/\∀H',au H H'->Q (.bl (FZ m d)) H'
theorem Oc{K:W.Frag}{H:Hp}{n:Nat}{x:V}{d:DV}(h:HD H n x d)(a:∀c,d≠.tup c):∃t,gV K H x t/\W.kitOne K t (.type "tuple")=some false:=by
 cases h with
 |bO=>calc(_,.bO,rfl)
 |bl b=>calc(_,.bl b,rfl)
 |int i=>calc(_,.int i,rfl)
 |str x=>calc(_,.str x,rfl)
 |tup e=>calc absurd rfl (a _)
 |lst e=>calc(_,.lst e,rfl)
 |dict e=>calc(_,.dK e,rfl)
theorem Od{K:W.Frag}{H:Hp}{n:Nat}{x:V}{d:DV}(h:HD H n x d)(a:∀s,d≠.str s):∃t,gV K H x t/\W.kitOne K t (.type "str")=some false:=by
 cases h with
 |bO=>calc(_,.bO,rfl)
 |bl b=>calc(_,.bl b,rfl)
 |int i=>calc(_,.int i,rfl)
 |str x=>calc absurd rfl (a _)
 |tup e=>calc(_,.tup e,rfl)
 |lst e=>calc(_,.lst e,rfl)
 |dict e=>calc(_,.dK e,rfl)
theorem Oe{m:Int}{d:DV}(b:∀a,d≠.tup a):FZ m d=false:=by
 cases d with
 |tup a=>calc absurd rfl (b a)
 |_=>rfl
theorem Km{m:Int}{d:DV}{r:List DV}(a:∀s,d≠.str s):FZ m (.tup (d::r))=false:=by
 cases d with
 |str s=>calc absurd rfl (a s)
 |_=>rfl
theorem Cj(D:cE K mg "is_value" "is_value" nY cI)(T:Tx K mg C CN CR F FD)(X:Def P w K mg base "is_whole" 1 ["thing"] jq)(Y:Def P w K mg base "is_within" 2 b8 bU):Def P w K mg base "is_value" 3 cI Kl:=by
 exists["thing","many","word"];let(x,m,n,d,rfl,I,q):=h;have k:=hr.units;refine(_,(ai (aT (PW.pt (pw_or (cB (bC (bc dP rfl T.bg vZ (ag (aq 0) (ag (dD (v:=.ty "tuple") rfl T.cn su rfl) aa))))) (pw_or (aC (aU k) (bc aO rfl T.bS U' (ag (aq 0) aa)) aj (aJ _)) (pw_or1 (cB (bC (bc dP rfl T.bg vZ (ag (ao k (aq 0) aj) (ag (dD (v:=.ty "str") rfl T.Eb PyProof.Rows.boot_str rfl) aa))))))))) (ak (aG ij)) aH)
  (ai (bf (i:=2) sc rfl Sort (ao k (aq 0) aj))
  (ai (aT (aC IQ (aq 2) (bu (ag aI (ag aI (ag aI aa)))) (by with_unfolding_all rfl)) (ak (aG (kr (aU k) (bc aO rfl T.bS U' (ag (aq 0) aa)) aj (aJ _)))) aH)
  (ai (aT (aC (fL k) (bc aO rfl T.bS U' (ag (aq 0) aa)) aj (aJ _)) (ak (aG ij)) aH)
  (ai (aT (aC (aU k) (aq 2) aI (aJ _)) (ak (aG (aM X hr (ag (ao k (aq 0) aj) aa)))) aH)
  (ak (aG (kn (kr (aU k) (aq 2) aI (aJ _)) (lD (aM Y hr (ag (ao k (aq 0) aj) (ag aj (ag (aq 1) aa))))))))))))),?_)
 walk_at "rd";by_cases J:∀l,d≠.tup l
 ·let(t,r,N):=Oc (K:=K) I J;calc dq t false r N ?_;rw[Oe J]at q;exact q H (au.refl H)
 ·have:∃l,d=.tup l:=Classical.byContradiction λz=>J λl e=>z (l,e);nofun;let(l,rfl):=this;let(n,a,Z,rfl,G,O,U):=Ob I;calc hZ ?_;clear hZ gZ I J
  ·skip
   refine(.type "tuple",true,.tup G,rfl,?_);simp only[Bool.not_true,Bool.false_eq_true,if_false];refine bJ _ (.inr (_,bP.of G,rfl)) ?_;right;rcases l with _|⟨R,b⟩<;>rcases Z with _|⟨x0,L⟩
   ·exact q H (au.refl H)
   ·cases O
   ·cases O
   ·skip
    rw[if_neg (by simp;lia)];calc dq _ _ (.inr (bP.of G)) (aA (j:=0) rfl) ?_;have W:=U 0 x0 R rfl rfl;by_cases k:∀s,R≠.str s
    ·let(t,r,N):=Od (K:=K) W k;calc dq t false r N ?_;rw[Km k]at q;exact q H (au.refl H)
    ·have:∃s,R=.str s:=Classical.byContradiction λz=>k λl e=>z (l,e);nofun;let(g,rfl):=this;obtain rfl:=W.cV;ac_rfl;refine(.type "str",true,.str _,rfl,?_);simp only[Bool.not_true,Bool.false_eq_true,if_false];refine dq _ _ (.inr (bP.of G)) (aA (j:=0) rfl) ?_;right;refine(∅,λp k=>?_);have u:au H (upd H p (.tup [.str "letter",.str "way",.str "first"])):=au.new _ k;have o:=u _ _ G;refine NZ _ (.inr (bP.of af)) rfl rfl ?_;right;have B:L.length=b.length:=by simpa using O
     by_cases M:Dz (.str g) tW=true
     ·have S:FZ m (.tup (.str g::b))=decide (b.length=0):=by
       show(if Dz (.str g) tW=true then decide (b.length=0) else _)=_;rw[if_pos M]
      rw[if_pos (show Dz (.str g) [.str "letter",.str "way",.str "first"]=true from M)];refine bJ _ (.inr (_,bP.of o,rfl)) ?_;right;have e:decide (((L.length+1:Nat):Int)=1)=decide (b.length=0):=by
       rw[B];by_cases z:b.length=0
       ·rw[aal z,aal ()]
       ·rw[aam z,aam ()]
      rw[S]at q;have c:=q _ u;rw[<-e]at c;exact c
     ·have S:FZ m (.tup (.str g::b))=NR g m b:=by
       show(if Dz (.str g) tW=true then decide (b.length=0) else _)=_;rw[if_neg M]
      rw[if_neg (show ¬Dz (.str g) [.str "letter",.str "way",.str "first"]=true from M)];refine bJ _ (.inr (_,bP.of o,rfl)) ?_;right;rw[S]at q;rcases b with _|⟨z,_|⟨z',b⟩⟩<;>rcases L with _|⟨y,_|⟨k,L⟩⟩
      ·rw[if_pos nofun];exact q _ u
      ·cases B
      ·cases B
      ·cases B
      ·skip
       rw[if_neg nofun];have r:=(U 1 y z rfl rfl).same u;let(t,l):=Xv r;by_cases b:g="is"
       ·rw[if_pos (by simpa using b)];calc(_,_,.inr (bP.of o),rfl,y,t,rfl,l,?_);have c:=q _ u;simp only[NR,if_pos b]at c;rw[SM r];exact c
       ·rw[if_neg (by simpa using b)];have c:=q _ u;simp only[NR,if_neg b] at c;by_cases k:g="number"
        ·rw[if_pos (by simpa using k)];calc(_,_,.inr (bP.of o),rfl,y,t,0,m,rfl,l,?_);rw[aal k,Bool.true_and]at c;rw[SN r];exact c
        ·rw[if_neg (by simpa using k)];rw[aam k,Bool.false_and]at c;exact c
      ·simp at B
      ·cases B
      ·simp at B
      ·rw[if_pos (by simp;lia)];calc q _ u
abbrev qy:Stmt:=top 25
def nZ:Sp:=λvs H Q _=>∃(a:Addr) (xs:List V) (b c:Int),vs=[.ref a,.int b,.int c]/\(H a=some (.lst xs)\/H a=some (.tup xs))/\∀H',au H H'->Q (.bl (decide (b<=(xs.length:Int))&&decide ((xs.length:Int)<=c))) H'
theorem Gj(D:cE K mg "is_list" "is_list" qy eb)(T:Tx K mg C CN CR F FD):Def P w K mg base "is_list" 1 eb nZ:=by
 exists eb;let(a,d,g,i,rfl,b,q):=h;have i:=hr.units;refine(_,(ak (aG (kn (bc dP rfl T.bg vZ (ag (aq 0) (ag (bu (ag (dD (v:=.ty "list") rfl T.ft Bd rfl) (ag (dD (v:=.ty "tuple") rfl T.cn su rfl) aa))) aa))) (lD (y7 xT xT (aq 1) (bc aO rfl T.bS U' (ag (aq 0) aa)) (aq 2)))))),?_);right;refine(cy,λp i=>?_);have c:au H (upd H p (.tup [.ty "list",.ty "tuple"])):=au.new _ i;have e:∃t,gV K (upd H p (.tup [.ty "list",.ty "tuple"])) (.ref a) t/\W.kitAny K t [.type "list",.type "tuple"]=some true/\HZ K (.ref a) (upd H p (.tup [.ty "list",.ty "tuple"])) d.length:=by
  rcases b with b|b
  ·exact(_,.lst (c _ _ b),rfl,.inl (_,aY.of (c _ _ b),rfl))
  ·exact(_,.tup (c _ _ b),rfl,.inr (_,bP.of (c _ _ b),rfl))
 let(t,i,j,k):=e;calc SU t true _ _ i af rfl j ?_;rw[if_pos rfl];calc bJ _ k ?_;have b:=q _ c;by_cases h:g<=(d.length:Int)
 ·rw[if_pos (by simpa using h)];rw[aal h,Bool.true_and]at b;exact b
 ·rw[if_neg (by simpa using h)];rw[aam h,Bool.false_and]at b;calc b
abbrev qz:Stmt:=top 51
def Ee(K:W.Frag):Sp:=λvs H Q _=>∃d:bF,vs=[.str d.word]/\∀p,bP K H p (d.vD.map V.str)->Q (.ref p) H
theorem Gk(D:cE K mg "form_of" "form_of" qz ["word"])(T:Tx K mg C CN CR F FD):Def P w K mg base "form_of" 1 ["word"] (Ee K):=by
 exists["word"];let(d,rfl,q):=h;have a:=hr.units;calc(_,(ak (aG (NH T.Ed rfl T.Ec (ag (aq 0) aa)))),?_);let(p,a,b):=T.Qf d;show Q ((PyProof.Rows.KTD.datumAt d.word FD).getD .bO) H;rw[a];calc q p (b H)
abbrev qA:Stmt:=top 52
inductive kD(H:Hp)(m:Int):V->Str->Prop
 |value {n x v}:HT H n x (Val.dv v)->v.ok m->kD H m x "value"
 |number {i}:0<=i->i<m->kD H m (.int i) "number"
 |many {i}:1<=i->i<25->kD H m (.int i) "many"
 |way {i}:0<=i->kD H m (.int i) "way"
theorem kD.same{H H':Hp}{m:Int}{x:V}{w:Str}(s:au H H')(h:kD H m x w):kD H' m x w:=by
 cases h with
 |value a b=>calc .value (a.aL s.aQ) b
 |number a b=>calc .number a b
 |many a b=>calc .many a b
 |way a=>calc .way a
def Ef:Sp:=λvs H Q _=>∃x w m,vs=[x,.str w,.int m]/\kD H m x w/\∀H',au H H'->Q (.bl true) H'
theorem Gm(D:cE K mg "is_part" "is_part" qA eP)(T:Tx K mg C CN CR F FD)(d:Def P w K mg base "is_value" 3 cI Kl)(g:Def P w K mg base "is_whole" 1 ["thing"] jq)(b:Def P w K mg base "is_within" 2 b8 bU):Def P w K mg base "is_part" 4 eP Ef:=by
 exists eP;let(x,w,m,rfl,c,q):=h;have a:=hr.units;refine(_,(ai (aT (aC (aU a) (aq 1) aI (aJ _)) (ak (aG (aM d hr (ag (aq 0) (ag (aq 2) aa))))) aH)
  (ai (aT (aC (aU a) (aq 1) aI (aJ _)) (ak (aG (aM b hr (ag (aq 0) (ag aj (ag (aq 2) aa)))))) aH)
  (ai (aT (aC (aU a) (aq 1) aI (aJ _)) (ak (aG (aM b hr (ag (aq 0) (ag aj (ag (aR cp (gh T.eA rfl) aj) aa)))))) aH)
  (ak (aG (kn (aM g hr (ag (aq 0) aa)) (lD (kr Sa (aq 0) aj (aJ _))))))))),?_)
 right
 cases c with
 | @value n x v a b=>
  rw[if_pos ⋯];calc fZ x m n _ rfl a.hd (λH' s=>?_);rw[SO b];calc q H' s
 | @number i a b=>
  rw[if_neg ⋯,if_pos ⋯];calc fZ (.int i) _ 0 m rfl (.int i) ?_;have e:inR 0 m (.int i)=true:=by simp[inR,a,b]
  rw[e];calc q H (au.refl H)
 | @many i a b=>
  rw[if_neg ⋯,if_neg ⋯,if_pos ⋯];calc fZ (.int i) _ 1 _ rfl (.int i) ?_;have e:inR 1 (24+1) (.int i)=true:=by simp[inR,a];lia
  rw[e];calc q H (au.refl H)
 | @way i a=>
  rw[if_neg ⋯,if_neg ⋯,if_neg ⋯];calc(.int i,_,rfl,.int i,true,rfl,?_);rw[if_pos rfl];have e:decide ((0:Int)<=i)=true:=aal a;right;rw[e];calc q H (au.refl H)
abbrev qB:Stmt:=top 53
theorem acT{x:V}{ps:List V}:dE (x::ps) (some 1) none=ps:=by
 unfold dE;have e:HT.eS (x::ps).length 0 (some 1)=1:=by
  show(if (1:Int)<0 then((1:Int)+((x::ps).length:Int)).toNat else min (1:Int).toNat (x::ps).length)=1;rw[if_neg ∅];show min 1 (ps.length+1)=1;lia
 rw[e];show List.take ((x::ps).length-1) ps=ps;simp
theorem ur{H:Hp}{n:Nat}{x:V}{d:bF}{m:Int}(h:HT H n x d.dv)(f:d.ok m):∃a ps,x=.ref a/\H a=some (.tup (.str d.word::ps))/\ps.length=d.vD.length/\∀(i:Nat) p s,ps[i]?=some p->d.vD[i]?=some s->kD H m p s:=by
 cases d with
 |set i v=>
  nofun;let(a,u,y,z,k,rfl,e,g,l,o):=bV h;obtain rfl:=g.cV;obtain rfl:=l.cL;ac_rfl;refine yf a _ rfl e rfl (λj p s b c=>?_)
  match j,b,c with
  |0,b,c=>cases b;cases c;calc .number f.1 f.2.1
  |1,b,c=>cases b;cases c;calc .value o f.2.2
 |add i v=>
  nofun;let(a,u,y,z,k,rfl,e,g,l,o):=bV h;obtain rfl:=g.cV;obtain rfl:=l.cL;ac_rfl;refine yf a _ rfl e rfl (λj p s b c=>?_)
  match j,b,c with
  |0,b,c=>cases b;cases c;calc .number f.1 f.2.1
  |1,b,c=>cases b;cases c;calc .value o f.2.2
 |times i v=>
  nofun;let(a,u,y,z,k,rfl,e,g,l,o):=bV h;obtain rfl:=g.cV;obtain rfl:=l.cL;ac_rfl;refine yf a _ rfl e rfl (λj p s b c=>?_)
  match j,b,c with
  |0,b,c=>cases b;cases c;calc .number f.1 f.2.1
  |1,b,c=>cases b;cases c;calc .value o f.2.2
 |put v=>
  nofun;let(a,u,y,k,rfl,e,g,l):=dQ h;obtain rfl:=g.cV;ac_rfl;refine yf a _ rfl e rfl (λj p s b c=>?_)
  match j,b,c with
  |0,b,c=>cases b;cases c;calc .value l f
 |drop=>
  nofun;let(a,u,k,rfl,e,g):=jy h;obtain rfl:=g.cV;ac_rfl;calc(a,_,rfl,e,rfl,λj p s b c=>by simp at b)
 |send j v=>
  nofun;let(a,u,y,z,k,rfl,e,g,l,o):=bV h;obtain rfl:=g.cV;obtain rfl:=l.cL;ac_rfl;refine yf a _ rfl e rfl (λj p s b c=>?_)
  match j,b,c with
  |0,b,c=>cases b;cases c;calc .way f.1
  |1,b,c=>cases b;cases c;calc .value o f.2
 |say v=>
  nofun;let(a,u,y,k,rfl,e,g,l):=dQ h;obtain rfl:=g.cV;ac_rfl;refine yf a _ rfl e rfl (λj p s b c=>?_)
  match j,b,c with
  |0,b,c=>cases b;cases c;calc .value l f
 |skip v w i=>
  nofun;let(a,u,y,z,t,k,rfl,e,g,l,o,q):=pN h;obtain rfl:=g.cV;obtain rfl:=q.cL;ac_rfl;refine yf a _ rfl e rfl (λj p s b c=>?_)
  match j,b,c with
  |0,b,c=>cases b;cases c;calc .value l f.1
  |1,b,c=>cases b;cases c;calc .value o f.2.1
  |2,b,c=>cases b;cases c;calc .many f.2.2.1 f.2.2.2
theorem Ck:d.vD.length<=3:=by cases d<;>simp[bF.vD]
def wW:Sp:=λvs H Q _=>∃x m n d,vs=[x,.int m]/\HT H n x (bF.dv d)/\d.ok m/\∀H',au H H'->Q (.bl true) H'
theorem Gn(D:cE K mg "is_deed" "is_deed" qB cI)(T:Tx K mg C CN CR F FD)(k:Def P w K mg base "form_of" 1 ["word"] (Ee K))(O:Def P w K mg base "is_part" 4 eP Ef):Def P w K mg base "is_deed" 5 cI wW:=by
 exists["thing","many","form"];let(x,m,n,d,rfl,G,I,q):=h;have g:=hr.units;refine(_,(ai (aT (PW.pt (pw_or (cB (bC (bc dP rfl T.bg vZ (ag (aq 0) (ag (dD (v:=.ty "tuple") rfl T.cn su rfl) aa))))) (pw_or (aC (aU g) (bc aO rfl T.bS U' (ag (aq 0) aa)) aj (aJ _)) (pw_or1 (cB (bC (bc dP rfl T.bg vZ (ag (ao g (aq 0) aj) (ag (dD (v:=.ty "str") rfl T.Eb PyProof.Rows.boot_str rfl) aa))))))))) (ak (aG ij)) aH)
  (ai (bf (i:=2) sc rfl Sort (aM k hr (ag (ao g (aq 0) aj) aa)))
  (ai (aT (PW.pt (pw_or (aC BU (aq 2) jw (aJ _)) (pw_or1 (aC (fL g) (bc aO rfl T.bS U' (ag (aq 0) aa)) (aR cp (bc aO rfl T.bS U' (ag (aq 2) aa)) aj) (aJ _))))) (ak (aG ij)) aH)
  (ak (aG (bc (iu rfl) rfl T.uk U7 (ag (df (N':=["part","sort","many"]) (ix:=[none,none,some 1]) (ya rfl T.zZ (ag (yb (aq 0) (dM aj) fK) (ag (aq 2) aa))) (λ_ _ _ _=>(jo (K:=K) rfl (i:=0) (j:=1) rfl (show(["part","sort","many"]:List Str).Nodup by decide +kernel) rfl rfl Sort Sort)) nL (λ_ _ _ _=>(aM O hr (ag (aq 0) (ag (aq 1) (ag (aq 2) aa)))))) aa))))))),?_)
 let(a,ps,rfl,g,k,R):=ur G I;have O:=Ck (d:=d);right;calc dq _ true (.tup g) rfl ?_;simp only[Bool.not_true,Bool.false_eq_true,if_false];calc bJ _ (.inr (_,bP.of g,rfl)) ?_;rw[if_neg (by simp;lia)];calc(_,.str d.word,.inr (bP.of g),aA (j:=0) rfl,_,true,.str _,rfl,?_);simp only[Bool.not_true,Bool.false_eq_true,if_false];calc(_,.str d.word,.inr (bP.of g),aA (j:=0) rfl,d,rfl,λp G=>?_);right;rw[if_neg S'];calc(_,.inr (_,bP.of g,rfl),_,.inr (_,G,rfl),?_);rw[if_neg (by simp[k])];calc bI ?_;right;calc .inr (_,g,λI H2 y l=>?_);rw[acT]at l;have o:=y.Vk G;calc fZ false false _ _ (Sq.t l) o (λD L=>?_);refine bq (J:=Vi false false K I p) (n:=ps.length) (λi ys H'=>ys=List.replicate i (V.bl true)/\au H2 H') (M' (aE ())) (rfl,au.new _ L) ?_ ?_ ?_ ?_
 ·rintro i ys H' B ⟨_,c⟩;exact(ps,d.vD.map V.str,ps[i],.str (d.vD[i]'()),Sq.t (c _ _ l),c.Vk o,dH B,by rw[J',dH ()];rfl)
 ·rintro ys H' ⟨_,c⟩;exact(ps,d.vD.map V.str,Sq.t (c _ _ l),c.Vk o,.inl rfl)
 ·intro i ys H' B r M S x H4 U;nofun;let(rfl,c):=S;let(T,W,rfl,X):=U;let(u,v,Y,N,rfl):=X ps (d.vD.map V.str) (Sq.t (c _ _ l)) (c.Vk o);rw[J']at N;let(z,Z,rfl):=Option.map_eq_some_iff.mp N;ac_rfl;have g:au H' (upd H' T (.tup [u,.str z])):=au.new _ W;calc Bl (bP.of af) (Ext.set (Ext.set (Ext.refl _) rfl) rfl,?_);right;rw[if_pos trivial];calc acI u z m rfl ((R i u z Y Z).same (y.trans (c.trans g))) (λl k=>?_);have n:l D=some (.lst (List.replicate i (V.bl true))):=k _ _ (g _ _ r);calc bW n M B (M' (aE ())) (kd _ _,λb o e=>?_);rw[az (av e L)];exact k _ _ (g _ _ (c _ _ e))
 ·rintro ys H' r M ⟨rfl,c⟩;right;rw[qp] at r;calc bJ _ (aY.of r) ?_;have e:(List.replicate ps.length true).all id=true:=by simp
  rw[e];calc q _ (y.trans c)
abbrev jz:Stmt:=top 59
def LT(H:Hp)(a:Addr)(xs:List V):Prop:=H a=some (.lst xs)\/H a=some (.tup xs)
theorem LT.same{xs:List V}(s:au H H')(h:LT H a xs):LT H' a xs:=h.elim (λz=>.inl (s _ _ z)) (λz=>.inr (s _ _ z))
theorem kg{K:W.Frag}(h:LT H a ys)(q:∀p H',au H H'->H' p=some (.tup ys)->Q (.ref p) H'):xU K [.ref a] H Q:=by
 rcases h with h|h
 ·exact .inl (_,aY.of h,λl b=>q l _ (au.new _ b) af)
 ·calc .inr (_,bP.of h,q a H (au.refl H) h)
def uu:Sp:=λvs H Q _=>∃(a:Addr) (ns:List Int) (c b M:Int),vs=[.ref a,.int c,.int b,.int M]/\LT H a (ns.map V.int)/\c<=(ns.length:Int)/\(ns.length:Int)<=b/\b<=100/\(∀z∈ns,0<=z/\z<M)/\∀H',au H H'->Q (.bl true) H'
theorem vG(D:cE K mg "are_counted" "are_counted" jz dV)(T:Tx K mg C CN CR F FD)(L:Def P w K mg base "is_list" 1 eb nZ)(N:Def P w K mg base "is_within" 2 b8 bU):Def P w K mg base "are_counted" 3 dV uu:=by
 exists dV;let(a,ns,B,G,M,rfl,g,I,m,v,y,q):=h;have v:=hr.units;refine(_,(ak (aG (kn (aM L hr (ag (aq 0) (ag (aq 1) (ag (aq 2) aa)))) (lD (bc (iu rfl) rfl T.uk U7 (ag (df (N':=["thing","modulus"]) (ix:=[none,some 3]) (bZ (pv 0)) (λ_ _ _ _=>(ba (i:=0) (show(["thing","modulus"]:List Str).Nodup by decide +kernel) rfl Sort)) nL (λ_ _ _ _=>(aM N hr (ag (aq 0) (ag aj (ag (aq 1) aa)))))) aa)))))),?_);right;refine fZ a _ B G rfl g (λH1 k=>?_);rw[T',aal I,aal m];show ∃c,V.bl true=.bl c/\_;refine bJ true rfl ?_;rw[if_pos rfl];refine bI ?_;right;rcases g with g | g
 ·calc .inl ((_,aY.of (k _ _ g)),λD p=>?_);refine bq (J:=v9 K a) (n:=ns.length) (λi ys H'=>ys=List.replicate i (V.bl true)/\au H1 H') (M' (aE ())) (rfl,au.new _ p) ?_ ?_ ?_ ?_
  ·rintro i ys H' j ⟨_,d⟩;exact(_,.int ns[i],aY.of (d _ _ (k _ _ g)),by rw[J',dH j];rfl)
  ·rintro ys H' ⟨_,d⟩;exact(_,aY.of (d _ _ (k _ _ g)),nofun)
  ·intro i ys H' j l r O x R S;nofun;let(rfl,d):=O;let(rfl,z):=S;have t:=z _ (aY.of (d _ _ (k _ _ g)));rw[J',dH j] at t;obtain rfl:=Option.some.inj t;ac_rfl;walk_at "xf";right;rw[if_pos trivial];refine fZ (.int ns[i]) _ 0 M rfl (.int _) ?_;have u:=y ns[i] (aax j);have e:inR 0 M (.int ns[i])=true:=by simp[inR,u.1,u.2]
   rw[e];calc bW l r j (M' (aE ())) (kd _ _,λb o e=>?_);rw[az (av e p)];exact d _ _ e
  ·rintro ys H' l r ⟨rfl,d⟩;right;rw[qp] at l;calc bJ _ (aY.of l) ?_;have e:(List.replicate ns.length true).all id=true:=by simp
   rw[e];exact q _ (k.trans d)
 ·calc .inr ((_,bP.of (k _ _ g)),λD p=>?_);refine bq (J:=Wu K a) (n:=ns.length) (λi ys H'=>ys=List.replicate i (V.bl true)/\au H1 H') (M' (aE ())) (rfl,au.new _ p) ?_ ?_ ?_ ?_
  ·rintro i ys H' j ⟨_,d⟩;exact(_,.int ns[i],bP.of (d _ _ (k _ _ g)),by rw[J',dH j];rfl)
  ·rintro ys H' ⟨_,d⟩;exact(_,bP.of (d _ _ (k _ _ g)),nofun)
  ·intro i ys H' j l r U x R W;nofun;let(rfl,d):=U;let(rfl,z):=W;have t:=z _ (bP.of (d _ _ (k _ _ g)));rw[J',dH j] at t;obtain rfl:=Option.some.inj t;ac_rfl;walk_at "xf";right;rw[if_pos trivial];refine fZ (.int ns[i]) _ 0 M rfl (.int _) ?_;have u:=y ns[i] (aax j);have e:inR 0 M (.int ns[i])=true:=by simp[inR,u.1,u.2]
   rw[e];calc bW l r j (M' (aE ())) (kd _ _,λb o e=>?_);rw[az (av e p)];exact d _ _ e
  ·rintro ys H' l r ⟨rfl,d⟩;right;rw[qp] at l;calc bJ _ (aY.of l) ?_;have e:(List.replicate ns.length true).all id=true:=by simp
   rw[e];calc q _ (k.trans d)
abbrev gw:Stmt:=top 60
def Eh:Sp:=λvs H Q _=>∃(M:Int) (a b ad:Addr) (ns row:List Int) (xs:List V),vs=[.int M,.ref a,.ref b,.ref ad]/\2<=M/\M<=1000000000000/\LT H a (ns.map V.int)/\LT H b (row.map V.int)/\LT H ad xs/\1<=ns.length/\ns.length<=4/\row.length<=12/\(∀z∈ns,0<=z/\z<M)/\(∀z∈row,0<=z/\z<M)/\∀H',au H H'->Q .bO H'
theorem qF(D:cE K mg "refuse_machine" "refuse_machine" gw d7)(T:Tx K mg C CN CR F FD)(b:Def P w K mg base "are_counted" 3 dV uu)(r:Def P w K mg base "is_within" 2 b8 bU):Def P w K mg base "refuse_machine" 4 d7 Eh:=by
 exists d7;let(M,c,d,ad,ns,row,u,rfl,g,x,i,j,k,y,B,G,l,m,q):=h;have u:=hr.units;refine(_,(ai (aT (cB (bC (aM r hr (ag (aq 0) (ag aj (ag (aR cp (gh T.dR rfl) aj) aa)))))) (ak cq) aH)
  (ai (aT (cB (bC (aM b hr (ag (aq 1) (ag aj (ag (gh T.dS rfl) (ag (aq 0) aa))))))) (ak cq) aH)
  (ai (aT (cB (bC (aM b hr (ag (aq 2) (ag aj (ag (gh T.fO rfl) (ag (aq 0) aa))))))) (ak cq) aH)
  (ak (aT (cB (bC (bc dP rfl T.bg vZ (ag (aq 3) (ag (bu (ag (dD (v:=.ty "list") rfl T.ft Bd rfl) (ag (dD (v:=.ty "tuple") rfl T.cn su rfl) aa))) aa))))) (ak cq) aH))))),?_)
 right;calc fZ (.int M) _ 2 _ rfl (.int M) ?_;have e:inR 2 (1000000000000+1) (.int M)=true:=by simp[inR,g];lia
 rw[e];right;rw[if_neg ∅];calc XB c ns 1 4 M rfl i () () ∅ l (λH1 a=>?_);right;rw[if_neg ∅];calc XB d row 0 12 M rfl (j.same a) () () ∅ m (λH2 n=>?_);right;rw[if_neg ∅];calc(cy,λp b=>?_);have o:au H2 (upd H2 p (.tup [.ty "list",.ty "tuple"])):=au.new _ b;have I:∃t,gV K (upd H2 p (.tup [.ty "list",.ty "tuple"])) (.ref ad) t/\W.kitAny K t [.type "list",.type "tuple"]=some true:=by
  rcases k.same (a.trans (n.trans o)) with z|z
  ·exact(_,.lst z,rfl)
  ·exact(_,.tup z,rfl)
 let(t,b,c):=I;calc SU t true _ _ b af rfl c ?_;right;rw[if_neg ∅];calc q _ (a.trans (n.trans o))
abbrev iH:Stmt:=top 61
def DL(H:Hp)(n:Nat)(xs:List V)(a:List bF):Prop:=xs.length=a.length/\∀(i:Nat) x d,xs[i]?=some x->a[i]?=some d->HT H n x (bF.dv d)
theorem DL.aL{n:Nat}{xs:List V}{a:List bF}(s:ck H H')(h:DL H n xs a):DL H' n xs a:=(h.1,λi x d a b=>(h.2 i x d a b).aL s)
theorem DL.ht{n:Nat}{xs:List V}{b:List bF}(h:DL H n xs b)(e:H a=some (.tup xs)):HT H (n+1) (.ref a) (.tup (b.map bF.dv)):=by
 calc .tup e (by rw[T'];calc h.1) λi u d f c=>?_;rw[J']at c;let(dd,g,rfl):=Option.map_eq_some_iff.mp c;calc h.2 i u dd f g
def Ei:Sp:=λvs H Q _=>∃(a:Addr) (xs:List V) (b:List bF) (m:Int) (n:Nat),vs=[.ref a,.int m]/\LT H a xs/\DL H n xs b/\b.length<=24/\(∀d∈b,d.ok m)/\∀H',au H H'->Q .bO H'
theorem uv(D:cE K mg "refuse_deeds" "refuse_deeds" iH ["deeds","many"])(T:Tx K mg C CN CR F FD)(B:Def P w K mg base "is_deed" 5 cI wW):Def P w K mg base "refuse_deeds" 6 ["deeds","many"] Ei:=by
 exists["deeds","many","at","deed"];let(a,c,e,m,n,rfl,d,g,G,u,q):=h;have G:=hr.units;refine(_,(ak (fB PassesOwn.never rfl (ky rfl T.dY (ag (aq 0) aa)) (g9 (i:=2) (j:=3) rfl sc rfl rfl Sort Sort)
  (ak (aT (PW.pt (pw_or (aC (aU G) (aq 2) (gh T.eA rfl) (aJ _)) (pw_or1 (cB (bC (aM B hr (ag (aq 3) (ag (aq 1) aa)))))))) (ak cq) aH)))),?_)
 rcases d with d|d
 ·calc F6 true c (Sq.l d) ?_;refine pG (xs:=c) (λi σ H'=>au H H'/\∃k o,σ=[some (.ref a),some (.int m),k,o]) (au.refl H,none,none,rfl) (λi σ H' (b,_)=>Sq.l (b _ _ d)) ?_ ?_
  ·intro i x σ H1 T p I v;let(b,k,o,rfl):=I;have y:i < c.length:=(List.getElem?_eq_some_iff.mp p).1;have kj:i < e.length:=by rw[<-g.1];exact y
   have r:au H1 (upd H1 T (.tup [.int i,x])):=au.new _ v;calc Bl (bP.of af) ?_;right;rw[if_neg (by simp;lia)];calc(x,m,n,e[i],rfl,(g.2 i x e[i] p (dH kj)).aL (b.trans r).aQ,u _ (aax kj),λJ z=>?_);right
   first|rw[if_neg ∅]|skip
   exact(b.trans (r.trans z),_,_,rfl,rfl)
  ·rintro σ H1 ⟨b,_⟩;exact q _ b
 ·calc F6 false c (Sq.t d) ?_;refine pG (xs:=c) (λi σ H'=>au H H'/\∃k o,σ=[some (.ref a),some (.int m),k,o]) (au.refl H,none,none,rfl) (λi σ H' (b,_)=>Sq.t (b _ _ d)) ?_ ?_
  ·intro i x σ H1 T p L v;let(b,k,o,rfl):=L;have y:i < c.length:=(List.getElem?_eq_some_iff.mp p).1;have kj:i < e.length:=by rw[<-g.1];exact y
   have r:au H1 (upd H1 T (.tup [.int i,x])):=au.new _ v;calc Bl (bP.of af) ?_;right;rw[if_neg (by simp;lia)];calc(x,m,n,e[i],rfl,(g.2 i x e[i] p (dH kj)).aL (b.trans r).aQ,u _ (aax kj),λJ z=>?_);right
   first|rw[if_neg ∅]|skip
   exact(b.trans (r.trans z),_,_,rfl,rfl)
  ·rintro σ H1 ⟨b,_⟩;calc q _ b
abbrev qI:Stmt:=(cm (top 65)).getD 0 (.Pass (0,0,0,0))
def Mu(M:Int)(st dd:V):List (Str×V):=bQ "own_deeds" dd (bQ "own_state" st (bQ "own_modulus" (.int M) []))
theorem XT{M:Int}:(Mu M st dd).lookup ("own_modulus":Str)=some (.int M):=by
 unfold Mu;rw[bz,if_neg ⋯,bz,if_neg ⋯,bz,if_pos rfl]
theorem acV{M:Int}:(Mu M st dd).lookup ("own_state":Str)=some st:=by
 unfold Mu;rw[bz,if_neg ⋯,bz,if_pos rfl]
theorem XU{M:Int}:(Mu M st dd).lookup ("own_deeds":Str)=some dd:=by
 unfold Mu;rw[bz,if_pos rfl]
theorem Ej{M:Int}{f:Str}(a:f≠"own_modulus")(b:f≠"own_state")(c:f≠"own_deeds"):(Mu M st dd).lookup f=none:=by
 unfold Mu;rw[bz,if_neg c,bz,if_neg b,bz,if_neg a];rfl
theorem jA{f:Str}{v:V}{a:List (Str×V)}{n:Nat}(h:a.length<n):(bQ f v a).length<n+1:=by
 have:=lI f v a;lia
def kE(C:Addr)(H:Hp)(m:Addr)(M:Int)(ns row:List Int)(a:List bF):Prop:=∃b st dd,H m=some (.ins C b (Mu M st dd))/\HT H 2 st (zF ns row)/\HT H 4 dd (.tup (a.map bF.dv))
theorem kE.same{C:Addr}{M:Int}{a:List bF}(s:au H H')(h:kE C H m M ns row a):kE C H' m M ns row a:=by
 let(a,st,dd,b,c,d):=h;calc(a,st,dd,s _ _ b,c.aL s.aQ,d.aL s.aQ)
def Ek(C:Addr):Sp:=λvs H Q _=>∃(x f:Addr) (M:Int) (c e ad:Addr) (ns row:List Int) (xs:List V) (a:List bF) (n:Nat),vs=[.ref x,.int M,.ref c,.ref e,.ref ad]/\H x=some (.ins C f [])/\2<=M/\M<=1000000000000/\LT H c (ns.map V.int)/\LT H e (row.map V.int)/\LT H ad xs/\1<=ns.length/\ns.length<=4/\row.length<=12/\
 (∀z∈ns,0<=z/\z<M)/\(∀z∈row,0<=z/\z<M)/\DL H n xs a/\n<=3/\a.length<=24/\(∀d∈a,d.ok ns.length)/\∀H',kE C H' x M ns row a->(∀b o,b≠x->H b=some o->H' b=some o)->Q .bO H'
theorem Gr(D:FW K mg "Machine" C "Machine.__init__" qI dg)(T:Tx K mg C CN CR F FD)(iI:Def P w K mg base "refuse_deeds" 6 ["deeds","many"] Ei)(gy:Def P w K mg base "refuse_machine" 4 d7 Eh):zz P w K mg base "Machine" C 7 dg (Ek C):=by
 exists dg;let(x,a,M,N,ar,ad,ns,row,u,ds,n,rfl,v,Gq,qG,y,O,l,Cm,Qg,pU,hb,Tn,R,m,Qh,aW,q):=h;have m:=hr.units;refine(_,(ai (bL (aM gy hr (ag (aq 1) (ag (aq 2) (ag (aq 3) (ag (aq 4) aa))))))
  (ai (bL (aM iI hr (ag (aq 4) (ag (bc aO rfl T.bS U' (ag (aq 2) aa)) aa))))
  (ai (gb (aq 0) (aq 1) (gO rfl))
  (ai (gb (aq 0) (bu (ag (dA bX rfl T.cn su (ag (aq 2) aa)) (ag (dA bX rfl T.cn su (ag (aq 3) aa)) aa))) (gO rfl))
  (ak (gb (aq 0) (dA bX rfl T.cn su (ag (aq 4) aa)) (gO rfl))))))),?_)
 try walk_at "rt"
 refine(M,N,ar,ad,ns,row,u,rfl,Gq,qG,y,O,l,Cm,Qg,pU,hb,Tn,λH1 B=>?_)
 try walk_at "rt"
 have m:HZ K (.ref N) H1 (ns.map V.int).length:=(y.same B).elim (λz=>.inl (_,aY.of z,rfl)) (λz=>.inr (_,bP.of z,rfl));calc bJ _ m ?_;calc acM ad u ds _ n rfl (l.same B) (R.aL B.aQ) Qh (by rw[T'];calc aW) (λH2 N=>?_);have Mv:=B.trans N
 try walk_at "rt"
 have m:=Mv _ _ v;calc(x,C,a,[],rfl,m,T.cR,T.Qd,∅,?_);have p:∀{b:Addr} {ys:List V},LT H b ys->b≠x:=λh z=>by
  subst z;rcases h with h|h<;>(rw[v]at h;cases h)
 have S:∀b o,b≠x->H b=some o->upd H2 x (.ins C a (bQ "own_modulus" (.int M) [])) b=some o:=λb o d e=>by rw[az d];exact Mv _ _ e
 have r:∀{b:Addr} {ys:List V},LT H b ys->LT (upd H2 x (.ins C a (bQ "own_modulus" (.int M) []))) b ys:=λh=>by
  have g:=p h;exact h.elim (λz=>.inl (S _ _ g z)) (λz=>.inr (S _ _ g z))
 have t:upd H2 x (.ins C a (bQ "own_modulus" (.int M) [])) x=some (.ins C a (bQ "own_modulus" (.int M) [])):=af;generalize Kn:upd H2 x (.ins C a (bQ "own_modulus" (.int M) []))=G2 at *
 try walk_at "rt"
 refine kg (r y) λI m s3 wX=>?_
 try walk_at "rt"
 refine kg ((r O).same s3) λJ U s4 m9=>?_
 try walk_at "rt"
 calc(cy,λc m=>?_);have W:=au.new (.tup [.ref I,.ref J]) m;have i:=s3.trans (s4.trans W)
 try walk_at "rt"
 calc F7 x C a _ rfl (i _ _ t) T.cR T.Te (jA (n:=999) ∅) ?_;have X:HT (upd U c (.tup [.ref I,.ref J])) 2 (.ref c) (zF ns row):=dj af (pJ (W _ _ (s4 _ _ wX))) (pJ (W _ _ m9));have Y:=i _ _ t;have L:∀b o,b≠x->H b=some o->upd U c (.tup [.ref I,.ref J]) b=some o:=λb o d e=>i _ _ (S b o d e);generalize hG:upd U c (.tup [.ref I,.ref J])=G at *;have tG:ck H G:=λb ys e=>L b _ (λz=>by subst z;rw[v]at e;cases e) e;have t6:ck G (upd G x (.ins C a (bQ "own_state" (.ref c) (bQ "own_modulus" (.int M) [])))):=(ck.refl G).upd λys e=>by rw[Y]at e;cases e
 have e6:LT (upd G x (.ins C a (bQ "own_state" (.ref c) (bQ "own_modulus" (.int M) [])))) ad u:=by
  have g:=p l;exact l.elim (λz=>.inl (by rw[az g];calc L _ _ g z)) (λz=>.inr (by rw[az g];calc L _ _ g z))
 have n6:∀b o,b≠x->H b=some o->upd G x (.ins C a (bQ "own_state" (.ref c) (bQ "own_modulus" (.int M) []))) b=some o:=λb o d e=>by rw[az d];exact L b o d e
 have j:upd G x (.ins C a (bQ "own_state" (.ref c) (bQ "own_modulus" (.int M) []))) x=some (.ins C a (bQ "own_state" (.ref c) (bQ "own_modulus" (.int M) []))):=af;generalize hG6:upd G x (.ins C a (bQ "own_state" (.ref c) (bQ "own_modulus" (.int M) [])))=G6 at *
 try walk_at "rt"
 refine kg e6 λZ H7 k Cp=>?_
 try walk_at "rt"
 calc F7 x C a _ rfl (k _ _ j) T.cR T.Qe (jA (n:=999) (jA (n:=998) ∅)) ?_;have ne4:Z≠x:=λz=>by subst z;rw[k _ _ j]at Cp;cases Cp
 have t8:ck H7 (upd H7 x (.ins C a (Mu M (.ref c) (.ref Z)))):=(ck.refl _).upd λys e=>by rw[k _ _ j]at e;cases e
 refine q _ (a,.ref c,.ref Z,af,(X.aL t6).aL (k.aQ.trans t8),?_) λb o d e=>?_
 ·calc HT.mono (n:=n+1) ?_ ();calc DL.ht (R.aL (tG.trans (t6.trans (k.aQ.trans t8)))) ?_;rw[az ne4];exact Cp
 ·rw[az d];calc k _ _ (n6 b o d e)
abbrev eW:Stmt:=(cm (top 65)).getD 2 (.Pass (0,0,0,0))
def Ko(C:Addr):Sp:=λvs H Q _=>∃(m:Addr) (M:Int) (ns row:List Int) (a:List bF),vs=[.ref m]/\kE C H m M ns row a/\∀st,HT H 2 st (zF ns row)->Q st H
theorem lB(D:gY K C "first_state" "Machine.first_state" eW cz)(T:Tx K mg C CN CR F FD):cf P w K mg base C "first_state" 1 cz (Ko C):=by
 exists cz;let(m,M,ns,row,d,rfl,(a,st,dd,b,c,e),q):=h;have d:=hr.units;calc(_,(ak (aG (bH (aq 0) rfl))),?_);calc(m,C,a,_,_,rfl,b,T.cR,T.Te,acV,q _ c)
theorem XW{H:Hp}{n:Nat}{x:V}{b:List bF}(h:HT H (n+1) x (.tup (b.map bF.dv))):∃a xs,x=.ref a/\H a=some (.tup xs)/\DL H n xs b:=by
 cases h with
 | @tup _ a xs _ e l i=>
  calc(a,xs,rfl,e,by simpa using l,λj x d b c=>i j x _ b ?_);rw[J',c];rfl
def fV(H:Hp)(n:Nat)(ys:List V)(es:List DV):Prop:=ys.length=es.length/\∀(i:Nat) y e,ys[i]?=some y->es[i]?=some e->HT H n y e
theorem fV.nil{n:Nat}:fV H n [] []:=(rfl,λi y e h=>by simp at h)
theorem fV.aL{n:Nat}(h:fV H n ys es)(t:ck H H'):fV H' n ys es:=(h.1,λi y e a b=>(h.2 i y e a b).aL t)
theorem fV.snoc{n:Nat}{y:V}{e:DV}(h:fV H n ys es)(g:HT H n y e):fV H n (ys++[y]) (es++[e]):=by
 calc(by simp[h.1],λi c f a b=>?_);by_cases c:i<ys.length
 ·rw[aad c]at a;rw[aad (by rw[<-h.1];calc c)]at b;exact h.2 i _ _ a b
 ·rw[X' ()] at a;rw[X' (by rw[<-h.1];lia),<-h.1] at b
  cases d:i-ys.length with
  |zero=>rw[d]at a b;cases a;cases b;calc g
  |succ k=>rw[d]at a;simp at a
theorem fV.dl{n:Nat}{xs:List V}{a:List bF}(h:fV H n xs (a.map bF.dv)):DL H n xs a:=(by simpa using h.1,λi x d a b=>h.2 i x _ a (by rw[J',b];rfl))
abbrev uw:Stmt:=top 71
abbrev Vp(C:Addr)(H:Hp)(m:Addr)(d:MD):Prop:=kE C H m d.M d.ns d.row d.ds
def nk(w:Int×Int×Str):DV:=.tup [.int w.1,.int w.2.1,.str w.2.2]
def qJ(l:Int×Int):DV:=.tup [.int l.1,.int l.2]
def wY(m:Int)(w:Int×Int×Str):Prop:=0<=w.1/\w.1<m/\0<=w.2.1/\w.2.1<m/\(w.2.2="row"\/w.2.2="heap")
def wZ(m:Int)(l:Int×Int):Prop:=0<=l.1/\l.1<m/\1-1000000000000000000000000000000000000000000000000000000000000<=l.2/\l.2<1000000000000000000000000000000000000000000000000000000000000
def Ah:Sp:=λvs H Q _=>∃(x:V) (n:Nat) (a b:Int) (c:Str) (m:Int),vs=[x,.int m]/\HT H n x (nk ((a),b,c))/\wY m ((a),b,c)/\∀H',au H H'->Q (.bl true) H'
theorem Kp(D:cE K mg "is_way" "is_way" uw cI)(T:Tx K mg C CN CR F FD)(l:Def P w K mg base "is_within" 2 b8 bU):Def P w K mg base "is_way" 3 cI Ah:=by
 exists cI;let(x,n,c,d,g,m,rfl,o,r,q):=h;have i:=hr.units;refine(_,(ai (aT (PW.pt (pw_or (cB (bC (bc dP rfl T.bg vZ (ag (aq 0) (ag (dD (v:=.ty "tuple") rfl T.cn su rfl) aa))))) (pw_or (aC (fL i) (bc aO rfl T.bS U' (ag (aq 0) aa)) aj (aJ _)) (pw_or1 (cB (bC (bc dP rfl T.bg vZ (ag (ao i (aq 0) aj) (ag (dD (v:=.ty "str") rfl T.Eb PyProof.Rows.boot_str rfl) aa))))))))) (ak (aG ij)) aH)
  (ak (aG (kn (aM l hr (ag (ao i (aq 0) aj) (ag aj (ag (aq 1) aa)))) (kn (aM l hr (ag (ao i (aq 0) aj) (ag aj (ag (aq 1) aa)))) (lD (kr IQ (ao i (aq 0) aj) (bu (ag aI (ag aI aa))) (by with_unfolding_all rfl)))))))),?_)
 nofun;let(a,G,I,J,k,rfl,b,t,u,y):=bV o;obtain rfl:=t.cL;obtain rfl:=u.cL;obtain rfl:=y.cV
 replace b:H a=some (.tup [.int c,.int d,.str g]):=b
 obtain⟨i,k,l,n,z⟩:0<=c/\c<m/\0<=d/\d<m/\(g="row"\/g="heap"):=r;ac_rfl;left;refine dq _ true (.tup b) rfl ?_;simp only[Bool.not_true,Bool.false_eq_true,if_false];refine bJ _ (.inr (_,bP.of b,rfl)) ?_;rw[if_neg nofun];refine(_,_,.inr (bP.of b),aA (j:=2) rfl,_,true,.str _,rfl,?_);simp only[Bool.not_true,Bool.false_eq_true,if_false];left;refine dq _ _ (.inr (bP.of b)) (aA (j:=0) rfl) ?_;refine fZ (.int c) _ 0 m rfl (.int c) ?_;rw[show inR 0 m (.int c)=true by simp[inR,i,k]];left;rw[if_pos trivial];refine dq _ _ (.inr (bP.of b)) (aA (j:=1) rfl) ?_;refine fZ (.int d) _ 0 m rfl (.int d) ?_;rw[show inR 0 m (.int d)=true by simp[inR,l,n]];left;rw[if_pos trivial];refine yf _ _ (.inr (bP.of b)) (aA (j:=2) rfl) cy (λp B=>?_);refine NZ _ (.inr (bP.of af)) rfl rfl ?_;have e:Dz (.str g) [.str "row",.str "heap"]=true:=by
  rcases z with rfl|rfl<;>decide +kernel
 rw[e];calc q _ (au.new _ B)
abbrev lU:Stmt:=top 72
def Ai:Sp:=λvs H Q _=>∃(x:V) (n:Nat) (a b:Int) (m:Int),vs=[x,.int m]/\HT H n x (qJ ((a),b))/\wZ m ((a),b)/\Q (.bl true) H
theorem Aj(D:cE K mg "is_letter" "is_letter" lU cI)(T:Tx K mg C CN CR F FD)(g:Def P w K mg base "is_within" 2 b8 bU):Def P w K mg base "is_letter" 3 cI Ai:=by
 exists cI;let(x,n,b,c,m,rfl,i,l,q):=h;have e:=hr.units;refine(_,(ai (aT (PW.pt (pw_or (cB (bC (bc dP rfl T.bg vZ (ag (aq 0) (ag (dD (v:=.ty "tuple") rfl T.cn su rfl) aa))))) (pw_or1 (aC (fL e) (bc aO rfl T.bS U' (ag (aq 0) aa)) aj (aJ _))))) (ak (aG ij)) aH)
  (ak (aG (kn (aM g hr (ag (ao e (aq 0) aj) (ag aj (ag (aq 1) aa)))) (lD (aM g hr (ag (ao e (aq 0) aj) (ag (aR fw aj (gh T.eB rfl)) (ag (gh T.eB rfl) aa))))))))),?_)
 nofun;let(a,r,t,k,rfl,d,o,p):=dQ i;obtain rfl:=o.cL;obtain rfl:=p.cL
 replace d:H a=some (.tup [.int b,.int c]):=d
 obtain⟨e,g,i,k⟩:0<=b/\b<m/\1-1000000000000000000000000000000000000000000000000000000000000<=c/\c<1000000000000000000000000000000000000000000000000000000000000:=l;ac_rfl;left;calc dq _ true (.tup d) rfl ?_;simp only[Bool.not_true,Bool.false_eq_true,if_false];calc bJ _ (.inr (_,bP.of d,rfl)) ?_;rw[if_neg nofun];left;calc dq _ _ (.inr (bP.of d)) (aA (j:=0) rfl) ?_;calc fZ (.int b) _ 0 m rfl (.int b) ?_;rw[show inR 0 m (.int b)=true by simp[inR,e,g]];left;rw[if_pos trivial];calc dq _ _ (.inr (bP.of d)) (aA (j:=1) rfl) ?_;calc fZ (.int c) _ _ _ rfl (.int c) ?_;rw[show inR (1-1000000000000000000000000000000000000000000000000000000000000) 1000000000000000000000000000000000000000000000000000000000000 (.int c)=true by simp only[inR,decide_eq_true i,decide_eq_true k,Bool.and_self]];calc q
abbrev kF:Stmt:=top 73
def El(C:Addr):Sp:=λvs H Q _=>∃(b c d:Addr) (ms:List Addr) (wv a:List V) (ws:List (Int×Int×Str)) (ls:List (Int×Int)),vs=[.ref b,.ref c,.ref d]/\H b=some (.lst (ms.map V.ref))/\H c=some (.lst wv)/\H d=some (.lst a)/\1<=ms.length/\ms.length<=5/\wv.length<=10/\a.length<=20/\(∀m∈ms,∃e f,H m=some (.ins C e f))/\fV H 1 wv (ws.map nk)/\fV H 1 a (ls.map qJ)/\(∀w∈ws,wY ms.length w)/\(∀l∈ls,wZ wv.length l)/\∀H',au H H'->Q .bO H'
theorem yn(D:cE K mg "refuse_net" "refuse_net" kF ed)(T:Tx K mg C CN CR F FD)(lV:Def P w K mg base "is_letter" 3 cI Ai)(O:Def P w K mg base "is_list" 1 eb nZ)(ux:Def P w K mg base "is_way" 3 cI Ah):Def P w K mg base "refuse_net" 4 ed (El C):=by
 exists ed;let(R,S,U,ms,wv,z,ws,ls,rfl,I,W,Em,Kq,Gu,rX,lW,XX,X,Y,Of,rM,q):=h;have hu:=hr.units;refine(_,(ai (aT (PW.pt (pw_or (cB (bC (aM O hr (ag (aq 0) (ag aj (ag (gh T.dB rfl) aa)))))) (pw_or1 (cB (bC (bc (iu rfl) rfl T.uk U7 (ag (df (N':=["one"]) (ix:=[none]) (bZ (pv 0)) (λ_ _ _ _=>(ba (i:=0) (show(["one"]:List Str).Nodup by decide +kernel) rfl Sort)) nL (λ_ _ _ _=>(bc (JP (K:=K) rfl) rfl T.bg vZ (ag (aq 0) (ag (cJ (v:=.ref C) rfl T.wV rfl) aa))))) aa))))))) (ak cq) aH)
  (ai (aT (PW.pt (pw_or (cB (bC (aM O hr (ag (aq 1) (ag aj (ag (gh T.fS rfl) aa)))))) (pw_or1 (cB (bC (bc (iu rfl) rfl T.uk U7 (ag (df (N':=["way","machines"]) (ix:=[none,some 0]) (bZ (pv 1)) (λ_ _ _ _=>(ba (i:=0) (show(["way","machines"]:List Str).Nodup by decide +kernel) rfl Sort)) nL (λ_ _ _ _=>(aM ux hr (ag (aq 0) (ag (bc (nR (K:=K) rfl) rfl T.bS U' (ag (aq 1) aa)) aa))))) aa))))))) (ak cq) aH)
  (ak (aT (PW.pt (pw_or (cB (bC (aM O hr (ag (aq 2) (ag aj (ag (gh T.dU rfl) aa)))))) (pw_or1 (cB (bC (bc (iu rfl) rfl T.uk U7 (ag (df (N':=["letter","ways"]) (ix:=[none,some 1]) (bZ (pv 2)) (λ_ _ _ _=>(ba (i:=0) (show(["letter","ways"]:List Str).Nodup by decide +kernel) rfl Sort)) nL (λ_ _ _ _=>(aM lV hr (ag (aq 0) (ag (bc (nR (K:=K) rfl) rfl T.bS U' (ag (aq 1) aa)) aa))))) aa))))))) (ak cq) aH)))),?_)
 have O:(ms.map V.ref).length<=5:=by simpa using Gu
 left;calc fZ R _ 1 _ rfl (.inl I) (λH1 Z=>?_);rw[show(decide ((1:Int)<=((ms.map V.ref).length:Int))&&decide (((ms.map V.ref).length:Int)<=5))=true by simp;lia];left
 try simp only[Bool.not_true,Bool.false_eq_true,if_false]
 have L:=Z _ _ I;calc bI ?_;left;calc .inl ((_,aY.of L),λD r=>?_);refine bq (J:=v9 K R) (n:=(ms.map V.ref).length) (λi a H'=>a=List.replicate i (V.bl true)/\au H1 H') (M' (aE ())) (rfl,au.new _ r) ?_ ?_ ?_ ?_
 ·rintro i a H' d ⟨_,l⟩;exact(_,(ms.map V.ref)[i],aY.of (l _ _ L),dH d)
 ·rintro a H' ⟨_,l⟩;exact(_,aY.of (l _ _ L),L' _)
 ·intro i a H' d c g jf x p jh;nofun;let(rfl,l):=jf;let(rfl,B):=jh;ac_rfl;have G:=B _ (aY.of (l _ _ L));walk_at "xf";left;rw[if_pos trivial];have hxm:∃m,x=.ref m/\m∈ms:=by
   have:=aao G;let(m,hm,rfl):=List.mem_map.mp this;exact(m,rfl,hm)
  nofun;let(m,rfl,L):=hxm;let(R,fs,O):=XX m L;ac_rfl;calc acJ _ C _ true rfl (.ins (l _ _ (Z _ _ O)) T.cR T.Gg T.eV T.cH T.Gh) T.i_k ?_;have t:=au.refl p;calc bW (t _ _ c) g d (M' (aE ())) (kd _ _,λb o e=>?_);rw[az (av e r)];exact t _ _ (l _ _ e)
 rintro a H2 c g ⟨rfl,l⟩;left;rw[qp]at c;calc bJ _ (aY.of c) ?_;have e:(List.replicate (ms.map V.ref).length true).all id=true:=by simp
 rw[e];clear e c g;left
 try simp only[Bool.not_true,Bool.false_eq_true,if_false]
 have L:=Z.trans l;have O:=L _ _ W;left;calc fZ S _ 0 _ rfl (.inl O) (λR l=>?_);rw[show(decide ((0:Int)<=(wv.length:Int))&&decide ((wv.length:Int)<=10))=true by simp;lia];left
 try simp only[Bool.not_true,Bool.false_eq_true,if_false]
 have M:=l _ _ O;have u:=L.trans l;calc bI ?_;left;calc .inl ((_,aY.of M),λD r=>?_);refine bq (J:=v9 K S) (n:=wv.length) (λi a H'=>a=List.replicate i (V.bl true)/\au R H') (M' (aE ())) (rfl,au.new _ r) ?_ ?_ ?_ ?_
 ·rintro i a H' d ⟨_,j⟩;exact(_,wv[i],aY.of (j _ _ M),dH d)
 ·rintro a H' ⟨_,j⟩;exact(_,aY.of (j _ _ M),L' _)
 ·intro i a H' d c g qE x p ym;nofun;let(rfl,j):=qE;let(rfl,B):=ym;ac_rfl;have G:=B _ (aY.of (j _ _ M));walk_at "xf";left;rw[if_pos trivial];have l:i < ws.length:=by have:=X.1;rw[T'] at this;lia
  have hw:=(X.2 i x (nk ws[i]) G (by rw[J',dH l];rfl)).aL (u.trans j).aQ;calc bJ _ (.inl (_,aY.of (j _ _ (u _ _ I)),rfl)) ?_;refine(x,1,ws[i].1,ws[i].2.1,ws[i].2.2,_,rfl,hw,?_,λL t=>?_)
  ·have:=Of ws[i] (aax l);simpa[wY] using this
  calc bW (t _ _ c) g d (M' (aE ())) (kd _ _,λb o e=>?_);rw[az (av e r)];exact t _ _ (j _ _ e)
 rintro a H4 c g ⟨rfl,j⟩;left;rw[qp]at c;calc bJ _ (aY.of c) ?_;have e:(List.replicate wv.length true).all id=true:=by simp
 rw[e];clear e c g;left
 try simp only[Bool.not_true,Bool.false_eq_true,if_false]
 have l:=u.trans j;have I:=l _ _ Em;left;calc fZ U _ 0 _ rfl (.inl I) (λu j=>?_);rw[show(decide ((0:Int)<=(z.length:Int))&&decide ((z.length:Int)<=20))=true by simp;lia];left
 try simp only[Bool.not_true,Bool.false_eq_true,if_false]
 have N:=j _ _ I;have y:=l.trans j;calc bI ?_;left;calc .inl ((_,aY.of N),λD r=>?_);refine bq (J:=v9 K U) (n:=z.length) (λi a H'=>a=List.replicate i (V.bl true)/\au u H') (M' (aE ())) (rfl,au.new _ r) ?_ ?_ ?_ ?_
 ·rintro i a H' d ⟨_,k⟩;exact(_,z[i],aY.of (k _ _ N),dH d)
 ·rintro a H' ⟨_,k⟩;exact(_,aY.of (k _ _ N),L' _)
 ·intro i a H' d c g Ag x p Cn;nofun;let(rfl,k):=Ag;let(rfl,B):=Cn;ac_rfl;have G:=B _ (aY.of (k _ _ N));walk_at "xf";left;rw[if_pos trivial];have j:i < ls.length:=by have:=Y.1;rw[T'] at this;lia
  have hw:=(Y.2 i x (qJ ls[i]) G (by rw[J',dH j];rfl)).aL (y.trans k).aQ;calc bJ _ (.inl (_,aY.of (k _ _ (y _ _ W)),rfl)) ?_;refine(x,1,ls[i].1,ls[i].2,_,rfl,hw,?_,?_)
  ·have:=rM ls[i] (aax j);simpa[wZ] using this
  have t:=au.refl p;calc bW (t _ _ c) g d (M' (aE ())) (kd _ _,λb o e=>?_);rw[az (av e r)];exact t _ _ (k _ _ e)
 rintro a H6 c g ⟨rfl,k⟩;left;rw[qp]at c;calc bJ _ (aY.of c) ?_;have e:(List.replicate z.length true).all id=true:=by simp
 rw[e];clear e c g;left
 try simp only[Bool.not_true,Bool.false_eq_true,if_false]
 calc q _ (y.trans k)
abbrev Kr:Stmt:=(cm (top 74)).getD 0 (.Pass (0,0,0,0))
def Oh(a b c:V):List (Str×V):=bQ "own_letters" c (bQ "own_ways" b (bQ "own_machines" a []))
theorem X0{a b c:V}:(Oh a b c).lookup ("own_machines":Str)=some a:=by
 unfold Oh;rw[bz,if_neg ⋯,bz,if_neg ⋯,bz,if_pos rfl]
theorem X1{a b c:V}:(Oh a b c).lookup ("own_ways":Str)=some b:=by
 unfold Oh;rw[bz,if_neg ⋯,bz,if_pos rfl]
theorem ac1{a b c:V}:(Oh a b c).lookup ("own_letters":Str)=some c:=by
 unfold Oh;rw[bz,if_pos rfl]
theorem fc{a b c:V}{f:Str}(d:f≠"own_machines")(e:f≠"own_ways")(g:f≠"own_letters"):(Oh a b c).lookup f=none:=by
 unfold Oh;rw[bz,if_neg g,bz,if_neg e,bz,if_neg d];rfl
def nu(CN:Addr)(H:Hp)(x:Addr)(ms:List Addr)(wv d:List V):Prop:=∃e a b c,H x=some (.ins CN e (Oh (.ref a) (.ref b) (.ref c)))/\H a=some (.tup (ms.map V.ref))/\H b=some (.tup wv)/\H c=some (.tup d)
theorem nu.same{CN:Addr}{x:Addr}{d:List V}(s:au H H')(h:nu CN H x ms wv d):nu CN H' x ms wv d:=by
 let(d,a,b,c,e,f,g,i):=h;calc(d,a,b,c,s _ _ e,s _ _ f,s _ _ g,s _ _ i)
def Ak(C CN:Addr):Sp:=λvs H Q _=>∃(x c d e f:Addr) (ms:List Addr) (wv a:List V) (ws:List (Int×Int×Str)) (ls:List (Int×Int)),vs=[.ref x,.ref d,.ref e,.ref f]/\H x=some (.ins CN c [])/\H d=some (.lst (ms.map V.ref))/\H e=some (.lst wv)/\H f=some (.lst a)/\1<=ms.length/\ms.length<=5/\wv.length<=10/\a.length<=20/\(∀m∈ms,∃c g,H m=some (.ins C c g))/\fV H 1 wv (ws.map nk)/\fV H 1 a (ls.map qJ)/\(∀w∈ws,wY ms.length w)/\(∀l∈ls,wZ wv.length l)/\∀H',nu CN H' x ms wv a->(∀b o,b≠x->H b=some o->H' b=some o)->Q .bO H'
theorem X2(D:FW K mg "Net" CN "Net.__init__" Kr dt)(T:Tx K mg C CN CR F FD)(kG:Def P w K mg base "refuse_net" 4 ed (El C)):zz P w K mg base "Net" CN 7 dt (Ak C CN):=by
 exists dt;let(x,a,y,B,G,ms,wv,W,ws,ls,rfl,g,j,k,l,X,Y,Z,lW,XX,sF,Mx,Of,rM,q):=h;have hu:=hr.units;refine(_,(ai (bL (aM kG hr (ag (aq 1) (ag (aq 2) (ag (aq 3) aa)))))
  (ai (gb (aq 0) (dA bX rfl T.cn su (ag (aq 1) aa)) (gO rfl))
  (ai (gb (aq 0) (dA bX rfl T.cn su (ag (aq 2) aa)) (gO rfl))
  (ak (gb (aq 0) (dA bX rfl T.cn su (ag (aq 3) aa)) (gO rfl)))))),?_)
 try walk_at "rt"
 calc(y,B,G,ms,wv,W,ws,ls,rfl,j,k,l,X,Y,Z,lW,XX,sF,Mx,Of,rM,λH1 I=>?_);have W:=I _ _ g;have W:y≠x:=λz=>by subst z;rw[g]at j;cases j
 have X3:B≠x:=λz=>by subst z;rw[g]at k;cases k
 have To:G≠x:=λz=>by subst z;rw[g]at l;cases l
 try walk_at "rt"
 refine kg (.inl (I _ _ j)) λc H2 s2 J=>?_
 try walk_at "rt"
 have m:=I.trans s2;have Gs:=m _ _ g;calc(x,CN,a,[],rfl,Gs,T.cO,T.Ab,∅,?_);have L:c≠x:=λz=>by subst z;rw[Gs]at J;cases J
 have p:∀b o,b≠x->H2 b=some o->upd H2 x (.ins CN a (bQ "own_machines" (.ref c) [])) b=some o:=λb o d e=>by rw[az d];exact e
 have Hu:upd H2 x (.ins CN a (bQ "own_machines" (.ref c) [])) x=some (.ins CN a (bQ "own_machines" (.ref c) [])):=af;generalize Vq:upd H2 x (.ins CN a (bQ "own_machines" (.ref c) []))=G3 at *;have M:=p _ _ L J;have Gv:=p _ _ X3 (m _ _ k);have N:=p _ _ To (m _ _ l)
 try walk_at "rt"
 refine kg (.inl Gv) λi r t O=>?_
 try walk_at "rt"
 have Tp:=t _ _ Hu;calc F7 x CN a _ rfl Tp T.cO T.Ac (jA (n:=999) ∅) ?_;have n2:i≠x:=λz=>by subst z;rw[Tp]at O;cases O
 have u:∀b o,b≠x->r b=some o->upd r x (.ins CN a (bQ "own_ways" (.ref i) (bQ "own_machines" (.ref c) []))) b=some o:=λb o d e=>by rw[az d];exact e
 have Hv:upd r x (.ins CN a (bQ "own_ways" (.ref i) (bQ "own_machines" (.ref c) []))) x=some (.ins CN a (bQ "own_ways" (.ref i) (bQ "own_machines" (.ref c) []))):=af;generalize hG5:upd r x (.ins CN a (bQ "own_ways" (.ref i) (bQ "own_machines" (.ref c) [])))=G5 at *;have R:=u _ _ L (t _ _ M);have S:=u _ _ n2 O;have Gw:=u _ _ To (t _ _ N)
 try walk_at "rt"
 refine kg (.inl Gw) λt3 g v U=>?_
 try walk_at "rt"
 have X4:=v _ _ Hv;calc F7 x CN a _ rfl X4 T.cO T.Ce (jA (n:=999) (jA (n:=998) ∅)) ?_;have n3:t3≠x:=λz=>by subst z;rw[X4]at U;cases U
 refine q _ (a,c,i,t3,af,?_,?_,?_) λb o d e=>?_
 ·rw[az L];exact v _ _ R
 ·rw[az n2];exact v _ _ S
 ·rw[az n3];exact U
 ·rw[az d];calc v _ _ (u _ _ d (t _ _ (p _ _ d (m _ _ e))))
abbrev iJ:Stmt:=(cm (top 74)).getD 1 (.Pass (0,0,0,0))
def gn(CN:Addr):Sp:=λvs H Q _=>∃(x:Addr) (ms:List Addr) (wv a:List V),vs=[.ref x]/\nu CN H x ms wv a/\∀l,H l=none->Q (.ref l) (upd H l (.lst (ms.map V.ref)))
theorem uy(D:gY K CN "machines" "Net.machines" iJ cz)(T:Tx K mg C CN CR F FD):cf P w K mg base CN "machines" 1 cz (gn CN):=by
 exists cz;let(x,ms,wv,e,rfl,(g,a,b,i,c,d,j,k),q):=h;have e:=hr.units;calc(_,(ak (aG (dA cQ rfl T.ft Bd (ag (bH (aq 0) rfl) aa)))),?_);calc fld c T.cO T.Ab X0 ?_;right;calc(_,.inr (bP.of d),λl e=>q l e)
abbrev oh:Stmt:=(cm (top 74)).getD 2 (.Pass (0,0,0,0))
def lY(CN:Addr):Sp:=λvs H Q _=>∃(x:Addr) (ms:List Addr) (wv a:List V),vs=[.ref x]/\nu CN H x ms wv a/\∀l,H l=none->Q (.ref l) (upd H l (.lst wv))
theorem Cq(D:gY K CN "ways" "Net.ways" oh cz)(T:Tx K mg C CN CR F FD):cf P w K mg base CN "ways" 1 cz (lY CN):=by
 exists cz;let(x,ms,wv,e,rfl,(g,a,b,i,c,j,d,k),q):=h;have e:=hr.units;calc(_,(ak (aG (dA cQ rfl T.ft Bd (ag (bH (aq 0) rfl) aa)))),?_);calc fld c T.cO T.Ac X1 ?_;right;calc(_,.inr (bP.of d),λl e=>q l e)
abbrev jB:Stmt:=(cm (top 74)).getD 3 (.Pass (0,0,0,0))
def rO(CN:Addr):Sp:=λvs H Q _=>∃(x:Addr) (ms:List Addr) (wv a:List V),vs=[.ref x]/\nu CN H x ms wv a/\∀l,H l=none->Q (.ref l) (upd H l (.lst a))
theorem vI(D:gY K CN "letters" "Net.letters" jB cz)(T:Tx K mg C CN CR F FD):cf P w K mg base CN "letters" 1 cz (rO CN):=by
 exists cz;let(x,ms,wv,e,rfl,(g,a,b,i,c,j,k,d),q):=h;have e:=hr.units;calc(_,(ak (aG (dA cQ rfl T.ft Bd (ag (bH (aq 0) rfl) aa)))),?_);calc fld c T.cO T.Ce ac1 ?_;right;calc(_,.inr (bP.of d),λl e=>q l e)
theorem ac6{l:List Int}(h:l.length=1):∃a,l=[a]:=List.length_eq_one_iff.mp h
abbrev jC:Stmt:=top 46
inductive w6(K:W.Frag)(vs:List V)(H:Hp)(Q:VK):Prop
 |mk (x:_) (st:_) (way:_) (said:_) (v:_) (ns:_) (row:_) (n:_) (h0:vs=[x,st,.int way,.int said]) (h1:HT H n x (Val.dv v)) (h2:zH K H st ns row) (h3:v.ok ns.length) (h4:Q (.int (tX ns row way said v)) H):w6 K vs H Q
def Al(K:W.Frag):Sp:=λvs H Q _=>w6 K vs H Q
theorem vJ(D:cE K mg "plain_worth" "plain_worth" jC et)(T:Tx K mg C CN CR F FD):Def P w K mg base "plain_worth" 1 et (Al K):=by
 exists["value","state","way","said","word"];let(x,st,way,g,v,ns,row,n,rfl,k,y,o,q):=h;have b:=hr.units;refine(_,(ai (bf (i:=4) sc rfl Sort (ao b (aq 0) aj))
  (ai (aT (aC (aU b) (aq 4) aI (aJ _)) (ak (aG (ao b (aq 0) aj))) aH)
  (ai (aT (aC (aU b) (aq 4) aI (aJ _)) (ak (aG (ao b (ao b (aq 1) aj) (ao b (aq 0) aj)))) aH)
  (ai (aT (aC (aU b) (aq 4) aI (aJ _)) (ak (aG (aq 3))) aH)
  (ai (aT (aC (aU b) (aq 4) aI (aJ _)) (ak (aG (aq 2))) aH)
  (ak (aG (HK (aC tJ (bc aO rfl T.bS U' (ag (ao b (aq 1) aj) aa)) aj (aJ _)) (ao b (ao b (aq 1) aj) aj) aj)))))))),?_)
 let(a,L,M,rfl,t,I,B):=y
 cases v with
 |is z=>
  nofun;let(p,l,J,m,rfl,c,d,u):=dQ k;obtain rfl:=d.cV;obtain rfl:=u.cL;ac_rfl;walk_at "jd";refine dq _ _ (.inr (bP.of c)) rfl ?_;walk_at "jd"
  try rw[if_pos ⋯]
  calc(_,_,.inr (bP.of c),rfl,q)
 |number i=>
  nofun;let(p,l,J,m,rfl,c,d,u):=dQ k;obtain rfl:=d.cV;obtain rfl:=u.cL;let(j,rfl):=aaO o.1;ac_rfl;have G:j<ns.length:=by have:=o.2;lia
  walk_at "jd";refine dq _ _ (.inr (bP.of c)) rfl ?_;walk_at "jd"
  try rw[if_neg ⋯]
  left
  try rw[if_pos ⋯]
  calc(_,_,.inr (bP.of t),rfl,_,_,.inr (bP.of c),rfl,?_);calc(_,.int ns[j],I,aA (by rw[J',dH G];rfl),?_);have e:tX ns row way g (.number j)=ns[j]:=by
   show ns.getD (j:Int).toNat 0=ns[j];simp[List.getD_eq_getElem?_getD,dH G]
  rw[e]at q;calc q
 |nS=>
  nofun;let(p,l,m,rfl,c,d):=jy k;obtain rfl:=d.cV;ac_rfl;walk_at "jd";refine dq _ _ (.inr (bP.of c)) rfl ?_;walk_at "jd"
  try rw[if_neg ⋯]
  left
  try rw[if_neg ⋯]
  left
  try rw[if_pos ⋯]
  calc q
 |way=>
  nofun;let(p,l,m,rfl,c,d):=jy k;obtain rfl:=d.cV;ac_rfl;walk_at "jd";refine dq _ _ (.inr (bP.of c)) rfl ?_;walk_at "jd"
  try rw[if_neg ⋯]
  left
  try rw[if_neg ⋯]
  left
  try rw[if_neg ⋯]
  left
  try rw[if_pos ⋯]
  calc q
 |first=>
  nofun;let(p,l,m,rfl,c,d):=jy k;obtain rfl:=d.cV;ac_rfl;walk_at "jd";refine dq _ _ (.inr (bP.of c)) rfl ?_;walk_at "jd"
  try rw[if_neg ⋯]
  left
  try rw[if_neg ⋯]
  left
  try rw[if_neg ⋯]
  left
  try rw[if_neg ⋯]
  calc dq _ _ (.inr (bP.of t)) rfl ?_;refine bJ _ (B.elim (λz=>.inl (_,z,rfl)) (λz=>.inr (_,z,rfl))) ?_
  cases row with
  |nil=>
   left;rw[if_neg nofun];calc q
  |cons r b=>
   left;rw[if_pos nofun];calc(_,_,.inr (bP.of t),rfl,_,_,B,aA (j:=0) rfl,q)
abbrev oj:Stmt:=top 47
inductive xa(K:W.Frag)(vs:List V)(H:Hp)(Q:VK):Prop
 |mk (x:_) (st:_) (way:_) (said:_) (m:_) (v:_) (ns:_) (row:_) (n:_) (h0:vs=[x,st,.int way,.int said,.int m]) (h1:HT H n x (Val.dv v)) (h2:zH K H st ns row) (h3:v.ok ns.length) (h4:0<m) (h5:Q (.int (tX ns row way said v%m)) H):xa K vs H Q
def Am(K:W.Frag):Sp:=λvs H Q _=>xa K vs H Q
theorem Cr(D:cE K mg "worth_of" "worth_of" oj dh)(T:Tx K mg C CN CR F FD)(i:Def P w K mg base "plain_worth" 1 et (Al K)):Def P w K mg base "worth_of" 2 dh (Am K):=by
 exists dh;let(x,st,b,a,m,v,ns,row,n,rfl,c,d,e,g,q):=h;have j:=hr.units;refine(_,(ak (aG (aR cK (aM i hr (ag (aq 0) (ag (aq 1) (ag (aq 2) (ag (aq 3) aa))))) (aq 4)))),?_);walk_at "jd";exact(x,st,b,a,v,ns,row,n,rfl,c,d,e,g,q)
abbrev lZ:Stmt:=top 54
inductive VL(H:Hp)(n:Nat):List V->List Val->Prop
 |nil:VL H n [] []
 |cons {x v xs vs}:HT H n x (Val.dv v)->VL H n xs vs->VL H n (x::xs) (v::vs)
theorem VL.same{H H':Hp}{n:Nat}(s:ck H H'){xs:List V}{vs:List Val}(h:VL H n xs vs):VL H' n xs vs:=by
 induction h with
 |nil=>calc .nil
 |cons a _ b=>calc .cons (a.aL s) b
theorem VL.snoc{H:Hp}{n:Nat}{xs:List V}{vs:List Val}{x:V}{v:Val}(h:VL H n xs vs)(a:HT H n x v.dv):VL H n (xs++[x]) (vs++[v]):=by
 induction h with
 |nil=>calc .cons a .nil
 |cons a _ b=>calc .cons a b
theorem VL.len{H:Hp}{n:Nat}{xs:List V}{vs:List Val}(h:VL H n xs vs):xs.length=vs.length:=by
 induction h with
 |nil=>rfl
 |cons _ _ a=>simp[a]
inductive PL(H:Hp)(n:Nat):List V->List (Option Val)->Prop
 |nil:PL H n [] []
 |str {w xs os}:PL H n xs os->PL H n (.str w::xs) (none::os)
 |int {i xs os}:PL H n xs os->PL H n (.int i::xs) (none::os)
 |val {x v xs os}:HT H n x (Val.dv v)->PL H n xs os->PL H n (x::xs) (some v::os)
theorem PL.get{H:Hp}{n:Nat}{xs:List V}{b:List (Option Val)}(h:PL H n xs b):∀{i:Nat}{x:V},xs[i]?=some x->∃o,b[i]?=some o/\((o=none/\((∃w,x=.str w)\/∃j,x=.int j))\/∃v,o=some v/\HT H n x (Val.dv v)):=by
 induction h with
 |nil=>intro i x h;simp at h
 |str _ a=>
  intro i x h
  cases i with
  |zero=>cases h;calc(none,rfl,.inl (rfl,.inl (_,rfl)))
  |succ i=>calc a h
 |int _ a=>
  intro i x h
  cases i with
  |zero=>cases h;calc(none,rfl,.inl (rfl,.inr (_,rfl)))
  |succ i=>calc a h
 |val c _ a=>
  intro i x h
  cases i with
  |zero=>cases h;calc(some _,rfl,.inr (_,rfl,c))
  |succ i=>calc a h
theorem PL.len{H:Hp}{n:Nat}{xs:List V}{a:List (Option Val)}(h:PL H n xs a):xs.length=a.length:=by
 induction h with
 |nil=>rfl
 |str _ a=>simp[a]
 |int _ a=>simp[a]
 |val _ _ a=>simp[a]
theorem En{H:Hp}{n:Nat}{x:V}{d:bF}(h:HT H n x d.dv):∃a xs j b,x=.ref a/\H a=some (.tup xs)/\PL H b xs j/\j.filterMap id=d.vals/\xs.length<=4:=by
 cases d with
 |set i v=>
  nofun;let(a,k,l,m,b,rfl,c,e,f,g):=bV h;obtain rfl:=e.cV;obtain rfl:=f.cL;ac_rfl;calc(a,_,_,b,rfl,c,.str (.int (.val g .nil)),rfl,nofun)
 |add i v=>
  nofun;let(a,k,l,m,b,rfl,c,e,f,g):=bV h;obtain rfl:=e.cV;obtain rfl:=f.cL;ac_rfl;calc(a,_,_,b,rfl,c,.str (.int (.val g .nil)),rfl,nofun)
 |times i v=>
  nofun;let(a,k,l,m,b,rfl,c,e,f,g):=bV h;obtain rfl:=e.cV;obtain rfl:=f.cL;ac_rfl;calc(a,_,_,b,rfl,c,.str (.int (.val g .nil)),rfl,nofun)
 |put v=>
  nofun;let(a,k,l,b,rfl,c,e,f):=dQ h;obtain rfl:=e.cV;ac_rfl;calc(a,_,_,b,rfl,c,.str (.val f .nil),rfl,nofun)
 |drop=>
  nofun;let(a,k,b,rfl,c,e):=jy h;obtain rfl:=e.cV;ac_rfl;calc(a,_,_,b,rfl,c,.str (.nil),rfl,nofun)
 |send j v=>
  nofun;let(a,k,l,m,b,rfl,c,e,f,g):=bV h;obtain rfl:=e.cV;obtain rfl:=f.cL;ac_rfl;calc(a,_,_,b,rfl,c,.str (.int (.val g .nil)),rfl,nofun)
 |say v=>
  nofun;let(a,k,l,b,rfl,c,e,f):=dQ h;obtain rfl:=e.cV;ac_rfl;calc(a,_,_,b,rfl,c,.str (.val f .nil),rfl,nofun)
 |skip v i j=>
  nofun;let(a,k,l,m,p,b,rfl,c,e,f,g,o):=pN h;obtain rfl:=e.cV;obtain rfl:=o.cL;ac_rfl;calc(a,_,_,b,rfl,c,.str (.val f (.val g (.int .nil))),rfl,nofun)
inductive An(vs:List V)(H:Hp)(Q:VK):Prop
 |mk (x:_) (n:_) (d:_) (h0:vs=[x]) (h1:HT H n x (bF.dv d)) (h2:∀l zs k0 H',au H H'->H l=none->H' l=some (.lst zs)->VL H' k0 zs d.vals->Q (.ref l) H'):An vs H Q
def Eo:Sp:=λvs H Q _=>An vs H Q
theorem Ao(D:cE K mg "values_of" "values_of" lZ ["deed"])(T:Tx K mg C CN CR F FD):Def P w K mg base "values_of" 1 ["deed"] Eo:=by
 exists["deed"];let(x,n,d,rfl,I,q):=h;have hu:=hr.units;refine(_,(ak (aG (df (N':=["part"]) (ix:=[none]) (bZ (pv 0)) (λ_ _ _ _=>(ba (i:=0) (show(["part"]:List Str).Nodup by decide +kernel) rfl Sort)) (λ_ _ _ _=>(jm (bC (bc (wB (K:=K) rfl) rfl T.bg vZ (ag (aq 0) (ag (dD (v:=.ty "tuple") rfl T.cn su rfl) aa)))))) (λ_ _ _ _=>(aq 0))))),?_);let(a,k,u,L,rfl,p,M,U,T):=En I;left;refine bI ?_;left;refine .inr ((_,bP.of p),λD y=>?_);refine bq (J:=Wu K a) (n:=k.length) (λi ys H'=>au H H'/\VL H' L ys ((u.take i).filterMap id)) (M' (aE ())) (au.new _ y,.nil) ?_ ?_ ?_ ?_
 ·rintro i ys H' z ⟨g,_⟩;exact(k,k[i],bP.of (g _ _ p),dH z)
 ·rintro ys H' ⟨g,_⟩;exact(k,bP.of (g _ _ p),L' _)
 ·intro i ys H' z l N X x r Y;nofun;let(g,m):=X;let(rfl,n):=Y;have I:=n k (bP.of (g _ _ p));let(o,T,Z):=M.get I;ac_rfl;have O:u.take (i+1)=u.take i++[o]:=by
   rw[abc,T];rfl
  walk_at "xf";left;rcases Z with⟨rfl,hc⟩|⟨v,rfl,B⟩
  ·have G:∃t,gV K r x t/\W.kitOne K t (.type "tuple")=some false:=by
    rcases hc with⟨w,rfl⟩|⟨j,rfl⟩
    ·exact(_,.str w,rfl)
    ·exact(_,.int j,rfl)
   let(t,i,j):=G;refine dq t false i j ?_
   first|calc(false,rfl,?_)|skip
   left
   try rw[if_neg S']
   exact(ys,l,(),g,by rw[O];simpa using m)
  ·have R:=B.aL g.aQ;let(b,zs,rfl,i):=DW R;refine dq _ true (.tup i) rfl ?_
   first|calc(true,rfl,?_)|skip
   left
   try first|rw[if_pos rfl]|rw[if_pos trivial]
   calc bW l N z (M' (aE ())) (λc o e=>by rw[az (av e y)];calc g _ _ e,?_);rw[O,List.filterMap_append];have S:ck r (upd r D (.lst (ys++[.ref b]))):=(ck.refl r).upd λzs e=>by rw[l]at e;cases e
   exact(m.same S).snoc (R.aL S)
 ·rintro ys H' l N ⟨g,m⟩;rw[M.len,aaz,U]at m;calc q _ ys L _ g y l m
theorem yo{H:Hp}{n:Nat}{x:V}{d:bF}(f:HT H n x d.dv):∃a ps,x=.ref a/\H a=some (.tup (.str d.word::ps)):=by
  cases d with
  |drop=>
    let(g,h,i,b,c,e):=jy f;obtain rfl:=e.cV;calc(_,_,b,c)
  |skip v n o=>
    let(g,h,j,l,n,i,b,c,e,k,m,o):=pN f;obtain rfl:=e.cV;calc(_,_,b,c)
  |_=>
    first
    | (let(g,h,j,l,i,b,c,e,k,m):=bV f
       obtain rfl:=e.cV;calc(_,_,b,c))
    | (let(g,h,j,i,b,c,e,k):=dQ f
       obtain rfl:=e.cV;calc(_,_,b,c))
theorem Kv(e:d.word="put"):d.vals.length=1/\∀row x,pK row x d=if row.length<12 then row++[x] else row:=by
 cases d<;>first|calc absurd e (by simp only[bF.word];decide)|calc(rfl,λ_ _=>rfl)
theorem Gx(e:d.word="drop"):∀row x,pK row x d=row.tail:=by
 cases d<;>first|calc absurd e (by simp only[bF.word];decide)|calc λ_ _=>rfl
theorem Kw(e:¬d.word="put")(a:¬d.word="drop"):∀row x,pK row x d=row:=by
 cases d<;>first|calc λ_ _=>rfl|calc absurd rfl e|calc absurd rfl a
theorem Gy{n:Nat}(b:HT H n (.ref a) d.dv)(e:d.word="skip"):∃u v k,H a=some (.tup [.str "skip",u,v,.int k])/\d.vals.length=2/\∀x y,pL x y d=if x<y then k else 0:=by
 cases d<;>first|calc absurd e (by simp only[bF.word];decide)|skip
 let(i,j,k,l,m,n,c,f,g,o,p,h):=pN b;obtain rfl:=V.ref.inj c;obtain rfl:=g.cV;obtain rfl:=h.cL;calc(_,_,_,f,rfl,λ_ _=>rfl)
theorem Aq(e:¬d.word="skip"):∀x y,pL x y d=0:=by
 cases d<;>first|calc λ_ _=>rfl|calc absurd rfl e
theorem pV{n k:Nat}(h:k<n):BM n (k:Int)=some k:=by
 unfold BM;rw[if_pos (),if_pos ()];simp
theorem iK{ws:List Int}{j:Nat}(h:j<ws.length):jc (ws.map V.int) ((j:Nat):Int)=some (.int (ws.getD j 0)):=aA (by rw[J',a0 (d:=0) h];rfl)
theorem Ep{M:Int}{l:List Int}(h:∀z∈l,0<=z/\z<M){j:Nat}(a:j<l.length):0<=l.getD j 0/\l.getD j 0<M:=h _ (DD.getD_mem a)
def uz(M:Int)(ns row:List Int)(x y:Int)(d:bF):List Int×List Int×List (Int×Int)×List Int×Int:=((ke M ns x d),pK row x d,iC x d,gs x d,pL x y d)
inductive X5(H:Hp)(a:Addr)(m:Int)(d:bF):Prop
 |set (j:Nat) (u:V) (hj:(j:Int)<m) (h:H a=some (.tup [.str "set",.int j,u])) (hl:d.vals.length=1) (e:∀M ns row x y,uz M ns row x y d=((ns.set j x),row,[],[],0))
 |add (j:Nat) (u:V) (hj:(j:Int)<m) (h:H a=some (.tup [.str "add",.int j,u])) (hl:d.vals.length=1) (e:∀M ns row x y,uz M ns row x y d=((ns.set j ((ns.getD j 0+x)%M)),row,[],[],0))
 |times (j:Nat) (u:V) (hj:(j:Int)<m) (h:H a=some (.tup [.str "times",.int j,u])) (hl:d.vals.length=1) (e:∀M ns row x y,uz M ns row x y d=((ns.set j ((ns.getD j 0*x)%M)),row,[],[],0))
 |put (u:V) (h:H a=some (.tup [.str "put",u])) (hl:d.vals.length=1) (e:∀M ns row x y,uz M ns row x y d=((ns),if row.length<12 then row++[x] else row,[],[],0))
 |drop (h:H a=some (.tup [.str "drop"])) (e:∀M ns row x y,uz M ns row x y d=((ns),row.tail,[],[],0))
 |send (j:Int) (u:V) (h:H a=some (.tup [.str "send",.int j,u])) (hl:d.vals.length=1) (e:∀M ns row x y,uz M ns row x y d=((ns),row,[((j),x)],[],0))
 |say (u:V) (h:H a=some (.tup [.str "say",u])) (hl:d.vals.length=1) (e:∀M ns row x y,uz M ns row x y d=((ns),row,[],[x],0))
 |skip (u v:V) (k:Nat) (h:H a=some (.tup [.str "skip",u,v,.int k])) (hl:d.vals.length=2) (e:∀M ns row x y,uz M ns row x y d=((ns),row,[],[],if x<y then(k:Int) else 0))
theorem xc{H:Hp}{n:Nat}{a:Addr}{d:bF}{m:Int}(k:HT H n (.ref a) d.dv)(l:d.ok m):X5 H a m d:=by
 cases d with
 |set i v=>
  let(o,p,g,h,q,b,c,e,f,s):=bV k;obtain rfl:=V.ref.inj b;obtain rfl:=e.cV;obtain rfl:=f.cL;let(r,rfl):=aaO l.1;calc .set r h l.2.1 c rfl λ_ _ _ _ _=>rfl
 |add i v=>
  let(o,p,g,h,q,b,c,e,f,s):=bV k;obtain rfl:=V.ref.inj b;obtain rfl:=e.cV;obtain rfl:=f.cL;let(r,rfl):=aaO l.1;calc .add r h l.2.1 c rfl λ_ _ _ _ _=>rfl
 |times i v=>
  let(o,p,g,h,q,b,c,e,f,s):=bV k;obtain rfl:=V.ref.inj b;obtain rfl:=e.cV;obtain rfl:=f.cL;let(r,rfl):=aaO l.1;calc .times r h l.2.1 c rfl λ_ _ _ _ _=>rfl
 |put v=>
  let(o,p,g,q,b,c,e,f):=dQ k;obtain rfl:=V.ref.inj b;obtain rfl:=e.cV;calc .put g c rfl λ_ _ _ _ _=>rfl
 |drop=>
  let(o,p,q,b,c,e):=jy k;obtain rfl:=V.ref.inj b;obtain rfl:=e.cV;calc .drop c λ_ _ _ _ _=>rfl
 |send j v=>
  let(o,p,g,h,q,b,c,e,f,s):=bV k;obtain rfl:=V.ref.inj b;obtain rfl:=e.cV;obtain rfl:=f.cL;calc .send j h c rfl λ_ _ _ _ _=>rfl
 |say v=>
  let(o,p,g,q,b,c,e,f):=dQ k;obtain rfl:=V.ref.inj b;obtain rfl:=e.cV;calc .say g c rfl λ_ _ _ _ _=>rfl
 |skip v i j=>
  let(o,p,g,h,i,q,b,c,e,f,s,t):=pN k;obtain rfl:=V.ref.inj b;obtain rfl:=e.cV;obtain rfl:=t.cL;let(r,rfl):=aaO (Int.le_trans ∅ l.2.2.1);calc .skip g h r c rfl λ_ _ _ _ _=>rfl
abbrev gz:Stmt:=top 62
inductive Er(vs:List V)(H:Hp)(Q:VK):Prop
 |mk (an:Addr) (x:V) (l:Addr) (ns ws:List Int) (M:Int) (n:Nat) (d:bF) (h0:vs=[.ref an,x,.ref l,.int M]) (h1:H an=some (.lst (ns.map V.int))) (h2:HT H n x d.dv) (h3:H l=some (.lst (ws.map V.int))) (h4:ws.length=d.vals.length) (h5:d.ok ns.length) (h6:0<M) (h7:M<=1000000000000) (h8:(∀z∈ns,0<=z/\z<M)) (h9:∀H',H' an=some (.lst ((ke M ns (ws.getD 0 0) d).map V.int))->(∀b o,b≠an->H b=some o->H' b=some o)->Q .bO H'):Er vs H Q
def Kx:Sp:=λvs H Q _=>Er vs H Q
theorem qK(D:cE K mg "change_numbers" "change_numbers" gz dn)(T:Tx K mg C CN CR F FD):Def P w K mg base "change_numbers" 1 dn Kx:=by
 exists dn;let(o,x,l,ns,ws,M,n,d,rfl,p,v,y,R,z,B,S,G,q):=h;have g:=hr.units;calc(_,(ak (aT (aC (aU g) (ao g (aq 1) aj) aI (aJ _)) (ak (fA (ao g (aq 2) aj) (jx (aq 0) (ao g (aq 1) aj) eN))) (ak (aT (aC (aU g) (ao g (aq 1) aj) aI (aJ _)) (ak (fA (aR cK (aR cp (ao g (aq 0) (ao g (aq 1) aj)) (ao g (aq 2) aj)) (aq 3)) (jx (aq 0) (ao g (aq 1) aj) eN))) (ak (aT (aC (aU g) (ao g (aq 1) aj) aI (aJ _)) (ak (fA (aR cK (aR mY (ao g (aq 0) (ao g (aq 1) aj)) (ao g (aq 2) aj)) (aq 3)) (jx (aq 0) (ao g (aq 1) aj) eN))) aH)))))),?_);nofun;let(a,ps,rfl,i):=yo v;have U:=xc v z;have I:∀c:Nat,((c:Nat):Int) < ns.length->BM (ns.map V.int).length ((c:Nat):Int)=some c/\jc (ns.map V.int) ((c:Nat):Int)=some (.int (ns.getD c 0))/\0<=ns.getD c 0/\ns.getD c 0 < M:=λc k=>(pV (by rw[T'];lia),iK (),Ep G ())
 have J:∀c y,ke M ns (ws.getD 0 0) d=ns.set c y->Q .bO (upd H o (.lst ((ns.map V.int).set c (.int y)))):=λc y E=>q _ (by rw[af,E,List.map_set]) λb o g e=>by rw[az g];exact e
 have r:ke M ns (ws.getD 0 0) d=ns->Q .bO H:=λE=>q H (by rw[E];calc p) λ_ _ _ e=>e;calc hZ ?_;clear hZ gZ v z i G q
 cases U with
 |set c u k i m E=>
  have L:=iK (ws:=ws) (j:=0) ();let(t,N,O):=I c k;walk_at "jg";exact dq _ c p t (J _ _ (congrArg Prod.fst (E M ns [] (ws.getD 0 0) 0)))
 |add c u k i m E=>
  have L:=iK (ws:=ws) (j:=0) ();let(t,N,O):=I c k;walk_at "jg";refine(B,?_);walk_at "jg";exact dq _ c p t (J _ _ (congrArg Prod.fst (E M ns [] (ws.getD 0 0) 0)))
 |times c u k i m E=>
  have L:=iK (ws:=ws) (j:=0) ();let(t,N,O):=I c k;walk_at "jg";refine je (.inl ((),())) B ?_;walk_at "jg";exact dq _ c p t (J _ _ (congrArg Prod.fst (E M ns [] (ws.getD 0 0) 0)))
 |put u i m E=>walk_at "jg";exact r (congrArg Prod.fst (E M ns [] (ws.getD 0 0) 0))
 |drop i E=>walk_at "jg";exact r (congrArg Prod.fst (E M ns [] (ws.getD 0 0) 0))
 |send j u i m E=>walk_at "jg";exact r (congrArg Prod.fst (E M ns [] (ws.getD 0 0) 0))
 |say u i m E=>walk_at "jg";exact r (congrArg Prod.fst (E M ns [] (ws.getD 0 0) 0))
 |skip u v k i m E=>walk_at "jg";exact r (congrArg Prod.fst (E M ns [] (ws.getD 0 0) 0))
abbrev kH:Stmt:=top 63
inductive Et(vs:List V)(H:Hp)(Q:VK):Prop
 |mk (an:Addr) (x:V) (l:Addr) (row ws:List Int) (n:Nat) (d:bF) (h0:vs=[.ref an,x,.ref l]) (h1:H an=some (.lst (row.map V.int))) (h2:HT H n x d.dv) (h3:H l=some (.lst (ws.map V.int))) (h4:ws.length=d.vals.length) (h5:row.length<=12) (h6:∀H',H' an=some (.lst ((pK row (ws.getD 0 0) d).map V.int))->(∀b o,b≠an->H b=some o->H' b=some o)->Q .bO H'):Et vs H Q
def Ky:Sp:=λvs H Q _=>Et vs H Q
theorem yp(D:cE K mg "change_row" "change_row" kH fh)(T:Tx K mg C CN CR F FD):Def P w K mg base "change_row" 1 fh Ky:=by
 exists fh;let(G,x,l,row,ws,n,d,rfl,c,u,I,B,g,q):=h;have i:=hr.units;calc(_,(ak (aT (PW.pt (pw_and (aC (aU i) (ao i (aq 1) aj) aI (aJ _)) (pw_and1 (aC gX (bc aO rfl T.bS U' (ag (aq 0) aa)) (gh T.fO rfl) (aJ _))))) (ak (bL (dO qb sm sr cw (aq 0) (ag (ao i (aq 2) aj) aa)))) (ak (aT (PW.pt (pw_and (aC (aU i) (ao i (aq 1) aj) aI (aJ _)) (pw_and1 (aC tJ (bc aO rfl T.bS U' (ag (aq 0) aa)) aj (aJ _))))) (ak (NG (aq 0) aj)) aH)))),?_);let(a,ps,rfl,t):=yo u;by_cases k:d.word="put"
 ·let(g,v):=Kv k;rw[k] at t;have g:=iK (ws:=ws) (j:=0) ();rw[v] at q;walk_at "jg";refine bJ _ (.inl (_,aY.of c,rfl)) ?_;rw[T'];by_cases m:row.length < 12
  ·rw[if_pos m]at q;left;rw[if_pos (by simp;lia)];walk_at "jg";refine(.inl (rfl,_,aY.of c),?_);walk_at "jg";refine iE _ c (aa5 (by simp;lia) (aE (n:=100) ())) ?_;exact q _ (by rw[af,W'];rfl) λb o y e=>by rw[az y];exact e
  ·rw[if_neg m]at q;left;rw[if_neg (by simp;lia)];walk_at "jg";exact q H c λ_ _ _ e=>e
 by_cases p:d.word="drop"
 ·rw[p] at t;rw[Gx p] at q;walk_at "jg";refine bJ _ (.inl (_,aY.of c,rfl)) ?_;clear k p u B
  cases row with
  |nil=>
   left
   try rw[if_neg nofun]
   calc q H c λ_ _ _ e=>e
  |cons r g=>
   left;rw[if_pos nofun];walk_at "jg";refine acK _ _ _ 0 rfl rfl c ∅ ∅ (by simp[seqIndex?]) ?_;exact q _ af λb o y e=>by rw[az y];exact e
 ·rw[Kw k p]at q;left;calc eF t (aA (j:=0) rfl) ?_;left;rw[if_neg λz=>k (aaM z)];left;calc eF t (aA (j:=0) rfl) ?_;left;rw[if_neg λz=>p (aaM z)];left;calc q H c λ_ _ _ e=>e
abbrev om:Stmt:=top 64
inductive Ar(vs:List V)(H:Hp)(Q:VK):Prop
 |mk (x:V) (l:Addr) (ws:List Int) (n:Nat) (d:bF) (h0:vs=[x,.ref l]) (h1:HT H n x d.dv) (h2:H l=some (.lst (ws.map V.int))) (h3:ws.length=d.vals.length) (h4:Q (.int (pL (ws.getD 0 0) (ws.getD 1 0) d)) H):Ar vs H Q
def Eu:Sp:=λvs H Q _=>Ar vs H Q
theorem Ct(D:cE K mg "left_out" "left_out" om g8)(T:Tx K mg C CN CR F FD):Def P w K mg base "left_out" 1 g8 Eu:=by
 exists g8;let(x,l,ws,n,d,rfl,c,b,i,q):=h;have b:=hr.units;refine(_,(ai (aT (PW.pt (pw_and (aC (aU b) (ao b (aq 0) aj) aI (aJ _)) (pw_and1 (aC gX (ao b (aq 1) aj) (ao b (aq 1) aj) (aJ _))))) (ak (aG (ao b (aq 0) aj))) aH)
  (ak (aG aj))),?_)
 let(a,ps,rfl,k):=yo c;by_cases e:d.word="skip"
 ·let(u,v,b,k,l,m):=Gy c e;rw[m] at q;have b:=iK (ws:=ws) (j:=0) ();have b:=iK (ws:=ws) (j:=1) ();clear c i m e;walk_at "jg";by_cases g:ws.getD 0 0 < ws.getD 1 0
  ·rw[if_pos g]at q;left;rw[if_pos (aal g)];walk_at "jg";exact q
  ·rw[if_neg g]at q;left;rw[if_neg λz=>g (aaM z)];left;exact q
 ·rw[Aq e]at q;left;calc eF k (aA (j:=0) rfl) ?_;left;rw[if_neg λz=>e (aaM z)];left;calc q
theorem Kz{d:TT}{f:TS}{D:Ends}(e:St->Hp->Prop)(μ:St->Nat)(h:e σ H)
  (i:∀σ H,e σ H->d σ H λb H1=>if b=true then ∃N:St->Hp->Prop,(∀a H',N a H'->e a H'/\μ a<μ σ)/\f {D with nx:=N,ct:=N,bk:=D.nx} σ H1 else D.nx σ H1)
  (c:∀σ H (Q g:Bool->Hp->Prop),(∀b H1,Q b H1->g b H1)->d σ H Q->d σ H g):xG d f D σ H:=by
 calc(λm σ H=>m=μ σ/\e σ H,(_,rfl,h),?_);rintro m σ H ⟨rfl,p⟩;refine c σ H _ _ (λb H1 q=>?_) (i σ H p)
 cases b with
 |true=>
  let(N,c,d):=q;calc(N,λa H' n=>(_,(c a H' n).2,rfl,(c a H' n).1),d)
 |false=>calc q
def SL(H:Hp)(a:List V)(ps:List (Int×Int)):Prop:=a.length=ps.length/\∀(i:Nat) z p,a[i]?=some z->ps[i]?=some p->HT H 1 z (.tup [.int p.1,.int p.2])
theorem SL.aL(s:ck H H'){a:List V}{ps:List (Int×Int)}(h:SL H a ps):SL H' a ps:=(h.1,λi z p a b=>(h.2 i z p a b).aL s)
theorem SL.snoc{c:List V}{j w:Int}(h:SL H c ps)(f:HT H 1 z (.tup [.int j,.int w])):SL H (c++[z]) (ps++[((j),w)]):=by
 calc(by simp[h.1],λi g p a b=>?_);by_cases d:i<c.length
 ·rw[aad d]at a;rw[aad (by rw[<-h.1];calc d)]at b;exact h.2 i g p a b
 ·rw[X' ()] at a;rw[X' (by rw[<-h.1];lia)] at b;rw[h.1] at a
  cases e:i-ps.length with
  |zero=>rw[e]at a b;cases a;cases b;calc f
  |succ k=>rw[e]at a;simp at a
structure Res(H H':Hp)(x:V)(s:WS):Prop where
 ex:∃p st l1 l2 zs,x=.ref p/\H' p=some (.tup [st,.ref l1,.ref l2])/\HT H' 2 st (zF s.ns s.row)/\H' l1=some (.lst zs)/\SL H' zs s.cU/\H' l2=some (.lst (s.words.map V.int))/\H l1=none/\H l2=none/\l1≠l2
theorem Ew{M w:Int}(e:0<M)(b:∀z∈ns,0<=z/\z<M)(f:0<=w/\w<M):∀z∈ke M ns w d,0<=z/\z<M:=by
 have a:∀(j:Nat) (y:Int),(0<=y/\y<M)->∀z∈ns.set j y,0<=z/\z<M:=λj y g z i=>by
  rcases List.mem_or_eq_of_mem_set i with h|h
  ·exact b z h
  ·rw[h];exact g
 have c:∀y:Int,0<=y%M/\y%M<M:=λy=>(aaK _ (),aaL _ e)
 cases d with
 |set i v=>calc a _ _ f
 |add i v=>calc a _ _ (c _)
 |times i v=>calc a _ _ (c _)
 |_=>calc b
theorem KA{w:Int}{row:List Int}{d:bF}(h:row.length<=12):(pK row w d).length<=12:=by
 cases d with
 |put v=>
  show(if row.length<12 then row++[w] else row).length<=12;split
  ·simp;lia
  ·calc h
 |drop=>show row.tail.length<=12;simp;lia
 |_=>calc h
theorem KC{m w w':Int}{d:bF}(h:d.ok m):0<=pL w w' d:=by
 cases d with
 |skip v u k=>
  show 0<=(if w<w' then k else 0)
  split
  ·exact Int.le_trans ∅ h.2.2.1
  ·calc Int.le_refl _
 |_=>calc Int.le_refl _
theorem pW{m:Int}(h:d.ok m):∀v∈d.vals,v.ok m:=by
 intro v a
 cases d<;>simp only[bF.vals,List.mem_cons,List.not_mem_nil,or_false]at a
 case set=>subst a;exact h.2.2
 case add=>subst a;exact h.2.2
 case times=>subst a;exact h.2.2
 case put=>subst a;exact h
 case send=>subst a;exact h.2
 case say=>subst a;exact h
 case skip=>rcases a with rfl|rfl;calc h.1;calc h.2.1
theorem VL.get{H:Hp}{n:Nat}{xs:List V}{vs:List Val}(h:VL H n xs vs):∀{i:Nat}{x:V},xs[i]?=some x->∃v,vs[i]?=some v/\HT H n x (Val.dv v):=by
 induction h with
 |nil=>intro i x h;simp at h
 |cons a _ b=>
  intro i x h
  cases i with
  |zero=>cases h;calc(_,rfl,a)
  |succ i=>calc b h
theorem As:d.vals.length<=2:=by cases d<;>simp[bF.vals]
theorem xf{M way said:Int}{ns row:List Int}{vs:List Val}{i:Nat}(a:0<M):0<=(vs.map (gi M way said ns row)).getD i 0/\(vs.map (gi M way said ns row)).getD i 0<M:=by
 rw[aah,J']
 cases vs[i]? with
 |none=>calc(Int.le_refl _,a)
 |some v=>calc(aaK _ (),aaL _ a)
theorem sk1{a:Nat}{k:Int}(h:0<=k):(a:Int)+(1+k)=((a+1+k.toNat:Nat):Int):=by lia
theorem sk2{α:Type}{x:α}{xs:List α}{a k f:Nat}(h:(x::xs.drop (a+1)).length<=f+1):(xs.drop (a+1+k)).length<=f:=by
 rw[List.length_drop];rw[aaS,List.length_drop]at h;lia
theorem sk3{n a:Nat}{k:Int}(b:a<n)(h:0<=k):n-((a:Int)+(1+k)).toNat<n-a:=by lia
theorem Oi{n:Nat}{w:Int}(h:HT H n (.ref a) d.dv)(e:d.word="send"):∃j u,H a=some (.tup [.str "send",.int j,u])/\iC w d=[((j),w)]/\gs w d=[]/\d.vals.length=1:=by
 cases d<;>first|calc absurd e (by simp only[bF.word];decide)|skip
 let(g,i,j,k,l,z,b,c,f,m):=bV h;obtain rfl:=L2.V.ref.inj z;obtain rfl:=f.cL;obtain rfl:=c.cV;calc(_,_,b,rfl,rfl,rfl)
theorem Tq{w:Int}(e:d.word="say"):gs w d=[w]/\d.vals.length=1:=by
 cases d<;>first|calc absurd e (by simp only[bF.word];decide)|calc(rfl,rfl)
theorem Au{w:Int}:(iC w d).length<=1/\(gs w d).length<=1:=by cases d<;>simp[iC,gs]
theorem Oj{w:Int}(e:¬d.word="send"):iC w d=[]:=by cases d<;>first|rfl|exact absurd rfl e
theorem KD{w:Int}(e:¬d.word="say"):gs w d=[]:=by cases d<;>first|rfl|exact absurd rfl e
theorem Av{l:List Int}(h:0<l.length):l[0]?=some (l.getD 0 0):=by
 cases l with
 |nil=>simp at h
 |cons a r=>rfl
abbrev gA:Stmt:=(cm (top 65)).getD 4 (.Pass (0,0,0,0))
def muW(n:Nat)(σ:St):Nat:=match σ[8]? with
 |some (some (V.int i))=>n-i.toNat
 |_=>0
inductive uA(K:W.Frag)(C:Addr)(vs:List V)(H:Hp)(Q:VK):Prop
 |mk (m:Addr) (st:V) (way said M:Int) (ns0 F3:List Int) (ds:List bF) (ns row:List Int) (h0:vs=[.ref m,st,.int way,.int said]) (h1:kE C H m M ns0 F3 ds) (h2:zH K H st ns row) (h3:2<=M) (h4:M<=1000000000000) (h5:(∀z∈ns,0<=z/\z<M)) (h6:row.length<=12) (h7:ds.length<=24) (h8:(∀d∈ds,d.ok ns.length)) (h9:∀x H',au H H'->Res H H' x (pM M way said ds ns row)->Q x H'):uA K C vs H Q
def xg(K:W.Frag)(C:Addr):Sp:=λvs H Q _=>uA K C vs H Q
inductive Tr(H:Hp)(m:Addr)(st:V)(way said M:Int)(ds:List bF)(ns row:List Int)(σ:St)(H':Hp):Prop
 |mk (an ar il aw:Addr) (zs:List V) (z9 Ts:Option V) (at_:Nat) (s:WS) (f:Nat) (h0:σ=[some (.ref m),some st,some (.int way),some (.int said),some (.ref an),some (.ref ar),some (.ref il),some (.ref aw),some (.int at_),z9,Ts]) (h1:au H H') (h2:H an=none) (h3:H ar=none) (h4:H il=none) (h5:H aw=none) (h6:an≠ar) (h7:an≠il) (h8:an≠aw) (h9:ar≠il) (Vs:ar≠aw) (h11:il≠aw) (h12:H' an=some (.lst (s.ns.map V.int))) (h13:H' ar=some (.lst (s.row.map V.int))) (h14:H' il=some (.lst zs)) (h15:SL H' zs s.cU) (h16:H' aw=some (.lst (s.words.map V.int))) (h17:s.ns.length=ns.length) (h18:(∀z∈s.ns,0<=z/\z<M)) (h19:s.row.length<=12) (h20:s.cU.length<=at_) (h21:s.words.length<=at_) (h22:zG M way said f (ds.drop at_) s=pM M way said ds ns row) (h23:(ds.drop at_).length<=f):Tr H m st way said M ds ns row σ H'
theorem qL(D:gY K C "worked" "Machine.worked" gA eH)(T:Tx K mg C CN CR F FD)(gB:Def P w K mg base "change_numbers" 1 dn Kx)(kI:Def P w K mg base "change_row" 1 fh Ky)(oo:Def P w K mg base "left_out" 1 g8 Eu)(l9:Def P w K mg base "values_of" 1 ["deed"] Eo)(oq:Def P w K mg base "worth_of" 2 dh (Am K)):cf P w K mg base C "worked" 3 eH (xg K C):=by
  exists["self","state","way","said","numbers","row","sent","words","at","deed","worths"];let(m,st,k,c,M,ns0,F3,t,ns,row,rfl,hm,pf,Gq,qG,hb,pU,Qh,aW,q):=h;have O:=hr.units;refine(_,(ai (bf (i:=4) sc rfl Sort (dA cQ rfl T.ft Bd (ag (ao O (aq 1) aj) aa)))
    (ai (bf (i:=5) sc rfl Sort (dA cQ rfl T.ft Bd (ag (ao O (aq 1) aj) aa)))
    (ai (bf (i:=6) sc rfl Sort (bE aa))
    (ai (bf (i:=7) sc rfl Sort (bE aa))
    (ai (bf (i:=8) sc rfl Sort aj)
    (ai (HQ PassesOwn.never (Dq gX (pv 8) (bc aO rfl T.bS U' (ag (bH (pv 0) rfl) aa)) (aJ _))
    (ai (bf (i:=9) sc rfl Sort (ao O (bH (aq 0) rfl) (aq 8)))
    (ai (gc (i:=10) sc rfl Sort (N':=["value","way","said","numbers","row","self"]) (ix:=[none,some 2,some 3,some 4,some 5,some 0]) (bZ (aM l9 hr (ag (aq 9) aa))) (λ_ _ _ _=>(ba (i:=0) (show(["value","way","said","numbers","row","self"]:List Str).Nodup by decide +kernel) rfl Sort)) nL (λ_ _ _ _=>(aM oq hr (ag (aq 0) (ag (bu (ag (aq 3) (ag (aq 4) aa))) (ag (aq 1) (ag (aq 2) (ag (NJ (K:=K) rfl (aq 5) rfl) aa))))))))
    (ai (bL (aM gB hr (ag (aq 4) (ag (aq 9) (ag (aq 10) (ag (bH (aq 0) rfl) aa))))))
    (ai (bL (aM kI hr (ag (aq 5) (ag (aq 9) (ag (aq 10) aa)))))
    (ai (aT (aC (aU O) (ao O (aq 9) aj) aI (aJ _)) (ak (bL (dO qb sm sr cw (aq 6) (ag (bu (ag (ao O (aq 9) aj) (ag (ao O (aq 10) aj) aa))) aa)))) (ak (aT (aC (aU O) (ao O (aq 9) aj) aI (aJ _)) (ak (bL (dO qb sm sr cw (aq 7) (ag (ao O (aq 10) aj) aa)))) aH)))
    (ak (Rx (i:=8) sc rfl Sort (aR cp aj (aM oo hr (ag (aq 9) (ag (aq 10) aa)))) Ry))))))))
    (ak (aG (bu (ag (bu (ag (dA bX rfl T.cn su (ag (aq 4) aa)) (ag (dA bX rfl T.cn su (ag (aq 5) aa)) aa))) (ag (aq 6) (ag (aq 7) aa)))))))))))),?_)
  nofun;let(dx,stm,dd,Kq,hm2,hm3):=hm;let(ad,xs,rfl,X6,vH):=XW hm3;let(sa,sb,X7,rfl,X8,hsb,hsc):=pf;ac_rfl;left;calc dq _ _ (.inr (bP.of X8)) rfl ?_;left;calc bJ _ hsb (λB Tt=>?_);have Z:=au.new (.lst (ns.map V.int)) Tt;left;calc dq _ _ (.inr (bP.of (Z _ _ X8))) rfl ?_;left;have Tu:aY K (upd H B (.lst (ns.map V.int))) X7 (row.map V.int)\/bP K (upd H B (.lst (ns.map V.int))) X7 (row.map V.int):=hsc.elim (λz=>.inl (Z.seq z)) (λz=>.inr (Z.Vk z));calc bJ _ Tu (λI Cc=>?_);have R:=au.new (.lst (row.map V.int)) Cc;left;calc(aap _,λu qM=>?_);have r:=au.new (.lst []) qM;left;calc(aap _,λG Y=>?_);have W:=au.new (.lst []) Y;left;have nra:I≠B:=λz=>by subst z;rw[af]at Cc;cases Cc
  have hrH:H I=none:=Z.free Cc;have hsH:H u=none:=(Z.trans R).free qM;have hwH:H G=none:=(Z.trans (R.trans r)).free Y;have nsa:u≠B:=λz=>by subst z;rw[R _ _ af]at qM;cases qM
  have nsr:u≠I:=λz=>by subst z;rw[af]at qM;cases qM
  have nwa:G≠B:=λz=>by subst z;rw[r _ _ (R _ _ af)]at Y;cases Y
  have nwr:G≠I:=λz=>by subst z;rw[r _ _ af]at Y;cases Y
  have nws:G≠u:=λz=>by subst z;rw[af]at Y;cases Y
  have Cu:=Z.trans (R.trans (r.trans W));have Mz:0<M:=by lia
  refine Kz (Tr H m (.ref sa) k c M t ns row) (muW t.length) ?_ ?_ ?_
  · refine(B,I,u,G,[],none,none,0,(ns,row,[],[]),t.length,rfl,Cu,Tt,hrH,hsH,hwH,Ne.symm nra,Ne.symm nsa,Ne.symm nwa,Ne.symm nsr,Ne.symm nwr,Ne.symm nws,W _ _ (r _ _ (R _ _ af)),W _ _ (r _ _ af),W _ _ af,(rfl,λi z p e=>by simp at e),af,rfl,hb,pU,L' _,L' _,rfl,L' _)
  · intro σ H1 jf;let(B,I,u,G,zs,z9,Ts,g,s,f,rfl,sH,a1,a2,a3,a4,n1,n2,n3,n4,n5,n6,e1,e2,e3,KG,e5,MA,Cw,Aw,MB,hwn,S,Qj):=jf;have Ol:=sH _ _ Kq;have X9:=sH _ _ X6;have adp:=vH.aL sH.aQ;left;calc fH Ol T.cR T.Qe XU ?_;left;calc bJ _ (.inr (_,bP.of X9,rfl)) ?_;by_cases ik:g < t.length
    · have Vt:g < xs.length:=by rw[vH.1];exact ik
      left;rw[if_pos (by simpa using Vt)];calc(λσ' H'=>Tr H m (.ref sa) k c M t ns row σ' H'/\muW t.length σ'<t.length-g,λσ' H' h=>h,?_);have ph:=aW t[g] (aax ik);have hx:=adp.2 g xs[g] t[g] (dH Vt) (dH ik);have Vu:t.drop g=t[g]::t.drop (g+1):=List.drop_eq_getElem_cons ik;nofun;generalize hdd:t[g]=d at ph hx Vu;generalize hxx:xs[g]=x at hx;have exx:xs[g]?=some x:=by rw[dH Vt,hxx]
      obtain⟨f',rfl⟩:∃f',f=f'+1:=(f-1,by rw[Vu]at Qj;simp at Qj;lia)
      rw[Vu]at S Qj
      replace S:zG M k c f' ((t.drop (g+1)).drop (nK M k c d s).toNat) (lg M k c d s)=pM M k c t ns row:=S
      ac_rfl;rw[List.drop_drop]at S;left;calc fH Ol T.cR T.Qe XU ?_;left;calc dq _ x (.inr (bP.of X9)) (aA exx) ?_;left;calc bI ?_;left;calc(x,3,d,rfl,hx,λl zv k0 H2 R Tv hl J7=>?_);calc .inl ((_,aY.of hl),λD hD=>?_);have MC:=J7.len;have Nh:=As (d:=d);refine bq (J:=v9 K l) (n:=zv.length) (λi ys H'=>ys=((d.vals.take i).map (gi M k c s.ns s.row)).map V.int/\au H2 H') (M' (aE ())) (rfl,au.new _ hD) ?_ ?_ ?_ ?_
      · rintro i ys H' hi ⟨_,r⟩;exact(_,zv[i],aY.of (r _ _ hl),dH hi)
      · rintro ys H' ⟨_,r⟩;exact(_,aY.of (r _ _ hl),L' _)
      · intro i ys H3 hi bA rY jh y H4 qE;nofun;let(rfl,r):=jh;let(rfl,hy):=qE;have ey:=hy _ (aY.of (r _ _ hl));let(v,ev,hv):=J7.get ey;ac_rfl;have jE:=pW ph v (aao ev);walk_at "xf";left;rw[if_pos trivial];refine(cy,λp hp=>?_);have W:=au.new (.tup [.ref B,.ref I]) hp;have ME:=R.trans (r.trans W);refine fH (ME _ _ Ol) T.cR T.Qd XT ?_;refine(y,.ref p,k,c,M,v,s.ns,s.row,k0,rfl,(hv.aL (r.trans W).aQ),(p,B,I,rfl,af,.inl (aY.of (ME _ _ e1)),.inl (aY.of (ME _ _ e2))),by rw[MA];exact jE,Mz,?_);refine bW (W _ _ bA) rY hi (M' (aE ())) (?_,λb o e=>?_)
        · rw[abc,ev];simp[gi]
        · rw[az (av e hD)];exact W _ _ (r _ _ e)
      rintro ys H3 bA rY ⟨rfl,r⟩;rw[MC,aaz]at bA;have X:=R.trans r;have Hw:H1 D=none:=R.free hD;generalize sF:d.vals.map (gi M k c s.ns s.row)=ws at bA;have ki:ws.length=d.vals.length:=by rw[<-sF];simp
      have Ya:0<=ws.getD 0 0/\ws.getD 0 0<M:=by rw[<-sF];exact xf Mz
      have Ex:lg M k c d s=(ke M s.ns (ws.getD 0 0) d,pK s.row (ws.getD 0 0) d,s.cU++iC (ws.getD 0 0) d,s.words++gs (ws.getD 0 0) d):=by rw[<-sF];rfl
      have Ey:nK M k c d s=pL (ws.getD 0 0) (ws.getD 1 0) d:=by rw[<-sF];rfl
      rw[Ex,Ey]at S;have MG:∀{b:Addr} {o:HO},H1 b=some o->b≠D:=λe=>av e Hw;left;calc fH (X _ _ Ol) T.cR T.Qd XT ?_;calc(B,x,D,s.ns,ws,M,3,d,rfl,X _ _ e1,hx.aL X.aQ,bA,ki,by rw[MA];calc ph,Mz,qG,Cw,λH4 e14 k4=>?_);have t4:ck H3 H4:=λb ys e=>k4 b _ (λz=>by subst z;rw[X _ _ e1]at e;cases e) e;left;calc(I,x,D,s.row,ws,3,d,rfl,k4 _ _ (Ne.symm n1) (X _ _ e2),hx.aL (X.aQ.trans t4),k4 _ _ (Ne.symm (MG e1)) bA,ki,Aw,λL e25 k5=>?_);have t5:ck H4 L:=λb ys e=>k5 b _ (λz=>by subst z;rw[k4 _ _ (Ne.symm n1) (X _ _ e2)]at e;cases e) e;have t15:ck H1 L:=X.aQ.trans (t4.trans t5);have kk:∀b o,b≠B->b≠I->H1 b=some o->L b=some o:=λb o ne1 ne2 e=>k5 b o ne2 (k4 b o ne1 (X _ _ e));have e15:=k5 _ _ n1 e14;have Vv:=kk _ _ (Ne.symm n2) (Ne.symm n4) e3;have Yb:=kk _ _ (Ne.symm n3) (Ne.symm n5) e5;have Eg:L D=some (.lst (ws.map V.int)):=k5 _ _ (Ne.symm (MG e2)) (k4 _ _ (Ne.symm (MG e1)) bA);have Tw:=KG.aL t15;have Tz:au H L:=λb o e=>kk b o (av e a1) (av e a2) (sH _ _ e);have Hv:=hx.aL t15;have Qk:=KC (w:=ws.getD 0 0) (w':=ws.getD 1 0) ph;obtain⟨a,us,rfl,ha,-⟩:=ur Hv ph;left;rename_i N1 hN1 T1 U1 Vw Om;have fin:∀U MH,au H U->U B=some (.lst ((ke M s.ns (ws.getD 0 0) d).map V.int))->U I=some (.lst ((pK s.row (ws.getD 0 0) d).map V.int))->U u=some (.lst MH)->SL U MH (s.cU++iC (ws.getD 0 0) d)->U G=some (.lst ((s.words++gs (ws.getD 0 0) d).map V.int))->HT U 3 (.ref a) d.dv->U D=some (.lst (ws.map V.int))->N1 [some (V.ref m),some (V.ref sa),some (V.int k),some (V.int c),some (V.ref B),some (V.ref I),some (V.ref u),some (V.ref G),some (V.int (g:Nat)),some (V.ref a),some (V.ref D)] U:=by
        intro U MH f0 f1 f2 f3 f4 f5 f6 f7;left;calc(.ref a,D,ws,_,_,rfl,f6,f7,ki,?_);left;calc dq _ _ rfl rfl ?_;have l1:=Au (w:=ws.getD 0 0) (d:=d);refine((B,I,u,G,MH,some (.ref a),some (.ref D),g+1+(pL (ws.getD 0 0) (ws.getD 1 0) d).toNat,(ke M s.ns (ws.getD 0 0) d,pK s.row (ws.getD 0 0) d,s.cU++iC (ws.getD 0 0) d,s.words++gs (ws.getD 0 0) d),f',?_,f0,a1,a2,a3,a4,n1,n2,n3,n4,n5,n6,f1,f2,f3,f4,f5,by rw[qu];calc MA,Ew (d:=d) Mz Cw Ya,KA (w:=ws.getD 0 0) (d:=d) Aw,(by rw[aat];lia),(by rw[aat];lia),S,?_),?_)
        · first|rfl|rw[sk1 Qk]
        · exact sk2 Qj
        · exact sk3 ik Qk
      calc eF ha (aA (j:=0) rfl) ?_;left;by_cases k1:d.word="send"
      · rw[if_pos (aal k1)];let(j,u2,S9,es,Yc,hv2):=Oi (w:=ws.getD 0 0) Hv k1;have Es:jc (ws.map V.int) 0=some (.int (ws.getD 0 0)):=aA (j:=0) (by rw[J',Av ()];rfl);generalize ws.getD 0 0=w0 at *
        · skip
          left;calc(.inl (rfl,_,aY.of Vv),?_);calc eF S9 (aA (j:=1) rfl) ?_;left;calc bG Eg Es ?_;calc(cy,λtp Bj=>?_);have s6:=au.new (.tup [.int j,.int w0]) Bj;calc iE _ (s6 _ _ Vv) (aa5 (by have:=KG.1;lia) (aE (n:=100) ())) ?_;have htn:tp≠u:=λz=>by subst z;rw[Vv]at Bj;cases Bj
          have t6:ck (upd L tp (.tup [.int j,.int w0])) (upd (upd L tp (.tup [.int j,.int w0])) u (.lst (zs++[.ref tp]))):=(ck.refl _).upd λys e=>by rw[s6 _ _ Vv]at e;cases e
          have N:∀b o,b≠u->L b=some o->upd (upd L tp (.tup [.int j,.int w0])) u (.lst (zs++[.ref tp])) b=some o:=λb o ne e=>by rw[az ne];exact s6 _ _ e
          exact fin _ _ (λb o e=>N b o (av e a3) (Tz _ _ e)) (N _ _ n2 e15) (N _ _ n4 e25) af (by rw[es];calc(Tw.aL (s6.aQ.trans t6)).snoc (dj (n:=0) (by rw[az htn];calc af) (.int _) (.int _))) (by rw[Yc,aan];calc N _ _ (Ne.symm n6) Yb) (Hv.aL (s6.aQ.trans t6)) (N _ _ (Ne.symm (MG e3)) Eg)
      · rw[if_neg λz=>k1 (aaM z)];have es:=Oj (w:=ws.getD 0 0) k1;left;calc eF ha (aA (j:=0) rfl) ?_;left;by_cases k2:d.word="say"
        · rw[if_pos (aal k2)];let(ew,Yc):=Tq (w:=ws.getD 0 0) k2;have Es:jc (ws.map V.int) 0=some (.int (ws.getD 0 0)):=aA (j:=0) (by rw[J',Av ()];rfl);generalize ws.getD 0 0=w0 at *
          · skip
            left;calc(.inl (rfl,_,aY.of Yb),?_);left;calc bG Eg Es ?_;calc iE _ Yb (aa5 (by simp;lia) (aE (n:=100) ())) ?_;have t6:ck L (upd L G (.lst (s.words.map V.int++[.int w0]))):=(ck.refl _).upd λys e=>by rw[Yb]at e;cases e
            have N:∀b o,b≠G->L b=some o->upd L G (.lst (s.words.map V.int++[.int w0])) b=some o:=λb o ne e=>by rw[az ne];exact e
            exact fin _ zs (λb o e=>N b o (av e a4) (Tz _ _ e)) (N _ _ n3 e15) (N _ _ n5 e25) (N _ _ n6 Vv) (by rw[es,aan];calc Tw.aL t6) (by rw[af,ew,W'];rfl) (Hv.aL t6) (N _ _ (Ne.symm (MG e5)) Eg)
        · rw[if_neg λz=>k2 (aaM z)];have ew:=KD (w:=ws.getD 0 0) k2;calc L2.aP (by assumption) ?_;exact fin _ _ Tz e15 e25 Vv (by rw[es,aan];calc Tw) (by rw[ew,aan];calc Yb) Hv Eg
    · have Vt:¬g < xs.length:=by rw[vH.1];exact ik
      left;rw[if_neg (by simpa using Vt)];rw[List.drop_eq_nil_of_le (),DU]at S;left;calc .inl (_,aY.of e1,λt1 wX=>?_);have r1:=au.new (.tup (s.ns.map V.int)) wX;left;calc .inl (_,aY.of (r1 _ _ e2),λt2 m9=>?_);have r2:=au.new (.tup (s.row.map V.int)) m9;left;calc(cy,λt3 Co=>?_);have r3:=au.new (.tup [.ref t1,.ref t2]) Co;left;calc(by show 3<=sizeLine;decide,λt4 Cp=>?_);have r4:=au.new (.tup [.ref t3,.ref u,.ref G]) Cp;have Oo:=r1.trans (r2.trans (r3.trans r4));refine q _ _ (sH.trans Oo) (_,_,u,G,zs,rfl,af,?_,Oo _ _ e3,?_,?_,a3,a4,n6)
      · rw[<-S];exact(dj af (pJ (r3 _ _ (r2 _ _ af))) (pJ (r3 _ _ af))).aL r4.aQ
      · rw[<-S];exact KG.aL Oo.aQ
      · rw[<-S];exact Oo _ _ e5
  · intro σ H1 Q Q' hq hc;let(x,h1,x0,h0,a,C',wN,fs,v,h2,h3,h4,h5,h6,n,h7,h8):=hc;refine(x,h1,x0,h0,a,C',wN,fs,v,h2,h3,h4,h5,h6,n,h7,?_)
    cases x<;>first
      |calc(show False from h8).elim
      | (let(k',h9,Vs):=h8
         calc(k',h9,hq _ _ Vs))
def lj(n:Nat->Nat)(ad:Nat->Nat->Addr)(t:Nat):List V:=(List.range (n t)).map λi=>V.ref (ad t i)
theorem ma{n:Nat->Nat}{t:Nat}:(lj n ad t).length=n t:=by simp[lj]
theorem bo{n:Nat->Nat}{t i:Nat}(h:i<n t):jc (lj n ad t) (i:Int)=some (.ref (ad t i)):=aA (by simp[lj,h])
def Hx(a:V)(p:Addr)(o:Nat->Addr):List (Str×V):=[(("own_net"),a),(("picks_done"),.ref p),(("states_had"),.ref (o 1)),(("words_had"),.ref (o 2)),(("words_said"),.ref (o 3)),(("letters_say"),.ref (o 4)),(("senders"),.ref (o 5)),(("workers"),.ref (o 6))]
section
variable {aZ:V}{p:Addr}{o:Nat->Addr}
theorem qN:(Hx aZ p o).lookup ("own_net":Str)=some aZ:=by kernel_rfl
theorem Yd:(Hx aZ p o).lookup ("picks_done":Str)=some (.ref p):=by kernel_rfl
theorem KH:(Hx aZ p o).lookup ("states_had":Str)=some (.ref (o 1)):=by kernel_rfl
theorem adt:(Hx aZ p o).lookup ("words_had":Str)=some (.ref (o 2)):=by kernel_rfl
theorem Ye:(Hx aZ p o).lookup ("words_said":Str)=some (.ref (o 3)):=by kernel_rfl
theorem Gz:(Hx aZ p o).lookup ("letters_say":Str)=some (.ref (o 4)):=by kernel_rfl
theorem Yf:(Hx aZ p o).lookup ("senders":Str)=some (.ref (o 5)):=by kernel_rfl
theorem KI:(Hx aZ p o).lookup ("workers":Str)=some (.ref (o 6)):=by kernel_rfl
end
structure vK(C CN:Addr)(H:Hp)(aZ:Addr)(nt:NT):Prop where
 ex:∃ms wv lv,nu CN H aZ ms wv lv/\ms.length=nt.ms.length/\(∀(i:Nat) m d,ms[i]?=some m->nt.ms[i]?=some d->Vp C H m d)/\fV H 1 wv (nt.ws.map nk)
 ok:nt.Ok
theorem Vp.fr{C:Addr}{d:MD}(f:Fr Z H H')(h:Vp C H m d):Vp C H' m d:=by
 let(a,st,dd,b,c,e):=h;calc(a,st,dd,f.nh b id,c.aL f.aQ,e.aL f.aQ)
theorem nu.fr{CN:Addr}{x:Addr}{d:List V}(f:Fr Z H H')(h:nu CN H x ms wv d):nu CN H' x ms wv d:=by
 let(d,a,b,c,e,g,i,j):=h;calc(d,a,b,c,f.nh e id,f.nh g id,f.nh i id,f.nh j id)
theorem vK.fr{C CN:Addr}{c:Addr}{nt:NT}(f:Fr Z H H')(h:vK C CN H c nt):vK C CN H' c nt:=by
 let((ms,wv,c,e,g,j,k),l):=h;calc((ms,wv,c,e.fr f,g,λi m d a b=>(j i m d a b).fr f,k.aL f.aQ),l)
structure bR(C CN CR:Addr)(F:Addr->Prop)(H:Hp)(x aZ:Addr)(nt:NT)(r:RS)(ad:Nat->Nat->Addr):Prop where
 ins:∃dx o,H x=some (.ins CR dx (Hx (.ref aZ) (ad 0 0) o))/\∀t,1<=t->t<=6->H (o t)=some (.lst (lj nt.n ad t))/\¬F (o t)/\¬FP nt.n ad (o t)
 cW:eJ F H nt.n ad r.ct
 Cy:vK C CN H aZ nt
section
variable {C CN CR:Addr}{F:Addr->Prop}{H H':Hp}{x aZ:Addr}{nt:NT}{r:RS}{ad:Nat->Nat->Addr}
theorem bR.keep(h:bR C CN CR F H x aZ nt r ad)(f:Fr F H H'):bR C CN CR F H' x aZ nt r ad:=by
 let((d,o,e,c),g,i):=h;calc((d,o,f.nh e id,λt a b=>(f.at (c t a b).1 (c t a b).2.1,(c t a b).2)),g.keep f,i.fr f)
theorem bR.same(h:bR C CN CR F H x aZ nt r ad)(s:au H H'):bR C CN CR F H' x aZ nt r ad:=h.keep s.fr
theorem bR.own{c:RS}(h:bR C CN CR F H x aZ nt r ad)(f:Fr (FP nt.n ad) H H')(b:eJ F H' nt.n ad c.ct):bR C CN CR F H' x aZ nt c ad:=by
 let((d,o,e,c),i,g):=h;calc((d,o,f.nh e id,λt a b=>(f.at (c t a b).1 (c t a b).2.2,(c t a b).2)),b,g.fr f)
end
abbrev jF:Stmt:=(cm (top 74)).getD 6 (.Pass (0,0,0,0))
def uB(nt:NT)(e j:Nat):Int:=if e=0 then(nt.w j).1 else(nt.w j).2.1
def vL(nt:NT)(e m:Nat):List Nat:=(List.range nt.ws.length).filter λj=>decide (uB nt e j=m)
def Cz(C CN:Addr):Sp:=λvs H Q _=>∃(x:Addr) (nt:NT) (m e:Nat),vs=[.ref x,.int m,.int e]/\vK C CN H x nt/\m<nt.ms.length/\e<2/\∀l H',au H H'->H l=none->H' l=some (.lst ((vL nt e m).map λi=>.int (i:Nat)))->Q (.ref l) H'
theorem vM(D:gY K CN "ways_at" "Net.ways_at" jF gg)(T:Tx K mg C CN CR F FD)(S:Def P w K mg base "is_within" 2 b8 bU):cf P w K mg base CN "ways_at" 3 gg (Cz C CN):=by
 exists gg;let(x,d,m,e,rfl,B,I,L,q):=h;have L:=hr.units;refine(_,(ai (aT (cB (bC (aM S hr (ag (aq 1) (ag aj (ag (bc aO rfl T.bS U' (ag (bH (aq 0) rfl) aa)) aa)))))) (ak cq) aH)
  (ak (aG (df (N':=["number","way","m","end"]) (ix:=[none,none,some 1,some 2]) (ky rfl T.dY (ag (bH (aq 0) rfl) aa)) (λ_ _ _ _=>(jo (K:=K) rfl (i:=0) (j:=1) rfl (show(["number","way","m","end"]:List Str).Nodup by decide +kernel) rfl rfl Sort Sort)) (λ_ _ _ _=>(jm (aC (pS (K:=K) rfl L) (eg (K:=K) rfl L (aq 1) (aq 3)) (aq 2) (aJ _)))) (λ_ _ _ _=>(aq 0)))))),?_)
 nofun;let((ms,wv,L,S,U,X,M),W):=id B;let(X,a,b,cc,L,Y,l,h4):=id S;ac_rfl;left;calc(x,CN,X,_,_,rfl,L,T.cO,T.Ab,X0,_,.inr (_,bP.of Y,rfl),?_);calc fZ (.int m) _ 0 _ rfl (.int _) ?_;rw[show inR 0 (((ms.map V.ref).length:Nat):Int) (.int (m:Int))=true by simp[inR,U,I]];calc ly ?_;rw[if_neg ∅];left;calc bI ?_;left;calc fH L T.cO T.Ac X1 ?_;left;calc F6 false wv (Sq.t l) (λD r=>?_);have Z:wv.length=d.ws.length:=by simpa using M.1
 have x:=W.F4;refine bq (J:=PM false K b) (n:=wv.length) (λi ys H'=>au H H'/\ys=((List.range i).filter λj=>decide (uB d e j=m)).map λj=>V.int (j:Nat)) (M' (aE ())) (au.new _ r,rfl) ?_ ?_ ?_ ?_
 ·rintro i ys H' u ⟨g,_⟩;exact(wv,wv[i],Sq.t (g _ _ l),dH u)
 ·rintro ys H' ⟨g,_⟩;exact(wv,Sq.t (g _ _ l),rfl)
 ·intro i ys H' u p N jf xx H4 jh;nofun;let(g,rfl):=jf;let(t,ht,rfl,y):=jh;let(k,ex,rfl):=y wv (Sq.t (g _ _ l));have x:i < d.ws.length:=by lia
  have o:=(M.2 i k (nk (d.w i)) ex (by rw[J',show d.ws[i]?=some (d.w i) from a0 x];rfl)).aL g.aQ;have v:=au.new (.tup [.int (i:Nat),k]) ht
  replace o:=o.aL v.aQ
  have m9:upd H' t (.tup [.int (i:Nat),k]) t=some (.tup [.int (i:Nat),k]):=af;have O:=v _ _ p;have R:=g.trans v;generalize hG:upd H' t (.tup [.int (i:Nat),k])=G at *;let(ta,u1,u2,u3,kk,rfl,vN,g1,g2,g3):=bV o;obtain rfl:=g1.cL;obtain rfl:=g2.cL;obtain rfl:=g3.cV;ac_rfl;calc Bl (bP.of m9) (Ext.set (Ext.set (Ext.refl _) rfl) rfl,?_);left;have Yg:jc [V.int (d.w i).1,V.int (d.w i).2.1,V.str (d.w i).2.2] (e:Int)=some (.int (uB d e i)):=by
   have:e=0\/e=1:=by lia
   rcases this with rfl|rfl
   ·exact aA (j:=0) rfl
   ·exact aA (j:=1) rfl
  calc eF vN Yg ?_;left;have k:(List.range (i+1)).filter (λj=>decide (uB d e j=m))=(List.range i).filter (λj=>decide (uB d e j=m))++(if uB d e i=m then[i] else[]):=by
   rw[List.range_succ,List.filter_append];congr 1;by_cases z:uB d e i=m<;>simp[z]
  by_cases z:uB d e i=m
  ·rw[if_pos (by simp[z])];calc bW O N u (M' (aE ())) (λc o e=>by rw[az (av e r)];calc R _ _ e,?_);rw[k,if_pos z,W'];rfl
  ·rw[if_neg (by simp[z])];exact(_,O,(),R,by rw[k,if_neg z,aan])
 ·rintro ys H' p N ⟨g,rfl⟩;rw[Z]at p;calc q _ _ g r p
abbrev iL:Stmt:=(cm (top 74)).getD 4 (.Pass (0,0,0,0))
def rP(C CN:Addr):Sp:=λvs H Q _=>∃(x:Addr) (nt:NT) (m:Nat),vs=[.ref x,.int m]/\vK C CN H x nt/\m<nt.ms.length/\∀l H',au H H'->H l=none->H' l=some (.lst ((vL nt 0 m).map λi=>.int (i:Nat)))->Q (.ref l) H'
theorem uC(D:gY K CN "ways_out" "Net.ways_out" iL cb)(T:Tx K mg C CN CR F FD)(g:cf P w K mg base CN "ways_at" 3 gg (Cz C CN)):cf P w K mg base CN "ways_out" 4 cb (rP C CN):=by
 exists cb;let(x,d,m,rfl,c,e,q):=h;have i:=hr.units;calc(_,(ak (aG (dX g T.cO hr (aq 0) (ag (aq 1) (ag aj aa))))),?_);nofun;let((ms,wv,j,i,k,l,n),o):=id c;let(j,a,b,k,g,l,n,o):=id i;ac_rfl;left;calc gu g (fc ⋯ ⋯ ⋯) ?_;calc(x,d,m,0,rfl,c,e,∅,q)
abbrev jG:Stmt:=(cm (top 74)).getD 5 (.Pass (0,0,0,0))
def uD(C CN:Addr):Sp:=λvs H Q _=>∃(x:Addr) (nt:NT) (m:Nat),vs=[.ref x,.int m]/\vK C CN H x nt/\m<nt.ms.length/\∀l H',au H H'->H l=none->H' l=some (.lst ((vL nt 1 m).map λi=>.int (i:Nat)))->Q (.ref l) H'
theorem vO(D:gY K CN "ways_in" "Net.ways_in" jG cb)(T:Tx K mg C CN CR F FD)(g:cf P w K mg base CN "ways_at" 3 gg (Cz C CN)):cf P w K mg base CN "ways_in" 4 cb (uD C CN):=by
 exists cb;let(x,d,m,rfl,c,e,q):=h;have i:=hr.units;calc(_,(ak (aG (dX g T.cO hr (aq 0) (ag (aq 1) (ag aj aa))))),?_);nofun;let((ms,wv,j,i,k,l,n),o):=id c;let(j,a,b,k,g,l,n,o):=id i;ac_rfl;left;calc gu g (fc ⋯ ⋯ ⋯) ?_;calc(x,d,m,1,rfl,c,e,∅,q)
def FS(F:Addr->Prop)(H:Hp):Prop:=∀b,F b->∃o,H b=some o/\soft o
theorem FS.fr{F:Addr->Prop}(h:FS F H)(f:Fr Z H H')(c:∀b,F b->¬Z b):FS F H':=λb a=>by
 let(o,e,s):=h b a;calc(o,f.at e (c b a),s)
theorem _root_.DD.eJ.vP{F:Addr->Prop}{n:Nat->Nat}{ct:Nat->Nat->CO}(h:eJ F H n ad ct):∀b,F b->¬FP n ad b:=λb a (t,i,c,e)=>h.out t i c (e▸a)
theorem small{n:Nat}(h:n<=20000):n<sizeLine:=by rw[aaw];lia
theorem TB{r:RS}{n:NT}{w:Nat}{x:Int}{s:Option (Int×Int)}:∀t i,i<n.n t->setC (setC (setC r.ct 4 w (.l ((r.ww w).say.map .int++[.int x]))) 5 w (.l ((r.ww w).snd.map nU++[nU s]))) 6 w (.l ((r.ww w).dz.map nU++[.bO])) t i=(r.put w x s).ct t i:=by
 intro t i a;unfold setC
 match t,a with
 |0,_=>simp[RS.ct,RS.put]
 |1,_=>simp[RS.ct,RS.put]
 |2,_=>simp[RS.ct,RS.put]
 |3,_=>simp[RS.ct,RS.put]
 |4,_=>by_cases e:i=w<;>simp[RS.ct,RS.put,e]
 |5,_=>by_cases e:i=w<;>simp[RS.ct,RS.put,e]
 |6,_=>by_cases e:i=w<;>simp[RS.ct,RS.put,e,nU]
 |(t+7),a=>calc absurd a (aa9 i)
abbrev gC:Stmt:=(cm (top 76)).getD 1 (.Pass (0,0,0,0))
inductive Ez(C CN CR:Addr)(vs:List V)(H:Hp)(Q:VK):Prop
 |mk (F:Addr->Prop) (x aZ:Addr) (nt:NT) (r:RS) (ad:Nat->Nat->Addr) (wy:Nat) (said:Int) (sv:V) (s:Option (Int×Int)) (h0:vs=[.ref x,.int (wy:Nat),.int said,sv]) (h1:bR C CN CR F H x aZ nt r ad) (h2:FS F H) (h3:wy<nt.ws.length) (h4:HT H 4 sv (nU s)) (h5:r.vn nt 19999) (h6:∀H',Fr (FP nt.n ad) H H'->bR C CN CR F H' x aZ nt (r.put wy said s) ad->Q .bO H'):Ez C CN CR vs H Q
def uE(C CN CR:Addr):Sp:=λvs H Q _=>Ez C CN CR vs H Q
theorem qO(D:gY K CR "put_letter" "Run.put_letter" gC du)(T:Tx K mg C CN CR F FD):cf P w K mg base CR "put_letter" 1 du (uE C CN CR):=by
 exists du;let(F,x,o,g,r,ad,a,c,v,s,rfl,j,I,b,J,k,q):=h;have o:=hr.units;refine(_,(ai (bL (dO qb sm sr cw (ao o (bH (aq 0) rfl) (aq 1)) (ag (aq 2) aa)))
  (ai (bL (dO qb sm sr cw (ao o (bH (aq 0) rfl) (aq 1)) (ag (aq 3) aa)))
  (ak (bL (dO qb sm sr cw (ao o (bH (aq 0) rfl) (aq 1)) (ag jw aa)))))),?_)
 nofun;let(x,o,y,d):=j.ins;have z:=j.cW;have o:=(d 4 ∅ ∅).1;have N:=(d 5 ∅ ∅).2.2;have O:=(d 6 ∅ ∅).2.2;have x:=k.bs a b;have x:=k.ls a b;have x:=k.lk a b;let(l,m,x):=z.lst (t:=4) (i:=a) b rfl;ac_rfl;have k:l.length=(r.ww a).say.length:=by simpa using x.1
 left;calc fH y T.aV T.bM Gz ?_;left;calc bG o (bo b) ?_;calc(.inl (rfl,_,aY.of m),?_);left;calc iE l m (small ()) ?_;have B:=z.app (t:=4) (i:=a) b rfl m (fN.one (.int c));have e:Fr (FP g.n ad) H (upd H (ad 4 a) (.lst (l++[.int c]))):=Fr.refl.upd (4,a,b,rfl) m trivial;generalize R:upd H (ad 4 a) (.lst (l++[.int c]))=L at *;left;have o:=e.nh y id;have c:=e.at (d 5 ∅ ∅).1 N;let(p,u,k):=B.lst (t:=5) (i:=a) b rfl;have l:p.length=(r.ww a).snd.length:=by simpa using k.1
 have k:=I.fr e z.vP;left;calc fH o T.aV T.fu Yf ?_;left;calc bG c (bo b) ?_;calc(.inl (rfl,_,aY.of u),?_);left;calc iE p u (small ()) ?_;have M:=B.app (t:=5) (i:=a) b rfl u (fN.one (B.ht k (J.aL e.aQ)));have G:Fr (FP g.n ad) H (upd L (ad 5 a) (.lst (p++[v]))):=e.upd (5,a,b,rfl) u trivial;generalize U:upd L (ad 5 a) (.lst (p++[v]))=S at *;left;have l:=G.nh y id;have e:=G.at (d 6 ∅ ∅).1 O;let(k,c,m):=M.lst (t:=6) (i:=a) b rfl;have d:k.length=(r.ww a).dz.length:=by simpa using m.1
 left;calc fH l T.aV T.dw KI ?_;left;calc bG e (bo b) ?_;calc(.inl (rfl,_,aY.of c),?_);left;calc iE k c (small ()) ?_;have m:=M.app (t:=6) (i:=a) b rfl c (fN.one (.bO));have d:Fr (FP g.n ad) H (upd S (ad 6 a) (.lst (k++[.bO]))):=G.upd (6,a,b,rfl) c trivial;calc q _ d (j.own d (m.congr TB))
abbrev fP:Stmt:=(cm (top 76)).getD 2 (.Pass (0,0,0,0))
def KL(C CN CR:Addr):Sp:=λvs H Q _=>∃(F:Addr->Prop) (x a:Addr) (nt:NT) (r:RS) (ad:Nat->Nat->Addr) (m:Nat),vs=[.ref x,.int m]/\bR C CN CR F H x a nt r ad/\m<nt.ms.length/\Q .bO H
theorem oy(D:gY K CR "need_machine" "Run.need_machine" fP cb)(T:Tx K mg C CN CR F FD)(d:Def P w K mg base "is_within" 2 b8 bU):cf P w K mg base CR "need_machine" 3 cb (KL C CN CR):=by
 exists cb;let(F,x,e,a,r,ad,m,rfl,b,c,q):=h;have e:=hr.units;calc(_,(ak (aT (cB (bC (aM d hr (ag (aq 1) (ag aj (ag (bc aO rfl T.bS U' (ag (bH (aq 0) rfl) aa)) aa)))))) (ak cq) aH)),?_);let(e,o,g,i):=b.ins;have d:=(i 1 ∅ ∅).1;left;calc(x,CR,e,_,_,rfl,g,T.aV,T.cj,KH,_,.inl (_,aY.of d,rfl),?_);calc fZ (.int m) _ 0 _ rfl (.int _) ?_;rw[ma];rw[show inR 0 ((a.n 1:Nat):Int) (.int (m:Int))=true by simp[inR];calc c];calc ly ?_;rw[if_neg ∅];left;calc q
abbrev iM:Stmt:=(cm (top 76)).getD 4 (.Pass (0,0,0,0))
def KN(C CN CR:Addr):Sp:=λvs H Q _=>∃(F:Addr->Prop) (x b:Addr) (nt:NT) (r:RS) (ad:Nat->Nat->Addr) (m:Nat) (a:V),vs=[.ref x,.int m,a]/\bR C CN CR F H x b nt r ad/\m<nt.ws.length/\Q .bO H
theorem uF(D:gY K CR "need_way" "Run.need_way" iM fy)(T:Tx K mg C CN CR F FD)(e:Def P w K mg base "is_within" 2 b8 bU):cf P w K mg base CR "need_way" 3 fy (KN C CN CR):=by
 exists fy;let(F,x,g,b,r,ad,m,a,rfl,c,d,q):=h;have g:=hr.units;calc(_,(ak (aT (cB (bC (aM e hr (ag (aq 1) (ag aj (ag (bc aO rfl T.bS U' (ag (bH (aq 0) rfl) aa)) aa)))))) (ak cq) aH)),?_);let(g,o,i,j):=c.ins;have e:=(j 4 ∅ ∅).1;left;calc(x,CR,g,_,_,rfl,i,T.aV,T.bM,Gz,_,.inl (_,aY.of e,rfl),?_);calc fZ (.int m) _ 0 _ rfl (.int _) ?_;rw[ma];rw[show inR 0 ((b.n 4:Nat):Int) (.int (m:Int))=true by simp[inR];calc d];calc ly ?_;rw[if_neg ∅];left;calc q
abbrev gp:Stmt:=(cm (top 76)).getD 5 (.Pass (0,0,0,0))
theorem dZ{a:V}{o:Nat->Addr}{f:Str}(h:f∉(["own_net","picks_done","states_had","words_had","words_said","letters_say","senders","workers"]:List Str)):(Hx a p o).lookup f=none:=by
 simp only[List.mem_cons,List.not_mem_nil,or_false,not_or]at h;unfold Hx;simp[List.lookup,beq_eq_false_iff_ne.mpr h.1,beq_eq_false_iff_ne.mpr h.2.1,beq_eq_false_iff_ne.mpr h.2.2.1,beq_eq_false_iff_ne.mpr h.2.2.2.1,beq_eq_false_iff_ne.mpr h.2.2.2.2.1,beq_eq_false_iff_ne.mpr h.2.2.2.2.2.1,beq_eq_false_iff_ne.mpr h.2.2.2.2.2.2.1,beq_eq_false_iff_ne.mpr h.2.2.2.2.2.2.2]
def Ay(C CN CR:Addr):Sp:=λvs H Q _=>∃(F:Addr->Prop) (x b:Addr) (nt:NT) (r:RS) (ad:Nat->Nat->Addr) (m k:Nat) (a:V),vs=[.ref x,.int m,.int k,a]/\bR C CN CR F H x b nt r ad/\m<nt.ws.length/\k<(r.ww m).say.length/\Q .bO H
theorem pX(D:gY K CR "need_letter" "Run.need_letter" gp aK)(T:Tx K mg C CN CR F FD)(g:Def P w K mg base "is_within" 2 b8 bU)(j:cf P w K mg base CR "need_way" 3 fy (KN C CN CR)):cf P w K mg base CR "need_letter" 4 aK (Ay C CN CR):=by
 exists aK;let(F,x,d,e,r,ad,m,k,a,rfl,b,c,l,q):=h;have l:=hr.units;refine(_,(ai (bL (dX j T.aV hr (aq 0) (ag (aq 1) (ag (aq 3) aa))))
  (ak (aT (cB (bC (aM g hr (ag (aq 2) (ag aj (ag (bc aO rfl T.bS U' (ag (ao l (bH (aq 0) rfl) (aq 1)) aa)) aa)))))) (ak cq) aH))),?_)
 nofun;let(j,o,g,l):=b.ins;have n:=(l 4 ∅ ∅).1;let(j,o,p):=b.cW.lst (t:=4) (i:=m) c rfl;ac_rfl;have l:j.length=(r.ww m).say.length:=by simpa using p.1
 left;calc gu g (dZ ⋯) ?_;calc(_,x,d,e,r,ad,m,_,rfl,b,c,?_);left;calc fH g T.aV T.bM Gz ?_;left;calc bG n (bo c) ?_;calc bJ _ (.inl (_,aY.of o,rfl)) ?_;calc fZ (.int k) _ 0 _ rfl (.int _) ?_;rw[show inR 0 ((j.length:Nat):Int) (.int (k:Int))=true by simp[inR];lia];calc ly ?_;rw[if_neg ∅];left;calc q
structure _root_.DD.RS.Ql(nt:NT)(r:RS)(w k:Nat):Prop where
 lt:w<nt.ws.length
 lies:(r.ww w).dz[k]?=some none
 row:(nt.w w).2.2="row"->0<k->∃e,(r.ww w).dz[k-1]?=some (some e)
theorem CA{n:Nat}{v:V}(h:HD H n v (nU none)):v=.bO:=by
 have h:HD H n v .bO:=h
 cases h;rfl
theorem sJ{H:Hp}{n:Nat}{v:V}{e:Int×Int}(h:HD H n v (nU (some e))):∃a,v=.ref a/\H a=some (.tup [.int e.1,.int e.2]):=by
 have h:HD H n v (.tup [.int e.1,.int e.2]):=h
 cases h with
 | @tup n a b _ e l i=>
  match b,l,e,i with
  | [u,v],_,e,i=>
   have c:=i 0 u _ rfl rfl;have d:=i 1 v _ rfl rfl;obtain rfl:=c.cL;obtain rfl:=d.cL;calc(a,rfl,e)
theorem KO{H:Hp}{n:Nat}{v:V}{e:Option (Int×Int)}(h:HD H n v (nU e)):HT H 1 v (nU e):=by
 cases e with
 |none=>rw[CA h];calc .bO
 |some e=>let(a,rfl,b):=sJ h;calc dj b (.int _) (.int _)
theorem pY{vs:List V}{v:V}(h:1<=vs.length)(e:vs[vs.length-1]?=some v):jc vs (-1)=some v:=by
 obtain⟨ys,z,rfl⟩:∃ys z,vs=ys++[z]:=(vs.dropLast,vs.getLast (by intro a;rw[a]at h;simp at h),(List.dropLast_concat_getLast _).symm)
 rw[lR];simpa using e
abbrev hJ:Stmt:=(cm (top 76)).getD 6 (.Pass (0,0,0,0))
def Qm(C CN CR:Addr):Sp:=λvs H Q _=>∃(F:Addr->Prop) (x b:Addr) (nt:NT) (r:RS) (ad:Nat->Nat->Addr) (m k:Nat) (a:V),vs=[.ref x,.int m,.int k,a]/\bR C CN CR F H x b nt r ad/\r.Ok nt/\r.Ql nt m k/\∀H',au H H'->Q .bO H'
theorem rZ(D:gY K CR "need_pick" "Run.need_pick" hJ aK)(T:Tx K mg C CN CR F FD)(o:cf P w K mg base CN "ways" 1 cz (lY CN))(Z:cf P w K mg base CR "need_letter" 4 aK (Ay C CN CR)):cf P w K mg base CR "need_pick" 5 aK (Qm C CN CR):=by
 exists["self","way","number","at","sort"];let(F,x,B,c,r,ad,m,k,a,rfl,n,R,u,q):=h;have b:=hr.units;refine(_,(ai (bL (dX Z T.aV hr (aq 0) (ag (aq 1) (ag (aq 2) (ag (aq 3) aa)))))
  (ai (aT (aC m7 (ao b (ao b (bH (aq 0) rfl) (aq 1)) (aq 2)) jw (aJ _)) (ak cq) aH)
  (ai (bf (i:=4) sc rfl Sort (ao b (ao b (eU o T.cO hr (bH (aq 0) rfl)) (aq 1)) aj))
  (ak (aT (PW.pt (pw_and (aC (aU b) (aq 4) aI (aJ _)) (pw_and (aC tJ (aq 2) aj (aJ _)) (pw_and1 (aC BU (ao b (ao b (bH (aq 0) rfl) (aq 1)) (aR fw (aq 2) aj)) jw (aJ _)))))) (ak cq) aH))))),?_)
 nofun;let(Z,o,y,b):=n.ins;let((ms,wv,lv,S,o,Z,U),aW):=n.Cy;have W:=(b 6 ∅ ∅).1;have g:=u.lt;let(v6,X,Y):=n.cW.lst (t:=6) (i:=m) g rfl;have b:=u.lies;have yR:k<(r.ww m).dz.length:=(List.getElem?_eq_some_iff.mp b).1;let(v,ev,dv):=Y.get (i:=k) (d:=nU none) (by rw[J',b];rfl);have:=CA dv;subst this;ac_rfl;left;calc gu y (dZ ⋯) ?_;calc(_,x,B,c,r,ad,m,k,a,rfl,n,g,by rw[R.lk m g];calc yR,?_);left;calc fH y T.aV T.dw KI ?_;left;calc bG W (bo g) ?_;calc bG X (aA ev) ?_;left
 try rw[if_neg ∅]
 left;calc fH y T.aV T.cS qN ?_;let(n,o,x,R,b,Z,g3,g4):=id S;left;calc gu b (fc ⋯ ⋯ ⋯) ?_;calc fZ B ms wv lv rfl S (λl n=>?_);have p:=au.new (.lst wv) n;have el:upd H l (.lst wv) l=some (.lst wv):=af;generalize hG:upd H l (.lst wv)=G at *;left;have b:c.ws[m]?=some (c.w m):=a0 g;have l:m<wv.length:=by have:=U.1;simp at this;lia
 have GB:=(U.2 m wv[m] (nk (c.w m)) nofun (by rw[J',b];rfl)).aL p.aQ;nofun;let(ta,l,n,o,x,I,vN,q1,q2,q3):=bV GB;obtain rfl:=q1.cL;obtain rfl:=q2.cL;obtain rfl:=q3.cV;ac_rfl;calc bG el (aA (j:=m) (v:=.ref ta) (by rw[<-I];simp)) ?_;calc eF vN (aA (j:=2) rfl) ?_;left;have Gs:=p _ _ y;have J:=p _ _ W;have L:=p _ _ X;have M:=q _ p;have b:=u.row;by_cases z:(c.w m).2.2="row"
 ·by_cases c:0 < k
  ·nofun;let(e,he):=b z c;let(l,N,O):=Y.get (i:=k - 1) (d:=nU (some e)) (by rw[J',he];rfl);let(ae,rfl,b):=sJ O;ac_rfl;rw[if_pos (by simp[z]),if_pos (by simp;lia)];calc fH Gs T.aV T.dw KI ?_;left;calc bG J (bo g) ?_;calc bG L (show jc v6 ((k:Int) - 1)=some (.ref ae) from by rw[show(k:Int) - 1=((k - 1:Nat):Int) by lia];calc aA N) ?_;left
   try rw[if_neg ∅]
   left;exact M
  ·rw[if_pos (by simp[z]),if_neg (by simp;lia),if_neg ∅];left;exact M
 ·rw[if_neg (by simp[z]),if_neg ∅];left;calc M
abbrev mf:Stmt:=(cm (top 76)).getD 11 (.Pass (0,0,0,0))
theorem Qn{H:Hp}{n:Nat}{v:V}{s:List Int×List Int}(h:HD H n v (uf s)):HT H 2 v (zF s.1 s.2):=by
 have h:HD H n v (.tup [.tup (s.1.map .int),.tup (s.2.map .int)]):=h
 cases h with
 | @tup n a c _ e l i=>
  match c,l,e,i with
  | [u,v],_,e,i=>
   have d:=i 0 u _ rfl rfl;have f:=i 1 v _ rfl rfl;have b:∀{n:Nat} {u:V} {ns:List Int},HD H n u (.tup (ns.map .int))->HT H 1 u (.tup (ns.map .int)):=λ{n u ns} h=>by
    cases h with
    | @tup n a c _ e l i=>exact pJ (n:=0) (by rw[e,show c=ns.map V.int from fN.qv (l,i)])
   calc dj e (b d) (b f)
def Qo(C CN CR:Addr):Sp:=λvs H Q _=>∃(F:Addr->Prop) (x a:Addr) (nt:NT) (r:RS) (ad:Nat->Nat->Addr) (m:Nat),vs=[.ref x,.int m]/\bR C CN CR F H x a nt r ad/\r.Ok nt/\m<nt.ms.length/\∀v,HT H 2 v (zF ((r.mm m).fe.bN (([]),[])).1 ((r.mm m).fe.bN (([]),[])).2)->Q v H
theorem Az(D:gY K CR "state" "Run.state" mf cb)(T:Tx K mg C CN CR F FD)(k:cf P w K mg base CR "need_machine" 3 cb (KL C CN CR)):cf P w K mg base CR "state" 4 cb (Qo C CN CR):=by
 exists cb;let(F,x,c,e,r,ad,m,rfl,b,g,a,q):=h;have j:=hr.units;refine(_,(ai (bL (dX k T.aV hr (aq 0) (ag (aq 1) aa)))
  (ak (aG (ao j (ao j (bH (aq 0) rfl) (aq 1)) (lH iB aj))))),?_)
 nofun;let(k,o,j,l):=b.ins;have n:=(l 1 ∅ ∅).1;let(o,p,k):=b.cW.lst (t:=1) (i:=m) a rfl;have l:o.length=(r.mm m).fe.length:=by simpa using k.1
 have o:=g.vE a;let(v,u,y):=k.get (i:=(r.mm m).fe.length-1) (d:=uf ((r.mm m).fe.bN (([]),[]))) (by rw[J',pR (d:=(([]),[])) o];rfl);ac_rfl;left;calc gu j (dZ ⋯) ?_;calc(_,x,c,e,r,ad,m,rfl,b,a,?_);left;calc fH j T.aV T.cj KH ?_;left;calc bG n (bo a) ?_;calc bG p (pY () (by rw[l];calc u)) ?_;calc q _ (Qn (y.cv fC))
abbrev mh:Stmt:=(cm (top 76)).getD 10 (.Pass (0,0,0,0))
def CB(C CN CR:Addr):Sp:=λvs H Q _=>∃(F:Addr->Prop) (x a:Addr) (nt:NT) (r:RS) (ad:Nat->Nat->Addr) (m:Nat),vs=[.ref x,.int m]/\bR C CN CR F H x a nt r ad/\m<nt.ms.length/\Q (.int (((r.mm m).fe.length:Nat)-1)) H
theorem AB(D:gY K CR "count" "Run.count" mh cb)(T:Tx K mg C CN CR F FD)(e:cf P w K mg base CR "need_machine" 3 cb (KL C CN CR)):cf P w K mg base CR "count" 4 cb (CB C CN CR):=by
 exists cb;let(F,x,c,d,r,ad,m,rfl,a,b,q):=h;have g:=hr.units;refine(_,(ai (bL (dX e T.aV hr (aq 0) (ag (aq 1) aa)))
  (ak (aG (aR fw (bc aO rfl T.bS U' (ag (ao g (bH (aq 0) rfl) (aq 1)) aa)) aj)))),?_)
 nofun;let(j,o,e,g):=a.ins;have j:=(g 1 ∅ ∅).1;let(k,l,n):=a.cW.lst (t:=1) (i:=m) b rfl;ac_rfl;have g:k.length=(r.mm m).fe.length:=by simpa using n.1
 left;calc gu e (dZ ⋯) ?_;calc(_,x,c,d,r,ad,m,rfl,a,b,?_);left;calc fH e T.aV T.cj KH ?_;left;calc bG j (bo b) ?_;calc bJ _ (.inl (_,aY.of l,rfl)) ?_;left;rw[g];calc q
abbrev iN:Stmt:=(cm (top 76)).getD 14 (.Pass (0,0,0,0))
def Qp(C CN CR:Addr):Sp:=λvs H Q _=>∃(F:Addr->Prop) (x a:Addr) (nt:NT) (r:RS) (ad:Nat->Nat->Addr) (m:Nat),vs=[.ref x,.int m]/\bR C CN CR F H x a nt r ad/\m<nt.ws.length/\Q (.int ((r.ww m).say.length:Nat)) H
theorem uG(D:gY K CR "put_many" "Run.put_many" iN ["self","way"])(T:Tx K mg C CN CR F FD)(e:cf P w K mg base CR "need_way" 3 fy (KN C CN CR)):cf P w K mg base CR "put_many" 4 ["self","way"] (Qp C CN CR):=by
 exists["self","way"];let(F,x,c,d,r,ad,m,rfl,a,b,q):=h;have g:=hr.units;refine(_,(ai (bL (dX e T.aV hr (aq 0) (ag (aq 1) (ag aj aa))))
  (ak (aG (bc aO rfl T.bS U' (ag (ao g (bH (aq 0) rfl) (aq 1)) aa))))),?_)
 nofun;let(j,o,e,g):=a.ins;have j:=(g 4 ∅ ∅).1;let(k,l,n):=a.cW.lst (t:=4) (i:=m) b rfl;ac_rfl;have g:k.length=(r.ww m).say.length:=by simpa using n.1
 left;calc gu e (dZ ⋯) ?_;calc(_,x,c,d,r,ad,m,_,rfl,a,b,?_);left;calc fH e T.aV T.bM Gz ?_;left;calc bG j (bo b) ?_;calc bJ _ (.inl (_,aY.of l,rfl)) ?_;rw[g];calc q
abbrev iO:Stmt:=(cm (top 76)).getD 15 (.Pass (0,0,0,0))
def KP(C CN CR:Addr):Sp:=λvs H Q _=>∃(F:Addr->Prop) (x b:Addr) (nt:NT) (r:RS) (ad:Nat->Nat->Addr),vs=[.ref x]/\bR C CN CR F H x b nt r ad/\∀l a,H l=none->fN H 4 a (r.picks.map pairD)->Q (.ref l) (upd H l (.lst a))
theorem uH(D:gY K CR "schedule" "Run.schedule" iO cz)(T:Tx K mg C CN CR F FD):cf P w K mg base CR "schedule" 1 cz (KP C CN CR):=by
 exists cz;let(F,x,b,c,r,ad,rfl,a,q):=h;have b:=hr.units;calc(_,(ak (aG (dA cQ rfl T.ft Bd (ag (bH (aq 0) rfl) aa)))),?_);nofun;let(c,o,b,d):=a.ins;let(e,c,d):=a.cW.lst (t:=0) (i:=0) (by show 0<1;decide) rfl;ac_rfl;left;calc fH b T.aV T.cY Yd ?_;left;calc bJ _ (.inl (aY.of c)) (λl a=>?_);calc q l _ a (d.cv fC)
abbrev oz:Stmt:=(cm (top 76)).getD 16 (.Pass (0,0,0,0))
def EA(C CN CR:Addr):Sp:=λvs H Q _=>∃(F:Addr->Prop) (x a:Addr) (nt:NT) (r:RS) (ad:Nat->Nat->Addr) (m k:Nat),vs=[.ref x,.int m,.int k]/\bR C CN CR F H x a nt r ad/\m<nt.ws.length/\k<(r.ww m).say.length/\Q (.int ((r.ww m).say.getD k 0)) H
theorem CC(D:gY K CR "said" "Run.said" oz bx)(T:Tx K mg C CN CR F FD)(o:cf P w K mg base CR "need_letter" 4 aK (Ay C CN CR)):cf P w K mg base CR "said" 5 bx (EA C CN CR):=by
 exists bx;let(F,x,e,g,r,ad,m,k,rfl,a,b,c,q):=h;have l:=hr.units;refine(_,(ai (bL (dX o T.aV hr (aq 0) (ag (aq 1) (ag (aq 2) (ag aj aa)))))
  (ak (aG (ao l (ao l (bH (aq 0) rfl) (aq 1)) (aq 2))))),?_)
 nofun;let(B,o,n,l):=a.ins;have p:=(l 4 ∅ ∅).1;let(o,u,y):=a.cW.lst (t:=4) (i:=m) b rfl;have z:=y.qv;subst z;ac_rfl;left;calc gu n (dZ ⋯) ?_;calc(_,x,e,g,r,ad,m,k,_,rfl,a,b,c,?_);left;calc fH n T.aV T.bM Gz ?_;left;calc bG p (bo b) ?_;calc bG u (aA (j:=k) (v:=.int ((r.ww m).say.getD k 0)) (by rw[J',a0 (d:=0) c];rfl)) ?_;calc q
abbrev qP:Stmt:=(cm (top 76)).getD 8 (.Pass (0,0,0,0))
def sL(C CN CR:Addr):Sp:=λvs H Q _=>∃(F:Addr->Prop) (x a:Addr) (nt:NT) (r:RS) (ad:Nat->Nat->Addr),vs=[.ref x]/\bR C CN CR F H x a nt r ad/\Q (.ref a) H
theorem GC(D:gY K CR "net" "Run.net" qP cz)(T:Tx K mg C CN CR F FD):cf P w K mg base CR "net" 1 cz (sL C CN CR):=by
 exists cz;let(F,x,b,c,r,ad,rfl,a,q):=h;have b:=hr.units;calc(_,(ak (aG (bH (aq 0) rfl))),?_);let(c,o,b,d):=a.ins;left;calc fH b T.aV T.cS qN ?_;calc q
theorem uJ{w:Nat}:∀{l:List Nat},w∈l->l[l.idxOf w]?=some w/\∀i y,i<l.idxOf w->l[i]?=some y->y≠w
 | [],h=>by simp at h
 |a::r,h=>by
  by_cases e:a=w
  ·subst e;rw[List.idxOf_cons_self];exact(rfl,λi y c=>absurd c (aa9 i))
  ·have hr:w∈r:=by
    rcases List.mem_cons.mp h with h|h
    ·exact absurd h.symm e
    ·exact h
   let(d,g):=uJ hr;have j:(a::r).idxOf w=r.idxOf w+1:=by rw[List.idxOf_cons,beq_eq_false_iff_ne.mpr e];rfl
   rw[j];refine(by simpa using d,λi y c b=>?_)
   cases i with
   |zero=>simp at b;subst b;calc e
   |succ i=>calc g i y () (by simpa using b)
theorem sM{nt:NT}(h:nt.Ok){w:Nat}(a:w<nt.ws.length):(nt.w w).2.1=((nt.goal w:Nat):Int):=by
 have:=h.wy a;unfold NT.goal;lia
theorem KQ{nt:NT}(h:nt.Ok){w:Nat}(a:w<nt.ws.length):w∈vL nt 1 (nt.goal w):=by
 unfold vL;rw[List.mem_filter];calc(List.mem_range.mpr a,?_);rw[aaR];calc sM h a
theorem pZ{nt:NT}(h:nt.Ok){w:Nat}(a:w<nt.ws.length):(vL nt 1 (nt.goal w)).idxOf w=nt.place w:=by
 unfold NT.place;rw[sM h a];rfl
theorem xh{l:List Nat}:(l.map λi=>V.int (i:Nat))=(l.map λi=>((i:Nat):Int)).map V.int:=by simp[List.map_map]
theorem Oq{r:RS}{n:NT}{w k:Nat}:∀t i,i<n.n t->setC (setC (setC (setC (setC r.ct 0 0 (.l (r.picks.map pairD++[pairD (((w:Int)),(k:Int))]))) 6 w (.l (((r.ww w).dz.map nU).set k (nU (some (n.ev r w)))))) 1 (n.goal w) (.l ((r.mm (n.goal w)).fe.map uf++[uf (((n.work r w k).ns),(n.work r w k).row)]))) 3 (n.goal w) (.l (((r.mm (n.goal w)).wp.bN []).map .int++(n.work r w k).words.map .int))) 2 (n.goal w) (.l (((r.mm (n.goal w)).wp.map λu=>DV.int (u.length:Nat))++[.int ((((r.mm (n.goal w)).wp.bN []++(n.work r w k).words).length:Nat))])) t i=(r.step n w k).ct t i:=by
 intro t i a;unfold setC
 match t,a with
 |0,a=>
  have:i=0:=by have:i<1:=a;lia
  subst this;simp[RS.ct,RS.step]
 |1,_=>by_cases e:i=n.goal w<;>simp[RS.ct,RS.step,e]
 |2,_=>by_cases e:i=n.goal w<;>simp[RS.ct,RS.step,e]
 |3,_=>by_cases e:i=n.goal w<;>simp[RS.ct,RS.step,e,ue]
 |4,_=>by_cases e:i=w<;>simp[RS.ct,RS.step,e]
 |5,_=>by_cases e:i=w<;>simp[RS.ct,RS.step,e]
 |6,_=>by_cases e:i=w<;>simp[RS.ct,RS.step,e,List.map_set]
 |(t+7),a=>calc absurd a (aa9 i)
theorem EB{nt:NT}(d:nt.Ok)(h:r.Ok nt){w k:Nat}(f:w<nt.ws.length):∀a c,some (nt.ev r w)=some ((a),c)->0<=a/\a<nt.ms.length/\1<=c/\c<=((r.step nt w k).mm a.toNat).hr.length:=by
 have b:=d.iq f;intro a c e
 cases e;refine((),(),?_,?_)
 ·have:=h.vE b;lia
 ·have d:(r.step nt w k).mm (nt.goal w)=((r.mm (nt.goal w)).fe++[(((nt.work r w k).ns),(nt.work r w k).row)],(r.mm (nt.goal w)).wp++[(r.mm (nt.goal w)).wp.bN []++(nt.work r w k).words],(r.mm (nt.goal w)).hr++[nt.ip r w k]):=if_pos rfl;rw[show((nt.goal w:Nat):Int).toNat=nt.goal w from aav _,d,h.lh _ b];simp
theorem qQ{outs:List Nat}{ev:Int×Int}:∀(ps:List (Int×Int)) {r:RS}{p:Int×Int},r.send outs ev (ps++[p])=(r.send outs ev ps).send outs ev [p]
 | [],r,p=>rfl
 |q::ps,r,p=>qQ ps
structure BF(F:Addr->Prop)(n:Nat->Nat)(ad:Nat->Nat->Addr)(A B H:Hp)(ct:Nat->Nat->CO):Prop where
 b:eJ F H n ad ct
 f:Fr (FP n ad) A H
 g:Fr (FP n ad) B H
section
variable {F:Addr->Prop}{n:Nat->Nat}{ad:Nat->Nat->Addr}{A B H H':Hp}{ct:Nat->Nat->CO}
theorem BF.same(h:BF F n ad A B H ct)(s:au H H'):BF F n ad A B H' ct:=(h.b.same s,h.f.trans s.fr,h.g.trans s.fr)
theorem BF.app(h:BF F n ad A B H ct){t i:Nat}(a:i<n t){d:List DV}(e:ct t i=.l d){vs:List V}(c:H (ad t i)=some (.lst vs)){us:List V}{es:List DV}(g:fN (kj (λb=>F b\/FP n ad b) H) 4 us es):BF F n ad A B (upd H (ad t i) (.lst (vs++us))) (setC ct t i (.l (d++es))):=(h.b.app a e c g,h.f.upd (t,i,a,rfl) c trivial,h.g.upd (t,i,a,rfl) c trivial)
end
abbrev jH:Stmt:=(cm (top 76)).getD 7 (.Pass (0,0,0,0))
inductive KR(C CN CR:Addr)(vs:List V)(H:Hp)(Q:VK):Prop
 |mk (F:Addr->Prop) (x aZ:Addr) (nt:NT) (r:RS) (ad:Nat->Nat->Addr) (wy k:Nat) (a:V) (h0:vs=[.ref x,.int (wy:Nat),.int (k:Nat),a]) (h1:bR C CN CR F H x aZ nt r ad) (h2:FS F H) (h3:r.Ok nt) (h4:r.Ql nt wy k) (h5:r.picks.length<=400) (h6:∀t H',Fr (FP nt.n ad) H H'->bR C CN CR F H' x aZ nt (r.pick nt wy k) ad->HT H' 1 t (pairD (nt.ev r wy))->Q t H'):KR C CN CR vs H Q
def EC(C CN CR:Addr):Sp:=λvs H Q _=>KR C CN CR vs H Q
theorem vQ(D:gY K CR "pick_at" "Run.pick_at" jH aK)(T:Tx K mg C CN CR F FD)(gD:cf P w K mg base C "worked" 3 eH (xg K C))(bD:cf P w K mg base CN "machines" 1 cz (gn CN))(cC:cf P w K mg base CN "ways" 1 cz (lY CN))(jI:cf P w K mg base CN "ways_in" 4 cb (uD C CN))(iP:cf P w K mg base CN "ways_out" 4 cb (rP C CN))(hV:cf P w K mg base CR "need_pick" 5 aK (Qm C CN CR))(c9:cf P w K mg base CR "put_letter" 1 du (uE C CN CR))(mi:cf P w K mg base CR "state" 4 cb (Qo C CN CR)):cf P w K mg base CR "pick_at" 6 aK (EC C CN CR):=by
 exists["self","way","number","at","m","place","machine","state","sent","words","event","ways_out","j","said"];let(F,x,N,m,r,ad,B,k,a,rfl,J,me,L,hc,o,q):=h;have o:=hr.units;refine(_,(ai (bL (dX hV T.aV hr (aq 0) (ag (aq 1) (ag (aq 2) (ag (aq 3) aa)))))
  (ai (bf (i:=4) sc rfl Sort (ao o (ao o (eU cC T.cO hr (bH (aq 0) rfl)) (aq 1)) aj))
  (ai (bf (i:=5) sc rfl Sort (dO qb PySem.F.slot_list_index PySem.F.type_list_index wM (dX jI T.cO hr (bH (aq 0) rfl) (ag (aq 4) aa)) (ag (aq 1) aa)))
  (ai (bf (i:=6) sc rfl Sort (ao o (eU bD T.cO hr (bH (aq 0) rfl)) (aq 4)))
  (ai (fA (dX gD T.cR hr (aq 6) (ag (dX mi T.aV hr (aq 0) (ag (aq 4) aa)) (ag (aq 5) (ag (ao o (ao o (bH (aq 0) rfl) (aq 1)) (aq 2)) aa)))) (ug (i:=7) (j:=8) (l:=9) rfl sc rfl rfl rfl Sort Sort Sort))
  (ai (bf (i:=10) sc rfl Sort (bu (ag (aq 4) (ag (bc aO rfl T.bS U' (ag (ao o (bH (aq 0) rfl) (aq 4)) aa)) aa))))
  (ai (bL (dO qb sm sr cw (bH (aq 0) rfl) (ag (bu (ag (aq 1) (ag (aq 2) aa))) aa)))
  (ai (fA (aq 10) (jx (ao o (bH (aq 0) rfl) (aq 1)) (aq 2) eN))
  (ai (bL (dO qb sm sr cw (ao o (bH (aq 0) rfl) (aq 4)) (ag (aq 7) aa)))
  (ai (bL (dO qb PySem.F.slot_list_extend PySem.F.type_list_extend NF (ao o (bH (aq 0) rfl) (aq 4)) (ag (aq 9) aa)))
  (ai (bL (dO qb sm sr cw (ao o (bH (aq 0) rfl) (aq 4)) (ag (bc aO rfl T.bS U' (ag (ao o (bH (aq 0) rfl) (aq 4)) aa)) aa)))
  (ai (bf (i:=11) sc rfl Sort (dX iP T.cO hr (bH (aq 0) rfl) (ag (aq 4) aa)))
  (ai (fB PassesOwn.never rfl (bZ (pv 8)) (g9 (i:=12) (j:=13) rfl sc rfl rfl Sort Sort)
  (ak (aT (aC gX (aq 12) (bc aO rfl T.bS U' (ag (aq 11) aa)) (aJ _)) (ak (bL (dX c9 T.aV hr (aq 0) (ag (ao o (aq 11) (aq 12)) (ag (aq 13) (ag (aq 10) aa)))))) aH)))
  (ak (aG (aq 10)))))))))))))))),?_)
 nofun;let(dx,o,M,ho):=J.ins;have hn:=J.Cy;have U:=hn.ok;let((ms,wv,lv,hf,o,Ax,Hy),_):=id hn;let(o,a1,b1,c1,g1,g2,g3,g4):=id hf;ac_rfl;left;calc gu M (dZ ⋯) ?_;calc(_,x,N,m,r,ad,B,k,a,rfl,J,L,hc,λH1 o=>?_);nofun;have I:=hc.lt;have G:=U.iq I;let(wk1,wk2,wk3,wk4):=sE U L I k;ac_rfl;left;calc fH (o _ _ M) T.aV T.cS qN ?_;left;calc gu (o _ _ g1) (fc ⋯ ⋯ ⋯) ?_;calc fZ N ms wv lv rfl (hf.same o) (λl hl=>?_);have s2:au H (upd H1 l (.lst wv)):=o.trans (au.new _ hl);have el:upd H1 l (.lst wv) l=some (.lst wv):=af;nofun;generalize Kn:upd H1 l (.lst wv)=H2 at *;have o:m.ws[B]?=some (m.w B):=a0 I;have ki:B<wv.length:=by have:=Hy.1;simp at this;lia
 have GB:=(Hy.2 B wv[B] (nk (m.w B)) nofun (by rw[J',o];rfl)).aL s2.aQ;let(ta,u1,u2,u3,kk,eta,vN,q1,q2,q3):=bV GB;obtain rfl:=q1.cL;obtain rfl:=q2.cL;obtain rfl:=q3.cV;ac_rfl;left;calc bG el (aA (j:=B) (v:=.ref ta) (by rw[<-eta];simp)) ?_;calc eF vN (show jc _ 1=some (.int ((m.goal B:Nat):Int)) from by rw[<-sM U I];calc aA (j:=1) rfl) ?_;left;calc fH (s2 _ _ M) T.aV T.cS qN ?_;left;calc gu (s2 _ _ g1) (fc ⋯ ⋯ ⋯) ?_;calc(N,m,m.goal B,rfl,hn.fr (Z:=λ_=>False) s2.fr,G,λl2 H3 Vy o Ot=>?_);have s3:=s2.trans Vy;calc(.inl (rfl,_,aY.of Ot),?_);let(o,ix2):=uJ (KQ U I);refine(l2,_,m.place B,B,rfl,rfl,by rw[Ot,xh],?_,?_,?_)
 ·rw[J',<-pZ U I,o];rfl
 ·intro i y hi hy;rw[J']at hy;let(z,hz,rfl):=Option.map_eq_some_iff.mp hy;have:=ix2 i z (by rw[pZ U I];calc hi) hz;lia
 left;calc fH (s3 _ _ M) T.aV T.cS qN ?_;left;calc gu (s3 _ _ g1) (fc ⋯ ⋯ ⋯) ?_;calc fZ N ms wv lv rfl (hf.same s3) (λl4 o=>?_);have W:au H (upd H3 l4 (.lst (ms.map V.ref))):=s3.trans (au.new _ o);have el4:upd H3 l4 (.lst (ms.map V.ref)) l4=some (.lst (ms.map V.ref)):=af;generalize hG4:upd H3 l4 (.lst (ms.map V.ref))=H4 at *;have Qj:m.goal B<ms.length:=by lia
 have o:m.ms[m.goal B]?=some (m.ms.getD (m.goal B) default):=a0 G;have ED:=(Ax (m.goal B) ms[m.goal B] _ (dH Qj) o).same W;have Ou:=U.gd G;left;calc bG el4 (aA (j:=m.goal B) (v:=.ref ms[m.goal B]) (by rw[J',dH Qj];rfl)) ?_;left;nofun;generalize ms[m.goal B]=mch at *;let(dm,o,y,Kq,hm2,hm3):=id ED;ac_rfl;calc gu Kq (Ej ⋯ ⋯ ⋯) ?_;calc gu (W _ _ M) (dZ ⋯) ?_;calc(_,x,N,m,r,ad,m.goal B,rfl,J.same W,L,G,λsv Vx=>?_);have l4':=W _ _ (ho 4 ∅ ∅).1;nofun;let(o,e4,d4):=(J.cW.same W).lst (t:=4) (i:=B) I rfl;have z4:=d4.qv;subst z4;ac_rfl;have yR:k<(r.ww B).say.length:=by rw[L.lk B I];exact(List.getElem?_eq_some_iff.mp hc.lies).1
 left;calc fH (W _ _ M) T.aV T.bM Gz ?_;left;calc bG l4' (bo I) ?_;calc bG e4 (aA (j:=k) (v:=.int ((r.ww B).say.getD k 0)) (by rw[J',a0 (d:=0) yR];rfl)) ?_;have o:=L.last G;calc(mch,sv,_,_,_,_,_,_,_,_,rfl,ED,zH.of Vx,Ou.m2,Ou.m12,o.bn,o.lr,Ou.d24,by rw[o.ln];calc Ou.ok,λy Y s45 TC=>?_);have s5:=W.trans s45;nofun;let(rp,MI,Vz,Qq,zs,rfl,o,CF,TF,lX,CG,fl1,adD,y):=TC.ex
 replace CF:HT Y 2 MI (zF (m.work r B k).ns (m.work r B k).row):=CF
 replace lX:SL Y zs (m.work r B k).cU:=lX
 replace CG:Y Qq=some (.lst ((m.work r B k).words.map V.int)):=CG
 ac_rfl;calc un3 (bP.of o) ?_;left;calc fH (s5 _ _ M) T.aV T.cj KH ?_;have b5:=J.cW.same s5;have i0:0<m.n 0:=by show 0<1;decide
 let(o,y,d1):=b5.lst (t:=1) (i:=m.goal B) G rfl;have z1:o.length=(r.mm (m.goal B)).fe.length:=by simpa using d1.1
 left;calc bG (s5 _ _ (ho 1 ∅ ∅).1) (bo G) ?_;calc iE _ (.inl (_,aY.of y,rfl)) cy (λev o=>?_);rw[z1];have s6:au H (upd Y ev (.tup [.int ((m.goal B:Nat):Int),.int (((r.mm (m.goal B)).fe.length:Nat):Int)])):=s5.trans (au.new _ o);have Ov:au Y (upd Y ev (.tup [.int ((m.goal B:Nat):Int),.int (((r.mm (m.goal B)).fe.length:Nat):Int)])):=au.new _ o;have adF:HT (upd Y ev (.tup [.int ((m.goal B:Nat):Int),.int (((r.mm (m.goal B)).fe.length:Nat):Int)])) 1 (.ref ev) (pairD (m.ev r B)):=dj (n:=0) af (.int _) (.int _);generalize hG6:upd Y ev (.tup [.int ((m.goal B:Nat):Int),.int (((r.mm (m.goal B)).fe.length:Nat):Int)])=H6 at *;have b6:=J.cW.same s6;left;calc fH (s6 _ _ M) T.aV T.cY Yd ?_;let(v0,e0,d0):=b6.lst (t:=0) (i:=0) i0 rfl;have o:v0.length=r.picks.length:=by simpa using d0.1
 left;calc je (.inl (rfl,_,aY.of e0)) cy (λtp o=>?_);left;have s7:au H (upd H6 tp (.tup [.int ((B:Nat):Int),.int ((k:Nat):Int)])):=s6.trans (au.new _ o);have yS:au H6 (upd H6 tp (.tup [.int ((B:Nat):Int),.int ((k:Nat):Int)])):=au.new _ o;have adG:HT (upd H6 tp (.tup [.int ((B:Nat):Int),.int ((k:Nat):Int)])) 1 (.ref tp) (pairD (((B:Int)),(k:Int))):=dj (n:=0) af (.int _) (.int _);generalize hG7:upd H6 tp (.tup [.int ((B:Nat):Int),.int ((k:Nat):Int)])=H7 at *;have b7:=J.cW.same s7;have FS7:FS F H7:=me.fr (Z:=λ_=>False) s7.fr (λ_ _ h=>h);have e07:=yS _ _ e0;have VA:=Ov.trans yS;calc iE v0 e07 (small ()) ?_;have S:=(BF.mk b7 s7.fr (Fr.refl:Fr (FP m.n ad) H7 H7)).app (t:=0) (i:=0) i0 rfl e07 (fN.one ((b7.ht FS7 adG).mono ∅));generalize hG8:upd H7 (ad 0 0) (.lst (v0++[.ref tp]))=H8 at *;have y:=ho 6 ∅ ∅;have o1:=ho 1 ∅ ∅;have o2:=ho 2 ∅ ∅;have o3:=ho 3 ∅ ∅;left;calc fH (S.f.nh M id) T.aV T.dw KI ?_;let(v6,e6,d6):=S.b.lst (t:=6) (i:=B) I rfl;have Y:v6.length=(r.ww B).dz.length:=by simpa using d6.1
 have o:k<v6.length:=by rw[Y,<-L.lk B I];exact yR
 left;calc bG (S.f.at y.1 y.2.2) (bo I) ?_;left;calc dq v6 k e6 (pV o) ?_;have Yi:=adF.aL yS.aQ;have w9:=BF.mk (S.b.set (t:=6) (i:=B) I rfl e6 (k:=k) ((S.b.ht (me.fr S.f J.cW.vP) (Yi.aL S.g.aQ)).mono ∅)) (S.f.upd (6,B,I,rfl) e6 trivial) (S.g.upd (6,B,I,rfl) e6 trivial);generalize hG9:upd H8 (ad 6 B) (.lst (v6.set k (.ref ev)))=H9 at *;left;calc fH (w9.f.nh M id) T.aV T.cj KH ?_;let(v19,o,d19):=w9.b.lst (t:=1) (i:=m.goal B) G rfl;have y:v19.length=(r.mm (m.goal B)).fe.length:=by simpa using d19.1
 have y:=L.bp _ G;left;calc bG (w9.f.at o1.1 o1.2.2) (bo G) ?_;calc(.inl (rfl,_,aY.of o),?_);left;calc iE v19 o (small ()) ?_;have II:=w9.app (t:=1) (i:=m.goal B) G rfl o (fN.one (show HD _ 4 MI (uf (((m.work r B k).ns),(m.work r B k).row)) from(w9.b.ht (me.fr w9.f J.cW.vP) ((CF.aL VA.aQ).aL w9.g.aQ)).mono ∅));have KS:¬FP m.n ad Vz:=λz=>by
  let(u,e,_):=(J.cW.same W).fp z;rw[fl1]at e;cases e
 have TH:¬FP m.n ad Qq:=λz=>by
  let(u,e,_):=(J.cW.same W).fp z;rw[adD]at e;cases e
 generalize Yj:upd H9 (ad 1 (m.goal B)) (.lst (v19++[MI]))=GD at *;left;calc fH (II.f.nh M id) T.aV T.cZ Ye ?_;let(v3,o,d3):=II.b.lst (t:=3) (i:=m.goal B) G rfl;have y:=d3.qv;have W:=L.bw _ G _ (iy (l:=(r.mm (m.goal B)).wp) (d:=[]) (by rw[<-L.lw _ G];calc L.vE G));have l:v3.length=((r.mm (m.goal B)).wp.bN []).length:=by rw[y];simp
 left;calc bG (II.f.at o3.1 o3.2.2) (bo G) ?_;calc(.inl (rfl,_,aY.of o),?_);left;calc yf v3 _ o (II.g.at (VA _ _ CG) TH) (M' (small (by simp;lia))) ?_;have wu:=II.app (t:=3) (i:=m.goal B) G rfl o (fN.ints (m.work r B k).words);have adJ:upd GD (ad 3 (m.goal B)) (.lst (v3++(m.work r B k).words.map V.int)) (ad 3 (m.goal B))=some (.lst (v3++(m.work r B k).words.map V.int)):=af;generalize Yk:upd GD (ad 3 (m.goal B)) (.lst (v3++(m.work r B k).words.map V.int))=Ow at *;left;calc fH (wu.f.nh M id) T.aV T.eC adt ?_;let(v2,e2,d2):=wu.b.lst (t:=2) (i:=m.goal B) G rfl;have l:v2.length=(r.mm (m.goal B)).wp.length:=by simpa using d2.1
 have l:=L.lw _ G;left;calc bG (wu.f.at o2.1 o2.2.2) (bo G) ?_;calc(.inl (rfl,_,aY.of e2),?_);left;calc fH (wu.f.nh M id) T.aV T.cZ Ye ?_;left;calc bG (wu.f.at o3.1 o3.2.2) (bo G) ?_;calc bJ _ (.inl (_,aY.of adJ,rfl)) ?_;left;calc iE v2 e2 (small ()) ?_;rw[show(v3++(m.work r B k).words.map V.int).length=((r.mm (m.goal B)).wp.bN []++(m.work r B k).words).length by simp;lia];have Bp:=wu.app (t:=2) (i:=m.goal B) G rfl e2 (fN.one (.int (((r.mm (m.goal B)).wp.bN []++(m.work r B k).words).length:Nat)));generalize Yl:upd Ow (ad 2 (m.goal B)) (.lst (v2++[.int (((r.mm (m.goal B)).wp.bN []++(m.work r B k).words).length:Nat)]))=Ym at *;have Yn:bR C CN CR F Ym x N m (r.step m B k) ad:=J.own Bp.f (Bp.b.congr Oq);have Yo:SL Ym zs (m.work r B k).cU:=(lX.aL VA.aQ).aL Bp.g.aQ;have pU:=Bp.g.at (VA _ _ TF) KS;have Yp:=Yi.aL Bp.g.aQ;have X:=Bp.f;clear b5 b6 b7 S w9 II wu Bp d0 d1 d2 d3 d4 d6 d19 hG8 hG9 Yj Yk Yl;left;calc fH (X.nh M id) T.aV T.cS qN ?_;left;calc gu (X.nh g1 id) (fc ⋯ ⋯ ⋯) ?_;calc(N,m,m.goal B,rfl,hn.fr X,G,λlo H13 kl flo GG=>?_);have nlo:¬FP m.n ad lo:=λz=>by
  let(u,e,_):=Yn.cW.fp z;rw[flo]at e;cases e
 left;have l:=Yn.same kl;have o:=kl _ _ pU;have Qr:=Yp.aL kl.aQ;have Qs:=Yo.aL kl.aQ;have MJ:zs.length=(m.work r B k).cU.length:=Qs.1;have f13:=X.trans kl.fr;have TJ:=L.step U I (k:=k);have TK:∀a c,some (m.ev r B)=some ((a),c)->0<=a/\a<m.ms.length/\1<=c/\c<=((r.step m B k).mm a.toNat).hr.length:=EB U L I;refine(_,rfl,.inl ((_,aY.of o),gQ (K:=K) (xs:=zs) (λi σ H'=>(∃TL TM,σ=[some (V.ref x),some (V.int ((B:Nat):Int)),some (V.int ((k:Nat):Int)),some a,some (V.int ((m.goal B:Nat):Int)),some (V.int ((m.place B:Nat):Int)),some (V.ref mch),some MI,some (V.ref Vz),some (V.ref Qq),some (V.ref ev),some (V.ref lo),TL,TM])/\Fr (FP m.n ad) H13 H'/\bR C CN CR F H' x N m ((r.step m B k).send (m.outs (m.goal B)) (m.ev r B) ((m.work r B k).cU.take i)) ad) ?_ ?_ ?_ ?_))
 ·exact((_,_,rfl),Fr.refl,l)
 ·rintro i σ H' hi ⟨_,O,_⟩;exact aY.of (O.at o KS)
 ·intro i z σ H' hz jf;nofun;let((TL,TM,rfl),O,qR):=jf;have l:i < zs.length:=(List.getElem?_eq_some_iff.mp hz).1;have l:i < (m.work r B k).cU.length:=by lia
  have o:(m.work r B k).cU[i]?=some (m.work r B k).cU[i]:=dH l;have GH:=wk4 _ (aax l);have TN:=(Qs.2 i z _ hz o).aL O.aQ;have Ox:(r.step m B k).send (m.outs (m.goal B)) (m.ev r B) ((m.work r B k).cU.take (i+1))=((r.step m B k).send (m.outs (m.goal B)) (m.ev r B) ((m.work r B k).cU.take i)).send (m.outs (m.goal B)) (m.ev r B) [(m.work r B k).cU[i]]:=by
   rw[aa6,o];exact qQ _
  generalize (m.work r B k).cU[i]=p at *;let(R,px):=p;let(tz,u1,u2,kz,rfl,Ho,y1,y2):=dQ TN;obtain rfl:=y1.cL;obtain rfl:=y2.cL;ac_rfl;calc Bl (bP.of Ho) ?_;have o:=O.at GG nlo;left;calc bJ _ (.inl (_,aY.of o,rfl)) ?_;left;have l:((vL m 0 (m.goal B)).map λi=>V.int ((i:Nat):Int)).length=(m.outs (m.goal B)).length:=by rw[T'];rfl
  rw[l];have u:R.toNat=R.toNat:=rfl;have u:((R.toNat:Nat):Int)=R:=aa0 GH;by_cases y:R<((m.outs (m.goal B)).length:Nat)
  ·rw[if_pos (by simpa using y)];have l:R.toNat < (m.outs (m.goal B)).length:=by lia
   have G:(m.outs (m.goal B)).getD R.toNat 0<m.ws.length:=by
    have:=getD_mem (d:=0) l;unfold NT.outs at this ⊢;rw[List.mem_filter,abf]at this;exact this.1
   left;let(L,M,I,S):=qR.ins;calc gu I (dZ ⋯) ?_;refine bG o (show jc _ R=some (.int (((m.outs (m.goal B)).getD R.toNat 0:Nat):Int)) from by
    rw[<-u];calc aA ?_;rw[J'];show Option.map _ (m.outs (m.goal B))[_]?=_;rw[aav,a0 (d:=0) l];rfl) ?_
   have I:=(RS.vn.send (outs:=m.outs (m.goal B)) (ev:=m.ev r B) ((m.work r B k).cU.take i) TJ TK).mono (show _<=19999 by simp;lia);calc(F,x,N,m,_,ad,_,px,.ref ev,some (m.ev r B),rfl,qR,me.fr (f13.trans O) J.cW.vP,G,(Qr.aL O.aQ).mono ∅,I,λo L u=>?_);left;calc je (_,_,rfl,rfl) (O.trans L) ?_;rw[Ox];show bR C CN CR F o x N m (if R.toNat<_ then _ else _) ad;rw[if_pos l];exact u
  ·rw[if_neg (by simpa using y)];left;calc je (_,_,rfl,rfl) O ?_;rw[Ox];show bR C CN CR F H' x N m (if R.toNat<_ then _ else _) ad;rw[if_neg ()];exact qR
 ·intro σ H' jh;let((TL,TM,rfl),O,qR):=jh;left;rw[MJ,aaz]at qR;calc q _ _ (f13.trans O) qR (Qr.aL O.aQ)
def _root_.DD.RS.MK(r:RS)(w:Nat):List Nat:=(List.range (r.ww w).say.length).filter λk=>((r.ww w).dz.getD k none).isNone
def Oy(r:RS)(w:Nat)(ks:List Nat):List DV:=ks.map λ(k:Nat)=>pairD ((((k:Nat):Int)),(r.ww w).say.getD k 0)
theorem jr{p:Nat->Bool}{i:Nat}:(List.range (i+1)).filter p=(List.range i).filter p++(if p i=true then[i] else[]):=by
 rw[List.range_succ,List.filter_append];congr 1
 cases h:p i<;>simp[h]
theorem KU(c:∀b,Z b->∃o,H b=some o/\soft o){m:Nat}{x:V}{d:DV}(g:HT H m x d):HD (kj Z H) m x d:=by
 calc HT.hd (g.aL λb h e=>?_);rw[iD (λz=>by
  let(o,a,f):=c b z;rw[e] at a;cases a;calc f)]
 calc e
structure uL(H0 H':Hp)(D:Addr)(as:List Addr)(n:Nat)(ct:Nat->Hp->List V->Prop):Prop where
 len:as.length=n
 nd:as.Nodup
 new:∀a∈as,H0 a=none/\a≠D
 ins:∀(j:Nat) a,as[j]?=some a->∃vs,H' a=some (.lst vs)/\ct j H' vs
theorem uL.nil{ct:Nat->Hp->List V->Prop}:uL H0 H' D [] 0 ct:=(rfl,List.nodup_nil,λa h=>by simp at h,λj a h=>by simp at h)
theorem uL.snoc{n:Nat}{ct:Nat->Hp->List V->Prop}(h:uL H0 H1 D as n ct)(p:au H0 H1)(q:H1 D≠none)(g:H1 a=none){vs:List V}(e:H' a=some (.lst vs))(c:ct n H' vs)(s:∀b o,b≠D->H1 b=some o->H' b=some o)(f:∀j vs,ct j H1 vs->ct j H' vs):uL H0 H' D (as++[a]) (n+1) ct:=by
 refine(by simp[h.len],?_,λb d=>?_,λj b d=>?_)
 ·rw[List.nodup_append];calc je h.nd nofun (λb d c l=>?_);simp at l;subst l;intro z;subst z;let(j,k):=List.getElem?_of_mem d;let(vs,i,_):=h.ins j b k;rw[g]at i;cases i
 ·rcases List.mem_append.mp d with d | d
  ·exact h.new b d
  ·simp at d;subst d;refine(?_,λz=>q (z ▸ g))
   cases r:H0 b with
   |none=>rfl
   |some o=>rw[p _ _ r]at g;cases g
 ·by_cases k:j < as.length
  ·rw[aad k]at d;let(vs,i,g):=h.ins j b d;exact(vs,s _ _ (h.new b (aao d)).2 i,f _ _ g)
  ·rw[X' ()] at d
   cases m:j-as.length with
   |zero=>
    rw[m]at d;simp at d;subst d;have:j=n:=by have:=h.len;lia
    subst this;calc(vs,e,c)
   |succ k=>rw[m]at d;simp at d
theorem uL.keep{n:Nat}{ct:Nat->Hp->List V->Prop}(h:uL H0 H1 D as n ct)(s:∀(b:Addr) (vs:List V),H1 b=some (.lst vs)->H' b=some (.lst vs))(c:∀j vs,ct j H1 vs->ct j H' vs):uL H0 H' D as n ct:=
 (h.len,h.nd,h.new,λj a e=>by
  let(vs,d,f):=h.ins j a e;calc(vs,s _ _ d,c _ _ f))
theorem mj{K:W.Frag}{ix:List (Option Nat)}{o:TE}{l:Addr}{xs vs:List V}(r:H l=some (.lst xs))(t:H D=none)(C:xs.length<=10)(v:∀x,Ext (vz ix σ) ((vz ix σ).set 0 (some x)))(d:∀g j (R:VK),(∀p,j p=none->R (.ref p) (upd j p (.lst vs)))->o g j R)(q:∀as H1,H1 D=some (.lst (as.map V.ref))->au H H1->uL H H1 D as xs.length (λ_ _ ws=>ws=vs)->Q (.ref D) H1):lM ix (v9 K l) (fE 0) jl o σ H Q D:=by
 refine bq (n:=xs.length) (λi ys H'=>∃as:List Addr,ys=as.map V.ref/\au H H'/\uL H H' D as i (λ_ _ ws=>ws=vs)) (M' (small ())) ([],rfl,au.new _ t,uL.nil) ?_ ?_ ?_ ?_
 ·rintro i ys H' k ⟨_,_,a,_⟩;exact(_,xs[i],aY.of (a _ _ r),dH k)
 ·rintro ys H' ⟨_,_,a,_⟩;exact(_,aY.of (a _ _ r),L' _)
 ·intro i ys H' k c u w y F z;let(as,rfl,a,m):=w;let(rfl,g):=z;calc(v y,?_);simp only[jl,if_true];calc d _ _ _ λp g=>?_;have d:=au.new (.lst vs) g;have i:p≠D:=Ne.symm (av c g);refine bW (d _ _ c) u k (M' (small ())) (as++[p],nofun,λb o e=>?_,?_)
  ·rw[az (av e t)];exact d _ _ (a _ _ e)
  ·refine m.snoc a (by rw[c];simp) g (vs:=vs) ?_ rfl (λb o a e=>?_) (λj vs e=>e)
   ·rw[az i];exact af
   ·rw[az a];exact d _ _ e
 ·intro ys H1 c u B;let(as,rfl,a,m):=B;calc q as H1 c a m
abbrev jJ:Stmt:=(cm (top 76)).getD 17 (.Pass (0,0,0,0))
def uM(C CN CR:Addr):Sp:=λvs H Q _=>∃(F:Addr->Prop) (x b:Addr) (nt:NT) (r:RS) (ad:Nat->Nat->Addr) (a i:Nat),vs=[.ref x,.int a,.int i]/\bR C CN CR F H x b nt r ad/\r.Ok nt/\a<nt.ws.length/\i<(r.ww a).say.length/\∀v,HT H 1 v (nU ((r.ww a).snd.getD i none))->Q v H
theorem vR(D:gY K CR "sent_by" "Run.sent_by" jJ bx)(T:Tx K mg C CN CR F FD)(n:cf P w K mg base CR "need_letter" 4 aK (Ay C CN CR)):cf P w K mg base CR "sent_by" 5 bx (uM C CN CR):=by
 exists bx;let(F,x,j,k,r,ad,a,i,rfl,c,m,b,g,q):=h;have l:=hr.units;refine(_,(ai (bL (dX n T.aV hr (aq 0) (ag (aq 1) (ag (aq 2) (ag aj aa)))))
  (ak (aG (ao l (ao l (bH (aq 0) rfl) (aq 1)) (aq 2))))),?_)
 let(l,o,n,p):=c.ins;left;calc gu n (dZ ⋯) ?_;calc(_,x,j,k,r,ad,a,i,_,rfl,c,b,g,?_);left;have l:=(p 5 ∅ ∅).1;nofun;let(v,e,d):=c.cW.lst (t:=5) (i:=a) b rfl;have c:i<(r.ww a).snd.length:=by rw[<-m.ls a b];exact g
 let(u,g,j):=d.get (i:=i) (d:=nU ((r.ww a).snd.getD i none)) (by rw[J',a0 (d:=none) c];rfl);ac_rfl;calc fH n T.aV T.fu Yf ?_;left;calc bG l (bo b) ?_;calc bG e (aA g) ?_;calc q _ (KO (j.cv fC))
abbrev hX:Stmt:=(cm (top 76)).getD 18 (.Pass (0,0,0,0))
def yq(C CN CR:Addr):Sp:=λvs H Q _=>∃(F:Addr->Prop) (x b:Addr) (nt:NT) (r:RS) (ad:Nat->Nat->Addr) (a i:Nat),vs=[.ref x,.int a,.int i]/\bR C CN CR F H x b nt r ad/\r.Ok nt/\a<nt.ws.length/\i<(r.ww a).say.length/\∀v,HT H 1 v (nU ((r.ww a).dz.getD i none))->Q v H
theorem r6(D:gY K CR "worked_by" "Run.worked_by" hX bx)(T:Tx K mg C CN CR F FD)(n:cf P w K mg base CR "need_letter" 4 aK (Ay C CN CR)):cf P w K mg base CR "worked_by" 5 bx (yq C CN CR):=by
 exists bx;let(F,x,j,k,r,ad,a,i,rfl,c,m,b,g,q):=h;have l:=hr.units;refine(_,(ai (bL (dX n T.aV hr (aq 0) (ag (aq 1) (ag (aq 2) (ag aj aa)))))
  (ak (aG (ao l (ao l (bH (aq 0) rfl) (aq 1)) (aq 2))))),?_)
 let(l,o,n,p):=c.ins;left;calc gu n (dZ ⋯) ?_;calc(_,x,j,k,r,ad,a,i,_,rfl,c,b,g,?_);left;have l:=(p 6 ∅ ∅).1;nofun;let(v,e,d):=c.cW.lst (t:=6) (i:=a) b rfl;have c:i<(r.ww a).dz.length:=by rw[<-m.lk a b];exact g
 let(u,g,j):=d.get (i:=i) (d:=nU ((r.ww a).dz.getD i none)) (by rw[J',a0 (d:=none) c];rfl);ac_rfl;calc fH n T.aV T.dw KI ?_;left;calc bG l (bo b) ?_;calc bG e (aA g) ?_;calc q _ (KO (j.cv fC))
theorem Yu{CR x a:Addr}{C:Hp}{f:List (Str×V)}(c:List (Str×V))(s:au C H)(d:H x=some (.ins CR a f)):∃G,upd H x (.ins CR a c)=G/\G x=some (.ins CR a c)/\(∀b o,b≠x->C b=some o->G b=some o)/\(∀b vs,H b=some (.lst vs)->G b=some (.lst vs))/\ck H G:=(_,rfl,af,λb o n e=>by rw[az n];calc s _ _ e,λb vs e=>by rw[az (λz=>by rw[z,d]at e;cases e)];calc e,λb vs e=>by rw[az (λz=>by rw[z,d]at e;cases e)];calc e)
theorem Yv{C:Hp}{d:Addr}(a:List (Key×V))(s:au C H):∃G,upd H d (.dK a)=G/\G d=some (.dK a)/\(∀b o,b≠d->C b=some o->G b=some o)/\(∀b o,b≠d->H b=some o->G b=some o):=(_,rfl,af,λb o n e=>by rw[az n];calc s _ _ e,λb o n e=>by rw[az n];calc e)
theorem qS:∀(ps:List (Int×Int)) {r:RS}{p:Int×Int},r.lx (ps++[p])=(r.lx ps).put p.1.toNat p.2 none
 | [],r,p=>rfl
 |q::ps,r,p=>qS ps
theorem CI{nt:NT}(j:nt.Ok):(RS.new nt).vn nt 0:=by
 refine(λm e=>rfl,λm e=>rfl,λm e s d=>?_,λm e h f=>?_,λv i=>rfl,λv i=>rfl,λv i a c d=>?_,λm e=>L' _,λm e u b=>?_,λv i=>L' _,λm e u b=>?_)
 ·have g:=j.gd e;have d:s ∈ [(((nt.ms.getD m default).ns),(nt.ms.getD m default).row)]:=d;simp at d;subst d;exact(rfl,g.bn,g.r12)
 ·have f:h∈([]:List (List Int)):=f;simp at f
 ·have d:some ((a),c)∈([]:List (Option (Int×Int))):=d;simp at d
 ·have b:u∈([[]]:List (List Int)):=b;simp at b;subst b;exact L' _
 ·have b:u∈([[]]:List (List Int)):=b;simp at b;subst b;calc List.nil_prefix
theorem sQ{nt:NT}:∀(ps:List (Int×Int)) {r:RS}{B:Nat},r.vn nt B->(r.lx ps).vn nt (B+ps.length)
 | [],r,B,h=>h
 |p::ps,r,B,h=>by
  have e:B+(p::ps).length=B+1+ps.length:=by simp;lia
  rw[e];calc sQ ps (h.put (λa c z=>by cases z))
theorem uN:∀(ps:List (Int×Int)) {r:RS},(r.lx ps).picks=r.picks
 | [],r=>rfl
 |p::ps,r=>uN ps
theorem uO{nt:NT}(a:nt.Ok){ls:List (Int×Int)}(h:ls.length<=20):(RS.begin nt ls).Ok nt/\(RS.begin nt ls).picks=[]:=by
 have e:(RS.begin nt ls).picks=[]:=uN ls;calc((sQ ls (CI a)).ok ?_,e);show 0+ls.length<=20+24*(RS.begin nt ls).picks.length;rw[e];simp;lia
structure rQ(H0 H':Hp)(D:Addr)(as:List Addr)(n:Nat)(ct:Nat->Hp->HO->Prop):Prop where
 len:as.length=n
 nd:as.Nodup
 new:∀a∈as,H0 a=none/\a≠D
 ins:∀(j:Nat) a,as[j]?=some a->∃o,H' a=some o/\ct j H' o
theorem uL.o{n:Nat}{ct:Nat->Hp->List V->Prop}(h:uL H0 H' D as n ct):rQ H0 H' D as n (λj H u=>∃vs,u=.lst vs/\ct j H vs):=(h.len,h.nd,h.new,λj a e=>by
 let(vs,a,b):=h.ins j a e;calc(_,a,_,rfl,b))
theorem uL.some{n:Nat}{ct:Nat->Hp->List V->Prop}(h:uL H0 H1 D as n ct)(s:au H1 H2):∀a∈as,H2 a≠none:=λa m=>by
 let(j,e):=List.getElem?_of_mem m;let(b,e,_):=h.ins j a e;rw[s _ _ e];calc λz=>nomatch z
theorem EF{F:Addr->Prop}{G:Hp}{n:Nat->Nat}{c:Nat->Nat->CO}(g:Nat->Hp)(k:Nat->Nat)(p:Nat->List Addr)(o:Nat->Addr)(ct:Nat->Nat->Hp->HO->Prop)(W:∀t i,ad t i=(p t).getD i 0)(X:∀t,n (t+7)=0)(K:∀t t',t<=6->t'<=6->k t=k t'->t=t')(B:∀t b,g t b≠none->g (t+1) b≠none)(C:∀b,F b->g 0 b≠none/\∃u,G b=some u/\soft u)
  (q:∀t,t<=6->rQ (g (k t)) G (o t) (p t) (n t) (ct t)/\(∀a∈p t,g (k t+1) a≠none)/\(1<=t->g (k t) (o t)=none/\g (k t+1) (o t)≠none)) (Y:∀t i u,t<=6->ct t i G u->soft u)
  (Z:(∀b,F b\/FP n ad b->∃u,G b=some u/\soft u)->(∀s D,g s D=none->g (s+1) D≠none->(∀t,t<=6->k t=s->¬D∈p t)->¬(F D\/FP n ad D))->∀t i u,t<=6->i<n t->G (ad t i)=some u->ct t i G u->OR (kj (λb=>F b\/FP n ad b) G) (c t i) u):
  eJ F G n ad c/\(∀b,FP n ad b->g 0 b=none/\∃u,G b=some u/\soft u)/\∀t,1<=t->t<=6->¬F (o t)/\¬FP n ad (o t)/\(p t).map V.ref=lj n ad t:=by
 have r:∀t i,i<n t->t<=6:=λt i h=>Classical.byContradiction λz=>by
  have:=X (t-7);rw[show t-7+7=t by lia]at this;lia
 have up:∀(d t:Nat) (b:Addr),g t b≠none->g (t+d) b≠none:=λd=>by
  induction d with
  |zero=>calc λt b h=>h
  |succ d o=>exact λt b h=>B _ _ (o t b h)
 have v:∀s o b,s<=o->g s b≠none->g o b≠none:=λs o b h e=>by
  have:=up (o-s) s b e;rwa [show s+(o-s)=o by lia]at this
 have w:∀t i,i<n t->(p t)[i]?=some (ad t i)/\g (k t) (ad t i)=none/\g (k t+1) (ad t i)≠none/\∃u,G (ad t i)=some u/\ct t i G u:=λt i j=>by
  let(h,x,_):=q t (r t i j);have e:(p t)[i]?=some (ad t i):=by rw[W];exact a0 (by rw[h.len];calc j)
  have m:=aao e;exact(e,(h.new _ m).1,x _ m,h.ins _ _ e)
 have L:∀s D,g s D=none->g (s+1) D≠none->(∀t,t<=6->k t=s->¬D∈p t)->¬(F D\/FP n ad D):=λs D M x hn z=>by
  rcases z with z|⟨t,i,j,rfl⟩
  ·exact v 0 s D (aap _) (C D z).1 M
  ·let(e,I,y,_):=w t i j;rcases Nat.lt_trichotomy s (k t) with l | l | l
   ·exact v _ _ _ l x I
   ·exact hn t (r t i j) l.symm (aao e)
   ·exact v _ _ _ l y M
 have N:∀b,FP n ad b->g 0 b=none/\∃u,G b=some u/\soft u:=λb (t,i,j,e)=>by
  subst e;let(_,I,_,u,y,J):=w t i j;exact(Classical.byContradiction λz=>v 0 _ _ (aap _) z I,u,y,Y t i u (r t i j) J)
 refine((λt i t' O j P e=>?_,λt i j z=>?_,λt i j=>?_),N,λt x R=>?_)
 ·let(a1,a2,a3,_):=w t i j;let(S,T,U,_):=w t' O P;rw[<-e]at S T U;have es:k t=k t':=by
   rcases Nat.lt_trichotomy (k t) (k t') with l|l|l
   ·exact absurd T (v _ _ _ l a3)
   ·exact l
   ·exact absurd a2 (v _ _ _ l U)
  have:=K t t' (r t i j) (r t' O P) es;subst this;have h:=(q t (r t i j)).1;exact(rfl,(List.getElem?_inj (by rw[h.len];calc j) h.nd).mp (a1.trans S.symm))
 ·exact v 0 _ _ (aap _) (C _ z).1 (w t i j).2.1
 ·let(_,_,_,u,y,J):=w t i j;exact(u,y,Z (λb z=>z.elim (λh=>(C b h).2) λh=>(N b h).2) L t i u (r t i j) j y J)
 ·let(h,_,g):=q t R;have:=L _ _ (g x).1 (g x).2 (λt' h' e m=>by
   have:=K t' t h' R e;subst this;calc(h.new _ m).2 rfl)
  calc(λz=>this (.inl z),λz=>this (.inr z),?_);unfold lj;apply List.ext_getElem (by simp[h.len]);intro j k g;have i:j<n t:=by simpa using g
  simp only[List.getElem_map,List.getElem_range];congr 1;calc(List.getElem_eq_iff _).mpr (w t j i).1
theorem Oz{CN e:Addr}{f:List V}{c:List Addr}{d g:List V}(h:nu CN H e ms wv f)(h':nu CN H e c d g):f=g:=by
 let(d,e,f,g,c,j,k,i):=h;let(d,e,f,g,a,j,k,b):=h';rw[c]at a
 cases a;rw[i]at b
 cases b;rfl
theorem yr{C c:Addr}{p:Str×V}{l:List (Str×V)}(h:some (HO.ins C a [])=some (HO.ins c b (p::l))):False:=by cases h
theorem nc{K:W.Frag}{C:Hp}{x CR h:Addr}{c:List (Str×V)}{f:Str}{v:V}{n:Nat}(s:au C H)(d:C x=some (.ins CR h c))(k:vq K CR)(l:bT K CR f)(m:c.length<n)(q:∀G,G x=some (.ins CR h (bQ f v c))->(∀b o,b≠x->C b=some o->G b=some o)->(∀b vs,H b=some (.lst vs)->G b=some (.lst vs))->ck H G->(bQ f v c).length<n+1->R G)(g:n<=1000:=by decide):∃a g j i,x=a/\H a=some (.ins g j i)/\vq K g/\bT K g f/\i.length<1000/\R (upd H a (.ins g j (bQ f v i))):=by
 have d:=s _ _ d;let(G,e,g,i,j,n):=Yu (bQ f v c) s d;calc(x,CR,h,c,rfl,d,k,l,(),e▸q G g i j n (jA m))
abbrev KW:Stmt:=(cm (top 76)).getD 0 (.Pass (0,0,0,0))
inductive KY(C CN CR:Addr)(vs:List V)(H:Hp)(Q:VK):Prop
 |mk (F:Addr->Prop) (x dx aZ:Addr) (nt:NT) (ls:List (Int×Int)) (ms:List Addr) (wv lv:List V) (h0:vs=[.ref x,.ref aZ]) (h1:H x=some (.ins CR dx [])) (h2:vK C CN H aZ nt) (h3:nu CN H aZ ms wv lv) (h4:fV H 1 lv (ls.map qJ)) (h5:ls.length<=20) (h6:∀l∈ls,0<=l.1/\l.1<nt.ws.length) (me:FS F H) (h7:∀ad H',(∀b o,b≠x->H b=some o->H' b=some o)->(∀b,FP nt.n ad b->H b=none)->bR C CN CR F H' x aZ nt (RS.begin nt ls) ad->Q .bO H'):KY C CN CR vs H Q
def EG(C CN CR:Addr):Sp:=λvs H Q _=>KY C CN CR vs H Q
theorem Yx(D:FW K mg "Run" CR "Run.__init__" KW ["self","net"])(T:Tx K mg C CN CR F FD)(eX:cf P w K mg base C "first_state" 1 cz (Ko C))(jK:cf P w K mg base CN "letters" 1 cz (rO CN))(bD:cf P w K mg base CN "machines" 1 cz (gn CN))(cC:cf P w K mg base CN "ways" 1 cz (lY CN))(c9:cf P w K mg base CR "put_letter" 1 du (uE C CN CR)):zz P w K mg base "Run" CR 2 ["self","net"] (EG C CN CR):=by
 exists["self","net","way","said"];let(FF,x,S,k,l,ls,ms0,wv0,lv,rfl,U,hn,hf0,MC,lW,rM,me,q):=h;have hu:=hr.units;refine(_,(ai (gb (aq 0) (aq 1) (gO rfl))
  (ai (gb (aq 0) (bE aa) (gO rfl))
  (ai (gb (aq 0) (df (N':=["machine"]) (ix:=[none]) (bZ (eU bD T.cO hr (aq 1))) (λ_ _ _ _=>(ba (i:=0) (show(["machine"]:List Str).Nodup by decide +kernel) rfl Sort)) nL (λ_ _ _ _=>(bE (ag (eU eX T.cR hr (aq 0)) aa)))) rfl)
  (ai (gb (aq 0) (df (N':=["machine"]) (ix:=[none]) (bZ (eU bD T.cO hr (aq 1))) (λ_ _ _ _=>(ba (i:=0) (show(["machine"]:List Str).Nodup by decide +kernel) rfl Sort)) nL (λ_ _ _ _=>(bE (ag aj aa)))) rfl)
  (ai (gb (aq 0) (df (N':=["machine"]) (ix:=[none]) (bZ (eU bD T.cO hr (aq 1))) (λ_ _ _ _=>(ba (i:=0) (show(["machine"]:List Str).Nodup by decide +kernel) rfl Sort)) nL (λ_ _ _ _=>(bE aa))) rfl)
  (ai (gb (aq 0) (df (N':=["way"]) (ix:=[none]) (bZ (eU cC T.cO hr (aq 1))) (λ_ _ _ _=>(ba (i:=0) (show(["way"]:List Str).Nodup by decide +kernel) rfl Sort)) nL (λ_ _ _ _=>(bE aa))) rfl)
  (ai (gb (aq 0) (df (N':=["way"]) (ix:=[none]) (bZ (eU cC T.cO hr (aq 1))) (λ_ _ _ _=>(ba (i:=0) (show(["way"]:List Str).Nodup by decide +kernel) rfl Sort)) nL (λ_ _ _ _=>(bE aa))) rfl)
  (ai (gb (aq 0) (df (N':=["way"]) (ix:=[none]) (bZ (eU cC T.cO hr (aq 1))) (λ_ _ _ _=>(ba (i:=0) (show(["way"]:List Str).Nodup by decide +kernel) rfl Sort)) nL (λ_ _ _ _=>(bE aa))) rfl)
  (ak (fB PassesOwn.never rfl (bZ (eU jK T.cO hr (aq 1))) (g9 (i:=2) (j:=3) rfl sc rfl rfl Sort Sort)
  (ak (bL (dX c9 T.aV hr (aq 0) (ag (aq 2) (ag (aq 3) (ag jw aa)))))))))))))))),?_)
 have aW:=hn.ok;nofun;let((ms,wv,N,hf,nr,Ax,Hy),_):=id hn;let(Z,a1,b1,c1,I,g2,g3,g4):=id hf;have Sv:N=lv:=Oz hf hf0;subst Sv;ac_rfl;have Gu:(ms.map V.ref).length<=5:=by simp[nr];exact aW.PY
 have ki:wv.length=l.ws.length:=by simpa using Hy.1
 have rX:wv.length<=10:=by rw[ki];exact aW.F4
 have O:k≠x:=λz=>by rw[z,U]at I;exact yr I
 have Qu:a1≠x:=Dh g2 U (λz=>nomatch z);have Qv:b1≠x:=Dh g3 U (λz=>nomatch z);have Qw:c1≠x:=Dh g4 U (λz=>nomatch z);left;refine F7 x CR S _ rfl U T.aV T.cS ∅ ?_;have hxa:upd H x (.ins CR S (bQ "own_net" (.ref k) [])) x=some (.ins CR S (bQ "own_net" (.ref k) [])):=af;have nxa:∀b o,b≠x->H b=some o->upd H x (.ins CR S (bQ "own_net" (.ref k) [])) b=some o:=λb o n e=>by rw[az n];exact e
 generalize hGa:upd H x (.ins CR S (bQ "own_net" (.ref k) []))=Ga at *;left;refine(aap _,λp hp=>?_);have sp0:=au.new (.lst []) hp;have ep0:upd Ga p (.lst []) p=some (.lst []):=af;generalize hGb:upd Ga p (.lst [])=Gb at *;left;refine F7 x CR S _ rfl (sp0 _ _ hxa) T.aV T.cY (jA (n:=999) ∅) ?_;have TU:upd Gb x (.ins CR S (bQ "picks_done" (.ref p) (bQ "own_net" (.ref k) []))) x=some (.ins CR S (bQ "picks_done" (.ref p) (bQ "own_net" (.ref k) []))):=af;have ka:∀b o,b≠x->Ga b=some o->upd Gb x (.ins CR S (bQ "picks_done" (.ref p) (bQ "own_net" (.ref k) []))) b=some o:=λb o n e=>by rw[az n];exact sp0 _ _ e
 have npx:p≠x:=Ne.symm (av hxa hp);have ep:upd Gb x (.ins CR S (bQ "picks_done" (.ref p) (bQ "own_net" (.ref k) []))) p=some (.lst []):=by rw[az npx];exact ep0
 generalize hG0:upd Gb x (.ins CR S (bQ "picks_done" (.ref p) (bQ "own_net" (.ref k) [])))=G0 at *;have Tv:(bQ "picks_done" (.ref p) (bQ "own_net" (.ref k) [])).length<3:=jA (jA (Nat.zero_lt_succ _));have Qx:∀b o,b≠x->H b=some o->G0 b=some o:=λb o n e=>ka b o n (nxa b o n e);left;refine bI ?_;left;refine gu (Qx _ _ O I) (fc ⋯ ⋯ ⋯) ?_;refine fZ k ms wv N rfl (Z,a1,b1,c1,Qx _ _ O I,Qx _ _ Qu g2,Qx _ _ Qv g3,Qx _ _ Qw g4) (λlm1 adR=>?_);have TV:=au.new (.lst (ms.map V.ref)) adR;have OA:upd G0 lm1 (.lst (ms.map V.ref)) lm1=some (.lst (ms.map V.ref)):=af;generalize ajF:upd G0 lm1 (.lst (ms.map V.ref))=Yy at *;left;refine .inl ((_,aY.of OA),λD1 Hw=>?_);refine bq (J:=v9 K lm1) (n:=(ms.map V.ref).length) (λi ys H'=>∃as:List Addr,ys=as.map V.ref/\au Yy H'/\uL Yy H' D1 as i (λj H' vs=>∃v,vs=[v]/\HT H' 2 v (zF (l.ms.getD j default).ns (l.ms.getD j default).row))) (M' (small ())) ([],rfl,au.new _ Hw,uL.nil) ?_ ?_ ?_ ?_
 ·rintro i ys H' hi ⟨_,_,s3,_⟩;exact(_,(ms.map V.ref)[i],aY.of (s3 _ _ OA),dH hi)
 ·rintro ys H' ⟨_,_,s3,_⟩;exact(_,aY.of (s3 _ _ OA),L' _)
 ·intro i ys H' hi y hl jf xx H4 jh;nofun;let(as,rfl,s3,hL):=jf;let(rfl,hy):=jh;ac_rfl;have ex:=hy _ (aY.of (s3 _ _ OA));walk_at "xf";left
  try rw[if_pos trivial]
  have him:i<ms.length:=by simpa using hi
  have exm:xx=.ref ms[i]:=by
   rw[J',dH him]at ex
   cases ex;rfl
  nofun;subst exm;have OB:i<l.ms.length:=by lia
  have nmx:ms[i]≠x:=λz=>by
   let(d1,s1,d2,X,_):=Ax i ms[i] _ (dH him) (a0 (d:=default) OB);rw[z,U]at X;exact yr X
  have Yz:Vp C H4 ms[i] (l.ms.getD i default):=by
   let(d1,s1,d2,X,w2,w3):=Ax i ms[i] _ (dH him) (a0 (d:=default) OB);have tt:ck H H4:=λb xs e=>s3 _ _ (TV _ _ (Qx b _ (λz=>by rw[z,U]at e;cases e) e));exact(d1,s1,d2,s3 _ _ (TV _ _ (Qx _ _ nmx X)),w2.aL tt,w3.aL tt)
  let(d1,s1,d2,X,w2,w3):=id Yz;ac_rfl;calc mth X (Ej ⋯ ⋯ ⋯) ?_;calc(ms[i],_,_,_,_,rfl,Yz,λst pf=>?_);left;calc(M' (small nofun),λp hp=>?_);have sN:=au.new (.lst [st]) hp;have nD:p≠D1:=Ne.symm (av y hp);refine bW (sN _ _ y) hl hi (M' (small ())) (as++[p],nofun,λb o e=>?_,?_)
  ·rw[az (av e Hw)];exact sN _ _ (s3 _ _ e)
  ·refine hL.snoc s3 (by rw[y];simp) hp (vs:=[st]) ?_ (st,rfl,pf.aL (λb xs e=>by rw[az (λz=>by rw[z,y] at e;cases e)];calc sN _ _ e)) (λb o nb e=>?_) (λj vs (v,e,h)=>(v,e,h.aL (λb xs e=>by rw[az (λz=>by rw[z,y] at e;cases e)];calc sN _ _ e)))
   ·rw[az nD];exact af
   ·rw[az nb];exact sN _ _ e
 intro ys H1 y hl qE;let(A1,rfl,YA,hL1):=qE;left;calc nc YA (TV _ _ TU) T.aV T.cj Tv λG1 sC kd1 YB adT Cm=>?_;have YC:=YB _ _ y;have kg1:∀b o,b≠x->G0 b=some o->G1 b=some o:=λb o n e=>kd1 b o n (TV _ _ e);have VB:∀b o,b≠x->H b=some o->G1 b=some o:=λb o n e=>kg1 b o n (Qx b o n e);have fD1:Yy D1=none:=Hw;clear y;left;calc bI ?_;left;calc gu (VB _ _ O I) (fc ⋯ ⋯ ⋯) ?_;calc fZ k ms wv N rfl (Z,a1,b1,c1,VB _ _ O I,VB _ _ Qu g2,VB _ _ Qv g3,VB _ _ Qw g4) (λlm2 adW=>?_);have VC:=au.new (.lst (ms.map V.ref)) adW;have YD:upd G1 lm2 (.lst (ms.map V.ref)) lm2=some (.lst (ms.map V.ref)):=af;generalize ajI:upd G1 lm2 (.lst (ms.map V.ref))=Gd2 at *;left;calc .inl ((_,aY.of YD),λD2 yt=>?_);calc mj (vs:=[V.int 0]) YD yt () (λ_=>Ext.set (Ext.refl _) rfl) (λ_ _ _ r=>And.intro ∅ r) ?_;intro A2 H2 y VD hL2;left;calc nc VD (VC _ _ sC) T.aV T.eC Cm λG2 Gs VE YE ajJ vk=>?_;have VF:=YE _ _ y;have kg2:∀b o,b≠x->G1 b=some o->G2 b=some o:=λb o n e=>VE b o n (VC _ _ e);have VG:∀b o,b≠x->H b=some o->G2 b=some o:=λb o n e=>kg2 b o n (VB b o n e);have YF:Gd2 D2=none:=yt;clear y;left;calc bI ?_;left;calc gu (VG _ _ O I) (fc ⋯ ⋯ ⋯) ?_;calc fZ k ms wv N rfl (Z,a1,b1,c1,VG _ _ O I,VG _ _ Qu g2,VG _ _ Qv g3,VG _ _ Qw g4) (λlm3 adZ=>?_);have VH:=au.new (.lst (ms.map V.ref)) adZ;have YG:upd G2 lm3 (.lst (ms.map V.ref)) lm3=some (.lst (ms.map V.ref)):=af;generalize ajK:upd G2 lm3 (.lst (ms.map V.ref))=Gd3 at *;left;calc .inl ((_,aY.of YG),λD3 GI=>?_);calc mj (vs:=[]) YG GI () (λ_=>Ext.set (Ext.refl _) rfl) (λ_ _ _ r=>And.intro ∅ r) ?_;intro A3 H3 y YH hL3;left;calc nc YH (VH _ _ Gs) T.aV T.cZ vk λG3 Hu YI YJ ajL Hz=>?_;have VI:=YJ _ _ y;have kg3:∀b o,b≠x->G2 b=some o->G3 b=some o:=λb o n e=>YI b o n (VH _ _ e);have VJ:∀b o,b≠x->H b=some o->G3 b=some o:=λb o n e=>kg3 b o n (VG b o n e);have YK:Gd3 D3=none:=GI;clear y;left;calc bI ?_;left;calc gu (VJ _ _ O I) (fc ⋯ ⋯ ⋯) ?_;calc fZ k ms wv N rfl (Z,a1,b1,c1,VJ _ _ O I,VJ _ _ Qu g2,VJ _ _ Qv g3,VJ _ _ Qw g4) (λlm4 ad2=>?_);have VM:=au.new (.lst wv) ad2;have YL:upd G3 lm4 (.lst wv) lm4=some (.lst wv):=af;generalize ajM:upd G3 lm4 (.lst wv)=Gd4 at *;left;calc .inl ((_,aY.of YL),λD4 VN=>?_);calc mj (vs:=[]) YL VN () (λ_=>Ext.set (Ext.refl _) rfl) (λ_ _ _ r=>And.intro ∅ r) ?_;intro A4 H4 y VO hL4;left;calc nc VO (VM _ _ Hu) T.aV T.bM Hz λG4 Tp YM YN ajN Qg=>?_;have VP:=YN _ _ y;have kg4:∀b o,b≠x->G3 b=some o->G4 b=some o:=λb o n e=>YM b o n (VM _ _ e);have VQ:∀b o,b≠x->H b=some o->G4 b=some o:=λb o n e=>kg4 b o n (VJ b o n e);have fD4:Gd4 D4=none:=VN;clear y;left;calc bI ?_;left;calc gu (VQ _ _ O I) (fc ⋯ ⋯ ⋯) ?_;calc fZ k ms wv N rfl (Z,a1,b1,c1,VQ _ _ O I,VQ _ _ Qu g2,VQ _ _ Qv g3,VQ _ _ Qw g4) (λlm5 ad6=>?_);have VR:=au.new (.lst wv) ad6;have YO:upd G4 lm5 (.lst wv) lm5=some (.lst wv):=af;generalize ajO:upd G4 lm5 (.lst wv)=Gd5 at *;left;calc .inl ((_,aY.of YO),λD5 Eg=>?_);calc mj (vs:=[]) YO Eg () (λ_=>Ext.set (Ext.refl _) rfl) (λ_ _ _ r=>And.intro ∅ r) ?_;intro A5 H5 y VS hL5;left;calc nc VS (VR _ _ Tp) T.aV T.fu Qg λG5 Hv YQ YR ajP hl5=>?_;have VT:=YR _ _ y;have kg5:∀b o,b≠x->G4 b=some o->G5 b=some o:=λb o n e=>YQ b o n (VR _ _ e);have VU:∀b o,b≠x->H b=some o->G5 b=some o:=λb o n e=>kg5 b o n (VQ b o n e);have fD5:Gd5 D5=none:=Eg;clear y;left;calc bI ?_;left;calc gu (VU _ _ O I) (fc ⋯ ⋯ ⋯) ?_;calc fZ k ms wv N rfl (Z,a1,b1,c1,VU _ _ O I,VU _ _ Qu g2,VU _ _ Qv g3,VU _ _ Qw g4) (λlm6 aea=>?_);have VW:=au.new (.lst wv) aea;have YS:upd G5 lm6 (.lst wv) lm6=some (.lst wv):=af;generalize ajQ:upd G5 lm6 (.lst wv)=Gd6 at *;left;calc .inl ((_,aY.of YS),λD6 YT=>?_);calc mj (vs:=[]) YS YT () (λ_=>Ext.set (Ext.refl _) rfl) (λ_ _ _ r=>And.intro ∅ r) ?_;intro A6 H6 y YU hL6;left;calc nc YU (VW _ _ Hv) T.aV T.dw hl5 λW X4 YV YW ajR hl6=>?_;have VX:=YW _ _ y;have kg6:∀b o,b≠x->G5 b=some o->W b=some o:=λb o n e=>YV b o n (VW _ _ e);have L:∀b o,b≠x->H b=some o->W b=some o:=λb o n e=>kg6 b o n (VU b o n e);have fD6:Gd6 D6=none:=YT;clear y;have g:∀(G T:Hp),(∀b o,b≠x->G b=some o->T b=some o)->(∃fs,G x=some (.ins CR S fs))->(∀b vs,G b=some (.lst vs)->T b=some (.lst vs))/\ck G T:=λG T h (fs,e)=>(λb vs M=>h b _ (λz=>by rw[z,e]at M;cases M) M,λb vs M=>h b _ (λz=>by rw[z,e]at M;cases M) M)
 have OC:=kg6;have Qy:∀b o,b≠x->G4 b=some o->W b=some o:=λb o n e=>OC b o n (kg5 b o n e);have Qz:∀b o,b≠x->G3 b=some o->W b=some o:=λb o n e=>Qy b o n (kg4 b o n e);have TY:∀b o,b≠x->G2 b=some o->W b=some o:=λb o n e=>Qz b o n (kg3 b o n e);have YX:∀b o,b≠x->G1 b=some o->W b=some o:=λb o n e=>TY b o n (kg2 b o n e);have kc0:∀b o,b≠x->G0 b=some o->W b=some o:=λb o n e=>YX b o n (kg1 b o n e);have TZ:uL Yy G1 D1 A1 (ms.map V.ref).length (λj H' vs=>∃v,vs=[v]/\HT H' 2 v (zF (l.ms.getD j default).ns (l.ms.getD j default).row)):=hL1.keep YB (λj vs (v,e,h)=>(v,e,h.aL adT));have T3:=TZ.keep (g _ _ YX (_,sC)).1 (λj vs (v,e,h)=>(v,e,h.aL (g _ _ YX (_,sC)).2));have QA:=(g _ _ YX (_,sC)).1 _ _ YC;have T4:uL Gd2 G2 D2 A2 (ms.map V.ref).length (λ_ _ vs=>vs=[V.int 0]):=hL2.keep YE (λj vs e=>e);have T5:=T4.keep (g _ _ TY (_,Gs)).1 (λj vs e=>e);have QB:=(g _ _ TY (_,Gs)).1 _ _ VF;have T6:uL Gd3 G3 D3 A3 (ms.map V.ref).length (λ_ _ vs=>vs=[]):=hL3.keep YJ (λj vs e=>e);have T7:=T6.keep (g _ _ Qz (_,Hu)).1 (λj vs e=>e);have QC:=(g _ _ Qz (_,Hu)).1 _ _ VI;have T8:uL Gd4 G4 D4 A4 wv.length (λ_ _ vs=>vs=[]):=hL4.keep YN (λj vs e=>e);have T9:=T8.keep (g _ _ Qy (_,Tp)).1 (λj vs e=>e);have QE:=(g _ _ Qy (_,Tp)).1 _ _ VP;have Ua:uL Gd5 G5 D5 A5 wv.length (λ_ _ vs=>vs=[]):=hL5.keep YR (λj vs e=>e);have yu:=Ua.keep (g _ _ OC (_,Hv)).1 (λj vs e=>e);have xi:=(g _ _ OC (_,Hv)).1 _ _ VT;have OD:uL Gd6 W D6 A6 wv.length (λ_ _ vs=>vs=[]):=hL6.keep YW (λj vs e=>e);have YY:=(g _ _ kc0 (_,TU)).1 _ _ ep;have y:(ms.map V.ref).length=l.ms.length:=by simp[nr]
 rw[y]at T3;rw[y]at T5;rw[y]at T7;rw[ki]at T9;rw[ki]at yu;rw[ki]at OD;obtain⟨ad,TQ⟩:∃ad:Nat->Nat->Addr,∀t i,ad t i=([[p],A1,A2,A3,A4,A5,A6].getD t []).getD i 0:=(_,λ_ _=>rfl)
 have pz:∀{A B:Hp},(∀b o,b≠x->A b=some o->B b=some o)->∀{o},B x=some o->∀b,A b≠none->B b≠none:=λ{A B} h {o} e b hb=>by
  by_cases z:b=x
  ·rw[z,e];exact λz=>nomatch z
  ·cases e1:A b with
   |none=>calc absurd e1 hb
   |some u=>rw[h b u z e1];exact λz=>nomatch z
 have Y:∀{A:Hp} {b:Addr} {o:HO},A b=some o->A b≠none:=λe z=>by rw[e]at z;cases z
 have nFx:∀b,FF b->b≠x:=λb h z=>by
  let(o,e,so):=me b h;rw[z,U]at e;cases e;exact so
 let(cW,Qt,hDo):=EF (F:=FF) (G:=W) (n:=l.n) (c:=(RS.new l).ct) (λt=>[Ga,Yy,Gd2,Gd3,Gd4,Gd5,Gd6].getD t W) (λt=>t) _ (λt=>[x,D1,D2,D3,D4,D5,D6].getD t x) (λt=>[λ_ _ u=>u=.lst [],λj H u=>∃vs,u=.lst vs/\∃v,vs=[v]/\HT H 2 v (zF (l.ms.getD j default).ns (l.ms.getD j default).row),λ_ _ u=>∃vs,u=.lst vs/\vs=[V.int 0]].getD t λ_ _ u=>∃vs,u=.lst vs/\vs=[]) TQ (λ_=>rfl) (λ_ _ _ _ h=>h)
  (λt=>match t with
   |0=>pz (λb o n e=>TV _ _ (ka b o n e)) (TV _ _ TU)
   |1=>pz (λb o n e=>VC _ _ (kd1 b o n e)) (VC _ _ sC)
   |2=>pz (λb o n e=>VH _ _ (VE b o n e)) (VH _ _ Gs)
   |3=>pz (λb o n e=>VM _ _ (YI b o n e)) (VM _ _ Hu)
   |4=>pz (λb o n e=>VR _ _ (YM b o n e)) (VR _ _ Tp)
   |5=>pz (λb o n e=>VW _ _ (YQ b o n e)) (VW _ _ Hv)
   |6=>pz YV X4
   | (t + 7)=>λb h=>h)
  (λb h=>by
   let(o,e,so):=me b h;calc(Y (nxa b o (nFx b h) e),o,L b o (nFx b h) e,so))
  (λt ht=>match t,ht with
   | 0,_=>((rfl,nofun,λa m=>by rw[List.mem_singleton.mp m];exact(hp,npx),λj a e=>by cases j with
    |zero=>cases e;calc(_,YY,rfl)
    | succ j=>cases e),λa m=>by rw[List.mem_singleton.mp m];calc Y (TV _ _ ep),λh=>absurd h ∅)
   |1,_=>(T3.o,TZ.some VC,λ_=>(fD1,Y (VC _ _ YC)))
   |2,_=>(T5.o,T4.some VH,λ_=>(YF,Y (VH _ _ VF)))
   |3,_=>(T7.o,T6.some VM,λ_=>(YK,Y (VM _ _ VI)))
   |4,_=>(T9.o,T8.some VR,λ_=>(fD4,Y (VR _ _ VP)))
   |5,_=>(yu.o,Ua.some VW,λ_=>(fD5,Y (VW _ _ VT)))
   |6,_=>(OD.o,OD.some (au.refl _),λ_=>(fD6,Y VX))
   | (t + 7),h=>absurd h ())
  (λt i u ht h=>by
   match t,ht,h with
   |0,_,h=>cases h;trivial
   |1,_,(_,e,_)|2,_,(_,e,_)|3,_,(_,e,_)|4,_,(_,e,_)|5,_,(_,e,_)|6,_,(_,e,_)=>cases e;trivial
   | (t + 7),h,_=>calc absurd h ())
  (λhz _ t i u ht hi e h=>by
   match t,ht,h with
   |0,_,h=>cases h;calc(fN.nil:fN _ 4 [] [])
   |1,_,(_,e,v,M,hv)=>cases e;cases M;calc(fN.one ((KU hz hv).mono ∅):fN _ 4 [v] [_])
   |2,_,(_,e,M)=>cases e;cases M;calc(fN.one (.int 0):fN _ 4 [.int 0] [.int 0])
   |3,_,(_,e,M)|4,_,(_,e,M)|5,_,(_,e,M)|6,_,(_,e,M)=>cases e;cases M;calc(fN.nil:fN _ 4 [] [])
   | (t + 7),h,_=>calc absurd h ())
 have R:∀b,FP l.n ad b->H b=none:=λb hb=>by
  cases j:H b with
  |none=>rfl
  |some o=>
   have e:=(Qt b hb).1;have:b≠x:=λz=>by rw[z]at e;exact Y hxa e
   exact absurd e (Y (nxa b o this j))
 have hR:bR C CN CR FF W x k l (RS.new l) ad:=by
  refine((S,λt=>[x,D1,D2,D3,D4,D5,D6].getD t x,?_,λt j v=>?_),cW,?_)
  ·rw[X4,Hx,TQ];rfl
  ·let(X,w2,w3):=hDo t j v;calc(?_,X,w2);rw[<-w3]
   match t,j,v with
   |1,_,_=>calc QA
   |2,_,_=>calc QB
   |3,_,_=>calc QC
   |4,_,_=>calc QE
   |5,_,_=>calc xi
   |6,_,_=>calc VX
   |(t+7),_,h=>exact absurd h ()
  ·calc((ms,wv,N,(Z,a1,b1,c1,L _ _ O I,L _ _ Qu g2,L _ _ Qv g3,L _ _ Qw g4),nr,λi m d e1 j=>?_,Hy.aL (g _ _ L (_,U)).2),aW);let(d1,s1,d2,X,w2,w3):=Ax i m d e1 j;have t:m≠x:=λz=>by rw[z,U] at X;exact yr X
   exact(d1,s1,d2,L _ _ t X,w2.aL (g _ _ L (_,U)).2,w3.aL (g _ _ L (_,U)).2)
 have aef:=MC.aL (g _ _ L (_,U)).2;clear TZ T3 T4 T5 T6 T7 T8 T9 Ua yu OD QA QB QC QE xi YC hL1 VF hL2 VI hL3 VP hL4 VT hL5 VX hL6 YY kc0 YX TY Qz Qy OC;left;calc(k,Z,_,rfl,L _ _ O I,fc ⋯ ⋯ ⋯,k,ms,wv,N,rfl,(Z,a1,b1,c1,L _ _ O I,L _ _ Qu g2,L _ _ Qv g3,L _ _ Qw g4),λll rY=>?_);have s7:=au.new (.lst N) rY;have yV:upd W ll (.lst N) ll=some (.lst N):=af;generalize hG7:upd W ll (.lst N)=G7 at *;have nll:¬FP l.n ad ll:=λz=>by
  let(_,u,e,_):=Qt ll z;rw[rY]at e;cases e
 have g:=hR.same s7;have YZ:=aef.aL s7.aQ;have Y0:N.length=ls.length:=by simpa using YZ.1
 refine .inl ((_,aY.of yV),gQ (K:=K) (xs:=N) (λi σ H'=>(∃z2 z3,σ=[some (V.ref x),some (V.ref k),z2,z3])/\Fr (FP l.n ad) G7 H'/\bR C CN CR FF H' x k l ((RS.new l).lx (ls.take i)) ad) ?_ ?_ ?_ ?_)
 ·exact((_,_,rfl),Fr.refl,g)
 ·rintro i σ H' hi ⟨_,fi,_⟩;exact aY.of (fi.at yV nll)
 ·intro i z σ H' hz Cn;nofun;let((z2,z3,rfl),fi,qR):=Cn;have g:i < ls.length:=by rw[<-Y0];exact(List.getElem?_eq_some_iff.mp hz).1
  have j:ls[i]?=some ls[i]:=dH g;have TN:=(YZ.2 i z (qJ ls[i]) hz (by rw[J',j];rfl)).aL fi.aQ;have KZ:=rM _ (aax g);have Ox:(RS.new l).lx (ls.take (i+1))=((RS.new l).lx (ls.take i)).put ls[i].1.toNat ls[i].2 none:=by
   rw[aa6,j];exact qS _
  generalize ls[i]=p at *;let(pj,px):=p;let(tz,u1,u2,kz,rfl,Ho,y1,y2):=dQ TN;obtain rfl:=y1.cL;obtain rfl:=y2.cL;ac_rfl;calc Bl (bP.of Ho) ?_;left;let(j,t,g,u):=qR.ins;calc gu g (dZ ⋯) ?_;have j:((pj.toNat:Nat):Int)=pj:=aa0 KZ.1;refine(FF,x,k,l,_,ad,pj.toNat,px,.bO,none,by rw[j],qR,λb h=>by
   let(o,e,so):=me b h;calc(o,fi.at (s7 _ _ (L b o (nFx b h) e)) (λz=>by rw[R b z] at e;cases e),so),by have:=KZ.2;show pj.toNat < _;simp at this;lia,.bO,(sQ (ls.take i) (CI aW)).mono (by simp;lia),λj k g=>?_)
  left;calc je (_,_,rfl,rfl) (fi.trans k) ?_;rw[Ox];exact g
 ·rintro σ H' ⟨_,fi,qR⟩;rw[Y0,aaz]at qR;calc q ad _ (λb o n e=>?_) R qR;calc fi.at (s7 _ _ (L b o n e)) λz=>?_;rw[R b z]at e;cases e
def CutAt(H:Hp)(t:Addr)(cut:List Int):Prop:=H t=some (.tup (cut.map V.int))\/H t=some (.lst (cut.map V.int))
theorem CutAt.same{t:Addr}(h:CutAt H t cut)(s:au H H'):CutAt H' t cut:=h.imp (s _ _) (s _ _)
theorem aeg{K:W.Frag}{i:Int}{v:V}{P:V->Prop}(h:CutAt H a cut)(e:jc (cut.map V.int) i=some v)(k:P v):∃xs v,(aY K H a xs\/bP K H a xs)/\jc xs i=some v/\P v:=h.elim (λh=>eF h e k) λh=>bG h e k
theorem AE{v:V}(h:HT H 1 v (pairD e)):∃a,v=.ref a/\H a=some (.tup [.int e.1,.int e.2]):=by
 let(b,g,i,j,rfl,c,d,f):=dQ h;obtain rfl:=d.cL;obtain rfl:=f.cL;calc(b,rfl,c)
structure eL(nt:NT)(r:RS)(cut:List Int):Prop where
 len:cut.length=nt.ms.length
 pos:∀m,m<nt.ms.length->0<=cut.getD m 0
 top:∀m,m<nt.ms.length->cut.getD m 0<((r.mm m).fe.length:Nat)
def yw:Option (Int×Int)->List Int->Bool
 |none,_=>false
 |some e,cut=>decide (e.2<=cut.getD e.1.toNat 0)
def CJ(s w:Option (Int×Int))(cut:List Int):Bool:=(s.isNone||yw s cut) && !yw w cut
def GJ(r:RS)(cut:List Int)(w n:Nat):List Nat:=(List.range n).filter λk=>CJ ((r.ww w).snd.getD k none) ((r.ww w).dz.getD k none) cut
theorem AF{w n:Nat}:GJ r cut w (n+1)=GJ r cut w n++if CJ ((r.ww w).snd.getD n none) ((r.ww w).dz.getD n none) cut=true then[n] else[]:=by
 unfold GJ;rw[List.range_succ,List.filter_append];congr 1;rw[List.filter_cons,List.filter_nil]
theorem EH{w n:Nat}:(GJ r cut w n).length<=n:=aar (List.length_filter_le _ _) (Nat.le_of_eq List.length_range)
theorem Uc{w n k:Nat}(h:k∈GJ r cut w n):k<n:=List.mem_range.mp (List.mem_filter.mp h).1
def kh(H:Hp)(r:RS)(bs:List Addr)(f:Nat->List Nat):Prop:=∀(i:Nat) b,bs[i]?=some b->∃ys,H b=some (.lst ys)/\fV H 1 ys (Oy r i (f i))
abbrev ml:Stmt:=top 29
def CK:Sp:=λvs H Q _=>∃(v:V) (e:Option (Int×Int)) (t:Addr) (cut:List Int),vs=[v,.ref t]/\HT H 1 v (nU e)/\CutAt H t cut/\(∀p,e=some p->0<=p.1/\p.1<(cut.length:Nat))/\Q (.bl (yw e cut)) H
theorem AG(D:cE K mg "is_inside" "is_inside" ml hQ)(T:Tx K mg C CN CR F FD):Def P w K mg base "is_inside" 1 hQ CK:=by
 exists["event","cut","m","c"];let(v,e,t,cut,rfl,b,c,g,q):=h;have k:=hr.units;refine(_,(ai (aT (aC BU (aq 0) jw (aJ _)) (ak (aG ij)) aH)
  (ai (fA (aq 0) (g9 (i:=2) (j:=3) rfl sc rfl rfl Sort Sort))
  (ak (aG (kr xT (aq 3) (ao k (aq 1) (aq 2)) (aJ _)))))),?_)
 cases e with
 |none=>
  have:v=.bO:=by cases(show HT H 1 v .bO from b);rfl
  subst this;right
  try rw[if_pos ∅]
  right;calc q
 |some e=>
  nofun;let(a,rfl,k):=AE b;let(l,m):=g e rfl;ac_rfl;right
  try rw[if_neg ∅]
  calc Bl (bP.of k) ?_;right;refine aeg c (show jc _ e.1=some (.int (cut.getD e.1.toNat 0)) from by
   have:=aA (xs:=cut.map V.int) (j:=e.1.toNat) (v:=.int (cut.getD e.1.toNat 0)) (by rw[J',a0 (d:=0) ()];rfl);rw[show((e.1.toNat:Nat):Int)=e.1 by lia] at this;calc this) ?_
  right;calc q
abbrev qT:Stmt:=top 34
def K0(C CN CR:Addr):Sp:=λvs H Q _=>∃(F:Addr->Prop) (x b:Addr) (nt:NT) (r:RS) (ad:Nat->Nat->Addr) (t:Addr) (cut:List Int) (a k:Nat),vs=[.ref x,.ref t,.int a,.int k]/\bR C CN CR F H x b nt r ad/\r.Ok nt/\r.Iv nt/\H t=some (.tup (cut.map V.int))/\cut.length=nt.ms.length/\a<nt.ws.length/\k<(r.ww a).say.length/\Q (.bl (CJ ((r.ww a).snd.getD k none) ((r.ww a).dz.getD k none) cut)) H
theorem GK(D:cE K mg "lies_at" "lies_at" qT fU)(T:Tx K mg C CN CR F FD)(o:Def P w K mg base "is_inside" 1 hQ CK)(R:cf P w K mg base CR "sent_by" 5 bx (uM C CN CR))(S:cf P w K mg base CR "worked_by" 5 bx (yq C CN CR)):Def P w K mg base "lies_at" 6 fU (K0 C CN CR):=by
 exists["run","cut","way","number","sender"];let(F,x,z,B,r,ad,t,cut,b,k,rfl,n,j,M,G,I,g,m,q):=h;have U:=hr.units;refine(_,(ai (bf (i:=4) sc rfl Sort (dX R T.aV hr (aq 0) (ag (aq 2) (ag (aq 3) aa))))
  (ai (aT (PW.pt (pw_and (aC m7 (aq 4) jw (aJ _)) (pw_and1 (cB (bC (aM o hr (ag (aq 4) (ag (aq 1) aa)))))))) (ak (aG ij)) aH)
  (ak (aG (HJ (aM o hr (ag (dX S T.aV hr (aq 0) (ag (aq 2) (ag (aq 3) aa))) (ag (aq 1) aa)))))))),?_)
 let(N,o,O,R):=n.ins;have o:k<(r.ww b).snd.length:=by rw[<-j.ls b g];exact m
 have R:k<(r.ww b).dz.length:=by rw[<-j.lk b g];exact m
 have J:∀p,(r.ww b).snd.getD k none=some p->0<=p.1/\p.1<(cut.length:Nat):=λp e=>by
  let(h1,l,_):=j.sd b g p.1 p.2 (by rw[show(some ((p.1),p.2):Option (Int×Int))=(r.ww b).snd.getD k none from e.symm];calc getD_mem o);rw[I];exact(h1,l)
 have L:∀p,(r.ww b).dz.getD k none=some p->0<=p.1/\p.1<(cut.length:Nat):=λp e=>by
  let(h1,l,_):=M.ev b k p.1 p.2 g (by rw[a0 (d:=none) R,e]);rw[I];exact(h1,l)
 walk_at "xg";right;refine(x,N,_,rfl,O,dZ ⋯,F,x,z,B,r,ad,b,k,rfl,n,j,g,m,λv u=>?_);refine L2.aP h1 ?_;clear h1;refine L2.fJ λo l=>?_;have c:CJ ((r.ww b).snd.getD k none) ((r.ww b).dz.getD k none) cut=(!yw ((r.ww b).dz.getD k none) cut)->o [some (.ref x),some (.ref t),some (.int b),some (.int k),some v] H:=λe=>by
  calc L2.aP l ?_;right;calc(x,N,_,rfl,O,dZ ⋯,F,x,z,B,r,ad,b,k,rfl,n,j,g,m,λo I=>?_);calc SU o _ t cut rfl I (.inl G) L ?_;rw[e]at q;exact(_,rfl,q)
 clear l
 cases y:(r.ww b).snd.getD k none with
 |none=>
  rw[y]at u;have:v=.bO:=by cases(show HT H 1 v .bO from u);rfl
  subst this;right
  try rw[if_neg ∅]
  calc c ?_;rw[y];rfl
 |some p=>
  nofun;let(a,rfl,g):=AE (show HT H 1 v (pairD p) from by have:=u;rw[y]at this;calc this);ac_rfl;right
  try rw[if_pos ∅]
  calc(_,_,t,cut,rfl,u,.inl G,J,?_);refine ly ?_
  cases g:yw ((r.ww b).snd.getD k none) cut with
  |true=>
   try rw[if_neg ∅]
   calc c ?_;unfold CJ;rw[g];simp
  |false=>
   try rw[if_pos ∅]
   right;unfold CJ at q;rw[g,y]at q;calc q
def OE(r:RS)(p:Nat×Nat):Option (Int×Int):=(r.ww p.1).snd.getD p.2 none
def Y1(r:RS)(p:Nat×Nat):Option (Int×Int):=(r.ww p.1).dz.getD p.2 none
def OF(r:RS)(p:Nat×Nat):DV:=.tup [pairD (pI p),nU (OE r p),nU (Y1 r p)]
def GL(r:RS)(ps:List (Nat×Nat)):List (Nat×Nat):=ps.filter λp=>(OE r p).isSome
def vS(r:RS)(cut:List Int)(p:Nat×Nat):Bool:=yw (Y1 r p) cut && !yw (OE r p) cut
def aeh(r:RS)(cut:List Int)(ps:List (Nat×Nat)):List (Nat×Nat):=(GL r ps).filter (vS r cut)
theorem CL{H:Hp}{n:Nat}{v:V}{e:Option (Int×Int)}(h:HT H n v (nU e)):HT H 1 v (nU e):=by
 cases e with
 |none=>cases(show HT H n v .bO from h);calc .bO
 |some p=>
  let(d,f,g,i,rfl,a,b,c):=dQ (show HT H n v (.tup [.int p.1,.int p.2]) from h);obtain rfl:=b.cL;obtain rfl:=c.cL;calc dj (n:=0) a (.int _) (.int _)
theorem AH{ps:List (Nat×Nat)}{i:Nat}{p:Nat×Nat}(h:ps[i]?=some p):GL r (ps.take (i+1))=GL r (ps.take i)++if (OE r p).isSome=true then[p] else[]:=by
 unfold GL;rw[abc,h,List.filter_append];congr 1;show List.filter _ [p]=_;rw[List.filter_cons,List.filter_nil]
theorem AI{f:Nat×Nat->Bool}{ps:List (Nat×Nat)}{i:Nat}{p:Nat×Nat}(h:ps[i]?=some p):(ps.take (i+1)).filter f=(ps.take i).filter f++if f p=true then[p] else[]:=by
 rw[abc,h,List.filter_append];congr 1;show List.filter _ [p]=_;rw[List.filter_cons,List.filter_nil]
theorem Ud{nt:NT}(g:r.Ok nt)(k:r.Iv nt)(j:cut.length=nt.ms.length){p:Nat×Nat}(i:p∈lA r nt.ws.length):(∀e,OE r p=some e->0<=e.1/\e.1<(cut.length:Nat))/\∀e,Y1 r p=some e->0<=e.1/\e.1<(cut.length:Nat):=by
 let(c,m,l):=gT.mp i;have m:p.2<(r.ww p.1).dz.length:=(List.getElem?_eq_some_iff.mp l).1;have i:=g.ls _ c;have i:=g.lk _ c;refine(λe i=>?_,λe i=>?_)
 ·let(a,b,_):=g.sd _ c e.1 e.2 (by rw[show(some ((e.1),e.2):Option (Int×Int))=(r.ww p.1).snd.getD p.2 none from i.symm];calc getD_mem ());rw[j];exact(a,b)
 ·let(a,b,_):=k.ev _ p.2 e.1 e.2 c (by rw[a0 (d:=none) m,show(r.ww p.1).dz.getD p.2 none=some e from i]);rw[j];calc(a,b)
theorem Ue {vs:List V}(h:fN H 4 vs (ps.map pairD)):Tc H vs ps:=(by have:=h.1;rwa [T'] at this,λi p e=>by
 have b:i<vs.length:=by have:=h.1;rw[T']at this;rw[this];exact(List.getElem?_eq_some_iff.mp e).1
 let(a,c,d):=sJ (e:=p) (h.2 i vs[i] _ (dH b) (by rw[J',e];rfl));calc(a,by rw[dH b,c],d))
abbrev gE:Stmt:=top 30
inductive K1(C CN CR:Addr)(vs:List V)(H:Hp)(Q:VK):Prop
 |mk (F:Addr->Prop) (x aZ:Addr) (nt:NT) (r:RS) (ad:Nat->Nat->Addr) (h0:vs=[.ref x]) (h1:bR C CN CR F H x aZ nt r ad) (h2:r.Ok nt) (h3:r.Iv nt) (h4:r.Pk nt) (h5:r.picks.length<=40) (q:∀l ys H',au H H'->H l=none->H' l=some (.lst ys)->fV H' 2 ys ((GL r (lA r nt.ws.length)).map (OF r))->Q (.ref l) H'):K1 C CN CR vs H Q
def EJ(C CN CR:Addr):Sp:=λvs H Q _=>K1 C CN CR vs H Q
theorem qU(D:cE K mg "letters_passed" "letters_passed" gE ["run"])(T:Tx K mg C CN CR F FD)(iQ:cf P w K mg base CR "schedule" 1 cz (KP C CN CR))(eQ:cf P w K mg base CR "sent_by" 5 bx (uM C CN CR))(dC:cf P w K mg base CR "worked_by" 5 bx (yq C CN CR)):Def P w K mg base "letters_passed" 6 ["run"] (EJ C CN CR):=by
 exists["run","passed","letter","way","number","sender"];let(F,x,M,d,r,ad,rfl,N,O,hI,R,nv,q):=h;have hu:=hr.units;refine(_,(ai (bf (i:=1) sc rfl Sort (bE aa))
  (ai (fB PassesOwn.never rfl (bZ (bc (Ge rfl) rfl T.Aa PyProof.Rows.boot_sorted (ag (eU iQ T.aV hr (aq 0)) aa))) (ba (i:=2) sc rfl Sort)
  (ai (fA (aq 2) (g9 (i:=3) (j:=4) rfl sc rfl rfl Sort Sort))
  (ai (bf (i:=5) sc rfl Sort (dX eQ T.aV hr (aq 0) (ag (aq 3) (ag (aq 4) aa))))
  (ak (aT (aC m7 (aq 5) jw (aJ _)) (ak (bL (dO qb sm sr cw (aq 1) (ag (bu (ag (aq 2) (ag (aq 5) (ag (dX dC T.aV hr (aq 0) (ag (aq 3) (ag (aq 4) aa))) aa)))) aa)))) aH)))))
  (ak (aG (aq 1))))),?_)
 let(dx,o,hx,T):=N.ins;have T:=zY hI R;right;calc(aap _,λl rY=>?_);have S:=au.new (.lst []) rY;have yV:upd H l (.lst []) l=some (.lst []):=af;generalize hG1:upd H l (.lst [])=G1 at *;right;calc(x,dx,_,rfl,S _ _ hx,dZ ⋯,F,x,M,d,r,ad,rfl,N.same S,λls vs Mx t=>?_);have U:=au.new (.lst vs) Mx;have Y2:upd G1 ls (.lst vs) ls=some (.lst vs):=af;have J7:vs.length=r.picks.length:=by have:=t.1;rwa [T']at this
 have Tj:=(Ue t).mono U.aQ;have ou:=S.trans U;have Ug:=U _ _ yV;generalize Kn:upd G1 ls (.lst vs)=G2 at *;calc(ls,rfl,.inl (vs,r.picks,aY.of Y2,(),Tj,R.nd,λB g T vk Vn G hz=>?_));obtain rfl:=yk hI R Vn G;clear Tj Vn G t Y2 Mx J7 Kn hG1 U yV;have W:=au.new (.lst g) vk;have Ot:upd G2 B (.lst g) B=some (.lst g):=af;have u:=hz.mono W.aQ;have K2:=W _ _ Ug;have kl:=ou.trans W;have nl:B≠l:=Ne.symm (av Ug vk);generalize Vq:upd G2 B (.lst g)=G3 at *;clear hz vk Vq W Ug ou S;have MJ:g.length=(lA r d.ws.length).length:=by have:=u.len;rwa [T']at this
 refine .inl ((_,aY.of Ot),gQ (K:=K) (xs:=g) (λi σ H'=>(∃z2 z3 z4 z5,σ=[some (V.ref x),some (V.ref l),z2,z3,z4,z5])/\au H H'/\H' B=some (.lst g)/\Tc H' g ((lA r d.ws.length).map pI)/\∃ys,H' l=some (.lst ys)/\ys.length<=i/\fV H' 2 ys ((GL r ((lA r d.ws.length).take i)).map (OF r))) ?_ ?_ ?_ ?_)
 ·exact((_,_,_,_,rfl),kl,Ot,u,[],K2,L' _,fV.nil)
 ·rintro i σ H' hi ⟨_,_,e,_⟩;exact aY.of e
 ·intro i xx σ H' I jf;nofun;let((z2,z3,z4,z5,rfl),z,y,k,ys,J,CM,L):=jf;clear kl Ot u K2;have hi:i < (lA r d.ws.length).length:=by rw[<-MJ];exact(List.getElem?_eq_some_iff.mp I).1
  obtain⟨p,X⟩:∃p,(lA r d.ws.length)[i]?=some p:=(_,dH hi)
  let(hw,e,t):=gT.mp (aao X);have hk:p.2<(r.ww p.1).say.length:=by rw[O.lk _ hw];exact(List.getElem?_eq_some_iff.mp t).1
  let(b,e1,hb):=k.got i (pI p) (by rw[J',X];rfl);rw[I]at e1;obtain rfl:=Option.some.inj e1;ac_rfl;clear e1;have qR:=N.same z;have QF:=z _ _ hx;right;refine Bl (bP.of hb) ?_;walk_at "xg";right;refine(x,dx,_,rfl,QF,dZ ⋯,F,x,M,d,r,ad,p.1,p.2,rfl,qR,O,hw,hk,λv Y=>?_);refine L2.aP h1 ?_;clear h1
  cases Z:(r.ww p.1).snd.getD p.2 none with
  |none=>
   rw[Z]at Y;have:v=.bO:=by cases(show HT H' 1 v .bO from Y);rfl
   subst this;right
   try rw[if_neg ∅]
   calc((_,_,_,_,rfl,rfl,rfl,rfl),z,y,k,ys,J,(),?_);rw[AH X,show OE r p=none from Z];simpa using L
  |some q0=>
   nofun;let(a,rfl,i):=AE (show HT H' 1 v (pairD q0) from by have:=Y;rw[Z]at this;calc this);ac_rfl;right
   try rw[if_pos ∅]
   calc(.inl (rfl,_,aY.of J),?_);calc(x,dx,_,rfl,QF,dZ ⋯,F,x,M,d,r,ad,p.1,p.2,rfl,qR,O,hw,hk,λv' i=>?_);calc(by rw[aaw];lia,λtp d=>?_);have m:=au.new (.tup [.ref b,.ref a,v']) d;have etp:upd H' tp (.tup [.ref b,.ref a,v']) tp=some (.tup [.ref b,.ref a,v']):=af;have Y3:=m _ _ J;have aem:=L.aL m.aQ;have aen:=m _ _ y;have aeo:=k.mono m.aQ;have hv4:=Y.aL m.aQ;have aep:=i.aL m.aQ;have hb4:=m _ _ hb;have sI:=z.trans m;generalize hG4:upd H' tp (.tup [.ref b,.ref a,v'])=G4 at *;calc iE _ Y3 (aE ()) ?_;have st:ck G4 (upd G4 l (.lst (ys++[.ref tp]))):=(ck.refl _).upd λg e=>by rw[Y3]at e;cases e
   calc((_,_,_,_,rfl,rfl,rfl,rfl),λc o e=>by rw[az (av e rY)];calc sI _ _ e,by rw[az nl];calc aen,aeo.mono st,_,af,by simp;lia,?_);have:=((aem.snoc (e:=OF r p) (lO (n:=1) etp (dj (n:=0) hb4 (.int _) (.int _)) hv4 aep)).aL st)
   rw[AH X,show OE r p=some q0 from Z,if_pos (show(some q0).isSome=true from rfl),W'];exact this
 ·intro σ H' jh;let((z2,z3,z4,z5,rfl),z,y,k,ys,J,CM,L):=jh;right;rw[MJ,aaz]at L;calc q l ys H' z rY J L
abbrev ia:Stmt:=top 31
inductive K3(vs:List V)(H:Hp)(Q:VK):Prop
 |mk (l t:Addr) (ys:List V) (r:RS) (ps:List (Nat×Nat)) (cut:List Int) (h0:vs=[.ref l,.ref t]) (h1:H l=some (.lst ys)) (h2:fV H 2 ys (ps.map (OF r))) (h3:ps.length<=40) (h4:CutAt H t cut) (h5:∀p∈ps,(∀e,OE r p=some e->0<=e.1/\e.1<(cut.length:Nat))/\∀e,Y1 r p=some e->0<=e.1/\e.1<(cut.length:Nat)) (q:∀l' zs H',au H H'->H l'=none->H' l'=some (.lst zs)->fV H' 1 zs ((ps.filter (vS r cut)).map λp=>pairD (pI p))->Q (.ref l') H'):K3 vs H Q
def EK:Sp:=λvs H Q _=>K3 vs H Q
theorem r8(D:cE K mg "orphans_among" "orphans_among" ia hE)(T:Tx K mg C CN CR F FD)(y:Def P w K mg base "is_inside" 1 hQ CK):Def P w K mg base "orphans_among" 2 hE EK:=by
 exists hE;let(l,t,ys,r,ps,cut,rfl,g,o,W,N,k,q):=h;have T:=hr.units;calc(_,(ak (aG (df (N':=["letter","sender","worker","cut"]) (ix:=[none,none,none,some 1]) (bZ (pv 0)) (λ_ _ _ _=>(F5 (K:=K) rfl (i:=0) (j:=1) (l:=2) rfl (show(["letter","sender","worker","cut"]:List Str).Nodup by decide +kernel) rfl rfl rfl Sort Sort Sort)) (λ_ _ _ _=>(jm (PW.pt (pw_and (bC (aM y hr (ag (aq 2) (ag (aq 3) aa)))) (pw_and1 (cB (bC (aM y hr (ag (aq 1) (ag (aq 3) aa)))))))))) (λ_ _ _ _=>(aq 0))))),?_);have X:ys.length=ps.length:=by have:=o.1;rwa [T'] at this
 right;calc bI ?_;right;calc .inl ((_,aY.of g),λD B=>?_);refine bq (J:=v9 K l) (n:=ys.length) (λi a H'=>au H H'/\fV H' 1 a (((ps.take i).filter (vS r cut)).map λp=>pairD (pI p))) (M' (aE ())) (au.new _ B,fV.nil) ?_ ?_ ?_ ?_
 ·rintro i a H' G ⟨s,_⟩;exact(_,_,aY.of (s _ _ g),dH G)
 ·rintro a H' ⟨s,_⟩;exact(_,aY.of (s _ _ g),L' _)
 ·intro i a H' G m O Y l d Z;nofun;let(s,x):=Y;let(rfl,y):=Z;have ex:=y _ (aY.of (s _ _ g));obtain⟨p,z⟩:∃p,ps[i]?=some p:=(_,dH ())
  let(ta,u,v,w0,kk,rfl,vN,y1,y2,y3):=bV ((o.aL s.aQ).2 i _ _ ex (by rw[J',z];rfl));have R:=k p (aao z);have S:=N.same s;let(b,rfl,hb):=AE (show HT d 1 u (nU (some (pI p))) from CL (e:=some (pI p)) y1);ac_rfl;calc(ta,_,rfl,bP.of vN,rfl,_,_,rfl,_,_,rfl,_,_,rfl,rfl,Ext.set (Ext.set (Ext.set (Ext.refl _) rfl) rfl) rfl,?_);right;calc(_,_,t,cut,rfl,CL y3,S,R.2,?_);calc ly ?_;have I:vS r cut p=true->∃g,d D=some (HO.lst g)/\g.length<sizeLine/\Vg (λi a H'=>au H H'/\fV H' 1 a (List.map (λp=>pairD (pI p)) (List.filter (vS r cut) (List.take i ps)))) D i (upd d D (HO.lst (g++[V.ref b]))):=λL=>by
   have st:ck d (upd d D (.lst (a++[.ref b]))):=(ck.refl _).upd λa e=>by rw[m]at e;cases e
   calc bW m O G (M' (aE ())) (λc o e=>by rw[az (av e B)];calc s _ _ e,?_);rw[AI z,L,if_pos rfl,W'];exact(x.snoc (dj (n:=0) hb (.int _) (.int _))).aL st
  have U:vS r cut p=false->Vg (λi a H'=>au H H'/\fV H' 1 a (List.map (λp=>pairD (pI p)) (List.filter (vS r cut) (List.take i ps)))) D i d:=λL=>(_,m,(),s,by rw[AI z,L,if_neg ∅,aan];calc x)
  cases M:yw (Y1 r p) cut with
  |false=>
   rw[if_neg ∅,if_neg ∅];calc U (by unfold vS;rw[M];rfl)
  |true=>
   rw[if_pos rfl];calc(_,_,t,cut,rfl,CL y2,S,R.1,?_);refine ly ?_
   cases d:yw (OE r p) cut with
   |false=>
    rw[if_pos ∅];calc I (by unfold vS;rw[M,d];rfl)
   |true=>
    rw[if_neg ∅];exact U (by unfold vS;rw[M,d];rfl)
 rintro a H' m O ⟨s,x⟩;rw[X,aaz]at x;calc q D a H' s B m x
def Y4(r:RS)(cut:List Int)(m:Nat):Bool:=decide (0<=cut.getD m 0/\cut.getD m 0<((r.mm m).fe.length:Nat))
def AJ(nt:NT)(r:RS)(cut:List Int):Bool:=cut.length==nt.ms.length&&(List.range nt.ms.length).all (Y4 r cut)
theorem AK{nt:NT}:AJ nt r cut=true↔eL nt r cut:=by
 unfold AJ;rw[aaF,List.all_eq_true,beq_iff_eq];constructor
 ·rintro⟨a,b⟩;have d:=λm (c:m<nt.ms.length)=>aaM (b m (List.mem_range.mpr c));exact(a,λm c=>(d m c).1,λm c=>(d m c).2)
 ·calc λh=>(h.len,λm c=>aal (h.pos m (List.mem_range.mp c),h.top m (List.mem_range.mp c)))
theorem Uj{nt:NT}(h:¬eL nt r cut):AJ nt r cut=false:=Bool.eq_false_iff.mpr λz=>h (AK.mp z)
theorem Uk{f:Nat->Bool}{l:List Nat}:(l.map f).all id=l.all f:=by rw[List.all_map];rfl
def CP(nt:NT)(r:RS)(m c:Int):Prop:=0<=m/\m<nt.ms.length/\1<=c/\c<((r.mm m.toNat).fe.length:Nat)
abbrev uP:Stmt:=top 27
def K4(C CN CR:Addr):Sp:=λvs H Q _=>∃(F:Addr->Prop) (x a:Addr) (nt:NT) (r:RS) (ad:Nat->Nat->Addr) (t:Addr) (cut:List Int),vs=[.ref x,.ref t]/\bR C CN CR F H x a nt r ad/\r.Ok nt/\H t=some (.tup (cut.map V.int))/\∀H',au H H'->Q (.bl (AJ nt r cut)) H'
theorem K5(D:cE K mg "is_cut" "is_cut" uP hY)(T:Tx K mg C CN CR F FD)(R:Def P w K mg base "is_within" 2 b8 bU)(S:cf P w K mg base CN "machines" 1 cz (gn CN))(fW:cf P w K mg base CR "count" 4 cb (CB C CN CR))(fz:cf P w K mg base CR "net" 1 cz (sL C CN CR)):Def P w K mg base "is_cut" 5 hY (K4 C CN CR):=by
 exists hY;let(F,x,g,a,r,ad,t,cut,rfl,k,cF,m,q):=h;have hu:=hr.units;refine(_,(ai (aT (PW.pt (pw_or (cB (bC (bc dP rfl T.bg vZ (ag (aq 1) (ag (dD (v:=.ty "tuple") rfl T.cn su rfl) aa))))) (pw_or1 (aC (fL hu) (bc aO rfl T.bS U' (ag (aq 1) aa)) (bc aO rfl T.bS U' (ag (eU S T.cO hr (eU fz T.aV hr (aq 0))) aa)) (aJ _))))) (ak (aG ij)) aH)
  (ak (aG (bc (iu rfl) rfl T.uk U7 (ag (df (N':=["m","c","run"]) (ix:=[none,none,some 0]) (ky rfl T.dY (ag (aq 1) aa)) (λ_ _ _ _=>(jo (K:=K) rfl (i:=0) (j:=1) rfl (show(["m","c","run"]:List Str).Nodup by decide +kernel) rfl rfl Sort Sort)) nL (λ_ _ _ _=>(aM R hr (ag (aq 1) (ag aj (ag (aR cp (dX fW T.aV hr (aq 2) (ag (aq 0) aa)) aj) aa)))))) aa))))),?_)
 nofun;let(T,o,O,ho):=k.ins;let((ms,wv,lv,u,nr,S,Hy),R):=k.Cy;ac_rfl;have S:=R.PY;by_cases I:cut.length=a.ms.length
 rotate_left
 ·right;calc dq _ true (.tup m) rfl ?_;rw[if_neg ∅];calc bJ _ (.inr (_,bP.of m,rfl)) ?_;calc(x,T,_,rfl,O,dZ ⋯,F,x,g,a,r,ad,rfl,k,?_);have R:=u;let(S,_,_,_,L,_):=R;calc(g,S,_,rfl,L,by rfl,g,ms,wv,lv,rfl,u,λl p=>?_);have B:=au.new (.lst (ms.map V.ref)) p;have M:upd H l (.lst (ms.map V.ref)) l=some (.lst (ms.map V.ref)):=af;calc bJ _ (.inl (_,aY.of M,rfl)) ?_;rw[if_pos (by rw[T',T',nr];simp;lia)];right;rw[show AJ a r cut=false by unfold AJ;rw[show(cut.length==a.ms.length)=false from beq_eq_false_iff_ne.mpr I];rfl]at q;exact q _ B
 right;calc dq _ true (.tup m) rfl ?_;rw[if_neg ∅];calc bJ _ (.inr (_,bP.of m,rfl)) ?_;calc(x,T,_,rfl,O,dZ ⋯,F,x,g,a,r,ad,rfl,k,?_);have R:=u;let(S,_,_,_,L,_):=R;calc(g,S,_,rfl,L,by rfl,g,ms,wv,lv,rfl,u,λl p=>?_);have B:=au.new (.lst (ms.map V.ref)) p;have M:upd H l (.lst (ms.map V.ref)) l=some (.lst (ms.map V.ref)):=af;generalize hG:upd H l (.lst (ms.map V.ref))=G at *;calc bJ _ (.inl (_,aY.of M,rfl)) ?_;rw[if_neg (by simp[I,nr])];have U:=k.same B;have N:=B _ _ m;clear k O ho m u L M p hG;calc bI ?_;right;calc F6 false _ (Sq.t N) (λD hD=>?_);refine bq (J:=PM false K t) (n:=a.ms.length) (λi ys H'=>au G H'/\ys=((List.range i).map (Y4 r cut)).map V.bl) (M' (aE ())) (au.new _ hD,rfl) ?_ ?_ ?_ ?_
 ·rintro i ys H' W ⟨b,_⟩;exact(_,_,Sq.t (b _ _ N),by rw[J',a0 (d:=0) ()];rfl)
 ·rintro ys H' ⟨b,_⟩;exact(_,Sq.t (b _ _ N),by simp[I])
 ·intro i ys H' W X p jf xx H4 jh;nofun;let(b,rfl):=jf;let(Y,HA,rfl,y):=jh;let(z,ez,rfl):=y _ (Sq.t (b _ _ N));rw[J',a0 (d:=0) ()] at ez;obtain rfl:=Option.some.inj ez;ac_rfl;have Z:=au.new (.tup [.int (i:Nat),.int (cut.getD i 0)]) HA;have k:upd H' Y (.tup [.int (i:Nat),.int (cut.getD i 0)]) Y=some (.tup [.int (i:Nat),.int (cut.getD i 0)]):=af;calc Bl (bP.of k) (Ext.set (Ext.set (Ext.refl _) rfl) rfl,?_);have Um:=Z _ _ X;have Y5:=(U.same b).same Z;have Vy:=b.trans Z;generalize hGt:upd H' Y (.tup [.int (i:Nat),.int (cut.getD i 0)])=G3 at *;right;let(k,m,l,t):=Y5.ins;calc(x,k,_,rfl,l,dZ ⋯,F,x,g,a,r,ad,i,rfl,Y5,W,?_);have m:=cF.vE (show i < a.ms.length by lia);calc(.int (cut.getD i 0),_,0,_,rfl,.int _,?_);rw[show inR 0 _ (.int (cut.getD i 0))=Y4 r cut i by rw[Bool.eq_iff_iff];simp only[inR,Y4,Bool.and_eq_true,decide_eq_true_eq];lia]
  try rw[if_pos trivial]
  calc bW Um p W (M' (aE ())) (λc o e=>by rw[az (av e hD)];calc Vy _ _ e,?_);rw[List.range_succ,W',W'];rfl
 rintro ys H1 X CM ⟨b,rfl⟩;calc bJ _ (aY.of X) ?_;rw[Uk,show(List.range a.ms.length).all (Y4 r cut)=AJ a r cut by unfold AJ;rw[show(cut.length==a.ms.length)=true from beq_iff_eq.mpr I];rfl];calc q _ (B.trans b)
abbrev oB:Stmt:=top 28
def uQ(C CN CR:Addr)(c:Nat->Addr):Sp:=λvs H Q E=>∃(F:Addr->Prop) (x b:Addr) (nt:NT) (r:RS) (ad:Nat->Nat->Addr) (t:Addr) (cut:List Int),vs=[.ref x,.ref t]/\bR C CN CR F H x b nt r ad/\r.Ok nt/\H t=some (.tup (cut.map V.int))/\(eL nt r cut->∀H',au H H'->Q .bO H')/\(¬eL nt r cut->∀a H',au H H'->H' a=some (XO a (c 6) none false)->E (.ref a) none H')
theorem CQ(D:cE K mg "need_cut" "need_cut" oB cx)(T:Tx K mg C CN CR F FD)(e:B6 K mg B c)(m:Def P w K mg base "is_cut" 5 hY (K4 C CN CR)):DefX P w K mg base "need_cut" 6 cx (uQ C CN CR c):=by
 have sc:aD cx cx (ay oB):=by walk_at "s"
 walk_at "xh"
 ·let(F,x,b,d,r,ad,t,cut,rfl,g,i,j,q,k):=h;rfl
 ·let(F,x,b,d,r,ad,t,cut,rfl,g,i,j,q,k):=h;have l:=hr.units;calc(_,(ak (aT (cB (bC (aM m hr (ag (aq 0) (ag (aq 1) aa))))) (ak (zE rfl DS (PJ e.wK (ag aI aa)))) aH)),?_);right;calc(F,x,b,d,r,ad,t,cut,rfl,g,i,j,λH1 l=>?_);by_cases b:eL d r cut
  ·rw[AK.mpr b]
   try rw[if_neg ∅]
   right;exact q b H1 l
  ·rw[Uj b]
   try rw[if_pos ∅]
   right;calc uo (D:=(λ_ _=>True,λ_ _=>True,λ_ _=>True,λ_ _=>True)) (σ:=[]) (e.cl 6 ∅) λa d=>k b a _ (l.trans (nW d)) af
abbrev oC:Stmt:=top 35
inductive K6(C CN CR:Addr)(c:Nat->Addr)(vs:List V)(H:Hp)(Q:VK)(E:XK):Prop
 |mk (F:Addr->Prop) (x aZ:Addr) (nt:NT) (r:RS) (ad:Nat->Nat->Addr) (t:Addr) (cut:List Int) (h0:vs=[.ref x,.ref t]) (h1:bR C CN CR F H x aZ nt r ad) (h2:r.Ok nt) (h3:r.Iv nt) (h4:r.picks.length<=400) (h5:H t=some (.tup (cut.map V.int))) (q:eL nt r cut->∀l bs H',au H H'->H l=none->(∀b∈bs,H b=none/\b≠l)->H' l=some (.lst (bs.map V.ref))->bs.length=nt.ws.length->kh H' r bs (λw=>GJ r cut w (r.ww w).say.length)->Q (.ref l) H') (qe:¬eL nt r cut->∀a H',au H H'->H' a=some (XO a (c 6) none false)->E (.ref a) none H'):K6 C CN CR c vs H Q E
def yx(C CN CR:Addr)(c:Nat->Addr):Sp:=λvs H Q E=>K6 C CN CR c vs H Q E
theorem CS(D:cE K mg "lying_at" "lying_at" oC cx)(T:Tx K mg C CN CR F FD)(TX:B6 K mg B c)(qV:Def P w K mg base "lies_at" 6 fU (K0 C CN CR))(cD:DefX P w K mg base "need_cut" 6 cx (uQ C CN CR c))(cC:cf P w K mg base CN "ways" 1 cz (lY CN))(fz:cf P w K mg base CR "net" 1 cz (sL C CN CR))(iR:cf P w K mg base CR "put_many" 4 ["self","way"] (Qp C CN CR))(oE:cf P w K mg base CR "said" 5 bx (EA C CN CR)):DefX P w K mg base "lying_at" 7 cx (yx C CN CR c):=by
 have sc:aD ["run","cut","lying","way","numbers"] cx (ay oC):=by walk_at "s"
 walk_at "xh"
 ·let(F,x,I,L,r,ad,t,cut,rfl,N,cF,hI,nv,ht,q,qe):=h;rfl
 ·let(F,x,I,L,r,ad,t,cut,rfl,N,cF,hI,nv,ht,q,qe):=h;have hu:=hr.units;refine(_,(ai (bL (di cD dF hr (ag (aq 0) (ag (aq 1) aa))))
   (ai (bf (i:=2) sc.nd rfl Sort (bE aa))
   (ai (fB acw rfl (c8 rfl T.fb (ag (bc aO rfl T.bS U' (ag (eU cC T.cO hr (eU fz T.aV hr (aq 0))) aa)) aa)) (ba (i:=3) sc.nd rfl Sort)
   (ai (gc (i:=4) sc.nd rfl Sort (N':=["number","run","cut","way"]) (ix:=[none,some 0,some 1,some 3]) (c8 rfl T.fb (ag (dX iR T.aV hr (aq 0) (ag (aq 3) aa)) aa)) (λ_ _ _ _=>(ba (i:=0) (show(["number","run","cut","way"]:List Str).Nodup by decide +kernel) rfl Sort)) (λ_ _ _ _=>(jm (bC (aM qV hr (ag (aq 1) (ag (aq 2) (ag (aq 3) (ag (aq 0) aa)))))))) (λ_ _ _ _=>(aq 0)))
   (ak (bL (dO qb sm sr cw (aq 2) (ag (df (N':=["number","way","run"]) (ix:=[none,some 3,some 0]) (bZ (pv 4)) (λ_ _ _ _=>(ba (i:=0) (show(["number","way","run"]:List Str).Nodup by decide +kernel) rfl Sort)) nL (λ_ _ _ _=>(bu (ag (aq 0) (ag (dX oE T.aV hr (aq 2) (ag (aq 1) (ag (aq 0) aa))) aa))))) aa))))))
   (ak (aG (aq 2)))))),?_)
  nofun;let(dx,o,hx,ho):=N.ins;let((ms,wv,lv,hf,nr,Ax,T),aW):=N.Cy;ac_rfl;have ki:wv.length=L.ws.length:=by simpa using T.1
  have T:=aW.F4;walk_at "xg";right;refine(F,x,I,L,r,ad,t,cut,rfl,N,cF,ht,λhC H1 s1=>?_,qe);have q:=q hC;clear qe;refine L2.aP h1 ?_;clear h1;right;refine(aap _,λm rY=>?_);have d:=au.new (.lst []) rY;have yV:upd H1 m (.lst []) m=some (.lst []):=af;have Y6:H m=none:=s1.free rY;have R:=s1.trans d;generalize Kn:upd H1 m (.lst [])=S at *;right;refine(x,dx,_,rfl,R _ _ hx,dZ ⋯,F,x,I,L,r,ad,rfl,N.same R,?_);have T:=hf;let(Ul,_,_,_,OG,_):=T;refine(I,Ul,_,rfl,R _ _ OG,by rfl,I,ms,wv,lv,rfl,hf.same R,λlw W=>?_);have a:=au.new (.lst wv) W;have X:upd S lw (.lst wv) lw=some (.lst wv):=af;have K2:=a _ _ yV;have kl:=R.trans a;generalize Vq:upd S lw (.lst wv)=G3 at *;refine bJ _ (.inl (_,aY.of X,rfl)) ?_;rw[ki];clear a X W Vq R d yV Kn OG;refine(_,rfl,(),(),j6 (n:=L.ws.length) (λi σ H'=>(∃z3 z4,σ=[some (V.ref x),some (V.ref t),some (V.ref m),z3,z4])/\au H H'/\∃bs:List Addr,H' m=some (.lst (bs.map V.ref))/\bs.length=i/\(∀b∈bs,H b=none/\b≠m)/\kh H' r bs (λw=>GJ r cut w (r.ww w).say.length)) ?_ ?_ ?_)
  ·exact((_,_,rfl),kl,[],K2,rfl,λb p=>by simp at p,λi b e=>by simp at e)
  ·intro i σ H' hi qE;let((z3,z4,rfl),U,bs,v,VY,Cw,ju):=qE;rw[Int.zero_add];have Y:=N.same U;have Ms:=U _ _ ht;let(R,T,QF,Uo):=Y.ins;have T:(r.ww i).say.length<=20 + 24 * r.picks.length:=cF.bs i hi;calc L2.fJ λT h2=>?_;right;calc bI ?_;right;calc(x,R,_,rfl,QF,dZ ⋯,F,x,I,L,r,ad,i,rfl,Y,hi,?_);calc NZ _ rfl () () (λD hD=>?_);rw[aav];refine bq (J:=Dj 0 (r.ww i).say.length) (n:=(r.ww i).say.length) (λk ys G=>au H' G/\ys=(GJ r cut i k).map λk=>V.int (k:Nat)) (M' (small ())) (au.new _ hD,rfl) ?_ ?_ ?_ ?_
   ·rintro k ys G g _;exact g
   ·rintro ys G _;exact L' _
   ·intro k ys G g O hl ym xx S Ag;nofun;let(d,rfl):=ym;let(rfl,rfl):=Ag;ac_rfl;walk_at "xf";right;rw[Int.zero_add];refine(F,x,I,L,r,ad,t,cut,i,k,rfl,Y.same d,cF,hI,d _ _ Ms,hC.len,hi,g,?_);refine ly ?_
    cases p:CJ ((r.ww i).snd.getD k none) ((r.ww i).dz.getD k none) cut with
    |true=>
     rw[if_pos rfl];calc bW O hl g (M' (small ())) (λc o e=>by rw[az (av e hD)];calc d _ _ e,?_);rw[AF,p,if_pos rfl,W'];rfl
    |false=>
     rw[if_neg ∅];exact(_,O,by rw[T'];calc aar EH (aa2 _),d,by rw[AF,p,if_neg ∅,aan])
   rintro ys G O CM ⟨d,rfl⟩;calc L2.aP h2 ?_;clear h2 CM;have rY:(GJ r cut i (r.ww i).say.length).length<=(r.ww i).say.length:=EH;have ik:∀k∈GJ r cut i (r.ww i).say.length,k<(r.ww i).say.length:=λk g=>Uc g;have Up:=d _ _ v;have Z:=U.trans d;have hRG:=Y.same d;have hrG:kh G r bs (λw=>GJ r cut w (r.ww w).say.length):=λj b e=>let ⟨ys,h1,h2⟩:=ju j b e;(ys,d _ _ h1,h2.aL d.aQ)
   right;calc(.inl (rfl,_,aY.of Up),?_);calc bI ?_;right;have hH:∀z,G z=none->H z=none:=λz e=>Z.free e;clear ju v d U Y Ms QF Uo hx ho N hf K2 kl;generalize hks:GJ r cut i (r.ww i).say.length=l at *;calc .inl ((_,aY.of O),λz yt=>?_);refine bq (J:=v9 K D) (n:=l.length) (λk u M=>au G M/\fV M 1 u (Oy r i (l.take k))) (M' (small ())) (au.new _ yt,fV.nil) ?_ ?_ ?_ ?_
   ·rintro k u M g ⟨a,_⟩;exact(_,_,aY.of (a _ _ O),by rw[J',dH g];rfl)
   ·rintro u M ⟨a,_⟩;exact(_,aY.of (a _ _ O),nofun)
   ·intro k u M g lX hl Cn xx S K7;nofun;let(a,hz):=Cn;let(rfl,y):=K7;have ex:=y _ (aY.of (a _ _ O));rw[J',dH g] at ex;obtain rfl:=Option.some.inj ex;have yR:=ik _ (aax g);have Y5:=hRG.same a;let(dx3,t,Hu,d):=Y5.ins;ac_rfl;walk_at "xf";right;refine(x,dx3,_,rfl,Hu,dZ ⋯,F,x,I,L,r,ad,i,l[k],rfl,Y5,hi,yR,?_);refine(cy,λtp d=>?_);have s4:=au.new (.tup [.int (l[k]:Nat),.int ((r.ww i).say.getD l[k] 0)]) d;have etp:upd S tp (.tup [.int (l[k]:Nat),.int ((r.ww i).say.getD l[k] 0)]) tp=some (.tup [.int (l[k]:Nat),.int ((r.ww i).say.getD l[k] 0)]):=af;have Y7:=s4 _ _ lX;have hz4:=hz.aL s4.aQ;have VZ:=a.trans s4;generalize hG5:upd S tp (.tup [.int (l[k]:Nat),.int ((r.ww i).say.getD l[k] 0)])=G5 at *
    try rw[if_pos trivial]
    have st:ck G5 (upd G5 z (.lst (u++[.ref tp]))):=(ck.refl _).upd λu e=>by rw[Y7]at e;cases e
    calc bW Y7 hl g (M' (small ())) (λc o e=>by rw[az (av e yt)];calc VZ _ _ e,?_);have:=((hz4.snoc (dj (n:=0) etp (.int _) (.int _))).aL st)
    rw[abc,dH g];unfold Oy at *;rw[W'];exact this
   rintro u M lX d ⟨a,hz⟩;rw[aaz]at hz;have Y8:=a _ _ Up;have nll:z≠m:=λe=>by rw[e,Up]at yt;cases yt
   have aer:=hH z yt;have st:ck M (upd M m (.lst (bs.map V.ref++[.ref z]))):=(ck.refl _).upd λu e=>by rw[Y8]at e;cases e
   refine(_,Y8,aE (by simp;lia),(_,_,rfl,rfl),λb o e=>by rw[az (av e Y6)];calc a _ _ (Z _ _ e),bs++[z],by rw[W'];calc af,by simp[VY],λb p=>?_,λj b e=>?_)
   ·rcases List.mem_append.mp p with p | p
    ·exact Cw b p
    ·rw[List.mem_singleton.mp p];exact(aer,nll)
   ·by_cases d:j < bs.length
    ·rw[aad d]at e;let(ys,g,i):=hrG j b e;exact(ys,by rw[az (Cw b (aao e)).2];calc a _ _ g,(i.aL a.aQ).aL st)
    ·have DI:j=bs.length:=by
      have:=(List.getElem?_eq_some_iff.mp e).1;simp at this;lia
     nofun;subst DI;rw[X' (L' _),Nat.sub_self]at e;obtain rfl:=Option.some.inj e;ac_rfl;calc bJ u (by rw[az nll];calc lX) ?_;show fV _ 1 u (Oy r bs.length (GJ r cut bs.length (r.ww bs.length).say.length));rw[VY,hks];exact hz.aL st
  ·intro σ H' OH;let((z3,z4,rfl),U,bs,v,VY,Cw,ju):=OH;right;calc q m bs H' U Y6 Cw v VY ju
abbrev kJ:Stmt:=top 32
inductive K8(C CN CR:Addr)(c:Nat->Addr)(vs:List V)(H:Hp)(Q:VK)(E:XK):Prop
 |mk (F:Addr->Prop) (x aZ:Addr) (nt:NT) (r:RS) (ad:Nat->Nat->Addr) (t:Addr) (cut:List Int) (h0:vs=[.ref x,.ref t]) (h1:bR C CN CR F H x aZ nt r ad) (h2:r.Ok nt) (h3:r.Iv nt) (h4:r.Pk nt) (h5:r.picks.length<=40) (h6:H t=some (.tup (cut.map V.int))) (q:eL nt r cut->∀l zs H',au H H'->H l=none->H' l=some (.lst zs)->fV H' 1 zs ((aeh r cut (lA r nt.ws.length)).map λp=>pairD (pI p))->Q (.ref l) H') (qe:¬eL nt r cut->∀a H',au H H'->H' a=some (XO a (c 6) none false)->E (.ref a) none H'):K8 C CN CR c vs H Q E
def sR(C CN CR:Addr)(c:Nat->Addr):Sp:=λvs H Q E=>K8 C CN CR c vs H Q E
theorem yy(D:cE K mg "orphans_of" "orphans_of" kJ cx)(T:Tx K mg C CN CR F FD)(u:B6 K mg B c)(l:Def P w K mg base "letters_passed" 6 ["run"] (EJ C CN CR))(n:DefX P w K mg base "need_cut" 6 cx (uQ C CN CR c))(o:Def P w K mg base "orphans_among" 2 hE EK):DefX P w K mg base "orphans_of" 7 cx (sR C CN CR c):=by
 have sc:aD cx cx (ay kJ):=by walk_at "s"
 walk_at "xh"
 ·let(F,x,d,e,r,ad,t,cut,rfl,g,a,b,i,m,j,q,k):=h;rfl
 ·let(F,x,d,e,r,ad,t,cut,rfl,g,a,b,i,m,j,q,k):=h;have u:=hr.units;refine(_,(ai (bL (di n dF hr (ag (aq 0) (ag (aq 1) aa))))
   (ak (aG (aM o hr (ag (aM l hr (ag (aq 0) aa)) (ag (aq 1) aa)))))),?_)
  walk_at "xg";right;refine(F,x,d,e,r,ad,t,cut,rfl,g,a,j,λn H1 o=>?_,k);have q:=q n;clear k;refine L2.aP h1 ?_;clear h1;right;refine(F,x,d,e,r,ad,rfl,g.same o,a,b,i,m,λl ys H2 u z v y=>?_);have d:=o.trans u;have e:=zY b i;refine(l,t,ys,r,_,cut,rfl,v,y,aar (List.length_filter_le _ _) (),.inl (d _ _ j),λp g=>?_,λi j k l m e o=>?_)
  ·exact Ud a b n.len (List.mem_filter.mp g).1
  ·calc q i j k (d.trans l) (d.free m) e o
abbrev iS:Stmt:=top 33
inductive K9(C CN CR:Addr)(c:Nat->Addr)(vs:List V)(H:Hp)(Q:VK)(E:XK):Prop
 |mk (F:Addr->Prop) (x aZ:Addr) (nt:NT) (r:RS) (ad:Nat->Nat->Addr) (t:Addr) (cut:List Int) (h0:vs=[.ref x,.ref t]) (h1:bR C CN CR F H x aZ nt r ad) (h2:r.Ok nt) (h3:r.Iv nt) (h4:r.Pk nt) (h5:r.picks.length<=40) (h6:H t=some (.tup (cut.map V.int))) (no:¬eL nt r cut) (qe:∀a H',au H H'->H' a=some (XO a (c 6) none false)->E (.ref a) none H'):K9 C CN CR c vs H Q E
def EL(C CN CR:Addr)(c:Nat->Addr):Sp:=λvs H Q E=>K9 C CN CR c vs H Q E
theorem uS(D:cE K mg "parts_of_cut" "parts_of_cut" iS cx)(T:Tx K mg C CN CR F FD)(p:B6 K mg B c)(o:DefX P w K mg base "orphans_of" 7 cx (sR C CN CR c)):DefX P w K mg base "parts_of_cut" 8 cx (EL C CN CR c):=by
 have sc:aD ["run","cut","orphans","within","behind","way","number","part"] cx (ay iS):=by walk_at "s"
 walk_at "xh"
 ·let(F,x,a,b,r,ad,t,cut,rfl,d,e,g,j,k,l,m,n):=h;rfl
 ·let(F,x,a,b,r,ad,t,cut,rfl,d,e,g,j,k,l,m,n):=h;have p:=hr.units;refine(_,(ai (bf (i:=2) sc.nd rfl Sort (di o dF hr (ag (aq 0) (ag (aq 1) aa))))
   (ai cq
   (ai cq
   (ai cq
   (ai cq
   (ak cq)))))),?_)
  walk_at "xg";right;exact(F,x,a,b,r,ad,t,cut,rfl,d,e,g,j,k,l,λo=>absurd o m,λ_=>n)
abbrev jL:Stmt:=top 41
inductive La(C CN CR:Addr)(c:Nat->Addr)(vs:List V)(H:Hp)(Q:VK)(E:XK):Prop
 |mk (F:Addr->Prop) (x aZ:Addr) (nt:NT) (r:RS) (ad:Nat->Nat->Addr) (t u:Addr) (cut cu:List Int) (h0:vs=[.ref x,.ref t,.ref u]) (h1:bR C CN CR F H x aZ nt r ad) (h2:r.Ok nt) (h3:H t=some (.tup (cut.map V.int))) (h4:H u=some (.tup (cu.map V.int))) (q:eL nt r cut->eL nt r cu->∀a H',au H H'->H' a=some (.tup ((List.zipWith max cut cu).map V.int))->Q (.ref a) H') (qe:¬(eL nt r cut/\eL nt r cu)->∀a H',au H H'->H' a=some (XO a (c 6) none false)->E (.ref a) none H'):La C CN CR c vs H Q E
def yz(C CN CR:Addr)(c:Nat->Addr):Sp:=λvs H Q E=>La C CN CR c vs H Q E
theorem vT(D:cE K mg "greater_cut" "greater_cut" jL c7)(T:Tx K mg C CN CR F FD)(TX:B6 K mg B c)(W:DefX P w K mg base "need_cut" 6 cx (uQ C CN CR c)):DefX P w K mg base "greater_cut" 7 c7 (yz C CN CR c):=by
 have sc:aD c7 c7 (ay jL):=by walk_at "s"
 walk_at "xh"
 ·let(F,x,N,k,r,ad,t,u,cut,b,rfl,m,O,p,v,q,G):=h;rfl
 ·let(F,x,N,k,r,ad,t,u,cut,b,rfl,m,O,p,v,q,G):=h;have hu:=hr.units;refine(_,(ai (bL (di W dF hr (ag (aq 0) (ag (aq 1) aa))))
   (ai (bL (di W dF hr (ag (aq 0) (ag (aq 2) aa))))
   (ak (aG (dA bX rfl T.cn su (ag (df (N':=["c","other_c"]) (ix:=[none,none]) (ya rfl T.zZ (ag (aq 1) (ag (aq 2) aa))) (λ_ _ _ _=>(jo (K:=K) rfl (i:=0) (j:=1) rfl (show(["c","other_c"]:List Str).Nodup by decide +kernel) rfl rfl Sort Sort)) nL (λ_ _ _ _=>(bc (wz rfl) rfl T.Kb PyProof.Rows.boot_max (ag (aq 0) (ag (aq 1) aa))))) aa)))))),?_)
  walk_at "xg";right;refine(F,x,N,k,r,ad,t,cut,rfl,m,O,p,λX H1 o=>?_,λR=>G λz=>R z.1);refine L2.aP h1 ?_;clear h1;walk_at "xg";right;refine(F,x,N,k,r,ad,u,b,rfl,m.same o,O,o _ _ v,λT H2 W=>?_,λR a H' x N=>G (λz=>R z.2) a H' (o.trans x) N);refine L2.aP h1 ?_;clear h1;have q:=q X T;have x:=X.len;have x:=T.len;have x:k.ms.length<=5:=m.Cy.2.PY;have S:=o.trans W;have I:=S _ _ p;have L:=S _ _ v;clear G m o W p v;refine bI ?_;right;refine(false,false,_,_,Sq.t I,Sq.t L,λD Y=>?_);refine bq (J:=Vi false false K t u) (n:=k.ms.length) (λi ys H'=>au H2 H'/\ys=((List.zipWith max cut b).take i).map V.int) (M' (aE ())) (au.new _ Y,rfl) ?_ ?_ ?_ ?_
  ·rintro i ys H' Z ⟨g,_⟩;exact(_,_,_,_,Sq.t (g _ _ I),Sq.t (g _ _ L),by rw[J',a0 (d:=0) ()];rfl,by rw[J',a0 (d:=0) ()];rfl)
  ·rintro ys H' ⟨g,_⟩;exact(_,_,Sq.t (g _ _ I),Sq.t (g _ _ L),.inl (by simp;lia))
  ·rintro i ys H' Z M hl ⟨g,rfl⟩ xx H4 ⟨U,HA,rfl,y⟩;let(x1,x2,QG,QH,rfl):=y _ _ (Sq.t (g _ _ I)) (Sq.t (g _ _ L));rw[J',a0 (d:=0) ()] at QG QH;obtain rfl:=Option.some.inj QG;obtain rfl:=Option.some.inj QH;have k:=au.new (.tup [.int (cut.getD i 0),.int (b.getD i 0)]) HA;have m:upd H' U (.tup [.int (cut.getD i 0),.int (b.getD i 0)]) U=some (.tup [.int (cut.getD i 0),.int (b.getD i 0)]):=af;calc(U,_,rfl,bP.of m,rfl,_,_,rfl,_,_,rfl,rfl,Ext.set (Ext.set (Ext.refl _) rfl) rfl,?_);right
   try rw[if_pos trivial]
   calc bW (k _ _ M) hl Z (M' (aE ())) (λc o e=>by rw[az (av e Y)];calc k _ _ (g _ _ e),?_);rw[aa6,List.getElem?_zipWith,a0 (l:=cut) (d:=0) (),a0 (l:=b) (d:=0) (),W'];show _++[V.int (if b.getD i 0 > cut.getD i 0 then b.getD i 0 else cut.getD i 0)]=_++[V.int (max (cut.getD i 0) (b.getD i 0))]
   congr 3;split<;>lia
  rintro ys H5 M CM ⟨s5,rfl⟩;rw[aaE (by simp;lia)]at M;right;calc .inl (_,aY.of M,λg b=>?_);calc q _ _ ((S.trans s5).trans (au.new _ b)) af
abbrev kK:Stmt:=top 42
inductive Lb(C CN CR:Addr)(c:Nat->Addr)(vs:List V)(H:Hp)(Q:VK)(E:XK):Prop
 |mk (F:Addr->Prop) (x aZ:Addr) (nt:NT) (r:RS) (ad:Nat->Nat->Addr) (t u:Addr) (cut cu:List Int) (h0:vs=[.ref x,.ref t,.ref u]) (h1:bR C CN CR F H x aZ nt r ad) (h2:r.Ok nt) (h3:H t=some (.tup (cut.map V.int))) (h4:H u=some (.tup (cu.map V.int))) (q:eL nt r cut->eL nt r cu->∀a H',au H H'->H' a=some (.tup ((List.zipWith min cut cu).map V.int))->Q (.ref a) H') (qe:¬(eL nt r cut/\eL nt r cu)->∀a H',au H H'->H' a=some (XO a (c 6) none false)->E (.ref a) none H'):Lb C CN CR c vs H Q E
def yA(C CN CR:Addr)(c:Nat->Addr):Sp:=λvs H Q E=>Lb C CN CR c vs H Q E
theorem yB(D:cE K mg "lesser_cut" "lesser_cut" kK c7)(T:Tx K mg C CN CR F FD)(TX:B6 K mg B c)(W:DefX P w K mg base "need_cut" 6 cx (uQ C CN CR c)):DefX P w K mg base "lesser_cut" 7 c7 (yA C CN CR c):=by
 have sc:aD c7 c7 (ay kK):=by walk_at "s"
 walk_at "xh"
 ·let(F,x,N,k,r,ad,t,u,cut,b,rfl,m,O,p,v,q,G):=h;rfl
 ·let(F,x,N,k,r,ad,t,u,cut,b,rfl,m,O,p,v,q,G):=h;have hu:=hr.units;refine(_,(ai (bL (di W dF hr (ag (aq 0) (ag (aq 1) aa))))
   (ai (bL (di W dF hr (ag (aq 0) (ag (aq 2) aa))))
   (ak (aG (dA bX rfl T.cn su (ag (df (N':=["c","other_c"]) (ix:=[none,none]) (ya rfl T.zZ (ag (aq 1) (ag (aq 2) aa))) (λ_ _ _ _=>(jo (K:=K) rfl (i:=0) (j:=1) rfl (show(["c","other_c"]:List Str).Nodup by decide +kernel) rfl rfl Sort Sort)) nL (λ_ _ _ _=>(bc (FN rfl) rfl T.Qc PyProof.Rows.boot_min (ag (aq 0) (ag (aq 1) aa))))) aa)))))),?_)
  walk_at "xg";right;refine(F,x,N,k,r,ad,t,cut,rfl,m,O,p,λX H1 o=>?_,λR=>G λz=>R z.1);refine L2.aP h1 ?_;clear h1;walk_at "xg";right;refine(F,x,N,k,r,ad,u,b,rfl,m.same o,O,o _ _ v,λT H2 W=>?_,λR a H' x N=>G (λz=>R z.2) a H' (o.trans x) N);refine L2.aP h1 ?_;clear h1;have q:=q X T;have x:=X.len;have x:=T.len;have x:k.ms.length<=5:=m.Cy.2.PY;have S:=o.trans W;have I:=S _ _ p;have L:=S _ _ v;clear G m o W p v;refine bI ?_;right;refine(false,false,_,_,Sq.t I,Sq.t L,λD Y=>?_);refine bq (J:=Vi false false K t u) (n:=k.ms.length) (λi ys H'=>au H2 H'/\ys=((List.zipWith min cut b).take i).map V.int) (M' (aE ())) (au.new _ Y,rfl) ?_ ?_ ?_ ?_
  ·rintro i ys H' Z ⟨g,_⟩;exact(_,_,_,_,Sq.t (g _ _ I),Sq.t (g _ _ L),by rw[J',a0 (d:=0) ()];rfl,by rw[J',a0 (d:=0) ()];rfl)
  ·rintro ys H' ⟨g,_⟩;exact(_,_,Sq.t (g _ _ I),Sq.t (g _ _ L),.inl (by simp;lia))
  ·rintro i ys H' Z M hl ⟨g,rfl⟩ xx H4 ⟨U,HA,rfl,y⟩;let(x1,x2,QG,QH,rfl):=y _ _ (Sq.t (g _ _ I)) (Sq.t (g _ _ L));rw[J',a0 (d:=0) ()] at QG QH;obtain rfl:=Option.some.inj QG;obtain rfl:=Option.some.inj QH;have k:=au.new (.tup [.int (cut.getD i 0),.int (b.getD i 0)]) HA;have m:upd H' U (.tup [.int (cut.getD i 0),.int (b.getD i 0)]) U=some (.tup [.int (cut.getD i 0),.int (b.getD i 0)]):=af;calc(U,_,rfl,bP.of m,rfl,_,_,rfl,_,_,rfl,rfl,Ext.set (Ext.set (Ext.refl _) rfl) rfl,?_);right
   try rw[if_pos trivial]
   calc bW (k _ _ M) hl Z (M' (aE ())) (λc o e=>by rw[az (av e Y)];calc k _ _ (g _ _ e),?_);rw[aa6,List.getElem?_zipWith,a0 (l:=cut) (d:=0) (),a0 (l:=b) (d:=0) (),W'];show _++[V.int (if b.getD i 0<cut.getD i 0 then b.getD i 0 else cut.getD i 0)]=_++[V.int (min (cut.getD i 0) (b.getD i 0))]
   congr 3;split<;>lia
  rintro ys H5 M CM ⟨s5,rfl⟩;rw[aaE (by simp;lia)]at M;right;calc .inl (_,aY.of M,λg b=>?_);calc q _ _ ((S.trans s5).trans (au.new _ b)) af
abbrev kM:Stmt:=top 37
def Lc(C CN CR:Addr)(c:Nat->Addr):Sp:=λvs H Q E=>∃(F:Addr->Prop) (x d:Addr) (nt:NT) (r:RS) (ad:Nat->Nat->Addr) (m b:Int),vs=[.ref x,.int m,.int b]/\bR C CN CR F H x d nt r ad/\r.Ok nt/\(CP nt r m b->∀H',au H H'->Q .bO H')/\(¬CP nt r m b->∀a H',au H H'->H' a=some (XO a (c 7) none false)->E (.ref a) none H')
theorem yC(D:cE K mg "need_event" "need_event" kM de)(T:Tx K mg C CN CR F FD)(p:B6 K mg B c)(j:Def P w K mg base "is_within" 2 b8 bU)(v:cf P w K mg base CN "machines" 1 cz (gn CN))(y:cf P w K mg base CR "count" 4 cb (CB C CN CR))(I:cf P w K mg base CR "net" 1 cz (sL C CN CR)):DefX P w K mg base "need_event" 5 de (Lc C CN CR c):=by
 have sc:aD de de (ay kM):=by walk_at "s"
 walk_at "xh"
 ·let(F,x,e,b,r,ad,m,d,rfl,g,u,q,t):=h;rfl
 ·let(F,x,e,b,r,ad,m,d,rfl,g,u,q,t):=h;have o:=hr.units;calc(_,(ak (aT (PW.pt (pw_or (cB (bC (aM j hr (ag (aq 1) (ag aj (ag (bc aO rfl T.bS U' (ag (eU v T.cO hr (eU I T.aV hr (aq 0))) aa)) aa)))))) (pw_or1 (cB (bC (aM j hr (ag (aq 2) (ag aj (ag (aR cp (dX y T.aV hr (aq 0) (ag (aq 1) aa)) aj) aa))))))))) (ak (zE rfl DS (PJ p.wL (ag aI aa)))) aH)),?_);nofun;let(J,o,L,O):=g.ins;let((ms,wv,o,j,M,v,y),I):=g.Cy;ac_rfl;right;calc(x,J,_,rfl,L,dZ ⋯,F,x,e,b,r,ad,rfl,g,?_);have v:=j;let(y,_,_,_,I,_):=v;calc(e,y,_,rfl,I,by rfl,e,ms,wv,o,rfl,j,λl J=>?_);have n:=au.new (.lst (ms.map V.ref)) J;have N:upd H l (.lst (ms.map V.ref)) l=some (.lst (ms.map V.ref)):=af;generalize R:upd H l (.lst (ms.map V.ref))=G at *;calc(_,.inl (_,aY.of N,rfl),.int m,_,0,_,rfl,.int _,?_);rw[T',M];by_cases i:0<=m/\m < ((b.ms.length:Nat):Int)
  ·rw[show inR 0 ((b.ms.length:Nat):Int) (.int m)=true by simp only[inR];rw[aaF,aaR,aaR];calc i];calc ly ?_;rw[if_neg ∅];nofun;obtain⟨k,rfl⟩:∃k:Nat,m=k:=(m.toNat,())
   have j:=g.same n;let(l,v,o,y):=j.ins;ac_rfl;calc(x,l,_,rfl,o,dZ ⋯,F,x,e,b,r,ad,k,rfl,j,(),?_);calc fZ (.int d) _ 1 _ rfl (.int _) ?_;have g:=u.vE (show k<b.ms.length by lia);by_cases e:1<=d/\d<(((r.mm k).fe.length:Nat):Int)
   ·rw[show inR 1 _ (.int d)=true by simp only[inR];rw[aaF,aaR,aaR];lia];calc ly ?_;rw[if_neg ∅];right;exact q (i.1,i.2,e.1,e.2) G n
   ·rw[show inR 1 _ (.int d)=false by rw[<-Bool.not_eq_true];simp only[inR];rw[aaF,aaR,aaR];lia];calc ly ?_;rw[if_pos ∅];right;exact uo (D:=(λ_ _=>True,λ_ _=>True,λ_ _=>True,λ_ _=>True)) (σ:=[]) (p.cl 7 ∅) λa d=>t (λz=>e (z.2.2.1,z.2.2.2)) a _ (n.trans (nW d)) af
  ·rw[show inR 0 ((b.ms.length:Nat):Int) (.int m)=false by rw[<-Bool.not_eq_true];simp only[inR];rw[aaF,aaR,aaR];calc i];calc ly ?_;rw[if_pos ∅];right;calc uo (D:=(λ_ _=>True,λ_ _=>True,λ_ _=>True,λ_ _=>True)) (σ:=[]) (p.cl 7 ∅) λa d=>t (λz=>i (z.1,z.2.1)) a _ (n.trans (nW d)) af
abbrev oF:Stmt:=top 39
def yD(C CN CR:Addr)(c:Nat->Addr):Sp:=λvs H Q E=>∃(F:Addr->Prop) (x d:Addr) (nt:NT) (r:RS) (ad:Nat->Nat->Addr) (m b:Int),vs=[.ref x,.int m,.int b]/\bR C CN CR F H x d nt r ad/\r.Ok nt/\¬CP nt r m b/\(∀a H',au H H'->H' a=some (XO a (c 7) none false)->E (.ref a) none H')
theorem CT(D:cE K mg "heard_of" "heard_of" oF de)(T:Tx K mg C CN CR F FD)(l:B6 K mg B c)(k:DefX P w K mg base "need_event" 5 de (Lc C CN CR c)):DefX P w K mg base "heard_of" 6 de (yD C CN CR c):=by
 have sc:aD de de (ay oF):=by walk_at "s"
 walk_at "xh"
 ·let(F,x,a,b,r,ad,m,d,rfl,e,g,i,j):=h;rfl
 ·let(F,x,a,b,r,ad,m,d,rfl,e,g,i,j):=h;have l:=hr.units;refine(_,(ai (bL (di k dF hr (ag (aq 0) (ag (aq 1) (ag (aq 2) aa)))))
   (ak cq)),?_)
  right;calc(F,x,a,b,r,ad,m,d,rfl,e,g,λz=>absurd z i,λ_=>j)
abbrev gG:Stmt:=top 43
theorem qW(D:cE K mg "least_cut_with" "least_cut_with" gG de)(T:Tx K mg C CN CR F FD)(l:B6 K mg B c)(k:DefX P w K mg base "heard_of" 6 de (yD C CN CR c)):DefX P w K mg base "least_cut_with" 7 de (yD C CN CR c):=by
 have sc:aD de de (ay gG):=by walk_at "s"
 walk_at "xh"
 ·let(F,x,a,b,r,ad,m,d,rfl,e,g,i,j):=h;rfl
 ·let(F,x,a,b,r,ad,m,d,rfl,e,g,i,j):=h;have l:=hr.units;calc(_,(ak (aG (di k dF hr (ag (aq 0) (ag (aq 1) (ag (aq 2) aa)))))),?_);right;calc(F,x,a,b,r,ad,m,d,rfl,e,g,i,j)
abbrev mn:Stmt:=top 82
def AL:Sp:=λvs H Q _=>∃p m,vs=[.ref p,.int m]/\fT H p/\0<m/\m<=4/\∀x v H',Step p H H'->HT H' 1 x (Val.dv v)->v.ok m->Q x H'
theorem AM(D:cE K mg "_law_value" "_law_value" mn ah)(T:Tx K mg C CN CR F FD)(u:Def P w K mg base "_law_digit" 1 ah iG):Def P w K mg base "_law_value" 2 ah AL:=by
 exists["_law_pot_here","_law_many","_law_kind"];let(p,m,rfl,G,I,J,q):=h;have L:=hr.units;refine(_,(ai (bf (i:=2) sc rfl Sort (aM u hr (ag (aq 0) (ag aj aa))))
  (ai (aT (aC gX (aq 2) aj (aJ _)) (ak (aG (bu (ag aI (ag (ao L (bE (ag (aR fw (aM u hr (ag (aq 0) (ag aj aa))) aj) (ag (aR fw (aM u hr (ag (aq 0) (ag (aR fw (aR mY aj (aR mZ aj aj)) aj) aa))) (aR fw (aR mZ aj aj) aj)) aa))) (aq 2)) aa))))) aH)
  (ai (aT (aC gX (aq 2) aj (aJ _)) (ak (aG (bu (ag aI (ag (aM u hr (ag (aq 0) (ag (aq 1) aa))) aa))))) aH)
  (ak (aG (ao L (bE (ag (bu (ag aI aa)) (ag (bu (ag aI aa)) (ag (bu (ag aI aa)) (ag (bu (ag aI aa)) aa))))) (aR fw (aq 2) aj))))))),?_)
 right;calc nj p 8 rfl G ⋯ ⋯ (λd H1 h1 h2 st=>?_);right;split
 ·rename_i j;have j:d < 2:=by simpa using j
  calc nj p 9 rfl st.gv ⋯ ⋯ (λR H2 M J k=>?_);right;calc(Ci,Tg,dig k.gv XQ XR λd2 H3 h5 h6 N=>?_);right;calc je Ci ∅ (λl c=>?_);have y:d=0\/d=1:=by lia
  rcases y with rfl|rfl
  ·exact(_,_,.inl (aY.of af),rfl,∅,λt n=>q _ (.is _) _ ((((st.trans k).trans N).new c).new n) (dj af (.str _) (.int _)) trivial)
  ·exact(_,_,.inl (aY.of af),rfl,∅,λt n=>q _ (.is _) _ ((((st.trans k).trans N).new c).new n) (dj af (.str _) (.int _)) trivial)
 ·rename_i j;have j:¬d < 2:=by simpa using j
  split
  ·refine(p,m,rfl,st.gv,I,?_,λR H2 M z k=>?_)
   ·have:m=1\/m=2\/m=3\/m=4:=by lia
    rcases this with rfl|rfl|rfl|rfl<;>decide +kernel
   right;exact(∅,λt n=>q _ (.number _) _ ((st.trans k).new n) (dj af (.str _) (.int _)) (M,z))
  ·rename_i r;have r:¬d < 4:=by simpa using r
   calc(∅,λa S=>(∅,λb O=>(∅,λe B=>(∅,λg v=>(∅,λl c=>?_)))));have x:=((((st.new S (o:=.tup [.str "letter"])).new O (o:=.tup [.str "letter"])).new B (o:=.tup [.str "way"])).new v (o:=.tup [.str "first"])).new c (o:=.lst [.ref a,.ref b,.ref e,.ref g]);have y:d=4\/d=5\/d=6\/d=7:=by lia
   have U:=(au.new (H:=upd H1 a (.tup [.str "letter"])) (.tup [.str "letter"]) O) a _ af;have W:=(au.new (.tup [.str "way"]) B) _ _ U;have X:=(au.new (.tup [.str "first"]) v) _ _ W;have Y:=(au.new (.lst [.ref a,.ref b,.ref e,.ref g]) c) _ _ X;have Z:=(au.new (H:=upd (upd H1 a (.tup [.str "letter"])) b (.tup [.str "letter"])) (.tup [.str "way"]) B) b _ af;have k3:=(au.new (.tup [.str "first"]) v) _ _ Z;have k4:=(au.new (.lst [.ref a,.ref b,.ref e,.ref g]) c) _ _ k3;have l3:=(au.new (H:=upd (upd (upd H1 a (.tup [.str "letter"])) b (.tup [.str "letter"])) e (.tup [.str "way"])) (.tup [.str "first"]) v) e _ af;have l4:=(au.new (.lst [.ref a,.ref b,.ref e,.ref g]) c) _ _ l3;have m4:=(au.new (H:=upd (upd (upd (upd H1 a (.tup [.str "letter"])) b (.tup [.str "letter"])) e (.tup [.str "way"])) g (.tup [.str "first"])) (.lst [.ref a,.ref b,.ref e,.ref g]) c) g _ af;rcases y with rfl|rfl|rfl|rfl
   ·exact(_,_,.inl (aY.of af),rfl,q _ .nS _ x (tY Y (.str _)) trivial)
   ·exact(_,_,.inl (aY.of af),rfl,q _ .nS _ x (tY k4 (.str _)) trivial)
   ·exact(_,_,.inl (aY.of af),rfl,q _ .way _ x (tY l4 (.str _)) trivial)
   ·calc(_,_,.inl (aY.of af),rfl,q _ .first _ x (tY m4 (.str _)) trivial)
theorem aet{d:Int}(a:0<=d)(h:d<10):d=0\/d=1\/d=2\/d=3\/d=4\/d=5\/d=6\/d=7\/d=8\/d=9:=by
 have:∀n:Fin 10,((n.1:Nat):Int)=0\/((n.1:Nat):Int)=1\/((n.1:Nat):Int)=2\/((n.1:Nat):Int)=3\/((n.1:Nat):Int)=4\/((n.1:Nat):Int)=5\/((n.1:Nat):Int)=6\/((n.1:Nat):Int)=7\/((n.1:Nat):Int)=8\/((n.1:Nat):Int)=9:=by decide
 rw[<-aa0 a];calc this (d.toNat,())
abbrev oH:Stmt:=top 83
theorem Uq{H:Hp}{n:Nat}{a:Addr}{u v w z:V}{d d' g i:DV}(e:H a=some (.tup [u,v,w,z]))(h:HT H n u d)(h':HT H n v d')(f:HT H n w g)(j:HT H n z i):HT H (n+1) (.ref a) (.tup [d,d',g,i]):=by
 refine .tup e rfl λi x y b c=>?_
 match i,b,c with
 |0,b,c=>simp at b c;subst b c;calc h
 |1,b,c=>simp at b c;subst b c;calc h'
 |2,b,c=>simp at b c;subst b c;calc f
 |3,b,c=>simp at b c;subst b c;calc j
def AN:Sp:=λvs H Q _=>∃p m,vs=[.ref p,.int m]/\fT H p/\0<m/\m<=4/\∀x d H',Step p H H'->HT H' 2 x (bF.dv d)->d.ok m->Q x H'
theorem CU(D:cE K mg "_law_deed" "_law_deed" oH ah)(T:Tx K mg C CN CR F FD)(M:Def P w K mg base "_law_digit" 1 ah iG)(I:Def P w K mg base "_law_value" 2 ah AL):Def P w K mg base "_law_deed" 3 ah AN:=by
 exists["_law_pot_here","_law_many","_law_kind"];let(p,m,rfl,W,k,u,q):=h;have N:=hr.units;refine(_,(ai (bf (i:=2) sc rfl Sort (aM M hr (ag (aq 0) (ag aj aa))))
  (ai (aT (aC gX (aq 2) aj (aJ _)) (ak (aG (bu (ag (ao N (bE (ag aI (ag aI (ag aI aa)))) (aq 2)) (ag (aM M hr (ag (aq 0) (ag (aq 1) aa))) (ag (aM I hr (ag (aq 0) (ag (aq 1) aa))) aa)))))) aH)
  (ai (aT (aC gX (aq 2) aj (aJ _)) (ak (aG (bu (ag aI (ag (aM M hr (ag (aq 0) (ag aj aa))) (ag (aM I hr (ag (aq 0) (ag (aq 1) aa))) aa)))))) aH)
  (ai (aT (aC (aU N) (aq 2) aj (aJ _)) (ak (aG (bu (ag aI (ag (aM I hr (ag (aq 0) (ag (aq 1) aa))) aa))))) aH)
  (ai (aT (aC (aU N) (aq 2) aj (aJ _)) (ak (aG (bu (ag aI (ag (aM I hr (ag (aq 0) (ag (aq 1) aa))) aa))))) aH)
  (ai (aT (aC (aU N) (aq 2) aj (aJ _)) (ak (aG (bu (ag aI aa)))) aH)
  (ak (aG (bu (ag aI (ag (aM I hr (ag (aq 0) (ag (aq 1) aa))) (ag (aM I hr (ag (aq 0) (ag (aq 1) aa))) (ag (aR cp aj (aM M hr (ag (aq 0) (ag aj aa)))) aa))))))))))))),?_)
 right;calc nj p 10 rfl W ⋯ ⋯ (λd H1 I M st=>?_);have O:m.natAbs.log2<9000:=by
  have:m=1\/m=2\/m=3\/m=4:=by lia
  rcases this with rfl|rfl|rfl|rfl<;>decide +kernel
 have Z:d=0\/d=1\/d=2\/d=3\/d=4\/d=5\/d=6\/d=7\/d=8\/d=9:=aet (by assumption) (by assumption);rcases Z with rfl|rfl|rfl|rfl|rfl|rfl|rfl|rfl|rfl|rfl
 ·walk_at "go";refine(∅,λl J=>?_);have B:=st.new (o:=.lst [.str "set",.str "add",.str "times"]) J;refine bG af rfl ?_;refine dig B.gv k O λe L r y x=>?_;have b:=B.trans x;walk_at "go";refine nj p m rfl b.gv k u (λz v G c g j=>?_);walk_at "go";exact(∅,λt a=>q _ (.set e v) _ ((b.trans c).new a) (lO af (.str _) (.int _) (g.aL (au.new _ a).aQ)) (r,y,j))
 ·walk_at "go";refine(∅,λl J=>?_);have B:=st.new (o:=.lst [.str "set",.str "add",.str "times"]) J;refine bG af rfl ?_;refine dig B.gv k O λe L r y x=>?_;have b:=B.trans x;walk_at "go";refine nj p m rfl b.gv k u (λz v G c g j=>?_);walk_at "go";exact(∅,λt a=>q _ (.add e v) _ ((b.trans c).new a) (lO af (.str _) (.int _) (g.aL (au.new _ a).aQ)) (r,y,j))
 ·walk_at "go";refine(∅,λl J=>?_);have B:=st.new (o:=.lst [.str "set",.str "add",.str "times"]) J;refine bG af rfl ?_;refine dig B.gv k O λe L r y x=>?_;have b:=B.trans x;walk_at "go";refine nj p m rfl b.gv k u (λz v G c g j=>?_);walk_at "go";exact(∅,λt a=>q _ (.times e v) _ ((b.trans c).new a) (lO af (.str _) (.int _) (g.aL (au.new _ a).aQ)) (r,y,j))
 ·walk_at "go";refine dig st.gv ∅ ⋯ λe L r y x=>?_;have b:=st.trans x;right;refine nj p m rfl b.gv k u (λz v G c g j=>?_);right;exact(∅,λt a=>q _ (.send e v) _ ((b.trans c).new a) (lO af (.str _) (.int _) (g.aL (au.new _ a).aQ)) (r,j))
 ·walk_at "go";refine dig st.gv ∅ ⋯ λe L r y x=>?_;have b:=st.trans x;right;refine nj p m rfl b.gv k u (λz v G c g j=>?_);right;exact(∅,λt a=>q _ (.send e v) _ ((b.trans c).new a) (lO af (.str _) (.int _) (g.aL (au.new _ a).aQ)) (r,j))
 ·walk_at "go";refine dig st.gv ∅ ⋯ λe L r y x=>?_;have b:=st.trans x;right;refine nj p m rfl b.gv k u (λz v G c g j=>?_);right;exact(∅,λt a=>q _ (.send e v) _ ((b.trans c).new a) (lO af (.str _) (.int _) (g.aL (au.new _ a).aQ)) (r,j))
 ·walk_at "go";refine nj p m rfl st.gv k u (λz v G c g j=>?_);walk_at "go";exact(∅,λt a=>q _ (.say v) _ ((st.trans c).new a) (dj af (.str _) (g.aL (au.new _ a).aQ)) j)
 ·walk_at "go";refine nj p m rfl st.gv k u (λz v G c g j=>?_);walk_at "go";exact(∅,λt a=>q _ (.put v) _ ((st.trans c).new a) (dj af (.str _) (g.aL (au.new _ a).aQ)) j)
 ·walk_at "go";exact(∅,λt a=>q _ .drop _ (st.new a) (tY (n:=1) af (.str _)) trivial)
 ·walk_at "go";refine nj p m rfl st.gv k u (λz v G c g j=>?_);walk_at "go";have R:=st.trans c;refine nj p m rfl R.gv k u (λvy v2 b X S Y9=>?_);have U:=R.trans X;walk_at "go";refine dig U.gv ∅ ⋯ λe b r y Y=>?_;walk_at "go";refine(∅,λt a=>q _ (.skip v v2 (1+e)) _ ((U.trans Y).new a) ?_ (j,Y9,(),()));have b:=(Y.aQ U.gv).trans (au.new (.tup [.str "skip",z,vy,.int (1+e)]) a).aQ;exact Uq af (.str _) (g.aL ((X.aQ R.gv).trans b)) (S.aL b) (.int _)
abbrev jM:Stmt:=top 84
theorem Step.free{p b:Addr}{H H':Hp}(st:Step p H H')(h:H' b=none):H b=none:=by
 cases e:H b with
 |none=>rfl
 |some o=>
  by_cases a:b=p
  ·subst a;let(x,c,_):=st.gv;rw[h]at c;cases c
  ·rw[st.rest b o e a]at h;cases h
theorem EM{m:Int}(a:0<m)(h:m<=1000000000000):m.natAbs.log2<9000:=(Nat.log2_lt ()).mpr (aa5 (show m.natAbs<=1000000000000 by lia) ⋯)
def mods(d:Int):List V:=[.int 2,.int 3,.int 7,.int 10,.int 97,.int (2+d)]
theorem OM{d k:Int}(b:0<=d)(a:d<10^Int.toNat 12-1)(c:0<=k)(f:k<6):∃z:Int,jc (mods d) k=some (.int z)/\2<=z/\z<=1000000000000:=by
 have e:(10:Int)^Int.toNat 12=1000000000000:=by decide +kernel
 rw[e]at a;have:k=0\/k=1\/k=2\/k=3\/k=4\/k=5:=by lia
 rcases this with rfl|rfl|rfl|rfl|rfl|rfl
 ·exact(_,aA (j:=0) rfl,∅,∅)
 ·exact(_,aA (j:=1) rfl,∅,∅)
 ·exact(_,aA (j:=2) rfl,∅,∅)
 ·exact(_,aA (j:=3) rfl,∅,∅)
 ·exact(_,aA (j:=4) rfl,∅,∅)
 ·calc(_,aA (j:=5) rfl,(),())
def AO:Sp:=λvs H Q _=>∃p,vs=[.ref p]/\fT H p/\∀t a b c xs M ns row d H',Step p H H'->H' t=some (.tup [.int M,.ref a,.ref b,.ref c])->H' a=some (.lst (ns.map V.int))->H' b=some (.lst (row.map V.int))->H' c=some (.lst xs)->fV H' 2 xs (d.map bF.dv)->H a=none->H b=none->H c=none->Good M ns row d->Q (.ref t) H'
theorem vU(D:cE K mg "_law_machine" "_law_machine" jM ["_law_pot_here"])(T:Tx K mg C CN CR F FD)(oI:Def P w K mg base "_law_deed" 3 ah AN)(j:Def P w K mg base "_law_digit" 1 ah iG):Def P w K mg base "_law_machine" 4 ["_law_pot_here"] AO:=by
 exists["_law_pot_here","_law_modulus","_law_many","_law_numbers","_law_row","_law_deeds"];let(p,rfl,k,q):=h;have l:=hr.units;refine(_,(ai (bf (i:=1) sc rfl Sort (ao l (bE (ag aj (ag aj (ag aj (ag aj (ag aj (ag (aR cp aj (aM j hr (ag (aq 0) (ag (aR fw (aR mZ aj aj) aj) aa)))) aa))))))) (aM j hr (ag (aq 0) (ag aj aa)))))
  (ai (bf (i:=2) sc rfl Sort (aR cp aj (aM j hr (ag (aq 0) (ag aj aa)))))
  (ai (gc (i:=3) sc rfl Sort (N':=d8) (ix:=[none,some 0,some 1]) (c8 rfl T.fb (ag (aq 2) aa)) (λ_ _ _ _=>(ba (i:=0) (show(d8:List Str).Nodup by decide +kernel) rfl Sort)) nL (λ_ _ _ _=>(aM j hr (ag (aq 1) (ag (aq 2) aa)))))
  (ai (gc (i:=4) sc rfl Sort (N':=d8) (ix:=[none,some 0,some 1]) (c8 rfl T.fb (ag (aM j hr (ag (aq 0) (ag aj aa))) aa)) (λ_ _ _ _=>(ba (i:=0) (show(d8:List Str).Nodup by decide +kernel) rfl Sort)) nL (λ_ _ _ _=>(aM j hr (ag (aq 1) (ag (aq 2) aa)))))
  (ai (gc (i:=5) sc rfl Sort (N':=["_law_k","_law_pot_here","_law_many"]) (ix:=[none,some 0,some 2]) (c8 rfl T.fb (ag (aM j hr (ag (aq 0) (ag aj aa))) aa)) (λ_ _ _ _=>(ba (i:=0) (show(["_law_k","_law_pot_here","_law_many"]:List Str).Nodup by decide +kernel) rfl Sort)) nL (λ_ _ _ _=>(aM oI hr (ag (aq 1) (ag (aq 2) aa)))))
  (ak (aG (bu (ag (aq 1) (ag (aq 3) (ag (aq 4) (ag (aq 5) aa)))))))))))),?_)
 right;calc(Tf,?_);calc dig k XS Th λd0 H1 Vs j XN=>?_;right;calc(∅,λl t=>?_);have Dk:=XN.new (o:=.lst (mods d0)) t;have T:l≠p:=Step.ne XN.gv t;calc dig Dk.gv ∅ ⋯ λk H3 l hk1 c=>?_;have k:=Dk.trans c;let(M,eM,Gq,qG):=OM Vs j l hk1;right;calc bG (c.rest _ _ af T) eM ?_;right;calc dig k.gv ∅ ⋯ λm H4 hm0 Kq sS=>?_;have N:=k.trans sS;right;calc bI ?_;right;calc je () () (λD O=>?_);have y:D≠p:=Step.ne N.gv O;refine bq (J:=Dj 0 (1+m).toNat) (n:=(1+m).toNat) (λi ys H'=>∃ns:List Int,ys=ns.map V.int/\ns.length=i/\Step p H4 H'/\(∀z∈ns,0<=z/\z<M)) (M' (aE ())) ([],rfl,rfl,(Step.refl N.gv).new O,λz r=>by simp at r) (λi ys H' a _=>a) (λys H' _=>L' _) ?_ ?_
 ·intro i ys H' a B t jf x H2 jh;nofun;let(ns,rfl,G,st,hb):=jf;let(rfl,rfl):=jh;ac_rfl;walk_at "xf";right;rw[if_pos trivial];refine dig st.gv () (EM () qG) λd H3 h3 h4 c=>?_;refine bW (c.rest _ _ B y) t a (M' (aE ())) (ns++[d],nofun,by simp[G],?_,λz r=>?_)
  ·exact(c.gv.upd (Ne.symm y),λb o e ne=>by rw[az (av e O)];calc c.rest _ _ (st.rest _ _ e ne) ne)
  ·rcases List.mem_append.mp r with g | g
   ·exact hb z g
   ·simp at g;subst g;exact(h3,h4)
 intro ys H5 en hl5 qE;let(ns,rfl,G,T,Cw):=qE;have fD:H D=none:=N.free O;have j:=N.trans T;calc bI ?_;right;calc dig j.gv ∅ ⋯ λk O h60 h61 l=>?_;have R:=j.trans l;have en6:=l.rest _ _ en y;right;calc je () () (λS U=>?_);have W:S≠p:=Step.ne R.gv U;refine bq (J:=Dj 0 k.toNat) (n:=k.toNat) (λi ys H'=>∃ns:List Int,ys=ns.map V.int/\ns.length=i/\Step p O H'/\(∀z∈ns,0<=z/\z<M)) (M' (aE ())) ([],rfl,rfl,(Step.refl R.gv).new U,λz r=>by simp at r) (λi ys H' a _=>a) (λys H' _=>L' _) ?_ ?_
 ·intro i ys H' a B t ym x H2 Ag;nofun;let(ns,rfl,G,st,hb):=ym;let(rfl,rfl):=Ag;ac_rfl;walk_at "xf";right;rw[if_pos trivial];refine dig st.gv () (EM () qG) λd H3 h3 h4 c=>?_;refine bW (c.rest _ _ B W) t a (M' (aE ())) (ns++[d],nofun,by simp[G],?_,λz r=>?_)
  ·exact(c.gv.upd (Ne.symm W),λb o e ne=>by rw[az (av e U)];calc c.rest _ _ (st.rest _ _ e ne) ne)
  ·rcases List.mem_append.mp r with g | g
   ·exact hb z g
   ·simp at g;subst g;exact(h3,h4)
 intro ys H7 er hl7 Cn;let(row,rfl,c,j,Tn):=Cn;have YF:H S=none:=R.free U;have k:=R.trans j;have c:=j.rest _ _ en6 y;calc bI ?_;right;calc dig k.gv ∅ ⋯ λl r t N g=>?_;have X:=k.trans g;have en8:=g.rest _ _ c y;have er8:=g.rest _ _ er W;right;calc je () () (λI Y=>?_);have Zd:I≠p:=Step.ne X.gv Y;have YK:H I=none:=X.free Y;refine bq (J:=Dj 0 l.toNat) (n:=l.toNat) (λi ys H'=>∃u:List bF,fV H' 2 ys (u.map bF.dv)/\u.length=i/\(∀Z∈u,Z.ok (1+m))/\Step p r H') (M' (aE ())) ([],fV.nil,rfl,λZ Bf=>by simp at Bf,(Step.refl X.gv).new Y) (λi ys H' a _=>a) (λys H' _=>L' _) ?_ ?_
 ·intro i ys H' a B rY K7 x H9 OH;nofun;let(u,vH,L,Us,v):=K7;let(rfl,rfl):=OH;ac_rfl;walk_at "xf";right;rw[if_pos trivial];refine(p,1 + m,rfl,v.gv,(),(),λg dd c OS Ze Zf=>?_);have Zg:=OS.rest _ _ B Zd;have t10:ck c (upd c I (.lst (ys++[g]))):=(ck.refl _).upd λc e=>by rw[Zg] at e;cases e
  refine bW Zg rY a (M' (aE ())) (u++[dd],?_,by simp[L],?_,?_)
  ·rw[W'];exact((vH.aL (OS.aQ v.gv)).snoc Ze).aL t10
  ·intro Z Bf;rcases List.mem_append.mp Bf with z | z
   ·exact Us Z z
   ·simp at z;subst z;exact Zf
  ·exact(OS.gv.upd (Ne.symm Zd),λb o e ne=>by rw[az (av e Y)];calc OS.rest _ _ (v.rest _ _ e ne) ne)
 intro ys H9 i a g;let(u,vH,L,Us,v):=g;have c:=X.trans v;right;calc(by show 4<=sizeLine;decide,λt g=>?_);have a:=au.new (.tup [.int M,.ref D,.ref S,.ref I]) g;calc q t D S I ys M ns row u _ (c.new g) af (a _ _ (v.rest _ _ en8 y)) (a _ _ (v.rest _ _ er8 W)) (a _ _ i) (vH.aL a.aQ) fD YF YK (Gq,qG,(),(),(),Cw,Tn,(),λd j=>?_);rw[G];have e:(((1+m).toNat:Nat):Int)=1+m:=by lia
 rw[e];calc Us d j
abbrev mr:Stmt:=top 86
inductive Le(vs:List V)(H:Hp)(Q:VK):Prop
 |mk (x:V) (st an ar:Addr) (way said M:Int) (v:Val) (ns row:List Int) (n:Nat) (h0:vs=[x,.ref st,.int way,.int said,.int M]) (h1:HT H n x (Val.dv v)) (h2:H st=some (.tup [.ref an,.ref ar])) (h3:H an=some (.lst (ns.map V.int))) (h4:H ar=some (.lst (row.map V.int))) (h5:v.ok ns.length) (h6:0<M) (h7:row.length<=12) (h8:∀H',au H H'->Q (.int (gi M way said ns row v)) H'):Le vs H Q
def EN:Sp:=λvs H Q _=>Le vs H Q
theorem AQ(D:cE K mg "_law_worth" "_law_worth" mr c6)(T:Tx K mg C CN CR F FD):Def P w K mg base "_law_worth" 1 c6 EN:=by
 exists["_law_value_here","_law_state","_law_way","_law_said","_law_modulus","_law_worth_here"];let(x,st,a,Y,way,c,M,v,ns,row,n,rfl,g,R,Z,o,S,k,pU,q):=h;have a:=hr.units;refine(_,(ai (bf (i:=5) sc rfl Sort (aq 2))
  (ai (aT (aC (aU a) (ao a (aq 0) aj) aI (aJ _)) (ak (bf (i:=5) sc rfl Sort (ao a (aq 0) aj))) aH)
  (ai (aT (aC (aU a) (ao a (aq 0) aj) aI (aJ _)) (ak (bf (i:=5) sc rfl Sort (ao a (ao a (aq 1) aj) (ao a (aq 0) aj)))) aH)
  (ai (aT (aC (aU a) (ao a (aq 0) aj) aI (aJ _)) (ak (bf (i:=5) sc rfl Sort (aq 3))) aH)
  (ai (aT (aC (aU a) (ao a (aq 0) aj) aI (aJ _)) (ak (bf (i:=5) sc rfl Sort (ao a (aR cp (df (N':=["_law_k","_law_state"]) (ix:=[none,some 1]) (c8 rfl T.fb (ag (bc aO rfl T.bS U' (ag (ao a (aq 1) aj) aa)) aa)) (λ_ _ _ _=>(ba (i:=0) (show(["_law_k","_law_state"]:List Str).Nodup by decide +kernel) rfl Sort)) nL (λ_ _ _ _=>(eg (K:=K) rfl a (eg (K:=K) rfl a (aq 1) aj) (aq 0)))) (bE (ag aj aa))) aj))) aH)
  (ak (aG (aR cK (aq 5) (aq 4))))))))),?_)
 left
 cases v with
 |is z=>
  nofun;let(p,t,w2,u,rfl,y,d,I):=dQ g;obtain rfl:=d.cV;obtain rfl:=I.cL;ac_rfl;walk_at "jg";exact(k,q H (au.refl H))
 |number i=>
  nofun;let(p,t,w2,u,rfl,y,d,I):=dQ g;obtain rfl:=d.cV;obtain rfl:=I.cL;let(L,a):=S;let(j,rfl):=aaO L;ac_rfl;have U:j<ns.length:=by lia
  have a:jc (ns.map V.int) (j:Int)=some (.int ns[j]):=aA (by rw[J',dH U];rfl);walk_at "jg";have a:=q H (au.refl H);have N:gi M way c ns row (.number j)=ns[j]%M:=by
   show ns.getD (j:Int).toNat 0%M=_;simp[List.getD_eq_getElem?_getD,dH U]
  rw[N]at a;calc(k,a)
 |first=>
  nofun;let(p,t,u,rfl,y,d):=jy g;obtain rfl:=d.cV;ac_rfl;walk_at "jg"
  skip
  walk_at "jg";refine bJ _ (.inl (_,aY.of o,rfl)) ?_;left;have a:(row.map V.int).length=row.length:=by simp
  rw[a];calc je () () (λD W=>?_);refine bq (J:=Dj 0 row.length) (n:=row.length) (λi ys H'=>ys=(row.take i).map V.int/\au H H') (M' (aE ())) (rfl,au.new _ W) (λi ys H' l _=>l) (λys H' _=>L' _) ?_ ?_
  ·intro i ys H' l B G jf x H2 jh;nofun;let(rfl,m):=jf;let(rfl,rfl):=jh;ac_rfl;walk_at "xf";have a:=m _ _ R;have O:=m _ _ o;walk_at "jg"
   try rw[if_pos trivial]
   calc bG O (show jc (row.map V.int) (0+(i:Int))=some (.int row[i]) from by rw[Int.zero_add];calc aA (by rw[J',dH l];rfl)) ?_;calc bW B G l (M' (aE ())) (?_,λb o e=>by rw[az (av e W)];calc m _ _ e);rw[aa6,dH l,W'];rfl
  rintro ys H1 B G ⟨rfl,m⟩;rw[aaz]at B;walk_at "jg";refine(∅,λl G=>?_);have X:=au.new (.lst [.int 0]) G;walk_at "jg";refine .inl (_,_,X _ _ B,af,M' (aE (by simp;lia)),λi a=>?_);have s3:=au.new (.lst (row.map V.int++[.int 0])) a;have N:jc (row.map V.int++[.int 0]) 0=some (.int (tX ns row way c .first)):=by
   cases row with
   |nil=>calc aA (j:=0) rfl
   |cons r a=>exact aA (j:=0) rfl
  left;refine bG af N ?_;walk_at "jg";exact(k,q _ (m.trans (X.trans s3)))
 |nS=>
  nofun;let(p,t,u,rfl,y,d):=jy g;obtain rfl:=d.cV;ac_rfl;walk_at "jg";exact(k,q _ (au.refl H))
 |way=>
  nofun;let(p,t,u,rfl,y,d):=jy g;obtain rfl:=d.cV;ac_rfl;walk_at "jg";exact(k,q _ (au.refl H))
def QJ(M way said:Int):Nat->List bF->WS->WS
 |_,[],s=>s
 |l+1,_::r,s=>QJ M way said l r s
 |0,d::r,s=>QJ M way said (nK M way said d s).toNat r (lg M way said d s)
theorem yE{M way said:Int}:∀(b:List bF) (l:Nat) (s:WS) (f:Nat),b.length<=f->QJ M way said l b s=zG M way said f (b.drop l) s
 | [],l,s,f,_=>by rw[List.drop_nil,DU];cases l<;>rfl
 |d::r,l+1,s,f,h=>by
  show QJ M way said l r s=zG M way said f (r.drop l) s;calc yE r l s f (by simp at h;lia)
 |d::r,0,s,f,h=>by
  obtain⟨a,rfl⟩:∃a,f=a+1:=(f-1,by simp at h;lia)
  show QJ M way said (nK M way said d s).toNat r (lg M way said d s)=zG M way said a (r.drop (nK M way said d s).toNat) (lg M way said d s);calc yE r _ _ a (by simp at h;lia)
theorem Lf{M way said:Int}{a:List bF}:QJ M way said 0 a (ns,row,[],[])=pM M way said a ns row:=yE a 0 _ _ (L' _)
inductive OT(H:Hp)(mt:Addr)(st:V)(way said M:Int)(ds:List bF)(ns row:List Int)(i:Nat)(σ:St)(H':Hp):Prop
 |mk (an ar il aw:Addr) (zs:List V) (z9 Ts:Option V) (l:Nat) (s:WS) (h0:σ=[some (.ref mt),some st,some (.int way),some (.int said),some (.ref an),some (.ref ar),some (.ref il),some (.ref aw),some (.int ((l:Nat):Int)),z9,Ts]) (h1:au H H') (a1:H an=none) (a2:H ar=none) (a3:H il=none) (a4:H aw=none) (n1:an≠ar) (n2:an≠il) (n3:an≠aw) (n4:ar≠il) (n5:ar≠aw) (n6:il≠aw) (e1:H' an=some (.lst (s.ns.map V.int))) (e2:H' ar=some (.lst (s.row.map V.int))) (e3:H' il=some (.lst zs)) (KG:SL H' zs s.cU) (e5:H' aw=some (.lst (s.words.map V.int))) (MA:s.ns.length=ns.length) (Cw:∀z∈s.ns,0<=z/\z<M) (Aw:s.row.length<=12) (MB:s.cU.length<=i) (hwn:s.words.length<=i) (pB:QJ M way said l (ds.drop i) s=pM M way said ds ns row):OT H mt st way said M ds ns row i σ H'
inductive Lg(K:W.Frag)(vs:List V)(H:Hp)(Q:VK):Prop
 |mk (mt ln lr ld:Addr) (st:V) (way said M:Int) (xs:List V) (ds:List bF) (ns row:List Int) (h0:vs=[.ref mt,st,.int way,.int said]) (Zi:H mt=some (.tup [.int M,.ref ln,.ref lr,.ref ld])) (h1:H ld=some (.lst xs)) (h2:fV H 2 xs (ds.map bF.dv)) (h3:zH K H st ns row) (h5:2<=M) (h6:M<=1000000000000) (h7:∀z∈ns,0<=z/\z<M) (h9:row.length<=12) (Vs:ds.length<=24) (h11:∀d∈ds,d.ok ns.length) (h13:∀x H',au H H'->Res H H' x (pM M way said ds ns row)->Q x H'):Lg K vs H Q
theorem Uu{xs:List V}:dE xs none (some 12)=xs.take 12:=by
 unfold dE;have a:HT.eS xs.length 0 none=0:=rfl;rw[a];have b:HT.eS xs.length xs.length (some 12)=min 12 xs.length:=by
  unfold HT.eS;simp
 rw[b,List.drop_zero,Nat.sub_zero];by_cases h:xs.length<=12
 ·rw[Nat.min_eq_right h,aaz,aaE h]
 ·rw[Nat.min_eq_left ()]
theorem Zj{xs:List V}:dE xs (some 1) none=xs.tail:=by
 unfold dE;have b:HT.eS xs.length xs.length none=xs.length:=rfl;rw[b]
 cases xs with
 |nil=>simp
 |cons a r=>
  have b:HT.eS (a::r).length 0 (some 1)=1:=by
   unfold HT.eS;simp
  rw[b];simp
theorem EO{α:Type}{l m:List α}{i:Nat}(h:l.length<=i)(h':m.length<=1):(l++m).length<=i+1:=by rw[aat];lia
theorem OU{x:Int}(h:row.length<=12):dE (row.map V.int++[x].map V.int) none (some 12)=(if row.length<12 then row++[x] else row).map V.int:=by
 rw[Uu,<-W',<-List.map_take];split
 ·rw[aaE (by simp;lia)]
 ·rw[List.take_append_of_le_length (),aaE h]
abbrev kO:Stmt:=top 87
def ER(K:W.Frag):Sp:=λvs H Q _=>Lg K vs H Q
theorem yF(D:cE K mg "_law_worked" "_law_worked" kO da)(T:Tx K mg C CN CR F FD)(mw:Def P w K mg base "_law_worth" 1 c6 EN):Def P w K mg base "_law_worked" 2 da (ER K):=by
 exists["_law_machine_here","_law_state","_law_way","_law_said","_law_numbers","_law_row","_law_sent","_law_words","_law_left","_law_deed_here","_law_worths"];let(mt,g,lr,ld,st,k,a,M,xs,U,ns,row,rfl,Zi,X6,vH,pf,Gq,qG,hb,pU,Qh,aW,q):=h;have g:=hr.units;refine(_,(ai (bf (i:=4) sc rfl Sort (dA cQ rfl T.ft Bd (ag (ao g (aq 1) aj) aa)))
  (ai (bf (i:=5) sc rfl Sort (dA cQ rfl T.ft Bd (ag (ao g (aq 1) aj) aa)))
  (ai (bf (i:=6) sc rfl Sort (bE aa))
  (ai (bf (i:=7) sc rfl Sort (bE aa))
  (ai (bf (i:=8) sc rfl Sort aj)
  (ai (fB PassesOwn.never rfl (bZ (ao g (aq 0) aj)) (ba (i:=9) sc rfl Sort)
  (ai (gc (i:=10) sc rfl Sort (N':=d9) (ix:=[none,some 2,some 3,some 4,some 5,some 0]) (bZ (pv 9)) (λ_ _ _ _=>(ba (i:=0) (show(d9:List Str).Nodup by decide +kernel) rfl Sort)) (λ_ _ _ _=>(jm (bC (bc (wB (K:=K) rfl) rfl T.bg vZ (ag (aq 0) (ag (dD (v:=.ty "tuple") rfl T.cn su rfl) aa)))))) (λ_ _ _ _=>(aM mw hr (ag (aq 0) (ag (bu (ag (aq 3) (ag (aq 4) aa))) (ag (aq 1) (ag (aq 2) (ag (eg (K:=K) rfl g (aq 5) aj) aa))))))))
  (ak (aT (aC tJ (aq 8) aj (aJ _)) (ak (bf (i:=8) sc rfl Sort (aR fw (aq 8) aj))) (ak (aT (aC (aU g) (ao g (aq 9) aj) aI (aJ _)) (ak (fA (ao g (aq 10) aj) (jx (aq 4) (ao g (aq 9) aj) eN))) (ak (aT (aC (aU g) (ao g (aq 9) aj) aI (aJ _)) (ak (fA (aR cK (aR cp (ao g (aq 4) (ao g (aq 9) aj)) (ao g (aq 10) aj)) (ao g (aq 0) aj)) (jx (aq 4) (ao g (aq 9) aj) eN))) (ak (aT (aC (aU g) (ao g (aq 9) aj) aI (aJ _)) (ak (fA (aR cK (aR mY (ao g (aq 4) (ao g (aq 9) aj)) (ao g (aq 10) aj)) (ao g (aq 0) aj)) (jx (aq 4) (ao g (aq 9) aj) eN))) (ak (aT (aC (aU g) (ao g (aq 9) aj) aI (aJ _)) (ak (bf (i:=5) sc rfl Sort (yb (aR cp (aq 5) (aq 10)) fK (dM aj)))) (ak (aT (aC (aU g) (ao g (aq 9) aj) aI (aJ _)) (ak (bf (i:=5) sc rfl Sort (yb (aq 5) (dM aj) fK))) (ak (aT (aC (aU g) (ao g (aq 9) aj) aI (aJ _)) (ak (bL (dO qb sm sr cw (aq 6) (ag (bu (ag (ao g (aq 9) aj) (ag (ao g (aq 10) aj) aa))) aa)))) (ak (aT (aC (aU g) (ao g (aq 9) aj) aI (aJ _)) (ak (bL (dO qb sm sr cw (aq 7) (ag (ao g (aq 10) aj) aa)))) (ak (aT (aC gX (ao g (aq 10) aj) (ao g (aq 10) aj) (aJ _)) (ak (bf (i:=8) sc rfl Sort (ao g (aq 9) aj))) aH))))))))))))))))))))
  (ak (aG (bu (ag (bu (ag (dA bX rfl T.cn su (ag (aq 4) aa)) (ag (dA bX rfl T.cn su (ag (aq 5) aa)) aa))) (ag (aq 6) (ag (aq 7) aa)))))))))))),?_)
 let(sa,sb,X7,rfl,X8,g,T):=pf;have Mz:0<M:=by lia
 left;calc eF X8 rfl ?_;left;calc bJ _ g (λB Tt=>?_);have s1:=au.new (.lst (ns.map V.int)) Tt;left;calc eF (s1 _ _ X8) rfl ?_;left;have g:aY K (upd H B (.lst (ns.map V.int))) X7 (row.map V.int)\/bP K (upd H B (.lst (ns.map V.int))) X7 (row.map V.int):=T.elim (λz=>.inl (s1.seq z)) (λz=>.inr (s1.Vk z));calc bJ _ g (λN Cc=>?_);have s2:=au.new (.lst (row.map V.int)) Cc;left;calc(aap _,λG qM=>?_);have m:=au.new (.lst []) qM;left;calc(aap _,λI og=>?_);have s4:=au.new (.lst []) og;left;have nra:N≠B:=λz=>by subst z;rw[af]at Cc;cases Cc
 have hrH:H N=none:=s1.free Cc;have hsH:H G=none:=(s1.trans s2).free qM;have hwH:H I=none:=(s1.trans (s2.trans m)).free og;have nsa:G≠B:=λz=>by subst z;rw[s2 _ _ af]at qM;cases qM
 have nsr:G≠N:=λz=>by subst z;rw[af]at qM;cases qM
 have nwa:I≠B:=λz=>by subst z;rw[m _ _ (s2 _ _ af)]at og;cases og
 have nwr:I≠N:=λz=>by subst z;rw[m _ _ af]at og;cases og
 have nws:I≠G:=λz=>by subst z;rw[af]at og;cases og
 have g:=s1.trans (s2.trans (m.trans s4));have exs:xs.length=U.length:=by simpa using vH.1
 refine eF (g _ _ Zi) (aA (j:=3) rfl) (.inl ((_,aY.of (g _ _ X6)),gQ (K:=K) (xs:=xs) (OT H mt (.ref sa) k a M U ns row) ?_ ?_ ?_ ?_))
 ·refine(B,N,G,I,[],none,none,0,(ns,row,[],[]),rfl,g,Tt,hrH,hsH,hwH,Ne.symm nra,Ne.symm nsa,Ne.symm nwa,Ne.symm nsr,Ne.symm nwr,Ne.symm nws,s4 _ _ (m _ _ (s2 _ _ af)),s4 _ _ (m _ _ af),s4 _ _ af,(rfl,λi z p e=>by simp at e),af,rfl,hb,pU,L' _,L' _,Lf)
 ·intro i σ H1 hi jf;let(B,N,G,I,zs,z9,Ts,l,s,rfl,sH,_):=jf;exact aY.of (sH _ _ X6)
 ·intro i x σ H1 QF jh;nofun;let(B,N,G,I,zs,z9,Ts,l,s,rfl,sH,a1,a2,a3,a4,n1,n2,n3,n4,n5,n6,L,X,O,KG,R,MA,Cw,Aw,MB,hwn,Y):=jh;have Bo:i < U.length:=by rw[<-exs];exact(List.getElem?_eq_some_iff.mp QF).1
  have ph:=aW U[i] (aax Bo);have hx:=(vH.2 i x (bF.dv U[i]) QF (by rw[J',dH Bo];rfl)).aL sH.aQ;have Vu:U.drop i=U[i]::U.drop (i+1):=List.drop_eq_getElem_cons Bo;generalize hdd:U[i]=d at ph hx Vu;rw[Vu]at Y;let(pa,xp,os,k0,rfl,hpa,nN,Uv,nv):=En hx;ac_rfl;left;calc bI ?_;left;calc .inr ((_,bP.of hpa),λD hD=>?_);have Nh:=As (d:=d);refine bq (J:=Wu K pa) (n:=xp.length) (λi ys H'=>ys=(((os.take i).filterMap id).map (gi M k a s.ns s.row)).map V.int/\au H1 H') (M' (aE ())) (rfl,au.new _ hD) ?_ ?_ ?_ ?_
  ·rintro i ys H' hi ⟨_,m⟩;exact(_,xp[i],bP.of (m _ _ hpa),dH hi)
  ·rintro ys H' ⟨_,m⟩;exact(_,bP.of (m _ _ hpa),L' _)
  ·intro i ys S hi bA rY qE y H4 ym;nofun;let(rfl,m):=qE;let(rfl,g):=ym;have T:=g _ (bP.of (m _ _ hpa));let(o,ho,Kt):=nN.get T;ac_rfl;have Ap:os.take (i+1)=os.take i++[o]:=by
    rw[abc,ho];rfl
   walk_at "xf";left;rcases Kt with⟨rfl,hc⟩|⟨v,rfl,hvx⟩
   ·have ety:∃t,gV K H4 y t/\W.kitOne K t (.type "tuple")=some false:=by
     rcases hc with⟨w,rfl⟩|⟨j,rfl⟩
     ·exact(_,.str w,rfl)
     ·exact(_,.int j,rfl)
    let(t,h1,h2):=ety;refine dq t false h1 h2 ?_
    first|calc(false,rfl,?_)|skip
    left
    try rw[if_neg S']
    exact(_,bA,(),by rw[Ap];simp,m)
   ·have Ku:=hvx.aL m.aQ;let(b,MH,rfl,gx):=DW Ku;refine dq _ true (.tup gx) rfl ?_
    first|calc(true,rfl,?_)|skip
    left
    try first|rw[if_pos rfl]|rw[if_pos trivial]
    have y:v.ok ns.length:=pW ph v (by rw[<-Uv];calc List.mem_filterMap.mpr (some v,aao ho,rfl));left;calc(cy,λT t=>?_);have g:=au.new (.tup [.ref B,.ref N]) t;calc eF (g _ _ (m _ _ (sH _ _ Zi))) (aA (j:=0) rfl) ?_;calc(.ref b,T,B,N,k,a,M,v,s.ns,s.row,k0,rfl,Ku.aL g.aQ,af,g _ _ (m _ _ L),g _ _ (m _ _ X),by rw[MA];calc y,Mz,Aw,λH5 t=>?_);calc bW (t _ _ (g _ _ bA)) rY hi (M' (aE ())) (?_,λc o e=>by rw[az (av e hD)];calc t _ _ (g _ _ (m _ _ e)));rw[Ap,List.filterMap_append,W',W'];rfl
  rintro ys S bA rY ⟨rfl,m⟩;rw[nN.len,aaz,Uv]at bA;have Hw:H1 D=none:=hD;nofun;generalize g:d.vals.map (gi M k a s.ns s.row)=ws at bA;have ki:ws.length=d.vals.length:=by rw[<-g];simp
  have Ya:0<=ws.getD 0 0/\ws.getD 0 0<M:=by rw[<-g];exact xf Mz
  have Ex:lg M k a d s=(ke M s.ns (ws.getD 0 0) d,pK s.row (ws.getD 0 0) d,s.cU++iC (ws.getD 0 0) d,s.words++gs (ws.getD 0 0) d):=by rw[<-g];rfl
  have Ey:nK M k a d s=pL (ws.getD 0 0) (ws.getD 1 0) d:=by rw[<-g];rfl
  have g:∀{b:Addr} {o:HO},H1 b=some o->b≠D:=λe=>av e Hw;have qd:au H S:=sH.trans m;have Hu:=hx.aL m.aQ;have yG:=KG.aL m.aQ;have t:B≠D:=g L;have t:N≠D:=g X;have t:G≠D:=g O;have t:I≠D:=g R;have nPs:∀{b:Addr} {ys zs:List V},S b=some (.tup ys)->∀{c:Addr},S c=some (.lst zs)->b≠c:=λh1 _ h2 z=>by subst z;rw[h1]at h2;cases h2
  have aez:=qd _ _ Zi
  replace L:=m _ _ L
  replace X:=m _ _ X
  replace O:=m _ _ O
  replace R:=m _ _ R
  ac_rfl;clear nN Uv nv Nh rY hx
  cases l with
  |succ l=>
   left;rw[if_pos nofun];left;calc(B,N,G,I,zs,some (.ref pa),some (.ref D),l,s,?_,qd,a1,a2,a3,a4,n1,n2,n3,n4,n5,n6,L,X,O,yG,R,MA,Cw,Aw,(),(),Y);have:((l+1:Nat):Int)-1=((l:Nat):Int):=by lia
   rw[this]
  |zero=>
  replace Y:QJ M k a (nK M k a d s).toNat (U.drop (i+1)) (lg M k a d s)=pM M k a U ns row:=Y
  rw[Ex,Ey]at Y;left
  try rw[if_neg nofun]
  have g:((ns.length:Nat):Int)=s.ns.length:=by rw[MA]
  have Z:∀H6 QK MH n' r' sn' w' (k':Nat),uz M s.ns s.row (ws.getD 0 0) (ws.getD 1 0) d=((n'),r',sn',w',((k':Nat):Int))->au H H6->H QK=none->B≠QK->QK≠G->QK≠I->H6 B=some (.lst (n'.map V.int))->H6 QK=some (.lst (r'.map V.int))->H6 G=some (.lst MH)->SL H6 MH (s.cU++sn')->H6 I=some (.lst ((s.words++w').map V.int))->OT H mt (.ref sa) k a M U ns row (i+1) [some (.ref mt),some (.ref sa),some (.int k),some (.int a),some (.ref B),some (.ref QK),some (.ref G),some (.ref I),some (.int ((k':Nat):Int)),some (.ref pa),some (.ref D)] H6:=by
   clear bA Hu yG L X O R aez nPs;intro H6 QK MH n' r' sn' w' k' E f0 f1 f2 f3 f4 f5 f6 f7 f8 f9;simp only[uz,Prod.mk.injEq]at E;let(rfl,rfl,rfl,rfl,E):=E;rw[E,aav]at Y;have g:=Au (w:=ws.getD 0 0) (d:=d);exact(B,QK,G,I,MH,_,_,k',(_,_,_,_),rfl,f0,a1,f1,a3,a4,f2,n2,n3,f3,f4,n6,f5,f6,f7,f8,f9,qu.trans MA,Ew (d:=d) Mz Cw Ya,KA (d:=d) Aw,EO MB g.1,EO hwn g.2,Y)
  have Cs:∀r x,uz M s.ns s.row (ws.getD 0 0) (ws.getD 1 0) d=((s.ns.set r x),s.row,[],[],0)->OT H mt (.ref sa) k a M U ns row (i+1) [some (.ref mt),some (.ref sa),some (.int k),some (.int a),some (.ref B),some (.ref N),some (.ref G),some (.ref I),some (.int 0),some (.ref pa),some (.ref D)] (upd S B (.lst ((s.ns.map V.int).set r (.int x)))):=λr x E=>by
   have t6:ck S (upd S B (.lst ((s.ns.map V.int).set r (.int x)))):=(ck.refl _).upd λys e=>by rw[L]at e;cases e
   exact Z _ N zs _ _ _ _ 0 E (λb o e=>by rw[az (av e a1)];calc qd _ _ e) a2 n1 n4 n5 (by rw[af,List.map_set]) (by rw[az (Ne.symm n1)];calc X) (by rw[az (Ne.symm n2)];calc O) (by rw[aan];calc yG.aL t6) (by rw[az (Ne.symm n3),aan];calc R)
  have Nw:=xc Hu ph;clear Hu ph Y Ex Ey;have Qi:∀r:Nat,((r:Nat):Int)<ns.length->BM (s.ns.map V.int).length ((r:Nat):Int)=some r/\jc (s.ns.map V.int) ((r:Nat):Int)=some (.int (s.ns.getD r 0)):=λr hj=>(pV (by rw[T'];lia),iK ())
  cases Nw with
  |set r u hj ha hl E=>
   have Es:=iK (ws:=ws) (j:=0) ();let(x1,x2):=Qi r hj;walk_at "jg";refine dq _ r L x1 ?_;exact Cs _ _ (E _ _ _ _ _)
  |add r u hj ha hl E=>
   have Es:=iK (ws:=ws) (j:=0) ();let(x1,x2):=Qi r hj;walk_at "jg";refine(Mz,?_);walk_at "jg";refine dq _ r L x1 ?_;exact Cs _ _ (E _ _ _ _ _)
  |times r u hj ha hl E=>
   have Es:=iK (ws:=ws) (j:=0) ();let(x1,x2):=Qi r hj;walk_at "jg";have g:=Ep Cw (j:=r) ();refine(.inl ((),()),?_);walk_at "jg";refine(Mz,?_);walk_at "jg";refine dq _ r L x1 ?_;exact Cs _ _ (E _ _ _ _ _)
  |put u ha hl E=>
   let(g,aeA):=ac6 (ki.trans hl);walk_at "jg";refine .inl (_,_,X,bA,M' (aE (by simp;lia)),λg vk=>?_);have s6:=au.new (.lst (s.row.map V.int++ws.map V.int)) vk;walk_at "jg";refine .inl (_,af,λl3 Hz=>?_);have s7:=au.new (.lst (dE (s.row.map V.int++ws.map V.int) none (some 12))) Hz;have g:=s6.trans s7;have f3:S l3=none:=s6.free Hz;exact Z _ l3 zs _ _ _ _ 0 (E _ _ _ _ _) (qd.trans g) (qd.free f3) (av L f3) (Ne.symm (av O f3)) (Ne.symm (av R f3)) (g _ _ L) (by rw[af,aeA];exact congrArg (λz=>some (HO.lst z)) (OU Aw)) (g _ _ O) (by rw[aan];exact yG.aL g.aQ) (by rw[aan];exact g _ _ R)
  |drop ha E=>
   walk_at "jg";refine .inl (_,X,λl3 Hz=>?_);have s7:=au.new (.lst (dE (s.row.map V.int) (some 1) none)) Hz;exact Z _ l3 zs _ _ _ _ 0 (E _ _ _ _ _) (qd.trans s7) (qd.free Hz) (av L Hz) (Ne.symm (av O Hz)) (Ne.symm (av R Hz)) (s7 _ _ L) (by rw[af,Zj,List.map_tail]) (s7 _ _ O) (by rw[aan];exact yG.aL s7.aQ) (by rw[aan];exact s7 _ _ R)
  |send j u ha hl E=>
   have Es:=iK (ws:=ws) (j:=0) ();walk_at "jg";refine(.inl (rfl,_,aY.of O),?_);walk_at "jg";refine(cy,λtp Bj=>?_);have s6:=au.new (.tup [.int j,.int (ws.getD 0 0)]) Bj;walk_at "jg";refine iE _ (s6 _ _ O) (aa5 (by have:=KG.1;lia) (aE (n:=100) ())) ?_;have t6:ck (upd S tp (.tup [.int j,.int (ws.getD 0 0)])) (upd (upd S tp (.tup [.int j,.int (ws.getD 0 0)])) G (.lst (zs++[.ref tp]))):=(ck.refl _).upd λys e=>by rw[s6 _ _ O]at e;cases e
   have q6:∀b o,b≠G->S b=some o->upd (upd S tp (.tup [.int j,.int (ws.getD 0 0)])) G (.lst (zs++[.ref tp])) b=some o:=λb o ne e=>by rw[az ne];exact s6 _ _ e
   calc Z _ N _ _ _ _ _ 0 (E _ _ _ _ _) (λb o e=>q6 b o (av e a3) (qd _ _ e)) a2 n1 n4 n5 (q6 _ _ n2 L) (q6 _ _ n4 X) af ((yG.aL (s6.aQ.trans t6)).snoc (dj (n:=0) (t6 _ _ af) (.int _) (.int _))) (by rw[aan];calc q6 _ _ (Ne.symm n6) R)
  |say u ha hl E=>
   have Es:=iK (ws:=ws) (j:=0) ();walk_at "jg";refine(.inl (rfl,_,aY.of R),?_);walk_at "jg";refine iE _ R (aa5 (by simp;lia) (aE (n:=100) ())) ?_;have t6:ck S (upd S I (.lst (s.words.map V.int++[.int (ws.getD 0 0)]))):=(ck.refl _).upd λys e=>by rw[R]at e;cases e
   have q6:∀b o,b≠I->S b=some o->upd S I (.lst (s.words.map V.int++[.int (ws.getD 0 0)])) b=some o:=λb o ne e=>by rw[az ne];exact e
   calc Z _ N zs _ _ _ _ 0 (E _ _ _ _ _) (λb o e=>q6 b o (av e a4) (qd _ _ e)) a2 n1 n4 n5 (q6 _ _ n3 L) (q6 _ _ n5 X) (q6 _ _ n6 O) (by rw[aan];calc yG.aL t6) (by rw[af,W'];rfl)
  |skip u v kk ha hl E=>
   have Es:=iK (ws:=ws) (j:=0) ();have g:=iK (ws:=ws) (j:=1) ();have E:=E M s.ns s.row (ws.getD 0 0) (ws.getD 1 0);walk_at "jg";by_cases OV:ws.getD 0 0<ws.getD 1 0
   ·rw[if_pos OV]at E;left;rw[if_pos (aal OV)];walk_at "jg";exact Z _ N zs _ _ _ _ kk E qd a2 n1 n4 n5 L X O (by rw[aan];exact yG) (by rw[aan];exact R)
   ·rw[if_neg OV]at E;left;rw[if_neg λz=>OV (aaM z)];walk_at "jg";exact Z _ N zs _ _ _ _ 0 E qd a2 n1 n4 n5 L X O (by rw[aan];exact yG) (by rw[aan];exact R)
 ·intro σ H1 Ag;let(B,N,G,I,zs,z9,Ts,l,s,rfl,sH,a1,a2,a3,a4,n1,n2,n3,n4,n5,n6,L,X,O,KG,R,MA,Cw,Aw,MB,hwn,Y):=Ag;rw[exs,List.drop_length] at Y;have Y:s=pM M k a U ns row:=by rw[<-Y];cases l <;> rfl
  left;calc .inl (_,aY.of L,λa g=>?_);have i:=au.new (.tup (s.ns.map V.int)) g;left;calc .inl (_,aY.of (i _ _ X),λk l=>?_);have j:=au.new (.tup (s.row.map V.int)) l;left;calc(cy,λm o=>?_);have g:=au.new (.tup [.ref a,.ref k]) o;left;calc(by show 3<=sizeLine;decide,λr l=>?_);have k:=au.new (.tup [.ref m,.ref G,.ref I]) l;have a:=i.trans (j.trans (g.trans k));refine q _ _ (sH.trans a) (_,_,G,I,zs,rfl,af,?_,a _ _ O,?_,?_,a3,a4,n6)
  ·rw[<-Y];exact(dj af (pJ (g _ _ (j _ _ af))) (pJ (g _ _ af))).aL k.aQ
  ·rw[<-Y];exact KG.aL a.aQ
  ·rw[<-Y];calc a _ _ R
def jN(H:Hp)(x:V)(M:Int)(ns row:List Int)(d:List bF):Prop:=∃t a b c xs,x=.ref t/\H t=some (.tup [.int M,.ref a,.ref b,.ref c])/\H a=some (.lst (ns.map V.int))/\H b=some (.lst (row.map V.int))/\H c=some (.lst xs)/\fV H 2 xs (d.map bF.dv)
theorem jN.cv{x:V}{M:Int}{a:List bF}(s:Cv H H')(h:jN H x M ns row a):jN H' x M ns row a:=by
 let(t,a,b,c,d,e,f,g,i,j,l):=h;calc(t,a,b,c,d,e,s _ _ f (λk z=>by cases z),s _ _ g (λk z=>by cases z),s _ _ i (λk z=>by cases z),s _ _ j (λk z=>by cases z),l.aL s.aQ)
def CW(H:Hp)(mv:List V)(ir:List MD):Prop:=mv.length=ir.length/\∀(i:Nat) v d,mv[i]?=some v->ir[i]?=some d->jN H v d.M d.ns d.row d.ds
theorem CW.cv(s:Cv H H')(h:CW H mv ir):CW H' mv ir:=(h.1,λi v d a b=>(h.2 i v d a b).cv s)
def ToldN(H:Hp)(x:V)(ir:List MD)(ws:List (Int×Int×Str))(ls:List (Int×Int)):Prop:=∃t a b c mv wv d,x=.ref t/\H t=some (.tup [.ref a,.ref b,.ref c])/\H a=some (.lst mv)/\H b=some (.lst wv)/\H c=some (.lst d)/\CW H mv ir/\fV H 1 wv (ws.map nk)/\fV H 1 d (ls.map qJ)
theorem ToldN.cv{x:V}(s:Cv H H')(h:ToldN H x ir ws ls):ToldN H' x ir ws ls:=by
 let(t,a,b,c,mv,wv,d,e,f,g,i,j,l,m,n):=h;calc(t,a,b,c,mv,wv,d,e,s _ _ f (λk z=>by cases z),s _ _ g (λk z=>by cases z),s _ _ i (λk z=>by cases z),s _ _ j (λk z=>by cases z),l.cv s,m.aL s.aQ,n.aL s.aQ)
def MN(a:V)(ev:Addr)(o:Nat->Addr):List (Key×V):=[((.inr "net"),a),((.inr "put"),.ref (o 4)),((.inr "sender"),.ref (o 5)),((.inr "worker"),.ref (o 6)),((.inr "states"),.ref (o 1)),((.inr "words"),.ref (o 2)),((.inr "heard"),.ref (o 3)),((.inr "events"),.ref ev)]
section
variable {H:Hp}{d:Addr}{tn:V}{ev:Addr}{o:Nat->Addr}
theorem GN(h:H d=some (.dK (MN tn ev o))):lu H d (.str "net") (some tn):=.inl (_,.inr "net",.inl h,rfl,by kernel_rfl)
theorem OW(h:H d=some (.dK (MN tn ev o))):lu H d (.str "put") (some (.ref (o 4))):=.inl (_,.inr "put",.inl h,rfl,by kernel_rfl)
theorem OX(h:H d=some (.dK (MN tn ev o))):lu H d (.str "sender") (some (.ref (o 5))):=.inl (_,.inr "sender",.inl h,rfl,by kernel_rfl)
theorem Zk(h:H d=some (.dK (MN tn ev o))):lu H d (.str "worker") (some (.ref (o 6))):=.inl (_,.inr "worker",.inl h,rfl,by kernel_rfl)
theorem AR(h:H d=some (.dK (MN tn ev o))):lu H d (.str "states") (some (.ref (o 1))):=.inl (_,.inr "states",.inl h,rfl,by kernel_rfl)
theorem Zl(h:H d=some (.dK (MN tn ev o))):lu H d (.str "words") (some (.ref (o 2))):=.inl (_,.inr "words",.inl h,rfl,by kernel_rfl)
theorem OY(h:H d=some (.dK (MN tn ev o))):lu H d (.str "heard") (some (.ref (o 3))):=.inl (_,.inr "heard",.inl h,rfl,by kernel_rfl)
theorem Zm(h:H d=some (.dK (MN tn ev o))):lu H d (.str "events") (some (.ref ev)):=.inl (_,.inr "events",.inl h,rfl,by kernel_rfl)
end
def _root_.DD.RS.tv(r:RS):Nat->Nat->CO
 |0,_=>.l (r.picks.map pairD)
 |1,m=>.l ((r.mm m).fe.map uf)
 |2,m=>.l ((r.mm m).wp.map λw=>.lst (w.map .int))
 |3,m=>.l ((r.mm m).hr.map λw=>.lst (w.map .int))
 |4,w=>.l ((r.ww w).say.map .int)
 |5,w=>.l ((r.ww w).snd.map nU)
 |_,w=>.d (lP (r.ww w).dz) ((r.ww w).dz.countP Option.isSome)
theorem count_set{e:Int×Int}:∀{l:List (Option (Int×Int))}{k:Nat},l[k]?=some none->(l.set k (some e)).countP Option.isSome=l.countP Option.isSome+1
 | [],k,h=>by simp at h
 |a::r,0,h=>by simp at h;subst h;simp
 |a::r,k+1,h=>by
  have b:=count_set (e:=e) (l:=r) (k:=k) (by simpa using h);simp only[List.set_cons_succ,List.countP_cons];rw[b];lia
theorem Lh{l:List (Option (Int×Int))}{k:Nat}(h:k<l.length)(j:Int):lP (l.set k (some e)) j=if j=((k:Nat):Int) then some (pairD e) else lP l j:=by
 unfold lP;by_cases a:0<=j
 ·rw[if_pos a,if_pos a];by_cases z:j=((k:Nat):Int)
  ·subst z;rw[if_pos rfl,aav,aah,List.getElem?_set];simp[h]
  ·rw[if_neg z,aah,List.getElem?_set,if_neg (),<-aah]
 ·rw[if_neg a,if_neg a,if_neg ()]
theorem GO{l:List (Option (Int×Int))}:lP (l++[none])=lP l:=by
 funext j;unfold lP;split
 ·congr 1;rw[aah,aah,List.getElem?_append];split
  ·rfl
  ·next z=>
   rw[List.getElem?_eq_none (l:=l) ()]
   cases a:j.toNat-l.length with
   |zero=>rfl
   |succ n=>rfl
 ·rfl
structure cT(F:Addr->Prop)(H:Hp)(d:Addr)(tn:V)(nt:NT)(r:RS)(ad:Nat->Nat->Addr):Prop where
 dk:∃o,H d=some (.dK (MN tn (ad 0 0) o))/\¬F d/\¬FP nt.n ad d/\∀t,1<=t->t<=6->H (o t)=some (.lst (lj nt.n ad t))/\¬F (o t)/\¬FP nt.n ad (o t)
 cW:eJ F H nt.n ad r.tv
 told:∃ls,ToldN (kj (λb=>F b\/FP nt.n ad b) H) tn nt.ms nt.ws ls
 ok:nt.Ok
section
variable {F:Addr->Prop}{H H':Hp}{d:Addr}{tn:V}{nt:NT}{r:RS}{ad:Nat->Nat->Addr}
theorem cT.keep(h:cT F H d tn nt r ad)(f:Fr F H H'):cT F H' d tn nt r ad:=by
 let((o,g,e,i,c),j,(ls,k),l):=h;calc((o,f.at g e,e,i,λt a b=>(f.at (c t a b).1 (c t a b).2.1,(c t a b).2)),j.keep f,(ls,k.cv (f.mono λb z=>.inl z).kj),l)
theorem cT.same(h:cT F H d tn nt r ad)(s:au H H'):cT F H' d tn nt r ad:=h.keep s.fr
theorem cT.own{c:RS}(h:cT F H d tn nt r ad)(f:Fr (FP nt.n ad) H H')(b:eJ F H' nt.n ad c.tv):cT F H' d tn nt c ad:=by
 let((o,g,i,e,c),l,(ls,j),k):=h;calc((o,f.at g e,i,e,λt a b=>(f.at (c t a b).1 (c t a b).2.2,(c t a b).2)),b,(ls,j.cv (f.mono λb z=>.inr z).kj),k)
end
theorem GP{l:List (Option (Int×Int))}{k:Nat}:(lP l ((k:Nat):Int)).isSome= !(l.getD k none).isNone:=by
 unfold lP;rw[if_pos (),aav]
 cases l.getD k none<;>rfl
theorem GQ{H0 H:Hp}{a:Addr}{b:List (Key×V)}{g:Int->Option DV}{N:Nat}(e:H a=some (.dK b))(h:OR H0 (.d g N) (.dK b))(k:Int):∃o,lu H a (.int k) o/\o.isSome=(g k).isSome:=by
 calc bJ _ (lu.k (k:=Sum.inl k) e) ?_;have:=h.2 k;revert this
 cases g k with
 |none=>intro h;rw[h];rfl
 |some d=>intro⟨v,h,_⟩;rw[h];rfl
abbrev mx:Stmt:=top 89
def Li:Sp:=λvs H Q _=>∃(F:Addr->Prop) (d:Addr) (a:V) (nt:NT) (r:RS) (ad:Nat->Nat->Addr) (m:Nat),vs=[.ref d,.int m]/\cT F H d a nt r ad/\r.Ok nt/\r.picks.length<=400/\m<nt.ws.length/\∀l H',au H H'->H l=none->H' l=some (.lst ((r.MK m).map λk=>.int (k:Nat)))->Q (.ref l) H'
theorem AS(D:cE K mg "_law_lying" "_law_lying" mx fv)(T:Tx K mg C CN CR F FD):Def P w K mg base "_law_lying" 1 fv Li:=by
 exists fv;let(F,d,g,B,r,ad,m,rfl,j,k,G,b,q):=h;have g:=hr.units;have B:=lt1 g;calc(_,(ak (aG (df (N':=["_law_k","_law_way","_law_run"]) (ix:=[none,some 1,some 0]) (c8 rfl T.fb (ag (bc aO rfl T.bS U' (ag (ao g (ao g (aq 0) aI) (aq 1)) aa)) aa)) (λ_ _ _ _=>(ba (i:=0) (show(["_law_k","_law_way","_law_run"]:List Str).Nodup by decide +kernel) rfl Sort)) (λ_ _ _ _=>(jm (Rn (FG B (aq 0) (eg (K:=K) rfl g (eg (K:=K) rfl g (aq 2) aI) (aq 1)))))) (λ_ _ _ _=>(aq 0))))),?_);nofun;let(o,v,B,G,g):=j.dk;have B:=(g 4 ∅ ∅).1;have I:=(g 6 ∅ ∅).1;let(G,L,M):=j.cW.lst (t:=4) (i:=m) b rfl;let(g,N,O):=j.cW.dct (t:=6) (i:=m) b rfl;ac_rfl;have g:G.length=(r.ww m).say.length:=by simpa using M.1
 have j:=k.bs m b;left;calc bI ?_;left;calc bJ _ (OW v) ?_;left;calc bG B (bo b) ?_;calc bJ _ (.inl (_,aY.of L,rfl)) ?_;left;rw[g];calc je () () (λD p=>?_);rw[aav];refine bq (J:=Dj 0 (r.ww m).say.length) (n:=(r.ww m).say.length) (λi ys H'=>au H H'/\ys=((List.range i).filter λk=>((r.ww m).dz.getD k none).isNone).map λk=>V.int (k:Nat)) (M' (small ())) (au.new _ p,rfl) (λi ys H' u _=>u) (λys H' _=>L' _) ?_ ?_
 ·intro i ys H' u l y R x H2 S;nofun;let(a,rfl):=R;let(rfl,rfl):=S;ac_rfl;walk_at "xf";left;refine bJ _ (Zk (a _ _ v)) ?_;left;refine bG (a _ _ I) (bo b) ?_;rw[Int.zero_add];let(g,j,k):=GQ (a _ _ N) O ((i:Nat):Int);refine(ad 6 m,g,rfl,j,?_);rw[k,GP,Bool.not_not];left;by_cases z:((r.ww m).dz.getD i none).isNone=true
  ·rw[z]
   try rw[if_pos rfl]
   calc bW l y u (M' (small ())) (λc o e=>by rw[az (av e p)];calc a _ _ e,?_);rw[jr,if_pos z,W'];rfl
  ·rw[Bool.not_eq_true] at z;rw[z]
   try rw[if_neg ∅]
   exact(_,l,(),a,by rw[jr,if_neg (by rw[z];decide),aan])
 ·rintro ys H' l y ⟨a,rfl⟩;calc q _ _ a p l
def jv(nt:NT)(r:RS)(w:Nat):List Nat:=if (nt.w w).2.2="row" then(r.MK w).take 1 else r.MK w
def lp(nt:NT)(r:RS)(n:Nat):List (Nat×Nat):=(List.range n).flatMap λw=>(jv nt r w).map λk=>((w),k)
theorem uT{nt:NT}{n:Nat}:lp nt r (n+1)=lp nt r n++(jv nt r n).map λk=>((n),k):=by
 unfold lp;rw[List.range_succ,List.flatMap_append];simp
theorem fV.app{n:Nat}{vs us:List V}{c:List DV}(h:fV H n vs c)(g:fV H n us es):fV H n (vs++us) (c++es):=by
 calc(by simp[h.1,g.1],λi v d a b=>?_);by_cases c:i<vs.length
 ·rw[aad c]at a;rw[aad (by rw[<-h.1];calc c)]at b;exact h.2 i _ _ a b
 ·rw[X' ()]at a;rw[X' (by rw[<-h.1];lia),<-h.1]at b;calc g.2 _ _ _ a b
theorem yH{w:Nat}:(r.MK w).length<=(r.ww w).say.length:=by
 unfold RS.MK;calc aar (List.length_filter_le _ _) nofun
theorem xj{nt:NT}{w:Nat}:(jv nt r w).length<=(r.ww w).say.length:=by
 unfold jv;split
 ·rw[aaT];have:=yH (r:=r) (w:=w);lia
 ·calc yH
theorem xk{nt:NT}{r:RS}{B:Nat}:∀n,(∀w,w<n->(r.ww w).say.length<=B)->(lp nt r n).length<=n*B
 |0,_=>by simp[lp]
 |n+1,h=>by
  rw[uT,aat,T'];have a:=xk (nt:=nt) n (λw a=>h w ());have a:=h n ();have a:=xj (nt:=nt) (r:=r) (w:=n);rw[Nat.succ_mul];lia
def pkD(p:Nat×Nat):DV:=pairD ((((p.1:Nat):Int)),((p.2:Nat):Int))
theorem GR{r:RS}{w k:Nat}(h:k∈(r.MK w).take 1):∀j,j<k->((r.ww w).dz.getD j none).isNone=false:=by
 unfold RS.MK at h;generalize b:(List.range (r.ww w).say.length).filter (λk=>((r.ww w).dz.getD k none).isNone)=l at h
 cases l with
 |nil=>simp at h
 |cons a t=>
  simp at h;subst h;intro j g;have f:(List.range (r.ww w).say.length).Pairwise (· < ·):=List.pairwise_lt_range;have c:=f.filter (λk=>((r.ww w).dz.getD k none).isNone);rw[b]at c;have f:k∈(List.range (r.ww w).say.length).filter (λk=>((r.ww w).dz.getD k none).isNone):=by rw[b];simp
  rw[List.mem_filter,abf]at f
  cases z:((r.ww w).dz.getD j none).isNone with
  |false=>rfl
  |true=>
   exfalso;have d:j∈(List.range (r.ww w).say.length).filter (λk=>((r.ww w).dz.getD k none).isNone):=by
    rw[List.mem_filter,abf];exact((),z)
   rw[b]at d;rcases List.mem_cons.mp d with e|e
   ·lia
   ·have:=(List.pairwise_cons.mp c).1 j e;lia
theorem Lj{nt:NT}(h:r.Ok nt){w k:Nat}(c:((w),k)∈lp nt r nt.ws.length):r.Ql nt w k:=by
 unfold lp at c;rw[List.mem_flatMap]at c;let(j,a,c):=c;rw[abf]at a;rw[List.mem_map]at c;let(j,b,e):=c
 cases e;have g:k∈r.MK w:=by
  unfold jv at b;split at b
  ·exact List.mem_of_mem_take b
  ·exact b
 have f:k<(r.ww w).say.length/\((r.ww w).dz.getD k none).isNone=true:=by
  unfold RS.MK at g;rw[List.mem_filter,abf]at g;exact g
 have c:=h.lk w a;refine(a,?_,λi c=>?_)
 ·rw[a0 (d:=none) ()]
  cases z:(r.ww w).dz.getD k none with
  |none=>rfl
  |some e=>rw[z]at f;simp at f
 ·unfold jv at b;rw[if_pos i] at b;have:=GR b (k - 1) ();rw[a0 (d:=none) (show k - 1 < (r.ww w).dz.length by lia)]
  cases z:(r.ww w).dz.getD (k-1) none with
  |none=>rw[z]at this;simp at this
  |some e=>calc(e,rfl)
theorem Ux{xs:List V}:dE xs none (some 1)=xs.take 1:=by
 unfold dE;have b:HT.eS xs.length 0 none=0:=rfl;rw[b]
 cases xs with
 |nil=>simp
 |cons a r=>
  have b:HT.eS (a::r).length (a::r).length (some 1)=1:=by
   unfold HT.eS;simp
  rw[b];simp
abbrev oJ:Stmt:=top 90
def Lk:Sp:=λvs H Q _=>∃(F:Addr->Prop) (d:Addr) (a:V) (nt:NT) (r:RS) (ad:Nat->Nat->Addr),vs=[.ref d]/\cT F H d a nt r ad/\r.Ok nt/\r.picks.length<=400/\∀l ys H',au H H'->H l=none->H' l=some (.lst ys)->fV H' 1 ys ((lp nt r nt.ws.length).map pkD)->Q (.ref l) H'
theorem CY(D:cE K mg "_law_free" "_law_free" oJ ["_law_run"])(T:Tx K mg C CN CR F FD)(my:Def P w K mg base "_law_lying" 1 fv Li):Def P w K mg base "_law_free" 2 ["_law_run"] Lk:=by
 exists["_law_run","_law_free_here","_law_way","_law_told","_law_numbers"];let(F,d,tn,a,r,ad,rfl,I,cF,nv,q):=h;have S:=hr.units;refine(_,(ai (bf (i:=1) sc rfl Sort (bE aa))
  (ai (fB PassesOwn.never rfl (ky rfl T.dY (ag (ao S (ao S (aq 0) aI) aj) aa)) (g9 (i:=2) (j:=3) rfl sc rfl rfl Sort Sort)
  (ai (bf (i:=4) sc rfl Sort (aM my hr (ag (aq 0) (ag (aq 2) aa))))
  (ai (aT (aC (aU S) (ao S (aq 3) aj) aI (aJ _)) (ak (bf (i:=4) sc rfl Sort (yb (aq 4) fK (dM aj)))) aH)
  (ak (bf (i:=1) sc rfl Sort (aR cp (aq 1) (df (N':=["_law_number","_law_way"]) (ix:=[none,some 2]) (bZ (pv 4)) (λ_ _ _ _=>(ba (i:=0) (show(["_law_number","_law_way"]:List Str).Nodup by decide +kernel) rfl Sort)) nL (λ_ _ _ _=>(bu (ag (aq 1) (ag (aq 0) aa)))))))))))
  (ak (aG (aq 1))))),?_)
 nofun;let(o,hd,nF,nP,ho):=I.dk;let(ls,t,am,aw,al,mv,wv,lv,rfl,h1,h2,h3,h4,h5,U,h7):=I.told;have g1:=(eI h1 (λk z=>by cases z)).2;have g3:=(eI h3 (λk z=>by cases z)).2
 replace U:=U.aL fC.aQ
 ac_rfl;have ki:wv.length=a.ws.length:=by simpa using U.1
 have rX:wv.length<=10:=by rw[ki];exact I.ok.F4
 have hB:∀w,w<a.ws.length->(r.ww w).say.length<=9620:=λw hw=>by have:=cF.bs w hw;lia
 left;calc(aap _,λW Tv=>?_);have X:=au.new (.lst []) Tv;have el0:upd H W (.lst []) W=some (.lst []):=af;generalize hG0:upd H W (.lst [])=G0 at *;left;refine GN (X _ _ hd) |> λh=>(_,h,?_)
 refine eF (X _ _ g1) (aA (j:=1) rfl) (true,wv,Sq.l (X _ _ g3),pG (xs:=wv) (λi σ H'=>∃z2 z3 z4 y ys,σ=[some (V.ref d),some (V.ref y),z2,z3,z4]/\au H H'/\H y=none/\H' y=some (.lst ys)/\fV H' 1 ys ((lp a r i).map pkD)) ?_ ?_ ?_ ?_)
 ·exact(_,_,_,W,[],rfl,X,Tv,el0,show fV _ 1 [] [] from fV.nil)
 ·intro i σ H' qE;let(_,_,_,_,_,_,b,_):=qE;exact Sq.l (b _ _ g3)
 ·intro i x σ H' tt hx ym Uw;nofun;let(z2,z3,z4,y,ys,rfl,b,L,p,M):=ym;have My:i < a.ws.length:=by rw[<-ki];exact(List.getElem?_eq_some_iff.mp hx).1
  have s2:=au.new (.tup [.int (i:Nat),x]) Uw;have ett:upd H' tt (.tup [.int (i:Nat),x]) tt=some (.tup [.int (i:Nat),x]):=af;have GB:=(U.2 i x (nk (a.w i)) hx (by rw[J',show a.ws[i]?=some (a.w i) from a0 My];rfl)).aL (b.trans s2).aQ;generalize Kn:upd H' tt (.tup [.int (i:Nat),x])=G2 at *;let(ta,u1,u2,u3,kk,rfl,vN,y1,y2,y3):=bV GB;obtain rfl:=y1.cL;obtain rfl:=y2.cL;obtain rfl:=y3.cV;ac_rfl;calc Bl (bP.of ett) ?_;left;calc(F,d,_,a,r,ad,i,rfl,(I.same b).same s2,cF,nv,My,λln H3 s3 fln u=>?_);have kl:au H' H3:=s2.trans s3;have hly:=yH (r:=r) (w:=i);have hfw:=xj (nt:=a) (r:=r) (w:=i);have hBi:=hB i My;left;calc eF (s3 _ _ vN) (aA (j:=2) rfl) ?_;left;rename_i N1 hN1 T1 U1 Vw Om;have g:∀N G,au H' N->N G=some (.lst ((jv a r i).map λk=>V.int ((k:Nat):Int)))->N1 [some (V.ref d),some (V.ref y),some (V.int ((i:Nat):Int)),some (V.ref ta),some (V.ref G)] N:=by
   intro N G ME u;clear Vw Om;left;calc bI ?_;left;calc .inl ((_,aY.of u),λD hD=>?_);refine bq (J:=v9 K G) (n:=(jv a r i).length) (λj v H'=>au N H'/\fV H' 1 v (((jv a r i).take j).map λk=>pkD ((i),k))) (M' (small ())) (au.new _ hD,show fV _ 1 [] [] from fV.nil) ?_ ?_ ?_ ?_
   ·rintro j v H' O ⟨m,_⟩;exact(_,_,aY.of (m _ _ u),by rw[J',dH O];rfl)
   ·rintro v H' ⟨m,_⟩;exact(_,aY.of (m _ _ u),nofun)
   ·intro j v H' O Uz qc K7 xx H4 OH;nofun;let(m,R):=K7;let(rfl,hy):=OH;have ex:=hy _ (aY.of (m _ _ u));rw[J',dH O] at ex;obtain rfl:=Option.some.inj ex;ac_rfl;walk_at "xf";left
    try rw[if_pos trivial]
    calc(cy,λt2 m9=>?_);have s6:=au.new (.tup [.int ((i:Nat):Int),.int (((jv a r i)[j]:Nat):Int)]) m9;have GU:=s6 _ _ Uz;calc bW GU qc O (M' (small ())) (λc o e=>by rw[az (av e hD)];calc s6 _ _ (m _ _ e),?_);have tu:ck (upd H4 t2 (.tup [.int ((i:Nat):Int),.int (((jv a r i)[j]:Nat):Int)])) (upd (upd H4 t2 (.tup [.int ((i:Nat):Int),.int (((jv a r i)[j]:Nat):Int)])) D (.lst (v++[.ref t2]))):=(ck.refl _).upd λzs e=>by rw[GU]at e;cases e
    rw[aa6,dH O,W'];exact((R.aL s6.aQ).snoc (dj (n:=0) af (.int _) (.int _))).aL tu
   rintro v H6 Uz qc ⟨m,R⟩;rw[aaz]at R;have Y:au H' H6:=ME.trans m;left;refine .inl (_,_,Y _ _ p,Uz,?_,λlf' Zo=>?_)
   ·have a1:=M.1;have a2:=R.1;have a3:=xk (nt:=a) (r:=r) (B:=9620) i (λw hw=>hB w ());simp at a1 a2;rw[aaw];have a5:i<=9:=by lia
    have a4:i*9620<=9*9620:=Nat.mul_le_mul_right _ a5;lia
   have s7:=au.new (.lst (ys++v)) Zo;left;calc acL _ _ _ lf' _ (rfl,rfl,rfl,rfl) (b.trans (Y.trans s7)) ((b.trans Y).free Zo) af ?_;rw[uT,W'];calc((M.aL Y.aQ).app ?_).aL s7.aQ;rw[List.map_map];exact R
  by_cases Z:(a.w i).2.2="row"
  ·rw[if_pos (by simp[Z])];left;calc .inl (_,u,λG vk=>?_);rw[Ux];have s4:=au.new (.lst (((r.MK i).map λk=>V.int ((k:Nat):Int)).take 1)) vk;exact g _ G (kl.trans s4) (by unfold jv;rw[af,if_pos Z,List.map_take])
  ·rw[if_neg (by simp[Z])];calc L2.aP (by assumption) ?_;exact g _ ln kl (by unfold jv;rw[if_neg Z];calc u)
 ·intro σ H' Ut;let(z2,z3,z4,y,ys,rfl,b,L,p,M):=Ut;rw[ki]at M;left;calc q _ _ _ b L p M
def OZ(H H':Hp):Prop:=∀b o,H b=some o->(∀k,o≠.own k)->H' b=some o
theorem OZ.aQ(h:OZ H H'):ck H H':=λb a e=>h b _ e (λk z=>by cases z)
theorem _root_.L2.au.MO(s:au H H'):OZ H H':=λb o e _=>s b o e
theorem jN.MO{x:V}{M:Int}{a:List bF}(s:OZ H H')(h:jN H x M ns row a):jN H' x M ns row a:=by
 let(t,a,b,c,d,e,f,g,i,j,l):=h;calc(t,a,b,c,d,e,s _ _ f (λk z=>by cases z),s _ _ g (λk z=>by cases z),s _ _ i (λk z=>by cases z),s _ _ j (λk z=>by cases z),l.aL s.aQ)
theorem CW.MO(s:OZ H H')(h:CW H mv ir):CW H' mv ir:=(h.1,λi v d a b=>(h.2 i v d a b).MO s)
theorem CW.nil:CW H [] []:=(rfl,λi v d a=>by simp at a)
theorem CW.snoc{v:V}{d:MD}(h:CW H mv ir)(g:jN H v d.M d.ns d.row d.ds):CW H (mv++[v]) (ir++[d]):=by
 calc(by simp[h.1],λi y e a b=>?_);by_cases c:i<mv.length
 ·rw[aad c]at a;rw[aad (by rw[<-h.1];calc c)]at b;exact h.2 i _ _ a b
 ·rw[X' ()] at a;rw[X' (by rw[<-h.1];lia),<-h.1] at b
  cases f:i-mv.length with
  |zero=>rw[f]at a b;cases a;cases b;calc g
  |succ k=>rw[f]at a;simp at a
def mask(a b c:Addr)(H:Hp):Hp:=λx=>if x=a\/x=b\/x=c then some (.own 0) else H x
theorem p5{c x:Addr}(d:x≠a)(e:x≠b)(f:x≠c):mask a b c H x=H x:=by unfold mask;rw[if_neg (by simp[d,e,f])]
theorem xl{c x:Addr}{o:HO}(h:mask a b c H x=some o)(d:∀k,o≠.own k):x≠a/\x≠b/\x≠c/\H x=some o:=by
 unfold mask at h;split at h
 ·cases h;exact absurd rfl (d 0)
 ·rename_i hn;simp only[not_or]at hn;calc(hn.1,hn.2.1,hn.2.2,h)
theorem Lm{c:Addr}:OZ (mask a b c H) H:=λx o e n=>(xl e n).2.2.2
theorem AU{c:Addr}(h:∀x o,x≠a->x≠b->x≠c->H x=some o->H' x=some o):OZ (mask a b c H) (mask a b c H'):=λx o e n=>by
 let(d,f,g,i):=xl e n;rw[p5 d f g];calc h x o d f g i
theorem GV{c t d f g:Addr}{xs:List V}{M:Int}{n:List bF}(p:H t=some (.tup [.int M,.ref d,.ref f,.ref g]))(q:H d=some (.lst (ns.map V.int)))(r:H f=some (.lst (row.map V.int)))(s:H g=some (.lst xs))(u:fV H 2 xs (n.map bF.dv))
  (h:∃ys,H a=some (.lst ys)) (i:∃ys,H b=some (.lst ys)) (j:∃ys,H c=some (.lst ys)) (k:d≠a/\d≠b/\d≠c) (l:f≠a/\f≠b/\f≠c) (m:g≠a/\g≠b/\g≠c):jN (mask a b c H) (.ref t) M ns row n:=by
 let(n,h):=h;let(n,i):=i;let(n,j):=j;have o:ck H (mask a b c H):=λx ys e=>by
  rw[p5 (λz=>by rw[z,h]at e;cases e) (λz=>by rw[z,i]at e;cases e) (λz=>by rw[z,j]at e;cases e)];exact e
 calc(t,d,f,g,xs,rfl,o _ _ p,by rw[p5 k.1 k.2.1 k.2.2];calc q,by rw[p5 l.1 l.2.1 l.2.2];calc r,by rw[p5 m.1 m.2.1 m.2.2];calc s,u.aL o)
structure ES(ir:List MD)(ws:List (Int×Int×Str))(ls:List (Int×Int)):Prop where
 m1:1<=ir.length
 m5:ir.length<=5
 II:ws.length<=10
 l20:ls.length<=20
 mg:∀d∈ir,d.good
 wo:∀w∈ws,wY ir.length w
 lo:∀l∈ls,wZ ws.length l
theorem ES.nt(h:ES ir ws ls):(NT.mk ir ws).Ok:=(h.m5,h.m1,h.II,h.mg,h.wo)
abbrev qX:Stmt:=top 85
def ET(K:W.Frag):Sp:=λvs H Q _=>∃(a:Addr) (ns:List Int),vs=[.ref a]/\aY K H a (ns.map V.int)/\ns.length<=63/\∀t b c d mv wv e ir ws ls H',au H H'->H' t=some (.tup [.ref b,.ref c,.ref d])->H' b=some (.lst mv)->H' c=some (.lst wv)->H' d=some (.lst e)->CW H' mv ir->fV H' 1 wv (ws.map nk)->fV H' 1 e (ls.map qJ)->ES ir ws ls->Q (.ref t) H'
theorem GW(D:cE K mg "_law_net" "_law_net" qX eu)(T:Tx K mg C CN CR F FD)(x:Def P w K mg base "_law_at" 1 ef (Ki K))(v:Def P w K mg base "_law_digit" 1 ah iG)(jO:Def P w K mg base "_law_machine" 4 ["_law_pot_here"] AO)(M:Def P w K mg base "_law_pot" 1 ["_law_cell"] Cg):Def P w K mg base "_law_net" 5 eu (ET K):=by
 exists["_law_script","_law_many","_law_machines","_law_pot_here","_law_ways","_law_k","_law_letters","_law_way"];let(a,ns,rfl,hS,h63,q):=h;have hu:=hr.units;refine(_,(ai (bf (i:=1) sc rfl Sort (aR cp aj (aR cK (aM x hr (ag (aq 0) (ag aj aa))) aj)))
  (ai (gc (i:=2) sc rfl Sort (N':=["_law_k","_law_script"]) (ix:=[none,some 0]) (c8 rfl T.fb (ag (aq 1) aa)) (λ_ _ _ _=>(ba (i:=0) (show(["_law_k","_law_script"]:List Str).Nodup by decide +kernel) rfl Sort)) nL (λ_ _ _ _=>(aM jO hr (ag (aM M hr (ag (aM x hr (ag (aq 1) (ag (aR cp aj (aq 0)) aa))) aa)) aa))))
  (ai (bf (i:=3) sc rfl Sort (aM M hr (ag (aM x hr (ag (aq 0) (ag aj aa))) aa)))
  (ai (bf (i:=4) sc rfl Sort (bE aa))
  (ai (fB PassesOwn.never rfl (c8 rfl T.fb (ag (aM v hr (ag (aq 3) (ag aj aa))) aa)) (ba (i:=5) sc rfl Sort)
  (ak (bL (dO qb sm sr cw (aq 4) (ag (bu (ag (aM v hr (ag (aq 3) (ag (aq 1) aa))) (ag (aM v hr (ag (aq 3) (ag (aq 1) aa))) (ag (ao hu (bE (ag aI (ag aI aa))) (aM v hr (ag (aq 3) (ag aj aa)))) aa)))) aa)))))
  (ai (bf (i:=3) sc rfl Sort (aM M hr (ag (aM x hr (ag (aq 0) (ag aj aa))) aa)))
  (ai (bf (i:=6) sc rfl Sort (bE aa))
  (ai (fB PassesOwn.never rfl (c8 rfl T.fb (ag (aM v hr (ag (aq 3) (ag aj aa))) aa)) (ba (i:=5) sc rfl Sort)
  (ak (aT (aC (fL hu) (aq 4) (bE aa) (aJ _)) (ai (bf (i:=7) sc rfl Sort (aM v hr (ag (aq 3) (ag (bc aO rfl T.bS U' (ag (aq 4) aa)) aa))))
  (ak (bL (dO qb sm sr cw (aq 6) (ag (bu (ag (aq 7) (ag (aM v hr (ag (aq 3) (ag (ao hu (bE (ag aj (ag (aR mZ aj aj) aa))) (aM v hr (ag (aq 3) (ag aj aa)))) aa))) aa))) aa))))) aH)))
  (ak (aG (bu (ag (aq 2) (ag (aq 4) (ag (aq 6) aa)))))))))))))),?_)
 left;calc(a,ns,_,rfl,hS,(),λg=>((by decide:(0:Int)<5),?_));have v:=aaK g (b:=5) ∅;have v:=aaL g (b:=5) ∅;left;calc bI ?_;left;calc je () () (λD hD=>?_);refine bq (J:=Dj 0 (1+g%5).toNat) (n:=(1+g%5).toNat) (λi ys H'=>au H H'/\∃ir,ir.length=i/\CW (mask D D D H') ys ir/\∀d∈ir,d.good) (M' (aE ())) (au.new _ hD,[],rfl,CW.nil,λd hd=>by simp at hd) (λi ys H' hi _=>hi) (λys H' _=>L' _) ?_ ?_
 ·intro i ys H1 hi bA hl jf x H2 jh;nofun;let(s1,ir,nr,hM,R):=jf;let(rfl,rfl):=jh;ac_rfl;walk_at "xf";left;rw[if_pos trivial];refine(a,ns,_,rfl,s1.seq hS,(),λv=>(v,rfl,λp V2 S sC=>(p,rfl,(_,af,sC),λt v x ld xs M mns row ds T st h1 h2 h3 h4 h5 f1 f2 f3 hg=>?_)));have q3:∀b o,H2 b=some o->T b=some o:=λb o e=>st.rest b o ((au.new _ S) _ _ e) (av e S);have v:=q3 _ _ bA;have p1:=(au.new (.lst (V2.map V.int)) S) _ _ bA;have x:∀{b:Addr},upd H2 p (.lst (V2.map V.int)) b=none->b≠D:=λf=>Ne.symm (av p1 f);refine bW v hl hi (M' (aE ())) (λb o e=>by rw[az (av e hD)];exact q3 _ _ (s1 _ _ e),ir++[(M,mns,row,ds)],by simp[nr],?_,λd hd=>?_)
  ·have c4:OZ (mask D D D H2) (mask D D D (upd T D (.lst (ys++[.ref t])))):=AU λb o M b2 b3 e=>by rw[az M];exact q3 _ _ e
   have c5:OZ (mask D D D T) (mask D D D (upd T D (.lst (ys++[.ref t])))):=AU λb o M b2 b3 e=>by rw[az M];exact e
   exact(hM.MO c4).snoc (jN.MO c5 (GV h1 h2 h3 h4 h5 (_,v) (_,v) (_,v) (x f1,x f1,x f1) (x f2,x f2,x f2) (x f3,x f3,x f3)))
  ·rcases List.mem_append.mp hd with hd | hd
   ·exact R d hd
   ·simp only[List.mem_singleton]at hd;subst hd;exact hg
 intro mv H1 V3 hl v;nofun;let(s1,ir,nr,hM0,R):=v;have hM:=hM0.MO Lm;generalize hDa:D=am at *;ac_rfl;left;calc(a,ns,_,rfl,s1.seq hS,(),λv=>(v,rfl,λp V2 S sC=>?_));have s2:=au.new (.lst (V2.map V.int)) S;have vm:fT (upd H1 p (.lst (V2.map V.int))) p:=(_,af,sC)
 generalize Kn:upd H1 p (.lst (V2.map V.int))=G2 at *;left;calc(aap _,λB v=>?_);have s3:=au.new (.lst []) v;have X3:B≠p:=Step.ne vm v;have UA:=vm.same s3;have eaw:upd G2 B (.lst []) B=some (.lst []):=af;have faw:H1 B=none:=s2.free v;have kl:=s2.trans s3;generalize Vq:upd G2 B (.lst [])=G3 at *;left;calc nj p 11 rfl UA ∅ ⋯ (λx M T Zp v=>?_);refine(x,rfl,(),(),j6 (n:=x.toNat) (λi σ H'=>(∃U,σ=[some (.ref a),some (.int (1+g%5)),some (.ref am),some (.ref p),some (.ref B),U,none,none])/\fT H' p/\au H1 H'/\∃(wv:List V) (ws:List (Int×Int×Str)),H' B=some (.lst wv)/\fV H' 1 wv (ws.map nk)/\ws.length=i/\∀w∈ws,wY (1+g%5) w) ?_ ?_ ?_)
 ·exact((_,rfl),v.gv,v.over kl S,[],[],v.rest _ _ eaw X3,fV.nil,rfl,λw r=>by simp at r)
 ·intro i σ H5 hi ym;let((U,rfl),W,s5,wv,ws,UB,hW,ki,Of):=ym;have Ln:wv.length=i:=by have:=hW.1;simp at this;lia
  left;calc(.inl (rfl,_,aY.of UB),?_);have l5:(1+g%5).natAbs.log2<9000:=by
   have:1+g%5=1\/1+g%5=2\/1+g%5=3\/1+g%5=4\/1+g%5=5:=by lia
   rcases this with e|e|e|e|e<;>(rw[e];decide +kernel)
  refine dig W () l5 λc x h60 h61 v=>?_;left;refine dig v.gv () l5 λX x h70 h71 M=>?_;have x:=v.trans M;left;refine(cy,λl hl=>?_);have ML:=x.new (o:=.lst [.str "row",.str "heap"]) hl;have hlp:l≠p:=Step.ne x.gv hl;refine dig ML.gv ∅ ⋯ λk Y hk0 hk1 MM=>?_;have aeJ:=ML.trans MM;obtain⟨u,ew3,hw3⟩:∃u:Str,jc [V.str "row",V.str "heap"] k=some (.str u)/\(u="row"\/u="heap"):=by
   have:k=0\/k=1:=by lia
   rcases this with rfl|rfl
   ·exact(_,aA (j:=0) rfl,.inl rfl)
   ·exact(_,aA (j:=1) rfl,.inr rfl)
  left;calc bG (MM.rest _ _ af hlp) ew3 ?_;left;calc(by show 3<=sizeLine;decide,λt ht=>?_);have I:=aeJ.new (o:=.tup [.int c,.int X,.str u]) ht;have Zr:=I.rest _ _ UB X3;have eT:upd Y t (.tup [.int c,.int X,.str u]) t=some (.tup [.int c,.int X,.str u]):=af;have Z:=I.gv;have tA:=I.aQ W;have sA:au H1 (upd Y t (.tup [.int c,.int X,.str u])):=I.over s5 S;generalize hGA:upd Y t (.tup [.int c,.int X,.str u])=GA at *;left;have tB:ck GA (upd GA B (.lst (wv++[.ref t]))):=(ck.refl _).upd λys e=>by rw[Zr]at e;cases e
  refine(_,Zr,aE (),(_,rfl),Z.upd (Ne.symm X3),λb o e=>by rw[az (av e faw)];calc sA _ _ e,wv++[.ref t],ws++[((c),X,u)],af,?_,by simp[ki],λw r=>?_)
  ·have h6:=((hW.aL tA).snoc (lO (n:=0) eT (.int c) (.int X) (.str u))).aL tB;simpa[nk] using h6
  ·rcases List.mem_append.mp r with r | r
   ·exact Of w r
   ·simp only[List.mem_singleton]at r;subst r;exact(h60,h61,h70,h71,hw3)
 intro σ H5 Ag;let((U,rfl),W,s5,wv,ws,UB,hW,ki,Of):=Ag;have Ln:wv.length=ws.length:=by have:=hW.1;simpa using this
 have Gu:=s5 _ _ V3;have hM5:=hM.MO s5.MO;left;calc(a,ns,_,rfl,(s1.trans s5).seq hS,(),λv=>(v,rfl,λN xs1 Jt u=>?_));have s6:=au.new (.lst (xs1.map V.int)) Jt;have hp6:fT (upd H5 N (.lst (xs1.map V.int))) N:=(_,af,u)
 generalize hG6:upd H5 N (.lst (xs1.map V.int))=G6 at *;left;calc(aap _,λG u=>?_);have s7:=au.new (.lst []) u;have To:G≠N:=Step.ne hp6 u;have hp7:=hp6.same s7;have eal:upd G6 G (.lst []) G=some (.lst []):=af;have fal:H5 G=none:=s6.free u;have VA:=s6.trans s7;generalize hG7:upd G6 G (.lst [])=G7 at *;left;calc nj N 13 rfl hp7 ∅ ⋯ (λu M v x ML=>?_);refine(u,rfl,(),(),j6 (n:=u.toNat) (λi σ H'=>(∃U z7,σ=[some (.ref a),some (.int (1+g%5)),some (.ref am),some (.ref N),some (.ref B),U,some (.ref G),z7])/\fT H' N/\au H5 H'/\∃(L:List V) (ls:List (Int×Int)),H' G=some (.lst L)/\fV H' 1 L (ls.map qJ)/\ls.length<=i/\∀l∈ls,wZ ws.length l) ?_ ?_ ?_)
 ·exact((_,_,rfl),ML.gv,ML.over VA Jt,[],[],ML.rest _ _ eal To,fV.nil,L' _,λw r=>by simp at r)
 ·intro i σ Y hi Cn;let((U,z7,rfl),hp9,O,L,ls,MC,hL,rY,rM):=Cn;have i:L.length=ls.length:=by have:=hL.1;simpa using this
  have i:=O _ _ UB;left;calc(aap _,λl0 u=>?_);have m:=au.new (.lst []) u;have Lo:=m _ _ i;have el0:upd Y l0 (.lst []) l0=some (.lst []):=af;have Lp:=m _ _ MC;have UC:=hp9.same m;have GX:=O.trans m;have Zs:=hL.aL m.aQ;generalize Yj:upd Y l0 (.lst [])=G10 at *;left
  cases ws with
  |nil=>
   have Ya:wv=[]:=by simpa using Ln
   subst Ya;calc .inl (.inr (_,_,_,_,rfl,rfl,.inr (aY.of Lo,aY.of el0),rfl,λj u v hu=>by simp at hu),?_);left
   try rw[if_neg S']
   calc((_,_,rfl,rfl),UC,GX,L,ls,Lp,Zs,(),rM)
  |cons i u=>
   have i:0<(wv.length:Int):=by rw[Ln];simp
   have u:wv.length<=10:=by lia
   calc .inr ((_,_,by simp[Ln],.inl (aY.of Lo,aY.of el0)),?_);left
   try rw[if_pos trivial]
   calc bJ _ (.inl (_,aY.of Lo,rfl)) ?_;have v:((wv.length:Nat):Int).natAbs.log2<9000:=EM i ();calc dig UC i v λc Ow aeO aeP u=>?_;left;have i:=u.rest _ _ Lp To;calc(.inl (rfl,_,aY.of i),?_);left;calc(Ci,cy,λy v=>?_);have i:(10:Int)^Int.toNat 60=1000000000000000000000000000000000000000000000000000000000000:=by decide +kernel
   rw[i];have UE:=u.new (o:=.lst [.int 3,.int 1000000000000000000000000000000000000000000000000000000000000]) v;have aeQ:y≠N:=Step.ne u.gv v;have aeR:upd Ow y (.lst [.int 3,.int 1000000000000000000000000000000000000000000000000000000000000]) y=some (.lst [.int 3,.int 1000000000000000000000000000000000000000000000000000000000000]):=af;generalize aeS:upd Ow y (.lst [.int 3,.int 1000000000000000000000000000000000000000000000000000000000000])=G14 at *;calc dig UE.gv ∅ ⋯ λk i hk0 hk1 CV=>?_;obtain⟨y,ey,hy0,i,CM⟩:∃y:Int,jc [V.int 3,V.int 1000000000000000000000000000000000000000000000000000000000000] k=some (.int y)/\0<y/\y<=1000000000000000000000000000000000000000000000000000000000000/\y.natAbs.log2<9000:=by
    have:k=0\/k=1:=by lia
    rcases this with rfl|rfl
    ·exact(_,aA (j:=0) rfl,∅,∅,⋯)
    ·exact(_,aA (j:=1) rfl,∅,∅,⋯)
   calc bG (CV.rest _ _ aeR aeQ) ey ?_;calc dig (UE.trans CV).gv hy0 CM λz QL i k j=>?_;have i:=(UE.trans CV).trans j;left;calc(cy,λt ht=>?_);have I:=i.new (o:=.tup [.int c,.int z]) ht;have Zv:=I.rest _ _ Lp To;have eT:upd QL t (.tup [.int c,.int z]) t=some (.tup [.int c,.int z]):=af;have Z:=I.gv;have tA:=I.aQ UC;have sA:au H5 (upd QL t (.tup [.int c,.int z])):=I.over GX Jt;generalize hGA:upd QL t (.tup [.int c,.int z])=GA at *;left;have tB:ck GA (upd GA G (.lst (L++[.ref t]))):=(ck.refl _).upd λys e=>by rw[Zv]at e;cases e
   refine(_,Zv,aE (),(_,_,rfl,rfl),Z.upd (Ne.symm To),λb o e=>by rw[az (av e fal)];calc sA _ _ e,L++[.ref t],ls++[((c),z)],af,?_,by simp;lia,λl hl=>?_)
   ·have h6:=((Zs.aL tA).snoc (dj (n:=0) eT (.int c) (.int z))).aL tB;simpa[qJ] using h6
   ·rcases List.mem_append.mp hl with hl | hl
    ·exact rM l hl
    ·simp only[List.mem_singleton]at hl;subst hl;exact(aeO,by have:=aeP;rw[Ln]at this;calc this,by show 1-1000000000000000000000000000000000000000000000000000000000000<=z;lia,by show z<1000000000000000000000000000000000000000000000000000000000000;lia)
 intro σ Y K7;let((U,z7,rfl),hp9,O,L,ls,MC,hL,rY,rM):=K7;left;calc(by show 3<=sizeLine;decide,λt ht=>?_);have m:=au.new (.tup [.ref am,.ref B,.ref G]) ht;calc q t am B G mv wv L ir ws ls _ (s1.trans (s5.trans (O.trans m))) af (m _ _ (O _ _ Gu)) (m _ _ (O _ _ UB)) (m _ _ MC) (hM5.MO (O.trans m).MO) (hW.aL (O.trans m).aQ) (hL.aL m.aQ) ((),(),(),(),R,λw r=>?_,rM);have e:((ir.length:Nat):Int)=1+g%5:=by lia
 rw[e];calc Of w r
theorem uU{C:Addr}{M:Int}{a:List bF}(t:ck H H')(i:∀b c d e,H b=some (.ins c d e)->H' b=some (.ins c d e))(h:kE C H m M ns row a):kE C H' m M ns row a:=by
 let(a,st,dd,f,g,j):=h;calc(a,st,dd,i _ _ _ _ f,g.aL t,j.aL t)
abbrev iT:Stmt:=top 93
inductive AV(C CN:Addr)(vs:List V)(H:Hp)(Q:VK):Prop
 |mk (x:V) (ir:List MD) (ws:List (Int×Int×Str)) (ls:List (Int×Int)) (h0:vs=[x]) (h1:ToldN H x ir ws ls) (h2:ES ir ws ls) (h3:∀n ms wv lv H',au H H'->vK C CN H' n (ir,ws)->nu CN H' n ms wv lv->fV H' 1 lv (ls.map qJ)->Q (.ref n) H'):AV C CN vs H Q
def xm(C CN:Addr):Sp:=λvs H Q _=>AV C CN vs H Q
theorem uV(D:cE K mg "_law_net_made" "_law_net_made" iT ek)(T:Tx K mg C CN CR F FD)(qY:zz P w K mg base "Machine" C 7 dg (Ek C))(Lq:zz P w K mg base "Net" CN 7 dt (Ak C CN)):Def P w K mg base "_law_net_made" 9 ek (xm C CN):=by
 exists["_law_net_here","_law_machines"];let(x,ir,ws,ls,rfl,hT,g,q):=h;have B:=hr.units;refine(_,(ai (gc (i:=1) sc rfl Sort (N':=gP) (ix:=[none]) (bZ (ao B (aq 0) aj)) (λ_ _ _ _=>(ba (i:=0) (show(gP:List Str).Nodup by decide +kernel) rfl Sort)) nL (λ_ _ _ _=>(JA qY hr (ag (eg (K:=K) rfl B (aq 0) aj) (ag (dA (lN (K:=K) rfl) rfl T.ft Bd (ag (eg (K:=K) rfl B (aq 0) aj) aa)) (ag (dA (lN (K:=K) rfl) rfl T.ft Bd (ag (eg (K:=K) rfl B (aq 0) aj) aa)) (ag (dA (lN (K:=K) rfl) rfl T.ft Bd (ag (eg (K:=K) rfl B (aq 0) aj) aa)) aa)))))))
  (ak (aG (JA Lq hr (ag (aq 1) (ag (dA cQ rfl T.ft Bd (ag (ao B (aq 0) aj) aa)) (ag (dA cQ rfl T.ft Bd (ag (ao B (aq 0) aj) aa)) aa))))))),?_)
 let(t,am,aw,al,mv,wv,y,rfl,ht,V3,UB,MC,hM,hW,hL):=id hT;have t:mv.length<=5:=by have:=hM.1;have:=g.m5;lia
 right;calc bI ?_;right;calc eF ht (aA (j:=0) rfl) ?_;right;calc .inl ((_,aY.of V3),λD hD=>?_);refine bq (J:=v9 K am) (n:=mv.length) (λi ys H'=>∃ms:List Addr,ys=ms.map V.ref/\ms.length=i/\(∀(j:Nat) m d,ms[j]?=some m->ir[j]?=some d->Vp C H' m d)/\au H H') (M' (aE ())) ([],rfl,rfl,λj m d e=>by simp at e,au.new _ hD) ?_ ?_ ?_ ?_
 ·intro i ys H' ni t;let(_,_,_,_,p):=t;exact(_,mv[i],aY.of (p _ _ V3),dH ni)
 ·intro ys H' t;let(_,_,_,_,p):=t;exact(_,aY.of (p _ _ V3),L' _)
 ·intro i ys H' ni bA hl qE x U ym;nofun;let(ms,rfl,Yz,Ax,p):=qE;let(rfl,t):=ym;have ex:=t _ (aY.of (p _ _ V3));have kj:i < ir.length:=by have:=hM.1;lia
  have u:=g.mg _ (aax kj);let(tt,ln,lr,ld,W,rfl,R,h2,h3,h4,h5):=(hM.2 i x ir[i] ex (dH kj)).cv p.cv;generalize hmd:ir[i]=k at *;ac_rfl;walk_at "xf";right;rw[if_pos trivial];refine dq _ _ (.inr (bP.of R)) (aA (j:=0) rfl) ?_;refine dq _ _ (.inr (bP.of R)) (aA (j:=1) rfl) ?_;right;refine bJ _ (.inl (aY.of h2)) (λr Cm=>?_);have B:=au.new (.lst (k.ns.map V.int)) Cm;refine dq _ _ (.inr (bP.of (B _ _ R))) (aA (j:=2) rfl) ?_;right;refine bJ _ (.inl (aY.of (B _ _ h3))) (λv vk=>?_);have t:=au.new (.lst (k.row.map V.int)) vk;refine dq _ _ (.inr (bP.of (t _ _ (B _ _ R)))) (aA (j:=3) rfl) ?_;right;refine bJ _ (.inl (aY.of (t _ _ (B _ _ h4)))) (λl3 T=>?_);have G:=au.new (.lst W) T;have X:=B.trans (t.trans G);have l:=G _ _ (t _ _ (af (H:=U) (a:=r) (o:=.lst (k.ns.map V.int))));have I:=G _ _ (af (H:=upd U r (.lst (k.ns.map V.int))) (a:=v) (o:=.lst (k.row.map V.int)));have e3:upd (upd (upd U r (.lst (k.ns.map V.int))) v (.lst (k.row.map V.int))) l3 (.lst W) l3=some (.lst W):=af;generalize hG6:upd (upd (upd U r (.lst (k.ns.map V.int))) v (.lst (k.row.map V.int))) l3 (.lst W)=G6 at *;intro m L Y Ze aeT;have N:au G6 (upd (upd G6 L (.own m)) m (.ins C L [])):=λb o e=>by rw[az (av e Y),az (av e Ze)];exact e
  have t:=X.trans N;calc(m,L,k.M,r,v,l3,k.ns,k.row,W,k.ds,2,rfl,af,u.m2,u.m12,.inl (N _ _ l),.inl (N _ _ I),.inl (N _ _ e3),u.l1,u.l4,u.r12,u.bn,u.br,(h5.aL t.aQ).dl,∅,u.d24,u.ok,λZ ED B=>(rfl,?_));have O:au U Z:=λb o e=>B b o (av (X _ _ e) Y) (t _ _ e);have GU:=O _ _ bA;have t7:ck Z (upd Z D (.lst (ms.map V.ref++[.ref m]))):=(ck.refl _).upd λk e=>by rw[GU]at e;cases e
  have i7:∀b c d e,Z b=some (.ins c d e)->upd Z D (.lst (ms.map V.ref++[.ref m])) b=some (.ins c d e):=λb c d e h=>by
   rw[az (λz=>by subst z;rw[GU]at h;cases h)];exact h
  refine bW GU hl ni (M' (aE ())) (ms++[m],nofun,by simp[Yz],λj k d l I=>?_,λb o e=>?_)
  ·by_cases hj:j < ms.length
   ·rw[aad hj]at l;exact uU t7 i7 ((Ax j k d l I).same O)
   ·rw[X' ()] at l
    cases GS:j-ms.length with
    |succ k=>rw[GS]at l;simp at l
    |zero=>
     rw[GS]at l;nofun;obtain rfl:=Option.some.inj l;have Vl:j=i:=by lia
     subst Vl;rw[dH kj,hmd]at I;obtain rfl:=Option.some.inj I;ac_rfl;exact uU t7 i7 ED
  ·rw[az (av e hD)];exact O _ _ (p _ _ e)
 intro ys H4 bA hl Ag;let(ms,rfl,Yz,Ax,p):=Ag;have nr:ms.length=ir.length:=by have:=hM.1;lia
 have i:=p _ _ ht;right;calc dq _ _ (.inr (bP.of i)) (aA (j:=1) rfl) ?_;right;calc bJ _ (.inl (aY.of (p _ _ UB))) (λr Cm=>?_);have G:=au.new (.lst wv) Cm;calc dq _ _ (.inr (bP.of (G _ _ i))) (aA (j:=2) rfl) ?_;right;calc bJ _ (.inl (aY.of (G _ _ (p _ _ MC)))) (λv vk=>?_);have N:=au.new (.lst y) vk;have l:=N _ _ (af (H:=H4) (a:=r) (o:=.lst wv));have I:upd (upd H4 r (.lst wv)) v (.lst y) v=some (.lst y):=af;have yS:=G.trans N;generalize hG7:upd (upd H4 r (.lst wv)) v (.lst y)=G7 at *;have k:wv.length=ws.length:=by have:=hW.1;simpa using this
 have i:y.length=ls.length:=by have:=hL.1;simpa using this
 intro x L Y Ze aeT;have S:au G7 (upd (upd G7 L (.own x)) x (.ins CN L [])):=λb o e=>by rw[az (av e Y),az (av e Ze)];exact e
 have i:=p.trans (yS.trans S);have t:=g.m1;have t:=g.m5;have t:=g.II;have t:=g.l20;refine(x,L,D,r,v,ms,wv,y,ws,ls,rfl,af,S _ _ (yS _ _ bA),S _ _ l,S _ _ I,(),(),(),(),λm hm=>?_,hW.aL i.aQ,hL.aL i.aQ,λw r=>by rw[nr];calc g.wo w r,λl hl=>by rw[k];calc g.lo l hl,λH9 hn9 hk9=>(rfl,?_))
 ·nofun;let(j,hj,rfl):=List.getElem_of_mem hm;let(i,k,l,R,_,_):=(Ax j _ ir[j] (dH hj) (dH ())).same (yS.trans S);ac_rfl;exact(_,_,R)
 ·have k:au H4 H9:=λb o e=>hk9 b o (av (yS _ _ e) Y) (S _ _ (yS _ _ e));have i:=p.trans k;calc q x ms wv y H9 i ((ms,wv,y,hn9,nr,λj m d a b=>(Ax j m d a b).same k,hW.aL i.aQ),g.nt) hn9 (hL.aL i.aQ)
def p6(n:NT)(r:RS)(w k:Nat):List Int:=match (r.ww w).snd.getD k none with
 |none=>(r.mm (n.goal w)).hr.bN (List.replicate n.ms.length 0)
 |some ((s),c)=>List.zipWith max ((r.mm (n.goal w)).hr.bN (List.replicate n.ms.length 0)) ((r.mm s.toNat).hr.getD (c-1).toNat [])
theorem O1{n:NT}{w k:Nat}:n.ip r w k=(p6 n r w k).set (n.goal w) (n.ev r w).2:=rfl
theorem O2{l:List Int}{m:Nat}{c:Int}{n:Nat}(a:l.length=n)(b:m<n):((List.range n).map λj=>V.int (l.getD j 0+(if decide (((j:Nat):Int)=((m:Nat):Int))=true then 1 else 0))).set m (.int c)=(l.set m c).map V.int:=by
 apply List.ext_getElem (by simp[a]);intro j b d;have e:j<n:=by simpa using b
 simp only[List.getElem_map,List.getElem_set,List.getElem_range];by_cases z:m=j
 ·rw[if_pos z,if_pos z]
 ·rw[if_neg z,if_neg z,if_neg (by simp;lia),getD_at (dH ()),Int.add_zero]
theorem UH{l:List (Option (Int×Int))}{k:Nat}{a:List (Key×V)}{v:V}(h:OR H0 (.d (lP l) (l.countP Option.isSome)) (.dK a))(b:l[k]?=some none)(c:HD H0 4 v (pairD e)):OR H0 (.d (lP (l.set k (some e))) ((l.set k (some e)).countP Option.isSome)) (.dK (putK a (Sum.inl ((k:Nat):Int)) v)):=by
 have f:k<l.length:=(List.getElem?_eq_some_iff.mp b).1;have g:gW a (Sum.inl ((k:Nat):Int))=none:=by
  have:=h.2 ((k:Nat):Int);have a:lP l ((k:Nat):Int)=none:=by
   unfold lP;rw[if_pos (),aav,getD_at b];rfl
  rw[a]at this;exact this
 refine(?_,λj=>?_)
 ·rw[Iy v g,count_set b,aat,List.length_singleton];have:=h.1;lia
 ·rw[Lh f,Iw];by_cases z:j=((k:Nat):Int)
  ·rw[if_pos z,if_pos (by rw[z])];exact(v,rfl,c)
  ·rw[if_neg z,if_neg (λq=>z (Sum.inl.inj q))];calc h.2 j
theorem O3{r:RS}{n:NT}{w k:Nat}:∀t i,i<n.n t->setC (setC (setC (setC (setC r.tv 3 (n.goal w) (.l (((r.mm (n.goal w)).hr.map λu=>DV.lst (u.map .int))++[.lst ((n.ip r w k).map .int)]))) 6 w (.d (lP ((r.ww w).dz.set k (some (n.ev r w)))) (((r.ww w).dz.set k (some (n.ev r w))).countP Option.isSome))) 1 (n.goal w) (.l ((r.mm (n.goal w)).fe.map uf++[uf (((n.work r w k).ns),(n.work r w k).row)]))) 2 (n.goal w) (.l (((r.mm (n.goal w)).wp.map λu=>DV.lst (u.map .int))++[.lst (((r.mm (n.goal w)).wp.bN []++(n.work r w k).words).map .int)]))) 0 0 (.l (r.picks.map pairD++[pairD (((w:Int)),(k:Int))])) t i=(r.step n w k).tv t i:=by
 intro t i a;unfold setC
 match t,a with
 |0,a=>
  have:i=0:=by have:i<1:=a;lia
  subst this;simp[RS.tv,RS.step]
 |1,_=>by_cases e:i=n.goal w<;>simp[RS.tv,RS.step,e]
 |2,_=>by_cases e:i=n.goal w<;>simp[RS.tv,RS.step,e]
 |3,_=>by_cases e:i=n.goal w<;>simp[RS.tv,RS.step,e]
 |4,_=>by_cases e:i=w<;>simp[RS.tv,RS.step,e]
 |5,_=>by_cases e:i=w<;>simp[RS.tv,RS.step,e]
 |6,_=>by_cases e:i=w<;>simp[RS.tv,RS.step,e]
 |(t+7),a=>calc absurd a (aa9 i)
theorem Lr{r:RS}{n:NT}{w:Nat}{x:Int}{s:Option (Int×Int)}:∀t i,i<n.n t->setC (setC r.tv 4 w (.l ((r.ww w).say.map .int++[.int x]))) 5 w (.l ((r.ww w).snd.map nU++[nU s])) t i=(r.put w x s).tv t i:=by
 intro t i a;unfold setC
 match t,a with
 |0,_=>simp[RS.tv,RS.put]
 |1,_=>simp[RS.tv,RS.put]
 |2,_=>simp[RS.tv,RS.put]
 |3,_=>simp[RS.tv,RS.put]
 |4,_=>by_cases e:i=w<;>simp[RS.tv,RS.put,e]
 |5,_=>by_cases e:i=w<;>simp[RS.tv,RS.put,e]
 |6,_=>by_cases e:i=w<;>simp[RS.tv,RS.put,e,GO]
 |(t+7),a=>calc absurd a (aa9 i)
theorem yI{H:Hp}{n:Nat}{v:V}{ns:List Int}(h:HD H n v (.lst (ns.map .int))):∃a,v=.ref a/\H a=some (.lst (ns.map V.int)):=by
 cases h with
 | @lst n a b _ e l i=>calc(a,rfl,by rw[e,show b=ns.map V.int from fN.qv (l,i)])
theorem Ls{x y:HO}(h:a≠b):upd (upd H a x) b y=upd (upd H b y) a x:=by
 funext c;by_cases d:c=a
 ·subst d;rw[az h,af,af]
 ·by_cases e:c=b
  ·subst e;rw[af,az d,af]
  ·rw[az e,az d,az d,az e]
theorem EU{K:W.Frag}{j:Addr}{nt:NT}{g:Nat}{e:Nat}(u:e<2)(f:H j=some (.lst wv))(o:fV H 1 wv (nt.ws.map nk))(P:wv.length<=10)(v:σ[3]?=some (some (.int ((g:Nat):Int))))(p:H D=none)(q:∀H1,au H H1->H1 D=some (.lst ((vL nt e g).map λi=>V.int ((i:Nat):Int)))->Q (.ref D) H1):lM [none,none,some 3] (PM true K j) (Fl K 2 (j5 (fE 0) (j5 (fE 1) Fj))) (tT (HW (SY K) (HW (Sg K) (tV 1) (tC (V.int ((e:Nat):Int)))) (tV 2))) (tV 0) σ H Q D:=by
 have x:wv.length=nt.ws.length:=by simpa using o.1
 have A:vz [none,none,some 3] σ=[none,none,some (.int ((g:Nat):Int))]:=by simp[vz,v]
 refine bq (n:=wv.length) (λi ys H'=>au H H'/\ys=((List.range i).filter λj=>decide (uB nt e j=((g:Nat):Int))).map λj=>V.int (j:Nat)) (M' (aE ())) (au.new _ p,rfl) ?_ ?_ ?_ ?_
 ·rintro i ys H' h ⟨a,_⟩;exact(wv,wv[i],Sq.l (a _ _ f),dH h)
 ·rintro ys H' ⟨a,_⟩;exact(wv,Sq.l (a _ _ f),rfl)
 ·intro i ys H' h d r B R S C;rw[A];let(a,rfl):=B;let(k,E,rfl,y):=C;let(b,F,rfl):=y wv (Sq.l (a _ _ f));have j:i < nt.ws.length:=by lia
  have m:=au.new (.tup [.int (i:Nat),b]) E;have I:=(o.2 i b (nk (nt.w i)) F (by rw[J',show nt.ws[i]?=some (nt.w i) from a0 j];rfl)).aL (a.trans m).aQ;have J:upd H' k (.tup [.int (i:Nat),b]) k=some (.tup [.int (i:Nat),b]):=af;have s:=m _ _ d;have t:=a.trans m;generalize T:upd H' k (.tup [.int (i:Nat),b])=G at *;let(U,X,Y,Z,kk,rfl,L,M,N,O):=bV I;obtain rfl:=M.cL;obtain rfl:=N.cL;obtain rfl:=O.cV;calc Bl (bP.of J) (Ext.set (Ext.set (Ext.refl _) rfl) rfl,?_);left;refine eF L (show jc _ ((e:Nat):Int)=some (.int (uB nt e i)) from aA (by match e,u with
   |0,_=>rfl
   | 1,_=>rfl)) ?_
  left;by_cases z:uB nt e i=((g:Nat):Int)
  ·rw[if_pos (aal z)];calc bW s r h (M' (aE ())) (λc o e=>by rw[az (av e p)];calc t _ _ e,?_);rw[jr,if_pos (aal z),W'];rfl
  ·rw[if_neg λh=>z (aaM h)];exact(_,s,(),t,by rw[jr,if_neg λh=>z (aaM h),aan])
 ·rintro ys H1 d r ⟨a,rfl⟩;rw[x]at d;calc q H1 a d
abbrev oK:Stmt:=top 91
inductive Lu(vs:List V)(H:Hp)(Q:VK):Prop
 |mk (F:Addr->Prop) (d:Addr) (tn:V) (nt:NT) (r:RS) (ad:Nat->Nat->Addr) (wy k:Nat) (h0:vs=[.ref d,.int (wy:Nat),.int (k:Nat)]) (h1:cT F H d tn nt r ad) (h2:FS F H) (h3:r.Ok nt) (h4:r.Ql nt wy k) (h5:r.picks.length<=400) (h6:∀t H',Fr (FP nt.n ad) H H'->cT F H' d tn nt (r.pick nt wy k) ad->HT H' 1 t (pairD (nt.ev r wy))->Q t H'):Lu vs H Q
def EV:Sp:=λvs H Q _=>Lu vs H Q
theorem CZ(D:cE K mg "_law_pick" "_law_pick" oK ec)(T:Tx K mg C CN CR F FD)(kP:Def P w K mg base "_law_worked" 2 da (ER K)):Def P w K mg base "_law_pick" 3 ec EV:=by
 exists["_law_run","_law_way","_law_number","_law_m","_law_place","_law_outs","_law_event","_law_state","_law_sent","_law_words","_law_row","_law_source","_law_c","_law_j","_law_said"];let(F,d,tn,m,r,ad,B,k,rfl,M,me,O,hc,nv,q):=h;have G:=hr.units;have Kk:=lt1 G;refine(_,(ai (bf (i:=3) sc rfl Sort (ao G (ao G (ao G (ao G (aq 0) aI) aj) (aq 1)) aj))
  (ai (bf (i:=4) sc rfl Sort (dO qb PySem.F.slot_list_index PySem.F.type_list_index wM (df (N':=eo) (ix:=[none,none,some 3]) (ky rfl T.dY (ag (ao G (ao G (aq 0) aI) aj) aa)) (λ_ _ _ _=>(jo (K:=K) rfl (i:=0) (j:=1) rfl (show(eo:List Str).Nodup by decide +kernel) rfl rfl Sort Sort)) (λ_ _ _ _=>(jm (aC (pS (K:=K) rfl G) (eg (K:=K) rfl G (aq 1) aj) (aq 2) (aJ _)))) (λ_ _ _ _=>(aq 0))) (ag (aq 1) aa)))
  (ai (gc (i:=5) sc rfl Sort (N':=eo) (ix:=[none,none,some 3]) (ky rfl T.dY (ag (ao G (ao G (aq 0) aI) aj) aa)) (λ_ _ _ _=>(jo (K:=K) rfl (i:=0) (j:=1) rfl (show(eo:List Str).Nodup by decide +kernel) rfl rfl Sort Sort)) (λ_ _ _ _=>(jm (aC (pS (K:=K) rfl G) (eg (K:=K) rfl G (aq 1) aj) (aq 2) (aJ _)))) (λ_ _ _ _=>(aq 0)))
  (ai (bf (i:=6) sc rfl Sort (bu (ag (aq 3) (ag (bc aO rfl T.bS U' (ag (ao G (ao G (aq 0) aI) (aq 3)) aa)) aa))))
  (ai (fA (aM kP hr (ag (ao G (ao G (ao G (aq 0) aI) aj) (aq 3)) (ag (ao G (ao G (ao G (aq 0) aI) (aq 3)) (lH iB aj)) (ag (aq 4) (ag (ao G (ao G (ao G (aq 0) aI) (aq 1)) (aq 2)) aa))))) (ug (i:=7) (j:=8) (l:=9) rfl sc rfl rfl rfl Sort Sort Sort))
  (ai (bf (i:=10) sc rfl Sort (ao G (aR cp (bE (ag (aR JH (bE (ag aj aa)) (bc aO rfl T.bS U' (ag (ao G (ao G (aq 0) aI) aj) aa))) aa)) (ao G (ao G (aq 0) aI) (aq 3))) (lH iB aj)))
  (ai (aT (aC m7 (ao G (ao G (ao G (aq 0) aI) (aq 1)) (aq 2)) jw (aJ _)) (ai (fA (ao G (ao G (ao G (aq 0) aI) (aq 1)) (aq 2)) (g9 (i:=11) (j:=12) rfl sc rfl rfl Sort Sort))
  (ak (HN (i:=10) sc rfl Sort (df (N':=["_law_one","_law_other"]) (ix:=[none,none]) (ya rfl T.zZ (ag (aq 10) (ag (ao G (ao G (ao G (aq 0) aI) (aq 11)) (aR fw (aq 12) aj)) aa))) (λ_ _ _ _=>(jo (K:=K) rfl (i:=0) (j:=1) rfl (show(["_law_one","_law_other"]:List Str).Nodup by decide +kernel) rfl rfl Sort Sort)) nL (λ_ _ _ _=>(bc (wz rfl) rfl T.Kb PyProof.Rows.boot_max (ag (aq 0) (ag (aq 1) aa))))) rfl))) aH)
  (ai (bL (dO qb sm sr cw (ao G (ao G (aq 0) aI) (aq 3)) (ag (df (N':=["_law_k","_law_row","_law_m"]) (ix:=[none,some 10,some 3]) (c8 rfl T.fb (ag (bc aO rfl T.bS U' (ag (aq 10) aa)) aa)) (λ_ _ _ _=>(ba (i:=0) (show(["_law_k","_law_row","_law_m"]:List Str).Nodup by decide +kernel) rfl Sort)) nL (λ_ _ _ _=>(aR cp (eg (K:=K) rfl G (aq 1) (aq 0)) (dA Ft rfl T.J9 PyProof.Rows.boot_int (ag (kr (pS (K:=K) rfl G) (aq 0) (aq 2) (aJ _)) aa))))) aa)))
  (ai (fA (ao G (aq 6) aj) (jx (ao G (ao G (ao G (aq 0) aI) (aq 3)) (lH iB aj)) (aq 3) eN))
  (ai (mU Kk (ao G (ao G (aq 0) aI) (aq 1)) (aq 2) (aq 6) rfl)
  (ai (bL (dO qb sm sr cw (ao G (ao G (aq 0) aI) (aq 3)) (ag (aq 7) aa)))
  (ai (bL (dO qb sm sr cw (ao G (ao G (aq 0) aI) (aq 3)) (ag (aR cp (ao G (ao G (ao G (aq 0) aI) (aq 3)) (lH iB aj)) (aq 9)) aa)))
  (ai (bL (dO qb sm sr cw (ao G (aq 0) aI) (ag (bu (ag (aq 1) (ag (aq 2) aa))) aa)))
  (ai (fB PassesOwn.never rfl (bZ (pv 8)) (g9 (i:=13) (j:=14) rfl sc rfl rfl Sort Sort)
  (ak (aT (aC gX (aq 13) (bc aO rfl T.bS U' (ag (aq 5) aa)) (aJ _)) (ai (bL (dO qb sm sr cw (ao G (ao G (aq 0) aI) (ao G (aq 5) (aq 13))) (ag (aq 14) aa)))
  (ak (bL (dO qb sm sr cw (ao G (ao G (aq 0) aI) (ao G (aq 5) (aq 13))) (ag (aq 6) aa))))) aH)))
  (ak (aG (aq 6))))))))))))))))),?_)
 nofun;let(o,N,nF,nP,ho):=M.dk;let(ls,tt,am,aw,al,mv,wv,lv,rfl,h1,h2,h3,h4,h5,h6,h7):=M.told;have g1:=(eI h1 (λk z=>by cases z)).2;have g2:=(eI h2 (λk z=>by cases z)).2;have g3:=(eI h3 (λk z=>by cases z)).2
 replace h5:=h5.cv fC
 replace h6:=h6.aL fC.aQ
 have W:=M.ok;have L:=hc.lt;have I:=W.iq L;have ki:wv.length=m.ws.length:=by simpa using h6.1
 have nr:mv.length=m.ms.length:=h5.1;have rX:wv.length<=10:=by rw[ki];exact W.F4
 have Gu:m.ms.length<=5:=W.PY;let(wk1,wk2,wk3,wk4):=sE W O L k;ac_rfl;have yR:k<(r.ww B).say.length:=by rw[O.lk B L];exact(List.getElem?_eq_some_iff.mp hc.lies).1
 left;calc bJ _ (GN N) ?_;left;calc eF g1 (aA (j:=1) rfl) ?_;have Yh:m.ws[B]?=some (m.w B):=a0 L;have akB:B<wv.length:=by lia
 have GB:=h6.2 B wv[B] (nk (m.w B)) nofun (by rw[J',Yh];rfl);nofun;let(ta,u1,u2,u3,kk,eta,vN,q1,q2,q3):=bV GB;obtain rfl:=q1.cL;obtain rfl:=q2.cL;obtain rfl:=q3.cV;ac_rfl;calc bG g3 (aA (j:=B) (v:=.ref ta) (by rw[<-eta];simp)) ?_;calc eF vN (show jc _ 1=some (.int ((m.goal B:Nat):Int)) from by rw[<-sM W L];calc aA (j:=1) rfl) ?_;left;calc bI ?_;left;calc bJ _ (GN ((au.refl H) _ _ N)) ?_;left;calc eF ((au.refl H) _ _ g1) (aA (j:=1) rfl) ?_;left;calc F6 true wv (Sq.l ((au.refl H) _ _ g3)) (λD1 Hw=>?_);calc EU ∅ g3 h6 rX rfl Hw (λH1 s1x H1e=>?_);have UI:au H H1:=s1x;left;calc(.inl (rfl,_,aY.of H1e),?_);let(ix1,ix2):=uJ (KQ W L);refine(D1,_,m.place B,B,rfl,rfl,by rw[H1e,xh],?_,?_,?_)
 ·rw[J',<-pZ W L,ix1];rfl
 ·intro i y hi hy;rw[J']at hy;let(z,hz,rfl):=Option.map_eq_some_iff.mp hy;have:=ix2 i z (by rw[pZ W L];calc hi) hz;lia
 left;calc bI ?_;left;calc bJ _ (GN (UI _ _ N)) ?_;left;calc eF (UI _ _ g1) (aA (j:=1) rfl) ?_;left;calc F6 true wv (Sq.l (UI _ _ g3)) (λD2 yt=>?_);calc EU ∅ (UI _ _ g3) (h6.aL UI.aQ) rX rfl yt (λH2 s2x H2e=>?_);have sH2:au H H2:=UI.trans s2x;left;calc bJ _ (AR (sH2 _ _ N)) ?_;have o1:=ho 1 ∅ ∅;have o2:=ho 2 ∅ ∅;have o3:=ho 3 ∅ ∅;have o4:=ho 4 ∅ ∅;have o5:=ho 5 ∅ ∅;have o6:=ho 6 ∅ ∅;have i0:0<m.n 0:=by show 0<1;decide
 let(v1,e1,d1):=M.cW.lst (t:=1) (i:=m.goal B) I rfl;have z1:v1.length=(r.mm (m.goal B)).fe.length:=by simpa using d1.1
 have Zh:=O.vE I;left;calc bG (sH2 _ _ o1.1) (bo I) ?_;calc iE _ (.inl (_,aY.of (sH2 _ _ e1),rfl)) cy (λev hev=>?_);rw[z1];have Vy:=au.new (.tup [.int ((m.goal B:Nat):Int),.int (((r.mm (m.goal B)).fe.length:Nat):Int)]) hev;have R:=sH2.trans Vy;have aeW:HT (upd H2 ev (.tup [.int ((m.goal B:Nat):Int),.int (((r.mm (m.goal B)).fe.length:Nat):Int)])) 1 (.ref ev) (pairD (m.ev r B)):=dj (n:=0) af (.int _) (.int _);have aeX:upd H2 ev (.tup [.int ((m.goal B:Nat):Int),.int (((r.mm (m.goal B)).fe.length:Nat):Int)]) ev=some (.tup [.int ((m.goal B:Nat):Int),.int (((r.mm (m.goal B)).fe.length:Nat):Int)]):=af;generalize Vq:upd H2 ev (.tup [.int ((m.goal B:Nat):Int),.int (((r.mm (m.goal B)).fe.length:Nat):Int)])=H3 at *;have H3o:=Vy _ _ H2e;left;calc bJ _ (GN (R _ _ N)) ?_;left;calc eF (R _ _ g1) (aA (j:=0) rfl) ?_;have akG:m.goal B<mv.length:=by lia
 have emd:m.ms[m.goal B]?=some (m.ms.getD (m.goal B) default):=a0 I;let(mt,ln,lr,ld,xsd,emt,t1,t2,t3,t4,t5):=h5.2 (m.goal B) mv[m.goal B] _ nofun emd;have Ou:=W.gd I;calc bG (R _ _ g2) (aA (j:=m.goal B) (v:=.ref mt) (by rw[<-emt];simp)) ?_;calc bJ _ (AR (R _ _ N)) ?_;left;calc bG (R _ _ o1.1) (bo I) ?_;let(sv,esv,dsv):=d1.get (i:=(r.mm (m.goal B)).fe.length-1) (d:=uf ((r.mm (m.goal B)).fe.bN (([]),[]))) (by rw[J',pR (d:=(([]),[])) Zh];rfl);have Vx:=(Qn (dsv.cv fC)).aL R.aQ;calc bG (R _ _ e1) (pY () (by rw[z1];calc esv)) ?_;left;calc bJ _ (OW (R _ _ N)) ?_;nofun;let(v4,e4,d4):=M.cW.lst (t:=4) (i:=B) L rfl;have z4:=d4.qv;subst z4;ac_rfl;left;calc bG (R _ _ o4.1) (bo L) ?_;calc bG (R _ _ e4) (aA (j:=k) (v:=.int ((r.ww B).say.getD k 0)) (by rw[J',a0 (d:=0) yR];rfl)) ?_;have uK:=O.last I;calc(mt,ln,lr,ld,sv,_,_,_,xsd,_,_,_,rfl,R _ _ t1,R _ _ t4,t5.aL R.aQ,zH.of Vx,Ou.m2,Ou.m12,uK.bn,uK.lr,Ou.d24,by rw[uK.ln];calc Ou.ok,λrx H4 VZ TC=>?_);have sH4:=R.trans VZ;nofun;let(rp,MI,Vz,Qq,zs,rfl,hrp,CF,TF,lX,CG,fl1,fl2,adE):=TC.ex
 replace CF:HT H4 2 MI (zF (m.work r B k).ns (m.work r B k).row):=CF
 replace lX:SL H4 zs (m.work r B k).cU:=lX
 replace CG:H4 Qq=some (.lst ((m.work r B k).words.map V.int)):=CG
 ac_rfl;have Zx:=aeW.aL VZ.aQ;have aeY:=VZ _ _ aeX;have H4o:=VZ _ _ H3o;calc un3 (bP.of hrp) ?_;left;calc(∅,λlz hlz=>?_);have s45:=au.new (.lst [.int 0]) hlz;have elz:upd H4 lz (.lst [.int 0]) lz=some (.lst [.int 0]):=af;generalize hG5:upd H4 lz (.lst [.int 0])=H5 at *;have Tz:=sH4.trans s45;calc bJ _ (GN (Tz _ _ N)) ?_;left;calc eF (Tz _ _ g1) (aA (j:=0) rfl) ?_;calc bJ _ (.inl (_,aY.of (Tz _ _ g2),rfl)) ?_;calc NZ _ elz () () (λS hlq=>?_);rw[aav,nr];have Ov:=au.new (.lst (List.replicate m.ms.length (V.int 0))) hlq;have elq:upd H5 S (.lst (List.replicate m.ms.length (V.int 0))) S=some (.lst ((List.replicate m.ms.length 0).map V.int)):=by rw[af,List.map_replicate]
 generalize hG6:upd H5 S (.lst (List.replicate m.ms.length (V.int 0)))=H6 at *;calc(∅,λla hla=>?_);have yS:=au.new (.lst [.ref S]) hla;have O4:upd H6 la (.lst [.ref S]) la=some (.lst [.ref S]):=af;generalize hG7:upd H6 la (.lst [.ref S])=H7 at *;have Zw:=s45.trans (Ov.trans yS);have sH7:=sH4.trans Zw;calc bJ _ (OY (sH7 _ _ N)) ?_;let(v3,e3,d3):=M.cW.lst (t:=3) (i:=m.goal B) I rfl;have z3:v3.length=(r.mm (m.goal B)).hr.length:=by simpa using d3.1
 have hlh:=O.lh _ I;have hbp:=O.bp _ I;left;calc bG (sH7 _ _ o3.1) (bo I) ?_;calc .inl (_,_,O4,sH7 _ _ e3,M' (small (by simp;lia)),λlb hlb=>?_);have s78:=au.new (.lst ([.ref S]++v3)) hlb;have elb:upd H7 lb (.lst ([.ref S]++v3)) lb=some (.lst ([.ref S]++v3)):=af;generalize hG8:upd H7 lb (.lst ([.ref S]++v3))=H8 at *;have s48:=Zw.trans s78;have X:=sH4.trans s48;have Zy:∃rl,jc ([V.ref S]++v3) (-1)=some (.ref rl)/\H8 rl=some (.lst (((r.mm (m.goal B)).hr.bN (List.replicate m.ms.length 0)).map V.int)):=by
  by_cases h1:1<=(r.mm (m.goal B)).hr.length
  ·nofun;let(v,ev',dv):=d3.get (i:=(r.mm (m.goal B)).hr.length-1) (d:=.lst (((r.mm (m.goal B)).hr.bN (List.replicate m.ms.length 0)).map .int)) (by rw[J',pR (d:=List.replicate m.ms.length 0) h1];rfl);let(a,rfl,ea):=yI (dv.cv fC);ac_rfl;calc(a,pY nofun ?_,X _ _ ea);rw[aat,List.length_singleton,X' (by simp;lia)];rw[show 1+v3.length-1 - [V.ref S].length=(r.mm (m.goal B)).hr.length-1 by simp;lia];exact ev'
  ·have ez:(r.mm (m.goal B)).hr=[]:=List.length_eq_zero_iff.mp ();have ev3:v3=[]:=List.length_eq_zero_iff.mp ();refine(S,?_,?_)
   ·rw[ev3];exact pY nofun rfl
   ·rw[ez];show H8 S=some (.lst (List.map V.int (List.getD ([]:List (List Int)) _ _)));exact s78 _ _ (yS _ _ elq)
 let(rl,erl,Aw):=Zy;calc bG elb erl ?_;left;calc bJ _ (OX (X _ _ N)) ?_;let(v5,e5,d5):=M.cW.lst (t:=5) (i:=B) L rfl;have Mx:=O.ls B L;left;calc bG (X _ _ o5.1) (bo L) ?_;let(v5k,ev5,dv5):=d5.get (i:=k) (d:=nU ((r.ww B).snd.getD k none)) (by rw[J',a0 (d:=none) ()];rfl);calc bG (X _ _ e5) (aA ev5) ?_;left;rename_i N2 hN2 T2 U2 Xg hU2;have Zz:(p6 m r B k).length=m.ms.length:=by
  have:=zS W O L (k:=k);rw[O1,List.length_set]at this;exact this
 have rest:∀(rl':Addr) (z11 TL:Option V) (H9:Hp),au H8 H9->H9 rl'=some (.lst ((p6 m r B k).map V.int))->N2 [some (V.ref d),some (V.int ((B:Nat):Int)),some (V.int ((k:Nat):Int)),some (V.int ((m.goal B:Nat):Int)),some (V.int ((m.place B:Nat):Int)),some (V.ref D2),some (V.ref ev),some MI,some (V.ref Vz),some (V.ref Qq),some (V.ref rl'),z11,TL,none,none] H9:=by
  clear Xg hU2 T2 U2;intro rl' z11 TL H9 UJ ZC;have V5:=s48.trans UJ;have QM:=sH4.trans V5;have b9:=M.cW.same QM;left;calc bJ _ (OY (QM _ _ N)) ?_;left;calc bG (QM _ _ o3.1) (bo I) ?_;calc(.inl (rfl,_,aY.of (QM _ _ e3)),?_);calc bI ?_;left;calc bJ _ (.inl (_,aY.of ZC,rfl)) ?_;left;rw[T',Zz];calc je () () (λhl ZD=>?_);rw[aav];refine bq (J:=Dj 0 m.ms.length) (n:=m.ms.length) (λi ys H'=>au H9 H'/\ys=(List.range i).map λj=>V.int ((p6 m r B k).getD j 0+(if decide (((j:Nat):Int)=((m.goal B:Nat):Int))=true then 1 else 0))) (M' (aE ())) (au.new _ ZD,rfl) (λi ys H' hi _=>hi) (λys H' _=>L' _) ?_ ?_
  ·intro i ys H' hi bA qc Ag x H2' Cn;nofun;let(Y,rfl):=Ag;let(rfl,rfl):=Cn;ac_rfl;walk_at "xf";left
   try rw[if_pos trivial]
   calc bG (Y _ _ ZC) (show jc _ (0+(i:Int))=some (.int ((p6 m r B k).getD i 0)) from by rw[Int.zero_add];calc aA (by rw[J',a0 (d:=0) ()];rfl)) ?_;refine .inr ?_
   try rw[Int.zero_add]
   calc bW bA qc hi (M' (aE ())) (λc o e=>by rw[az (av e ZD)];calc Y _ _ e,?_);rw[List.range_succ,W'];rfl
  rintro ys GD bA qc ⟨GX,rfl⟩;clear qc;have GY:=QM.trans GX;left;calc iE v3 (GY _ _ e3) (small ()) ?_;left;have nA:ad 3 (m.goal B)≠hl:=λz=>by have:=QM _ _ e3;rw[z,ZD]at this;cases this
  have kA:∀b o,b≠ad 3 (m.goal B)->GD b=some o->upd GD (ad 3 (m.goal B)) (.lst (v3++[.ref hl])) b=some o:=λb o n e=>by rw[az n];exact e
  have Lv:∀{b:Addr} {o:HO},GD b=some o->¬FP m.n ad b->b≠ad 3 (m.goal B):=λ{b o} _ h z=>h (3,m.goal B,I,z);have QN:=GX _ _ (V5 _ _ aeY);have nev:ev≠ad 3 (m.goal B):=λz=>by have:=GY _ _ e3;rw[<-z,QN]at this;cases this
  calc eF (kA _ _ nev QN) (aA (j:=1) rfl) ?_;calc bJ _ (OY (kA _ _ (Lv (GY _ _ N) nP) (GY _ _ N))) ?_;left;calc bG (kA _ _ (Lv (GY _ _ o3.1) o3.2.2) (GY _ _ o3.1)) (bo I) ?_;calc bG af lR ?_;left;calc(_,m.goal B,kA _ _ (Ne.symm nA) bA,pV (by simp;lia),?_);rw[O2 Zz I,show(p6 m r B k).set (m.goal B) (((r.mm (m.goal B)).fe.length:Nat):Int)=m.ip r B k from rfl,Ls nA];have sK:au H9 (upd GD hl (.lst ((m.ip r B k).map V.int))):=λb o e=>by rw[az (av e ZD)];exact GX _ _ e
  have eK:upd GD hl (.lst ((m.ip r B k).map V.int)) hl=some (.lst ((m.ip r B k).map V.int)):=af;generalize hGK:upd GD hl (.lst ((m.ip r B k).map V.int))=K10 at *;have sHK:=QM.trans sK;have bK:=M.cW.same sHK;have FSK:FS F K10:=me.fr (Z:=λ_=>False) sHK.fr (λ_ _ h=>h);have fresh:∀{b:Addr},H9 b=none->¬(F b\/FP m.n ad b):=λ{b} hb z=>by
   rcases z with z|z
   ·let(o,e,_):=me b z;rw[QM _ _ e]at hb;cases hb
   ·let(o,e,_):=b9.fp z;rw[e]at hb;cases hb
  have e3K:=sHK _ _ e3;have wu:=(BF.mk bK sHK.fr (V5.trans sK).fr).app (t:=3) (i:=m.goal B) I rfl e3K (fN.one (show HD _ 4 (.ref hl) (.lst ((m.ip r B k).map .int)) from .lst (by rw[iD (fresh ZD)];calc eK) nofun (λi u e G he=>(fN.ints (H:=kj (λb=>F b\/FP m.n ad b) K10) (n:=3) (m.ip r B k)).2 i u e G he)));generalize Yk:upd K10 (ad 3 (m.goal B)) (.lst (v3++[.ref hl]))=Ow at *;clear kA Lv;left;calc bJ _ (Zk (wu.f.at N nP)) ?_;let(kv6,e6,d6):=wu.b.dct (t:=6) (i:=B) L rfl;have hlk:=O.lk B L;have hbs:=O.bs B L;left;calc bG (wu.f.at o6.1 o6.2.2) (bo L) ?_;have vB:((r.ww B).dz.countP Option.isSome)<=(r.ww B).dz.length:=List.countP_le_length;have h6l:=d6.1;calc(ad 6 B,_,rfl,BQ.k (k:=Sum.inl ((k:Nat):Int)) e6 (small ()),?_);have Bp:=BF.mk (wu.b.upd (t:=6) (i:=B) L (UH d6 hc.lies ((wu.b.ht (me.fr wu.f M.cW.vP) (Zx.aL wu.g.aQ)).mono ∅))) (wu.f.upd (6,B,L,rfl) e6 trivial) (wu.g.upd (6,B,L,rfl) e6 trivial);generalize Yl:upd Ow (ad 6 B) (.dK (putK kv6 (Sum.inl ((k:Nat):Int)) (.ref ev)))=Ym at *;left;calc bJ _ (AR (Bp.f.at N nP)) ?_;let(v1',e1',V6):=Bp.b.lst (t:=1) (i:=m.goal B) I rfl;have z1':v1'.length=(r.mm (m.goal B)).fe.length:=by simpa using V6.1
  left;calc bG (Bp.f.at o1.1 o1.2.2) (bo I) ?_;calc(.inl (rfl,_,aY.of e1'),?_);left;calc iE v1' e1' (small ()) ?_;have MP:=Bp.app (t:=1) (i:=m.goal B) I rfl e1' (fN.one (show HD _ 4 MI (uf (((m.work r B k).ns),(m.work r B k).row)) from(Bp.b.ht (me.fr Bp.f M.cW.vP) (CF.aL Bp.g.aQ)).mono ∅));generalize akX:upd Ym (ad 1 (m.goal B)) (.lst (v1'++[MI]))=H13 at *;left;calc bJ _ (Zl (MP.f.at N nP)) ?_;let(v2,e2,d2):=MP.b.lst (t:=2) (i:=m.goal B) I rfl;have z2:v2.length=(r.mm (m.goal B)).wp.length:=by simpa using d2.1
  have hlw:=O.lw _ I;left;calc bG (MP.f.at o2.1 o2.2.2) (bo I) ?_;calc(.inl (rfl,_,aY.of e2),?_);calc bJ _ (Zl (MP.f.at N nP)) ?_;left;calc bG (MP.f.at o2.1 o2.2.2) (bo I) ?_;nofun;let(vw,evw,dvw):=d2.get (i:=(r.mm (m.goal B)).wp.length-1) (d:=.lst (((r.mm (m.goal B)).wp.bN []).map .int)) (by rw[J',pR (d:=[]) ()];rfl);let(lw,rfl,elw):=yI (dvw.cv fC);ac_rfl;calc bG e2 (pY () (by rw[z2];calc evw)) ?_;have KS:¬FP m.n ad Vz:=λz=>by
   let(u,e,_):=(M.cW.same R).fp z;rw[fl1]at e;cases e
  have TH:¬FP m.n ad Qq:=λz=>by
   let(u,e,_):=(M.cW.same R).fp z;rw[fl2]at e;cases e
  have hbw:=O.bw _ I _ (iy (l:=(r.mm (m.goal B)).wp) (d:=[]) ());calc .inl (_,_,elw,MP.g.at CG TH,M' (small (by simp;lia)),λnw hnw=>?_);have Lw:=au.new (.lst (((r.mm (m.goal B)).wp.bN []).map V.int++(m.work r B k).words.map V.int)) hnw;have enw:upd H13 nw (.lst (((r.mm (m.goal B)).wp.bN []).map V.int++(m.work r B k).words.map V.int)) nw=some (.lst (((r.mm (m.goal B)).wp.bN []++(m.work r B k).words).map V.int)):=by rw[af,W']
  generalize aeS:upd H13 nw (.lst (((r.mm (m.goal B)).wp.bN []).map V.int++(m.work r B k).words.map V.int))=H14 at *;have w14:=MP.same Lw;have nnw:¬(F nw\/FP m.n ad nw):=λz=>by
   rcases z with z|z
   ·let(o,e,_):=(me.fr MP.f M.cW.vP) nw z;rw[hnw]at e;cases e
   ·let(o,e,_):=MP.b.fp z;rw[hnw]at e;cases e
  left;calc iE v2 (Lw _ _ e2) (small ()) ?_;have w15:=w14.app (t:=2) (i:=m.goal B) I rfl (Lw _ _ e2) (fN.one (show HD _ 4 (.ref nw) (.lst (((r.mm (m.goal B)).wp.bN []++(m.work r B k).words).map .int)) from .lst (by rw[iD nnw];calc enw) nofun (λi u e G he=>(fN.ints (H:=kj (λb=>F b\/FP m.n ad b) H14) (n:=3) ((r.mm (m.goal B)).wp.bN []++(m.work r B k).words)).2 i u e G he)));generalize ak2:upd H14 (ad 2 (m.goal B)) (.lst (v2++[.ref nw]))=V4 at *;left;calc bJ _ (Zm (w15.f.at N nP)) ?_;let(v0,e0,d0):=w15.b.lst (t:=0) (i:=0) i0 rfl;have z0:v0.length=r.picks.length:=by simpa using d0.1
  left;calc je (.inl (rfl,_,aY.of e0)) cy (λtp Bj=>?_);have QO:=au.new (.tup [.int ((B:Nat):Int),.int ((k:Nat):Int)]) Bj;have ZE:HT (upd V4 tp (.tup [.int ((B:Nat):Int),.int ((k:Nat):Int)])) 1 (.ref tp) (pairD (((B:Int)),(k:Int))):=dj (n:=0) af (.int _) (.int _);generalize ak3:upd V4 tp (.tup [.int ((B:Nat):Int),.int ((k:Nat):Int)])=QL at *;have w16:=w15.same QO;have ZF:=QO _ _ e0;left;calc iE v0 ZF (small ()) ?_;have QP:=w16.app (t:=0) (i:=0) i0 rfl ZF (fN.one ((w16.b.ht (me.fr w16.f M.cW.vP) ZE).mono ∅));generalize ak4:upd QL (ad 0 0) (.lst (v0++[.ref tp]))=H17 at *;have ae7:cT F H17 d (.ref tt) m (r.step m B k) ad:=M.own QP.f (QP.b.congr O3);have QQ:SL H17 zs (m.work r B k).cU:=lX.aL QP.g.aQ;have ZG:=QP.g.at TF KS;have QR:=Zx.aL QP.g.aQ;have nD2:¬FP m.n ad D2:=λz=>by
   let(u,e,_):=(M.cW.same UI).fp z;rw[yt]at e;cases e
  have ae9:=QP.g.at H4o nD2;clear b9 bK wu Bp MP w14 w15 w16 d0 V6 d2 d6;left;have MJ:zs.length=(m.work r B k).cU.length:=QQ.1;have TJ:=O.step W L (k:=k);have TK:∀a c,some (m.ev r B)=some ((a),c)->0<=a/\a<m.ms.length/\1<=c/\c<=((r.step m B k).mm a.toNat).hr.length:=EB W O L;refine(_,rfl,.inl ((_,aY.of ZG),gQ (K:=K) (xs:=zs) (λi σ H'=>(∃TM z14,σ=[some (V.ref d),some (V.int ((B:Nat):Int)),some (V.int ((k:Nat):Int)),some (V.int ((m.goal B:Nat):Int)),some (V.int ((m.place B:Nat):Int)),some (V.ref D2),some (V.ref ev),some MI,some (V.ref Vz),some (V.ref Qq),some (V.ref rl'),z11,TL,TM,z14])/\Fr (FP m.n ad) H17 H'/\cT F H' d (.ref tt) m ((r.step m B k).send (m.outs (m.goal B)) (m.ev r B) ((m.work r B k).cU.take i)) ad) ?_ ?_ ?_ ?_))
  ·exact((_,_,rfl),Fr.refl,ae7)
  ·rintro i σ H' hi ⟨_,fi,_⟩;exact aY.of (fi.at ZG KS)
  ·intro i z σ H' hz K7;nofun;let((TM,z14,rfl),fi,EW):=K7;have Bo:i < zs.length:=(List.getElem?_eq_some_iff.mp hz).1;have Yr:i < (m.work r B k).cU.length:=by lia
   have yT:(m.work r B k).cU[i]?=some (m.work r B k).cU[i]:=dH Yr;have GH:=wk4 _ (aax Yr);have TN:=(QQ.2 i z _ hz yT).aL fi.aQ;have Ox:(r.step m B k).send (m.outs (m.goal B)) (m.ev r B) ((m.work r B k).cU.take (i+1))=((r.step m B k).send (m.outs (m.goal B)) (m.ev r B) ((m.work r B k).cU.take i)).send (m.outs (m.goal B)) (m.ev r B) [(m.work r B k).cU[i]]:=by
    rw[aa6,yT];exact qQ _
   have CH:=(RS.vn.send (outs:=m.outs (m.goal B)) (ev:=m.ev r B) ((m.work r B k).cU.take i) TJ TK).mono (show _<=19998 by simp;lia);generalize (m.work r B k).cU[i]=p at *;let(pj,px):=p;let(tz,u1,u2,kz,rfl,Ho,y1,y2):=dQ TN;obtain rfl:=y1.cL;obtain rfl:=y2.cL;ac_rfl;calc Bl (bP.of Ho) ?_;have eDi:=fi.at ae9 nD2;left;calc bJ _ (.inl (_,aY.of eDi,rfl)) ?_;left;have hlen:((vL m 0 (m.goal B)).map λi=>V.int ((i:Nat):Int)).length=(m.outs (m.goal B)).length:=by rw[T'];rfl
   rw[hlen];have ej:((pj.toNat:Nat):Int)=pj:=aa0 GH;by_cases ik:pj<((m.outs (m.goal B)).length:Nat)
   ·rw[if_pos (by simpa using ik)];have PZ:pj.toNat < (m.outs (m.goal B)).length:=by lia
    have sO:(m.outs (m.goal B)).getD pj.toNat 0<m.ws.length:=by
     have:=getD_mem (d:=0) PZ;unfold NT.outs at this ⊢;rw[List.mem_filter,abf]at this;exact this.1
    have Yg:jc ((vL m 0 (m.goal B)).map λi=>V.int ((i:Nat):Int)) pj=some (.int (((m.outs (m.goal B)).getD pj.toNat 0:Nat):Int)):=by
     rw[<-ej];calc aA ?_;rw[J'];show Option.map _ (m.outs (m.goal B))[_]?=_;rw[aav,a0 (d:=0) PZ];rfl
    nofun;obtain⟨U,how⟩:∃U,U=(m.outs (m.goal B)).getD pj.toNat 0:=(_,rfl)
    rw[<-how]at sO Yg;generalize hri:(r.step m B k).send (m.outs (m.goal B)) (m.ev r B) ((m.work r B k).cU.take i)=ri at *;let(oi,ZH,nFi,nPi,Uo):=EW.dk;have oi4:=Uo 4 ∅ ∅;have ZI:=Uo 5 ∅ ∅;have bi:=EW.cW;let(w4,x4,y4):=bi.lst (t:=4) (i:=U) sO rfl;ac_rfl;have l4:w4.length=(ri.ww U).say.length:=by simpa using y4.1
    have hb4:=CH.bs U sO;have hb5:=CH.ls U sO;left;calc bJ _ (OW ZH) ?_;left;calc bG eDi Yg ?_;calc bG oi4.1 (bo sO) ?_;calc(.inl (rfl,_,aY.of x4),?_);left;calc iE w4 x4 (small ()) ?_;have bj:=bi.app (t:=4) (i:=U) sO rfl x4 (fN.one (.int px));have fj:Fr (FP m.n ad) H' (upd H' (ad 4 U) (.lst (w4++[.int px]))):=Fr.refl.upd (4,U,sO,rfl) x4 trivial;generalize hGj:upd H' (ad 4 U) (.lst (w4++[.int px]))=Hj at *;let(w5,x5,y5):=bj.lst (t:=5) (i:=U) sO rfl;have l5:w5.length=(ri.ww U).snd.length:=by simpa using y5.1
    left;calc bJ _ (OX (fj.at ZH nPi)) ?_;left;calc bG (fj.at eDi nD2) Yg ?_;calc bG (fj.at ZI.1 ZI.2.2) (bo sO) ?_;calc(.inl (rfl,_,aY.of x5),?_);left;calc iE w5 x5 (small ()) ?_;have FSj:FS F Hj:=me.fr ((QP.f.trans fi).trans fj) M.cW.vP;have bk:=bj.app (t:=5) (i:=U) sO rfl x5 (fN.one (show HD _ 4 (.ref ev) (nU (some (m.ev r B))) from(bj.ht FSj ((QR.aL fi.aQ).aL fj.aQ)).mono ∅));have fk:Fr (FP m.n ad) H' (upd Hj (ad 5 U) (.lst (w5++[.ref ev]))):=fj.upd (5,U,sO,rfl) x5 trivial;left;calc je (_,_,rfl,rfl) (fi.trans fk) ?_;rw[Ox];show cT F _ d _ m (if pj.toNat<_ then _ else _) ad;rw[if_pos PZ];show cT F _ d _ m (ri.put ((m.outs (m.goal B)).getD pj.toNat 0) px (some (m.ev r B))) ad;rw[<-how];exact EW.own fk (bk.congr Lr)
   ·rw[if_neg (by simpa using ik)];left;calc je (_,_,rfl,rfl) fi ?_;rw[Ox];show cT F H' d _ m (if pj.toNat<_ then _ else _) ad;rw[if_neg ()];exact EW
  ·intro σ H' OH;let((TM,z14,rfl),fi,EW):=OH;left;rw[MJ,aaz]at EW;exact q _ _ (QP.f.trans fi) EW (QR.aL fi.aQ)
 clear hN2
 cases MB:(r.ww B).snd.getD k none with
 |none=>
  rw[MB]at dv5;have:=CA dv5;subst this;left
  try rw[if_neg ∅]
  left;calc rest rl _ _ H8 (au.refl _) ?_;unfold p6;rw[MB];calc Aw
 |some sc=>
  nofun;let(s0,c0):=sc;rw[MB]at dv5;let(ae,rfl,hae):=sJ (dv5.cv fC);have afe:=X _ _ hae;have zj:some ((s0),c0)∈(r.ww B).snd:=by rw[<-MB];exact getD_mem ()
  let(q1,q2,q3,q4):=O.sd B L s0 c0 zj;ac_rfl;left
  try rw[if_pos ∅]
  left;calc bJ _ (OX (X _ _ N)) ?_;left;calc bG (X _ _ o5.1) (bo L) ?_;calc bG (X _ _ e5) (aA ev5) ?_;calc Bl (bP.of afe) ?_;left;calc bI ?_;left;calc bJ _ (OY (X _ _ N)) ?_;have hsm:s0.toNat<m.ms.length:=by lia
  have es0:((s0.toNat:Nat):Int)=s0:=aa0 q1;have ec0:(((c0-1).toNat:Nat):Int)=c0-1:=aa0 ();left;calc bG (X _ _ o3.1) (show jc _ s0=some (.ref (ad 3 s0.toNat)) from by have:=bo (n:=m.n) (ad:=ad) (t:=3) hsm;rw[es0]at this;calc this) ?_;nofun;let(vs3,es3,ds3):=M.cW.lst (t:=3) (i:=s0.toNat) hsm rfl;let(vr,evr,dvr):=ds3.get (i:=(c0-1).toNat) (d:=.lst (((r.mm s0.toNat).hr.getD (c0-1).toNat []).map .int)) (by rw[J',a0 (d:=[]) ()];rfl);let(lo,rfl,GG):=yI (dvr.cv fC);ac_rfl;calc bG (X _ _ es3) (show jc _ (c0-1)=some (.ref lo) from by rw[<-ec0];calc aA evr) ?_;have O5:=X _ _ GG;left;calc fZ true true _ _ (Sq.l Aw) (Sq.l O5) (λD3 GI=>?_);have ahz:((r.mm (m.goal B)).hr.bN (List.replicate m.ms.length 0)).length=m.ms.length:=by
   by_cases h1:1<=(r.mm (m.goal B)).hr.length
   ·exact O.hl _ I _ (iy h1)
   ·have ez:(r.mm (m.goal B)).hr=[]:=List.length_eq_zero_iff.mp ();rw[ez];simp[List.bN]
  have ahA:((r.mm s0.toNat).hr.getD (c0-1).toNat []).length=m.ms.length:=O.hl _ hsm _ (getD_mem ());have ehr:p6 m r B k=List.zipWith max ((r.mm (m.goal B)).hr.bN (List.replicate m.ms.length 0)) ((r.mm s0.toNat).hr.getD (c0-1).toNat []):=by
   unfold p6;rw[MB]
  generalize hA:(r.mm (m.goal B)).hr.bN (List.replicate m.ms.length 0)=LA at *;generalize hB:(r.mm s0.toNat).hr.getD (c0-1).toNat []=LB at *;refine bq (J:=Vi true true K rl lo) (n:=m.ms.length) (λi ys H'=>au H8 H'/\ys=((List.zipWith max LA LB).take i).map V.int) (M' (aE ())) (au.new _ GI,rfl) ?_ ?_ ?_ ?_
  ·rintro i ys H' hi ⟨Y,_⟩;exact(_,_,_,_,Sq.l (Y _ _ Aw),Sq.l (Y _ _ O5),by rw[J',a0 (d:=0) ()];rfl,by rw[J',a0 (d:=0) ()];rfl)
  ·rintro ys H' ⟨Y,_⟩;exact(_,_,Sq.l (Y _ _ Aw),Sq.l (Y _ _ O5),.inl (by simp;lia))
  ·intro i ys H' hi bA hl Ut xx H4' zq9;nofun;let(Y,rfl):=Ut;let(t',HA,rfl,y):=zq9;let(x1,x2,QG,QH,rfl):=y _ _ (Sq.l (Y _ _ Aw)) (Sq.l (Y _ _ O5));rw[J',a0 (d:=0) ()] at QG QH;obtain rfl:=Option.some.inj QG;obtain rfl:=Option.some.inj QH;ac_rfl;have s2:=au.new (.tup [.int (LA.getD i 0),.int (LB.getD i 0)]) HA;have m9:upd H' t' (.tup [.int (LA.getD i 0),.int (LB.getD i 0)]) t'=some (.tup [.int (LA.getD i 0),.int (LB.getD i 0)]):=af;calc Bl (bP.of m9) (Ext.set (Ext.set (Ext.refl _) rfl) rfl,?_);left
   try rw[if_pos trivial]
   calc bW (s2 _ _ bA) hl hi (M' (aE ())) (λc o e=>by rw[az (av e GI)];calc s2 _ _ (Y _ _ e),?_);rw[aa6,List.getElem?_zipWith,a0 (l:=LA) (d:=0) (),a0 (l:=LB) (d:=0) (),W'];show _++[V.int (if LB.getD i 0 > LA.getD i 0 then LB.getD i 0 else LA.getD i 0)]=_++[V.int (max (LA.getD i 0) (LB.getD i 0))]
   congr 3;split<;>lia
  rintro ys H9 bA hl ⟨UJ,rfl⟩;rw[aaE (by simp;lia),<-ehr]at bA;left;calc rest D3 _ _ H9 UJ bA
theorem rQ.nil{ct:Nat->Hp->HO->Prop}:rQ H0 H' D [] 0 ct:=(rfl,List.nodup_nil,λa h=>by simp at h,λj a h=>by simp at h)
theorem rQ.snoc{n:Nat}{ct:Nat->Hp->HO->Prop}(h:rQ H0 H1 D as n ct)(q:au H0 H1)(r:H1 D≠none)(g:H1 a=none){o:HO}(e:H' a=some o)(c:ct n H' o)(s:∀b o,b≠D->H1 b=some o->H' b=some o)(f:∀j o,ct j H1 o->ct j H' o):rQ H0 H' D (as++[a]) (n+1) ct:=by
 refine(by simp[h.len],?_,λb d=>?_,λj b d=>?_)
 ·rw[List.nodup_append];calc je h.nd nofun (λb d c l=>?_);simp at l;subst l;intro z;subst z;let(j,k):=List.getElem?_of_mem d;let(m,i,_):=h.ins j b k;rw[g]at i;cases i
 ·rcases List.mem_append.mp d with d | d
  ·exact h.new b d
  ·simp at d;subst d;refine(?_,λz=>r (z ▸ g))
   cases t:H0 b with
   |none=>rfl
   |some o=>rw[q _ _ t]at g;cases g
 ·by_cases k:j < as.length
  ·rw[aad k]at d;let(m,i,g):=h.ins j b d;exact(m,s _ _ (h.new b (aao d)).2 i,f _ _ g)
  ·rw[X' ()] at d
   cases p:j-as.length with
   |zero=>
    rw[p]at d;simp at d;subst d;have:j=n:=by have:=h.len;lia
    subst this;calc(o,e,c)
   |succ k=>rw[p]at d;simp at d
theorem rQ.keep{n:Nat}{ct:Nat->Hp->HO->Prop}(h:rQ H0 H1 D as n ct)(s:∀(j:Nat) (b:Addr) (o:HO),H1 b=some o->ct j H1 o->H' b=some o/\ct j H' o):rQ H0 H' D as n ct:=
 (h.len,h.nd,h.new,λj a e=>by
  let(c,d,f):=h.ins j a e;calc(c,s _ _ _ d f))
theorem sT{K:W.Frag}{ix:List (Option Nat)}{r:TE}{l:Addr}{xs:List V}{o:HO}(t:H l=some (.lst xs))(v:H D=none)(G:xs.length<=10)(y:∀x,Ext (vz ix σ) ((vz ix σ).set 0 (some x)))(d:∀g j (R:VK),(∀p,j p=none->R (.ref p) (upd j p o))->r g j R)(q:∀as H1,H1 D=some (.lst (as.map V.ref))->au H H1->rQ H H1 D as xs.length (λ_ _ u=>u=o)->Q (.ref D) H1):lM ix (v9 K l) (fE 0) jl r σ H Q D:=by
 refine bq (n:=xs.length) (λi ys H'=>∃as:List Addr,ys=as.map V.ref/\au H H'/\rQ H H' D as i (λ_ _ u=>u=o)) (M' (small ())) ([],rfl,au.new _ v,rQ.nil) ?_ ?_ ?_ ?_
 ·rintro i ys H' k ⟨_,_,a,_⟩;exact(_,xs[i],aY.of (a _ _ t),dH k)
 ·rintro ys H' ⟨_,_,a,_⟩;exact(_,aY.of (a _ _ t),L' _)
 ·intro i ys H' k c w z B I C;let(as,rfl,a,m):=z;let(rfl,g):=C;calc(y B,?_);simp only[jl,if_true];calc d _ _ _ λp g=>?_;have d:=au.new o g;have i:p≠D:=Ne.symm (av c g);refine bW (d _ _ c) w k (M' (small ())) (as++[p],nofun,λb o e=>?_,?_)
  ·rw[az (av e v)];exact d _ _ (a _ _ e)
  ·refine m.snoc a (by rw[c];simp) g (o:=o) ?_ rfl (λb o a e=>?_) (λj u e=>e)
   ·rw[az i];exact af
   ·rw[az a];exact d _ _ e
 ·intro ys H1 c w F;let(as,rfl,a,m):=F;calc q as H1 c a m
theorem rQ.some{n:Nat}{ct:Nat->Hp->HO->Prop}(h:rQ H0 H1 D as n ct):∀a∈as,H1 a≠none:=λa m=>by
 let(j,e):=List.getElem?_of_mem m;let(b,e,_):=h.ins j a e;rw[e];calc λz=>nomatch z
def kL(l:List Addr):List (Key×V):=List.zipWith (λk a=>((Sum.inr k),V.ref a)) ["net","put","sender","worker","states","words","heard","events"] l
theorem p7{C:Hp}{d:Addr}{l:List Addr}{k:Key}(c:H d=none)(S:au H C)(f:C d=some (.dK (kL l)))(a:au C H')(g:putK (kL l) k (V.ref D)=kL (l++[D]))(h:l.length<=8)(q:∀G,G d=some (.dK (kL (l++[D])))->(∀b o,b≠d->C b=some o->G b=some o)->(∀b o,b≠d->H' b=some o->G b=some o)->au H G->R G):∃d' G,d=d'/\BQ H' d' (kV k) (V.ref D) G/\R G:=by
 calc(d,_,rfl,BQ.k (a _ _ f) (small (by unfold kL;rw[List.length_zipWith];lia)),?_);rw[g];calc q _ af (λb o n e=>by rw[az n];calc a _ _ e) (λb o n e=>by rw[az n];calc e) (λb o e=>by rw[az (av e c)];calc a _ _ (S _ _ e))
abbrev mz:Stmt:=top 88
inductive Lx(vs:List V)(H:Hp)(Q:VK):Prop
 |mk (F:Addr->Prop) (tn:V) (nt:NT) (ls:List (Int×Int)) (h0:vs=[tn]) (h1:ToldN (kj F H) tn nt.ms nt.ws ls) (h2:FS F H) (h3:nt.Ok) (h4:ls.length<=20) (h5:∀l∈ls,0<=l.1/\l.1<nt.ws.length) (h6:∀d ad H',au H H'->(∀b,FP nt.n ad b->H b=none)->H d=none->cT F H' d tn nt (RS.begin nt ls) ad->Q (.ref d) H'):Lx vs H Q
def EX:Sp:=λvs H Q _=>Lx vs H Q
theorem AW(D:cE K mg "_law_begun" "_law_begun" mz ek)(T:Tx K mg C CN CR F FD):Def P w K mg base "_law_begun" 1 ek EX:=by
 exists["_law_net_here","_law_run","_law_way","_law_said"];let(F,tn,g,ls,rfl,hN,me,aW,lW,rM,q):=h;have N:=hr.units;have Kk:=lt1 N;refine(_,(ai (bf (i:=1) sc rfl Sort (Nq (tD aI (aq 0) (tD aI (df (N':=["_law_way"]) (ix:=[none]) (bZ (ao N (aq 0) aj)) (λ_ _ _ _=>(ba (i:=0) (show(["_law_way"]:List Str).Nodup by decide +kernel) rfl Sort)) nL (λ_ _ _ _=>(bE aa))) (tD aI (df (N':=["_law_way"]) (ix:=[none]) (bZ (ao N (aq 0) aj)) (λ_ _ _ _=>(ba (i:=0) (show(["_law_way"]:List Str).Nodup by decide +kernel) rfl Sort)) nL (λ_ _ _ _=>(bE aa))) Np))) rfl rfl ∅ ∅))
  (ai (mU Kk (aq 1) aI (df (N':=["_law_way"]) (ix:=[none]) (bZ (ao N (aq 0) aj)) (λ_ _ _ _=>(ba (i:=0) (show(["_law_way"]:List Str).Nodup by decide +kernel) rfl Sort)) nL (λ_ _ _ _=>IC)) rfl)
  (ai (mU Kk (aq 1) aI (df (N':=gP) (ix:=[none]) (bZ (ao N (aq 0) aj)) (λ_ _ _ _=>(ba (i:=0) (show(gP:List Str).Nodup by decide +kernel) rfl Sort)) nL (λ_ _ _ _=>(bE (ag (bu (ag (dA (pH (K:=K) rfl) rfl T.cn su (ag (eg (K:=K) rfl N (aq 0) aj) aa)) (ag (dA (pH (K:=K) rfl) rfl T.cn su (ag (eg (K:=K) rfl N (aq 0) aj) aa)) aa))) aa)))) rfl)
  (ai (mU Kk (aq 1) aI (df (N':=gP) (ix:=[none]) (bZ (ao N (aq 0) aj)) (λ_ _ _ _=>(ba (i:=0) (show(gP:List Str).Nodup by decide +kernel) rfl Sort)) nL (λ_ _ _ _=>(bE (ag (bE aa) aa)))) rfl)
  (ai (mU Kk (aq 1) aI (df (N':=gP) (ix:=[none]) (bZ (ao N (aq 0) aj)) (λ_ _ _ _=>(ba (i:=0) (show(gP:List Str).Nodup by decide +kernel) rfl Sort)) nL (λ_ _ _ _=>(bE aa))) rfl)
  (ai (mU Kk (aq 1) aI (bE aa) rfl)
  (ai (fB PassesOwn.never rfl (bZ (ao N (aq 0) aj)) (g9 (i:=2) (j:=3) rfl sc rfl rfl Sort Sort)
  (ai (bL (dO qb sm sr cw (ao N (ao N (aq 1) aI) (aq 2)) (ag (aq 3) aa)))
  (ak (bL (dO qb sm sr cw (ao N (ao N (aq 1) aI) (aq 2)) (ag jw aa))))))
  (ak (aG (aq 1)))))))))),?_)
 nofun;let(tt,am,aw,al,mv,wv,lv,rfl,h1,h2,h3,h4,h5,h6,h7):=id hN;have g1:=(eI h1 (λk z=>by cases z)).2;have X:=(eI h2 (λk z=>by cases z)).2;have g3:=(eI h3 (λk z=>by cases z)).2;have g4:=(eI h4 (λk z=>by cases z)).2
 replace h5:=h5.cv fC
 replace h6:=h6.aL fC.aQ
 replace h7:=h7.aL fC.aQ
 ac_rfl;have ki:wv.length=g.ws.length:=by simpa using h6.1
 have nr:mv.length=g.ms.length:=h5.1;have rY:lv.length=ls.length:=by simpa using h7.1
 have T:wv.length<=10:=by rw[ki];exact aW.F4
 have T:mv.length<=5:=by rw[nr];exact aW.PY
 left;refine NM λd ph=>?_;have V7:=au.new (.dK []) ph;have ed0:upd H d (.dK []) d=some (.dK []):=af;generalize hGd:upd H d (.dK [])=C1 at *;left;refine bI ?_;left;refine eF (V7 _ _ g1) (aA (j:=1) rfl) ?_;left;refine .inl ((_,aY.of (V7 _ _ g3)),λD1 Hw=>?_);refine sT (o:=.lst []) (V7 _ _ g3) Hw () (λ_=>Ext.set (Ext.refl _) rfl) (λ_ _ _ r=>And.intro ∅ r) ?_;intro A1 H1 l YA hL1;have YC:=l;clear l;have fD1:C1 D1=none:=Hw;left;generalize V0:H1=C2 at *;have S2:=V7.trans YA;have V8:=YA _ _ ed0;have kd1:∀b o,b≠d->C1 b=some o->C2 b=some o:=λb o _ e=>YA _ _ e;refine bI ?_;left;refine eF (S2 _ _ g1) (aA (j:=1) rfl) ?_;left;refine .inl ((_,aY.of (S2 _ _ g3)),λD2 yt=>?_);refine sT (o:=.lst []) (S2 _ _ g3) yt () (λ_=>Ext.set (Ext.refl _) rfl) (λ_ _ _ r=>And.intro ∅ r) ?_;intro A2 H2 l VD hL2;have VF:=l;clear l;have YF:C2 D2=none:=yt;left;have T:H2 d=some (.dK []):=VD _ _ V8;refine(T,kL [tt,D1,D2],rfl,by simp[kL,List.zipWith],?_);rw[show nO [] (kL [tt,D1,D2])=kL [tt,D1,D2] by kernel_rfl];let(C3,hC3,V9,VE,ke2):=Yv (d:=d) (kL [tt,D1,D2]) VD;rw[hC3];have S3:au H C3:=λb o e=>VE b o (av e ph) (S2 _ _ e);clear hC3;clear T;left;refine bI ?_;left;refine eF (S3 _ _ g1) (aA (j:=1) rfl) ?_;left;refine .inl ((_,aY.of (S3 _ _ g3)),λD3 T=>?_);refine sT (o:=.dK []) (S3 _ _ g3) T () (λ_=>Ext.set (Ext.refl _) rfl) (λ_ _ _ r=>r) ?_;intro A3 H3 l YH hL3;have VI:=l;clear l;have YK:C3 D3=none:=T;left;refine p7 (k:=Sum.inr "worker") ph S3 V9 YH (by kernel_rfl) nofun λC4 UK YI ke3 S4=>?_;left;refine bI ?_;left;refine eF (S4 _ _ g1) (aA (j:=0) rfl) ?_;left;refine .inl ((_,aY.of (S4 _ _ X)),λD4 VN=>?_);refine bq (J:=v9 K am) (n:=mv.length) (λi ys H'=>∃as:List Addr,ys=as.map V.ref/\au C4 H'/\rQ C4 H' D4 as i (λj H' o=>∃v,o=.lst [v]/\HT H' 2 v (zF (g.ms.getD j default).ns (g.ms.getD j default).row))) (M' (small ())) ([],rfl,au.new _ VN,rQ.nil) ?_ ?_ ?_ ?_
 ·rintro i ys H' hi ⟨_,_,M,_⟩;exact(_,mv[i],aY.of (M _ _ (S4 _ _ X)),dH hi)
 ·rintro ys H' ⟨_,_,M,_⟩;exact(_,aY.of (M _ _ (S4 _ _ X)),L' _)
 ·intro i ys H' hi l hl ym xx H4 Ag;nofun;let(as,rfl,M,hL):=ym;let(rfl,hy):=Ag;ac_rfl;have ex:=hy _ (aY.of (M _ _ (S4 _ _ X)));walk_at "xf";left
  try rw[if_pos trivial]
  have OB:i<g.ms.length:=by lia
  let(mt,ln,lr,ld,xsd,rfl,m1,m2,m3,T,m5):=h5.2 i xx _ ex (a0 (d:=default) OB);have T:=(S4.trans M)
  calc eF (T _ _ m1) (aA (j:=1) rfl) ?_;left;calc .inl (_,aY.of (T _ _ m2),λt1 wX=>?_);have r1:=au.new (.tup ((g.ms.getD i default).ns.map V.int)) wX;calc eF (r1 _ _ (T _ _ m1)) (aA (j:=2) rfl) ?_;left;calc .inl (_,aY.of (r1 _ _ (T _ _ m3)),λt2 m9=>?_);have r2:=au.new (.tup ((g.ms.getD i default).row.map V.int)) m9;calc(cy,λt3 T=>?_);have r3:=au.new (.tup [.ref t1,.ref t2]) T;have S:=r1.trans (r2.trans r3);have O:HT (upd (upd (upd H4 t1 (.tup ((g.ms.getD i default).ns.map V.int))) t2 (.tup ((g.ms.getD i default).row.map V.int))) t3 (.tup [.ref t1,.ref t2])) 2 (.ref t3) (zF (g.ms.getD i default).ns (g.ms.getD i default).row):=dj af (pJ (r3 _ _ (r2 _ _ af))) (pJ (r3 _ _ af));generalize hGP:upd (upd (upd H4 t1 (.tup ((g.ms.getD i default).ns.map V.int))) t2 (.tup ((g.ms.getD i default).row.map V.int))) t3 (.tup [.ref t1,.ref t2])=HP at *;have GZ:=S _ _ l;left;calc(∅,λp hp=>?_);have U:=au.new (.lst [.ref t3]) hp;have UL:=U _ _ GZ;have nD:p≠D4:=Ne.symm (av GZ hp);refine bW UL hl hi (M' (small ())) (as++[p],nofun,λb o e=>?_,?_)
  ·rw[az (av e VN)];exact U _ _ (S _ _ (M _ _ e))
  ·refine hL.snoc M (by rw[l];simp) (S.free hp) (o:=.lst [.ref t3]) ?_ (_,rfl,O.aL (λb xs e=>by rw[az (λz=>by rw[z,GZ] at e;cases e)];calc U _ _ e)) (λb o nb e=>?_) (λj o (v,e,h)=>(v,e,h.aL (λb xs e=>by rw[az (λz=>by rw[z,l] at e;cases e)];calc U _ _ (S _ _ e))))
   ·rw[az nD];exact af
   ·rw[az nb];exact U _ _ (S _ _ e)
 intro ys H4 l hl Cn;let(A4,rfl,VO,hL4):=Cn;have VP:=l;clear l hl;have fD4:C4 D4=none:=VN;left;refine p7 (k:=Sum.inr "states") ph S4 UK VO (by kernel_rfl) nofun λR QS YM ke4 S5=>?_;left;refine bI ?_;left;refine eF (S5 _ _ g1) (aA (j:=0) rfl) ?_;left;refine .inl ((_,aY.of (S5 _ _ X)),λY Eg=>?_);refine bq (J:=v9 K am) (n:=mv.length) (λi ys H'=>∃as:List Addr,ys=as.map V.ref/\au R H'/\rQ R H' Y as i (λ_ H' o=>∃q,o=.lst [.ref q]/\H' q=some (.lst [])/\R q=none/\q≠Y)) (M' (small ())) ([],rfl,au.new _ Eg,rQ.nil) ?_ ?_ ?_ ?_
 ·rintro i ys H' hi ⟨_,_,M,_⟩;exact(_,mv[i],aY.of (M _ _ (S5 _ _ X)),dH hi)
 ·rintro ys H' ⟨_,_,M,_⟩;exact(_,aY.of (M _ _ (S5 _ _ X)),L' _)
 ·intro i ys H' hi l hl K7 xx H4 OH;nofun;let(as,rfl,M,hL):=K7;let(rfl,hy):=OH;ac_rfl;have ex:=hy _ (aY.of (M _ _ (S5 _ _ X)));walk_at "xf";left
  try rw[if_pos trivial]
  calc(aap _,λqq hqq=>?_);have S:=au.new (.lst []) hqq;have eqq:upd H4 qq (.lst []) qq=some (.lst []):=af;have nqD:qq≠Y:=Ne.symm (av l hqq);generalize hGP:upd H4 qq (.lst [])=HP at *;have GZ:=S _ _ l;left;calc(∅,λp hp=>?_);have U:=au.new (.lst [.ref qq]) hp;have UL:=U _ _ GZ;have nD:p≠Y:=Ne.symm (av GZ hp);refine bW UL hl hi (M' (small ())) (as++[p],nofun,λb o e=>?_,?_)
  ·rw[az (av e Eg)];exact U _ _ (S _ _ (M _ _ e))
  ·refine hL.snoc M (by rw[l];simp) (S.free hp) (o:=.lst [.ref qq]) ?_ (qq,rfl,by rw[az nqD];calc U _ _ eqq,M.free hqq,nqD) (λb o nb e=>?_) (λj o (M,e,h,h',h2)=>(M,e,by rw[az h2];calc U _ _ (S _ _ h),h',h2))
   ·rw[az nD];exact af
   ·rw[az nb];exact U _ _ (S _ _ e)
 intro ys H5 l hl Ut;let(A5,rfl,VS,hL5):=Ut;have VT:=l;clear l hl;have fD5:R Y=none:=Eg;left;refine p7 (k:=Sum.inr "words") ph S5 QS VS (by kernel_rfl) nofun λC6 UM YQ ke5 M=>?_;left;refine bI ?_;left;refine eF (M _ _ g1) (aA (j:=0) rfl) ?_;left;refine .inl ((_,aY.of (M _ _ X)),λD6 S=>?_);refine sT (o:=.lst []) (M _ _ X) S () (λ_=>Ext.set (Ext.refl _) rfl) (λ_ _ _ r=>And.intro ∅ r) ?_;intro A6 T l YU hL6;have VX:=l;clear l;have fD6:C6 D6=none:=S;left;refine p7 (k:=Sum.inr "heard") ph M UM YU (by kernel_rfl) nofun λC7 Wa YV ke6 S7=>?_;left;refine(aap _,λpe yT=>?_);have sE7:=au.new (.lst []) yT;have afj:upd C7 pe (.lst []) pe=some (.lst []):=af;have npe:pe≠d:=Ne.symm (av Wa yT);generalize alm:upd C7 pe (.lst [])=E7 at *;refine p7 (k:=Sum.inr "events") ph S7 Wa sE7 (by kernel_rfl) nofun λZ edF kd7 l SF=>?_;have epe:=l _ _ npe afj;have x:∀(A:Hp) (kv:List (Key×V)) (b:Addr) (vs:List V),A d=some (.dK kv)->A b=some (.lst vs)->b≠d:=λA kv b vs I W z=>by rw[z,I]at W;cases W
 have ndk:∀(A:Hp) (p:Key×V) (kv:List (Key×V)) (b:Addr),A d=some (.dK (p::kv))->A b=some (.dK [])->b≠d:=λA p kv b I W z=>by rw[z,I]at W;cases W
 have MR:∀(A:Hp) (kv:List (Key×V)) (b:Addr) (vs:List V),A d=some (.dK kv)->A b=some (.tup vs)->b≠d:=λA kv b vs I W z=>by rw[z,I]at W;cases W
 have kc7:=kd7;have kc6:∀b o,b≠d->C6 b=some o->Z b=some o:=λb o n e=>kc7 b o n (YV b o n e);have OC:∀b o,b≠d->R b=some o->Z b=some o:=λb o n e=>kc6 b o n (YQ b o n e);have Qy:∀b o,b≠d->C4 b=some o->Z b=some o:=λb o n e=>OC b o n (YM b o n e);have Qz:∀b o,b≠d->C3 b=some o->Z b=some o:=λb o n e=>Qy b o n (YI b o n e);have TY:∀b o,b≠d->C2 b=some o->Z b=some o:=λb o n e=>Qz b o n (VE b o n e);have ZJ:rQ C1 C2 D1 A1 wv.length (λ_ _ o=>o=.lst []):=hL1;have Ly:=YC;have ZK:=ZJ.keep (λj b o e c=>by subst c;calc(TY b _ (x _ _ _ _ V8 e) e,rfl));have ZL:=TY _ _ (x _ _ _ _ V8 Ly) Ly;have ZM:rQ C2 C3 D2 A2 wv.length (λ_ _ o=>o=.lst []):=hL2.keep (λj b o e c=>by subst c;calc(ke2 b _ (x _ _ _ _ (VD _ _ V8) e) e,rfl));have Lz:=ke2 _ _ (x _ _ _ _ (VD _ _ V8) VF) VF;have ZN:=ZM.keep (λj b o e c=>by subst c;calc(Qz b _ (x _ _ _ _ V9 e) e,rfl));have ZO:=Qz _ _ (x _ _ _ _ V9 Lz) Lz;have ZP:rQ C3 C4 D3 A3 wv.length (λ_ _ o=>o=.dK []):=hL3.keep (λj b o e c=>by subst c;calc(ke3 b _ (ndk _ _ _ _ (YH _ _ V9) e) e,rfl));have LC:=ke3 _ _ (x _ _ _ _ (YH _ _ V9) VI) VI;have ZQ:=ZP.keep (λj b o e c=>by subst c;calc(Qy b _ (ndk _ _ _ _ UK e) e,rfl));have ZR:=Qy _ _ (x _ _ _ _ UK LC) LC;have ZS:rQ C4 R D4 A4 mv.length (λj H' o=>∃v,o=.lst [v]/\HT H' 2 v (zF (g.ms.getD j default).ns (g.ms.getD j default).row)):=hL4.keep (λj b o e c=>by
  let(v,rfl,O):=c;calc(ke4 b _ (x _ _ _ _ (VO _ _ UK) e) e,v,rfl,O.aL (λb' xs e'=>ke4 b' _ (MR _ _ _ _ (VO _ _ UK) e') e')))
 have LD:=ke4 _ _ (x _ _ _ _ (VO _ _ UK) VP) VP;have ZT:=ZS.keep (λj b o e c=>by
  let(v,rfl,O):=c;calc(OC b _ (x _ _ _ _ QS e) e,v,rfl,O.aL (λb' xs e'=>OC b' _ (MR _ _ _ _ QS e') e')))
 have ZU:=OC _ _ (x _ _ _ _ QS LD) LD;have yu:rQ R C6 Y A5 mv.length (λ_ H' o=>∃q,o=.lst [.ref q]/\H' q=some (.lst [])/\R q=none/\q≠Y):=hL5.keep (λj b o e c=>by
  let(v,rfl,O,ZV,ZW):=c;calc(ke5 b _ (x _ _ _ _ (VS _ _ QS) e) e,v,rfl,ke5 v _ (x _ _ _ _ (VS _ _ QS) O) O,ZV,ZW))
 have xi:=ke5 _ _ (x _ _ _ _ (VS _ _ QS) VT) VT;have nn:∀{A:Hp} {b:Addr} {o:HO},A b=some o->A b≠none:=λe z=>by rw[e]at z;cases z
 have ZX:rQ R C6 Y A5 mv.length (λ_ H' o=>∃q,o=.lst [.ref q]/\H' q=some (.lst [])/\R q=none/\C6 q≠none):=(yu.len,yu.nd,yu.new,λj a e=>by
  let(o,I,q,rfl,W,l,_):=yu.ins j a e;calc(_,I,q,rfl,W,l,nn W))
 have UN:=ZX.keep (λj b o e c=>by
  let(v,rfl,O,ZV,ZW):=c;calc(kc6 b _ (x _ _ _ _ UM e) e,v,rfl,kc6 v _ (x _ _ _ _ UM O) O,ZV,ZW))
 have ZY:=kc6 _ _ (x _ _ _ _ UM xi) xi;have ZZ:rQ C6 C7 D6 A6 mv.length (λ_ _ o=>o=.lst []):=hL6.keep (λj b o e c=>by subst c;calc(ke6 b _ (x _ _ _ _ (YU _ _ UM) e) e,rfl));have LF:=ke6 _ _ (x _ _ _ _ (YU _ _ UM) VX) VX;have Z0:=ZZ.keep (λj b o e c=>by subst c;calc(kc7 b _ (x _ _ _ _ Wa e) e,rfl));have Z1:=kc7 _ _ (x _ _ _ _ Wa LF) LF;rw[ki]at ZK;rw[ki]at ZN;rw[ki]at ZQ;rw[nr]at ZT;rw[nr]at UN;rw[nr]at Z0;obtain⟨ad,TQ⟩:∃ad:Nat->Nat->Addr,∀t i,ad t i=([[pe],A4,A5,A6,A1,A2,A3].getD t []).getD i 0:=(_,λ_ _=>rfl)
 have pz:∀{A B:Hp},(∀b o,b≠d->A b=some o->B b=some o)->∀{o},B d=some o->∀b,A b≠none->B b≠none:=λ{A B} h {o} e b hb=>by
  by_cases z:b=d
  ·rw[z,e];exact λz=>nomatch z
  ·cases I:A b with
   |none=>calc absurd I hb
   |some u=>rw[h b u z I];exact λz=>nomatch z
 have Yw:∀a<7,∀b<7,[6,3,4,5,0,1,2].getD a 7=[6,3,4,5,0,1,2].getD b 7->a=b:=by decide
 let(cW,Qt,hDo):=EF (F:=F) (G:=Z) (n:=g.n) (c:=(RS.new g).tv) (λt=>[C1,C2,C3,C4,R,C6,C7].getD t Z) (λt=>[6,3,4,5,0,1,2].getD t 7) _ (λt=>[d,D4,Y,D6,D1,D2,D3].getD t d) (λt=>[λ_ _ u=>u=.lst [],λj H' o=>∃v,o=.lst [v]/\HT H' 2 v (zF (g.ms.getD j default).ns (g.ms.getD j default).row),λ_ H' o=>∃q,o=.lst [.ref q]/\H' q=some (.lst [])/\R q=none/\C6 q≠none,λ_ _ o=>o=.lst [],λ_ _ o=>o=.lst [],λ_ _ o=>o=.lst []].getD t λ_ _ o=>o=.dK []) TQ (λ_=>rfl) (λt l h h'=>Yw t () l ())
  (λt=>match t with
   |0=>pz kd1 V8
   |1=>pz VE V9
   |2=>pz YI UK
   |3=>pz YM QS
   |4=>pz YQ UM
   |5=>pz YV Wa
   |6=>pz kd7 edF
   | (t + 7)=>λb h=>h)
  (λb h=>by
   let(o,e,l):=me b h;calc(nn (V7 _ _ e),o,SF _ _ e,l))
  (λt ht=>match t,ht with
   | 0,_=>((rfl,nofun,λa m=>by rw[List.mem_singleton.mp m];exact(yT,Ne.symm (av Wa yT)),λj a e=>by cases j with
    |zero=>cases e;calc(_,epe,rfl)
    | succ j=>cases e),λa m=>by rw[List.mem_singleton.mp m];calc nn epe,λh=>absurd h ∅)
   |1,_=>(ZT,ZS.some,λ_=>(fD4,nn LD))
   |2,_=>(UN,yu.some,λ_=>(fD5,nn xi))
   |3,_=>(Z0,ZZ.some,λ_=>(fD6,nn LF))
   |4,_=>(ZK,ZJ.some,λ_=>(fD1,nn Ly))
   |5,_=>(ZN,ZM.some,λ_=>(YF,nn Lz))
   |6,_=>(ZQ,ZP.some,λ_=>(YK,nn LC))
   | (t + 7),h=>absurd h ())
  (λt i u ht h=>by
   match t,ht,h with
   |0,_,h|3,_,h|4,_,h|5,_,h|6,_,h=>cases h;trivial
   |1,_,(_,e,_)|2,_,(_,e,_)=>cases e;trivial
   | (t + 7),h,_=>calc absurd h ())
  (λhz fo t i u ht hi e h=>by
   match t,ht,h with
   |0,_,h|3,_,h|4,_,h|5,_,h=>cases h;calc(fN.nil:fN _ 4 [] [])
   |1,_,(v,e,O)=>cases e;calc(fN.one ((KU hz O).mono ∅):fN _ 4 [v] [_])
   |2,_,(v,e,O,ZV,ZW)=>
    cases e;have nq:=fo 4 v ZV ZW (λt ht es m=>by
     have:=Yw t () 2 () es;subst this;let(j,e):=List.getElem?_of_mem m;let(_,I,q,rfl,_):=UN.ins j _ e;rw[O] at I;cases I)
    show fN (kj (λb=>F b\/FP g.n ad b) Z) 4 [.ref v] [.lst []];calc fN.one (.lst (by rw[iD nq];calc O) rfl (λi u e N=>by simp at N))
   |6,_,h=>
    cases h;exact(aap _,λk=>by
     have I:lP ((RS.new g).ww i).dz k=none:=by
      show lP [] k=none;unfold lP;split<;>rfl
     rw[I];calc Iu)
   | (t + 7),h,_=>calc absurd h ())
 have y:∀b,FP g.n ad b->H b=none:=λb hb=>V7.free (Qt b hb).1;have nF:∀b,H b=none->¬F b:=λb e z=>by
  let(o,I,_):=me b z;rw[e]at I;cases I
 have hT:cT F Z d (.ref tt) g (RS.new g) ad:=by
  refine((λt=>[d,D4,Y,D6,D1,D2,D3].getD t d,?_,nF d ph,λz=>nn ed0 (Qt d z).1,λt h1 h6=>?_),cW,(ls,hN.cv ?_),aW)
  ·rw[edF,MN,TQ];rfl
  ·let(k,l,u):=hDo t h1 h6;calc(?_,k,l);rw[<-u]
   match t,h1,h6 with
   |1,_,_=>calc ZU
   |2,_,_=>calc ZY
   |3,_,_=>calc Z1
   |4,_,_=>calc ZL
   |5,_,_=>calc ZO
   |6,_,_=>calc ZR
   |(t+7),_,h=>exact absurd h ()
  ·intro b l e n;let(k,z2):=eI e n;rw[iD]
   ·exact SF _ _ z2
   ·rintro(z | z)
    ·exact k z
    ·rw[y b z]at z2;cases z2
 have h7F:=h7.aL SF.aQ;left;refine eF (SF _ _ g1) (aA (j:=2) rfl) (.inl ((_,aY.of (SF _ _ g4)),gQ (K:=K) (xs:=lv) (λi σ H'=>(∃z2 z3,σ=[some (V.ref tt),some (V.ref d),z2,z3])/\Fr (FP g.n ad) Z H'/\cT F H' d (.ref tt) g ((RS.new g).lx (ls.take i)) ad) ?_ ?_ ?_ ?_))
 ·exact((_,_,rfl),Fr.refl,hT)
 ·rintro i σ H' hi ⟨_,fi,_⟩;exact aY.of (fi.at (SF _ _ g4) (λz=>by rw[y _ z]at g4;cases g4))
 ·intro i z σ H' hzz afl;nofun;let((z2,z3,rfl),fi,EW):=afl;have j:i < ls.length:=by rw[<-rY];exact(List.getElem?_eq_some_iff.mp hzz).1
  have k:ls[i]?=some ls[i]:=dH j;have TN:=(h7F.2 i z (qJ ls[i]) hzz (by rw[J',k];rfl)).aL fi.aQ;have KZ:=rM _ (aax j);have Ox:(RS.new g).lx (ls.take (i+1))=((RS.new g).lx (ls.take i)).put ls[i].1.toNat ls[i].2 none:=by
   rw[aa6,k];exact qS _
  have CH:=(sQ (ls.take i) (CI aW)).mono (show _<=19998 by simp;lia);generalize ls[i]=p at *;let(L,px):=p;let(tz,u1,u2,kz,rfl,Ho,y1,y2):=dQ TN;obtain rfl:=y1.cL;obtain rfl:=y2.cL;have k:=KZ.1;have j:=KZ.2;simp only at k j;have ej:((L.toNat:Nat):Int)=L:=aa0 k;have sO:L.toNat<g.ws.length:=by lia
  generalize hri:(RS.new g).lx (ls.take i)=ri at *;ac_rfl;calc Bl (bP.of Ho) ?_;nofun;let(l,ZH,j,nPi,k):=EW.dk;have j:=k 4 ∅ ∅;have ZI:=k 5 ∅ ∅;have l:=EW.cW;let(w4,x4,k):=l.lst (t:=4) (i:=L.toNat) sO rfl;ac_rfl;have u:w4.length=(ri.ww L.toNat).say.length:=by simpa using k.1
  have k:=CH.bs _ sO;have k:=CH.ls _ sO;left;calc bJ _ (OW ZH) ?_;left;have k:jc (lj g.n ad 4) L=some (.ref (ad 4 L.toNat)):=by have:=bo (n:=g.n) (ad:=ad) (t:=4) sO;rw[ej]at this;exact this
  have rb:jc (lj g.n ad 5) L=some (.ref (ad 5 L.toNat)):=by have:=bo (n:=g.n) (ad:=ad) (t:=5) sO;rw[ej]at this;exact this
  calc bG j.1 k ?_;calc(.inl (rfl,_,aY.of x4),?_);left;calc iE w4 x4 (small ()) ?_;have bj:=l.app (t:=4) (i:=L.toNat) sO rfl x4 (fN.one (.int px));have fj:Fr (FP g.n ad) H' (upd H' (ad 4 L.toNat) (.lst (w4++[.int px]))):=Fr.refl.upd (4,L.toNat,sO,rfl) x4 trivial;generalize hGj:upd H' (ad 4 L.toNat) (.lst (w4++[.int px]))=Hj at *;let(k,j,l):=bj.lst (t:=5) (i:=L.toNat) sO rfl;have n:k.length=(ri.ww L.toNat).snd.length:=by simpa using l.1
  left;calc bJ _ (OX (fj.at ZH nPi)) ?_;left;calc bG (fj.at ZI.1 ZI.2.2) rb ?_;calc(.inl (rfl,_,aY.of j),?_);left;calc iE k j (small ()) ?_;have l:=bj.app (t:=5) (i:=L.toNat) sO rfl j (fN.one (show HD _ 4 .bO (nU none) from .bO));have i:Fr (FP g.n ad) H' (upd Hj (ad 5 L.toNat) (.lst (k++[.bO]))):=fj.upd (5,L.toNat,sO,rfl) j trivial;left;calc je (_,_,rfl,rfl) (fi.trans i) ?_;rw[Ox];exact EW.own i (l.congr Lr)
 ·intro σ H' afn;let((z2,z3,rfl),fi,EW):=afn;left;rw[rY,aaz]at EW;calc q d ad H' (λb o e=>?_) y ph EW;calc fi.at (SF _ _ e) (λz=>by rw[y b z]at e;cases e)
def mB(nt:NT)(r:RS)(s:List (Int×Int)):RS:=s.foldl (λr p=>r.pick nt p.1.toNat p.2.toNat) r
def vV(nt:NT)(r:RS)(s:List (Int×Int)):Prop:=∀(i:Nat) p,s[i]?=some p->∃w k:Nat,p=(((w:Int)),(k:Int))/\(mB nt r (s.take i)).Ql nt w k
theorem oM{nt:NT}{w k:Nat}:mB nt r (s++[(((w:Int)),(k:Int))])=(mB nt r s).pick nt w k:=by
 unfold mB;rw[List.foldl_append];rfl
theorem LG{nt:NT}:vV nt r []:=λi p e=>by simp at e
theorem Ha{nt:NT}{w k:Nat}(h:vV nt r s)(a:(mB nt r s).Ql nt w k):vV nt r (s++[(((w:Int)),(k:Int))]):=λi p e=>by
 by_cases b:i<s.length
 ·rw[aad b]at e;rw[List.take_append_of_le_length ()];exact h i p e
 ·have c:i=s.length:=by
   have:=(List.getElem?_eq_some_iff.mp e).1;simp at this;lia
  subst c;rw[X' (L' _),Nat.sub_self]at e;obtain rfl:=Option.some.inj e;calc(w,k,rfl,by rw[List.take_left];calc a)
theorem Hb{nt:NT}{p:Int×Int}(h:vV nt r (s++[p])):vV nt r s/\∃w k:Nat,p=(((w:Int)),(k:Int))/\(mB nt r s).Ql nt w k:=by
 refine(λi q e=>?_,?_)
 ·have a:=(List.getElem?_eq_some_iff.mp e).1;have:=h i q (by rw[aad a];calc e);rw[List.take_append_of_le_length ()]at this;exact this
 ·have:=h s.length p (by rw[X' (L' _),Nat.sub_self];rfl);rw[List.take_left]at this;calc this
theorem EY{nt:NT}(d:nt.Ok){r:RS}(h:r.Ok nt)(e:r.picks=[]):∀n (s:List (Int×Int)),s.length=n->vV nt r s->(mB nt r s).Ok nt/\(mB nt r s).picks=s
 |0,s,c,_=>by
  have:s=[]:=List.length_eq_zero_iff.mp c;subst this;calc(h,e)
 |n+1,s,c,g=>by
  rcases List.eq_nil_or_concat s with rfl|⟨i,p,f⟩
  ·simp at c
  rw[List.concat_eq_append]at f;subst f;let(j,w,k,rfl,l):=Hb g;let(a,b):=EY d h e n i (by simpa using c) j;rw[oM];have:=RS.Ok.pick d a (k:=k) l.lt;rw[b]at this;calc this
theorem take_snoc{i:Nat}{p:Int×Int}(e:s[i]?=some p):s.take (i+1)=s.take i++[p]:=by rw[abc,e];rfl
abbrev kQ:Stmt:=top 77
inductive LH(C CN CR:Addr)(vs:List V)(H:Hp)(Q:VK):Prop
 |mk (F:Addr->Prop) (aZ l:Addr) (nt:NT) (ls:List (Int×Int)) (ms:List Addr) (wv lv ys:List V) (s:List (Int×Int)) (h0:vs=[.ref aZ,.ref l]) (h2:vK C CN H aZ nt) (h3:nu CN H aZ ms wv lv) (h4:fV H 1 lv (ls.map qJ)) (h5:ls.length<=20) (h6:∀l∈ls,0<=l.1/\l.1<nt.ws.length) (hl:H l=some (.lst ys)) (hs:fV H 1 ys (s.map pairD)) (hn:s.length<=100) (hF:FS F H) (hc:vV nt (RS.begin nt ls) s) (q:∀x ad H',au H H'->H x=none->(∀b,FP nt.n ad b->H b=none)->bR C CN CR F H' x aZ nt (mB nt (RS.begin nt ls) s) ad->Q (.ref x) H'):LH C CN CR vs H Q
def EZ(C CN CR:Addr):Sp:=λvs H Q _=>LH C CN CR vs H Q
theorem Hc{nt:NT}(h:vV nt r s)(n:Nat):vV nt r (s.take n):=λi p e=>by
 have a:=(List.getElem?_eq_some_iff.mp e).1;rw[aaT]at a;rw[List.getElem?_take,if_pos ()]at e;rw[List.take_take,Nat.min_eq_left ()];calc h i p e
theorem yJ(D:cE K mg "played_run" "played_run" kQ ["net","schedule"])(T:Tx K mg C CN CR F FD)(c:cf P w K mg base CR "pick_at" 6 aK (EC C CN CR))(LI:zz P w K mg base "Run" CR 2 ["self","net"] (EG C CN CR)):Def P w K mg base "played_run" 7 ["net","schedule"] (EZ C CN CR):=by
 exists["net","schedule","run","at","way","number"];let(F,p,l,a,ls,ms,wv,lv,ys,s,rfl,J,Z4,Z5,L,rM,r,M,Z6,N,O,q):=h;have hu:=hr.units;refine(_,(ai (bf (i:=2) sc rfl Sort (JA LI hr (ag (aq 0) aa)))
  (ai (fB PassesOwn.never rfl (ky rfl T.dY (ag (aq 1) aa)) (Bw rfl (iA (ba (i:=3) sc rfl Sort) (iA (g9 (i:=4) (j:=5) rfl sc rfl rfl Sort Sort) xF)))
  (ak (bL (dX c T.aV hr (aq 2) (ag (aq 4) (ag (aq 5) (ag (aq 3) aa)))))))
  (ak (aG (aq 2))))),?_)
 have MQ:=J.ok;let(R,S):=uO MQ L;walk_at "xg";left;intro m c U T alp;have d:au H (upd (upd H c (.own m)) m (.ins CR c [])):=λb o e=>by rw[az (av e U),az (av e T)];exact e
 calc(F,m,c,p,a,ls,ms,wv,lv,rfl,af,J.fr (Z:=λ_=>False) d.fr,Z4.same d,Z5.aL d.aQ,L,rM,N.fr (Z:=λ_=>False) d.fr (λ_ _ h=>h),λad H3 k0 f0 W=>?_);have u:au H H3:=λb o e=>k0 b o (av e U) (d _ _ e);have B:∀b,FP a.n ad b->H b=none:=λb hb=>by
  cases e:H b with
  |none=>rfl
  |some o=>
   have:=f0 b hb;rw[d _ _ e]at this;cases this
 clear k0 f0 d;calc(rfl,L2.aP h1 ?_);clear h1;left;have CM:ys.length=s.length:=by simpa using M.1
 refine(true,ys,Sq.l (u _ _ r),pG (xs:=ys) (λi σ H'=>(∃X Y z5,σ=[some (V.ref p),some (V.ref l),some (V.ref m),X,Y,z5])/\Fr (FP a.n ad) H3 H'/\bR C CN CR F H' m p a (mB a (RS.begin a ls) (s.take i)) ad) ?_ ?_ ?_ ?_)
 ·exact((_,_,_,rfl),Fr.refl,W)
 ·rintro i σ H' ⟨_,g,_⟩;exact Sq.l (g.at (u _ _ r) (λz=>by rw[B _ z]at r;cases r))
 ·intro i t σ H' G hx jf Uw;nofun;let((X,Y,z5,rfl),g,v):=jf;have c:i < s.length:=by rw[<-CM];exact(List.getElem?_eq_some_iff.mp hx).1
  have I:s[i]?=some s[i]:=dH c;have x:=au.new (.tup [.int (i:Nat),t]) Uw;have ett:upd H' G (.tup [.int (i:Nat),t]) G=some (.tup [.int (i:Nat),t]):=af;have y:=(((M.2 i t (pairD s[i]) hx (by rw[J',I];rfl)).aL u.aQ).aL g.aQ).aL x.aQ;generalize Kn:upd H' G (.tup [.int (i:Nat),t])=G2 at *;let(wy,k,ep,hc):=O i _ I;rw[ep]at y I;let(ta,u1,u2,kk,rfl,vN,y1,y2):=dQ y;obtain rfl:=y1.cL;obtain rfl:=y2.cL;ac_rfl;calc(G,_,rfl,bP.of ett,rfl,_,_,rfl,_,_,rfl,(ta,_,rfl,bP.of vN,rfl,_,_,rfl,_,_,rfl,rfl,rfl,?_));left;nofun;let(c,d,Jm,l):=v.ins;let(afr,afs):=EY MQ R S _ _ rfl (Hc O i);ac_rfl;have Cu:∀{G:Hp},au G2 G->au H G:=λc b o e=>c _ _ (x _ _ (g.at (u _ _ e) (λz=>by rw[B _ z]at e;cases e)));calc gu (x _ _ Jm) (dZ ⋯) ?_;calc(F,m,p,a,_,ad,wy,k,.int (i:Nat),rfl,v.same x,N.fr (Z:=λ_=>False) (Cu (au.refl _)).fr (λ_ _ h=>h),afr,hc,by rw[afs,aaT];lia,λt c f a d=>?_);calc((_,_,_,rfl,rfl,rfl),(g.trans x.fr).trans f,?_);rw[take_snoc I,oM];exact a
 ·intro σ H' jh;let((X,Y,z5,rfl),g,v):=jh;rw[CM,aaz]at v;left;calc q _ _ _ (λb o e=>g.at (u _ _ e) (λz=>by rw[B _ z]at e;cases e)) U B v
def RS.Ps(nt:NT)(r:RS):Prop:=∀(w k:Nat) (m c:Int),w<nt.ws.length->(r.ww w).dz[k]?=some (some ((m),c))->1<=c
theorem AX{outs:List Nat}{ev:Int×Int}{u k:Nat}{e:Int×Int}:∀(ps:List (Int×Int)) {r:RS},((r.send outs ev ps).ww u).dz[k]?=some (some e)->(r.ww u).dz[k]?=some (some e)
 | [],r,h=>h
 |p::ps,r,h=>by
  have h:(((if p.1.toNat<outs.length then r.put (outs.getD p.1.toNat 0) p.2 (some ev) else r).send outs ev ps).ww u).dz[k]?=some (some e):=h;have h:=AX ps h;split at h
  ·exact kB.mp h
  ·calc h
theorem AY{u k:Nat}{e:Int×Int}:∀(ps:List (Int×Int)) {r:RS},((r.lx ps).ww u).dz[k]?=some (some e)->(r.ww u).dz[k]?=some (some e)
 | [],r,h=>h
 |p::ps,r,h=>kB.mp (AY ps h)
structure AZ(nt:NT)(ls:List (Int×Int))(r:RS):Prop where
 ok:r.Ok nt
 iv:r.Iv nt
 pk:r.Pk nt
 ps:RS.Ps nt r
 pl:r=mB nt (RS.begin nt ls) r.picks
 can:vV nt (RS.begin nt ls) r.picks
theorem AZ.pick{nt:NT}(h:AZ nt ls r)(d:nt.Ok){w k:Nat}(b:r.Ql nt w k):AZ nt ls (r.pick nt w k)/\(r.pick nt w k).picks=r.picks++[(((w:Int)),(k:Int))]:=by
 have a:=RS.Ok.pick d h.ok (k:=k) b.lt;exact⟨⟨a.1,h.iv.pick d b.lt b.lies,h.pk.pick h.iv b.lies,λu j m c f e=>by
  rcases(iF b.lies).mp (AX _ e) with⟨_,_,z⟩|e
  ·cases z;have:=h.ok.vE (d.iq b.lt);lia
  ·calc h.ps u j m c f e,by rw[a.2,oM,<-h.pl],by rw[a.2];calc Ha h.can (by rw[<-h.pl];calc b)⟩,a.2⟩
theorem AZ.begin{nt:NT}(d:nt.Ok){ls:List (Int×Int)}(h:ls.length<=20):AZ nt ls (RS.begin nt ls):=by
 let(a,b):=uO d h;exact(a,RS.Iv.begin,RS.Pk.zero RS.Iv.begin b,λu j m c f e=>by
  have:=AY ls (r:=RS.new nt) e;simp[RS.new] at this,by rw[b];rfl,by rw[b];calc LG)
abbrev qZ:Stmt:=top 92
inductive LJ(vs:List V)(H:Hp)(Q:VK):Prop
 |mk (F:Addr->Prop) (tn:V) (nt:NT) (ls:List (Int×Int)) (l:Addr) (xs:List Int) (h0:vs=[tn,.ref l]) (h1:ToldN (kj F H) tn nt.ms nt.ws ls) (h2:FS F H) (h3:nt.Ok) (h4:ls.length<=20) (h5:∀l∈ls,0<=l.1/\l.1<nt.ws.length) (h7:H l=some (.lst (xs.map V.int))) (h8:xs.length<=40) (q:∀d ad r H',au H H'->(∀b,FP nt.n ad b->H b=none)->H d=none->cT F H' d tn nt r ad->AZ nt ls r->r.picks.length<=40->Q (.ref d) H'):LJ vs H Q
def E2:Sp:=λvs H Q _=>LJ vs H Q
theorem Hd(D:cE K mg "_law_ran" "_law_ran" qZ eD)(T:Tx K mg C CN CR F FD)(mC:Def P w K mg base "_law_begun" 1 ek EX)(oN:Def P w K mg base "_law_free" 2 ["_law_run"] Lk)(oO:Def P w K mg base "_law_pick" 3 ec EV):Def P w K mg base "_law_ran" 4 eD E2:=by
 exists["_law_net_here","_law_cells","_law_run","_law_cell","_law_free_here","_law_way","_law_number"];let(F,m,a,ls,l,M,rfl,Wb,N,o,u,rM,v,O,q):=h;have G:=hr.units;refine(_,(ai (bf (i:=2) sc rfl Sort (aM mC hr (ag (aq 0) aa)))
  (ai (fB PassesOwn.never rfl (bZ (pv 1)) (ba (i:=3) sc rfl Sort)
  (ai (bf (i:=4) sc rfl Sort (aM oN hr (ag (aq 2) aa)))
  (ak (aT (aC (fL G) (aq 4) (bE aa) (aJ _)) (ai (fA (ao G (aq 4) (aR cK (aq 3) (bc aO rfl T.bS U' (ag (aq 4) aa)))) (g9 (i:=5) (j:=6) rfl sc rfl rfl Sort Sort))
  (ak (bL (aM oO hr (ag (aq 2) (ag (aq 5) (ag (aq 6) aa))))))) aH))))
  (ak (aG (aq 2))))),?_)
 walk_at "xg";right;refine(F,m,a,ls,rfl,Wb,N,o,u,rM,λd ad H1 R S fd kR=>?_);refine L2.aP h1 ?_;clear h1;have U:=AZ.begin o u;have Cm:=R _ _ v;have nl:¬FP a.n ad l:=λz=>by rw[S _ z]at v;cases v
 right;refine(_,rfl,.inl ((_,aY.of Cm),gQ (K:=K) (xs:=M.map V.int) (λi σ H'=>(∃W X Y Z,σ=[some m,some (V.ref l),some (V.ref d),W,X,Y,Z])/\Fr (FP a.n ad) H1 H'/\∃r,cT F H' d m a r ad/\AZ a ls r/\r.picks.length<=i) ?_ ?_ ?_ ?_))
 ·exact((_,_,_,_,rfl),Fr.refl,_,kR,U,by rw[(uO o u).2];calc L' _)
 ·rintro i σ H' l ⟨_,c,_⟩;exact aY.of (c.at Cm nl)
 ·intro i z σ H' hz jf;nofun;let((W,X,Y,Z,rfl),c,r,x,g,nN):=jf;have l:i<40:=by
   have:=(List.getElem?_eq_some_iff.mp hz).1;rw[T']at this;lia
  rw[J']at hz;let(I,_,rfl):=Option.map_eq_some_iff.mp hz;ac_rfl;right;calc(F,d,m,a,r,ad,rfl,x,g.ok,(),λv ys H2 s2 i l u=>?_);right;calc(aap _,λp i=>?_);have J:=au.new (.lst []) i;have L:=J _ _ l;have Z7:=u.aL J.aQ;have t:upd H2 p (.lst []) p=some (.lst []):=af;have y:=(x.same s2).same J;have ou:=s2.trans J;generalize hGp:upd H2 p (.lst [])=Gp at *;by_cases hy:ys=[]
  ·subst hy;calc .inl (.inr (_,_,[],[],rfl,rfl,.inr (aY.of L,aY.of t),rfl,λj u v G=>by simp at G),?_);rw[if_neg ∅];right;exact((_,_,_,_,rfl,rfl,rfl,rfl),c.trans ou.fr,r,y,g,())
  calc .inr ((ys,[],λh=>hy (List.length_eq_zero_iff.mp h),.inl (aY.of L,aY.of t)),?_);rw[if_pos trivial];right;have i:0<ys.length:=List.length_pos_iff.mpr hy;nofun;obtain⟨k,aft⟩:∃k:Nat,I%(ys.length:Int)=k:=((I%(ys.length:Int)).toNat,by have:=aaK I (show(ys.length:Int)≠0 by lia);lia)
  have yR:k<ys.length:=by have:=aaL I (show(0:Int)<ys.length by lia);lia
  have i:ys.length=(lp a r a.ws.length).length:=by simpa using Z7.1
  have B:k<(lp a r a.ws.length).length:=by lia
  have hel:=Z7.2 k ys[k] _ (dH yR) (by rw[J',dH B];rfl);have zj:=aax B;generalize (lp a r a.ws.length)[k]=pr at *;let(u,i):=pr;have l:=Lj g.ok zj;let(k,j,v):=AE hel;ac_rfl;calc(_,.inl (_,aY.of L,rfl),(),_,_,.inl (aY.of L),by rw[aft];calc aA (dH yR),?_);rw[j];calc Bl (bP.of v) ?_;right;calc(F,d,m,a,r,ad,u,i,rfl,y,N.fr (R.fr.trans (c.trans ou.fr)) x.cW.vP,g.ok,l,(),λt G B k _=>?_);let(a,i):=g.pick o l;exact((_,_,_,_,rfl,rfl,rfl,rfl),(c.trans ou.fr).trans B,_,k,a,by rw[i];simp;lia)
 ·intro σ H' jh;let((W,X,Y,Z,rfl),c,r,x,g,nN):=jh;right;rw[T']at nN;calc q d ad r H' (λb o e=>c.at (R _ _ e) λz=>by rw[S _ z]at e;cases e) S fd x g ()
theorem sU(xs:List V)(k:Nat):dE xs none (some (k:Int))=xs.take k:=by
 unfold dE;rw[HT.sy,HT.y9,List.drop_zero,Nat.sub_zero];by_cases h:k<=xs.length
 ·rw[Nat.min_eq_left h]
 ·rw[Nat.min_eq_right (),aaE (L' _),aaE ()]
theorem ng(xs:List V)(k:Nat):dE xs (some (k:Int)) none=xs.drop k:=by
 unfold dE;rw[HT.sy,HT.y9];by_cases h:k<=xs.length
 ·rw[Nat.min_eq_left h,aaE nofun]
 ·rw[Nat.min_eq_right (),List.drop_eq_nil_of_le (L' _),List.drop_eq_nil_of_le (),List.take_nil]
theorem Dc:1<=sizeLine:=by decide
theorem LK(xs:List Int)(k:Nat)(v:Int)(h:k<xs.length):xs.take k++([v]++xs.drop (k+1))=xs.set k v:=by
 rw[List.set_eq_take_append_cons_drop,if_pos h];rfl
theorem yK{nt:NT}(h:cut.length≠nt.ms.length):¬eL nt r cut:=λz=>h z.len
theorem E3{nt:NT}{k:Nat}{v:Int}(c:k<cut.length)(h:v<0\/((r.mm k).fe.length:Nat)<=v):¬eL nt r (cut.set k v):=λz=>by
 have e:(cut.set k v).getD k 0=v:=by rw[aah,aa1 c];rfl
 have c:k<nt.ms.length:=by have:=z.len;rw[List.length_set]at this;lia
 have a:=z.pos k c;have b:=z.top k c;rw[e]at a b;lia
abbrev jQ:Stmt:=top 94
inductive LL(vs:List V)(H:Hp)(Q:VK):Prop
 |mk (F:Addr->Prop) (d:Addr) (tn:V) (nt:NT) (r:RS) (ad:Nat->Nat->Addr) (t:Addr) (cut:List Int) (j:Int) (h0:vs=[.ref d,.ref t,.int j]) (h1:cT F H d tn nt r ad) (h2:H t=some (.tup (cut.map V.int))) (h3:eL nt r cut) (q:∀b cu H',au H H'->H' b=some (.tup (cu.map V.int))->¬eL nt r cu->Q (.ref b) H'):LL vs H Q
def E4:Sp:=λvs H Q _=>LL vs H Q
theorem vW(D:cE K mg "_law_bad_cut" "_law_bad_cut" jQ eh)(T:Tx K mg C CN CR F FD):Def P w K mg base "_law_bad_cut" 1 eh E4:=by
 exists["_law_run","_law_cut","_law_cell","_law_m","_law_far"];let(F,d,I,J,r,ad,t,cut,j,rfl,L,v,hC,q):=h;have I:=hr.units;refine(_,(ai (bf (i:=3) sc rfl Sort (aR cK (aR gR (aq 2) aj) (bc aO rfl T.bS U' (ag (aq 1) aa))))
  (ai (bf (i:=4) sc rfl Sort (aR cK (aR gR (aq 2) aj) (aR mZ aj aj)))
  (ai (aT (aC (aU I) (aR cK (aq 2) aj) aj (aJ _)) (ak (aG (aR kC (lQ (aq 1) fK (dM (aq 3))) (lQ (aq 1) (dM (aR cp (aq 3) aj)) fK)))) aH)
  (ai (aT (aC (aU I) (aR cK (aq 2) aj) aj (aJ _)) (ak (aG (aR kC (aR kC (lQ (aq 1) fK (dM (aq 3))) (bu (ag aj aa))) (lQ (aq 1) (dM (aq 3)) fK)))) aH)
  (ai (aT (aC (aU I) (aR cK (aq 2) aj) aj (aJ _)) (ak (aG (bu aa))) aH)
  (ai (aT (aC (aU I) (aR cK (aq 2) aj) aj (aJ _)) (ak (aG (aR kC (aR kC (lQ (aq 1) fK (dM (aq 3))) (bu (ag (aR cp (bc aO rfl T.bS U' (ag (ao I (ao I (aq 0) aI) (aq 3)) aa)) (aq 4)) aa))) (lQ (aq 1) (dM (aR cp (aq 3) aj)) fK)))) aH)
  (ak (aG (aR kC (aR kC (lQ (aq 1) fK (dM (aq 3))) (bu (ag (aR fw (lH iB aj) (aq 4)) aa))) (lQ (aq 1) (dM (aR cp (aq 3) aj)) fK)))))))))),?_)
 let(T,hd,nF,nP,I):=L.dk;have l1:=(I 1 ∅ ∅).1;have T:=L.ok.ms1;have I:=L.ok.PY;have vB:=hC.len;walk_at "xg";right;refine((∅,⋯),_,.inr (_,bP.of v,rfl),by rw[T'];lia,?_);refine L2.aP h1 ?_;clear h1;obtain⟨k,hk,Z8⟩:∃k:Nat,j/5%(((cut.map V.int).length:Nat):Int)=k/\k<J.ms.length:=by
  rw[T',vB];have a:=aaK (j/5) (show((J.ms.length:Nat):Int)≠0 by lia);have b:=aaL (j/5) (show(0:Int)<((J.ms.length:Nat):Int) by lia);exact((j/5%((J.ms.length:Nat):Int)).toNat,(),())
 rw[hk];clear hk;walk_at "xg";right;have S:(0:Int)<10^Int.toNat 59:=by decide
 calc((∅,⋯),(∅,∅,∅),S,?_);obtain⟨o,hf,I⟩:∃o:Int,j/25%10^Int.toNat 59=o/\0<=o:=(_,rfl,aaK _ (Int.ne_of_gt S))
 rw[hf];clear hf S;refine L2.aP h1 ?_;clear h1;walk_at "xg";refine L2.ei λU W p u=>?_;right;refine(∅,?_);by_cases X:j%5=0
 ·rw[aal X];rw[if_pos rfl];calc L2.aP p ?_;right;calc(_,_,rfl,v,λY z e c=>?_);rw[sU,<-List.map_take]at c;calc(_,_,rfl,e _ _ v,λl Z g m=>?_);rw[show((k:Nat):Int)+1=((k+1:Nat):Int) by lia,ng,<-List.map_drop]at m;calc(_,_,_,_,rfl,rfl,g _ _ c,m,by rw[aaw];simp;lia,λR G3 x n=>?_);rw[<-W']at n;exact q R _ _ (e.trans (g.trans x)) n (yK (by rw[aat,aaT,List.length_drop];lia))
 rw[aam X];rw[if_neg ∅];refine L2.aP u ?_;show N1 _ _;refine L2.aP h1 ?_;clear h1 p u X;walk_at "xg";refine L2.ei λU W p u=>?_;right;refine(∅,?_);by_cases c:j%5=1
 ·rw[aal c];rw[if_pos rfl];calc L2.aP p ?_;right;calc(_,_,rfl,v,λY z e c=>?_);rw[sU,<-List.map_take]at c;calc(Dc,λl M=>?_);have g:=au.new (.tup [.int (0)]) M;have m:upd z l (.tup [.int (0)]) l=some (.tup (([0]:List Int).map V.int)):=af;generalize upd z l (.tup [.int (0)])=Z at *;calc(_,_,_,_,rfl,rfl,g _ _ c,m,by rw[aaw];simp;lia,λR G3 x n=>?_);calc(_,_,rfl,(e.trans (g.trans x)) _ _ v,λb4 G4 B G=>?_);rw[ng,<-List.map_drop]at G;calc(_,_,_,_,rfl,rfl,B _ _ n,G,by rw[aaw];simp;lia,λN G5 O y=>?_);rw[<-W',<-W']at y;exact q N _ _ (e.trans (g.trans (x.trans (B.trans O)))) y (yK (by rw[aat,aat,aaT,List.length_drop,List.length_singleton];lia))
 rw[aam c];rw[if_neg ∅];refine L2.aP u ?_;show N1 _ _;refine L2.aP h1 ?_;clear h1 p u c;walk_at "xg";refine L2.ei λU W p u=>?_;right;refine(∅,?_);by_cases m:j%5=2
 ·rw[aal m];rw[if_pos rfl];calc L2.aP p ?_;right;calc(∅,λb I=>?_);exact q b [] _ (au.new _ I) af (yK (by show(0:Nat)≠_;lia))
 rw[aam m];rw[if_neg ∅];refine L2.aP u ?_;show N1 _ _;refine L2.aP h1 ?_;clear h1 p u m;walk_at "xg";refine L2.ei λU W p u=>?_;right;refine(∅,?_);by_cases n:j%5=3
 ·rw[aal n];rw[if_pos rfl];calc L2.aP p ?_;right;calc(_,_,rfl,v,λY z e c=>?_);rw[sU,<-List.map_take] at c;let(j,I,J):=L.cW.lst (t:=1) (i:=k) Z8 rfl;have t:j.length=(r.mm k).fe.length:=by simpa using J.1
  calc(_,AR (e _ _ hd),bG (e _ _ l1) (bo Z8) (_,.inl (_,aY.of (e _ _ I),rfl),?_));rw[t];calc(Dc,λl M=>?_);have g:=au.new (.tup [.int (((r.mm k).fe.length:Nat)+o)]) M;have m:upd z l (.tup [.int (((r.mm k).fe.length:Nat)+o)]) l=some (.tup (([((r.mm k).fe.length:Nat)+o]:List Int).map V.int)):=af;generalize upd z l (.tup [.int (((r.mm k).fe.length:Nat)+o)])=Z at *;calc(_,_,_,_,rfl,rfl,g _ _ c,m,by rw[aaw];simp;lia,λR G3 x n=>?_);calc(_,_,rfl,(e.trans (g.trans x)) _ _ v,λb4 G4 B G=>?_);rw[show((k:Nat):Int)+1=((k+1:Nat):Int) by lia,ng,<-List.map_drop]at G;calc(_,_,_,_,rfl,rfl,B _ _ n,G,by rw[aaw];simp;lia,λN G5 O y=>?_);rw[<-W',<-W']at y;rw[List.append_assoc,LK _ _ _ ()]at y;exact q N _ _ (e.trans (g.trans (x.trans (B.trans O)))) y (E3 () (.inr ()))
 rw[aam n];rw[if_neg ∅];calc L2.aP u ?_;show N1 _ _;calc L2.aP h1 ?_;clear h1 p u n;right;calc(_,_,rfl,v,λY z e c=>?_);rw[sU,<-List.map_take]at c;calc(Dc,λl M=>?_);have g:=au.new (.tup [.int (-1-o)]) M;have m:upd z l (.tup [.int (-1-o)]) l=some (.tup (([-1-o]:List Int).map V.int)):=af;generalize upd z l (.tup [.int (-1-o)])=Z at *;calc(_,_,_,_,rfl,rfl,g _ _ c,m,by rw[aaw];simp;lia,λR G3 x n=>?_);calc(_,_,rfl,(e.trans (g.trans x)) _ _ v,λb4 G4 B G=>?_);rw[show((k:Nat):Int)+1=((k+1:Nat):Int) by lia,ng,<-List.map_drop]at G;calc(_,_,_,_,rfl,rfl,B _ _ n,G,by rw[aaw];simp;lia,λN G5 O y=>?_);rw[<-W',<-W']at y;rw[List.append_assoc,LK _ _ _ ()]at y;calc q N _ _ (e.trans (g.trans (x.trans (B.trans O)))) y (E3 () (.inl ()))
abbrev iU:Stmt:=top 95
inductive E5(vs:List V)(H:Hp)(Q:VK):Prop
 |mk (F:Addr->Prop) (d:Addr) (tn:V) (nt:NT) (r:RS) (ad:Nat->Nat->Addr) (j:Int) (h0:vs=[.ref d,.int j]) (h1:cT F H d tn nt r ad) (q:∀a (m cc:Int) H',au H H'->H' a=some (.tup [.int m,.int cc])->¬CP nt r m cc->Q (.ref a) H'):E5 vs H Q
def A0:Sp:=λvs H Q _=>E5 vs H Q
theorem uW(D:cE K mg "_law_no_event" "_law_no_event" iU g0)(T:Tx K mg C CN CR F FD):Def P w K mg base "_law_no_event" 1 g0 A0:=by
 exists["_law_run","_law_cell","_law_m","_law_far","_law_some"];let(F,d,v,c,r,ad,j,rfl,x,q):=h;have v:=hr.units;refine(_,(ai (bf (i:=2) sc rfl Sort (aR cK (aR gR (aq 1) aj) (bc aO rfl T.bS U' (ag (ao v (aq 0) aI) aa))))
  (ai (bf (i:=3) sc rfl Sort (aR cK (aR gR (aq 1) aj) (aR mZ aj aj)))
  (ai (bf (i:=4) sc rfl Sort (bE (ag (bu (ag (aq 2) (ag aj aa))) (ag (bu (ag (aq 2) (ag (aR cp (bc aO rfl T.bS U' (ag (ao v (ao v (aq 0) aI) (aq 2)) aa)) (aq 3)) aa))) (ag (bu (ag (aR cp (bc aO rfl T.bS U' (ag (ao v (aq 0) aI) aa)) (aq 3)) (ag aj aa))) (ag (bu (ag (aR fw (lH iB aj) (aq 3)) (ag aj aa))) aa))))))
  (ak (aG (ao v (aq 4) (aR cK (aq 1) aj))))))),?_)
 let(T,I,nF,nP,v):=x.dk;have J:=(v 1 ∅ ∅).1;have T:=x.ok.ms1;walk_at "xg";right;refine((∅,⋯),_,AR I,_,.inl (_,aY.of J,rfl),?_);rw[ma,show c.n 1=c.ms.length from rfl];refine((),?_);refine L2.aP h1 ?_;clear h1;obtain⟨k,M,N⟩:∃k:Nat,j/4%((c.ms.length:Nat):Int)=k/\k<c.ms.length:=by
  have a:=aaK (j/4) (show((c.ms.length:Nat):Int)≠0 by lia);have b:=aaL (j/4) (show(0:Int)<((c.ms.length:Nat):Int) by lia);exact((j/4%((c.ms.length:Nat):Int)).toNat,(),())
 rw[M];clear M;walk_at "xg";right;have v:(0:Int)<10^Int.toNat 59:=by decide
 calc((∅,⋯),(∅,∅,∅),v,?_);obtain⟨e,M,T⟩:∃e:Int,j/20%10^Int.toNat 59=e/\0<=e:=(_,rfl,aaK _ (Int.ne_of_gt v))
 rw[M];clear M v;calc L2.aP h1 ?_;clear h1;let(T,w1,d1):=x.cW.lst (t:=1) (i:=k) N rfl;have z1:T.length=(r.mm k).fe.length:=by simpa using d1.1
 walk_at "xg";right;refine(cy,λg O=>?_);have u:=au.new (.tup [.int (k:Nat),.int 0]) O;have e0:upd H g (.tup [.int (k:Nat),.int 0]) g=some (.tup [.int (k:Nat),.int 0]):=af;generalize upd H g (.tup [.int (k:Nat),.int 0])=H0 at *;refine(_,AR (u _ _ I),bG (u _ _ J) (bo N) (_,.inl (_,aY.of (u _ _ w1),rfl),?_));rw[z1];refine(cy,λl R=>?_);have y:=au.new (.tup [.int (k:Nat),.int (((r.mm k).fe.length:Nat)+e)]) R;have e1:upd H0 l (.tup [.int (k:Nat),.int (((r.mm k).fe.length:Nat)+e)]) l=some (.tup [.int (k:Nat),.int (((r.mm k).fe.length:Nat)+e)]):=af;generalize upd H0 l (.tup [.int (k:Nat),.int (((r.mm k).fe.length:Nat)+e)])=H1 at *;refine(_,AR (y _ _ (u _ _ I)),_,.inl (_,aY.of (y _ _ (u _ _ J)),rfl),?_);rw[ma,show c.n 1=c.ms.length from rfl];refine(cy,λo S=>?_);have U:=au.new (.tup [.int ((c.ms.length:Nat)+e),.int 1]) S;have e2:upd H1 o (.tup [.int ((c.ms.length:Nat)+e),.int 1]) o=some (.tup [.int ((c.ms.length:Nat)+e),.int 1]):=af;generalize upd H1 o (.tup [.int ((c.ms.length:Nat)+e),.int 1])=H2 at *;refine(cy,λp W=>?_);have X:=au.new (.tup [.int (-1-e),.int 1]) W;have e3:upd H2 p (.tup [.int (-1-e),.int 1]) p=some (.tup [.int (-1-e),.int 1]):=af;generalize upd H2 p (.tup [.int (-1-e),.int 1])=Y at *;refine(∅,λL Z=>?_);have s4:=au.new (.lst [.ref g,.ref l,.ref o,.ref p]) Z;have B:upd Y L (.lst [.ref g,.ref l,.ref o,.ref p]) L=some (.lst [.ref g,.ref l,.ref o,.ref p]):=af;generalize upd Y L (.lst [.ref g,.ref l,.ref o,.ref p])=G at *;have x:=X.trans s4;have I:=U.trans x;have J:=y.trans I;have q:=λa m e=>q a m e G (u.trans J);refine L2.aP h1 ?_;clear O R S W Z u y U X h1;right;refine(∅,?_);obtain⟨i,L,v⟩:∃i:Nat,j%4=i/\i<4:=((j%4).toNat,(),())
 rw[L];have k:∀m e:Int,(0<=m->m<(c.ms.length:Nat)->1<=e->e<((r.mm m.toNat).fe.length:Nat)->False)->¬CP c r m e:=λm e h z=>h z.1 z.2.1 z.2.2.1 z.2.2.2
 match i,v with
 |0,_=>calc bG B (aA (j:=0) rfl) (q g _ _ (J _ _ e0) (k _ _ ()))
 |1,_=>calc bG B (aA (j:=1) rfl) (q l _ _ (I _ _ e1) (k _ _ (by rw[aav];lia)))
 |2,_=>calc bG B (aA (j:=2) rfl) (q o _ _ (x _ _ e2) (k _ _ ()))
 |3,_=>calc bG B (aA (j:=3) rfl) (q p _ _ (s4 _ _ e3) (k _ _ ()))
abbrev mD:Stmt:=top 96
inductive LM(C CN CR:Addr)(c:Nat->Addr)(vs:List V)(H:Hp)(E:XK):Prop
 |mk (F:Addr->Prop) (x aZ:Addr) (nt:NT) (r:RS) (ad:Nat->Nat->Addr) (t b:Addr) (cut:List Int) (dr:Int) (h0:vs=[.int dr,.ref x,.ref t,.ref b]) (h1:bR C CN CR F H x aZ nt r ad) (h2:r.Ok nt) (h3:r.Iv nt) (h4:r.Pk nt) (h5:r.picks.length<=40) (h6:H t=some (.tup (cut.map V.int))) (h7:0<=dr) (ha:dr<7->∃cu:List Int,H b=some (.tup (cu.map V.int))/\¬eL nt r cu/\(∀a H',au H H'->H' a=some (XO a (c 6) none false)->E (.ref a) none H')) (he:¬dr<7->∃m cc:Int,H b=some (.tup [.int m,.int cc])/\¬CP nt r m cc/\(∀a H',au H H'->H' a=some (XO a (c 7) none false)->E (.ref a) none H')):LM C CN CR c vs H E
def E6(C CN CR:Addr)(c:Nat->Addr):Sp:=λvs H _ E=>LM C CN CR c vs H E
theorem A7(D:cE K mg "_law_asked" "_law_asked" mD bh)(T:Tx K mg C CN CR F FD)(TX:B6 K mg B c)(M:DefX P w K mg base "greater_cut" 7 c7 (yz C CN CR c))(Z:DefX P w K mg base "least_cut_with" 7 de (yD C CN CR c))(N:DefX P w K mg base "lesser_cut" 7 c7 (yA C CN CR c))(fQ:DefX P w K mg base "lying_at" 7 cx (yx C CN CR c))(cM:DefX P w K mg base "orphans_of" 7 cx (sR C CN CR c))(iV:DefX P w K mg base "parts_of_cut" 8 cx (EL C CN CR c)):DefX P w K mg base "_law_asked" 9 bh (E6 C CN CR c):=by
 have sc:aD bh bh (ay mD):=by walk_at "s"
 walk_at "xh"
 ·let(F,x,l,n,r,ad,t,b,cut,u,rfl,o,p,I,J,L,G,q,v,O):=h;rfl
 ·let(F,x,l,n,r,ad,t,b,cut,u,rfl,o,p,I,J,L,G,q,v,O):=h;have q:=hr.units;refine(_,(ai (aT (aC (aU q) (aq 0) aj (aJ _)) (ak (aG (di cM dF hr (ag (aq 1) (ag (aq 3) aa))))) aH)
   (ai (aT (aC (aU q) (aq 0) aj (aJ _)) (ak (aG (di iV dF hr (ag (aq 1) (ag (aq 3) aa))))) aH)
   (ai (aT (aC (aU q) (aq 0) aj (aJ _)) (ak (aG (di fQ dF hr (ag (aq 1) (ag (aq 3) aa))))) aH)
   (ai (aT (aC (aU q) (aq 0) aj (aJ _)) (ak (aG (di M dF hr (ag (aq 1) (ag (aq 3) (ag (aq 2) aa)))))) aH)
   (ai (aT (aC (aU q) (aq 0) aj (aJ _)) (ak (aG (di M dF hr (ag (aq 1) (ag (aq 2) (ag (aq 3) aa)))))) aH)
   (ai (aT (aC (aU q) (aq 0) aj (aJ _)) (ak (aG (di N dF hr (ag (aq 1) (ag (aq 3) (ag (aq 2) aa)))))) aH)
   (ai (aT (aC (aU q) (aq 0) aj (aJ _)) (ak (aG (di N dF hr (ag (aq 1) (ag (aq 2) (ag (aq 3) aa)))))) aH)
   (ak (aG (di Z dF hr (ag (aq 1) (ag (ao q (aq 3) aj) (ag (ao q (aq 3) aj) aa))))))))))))),?_)
  walk_at "xg";refine L2.ei λy z a d=>?_;right;by_cases R:u=0
  ·rw[aal R];rw[if_pos rfl];calc L2.aP a ?_;let(k,e,g,i):=v ();right;exact(F,x,l,n,r,ad,b,k,rfl,o,p,I,J,L,e,λh=>absurd h g,λ_=>i)
  rw[aam R];rw[if_neg ∅];refine L2.aP d ?_;show N1 _ _;refine L2.aP h1 ?_;clear h1 a d;walk_at "xg";refine L2.ei λy z a d=>?_;right;by_cases S:u=1
  ·rw[aal S];rw[if_pos rfl];calc L2.aP a ?_;let(k,e,g,i):=v ();right;exact(F,x,l,n,r,ad,b,k,rfl,o,p,I,J,L,e,g,i)
  rw[aam S];rw[if_neg ∅];refine L2.aP d ?_;show N1 _ _;refine L2.aP h1 ?_;clear h1 a d;walk_at "xg";refine L2.ei λy z a d=>?_;right;by_cases U:u=2
  ·rw[aal U];rw[if_pos rfl];calc L2.aP a ?_;let(k,e,g,i):=v ();right;exact(F,x,l,n,r,ad,b,k,rfl,o,p,I,(),e,λh=>absurd h g,λ_=>i)
  rw[aam U];rw[if_neg ∅];refine L2.aP d ?_;show N1 _ _;refine L2.aP h1 ?_;clear h1 a d;walk_at "xg";refine L2.ei λy z a d=>?_;right;by_cases W:u=3
  ·rw[aal W];rw[if_pos rfl];calc L2.aP a ?_;let(k,e,g,i):=v ();right;exact(F,x,l,n,r,ad,b,t,k,cut,rfl,o,p,e,G,λh=>absurd h g,λ_=>i)
  rw[aam W];rw[if_neg ∅];refine L2.aP d ?_;show N1 _ _;refine L2.aP h1 ?_;clear h1 a d;walk_at "xg";refine L2.ei λy z a d=>?_;right;by_cases X:u=4
  ·rw[aal X];rw[if_pos rfl];calc L2.aP a ?_;let(k,e,g,i):=v ();right;exact(F,x,l,n,r,ad,t,b,cut,k,rfl,o,p,G,e,λ_ h=>absurd h g,λ_=>i)
  rw[aam X];rw[if_neg ∅];refine L2.aP d ?_;show N1 _ _;refine L2.aP h1 ?_;clear h1 a d;walk_at "xg";refine L2.ei λy z a d=>?_;right;by_cases Y:u=5
  ·rw[aal Y];rw[if_pos rfl];calc L2.aP a ?_;let(k,e,g,i):=v ();right;exact(F,x,l,n,r,ad,b,t,k,cut,rfl,o,p,e,G,λh=>absurd h g,λ_=>i)
  rw[aam Y];rw[if_neg ∅];refine L2.aP d ?_;show N1 _ _;refine L2.aP h1 ?_;clear h1 a d;walk_at "xg";refine L2.ei λy z a d=>?_;right;by_cases q:u=6
  ·rw[aal q];rw[if_pos rfl];calc L2.aP a ?_;let(k,e,g,i):=v ();right;exact(F,x,l,n,r,ad,t,b,cut,k,rfl,o,p,G,e,λ_ h=>absurd h g,λ_=>i)
  rw[aam q];rw[if_neg ∅];calc L2.aP d ?_;show N1 _ _;calc L2.aP h1 ?_;clear h1 a d;let(m,k,e,g,i):=O ();right;calc eF e (aA (j:=0) rfl) ?_;calc eF e (aA (j:=1) rfl) ?_;calc(F,x,l,n,r,ad,m,k,rfl,o,p,g,i)
abbrev oP:Stmt:=top 97
inductive LN(C CN CR:Addr)(vs:List V)(H:Hp)(Q:VK):Prop
 |mk (F:Addr->Prop) (x aZ:Addr) (nt:NT) (r:RS) (ad:Nat->Nat->Addr) (t b:Addr) (cut:List Int) (dr:Int) (h0:vs=[.int dr,.ref x,.ref t,.ref b]) (h1:bR C CN CR F H x aZ nt r ad) (h2:r.Ok nt) (h3:r.Iv nt) (h4:r.Pk nt) (h5:r.picks.length<=40) (h6:H t=some (.tup (cut.map V.int))) (h7:0<=dr) (ha:dr<7->∃cu:List Int,H b=some (.tup (cu.map V.int))/\¬eL nt r cu) (he:¬dr<7->∃m cc:Int,H b=some (.tup [.int m,.int cc])/\¬CP nt r m cc) (q:∀a H',au H H'->H' a=some (.lst [.bl (decide (dr<7)),.bl (!decide (dr<7))])->Q (.ref a) H'):LN C CN CR vs H Q
def E8(C CN CR:Addr):Sp:=λvs H Q _=>LN C CN CR vs H Q
theorem Dd(D:cE K mg "_law_sort" "_law_sort" oP bh)(T:Tx K mg C CN CR F FD)(d:B6 K mg B c)(mE:DefX P w K mg base "_law_asked" 9 bh (E6 C CN CR c)):Def P w K mg base "_law_sort" 10 bh (E8 C CN CR):=by
 exists["_law_door","_law_told","_law_cut","_law_bad","e","_law_some","_law_more"];let(F,x,aZ,nt,r,ad,t,b,cut,X,rfl,hR,cF,hI,hP,nv,ht,ph,ha,he,q):=h;have hu:=hr.units;refine(_,(ai (N4 (i:=4) rfl rfl sc rfl rfl rfl d.uc (F9 d.xb) (JF (SI mE hr (ag (aq 0) (ag (aq 1) (ag (aq 2) (ag (aq 3) aa)))))) (λa=>
  (ai (bf (i:=5) sc rfl Sort (bc (tZ (K:=K) rfl) rfl T.bg vZ (ag (aq 4) (ag (bu (ag (cJ (v:=.ref (c 1)) rfl d.wG rfl) (ag (cJ (v:=.ref (c 0)) rfl d.pO rfl) (ag (cJ (v:=.ref (c 3)) rfl d.zK rfl) (ag (cJ (v:=.ref (c 13)) rfl d.JI rfl) (ag (cJ (v:=.ref (c 18)) rfl d.zP rfl) (ag (cJ (v:=.ref (c 4)) rfl d.t9 rfl) (ag (cJ (v:=.ref (c 10)) rfl d.zL rfl) (ag (cJ (v:=.ref (c 11)) rfl d.rN rfl) (ag (cJ (v:=.ref (c 15)) rfl d.zN rfl) (ag (cJ (v:=.ref (c 17)) rfl d.zO rfl) aa))))))))))) aa))))
  (ai (bf (i:=6) sc rfl Sort (bc (tZ (K:=K) rfl) rfl T.bg vZ (ag (aq 4) (ag (bu (ag (cJ (v:=.ref (c 16)) rfl d.DX rfl) (ag (cJ (v:=.ref (c 2)) rfl d.zJ rfl) (ag (cJ (v:=.ref (c 5)) rfl d.ua rfl) (ag (cJ (v:=.ref (c 14)) rfl d.pP rfl) (ag (cJ (v:=.ref (c 12)) rfl d.zM rfl) (ag (cJ (v:=.ref (c 8)) rfl d.ub rfl) (ag (cJ (v:=.ref (c 9)) rfl d.wJ rfl) aa)))))))) aa))))
  (ai (aT (PW.pt (pw_or (bC (aq 5)) (pw_or (bC (aq 6)) (pw_or1 (cB (bC (bc (qr (K:=K) rfl) rfl T.bg vZ (ag (aq 4) (ag (dD (v:=.ty "ValueError") rfl T.pT NU rfl) aa))))))))) (ak (aG (bE aa))) aH)
  (ak (aG (bE (ag (bc (qr (K:=K) rfl) rfl T.bg vZ (ag (aq 4) (ag (cJ (v:=.ref (c 6)) rfl d.wH rfl) aa))) (ag (bc (qr (K:=K) rfl) rfl T.bg vZ (ag (aq 4) (ag (cJ (v:=.ref (c 7)) rfl d.wI rfl) aa))) aa))))))))))
  (ak (aG (bE aa)))),?_)
 calc L2.fJ λT h2=>?_;calc N5 λEE u=>?_;generalize W:decide (X<7)=b1 at q;generalize Ks:(!b1)=b2 at q;have Y:b1=true->b2=false->∀(g:Addr) (H2:Hp),au H H2->H2 g=some (XO g (c 6) none false)->EE (.ref g) none H2:=λy G g H2 I k=>by
  subst y G;refine u g (c 6) none H2 k (d.cl 6 ()) ?_
  try dsimp only[List.set]
  calc L2.fJ λM j=>?_;right;calc(by show 10<=sizeLine;decide,λl Z=>?_);have N:=au.new (.tup [.ref (c 1),.ref (c 0),.ref (c 3),.ref (c 13),.ref (c 18),.ref (c 4),.ref (c 10),.ref (c 11),.ref (c 15),.ref (c 17)]) Z;have J:upd H2 l (.tup [.ref (c 1),.ref (c 0),.ref (c 3),.ref (c 13),.ref (c 18),.ref (c 4),.ref (c 10),.ref (c 11),.ref (c 15),.ref (c 17)]) l=some (.tup [.ref (c 1),.ref (c 0),.ref (c 3),.ref (c 13),.ref (c 18),.ref (c 4),.ref (c 10),.ref (c 11),.ref (c 15),.ref (c 17)]):=af;have O:=N _ _ k;generalize upd H2 l (.tup [.ref (c 1),.ref (c 0),.ref (c 3),.ref (c 13),.ref (c 18),.ref (c 4),.ref (c 10),.ref (c 11),.ref (c 15),.ref (c 17)])=R at *;calc(g,c 6,B,none,l,[1,0,3,13,18,4,10,11,15,17].map c,false,false,rfl,O,(λn z=>nomatch z),d.cl 6 (),J,(pQ d () _ ∅).trans ∅,?_);calc L2.aP j ?_;clear j;calc L2.fJ λM j=>?_;right;calc(by show 7<=sizeLine;decide,λo vm=>?_);have S:=au.new (.tup [.ref (c 16),.ref (c 2),.ref (c 5),.ref (c 14),.ref (c 12),.ref (c 8),.ref (c 9)]) vm;have L:upd R o (.tup [.ref (c 16),.ref (c 2),.ref (c 5),.ref (c 14),.ref (c 12),.ref (c 8),.ref (c 9)]) o=some (.tup [.ref (c 16),.ref (c 2),.ref (c 5),.ref (c 14),.ref (c 12),.ref (c 8),.ref (c 9)]):=af;have p:=S _ _ O;generalize upd R o (.tup [.ref (c 16),.ref (c 2),.ref (c 5),.ref (c 14),.ref (c 12),.ref (c 8),.ref (c 9)])=H4 at *;calc(g,c 6,B,none,o,[16,2,5,14,12,8,9].map c,false,false,rfl,p,(λn z=>nomatch z),d.cl 6 (),L,(pQ d () _ ∅).trans ∅,?_);calc L2.aP j ?_;clear j;calc L2.fJ λM j=>?_;right
  try first|rw[if_neg S']|skip
  try rw[if_neg ∅]
  try rw[if_neg ∅]
  refine(g,c 6,B,none,.ty "ValueError",true,false,rfl,p,(λn z=>nomatch z),d.cl 6 (),.inr (_,rfl),JO d (),?_);refine ly ?_;rw[if_neg ∅];refine L2.aP j ?_;clear j;right;refine(g,c 6,B,none,.ref (c 6),true,false,rfl,p,(λn z=>nomatch z),d.cl 6 (),.inl rfl,(ud d () ∅).trans ∅,?_);refine(g,c 6,B,none,.ref (c 7),false,false,rfl,p,(λn z=>nomatch z),d.cl 6 (),.inl rfl,(ud d () ∅).trans ∅,?_);refine(cy,λpl nN=>?_);exact q _ _ (I.trans (N.trans (S.trans (au.new _ nN)))) af
 have afA:b1=false->b2=true->∀(g:Addr) (H2:Hp),au H H2->H2 g=some (XO g (c 7) none false)->EE (.ref g) none H2:=λy G g H2 I k=>by
  subst y G;refine u g (c 7) none H2 k (d.cl 7 ()) ?_
  try dsimp only[List.set]
  calc L2.fJ λM j=>?_;right;calc(by show 10<=sizeLine;decide,λl Z=>?_);have N:=au.new (.tup [.ref (c 1),.ref (c 0),.ref (c 3),.ref (c 13),.ref (c 18),.ref (c 4),.ref (c 10),.ref (c 11),.ref (c 15),.ref (c 17)]) Z;have J:upd H2 l (.tup [.ref (c 1),.ref (c 0),.ref (c 3),.ref (c 13),.ref (c 18),.ref (c 4),.ref (c 10),.ref (c 11),.ref (c 15),.ref (c 17)]) l=some (.tup [.ref (c 1),.ref (c 0),.ref (c 3),.ref (c 13),.ref (c 18),.ref (c 4),.ref (c 10),.ref (c 11),.ref (c 15),.ref (c 17)]):=af;have O:=N _ _ k;generalize upd H2 l (.tup [.ref (c 1),.ref (c 0),.ref (c 3),.ref (c 13),.ref (c 18),.ref (c 4),.ref (c 10),.ref (c 11),.ref (c 15),.ref (c 17)])=R at *;calc(g,c 7,B,none,l,[1,0,3,13,18,4,10,11,15,17].map c,false,false,rfl,O,(λn z=>nomatch z),d.cl 7 (),J,(pQ d () _ ∅).trans ∅,?_);calc L2.aP j ?_;clear j;calc L2.fJ λM j=>?_;right;calc(by show 7<=sizeLine;decide,λo vm=>?_);have S:=au.new (.tup [.ref (c 16),.ref (c 2),.ref (c 5),.ref (c 14),.ref (c 12),.ref (c 8),.ref (c 9)]) vm;have L:upd R o (.tup [.ref (c 16),.ref (c 2),.ref (c 5),.ref (c 14),.ref (c 12),.ref (c 8),.ref (c 9)]) o=some (.tup [.ref (c 16),.ref (c 2),.ref (c 5),.ref (c 14),.ref (c 12),.ref (c 8),.ref (c 9)]):=af;have p:=S _ _ O;generalize upd R o (.tup [.ref (c 16),.ref (c 2),.ref (c 5),.ref (c 14),.ref (c 12),.ref (c 8),.ref (c 9)])=H4 at *;calc(g,c 7,B,none,o,[16,2,5,14,12,8,9].map c,false,false,rfl,p,(λn z=>nomatch z),d.cl 7 (),L,(pQ d () _ ∅).trans ∅,?_);calc L2.aP j ?_;clear j;calc L2.fJ λM j=>?_;right
  try first|rw[if_neg S']|skip
  try rw[if_neg ∅]
  try rw[if_neg ∅]
  refine(g,c 7,B,none,.ty "ValueError",true,false,rfl,p,(λn z=>nomatch z),d.cl 7 (),.inr (_,rfl),JO d (),?_);refine ly ?_;rw[if_neg ∅];refine L2.aP j ?_;clear j;right;refine(g,c 7,B,none,.ref (c 6),false,false,rfl,p,(λn z=>nomatch z),d.cl 7 (),.inl rfl,(ud d () ∅).trans ∅,?_);refine(g,c 7,B,none,.ref (c 7),true,false,rfl,p,(λn z=>nomatch z),d.cl 7 (),.inl rfl,(ud d () ∅).trans ∅,?_);refine(cy,λpl nN=>?_);exact q _ _ (I.trans (N.trans (S.trans (au.new _ nN)))) af
 clear h2 u;right;refine(F,x,aZ,nt,r,ad,t,b,cut,X,rfl,hR,cF,hI,hP,nv,ht,ph,λU=>?_,λU=>?_)
 ·let(cu,e,no):=ha U;rw[aal U]at W;subst W;exact(cu,e,no,λg H2 I k=>Y rfl (by rw[<-Ks];rfl) g H2 I k)
 ·let(m,cc,e,no):=he U;rw[aam U]at W;subst W;calc(m,cc,e,no,λg H2 I k=>afA rfl (by rw[<-Ks];rfl) g H2 I k)
theorem of_map{α:Type}{f:α->V}{a:List α}:∀(xs:List V),(∀x∈xs,x∈a.map f)->∃us:List α,xs=us.map f/\∀u∈us,u∈a
 | [],_=>([],rfl,λu h=>by simp at h)
 |x::xs,h=>by
  let(us,e,b):=of_map xs λy c=>h y (aak _ c);let(t,d,rfl):=List.mem_map.mp (h x aas);exact⟨t::us,by rw[e];rfl,λu g=>by
   rcases List.mem_cons.mp g with rfl|a
   ·exact d
   ·calc b u a⟩
theorem ints_of{xs:List V}(h:∀x∈xs,x∈ns.map V.int):∃us:List Int,xs=us.map V.int:=let ⟨us,e,_⟩:=of_map xs h;(us,e)
theorem O9 {vs:List V}(h:fN H 4 vs (ps.map pairD)):fV H 1 vs (ps.map pairD):=(h.1,λi u e b a=>by
 have c:=h.2 i u e b a;rw[J'] at a;let(p,_,rfl):=Option.map_eq_some_iff.mp a;calc KO (e:=some p) c)
theorem A8{n:Nat->Nat}{t i:Nat}(h:i<n t):(lj n ad t)[i]?=some (.ref (ad t i)):=by simp[lj,h]
theorem kh.same{bs:List Addr}(h:kh H r bs f)(s:au H H'):kh H' r bs f:=λi b e=>let ⟨ys,a,y⟩:=h i b e;(ys,s _ _ a,y.aL s.aQ)
theorem A9{K:W.Frag}{k:Nat}{xs:List V}{c:List DV}(e:H a=some (.lst xs))(g:H b=some (.lst ys))(x:fV H 1 xs c)(y:fV H 1 ys c):gS K H (k+3) (.ref a) (.ref b):=by
 calc .inr (a,b,xs,ys,rfl,rfl,.inr (aY.of e,aY.of g),x.1.trans y.1.symm,λi u v d j=>?_);have e:i<c.length:=by rw[<-x.1];exact(List.getElem?_eq_some_iff.mp d).1
 calc NS (x.2 i u _ d (dH e)) (y.2 i v _ j (dH e)) ()
theorem He{K:W.Frag}{k:Nat}{l:Addr}{bs cs:List Addr}(j:H l=some (.lst (bs.map V.ref)))(o:H m=some (.lst (cs.map V.ref)))(n:bs.length=cs.length)(h:kh H r bs f)(g:kh H r cs f):gS K H (k+4) (.ref l) (.ref m):=by
 calc .inr (l,m,_,_,rfl,rfl,.inr (aY.of j,aY.of o),by rw[T',T',n],λi u v a d=>?_);rw[J']at a d;let(b,p,rfl):=Option.map_eq_some_iff.mp a;let(c,q,rfl):=Option.map_eq_some_iff.mp d;let(ys,e,y):=h i b p;let(d,a,z):=g i c q;calc A9 (k:=k) e a y z
theorem LO{K:W.Frag}{H:Hp}{k:Nat}{a b c d p q:Addr}(j:H p=some (.tup [.ref a,.ref b]))(l:H q=some (.tup [.ref c,.ref d]))(h:gS K H k (.ref a) (.ref c))(g:gS K H k (.ref b) (.ref d)):gS K H (k+1) (.ref p) (.ref q):=by
 refine .inr (p,q,_,_,rfl,rfl,.inl (bP.of j,bP.of l),rfl,λi u v e f=>?_)
 match i with
 |0=>cases e;cases f;calc h
 |1=>cases e;cases f;calc g
 |i+2=>simp at e
theorem Ba{K:W.Frag}{H:Hp}{k:Nat}{a b:Addr}{x y:Bool}(e:H a=some (.lst [.bl x,.bl y]))(f:H b=some (.lst [.bl x,.bl y])):gS K H (k+2) (.ref a) (.ref b):=by
 calc .inr (a,b,_,_,rfl,rfl,.inr (aY.of e,aY.of f),rfl,λi u v c d=>?_);rw[c]at d
 cases d
 match i with
 |0=>cases c;calc .inl (rfl,rfl)
 |1=>cases c;calc .inl (rfl,rfl)
 |i+2=>simp at c
theorem Bb{K:W.Frag}{k:Nat}{xs:List Int}(e:H a=some (.tup (xs.map V.int)))(f:H b=some (.tup (xs.map V.int))):gS K H (k+2) (.ref a) (.ref b):=by
 calc .inr (a,b,_,_,rfl,rfl,.inl (bP.of e,bP.of f),rfl,λi u v c d=>?_);rw[c]at d
 cases d;rw[J']at c;let(j,_,rfl):=Option.map_eq_some_iff.mp c;calc .inl (rfl,rfl)
theorem uX{f:Int->Int->Int}(h:∀x,f x x=x):∀l:List Int,List.zipWith f l l=l
 | []=>rfl
 |x::l=>by rw[List.zipWith_cons_cons,h,uX h l]
abbrev xn:Stmt:=top 98
def yL(K:W.Frag):Sp:=λvs H Q _=>∃(a:Addr) (ns:List Int),vs=[.ref a]/\aY K H a (ns.map V.int)/\ns.length<=63/\∀H',Q (.bl true) H'
theorem UR{f:Addr}{l:FuncData}(D:IE K "law" "law" xn f l)(T:Tx K mg C CN CR F FD)(fI:Def P w K mg base "_law_at" 1 ef (Ki K))(jR:Def P w K mg base "_law_bad_cut" 1 eh E4)(aN:Def P w K mg base "_law_digit" 1 ah iG)(q5:Def P w K mg base "_law_net" 5 eu (ET K))(iW:Def P w K mg base "_law_net_made" 9 ek (xm C CN))(iX:Def P w K mg base "_law_no_event" 1 g0 A0)(fX:Def P w K mg base "_law_pot" 1 ["_law_cell"] Cg)(q8:Def P w K mg base "_law_ran" 4 eD E2)(kS:Def P w K mg base "_law_sort" 10 bh (E8 C CN CR))(dI:DefX P w K mg base "greater_cut" 7 c7 (yz C CN CR c))(eE:DefX P w K mg base "lesser_cut" 7 c7 (yA C CN CR c))(fQ:DefX P w K mg base "lying_at" 7 cx (yx C CN CR c))(cM:DefX P w K mg base "orphans_of" 7 cx (sR C CN CR c))(kT:Def P w K mg base "played_run" 7 ["net","schedule"] (EZ C CN CR)):ku P w K mg base FJ 11 f l eu (yL K):=by
 have sc:aD ["_law_script","_law_net_here","_law_run","_law_told","_law_pot_here","_law_cut","_law_ahead","_law_cell","_law_door"] eu (ay xn):=by walk_at "s"
 refine D.ok sc (λvs H Q E h=>?_) (λfY A outer s H vs Q E hr h=>?_)
 ·let(a,ns,rfl,hS,h63,q):=h;rfl
 ·let(a,ns,rfl,hS,h63,q):=h;have l:=hr.units;refine(_,(ai (bf (i:=1) sc.nd rfl Sort (aM q5 hr (ag (aq 0) aa)))
   (ai (bf (i:=2) sc.nd rfl Sort (aM q8 hr (ag (aq 1) (ag (JQ (aq 0) (dM aj) (dM aj)) aa))))
   (ai (bf (i:=3) sc.nd rfl Sort (aM kT hr (ag (aM iW hr (ag (aq 1) aa)) (ag (dA cQ rfl T.ft Bd (ag (ao l (aq 2) aI) aa)) aa))))
   (ai (bf (i:=4) sc.nd rfl Sort (aM fX hr (ag (aM fI hr (ag (aq 0) (ag aj aa))) aa)))
   (ai (bf (i:=5) sc.nd rfl Sort (dA bX rfl T.cn su (ag (df (N':=["_law_states","_law_pot_here"]) (ix:=[none,some 4]) (bZ (ao l (aq 2) aI)) (λ_ _ _ _=>(ba (i:=0) (show(["_law_states","_law_pot_here"]:List Str).Nodup by decide +kernel) rfl Sort)) nL (λ_ _ _ _=>(aM aN hr (ag (aq 1) (ag (bc (nR (K:=K) rfl) rfl T.bS U' (ag (aq 0) aa)) aa))))) aa)))
   (ai (bf (i:=6) sc.nd rfl Sort (bu (ag (di cM wU hr (ag (aq 3) (ag (aq 5) aa))) (ag (di fQ wU hr (ag (aq 3) (ag (aq 5) aa))) aa))))
   (ai (fB PassesOwn.never rfl (bZ (aR cp (bE (ag (aM fI hr (ag (aq 0) (ag aj aa))) aa)) (JQ (aq 0) (dM aj) (dM aj)))) (ba (i:=7) sc.nd rfl Sort)
   (ai (fB PassesOwn.never rfl (c8 rfl T.fb (ag aj aa)) (ba (i:=8) sc.nd rfl Sort)
   (ak (aT (aC (fL l) (aM kS hr (ag (aq 8) (ag (aq 3) (ag (aq 5) (ag (aM jR hr (ag (aq 2) (ag (aq 5) (ag (aq 7) aa)))) aa))))) (bE (ag ij (ag ij aa))) (aJ _)) (ak (aG ij)) aH)))
   (ak (aT (aC (fL l) (aM kS hr (ag aj (ag (aq 3) (ag (aq 5) (ag (aM iX hr (ag (aq 2) (ag (aq 7) aa))) aa))))) (bE (ag ij (ag ij aa))) (aJ _)) (ak (aG ij)) aH))))
   (ai (aT (PW.pt (pw_or (aC (fL l) (di dI wU hr (ag (aq 3) (ag (aq 5) (ag (aq 5) aa)))) (aq 5) (aJ _)) (pw_or1 (aC (fL l) (di eE wU hr (ag (aq 3) (ag (aq 5) (ag (aq 5) aa)))) (aq 5) (aJ _))))) (ak (aG ij)) aH)
   (ak (aG (kr (aU l) (bu (ag (di cM wU hr (ag (aq 3) (ag (aq 5) aa))) (ag (di fQ wU hr (ag (aq 3) (ag (aq 5) aa))) aa))) (aq 6) (aJ _)))))))))))),?_)
  walk_at "xg";left;refine(a,ns,rfl,hS,h63,λt am aw al mv wv lv ir ws ls H1 s1 g1 g2 l T g5 g6 g7 g=>?_);have Wb:ToldN H1 (.ref t) ir ws ls:=(t,am,aw,al,mv,wv,lv,rfl,g1,g2,l,T,g5,g6,g7)
  clear g1 g2 l T g5 g6 g7;obtain⟨d,U⟩:∃d:NT,d=(ir,ws):=(_,rfl)
  have Y2:∀l∈ls,0<=l.1/\l.1<d.ws.length:=λl hl=>by rw[U];exact((g.lo l hl).1,(g.lo l hl).2.1)
  have MQ:d.Ok:=by rw[U];exact g.nt
  generalize V.ref t=v at *;have Wc:=s1.seq hS;refine L2.aP h1 ?_;clear h1;walk_at "xg";left;refine(_,Wc,λlc hlc=>?_);let(xs,l):=ints_of (ns:=ns) λx (T:x∈dE (ns.map V.int) (some 9) (some 49))=>D7 T;have Vt:xs.length<=40:=by
   have:=D0 (xs:=ns.map V.int) (i:=9) (j:=49);rw[show dE (ns.map V.int) (some ((9:Nat):Int)) (some ((49:Nat):Int))=xs.map V.int from l,T']at this;exact this
  have s2:=au.new (.lst (dE (ns.map V.int) (some 9) (some 49))) hlc;have elc:upd H1 lc (.lst (dE (ns.map V.int) (some 9) (some 49))) lc=some (.lst (xs.map V.int)):=by rw[<-l];exact af
  generalize Kn:upd H1 lc (.lst (dE (ns.map V.int) (some 9) (some 49)))=H2 at *;refine(λ_=>False,v,d,ls,lc,xs,rfl,?_,λb hb=>hb.elim,MQ,g.l20,Y2,elc,(),λd0 b0 I H3 s3 l T kR hI Pa=>?_)
  ·rw[U];exact Wb.cv λb o e n'=>by rw[iD (λz=>z)];exact s2 _ _ e
  refine L2.aP h1 ?_;clear h1 hlc elc Kn hS;have N:=s2.trans s3;have sq3:=N.seq Wc;have aaa:ToldN H3 v ir ws ls:=Wb.cv N.cv;clear s2 s3 l T Wc Wb N s1;have W:=hI.pk;have l:=hI.ps;walk_at "xg";left;refine(v,ir,ws,ls,rfl,aaa,g,λn ms wv lv H4 s4 UO Z4 Z5=>?_);rw[<-U]at UO;let(l,Zp,_,_,ho1):=kR.dk;let(v1,e1,l):=kR.cW.lst (t:=0) (i:=0) (by show 0<1;decide) rfl;have Yc:=O9 (l.cv fC);have T:v1.length=I.picks.length:=by simpa using l.1
  clear l;refine(_,Zm (s4 _ _ Zp),_,.inl (aY.of (s4 _ _ e1)),λl2 vk=>?_);have r9:=au.new (.lst v1) vk;have Ot:upd H4 l2 (.lst v1) l2=some (.lst v1):=af;have aab:=Yc.aL (s4.trans r9).aQ;have aac:=s4.trans r9;generalize upd H4 l2 (.lst v1)=GD at *;refine(λ_=>False,n,l2,d,ls,ms,wv,lv,v1,I.picks,rfl,UO.fr (Z:=λ_=>False) r9.fr,Z4.fr (Z:=λ_=>False) r9.fr,Z5.aL r9.aQ,g.l20,Y2,Ot,aab,(),λb hb=>hb.elim,hI.can,λx ax Ow s11 _ fx B=>?_);rw[<-hI.pl]at B;refine L2.aP h1 ?_;have US:=aac.trans s11;have LP:=kR.same US;have UT:=US.seq sq3;clear h1 UO Z4 Z5 ho1 Zp Yc e1 vk Ot aab aac r9 s11 fx s4 aaa kR sq3 US;walk_at "xg";left;refine(a,ns,8,rfl,UT,∅,λc=>?_);refine(c,rfl,λp zs GH DN=>?_);have s0:=au.new (.lst (zs.map V.int)) GH;have hp:fT (upd Ow p (.lst (zs.map V.int))) p:=(zs,af,DN)
  generalize upd Ow p (.lst (zs.map V.int))=H at *;calc L2.aP h1 ?_;clear h1 DN;walk_at "xg";have q0:=q;have q:∀(t:Addr) (cut:List Int) (H':Hp),Step p H H'->H' t=some (.tup (cut.map V.int))->eL d I cut->N1 [some (V.ref a),some v,some (V.ref d0),some (V.ref x),some (V.ref p),some (V.ref t),none,none,none] H':=λt cut g st r X=>by
   refine L2.aP h1 ?_;have g:=st.over s0 GH;have hT:=LP.same g;have B:=B.same g;have sq:=g.seq UT;clear h1 st s0 GH hp LP UT g;have S:=hI.ok;have Wd:=hI.iv;walk_at "xg";left;refine(λ_=>False,x,n,d,I,ax,t,cut,rfl,B,S,Wd,W,Pa,r,λ_ lo l g ME _ Y Pb=>?_,λL=>absurd X L);refine(λ_=>False,x,n,d,I,ax,t,cut,rfl,B.same ME,S,Wd,(),ME _ _ r,λ_ ll g V4 s15 _ _ yV VY ju=>?_,λL=>absurd X L);refine(cy,λla hla=>?_);have Ll:=au.new (.tup [.ref lo,.ref ll]) hla;have O4:upd V4 la (.tup [.ref lo,.ref ll]) la=some (.tup [.ref lo,.ref ll]):=af;have Y:=Ll _ _ (s15 _ _ Y);have Pb:=Pb.aL (s15.trans Ll).aQ;have yV:=Ll _ _ yV;have ju:=kh.same ju Ll;have ss:=ME.trans (s15.trans Ll);generalize upd V4 la (.tup [.ref lo,.ref ll])=QL at *;have hT:=hT.same ss;have B:=B.same ss;have sq:=ss.seq sq;have r:=ss _ _ r;refine L2.aP h1 ?_;clear h1 ME s15 Ll hla ss;walk_at "xg";refine(a,ns,8,rfl,sq,∅,λO=>?_);refine(by show 1<=sizeLine;decide,λp1 Gf=>?_);have s1:=au.new (.lst [.int O]) Gf;have ep1:upd QL p1 (.lst [.int O]) p1=some (.lst [.int O]):=af;have Wc:=s1.seq sq;generalize upd QL p1 (.lst [.int O])=G1 at *;refine(_,rfl,_,rfl,_,Wc,λp2 vm=>?_);have s2:=au.new (.lst (dE (ns.map V.int) (some 9) (some 15))) vm;have ep2:upd G1 p2 (.lst (dE (ns.map V.int) (some 9) (some 15))) p2=some (.lst (dE (ns.map V.int) (some 9) (some 15))):=af;have vB:(dE (ns.map V.int) (some 9) (some 15)).length<=6:=D0 (i:=9) (j:=15);have hci:∀c∈dE (ns.map V.int) (some 9) (some 15),∃z,c=.int z:=λc hc=>by
    let(z,_,rfl):=List.mem_map.mp (D7 hc);exact(z,rfl)
   generalize upd G1 p2 (.lst (dE (ns.map V.int) (some 9) (some 15)))=G2 at *;generalize dE (ns.map V.int) (some 9) (some 15)=u at *;calc .inl ([.int O],u,s2 _ _ ep1,ep2,by rw[aaw];simp;lia,λp3 UA=>?_);have s3:=au.new (.lst ([V.int O]++u)) UA;have ep3:upd G2 p3 (.lst ([V.int O]++u)) p3=some (.lst ([V.int O]++u)):=af;have hc3:∀c ∈ [V.int O]++u,∃z,c=.int z:=λc hc=>by
    rcases List.mem_cons.mp hc with rfl|hc
    ·exact(_,rfl)
    ·exact hci c hc
   generalize upd G2 p3 (.lst ([V.int O]++u))=G3 at *;generalize [V.int O]++u=es at *;have N:=s1.trans (s2.trans s3);have hT:=hT.same N;have B:=B.same N;have r:=N _ _ r;have Y:=N _ _ Y;have Pb:=Pb.aL N.aQ;have yV:=N _ _ yV;have O4:=N _ _ O4;have ju:=kh.same ju N;clear s1 s2 s3 N ep1 ep2 Gf vm UA hci vB sq Wc;have st0:∀(σ:St) (G:Hp),True:=λ_ _=>trivial;refine .inl ((_,aY.of ep3),gQ (K:=K) (xs:=es) (λi σ H'=>(∃z7 z8,σ=[some (V.ref a),some v,some (V.ref d0),some (V.ref x),some (V.ref p),some (V.ref t),some (V.ref la),z7,z8])/\au G3 H') ?_ ?_ ?_ ?_)
   ·exact((_,_,rfl),au.refl _)
   ·rintro i σ H' hi ⟨_,s⟩;exact aY.of (s _ _ ep3)
   ·rintro i c σ H' hc ⟨⟨z7,z8,rfl⟩,s⟩;let(z,rfl):=hc3 c (aao hc);clear h1;show Bu _ _ _ _ _;calc L2.fJ λg h2=>?_;refine(7,rfl,∅,∅,j6 (n:=7) (λk σ g=>(∃z8,σ=[some (V.ref a),some v,some (V.ref d0),some (V.ref x),some (V.ref p),some (V.ref t),some (V.ref la),some (V.int z),z8])/\au G3 g) ?_ ?_ ?_)
    ·exact((_,rfl),s)
    ·rintro k σ G4 hk ⟨⟨z8,rfl⟩,s⟩;clear h2;rw[Int.zero_add];show y6 _ _ _ _ _ _;calc L2.ei λT1 U1 Vw Om=>?_;left;calc(λ_=>False,d0,v,d,I,b0,t,cut,z,rfl,hT.same s,s _ _ r,X,λbb g G5 u5 ebb L=>?_);have M:=s.trans u5;calc(λ_=>False,x,n,d,I,ax,t,bb,cut,(k:Nat),rfl,B.same M,S,Wd,W,Pa,M _ _ r,(),λ_=>(g,ebb,L),λh=>absurd (show((k:Nat):Int)<7 by lia) h,λrs G6 u6 QU=>?_);rw[show decide (((k:Nat):Int)<7)=true from aal ()]at QU;calc(cy,λp4 nv=>?_);have u7:=au.new (.lst [.bl true,.bl false]) nv;have e4:upd G6 p4 (.lst [.bl true,.bl false]) p4=some (.lst [.bl true,.bl false]):=af;have QU:=u7 _ _ QU;generalize upd G6 p4 (.lst [.bl true,.bl false])=G7 at *;calc .inl (Ba (k:=18) QU e4,?_);calc ly ?_;rw[if_neg ∅];calc L2.aP Om ?_;exact((_,rfl),M.trans (u6.trans u7))
    rintro σ G4 ⟨⟨z8,rfl⟩,s⟩;calc L2.aP h2 ?_;clear h2;show y6 _ _ _ _ _ _;calc L2.ei λT1 U1 Vw Om=>?_;left;calc(λ_=>False,d0,v,d,I,b0,z,rfl,hT.same s,λbb m g G5 u5 ebb L=>?_);have M:=s.trans u5;calc(λ_=>False,x,n,d,I,ax,t,bb,cut,7,rfl,B.same M,S,Wd,W,Pa,M _ _ r,∅,λh=>absurd h ∅,λ_=>(m,g,ebb,L),λrs G6 u6 QU=>?_);calc(cy,λp4 nv=>?_);have u7:=au.new (.lst [.bl false,.bl true]) nv;have e4:upd G6 p4 (.lst [.bl false,.bl true]) p4=some (.lst [.bl false,.bl true]):=af;have QU:=u7 _ _ QU;generalize upd G6 p4 (.lst [.bl false,.bl true])=G7 at *;calc .inl (Ba (k:=18) QU e4,?_);calc ly ?_;rw[if_neg ∅];calc L2.aP Om ?_;exact((_,_,rfl),M.trans (u6.trans u7))
   rintro σ G4 ⟨⟨z7,z8,rfl⟩,s⟩;refine L2.aP h1 ?_;clear h1;have B:=B.same s;have r:=s _ _ r;have Y:=s _ _ Y;have Pb:=Pb.aL s.aQ;have yV:=s _ _ yV;have O4:=s _ _ O4;have ju:=kh.same ju s;clear s ep3 hc3 hT st0;walk_at "xg";refine L2.ei λT1 U1 Vw Om=>?_;left;refine(λ_=>False,x,n,d,I,ax,t,t,cut,cut,rfl,B,S,r,r,λ_ _ g1 G5 M e1=>?_,λL=>absurd (X,X) L);rw[uX (λx=>by lia)]at e1;refine .inl (Bb (k:=18) e1 (M _ _ r),?_);refine ly ?_;rw[if_neg ∅];refine(λ_=>False,x,n,d,I,ax,t,t,cut,cut,rfl,B.same M,S,M _ _ r,M _ _ r,λ_ _ g2 G6 l N=>?_,λL=>absurd (X,X) L);rw[uX (λx=>by lia)]at N;refine .inl (Bb (k:=18) N (l _ _ (M _ _ r)),?_);refine ly ?_;rw[if_neg ∅];refine L2.aP Om ?_;show N1 _ _;refine L2.aP h1 ?_;have g:=M.trans l;clear h1 Vw Om;left;refine(λ_=>False,x,n,d,I,ax,t,cut,rfl,B.same g,S,Wd,W,Pa,g _ _ r,λ_ l7 z7 G7 l _ el7 Ss=>?_,λL=>absurd X L);refine(λ_=>False,x,n,d,I,ax,t,cut,rfl,B.same (g.trans l),S,Wd,(),l _ _ (g _ _ r),λ_ l8 N G8 M _ _ el8 hb8 hr8=>?_,λL=>absurd X L);refine(cy,λp9 r=>?_);have x:=au.new (.tup [.ref l7,.ref l8]) r;have e9:upd G8 p9 (.tup [.ref l7,.ref l8]) p9=some (.tup [.ref l7,.ref l8]):=af;have r:=M.trans x;have R:=g.trans (l.trans r);have el7:=r _ _ el7;have Ss:=Ss.aL r.aQ;have el8:=x _ _ el8;have hr8:=kh.same hr8 x;have Y:=R _ _ Y;have Pb:=Pb.aL R.aQ;have yV:=R _ _ yV;have O4:=R _ _ O4;have ju:=kh.same ju R;generalize upd G8 p9 (.tup [.ref l7,.ref l8])=G9 at *;refine .inl (LO (k:=19) e9 O4 (A9 (k:=16) el7 Y Ss Pb) (He (k:=15) el8 yV (hb8.trans VY.symm) hr8 ju),?_);exact q0 _
  clear h1;let(g,k,r,x,l):=LP.dk;have l1:=(l 1 ∅ ∅).1;have S:=LP.ok;have l:=S.PY;left;calc bI ?_;left;calc bJ _ (AR (s0 _ _ k)) ?_;left;calc .inl ((_,aY.of (s0 _ _ l1)),λD hD=>?_);have nDp:D≠p:=Step.ne hp hD;refine bq (J:=v9 K (g 1)) (n:=d.ms.length) (λi ys G=>Step p H G/\∃u:List Int,ys=u.map V.int/\u.length=i/\∀j,j<i->0<=u.getD j 0/\u.getD j 0<((I.mm j).fe.length:Nat)) (M' (aE ())) ((Step.refl hp).new hD,[],rfl,rfl,λj hj=>absurd hj (aa9 _)) ?_ ?_ ?_ ?_
  ·rintro i ys G hi ⟨st,_⟩;exact(_,_,aY.of (st.over s0 GH _ _ l1),A8 (show i<d.n 1 from hi))
  ·rintro ys G ⟨st,_⟩;exact(_,aY.of (st.over s0 GH _ _ l1),Nat.le_of_eq ma)
  ·intro i ys G hi bA hl jf xx G2 jh;nofun;let(st,u,rfl,vB,hcb):=jf;let(rfl,y):=jh;have sG:=st.over s0 GH;have ex:=y _ (aY.of (sG _ _ l1));rw[A8 (show i < d.n 1 from hi)] at ex;obtain rfl:=Option.some.inj ex;let(v1,e1,d):=(LP.same sG).cW.lst (t:=1) (i:=i) hi rfl;ac_rfl;have z1:v1.length=(I.mm i).fe.length:=by simpa using d.1
   have d:=hI.ok.lh i hi;have d:=hI.ok.bp i hi;walk_at "xf";left;refine bJ _ (.inl (_,aY.of e1,rfl)) ?_;rw[z1];refine nj p _ rfl st.gv () (EM () ()) (λg G3 ph Zp d=>?_)
   try rw[if_pos trivial]
   have k:=d.rest _ _ bA nDp;calc bW k hl hi (M' (aE ())) (((st.trans d).gv.upd (Ne.symm nDp),λc o e n=>by rw[az (av e hD)];calc(st.trans d).rest c o e n),u++[g],by rw[W'];rfl,by simp[vB],λj hj=>?_);rw[aah];by_cases d:j<u.length
   ·rw[aad d,<-aah];exact hcb j ()
   ·obtain rfl:j=i:=by lia
    rw[X' (),show j-u.length=0 by lia];exact(ph,Zp)
  intro ys G bA CM qE;let(st,u,rfl,vB,hcb):=qE;calc .inl (_,aY.of bA,λg i=>?_);calc q g u _ (st.new i) af (vB,λm d=>(hcb m d).1,λm d=>(hcb m d).2)
end
end Ht
namespace Ht
open PySem L2 DD
variable {p0 p1:Str}{K:W.Frag}
structure jj(K:W.Frag)(B C:Addr)(x:Str):Prop where
 ax:W.nsIn K mainGlobals x=some (some (.ref C))
 ob:∃nm q N bs sn sub ab col dd k0 k1 k2 k3 k5,K.lookup C=some (excClassObj nm q C N bs (.ref B::tL) true sn sub ab col dd k0 k1 k2 k3 k5 "ValueError.__new__")
 ga:W.findIn K (.ref C) "__getattribute__"=some (some (.builtin "BaseException.__getattribute__"))
 gt:W.findIn K (.ref C) "__getattr__"=some none
 sa:W.findIn K (.ref C) "__setattr__"=some (some (.builtin "object.__setattr__"))
 cl:W.findIn K (.ref C) "__class__"=some (some (.builtin "object.__class__"))
 kp:W.keepIn K (.ref C)=true
theorem aae{B C:Addr}{x c q:Str}{N:Addr}{bs a:List Value}{d:List Str}{e:Bool}{b:Option Bool}{f:Option Addr}{g h i j k:Option Value}(l:W.nsIn K mainGlobals x=some (some (.ref C)))(m:K.lookup C=some (excClassObj c q C N bs (.ref B::tL) true d a e b f g h i j k "ValueError.__new__"))
  (a:W.findIn K (.ref C) "__getattribute__"=some (some (.builtin "BaseException.__getattribute__"))) (b:W.findIn K (.ref C) "__getattr__"=some none) (c:W.findIn K (.ref C) "__setattr__"=some (some (.builtin "object.__setattr__"))) (d:W.findIn K (.ref C) "__class__"=some (some (.builtin "object.__class__"))) (e:W.keepIn K (.ref C)=true):jj K B C x:=
 (l,(_,_,_,_,_,_,_,_,_,_,_,_,_,_,m),a,b,c,d,e)
theorem jj.cls{B C:Addr}{x:Str}(h:jj K B C x)(a:W.specialIn K (.builtin "object.__class__") "__get__"=some (some (.builtin "getset_descriptor.__get__")))(ct:W.takesIn K (.builtin "object.__class__")=some true):kx K C B:=
 (h.ob,h.ga,h.gt,h.sa,h.cl,a,ct,h.kp)
def FnAt(K:W.Frag)(f:Addr)(x q:Str)(a:Stmt):Prop:=∃od c d e kV g h b ct,K.lookup f=some (e,od,.func (W.fnOf x q (eZ a) (cP a) (ay a) .none kV g h c b ct),d)/\W.codeIn K b q=true/\W.keepIn K (.ref f)=true
def DF(K:W.Frag)(x:Str)(a:Stmt):Prop:=∃f,W.nsIn K mainGlobals x=some (some (.ref f))/\FnAt K f x x a
def MF(K:W.Frag)(C:Addr)(m q:Str)(a:Stmt):Prop:=∃f,W.findIn K (.ref C) m=some (some (.ref f))/\W.isFn K (.ref f)=true/\FnAt K f m q a
def QV(x q:Str)(a:Stmt)(c:List Str):Prop:=∀(kV b d:Value) (e:Option Addr) (f ct:Value) (us:List Value),us.length=c.length->bindArgs (W.fnOf x q (eZ a) (cP a) (ay a) .none kV b d e f ct) (us,[])=pure (c.zip us)
section
variable {K:W.Frag}{h:Heap}{mg:Str->Option Value}{x m q:Str}{C f:Addr}{st:Stmt}{ps:List Str}{od an:Option Addr}{sl:Array (Option Value)}{oc kV dc pm cd ct:Value}
theorem QW(a:W.nsIn K mainGlobals x=some (some (.ref f)))(l:K.lookup f=some (oc,od,.func (W.fnOf x x (eZ st) (cP st) (ay st) .none kV dc pm an cd ct),sl))(c:W.codeIn K cd x=true)(k:W.keepIn K (.ref f)=true):DF K x st:=(f,a,_,_,_,_,_,_,_,_,_,l,c,k)
theorem QX(a:W.findIn K (.ref C) m=some (some (.ref f)))(i:W.isFn K (.ref f)=true)(l:K.lookup f=some (oc,od,.func (W.fnOf m q (eZ st) (cP st) (ay st) .none kV dc pm an cd ct),sl))(c:W.codeIn K cd q=true)(k:W.keepIn K (.ref f)=true):MF K C m q st:=(f,a,i,_,_,_,_,_,_,_,_,_,l,c,k)
theorem aS(X:K.In h)(G:h.Ns mainGlobals mg)(d:DF K x st)(b:QV x x st ps):cE K mg x x st ps:=by
 let(f,a,_,_,_,_,_,_,_,_,_,l,c,k):=d;calc(_,_,nQ l c k,W.mg_of X G a,(nQ l c k).binds b)
theorem cG(d:MF K C m q st)(b:QV m q st ps):gY K C m q st ps:=by
 let(f,a,i,_,_,_,_,_,_,_,_,_,l,c,k):=d;calc(_,_,(a,i,k),nQ l c k,(nQ l c k).binds b)
theorem yM(X:K.In h)(G:h.Ns mainGlobals mg)(e:W.makesIn K C=true)(g:W.keepIn K (.ref C)=true)(d:MF K C "__init__" q st)(j:W.nsIn K mainGlobals x=some (some (.ref C)))(b:QV "__init__" q st ps):FW K mg x C q st ps:=by
 let(f,a,i,_,_,_,_,_,_,_,_,_,l,c,k):=d;calc((_,_,(e,a,i,g),nQ l c k,(nQ l c k).binds b),W.mg_of X G j)
theorem oQ{us:List Value}{n:Nat}(h:us.length=n+1):∃x r,us=x::r/\r.length=n:=by
 cases us with
 |nil=>cases h
 |cons x r=>calc(x,r,rfl,Nat.succ.inj h)
theorem ny(e:∀(kV a pm:Value) (an:Option Addr) (c ct b:Value),bindArgs (W.fnOf x q (eZ st) (cP st) (ay st) .none kV a pm an c ct) ([b],[])=pure ([p0].zip [b])):QV x q st [p0]:=λkV a pm an c ct g d=>by
 let(b,h,rfl,f):=oQ d
 cases List.length_eq_zero_iff.mp f;calc e ..
theorem gr(e:∀(kV a pm:Value) (an:Option Addr) (d ct b c:Value),bindArgs (W.fnOf x q (eZ st) (cP st) (ay st) .none kV a pm an d ct) ([b,c],[])=pure ([p0,p1].zip [b,c])):QV x q st [p0,p1]:=λkV a pm an d ct i f=>by
 let(b,j,rfl,g):=oQ f;let(c,k,rfl,h):=oQ g
 cases List.length_eq_zero_iff.mp h;calc e ..
theorem mF{f:Str}(e:∀(kV a pm:Value) (an:Option Addr) (g ct b c d:Value),bindArgs (W.fnOf x q (eZ st) (cP st) (ay st) .none kV a pm an g ct) ([b,c,d],[])=pure ([p0,p1,f].zip [b,c,d])):QV x q st [p0,p1,f]:=λkV a pm an g ct f h=>by
 let(b,l,rfl,i):=oQ h;let(c,m,rfl,j):=oQ i;let(d,n,rfl,k):=oQ j
 cases List.length_eq_zero_iff.mp k;calc e ..
theorem p8{g h:Str}(e:∀(kV a pm:Value) (an:Option Addr) (i ct b c d f:Value),bindArgs (W.fnOf x q (eZ st) (cP st) (ay st) .none kV a pm an i ct) ([b,c,d,f],[])=pure ([p0,p1,g,h].zip [b,c,d,f])):QV x q st [p0,p1,g,h]:=λkV a pm an i ct g j=>by
 let(b,o,rfl,k):=oQ j;let(c,p,rfl,l):=oQ k;let(d,r,rfl,m):=oQ l;let(f,s,rfl,n):=oQ m
 cases List.length_eq_zero_iff.mp n;calc e ..
theorem UU{h i j:Str}(e:∀(kV a pm:Value) (an:Option Addr) (k ct b c d f g:Value),bindArgs (W.fnOf x q (eZ st) (cP st) (ay st) .none kV a pm an k ct) ([b,c,d,f,g],[])=pure ([p0,p1,h,i,j].zip [b,c,d,f,g])):QV x q st [p0,p1,h,i,j]:=λkV a pm an k ct h l=>by
 let(b,s,rfl,m):=oQ l;let(c,t,rfl,n):=oQ m;let(d,u,rfl,o):=oQ n;let(f,v,rfl,p):=oQ o;let(g,w,rfl,r):=oQ p
 cases List.length_eq_zero_iff.mp r;calc e ..
end
theorem all_mk{l:W.OpenLaw}{w:World}{h:Heap}{U:Str->Option Value}{fa C R CR F B k m n o p q r t u x g y z I J L M N O:Addr}(X:K.In h)(G:h.Ns mainGlobals U)(hfa:U "law"=some (.ref fa))
  {cdB:ClassData} (aB:W.nsIn K mainGlobals "NetError"=some (some (.ref B))) (Xy:W.clsIn K B=some cdB) (tyB:W.typeIn K (.ref B)=some (.type "type"))
  {afG q_B:Str} {N_B:Addr} {afH aaf:List Value} {afI:List Str} {afJ:Bool} {aag:Option Bool} {afK:Option Addr} {afL afM afN afO afP:Option Value} (UW:K.lookup B=some (excClassObj afG q_B B N_B afH tL true afI aaf afJ aag afK afL afM afN afO afP "ValueError.__new__")) (Hf:jj K B k "BadMachine") (Pc:jj K B m "BadDeed") (Hg:jj K B n "NoText") (Hh:jj K B o "BadNet") (Pd:jj K B p "NoLetter") (Pe:jj K B q "NotFirst") (Hi:jj K B r "NoCount") (Hk:jj K B t "NoEvent") (Pf:jj K B u "Orphaned") (Hl:jj K B x "TooMany") (Fb:jj K B g "NoLine") (xo:jj K B y "NoMachine") (Fc:jj K B z "NotRow") (xq:jj K B I "Busy") (Fd:jj K B J "NotReached") (xt:jj K B L "NoMark") (xu:jj K B M "NoRow") (xy:jj K B N "NoName") (xA:jj K B O "NoDeed") (gj:W.findIn K (.ref m) "at"=some none) (fF:W.findIn K (.ref p) "at"=some none) (fG:W.findIn K (.ref q) "at"=some none) (dG:W.findIn K (.ref u) "letter"=some none) (fq:W.findIn K (.ref g) "falls"=some none) (eG:W.findIn K (.ref g) "letter"=some none) (gk:W.findIn K (.ref z) "way"=some none) (cN:W.findIn K (.ref J) "machine"=some none) (UX:W.findIn K (.ref k) "__init__"=some (some (.builtin "ValueError.__init__"))) (UY:W.findIn K (.ref n) "__init__"=some (some (.builtin "ValueError.__init__"))) (UZ:W.findIn K (.ref o) "__init__"=some (some (.builtin "ValueError.__init__"))) (U3:W.findIn K (.ref r) "__init__"=some (some (.builtin "ValueError.__init__"))) (U4:W.findIn K (.ref t) "__init__"=some (some (.builtin "ValueError.__init__"))) (U5:W.findIn K (.ref x) "__init__"=some (some (.builtin "ValueError.__init__"))) (LQ:W.findIn K (.ref y) "__init__"=some (some (.builtin "ValueError.__init__"))) (LR:W.findIn K (.ref I) "__init__"=some (some (.builtin "ValueError.__init__"))) (LS:W.findIn K (.ref L) "__init__"=some (some (.builtin "ValueError.__init__"))) (LU:W.findIn K (.ref M) "__init__"=some (some (.builtin "ValueError.__init__"))) (LV:W.findIn K (.ref N) "__init__"=some (some (.builtin "ValueError.__init__"))) (LW:W.findIn K (.ref O) "__init__"=some (some (.builtin "ValueError.__init__"))) (qa:W.nsIn K mainGlobals "Machine"=some (some (.ref C))) (Pg:W.nsIn K mainGlobals "Net"=some (some (.ref R))) (Ph:W.nsIn K mainGlobals "Run"=some (some (.ref CR))) (vg:DF K "_law_at" uq) (jS:DF K "_law_bad_cut" jQ) (mG:DF K "_law_digit" lT) (mH:DF K "_law_value" mn) (oR:DF K "_law_deed" oH) (jT:DF K "_law_machine" jM) (q9:DF K "_law_pot" qx) (rf:DF K "_law_net" qX) (rg:DF K "form_of" qz) (oS:DF K "is_whole" nX) (mI:DF K "is_within" lS) (oU:DF K "is_value" nY) (rj:DF K "is_part" qA) (rm:DF K "is_deed" qB) (iY:DF K "refuse_deeds" iH) (rq:DF K "is_list" qy) (jU:DF K "are_counted" jz) (gI:DF K "refuse_machine" gw) (rz:MF K C "__init__" "Machine.__init__" qI) (mJ:DF K "is_letter" lU) (vh:DF K "is_way" uw) (kU:DF K "refuse_net" kF) (LX:MF K R "__init__" "Net.__init__" Kr) (iZ:DF K "_law_net_made" iT) (i3:DF K "_law_no_event" iU) (mK:DF K "_law_begun" mz) (mL:DF K "_law_lying" mx) (oV:DF K "_law_free" oJ) (mM:DF K "_law_worth" mr) (kW:DF K "_law_worked" kO) (oW:DF K "_law_pick" oK) (rA:DF K "_law_ran" qZ) (i4:MF K R "machines" "Net.machines" iJ) (fR:MF K CR "need_machine" "Run.need_machine" fP) (mN:MF K CR "count" "Run.count" mh) (rB:MF K CR "net" "Run.net" qP) (vi:DF K "is_cut" uP) (oX:DF K "need_cut" oB) (jV:DF K "greater_cut" jL) (kX:DF K "need_event" kM) (oY:DF K "heard_of" oF) (gJ:DF K "least_cut_with" gG) (kY:DF K "lesser_cut" kK) (mO:DF K "is_inside" ml) (i5:MF K CR "need_way" "Run.need_way" iM) (gq:MF K CR "need_letter" "Run.need_letter" gp) (jW:MF K CR "sent_by" "Run.sent_by" jJ) (ic:MF K CR "worked_by" "Run.worked_by" hX) (rC:DF K "lies_at" qT) (oZ:MF K R "ways" "Net.ways" oh) (i8:MF K CR "put_many" "Run.put_many" iN) (o7:MF K CR "said" "Run.said" oz) (o8:DF K "lying_at" oC) (i9:MF K CR "schedule" "Run.schedule" iO) (gK:DF K "letters_passed" gE) (ie:DF K "orphans_among" ia) (kZ:DF K "orphans_of" kJ) (ja:DF K "parts_of_cut" iS) (mP:DF K "_law_asked" mD) (o9:DF K "_law_sort" oP) (gL:DF K "change_numbers" gz) (k6:DF K "change_row" kH) (pb:DF K "left_out" om) (mQ:DF K "values_of" lZ) (jX:DF K "plain_worth" jC) (pd:DF K "worth_of" oj) (gM:MF K C "worked" "Machine.worked" gA) (jY:MF K R "ways_at" "Net.ways_at" jF) (jZ:MF K R "ways_in" "Net.ways_in" jG) (jb:MF K R "ways_out" "Net.ways_out" iL) (ig:MF K CR "need_pick" "Run.need_pick" hJ) (gN:MF K CR "put_letter" "Run.put_letter" gC) (mR:MF K CR "state" "Run.state" mf) (j0:MF K CR "pick_at" "Run.pick_at" jH) (eY:MF K C "first_state" "Machine.first_state" eW) (j3:MF K R "letters" "Net.letters" jB) (LY:MF K CR "__init__" "Run.__init__" KW) (k7:DF K "played_run" kQ) (LZ:DF K "law" xn) (rD:W.plainGet K C Str.empty=true) (rE:W.hasDictIn K C=true) (rF:W.plainOver K C=true) (rG:W.findIn K (.ref C) "__setattr__"=some (some (.builtin "object.__setattr__"))) (rH:W.makesIn K C=true) (rJ:W.keepIn K (.ref C)=true) (Gg:W.findIn K (.ref C) "__class__"=some (some (.builtin "object.__class__"))) (Gh:W.mroIn K C (.type "object")=some true) (Qd:W.findIn K (.ref C) "own_modulus"=some none) (Te:W.findIn K (.ref C) "own_state"=some none) (Qe:W.findIn K (.ref C) "own_deeds"=some none) (L3:W.plainGet K R Str.empty=true) (L4:W.hasDictIn K R=true) (L5:W.plainOver K R=true) (L6:W.findIn K (.ref R) "__setattr__"=some (some (.builtin "object.__setattr__"))) (L7:W.makesIn K R=true) (L8:W.keepIn K (.ref R)=true) (Kc:W.findIn K (.ref R) "__class__"=some (some (.builtin "object.__class__"))) (Ke:W.mroIn K R (.type "object")=some true) (Ab:W.findIn K (.ref R) "own_machines"=some none) (Ac:W.findIn K (.ref R) "own_ways"=some none) (Ce:W.findIn K (.ref R) "own_letters"=some none) (L9:W.plainGet K CR Str.empty=true) (Ma:W.hasDictIn K CR=true) (Mb:W.plainOver K CR=true) (Mc:W.findIn K (.ref CR) "__setattr__"=some (some (.builtin "object.__setattr__"))) (Md:W.makesIn K CR=true) (Me:W.keepIn K (.ref CR)=true) (Kf:W.findIn K (.ref CR) "__class__"=some (some (.builtin "object.__class__"))) (Kg:W.mroIn K CR (.type "object")=some true) (cS:W.findIn K (.ref CR) "own_net"=some none) (cY:W.findIn K (.ref CR) "picks_done"=some none) (cj:W.findIn K (.ref CR) "states_had"=some none) (eC:W.findIn K (.ref CR) "words_had"=some none) (cZ:W.findIn K (.ref CR) "words_said"=some none) (bM:W.findIn K (.ref CR) "letters_say"=some none) (fu:W.findIn K (.ref CR) "senders"=some none) (dw:W.findIn K (.ref CR) "workers"=some none) (a:W.specialIn K (.builtin "object.__class__") "__get__"=some (some (.builtin "getset_descriptor.__get__"))) (b:W.takesIn K (.builtin "object.__class__")=some true)
  (k8:W.nsIn K mainGlobals "isinstance"=some none) (Mf:W.nsIn K mainGlobals "int"=some none) (De:W.nsIn K mainGlobals "bool"=some none) (Mg:W.nsIn K mainGlobals "str"=some none) (yN:W.nsIn K mainGlobals "tuple"=some none) (Df:W.nsIn K mainGlobals "list"=some none) (Mh:W.nsIn K mainGlobals "len"=some none) (yO:W.nsIn K mainGlobals "range"=some none) (Mi:W.nsIn K mainGlobals "min"=some none) (Mj:W.nsIn K mainGlobals "max"=some none) (Ml:W.nsIn K mainGlobals "all"=some none) (Mm:W.nsIn K mainGlobals "any"=some none) (Mn:W.nsIn K mainGlobals "zip"=some none) (mS:W.nsIn K mainGlobals "enumerate"=some none) (k9:W.nsIn K mainGlobals "ValueError"=some none) (vj:W.nsIn K mainGlobals "sorted"=some none) {vX:Tok} (eA:W.nsIn K mainGlobals "MOST_DEEDS"=some (some (.int 24 vX))) {se:Tok} (dR:W.nsIn K mainGlobals "MOST_MODULUS"=some (some (.int 1000000000000 se))) {sj:Tok} (dS:W.nsIn K mainGlobals "MOST_NUMBERS"=some (some (.int 4 sj))) {Bc:Tok} (fO:W.nsIn K mainGlobals "MOST_ROW"=some (some (.int 12 Bc))) {rK:Tok} (dB:W.nsIn K mainGlobals "MOST_MACHINES"=some (some (.int 5 rK))) {yP:Tok} (fS:W.nsIn K mainGlobals "MOST_WAYS"=some (some (.int 10 yP))) {sk:Tok} (dU:W.nsIn K mainGlobals "MOST_LETTERS"=some (some (.int 20 sk))) {vY:Tok} (eB:W.nsIn K mainGlobals "SAID_BOUND"=some (some (.int 1000000000000000000000000000000000000000000000000000000000000 vY)))
  {fh0 fh1 fh2 fh3 fh4 fh5 fh6 fh7:Int} {fk0 fk1 fk2 fk3 fk4 fk5 fk6 fk7:Tok} {Y Z Wg Wh Wi Wj Wk Wl:Addr} {fep:Nat}
  (aF:W.nsIn K mainGlobals "FORMS"=some (some (.ref F))) (lF:K.lookup F=some {cls:=.type "dict",dict:=none,data:=.dict #[(fh0,.str "set" fk0,.ref Y),(fh1,.str "add" fk1,.ref Z),(fh2,.str "times" fk2,.ref Wg),(fh3,.str "put" fk3,.ref Wh),(fh4,.str "drop" fk4,.ref Wi),(fh5,.str "send" fk5,.ref Wj),(fh6,.str "say" fk6,.ref Wk),(fh7,.str "skip" fk7,.ref Wl)] fep,slots:=#[]}) (neF:(F==sysModules)=false) {QY QZ:Tok} {fo0:Option Addr} {fn0:Nat} {fs0:Array (Option Value)} (lP0:K.lookup Y=some (.type "tuple",fo0,.seq #[.str "number" QY,.str "value" QZ] fn0,fs0)) {Q0 Q1:Tok} {fo1:Option Addr} {fn1:Nat} {fs1:Array (Option Value)} (lP1:K.lookup Z=some (.type "tuple",fo1,.seq #[.str "number" Q0,.str "value" Q1] fn1,fs1)) {Q2 Q3:Tok} {fo2:Option Addr} {fn2:Nat} {fs2:Array (Option Value)} (lP2:K.lookup Wg=some (.type "tuple",fo2,.seq #[.str "number" Q2,.str "value" Q3] fn2,fs2)) {Q4:Tok} {fo3:Option Addr} {fn3:Nat} {fs3:Array (Option Value)} (lP3:K.lookup Wh=some (.type "tuple",fo3,.seq #[.str "value" Q4] fn3,fs3)) {fo4:Option Addr} {fn4:Nat} {fs4:Array (Option Value)} (lP4:K.lookup Wi=some (.type "tuple",fo4,.seq #[] fn4,fs4)) {Q5 Q6:Tok} {fo5:Option Addr} {fn5:Nat} {fs5:Array (Option Value)} (lP5:K.lookup Wj=some (.type "tuple",fo5,.seq #[.str "way" Q5,.str "value" Q6] fn5,fs5)) {Q7:Tok} {fo6:Option Addr} {fn6:Nat} {fs6:Array (Option Value)} (lP6:K.lookup Wk=some (.type "tuple",fo6,.seq #[.str "value" Q7] fn6,fs6)) {Q8 Q9 Ra:Tok} {fo7:Option Addr} {fn7:Nat} {fs7:Array (Option Value)} (lP7:K.lookup Wl=some (.type "tuple",fo7,.seq #[.str "value" Q8,.str "value" Q9,.str "many" Ra] fn7,fs7))
  (U6:∀i,i<19->∀j,j<19->([k,m,n,o,p,q,r,t,u,x,g,y,z,I,J,L,M,N,O]:List Addr).getD i 0=([k,m,n,o,p,q,r,t,u,x,g,y,z,I,J,L,M,N,O]:List Addr).getD j 0->i=j) (hnB:∀i,i<19->([k,m,n,o,p,q,r,t,u,x,g,y,z,I,J,L,M,N,O]:List Addr).getD i 0≠B)
  :∃fd:FuncData,(∀(s:Shared) (v:Value),BindsTo s fd ([v],[]) [(("_law_script"),v)])/\∀base:Heap,K.In base->base.Ns mainGlobals U->ku l.prog w K U base FJ 11 fa fd eu (yL K):=by
 have FR:PyProof.Rows.KTD.Rows RelV (#[(fh0,.str "set" fk0,.ref Y),(fh1,.str "add" fk1,.ref Z),(fh2,.str "times" fk2,.ref Wg),(fh3,.str "put" fk3,.ref Wh),(fh4,.str "drop" fk4,.ref Wi),(fh5,.str "send" fk5,.ref Wj),(fh6,.str "say" fk6,.ref Wk),(fh7,.str "skip" fk7,.ref Wl)]:Array DictEntry).toList ([(("set"),V.ref Y),(("add"),V.ref Z),(("times"),V.ref Wg),(("put"),V.ref Wh),(("drop"),V.ref Wi),(("send"),V.ref Wj),(("say"),V.ref Wk),(("skip"),V.ref Wl)]:List (Str×V)):=.cons rfl rfl (.cons rfl rfl (.cons rfl rfl (.cons rfl rfl (.cons rfl rfl (.cons rfl rfl (.cons rfl rfl (.cons rfl rfl (.nil))))))));have T:Tx K U C R CR F ([(("set"),V.ref Y),(("add"),V.ref Z),(("times"),V.ref Wg),(("put"),V.ref Wh),(("drop"),V.ref Wi),(("send"),V.ref Wj),(("say"),V.ref Wk),(("skip"),V.ref Wl)]:List (Str×V)):={
  bg:=aaG X G k8
  J9:=aaG X G Mf
  Ka:=aaG X G De
  Eb:=aaG X G Mg
  cn:=aaG X G yN
  ft:=aaG X G Df
  bS:=aaG X G Mh
  fb:=aaG X G yO
  Qc:=aaG X G Mi
  Kb:=aaG X G Mj
  uk:=aaG X G Ml
  XI:=aaG X G Mm
  zZ:=aaG X G Mn
  dY:=aaG X G mS
  pT:=aaG X G k9
  Aa:=aaG X G vj
  eA:=(_,W.mg_of X G eA)
  dR:=(_,W.mg_of X G dR)
  dS:=(_,W.mg_of X G dS)
  fO:=(_,W.mg_of X G fO)
  dB:=(_,W.mg_of X G dB)
  fS:=(_,W.mg_of X G fS)
  dU:=(_,W.mg_of X G dU)
  eB:=(_,W.mg_of X G eB)
  cR:=(rD,rE,rF,rG)
  wV:=W.mg_of X G qa
  Gg:=Gg
  Gh:=Gh
  Qd:=Qd
  Te:=Te
  Qe:=Qe
  cO:=(L3,L4,L5,L6)
  XJ:=W.mg_of X G Pg
  Kc:=Kc
  Ke:=Ke
  Ab:=Ab
  Ac:=Ac
  Ce:=Ce
  aV:=(L9,Ma,Mb,Mc)
  XM:=W.mg_of X G Ph
  Kf:=Kf
  Kg:=Kg
  cS:=cS
  cY:=cY
  cj:=cj
  eC:=eC
  cZ:=cZ
  bM:=bM
  fu:=fu
  dw:=dw
  eV:=a
  cH:=b
  i_k:=by unfold W.kitOne;rw[if_pos nofun]
  Ec:=W.mg_of X G aF
  Ed:=((_,_,_,lF,(rfl,rfl,rfl),rfl,FR),neF)
  Qf:=λd=>by
   cases d with
   |set _ _=>calc(Y,by kernel_rfl,λH=>.inr (_,_,_,lP0,rfl,rfl,by show 2<=sizeLine;decide,(.cons (QY,rfl) (.cons (QZ,rfl) .nil))))
   |add _ _=>calc(Z,by kernel_rfl,λH=>.inr (_,_,_,lP1,rfl,rfl,by show 2<=sizeLine;decide,(.cons (Q0,rfl) (.cons (Q1,rfl) .nil))))
   |times _ _=>calc(Wg,by kernel_rfl,λH=>.inr (_,_,_,lP2,rfl,rfl,by show 2<=sizeLine;decide,(.cons (Q2,rfl) (.cons (Q3,rfl) .nil))))
   |put _=>calc(Wh,by kernel_rfl,λH=>.inr (_,_,_,lP3,rfl,rfl,by show 1<=sizeLine;decide,(.cons (Q4,rfl) .nil)))
   |drop=>calc(Wi,by kernel_rfl,λH=>.inr (_,_,_,lP4,rfl,rfl,by show 0<=sizeLine;decide,.nil))
   |send _ _=>calc(Wj,by kernel_rfl,λH=>.inr (_,_,_,lP5,rfl,rfl,by show 2<=sizeLine;decide,(.cons (Q5,rfl) (.cons (Q6,rfl) .nil))))
   |say _=>calc(Wk,by kernel_rfl,λH=>.inr (_,_,_,lP6,rfl,rfl,by show 1<=sizeLine;decide,(.cons (Q7,rfl) .nil)))
   |skip _ _ _=>exact(Wl,by kernel_rfl,λH=>.inr (_,_,_,lP7,rfl,rfl,by show 3<=sizeLine;decide,(.cons (Q8,rfl) (.cons (Q9,rfl) (.cons (Ra,rfl) .nil)))))
 }
 have d:∀C∈([k,m,n,o,p,q,r,t,u,x,g,y,z,I,J,L,M,N,O]:List Addr),kx K C B:=(List.forall_mem_cons.mpr (Hf.cls a b,(List.forall_mem_cons.mpr (Pc.cls a b,(List.forall_mem_cons.mpr (Hg.cls a b,(List.forall_mem_cons.mpr (Hh.cls a b,(List.forall_mem_cons.mpr (Pd.cls a b,(List.forall_mem_cons.mpr (Pe.cls a b,(List.forall_mem_cons.mpr (Hi.cls a b,(List.forall_mem_cons.mpr (Hk.cls a b,(List.forall_mem_cons.mpr (Pf.cls a b,(List.forall_mem_cons.mpr (Hl.cls a b,(List.forall_mem_cons.mpr (Fb.cls a b,(List.forall_mem_cons.mpr (xo.cls a b,(List.forall_mem_cons.mpr (Fc.cls a b,(List.forall_mem_cons.mpr (xq.cls a b,(List.forall_mem_cons.mpr (Fd.cls a b,(List.forall_mem_cons.mpr (xt.cls a b,(List.forall_mem_cons.mpr (xu.cls a b,(List.forall_mem_cons.mpr (xy.cls a b,(List.forall_mem_cons.mpr (xA.cls a b,(λ_ h=>absurd h nofun)))))))))))))))))))))))))))))))))))))))
 have S:B6 K U B (λi:Nat=>([k,m,n,o,p,q,r,t,u,x,g,y,z,I,J,L,M,N,O]:List Addr).getD i 0):={
  pO:=W.mg_of X G Hf.ax
  wG:=W.mg_of X G Pc.ax
  zJ:=W.mg_of X G Hg.ax
  zK:=W.mg_of X G Hh.ax
  t9:=W.mg_of X G Pd.ax
  ua:=W.mg_of X G Pe.ax
  wH:=W.mg_of X G Hi.ax
  wI:=W.mg_of X G Hk.ax
  ub:=W.mg_of X G Pf.ax
  wJ:=W.mg_of X G Hl.ax
  zL:=W.mg_of X G Fb.ax
  rN:=W.mg_of X G xo.ax
  zM:=W.mg_of X G Fc.ax
  JI:=W.mg_of X G xq.ax
  pP:=W.mg_of X G Fd.ax
  zN:=W.mg_of X G xt.ax
  DX:=W.mg_of X G xu.ax
  zO:=W.mg_of X G xy.ax
  zP:=W.mg_of X G xA.ax
  uc:=W.mg_of X G aB
  yd:=(Hf.cls a b,UX,W.mg_of X G Hf.ax)
  JJ:=(Hg.cls a b,UY,W.mg_of X G Hg.ax)
  JK:=(Hh.cls a b,UZ,W.mg_of X G Hh.ax)
  wK:=(Hi.cls a b,U3,W.mg_of X G Hi.ax)
  wL:=(Hk.cls a b,U4,W.mg_of X G Hk.ax)
  F2:=(Hl.cls a b,U5,W.mg_of X G Hl.ax)
  zQ:=(xo.cls a b,LQ,W.mg_of X G xo.ax)
  SQ:=(xq.cls a b,LR,W.mg_of X G xq.ax)
  JL:=(xt.cls a b,LS,W.mg_of X G xt.ax)
  NV:=(xu.cls a b,LU,W.mg_of X G xu.ax)
  JM:=(xy.cls a b,LV,W.mg_of X G xy.ax)
  JN:=(xA.cls a b,LW,W.mg_of X G xA.ax)
  cl:=λi a=>d _ (by
   have e:([k,m,n,o,p,q,r,t,u,x,g,y,z,I,J,L,M,N,O]:List Addr).getD i 0=([k,m,n,o,p,q,r,t,u,x,g,y,z,I,J,L,M,N,O]:List Addr)[i]'a:=by simp only[List.getD_eq_getElem?_getD,dH (show i<([k,m,n,o,p,q,r,t,u,x,g,y,z,I,J,L,M,N,O]:List Addr).length from a),Option.getD_some]
   show([k,m,n,o,p,q,r,t,u,x,g,y,z,I,J,L,M,N,O]:List Addr).getD i 0 ∈ ([k,m,n,o,p,q,r,t,u,x,g,y,z,I,J,L,M,N,O]:List Addr);rw[e];calc aax _)
  inj:=λi j a b e=>U6 i a j b e
  nB:=hnB
  Xy:=by rw[Xy];rfl
  tyB:=tyB
  xb:=⟨(_,_,_,_,_,_,_,_,_,_,_,_,_,_,UW)⟩
  gj:=gj
  fF:=fF
  fG:=fG
  dG:=dG
  fq:=fq
  eG:=eG
  gk:=gk
  cN:=cN
 }
 let(f,a,b,an,d,j,kV,dc,pm,cd,ct,ll,lc,lk):=LZ;have e:=hfa.symm.trans (W.mg_of X G a)
 cases e;refine(W.fnOf "law" "law" (eZ xn) (cP xn) (ay xn) .none kV dc pm an cd ct,λs v=>.of_eq rfl,λbase _ _=>?_);have C:=Kj (P:=l.prog) (w:=w) (base:=base) (aS X G vg (gr λ_ _ _ _ _ _ _ _=>rfl)) T;have jR:=vW (P:=l.prog) (w:=w) (base:=base) (aS X G jS (mF λ_ _ _ _ _ _ _ _ _=>rfl)) T;have b:=Af (P:=l.prog) (w:=w) (base:=base) (aS X G mG (gr λ_ _ _ _ _ _ _ _=>rfl)) T;have a:=AM (aS X G mH (gr λ_ _ _ _ _ _ _ _=>rfl)) T b;have d:=CU (aS X G oR (gr λ_ _ _ _ _ _ _ _=>rfl)) T b a;have e:=vU (aS X G jT (ny λ_ _ _ _ _ _ _=>rfl)) T d b;have F:=Gi (P:=l.prog) (w:=w) (base:=base) (aS X G q9 (ny λ_ _ _ _ _ _ _=>rfl)) T;have q5:=GW (aS X G rf (ny λ_ _ _ _ _ _ _=>rfl)) T C b e F;have j:=Gk (P:=l.prog) (w:=w) (base:=base) (aS X G rg (ny λ_ _ _ _ _ _ _=>rfl)) T;have d:=Cf (P:=l.prog) (w:=w) (base:=base) (aS X G oS (ny λ_ _ _ _ _ _ _=>rfl)) T;have a:=Ae (aS X G mI (mF λ_ _ _ _ _ _ _ _ _=>rfl)) T d;have e:=Cj (aS X G oU (gr λ_ _ _ _ _ _ _ _=>rfl)) T d a;have v:=Gm (aS X G rj (mF λ_ _ _ _ _ _ _ _ _=>rfl)) T e d a;have B:=Gn (aS X G rm (gr λ_ _ _ _ _ _ _ _=>rfl)) T j v;have e:=uv (aS X G iY (gr λ_ _ _ _ _ _ _ _=>rfl)) T B;have d:=Gj (P:=l.prog) (w:=w) (base:=base) (aS X G rq (mF λ_ _ _ _ _ _ _ _ _=>rfl)) T;have j:=vG (aS X G jU (p8 λ_ _ _ _ _ _ _ _ _ _=>rfl)) T d a;have v:=qF (aS X G gI (p8 λ_ _ _ _ _ _ _ _ _ _=>rfl)) T j a;have B:=Gr (yM X G rH rJ rz qa (UU λ_ _ _ _ _ _ _ _ _ _ _=>rfl)) T e v;have j:=Aj (aS X G mJ (gr λ_ _ _ _ _ _ _ _=>rfl)) T a;have e:=Kp (aS X G vh (gr λ_ _ _ _ _ _ _ _=>rfl)) T a;have v:=yn (aS X G kU (mF λ_ _ _ _ _ _ _ _ _=>rfl)) T j d e;have R:=X2 (yM X G L7 L8 LX Pg (p8 λ_ _ _ _ _ _ _ _ _ _=>rfl)) T v;have iW:=uV (aS X G iZ (ny λ_ _ _ _ _ _ _=>rfl)) T B R;have iX:=uW (P:=l.prog) (w:=w) (base:=base) (aS X G i3 (gr λ_ _ _ _ _ _ _ _=>rfl)) T;have e:=AW (P:=l.prog) (w:=w) (base:=base) (aS X G mK (ny λ_ _ _ _ _ _ _=>rfl)) T;have d:=AS (P:=l.prog) (w:=w) (base:=base) (aS X G mL (gr λ_ _ _ _ _ _ _ _=>rfl)) T;have j:=CY (aS X G oV (ny λ_ _ _ _ _ _ _=>rfl)) T d;have v:=AQ (P:=l.prog) (w:=w) (base:=base) (aS X G mM (UU λ_ _ _ _ _ _ _ _ _ _ _=>rfl)) T;have d:=yF (aS X G kW (p8 λ_ _ _ _ _ _ _ _ _ _=>rfl)) T v;have B:=CZ (aS X G oW (mF λ_ _ _ _ _ _ _ _ _=>rfl)) T d;have q8:=Hd (aS X G rA (gr λ_ _ _ _ _ _ _ _=>rfl)) T e j B;have d:=uy (P:=l.prog) (w:=w) (base:=base) (cG i4 (ny λ_ _ _ _ _ _ _=>rfl)) T;have R:=oy (cG fR (gr λ_ _ _ _ _ _ _ _=>rfl)) T a;have j:=AB (cG mN (gr λ_ _ _ _ _ _ _ _=>rfl)) T R;have B:=GC (P:=l.prog) (w:=w) (base:=base) (cG rB (ny λ_ _ _ _ _ _ _=>rfl)) T;have v:=K5 (aS X G vi (gr λ_ _ _ _ _ _ _ _=>rfl)) T a d j B;have e:=CQ (c:=(λi:Nat=>([k,m,n,o,p,q,r,t,u,x,g,y,z,I,J,L,M,N,O]:List Addr).getD i 0)) (aS X G oX (gr λ_ _ _ _ _ _ _ _=>rfl)) T S v;have U:=vT (c:=(λi:Nat=>([k,m,n,o,p,q,r,t,u,x,g,y,z,I,J,L,M,N,O]:List Addr).getD i 0)) (aS X G jV (mF λ_ _ _ _ _ _ _ _ _=>rfl)) T S e;have v:=yC (c:=(λi:Nat=>([k,m,n,o,p,q,r,t,u,x,g,y,z,I,J,L,M,N,O]:List Addr).getD i 0)) (aS X G kX (mF λ_ _ _ _ _ _ _ _ _=>rfl)) T S a d j B;have Z:=CT (c:=(λi:Nat=>([k,m,n,o,p,q,r,t,u,x,g,y,z,I,J,L,M,N,O]:List Addr).getD i 0)) (aS X G oY (mF λ_ _ _ _ _ _ _ _ _=>rfl)) T S v;have gH:=qW (c:=(λi:Nat=>([k,m,n,o,p,q,r,t,u,x,g,y,z,I,J,L,M,N,O]:List Addr).getD i 0)) (aS X G gJ (mF λ_ _ _ _ _ _ _ _ _=>rfl)) T S Z;have Y:=yB (c:=(λi:Nat=>([k,m,n,o,p,q,r,t,u,x,g,y,z,I,J,L,M,N,O]:List Addr).getD i 0)) (aS X G kY (mF λ_ _ _ _ _ _ _ _ _=>rfl)) T S e;have Z:=AG (P:=l.prog) (w:=w) (base:=base) (aS X G mO (gr λ_ _ _ _ _ _ _ _=>rfl)) T;have dW:=uF (cG i5 (mF λ_ _ _ _ _ _ _ _ _=>rfl)) T a;have j:=pX (cG gq (p8 λ_ _ _ _ _ _ _ _ _ _=>rfl)) T a dW;have eQ:=vR (cG jW (mF λ_ _ _ _ _ _ _ _ _=>rfl)) T j;have dC:=r6 (cG ic (mF λ_ _ _ _ _ _ _ _ _=>rfl)) T j;have qV:=GK (aS X G rC (p8 λ_ _ _ _ _ _ _ _ _ _=>rfl)) T Z eQ dC;have v:=Cq (P:=l.prog) (w:=w) (base:=base) (cG oZ (ny λ_ _ _ _ _ _ _=>rfl)) T;have iR:=uG (cG i8 (gr λ_ _ _ _ _ _ _ _=>rfl)) T dW;have oE:=CC (cG o7 (mF λ_ _ _ _ _ _ _ _ _=>rfl)) T j;have fQ:=CS (c:=(λi:Nat=>([k,m,n,o,p,q,r,t,u,x,g,y,z,I,J,L,M,N,O]:List Addr).getD i 0)) (aS X G o8 (gr λ_ _ _ _ _ _ _ _=>rfl)) T S qV e v B iR oE;have iQ:=uH (P:=l.prog) (w:=w) (base:=base) (cG i9 (ny λ_ _ _ _ _ _ _=>rfl)) T;have gF:=qU (aS X G gK (ny λ_ _ _ _ _ _ _=>rfl)) T iQ eQ dC;have ib:=r8 (aS X G ie (gr λ_ _ _ _ _ _ _ _=>rfl)) T Z;have B:=yy (c:=(λi:Nat=>([k,m,n,o,p,q,r,t,u,x,g,y,z,I,J,L,M,N,O]:List Addr).getD i 0)) (aS X G kZ (gr λ_ _ _ _ _ _ _ _=>rfl)) T S gF e ib;have Z:=uS (c:=(λi:Nat=>([k,m,n,o,p,q,r,t,u,x,g,y,z,I,J,L,M,N,O]:List Addr).getD i 0)) (aS X G ja (gr λ_ _ _ _ _ _ _ _=>rfl)) T S B;have e:=A7 (c:=(λi:Nat=>([k,m,n,o,p,q,r,t,u,x,g,y,z,I,J,L,M,N,O]:List Addr).getD i 0)) (aS X G mP (p8 λ_ _ _ _ _ _ _ _ _ _=>rfl)) T S U gH Y fQ B Z;have kS:=Dd (c:=(λi:Nat=>([k,m,n,o,p,q,r,t,u,x,g,y,z,I,J,L,M,N,O]:List Addr).getD i 0)) (aS X G o9 (p8 λ_ _ _ _ _ _ _ _ _ _=>rfl)) T S e;have g:=qK (P:=l.prog) (w:=w) (base:=base) (aS X G gL (p8 λ_ _ _ _ _ _ _ _ _ _=>rfl)) T;have i:=yp (P:=l.prog) (w:=w) (base:=base) (aS X G k6 (mF λ_ _ _ _ _ _ _ _ _=>rfl)) T;have k:=Ct (P:=l.prog) (w:=w) (base:=base) (aS X G pb (gr λ_ _ _ _ _ _ _ _=>rfl)) T;have m:=Ao (P:=l.prog) (w:=w) (base:=base) (aS X G mQ (ny λ_ _ _ _ _ _ _=>rfl)) T;have e:=vJ (P:=l.prog) (w:=w) (base:=base) (aS X G jX (p8 λ_ _ _ _ _ _ _ _ _ _=>rfl)) T;have n:=Cr (aS X G pd (UU λ_ _ _ _ _ _ _ _ _ _ _=>rfl)) T e;have o:=qL (cG gM (p8 λ_ _ _ _ _ _ _ _ _ _=>rfl)) T g i k m n;have e:=vM (cG jY (mF λ_ _ _ _ _ _ _ _ _=>rfl)) T a;have g:=vO (cG jZ (gr λ_ _ _ _ _ _ _ _=>rfl)) T e;have i:=uC (cG jb (gr λ_ _ _ _ _ _ _ _=>rfl)) T e;have k:=rZ (cG ig (p8 λ_ _ _ _ _ _ _ _ _ _=>rfl)) T v j;have a:=qO (P:=l.prog) (w:=w) (base:=base) (cG gN (p8 λ_ _ _ _ _ _ _ _ _ _=>rfl)) T;have e:=Az (cG mR (gr λ_ _ _ _ _ _ _ _=>rfl)) T R;have j:=vQ (cG j0 (p8 λ_ _ _ _ _ _ _ _ _ _=>rfl)) T o d v g i k a e;have m:=lB (P:=l.prog) (w:=w) (base:=base) (cG eY (ny λ_ _ _ _ _ _ _=>rfl)) T;have e:=vI (P:=l.prog) (w:=w) (base:=base) (cG j3 (ny λ_ _ _ _ _ _ _=>rfl)) T;have g:=Yx (yM X G Md Me LY Ph (gr λ_ _ _ _ _ _ _ _=>rfl)) T m e d v a;have i:=yJ (aS X G k7 (gr λ_ _ _ _ _ _ _ _=>rfl)) T j g;exact UR (nQ ll lc lk) T C jR b q5 iW iX F q8 kS U Y fQ B i
theorem walk{l:W.OpenLaw}{q:Program}{a:List Str}{g:(Str->Option Value)->Heap->Prop}{c:World->Heap->Prop}{d:DefRec}{K:Params->W.Frag}(i:l.most=some 63)(j:d.params.defaults=[])
  (m:∀(w:World) (h:Heap),c w h->(K w.params).In h)
  (F:∀(w:World) (b:Str->Option Value) (e:Addr) (h:Heap),(K w.params).In h->h.Ns mainGlobals b->b d.name=some (.ref e)->
   ∃f:FuncData,(∀(s:Shared) (u:Value),BindsTo s f ([u],[]) [(("_law_script"),u)])/\∀base:Heap,(K w.params).In base->base.Ns mainGlobals b->ku l.prog w (K w.params) b base FJ 11 e f eu (yL (K w.params))):
  W.WalkO q a g c l.row.toRowW d [] (λf vs=>PySem.call f vs):=
 L2.Nt (n:=63) (k:=11) (x:="_law_script") (CX:=λ_=>FJ) (sp:=λw=>yL (K w.params)) i ∅ j (rfl,∅,∅) m F (λ_ _ a b c _ d=>(a,b,rfl,d,c,λ_=>rfl)) λ_ _ _ _ _ z=>z
end Ht
end
section
set_option hygiene false
local macro_rules | `(command| include $x*) => do return Lean.mkNullNode (← x.mapM λ i => do return (← `(def $i:ident := Nat)).raw)
namespace PySem.W.Fast
include tw1575755206501917540 tw1791276613814457618 tw4669849689158608745 tw8312752926869021458 tw12330701061644579668 tw9304121590176804868 tw11933683092491750450 tw1956830353166978640 tw1218346377235429303 tw1342071207967564556 tw3352607749517447063 tw14266652554649894221 tw10768639512584800416 tw16036403444292657666 tw11412478245467544990 tw5119234533794964732 tw11001420662118716372 tw13738528105722978390 tw4678785066804100874 tw14443819353971537470 tw1125505118771401584 tw13221582654590182688 tw13951414225819749745 tw4452350797054086601 tw106848716072657492 tw4111474253557432107 tw9735331104421145459 tw2648931538657345878 tw16231693224856089619 tw116240008092894309 tw13724727763641756608 tw469334373650926921 tw14154638502288458533 tw12799138259324437218 tw12596197896298420624 tw1793386843267470365 tw9472312437194511399 tw9339212367725889837 tw2179664914348328181 tw17883980776572958888 tw13156223405488191867 tw16937118922834778855 tw4927101226257635860 tw15255886444916844777 tw18227041535940648591 tw17628013450662173026 tw10199145786189155690 tw16953712015665477446 tw17930060998123890521 tw13252729340105612691 tw11941260179243055074 tw17751297518734781459 tw17785971695372372294 tw14518364569918511922 tw8840607665597227270 tw1299567428811021052 tw12672981641953091345 tw13195561497667018150 tw2226414931701611175 tw1618440634397957275 tw12081255630839974144 tw9721424688542096104 tw2778559852142152760 tw6227010230139221919 tw14149537221381740257 tw8688491678821706463 tw9243388597207271762 tw17933354643737791364 tw9857767699451909745 tw11432235284331007706 tw10229523755841546849 tw3789003665349621730 tw13698886617479896418 tw9133849565789028302 tw1969762500262573648 tw16153104964972498166 tw1635183444304790085 tw360618990631517212 tw17304590234605345919 tw10576990331185515832 tw11028603596174312116 tw3225081935467923894 tw545646249695074712 tw4664776490066318743 tw7175166513379428286 tw16400011249222436530 tw11140311105265141604 tw13619832030599339814 tw8463206289244507960 tw18195772685662585318 tw2984890308831952010 tw6734208283306659798 tw62788587257214350 tw12445709951219133553 tw12989739527570589578 tw13592528402361823992 tw9103374144199368127 tw16437515768420512867 tw15360441549800276198 tw4272711954710548991 tw17950281625103992880 tw13751792190531257813 tw5674545734668667026 tw4898460104155632378 tw5816266881512499250 tw3035600782066635438 tw10830415717043760128 tw8815748897546181891 tw17020351384676594314 tw3853920195128377767 tw5655630160420426008 tw15570959216467445346 tw10011651046942684371 tw3453945992203880192 tw14299650694879817204 tw10203864795735094014 tw9959587252838716052 tw10631629480710981789 tw701323903066347693 tw12496399911156802083 tw6616428555705736739 tw8170288693122889040 tw7510229418296132594 tw12837564870415388912 tw14276890977682653730 tw680719706966930520 tw2306488761257312058 tw6244846793482253856 tw16913048493738749350 tw3951073006847589289 tw10316747664277748048 tw10618778334584850454 tw415005468619384210 tw8110423804971515500 tw4362413541505162427 tw11101150980779945840 tw13155546659247600800 tw10865951381597127307 tw3956260005320350706 tw18262692338061089139 tw12658142562372199818 tw3251532073171427887 tw5891861634094648051 tw3082770962864787756 tw2317008445505536274 tw5122133625680907308 tw17190643924144629580 tw2718375537785979268 tw6214146218980262062 tw11581691492606385328 tw11610028229322634894 tw16253024516292380227 tw14722713938192099611 tw15579002689470423679 tw1323600739611744268 tw3077834172372073536 tw7664023460477363976 tw2394451579457005555 tw13880724307317111642 tw14813356714066922143 tw15385341677571964332 tw16921870216855714865 tw11714380735934558561 tw14362505256356127255 tw17075393786649439990 tw9571489210472138807 tw10824782954868089857 tw1647198475207277250 tw12774531083881586137 tw6862685361869264186 tw14687778232711347009 tw14779385344741687239 tw5389098998305942934 tw10869852266809134084 tw460663672655389493 tw13746013944691784293 tw4472274058466101799 tw10544152834125658988 tw2113917827978041688 tw2647087637061628850 tw11453857790004582566 tw5191475987564474353 tw12993487393251186907 tw9394569562503114390 tw16476392681565845022 tw9324517265959344512 tw10390312185798439816 tw9230641279841476679 tw8788200274650555933 tw17551294515346539184 tw6015426142896324485 tw8355129278023967944 tw10037611918432325031 tw12428072608017602382 tw6303351808439754455 tw10426337294132460795 tw4986743084676333110 tw12881100720449710034 tw11205728456977811199 tw6367641244123328833 tw6857294699843288036 tw13761778248717486393 tw7263573076001642143 tw7230753008363135299 tw8985139726797927686 tw6508849625314266821 tw16290881725868441217 tw16670586256705988322 tw9274044235335415110 tw8819575956055202601 tw2833826059961382621 tw5075755884603050769 tw13200509344614225333 tw12929413512288440241 tw3211873559807262289 tw7220655095248906169 tw9079382765910305049 tw11536975918256803262 tw14751497890054395984 tw11040641394244213835 tw16785852677155958567 tw16464859941428863436 tw4033661168778860771 tw3765990097266171879 tw533909325961527874 tw963138532742218971 tw13254763542912882802 tw13027856530168049814 tw15116202759831127901 tw16451796954044753758 tw14470530880718599955 tw17952891335525376996 tw1290895684077826481 tw12700361054355764412 tw2500444160341230994 tw17293976551781466738 tw15516040788046669391 tw7307991122564115730 tw1147693057019557687 tw16981811540440982280 tw15081995043323626257 tw12471218701345931177 tw17533493377005186903 tw3499692918349423424 tw14357528528322485634 tw9864426910104339745 tw12518471129560055773 tw3810494330665781768 tw3058718424341108343 tw12685338987080311888 tw14717202062649208638 tw9493216928767587675 tw9333542842185258727 tw10379676992106017028 tw5633401496037718048 tw11648292915692989643 tw15083271610363494691 tw17867024168183718631 tw15110106754427994538 tw9290747907270590942 tw7169977400277138921 tw962843133444259391 tw11350445132513597473 tw4066059719287248039 tw6615529963534064018 tw4094338796336435685 tw683783074102522293 tw14221812763607941802 tw2859301282965561539 tw4358904187680417090 tw9258314380245948811 tw9573501392830553583 tw9317654409758572196 tw17062319619776969182 tw17112061082608468265 tw4466374857170573835 tw6112527242629768448 tw10434754808267874531 tw13312959722881528493 tw13012435842215843288 tw2832232259028230142 tw6890202956473306890 tw17739077378287199357 tw11673513458980456487 tw6015599453944260381 tw11020111758542435113 tw2000066487220549985 tw8769393456559583033 tw15654718048274226171 tw14687222839556209428 tw18179222858142887880 tw9404456178918446998 tw12418183597907850743 tw15196919695574583100 tw7607750860647584587 tw4219320905585621813 tw8719650575374195330 tw11181292702685871323 tw15501622952404169223 tw8689294279591580656 tw6202994500789587133 tw6514991371505291665 tw13962751089200444262 tw3717940721008385846 tw10458551537583053492 tw3443427747823904304 tw10771244274587308418 tw16759968433616478395 tw10562972320499086233 tw4950797843861746116 tw16044557997580345262 tw1094042415704314863 tw17543617348224168837 tw7378149699619455803 tw1708489884962681248 tw1900416838863369049 tw17017541490791618765 tw7728340486787895747 tw30893417750123769 tw3604607818453415173 tw11231530927801563 tw2757921467967519025 tw14198519787683560719 tw17521247422194654557 tw7776724980835888499 tw12492063799077235461 tw18120898906731355961 tw2773606608575116091 tw15532270161009087901 tw7139560751552687713 tw4783811917972854439 tw14631865835377018214 tw14580503863540774046 tw13026942817185845679 tw15115182781325113134 tw2844427896080094268 tw2219882888288834510 tw3204030914959832784 tw4709624180696021919 tw10736452152708206999 tw4155442011222564907 tw15818235148996538239 tw1517833393012528497 tw16877103582211428329 tw5430946089379492078 tw18165236385970066953 tw11084216429438031675 tw9765978360764743473 tw11133369064298021294 tw15223999775347398467 tw7538494780071789258 tw16381019961350171835 tw11647606114774305659 tw2100295904552554865 tw14600843309771293208 tw9465644441123053837 tw2235000759026882015 tw16134352162852465658 tw13886738165566091739 tw8283340017312612826 tw7090268558814109445 tw8500312273596768876 tw3149899659054978081 tw12525617093172830130 tw253884666961590222 tw2985028977020752010 tw5020301864995616924 tw652349670993493659 tw1557983882919600743 tw1759923943540396854 tw13177961678145188691 tw6018650454384027826 tw3657777368620174750 tw8532727173800246016 tw16200096144649243064 tw14841463768030981630 tw2839488800737325182 tw17271369294962553858 tw10161575965841576609 tw13036467791536609219 tw7794529140574843488 tw16638408990970753484 tw2505969317001176646 tw9062203726921605678 tw1538682190740290950 tw17628317173990903079 tw4367670448378158865 tw16434646070951450944 tw4456730588723094706 tw17736873893647311116 tw9572314538355242639 tw3919914983648039335 tw16196461912853270738 tw11027557436489859024 tw4624942761050424469 tw4403786506002103053 tw14996416018876924929 tw14925740051844740159 tw7404269175901499173 tw14456222158436075236 tw8140573685315147408 tw8304973578888801006 tw5642837769834101543 tw17070124376172620372 tw8303652878553633837 tw14610169921866496760 tw2284821048861742493 tw390231751909957958 tw14466265893872630164 tw14719513843318771121 tw7821312260341863159 tw10626870364997398966 tw3097540270372469122 tw8887540287258022995 tw10276748856634325902 tw9474919242635433621 tw18231039288785544288 tw9224596131099959890 tw18244223752130831864 tw5124142736447011068 tw14755913014105631282 tw4148964999776449157 tw12792965934646405504 tw12113523911145717369 tw762543843899125358 tw11201566703934180002 tw12433986194646607790 tw1366032459259537153 tw6398244906768981318 tw17642161618674271209 tw6333535356318996449 tw18098858263721505784 tw11964346704276165970 tw369847064151939163 tw5635450582145892719 tw10275565785650097087 tw163014201197408585 tw15417104056520459983 tw11951713341636982037 tw17062704394170974343 tw14302020042155150864 tw17502460136166796608 tw2306911360496947442 tw14552849181428676241 tw16523597943189612049 tw18282560322418354946 tw12430116568552161689 tw8372731445575387229 tw9439468883476540172 tw18017110931541473105 tw17543483515904940082 tw6432490979037353324 tw16182870363073577500 tw16421506104446657512 tw869817560703182444 tw10190261946924836219 tw16180043543121911462 tw4410798167133523281 tw10471189665839191682 tw1782224469473599008 tw10275222953526267212 tw318395152884969275 tw5151783695785282369 tw2011546615795317917 tw6065825419460725944 tw10913650290629974750 tw10722828793049099344 tw5312640259616788966 tw368660892907455262 tw17080578801349261074 tw5807738949179565608 tw1291279063411296796 tw13211666850058235914 tw12359461352949672769 tw196703872212007403 tw13180625452613236595 tw14260755362038237070 tw3864137110521044821 tw5172641414329038944 tw15983801944436008388 tw17032709212222156201 tw1921220874159301303 tw18261214128321957543 tw2862623173838980815 tw7167319791067664005 tw4426635917798081934 tw15619459914545375384 tw10548924019117468674 tw3693052679336651135 tw16673847698453322160 tw15014381923281318943 tw11301188962668113152 tw10021897275618934763 tw13482097796802756793 tw11139216156879487716 tw7045825644250783435 tw620522165174359391 tw5354463819878966537 tw17961164994355962670 tw12338874069058606031 tw17344621852012673792 tw3893782511673785891 tw18333409721493585154 tw4878464113723385655 tw5457965241545791013 tw9440542462485565921 tw9440347699742700731 tw11822685153392633938 tw4104980371105751253 tw1231061388200314815 tw5989363489692648261 tw18440745170403706241 tw902628758497900312 tw8278268252974720405 tw7132921546145440229 tw6070276292267795719 tw17502159680565856924 tw4573568779743600760 tw5473920803551696709 tw10593878297503825162 tw15132221885967238051 tw8514089256611430555 tw9185347720929574149 tw7346930592632957267 tw4038080762728273901 tw1233109016073081146 tw6461294042518991743 tw1326807459135541629 tw3969664630053845854 tw17533363010941318045 tw2633320531756442298 tw11871276358062452936 tw672748461186492261 tw16530775624814312757 tw12172372642861646855 tw3591562960257608476 tw366126086027121608 tw17316116909993516202 tw802115588170358181 tw16603125684838178765 tw12097703041565148425 tw3737936537593347649 tw12930972608284550691 tw4991954547690269065 tw1402319347034665458 tw3260921544329503136 tw5487926752729484949 tw36608349921010367 tw6111039890246192682 tw3124432132447625295 tw2258723102974924948 tw11825308297096275958 tw15923078345773737324 tw12134440018556592663 tw3275772140173828269 tw11162745165672762813 tw3189964195711444263 tw18146915669492706821 tw5311102205942352213 tw9117529471040688583 tw9944992110251016099 tw11838492470345293882 tw17289318950565095526 tw7472584727380584713 tw5501721417691018362 tw11507369852089121004 tw11190778397349197206 tw694666860150050554 tw1949144775827848739 tw3027827726072742616 tw9229693753885431905 tw11942971720284977327 tw12414281830278535053 tw1999976453531421221 tw17378270789578597666 tw11456895953992531215 tw17650969885840008268 tw10256558641970526053 tw8602613804012953155 tw294811808864814917 tw6047694127094696575 tw13378534332035936746 tw5268643484897675087 tw12770913438424667448 tw15323562754495635688 tw382081444082936687 tw16753243351656735604 tw12243423253286905034 tw7809893599107388091 tw16664721868052783179 tw7914828100619918917 tw3847455285069022968 tw12832337695109882353 tw13075269467150384364 tw16567542269537241069 tw13244637932441420116 tw9412950285146835026 tw17559170369730922785 tw6400581328388930904 tw1234630793255856636 tw9313996178658336318 tw10901360157478515418 tw17587593961507454580 tw16497254006076034302 tw12676834463597297946 tw712710964694969429 tw2425060579581083695 tw11419904516114921622 tw3335763910524463969 tw8053408875545725607 tw15540168961747185917 tw3099330444578735572 tw12448864302765236066 tw16143998863712266709 tw10868502106873869781 tw5689524597037377747 tw1369987965358549629 tw4084570848432689590 tw17338850833192245268 tw18208377519214569444 tw5663153630021305394 tw12711112971807811042 tw13591658229714530981 tw11744305480613480556 tw13317190561007906630 tw4041307808626938484 tw9902066788815914152 tw1293948798602341563 tw11821885436462890438 tw1358032785728270996 tw7735848878102793223 tw10718972224584168633 tw5363942099302854400 tw12580221294124385442 tw10247580413982867173 tw14136870040763764504 tw12984870461401864935 tw5894849001153428156 tw11666182515146130329 tw12582202158598633532 tw2495186636187087145 tw6932420653325741330 tw10343305184675546056 tw15828401730309459191 tw13929678529717824626 tw7090508549865022559 tw10233069270354107014 tw16331146446018502946 tw14522708121739813004 tw11482632707538609252 tw8500077648586090536 tw12836316907302766897 tw2677854649779030897 tw17758827987134041909 tw17924365193121286462 tw10048641240609804026 tw18247009836292035463 tw2678177728369872783 tw14038037078425103803 tw4948982103530721913 tw1263939672569444226 tw2969095603862138300 tw2352297862474498790 tw4866309072400820020 tw15111367546191188036 tw10326613205377430463 tw2669860620063161679 tw10054265764919061817 tw7159387779553845032 tw18269564624533980223 tw12032815293459704650 tw3281445084798324092 tw3977662134247293290 tw16082352339917235425 tw8773257909221594515 tw17716268693941160188 tw15816900419718421214 tw6991379505211288425 tw10715041083443176078 tw5048895580739037736 tw15223477885278990896 tw12451975870376569150 tw5869657095794822917 tw3149495135439282502 tw8209779467498086390 tw9064663463693659052 tw22467539938932843 tw6118153377326930727 tw14263591947383248124 tw1785341665031188454 tw1761858542189045159 tw10035056935629422894 tw9454913531259491279 tw16069059057925689684 tw5740464974578962866 tw5167496418791282062 tw16020766014171664949 tw14663067394841983278 tw9990063098187000961 tw17508082969343047243 tw1703826134726501510 tw2575807745131268655 tw11777129412989979183 tw8812632763348165885 tw904243237218965350 tw372355771835725345 tw2923823548272439565 tw4634458840520354929 tw5587691598272501924 tw11346846668326275516 tw14547259727237579233 tw11786564935203217042 tw365738232278789464 tw8326943161369708492 tw2992331142222510360 tw12188087873452825189 tw13853341935668535026 tw6819410464901052877 tw14668909350070763083 tw3631750061357660123 tw509820279319476193 tw15495962170139354798 tw8805049865776101904 tw3530774062965973340 tw11656863540005928677 tw6029437186119959471 tw10211345104323296397 tw11697865217974253126 tw10108616409567215382 tw17370751141013347044 tw18359106897152540577 tw517751335970270320 tw7729192467758036598 tw12044159831036749794 tw18245505508132406540 tw4610671503780892750 tw17671486129178840740 tw854573955093474513 tw201539484221648496 tw10707024943008154861 tw8329004590048709606 tw5528753208666309575 tw15487667040698061992 tw12783969886396448076 tw7506643980277513479 tw10104842821443343321 tw6055565124559961285 tw2565071040739349831 tw18073187676776874335 tw2207098138942876648 tw4259027085367040170 tw9896385667887128630 tw17424881728849917535 tw9022072389626751546 tw16013022976953479392 tw10628969913414378053 tw4302077553595193351 tw993065916851778336 tw6309837231742423702 tw11161466795514361798 tw15190210633923476763 tw2470189793376090652 tw16097030720630614857 tw7011157212044936320 tw818321380196980279 tw6645608172184175721 tw8119026459494751242 tw2049585153962060716 tw14618903823924680151 tw15453457765508277459 tw10305059202411147629 tw7485888620056103978 tw17484385224170988142 tw656261133328361533 tw2385433366266334222 tw14179095259067250432 tw14678136943157717565 tw12723330977379930939 tw405527390639387244 tw12111342145372375267 tw4643056620997602093 tw13228308941796174774 tw3478220301431049862 tw8393589250185482978 tw1319345223565795476 tw17997794831848158169 tw13080337760557161245 tw13649740677457423606 tw16130031767907782963 tw9881359594347639703 tw16309465932667559134 tw8111480475891771940 tw3513131754158057580 tw10902299251618347069 tw5037086869004029292 tw15021065244675293571 tw6965611129436932786 tw2831890429787331143 tw18433532510711124684 tw17719880975441828022 tw18144999184079138745 tw9158642197371023114 tw9824530872634306691 tw5466417008943309304 tw1794575407208098915 tw13186807686044882390 tw7017794767191507181 tw16481260366320988030 tw10010010476986510600 tw590388827224342529 tw728830018015837702 tw3129404120791876874 tw5166044804648304201 tw12404644360919054562 tw4128936420139848769 tw5239320688195261246 tw9432492761924834307 tw18100325413638161803 tw213902716604693941 tw14664964436584427369 tw5201993144911781529 tw2149981298193716433 tw16245093241414997372 tw1736436178540712524 tw17462393372389644625 tw9005515465212946844 tw16119321390840761703 tw14900384144553953834 tw10133953035062124387 tw7729083229346056374 tw16404015251436886246 tw3414260979550765240 tw1932032701207295329 tw15332616523435852144 tw4925916875268293868 tw2788056607667675242 tw7982982051103481471 tw10694662787058482510 tw7198591495081810192 tw17004511138883635893 tw1702905283951115000 tw2979721933516070744 tw10966189608425645023 tw3798911706040638512 tw3855701671455913655 tw1692257223240862752 tw15414207119951521617 tw15074505659583537334 tw8714012100695744263 tw3194234181271195277 tw6794552985909717812 tw1845755601295718750 tw10886013584858595425 tw2876680758326167179 tw9270212945607594591 tw6776576342287068130 tw10734547552435147665 tw6741283438933431409 tw10229001494511368340 tw9108998563661453616 tw5994574985982940160 tw3407795281482204679 tw10526481932225479773 tw1714700313696802201 tw4074712697142571671 tw17993272546372449056 tw1578753709163985587 tw3142399930087739222 tw14906010546282459780 tw6992319419776229765 tw3717102635869781892 tw4732818078412329324 tw8354371968241364771 tw3233282357308467994 tw15807225530925570332 tw6136281880900241491 tw3030636236032500440 tw8823123524436717682 tw4359520852459848326 tw16900984524059696996 tw16229893250229699548 tw17966629533435426149 tw5181625208994299033 tw13443165108961378282 tw10513626019873283327 tw957479170080643289 tw14297059756484590620 tw7493191521421040849 tw10243798002457922262 tw10485984722287176762 tw18364198417824120458 tw803354658001101872 tw17067233429217295580 tw9795109004483518728 tw10754689737052361951 tw11779970315660624607 tw5086015121901597721 tw7495660493167958948 tw3554233895823908780 tw1205162866350358854 tw4338508621057719428 tw14157501797738625094 tw4388964923956624192 tw11850982993502428748 tw2891924456951895602 tw9287891977833873658 tw1436320245899474247 tw1965016480953850052 tw2978233747830162481 tw5394731197503248722 tw1565128413917748759 tw4934940831178767148 tw14897918592485949971 tw6753746160248513149 tw10949277393829946242 tw14551738853685204729 tw5542485581085973256 tw10930566489896164808 tw2110213444188762989 tw1811481678684997623 tw9690322689896236552 tw3892491582580367670 tw3011036957360684525 tw7593178972766136613 tw13494605253805466701 tw4010019544864587556 tw3471428697844498942 tw7640584039352860725 tw2069653391384322148 tw9557199821030272317 tw12874263538401071996 tw1212389305888052951 tw5617541432654220894 tw12793582147468590403 tw16603528127628733028 tw10542443495962014505 tw16257036561957505607 tw8705462708565812265 tw15597644891731663258 tw8074129971528803282 tw977676230400844484 tw16466443471206942619 tw167907871846784404 tw4034413106546021919 tw6847423519266932828 tw5817331049024696036 tw12045520828212212453 tw12389671419857506887 tw4947292527166373223 tw213271796620330248 tw17340145747834879825 tw12144114247071611344 tw5448124770895136099 tw17822413863659565749 tw14169031844023123933 tw15883000226638997186 tw11836648160966548664 tw11066096300084585404 tw14696711437101538257 tw4322592094304051012 tw5626468433909422323 tw6900176319762153593 tw9796394165083990729 tw9740658579635721135 tw9498487478680798326 tw6435792707392679107 tw7646596594217841616 tw7745464073196440232 tw300927769871603226 tw6820992411982646136 tw8854248188765235654 tw14989327560112701567 tw15100284302844124075 tw15066029614514029485 tw4375193469498543111 tw2138661933492175717 tw8074606596423335967 tw14186526761528533519 tw13518121311221703505 tw13881798605919954322 tw12451551564978282056 tw2633191816607184719 tw2675403972031423605 tw15195290287991568549 tw16222911730102901055 tw6383999484183340793
end PySem.W.Fast
end
open PySem PySem.W PyProof.Rows
local macro_rules | `(tactic| walk_at "d") => `(tactic| first | exact Ht.QW (by k_is) (by k_is) (by k_is) (by k_is) | (refine' Ht.QW ?a ?l ?c ?k; (case a => k_is); (case l => k_is); (case c => k_is); (case k => k_is)))
local macro_rules | `(tactic| walk_at "x") => `(tactic| (refine' Ht.aae ?a ?b ?c ?d ?e ?f ?g; (case a => k_is); (case b => k_is); (case c => k_is); (case d => k_is); (case e => k_is); (case f => k_is); (case g => k_is)))
local macro_rules | `(tactic| walk_at "m") => `(tactic| first | exact Ht.QX (by k_is) (by k_is) (by k_is) (by k_is) (by k_is) | (refine' Ht.QX ?a ?i ?l ?c ?k; (case a => k_is); (case i => k_is); (case l => k_is); (case c => k_is); (case k => k_is)))
set_option maxRecDepth 100000 in
set_option maxHeartbeats 0 in
theorem PySem.Challenge.cw_cutrestore_k44_no_cuts_holds : PySem.Challenge.rw_cutrestore_k44_no_cuts.Holds := by
 w_on;o_law;k_head;(case hw=>w_witness2)
 k_fill
 refine Ht.walk (l:=PySem.Challenge.rw_cutrestore_k44_no_cuts) rfl rfl (λw h Y=>W.kIn_of Y) ?F
 case F=>
  intro w mg fa h KX G WZ;refine' Ht.all_mk KX G WZ ?aB ?Xy ?tyB ?UW ?Hf ?Pc ?Hg ?Hh ?Pd ?Pe ?Hi ?Hk ?Pf ?Hl ?Fb ?xo ?Fc ?xq ?Fd ?xt ?xu ?xy ?xA ?gj ?fF ?fG ?dG ?fq ?eG ?gk ?cN ?UX ?UY ?UZ ?U3 ?U4 ?U5 ?LQ ?LR ?LS ?LU ?LV ?LW ?qa ?Pg ?Ph ?vg ?jS ?mG ?mH ?oR ?jT ?q9 ?rf ?rg ?oS ?mI ?oU ?rj ?rm ?iY ?rq ?jU ?gI ?rz ?mJ ?vh ?kU ?LX ?iZ ?i3 ?mK ?mL ?oV ?mM ?kW ?oW ?rA ?i4 ?fR ?mN ?rB ?vi ?oX ?jV ?kX ?oY ?gJ ?kY ?mO ?i5 ?gq ?jW ?ic ?rC ?oZ ?i8 ?o7 ?o8 ?i9 ?gK ?ie ?kZ ?ja ?mP ?o9 ?gL ?k6 ?pb ?mQ ?jX ?pd ?gM ?jY ?jZ ?jb ?ig ?gN ?mR ?j0 ?eY ?j3 ?LY ?k7 ?LZ ?rD ?rE ?rF ?rG ?rH ?rJ ?Gg ?Gh ?Qd ?Te ?Qe ?L3 ?L4 ?L5 ?L6 ?L7 ?L8 ?Kc ?Ke ?Ab ?Ac ?Ce ?L9 ?Ma ?Mb ?Mc ?Md ?Me ?Kf ?Kg ?cS ?cY ?cj ?eC ?cZ ?bM ?fu ?dw ?eV ?cH ?k8 ?Mf ?De ?Mg ?yN ?Df ?Mh ?yO ?Mi ?Mj ?Ml ?Mm ?Mn ?mS ?k9 ?vj ?eA ?dR ?dS ?fO ?dB ?fS ?dU ?eB ?aF ?lF ?neF ?lP0 ?lP1 ?lP2 ?lP3 ?lP4 ?lP5 ?lP6 ?lP7 ?U6 ?hnB
  (case aB|Xy|tyB|UW=>k_is)
  (case Hf|Pc|Hg|Hh|Pd|Pe|Hi|Hk|Pf|Hl|Fb|xo|Fc|xq|Fd|xt|xu|xy|xA=>walk_at "x")
  (case gj|fF|fG|dG|fq|eG|gk|cN|UX|UY|UZ|U3|U4|U5|LQ|LR|LS|LU|LV|LW|qa|Pg|Ph=>k_is)
  (case vg|jS|mG|mH|oR|jT|q9|rf|rg|oS|mI|oU|rj|rm|iY|rq|jU|gI=>walk_at "d")
  (case rz=>walk_at "m")
  (case mJ|vh|kU=>walk_at "d")
  (case LX=>walk_at "m")
  (case iZ|i3|mK|mL|oV|mM|kW|oW|rA=>walk_at "d")
  (case i4|fR|mN|rB=>walk_at "m")
  (case vi|oX|jV|kX|oY|gJ|kY|mO=>walk_at "d")
  (case i5|gq|jW|ic=>walk_at "m")
  (case rC=>walk_at "d")
  (case oZ|i8|o7=>walk_at "m")
  (case o8=>walk_at "d")
  (case i9=>walk_at "m")
  (case gK|ie|kZ|ja|mP|o9|gL|k6|pb|mQ|jX|pd=>walk_at "d")
  (case gM|jY|jZ|jb|ig|gN|mR|j0|eY|j3|LY=>walk_at "m")
  (case k7|LZ=>walk_at "d")
  (case rD|rE|rF|rG|rH|rJ|Gg|Gh|Qd|Te|Qe|L3|L4|L5|L6|L7|L8|Kc|Ke|Ab|Ac|Ce|L9|Ma|Mb|Mc|Md|Me|Kf|Kg|cS|cY|cj|eC|cZ|bM|fu|dw|eV|cH|k8|Mf|De|Mg|yN|Df|Mh|yO|Mi|Mj|Ml|Mm|Mn|mS|k9|vj|eA|dR|dS|fO|dB|fS|dU|eB|aF|lF=>k_is)
  (case neF=>first|rfl|decide)
  (case lP0|lP1|lP2|lP3|lP4|lP5|lP6|lP7=>k_is)
  (case U6|hnB=>decide +kernel)
