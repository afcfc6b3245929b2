import PyProof.Rows.All
import Wide.All
import OpenK.AllK
import Wide.FinOn
import Lean
import PyProof.EqAt
import PyProof.EqKinds
import PyProof.TupleCall
import PyProof.NeKinds
import PyProof.Rows.Range3
import KE.KIsAll
import PyProof.ExcClass3
import PyProof.InstStoreFacts
import PyProof.ExcArgsOwn
import PyProof.ExcBaseAll.ValueError
import PyProof.ExcAttrAll.ValueError
import PyProof.Draws
import PyProof.ZipIter
import PyProof.SumWalk
import PyProof.Rows.FactsT2
import PyProof.EnumMake
import PyProof.Rows.EnumRows
import KE.KTab
import PyProof.StationsW
import PyProof.RulesAs
import PyProof.NsDelKeeps
import PyProof.PassesOwn
import PyProof.Rows.ListMulArg
import PyProof.StrWalks
import PyProof.MeetsStr
import PyProof.MeetsStr2
import PyProof.StrBlockL
import PyProof.SliceStr2
import PyProof.StrLawsIdx
import PyProof.FitsStr
import PyProof.StrLaws
import PyProof.Rows.FStr
import KE.KIntText
import PyProof.StrLawsTight
import PyProof.Rows.StrIntSpec
import PyProof.Rows.CountFlat
import PyProof.Rows.SeqMore2
import PyProof.SeqRoads
import PyProof.StrLawsAffix
import PyProof.InstEq
import PyProof.DictUpdate
import PyProof.DictWalks
import KE.KDictList
import PyProof.FactsAll.NoneType_1
import Wide.Seal
import KE.KSortTup
import PyProof.WalkInts
import PyProof.Rows.CallKwBuiltin
import KE.KMinKey
import PyProof.ListRange
import PySem.Challenge.RW_cutrestore_k46_whole_least_cut_with
set_option compiler.extract_closed false
set_option Elab.async false
set_option linter.all false
set_option maxRecDepth 100000
theorem L2.fo{p:Prop}(h:∀g:Prop,(p->g)->g):p:=h p id
theorem L2.yo1{A:Sort _}{p:A->Prop}{z:Prop}(h:∃a,p a)(y:∀a,p a->z):z:=h.elim λa x=>y a x
theorem L2.yo2{A B:Sort _}{p:A->B->Prop}{z:Prop}(h:∃a b,p a b)(y:∀a b,p a b->z):z:=h.elim λa x=>x.elim λb x=>y a b x
theorem L2.yo3{A B C:Sort _}{p:A->B->C->Prop}{z:Prop}(h:∃a b c,p a b c)(y:∀a b c,p a b c->z):z:=h.elim λa x=>x.elim λb x=>x.elim λc x=>y a b c x
theorem L2.yo4{A B C D:Sort _}{p:A->B->C->D->Prop}{z:Prop}(h:∃a b c d,p a b c d)(y:∀a b c d,p a b c d->z):z:=h.elim λa x=>x.elim λb x=>x.elim λc x=>x.elim λd x=>y a b c d x
theorem L2.yo5{A B C D E:Sort _}{p:A->B->C->D->E->Prop}{z:Prop}(h:∃a b c d e,p a b c d e)(y:∀a b c d e,p a b c d e->z):z:=h.elim λa x=>x.elim λb x=>x.elim λc x=>x.elim λd x=>x.elim λe x=>y a b c d e x
theorem L2.yo6{A B C D E F:Sort _}{p:A->B->C->D->E->F->Prop}{z:Prop}(h:∃a b c d e f,p a b c d e f)(y:∀a b c d e f,p a b c d e f->z):z:=h.elim λa x=>x.elim λb x=>x.elim λc x=>x.elim λd x=>x.elim λe x=>x.elim λf x=>y a b c d e f x
theorem L2.yo7{A B C D E F G:Sort _}{p:A->B->C->D->E->F->G->Prop}{z:Prop}(h:∃a b c d e f g,p a b c d e f g)(y:∀a b c d e f g,p a b c d e f g->z):z:=h.elim λa x=>x.elim λb x=>x.elim λc x=>x.elim λd x=>x.elim λe x=>x.elim λf x=>x.elim λg x=>y a b c d e f g x
theorem L2.yo8{A B C D E F G H:Sort _}{p:A->B->C->D->E->F->G->H->Prop}{z:Prop}(h:∃a b c d e f g h,p a b c d e f g h)(y:∀a b c d e f g h,p a b c d e f g h->z):z:=h.elim λa x=>x.elim λb x=>x.elim λc x=>x.elim λd x=>x.elim λe x=>x.elim λf x=>x.elim λg x=>x.elim λh x=>y a b c d e f g h x
theorem L2.ya2{A B y:Prop}(h:A/\B)(x:A->B->y):y:=x h.1 h.2
theorem L2.ya3{A B C y:Prop}(h:A/\B/\C)(x:A->B->C->y):y:=x h.1 h.2.1 h.2.2
theorem L2.ya4{A B C D y:Prop}(h:A/\B/\C/\D)(x:A->B->C->D->y):y:=x h.1 h.2.1 h.2.2.1 h.2.2.2
theorem L2.ya5{A B C D E y:Prop}(h:A/\B/\C/\D/\E)(x:A->B->C->D->E->y):y:=x h.1 h.2.1 h.2.2.1 h.2.2.2.1 h.2.2.2.2
theorem L2.ya6{A B C D E F y:Prop}(h:A/\B/\C/\D/\E/\F)(x:A->B->C->D->E->F->y):y:=x h.1 h.2.1 h.2.2.1 h.2.2.2.1 h.2.2.2.2.1 h.2.2.2.2.2
theorem L2.ya7{A B C D E F G y:Prop}(h:A/\B/\C/\D/\E/\F/\G)(x:A->B->C->D->E->F->G->y):y:=x h.1 h.2.1 h.2.2.1 h.2.2.2.1 h.2.2.2.2.1 h.2.2.2.2.2.1 h.2.2.2.2.2.2
theorem L2.ya8{A B C D E F G H y:Prop}(h:A/\B/\C/\D/\E/\F/\G/\H)(x:A->B->C->D->E->F->G->H->y):y:=x h.1 h.2.1 h.2.2.1 h.2.2.2.1 h.2.2.2.2.1 h.2.2.2.2.2.1 h.2.2.2.2.2.2.1 h.2.2.2.2.2.2.2
theorem L2.ya9{A B C D E F G H I y:Prop}(h:A/\B/\C/\D/\E/\F/\G/\H/\I)(x:A->B->C->D->E->F->G->H->I->y):y:=x h.1 h.2.1 h.2.2.1 h.2.2.2.1 h.2.2.2.2.1 h.2.2.2.2.2.1 h.2.2.2.2.2.2.1 h.2.2.2.2.2.2.2.1 h.2.2.2.2.2.2.2.2
theorem iw(l:List PySem.Str)(h:l.Nodup:=by decide +kernel):l.Nodup:=h
theorem iF{α}{l:List α}{i:Nat}{a}(h:l[i]?=some a):∃h,l[i]=a:=List.getElem?_eq_some_iff.mp h
theorem i6{α}{p:α->Prop}{a l}(h:p a/\∀x∈l,p x):∀x∈a::l,p x:=List.forall_mem_cons.mpr h
theorem jb{α β}{o:Option α}{f:α->β}{b}(h:o.map f=some b):∃a,o=some a/\f a=b:=Option.map_eq_some_iff.mp h
abbrev jn:=List (PySem.Addr×PySem.Obj)
abbrev jr:=List (Int×Int)
abbrev js:=Nat->Nat->PySem.Addr
abbrev jD:=PySem.Value->PySem.Shared->Prop
abbrev jP:=PySem.Str->Option PySem.Value
noncomputable section
section
set_option hygiene false
local macro_rules | `(tactic| calc $e:term) => `(tactic| refine $e)
local macro_rules | `(tactic| lia) => `(tactic| first | (with_reducible first | assumption | exact Nat.zero_le _ | exact Nat.le_refl _ | exact Int.natCast_nonneg _ | exact Nat.le_of_lt ‹_› | exact Nat.lt_succ_of_le ‹_› | exact Int.ofNat_lt.mpr ‹_› | exact Eq.symm ‹_› | exact Nat.le_of_not_lt ‹_› | exact Nat.le_trans ‹_› (by decide)) | lia -ring | omega)
local macro_rules | `(tactic| obtain $p:rcasesPatMed := $e:term) => `(tactic| (refine L2.fo λgZ hZ => ?_; rcases $e:term with $p:rcasesPatMed) <;> (refine hZ ?_; clear hZ gZ))
local macro_rules
 | `(tactic| obtain ⟨$ps,*⟩ := $e:term) => do
  let q := ps.getElems
  let n := q.size
  let k0 ← `(tactic| skip)
  let i : Lean.Ident := ⟨e.raw⟩
  let ce ← if e.raw.isIdent then `(tactic| try clear $i:ident) else pure k0
  let mut xs := #[]
  let mut re := #[]
  for p in q do
    let a := p.raw[0][0]
    let x := a[0][0]
    let z := Lean.mkIdent (.num `z_ xs.size)
    let b := x.isIdent && a.getNumArgs == 1 && x.getId != `rfl
    let r ← `(tactic| rcases $z:ident with $p:rcasesPatLo)
    xs := xs.push (if b then ⟨x⟩ else z)
    re := re.push (if b then k0 else r)
  let mut t ← `(tactic| rcases $e:term with ⟨$q,*⟩)
  for m in [2:n+n] do
    let c := if m ≤ n then m - 1 else m - n
    let l := Lean.mkIdent (.str `L2 (if m ≤ n then s!"ya{m}" else s!"yo{c}"))
    let w := q[c:].toArray
    let w ← `(tactic| obtain ⟨$w,*⟩ := zH)
    let f := n ≤ c + 1
    let y := if f then xs else xs[:c].toArray.push (Lean.mkIdent `zH)
    let r := if f then re else re[:c].toArray.push w
    t ← `(tactic| first | (refine $l $e ?_; ($ce:tactic); intro $y*; $[$r]*) | $t:tactic)
  if e.raw.getId == `zH then return t
  `(tactic| (refine L2.fo λgZ hZ => ?_; $t:tactic) <;> (refine hZ ?_; clear hZ gZ))
local macro_rules | `(tactic| nofun) => `(tactic| refine L2.fo λgZ hZ => ?_)
local macro_rules | `(tactic| ac_rfl) => `(tactic| (refine hZ ?_; clear hZ gZ))
local macro_rules | `(()) => `(by lia)
local macro_rules | `(∅) => `(by decide)
local macro_rules | `(⋯) => `(by decide +kernel)
local macro_rules | `(nofun) => `(by simp)
local macro_rules | `(Sort) => `(by grind)
set_option hygiene true
set_option hygiene false
local macro_rules | `(tactic| grind) => `(tactic| first | exact Or.inl rfl | exact Or.inr rfl | assumption)
local macro_rules | `(tactic| exists $n:term) => `(tactic| (have sc := iw $n; refine D.ok (N:=$n) (by walk_at "s") ?_ ?_; (intro vs H Q E h; first | (cases h; subst_vars; rfl) | ((repeat rcases h with ⟨_, h⟩) <;> subst_vars <;> rfl)); intro f fL A outer s H vs Q E hr h))
set_option hygiene true
set_option hygiene false
local macro_rules
 | `(tactic| let ($a,$b,*) := $e) => do
  let w (n : Lean.Syntax) : Lean.MacroM (Lean.TSyntax ``Lean.Parser.Tactic.rcasesPatLo) := do
   let x : Lean.TSyntax `rcasesPat := ⟨n⟩
   `(Lean.Parser.Tactic.rcasesPatLo| $x:rcasesPat)
  let t (p : Array Lean.Syntax) : Lean.MacroM Lean.Syntax := do
   let q ← p.mapM w
   return (← `(rcasesPat| ⟨$q,*⟩)).raw
  let r ← (← `(($a,$b,*))).raw.rewriteBottomUpM λ n => do
   if n.isIdent then
    let i : Lean.Ident := ⟨n⟩
    return (← `(rcasesPat| $i:ident)).raw
   if n.isOfKind ``Lean.Parser.Term.hole then return (← `(rcasesPat| _)).raw
   if n.isOfKind ``Lean.Parser.Term.tuple then return ← t (#[n[1][0]] ++ n[1][2].getSepArgs)
   if n.isOfKind ``Lean.Parser.Term.anonymousCtor then return ← t n[1].getSepArgs
   return n
  let r : Lean.TSyntax `rcasesPat := ⟨r⟩
  `(tactic| obtain $r:rcasesPat := $e)
local macro_rules
 | `(($a,$b,*)) => if a.raw.isOfKind ``Lean.Parser.Term.paren then Lean.Macro.throwUnsupported else `(⟨$a,$b,*⟩)
local macro_rules
 | `(($e :)) => `(by simpa using $e)
 | `($x⁻¹) => `(wpAny (model ($x).prog ($x).w) ($x).A)
set_option hygiene true
abbrev Ts:= @PySem.F.slot_dict_get
abbrev zA2:= @PySem.F.entry_dict_get
abbrev zA3:= @PySem.F.excBase_ValueError
abbrev ug:= @PyProof.Rows.boot_isinstance
abbrev zA5:= @PyProof.Rows.boot_int
abbrev pP:= @PySem.F.plainAttrs_list
abbrev sF:= @PySem.F.slot_list_append
abbrev sL:= @PySem.F.type_list_append
abbrev sM:= @PyProof.Rows.boot_tuple
abbrev oh:= @PyProof.Rows.boot_list
abbrev Gk:= @PyProof.Rows.boot_all
section
open PySem
abbrev J':= @wpAny_bind
abbrev K':= @List.getElem?_map
abbrev P':= @Heap.get?_push_of_some
abbrev S':= @Nat.le_refl
abbrev T':= @Nat.le_of_lt
abbrev U':= @wpAny_pure
abbrev V':= @List.length_map
abbrev W':= @List.getD_eq_getElem?_getD
abbrev X':= @Bool.false_ne_true
abbrev Y':= @PySem.boot_len
abbrev aac:= @Heap.lt_size
abbrev aad:= @List.getElem?_append_right
abbrev aae:= @Nat.lt_of_lt_of_le
abbrev aag:= @List.getElem?_append_left
abbrev aah:= @List.map_append
abbrev aai:= @Heap.get?_push_size
abbrev aak:= @Nat.ne_of_lt
abbrev aal:= @Int.toNat_natCast
abbrev aam:= @Nat.zero_le
abbrev aan:= @List.size_toArray
abbrev aar:= @List.mem_cons_of_mem
abbrev aas:= @List.length_append
abbrev aax:= @List.append_nil
abbrev aaC:= @decide_eq_true
abbrev aaE:= @decide_eq_false
abbrev aaF:= @List.mem_of_getElem?
abbrev aaG:= @PySem.mem_of_lookup
abbrev aaJ:= @List.getElem_mem
abbrev aaL:= @Nat.le_trans
abbrev aaM:= @List.mem_cons_self
abbrev aaN:= @List.mem_append_right
abbrev aaP:= @List.take_length
abbrev aaR:= @wpAny_mono
abbrev aaT:= @Heap.size_push
abbrev aaU:= @of_decide_eq_true
abbrev aaW:= @False.elim
abbrev aaY:= @wpAny_field
abbrev aa1:= @List.length_take
abbrev aa4:= @Bool.and_eq_true
abbrev aa5:= @wpAny_loadPart_at
abbrev aa7:= @True.intro
abbrev abb:= @sizeLine_eq
abbrev abd:= @wpAny_holding
abbrev abn:= @W.mg_none_of
abbrev abr:= @Array.getD_eq_getD_getElem?
abbrev abv:= @Nat.ne_of_gt
abbrev abw:= @List.length_cons
abbrev abx:= @List.map_cons
abbrev aby:= @Int.emod_nonneg
abbrev abF:= @Int.emod_lt_of_pos
abbrev abI:= @Int.eq_ofNat_of_zero_le
abbrev abK:= @Nat.lt_irrefl
abbrev abL:= @Heap.get?_update_other
abbrev abR:= @List.take_of_length_le
abbrev abT:= @decide_eq_true_eq
abbrev abX:= @Int.toNat_of_nonneg
abbrev abY:= @Nat.lt_of_le_of_lt
abbrev abZ:= @wpAny_pyIter_tuple
abbrev ab0:= @Nat.le_add_right
abbrev acg:= @Heap.size_update
abbrev acq:= @Int.zero_add
abbrev acw:= @List.getElem?_of_mem
abbrev acy:= @wpAny_callSpecial?_slot
abbrev acA:= @wpAny_truthy_bool
abbrev acD:= @wpAny_newObj_type
abbrev acF:= @List.take_add_one
abbrev acG:= @PyProof.Rows.callWith_type1
abbrev acJ:= @wpAny_isSubtype_exc
abbrev acU:= @wpAny_call_entry
abbrev acV:= @List.length_replicate
abbrev acW:= @Heap.get?_update_self
abbrev acX:= @List.filter_append
abbrev acY:= @List.take_succ
abbrev acZ:= @PyProof.Rows.slot_tuple_getitem
abbrev ac0:= @Nat.le_succ
abbrev ac1:= @List.getElem?_set_ne
abbrev ac2:= @List.range_succ
abbrev ac3:= @wpAny_pyIter_list
abbrev ac4:= @Heap.get?_push_ne
abbrev ac5:= @List.take_append_of_le_length
abbrev ac6:= @List.length_zipWith
abbrev ac7:= @wpAny_seqItems
abbrev ac8:= @List.ext_getElem
abbrev ac9:= @List.mem_range
end
section
open PySem
abbrev ah:List Str:=["self","way","number","at"]
abbrev aO:List Str:=["_law_pot_here","_law_many"]
abbrev a0:List Str:=["self","way","number"]
abbrev bh:List Str:=["thing","low","beyond"]
abbrev bQ:List Str:=["self","m"]
abbrev b0:List Str:=["self"]
abbrev cb:List Str:=["_law_run_here","_law_twin","_law_m","_law_c","_law_cuts"]
abbrev cm:List Str:=["thing","many"]
abbrev cx:List Str:=["_law_value_here","_law_state","_law_way","_law_said","_law_modulus"]
abbrev cN:List Str:=["run","m","c"]
abbrev c6:List Str:=["_law_machine_here","_law_state","_law_way","_law_said"]
abbrev c7:List Str:=["self","modulus","numbers","row","deeds"]
abbrev da:List Str:=["value","state","way","said","modulus"]
abbrev dh:List Str:=["numbers","deed","worths","modulus"]
abbrev dr:List Str:=["self","machines","ways","letters"]
abbrev dt:List Str:=["self","way","said","sender"]
abbrev du:List Str:=["things","least","most","modulus"]
abbrev dV:List Str:=["modulus","numbers","row","deeds"]
abbrev d8:List Str:=["_law_run_here","_law_m","_law_c"]
abbrev ef:List Str:=["_law_run_here","_law_way","_law_number"]
abbrev eg:List Str:=["_law_twin","_law_cut","_law_m","_law_c"]
abbrev eh:List Str:=["_law_k","_law_pot_here","_law_modulus"]
abbrev ek:List Str:=["_law_one","_law_way","_law_said","_law_numbers","_law_row","_law_machine_here"]
abbrev eo:List Str:=["things","least","most"]
abbrev et:List Str:=["machines","ways","letters"]
abbrev eu:List Str:=["_law_script","_law_k"]
abbrev eE:List Str:=["_law_run_here","_law_way"]
abbrev eH:List Str:=["_law_run_here","_law_cut"]
abbrev eN:List Str:=["_law_net_here"]
abbrev eV:List Str:=["run","cut"]
abbrev eW:List Str:=["_law_found","_law_due"]
abbrev e9:List Str:=["_law_k","_law_told","_law_m"]
abbrev fh:List Str:=["value","state","way","said"]
abbrev fv:List Str:=["_law_script"]
abbrev fw:List Str:=["self","state","way","said"]
abbrev fx:List Str:=["thing","sort","many"]
abbrev fy:List Str:=["row","deed","worths"]
abbrev gg:List Str:=["self","m","end"]
abbrev gk:List Str:=["_law_told","_law_cells"]
abbrev g0:List Str:=["_law_one","_law_other"]
abbrev g8:List Str:=["_law_twin","_law_cell"]
abbrev hE:List Str:=["_law_one"]
abbrev hH:List Str:=["self","way","at"]
abbrev hQ:List Str:=["machine"]
abbrev hY:List Str:=["deed","worths"]
abbrev ib:List Str:=["passed","cut"]
abbrev ih:List Str:=["run","thing"]
end
namespace L2
open PySem PySem.Spec PyProof.Rows
theorem cJ{α:Type _}{l:List α}(h:i<l.length):l[i]?=some l[i]:=List.getElem?_eq_getElem h
abbrev Key:=Sum Int Str
noncomputable def uh:Key->Value->Bool
 | .inl k,v=>Value.isInt k v
 | .inr x,v=>Value.isStrOf x v
noncomputable def aec(w:World):Key->Int
 | .inl k=>hashInt k
 | .inr x=>hashStr w x
theorem c9:∀{k:Key}{v:Value},uh k v=true->(∃i t,k=Sum.inl i/\v=Value.int i t)\/(∃x t,k=Sum.inr x/\v=Value.str x t)
 | .inl i,v,h=>by
  let(t,e):=Value.isInt_shape (k:=i) (v:=v) h;calc .inl (i,t,rfl,e)
 | .inr x,v,h=>by
  let(t,e):=Value.isStrOf_shape (x:=x) (v:=v) h;calc .inr (x,t,rfl,e)
theorem Gm(i:Int)(t:Tok):uh (.inl i) (.int i t)=true:=by simp[uh,Value.isInt]
theorem Gn(x:Str)(t:Tok):uh (.inr x) (.str x t)=true:=by simp[uh,Value.isStrOf]
theorem Tt(a b:Int):decide ((Sum.inl a:Key)=Sum.inl b)=(a==b):=by
 by_cases e:a=b
 .subst e;simp
 .have h:¬(Sum.inl a:Key)=Sum.inl b:=λq=>e (Sum.inl.inj q);rw[aaE h];calc(beq_eq_false_iff_ne.mpr e).symm
theorem Tu(a b:Str):decide ((Sum.inr a:Key)=Sum.inr b)=decide (a=b):=by
 by_cases e:a=b
 .subst e;simp
 .have h:¬(Sum.inr a:Key)=Sum.inr b:=λq=>e (Sum.inr.inj q);rw[aaE h,aaE e]
theorem Tv(a:Int)(b:Str):decide ((Sum.inl a:Key)=Sum.inr b)=false:=aaE (λq=>nomatch q)
theorem Tw(a:Str)(b:Int):decide ((Sum.inr a:Key)=Sum.inl b)=false:=aaE (λq=>nomatch q)
noncomputable def cO(prog:Program)(w:World):PySem.KeyKind prog w Key where
 is:=uh
 hash:=aec w
 inj:=λv a b f d=>by
  rcases c9 f with⟨i,t,rfl,rfl⟩|⟨x,t,rfl,rfl⟩
  .rcases c9 d with⟨j,u,rfl,e⟩ | ⟨y,u,rfl,e⟩
   .injection e with e1 _;rw[e1]
   .exact nomatch e
  .rcases c9 d with⟨j,u,rfl,e⟩ | ⟨y,u,rfl,e⟩
   .exact nomatch e
   .injection e with e1 _;rw[e1]
 byValue:=λk v h=>by
  rcases c9 h with⟨i,t,rfl,rfl⟩|⟨x,t,rfl,rfl⟩<;>rfl
 pyHash:=λc h=>by
  rcases c9 c with⟨i,t,rfl,rfl⟩|⟨x,t,rfl,rfl⟩
  .exact wpAny_pyHash_int h
  .exact wpAny_pyHash_str h
 eqBool:=λg c h=>by
  rcases c9 g with⟨i,t,rfl,rfl⟩|⟨x,t,rfl,rfl⟩
  .rcases c9 c with⟨j,u,rfl,rfl⟩ | ⟨y,u,rfl,rfl⟩
   .rw[Tt]at h;exact wpAny_eqBool_int h
   .rw[Tv]at h;exact SeqAt.EqAt.int_str i t y u _ _ _ _ h
  .rcases c9 c with⟨j,u,rfl,rfl⟩ | ⟨y,u,rfl,rfl⟩
   .rw[Tw]at h;exact SeqAt.EqAt.str_int x t j u _ _ _ _ h
   .rw[Tu]at h;exact wpAny_eqBool_str h
 «strs»:=λk x t v h=>by
  rcases c9 h with⟨i,u,rfl,e⟩|⟨y,u,rfl,e⟩
  .exact nomatch e
  .injection e with e1 _
   subst e1
   cases v<;>rfl
theorem CA(prog:Program)(w:World)(k:Key)(v:Value):(cO prog w).is k v=uh k v:=rfl
theorem Ai(prog:Program)(w:World)(i:Int)(t:Tok):(cO prog w).is (.inl i) (.int i t)=true:=Gm i t
theorem Aj(prog:Program)(w:World)(x:Str)(t:Tok):(cO prog w).is (.inr x) (.str x t)=true:=Gn x t
section
variable {a b:Addr}{H:Hp}
inductive V where
 |bL|bl (b:Bool)|int (i:Int)|str (x:Str)|En (b:Array UInt8)|Rp (b:UInt64)|ref (a:Addr)|ty (n:String)
 deriving DecidableEq
def RelV:V->Value->Prop
 | .bL,u=>u=Value.none
 | .bl b,u=>u=Value.bool b
 | .int i,u=>∃t,u=Value.int i t
 | .str x,u=>∃t,u=Value.str x t
 | .En b,u=>∃t,u=Value.bytes b t
 | .Rp b,u=>∃t,u=Value.float b t
 | .ref a,u=>u=Value.ref a
 | .ty n,u=>u=Value.type n
abbrev Vals:List V->List Value->Prop:=Paired RelV
theorem Vals.length(r:Vals xs us):xs.length=us.length:=Paired.length r
theorem Vals.get:∀{xs:List V}{us:List Value}{i:Nat}{x:V},Vals xs us->xs[i]?=some x->∃u,us[i]?=some u/\RelV x u
 |_,_,_,_,.nil,e=>by simp at e
 |_,_,0,_,.cons r _,e=>by simp at e;subst e;calc(_,rfl,r)
 |_,_,i+1,x,.cons _ t,e=>by
  let(u,a,b):=Vals.get (i:=i) (x:=x) t (e:);calc(u,(a:),b)
theorem Vals.set(r:RelV x u):∀{xs:List V}{us:List Value}(i:Nat),Vals xs us->Vals (xs.set i x) (us.set i u)
 |_,_,_,.nil=>.nil
 |_,_,0,.cons _ t=>.cons r t
 |_,_,i+1,.cons q t=>.cons q (Vals.set r i t)
theorem Vals.append:∀{xs a:List V}{us ws:List Value},Vals xs us->Vals a ws->Vals (xs++a) (us++ws)
 |_,_,_,_,.nil,s=>s
 |_,_,_,_,.cons r t,s=>.cons r (Vals.append t s)
theorem Vals.take:∀{xs:List V}{us:List Value}(n:Nat),Vals xs us->Vals (xs.take n) (us.take n)
 |_,_,0,_=>.nil
 |_,_,_+1,.nil=>.nil
 |_,_,n+1,.cons r t=>.cons r (Vals.take n t)
theorem Vals.drop:∀{xs:List V}{us:List Value}(n:Nat),Vals xs us->Vals (xs.drop n) (us.drop n)
 |_,_,0,r=>r
 |_,_,_+1,.nil=>.nil
 |_,_,n+1,.cons _ t=>Vals.drop n t
def kF:Option V->Option Value->Prop
 |some v,some u=>RelV v u
 |none,none=>True
 |_,_=>False
def KV{κ:Type}:List (κ×V)->List (κ×Value)->Prop:=Paired λ(p:κ×V) (q:κ×Value)=>p.1=q.1/\RelV p.2 q.2
noncomputable def kV:Key->V
 | .inl i=>.int i
 | .inr x=>.str x
inductive HO where
 |lst (xs:List V)
 |tup (xs:List V)
 |dK (aU:List (Key×V))|dT (aU:List (List Key×V))
 |set (S:Int->Bool) (n:Nat)
 |ins (C dx:Addr) (fs:List (Str×V))
 |own (x:Addr)
 |xd (fs:List (Str×V))
 |met (f x:Addr)
 |rng (lo hi:Int)
 |Cj (o:Obj) (u:HO)
 |Tz (ps:Array Value)
 |ext (φ:Heap->Prop)
abbrev Hp:=Addr->Option HO
noncomputable def upd(H:Hp)(a:Addr)(o:HO):Hp:=λb=>if b=a then some o else H b
theorem af:upd H a o a=some o:=by unfold upd;rw[if_pos rfl]
theorem ay(h:b≠a):upd H a o b=H b:=by unfold upd;rw[if_neg h]
theorem sO(h:H a=some o)(h':H b=some u)(d:o≠u):a≠b:=by
 intro e;subst e;rw[h]at h';calc d (Option.some.inj h')
theorem av(h:H a=some o)(h':H b=none):a≠b:=by
 intro e;subst e;rw[h]at h';cases h'
section
variable (P:Program)(w:World)
def cy(H:Hp)(h:Heap)(a:Addr):HO->Prop
 | .lst xs=>xs.length<=sizeLine/\∃(b:List Value) (n:Nat),Vals xs b/\h.get? a=some {cls:=.type "list",data:=.seq b.toArray n}
 | .tup xs=>xs.length<=sizeLine/\∃b:List Value,Vals xs b/\IsTup h a b.toArray
 | .dK b=>b.length<=sizeLine/\(a==sysModules)=false/\∃vs,KV b vs/\h.DictOf (cO P w) a vs
 | .dT b=>b.length<=sizeLine/\(a == sysModules)=false/\∃xs:List (List Key×Addr×Value),
   Paired (λ(p:List Key×V) (q:List Key×Addr×Value)=>p.1=q.1/\H q.2.1=some (.tup (p.1.map kV))/\RelV p.2 q.2.2) b xs/\
   ∃o b ep,h.get? a=some o/\o.ExactDict/\o.data=.dict b ep/\b.toList=xs.map (entryOfKey (tupleKind (cO P w)))/\(xs.map (·.1)).Nodup
 | .set S n=>h.SetOf (intKind P w) a S n
 | .ins C d c=>H d=some (.own a)/\c.length<=1000/\d≠a/\h.get? a=some (W.instObj C d)/\
   ∃b,h.Ns1 d b/\(∀f,kF (c.lookup f) (b f))/\PySem.Within b (c.map (·.1))
 | .own _=>∃o,h.get? a=some o
 | .xd c=>∃b,h.Ns1 a b/\∀f,kF (c.lookup f) (b f)
 | .rng lo b=>∃t u v,h.get? a=some {cls:=.type "range",data:=.fields #[.int lo t,.int b u,.int 1 v]}
 | .Cj o u=>h.get? a=some o/\cy H h a u
 | .Tz b=>h.get? a=some {cls:=.none,data:=.fields b}
 | .met f x=>h.get? a=some (W.methodObj (.ref f) (.ref x))
 | .ext φ=>φ h/\(∃o,h.get? a=some o)/\∀b c:Heap,φ b->(∀o,b.get? a=some o->c.get? a=some o)->φ c
def nS(H:Hp)(h:Heap):Prop:=∀a o,H a=some o->cy P w H h a o
end
theorem cy.lt(x:cy P w H h a o):a<h.objs.size:=by
 cases o with
 |lst b=>let(_,_,_,_,e):=x;calc aac e
 |tup b=>let(_,_,_,p):=x;calc p.lt
 |dK b=>let(_,_,_,_,o,_,_,e,_):=x;calc aac e
 |dT b=>let(_,_,_,_,o,_,_,e,_):=x;calc aac e
 |set S n=>let(o,_,_,_,e,_):=x;calc aac e
 |ins C c b=>let(_,_,_,e,_):=x;calc aac e
 |own y=>let(_,e):=x;calc aac e
 |xd b=>let(_,(_,_,_,e,_),_):=x;calc aac e
 |rng b c=>let(_,_,_,e):=x;calc aac e
 |Cj b u=>let(e,_):=x;calc aac e
 |Tz b=>calc aac (show h.get? a=some _ from x)
 |met f y=>calc aac (show h.get? a=some _ from x)
 |ext φ=>let(_,(_,e),_):=x;calc aac e
theorem Paired.Jb{α β:Type}{F G:α->β->Prop}:∀{c:List α}{d:List β},Paired F c d->(∀a b,F a b->G a b)->Paired G c d
 |_,_,.nil,_=>.nil
 |_,_,.cons r t,f=>.cons (f _ _ r) (Paired.Jb t f)
theorem cy.aL(x:cy P w H h a o)(k:∀b u,(b=a\/H b=some (.own a))->h.get? b=some u->h'.get? b=some u)(m:∀b,H b=some (.own a)->H' b=some (.own a))(j:∀b xs,H b=some (.tup xs)->H' b=some (.tup xs)):cy P w H' h' a o:=by
 induction o with
 |lst xs=>let(z,d,n,r,e):=x;calc(z,d,n,r,k _ _ (.inl rfl) e)
 |tup xs=>let(z,d,r,f,e,c):=x;calc(z,d,r,f,k _ _ (.inl rfl) e,c)
 |dK d=>let(z,y,l,r,f,g,i,e,c):=x;calc(z,y,l,r,f,g,i,k _ _ (.inl rfl) e,c)
 |dT d=>
  let(z,y,xs,r,f,g,i,e,c):=x;calc(z,y,xs,Paired.Jb r λp q z=>(z.1,j _ _ z.2.1,z.2.2),f,g,i,k _ _ (.inl rfl) e,c)
 |set S n=>let(f,g,i,t,e,c):=x;calc(f,g,i,t,k _ _ (.inl rfl) e,c)
 |ins C d n=>
  let(d,z,s,e,j,(l,g,i,v,c),r):=x;calc(m _ d,z,s,k _ _ (.inl rfl) e,j,(l,g,i,k _ _ (.inr d) v,c),r)
 |own y=>let(f,e):=x;calc(f,k _ _ (.inl rfl) e)
 |xd n=>let(j,(l,g,i,e,c),r):=x;calc(j,(l,g,i,k _ _ (.inl rfl) e,c),r)
 |rng c d=>let(t,u,v,e):=x;calc(t,u,v,k _ _ (.inl rfl) e)
 |Cj f u c=>let(e,q):=x;calc(k _ _ (.inl rfl) e,c q)
 |Tz c=>
  have e:h.get? a=some {cls:=.none,data:=.fields c}:=x;show h'.get? a=some {cls:=.none,data:=.fields c};calc k a _ (.inl rfl) e
 |met f y=>
  have e:h.get? a=some (W.methodObj (.ref f) (.ref y)):=x;show h'.get? a=some (W.methodObj (.ref f) (.ref y));calc k a _ (.inl rfl) e
 |ext φ=>let(p,(o,e),c):=x;calc(c _ _ p λo q=>k _ _ (.inl rfl) q,(o,k _ _ (.inl rfl) e),c)
theorem nS.lt(x:nS P w H h)(e:H a=some o):a<h.objs.size:=(x a o e).lt
theorem nS.fresh(x:nS P w H h)(e:h.objs.size<=a):H a=none:=by
 cases q:H a with
 |none=>rfl
 |some u=>calc absurd (aae (x.lt q) e) (abK _)
theorem nS.kept(x:nS P w H h)(k:∀b u,h.get? b=some u->h'.get? b=some u):nS P w H h':=λa o e=>
 (x a o e).aL (λb u _ q=>k b u q) (λ_ q=>q) λ_ _ q=>q
theorem nS.laid(x:nS P w H h)(k:∀b u,h.get? b=some u->h'.get? b=some u)(g:h.objs.size<=a)(c:cy P w (upd H a o) h' a o):nS P w (upd H a o) h':=λb u e=>by
 have d:=x.fresh g;by_cases f:b=a
 .subst f;rw[af]at e;cases e;exact c
 .rw[ay f]at e;exact(x b u e).aL (λc v _ q=>k c v q) (λc q=>by rw[ay (av q d)];calc q) λc e q=>by rw[ay (av q d)];calc q
def Rd(H:Hp)(a:Addr)(u:HO):Prop:=H a=some u\/∃o,H a=some (.Cj o u)
theorem Rd.ok(r:Rd H a u)(x:nS P w H h):cy P w H h a u:=by
 rcases r with r|⟨o,r⟩
 .exact x a u r
 .let(_,q):=x a _ r;calc q
def Yy:Option HO->Prop
 |some (.lst _)=>True
 |some (.dK _)=>True
 |some (.dT _)=>True
 |some (.set _ _)=>True
 |some (.ins _ _ _)=>True
 |some (.ext _)=>True
 |_=>False
theorem nS.write(o:nS P w H h)(a:Yy (H x))(l:e=x\/H e=some (.own x))(k:∀b u,b≠e->h.get? b=some u->h'.get? b=some u)(p:∃u,h'.get? e=some u)(j:cy P w (upd H x o') h' x o'):nS P w (upd H x o') h':=λb u q=>by
 have m:∀c y,H c=some (.own y)->c≠x:=λc y r z=>by subst z;rw[r]at a;exact a
 have s:∀c d,H c=some (.tup d)->c≠x:=λc d r z=>by subst z;rw[r]at a;exact a
 by_cases f:b=x
 .subst f;rw[af]at q;cases q;exact j
 .rw[ay f] at q;by_cases g:b=e
  .have n:H b=some (.own x):=by
    rcases l with z|z
    .exact absurd (g.trans z) f
    .rw[g];exact z
   rw[q]at n;cases n;let(v,a):=p;exact(v,by rw[g];calc a)
  .refine(o b u q).aL (λc v i r=>k c v ?_ r) (λc r=>by rw[ay (m c b r)];calc r) λc d r=>by rw[ay (s c d r)];exact r
   rcases i with rfl|i
   .exact g
   .rintro rfl;rcases l with z | z
    .exact m c b i z
    .rw[i]at z;cases z;calc f rfl
structure Un(fs ex:List Addr)(H H':Hp)(h h':Heap):Prop where
 keep:∀b o,h.get? b=some o->H b=none->b∉fs->b∉ex->h'.get? b=some o
 slot:∀b o,h.get? b=some o->H b=none->b∈fs->b∉ex->∃sl,h'.get? b=some {o with slots:=sl}
 free:∀b o,h.get? b=some o->H b=none->b∉ex->H' b=none
 there:∀b o,h.get? b=some o->b∉ex->∃o',h'.get? b=some o'
 aR:∀b xs,H b=some (.tup xs)->H' b=some (.tup xs)
 we:∀b o u,H b=some (.Cj o u)->H' b=some (.Cj o u)
 yp:∀b ps,H b=some (.Tz ps)->∃more,H' b=some (.Tz (ps++more))
section
variable {fs ex:List Addr}{H:Hp}{h h':Heap}{a:Addr}{o:HO}
theorem Un.any(u:Un fs ex H H1 h h1){a:Obj}(q:h.get? b=some a)(n:H b=none)(c:b∉ex):∃d,h1.get? b=some {a with slots:=d}:=by
 by_cases d:b∈fs
 .exact u.slot b a q n d c
 .calc(a.slots,u.keep b a q n d c)
theorem Un.kept(k:∀b u,h.get? b=some u->h'.get? b=some u):Un fs ex H H h h':=
 (λb a q _ _ _=>k b a q,λb a q _ _ _=>(a.slots,k b a q),λ_ _ _ n _=>n,λb a q _=>(a,k b a q),λ_ _ q=>q,λ_ _ _ q=>q,λ_ a q=>(#[],by rw[q];simp))
theorem Un.refl:Un fs ex H H h h:=Un.kept λ_ _ q=>q
theorem Un.laid(k:∀b u,h.get? b=some u->h'.get? b=some u)(d:h.objs.size<=a)(c:H a=none):Un fs ex H (upd H a o) h h' where
 keep:=λb u q _ _ _=>k b u q
 slot:=λb u q _ _ _=>(u.slots,k b u q)
 free:=λb u q n _=>by rw[ay (aak (aae (aac q) d))];exact n
 there:=λb u q _=>(u,k b u q)
 aR:=λb d q=>by rw[ay (av q c)];exact q
 we:=λb u d q=>by rw[ay (av q c)];exact q
 yp:=λb d q=>(#[],by rw[ay (av q c),q];simp)
theorem Un.write(a:Yy (H x))(i:e=x\/H e=some (.own x))(k:∀b u,b≠e->h.get? b=some u->h'.get? b=some u)(j:∃u,h'.get? e=some u):Un fs ex H (upd H x o) h h':=by
 have d:∀b,H b=none->b≠x:=λb n z=>by subst z;rw[n]at a;exact a
 have f:∀b,H b=none->b≠e:=λb n z=>by
  subst z;rcases i with r|r
  .exact d b n r
  .rw[n]at r;cases r
 have c:∀b u,H b=some u->¬Yy (some u)->b≠x:=λb u q l z=>by subst z;rw[q]at a;exact l a
 refine(λb u q n _ _=>k b u (f b n) q,λb u q n _ _=>(u.slots,k b u (f b n) q),λb u q n _=>by rw[ay (d b n)];exact n,λb u q _=>?_,
  λb a q=>by rw[ay (c b _ q λz=>z)];calc q,λb u a q=>by rw[ay (c b _ q λz=>z)];calc q,λb a q=>(#[],by rw[ay (c b _ q λz=>z),q];simp))
 by_cases g:b=e
 .subst g;exact j
 .calc(u,k b u g q)
end
noncomputable def trk(h:Heap)(H:Hp):List Addr:=(List.range h.objs.size).filter λa=>(H a).isSome
noncomputable def yq(h:Heap)(H:Hp):Heap:=W.hideAll h (trk h H)
theorem Gq(h:Heap)(H:Hp):(yq h H).objs.size=h.objs.size:=W.hideAll_size _ _
theorem Jc(e:h.get? b=some o)(n:H b=none):(yq h H).get? b=some o:=
 W.hideAll_get _ e λa=>by
  have q:(H b).isSome=true:=(List.mem_filter.mp a).2;rw[n]at q;simp at q
theorem OD(e:(yq h H).get? b=some o):h.get? b=some o/\H b=none:=by
 have a:h.get? b=some o:=W.of_hideAll (trk h H) e;refine(a,?_)
 cases q:H b with
 |none=>rfl
 |some x=>
  have c:b∈trk h H:=List.mem_filter.mpr (List.mem_range.mpr (aac a),by simp[q]);have z:(yq h H).get? b=none:=W.hideAll_none (trk h H) c;rw[z]at e;cases e
end
section
variable {A:Around}
structure Mod(K:W.Frag)(mg:jP)(base:Heap):Prop where
 CB:K.In base
 glob:base.Ns mainGlobals mg
 blt:∃mb,base.Ns builtinsNs mb/\∀x:Str,x≠"__name__"->mb x=bootBuiltins x
 nolimit:base.NoLimit
structure Cx where
 prog:Program
 w:World
 K:W.Frag
 mg:Str->Option Value
 base:Heap
 A:Around
 N:List Str
 s₀:Shared
 H₀:Hp
 env:Env
 outer:List Env
 stack:List Env
 ex:List Addr
 fn:Str->Bool
 calm:Bool
 pn:List (Addr×Obj)
 xe:Value->Shared->Prop
noncomputable def zV(l:List Env):List Addr:=l.filterMap (·.frame)
noncomputable abbrev Cx.fs(X:Cx):List Addr:=zV X.outer
def YA(sc:Scope)(x:Str):Prop:=sc.names.lookup x=some .local\/sc.names.lookup x=some .cell\/sc.names.lookup x=some .free
def Loc(sc:Scope)(x:Str):Prop:=sc.names.lookup x=some .local\/sc.names.lookup x=some .cell
def Look(env:Env)(h:Heap)(m:jP)(x:Str)(u:Value):Prop:=
 (env.kindOf x=some .local/\m x=some u)\/((env.kindOf x=some .cell\/env.kindOf x=some .free)/\∃c,env.cells.lookup x=some c/\h.IsCell c (some u))
structure Cx.Ok(X:Cx):Prop where
 mod:Mod X.K X.mg X.base
 kind:X.env.scope.kind=.function
 glob:X.env.globals=mainGlobals
 blt:X.env.builtins=builtinsNs
 above:X.s₀.heap.objs.size<=X.env.locals
 inj:∀x y c,X.env.cells.lookup x=some c->X.env.cells.lookup y=some c->x=y
 has:∀x,(X.env.kindOf x=some .cell\/X.env.kindOf x=some .free)->∃c,X.env.cells.lookup x=some c
 TB:∀x c,X.fn x=true->X.env.cells.lookup x=some c->X.s₀.heap.objs.size<=c
 hd:X.calm=true->X.A.handled=none
 frames:X.A.frames=some X.stack
 Xg:X.stack=X.outer\/(X.stack=X.env::X.outer/\X.env.frame=some X.env.locals)
 YB:∀b∈X.ex,b≠X.env.locals/\∀x c,X.env.cells.lookup x=some c->c≠b
 bs:∀b o,X.base.get? b=some o->X.s₀.heap.get? b=some o/\X.H₀ b=none
 IC:X.base.objs.size<=X.s₀.heap.objs.size
 Ak:∀b o,X.base.get? b=some o->b∉X.ex
 CC:∀b∈X.ex,b∉X.fs
 pS:X.s₀.heap.FunFrames X.base X.outer
 OE:∀b∈X.fs,X.H₀ b=none
structure Inv(X:Cx)(pins:jn)(σ:List (Option V))(H:Hp)(s:Shared):Prop where
 ok:X.Ok
 os:s.os=X.s₀.os
 bare:AllBare s.gens
 base:Un X.fs X.ex X.H₀ H X.s₀.heap s.heap
 loc:∃m,s.heap.Ns X.env.locals m/\∀(i:Nat) (x:Str) (v:V),X.N[i]?=some x->σ[i]?=some (some v)->YA X.env.scope x->∃u,RelV v u/\Look X.env s.heap m x u
 cell:∀x c,X.env.cells.lookup x=some c->∃v,s.heap.IsCell c v
 free:H X.env.locals=none
 jv:∀x c,X.env.cells.lookup x=some c->H c=none
 pin:∀p∈X.pn++pins,s.heap.get? p.1=some p.2/\H p.1=none/\p.1≠X.env.locals/\p.1∉X.fs/\∀v,p.2.data≠.cell v
 aY:nS X.prog X.w H s.heap
 len:σ.length=X.N.length
theorem Cx.Ok.TC{X:Cx}(a:X.Ok)(e:X.base.get? b=some o):b∉X.fs:=λc=>by
 have:=(a.pS.mem c).1;rw[e]at this;cases this
theorem Inv.bs(I:Inv X pins σ H s):∀b o,X.base.get? b=some o->s.heap.get? b=some o/\H b=none:=λb o e=>
 (I.base.keep b o (I.ok.bs b o e).1 (I.ok.bs b o e).2 (I.ok.TC e) (I.ok.Ak b o e),I.base.free b o (I.ok.bs b o e).1 (I.ok.bs b o e).2 (I.ok.Ak b o e))
theorem Inv.bk(I:Inv X pins σ H s):∀b o,X.base.get? b=some o->s.heap.get? b=some o:=λb o e=>(I.bs b o e).1
theorem Inv.mod(I:Inv X pins σ H s):Mod X.K X.mg X.base:=I.ok.mod
theorem Inv.iQ(I:Inv X pins σ H s):X.K.In s.heap:=I.ok.mod.CB.keeps I.bk
theorem Inv.lt(I:Inv X pins σ H s):X.env.locals<s.heap.objs.size:=let ⟨_,a,_⟩:=I.loc;a.lt
theorem Inv.sz(I:Inv X pins σ H s):X.s₀.heap.objs.size<=s.heap.objs.size:=aaL I.ok.above (T' I.lt)
theorem Inv.TF(I:Inv X pins σ H s)(h:s.heap.objs.size<=a):a∉X.fs:=λa=>by
 let(_,o,b,_):=I.ok.pS.mem a;calc absurd (aae (aac b) (aaL I.sz h)) (abK _)
theorem Inv.Jd(I:Inv X pins σ H s):∀x c,X.env.cells.lookup x=some c->c≠X.env.locals:=λx c e z=>by
 let(v,o,a,b):=I.cell x c e;let(m,(g,h,i,d,f,_),_):=I.loc;rw[z,d]at a;cases a;rw[f]at b;cases b
theorem Inv.pS(I:Inv X pins σ H s):s.heap.FunFrames X.base X.outer:=by
 have a:∀(l:List Env),(∀b∈zV l,b∈X.fs)->X.s₀.heap.FunFrames X.base l->s.heap.FunFrames X.base l:=by
  intro l;induction l with
  |nil=>intro _ _;trivial
  |cons c r h=>
   intro g e;let(i,(L,o,c,j,f,k),l):=e;have d:L∈X.fs:=g L (by unfold zV;rw[List.filterMap_cons,c];calc aaM);let(m,e):=I.base.slot L o f (I.ok.OE L d) d λz=>I.ok.CC L z d;exact(i,(L,_,c,j,e,k),h (λb f=>g b (by unfold zV;rw[List.filterMap_cons,c];calc aar _ f)) l)
 calc a X.outer (λ_ f=>f) I.ok.pS
theorem Inv.stack(I:Inv X pins σ H s):s.heap.FunFrames X.base X.stack:=by
 rcases I.ok.Xg with e|⟨e,a⟩
 .rw[e];exact I.pS
 .rw[e];let(m,b,_):=I.loc;calc .cons (by rw[I.ok.kind];decide) a b ?_ I.pS;calc Heap.get?_none_of_le (aaL I.ok.IC I.ok.above)
theorem Inv.yt(I:Inv X pins σ H s):∀b∈zV X.stack,b∈X.env.locals::X.fs:=λb a=>by
 rcases I.ok.Xg with e|⟨e,b⟩
 .rw[e]at a;exact aar _ a
 .rw[e]at a;unfold zV at a;rw[List.filterMap_cons,b]at a;calc a
theorem Inv.tU(I:Inv X pins σ H s):∀b∈zV X.stack,H b=none:=λb a=>by
 rcases List.mem_cons.mp (I.yt b a) with e|a
 .rw[e];exact I.free
 .let(_,o,c,_):=I.ok.pS.mem a;calc I.base.free b o c (I.ok.OE b a) λz=>I.ok.CC b z a
theorem Inv.step{ch:List Addr}(I:Inv X pins σ H s)(t:∀b∈ch,(b∈X.ex\/X.s₀.heap.objs.size<=b)/\b≠X.env.locals/\(∀x c,X.env.cells.lookup x=some c->c≠b)/\∀p∈X.pn++pins,p.1≠b)(keep:∀b o,b≠X.env.locals->b∉X.fs->b∉ch->s.heap.get? b=some o->H b=none->h'.get? b=some o)(slot:∀b o,b≠X.env.locals->b∈X.fs->b∉ch->s.heap.get? b=some o->H b=none->∃D,h'.get? b=some {o with slots:=D})(free:∀b o,b∉ch->s.heap.get? b=some o->H b=none->H' b=none)(there:∀b o,b∉ch->s.heap.get? b=some o->∃k,h'.get? b=some k)(J:∀b xs,H b=some (.tup xs)->H' b=some (.tup xs))(K:∀b o u,H b=some (.Cj o u)->H' b=some (.Cj o u))(L:∀b C,H b=some (.Tz C)->∃q,H' b=some (.Tz (C++q)))(M:∀m,s.heap.Ns X.env.locals m->h'.Ns X.env.locals m)(N:nS X.prog X.w H' h')(O:AllBare g'):
  Inv X pins σ H' {s with heap:=h',gens:=g',drawn:=d',toks:=t'}:=by
 have y:∀b o,X.s₀.heap.get? b=some o->b≠X.env.locals:=λb o e=>aak (aae (aac e) I.ok.above);have f:∀b o,X.s₀.heap.get? b=some o->b∉X.ex->b∉ch:=λb o e a h=>by
  rcases(t b h).1 with z|z
  .exact a z
  .exact absurd (aae (aac e) z) (abK _)
 have d:∀x c,X.env.cells.lookup x=some c->∀v,s.heap.IsCell c v->h'.IsCell c v:=λx c e v (o,j,E)=>by
  have A:c∉ch:=λz=>(t c z).2.2.1 x c e rfl;by_cases F:c∈X.fs
  .let(D,q):=slot c o (I.Jd x c e) F A j (I.jv x c e);exact(_,q,E)
  .exact(o,keep c o (I.Jd x c e) F A j (I.jv x c e),E)
 refine(I.ok,I.os,O,(λb o e n h a=>?_,λb o e n h a=>?_,λb o e n a=>?_,λb o e a=>?_,λb xs e=>J b xs (I.base.aR b xs e),λb o xs e=>K b o xs (I.base.we b o xs e),λb C e=>?_),?_,λx c e=>?_,?_,λx c e=>?_,λp G=>?_,N,I.len)
 .exact keep b o (y b o e) h (f b o e a) (I.base.keep b o e n h a) (I.base.free b o e n a)
 .let(D,g):=I.base.slot b o e n h a;let(q,B):=slot b _ (y b o e) h (f b o e a) g (I.base.free b o e n a);exact(q,B)
 .let(k,g):=I.base.there b o e a;exact free b k (f b o e a) g (I.base.free b o e n a)
 .let(k,g):=I.base.there b o e a;exact there b k (f b o e a) g
 .let(a,g):=I.base.yp b C e;let(f,B):=L b _ g;exact(a++f,by rw[B,Array.append_assoc])
 .let(m,a,P):=I.loc;calc(m,M m a,λi x v g B Q=>?_);let(u,r,l):=P i x v g B Q;calc(u,r,?_);rcases l with l | ⟨k,c,e,z⟩
  .exact .inl l
  .exact .inr (k,c,e,d x c e _ z)
 .let(v,z):=I.cell x c e;exact(v,d x c e v z)
 .let(m,(o,_,_,j,_),_):=I.loc;exact free _ o (λz=>(t _ z).2.1 rfl) j I.free
 .let(v,o,j,E):=I.cell x c e;exact free c o (λz=>(t c z).2.2.1 x c e rfl) j (I.jv x c e)
 .let(e,n,a,b,d):=I.pin p G;have A:p.1∉ch:=λz=>(t p.1 z).2.2.2 p G rfl;calc(keep p.1 p.2 a b A e n,free p.1 p.2 A e n,a,b,d)
theorem Inv.un(I:Inv X pins σ H s)(u:Un X.fs [] H H' s.heap h')(h:nS X.prog X.w H' h'):Inv X pins σ H' {s with heap:=h',toks:=t'}:=by
 let(m,(o,a,b,f,r),_):=id I.loc;let(a,i):=u.any f I.free nofun;exact I.step (g':=s.gens) (d':=s.drawn) (ch:=[]) (λ_ z=>nomatch z) (λb o _ a _ e n=>u.keep b o e n a nofun) (λb o _ a _ e n=>u.slot b o e n a nofun) (λb o _ e n=>u.free b o e n nofun) (λb o _ e=>u.there b o e nofun) u.aR u.we u.yp (λa j=>by
  let(a,c,d,g,k):=j;rw[f] at g;cases g;calc(_,c,d,i,k)) h I.bare
theorem Inv.call(I:Inv X pins σ H s)(u:Un (zV X.stack) ch H H' s.heap h')(k:nS X.prog X.w H' h')(l:AllBare g')(h:∀b∈ch,(b∈X.ex\/X.s₀.heap.objs.size<=b)/\b≠X.env.locals/\(∀x c,X.env.cells.lookup x=some c->c≠b)/\∀p∈X.pn++pins,p.1≠b):
  Inv X pins σ H' {s with heap:=h',gens:=g',drawn:=d',toks:=t'}:=by
 let(m,(o,a,c,i,r),_):=id I.loc;let(a,d):=u.any i I.free λz=>(h _ z).2.1 rfl;exact I.step (ch:=ch) h (λb o d c a e n=>u.keep b o e n (λz=>(List.mem_cons.mp (I.yt b z)).elim d c) a) (λb o _ _ a e n=>u.any e n a) (λb o a e n=>u.free b o e n a) (λb o a e=>u.there b o e a) u.aR u.we u.yp (λc q=>by
  let(a,f,g,j,t):=q;rw[i] at j;cases j;calc(_,f,g,d,t)) k l
theorem Inv.turned(I:Inv X pins σ H s)(k:∀b o,b≠a->s.heap.get? b=some o->h'.get? b=some o)(j:H a=none)(g:a≠X.env.locals)(l:a∈X.ex\/X.s₀.heap.objs.size<=a)(r:∀x c,X.env.cells.lookup x=some c->c≠a)(t:∀p∈X.pn++pins,p.1≠a):Inv X pins σ H {s with heap:=h',toks:=t'}:=by
 have i:∀b u,H b=some u->b≠a:=λb u e z=>by rw[z,j]at e;cases e
 refine I.step (g':=s.gens) (d':=s.drawn) (ch:=[a]) (λb j=>?_) (λb o _ _ d e _=>k b o (λz=>d (by simp[z])) e) (λb o _ _ d e _=>(o.slots,k b o (λz=>d (by simp[z])) e)) (λ_ _ _ _ n=>n)
  (λb o d e=>(o,k b o (λz=>d (by simp[z])) e)) (λ_ _ e=>e) (λ_ _ _ e=>e) (λb m e=>(#[],by rw[e];simp)) (λm v=>?_) (λb u e=>?_) I.bare
 .have e:b=a:=(j:)
  subst e;exact(l,g,r,t)
 .let(o,a,j,l,r):=v;exact(o,a,j,k _ o (Ne.symm g) l,r)
 .calc(I.aY b u e).aL (λc v d q=>k c v ?_ q) (λ_ q=>q) λ_ _ q=>q;rcases d with z | z
  .rw[z];exact i b u e
  .calc i c _ z
theorem Inv.tok(I:Inv X pins σ H s)(t:Nat):Inv X pins σ H {s with toks:=t}:=I.un (h':=s.heap) (t':=t) Un.refl I.aY
theorem Inv.kept(I:Inv X pins σ H s)(k:∀b u,s.heap.get? b=some u->h'.get? b=some u):Inv X pins σ H {s with heap:=h',toks:=t'}:=I.un (Un.kept k) (I.aY.kept k)
theorem Inv.laid(I:Inv X pins σ H s)(k:∀b u,s.heap.get? b=some u->h'.get? b=some u)(c:s.heap.objs.size<=a)(d:cy X.prog X.w (upd H a o) h' a o):
  Inv X pins σ (upd H a o) {s with heap:=h',toks:=t'}:=I.un (Un.laid k c (I.aY.fresh c)) (I.aY.laid k c d)
theorem Inv.write(I:Inv X pins σ H s)(c:Yy (H x))(d:e=x\/H e=some (.own x))(k:∀b u,b≠e->s.heap.get? b=some u->h'.get? b=some u)(f:∃u,h'.get? e=some u)(a:cy X.prog X.w (upd H x o) h' x o):Inv X pins σ (upd H x o) {s with heap:=h',toks:=t'}:=I.un (Un.write c d k f) (I.aY.write c d k f a)
theorem Inv.yu(I:Inv X pins σ H s)(h:∀p∈a,s.heap.get? p.1=some p.2/\H p.1=none/\p.1≠X.env.locals/\p.1∉X.fs/\∀v,p.2.data≠.cell v):Inv X a σ H s:=
 (I.ok,I.os,I.bare,I.base,I.loc,I.cell,I.free,I.jv,λp a=>(List.mem_append.mp a).elim (λz=>I.pin p (List.mem_append_left _ z)) (h p),I.aY,I.len)
theorem ui{N:List Str}(c:N.Nodup){i:Nat}(a:N[i]?=some x)(b:N[j]?=some x):i=j:=by
 let(e,d):=iF a;let(g,e):=iF b;calc(List.getElem_inj c).mp (d.trans e.symm)
theorem Gr(I:Inv X pins σ H s)(hN:X.N.Nodup)(L:X.N[i]?=some x)(C:Loc X.env.scope x)(r:RelV v u)(h:∀s',Inv X pins (σ.set i (some v)) H s'->(∃a,Heap.SameBut a s.heap s'.heap/\(a=X.env.locals\/X.env.cells.lookup x=some a))->Q ⟨⟩ s')(hf:X.fn x=true\/X.env.scope.names.lookup x=some .local:=by grind):wpAny M A (storeName X.env x u) Q E s:=by
 let(m,T,hl):=id I.loc;have TH:(X.env.scope.kind == .class||(X.env.scope.kind == .module&&X.env.locals !=X.env.globals))=false:=by rw[I.ok.kind];rfl
 have YD:i<σ.length:=by rw[I.len];exact(iF L).1
 have U:=I.Jd;have l:∀{a:Addr} {h':Heap},(∃o,s.heap.get? a=some o/\H a=none)->Heap.SameBut a s.heap h'->nS X.prog X.w H h':=λ{a h'} v g b M e=>by
  let(_,_,Rt):=v;calc(I.aY b M e).aL (λc P B q=>(g.2 c ?_).trans q) (λ_ q=>q) λ_ _ q=>q;rintro rfl;rcases B with rfl|B
  .rw[Rt]at e;cases e
  .rw[Rt]at B;cases B
 rcases C with G|G
 .calc wpAny_storeName_local G T (λh' a g=>?_) TH;let(v,_,_,M,_):=id T;refine h _ (I.ok,I.os,I.bare,(λb o e n J C=>?_,λb o e n J C=>?_,I.base.free,λb o e C=>?_,I.base.aR,I.base.we,I.base.yp),(_,a,λj y W t F Y=>?_),λy c e=>?_,I.free,I.jv,λp Z=>?_,l (v,M,I.free) g,(I.len:)) (_,g,.inl rfl)
  .exact(g.2 b (aak (aae (aac e) I.ok.above))).trans (I.base.keep b o e n J C)
  .let(sl,t):=I.base.slot b o e n J C;exact(sl,(g.2 b (aak (aae (aac e) I.ok.above))).trans t)
  .let(o',t):=I.base.there b o e C;exact(o',(g.2 b (aak (aae (aac e) I.ok.above))).trans t)
  .by_cases K:j=i
   .subst K;rw[L] at t;cases t;rw[List.getElem?_set_self YD] at F
    cases F;exact(u,r,.inl (G,nofun))
   .rw[ac1 (Ne.symm K)] at F;let(u',r',q):=hl j y W t F Y;calc(u',r',?_);rcases q with⟨k,e⟩ | ⟨k,c,e,z⟩
    .calc .inl (k,?_);have:y≠x:=λe=>K (ui hN t (e▸L));simp[this,e]
    .exact .inr (k,c,e,z.sameBut g (U y c e))
  .let(P,z):=I.cell y c e;exact(P,z.sameBut g (U y c e))
  .let(e,n,R,nf,d):=I.pin p Z;exact((g.2 p.1 R).trans e,n,R,nf,d)
 .have Gs:X.fn x=true:=by
   rcases hf with z|z
   .exact z
   .rw[z]at G;cases G
  let(c,B):=I.ok.has x (.inl G);let(P,z):=I.cell x c B;calc wpAny_storeName_cell I.ok.kind G B z (λh' OG g=>?_);let(oc,O,aeh):=id z;refine h {s with heap:=h'} (I.ok,I.os,I.bare,(λb o e n J C=>?_,λb o e n J C=>?_,I.base.free,λb o e C=>?_,I.base.aR,I.base.we,I.base.yp),(m,T.sameBut g (Ne.symm (U x c B)),λj y W t F Y=>?_),λy S e=>?_,I.free,I.jv,λp Z=>?_,l (oc,O,I.jv x c B) g,(I.len:)) (c,g,.inr B)
  .exact(g.2 b (aak (aae (aac e) (I.ok.TB x c Gs B)))).trans (I.base.keep b o e n J C)
  .let(sl,t):=I.base.slot b o e n J C;exact(sl,(g.2 b (aak (aae (aac e) (I.ok.TB x c Gs B)))).trans t)
  .let(o',t):=I.base.there b o e C;exact(o',(g.2 b (aak (aae (aac e) (I.ok.TB x c Gs B)))).trans t)
  .by_cases K:j=i
   .subst K;rw[L] at t;cases t;rw[List.getElem?_set_self YD] at F
    cases F;exact(u,r,.inr (.inl G,c,B,OG))
   .rw[ac1 (Ne.symm K)] at F;let(u',r',q):=hl j y W t F Y;calc(u',r',?_);rcases q with q | ⟨k,S,e,z'⟩
    .exact .inl q
    .calc .inr (k,S,e,z'.sameBut g ?_);rintro rfl;exact K (ui hN t (I.ok.inj _ _ _ e B▸L))
  .by_cases YE:S=c
   .subst YE;exact(_,OG)
   .let(a,b):=I.cell y S e;exact(a,b.sameBut g YE)
  .let(e,n,R,nf,d):=I.pin p Z;calc((g.2 p.1 ?_).trans e,n,R,nf,d);intro q;rw[q,O]at e;have a:oc=p.2:=Option.some.inj e;calc d P (by rw[<-a];calc aeh)
theorem kh(I:Inv X pins σ H s)(a:X.N.Nodup)(b:X.N[i]?=some x)(c:Loc X.env.scope x)(r:RelV v u)(h:∀s',Inv X pins (σ.set i (some v)) H s'->Q ⟨⟩ s')(d:X.fn x=true\/X.env.scope.names.lookup x=some .local:=by grind):wpAny M A (storeName X.env x u) Q E s:=
 Gr I a b c r (λs' e _=>h s' e) d
theorem Inv.Ru(I:Inv X pins σ H s)(f:s'.os=s.os)(u:Un (zV X.stack) ch H H' s.heap s'.heap)(g:nS X.prog X.w H' s'.heap)(h:AllBare s'.gens)(i:∀b∈ch,(b∈X.ex\/X.s₀.heap.objs.size<=b)/\b≠X.env.locals/\(∀x c,X.env.cells.lookup x=some c->c≠b)/\∀p∈X.pn++pins,p.1≠b):Inv X pins σ H' s':=by
 let(h',a,d,t',b):=s';have e:b=s.os:=f;subst e;calc I.call (g':=a) (t':=t') (d':=d) u g h i
abbrev XK:=Value->Option Addr->Hp->Prop
abbrev St:=List (Option V)
abbrev VK:=V->Hp->Prop
abbrev TE:=St->Hp->VK->Prop
abbrev TT:=St->Hp->(Bool->Hp->Prop)->Prop
abbrev TA:=St->Hp->(List V->Hp->Prop)->Prop
structure Ends where
 nx:St->Hp->Prop
 rt:VK
 bk:St->Hp->Prop:=λ_ _=>False
 ct:St->Hp->Prop:=λ_ _=>False
abbrev TS:=Ends->St->Hp->Prop
def EP(X:Cx)(pins:jn)(σ:St)(Q:VK)(u:Value)(s':Shared):Prop:=∃v a,Inv X pins σ a s'/\RelV v u/\Q v a
def TP(X:Cx)(pins:jn)(σ:St)(Q:Bool->Hp->Prop)(b:Bool)(s':Shared):Prop:=∃a,Inv X pins σ a s'/\Q b a
def AP(X:Cx)(pins:jn)(σ:St)(Q:List V->Hp->Prop)(us:List Value)(s':Shared):Prop:=∃vs a,Inv X pins σ a s'/\Vals vs us/\Q vs a
def SP(X:Cx)(pins:jn)(D:Ends)(f:Flow)(s':Shared):Prop:=
 match f with
 | .next=>∃a b,Inv X pins a b s'/\D.nx a b
 | .brk=>∃a b,Inv X pins a b s'/\D.bk a b
 | .cont=>∃a b,Inv X pins a b s'/\D.ct a b
 | .ret u=>∃v a b,Inv X pins a b s'/\RelV v u/\D.rt v b
structure PE(X:Cx)(e:Expr)(t:TE):Prop where
 out:
  ∀(pins:jn) (s:Shared) (σ:St) (H:Hp) (Q:VK),Inv X pins σ H s->t σ H Q->X⁻¹ (eval e X.env) (EP X pins σ Q) X.xe s
instance {X:Cx}{e:Expr}{t:TE}:CoeFun (PE X e t) λ_=>
 ∀(pins:jn) (s:Shared) (σ:St) (H:Hp) (Q:VK),Inv X pins σ H s->t σ H Q->X⁻¹ (eval e X.env) (EP X pins σ Q) X.xe s:=⟨PE.out⟩
structure PT(X:Cx)(e:Expr)(t:TT):Prop where
 out:
  ∀(pins:jn) (s:Shared) (σ:St) (H:Hp) (Q:Bool->Hp->Prop),Inv X pins σ H s->t σ H Q->X⁻¹ (isTrue e X.env (eval e X.env)) (TP X pins σ Q) X.xe s
instance {X:Cx}{e:Expr}{t:TT}:CoeFun (PT X e t) λ_=>
 ∀(pins:jn) (s:Shared) (σ:St) (H:Hp) (Q:Bool->Hp->Prop),Inv X pins σ H s->t σ H Q->X⁻¹ (isTrue e X.env (eval e X.env)) (TP X pins σ Q) X.xe s:=⟨PT.out⟩
structure PW(X:Cx)(e:Expr)(t:TT):Prop where
 out:
  ∀(whole:Sem Value) (pins:jn) (s:Shared) (σ:St) (H:Hp) (Q:Bool->Hp->Prop),Inv X pins σ H s->t σ H Q->X⁻¹ (isTrue e X.env whole) (TP X pins σ Q) X.xe s
instance {X:Cx}{e:Expr}{t:TT}:CoeFun (PW X e t) λ_=>
 ∀(a:Sem Value) (pins:jn) (s:Shared) (σ:St) (H:Hp) (Q:Bool->Hp->Prop),Inv X pins σ H s->t σ H Q->X⁻¹ (isTrue e X.env a) (TP X pins σ Q) X.xe s:=⟨PW.out⟩
theorem PW.pt(h:PW X e t):PT X e t:=⟨h.out _⟩
structure PA(X:Cx)(es:List Expr)(t:TA):Prop where
 out:
  ∀(pos:Pos) (pins:jn) (s:Shared) (σ:St) (H:Hp) (Q:List V->Hp->Prop),Inv X pins σ H s->t σ H Q->X⁻¹ (spliced (backTo pos (starEach es X.env))) (AP X pins σ Q) X.xe s
instance {X:Cx}{a:List Expr}{t:TA}:CoeFun (PA X a t) λ_=>
 ∀(pos:Pos) (pins:jn) (s:Shared) (σ:St) (H:Hp) (Q:List V->Hp->Prop),Inv X pins σ H s->t σ H Q->X⁻¹ (spliced (backTo pos (starEach a X.env))) (AP X pins σ Q) X.xe s:=⟨PA.out⟩
structure PS(X:Cx)(st:Stmt)(t:TS):Prop where
 out:
  ∀(pins:jn) (s:Shared) (σ:St) (H:Hp) (D:Ends),Inv X pins σ H s->t D σ H->X⁻¹ (exec st X.env) (SP X pins D) X.xe s
instance {X:Cx}{a:Stmt}{t:TS}:CoeFun (PS X a t) λ_=>
 ∀(pins:jn) (s:Shared) (σ:St) (H:Hp) (D:Ends),Inv X pins σ H s->t D σ H->X⁻¹ (exec a X.env) (SP X pins D) X.xe s:=⟨PS.out⟩
structure wg(X:Cx)(st:List Stmt)(t:TS):Prop where
 out:
  ∀(pins:jn) (s:Shared) (σ:St) (H:Hp) (D:Ends),Inv X pins σ H s->t D σ H->X⁻¹ (execs st X.env) (SP X pins D) X.xe s
instance {X:Cx}{a:List Stmt}{t:TS}:CoeFun (wg X a t) λ_=>
 ∀(pins:jn) (s:Shared) (σ:St) (H:Hp) (D:Ends),Inv X pins σ H s->t D σ H->X⁻¹ (execs a X.env) (SP X pins D) X.xe s:=⟨wg.out⟩
theorem di(h:wpAny M A t Q E s)(c:∀a s,Q a s->b a s):wpAny M A t b E s:=aaR h c λ_ _ x=>x
end
section
variable {pins:jn}{σ:St}{x:Str}{u:Value}{Q:jD}
section
variable {X:Cx}
def Je(i:Nat):TE:=λσ H Q=>∃v,σ[i]?=some (some v)/\Q v H
def tC(v:V):TE:=λ_ H Q=>Q v H
theorem Jf(c:X.N[i]?=some x)(j:YA X.env.scope x)(d:(x==("__debug__":Str))=false:=by decide)(k:(x==("__classdict__":Str))=false:=by decide):PE X (.Name x pos) (Je i):=by
 calc⟨?_⟩;intro pins s σ H Q I h;let(v,e,h):=h;let(m,n,o):=I.loc;let(u,r,l):=o i x v c e j;have a:EP X pins σ Q u s:=(v,H,I,r,h)
 rcases l with⟨b,e⟩|⟨b,c,f,g⟩
 .exact wpAny_Name (wpAny_loadName_local I.ok.kind b n e a) d
 .rcases b with b | b
  .exact wpAny_Name (wpAny_loadName_cell I.ok.kind b f g a) d
  .calc wpAny_Name (wpAny_loadName_free I.ok.kind b f g a k) d
theorem aj{i j pos}:PE X (.Constant (.int i) j pos) (tC (.int i)):=.mk λ_ _ _ H _ I h=>wpAny_Constant_int (.int i,H,I.tok _,(_,rfl),h)
theorem gp{b j pos}:PE X (.Constant (.bool b) j pos) (tC (.bl b)):=.mk λ_ _ _ H _ I h=>Constant_bool (.bl b,H,I,rfl,h)
theorem gF{j pos}:PE X (.Constant .none j pos) (tC .bL):=.mk λ_ _ _ H _ I h=>Constant_none (.bL,H,I,rfl,h)
theorem aH{x j pos}:PE X (.Constant (.str x) j pos) (tC (.str x)):=.mk λ_ _ _ H _ I h=>Calls.Constant_str (.str x,H,I.tok _,(_,rfl),h)
def Gl(X:Cx)(x:Str):Prop:=X.env.kindOf x=some .globalImplicit
theorem kG(I:Inv X pins σ H s)(a:Gl X x)(b:X.mg x=some u)(h:Q u s)(c:(x==("__debug__":Str))=false:=by decide):X⁻¹ (eval (.Name x pos) X.env) Q E s:=
 Calls.Name_function_global I.ok.kind a (Calls.loadGlobal_global (by rw[I.ok.glob];calc I.mod.glob.keeps I.bk) b h) c
theorem oj(I:Inv X pins σ H s)(a:Gl X x)(b:X.mg x=none)(c:bootBuiltins x=some u)(h:Q u s)(d:x≠"__name__":=by decide)(e:(x==("__debug__":Str))=false:=by decide):X⁻¹ (eval (.Name x pos) X.env) Q E s:=by
 let(i,f,g):=I.mod.blt;calc Calls.Name_function_global I.ok.kind a (Calls.loadGlobal_builtin (by rw[I.ok.glob];calc I.mod.glob.keeps I.bk) b (by rw[I.ok.blt];calc f.keeps I.bk) ((g x d).trans c) h) e
theorem cP(a:Gl X x)(b:X.mg x=some u)(r:RelV v u)(c:(x==("__debug__":Str))=false:=by decide):PE X (.Name x pos) (tC v):=
 .mk λ_ _ _ H _ I h=>kG I a b (v,H,I,r,h) c
theorem cV(a:Gl X x)(b:X.mg x=none)(c:bootBuiltins x=some u)(r:RelV v u)(d:x≠"__name__":=by decide)(e:(x==("__debug__":Str))=false:=by decide):PE X (.Name x pos) (tC v):=
 .mk λ_ _ _ H _ I h=>oj I a b c (v,H,I,r,h) d e
variable {a b:Expr}{ta tb:TE}
structure PC(X:Cx)(op:CmpOp)(a b:Expr)(t:TE):Prop where
 out:
  ∀(pins:jn) (s:Shared) (σ:St) (H:Hp) (Q:VK),Inv X pins σ H s->t σ H Q->
   X⁻¹ (eval a X.env) (λv s₁=>X⁻¹ (eval b X.env) (λu s₂=>X⁻¹ (compareOp op v u) (EP X pins σ Q) X.xe s₂) X.xe s₁) X.xe s
instance {X:Cx}{e:CmpOp}{a b:Expr}{t:TE}:CoeFun (PC X e a b t) λ_=>
 ∀(pins:jn) (s:Shared) (σ:St) (H:Hp) (Q:VK),Inv X pins σ H s->t σ H Q->
  X⁻¹ (eval a X.env) (λv c=>X⁻¹ (eval b X.env) (λu d=>X⁻¹ (compareOp e v u) (EP X pins σ Q) X.xe d) X.xe c) X.xe s:=⟨PC.out⟩
def tB(t:TE):TT:=λσ H Q=>t σ H λx a=>∃c,x=.bl c/\Q c a
theorem TJ(h:PC X c a b t)(e:behindInMarks c b=false:=by first|calc f _ ∅ ∅|rfl):PT X (.Compare a [c] [b] pos) (tB t):=by
 calc⟨?_⟩;intro pins s σ H Q I c;calc wpAny_isTrue_Compare1 (di (h pins s σ H _ I c) λv f e=>di e λu c f=>di f λc h g=>?_) e;let(x,i,j,k,l):=g;let(d,rfl,q):=l
 cases k;calc acA (i,j,q)
theorem TK(h:PE X e t)(b:∀a,isTrue e X.env a=(do let v <-a;standAt e.pos;holding [v] (truthy v)):=by intro _;rfl):PT X e (tB t):=by
 calc⟨?_⟩;intro pins s σ H Q I a;calc isTrue_plain (di (h pins s σ H _ I a) λv e c=>?_) (b _);let(x,f,g,i,j):=c;let(d,rfl,q):=j
 cases i;calc acA (f,g,q)
def TL(t u:TT):TT:=λσ H Q=>t σ H λc a=>if c=true then u σ a Q else Q false a
def tOr(t u:TT):TT:=λσ H Q=>t σ H λc a=>if c=true then Q true a else u σ a Q
def TM(t:TT):TT:=λσ H Q=>t σ H λc a=>Q (!c) a
theorem pw_and1(b:PT X a tA):PW X (.BoolOp .And [a] pos) tA:=by
 calc⟨?_⟩;intro d pins s σ H Q I h;refine isTrue_and (di (b pins s σ H Q I h) λc f e=>?_)
 cases c with
 |true=>calc isTrue_and_nil e
 |false=>calc e
theorem pw_or1(b:PT X a tA):PW X (.BoolOp .Or [a] pos) tA:=by
 calc⟨?_⟩;intro d pins s σ H Q I h;refine isTrue_or (di (b pins s σ H Q I h) λc f e=>?_)
 cases c with
 |false=>calc isTrue_or_nil e
 |true=>calc e
theorem pw_and(g:PT X a tA)(i:PW X (.BoolOp .And (b::rest) pos) tB'):PW X (.BoolOp .And (a::b::rest) pos) (TL tA tB'):=by
 calc⟨?_⟩;intro j pins s σ H Q I h;calc isTrue_and (di (g pins s σ H _ I h) λc k l=>?_);let(d,e,f):=l
 cases c with
 |true=>calc i j pins k σ d Q e f
 |false=>calc(d,e,f)
theorem pw_or(g:PT X a tA)(i:PW X (.BoolOp .Or (b::rest) pos) tB'):PW X (.BoolOp .Or (a::b::rest) pos) (tOr tA tB'):=by
 calc⟨?_⟩;intro j pins s σ H Q I h;calc isTrue_or (di (g pins s σ H _ I h) λc k l=>?_);let(d,e,f):=l
 cases c with
 |true=>calc(d,e,f)
 |false=>calc i j pins k σ d Q e f
theorem bY(b:PT X a tA):PT X (.UnaryOp .Not a pos) (TM tA):=by
 calc⟨?_⟩;intro pins s σ H Q I h;calc isTrue_not (b pins s σ H (λc d=>Q (!c) d) I h)
def Jg(ta tb:TE):TE:=λσ H Q=>ta σ H λx a=>∃c,x=.bl c/\if c=true then tb σ a Q else Q (.bl false) a
def TN(ta tb:TE):TE:=λσ H Q=>ta σ H λx a=>∃c,x=.bl c/\if c=true then Q (.bl true) a else tb σ a Q
def Jh(ta:TE):TE:=λσ H Q=>ta σ H λx a=>∃c,x=.bl c/\Q (.bl (!c)) a
theorem il{op}(h:PE X a t):PE X (.BoolOp op [a] pos) t:=.mk λpins s σ H Q I b=>BoolOp_one (h pins s σ H Q I b)
theorem jI(g:PE X a ta)(i:PE X (.BoolOp .And (b::rest) pos) tb):PE X (.BoolOp .And (a::b::rest) pos) (Jg ta tb):=by
 calc⟨?_⟩;intro pins s σ H Q I h;calc BoolOp_and (di (g pins s σ H _ I h) λv j k=>?_);let(x,e,f,l,d):=k;let(c,rfl,d):=d
 cases l;refine acA ?_
 cases c with
 |true=>calc i pins j σ e Q f d
 |false=>calc(.bl false,e,f,rfl,d)
theorem Ji(g:PE X a ta)(i:PE X (.BoolOp .Or (b::rest) pos) tb):PE X (.BoolOp .Or (a::b::rest) pos) (TN ta tb):=by
 calc⟨?_⟩;intro pins s σ H Q I h;calc BoolOp_or (di (g pins s σ H _ I h) λv j k=>?_);let(x,e,f,l,d):=k;let(c,rfl,d):=d
 cases l;refine acA ?_
 cases c with
 |false=>calc i pins j σ e Q f d
 |true=>calc(.bl true,e,f,rfl,d)
theorem Jj(d:PE X a ta):PE X (.UnaryOp .Not a pos) (Jh ta):=by
 calc⟨?_⟩;intro pins s σ H Q I h;calc UnaryOp_ (di (d pins s σ H _ I h) λv j e=>?_);let(x,f,g,i,b):=e;let(c,rfl,b):=b
 cases i;calc not_of (acA (.bl (!c),f,g,rfl,b))
def tIf(t:TT)(ta tb:TE):TE:=λσ H Q=>t σ H λc a=>if c=true then ta σ a Q else tb σ a Q
theorem Jk(j:PT X c tA)(k:PE X a ta)(l:PE X b tb):PE X (.IfExp c a b pos) (tIf tA ta tb):=by
 calc⟨?_⟩;intro pins s σ H Q I h;calc wpAny_IfExp (di (j pins s σ H _ I h) λd e c=>?_);let(f,g,i):=c
 cases d with
 |true=>calc k pins e σ f Q g i
 |false=>calc l pins e σ f Q g i
end
end
section
variable {X:Cx}{e tg:Expr}{pins:jn}{i:Nat}{σ:St}{x:Str}{te:TE}{K:W.Frag}
def aS(K:W.Frag)(H:Hp)(a:Addr)(xs:List V):Prop:=
 Rd H a (.lst xs)\/
  ∃(o:Obj) (b:Array Value) (n:Nat),K.lookup a=some o/\o.cls=.type "list"/\o.dict=none/\o.data=.seq b n/\b.size<=sizeLine/\Vals xs b.toList
def bI(K:W.Frag)(H:Hp)(a:Addr)(xs:List V):Prop:=
 Rd H a (.tup xs)\/
  ∃(o:Obj) (b:Array Value) (n:Nat),K.lookup a=some o/\o.cls=.type "tuple"/\o.data=.seq b n/\b.size<=sizeLine/\Vals xs b.toList
noncomputable def aek:Value->Option V
 | .none=>some .bL
 | .bool b=>some (.bl b)
 | .int i _=>some (.int i)
 | .str x _=>some (.str x)
 | .bytes b _=>some (.En b)
 | .float b _=>some (.Rp b)
 | .ref a=>some (.ref a)
 | .type n=>some (.ty n)
 |_=>none
theorem RelV.abs{x:V}(r:RelV x u):aek u=some x:=by
 cases x with
 |bL=>cases r;rfl
 |bl _=>cases r;rfl
 |int _=>let(t,rfl):=r;rfl
 |str _=>let(t,rfl):=r;rfl
 |En _=>let(t,rfl):=r;rfl
 |Rp _=>let(t,rfl):=r;rfl
 |ref _=>cases r;rfl
 |ty _=>cases r;rfl
theorem RelV.inj{x:V}(r:RelV x u)(q:RelV y u):x=y:=Option.some.inj (r.abs.symm.trans q.abs)
theorem Vals.inj:∀{xs a:List V}{us:List Value},Vals xs us->Vals a us->xs=a
 |_,_,_,.nil,.nil=>rfl
 |_,_,_,.cons r t,.cons a b=>by rw[r.inj a,Vals.inj t b]
theorem aS.of(h:H a=some (.lst xs)):aS K H a xs:=.inl (.inl h)
theorem bI.of(h:H a=some (.tup xs)):bI K H a xs:=.inl (.inl h)
theorem Inv.list(I:Inv X pins σ H s)(h:aS X.K H a xs):∃b:List Value,Vals xs b/\PlainL s.heap a b.toArray/\xs.length<=sizeLine:=by
 rcases h with h|⟨o,b,n,c,d,f,g,i,r⟩
 .let(z,b,n,r,e):=h.ok I.aY;exact(b,r,(_,n,e,rfl,rfl,rfl),z)
 .calc(b.toList,r,(o,n,I.iQ a o c,d,f,(g:)),?_);have e:=r.length;simp only[Array.length_toList]at e;lia
theorem Inv.tuple(I:Inv X pins σ H s)(h:bI X.K H a xs):∃b:List Value,Vals xs b/\IsTup s.heap a b.toArray/\xs.length<=sizeLine:=by
 rcases h with h|⟨o,b,n,c,d,f,g,r⟩
 .let(z,b,r,p):=h.ok I.aY;exact(b,r,p,z)
 .calc(b.toList,r,(o,I.iQ a o c,d,n,(f:)),?_);have e:=r.length;simp only[Array.length_toList]at e;lia
theorem Inv.Al(I:Inv X pins σ H s)(h:aS X.K H a xs)(h':aS X.K H a ys):xs=ys:=by
 let(f,r,(o,n,e,_,_,d),_):=I.list h;let(g,i,(j,k,b,_,_,c),_):=I.list h';rw[e]at b;cases b;rw[d]at c;injection c with h _
 have:f=g:=(congrArg Array.toList h:)
 subst this;calc r.inj i
theorem Inv.xc(I:Inv X pins σ H s)(h:bI X.K H a xs)(h':bI X.K H a ys):xs=ys:=by
 let(f,r,(o,e,_,n,d),_):=I.tuple h;let(g,i,(j,b,_,k,c),_):=I.tuple h';rw[e]at b;cases b;rw[d]at c;injection c with h _
 have:f=g:=(congrArg Array.toList h:)
 subst this;calc r.inj i
noncomputable abbrev Cx.tf(X:Cx)(E:jD):Cx:={X with xe:=E}
noncomputable abbrev Cx.ID(X:Cx):Cx:=X.tf λ_ _=>False
theorem Cx.Ok.tf(a:X.Ok)(E:jD):(X.tf E).Ok:=
 (a.mod,a.kind,a.glob,a.blt,a.above,a.inj,a.has,a.TB,a.hd,a.frames,a.Xg,a.YB,a.bs,a.IC,a.Ak,a.CC,a.pS,a.OE)
theorem Cx.Ok.jJ(a:(X.tf E).Ok):X.Ok:=
 (a.mod,a.kind,a.glob,a.blt,a.above,a.inj,a.has,a.TB,a.hd,a.frames,a.Xg,a.YB,a.bs,a.IC,a.Ak,a.CC,a.pS,a.OE)
theorem Inv.tf(I:Inv X pins σ H s)(E:jD):Inv (X.tf E) pins σ H s:=(I.ok.tf E,I.os,I.bare,I.base,I.loc,I.cell,I.free,I.jv,I.pin,I.aY,I.len)
theorem Inv.jJ(I:Inv (X.tf E) pins σ H s):Inv X pins σ H s:=(I.ok.jJ,I.os,I.bare,I.base,I.loc,I.cell,I.free,I.jv,I.pin,I.aY,I.len)
theorem SP.jJ(h:SP (X.tf E) pins D f s'):SP X pins D f s':=by
 cases f with
 |next=>let(a,b,I,q):=h;calc(a,b,I.jJ,q)
 |brk=>let(a,b,I,q):=h;calc(a,b,I.jJ,q)
 |cont=>let(a,b,I,q):=h;calc(a,b,I.jJ,q)
 |ret u=>let(v,a,b,I,r,q):=h;calc(v,a,b,I.jJ,r,q)
theorem wg.ID(h:wg X.ID a t):wg X a t:=.mk λpins s σ H D I a=>
 aaR (h pins s σ H D (I.tf _) a) (λ_ _ q=>q.jJ) λ_ _ z=>aaW z
section
variable {t u:TS}{te:TE}
def Jl:TS:=λD σ H=>D.nx σ H
def Gu(t u:TS):TS:=λD σ H=>t {D with nx:=u D} σ H
theorem aK:wg X [] Jl:=.mk λ_ _ σ H _ I h=>wpAny_execs_nil (σ,H,I,h)
theorem ai{st:Stmt}(a:PS X st t)(b:wg X rest u):wg X (st::rest) (Gu t u):=by
 calc⟨?_⟩;intro pins s σ H D I h;refine wpAny_execs_cons (di (a pins s σ H {D with nx:=u D} I h) λf c q=>?_)
 cases f with
 |next=>
  let(a,d,e,q):=q;calc b pins c a d D e q
 |ret v=>calc q
 |brk=>calc q
 |cont=>calc q
theorem ak{st:Stmt}(a:PS X st t):wg X [st] t:=by
 calc⟨?_⟩;intro pins s σ H D I h;refine wpAny_execs_cons (di (a pins s σ H D I h) λf b q=>?_)
 cases f with
 |next=>calc wpAny_execs_nil q
 |ret v=>calc q
 |brk=>calc q
 |cont=>calc q
theorem Inv.quiet(I:Inv X pins σ H s):interactive X.env=false:=by simp[interactive,I.ok.kind]
def Am(te:TE):TS:=λD σ H=>te σ H λ_ a=>D.nx σ a
theorem OH(a:PE X e te)(b:swapsWith e none pos.line X.env=pure false:=by rfl):PS X (.Expr e pos) (Am te):=by
 calc⟨?_⟩;intro pins s σ H D I h;calc wpAny_Expr_any (di (a pins s σ H _ I h) λv g (x,c,d,i,f)=>(σ,c,d,f)) I.quiet b
def TQ(te:TE):TS:=λD σ H=>te σ H D.rt
theorem aG(a:PE X e te):PS X (.Return (some e) pos) (TQ te):=by
 calc⟨?_⟩;intro pins s σ H D I h;calc wpAny_Return_some (di (a pins s σ H _ I h) λv g (x,b,c,d,f)=>(x,σ,b,c,d,f))
def Gv(c:TT)(t u:TS):TS:=λD σ H=>c σ H λb a=>if b=true then t D σ a else u D σ a
theorem aW{e:TT}(k:PT X c e)(l:wg X a t)(m:wg X b u):PS X (.If c a b pos) (Gv e t u):=by
 calc⟨?_⟩;intro pins s σ H D I h;calc wpAny_If (di (k pins s σ H _ I h) λd f a=>?_);let(g,i,j):=a
 cases d with
 |true=>calc l pins f σ g D i j
 |false=>calc m pins f σ g D i j
def CG:TS:=λ_ _ _=>False
theorem dH{st:Stmt}:PS X st CG:=.mk λ_ _ _ _ _ _ h=>h.elim
end
abbrev TG:=V->St->Hp->(St->Hp->Prop)->Prop
abbrev Rv:=List V->St->Hp->(St->Hp->Prop)->Prop
structure PG(X:Cx)(target:Expr)(t:TG):Prop where
 out:
  ∀(pins:jn) (s:Shared) (σ:St) (H:Hp) (v:V) (u:Value) (Q:St->Hp->Prop),Inv X pins σ H s->RelV v u->t v σ H Q->
   X⁻¹ (assign target X.env u) (λ_ s'=>∃σ' H',Inv X pins σ' H' s'/\Q σ' H') X.xe s
instance {X:Cx}{a:Expr}{t:TG}:CoeFun (PG X a t) λ_=>
 ∀(pins:jn) (s:Shared) (σ:St) (H:Hp) (v:V) (u:Value) (Q:St->Hp->Prop),Inv X pins σ H s->RelV v u->t v σ H Q->
  X⁻¹ (assign a X.env u) (λ_ s'=>∃a b,Inv X pins a b s'/\Q a b) X.xe s:=⟨PG.out⟩
structure Xh(X:Cx)(ts:List Expr)(t:Rv):Prop where
 out:
  ∀(pins:jn) (s:Shared) (σ:St) (H:Hp) (vs:List V) (us:List Value) (Q:St->Hp->Prop),Inv X pins σ H s->Vals vs us->t vs σ H Q->
   X⁻¹ (assignInOrder ((assignEach ts X.env).map (·.2)) us) (λ_ s'=>∃σ' H',Inv X pins σ' H' s'/\Q σ' H') X.xe s
instance {X:Cx}{a:List Expr}{t:Rv}:CoeFun (Xh X a t) λ_=>
 ∀(pins:jn) (s:Shared) (σ:St) (H:Hp) (vs:List V) (us:List Value) (Q:St->Hp->Prop),Inv X pins σ H s->Vals vs us->t vs σ H Q->
  X⁻¹ (assignInOrder ((assignEach a X.env).map (·.2)) us) (λ_ s'=>∃a b,Inv X pins a b s'/\Q a b) X.xe s:=⟨Xh.out⟩
abbrev TR:=V->V->V->Hp->(Hp->Prop)->Prop
def TU(X:Cx)(t:TR):Prop:=
 ∀(pins:jn) (s:Shared) (σ:St) (H:Hp) (o i v:V) (a b u:Value) (Q:Hp->Prop),Inv X pins σ H s->RelV o a->RelV i b->RelV v u->t o i v H Q->
  X⁻¹ (setItem a b u) (λ_ s'=>∃a,Inv X pins σ a s'/\Q a) X.xe s
abbrev TIp:=V->V->Hp->VK->Prop
def PIp(X:Cx)(a:Operator)(t:TIp):Prop:=
 ∀(pins:jn) (s:Shared) (σ:St) (H:Hp) (x y:V) (v u:Value) (Q:VK),Inv X pins σ H s->RelV x v->RelV y u->t x y H Q->
  X⁻¹ (inplaceOp a v u) (EP X pins σ Q) X.xe s
def fM(i:Nat):TG:=λv σ H Q=>Q (σ.set i (some v)) H
theorem aT(a:X.N.Nodup)(b:X.N[i]?=some x)(c:Loc X.env.scope x)(d:X.fn x=true\/X.env.scope.names.lookup x=some .local:=by grind):PG X (.Name x pos) (fM i):=by
 calc⟨?_⟩;intro pins s σ H v u Q I r h;calc wpAny_assign_Name (kh I a b c r (λf e=>(_,H,e,h)) d)
def Gw:Rv:=λvs σ H Q=>vs=[]/\Q σ H
def ki(t:TG)(u:Rv):Rv:=λvs σ H Q=>∃v r,vs=v::r/\t v σ H λa b=>u r a b Q
theorem yw:Xh X [] Gw:=by
 calc⟨?_⟩;intro pins s σ H a b Q I r h;let(e,h):=h;subst e
 cases r;calc assignInOrder_nil (σ,H,I,h)
theorem iR(b:PG X e t)(c:Xh X a u)(d:(assignEach (e::a) X.env).map (·.2)=assign e X.env::(assignEach a X.env).map (·.2):=by rfl):Xh X (e::a) (ki t u):=by
 calc⟨?_⟩;intro pins s σ H a g Q I r h;let(v,i,f,h):=h;subst f
 cases r with
 |cons r f=>
  rw[d];calc assignInOrder_cons (di (b pins s σ H _ _ _ I r h) λ_ g i=>?_);let(a,b,d,h):=i;calc c pins g a b _ _ Q d f h
def Gx(K:W.Frag)(n:Nat)(t:Rv):TG:=λv σ H Q=>∃a xs,v=.ref a/\bI K H a xs/\xs.length=n/\t xs σ H Q
theorem CH(b:X.calm=true)(h:Xh X a t)(d:(assignEach a X.env).length=n:=by rfl)(f:(assignEach a X.env).findIdx? (·.1)=none:=by rfl):PG X (.Tuple a k pos) (Gx X.K n t):=by
 calc⟨?_⟩;intro pins s σ H v u Q I r c;let(a,g,i,j,l,c):=c;subst i
 cases r;let(k,a,i,m):=I.tuple j;calc assign_Tuple_tuple (I.ok.hd b) i (by simp[d,<-l,a.length]) f λk m=>?_;have d:Inv X pins σ H {s with heap:=k}:=I.kept (t':=s.toks) λb o e=>m b o (aak (aac e)) e;calc h pins _ σ H g _ Q d (a:) c
def TV(a b:TE)(t:TR):TG:=λv σ H Q=>a σ H λo c=>b σ c λi a=>t o i v a λb=>Q σ b
theorem iS{i:Expr}(e:PE X o c)(f:PE X i d)(g:TU X t)(j:∀v,assign (.Subscript o i pos) X.env v=(do
   let a <-holding [v] (eval o X.env)
   let b <-holding [v,a] (eval i X.env)
   standAt pos
   holding [v,a,b] (setItem a b v)
   release [v,a,b] []):=by intro _;rfl):PG X (.Subscript o i pos) (TV c d t):=by
 calc⟨?_⟩;intro pins s σ H v u Q I r h;rw[j];calc J' (abd (di (e pins s σ H _ I h) λa d c=>?_));let(x,e,h,j,k):=c;calc J' (abd (di (f pins d σ e _ h k) λb l c=>?_));let(y,d,e,f,h):=c;calc J' (wpAny_standAt (J' (abd (di (g pins l σ d x y v a b u _ e j f r h) λ_ k c=>?_))));let(a,b,d):=c;calc wpAny_release (σ,a,b,d)
def Gy(te:TE)(g:TG):TS:=λD σ H=>te σ H λx a=>g x σ a D.nx
theorem dS(a:PE X e te)(b:PG X tg g)(c:swapsWithSole [tg] e pos.line X.env=pure false:=by rfl)(d:swappedStores [tg] e X.env=pure none:=by rfl)(f:(assignEach [tg] X.env).map (·.2)=[assign tg X.env]:=by rfl):PS X (.Assign [tg] e pos) (Gy te g):=by
 calc⟨?_⟩;intro pins s σ H D I h;calc wpAny_Assign_stores (di (a pins s σ H _ I h) λv g i=>?_) c d;let(x,a,j,k,l):=i;rw[f];calc di (b pins g σ a x v _ j k l) λ_ c q=>q
theorem Jm(b:X.N.Nodup)(c:X.N[i]?=some x)(d:Loc X.env.scope x)(f:PE X e te)(g:swapsWith e (some (.Name x a)) pos.line X.env=pure false:=by rfl)(j:X.fn x=true\/X.env.scope.names.lookup x=some .local:=by grind):
  PS X (.Assign [.Name x a] e pos) (Gy te (fM i)):=by
 calc⟨?_⟩;intro pins s σ H D I h;calc wpAny_Assign_Name (di (f pins s σ H _ I h) λv k a=>?_) g;let(y,f,k,l,m):=a;calc kh k b c d l (λn g=>(_,f,g,m)) j
def TY(i:Nat)(te:TE)(a:TIp):TS:=λD σ H=>∃x,σ[i]?=some (some x)/\te σ H λy b=>a x y b λz c=>D.nx (σ.set i (some z)) c
theorem TZ(o:X.N.Nodup)(j:X.N[i]?=some x)(f:Loc X.env.scope x)(p:PE X e te)(q:PIp X d g)(t:X.fn x=true\/X.env.scope.names.lookup x=some .local:=by grind):
  PS X (.AugAssign (.Name x b) d e pos) (TY i te g):=by
 calc⟨?_⟩;intro pins s σ H D I h;let(v,y,h):=h;let(m,B,z):=I.loc;have c:YA X.env.scope x:=by rcases f with k|k;calc .inl k;exact .inr (.inl k)
 let(u,r,l):=z i x v j y c;calc wpAny_AugAssign_Name ?_;have n:X⁻¹ (eval e X.env) (λw b=>X⁻¹ (inplaceOp d u w) (λr c=>X⁻¹ (storeName X.env x r) (λ_=>SP X pins D .next) X.xe c) X.xe b) X.xe s:=by
  calc di (p pins s σ H _ I h) λw c b=>?_;let(y,d,g,m,p):=b;calc di (q pins c σ d v y u w _ g r m p) λz F b=>?_;let(p,c,d,g,m):=b;exact kh d o j f g (λq p=>(_,c,p,m)) t
 rcases l with⟨a,b⟩|⟨a,c,C,E⟩
 .exact wpAny_loadName_local I.ok.kind a B b n
 .rcases a with a | a
  .exact wpAny_loadName_cell I.ok.kind a C E n
  .rcases f with k | k
   .have:X.env.scope.names.lookup x=some .free:=a;rw[k]at this;cases this
   .have:X.env.scope.names.lookup x=some .free:=a;rw[k]at this;cases this
def ipI(f:Int->Int->Int):TIp:=λx y H Q=>∃i j,x=.int i/\y=.int j/\Q (.int (f i j)) H
theorem T3:PIp X .Add (ipI λi j=>i+j):=by
 intro pins s σ H x y v u Q I a b h;let(i,j,c,d,q):=h;subst c;subst d;let(t,rfl):=a;let(e,rfl):=b;calc iadd_int (.int _,H,I.tok _,(_,rfl),q)
def yx(c:TT)(f:TS):TS:=λD σ H=>∃W:Nat->St->Hp->Prop,(∃m,W m σ H)/\∀m σ H,W m σ H->
 c σ H λb d=>if b=true then ∃N:St->Hp->Prop,(∀a c,N a c->∃e,e<m/\W e a c)/\f {D with nx:=N,ct:=N,bk:=D.nx} σ d else D.nx σ d
theorem Jn{i:TT}(k:PassesOwn (model X.prog X.w) X.A X.env X.xe)(p:PT X c i)(q:wg X a j):PS X (.While c a [] pos) (yx i j):=by
 calc⟨?_⟩;intro pins s σ H D I h;let(W,(r,t),a):=h;calc wpAny_While (codeAny_whileLoop (λn u=>∃c i,Inv X pins c i u/\W n c i) ?_ r (σ,H,I,t));rintro n v ⟨d,j,x,y⟩;calc wpAny_passesOwn k (di (p pins v d j _ x (a n d j y)) λb z B=>?_);let(l,m,e):=B
 cases b with
 |true=>
  let(N,o,e):=e;rw[if_pos rfl];refine wpAny_passesOwn k (di (q pins z d l _ m e) λf a g=>?_)
  cases f with
  |next=>
   let(a,b,c,f):=g;let(i,j,k):=o a b f;calc(i,j,a,b,c,k)
  |cont=>
   let(a,b,c,f):=g;let(i,j,k):=o a b f;calc(i,j,a,b,c,k)
  |brk=>calc g
  |ret v=>calc g
 |false=>
  rw[if_neg X'];calc wpAny_execs_nil (d,l,m,e)
structure It where
 go:Nat->Hp->Prop
 Rw:Nat->Hp->V->Hp->Prop
 stop:Nat->Hp->Prop
def qK(X:Cx)(pins:jn)(H:Hp)(b:Addr):Prop:=
 H b=none/\b≠X.env.locals/\b∉X.fs/\(b∈X.ex\/X.s₀.heap.objs.size<=b)/\(∀x c,X.env.cells.lookup x=some c->c≠b)/\∀p∈X.pn++pins,p.1≠b
theorem Inv.Jo(I:Inv X pins σ H s)(a:s.heap.objs.size<=b)(d:c b=none):qK X pins c b:=by
 refine(d,abv (aae I.lt a),I.TF a,.inr (aaL I.sz a),λx c e z=>?_,λp b z=>?_)
 .let(v,q):=I.cell x c e;exact absurd (aae q.lt (by rw[z];calc a)) (abK _)
 .calc absurd (aae (aac (I.pin p b).1) (by rw[z];calc a)) (abK _)
structure Turn(P:Program)(w:World)(K:W.Frag)(tg:Expr)(J:It)(fp:List Addr)(it:Addr)(tn:Nat->Heap->Prop):Prop where
 mem:it∈fp
 obj:∀i h,tn i h->∀b∈fp,∃o,h.get? b=some o/\∀v,o.data≠.cell v
 keep:∀i h h',tn i h->(∀b∈fp,∀o,h.get? b=some o->h'.get? b=some o)->tn i h'
 item:∀(X:Cx),X.prog=P->X.w=w->X.K=K->X.calm=true->∀(i:Nat) (pins:jn) (s:Shared) (σ:St) (H:Hp) (E:jD),Inv X pins σ H s->(∀b ∈ fp,qK X pins H b)->tn i s.heap->J.go i H->
  wpAny (model P w) X.A (pyNext (.ref it)) (λr s1=>∃u,r=some u/\
   wpAny (model P w) X.A (letOwnedTupleGo tg (.ref it) u) (λ_ s2=>∃x H',Inv X pins σ H' s2/\RelV x u/\J.Rw i H x H'/\tn (i + 1) s2.heap/\∀b ∈ fp,H' b=none) E s1) E s
 done:∀(X:Cx),X.prog=P->X.w=w->X.K=K->X.calm=true->∀(i:Nat) (pins:jn) (s:Shared) (σ:St) (H:Hp) (E:jD),Inv X pins σ H s->(∀b ∈ fp,qK X pins H b)->tn i s.heap->J.stop i H->
  wpAny (model P w) X.A (pyNext (.ref it)) (λr s1=>r=none/\Inv X pins σ H s1) E s
 self:∀(A:Around) (i:Nat) (s:Shared) (Q:jD) (E:jD),tn i s.heap->Q (.ref it) s->wpAny (model P w) A (pyIter (.ref it)) Q E s
abbrev TI:=St->Hp->(It->Hp->Prop)->Prop
def PIE(X:Cx)(pins:jn)(σ:St)(tg:Expr)(R:It->Hp->Prop)(a:Value)(d:Shared):Prop:=
 ∃(e:Addr) (f:List Addr) (g:Nat->Heap->Prop) (J:It) (c:Hp),a=.ref e/\Inv X pins σ c d/\Turn X.prog X.w X.K tg J f e g/\g 0 d.heap/\(∀b∈f,qK X pins c b)/\R J c
structure PI(X:Cx)(tg iter:Expr)(wi:TI):Prop where
 out:
  ∀(pins:jn) (s:Shared) (σ:St) (H:Hp) (R:It->Hp->Prop),Inv X pins σ H s->wi σ H R->
   X⁻¹ (eval iter X.env) (λv s1=>X⁻¹ (pyIter v) (PIE X pins σ tg R) X.xe s1) X.xe s
instance {X:Cx}{tg a:Expr}{b:TI}:CoeFun (PI X tg a b) λ_=>
 ∀(pins:jn) (s:Shared) (σ:St) (H:Hp) (R:It->Hp->Prop),Inv X pins σ H s->b σ H R->
  X⁻¹ (eval a X.env) (λv b=>X⁻¹ (pyIter v) (PIE X pins σ tg R) X.xe b) X.xe s:=⟨PI.out⟩
theorem Jp(c:s.heap.get? b=some o)(d:o.cls=.type n)(e:o.data=.fields vs)(f:["enumerate","zip","dict_itemiterator","dict_reverseitemiterator","odict_iterator","itertools.zip_longest","itertools.pairwise"].contains n=false)(a:Q ⟨⟩ s):wpAny M A (letOwnedTupleGo tg (.ref b) u) Q E s:=by
  unfold letOwnedTupleGo
  cases tg<;>first
    |calc U' a
    | (cases u <;> first
        |calc U' a
        | (refine J' (wpAny_load c ?_)
           rw[d,e];show wpAny M A (if (["enumerate","zip","dict_itemiterator","dict_reverseitemiterator","odict_iterator","itertools.zip_longest","itertools.pairwise"].contains n && vs[0]? == some (rawInt _))=true then _ else _) Q E s;rw[if_neg (by intro h;rw[f,Bool.false_and] at h;cases h)];calc U' a))
noncomputable def xf(K:W.Frag)(a:Addr):It:=
 (λi H=>∃xs x,aS K H a xs/\xs[i]?=some x,λi H x b=>b=H/\∀xs,aS K H a xs->xs[i]?=some x,λi H=>∃xs,aS K H a xs/\xs.length<=i)
noncomputable def Xi(K:W.Frag)(a:Addr):It:=
 (λi H=>∃xs x,bI K H a xs/\xs[i]?=some x,λi H x b=>b=H/\∀xs,bI K H a xs->xs[i]?=some x,λi H=>∃xs,bI K H a xs/\xs.length<=i)
noncomputable def Ck(lo:Int)(n:Nat):It:=(λi _=>i<n,λi H x a=>a=H/\x=.int (lo+i),λi _=>n<=i)
theorem Gz{P:Program}{w:World}(a g:Addr):Turn P w K tg (xf K a) [g] g (λi h=>h.IsListIter g a i) where
 mem:=by simp
 obj:=λi h f b j=>by
  have e:b=g:=(j:)
  subst e;let(o,e,c,d):=f;exact(o,e,λv z=>by rw[d]at z;cases z)
 keep:=λi h l f k=>f.at λo e=>k g nofun o e
 item:=by
  intro X q r t L i pins s σ H E I m f y;subst q r t;let(M,x,n,A):=y;let(N,B,p,O):=I.list n;let(u,k,v):=B.get A;let(C,D,Q,F,G,J):=m g nofun;calc wpAny_pyNext_list_item f p.isList (x:=u) (k:) λl a w=>?_;have k:Inv X pins σ H {s with heap:=l}:=I.turned (t':=s.toks) (λb o j e=>(w.2 b j).trans e) C D F G J;let(o,e,c,d):=id a;exact(u,rfl,Jp (s:={s with heap:=l}) e c d ∅ (x,H,k,v,(rfl,λw u=>by rw[I.Al u n];calc A),a,λb j=>(m b j).1))
 done:=by
  intro X q r t L i pins s σ H E I m f y;subst q r t;let(M,n,A):=y;let(N,B,p,O):=I.list n;let(C,D,Q,F,G,J):=m g nofun;have a:=B.length;exact wpAny_pyNext_list_end (I.ok.hd L) f p.isList (by simp;lia) λl a=>(rfl,I.turned (t':=s.toks) (λb o j e=>a b o j e) C D F G J)
 self:=λ_ _ _ _ _ f h=>wpAny_pyIter_listiter f h
theorem CI{P:Program}{w:World}(a g:Addr):Turn P w K tg (Xi K a) [g] g (λi h=>h.IsTupleIter g a i) where
 mem:=by simp
 obj:=λi h f b j=>by
  have e:b=g:=(j:)
  subst e;let(o,e,c,d):=f;exact(o,e,λv z=>by rw[d]at z;cases z)
 keep:=λi h l f k=>f.at λo e=>k g nofun o e
 item:=by
  intro X q r t M i pins s σ H E I m f y;subst q r t;let(N,x,n,A):=y;let(B,C,p,O):=I.tuple n;let(u,v,w):=C.get A;let(D,F,Q,G,J,L):=m g nofun;calc wpAny_pyNext_tuple_item f (show s.heap.IsTuple a B.toArray from p) (x:=u) (v:) λl k z=>?_;have v:Inv X pins σ H {s with heap:=l}:=I.turned (t':=s.toks) (λb o j e=>(z.2 b j).trans e) D F G J L;let(o,e,c,d):=id k;exact(u,rfl,Jp (s:={s with heap:=l}) e c d ∅ (x,H,v,w,(rfl,λz u=>by rw[I.xc u n];calc A),k,λb j=>(m b j).1))
 done:=by
  intro X q r t M i pins s σ H E I m f y;subst q r t;let(N,n,A):=y;let(B,C,p,O):=I.tuple n;let(D,F,Q,G,J,L):=m g nofun;have c:=C.length;exact wpAny_pyNext_tuple_end (I.ok.hd M) f (show s.heap.IsTuple a B.toArray from p) (by simp;lia) λl c=>(rfl,I.turned (t':=s.toks) (λb o j e=>c b o j e) D F G J L)
 self:=λ_ _ _ _ _ f h=>wpAny_pyIter_tupleiter f h
theorem CJ{P:Program}{w:World}(c:Addr)(lo:Int)(n:Nat):Turn P w K tg (Ck lo n) [c] c (λi h=>IsRangeIter h c (lo+(i:Nat)*1) ((n:Int)-(i:Nat)) 1) where
 mem:=by simp
 obj:=λi h a b d=>by
  have e:b=c:=(d:)
  subst e;exact(_,a,λv z=>by
   have k:Data.fields _=Data.cell v:=z
   cases k)
 keep:=λi h f a k=>k c nofun _ a
 item:=by
  intro X j l m p i pins s σ H E I g a q;subst j l m;let(r,u,D,x,y,A):=g c nofun;have W:=Walks.range (prog:=X.prog) (w:=X.w) (I.ok.hd p) c lo 1 n;calc W.item i s _ _ q a λv f B F C G=>?_;let(t,rfl):=F;have k:Inv X pins σ H {s with heap:=f,toks:=B}:=I.turned (λb o d e=>G b o (d:) e) r u x y A;calc(_,rfl,Jp (s:={s with heap:=f,toks:=B}) (n:="range_iterator") C rfl rfl ∅ (.int (lo+i),H,k,(t,?_),(rfl,rfl),C,λb d=>(g b d).1));rw[Int.mul_one]
 done:=by
  intro X j l m p i pins s σ H E I g a q;subst j l m;let(r,u,D,x,y,A):=g c nofun;exact wpAny_pyNext_range_end (I.ok.hd p) a (by have:n<=i:=q;lia) λf c=>(rfl,I.turned (t':=s.toks) (λb o d e=>c b o d e) r u x y A)
 self:=λ_ _ _ _ _ a h=>wpAny_pyIter_rangeiter a h
end
section
variable {H:Hp}{σ:St}{g:TG}{tb:TS}
theorem An{lo:Int}(I:Inv X pins σ H s)(f:-(2^62)<=lo)(g:lo<2^62)(h:-(2^62)<=a)(i:a<2^62)(q:R (Ck lo (a-lo).toNat) H):X⁻¹ (pyIter (.ref s.heap.objs.size)) (PIE X pins σ tg R) E {s with heap:=s.heap.push {cls:=.type "range",data:=.fields #[.int lo t,.int a u,.int 1 v]},toks:=c}:=by
 calc wpAny_pyIter_range (IsRange.new ..) (small_one f g h i) ?_;have d:Inv X pins σ H {s with heap:=s.heap.push {cls:=.type "range",data:=.fields #[.int lo t,.int a u,.int 1 v]},toks:=c}:=I.kept λb o e=>P' _ e;refine((s.heap.push {cls:=.type "range",data:=.fields #[.int lo t,.int a u,.int 1 v]}).objs.size,[(s.heap.push {cls:=.type "range",data:=.fields #[.int lo t,.int a u,.int 1 v]}).objs.size],_,_,H,rfl,
  d.kept (t':=c) λb o e=>P' _ e,CJ _ lo (a - lo).toNat,?_,λb j=>?_,q)
 .have k:lo + ((0:Nat):Int) * 1=lo:=nofun;have l:(((a-lo).toNat:Nat):Int)-((0:Nat):Int)=Builtin.Range.rangeSize lo a 1:=by rw[rangeSize_one];split<;>lia
  show IsRangeIter _ _ (lo+((0:Nat):Int)*1) ((((a-lo).toNat:Nat):Int)-((0:Nat):Int)) 1;rw[k,l];exact aai _ rfl
 .have e:b=(s.heap.push {cls:=.type "range",data:=.fields #[.int lo t,.int a u,.int 1 v]}).objs.size:=(j:)
  subst e;calc d.Jo (S' _) (d.aY.fresh (S' _))
def Jq(a:TA):TI:=λσ H R=>a σ H λvs b=>∃j:Int,vs=[.int j]/\-(2^62)<=j/\j<2^62/\R (Ck 0 j.toNat) b
def Jr(a:TA):TI:=λσ H R=>a σ H λvs b=>∃i j:Int,vs=[.int i,.int j]/\(-(2^62)<=i/\i<2^62/\-(2^62)<=j/\j<2^62)/\R (Ck i (j-i).toNat) b
theorem cD(d:Gl X "range")(f:X.mg "range"=none)(g:PA X [a] c)(i:starEach [a] X.env=[((false),eval a X.env)]:=by rfl):PI X tg (.Call (.Name "range" p) [a] [] pos) (Jq c):=by
 calc⟨?_⟩;intro pins s σ H R I h;calc Call_ (oj I d f boot_range (acG (di (g pos pins s σ H _ I h) λc j a=>?_) i rfl));let(c,d,k,l,b):=a;let(j,e,b,m,q):=b;subst e
 cases l with
 |cons r n=>
  cases n;let(t,rfl):=r;calc call_range_1 (An k () () b m (q:))
theorem GB(i:Gl X "range")(j:X.mg "range"=none)(k:PA X [a,b] f)(l:starEach [a,b] X.env=[((false),eval a X.env),((false),eval b X.env)]:=by rfl)(g:starEach [b] X.env=[((false),eval b X.env)]:=by rfl):
  PI X tg (.Call (.Name "range" p) [a,b] [] pos) (Jr f):=by
 calc⟨?_⟩;intro pins s σ H R I h;calc Call_ (oj I i j boot_range (acG (di (k pos pins s σ H _ I h) λb f a=>?_) (by rw[l,g]) (by rw[g];rfl)));let(b,f,m,n,c):=a;let(i,j,e,(c,o,u,v),q):=c;subst e
 cases n with
 |cons r d=>
  cases d with
  |cons w d=>
   cases d;let(t,rfl):=r;let(x,rfl):=w;calc call_range_2 (An m c o u v q)
def T4(a:TI)(g:TG)(tb:TS):TS:=λD σ H=>a σ H λJ b=>∃W:Nat->Nat->St->Hp->Prop,(∃m,W 0 m σ b)/\∀i m σ H,W i m σ H->
 (J.stop i H/\D.nx σ H)\/(J.go i H/\∃N:St->Hp->Prop,(∀a b,N a b->∃d,d<m/\W (i+1) d a b)/\∀x b,J.Rw i H x b->g x σ b λc e=>tb {D with nx:=N,ct:=N,bk:=D.nx} c e)
noncomputable def qL(a:List Addr)(h:Heap):List (Addr×Obj):=a.filterMap λb=>(h.get? b).map λo=>((b),o)
theorem kH(c:b∈a)(e:h.get? b=some o):((b),o)∈qL a h:=List.mem_filterMap.mpr (b,c,by rw[e];rfl)
theorem GC(c:p∈qL a h):p.1∈a/\h.get? p.1=some p.2:=by
 let(b,d,e):=List.mem_filterMap.mp c
 cases q:h.get? b with
 |none=>rw[q]at e;cases e
 |some o=>
  rw[q]at e;have f:((b),o)=p:=Option.some.inj e;subst f;calc(d,q)
theorem Inv.pinned(I:Inv X pins σ H s)(g:∀b∈a,qK X pins H b)(h:∀b∈a,∃o,s.heap.get? b=some o/\∀v,o.data≠.cell v):Inv X (pins++qL a s.heap) σ H s:=
 I.yu λp a=>(List.mem_append.mp a).elim (λz=>I.pin p (aaN _ z)) λz=>by
  let(c,e):=GC z;let(i,j,k,_):=g p.1 c;let(o,f,d):=h p.1 c;rw[e]at f;cases f;calc(e,i,j,k,d)
theorem Inv.lS(I:Inv X (pins++pl) σ H s):Inv X pins σ H s:=I.yu λp a=>I.pin p (aaN _ (List.mem_append_left _ a))
theorem cZ(z:PassesOwn (model X.prog X.w) X.A X.env X.xe)(M:X.calm=true)(Y:PI X tg c J)(Z:PG X tg g)(j:wg X m tb)(hs:∀x,foldedSetIterable c X.env x=pure x:=by intro _;rfl):PS X (.For tg c m [] pos) (T4 J g tb):=by
 calc⟨?_⟩;intro pins s σ H D I h;calc wpAny_For (di (Y pins s σ H _ I h) λv m c=>di c λm J h2=>?_) hs;let(c,B,O,J,H2,e,I2,T,Ep,P,W,(m0,w0),C):=h2;subst e;have K:∀{o:Hp},(∀b∈B,o b=none)->∀b∈B,qK X pins o b:=λc b j=>(c b j,(P b j).2)
 calc codeAny_forLoop_any (λn c=>∃i d o,Inv X pins d o c/\O i c.heap/\(∀b∈B,o b=none)/\W i n d o) ?_ m0 (0,σ,H2,I2,Ep,λb j=>(P b j).1,w0);rintro n Q ⟨i,k,G,R,S,U,w3⟩;rcases C i n k G w3 with⟨c,qn⟩|⟨go,N,hN,E⟩
 .calc wpAny_passesOwn z (di (T.done X rfl rfl rfl M i pins Q k G X.xe R (K U) S c) λr s4 y=>?_);let(L,I4):=y;subst L;exact wpAny_execs_nil (k,G,I4,qn)
 .calc wpAny_passesOwn z (di (T.item X rfl rfl rfl M i pins Q k G X.xe R (K U) S go) λr s4 y=>?_);let(u,L,h4):=y;subst L;calc wpAny_passesOwn z (di h4 λ_ C y=>?_);let(x,G,J,L,M,c,m):=y;have r:=J.pinned (K m) (T.obj _ _ c);calc wpAny_passesOwn z (di (Z _ C k G x u _ r L (E x G M)) λ_ P y=>?_);let(k,m,u,x):=y;calc wpAny_passesOwn z (di (j _ P k m _ u x) λf r t=>?_);have l:∀{a:St} {p:Hp},Inv X (pins++qL B C.heap) a p r->N a p->∃m,m<n/\∃i d o,Inv X pins d o r/\O i r.heap/\(∀b∈B,o b=none)/\W i m d o:=λ{a p} q F=>by
   let(d,k,m):=hN a p F;calc(d,k,i+1,a,p,q.lS,T.keep _ _ _ c λb j o e=>(q.pin ((b),o) (aaN _ (aaN _ (kH j e)))).1,λb j=>?_,m);let(o,e,d):=T.obj _ _ c b j;exact(q.pin ((b),o) (aaN _ (aaN _ (kH j e)))).2.1
  cases f with
  |next=>let(a,p,q,F):=t;calc l q F
  |cont=>let(a,p,q,F):=t;calc l q F
  |brk=>let(a,p,q,t):=t;calc(a,p,q.lS,t)
  |ret v=>let(b,a,p,q,c,t):=t;calc(b,a,p,q.lS,c,t)
theorem fA{K:W.Frag}{D:Ends}(b:Nat->St->Hp->Prop)(k:b 0 σ H)(l:∀i σ H,i<=xs.length->b i σ H->aS K H a xs)(n:∀i x σ H,xs[i]?=some x->b i σ H->g x σ H λc h=>tb {D with nx:=b (i+1),ct:=b (i+1),bk:=D.nx} c h)(o:∀σ H,b xs.length σ H->D.nx σ H):
  ∃W:Nat->Nat->St->Hp->Prop,(∃m,W 0 m σ H)/\∀i m σ H,W i m σ H->
   ((xf K a).stop i H/\D.nx σ H)\/((xf K a).go i H/\∃N:St->Hp->Prop,(∀d f,N d f->∃j,j<m/\W (i+1) j d f)/\∀x f,(xf K a).Rw i H x f->g x σ f λc h=>tb {D with nx:=N,ct:=N,bk:=D.nx} c h):=by
 calc(λi m σ H=>m=xs.length-i/\i<=xs.length/\b i σ H,(xs.length,nofun,aam _,k),?_);rintro i m σ H ⟨rfl,c,p⟩;have q:=l i σ H c p;by_cases a:i<xs.length
 .calc .inr ((xs,xs[i],q,by simp[a]),b (i+1),λd f c=>(xs.length-(i+1),(),rfl,a,c),λx f y=>?_);let(e,y):=y;subst e;exact n i x σ _ (y xs q) p
 .have e:i=xs.length:=();subst e;calc .inl ((xs,q,S' _),o σ H p)
theorem gh{lo:Int}{D:Ends}(a:Nat->St->Hp->Prop)(k:a 0 σ H)(l:∀i σ H,i<n->a i σ H->g (.int (lo+i)) σ H λb f=>tb {D with nx:=a (i+1),ct:=a (i+1),bk:=D.nx} b f)(o:∀σ H,a n σ H->D.nx σ H):
  ∃W:Nat->Nat->St->Hp->Prop,(∃m,W 0 m σ H)/\∀i m σ H,W i m σ H->
   ((Ck lo n).stop i H/\D.nx σ H)\/((Ck lo n).go i H/\∃N:St->Hp->Prop,(∀c d,N c d->∃j,j<m/\W (i+1) j c d)/\∀x d,(Ck lo n).Rw i H x d->g x σ d λb f=>tb {D with nx:=N,ct:=N,bk:=D.nx} b f):=by
 calc(λi m σ H=>m=n-i/\i<=n/\a i σ H,(n,nofun,aam _,k),?_);rintro i m σ H ⟨rfl,b,p⟩;by_cases h:i<n
 .calc .inr (h,a (i+1),λc d b=>(n-(i+1),(),rfl,h,b),λx d y=>?_);let(e,y):=y;subst e y;exact l i σ _ h p
 .have e:i=n:=();subst e;calc .inl (S' _,o σ H p)
end
section
variable {g:Int->Int->Int}
abbrev R2:=V->V->Hp->VK->Prop
def ik(X:Cx)(f:Value->Value->Sem Value)(r:R2):Prop:=
 ∀(pins:jn) (s:Shared) (σ:St) (H:Hp) (x y:V) (v u:Value) (Q:VK),Inv X pins σ H s->RelV x v->RelV y u->r x y H Q->
  X⁻¹ (f v u) (EP X pins σ Q) X.xe s
def UnR(X:Cx)(f:Value->Sem Value)(r:V->Hp->VK->Prop):Prop:=
 ∀(pins:jn) (s:Shared) (σ:St) (H:Hp) (x:V) (v:Value) (Q:VK),Inv X pins σ H s->RelV x v->r x H Q->
  X⁻¹ (f v) (EP X pins σ Q) X.xe s
def eO(X:Cx)(f:Value)(r:List V->Hp->VK->Prop):Prop:=
 ∀(pins:jn) (s:Shared) (σ:St) (H:Hp) (xs:List V) (us:List Value) (Q:VK),Inv X pins σ H s->Vals xs us->r xs H Q->
  X⁻¹ (call f us) (EP X pins σ Q) X.xe s
def Js(r:R2)(a b:TE):TE:=λσ H Q=>a σ H λx c=>b σ c λy a=>r x y a Q
def tUn(r:V->Hp->VK->Prop)(a:TE):TE:=λσ H Q=>a σ H λx b=>r x b Q
def rI(C:Int->Int->Prop)(g:Int->Int->V):R2:=λx y H Q=>∃i j,x=.int i/\y=.int j/\C i j/\Q (g i j) H
def OI(g:Int->Int->V):R2:=λx y H Q=>∃i j,x=.int i/\y=.int j/\Q (g i j) H
def rU(g:Int->V):V->Hp->VK->Prop:=λx H Q=>∃i,x=.int i/\Q (g i) H
theorem T5(j:PE X a ta)(k:PE X b tb){R:V->V->Hp->Prop}(I:Inv X pins σ H s)(h:ta σ H λx i=>tb σ i λy c=>R x y c){f:Value->Value->Sem Value}(l:∀v u g x y c,Inv X pins σ c g->RelV x v->RelV y u->R x y c->X⁻¹ (f v u) Q X.xe g):
  X⁻¹ (eval a X.env) (λv d=>X⁻¹ (eval b X.env) (λu e=>X⁻¹ (f v u) Q X.xe e) X.xe d) X.xe s:=by
 calc di (j pins s σ H _ I h) λv e d=>?_;let(x,i,f,h,j):=d;calc di (k pins e σ i _ f j) λu g d=>?_;let(y,c,e,f,i):=d;calc l v u g x y c e h f i
theorem aZ(c:ik X (binaryOp op) r)(d:PE X a ta)(e:PE X b tb):PE X (.BinOp a op b pos) (Js r ta tb):=by
 calc⟨?_⟩;intro pins s σ H Q I h;calc wpAny_BinOp (T5 d e I h λv u f x y g i j k q=>c pins f σ g x y v u Q i j k q)
theorem lJ(b:UnR X (unaryOp op) r)(c:PE X a ta):PE X (.UnaryOp op a pos) (tUn r ta):=by
 calc⟨?_⟩;intro pins s σ H Q I h;calc UnaryOp_ (di (c pins s σ H _ I h) λv d (x,e,f,g,i)=>b pins d σ e x v Q f g i)
theorem opI(a:∀(i j:Int) (t u:Tok) (s:Shared) (Q:jD) (E:jD),C i j->Q (.int (g i j) s.toks) {s with toks:=s.toks+1}->X⁻¹ (f (.int i t) (.int j u)) Q E s):
  ik X f (rI C λi j=>.int (g i j)):=by
 intro b s σ H x y v u Q I c d h;let(i,j,rfl,rfl,e,q):=h;let(t,rfl):=c;let(k,rfl):=d;calc a i j t k s _ _ e (.int (g i j),H,I.tok _,(_,rfl),q)
theorem YH(a:∀(i j:Int) (t u:Tok) (s:Shared) (Q:jD) (E:jD),Q (.int (g i j) s.toks) {s with toks:=s.toks+1}->X⁻¹ (f (.int i t) (.int j u)) Q E s):
  ik X f (OI λi j=>.int (g i j)):=by
 intro b s σ H x y v u Q I c d h;let(i,j,rfl,rfl,q):=h;let(t,rfl):=c;let(e,rfl):=d;calc a i j t e s _ _ (.int (g i j),H,I.tok _,(_,rfl),q)
theorem OJ{g:Int->Int->Bool}(a:∀(i j:Int) (t u:Tok) (s:Shared) (Q:jD) (E:jD),Q (.bool (g i j)) s->X⁻¹ (f (.int i t) (.int j u)) Q E s):
  ik X f (OI λi j=>.bl (g i j)):=by
 intro b s σ H x y v u Q I c d h;let(i,j,rfl,rfl,q):=h;let(t,rfl):=c;let(e,rfl):=d;calc a i j t e s _ _ (.bl (g i j),H,I,rfl,q)
def OL(i j:Int):Prop:=0<=j/\j<=1000000/\i.natAbs<2^64
def Jt(i j:Int):Prop:=(-(2^64)<i/\i<2^64)\/(-(2^64)<j/\j<2^64)
theorem Jt.ok(h:Jt i j):IntMulOk i j:=by
 rcases h with⟨a,b⟩|⟨a,b⟩
 .exact .of_left (intBits_le_64 a b)
 .calc .of_right (intBits_le_64 a b)
theorem T6:ik X (binaryOp .Add) (OI λi j=>.int (i+j)):=YH λ_ _ _ _ _ _ _ q=>add_int q
theorem T7:ik X (binaryOp .Sub) (OI λi j=>.int (i-j)):=YH λ_ _ _ _ _ _ _ q=>sub_int q
theorem T8:ik X (binaryOp .Mult) (rI Jt λi j=>.int (i*j)):=opI λ_ _ _ _ _ _ _ a q=>mul_int q a.ok
theorem T9:ik X (binaryOp .Mod) (rI (λ_ j=>0<j) λi j=>.int (i%j)):=opI λi j _ _ _ _ _ a q=>by
 have b:(0:Int)<j:=a;calc mod_int' () (by rw[Int.fmod_eq_emod_of_nonneg i ()];calc q)
theorem Ua:ik X (binaryOp .Pow) (rI OL λi j=>.int (i^j.toNat)):=opI λ_ _ _ _ _ _ _ a q=>pow_int_small a.1 a.2.1 a.2.2 q
theorem unI{g:Int->Int}(a:∀(i:Int) (t:Tok) (s:Shared) (Q:jD) (E:jD),Q (.int (g i) s.toks) {s with toks:=s.toks+1}->X⁻¹ (f (.int i t)) Q E s):
  UnR X f (rU λi=>.int (g i)):=by
 intro b s σ H x v Q I c h;let(i,rfl,q):=h;let(t,rfl):=c;calc a i t s _ _ (.int (g i),H,I.tok _,(_,rfl),q)
theorem ip:UnR X (unaryOp .USub) (rU λi=>.int (-i)):=unI λ_ _ _ _ _ q=>neg_int q
noncomputable def OM:V->V->Bool
 | .bL,.bL=>true | .bL,.int _=>true | .int _,.bL=>true | .bL,.bl _=>true | .bl _,.bL=>true | .bL,.str _=>true | .str _,.bL=>true
 | .int _,.int _=>true | .bl _,.bl _=>true | .str _,.str _=>true | .En _,.En _=>true
 | .int _,.str _=>true | .str _,.int _=>true | .bl _,.str _=>true | .str _,.bl _=>true
 |_,_=>false
def rEq:R2:=λx y H Q=>OM x y=true/\Q (.bl (decide (x=y))) H
def rNe:R2:=λx y H Q=>OM x y=true/\Q (.bl (!decide (x=y))) H
theorem Er:decide (V.int i=V.int j)=(i==j):=by
 rw[Bool.eq_iff_iff];simp
theorem Ju:decide (V.bl i=V.bl j)=(i==j):=by
 rw[Bool.eq_iff_iff];simp
theorem Es:decide (V.str i=V.str j)=(i==j):=by
 rw[Bool.eq_iff_iff];simp
theorem Et:decide (V.En i=V.En j)=(i.toList==j.toList):=by
 rw[Bool.eq_iff_iff]
 cases i
 cases j;simp
section
variable {a b c:Expr}{ta tb tc:TE}
theorem ck{a:Bool}(I:Inv X pins σ H s)(q:Q (.bl k) H)(e:k=a):EP X pins σ Q (.bool a) s:=by
 subst e;calc(.bl k,H,I,rfl,q)
theorem YI:ik X (compareOp .Eq) rEq:=by
 intro e s σ H x y v u Q I d a h;let(c,q):=h
 cases x with
 |bL=>
  cases d
  cases y with
  |bL=>cases a;calc PySem.EqNone.eq_none_none (ck I q nofun)
  |bl j=>cases a;calc PySem.EqNone.eq_none_bool (ck I q nofun)
  |int j=>let(b,rfl):=a;calc PySem.EqNone.eq_none_int (ck I q nofun)
  |str j=>let(b,rfl):=a;calc PySem.EqNone.eq_none_str (ck I q nofun)
  |_=>calc absurd (show false=true from c) X'
 |bl i=>
  cases d
  cases y with
  |bL=>cases a;calc PySem.EqNone.eq_bool_none (ck I q nofun)
  |bl j=>cases a;calc eq_bool (ck I q Ju)
  |str j=>let(b,rfl):=a;calc PySem.EqMixed.eq_bool_str (ck I q nofun)
  |_=>calc absurd (show false=true from c) X'
 |int i=>
  let(t,rfl):=d
  cases y with
  |bL=>cases a;calc PySem.EqNone.eq_int_none (ck I q nofun)
  |int j=>let(b,rfl):=a;calc eq_int (ck I q Er)
  |str j=>let(b,rfl):=a;calc PySem.EqMixed.eq_int_str (ck I q nofun)
  |_=>calc absurd (show false=true from c) X'
 |str i=>
  let(t,rfl):=d
  cases y with
  |bL=>cases a;calc PySem.EqNone.eq_str_none (ck I q nofun)
  |bl j=>cases a;calc PySem.EqMixed.eq_str_bool (ck I q nofun)
  |int j=>let(b,rfl):=a;calc PySem.EqMixed.eq_str_int (ck I q nofun)
  |str j=>let(b,rfl):=a;calc eq_str (ck I q Es)
  |_=>calc absurd (show false=true from c) X'
 |En i=>
  let(t,rfl):=d
  cases y with
  |En j=>let(b,rfl):=a;calc W.eq_bytes (ck I q Et)
  |_=>calc absurd (show false=true from c) X'
 |_=>cases y<;>calc absurd (show false=true from c) X'
theorem YJ:ik X (compareOp .NotEq) rNe:=by
 intro e s σ H x y v u Q I d a h;let(c,q):=h
 cases x with
 |bL=>
  cases d
  cases y with
  |bL=>cases a;calc PySem.EqNone.ne_none_none (ck I q nofun)
  |bl j=>cases a;calc PySem.EqNone.ne_none_bool (ck I q nofun)
  |int j=>let(b,rfl):=a;calc PySem.EqNone.ne_none_int (ck I q nofun)
  |str j=>let(b,rfl):=a;calc PySem.EqNone.ne_none_str (ck I q nofun)
  |_=>calc absurd (show false=true from c) X'
 |bl i=>
  cases d
  cases y with
  |bL=>cases a;calc PySem.EqNone.ne_bool_none (ck I q nofun)
  |bl j=>cases a;calc ne_bool (ck I q (congrArg not Ju))
  |str j=>let(b,rfl):=a;calc PySem.EqMixed.ne_bool_str (ck I q nofun)
  |_=>calc absurd (show false=true from c) X'
 |int i=>
  let(t,rfl):=d
  cases y with
  |bL=>cases a;calc PySem.EqNone.ne_int_none (ck I q nofun)
  |int j=>let(b,rfl):=a;calc ne_int (ck I q (congrArg not Er))
  |str j=>let(b,rfl):=a;calc PySem.EqMixed.ne_int_str (ck I q nofun)
  |_=>calc absurd (show false=true from c) X'
 |str i=>
  let(t,rfl):=d
  cases y with
  |bL=>cases a;calc PySem.EqNone.ne_str_none (ck I q nofun)
  |bl j=>cases a;calc PySem.EqMixed.ne_str_bool (ck I q nofun)
  |int j=>let(b,rfl):=a;calc PySem.EqMixed.ne_str_int (ck I q nofun)
  |str j=>let(b,rfl):=a;calc ne_str (ck I q (congrArg not Es))
  |_=>calc absurd (show false=true from c) X'
 |En i=>
  let(t,rfl):=d
  cases y with
  |En j=>let(b,rfl):=a;calc W.ne_bytes (ck I q (congrArg not Et))
  |_=>calc absurd (show false=true from c) X'
 |_=>cases y<;>calc absurd (show false=true from c) X'
theorem YK:ik X (compareOp .Lt) (OI λi j=>.bl (decide (i<j))):=OJ λ_ _ _ _ _ _ _ q=>lt_int q
theorem YL:ik X (compareOp .LtE) (OI λi j=>.bl (decide (i<=j))):=OJ λ_ _ _ _ _ _ _ q=>le_int q
theorem YM:ik X (compareOp .Gt) (OI λi j=>.bl (decide (j<i))):=OJ λ_ _ _ _ _ _ _ q=>gt_int q
theorem YN:ik X (compareOp .GtE) (OI λi j=>.bl (decide (j<=i))):=OJ λ_ _ _ _ _ _ _ q=>ge_int q
theorem Ub:ik X (compareOp .Is) (λx y H Q=>y=.bL/\Q (.bl (decide (x=.bL))) H):=by
 intro a s σ H x y v u Q I b c h;let(rfl,q):=h
 cases c;refine is_none_gen (ck I q ?_)
 cases x<;>first
  |(cases b;rfl)
  |(let(t,rfl):=b;rfl)
theorem ON:ik X (compareOp .IsNot) (λx y H Q=>y=.bL/\Q (.bl (!decide (x=.bL))) H):=by
 intro a s σ H x y v u Q I b c h;let(rfl,q):=h
 cases c;refine isnot_none_gen (ck I q ?_)
 cases x<;>first
  |(cases b;rfl)
  |(let(t,rfl):=b;rfl)
theorem aI(b:Expr)(h:op≠.In:=by decide)(a:op≠.NotIn:=by decide):behindInMarks op b=false:=by
 have c:(op==CmpOp.In)=false:=by cases op<;>first|rfl|exact absurd rfl h
 have d:(op==CmpOp.NotIn)=false:=by cases op<;>first|rfl|exact absurd rfl a
 cases b<;>simp[behindInMarks,c,d]
theorem hJ(c:ik X (compareOp op) r)(d:PE X a ta)(e:PE X b tb)(f:behindInMarks op b=false):PE X (.Compare a [op] [b] pos) (Js r ta tb):=by
 calc⟨?_⟩;intro pins s σ H Q I h;calc wpAny_Compare1 (T5 d e I h λv u g x y i j k l q=>c pins g σ i x y v u Q j k l q) f
def Eu(t:TE):TT:=λσ H Q=>t σ H λx a=>∃k,x=.bl k/\Q k a
theorem Ew(d:ik X (compareOp op) r)(f:PE X a ta)(g:PE X b tb)(i:behindInMarks op b=false):PT X (.Compare a [op] [b] pos) (Eu (Js r ta tb)):=by
 calc⟨?_⟩;intro pins s σ H Q I h;refine wpAny_isTrue_Compare1 (di (f pins s σ H _ I h) λv j (x,k,l,m,n)=>di (g pins j σ k _ l n) λu f (y,o,p,q,r)=>
  di (d pins f σ o x y v u _ p m q r) λc g (z,t,w,A,k,e,B)=>?_) i
 subst e
 cases A;calc acA (t,w,B)
def CL(r b:R2)(ta tb tc:TE):TE:=λσ H Q=>ta σ H λx a=>tb σ a λy c=>r x y c λz a=>∃k,z=.bl k/\
 (if k=true then tc σ a λw' c=>b y w' c Q else Q (.bl false) a)
theorem Ao(m:ik X (compareOp op) r)(n:ik X (compareOp d) f)(o:PE X a ta)(p:PE X b tb)(q:PE X c tc)(t:lastMarks [op,d] [b,c]=false:=by with_unfolding_all rfl):PE X (.Compare a [op,d] [b,c] pos) (CL r f ta tb tc):=by
 calc⟨?_⟩;intro pins s σ H Q I h;refine Compare_chain (di (o pins s σ H _ I h) λv d (x,f,r,w,z)=>chain_link (di (p pins d σ f _ r z) λu o (y,A,B,g,C)=>
  di (m pins o σ A x y v u _ B w g C) λd D (z,i,j,E,k,e,l)=>?_)) t
 subst e
 cases E;refine acA ?_
 cases k with
 |false=>calc ite_ff (.bl false,i,j,rfl,l)
 |true=>calc ite_tt (chain_last (di (q pins D σ i _ j l) λd e (f,k,m,o,p)=>n pins e σ k y f u d Q m g o p))
theorem uj:(sizeLine:Nat)<2^63:=by rw[abb];decide
theorem CM:ik X (binaryOp .Add) (λx y H Q=>∃i j,x=.str i/\y=.str j/\i.length+j.length<=sizeLine/\Q (.str (i++j)) H):=by
 intro a s σ H x y v u Q I b c h;let(i,j,rfl,rfl,d,q):=h;let(t,rfl):=b;let(e,rfl):=c;calc add_str (λe a=>(.str (i++j),H,I.tok _,(_,rfl),q)) d
theorem vals1(r:Vals [x] us):∃u,us=[u]/\RelV x u:=by
 cases r with
 |cons a b=>cases b;calc(_,rfl,a)
theorem vals2(r:Vals [x,y] us):∃u w',us=[u,w']/\RelV x u/\RelV y w':=by
 cases r with
 |cons a b=>
  cases b with
  |cons c d=>cases d;calc(_,_,rfl,a,c)
theorem GD(b:X.calm=true):eO X (.builtin "max") (λxs H Q=>∃i j,xs=[.int i,.int j]/\Q (.int (if j > i then j else i)) H):=by
 intro a s σ H xs c Q I r h;let(i,j,rfl,q):=h;let(u,d,rfl,(t,rfl),(e,rfl)):=vals2 r;refine max_two_ints (I.ok.hd b) λa c k=>(_,H,I.kept k,?_,q)
 by_cases a:j > i
 .rw[if_pos a,if_pos a];exact(_,rfl)
 .rw[if_neg a,if_neg a];calc(_,rfl)
theorem xg:eO X (.type "int") (λxs H Q=>(∃i,xs=[.int i]/\Q (.int i) H)\/∃k,xs=[.bl k]/\Q (.int (if k then 1 else 0)) H):=by
 intro a s σ H xs c Q I r h;rcases h with⟨i,rfl,q⟩|⟨k,rfl,q⟩
 .let(u,rfl,t,rfl):=vals1 r;exact call_int_int (.int i,H,I,(_,rfl),q)
 .let(u,rfl,b):=vals1 r
  cases b;calc call_int_bool (.int (if k then 1 else 0),H,I.tok _,(_,rfl),q)
def Jv(K:W.Frag)(x:V)(H:Hp)(n:Nat):Prop:=
 match x with
 | .str y=>y.length<=sizeLine/\n=y.length
 | .En y=>y.size<=sizeLine/\n=y.size
 | .ref p=>(∃xs,aS K H p xs/\n=xs.length)\/∃xs,bI K H p xs/\n=xs.length
 |_=>False
theorem Jw:eO X (.builtin "len") (λxs H Q=>∃x n,xs=[x]/\Jv X.K x H n/\Q (.int n) H):=by
 intro i s σ H xs m Q I r h;let(x,n,rfl,e,q):=h;let(u,rfl,c):=vals1 r;have h:=uj;have h:sizeLine=16777216:=abb
 cases x with
 |str y=>
  let(t,rfl):=c;obtain⟨j,b⟩:y.length<=sizeLine/\n=y.length:=e;subst b;calc len_str () (.int _,H,I.tok _,(_,rfl),q)
 |En y=>
  let(t,rfl):=c;obtain⟨j,b⟩:y.size<=sizeLine/\n=y.size:=e;subst b;calc W.len_bytes () (.int _,H,I.tok _,(_,rfl),q)
 |ref p=>
  cases c;have b:(∃xs,aS X.K H p xs/\n=xs.length)\/∃xs,bI X.K H p xs/\n=xs.length:=e;rcases b with⟨xs,d,b⟩|⟨xs,d,b⟩
  .subst b;let(k,f,g,l):=I.list d;have a:=f.length;exact Calls.call_len_list g.isList (by simp only[List.size_toArray];lia) (.int xs.length,H,I.tok _,(_,by simp only[List.size_toArray];rw[a]),q)
  .subst b;let(k,f,g,l):=I.tuple d;have a:=f.length;calc len_tuple g (by simp only[List.size_toArray];lia) (.int xs.length,H,I.tok _,(_,by simp only[List.size_toArray];rw[a]),q)
 |_=>calc(show False from e).elim
end
end
section
variable {C:Addr}{mA:jP}{Q:jD}
structure CP(h:Heap)(x dx C:Addr)(mA:jP):Prop where
 obj:h.get? x=some (W.instObj C dx)
 ns:h.Ns1 dx mA
 ne:dx≠x
theorem GG{h:Heap}(n:h.Ns1 c mA):∃od,h.get? c=some od/\∀name,W.lookIn name od=some (mA name):=by
 let(o,d,m,f,g,i,_,j):=n;calc(o,f,λname=>?_);have e:=j name;unfold nsFind findBy at e;rw[<-Array.find?_toList]at e;unfold W.lookIn;rw[g];dsimp only;split
 .rename_i y q;rw[q]at e;exact congrArg some e
 .rename_i q;rw[q]at e;have a:d.toList.any (·.refKey)=false:=by
   rw[List.any_eq_false];intro y k;let(z,t,b):=i y (Array.mem_toList_iff.mp k);simp[DictEntry.refKey,b]
  have l:¬d.toList.any (·.refKey)=true:=by rw[a];exact X'
  rw[if_neg l];calc congrArg some e
theorem CP.look(I:CP h x a C mA):∃od,W.InstAt h x (W.instObj C a) C (some od)/\∀name,W.lookIn name od=some (mA name):=
 let ⟨od,a,b⟩:=GG I.ns
 (od,(I.obj,rfl,rfl,a),b)
theorem get_map{K:W.Frag}(X:K.In s.heap)(I:CP s.heap x dx C mA)(c:W.plainGet K C name=true)(d:W.hasDictIn K C=true)(e:W.findIn K (.ref C) name=some none)(f:mA name=some v)(b:W.handedIn v=true)(h:Q v {s with toks:=s.toks+1}):
  wpAny (model prog w) A (getAttr (.ref x) name a) Q E s:=by
 let(g,J,a):=I.look;calc W.get_value X J (W.plainGet_of c).1 (W.findObj_own d e rfl (by rw[a,f])) b h
theorem Jx{K:W.Frag}{Q:Value×List Value->Shared->Prop}(X:K.In s.heap)(I:CP s.heap x dx C mA)(a:W.plainGet K C name=true)(b:W.findIn K (.ref C) name=some (some (.ref f)))(c:W.isFn K (.ref f)=true)(d:mA name=none)(h:Q ((.ref f),[.ref x]) s):
  wpAny (model prog w) A (getMethod (.ref x) name pl) Q E s:=by
 let(e,J,g):=I.look;calc W.method_fn X J (W.plainGet_of a).1 (W.plainGet_of a).2 b (beq_iff_eq.mp c) (by show(W.lookIn name e).map (·.isSome)=some false;rw[g,d];rfl) h
theorem OO{K:W.Frag}{Q:Unit->Shared->Prop}(X:K.In s.heap)(I:CP s.heap x dx C mA)(b:W.findIn K (.ref C) "__setattr__"=some (some (.builtin "object.__setattr__")))(c:W.plainOver K C=true)(d:W.takerIn K C name=some none)(e:W.hasDictIn K C=true)(i:PySem.Within mA ns)(hsz:ns.length<=sizeLine)(h:∀h',CP h' x dx C (λy=>if y=name then some v else mA y)->Heap.SameBut dx s.heap h'->Q ⟨⟩ {s with heap:=h',toks:=s.toks+2}):
  wpAny (model prog w) A (setAttr (.ref x) name v) Q E s:=by
 let(g,J,j):=I.look;calc W.set_plain X J b (W.osa_open (s:={s with toks:=s.toks+1}) (r:=none) X J c d λb=>?_);let(d,b,c):=W.any_some e;have d:s.heap.get? x=some (.ref C,some dx,.plain,#[]):=I.obj;calc J' (U' (J' (J' (wpAny_loadPart d (J' (W.Looks.here (s:={s with toks:=s.toks+1}) (W.looks_clsIn X b) ?_))))));rw[c];calc U' (a:=some dx) (J' (U' (J' ?_)));calc wpAny_nsSet1 (s:={s with toks:=s.toks+1}) I.ns λh' b g=>?_;let(l,j,k,c,d,e):=b.count (PySem.Within.cons name v i);calc J' (wpAny_lookBehind c (by rw[d];calc pastItsLine_dict (aaL e (by rw[abw];lia))) ?_);calc U' (h _ ((g.2 _ (Ne.symm I.ne)).trans I.obj,b,I.ne) g)
theorem Jy{K:W.Frag}(X:K.In s.heap)(b:W.makesIn K C=true)(c:W.findIn K (.ref C) "__init__"=some (some (.ref f)))(e:W.typeIn K (.ref f)=some (.type "function"))(h:codeAny (model prog w) (A.under (.builtin "type.__call__" (.ref C::vs,a))) (.call (.ref f) (.ref (s.heap.objs.size + 1)::vs,a)) (W.InitBack (s.heap.objs.size + 1) R)
   {s with heap:=(s.heap.push W.emptyDict).push (W.instObj C s.heap.objs.size)}):
  codeAny (model prog w) A (.call (.ref C) (vs,a)) R s:=by
 let(a,g,d,t,i):=s;calc W.make_core (W.makes_of X b) (W.looks_findIn X c) (λa=>W.bind_fn X a e) (.inl rfl) h
noncomputable def bT(f:Str)(v:V):List (Str×V)->List (Str×V)
 | []=>[((f),v)]
 |(g,x)::r=>if g=f then((g),v)::r else((g),x)::bT f v r
theorem bC(f g:Str)(v:V):∀a:List (Str×V),(bT f v a).lookup g=if g=f then some v else a.lookup g
 | []=>by
  show List.lookup g [((f),v)]=_;by_cases h:g=f
  .have a:(g==f)=true:=beq_iff_eq.mpr h;simp only[List.lookup,a,if_pos h]
  .have a:(g==f)=false:=beq_eq_false_iff_ne.mpr h;simp only[List.lookup,a,if_neg h]
 |(k,x)::r=>by
  have c:=bC f g v r;rw[show bT f v (((k),x)::r)=(if k=f then((k),v)::r else((k),x)::bT f v r) from rfl];by_cases b:k=f
  .rw[if_pos b];by_cases h:g=k
   .have a:(g==k)=true:=beq_iff_eq.mpr h;simp only[List.lookup,a,if_pos (h.trans b)]
   .have a:(g==k)=false:=beq_eq_false_iff_ne.mpr h;simp only[List.lookup,a,if_neg (λe:g=f=>h (e.trans b.symm))]
  .rw[if_neg b];by_cases h:g=k
   .have a:(g==k)=true:=beq_iff_eq.mpr h;simp only[List.lookup,a,if_neg (λe:g=f=>b (h.symm.trans e))]
   .have a:(g==k)=false:=beq_eq_false_iff_ne.mpr h;simp only[List.lookup,a];calc c
theorem qM(f:Str)(v:V):∀a:List (Str×V),f∈(bT f v a).map (·.1)/\∀g,g∈a.map (·.1)->g∈(bT f v a).map (·.1)
 | []=>(by simp[bT],λg h=>by simp at h)
 |(k,x)::r=>by
  let(c,d):=qM f v r;rw[show bT f v (((k),x)::r)=(if k=f then((k),v)::r else((k),x)::bT f v r) from rfl];by_cases b:k=f
  .rw[if_pos b];subst b;exact(nofun,λg h=>by simpa using h)
  .rw[if_neg b];refine(?_,λg h=>?_)
   .rw[abx];exact aar _ c
   .rw[abx] at h ⊢;rcases List.mem_cons.mp h with e | e
    .exact List.mem_cons.mpr (.inl e)
    .calc aar _ (d g e)
theorem lT(f:Str)(v:V):∀a:List (Str×V),(bT f v a).length<=a.length+1
 | []=>by simp[bT]
 |(k,x)::r=>by
  have a:=lT f v r;rw[show bT f v (((k),x)::r)=(if k=f then((k),v)::r else((k),x)::bT f v r) from rfl];by_cases a:k=f
  .rw[if_pos a,abw,abw];lia
  .rw[if_neg a,abw,abw];lia
theorem kF.some_of(r:kF (some v) o):∃u,o=some u/\RelV v u:=by
 cases o with
 |none=>calc(show False from r).elim
 |some u=>calc(u,rfl,r)
theorem kF.none_of(r:kF none o):o=none:=by
 cases o with
 |none=>rfl
 |some u=>calc(show False from r).elim
theorem GH(r:RelV v u):W.handedIn u=true:=by
 cases v with
 |bL=>cases(show u=Value.none from r);rfl
 |bl b=>cases(show u=Value.bool b from r);rfl
 |int i=>let(t,e):=(show ∃t,u=Value.int i t from r);cases e;rfl
 |str x=>let(t,e):=(show ∃t,u=Value.str x t from r);cases e;rfl
 |En b=>let(t,e):=(show ∃t,u=Value.bytes b t from r);cases e;rfl
 |Rp b=>let(t,e):=(show ∃t,u=Value.float b t from r);cases e;rfl
 |ref a=>cases(show u=Value.ref a from r);rfl
 |ty n=>cases(show u=Value.type n from r);rfl
theorem pT(b:nS P w H h)(e:H a=some (.ins C dx fs)):∃mA,CP h a dx C mA/\(∀f,kF (fs.lookup f) (mA f))/\PySem.Within mA (fs.map (·.1))/\fs.length<=1000/\H dx=some (.own a):=by
 let(d,z,c,f,mA,n,r,q):=(show cy P w H h a (.ins C dx fs) from b a _ e)
 calc(mA,(f,n,c),r,q,z,d)
structure wj(K:W.Frag)(C:Addr):Prop where
 pg:W.plainGet K C Str.empty=true
 hd:W.hasDictIn K C=true
 po:W.plainOver K C=true
 sa:W.findIn K (.ref C) "__setattr__"=some (some (.builtin "object.__setattr__"))
theorem wj.get{K:W.Frag}(c:wj K C)(f:Str):W.plainGet K C f=true:=c.pg
def bZ(K:W.Frag)(C:Addr)(f:Str):Prop:=W.findIn K (.ref C) f=some none
theorem bZ.YO{K:W.Frag}(n:bZ K C f):W.takerIn K C f=some none:=by
 unfold W.takerIn;rw[show W.findIn K (.ref C) f=some none from n];rfl
structure Meth(K:W.Frag)(C:Addr)(m:Str)(f:Addr):Prop where
 at_:W.findIn K (.ref C) m=some (some (.ref f))
 fn:W.isFn K (.ref f)=true
 kp:W.keepIn K (.ref f)=true
theorem CQ(I:Inv X pins σ H s)(e:H a=some (.ins C dx fs))(c:wj X.K C)(n:bZ X.K C f)(l:fs.lookup f=some v)(h:∀u s',Inv X pins σ H s'->RelV v u->Q u s'):wpAny (model X.prog X.w) A (getAttr (.ref a) f b) Q E s:=by
 let(mA,O,r,_,_,_):=pT I.aY e;let(u,d,b):=kF.some_of (v:=v) (o:=mA f) (by rw[<-l];calc r f);calc get_map I.iQ O (c.get f) c.hd n d (GH b) (h u _ (I.tok _) b)
theorem uk{Q:Value×List Value->Shared->Prop}(I:Inv X pins σ H s)(e:H a=some (.ins C dx fs))(c:wj X.K C)(k:Meth X.K C m g)(l:fs.lookup m=none)(h:Q ((.ref g),[.ref a]) s):wpAny (model X.prog X.w) A (getMethod (.ref a) m pl) Q E s:=by
 let(mA,O,r,_,_,_):=pT I.aY e;have b:mA m=none:=kF.none_of (by rw[<-l];calc r m);calc Jx I.iQ O (c.get m) k.at_ k.fn b h
theorem CS{Q:Unit->Shared->Prop}(I:Inv X pins σ H s)(e:H a=some (.ins C dx fs))(c:wj X.K C)(n:bZ X.K C f)(b:fs.length<1000)(k:RelV y u)(h:∀s',Inv X pins σ (upd H a (.ins C dx (bT f y fs))) s'->Q ⟨⟩ s'):wpAny (model X.prog X.w) A (setAttr (.ref a) f u) Q E s:=by
 let(mA,O,r,i,_,j):=pT I.aY e;have b:(fs.map (·.1)).length<=sizeLine:=by rw[V',abb];lia
 calc OO I.iQ O c.sa c.po n.YO c.hd i b λg d l=>h _ ?_;have hd:∃o,g.get? dx=some o:=let ⟨o,_,_,b,_⟩:=d.ns;(o,b)
 calc I.write (x:=a) (e:=dx) (by rw[e];calc aa7) (.inr j) (λb q c z=>(l.2 b c).trans z) hd ?_;refine(by rw[ay O.ne];calc j,?_,O.ne,d.obj,_,d.ns,λg=>?_,λg b=>?_)
 .have:=lT f y fs;lia
 .show kF ((bT f y fs).lookup g) (if g=f then some u else mA g);rw[bC];by_cases q:g=f
  .rw[if_pos q,if_pos q];exact k
  .rw[if_neg q,if_neg q];exact r g
 .by_cases q:g=f
  .rw[q];exact(qM f y fs).1
  .calc(qM f y fs).2 g (i g λz=>b ?_);show(if g=f then some u else mA g)=none;rw[if_neg q];calc z
theorem Inv.made(I:Inv X pins σ H s):Inv X pins σ (upd (upd H s.heap.objs.size (.own (s.heap.objs.size+1))) (s.heap.objs.size+1) (.ins C s.heap.objs.size []))
  {s with heap:=(s.heap.push W.emptyDict).push (W.instObj C s.heap.objs.size)}:=by
 have c:(s.heap.push W.emptyDict).get? s.heap.objs.size=some W.emptyDict:=aai s.heap rfl;have d:((s.heap.push W.emptyDict).push (W.instObj C s.heap.objs.size)).get? (s.heap.objs.size+1)=some (W.instObj C s.heap.objs.size):=by
  have:=aai (s.heap.push W.emptyDict) (o:=W.instObj C s.heap.objs.size) rfl;rwa [aaT]at this
 have f:(s.heap.push W.emptyDict).Ns s.heap.objs.size (λ_=>none):=(W.emptyDict,#[],_,c,rfl,(λe b=>absurd b nofun),λ_=>rfl)
 have e:=I.laid (a:=s.heap.objs.size) (o:=.own (s.heap.objs.size+1)) (h':=s.heap.push W.emptyDict) (t':=s.toks) (λb u q=>P' _ q) (S' _) (_,c);calc e.laid (a:=s.heap.objs.size+1) (o:=.ins C s.heap.objs.size []) (t':=s.toks) (λb u q=>P' _ q) (Nat.le_of_eq (aaT _ _)) ?_;have b:s.heap.objs.size≠s.heap.objs.size+1:=aak (Nat.lt_succ_self _);calc(by rw[ay b,af],aam _,b,d,λ_=>none,(Heap.Ns1.of_empty f).at λo q=>P' _ q,λ_=>aa7,λy b=>absurd rfl b)
theorem OP(b:attributeBase e f env (eval e env)=eval e env)(h:wpAny (model prog w) A (eval e env) (λo a=>wpAny (model prog w) A (getAttr o f true) Q E a) E s):wpAny (model prog w) A (eval (.Attribute e f pos) env) Q E s:=
 Attribute_any_ h (by rw[arm_eval_Attribute,b])
def OQ(K:W.Frag)(a:TE)(f:Str):TE:=λσ H Q=>a σ H λx b=>∃a C d c v,x=.ref a/\b a=some (.ins C d c)/\wj K C/\bZ K C f/\c.lookup f=some v/\Q v b
def Uc(K:W.Frag)(a b:TE)(f:Str):TS:=λD σ H=>b σ H λy d=>a σ d λx c=>∃a C d b,x=.ref a/\c a=some (.ins C d b)/\wj K C/\bZ K C f/\b.length<1000/\
 D.nx σ (upd c a (.ins C d (bT f y b)))
theorem bP(b:PE X e ta)(d:attributeBase e f X.env (eval e X.env)=eval e X.env):PE X (.Attribute e f pos) (OQ X.K ta f):=by
 calc⟨?_⟩;intro pins s σ H Q I h;calc OP d (di (b pins s σ H _ I h) λu p g=>?_);let(x,i,j,k,a,C,b,d,v,m,o,c,n,l,q):=g;subst m;obtain rfl:u=Value.ref a:=k;calc CQ j o c n l λd g a b=>(v,i,a,b,q)
theorem gq(b:PE X o ta)(d:PE X value tv)(e:swapsWith value (some (.Attribute o f pos')) pos.line X.env=pure false):PS X (.Assign [.Attribute o f pos'] value pos) (Uc X.K ta tv f):=by
 calc⟨?_⟩;intro pins s σ H D I h;calc plainObj_wpAny_Assign_Attribute (di (d pins s σ H _ I h) λu g (y,i,j,k,q)=>di (b pins g σ i _ j q) λm d p=>?_) e;let(x,b,r,t,a,C,d,g,v,w,c,n,l,z):=p;subst v;obtain rfl:m=Value.ref a:=t;calc CS r w c n l k λb a=>(σ,_,a,z)
section
variable {H:Hp}
inductive iq(K:W.Frag)(H:Hp):V->Value->Prop where
  |bL:iq K H .bL (.type "NoneType")
  |bl (x:Bool):iq K H (.bl x) (.type "bool")
  |int (i:Int):iq K H (.int i) (.type "int")
  |str (x:Str):iq K H (.str x) (.type "str")
  |Rp (x:UInt64):iq K H (.Rp x) (.type "float")
  |lst {a:Addr} {xs:List V} (e:H a=some (.lst xs)):iq K H (.ref a) (.type "list")
  |Cj {a:Addr} {o:Obj} {xs:List V} (e:H a=some (.Cj o (.lst xs))):iq K H (.ref a) (.type "list")
  |tup {a:Addr} {xs:List V} (e:H a=some (.tup xs)):iq K H (.ref a) (.type "tuple")
  |dK {a:Addr} {aU:List (Key×V)} (e:H a=some (.dK aU)):iq K H (.ref a) (.type "dict")
  |dT {a:Addr} {aU:List (List Key×V)} (e:H a=some (.dT aU)):iq K H (.ref a) (.type "dict")
  | ins {a C dx:Addr} {fs:List (Str×V)} (e:H a=some (.ins C dx fs)) (cl:wj K C) (ha:W.findIn K (.ref C) "__class__"=some (some (.builtin "object.__class__")))
      (hn:W.specialIn K (.builtin "object.__class__") "__get__"=some (some (.builtin "getset_descriptor.__get__"))) (Xj:W.takesIn K (.builtin "object.__class__")=some true)
      (hm:W.mroIn K C (.type "object")=some true):iq K H (.ref a) (.ref C)
theorem xh(I:Inv X pins σ H s)(d:RelV x u)(r:iq X.K H x t)(e:W.kitOne X.K t c=some b)(h:∀v,Q (.bool b) {s with toks:=v}):
  wpAny (model X.prog X.w) A (call (.builtin "isinstance") [u,c]) Q E s:=by
 cases r with
 |bL=>cases(show u=Value.none from d);calc W.kia_one W.kitx_none I.iQ aa7 e (λz=>nomatch z) h
 |bl y=>cases(show u=Value.bool y from d);calc W.kia_one W.kitx_bool I.iQ aa7 e (λz=>nomatch z) h
 |int i=>let(t,q):=(show ∃t,u=Value.int i t from d);cases q;calc W.kia_one W.kitx_int I.iQ aa7 e (λz=>nomatch z) h
 |str y=>let(t,q):=(show ∃t,u=Value.str y t from d);cases q;calc W.kia_one W.kitx_str I.iQ aa7 e (λz=>nomatch z) h
 |Rp y=>let(t,q):=(show ∃t,u=Value.float y t from d);cases q;calc W.kia_one W.kitx_float I.iQ aa7 e (λz=>nomatch z) h
 | @lst a j f=>
  cases(show u=Value.ref a from d);let(_,_,n,_,g):=(show cy X.prog X.w H s.heap a (.lst j) from I.aY a _ f)
  calc W.kia_one W.kitx_list I.iQ (_,g,rfl) e (λz=>nomatch z) h
 | @Cj a B j f=>
  cases(show u=Value.ref a from d);let(_,_,_,n,_,g):=(show cy X.prog X.w H s.heap a (.Cj B (.lst j)) from I.aY a _ f)
  calc W.kia_one W.kitx_list I.iQ (_,g,rfl) e (λz=>nomatch z) h
 | @tup a j f=>
  cases(show u=Value.ref a from d);let(_,_,_,p):=(show cy X.prog X.w H s.heap a (.tup j) from I.aY a _ f)
  let(o,g,k,_):=p;calc W.kia_one W.kitx_tuple I.iQ (o,g,k) e (λz=>nomatch z) h
 | @dK a l f=>
  cases(show u=Value.ref a from d);let(_,_,i,_,p):=(show cy X.prog X.w H s.heap a (.dK l) from I.aY a _ f)
  let(o,D,F,g,k,_):=p;calc W.kia_one W.kitx_dict I.iQ (o,g,k.1) e (λz=>nomatch z) h
 | @dT a l f=>
  cases(show u=Value.ref a from d);let(_,_,j,_,o,D,F,g,k,_):=(show cy X.prog X.w H s.heap a (.dT l) from I.aY a _ f)
  calc W.kia_one W.kitx_dict I.iQ (o,g,k.1) e (λz=>nomatch z) h
 | @ins a C g i f m G L M N=>
  cases(show u=Value.ref a from d);let(mA,O,_):=pT I.aY f;let(a,J,_):=O.look;calc W.kia_one (W.kitx_own (m.get _) m.hd G L M N) I.iQ J e (λz=>nomatch z) h
end
end
section
variable {A:Around}{base:Heap}{H:Hp}{us:List Value}{s:Shared}{mg:jP}{K:W.Frag}
structure eZ(k:Nat)(A:Around):Prop where
 hd:A.handled=none
 dp:A.depth+3*k+5<recursionLimit
 un:A.units+16*k+200<cLine
theorem eZ.mono(r:eZ k A)(h:j<=k):eZ j A:=(r.hd,by have:=r.dp;lia,by have:=r.un;lia)
theorem eZ.deeper(r:eZ (k+1) A)(env:Env):eZ k (A.deeper env):=
 (r.hd,by have:=r.dp;show A.depth+1+3*k+5<_;lia,by have:=r.un;show A.units+3+16*k+200<_;lia)
theorem CT:(A.under (.builtin "type.__call__" (.ref C::us,kw))).depth=A.depth+1:=by
 first|rfl|simp[Around.under,Code.weight,Code.isCreation,Code.isGuard,Code.isCaller,Code.frames,Code.isFrame,guardIds]
theorem CU:(A.under (.builtin "type.__call__" (.ref C::us,kw))).units=A.units+1:=by
 first|rfl|simp[Around.under,Code.cUnits,Code.frames,Code.isFrame]
theorem eZ.make(r:eZ (k+1) A)(C:Addr)(us:List Value)(kw:List (Str×Value)):eZ k (A.under (.builtin "type.__call__" (.ref C::us,kw))):=
 (r.hd,by have:=r.dp;rw[CT];lia,by have:=r.un;rw[CU];lia)
theorem eZ.depth(r:eZ k A):A.depth<recursionLimit:=by have:=r.dp;lia
theorem eZ.units(r:eZ k A):A.units+64<cLine:=by have:=r.un;lia
def GI:TA:=λ_ H Q=>Q [] H
def Ap(a:TE)(b:TA):TA:=λσ H Q=>a σ H λx c=>b σ c λxs a=>Q (x::xs) a
section
variable {t:TA}
theorem aa:PA X [] GI:=.mk λ_ _ _ _ H Q I h=>Calls.spliced_nil ([],H,I,.nil,h)
theorem OS(b:PE X e te)(c:PA X es t)(d:starEach (e::es) X.env=((false),eval e X.env)::starEach es X.env:=by rfl):PA X (e::es) (Ap te t):=by
 calc⟨?_⟩;intro pos a s σ H Q I h;rw[d];show wpAny _ _ (spliced (((false),eval e X.env)::backTo pos (starEach es X.env))) _ _ s;calc Calls.spliced_cons (di (b a s σ H _ I h) λu f g=>?_);let(x,b,d,h,i):=g;calc di (c pos a f σ b _ d i) λus o (j,k,l,m,n)=>(x::j,k,l,.cons h m,n)
def Ue(t:TA):TE:=λσ H Q=>t σ H λxs a=>xs.length<=sizeLine/\∀p,a p=none->Q (.ref p) (upd a p (.tup xs))
def Ug(t:TA):TE:=λσ H Q=>t σ H λxs a=>xs.length<=sizeLine/\∀p,a p=none->Q (.ref p) (upd a p (.lst xs))
theorem bD{a}(h:PA X es t):PE X (.Tuple es a pos) (Ue t):=by
 calc⟨?_⟩;intro a s σ H Q I f;calc wpAny_Tuple_spliced (di (h pos a s σ H _ I f) λus c (g,b,d,r,z,q)=>(by rw[<-r.length];calc z,?_));have a:b c.heap.objs.size=none:=d.aY.fresh (S' _);calc(.ref c.heap.objs.size,upd b c.heap.objs.size (.tup g),d.laid (t':=c.toks) (λb u e=>P' _ e) (S' _) ?_,rfl,q _ a);calc(z,us,r,(_,aai _ rfl,rfl,_,rfl))
theorem bE(h:PA X es t):PE X (.List es pos) (Ug t):=by
 calc⟨?_⟩;intro a s σ H Q I f;calc wpAny_List_spliced (di (h pos a s σ H _ I f) λus c (g,b,d,r,z,q)=>(by rw[<-r.length];calc z,?_));have a:b c.heap.objs.size=none:=d.aY.fresh (S' _);calc(.ref c.heap.objs.size,upd b c.heap.objs.size (.lst g),d.laid (t':=c.toks) (λb u e=>P' _ e) (S' _) ?_,rfl,q _ a);calc(z,us,0,r,aai _ rfl)
end
abbrev Sp:=List V->Hp->VK->XK->Prop
abbrev Jz:=List Env->Hp->Shared->XK->Value->Shared->Prop
structure CV(P:Program)(w:World)(K:W.Frag)(mg:jP)(base:Heap)(A:Around)(outer:List Env)(s:Shared)(H:Hp):Prop where
 frames:A.frames=some outer
 mod:Mod K mg base
 bs:∀b o,base.get? b=some o->s.heap.get? b=some o/\H b=none
 IC:base.objs.size<=s.heap.objs.size
 pS:s.heap.FunFrames base outer
 OE:∀b∈zV outer,H b=none
 aY:nS P w H s.heap
 bare:AllBare s.gens
def CE(outer:List Env)(P:Program)(w:World)(H:Hp)(s:Shared)(Q:VK)(u:Value)(s':Shared):Prop:=
 ∃v a,s'.os=s.os/\AllBare s'.gens/\Un (zV outer) [] H a s.heap s'.heap/\nS P w a s'.heap/\RelV v u/\Q v a
def CR(CX:Jz)(outer:List Env)(P:Program)(w:World)(H:Hp)(s:Shared)(Q:VK)(E:XK)(r:Result)(s':Shared):Prop:=
 match r with
 | .ok (.ret u)=>CE outer P w H s Q u s'
 | .ok _=>False
 | .error e=>CX outer H s E e s'
structure kI(P:Program)(w:World)(K:W.Frag)(mg:jP)(base:Heap)(CX:Jz)(k:Nat)(f:Addr)(fd:FuncData)(ps:List Str)(sp:Sp):Prop where
 len:∀vs H Q E,sp vs H Q E->vs.length=ps.length
 run:∀(A:Around) (outer:List Env) (s:Shared) (H:Hp) (args:Args) (us:List Value) (vs:List V) (Q:VK) (E:XK),eZ k A->CV P w K mg base A outer s H->BindsTo s fd args (ps.zip us)->Vals vs us->sp vs H Q E->
  codeAny (model P w) A (.call (.ref f) args) (CR CX outer P w H s Q E) s
theorem CV.make(e:CV P w K mg base A outer s H)(C:Addr)(us:List Value)(kw:List (Str×Value)):
  CV P w K mg base (A.under (.builtin "type.__call__" (.ref C::us,kw))) outer s H:=⟨by first|calc e.frames|(simpa[Around.under,Code.envs,Code.isFrame,pushEnvs] using e.frames),e.mod,e.bs,e.IC,e.pS,e.OE,e.aY,e.bare⟩
theorem Inv.Uh(I:Inv X pins σ H s):CV X.prog X.w X.K X.mg X.base X.A X.stack s H:=
 (I.ok.frames,I.ok.mod,I.bs,aaL I.ok.IC I.sz,I.stack,I.tU,I.aY,I.bare)
theorem Inv.after(I:Inv X pins σ H s)(h:CE X.stack X.prog X.w H s Q u s'):EP X pins σ Q u s':=by
 let(v,c,os,a,e,f,r,q):=h;let(i,g,d,t,b):=s';obtain rfl:b=s.os:=os;calc(v,c,I.call (h':=i) (g':=g) (d':=d) (t':=t) (ch:=[]) e f a (λb z=>absurd z nofun),r,q)
def uo(sp:Sp)(a:List V)(E:XK)(t:TA):TE:=λσ H Q=>t σ H λvs b=>sp (vs++a) b Q E
def xi(C:Addr)(m:Str)(sp:Sp)(d:List V)(E:XK)(a:TE)(t:TA):TE:=λσ H Q=>a σ H λx b=>∃a e c,x=.ref a/\b a=some (.ins C e c)/\c.lookup m=none/\
 t σ b λvs a=>sp (x::(vs++d)) a Q E
def Ex(C:Addr)(sp:Sp)(c:List V)(E:XK)(t:TA):TE:=λσ H Q=>t σ H λvs b=>∀x a,b x=none->b a=none->a≠x->
 sp (.ref x::(vs++c)) (upd (upd b a (.own x)) x (.ins C a [])) (λv d=>v=.bL/\Q (.ref x) d) E
def Binds(K:W.Frag)(c:FuncData)(a:List Str)(b:List Value):Prop:=
 ∀(s:Shared) (us:List Value),K.In s.heap->(us++b).length=a.length->BindsTo s c (us,[]) (a.zip (us++b))
theorem Binds.all(h:∀us:List Value,us.length=a.length->bindArgs b (us,[])=pure (a.zip us)):Binds K b a []:=λs us _ a=>by
 rw[aax]at a ⊢;calc .of_eq (h us a)
def Passes(CX:Jz)(X:Cx)(E:XK):Prop:=∀(pins:jn) (σ:St) (H:Hp) (s:Shared) (e:Value) (s':Shared),Inv X pins σ H s->CX X.stack H s E e s'->X.xe e s'
section
variable {f C:Addr}
theorem CW(F:kI X.prog X.w X.K X.mg X.base CX k f fd ps sp)(c:eZ k X.A)(d:Binds X.K fd ps ds)(g:Vals wk ds)(i:Passes CX X E)(I:Inv X pins σ H s)(r:Vals vs us)(h:sp (vs++wk) H Q E):X⁻¹ (call (.ref f) us) (EP X pins σ Q) X.xe s:=by
 have b:Vals (vs++wk) (us++ds):=r.append g;have j:(us++ds).length=ps.length:=by rw[<-b.length];exact F.len _ _ _ _ h
 refine wpAny_call (codeAny_mono (F.run X.A X.stack s H (us,[]) (us++ds) (vs++wk) Q E c I.Uh (d s us I.iQ j) b h) λr l a=>?_)
 cases r with
 |error e=>calc i pins σ H s e l I a
 |ok m=>
  cases m with
  |ret u=>calc I.after a
  |next=>calc aaW a
  |brk=>calc aaW a
  |cont=>calc aaW a
theorem Ey(F:kI X.prog X.w X.K X.mg X.base CX k f fd ps sp)(b:eZ k X.A)(a:Gl X x)(c:X.mg x=some (.ref f))(d:W.keepIn X.K (.ref f)=true)(g:Binds X.K fd ps ds)(i:Vals wk ds)(j:Passes CX X E)(l:PA X (e::es) t)(m:(x==("__debug__":Str))=false:=by decide)(n:starEach (e::es) X.env=((false),eval e X.env)::starEach es X.env:=by rfl)(o:(backTo pos (starEach es X.env)).any (·.1)=false:=by rfl):
  PE X (.Call (.Name x p) (e::es) [] pos) (uo sp wk E t):=by
 calc⟨?_⟩;intro pins s σ H Q I h;calc wpAny_Call_Name_kw (kG I a c ?_ m);calc W.callWith_K (h₀:=X.base) I.ok.mod.CB d (di (l pos pins s σ H _ I h) λus c (m,u,a,r,q)=>(a.iQ,?_)) n o;calc CW F b g i j a r q
theorem OT(i:PE X o ta)(c:wj X.K C)(b:Meth X.K C m f)(F:kI X.prog X.w X.K X.mg X.base CX k f fd ps sp)(j:eZ k X.A)(n:Binds X.K fd ps ds)(p:Vals wk ds)(v:Passes CX X E)(y:PA X (e::es) t)(z:starEach (e::es) X.env=((false),eval e X.env)::starEach es X.env:=by rfl)(B:(backTo pos (starEach es X.env)).any (·.1)=false:=by rfl)(r:eval (.Call (.Attribute o m apos) (e::es) [] pos) X.env=(do
   let d <-eval o X.env
   standAt apos.atName
   let (f,first) <-holding [d] (getMethod d m pl)
   callWith pos f first (backTo pos (starEach (e::es) X.env)) (backToKw pos (keywordEach [] X.env))):=by rfl):
  PE X (.Call (.Attribute o m apos) (e::es) [] pos) (xi C m sp wk E ta t):=by
 calc⟨?_⟩;intro pins s σ H Q I h;calc W.methodCall_KW (pl:=pl) (di (i pins s σ H _ I h) λu D G=>?_) r;let(x,J,g,L,a,d,i,M,N,l,q):=G;subst M;obtain rfl:u=Value.ref a:=L;calc uk g N c b l ?_;calc W.callWith_K (first:=[.ref a]) (h₀:=X.base) I.ok.mod.CB b.kp (di (y pos pins D σ J _ g q) λus l (c,u,d,r,i)=>(d.iQ,?_)) z B;calc CW (us:=.ref a::us) (vs:=.ref a::c) F j n p v d (.cons rfl r) i
theorem JA(g:PE X o ta)(c:wj X.K C)(d:Meth X.K C m f)(F:kI X.prog X.w X.K X.mg X.base CX k f fd ps sp)(i:eZ k X.A)(j:Binds X.K fd ps ds)(n:Vals wk ds)(p:Passes CX X E)(r:eval (.Call (.Attribute o m apos) [] [] pos) X.env=(do
   let e <-eval o X.env
   standAt apos.atName
   let (f,first) <-holding [e] (getMethod e m pl)
   callWith pos f first (backTo pos (starEach [] X.env)) (backToKw pos (keywordEach [] X.env))):=by rfl):
  PE X (.Call (.Attribute o m apos) [] [] pos) (xi C m sp wk E ta GI):=by
 calc⟨?_⟩;intro pins s σ H Q I h;calc W.methodCall_KW (pl:=pl) (di (g pins s σ H _ I h) λu e t=>?_) r;let(x,e,b,v,a,g,B,y,z,l,q):=t;subst y;obtain rfl:u=Value.ref a:=v;calc uk b z c d l ?_;calc W.callWith_K0 (first:=[.ref a]) b.iQ d.kp (CW (us:=[.ref a]) (vs:=[.ref a]) F i j n p b (.cons rfl .nil) q)
structure Mk(K:W.Frag)(C f:Addr):Prop where
 makes:W.makesIn K C=true
 init:W.findIn K (.ref C) "__init__"=some (some (.ref f))
 fn:W.isFn K (.ref f)=true
 kp:W.keepIn K (.ref C)=true
theorem JB(M:Mk X.K C f)(F:kI X.prog X.w X.K X.mg X.base CX k f fd ps sp)(hr:eZ (k+1) X.A)(g:Binds X.K fd ps ds)(i:Vals wk ds)(j:Passes CX X E)(I:Inv X pins σ H s)(r:Vals vs us)(h:∀x b,H x=none->H b=none->b≠x->sp (.ref x::(vs++wk)) (upd (upd H b (.own x)) x (.ins C b [])) (λv d=>v=.bL/\Q (.ref x) d) E):
  X⁻¹ (call (.ref C) us) (EP X pins σ Q) X.xe s:=by
 have b:=h (s.heap.objs.size+1) s.heap.objs.size (I.aY.fresh (ac0 _)) (I.aY.fresh (S' _)) (aak (Nat.lt_succ_self _));have c:=Inv.made (C:=C) I;have d:Vals (V.ref (s.heap.objs.size+1)::(vs++wk)) (Value.ref (s.heap.objs.size+1)::(us++ds)):=.cons rfl (r.append i);have l:(Value.ref (s.heap.objs.size+1)::us++ds).length=ps.length:=by
  have e:=d.length;rw[F.len _ _ _ _ b]at e;exact e.symm
 refine wpAny_call (Jy (f:=f) I.iQ M.makes M.init (beq_iff_eq.mp M.fn) (codeAny_mono (F.run _ X.stack _ _ (Value.ref (s.heap.objs.size + 1)::us,[]) (Value.ref (s.heap.objs.size + 1)::(us++ds)) _ _ E (hr.make C us [])
  (c.Uh.make C us []) (g _ (Value.ref (s.heap.objs.size + 1)::us) c.iQ l) d b) λr m a=>?_))
 cases r with
 |error e=>calc j pins σ _ _ e m c a
 |ok n=>
  cases n with
  |ret u=>
   let(v,o,p,q,t,y):=c.after a;subst t;calc(q,(V.ref (s.heap.objs.size+1),o,p,rfl,y))
  |next=>calc aaW a
  |brk=>calc aaW a
  |cont=>calc aaW a
theorem OU(M:Mk X.K C f)(F:kI X.prog X.w X.K X.mg X.base CX k f fd ps sp)(b:eZ (k+1) X.A)(a:Gl X x)(c:X.mg x=some (.ref C))(d:Binds X.K fd ps ds)(g:Vals wk ds)(i:Passes CX X E)(j:PA X (e::es) t)(l:(x==("__debug__":Str))=false:=by decide)(m:starEach (e::es) X.env=((false),eval e X.env)::starEach es X.env:=by rfl)(n:(backTo pos (starEach es X.env)).any (·.1)=false:=by rfl):
  PE X (.Call (.Name x p) (e::es) [] pos) (Ex C sp wk E t):=by
 calc⟨?_⟩;intro pins s σ H Q I h;calc wpAny_Call_Name_kw (kG I a c ?_ l);calc W.callWith_K (h₀:=X.base) I.ok.mod.CB M.kp (di (j pos pins s σ H _ I h) λus c (l,o,a,r,q)=>(a.iQ,?_)) m n;calc JB M F b d g i a r q
end
structure aE(N P:List Str)(sc:Scope):Prop where
 kind:sc.kind=.function
 co:sc.isCoroutine=false
 gen:sc.isGenerator=false
 nd:N.Nodup
 pre:N.take P.length=P
 par:∀x∈P,sc.names.lookup x=some .local\/sc.names.lookup x=some .cell
 Ui:∀y∈sc.names,y.2≠.free
theorem xj:∀{a:List (Str×Value)}{m:jP},(∀v,((x),v)∉a)->bindL b a m x=m x
 | [],_,_=>rfl
 |(n,v)::r,m,h=>by
  unfold bindL;rw[xj λw c=>h w (aar _ c)];split
  .have:x≠n:=by rintro rfl;exact h v aaM
   simp[this]
  .rfl
theorem xk:∀{a:List (Str×Value)}{m:jP},(∀v,((x),v)∉a)->bindC b a m x=m x
 | [],_,_=>rfl
 |(n,v)::r,m,h=>by
  unfold bindC;rw[xk λw c=>h w (aar _ c)];split
  .rfl
  .have:x≠n:=by rintro rfl;exact h v aaM
   simp[this]
theorem xl:∀{P:List Str}{vs:List Value}{i:Nat}{m:jP},P.Nodup->P[i]?=some x->vs[i]?=some v->a x=some .local->
  bindL a (P.zip vs) m x=some v
 | [],_,_,_,_,h,_,_=>by simp at h
 |_::_,[],_,_,_,_,h,_=>by simp at h
 |p::P,w::vs,0,m,d,b,c,e=>by
  simp at b c;subst b;subst c;show bindL a (((p),w)::P.zip vs) m p=_;unfold bindL;rw[xj λv f=>(List.nodup_cons.mp d).1 (List.of_mem_zip f).1,if_pos e];simp
 |p::P,w::vs,i+1,m,d,b,c,e=>by
  show bindL a (((p),w)::P.zip vs) m x=_;unfold bindL;calc xl (i:=i) (List.nodup_cons.mp d).2 (b:) (c:) e
theorem xm:∀{P:List Str}{vs:List Value}{i:Nat}{m:jP},P.Nodup->P[i]?=some x->vs[i]?=some v->a x≠some .local->
  bindC a (P.zip vs) m x=some v
 | [],_,_,_,_,h,_,_=>by simp at h
 |_::_,[],_,_,_,_,h,_=>by simp at h
 |p::P,w::vs,0,m,d,b,c,e=>by
  simp at b c;subst b;subst c;show bindC a (((p),w)::P.zip vs) m p=_;unfold bindC;rw[xk λv f=>(List.nodup_cons.mp d).1 (List.of_mem_zip f).1,if_neg e];simp
 |p::P,w::vs,i+1,m,d,b,c,e=>by
  show bindC a (((p),w)::P.zip vs) m x=_;unfold bindC;calc xm (i:=i) (List.nodup_cons.mp d).2 (b:) (c:) e
noncomputable def start(N:List Str)(vs:List V):St:=vs.map some++List.replicate (N.length-vs.length) none
noncomputable def lU(CX:Jz)(P:Program)(w:World)(K:W.Frag)(mg:jP)(base:Heap)(N:List Str)(qual:Str)(scope:Scope)(f:Addr)(a:Value)(A:Around)(outer:List Env)(s:Shared)(H:Hp)(E:XK):Cx where
 prog:=P
 w:=w
 K:=K
 mg:=mg
 base:=base
 A:=A.deeper (envOfC qual scope s.heap.objs.size f a)
 N:=N
 s₀:=s
 H₀:=H
 env:=envOfC qual scope s.heap.objs.size f a
 outer:=outer
 stack:=envOfC qual scope s.heap.objs.size f a::outer
 ex:=[]
 calm:=true
 fn:=λ_=>true
 pn:=[]
 xe:=λe s'=>wpAny (model P w) (A.deeper (envOfC qual scope s.heap.objs.size f a)) (leaving (envOfC qual scope s.heap.objs.size f a) e) (λ_ b=>CX outer H s E e b) (λa b=>CX outer H s E a b) s'
theorem uq{sc:Scope}(h:sc.names.lookup x=some .cell):∃c,(cellsFrom n sc.names []).lookup x=some c:=by
 have q:=W.cellsFrom_some sc.names n [] (.inl h);calc Option.isSome_iff_exists.mp q
theorem GJ(S:aE N j scope)(C:A.handled=none)(g:CV P w K mg base A outer s H)(p:vs.length=j.length)(r:Vals vs us)(x:InCallC s s.heap.objs.size (bindL (envOfC qual scope s.heap.objs.size f k).kindOf (j.zip us) λ_=>none) (cellsFrom (s.heap.objs.size+1) scope.names []) (bindC (envOfC qual scope s.heap.objs.size f k).kindOf (j.zip us) λ_=>none) b):
  Inv (lU CX P w K mg base N qual scope f k A outer s H E) [] (start N vs) H b:=by
 have b:j.length<=N.length:=by have:=congrArg List.length S.pre;rw[aa1]at this;lia
 let(o,z,rfl,t):=x.done;have p:∀b:Addr,b ∉ (lU CX P w K mg base N qual scope f k A outer s H E).ex:=λb z=>absurd (show b ∈ ([]:List Addr) from z) nofun;refine((g.mod,S.kind,rfl,rfl,S' _,λy z c o d=>?_,λy a=>?_,λy c _ h=>?_,λ_=>C,Around.frames_deeper g.frames,.inr (rfl,rfl),λb z=>absurd z (p b),g.bs,g.IC,λb _ _=>p b,λb z=>absurd z (p b),g.pS,g.OE),
  rfl,g.bare,Un.kept t,(_,x.toInCall.ns,λi y v o d b=>?_),λy c h=>(_,x.cell y c h),g.aY.fresh (S' _),λy c h=>?_,λp l=>absurd (show p ∈ ([]:jn) from l) nofun,g.aY.kept t,?_)
 .exact name_of_addr x.apart (aaG o) (aaG d)
 .have a:scope.names.lookup y=some .cell\/scope.names.lookup y=some .free:=a;rcases a with a | a
  .exact uq a
  .exact absurd rfl (S.Ui _ (aaG a))
 .exact T' (x.above y c (aaG h))
 .have q:i<vs.length:=by
   unfold start at d;by_cases q:i<vs.length
   .exact q
   .rw[aad (q:)]at d;rw[List.getElem?_replicate]at d;split at d<;>cases d
  have D:vs[i]?=some v:=by
   unfold start at d;rw[aag (q:),K']at d
   cases e:vs[i]? with
   |none=>rw[e]at d;cases d
   |some a=>rw[e]at d;cases d;rfl
  let(u,B,F):=r.get D;have l:j[i]?=some y:=by
   rw[<-S.pre,List.getElem?_take_of_lt ()];exact o
  have m:j.Nodup:=by rw[<-S.pre];exact S.nd.sublist (List.take_sublist _ _)
  calc(u,F,?_);rcases S.par y (aaF l) with k|k
  .exact .inl (k,xl m l B k)
  .let(c,e):=uq (n:=s.heap.objs.size+1) k;calc .inr (.inl k,c,e,?_);have q:=x.cell y c e;rw[xm m l B (by show scope.names.lookup y≠_;rw[k];decide)]at q;exact q
 .exact g.aY.fresh (T' (x.above y c (aaG h)))
 .unfold start;show _=N.length;rw[aas,V',acV];lia
theorem Rx{kV:Value}(M:K.lookup f=some (j,od,.func (W.fnOf name qual a b scope o kV i y D g ct),I))(O:W.codeIn K g qual=true)(S:aE N p scope)(j:∀vs H Q E,sp vs H Q E->vs.length=p.length)(R:∀(A:Around) (outer:List Env) (s:Shared) (H:Hp) (vs:List V) (Q:VK) (E:XK),eZ k (A.deeper (envOfC qual scope s.heap.objs.size f g))->sp vs H Q E->
   ∃t,wg (lU CX P w K mg base N qual scope f g A outer s H E) b t/\t {nx:=λ_ d=>Q .bL d,rt:=Q} (start N vs) H):
  kI P w K mg base CX (k+1) f (W.fnOf name qual a b scope o kV i y D g ct) p sp:=by
 calc(j,λA outer s H a us vs Q E z l T r F=>?_);have U:=j _ _ _ _ F;have G:K.In s.heap:=l.mod.CB.keeps λb o e=>(l.bs b o e).1;have B:s.heap.NoLimit:=l.mod.nolimit.keeps λb o e=>(l.bs b o e).1;have X:∀y∈p.zip us,scope.names.lookup y.1=some .local\/(scope.names.lookup y.1=some .cell/\((cellsFrom (s.heap.objs.size+1) scope.names []).lookup y.1).isSome=true):=λ⟨n,v⟩ Y=>by
  rcases S.par n (List.of_mem_zip Y).1 with q|q
  .exact .inl q
  .exact .inr (q,W.cellsFrom_some _ _ _ (.inl q))
 calc codeAny_call_function z.depth (G _ _ M) rfl S.co S.gen rfl (W.codeRec_of G O) (T _ _ _ _ ?_);calc wpAny_newFunctionEnv_cells S.kind X λa Z L x=>?_;subst Z;calc(B.keeps x.toInCall.keep,codeAny_func ?_);let(t,b,i):=R A outer s H vs Q E (z.deeper _) F;have I:Inv (lU CX P w K mg base N qual scope f g A outer s H E) [] (start N vs) H L:=GJ S z.hd l U r x;calc aaR (b [] L (start N vs) H _ I i) (λfl a h=>?_) λe a h=>h;have m:∀{c:St} {d:Hp} {v:V} {u:Value},Inv (lU CX P w K mg base N qual scope f g A outer s H E) [] c d a->RelV v u->Q v d->CE outer P w H s Q u a:=
  λ{c d v u} J C q=>(v,d,J.os,J.bare,J.base,J.aY,C,q)
 cases fl with
 |ret u=>
  let(v,c,d,J,C,q):=h;calc m J C q
 |next=>
  let(c,d,J,q):=h;calc m (v:=V.bL) (u:=Value.none) J rfl q
 |brk=>
  let(_,_,_,q):=h;calc aaW q
 |cont=>
  let(_,_,_,q):=h;calc aaW q
end
section
variable {t:TA}{r:List V->Hp->VK->Prop}
def Xk(r:List V->Hp->VK->Prop)(t:TA):TE:=λσ H Q=>t σ H λvs a=>r vs a Q
theorem JC{id:String}(a:eO X (.builtin id) r)(b:Gl X x)(c:X.mg x=none)(d:bootBuiltins x=some (.builtin id))(f:PA X (e::es) t)(g:x≠"__name__":=by decide)(i:(x==("__debug__":Str))=false:=by decide)(j:starEach (e::es) X.env=((false),eval e X.env)::starEach es X.env:=by rfl)(k:(backTo pos (starEach es X.env)).any (·.1)=false:=by rfl):PE X (.Call (.Name x p) (e::es) [] pos) (Xk r t):=by
 calc⟨?_⟩;intro pins s σ H Q I h;calc wpAny_Call_Name_kw (oj I b c d ?_ g i);calc PyProof.Rows.callWith_builtin1 (di (f pos pins s σ H _ I h) λl m (n,o,q,u,v)=>a pins m σ o n l Q q u v) j k
theorem GK(a:eO X (.type T) r)(b:Gl X x)(c:X.mg x=none)(d:bootBuiltins x=some (.type T))(f:PA X (e::es) t)(g:x≠"__name__":=by decide)(i:(x==("__debug__":Str))=false:=by decide)(j:starEach (e::es) X.env=((false),eval e X.env)::starEach es X.env:=by rfl)(k:(backTo pos (starEach es X.env)).any (·.1)=false:=by rfl):PE X (.Call (.Name x p) (e::es) [] pos) (Xk r t):=by
 calc⟨?_⟩;intro pins s σ H Q I h;calc wpAny_Call_Name_kw (oj I b c d ?_ g i);calc acG (di (f pos pins s σ H _ I h) λl m (n,o,q,u,v)=>a pins m σ o n l Q q u v) j k
end
end L2
namespace HT
open PySem PyProof.Rows
theorem OW(p:IsTup s.heap t vs.toArray)(q:IsTup s.heap b ws.toArray)(h:vs≠[])(r:ws=[]->Q (.ref t) s)(u:ws≠[]->Q (.ref s.heap.objs.size) {s with heap:=s.heap.push {cls:=.type "tuple",data:=.seq (vs++ws).toArray}})(hsz:vs.length+ws.length<=sizeLine):wpAny (model prog w) A (binaryOp .Add (.ref t) (.ref b)) Q E s:=by
 let((cls,i,data,j),f,k,n,l):=id p;let((v,a,e,c),g,m,o,d):=id q;simp only at k l m d;subst k l m d;have e:vs.toArray++ws.toArray=(vs++ws).toArray:=nofun;by_cases d:ws=[]
 .exact concat_meets (_,f,rfl) (_,g,rfl) noFill_tuple_add seq_tuple_add PySem.F.slot_tuple_add PySem.F.entry_tuple_add (PySem.F.args_tuple_add_2 _ _)
   (tuple_addW1 t b vs.toArray ws.toArray n o i a j c (h:) (by simp[d])) (f,g,r d)
 .refine concat_meets (_,f,rfl) (_,g,rfl) noFill_tuple_add seq_tuple_add PySem.F.slot_tuple_add PySem.F.entry_tuple_add (PySem.F.args_tuple_add_2 _ _)
   (tuple_addW2 t b vs.toArray ws.toArray n o i a j c (h:) (d:) (by rw[aan,aan];calc hsz)) (f,g,?_)
  rw[e];calc u d
noncomputable def fm(n d:Nat):Option Int->Nat
 |none=>d
 |some v=>if v<0 then(v+(n:Int)).toNat else min v.toNat n
theorem EA(n d k:Nat):fm n d (some (k:Int))=min k n:=by
 show(if (k:Int)<0 then((k:Int)+(n:Int)).toNat else min (k:Int).toNat n)=min k n;rw[if_neg (),aal]
theorem Uk(n d:Nat)(a:d<=n)(o:Option Int):fm n d o<=n:=by
 cases o with
 |none=>calc a
 |some v=>
  show(if v<0 then(v+(n:Int)).toNat else min v.toNat n)<=n;by_cases a:v<0
  .rw[if_pos a];lia
  .rw[if_neg a];calc Nat.min_le_right _ _
theorem mn1{v:Int}{n:Nat}(h:¬v<0):min v (n:Int)=((min v.toNat n:Nat):Int):=by
 obtain⟨k,rfl⟩:=Int.eq_ofNat_of_zero_le (Int.not_lt.mp h);rw[Int.toNat_natCast];by_cases g:k<=n
 .rw[Nat.min_eq_left g,Int.min_eq_left (Int.ofNat_le.mpr g)]
 .have g:=Nat.le_of_not_le g
  rw[Nat.min_eq_right g,Int.min_eq_right (Int.ofNat_le.mpr g)]
theorem EB(v:Int)(n d:Nat):(if v<0 then max (v+(n:Int)) 0 else min v (n:Int))=((fm n d (some v):Nat):Int):=by
 show(if v<0 then max (v+(n:Int)) 0 else min v (n:Int))=(((if v<0 then(v+(n:Int)).toNat else min v.toNat n):Nat):Int)
 by_cases a:v<0
 .simp only[if_pos a];lia
 .simp only[if_neg a];exact mn1 a
theorem CY(lo a:Option Int)(n:Nat):Builtin.Slice.sliceAdjust lo a 1 (n:Int)=((((fm n 0 lo:Nat):Int)),((fm n n a:Nat):Int)):=by
 have b:¬((1:Int)<0):=();unfold Builtin.Slice.sliceAdjust;simp only[b,if_false];refine Prod.ext ?_ ?_
 .cases lo with
  |none=>rfl
  |some v=>exact EB v n 0
 .cases a with
  |none=>rfl
  |some v=>calc EB v n n
theorem CZ(i j:Nat):Builtin.Slice.slicePlaces (i:Int) (j:Int) 1=j-i:=by
 unfold Builtin.Slice.slicePlaces;have a:(1:Int) > 0:=();simp only[a,if_true,Int.ediv_one];split<;>lia
theorem ur(p:IsPart v o)(h:Q o s):wpAny (model prog w) A (Builtin.Slice.slicePartIndex v) Q E s:=by
 cases p with
 |none=>calc slicePart_none h
 |int i t=>calc slicePart_int h
theorem km{lo:Option Int}{Q:Int×Int×Nat->Shared->Prop}(f:s.heap.IsSliceOf d b c .none)(pl:IsPart b lo)(g:IsPart c a)(h:Q ((((fm n 0 lo:Nat):Int)),1,fm n n a-fm n 0 lo) s):wpAny (model prog w) A (Builtin.Slice.sliceApplied (.ref d) (pure (n:Int))) Q E s:=by
 let(i,d,j,e):=id f;unfold Builtin.Slice.sliceApplied Builtin.Slice.sliceFields;calc J' (J' (aaY d e (x:=b) rfl (J' (aaY d e (x:=c) rfl (J' (aaY d e (x:=.none) rfl (U' ?_)))))));calc J' (slicePart_none ?_);show wpAny _ _ (if ((1:Int)==0)=true then _ else _) _ _ s;rw[if_neg ∅];calc J' (ur pl (J' (ur g (J' (U' ?_)))));show wpAny _ _ (match Builtin.Slice.sliceAdjust lo a 1 (n:Int) with|(lo,a)=>pure ((lo),(1:Int),Builtin.Slice.slicePlaces lo a 1)) _ _ s;rw[CY lo a n];show wpAny _ _ (pure ((((fm n 0 lo:Nat):Int)),(1:Int),Builtin.Slice.slicePlaces ((fm n 0 lo:Nat):Int) ((fm n n a:Nat):Int) 1)) _ _ s;rw[CZ];calc U' h
theorem JD(xs:Array Value)(i k:Nat):((List.range k).filterMap λ(m:Nat)=>xs[((i:Int)+(m:Int)*1).toNat]?).toArray=((xs.toList.drop i).take k).toArray:=by
 have e:(λ(m:Nat)=>xs[((i:Int)+(m:Int)*1).toNat]?)=λm=>xs[i+m]?:=by
  funext m;have:((i:Int)+(m:Int)*1).toNat=i+m:=by lia
  rw[this]
 rw[e];have:=pick_run xs i k;rw[List.filterMap_map]at this;have a:((λx=>xs[x]?) ∘ λx=>i+x)=λm=>xs[i+m]?:=rfl;rw[a]at this;rw[this]
theorem pU{lo:Option Int}(c:IsTup s.heap t a)(g:s.heap.IsSliceOf e d f .none)(pl:IsPart d lo)(i:IsPart f b)(j:¬(fm a.size 0 lo=0/\fm a.size a.size b=a.size))(h:Q (.ref s.heap.objs.size) {s with heap:=s.heap.push {cls:=.type "tuple",data:=.seq ((a.toList.drop (fm a.size 0 lo)).take (fm a.size a.size b-fm a.size 0 lo)).toArray}})(hsz:a.size<=sizeLine):wpAny (model prog w) A (getItem (.ref t) (.ref e)) Q E s:=by
 have d:sizeOk (.seq ((a.toList.drop (fm a.size 0 lo)).take (fm a.size a.size b-fm a.size 0 lo)).toArray):=by
  show((a.toList.drop (fm a.size 0 lo)).take (fm a.size a.size b-fm a.size 0 lo)).toArray.size<=sizeLine;rw[aan,aa1,List.length_drop,Array.length_toList];exact Nat.le_trans (Nat.min_le_right _ _) (Nat.le_trans (Nat.sub_le _ _) hsz)
 have f:fm a.size a.size b<=a.size:=Uk _ _ (S' _) b;let(k,l,n,f):=id g;have f:s.TypeIs (.ref e) "slice":=(k,l,n)
 unfold getItem
 try with_reducible refine abd ?_
 first|calc J' (U' ?_)|skip
 calc J' (wpAny_sequenceKey c.typeIs ∅ ?_);refine J' (acy (name:=Str.ofString "__getitem__") c.typeIs acZ
  (acU acZ c.typeIs entry_tuple_getitem ?_ (args_tuple_getitem _ _)))
 show wpAny _ _ (Builtin.Tuple.tupleItemsOf (.ref t) >>= _) _ _ s;calc J' (tupleItemsOf_ c ?_);calc J' (wpAny_typeOf f ?_);rw[if_pos ∅];calc J' (km g pl i ?_);have e:¬((((fm a.size 0 lo:Nat):Int)==0&&(1:Int)==1&&(fm a.size a.size b-fm a.size 0 lo)==a.size)=true):=by
  intro q;rw[aa4,aa4]at q;have c:((fm a.size 0 lo:Nat):Int)=0:=eq_of_beq q.1.1;have c:fm a.size a.size b-fm a.size 0 lo=a.size:=eq_of_beq q.2;exact j ((),())
 show wpAny _ _ (if (((fm a.size 0 lo:Nat):Int)==0&&(1:Int)==1&&(fm a.size a.size b-fm a.size 0 lo)==a.size)=true then _ else _) _ _ s;rw[if_neg e,JD]
 first
  |calc J' (m:=Builtin.Tuple.tupleExact _) (acD (U' (_,rfl,U' h)) d)
  |calc J' (m:=Builtin.Tuple.tupleExact _) (acD (J' (U' (U' (_,rfl,U' h)))) d)
  |calc J' (J' (m:=Builtin.Tuple.tupleExact _) (acD (U' (U' (_,rfl,U' h))) d))
  |calc J' (J' (m:=Builtin.Tuple.tupleExact _) (acD (U' (_,rfl,U' h)) d))
end HT
namespace L2
open PySem PySem.Spec PyProof.Rows
abbrev TO:=St->Hp->(Option Int->Hp->Prop)->Prop
def PO(X:Cx)(e:Option Expr)(t:TO):Prop:=
 ∀(pins:jn) (s:Shared) (σ:St) (H:Hp) (Q:Option Int->Hp->Prop),Inv X pins σ H s->t σ H Q->
  X⁻¹ (evalPart e X.env) (λu s'=>∃o a,Inv X pins σ a s'/\IsPart u o/\Q o a) X.xe s
def yz:TO:=λ_ H Q=>Q none H
def JE(t:TE):TO:=λσ H Q=>t σ H λx a=>∃i,x=.int i/\Q (some i) a
section
variable {X:Cx}{te:TE}{lo hi:Option Expr}{tl th:TO}
theorem pV:PO X none yz:=by
 intro a s σ H Q I h;rw[evalPart_none];calc U' (none,H,I,.none,h)
theorem iK(h:PE X e te):PO X (some e) (JE te):=by
 intro a s σ H Q I b;rw[evalPart_some];calc di (h a s σ H _ I b) λu k c=>?_;let(x,d,f,g,j):=c;let(i,rfl,q):=j;let(t,rfl):=g;calc(some i,d,f,.int i t,q)
def YU(X:Cx)(r:V->Option Int->Option Int->Hp->VK->Prop):Prop:=
 ∀(pins:jn) (s:Shared) (σ:St) (H:Hp) (x:V) (v a b:Value) (lo hi:Option Int) (c:Addr) (Q:VK),Inv X pins σ H s->RelV x v->s.heap.IsSliceOf c a b .none->IsPart a lo->IsPart b hi->r x lo hi H Q->
  ∃T a,typeLookup (.type T) "__getitem__"=pure (some (.builtin a))/\s.TypeIs v T/\X⁻¹ (getItem v (.ref c)) (EP X pins σ Q) X.xe s
def YV(r:V->Option Int->Option Int->Hp->VK->Prop)(te:TE)(tl th:TO):TE:=λσ H Q=>te σ H λx a=>tl σ a λl b=>th σ b λu a=>r x l u a Q
theorem Aq(g:YU X r)(a:PE X e te)(d:PO X lo tl)(f:PO X hi th):PE X (.Subscript e (.Slice lo hi none p2) pos) (YV r te tl th):=by
 calc⟨?_⟩;intro pins s σ H Q I h;calc Subscript_ (di (a pins s σ H _ I h) λv i b=>?_);let(x,a,j,k,m):=b;calc wpAny_Slice (di (d pins i σ a _ j m) λc n (l,o,p,r,q)=>di (f pins n σ o _ p q) λd a b=>?_);let(u,f,i,j,m):=b;rw[evalPart_none];calc U' ?_;have n:Inv X pins σ f {a with heap:=a.heap.push {cls:=.type "slice",data:=.fields #[c,d,.none]}}:=i.kept (t':=a.toks) λb i q=>P' _ q;let(T,p,b,i,o):=g pins {a with heap:=a.heap.push {cls:=.type "slice",data:=.fields #[c,d,.none]}} σ f x v c d l u a.heap.objs.size Q n k (Heap.IsSliceOf.new ..) r j m;show X⁻¹ (subscriptTail e (.Slice lo hi none p2) v (.ref a.heap.objs.size)) (EP X pins σ Q) X.xe {a with heap:=a.heap.push {cls:=.type "slice",data:=.fields #[c,d,.none]}};calc tail_any (ops:=[.ref a.heap.objs.size,v]) i b o (by with_unfolding_all rfl)
noncomputable def eD(xs:List V)(lo hi:Option Int):List V:=(xs.drop (HT.fm xs.length 0 lo)).take (HT.fm xs.length xs.length hi-HT.fm xs.length 0 lo)
theorem sQ(xs:List V)(lo hi:Option Int):(eD xs lo hi).length<=xs.length:=by
 unfold eD;rw[aa1,List.length_drop];exact Nat.le_trans (Nat.min_le_right _ _) (Nat.sub_le _ _)
def aew(K:W.Frag):V->Option Int->Option Int->Hp->VK->Prop:=λx lo hi H Q=>∃a xs,x=.ref a/\bI K H a xs/\
 ¬(HT.fm xs.length 0 lo=0/\HT.fm xs.length xs.length hi=xs.length)/\∀p,H p=none->Q (.ref p) (upd H p (.tup (eD xs lo hi)))
theorem Um:YU X (aew X.K):=by
 intro b s σ H x v d m lo hi n Q I e g i j h;let(a,c,rfl,k,l,q):=h
 cases e;let(m,r,b,d):=I.tuple k;have a:m.toArray.size=c.length:=by rw[aan];exact r.length.symm
 calc("tuple",_,PyProof.Rows.slot_tuple_getitem.lookup,b.typeIs,?_);calc HT.pU b g i j (by rw[a];calc l) ?_ (by rw[a];calc d);rw[a];calc(.ref s.heap.objs.size,_,I.laid (t':=s.toks) (o:=.tup (eD c lo hi)) (λb a q=>P' _ q) (S' _) ?_,rfl,q _ (I.aY.fresh (S' _)));calc(aaL (sQ c lo hi) d,_,(r.drop (HT.fm c.length 0 lo)).take (HT.fm c.length c.length hi-HT.fm c.length 0 lo),IsTup.new _ _)
def YW(K:W.Frag):R2:=λx y H Q=>∃a b xs c,x=.ref a/\y=.ref b/\bI K H a xs/\bI K H b c/\xs≠[]/\xs.length+c.length<=sizeLine/\
 (c=[]->Q (.ref a) H)/\(c≠[]->∀p,H p=none->Q (.ref p) (upd H p (.tup (xs++c))))
theorem Vals.yA(r:Vals xs us):us=[]↔xs=[]:=by
 cases r with
 |nil=>simp
 |cons _ _=>simp
theorem OX:ik X (binaryOp .Add) (YW X.K):=by
 intro c s σ H x y v u Q I d f h;let(a,b,g,i,rfl,rfl,j,k,l,e,m,n):=h
 cases d
 cases f;let(c,d,h,_):=I.tuple j;let(f,c,p2,_):=I.tuple k;calc HT.OW h p2 (λz=>l (d.yA.mp z)) (λz=>(.ref a,H,I,rfl,m (c.yA.mp z))) (λz=>?_) (by rw[<-d.length,<-c.length];calc e);calc(.ref s.heap.objs.size,_,I.laid (t':=s.toks) (o:=.tup (g++i)) (λb a q=>P' _ q) (S' _) ?_,rfl,n (λw=>z (c.yA.mpr w)) _ (I.aY.fresh (S' _)));calc(by rw[aas];calc e,_,d.append c,IsTup.new _ _)
end
noncomputable def Dc(n:Nat)(i:Int):Option Nat:=if 0<=i then(if i<n then some i.toNat else none) else if -(n:Int)<=i then some (i+n).toNat else none
noncomputable def hV{α:Type}(xs:List α)(i:Int):Option α:=(Dc xs.length i).bind λj=>xs[j]?
theorem ED(h:Dc n i=some j):seqIndex? i n=some j/\j<n/\-(n:Int)<=i/\i<n:=by
 unfold Dc at h;by_cases b:0<=i
 .rw[if_pos b] at h;by_cases a:i < n
  .rw[if_pos a]at h;have e:i.toNat=j:=Option.some.inj h;exact(by rw[seqIndex_of b a,e],(),(),a)
  .rw[if_neg a]at h;cases h
 .rw[if_neg b] at h;by_cases a:-(n:Int)<=i
  .rw[if_pos a]at h;have e:(i+n).toNat=j:=Option.some.inj h;exact(by rw[seqIndex_neg () a,e],(),a,())
  .rw[if_neg a]at h;cases h
theorem yB(h:hV xs i=some v):∃j,seqIndex? i xs.length=some j/\xs[j]?=some v/\j<xs.length/\-(xs.length:Int)<=i/\i<xs.length:=by
 unfold hV at h
 cases e:Dc xs.length i with
 |none=>rw[e]at h;cases h
 |some j=>
  rw[e]at h;let(a,b,c,d):=ED e;calc(j,a,h,b,c,d)
theorem aA{α:Type}{xs:List α}{j:Nat}{v:α}(h:xs[j]?=some v):hV xs (j:Int)=some v:=by
 have a:j<xs.length:=(iF h).1;have e:Dc xs.length (j:Int)=some j:=by
  unfold Dc;rw[if_pos (),if_pos ()];simp
 unfold hV;rw[e];calc h
def EF(b:Expr):Prop:=∀o i,subscripted b false o i=operate [o,i] (getItem o i)
def YX(X:Cx)(r:R2):Prop:=
 ∀(b a:Expr) (pins:jn) (s:Shared) (σ:St) (H:Hp) (x y:V) (v u:Value) (Q:VK),Inv X pins σ H s->RelV x v->RelV y u->r x y H Q->
  subscripted a false v u=operate [v,u] (getItem v u)->X⁻¹ (subscriptTail b a v u) (EP X pins σ Q) X.xe s
def Xm(X:Cx)(a:String)(r:V->List V->Hp->VK->Prop):Prop:=
 ∀(pins:jn) (s:Shared) (σ:St) (H:Hp) (x:V) (xs:List V) (v:Value) (us:List Value) (Q:VK),Inv X pins σ H s->RelV x v->Vals xs us->r x xs H Q->
  X⁻¹ (call (.builtin a) (v::us)) (EP X pins σ Q) X.xe s
section
variable {a b:Expr}
theorem YY(c:YX X r)(d:PE X a ta)(e:PE X b tb)(f:EF b):PE X (.Subscript a b pos) (Js r ta tb):=by
 calc⟨?_⟩;intro pins s σ H Q I h;calc Subscript_ (T5 d e I h λv u g x y i j k l q=>c a b pins g σ i x y v u Q j k l q (f _ _))
def aex(K:W.Frag):R2:=λx y H Q=>∃p xs i v,x=.ref p/\y=.int i/\aS K H p xs/\hV xs i=some v/\Q v H
def aey(K:W.Frag):R2:=λx y H Q=>∃p xs i v,x=.ref p/\y=.int i/\bI K H p xs/\hV xs i=some v/\Q v H
def aez:R2:=λx y H Q=>∃z i c,x=.str z/\y=.int i/\z.length<=sizeLine/\hV z.cps.toList i=some c/\Q (.str ⟨#[c]⟩) H
theorem OY:YX X (aex X.K):=by
 intro b c a s σ H x y v u Q I d e h f;let(p,j,i,z,rfl,rfl,g,k,q):=h
 cases d;let(t,rfl):=e;let(l,r,d,b):=I.list g;let(j,c,b,e,m,n):=yB k;let(w,g,e):=r.get b;have k:=r.length;have b:=uj;have b:EP X a σ Q w s:=(z,H,I,e,q)
 by_cases h:0<=i
 .have e:i.toNat=j:=by
   rw[seqIndex_of h n]at c;exact Option.some.inj c
  exact item_listR d.isList h () (by rw[e];simpa using g) b f
 .have e:(i+(l.toArray.size:Int)).toNat=j:=by
   rw[seqIndex_neg () m]at c;rw[aan,<-k];exact Option.some.inj c
  exact subscriptTail_builtinR (x:=w) d.isList.typeIs slot_list_getitem.lookup
   (wpAny_getItem_list_neg (Q:=λr c=>r=w/\EP X a σ Q r c) d.isList () (by rw[aan]<;>lia) () (by rw[e];simpa using g) (rfl,b)) f
theorem Uo:YX X (aey X.K):=by
 intro b c a s σ H x y v u Q I d e h f;let(p,j,i,z,rfl,rfl,g,k,q):=h
 cases d;let(t,rfl):=e;let(b,r,c,d):=I.tuple g;let(j,d,b,e,h,i):=yB k;let(w,e,g):=r.get b;have h:=r.length;have b:=uj;have b:EP X a σ Q w s:=(z,H,I,g,q)
 exact subscriptTail_builtinR (x:=w) c.typeIs slot_tuple_getitem.lookup
  (getItem_tuple (j:=j) (Q:=λr g=>r=w/\EP X a σ Q r g) c () () (by rw[aan,<-h];calc d) (e:) (rfl,b)) f
theorem Up:YX X aez:=by
 intro a b d s σ H x y v u Q I e f h g;let(z,i,c,rfl,rfl,j,k,q):=h;let(t,rfl):=e;let(l,rfl):=f;let(j,a,b,h,d,e):=yB k;have f:z.cps.toList.length=z.length:=by simp[Str.length]
 rw[f] at a d e;have h:=uj;exact tail_any (typeIs_str s z t) slot_str_getitem.lookup (getItem_str (c:=c) (by
  have d:decide (i < -(2 ^ 63:Int))=false:=aaE ();have e:decide (i >= 2 ^ 63)=false:=aaE ();rw[d,e,Bool.or_false]) (by rw[a];simpa using b) (.str ⟨#[c]⟩,H,I.tok _,(_,rfl),q)) g
theorem Dd(a:List Value)(n j:Nat)(u:Value):Obj.mapSeq (·.setIfInBounds j u) {cls:=.type "list",data:=.seq a.toArray n}={cls:=.type "list",data:=.seq (a.set j u).toArray n}:=by
 simp[Obj.mapSeq]
theorem Inv.lst(I:Inv X pins σ H s)(h:H p=some (.lst xs)):
  ∃(a:List Value) (n:Nat),Vals xs a/\s.heap.get? p=some {cls:=.type "list",data:=.seq a.toArray n}/\xs.length<=sizeLine:=by
 let(z,a,n,r,e):=I.aY p _ h;calc(a,n,r,e,z)
theorem Inv.Uq{a:List V}{d:List Value}(I:Inv X pins σ H s)(h:H p=some (.lst xs))(i:s.heap.get? p=some {cls:=.type "list",data:=.seq d.toArray n})(g:f {cls:=.type "list",data:=.seq d.toArray n}={cls:=.type "list",data:=.seq lR.toArray c})(r:Vals a lR)(d:a.length<=sizeLine)(t:Nat):
  Inv X pins σ (upd H p (.lst a)) {s with heap:=s.heap.update p f,toks:=t}:=by
 have e:(s.heap.update p f).get? p=some {cls:=.type "list",data:=.seq lR.toArray c}:=by
  rw[acW f i (by rw[g]<;>rfl),g]
 calc I.write (x:=p) (e:=p) (by rw[h];trivial) (.inl rfl) (λb u a q=>(abL _ _ (Ne.symm a)).trans q) (_,e) ?_;calc(d,lR,c,r,e)
def YZ:V->V->V->Hp->(Hp->Prop)->Prop:=λo i v H Q=>∃p xs k j,o=.ref p/\i=.int k/\H p=some (.lst xs)/\Dc xs.length k=some j/\Q (upd H p (.lst (xs.set j v)))
theorem set_list:TU X YZ:=by
 intro a s σ H o i v c f u Q I b d l h;let(p,m,k,j,rfl,rfl,e,w,q):=h
 cases b;let(t,rfl):=d;let(f,n,r,c,o):=I.lst e;let(b,d,g,h):=ED w;have d:=r.length;have i:=uj;have i:Inv X a σ (upd H p (.lst (m.set j v))) {s with heap:=s.heap.update p (Obj.mapSeq (·.setIfInBounds j u))}:=
  I.Uq e c (Dd f n j u) (r.set l j) (by rw[List.length_set];calc o) s.toks
 by_cases e:0<=k
 .have a:k.toNat=j:=by
   rw[seqIndex_of e h]at b;exact Option.some.inj b
  exact W.ki_setAt c e () (by rw[aan,<-d];calc h) (by rw[a];calc(_,i,q))
 .have a:(k+(f.toArray.size:Int)).toNat=j:=by
   rw[seqIndex_neg () g]at b;rw[aan,<-d];exact Option.some.inj b
  calc W.ki_setBack c () (by rw[aan,<-d];calc g) () (by rw[a];calc(_,i,q))
theorem yC(lo a:Option Int)(n:Nat):(sliceBounds lo a none n).1=((HT.fm n 0 lo:Nat):Int)/\(sliceBounds lo a none n).2.1=((HT.fm n n a:Nat):Int)/\(sliceBounds lo a none n).2.2=1:=by
 refine(?_,?_,rfl)
 .cases lo with
  |none=>simp[sliceBounds,HT.fm]
  |some i=>
   simp only[sliceBounds,HT.fm,Option.getD_none,show(1:Int) > 0 by decide,if_true];by_cases h:i<0
   .simp only[h,if_true]<;>lia
   .simp only[h,if_false];first|(rw[HT.mn1 h];exact Int.max_eq_right (Int.natCast_nonneg _))|lia
 .cases a with
  |none=>simp[sliceBounds,HT.fm]
  |some i=>
   simp only[sliceBounds,HT.fm,Option.getD_none,show(1:Int) > 0 by decide,if_true];by_cases h:i<0
   .simp only[h,if_true]<;>lia
   .simp only[h,if_false];first|(rw[HT.mn1 h];exact Int.max_eq_right (Int.natCast_nonneg _))|lia
theorem wm(a:List Value)(lo b:Option Int):slicePick a.toArray lo b none=((a.drop (HT.fm a.length 0 lo)).take (HT.fm a.length a.length b-HT.fm a.length 0 lo)).toArray:=by
 let(c,d,e):=yC lo b a.toArray.size;unfold slicePick;rw[c,d,e];simp only[sliceRange_one,pick_run,List.size_toArray]<;>rfl
def aeA(K:W.Frag):V->Option Int->Option Int->Hp->VK->Prop:=λx lo b H Q=>∃a xs,x=.ref a/\aS K H a xs/\∀p,H p=none->Q (.ref p) (upd H p (.lst (eD xs lo b)))
theorem EG:YU X (aeA X.K):=by
 intro d s σ H x v g n e f p Q I i j k l h;let(a,c,rfl,m,q):=h
 cases i;let(d,r,g,h):=I.list m;have d:=r.length;calc("list",_,slot_list_getitem.lookup,g.isList.typeIs,?_);calc wpAny_getItem_list_slice g.isList j k l .none nofun ?_ (by rw[aan]<;>lia);rw[wm,<-d];calc(.ref s.heap.objs.size,_,I.laid (t':=s.toks) (o:=.lst (eD c e f)) (λb d q=>P' _ q) (S' _) ?_,rfl,q _ (I.aY.fresh (S' _)));calc(aaL (sQ c e f) h,_,0,(r.drop (HT.fm c.length 0 e)).take (HT.fm c.length c.length f-HT.fm c.length 0 e),aai _ rfl)
noncomputable def gE:V->Bool
 | .bL=>true
 | .bl _=>true
 | .int _=>true
 | .str _=>true
 |_=>false
noncomputable def IF:V->V->Bool
 | .bL,.bL=>true
 | .bl a,.bl b=>a==b
 | .bl a,.int b=>(if a then 1 else 0)==b
 | .int a,.bl b=>a==(if b then 1 else 0)
 | .int a,.int b=>a==b
 | .str a,.str b=>a==b
 |_,_=>false
theorem De(e:RelV y u)(c:RelV x v)(g:gE y=true)(f:gE x=true):SeqAt.EqAt A s u v (IF y x):=by
 cases y with
 |bL=>
  cases e
  cases x with
  |bL=>cases c;calc SeqAt.EqAt.same _
  |bl b=>cases c;calc SeqAt.EqAt.none_bool b
  |int b=>let(t,rfl):=c;calc SeqAt.EqAt.none_int b t
  |str b=>let(t,rfl):=c;calc SeqAt.EqAt.none_str b t
  |_=>calc absurd (show false=true from f) X'
 |bl a=>
  cases e
  cases x with
  |bL=>cases c;calc SeqAt.EqAt.bool_none a
  |bl b=>cases c;calc SeqAt.EqAt.bool_bool a b
  |int b=>let(t,rfl):=c;calc SeqAt.EqAt.bool_int a b t
  |str b=>let(t,rfl):=c;calc SeqAt.EqAt.bool_str a b t
  |_=>calc absurd (show false=true from f) X'
 |int a=>
  let(d,rfl):=e
  cases x with
  |bL=>cases c;calc SeqAt.EqAt.int_none a d
  |bl b=>cases c;calc SeqAt.EqAt.int_bool a d b
  |int b=>let(t,rfl):=c;calc SeqAt.EqAt.int_int a d b t
  |str b=>let(t,rfl):=c;calc SeqAt.EqAt.int_str a d b t
  |_=>calc absurd (show false=true from f) X'
 |str a=>
  let(d,rfl):=e
  cases x with
  |bL=>cases c;calc SeqAt.EqAt.str_none a d
  |bl b=>cases c;calc SeqAt.EqAt.str_bool a d b
  |int b=>let(t,rfl):=c;calc SeqAt.EqAt.str_int a d b t
  |str b=>let(t,rfl):=c;calc SeqAt.EqAt.str_str a d b t
  |_=>calc absurd (show false=true from f) X'
 |_=>calc absurd (show false=true from g) X'
noncomputable def OZ(x:V)(u:Value):Bool:=match u with
 | .none=>IF .bL x
 | .bool b=>IF (.bl b) x
 | .int i _=>IF (.int i) x
 | .str z _=>IF (.str z) x
 |_=>false
theorem JF(r:RelV y u)(f:gE y=true):OZ x u=IF y x:=by
 cases y with
 |bL=>cases r;rfl
 |bl b=>cases r;rfl
 |int i=>let(t,rfl):=r;rfl
 |str z=>let(t,rfl):=r;rfl
 |_=>calc absurd (show false=true from f) X'
theorem yD:∀{xs:List V}{us:List Value},Vals xs us->xs.all gE=true->us.any (OZ x)=xs.any λy=>IF y x
 |_,_,.nil,_=>rfl
 |y::xs,u::us,.cons r t,f=>by
  rw[List.all_cons,aa4]at f;rw[List.any_cons,List.any_cons,JF r f.1,yD t f.2]
theorem uu(b:RelV x v)(c:gE x=true):∀{xs:List V}{us:List Value},Vals xs us->xs.all gE=true->∀u∈us,SeqAt.EqAt A s u v (OZ x u)
 |_,_,.nil,_=>λu a=>by cases a
 |y::xs,u::us,.cons r t,f=>λd a=>by
  rw[List.all_cons,aa4]at f;rcases List.mem_cons.mp a with rfl|a
  .rw[JF r f.1];exact De r b f.1 c
  .calc uu b c t f.2 d a
def EH(x:V)(xs:List V):Bool:=xs.any λy=>IF y x
def rIn(K:W.Frag)(a:Bool):R2:=λx y H Q=>∃p xs,y=.ref p/\(aS K H p xs\/bI K H p xs)/\gE x=true/\xs.all gE=true/\Q (.bl (if a then !EH x xs else EH x xs)) H
theorem GN:ik X (compareOp .In) (rIn X.K false):=by
 intro b s σ H x y v u Q I f d h;let(p,e,rfl,a,g,c,q):=h
 cases d;rcases a with a|a
 .let(b,r,d,h):=I.list a;calc SeqAt.in_listAt (OZ x) d.isList (λw e=>uu f g r c w (e:)) (.bl _,H,I,rfl,?_);rw[show b.toArray.any (OZ x)=b.any (OZ x) by simp,yD r c];exact q
 .let(b,r,d,h):=I.tuple a;calc SeqAt.in_tupleAt (OZ x) d (λw e=>uu f g r c w (e:)) (.bl _,H,I,rfl,?_);rw[show b.toArray.any (OZ x)=b.any (OZ x) by simp,yD r c];calc q
theorem yE:eO X (.type "list") (λxs H Q=>∃p d,xs=[.ref p]/\(aS X.K H p d\/bI X.K H p d)/\∀l,H l=none->Q (.ref l) (upd H l (.lst d))):=by
 intro i s σ H xs o Q I r h;let(p,d,rfl,j,q):=h;let(u,rfl,n):=vals1 r
 cases n;have k:∀(c:List Value),Vals d c->d.length<=sizeLine->∀(a:Heap) (f:Nat),(∀b h,s.heap.get? b=some h->a.get? b=some h)->
   a.get? s.heap.objs.size=some {cls:=.type "list",dict:=none,data:=.seq c.toArray f,slots:=#[]}->EP X i σ Q (.ref s.heap.objs.size) {s with heap:=a}:=λc g m a f t e=>
  (.ref s.heap.objs.size,_,I.laid (t':=s.toks) t (S' _) (show cy X.prog X.w _ a _ (.lst d) from(m,c,f,g,e)),rfl,q _ (I.aY.fresh (S' _)))
 rcases j with j|j
 .let(c,g,h,m):=I.list j;have d:=g.length;let(o,i,l,n,q):=h.isList;exact call_list_seq p (.inl rfl) i l q (λa f t e=>k c g m a f t e) (by simp only[List.size_toArray]<;>lia)
 .let(c,g,h,m):=I.tuple j;have d:=g.length;let(o,i,l,n,q):=h;calc call_list_seq p (.inr rfl) i l q (λa f t e=>k c g m a f t e) (by simp only[List.size_toArray]<;>lia)
theorem nV:eO X (.type "tuple") (λxs H Q=>∃p c,xs=[.ref p]/\((aS X.K H p c/\∀l,H l=none->Q (.ref l) (upd H l (.tup c)))\/(bI X.K H p c/\Q (.ref p) H))):=by
 intro a s σ H xs e Q I r h;let(p,c,rfl,h):=h;let(u,rfl,d):=vals1 r
 cases d;rcases h with⟨f,q⟩|⟨f,q⟩
 .let(g,h,i,j):=I.list f;have d:=h.length;calc call_tuple_list i.isList (λd e=>?_) (by simp only[List.size_toArray]<;>lia);have k:Inv X a σ H {s with heap:=d}:=I.kept (t':=s.toks) e;have m:Inv X a σ (upd H d.objs.size (.tup c)) {s with heap:=d.push {cls:=.type "tuple",data:=.seq g.toArray}}:=
   k.laid (t':=s.toks) (λb o e=>P' _ e) (S' _) (show cy X.prog X.w _ _ _ (.tup c) from(j,g,h,IsTup.new _ _))
  exact(.ref d.objs.size,_,m,rfl,q _ (k.aY.fresh (S' _)))
 .let(g,h,i,j):=I.tuple f;calc call_tuple_same i (.ref p,H,I,rfl,q)
def tyV(K:W.Frag)(T:String)(x:V)(H:Hp):Prop:=match x with
 | .str _=>T="str"
 | .int _=>T="int"
 | .ref p=>(T="list"/\∃xs,aS K H p xs)\/(T="tuple"/\∃o,K.lookup p=some o/\o.cls=.type "tuple"/\o.dict=none)\/
   (T="dict"/\((∃a,H p=some (.dK a))\/∃a,H p=some (.dT a)))\/(T="set"/\∃S n,H p=some (.set S n))
 |_=>False
theorem JG(I:Inv X pins σ H s)(r:RelV x v)(f:tyV X.K T x H):
  s.TypeIs v T/\∀a,v=.ref a->∃c,s.heap.get? a=some c/\c.dict=none:=by
 cases x with
 |str z=>
  let(t,rfl):=r
  cases(show T="str" from f);calc(typeIs_str s z t,λ_ e=>nomatch e)
 |int i=>
  let(t,rfl):=r
  cases(show T="int" from f);calc(typeIs_int s i t,λ_ e=>nomatch e)
 |ref p=>
  cases r;rcases f with⟨rfl,m,k⟩|⟨rfl,o,b,l,g⟩|⟨rfl,b⟩|⟨rfl,S,n,b⟩
  .let(c,_,j,_):=I.list k;refine(j.isList.typeIs,λa e=>?_)
   cases e;let(o,n,e,c,g,_):=j;exact(o,e,g)
  .refine((o,I.iQ p o b,l),λa e=>?_)
   cases e;exact(o,I.iQ _ o b,g)
  .have z:∃o,s.heap.get? p=some o/\o.ExactDict:=by
    rcases b with⟨c,b⟩|⟨c,b⟩
    .let(_,_,_,_,o,_,_,e,d,_):=I.aY p _ b;exact(o,e,d)
    .let(_,_,_,_,o,_,_,e,d,_):=I.aY p _ b;exact(o,e,d)
   let(o,e,d):=z;refine((o,e,d.1),λa h=>?_)
   cases h;exact(o,e,d.2.1)
  .let(o,_,_,_,e,d,_):=I.aY p _ b;refine((o,e,d.1),λa h=>?_)
   cases h;calc(o,e,d.2.1)
 |_=>calc aaW f
def Ur(K:W.Frag)(T:String)(r:V->List V->Hp->VK->Prop)(b:TE):TE:=λσ H Q=>b σ H λx a=>tyV K T x a/\r x [] a Q
def tBM(K:W.Frag)(T:String)(r:V->List V->Hp->VK->Prop)(b:TE)(t:TA):TE:=λσ H Q=>b σ H λx a=>tyV K T x a/\t σ a λxs b=>r x xs b Q
theorem Us{id:String}(d:PlainAttrs T)(a:Slot T name id)(e:typeOf (.builtin id)=pure (.type "method_descriptor"))(f:Xm X id r)(b:PE X o to)(c:attributeBase o name X.env (eval o X.env)=eval o X.env:=by rfl)(g:(apos.endLine==qO.line)=true:=by rfl):PE X (.Call (.Attribute o name apos) [] [] qO) (Ur X.K T r to):=by
 calc⟨?_⟩;intro pins s σ H Q I h;calc wpAny_Call_method0_late c g (di (b pins s σ H _ I h) λv i j=>?_);let(x,g,b,c,k,l):=j;let(m,n):=JG b c k;calc(T,id,d,a,e,m,n,Calls.callWith_builtin rfl (PySem.evalArgs_none (f pins i σ g x [] v [] Q b c .nil l)))
theorem dw{id:String}(f:PlainAttrs T)(a:Slot T name id)(g:typeOf (.builtin id)=pure (.type "method_descriptor"))(i:Xm X id r)(b:PE X o to)(j:PA X (e::es) t)(c:attributeBase o name X.env (eval o X.env)=eval o X.env:=by rfl)(d:((backTo qO (starEach (e::es) X.env)).all (λx=> !x.1) && (backToKw qO (keywordEach [] X.env)).all (λx=>x.1.isSome)
   && decide ((e::es).length + ([]:List Keyword).length + (if ([]:List Keyword).isEmpty then 0 else 1) < 30))=true:=by rfl)(k:(apos.endLine==qO.line)=true:=by rfl)(l:starEach (e::es) X.env=((false),eval e X.env)::starEach es X.env:=by rfl)(m:(backTo qO (starEach es X.env)).any (·.1)=false:=by rfl):
  PE X (.Call (.Attribute o name apos) (e::es) [] qO) (tBM X.K T r to t):=by
 calc⟨?_⟩;intro pins s σ H Q I h;calc wpAny_Call_method_late c d k rfl (di (b pins s σ H _ I h) λv n p=>?_);let(x,k,b,c,q,u):=p;let(w,y):=JG b c q;calc(T,id,f,a,g,w,y,?_);have d:=j qO pins n σ k _ b u;rw[l]at d ⊢;calc Calls.callWith_builtin (by show(false||(backTo qO (starEach es X.env)).any (·.1))=false;rw[m]<;>rfl) (Calls.evalArgs_plain ?_);calc di d λa f (g,p,q,w,y)=>i pins f σ p x g v a Q q c w y
end
def MtM(X:Cx)(a:String)(r:V->List V->Hp->VK->Prop):Prop:=
 ∀(pins:jn) (s:Shared) (σ:St) (H:Hp) (x:V) (xs:List V) (v:Value) (us:List Value) (Q:VK),Inv X pins σ H s->RelV x v->Vals xs us->r x xs H Q->
  X⁻¹ (call (.builtin a) (v::us)) (EP X pins σ Q) X.xe s
theorem Vals.one(h:Vals [x] us):∃u,us=[u]/\RelV x u:=vals1 h
theorem Vals.two(h:Vals [x,y] us):∃u v,us=[u,v]/\RelV x u/\RelV y v:=vals2 h
theorem Vals.zero:∀{us:List Value},Vals [] us->us=[]
 |_,.nil=>rfl
theorem Vals.dropLast(h:Vals xs us):Vals xs.dropLast us.dropLast:=by
 induction h with
 |nil=>calc .nil
 |cons r t a=>
  cases t with
  |nil=>calc .nil
  |cons q b=>calc .cons r a
theorem Vals.eraseIdx:∀{xs:List V}{us:List Value}(i:Nat),Vals xs us->Vals (xs.eraseIdx i) (us.eraseIdx i)
 |_,_,_,.nil=>.nil
 |_,_,0,.cons _ t=>t
 |_,_,i+1,.cons r t=>.cons r (Vals.eraseIdx i t)
theorem Df{α:Type}(l:List α):l.eraseIdx (l.length-1)=l.dropLast:=by
 induction l with
 |nil=>rfl
 |cons a r c=>
  cases r with
  |nil=>rfl
  |cons b r=>
   have e:(a::b::r).length-1=((b::r).length-1)+1:=by
    have d:(a::b::r).length=r.length+2:=rfl;have a:(b::r).length=r.length+1:=rfl;lia
   rw[e,List.eraseIdx_cons_succ,c]
   all_goals rfl
theorem xn{α:Type}:∀(l:List α) (i:Nat),(l.eraseIdx i).length<=l.length
 | [],_=>S' _
 |_::_,0=>ac0 _
 |_::r,i+1=>Nat.succ_le_succ (xn r i)
theorem Inv.O1{a:List Value}(I:Inv X pins σ H s)(b:H l=some (.lst xs))(e:s.heap.get? l=some {cls:=.type "list",data:=.seq a.toArray n})(c:f a.toArray=lR.toArray)(d:Vals ys lR)(g:ys.length<=sizeLine):
  Inv X pins σ (upd H l (.lst ys)) {s with heap:=s.heap.update l (Obj.mapSeq f),toks:=t'}:=by
 have q:=PySem.IsL.update e f;rw[c]at q;calc I.write (x:=l) (e:=l) (by rw[b];calc trivial) (.inl rfl) (λe u a c=>(abL s.heap (Obj.mapSeq f) (Ne.symm a)).trans c) (_,q) ?_;calc(g,lR,_,d,q)
theorem Inv.aeD(I:Inv X pins σ H s)(b:Vals ys a)(c:ys.length<=sizeLine):
  Inv X pins σ (upd H s.heap.objs.size (.lst ys)) {s with heap:=s.heap.push {cls:=.type "list",data:=.seq a.toArray},toks:=t'}:=
 I.laid (λ_ _ q=>P' _ q) (S' _) (c,a,0,b,aai _ rfl)
theorem Inv.fresh(I:Inv X pins σ H s):H s.heap.objs.size=none:=I.aY.fresh (S' _)
theorem Inv.Dg(I:Inv X pins σ H s)(b:H l=some (.lst xs)):xs.length<=sizeLine/\∃(a:List Value) (n:Nat),Vals xs a/\xs.length=a.length/\s.heap.get? l=some {cls:=.type "list",data:=.seq a.toArray n}:=by
 let(z,a,n,r,e):=I.aY l _ b;calc(z,a,n,r,r.length,e)
theorem JH(h:n<=sizeLine):Builtin.List.listTooLong n=false:=by
 unfold Builtin.List.listTooLong;calc aaE ()
def O2:V->List V->Hp->VK->Prop:=λx vs H Q=>∃l xs y,x=.ref l/\vs=[y]/\H l=some (.lst xs)/\xs.length<sizeLine/\Q .bL (upd H l (.lst (xs++[y])))
theorem xo:MtM X "list.append" O2:=by
 intro a s σ H x e v f Q I c d h;let(l,g,y,rfl,rfl,b,i,q):=h
 cases c;let(u,rfl,f):=d.one;let(z,a,n,r,c,e):=I.Dg b;calc call_meets F.slot_list_append (_,e,rfl) F.entry_list_append (F.args_list_append_2 _ _) (PySem.list_append l a.toArray n u (by rw[aan];lia)) (e,?_);calc(.bL,_,I.O1 (lR:=a++[u]) b e nofun (r.append (.cons f .nil)) ?_,rfl,q);rw[aas,List.length_singleton];lia
def O3:V->List V->Hp->VK->Prop:=λx vs H Q=>∃l b xs a,x=.ref l/\vs=[.ref b]/\H l=some (.lst xs)/\H b=some (.lst a)/\xs.length+a.length<=sizeLine/\Q .bL (upd H l (.lst (xs++a)))
theorem GO:MtM X "list.extend" O3:=by
 intro a s σ H x e v j Q I c d h;let(l,b,k,m,rfl,rfl,f,g,n,q):=h
 cases c;let(u,rfl,i):=d.one
 cases i;let(z,a,n,r,c,e):=I.Dg f;let(d,c,h,i,k,j):=I.Dg g;have d:a.toArray.size+c.toArray.size<=sizeLine:=by rw[aan,aan];lia
 have g:¬(!a.toArray.isEmpty&&Builtin.List.listTooLong (a.toArray.size+c.toArray.size))=true:=by
  rw[JH d,Bool.and_false];exact X'
 refine call_meets F.slot_list_extend (_,e,rfl) F.entry_list_extend (F.args_list_extend_2 _ _)
  (AutoSeq1.list_extend_list_list_0 l a.toArray n b c.toArray h g (by rw[aan];lia) ()) (e,j,?_)
 calc(.bL,_,I.O1 (lR:=a++c) f e nofun (r.append i) ?_,rfl,q);rw[aas];lia
def aeE:V->List V->Hp->VK->Prop:=λx vs H Q=>∃l xs y,x=.ref l/\vs=[]/\H l=some (.lst xs)/\xs[xs.length-1]?=some y/\Q y (upd H l (.lst xs.dropLast))
theorem Uu:MtM X "list.pop" aeE:=by
 intro a s σ H x e v i Q I d f h;let(l,j,y,rfl,rfl,c,g,q):=h
 cases d;have b:=f.zero;subst b;let(z,a,n,r,d,e):=I.Dg c;let(u,b,f):=r.get g;have h:a.toArray[a.toArray.size-1]?=some u:=by
  show a.toArray[a.length-1]?=some u;rw[<-Array.getElem?_toList,<-d];exact b
 calc call_meets F.slot_list_pop (_,e,rfl) F.entry_list_pop (F.args_list_pop_1 _) (MeetsSeq.list_pop_last l a.toArray n u h (by rw[aan];lia)) (e,?_);refine(y,_,I.O1 (lR:=a.dropLast) c e ?_ r.dropLast ?_,f,q)
 .show a.toArray.eraseIdxIfInBounds (a.toArray.size-1)=a.dropLast.toArray;rw[aan,List.eraseIdxIfInBounds_toArray,Df]
 .rw[List.length_dropLast];lia
def aeF:R2:=λx y H Q=>∃l b xs a,x=.ref l/\y=.ref b/\H l=some (.lst xs)/\H b=some (.lst a)/\xs.length+a.length<=sizeLine/\∀p,H p=none->Q (.ref p) (upd H p (.lst (xs++a)))
theorem Uv:ik X (binaryOp .Add) aeF:=by
 intro a s σ H x y v u Q I c d h;let(l,b,e,i,rfl,rfl,f,g,j,q):=h
 cases c
 cases d;let(z,a,n,r,b,e):=I.Dg f;let(h,b,i,c,j,d):=I.Dg g;calc PySem.P.add_list e d ?_ (by rw[aan,aan];lia);have f:a.toArray++b.toArray=(a++b).toArray:=nofun;rw[f];calc(.ref _,_,I.aeD (t':=s.toks) (r.append c) (by rw[aas];lia),rfl,q _ I.fresh)
theorem JI(I:Inv X pins σ H s)(b:H l=some (.lst xs))(c:-(2^63)<=i)(d:i<2^63)(f:seqIndex? i xs.length=some k)(h:∀s',Inv X pins σ (upd H l (.lst (xs.eraseIdx k))) s'->Q ⟨⟩ s'):
  X⁻¹ (delItem (.ref l) (.int i t)) Q X.xe s:=by
 let(z,a,n,r,g,e):=I.Dg b;calc PySem.P.delItem_list (k:=k) e (fitsIndex_both c d) (by rw[aan,<-g];calc f) (h _ ?_) (by rw[aan];lia);refine I.O1 (lR:=a.eraseIdx k) (t':=s.toks) b e ?_ (r.eraseIdx k) ?_
 .show a.toArray.eraseIdxIfInBounds k=(a.eraseIdx k).toArray;rw[List.eraseIdxIfInBounds_toArray]
 .have:=xn xs k;lia
set_option maxRecDepth 100000 in
section
variable {a:Addr}{X:Cx}{H H':Hp}{aU:List (List Key×V)}{Cn:List (TE×TE)}{pos:Pos}{Q:jD}
section
variable {κ:Type}[DecidableEq κ]
noncomputable def fN(aU:List (κ×V))(k:κ):Option V:=(aU.find? λa=>decide (a.1=k)).map (·.2)
noncomputable def putK(aU:List (κ×V))(k:κ)(v:V):List (κ×V):=
 if (aU.any λa=>decide (a.1=k))=true then aU.map (λa=>if a.1=k then((a.1),v) else a) else aU++[((k),v)]
theorem JJ{k:κ}:fN ([]:List (κ×V)) k=none:=rfl
theorem eP{p:κ×V}{r:List (κ×V)}{k:κ}(e:p.1=k):fN (p::r) k=some p.2:=by simp[fN,List.find?_cons,e]
theorem eQ{p:κ×V}{r:List (κ×V)}{k:κ}(e:¬p.1=k):fN (p::r) k=fN r k:=by simp[fN,List.find?_cons,e]
theorem iT(k:κ):∀aU:List (κ×V),(aU.any λa=>decide (a.1=k))=(fN aU k).isSome
 | []=>rfl
 |p::r=>by
  rw[List.any_cons];by_cases e:p.1=k
  .simp only[eP e,decide_eq_true e,Bool.true_or,Option.isSome_some]
  .rw[eQ e,aaE e,Bool.false_or];calc iT k r
theorem Au(k j:κ)(y:V):∀aU:List (κ×V),fN (aU.map λa=>if a.1=k then((a.1),y) else a) j=(fN aU j).map λx=>if j=k then y else x
 | []=>rfl
 |p::r=>by
  have a:=Au k j y r;rw[abx];by_cases h:p.1=k
  .rw[if_pos h];by_cases e:p.1=j
   .rw[eP (p:=((p.1),y)) e,eP e,Option.map_some,if_pos (e.symm.trans h)]
   .rw[eQ (p:=((p.1),y)) e,eQ e,a]
  .rw[if_neg h];by_cases e:p.1=j
   .rw[eP (p:=p) e,eP e,Option.map_some,if_neg (λz=>h (e.trans z))]
   .rw[eQ (p:=p) e,eQ e,a]
theorem xq(k j:κ)(y:V):∀aU:List (κ×V),fN aU k=none->fN (aU++[((k),y)]) j=if j=k then some y else fN aU j
 | [],_=>by
  by_cases e:k=j
  .rw[if_pos e.symm];exact eP (p:=((k),y)) e
  .rw[if_neg (λz=>e z.symm)];calc eQ (p:=((k),y)) e
 |p::r,a=>by
  rw[List.cons_append];have b:¬p.1=k:=λz=>by rw[eP z]at a;cases a
  rw[eQ b]at a;have c:=xq k j y r a;by_cases e:p.1=j
  .rw[eP e,eP e,if_neg (λz=>b (e.trans z))]
  .rw[eQ e,eQ e,c]
theorem JK(aU:List (κ×V))(k j:κ)(y:V):fN (putK aU k y) j=if j=k then some y else fN aU j:=by
 unfold putK;by_cases a:(aU.any λb=>decide (b.1=k))=true
 .rw[if_pos a,Au];rw[iT] at a;by_cases e:j=k
  .let(x,b):=Option.isSome_iff_exists.mp a;rw[if_pos e,e,b,Option.map_some,if_pos rfl]
  .rw[if_neg e]
   cases fN aU j with
   |none=>rfl
   |some x=>rw[Option.map_some,if_neg e]
 .rw[if_neg a];calc xq k j y aU ?_;rw[iT] at a
  cases q:fN aU k with
  |none=>rfl
  |some x=>rw[q]at a;calc(a rfl).elim
theorem lV(aU:List (κ×V))(k:κ)(v:V):(putK aU k v).length<=aU.length+1:=by
 unfold putK;split
 .rw[V'];lia
 .rw[aas,abw,List.length_nil];lia
theorem JL{aU:List (κ×V)}{k:κ}(v:V)(h:fN aU k=none):putK aU k v=aU++[((k),v)]:=by
 unfold putK;rw[iT,h];calc if_neg ∅
theorem kF.qP(r:kF o u):o.isSome=u.isSome:=by
 cases o with
 |none=>cases u with
  |none=>rfl
  |some _=>calc(show False from r).elim
 |some _=>cases u with
  |none=>calc(show False from r).elim
  |some _=>rfl
theorem kF.getD(r:kF o u)(a:RelV d d'):RelV (o.getD d) (u.getD d'):=by
 cases o with
 |none=>cases u with
  |none=>calc a
  |some _=>calc(show False from r).elim
 |some _=>cases u with
  |none=>calc(show False from r).elim
  |some _=>calc r
theorem KV.val{aU:List (κ×V)}{vs:List (κ×Value)}(r:KV aU vs)(k:κ):kF (fN aU k) (valueAt vs k):=by
 unfold KV at r;induction r with
 |nil=>calc aa7
 | @cons p q b a h t g=>
  let(d,i):=h;by_cases e:p.1=k
  .have c:q.1=k:=d.symm.trans e;have b:valueAt (q::a) k=some q.2:=by simp[valueAt,List.find?_cons,c]
   rw[eP e,b];exact i
  .have c:¬q.1=k:=λz=>e (d.trans z);have b:valueAt (q::a) k=valueAt a k:=by simp[valueAt,List.find?_cons,c]
   rw[eQ e,b];calc g
theorem KV.any{aU:List (κ×V)}{vs:List (κ×Value)}(r:KV aU vs)(k:κ):(aU.any λa=>decide (a.1=k))=vs.any λa=>decide (a.1=k):=by
 unfold KV at r;induction r with
 |nil=>rfl
 |cons h t a=>rw[List.any_cons,List.any_cons,a,h.1]
theorem KV.Uw{aU:List (κ×V)}{vs:List (κ×Value)}(r:KV aU vs)(k:κ){y:V}{u:Value}(b:RelV y u):
  KV (aU.map λa=>if a.1=k then((a.1),y) else a) (vs.map λa=>if a.1=k then((a.1),u) else a):=by
 unfold KV at r ⊢;induction r with
 |nil=>calc .nil
 | @cons p q a d h t c=>
  rw[abx,abx];calc .cons ?_ c;let(a,d):=h;by_cases e:p.1=k
  .rw[if_pos e,if_pos (a.symm.trans e)];exact(a,b)
  .rw[if_neg e,if_neg (λz=>e (a.trans z))];calc(a,d)
theorem KV.put{aU:List (κ×V)}{vs:List (κ×Value)}(r:KV aU vs)(k:κ){y:V}{u:Value}(a:RelV y u):KV (putK aU k y) (stored vs k u):=by
 unfold putK stored;rw[r.any k];by_cases e:(vs.any λb=>decide (b.1=k))=true
 .rw[if_pos e,if_pos e];exact r.Uw k a
 .rw[if_neg e,if_neg e];calc Paired.snoc r (rfl,a)
theorem KV.length{κ:Type}{aU:List (κ×V)}{vs:List (κ×Value)}(r:KV aU vs):aU.length=vs.length:=Paired.length r
end
theorem xt(r:RelV (kV k) u):(cO P w).is k u=true:=by
 cases k with
 |inl i=>let(t,e):=(show ∃t,u=Value.int i t from r);subst e;calc Ai P w i t
 |inr x=>let(t,e):=(show ∃t,u=Value.str x t from r);subst e;calc Aj P w x t
theorem xu:∀{ks:List Key}{us:List Value},Vals (ks.map kV) us->ItemsAre (cO P w) ks us
 | [],_,r=>by rw[List.map_nil]at r;cases r;calc .nil
 |k::ks,_,r=>by
  rw[abx]at r
  cases r with
  |cons h t=>calc .cons (xt h) (xu t)
abbrev KT(H:Hp):List (List Key×V)->List (List Key×Addr×Value)->Prop:=Paired λp q=>p.1=q.1/\H q.2.1=some (.tup (p.1.map kV))/\RelV p.2 q.2.2
theorem KT.val(r:KT H aU xs)(k:List Key):kF (fN aU k) ((atKey xs k).map (·.2)):=by
 induction r with
 |nil=>calc aa7
 | @cons p q b a h t g=>
  let(d,_,i):=h;by_cases e:p.1=k
  .have c:q.1=k:=d.symm.trans e;have b:atKey (q::a) k=some q.2:=by simp[atKey,List.find?_cons,c]
   rw[eP e,b];exact i
  .have c:¬q.1=k:=λz=>e (d.trans z);have b:atKey (q::a) k=atKey a k:=by simp[atKey,List.find?_cons,c]
   rw[eQ e,b];calc g
theorem KT.Uw(r:KT H aU xs)(k:List Key)(c:RelV y u):
  KT H (aU.map λa=>if a.1=k then((a.1),y) else a) (xs.map (putAt k u)):=by
 induction r with
 |nil=>calc .nil
 | @cons p q a b h t d=>
  rw[abx,abx];calc .cons ?_ d;let(a,b,g):=h;unfold putAt;by_cases e:p.1=k
  .rw[if_pos e,if_pos (a.symm.trans e)];exact(a,b,c)
  .rw[if_neg e,if_neg (λz=>e (a.trans z))];calc(a,b,g)
theorem KT.put(r:KT H aU xs)(k:List Key)(c:H b=some (.tup (k.map kV)))(a:RelV y u):
  KT H (putK aU k y) (storedH xs k b u):=by
 have e:(aU.any λb=>decide (b.1=k))=(atKey xs k).isSome:=by
  rw[iT,(r.val k).qP,Option.isSome_map]
 unfold putK storedH;rw[e];by_cases q:(atKey xs k).isSome=true
 .rw[if_pos q,if_pos q];exact r.Uw k a
 .rw[if_neg q,if_neg q];calc Paired.snoc r (rfl,c,a)
theorem KT.keeps(r:KT H aU xs)(c:∀b a,H b=some (.tup a)->H' b=some (.tup a)):KT H' aU xs:=
 Paired.Jb r λ_ _ z=>(z.1,c _ _ z.2.1,z.2.2)
theorem JM(ok:nS P w H h)(e:Rd H a u):cy P w H h a u:=e.ok ok
theorem Av{h:Heap}{H:Hp}{P:Program}{a:Addr}{w:World}{aU:List (Key×V)}(b:nS P w H h)(e:Rd H a (.dK aU)):aU.length<=sizeLine/\(a==sysModules)=false/\∃vs,KV aU vs/\h.DictOf (cO P w) a vs:=
 show cy P w H h a (.dK aU) from JM b e
theorem JN{h:Heap}{H:Hp}{P:Program}{a:Addr}{w:World}{aU:List (Key×V)}(b:nS P w H h)(e:H a=some (.dK aU)):aU.length<=sizeLine/\(a==sysModules)=false/\∃vs,KV aU vs/\h.DictOf (cO P w) a vs:=Av b (.inl e)
theorem uv(b:nS P w H h)(e:H a=some (.tup (ks.map kV))):(tupleKind (cO P w)).is h ks a:=by
 let(_,c,r,o,d,f,n,g):=(show cy P w H h a (.tup (ks.map kV)) from b a _ e)
 calc(o,c.toArray,n,d,f,g,(xu r:))
theorem Aw(d:nS P w H h)(e:Rd H a (.dT aU)):aU.length<=sizeLine/\(a==sysModules)=false/\
  ∃xs,KT H aU xs/\h.DictOfH (tupleKind (cO P w)) a xs:=by
 let(z,y,xs,r,o,g,i,j,k,n,p,s):=(show cy P w H h a (.dT aU) from JM d e)
 calc(z,y,xs,r,o,g,i,j,k,n,p,λx b=>?_,s);have c:∀{l:List (List Key×V)} {m:List (List Key×Addr×Value)},KT H l m->∀x∈m,(tupleKind (cO P w)).is h x.1 x.2.1:=by
  intro l m q;induction q with
  |nil=>intro x b;calc nomatch b
  | @cons p q g i f t u=>
   intro x b;rcases List.mem_cons.mp b with e|b
   .subst e;exact uv d (by rw[<-f.1];calc f.2.1)
   .exact u x b
 calc c r x b
theorem Y4(b:nS P w H h)(e:H a=some (.dT aU)):aU.length<=sizeLine/\(a==sysModules)=false/\
  ∃xs,KT H aU xs/\h.DictOfH (tupleKind (cO P w)) a xs:=Aw b (.inl e)
def ir(H:Hp)(a:Addr)(y:V)(r:Option V):Prop:=
 (∃aU k,Rd H a (.dK aU)/\y=kV k/\r=fN aU k)\/∃aU k b,Rd H a (.dT aU)/\y=.ref b/\H b=some (.tup (k.map kV))/\r=fN aU k
def wq(H:Hp)(a:Addr)(y v:V)(H':Hp):Prop:=
 (∃aU k,H a=some (.dK aU)/\y=kV k/\aU.length<sizeLine/\H'=upd H a (.dK (putK aU k v)))\/
 ∃aU k b,H a=some (.dT aU)/\y=.ref b/\H b=some (.tup (k.map kV))/\aU.length<sizeLine/\H'=upd H a (.dT (putK aU k v))
theorem ir.k{aU:List (Key×V)}{k:Key}(e:H a=some (.dK aU)):ir H a (kV k) (fN aU k):=.inl (aU,k,.inl e,rfl,rfl)
theorem ir.t{k:List Key}(e:H a=some (.dT aU))(c:H b=some (.tup (k.map kV))):ir H a (.ref b) (fN aU k):=.inr (aU,k,b,.inl e,rfl,c,rfl)
theorem wq.k{aU:List (Key×V)}{k:Key}(e:H a=some (.dK aU))(b:aU.length<sizeLine):wq H a (kV k) v (upd H a (.dK (putK aU k v))):=.inl (aU,k,e,rfl,b,rfl)
theorem wq.t{k:List Key}(e:H a=some (.dT aU))(c:H b=some (.tup (k.map kV)))(d:aU.length<sizeLine):
  wq H a (.ref b) v (upd H a (.dT (putK aU k v))):=.inr (aU,k,b,e,rfl,c,d,rfl)
theorem Inv.big(I:Inv X pins σ H s):sysModules<s.heap.objs.size:=by
 have h:mainGlobals<s.heap.objs.size:=(I.mod.glob.keeps I.bk).lt;calc Nat.lt_trans ∅ h
theorem xy(n:A.units+1<cLine)(I:Inv X pins σ H s)(g:ir H a y (some v))(m:RelV y u)(h:∀w' s',Inv X pins σ H s'->RelV v w'->Q w' s'):
  wpAny (model X.prog X.w) A (getItem (.ref a) u) Q E s:=by
 rcases g with⟨aU,k,e,d,l⟩|⟨aU,k,b,e,d,q,l⟩
 .subst d;let(z,p,g,c,f):=Av I.aY e;let(w',i,j):=kF.some_of (v:=v) (o:=valueAt g k) (by rw[l];calc c.val k);exact wpAny_getItem_of (xt m) f.mapOf i (h w' _ (I.tok _) j)
 .subst d
  cases(show u=Value.ref b from m);let(z,p,xs,c,f):=Aw I.aY e;let(w',i,j):=kF.some_of (v:=v) (o:=(atKey xs k).map (·.2)) (by rw[l];calc c.val k);let(p,b,d):=jb i;calc wpAny_getItem_heap (tupleKind_room_in1 n) (uv I.aY q) f b ?_;rw[d];calc h w' _ (I.tok _) j
theorem O4(m:A.units+1<cLine)(I:Inv X pins σ H s)(g:ir H a y o)(j:RelV y u)(h:∀s',Inv X pins σ H s'->Q (.bool (!o.isSome)) s'):
  wpAny (model X.prog X.w) A (compareOp .NotIn u (.ref a)) Q E s:=by
 rcases g with⟨aU,k,e,d,l⟩|⟨aU,k,b,e,d,n,l⟩
 .subst d;let(z,f,g,c,i):=Av I.aY e;calc wpAny_notIn_of (xt j) f i.mapOf ?_;rw[<-(c.val k).qP,<-l];exact h _ (I.tok _)
 .subst d
  cases(show u=Value.ref b from j);let(z,f,xs,c,i):=Aw I.aY e;calc wpAny_notIn_heap (tupleKind_room_in1 m) (uv I.aY n) f i ?_;have q:=(c.val k).qP;rw[Option.isSome_map]at q;rw[<-q,<-l];calc h _ (I.tok _)
theorem yF(I:Inv X pins σ H s)(d:Yy (H a))(f:Heap.SameBut a s.heap h')(g:∃q,h'.get? a=some q)(c:cy X.prog X.w (upd H a b) h' a b):
  Inv X pins σ (upd H a b) {s with heap:=h',toks:=t'}:=
 I.write (x:=a) (e:=a) d (.inl rfl) (λb q h z=>(f.2 b h).trans z) g c
theorem JO{H':Hp}{a:Addr}{P:Program}{w:World}{h':Heap}{aU:List (Key×V)}{vs:List (Key×Value)}(z:aU.length<=sizeLine)(c:(a==sysModules)=false)(b:KV aU vs)(d:h'.DictOf (cO P w) a vs):
  cy P w H' h' a (.dK aU):=(z,c,vs,b,d)
theorem GP{Q:Unit->Shared->Prop}(G:A.units+1<cLine)(I:Inv X pins σ H s)(g:wq H a y v H')(B:RelV y u)(C:RelV v r)(h:∀s',Inv X pins σ H' s'->Q ⟨⟩ s'):
  wpAny (model X.prog X.w) A (setItem (.ref a) u r) Q E s:=by
 rcases g with⟨aU,k,e,c,l,j⟩|⟨aU,k,b,e,c,D,l,j⟩
 .subst c j;let(z,m,g,d,n):=JN I.aY e;have o:g.length<=sizeLine:=by rw[<-d.length];exact z
  have p:(putK aU k v).length<=sizeLine:=by have:=lV aU k v;lia
  calc wpAny_setItem_pairs (hsz:=o) (xt B) n λF f x=>h _ ?_;have g:∃q,F.get? a=some q:=let ⟨q,_,_,i,_⟩:=f;(q,i)
  exact yF I (by rw[e];calc aa7) x g (JO p m (d.put k C) f)
 .subst c j
  cases(show u=Value.ref b from B);let(z,m,xs,d,n):=Y4 I.aY e;have o:xs.length<=sizeLine:=by rw[<-Paired.length d];exact z
  have p:(putK aU k v).length<=sizeLine:=by have:=lV aU k v;lia
  calc wpAny_setItem_heap (hsz:=o) (tupleKind_room_in1 G) (uv I.aY D) n λF f x=>h _ ?_;let(q,g,j,i,l,n,o,_,t):=f;calc yF I (by rw[e];calc aa7) x (q,i) (p,m,_,(d.put k D C).keeps λc h b=>?_,q,g,j,i,l,n,o,t);rw[ay (sO b e (λz=>nomatch z))];calc b
def Y5(i:Expr):Prop:=∀a b,subscripted i false a b=operate [a,b] (getItem a b)
theorem O6{a:Expr}(j:typeLookup (.type T) "__getitem__"=pure (some (.builtin c)))(k:Y5 a)(h:wpAny (model prog w) A (eval b env) (λo d=>wpAny (model prog w) A (eval a env) (λi c=>c.TypeIs o T/\wpAny (model prog w) A (getItem o i) Q E c) E d) E s):
  wpAny (model prog w) A (eval (.Subscript b a pos) env) Q E s:=by
 calc Subscript_ (aaR h (λo d e=>aaR e (λi c d=>?_) λ_ _ x=>x) λ_ _ x=>x);let(g,d):=d;unfold subscriptTail;calc J' ?_;rw[getitemInPython_of_ne g.not_modules];calc J' (wpAny_specialOf g j ?_);have f:wpAny (model prog w) A (subscripted a false o i) (λr e=>wpAny (model prog w) A (letTemporaryGo b o r >>= λ_=>pure r) Q E e) E c:=by
  rw[k o i];exact wpAny_operating (aaR d (λr e a=>J' (wpAny_letTemporaryGo (U' a))) λ_ _ x=>x)
 first
  |calc U' (J' f)
  |calc J' (U' (J' f))
  |calc J' f
theorem sR(I:Inv X pins σ H s)(g:ir H a y o):s.TypeIs (.ref a) "dict":=by
 rcases g with⟨aU,k,e,_,_⟩|⟨aU,k,b,e,_,_,_⟩
 .let(_,_,c,_,b):=Av I.aY e;exact b.typeIs
 .let(_,_,xs,_,b):=Aw I.aY e;calc b.typeIs
def JP(b c:TE):TE:=λσ H Q=>b σ H λx d=>c σ d λy b=>∃a v,x=.ref a/\ir b a y (some v)/\Q v b
def yG(b c:TE):TE:=λσ H Q=>b σ H λy d=>c σ d λx b=>∃a o,x=.ref a/\ir b a y o/\Q (.bl (!o.isSome)) b
def JQ(b c d:TE):TS:=λD σ H=>d σ H λv e=>b σ e λx d=>c σ d λy e=>∃a b,x=.ref a/\wq e a y v b/\D.nx σ b
theorem EI(c:X.A.units+1<cLine)(d:PE X o td)(e:PE X i ty)(f:Y5 i):PE X (.Subscript o i pos) (JP td ty):=by
 calc⟨?_⟩;intro pins s σ H Q I h;calc O6 PySem.F.slot_dict_getitem.lookup f (di (d pins s σ H _ I h) λu j (x,k,l,m,n)=>di (e pins j σ k _ l n) λd f p=>?_);let(y,q,b,r,a,v,t,g,w):=p;subst t;obtain rfl:u=Value.ref a:=m;calc(sR b g,xy c b g r λf j d e=>(v,q,d,e,w))
theorem GQ(b:X.A.units+1<cLine)(c:PE X i ty)(d:PE X o td):PC X .NotIn i o (yG ty td):=by
 calc⟨?_⟩;intro pins s σ H Q I h;calc di (c pins s σ H _ I h) λw e (y,f,j,k,l)=>di (d pins e σ f _ j l) λu c m=>?_;let(x,n,p,q,a,r,t,g,v):=m;subst t;obtain rfl:u=Value.ref a:=q;calc O4 b p g k λd c=>(.bl (!r.isSome),n,c,rfl,v)
theorem kJ(b:X.A.units+1<cLine)(c:PE X o td)(d:PE X i ty)(e:PE X value tv)(f:swapsWith value (some (.Subscript o i pos')) pos.line X.env=pure false):
  PS X (.Assign [.Subscript o i pos'] value pos) (JQ td ty tv):=by
 calc⟨?_⟩;intro pins s σ H D I h;calc wpAny_Assign_Subscript (di (e pins s σ H _ I h) λr j (v,k,l,m,n)=>di (c pins j σ k _ l n) λu e (x,p,q,t,r)=>di (d pins e σ p _ q r) λc j w=>?_) f;let(y,c,z,B,a,C,E,g,F):=w;subst E;obtain rfl:u=Value.ref a:=t;calc GP b z g B m λd c=>(σ,C,c,F)
theorem Ax(h:Heap)(a:sysModules<h.objs.size):cy P w H (h.push {cls:=.type "dict",data:=.dict #[]}) h.objs.size (.dK []):=
 (aam _,beq_eq_false_iff_ne.mpr (Ne.symm (aak a)),[],.nil,Heap.DictOf.new h)
theorem JR(h:Heap)(a:sysModules<h.objs.size):cy P w H (h.push {cls:=.type "dict",data:=.dict #[]}) h.objs.size (.dT []):=
 (aam _,beq_eq_false_iff_ne.mpr (Ne.symm (aak a)),[],.nil,_,#[],0,aai _ rfl,(rfl,rfl,rfl),rfl,rfl,List.nodup_nil)
def Dh:TE:=λ_ H Q=>∀p,H p=none->Q (.ref p) (upd H p (.dK []))
def Di:TE:=λ_ H Q=>∀p,H p=none->Q (.ref p) (upd H p (.dT []))
theorem JS:PE X (.Dict [] [] pos) Dh:=.mk λb s σ H Q I h=>
 wpAny_Dict_empty (.ref s.heap.objs.size,_,I.laid (a:=s.heap.objs.size) (o:=.dK []) (t':=s.toks) (λ_ _ q=>P' _ q) (S' _) (Ax s.heap I.big),rfl,h _ (I.aY.fresh (S' _)))
theorem JT:PE X (.Dict [] [] pos) Di:=.mk λb s σ H Q I h=>
 wpAny_Dict_empty (.ref s.heap.objs.size,_,I.laid (a:=s.heap.objs.size) (o:=.dT []) (t':=s.toks) (λ_ _ q=>P' _ q) (S' _) (JR s.heap I.big),rfl,h _ (I.aY.fresh (S' _)))
def qQ:List (TE×TE)->St->Hp->(List (V×V)->Hp->Prop)->Prop
 | [],_,H,Q=>Q [] H
 |(a,b)::r,σ,H,Q=>a σ H λx c=>b σ c λy a=>qQ r σ a λb c=>Q (((x),y)::b) c
abbrev VV:List (V×V)->List (Value×Value)->Prop:=Paired λp q=>RelV p.1 q.1/\RelV p.2 q.2
def PPs(X:Cx)(pos:Pos)(b:List (Option Expr))(a:List Expr)(Cn:List (TE×TE)):Prop:=
 ∀(pins:jn) (s:Shared) (σ:St) (H:Hp) (Q:List (V×V)->Hp->Prop),Inv X pins σ H s->qQ Cn σ H Q->
  X⁻¹ (evalPairs (pairTrees b a X.env pos)) (λvs s'=>∃a H',Inv X pins σ H' s'/\VV a vs/\Q a H') X.xe s
theorem O7:PPs X pos [] [] []:=λa s σ H Q I h=>pairTrees_nil_walk ([],H,I,.nil,h)
theorem uw{a:TE}(c:PE X k a)(d:PE X v b)(e:PPs X pos ks vs Cn):
  PPs X pos (some k::ks) (v::vs) (((a),b)::Cn):=λa s σ H Q I h=>
 pairTrees_cons_walk (di (c a s σ H _ I h) λu b (x,f,g,i,j)=>di (d a b σ f _ g j) λn c (y,h,k,l,m)=>
  di (e a c σ h _ k m) λn o (d,f,g,b,j)=>(((x),y)::d,f,g,.cons (i,l) b,j))
noncomputable def oo(aU a:List (Key×V)):List (Key×V):=a.foldl (λb c=>putK b c.1 c.2) aU
theorem KV.merge:∀{a:List (Key×V)}{b:List (Key×Value)}{aU:List (Key×V)}{vs:List (Key×Value)},KV a b->KV aU vs->KV (oo aU a) (merged vs b):=by
 intro a b aU vs r;unfold KV at r;induction r generalizing aU vs with
 |nil=>intro q;calc q
 | @cons p q b c h t a=>
  intro b;have e:KV (putK aU p.1 p.2) (stored vs q.1 q.2):=by
   have:=b.put p.1 h.2;rw[<-h.1];exact this
  calc a e
theorem nW:∀(a aU:List (Key×V)),(oo aU a).length<=aU.length+a.length
 | [],aU=>by show aU.length<=aU.length+0;lia
 |p::r,aU=>by
  have a:=nW r (putK aU p.1 p.2);have a:=lV aU p.1 p.2;show(oo (putK aU p.1 p.2) r).length<=_;rw[abw];lia
theorem ux{P:Program}{w:World}:∀{aU:List (Key×V)}{ws:List (Value×Value)},VV (aU.map λb=>((kV b.1),b.2)) ws->∃d,Carries (cO P w) ws d/\KV aU d
 | [],_,r=>by rw[List.map_nil]at r;cases r;calc([],aa7,.nil)
 |p::aU,_,r=>by
  rw[abx]at r
  cases r with
  | @cons a b c e h t=>
   let(d,c,q):=ux (P:=P) (w:=w) t;let(f,e):=b;calc(((p.1),e)::d,(xt h.1,rfl,c),.cons (rfl,h.2) q)
def EJ(Cn:List (TE×TE)):TE:=λσ H Q=>∀p,H p=none->qQ Cn σ (upd H p (.dK [])) λc a=>a p=some (.dK [])/\∃aU:List (Key×V),c=aU.map (λb=>((kV b.1),b.2))/\aU.length<=15/\Q (.ref p) (upd a p (.dK (oo [] aU)))
theorem O8(h:PPs X pos b d Cn)(k:b.all (·.isSome)=true)(l:b.length=d.length)(m:b≠[])(f:b.length<=15):PE X (.Dict b d pos) (EJ Cn):=by
 calc⟨?_⟩;intro b s σ H Q I q;have d:=I.aY.fresh (S' s.heap.objs.size);have n:=I.laid (a:=s.heap.objs.size) (o:=.dK []) (h':=s.heap.push {cls:=.type "dict",data:=.dict #[]}) (t':=s.toks) (λ_ _ q=>P' _ q) (S' _) (Ax s.heap I.big);calc wpAny_Dict_walk (knd:=cO X.prog X.w) k l m f (di (h b _ σ _ _ n (q _ d)) λz B p=>?_);let(b,d,j,g,e,aU,r,f,t):=p;subst r;let(u,c,v):=ux (P:=X.prog) (w:=X.w) g;let(z,x,b,y,A):=JN j.aY e
 cases y;calc(u,c,A,λi b d=>(.ref s.heap.objs.size,_,?_,rfl,t));have c:(oo [] aU).length<=sizeLine:=by
  have f:=nW aU [];rw[List.length_nil]at f;rw[abb];lia
 have f:∃q,i.get? s.heap.objs.size=some q:=let ⟨q,_,_,g,_⟩:=b;(q,g)
 calc yF j (by rw[e];calc aa7) d f (JO c x (v.merge .nil) b)
theorem Uy(p:A.units+1<cLine)(I:Inv X pins σ H s)(g:ir H a y o)(m:RelV y u)(n:RelV d r)(h:∀w' s',Inv X pins σ H s'->RelV (o.getD d) w'->Q w' s'):
  wpAny (model X.prog X.w) A (call (.builtin "dict.get") [.ref a,u,r]) Q E s:=by
 rcases g with⟨aU,k,e,i,l⟩|⟨aU,k,b,e,i,q,l⟩
 .subst i;let(z,j,g,c,f):=Av I.aY e;calc call_meetsIn Ts f.typeIs zA2 (PySem.F.args_dict_get_3 _ _ _) (meets_dict_get_default (cO X.prog X.w) a (xt m) j r) (_,f.mapOf,h _ _ (I.tok _) ?_);rw[l];exact(c.val k).getD n
 .subst i
  cases(show u=Value.ref b from m);let(z,j,xs,c,f):=Aw I.aY e;calc call_meetsIn Ts f.typeIs zA2 (PySem.F.args_dict_get_3 _ _ _) (meetsH_dict_get_default (tupleKind (cO X.prog X.w)) a b j r) (tupleKind_room_in1 p,k,xs,uv I.aY q,f,h _ _ (I.tok _) ?_);rw[l];calc(c.val k).getD n
end
end L2
namespace Att
open PySem PySem.W PySem.Calls PyProof.Rows
theorem tj:∀(c:List Int) (vs:List Value),WellAll P h vs (c.map WData.int)->IntsAre vs c:=by
 intro c;induction c with
 |nil=>
  intro vs w;rw[List.map_nil]at w
  cases w;calc .nil
 |cons n c d=>
  intro vs w;rw[abx]at w
  cases w with
  |cons a b=>
   cases a;calc .cons _ _ (d _ b)
theorem GR{l:OpenLaw}(j:l.most=some n)(g:l.row.toRowW.claim.pre args=true)(k:WellAll P h c args):
  ∃a vs b,c=[Value.ref a]/\args=[WData.list (b.map WData.int)]/\h.get? a=some {cls:=.type "list",data:=.seq vs.toArray}/\IntsAre vs b/\b.length<=n:=by
 have f:WShape.hasAll [] args [.list .int]=true:=(pre_splitW g).1;have i:l.pre.holds [] {args:=args}=true:=(pre_splitW g).2;let(d,r,rfl,m,o):=hasAllW_cons f;obtain rfl:=hasAllW_nil o;let(q,rfl,p):=hasW_list m;let(b,rfl):=items_int p;have e:b.length<=n:=by
  unfold OpenLaw.pre at i;have a:(WTm.not (.lt (.lit (.int (n:Int))) (.len (.arg 0)))).holds [] {args:=[.list (b.map .int)]}=true:=by
   have a:=(holds_andW i).1;rw[j]at a;exact a
  have c:=condW_of a (w_not (w_lt w_lit (w_len_list (w_arg rfl))));rw[V']at c;calc Nat.le_of_not_lt λq=>?_;have a:(n:Int)<((b.length:Nat):Int):=();first
   |(rw[aaC a]at c;calc absurd c ∅)
   |(simp at c;lia)
 cases k with
 |cons s t=>
  cases t
  cases s with
  |list a c=>calc(_,_,b,rfl,rfl,a,tj b _ c,e)
theorem GS(l:OpenLaw)(args:List WData):l.row.toRowW.claim.post args (.bool true) args=true:=
 postW_of (r:=l.row.toRowW) (X:=(true == true))
  (show WShape.has [] (.bool true) .bool=true by first|rfl|decide|simp[WShape.has,WShape.arms,WShape.armsAll])
  (show(WTm.eq .res (.lit (.bool true))).value [] {args:=args,res:=some (.bool true),after:=args}=some (.bool (true==true)) from w_eq_bool (w_res rfl) w_lit) rfl
theorem Ay{l:OpenLaw}(x:l.most=some n)(y:d.params.defaults=[])(call:∀(w:World) (s₀ b:Shared) (h k:jP) (g:Addr) (o:Obj) (m i e:Value) (a:Addr) (vs:List Value) (j:List Int),
   Ground q c [] p w s₀ h k b.heap->s w b.heap->
   b.heap.get? g=some o->o.data=.func (docDef d.name d.params d.body d.scope m i e)->b.heap.CodeRec i d.name->h d.name=some (.ref g)->
   b.heap.get? a=some {cls:=.type "list",data:=.seq vs.toArray}->IntsAre vs j->j.length<=n->b.gens=#[]->
   codeAny (model l.prog w) callerA (.call (.ref g) ([.ref a],[])) (λr s'=>r=.ok (.ret (.bool true))/\OldK b.heap s'.heap/\s'.os=b.os/\AllBare s'.gens) b):
  WalkO q c p s l.row.toRowW d [] (λf vs=>PySem.call f vs):=by
 intro w s₀ b h k G Y g o m i e z kV A B C t D E u v L F H I J M;obtain rfl:z=.none:=Dflts.none t y;obtain rfl:kV=.none:=Dflts.noKw t;let(a,vs,j,rfl,rfl,f,c,d):=GR x F J;calc enter_call (codeAny_mono (call w s₀ b h k g o m i e a vs j G Y A (fd_plain B) C D f c d E) λr s' K=>?_);let(rfl,a,b,c):=K;calc(.inl (.bool true,.bool true,[],rfl,λ_=>rfl,.bool true,GS l _,λ_=>(List.Pairwise.nil,λ_ d=>(nomatch d))),a,b,c)
end Att
namespace L2
open PySem PySem.Spec PyProof.Rows
theorem ni:∀{vs:List Value}{a:List Int},IntsAre vs a->Vals (a.map V.int) vs
 |_,_,.nil=>.nil
 |_,_,.cons n t h=>.cons (t,rfl) (ni h)
def UA(H:Hp):Prop:=∀b,H b=none\/∃o xs,H b=some (.Cj o (.lst xs))
theorem JU{K:W.Frag}(X:K.In c.heap)(t:c.heap.Ns mainGlobals l)(g:c.heap.Ns builtinsNs L)(M:∀x:Str,x≠"__name__"->L x=bootBuiltins x)(N:c.heap.NoLimit)(hg:c.gens=#[])(J:c.heap.get? a=some {cls:=.type "list",data:=.seq vs.toArray})(Y:IntsAre vs p)(Z:p.length<=sizeLine)(hr:eZ k callerA)(F:∀base:Heap,K.In base->base.Ns mainGlobals l->kI P w K l base CX k m n [x] sp)(Y8:∀(s:Shared) (u:Value),BindsTo s n ([u],[]) [((x),u)])(N0:∀H:Hp,UA H->aS K H a (p.map V.int)->sp [.ref a] H (λv _=>v=.bl true) λ_ _ _=>False)(O:∀H e s',CX [] H c (λ_ _ _=>False) e s'->False):
  codeAny (model P w) callerA (.call (.ref m) ([.ref a],[])) (λr s'=>r=.ok (.ret (.bool true))/\OldK c.heap s'.heap/\s'.os=c.os/\AllBare s'.gens) c:=by
 have rv:=ni Y;have R:=Y.length;have j:∀H:Hp,UA H->aS K H a (p.map V.int)->nS P w H c.heap->(∀b,H b≠none->b=a)->(H a≠none->K.lookup a=none)->
   codeAny (model P w) callerA (.call (.ref m) ([.ref a],[])) (λr s'=>r=.ok (.ret (.bool true))/\OldK c.heap s'.heap/\s'.os=c.os/\AllBare s'.gens) c:=by
  intro H hO hS aY hA hK;have EK:∀{b:Addr} {o:Obj},c.heap.get? b=some o->H b=none->(yq c.heap H).get? b=some o:=λe n=>Jc e n;have YS:∀{b:Addr} {o:Obj} {y:Array DictEntry} {B:Nat},c.heap.get? b=some o->o.data=.dict y B->H b=none:=λ{b o y B} e d=>by
   cases q:H b with
   |none=>rfl
   |some u=>
    have S:b=a:=hA b (by rw[q];simp);subst S;rw[J]at e;cases e;have d':Data.seq vs.toArray _=Data.dict y B:=d
    cases d'
  have i:∀{b:Addr} {m:jP},c.heap.Ns b m->(yq c.heap H).Ns b m:=λ{b m} (o,y,B,e,d,r)=>(o,y,B,EK e (YS e d),d,r)
  have C:K.In (yq c.heap H):=λb o e=>EK (X b o e) (by
   cases q:H b with
   |none=>rfl
   |some u=>
    have S:b=a:=hA b (by rw[q];simp);subst S;rw[hK (by rw[q];simp)] at e;cases e)
  have d:Mod K l (yq c.heap H):=(C,i t,(L,i g,M),let ⟨k,m,n⟩:=N;(k,i m,n))
  have k:CV P w K l (yq c.heap H) callerA [] c H:=(rfl,d,λb o e=>OD e,Nat.le_of_eq (Gq _ _),trivial,λb g=>absurd (show b∈([]:List Addr) from g) nofun,aY,.of_eq hg)
  refine codeAny_mono ((F _ C (i t)).run callerA [] c H ([.ref a],[]) [.ref a] [.ref a] _ _ hr k (Y8 c (.ref a)) (.cons rfl .nil) (N0 H hO hS)) λr s' h=>?_
  cases r with
  |error e=>calc(O H e s' h).elim
  |ok fl=>
   cases fl with
   |next=>calc aaW h
   |brk=>calc aaW h
   |cont=>calc aaW h
   |ret u=>
    let(v,c,os,G,un,T,r',q):=h;have q':v=.bl true:=q;subst q';obtain rfl:u=Value.bool true:=r';refine(rfl,OldK.of_keep λb o e=>?_,os,G)
    cases q:H b with
    |none=>calc un.keep b o e q (by intro z;calc absurd (show b∈([]:List Addr) from z) nofun) nofun
    |some u=>
     rcases hO b with z|⟨ob,c,z⟩
     .rw[q]at z;cases z
     .have z2:=un.we b ob _ z;let(e1,_):=aY b _ z;let(e2,_):=T b _ z2;rw[e]at e1;cases e1;exact e2
 cases U:K.lookup a with
 |some o=>
  have e:=X a o U;rw[J]at e
  cases e;calc j (λ_=>none) (λ_=>.inl rfl) (.inr (_,vs.toArray,_,U,rfl,rfl,rfl,by rw[aan,R];calc Z,(rv:))) (λb u z=>by have I:(none:Option HO)=some u:=z;cases I) (λb z=>absurd rfl z) λz=>absurd rfl z
 |none=>
  refine j (λb=>if b=a then some (.Cj {cls:=.type "list",data:=.seq vs.toArray} (.lst (p.map V.int))) else none) (λb=>?_) (.inl (.inr ({cls:=.type "list",data:=.seq vs.toArray},if_pos rfl))) (λb u z=>?_) (λb z=>?_) λ_=>U
  .by_cases g:b=a
   .exact .inr (_,_,if_pos g)
   .exact .inl (if_neg g)
  .by_cases g:b=a
   .have I:=(if_pos g).symm.trans z
    cases I;subst g;exact(J,by rw[V'];calc Z,vs,_,rv,J)
   .have I:=(if_neg g).symm.trans z
    cases I
  .by_cases g:b=a
   .exact g
   .calc absurd (if_neg g) z
theorem Pa{l:W.OpenLaw}{K:Params->W.Frag}{CX:World->Jz}{sp:World->Sp}(t:l.most=some n)(m:n<=sizeLine)(y:d.params.defaults=[])(z:eZ k callerA)(A:∀(w:World) (h:Heap),o w h->(K w.params).In h)(F:∀(w:World) (i:jP) (j:Addr) (h:Heap),(K w.params).In h->h.Ns mainGlobals i->i d.name=some (.ref j)->
   ∃p:FuncData,(∀(s:Shared) (u:Value),BindsTo s p ([u],[]) [((x),u)])/\
    ∀base:Heap,(K w.params).In base->base.Ns mainGlobals i->kI l.prog w (K w.params) i base (CX w) k j p [x] (sp w))(u:∀(w:World) (H:Hp) (a:Addr) (h:List Int),h.length<=n->UA H->aS (K w.params) H a (h.map V.int)->sp w [.ref a] H (λv _=>v=.bl true) λ_ _ _=>False)(k:∀(w:World) (H:Hp) (s:Shared) (e:Value) (s':Shared),CX w [] H s (λ_ _ _=>False) e s'->False):
  W.WalkO q c r o l.row.toRowW d [] (λf vs=>PySem.call f vs):=by
 calc Att.Ay t y λw l f i v j o x B n a vs h G Y C D E q r d c s=>?_;have l:=A w _ Y;let(p,n,o):=F w i j _ l G.T.g q;calc JU l G.T.g G.T.b G.T.builtins G.T.nolimit s r d (aaL c m) z o n (λH p t=>u w H a h c p t) λH e s'=>k w H f e s'
section
variable {f:Addr}{st:Stmt}{qual:Str}
noncomputable def fq(s:Stmt):Arguments:=match s with
 | .FunctionDef _ a _ _ _ _ _ _ _ _=>a
 |_=>{posonlyargs:=[],args:=[],vararg:=none,kwonlyargs:=[],kw_defaults:=[],kwarg:=none,defaults:=[]}
noncomputable def cW(s:Stmt):List Stmt:=match s with
 | .FunctionDef _ _ b _ _ _ _ _ _ _=>b
 |_=>[]
noncomputable def az(s:Stmt):Scope:=match s with
 | .FunctionDef _ _ _ _ _ _ sc _ _ _=>sc
 |_=>{kind:=.function,names:=[],isGenerator:=false,isCoroutine:=false}
abbrev GU:Jz:=λ_ _ _ _ _ _=>False
abbrev E0:XK:=λ_ _ _=>False
theorem EL:Passes GU X E0:=λ_ _ _ _ _ _ _ h=>h.elim
structure JV(K:W.Frag)(x qual:Str)(st:Stmt)(f:Addr)(fd:FuncData):Prop where
 ex:∃(oc:Value) (od:Option Addr) (kV doc pm:Value) (an:Option Addr) (fL ct:Value) (OV:Array (Option Value)),
  fd=W.fnOf x qual (fq st) (cW st) (az st) .none kV doc pm an fL ct/\K.lookup f=some (oc,od,.func fd,OV)/\W.codeIn K fL qual=true
 kp:W.keepIn K (.ref f)=true
theorem JV.ok{K:W.Frag}(F:JV K x qual st f d)(S:aE N b (az st))(c:∀vs H Q E,sp vs H Q E->vs.length=b.length)(e:∀(a:Value) (A:Around) (outer:List Env) (s:Shared) (H:Hp) (vs:List V) (Q:VK) (E:XK),eZ k (A.deeper (envOfC qual (az st) s.heap.objs.size f a))->sp vs H Q E->
   ∃t,wg (lU GU P w K mg base N qual (az st) f a A outer s H E).ID (cW st) t/\t {nx:=λ_ g=>Q .bL g,rt:=Q} (start N vs) H):kI P w K mg base GU (k + 1) f d b sp:=by
 let(i,j,kV,h,l,m,a,n,o,rfl,b,d):=F.ex;calc Rx b d S c λA outer s H vs Q E g i=>?_;let(t,h,q):=e a A outer s H vs Q E g i;calc(t,h.ID,q)
theorem JV.binds{K:W.Frag}(F:JV K x qual st f g)(h:∀(kV a c:Value) (d:Option Addr) (e ct:Value) (us:List Value),us.length=b.length->bindArgs (W.fnOf x qual (fq st) (cW st) (az st) .none kV a c d e ct) (us,[])=pure (b.zip us)):Binds K g b []:=by
 let(i,j,kV,a,c,d,e,ct,k,rfl,b,g):=F.ex;calc .all (h kV a c d e ct)
theorem oq{K:W.Frag}{kV:Value}(l:K.lookup f=some (g,od,.func (W.fnOf x qual (fq st) (cW st) (az st) .none kV a e d b ct),h))(c:W.codeIn K b qual=true)(k:W.keepIn K (.ref f)=true):JV K x qual st f (W.fnOf x qual (fq st) (cW st) (az st) .none kV a e d b ct):=((g,od,kV,a,e,d,b,ct,h,rfl,l,c),k)
theorem aD(h:n<=1000):n<sizeLine:=abY h ∅
theorem pv(i:Nat)(a:X.N[i]?=some x:=by rfl)(b:YA X.env.scope x:=by first|calc Or.inl rfl|calc Or.inr (Or.inl rfl)|calc Or.inr (Or.inr rfl))(c:(x==("__debug__":Str))=false:=by decide)(d:(x==("__classdict__":Str))=false:=by decide):PE X (.Name x pos) (Je i):=Jf a b c d
def au(H a:Hp):Prop:=∀b o,H b=some o->a b=some o
theorem au.refl(H:Hp):au H H:=λ_ _ h=>h
theorem au.trans(a:au H c)(b:au c d):au H d:=λc o h=>b c o (a c o h)
theorem au.free(e:au H a)(h:a l=Option.none):H l=Option.none:=by
 cases q:H l with
 |none=>rfl
 |some o=>
  rw[e l o q]at h
  cases h
theorem au.seq{K:W.Frag}(e:au H b)(h:aS K H a xs):aS K b a xs:=by
 rcases h with(h|⟨o,h⟩)|h
 .exact .inl (.inl (e _ _ h))
 .exact .inl (.inr (o,e _ _ h))
 .calc .inr h
section
variable {κ:Type}[DecidableEq κ]
theorem Pb{a:List (κ×V)}{k:κ}{v:V}(h:fN a k=some v):k∈a.map (·.1):=by
 have q:(a.any λb=>decide (b.1=k))=true:=by
  rw[iT,h]
  all_goals rfl
 let(p,a,e):=List.any_eq_true.mp q;calc List.mem_map.mpr (p,a,aaU e)
end
end
end L2
set_option maxHeartbeats 4000000
namespace L2
open PySem PySem.Spec PyProof.Rows
section
variable {X:Cx}{H H₂:Hp}{pins:jn}{s:Shared}{σ:St}
noncomputable def lW(env:Env):List (Str×NameKind)->List (Str×Addr)->List (Str×Addr)
 | [],cs=>cs
 |(n,k)::r,cs=>lW env r (if k == .free then((n),(env.cells.lookup n).getD 0)::cs else cs)
theorem Az:∀{l:List (Str×NameKind)}{cs:List (Str×Addr)},((x),c)∈lW env l cs->((x),c)∈cs\/(((x),NameKind.free)∈l/\c=(env.cells.lookup x).getD 0)
 | [],cs,h=>.inl h
 |(n,k)::r,cs,h=>by
  unfold lW at h;rcases Az h with a|⟨a,g⟩
  .by_cases b:(k == NameKind.free)=true
   .rw[if_pos b] at a;have i:k=.free:=(b:)
    rcases List.mem_cons.mp a with e|e
    .have d:=congrArg Prod.fst e;have f:=congrArg Prod.snd e;simp only at d f;subst d i;exact .inr (aaM,f)
    .exact .inl e
   .rw[if_neg b]at a;exact .inl a
  .calc .inr (aar _ a,g)
theorem xA:∀{l:List (Str×NameKind)}{cs:List (Str×Addr)},p∈cs->p∈lW env l cs
 | [],_,h=>h
 |(n,k)::r,cs,h=>by
  unfold lW;calc xA ?_;split
  .exact aar _ h
  .calc h
theorem uz:∀{l:List (Str×NameKind)}{cs:List (Str×Addr)},((x),NameKind.free)∈l->((x),(env.cells.lookup x).getD 0)∈lW env l cs
 | [],_,h=>by simp at h
 |(n,k)::r,cs,h=>by
  unfold lW;rcases List.mem_cons.mp h with e|e
  .have a:=congrArg Prod.fst e;have b:=congrArg Prod.snd e;simp only at a b;subst a b;calc xA ?_;rw[if_pos nofun];exact aaM
  .calc uz e
theorem fU{β:Type}:∀{l:List (Str×β)}{x:Str}{c:β},((x),c)∈l->∃d,l.lookup x=some d
 | [],_,_,h=>by simp at h
 |(n,b)::r,x,c,h=>by
  by_cases e:x=n
  .subst e;exact(b,nofun)
  .have a:(x == n)=false:=beq_eq_false_iff_ne.mpr e;rcases List.mem_cons.mp h with q | q
   .exact absurd (congrArg Prod.fst q) e
   .let(d,b):=fU q;calc(d,by simp only[List.lookup_cons,a];calc b)
theorem nX(h:∀x∈scope.names,x.2=.free->∃c,env.cells.lookup x.1=some c):closureFor scope env=pure (lW env scope.names []):=by
 unfold closureFor;have b:∀(l:List (Str×NameKind)) (a:List (Str×Addr)),(∀x ∈ l,x.2=.free->∃c,env.cells.lookup x.1=some c)->
   ((forIn l a λ(x:Str×NameKind) (r:List (Str×Addr))=>if (x.2==NameKind.free)=true then do let y <-cellOf env x.1;pure (ForInStep.yield (((x.1),y)::r)) else pure (ForInStep.yield r)):Sem (List (Str×Addr)))=pure (lW env l a):=by
  intro l;induction l with
  |nil=>intro a _;rfl
  |cons p r f=>
   intro a d;let(n,k):=p;rw[List.forIn_cons];dsimp only;by_cases a:(k==NameKind.free)=true
   .let(c,g):=d ((n),k) aaM (a:);have e:cellOf env n=pure c:=by unfold cellOf;rw[g]
    rw[if_pos a,e,pure_bind,pure_bind];dsimp only;rw[f _ λx c=>d x (aar _ c)];show _=pure (lW env r _);rw[if_pos a,g];rfl
   .rw[if_neg a,pure_bind];dsimp only;rw[f _ λx c=>d x (aar _ c)];show _=pure (lW env r _);rw[if_neg a]
 have:=b scope.names [] h;simp only at this ⊢;rw[this,pure_bind]
noncomputable def EM(a:List Expr)(env:Env):Sem Bool:=forIn a true λc r=>if r=true then do let ok <-isTrue c env (eval c env);pure (ForInStep.yield ok) else pure (ForInStep.yield r)
def Xn(X:Cx)(a:List Expr)(t:TT):Prop:=
 ∀(pins:jn) (s:Shared) (σ:St) (H:Hp) (Q:Bool->Hp->Prop),Inv X pins σ H s->t σ H Q->X⁻¹ (EM a X.env) (TP X pins σ Q) X.xe s
def jw:TT:=λ_ H Q=>Q true H
theorem Pc:Xn X [] jw:=λ_ _ _ H _ I h=>U' (H,I,h)
theorem jx(h:PT X c t):Xn X [c] t:=λpins s σ H Q I a=>wpAny_tests_one (h pins s σ H Q I a)
theorem yH(I:Nat->Shared->Prop)(t:∀n s,I n s->wpAny (model prog w) A (pyNext u) (λr b=>match r with
   |none=>R (.ok .next) b
   | some v=>wpAny (model prog w) A (letOwnedTupleGo a u v) (λ_ f=>wpAny (model prog w) A (assign a env v) (λ_ g=>
     wpAny (model prog w) A (EM p env) (λok c=>
      if ok=true then wpAny (model prog w) A (eval o env) (λx i=>
       wpAny (model prog w) A (call (.builtin "list.append") [q,x]) (λ_ j=>∃m,m < n/\I m j) (λ_ _=>False) i) (λ_ _=>False) c
      else ∃m,m < n/\I m c) (λ_ _=>False) g) (λ_ _=>False) f) (λ_ _=>False) b) (λ_ _=>False) s)(n:Nat)(h:I n s):
  codeAny (model prog w) A (.compLoop (.ListComp o [(a,e,p,0)] scope pos) 0 u q env) R s:=by
 calc codeAny_loop rfl I (λn s m=>?_) n h;show wpAny _ A ((compTurn (.ListComp o [(a,e,p,0)] scope pos) 0 u q env).onRaise (λx=>do noteFrame x env;theTreesLotGoes x)) _ _ s;calc wpAny_noted ?_;rw[compTurn_list];refine J' (wpAny_standAt (J' (aaR (t n s m) (λr b k=>?_) λ_ _ d=>d.elim)))
 cases r with
 |none=>calc U' k
 |some v=>
  calc J' (aaR k (λ_ f a=>?_) λ_ _ d=>d.elim);refine J' (aaR a (λ_ g b=>J' (aaR b (λok c l=>?_) λ_ _ d=>d.elim)) λ_ _ d=>d.elim)
  cases ok with
  |false=>calc U' (rfl,l)
  |true=>
   calc J' (J' (aaR l (λx i a=>J' (aaR a (λ_ j b=>U' (U' (rfl,b))) λ_ _ d=>d.elim)) λ_ _ d=>d.elim))
noncomputable def GV(N N':List Str)(ix:List (Option Nat))(scope:Scope):Bool:=
 N'.length==ix.length&&(N'.zip ix).all λp=>match p.2 with|none=>true|some j=>N[j]? == some p.1&&scope.names.lookup p.1==some .free
noncomputable def wt(ix:List (Option Nat))(σ:St):St:=ix.map λo=>match o with|none=>none|some j=>(σ[j]?).join
noncomputable def freeOk(scope:Scope)(outer:Scope):Bool:=
 scope.names.all λx=>(x.2 != .cell||scope.names.lookup x.1==some .cell)&&(x.2 != .free||(outer.names.lookup x.1==some .cell||outer.names.lookup x.1==some .free))&&(x.2 != .local||scope.names.lookup x.1==some .local)&&(x.2 != .free||scope.names.lookup x.1==some .free)
noncomputable def Xo(env:Env)(names:List (Str×NameKind))(C:Addr):List (Str×Addr):=cellsFrom (C+1) names (lW env names [])
theorem nj:∀(names:List (Str×NameKind)) (n:Nat) (a:List (Str×Addr)),cellsFrom n names a=cellsFrom n names []++a
 | [],_,_=>rfl
 |(x,k)::r,n,a=>by
  unfold cellsFrom;split
  .rw[nj r (n+1) (((x),n)::a),nj r (n+1) [((x),n)],List.append_assoc];rfl
  .calc nj r n a
theorem uA:∀{names:List (Str×NameKind)}{n:Nat}{a:List (Str×Addr)},((x),c)∈cellsFrom n names a->((x),c)∈a\/((x),NameKind.cell)∈names
 | [],_,_,h=>.inl h
 |(y,k)::r,n,a,h=>by
  unfold cellsFrom at h;split at h
  .next b=>
   rcases uA h with h|h
   .rcases List.mem_cons.mp h with e | e
    .cases e;exact .inr (by rw[show k=.cell by simpa using b];calc aaM)
    .exact .inl e
   .exact .inr (aar _ h)
  .rcases uA h with h | h
   .exact .inl h
   .calc .inr (aar _ h)
theorem uB{β:Type}{a:List (Str×β)}:∀{l:List (Str×β)},(l++a).lookup x=(l.lookup x).or (a.lookup x)
 | []=>rfl
 |(n,b)::r=>by
  rw[List.cons_append,List.lookup_cons,List.lookup_cons]
  cases x==n with
  |true=>rfl
  |false=>calc uB
theorem JW:(Xo env names C).lookup x=((cellsFrom (C+1) names []).lookup x).or ((lW env names []).lookup x):=by
 unfold Xo;rw[nj,uB]
noncomputable def Xp(X:Cx)(scope:Scope)(C:Addr)(N':List Str)(a:Shared)(H₂:Hp)(b:List Addr):Cx:=
 {X with N:=N',s₀:=a,H₀:=H₂,env:=compEnvC scope (Xo X.env scope.names C) C X.env,outer:=X.stack,stack:=X.stack,ex:=b,fn:=λx=>scope.names.lookup x==some .cell,pn:=[],xe:=λ_ _=>False}
theorem freeOk.at(h:freeOk scope outer=true)(e:x∈scope.names):(x.2=.cell->scope.names.lookup x.1=some .cell)/\(x.2=.free->outer.names.lookup x.1=some .cell\/outer.names.lookup x.1=some .free)/\(x.2=.local->scope.names.lookup x.1=some .local)/\(x.2=.free->scope.names.lookup x.1=some .free):=by
 have f:=List.all_eq_true.mp h x e;simp only[Bool.and_eq_true,Bool.or_eq_true,bne_iff_ne,ne_eq,beq_iff_eq]at f;let(((a,b),c),d):=f;calc(λe=>a.resolve_left λz=>z e,λe=>b.resolve_left λz=>z e,λe=>c.resolve_left λz=>z e,λe=>d.resolve_left λz=>z e)
theorem fB{scope:Scope}{env:Env}:∀{names:List (Str×NameKind)}{x:Str}{k:NameKind},
  (names.map λ(n,k)=>if (k==NameKind.free&&env.scope.kind == .function&&env.kindOf n==some .cell) then((n),NameKind.cell) else((n),k)).lookup x=some k->∃a,((x),a)∈names/\(k=a\/(k=.cell/\a=.free))
 | [],_,_,h=>by simp at h
 |(n,c)::r,x,k,h=>by
  rw[abx]at h;by_cases d:(c==NameKind.free&&env.scope.kind == .function&&env.kindOf n==some .cell)=true
  .simp only[d,if_true] at h
   cases b:x==n with
   |true=>
    simp only[List.lookup_cons,b]at h;have e:x=n:=(b:)
    subst e;have g:c=.free:=by
     simp only[Bool.and_eq_true,beq_iff_eq]at d;exact d.1.1
    calc(c,aaM,.inr ((Option.some.inj h).symm,g))
   |false=>
    simp only[List.lookup_cons,b]at h;let(a,m,q):=fB (scope:=scope) (env:=env) h;exact(a,aar _ m,q)
  .dsimp only at h;rw[if_neg d] at h
   cases b:x==n with
   |true=>
    simp only[List.lookup_cons,b]at h;have e:x=n:=(b:)
    subst e;calc(c,aaM,.inl (Option.some.inj h).symm)
   |false=>
    simp only[List.lookup_cons,b]at h;let(a,m,q):=fB (scope:=scope) (env:=env) h;calc(a,aar _ m,q)
section
variable {X:Cx}{scope:Scope}{C:Addr}{N':List Str}{s₂:Shared}{H₂:Hp}{fp:List Addr}{pins:jn}{σ:St}
theorem AB(I:Inv X pins σ H₂ s₂)(d:freeOk scope X.env.scope=true)(h:(lW X.env scope.names []).lookup x=some c):X.env.cells.lookup x=some c/\((x),NameKind.free)∈scope.names:=by
 rcases Az (aaG h) with z|⟨a,b⟩
 .simp at z
 .have q:=(d |> λh=>freeOk.at h a).2.1 rfl;let(c,e):=I.ok.has x q;rw[e]at b;calc(by rw[e,b];rfl,a)
theorem JX(a:freeOk scope X.env.scope=true)(h:scope.names.lookup x=some .free):(cellsFrom n scope.names []).lookup x=none:=by
 cases e:(cellsFrom n scope.names []).lookup x with
 |none=>rfl
 |some c=>
  rcases uA (aaG e) with z|z
  .cases z
  .have:=(freeOk.at a z).1 rfl;rw[h]at this;cases this
theorem nk(I:Inv X pins σ H₂ s₂)(a:freeOk scope X.env.scope=true)(h:(Xo X.env scope.names C).lookup x=some c):(X.env.cells.lookup x=some c/\ @LT.lt Nat _ c s₂.heap.objs.size/\(cellsFrom (C+1) scope.names []).lookup x=none)\/(cellsFrom (C+1) scope.names []).lookup x=some c:=by
 rw[JW]at h
 cases e:(cellsFrom (C+1) scope.names []).lookup x with
 |some d=>rw[e]at h;calc .inr h
 |none=>
  rw[e]at h;have q:=(AB I a h).1;calc .inl (q,let ⟨_,z⟩:=I.cell x c q;z.lt,rfl)
theorem UB{g:Heap}(i:CellsOk g (C+1) (cellsFrom (C+1) scope.names []))(I:Inv X pins σ H₂ s₂)(j:freeOk scope X.env.scope=true)(E:scope.kind=.function)(v:s₂.heap.objs.size<=C)(k:∀b∈fp,qK X pins H₂ b)(F:∀b∈fp,∃o,s₂.heap.get? b=some o):(Xp X scope C N' s₂ H₂ fp).Ok where
 mod:=I.ok.mod
 kind:=E
 glob:=I.ok.glob
 blt:=I.ok.blt
 above:=v
 inj:=λx y c l p=>by
  rcases nk I j l with⟨a,H,_⟩|a<;>rcases nk I j p with⟨b,g,_⟩|b
  .exact I.ok.inj x y c a b
  .have:=(i.empty y c (aaG b)).2;lia
  .have:=(i.empty x c (aaG a)).2;lia
  .exact PySem.name_of_addr i.apart (aaG a) (aaG b)
 has:=λx h=>by
  have h:(relabel scope X.env).names.lookup x=some .cell\/(relabel scope X.env).names.lookup x=some .free:=h;have w:((x),NameKind.free)∈scope.names->((lW X.env scope.names []).lookup x).isSome=true:=λm=>let ⟨d,e⟩:=fU (uz (env:=X.env) (cs:=[]) m);by rw[e];rfl
  calc Option.isSome_iff_exists.mp (W.cellsFrom_some scope.names (C+1) (lW X.env scope.names []) ?_);rcases h with h|h
  .let(G,m,q):=fB (scope:=scope) h;rcases q with q | ⟨_,q⟩
   .subst q;exact .inl ((freeOk.at j m).1 rfl)
   .subst q;exact .inr (w m)
  .let(G,m,q):=fB (scope:=scope) h;rcases q with q | ⟨q,_⟩
   .subst q;exact .inr (w m)
   .cases q
 TB:=λx c l p=>by
  rcases nk I j p with⟨_,_,a⟩|a
  .let(d,e):=uq (sc:=scope) (n:=C+1) (x:=x) (by simpa[Xp] using l);rw[e]at a;cases a
  .have:=(i.empty x c (aaG a)).2;show s₂.heap.objs.size<=c;lia
 hd:=I.ok.hd
 frames:=I.ok.frames
 Xg:=.inl rfl
 YB:=λb f=>by
  let(o,A):=F b f;let(B,r,s,t,u,D):=k b f;calc(aak (aae (aac A) v),λx c h=>?_);rcases nk I j h with⟨a,_⟩|a
  .exact u x c a
  .have:=(i.empty x c (aaG a)).2;have: @LT.lt Nat _ b _:=aac A;exact abv ()
 bs:=I.bs
 IC:=aaL I.ok.IC I.sz
 Ak:=λb o e f=>by
  let(B,r,s,t,u,D):=k b f;rcases t with z|z
  .exact I.ok.Ak b o e z
  .exact absurd (aae (aae (aac e) I.ok.IC) z) (abK _)
 CC:=λb f z=>by
  let(B,r,s,t,u,D):=k b f;rcases List.mem_cons.mp (I.yt b z) with e|e
  .exact r e
  .exact s e
 pS:=I.stack
 OE:=I.tU
end
theorem Inv.less(I:Inv X pins σ H s)(b:a.length=σ.length)(h:∀(i:Nat) (v:V),a[i]?=some (some v)->σ[i]?=some (some v)):Inv X pins a H s:=
 (I.ok,I.os,I.bare,I.base,(let ⟨m,a,c⟩:=I.loc;(m,a,λi x v d e f=>c i x v d (h i v e) f)),I.cell,I.free,I.jv,I.pin,I.aY,b.trans I.len)
def Ext(σ a:St):Prop:=a.length=σ.length/\∀(i:Nat) (v:V),σ[i]?=some (some v)->a[i]?=some (some v)
theorem Ext.refl(σ:St):Ext σ σ:=(rfl,λ_ _ h=>h)
theorem Ext.set(h:Ext σ a)(b:σ[j]?=some none):Ext σ (a.set j w):=by
 calc(by rw[List.length_set];calc h.1,λi v e=>?_);have c:j≠i:=by rintro rfl;rw[b]at e;cases e
 rw[ac1 c];calc h.2 i v e
theorem Pd(ix:List (Option Nat))(σ:St):(wt ix σ).length=ix.length:=by unfold wt;rw[V']
theorem aeK(I:Inv X pins σ H₂ s₂)(g:freeOk scope X.env.scope=true)(p:scope.kind=.function)(L:GV X.N N' ix scope=true)(S:∀b∈fp,qK X pins H₂ b)(T:∀b∈fp,∃o,s₂.heap.get? b=some o)(l:s₂.heap.objs.size<=D)(B: @LT.lt Nat _ D C)(F:CellsOk h₄ (C+1) (cellsFrom (C+1) scope.names []))(U:h₄.Ns C (λ_=>none))(r:∀b o,s₂.heap.get? b=some o->h₄.get? b=some o)(W:h₄.get? D=some {cls:=.type "list",data:=.seq ([]:List Value).toArray 0})(t':Nat):
  Inv (Xp X scope C N' s₂ H₂ fp) [] (wt ix σ) (upd H₂ D (.lst [])) {s₂ with heap:=h₄,toks:=t'}:=by
 have b:H₂ D=none:=I.aY.fresh l;have G:s₂.heap.objs.size<=C:=aaL l (T' B);have Y:H₂ C=none:=I.aY.fresh G;have Z:nS X.prog X.w (upd H₂ D (.lst [])) h₄:=I.aY.laid r l (aam _,[],0,.nil,W);refine(UB F I g p G S T,rfl,I.bare,Un.laid r l b,(_,U,λi x v y k e3=>?_),λx c e=>?_,?_,λx c e=>?_,λp b=>absurd (show p∈([]:jn) from b) nofun,Z,?_)
 .have d:=L;unfold GV at d;rw[aa4] at d;have b:N'.length=ix.length:=(d.1:)
  have b:i<N'.length:=(iF y).1;unfold wt at k;rw[K']at k
  cases q:ix[i]? with
  |none=>rw[q]at k;cases k
  |some o=>
   rw[q]at k
   cases o with
   |none=>cases k
   |some j=>
    have o:((x),some j)∈N'.zip ix:=by
     calc aaF (i:=i) ?_;rw[List.getElem?_zip_eq_some];exact(y,q)
    have b:=List.all_eq_true.mp d.2 _ o;simp only[Bool.and_eq_true,beq_iff_eq]at b;let(J,K):=b;have m:(σ[j]?).join=some v:=(k:)
    have e4:σ[j]?=some (some v):=by
     cases z:σ[j]? with
     |none=>rw[z]at m;cases m
     |some y=>rw[z]at m;exact congrArg some m
    have M:((x),NameKind.free)∈scope.names:=aaG K;have O:=(freeOk.at g M).2.1 rfl;let(m,b,hv):=I.loc;let(u,ru,lk):=hv j x v J e4 (by rcases O with z|z;calc .inr (.inl z);calc .inr (.inr z));refine(u,ru,.inr (?_,?_))
    .rcases e3 with z | z | z
     .let(b,m',n):=fB (scope:=scope) (env:=X.env) (show(relabel scope X.env).names.lookup x=some .local from z);rcases n with n | ⟨n,_⟩
      .subst n;have:=(freeOk.at g m').2.2.1 rfl;rw[K]at this;cases this
      .cases n
     .exact .inl z
     .exact .inr z
    .rcases lk with⟨t,_⟩ | ⟨_,c,l2,l3⟩
     .have t:X.env.scope.names.lookup x=some .local:=t;rcases O with z | z
      .rw[t]at z;cases z
      .rw[t]at z;cases z
     .let(b,P):=fU (uz (env:=X.env) (cs:=[]) M);have R:=(AB I g P).1;rw[l2]at R;have e7:c=b:=Option.some.inj R;subst e7;exact(c,by show(Xo X.env scope.names C).lookup x=some c;rw[JW,JX g K];calc P,l3.keeps r)
 .rcases nk I g e with⟨a,_⟩ | a
  .let(v,z):=I.cell x c a;exact(v,z.keeps r)
  .exact(_,(F.empty x c (aaG a)).1)
 .show upd H₂ D (.lst []) C=none;rw[ay (abv B)];exact Y
 .show upd H₂ D (.lst []) c=none;rcases nk I g e with⟨a,z,_⟩ | a
  .rw[ay (aak (aae z l))];exact I.jv x c a
  .have b: @LT.lt Nat _ C c:=(F.empty x c (aaG a)).2;rw[ay (abv (Nat.lt_trans B b))];exact I.aY.fresh (aaL G (T' b))
 .rw[Pd];have d:=L;unfold GV at d;rw[aa4] at d;have:N'.length=ix.length:=(d.1:)
  calc this.symm
theorem Dj(f:∀a,a.Ns s.heap.objs.size (λ_=>none)->(∀b o,s.heap.get? b=some o->a.get? b=some o)->CellsOk a (s.heap.objs.size + 1) (cellsFrom (s.heap.objs.size + 1) scope.names [])->
   Q {scope:=scope,locals:=s.heap.objs.size,globals:=g,cells:=cellsFrom (s.heap.objs.size + 1) scope.names d,qual:=qual,func:=none,code:=env.code,frame:=env.frame,builtins:=env.builtins} {s with heap:=a}):
  wpAny M A (newFunctionEnv scope g d [] qual none .none (some env)) Q E s:=by
 simp only[newFunctionEnv,Option.isSome_some,if_true];calc J' (wpAny_alloc ?_);calc J' (wpAny_layCells _ (λa c cells=>by cases a:c==NameKind.cell<;>simp[a]) _ _ _ _ ?_);have d:=cellsFrom_ok scope.names (s.heap.push {cls:=.type "dict",data:=.dict #[]}) (s.heap.objs.size+1) [] (λ_ _ a=>(nomatch a),List.Pairwise.nil) (by rw[aaT];calc S' _);rw[aaT]at d;rw[show({s with heap:=s.heap.push {cls:=.type "dict",data:=.dict #[]}}:Shared).heap.objs.size=s.heap.objs.size+1 from aaT ..];rw[List.forIn_nil];calc J' (U' (U' (f _ ((Heap.Ns.new s.heap (.type "dict")).keeps (pushCells_keeps _ _)) (λb o e=>pushCells_keeps _ _ b o (P' _ e)) d)))
def lX(ix:List (Option Nat))(J:It)(g:TG)(d:TT)(e:TE)(σ:St)(a:Hp)(Q:VK)(D:Addr):Prop:=
 ∃W:Nat->Nat->Hp->Prop,(∃m,W 0 m (upd a D (.lst [])))/\∀i m H,W i m H->
  (J.stop i H/\Q (.ref D) H)\/(J.go i H/\∃N:Hp->Prop,(∀b,N b->∃c,c < m/\W (i + 1) c b)/\∀x b,J.Rw i H x b->g x (wt ix σ) b λa f=>Ext (wt ix σ) a/\d a f λb c=>
   if b=true then e a c λy d=>∃a,d D=some (.lst a)/\a.length < sizeLine/\N (upd d D (.lst (a++[y]))) else N c)
def Zb(ix:List (Option Nat))(b:TI)(g:TG)(c:TT)(d:TE):TE:=λσ H Q=>b σ H λJ a=>∀D,a D=none->lX ix J g c d σ a Q D
abbrev wu(X:Cx)(scope:Scope)(N':List Str)(F:Cx->Prop):Prop:=∀(C:Addr) (a:Shared) (H₂:Hp) (b:List Addr),F (Xp X scope C N' a H₂ b)
theorem AE{QD:Addr->Hp->Prop}{RR:Value->Addr->Result->Shared->Prop}(Pf:X.calm=true)(hf:freeOk scope X.env.scope=true)(hk:scope.kind=.function)(hx:GV X.N N' ix scope=true)(hg:wu X scope N' λY=>PG Y target g)(ht:wu X scope N' λY=>Xn Y ifs tt)(he:wu X scope N' λY=>PE Y elt te)(I:Inv X pins σ H₂ a)(T:Turn X.prog X.w X.K target J l it R)(st:R 0 a.heap)(N6:∀b∈l,qK X pins H₂ b)(hw:∀D,H₂ D=none->∃W:Nat->Nat->Hp->Prop,(∃m,W 0 m (upd H₂ D (.lst [])))/\∀i m H,W i m H->
   (J.stop i H/\QD D H)\/(J.go i H/\∃N:Hp->Prop,(∀d,N d->∃B,B < m/\W (i + 1) B d)/\∀x d,J.Rw i H x d->g x (wt ix σ) d λp C=>Ext (wt ix σ) p/\tt p C λb L=>
    if b=true then te p L λy C=>∃S,C D=some (.lst S)/\S.length < sizeLine/\N (upd C D (.lst (S++[y]))) else N L))(hRR:∀(D C:Addr) (s':Shared) (d:Hp) (m:jP),a.heap.objs.size<=C->d C=none->C∉zV X.stack->s'.heap.Ns C m->(∃o,s'.heap.get? C=some o/\∀v,o.data≠.cell v)->Inv X pins σ d s'->QD D d->RR (.ref D) C (.ok .next) s'):
  X⁻¹ (newList []) (λp j=>X⁻¹ (newFunctionEnv scope X.env.globals (lW X.env scope.names []) [] X.env.qual none .none (some X.env)) (λJ C=>
   codeAny (model X.prog X.w) X.A (.compStart (.ListComp elt [(target,iter,ifs,0)] scope pos) 0 (.ref it) p {J with scope:=relabel scope X.env}) (RR p J.locals) C) E j) E a:=by
 calc acD (Dj λk UD Pg GW=>?_);dsimp only at UD Pg GW ⊢;generalize p:a.heap.push {cls:=.type "list",dict:=none,data:=.seq ([]:List Value).toArray}=P2 at UD Pg GW ⊢;have C:P2.objs.size=a.heap.objs.size+1:=by rw[<-p,aaT]
 have J:a.heap.objs.size<P2.objs.size:=by rw[C];exact Nat.lt_succ_self _
 have U:a.heap.objs.size<=P2.objs.size:=by rw[C];exact ac0 _
 have Z:∀b o,a.heap.get? b=some o->k.get? b=some o:=λb o e=>Pg b o (p▸P' _ e);have N:k.get? a.heap.objs.size=some {cls:=.type "list",data:=.seq ([]:List Value).toArray 0}:=Pg _ _ (p▸aai _ rfl);have C:∀b∈l,∃o,a.heap.get? b=some o:=λb c=>let ⟨o,e,_⟩:=T.obj _ _ st b c;(o,e)
 have p:a.heap.get? P2.objs.size=none:=Heap.get?_none_of_le U;have p:H₂ a.heap.objs.size=none:=I.aY.fresh (S' _);let(W,(m0,w0),turn):=hw a.heap.objs.size p;have fpD:∀b∈l,b≠a.heap.objs.size:=λb c=>let ⟨o,e⟩:=C b c;aak (aac e)
 have fpC:∀b∈l,b≠P2.objs.size:=λb c=>let ⟨o,e⟩:=C b c;aak (aae (aac e) U)
 let Y:=Xp X scope P2.objs.size N' a H₂ l
 have hcY:Y.calm=true:=Pf;have I0:Inv Y [] (wt ix σ) (upd H₂ a.heap.objs.size (.lst [])) {a with heap:=k}:=
  aeK I hf hk hx N6 C (S' _) J GW (UD:) Z N _
 have TC:P2.objs.size∉zV X.stack:=λz=>by
  rcases List.mem_cons.mp (I.yt _ z) with e|e
  .exact absurd I.lt (by rw[<-e];calc Nat.not_lt.mpr U)
  .exact I.TF U e
 have CK:∀{d:Hp},(∀b∈l,d b=none)->∀b∈l,qK Y [] d b:=λhn b c=>by
  let(f0,f1,f2,f3,f4,f5):=N6 b c;refine(hn b c,fpC b c,I0.ok.CC b c,.inl c,(I0.ok.YB b c).2,λp C=>absurd (show p∈([]:jn) from C) nofun)
 have Zd:R 0 k:=T.keep _ _ _ st λb _ o e=>Z b o e;have G:∀j:Shared,j={a with heap:=k}->
   codeAny (model X.prog X.w) X.A (.compLoop (.ListComp elt [(target,iter,ifs,0)] scope pos) 0 (.ref it) (.ref a.heap.objs.size) (compEnvC scope (Xo X.env scope.names P2.objs.size) P2.objs.size X.env))
    (RR (.ref a.heap.objs.size) P2.objs.size) j:=by
  rintro j rfl;calc yH (λn s'=>∃i d,Inv Y [] (wt ix σ) d s'/\R i s'.heap/\(∀b∈l,d b=none)/\W i n d) ?_ m0 (0,_,I0,Zd,λb c=>by rw[ay (fpD b c)];calc(N6 b c).1,w0);rintro n s3 ⟨i,L,I3,qF,YG,w3⟩;rcases turn i n L w3 with⟨stop,qn⟩|⟨go,Nn,hNn,step⟩
  .calc di (T.done Y rfl rfl rfl hcY i [] s3 _ L _ I3 (CK YG) qF stop) λr s4 q=>?_;let(hr,M):=q;subst hr;let(m,hn,_):=M.loc;refine hRR _ _ s4 L m U M.free TC hn ?_ ?_ qn
   .let(o,k,p,j,hd,_):=hn;exact(o,j,λv z=>by rw[hd]at z;cases z)
   .refine I.Ru (s':=s4) (ch:=l) M.os ?_ M.aY M.bare λb c=>?_
    .exact M.base
    .let(f0,f1,f2,f3,f4,f5):=N6 b c;exact(f3,f1,f4,f5)
  .calc di (T.item Y rfl rfl rfl hcY i [] s3 _ L _ I3 (CK YG) qF go) λr s4 q=>?_;let(u,hr,h4):=q;subst hr;calc di h4 λ_ s5 q=>?_;let(x,r,v,z,C,k,j):=q;have p:=v.pinned (CK j) (T.obj _ _ k);calc di (hg _ _ _ _ _ s5 _ r x u _ p z (step x r C)) λ_ I q=>?_;let(F,p,r,j,u):=q;calc di (ht _ _ _ _ _ I F p _ r u) λok s7 q=>?_;let(H7,I7,q7):=q;have t:∀{O:Shared} {P:Hp} {B:Nat},Inv Y ([]++qL l s5.heap) F P O->B<n->W (i+1) B P->∃m,m<n/\∃i d,Inv Y [] (wt ix σ) d O/\R i O.heap/\(∀b∈l,d b=none)/\W i m d:=λ{O P B} I8 hm w8=>by
    calc(B,hm,i+1,P,(I8.lS).less j.1.symm j.2,T.keep _ _ _ k λb c o e=>(I8.pin ((b),o) (aaN _ (aaN _ (kH c e)))).1,λb c=>?_,w8);let(o,e,d):=T.obj _ _ k b c;exact(I8.pin ((b),o) (aaN _ (aaN _ (kH c e)))).2.1
   cases ok with
   |false=>
    rw[if_neg X']at q7 ⊢;let(B,hm,w8):=hNn _ q7;calc t I7 hm w8
   |true=>
    rw[if_pos rfl] at q7 ⊢;calc di (he _ _ _ _ _ s7 F H7 _ I7 q7) λy O q=>?_;let(b,P,I8,d,S,e,i,j):=q;have k:=(xo (X:=Y)) (pins:=[]++qL l s5.heap) O F P (.ref a.heap.objs.size) [b] (.ref a.heap.objs.size) [y] (λ_ c=>Nn c) I8 rfl (.cons d .nil)
     (_,S,b,rfl,rfl,e,i,j)
    exact di k λ_ d (_,c,a,_,b)=>let ⟨B,hm,c⟩:=hNn _ b;t a hm c
 calc codeAny_compStart_list (G _ rfl) (T.self _ 0 _ _ _ Zd (G _ rfl))
theorem Inv.aeO(a:Inv X pins σ H₂ b)(I:Inv X pins σ H s)(d:b.heap.objs.size<=C)(f:H C=none)(g:Heap.SameBut C s.heap h'):Inv X pins σ H {s with heap:=h'}:=by
 refine I.turned (t':=s.toks) (λb o h e=>(g.2 b h).trans e) f (abv (aae a.lt d)) (.inr (aaL a.sz d)) (λx c e z=>?_) λp b z=>?_
 .let(v,q):=a.cell x c e;exact absurd (aae q.lt (by rw[z];calc d)) (abK _)
 .calc absurd (aae (aac (a.pin p b).1) (by rw[z];calc d)) (abK _)
theorem dy(l:PI X target iter wi)(n:wu X scope N' λY=>PG Y target g)(o:wu X scope N' λY=>Xn Y ifs tt)(a:wu X scope N' λY=>PE Y elt te)(p:X.calm=true:=by rfl)(f:freeOk scope X.env.scope=true:=by kernel_rfl)(i:scope.kind=.function:=by rfl)(b:GV X.N N' ix scope=true:=by kernel_rfl)(j:∀x,foldedSetIterable iter X.env x=pure x:=by intro _;rfl):PE X (.ListComp elt [(target,iter,ifs,0)] scope pos) (Zb ix wi g tt te):=by
 calc⟨?_⟩;intro pins s σ H Q I h;rw[eval_ListComp];have m:∀x∈scope.names,x.2=.free->∃c,X.env.cells.lookup x.1=some c:=λx b a=>I.ok.has x.1 ((freeOk.at f b).2.1 a);calc wpAny_comprehension_free (use:=none) rfl j (nX m) i (λx b a=>(freeOk.at f b).2.2.1 a) (aaR (l pins s σ H _ I h) (λm j c=>aaR c (λl j d=>?_) λ_ _ e=>e) λ_ _ e=>e);let(c,j,l,J,m,e,k,T,r,t,u):=d;subst e;calc AE (RR:=λc C=>compPost (model X.prog X.w) X.A X.xe none (EP X pins σ Q) c C) (QD:=λD c=>Q (.ref D) c) p f i b n o a k T r t u ?_;intro D C x c m d e y j z l q;calc(m,j,λB v=>(.ref D,c,k.aeO l d e v,rfl,q))
theorem fC(hN:X.N.Nodup)(F:X.N[i]?=some y)(hy:Loc X.env.scope y)(hi:PI X target iter wi)(hg:wu X scope N' λY=>PG Y target g)(ht:wu X scope N' λY=>Xn Y ifs tt)(j:wu X scope N' λY=>PE Y elt te)(G:swapsWith (.ListComp elt [(target,iter,ifs,0)] scope pos) (some (.Name y d)) U.line X.env=pure true:=by rfl)(Pf:X.calm=true:=by rfl)(K:freeOk scope X.env.scope=true:=by kernel_rfl)(W:scope.kind=.function:=by rfl)(k:GV X.N N' ix scope=true:=by kernel_rfl)(hs:∀x,foldedSetIterable iter X.env x=pure x:=by intro _;rfl)(Gs:X.fn y=true\/X.env.scope.names.lookup y=some .local:=by grind):
  PS X (.Assign [.Name y d] (.ListComp elt [(target,iter,ifs,0)] scope pos) U) (Gy (Zb ix wi g tt te) (fM i)):=by
 calc⟨?_⟩;intro pins s σ H D I h;rw[exec_Assign_Name_used _ _ _ _ G];calc J' (wpAny_standAt (J' ?_));show wpAny _ X.A (do let _ <-comprehension (.ListComp elt [(target,iter,ifs,0)] scope pos) scope X.env _ (newList []) false (eval iter X.env) (some (assign (.Name y d) X.env))) _ _ s;have pR:∀x ∈ scope.names,x.2=.free->∃c,X.env.cells.lookup x.1=some c:=λx k j=>I.ok.has x.1 ((freeOk.at K k).2.1 j);refine J' (aaR (wpAny_comprehension_free (use:=some (assign (.Name y d) X.env)) (Q:=λ_ a=>SP X pins D .next a) rfl hs (nX pR) W (λx k j=>(freeOk.at K k).2.2.1 j)
  (aaR (hi pins s σ H _ I h) (λxv Z l=>aaR l (λitv s₂ n=>?_) λ_ _ e=>e) λ_ _ e=>e)) (λ_ a hq=>U' (U' hq)) λ_ _ e=>e)
 let(it,fp,tn,J,H2,e,f,T,Ep,f2,hw):=n;subst e;calc AE (RR:=λL C=>compPost (model X.prog X.w) X.A X.xe (some (assign (.Name y d) X.env)) (λ_ a=>SP X pins D .next a) L C) (QD:=λr t=>D.nx (σ.set i (some (.ref r))) t) Pf K W k hg ht j f T Ep f2 hw ?_;intro r C a t m u Y9 IG hn E I' q;let(o,E,M):=E;show wpAny _ X.A (assign (.Name y d) X.env (.ref r)) _ _ a;have B:C≠X.env.locals:=abv (aae f.lt u);have O:C∉X.fs:=f.TF u;have P:Inv X (pins++[((C),o)]) σ t a:=I'.yu λp R=>(List.mem_append.mp R).elim (λz=>I'.pin p (aaN _ z)) λz=>by
  have z':p=((C),o):=(z:)
  subst z';exact(E,Y9,B,O,M)
 calc wpAny_assign_Name (kh P hN F hy (v:=.ref r) rfl (λs3 I3=>?_) Gs);let(e3,n3,_):=I3.pin ((C),o) (aaN _ (aaN _ nofun));let(o',es,ep,jH,r'):=hn;rw[E]at jH;cases jH;have S:Inv X pins (σ.set i (some (.ref r))) t s3:=I3.lS;calc(m,(o,es,ep,e3,r'),λh' UE=>(_,t,?_,q));refine S.turned (t':=s3.toks) (λb o hb e=>(UE.2 b hb).trans e) n3 B (.inr (aaL f.sz u)) (λx c e z=>?_) λp R z=>?_
 .let(v,q):=f.cell x c e;exact absurd (aae q.lt (by rw[z];calc u)) (abK _)
 .calc absurd (aae (aac (f.pin p R).1) (by rw[z];calc u)) (abK _)
def Xq(b:Nat->List V->Hp->Prop)(D:Addr)(i:Nat)(H:Hp):Prop:=∃a,H D=some (.lst a)/\a.length<=i+1/\b (i+1) a H
theorem b4(d:H D=some (.lst a))(b:a.length<=i)(e:i<n)(f:n<=sizeLine)(h:c (i+1) (a++[y]) (upd H D (.lst (a++[y])))):
  ∃b,H D=some (.lst b)/\b.length<sizeLine/\Xq c D i (upd H D (.lst (b++[y]))):=
 (a,d,(),a++[y],af,by rw[aas,List.length_singleton];lia,h)
theorem bu(f:Nat->List V->Hp->Prop)(a:n<=sizeLine)(t:f 0 [] (upd l D (.lst [])))(u:∀i d H,i<n->f i d H->J.go i H)(v:∀d H,f n d H->J.stop n H)(w:∀i d H,i < n->H D=some (.lst d)->d.length<=i->f i d H->∀x h,J.Rw i H x h->g x (wt ix σ) h λa q=>Ext (wt ix σ) a/\c a q λb o=>
   if b=true then k a o λy q=>∃j,q D=some (.lst j)/\j.length < sizeLine/\Xq f D i (upd q D (.lst (j++[y]))) else Xq f D i o)(z:∀d H,H D=some (.lst d)->d.length<=n->f n d H->Q (.ref D) H):
  lX ix J g c k σ l Q D:=by
 calc(λi m H=>m=n-i/\i<=n/\∃d,H D=some (.lst d)/\d.length<=i/\f i d H,(n,nofun,aam _,[],af,S' _,t),?_);rintro i m H ⟨rfl,a,d,r,s,p⟩;by_cases g:i<n
 .exact .inr (u i d H g p,Xq f D i,λh (j,a,b,c)=>(n-(i+1),(),rfl,g,j,a,b,c),λx h y=>w i d H g r s p x h y)
 .have e:i=n:=();subst e;calc .inl (v d H p,z d H r s p)
end
def J0(i j:Int):Prop:=0<j/\j.natAbs.log2<9000
theorem J5:ik X (binaryOp .FloorDiv) (rI J0 λi j=>.int (i/j)):=opI λi j _ _ _ _ _ a q=>by
 have b:(0:Int)<j:=a.1;calc floordiv_int () (by rw[Int.fdiv_eq_ediv_of_nonneg i ()];calc q) (.inl (PyProof.noPylong_of_log2 a.2))
def uI(C:Int->Int->Prop)(g:Int->Int->V):R2:=λx y H Q=>match x,y with
 | .int i,.int j=>C i j/\Q (g i j) H
 |_,_=>False
def UG(g:Int->Int->V):R2:=λx y H Q=>match x,y with
 | .int i,.int j=>Q (g i j) H
 |_,_=>False
theorem opU(h:ik X f (rI C g)):ik X f (uI C g):=by
 intro a s σ H x y v u Q I b c q
 cases x<;>cases y<;>first
  |calc(show False from q).elim
  |calc h a s σ H _ _ v u Q I b c (_,_,rfl,rfl,q.1,q.2)
theorem J6(h:ik X f (OI g)):ik X f (UG g):=by
 intro a s σ H x y v u Q I b c q
 cases x<;>cases y<;>first
  |calc(show False from q).elim
  |calc h a s σ H _ _ v u Q I b c (_,_,rfl,rfl,q)
theorem dR:ik X (binaryOp .Sub) (UG λi j=>.int (i-j)):=J6 T7
theorem nr:ik X (binaryOp .Mult) (uI Jt λi j=>.int (i*j)):=opU T8
theorem dI:ik X (binaryOp .Mod) (uI (λ_ j=>0<j) λi j=>.int (i%j)):=opU T9
theorem iU:ik X (binaryOp .FloorDiv) (uI J0 λi j=>.int (i/j)):=opU J5
theorem pW:ik X (binaryOp .Pow) (uI OL λi j=>.int (i^j.toNat)):=opU Ua
theorem gr:ik X (compareOp .Lt) (UG λi j=>.bl (decide (i<j))):=J6 YK
theorem uC:ik X (compareOp .LtE) (UG λi j=>.bl (decide (i<=j))):=J6 YL
theorem kK:ik X (compareOp .Gt) (UG λi j=>.bl (decide (j<i))):=J6 YM
theorem J7:ik X (compareOp .GtE) (UG λi j=>.bl (decide (j<=i))):=J6 YN
def lK(K:W.Frag)(H:Hp):Nat->V->V->Prop
 |0,_,_=>False
 |n+1,x,y=>(x=y/\gE x=true)\/∃a b xs c,x=.ref a/\y=.ref b/\((bI K H a xs/\bI K H b c)\/(aS K H a xs/\aS K H b c))/\xs.length=c.length/\∀(i:Nat) u v,xs[i]?=some u->c[i]?=some v->lK K H n u v
theorem in1_units(A:Around):A.in1.units=A.units+1:=rfl
theorem pX(I:Inv X pins σ H s):∀(n:Nat) (A:Around) {x y:V}{u v:Value},lK X.K H n x y->A.units+n<cLine->RelV x u->RelV y v->SeqAt.EqAt A s u v true
 |0,_,_,_,_,_,h,_,_,_=>h.elim
 |n+1,A,x,y,u,v,h,o,c,d=>by
  rcases h with⟨e,f⟩|⟨a,b,J,L,j,l,m,o,M⟩
  .subst e;have q:=De (A:=A) (s:=s) c d f f;have g:IF x x=true:=by cases x <;> first | rfl | calc absurd (show false=true from f) X' | simp[IF]
   rw[g]at q;exact q
  .subst j l
   cases c
   cases d;by_cases k:a=b
   .subst k;exact SeqAt.EqAt.same _
   rcases m with⟨o,p⟩|⟨o,p⟩
   .let(c,h,q,H):=I.tuple o;let(f,l,r,N):=I.tuple p;have O:=h.length;have P:=l.length;have t:c.toArray.size=f.toArray.size:=by simp;lia
    have d:=SeqAt.RcAt.tuples (A:=A) (e:=λ_=>true) (show s.heap.IsTuple a c.toArray from q) (show s.heap.IsTuple b f.toArray from r) () λj u v=>by
     have w:j<c.length:=(u:)
     have y:j<f.length:=(v:)
     let(z,m,B):=h.get (i:=j) (x:=J[j]'()) nofun;let(C,g,D):=l.get (i:=j) (x:=L[j]'()) nofun;have E:c.toArray[j]=z:=by
      have:=cJ w;rw[this]at m;simpa using Option.some.inj m
     have F:f.toArray[j]=C:=by
      have:=cJ y;rw[this]at g;simpa using Option.some.inj g
     rw[E,F];exact pX I n A.in1 (M j _ _ nofun nofun) (by rw[in1_units];lia) B D
    have G:SeqAt.RcAt A s (.ref a) (.ref b) true:=by
     have:((List.range (min c.toArray.size f.toArray.size)).all (λ_=>true)&&c.toArray.size==f.toArray.size)=true:=by
      rw[t];simp
     rw[this]at d;exact d
    exact SeqAt.EqAt.of_refs k G
   .let(c,h,q,H):=I.list o;let(f,l,r,N):=I.list p;have O:=h.length;have P:=l.length;have t:c.toArray.size=f.toArray.size:=by simp;lia
    have d:=SeqAt.RcAt.lists (A:=A) (e:=λ_=>true) q.isList r.isList t () λj u v=>by
     have w:j<c.length:=(u:)
     have y:j<f.length:=(v:)
     let(z,m,B):=h.get (i:=j) (x:=J[j]'()) nofun;let(C,g,D):=l.get (i:=j) (x:=L[j]'()) nofun;have E:c.toArray[j]=z:=by
      have:=cJ w;rw[this]at m;simpa using Option.some.inj m
     have F:f.toArray[j]=C:=by
      have:=cJ y;rw[this]at g;simpa using Option.some.inj g
     rw[E,F];exact pX I n A.in1 (M j _ _ nofun nofun) (by rw[in1_units];lia) B D
    have G:SeqAt.RcAt A s (.ref a) (.ref b) true:=by
     have:((List.range c.toArray.size).all (λ_=>true))=true:=nofun;rw[this]at d;exact d
    calc SeqAt.EqAt.of_refs k G
section
variable {σ:St}
theorem J8(I:Inv X pins σ H s)(h:lK X.K H (n+1) (.ref a) (.ref b))(f:A.units+n+1<cLine):
  SeqAt.RcAt A s (.ref a) (.ref b) true/\SeqAt.RcNeAt A s (.ref a) (.ref b) false:=by
 rcases h with⟨e,f⟩|⟨g,k,J,L,c,d,j,l,M⟩
 .exact absurd (show false=true from f) X'
 .cases c
  cases d;rcases j with⟨g,h⟩|⟨g,h⟩
  .let(d,k,l,H):=I.tuple g;let(f,m,o,N):=I.tuple h;have O:=k.length;have P:=m.length;have u:d.toArray.size=f.toArray.size:=by simp;lia
   have c:∀j (g:j<d.toArray.size) (h:j<f.toArray.size),SeqAt.EqAt A.in1 s d.toArray[j] f.toArray[j] ((λ_=>true) j):=λj v w=>by
    have y:j<d.length:=(v:)
    have z:j<f.length:=(w:)
    let(B,p,C):=k.get (i:=j) (x:=J[j]'()) nofun;let(D,q,E):=m.get (i:=j) (x:=L[j]'()) nofun;have F:d.toArray[j]=B:=by
     have:=cJ y;rw[this]at p;simpa using Option.some.inj p
    have G:f.toArray[j]=D:=by
     have:=cJ z;rw[this]at q;simpa using Option.some.inj q
    rw[F,G];exact pX I n A.in1 (M j _ _ nofun nofun) (by rw[in1_units];lia) C E
   have e:((List.range (min d.toArray.size f.toArray.size)).all (λ_=>true)&&d.toArray.size==f.toArray.size)=true:=by
    rw[u];simp
   have r:=SeqAt.RcAt.tuples (A:=A) (show s.heap.IsTuple a d.toArray from l) (show s.heap.IsTuple b f.toArray from o) () c;have t:=SeqAt.RcNeAt.tuples (A:=A) (show s.heap.IsTuple a d.toArray from l) (show s.heap.IsTuple b f.toArray from o) () c;rw[e]at r t;exact(r,t)
  .let(d,k,l,H):=I.list g;let(f,m,o,N):=I.list h;have O:=k.length;have P:=m.length;have u:d.toArray.size=f.toArray.size:=by simp;lia
   have c:∀j (g:j<d.toArray.size) (h:j<f.toArray.size),SeqAt.EqAt A.in1 s d.toArray[j] f.toArray[j] ((λ_=>true) j):=λj v w=>by
    have y:j<d.length:=(v:)
    have z:j<f.length:=(w:)
    let(B,p,C):=k.get (i:=j) (x:=J[j]'()) nofun;let(D,q,E):=m.get (i:=j) (x:=L[j]'()) nofun;have F:d.toArray[j]=B:=by
     have:=cJ y;rw[this]at p;simpa using Option.some.inj p
    have G:f.toArray[j]=D:=by
     have:=cJ z;rw[this]at q;simpa using Option.some.inj q
    rw[F,G];exact pX I n A.in1 (M j _ _ nofun nofun) (by rw[in1_units];lia) C E
   have e:(List.range d.toArray.size).all (λ_=>true)=true:=nofun;have r:=SeqAt.RcAt.lists (A:=A) l.isList o.isList u () c;have t:=SeqAt.RcNeAt.lists (A:=A) l.isList o.isList u () c;rw[e]at r t;calc(r,t)
def uD(K:W.Frag)(H:Hp)(a b:Addr):Prop:=∃xs c,xs.length≠c.length/\((aS K H a xs/\aS K H b c)\/(bI K H a xs/\bI K H b c/\(xs=[]\/c=[])))
theorem EN(I:Inv X pins σ H s)(h:uD X.K H a b)(k:A.units<cLine):
  SeqAt.RcAt A s (.ref a) (.ref b) false/\SeqAt.RcNeAt A s (.ref a) (.ref b) true:=by
 obtain⟨j,n,r,⟨l,m⟩|⟨l,m,q⟩⟩:=h
 .let(d,h,g,r):=I.list l;let(f,n,i,t):=I.list m;have o:=h.length;have p:=n.length;have j:(d.toArray.size != f.toArray.size)=true:=by simp;lia
  exact(SeqAt.RcAt.lists_lengths g.isList i.isList j k,SeqAt.RcNeAt.lists_lengths g.isList i.isList j k)
 .let(d,h,g,r):=I.tuple l;let(f,n,i,t):=I.tuple m;have o:=h.length;have p:=n.length;have c:∀j (l:j<d.toArray.size) (m:j<f.toArray.size),SeqAt.EqAt A.in1 s d.toArray[j] f.toArray[j] ((λ_=>true) j):=λj h l=>by
   exfalso;have m:j<d.length:=(h:)
   have h:j<f.length:=(l:)
   rcases q with e|e
   .subst e;simp at o;lia
   .subst e;simp at p;lia
  have e:((List.range (min d.toArray.size f.toArray.size)).all (λ_=>true)&&d.toArray.size==f.toArray.size)=false:=by
   have:d.toArray.size≠f.toArray.size:=by simp;lia
   rw[Bool.and_eq_false_iff];exact .inr (beq_eq_false_iff_ne.mpr this)
  have h:=SeqAt.RcAt.tuples (A:=A) (show s.heap.IsTuple a d.toArray from g) (show s.heap.IsTuple b f.toArray from i) k c;have j:=SeqAt.RcNeAt.tuples (A:=A) (show s.heap.IsTuple a d.toArray from g) (show s.heap.IsTuple b f.toArray from i) k c;rw[e]at h j;calc(h,j)
def UI(K:W.Frag):R2:=λx y H Q=>match x,y with
 | .ref a,.ref b=>(lK K H 20 (.ref a) (.ref b)/\Q (.bl true) H)\/(uD K H a b/\Q (.bl false) H)
 |x,y=>OM x y=true/\Q (.bl (decide (x=y))) H
def Xr(K:W.Frag):R2:=λx y H Q=>match x,y with
 | .ref a,.ref b=>(lK K H 20 (.ref a) (.ref b)/\Q (.bl false) H)\/(uD K H a b/\Q (.bl true) H)
 |x,y=>OM x y=true/\Q (.bl (!decide (x=y))) H
theorem J9(c:X.A.units+64<cLine):ik X (compareOp .Eq) (UI X.K):=by
  intro pins s σ H x y v u Q I a b h
  cases x<;>cases y<;>first
    |calc YI pins s σ H _ _ v u Q I a b h
    | (cases a;cases b
       rcases h with⟨a,q⟩|⟨a,q⟩
       . exact(J8 I (A:=X.A) a ()).1 X.prog X.w X.xe _ (.bl true,H,I,rfl,q)
       . calc(EN I (A:=X.A) a ()).1 X.prog X.w X.xe _ (.bl false,H,I,rfl,q))
theorem UJ(c:X.A.units+64<cLine):ik X (compareOp .NotEq) (Xr X.K):=by
  intro pins s σ H x y v u Q I a b h
  cases x<;>cases y<;>first
    |calc YJ pins s σ H _ _ v u Q I a b h
    | (cases a;cases b
       rcases h with⟨a,q⟩|⟨a,q⟩
       . exact(J8 I (A:=X.A) a ()).2 X.prog X.w X.xe _ (.bl false,H,I,rfl,q)
       . calc(EN I (A:=X.A) a ()).2 X.prog X.w X.xe _ (.bl true,H,I,rfl,q))
def Zg(g:Bool->Bool):R2:=λx y H Q=>match x,y with
 | .bl c,.bl d=>Q (.bl (g (c==d))) H
 |x,.bL=>Q (.bl (g (decide (x=.bL)))) H
 |_,_=>False
theorem yJ:ik X (compareOp .Is) (Zg id):=by
 intro pins s σ H x y v u Q I a b h
 cases x<;>cases y<;>first
  |calc(show False from h).elim
  |calc Ub pins s σ H _ _ v u Q I a b (rfl,h)
  |(cases a;cases b;calc is_bool (.bl _,H,I,rfl,h))
theorem nu:ik X (compareOp .IsNot) (Zg not):=by
 intro pins s σ H x y v u Q I a b h
 cases x<;>cases y<;>first
  |calc(show False from h).elim
  |calc ON pins s σ H _ _ v u Q I a b (rfl,h)
  |(cases a;cases b;calc isnot_bool (.bl _,H,I,rfl,h))
def uIn(K:W.Frag)(a:Bool):R2:=λx y H Q=>match y with
 | .ref p=>∃xs,(aS K H p xs\/bI K H p xs)/\gE x=true/\xs.all gE=true/\Q (.bl (if a then !EH x xs else EH x xs)) H
 |_=>False
theorem Ka:ik X (compareOp .In) (uIn X.K false):=by
 intro pins s σ H x y v u Q I a b h
 cases y<;>first
  |calc(show False from h).elim
  |(let(c,d,e,f,g):=h;calc GN pins s σ H _ _ v u Q I a b (_,c,rfl,d,e,f,g))
def UK(K:W.Frag)(a:TE):TI:=λσ H R=>a σ H λx b=>match x with
 | .ref a=>((∃xs,aS K b a xs)/\R (xf K a) b)\/((∃xs,bI K b a xs)/\R (Xi K a) b)
 |_=>False
theorem bR(r:PE X l i):PI X n l (UK X.K i):=by
  calc⟨?_⟩;intro pins s σ H R I h;calc di (r pins s σ H _ I h) λv c t=>?_;let(x,j,d,u,k):=t
  cases x<;>first
    |calc(show False from k).elim
    | (rename_i a;cases u
       rcases k with⟨⟨w,f⟩,q⟩|⟨⟨w,f⟩,q⟩
       . let(m,y,p,z):=d.list f;calc ac3 p.isList ?_;calc(c.heap.objs.size,[c.heap.objs.size],_,_,j,rfl,d.kept (t':=c.toks) λb o e=>P' _ e,Gz a _,(_,aai _ rfl,rfl,rfl),λb g=>?_,q);have e:b=c.heap.objs.size:=(g:)
         subst e;exact d.Jo (S' _) (d.aY.fresh (S' _))
       . let(m,y,p,z):=d.tuple f;calc abZ (show c.heap.IsTuple a m.toArray from p) ?_;calc(c.heap.objs.size,[c.heap.objs.size],_,_,j,rfl,d.kept (t':=c.toks) λb o e=>P' _ e,CI a _,(_,aai _ rfl,rfl,rfl),λb g=>?_,q);have e:b=c.heap.objs.size:=(g:)
         subst e;calc d.Jo (S' _) (d.aY.fresh (S' _)))
structure Def(P:Program)(w:World)(K:W.Frag)(mg:jP)(base:Heap)(x:Str)(k:Nat)(ps:List Str)(sp:Sp):Prop where
 ex:∃f fd,kI P w K mg base GU k f fd ps sp/\mg x=some (.ref f)/\W.keepIn K (.ref f)=true/\Binds K fd ps []
structure cG(K:W.Frag)(mg:jP)(x qual:Str)(st:Stmt)(ps:List Str):Prop where
 ex:∃f fd,JV K x qual st f fd/\mg x=some (.ref f)/\Binds K fd ps []
theorem cG.ok{K:W.Frag}(T:cG K mg x qual a b)(S:aE N b (az a))(c:∀vs H Q E,sp vs H Q E->vs.length=b.length)(e:∀(f:Addr) (d:Value) (A:Around) (outer:List Env) (s:Shared) (H:Hp) (vs:List V) (Q:VK) (E:XK),eZ k (A.deeper (envOfC qual (az a) s.heap.objs.size f d))->sp vs H Q E->
   ∃t,wg (lU GU P w K mg base N qual (az a) f d A outer s H E).ID (cW a) t/\t {nx:=λ_ a=>Q .bL a,rt:=Q} (start N vs) H):Def P w K mg base x (k + 1) b sp:=by
 let(f,a,F,b,d):=T.ex;calc(f,a,F.ok S c (e f),b,F.kp,d)
theorem Zh(D:Def X.prog X.w X.K X.mg X.base x k b sp)(c:eZ j X.A)(d:PA X (e::a) t)(g:Gl X x:=by rfl)(b:k<=j:=by decide)(h:(x==("__debug__":Str))=false:=by decide)(i:starEach (e::a) X.env=((false),eval e X.env)::starEach a X.env:=by rfl)(j:(backTo pos (starEach a X.env)).any (·.1)=false:=by rfl):
  PE X (.Call (.Name x p) (e::a) [] pos) (uo sp [] E0 t):=by
 let(f,l,F,a,e,k):=D.ex;calc Ey F (c.mono b) g a e k .nil EL d h i j
end
section
variable {H:Hp}
def UL(K:W.Frag):R2:=λx y H Q=>match x,y with
 | .str z,.int i=>∃c,z.length<=sizeLine/\hV z.cps.toList i=some c/\Q (.str ⟨#[c]⟩) H
 | .ref p,.int i=>∃xs v,(aS K H p xs\/bI K H p xs)/\hV xs i=some v/\Q v H
 | .ref p,.str k=>∃v,ir H p (.str k) (some v)/\Q v H
 |_,_=>False
theorem aeQ(c:X.A.units+64<cLine):YX X (UL X.K):=by
  intro a b d s σ H x y v u Q I i j h k
  cases x<;>cases y<;>first
    |calc(show False from h).elim
    |(let(c,f,l,e):=h;calc Up a b d s σ H _ _ v u Q I i j (_,_,c,rfl,rfl,f,l,e) k)
    | (obtain⟨c,m,f | f,l,e⟩:=h
       . exact OY a b d s σ H _ _ v u Q I i j (_,c,_,m,rfl,rfl,f,l,e) k
       . calc Uo a b d s σ H _ _ v u Q I i j (_,c,_,m,rfl,rfl,f,l,e) k)
    | (let(m,g,e):=h
       cases i;calc tail_any (sR I g) PySem.F.slot_dict_getitem.lookup (xy () I g j λc d a b=>(m,H,a,b,e)) k)
inductive DV where
 |bL|bl (b:Bool)|int (i:Int)|str (x:Str)|tup (ds:List DV)|lst (ds:List DV)|dict
inductive HD(H:Hp):Nat->V->DV->Prop
 |bL {n}:HD H n .bL .bL
 |bl {n} (b:Bool):HD H n (.bl b) (.bl b)
 |int {n} (i:Int):HD H n (.int i) (.int i)
 |str {n} (x:Str):HD H n (.str x) (.str x)
 |tup {n a xs ds}:H a=some (.tup xs)->xs.length=ds.length->(∀(i:Nat) u e,xs[i]?=some u->ds[i]?=some e->HD H n u e)->HD H (n+1) (.ref a) (.tup ds)
 |lst {n a xs ds}:H a=some (.lst xs)->xs.length=ds.length->(∀(i:Nat) u e,xs[i]?=some u->ds[i]?=some e->HD H n u e)->HD H (n+1) (.ref a) (.lst ds)
 |dict {n a aU}:H a=some (.dK aU)->HD H n (.ref a) .dict
theorem HD.same(s:au H a)(h:HD H n x d):HD a n x d:=by
 induction h with
 |bL=>calc .bL
 |bl b=>calc .bl b
 |int i=>calc .int i
 |str x=>calc .str x
 |tup a b c d=>calc .tup (s _ _ a) b d
 |lst a b c d=>calc .lst (s _ _ a) b d
 |dict a=>calc .dict (s _ _ a)
theorem HD.mono(h:HD H n x d):∀{m:Nat},n<=m->HD H m x d:=by
 induction h with
 |bL=>intro m _;calc .bL
 |bl b=>intro m _;calc .bl b
 |int i=>intro m _;calc .int i
 |str x=>intro m _;calc .str x
 |tup a b c f=>
  intro m g;obtain⟨k,rfl⟩:∃k,m=k+1:=(m-1,())
  calc .tup a b λi u e p q=>f i u e p q ()
 |lst a b c f=>
  intro m g;obtain⟨k,rfl⟩:∃k,m=k+1:=(m-1,())
  calc .lst a b λi u e p q=>f i u e p q ()
 |dict a=>intro m _;calc .dict a
inductive HT(H:Hp):Nat->V->DV->Prop
 |bL {n}:HT H n .bL .bL
 |bl {n} (b:Bool):HT H n (.bl b) (.bl b)
 |int {n} (i:Int):HT H n (.int i) (.int i)
 |str {n} (x:Str):HT H n (.str x) (.str x)
 |tup {n a xs ds}:H a=some (.tup xs)->xs.length=ds.length->(∀(i:Nat) u e,xs[i]?=some u->ds[i]?=some e->HT H n u e)->HT H (n+1) (.ref a) (.tup ds)
theorem HT.hd(h:HT H n x d):HD H n x d:=by
 induction h with
 |bL=>calc .bL
 |bl b=>calc .bl b
 |int i=>calc .int i
 |str x=>calc .str x
 |tup a b c d=>calc .tup a b d
def cw(H a:Hp):Prop:=∀b xs,H b=some (.tup xs)->a b=some (.tup xs)
theorem au.aR(h:au H a):cw H a:=λb a e=>h b _ e
theorem cw.refl(H:Hp):cw H H:=λ_ _ h=>h
theorem cw.trans(a:cw H c)(b:cw c d):cw H d:=λc o h=>b c o (a c o h)
theorem cw.upd{a:Hp}(h:cw H a){p:Addr}{o:HO}(d:∀xs,a p≠some (.tup xs)):cw H (upd a p o):=λb xs e=>by
 have c:=h b xs e;have:b≠p:=λz=>by subst z;exact d xs c
 rw[ay this];calc c
theorem HT.aL(s:cw H a)(h:HT H n x d):HT a n x d:=by
 induction h with
 |bL=>calc .bL
 |bl b=>calc .bl b
 |int i=>calc .int i
 |str x=>calc .str x
 |tup a b c d=>calc .tup (s _ _ a) b d
theorem au.new(o:HO)(a:H p=none):au H (upd H p o):=λb u e=>by rw[ay (av e a)];calc e
theorem aaB{H H':Hp}{a:Addr}{o:HO}(g:upd H a o=H')(h:H a=none):au H H'/\H' a=some o:=g▸⟨au.new o h,af⟩
end
def UM(K:W.Frag):List V->Hp->VK->Prop:=λxs H Q=>match xs with
 | [x]=>∃n,Jv K x H n/\Q (.int (n:Nat)) H
 |_=>False
theorem aM:eO X (.builtin "len") (UM X.K):=by
 intro a s σ H b c Q I r h
 match b,r,h with
 | [x],r,h=>
  let(n,b,d):=h;calc Jw a s σ H _ c Q I r (x,n,rfl,b,d)
def uII(g:Int->Int->Int):List V->Hp->VK->Prop:=λxs H Q=>match xs with
 | [.int i,.int j]=>Q (.int (g i j)) H
 |_=>False
theorem qR(b:X.calm=true):eO X (.builtin "max") (uII λi j=>if j > i then j else i):=by
 intro a s σ H c d Q I r h
 match c,r,h with
 | [.int i,.int j],r,h=>calc GD b a s σ H _ d Q I r (i,j,rfl,h)
def yK(K:W.Frag):List V->Hp->VK->Prop:=λxs H Q=>match xs with
 | [.ref p]=>(∃a,aS K H p a/\∀l,H l=none->Q (.ref l) (upd H l (.tup a)))\/(∃a,bI K H p a/\Q (.ref p) H)
 |_=>False
theorem bU:eO X (.type "tuple") (yK X.K):=by
 intro a s σ H b e Q I r h
 match b,r,h with
 | [.ref p],r,h=>
  rcases h with⟨b,c,d⟩|⟨b,c,d⟩
  .exact nV a s σ H _ e Q I r (p,b,rfl,.inl (c,d))
  .calc nV a s σ H _ e Q I r (p,b,rfl,.inr (c,d))
def RB(K:W.Frag):List V->Hp->VK->Prop:=λxs H Q=>match xs with
 | [.ref p]=>∃a,(aS K H p a\/bI K H p a)/\∀l,H l=none->Q (.ref l) (upd H l (.lst a))
 |_=>False
theorem cK:eO X (.type "list") (RB X.K):=by
 intro a s σ H b c Q I r h
 match b,r,h with
 | [.ref p],r,h=>
  let(b,d,e):=h;calc yE a s σ H _ c Q I r (p,b,rfl,d,e)
def RC:V->V->V->Hp->(Hp->Prop)->Prop:=λo i v H Q=>match o,i with
 | .ref p,.int k=>∃xs j,H p=some (.lst xs)/\Dc xs.length k=some j/\Q (upd H p (.lst (xs.set j v)))
 |_,_=>False
theorem dU:TU X RC:=by
 intro a s σ H o i v b c u Q I d e f h
 cases o<;>cases i<;>first
  |calc(show False from h).elim
  |(let(g,j,i,k,l):=h;calc set_list a s σ H _ _ v b c u Q I d e f (_,g,_,j,rfl,rfl,i,k,l))
theorem Zi{CX P w K mg base N qual scope f cd A outer s H E}:(lU CX P w K mg base N qual scope f cd A outer s H E).ID.K=K:=rfl
theorem RD{X:Cx}:X.ID.K=X.K:=rfl
theorem Kb{CX P w K mg base N qual scope f cd A outer s H E}:(lU CX P w K mg base N qual scope f cd A outer s H E).K=K:=rfl
theorem RE{scope C N' a b fp}:(Xp X scope C N' a b fp).K=X.K:=rfl
theorem dO:2<=sizeLine:=by decide
theorem RF:uI C g (.int i) (.int j) H Q=(C i j/\Q (g i j) H):=rfl
theorem Kc:UG g (.int i) (.int j) H Q=Q (g i j) H:=rfl
theorem Ke:decide (V.int i=V.int j)=decide (i=j):=by simp
theorem Kf:decide (V.str s=V.str t)=decide (s=t):=by simp
theorem yL{K:W.Frag}:UI K (.int i) (.int j) H Q=Q (.bl (decide (i=j))) H:=by
 show(true=true/\Q (.bl (decide (V.int i=V.int j))) H)=_;rw[Ke];simp
theorem yM{K:W.Frag}:UI K (.str s) (.str t) H Q=Q (.bl (decide (s=t))) H:=by
 show(true=true/\Q (.bl (decide (V.str s=V.str t))) H)=_;rw[Kf];simp
theorem yN{K:W.Frag}:Xr K (.int i) (.int j) H Q=Q (.bl (!decide (i=j))) H:=by
 show(true=true/\Q (.bl (!decide (V.int i=V.int j))) H)=_;rw[Ke];simp
theorem yO{K:W.Frag}:Xr K (.str s) (.str t) H Q=Q (.bl (!decide (s=t))) H:=by
 show(true=true/\Q (.bl (!decide (V.str s=V.str t))) H)=_;rw[Kf];simp
theorem Kg{K:W.Frag}:UI K (.ref a) (.ref b) H Q=((lK K H 20 (.ref a) (.ref b)/\Q (.bl true) H)\/(uD K H a b/\Q (.bl false) H)):=rfl
theorem Kh{K:W.Frag}:Xr K (.ref a) (.ref b) H Q=((lK K H 20 (.ref a) (.ref b)/\Q (.bl false) H)\/(uD K H a b/\Q (.bl true) H)):=rfl
theorem Ki:Zg g (.bl c) (.bl d) H Q=Q (.bl (g (c==d))) H:=rfl
theorem RG{K:W.Frag}:uIn K b x (.ref a) H Q=∃xs,(aS K H a xs\/bI K H a xs)/\gE x=true/\xs.all gE=true/\Q (.bl (if b then !EH x xs else EH x xs)) H:=rfl
theorem Kj{K:W.Frag}:UL K (.ref a) (.int i) H Q=∃xs v,(aS K H a xs\/bI K H a xs)/\hV xs i=some v/\Q v H:=rfl
theorem Kk{K:W.Frag}:UL K (.ref a) (.str s) H Q=∃v,ir H a (.str s) (some v)/\Q v H:=rfl
theorem Kl{K:W.Frag}:UL K (.str s) (.int i) H Q=∃c,s.length<=sizeLine/\hV s.cps.toList i=some c/\Q (.str ⟨#[c]⟩) H:=rfl
theorem Km{K:W.Frag}:UM K [x] H Q=∃n,Jv K x H n/\Q (.int (n:Nat)) H:=rfl
theorem RH:uII g [.int i,.int j] H Q=Q (.int (g i j)) H:=rfl
theorem pY{K:W.Frag}:yK K [.ref a] H Q=((∃b,aS K H a b/\∀l,H l=none->Q (.ref l) (upd H l (.tup b)))\/(∃b,bI K H a b/\Q (.ref a) H)):=rfl
theorem EO{K:W.Frag}:RB K [.ref a] H Q=∃b,(aS K H a b\/bI K H a b)/\∀l,H l=none->Q (.ref l) (upd H l (.lst b)):=rfl
theorem AF:RC (.ref a) (.int i) x H R=∃xs j,H a=some (.lst xs)/\Dc xs.length i=some j/\R (upd H a (.lst (xs.set j x))):=rfl
theorem xC{α:Type}{o:Option α}:(some o).join=o:=rfl
noncomputable def eF:Expr->Bool
 | .Starred ..=>false
 |_=>true
theorem eU(h:eF e=true):starEach (e::a) env=((false),eval e env)::starEach a env:=by
 cases e<;>first|rfl|calc absurd h X'
theorem gs:∀{a:List Expr},a.all eF=true->(backTo pos (starEach a env)).any (·.1)=false
 | [],_=>rfl
 |e::a,h=>by
  rw[List.all_cons,aa4]at h;rw[eU h.1];show(false||(backTo pos (starEach a env)).any (·.1))=false;rw[gs h.2];rfl
noncomputable def Dk:Expr->Bool
 | .ListComp ..=>false
 | .SetComp ..=>false
 | .DictComp ..=>false
 |_=>true
theorem hX(h:Dk e=true):swapsWith e t l env=pure false:=by
 cases e<;>first|rfl|calc absurd h X'
theorem ag(a:PE X e te)(b:PA X es t)(h:eF e=true:=by rfl):PA X (e::es) (Ap te t):=OS a b (eU h)
theorem aN(D:Def X.prog X.w X.K X.mg X.base x k a sp)(b:eZ j X.A)(c:PA X (e::es) t)(d:Gl X x:=by rfl)(a:k<=j:=by decide)(f:(x==("__debug__":Str))=false:=by decide)(g:eF e=true:=by rfl)(h:es.all eF=true:=by rfl):
  PE X (.Call (.Name x p) (e::es) [] pos) (uo sp [] E0 t):=Zh D b c d a f (eU g) (gs h)
theorem aX(b:eO X (.builtin a) r)(c:Gl X x)(d:X.mg x=none)(f:bootBuiltins x=some (.builtin a))(g:PA X (e::es) t)(h:x≠"__name__":=by decide)(a:(x==("__debug__":Str))=false:=by decide)(i:eF e=true:=by rfl)(j:es.all eF=true:=by rfl):PE X (.Call (.Name x p) (e::es) [] pos) (Xk r t):=JC b c d f g h a (eU i) (gs j)
theorem dz(a:eO X (.type T) r)(b:Gl X x)(c:X.mg x=none)(d:bootBuiltins x=some (.type T))(f:PA X (e::es) t)(g:x≠"__name__":=by decide)(h:(x==("__debug__":Str))=false:=by decide)(i:eF e=true:=by rfl)(j:es.all eF=true:=by rfl):PE X (.Call (.Name x p) (e::es) [] pos) (Xk r t):=GK a b c d f g h (eU i) (gs j)
theorem bf(b:X.N.Nodup)(c:X.N[i]?=some x)(d:Loc X.env.scope x)(f:PE X e te)(h:Dk e=true:=by rfl)(g:X.fn x=true\/X.env.scope.names.lookup x=some .local:=by grind):
  PS X (.Assign [.Name x a] e pos) (Gy te (fM i)):=Jm b c d f (hX h) g
theorem bX(a:PE X e te)(h:Dk e=true:=by rfl):PS X (.Expr e pos) (Am te):=OH a (hX h)
noncomputable def yP:Expr->Bool
 | .Slice ..=>false
 |_=>true
theorem uF(h:yP b=true):EF b:=λo i=>by
 cases b<;>first|rfl|calc absurd h X'
theorem ao(e:X.A.units+64<cLine)(f:PE X a c)(g:PE X b d)(h:yP b=true:=by rfl):PE X (.Subscript a b pos) (Js (UL X.K) c d):=YY (aeQ e) f g (uF h)
noncomputable def uG:List Value:=[.type "ValueError",.type "Exception",.type "BaseException",.type "object"]
theorem Dl{os:OsState}(b:h.get? C=some (excClassObj nm q C N bs (.ref B::uG) true sn sub ab col dd k0 k1 k2 k3 k5 "ValueError.__new__"))(c:Q ⟨⟩ (h,g,d,t,os)):wpAny M A (checkBuiltinCall "ValueError.__new__" (.ref C::a,[])) Q E (h,g,d,t,os):=by
 have a:=zA3;have e:(Value.ref C::.ref B::uG).contains (.type "ValueError")=true:=rfl;have f:=a.noStar;simp only[checkBuiltinCall,a.newKind,a.newSplit,a.newRow]
 repeat (first|calc aa5 b ?_|(calc acJ b ?_;rw[e])|calc wpAny_staticBase_exc b ?_|calc wpAny_madeBy_exc b ?_|simp only[bne_self_eq_false,Bool.false_eq_true,if_false]|wp_step)
 calc c
theorem GY{os:OsState}(b:h.get? C=some (excClassObj nm q C N bs (.ref B::uG) true sn sub ab col dd k0 k1 k2 k3 k5 "ValueError.__new__"))(i:R (.ok (.ret (.ref (h.objs.size + 1)))) ((h.push {cls:=.type "tuple",data:=.seq a.toArray}).push
   {cls:=.ref C,data:=.fields #[.ref h.objs.size,.none,.none,.none,.bool false,.none]},g,d,t,os))(c:a.length<=sizeLine):
  codeAny (model prog w) A (.builtin "ValueError.__new__" (.ref C::a,[])) R (h,g,d,t,os):=by
 have a:=zA3;have c:=a.ends;have j:(Value.ref C::.ref B::uG).contains (.type "ValueError")=true:=rfl;have c:(Value.ref C::.ref B::uG).contains (.type "AttributeError")=false:=rfl;have e:(Value.ref C::.ref B::uG).contains (.type "NameError")=false:=rfl;calc codeAny_builtinAt a.entry ?_;unfold Builtin.«BaseException.__new__»;calc PySem.wpAt_bind ?_;show PySem.wpAt _ _ _ (stack >>= _) _ _ _;calc PySem.wpAt_bind (PySem.wpAt_stack λp f=>PySem.wpAt_of_wpAny ?_);wp_walk;calc PySem.wpAt_of_wpAny ?_;rw[a.owner]
 repeat (first|with_reducible calc wpAny_madeHere_exc a.canon b ?_|with_reducible calc aa5 b ?_|(with_reducible calc acJ b ?_;first|rw[j]|rw[c]|rw[e])|wp_step)
 show R _ _;rw[aaT];calc i
end L2
set_option maxHeartbeats 400000
namespace L2
open PySem PySem.Spec PyProof.Rows
structure kM(K:W.Frag)(C B:Addr):Prop where
 ob:∃nm q N bs sn sub ab col dd k0 k1 k2 k3 k5,K.lookup C=some (excClassObj nm q C N bs (.ref B::uG) true sn sub ab col dd k0 k1 k2 k3 k5 "ValueError.__new__")
 ga:W.findIn K (.ref C) "__getattribute__"=some (some (.builtin "BaseException.__getattribute__"))
 gt:W.findIn K (.ref C) "__getattr__"=some none
 sa:W.findIn K (.ref C) "__setattr__"=some (some (.builtin "object.__setattr__"))
 cl:W.findIn K (.ref C) "__class__"=some (some (.builtin "object.__class__"))
 cg:W.specialIn K (.builtin "object.__class__") "__get__"=some (some (.builtin "getset_descriptor.__get__"))
 ct:W.takesIn K (.builtin "object.__class__")=some true
 kp:W.keepIn K (.ref C)=true
theorem kM.cd{K:W.Frag}(c:kM K C B):∃cd:ClassData,W.clsIn K C=some cd/\cd.mro=.ref C::.ref B::uG/\cd.hasDict=true:=by
 let(d,q,N,f,g,a,h,b,i,j,k,l,m,n,e):=c.ob;calc(_,by unfold W.clsIn;rw[e],rfl,rfl)
theorem kM.mro{K:W.Frag}(c:kM K C B)(v:Value):W.mroIn K C v=some ((.ref C::.ref B::uG).contains v):=by
 let(cd,e,a,_):=c.cd;unfold W.mroIn;rw[e,Option.bind_some,a];rfl
section
variable {prog:Program}{w:World}{A:Around}{s:Shared}{K:W.Frag}{x C B:Addr}{ox:Obj}{od:Option Obj}{name:Str}
open PySem.W in
open PySem.W in
theorem Dm{g a:Value}{b:Tok}{R:Result->Shared->Prop}(X:K.In s.heap)(I:InstAt s.heap x ox C od)(c:kM K C B)(f:findObj K C od name=some (.bind g a))
  (h:∀A,wpAny (model prog w) A (call g [a,.ref x,.ref C]) (λv s'=>R (.ok (.ret v)) s') (λe s'=>R (.error e) s') s):
  codeAny (model prog w) A (.call (.builtin "BaseException.__getattribute__") ([.ref x,.str name b],[])) R s:=by
 have i:=PySem.F.attrBase_ValueError;have j:builtinKind "BaseException.__getattribute__"=some .slot:=by decide +kernel
 have k:splitId "BaseException.__getattribute__"=some (("BaseException"),"__getattribute__"):=by decide +kernel
 have e:=I.type (M:=model prog w);have l:mroIn K C (.type "BaseException")=some true:=(c.mro _).trans rfl;have L2:Looks (model prog w) s.heap (isInstance (.ref x) (.type "BaseException")) true:=e.andThen (looks_mroIn X l);calc codeAny_call_builtin i.ga.plain PySem.F.entry_bexc_ga (@check_slot (model prog w) _ _ s "BaseException.__getattribute__" "BaseException" "__getattribute__" (.ref x) [.str name b] [] _ j k L2 (PySem.F.args_bexc_ga _ _) ?_);let(c,m,d,t,n):=s;have b:=looks_find (M:=model prog w) X I f;calc J' (U' (J' (U' (J' (e.here (J' (b.here ?_)))))));show wpAny _ _ (Builtin.ObjectAttr.bindTo g a (.ref x) (.ref C)) _ _ _;calc J' (abd (aaR (h _) (λv s' z=>U' z) λ_ _ z=>z))
end
section
variable {prog:Program}{w:World}{A:Around}{E:jD}{s:Shared}{K:W.Frag}{x C B:Addr}{ox:Obj}{od:Option Obj}
open PySem.W in
open PySem.W in
theorem UP{Q:Option Value->Shared->Prop}(X:K.In s.heap)(I:InstAt s.heap x ox C od)(c:kM K C B)(h:Q (some (.ref C)) {s with toks:=s.toks+1}):
  wpAny (model prog w) A (getAttr? (.ref x) "__class__") Q E s:=by
 let(a,g,d,t,b):=s;have f:=PySem.F.attrBase_ValueError;have i:=I.type (M:=model prog w);have j:=looks_findIn (M:=model prog w) X c.ga;have L2:=looks_findIn (M:=model prog w) X c.gt;have k:mroIn K C (.type "object")=some true:=(c.mro _).trans rfl;have l:findObj K C od "__class__"=some (.bind (.builtin "getset_descriptor.__get__") (.builtin "object.__class__")):=by
  let(cd,e,_):=c.cd;unfold findObj;rw[e,Option.bind_some,c.cl,Option.bind_some];simp[c.cg,c.ct]
 unfold getAttr? getAttrBy? getAttrBy;calc J' (wpAny_mkText (J' (wpAny_attempt (abd (J' (i.at (J' (j.at ?_))))))));show wpAny _ _ (getAttrByItsOwn _ _ _ _ _ _) _ _ _;unfold getAttrByItsOwn callGetattribute boundAndCalled;calc J' (L2.at (J' (wpAny_attempt (abd ?_))));simp only[Bool.false_and,Bool.false_eq_true,if_false];rw[f.ga.bind];calc J' (U' (wpAny_call ?_));calc Dm (s:=(a,g,d,t+1,b)) X I c l λe=>?_;calc wpAny_call (class_get (s:=(a,g,d,t+1,b)) (ox:=ox) (od:=od) X I k ?_);show wpAny _ _ (handedOut (.ref C)) _ _ _;exact U' (U' h)
open PySem.W in
theorem AG(c:kM K C B):KitX K (.ref x) (.ref C) (λh=>∃ox od,InstAt h x ox C od) where
 ty:=λ_ _ _ I=>let ⟨_,_,I⟩:=I;I.type
 it:=λ_ _ X _=>by
  let(i,q,N,j,l,a,m,b,g,o,p,r,t,u,d):=c.ob;intro n v y z k q;unfold isType loadHead;exact J' (wpAny_loadPart (k _ _ (X _ _ d)) (U' q))
 ne:=λh v g y n z X w=>by
  let(i,q,N,j,l,a,m,b,g,o,p,r,t,u,d):=c.ob;calc Bool.eq_false_iff.mpr λq=>?_;have e:C=v:=Value.ref.inj (beq_iff_eq.mp q);subst e;have z:=(X _ _ d).symm.trans w;have a:=congrArg (Option.map Obj.cls) z;simp at a
 ca:=λX I k=>let ⟨_,_,I⟩:=I;UP X I c k
end
def XOb(C:Addr)(d:Option Addr)(c:Bool)(a:Addr)(h:Heap):Prop:=∃b e,h.get? a=some ((.ref C,d,.fields b,e):Obj)/\(c=true->b[1]?=some .none)
noncomputable abbrev XO(a C:Addr)(d:Option Addr)(b:Bool):HO:=.ext (XOb C d b a)
def XDb(c:List (Str×V))(a:Addr)(h:Heap):Prop:=∃b,h.Ns1 a b/\(∀f,kF (c.lookup f) (b f))/\PySem.Within b (c.map (·.1))
noncomputable abbrev XD(a:Addr)(b:List (Str×V)):HO:=.ext (XDb b a)
theorem RI(e:h.get? a=some ((.ref C,d,.fields b,c):Obj))(f:fl=true->b[1]?=some .none):cy P w H h a (XO a C d fl):=
 ((b,c,e,f),(_,e),λ_ _ (b,c,e,f) k=>(b,c,k _ e,f))
theorem UQ(x:cy P w H h a (XO a C d fl)):XOb C d fl a h:=x.1
theorem Kn(x:cy P w H h a (XD a b)):XDb b a h:=x.1
theorem yQ(I:Inv X pins σ H s)(e:H a=some (XO a C d b)):∃vs c,s.heap.get? a=some ((.ref C,d,.fields vs,c):Obj)/\(b=true->vs[1]?=some .none):=UQ (I.aY a _ e)
theorem Ko(I:Inv X pins σ H s)(e:H a=some (XO a C d c)):∃vs b,s.heap.get? a=some ((.ref C,d,.fields vs,b):Obj):=by
 let(vs,b,h,_):=yQ I e;calc(vs,b,h)
theorem Dn(I:Inv X pins σ H s)(e:H a=some (XO a C d f))(g:∀dx,d=some dx->∃fs,H dx=some (XD dx fs))(i:kM X.K C B)(k:W.kitOne X.K (.ref C) c=some b)(h:∀f,Q (.bool b) {s with toks:=f}):wpAny (model X.prog X.w) A (call (.builtin "isinstance") [.ref a,c]) Q E s:=by
 calc W.kia_one (AG i) I.iQ ?_ k (λz=>nomatch z) h;let(b,c,q):=Ko I e
 cases d with
 |none=>calc(_,none,q,rfl,rfl,aa7)
 |some dx=>
  let(fs,z):=g dx rfl;let(_,(o,_,_,b,_),_):=Kn (I.aY dx _ z);calc(_,some o,q,rfl,rfl,b)
theorem AH{os:OsState}(b:h.get? C=some (excClassObj nm q C N bs (.ref B::uG) true sn sub ab col dd k0 k1 k2 k3 k5 "ValueError.__new__"))(c:h.get? e=some a)(f:a.cls=.ref C)(i:Q ⟨⟩ (h,g,d,t,os)):
  wpAny M A (checkBuiltinCall "ValueError.__init__" (.ref e::rest,[])) Q E (h,g,d,t,os):=by
 have a:=zA3;have j:(Value.ref C::.ref B::uG).contains (.type "ValueError")=true:=rfl;have k:=a.noStar;simp only[checkBuiltinCall,a.initKind,a.initSplit,a.initRow]
 repeat (first|(with_reducible calc aa5 c ?_;rw[f])|with_reducible calc aa5 b ?_|(with_reducible calc acJ b ?_;rw[j])|wp_step)
 calc wpAny_onRaise ?_;rw[show ∀(a b:String) (n:Nat),Bind.check (.positional,"*","ValueError",.self,[("args",.varPos,false)]) a b n (List.map (λx=>x.fst) ({pos:=Value.ref e::rest}:Args).kw)=pure ⟨⟩ from
  λa b n=>check_star_args _ _ _ _ _ _]
 calc U' i
theorem AI{os:OsState}{K:W.Frag}(X:K.In h)(c:h.get? C=some (excClassObj nm q C N bs (.ref B::uG) true sn sub ab col dd k0 k1 k2 k3 k5 "ValueError.__new__"))(j:W.findIn K (.ref C) "__init__"=some (some (.builtin "ValueError.__init__")))(k:∀h' a,a[1]?=some .none->(∀b o,h.get? b=some o->h'.get? b=some o)->h'.get? (h.objs.size+1)=some ((.ref C,none,.fields a,#[]):Obj)->Q (.done (.ret (.ref (h.objs.size+1)))) (h',g,d,t,os))(e:rest.length<=sizeLine):
    wpAny (model prog w) A (Builtin.«type.__call__» (.ref C::rest,[])) Q E (h,g,d,t,os):=by
  have f:=zA3
  repeat (first|with_reducible calc aa5 c ?_|with_reducible calc wpAny_madeBy_exc c ?_|wp_step)
  calc codeAny_call_builtin_code (Code.quiet_builtin _ f.quiet) (Dl c ?_);calc GY c ?_ e;show wpAny _ _ _ _ _ _;have i:∀b o,h.get? b=some o->((h.push {cls:=.type "tuple",data:=.seq rest.toArray}).push {cls:=.ref C,data:=.fields #[.ref h.objs.size,.none,.none,.none,.bool false,.none]}).get? b=some o:=
    λb o e=>P' _ (P' _ e)
  have a:=i _ _ c;have e:=X.keeps i;have c:((h.push {cls:=.type "tuple",data:=.seq rest.toArray}).push
      {cls:=.ref C,data:=.fields #[.ref h.objs.size,.none,.none,.none,.bool false,.none]}).get? (h.objs.size + 1)=some
      {cls:=.ref C,data:=.fields #[.ref h.objs.size,.none,.none,.none,.bool false,.none]}:=by heap_get
  have i:(Value.ref C::.ref B::uG).contains (.ref C)=true:=nofun;unfold isInstance
  repeat (first|with_reducible calc aa5 c ?_|(with_reducible calc acJ a ?_;rw[i])|wp_step)
  show wpAny _ _ (typeLookup (.ref C) _) _ _ _;calc(W.looks_findIn e j).here ?_;calc abd (J' (wpAny_of_eq (f.init.bind _) ?_));calc J' (wpAny_call (codeAny_call_builtin f.init.plain f.initEntry (AH a c rfl ?_)));wp_walk;refine k _ #[.ref (h.objs.size+2),.none,.none,.none,.bool false,.none] rfl (λb o i=>?_) ?_
  . rw[abL _ _ (abv (Nat.lt_succ_of_lt (aac i)))];exact P' _ (P' _ (P' _ i))
  . rw[acW _ (P' _ c) rfl];simp only[Heap.size_push];rfl
theorem US{os:OsState}{K:W.Frag}(X:K.In h)(a:h.get? C=some (excClassObj nm q C N bs (.ref B::uG) true sn sub ab col dd k0 k1 k2 k3 k5 "ValueError.__new__"))(e:W.findIn K (.ref C) "__init__"=some (some (.builtin "ValueError.__init__")))(f:∀h' c,c[1]?=some .none->(∀b o,h.get? b=some o->h'.get? b=some o)->h'.get? (h.objs.size+1)=some ((.ref C,none,.fields c,#[]):Obj)->Q (.ref (h.objs.size+1)) (h',g,d,t,os))(i:rest.length<=sizeLine):
  wpAny (model prog w) A (call (.ref C) rest) Q E (h,g,d,t,os):=by
 have b:=tc_lookup;have b:=tc_bind (.ref C);have b:((h,g,d,t,os):Shared).TypeIs (.ref C) "type":=(_,a,rfl)
 calc wpAny_call (codeAny_of_tree ?_);show wpAny _ _ (callAny (.ref C) _) _ _ _
 repeat (any_goals (first|assumption|with_reducible calc aa5 a ?_|wp_step))
 calc(rfl,?_);calc codeAny_call_builtin_at (Code.quiet_builtin _ ⋯) entry_typeCall (wpAny_check_type_call_sub a (AI X a e ?_ i));calc f
structure pZ(K:W.Frag)(mg:jP)(x:Str)(C B:Addr):Prop where
 cl:kM K C B
 init:W.findIn K (.ref C) "__init__"=some (some (.builtin "ValueError.__init__"))
 mg:mg x=some (.ref C)
def tX0(C:Addr)(t:TA):TE:=λσ H Q=>t σ H λvs b=>vs.length<=1/\∀a,b a=none->Q (.ref a) (upd b a (XO a C none true))
theorem UT(M:pZ X.K X.mg x C B)(I:Inv X pins σ H s)(b:us.length<=1)(h:∀a,H a=none->Q (.ref a) (upd H a (XO a C none true))):
  X⁻¹ (call (.ref C) us) (EP X pins σ Q) X.xe s:=by
 let(d,q,N,f,g,b,i,c,j,k,l,m,n,o,e):=M.cl.ob;let(b,g,d,t,c):=s;have c:H (b.objs.size+1)=none:=I.aY.fresh (ac0 _);calc US (h:=b) I.iQ (I.iQ _ _ e) M.init (λi j d f g=>(V.ref (b.objs.size+1),_,I.laid (a:=b.objs.size+1) f (ac0 _) (RI g λ_=>d),rfl,h _ c)) (by rw[abb];lia)
theorem RJ(M:pZ X.K X.mg x C B)(b:PA X (e::es) t)(a:Gl X x:=by rfl)(c:(x==("__debug__":Str))=false:=by decide)(d:eF e=true:=by rfl)(f:es.all eF=true:=by rfl):PE X (.Call (.Name x p) (e::es) [] pos) (tX0 C t):=by
 calc⟨?_⟩;intro pins s σ H Q I h;calc wpAny_Call_Name_kw (kG I a M.mg ?_ c);calc W.callWith_K (h₀:=X.base) I.ok.mod.CB M.cl.kp (di (b pos pins s σ H _ I h) λc i (j,k,a,r,g,q)=>(a.iQ,?_)) (eU d) (gs f);calc UT M a (by show c.length<=1;rw[<-r.length];calc g) q
end L2
set_option maxHeartbeats 4000000
namespace PySem
variable {a j:Addr}{Q:jD}
theorem tx(b:s.heap.IsTupleIter j a n)(f:s.heap.IsTuple a c)(h:c[n]?=some v)(q:∀g,g.IsTupleIter j a (n+1)->Heap.SameBut j s.heap g->Q v {s with heap:=g}):wpAny (model prog w) A (Builtin.SmallTypes.nextOf (.ref j)) Q E s:=by
 let(g,e,c,d):=id b;let(k,g,_,l,i):=f;unfold Builtin.SmallTypes.nextOf;calc J' (acy (name:=Str.ofString "__next__") b.typeIs F.slot_tuple_iterator_next (acU F.slot_tuple_iterator_next b.typeIs F.entry_tuple_iterator_next ?_ (F.args_tuple_iterator_next_1 _)));calc J' (m:=field (.ref j) 0) (aaY e d (x:=.ref a) rfl ?_);show wpAny _ _ (if (Value.ref a==Value.none)=true then _ else _) _ _ _;rw[if_neg (by calc X')];calc J' (m:=field (.ref j) 1) (aaY e d (x:=.int n 0) rfl ?_);calc J' (m:=seqItems? (.ref a)) (ac7 g i ?_);simp only[Int.toNat_natCast,h];calc J' (wpAny_setField e d nofun (U' (v,rfl,U' (q _ (_,acW _ e (Obj.isFreed_of_fields (Obj.data_mapFields d _)),(Obj.cls_mapFields ..).trans c,?_) (Heap.SameBut.update ..)))));rw[Obj.data_mapFields d];simp[rawInt]
theorem uH(f:A.handled=none)(b:s.heap.IsTupleIter j a n)(h:s.heap.IsTuple a c)(i:c[n]?=none)(q:∀g e,Heap.ExtBut j s.heap g->(∃o,g.get? e=some o/\o.cls=.type "StopIteration")->E (.ref e) {s with heap:=g}):wpAny (model prog w) A (Builtin.SmallTypes.nextOf (.ref j)) Q E s:=by
 let(g,e,c,d):=id b;let(k,c,_,l,g):=h;unfold Builtin.SmallTypes.nextOf;calc J' (acy (name:=Str.ofString "__next__") b.typeIs F.slot_tuple_iterator_next (acU F.slot_tuple_iterator_next b.typeIs F.entry_tuple_iterator_next ?_ (F.args_tuple_iterator_next_1 _)));calc J' (m:=field (.ref j) 0) (aaY e d (x:=.ref a) rfl ?_);show wpAny _ _ (if (Value.ref a==Value.none)=true then _ else _) _ _ _;rw[if_neg (by calc X')];calc J' (m:=field (.ref j) 1) (aaY e d (x:=.int n 0) rfl ?_);calc J' (m:=seqItems? (.ref a)) (ac7 c g ?_);simp only[Int.toNat_natCast,i];calc J' (wpAny_rule (J' (wpAny_setField e d nofun (J' (m:=newExc (.type "StopIteration") []) ?_))));simp only[newExc,newTuple];calc J' (acD (J' (m:=firstArgMember _ _) (wpAny_of_eq (a:=Value.none) (by first|rfl|(simp only[firstArgMember];rfl)) (acD ?_ (by size_fits)))) (by size_fits));simp only[raiseNew];refine J' (wpAny_handled ?_)
 first|rw[show A.in1.handled=none from f]|rw[f]
 calc J' (U' (wpAny_throw (q _ _ (((Heap.SameBut.update ..).extBut.push _).push _) (_,aai _ rfl,rfl))))
theorem Draws.tup{prog:Program}{w:World}{A:Around}(f:A.handled=none)(j a:Addr)(l:a≠j)(c:Array Value):
  Draws prog w A j [j,a] c.size (λi v=>c[i]?=some v) (λi h=>h.IsTupleIter j a i/\h.IsTuple a c) where
 live:=λ_ _ b=>let ⟨o,d,_⟩:=b.1;(o,d)
 frame:=λ_ _ _ b k=>(b.1.at λo e=>k j nofun o e,b.2.at λo e=>k a nofun o e)
 item:=λi s Q E d b q=>tx b.1 b.2 (v:=c[i]) (by simp[d]) λg h e=>q _ g s.toks (by simp[d]) (h,b.2.extBut e.extBut l) e
 done:=λs Q E b q=>uH f b.1 b.2 nofun q
def Dp(b:Bool)(h:Heap)(a:Addr)(c:Array Value):Prop:=if b=true then h.IsList a c else h.IsTuple a c
def qS(b:Bool)(h:Heap)(j a:Addr)(n:Nat):Prop:=if b=true then h.IsListIter j a n else h.IsTupleIter j a n
theorem qS.at(x:qS b h j a n)(k:∀o,h.get? j=some o->h'.get? j=some o):qS b h' j a n:=by
 cases b
 .exact Heap.IsTupleIter.at x k
 .calc Heap.IsListIter.at x k
theorem qS.obj(x:qS b h j a n):∃o,h.get? j=some o/\∀v,o.data≠.cell v:=by
 cases b<;>(let(o,e,c,d):=x;calc(o,e,λv z=>by rw[d]at z;cases z))
theorem Draws.sq(d:A.handled=none)(b:Bool)(j a:Addr)(e:a≠j)(c:Array Value):
  Draws prog w A j [j,a] c.size (λi v=>c[i]?=some v) (λi h=>qS b h j a i/\Dp b h a c):=by
 cases b
 .exact Draws.tup d j a e c
 .calc Draws.list d j a e c
end PySem
namespace PySem
structure ZA(z ti to i1 i2:Addr)(f1 f2:List Addr):Prop where
 a1:ti≠z
 a2:to≠z
 a3:i1≠z
 a4:i2≠z
 a5:ti≠to
 a6:ti≠i1
 a7:ti≠i2
 a8:to≠i1
 a9:to≠i2
 a10:i1≠i2
 b1:z∉f1
 b2:to∉f1
 b3:i2∉f1
 c1:z∉f2
 c2:to∉f2
 c3:i1∉f2
theorem GZ{Q:jD}(Z:ZA z ti to i1 i2 f1 f2)(B:Draws prog w A i1 f1 n1 P1 S1)(C:Draws prog w A i2 f2 n2 P2 S2)(d:IsZip s.heap z ti to .none)(i:IsPair s.heap ti (.ref i1) (.ref i2))(u:IsPair s.heap to a b)(l:S1 k s.heap)(F:S2 k s.heap)(n:k<n1)(G:k<n2)(q:∀x y g e,P1 k x->P2 k y->IsZip g z ti to (rawInt s.heap.objs.size)->IsPair g to x y->S1 (k + 1) g->S2 (k + 1) g->IsPair g s.heap.objs.size x y->g.objs.size=s.heap.objs.size + 1->
   (∀c o,c≠z->c≠to->c≠i1->c≠i2->s.heap.get? c=some o->g.get? c=some o)->Q (.ref s.heap.objs.size) {s with heap:=g,toks:=e}):
  wpAny (model prog w) A (Builtin.«zip.__next__» ([.ref z],[])) (λe s'=>∃v,e=.done (.ret v)/\Q v s') E s:=by
 calc J' (m:=field (.ref z) 2) (aaY d rfl (x:=.bool false) rfl (J' (m:=field (.ref z) 3) (aaY d rfl (x:=.ref ti) rfl ?_)));calc J' (ac7 i rfl (J' (m:=Builtin.SmallTypes.ownedTupleIsFree (.ref z)) ?_));unfold Builtin.SmallTypes.ownedTupleIsFree;calc J' (aaY d rfl (x:=.none) rfl (U' ?_));simp only[if_true];refine J' (wpAny_rule (J' (aaY d rfl (x:=.ref to) rfl (J' (wpAny_setField_rec d nofun λj p r=>?_)))))
 replace p:IsZip j z ti to .ellipsis:=p
 calc J' ?_;simp only[List.zipIdx_cons,List.zipIdx_nil,List.forIn_cons,List.forIn_nil];calc J' (J' (wpAny_onRaise (J' (m:=Builtin.SmallTypes.nextOf (.ref i1)) ?_)));refine B.item k _ _ _ n (B.frame _ _ _ l λc g o e=>r.extBut c o (λh=>Z.b1 (h▸g)) e) λx d l L J i=>U' ?_
 replace i:Heap.SameBut i1 j d:=i
 have l:IsPair d to a b:=i.extBut _ _ Z.a8 (r.extBut _ _ Z.a2 u);refine J' (ac7 l rfl (J' (wpAny_updateSeq_pair l λn t j=>J' (wpAny_letGo (U' ?_)))))
 replace t:IsPair n to x b:=t
 replace j:Heap.SameBut to d n:=j
 calc J' (J' (wpAny_onRaise (J' (m:=Builtin.SmallTypes.nextOf (.ref i2)) ?_)));refine C.item k _ _ _ G (C.frame _ _ _ F λc g o e=>j.extBut c o (λh=>Z.c2 (h▸g)) (i.extBut c o (λh=>Z.c3 (h▸g)) (r.extBut c o (λh=>Z.c1 (h▸g)) e))) λy u d M K l=>U' ?_
 replace l:Heap.SameBut i2 n u:=l
 have F:IsPair u to x b:=l.extBut _ _ Z.a9 t;refine J' (ac7 F rfl (J' (wpAny_updateSeq_pair F λd v n=>J' (wpAny_letGo (U' (U' ?_))))))
 replace v:IsPair d to x y:=v
 replace n:Heap.SameBut to u d:=n
 calc J' (ac7 v rfl (J' (wpAny_newTuple ?_)));have t:d.objs.size=s.heap.objs.size:=by rw[n.1,l.1,j.1,i.1,r.1]
 have u:IsZip d z ti to .ellipsis:=n.extBut _ _ Z.a2.symm (l.extBut _ _ Z.a4.symm (j.extBut _ _ Z.a2.symm (i.extBut _ _ Z.a3.symm p)));have N:∀c o,c≠z->c≠to->c≠i1->c≠i2->s.heap.get? c=some o->d.get? c=some o:=λc o p F G I e=>n.extBut _ _ F (l.extBut _ _ I (j.extBut _ _ F (i.extBut _ _ G (r.extBut _ _ p e))));have O:S1 (k+1) d:=B.frame _ _ _ J λc g o e=>n.extBut c o (λh=>Z.b2 (h▸g)) (l.extBut c o (λh=>Z.b3 (h▸g)) (j.extBut c o (λh=>Z.b2 (h▸g)) e));have P:S2 (k+1) d:=C.frame _ _ _ K λc g o e=>n.extBut c o (λh=>Z.c2 (h▸g)) e;have l:z<d.objs.size:=aac u;calc J' (m:=Builtin.SmallTypes.ownedTupleHandOut (.ref z) (.ref d.objs.size)) ?_;unfold Builtin.SmallTypes.ownedTupleHandOut;have i:IsZip (d.push {cls:=.type "tuple",data:=.seq #[x,y]}) z ti to .ellipsis:=P' _ u;refine J' (wpAny_setField_rec i nofun λn j J=>?_)
 replace j:IsZip n z ti to (rawInt d.objs.size):=j
 refine wpAny_setField_rec j nofun λn i u=>?_
 replace i:IsZip n z ti to (rawInt d.objs.size):=i
 have r:∀c o,c≠z->d.get? c=some o->n.get? c=some o:=λc o p e=>u.extBut _ _ p (J.extBut _ _ p (P' _ e));have K:IsPair n d.objs.size x y:=u.extBut _ _ (abv l) (J.extBut _ _ (abv l) (aai _ rfl));have j:n.objs.size=d.objs.size+1:=by rw[u.1,J.1,aaT]
 rw[t]at i K j;calc U' (_,rfl,?_);show Q (.ref d.objs.size) _;rw[t];calc q x y n _ L M i (r _ _ Z.a2 v) (B.frame _ _ _ O λc g o e=>r c o (λh=>Z.b1 (h▸g)) e) (C.frame _ _ _ P λc g o e=>r c o (λh=>Z.c1 (h▸g)) e) K j λc o p F G I e=>r c o p (N c o p F G I e)
theorem Kq(Z:ZA z ti to i1 i2 f1 f2)(J:Draws prog w A i1 f1 n1 P1 S1)(P:Draws prog w A i2 f2 n2 P2 S2)(r:IsZip s.heap z ti to .none)(T:IsPair s.heap ti (.ref i1) (.ref i2))(U:IsPair s.heap to a b)(W:S1 k s.heap)(X:S2 k s.heap)(l:k=n1\/(k<n1/\k=n2))(q:∀g e Y,(∀c o,c≠z->c≠to->c≠i1->c≠i2->s.heap.get? c=some o->g.get? c=some o)->(∃o,g.get? e=some o/\o.cls=.type "StopIteration")->E (.ref e) {s with heap:=g,toks:=Y}):
  wpAny (model prog w) A (Builtin.«zip.__next__» ([.ref z],[])) Q E s:=by
 calc J' (m:=field (.ref z) 2) (aaY r rfl (x:=.bool false) rfl (J' (m:=field (.ref z) 3) (aaY r rfl (x:=.ref ti) rfl ?_)));calc J' (ac7 T rfl (J' (m:=Builtin.SmallTypes.ownedTupleIsFree (.ref z)) ?_));unfold Builtin.SmallTypes.ownedTupleIsFree;calc J' (aaY r rfl (x:=.none) rfl (U' ?_));simp only[if_true];refine J' (wpAny_rule (J' (aaY r rfl (x:=.ref to) rfl (J' (wpAny_setField_rec r nofun λK F t=>?_)))))
 replace F:IsZip K z ti to .ellipsis:=F
 calc J' ?_;simp only[List.zipIdx_cons,List.zipIdx_nil,List.forIn_cons,List.forIn_nil];calc J' (J' (wpAny_onRaise (J' (m:=Builtin.SmallTypes.nextOf (.ref i1)) ?_)));have R:=J.frame _ _ _ W λc u o e=>t.extBut c o (λh=>Z.b1 (h▸u)) e;rcases l with l|⟨l1,l2⟩
 .subst l;calc J.done _ _ _ R λp x d L=>?_;let(M,j,v):=L
  replace d:Heap.ExtBut i1 K p:=d
  have S:IsZip p z ti to .ellipsis:=d _ _ Z.a3.symm F;have n:x≠z:=λy=>by subst y;rw[S]at j;cases j;simp at v
  exact wpAny_setField_rec S nofun λG _ i=>q G x s.toks (λc o B _ N _ y=>i.extBut _ _ B (d _ _ N (t.extBut _ _ B y))) (M,i.extBut _ _ n j,v)
 .subst l2;refine J.item k _ _ _ l1 R λx p O g l d=>U' ?_
  replace d:Heap.SameBut i1 K p:=d
  have g:IsPair p to a b:=d.extBut _ _ Z.a8 (t.extBut _ _ Z.a2 U);refine J' (ac7 g rfl (J' (wpAny_updateSeq_pair g λG l i=>J' (wpAny_letGo (U' ?_)))))
  replace i:Heap.SameBut to p G:=i
  calc J' (J' (wpAny_onRaise (J' (m:=Builtin.SmallTypes.nextOf (.ref i2)) ?_)));calc P.done _ _ _ (P.frame _ _ _ X λc u o e=>i.extBut c o (λh=>Z.c2 (h▸u)) (d.extBut c o (λh=>Z.c3 (h▸u)) (t.extBut c o (λh=>Z.c1 (h▸u)) e))) λg x I L=>?_;let(M,j,v):=L
  replace I:Heap.ExtBut i2 G g:=I
  have C:IsZip g z ti to .ellipsis:=I _ _ Z.a4.symm (i.extBut _ _ Z.a2.symm (d.extBut _ _ Z.a3.symm F));have n:x≠z:=λy=>by subst y;rw[C]at j;cases j;simp at v
  calc wpAny_setField_rec C nofun λg _ e=>q g x O (λc o B l N p y=>e.extBut _ _ B (I _ _ p (i.extBut _ _ l (d.extBut _ _ N (t.extBut _ _ B y))))) (M,e.extBut _ _ n j,v)
theorem wx(Z:ZA z ti to i1 i2 f1 f2)(f:Draws prog w A.in1 i1 f1 n1 P1 S1)(h:Draws prog w A.in1 i2 f2 n2 P2 S2)(e:IsZip s.heap z ti to .none)(i:IsPair s.heap ti (.ref i1) (.ref i2))(j:IsPair s.heap to a b)(l:S1 k s.heap)(m:S2 k s.heap)(n:k<n1)(p:k<n2)(q:∀x y g d,P1 k x->P2 k y->IsZip g z ti to (rawInt s.heap.objs.size)->IsPair g to x y->S1 (k + 1) g->S2 (k + 1) g->IsPair g s.heap.objs.size x y->g.objs.size=s.heap.objs.size + 1->
   (∀c o,c≠z->c≠to->c≠i1->c≠i2->s.heap.get? c=some o->g.get? c=some o)->Q (some (.ref s.heap.objs.size)) {s with heap:=g,toks:=d}):
  wpAny (model prog w) A (pyNext (.ref z)) Q E s:=by
 have c:s.TypeIs (.ref z) "zip":=(_,e,rfl)
 unfold pyNext;exact J' (wpAny_attempt (acy (name:=Str.ofString "__next__") c F.slot_zip_next (acU F.slot_zip_next c F.entry_zip_next
  (GZ Z f h e i j l m n p λx y g d c o r t u v B C D=>U' (q x y g d c o r t u v B C D)) (F.args_zip_next_1 _))))
theorem yR(Z:ZA z ti to i1 i2 f1 f2)(h:Draws prog w A.in1 i1 f1 n1 P1 S1)(i:Draws prog w A.in1 i2 f2 n2 P2 S2)(d:IsZip s.heap z ti to .none)(j:IsPair s.heap ti (.ref i1) (.ref i2))(m:IsPair s.heap to a b)(n:S1 k s.heap)(p:S2 k s.heap)(l:k=n1\/(k<n1/\k=n2))(q:∀g f,(∀c o,c≠z->c≠to->c≠i1->c≠i2->s.heap.get? c=some o->g.get? c=some o)->Q none {s with heap:=g,toks:=f}):wpAny (model prog w) A (pyNext (.ref z)) Q E s:=by
 have c:s.TypeIs (.ref z) "zip":=(_,d,rfl)
 unfold pyNext;refine J' (wpAny_attempt (acy (name:=Str.ofString "__next__") c F.slot_zip_next (acU F.slot_zip_next c F.entry_zip_next
  (Kq Z h i d j m n p l λg e f c (o,r,t)=>?_) (F.args_zip_next_1 _))))
 calc J' (wpAny_isInstance (T:="StopIteration") (b:=true) (o,r,t) isSubtype_stop (U' (q _ _ c)))
noncomputable def N7(b:Bool)(a:Addr):Obj:=if b=true then {cls:=.type "list_iterator",data:=.fields #[.ref a,.int 0 0]} else {cls:=.type "tuple_iterator",data:=.fields #[.ref a,.int 0 0]}
noncomputable abbrev zz1(h:Heap)(b:Bool)(l:Addr):Heap:=h.push (N7 b l)
noncomputable abbrev zz2(h:Heap)(b c:Bool)(l m:Addr):Heap:=(zz1 h b l).push (N7 c m)
noncomputable abbrev zz3(h:Heap)(b c:Bool)(l m:Addr):Heap:=(zz2 h b c l m).push {cls:=.type "tuple",data:=.seq #[.ref h.objs.size,.ref (zz1 h b l).objs.size]}
noncomputable abbrev zz4(h:Heap)(b c:Bool)(l m:Addr):Heap:=(zz3 h b c l m).push {cls:=.type "tuple",data:=.seq #[.none,.none]}
noncomputable abbrev UX(h:Heap)(b c:Bool)(l m:Addr):Heap:=(zz4 h b c l m).push {cls:=.type "zip",data:=.fields #[.none,.bool false,.bool false,.ref (zz2 h b c l m).objs.size,.ref (zz3 h b c l m).objs.size]}
theorem G8(b c:Bool)(l m:Addr)(xs i:Array Value):
  Meets (Builtin.«zip.__new__» ([.type "zip",.ref l,.ref m],[])) (λ_ R s=>Dp b s.heap l xs/\Dp c s.heap m i/\R (.ok (.ret (.ref (zz4 s.heap b c l m).objs.size))) {s with heap:=UX s.heap b c l m}):=
 .of_wp λn w A R s h=>by
  let(a,g,d,e,f):=s;let(j,k,h):=h;have n:=sub_zip
  cases b<;>cases c
  .have b:Heap.IsTuple (Shared.heap (a,g,d,e,f)) l xs:=j;have L2:Heap.IsTuple (Shared.heap (a.push {cls:=.type "tuple_iterator",data:=.fields #[.ref l,.int 0 0]},g,d,e,f)) m i:=Heap.IsTuple.push k _;wp_walk using abZ b,abZ L2;exact(_,rfl,h)
  .have b:Heap.IsTuple (Shared.heap (a,g,d,e,f)) l xs:=j;have L2:Heap.IsList (Shared.heap (a.push {cls:=.type "tuple_iterator",data:=.fields #[.ref l,.int 0 0]},g,d,e,f)) m i:=Heap.IsList.push k _;wp_walk using abZ b,ac3 L2;exact(_,rfl,h)
  .have b:Heap.IsList (Shared.heap (a,g,d,e,f)) l xs:=j;have L2:Heap.IsTuple (Shared.heap (a.push {cls:=.type "list_iterator",data:=.fields #[.ref l,.int 0 0]},g,d,e,f)) m i:=Heap.IsTuple.push k _;wp_walk using ac3 b,abZ L2;exact(_,rfl,h)
  .have b:Heap.IsList (Shared.heap (a,g,d,e,f)) l xs:=j;have L2:Heap.IsList (Shared.heap (a.push {cls:=.type "list_iterator",data:=.fields #[.ref l,.int 0 0]},g,d,e,f)) m i:=Heap.IsList.push k _;wp_walk using ac3 b,ac3 L2;calc(_,rfl,h)
theorem uJ(b:Bool)(a:Addr):(N7 b a).isFreed=false:=by cases b<;>rfl
theorem Dq(e:h.get? j=some (N7 b a)):qS b h j a 0:=by
 cases b
 .exact(_,e,rfl,rfl)
 .calc(_,e,rfl,rfl)
theorem Kr(h:Dp b s.heap l xs)(i:Dp c s.heap m f)(q:∀g,IsZip g (s.heap.objs.size + 4) (s.heap.objs.size + 2) (s.heap.objs.size + 3) .none->IsPair g (s.heap.objs.size + 2) (.ref s.heap.objs.size) (.ref (s.heap.objs.size + 1))->
   IsPair g (s.heap.objs.size+3) .none .none->qS b g s.heap.objs.size l 0->qS c g (s.heap.objs.size+1) m 0->g.objs.size=s.heap.objs.size+5->
   (∀d o,s.heap.get? d=some o->g.get? d=some o)->Q (.ref (s.heap.objs.size + 4)) {s with heap:=g}):
  wpAny (model prog w) A (call (.type "zip") [.ref l,.ref m]) Q E s:=by
 calc callType_new F.called_zip ∅ (F.typeCall_zip_2 _ _) (F.newCall_zip_2 _ _) (λa=>F.args_object_init_3 a _ _) F.entry_zip_new (G8 b c l m xs f) (h,i,?_);have e:(zz1 s.heap b l).objs.size=s.heap.objs.size+1:=aaT ..;have a:(zz2 s.heap b c l m).objs.size=s.heap.objs.size+2:=by rw[aaT,e]
 have f:(zz3 s.heap b c l m).objs.size=s.heap.objs.size+3:=by rw[aaT,a]
 have g:(zz4 s.heap b c l m).objs.size=s.heap.objs.size+4:=by rw[aaT,f]
 have n:(UX s.heap b c l m).objs.size=s.heap.objs.size+5:=by rw[aaT,g]
 have h:(UX s.heap b c l m).get? (zz4 s.heap b c l m).objs.size=some _:=aai _ rfl;have i:(UX s.heap b c l m).get? (zz3 s.heap b c l m).objs.size=some _:=P' _ (aai _ rfl);have j:(UX s.heap b c l m).get? (zz2 s.heap b c l m).objs.size=some _:=P' _ (P' _ (aai _ rfl));have k:(UX s.heap b c l m).get? (zz1 s.heap b l).objs.size=some (N7 c m):=P' _ (P' _ (P' _ (aai _ (uJ ..))));have p:(UX s.heap b c l m).get? s.heap.objs.size=some (N7 b l):=P' _ (P' _ (P' _ (P' _ (aai _ (uJ ..)))));show _/\_;rw[a,f,g]at h;rw[e,a]at j;rw[f]at i;rw[e]at k;rw[g];calc((_,h,rfl),q _ h j i (Dq p) (Dq k) n λd o x=>P' _ (P' _ (P' _ (P' _ (P' _ x)))))
theorem uK(l:Addr)(e:Array Value):
  Meets (Builtin.«enumerate.__new__» ([.type "enumerate",.ref l],[])) (λ_ R s=>s.heap.IsTuple l e/\
   R (.ok (.ret (.ref (s.heap.push (N7 false l)).objs.size))) {s with heap:=(s.heap.push (N7 false l)).push {cls:=.type "enumerate",data:=.fields #[.none,.bool false,.ref s.heap.objs.size,rawInt 0,.none,.none]}}):=
 .of_wp λf w A R s h=>by
  let(i,g,d,k,m):=s;let(j,h):=h;have p:=sub_enumerate;have b:Heap.IsTuple (Shared.heap (i,g,d,k,m)) l e:=j;let(n,a,q,r,o):=id j
  replace a:i.get? l=some n:=a
  wp_walk using AutoSeq1.wpAny_loadPart' a;calc wpAny_stack_any λt=>U' ?_;split
  .rename_i c _ _ _ _ _
   cases(c==Value.type "enumerate")
   .wp_walk using AutoSeq1.wpAny_loadPart' a,abZ b;exact(_,rfl,h)
   .wp_walk using AutoSeq1.wpAny_loadPart' a,abZ b;exact(_,rfl,h)
  .wp_walk using AutoSeq1.wpAny_loadPart' a,abZ b;calc(_,rfl,h)
end PySem
namespace L2
open PySem PySem.Spec PyProof.Rows
section
variable {a:Addr}{xs:List V}
section
variable {H:Hp}
theorem Inv.ES{ch:List Addr}(I:Inv X pins σ H s)(d:∀b∈ch,qK X pins H b)(k:∀b o,b∉ch->s.heap.get? b=some o->h'.get? b=some o):Inv X pins σ H {s with heap:=h',toks:=t'}:=by
 have f:∀b u,H b=some u->b∉ch:=λb u e z=>by rw[(d b z).1]at e;cases e
 refine I.step (g':=s.gens) (d':=s.drawn) (ch:=ch) (λb g=>?_) (λb o _ _ a e _=>k b o a e) (λb o _ _ a e _=>(o.slots,k b o a e)) (λ_ _ _ _ n=>n) (λb o a e=>(o,k b o a e)) (λ_ _ e=>e) (λ_ _ _ e=>e) (λb h e=>(#[],by rw[e];simp)) (λm h=>?_) (λb u e=>?_) I.bare
 .let(n,i,p,j,l,m):=d b g;exact(j,i,l,m)
 .let(o,g,i,j,r):=h;exact(o,g,i,k _ o (λz=>(d _ z).2.1 rfl) j,r)
 .calc(I.aY b u e).aL (λc v a q=>k c v ?_ q) (λ_ q=>q) λ_ _ q=>q;rcases a with z | z
  .rw[z];exact f b u e
  .calc f c _ z
theorem Inv.ET{ch:List Addr}(I:Inv X pins σ H s)(h:∀b∈ch,qK X pins H b)(k:∀b o,b∉ch->s.heap.get? b=some o->h'.get? b=some o)(i:s.heap.objs.size<=T)(l:Vals xs g)(p:xs.length<=sizeLine)(q:IsTup h' T g.toArray):Inv X pins σ (upd H T (.tup xs)) {s with heap:=h',toks:=t'}:=by
 have j:∀b u,H b=some u->b∉ch:=λb u e z=>by rw[(h b z).1]at e;cases e
 have d:H T=none:=I.aY.fresh i;have m:∀b o,s.heap.get? b=some o->b≠T:=λb o e=>aak (aae (aac e) i);refine I.step (g':=s.gens) (d':=s.drawn) (ch:=ch) (λb f=>?_) (λb o _ _ a e _=>k b o a e) (λb o _ _ a e _=>(o.slots,k b o a e)) (λb o _ e n=>by rw[ay (m b o e)];calc n) (λb o a e=>(o,k b o a e))
  (λb t e=>by rw[ay (av e d)];calc e) (λb o u e=>by rw[ay (av e d)];calc e) (λb i e=>(#[],by rw[ay (av e d),e];simp)) (λm i=>?_) (λb u e=>?_) I.bare
 .let(w,m,x,n,r,v):=h b f;exact(n,m,r,v)
 .let(o,m,n,v,r):=i;exact(o,m,n,k _ o (λz=>(h _ z).2.1 rfl) v,r)
 .by_cases f:b=T
  .subst f;rw[af] at e
   cases e;exact(p,g,l,q)
  .rw[ay f] at e;refine(I.aY b u e).aL (λc v a q=>k c v ?_ q) (λc q=>by rw[ay (av q d)];calc q) λc t q=>by rw[ay (av q d)];exact q
   rcases a with z|z
   .rw[z];exact j b u e
   .calc j c _ z
def Sq(b:Bool)(K:W.Frag)(H:Hp)(a:Addr)(xs:List V):Prop:=if b=true then aS K H a xs else bI K H a xs
theorem Sq.l{K:W.Frag}(h:H a=some (.lst xs)):Sq true K H a xs:=aS.of h
theorem Sq.t{K:W.Frag}(h:H a=some (.tup xs)):Sq false K H a xs:=bI.of h
theorem Inv.sq(I:Inv X pins σ H s)(h:Sq b X.K H a xs):∃c:List Value,Vals xs c/\Dp b s.heap a c.toArray/\xs.length<=sizeLine:=by
 cases b
 .exact I.tuple h
 .let(c,r,p,z):=I.list h;calc(c,r,p.isList,z)
theorem Inv.Dr(I:Inv X pins σ H s)(h:Sq b X.K H a xs)(h':Sq b X.K H a c):xs=c:=by
 cases b
 .exact I.xc h h'
 .calc I.Al h h'
theorem RK(h:Rd H a u)(c:H b=none):a≠b:=λz=>by
 subst z;rcases h with h|⟨o,h⟩<;>(rw[c]at h;cases h)
theorem Inv.uL(I:Inv X pins σ H s)(h:Sq b X.K H a xs)(f:qK X pins H c):a≠c:=by
 have d:∀o,X.K.lookup a=some o->a≠c:=λo e z=>by
  subst z;have i:=I.ok.mod.CB a o e;rcases f.2.2.2.1 with y|y
  .exact I.ok.Ak a o i y
  .exact absurd (aae (aae (aac i) I.ok.IC) y) (abK _)
 cases b
 .rcases h with h | ⟨o,j,n,g,_⟩
  .exact RK h f.1
  .exact d o g
 .rcases h with h | ⟨o,j,n,g,_⟩
  .exact RK h f.1
  .calc d o g
end
end
noncomputable def RL(b:Bool)(K:W.Frag)(a:Addr):It:=
 (λi H=>∃xs x,Sq b K H a xs/\xs[i]?=some x,λi H y c=>∃T,H T=none/\y=.ref T/\∀xs,Sq b K H a xs->∃x,xs[i]?=some x/\c=upd H T (.tup [.int i,x]),λi H=>∃xs,Sq b K H a xs/\xs.length=i)
noncomputable def Xt(b c:Bool)(K:W.Frag)(a d:Addr):It:=
  (λi H=>∃xs e x y,Sq b K H a xs/\Sq c K H d e/\xs[i]?=some x/\e[i]?=some y,λi H v f=>∃T,H T=none/\v=.ref T/\∀xs e,Sq b K H a xs->Sq c K H d e->∃x y,xs[i]?=some x/\e[i]?=some y/\f=upd H T (.tup [x,y]),
   λi H=>∃xs e,Sq b K H a xs/\Sq c K H d e/\(i=xs.length\/(i < xs.length/\i=e.length)))
theorem AJ:([a,b]:List V).length<=sizeLine:=by show 2<=sizeLine;decide
theorem yS{a:List Value}(h:a[i]?=some u):i<a.toArray.size:=by
 have:=(iF h).1;simpa using this
theorem Ha{P:Program}{w:World}{K:W.Frag}{k:List Expr}{u:Nat}{v:Pos}(b:Bool)(e j a:Addr)(n:e≠j):
  Turn P w K (.Tuple k u v) (RL b K a) [e,j] e (λi h=>(∃d,IsEnum h e j i d)/\qS b h j a i) where
 mem:=by simp
 obj:=λi h l c C=>by
  let((d,g),m):=l;simp only[List.mem_cons,List.not_mem_nil,or_false]at C;rcases C with rfl|rfl
  .exact(_,g,λv z=>by
    have z':Data.fields _=Data.cell v:=z
    cases z')
  .exact m.obj
 keep:=λi h h' l k=>by
  let((d,g),m):=l;exact((d,k e nofun _ g),m.at λo q=>k j nofun o q)
 item:=by
  intro X L M N C i F s σ H E I r l O;subst L M N;let((d,g),m):=l;let(xs,x,t,R):=O;let(G,S,p,hz):=I.sq t;let(u,k,ru):=S.get R;have v:a≠e:=I.uL t (r e nofun);have B:a≠j:=I.uL t (r j nofun);have D:=Draws.sq (prog:=X.prog) (w:=X.w) (A:=X.A.in1) (show X.A.in1.handled=none from I.ok.hd C) b j a B G.toArray;calc wpAny_pyNext_enum_itemD D g (m,p) (yS k) n (by simp[n,Ne.symm v]) λy P Y K ho s1 hT sz T=>?_;have ey:y=u:=by
   have:G.toArray[i]?=some u:=(k:)
   exact Option.some.inj (K.symm.trans this)
  subst ey;calc(_,rfl,wpAny_letOwnedTupleGo_enum ho λv k u=>?_);have K:∀c o,c ∉ [e,j]->s.heap.get? c=some o->v.get? c=some o:=λc o J q=>(u.2 c λz=>J (by simp[z])).trans (T c o (λz=>J (by simp[z])) (λz=>J (by simp[z])) q);have Z:s.heap.objs.size≠e:=abv (aac g);have e:IsTup v s.heap.objs.size ([.int i Y,y]:List Value).toArray:=(_,(u.2 _ Z).trans hT,rfl,_,rfl)
  have v:H s.heap.objs.size=none:=I.aY.fresh (S' _);refine(.ref s.heap.objs.size,upd H s.heap.objs.size (.tup [.int i,x]),I.ET r K (S' _) (.cons (Y,rfl) (.cons ru .nil)) AJ e,rfl,(_,v,rfl,λys P=>(x,by rw[I.Dr P t];calc R,rfl)),((y,?_),?_),λc U=>?_)
  .simpa using k
  .exact s1.1.at λo q=>(u.2 j (Ne.symm n)).trans q
  .have uE:c≠s.heap.objs.size:=by
    simp only[List.mem_cons,List.not_mem_nil,or_false]at U;rcases U with rfl|rfl
    .exact Ne.symm Z
    .let(o,e,_):=m.obj;exact aak (aac e)
   rw[ay uE];exact(r c U).1
 done:=by
  intro X L M N C i F s σ H E I r l O;subst L M N;let((d,g),m):=l;let(xs,t,R):=O;let(G,S,p,hz):=I.sq t;have B:a≠j:=I.uL t (r j nofun);have D:=Draws.sq (prog:=X.prog) (w:=X.w) (A:=X.A.in1) (show X.A.in1.handled=none from I.ok.hd C) b j a B G.toArray;have e:G.toArray.size=i:=by have:=S.length;simp;lia
  refine wpAny_pyNext_enum_endD D g (by rw[e];calc(m,p)) λh' T=>(rfl,I.ES (t':=s.toks) r λc o J q=>T c o (λz=>J (by simp[z])) q)
 self:=λ_ _ _ _ _ l h=>by
  let((d,g),m):=l;calc wpAny_pyIter_enum g h
theorem Hb(e:Dp b s.heap l d)(q:∀g,IsEnum g (s.heap.objs.size+1) s.heap.objs.size 0 .none->qS b g s.heap.objs.size l 0->g.objs.size=s.heap.objs.size+2->(∀c o,s.heap.get? c=some o->g.get? c=some o)->Q (.ref (s.heap.objs.size+1)) {s with heap:=g}):
  wpAny (model prog w) A (call (.type "enumerate") [.ref l]) Q E s:=by
 cases b
 .calc callType_new F.called_enumerate ∅ (F.typeCall_enumerate_1 _) (F.newCall_enumerate_1 _) (λa=>F.args_object_init_2 a _) F.entry_enumerate_new (uK l d) (e,?_);have b:(s.heap.push (N7 false l)).objs.size=s.heap.objs.size+1:=aaT ..;show _/\_;rw[b];have a:=aai (s.heap.push (N7 false l)) (o:={cls:=.type "enumerate",data:=.fields #[.none,.bool false,.ref s.heap.objs.size,rawInt 0,.none,.none]}) rfl;rw[b]at a;refine((_,a,rfl),q _ a (Dq (P' _ (aai _ (uJ ..)))) (by rw[aaT,b]) λc o x=>P' _ (P' _ x))
 .calc call_enumerate_list e q
theorem m5{z a b c d:Addr}:z ∈ [z,a,b,c,d]/\a ∈ [z,a,b,c,d]/\b ∈ [z,a,b,c,d]/\c ∈ [z,a,b,c,d]/\d ∈ [z,a,b,c,d]:=(.head _,.tail _ (.head _),.tail _ (.tail _ (.head _)),.tail _ (.tail _ (.tail _ (.head _))),.tail _ (.tail _ (.tail _ (.tail _ (.head _)))))
theorem in5{P:Addr->Prop}(f:e ∈ [z,a,b,c,d])(g:P z)(h:P a)(i:P b)(j:P c)(k:P d):P e:=by
 simp only[List.mem_cons,List.not_mem_nil,or_false]at f;rcases f with rfl|rfl|rfl|rfl|rfl<;>assumption
theorem no5{z a b c d e:Addr}(f:e ∉ [z,a,b,c,d]):e≠z/\e≠a/\e≠b/\e≠c/\e≠d:=by
 simpa only[List.mem_cons,List.not_mem_nil,or_false,not_or] using f
theorem nd5{z a b c d:Addr}(N:[z,a,b,c,d].Nodup):(z≠a/\z≠b/\z≠c/\z≠d)/\(a≠b/\a≠c/\a≠d)/\(b≠c/\b≠d)/\c≠d:=by
 simpa only[List.nodup_cons,List.mem_cons,List.not_mem_nil,or_false,not_or,List.nodup_nil,not_false_eq_true,and_true] using N
theorem IK{x i a:Addr}(b:x≠i)(c:x≠a):x ∉ [i,a]:=by simp[b,c]
theorem Ks{l:List Value}{i:Nat}(h:l[i]?=some u)(g:l.toArray[i]?=some x):x=u:=by
 have:l.toArray[i]?=some u:=(h:)
 calc Option.some.inj (g.symm.trans this)
theorem Kt{P:Program}{w:World}{K:W.Frag}{es:List Expr}{kt:Nat}{tp:Pos}(b c:Bool)(z r m g j a d:Addr)(N:[z,r,m,g,j].Nodup):
  Turn P w K (.Tuple es kt tp) (Xt b c K a d) [z,r,m,g,j] z (λi h=>IsZip h z r m .none/\IsPair h r (.ref g) (.ref j)/\(∃u v,IsPair h m u v)/\qS b h g a i/\qS c h j d i) where
 mem:=m5.1
 obj:=λi h t e l=>by
  let(G,B,(u,v,J),L,M):=t;refine in5 (P:=λe=>∃o,h.get? e=some o/\∀v,o.data≠.cell v) l (_,G,λv z=>?_) (_,B,λv z=>?_) (_,J,λv z=>?_) L.obj M.obj
  .have k:Data.fields _=Data.cell v:=z
   cases k
  .have k:Data.seq _ _=Data.cell v:=z
   cases k
  .have k:Data.seq _ _=Data.cell v:=z
   cases k
 keep:=λi h h' t k=>by
  let(G,B,(u,v,J),L,M):=t;exact(k z m5.1 _ G,k r m5.2.1 _ B,(u,v,k m m5.2.2.1 _ J),L.at λo q=>k g m5.2.2.2.1 o q,M.at λo q=>k j m5.2.2.2.2 o q)
 item:=by
  intro X hP hw hK hc i pins s σ H E I O t hg;subst hP hw hK;let(G,B,(u0,v0,J),L,M):=t;let(xs,ys,x,y,T,hr,hx,hy):=hg;let(aQ,rv,p,hz):=I.sq T;let(R,rt,pt,hzt):=I.sq hr;let(u,k,ru):=rv.get hx;let(v,n,rv'):=rt.get hy;have C:∀e ∈ [z,r,m,g,j],e≠a:=λe l=>Ne.symm (I.uL T (O e l));have F:∀e ∈ [z,r,m,g,j],e≠d:=λe l=>Ne.symm (I.uL hr (O e l));let((n1,n2,U,Y),(n5,n6,n7),(n8,n9),S):=nd5 N;have hh:X.A.in1.handled=none:=I.ok.hd hc;have D1:=Draws.sq (prog:=X.prog) (w:=X.w) (A:=X.A.in1) hh b g a (Ne.symm (C g m5.2.2.2.1)) aQ.toArray;have D2:=Draws.sq (prog:=X.prog) (w:=X.w) (A:=X.A.in1) hh c j d (Ne.symm (F j m5.2.2.2.2)) R.toArray;have Z:ZA z r m g j [g,a] [j,d]:=(Ne.symm n1,Ne.symm n2,Ne.symm U,Ne.symm Y,n5,n6,n7,n8,n9,S,IK U (C z m5.1),IK n8 (C m m5.2.2.1),IK (Ne.symm S) (C j m5.2.2.2.2),IK Y (F z m5.1),IK n9 (F m m5.2.2.1),IK S (F g m5.2.2.2.1))
  calc wx Z D1 D2 G B J (L,p) (M,pt) (yS k) (yS n) λx' y' h1 tk K py IH aeX s1 s2 hT sz kk=>?_;have ex:x'=u:=Ks k K;have ey:y'=v:=Ks n py;subst ex ey;calc(_,rfl,wpAny_letOwnedTupleGo_zip IH λu v k=>?_);have K:∀e o,e ∉ [z,r,m,g,j]->s.heap.get? e=some o->u.get? e=some o:=λe o l q=>
   have n:=no5 l;(k.2 e n.1).trans (kk e o n.1 n.2.2.1 n.2.2.2.1 n.2.2.2.2 q)
  have n:s.heap.objs.size≠z:=abv (aac G);have Pm:IsTup u s.heap.objs.size ([x',y']:List Value).toArray:=(_,(k.2 _ n).trans hT,rfl,_,rfl)
  have u:H s.heap.objs.size=none:=I.aY.fresh (S' _);refine(.ref s.heap.objs.size,upd H s.heap.objs.size (.tup [x,y]),I.ET O K (S' _) (.cons ru (.cons rv' .nil)) AJ Pm,rfl,
   (_,u,rfl,λK RM AK Y3=>(x,y,by rw[I.Dr AK T];calc hx,by rw[I.Dr Y3 hr];calc hy,rfl)),(v,?_,(_,_,(k.2 m (Ne.symm n2)).trans aeX),s1.1.at λo q=>(k.2 g (Ne.symm U)).trans q,s2.1.at λo q=>(k.2 j (Ne.symm Y)).trans q),λe l=>?_)
  .exact(k.2 r (Ne.symm n1)).trans (kk r _ (Ne.symm n1) n5 n6 n7 B)
  .have u:e≠s.heap.objs.size:=in5 (P:=λe=>e≠s.heap.objs.size) l (Ne.symm n) (aak (aac B)) (aak (aac J)) (let ⟨_,k,_⟩:=L.obj;aak (aac k)) (let ⟨_,k,_⟩:=M.obj;aak (aac k));rw[ay u];exact(O e l).1
 done:=by
  intro X hP hw hK hc i pins s σ H E I O t hg;subst hP hw hK;let(G,B,(u0,v0,J),L,M):=t;let(xs,ys,T,hr,hx):=hg;let(aQ,rv,p,hz):=I.sq T;let(R,rt,pt,hzt):=I.sq hr;have C:∀e ∈ [z,r,m,g,j],e≠a:=λe l=>Ne.symm (I.uL T (O e l));have F:∀e ∈ [z,r,m,g,j],e≠d:=λe l=>Ne.symm (I.uL hr (O e l));let((n1,n2,U,Y),(n5,n6,n7),(n8,n9),S):=nd5 N;have hh:X.A.in1.handled=none:=I.ok.hd hc;have D1:=Draws.sq (prog:=X.prog) (w:=X.w) (A:=X.A.in1) hh b g a (Ne.symm (C g m5.2.2.2.1)) aQ.toArray;have D2:=Draws.sq (prog:=X.prog) (w:=X.w) (A:=X.A.in1) hh c j d (Ne.symm (F j m5.2.2.2.2)) R.toArray;have Z:ZA z r m g j [g,a] [j,d]:=(Ne.symm n1,Ne.symm n2,Ne.symm U,Ne.symm Y,n5,n6,n7,n8,n9,S,IK U (C z m5.1),IK n8 (C m m5.2.2.1),IK (Ne.symm S) (C j m5.2.2.2.2),IK Y (F z m5.1),IK n9 (F m m5.2.2.1),IK S (F g m5.2.2.2.1))
  have a:=rv.length;have a:=rt.length;exact yR Z D1 D2 G B J (L,p) (M,pt) (by simp only[List.size_toArray];lia) λh' tk kk=>(rfl,I.ES O λe o l q=>kk e o (λw=>l (by simp[w])) (λw=>l (by simp[w])) (λw=>l (by simp[w])) (λw=>l (by simp[w])) q)
 self:=λ_ _ _ _ _ t h=>wpAny_pyIter_zip t.1 h
def Ku(K:W.Frag)(a:TA):TI:=λσ H R=>a σ H λvs c=>match vs with
 | [.ref a]=>∃b xs,Sq b K c a xs/\R (RL b K a) c
 |_=>False
def U4(K:W.Frag)(a:TA):TI:=λσ H R=>a σ H λvs e=>match vs with
 | [.ref a,.ref d]=>∃b c xs f,Sq b K e a xs/\Sq c K e d f/\R (Xt b c K a d) e
 |_=>False
theorem iL(n:Gl X "enumerate")(o:X.mg "enumerate"=none)(t:PA X [a] g)(u:starEach [a] X.env=[((false),eval a X.env)]:=by rfl):
  PI X (.Tuple h l m) (.Call (.Name "enumerate" p) [a] [] pos) (Ku X.K g):=by
 calc⟨?_⟩;intro c s σ H R I h;calc Call_ (oj I n o boot_enumerate (acG (di (t pos c s σ H _ I h) λg d l=>?_) (by rw[u];rfl) rfl));let(h,i,e,f,g):=l
 match h,f,g with
 | [.ref a],f,g=>
  let(b,h,v,q):=g
  cases f with
  |cons r w=>
   cases w
   cases r;let(f,g,p,h):=e.sq v;calc Hb p λg f h m l=>wpAny_pyIter_enum f ?_;have m:Inv X c σ i {d with heap:=g}:=e.kept (t':=d.toks) l;calc(_,[d.heap.objs.size+1,d.heap.objs.size],_,_,i,rfl,m,Ha b _ _ a (Nat.succ_ne_self _),((_,f),h),λc j=>?_,q);have k:d.heap.objs.size<=c:=by
    simp only[List.mem_cons,List.not_mem_nil,or_false]at j;rcases j with rfl|rfl
    .exact ac0 _
    .exact S' _
   calc e.Jo k (e.aY.fresh k)
theorem yT(u:Gl X "zip")(v:X.mg "zip"=none)(w:PA X [a,b] h)(x:starEach [a,b] X.env=[((false),eval a X.env),((false),eval b X.env)]:=by rfl)(k:starEach [b] X.env=[((false),eval b X.env)]:=by rfl):
  PI X (.Tuple o s t) (.Call (.Name "zip" p) [a,b] [] pos) (U4 X.K h):=by
 calc⟨?_⟩;intro e s σ H R I h;calc Call_ (oj I u v boot_zip (acG (di (w pos e s σ H _ I h) λp f o=>?_) (by rw[x,k]) (by rw[k];rfl)));let(p,l,i,g,h):=o
 match p,g,h with
 | [.ref a,.ref d],g,h=>
  let(b,c,k,o,y,z,q):=h
  cases g with
  |cons r j=>
   cases j with
   |cons A j=>
    cases j
    cases r
    cases A;let(g,h,j,k):=i.sq y;let(g,o,k,h):=i.sq z;calc Kr j k λg h o p r s u t=>wpAny_pyIter_zip h ?_;have j:Inv X e σ l {f with heap:=g}:=i.kept (t':=f.toks) t;refine(_,[f.heap.objs.size+4,f.heap.objs.size+2,f.heap.objs.size+3,f.heap.objs.size,f.heap.objs.size+1],_,_,l,rfl,j,Kt b c _ _ _ _ _ a d ?_,(h,o,(_,_,p),r,s),λe m=>?_,q)
    .simp
    .have n:f.heap.objs.size<=e:=by
      simp only[List.mem_cons,List.not_mem_nil,or_false]at m;rcases m with rfl|rfl|rfl|rfl|rfl
      .exact ab0 _ _
      .exact ab0 _ _
      .exact ab0 _ _
      .exact S' _
      .exact ab0 _ _
     calc i.Jo n (i.aY.fresh n)
end L2
namespace HT
open PySem PyProof.Rows
theorem p6{lo:Option Int}(b:IsTup s.heap t a)(g:s.heap.IsSliceOf d e f .none)(pl:IsPart e lo)(i:IsPart f c)(f:fm a.size 0 lo=0/\fm a.size a.size c=a.size)(h:Q (.ref t) s):wpAny (model prog w) A (getItem (.ref t) (.ref d)) Q E s:=by
 let(j,k,l,e):=id g;have e:s.TypeIs (.ref d) "slice":=(j,k,l)
 unfold getItem
 try with_reducible refine abd ?_
 first|calc J' (U' ?_)|skip
 refine J' (wpAny_sequenceKey b.typeIs ∅ (J' (acy (name:=Str.ofString "__getitem__") b.typeIs acZ
  (acU acZ b.typeIs entry_tuple_getitem ?_ (args_tuple_getitem _ _)))))
 calc J' (m:=Builtin.Tuple.tupleItemsOf (.ref t)) (tupleItemsOf_ b (J' (wpAny_typeOf e ?_)));rw[if_pos ∅];calc J' (km g pl i ?_);have d:(((fm a.size 0 lo:Nat):Int)==0&&(1:Int)==1&&(fm a.size a.size c-fm a.size 0 lo)==a.size)=true:=by
  rw[f.1,f.2];simp
 show wpAny _ _ (if (((fm a.size 0 lo:Nat):Int)==0&&(1:Int)==1&&(fm a.size a.size c-fm a.size 0 lo)==a.size)=true then _ else _) _ _ s;rw[if_pos d];calc J' (m:=Builtin.Tuple.tupleIsExact (.ref t)) ?_;unfold Builtin.Tuple.tupleIsExact;calc J' (wpAny_typeOf b.typeIs (U' ?_));rw[if_pos ∅];calc J' (wpAny_rule (U' (_,rfl,U' h)))
end HT
namespace L2
open PySem PySem.Spec PyProof.Rows
section
variable {p:Addr}{H:Hp}{Q:VK}{K:W.Frag}
def uSl:V->Option Int->Option Int->Hp->VK->Prop:=λx lo c H Q=>match x with
 | .ref a=>(∃xs,H a=some (.lst xs)/\∀p,H p=none->Q (.ref p) (upd H p (.lst (eD xs lo c))))\/(∃xs,H a=some (.tup xs)/\∀p b,au H b->b p=some (.tup (eD xs lo c))->Q (.ref p) b)
 |_=>False
theorem RN{lo:Option Int}:uSl (.ref a) lo b H Q=((∃xs,H a=some (.lst xs)/\∀p,H p=none->Q (.ref p) (upd H p (.lst (eD xs lo b))))\/(∃xs,H a=some (.tup xs)/\∀p c,au H c->c p=some (.tup (eD xs lo b))->Q (.ref p) c)):=rfl
theorem ae0:YU X uSl:=by
 intro c s σ H x v t u i j w Q I l m n o h
 cases x<;>first
  |calc(show False from h).elim
  |skip
 rename_i a;rcases h with⟨b,d,q⟩|⟨b,d,q⟩
 .exact EG c s σ H _ v t u i j w Q I l m n o (a,b,rfl,aS.of d,q)
 .by_cases k:HT.fm b.length 0 i=0/\HT.fm b.length b.length j=b.length
  .cases l;let(z,r,y,C):=I.tuple (bI.of d);have g:z.toArray.size=b.length:=by rw[aan];exact r.length.symm
   calc("tuple",_,PyProof.Rows.slot_tuple_getitem.lookup,y.typeIs,HT.p6 y m n o (by rw[g];calc k) (.ref a,H,I,rfl,q a H (au.refl H) ?_));have e:eD b i j=b:=by
    unfold eD;rw[k.1,k.2];simp
   rw[e];exact d
  .calc Um c s σ H _ v t u i j w Q I l m n o (a,b,rfl,bI.of d,k,λp B=>q p _ (au.new _ B) af)
theorem uM{lo:Option Expr}(g:PE X e a)(h:PO X lo c)(i:PO X b d):PE X (.Subscript e (.Slice lo b none f) pos) (YV uSl a c d):=Aq ae0 g h i
def uAd:R2:=λx y H Q=>match x,y with
 | .int i,.int j=>Q (.int (i+j)) H
 | .str i,.str j=>i.length+j.length<=sizeLine/\Q (.str (i++j)) H
 | .ref a,.ref b=>(∃xs c,H a=some (.lst xs)/\H b=some (.lst c)/\xs.length + c.length<=sizeLine/\∀p,H p=none->Q (.ref p) (upd H p (.lst (xs++c))))\/
   (∃xs c,H a=some (.tup xs)/\H b=some (.tup c)/\xs.length+c.length<=sizeLine/\∀p d,au H d->d p=some (.tup (xs++c))->Q (.ref p) d)
 |_,_=>False
theorem Kv:uAd (.int i) (.int j) H Q=Q (.int (i+j)) H:=rfl
theorem Kw:uAd (.str i) (.str j) H Q=(i.length+j.length<=sizeLine/\Q (.str (i++j)) H):=rfl
theorem Kx:uAd (.ref a) (.ref b) H Q=((∃xs c,H a=some (.lst xs)/\H b=some (.lst c)/\xs.length + c.length<=sizeLine/\∀p,H p=none->Q (.ref p) (upd H p (.lst (xs++c))))\/
      (∃xs c,H a=some (.tup xs)/\H b=some (.tup c)/\xs.length + c.length<=sizeLine/\∀p d,au H d->d p=some (.tup (xs++c))->Q (.ref p) d)):=rfl
theorem cB:ik X (binaryOp .Add) uAd:=by
 intro c s σ H x y v u Q I d e h
 cases x<;>cases y<;>first
  |calc(show False from h).elim
  |calc T6 c s σ H _ _ v u Q I d e (_,_,rfl,rfl,h)
  |calc CM c s σ H _ _ v u Q I d e (_,_,rfl,rfl,h.1,h.2)
  |skip
 rename_i a b;rcases h with⟨k,l,f,g,m,i⟩|⟨k,l,f,g,m,i⟩
 .exact Uv c s σ H _ _ v u Q I d e (_,_,k,l,rfl,rfl,f,g,m,i)
 .by_cases t:k=[]
  .subst t
   cases d
   cases e;let(S,G,J,_):=I.tuple (bI.of f);let(T,U,K,_):=I.tuple (bI.of g)
   cases G;let((L,M,w,N),A,B,n,C):=id J;let((O,o,q,r),D,E,P,j):=id K;simp only at B C E j;subst B C E j;exact concat_meets (_,A,rfl) (_,D,rfl) noFill_tuple_add seq_tuple_add PySem.F.slot_tuple_add PySem.F.entry_tuple_add (PySem.F.args_tuple_add_2 _ _)
    (tuple_addW0 a b _ _ n P M o N r nofun) (A,D,(.ref b,H,I,rfl,i b H (au.refl H) (g:)))
  .calc OX c s σ H _ _ v u Q I d e (_,_,k,l,rfl,rfl,bI.of f,bI.of g,t,m,λz=>?_,λ_ p R=>i p _ (au.new _ R) af);subst z;calc i a H (au.refl H) (f:)
def Zm(K:W.Frag):List V->Hp->VK->Prop:=λxs H Q=>match xs with
 | [.ref p]=>∃bs:List Bool,aS K H p (bs.map V.bl)/\Q (.bl (bs.all id)) H
 |_=>False
theorem Ky:Zm K [.ref p] H Q=∃bs:List Bool,aS K H p (bs.map V.bl)/\Q (.bl (bs.all id)) H:=rfl
def Zn(K:W.Frag):List V->Hp->VK->Prop:=λxs H Q=>match xs with
 | [.ref p]=>∃bs:List Bool,aS K H p (bs.map V.bl)/\Q (.bl (bs.any id)) H
 |_=>False
theorem Kz:Zn K [.ref p] H Q=∃bs:List Bool,aS K H p (bs.map V.bl)/\Q (.bl (bs.any id)) H:=rfl
theorem yU:∀{bs:List Bool}{us:List Value},Vals (bs.map V.bl) us->us=bs.map Value.bool
 | [],_,.nil=>rfl
 |b::bs,_,.cons r t=>by
  cases r;rw[yU t];rfl
theorem all_range:∀(bs:List Bool),((List.range bs.length).all λi=>bs.getD i false)=bs.all id:=by
 intro bs;induction bs with
 |nil=>rfl
 |cons b r a=>
  rw[abw,List.range_succ_eq_map,List.all_cons,List.all_map,List.all_cons];have:((λi=>(b::r).getD i false) ∘ Nat.succ)=λi=>r.getD i false:=by funext i;simp
  rw[this,a];rfl
theorem any_range:∀(bs:List Bool),((List.range bs.length).any λi=>bs.getD i false)=bs.any id:=by
 intro bs;induction bs with
 |nil=>rfl
 |cons b r a=>
  rw[abw,List.range_succ_eq_map,List.any_cons,List.any_map,List.any_cons];have:((λi=>(b::r).getD i false) ∘ Nat.succ)=λi=>r.getD i false:=by funext i;simp
  rw[this,a];rfl
theorem AL{bs:List Bool}:TruthOf prog w A (λi v=>(bs.map Value.bool).toArray[i]?=some v) (λi=>bs.getD i false):=by
 intro i v s Q E e c;have a:(bs.map Value.bool)[i]?=some v:=(e:)
 rw[K']at a
 cases d:bs[i]? with
 |none=>rw[d]at a;cases a
 |some b=>
  rw[d]at a
  cases a;have:bs.getD i false=b:=by rw[W',d];rfl
  replace c:Q (bs.getD i false) s:=c
  rw[this]at c;calc acA c
theorem iO(d:X.calm=true):eO X (.builtin "all") (Zm X.K):=by
 intro c s σ H f k Q I r h
 match f,r,h with
 | [.ref p],r,h=>
  let(a,g,q):=h;let(u,rfl,i):=Vals.one r
  cases i;let(c,j,b,f):=I.list g;have e:=yU j;subst e;refine call_all_walk (ac3 b.isList (s.heap.objs.size,_,_,_,_,_,λi=>a.getD i false,rfl,Walks.list (show X.A.in1.handled=none from I.ok.hd d) _ p ?_ (a.map Value.bool).toArray,((_,aai _ rfl,rfl,rfl),b.isList.push _),AL,λf g c=>?_))
  .let(o,e,_):=b.isList;exact aak (aac e)
  .have:(a.map Value.bool).toArray.size=a.length:=nofun;rw[this,all_range];calc(.bl _,H,I.kept λb o e=>c b o (by simp[Nat.ne_of_lt (Heap.lt_size e)]) (P' _ e),rfl,q)
theorem Hc(d:X.calm=true):eO X (.builtin "any") (Zn X.K):=by
 intro c s σ H f k Q I r h
 match f,r,h with
 | [.ref p],r,h=>
  let(a,g,q):=h;let(u,rfl,i):=Vals.one r
  cases i;let(c,j,b,f):=I.list g;have e:=yU j;subst e;refine call_any_walk (ac3 b.isList (s.heap.objs.size,_,_,_,_,_,λi=>a.getD i false,rfl,Walks.list (show X.A.in1.handled=none from I.ok.hd d) _ p ?_ (a.map Value.bool).toArray,((_,aai _ rfl,rfl,rfl),b.isList.push _),AL,λf g c=>?_))
  .let(o,e,_):=b.isList;exact aak (aac e)
  .have:(a.map Value.bool).toArray.size=a.length:=nofun;rw[this,any_range];calc(.bl _,H,I.kept λb o e=>c b o (by simp[Nat.ne_of_lt (Heap.lt_size e)]) (P' _ e),rfl,q)
noncomputable def AM:List V->Option (List Value)
 | []=>some []
 | .ty n::r=>(AM r).map (.type n::·)
 |_=>none
theorem AN:∀{xs:List V}{us a:List Value},Vals xs us->AM xs=some a->us=a
  | [],_,_,.nil,h=>by cases h;rfl
  |x::xs,_,a,.cons r t,h=>by
    cases x<;>first
      |cases h
      | (rename_i n
         unfold AM at h;let(b,c,d):=jb h
         cases r;rw[<-d,AN t c])
def Pn(K:W.Frag):List V->Hp->VK->Prop:=λxs H Q=>match xs with
 | [x,.ty n]=>∃t b,iq K H x t/\W.kitOne K t (.type n)=some b/\Q (.bl b) H
 | [x,.ref p]=>∃t b a c,iq K H x t/\H p=some (.tup a)/\AM a=some c/\W.kitAny K t c=some b/\Q (.bl b) H
 |_=>False
theorem KA:Pn K [x,.ty n] H Q=∃t b,iq K H x t/\W.kitOne K t (.type n)=some b/\Q (.bl b) H:=rfl
theorem KC:Pn K [x,.ref p] H Q=∃t b a c,iq K H x t/\H p=some (.tup a)/\AM a=some c/\W.kitAny K t c=some b/\Q (.bl b) H:=rfl
theorem Ds{Q:jD}(I:Inv X pins σ H s)(c:RelV x u)(C:iq X.K H x t)(D:IsTup s.heap m r.toArray)(e:W.kitAny X.K t r=some b)(h:∀x,Q (.bool b) {s with toks:=x}):wpAny (model X.prog X.w) A (call (.builtin "isinstance") [u,.ref m]) Q E s:=by
 let((m,r,b,x),d,v,n,hd):=id D;simp only at v hd;subst v hd
 cases C with
 |bL=>cases(show u=Value.none from c);calc W.kia_tup W.kitx_none I.iQ aa7 d e (λz=>nomatch z) h
 |bl y=>cases(show u=Value.bool y from c);calc W.kia_tup W.kitx_bool I.iQ aa7 d e (λz=>nomatch z) h
 |int i=>let(t,q):=(show ∃t,u=Value.int i t from c);cases q;calc W.kia_tup W.kitx_int I.iQ aa7 d e (λz=>nomatch z) h
 |str y=>let(t,q):=(show ∃t,u=Value.str y t from c);cases q;calc W.kia_tup W.kitx_str I.iQ aa7 d e (λz=>nomatch z) h
 |Rp y=>let(t,q):=(show ∃t,u=Value.float y t from c);cases q;calc W.kia_tup W.kitx_float I.iQ aa7 d e (λz=>nomatch z) h
 | @lst a j f=>
  cases(show u=Value.ref a from c);let(_,_,n,_,g):=(show cy X.prog X.w H s.heap a (.lst j) from I.aY a _ f)
  calc W.kia_tup W.kitx_list I.iQ (_,g,rfl) d e (λz=>nomatch z) h
 | @Cj a F j f=>
  cases(show u=Value.ref a from c);let(_,_,_,n,_,g):=(show cy X.prog X.w H s.heap a (.Cj F (.lst j)) from I.aY a _ f)
  calc W.kia_tup W.kitx_list I.iQ (_,g,rfl) d e (λz=>nomatch z) h
 | @tup a j f=>
  cases(show u=Value.ref a from c);let(_,_,_,p):=(show cy X.prog X.w H s.heap a (.tup j) from I.aY a _ f)
  let(o,g,k,_):=p;calc W.kia_tup W.kitx_tuple I.iQ (o,g,k) d e (λz=>nomatch z) h
 | @dK a l f=>
  cases(show u=Value.ref a from c);let(_,_,b,_,p):=(show cy X.prog X.w H s.heap a (.dK l) from I.aY a _ f)
  let(o,G,J,g,k,_):=p;calc W.kia_tup W.kitx_dict I.iQ (o,g,k.1) d e (λz=>nomatch z) h
 | @dT a l f=>
  cases(show u=Value.ref a from c);let(_,_,j,_,o,G,J,g,k,_):=(show cy X.prog X.w H s.heap a (.dT l) from I.aY a _ f)
  calc W.kia_tup W.kitx_dict I.iQ (o,g,k.1) d e (λz=>nomatch z) h
 | @ins a C b g f B L M N P=>
  cases(show u=Value.ref a from c);let(b,O,_):=pT I.aY f;let(a,J,_):=O.look;calc W.kia_tup (W.kitx_own (B.get _) B.hd L M N P) I.iQ J d e (λz=>nomatch z) h
theorem dJ:eO X (.builtin "isinstance") (Pn X.K):=by
 intro f s σ H g n Q I r h
 match g,r,h with
 | [x,.ty n],r,h=>
  let(t,b,ty,e,q):=h;let(u,i,rfl,a,c):=vals2 r
  cases c;calc xh I a ty e λj=>(.bl b,H,I.tok _,rfl,q)
 | [x,.ref p],r,h=>
  let(t,b,f,g,ty,k,d,e,q):=h;let(u,i,rfl,a,c):=vals2 r
  cases c;let(f,l,m,g):=I.tuple (bI.of k);have o:=AN l d;subst o;calc Ds I a ty m e λj=>(.bl b,H,I.tok _,rfl,q)
end
section
variable {a:Addr}{D:List (Str×V)}
def Zo:V->List V->Hp->VK->Prop:=λx vs H Q=>match x,vs with
 | .ref l,[y]=>∃xs,H l=some (.lst xs)/\xs.length<sizeLine/\Q .bL (upd H l (.lst (xs++[y])))
 |_,_=>False
theorem KD:Zo (.ref l) [y] H Q=∃xs,H l=some (.lst xs)/\xs.length<sizeLine/\Q .bL (upd H l (.lst (xs++[y]))):=rfl
theorem cj:Xm X "list.append" Zo:=by
 intro a s σ H x c v d Q I e b h
 match x,c,b,h with
 | .ref l,[y],b,(c,f,g,h)=>calc xo a s σ H _ _ v d Q I e b (l,c,y,rfl,rfl,f,g,h)
def Zp:V->List V->Hp->VK->Prop:=λx vs H Q=>match x,vs with
 | .ref l,[.ref b]=>∃xs a,H l=some (.lst xs)/\H b=some (.lst a)/\xs.length+a.length<=sizeLine/\Q .bL (upd H l (.lst (xs++a)))
 |_,_=>False
theorem KG:Zp (.ref l) [.ref b] H Q=∃xs a,H l=some (.lst xs)/\H b=some (.lst a)/\xs.length+a.length<=sizeLine/\Q .bL (upd H l (.lst (xs++a))):=rfl
theorem Po:Xm X "list.extend" Zp:=by
 intro a s σ H x b v d Q I e c h
 match x,b,c,h with
 | .ref l,[.ref b],c,(f,g,h,i,j,k)=>calc GO a s σ H _ _ v d Q I e c (l,b,f,g,rfl,rfl,h,i,j,k)
def KH(a b:TE):TS:=λD σ H=>a σ H λx c=>b σ c λy a=>∃l i xs k,x=.ref l/\y=.int i/\a l=some (.lst xs)/\-(2^63)<=i/\i<2^63/\seqIndex? i xs.length=some k/\D.nx σ (upd a l (.lst (xs.eraseIdx k)))
theorem Pp{a:TE}(d:PE X o a)(e:PE X i b):PS X (.Delete [.Subscript o i c] pos) (KH a b):=by
 calc⟨?_⟩;intro pins s σ H D I h;calc wpAny_Delete (wpAny_deleteEach_cons (wpAny_delete_Subscript (di (d pins s σ H _ I h) λu a (x,b,c,f,g)=>di (e pins a σ b _ c g) λd k j=>?_)));let(y,a,m,n,l,i,b,k,p,q,r,v,w,z,A):=j;subst p q;obtain rfl:u=Value.ref l:=f;let(t,rfl):=n;calc JI m r v w z λb a=>wpAny_deleteEach_nil (σ,_,a,A)
structure CD(K:W.Frag)(a:Addr)(D:List (Str×V)):Prop where
 ex:∃o es ep,K.lookup a=some o/\o.ExactDict/\o.data=.dict es ep/\KTD.Rows RelV es.toList D
 ne:(a==sysModules)=false
theorem U5(j:s.heap.get? a=some o)(m:o.data=.dict b ep)(g:KTD.Rows RelV b.toList D)(i:∀d v,KTD.datumAt k D=some d->RelV d v->Q (some v) {s with toks:=s.toks+1})(n:KTD.datumAt k D=none->Q none {s with toks:=s.toks+1}):wpAny (model prog w) A (dictGet a (.str k f)) Q E s:=by
 unfold dictGet
 try with_reducible refine abd ?_
 calc J' (wpAny_pyHash_str (J' (KTD.kt_dictFind_strs (s:={s with toks:=s.toks+1}) j m (by obtain⟨l⟩:=b;simpa using g.exact) ?_)));have c:Q (findBy (λk v=>v.isStr k) b k) {s with toks:=s.toks+1}:=by
  have f:findBy (λk v=>v.isStr k) b k=(b.toList.find? λe=>e.key.isStr k).map (·.val):=by
   obtain⟨l⟩:=b;simp[findBy]
  rw[f]
  cases f:KTD.datumAt k D with
  |some d=>
   let(v,l,h):=g.find_some f;rw[l];calc i d v f h
  |none=>rw[g.find_none f];exact n f
 rw[findBy_of_findIdx?]at c
 cases d:b.findIdx? λe=>e.key.isStr k with
 |none=>rw[d]at c;calc U' c
 |some i=>rw[d]at c;calc J' (wpAny_dictEntries (s:={s with toks:=s.toks+1}) j m (U' c))
theorem Dt(e:o.data=.dict c ep)(f:KTD.Rows RelV c.toList D)(g:(a==sysModules)=false):
  MeetsIn prog w (Builtin.«dict.get» ([.ref a,.str k b],[])) (λ_ R s=>s.heap.get? a=some o/\(∀d v,KTD.datumAt k D=some d->RelV d v->R (.ok (.ret v)) {s with toks:=s.toks+1})/\(KTD.datumAt k D=none->R (.ok (.ret .none)) {s with toks:=s.toks+1})):=
 .of_wp λA R s (T,c,h)=>by
  show wpAny _ _ (dictGet a (.str k b) >>= _) _ _ s;calc J' (U5 T e f (λd v i j=>U' (v,rfl,c d v i j)) λe=>?_);show wpAny _ _ (Builtin.Dict.missed a (.str k b) >>= _) _ _ _;calc J' (wpAny_missed_other g (U' (.none,rfl,h e)))
def KI(D:List (Str×V))(t:TA):TE:=λσ H Q=>t σ H λxs a=>match xs with
 | [.str k]=>Q ((KTD.datumAt k D).getD .bL) a
 |_=>False
theorem Pq(C:CD X.K a D)(r:Gl X n)(v:X.mg n=some (.ref a))(w:PA X [e] t)(x:(n==("__debug__":Str))=false:=by decide)(y:attributeBase (.Name n p) "get" X.env (eval (.Name n p) X.env)=eval (.Name n p) X.env:=by rfl)(z:(b.endLine==d.line)=true:=by rfl)(l:starEach [e] X.env=[((false),eval e X.env)]:=by rfl):PE X (.Call (.Attribute (.Name n p) "get" b) [e] [] d) (KI D t):=by
 calc⟨?_⟩;intro pins s σ H Q I h;let(o,b,n,m,f,A,B):=C.ex;calc wpAny_Call_method_late y (by rw[l];rfl) z rfl (kG I r v ?_ x);have q:s.heap.get? a=some o:=I.iQ a o m;refine("dict","dict.get",PySem.F.plainAttrs_dict,Ts,PySem.F.type_dict_get,(o,q,f.1),λb e=>?_,?_)
 .cases e;exact(o,q,f.2.1)
 have b:=w d pins s σ H _ I h;rw[l]at b ⊢;calc Calls.callWith_builtin rfl (Calls.evalArgs_plain (di b λn E e=>?_));let(b,g,i,j,c):=e
 match b,j,c with
 | [.str k],j,c=>
  let(u,rfl,G):=Vals.one j;let(J,rfl):=G;have e:E.heap.get? a=some o:=i.iQ a o m
  replace c:Q ((KTD.datumAt k D).getD .bL) g:=c
  refine call_meetsIn Ts (o,e,f.1) zA2 (PySem.F.args_dict_get_2 _ _) (Dt A B C.ne) (e,λd v b j=>?_,λe=>?_)
  .exact(d,g,i.tok _,j,by have:=c;rw[b]at this;calc this)
  .calc(.bL,g,i.tok _,rfl,by have:=c;rw[e]at this;calc this)
end
section
variable {x:Str}
theorem gu(a:∃t,X.mg x=some (.int n t))(b:Gl X x)(c:(x==("__debug__":Str))=false:=by decide):PE X (.Name x pos) (tC (.int n)):=by
 let(t,a):=a;calc cP b a (t,rfl) c
structure cn(P:Program)(w:World)(K:W.Frag)(mg:jP)(base:Heap)(C:Addr)(m:Str)(k:Nat)(ps:List Str)(sp:Sp):Prop where
 ex:∃f fd,Meth K C m f/\kI P w K mg base GU k f fd ps sp/\Binds K fd ps []
structure iM(K:W.Frag)(C:Addr)(m qual:Str)(st:Stmt)(ps:List Str):Prop where
 ex:∃f fd,Meth K C m f/\JV K m qual st f fd/\Binds K fd ps []
structure yV(P:Program)(w:World)(K:W.Frag)(mg:jP)(base:Heap)(x:Str)(C:Addr)(k:Nat)(ps:List Str)(sp:Sp):Prop where
 ex:∃f fd,Mk K C f/\kI P w K mg base GU k f fd ps sp/\Binds K fd ps []
 mg:mg x=some (.ref C)
structure Hd(K:W.Frag)(mg:jP)(x:Str)(C:Addr)(qual:Str)(st:Stmt)(ps:List Str):Prop where
 ex:∃f fd,Mk K C f/\JV K "__init__" qual st f fd/\Binds K fd ps []
 mg:mg x=some (.ref C)
theorem iM.ok{K:W.Frag}(T:iM K C m qual a b)(S:aE N b (az a))(c:∀vs H Q E,sp vs H Q E->vs.length=b.length)(e:∀(f:Addr) (d:Value) (A:Around) (outer:List Env) (s:Shared) (H:Hp) (vs:List V) (Q:VK) (E:XK),eZ k (A.deeper (envOfC qual (az a) s.heap.objs.size f d))->sp vs H Q E->
   ∃t,wg (lU GU P w K mg base N qual (az a) f d A outer s H E).ID (cW a) t/\t {nx:=λ_ a=>Q .bL a,rt:=Q} (start N vs) H):cn P w K mg base C m (k + 1) b sp:=by
 let(f,a,M,F,b):=T.ex;calc(f,a,M,F.ok S c (e f),b)
theorem Hd.ok{mg:jP}{K:W.Frag}(T:Hd K mg x C qual a b)(S:aE N b (az a))(c:∀vs H Q E,sp vs H Q E->vs.length=b.length)(e:∀(f:Addr) (d:Value) (A:Around) (outer:List Env) (s:Shared) (H:Hp) (vs:List V) (Q:VK) (E:XK),eZ k (A.deeper (envOfC qual (az a) s.heap.objs.size f d))->sp vs H Q E->
   ∃t,wg (lU GU P w K mg base N qual (az a) f d A outer s H E).ID (cW a) t/\t {nx:=λ_ a=>Q .bL a,rt:=Q} (start N vs) H):yV P w K mg base x C (k + 1) b sp:=by
 let(f,a,M,F,b):=T.ex;calc((f,a,M,F.ok S c (e f),b),T.mg)
theorem eR(D:cn X.prog X.w X.K X.mg X.base C m k ps sp)(c:wj X.K C)(b:eZ j X.A)(d:PE X o to)(g:PA X (e::es) t)(h:k<=j:=by decide)(i:eF e=true:=by rfl)(l:es.all eF=true:=by rfl)(n:eval (.Call (.Attribute o m apos) (e::es) [] pos) X.env=(do
   let a <-eval o X.env
   standAt apos.atName
   let (f,first) <-holding [a] (getMethod a m pl)
   callWith pos f first (backTo pos (starEach (e::es) X.env)) (backToKw pos (keywordEach [] X.env))):=by rfl):
  PE X (.Call (.Attribute o m apos) (e::es) [] pos) (xi C m sp [] E0 to t):=by
 let(f,p,M,F,a):=D.ex;calc OT d c M F (b.mono h) a .nil EL g (eU i) (gs l) n
theorem dW(D:cn X.prog X.w X.K X.mg X.base C m k ps sp)(c:wj X.K C)(b:eZ j X.A)(d:PE X o to)(e:k<=j:=by decide)(g:eval (.Call (.Attribute o m apos) [] [] pos) X.env=(do
   let a <-eval o X.env
   standAt apos.atName
   let (f,first) <-holding [a] (getMethod a m pl)
   callWith pos f first (backTo pos (starEach [] X.env)) (backToKw pos (keywordEach [] X.env))):=by rfl):
  PE X (.Call (.Attribute o m apos) [] [] pos) (xi C m sp [] E0 to GI):=by
 let(f,h,M,F,a):=D.ex;calc JA d c M F (b.mono e) a .nil EL g
theorem EU(D:yV X.prog X.w X.K X.mg X.base x C k ps sp)(a:eZ j X.A)(b:PA X (e::es) t)(c:Gl X x:=by rfl)(d:k+1<=j:=by decide)(g:(x==("__debug__":Str))=false:=by decide)(h:eF e=true:=by rfl)(i:es.all eF=true:=by rfl):PE X (.Call (.Name x p) (e::es) [] pos) (Ex C sp [] E0 t):=by
 let(f,m,M,F,l):=D.ex;calc OU M F (a.mono d) c D.mg l .nil EL b g (eU h) (gs i)
theorem kn{K:W.Frag}{g:TG}{l:TS}{D:Ends}(c:Nat->St->Hp->Prop)(o:c 0 σ H)(j:∀i σ H,c i σ H->Sq b K H a xs)(q:∀i x σ H T,xs[i]?=some x->c i σ H->H T=none->g (.ref T) σ (upd H T (.tup [.int i,x])) λd k=>l {D with nx:=c (i+1),ct:=c (i+1),bk:=D.nx} d k)(r:∀σ H,c xs.length σ H->D.nx σ H):
  ∃W:Nat->Nat->St->Hp->Prop,(∃m,W 0 m σ H)/\∀i m σ H,W i m σ H->
   ((RL b K a).stop i H/\D.nx σ H)\/((RL b K a).go i H/\∃N:St->Hp->Prop,(∀f h,N f h->∃n,n<m/\W (i+1) n f h)/\∀x h,(RL b K a).Rw i H x h->g x σ h λd k=>l {D with nx:=N,ct:=N,bk:=D.nx} d k):=by
 calc(λi m σ H=>m=xs.length-i/\i<=xs.length/\c i σ H,(xs.length,nofun,aam _,o),?_);rintro i m σ H ⟨rfl,b,p⟩;by_cases a:i<xs.length
 .calc .inr ((xs,xs[i],j i σ H p,cJ a),c (i+1),λf h b=>(xs.length-(i+1),(),rfl,a,b),λx h y=>?_);let(T,s,rfl,y):=y;let(x,t,rfl):=y xs (j i σ H p);exact q i x σ H T t p s
 .have e:i=xs.length:=();subst e;calc .inl ((xs,j _ σ H p,rfl),r σ H p)
theorem fb(d:X.calm=true)(a:X.N.Nodup)(e:X.N[i]?=some x)(f:X.N[j]?=some y)(g:Loc X.env.scope x)(h:Loc X.env.scope y)(l:X.fn x=true\/X.env.scope.names.lookup x=some .local:=by grind)(m:X.fn y=true\/X.env.scope.names.lookup y=some .local:=by grind):
  PG X (.Tuple [.Name x b,.Name y c] k pos) (Gx X.K 2 (ki (fM i) (ki (fM j) Gw))):=CH d (iR (aT a e g l) (iR (aT a f h m) yw))
end
end L2
set_option maxHeartbeats 400000
namespace L2
open PySem PySem.Spec PyProof.Rows
noncomputable def vc:V->Value
 | .ref a=>.ref a
 | .ty n=>.type n
 |_=>.none
def Zr(K:W.Frag):List V->Hp->VK->Prop:=λxs H Q=>∃a C B d c b f,xs=[.ref a,c]/\H a=some (XO a C d f)/\(∀e,d=some e->∃g,H e=some (XD e g))/\kM K C B/\(c=.ref (match c with | .ref z=>z|_=>0)\/∃n,c=.ty n)/\W.kitOne K (.ref C) (vc c)=some b/\Q (.bl b) H
theorem KJ:eO X (.builtin "isinstance") (Zr X.K):=by
 intro i s σ H w j Q I r h;let(a,C,B,d,c,b,x,rfl,l,m,o,e,k,q):=h;obtain⟨u,g,rfl,n,p⟩:∃u g,j=u::g/\RelV (.ref a) u/\Vals [c] g:=by cases r with|cons a b=>exact(_,_,rfl,a,b)
 let(t,rfl,f):=p.one
 cases(show u=Value.ref a from n);have v:t=vc c:=by
  rcases e with e|⟨n,e⟩
  .rw[e]at f ⊢;exact f
  .rw[e]at f ⊢;exact f
 subst v;calc Dn I l m o k λa=>(.bl b,H,I.tok _,rfl,q)
end L2
set_option maxHeartbeats 4000000
namespace L2
open PySem PySem.Spec PyProof.Rows
variable {a:Addr}{g:Bool->Bool}{H:Hp}{ix:List (Option Nat)}{Cn:List (TE×TE)}{σ:St}{te:TE}{wi:TI}{tt:TT}{Q:VK}
theorem nv{K:W.Frag}(a:X.K=K):eO X (.builtin "isinstance") (Pn K):=a▸dJ
theorem oy{K:W.Frag}(a:X.K=K):eO X (.builtin "len") (UM K):=a▸aM
theorem p7{K:W.Frag}(a:X.K=K):eO X (.type "tuple") (yK K):=a▸bU
theorem Pr{K:W.Frag}(a:X.K=K)(b:X.A.units+64<cLine):ik X (compareOp .Eq) (UI K):=a▸J9 b
theorem ft{K:W.Frag}{a:Expr}(e:X.K=K)(f:X.A.units+64<cLine)(g:PE X a c)(i:PE X b d)(h:yP b=true:=by rfl):PE X (.Subscript a b pos) (Js (UL K) c d):=e▸ao f g i h
theorem Pt{K:W.Frag}{a:TE}(b:X.K=K)(c:PE X e a)(d:attributeBase e f X.env (eval e X.env)=eval e X.env):PE X (.Attribute e f pos) (OQ K a f):=b▸bP c d
theorem jy{K:W.Frag}{a:Pos}(c:X.K=K)(d:X.calm=true)(e:X.N.Nodup)(f:X.N[i]?=some x)(g:X.N[j]?=some y)(h:Loc X.env.scope x)(l:Loc X.env.scope y)(m:X.fn x=true\/X.env.scope.names.lookup x=some .local:=by grind)(n:X.fn y=true\/X.env.scope.names.lookup y=some .local:=by grind):
  PG X (.Tuple [.Name x a,.Name y b] k pos) (Gx K 2 (ki (fM i) (ki (fM j) Gw))):=c▸fb d e f g h l m n
inductive Zs{α:Sort _}(x:α):Type
 |mk
def ae2(ix:List (Option Nat))(wi:TI)(g:TG)(tt:TT)(te:TE)(_:Zs ((ix),wi,g,tt,te)):TE:=Zb ix wi g tt te
theorem EV{g:TG}:Zb ix wi g tt te=ae2 ix wi g tt te .mk:=rfl
def Zt(wi:TI)(g:TG)(a:TS)(_:Zs ((wi),g,a)):TS:=T4 wi g a
theorem AO{g:TG}{a:TS}:T4 wi g a=Zt wi g a .mk:=rfl
def Pu(a:TT)(b:TS)(_:Zs ((a),b)):TS:=yx a b
theorem uN{a:TT}:yx a b=Pu a b .mk:=rfl
theorem bJ{g:TG}(h:wi σ H λJ a=>∀D,a D=none->lX ix J g tt te σ a Q D):Zb ix wi g tt te σ H Q:=h
def Pw(ix:List (Option Nat))(J:It)(g:TG)(tt:TT)(te:TE)(σ:St)(H:Hp)(Q:VK)(D:Addr)(_:Zs ((ix),J,g,tt,te,σ,H,Q,D)):Prop:=lX ix J g tt te σ H Q D
theorem uO{g:TG}:lX ix J g tt te σ H Q D=Pw ix J g tt te σ H Q D .mk:=rfl
theorem Du:Zg g (.ref a) .bL H Q=Q (.bl (g false)) H:=by
 show Q (.bl (g (decide (V.ref a=.bL)))) H=_;simp
theorem Dv:Zg g .bL .bL H Q=Q (.bl (g true)) H:=by
 show Q (.bl (g (decide (V.bL=.bL)))) H=_;simp
theorem au.Xv{K:W.Frag}(s:au H b)(h:bI K H a xs):bI K b a xs:=by
 rcases h with(h|⟨o,h⟩)|h
 .exact .inl (.inl (s _ _ h))
 .exact .inl (.inr (o,s _ _ h))
 .calc .inr h
theorem ko{α:Type}(x:α)(n:Nat):List.replicate n x++[x]=List.replicate (n+1) x:=by
 rw[List.replicate_succ',]
theorem qT(n:Nat):List.replicate n (V.bl true)=(List.replicate n true).map V.bl:=by simp
theorem cL{K:W.Frag}{P:V->Prop}(h:H a=some (.tup xs))(e:hV xs i=some v)(k:P v):∃xs v,(aS K H a xs\/bI K H a xs)/\hV xs i=some v/\P v:=(xs,v,.inr (bI.of h),e,k)
theorem bH{K:W.Frag}{P:V->Prop}(h:H a=some (.lst xs))(e:hV xs i=some v)(k:P v):∃xs v,(aS K H a xs\/bI K H a xs)/\hV xs i=some v/\P v:=(xs,v,.inl (aS.of h),e,k)
def U9(Cn:List (TE×TE))(_:Zs Cn):TE:=EJ Cn
theorem xD:EJ Cn=U9 Cn .mk:=rfl
theorem Px(h:∀p,H p=none->qQ Cn σ (upd H p (.dK [])) λd b=>b p=some (.dK [])/\∃a:List (Key×V),d=a.map (λc=>((kV c.1),c.2))/\a.length<=15/\Q (.ref p) (upd b p (.dK (oo [] a)))):EJ Cn σ H Q:=h
end L2
set_option maxHeartbeats 400000
namespace L2
open PySem PySem.Spec PyProof.Rows
theorem xE{K:W.Frag}(a:X.K=K):eO X (.builtin "isinstance") (Zr K):=a▸KJ
section
variable {outer:List Env}
def tD(h:Heap)(e:Addr)(T:Option Addr)(d:Value):Prop:=
 ∃a vs,h.get? e=some a/\a.data=.fields vs/\((T=none/\vs[1]?=some .none)\/∃t b c,T=some t/\t≠e/\vs[1]?=some (.ref t)/\h.get? t=some b/\b.data=.fields c/\c[3]?=some d)
structure Chg(S:List Addr)(e:Addr)(T:Option Addr)(h h':Heap):Prop where
 keep:∀b o,b≠e->T≠some b->b∉S->h.get? b=some o->h'.get? b=some o
 slot:∀b o,b≠e->T≠some b->h.get? b=some o->∃sl,h'.get? b=some {o with slots:=sl}
 Zu:∀o vs,h.get? e=some o->o.data=.fields vs->∃RO,h'.get? e=some {o with data:=.fields RO}
 ae4:∀t o,T=some t->h.get? t=some o->∃o',h'.get? t=some o'
 size:h.objs.size<=h'.objs.size
theorem uP{o:Obj}(a:o.data=.fields vs):o.mapFields f={o with data:=.fields (f vs)}:=by
 let(c,d,b,e):=o
 cases a;rfl
theorem entry_at(z:A.frames=some (env::outer))(u:s.heap.FunFrames base (env::outer))(B:env.frame=some L)(q:s.heap.get? e=some i)(n:i.data=.fields vs)(hsz:1<vs.size)(h:∀h' t,s.heap.objs.size<=t->Chg (zV (env::outer)) e none s.heap h'->tD h' e (some t) (rawInt L)->Q ⟨⟩ {s with heap:=h'}):
  wpAny M A (do let a <-frameOf env;let pl <-entryPlaceOf L y;let b <-EntryCells.newEntry d a .none (rawInt L) .none pl;setField (.ref e) 1 b) Q E s:=by
 have r:e∉(env::outer).filterMap (·.frame):=λC=>by
  let(_,o,g,F):=u.mem C;rw[q]at g;injection g with g;subst g;exact F vs n
 calc J' (wpAny_frameOf_fun z u B λc p=>?_);calc J' (wpAny_entryPlaceOf λpl v=>?_);unfold EntryCells.newEntry newFields;calc J' (acD ?_ (v.sizeOk5 _ _ _ _ _));have g:c.get? e=some i:=(p.2.1 e r).trans q;have i:=P' (h:=c) {cls:=.type "traceback",dict:=none,data:=.fields ([d,.ref L,.none,rawInt L,.none]++(if pl.isEmpty then List.replicate 6 Value.none else pl)).toArray} g;have w:c.objs.size≠e:=abv (aac g);have j:=Obj.data_mapFields n (·.setIfInBounds 1 (Value.ref c.objs.size));have k:=acW (Obj.mapFields (·.setIfInBounds 1 (Value.ref c.objs.size))) i (Obj.isFreed_of_fields j);have l:=(abL (c.push {cls:=.type "traceback",dict:=none,data:=.fields ([d,.ref L,.none,rawInt L,.none]++(if pl.isEmpty then List.replicate 6 Value.none else pl)).toArray})
  (Obj.mapFields (·.setIfInBounds 1 (Value.ref c.objs.size))) (Ne.symm w)).trans (aai c rfl)
 have g:∀b o,b≠e->c.get? b=some o->
   ((c.push {cls:=.type "traceback",dict:=none,data:=.fields ([d,.ref L,.none,rawInt L,.none]++(if pl.isEmpty then List.replicate 6 Value.none else pl)).toArray}).update e (Obj.mapFields (·.setIfInBounds 1 (Value.ref c.objs.size)))).get? b=some o:=
  λb o e d=>by
   rw[abL _ _ (Ne.symm e)];exact P' _ d
 refine wpAny_setField i n hsz (h _ c.objs.size (by rw[p.1];calc S' _) (λb o d _ e m=>g b o d ((p.2.1 b e).trans m),λb o d _ m=>?_,λo e m x=>?_,λt o z _=>(nomatch z),?_) ?_)
 .let(e,i):=p.2.2 b o m;exact(e,g b _ d i)
 .rw[q] at m
  cases m;rw[n]at x
  cases x;exact(_,by rw[k,uP n])
 .rw[acg,aaT,p.1];exact ac0 _
 .calc(_,_,k,j,.inr (c.objs.size,_,_,rfl,w,by simp[hsz],l,rfl,by first|(simp;done)|(rcases v with rfl|⟨_,_,_,_,_,_,_,rfl⟩<;>simp)))
theorem Pz(u:A.frames=some (env::outer))(v:s.heap.FunFrames base (env::outer))(m:env.frame=some L)(n:tD s.heap e T .none)(h:∀h' t,s.heap.objs.size<=t->Chg (zV (env::outer)) e T s.heap h'->tD h' e (some t) (rawInt L)->Q ⟨⟩ {s with heap:=h'}):wpAny M A (noteFrame (.ref e) env) Q E s:=by
 let(w,vs,j,g,n):=n;unfold noteFrame;simp only[m];rcases n with⟨rfl,i⟩|⟨t,C,x,rfl,p,i,k,l,w⟩
 .calc J' (aaY j g i ?_);rw[if_neg ∅];exact entry_at u v m j g (Array.getElem?_eq_some_iff.mp i).1 h
 .calc J' (aaY j g i ?_);rw[if_pos (show(Value.ref t !=Value.none)=true from by simp)];calc J' (aaY k l w ?_);rw[if_neg (show ¬((Value.none==rawInt L)=true) from by simp[rawInt])];calc J' (wpAny_setField k l (Array.getElem?_eq_some_iff.mp w).1 ?_);have a:∀b,b≠t->(s.heap.update t (Obj.mapFields (·.setIfInBounds 3 Value.none))).get? b=s.heap.get? b:=λb d=>abL _ _ (Ne.symm d);have y:∀b o,s.heap.get? b=some o->(∀vs,o.data≠.fields vs)->b≠t:=λb o d r q=>by
   rw[q,k]at d;injection d with d;subst d;exact r x l
  have B:=acW (Obj.mapFields (·.setIfInBounds 3 Value.none)) k (Obj.isFreed_of_fields (Obj.data_mapFields l _));refine entry_at u (v.of_keeps λb o d r=>(o,(a b (y b o d r)).trans d,rfl)) m ((a e (Ne.symm p)).trans j) g (Array.getElem?_eq_some_iff.mp i).1 λh' k l c n=>h h' k ?_ ?_ n
  .have:=l;rw[acg]at this;exact this
  .refine(λb o d j k i=>c.keep b o d (λz=>nomatch z) k ((a b (λz=>j (by rw[z]))).trans i),λb o d j i=>c.slot b o d (λz=>nomatch z) ((a b (λz=>j (by rw[z]))).trans i),λo vs i g=>c.Zu o vs ((a e (Ne.symm p)).trans i) g,λb o z i=>?_,?_)
   .cases z;let(a,q):=c.slot t _ p (λz=>nomatch z) B;exact(_,q)
   .have:=c.size;rw[acg]at this;calc this
theorem He(a:tD s.heap e (some t) d)(h:∀h',(∀b o,b≠t->s.heap.get? b=some o->h'.get? b=some o)->h'.objs.size=s.heap.objs.size->tD h' e (some t) .none->Q ⟨⟩ {s with heap:=h'}):wpAny M A (setFlight (.ref e) none) Q E s:=by
 let(n,vs,g,i,a):=a;rcases a with⟨z,_⟩|⟨d,m,p,z,j,k,l,c,q⟩
 .cases z
 cases z;have m:3<p.size:=(Array.getElem?_eq_some_iff.mp q).1;unfold setFlight;calc J' (aaY g i k ?_);rw[if_pos (show(Value.ref t !=Value.none)=true from by simp)];have a:∀b,b≠t->(s.heap.update t (Obj.mapFields (·.setIfInBounds 3 ((none:Option Addr).elim Value.none λf=>rawInt f)))).get? b=s.heap.get? b:=
  λb d=>abL _ _ (Ne.symm d)
 calc wpAny_setField l c m (h _ (λb o d p=>(a b d).trans p) (acg ..) ?_);calc(n,vs,(a e (Ne.symm j)).trans g,i,.inr (t,_,_,rfl,j,k,acW _ l (Obj.isFreed_of_fields (Obj.data_mapFields c _)),Obj.data_mapFields c _,by simp[m]))
section
variable {X:Cx}{pins:jn}{H:Hp}
def AQ(X:Cx)(pins:jn)(H:Hp)(t:Addr):Prop:=H t=none/\X.s₀.heap.objs.size<=t/\t≠X.env.locals/\(∀x c,X.env.cells.lookup x=some c->c≠t)/\∀p∈X.pn++pins,p.1≠t
theorem Inv.Zz(I:Inv X pins σ H s)(h:s.heap.objs.size<=t):AQ X pins H t:=by
 refine(I.aY.fresh h,aaL I.sz h,abv (aae I.lt h),λx c a=>?_,λp b=>?_)
 .let(v,o,d):=I.cell x c a;exact aak (aae (aac d.1) h)
 .calc aak (aae (aac (I.pin p b).1) h)
theorem Inv.chg(I:Inv X pins σ H s)(a:H e=some (XO e C d fl))(c:Chg (zV X.stack) e T s.heap h')(r:∀t,T=some t->AQ X pins H t):Inv X pins σ (upd H e (XO e C d false)) {s with heap:=h'}:=by
 let(y,n,k,_):=yQ I a;let(y,v):=c.Zu _ _ k rfl;have w:∀b u,H b=some u->T≠some b:=λb u q z=>by rw[(r b z).1]at q;cases q
 have x:∀b o,s.heap.get? b=some o->∃k,h'.get? b=some k:=λb o g=>by
  by_cases z:b=e
  .subst z;exact(_,v)
  .by_cases k:T=some b
   .exact c.ae4 b o k g
   .let(n,q):=c.slot b o z k g;exact(_,q)
 have j:∀b,H b=none->b≠e:=λb q z=>by rw[z,a]at q;cases q
 refine I.call (g':=s.gens) (t':=s.toks) (d':=s.drawn) (ch:=T.toList) (λb o g n y k=>c.keep b o (j b n) (λz=>k (by simp[z])) y g,λb o g n _ k=>c.slot b o (j b n) (λz=>k (by simp[z])) g,λb o _ n _=>by rw[ay (j b n)];calc n,λb o g _=>x b o g,λb A q=>?_,λb o u q=>?_,λb j q=>?_) (λb u q=>?_) I.bare (λb l=>?_)
 .rw[ay (λz=>by rw[z,a]at q;cases q)];exact q
 .rw[ay (λz=>by rw[z,a]at q;cases q)];exact q
 .rw[ay (λz=>by rw[z,a]at q;cases q)];exact(#[],by simp[q])
 .by_cases z:b=e
  .subst z;rw[af] at q
   cases q;exact RI v (λz=>nomatch z)
  .rw[ay z] at q;refine(I.aY b u q).aL (λi B f g=>?_) (λi h=>?_) (λi A h=>?_)
   .have m:i≠e/\T≠some i/\i∉zV X.stack:=by
     rcases f with rfl|f
     .exact(z,w _ _ q,λp=>by rw[I.tU _ p]at q;cases q)
     .exact⟨(λz=>by rw[z,a]at f;cases f),w _ _ f,(λp=>by rw[I.tU _ p]at f;cases f)⟩
    exact c.keep i B m.1 m.2.1 m.2.2 g
   .rw[ay (λz=>by rw[z,a]at h;cases h)];exact h
   .rw[ay (λz=>by rw[z,a]at h;cases h)];exact h
 .have e:T=some b:=by
   cases T with
   |none=>simp at l
   |some t=>simp at l;rw[l]
  let(h,a,c,f,g):=r b e;calc(.inr a,c,f,g)
theorem Inv.ae6(I:Inv X pins σ H s)(o:AQ X pins H t)(k:∀b o,b≠t->s.heap.get? b=some o->h'.get? b=some o):Inv X pins σ H {s with heap:=h'}:=
 I.turned (t':=s.toks) k o.1 o.2.2.1 (.inr o.2.1) o.2.2.2.1 o.2.2.2.2
end
def AR(P:Program)(w:World):Jz:=λouter H s E e s'=>∃a C d b t,e=.ref a/\s'.os=s.os/\AllBare s'.gens/\Un (zV outer) [] H b s.heap s'.heap/\nS P w b s'.heap/\b a=some (XO a C d false)/\
 tD s'.heap a (some t) .none/\b t=none/\s.heap.objs.size<=t/\E e none b
theorem AS{σ:St}{outer:List Env}{C:Addr}{pins:jn}{X:Cx}{H:Hp}{fl:Bool}{E1:jD}{d:Option Addr}{L:Addr}{s:Shared}{a:Addr}{T:Option Addr}{Q:Unit->Shared->Prop}(b:X.stack=X.env::outer)(i:X.env.frame=some L)(I:Inv X pins σ H s)(f:H a=some (XO a C d fl))(j:tD s.heap a T .none)(k:∀t,T=some t->AQ X pins H t)(h:∀h' t,Inv X pins σ (upd H a (XO a C d false)) {s with heap:=h'}->tD h' a (some t) (rawInt L)->AQ X pins (upd H a (XO a C d false)) t->s.heap.objs.size<=t->Q ⟨⟩ {s with heap:=h'}):X⁻¹ (noteFrame (.ref a) X.env) Q E1 s:=by
 have e:X.A.frames=some (X.env::outer):=by rw[<-b];exact I.ok.frames
 have l:s.heap.FunFrames X.base (X.env::outer):=by rw[<-b];exact I.stack
 calc Pz e l i j λh' t g c m=>?_;rw[<-b]at c;have e:=I.chg f c k;have o:=I.Zz g;calc h h' t e m (?_,o.2) g;rw[ay (λz=>by have:=o.1;rw[z,f]at this;cases this)];calc o.1
theorem uQ(I:Inv X pins σ H s)(c:tD s.heap a (some t) b)(o:AQ X pins H t)(h:∀h',Inv X pins σ H {s with heap:=h'}->tD h' a (some t) .none->Q ⟨⟩ {s with heap:=h'}):wpAny (model X.prog X.w) A (setFlight (.ref a) none) Q E1 s:=
 He c λh' k _ b=>h h' (I.ae6 o k) b
theorem AU(b:X.stack=X.env::outer)(g:X.outer=outer)(e:X.ex=[])(c:X.env.frame=some L)(I:Inv X pins σ H s)(f:H a=some (XO a C d fl))(h:tD s.heap a T .none)(i:∀t,T=some t->AQ X pins H t)(j:E (.ref a) none (upd H a (XO a C d false))):X⁻¹ (leaving X.env (.ref a)) (λ_ k=>AR X.prog X.w outer X.H₀ X.s₀ E (.ref a) k) E1 s:=by
 unfold leaving;calc J' (AS b c I f h i λk t l m o n=>?_);calc uQ (s:={s with heap:=k}) l m o λb c f=>?_;have b:=c.base;rw[e,Cx.fs,g]at b;calc(a,C,d,_,t,rfl,c.os,c.bare,b,c.aY,af,f,o.1,aaL I.sz n,j)
def Throws(X:Cx)(E:XK):Prop:=∀(pins:jn) (σ:St) (H:Hp) (s:Shared) (a C:Addr) (d:Option Addr),Inv X pins σ H s->H a=some (XO a C d true)->E (.ref a) none (upd H a (XO a C d false))->X.xe (.ref a) s
theorem KN(h:H a=some o):upd H a o=H:=by
 funext b;by_cases z:b=a
 .subst z;rw[af];exact h.symm
 .calc ay z
theorem EW{K:W.Frag}:Throws (lU (AR P w) P w K mg base N qual scope f cd A outer s H E) E:=by
 intro b σ j k a C d I c e;let(g,l,h,i):=yQ I c;calc AU (X:=lU (AR P w) P w K mg base N qual scope f cd A outer s H E) (T:=none) rfl rfl rfl rfl I c (_,g,h,rfl,.inl (rfl,i rfl)) (λt z=>nomatch z) e
theorem Inv.thrown(I:Inv X pins σ H s)(h:AR X.prog X.w X.stack H s E e s'):
  ∃a C d c t,e=.ref a/\Inv X pins σ c s'/\c a=some (XO a C d false)/\tD s'.heap a (some t) .none/\AQ X pins c t/\E e none c:=by
 let(a,C,d,c,t,rfl,f,e,g,i,j,k,l,m,q):=h;have n:Inv X pins σ c s':=I.Ru (ch:=[]) f g i e λb z=>absurd z nofun;calc(a,C,d,c,t,rfl,n,j,k,(l,(I.Zz m).2),q)
theorem yW{K:W.Frag}:Passes (AR P w) (lU (AR P w) P w K mg base N qual scope f cd A outer s H E) E:=by
 intro b σ j k e l I h;let(a,C,d,m,t,rfl,g,c,i,o,q):=I.thrown h;calc AU (X:=lU (AR P w) P w K mg base N qual scope f cd A outer s H E) (T:=some t) rfl rfl rfl rfl g c i (λa z=>by cases z;calc o) (by rw[KN c];calc q)
end
theorem Hf{K:W.Frag}(f:A.handled=none)(h:wpAny M A x (λv a=>∃e C B d vs c,v=.ref e/\K.In a.heap/\kM K C B/\a.heap.get? e=some ((.ref C,d,.fields vs,c):Obj)/\vs[1]?=some .none/\E (.ref e) a) E s):
  wpAny M A (raiseStmt env (some x) none) Q E s:=by
 unfold raiseStmt;calc J' (aaR h (λv a b=>?_) λ_ _ x=>x);let(e,C,B,d,vs,c,rfl,g,h,i,j,k):=b;let(l,q,N,m,n,c,o,d,p,r,s,t,u,v,e):=h.ob;have b:=g _ _ e;have c:(Value.ref C::.ref B::uG).contains (.type "BaseException")=true:=rfl;let(d,g,e,h,l):=a
 repeat (first|with_reducible calc aa5 i ?_|with_reducible calc aa5 b ?_|(with_reducible calc acJ b ?_;rw[c])|wp_step)
 rw[j];calc U' ?_;rw[if_neg ∅];calc U' ?_;calc wpAny_raiseNew_none f k
def KO(K:W.Frag)(E:XK)(a:TE):TS:=λ_ σ H=>a σ H λx b=>∃a C B d,x=.ref a/\b a=some (XO a C d true)/\kM K C B/\E (.ref a) none (upd b a (XO a C d false))
theorem AV(f:X.calm=true)(g:Throws X E)(i:PE X e te):PS X (.Raise (some e) none pos) (KO X.K E te):=by
 calc⟨?_⟩;intro pins s σ H D I h;rw[arm_exec_Raise];calc J' (wpAny_standAt ?_);show wpAny _ _ (raiseStmt X.env (some (do let v <-eval e X.env;standAt pos;pure v)) none) _ _ _;calc Hf (K:=X.K) (I.ok.hd f) (J' (di (i pins s σ H _ I h) λv j (x,k,b,l,a,C,B,d,m,c,n,q)=>J' (wpAny_standAt (U' ?_))));subst m;obtain rfl:v=Value.ref a:=l;let(f,i,m,o):=yQ b c;calc(a,C,B,d,f,i,rfl,b.iQ,n,m,o rfl,g pins σ k j a C d b c q)
section
variable {P:Program}{w:World}{K:W.Frag}{mg:jP}{base:Heap}
theorem JV.Va(F:JV K x qual a f e)(S:aE N c (az a))(d:∀vs H Q E,sp vs H Q E->vs.length=c.length)(g:∀(b:Value) (A:Around) (outer:List Env) (s:Shared) (H:Hp) (vs:List V) (Q:VK) (E:XK),eZ k (A.deeper (envOfC qual (az a) s.heap.objs.size f b))->sp vs H Q E->
   ∃t,wg (lU (AR P w) P w K mg base N qual (az a) f b A outer s H E) (cW a) t/\t {nx:=λ_ a=>Q .bL a,rt:=Q} (start N vs) H):kI P w K mg base (AR P w) (k + 1) f e c sp:=by
 let(i,j,kV,h,l,m,b,n,o,rfl,a,c):=F.ex;calc Rx a c S d λA outer s H vs Q E e f=>g b A outer s H vs Q E e f
structure DefX(P:Program)(w:World)(K:W.Frag)(mg:jP)(base:Heap)(x:Str)(k:Nat)(ps:List Str)(sp:Sp):Prop where
 ex:∃f fd,kI P w K mg base (AR P w) k f fd ps sp/\mg x=some (.ref f)/\W.keepIn K (.ref f)=true/\Binds K fd ps []
theorem cG.Va(T:cG K mg x qual a b)(S:aE N b (az a))(c:∀vs H Q E,sp vs H Q E->vs.length=b.length)(e:∀(f:Addr) (d:Value) (A:Around) (outer:List Env) (s:Shared) (H:Hp) (vs:List V) (Q:VK) (E:XK),eZ k (A.deeper (envOfC qual (az a) s.heap.objs.size f d))->sp vs H Q E->
   ∃t,wg (lU (AR P w) P w K mg base N qual (az a) f d A outer s H E) (cW a) t/\t {nx:=λ_ a=>Q .bL a,rt:=Q} (start N vs) H):DefX P w K mg base x (k + 1) b sp:=by
 let(f,a,F,b,d):=T.ex;calc(f,a,F.Va S c (e f),b,F.kp,d)
end
theorem uR(D:DefX X.prog X.w X.K X.mg X.base x k ps sp)(a:Passes (AR X.prog X.w) X E)(b:eZ j X.A)(c:PA X (e::es) t)(d:Gl X x:=by rfl)(g:k<=j:=by decide)(h:(x==("__debug__":Str))=false:=by decide)(i:eF e=true:=by rfl)(l:es.all eF=true:=by rfl):PE X (.Call (.Name x p) (e::es) [] pos) (uo sp [] E t):=by
 let(f,q,F,m,n,o):=D.ex;calc Ey F (b.mono g) d m n o .nil a c h (eU i) (gs l)
structure PEX(X:Cx)(e:Expr)(t:XK->TE):Prop where
 out:∀(pins:jn) (s:Shared) (σ:St) (H:Hp) (Q:VK) (E:XK) (xe:jD),(∀H1 s1 x s',Inv X pins σ H1 s1->AR X.prog X.w X.stack H1 s1 E x s'->xe x s')->Inv X pins σ H s->t E σ H Q->
  X⁻¹ (eval e X.env) (EP X pins σ Q) xe s
theorem PA.any(a:PA X.ID es t)(I:Inv X pins σ H s)(h:t σ H Q)(pos:Pos):
  X⁻¹ (spliced (backTo pos (starEach es X.env))) (AP X pins σ Q) xe s:=
 aaR (a.out pos pins s σ H Q (I.tf _) h) (λ_ _ (b,c,d,r,q)=>(b,c,d.jJ,r,q)) λ_ _ z=>aaW z
theorem PD(F:kI X.prog X.w X.K X.mg X.base (AR X.prog X.w) k f fd ps sp)(d:eZ k X.A)(g:Binds X.K fd ps [])(i:∀b c x s',Inv X pins σ b c->AR X.prog X.w X.stack b c E x s'->xe x s')(I:Inv X pins σ H s)(r:Vals vs us)(h:sp vs H Q E):X⁻¹ (call (.ref f) us) (EP X pins σ Q) xe s:=by
 have b:(us++[]).length=ps.length:=by rw[aax,<-r.length];exact F.len _ _ _ _ h
 have c:Vals vs (us++[]):=by rw[aax];exact r
 refine wpAny_call (codeAny_mono (F.run X.A X.stack s H (us,[]) (us++[]) vs Q E d I.Uh (g s us I.iQ b) c h) λr s' a=>?_)
 cases r with
 |error e=>calc i H s e s' I a
 |ok j=>
  cases j with
  |ret u=>calc I.after a
  |next=>calc aaW a
  |brk=>calc aaW a
  |cont=>calc aaW a
theorem Vb(D:DefX X.prog X.w X.K X.mg X.base x k ps sp)(b:eZ j X.A)(c:PA X.ID (e::es) t)(d:Gl X x:=by rfl)(g:k<=j:=by decide)(i:(x==("__debug__":Str))=false:=by decide)(l:eF e=true:=by rfl)(m:es.all eF=true:=by rfl):PEX X (.Call (.Name x p) (e::es) [] pos) (λE=>uo sp [] E t):=by
 let(f,fd,F,n,o,u):=D.ex;calc⟨λa s σ H Q E q v I h=>?_⟩;calc wpAny_Call_Name_kw (kG I d n ?_ i);calc W.callWith_K (h₀:=X.base) I.ok.mod.CB o (di (c.any I h pos) λd i (n,s,a,r,q)=>(a.iQ,?_)) (eU l) (gs m);calc PD F (b.mono g) u v a r (by have:=q;simp only[List.append_nil]at this;calc this)
structure PSX(X:Cx)(st:Stmt)(t:XK->TS):Prop where
 out:∀(pins:jn) (s:Shared) (σ:St) (H:Hp) (D:Ends) (E:XK) (xe:jD),(∀H1 s1 x s',Inv X pins σ H1 s1->AR X.prog X.w X.stack H1 s1 E x s'->xe x s')->Inv X pins σ H s->t E D σ H->
  X⁻¹ (exec st X.env) (SP X pins D) xe s
theorem KP(b:PEX X e t)(c:swapsWith e none pos.line X.env=pure false:=by rfl):PSX X (.Expr e pos) (λE=>Am (t E)):=
 ⟨λa s σ H D E d f I h=>wpAny_Expr_any (di (b.out a s σ H _ E d f I h) λv k (x,g,i,l,j)=>(σ,g,i,j)) I.quiet c⟩
structure XBase(K:W.Frag)(B:Addr):Prop where
 ob:∃nm q N bs sn sub ab col dd k0 k1 k2 k3 k5,K.lookup B=some (excClassObj nm q B N bs uG true sn sub ab col dd k0 k1 k2 k3 k5 "ValueError.__new__")
theorem ae7{K:W.Frag}(a:K.In s.heap)(c:kM K C B)(f:XBase K B)(i:s.heap.get? e=some ((.ref C,d,.fields vs,b):Obj))(d:Q true s):wpAny M A (excMatches (.ref e) (.ref B)) Q E s:=by
 let(h,q,N,j,k,b,l,e,m,n,o,p,r,t,g):=c.ob;have b:=a _ _ g;let(c,t,u,e,h,j,k,l,v,m,n,o,p,q,r):=f.ob;have c:=a _ _ r;let(h,g,e,t,f):=s;have e:(Value.ref B::uG).contains (.type "BaseException")=true:=rfl;have a:(Value.ref C::.ref B::uG).contains (.ref B)=true:=nofun;have f:=tc_notTuple;unfold excMatches
 repeat (first|with_reducible calc aa5 i ?_|with_reducible calc aa5 b ?_|with_reducible calc aa5 c ?_|(with_reducible calc acJ b ?_;rw[a])|(with_reducible calc acJ c ?_;rw[e])|wp_step)
 calc d
noncomputable abbrev Cx.qU(X:Cx)(a:Addr):Cx:={X with A:=X.A.mark (some (.ref a)),calm:=false,xe:=λ_ _=>False}
theorem Cx.Ok.qU{X:Cx}(b:X.Ok)(a:Addr):(X.qU a).Ok:=
 (b.mod,b.kind,b.glob,b.blt,b.above,b.inj,b.has,b.TB,(λz=>nomatch z),b.frames,b.Xg,b.YB,b.bs,b.IC,b.Ak,b.CC,b.pS,b.OE)
theorem Inv.qU(I:Inv X pins σ H s)(a:Addr):Inv (X.qU a) pins σ H s:=(I.ok.qU a,I.os,I.bare,I.base,I.loc,I.cell,I.free,I.jv,I.pin,I.aY,I.len)
theorem Inv.yX(b:X.Ok)(I:Inv (X.qU a) pins σ H s):Inv X pins σ H s:=(b,I.os,I.bare,I.base,I.loc,I.cell,I.free,I.jv,I.pin,I.aY,I.len)
theorem tX(I:Inv X pins σ H s)(C:X.N.Nodup)(r:X.N[i]?=some n)(o:X.env.scope.names.lookup n=some .local)(h:∀s',Inv X pins (σ.set i none) H s'->Q ⟨⟩ s'):wpAny M A (do bindName X.env n .none;unbindBehindTheSuite X.env n pos) Q E s:=by
 calc J' (wpAny_bindName (kh I C r (.inl o) (v:=.bL) (u:=.none) rfl (λm a=>?_) (.inr o)));have z:i<σ.length:=by rw[I.len];exact(iF r).1
 let(m,F,G):=id a.loc;have J:X.env.kindOf n=some .local:=o;have B:(X.env.scope.kind == .class||(X.env.scope.kind == .module&&X.env.locals !=X.env.globals))=false:=by rw[I.ok.kind];rfl
 have d:∃u,m n=some u:=by
  let(u,_,q):=G i n .bL r (List.getElem?_set_self z) (.inl o);rcases q with⟨_,e⟩|⟨k,_⟩
  .exact(u,e)
  .rcases k with k|k<;>(rw[J]at k;cases k)
 let(m,d):=d;have K:=a.Jd;let(m,_,_,o,_):=id F;unfold unbindBehindTheSuite;calc wpAny_onRaise ?_;unfold unbindName;calc J' (wpAny_point (J' ?_));unfold deleteName;simp only[J,B];rw[if_neg ∅];calc J' (wpAny_nsDel_keeps F λm v u g=>?_);rw[d];simp only[if_true,Option.isSome_some,Bool.not_true,Bool.false_eq_true,if_false];refine U' (wpAny_point (h _ (a.ok,a.os,a.bare,(λb o e n v m=>?_,λb o e n v m=>?_,a.base.free,λb o e m=>?_,a.base.aR,a.base.we,a.base.yp),(_,u,λj y L l t O=>?_),λy c e=>?_,a.free,a.jv,λp B=>?_,λb P e=>?_,(I.len:))))
 .exact(g.2 b (aak (aae (aac e) I.ok.above))).trans (a.base.keep b o e n v m)
 .let(d,l):=a.base.slot b o e n v m;exact(d,(g.2 b (aak (aae (aac e) I.ok.above))).trans l)
 .let(d,l):=a.base.there b o e m;exact(d,(g.2 b (aak (aae (aac e) I.ok.above))).trans l)
 .by_cases w:j=i
  .subst w;rw[List.getElem?_set_self z] at t
   cases t
  .rw[ac1 (Ne.symm w)] at t;let(R,S,q):=G j y L l (by rw[ac1 (Ne.symm w)];calc t) O;calc(R,S,?_);rcases q with⟨k,e⟩ | ⟨k,c,e,z⟩
   .calc .inl (k,?_);have:y≠n:=λe=>w (ui C l (e▸r));simp[this,e]
   .exact .inr (k,c,e,z.sameBut g (K y c e))
 .let(i,z):=a.cell y c e;exact(i,z.sameBut g (K y c e))
 .let(e,n,j,k,d):=a.pin p B;exact((g.2 p.1 j).trans e,n,j,k,d)
 .calc(a.aY b P e).aL (λc i x q=>(g.2 c ?_).trans q) (λ_ q=>q) λ_ _ q=>q;rintro rfl;rcases x with rfl | x
  .rw[a.free]at e;cases e
  .rw[a.free]at x;cases x
end L2
set_option maxHeartbeats 4000000
namespace DD
open PySem L2
variable {H:Hp}{x:V}
inductive Kd(H:Hp):V->Value->Prop
 |bL:Kd H .bL (.type "NoneType")
 |bl (b:Bool):Kd H (.bl b) (.type "bool")
 |int (i:Int):Kd H (.int i) (.type "int")
 |str (x:Str):Kd H (.str x) (.type "str")
 |lst {a xs}:H a=some (.lst xs)->Kd H (.ref a) (.type "list")
 |tup {a xs}:H a=some (.tup xs)->Kd H (.ref a) (.type "tuple")
 |dK {a aU}:H a=some (.dK aU)->Kd H (.ref a) (.type "dict")
theorem Kd.ty(h:Kd H x t):iq K H x t:=by
 cases h with
 |bL=>calc .bL
 |bl b=>calc .bl b
 |int i=>calc .int i
 |str x=>calc .str x
 |lst e=>calc .lst e
 |tup e=>calc .tup e
 |dK e=>calc .dK e
noncomputable def isI:V->Bool
 | .int _=>true
 |_=>false
theorem Vc(h:Kd H x t):∃b c,W.kitOne K t (.type "int")=some b/\W.kitOne K t (.type "bool")=some c/\isI x=(b && !c):=by
 cases h with
 |bL=>calc(false,false,rfl,rfl,rfl)
 |bl b=>calc(true,true,rfl,rfl,rfl)
 |int i=>calc(true,false,rfl,rfl,rfl)
 |str x=>calc(false,false,rfl,rfl,rfl)
 |lst e=>calc(false,false,rfl,rfl,rfl)
 |tup e=>calc(false,false,rfl,rfl,rfl)
 |dK e=>calc(false,false,rfl,rfl,rfl)
noncomputable def inR(lo a:Int):V->Bool
 | .int i=>decide (lo<=i)&&decide (i<a)
 |_=>false
theorem ZC(h:HD H n x d):∃t,Kd H x t:=by
 cases h with
 |bL=>calc(_,.bL)
 |bl b=>calc(_,.bl b)
 |int i=>calc(_,.int i)
 |str x=>calc(_,.str x)
 |tup e=>calc(_,.tup e)
 |lst e=>calc(_,.lst e)
 |dict e=>calc(_,.dK e)
noncomputable def Vd:DV->Bool
 | .int _=>true
 |_=>false
noncomputable def ZD(lo a:Int):DV->Bool
 | .int i=>decide (lo<=i)&&decide (i<a)
 |_=>false
theorem Ve(h:HD H n x d):isI x=Vd d:=by cases h<;>rfl
theorem Vf(h:HD H n x d)(lo a:Int):inR lo a x=ZD lo a d:=by cases h<;>rfl
noncomputable def uT:List V:=[.str "letter",.str "way",.str "first"]
noncomputable def PF(w:Str)(m:Int):List DV->Bool
 | [z]=>if w="is" then Vd z else(decide (w="number")&&ZD 0 m z)
 |_=>false
noncomputable def Hg(m:Int):DV->Bool
 | .tup (.str w::r)=>if EH (.str w) uT=true then decide (r.length=0) else PF w m r
 |_=>false
inductive Val where
 |is (c:Int)|number (i:Int)|oz|way|first
noncomputable def Val.dv:Val->DV
 | .is c=>.tup [.str "is",.int c]
 | .number i=>.tup [.str "number",.int i]
 | .oz=>.tup [.str "letter"]
 | .way=>.tup [.str "way"]
 | .first=>.tup [.str "first"]
def Val.ok(m:Int):Val->Prop
 | .number i=>0<=i/\i<m
 |_=>True
theorem Vg{v:Val}(h:v.ok m):Hg m v.dv=true:=by
 cases v with
 |is c=>calc rfl
 |number i=>
  let(a,b):=h;show(if EH (.str "number") uT=true then decide (([DV.int i]:List DV).length=0) else if ("number":Str)="is" then Vd (.int i) else(decide (("number":Str)="number")&&(decide (0<=i)&&decide (i<m))))=true;rw[if_neg ⋯,if_neg ⋯];simp[a,b]
 |oz=>calc rfl
 |way=>calc rfl
 |first=>calc rfl
noncomputable def uU(b a:List Int)(way said:Int):Val->Int
 | .is c=>c
 | .number i=>b.getD i.toNat 0
 | .oz=>said
 | .way=>way
 | .first=>a.headD 0
noncomputable abbrev AW(b a:List Int):DV:=.tup [.tup (b.map .int),.tup (a.map .int)]
theorem ln1{l:List V}(h:l.length=1):∃a,l=[a]:=List.length_eq_one_iff.mp h
theorem ln2{l:List V}(h:l.length=2):∃a b,l=[a,b]:=by
 cases l with
 |nil=>cases h
 |cons a r=>
  let(b,rfl):=ln1 (Nat.succ.inj h);calc(a,b,rfl)
theorem ln3{l:List V}(h:l.length=3):∃a b c,l=[a,b,c]:=by
 cases l with
 |nil=>cases h
 |cons a r=>
  let(b,c,rfl):=ln2 (Nat.succ.inj h);calc(a,b,c,rfl)
theorem ln4{l:List V}(h:l.length=4):∃a b c d,l=[a,b,c,d]:=by
 cases l with
 |nil=>cases h
 |cons a r=>
  let(b,c,d,rfl):=ln3 (Nat.succ.inj h);calc(a,b,c,d,rfl)
theorem jK(h:HT H n x (.tup [d])):∃a u k,x=.ref a/\H a=some (.tup [u])/\HT H k u d:=by
 cases h with
 | @tup k a b _ e l i=>
  let(u,rfl):=ln1 l;calc(a,u,k,rfl,e,i 0 u d rfl rfl)
theorem dP(h:HT H n x (.tup [d,d'])):∃a u v k,x=.ref a/\H a=some (.tup [u,v])/\HT H k u d/\HT H k v d':=by
 cases h with
 | @tup k a b _ e l i=>
  let(u,v,rfl):=ln2 l;calc(a,u,v,k,rfl,e,i 0 u d rfl rfl,i 1 v d' rfl rfl)
theorem EX{b:List Int}(h:HT H n x (.tup (b.map .int))):∃a,x=.ref a/\H a=some (.tup (b.map V.int)):=by
 cases h with
 | @tup k a c _ e l i=>
  calc(a,rfl,?_);have:c=b.map V.int:=by
   apply List.ext_getElem?;intro j;rw[K']
   cases d:b[j]? with
   |none=>
    have a:b.length<=j:=List.getElem?_eq_none_iff.mp d;rw[List.getElem?_eq_none_iff.mpr (by rw[l,V'];calc a)];rfl
   |some z=>
    have a:j<b.length:=(iF d).1;have f:j<c.length:=by rw[l,V'];exact a
    have g:=i j c[j] (.int z) (cJ f) (by rw[K',d];rfl);rw[cJ f];generalize c[j]=y at g
    cases g;rfl
  rw[<-this];calc e
theorem p8{c:List Int}(e:H a=some (.tup (c.map V.int))):HT H (n+1) (.ref a) (.tup (c.map .int)):=by
 calc .tup e nofun λi u d b f=>?_;rw[K']at b f
 cases g:c[i]? with
 |none=>rw[g]at b;cases b
 |some z=>rw[g]at b f;cases b;cases f;calc .int z
theorem uV(e:H a=some (.tup [u]))(h:HT H n u d):HT H (n+1) (.ref a) (.tup [d]):=by
 refine .tup e rfl λi x y b c=>?_
 cases i with
 |zero=>simp at b c;subst b c;calc h
 |succ i=>simp at b
theorem dA(e:H a=some (.tup [u,v]))(h:HT H n u d)(h':HT H n v d'):HT H (n+1) (.ref a) (.tup [d,d']):=by
 refine .tup e rfl λi x y b c=>?_
 match i,b,c with
 |0,b,c=>simp at b c;subst b c;calc h
 |1,b,c=>simp at b c;subst b c;calc h'
theorem _root_.L2.HT.mono(h:HT H n x d):∀{m:Nat},n<=m->HT H m x d:=by
 induction h with
 |bL=>intro m _;calc .bL
 |bl b=>intro m _;calc .bl b
 |int i=>intro m _;calc .int i
 |str x=>intro m _;calc .str x
 |tup a b c f=>
  intro m e;obtain⟨k,rfl⟩:∃k,m=k+1:=(m-1,())
  calc .tup a b λi u e p q=>f i u e p q ()
inductive bF where
 |set (i:Int) (v:Val)|add (i:Int) (v:Val)|times (i:Int) (v:Val)|put (v:Val)|drop|send (j:Int) (v:Val)|say (v:Val)|skip (v w:Val) (k:Int)
noncomputable def bF.dv:bF->DV
 | .set i v=>.tup [.str "set",.int i,v.dv]
 | .add i v=>.tup [.str "add",.int i,v.dv]
 | .times i v=>.tup [.str "times",.int i,v.dv]
 | .put v=>.tup [.str "put",v.dv]
 | .drop=>.tup [.str "drop"]
 | .send j v=>.tup [.str "send",.int j,v.dv]
 | .say v=>.tup [.str "say",v.dv]
 | .skip v w k=>.tup [.str "skip",v.dv,w.dv,.int k]
def bF.ok(m:Int):bF->Prop
 | .set i v=>0<=i/\i<m/\v.ok m
 | .add i v=>0<=i/\i<m/\v.ok m
 | .times i v=>0<=i/\i<m/\v.ok m
 | .put v=>v.ok m
 | .drop=>True
 | .send j v=>0<=j/\v.ok m
 | .say v=>v.ok m
 | .skip v w k=>v.ok m/\w.ok m/\1<=k/\k<25
noncomputable def bF.vals:bF->List Val
 | .set _ v=>[v]
 | .add _ v=>[v]
 | .times _ v=>[v]
 | .put v=>[v]
 | .drop=>[]
 | .send _ v=>[v]
 | .say v=>[v]
 | .skip v w _=>[v,w]
noncomputable def bF.word:bF->Str
 | .set _ _=>"set"
 | .add _ _=>"add"
 | .times _ _=>"times"
 | .put _=>"put"
 | .drop=>"drop"
 | .send _ _=>"send"
 | .say _=>"say"
 | .skip _ _ _=>"skip"
noncomputable def bF.wz:bF->List Str
 | .set _ _=>["number","value"]
 | .add _ _=>["number","value"]
 | .times _ _=>["number","value"]
 | .put _=>["value"]
 | .drop=>[]
 | .send _ _=>["way","value"]
 | .say _=>["value"]
 | .skip _ _ _=>["value","value","many"]
structure WS where
 ns:List Int
 row:List Int
 cM:List (Int×Int)
 words:List Int
noncomputable def gv(M way said:Int)(b a:List Int)(v:Val):Int:=uU b a way said v%M
noncomputable def kq(M:Int)(a:List Int)(x:Int):bF->List Int
 | .set i _=>a.set i.toNat x
 | .add i _=>a.set i.toNat ((a.getD i.toNat 0+x)%M)
 | .times i _=>a.set i.toNat ((a.getD i.toNat 0*x)%M)
 |_=>a
noncomputable def p9(a:List Int)(x:Int):bF->List Int
 | .put _=>if a.length<12 then a++[x] else a
 | .drop=>a.tail
 |_=>a
noncomputable def iV(x:Int):bF->List (Int×Int)
 | .send j _=>[((j),x)]
 |_=>[]
noncomputable def gG(x:Int):bF->List Int
 | .say _=>[x]
 |_=>[]
noncomputable def qa(x y:Int):bF->Int
 | .skip _ _ k=>if x<y then k else 0
 |_=>0
noncomputable def lL(M way said:Int)(d:bF)(s:WS):WS:=
 let ws:=d.vals.map (gv M way said s.ns s.row)
 (kq M s.ns (ws.getD 0 0) d,p9 s.row (ws.getD 0 0) d,s.cM++iV (ws.getD 0 0) d,s.words++gG (ws.getD 0 0) d)
noncomputable def nY(M way said:Int)(d:bF)(s:WS):Int:=
 let ws:=d.vals.map (gv M way said s.ns s.row)
 qa (ws.getD 0 0) (ws.getD 1 0) d
noncomputable def AX(M way said:Int):Nat->List bF->WS->WS
 |0,_,s=>s
 |_,[],s=>s
 |f+1,d::r,s=>AX M way said f (r.drop (nY M way said d s).toNat) (lL M way said d s)
theorem EY:AX M way said f [] s=s:=by cases f<;>rfl
noncomputable def qb(M way said:Int)(b:List bF)(c a:List Int):WS:=AX M way said b.length b (c,a,[],[])
theorem qV{x:Int}:(kq M a x d).length=a.length:=by cases d<;>simp[kq]
def AY(K:W.Frag)(H:Hp)(f:V)(e d:List Int):Prop:=∃a b c,f=.ref a/\H a=some (.tup [.ref b,.ref c])/\(aS K H b (e.map V.int)\/bI K H b (e.map V.int))/\(aS K H c (d.map V.int)\/bI K H c (d.map V.int))
theorem AY.of(h:HT H n f (AW g d)):AY K H f g d:=by
 let(a,u,v,k,rfl,e,i,j):=dP h;let(b,rfl,l):=EX i;let(c,rfl,d):=EX j;calc(a,b,c,rfl,e,.inr (bI.of l),.inr (bI.of d))
noncomputable def cA:Stmt->List Stmt
 | .ClassDef _ _ _ a _ _ _ _ _ _ _=>a
 |_=>[]
theorem bV(h:HT H n x (.tup [d,d',b])):∃a u v w k,x=.ref a/\H a=some (.tup [u,v,w])/\HT H k u d/\HT H k v d'/\HT H k w b:=by
 cases h with
 | @tup k a c _ e l i=>
  let(u,v,w,rfl):=ln3 l;calc(a,u,v,w,k,rfl,e,i 0 u d rfl rfl,i 1 v d' rfl rfl,i 2 w b rfl rfl)
theorem qc(h:HT H n x (.tup [d,d',b,c])):∃a u v w z k,x=.ref a/\H a=some (.tup [u,v,w,z])/\HT H k u d/\HT H k v d'/\HT H k w b/\HT H k z c:=by
 cases h with
 | @tup k a f _ e l i=>
  let(u,v,w,z,rfl):=ln4 l;calc(a,u,v,w,z,k,rfl,e,i 0 u d rfl rfl,i 1 v d' rfl rfl,i 2 w b rfl rfl,i 3 z c rfl rfl)
theorem lY(e:H a=some (.tup [u,v,w]))(h:HT H n u d)(h':HT H n v d')(f:HT H n w g):HT H (n+1) (.ref a) (.tup [d,d',g]):=by
 refine .tup e rfl λi x y b c=>?_
 match i,b,c with
 |0,b,c=>simp at b c;subst b c;calc h
 |1,b,c=>simp at b c;subst b c;calc h'
 |2,b,c=>simp at b c;subst b c;calc f
theorem EZ{v:Val}(h:HT H n x v.dv):∃a xs,x=.ref a/\H a=some (.tup xs):=by
 cases v<;>(cases h;rename_i a xs e l i;calc(_,_,rfl,by assumption))
end DD
set_option maxHeartbeats 400000
namespace L2
open PySem PySem.Spec PyProof.Rows
def ZE:R2:=λx y H Q=>match x,y with
 | .ref a,.int n=>∃v,H a=some (.lst [v])/\-1000<=n/\n<=1000/\∀p,H p=none->Q (.ref p) (upd H p (.lst (List.replicate n.toNat v)))
 |_,_=>False
theorem KQ{α:Type}(n:Nat)(v:α):(List.replicate n [v]).flatten=List.replicate n v:=by
 induction n with
 |zero=>rfl
 |succ n a=>rw[List.replicate_succ,List.flatten_cons,a];rfl
theorem AZ(r:RelV v u):∀n:Nat,Vals (List.replicate n v) (List.replicate n u)
 |0=>.nil
 |n+1=>.cons r (AZ r n)
theorem A0:ik X (binaryOp .Mult) ZE:=by
 intro g s σ H x y v u Q I i j h
 cases x<;>cases y<;>first
  |calc(show False from h).elim
  |skip
 rename_i a n;let(w,l,A,B,q):=h;obtain rfl:v=Value.ref a:=i;obtain⟨c,rfl⟩:∃c,u=Value.int n c:=j;let(_,C,k,m,d):=I.aY a _ l;let(f,rfl,p):=m.one;have r:([f]:List Value).toArray.size*n.toNat<=1000:=by simp;lia
 refine wpAny_binaryOp_repeat_ref (T:="list") (U:="int") ∅ (_,d,rfl) (λt=>typeIs_int t n c) noFill_list_mul F.fills_int_mul F.slot_int_rmul repeat_list F.slot_int_index.lookup
  (call_meets F.slot_int_rmul (typeIs_int s n c) F.entry_int_rmul (F.args_int_rmul_2 _ _) (lm_int_rmul_list_any n c a ([f]:List Value).toArray k none #[])
   (d,rfl,(_,d,rfl),call_meets F.slot_list_mul (_,d,rfl) F.entry_list_mul (F.args_list_mul_2 _ _)
    (lm_list_mul_any a ([f]:List Value).toArray k none #[] n c (by simp[Builtin.List.listFitsIndex];lia) () (by simp[Builtin.List.listTooLong,sizeLine];lia))
    (d,?_)))
 rw[listMul_foldl_if,KQ];have z:H s.heap.objs.size=none:=I.aY.fresh (S' _);calc(V.ref s.heap.objs.size,_,I.laid (o:=.lst (List.replicate n.toNat w)) (a:=s.heap.objs.size) (λb o e=>P' _ e) (S' _) (show _/\_ from(?_,_,0,AZ p _,aai _ rfl)),rfl,q _ z);rw[acV,abb];lia
def RQ(K:W.Frag):List V->Hp->VK->Prop:=λxs H Q=>∃(a C B:Addr) (d:Option Addr) (p:Addr) (cs:List Addr) (b e:Bool),xs=[.ref a,.ref p]/\H a=some (XO a C d e)/\(∀c,d=some c->∃f,H c=some (XD c f))/\kM K C B/\H p=some (.tup (cs.map V.ref))/\W.kitAny K (.ref C) (cs.map Value.ref)=some b/\Q (.bl b) H
theorem xF:∀{cs:List Addr}{us:List Value},Vals (cs.map V.ref) us->us=cs.map Value.ref
 | [],_,h=>by cases h;rfl
 |c::cs,_,h=>by
  cases h with
  |cons a b=>
   rw[xF b]
   cases(show _=Value.ref c from a);rfl
theorem Hk:eO X (.builtin "isinstance") (RQ X.K):=by
 intro e s σ H l m Q I r h;let(a,C,B,d,p,F,b,G,rfl,o,t,v,w,k,q):=h;obtain⟨u,c,rfl,n,x⟩:∃u c,m=u::c/\RelV (.ref a) u/\Vals [.ref p] c:=by cases r with|cons a b=>exact(_,_,rfl,a,b)
 let(y,rfl,A):=x.one
 cases(show u=Value.ref a from n)
 cases(show y=Value.ref p from A);let(_,a,c,f):=I.aY p _ w;rw[xF c]at f;let((e,h,a,D),E,g,n,i):=id f;simp only at g i;subst g i;refine W.kia_tup (AG v) I.iQ ?_ E k (λz=>nomatch z) λa=>(.bl b,H,I.tok _,rfl,q)
 let(l,D,j):=Ko I o
 cases d with
 |none=>calc(_,none,j,rfl,rfl,aa7)
 |some a=>
  let(b,z):=t a rfl;let(_,(o,_,_,b,_),_):=Kn (I.aY a _ z);calc(_,some o,j,rfl,rfl,b)
end L2
namespace L2
open PySem
theorem oA(a:X.K=K):eO X (.builtin "isinstance") (RQ K):=a▸Hk
theorem PH:bootBuiltins "ValueError"=some (.type "ValueError"):=by kernel_rfl
structure N9(K:W.Frag)(mg:jP)(B:Addr)(c:Nat->Addr):Prop where
 qd:mg "BadMachine"=some (.ref (c 0))
 xG:mg "BadDeed"=some (.ref (c 1))
 A7:mg "NoText"=some (.ref (c 2))
 A8:mg "BadNet"=some (.ref (c 3))
 uW:mg "NoLetter"=some (.ref (c 4))
 uX:mg "NotFirst"=some (.ref (c 5))
 xH:mg "NoCount"=some (.ref (c 6))
 xI:mg "NoEvent"=some (.ref (c 7))
 uY:mg "Orphaned"=some (.ref (c 8))
 xJ:mg "TooMany"=some (.ref (c 9))
 A9:mg "NoLine"=some (.ref (c 10))
 sS:mg "NoMachine"=some (.ref (c 11))
 Ba:mg "NotRow"=some (.ref (c 12))
 KR:mg "Busy"=some (.ref (c 13))
 qf:mg "NotReached"=some (.ref (c 14))
 Bb:mg "NoMark"=some (.ref (c 15))
 E2:mg "NoRow"=some (.ref (c 16))
 Bc:mg "NoName"=some (.ref (c 17))
 Bd:mg "NoDeed"=some (.ref (c 18))
 uZ:mg "NetError"=some (.ref B)
 yY:pZ K mg "BadMachine" (c 0) B
 KS:pZ K mg "NoText" (c 2) B
 KU:pZ K mg "BadNet" (c 3) B
 xK:pZ K mg "NoCount" (c 6) B
 xM:pZ K mg "NoEvent" (c 7) B
 Hl:pZ K mg "TooMany" (c 9) B
 Be:pZ K mg "NoMachine" (c 11) B
 Vh:pZ K mg "Busy" (c 13) B
 KW:pZ K mg "NoMark" (c 15) B
 PJ:pZ K mg "NoRow" (c 16) B
 KY:pZ K mg "NoName" (c 17) B
 KZ:pZ K mg "NoDeed" (c 18) B
 cl:∀i,i<19->kM K (c i) B
 inj:∀i j,i<19->j<19->c i=c j->i=j
 nB:∀i,i<19->c i≠B
 ZF:(W.clsIn K B).isSome=true
 tyB:W.typeIn K (.ref B)=some (.type "type")
 xb:XBase K B
 gw:bZ K (c 1) "at"
 fO:bZ K (c 4) "at"
 fP:bZ K (c 5) "at"
 dM:bZ K (c 8) "letter"
 fE:bZ K (c 10) "falls"
 eS:bZ K (c 10) "letter"
 gy:bZ K (c 12) "way"
 cS:bZ K (c 14) "machine"
theorem K0(T:N9 K mg B c)(a:i<19)(b:j<19):W.kitOne K (.ref (c i)) (.ref (c j))=some (decide (i=j)):=by
 unfold W.kitOne;by_cases e:i=j
 .subst e;rw[if_pos nofun];simp
 .have d:c i≠c j:=λz=>e (T.inj i j a b z);have g:c j≠B:=T.nB j b;rw[if_neg (d:)];let(cd,k,l,_):=(T.cl i a).cd;let(n,q,N,o,p,l,r,m,t,u,v,w,x,y,k):=(T.cl j b).ob;have l:W.typeIn K (.ref (c j))=some (.type "type"):=by show Option.map (·.cls) (K.lookup (c j))=_;rw[k];rfl
  have b:(W.clsIn K (c j)).isSome=true:=by unfold W.clsIn;rw[k];rfl
  have k:=(T.cl i a).mro (.ref (c j));show(if ((W.clsIn K (c j)).isSome&&W.typeIn K (.ref (c j))==some (.type "type"))=true then W.subIn K (.ref (c i)) (.ref (c j)) else none)=_;rw[l,b];simp only[beq_self_eq_true,Bool.and_self,if_true];show W.mroIn K (c i) (.ref (c j))=_;rw[k];have z:((Value.ref (c i)::.ref B::uG).contains (.ref (c j)))=false:=by
   simp[uG,List.contains_cons,d,g,Ne.symm d]
  rw[z];simp[e]
theorem Vi(T:N9 K mg B c)(a:i<19):W.kitOne K (.ref (c i)) (.type "ValueError")=some true:=by
 unfold W.kitOne;rw[if_neg (by intro z;cases z)];show(if W.kitMeta "ValueError"=true then W.subIn K (.ref (c i)) (.type "ValueError") else none)=_;rw[if_pos ⋯];show W.mroIn K (c i) (.type "ValueError")=_;calc((T.cl i a).mro _).trans rfl
theorem tY(T:N9 K mg B c)(b:i<19):∀a:List Nat,(∀j∈a,j<19)->W.kitAny K (.ref (c i)) ((a.map c).map Value.ref)=some (decide (i∈a))
 | [],_=>by simp[W.kitAny]
 |j::a,h=>by
  have d:=tY T b a λk f=>h k (aar _ f);have e:=K0 T b (h j nofun);show(match W.kitOne K (.ref (c i)) (.ref (c j)) with|some true=>some true|some false=>W.kitAny K (.ref (c i)) ((a.map c).map Value.ref)|none=>none)=_;rw[e];by_cases z:i=j
  .subst z;simp
  .rw[aaE z];show W.kitAny K (.ref (c i)) ((a.map c).map Value.ref)=_;rw[d];simp[z]
end L2
set_option maxHeartbeats 4000000
namespace L2
open PySem
def afb(K:W.Frag):List V->Hp->VK->Prop:=λxs H Q=>∃(x:V) (C:Addr) (t:Value) (b:Bool),xs=[x,.ref C]/\iq K H x t/\W.kitOne K t (.ref C)=some b/\Q (.bl b) H
theorem K1(c:X.K=K):eO X (.builtin "isinstance") (afb K):=by
 subst c;intro a s σ H i j Q I r h;let(x,C,t,b,rfl,d,e,q):=h;let(u,k,rfl,f,g):=vals2 r
 cases g;calc xh I f d e λa=>(.bl b,H,I.tok _,rfl,q)
end L2
namespace L2
open PySem PySem.Spec PyProof.Rows
variable {e:Nat->Bool}
def IL(K:W.Frag)(H:Hp):Nat->V->V->Bool->Prop
 |0,_,_,_=>False
 | n + 1,x,y,b=>(∃a,x=.ref a/\y=.ref a/\b=true)\/(gE x=true/\gE y=true/\b=IF x y)
  \/(∃a xs,gE x=true/\y=.ref a/\(bI K H a xs\/aS K H a xs)/\b=false)\/(∃a xs,gE y=true/\x=.ref a/\(bI K H a xs\/aS K H a xs)/\b=false)
  \/(∃a c xs d,x=.ref a/\y=.ref c/\((bI K H a xs/\aS K H c d)\/(aS K H a xs/\bI K H c d))/\b=false)
  \/∃a c xs d,∃e:Nat->Bool,x=.ref a/\y=.ref c/\a≠c/\((bI K H a xs/\bI K H c d)\/(aS K H a xs/\aS K H c d))
   /\(∀(i:Nat) u v,xs[i]?=some u->d[i]?=some v->IL K H n u v (e i))/\b=((List.range (min xs.length d.length)).all e&&(xs.length==d.length))
def EqT(K:W.Frag)(H:Hp)(n:Nat)(a c:Addr)(b:Bool):Prop:=∃xs d,∃e:Nat->Bool,((bI K H a xs/\bI K H c d)\/(aS K H a xs/\aS K H c d))
      /\(∀(i:Nat) u v,xs[i]?=some u->d[i]?=some v->IL K H n u v (e i))/\b=((List.range (min xs.length d.length)).all e&&(xs.length==d.length))
theorem K2(I:Inv X pins σ H s)(L:∀(A:Around) {x y:V}{u v:Value}{b:Bool},IL X.K H n x y b->A.units+n<cLine->RelV x u->RelV y v->SeqAt.EqAt A s u v b)(h:EqT X.K H n a c b)(f:A.units+n+1<cLine):SeqAt.RcAt A s (.ref a) (.ref c) b/\SeqAt.RcNeAt A s (.ref a) (.ref c) (!b):=by
 let(g,k,e,d,M,rfl):=h;rcases d with⟨m,n⟩|⟨m,n⟩
 .let(d,o,h,p):=I.tuple m;let(f,q,l,w):=I.tuple n;have N:=o.length;have O:=q.length;have b:∀j (m:j<d.toArray.size) (n:j<f.toArray.size),SeqAt.EqAt A.in1 s d.toArray[j] f.toArray[j] (e j):=λj y z=>by
   have B:j<d.length:=(y:)
   have C:j<f.length:=(z:)
   let(D,r,E):=o.get (i:=j) (x:=g[j]'()) nofun;let(F,t,G):=q.get (i:=j) (x:=k[j]'()) nofun;have H:d.toArray[j]=D:=by
    have:=cJ B;rw[this]at r;simpa using Option.some.inj r
   have J:f.toArray[j]=F:=by
    have:=cJ C;rw[this]at t;simpa using Option.some.inj t
   rw[H,J];exact L A.in1 (M j _ _ nofun nofun) (by rw[in1_units];lia) E G
  have u:=SeqAt.RcAt.tuples (A:=A) (show s.heap.IsTuple a d.toArray from h) (show s.heap.IsTuple c f.toArray from l) () b;have v:=SeqAt.RcNeAt.tuples (A:=A) (show s.heap.IsTuple a d.toArray from h) (show s.heap.IsTuple c f.toArray from l) () b;have p:d.toArray.size=g.length:=by simp;lia
  have w:f.toArray.size=k.length:=by simp;lia
  rw[p,w]at u v;exact(u,v)
 .let(d,o,h,p):=I.list m;let(f,q,l,w):=I.list n;have N:=o.length;have O:=q.length;by_cases a:g.length=k.length
  .have c:d.toArray.size=f.toArray.size:=by simp;lia
   have b:∀j (m:j<d.toArray.size) (n:j<f.toArray.size),SeqAt.EqAt A.in1 s d.toArray[j] f.toArray[j] (e j):=λj y z=>by
    have B:j<d.length:=(y:)
    have C:j<f.length:=(z:)
    let(D,r,E):=o.get (i:=j) (x:=g[j]'()) nofun;let(F,t,G):=q.get (i:=j) (x:=k[j]'()) nofun;have H:d.toArray[j]=D:=by
     have:=cJ B;rw[this]at r;simpa using Option.some.inj r
    have J:f.toArray[j]=F:=by
     have:=cJ C;rw[this]at t;simpa using Option.some.inj t
    rw[H,J];exact L A.in1 (M j _ _ nofun nofun) (by rw[in1_units];lia) E G
   have u:=SeqAt.RcAt.lists (A:=A) h.isList l.isList c () b;have v:=SeqAt.RcNeAt.lists (A:=A) h.isList l.isList c () b;have p:d.toArray.size=g.length:=by simp;lia
   have b:((List.range (min g.length k.length)).all e&&(g.length==k.length))=(List.range g.length).all e:=by rw[a];simp
   rw[p]at u v;rw[b];exact(u,v)
  .have c:(d.toArray.size != f.toArray.size)=true:=by simp;lia
   have b:((List.range (min g.length k.length)).all e&&(g.length==k.length))=false:=by simp[a]
   rw[b];calc(SeqAt.RcAt.lists_lengths h.isList l.isList c (),SeqAt.RcNeAt.lists_lengths h.isList l.isList c ())
theorem K3(I:Inv X pins σ H s):∀(n:Nat) (A:Around) {x y:V}{u v:Value}{b:Bool},IL X.K H n x y b->A.units+n<cLine->RelV x u->RelV y v->SeqAt.EqAt A s u v b
 |0,_,_,_,_,_,_,h,_,_,_=>h.elim
 |n+1,A,x,y,u,v,b,h,r,k,l=>by
  rcases h with⟨a,rfl,rfl,rfl⟩|⟨f,g,rfl⟩|⟨a,p,f,rfl,i,rfl⟩|⟨a,p,f,rfl,i,rfl⟩|⟨a,c,p,q,rfl,rfl,i,rfl⟩|⟨a,c,p,q,e,rfl,rfl,w,i,z,B⟩
  .cases k;cases l;exact SeqAt.EqAt.same _
  .exact De k l f g
  .cases l;rcases i with i | i
   .let(j,m,d,o):=I.tuple i
    cases x<;>first|calc absurd (show false=true from f) X'|skip
    .cases k;exact SeqAt.EqAt.none_tuple (show s.heap.IsTuple a j.toArray from d) ()
    .cases k;exact SeqAt.EqAt.bool_tuple _ (show s.heap.IsTuple a j.toArray from d) ()
    .let(t,rfl):=k;exact SeqAt.EqAt.int_tuple _ _ (show s.heap.IsTuple a j.toArray from d) ()
    .let(t,rfl):=k;exact SeqAt.EqAt.str_tuple _ _ (show s.heap.IsTuple a j.toArray from d) ()
   .let(j,m,d,o):=I.list i
    cases x<;>first|calc absurd (show false=true from f) X'|skip
    .cases k;exact SeqAt.EqAt.none_list d.isList ()
    .cases k;exact SeqAt.EqAt.bool_list _ d.isList ()
    .let(t,rfl):=k;exact SeqAt.EqAt.int_list _ _ d.isList ()
    .let(t,rfl):=k;exact SeqAt.EqAt.str_list _ _ d.isList ()
  .cases k;rcases i with i | i
   .let(j,m,d,o):=I.tuple i
    cases y<;>first|calc absurd (show false=true from f) X'|skip
    .cases l;exact SeqAt.EqAt.tuple_none (show s.heap.IsTuple a j.toArray from d) ()
    .cases l;exact SeqAt.EqAt.tuple_bool _ (show s.heap.IsTuple a j.toArray from d) ()
    .let(t,rfl):=l;exact SeqAt.EqAt.tuple_int _ _ (show s.heap.IsTuple a j.toArray from d) ()
    .let(t,rfl):=l;exact SeqAt.EqAt.tuple_str _ _ (show s.heap.IsTuple a j.toArray from d) ()
   .let(j,m,d,o):=I.list i
    cases y<;>first|calc absurd (show false=true from f) X'|skip
    .cases l;exact SeqAt.EqAt.list_none d.isList ()
    .cases l;exact SeqAt.EqAt.list_bool _ d.isList ()
    .let(t,rfl):=l;exact SeqAt.EqAt.list_int _ _ d.isList ()
    .let(t,rfl):=l;exact SeqAt.EqAt.list_str _ _ d.isList ()
  .cases k
   cases l;rcases i with⟨f,g⟩|⟨f,g⟩
   .let(j,m,d,o):=I.tuple f;let(r,t,h,C):=I.list g;exact SeqAt.EqAt.tuple_list (show s.heap.IsTuple a j.toArray from d) h.isList ()
   .let(j,m,d,o):=I.list f;let(r,t,h,C):=I.tuple g;exact SeqAt.EqAt.list_tuple d.isList (show s.heap.IsTuple c r.toArray from h) ()
  .cases k
   cases l;calc SeqAt.EqAt.of_refs w (K2 I (λA {x y u v b}=>K3 I n A) (p,q,e,i,z,B) ()).1
def Vj(K:W.Frag):R2:=λx y H Q=>∃a c b,x=.ref a/\y=.ref c/\EqT K H 19 a c b/\Q (.bl b) H
theorem PK(i:X.A.units+64<cLine):ik X (compareOp .Eq) (Vj X.K):=by
 intro d s σ H x y v u Q I e f h;let(a,c,b,rfl,rfl,g,q):=h
 cases e
 cases f;calc(K2 I (λA {x y u v b}=>K3 I 19 A) (A:=X.A) g ()).1 X.prog X.w X.xe _ (.bl b,H,I,rfl,q)
inductive yZ:DV->Prop
 |bL:yZ .bL
 |int (i:Int):yZ (.int i)
 |str (x:Str):yZ (.str x)
 |tup {ds:List DV}:(∀e∈ds,yZ e)->yZ (.tup ds)
 |lst {ds:List DV}:(∀e∈ds,yZ e)->yZ (.lst ds)
theorem IL.mono{K:W.Frag}:∀{n:Nat}{x y:V}{b:Bool},IL K H n x y b->∀{m:Nat},n<=m->IL K H m x y b
 |0,_,_,_,h,_,_=>h.elim
 |n+1,x,y,b,h,m,a=>by
  obtain⟨k,rfl⟩:∃k,m=k+1:=(m-1,())
  rcases h with h|h|h|h|h|⟨a,c,b,d,e,f,g,j,k,l,m⟩
  .exact .inl h
  .exact .inr (.inl h)
  .exact .inr (.inr (.inl h))
  .exact .inr (.inr (.inr (.inl h)))
  .exact .inr (.inr (.inr (.inr (.inl h))))
  .calc .inr (.inr (.inr (.inr (.inr (a,c,b,d,e,f,g,j,k,λi u v p q=>(l i u v p q).mono (),m)))))
theorem PM(h:HD H n x d):∀{m:Nat}{d':DV},HD H m x d'->d=d':=by
 induction h with
 |bL=>intro m d' h;cases h;rfl
 |bl b=>intro m d' h;cases h;rfl
 |int i=>intro m d' h;cases h;rfl
 |str x=>intro m d' h;cases h;rfl
 | @tup n a f g e l i k=>
  intro m d' h
  cases h with
  | @tup m _ q o c r p=>
   rw[e]at c
   cases c;congr 1;apply ac8 ();intro j s t;have u:j<f.length:=();calc k j f[j] g[j] nofun nofun (p j f[j] o[j] nofun nofun)
  |lst c=>rw[e]at c;cases c
  |dict c=>rw[e]at c;cases c
 | @lst n a f g e l i k=>
  intro m d' h
  cases h with
  | @lst m _ q o c r p=>
   rw[e]at c
   cases c;congr 1;apply ac8 ();intro j s t;have u:j<f.length:=();calc k j f[j] g[j] nofun nofun (p j f[j] o[j] nofun nofun)
  |tup c=>rw[e]at c;cases c
  |dict c=>rw[e]at c;cases c
 |dict e=>
  intro m d' h
  cases h with
  |tup c=>rw[e]at c;cases c
  |lst c=>rw[e]at c;cases c
  |dict _=>rfl
theorem all_eq{a:List DV}(f:∀(i:Nat) u v,a[i]?=some u->b[i]?=some v->e i=true->u=v)(h:((List.range (min a.length b.length)).all e&&(a.length==b.length))=true):a=b:=by
 rw[aa4]at h;let(d,c):=h;have c:a.length=b.length:=(c:)
 apply ac8 c;intro j a b;calc f j _ _ nofun nofun ?_;rw[List.all_eq_true]at d;calc d j (by simp;lia)
theorem Hm{a:List DV}(b:∀i,i<a.length->e i=true):((List.range (min a.length a.length)).all e&&(a.length==a.length))=true:=by
 simp;calc b
theorem ny{K:W.Frag}(h:HD H 0 x d)(h':HD H m y d')(a:yZ d)(c:yZ d')(f:gE x=true):∃b,IL K H (n+1) x y b/\(b=true↔d=d'):=by
 cases h<;>cases h'<;>first
  |(calc(_,.inr (.inl (rfl,rfl,rfl)),?_);simp[IF];done)
  |(rename_i e _ _;calc(false,.inr (.inr (.inl (_,_,rfl,rfl,.inl (bI.of e),rfl))),nofun))
  |(rename_i e _ _;calc(false,.inr (.inr (.inl (_,_,rfl,rfl,.inr (aS.of e),rfl))),nofun))
  |(exfalso;cases a;done)
  |(exfalso;cases c;done)
theorem y0{K:W.Frag}:∀(n:Nat) {x y:V}{d d':DV}{m:Nat},HD H n x d->HD H m y d'->yZ d->yZ d'->∃b,IL K H (n+1) x y b/\(b=true↔d=d'):=by
 have A:∀{k m:Nat} {g s:List V} {t w:List DV},(∀{x y:V} {d d':DV} {m:Nat},HD H k x d->HD H m y d'->yZ d->yZ d'->∃b,IL K H (k + 1) x y b/\(b=true↔d=d'))->g.length=t.length->s.length=w.length->
   (∀(i:Nat) u e,g[i]?=some u->t[i]?=some e->HD H k u e)->(∀(i:Nat) u e,s[i]?=some u->w[i]?=some e->HD H m u e)->(∀e∈t,yZ e)->(∀e∈w,yZ e)->
   ∃e:Nat->Bool,(∀(i:Nat) u v,g[i]?=some u->s[i]?=some v->IL K H (k+1) u v (e i))/\(((List.range (min g.length s.length)).all e&&(g.length==s.length))=true↔t=w):=by
  intro k m g s t w I l C i D o r;have G:∀j:Nat,∃b:Bool,(∀u v,g[j]?=some u->s[j]?=some v->IL K H (k+1) u v b)/\(∀u v,t[j]?=some u->w[j]?=some v->(b=true↔u=v)):=by
   intro j;by_cases J:j<g.length/\j<s.length
   .let(Q,R):=J;have O:j < t.length:=();have P:j<w.length:=();let(b,S,T):=I (i j g[j] t[j] nofun nofun) (D j s[j] w[j] nofun nofun) (o _ (aaJ O)) (r _ (aaJ P));refine(b,λu v p q=>?_,λu v p q=>?_)
    .rw[cJ Q]at p;rw[cJ R]at q;cases p;cases q;exact S
    .rw[cJ O]at p;rw[cJ P]at q;cases p;cases q;exact T
   .refine(true,λu v p q=>?_,λu v p q=>?_)
    .exact absurd ((iF p).1,(iF q).1) J
    .exact absurd (by rw[l];calc(iF p).1,by rw[C];calc(iF q).1) J
  let(e,L):=Classical.axiomOfChoice G;refine(e,λi u v p q=>(L i).1 u v p q,λh=>?_,λh=>?_)
  .rw[l,C]at h;exact all_eq (λi u v p q=>((L i).2 u v p q).mp) h
  .subst h;rw[l,C];calc Hm λi b=>?_;exact((L i).2 t[i] t[i] nofun nofun).mpr rfl
 intro n;induction n with
 |zero=>
  intro x y d d' m h B o r
  cases h with
  |bL=>calc ny .bL B o r rfl
  |int j=>calc ny (.int j) B o r rfl
  |str j=>calc ny (.str j) B o r rfl
  |bl _=>cases o
  |dict _=>cases o
 |succ n I=>
  intro x y d d' m h B o r;by_cases E:∃a,x=.ref a/\y=.ref a
  .let(a,rfl,rfl):=E;exact(true,.inl (a,rfl,rfl,rfl),by simp[PM h B])
  cases h with
  | @tup _ a g t e l i=>
   cases o with
   |tup o=>
   cases B with
   | @tup m c s w F C D=>
    cases r with
    |tup r=>
    let(f,M,N):=A I l C i D o r;calc(_,.inr (.inr (.inr (.inr (.inr (a,c,g,s,f,rfl,rfl,λz=>E (a,rfl,by rw[z]),.inl (bI.of e,bI.of F),M,rfl))))),N.trans nofun)
   | @lst m c s w F C D=>calc(false,.inr (.inr (.inr (.inr (.inl (a,c,g,s,rfl,rfl,.inl (bI.of e,aS.of F),rfl))))),nofun)
   |dict _=>cases r
   |bl _=>cases r
   |bL=>calc(false,.inr (.inr (.inr (.inl (a,g,rfl,rfl,.inl (bI.of e),rfl)))),nofun)
   |int j=>calc(false,.inr (.inr (.inr (.inl (a,g,rfl,rfl,.inl (bI.of e),rfl)))),nofun)
   |str j=>calc(false,.inr (.inr (.inr (.inl (a,g,rfl,rfl,.inl (bI.of e),rfl)))),nofun)
  | @lst _ a g t e l i=>
   cases o with
   |lst o=>
   cases B with
   | @lst m c s w F C D=>
    cases r with
    |lst r=>
    let(f,M,N):=A I l C i D o r;calc(_,.inr (.inr (.inr (.inr (.inr (a,c,g,s,f,rfl,rfl,λz=>E (a,rfl,by rw[z]),.inr (aS.of e,aS.of F),M,rfl))))),N.trans nofun)
   | @tup m c s w F C D=>calc(false,.inr (.inr (.inr (.inr (.inl (a,c,g,s,rfl,rfl,.inr (aS.of e,bI.of F),rfl))))),nofun)
   |dict _=>cases r
   |bl _=>cases r
   |bL=>calc(false,.inr (.inr (.inr (.inl (a,g,rfl,rfl,.inr (aS.of e),rfl)))),nofun)
   |int j=>calc(false,.inr (.inr (.inr (.inl (a,g,rfl,rfl,.inr (aS.of e),rfl)))),nofun)
   |str j=>calc(false,.inr (.inr (.inr (.inl (a,g,rfl,rfl,.inr (aS.of e),rfl)))),nofun)
  |dict _=>cases o
  |bl _=>cases o
  |bL=>calc(ny (n:=n+1) .bL B o r rfl)
  |int j=>calc(ny (n:=n+1) (.int j) B o r rfl)
  |str j=>calc(ny (n:=n+1) (.str j) B o r rfl)
end L2
namespace L2
open PySem
theorem bq(h:∀N:St->Hp->Prop,N=u D->t {D with nx:=N} σ H):Gu t u D σ H:=h _ rfl
theorem fG(h:∀T U:St->Hp->Prop,T=t D->U=u D->c σ H λb a=>if b=true then T σ a else U σ a):Gv c t u D σ H:=h _ _ rfl rfl
theorem Vk(h:Q (σ.set i (some v)) H):fM i v σ H Q:=h
theorem bc{N:St->Hp->Prop}(e:N=M)(h:M σ H):N σ H:=e▸h
end L2
namespace DD
open PySem L2
variable {x:Addr}{Z:Addr->Prop}{H H':Hp}{vs:List V}
structure MD where
 M:Int
 ns:List Int
 row:List Int
 ds:List bF
structure Good(M:Int)(ns row:List Int)(ds:List bF):Prop where
 m2:2<=M
 m12:M<=1000000000000
 l1:1<=ns.length
 l4:ns.length<=4
 r12:row.length<=12
 bn:∀z∈ns,0<=z/\z<M
 br:∀z∈row,0<=z/\z<M
 d24:ds.length<=24
 ok:∀d∈ds,d.ok ns.length
abbrev MD.good(d:MD):Prop:=Good d.M d.ns d.row d.ds
instance:Inhabited MD:=⟨(0,[],[],[])⟩
noncomputable def kg (Z:Addr->Prop) (H:Hp):Hp:=λx=> @ite _ (Z x) (Classical.propDecidable _) (some (.own 0)) (H x)
theorem iu(h:¬Z x):kg Z H x=H x:=by unfold kg;rw[if_neg h]
theorem Dw(h:Z x):kg Z H x=some (.own 0):=by unfold kg;rw[if_pos h]
theorem dX(h:kg Z H x=some o)(b:∀k,o≠.own k):¬Z x/\H x=some o:=by
 by_cases a:Z x
 .rw[Dw a]at h;cases h;exact absurd rfl (b 0)
 .rw[iu a]at h;calc(a,h)
theorem PN(h:Z x):kg Z (upd H x o)=kg Z H:=by
 funext b;by_cases a:Z b
 .rw[Dw a,Dw a]
 .rw[iu a,iu a,ay (λe:b=x=>a (e▸h))]
def Cv(H H':Hp):Prop:=∀b o,H b=some o->(∀k,o≠.own k)->H' b=some o
theorem _root_.L2.au.cv(s:au H H'):Cv H H':=λb o e _=>s b o e
def soft:HO->Prop
 | .lst _=>True
 | .dK _=>True
 |_=>False
def Fr(Z:Addr->Prop)(H H':Hp):Prop:=∀b o,H b=some o->(Z b->¬soft o)->H' b=some o
theorem Fr.refl:Fr Z H H:=λ_ _ e _=>e
theorem Fr.trans(a:Fr Z H c)(b:Fr Z c d):Fr Z H d:=λc o e n=>b c o (a c o e n) n
theorem _root_.L2.au.fr(s:au H H'):Fr Z H H':=λb o e _=>s b o e
theorem Fr.at(a:Fr Z H H')(e:H b=some o)(h:¬Z b):H' b=some o:=a b o e λz=>absurd z h
theorem Fr.nO(a:Fr Z H H')(e:H b=some o)(h:¬soft o):H' b=some o:=a b o e λ_=>h
theorem Fr.upd{b:Hp}(a:Fr Z H b){x:Addr}{o u:HO}(h:Z x)(f:b x=some u)(g:soft u):Fr Z H (upd b x o):=λc v e n=>by
 by_cases z:c=x
 .subst z;have d:=a c v e n;rw[f] at d
  cases d;exact absurd g (n h)
 .rw[ay z];calc a c v e n
theorem Fr.mono(a:Fr Z H d)(h:∀b,Z b->c b):Fr c H d:=λc o e n=>a c o e λz=>n (h c z)
theorem Fr.aR(h:Fr Z H H'):cw H H':=λb a e=>h b _ e λ_=>id
theorem Fr.kg(h:Fr Z H H'):Cv (kg Z H) (kg Z H'):=λb o e n=>by
 let(a,b):=dX e n;rw[iu a];calc h.at b a
theorem dY:Cv (kg Z H) H:=λb o e n=>(dX e n).2
theorem Cv.aR(h:Cv H H'):cw H H':=λb a e=>h b _ e (λk z=>by cases z)
theorem _root_.L2.HD.cv(s:Cv H H'){x:V}(h:HD H n x d):HD H' n x d:=by
 induction h with
 |bL=>calc .bL
 |bl b=>calc .bl b
 |int i=>calc .int i
 |str x=>calc .str x
 |tup e l i a=>calc .tup (s _ _ e (λk z=>by cases z)) l a
 |lst e l i a=>calc .lst (s _ _ e (λk z=>by cases z)) l a
 |dict e=>calc .dict (s _ _ e (λk z=>by cases z))
def fz(H:Hp)(n:Nat)(vs:List V)(a:List DV):Prop:=vs.length=a.length/\∀(i:Nat) v d,vs[i]?=some v->a[i]?=some d->HD H n v d
theorem fz.cv(s:Cv H H')(h:fz H n vs a):fz H' n vs a:=(h.1,λi v d a b=>(h.2 i v d a b).cv s)
theorem fz.nil:fz H n [] []:=(rfl,λi v d a=>by simp at a)
theorem fz.mono(h:fz H n vs a)(c:n<=m):fz H m vs a:=(h.1,λi v d a b=>(h.2 i v d a b).mono c)
theorem fz.app(h:fz H n vs a)(g:fz H n us b):fz H n (vs++us) (a++b):=by
 calc(by simp[h.1,g.1],λi v d a b=>?_);by_cases c:i<vs.length
 .rw[aag c]at a;rw[aag (by rw[<-h.1];calc c)]at b;exact h.2 i _ _ a b
 .rw[aad ()]at a;rw[aad (by rw[<-h.1];lia),<-h.1]at b;calc g.2 _ _ _ a b
theorem fz.one(h:HD H n v d):fz H n [v] [d]:=by
 refine(rfl,λi u e a b=>?_)
 cases i with
 |zero=>simp at a b;subst a b;calc h
 |succ i=>simp at a
theorem fz.set(h:fz H n vs c)(g:HD H n v d)(k:Nat):fz H n (vs.set k v) (c.set k d):=by
 calc(by simp[h.1],λi u e a b=>?_);rw[List.getElem?_set]at a b;by_cases f:k=i
 .rw[if_pos f] at a b;split at a
  .rw[if_pos (by rw[<-h.1];assumption)]at b;cases a;cases b;exact g
  .cases a
 .rw[if_neg f]at a b;calc h.2 i u e a b
theorem fz.ints(c:List Int):fz H n (c.map V.int) (c.map DV.int):=by
 calc(nofun,λi v d a b=>?_);rw[K']at a b
 cases e:c[i]? with
 |none=>rw[e]at a;cases a
 |some z=>rw[e]at a b;cases a;cases b;calc .int z
theorem fz.u6{a:List Int}(h:fz H n vs (a.map DV.int)):vs=a.map V.int:=by
 apply ac8 (h.1:);intro j d b;have c:j<a.length:=(b:)
 have:=h.2 j vs[j] (.int a[j]) nofun (by simp[c]);simp only[List.getElem_map];generalize vs[j]=y at this
 cases this;rfl
theorem fz.get(h:fz H n vs a){i:Nat}(e:a[i]?=some d):∃v,vs[i]?=some v/\HD H n v d:=by
 have b:i<a.length:=(iF e).1;have a:i<vs.length:=by rw[h.1];exact b
 calc(vs[i],nofun,h.2 i _ _ nofun e)
inductive CO where
 |l (ds:List DV)|d (g:Int->Option DV) (n:Nat)
def OR(H:Hp):CO->HO->Prop
 | .l a,.lst vs=>fz H 4 vs a
 | .d g n,.dK a=>a.length<=n/\∀k:Int,match g k with
  |none=>fN a (Sum.inl k)=none
  |some d=>∃v,fN a (Sum.inl k)=some v/\HD H 4 v d
 |_,_=>False
theorem OR.cv(s:Cv H H')(h:OR H c o):OR H' c o:=by
 cases c with
 |l a=>
  cases o with
  |lst vs=>calc fz.cv s h
  |_=>calc aaW h
 |d g n=>
  cases o with
  |dK a=>
   calc(h.1,λk=>?_);have:=h.2 k;revert this
   cases g k with
   |none=>calc id
   |some d=>calc λ⟨v,e,a⟩=>(v,e,a.cv s)
  |_=>calc aaW h
def FP(n:Nat->Nat)(ad:js)(b:Addr):Prop:=∃t i,i<n t/\b=ad t i
structure dZ(F:Addr->Prop)(H:Hp)(n:Nat->Nat)(ad:js)(ct:Nat->Nat->CO):Prop where
 inj:∀t i t' i',i<n t->i'<n t'->ad t i=ad t' i'->t=t'/\i=i'
 out:∀t i,i<n t->¬F (ad t i)
 Oa:∀t i,i<n t->∃o,H (ad t i)=some o/\OR (kg (λb=>F b\/FP n ad b) H) (ct t i) o
noncomputable def setC(ct:Nat->Nat->CO)(t i:Nat)(c:CO):Nat->Nat->CO:=λt' a=>if t'=t/\a=i then c else ct t' a
section
variable {F:Addr->Prop}{H:Hp}{n:Nat->Nat}{ad:js}{ct:Nat->Nat->CO}
theorem dZ.keep(h:dZ F H n ad ct)(a:Fr F H H'):dZ F H' n ad ct:=
 (h.inj,h.out,λt i c=>by
  let(o,e,r):=h.Oa t i c;calc(o,a.at e (h.out t i c),r.cv (a.mono λb z=>.inl z).kg))
theorem dZ.same(h:dZ F H n ad ct)(s:au H H'):dZ F H' n ad ct:=h.keep s.fr
theorem dZ.congr(h:dZ F H n ad ct)(e:∀t i,i<n t->ct t i=ct' t i):dZ F H n ad ct':=
 (h.inj,h.out,λt i a=>by rw[<-e t i a];calc h.Oa t i a)
theorem dZ.upd(h:dZ F H n ad ct){t i:Nat}(a:i<n t){c:CO}{o:HO}(r:OR (kg (λb=>F b\/FP n ad b) H) c o):dZ F (upd H (ad t i) o) n ad (setC ct t i c):=by
 have c:(λb=>F b\/FP n ad b) (ad t i):=.inr (t,i,a,rfl);calc(h.inj,h.out,λd f g=>?_);rw[PN c];by_cases e:d=t/\f=i
 .let(rfl,rfl):=e;exact(o,af,by unfold setC;rw[if_pos (rfl,rfl)];calc r)
 .let(b,c,i):=h.Oa d f g;calc(b,?_,by unfold setC;rw[if_neg e];calc i);rw[ay (λz=>e (h.inj _ _ _ _ g a z))];calc c
theorem dZ.lst(h:dZ F H n ad ct)(c:i<n t)(e:ct t i=.l a):∃vs,H (ad t i)=some (.lst vs)/\fz (kg (λb=>F b\/FP n ad b) H) 4 vs a:=by
 let(o,d,r):=h.Oa t i c;rw[e]at r
 cases o with
 |lst vs=>calc(vs,d,r)
 |_=>calc r.elim
theorem dZ.dct(h:dZ F H n ad ct)(c:i<n t)(e:ct t i=.d g N):∃a,H (ad t i)=some (.dK a)/\OR (kg (λb=>F b\/FP n ad b) H) (.d g N) (.dK a):=by
 let(o,f,r):=h.Oa t i c;rw[e]at r
 cases o with
 |dK vs=>calc(vs,f,r)
 |_=>calc r.elim
theorem dZ.app(h:dZ F H n ad ct)(a:i<n t)(e:ct t i=.l c)(j:H (ad t i)=some (.lst vs))(g:fz (kg (λb=>F b\/FP n ad b) H) 4 us d):
  dZ F (L2.upd H (ad t i) (.lst (vs++us))) n ad (setC ct t i (.l (c++d))):=by
 let(b,f,r):=h.lst a e;rw[j]at f
 cases f;calc h.upd a (show fz _ 4 _ _ from r.app g)
theorem dZ.set(h:dZ F H n ad ct)(a:i<n t)(e:ct t i=.l c)(j:H (ad t i)=some (.lst vs))(g:HD (kg (λb=>F b\/FP n ad b) H) 4 v d):
  dZ F (L2.upd H (ad t i) (.lst (vs.set k v))) n ad (setC ct t i (.l (c.set k d))):=by
 let(b,f,r):=h.lst a e;rw[j]at f
 cases f;calc h.upd a (show fz _ 4 _ _ from r.set g k)
theorem OR.soft{c:CO}{o:HO}(h:OR H c o):soft o:=by
 cases c<;>cases o<;>first|trivial|calc aaW h
theorem dZ.soft(h:dZ F H n ad ct)(a:i<n t):∃o,H (ad t i)=some o/\DD.soft o:=by
 let(o,e,r):=h.Oa t i a;calc(o,e,r.soft)
theorem dZ.fp(h:dZ F H n ad ct)(a:FP n ad b):∃o,H b=some o/\DD.soft o:=by
 let(t,i,c,rfl):=a;calc h.soft c
theorem dZ.ne(h:dZ F H n ad ct)(e:H b=some o)(c:¬DD.soft o):¬FP n ad b:=λz=>by
 let(u,a,d):=h.fp z;rw[e]at a;cases a;calc c d
theorem dZ.ht(h:dZ F H n ad ct)(c:∀b,F b->∃o,H b=some o/\DD.soft o){x:V}(g:HT H m x d):HD (DD.kg (λb=>F b\/FP n ad b) H) m x d:=by
 calc HT.hd (g.aL λb d e=>?_);rw[iu]
 .exact e
 .rintro(z | z)
  .let(o,a,f):=c b z;rw[e]at a;cases a;exact f
  .calc h.ne e id z
end
end DD
namespace DD
open PySem L2
variable {B i:Nat}
noncomputable def _root_.List.bM{α:Type}(l:List α)(d:α):α:=l.getD (l.length-1) d
theorem getD_at{α:Type}{l:List α}{x d:α}(h:l[i]?=some x):l.getD i d=x:=by rw[W',h];rfl
theorem aP{α:Type}{l:List α}{d:α}(h:i<l.length):l[i]?=some (l.getD i d):=by rw[W',cJ h];rfl
theorem getD_mem{α:Type}{l:List α}{d:α}(h:i<l.length):l.getD i d∈l:=aaF (aP h)
theorem u7:(l++[x]).bM d=x:=by
 unfold List.bM;calc getD_at nofun
theorem iP{α:Type}{l:List α}{d:α}(h:1<=l.length):l.bM d∈l:=getD_mem ()
theorem lZ{α:Type}{l:List α}{d:α}(h:1<=l.length):l[l.length-1]?=some (l.bM d):=aP ()
structure MS where
 fH:List (List Int×List Int)
 wp:List (List Int)
 hr:List (List Int)
structure WY where
 say:List Int
 snd:List (Option (Int×Int))
 cE:List (Option (Int×Int))
structure RS where
 picks:List (Int×Int)
 mm:Nat->MS
 ww:Nat->WY
structure NT where
 ms:List MD
 ws:List (Int×Int×Str)
noncomputable def pairD(p:Int×Int):DV:=.tup [.int p.1,.int p.2]
noncomputable def nQ:Option (Int×Int)->DV
 |none=>.bL
 |some p=>pairD p
noncomputable def u9(s:List Int×List Int):DV:=AW s.1 s.2
noncomputable def NT.M(n:NT)(m:Nat):Int:=(n.ms.getD m default).M
noncomputable def NT.nn(n:NT)(m:Nat):Nat:=(n.ms.getD m default).ns.length
noncomputable def NT.ds(n:NT)(m:Nat):List bF:=(n.ms.getD m default).ds
noncomputable def NT.w(n:NT)(w:Nat):Int×Int×Str:=n.ws.getD w ((0),0,"")
noncomputable def NT.outs(n:NT)(m:Int):List Nat:=(List.range n.ws.length).filter λi=>decide ((n.w i).1=m)
noncomputable def NT.ins(n:NT)(m:Int):List Nat:=(List.range n.ws.length).filter λi=>decide ((n.w i).2.1=m)
noncomputable def NT.goal(n:NT)(w:Nat):Nat:=(n.w w).2.1.toNat
noncomputable def NT.place(n:NT)(w:Nat):Nat:=(n.ins (n.w w).2.1).idxOf w
noncomputable def RS.put(r:RS)(w:Nat)(x:Int)(s:Option (Int×Int)):RS:=
 {r with ww:=λk=>if k=w then((r.ww w).say++[x],(r.ww w).snd++[s],(r.ww w).cE++[none]) else r.ww k}
noncomputable def RS.send(r:RS)(outs:List Nat)(ev:Int×Int):List (Int×Int)->RS
 | []=>r
 |p::a=>(if p.1.toNat<outs.length then r.put (outs.getD p.1.toNat 0) p.2 (some ev) else r).send outs ev a
noncomputable def NT.work(n:NT)(r:RS)(w k:Nat):WS:=
 qb (n.M (n.goal w)) (n.place w) ((r.ww w).say.getD k 0) (n.ds (n.goal w)) ((r.mm (n.goal w)).fH.bM (([]),[])).1 ((r.mm (n.goal w)).fH.bM (([]),[])).2
noncomputable def NT.ev(n:NT)(r:RS)(w:Nat):Int×Int:=(((n.goal w:Nat)),((r.mm (n.goal w)).fH.length:Nat))
noncomputable def NT.gH(n:NT)(r:RS)(w k:Nat):List Int:=
 let m:=n.goal w
 let b:=(r.mm m).hr.bM (List.replicate n.ms.length 0)
 let a:=match (r.ww w).snd.getD k none with
  |none=>b
  |some ((s),c)=>List.zipWith max b ((r.mm s.toNat).hr.getD (c-1).toNat [])
 a.set m (n.ev r w).2
noncomputable def RS.step(n:NT)(r:RS)(w k:Nat):RS:=
 let m:=n.goal w
 let res:=n.work r w k
 {picks:=r.picks++[(((w:Int)),(k:Int))]
  mm:=λi=>if i=m then((r.mm m).fH++[((res.ns),res.row)],(r.mm m).wp++[(r.mm m).wp.bM []++res.words],(r.mm m).hr++[n.gH r w k]) else r.mm i
  ww:=λi=>if i=w then {(r.ww w) with cE:=(r.ww w).cE.set k (some (n.ev r w))} else r.ww i}
noncomputable def RS.pick(n:NT)(r:RS)(w k:Nat):RS:=(r.step n w k).send (n.outs (n.goal w)) (n.ev r w) (n.work r w k).cM
noncomputable def RS.kr(r:RS):List (Int×Int)->RS
 | []=>r
 |p::a=>(r.put p.1.toNat p.2 none).kr a
noncomputable def RS.new(n:NT):RS:=([],λm=>([(((n.ms.getD m default).ns),(n.ms.getD m default).row)],[[]],[]),λ_=>([],[],[]))
noncomputable def RS.begin(n:NT)(a:jr):RS:=(RS.new n).kr a
noncomputable def jq(l:List (Option (Int×Int)))(k:Int):Option DV:=if 0<=k then(l.getD k.toNat none).map pairD else none
noncomputable def RS.ct(r:RS):Nat->Nat->CO
 |0,_=>.l (r.picks.map pairD)
 |1,m=>.l ((r.mm m).fH.map u9)
 |2,m=>.l ((r.mm m).wp.map λw=>.int (w.length:Nat))
 |3,m=>.l (((r.mm m).wp.bM []).map .int)
 |4,w=>.l ((r.ww w).say.map .int)
 |5,w=>.l ((r.ww w).snd.map nQ)
 |_,w=>.l ((r.ww w).cE.map nQ)
noncomputable def NT.n(n:NT):Nat->Nat
 |0=>1
 |1=>n.ms.length
 |2=>n.ms.length
 |3=>n.ms.length
 |4=>n.ws.length
 |5=>n.ws.length
 |6=>n.ws.length
 |_=>0
structure NT.Ok(n:NT):Prop where
 K4:n.ms.length<=5
 ms1:1<=n.ms.length
 Ho:n.ws.length<=10
 good:∀d∈n.ms,d.good
 K5:∀w∈n.ws,0<=w.1/\w.1<n.ms.length/\0<=w.2.1/\w.2.1<n.ms.length/\(w.2.2="row"\/w.2.2="heap")
structure PQ(M:Int)(nn:Nat)(s:List Int×List Int):Prop where
 ln:s.1.length=nn
 bn:∀z∈s.1,0<=z/\z<M
 lr:s.2.length<=12
structure RS.Ok(n:NT)(r:RS):Prop where
 lw:∀m,m<n.ms.length->(r.mm m).fH.length=(r.mm m).wp.length
 lh:∀m,m<n.ms.length->(r.mm m).fH.length=(r.mm m).hr.length+1
 so:∀m,m<n.ms.length->∀s∈(r.mm m).fH,PQ (n.M m) (n.nn m) s
 hl:∀m,m<n.ms.length->∀h∈(r.mm m).hr,h.length=n.ms.length
 ls:∀w,w<n.ws.length->(r.ww w).say.length=(r.ww w).snd.length
 lk:∀w,w<n.ws.length->(r.ww w).say.length=(r.ww w).cE.length
 sd:∀w,w<n.ws.length->∀s c,some ((s),c)∈(r.ww w).snd->0<=s/\s<n.ms.length/\1<=c/\c<=(r.mm s.toNat).hr.length
 bp:∀m,m<n.ms.length->(r.mm m).fH.length<=r.picks.length+1
 bw:∀m,m<n.ms.length->∀w∈(r.mm m).wp,w.length<=24*r.picks.length
 bs:∀w,w<n.ws.length->(r.ww w).say.length<=20+24*r.picks.length
 ZG:∀m,m<n.ms.length->∀u∈(r.mm m).wp,u <+:(r.mm m).wp.bM []
theorem Bf:∀(f:Nat) (b:List bF) (s:WS),(∀d∈b,d.ok n)->(∀p∈s.cM,0<=p.1)->∀p∈(AX M way said f b s).cM,0<=p.1
 |0,_,s,_,h=>h
 |f+1,[],s,_,h=>h
 |f+1,d::r,s,c,h=>by
  calc Bf f _ _ (λe b=>c e (aar _ (List.mem_of_mem_drop b))) ?_;intro p a;have a:p∈s.cM++iV ((d.vals.map (gv M way said s.ns s.row)).getD 0 0) d:=a;rcases List.mem_append.mp a with a|a
  .exact h p a
  .have g:=c d (aaM ..)
   cases d with
   |send j v=>
    simp only[iV,List.mem_singleton]at a;subst a;calc g.1
   |_=>simp only[iV,List.not_mem_nil]at a
theorem E3{M way said:Int}:∀(f:Nat) (a:List bF) (s:WS),(AX M way said f a s).cM.length<=s.cM.length+a.length/\(AX M way said f a s).words.length<=s.words.length+a.length/\(AX M way said f a s).ns.length=s.ns.length
 |0,_,s=>(ab0 ..,ab0 ..,rfl)
 |f+1,[],s=>(S' _,S' _,rfl)
 |f+1,d::r,s=>by
  let(a,b,c):=E3 (M:=M) (way:=way) (said:=said) f (r.drop (nY M way said d s).toNat) (lL M way said d s);have a:(lL M way said d s).cM.length<=s.cM.length+1:=by
   show(s.cM++iV _ d).length<=_
   cases d<;>simp[iV]
  have a:(lL M way said d s).words.length<=s.words.length+1:=by
   show(s.words++gG _ d).length<=_
   cases d<;>simp[gG]
  have a:(lL M way said d s).ns.length=s.ns.length:=qV;have a:(r.drop (nY M way said d s).toNat).length<=r.length:=nofun;refine(?_,?_,?_)
  .show(AX M way said f _ _).cM.length<=_;simp only[List.length_cons];lia
  .show(AX M way said f _ _).words.length<=_;simp only[List.length_cons];lia
  .show(AX M way said f _ _).ns.length=_;lia
theorem E4(c:0<M):∀(f:Nat) (e:List bF) (s:WS),(∀z∈s.ns,0<=z/\z<M)->s.row.length<=12->(∀z∈(AX M way said f e s).ns,0<=z/\z<M)/\(AX M way said f e s).row.length<=12
 |0,_,s,h,g=>(h,g)
 |f+1,[],s,h,g=>(h,g)
 |f+1,d::r,s,h,g=>by
  refine E4 c f _ _ ?_ ?_
  .have b:∀y:Int,0<=y % M/\y % M < M:=λy=>(aby _ (),abF _ c)
   have a:∀(j:Nat) (y:Int),(0<=y/\y<M)->∀z∈s.ns.set j y,0<=z/\z<M:=λj y k z l=>by
    rcases List.mem_or_eq_of_mem_set l with c|c
    .exact h z c
    .rw[c];exact k
   show ∀z∈kq M s.ns ((d.vals.map (gv M way said s.ns s.row)).getD 0 0) d,0<=z/\z<M
   cases d with
   |set i v=>calc a _ _ (b _)
   |add i v=>calc a _ _ (b _)
   |times i v=>calc a _ _ (b _)
   |_=>exact h
  .show(p9 s.row ((d.vals.map (gv M way said s.ns s.row)).getD 0 0) d).length<=12
   cases d with
   |put v=>
    simp only[p9];split
    .simp;lia
    .calc g
   |drop=>simp only[p9,List.length_tail];lia
   |_=>calc g
section
variable {n:NT}{r:RS}
theorem NT.Ok.gd(h:n.Ok)(a:m<n.ms.length):(n.ms.getD m default).good:=by
 calc h.good _ (getD_mem a)
theorem NT.Ok.wy(h:n.Ok){w:Nat}(a:w<n.ws.length):0<=(n.w w).1/\(n.w w).1<n.ms.length/\0<=(n.w w).2.1/\(n.w w).2.1<n.ms.length/\((n.w w).2.2="row"\/(n.w w).2.2="heap"):=by
 calc h.K5 _ (getD_mem a)
theorem NT.Ok.jz(h:n.Ok){w:Nat}(a:w<n.ws.length):n.goal w<n.ms.length:=by
 have:=h.wy a;unfold NT.goal;lia
theorem RS.Ok.y6(h:r.Ok n)(a:m<n.ms.length):1<=(r.mm m).fH.length:=by rw[h.lh m a];lia
theorem RS.Ok.last(h:r.Ok n)(a:m<n.ms.length):PQ (n.M m) (n.nn m) ((r.mm m).fH.bM (([]),[])):=h.so m a _ (iP (h.y6 a))
theorem tZ(a:n.Ok)(h:r.Ok n)(c:w<n.ws.length)(k:Nat):PQ (n.M (n.goal w)) (n.nn (n.goal w)) (((n.work r w k).ns),(n.work r w k).row)/\(n.work r w k).cM.length<=24/\(n.work r w k).words.length<=24/\∀p∈(n.work r w k).cM,0<=p.1:=by
 have b:=a.jz c;have g:=a.gd b;have l:=h.last b;have a:(n.ds (n.goal w)).length<=24:=g.d24;have b:0<n.M (n.goal w):=by have:=g.m2;show 0<(n.ms.getD (n.goal w) default).M;lia
 let(d,e,f):=E3 (M:=n.M (n.goal w)) (way:=n.place w) (said:=(r.ww w).say.getD k 0) (n.ds (n.goal w)).length (n.ds (n.goal w)) (((r.mm (n.goal w)).fH.bM (([]),[])).1,((r.mm (n.goal w)).fH.bM (([]),[])).2,[],[]);let(h,i):=E4 b (way:=n.place w) (said:=(r.ww w).say.getD k 0) (n.ds (n.goal w)).length (n.ds (n.goal w)) (((r.mm (n.goal w)).fH.bM (([]),[])).1,((r.mm (n.goal w)).fH.bM (([]),[])).2,[],[]) l.bn l.lr;have c:=Bf (M:=n.M (n.goal w)) (way:=n.place w) (said:=(r.ww w).say.getD k 0) (n:=n.nn (n.goal w)) (n.ds (n.goal w)).length (n.ds (n.goal w)) (((r.mm (n.goal w)).fH.bM (([]),[])).1,((r.mm (n.goal w)).fH.bM (([]),[])).2,[],[]) g.ok (λp b=>by simp at b);refine((?_,h,i),?_,?_,c)
 .exact f.trans l.ln
 .exact aaL d (a:)
 .calc aaL e (a:)
structure RS.v9(n:NT)(r:RS)(B:Nat):Prop where
 lw:∀m,m<n.ms.length->(r.mm m).fH.length=(r.mm m).wp.length
 lh:∀m,m<n.ms.length->(r.mm m).fH.length=(r.mm m).hr.length+1
 so:∀m,m<n.ms.length->∀s∈(r.mm m).fH,PQ (n.M m) (n.nn m) s
 hl:∀m,m<n.ms.length->∀h∈(r.mm m).hr,h.length=n.ms.length
 ls:∀w,w<n.ws.length->(r.ww w).say.length=(r.ww w).snd.length
 lk:∀w,w<n.ws.length->(r.ww w).say.length=(r.ww w).cE.length
 sd:∀w,w<n.ws.length->∀s c,some ((s),c)∈(r.ww w).snd->0<=s/\s<n.ms.length/\1<=c/\c<=(r.mm s.toNat).hr.length
 bp:∀m,m<n.ms.length->(r.mm m).fH.length<=r.picks.length+1
 bw:∀m,m<n.ms.length->∀w∈(r.mm m).wp,w.length<=24*r.picks.length
 bs:∀w,w<n.ws.length->(r.ww w).say.length<=B
 ZG:∀m,m<n.ms.length->∀u∈(r.mm m).wp,u <+:(r.mm m).wp.bM []
theorem RS.v9.ok(h:r.v9 n B)(a:B<=20+24*r.picks.length):r.Ok n:=(h.lw,h.lh,h.so,h.hl,h.ls,h.lk,h.sd,h.bp,h.bw,λw b=>aaL (h.bs w b) a,h.ZG)
theorem RS.v9.put(h:r.v9 n B){s:Option (Int×Int)}(g:∀a c,s=some ((a),c)->0<=a/\a<n.ms.length/\1<=c/\c<=(r.mm a.toNat).hr.length):(r.put w x s).v9 n (B+1):=by
 have e:∀k,(r.put w x s).ww k=if k=w then((r.ww w).say++[x],(r.ww w).snd++[s],(r.ww w).cE++[none]) else r.ww k:=λk=>rfl
 refine(h.lw,h.lh,h.so,h.hl,λv b=>?_,λv b=>?_,λv b a c d=>?_,h.bp,h.bw,λv b=>?_,h.ZG)
 .rw[e];split
  .next z=>subst z;simp[h.ls v b]
  .exact h.ls v b
 .rw[e];split
  .next z=>subst z;simp[h.lk v b]
  .exact h.lk v b
 .rw[e] at d;split at d
  .next z=>
   subst z;rcases List.mem_append.mp d with d|d
   .exact h.sd v b a c d
   .simp at d;exact g a c d.symm
  .exact h.sd v b a c d
 .rw[e];split
  .next z=>subst z;have:=h.bs v b;simp;lia
  .have:=h.bs v b;lia
theorem RS.v9.mono(h:r.v9 n B)(b:B<=a):r.v9 n a:={h with bs:=λw a=>aaL (h.bs w a) b}
theorem RS.v9.send{ev:Int×Int}:∀(b:jr) {r:RS}{B:Nat},r.v9 n B->(∀a c,some ev=some ((a),c)->0<=a/\a<n.ms.length/\1<=c/\c<=(r.mm a.toNat).hr.length)->(r.send outs ev b).v9 n (B+b.length)
 | [],r,B,h,_=>h
 |p::b,r,B,h,d=>by
  show((if p.1.toNat<outs.length then r.put (outs.getD p.1.toNat 0) p.2 (some ev) else r).send outs ev b).v9 n _;have e:B+(p::b).length=B+1+b.length:=by simp;lia
  rw[e];split
  .exact RS.v9.send b (h.put d) d
  .calc RS.v9.send b (h.mono ()) d
theorem RS.kN:∀(a:jr) {r:RS},(r.send outs ev a).mm=r.mm/\(r.send outs ev a).picks=r.picks
 | [],r=>(rfl,rfl)
 |p::a,r=>by
  show((if p.1.toNat<outs.length then r.put (outs.getD p.1.toNat 0) p.2 (some ev) else r).send outs ev a).mm=_/\((if p.1.toNat<outs.length then r.put (outs.getD p.1.toNat 0) p.2 (some ev) else r).send outs ev a).picks=_;split
  .exact RS.kN a
  .calc RS.kN a
theorem Dx{u v w:List Int}(h:u <+:v):u <+:v++w:=by
 let(t,rfl):=h;calc(t++w,nofun)
theorem Bg(o:n.Ok)(h:r.Ok n)(j:w<n.ws.length):(n.gH r w k).length=n.ms.length:=by
 have p:=o.jz j;have m:((r.mm (n.goal w)).hr.bM (List.replicate n.ms.length 0)).length=n.ms.length:=by
  by_cases f:1<=(r.mm (n.goal w)).hr.length
  .exact h.hl _ p _ (iP f)
  .have e:(r.mm (n.goal w)).hr=[]:=by
    cases q:(r.mm (n.goal w)).hr with
    |nil=>rfl
    |cons a b=>rw[q]at f;simp at f
   rw[e];simp[List.bM]
 unfold NT.gH;simp only[List.length_set];split
 .exact m
 .next s c e=>
  have g:k<(r.ww w).snd.length:=by
   by_cases g:k<(r.ww w).snd.length
   .exact g
   .rw[W',List.getElem?_eq_none ()]at e;cases e
  have t:some ((s),c)∈(r.ww w).snd:=by rw[<-e];exact getD_mem g
  let(u,v,x,y):=h.sd w j s c t;have:=h.hl s.toNat () _ (getD_mem (l:=(r.mm s.toNat).hr) (i:=(c-1).toNat) (d:=[]) ());rw[ac6,m,this];lia
theorem RS.Ok.step(t:n.Ok)(h:r.Ok n)(p:w<n.ws.length):(r.step n w k).v9 n (20+24*r.picks.length):=by
 have g:=t.jz p;let(A,F,G,H):=tZ t h p k;have j:∀i,(r.step n w k).mm i=if i=n.goal w then((r.mm (n.goal w)).fH++[(((n.work r w k).ns),(n.work r w k).row)],(r.mm (n.goal w)).wp++[(r.mm (n.goal w)).wp.bM []++(n.work r w k).words],(r.mm (n.goal w)).hr++[n.gH r w k]) else r.mm i:=λi=>rfl
 have q:∀i,(r.step n w k).ww i=if i=w then {(r.ww w) with cE:=(r.ww w).cE.set k (some (n.ev r w))} else r.ww i:=λi=>rfl
 have x:(r.step n w k).picks.length=r.picks.length+1:=by show(r.picks++[_]).length=_;simp
 refine(λm f=>?_,λm f=>?_,λm f s b=>?_,λm f s b=>?_,λv o=>?_,λv o=>?_,λv o a c b=>?_,λm f=>?_,λm f u e=>?_,λv o=>?_,λm f u e=>?_)
 .rw[j];split
  .simp[h.lw _ g]
  .exact h.lw m f
 .rw[j];split
  .simp[h.lh _ g]
  .exact h.lh m f
 .rw[j] at b;split at b
  .next z=>
   subst z;rcases List.mem_append.mp b with b|b
   .exact h.so _ g s b
   .simp at b;subst b;exact A
  .exact h.so m f s b
 .rw[j] at b;split at b
  .rcases List.mem_append.mp b with b | b
   .exact h.hl _ g s b
   .simp at b;subst b;exact Bg t h p
  .exact h.hl m f s b
 .rw[q];split
  .exact h.ls w p
  .exact h.ls v o
 .rw[q];split
  .simp[h.lk w p]
  .exact h.lk v o
 .have B:some ((a),c)∈(r.ww v).snd:=by
   rw[q]at b;split at b
   .next z=>subst z;exact b
   .exact b
  let(C,D,E,y):=h.sd v o a c B;calc(C,D,E,?_);rw[j];split
  .next z=>rw[z]at y;simp;lia
  .exact y
 .rw[j,x];split
  .have:=h.bp _ g;simp;lia
  .have:=h.bp _ f;lia
 .rw[x];rw[j] at e;split at e
  .rcases List.mem_append.mp e with e | e
   .have:=h.bw _ g u e;lia
   .simp at e;subst e;have:=h.bw _ g _ (iP (l:=(r.mm (n.goal w)).wp) (d:=[]) (by rw[<-h.lw _ g];calc h.y6 g));simp;lia
  .have:=h.bw _ f u e;lia
 .rw[q];split
  .exact h.bs w p
  .exact h.bs v o
 .rw[j] at e ⊢;split at e
  .next z=>
   rw[if_pos z];show u <+:((r.mm (n.goal w)).wp++[_]).bM [];rw[u7];rcases List.mem_append.mp e with e|e
   .exact Dx (h.ZG _ g u e)
   .simp at e;subst e;exact List.prefix_refl _
  .next z=>rw[if_neg z];calc h.ZG m f u e
theorem RS.Ok.pick(a:n.Ok)(h:r.Ok n)(b:w<n.ws.length):(r.pick n w k).Ok n/\(r.pick n w k).picks=r.picks++[(((w:Int)),(k:Int))]:=by
 have d:=a.jz b;let(c,f,g,i):=tZ a h b k;have s:=RS.v9.send (outs:=n.outs (n.goal w)) (ev:=n.ev r w) (n.work r w k).cM (h.step a b (k:=k)) (λa c e=>by
  cases e;refine((),(),?_,?_)
  .have:=h.y6 d;lia
  .have a:(r.step n w k).mm (n.goal w)=((r.mm (n.goal w)).fH++[(((n.work r w k).ns),(n.work r w k).row)],(r.mm (n.goal w)).wp++[(r.mm (n.goal w)).wp.bM []++(n.work r w k).words],(r.mm (n.goal w)).hr++[n.gH r w k]):=if_pos rfl;rw[show((n.goal w:Nat):Int).toNat=n.goal w from aal _,a,h.lh _ d];simp)
 have a:=(RS.kN (outs:=n.outs (n.goal w)) (ev:=n.ev r w) (n.work r w k).cM (r:=r.step n w k)).2;calc(s.ok ?_,a);rw[a];show _<=20+24*(r.picks++[_]).length;simp;lia
end
end DD
namespace L2
open PySem PySem.Spec PyProof.Rows Builtin Builtin.Str
theorem va(f:X.calm=true)(a:X.N.Nodup)(g:X.N[i]?=some x)(h:X.N[j]?=some y)(m:X.N[l]?=some z)(n:Loc X.env.scope x)(o:Loc X.env.scope y)(p:Loc X.env.scope z)(q:X.fn x=true\/X.env.scope.names.lookup x=some .local:=by grind)(r:X.fn y=true\/X.env.scope.names.lookup y=some .local:=by grind)(b:X.fn z=true\/X.env.scope.names.lookup z=some .local:=by grind):
  PG X (.Tuple [.Name x c,.Name y d,.Name z e] k pos) (Gx X.K 3 (ki (fM i) (ki (fM j) (ki (fM l) Gw)))):=CH f (iR (aT a g n q) (iR (aT a h o r) (iR (aT a m p b) yw)))
theorem Hr{K:W.Frag}(e:X.K=K)(f:X.calm=true)(g:X.N.Nodup)(h:X.N[i]?=some x)(m:X.N[j]?=some y)(n:X.N[l]?=some z)(o:Loc X.env.scope x)(p:Loc X.env.scope y)(q:Loc X.env.scope z)(r:X.fn x=true\/X.env.scope.names.lookup x=some .local:=by grind)(s:X.fn y=true\/X.env.scope.names.lookup y=some .local:=by grind)(a:X.fn z=true\/X.env.scope.names.lookup z=some .local:=by grind):
  PG X (.Tuple [.Name x b,.Name y c,.Name z d] k pos) (Gx K 3 (ki (fM i) (ki (fM j) (ki (fM l) Gw)))):=e▸va f g h m n o p q r s a
end L2
namespace L2
open PySem PyProof.Rows
theorem Xw(h:a+64<b):a+1<b:=by lia
noncomputable def Dy(z:Int):Value->Bool
 | .int i _=>i==z
 |_=>false
theorem vb:∀{c:List Int}{us:List Value},Vals (c.map V.int) us->us.length=c.length/\∀(i:Nat) u z,us[i]?=some u->c[i]?=some z->∃t,u=.int z t
 | [],_,.nil=>(rfl,λi u z h=>by simp at h)
 |n::c,_,.cons r t=>by
  let(l,h):=vb t;refine(by simp[l],λi u z a b=>?_)
  cases i with
  |zero=>simp at a b;subst a b;calc r
  |succ i=>calc h i u z (a:) (b:)
def PR:V->List V->Hp->VK->Prop:=λx vs H Q=>∃(a:Addr) (b:List Int) (j:Nat) (z:Int),x=.ref a/\vs=[.int z]/\H a=some (.lst (b.map V.int))/\b[j]?=some z/\(∀i y,i<j->b[i]?=some y->y≠z)/\Q (.int j) H
theorem xN:Xm X "list.index" PR:=by
 intro k s σ H x O v P Q I r D h;let(a,d,j,z,rfl,rfl,E,l,G,q):=h
 cases r;let(u,rfl,o,rfl):=D.one;let(b,r,J,k):=I.list (aS.of E);let(h,K):=vb r;have h:j<d.length:=(iF l).1;have p:(d.map V.int).length<=sizeLine:=k;rw[V']at p;let((r,s,h,L),n,w,A,B,e):=id J;simp only at A B e;subst A B e;have h:j<b.length:=();have c:∀m (f:m<b.length),∃y t,d[m]?=some y/\b[m]=.int y t:=λm f=>by
  have C:m<d.length:=();let(t,e):=K m b[m] d[m] nofun nofun;exact(d[m],t,nofun,e)
 refine call_meets PySem.F.slot_list_index (_,w,rfl) PySem.F.entry_list_index (PySem.F.args_list_index_2 _ _) (SeqAt.list_indexAt a b.toArray n none L (.int z o) (Dy z) j (h:) (by rw[abb]at p;lia) ?_ ?_) (w,λy M=>?_,?_)
 .let(y,t,g,i):=c j h;rw[l] at g
  cases g;simp[i,Dy]
 .intro m f a;have C:m < b.length:=(f:)
  let(y,t,g,i):=c m C;have:=G m y a g;simp[i,Dy,this]
 .have N:y ∈ b:=(M:)
  let(m,f,rfl):=List.getElem_of_mem N;let(y,t,g,i):=c m f;rw[i];exact SeqAt.EqAt.int_int y t z o
 .calc(.int _,H,I.tok _,(_,rfl),q)
end L2
namespace L2
open PySem PySem.Spec PyProof.Rows
def ZH(K:W.Frag):V->Option Int->Option Int->Hp->VK->Prop:=λx lo b H Q=>match x with
 | .ref a=>∃xs,aS K H a xs/\∀p,H p=none->Q (.ref p) (upd H p (.lst (eD xs lo b)))
 |_=>False
theorem afh:YU X (ZH X.K):=by
 intro a s σ H x v b c d e f Q I g i j k h
 cases x<;>first
  |calc(show False from h).elim
  |skip
 let(l,m,q):=h;calc EG a s σ H _ v b c d e f Q I g i j k (_,l,rfl,m,q)
theorem K6{lo:Option Expr}(g:PE X e a)(h:PO X lo c)(i:PO X b d):PE X (.Subscript e (.Slice lo b none f) pos) (YV (ZH X.K) a c d):=Aq afh g h i
theorem E5{xs:List V}{i j:Nat}:(eD xs (some (i:Int)) (some (j:Int))).length<=j-i:=by
 unfold eD;rw[show HT.fm xs.length 0 (some (i:Int))=min i xs.length from HT.EA _ _ i,show HT.fm xs.length xs.length (some (j:Int))=min j xs.length from HT.EA _ _ j,aa1];calc aaL (Nat.min_le_left _ _) ?_;rcases Nat.le_total xs.length i with h|h
 .rw[Nat.min_eq_right h,Nat.sub_eq_zero_of_le (Nat.min_le_right _ _)];exact aam _
 .rw[Nat.min_eq_left h];calc Nat.sub_le_sub_right (Nat.min_le_left _ _) _
theorem E6{lo:Option Int}(h:v∈eD xs lo a):v∈xs:=List.mem_of_mem_drop (List.mem_of_mem_take h)
section
variable {Q:Bool->Hp->Prop}{H:Hp}{v:V}{K:W.Frag}
theorem fld{Q:V->Prop}(h:H a=some (.ins C dx b))(c:wj K C)(n:bZ K C f)(l:b.lookup f=some v)(q:Q v):∃e d j g i,V.ref a=.ref e/\H e=some (.ins d j g)/\wj K d/\bZ K d f/\g.lookup f=some i/\Q i:=(a,C,dx,b,v,rfl,h,c,n,l,q)
theorem mth{Q:Addr->Prop}(h:H a=some (.ins C dx b))(l:b.lookup f=none)(q:Q a):∃c e d,V.ref a=.ref c/\H c=some (.ins C e d)/\d.lookup f=none/\Q c:=(a,dx,b,rfl,h,l,q)
theorem gn{Q:V->Prop}(h:H a=some (.ins C dx b))(c:wj K C)(n:bZ K C f)(l:b.lookup f=some v)(q:Q v):∃e d j g i,a=e/\H e=some (.ins d j g)/\wj K d/\bZ K d f/\g.lookup f=some i/\Q i:=(a,C,dx,b,v,rfl,h,c,n,l,q)
theorem ic{Q:Addr->Prop}(h:H a=some (.ins C dx b))(l:b.lookup f=none)(q:Q a):∃c e d,a=c/\H c=some (.ins C e d)/\d.lookup f=none/\Q c:=(a,dx,b,rfl,h,l,q)
theorem vf{P:V->V->Prop}(h:bI K H a [x,y])(q:P x y):∃b xs,V.ref a=.ref b/\bI K H b xs/\xs.length=2/\∃v r,xs=v::r/\∃c d,r=c::d/\d=[]/\P v c:=(a,_,rfl,h,rfl,_,_,rfl,_,_,rfl,rfl,q)
theorem un3{P:V->V->V->Prop}(h:bI K H a [x,y,z])(q:P x y z):∃d xs,V.ref a=.ref d/\bI K H d xs/\xs.length=3/\∃v r,xs=v::r/\∃e f,r=e::f/\∃b c,f=b::c/\c=[]/\P v e b:=(a,_,rfl,h,rfl,_,_,rfl,_,_,rfl,_,_,rfl,rfl,q)
theorem ie{A B R:Prop}(a:A)(b:B)(r:R):A/\B/\R:=(a,b,r)
theorem bN{α:Type}{A R:α->Prop}(x:α)(a:A x)(r:R x):∃x,A x/\R x:=(x,a,r)
theorem iy{α:Type}{A B R:α->Prop}(x:α)(a:A x)(b:B x)(r:R x):∃x,A x/\B x/\R x:=(x,a,b,r)
theorem PU{α:Type}{A B C R:α->Prop}(x:α)(a:A x)(b:B x)(ch:C x)(r:R x):∃x,A x/\B x/\C x/\R x:=(x,a,b,ch,r)
theorem Ht{α β:Type}{A R:α->β->Prop}(x:α)(y:β)(a:A x y)(r:R x y):∃x y,A x y/\R x y:=(x,y,a,r)
theorem d7{α β:Type}{A B R:α->β->Prop}(x:α)(y:β)(a:A x y)(b:B x y)(r:R x y):∃x y,A x y/\B x y/\R x y:=(x,y,a,b,r)
theorem y7{α β:Type}{A B C R:α->β->Prop}(x:α)(y:β)(a:A x y)(b:B x y)(ch:C x y)(r:R x y):∃x y,A x y/\B x y/\C x y/\R x y:=(x,y,a,b,ch,r)
theorem oB{α β:Type}{A B C D R:α->β->Prop}(x:α)(y:β)(a:A x y)(b:B x y)(ch:C x y)(c:D x y)(r:R x y):∃x y,A x y/\B x y/\C x y/\D x y/\R x y:=(x,y,a,b,ch,c,r)
theorem afi{α β γ:Type}{A B R:α->β->γ->Prop}(x:α)(y:β)(z:γ)(a:A x y z)(b:B x y z)(r:R x y z):∃x y z,A x y z/\B x y z/\R x y z:=(x,y,z,a,b,r)
theorem afj{α β γ:Type}{A B C R:α->β->γ->Prop}(x:α)(y:β)(z:γ)(a:A x y z)(b:B x y z)(ch:C x y z)(r:R x y z):∃x y z,A x y z/\B x y z/\C x y z/\R x y z:=(x,y,z,a,b,ch,r)
theorem fQ{α β γ δ:Type}{A B R:α->β->γ->δ->Prop}(x:α)(y:β)(z:γ)(u:δ)(a:A x y z u)(b:B x y z u)(r:R x y z u):∃x y z u,A x y z u/\B x y z u/\R x y z u:=(x,y,z,u,a,b,r)
theorem Vl{α β γ δ:Type}{A B C R:α->β->γ->δ->Prop}(x:α)(y:β)(z:γ)(u:δ)(a:A x y z u)(b:B x y z u)(ch:C x y z u)(r:R x y z u):∃x y z u,A x y z u/\B x y z u/\C x y z u/\R x y z u:=(x,y,z,u,a,b,ch,r)
theorem ZI{α β γ δ:Type}{A B C D R:α->β->γ->δ->Prop}(x:α)(y:β)(z:γ)(u:δ)(a:A x y z u)(b:B x y z u)(ch:C x y z u)(c:D x y z u)(r:R x y z u):∃x y z u,A x y z u/\B x y z u/\C x y z u/\D x y z u/\R x y z u:=(x,y,z,u,a,b,ch,c,r)
theorem Hu{α β γ δ:Type}{A B C D E R:α->β->γ->δ->Prop}(x:α)(y:β)(z:γ)(u:δ)(a:A x y z u)(b:B x y z u)(ch:C x y z u)(c:D x y z u)(d:E x y z u)(r:R x y z u):∃x y z u,A x y z u/\B x y z u/\C x y z u/\D x y z u/\E x y z u/\R x y z u:=(x,y,z,u,a,b,ch,c,d,r)
theorem afk{α β γ δ:Type}{A B C D E F R:α->β->γ->δ->Prop}(x:α)(y:β)(z:γ)(u:δ)(a:A x y z u)(b:B x y z u)(ch:C x y z u)(c:D x y z u)(d:E x y z u)(e:F x y z u)(r:R x y z u):∃x y z u,A x y z u/\B x y z u/\C x y z u/\D x y z u/\E x y z u/\F x y z u/\R x y z u:=(x,y,z,u,a,b,ch,c,d,e,r)
theorem afl{α β γ δ ε:Type}{A B C D R:α->β->γ->δ->ε->Prop}(x:α)(y:β)(z:γ)(u:δ)(v:ε)(a:A x y z u v)(b:B x y z u v)(ch:C x y z u v)(c:D x y z u v)(r:R x y z u v):∃x y z u v,A x y z u v/\B x y z u v/\C x y z u v/\D x y z u v/\R x y z u v:=(x,y,z,u,v,a,b,ch,c,r)
theorem afm{α β γ δ ε:Type}{A B C D E R:α->β->γ->δ->ε->Prop}(x:α)(y:β)(z:γ)(u:δ)(v:ε)(a:A x y z u v)(b:B x y z u v)(ch:C x y z u v)(c:D x y z u v)(d:E x y z u v)(r:R x y z u v):∃x y z u v,A x y z u v/\B x y z u v/\C x y z u v/\D x y z u v/\E x y z u v/\R x y z u v:=(x,y,z,u,v,a,b,ch,c,d,r)
theorem ZJ{α β γ δ ε:Type}{A B C D E F R:α->β->γ->δ->ε->Prop}(x:α)(y:β)(z:γ)(u:δ)(v:ε)(a:A x y z u v)(b:B x y z u v)(ch:C x y z u v)(c:D x y z u v)(d:E x y z u v)(e:F x y z u v)(r:R x y z u v):∃x y z u v,A x y z u v/\B x y z u v/\C x y z u v/\D x y z u v/\E x y z u v/\F x y z u v/\R x y z u v:=(x,y,z,u,v,a,b,ch,c,d,e,r)
theorem PE.imp(h:PE X e t)(i:∀σ H Q,u σ H Q->t σ H Q):PE X e u:=⟨λp s σ H Q I q=>h.out p s σ H Q I (i σ H Q q)⟩
def tV(i:Nat):TE:=λσ H Q=>match σ[i]? with
 |some (some v)=>Q v H
 |_=>False
theorem Vm(σ:St)(H:Hp)(Q:VK)(h:tV i σ H Q):Je i σ H Q:=by
 unfold tV at h;split at h
 .exact(_,by assumption,h)
 .calc h.elim
def bB(Q:Bool->Hp->Prop):V->Hp->Prop
 | .bl k,H=>Q k H
 |_,_=>False
theorem Vn(h:bB Q x H):∃k,x=.bl k/\Q k H:=by
 cases x with
 |bl k=>calc(k,rfl,h)
 |_=>calc h.elim
theorem ZK:bB Q (.bl k) H=Q k H:=rfl
theorem wB(h:Q k H):bB Q (.bl k) H:=h
def tT(t:TE):TT:=λσ H Q=>t σ H (bB Q)
theorem ZL:bB Q=λx H=>∃k,x=.bl k/\Q k H:=by
 funext x H;calc propext (Vn,?_);rintro⟨k,rfl,h⟩;calc h
theorem RU:tT=Eu:=by
 funext t σ H Q;show t σ H (bB Q)=_;rw[ZL];rfl
theorem Vo:tT=tB:=RU
theorem aC(d:ik X (compareOp c) r)(e:PE X a ta)(f:PE X b tb)(g:behindInMarks c b=false):PT X (.Compare a [c] [b] pos) (tT (Js r ta tb)):=by
 rw[RU];calc Ew d e f g
theorem bA(h:PE X e t)(b:∀a,PySem.isTrue e X.env a=(do let v <-a;standAt e.pos;holding [v] (truthy v)):=by intro _;rfl):PT X e (tT t):=by
 rw[Vo];calc TK h b
theorem aq(i:Nat)(a:X.N[i]?=some x:=by rfl)(b:YA X.env.scope x:=by first|calc Or.inl rfl|calc Or.inr (Or.inl rfl)|calc Or.inr (Or.inr rfl))(c:(x==("__debug__":Str))=false:=by decide)(d:(x==("__classdict__":Str))=false:=by decide):PE X (.Name x pos) (tV i):=(Jf a b c d).imp Vm
section
variable {K:W.Frag}{H:Hp}{Q:VK}{i j:Int}{s t:Str}
def Vp(K:W.Frag):R2:=λx y H Q=>match x,y with
 | .int i,.int j=>Q (.bl (decide (i=j))) H
 | .str s,.str t=>Q (.bl (decide (s=t))) H
 |x,y=>UI K x y H Q
def ZM(K:W.Frag):R2:=λx y H Q=>match x,y with
 | .int i,.int j=>Q (.bl (!decide (i=j))) H
 | .str s,.str t=>Q (.bl (!decide (s=t))) H
 |x,y=>Xr K x y H Q
theorem K7:Vp K (.int i) (.int j) H Q=Q (.bl (decide (i=j))) H:=rfl
theorem K8:Vp K (.str s) (.str t) H Q=Q (.bl (decide (s=t))) H:=rfl
theorem K9:Vp K (.ref a) (.ref b) H Q=((lK K H 20 (.ref a) (.ref b)/\Q (.bl true) H)\/(uD K H a b/\Q (.bl false) H)):=rfl
theorem La:ZM K (.int i) (.int j) H Q=Q (.bl (!decide (i=j))) H:=rfl
theorem Lb:ZM K (.str s) (.str t) H Q=Q (.bl (!decide (s=t))) H:=rfl
theorem Lc:ZM K (.ref a) (.ref b) H Q=((lK K H 20 (.ref a) (.ref b)/\Q (.bl false) H)\/(uD K H a b/\Q (.bl true) H)):=rfl
theorem Ld:Vp K=UI K:=by
 funext x y H Q
 cases x<;>cases y<;>first|rfl|calc yL.symm|calc yM.symm
theorem Vq:ZM K=Xr K:=by
 funext x y H Q
 cases x<;>cases y<;>first|rfl|calc yN.symm|calc yO.symm
theorem bg(a:X.A.units+64<cLine):ik X (compareOp .Eq) (Vp X.K):=Ld▸J9 a
theorem fT(a:X.A.units+64<cLine):ik X (compareOp .NotEq) (ZM X.K):=Vq▸UJ a
theorem l7(a:X.K=K)(b:X.A.units+64<cLine):ik X (compareOp .Eq) (Vp K):=Ld▸Pr a b
end
theorem HT.cF(h:HT H n v (.int i)):v=.int i:=by
 cases h;rfl
theorem HT.c8(h:HT H n v (.str s)):v=.str s:=by
 cases h;rfl
theorem HD.cF(h:HD H n v (.int i)):v=.int i:=by
 cases h;rfl
theorem HD.c8(h:HD H n v (.str s)):v=.str s:=by
 cases h;rfl
end
end L2
namespace DD
open PySem L2
variable {e:Int×Int}
noncomputable def wC(r:RS):Nat->Nat
 |0=>0
 |W+1=>wC r W+(r.ww W).cE.countP Option.isSome
structure RS.Iv(n:NT)(r:RS):Prop where
 ev:∀(w k:Nat) (m c:Int),w<n.ws.length->(r.ww w).cE[k]?=some (some ((m),c))->0<=m/\m<n.ms.length/\c<(r.mm m.toNat).fH.length
 inj:∀(w k w' k':Nat) (e:Int×Int),w<n.ws.length->w'<n.ws.length->(r.ww w).cE[k]?=some (some e)->(r.ww w').cE[k']?=some (some e)->w=w'/\k=k'
 pk:∀p∈r.picks,∃w k:Nat,∃e,p=(((w:Int)),(k:Int))/\w<n.ws.length/\(r.ww w).cE[k]?=some (some e)
 cnt:wC r n.ws.length=r.picks.length
theorem qW:∀{W:Nat},(∀w,w<W->(a.ww w).cE.countP Option.isSome=(r.ww w).cE.countP Option.isSome)->wC a W=wC r W
 |0,_=>rfl
 |W+1,h=>by rw[wC,wC,qW λw a=>h w (),h W ()]
theorem Bh:∀{W V:Nat},V<=W->wC r V<=wC r W
 |0,V,h=>Nat.le_of_eq (by rw[Nat.le_zero.mp h])
 |W+1,V,h=>by
  by_cases e:V=W+1
  .rw[e];exact S' _
  .calc aaL (Bh (W:=W) ()) (ab0 _ _)
theorem Lf(c:(a.ww w).cE.countP Option.isSome=(r.ww w).cE.countP Option.isSome+1)(b:∀u,u≠w->a.ww u=r.ww u):∀{W:Nat},w<W->wC a W=wC r W+1
 |0,h=>absurd h (Nat.not_lt_zero _)
 |W+1,h=>by
  by_cases e:w=W
  .subst e;have d:wC a w=wC r w:=qW λu a=>by rw[b u ()]
   rw[wC,wC,c,d];lia
  .rw[wC,wC,Lf c b (W:=W) (),b W (λz=>e z.symm)];lia
theorem xO{k:Nat}:(l++[none])[k]?=some (some e)↔l[k]?=some (some e):=by
 by_cases h:k<l.length
 .rw[aag h]
 .rw[aad (),List.getElem?_eq_none (l:=l) ()];constructor
  .intro z
   cases a:k-l.length with
   |zero=>rw[a]at z;simp at z
   |succ j=>rw[a]at z;simp at z
  .intro z;cases z
theorem Lh{r:RS}:((r.put w x s).ww u).cE=if u=w then(r.ww w).cE++[none] else(r.ww u).cE:=by
 show(if u=w then _ else _:WY).cE=_;split<;>rfl
theorem nC{r:RS}{k:Nat}:((r.put w x s).ww u).cE[k]?=some (some e)↔(r.ww u).cE[k]?=some (some e):=by
 rw[Lh];split
 .next z=>subst z;exact xO
 .calc Iff.rfl
theorem PV:wC (r.put w x s) W=wC r W:=qW λu _=>by
 rw[Lh];split
 .next z=>subst z;simp
 .rfl
theorem RS.Iv.put{r:RS}(h:r.Iv n):(r.put w x s).Iv n:=
  (λu k m c a g=>h.ev u k m c a (nC.mp g),λu k i j e a b d f=>h.inj u k i j e a b (nC.mp d) (nC.mp f),
   λp a=>let ⟨u,k,e,d,f,b⟩:=h.pk p a;(u,k,e,d,f,nC.mpr b),PV.trans h.cnt)
theorem RS.Iv.send{ev:Int×Int}:∀(a:jr) {r:RS},r.Iv n->(r.send outs ev a).Iv n
 | [],r,h=>h
 |p::a,r,h=>by
  show((if p.1.toNat<outs.length then r.put (outs.getD p.1.toNat 0) p.2 (some ev) else r).send outs ev a).Iv n;split
  .exact RS.Iv.send a h.put
  .calc RS.Iv.send a h
theorem RS.Iv.kr:∀(a:jr) {r:RS},r.Iv n->(r.kr a).Iv n
 | [],r,h=>h
 |p::a,r,h=>RS.Iv.kr a h.put
theorem RS.Iv.begin:(RS.begin n a).Iv n:=
 RS.Iv.kr a (λw k m c _ h=>by simp[RS.new] at h,λw k a b e _ _ h=>by simp[RS.new] at h,λp a=>absurd a List.not_mem_nil,by
  have:∀W,wC (RS.new n) W=0:=λW=>by
   induction W with
   |zero=>rfl
   |succ W a=>rw[wC,a];rfl
  calc this _)
theorem E8:∀{l:List (Option (Int×Int))}{k:Nat}{e:Int×Int},l[k]?=some none->(l.set k (some e)).countP Option.isSome=l.countP Option.isSome+1
 | [],k,e,h=>by simp at h
 |a::l,0,e,h=>by
  simp at h;subst h;simp
 |a::l,k+1,e,h=>by
  have:=E8 (l:=l) (k:=k) (e:=e) (h:);rw[List.set_cons_succ,List.countP_cons,List.countP_cons,this];lia
theorem E9{r:RS}:((r.step n w k).ww u).cE=if u=w then(r.ww w).cE.set k (some (n.ev r w)) else(r.ww u).cE:=by
 show(if u=w then _ else _:WY).cE=_;split<;>rfl
theorem ig{r:RS}(b:(r.ww w).cE[k]?=some none):((r.step n w k).ww u).cE[j]?=some (some e)↔(u=w/\j=k/\e=n.ev r w)\/(r.ww u).cE[j]?=some (some e):=by
 have c:k<(r.ww w).cE.length:=(iF b).1;rw[E9];split
 .next z=>
  subst z;by_cases a:j=k
  .subst a;rw[List.getElem?_set_self c,b];constructor
   .intro z;cases z;exact .inl (rfl,rfl,rfl)
   .rintro(⟨_,_,rfl⟩ | z)
    .rfl
    .cases z
  .rw[ac1 (λz=>a z.symm)];exact(.inr,λz=>z.elim (λq=>absurd q.2.1 a) id)
 .next z=>calc(.inr,λq=>q.elim (λq=>absurd q.1 z) id)
theorem Bi{r:RS}:((r.step n w k).mm m).fH.length=(r.mm m).fH.length+if m=n.goal w then 1 else 0:=by
 show(if m=n.goal w then _ else _:MS).fH.length=_;split
 .next z=>subst z;simp
 .simp
theorem RS.Iv.step{r:RS}(h:r.Iv n)(z:n.Ok)(y:w<n.ws.length)(l:(r.ww w).cE[k]?=some none):(r.step n w k).Iv n:=by
 have K:=z.jz y;refine(λu j m c g t=>?_,λu j B C e g v o q=>?_,λp i=>?_,?_)
 .rcases(ig l).mp t with⟨_,_,e⟩ | t
  .cases e;calc((),(),?_);rw[aal,Bi,if_pos rfl];lia
  .let(a,b,d):=h.ev u j m c g t;calc(a,b,?_);rw[Bi];split<;>lia
 .have x:∀{u j:Nat},u<n.ws.length->(r.ww u).cE[j]?=some (some (n.ev r w))->False:=λ{u j} g t=>by
   let(_,_,d):=h.ev u j _ _ g t;rw[aal]at d;lia
  rcases(ig l).mp o with⟨F,G,I⟩|o<;>rcases(ig l).mp q with⟨a,b,J⟩|q
  .exact(F.trans a.symm,G.trans b.symm)
  .subst I;exact(x v q).elim
  .subst J;exact(x g o).elim
  .exact h.inj u j B C e g v o q
 .have i:p ∈ r.picks++[(((w:Int)),(k:Int))]:=i;rcases List.mem_append.mp i with i | i
  .let(u,j,e,o,q,a):=h.pk p i;exact(u,j,e,o,q,(ig l).mpr (.inr a))
  .simp at i;exact(w,k,_,i,y,(ig l).mpr (.inl (rfl,rfl,rfl)))
 .have a:((r.step n w k).ww w).cE.countP Option.isSome=(r.ww w).cE.countP Option.isSome + 1:=by rw[E9,if_pos rfl,E8 l]
  have b:∀u,u≠w->(r.step n w k).ww u=r.ww u:=λu g=>if_neg g;rw[Lf a b y,h.cnt];show _=(r.picks++[_]).length;simp
theorem RS.Iv.pick{r:RS}(h:r.Iv n)(a:n.Ok)(b:w<n.ws.length)(c:(r.ww w).cE[k]?=some none):(r.pick n w k).Iv n:=RS.Iv.send _ (h.step a b c)
end DD
set_option maxHeartbeats 400000
namespace L2
open PySem PySem.Spec PyProof.Rows
theorem PE.any(b:PE X.ID e a)(I:Inv X pins σ H s)(h:a σ H Q):
  X⁻¹ (eval e X.env) (EP X pins σ Q) xe s:=
 aaR (b.out pins s σ H Q (I.tf _) h) (λ_ _ (v,a,c,r,q)=>(v,a,c.jJ,r,q)) λ_ _ z=>aaW z
def ZN(K:W.Frag)(B:Addr)(PC:Addr->Prop):Prop:=∀{M:Model} {A:Around} {E:jD} {s:Shared} {e C:Addr} {d:Option Addr} {vs:Array Value} {a:Array (Option Value)} {Q:Bool->Shared->Prop},K.In s.heap->PC C->
 s.heap.get? e=some ((.ref C,d,.fields vs,a):Obj)->Q true s->wpAny M A (excMatches (.ref e) (.ref B)) Q E s
theorem Hv{K:W.Frag}(a:XBase K B):ZN K B (λC=>kM K C B):=λb c d e=>ae7 b c a d e
def RV (PC:Addr->Prop)(i:Nat)(a:XK->TS)(b:TS):TS:=λD σ H=>a (λe _ f=>∃a C d,e=.ref a/\f a=some (XO a C d false)/\PC C/\
 b {nx:=λb c=>D.nx (b.set i none) c,rt:=D.rt,bk:=λb c=>D.bk (b.set i none) c,ct:=λb c=>D.ct (b.set i none) c} (σ.set i (some (.ref a))) f) D σ H
theorem PX{st:Stmt}{PC:Addr->Prop}(y:X.stack=X.env::X.outer)(E:X.env.frame=some X.env.locals)(j:X.N.Nodup)(k:X.N[i]?=some n)(g:X.env.scope.names.lookup n=some .local)(F:Gl X x)(G:X.mg x=some (.ref B))(J:ZN X.K B PC)(d:PSX X st tb)(L:∀a,wg (X.qU a) (b₀::RW) th)(M:(x==("__debug__":Str))=false:=by decide):
  PS X (.Try [st] [.ExceptHandler (some (.Name x np)) (some n) (b₀::RW) ZO] [] [] pos) (RV PC i tb th):=by
 calc⟨?_⟩;intro pins s σ H D I h;calc wpAny_Try_except ?_;refine wpAny_execs_cons (di (d.out pins s σ H D _ _ (λZ C x r O P=>?_) I h) λf C q=>?_)
 .let(a,C0,d0,Q,t,rfl,w,Z,R,o,a',C,d,S,c,U,q):=O.thrown P
  cases S;have l:=w.ok;calc AS (T:=some t) y E w c R (λd z=>by cases z;calc o) λw y t d e _=>?_;rw[KN c]at t e;calc uQ (s:={r with heap:=w}) t d e λW b p=>?_;let(d,o,Y):=Ko b c;calc wpAny_handleBy_cons (codeAny_handlers_test (kG (X:=X.qU a) (b.qU a) F G (J (b.qU a).iQ U Y ?_) M)) (by intro z;cases z);calc codeAny_handlers_suite_as (uQ (X:=X.qU a) (s:={r with heap:=W}) (b.qU a) p e λd c _=>?_);calc kh (X:=X.qU a) c j k (.inl g) (v:=.ref a) (u:=.ref a) rfl (λb c=>?_) (.inr g);calc aaR ((L a) pins b _ Q _ c q) (λf d m=>?_) λ_ _ z=>aaW z;show wpAny _ X.A (do bindName X.env n .none;unbindBehindTheSuite X.env n ZO) _ _ d
  cases f with
  |next=>
   let(a,b,c,d):=m;calc tX (c.yX l) j k g λo e=>(_,b,e,d)
  |brk=>
   let(a,b,c,d):=m;calc tX (c.yX l) j k g λo e=>(_,b,e,d)
  |cont=>
   let(a,b,c,d):=m;calc tX (c.yX l) j k g λo e=>(_,b,e,d)
  |ret u=>
   let(v,a,b,c,p,d):=m;exact tX (c.yX l) j k g λo e=>(v,_,b,e,p,d)
 .cases f with
  |next=>calc wpAny_execs_nil (wpAny_execs_nil q)
  |ret v=>calc q
  |brk=>calc q
  |cont=>calc q
theorem PY{PC:Addr->Prop}(h:∀j:XK,(∀a C d f,f a=some (XO a C d false)->PC C->
  g {nx:=λb c=>D.nx (b.set i none) c,rt:=D.rt,bk:=λb c=>D.bk (b.set i none) c,ct:=λb c=>D.ct (b.set i none) c} (σ.set i (some (.ref a))) f->j (.ref a) none f)->e j D σ H):RV PC i e g D σ H:=
 h _ λa C d f e b q=>(a,C,d,rfl,e,b,q)
end L2
namespace L2
open PySem PySem.Spec PyProof.Rows
def Li(h:Heap)(d:Addr)(a:Array DictEntry)(ep:Nat):Prop:=∃o,h.get? d=some o/\o.ExactDict/\o.data=.dict a ep
theorem Li.type{s:Shared}(x:Li s.heap d a ep):s.TypeIs (.ref d) "dict":=let ⟨o,h,c,_⟩:=x;(o,h,c.1)
theorem Vs(d:cy P w H h a (.dT aU)):(a==sysModules)=false/\∃o b ep xs,h.get? a=some o/\o.ExactDict/\o.data=.dict b ep/\KT H aU xs/\b.toList=xs.map (entryOfKey (tupleKind (cO P w)))/\b.size=aU.length/\aU.length<=sizeLine:=by
 let(z,y,xs,r,o,b,ep,e,f,g,c,i):=d;calc(y,o,b,ep,xs,e,f,g,r,c,by rw[size_of_entries c,<-Paired.length r],z)
theorem Paired.get{α β:Type}{F:α->β->Prop}:∀{c:List α}{d:List β},Paired F c d->∀{i:Nat}{a:α},c[i]?=some a->∃b,d[i]?=some b/\F a b
 |_,_,.nil,i,a,e=>by simp at e
 |_,_,.cons r t,0,a,e=>by cases e;calc(_,rfl,r)
 |_,_,.cons r t,i+1,a,e=>Paired.get t (i:=i) e
theorem get_none(x:Li s.heap d es ep)(a:∀e∈es.toList,e.hash≠4238894112)(b:∀c,Q none {s with toks:=c}):wpAny (model prog w) A (dictGet d .none) Q E s:=by
 let(o,c,_,f):=x;unfold dictGet
 try with_reducible refine abd ?_
 calc J' ?_;show wpAny _ _ (pyHashByItsType .none) _ _ _;calc W.pyHash_slot (typeIs_none s) F.slot_NoneType_hash F.entry_NoneType_hash (F.args_NoneType_hash_1 _) rfl (.inl rfl) ?_;show wpAny _ _ (do ret (<-mkInt 4238894112)) _ _ s;calc J' (wpAny_mkInt (U' (_,_,rfl,?_)));rw[show reduceHash 4238894112=4238894112 by decide +kernel];calc J' ?_;unfold dictFind
 try with_reducible refine abd ?_
 calc J' (wpAny_dictEntries c f ?_);have g:placesWithHash es.size (λi=>es[i]?.map (·.hash)) 4238894112=[]:=by
  unfold placesWithHash;rw[List.filter_eq_nil_iff];intro i c e;dsimp only at e
  cases q:es[i]? with
  |none=>rw[q]at e;simp at e
  |some z=>
   rw[q]at e;exact a z (Array.mem_toList_iff.mpr (Array.mem_of_getElem? q)) (e:)
 dsimp only;rw[g];rw[if_pos (by rfl)];calc J' ?_;calc U' (U' (U' (b _)))
theorem vg(c:(d==sysModules)=false)(a:Value):
  MeetsIn prog w (Builtin.«dict.get» ([.ref d,.none,a],[])) (λA R s=>∃es ep,Li s.heap d es ep/\(∀e∈es.toList,e.hash≠4238894112)/\∀b,R (.ok (.ret a)) {s with toks:=b}):=
 .of_wp λA R s (es,ep,x,e,h)=>by
  show wpAny _ _ (dictGet d .none >>= _) _ _ s;calc J' (get_none x e λb=>?_);show wpAny _ _ (Builtin.Dict.missed d .none >>= _) _ _ _;calc J' (wpAny_missed_other c (U' (a,rfl,h _)))
def RX(k:List Key):Int->Prop:=λh=>∀(P:Program) (w:World),(tupleKind (cO P w)).hash k=h
def RY:V->List V->Hp->VK->Prop:=λx vs H Q=>∃a y z o,x=.ref a/\vs=[y,z]/\(ir H a y o\/(y=.bL/\o=none/\∃b,Rd H a (.dT b)/\∀p∈b,∃h,RX p.1 h/\h≠4238894112))/\Q (o.getD z) H
theorem Bj(e:X.A.units+1<cLine):Xm X "dict.get" RY:=by
 intro c s σ H x D v E Q I g i h;let(a,y,z,o,rfl,rfl,b,q):=h
 cases g;let(G,n,rfl,d,f):=i.two;rcases b with b|⟨rfl,rfl,r,b,t⟩
 .exact Uy e I b d f λg h a c=>(_,H,a,c,q)
 .cases d;let(h,o,i,s,e,a,c,g,j,u,v,x):=Vs (JM I.aY b);calc call_meetsIn Ts (Li.type (o,a,c,g)) zA2 (PySem.F.args_dict_get_3 _ _ _) (vg h n) (i,s,(o,a,c,g),λe k=>?_,λa=>(z,H,I.tok _,f,q));rw[u] at k;let(p,B,rfl):=List.mem_map.mp k;let(i,a):=List.mem_iff_getElem?.mp B;have l:i < r.length:=by rw[Paired.length j];exact(iF a).1
  let(b,m,C):=Paired.get j (cJ l);rw[a]at m
  cases m;let(k,a,b):=t _ (aaJ l);show(tupleKind (cO X.prog X.w)).hash p.1≠_;rw[<-C.1,a];calc b
end L2
namespace L2
open PySem PySem.Spec PyProof.Rows DD
noncomputable def Lj(p:Int×Int):Int:=reduceHash (Builtin.Tuple.tupleHashOf [hashInt p.1,hashInt p.2])
noncomputable def vh:List (Int×Int):=(List.range 205).map λi=>((((i/41:Nat):Int)),((i%41:Nat):Int))
theorem PZ:∀p∈vh,Lj p≠4238894112:=by decide +kernel
abbrev Ev:=Int×Int
noncomputable def kE(p:Ev):List Key:=[.inl p.1,.inl p.2]
theorem Vt(h:kE p=kE q):p=q:=by
 unfold kE at h;injection h with h1 h2
 injection h2 with h2 _
 calc Prod.ext (Sum.inl.inj h1) (Sum.inl.inj h2)
theorem P0(p:Ev):RX (kE p) (Lj p):=λP w=>rfl
theorem Qa(c:0<=p.1)(d:p.1<5)(e:0<=p.2)(f:p.2<=40):p∈vh:=by
 let(a,b):=p;calc List.mem_map.mpr (a.toNat*41+b.toNat,List.mem_range.mpr (by simp only at *;lia),Prod.ext ?_ ?_)<;>(simp only at *;lia)
abbrev Lg:=List (Ev×Option Ev)
noncomputable def l8(L:Lg)(m:Int):Nat:=(L.filter λx=>decide (x.1.1=m)).length
theorem nE:l8 (L++[x]) m=l8 L m+if x.1.1=m then 1 else 0:=by
 unfold l8;rw[acX,aas];congr 1;by_cases h:x.1.1=m<;>simp[h]
inductive dQ(n:Nat):Lg->Prop
 |nil:dQ n []
 |snoc {L:Lg} {e:Ev} {s:Option Ev}:dQ n L->0<=e.1->e.1<n->e.2=l8 L e.1+1->(∀p,s=some p->p∈L.map (·.1))->dQ n (L++[((e),s)])
theorem dQ.mem(h:dQ n L):∀j k:Int,((j),k)∈L.map (·.1)↔0<=j/\j<n/\1<=k/\k<=l8 L j:=by
 induction h with
 |nil=>intro j k;simp[l8];lia
 | @snoc L e s a c d f b g=>
  intro j k;rw[aah,List.mem_append,g,nE];let(a,b):=e;simp only[List.map_cons,List.map_nil,List.mem_singleton,Prod.mk.injEq]at c d f ⊢;by_cases q:a=j
  .subst q;rw[if_pos rfl];lia
  .rw[if_neg q];lia
theorem dQ.inv{e:Ev}(h:dQ n (L++[((e),s)])):dQ n L/\0<=e.1/\e.1<n/\e.2=l8 L e.1+1/\e∉L.map (·.1)/\∀p,s=some p->p∈L.map (·.1):=by
 generalize c:L++[((e),s)]=M at h
 cases h with
 |nil=>simp at c
 | @snoc j k l h d f g i=>
  let(a,b):=List.append_inj' c rfl;subst a;simp only[List.cons.injEq,Prod.mk.injEq,and_true]at b;let(rfl,rfl):=b;calc(h,d,f,g,λz=>by have:=(h.mem e.1 e.2).mp z;lia,i)
theorem dQ.take(h:dQ n L)(i:Nat):dQ n (L.take i):=by
 induction h with
 |nil=>rw[List.take_nil];calc .nil
 | @snoc L e s a b c d f g=>
  by_cases e:i<=L.length
  .rw[ac5 e];exact g
  .rw[abR (by simp;lia)];calc .snoc a b c d f
theorem dQ.evs(h:dQ n L)(b:n<=5)(c:L.length<=40)(a:p∈L.map (·.1)):p∈vh:=by
 have:=(h.mem p.1 p.2).mp a;have b:l8 L p.1<=L.length:=List.length_filter_le _ _;calc Qa () () () ()
noncomputable def bW{α:Type}(D:List (Ev×α))(p:Ev):Option α:=(D.find? λx=>decide (x.1=p)).map (·.2)
theorem iW:bW (D++[((e),x)]) p=(bW D p).or (if e=p then some x else none):=by
 unfold bW;rw[List.find?_append]
 cases D.find? λx=>decide (x.1=p) with
 |some y=>rfl
 |none=>by_cases h:e=p<;>simp[h]
theorem gI{α:Type}{D:List (Ev×α)}(h:p∉D.map (·.1)):bW D p=none:=by
 unfold bW;rw[List.find?_eq_none.mpr λx a q=>h (List.mem_map.mpr (x,a,aaU q))];rfl
noncomputable def gD(n:Nat)(D:List (Ev×List Int)):Option Ev->List Int
 |none=>List.replicate n 0
 |some p=>(bW D p).getD (List.replicate n 0)
noncomputable def vi(n:Nat)(D:List (Ev×List Int))(x:Ev×Option Ev):List Int:=(List.zipWith max (gD n D (some ((x.1.1),x.1.2-1))) (gD n D x.2)).set x.1.1.toNat x.1.2
noncomputable def bG(n:Nat)(L:Lg):List (Ev×List Int):=L.foldl (λD x=>D++[((x.1),vi n D x)]) []
theorem fV:bG n (L++[x])=bG n L++[((x.1),vi n (bG n L) x)]:=by unfold bG;rw[List.foldl_append];rfl
theorem ku{a b:List Int}{j:Nat}{n:Nat}(c:a.length=n)(d:b.length=n)(h:j<n):(List.zipWith max a b).getD j 0=max (a.getD j 0) (b.getD j 0):=by
 rw[W',W',W',List.getElem?_zipWith,cJ (),cJ ()];rfl
end L2
set_option maxHeartbeats 4000000
namespace DD
open PySem L2
variable {r:RS}
structure RS.Le(r r':RS)(ev:Int×Int):Prop where
 cE:∀(u k:Nat) e,(r.ww u).cE[k]?=some (some e)->(r'.ww u).cE[k]?=some (some e)
 snd:∀(u k:Nat) s,(r.ww u).snd[k]?=some s->(r'.ww u).snd[k]?=some s
 new:∀(u k:Nat) e,(r'.ww u).snd[k]?=some (some e)->(r.ww u).snd[k]?=some (some e)\/e=ev
theorem RS.Le.put{b:RS}{ev:Int×Int}(h:b.Le r ev){w:Nat}{x:Int}:b.Le (r.put w x (some ev)) ev where
 cE:=λu k e z=>nC.mpr (h.cE u k e z)
 snd:=λu k s z=>by
  have z:=h.snd u k s z;show((if u=w then _ else _:WY).snd)[k]?=_;split
  .next q=>subst q;exact(aag (iF z).1).trans z
  .exact z
 new:=λu k e z=>by
  have z:((if u=w then(((r.ww w).say++[x],(r.ww w).snd++[some ev],(r.ww w).cE++[none]):WY) else r.ww u).snd)[k]?=some (some e):=z;split at z
  .next q=>
   subst q;by_cases d:k<(r.ww u).snd.length
   .exact h.new u k e ((aag d).symm.trans z)
   .right;have a:([some ev]:List (Option (Int×Int)))[k - (r.ww u).snd.length]?=some (some e):=(aad ()).symm.trans z
    cases c:k-(r.ww u).snd.length with
    |zero=>rw[c]at a;simpa using a.symm
    |succ j=>rw[c]at a;simp at a
  .calc h.new u k e z
theorem RS.Le.send{b:RS}:∀(a:jr) {r:RS},b.Le r ev->b.Le (r.send outs ev a) ev
 | [],r,h=>h
 |p::a,r,h=>by
  show b.Le ((if p.1.toNat<outs.length then r.put (outs.getD p.1.toNat 0) p.2 (some ev) else r).send outs ev a) ev;split
  .exact RS.Le.send a h.put
  .calc RS.Le.send a h
theorem Qb(b:(r.ww w).cE[k]?=some none):r.Le (r.pick n w k) (n.ev r w)/\((r.pick n w k).ww w).cE[k]?=some (some (n.ev r w)):=by
 have c:∀u,((r.step n w k).ww u).snd=(r.ww u).snd:=λu=>by
  show(if u=w then _ else _:WY).snd=_;split
  .next q=>subst q;rfl
  .rfl
 have a:(r.step n w k).Le (r.pick n w k) (n.ev r w):=RS.Le.send _ (λ_ _ _ z=>z,λ_ _ _ z=>z,λ_ _ _ z=>.inl z);calc((λu j e z=>a.cE u j e ((ig b).mpr (.inr z)),λu j s z=>a.snd u j s (by rw[c];calc z),λu j e z=>(a.new u j e z).imp (λy=>by rw[c]at y;calc y) id),a.cE w k _ ((ig b).mpr (.inl (rfl,rfl,rfl))))
structure RS.Lk(n:NT)(r:RS)(L:Lg):Prop where
 good:dQ n.ms.length L
 cnt:∀m:Nat,m<n.ms.length->l8 L m+1=(r.mm m).fH.length
 len:L.length=r.picks.length
 «at»:∀(i:Nat) p,r.picks[i]?=some p->∃(w k:Nat) (e:Ev) (s:Option Ev),p=(((w:Int)),(k:Int))/\L[i]?=some ((e),s)/\(r.ww w).cE[k]?=some (some e)/\(r.ww w).snd[k]?=some s/\w<n.ws.length
 snd:∀(w k:Nat) e,(r.ww w).snd[k]?=some (some e)->e∈L.map (·.1)
theorem RS.Lk.pick(h:r.Lk n L)(g:n.Ok)(c:w<n.ws.length)(l:(r.ww w).cE[k]?=some none)(d:(r.ww w).snd[k]?=some s):(r.pick n w k).Lk n (L++[((n.ev r w),s)]):=by
 let(b,o):=Qb (n:=n) l;have f:n.goal w<n.ms.length:=by
  have:=g.K5 (n.w w) (by unfold NT.w;calc getD_mem c);unfold NT.goal;lia
 have t:=(RS.kN (outs:=n.outs (n.goal w)) (ev:=n.ev r w) (n.work r w k).cM (r:=r.step n w k)).1;have a:(r.pick n w k).picks=r.picks++[(((w:Int)),(k:Int))]:=(RS.kN (outs:=n.outs (n.goal w)) (ev:=n.ev r w) (n.work r w k).cM (r:=r.step n w k)).2;refine(.snoc h.good (Int.natCast_nonneg _) (by show((n.goal w:Nat):Int)<_;lia) ?_ (λp e=>by subst e;calc h.snd w k p d),λm v=>?_,?_,λi p e=>?_,λu j e z=>?_)
 .show(((r.mm (n.goal w)).fH.length:Nat):Int)=l8 L ((n.goal w:Nat):Int)+1;rw[<-h.cnt _ f];rfl
 .rw[nE];show _=(((r.step n w k).send _ _ _).mm m).fH.length;rw[t];show _=(if m=n.goal w then _ else r.mm m:MS).fH.length;by_cases q:m=n.goal w
  .subst q;rw[if_pos rfl,if_pos (show(n.ev r w).1=((n.goal w:Nat):Int) from rfl)];show _=((r.mm (n.goal w)).fH++[_]).length;rw[aas,<-h.cnt _ f];rfl
  .rw[if_neg q,if_neg (λz=>q (by have:((n.goal w:Nat):Int)=(m:Int):=z;lia)),h.cnt m v]
 .rw[a,aas,aas,h.len];rfl
 .rw[a] at e;by_cases f:i < r.picks.length
  .rw[aag f]at e;let(a,g,l,m,n,q,t,v,x):=h.at i p e;exact(a,g,l,m,n,(aag (by rw[h.len];calc f)).trans q,b.cE _ _ _ t,b.snd _ _ _ v,x)
  .have:i=r.picks.length:=by
    have:=(iF e).1;simp at this;lia
   subst this;rw[aad (S' _),Nat.sub_self]at e;obtain rfl:(((w:Int)),(k:Int))=p:=(e:)
   exact(w,k,_,s,rfl,by rw[<-h.len,aad (S' _),Nat.sub_self];rfl,o,b.snd _ _ _ d,c)
 .rw[aah,List.mem_append];rcases b.new u j e z with y | y
  .exact .inl (h.snd u j e y)
  .calc .inr (by simp[y])
theorem Fb:∀(a:jr) {r:RS},r.Lk n []->r.picks=[]->(r.kr a).Lk n []
 | [],r,h,_=>h
 | p::b,r,h,e=>Fb b (r:=r.put p.1.toNat p.2 none) ⟨h.good,h.cnt,h.len,λi q z=>by rw[show(r.put p.1.toNat p.2 none).picks=[] from e] at z;simp at z,λu j x z=>by
   have y:((if u=p.1.toNat then(((r.ww p.1.toNat).say++[p.2],(r.ww p.1.toNat).snd++[none],(r.ww p.1.toNat).cE++[none]):WY) else r.ww u).snd)[j]?=some (some x):=z;clear z;split at y
   .next q=>subst q;exact h.snd _ j x (xO.mp y)
   .calc h.snd u j x y⟩ e
theorem RS.Lk.begin:(RS.begin n a).Lk n []:=
 Fb a (.nil,λ_ _=>rfl,rfl,λi p e=>by simp[RS.new]at e,λw k e z=>by simp[RS.new]at z) rfl
end DD
namespace L2
open PySem PySem.W PyProof.Rows
variable {p:Array Nat}{i:Nat}
structure wD(n:Nat)(lt:Nat->Nat->Bool):Prop where
 as:∀i j,lt i j=true->lt j i=false
 tr:∀i j k,lt i j=true->lt j k=true->lt i k=true
 tot:∀i j,i<n->j<n->i≠j->lt i j=false->lt j i=true
def y8(n:Nat)(c:Nat->Nat->Bool){α:Type}(t:KasT α)(Q:α->Prop):Prop:=
 ∀(b:Nat->Nat->(Bool->Shared->Prop)->Shared->Prop) (G:α->Shared->Prop) (s:Shared),(∀i j C,i<n->j<n->C (c i j) s->b i j C s)->(∀a,Q a->G a s)->t.kasWp b G s
section
variable {n:Nat}{lt:Nat->Nat->Bool}
theorem y8.ret(h:Q a):y8 n lt (.ret a) Q:=λ_ _ _ _ b=>b a h
theorem y8.ask(c:i<n)(d:j<n)(h:y8 n lt (k (lt i j)) Q):y8 n lt (.ask i j k) Q:=λa G s b e=>b i j _ c d (h a G s b e)
theorem y8.bind(h:y8 n lt t R)(d:∀a,R a->y8 n lt (f a) Q):y8 n lt (t.bind f) Q:=λb G s c e=>by
 rw[KasT.kasWp_bind];calc h b _ s c λa f=>d a f b G s c e
theorem y8.mono(h:y8 n lt t R)(c:∀a,R a->Q a):y8 n lt t Q:=λb G s d e=>h b G s d λa f=>e a (c a f)
def PP(n:Nat)(p:Array Nat):Prop:=p.Perm (List.range n).toArray
theorem PP.size(h:PP n p):p.size=n:=by have:=h.size_eq;simpa using this
theorem PP.get(h:PP n p)(a:i<n):p[i]?=some (p.getD i 0):=by
 have:=h.size;rw[abr,Array.getElem?_eq_getElem ()];rfl
theorem PP.Ct(h:PP n p)(a:i<n):p.getD i 0<n:=by
 have e:=h.get a;have m:p.getD i 0∈p:=Array.mem_of_getElem? e;have:=h.mem_iff.mp m;simpa using this
theorem PP.inj(h:PP n p)(b:i<n)(d:j<n)(f:i≠j):p.getD i 0≠p.getD j 0:=λe=>by
 have g:p.toList.Nodup:=(h.toList).nodup_iff.mpr (List.nodup_range:);have a:=h.get b;have c:=h.get d;rw[<-Array.getElem?_toList]at a c;rw[e,<-c]at a;calc f ((List.getElem?_inj (by have:=h.size;simpa[this] using b) g).mp a)
def SS(lt:Nat->Nat->Bool)(p:Array Nat)(k:Nat):Prop:=∀i j,i<j->j<k->lt (p.getD i 0) (p.getD j 0)=true
def SD(lt:Nat->Nat->Bool)(p:Array Nat)(k:Nat):Prop:=∀i j,i<j->j<k->lt (p.getD j 0) (p.getD i 0)=true
theorem SS.succ(a:wD n lt)(h:SS lt p k)(b:1<=k)(e:lt (p.getD (k-1) 0) (p.getD k 0)=true):SS lt p (k+1):=λi j b c=>by
 by_cases z:j<k
 .exact h i j b z
 .obtain rfl:j=k:=by lia
  by_cases y:i=j-1
  .rw[y];exact e
  .calc a.tr _ _ _ (h i (j-1) () ()) e
theorem SD.succ(a:wD n lt)(h:SD lt p k)(b:1<=k)(e:lt (p.getD k 0) (p.getD (k-1) 0)=true):SD lt p (k+1):=λi j b c=>by
 by_cases z:j<k
 .exact h i j b z
 .obtain rfl:j=k:=by lia
  by_cases y:i=j-1
  .rw[y];exact e
  .calc a.tr _ _ _ e (h i (j-1) () ())
theorem Dz(l:wD n lt)(g:PP n p):∀(f k:Nat),1<=k->k+f<=n->SS lt p k->y8 n lt (kas_asc p f k) λm=>k<=m/\m<=k+f/\SS lt p m/\(m<k+f->lt (p.getD m 0) (p.getD (m-1) 0)=true)
 |0,k,o,_,h=>.ret (S' _,S' _,h,λz=>absurd z (abK _))
 |f+1,k,o,a,h=>by
  unfold kas_asc;refine .ask (g.Ct ()) (g.Ct ()) ?_
  cases e:lt (p.getD k 0) (p.getD (k-1) 0) with
  |true=>
   rw[if_pos rfl];calc .ret (S' _,(),h,λ_=>e)
  |false=>
   rw[if_neg ∅];have q:=l.tot _ _ (g.Ct ()) (g.Ct ()) (g.inj (i:=k) (j:=k-1) () () ()) e;calc(Dz l g f (k+1) () () (h.succ l o q)).mono λm (a,b,c,d)=>((),(),c,λz=>d ())
theorem Fc(o:wD n lt)(l:PP n p):∀(f k:Nat),1<=k->k+f<=n->SD lt p k->y8 n lt (kas_desc f p k 0) λr=>r.1=p/\k<=r.2.1/\r.2.1<=k+f/\r.2.2=0/\SD lt p r.2.1
 |0,k,q,_,h=>.ret (rfl,S' _,S' _,rfl,h)
 |f+1,k,q,a,h=>by
  unfold kas_desc;refine .ask (l.Ct ()) (l.Ct ()) ?_
  cases e:lt (p.getD k 0) (p.getD (k-1) 0) with
  |true=>
   rw[if_pos rfl,if_neg ()];calc(Fc o l f (k+1) () () (h.succ o q e)).mono λm (a,b,c,d,g)=>(a,(),(),d,g)
  |false=>
   rw[if_neg ∅];have a:=o.tot _ _ (l.Ct ()) (l.Ct ()) (l.inj (i:=k) (j:=k-1) () () ()) e;calc .ask (l.Ct ()) (l.Ct ()) ?_;rw[a,if_pos rfl];calc .ret (rfl,S' _,ab0 _ _,rfl,h)
theorem Ll(a:PP n p)(c:k<=n)(b:i<k):(kas_rev p 0 k).getD i 0=p.getD (k-1-i) 0:=by
 have c:=a.size;unfold kas_rev;rw[abr,getElem?_mirror_all (),if_pos (aam _,b),Nat.zero_add,<-abr]
theorem Lm(a:PP n p):PP n (kas_rev p i j):=(mirror_perm _ _ _ _).trans a
theorem Ln(a:wD n lt)(d:PP n p)(b:1<=k)(e:k<=n)(h:SD lt p k):y8 n lt (kas_tail3 k n p) λr=>1<=r.1/\r.1<=n/\PP n r.2/\SS lt r.2 r.1:=by
 unfold kas_tail3;calc .bind (Dz a (Lm (i:=0) (j:=k) d) (n-k) k b () λi j a f=>?_) λm (a,b,c,_)=>.ret ((),(),Lm d,c);rw[Ll d e (),Ll d e f];calc h _ _ () ()
theorem Lo(g:wD n lt)(f:PP n p)(a:1<=n):y8 n lt (kas_count n p) λr=>1<=r.1/\r.1<=n/\PP n r.2/\SS lt r.2 r.1:=by
 unfold kas_count;calc .bind (Dz g f (n-1) 1 (S' _) () λi j k l=>by lia) λm o=>?_;let(a,b,c,d):=o;by_cases b:m=n
 .rw[if_pos (b:)];exact .ret (a,(),f,c)
 .rw[if_neg (b:)];by_cases h:m > 1
  .rw[if_pos h];calc .ask (f.Ct ()) (f.Ct ()) ?_;rw[c 0 (m-1) () (),if_pos rfl];exact .ret (a,(),f,c)
  .rw[if_neg h];obtain rfl:m=1:=by lia
   unfold kas_descPart;refine .bind (Fc g f (n-(1+1)) (1+1) () () λi j k l=>?_) λr (e,a,b,c,q)=>?_
   .obtain⟨rfl,rfl⟩:i=0/\j=1:=by lia
    exact d ()
   .rw[if_neg (),e];calc Ln g f () () q
theorem vj(b:wD n lt)(a:PP n p)(c:k<n)(d:SS lt p k):∀(f l r:Nat),l<=r->r<=k->r-l<=f->(∀i,i<l->lt (p.getD i 0) (p.getD k 0)=true)->(∀i,r<=i->i<k->lt (p.getD k 0) (p.getD i 0)=true)->y8 n lt (kas_place p k f l r) λm=>m<=k/\(∀i,i<m->lt (p.getD i 0) (p.getD k 0)=true)/\(∀i,m<=i->i<k->lt (p.getD k 0) (p.getD i 0)=true)
 |0,l,r,e,g,q,h,o=>by
  obtain rfl:l=r:=by lia
  calc .ret (g,h,o)
 |f+1,l,r,e,g,q,h,o=>by
  unfold kas_place;by_cases z:l >= r
  .rw[if_pos z];obtain rfl:l=r:=by lia
   exact .ret (g,h,o)
  .rw[if_neg z];refine .ask (a.Ct c) (a.Ct ()) ?_
   cases e:lt (p.getD k 0) (p.getD ((l+r)/2) 0) with
   |true=>
    rw[if_pos rfl];calc vj b a c d f l _ () () () h λi m q=>?_;by_cases y:i=(l+r)/2
    .rw[y];exact e
    .calc b.tr _ _ _ e (d _ _ () q)
   |false=>
    rw[if_neg ∅];have h:=b.tot _ _ (a.Ct c) (a.Ct ()) (a.inj (i:=k) (j:=(l+r)/2) c () ()) e;calc vj b a c d f _ r () g () (λi m=>?_) o;by_cases y:i=(l+r)/2
    .rw[y];exact h
    .calc b.tr _ _ _ (d _ _ () ()) h
theorem Lp(b:PP n p)(a:k<n)(c:l<=k):(bubble p k (k-l)).getD i 0=if i=l then p.getD k 0 else if l<i/\i<=k then p.getD (i-1) 0 else p.getD i 0:=by
 have a:=b.size;rw[abr,getElem?_bubble () _ (),show k-(k-l)=l by lia];by_cases a:i=l
 .rw[if_pos a,if_pos a,<-abr]
 .rw[if_neg a,if_neg a];by_cases b:l < i/\i<=k
  .rw[if_pos b,if_pos b,<-abr]
  .rw[if_neg b,if_neg b,<-abr]
theorem Lq(e:wD n lt):∀(f:Nat) {p:Array Nat}(k:Nat),PP n p->1<=k->k+f=n->SS lt p k->y8 n lt (kas_bin f p k) λq=>PP n q/\SS lt q n
 |0,p,k,d,_,a,h=>.ret (d,by rw[show n=k by lia];calc h)
 |f+1,p,k,d,b,a,h=>by
  unfold kas_bin;calc .bind (vj e d () h k 0 k (aam _) (S' _) () (λi z=>absurd z (Nat.not_lt_zero _)) λi a b=>by lia) λl g=>?_;let(a,b,c):=g;calc Lq e f (k+1) ((bubble_perm _ _ _).trans d) () () λi j m o=>?_;rw[Lp d () a,Lp d () a];by_cases e:i=l
  .rw[if_pos e,if_neg (),if_pos ()];exact c _ () ()
  .rw[if_neg e];by_cases a:j=l
   .rw[if_neg (),if_pos a];exact b _ ()
   .rw[if_neg a];by_cases b:l < i/\i<=k
    .rw[if_pos b,if_pos ()];exact h _ _ () ()
    .rw[if_neg b];by_cases a:l < j/\j<=k
     .rw[if_pos a];by_cases z:i=j - 1
      .lia
      .exact h _ _ () ()
     .rw[if_neg a];calc h _ _ m ()
theorem Qc(e:wD n lt)(a:1<=n):y8 n lt (kas_sort n) λq=>PP n q/\SS lt q n:=by
 unfold kas_sort;calc .bind (Lo e (Array.Perm.refl _) a) λr f=>?_;let(a,b,c,d):=f;by_cases z:r.1<n
 .rw[if_pos z,show max r.1 1=r.1 by lia];exact Lq e _ _ c a () d
 .rw[if_neg z];obtain e:r.1=n:=by lia
  rw[e]at d;calc .ret (c,d)
end
end L2
namespace L2
open PySem PySem.W PySem.Spec PyProof.Rows
noncomputable def y9(a b:Int×Int):Bool:=decide (a.1<b.1)||(decide (a.1=b.1)&&decide (a.2<b.2))
theorem gz:y9 a b=true↔a.1<b.1\/(a.1=b.1/\a.2<b.2):=by simp[y9]
theorem DA:y9 a b=false↔¬(a.1<b.1\/(a.1=b.1/\a.2<b.2)):=by rw[<-gz];simp
theorem Vu{f:Nat->Int×Int}(c:∀i j,i<n->j<n->i≠j->f i≠f j):wD n λi j=>y9 (f i) (f j):=by
 refine(λi j h=>?_,λi j k a b=>?_,λi j d g k h=>?_)
 .have:=gz.mp h;exact DA.mpr ()
 .have:=gz.mp a;have:=gz.mp b;exact gz.mpr ()
 .have a:=DA.mp h;have b:=c i j d g k;calc gz.mpr ?_;by_cases e:(f i).1=(f j).1
  .by_cases a:(f i).2=(f j).2
   .exact absurd (Prod.ext e a) b
   .lia
  .lia
def oC(h:Heap)(v:Value)(p:Int×Int):Prop:=∃a o n t u,v=.ref a/\h.get? a=some o/\o.cls=.type "tuple"/\o.data=.seq #[.int p.1 t,.int p.2 u] n
theorem Qd(c:oC s.heap x p)(d:oC s.heap y q)(h:Q (y9 p q) s):wpAny (model prog w) A (keyLt' (tuples' true) x y) Q E s:=by
 let(a,e,i,j,k,rfl,f,l,g):=c;let(b,m,n,o,r,rfl,a,e,i):=d;calc kat_lt f g a i ?_;calc kat_cons (wpAny_eqBool_int ?_);by_cases e:p.1=q.1
 .rw[show(p.1 == q.1)=true by simpa using e];calc kat_yes (kat_cons (wpAny_eqBool_int ?_));by_cases a:p.2=q.2
  .rw[show(p.2==q.2)=true by simpa using a];calc kat_yes (kat_nil ?_);have:y9 p q=false:=DA.mpr ();rw[this]at h;exact h
  .rw[show(p.2 == q.2)=false by simpa using a];calc kat_no ?_;calc kat_one _ _ (PyProof.Rows.lt_int ?_);have:y9 p q=decide (p.2 < q.2):=by simp[y9,e]
   rw[this]at h;exact h
 .rw[show(p.1 == q.1)=false by simpa using e];calc kat_no ?_;have:y9 p q=decide (p.1 < q.1):=by simp[y9,e]
  rw[this]at h;calc oneLt_int h
theorem Lr:∀(vs:List Value) (f:Nat->Int×Int),(∀i v,vs[i]?=some v->oC h v (f i))->∃g,KatTups h vs g/\g.length=vs.length/\∀v∈g,∃n t,v=.int n t
 | [],_,_=>([],KatTups.nil,rfl,λv d=>by simp at d)
 |x::vs,f,d=>by
  let(g,a,b,c):=Lr vs (λi=>f (i + 1)) λi v e=>d (i + 1) v e;let(y,o,n,t,u,rfl,h,j,k):=d 0 x rfl;exact⟨_::g,KatTups.cons h j k rfl a,by simp[b],λv d=>by
   rcases List.mem_cons.mp d with rfl|d
   .exact(_,_,rfl)
   .calc c v d⟩
theorem Hw{vs:List Value}{f:Nat->Int×Int}(a:0<vs.length)(d:∀i v,vs[i]?=some v->oC s.heap v (f i))(h:Q (tuples' true) s):wpAny (model prog w) A (keyKind' vs.toArray) Q E s:=by
 let(e,a,b,c):=Lr vs f d;refine kat_kind (T:=Value.type "int") a () (λv d=>?_) ∅ ?_
 .let(n,t,rfl):=c v d;exact Looks.of_pure rfl
 .have:(Value.type "int" != Value.type "tuple")=true:=∅;rw[this];calc h
theorem tE{f:Nat->Int×Int}(r:s.heap.get? a=some (seqObj "list" vs.toArray n))(K:∀i v,vs[i]?=some v->oC s.heap v (f i))(L:∀i j,i<vs.length->j<vs.length->i≠j->f i≠f j)(M:vs.length<64)(h:∀p:List Nat,p.Perm (List.range vs.length)->p.Pairwise (λi j=>y9 (f i) (f j)=true)->P (.done (.ret .none)) {s with heap:=sortedHeap s.heap a vs (p.map λi=>vs.getD i Value.none).toArray}):
  wpAny (model prog w) A (Builtin.«list.sort» ([.ref a],[])) P E s:=by
 rw[list_sort_plain];have z:a<s.heap.objs.size:=aac r;calc J' (listItems_at r rfl ?_);calc J' (listUpdate_at r rfl ?_);obtain⟨d,n⟩:∃d,(s.heap.update a (Obj.mapSeq λ_=>#[])).get? a=some (seqObj "list" #[] d):=(_,get?_update_seq r (λ_=>#[]))
 calc J' (seqEpoch_at n rfl ?_);calc J' (wpAny_newTuple ?_);calc J' (wpAny_newList ?_);calc abd ?_;have x:∀b o,b≠a->s.heap.get? b=some o->(((s.heap.update a (Obj.mapSeq λ_=>#[])).push (seqObj "tuple" vs.toArray 0)).push (seqObj "list" #[] 0)).get? b=some o:=λb o N q=>by
  have J:b<s.heap.objs.size:=aac q;rw[ac4 _ _ _ (by rw[size_push',acg];calc aak (Nat.lt_succ_of_lt J)),ac4 _ _ _ (by rw[acg];calc aak J),Heap.get?_update_ne _ _ _ _ N];exact q
 have c:(((s.heap.update a (Obj.mapSeq λ_=>#[])).push (seqObj "tuple" vs.toArray 0)).push (seqObj "list" #[] 0)).get? a=some (seqObj "list" #[] d):=by
  rw[ac4 _ _ _ (by rw[size_push',acg];calc aak (Nat.lt_succ_of_lt z)),ac4 _ _ _ (by rw[acg];calc aak z)];exact n
 have g:∀i v,vs[i]?=some v->oC (((s.heap.update a (Obj.mapSeq λ_=>#[])).push (seqObj "tuple" vs.toArray 0)).push (seqObj "list" #[] 0)) v (f i):=λi v e=>by
  let(b,o,m,t,u,rfl,d,C,n):=K i v e;calc(b,o,m,t,u,rfl,x b o (λz=>?_) d,C,n);rw[z,r]at d
  cases d;exact absurd C (show ¬(Value.type "list"=Value.type "tuple") by decide)
 have y:=h;show wpAny (model prog w) A _ P E {s with heap:=((s.heap.update a (Obj.mapSeq λ_=>#[])).push (seqObj "tuple" vs.toArray 0)).push (seqObj "list" #[] 0)};dsimp only;have k:vs.toArray.size=vs.length:=nofun;by_cases b:vs.toArray.size<2
 .rw[if_pos b,if_pos b];calc J' (U' ?_);rw[StateT.run_pure];calc J' (U' ?_);dsimp only;calc J' (seqEpoch_at c rfl ?_);calc J' (listUpdate_at c rfl ?_ (hsz2:=by rw[Array.size_map];show(pairsOf vs).size<=_;rw[pairsOf_size,abb];lia));simp only[bne_self_eq_false,Bool.false_eq_true,if_false];have e:=y (List.range vs.length) (List.Perm.refl _) (by
   match vs,k,b with
   | [],_,_=>calc .nil
   | [_],_,_=>calc List.pairwise_singleton _ _
   | _::_::_,d,b=>simp at b;lia)
  have C:((List.range vs.length).map λi=>vs.getD i Value.none).toArray=(vs.toArray.zip vs.toArray).map (·.2):=by
   apply Array.toList_inj.mp;apply List.ext_getElem?;intro i;by_cases l:i<vs.length
   .simp[l]
   .simp[l]
  rw[C]at e;exact U' e
 .rw[if_neg b,if_neg b];have d:2<=vs.length:=();calc J' (Hw (f:=f) () g ?_);refine J' (aaR (kat_run (E:=E) (κ:=tuples' true) (ks:=vs) (vs:=vs) (Q:=λI D=>D={s with heap:=((s.heap.update a (Obj.mapSeq λ_=>#[])).push (seqObj "tuple" vs.toArray 0)).push (seqObj "list" #[] 0)}/\∃p:Array Nat,arrOf I=p.map (kas_item (vs.toArray.zip vs.toArray))/\failedOf I=none/\PP vs.length p/\SS (λi j=>y9 (f i) (f j)) p vs.length)
   (G:=λp D=>D={s with heap:=((s.heap.update a (Obj.mapSeq λ_=>#[])).push (seqObj "tuple" vs.toArray 0)).push (seqObj "list" #[] 0)}/\PP vs.length p/\SS (λi j=>y9 (f i) (f j)) p vs.length)
   rfl d M (λp I D _ b h a=>(a.1,p,b,h,a.2.1,a.2.2)) (Qc (Vu L) () _ _ _ (λi j C l F d=>?_) λp H=>(rfl,H))) ?_ λ_ _ e=>e)
  .refine Qd (g i _ ?_) (g j _ ?_) d
   .rw[W',cJ l];rfl
   .rw[W',cJ F];rfl
  rintro⟨⟨⟩,I⟩ D ⟨rfl,p,b,d,H,e⟩;dsimp only;have a:=kat_snds rfl b;rw[a];calc J' (seqEpoch_at c rfl ?_);calc J' (listUpdate_at c rfl ?_ (hsz2:=by rw[aan,V',Array.length_toList,H.size,abb];lia));rw[d];simp only[bne_self_eq_false,Bool.false_eq_true,if_false];calc U' (y p.toList (by have:=Array.perm_iff_toList_perm.mp H;simpa using this) ?_);rw[List.pairwise_iff_getElem];intro i j l F a;have k:=H.size;have:=e i j a (by simpa[k] using F);rw[Array.length_toList]at l F;simpa[Array.getD,l,F] using this
theorem za{f:Nat->Int×Int}(d:s.heap.IsList l vs.toArray)(k:∀i v,vs[i]?=some v->oC s.heap v (f i))(n:∀i j,i<vs.length->j<vs.length->i≠j->f i≠f j)(r:vs.length<64)(h:∀p:List Nat,p.Perm (List.range vs.length)->p.Pairwise (λi j=>y9 (f i) (f j)=true)->Q (.ref (s.heap.objs.size+1)) {s with heap:=sortedAll s.heap vs (p.map λi=>vs.getD i Value.none).toArray}):
  wpAny (model prog w) A (call (.builtin "sorted") [.ref l]) Q E s:=by
 calc Calls.call_function_entry kind_sorted plain_sorted entry_sorted (args_sorted1 _) ?_;unfold Builtin.«sorted»;calc J' (m:=checkCount "sorted" 1 1 _) (U' ?_);calc J' (collect_list d ?_);calc J' (wpAny_newList ?_);have a:((s.heap.push (seqObj "list" #[] 0)).update s.heap.objs.size (Obj.mapSeq (· ++vs.toArray))).objs.size=s.heap.objs.size+1:=by
  rw[acg,size_push']
 have g:(((s.heap.push (seqObj "list" #[] 0)).update s.heap.objs.size (Obj.mapSeq (· ++vs.toArray))).push (seqObj "list" vs.toArray 0)).get? (s.heap.objs.size+1)=some (seqObj "list" vs.toArray 0):=by
  rw[<-a];exact aai _ rfl
 have c:∀b o,s.heap.get? b=some o->(((s.heap.push (seqObj "list" #[] 0)).update s.heap.objs.size (Obj.mapSeq (· ++vs.toArray))).push (seqObj "list" vs.toArray 0)).get? b=some o:=λb o q=>by
  have d:b<s.heap.objs.size:=aac q;rw[ac4 _ _ _ (by rw[a];calc aak (Nat.lt_succ_of_lt d)),Heap.get?_update_ne _ _ _ _ (aak d),ac4 _ _ _ (aak d)];exact q
 show wpAny _ _ _ _ _ {s with heap:=((s.heap.push (seqObj "list" #[] 0)).update s.heap.objs.size (Obj.mapSeq (· ++vs.toArray))).push (seqObj "list" vs.toArray 0)};rw[a];refine J' (abd (acU slot_list_sort (_,g,rfl) entry_list_sort (tE (f:=f) g (λi v e=>?_) n r λp x y=>(_,rfl,?_)) (args_list_sort _)))
 .let(b,o,m,t,u,rfl,a,d,g):=k i v e;exact(b,o,m,t,u,rfl,c _ _ a,d,g)
 calc U' (_,rfl,h p x y)
end L2
namespace L2
open PySem PySem.W PySem.Spec PyProof.Rows
theorem Bk(K:KdlSrc prog w T r d n P OK)(l:A.handled=none)(i:OK s.heap)(m:n<=sizeLine)(h:∀h' c f,(∀b o,s.heap.get? b=some o->h'.get? b=some o)->s.heap.objs.size<=h'.objs.size->ItemsOf P f n->Q f.toList {s with heap:=h',toks:=c}):wpAny (model prog w) A (collect (.ref r)) Q E s:=by
 unfold collect;calc J' (wpAny_runValue (codeAny_builtin entry_proto_collect' ?_));show wpAny _ _ (do again (.builtin "list.__iadd__" ([<-newList [],.ref r],[]))) _ _ s;calc J' (wpAny_newList (U' (Code.quiet_builtin _ ⋯,codeAny_builtin entry_list_iadd' ?_)));show wpAny _ _ (Builtin.List.listExtendWith (.ref s.heap.objs.size) (.ref r) (.ref s.heap.objs.size)) _ _ {s with heap:=s.heap.push (seqObj "list" #[] 0)};have j:=K.there _ i;have p:(s.heap.push (seqObj "list" #[] 0)).get? s.heap.objs.size=some (seqObj "list" #[] 0):=aai _ rfl;rw[Around.under_plainId ⋯];refine kdl_extend (R:=λr k=>match r with
   | .ok (.ret v)=>wpAny (model prog w) A (match v with
    | .ref a=>(do
     let o <-load a
     match o.data with
     | .seq g _=>pure g.toList
     | _=>unsupported "internal:collect")
    | _=>unsupported "internal:collect") Q E k
   | .ok _=>False
   | .error e=>E e k) (s:={s with heap:=s.heap.push (seqObj "list" #[] 0)}) K l (K.keep _ _ i λb _ o e=>P' _ e) _ (abv j.1) (abv j.2) (.ref s.heap.objs.size) 0 p (λh' c f l i a k=>?_) m
 show wpAny (model prog w) A (do
   let o <-load s.heap.objs.size
   match o.data with
   | .seq g _=>pure g.toList
   | _=>unsupported "internal:collect") Q E {s with heap:=h',toks:=c}
 calc J' (wpAny_load a ?_);calc U' (h h' c f (λb o e=>i b o (aak (aac e)) (P' _ e)) (T' (aac a)) k)
theorem DC(K:KdlSrc prog w T r d n P OK)(i:A.handled=none)(j:OK s.heap)(a:n<64)(l:∀c:Array Value,ItemsOf P c n->IntsAre c.toList ks)(h:∀h' g (out:Array Value) f e a,(∀b o,s.heap.get? b=some o->h'.get? b=some o)->s.heap.objs.size<=a->h'.get? a=some (seqObj "list" out e)->IntsAre out.toList f->f.Perm ks->f.Pairwise (· <=·)->Q (.ref a) {s with heap:=h',toks:=g}):
  wpAny (model prog w) A (call (.builtin "sorted") [.ref r]) Q E s:=by
 calc Calls.call_function_entry kind_sorted plain_sorted entry_sorted (args_sorted1 _) ?_;unfold Builtin.«sorted»;calc J' (m:=checkCount "sorted" 1 1 _) (U' ?_);calc J' (Bk K i j (by rw[abb];lia) λh' g c p a k=>?_);have i:c.toList.length=n:=by rw[Array.length_toList];exact k.1
 calc J' (wpAny_newList ?_ (by rw[i,abb];lia));have j:(h'.push (seqObj "list" c.toList.toArray 0)).get? h'.objs.size=some (seqObj "list" c.toList.toArray 0):=aai _ rfl;calc J' (abd (acU slot_list_sort (_,j,rfl) entry_list_sort (list_sort_tree j (l _ k) () λout f c i t=>(_,rfl,?_)) (args_list_sort _)));let(e,k):=sortedHeap_at (out:=out) j;refine U' (_,rfl,h _ g out f e _ (λb o q=>?_) ?_ k c i t)
 .have e:=p b o q;have c:b<h'.objs.size:=aac e;show(sortedHeap (h'.push _) h'.objs.size _ out).get? b=some o;rw[sortedHeap_old (aak c) (by rw[size_push'];calc Nat.lt_succ_of_lt c),ac4 _ _ _ (aak c)];exact e
 .calc a
structure Vw(H:Hp)(ys:List V)(ps:jr):Prop where
 len:ys.length=ps.length
 got:∀(i:Nat) p,ps[i]?=some p->∃b,ys[i]?=some (.ref b)/\H b=some (.tup [.int p.1,.int p.2])
theorem Vw.mono(h:Vw H b c)(s:cw H a):Vw a b c:=(h.len,λi p e=>let ⟨b,a,c⟩:=h.got i p e;(b,a,s _ _ c))
theorem xP:∀{a:List Int}{us:List Value},Vals (a.map V.int) us->IntsAre us a
 | [],_,.nil=>.nil
 |n::a,_,.cons r b=>by
  let(t,rfl):=r;calc .cons n t (xP b)
theorem ints_get:∀{us:List Value}{ks:List Int},us.length=ks.length->(∀(i:Nat) u k,us[i]?=some u->ks[i]?=some k->∃t,u=.int k t)->IntsAre us ks
 | [],[],_,_=>.nil
 |u::us,k::ks,a,h=>by
  let(t,rfl):=h 0 u k rfl rfl;calc .cons k t (ints_get (a:) λi u k b c=>h (i+1) u k b c)
theorem Bl(h:Vals a us):∀(p:List Nat),(∀i∈p,i<a.length)->Vals (p.map λi=>a.getD i .bL) (p.map λi=>us.getD i Value.none)
 | [],_=>.nil
 |i::p,b=>by
  have c:=b i aaM;let(u,e,r):=h.get (cJ c);calc .cons ?_ (Bl h p λj d=>b j (aar _ d));show RelV (a.getD i .bL) (us.getD i Value.none);rw[W',W',cJ c,e];calc r
def afr(K:W.Frag):List V->Hp->VK->Prop:=λvs H Q=>∃a,vs=[.ref a]/\
  ((∃(b:List V) (c:jr),aS K H a b/\b.length < 64/\Vw H b c/\c.Nodup/\∀l (e:List V) (d:jr),H l=none->d.Perm c->d.Pairwise (λx y=>y9 x y=true)->Vw H e d->Q (.ref l) (upd H l (.lst e)))\/
   (∃(c:List (Key×V)) (ks:List Int),H a=some (.dK c)/\c.map (·.1)=ks.map Sum.inl/\ks.length<64/\∀l (b:List Int),H l=none->b.Perm ks->b.Pairwise (· <=·)->Q (.ref l) (upd H l (.lst (b.map V.int))))\/
   (∃ks:List Int,aS K H a (ks.map V.int)/\ks.length < 64/\∀l (b:List Int),H l=none->b.Perm ks->b.Pairwise (· <=·)->Q (.ref l) (upd H l (.lst (b.map V.int)))))
theorem xQ(O:X.calm=true):eO X (.builtin "sorted") (afr X.K):=by
 intro v s σ H xs us Q I r h;let(a,rfl,h):=h;let(u,rfl,ru):=r.one
 cases ru;rcases h with⟨Z,c,P,r,l,z,q⟩|⟨R,L,e,F,r,q⟩|⟨L,P,r,q⟩
 .let(M,B,S,hz):=I.list P;have d:=B.length;have om:=l.len;refine za (f:=λi=>c.getD i ((0),0)) S.isList (λi v e=>?_) (λi j m r Cu e=>?_) () λp T Co=>?_
  .have m:i < c.length:=by have:=(iF e).1;lia
   let(b,C,G):=l.got i _ (cJ m);let(r,N,r3):=B.get C;rw[e]at N
   cases N
   cases r3;let(_,r,rt,o,ho,O,n,hd):=(show cy X.prog X.w H s.heap b (.tup [.int (c[i]).1,.int (c[i]).2]) from I.aY b _ G)
   let(v1,v2,rfl,(t1,rfl),(t2,rfl)):=rt.two;rw[show c.getD i ((0),0)=c[i] by simp[m]];exact(b,o,n,t1,t2,rfl,ho,O,hd)
  .rw[show c.getD i ((0),0)=c[i]'() by simp[show i<c.length by lia],show c.getD j ((0),0)=c[j]'() by simp[show j<c.length by lia]]at e;exact Cu ((List.getElem_inj z).mp e)
  .have iN:∀i ∈ p,i < Z.length:=λi m=>by have:=(T.mem_iff).mp m;rw[ac9] at this;lia
   let(e,U):=sortedAll_at s.heap M (p.map λi=>M.getD i Value.none).toArray;have n:p.length=c.length:=by rw[T.length_eq];simp;lia
   refine(.ref (s.heap.objs.size+1),_,I.laid (a:=s.heap.objs.size+1) (o:=.lst (p.map λi=>Z.getD i .bL)) (t':=s.toks) (λb o q=>sortedAll_old q) (ac0 _) (show cy X.prog X.w _ _ _ (.lst _) from(by rw[V'];lia,_,e,Bl B p iN,U)),rfl,q _ _ (p.map λi=>c.getD i ((0),0)) (I.aY.fresh (ac0 _)) ?_ ?_ (nofun,λi x e=>?_))
   .have n:c=(List.range c.length).map λi=>c.getD i ((0),0):=by
     apply List.ext_getElem?;intro i;by_cases m:i<c.length
     .simp[m]
     .simp[m]
    have m:=T.map λi=>c.getD i ((0),0);rw[<-d,om,<-n]at m;exact m
   .exact List.pairwise_map.mpr Co
   .rw[K']at e;let(k,F,rfl):=jb e;have n:=iN k (aaF F);let(b,C,G):=l.got k _ (cJ (show k<c.length by lia));calc(b,by rw[K',F];simp[List.getD_eq_getElem?_getD,C],?_);rw[show c.getD k ((0),0)=c[k]'() by simp[show k<c.length by lia]];exact G
 .let(z,r,vs,c,hd):=JN I.aY e;let(o,v,m,z,T,Z,g4,g5):=id hd;have Cw:vs.length=R.length:=c.length.symm;have n:R.length=L.length:=by have:=congrArg List.length F;simpa using this
  refine DC (ks:=L) (kdl_dict (ep:=m) r) (I.ok.hd O) (o,v,z,T,Z,g4,g5) () (λL n=>?_) λm tk g W e a' ZR J ha hI l hs=>?_
  .calc ints_get (by rw[Array.length_toList,n.1];lia) λi u k C G=>?_;rw[Array.getElem?_toList] at C;let(k',x,N,e4):=n.2 i u C;have m:(R.map (·.1))[i]?=some (Sum.inl k):=by rw[F,K',G];rfl
   rw[K']at m;let(p,l,e6):=jb m;let(i,e7,e8,_):=Paired.get c l;rw[N]at e7
   cases e7;rw[e6]at e8;rw[CA,show k'=Sum.inl k from e8.symm]at e4;rcases c9 e4 with⟨j,t,Y,rfl⟩|⟨y,t,Y,rfl⟩
   .cases Y;exact(t,rfl)
   .cases Y
  .exact(.ref a',_,I.laid (a:=a') (o:=.lst (W.map V.int)) (t':=tk) ZR J (show cy X.prog X.w _ _ _ (.lst _) from(by rw[V',l.length_eq];rw[abb];lia,g.toList,e,ni hI,(ha:))),rfl,q _ _ (I.aY.fresh J) l hs)
 .let(M,B,S,hz):=I.list P;have d:=B.length;rw[V']at d;calc sorted_ints S.isList (xP B) () λg W i c j=>?_;let(e,U):=sortedAll_at s.heap M g;calc(.ref (s.heap.objs.size+1),_,I.laid (a:=s.heap.objs.size+1) (o:=.lst (W.map V.int)) (t':=s.toks) (λb o q=>sortedAll_old q) (ac0 _) (show cy X.prog X.w _ _ _ (.lst _) from(by rw[V',c.length_eq];rw[abb];lia,g.toList,e,ni i,(U:))),rfl,q _ _ (I.aY.fresh (ac0 _)) c j)
end L2
namespace DD
open PySem L2
variable {r:RS}
structure RS.Pk(n:NT)(r:RS):Prop where
 nd:r.picks.Nodup
 mem:∀(w k:Nat) e,w<n.ws.length->(r.ww w).cE[k]?=some (some e)->(((w:Int)),(k:Int))∈r.picks
theorem RS.Pk.put(h:r.Pk n):(r.put w x s).Pk n:=(h.nd,λu k e a b=>h.mem u k e a (nC.mp b))
theorem RS.Pk.send:∀(a:jr) {r:RS},r.Pk n->(r.send outs ev a).Pk n
 | [],r,h=>h
 |p::a,r,h=>by
  show((if p.1.toNat<outs.length then r.put (outs.getD p.1.toNat 0) p.2 (some ev) else r).send outs ev a).Pk n;split
  .exact RS.Pk.send a h.put
  .calc RS.Pk.send a h
theorem RS.Pk.pick(h:r.Pk n)(f:r.Iv n)(b:(r.ww w).cE[k]?=some none):(r.pick n w k).Pk n:=by
 refine RS.Pk.send _ (?_,λu j e g a=>?_)
 .show(r.picks++[(((w:Int)),(k:Int))]).Nodup;rw[List.nodup_append];calc(h.nd,nofun,λp i q c e=>?_);rw[List.mem_singleton] at c;subst c;subst e;let(m,o,e,l,_,d):=f.pk _ i
  cases l;rw[b]at d
  cases d
 .show _ ∈ r.picks++[(((w:Int)),(k:Int))]
  rcases(ig b).mp a with⟨rfl,rfl,_⟩|a
  .simp
  .calc List.mem_append_left _ (h.mem u j e g a)
noncomputable def iX(r:RS)(w n:Nat):List Nat:=(List.range n).filter λk=>((r.ww w).cE.getD k none).isSome
noncomputable def ij(r:RS)(W:Nat):List (Nat×Nat):=(List.range W).flatMap λw=>(iX r w (r.ww w).cE.length).map λk=>((w),k)
noncomputable def pI(p:Nat×Nat):Int×Int:=(((p.1:Int)),(p.2:Int))
theorem qX:ij r (W+1)=ij r W++(iX r W (r.ww W).cE.length).map λk=>((W),k):=by
 unfold ij;rw[ac2,List.flatMap_append];simp
theorem qh:k∈iX r w n↔k<n/\∃e,(r.ww w).cE[k]?=some (some e):=by
 unfold iX;rw[List.mem_filter,ac9,W'];refine and_congr_right λ_=>?_
 cases(r.ww w).cE[k]? with
 |none=>simp
 |some o=>cases o<;>simp
theorem fR:∀{W:Nat},p∈ij r W↔p.1<W/\∃e,(r.ww p.1).cE[p.2]?=some (some e)
 |0=>by simp[ij]
 |W+1=>by
  rw[qX,List.mem_append,fR (W:=W),List.mem_map];constructor
  .rintro(⟨b,a⟩ | ⟨k,c,rfl⟩)
   .exact((),a)
   .exact(Nat.lt_succ_self _,(qh.mp c).2)
  .rintro⟨b,e,a⟩;by_cases z:p.1 < W
   .exact .inl (z,e,a)
   .have b:p.1=W:=();calc .inr (p.2,qh.mpr (?_,e,by rw[<-b];calc a),by rw[<-b]);rw[<-b];calc(iF a).1
theorem zb:(iX r w n).Pairwise (· < ·):=List.Pairwise.filter _ List.pairwise_lt_range
theorem zc:∀{W:Nat},((ij r W).map pI).Pairwise λx y=>y9 x y=true
 |0=>.nil
 |W+1=>by
  rw[qX,aah,List.pairwise_append];refine(zc,?_,λx c y d=>?_)
  .rw[List.map_map,List.pairwise_map];calc zb.imp λ{a b} h=>?_;exact gz.mpr (.inr (rfl,by show(a:Int)<b;lia))
  .let(p,e,rfl):=List.mem_map.mp c;let(q,f,rfl):=List.mem_map.mp d;let(k,_,rfl):=List.mem_map.mp f;have:=(fR.mp e).1;calc gz.mpr (.inl (by show(p.1:Int)<W;lia))
theorem oE{α:Type}{R:α->α->Prop}(k:∀a b,R a b->¬R b a):∀{xs c:List α},xs.Pairwise R->c.Pairwise R->(∀p,p∈xs↔p∈c)->xs=c
 | [],[],_,_,_=>rfl
 | [],y::c,_,_,h=>absurd ((h y).mpr aaM) List.not_mem_nil
 |x::xs,[],_,_,h=>absurd ((h x).mp aaM) List.not_mem_nil
 |x::xs,y::c,i,j,h=>by
  rw[List.pairwise_cons]at i j;have e:x=y:=by
   rcases List.mem_cons.mp ((h x).mp aaM) with e|l
   .exact e
   rcases List.mem_cons.mp ((h y).mpr aaM) with e|a
   .exact e.symm
   exact absurd (i.1 y a) (k _ _ (j.1 x l))
  subst e;have d:¬R x x:=λz=>k _ _ z z;rw[oE k i.2 j.2 λp=>(λg=>?_,λg=>?_)]
  .rcases List.mem_cons.mp ((h p).mp (aar _ g)) with rfl | q
   .exact absurd (i.1 _ g) d
   .exact q
  .rcases List.mem_cons.mp ((h p).mpr (aar _ g)) with rfl | q
   .exact absurd (j.1 _ g) d
   .calc q
theorem Vx(a b:Int×Int)(h:y9 a b=true):¬y9 b a=true:=λa=>by
 have:=gz.mp h;have:=gz.mp a;lia
theorem Bm{α:Type}[DecidableEq α]:∀(L M:List α),L.Nodup->(∀x∈L,x∈M)->M.length<=L.length->M.Perm L
 | [],M,_,_,h=>by rw[List.length_eq_zero_iff.mp (Nat.le_zero.mp h)]
 |x::L,M,c,a,h=>by
  have d:=a x aaM;have b:=List.nodup_cons.mp c;have p:=List.perm_cons_erase d;have e:=p.length_eq;simp only[List.length_cons]at h e;calc p.trans ((Bm L (M.erase x) b.2 (λy c=>(List.mem_erase_of_ne (λe=>b.1 (by rw[<-e];calc c))).mpr (a y (aar _ c))) ()).cons x)
theorem Bn:(iX r w (r.ww w).cE.length).length=(r.ww w).cE.countP Option.isSome:=by
 unfold iX;have:∀l:List (Option (Int×Int)),((List.range l.length).filter λk=>(l.getD k none).isSome).length=l.countP Option.isSome:=λl=>by
  rw[<-List.countP_eq_length_filter];induction l with
  |nil=>rfl
  |cons a l b=>rw[abw,List.range_succ_eq_map,List.countP_cons,List.countP_cons,List.countP_map,<-b];congr 1
 calc this _
theorem Ls(h:OR H (.d (jq (r.ww w).cE) ((r.ww w).cE.countP Option.isSome)) (.dK c)):∃ks:List Int,c.map (·.1)=ks.map Sum.inl/\ks.Perm ((iX r w (r.ww w).cE.length).map λk:Nat=>(k:Int)):=by
 have j:((iX r w (r.ww w).cE.length).map λk:Nat=>(Sum.inl (k:Int):Key)).Nodup:=List.pairwise_map.mpr (zb.imp λ{a b} h e=>by cases e;lia);have p:=Bm _ (c.map (·.1)) j (λx g=>by
  let(k,m,rfl):=List.mem_map.mp g;let(_,e,b):=qh.mp m;have a:=h.2 (k:Int);rw[show jq (r.ww w).cE (k:Int)=some (pairD e) by unfold jq;rw[if_pos (),aal,W',b];rfl] at a;let(v,j,_):=a;calc Pb j) (by rw[V',V',Bn];calc h.1)
 refine⟨(c.map (·.1)).map λx:Key=>match x with | .inl i=>i | .inr _=>0,?_,?_⟩
 .rw[List.map_map];calc(List.map_id _).symm.trans (List.map_congr_left λx g=>?_);let(k,_,rfl):=List.mem_map.mp (p.mem_iff.mp g);rfl
 .have:=p.map λx:Key=>match x with | .inl i=>i | .inr _=>0
  rw[List.map_map (l:=iX r w _)]at this;calc this
theorem Bo(h:c.Perm ((iX r w n).map λk:Nat=>(k:Int)))(f:c.Pairwise (· <=·)):c=(iX r w n).map λk:Nat=>(k:Int):=by
 have d:((iX r w n).map λk:Nat=>(k:Int)).Pairwise (· < ·):=List.pairwise_map.mpr (zb.imp λ{a b} h=>by lia);have g:c.Nodup:=h.nodup_iff.mpr (d.imp λ{a b} h e=>by lia);calc oE (R:=(· < ·)) (λa b h=>by lia) ((List.Pairwise.and f g).imp λ{a b} h=>by have:=h.1;have:=h.2;lia) d λp=>h.mem_iff
theorem zd(d:r.Iv n)(f:r.Pk n)(g:a.Perm r.picks)(i:a.Pairwise λx y=>y9 x y=true):a=(ij r n.ws.length).map pI:=by
 calc oE Vx i zc λp=>?_;rw[g.mem_iff,List.mem_map];constructor
 .intro h;let(w,k,e,rfl,b,c):=d.pk p h;exact(((w),k),fR.mpr (b,e,c),rfl)
 .rintro⟨q,j,rfl⟩;let(b,e,c):=fR.mp j;calc f.mem _ _ _ b c
theorem Bp(g:r.Iv n)(f:r.Pk n):(ij r n.ws.length).length=r.picks.length:=by
 have i:((ij r n.ws.length).map pI).Nodup:=zc.imp λ{a b} h e=>by subst e;have:=gz.mp h;lia
 have j:((ij r n.ws.length).map pI).Perm r.picks:=(List.perm_ext_iff_of_nodup i f.nd).mpr λp=>by
  rw[List.mem_map];constructor
  .rintro⟨q,l,rfl⟩;let(c,e,d):=fR.mp l;exact f.mem _ _ _ c d
  .intro h;let(w,k,e,rfl,c,d):=g.pk p h;exact(((w),k),fR.mpr (c,e,d),rfl)
 have:=j.length_eq;rwa [V']at this
end DD
namespace DD
open PySem L2
variable {r:RS}
theorem nH:(List.replicate n (0:Int)).getD j 0=0:=by
 rw[W',List.getElem?_replicate];split<;>rfl
theorem Hy{α:Type}{D:List (Ev×α)}(h:p∈D.map (·.1)):∃R,bW D p=some R:=by
 unfold bW
 cases e:D.find? λx=>decide (x.1=p) with
 |some y=>calc(_,rfl)
 |none=>
  let(x,a,rfl):=List.mem_map.mp h;calc absurd (aaC rfl) (List.find?_eq_none.mp e x a)
theorem nI(h:dQ n L):(bG n L).map (·.1)=L.map (·.1):=by
 induction h with
 |nil=>rfl
 |snoc _ _ _ _ _ a=>rw[fV,aah,aah,a];rfl
def Lu(n:Nat)(L:Lg)(A:List Int):Prop:=A.length=n/\∀j:Nat,j<n->0<=A.getD j 0/\A.getD j 0<=l8 L j
theorem Lv:Lu n L (List.replicate n 0):=(acV,λj _=>by rw[nH];calc(Int.le_refl _,Int.natCast_nonneg _))
theorem DE(h:∀p R,bW (bG n L) p=some R->Lu n L R)(o:Option Ev):Lu n L (gD n (bG n L) o):=by
 cases o with
 |none=>calc Lv
 |some p=>
  show Lu n L ((bW (bG n L) p).getD _)
  cases e:bW (bG n L) p with
  |none=>calc Lv
  |some R=>calc h p R e
theorem Lw{e:Ev}(c:a.length=n)(d:b.length=n):((List.zipWith max a b).set e.1.toNat e.2).length=n/\∀j:Nat,j<n->((List.zipWith max a b).set e.1.toNat e.2).getD j 0=if j=e.1.toNat then e.2 else max (a.getD j 0) (b.getD j 0):=by
 have g:(List.zipWith max a b).length=n:=by rw[ac6,c,d,Nat.min_self]
 calc(by rw[List.length_set];calc g,λj a=>?_);rw[W',List.getElem?_set];by_cases q:e.1.toNat=j
 .rw[if_pos q,if_pos q.symm,if_pos (by rw[g,q];calc a)];rfl
 .rw[if_neg q,if_neg (Ne.symm q),<-W',ku c d a]
theorem Lx(h:dQ n L):∀p R,bW (bG n L) p=some R->Lu n L R/\R.getD p.1.toNat 0=p.2:=by
 induction h with
 |nil=>intro p R e;cases e
 | @snoc L e s h m o t l i=>
  intro p R f;have k:∀j:Int,l8 L j<=l8 (L++[((e),s)]) j:=λj=>by rw[nE];exact ab0 _ _
  rw[fV,iW]at f
  cases c:bW (bG n L) p with
  |some h=>
   rw[c]at f;cases f;let((a,b),g):=i _ _ c;calc((a,λj d=>((b j d).1,Int.le_trans (b j d).2 (Int.ofNat_le.mpr (k j)))),g)
  |none=>
   rw[c]at f;by_cases q:e=p
   .subst q;rw[if_pos rfl] at f;cases f;let(h,a):=DE (λp R c=>(i p R c).1) (some ((e.1),e.2 - 1));let(u,b):=DE (λp R c=>(i p R c).1) s;let(l,g):=Lw (e:=e) h u;have c:((e.1.toNat:Nat):Int)=e.1:=abX m;have h:e.1.toNat < n:=Int.ofNat_lt.mp (by rw[c];calc o);calc((l,λj d=>?_),by show((List.zipWith max _ _).set _ _).getD _ 0=_;rw[g _ h,if_pos rfl]);show 0<=((List.zipWith max _ _).set _ _).getD j 0/\((List.zipWith max _ _).set _ _).getD j 0<=_;rw[g j d];by_cases r:j=e.1.toNat
    .rw[if_pos r,r,c,nE,if_pos rfl,t];exact(Int.natCast_nonneg (_+1),Int.le_refl _)
    .rw[if_neg r];have u:=Int.ofNat_le.mpr (k j);exact(Int.le_trans (a j d).1 (Int.le_max_left _ _),Int.max_le.mpr (Int.le_trans (a j d).2 u,Int.le_trans (b j d).2 u))
   .rw[if_neg q]at f;cases f
theorem qi(h:dQ n L)(e:bW (bG n L) p=some R):p∈L.map (·.1)/\R.length=n/\(∀j:Nat,j<n->0<=R.getD j 0/\R.getD j 0<=l8 L j)/\R.getD p.1.toNat 0=p.2:=by
 by_cases d:p∈L.map (·.1)
 .let((a,b),c):=Lx h p R e;exact(d,a,b,c)
 .rw[gI (by rw[nI h];calc d)]at e;cases e
theorem DG(h:dQ n L)(a:p∈L.map (·.1)):∃R,bW (bG n L) p=some R:=Hy (by rw[nI h];calc a)
def Qe(n:Nat)(L:Lg)(o:Option Ev)(A:List Int):Prop:=A.length=n/\(∀j:Nat,j<n->0<=A.getD j 0/\A.getD j 0<=l8 L j)/\((∀j,A.getD j 0=0)\/∃p,o=some p/\bW (bG n L) p=some A)
theorem Ly(h:dQ n L)(o:Option Ev):Qe n L o (gD n (bG n L) o):=by
 let(a,b):=DE (λp R c=>(Lx h p R c).1) o;refine(a,b,?_)
 cases o with
 |none=>calc .inl λj=>nH
 |some p=>
  show(∀j,((bW (bG n L) p).getD _).getD j 0=0)\/∃q,some p=some q/\bW (bG n L) q=some ((bW (bG n L) p).getD _)
  cases e:bW (bG n L) p with
  |none=>calc .inl λj=>nH
  |some R=>calc .inr (p,rfl,e)
theorem DH(h:dQ n (L++[((e),s)])):∃R A B,bW (bG n (L++[((e),s)])) e=some R/\Qe n L (some ((e.1),e.2-1)) A/\Qe n L s B/\R.length=n/\(∀j:Nat,j<n->R.getD j 0=if j=e.1.toNat then e.2 else max (A.getD j 0) (B.getD j 0))/\A.getD e.1.toNat 0=e.2-1/\B.getD e.1.toNat 0<=e.2-1/\∀q,s=some q->bW (bG n L) q=some B:=by
 let(g,f,i,b,k,l):=h.inv;have c:=Ly g (some ((e.1),e.2-1));have b:=Ly g s;have d:=nI g;refine(vi n (bG n L) ((e),s),_,_,by rw[fV,iW,gI (by rw[d];calc k),if_pos rfl];rfl,c,b,?_,λj h=>?_,?_,?_,λq m=>?_)
 .exact(Lw c.1 b.1).1
 .exact(Lw c.1 b.1).2 j h
 .by_cases q:e.2<=1
  .have:bW (bG n L) ((e.1),e.2-1)=none:=gI λz=>by
    rw[d]at z;have:=(g.mem _ _).mp z;lia
   have c:0<=l8 L e.1:=aam _;rw[show gD n (bG n L) (some ((e.1),e.2-1))=List.replicate n 0 by simp[gD,this],nH];lia
  .let(R,a):=DG g ((g.mem e.1 (e.2-1)).mpr (f,i,(),()));rw[show gD n (bG n L) (some ((e.1),e.2-1))=R by simp[gD,a]];exact(qi g a).2.2.2
 .have:=(b.2.1 e.1.toNat ()).2;rw[show((e.1.toNat:Nat):Int)=e.1 by lia]at this;lia
 .subst m;let(R,a):=DG g (l q rfl);rw[show gD n (bG n L) (some q)=R by simp[gD,a]];calc a
theorem Lz(h:bW (bG n L) p=some R):bW (bG n (L++[((e),s)])) p=some R:=by
 rw[fV,iW,h];rfl
theorem ze(h:bW (bG n (L++[((e),s)])) p=some R)(a:p≠e):bW (bG n L) p=some R:=by
 rw[fV,iW,if_neg (Ne.symm a),Option.or_none]at h;calc h
theorem Qf(h:dQ n L):∀{p:Ev}{R:List Int},bW (bG n L) p=some R->∀(j:Nat) (k:Int),j<n->1<=k->k<=R.getD j 0->∃d,bW (bG n L) (((j:Int)),k)=some d/\∀i,i<n->d.getD i 0<=R.getD i 0:=by
 induction h with
 |nil=>intro p R e;cases e
 | @snoc L e s H I J K M v=>
  intro p R l j k m w r;have N:dQ n (L++[((e),s)]):=.snoc H I J K M;by_cases x:p=e
  .subst x;let(T,A,B,y,C,O,U,E,P,W,_):=DH N;rw[l] at y
   cases y;by_cases g:(((j:Int)),k)=p
   .exact(R,by rw[g];calc l,λi _=>Int.le_refl _)
   .have t:∀i,i<n->A.getD i 0<=R.getD i 0/\B.getD i 0<=R.getD i 0:=λi c=>by
     rw[E i c];split
     .next q=>subst q;lia
     .lia
    have f:∀(o:Option Ev) (D:List Int),Qe n L o D->k<=D.getD j 0->(∀i,i<n->D.getD i 0<=R.getD i 0)->∃d,bW (bG n (L++[((p),s)])) (((j:Int)),k)=some d/\∀i,i<n->d.getD i 0<=R.getD i 0:=λo D Q F u=>by
     rcases Q.2.2 with z|⟨q,_,z⟩
     .rw[z]at F;lia
     .let(d,a,b):=v z j k m w F;exact(d,Lz a,λi c=>Int.le_trans (b i c) (u i c))
    have G:=E j m;by_cases q:j=p.1.toNat
    .rw[if_pos q]at G;calc f _ A C ?_ λi c=>(t i c).1;have X:k≠p.2:=λz=>g (by rw[z];calc Prod.ext (by show(j:Int)=p.1;lia) rfl);rw[q,P];lia
    .rw[if_neg q] at G;by_cases S:k<=A.getD j 0
     .exact f _ A C S λi c=>(t i c).1
     .exact f _ B O () λi c=>(t i c).2
  .let(d,a,b):=v (ze l x) j k m w r;calc(d,Lz a,b)
theorem Vy(h:dQ n L):∀{p q:Ev}{R:List Int},((p),some q)∈L->bW (bG n L) p=some R->0<=q.1/\q.1<n/\1<=q.2/\q.2<=R.getD q.1.toNat 0:=by
 induction h with
 |nil=>intro p q R e;cases e
 | @snoc L e s b h k l f m=>
  intro p q R a g;have d:dQ n (L++[((e),s)]):=.snoc b h k l f;rw[List.mem_append,List.mem_singleton]at a;by_cases c:p=e
  .subst c;rcases a with a | a
   .exact absurd (List.mem_map.mpr (_,a,rfl)) d.inv.2.2.2.2.1
   .let(e,A,B,i,h,k,l,o,n,t,r):=DH d;rw[g] at i
    cases i;have j:s=some q:=by cases a;rfl
    have d:=(b.mem q.1 q.2).mp (f q j);have e:=(qi b (r q j)).2.2.2;calc(d.1,d.2.1,d.2.2.1,?_);have f:=o q.1.toNat ()
    by_cases z:q.1.toNat=p.1.toNat
    .rw[if_pos z]at f;rw[z]at e;lia
    .rw[if_neg z]at f;lia
  .rcases a with a | a
   .exact m a (ze g c)
   .cases a;calc absurd rfl c
theorem Qg(h:dQ n L):∀{p:Ev}{R:List Int},bW (bG n L) p=some R->∀j:Nat,j<n->(j:Int)≠p.1->1<=R.getD j 0->∃e,((e),some (((j:Int)),R.getD j 0))∈L/\0<=e.1/\e.1<n/\e.1≠j/\e.2<=R.getD e.1.toNat 0:=by
 induction h with
 |nil=>intro p R e;cases e
 | @snoc L e s C F G S T I=>
  intro p R J j r t U;have W:dQ n (L++[((e),s)]):=.snoc C F G S T;by_cases K:p=e
  .subst K;let(R1,A,B,M,X,Y,hl,u,am,bm,hB):=DH W;rw[J] at M
   cases M;have N:∀i,i<n->A.getD i 0<=R.getD i 0/\B.getD i 0<=R.getD i 0:=λi k=>by
    rw[u i k];split
    .next q=>subst q;lia
    .lia
   have Z:=u j r;rw[if_neg ()]at Z;have O:∀(D:List Int) (q:Ev),bW (bG n L) q=some D->(j:Int)≠q.1->D.getD j 0=R.getD j 0->(∀i,i<n->D.getD i 0<=R.getD i 0)->∃e,((e),some (((j:Int)),R.getD j 0))∈L++[((p),s)]/\0<=e.1/\e.1<n/\e.1≠j/\e.2<=R.getD e.1.toNat 0:=λD q hD l v w=>by
    let(x,y,a,b,c,d):=I hD j r l ();exact(x,List.mem_append.mpr (.inl (by rw[<-v];calc y)),a,b,c,Int.le_trans d (w _ ()))
   by_cases P:A.getD j 0=R.getD j 0
   .rcases X.2.2 with z | ⟨q,l,z⟩
    .rw[z]at P;lia
    .cases l;exact O A _ z t P λi k=>(N i k).1
   .have g:B.getD j 0=R.getD j 0:=();rcases Y.2.2 with z|⟨q,l,z⟩
    .rw[z]at g;lia
    .by_cases m:(j:Int)=q.1
     .have o:=(qi C z).2.2.2;rw[show q.1.toNat=j by lia] at o;refine(p,List.mem_append.mpr (.inr ?_),F,G,λz=>t z.symm,?_)
      .rw[List.mem_singleton,l,<-g,o,m]
      .rw[u p.1.toNat (),if_pos rfl];exact Int.le_refl _
     .exact O B q z m g λi k=>(N i k).2
  .let(x,y,a):=I (ze J K) j r t U;calc(x,List.mem_append.mpr (.inl y),a)
def RS.Hh(n:NT)(r:RS)(L:Lg):Prop:=∀m:Nat,m<n.ms.length->∀c:Nat,c<(r.mm m).hr.length->bW (bG n.ms.length L) (((m:Int)),((c+1:Nat):Int))=some ((r.mm m).hr.getD c [])
theorem RS.Hh.pick(h:r.Hh n L)(g:r.Lk n L)(o:r.Ok n)(f:n.Ok)(i:w<n.ws.length)(j:(r.ww w).cE[k]?=some none)(t:(r.ww w).snd[k]?=some s):(r.pick n w k).Hh n (L++[((n.ev r w),s)]):=by
 have j:n.goal w<n.ms.length:=by
  have:=f.K5 (n.w w) (by unfold NT.w;calc getD_mem i);unfold NT.goal;lia
 have f:=(RS.kN (outs:=n.outs (n.goal w)) (ev:=n.ev r w) (n.work r w k).cM (r:=r.step n w k)).1;intro m e c b;rw[fV,iW];have a:((r.pick n w k).mm m).hr=if m=n.goal w then(r.mm m).hr++[n.gH r w k] else(r.mm m).hr:=by
  show(((r.step n w k).send _ _ _).mm m).hr=_;rw[f];show(if m=n.goal w then _ else r.mm m:MS).hr=_;by_cases q:m=n.goal w
  .subst q;rw[if_pos rfl,if_pos rfl]
  .rw[if_neg q,if_neg q]
 rw[a]at b ⊢;by_cases q:m=n.goal w
 .rw[if_pos q] at b ⊢;by_cases a:c < (r.mm m).hr.length
  .rw[h m e c a,W',W',aag a];rfl
  .have a:c=(r.mm m).hr.length:=by rw[aas] at b;simp at b;lia
   have f:=o.lh m e;have j:n.ev r w=(((m:Int)),((c+1:Nat):Int)):=by
    unfold NT.ev;rw[<-q,f,a]
   rw[gI (by
    rw[nI g.good];intro z;have f:=(g.good.mem _ _).mp z;have:=g.cnt m e;lia),if_pos j,W',a,aad (S' _),Nat.sub_self]
   show some (vi n.ms.length (bG n.ms.length L) ((n.ev r w),s))=some (n.gH r w k);congr 1;have i:gD n.ms.length (bG n.ms.length L) (some (((n.ev r w).1),(n.ev r w).2-1))=(r.mm (n.goal w)).hr.bM (List.replicate n.ms.length 0):=by
    rw[j,<-q];by_cases f:(r.mm m).hr=[]
    .have j:c=0:=by rw[a,f];rfl
     rw[f,j];have:bW (bG n.ms.length L) (((m:Int)),(((0+1:Nat):Int))-1)=none:=gI λz=>by
      rw[nI g.good]at z;have:=(g.good.mem _ _).mp z;lia
     simp only[gD];rw[this];rfl
    .obtain⟨a,j⟩:∃a,c=a + 1:=(c - 1,by have:=List.length_pos_iff.mpr f;lia)
     have l:=h m e a ();simp only[gD];rw[show((c+1:Nat):Int)-1=((a+1:Nat):Int) by lia,l];show(r.mm m).hr.getD a []=_;have j:=lZ (d:=List.replicate n.ms.length (0:Int)) (List.length_pos_iff.mpr f);rw[show(r.mm m).hr.length-1=a by lia]at j;rw[W',j];rfl
   unfold vi NT.gH;simp only;rw[i];have a:(r.ww w).snd.getD k none=s:=by rw[W',t];rfl
   rw[a];have p:((r.mm (n.goal w)).hr.bM (List.replicate n.ms.length 0)).length=n.ms.length:=by
    rw[<-i];exact(Ly g.good _).1
   have u:∀j:Nat,j<n.ms.length->0<=((r.mm (n.goal w)).hr.bM (List.replicate n.ms.length 0)).getD j 0:=by
    rw[<-i];exact λj a=>((Ly g.good _).2.1 j a).1
   show(List.zipWith max _ (gD _ _ s)).set (n.goal w:Int).toNat _=_;rw[aal]
   cases s with
   |none=>
    show(List.zipWith max _ (List.replicate n.ms.length 0)).set _ _=_;congr 1;apply ac8 (by rw[ac6,p,acV];lia);intro i a f;rw[List.getElem_zipWith,List.getElem_replicate];rw[ac6,acV]at a;have:=u i ();rw[W',cJ f]at this;calc Int.max_eq_left this
   |some p=>
    have a:=(g.good.mem p.1 p.2).mp (g.snd w k p t);have f:=g.cnt p.1.toNat ()
    have a:=o.lh p.1.toNat ()
    have a:((p.1.toNat:Nat):Int)=p.1:=();rw[a]at f;have l:=h p.1.toNat () (p.2-1).toNat ()
    rw[a,show(((p.2-1).toNat+1:Nat):Int)=p.2 by lia]at l;simp only[gD];rw[show bW (bG n.ms.length L) p=some ((r.mm p.1.toNat).hr.getD (p.2-1).toNat []) from l];rfl
 .rw[if_neg q]at b ⊢;rw[h m e c b];rfl
theorem Fd:∀(a:jr) {r:RS},r.Hh n L->(r.kr a).Hh n L
 | [],r,h=>h
 |p::a,r,h=>Fd a (r:=r.put p.1.toNat p.2 none) h
theorem RS.Hh.begin:(RS.begin n a).Hh n []:=Fd a λm d c b=>by simp[RS.new]at b
def Bq(n:Nat)(L:Lg)(a:List Int):Prop:=a.length=n/\(∀j:Nat,j<n->0<=a.getD j 0/\a.getD j 0<=l8 L j)/\∀(j:Nat) (k:Int),j<n->1<=k->k<=a.getD j 0->∃R,bW (bG n L) (((j:Int)),k)=some R/\∀i,i<n->R.getD i 0<=a.getD i 0
theorem Bq.zero:Bq n L (List.replicate n 0):=(acV,λj _=>by rw[nH];calc(Int.le_refl _,Int.natCast_nonneg _),λj k _ b a=>by rw[nH]at a;lia)
theorem Bq.row(h:dQ n L)(e:bW (bG n L) p=some R):Bq n L R:=
 let ⟨_,a,b,_⟩:=qi h e
 (a,b,λ_ _ d f c=>Qf h e _ _ d f c)
theorem Bq.max{n:Nat}{L:Lg}{a b:List Int}(h:Bq n L a)(g:Bq n L b):Bq n L (List.zipWith max a b):=by
 let(c,i,m):=h;let(d,l,n):=g;refine(by rw[ac6,c,d];lia,λj b=>?_,λj k b f e=>?_)
 .rw[ku c d b];have:=i j b;have:=l j b;lia
 .rw[ku c d b] at e;by_cases q:k<=a.getD j 0
  .let(R,e,l):=m j k b f q;exact(R,e,λi a=>by rw[ku c d a];have:=l i a;lia)
  .let(R,e,l):=n j k b f ();calc(R,e,λi a=>by rw[ku c d a];have:=l i a;lia)
theorem ZU(h:r.Lk n L)(g:r.Pk n){k:Nat}(j:w<n.ws.length)(l:(r.ww w).snd[k]?=some s)(a:(r.ww w).cE[k]?=some (some c)):((c),s)∈L:=by
 let(i,m):=acw (g.mem w k c j a);let(n,o,e,s,b,p,d,f,_):=h.at i _ m;have q:w=n:=by have:=(Prod.mk.inj b).1;lia
 have t:k=o:=by have:=(Prod.mk.inj b).2;lia
 subst q;subst t;rw[a]at d;rw[l]at f
 cases d
 cases f;calc aaF p
theorem ZV(h:r.Lk n L)(d:((c),s)∈L):∃w k:Nat,w<n.ws.length/\(r.ww w).snd[k]?=some s/\(r.ww w).cE[k]?=some (some c):=by
 let(i,a):=acw d;have c:i<r.picks.length:=by rw[<-h.len];exact(iF a).1
 let(w,k,e,d,l,b,f,g,j):=h.at i _ (cJ c);rw[a]at b
 cases b;calc(w,k,j,g,f)
end DD
namespace L2
open PySem PySem.Spec PyProof.Rows
theorem RZ:Passes (AR X.prog X.w) X E0:=λ_ _ _ _ _ _ _ h=>by
 let(_,_,_,_,_,_,_,_,_,_,_,_,_,_,q):=h;calc q.elim
end L2
namespace IQ
open PySem L2 DD
noncomputable def top(i:Nat):Stmt:=PySem.Challenge.pw_cutrestore_k46_whole_least_cut_with.main.body.getD i (.Pass (0,0,0,0))
structure Tx(K:W.Frag)(mg:jP)(C CN CR F:Addr)(FD:List (Str×V)):Prop where
 bb:mg "isinstance"=none
 Br:mg "int"=none
 DI:mg "bool"=none
 Fe:mg "str"=none
 b8:mg "tuple"=none
 fJ:mg "list"=none
 bO:mg "len"=none
 dD:mg "range"=none
 ZW:mg "min"=none
 Ff:mg "max"=none
 vk:mg "all"=none
 R0:mg "any"=none
 Bs:mg "zip"=none
 de:mg "enumerate"=none
 qj:mg "ValueError"=none
 vm:mg "sorted"=none
 eG:∃t,mg "MOST_DEEDS"=some (.int 24 t)
 d9:∃t,mg "MOST_MODULUS"=some (.int 1000000000000 t)
 ei:∃t,mg "MOST_NUMBERS"=some (.int 4 t)
 fW:∃t,mg "MOST_ROW"=some (.int 12 t)
 dE:∃t,mg "MOST_MACHINES"=some (.int 5 t)
 gi:∃t,mg "MOST_WAYS"=some (.int 10 t)
 eA:∃t,mg "MOST_LETTERS"=some (.int 20 t)
 eI:∃t,mg "SAID_BOUND"=some (.int 1000000000000000000000000000000000000000000000000000000000000 t)
 cX:wj K C
 xR:mg "Machine"=some (.ref C)
 R3:bZ K C "own_modulus"
 Vz:bZ K C "own_state"
 R4:bZ K C "own_deeds"
 Hz:W.findIn K (.ref C) "__class__"=some (some (.builtin "object.__class__"))
 HA:W.mroIn K C (.type "object")=some true
 cT:wj K CN
 ZX:mg "Net"=some (.ref CN)
 Bt:bZ K CN "own_machines"
 Bu:bZ K CN "own_ways"
 DJ:bZ K CN "own_letters"
 LD:W.findIn K (.ref CN) "__class__"=some (some (.builtin "object.__class__"))
 LF:W.mroIn K CN (.type "object")=some true
 ba:wj K CR
 ZY:mg "Run"=some (.ref CR)
 cY:bZ K CR "own_net"
 df:bZ K CR "picks_done"
 cp:bZ K CR "states_had"
 eJ:bZ K CR "words_had"
 dg:bZ K CR "words_said"
 cu:bZ K CR "letters_say"
 fF:bZ K CR "senders"
 dB:bZ K CR "workers"
 LG:W.findIn K (.ref CR) "__class__"=some (some (.builtin "object.__class__"))
 LH:W.mroIn K CR (.type "object")=some true
 fc:W.specialIn K (.builtin "object.__class__") "__get__"=some (some (.builtin "getset_descriptor.__get__"))
 cI:W.takesIn K (.builtin "object.__class__")=some true
 i_k:W.kitOne K (.ref C) (.ref C)=some true
 Fg:mg "FORMS"=some (.ref F)
 Fh:CD K F FD
 R5:∀d:bF,∃p,PyProof.Rows.KTD.datumAt d.word FD=some (.ref p)/\∀H,bI K H p (d.wz.map V.str)
theorem oG(c:H a=none):au H (upd (upd H a o) a b):=λb p e=>by
 rw[ay (av e c),ay (av e c)];calc e
theorem vn(b:kM K C B)(q:∀a,H a=none->E (.ref a) none (upd (upd H a (XO a C none true)) a (XO a C none false))):KO K E (tX0 C (Ap (tC (.str z)) GI)) D σ H:=
 (S' _,λa c=>(a,C,B,none,rfl,af,b,q a c))
end IQ
namespace IQ
open PySem L2 DD
variable {D a b m bo p:Addr}{d:bF}{H H' H0:Hp}{R:Hp->Prop}{e:Int×Int}{ws:List (Int×Int×Str)}{ls s:jr}{aU:List (List Key×V)}{ps:List (Nat×Nat)}{as ms:List Addr}{cut ns:List Int}{gj:List MD}{lv wv ys:List V}{ad:js}{σ:St}{f:Str}{dd st:V}{Q:VK}
theorem nJ:wu X c N λY=>Xn Y [] jw:=λ_ _ _ _=>Pc
section
variable {w:World}{K:W.Frag}{mg:jP}{C CN CR F B:Addr}{c:Nat->Addr}
local macro_rules | `(tactic| walk_at "s") => `(tactic| exact (rfl, rfl, rfl, by decide +kernel, rfl, by decide +kernel, by decide +kernel))
def zqI(s:String):Array Lean.Ident:=(s.splitOn " ").toArray.map (Lean.mkIdent ·.toName)
def zqK:=zqI "tV tT ZK K7 K8 K9 La Lb Lc Je tC Js tUn rU Eu tB TM Jh TL tOr Jg TN tIf Jl TQ Gy fM TV uo Xk Ap GI Ue Ug Am JP Di yG JQ Dh Vj CL Kv Kw Kx RN Ky Kz KA KC KD KG YV yz JE OQ Uc xi Ex tBM Ur KI KH TY ipI CG id_eq U4 Ku UK Jq Jr qQ RF Kc Kg Kh Ki RG Kj Kk Kl Km RH EO AF jw wt xC Zi Kb RD RE L2.start List.map_cons List.map_nil List.cons_append List.nil_append List.replicate List.getElem?_cons_zero List.getElem?_cons_succ List.set_cons_zero List.set_cons_succ"
def zqL:=zqI "Du Dv yL yM yN yO List.length_cons List.length_nil List.append_nil Option.some.injEq exists_eq_left' exists_eq_left V.int.injEq V.bl.injEq V.str.injEq V.ref.injEq List.cons.injEq and_true true_and Nat.reduceSub Nat.reduceAdd"
local macro_rules | `(tactic| simp_arith only [$xs,*]) => let l:=zqK; `(tactic| simp only [$[$l:ident],*, ↓EV, ↓AO, ↓uN, ↓xD, ↓uO, $xs,*])
local macro_rules | `(tactic| simp_arith! only [$xs:simpLemma,*]) => let l:=zqK; `(tactic| dsimp only [$[$l:ident],*, ↓EV, ↓AO, ↓uN, ↓xD, ↓uO, $xs:simpLemma,*])
local macro_rules | `(tactic| walk_at "l0") => `(tactic| simp_arith! only [Gv, Gu, pY])
local macro_rules | `(tactic| walk_at "l1") => let l:=zqL; `(tactic| simp_arith only [Gv, Gu, pY, $[$l:ident],*])
local macro_rules | `(tactic| walk_at "l2") => `(tactic| simp_arith! only [Gv, Gu])
local macro_rules | `(tactic| walk_at "l3") => let l:=zqL; `(tactic| simp_arith only [Gv, Gu, $[$l:ident],*])
local macro_rules | `(tactic| walk_at "l4") => `(tactic| simp_arith! only [pY])
local macro_rules | `(tactic| walk_at "l5") => let l:=zqL; `(tactic| simp_arith only [pY, $[$l:ident],*])
local macro_rules | `(tactic| walk_at "rd") => `(tactic| first | (walk_at "l0"; try walk_at "l1") | walk_at "l1")
local macro_rules | `(tactic| right) => `(tactic| try walk_at "rd")
local macro_rules | `(tactic| walk_at "rt") => `(tactic| first | (walk_at "l2"; try walk_at "l3") | walk_at "l3")
local macro_rules | `(tactic| walk_at "gi") => `(tactic| first | rfl | assumption | exact aA (j := 0) rfl | exact aA (j := 1) rfl | exact aA (j := 2) rfl | exact aA (j := 3) rfl)
local macro_rules | `(tactic| walk_at "gj") => `(tactic| first
  |refine cL (by assumption) (by walk_at "gi") ?_
  |refine bH (by assumption) (by walk_at "gi") ?_
  |rw [if_pos (by decide +kernel)]
  | rw [if_neg (by decide +kernel)])
local macro_rules | `(tactic| walk_at "go") => `(tactic| repeat (first|walk_at "rd"|walk_at "gj"))
local macro_rules | `(tactic| walk_at "r0") => `(tactic| first | (walk_at "l4"; try walk_at "l5") | walk_at "l5")
local macro_rules | `(tactic| walk_at "rh") => `(tactic| first | with_reducible refine L2.Vk ?_ | (with_reducible refine L2.bq ?_; intro N hN) | (with_reducible refine L2.fG ?_; intro T U hT hU))
local macro_rules | `(tactic| walk_at "rn") => `(tactic| (refine L2.bc (by assumption) ?_; (repeat walk_at "rh"); try walk_at "r0"))
local macro_rules | `(tactic| walk_at "jd") => `(tactic| first
  |(walk_at "rh"; (repeat walk_at "rh"); (try walk_at "r0"); repeat walk_at "rn")
  |(walk_at "rn"; repeat walk_at "rn")
  | (walk_at "r0"; repeat walk_at "rn"))
local macro_rules | `(tactic| left) => `(tactic| try walk_at "jd")
local macro_rules | `(tactic| walk_at "jt") => `(tactic| first | (walk_at "l2"; try walk_at "l3") | walk_at "l3")
local macro_rules | `(tactic| walk_at "jg") => `(tactic| repeat (first|walk_at "jd"|walk_at "gj"))
theorem Bv:Dc (ys++[z]).length (-1)=some ys.length:=by
 unfold Dc;rw[if_neg ∅,if_pos (by simp;lia)];congr 1;simp;lia
theorem l9:hV (ys++[z]) (-1)=some z:=by
 unfold hV;rw[Bv];simp
theorem LI{α:Type}{ys:List α}{z y:α}:(ys++[z]).set ys.length y=ys++[y]:=by simp
theorem zf{c:HO}:upd (upd H a o) a c=upd H a c:=by
 funext b;by_cases h:b=a
 .subst h;rw[af,af]
 .rw[ay h,ay h,ay h]
def gA(H:Hp)(p:Addr):Prop:=∃xs:List Int,H p=some (.lst (xs.map V.int))/\1<=xs.length
structure Step(p:Addr)(H H':Hp):Prop where
 ia:gA H' p
 rest:∀b o,H b=some o->b≠p->H' b=some o
theorem Step.refl(h:gA H p):Step p H H:=(h,λ_ _ e _=>e)
theorem Step.trans(a:Step p H H1)(b:Step p H1 H2):Step p H H2:=(b.ia,λc o e n=>b.rest c o (a.rest c o e n) n)
theorem gA.same(s:au H H')(h:gA H p):gA H' p:=by
 let(a,e,h):=h;calc(a,s _ _ e,h)
theorem Step.same(a:Step p H H1)(b:au H1 H2):Step p H H2:=(a.ia.same b,λc o e n=>b _ _ (a.rest c o e n))
theorem Step.set(a:Step p H H1)(xs:List Int)(h:1<=xs.length):Step p H (upd H1 p (.lst (xs.map V.int))):=
 ((xs,af,h),λc o e n=>by rw[ay n];calc a.rest c o e n)
theorem Step.new(a:Step p H H1)(b:H1 q=none):Step p H (upd H1 q o):=a.same (au.new o b)
theorem Step.aR(a:Step p H H1)(c:gA H p):cw H H1:=λb d e=>a.rest b _ e λz=>by
 subst z;let(a,h,_):=c;rw[h]at e;cases e
theorem Step.ne(c:gA H p)(b:H q=none):q≠p:=λz=>by
 subst z;let(a,h,_):=c;rw[h]at b;cases b
theorem Step.over(s:au H0 H1)(a:H0 p=none)(st:Step p H1 H2):au H0 H2:=λb o e=>st.rest b o (s b o e) (av e a)
theorem gA.upd{q:Addr}{o:HO}(h:gA H p)(b:p≠q):gA (upd H q o) p:=by
 let(a,e,h):=h;calc(a,by rw[ay b];calc e,h)
abbrev oH:Stmt:=top 23
def jA:Sp:=λvs H Q _=>∃x t,vs=[x]/\Kd H x t/\Q (.bl (isI x)) H
theorem DK(D:cG K mg "is_whole" "is_whole" oH ["thing"])(T:Tx K mg C CN CR F FD):Def P w K mg base "is_whole" 1 ["thing"] jA:=by
 exists["thing"];let(x,t,rfl,a,q):=h;have d:=hr.units;calc(_,(ak (aG (jI (aX dJ rfl T.bb ug (ag (aq 0) (ag (cV (v:=.ty "int") rfl T.Br zA5 rfl) aa))) (il (Jj (aX dJ rfl T.bb ug (ag (aq 0) (ag (cV (v:=.ty "bool") rfl T.DI PyProof.Rows.boot_bool rfl) aa)))))))),?_);walk_at "rd";let(b,c,d,e,g):=Vc (K:=K) a;calc d7 t b a.ty d ?_;rw[g] at q
 cases b
 .rw[if_neg X'];exact q
 .rw[if_pos rfl];calc(t,c,a.ty,e,q)
abbrev ma:Stmt:=top 24
def cf:Sp:=λvs H Q _=>∃x t lo a,vs=[x,.int lo,.int a]/\Kd H x t/\Q (.bl (inR lo a x)) H
theorem Bw(D:cG K mg "is_within" "is_within" ma bh)(T:Tx K mg C CN CR F FD)(j:Def P w K mg base "is_whole" 1 ["thing"] jA):Def P w K mg base "is_within" 2 bh cf:=by
  exists bh;let(x,t,a,b,rfl,g,q):=h;have k:=hr.units;calc(_,(ak (aG (jI (aN j hr (ag (aq 0) aa)) (il (Ao uC gr (aq 1) (aq 0) (aq 2)))))),?_);walk_at "rd";refine d7 x t rfl g ?_
  cases g<;>first
    | (rename_i i
       show ∃c,V.bl true=.bl c/\_;calc(true,rfl,?_);rw[if_pos rfl];walk_at "rd";by_cases d:a<=i
       . rw[if_pos (d:)];have e:inR a b (.int i)=decide (i < b):=by simp[inR,d]
         rw[e]at q;exact q
       . rw[if_neg (d:)];have e:inR a b (.int i)=false:=by simp[inR,d]
         rw[e] at q;calc q)
    | (show ∃c,V.bl false=.bl c/\_
       calc(false,rfl,?_);rw[if_neg X'];calc q)
abbrev vo:Stmt:=top 74
def LJ(K:W.Frag):Sp:=λvs H Q _=>∃(a:Addr) (ns:List Int) (k:Int),vs=[.ref a,.int k]/\aS K H a (ns.map V.int)/\0<=k/\∀c,Q (.int c) H
theorem LK(D:cG K mg "_law_at" "_law_at" vo eu)(T:Tx K mg C CN CR F FD):Def P w K mg base "_law_at" 1 eu (LJ K):=by
 exists eu;let(a,ns,k,rfl,b,c,q):=h;have e:=hr.units;refine(_,(ai (aW (aC gr (aq 1) (aX aM rfl T.bO Y' (ag (aq 0) aa)) (aI _)) (ak (aG (ao e (aq 0) (aq 1)))) aK)
  (ak (aG aj))),?_)
 walk_at "rd";calc bN _ (.inl (_,b,rfl)) ?_;rw[V'];by_cases d:k<(ns.length:Int)
 .rw[if_pos (d:)];let(n,rfl):=abI c;have e:n < ns.length:=();exact(_,.int ns[n],.inl b,aA (by rw[K',cJ e];rfl),q _)
 .rw[if_neg (d:)];calc q _
abbrev qY:Stmt:=top 75
def LL:Sp:=λvs H Q _=>∃n:Int,vs=[.int n]/\∀(p:Addr) (xs:List Int),H p=none->1<=xs.length->Q (.ref p) (upd H p (.lst (xs.map V.int)))
theorem HB(D:cG K mg "_law_pot" "_law_pot" qY ["_law_cell"])(T:Tx K mg C CN CR F FD):Def P w K mg base "_law_pot" 1 ["_law_cell"] LL:=by
 exists["_law_cell","_law_number","_law_pot_here","_law_k"];let(n,rfl,q):=h;have c:=hr.units;refine(_,(ai (bf (i:=1) sc rfl Sort (aZ cB (aZ dI (aZ iU (aq 0) aj) aj) aj))
  (ai (bf (i:=2) sc rfl Sort (bE (ag aj aa)))
  (ai (cZ PassesOwn.never rfl (cD rfl T.dD (ag aj aa)) (aT (i:=3) sc rfl Sort)
  (ai (bf (i:=1) sc rfl Sort (aZ dI (aZ cB (aZ cB (aZ nr (aq 1) (aq 1)) (aZ nr aj (aq 1))) (aq 3)) aj))
  (ak (dS (aZ cB (aZ nr (ao c (aq 2) aj) aj) (aq 1)) (iS (aq 2) aj dU)))))
  (ai (aW (PW.pt (pw_and (aC (bg c) (aZ dI (aq 0) aj) aj (aI _)) (pw_and1 (aC (fT c) (aZ iU (aq 0) aj) aj (aI _))))) (ak (bX (dw pP sF sL cj (aq 2) (ag (aZ iU (aq 0) aj) aa)))) aK)
  (ak (aG (aq 2))))))),?_)
 right;have d:J0 n 2:=(∅,∅)
 calc ie d ∅ ?_;right;calc(by show 1<=sizeLine;decide,λp e=>?_);have c:=aby (n/2) (b:=2147483629) ∅;have c:=abF (n/2) (b:=2147483629) ∅;refine(40,rfl,∅,∅,gh (n:=40) (λi σ H'=>∃(u a:Int) (z:Option V),0<=u/\u<2147483648/\σ=[some (.int n),some (.int u),some (.ref p),z]/\H'=upd H p (.lst [.int a])) ?_ ?_ ?_)
 .exact(_,0,none,(),(),rfl,rfl)
 .intro i σ H' o k;let(u,a,z,g,l,rfl,rfl):=k;right;calc(.inl ((),()),?_);right;calc ie (.inl ((),())) ∅ ?_;right;calc bH af (aA (j:=0) rfl) ?_;right;calc(.inr (∅,∅),?_);right;calc d7 _ 0 af rfl ?_;right;have c:=aby (u*u+48271*u+(0+(i:Int))) (b:=2147483647) ∅;have k:=abF (u*u+48271*u+(0+(i:Int))) (b:=2147483647) ∅;exact(_,_,_,c,(),(rfl,rfl),zf)
 .intro σ H' m;let(u,a,z,g,l,rfl,rfl):=m;right;calc(∅,?_);right;split
  .calc(d,?_);right;split
   .calc ie (.inl (rfl,_,aS.of af)) d ?_;right;calc iy _ af (aD nofun) ?_;right;rw[zf];exact q p [a,n/2] e nofun
   .right;exact q p [a] e nofun
  .right;calc q p [a] e nofun
abbrev me:Stmt:=top 76
def kx:Sp:=λvs H Q _=>∃(p:Addr) (m:Int),vs=[.ref p,.int m]/\gA H p/\0<m/\m.natAbs.log2<9000/\∀d H',0<=d->d<m->Step p H H'->Q (.int d) H'
theorem By(D:cG K mg "_law_digit" "_law_digit" me aO)(T:Tx K mg C CN CR F FD):Def P w K mg base "_law_digit" 1 aO kx:=by
 exists["_law_pot_here","_law_many","_law_digit_here"];let(p,m,rfl,k,g,r,q):=h;have j:=hr.units;refine(_,(ai (bf (i:=2) sc rfl Sort (aZ dI (ao j (aq 0) (lJ ip aj)) (aq 1)))
  (ai (dS (aZ iU (ao j (aq 0) (lJ ip aj)) (aq 1)) (iS (aq 0) (lJ ip aj) dU))
  (ai (aW (PW.pt (pw_and (aC (bg j) (ao j (aq 0) (lJ ip aj)) aj (aI _)) (pw_and1 (aC kK (aX aM rfl T.bO Y' (ag (aq 0) aa)) aj (aI _))))) (ak (bX (Us pP PySem.F.slot_list_pop PySem.F.type_list_pop Uu (aq 0)))) aK)
  (ak (aG (aq 2)))))),?_)
 nofun;let(l,c,t):=id k;obtain⟨ys,z,rfl⟩:∃ys z,l=ys++[z]:=(l.dropLast,l.getLast (by intro e;rw[e]at t;simp at t),(List.dropLast_concat_getLast _).symm)
 rw[aah]at c
 replace c:H p=some (.lst (ys.map V.int++[.int z])):=c
 ac_rfl;have d:Step p H H:=Step.refl k;right;calc d7 _ _ (.inl (aS.of c)) l9 ?_;right;calc(g,?_);right;calc d7 _ _ (.inl (aS.of c)) l9 ?_;right;calc((g,r),?_);right;calc d7 _ _ c Bv ?_;rw[LI];calc d7 _ _ (.inl (aS.of af)) l9 ?_;have n:=aby z (b:=m) ();have o:=abF z g;have u:Step p H (upd H p (.lst (ys.map V.int++[.int (z/m)]))):=by
  have:=d.set (ys++[z/m]) nofun;rw[aah]at this;exact this
 right;split
 .calc bN _ (.inl (_,aS.of af,rfl)) ?_;right;split
  .rename_i a;have a:1<=ys.length:=by
    simp at a;lia
   calc(.inl (rfl,_,aS.of af),?_);calc(p,_,.int (z/m),rfl,rfl,af,nofun,?_);right;rw[List.dropLast_concat,zf];exact q _ _ n o (d.set ys a)
  .right;exact q _ _ n o u
 .right;calc q _ _ n o u
theorem DM:OL 10 60:=(∅,∅,⋯)
theorem VA:OL 10 12:=(∅,∅,⋯)
theorem VB:Jt 2 (10^Int.toNat 60):=.inl (⋯,⋯)
theorem Z0:(0:Int)<2*10^Int.toNat 60-1:=by decide +kernel
theorem Z1:(2*10^Int.toNat 60-1:Int).natAbs.log2<9000:=by decide +kernel
theorem VC:(0:Int)<10^Int.toNat 60:=by decide +kernel
theorem VD:(10^Int.toNat 60:Int).natAbs.log2<9000:=by decide +kernel
theorem Z2:(0:Int)<10^Int.toNat 12-1:=by decide +kernel
theorem VE:(10^Int.toNat 12-1:Int).natAbs.log2<9000:=by decide +kernel
theorem dig{m:Int}(a:gA H p)(b:0<m)(c:m.natAbs.log2<9000)(q:∀d H',0<=d->d<m->Step p H H'->Q (.int d) H'):kx [.ref p,.int m] H Q E:=(p,m,rfl,a,b,c,q)
theorem Qj{d:List DV}(h:HD H n x (.tup d)):∃k a xs,x=.ref a/\H a=some (.tup xs)/\xs.length=d.length/\∀(i:Nat) u e,xs[i]?=some u->d[i]?=some e->HD H k u e:=by
 cases h with
 |tup a b c=>calc(_,_,_,rfl,a,b,c)
abbrev oI:Stmt:=top 40
def LM:Sp:=λvs H Q _=>∃x m n d,vs=[x,.int m]/\HD H n x d/\∀H',au H H'->Q (.bl (Hg m d)) H'
theorem Qk{d:DV}(h:HD H n x d)(a:∀c,d≠.tup c):∃t,iq K H x t/\W.kitOne K t (.type "tuple")=some false:=by
 cases h with
 |bL=>calc(_,.bL,rfl)
 |bl b=>calc(_,.bl b,rfl)
 |int i=>calc(_,.int i,rfl)
 |str x=>calc(_,.str x,rfl)
 |tup e=>calc absurd rfl (a _)
 |lst e=>calc(_,.lst e,rfl)
 |dict e=>calc(_,.dK e,rfl)
theorem Ql{d:DV}(h:HD H n x d)(a:∀s,d≠.str s):∃t,iq K H x t/\W.kitOne K t (.type "str")=some false:=by
 cases h with
 |bL=>calc(_,.bL,rfl)
 |bl b=>calc(_,.bl b,rfl)
 |int i=>calc(_,.int i,rfl)
 |str x=>calc absurd rfl (a _)
 |tup e=>calc(_,.tup e,rfl)
 |lst e=>calc(_,.lst e,rfl)
 |dict e=>calc(_,.dK e,rfl)
theorem Qm{m:Int}{d:DV}(b:∀a,d≠.tup a):Hg m d=false:=by
 cases d with
 |tup a=>calc absurd rfl (b a)
 |_=>rfl
theorem LN{m:Int}{d:DV}{r:List DV}(a:∀s,d≠.str s):Hg m (.tup (d::r))=false:=by
 cases d with
 |str s=>calc absurd rfl (a s)
 |_=>rfl
theorem DN(D:cG K mg "is_value" "is_value" oI cm)(T:Tx K mg C CN CR F FD)(X:Def P w K mg base "is_whole" 1 ["thing"] jA)(Y:Def P w K mg base "is_within" 2 bh cf):Def P w K mg base "is_value" 3 cm LM:=by
 exists["thing","many","word"];let(x,m,n,d,rfl,I,q):=h;have k:=hr.units;refine(_,(ai (aW (PW.pt (pw_or (bY (bA (aX dJ rfl T.bb ug (ag (aq 0) (ag (cV (v:=.ty "tuple") rfl T.b8 sM rfl) aa))))) (pw_or (aC (bg k) (aX aM rfl T.bO Y' (ag (aq 0) aa)) aj (aI _)) (pw_or1 (bY (bA (aX dJ rfl T.bb ug (ag (ao k (aq 0) aj) (ag (cV (v:=.ty "str") rfl T.Fe PyProof.Rows.boot_str rfl) aa))))))))) (ak (aG gp)) aK)
  (ai (bf (i:=2) sc rfl Sort (ao k (aq 0) aj))
  (ai (aW (aC Ka (aq 2) (bD (ag aH (ag aH (ag aH aa)))) (by with_unfolding_all rfl)) (ak (aG (hJ (bg k) (aX aM rfl T.bO Y' (ag (aq 0) aa)) aj (aI _)))) aK)
  (ai (aW (aC (fT k) (aX aM rfl T.bO Y' (ag (aq 0) aa)) aj (aI _)) (ak (aG gp)) aK)
  (ai (aW (aC (bg k) (aq 2) aH (aI _)) (ak (aG (aN X hr (ag (ao k (aq 0) aj) aa)))) aK)
  (ak (aG (jI (hJ (bg k) (aq 2) aH (aI _)) (il (aN Y hr (ag (ao k (aq 0) aj) (ag aj (ag (aq 1) aa))))))))))))),?_)
 walk_at "rd";by_cases J:∀l,d≠.tup l
 .let(t,r,N):=Qk (K:=K) I J;calc d7 t false r N ?_;rw[Qm J]at q;exact q H (au.refl H)
 .have:∃l,d=.tup l:=Classical.byContradiction λz=>J λl e=>z (l,e);nofun;let(l,rfl):=this;let(n,a,Z,rfl,G,O,U):=Qj I;calc hZ ?_;clear hZ gZ I J
  .skip
   calc(.type "tuple",true,.tup G,rfl,?_);simp only[Bool.not_true,Bool.false_eq_true,if_false];calc bN _ (.inr (_,bI.of G,rfl)) ?_;right;rcases l with _|⟨R,b⟩<;>rcases Z with _|⟨x0,L⟩
   .exact q H (au.refl H)
   .cases O
   .cases O
   .skip
    rw[if_neg (by simp;lia)];calc d7 _ _ (.inr (bI.of G)) (aA (j:=0) rfl) ?_;have W:=U 0 x0 R rfl rfl;by_cases k:∀s,R≠.str s
    .let(t,r,N):=Ql (K:=K) W k;calc d7 t false r N ?_;rw[LN k]at q;exact q H (au.refl H)
    .have:∃s,R=.str s:=Classical.byContradiction λz=>k λl e=>z (l,e);nofun;let(g,rfl):=this;obtain rfl:=W.c8;ac_rfl;calc(.type "str",true,.str _,rfl,?_);simp only[Bool.not_true,Bool.false_eq_true,if_false];calc d7 _ _ (.inr (bI.of G)) (aA (j:=0) rfl) ?_;right;calc(∅,λp k=>?_);have u:au H (upd H p (.tup [.str "letter",.str "way",.str "first"])):=au.new _ k;have o:=u _ _ G;calc PU _ (.inr (bI.of af)) rfl rfl ?_;right;have B:L.length=b.length:=(O:)
     by_cases M:EH (.str g) uT=true
     .have S:Hg m (.tup (.str g::b))=decide (b.length=0):=by
       show(if EH (.str g) uT=true then decide (b.length=0) else _)=_;rw[if_pos M]
      rw[if_pos (show EH (.str g) [.str "letter",.str "way",.str "first"]=true from M)];calc bN _ (.inr (_,bI.of o,rfl)) ?_;right;have e:decide (((L.length+1:Nat):Int)=1)=decide (b.length=0):=by
       rw[B];by_cases z:b.length=0
       .rw[aaC z,aaC ()]
       .rw[aaE z,aaE ()]
      rw[S]at q;have c:=q _ u;rw[<-e]at c;exact c
     .have S:Hg m (.tup (.str g::b))=PF g m b:=by
       show(if EH (.str g) uT=true then decide (b.length=0) else _)=_;rw[if_neg M]
      rw[if_neg (show ¬EH (.str g) [.str "letter",.str "way",.str "first"]=true from M)];calc bN _ (.inr (_,bI.of o,rfl)) ?_;right;rw[S]at q;rcases b with _|⟨z,_|⟨z',b⟩⟩<;>rcases L with _|⟨y,_|⟨k,L⟩⟩
      .rw[if_pos nofun];exact q _ u
      .cases B
      .cases B
      .cases B
      .skip
       rw[if_neg nofun];have r:=(U 1 y z rfl rfl).same u;let(t,l):=ZC r;by_cases b:g="is"
       .rw[if_pos (b:)];calc(_,_,.inr (bI.of o),rfl,y,t,rfl,l,?_);have c:=q _ u;simp only[PF,if_pos b]at c;rw[Ve r];exact c
       .rw[if_neg (b:)];have c:=q _ u;simp only[PF,if_neg b] at c;by_cases k:g="number"
        .rw[if_pos (k:)];calc(_,_,.inr (bI.of o),rfl,y,t,0,m,rfl,l,?_);rw[aaC k,Bool.true_and]at c;rw[Vf r];exact c
        .rw[if_neg (k:)];rw[aaE k,Bool.false_and]at c;exact c
      .simp at B
      .cases B
      .simp at B
      .rw[if_pos (by simp;lia)];calc q _ u
abbrev qZ:Stmt:=top 25
def oJ:Sp:=λvs H Q _=>∃(a:Addr) (xs:List V) (lo b:Int),vs=[.ref a,.int lo,.int b]/\(H a=some (.lst xs)\/H a=some (.tup xs))/\∀H',au H H'->Q (.bl (decide (lo<=(xs.length:Int))&&decide ((xs.length:Int)<=b))) H'
theorem HC(D:cG K mg "is_list" "is_list" qZ eo)(T:Tx K mg C CN CR F FD):Def P w K mg base "is_list" 1 eo oJ:=by
 exists eo;let(a,d,g,i,rfl,b,q):=h;have i:=hr.units;calc(_,(ak (aG (jI (aX dJ rfl T.bb ug (ag (aq 0) (ag (bD (ag (cV (v:=.ty "list") rfl T.fJ oh rfl) (ag (cV (v:=.ty "tuple") rfl T.b8 sM rfl) aa))) aa))) (il (Ao uC uC (aq 1) (aX aM rfl T.bO Y' (ag (aq 0) aa)) (aq 2)))))),?_);right;calc(dO,λp i=>?_);have c:au H (upd H p (.tup [.ty "list",.ty "tuple"])):=au.new _ i;have e:∃t,iq K (upd H p (.tup [.ty "list",.ty "tuple"])) (.ref a) t/\W.kitAny K t [.type "list",.type "tuple"]=some true/\Jv K (.ref a) (upd H p (.tup [.ty "list",.ty "tuple"])) d.length:=by
  rcases b with b|b
  .exact(_,.lst (c _ _ b),rfl,.inl (_,aS.of (c _ _ b),rfl))
  .exact(_,.tup (c _ _ b),rfl,.inr (_,bI.of (c _ _ b),rfl))
 let(t,i,j,k):=e;calc ZI t true _ _ i af rfl j ?_;rw[if_pos rfl];calc bN _ k ?_;have b:=q _ c;by_cases h:g<=(d.length:Int)
 .rw[if_pos (h:)];rw[aaC h,Bool.true_and]at b;exact b
 .rw[if_neg (h:)];rw[aaE h,Bool.false_and]at b;calc b
abbrev q5:Stmt:=top 46
def Fi(K:W.Frag):Sp:=λvs H Q _=>∃d:bF,vs=[.str d.word]/\∀p,bI K H p (d.wz.map V.str)->Q (.ref p) H
theorem HE(D:cG K mg "form_of" "form_of" q5 ["word"])(T:Tx K mg C CN CR F FD):Def P w K mg base "form_of" 1 ["word"] (Fi K):=by
 exists["word"];let(d,rfl,q):=h;have a:=hr.units;calc(_,(ak (aG (Pq T.Fh rfl T.Fg (ag (aq 0) aa)))),?_);let(p,a,b):=T.R5 d;show Q ((PyProof.Rows.KTD.datumAt d.word FD).getD .bL) H;rw[a];calc q p (b H)
abbrev q8:Stmt:=top 47
inductive kO(H:Hp)(m:Int):V->Str->Prop
 |value {n x v}:HT H n x (Val.dv v)->v.ok m->kO H m x "value"
 |number {i}:0<=i->i<m->kO H m (.int i) "number"
 |many {i}:1<=i->i<25->kO H m (.int i) "many"
 |way {i}:0<=i->kO H m (.int i) "way"
theorem kO.same{H H':Hp}{m:Int}{x:V}{w:Str}(s:au H H')(h:kO H m x w):kO H' m x w:=by
 cases h with
 |value a b=>calc .value (a.aL s.aR) b
 |number a b=>calc .number a b
 |many a b=>calc .many a b
 |way a=>calc .way a
def Fj:Sp:=λvs H Q _=>∃x w m,vs=[x,.str w,.int m]/\kO H m x w/\∀H',au H H'->Q (.bl true) H'
theorem HF(D:cG K mg "is_part" "is_part" q8 fx)(T:Tx K mg C CN CR F FD)(g:Def P w K mg base "is_value" 3 cm LM)(i:Def P w K mg base "is_whole" 1 ["thing"] jA)(c:Def P w K mg base "is_within" 2 bh cf):Def P w K mg base "is_part" 4 fx Fj:=by
 exists fx;let(x,w,m,rfl,d,q):=h;have b:=hr.units;refine(_,(ai (aW (aC (bg b) (aq 1) aH (aI _)) (ak (aG (aN g hr (ag (aq 0) (ag (aq 2) aa))))) aK)
  (ai (aW (aC (bg b) (aq 1) aH (aI _)) (ak (aG (aN c hr (ag (aq 0) (ag aj (ag (aq 2) aa)))))) aK)
  (ai (aW (aC (bg b) (aq 1) aH (aI _)) (ak (aG (aN c hr (ag (aq 0) (ag aj (ag (aZ cB (gu T.eG rfl) aj) aa)))))) aK)
  (ak (aG (jI (aN i hr (ag (aq 0) aa)) (il (hJ J7 (aq 0) aj (aI _))))))))),?_)
 right
 cases d with
 | @value n x v a b=>
  rw[if_pos ⋯];calc fQ x m n _ rfl a.hd (λH' s=>?_);rw[Vg b];calc q H' s
 | @number i a b=>
  rw[if_neg ⋯,if_pos ⋯];calc fQ (.int i) _ 0 m rfl (.int i) ?_;have e:inR 0 m (.int i)=true:=by simp[inR,a,b]
  rw[e];calc q H (au.refl H)
 | @many i a b=>
  rw[if_neg ⋯,if_neg ⋯,if_pos ⋯];calc fQ (.int i) _ 1 _ rfl (.int i) ?_;have e:inR 1 (24+1) (.int i)=true:=by simp[inR,a];lia
  rw[e];calc q H (au.refl H)
 | @way i a=>
  rw[if_neg ⋯,if_neg ⋯,if_neg ⋯];calc(.int i,_,rfl,.int i,true,rfl,?_);rw[if_pos rfl];have e:decide ((0:Int)<=i)=true:=aaC a;right;rw[e];calc q H (au.refl H)
abbrev q9:Stmt:=top 48
theorem afw{ps:List V}:eD (x::ps) (some 1) none=ps:=by
 unfold eD;have e:HT.fm (x::ps).length 0 (some 1)=1:=by
  show(if (1:Int)<0 then((1:Int)+((x::ps).length:Int)).toNat else min (1:Int).toNat (x::ps).length)=1;rw[if_neg ∅];show min 1 (ps.length+1)=1;lia
 rw[e];show List.take ((x::ps).length-1) ps=ps;simp
theorem vp{H:Hp}{n:Nat}{x:V}{d:bF}{m:Int}(h:HT H n x d.dv)(f:d.ok m):∃a ps,x=.ref a/\H a=some (.tup (.str d.word::ps))/\ps.length=d.wz.length/\∀(i:Nat) p s,ps[i]?=some p->d.wz[i]?=some s->kO H m p s:=by
 cases d with
 |set i v=>
  nofun;let(a,u,y,z,k,rfl,e,g,l,o):=bV h;obtain rfl:=g.c8;obtain rfl:=l.cF;ac_rfl;refine y7 a _ rfl e rfl (λj p s b c=>?_)
  match j,b,c with
  |0,b,c=>cases b;cases c;calc .number f.1 f.2.1
  |1,b,c=>cases b;cases c;calc .value o f.2.2
 |add i v=>
  nofun;let(a,u,y,z,k,rfl,e,g,l,o):=bV h;obtain rfl:=g.c8;obtain rfl:=l.cF;ac_rfl;refine y7 a _ rfl e rfl (λj p s b c=>?_)
  match j,b,c with
  |0,b,c=>cases b;cases c;calc .number f.1 f.2.1
  |1,b,c=>cases b;cases c;calc .value o f.2.2
 |times i v=>
  nofun;let(a,u,y,z,k,rfl,e,g,l,o):=bV h;obtain rfl:=g.c8;obtain rfl:=l.cF;ac_rfl;refine y7 a _ rfl e rfl (λj p s b c=>?_)
  match j,b,c with
  |0,b,c=>cases b;cases c;calc .number f.1 f.2.1
  |1,b,c=>cases b;cases c;calc .value o f.2.2
 |put v=>
  nofun;let(a,u,y,k,rfl,e,g,l):=dP h;obtain rfl:=g.c8;ac_rfl;refine y7 a _ rfl e rfl (λj p s b c=>?_)
  match j,b,c with
  |0,b,c=>cases b;cases c;calc .value l f
 |drop=>
  nofun;let(a,u,k,rfl,e,g):=jK h;obtain rfl:=g.c8;ac_rfl;calc(a,_,rfl,e,rfl,λj p s b c=>by simp at b)
 |send j v=>
  nofun;let(a,u,y,z,k,rfl,e,g,l,o):=bV h;obtain rfl:=g.c8;obtain rfl:=l.cF;ac_rfl;refine y7 a _ rfl e rfl (λj p s b c=>?_)
  match j,b,c with
  |0,b,c=>cases b;cases c;calc .way f.1
  |1,b,c=>cases b;cases c;calc .value o f.2
 |say v=>
  nofun;let(a,u,y,k,rfl,e,g,l):=dP h;obtain rfl:=g.c8;ac_rfl;refine y7 a _ rfl e rfl (λj p s b c=>?_)
  match j,b,c with
  |0,b,c=>cases b;cases c;calc .value l f
 |skip v w i=>
  nofun;let(a,u,y,z,t,k,rfl,e,g,l,o,q):=qc h;obtain rfl:=g.c8;obtain rfl:=q.cF;ac_rfl;refine y7 a _ rfl e rfl (λj p s b c=>?_)
  match j,b,c with
  |0,b,c=>cases b;cases c;calc .value l f.1
  |1,b,c=>cases b;cases c;calc .value o f.2.1
  |2,b,c=>cases b;cases c;calc .many f.2.2.1 f.2.2.2
theorem DO:d.wz.length<=3:=by cases d<;>simp[bF.wz]
def xS:Sp:=λvs H Q _=>∃x m n d,vs=[x,.int m]/\HT H n x (bF.dv d)/\d.ok m/\∀H',au H H'->Q (.bl true) H'
theorem HG(D:cG K mg "is_deed" "is_deed" q9 cm)(T:Tx K mg C CN CR F FD)(U:Def P w K mg base "form_of" 1 ["word"] (Fi K))(W:Def P w K mg base "is_part" 4 fx Fj):Def P w K mg base "is_deed" 5 cm xS:=by
 exists["thing","many","form"];let(x,m,n,d,rfl,L,M,q):=h;have o:=hr.units;refine(_,(ai (aW (PW.pt (pw_or (bY (bA (aX dJ rfl T.bb ug (ag (aq 0) (ag (cV (v:=.ty "tuple") rfl T.b8 sM rfl) aa))))) (pw_or (aC (bg o) (aX aM rfl T.bO Y' (ag (aq 0) aa)) aj (aI _)) (pw_or1 (bY (bA (aX dJ rfl T.bb ug (ag (ao o (aq 0) aj) (ag (cV (v:=.ty "str") rfl T.Fe PyProof.Rows.boot_str rfl) aa))))))))) (ak (aG gp)) aK)
  (ai (bf (i:=2) sc rfl Sort (aN U hr (ag (ao o (aq 0) aj) aa)))
  (ai (aW (PW.pt (pw_or (aC yJ (aq 2) gF (aI _)) (pw_or1 (aC (fT o) (aX aM rfl T.bO Y' (ag (aq 0) aa)) (aZ cB (aX aM rfl T.bO Y' (ag (aq 2) aa)) aj) (aI _))))) (ak (aG gp)) aK)
  (ak (aG (aX (iO rfl) rfl T.vk Gk (ag (dy (N':=["part","sort","many"]) (ix:=[none,none,some 1]) (yT rfl T.Bs (ag (uM (aq 0) (iK aj) pV) (ag (aq 2) aa))) (λ_ _ _ _=>(jy (K:=K) rfl (i:=0) (j:=1) rfl (iw ["part","sort","many"]) rfl rfl Sort Sort)) nJ (λ_ _ _ _=>(aN W hr (ag (aq 0) (ag (aq 1) (ag (aq 2) aa)))))) aa))))))),?_)
 let(a,ps,rfl,g,k,X):=vp L M;have o:=DO (d:=d);right;calc d7 _ true (.tup g) rfl ?_;simp only[Bool.not_true,Bool.false_eq_true,if_false];calc bN _ (.inr (_,bI.of g,rfl)) ?_;rw[if_neg (by simp;lia)];calc(_,.str d.word,.inr (bI.of g),aA (j:=0) rfl,_,true,.str _,rfl,?_);simp only[Bool.not_true,Bool.false_eq_true,if_false];calc(_,.str d.word,.inr (bI.of g),aA (j:=0) rfl,d,rfl,λp N=>?_);right;rw[if_neg X'];calc(_,.inr (_,bI.of g,rfl),_,.inr (_,N,rfl),?_);rw[if_neg (by simp[k])];calc bJ ?_;right;calc .inr (_,g,λo H2 B l=>?_);rw[afw]at l;have r:=B.Xv N;calc fQ false false _ _ (Sq.t l) r (λD O=>?_);refine bu (J:=Xt false false K o p) (n:=ps.length) (λi ys H'=>ys=List.replicate i (V.bl true)/\au H2 H') (T' (aD ())) (rfl,au.new _ O) ?_ ?_ ?_ ?_
 .rintro i ys H' G ⟨_,c⟩;exact(ps,d.wz.map V.str,ps[i],.str (d.wz[i]'()),Sq.t (c _ _ l),c.Xv r,cJ G,by rw[K',cJ ()];rfl)
 .rintro ys H' ⟨_,c⟩;exact(ps,d.wz.map V.str,Sq.t (c _ _ l),c.Xv r,.inl rfl)
 .intro i ys H' G y R Y x H4 Z;nofun;let(rfl,c):=Y;let(T,hT,rfl,hy):=Z;let(u,v,e1,S,rfl):=hy ps (d.wz.map V.str) (Sq.t (c _ _ l)) (c.Xv r);rw[K']at S;let(z,ez,rfl):=jb S;ac_rfl;have I:au H' (upd H' T (.tup [u,.str z])):=au.new _ hT;calc vf (bI.of af) (Ext.set (Ext.set (Ext.refl _) rfl) rfl,?_);right;rw[if_pos trivial];calc afi u z m rfl ((X i u z e1 ez).same (B.trans (c.trans I))) (λk g=>?_);have l:k D=some (.lst (List.replicate i (V.bl true))):=g _ _ (I _ _ y);calc b4 l R G (T' (aD ())) (ko _ _,λb o e=>?_);rw[ay (av e O)];exact g _ _ (I _ _ (c _ _ e))
 .rintro ys H' y R ⟨rfl,c⟩;right;rw[qT] at y;calc bN _ (aS.of y) ?_;have e:(List.replicate ps.length true).all id=true:=nofun;rw[e];calc q _ (B.trans c)
abbrev jL:Stmt:=top 54
def LT(H:Hp)(a:Addr)(xs:List V):Prop:=H a=some (.lst xs)\/H a=some (.tup xs)
theorem LT.same(s:au H H')(h:LT H a xs):LT H' a xs:=h.elim (λz=>.inl (s _ _ z)) (λz=>.inr (s _ _ z))
theorem ky(h:LT H a ys)(q:∀p H',au H H'->H' p=some (.tup ys)->Q (.ref p) H'):yK K [.ref a] H Q:=by
 rcases h with h|h
 .exact .inl (_,aS.of h,λl b=>q l _ (au.new _ b) af)
 .calc .inr (_,bI.of h,q a H (au.refl H) h)
def vq:Sp:=λvs H Q _=>∃(a:Addr) (ns:List Int) (lo b M:Int),vs=[.ref a,.int lo,.int b,.int M]/\LT H a (ns.map V.int)/\lo<=(ns.length:Int)/\(ns.length:Int)<=b/\b<=100/\(∀z∈ns,0<=z/\z<M)/\∀H',au H H'->Q (.bl true) H'
theorem wG(D:cG K mg "are_counted" "are_counted" jL du)(T:Tx K mg C CN CR F FD)(L:Def P w K mg base "is_list" 1 eo oJ)(N:Def P w K mg base "is_within" 2 bh cf):Def P w K mg base "are_counted" 3 du vq:=by
 exists du;let(a,ns,B,G,M,rfl,g,I,m,v,y,q):=h;have v:=hr.units;calc(_,(ak (aG (jI (aN L hr (ag (aq 0) (ag (aq 1) (ag (aq 2) aa)))) (il (aX (iO rfl) rfl T.vk Gk (ag (dy (N':=["thing","modulus"]) (ix:=[none,some 3]) (bR (pv 0)) (λ_ _ _ _=>(aT (i:=0) (iw ["thing","modulus"]) rfl Sort)) nJ (λ_ _ _ _=>(aN N hr (ag (aq 0) (ag aj (ag (aq 1) aa)))))) aa)))))),?_);right;calc fQ a _ B G rfl g (λH1 k=>?_);rw[V',aaC I,aaC m];show ∃c,V.bl true=.bl c/\_;calc bN true rfl ?_;rw[if_pos rfl];calc bJ ?_;right;rcases g with g | g
 .calc .inl ((_,aS.of (k _ _ g)),λD p=>?_);refine bu (J:=xf K a) (n:=ns.length) (λi ys H'=>ys=List.replicate i (V.bl true)/\au H1 H') (T' (aD ())) (rfl,au.new _ p) ?_ ?_ ?_ ?_
  .rintro i ys H' j ⟨_,d⟩;exact(_,.int ns[i],aS.of (d _ _ (k _ _ g)),by rw[K',cJ j];rfl)
  .rintro ys H' ⟨_,d⟩;exact(_,aS.of (d _ _ (k _ _ g)),nofun)
  .intro i ys H' j l r O x R S;nofun;let(rfl,d):=O;let(rfl,z):=S;have t:=z _ (aS.of (d _ _ (k _ _ g)));rw[K',cJ j] at t;obtain rfl:=Option.some.inj t;ac_rfl;calc(Ext.set (Ext.refl _) rfl,?_);right;rw[if_pos trivial];calc fQ (.int ns[i]) _ 0 M rfl (.int _) ?_;have u:=y ns[i] (aaJ j);have e:inR 0 M (.int ns[i])=true:=by simp[inR,u.1,u.2]
   rw[e];calc b4 l r j (T' (aD ())) (ko _ _,λb o e=>?_);rw[ay (av e p)];exact d _ _ e
  .rintro ys H' l r ⟨rfl,d⟩;right;rw[qT] at l;calc bN _ (aS.of l) ?_;have e:(List.replicate ns.length true).all id=true:=nofun;rw[e];exact q _ (k.trans d)
 .calc .inr ((_,bI.of (k _ _ g)),λD p=>?_);refine bu (J:=Xi K a) (n:=ns.length) (λi ys H'=>ys=List.replicate i (V.bl true)/\au H1 H') (T' (aD ())) (rfl,au.new _ p) ?_ ?_ ?_ ?_
  .rintro i ys H' j ⟨_,d⟩;exact(_,.int ns[i],bI.of (d _ _ (k _ _ g)),by rw[K',cJ j];rfl)
  .rintro ys H' ⟨_,d⟩;exact(_,bI.of (d _ _ (k _ _ g)),nofun)
  .intro i ys H' j l r U x R W;nofun;let(rfl,d):=U;let(rfl,z):=W;have t:=z _ (bI.of (d _ _ (k _ _ g)));rw[K',cJ j] at t;obtain rfl:=Option.some.inj t;ac_rfl;calc(Ext.set (Ext.refl _) rfl,?_);right;rw[if_pos trivial];calc fQ (.int ns[i]) _ 0 M rfl (.int _) ?_;have u:=y ns[i] (aaJ j);have e:inR 0 M (.int ns[i])=true:=by simp[inR,u.1,u.2]
   rw[e];calc b4 l r j (T' (aD ())) (ko _ _,λb o e=>?_);rw[ay (av e p)];exact d _ _ e
  .rintro ys H' l r ⟨rfl,d⟩;right;rw[qT] at l;calc bN _ (aS.of l) ?_;have e:(List.replicate ns.length true).all id=true:=nofun;rw[e];calc q _ (k.trans d)
abbrev gJ:Stmt:=top 55
def Fl:Sp:=λvs H Q _=>∃(M:Int) (b c ad:Addr) (ns a:List Int) (xs:List V),vs=[.int M,.ref b,.ref c,.ref ad]/\2<=M/\M<=1000000000000/\LT H b (ns.map V.int)/\LT H c (a.map V.int)/\LT H ad xs/\1<=ns.length/\ns.length<=4/\a.length<=12/\(∀z∈ns,0<=z/\z<M)/\(∀z∈a,0<=z/\z<M)/\∀H',au H H'->Q .bL H'
theorem rj(D:cG K mg "refuse_machine" "refuse_machine" gJ dV)(T:Tx K mg C CN CR F FD)(c:Def P w K mg base "are_counted" 3 du vq)(u:Def P w K mg base "is_within" 2 bh cf):Def P w K mg base "refuse_machine" 4 dV Fl:=by
 exists dV;let(M,d,g,ad,ns,a,x,rfl,i,y,j,k,l,z,B,G,m,n,q):=h;have x:=hr.units;refine(_,(ai (aW (bY (bA (aN u hr (ag (aq 0) (ag aj (ag (aZ cB (gu T.d9 rfl) aj) aa)))))) (ak dH) aK)
  (ai (aW (bY (bA (aN c hr (ag (aq 1) (ag aj (ag (gu T.ei rfl) (ag (aq 0) aa))))))) (ak dH) aK)
  (ai (aW (bY (bA (aN c hr (ag (aq 2) (ag aj (ag (gu T.fW rfl) (ag (aq 0) aa))))))) (ak dH) aK)
  (ak (aW (bY (bA (aX dJ rfl T.bb ug (ag (aq 3) (ag (bD (ag (cV (v:=.ty "list") rfl T.fJ oh rfl) (ag (cV (v:=.ty "tuple") rfl T.b8 sM rfl) aa))) aa))))) (ak dH) aK))))),?_)
 right;calc fQ (.int M) _ 2 _ rfl (.int M) ?_;have e:inR 2 (1000000000000+1) (.int M)=true:=by simp[inR,i];lia
 rw[e];right;rw[if_neg ∅];calc ZJ d ns 1 4 M rfl j () () ∅ m (λH1 b=>?_);right;rw[if_neg ∅];calc ZJ g a 0 12 M rfl (k.same b) () () ∅ n (λH2 o=>?_);right;rw[if_neg ∅];calc(dO,λp a=>?_);have r:au H2 (upd H2 p (.tup [.ty "list",.ty "tuple"])):=au.new _ a;have I:∃t,iq K (upd H2 p (.tup [.ty "list",.ty "tuple"])) (.ref ad) t/\W.kitAny K t [.type "list",.type "tuple"]=some true:=by
  rcases l.same (b.trans (o.trans r)) with z|z
  .exact(_,.lst z,rfl)
  .exact(_,.tup z,rfl)
 let(t,J,L):=I;calc ZI t true _ _ J af rfl L ?_;right;rw[if_neg ∅];calc q _ (b.trans (o.trans r))
abbrev iZ:Stmt:=top 56
def DL(H:Hp)(n:Nat)(xs:List V)(a:List bF):Prop:=xs.length=a.length/\∀(i:Nat) x d,xs[i]?=some x->a[i]?=some d->HT H n x (bF.dv d)
theorem DL.aL{a:List bF}(s:cw H H')(h:DL H n xs a):DL H' n xs a:=(h.1,λi x d a b=>(h.2 i x d a b).aL s)
theorem DL.ht{b:List bF}(h:DL H n xs b)(e:H a=some (.tup xs)):HT H (n+1) (.ref a) (.tup (b.map bF.dv)):=by
 calc .tup e (by rw[V'];calc h.1) λi u d f c=>?_;rw[K']at c;let(dd,g,rfl):=jb c;calc h.2 i u dd f g
def Fm:Sp:=λvs H Q _=>∃(a:Addr) (xs:List V) (b:List bF) (m:Int) (n:Nat),vs=[.ref a,.int m]/\LT H a xs/\DL H n xs b/\b.length<=24/\(∀d∈b,d.ok m)/\∀H',au H H'->Q .bL H'
theorem vt(D:cG K mg "refuse_deeds" "refuse_deeds" iZ ["deeds","many"])(T:Tx K mg C CN CR F FD)(B:Def P w K mg base "is_deed" 5 cm xS):Def P w K mg base "refuse_deeds" 6 ["deeds","many"] Fm:=by
 exists["deeds","many","at","deed"];let(a,c,e,m,n,rfl,d,g,G,u,q):=h;have G:=hr.units;refine(_,(ak (cZ PassesOwn.never rfl (iL rfl T.de (ag (aq 0) aa)) (fb (i:=2) (j:=3) rfl sc rfl rfl Sort Sort)
  (ak (aW (PW.pt (pw_or (aC (bg G) (aq 2) (gu T.eG rfl) (aI _)) (pw_or1 (bY (bA (aN B hr (ag (aq 3) (ag (aq 1) aa)))))))) (ak dH) aK)))),?_)
 rcases d with d|d
 .calc Ht true c (Sq.l d) ?_;refine kn (xs:=c) (λi σ H'=>au H H'/\∃k o,σ=[some (.ref a),some (.int m),k,o]) (au.refl H,none,none,rfl) (λi σ H' (b,_)=>Sq.l (b _ _ d)) ?_ ?_
  .intro i x σ H1 T p I v;let(b,k,o,rfl):=I;have y:i < c.length:=(iF p).1;have kg:i < e.length:=by rw[<-g.1];exact y
   have r:au H1 (upd H1 T (.tup [.int i,x])):=au.new _ v;calc vf (bI.of af) ?_;right;rw[if_neg (by simp;lia)];calc(x,m,n,e[i],rfl,(g.2 i x e[i] p (cJ kg)).aL (b.trans r).aR,u _ (aaJ kg),λJ z=>?_);right
   first|rw[if_neg ∅]|skip
   exact(b.trans (r.trans z),_,_,rfl,rfl)
  .rintro σ H1 ⟨b,_⟩;exact q _ b
 .calc Ht false c (Sq.t d) ?_;refine kn (xs:=c) (λi σ H'=>au H H'/\∃k o,σ=[some (.ref a),some (.int m),k,o]) (au.refl H,none,none,rfl) (λi σ H' (b,_)=>Sq.t (b _ _ d)) ?_ ?_
  .intro i x σ H1 T p L v;let(b,k,o,rfl):=L;have y:i < c.length:=(iF p).1;have kg:i < e.length:=by rw[<-g.1];exact y
   have r:au H1 (upd H1 T (.tup [.int i,x])):=au.new _ v;calc vf (bI.of af) ?_;right;rw[if_neg (by simp;lia)];calc(x,m,n,e[i],rfl,(g.2 i x e[i] p (cJ kg)).aL (b.trans r).aR,u _ (aaJ kg),λJ z=>?_);right
   first|rw[if_neg ∅]|skip
   exact(b.trans (r.trans z),_,_,rfl,rfl)
  .rintro σ H1 ⟨b,_⟩;calc q _ b
noncomputable abbrev rz:Stmt:=(cA (top 60)).getD 0 (.Pass (0,0,0,0))
noncomputable def Oc(M:Int)(st dd:V):List (Str×V):=bT "own_deeds" dd (bT "own_state" st (bT "own_modulus" (.int M) []))
theorem Z3:(Oc M st dd).lookup ("own_modulus":Str)=some (.int M):=by
 unfold Oc;rw[bC,if_neg ⋯,bC,if_neg ⋯,bC,if_pos rfl]
theorem afy:(Oc M st dd).lookup ("own_state":Str)=some st:=by
 unfold Oc;rw[bC,if_neg ⋯,bC,if_pos rfl]
theorem Z4:(Oc M st dd).lookup ("own_deeds":Str)=some dd:=by
 unfold Oc;rw[bC,if_pos rfl]
theorem Fo(a:f≠"own_modulus")(b:f≠"own_state")(c:f≠"own_deeds"):(Oc M st dd).lookup f=none:=by
 unfold Oc;rw[bC,if_neg c,bC,if_neg b,bC,if_neg a];rfl
theorem jM{a:List (Str×V)}(h:a.length<n):(bT f v a).length<n+1:=by
 have:=lT f v a;lia
def i3(C:Addr)(H:Hp)(m:Addr)(M:Int)(ns a:List Int)(b:List bF):Prop:=∃c st dd,H m=some (.ins C c (Oc M st dd))/\HT H 2 st (AW ns a)/\HT H 4 dd (.tup (b.map bF.dv))
theorem i3.same{a:List Int}{b:List bF}(s:au H H')(h:i3 C H m M ns a b):i3 C H' m M ns a b:=by
 let(a,st,dd,b,c,d):=h;calc(a,st,dd,s _ _ b,c.aL s.aR,d.aL s.aR)
def Fp(C:Addr):Sp:=λvs H Q _=>∃(x g:Addr) (M:Int) (e f ad:Addr) (ns a:List Int) (xs:List V) (c:List bF) (n:Nat),vs=[.ref x,.int M,.ref e,.ref f,.ref ad]/\H x=some (.ins C g [])/\2<=M/\M<=1000000000000/\LT H e (ns.map V.int)/\LT H f (a.map V.int)/\LT H ad xs/\1<=ns.length/\ns.length<=4/\a.length<=12/\
 (∀z∈ns,0<=z/\z<M)/\(∀z∈a,0<=z/\z<M)/\DL H n xs c/\n<=3/\c.length<=24/\(∀d∈c,d.ok ns.length)/\∀H',i3 C H' x M ns a c->(∀b o,b≠x->H b=some o->H' b=some o)->Q .bL H'
theorem HI(D:Hd K mg "Machine" C "Machine.__init__" rz c7)(T:Tx K mg C CN CR F FD)(i4:Def P w K mg base "refuse_deeds" 6 ["deeds","many"] Fm)(gK:Def P w K mg base "refuse_machine" 4 dV Fl):yV P w K mg base "Machine" C 7 c7 (Fp C):=by
 exists c7;let(x,a,M,N,ar,ad,ns,g,u,ds,n,rfl,v,HH,rm,y,O,l,LO,Ob,ql,hb,VH,R,m,R6,aY,q):=h;have m:=hr.units;refine(_,(ai (bX (aN gK hr (ag (aq 1) (ag (aq 2) (ag (aq 3) (ag (aq 4) aa))))))
  (ai (bX (aN i4 hr (ag (aq 4) (ag (aX aM rfl T.bO Y' (ag (aq 2) aa)) aa))))
  (ai (gq (aq 0) (aq 1) (hX rfl))
  (ai (gq (aq 0) (bD (ag (dz bU rfl T.b8 sM (ag (aq 2) aa)) (ag (dz bU rfl T.b8 sM (ag (aq 3) aa)) aa))) (hX rfl))
  (ak (gq (aq 0) (dz bU rfl T.b8 sM (ag (aq 4) aa)) (hX rfl))))))),?_)
 try walk_at "rt"
 refine(M,N,ar,ad,ns,g,u,rfl,HH,rm,y,O,l,LO,Ob,ql,hb,VH,λH1 B=>?_)
 try walk_at "rt"
 have m:Jv K (.ref N) H1 (ns.map V.int).length:=(y.same B).elim (λz=>.inl (_,aS.of z,rfl)) (λz=>.inr (_,bI.of z,rfl));calc bN _ m ?_;calc afm ad u ds _ n rfl (l.same B) (R.aL B.aR) R6 (by rw[V'];calc aY) (λH2 N=>?_);have Od:=B.trans N
 try walk_at "rt"
 have m:=Od _ _ v;calc(x,C,a,[],rfl,m,T.cX,T.R3,∅,?_);have p:∀{b:Addr} {ys:List V},LT H b ys->b≠x:=λh z=>by
  subst z;rcases h with h|h<;>(rw[v]at h;cases h)
 have S:∀b o,b≠x->H b=some o->upd H2 x (.ins C a (bT "own_modulus" (.int M) [])) b=some o:=λb o d e=>by rw[ay d];exact Od _ _ e
 have r:∀{b:Addr} {ys:List V},LT H b ys->LT (upd H2 x (.ins C a (bT "own_modulus" (.int M) []))) b ys:=λh=>by
  have i:=p h;exact h.elim (λz=>.inl (S _ _ i z)) (λz=>.inr (S _ _ i z))
 have t:upd H2 x (.ins C a (bT "own_modulus" (.int M) [])) x=some (.ins C a (bT "own_modulus" (.int M) [])):=af;generalize LP:upd H2 x (.ins C a (bT "own_modulus" (.int M) []))=G2 at *
 try walk_at "rt"
 refine ky (r y) λI m s3 wb=>?_
 try walk_at "rt"
 refine ky ((r O).same s3) λJ U s4 qG=>?_
 try walk_at "rt"
 calc(dO,λc m=>?_);have W:=au.new (.tup [.ref I,.ref J]) m;have X:=s3.trans (s4.trans W)
 try walk_at "rt"
 calc Hu x C a _ rfl (X _ _ t) T.cX T.Vz (jM (n:=999) ∅) ?_;have Y:HT (upd U c (.tup [.ref I,.ref J])) 2 (.ref c) (AW ns g):=dA af (p8 (W _ _ (s4 _ _ wb))) (p8 (W _ _ qG));have Z:=X _ _ t;have L:∀b o,b≠x->H b=some o->upd U c (.tup [.ref I,.ref J]) b=some o:=λb o d e=>X _ _ (S b o d e);generalize hG:upd U c (.tup [.ref I,.ref J])=G at *;have tG:cw H G:=λb ys e=>L b _ (λz=>by subst z;rw[v]at e;cases e) e;have t6:cw G (upd G x (.ins C a (bT "own_state" (.ref c) (bT "own_modulus" (.int M) [])))):=(cw.refl G).upd λys e=>by rw[Z]at e;cases e
 have e6:LT (upd G x (.ins C a (bT "own_state" (.ref c) (bT "own_modulus" (.int M) [])))) ad u:=by
  have i:=p l;exact l.elim (λz=>.inl (by rw[ay i];calc L _ _ i z)) (λz=>.inr (by rw[ay i];calc L _ _ i z))
 have n6:∀b o,b≠x->H b=some o->upd G x (.ins C a (bT "own_state" (.ref c) (bT "own_modulus" (.int M) []))) b=some o:=λb o d e=>by rw[ay d];exact L b o d e
 have j:upd G x (.ins C a (bT "own_state" (.ref c) (bT "own_modulus" (.int M) []))) x=some (.ins C a (bT "own_state" (.ref c) (bT "own_modulus" (.int M) []))):=af;generalize hG6:upd G x (.ins C a (bT "own_state" (.ref c) (bT "own_modulus" (.int M) [])))=G6 at *
 try walk_at "rt"
 refine ky e6 λt4 H7 k DP=>?_
 try walk_at "rt"
 calc Hu x C a _ rfl (k _ _ j) T.cX T.R4 (jM (n:=999) (jM (n:=998) ∅)) ?_;have ne4:t4≠x:=λz=>by subst z;rw[k _ _ j]at DP;cases DP
 have t8:cw H7 (upd H7 x (.ins C a (Oc M (.ref c) (.ref t4)))):=(cw.refl _).upd λys e=>by rw[k _ _ j]at e;cases e
 refine q _ (a,.ref c,.ref t4,af,(Y.aL t6).aL (k.aR.trans t8),?_) λb o d e=>?_
 .calc HT.mono (n:=n+1) ?_ ();calc DL.ht (R.aL (tG.trans (t6.trans (k.aR.trans t8)))) ?_;rw[ay ne4];exact DP
 .rw[ay d];calc k _ _ (n6 b o d e)
noncomputable abbrev fe:Stmt:=(cA (top 60)).getD 2 (.Pass (0,0,0,0))
def LQ(C:Addr):Sp:=λvs H Q _=>∃(m:Addr) (M:Int) (ns a:List Int) (b:List bF),vs=[.ref m]/\i3 C H m M ns a b/\∀st,HT H 2 st (AW ns a)->Q st H
theorem lO(D:iM K C "first_state" "Machine.first_state" fe b0)(T:Tx K mg C CN CR F FD):cn P w K mg base C "first_state" 1 b0 (LQ C):=by
 exists b0;let(m,M,ns,a,e,rfl,(b,st,dd,c,d,g),q):=h;have a:=hr.units;calc(_,(ak (aG (bP (aq 0) rfl))),?_);calc(m,C,b,_,_,rfl,c,T.cX,T.Vz,afy,q _ d)
theorem Z5{b:List bF}(h:HT H (n+1) x (.tup (b.map bF.dv))):∃a xs,x=.ref a/\H a=some (.tup xs)/\DL H n xs b:=by
 cases h with
 | @tup _ a xs _ e l i=>
  calc(a,xs,rfl,e,(l:),λj x d b c=>i j x _ b ?_);rw[K',c];rfl
def fK(H:Hp)(n:Nat)(ys:List V)(a:List DV):Prop:=ys.length=a.length/\∀(i:Nat) y e,ys[i]?=some y->a[i]?=some e->HT H n y e
theorem fK.nil:fK H n [] []:=(rfl,λi y e h=>by simp at h)
theorem fK.aL{c:List DV}(h:fK H n ys c)(t:cw H H'):fK H' n ys c:=(h.1,λi y e a b=>(h.2 i y e a b).aL t)
theorem fK.snoc{c:List DV}{e:DV}(h:fK H n ys c)(g:HT H n y e):fK H n (ys++[y]) (c++[e]):=by
 calc(by simp[h.1],λi c f a b=>?_);by_cases c:i<ys.length
 .rw[aag c]at a;rw[aag (by rw[<-h.1];calc c)]at b;exact h.2 i _ _ a b
 .rw[aad ()] at a;rw[aad (by rw[<-h.1];lia),<-h.1] at b
  cases d:i-ys.length with
  |zero=>rw[d]at a b;cases a;cases b;calc g
  |succ k=>rw[d]at a;simp at a
theorem fK.dl{a:List bF}(h:fK H n xs (a.map bF.dv)):DL H n xs a:=((h.1:),λi x d a b=>h.2 i x _ a (by rw[K',b];rfl))
abbrev vv:Stmt:=top 66
abbrev XA(C:Addr)(H:Hp)(m:Addr)(d:MD):Prop:=i3 C H m d.M d.ns d.row d.ds
noncomputable def mf(w:Int×Int×Str):DV:=.tup [.int w.1,.int w.2.1,.str w.2.2]
noncomputable def qm(l:Int×Int):DV:=.tup [.int l.1,.int l.2]
def xT(m:Int)(w:Int×Int×Str):Prop:=0<=w.1/\w.1<m/\0<=w.2.1/\w.2.1<m/\(w.2.2="row"\/w.2.2="heap")
def xU(m:Int)(l:Int×Int):Prop:=0<=l.1/\l.1<m/\1-1000000000000000000000000000000000000000000000000000000000000<=l.2/\l.2<1000000000000000000000000000000000000000000000000000000000000
def BA:Sp:=λvs H Q _=>∃(x:V) (n:Nat) (a b:Int) (c:Str) (m:Int),vs=[x,.int m]/\HT H n x (mf ((a),b,c))/\xT m ((a),b,c)/\∀H',au H H'->Q (.bl true) H'
theorem LR(D:cG K mg "is_way" "is_way" vv cm)(T:Tx K mg C CN CR F FD)(l:Def P w K mg base "is_within" 2 bh cf):Def P w K mg base "is_way" 3 cm BA:=by
 exists cm;let(x,n,c,d,g,m,rfl,o,r,q):=h;have i:=hr.units;refine(_,(ai (aW (PW.pt (pw_or (bY (bA (aX dJ rfl T.bb ug (ag (aq 0) (ag (cV (v:=.ty "tuple") rfl T.b8 sM rfl) aa))))) (pw_or (aC (fT i) (aX aM rfl T.bO Y' (ag (aq 0) aa)) aj (aI _)) (pw_or1 (bY (bA (aX dJ rfl T.bb ug (ag (ao i (aq 0) aj) (ag (cV (v:=.ty "str") rfl T.Fe PyProof.Rows.boot_str rfl) aa))))))))) (ak (aG gp)) aK)
  (ak (aG (jI (aN l hr (ag (ao i (aq 0) aj) (ag aj (ag (aq 1) aa)))) (jI (aN l hr (ag (ao i (aq 0) aj) (ag aj (ag (aq 1) aa)))) (il (hJ Ka (ao i (aq 0) aj) (bD (ag aH (ag aH aa))) (by with_unfolding_all rfl)))))))),?_)
 nofun;let(a,M,N,O,k,rfl,b,t,u,y):=bV o;obtain rfl:=t.cF;obtain rfl:=u.cF;obtain rfl:=y.c8
 replace b:H a=some (.tup [.int c,.int d,.str g]):=b
 obtain⟨z,B,G,I,J⟩:0<=c/\c<m/\0<=d/\d<m/\(g="row"\/g="heap"):=r;ac_rfl;left;calc d7 _ true (.tup b) rfl ?_;simp only[Bool.not_true,Bool.false_eq_true,if_false];calc bN _ (.inr (_,bI.of b,rfl)) ?_;rw[if_neg nofun];calc(_,_,.inr (bI.of b),aA (j:=2) rfl,_,true,.str _,rfl,?_);simp only[Bool.not_true,Bool.false_eq_true,if_false];left;calc d7 _ _ (.inr (bI.of b)) (aA (j:=0) rfl) ?_;calc fQ (.int c) _ 0 m rfl (.int c) ?_;rw[show inR 0 m (.int c)=true by simp[inR,z,B]];left;rw[if_pos trivial];calc d7 _ _ (.inr (bI.of b)) (aA (j:=1) rfl) ?_;calc fQ (.int d) _ 0 m rfl (.int d) ?_;rw[show inR 0 m (.int d)=true by simp[inR,G,I]];left;rw[if_pos trivial];calc y7 _ _ (.inr (bI.of b)) (aA (j:=2) rfl) dO (λp L=>?_);calc PU _ (.inr (bI.of af)) rfl rfl ?_;have e:EH (.str g) [.str "row",.str "heap"]=true:=by
  rcases J with rfl|rfl<;>decide +kernel
 rw[e];calc q _ (au.new _ L)
abbrev mh:Stmt:=top 67
def BB:Sp:=λvs H Q _=>∃(x:V) (n:Nat) (a b:Int) (m:Int),vs=[x,.int m]/\HT H n x (qm ((a),b))/\xU m ((a),b)/\Q (.bl true) H
theorem BC(D:cG K mg "is_letter" "is_letter" mh cm)(T:Tx K mg C CN CR F FD)(g:Def P w K mg base "is_within" 2 bh cf):Def P w K mg base "is_letter" 3 cm BB:=by
 exists cm;let(x,n,b,c,m,rfl,i,l,q):=h;have e:=hr.units;refine(_,(ai (aW (PW.pt (pw_or (bY (bA (aX dJ rfl T.bb ug (ag (aq 0) (ag (cV (v:=.ty "tuple") rfl T.b8 sM rfl) aa))))) (pw_or1 (aC (fT e) (aX aM rfl T.bO Y' (ag (aq 0) aa)) aj (aI _))))) (ak (aG gp)) aK)
  (ak (aG (jI (aN g hr (ag (ao e (aq 0) aj) (ag aj (ag (aq 1) aa)))) (il (aN g hr (ag (ao e (aq 0) aj) (ag (aZ dR aj (gu T.eI rfl)) (ag (gu T.eI rfl) aa))))))))),?_)
 nofun;let(a,z,B,k,rfl,d,o,p):=dP i;obtain rfl:=o.cF;obtain rfl:=p.cF
 replace d:H a=some (.tup [.int b,.int c]):=d
 obtain⟨r,t,u,y⟩:0<=b/\b<m/\1-1000000000000000000000000000000000000000000000000000000000000<=c/\c<1000000000000000000000000000000000000000000000000000000000000:=l;ac_rfl;left;calc d7 _ true (.tup d) rfl ?_;simp only[Bool.not_true,Bool.false_eq_true,if_false];calc bN _ (.inr (_,bI.of d,rfl)) ?_;rw[if_neg nofun];left;calc d7 _ _ (.inr (bI.of d)) (aA (j:=0) rfl) ?_;calc fQ (.int b) _ 0 m rfl (.int b) ?_;rw[show inR 0 m (.int b)=true by simp[inR,r,t]];left;rw[if_pos trivial];calc d7 _ _ (.inr (bI.of d)) (aA (j:=1) rfl) ?_;calc fQ (.int c) _ _ _ rfl (.int c) ?_;rw[show inR (1-1000000000000000000000000000000000000000000000000000000000000) 1000000000000000000000000000000000000000000000000000000000000 (.int c)=true by simp only[inR,decide_eq_true u,decide_eq_true y,Bool.and_self]];calc q
abbrev kP:Stmt:=top 68
def Fq(C:Addr):Sp:=λvs H Q _=>∃(a b c:Addr) (ms:List Addr) (wv lv:List V) (ws:List (Int×Int×Str)) (ls:jr),vs=[.ref a,.ref b,.ref c]/\H a=some (.lst (ms.map V.ref))/\H b=some (.lst wv)/\H c=some (.lst lv)/\1<=ms.length/\ms.length<=5/\wv.length<=10/\lv.length<=20/\(∀m∈ms,∃d e,H m=some (.ins C d e))/\fK H 1 wv (ws.map mf)/\fK H 1 lv (ls.map qm)/\(∀w∈ws,xT ms.length w)/\(∀l∈ls,xU wv.length l)/\∀H',au H H'->Q .bL H'
theorem zj(D:cG K mg "refuse_net" "refuse_net" kP et)(T:Tx K mg C CN CR F FD)(mj:Def P w K mg base "is_letter" 3 cm BB)(O:Def P w K mg base "is_list" 1 eo oJ)(vz:Def P w K mg base "is_way" 3 cm BA):Def P w K mg base "refuse_net" 4 et (Fq C):=by
 exists et;let(R,S,U,ms,wv,lv,ws,ls,rfl,I,W,Fs,Of,DQ,tH,tI,Z6,X,Y,Qn,uy,q):=h;have hu:=hr.units;refine(_,(ai (aW (PW.pt (pw_or (bY (bA (aN O hr (ag (aq 0) (ag aj (ag (gu T.dE rfl) aa)))))) (pw_or1 (bY (bA (aX (iO rfl) rfl T.vk Gk (ag (dy (N':=["one"]) (ix:=[none]) (bR (pv 0)) (λ_ _ _ _=>(aT (i:=0) (iw ["one"]) rfl Sort)) nJ (λ_ _ _ _=>(aX (K1 (K:=K) rfl) rfl T.bb ug (ag (aq 0) (ag (cP (v:=.ref C) rfl T.xR rfl) aa))))) aa))))))) (ak dH) aK)
  (ai (aW (PW.pt (pw_or (bY (bA (aN O hr (ag (aq 1) (ag aj (ag (gu T.gi rfl) aa)))))) (pw_or1 (bY (bA (aX (iO rfl) rfl T.vk Gk (ag (dy (N':=["way","machines"]) (ix:=[none,some 0]) (bR (pv 1)) (λ_ _ _ _=>(aT (i:=0) (iw ["way","machines"]) rfl Sort)) nJ (λ_ _ _ _=>(aN vz hr (ag (aq 0) (ag (aX (oy (K:=K) rfl) rfl T.bO Y' (ag (aq 1) aa)) aa))))) aa))))))) (ak dH) aK)
  (ak (aW (PW.pt (pw_or (bY (bA (aN O hr (ag (aq 2) (ag aj (ag (gu T.eA rfl) aa)))))) (pw_or1 (bY (bA (aX (iO rfl) rfl T.vk Gk (ag (dy (N':=["letter","ways"]) (ix:=[none,some 1]) (bR (pv 2)) (λ_ _ _ _=>(aT (i:=0) (iw ["letter","ways"]) rfl Sort)) nJ (λ_ _ _ _=>(aN mj hr (ag (aq 0) (ag (aX (oy (K:=K) rfl) rfl T.bO Y' (ag (aq 1) aa)) aa))))) aa))))))) (ak dH) aK)))),?_)
 have O:(ms.map V.ref).length<=5:=(DQ:)
 left;calc fQ R _ 1 _ rfl (.inl I) (λH1 Z=>?_);rw[show(decide ((1:Int)<=((ms.map V.ref).length:Int))&&decide (((ms.map V.ref).length:Int)<=5))=true by simp;lia];left
 try simp only[Bool.not_true,Bool.false_eq_true,if_false]
 have L:=Z _ _ I;calc bJ ?_;left;calc .inl ((_,aS.of L),λD r=>?_);refine bu (J:=xf K R) (n:=(ms.map V.ref).length) (λi a H'=>a=List.replicate i (V.bl true)/\au H1 H') (T' (aD ())) (rfl,au.new _ r) ?_ ?_ ?_ ?_
 .rintro i a H' d ⟨_,l⟩;exact(_,(ms.map V.ref)[i],aS.of (l _ _ L),cJ d)
 .rintro a H' ⟨_,l⟩;exact(_,aS.of (l _ _ L),S' _)
 .intro i a H' d c g iz x p iY;nofun;let(rfl,l):=iz;let(rfl,z):=iY;ac_rfl;have B:=z _ (aS.of (l _ _ L));calc(Ext.set (Ext.refl _) rfl,?_);left;rw[if_pos trivial];have hxm:∃m,x=.ref m/\m∈ms:=by
   have:=aaF B;let(m,hm,rfl):=List.mem_map.mp this;exact(m,rfl,hm)
  nofun;let(m,rfl,L):=hxm;let(R,fs,O):=Z6 m L;ac_rfl;calc Vl _ C _ true rfl (.ins (l _ _ (Z _ _ O)) T.cX T.Hz T.fc T.cI T.HA) T.i_k ?_;have t:=au.refl p;calc b4 (t _ _ c) g d (T' (aD ())) (ko _ _,λb o e=>?_);rw[ay (av e r)];exact t _ _ (l _ _ e)
 rintro a H2 c g ⟨rfl,l⟩;left;rw[qT]at c;calc bN _ (aS.of c) ?_;have e:(List.replicate (ms.map V.ref).length true).all id=true:=nofun;rw[e];clear e c g;left
 try simp only[Bool.not_true,Bool.false_eq_true,if_false]
 have Od:=Z.trans l;have Z7:=Od _ _ W;left;calc fQ S _ 0 _ rfl (.inl Z7) (λH3 s3=>?_);rw[show(decide ((0:Int)<=(wv.length:Int))&&decide ((wv.length:Int)<=10))=true by simp;lia];left
 try simp only[Bool.not_true,Bool.false_eq_true,if_false]
 have M:=s3 _ _ Z7;have u:=Od.trans s3;calc bJ ?_;left;calc .inl ((_,aS.of M),λD r=>?_);refine bu (J:=xf K S) (n:=wv.length) (λi a H'=>a=List.replicate i (V.bl true)/\au H3 H') (T' (aD ())) (rfl,au.new _ r) ?_ ?_ ?_ ?_
 .rintro i a H' d ⟨_,j⟩;exact(_,wv[i],aS.of (j _ _ M),cJ d)
 .rintro a H' ⟨_,j⟩;exact(_,aS.of (j _ _ M),S' _)
 .intro i a H' d c g qk x p zg;nofun;let(rfl,j):=qk;let(rfl,z):=zg;ac_rfl;have B:=z _ (aS.of (j _ _ M));calc(Ext.set (Ext.refl _) rfl,?_);left;rw[if_pos trivial];have l:i < ws.length:=by have:=X.1;rw[V'] at this;lia
  have hw:=(X.2 i x (mf ws[i]) B (by rw[K',cJ l];rfl)).aL (u.trans j).aR;calc bN _ (.inl (_,aS.of (j _ _ (u _ _ I)),rfl)) ?_;refine(x,1,ws[i].1,ws[i].2.1,ws[i].2.2,_,rfl,hw,?_,λL t=>?_)
  .have:=Qn ws[i] (aaJ l);simpa[xT] using this
  calc b4 (t _ _ c) g d (T' (aD ())) (ko _ _,λb o e=>?_);rw[ay (av e r)];exact t _ _ (j _ _ e)
 rintro a H4 c g ⟨rfl,j⟩;left;rw[qT]at c;calc bN _ (aS.of c) ?_;have e:(List.replicate wv.length true).all id=true:=nofun;rw[e];clear e c g;left
 try simp only[Bool.not_true,Bool.false_eq_true,if_false]
 have G:=u.trans j;have Z8:=G _ _ Fs;left;calc fQ U _ 0 _ rfl (.inl Z8) (λH5 s5=>?_);rw[show(decide ((0:Int)<=(lv.length:Int))&&decide ((lv.length:Int)<=20))=true by simp;lia];left
 try simp only[Bool.not_true,Bool.false_eq_true,if_false]
 have N:=s5 _ _ Z8;have y:=G.trans s5;calc bJ ?_;left;calc .inl ((_,aS.of N),λD r=>?_);refine bu (J:=xf K U) (n:=lv.length) (λi a H'=>a=List.replicate i (V.bl true)/\au H5 H') (T' (aD ())) (rfl,au.new _ r) ?_ ?_ ?_ ?_
 .rintro i a H' d ⟨_,k⟩;exact(_,lv[i],aS.of (k _ _ N),cJ d)
 .rintro a H' ⟨_,k⟩;exact(_,aS.of (k _ _ N),S' _)
 .intro i a H' d c g zh x p zi;nofun;let(rfl,k):=zh;let(rfl,z):=zi;ac_rfl;have B:=z _ (aS.of (k _ _ N));calc(Ext.set (Ext.refl _) rfl,?_);left;rw[if_pos trivial];have j:i < ls.length:=by have:=Y.1;rw[V'] at this;lia
  have hw:=(Y.2 i x (qm ls[i]) B (by rw[K',cJ j];rfl)).aL (y.trans k).aR;calc bN _ (.inl (_,aS.of (k _ _ (y _ _ W)),rfl)) ?_;refine(x,1,ls[i].1,ls[i].2,_,rfl,hw,?_,?_)
  .have:=uy ls[i] (aaJ j);simpa[xU] using this
  have t:=au.refl p;calc b4 (t _ _ c) g d (T' (aD ())) (ko _ _,λb o e=>?_);rw[ay (av e r)];exact t _ _ (k _ _ e)
 rintro a H6 c g ⟨rfl,k⟩;left;rw[qT]at c;calc bN _ (aS.of c) ?_;have e:(List.replicate lv.length true).all id=true:=nofun;rw[e];clear e c g;left
 try simp only[Bool.not_true,Bool.false_eq_true,if_false]
 calc q _ (y.trans k)
noncomputable abbrev LS:Stmt:=(cA (top 69)).getD 0 (.Pass (0,0,0,0))
noncomputable def Qp(a b c:V):List (Str×V):=bT "own_letters" c (bT "own_ways" b (bT "own_machines" a []))
theorem Z9{a b c:V}:(Qp a b c).lookup ("own_machines":Str)=some a:=by
 unfold Qp;rw[bC,if_neg ⋯,bC,if_neg ⋯,bC,if_pos rfl]
theorem aaa{a b c:V}:(Qp a b c).lookup ("own_ways":Str)=some b:=by
 unfold Qp;rw[bC,if_neg ⋯,bC,if_pos rfl]
theorem afD{a b c:V}:(Qp a b c).lookup ("own_letters":Str)=some c:=by
 unfold Qp;rw[bC,if_pos rfl]
theorem fu{a b c:V}(d:f≠"own_machines")(e:f≠"own_ways")(g:f≠"own_letters"):(Qp a b c).lookup f=none:=by
 unfold Qp;rw[bC,if_neg g,bC,if_neg e,bC,if_neg d];rfl
def ml(CN:Addr)(H:Hp)(x:Addr)(ms:List Addr)(wv lv:List V):Prop:=∃d a b c,H x=some (.ins CN d (Qp (.ref a) (.ref b) (.ref c)))/\H a=some (.tup (ms.map V.ref))/\H b=some (.tup wv)/\H c=some (.tup lv)
theorem ml.same(s:au H H')(h:ml CN H x ms wv lv):ml CN H' x ms wv lv:=by
 let(d,a,b,c,e,f,g,i):=h;calc(d,a,b,c,s _ _ e,s _ _ f,s _ _ g,s _ _ i)
def BD(C CN:Addr):Sp:=λvs H Q _=>∃(x a c d e:Addr) (ms:List Addr) (wv lv:List V) (ws:List (Int×Int×Str)) (ls:jr),vs=[.ref x,.ref c,.ref d,.ref e]/\H x=some (.ins CN a [])/\H c=some (.lst (ms.map V.ref))/\H d=some (.lst wv)/\H e=some (.lst lv)/\1<=ms.length/\ms.length<=5/\wv.length<=10/\lv.length<=20/\(∀m∈ms,∃a f,H m=some (.ins C a f))/\fK H 1 wv (ws.map mf)/\fK H 1 lv (ls.map qm)/\(∀w∈ws,xT ms.length w)/\(∀l∈ls,xU wv.length l)/\∀H',ml CN H' x ms wv lv->(∀b o,b≠x->H b=some o->H' b=some o)->Q .bL H'
theorem aab(D:Hd K mg "Net" CN "Net.__init__" LS dr)(T:Tx K mg C CN CR F FD)(kQ:Def P w K mg base "refuse_net" 4 et (Fq C)):yV P w K mg base "Net" CN 7 dr (BD C CN):=by
 exists dr;let(x,a,B,G,I,ms,wv,lv,ws,ls,rfl,g,j,k,l,Y,Z,tH,tI,Z6,rC,HJ,Qn,uy,q):=h;have hu:=hr.units;refine(_,(ai (bX (aN kQ hr (ag (aq 1) (ag (aq 2) (ag (aq 3) aa)))))
  (ai (gq (aq 0) (dz bU rfl T.b8 sM (ag (aq 1) aa)) (hX rfl))
  (ai (gq (aq 0) (dz bU rfl T.b8 sM (ag (aq 2) aa)) (hX rfl))
  (ak (gq (aq 0) (dz bU rfl T.b8 sM (ag (aq 3) aa)) (hX rfl)))))),?_)
 try walk_at "rt"
 calc(B,G,I,ms,wv,lv,ws,ls,rfl,j,k,l,Y,Z,tH,tI,Z6,rC,HJ,Qn,uy,λH1 J=>?_);have Y:=J _ _ g;have Y:B≠x:=λz=>by subst z;rw[g]at j;cases j
 have L:G≠x:=λz=>by subst z;rw[g]at k;cases k
 have VI:I≠x:=λz=>by subst z;rw[g]at l;cases l
 try walk_at "rt"
 refine ky (.inl (J _ _ j)) λc H2 s2 M=>?_
 try walk_at "rt"
 have p:=J.trans s2;have Cy:=p _ _ g;calc(x,CN,a,[],rfl,Cy,T.cT,T.Bt,∅,?_);have N:c≠x:=λz=>by subst z;rw[Cy]at M;cases M
 have r:∀b o,b≠x->H2 b=some o->upd H2 x (.ins CN a (bT "own_machines" (.ref c) [])) b=some o:=λb o d e=>by rw[ay d];exact e
 have Oh:upd H2 x (.ins CN a (bT "own_machines" (.ref c) [])) x=some (.ins CN a (bT "own_machines" (.ref c) [])):=af;generalize hG3:upd H2 x (.ins CN a (bT "own_machines" (.ref c) []))=G3 at *;have O:=r _ _ N M;have HK:=r _ _ L (p _ _ k);have R:=r _ _ VI (p _ _ l)
 try walk_at "rt"
 refine ky (.inl HK) λi t u S=>?_
 try walk_at "rt"
 have VJ:=u _ _ Oh;calc Hu x CN a _ rfl VJ T.cT T.Bu (jM (n:=999) ∅) ?_;have n2:i≠x:=λz=>by subst z;rw[VJ]at S;cases S
 have v:∀b o,b≠x->t b=some o->upd t x (.ins CN a (bT "own_ways" (.ref i) (bT "own_machines" (.ref c) []))) b=some o:=λb o d e=>by rw[ay d];exact e
 have IS:upd t x (.ins CN a (bT "own_ways" (.ref i) (bT "own_machines" (.ref c) []))) x=some (.ins CN a (bT "own_ways" (.ref i) (bT "own_machines" (.ref c) []))):=af;generalize hG5:upd t x (.ins CN a (bT "own_ways" (.ref i) (bT "own_machines" (.ref c) [])))=G5 at *;have U:=v _ _ N (u _ _ O);have W:=v _ _ n2 S;have HL:=v _ _ VI (u _ _ R)
 try walk_at "rt"
 refine ky (.inl HL) λt3 g y X=>?_
 try walk_at "rt"
 have m:=y _ _ IS;calc Hu x CN a _ rfl m T.cT T.DJ (jM (n:=999) (jM (n:=998) ∅)) ?_;have n3:t3≠x:=λz=>by subst z;rw[m]at X;cases X
 refine q _ (a,c,i,t3,af,?_,?_,?_) λb o d e=>?_
 .rw[ay N];exact y _ _ U
 .rw[ay n2];exact y _ _ W
 .rw[ay n3];exact X
 .rw[ay d];calc y _ _ (v _ _ d (u _ _ (r _ _ d (p _ _ e))))
noncomputable abbrev i5:Stmt:=(cA (top 69)).getD 1 (.Pass (0,0,0,0))
def fI(CN:Addr):Sp:=λvs H Q _=>∃(x:Addr) (ms:List Addr) (wv lv:List V),vs=[.ref x]/\ml CN H x ms wv lv/\∀l,H l=none->Q (.ref l) (upd H l (.lst (ms.map V.ref)))
theorem vA(D:iM K CN "machines" "Net.machines" i5 b0)(T:Tx K mg C CN CR F FD):cn P w K mg base CN "machines" 1 b0 (fI CN):=by
 exists b0;let(x,ms,wv,lv,rfl,(e,a,b,g,c,d,i,j),q):=h;have e:=hr.units;calc(_,(ak (aG (dz cK rfl T.fJ oh (ag (bP (aq 0) rfl) aa)))),?_);calc fld c T.cT T.Bt Z9 ?_;right;calc(_,.inr (bI.of d),λl e=>q l e)
noncomputable abbrev oN:Stmt:=(cA (top 69)).getD 2 (.Pass (0,0,0,0))
def qo(CN:Addr):Sp:=λvs H Q _=>∃(x:Addr) (ms:List Addr) (wv lv:List V),vs=[.ref x]/\ml CN H x ms wv lv/\∀l,H l=none->Q (.ref l) (upd H l (.lst wv))
theorem DR(D:iM K CN "ways" "Net.ways" oN b0)(T:Tx K mg C CN CR F FD):cn P w K mg base CN "ways" 1 b0 (qo CN):=by
 exists b0;let(x,ms,wv,lv,rfl,(e,a,b,g,c,i,d,j),q):=h;have e:=hr.units;calc(_,(ak (aG (dz cK rfl T.fJ oh (ag (bP (aq 0) rfl) aa)))),?_);calc fld c T.cT T.Bu aaa ?_;right;calc(_,.inr (bI.of d),λl e=>q l e)
noncomputable abbrev jN:Stmt:=(cA (top 69)).getD 3 (.Pass (0,0,0,0))
def sT(CN:Addr):Sp:=λvs H Q _=>∃(x:Addr) (ms:List Addr) (wv lv:List V),vs=[.ref x]/\ml CN H x ms wv lv/\∀l,H l=none->Q (.ref l) (upd H l (.lst lv))
theorem wI(D:iM K CN "letters" "Net.letters" jN b0)(T:Tx K mg C CN CR F FD):cn P w K mg base CN "letters" 1 b0 (sT CN):=by
 exists b0;let(x,ms,wv,lv,rfl,(e,a,b,g,c,i,j,d),q):=h;have e:=hr.units;calc(_,(ak (aG (dz cK rfl T.fJ oh (ag (bP (aq 0) rfl) aa)))),?_);calc fld c T.cT T.DJ afD ?_;right;calc(_,.inr (bI.of d),λl e=>q l e)
theorem afI{l:List Int}(h:l.length=1):∃a,l=[a]:=List.length_eq_one_iff.mp h
abbrev jO:Stmt:=top 41
inductive xV(K:W.Frag)(vs:List V)(H:Hp)(Q:VK):Prop
 |mk (x:_) (st:_) (way:_) (said:_) (v:_) (ns:_) (row:_) (n:_) (h0:vs=[x,st,.int way,.int said]) (h1:HT H n x (Val.dv v)) (h2:AY K H st ns row) (h3:v.ok ns.length) (h4:Q (.int (uU ns row way said v)) H):xV K vs H Q
def BE(K:W.Frag):Sp:=λvs H Q _=>xV K vs H Q
theorem wJ(D:cG K mg "plain_worth" "plain_worth" jO fh)(T:Tx K mg C CN CR F FD):Def P w K mg base "plain_worth" 1 fh (BE K):=by
 exists["value","state","way","said","word"];let(x,st,way,g,v,ns,k,n,rfl,l,B,r,q):=h;have b:=hr.units;refine(_,(ai (bf (i:=4) sc rfl Sort (ao b (aq 0) aj))
  (ai (aW (aC (bg b) (aq 4) aH (aI _)) (ak (aG (ao b (aq 0) aj))) aK)
  (ai (aW (aC (bg b) (aq 4) aH (aI _)) (ak (aG (ao b (ao b (aq 1) aj) (ao b (aq 0) aj)))) aK)
  (ai (aW (aC (bg b) (aq 4) aH (aI _)) (ak (aG (aq 3))) aK)
  (ai (aW (aC (bg b) (aq 4) aH (aI _)) (ak (aG (aq 2))) aK)
  (ak (aG (Jk (aC kK (aX aM rfl T.bO Y' (ag (ao b (aq 1) aj) aa)) aj (aI _)) (ao b (ao b (aq 1) aj) aj) aj)))))))),?_)
 let(a,L,M,rfl,t,u,G):=B
 cases v with
 |is z=>
  nofun;let(p,m,J,o,rfl,c,d,y):=dP l;obtain rfl:=d.c8;obtain rfl:=y.cF;ac_rfl;walk_at "jd";calc d7 _ _ (.inr (bI.of c)) rfl ?_;walk_at "jd"
  try rw[if_pos ⋯]
  calc(_,_,.inr (bI.of c),rfl,q)
 |number i=>
  nofun;let(p,m,J,o,rfl,c,d,y):=dP l;obtain rfl:=d.c8;obtain rfl:=y.cF;let(j,rfl):=abI r.1;ac_rfl;have I:j<ns.length:=by have:=r.2;lia
  walk_at "jd";calc d7 _ _ (.inr (bI.of c)) rfl ?_;walk_at "jd"
  try rw[if_neg ⋯]
  left
  try rw[if_pos ⋯]
  calc(_,_,.inr (bI.of t),rfl,_,_,.inr (bI.of c),rfl,?_);calc(_,.int ns[j],u,aA (by rw[K',cJ I];rfl),?_);have e:uU ns k way g (.number j)=ns[j]:=by
   show ns.getD (j:Int).toNat 0=ns[j];simp[List.getD_eq_getElem?_getD,cJ I]
  rw[e]at q;calc q
 |oz=>
  nofun;let(p,m,o,rfl,c,d):=jK l;obtain rfl:=d.c8;ac_rfl;walk_at "jd";calc d7 _ _ (.inr (bI.of c)) rfl ?_;walk_at "jd"
  try rw[if_neg ⋯]
  left
  try rw[if_neg ⋯]
  left
  try rw[if_pos ⋯]
  calc q
 |way=>
  nofun;let(p,m,o,rfl,c,d):=jK l;obtain rfl:=d.c8;ac_rfl;walk_at "jd";calc d7 _ _ (.inr (bI.of c)) rfl ?_;walk_at "jd"
  try rw[if_neg ⋯]
  left
  try rw[if_neg ⋯]
  left
  try rw[if_neg ⋯]
  left
  try rw[if_pos ⋯]
  calc q
 |first=>
  nofun;let(p,m,o,rfl,c,d):=jK l;obtain rfl:=d.c8;ac_rfl;walk_at "jd";calc d7 _ _ (.inr (bI.of c)) rfl ?_;walk_at "jd"
  try rw[if_neg ⋯]
  left
  try rw[if_neg ⋯]
  left
  try rw[if_neg ⋯]
  left
  try rw[if_neg ⋯]
  calc d7 _ _ (.inr (bI.of t)) rfl ?_;refine bN _ (G.elim (λz=>.inl (_,z,rfl)) (λz=>.inr (_,z,rfl))) ?_
  cases k with
  |nil=>
   left;rw[if_neg nofun];calc q
  |cons r b=>
   left;rw[if_pos nofun];calc(_,_,.inr (bI.of t),rfl,_,_,G,aA (j:=0) rfl,q)
abbrev oO:Stmt:=top 42
inductive xW(K:W.Frag)(vs:List V)(H:Hp)(Q:VK):Prop
 |mk (x:_) (st:_) (way:_) (said:_) (m:_) (v:_) (ns:_) (row:_) (n:_) (h0:vs=[x,st,.int way,.int said,.int m]) (h1:HT H n x (Val.dv v)) (h2:AY K H st ns row) (h3:v.ok ns.length) (h4:0<m) (h5:Q (.int (uU ns row way said v%m)) H):xW K vs H Q
def BG(K:W.Frag):Sp:=λvs H Q _=>xW K vs H Q
theorem DS(D:cG K mg "worth_of" "worth_of" oO da)(T:Tx K mg C CN CR F FD)(j:Def P w K mg base "plain_worth" 1 fh (BE K)):Def P w K mg base "worth_of" 2 da (BG K):=by
 exists da;let(x,st,b,a,m,v,ns,c,n,rfl,d,e,g,i,q):=h;have k:=hr.units;calc(_,(ak (aG (aZ dI (aN j hr (ag (aq 0) (ag (aq 1) (ag (aq 2) (ag (aq 3) aa))))) (aq 4)))),?_);walk_at "jd";calc(x,st,b,a,v,ns,c,n,rfl,d,e,g,i,q)
abbrev mn:Stmt:=top 49
inductive VL(H:Hp)(n:Nat):List V->List Val->Prop
 |nil:VL H n [] []
 |cons {x v xs vs}:HT H n x (Val.dv v)->VL H n xs vs->VL H n (x::xs) (v::vs)
theorem VL.same(s:cw H H')(h:VL H n xs vs):VL H' n xs vs:=by
 induction h with
 |nil=>calc .nil
 |cons a _ b=>calc .cons (a.aL s) b
theorem VL.snoc(h:VL H n xs vs)(a:HT H n x v.dv):VL H n (xs++[x]) (vs++[v]):=by
 induction h with
 |nil=>calc .cons a .nil
 |cons a _ b=>calc .cons a b
theorem VL.len(h:VL H n xs vs):xs.length=vs.length:=by
 induction h with
 |nil=>rfl
 |cons _ _ a=>simp[a]
inductive PL(H:Hp)(n:Nat):List V->List (Option Val)->Prop
 |nil:PL H n [] []
 |str {w xs os}:PL H n xs os->PL H n (.str w::xs) (none::os)
 |int {i xs os}:PL H n xs os->PL H n (.int i::xs) (none::os)
 |val {x v xs os}:HT H n x (Val.dv v)->PL H n xs os->PL H n (x::xs) (some v::os)
theorem PL.get{b:List (Option Val)}(h:PL H n xs b):∀{i:Nat}{x:V},xs[i]?=some x->∃o,b[i]?=some o/\((o=none/\((∃w,x=.str w)\/∃j,x=.int j))\/∃v,o=some v/\HT H n x (Val.dv v)):=by
 induction h with
 |nil=>intro i x h;simp at h
 |str _ a=>
  intro i x h
  cases i with
  |zero=>cases h;calc(none,rfl,.inl (rfl,.inl (_,rfl)))
  |succ i=>calc a h
 |int _ a=>
  intro i x h
  cases i with
  |zero=>cases h;calc(none,rfl,.inl (rfl,.inr (_,rfl)))
  |succ i=>calc a h
 |val c _ a=>
  intro i x h
  cases i with
  |zero=>cases h;calc(some _,rfl,.inr (_,rfl,c))
  |succ i=>calc a h
theorem PL.len{a:List (Option Val)}(h:PL H n xs a):xs.length=a.length:=by
 induction h with
 |nil=>rfl
 |str _ a=>simp[a]
 |int _ a=>simp[a]
 |val _ _ a=>simp[a]
theorem Ft(h:HT H n x d.dv):∃a xs j b,x=.ref a/\H a=some (.tup xs)/\PL H b xs j/\j.filterMap id=d.vals/\xs.length<=4:=by
 cases d with
 |set i v=>
  nofun;let(a,k,l,m,b,rfl,c,e,f,g):=bV h;obtain rfl:=e.c8;obtain rfl:=f.cF;ac_rfl;calc(a,_,_,b,rfl,c,.str (.int (.val g .nil)),rfl,nofun)
 |add i v=>
  nofun;let(a,k,l,m,b,rfl,c,e,f,g):=bV h;obtain rfl:=e.c8;obtain rfl:=f.cF;ac_rfl;calc(a,_,_,b,rfl,c,.str (.int (.val g .nil)),rfl,nofun)
 |times i v=>
  nofun;let(a,k,l,m,b,rfl,c,e,f,g):=bV h;obtain rfl:=e.c8;obtain rfl:=f.cF;ac_rfl;calc(a,_,_,b,rfl,c,.str (.int (.val g .nil)),rfl,nofun)
 |put v=>
  nofun;let(a,k,l,b,rfl,c,e,f):=dP h;obtain rfl:=e.c8;ac_rfl;calc(a,_,_,b,rfl,c,.str (.val f .nil),rfl,nofun)
 |drop=>
  nofun;let(a,k,b,rfl,c,e):=jK h;obtain rfl:=e.c8;ac_rfl;calc(a,_,_,b,rfl,c,.str (.nil),rfl,nofun)
 |send j v=>
  nofun;let(a,k,l,m,b,rfl,c,e,f,g):=bV h;obtain rfl:=e.c8;obtain rfl:=f.cF;ac_rfl;calc(a,_,_,b,rfl,c,.str (.int (.val g .nil)),rfl,nofun)
 |say v=>
  nofun;let(a,k,l,b,rfl,c,e,f):=dP h;obtain rfl:=e.c8;ac_rfl;calc(a,_,_,b,rfl,c,.str (.val f .nil),rfl,nofun)
 |skip v i j=>
  nofun;let(a,k,l,m,p,b,rfl,c,e,f,g,o):=qc h;obtain rfl:=e.c8;obtain rfl:=o.cF;ac_rfl;calc(a,_,_,b,rfl,c,.str (.val f (.val g (.int .nil))),rfl,nofun)
inductive BH(vs:List V)(H:Hp)(Q:VK):Prop
 |mk (x:_) (n:_) (d:_) (h0:vs=[x]) (h1:HT H n x (bF.dv d)) (h2:∀l zs k0 H',au H H'->H l=none->H' l=some (.lst zs)->VL H' k0 zs d.vals->Q (.ref l) H'):BH vs H Q
def Fu:Sp:=λvs H Q _=>BH vs H Q
theorem BI(D:cG K mg "values_of" "values_of" mn ["deed"])(T:Tx K mg C CN CR F FD):Def P w K mg base "values_of" 1 ["deed"] Fu:=by
 exists["deed"];let(x,n,d,rfl,I,q):=h;have hu:=hr.units;calc(_,(ak (aG (dy (N':=["part"]) (ix:=[none]) (bR (pv 0)) (λ_ _ _ _=>(aT (i:=0) (iw ["part"]) rfl Sort)) (λ_ _ _ _=>(jx (bA (aX (nv (K:=K) rfl) rfl T.bb ug (ag (aq 0) (ag (cV (v:=.ty "tuple") rfl T.b8 sM rfl) aa)))))) (λ_ _ _ _=>(aq 0))))),?_);let(a,k,u,L,rfl,p,M,U,T):=Ft I;left;calc bJ ?_;left;calc .inr ((_,bI.of p),λD y=>?_);refine bu (J:=Xi K a) (n:=k.length) (λi ys H'=>au H H'/\VL H' L ys ((u.take i).filterMap id)) (T' (aD ())) (au.new _ y,.nil) ?_ ?_ ?_ ?_
 .rintro i ys H' z ⟨g,_⟩;exact(k,k[i],bI.of (g _ _ p),cJ z)
 .rintro ys H' ⟨g,_⟩;exact(k,bI.of (g _ _ p),S' _)
 .intro i ys H' z l N X x r Y;nofun;let(g,m):=X;let(rfl,n):=Y;have I:=n k (bI.of (g _ _ p));let(o,T,Z):=M.get I;ac_rfl;have O:u.take (i+1)=u.take i++[o]:=by
   rw[acF,T];rfl
  calc(Ext.set (Ext.refl _) rfl,?_);left;rcases Z with⟨rfl,hc⟩|⟨v,rfl,B⟩
  .have G:∃t,iq K r x t/\W.kitOne K t (.type "tuple")=some false:=by
    rcases hc with⟨w,rfl⟩|⟨j,rfl⟩
    .exact(_,.str w,rfl)
    .exact(_,.int j,rfl)
   let(t,i,j):=G;refine d7 t false i j ?_
   first|calc(false,rfl,?_)|skip
   left
   try rw[if_neg X']
   exact(ys,l,(),g,by rw[O];simpa using m)
  .have R:=B.aL g.aR;let(b,zs,rfl,i):=EZ R;refine d7 _ true (.tup i) rfl ?_
   first|calc(true,rfl,?_)|skip
   left
   try first|rw[if_pos rfl]|rw[if_pos trivial]
   calc b4 l N z (T' (aD ())) (λc o e=>by rw[ay (av e y)];calc g _ _ e,?_);rw[O,List.filterMap_append];have S:cw r (upd r D (.lst (ys++[.ref b]))):=(cw.refl r).upd λzs e=>by rw[l]at e;cases e
   exact(m.same S).snoc (R.aL S)
 .rintro ys H' l N ⟨g,m⟩;rw[M.len,aaP,U]at m;calc q _ ys L _ g y l m
theorem zk(f:HT H n x d.dv):∃a ps,x=.ref a/\H a=some (.tup (.str d.word::ps)):=by
  cases d with
  |drop=>
    let(g,h,i,b,c,e):=jK f;obtain rfl:=e.c8;calc(_,_,b,c)
  |skip v n o=>
    let(g,h,j,l,n,i,b,c,e,k,m,o):=qc f;obtain rfl:=e.c8;calc(_,_,b,c)
  |_=>
    first
    | (let(g,h,j,l,i,b,c,e,k,m):=bV f
       obtain rfl:=e.c8;calc(_,_,b,c))
    | (let(g,h,j,i,b,c,e,k):=dP f
       obtain rfl:=e.c8;calc(_,_,b,c))
theorem LW(e:d.word="put"):d.vals.length=1/\∀a x,p9 a x d=if a.length<12 then a++[x] else a:=by
 cases d<;>first|calc absurd e (by simp only[bF.word];decide)|calc(rfl,λ_ _=>rfl)
theorem HM(e:d.word="drop"):∀a x,p9 a x d=a.tail:=by
 cases d<;>first|calc absurd e (by simp only[bF.word];decide)|calc λ_ _=>rfl
theorem LX(e:¬d.word="put")(b:¬d.word="drop"):∀a x,p9 a x d=a:=by
 cases d<;>first|calc λ_ _=>rfl|calc absurd rfl e|calc absurd rfl b
theorem HN(b:HT H n (.ref a) d.dv)(e:d.word="skip"):∃u v k,H a=some (.tup [.str "skip",u,v,.int k])/\d.vals.length=2/\∀x y,qa x y d=if x<y then k else 0:=by
 cases d<;>first|calc absurd e (by simp only[bF.word];decide)|skip
 let(i,j,k,l,m,n,c,f,g,o,p,h):=qc b;obtain rfl:=V.ref.inj c;obtain rfl:=g.c8;obtain rfl:=h.cF;calc(_,_,_,f,rfl,λ_ _=>rfl)
theorem BK(e:¬d.word="skip"):∀x y,qa x y d=0:=by
 cases d<;>first|calc λ_ _=>rfl|calc absurd rfl e
theorem mq(h:k<n):Dc n (k:Int)=some k:=by
 unfold Dc;rw[if_pos (),if_pos ()];simp
theorem i8{ws:List Int}(h:j<ws.length):hV (ws.map V.int) ((j:Nat):Int)=some (.int (ws.getD j 0)):=aA (by rw[K',aP (d:=0) h];rfl)
theorem Fv{l:List Int}(h:∀z∈l,0<=z/\z<M)(a:j<l.length):0<=l.getD j 0/\l.getD j 0<M:=h _ (DD.getD_mem a)
noncomputable def vB(M:Int)(ns a:List Int)(x y:Int)(d:bF):List Int×List Int×List (Int×Int)×List Int×Int:=((kq M ns x d),p9 a x d,iV x d,gG x d,qa x y d)
inductive aaf(H:Hp)(a:Addr)(m:Int)(d:bF):Prop
 |set (j:Nat) (u:V) (hj:(j:Int)<m) (h:H a=some (.tup [.str "set",.int j,u])) (hl:d.vals.length=1) (e:∀M ns row x y,vB M ns row x y d=((ns.set j x),row,[],[],0))
 |add (j:Nat) (u:V) (hj:(j:Int)<m) (h:H a=some (.tup [.str "add",.int j,u])) (hl:d.vals.length=1) (e:∀M ns row x y,vB M ns row x y d=((ns.set j ((ns.getD j 0+x)%M)),row,[],[],0))
 |times (j:Nat) (u:V) (hj:(j:Int)<m) (h:H a=some (.tup [.str "times",.int j,u])) (hl:d.vals.length=1) (e:∀M ns row x y,vB M ns row x y d=((ns.set j ((ns.getD j 0*x)%M)),row,[],[],0))
 |put (u:V) (h:H a=some (.tup [.str "put",u])) (hl:d.vals.length=1) (e:∀M ns row x y,vB M ns row x y d=((ns),if row.length<12 then row++[x] else row,[],[],0))
 |drop (h:H a=some (.tup [.str "drop"])) (e:∀M ns row x y,vB M ns row x y d=((ns),row.tail,[],[],0))
 |send (j:Int) (u:V) (h:H a=some (.tup [.str "send",.int j,u])) (hl:d.vals.length=1) (e:∀M ns row x y,vB M ns row x y d=((ns),row,[((j),x)],[],0))
 |say (u:V) (h:H a=some (.tup [.str "say",u])) (hl:d.vals.length=1) (e:∀M ns row x y,vB M ns row x y d=((ns),row,[],[x],0))
 |skip (u v:V) (k:Nat) (h:H a=some (.tup [.str "skip",u,v,.int k])) (hl:d.vals.length=2) (e:∀M ns row x y,vB M ns row x y d=((ns),row,[],[],if x<y then(k:Int) else 0))
theorem xX{H:Hp}{n:Nat}{a:Addr}{d:bF}{m:Int}(k:HT H n (.ref a) d.dv)(l:d.ok m):aaf H a m d:=by
 cases d with
 |set i v=>
  let(o,p,g,h,q,b,c,e,f,s):=bV k;obtain rfl:=V.ref.inj b;obtain rfl:=e.c8;obtain rfl:=f.cF;let(r,rfl):=abI l.1;calc .set r h l.2.1 c rfl λ_ _ _ _ _=>rfl
 |add i v=>
  let(o,p,g,h,q,b,c,e,f,s):=bV k;obtain rfl:=V.ref.inj b;obtain rfl:=e.c8;obtain rfl:=f.cF;let(r,rfl):=abI l.1;calc .add r h l.2.1 c rfl λ_ _ _ _ _=>rfl
 |times i v=>
  let(o,p,g,h,q,b,c,e,f,s):=bV k;obtain rfl:=V.ref.inj b;obtain rfl:=e.c8;obtain rfl:=f.cF;let(r,rfl):=abI l.1;calc .times r h l.2.1 c rfl λ_ _ _ _ _=>rfl
 |put v=>
  let(o,p,g,q,b,c,e,f):=dP k;obtain rfl:=V.ref.inj b;obtain rfl:=e.c8;calc .put g c rfl λ_ _ _ _ _=>rfl
 |drop=>
  let(o,p,q,b,c,e):=jK k;obtain rfl:=V.ref.inj b;obtain rfl:=e.c8;calc .drop c λ_ _ _ _ _=>rfl
 |send j v=>
  let(o,p,g,h,q,b,c,e,f,s):=bV k;obtain rfl:=V.ref.inj b;obtain rfl:=e.c8;obtain rfl:=f.cF;calc .send j h c rfl λ_ _ _ _ _=>rfl
 |say v=>
  let(o,p,g,q,b,c,e,f):=dP k;obtain rfl:=V.ref.inj b;obtain rfl:=e.c8;calc .say g c rfl λ_ _ _ _ _=>rfl
 |skip v i j=>
  let(o,p,g,h,i,q,b,c,e,f,s,t):=qc k;obtain rfl:=V.ref.inj b;obtain rfl:=e.c8;obtain rfl:=t.cF;let(r,rfl):=abI (Int.le_trans ∅ l.2.2.1);calc .skip g h r c rfl λ_ _ _ _ _=>rfl
abbrev gL:Stmt:=top 57
inductive Fw(vs:List V)(H:Hp)(Q:VK):Prop
 |mk (an:Addr) (x:V) (l:Addr) (ns ws:List Int) (M:Int) (n:Nat) (d:bF) (h0:vs=[.ref an,x,.ref l,.int M]) (h1:H an=some (.lst (ns.map V.int))) (h2:HT H n x d.dv) (h3:H l=some (.lst (ws.map V.int))) (h4:ws.length=d.vals.length) (h5:d.ok ns.length) (h6:0<M) (h7:M<=1000000000000) (h8:(∀z∈ns,0<=z/\z<M)) (h9:∀H',H' an=some (.lst ((kq M ns (ws.getD 0 0) d).map V.int))->(∀b o,b≠an->H b=some o->H' b=some o)->Q .bL H'):Fw vs H Q
def LY:Sp:=λvs H Q _=>Fw vs H Q
theorem rE(D:cG K mg "change_numbers" "change_numbers" gL dh)(T:Tx K mg C CN CR F FD):Def P w K mg base "change_numbers" 1 dh LY:=by
 exists dh;let(o,x,l,ns,ws,M,n,d,rfl,p,v,y,R,z,B,S,G,q):=h;have g:=hr.units;calc(_,(ak (aW (aC (bg g) (ao g (aq 1) aj) aH (aI _)) (ak (dS (ao g (aq 2) aj) (iS (aq 0) (ao g (aq 1) aj) dU))) (ak (aW (aC (bg g) (ao g (aq 1) aj) aH (aI _)) (ak (dS (aZ dI (aZ cB (ao g (aq 0) (ao g (aq 1) aj)) (ao g (aq 2) aj)) (aq 3)) (iS (aq 0) (ao g (aq 1) aj) dU))) (ak (aW (aC (bg g) (ao g (aq 1) aj) aH (aI _)) (ak (dS (aZ dI (aZ nr (ao g (aq 0) (ao g (aq 1) aj)) (ao g (aq 2) aj)) (aq 3)) (iS (aq 0) (ao g (aq 1) aj) dU))) aK)))))),?_);nofun;let(a,ps,rfl,i):=zk v;have U:=xX v z;have I:∀c:Nat,((c:Nat):Int) < ns.length->Dc (ns.map V.int).length ((c:Nat):Int)=some c/\hV (ns.map V.int) ((c:Nat):Int)=some (.int (ns.getD c 0))/\0<=ns.getD c 0/\ns.getD c 0 < M:=λc k=>(mq (by rw[V'];lia),i8 (),Fv G ())
 have J:∀c y,kq M ns (ws.getD 0 0) d=ns.set c y->Q .bL (upd H o (.lst ((ns.map V.int).set c (.int y)))):=λc y E=>q _ (by rw[af,E,List.map_set]) λb o g e=>by rw[ay g];exact e
 have r:kq M ns (ws.getD 0 0) d=ns->Q .bL H:=λE=>q H (by rw[E];calc p) λ_ _ _ e=>e;calc hZ ?_;clear hZ gZ v z i G q
 cases U with
 |set c u k i m E=>
  have L:=i8 (ws:=ws) (j:=0) ();let(t,N,O):=I c k;walk_at "jg";calc d7 _ c p t (J _ _ (congrArg Prod.fst (E M ns [] (ws.getD 0 0) 0)))
 |add c u k i m E=>
  have L:=i8 (ws:=ws) (j:=0) ();let(t,N,O):=I c k;walk_at "jg";calc(B,?_);walk_at "jg";calc d7 _ c p t (J _ _ (congrArg Prod.fst (E M ns [] (ws.getD 0 0) 0)))
 |times c u k i m E=>
  have L:=i8 (ws:=ws) (j:=0) ();let(t,N,O):=I c k;walk_at "jg";calc ie (.inl ((),())) B ?_;walk_at "jg";calc d7 _ c p t (J _ _ (congrArg Prod.fst (E M ns [] (ws.getD 0 0) 0)))
 |put u i m E=>walk_at "jg";calc r (congrArg Prod.fst (E M ns [] (ws.getD 0 0) 0))
 |drop i E=>walk_at "jg";calc r (congrArg Prod.fst (E M ns [] (ws.getD 0 0) 0))
 |send j u i m E=>walk_at "jg";calc r (congrArg Prod.fst (E M ns [] (ws.getD 0 0) 0))
 |say u i m E=>walk_at "jg";calc r (congrArg Prod.fst (E M ns [] (ws.getD 0 0) 0))
 |skip u v k i m E=>walk_at "jg";calc r (congrArg Prod.fst (E M ns [] (ws.getD 0 0) 0))
abbrev kR:Stmt:=top 58
inductive Fy(vs:List V)(H:Hp)(Q:VK):Prop
 |mk (an:Addr) (x:V) (l:Addr) (row ws:List Int) (n:Nat) (d:bF) (h0:vs=[.ref an,x,.ref l]) (h1:H an=some (.lst (row.map V.int))) (h2:HT H n x d.dv) (h3:H l=some (.lst (ws.map V.int))) (h4:ws.length=d.vals.length) (h5:row.length<=12) (h6:∀H',H' an=some (.lst ((p9 row (ws.getD 0 0) d).map V.int))->(∀b o,b≠an->H b=some o->H' b=some o)->Q .bL H'):Fy vs H Q
def LZ:Sp:=λvs H Q _=>Fy vs H Q
theorem zm(D:cG K mg "change_row" "change_row" kR fy)(T:Tx K mg C CN CR F FD):Def P w K mg base "change_row" 1 fy LZ:=by
 exists fy;let(G,x,l,g,ws,n,d,rfl,c,r,I,B,i,q):=h;have k:=hr.units;calc(_,(ak (aW (PW.pt (pw_and (aC (bg k) (ao k (aq 1) aj) aH (aI _)) (pw_and1 (aC gr (aX aM rfl T.bO Y' (ag (aq 0) aa)) (gu T.fW rfl) (aI _))))) (ak (bX (dw pP sF sL cj (aq 0) (ag (ao k (aq 2) aj) aa)))) (ak (aW (PW.pt (pw_and (aC (bg k) (ao k (aq 1) aj) aH (aI _)) (pw_and1 (aC kK (aX aM rfl T.bO Y' (ag (aq 0) aa)) aj (aI _))))) (ak (Pp (aq 0) aj)) aK)))),?_);let(a,ps,rfl,u):=zk r;by_cases m:d.word="put"
 .let(i,v):=LW m;rw[m] at u;have i:=i8 (ws:=ws) (j:=0) ();rw[v] at q;walk_at "jg";calc bN _ (.inl (_,aS.of c,rfl)) ?_;rw[V'];by_cases p:g.length < 12
  .rw[if_pos p]at q;left;rw[if_pos (by simp;lia)];walk_at "jg";calc(.inl (rfl,_,aS.of c),?_);walk_at "jg";calc iy _ c (abY (by simp;lia) (aD (n:=100) ())) ?_;exact q _ (by rw[af,aah];rfl) λb o y e=>by rw[ay y];exact e
  .rw[if_neg p]at q;left;rw[if_neg (by simp;lia)];walk_at "jg";exact q H c λ_ _ _ e=>e
 by_cases t:d.word="drop"
 .rw[t] at u;rw[HM t] at q;walk_at "jg";calc bN _ (.inl (_,aS.of c,rfl)) ?_;clear m t r B
  cases g with
  |nil=>
   left
   try rw[if_neg nofun]
   calc q H c λ_ _ _ e=>e
  |cons r g=>
   left;rw[if_pos nofun];walk_at "jg";calc afk _ _ _ 0 rfl rfl c ∅ ∅ (by simp[seqIndex?]) ?_;exact q _ af λb o y e=>by rw[ay y];exact e
 .rw[LX m t]at q;left;calc cL u (aA (j:=0) rfl) ?_;left;rw[if_neg λz=>m (aaU z)];left;calc cL u (aA (j:=0) rfl) ?_;left;rw[if_neg λz=>t (aaU z)];left;calc q H c λ_ _ _ e=>e
abbrev oP:Stmt:=top 59
inductive BL(vs:List V)(H:Hp)(Q:VK):Prop
 |mk (x:V) (l:Addr) (ws:List Int) (n:Nat) (d:bF) (h0:vs=[x,.ref l]) (h1:HT H n x d.dv) (h2:H l=some (.lst (ws.map V.int))) (h3:ws.length=d.vals.length) (h4:Q (.int (qa (ws.getD 0 0) (ws.getD 1 0) d)) H):BL vs H Q
def Fz:Sp:=λvs H Q _=>BL vs H Q
theorem DU(D:cG K mg "left_out" "left_out" oP hY)(T:Tx K mg C CN CR F FD):Def P w K mg base "left_out" 1 hY Fz:=by
 exists hY;let(x,l,ws,n,d,rfl,c,b,i,q):=h;have b:=hr.units;refine(_,(ai (aW (PW.pt (pw_and (aC (bg b) (ao b (aq 0) aj) aH (aI _)) (pw_and1 (aC gr (ao b (aq 1) aj) (ao b (aq 1) aj) (aI _))))) (ak (aG (ao b (aq 0) aj))) aK)
  (ak (aG aj))),?_)
 let(a,ps,rfl,k):=zk c;by_cases e:d.word="skip"
 .let(u,v,b,k,l,m):=HN c e;rw[m] at q;have b:=i8 (ws:=ws) (j:=0) ();have b:=i8 (ws:=ws) (j:=1) ();clear c i m e;walk_at "jg";by_cases g:ws.getD 0 0 < ws.getD 1 0
  .rw[if_pos g]at q;left;rw[if_pos (aaC g)];walk_at "jg";exact q
  .rw[if_neg g]at q;left;rw[if_neg λz=>g (aaU z)];left;exact q
 .rw[BK e]at q;left;calc cL k (aA (j:=0) rfl) ?_;left;rw[if_neg λz=>e (aaU z)];left;calc q
theorem L3{d:TT}{f:TS}{D:Ends}(e:St->Hp->Prop)(μ:St->Nat)(h:e σ H)(i:∀σ H,e σ H->d σ H λb H1=>if b=true then ∃N:St->Hp->Prop,(∀a H',N a H'->e a H'/\μ a<μ σ)/\f {D with nx:=N,ct:=N,bk:=D.nx} σ H1 else D.nx σ H1)(c:∀σ H (Q g:Bool->Hp->Prop),(∀b H1,Q b H1->g b H1)->d σ H Q->d σ H g):yx d f D σ H:=by
 calc(λm σ H=>m=μ σ/\e σ H,(_,rfl,h),?_);rintro m σ H ⟨rfl,p⟩;refine c σ H _ _ (λb H1 q=>?_) (i σ H p)
 cases b with
 |true=>
  let(N,c,d):=q;calc(N,λa H' n=>(_,(c a H' n).2,rfl,(c a H' n).1),d)
 |false=>calc q
def SL(H:Hp)(a:List V)(ps:jr):Prop:=a.length=ps.length/\∀(i:Nat) z p,a[i]?=some z->ps[i]?=some p->HT H 1 z (.tup [.int p.1,.int p.2])
theorem SL.aL(s:cw H H'){a:List V}{ps:jr}(h:SL H a ps):SL H' a ps:=(h.1,λi z p a b=>(h.2 i z p a b).aL s)
theorem SL.snoc{c:List V}{ps:jr}{w:Int}(h:SL H c ps)(f:HT H 1 z (.tup [.int j,.int w])):SL H (c++[z]) (ps++[((j),w)]):=by
 calc(by simp[h.1],λi g p a b=>?_);by_cases d:i<c.length
 .rw[aag d]at a;rw[aag (by rw[<-h.1];calc d)]at b;exact h.2 i g p a b
 .rw[aad ()] at a;rw[aad (by rw[<-h.1];lia)] at b;rw[h.1] at a
  cases e:i-ps.length with
  |zero=>rw[e]at a b;cases a;cases b;calc f
  |succ k=>rw[e]at a;simp at a
structure Res(H H':Hp)(x:V)(s:WS):Prop where
 ex:∃p st l1 l2 zs,x=.ref p/\H' p=some (.tup [st,.ref l1,.ref l2])/\HT H' 2 st (AW s.ns s.row)/\H' l1=some (.lst zs)/\SL H' zs s.cM/\H' l2=some (.lst (s.words.map V.int))/\H l1=none/\H l2=none/\l1≠l2
theorem FA{w:Int}(e:0<M)(b:∀z∈ns,0<=z/\z<M)(f:0<=w/\w<M):∀z∈kq M ns w d,0<=z/\z<M:=by
 have a:∀(j:Nat) (y:Int),(0<=y/\y<M)->∀z∈ns.set j y,0<=z/\z<M:=λj y g z i=>by
  rcases List.mem_or_eq_of_mem_set i with h|h
  .exact b z h
  .rw[h];exact g
 have c:∀y:Int,0<=y%M/\y%M<M:=λy=>(aby _ (),abF _ e)
 cases d with
 |set i v=>calc a _ _ f
 |add i v=>calc a _ _ (c _)
 |times i v=>calc a _ _ (c _)
 |_=>calc b
theorem L4{w:Int}{a:List Int}(h:a.length<=12):(p9 a w d).length<=12:=by
 cases d with
 |put v=>
  show(if a.length<12 then a++[w] else a).length<=12;split
  .simp;lia
  .calc h
 |drop=>show a.tail.length<=12;simp;lia
 |_=>calc h
theorem L5{m w w':Int}{d:bF}(h:d.ok m):0<=qa w w' d:=by
 cases d with
 |skip v u k=>
  show 0<=(if w<w' then k else 0)
  split
  .exact Int.le_trans ∅ h.2.2.1
  .calc Int.le_refl _
 |_=>calc Int.le_refl _
theorem qp{d:bF}{m:Int}(h:d.ok m):∀v∈d.vals,v.ok m:=by
 intro v a
 cases d<;>simp only[bF.vals,List.mem_cons,List.not_mem_nil,or_false]at a
 case set=>subst a;exact h.2.2
 case add=>subst a;exact h.2.2
 case times=>subst a;exact h.2.2
 case put=>subst a;exact h
 case send=>subst a;exact h.2
 case say=>subst a;exact h
 case skip=>rcases a with rfl|rfl;calc h.1;calc h.2.1
theorem VL.get(h:VL H n xs vs):∀{i:Nat}{x:V},xs[i]?=some x->∃v,vs[i]?=some v/\HT H n x (Val.dv v):=by
 induction h with
 |nil=>intro i x h;simp at h
 |cons a _ b=>
  intro i x h
  cases i with
  |zero=>cases h;calc(_,rfl,a)
  |succ i=>calc b h
theorem BM:d.vals.length<=2:=by cases d<;>simp[bF.vals]
theorem xY{a:List Int}{vs:List Val}(b:0<M):0<=(vs.map (gv M way said ns a)).getD i 0/\(vs.map (gv M way said ns a)).getD i 0<M:=by
 rw[W',K']
 cases vs[i]? with
 |none=>calc(Int.le_refl _,b)
 |some v=>calc(aby _ (),abF _ b)
theorem sk1(h:0<=k):(a:Int)+(1+k)=((a+1+k.toNat:Nat):Int):=by lia
theorem sk2{α:Type}{x:α}{xs:List α}{f:Nat}(h:(x::xs.drop (a+1)).length<=f+1):(xs.drop (a+1+k)).length<=f:=by
 rw[List.length_drop];rw[abw,List.length_drop]at h;lia
theorem sk3(b:a<n)(h:0<=k):n-((a:Int)+(1+k)).toNat<n-a:=by lia
theorem Qq{w:Int}(h:HT H n (.ref a) d.dv)(e:d.word="send"):∃j u,H a=some (.tup [.str "send",.int j,u])/\iV w d=[((j),w)]/\gG w d=[]/\d.vals.length=1:=by
 cases d<;>first|calc absurd e (by simp only[bF.word];decide)|skip
 let(g,i,j,k,l,z,b,c,f,m):=bV h;obtain rfl:=L2.V.ref.inj z;obtain rfl:=f.cF;obtain rfl:=c.c8;calc(_,_,b,rfl,rfl,rfl)
theorem VM{w:Int}(e:d.word="say"):gG w d=[w]/\d.vals.length=1:=by
 cases d<;>first|calc absurd e (by simp only[bF.word];decide)|calc(rfl,rfl)
theorem BN{w:Int}:(iV w d).length<=1/\(gG w d).length<=1:=by cases d<;>simp[iV,gG]
theorem Qr{w:Int}(e:¬d.word="send"):iV w d=[]:=by cases d<;>first|rfl|calc absurd rfl e
theorem L6{w:Int}(e:¬d.word="say"):gG w d=[]:=by cases d<;>first|rfl|calc absurd rfl e
theorem BO{l:List Int}(h:0<l.length):l[0]?=some (l.getD 0 0):=by
 cases l with
 |nil=>simp at h
 |cons a r=>rfl
noncomputable abbrev gM:Stmt:=(cA (top 60)).getD 4 (.Pass (0,0,0,0))
noncomputable def muW(n:Nat)(σ:St):Nat:=match σ[8]? with
 |some (some (V.int i))=>n-i.toNat
 |_=>0
inductive vC(K:W.Frag)(C:Addr)(vs:List V)(H:Hp)(Q:VK):Prop
 |mk (m:Addr) (st:V) (way said M:Int) (ns0 Hn:List Int) (ds:List bF) (ns row:List Int) (h0:vs=[.ref m,st,.int way,.int said]) (h1:i3 C H m M ns0 Hn ds) (h2:AY K H st ns row) (h3:2<=M) (h4:M<=1000000000000) (h5:(∀z∈ns,0<=z/\z<M)) (h6:row.length<=12) (h7:ds.length<=24) (h8:(∀d∈ds,d.ok ns.length)) (h9:∀x H',au H H'->Res H H' x (qb M way said ds ns row)->Q x H'):vC K C vs H Q
def xZ(K:W.Frag)(C:Addr):Sp:=λvs H Q _=>vC K C vs H Q
inductive VN(H:Hp)(m:Addr)(st:V)(way said M:Int)(ds:List bF)(ns row:List Int)(σ:St)(H':Hp):Prop
 |mk (an ar iJ aw:Addr) (zs:List V) (z9 VO:Option V) (at_:Nat) (s:WS) (f:Nat) (h0:σ=[some (.ref m),some st,some (.int way),some (.int said),some (.ref an),some (.ref ar),some (.ref iJ),some (.ref aw),some (.int at_),z9,VO]) (h1:au H H') (h2:H an=none) (h3:H ar=none) (h4:H iJ=none) (h5:H aw=none) (h6:an≠ar) (h7:an≠iJ) (h8:an≠aw) (h9:ar≠iJ) (XE:ar≠aw) (h11:iJ≠aw) (h12:H' an=some (.lst (s.ns.map V.int))) (h13:H' ar=some (.lst (s.row.map V.int))) (h14:H' iJ=some (.lst zs)) (h15:SL H' zs s.cM) (h16:H' aw=some (.lst (s.words.map V.int))) (h17:s.ns.length=ns.length) (h18:(∀z∈s.ns,0<=z/\z<M)) (h19:s.row.length<=12) (h20:s.cM.length<=at_) (h21:s.words.length<=at_) (h22:AX M way said f (ds.drop at_) s=qb M way said ds ns row) (h23:(ds.drop at_).length<=f):VN H m st way said M ds ns row σ H'
theorem rF(D:iM K C "worked" "Machine.worked" gM fw)(T:Tx K mg C CN CR F FD)(gN:Def P w K mg base "change_numbers" 1 dh LY)(kS:Def P w K mg base "change_row" 1 fy LZ)(oQ:Def P w K mg base "left_out" 1 hY Fz)(mr:Def P w K mg base "values_of" 1 ["deed"] Fu)(oR:Def P w K mg base "worth_of" 2 da (BG K)):cn P w K mg base C "worked" 3 fw (xZ K C):=by
  exists["self","state","way","said","numbers","row","sent","words","at","deed","worths"];let(m,st,k,c,M,ns0,Hn,t,ns,row,rfl,hm,pQ,HH,rm,hb,ql,R6,aY,q):=h;have S:=hr.units;refine(_,(ai (bf (i:=4) sc rfl Sort (dz cK rfl T.fJ oh (ag (ao S (aq 1) aj) aa)))
    (ai (bf (i:=5) sc rfl Sort (dz cK rfl T.fJ oh (ag (ao S (aq 1) aj) aa)))
    (ai (bf (i:=6) sc rfl Sort (bE aa))
    (ai (bf (i:=7) sc rfl Sort (bE aa))
    (ai (bf (i:=8) sc rfl Sort aj)
    (ai (Jn PassesOwn.never (Ew gr (pv 8) (aX aM rfl T.bO Y' (ag (bP (pv 0) rfl) aa)) (aI _))
    (ai (bf (i:=9) sc rfl Sort (ao S (bP (aq 0) rfl) (aq 8)))
    (ai (fC (i:=10) sc rfl Sort (N':=["value","way","said","numbers","row","self"]) (ix:=[none,some 2,some 3,some 4,some 5,some 0]) (bR (aN mr hr (ag (aq 9) aa))) (λ_ _ _ _=>(aT (i:=0) (iw ["value","way","said","numbers","row","self"]) rfl Sort)) nJ (λ_ _ _ _=>(aN oR hr (ag (aq 0) (ag (bD (ag (aq 3) (ag (aq 4) aa))) (ag (aq 1) (ag (aq 2) (ag (Pt (K:=K) rfl (aq 5) rfl) aa))))))))
    (ai (bX (aN gN hr (ag (aq 4) (ag (aq 9) (ag (aq 10) (ag (bP (aq 0) rfl) aa))))))
    (ai (bX (aN kS hr (ag (aq 5) (ag (aq 9) (ag (aq 10) aa)))))
    (ai (aW (aC (bg S) (ao S (aq 9) aj) aH (aI _)) (ak (bX (dw pP sF sL cj (aq 6) (ag (bD (ag (ao S (aq 9) aj) (ag (ao S (aq 10) aj) aa))) aa)))) (ak (aW (aC (bg S) (ao S (aq 9) aj) aH (aI _)) (ak (bX (dw pP sF sL cj (aq 7) (ag (ao S (aq 10) aj) aa)))) aK)))
    (ak (TZ (i:=8) sc rfl Sort (aZ cB aj (aN oQ hr (ag (aq 9) (ag (aq 10) aa)))) T3))))))))
    (ak (aG (bD (ag (bD (ag (dz bU rfl T.b8 sM (ag (aq 4) aa)) (ag (dz bU rfl T.b8 sM (ag (aq 5) aa)) aa))) (ag (aq 6) (ag (aq 7) aa)))))))))))),?_)
  nofun;let(dx,stm,dd,Of,hm2,hm3):=hm;let(ad,xs,rfl,had,wH):=Z5 hm3;let(sa,sb,sc',rfl,hsa,hsb,hsc):=pQ;ac_rfl;left;calc d7 _ _ (.inr (bI.of hsa)) rfl ?_;left;calc bN _ hsb (λB VP=>?_);have s1:=au.new (.lst (ns.map V.int)) VP;left;calc d7 _ _ (.inr (bI.of (s1 _ _ hsa))) rfl ?_;left;have VQ:aS K (upd H B (.lst (ns.map V.int))) sc' (row.map V.int)\/bI K (upd H B (.lst (ns.map V.int))) sc' (row.map V.int):=hsc.elim (λz=>.inl (s1.seq z)) (λz=>.inr (s1.Xv z));calc bN _ VQ (λI DB=>?_);have U:=au.new (.lst (row.map V.int)) DB;left;calc(aam _,λu rG=>?_);have r:=au.new (.lst []) rG;left;calc(aam _,λG nR=>?_);have Y:=au.new (.lst []) nR;left;have nra:I≠B:=λz=>by subst z;rw[af]at DB;cases DB
  have hrH:H I=none:=s1.free DB;have hsH:H u=none:=(s1.trans U).free rG;have hwH:H G=none:=(s1.trans (U.trans r)).free nR;have nsa:u≠B:=λz=>by subst z;rw[U _ _ af]at rG;cases rG
  have nsr:u≠I:=λz=>by subst z;rw[af]at rG;cases rG
  have nwa:G≠B:=λz=>by subst z;rw[r _ _ (U _ _ af)]at nR;cases nR
  have nwr:G≠I:=λz=>by subst z;rw[r _ _ af]at nR;cases nR
  have nws:G≠u:=λz=>by subst z;rw[af]at nR;cases nR
  have DW:=s1.trans (U.trans (r.trans Y));have Oi:0<M:=();refine L3 (VN H m (.ref sa) k c M t ns row) (muW t.length) ?_ ?_ ?_
  . refine(B,I,u,G,[],none,none,0,(ns,row,[],[]),t.length,rfl,DW,VP,hrH,hsH,hwH,Ne.symm nra,Ne.symm nsa,Ne.symm nwa,Ne.symm nsr,Ne.symm nwr,Ne.symm nws,Y _ _ (r _ _ (U _ _ af)),Y _ _ (r _ _ af),Y _ _ af,(rfl,λi z p e=>by simp at e),af,rfl,hb,ql,S' _,S' _,rfl,S' _)
  . intro σ H1 iz;let(B,I,u,G,zs,z9,VO,g,s,f,rfl,sH,a1,a2,a3,a4,n1,n2,n3,n4,n5,n6,e1,e2,e3,FC,e5,Oj,Ol,BP,L7,hwn,W,HQ):=iz;have Qs:=sH _ _ Of;have aaj:=sH _ _ had;have af0:=wH.aL sH.aR;left;calc gn Qs T.cX T.R4 Z4 ?_;left;calc bN _ (.inr (_,bI.of aaj,rfl)) ?_;by_cases iN:g < t.length
    . have N:g < xs.length:=by rw[wH.1];exact iN
      left;rw[if_pos (N:)];calc(λσ' H'=>VN H m (.ref sa) k c M t ns row σ' H'/\muW t.length σ'<t.length-g,λσ' H' h=>h,?_);have vD:=aY t[g] (aaJ iN);have hx:=af0.2 g xs[g] t[g] (cJ N) (cJ iN);have XF:t.drop g=t[g]::t.drop (g+1):=List.drop_eq_getElem_cons iN;nofun;generalize hdd:t[g]=d at vD hx XF;generalize R9:xs[g]=x at hx;have exx:xs[g]?=some x:=by rw[cJ N,R9]
      obtain⟨f',rfl⟩:∃f',f=f'+1:=(f-1,by rw[XF]at HQ;simp at HQ;lia)
      rw[XF]at W HQ
      replace W:AX M k c f' ((t.drop (g+1)).drop (nY M k c d s).toNat) (lL M k c d s)=qb M k c t ns row:=W
      ac_rfl;rw[List.drop_drop]at W;left;calc gn Qs T.cX T.R4 Z4 ?_;left;calc d7 _ x (.inr (bI.of aaj)) (aA exx) ?_;left;calc bJ ?_;left;calc(x,3,d,rfl,hx,λl zv k0 H2 U LC hl Cw=>?_);calc .inl ((_,aS.of hl),λD hD=>?_);have Om:=Cw.len;have O0:=BM (d:=d);refine bu (J:=xf K l) (n:=zv.length) (λi ys H'=>ys=((d.vals.take i).map (gv M k c s.ns s.row)).map V.int/\au H2 H') (T' (aD ())) (rfl,au.new _ hD) ?_ ?_ ?_ ?_
      . rintro i ys H' hi ⟨_,r⟩;exact(_,zv[i],aS.of (r _ _ hl),cJ hi)
      . rintro ys H' ⟨_,r⟩;exact(_,aS.of (r _ _ hl),S' _)
      . intro i ys H3 hi bt t9 iY y H4 qk;nofun;let(rfl,r):=iY;let(rfl,hy):=qk;have ey:=hy _ (aS.of (r _ _ hl));let(v,ev,hv):=Cw.get ey;ac_rfl;have jQ:=qp vD v (aaF ev);calc(Ext.set (Ext.refl _) rfl,?_);left;rw[if_pos trivial];calc(dO,λp hp=>?_);have Y:=au.new (.tup [.ref B,.ref I]) hp;have L8:=U.trans (r.trans Y);calc gn (L8 _ _ Qs) T.cX T.R3 Z3 ?_;calc(y,.ref p,k,c,M,v,s.ns,s.row,k0,rfl,(hv.aL (r.trans Y).aR),(p,B,I,rfl,af,.inl (aS.of (L8 _ _ e1)),.inl (aS.of (L8 _ _ e2))),by rw[Oj];calc jQ,Oi,?_);refine b4 (Y _ _ bt) t9 hi (T' (aD ())) (?_,λb o e=>?_)
        . rw[acF,ev];simp[gv]
        . rw[ay (av e hD)];exact Y _ _ (r _ _ e)
      rintro ys H3 bt t9 ⟨rfl,r⟩;rw[Om,aaP]at bt;have Z:=U.trans r;have IT:H1 D=none:=U.free hD;generalize rC:d.vals.map (gv M k c s.ns s.row)=ws at bt;have lN:ws.length=d.vals.length:=by rw[<-rC];simp
      have Sa:0<=ws.getD 0 0/\ws.getD 0 0<M:=by rw[<-rC];exact xY Oi
      have FE:lL M k c d s=(kq M s.ns (ws.getD 0 0) d,p9 s.row (ws.getD 0 0) d,s.cM++iV (ws.getD 0 0) d,s.words++gG (ws.getD 0 0) d):=by rw[<-rC];rfl
      have FG:nY M k c d s=qa (ws.getD 0 0) (ws.getD 1 0) d:=by rw[<-rC];rfl
      rw[FE,FG]at W;have zW:∀{b:Addr} {o:HO},H1 b=some o->b≠D:=λe=>av e IT;left;calc gn (Z _ _ Qs) T.cX T.R3 Z3 ?_;calc(B,x,D,s.ns,ws,M,3,d,rfl,Z _ _ e1,hx.aL Z.aR,bt,lN,by rw[Oj];calc vD,Oi,rm,Ol,λH4 e14 k4=>?_);have t4:cw H3 H4:=λb ys e=>k4 b _ (λz=>by subst z;rw[Z _ _ e1]at e;cases e) e;left;calc(I,x,D,s.row,ws,3,d,rfl,k4 _ _ (Ne.symm n1) (Z _ _ e2),hx.aL (Z.aR.trans t4),k4 _ _ (Ne.symm (zW e1)) bt,lN,BP,λL e25 k5=>?_);have t5:cw H4 L:=λb ys e=>k5 b _ (λz=>by subst z;rw[k4 _ _ (Ne.symm n1) (Z _ _ e2)]at e;cases e) e;have t15:cw H1 L:=Z.aR.trans (t4.trans t5);have kk:∀b o,b≠B->b≠I->H1 b=some o->L b=some o:=λb o ne1 ne2 e=>k5 b o ne2 (k4 b o ne1 (Z _ _ e));have e15:=k5 _ _ n1 e14;have XG:=kk _ _ (Ne.symm n2) (Ne.symm n4) e3;have O:=kk _ _ (Ne.symm n3) (Ne.symm n5) e5;have wa:L D=some (.lst (ws.map V.int)):=k5 _ _ (Ne.symm (zW e2)) (k4 _ _ (Ne.symm (zW e1)) bt);have VR:=FC.aL t15;have VS:au H L:=λb o e=>kk b o (av e a1) (av e a2) (sH _ _ e);have IS:=hx.aL t15;have Sb:=L5 (w:=ws.getD 0 0) (w':=ws.getD 1 0) vD;obtain⟨a,us,rfl,ha,-⟩:=vp IS vD;left;rename_i N1 hN1 T1 U1 hT1 hU1;have fin:∀X Oo,au H X->X B=some (.lst ((kq M s.ns (ws.getD 0 0) d).map V.int))->X I=some (.lst ((p9 s.row (ws.getD 0 0) d).map V.int))->X u=some (.lst Oo)->SL X Oo (s.cM++iV (ws.getD 0 0) d)->X G=some (.lst ((s.words++gG (ws.getD 0 0) d).map V.int))->HT X 3 (.ref a) d.dv->X D=some (.lst (ws.map V.int))->N1 [some (V.ref m),some (V.ref sa),some (V.int k),some (V.int c),some (V.ref B),some (V.ref I),some (V.ref u),some (V.ref G),some (V.int (g:Nat)),some (V.ref a),some (V.ref D)] X:=by
        intro X Oo f0 f1 f2 f3 f4 f5 f6 f7;left;calc(.ref a,D,ws,_,_,rfl,f6,f7,lN,?_);left;calc d7 _ _ rfl rfl ?_;have l1:=BN (w:=ws.getD 0 0) (d:=d);refine((B,I,u,G,Oo,some (.ref a),some (.ref D),g+1+(qa (ws.getD 0 0) (ws.getD 1 0) d).toNat,(kq M s.ns (ws.getD 0 0) d,p9 s.row (ws.getD 0 0) d,s.cM++iV (ws.getD 0 0) d,s.words++gG (ws.getD 0 0) d),f',?_,f0,a1,a2,a3,a4,n1,n2,n3,n4,n5,n6,f1,f2,f3,f4,f5,by rw[qV];calc Oj,FA (d:=d) Oi Ol Sa,L4 (w:=ws.getD 0 0) (d:=d) BP,(by rw[aas];lia),(by rw[aas];lia),W,?_),?_)
        . first|rfl|rw[sk1 Sb]
        . exact sk2 HQ
        . exact sk3 iN Sb
      calc cL ha (aA (j:=0) rfl) ?_;left;by_cases k1:d.word="send"
      . rw[if_pos (aaC k1)];let(j,u2,Vr,es,hv1,Qt):=Qq (w:=ws.getD 0 0) IS k1;have Fx:hV (ws.map V.int) 0=some (.int (ws.getD 0 0)):=aA (j:=0) (by rw[K',BO ()];rfl);generalize ws.getD 0 0=w0 at *
        . skip
          left;calc(.inl (rfl,_,aS.of XG),?_);calc cL Vr (aA (j:=1) rfl) ?_;left;calc bH wa Fx ?_;calc(dO,λtp Cq=>?_);have s6:=au.new (.tup [.int j,.int w0]) Cq;calc iy _ (s6 _ _ XG) (abY (by have:=FC.1;lia) (aD (n:=100) ())) ?_;have htn:tp≠u:=λz=>by subst z;rw[XG]at Cq;cases Cq
          have t6:cw (upd L tp (.tup [.int j,.int w0])) (upd (upd L tp (.tup [.int j,.int w0])) u (.lst (zs++[.ref tp]))):=(cw.refl _).upd λys e=>by rw[s6 _ _ XG]at e;cases e
          have R:∀b o,b≠u->L b=some o->upd (upd L tp (.tup [.int j,.int w0])) u (.lst (zs++[.ref tp])) b=some o:=λb o ne e=>by rw[ay ne];exact s6 _ _ e
          exact fin _ _ (λb o e=>R b o (av e a3) (VS _ _ e)) (R _ _ n2 e15) (R _ _ n4 e25) af (by rw[es];calc(VR.aL (s6.aR.trans t6)).snoc (dA (n:=0) (by rw[ay htn];calc af) (.int _) (.int _))) (by rw[hv1,aax];calc R _ _ (Ne.symm n6) O) (IS.aL (s6.aR.trans t6)) (R _ _ (Ne.symm (zW e3)) wa)
      . rw[if_neg λz=>k1 (aaU z)];have es:=Qr (w:=ws.getD 0 0) k1;left;calc cL ha (aA (j:=0) rfl) ?_;left;by_cases k2:d.word="say"
        . rw[if_pos (aaC k2)];let(ew,hv1):=VM (w:=ws.getD 0 0) k2;have Fx:hV (ws.map V.int) 0=some (.int (ws.getD 0 0)):=aA (j:=0) (by rw[K',BO ()];rfl);generalize ws.getD 0 0=w0 at *
          . skip
            left;calc(.inl (rfl,_,aS.of O),?_);left;calc bH wa Fx ?_;calc iy _ O (abY (by simp;lia) (aD (n:=100) ())) ?_;have t6:cw L (upd L G (.lst (s.words.map V.int++[.int w0]))):=(cw.refl _).upd λys e=>by rw[O]at e;cases e
            have R:∀b o,b≠G->L b=some o->upd L G (.lst (s.words.map V.int++[.int w0])) b=some o:=λb o ne e=>by rw[ay ne];exact e
            exact fin _ zs (λb o e=>R b o (av e a4) (VS _ _ e)) (R _ _ n3 e15) (R _ _ n5 e25) (R _ _ n6 XG) (by rw[es,aax];calc VR.aL t6) (by rw[af,ew,aah];rfl) (IS.aL t6) (R _ _ (Ne.symm (zW e5)) wa)
        . rw[if_neg λz=>k2 (aaU z)];have ew:=L6 (w:=ws.getD 0 0) k2;calc L2.bc (by assumption) ?_;exact fin _ _ VS e15 e25 XG (by rw[es,aax];calc VR) (by rw[ew,aax];calc O) IS wa
    . have N:¬g < xs.length:=by rw[wH.1];exact iN
      left;rw[if_neg (N:)];rw[List.drop_eq_nil_of_le (),EY]at W;left;calc .inl (_,aS.of e1,λt1 wb=>?_);have r1:=au.new (.tup (s.ns.map V.int)) wb;left;calc .inl (_,aS.of (r1 _ _ e2),λt2 qG=>?_);have r2:=au.new (.tup (s.row.map V.int)) qG;left;calc(dO,λt3 Bz=>?_);have r3:=au.new (.tup [.ref t1,.ref t2]) Bz;left;calc(by show 3<=sizeLine;decide,λt4 DP=>?_);have r4:=au.new (.tup [.ref t3,.ref u,.ref G]) DP;have Qu:=r1.trans (r2.trans (r3.trans r4));refine q _ _ (sH.trans Qu) (_,_,u,G,zs,rfl,af,?_,Qu _ _ e3,?_,?_,a3,a4,n6)
      . rw[<-W];exact(dA af (p8 (r3 _ _ (r2 _ _ af))) (p8 (r3 _ _ af))).aL r4.aR
      . rw[<-W];exact FC.aL Qu.aR
      . rw[<-W];exact Qu _ _ e5
  . intro σ H1 Q Q' hq hc;let(x,h1,x0,h0,a,C',vd,fs,v,h2,h3,h4,h5,h6,n,h7,h8):=hc;refine(x,h1,x0,h0,a,C',vd,fs,v,h2,h3,h4,h5,h6,n,h7,?_)
    cases x<;>first
      |calc(show False from h8).elim
      | (let(k',h9,XE):=h8
         calc(k',h9,hq _ _ XE))
noncomputable def jB(n:Nat->Nat)(ad:js)(t:Nat):List V:=(List.range (n t)).map λi=>V.ref (ad t i)
theorem kB:(jB n ad t).length=n t:=by simp[jB]
theorem bz{i:Nat}(h:i<n t):hV (jB n ad t) (i:Int)=some (.ref (ad t i)):=aA (by simp[jB,h])
noncomputable def IU(bo:V)(p:Addr)(o:Nat->Addr):List (Str×V):=[(("own_net"),bo),(("picks_done"),.ref p),(("states_had"),.ref (o 1)),(("words_had"),.ref (o 2)),(("words_said"),.ref (o 3)),(("letters_say"),.ref (o 4)),(("senders"),.ref (o 5)),(("workers"),.ref (o 6))]
theorem rJ{bo:V}:(IU bo p o).lookup ("own_net":Str)=some bo:=by kernel_rfl
theorem aao{bo:V}:(IU bo p o).lookup ("picks_done":Str)=some (.ref p):=by kernel_rfl
theorem L9{bo:V}:(IU bo p o).lookup ("states_had":Str)=some (.ref (o 1)):=by kernel_rfl
theorem af3{bo:V}:(IU bo p o).lookup ("words_had":Str)=some (.ref (o 2)):=by kernel_rfl
theorem aap{bo:V}:(IU bo p o).lookup ("words_said":Str)=some (.ref (o 3)):=by kernel_rfl
theorem Qv{bo:V}:(IU bo p o).lookup ("letters_say":Str)=some (.ref (o 4)):=by kernel_rfl
theorem aaq{bo:V}:(IU bo p o).lookup ("senders":Str)=some (.ref (o 5)):=by kernel_rfl
theorem Ma{bo:V}:(IU bo p o).lookup ("workers":Str)=some (.ref (o 6)):=by kernel_rfl
structure vE(C CN:Addr)(H:Hp)(bo:Addr)(nt:NT):Prop where
 ex:∃ms wv lv,ml CN H bo ms wv lv/\ms.length=nt.ms.length/\(∀(i:Nat) m d,ms[i]?=some m->nt.ms[i]?=some d->XA C H m d)/\fK H 1 wv (nt.ws.map mf)
 ok:nt.Ok
theorem XA.fr{d:MD}(f:Fr Z H H')(h:XA C H m d):XA C H' m d:=by
 let(a,st,dd,b,c,e):=h;calc(a,st,dd,f.nO b id,c.aL f.aR,e.aL f.aR)
theorem ml.fr(f:Fr Z H H')(h:ml CN H x ms wv lv):ml CN H' x ms wv lv:=by
 let(d,a,b,c,e,g,i,j):=h;calc(d,a,b,c,f.nO e id,f.nO g id,f.nO i id,f.nO j id)
theorem vE.fr(f:Fr Z H H')(h:vE C CN H bo nt):vE C CN H' bo nt:=by
 let((ms,wv,lv,c,e,g,j),k):=h;calc((ms,wv,lv,c.fr f,e,λi m d a b=>(g i m d a b).fr f,j.aL f.aR),k)
structure bS(C CN CR:Addr)(F:Addr->Prop)(H:Hp)(x bo:Addr)(nt:NT)(r:RS)(ad:js):Prop where
 ins:∃dx o,H x=some (.ins CR dx (IU (.ref bo) (ad 0 0) o))/\∀t,1<=t->t<=6->H (o t)=some (.lst (jB nt.n ad t))/\¬F (o t)/\¬FP nt.n ad (o t)
 cU:dZ F H nt.n ad r.ct
 Mb:vE C CN H bo nt
theorem bS.keep{F:Addr->Prop}(h:bS C CN CR F H x bo nt r ad)(f:Fr F H H'):bS C CN CR F H' x bo nt r ad:=by
 let((d,o,e,c),g,i):=h;calc((d,o,f.nO e id,λt a b=>(f.at (c t a b).1 (c t a b).2.1,(c t a b).2)),g.keep f,i.fr f)
theorem bS.same{F:Addr->Prop}(h:bS C CN CR F H x bo nt r ad)(s:au H H'):bS C CN CR F H' x bo nt r ad:=h.keep s.fr
theorem bS.own{F:Addr->Prop}{c:RS}(h:bS C CN CR F H x bo nt r ad)(f:Fr (FP nt.n ad) H H')(b:dZ F H' nt.n ad c.ct):bS C CN CR F H' x bo nt c ad:=by
 let((d,o,e,c),i,g):=h;calc((d,o,f.nO e id,λt a b=>(f.at (c t a b).1 (c t a b).2.2,(c t a b).2)),b,g.fr f)
noncomputable abbrev jR:Stmt:=(cA (top 69)).getD 6 (.Pass (0,0,0,0))
noncomputable def vF(nt:NT)(e j:Nat):Int:=if e=0 then(nt.w j).1 else(nt.w j).2.1
noncomputable def wK(nt:NT)(e m:Nat):List Nat:=(List.range nt.ws.length).filter λj=>decide (vF nt e j=m)
def DX(C CN:Addr):Sp:=λvs H Q _=>∃(x:Addr) (nt:NT) (m e:Nat),vs=[.ref x,.int m,.int e]/\vE C CN H x nt/\m<nt.ms.length/\e<2/\∀l H',au H H'->H l=none->H' l=some (.lst ((wK nt e m).map λi=>.int (i:Nat)))->Q (.ref l) H'
theorem wL(D:iM K CN "ways_at" "Net.ways_at" jR gg)(T:Tx K mg C CN CR F FD)(U:Def P w K mg base "is_within" 2 bh cf):cn P w K mg base CN "ways_at" 3 gg (DX C CN):=by
 exists gg;let(x,d,m,e,rfl,B,I,L,q):=h;have L:=hr.units;refine(_,(ai (aW (bY (bA (aN U hr (ag (aq 1) (ag aj (ag (aX aM rfl T.bO Y' (ag (bP (aq 0) rfl) aa)) aa)))))) (ak dH) aK)
  (ak (aG (dy (N':=["number","way","m","end"]) (ix:=[none,none,some 1,some 2]) (iL rfl T.de (ag (bP (aq 0) rfl) aa)) (λ_ _ _ _=>(jy (K:=K) rfl (i:=0) (j:=1) rfl (iw ["number","way","m","end"]) rfl rfl Sort Sort)) (λ_ _ _ _=>(jx (aC (l7 (K:=K) rfl L) (ft (K:=K) rfl L (aq 1) (aq 3)) (aq 2) (aI _)))) (λ_ _ _ _=>(aq 0)))))),?_)
 nofun;let((ms,wv,lv,W,X,L,M),Y):=id B;let(Z,a,b,L,N,h2,l,U):=id W;ac_rfl;left;calc(x,CN,Z,_,_,rfl,N,T.cT,T.Bt,Z9,_,.inr (_,bI.of h2,rfl),?_);calc fQ (.int m) _ 0 _ rfl (.int _) ?_;rw[show inR 0 (((ms.map V.ref).length:Nat):Int) (.int (m:Int))=true by simp[inR,X,I]];calc wB ?_;rw[if_neg ∅];left;calc bJ ?_;left;calc gn N T.cT T.Bu aaa ?_;left;calc Ht false wv (Sq.t l) (λD r=>?_);have lN:wv.length=d.ws.length:=(M.1:)
 have x:=Y.Ho;refine bu (J:=RL false K b) (n:=wv.length) (λi ys H'=>au H H'/\ys=((List.range i).filter λj=>decide (vF d e j=m)).map λj=>V.int (j:Nat)) (T' (aD ())) (au.new _ r,rfl) ?_ ?_ ?_ ?_
 .rintro i ys H' u ⟨g,_⟩;exact(wv,wv[i],Sq.t (g _ _ l),cJ u)
 .rintro ys H' ⟨g,_⟩;exact(wv,Sq.t (g _ _ l),rfl)
 .intro i ys H' u p O iz xx H4 iY;nofun;let(g,rfl):=iz;let(t,ht,rfl,y):=iY;let(k,ex,rfl):=y wv (Sq.t (g _ _ l));have x:i < d.ws.length:=();have o:=(M.2 i k (mf (d.w i)) ex (by rw[K',show d.ws[i]?=some (d.w i) from aP x];rfl)).aL g.aR;have v:=au.new (.tup [.int (i:Nat),k]) ht
  replace o:=o.aL v.aR
  have qG:upd H' t (.tup [.int (i:Nat),k]) t=some (.tup [.int (i:Nat),k]):=af;have R:=v _ _ p;have S:=g.trans v;generalize hG:upd H' t (.tup [.int (i:Nat),k])=G at *;let(ta,u1,u2,u3,kk,rfl,tJ,g1,g2,g3):=bV o;obtain rfl:=g1.cF;obtain rfl:=g2.cF;obtain rfl:=g3.c8;ac_rfl;calc vf (bI.of qG) (Ext.set (Ext.set (Ext.refl _) rfl) rfl,?_);left;have z:hV [V.int (d.w i).1,V.int (d.w i).2.1,V.str (d.w i).2.2] (e:Int)=some (.int (vF d e i)):=by
   have:e=0\/e=1:=();rcases this with rfl|rfl
   .exact aA (j:=0) rfl
   .exact aA (j:=1) rfl
  calc cL tJ z ?_;left;have k:(List.range (i+1)).filter (λj=>decide (vF d e j=m))=(List.range i).filter (λj=>decide (vF d e j=m))++(if vF d e i=m then[i] else[]):=by
   rw[ac2,acX];congr 1;by_cases z:vF d e i=m<;>simp[z]
  by_cases z:vF d e i=m
  .rw[if_pos (by simp[z])];calc b4 R O u (T' (aD ())) (λc o e=>by rw[ay (av e r)];calc S _ _ e,?_);rw[k,if_pos z,aah];rfl
  .rw[if_neg (by simp[z])];exact(_,R,(),S,by rw[k,if_neg z,aax])
 .rintro ys H' p O ⟨g,rfl⟩;rw[lN]at p;calc q _ _ g r p
noncomputable abbrev i9:Stmt:=(cA (top 69)).getD 4 (.Pass (0,0,0,0))
def sV(C CN:Addr):Sp:=λvs H Q _=>∃(x:Addr) (nt:NT) (m:Nat),vs=[.ref x,.int m]/\vE C CN H x nt/\m<nt.ms.length/\∀l H',au H H'->H l=none->H' l=some (.lst ((wK nt 0 m).map λi=>.int (i:Nat)))->Q (.ref l) H'
theorem vG(D:iM K CN "ways_out" "Net.ways_out" i9 bQ)(T:Tx K mg C CN CR F FD)(g:cn P w K mg base CN "ways_at" 3 gg (DX C CN)):cn P w K mg base CN "ways_out" 4 bQ (sV C CN):=by
 exists bQ;let(x,d,m,rfl,c,e,q):=h;have k:=hr.units;calc(_,(ak (aG (eR g T.cT hr (aq 0) (ag (aq 1) (ag aj aa))))),?_);nofun;let((ms,wv,lv,i,k,l,n),o):=id c;let(g,a,b,k,j,l,n,o):=id i;ac_rfl;left;calc ic j (fu ⋯ ⋯ ⋯) ?_;calc(x,d,m,0,rfl,c,e,∅,q)
noncomputable abbrev jS:Stmt:=(cA (top 69)).getD 5 (.Pass (0,0,0,0))
def vH(C CN:Addr):Sp:=λvs H Q _=>∃(x:Addr) (nt:NT) (m:Nat),vs=[.ref x,.int m]/\vE C CN H x nt/\m<nt.ms.length/\∀l H',au H H'->H l=none->H' l=some (.lst ((wK nt 1 m).map λi=>.int (i:Nat)))->Q (.ref l) H'
theorem wM(D:iM K CN "ways_in" "Net.ways_in" jS bQ)(T:Tx K mg C CN CR F FD)(g:cn P w K mg base CN "ways_at" 3 gg (DX C CN)):cn P w K mg base CN "ways_in" 4 bQ (vH C CN):=by
 exists bQ;let(x,d,m,rfl,c,e,q):=h;have k:=hr.units;calc(_,(ak (aG (eR g T.cT hr (aq 0) (ag (aq 1) (ag aj aa))))),?_);nofun;let((ms,wv,lv,i,k,l,n),o):=id c;let(g,a,b,k,j,l,n,o):=id i;ac_rfl;left;calc ic j (fu ⋯ ⋯ ⋯) ?_;calc(x,d,m,1,rfl,c,e,∅,q)
def FS(F:Addr->Prop)(H:Hp):Prop:=∀b,F b->∃o,H b=some o/\soft o
theorem FS.fr{F:Addr->Prop}(h:FS F H)(f:Fr Z H H')(c:∀b,F b->¬Z b):FS F H':=λb a=>by
 let(o,e,s):=h b a;calc(o,f.at e (c b a),s)
theorem _root_.DD.dZ.zr{F:Addr->Prop}(h:dZ F H n ad ct):∀b,F b->¬FP n ad b:=λb a (t,i,c,e)=>h.out t i c (e▸a)
theorem small(h:n<=20000):n<sizeLine:=by rw[abb];lia
theorem VT{r:RS}{n:NT}{w:Nat}{s:Option (Int×Int)}:∀t i,i<n.n t->setC (setC (setC r.ct 4 w (.l ((r.ww w).say.map .int++[.int x]))) 5 w (.l ((r.ww w).snd.map nQ++[nQ s]))) 6 w (.l ((r.ww w).cE.map nQ++[.bL])) t i=(r.put w x s).ct t i:=by
 intro t i a;unfold setC
 match t,a with
 |0,_=>simp[RS.ct,RS.put]
 |1,_=>simp[RS.ct,RS.put]
 |2,_=>simp[RS.ct,RS.put]
 |3,_=>simp[RS.ct,RS.put]
 |4,_=>by_cases e:i=w<;>simp[RS.ct,RS.put,e]
 |5,_=>by_cases e:i=w<;>simp[RS.ct,RS.put,e]
 |6,_=>by_cases e:i=w<;>simp[RS.ct,RS.put,e,nQ]
 |(t+7),a=>calc absurd a (Nat.not_lt_zero i)
noncomputable abbrev gO:Stmt:=(cA (top 71)).getD 1 (.Pass (0,0,0,0))
inductive FH(C CN CR:Addr)(vs:List V)(H:Hp)(Q:VK):Prop
 |mk (F:Addr->Prop) (x bo:Addr) (nt:NT) (r:RS) (ad:js) (wy:Nat) (said:Int) (sv:V) (s:Option (Int×Int)) (h0:vs=[.ref x,.int (wy:Nat),.int said,sv]) (h1:bS C CN CR F H x bo nt r ad) (h2:FS F H) (h3:wy<nt.ws.length) (h4:HT H 4 sv (nQ s)) (h5:r.v9 nt 19999) (h6:∀H',Fr (FP nt.n ad) H H'->bS C CN CR F H' x bo nt (r.put wy said s) ad->Q .bL H'):FH C CN CR vs H Q
def vI(C CN CR:Addr):Sp:=λvs H Q _=>FH C CN CR vs H Q
theorem rK(D:iM K CR "put_letter" "Run.put_letter" gO dt)(T:Tx K mg C CN CR F FD):cn P w K mg base CR "put_letter" 1 dt (vI C CN CR):=by
 exists dt;let(F,x,bo,g,r,ad,a,c,y,s,rfl,j,O,b,R,k,q):=h;have o:=hr.units;refine(_,(ai (bX (dw pP sF sL cj (ao o (bP (aq 0) rfl) (aq 1)) (ag (aq 2) aa)))
  (ai (bX (dw pP sF sL cj (ao o (bP (aq 0) rfl) (aq 1)) (ag (aq 3) aa)))
  (ak (bX (dw pP sF sL cj (ao o (bP (aq 0) rfl) (aq 1)) (ag gF aa)))))),?_)
 nofun;let(x,o,z,d):=j.ins;have B:=j.cU;have W:=(d 4 ∅ ∅).1;have X:=(d 5 ∅ ∅).2.2;have Y:=(d 6 ∅ ∅).2.2;have o:=k.bs a b;have o:=k.ls a b;have o:=k.lk a b;let(l,m,o):=B.lst (t:=4) (i:=a) b rfl;ac_rfl;have k:l.length=(r.ww a).say.length:=(o.1:)
 left;calc gn z T.ba T.cu Qv ?_;left;calc bH W (bz b) ?_;calc(.inl (rfl,_,aS.of m),?_);left;calc iy l m (small ()) ?_;have G:=B.app (t:=4) (i:=a) b rfl m (fz.one (.int c));have e:Fr (FP g.n ad) H (upd H (ad 4 a) (.lst (l++[.int c]))):=Fr.refl.upd (4,a,b,rfl) m trivial;generalize Z:upd H (ad 4 a) (.lst (l++[.int c]))=S at *;left;have tW:=e.nO z id;have I:=e.at (d 5 ∅ ∅).1 X;let(p,u,c):=G.lst (t:=5) (i:=a) b rfl;have k:p.length=(r.ww a).snd.length:=(c.1:)
 have J:=O.fr e B.zr;left;calc gn tW T.ba T.fF aaq ?_;left;calc bH I (bz b) ?_;calc(.inl (rfl,_,aS.of u),?_);left;calc iy p u (small ()) ?_;have U:=G.app (t:=5) (i:=a) b rfl u (fz.one (G.ht J (R.aL e.aR)));have L:Fr (FP g.n ad) H (upd S (ad 5 a) (.lst (p++[y]))):=e.upd (5,a,b,rfl) u trivial;generalize LP:upd S (ad 5 a) (.lst (p++[y]))=G2 at *;left;have Cy:=L.nO z id;have M:=L.at (d 6 ∅ ∅).1 Y;let(N,v,c):=U.lst (t:=6) (i:=a) b rfl;have d:N.length=(r.ww a).cE.length:=(c.1:)
 left;calc gn Cy T.ba T.dB Ma ?_;left;calc bH M (bz b) ?_;calc(.inl (rfl,_,aS.of v),?_);left;calc iy N v (small ()) ?_;have d:=U.app (t:=6) (i:=a) b rfl v (fz.one (.bL));have c:Fr (FP g.n ad) H (upd G2 (ad 6 a) (.lst (N++[.bL]))):=L.upd (6,a,b,rfl) v trivial;calc q _ c (j.own c (d.congr VT))
noncomputable abbrev fX:Stmt:=(cA (top 71)).getD 2 (.Pass (0,0,0,0))
def Md(C CN CR:Addr):Sp:=λvs H Q _=>∃(F:Addr->Prop) (x bo:Addr) (nt:NT) (r:RS) (ad:js) (m:Nat),vs=[.ref x,.int m]/\bS C CN CR F H x bo nt r ad/\m<nt.ms.length/\Q .bL H
theorem oS(D:iM K CR "need_machine" "Run.need_machine" fX bQ)(T:Tx K mg C CN CR F FD)(d:Def P w K mg base "is_within" 2 bh cf):cn P w K mg base CR "need_machine" 3 bQ (Md C CN CR):=by
 exists bQ;let(F,x,bo,a,r,ad,m,rfl,b,c,q):=h;have k:=hr.units;calc(_,(ak (aW (bY (bA (aN d hr (ag (aq 1) (ag aj (ag (aX aM rfl T.bO Y' (ag (bP (aq 0) rfl) aa)) aa)))))) (ak dH) aK)),?_);let(e,o,g,i):=b.ins;have j:=(i 1 ∅ ∅).1;left;calc(x,CR,e,_,_,rfl,g,T.ba,T.cp,L9,_,.inl (_,aS.of j,rfl),?_);calc fQ (.int m) _ 0 _ rfl (.int _) ?_;rw[kB];rw[show inR 0 ((a.n 1:Nat):Int) (.int (m:Int))=true by simp[inR];calc c];calc wB ?_;rw[if_neg ∅];left;calc q
noncomputable abbrev ja:Stmt:=(cA (top 71)).getD 4 (.Pass (0,0,0,0))
def Sd(C CN CR:Addr):Sp:=λvs H Q _=>∃(F:Addr->Prop) (x bo:Addr) (nt:NT) (r:RS) (ad:js) (m:Nat) (a:V),vs=[.ref x,.int m,a]/\bS C CN CR F H x bo nt r ad/\m<nt.ws.length/\Q .bL H
theorem vJ(D:iM K CR "need_way" "Run.need_way" ja hH)(T:Tx K mg C CN CR F FD)(e:Def P w K mg base "is_within" 2 bh cf):cn P w K mg base CR "need_way" 3 hH (Sd C CN CR):=by
 exists hH;let(F,x,bo,b,r,ad,m,a,rfl,c,d,q):=h;have l:=hr.units;calc(_,(ak (aW (bY (bA (aN e hr (ag (aq 1) (ag aj (ag (aX aM rfl T.bO Y' (ag (bP (aq 0) rfl) aa)) aa)))))) (ak dH) aK)),?_);let(g,o,i,j):=c.ins;have k:=(j 4 ∅ ∅).1;left;calc(x,CR,g,_,_,rfl,i,T.ba,T.cu,Qv,_,.inl (_,aS.of k,rfl),?_);calc fQ (.int m) _ 0 _ rfl (.int _) ?_;rw[kB];rw[show inR 0 ((b.n 4:Nat):Int) (.int (m:Int))=true by simp[inR];calc d];calc wB ?_;rw[if_neg ∅];left;calc q
noncomputable abbrev gB:Stmt:=(cA (top 71)).getD 5 (.Pass (0,0,0,0))
theorem eB{bo:V}(h:f∉(["own_net","picks_done","states_had","words_had","words_said","letters_say","senders","workers"]:List Str)):(IU bo p o).lookup f=none:=by
 simp only[List.mem_cons,List.not_mem_nil,or_false,not_or]at h;unfold IU;simp[List.lookup,beq_eq_false_iff_ne.mpr h.1,beq_eq_false_iff_ne.mpr h.2.1,beq_eq_false_iff_ne.mpr h.2.2.1,beq_eq_false_iff_ne.mpr h.2.2.2.1,beq_eq_false_iff_ne.mpr h.2.2.2.2.1,beq_eq_false_iff_ne.mpr h.2.2.2.2.2.1,beq_eq_false_iff_ne.mpr h.2.2.2.2.2.2.1,beq_eq_false_iff_ne.mpr h.2.2.2.2.2.2.2]
def FI(C CN CR:Addr):Sp:=λvs H Q _=>∃(F:Addr->Prop) (x bo:Addr) (nt:NT) (r:RS) (ad:js) (m k:Nat) (a:V),vs=[.ref x,.int m,.int k,a]/\bS C CN CR F H x bo nt r ad/\m<nt.ws.length/\k<(r.ww m).say.length/\Q .bL H
theorem qr(D:iM K CR "need_letter" "Run.need_letter" gB ah)(T:Tx K mg C CN CR F FD)(j:Def P w K mg base "is_within" 2 bh cf)(l:cn P w K mg base CR "need_way" 3 hH (Sd C CN CR)):cn P w K mg base CR "need_letter" 4 ah (FI C CN CR):=by
 exists ah;let(F,x,bo,d,r,ad,m,k,a,rfl,b,c,n,q):=h;have n:=hr.units;refine(_,(ai (bX (eR l T.ba hr (aq 0) (ag (aq 1) (ag (aq 3) aa))))
  (ak (aW (bY (bA (aN j hr (ag (aq 2) (ag aj (ag (aX aM rfl T.bO Y' (ag (ao n (bP (aq 0) rfl) (aq 1)) aa)) aa)))))) (ak dH) aK))),?_)
 nofun;let(l,o,e,j):=b.ins;have p:=(j 4 ∅ ∅).1;let(g,u,l):=b.cU.lst (t:=4) (i:=m) c rfl;ac_rfl;have j:g.length=(r.ww m).say.length:=(l.1:)
 left;calc ic e (eB ⋯) ?_;calc(_,x,bo,d,r,ad,m,_,rfl,b,c,?_);left;calc gn e T.ba T.cu Qv ?_;left;calc bH p (bz c) ?_;calc bN _ (.inl (_,aS.of u,rfl)) ?_;calc fQ (.int k) _ 0 _ rfl (.int _) ?_;rw[show inR 0 ((g.length:Nat):Int) (.int (k:Int))=true by simp[inR];lia];calc wB ?_;rw[if_neg ∅];left;calc q
structure _root_.DD.RS.Qw(nt:NT)(r:RS)(w k:Nat):Prop where
 lt:w<nt.ws.length
 lies:(r.ww w).cE[k]?=some none
 row:(nt.w w).2.2="row"->0<k->∃e,(r.ww w).cE[k-1]?=some (some e)
theorem DY(h:HD H n v (nQ none)):v=.bL:=by
 have h:HD H n v .bL:=h
 cases h;rfl
theorem qt(h:HD H n v (nQ (some e))):∃a,v=.ref a/\H a=some (.tup [.int e.1,.int e.2]):=by
 have h:HD H n v (.tup [.int e.1,.int e.2]):=h
 cases h with
 | @tup n a b _ e l i=>
   let(u,v,rfl):=ln2 l;have c:=i 0 u _ rfl rfl;have d:=i 1 v _ rfl rfl;obtain rfl:=c.cF;obtain rfl:=d.cF;calc(a,rfl,e)
theorem FJ{H:Hp}{n:Nat}{v:V}{e:Option (Int×Int)}(h:HD H n v (nQ e)):HT H 1 v (nQ e):=by
 cases e with
 |none=>rw[DY h];calc .bL
 |some e=>let(a,rfl,b):=qt h;calc dA b (.int _) (.int _)
theorem qu{vs:List V}{v:V}(h:1<=vs.length)(e:vs[vs.length-1]?=some v):hV vs (-1)=some v:=by
 obtain⟨ys,z,rfl⟩:∃ys z,vs=ys++[z]:=(vs.dropLast,vs.getLast (by intro a;rw[a]at h;simp at h),(List.dropLast_concat_getLast _).symm)
 rw[l9];simpa using e
noncomputable abbrev iA:Stmt:=(cA (top 71)).getD 6 (.Pass (0,0,0,0))
def Se(C CN CR:Addr):Sp:=λvs H Q _=>∃(F:Addr->Prop) (x bo:Addr) (nt:NT) (r:RS) (ad:js) (m k:Nat) (a:V),vs=[.ref x,.int m,.int k,a]/\bS C CN CR F H x bo nt r ad/\r.Ok nt/\r.Qw nt m k/\∀H',au H H'->Q .bL H'
theorem tK(D:iM K CR "need_pick" "Run.need_pick" iA ah)(T:Tx K mg C CN CR F FD)(o:cn P w K mg base CN "ways" 1 b0 (qo CN))(Y:cn P w K mg base CR "need_letter" 4 ah (FI C CN CR)):cn P w K mg base CR "need_pick" 5 ah (Se C CN CR):=by
 exists["self","way","number","at","sort"];let(F,x,bo,c,r,ad,m,k,a,rfl,n,O,u,q):=h;have b:=hr.units;refine(_,(ai (bX (eR Y T.ba hr (aq 0) (ag (aq 1) (ag (aq 2) (ag (aq 3) aa)))))
  (ai (aW (aC nu (ao b (ao b (bP (aq 0) rfl) (aq 1)) (aq 2)) gF (aI _)) (ak dH) aK)
  (ai (bf (i:=4) sc rfl Sort (ao b (ao b (dW o T.cT hr (bP (aq 0) rfl)) (aq 1)) aj))
  (ak (aW (PW.pt (pw_and (aC (bg b) (aq 4) aH (aI _)) (pw_and (aC kK (aq 2) aj (aI _)) (pw_and1 (aC yJ (ao b (ao b (bP (aq 0) rfl) (aq 1)) (aZ dR (aq 2) aj)) gF (aI _)))))) (ak dH) aK))))),?_)
 nofun;let(Y,o,y,b):=n.ins;let((ms,wv,lv,R,o,Y,S),aY):=n.Mb;have U:=(b 6 ∅ ∅).1;have g:=u.lt;let(Z,W,X):=n.cU.lst (t:=6) (i:=m) g rfl;have b:=u.lies;have uS:k<(r.ww m).cE.length:=(iF b).1;let(v,ev,dv):=X.get (i:=k) (d:=nQ none) (by rw[K',b];rfl);have:=DY dv;subst this;ac_rfl;left;calc ic y (eB ⋯) ?_;calc(_,x,bo,c,r,ad,m,k,a,rfl,n,g,by rw[O.lk m g];calc uS,?_);left;calc gn y T.ba T.dB Ma ?_;left;calc bH U (bz g) ?_;calc bH W (aA ev) ?_;left
 try rw[if_neg ∅]
 left;calc gn y T.ba T.cY rJ ?_;let(b,n,o,r,g1,x,O,Y):=id R;left;calc ic g1 (fu ⋯ ⋯ ⋯) ?_;calc fQ bo ms wv lv rfl R (λl b=>?_);generalize hG:upd H l (.lst wv)=G at *;let(p,el):=aaB hG b;left;have b:c.ws[m]?=some (c.w m):=aP g;have l:m<wv.length:=by have:=S.1;simp at this;lia
 have zp:=(S.2 m wv[m] (mf (c.w m)) nofun (by rw[K',b];rfl)).aL p.aR;nofun;let(ta,l,n,o,r,B,tJ,q1,q2,q3):=bV zp;obtain rfl:=q1.cF;obtain rfl:=q2.cF;obtain rfl:=q3.c8;ac_rfl;calc bH el (aA (j:=m) (v:=.ref ta) (by rw[<-B];simp)) ?_;calc cL tJ (aA (j:=2) rfl) ?_;left;have Cy:=p _ _ y;have I:=p _ _ U;have J:=p _ _ W;have L:=q _ p;have b:=u.row;by_cases z:(c.w m).2.2="row"
 .by_cases c:0 < k
  .nofun;let(e,he):=b z c;let(l,M,N):=X.get (i:=k - 1) (d:=nQ (some e)) (by rw[K',he];rfl);let(ae,rfl,b):=qt N;ac_rfl;rw[if_pos (by simp[z]),if_pos (by simp;lia)];calc gn Cy T.ba T.dB Ma ?_;left;calc bH I (bz g) ?_;calc bH J (show hV Z ((k:Int) - 1)=some (.ref ae) from by rw[show(k:Int) - 1=((k - 1:Nat):Int) by lia];calc aA M) ?_;left
   try rw[if_neg ∅]
   left;exact L
  .rw[if_pos (by simp[z]),if_neg (by simp;lia),if_neg ∅];left;exact L
 .rw[if_neg (by simp[z]),if_neg ∅];left;calc L
noncomputable abbrev mw:Stmt:=(cA (top 71)).getD 11 (.Pass (0,0,0,0))
theorem Sf{s:List Int×List Int}(h:HD H n v (u9 s)):HT H 2 v (AW s.1 s.2):=by
 have h:HD H n v (.tup [.tup (s.1.map .int),.tup (s.2.map .int)]):=h
 cases h with
 | @tup n a c _ e l i=>
   let(u,v,rfl):=ln2 l;have d:=i 0 u _ rfl rfl;have f:=i 1 v _ rfl rfl;have b:∀{n:Nat} {u:V} {ns:List Int},HD H n u (.tup (ns.map .int))->HT H 1 u (.tup (ns.map .int)):=λ{n u ns} h=>by
    cases h with
    | @tup n a c _ e l i=>exact p8 (n:=0) (by rw[e,show c=ns.map V.int from fz.u6 (l,i)])
   calc dA e (b d) (b f)
def Sg(C CN CR:Addr):Sp:=λvs H Q _=>∃(F:Addr->Prop) (x bo:Addr) (nt:NT) (r:RS) (ad:js) (m:Nat),vs=[.ref x,.int m]/\bS C CN CR F H x bo nt r ad/\r.Ok nt/\m<nt.ms.length/\∀v,HT H 2 v (AW ((r.mm m).fH.bM (([]),[])).1 ((r.mm m).fH.bM (([]),[])).2)->Q v H
theorem BR(D:iM K CR "state" "Run.state" mw bQ)(T:Tx K mg C CN CR F FD)(k:cn P w K mg base CR "need_machine" 3 bQ (Md C CN CR)):cn P w K mg base CR "state" 4 bQ (Sg C CN CR):=by
 exists bQ;let(F,x,bo,c,r,ad,m,rfl,b,e,a,q):=h;have g:=hr.units;refine(_,(ai (bX (eR k T.ba hr (aq 0) (ag (aq 1) aa)))
  (ak (aG (ao g (ao g (bP (aq 0) rfl) (aq 1)) (lJ ip aj))))),?_)
 nofun;let(g,o,j,k):=b.ins;have l:=(k 1 ∅ ∅).1;let(n,p,g):=b.cU.lst (t:=1) (i:=m) a rfl;have u:n.length=(r.mm m).fH.length:=(g.1:)
 have y:=e.y6 a;let(v,z,B):=g.get (i:=(r.mm m).fH.length-1) (d:=u9 ((r.mm m).fH.bM (([]),[]))) (by rw[K',lZ (d:=(([]),[])) y];rfl);ac_rfl;left;calc ic j (eB ⋯) ?_;calc(_,x,bo,c,r,ad,m,rfl,b,a,?_);left;calc gn j T.ba T.cp L9 ?_;left;calc bH l (bz a) ?_;calc bH p (qu () (by rw[u];calc z)) ?_;calc q _ (Sf (B.cv dY))
noncomputable abbrev mx:Stmt:=(cA (top 71)).getD 10 (.Pass (0,0,0,0))
def zt(C CN CR:Addr):Sp:=λvs H Q _=>∃(F:Addr->Prop) (x bo:Addr) (nt:NT) (r:RS) (ad:js) (m:Nat),vs=[.ref x,.int m]/\bS C CN CR F H x bo nt r ad/\m<nt.ms.length/\Q (.int (((r.mm m).fH.length:Nat)-1)) H
theorem BS(D:iM K CR "count" "Run.count" mx bQ)(T:Tx K mg C CN CR F FD)(e:cn P w K mg base CR "need_machine" 3 bQ (Md C CN CR)):cn P w K mg base CR "count" 4 bQ (zt C CN CR):=by
 exists bQ;let(F,x,bo,c,r,ad,m,rfl,a,b,q):=h;have g:=hr.units;refine(_,(ai (bX (eR e T.ba hr (aq 0) (ag (aq 1) aa)))
  (ak (aG (aZ dR (aX aM rfl T.bO Y' (ag (ao g (bP (aq 0) rfl) (aq 1)) aa)) aj)))),?_)
 nofun;let(g,o,d,e):=a.ins;have j:=(e 1 ∅ ∅).1;let(g,k,l):=a.cU.lst (t:=1) (i:=m) b rfl;ac_rfl;have n:g.length=(r.mm m).fH.length:=(l.1:)
 left;calc ic d (eB ⋯) ?_;calc(_,x,bo,c,r,ad,m,rfl,a,b,?_);left;calc gn d T.ba T.cp L9 ?_;left;calc bH j (bz b) ?_;calc bN _ (.inl (_,aS.of k,rfl)) ?_;left;rw[n];calc q
noncomputable abbrev jc:Stmt:=(cA (top 71)).getD 15 (.Pass (0,0,0,0))
def DZ(C CN CR:Addr):Sp:=λvs H Q _=>∃(F:Addr->Prop) (x bo:Addr) (nt:NT) (r:RS) (ad:js),vs=[.ref x]/\bS C CN CR F H x bo nt r ad/\∀l a,H l=none->fz H 4 a (r.picks.map pairD)->Q (.ref l) (upd H l (.lst a))
theorem vK(D:iM K CR "schedule" "Run.schedule" jc b0)(T:Tx K mg C CN CR F FD):cn P w K mg base CR "schedule" 1 b0 (DZ C CN CR):=by
 exists b0;let(F,x,bo,b,r,ad,rfl,a,q):=h;have b:=hr.units;calc(_,(ak (aG (dz cK rfl T.fJ oh (ag (bP (aq 0) rfl) aa)))),?_);nofun;let(b,o,c,g):=a.ins;let(b,d,e):=a.cU.lst (t:=0) (i:=0) (by show 0<1;decide) rfl;ac_rfl;left;calc gn c T.ba T.df aao ?_;left;calc bN _ (.inl (aS.of d)) (λl a=>?_);calc q l _ a (e.cv dY)
noncomputable abbrev rL:Stmt:=(cA (top 71)).getD 8 (.Pass (0,0,0,0))
def qv(C CN CR:Addr):Sp:=λvs H Q _=>∃(F:Addr->Prop) (x bo:Addr) (nt:NT) (r:RS) (ad:js),vs=[.ref x]/\bS C CN CR F H x bo nt r ad/\Q (.ref bo) H
theorem HR(D:iM K CR "net" "Run.net" rL b0)(T:Tx K mg C CN CR F FD):cn P w K mg base CR "net" 1 b0 (qv C CN CR):=by
 exists b0;let(F,x,bo,b,r,ad,rfl,a,q):=h;have b:=hr.units;calc(_,(ak (aG (bP (aq 0) rfl))),?_);let(b,o,c,d):=a.ins;left;calc gn c T.ba T.cY rJ ?_;calc q
theorem vL{w:Nat}:∀{l:List Nat},w∈l->l[l.idxOf w]?=some w/\∀i y,i<l.idxOf w->l[i]?=some y->y≠w
 | [],h=>by simp at h
 |a::r,h=>by
  by_cases e:a=w
  .subst e;rw[List.idxOf_cons_self];exact(rfl,λi y c=>absurd c (Nat.not_lt_zero i))
  .have hr:w∈r:=by
    rcases List.mem_cons.mp h with h|h
    .exact absurd h.symm e
    .exact h
   let(d,g):=vL hr;have j:(a::r).idxOf w=r.idxOf w+1:=by rw[List.idxOf_cons,beq_eq_false_iff_ne.mpr e];rfl
   rw[j];refine((d:),λi y c b=>?_)
   cases i with
   |zero=>simp at b;subst b;calc e
   |succ i=>calc g i y () (b:)
theorem ua{nt:NT}(h:nt.Ok){w:Nat}(a:w<nt.ws.length):(nt.w w).2.1=((nt.goal w:Nat):Int):=by
 have:=h.wy a;unfold NT.goal;lia
theorem Mf(h:nt.Ok){w:Nat}(a:w<nt.ws.length):w∈wK nt 1 (nt.goal w):=by
 unfold wK;rw[List.mem_filter];calc(List.mem_range.mpr a,?_);rw[abT];calc ua h a
theorem qw(h:nt.Ok){w:Nat}(a:w<nt.ws.length):(wK nt 1 (nt.goal w)).idxOf w=nt.place w:=by
 unfold NT.place;rw[ua h a];rfl
theorem x6{l:List Nat}:(l.map λi=>V.int (i:Nat))=(l.map λi=>((i:Nat):Int)).map V.int:=by simp[List.map_map]
theorem Qx{r:RS}{w k:Nat}:∀t i,i<n.n t->setC (setC (setC (setC (setC r.ct 0 0 (.l (r.picks.map pairD++[pairD (((w:Int)),(k:Int))]))) 6 w (.l (((r.ww w).cE.map nQ).set k (nQ (some (n.ev r w)))))) 1 (n.goal w) (.l ((r.mm (n.goal w)).fH.map u9++[u9 (((n.work r w k).ns),(n.work r w k).row)]))) 3 (n.goal w) (.l (((r.mm (n.goal w)).wp.bM []).map .int++(n.work r w k).words.map .int))) 2 (n.goal w) (.l (((r.mm (n.goal w)).wp.map λu=>DV.int (u.length:Nat))++[.int ((((r.mm (n.goal w)).wp.bM []++(n.work r w k).words).length:Nat))])) t i=(r.step n w k).ct t i:=by
 intro t i a;unfold setC
 match t,a with
 |0,a=>
  have:i=0:=by have:i<1:=a;lia
  subst this;simp[RS.ct,RS.step]
 |1,_=>by_cases e:i=n.goal w<;>simp[RS.ct,RS.step,e]
 |2,_=>by_cases e:i=n.goal w<;>simp[RS.ct,RS.step,e]
 |3,_=>by_cases e:i=n.goal w<;>simp[RS.ct,RS.step,e,u7]
 |4,_=>by_cases e:i=w<;>simp[RS.ct,RS.step,e]
 |5,_=>by_cases e:i=w<;>simp[RS.ct,RS.step,e]
 |6,_=>by_cases e:i=w<;>simp[RS.ct,RS.step,e,List.map_set]
 |(t+7),a=>calc absurd a (Nat.not_lt_zero i)
theorem FK{nt:NT}(d:nt.Ok)(h:r.Ok nt){w:Nat}(f:w<nt.ws.length):∀a c,some (nt.ev r w)=some ((a),c)->0<=a/\a<nt.ms.length/\1<=c/\c<=((r.step nt w k).mm a.toNat).hr.length:=by
 have b:=d.jz f;intro a c e
 cases e;refine((),(),?_,?_)
 .have:=h.y6 b;lia
 .have d:(r.step nt w k).mm (nt.goal w)=((r.mm (nt.goal w)).fH++[(((nt.work r w k).ns),(nt.work r w k).row)],(r.mm (nt.goal w)).wp++[(r.mm (nt.goal w)).wp.bM []++(nt.work r w k).words],(r.mm (nt.goal w)).hr++[nt.gH r w k]):=if_pos rfl;rw[show((nt.goal w:Nat):Int).toNat=nt.goal w from aal _,d,h.lh _ b];simp
theorem rM:∀(ps:jr) {r:RS}{p:Int×Int},r.send outs ev (ps++[p])=(r.send outs ev ps).send outs ev [p]
 | [],r,p=>rfl
 |q::ps,r,p=>rM ps
structure BF(F:Addr->Prop)(n:Nat->Nat)(ad:js)(A B H:Hp)(ct:Nat->Nat->CO):Prop where
 b:dZ F H n ad ct
 f:Fr (FP n ad) A H
 g:Fr (FP n ad) B H
theorem BF.same{F:Addr->Prop}{B:Hp}(h:BF F n ad A B H ct)(s:au H H'):BF F n ad A B H' ct:=(h.b.same s,h.f.trans s.fr,h.g.trans s.fr)
theorem BF.app{F:Addr->Prop}{B:Hp}(h:BF F n ad A B H ct)(a:i<n t){d:List DV}(e:ct t i=.l d)(c:H (ad t i)=some (.lst vs))(g:fz (kg (λb=>F b\/FP n ad b) H) 4 us j):BF F n ad A B (upd H (ad t i) (.lst (vs++us))) (setC ct t i (.l (d++j))):=(h.b.app a e c g,h.f.upd (t,i,a,rfl) c trivial,h.g.upd (t,i,a,rfl) c trivial)
noncomputable abbrev jT:Stmt:=(cA (top 71)).getD 7 (.Pass (0,0,0,0))
inductive Mg(C CN CR:Addr)(vs:List V)(H:Hp)(Q:VK):Prop
 |mk (F:Addr->Prop) (x bo:Addr) (nt:NT) (r:RS) (ad:js) (wy k:Nat) (a:V) (h0:vs=[.ref x,.int (wy:Nat),.int (k:Nat),a]) (h1:bS C CN CR F H x bo nt r ad) (h2:FS F H) (h3:r.Ok nt) (h4:r.Qw nt wy k) (h5:r.picks.length<=400) (h6:∀t H',Fr (FP nt.n ad) H H'->bS C CN CR F H' x bo nt (r.pick nt wy k) ad->HT H' 1 t (pairD (nt.ev r wy))->Q t H'):Mg C CN CR vs H Q
def zu(C CN CR:Addr):Sp:=λvs H Q _=>Mg C CN CR vs H Q
theorem wN(D:iM K CR "pick_at" "Run.pick_at" jT ah)(T:Tx K mg C CN CR F FD)(gP:cn P w K mg base C "worked" 3 fw (xZ K C))(bx:cn P w K mg base CN "machines" 1 b0 (fI CN))(dC:cn P w K mg base CN "ways" 1 b0 (qo CN))(jU:cn P w K mg base CN "ways_in" 4 bQ (vH C CN))(je:cn P w K mg base CN "ways_out" 4 bQ (sV C CN))(iB:cn P w K mg base CR "need_pick" 5 ah (Se C CN CR))(dj:cn P w K mg base CR "put_letter" 1 dt (vI C CN CR))(my:cn P w K mg base CR "state" 4 bQ (Sg C CN CR)):cn P w K mg base CR "pick_at" 6 ah (zu C CN CR):=by
 exists["self","way","number","at","m","place","machine","state","sent","words","event","ways_out","j","said"];let(F,x,bo,m,r,ad,B,k,a,rfl,J,nM,L,hc,o,q):=h;have o:=hr.units;refine(_,(ai (bX (eR iB T.ba hr (aq 0) (ag (aq 1) (ag (aq 2) (ag (aq 3) aa)))))
  (ai (bf (i:=4) sc rfl Sort (ao o (ao o (dW dC T.cT hr (bP (aq 0) rfl)) (aq 1)) aj))
  (ai (bf (i:=5) sc rfl Sort (dw pP PySem.F.slot_list_index PySem.F.type_list_index xN (eR jU T.cT hr (bP (aq 0) rfl) (ag (aq 4) aa)) (ag (aq 1) aa)))
  (ai (bf (i:=6) sc rfl Sort (ao o (dW bx T.cT hr (bP (aq 0) rfl)) (aq 4)))
  (ai (dS (eR gP T.cX hr (aq 6) (ag (eR my T.ba hr (aq 0) (ag (aq 4) aa)) (ag (aq 5) (ag (ao o (ao o (bP (aq 0) rfl) (aq 1)) (aq 2)) aa)))) (va (i:=7) (j:=8) (l:=9) rfl sc rfl rfl rfl Sort Sort Sort))
  (ai (bf (i:=10) sc rfl Sort (bD (ag (aq 4) (ag (aX aM rfl T.bO Y' (ag (ao o (bP (aq 0) rfl) (aq 4)) aa)) aa))))
  (ai (bX (dw pP sF sL cj (bP (aq 0) rfl) (ag (bD (ag (aq 1) (ag (aq 2) aa))) aa)))
  (ai (dS (aq 10) (iS (ao o (bP (aq 0) rfl) (aq 1)) (aq 2) dU))
  (ai (bX (dw pP sF sL cj (ao o (bP (aq 0) rfl) (aq 4)) (ag (aq 7) aa)))
  (ai (bX (dw pP PySem.F.slot_list_extend PySem.F.type_list_extend Po (ao o (bP (aq 0) rfl) (aq 4)) (ag (aq 9) aa)))
  (ai (bX (dw pP sF sL cj (ao o (bP (aq 0) rfl) (aq 4)) (ag (aX aM rfl T.bO Y' (ag (ao o (bP (aq 0) rfl) (aq 4)) aa)) aa)))
  (ai (bf (i:=11) sc rfl Sort (eR je T.cT hr (bP (aq 0) rfl) (ag (aq 4) aa)))
  (ai (cZ PassesOwn.never rfl (bR (pv 8)) (fb (i:=12) (j:=13) rfl sc rfl rfl Sort Sort)
  (ak (aW (aC gr (aq 12) (aX aM rfl T.bO Y' (ag (aq 11) aa)) (aI _)) (ak (bX (eR dj T.ba hr (aq 0) (ag (ao o (aq 11) (aq 12)) (ag (aq 13) (ag (aq 10) aa)))))) aK)))
  (ak (aG (aq 10)))))))))))))))),?_)
 nofun;let(dx,o,M,ho):=J.ins;have hn:=J.Mb;have S:=hn.ok;let((ms,wv,lv,hf,o,zo,Me),_):=id hn;let(o,a1,b1,c1,g1,g2,g3,g4):=id hf;ac_rfl;left;calc ic M (eB ⋯) ?_;calc(_,x,bo,m,r,ad,B,k,a,rfl,J,L,hc,λH1 s1=>?_);nofun;have I:=hc.lt;have G:=S.jz I;let(o,wk2,wk3,wk4):=tZ S L I k;ac_rfl;left;calc gn (s1 _ _ M) T.ba T.cY rJ ?_;left;calc ic (s1 _ _ g1) (fu ⋯ ⋯ ⋯) ?_;calc fQ bo ms wv lv rfl (hf.same s1) (λl o=>?_);have s2:au H (upd H1 l (.lst wv)):=s1.trans (au.new _ o);have el:upd H1 l (.lst wv) l=some (.lst wv):=af;nofun;generalize LP:upd H1 l (.lst wv)=H2 at *;have o:m.ws[B]?=some (m.w B):=aP I;have lN:B<wv.length:=by have:=Me.1;simp at this;lia
 have zp:=(Me.2 B wv[B] (mf (m.w B)) nofun (by rw[K',o];rfl)).aL s2.aR;let(ta,u1,u2,u3,kk,eta,tJ,q1,q2,q3):=bV zp;obtain rfl:=q1.cF;obtain rfl:=q2.cF;obtain rfl:=q3.c8;ac_rfl;left;calc bH el (aA (j:=B) (v:=.ref ta) (by rw[<-eta];simp)) ?_;calc cL tJ (show hV _ 1=some (.int ((m.goal B:Nat):Int)) from by rw[<-ua S I];calc aA (j:=1) rfl) ?_;left;calc gn (s2 _ _ M) T.ba T.cY rJ ?_;left;calc ic (s2 _ _ g1) (fu ⋯ ⋯ ⋯) ?_;calc(bo,m,m.goal B,rfl,hn.fr (Z:=λ_=>False) s2.fr,G,λl2 H3 Oq o XH=>?_);have s3:=s2.trans Oq;calc(.inl (rfl,_,aS.of XH),?_);let(o,ix2):=vL (Mf S I);refine(l2,_,m.place B,B,rfl,rfl,by rw[XH,x6],?_,?_,?_)
 .rw[K',<-qw S I,o];rfl
 .intro i y hi hy;rw[K']at hy;let(z,hz,rfl):=jb hy;have:=ix2 i z (by rw[qw S I];calc hi) hz;lia
 left;calc gn (s3 _ _ M) T.ba T.cY rJ ?_;left;calc ic (s3 _ _ g1) (fu ⋯ ⋯ ⋯) ?_;calc fQ bo ms wv lv rfl (hf.same s3) (λl4 o=>?_);have U:au H (upd H3 l4 (.lst (ms.map V.ref))):=s3.trans (au.new _ o);have el4:upd H3 l4 (.lst (ms.map V.ref)) l4=some (.lst (ms.map V.ref)):=af;generalize hG4:upd H3 l4 (.lst (ms.map V.ref))=H4 at *;have HQ:m.goal B<ms.length:=();have o:m.ms[m.goal B]?=some (m.ms.getD (m.goal B) default):=aP G;have FL:=(zo (m.goal B) ms[m.goal B] _ (cJ HQ) o).same U;have Qy:=S.gd G;left;calc bH el4 (aA (j:=m.goal B) (v:=.ref ms[m.goal B]) (by rw[K',cJ HQ];rfl)) ?_;left;nofun;generalize ms[m.goal B]=mch at *;let(dm,o,y,Of,hm2,hm3):=id FL;ac_rfl;calc ic Of (Fo ⋯ ⋯ ⋯) ?_;calc ic (U _ _ M) (eB ⋯) ?_;calc(_,x,bo,m,r,ad,m.goal B,rfl,J.same U,L,G,λsv Mc=>?_);have l4':=U _ _ (ho 4 ∅ ∅).1;nofun;let(o,e4,d4):=(J.cU.same U).lst (t:=4) (i:=B) I rfl;have z4:=d4.u6;subst z4;ac_rfl;have uS:k<(r.ww B).say.length:=by rw[L.lk B I];exact(iF hc.lies).1
 left;calc gn (U _ _ M) T.ba T.cu Qv ?_;left;calc bH l4' (bz I) ?_;calc bH e4 (aA (j:=k) (v:=.int ((r.ww B).say.getD k 0)) (by rw[K',aP (d:=0) uS];rfl)) ?_;have o:=L.last G;calc(mch,sv,_,_,_,_,_,_,_,_,rfl,FL,AY.of Mc,Qy.m2,Qy.m12,o.bn,o.lr,Qy.d24,by rw[o.ln];calc Qy.ok,λy X VU VW=>?_);have s5:=U.trans VU;nofun;let(rp,Ot,XI,Sh,zs,rfl,hrp,D0,VX,oM,D7,fl1,agf,o):=VW.ex
 replace D0:HT X 2 Ot (AW (m.work r B k).ns (m.work r B k).row):=D0
 replace oM:SL X zs (m.work r B k).cM:=oM
 replace D7:X Sh=some (.lst ((m.work r B k).words.map V.int)):=D7
 ac_rfl;calc un3 (bI.of hrp) ?_;left;calc gn (s5 _ _ M) T.ba T.cp L9 ?_;have b5:=J.cU.same s5;have i0:0<m.n 0:=by show 0<1;decide
 let(o,e1,d1):=b5.lst (t:=1) (i:=m.goal B) G rfl;have z1:o.length=(r.mm (m.goal B)).fH.length:=(d1.1:)
 left;calc bH (s5 _ _ (ho 1 ∅ ∅).1) (bz G) ?_;calc iy _ (.inl (_,aS.of e1,rfl)) dO (λev o=>?_);rw[z1];have s6:au H (upd X ev (.tup [.int ((m.goal B:Nat):Int),.int (((r.mm (m.goal B)).fH.length:Nat):Int)])):=s5.trans (au.new _ o);have s56:au X (upd X ev (.tup [.int ((m.goal B:Nat):Int),.int (((r.mm (m.goal B)).fH.length:Nat):Int)])):=au.new _ o;have agi:HT (upd X ev (.tup [.int ((m.goal B:Nat):Int),.int (((r.mm (m.goal B)).fH.length:Nat):Int)])) 1 (.ref ev) (pairD (m.ev r B)):=dA (n:=0) af (.int _) (.int _);generalize hG6:upd X ev (.tup [.int ((m.goal B:Nat):Int),.int (((r.mm (m.goal B)).fH.length:Nat):Int)])=H6 at *;have b6:=J.cU.same s6;left;calc gn (s6 _ _ M) T.ba T.df aao ?_;let(v0,e0,d0):=b6.lst (t:=0) (i:=0) i0 rfl;have o:v0.length=r.picks.length:=(d0.1:)
 left;calc ie (.inl (rfl,_,aS.of e0)) dO (λtp Cq=>?_);left;have s7:au H (upd H6 tp (.tup [.int ((B:Nat):Int),.int ((k:Nat):Int)])):=s6.trans (au.new _ Cq);have zX:au H6 (upd H6 tp (.tup [.int ((B:Nat):Int),.int ((k:Nat):Int)])):=au.new _ Cq;have agj:HT (upd H6 tp (.tup [.int ((B:Nat):Int),.int ((k:Nat):Int)])) 1 (.ref tp) (pairD (((B:Int)),(k:Int))):=dA (n:=0) af (.int _) (.int _);generalize hG7:upd H6 tp (.tup [.int ((B:Nat):Int),.int ((k:Nat):Int)])=H7 at *;have b7:=J.cU.same s7;have FS7:FS F H7:=nM.fr (Z:=λ_=>False) s7.fr (λ_ _ h=>h);have e07:=zX _ _ e0;have XJ:=s56.trans zX;calc iy v0 e07 (small ()) ?_;have R:=(BF.mk b7 s7.fr (Fr.refl:Fr (FP m.n ad) H7 H7)).app (t:=0) (i:=0) i0 rfl e07 (fz.one ((b7.ht FS7 agj).mono ∅));generalize hG8:upd H7 (ad 0 0) (.lst (v0++[.ref tp]))=H8 at *;have o6:=ho 6 ∅ ∅;have o1:=ho 1 ∅ ∅;have o2:=ho 2 ∅ ∅;have o3:=ho 3 ∅ ∅;left;calc gn (R.f.nO M id) T.ba T.dB Ma ?_;let(v6,e6,d6):=R.b.lst (t:=6) (i:=B) I rfl;have o:v6.length=(r.ww B).cE.length:=(d6.1:)
 have hk6:k<v6.length:=by rw[o,<-L.lk B I];exact uS
 left;calc bH (R.f.at o6.1 o6.2.2) (bz I) ?_;left;calc d7 v6 k e6 (mq hk6) ?_;have aat:=agi.aL zX.aR;have Y:=BF.mk (R.b.set (t:=6) (i:=B) I rfl e6 (k:=k) ((R.b.ht (nM.fr R.f J.cU.zr) (aat.aL R.g.aR)).mono ∅)) (R.f.upd (6,B,I,rfl) e6 trivial) (R.g.upd (6,B,I,rfl) e6 trivial);generalize hG9:upd H8 (ad 6 B) (.lst (v6.set k (.ref ev)))=H9 at *;left;calc gn (Y.f.nO M id) T.ba T.cp L9 ?_;let(v19,e19,d19):=Y.b.lst (t:=1) (i:=m.goal B) G rfl;have o:v19.length=(r.mm (m.goal B)).fH.length:=(d19.1:)
 have o:=L.bp _ G;left;calc bH (Y.f.at o1.1 o1.2.2) (bz G) ?_;calc(.inl (rfl,_,aS.of e19),?_);left;calc iy v19 e19 (small ()) ?_;have JZ:=Y.app (t:=1) (i:=m.goal B) G rfl e19 (fz.one (show HD _ 4 Ot (u9 (((m.work r B k).ns),(m.work r B k).row)) from(Y.b.ht (nM.fr Y.f J.cU.zr) ((D0.aL XJ.aR).aL Y.g.aR)).mono ∅));have Mh:¬FP m.n ad XI:=λz=>by
  let(u,e,_):=(J.cU.same U).fp z;rw[fl1]at e;cases e
 have VY:¬FP m.n ad Sh:=λz=>by
  let(u,e,_):=(J.cU.same U).fp z;rw[agf]at e;cases e
 generalize aau:upd H9 (ad 1 (m.goal B)) (.lst (v19++[Ot]))=IV at *;left;calc gn (JZ.f.nO M id) T.ba T.dg aap ?_;let(v3,e3,d3):=JZ.b.lst (t:=3) (i:=m.goal B) G rfl;have o:=d3.u6;have y:=L.bw _ G _ (iP (l:=(r.mm (m.goal B)).wp) (d:=[]) (by rw[<-L.lw _ G];calc L.y6 G));have l:v3.length=((r.mm (m.goal B)).wp.bM []).length:=by rw[o];simp
 left;calc bH (JZ.f.at o3.1 o3.2.2) (bz G) ?_;calc(.inl (rfl,_,aS.of e3),?_);left;calc y7 v3 _ e3 (JZ.g.at (XJ _ _ D7) VY) (T' (small (by simp;lia))) ?_;have xB:=JZ.app (t:=3) (i:=m.goal B) G rfl e3 (fz.ints (m.work r B k).words);have agm:upd IV (ad 3 (m.goal B)) (.lst (v3++(m.work r B k).words.map V.int)) (ad 3 (m.goal B))=some (.lst (v3++(m.work r B k).words.map V.int)):=af;generalize aav:upd IV (ad 3 (m.goal B)) (.lst (v3++(m.work r B k).words.map V.int))=H11 at *;left;calc gn (xB.f.nO M id) T.ba T.eJ af3 ?_;let(v2,e2,d2):=xB.b.lst (t:=2) (i:=m.goal B) G rfl;have l:v2.length=(r.mm (m.goal B)).wp.length:=(d2.1:)
 have l:=L.lw _ G;left;calc bH (xB.f.at o2.1 o2.2.2) (bz G) ?_;calc(.inl (rfl,_,aS.of e2),?_);left;calc gn (xB.f.nO M id) T.ba T.dg aap ?_;left;calc bH (xB.f.at o3.1 o3.2.2) (bz G) ?_;calc bN _ (.inl (_,aS.of agm,rfl)) ?_;left;calc iy v2 e2 (small ()) ?_;rw[show(v3++(m.work r B k).words.map V.int).length=((r.mm (m.goal B)).wp.bM []++(m.work r B k).words).length by simp;lia];have Cz:=xB.app (t:=2) (i:=m.goal B) G rfl e2 (fz.one (.int (((r.mm (m.goal B)).wp.bM []++(m.work r B k).words).length:Nat)));generalize aaw:upd H11 (ad 2 (m.goal B)) (.lst (v2++[.int (((r.mm (m.goal B)).wp.bM []++(m.work r B k).words).length:Nat)]))=H12 at *;have aay:bS C CN CR F H12 x bo m (r.step m B k) ad:=J.own Cz.f (Cz.b.congr Qx);have aaz:SL H12 zs (m.work r B k).cM:=(oM.aL XJ.aR).aL Cz.g.aR;have ql:=Cz.g.at (XJ _ _ VX) Mh;have aaA:=aat.aL Cz.g.aR;have W:=Cz.f;clear b5 b6 b7 R Y JZ xB Cz d0 d1 d2 d3 d4 d6 d19 hG8 hG9 aau aav aaw;left;calc gn (W.nO M id) T.ba T.cY rJ ?_;left;calc ic (W.nO g1 id) (fu ⋯ ⋯ ⋯) ?_;calc(bo,m,m.goal B,rfl,hn.fr W,G,λlo H13 rH flo Mi=>?_);have nlo:¬FP m.n ad lo:=λz=>by
  let(u,e,_):=aay.cU.fp z;rw[flo]at e;cases e
 left;have o:=aay.same rH;have l:=rH _ _ ql;have Si:=aaA.aL rH.aR;have Sj:=aaz.aL rH.aR;have QA:zs.length=(m.work r B k).cM.length:=Sj.1;have f13:=W.trans rH.fr;have VZ:=L.step S I (k:=k);have V0:∀a c,some (m.ev r B)=some ((a),c)->0<=a/\a<m.ms.length/\1<=c/\c<=((r.step m B k).mm a.toNat).hr.length:=FK S L I;refine(_,rfl,.inl ((_,aS.of l),fA (K:=K) (xs:=zs) (λi σ H'=>(∃V1 V2,σ=[some (V.ref x),some (V.int ((B:Nat):Int)),some (V.int ((k:Nat):Int)),some a,some (V.int ((m.goal B:Nat):Int)),some (V.int ((m.place B:Nat):Int)),some (V.ref mch),some Ot,some (V.ref XI),some (V.ref Sh),some (V.ref ev),some (V.ref lo),V1,V2])/\Fr (FP m.n ad) H13 H'/\bS C CN CR F H' x bo m ((r.step m B k).send (m.outs (m.goal B)) (m.ev r B) ((m.work r B k).cM.take i)) ad) ?_ ?_ ?_ ?_))
 .exact((_,_,rfl),Fr.refl,o)
 .rintro i σ H' hi ⟨_,N,_⟩;exact aS.of (N.at l Mh)
 .intro i z σ H' hz iz;nofun;let((V1,V2,rfl),N,tL):=iz;have l:i < zs.length:=(iF hz).1;have l:i < (m.work r B k).cM.length:=();have o:(m.work r B k).cM[i]?=some (m.work r B k).cM[i]:=cJ l;have Qi:=wk4 _ (aaJ l);have V3:=(Sj.2 i z _ hz o).aL N.aR;have QB:(r.step m B k).send (m.outs (m.goal B)) (m.ev r B) ((m.work r B k).cM.take (i+1))=((r.step m B k).send (m.outs (m.goal B)) (m.ev r B) ((m.work r B k).cM.take i)).send (m.outs (m.goal B)) (m.ev r B) [(m.work r B k).cM[i]]:=by
   rw[acY,o];exact rM _
  generalize (m.work r B k).cM[i]=p at *;let(O,px):=p;let(tz,u1,u2,kz,rfl,II,y1,y2):=dP V3;obtain rfl:=y1.cF;obtain rfl:=y2.cF;ac_rfl;calc vf (bI.of II) ?_;have aaD:=N.at Mi nlo;left;calc bN _ (.inl (_,aS.of aaD,rfl)) ?_;left;have l:((wK m 0 (m.goal B)).map λi=>V.int ((i:Nat):Int)).length=(m.outs (m.goal B)).length:=by rw[V'];rfl
  rw[l];have o:O.toNat=O.toNat:=rfl;have ej:((O.toNat:Nat):Int)=O:=abX Qi;by_cases iN:O<((m.outs (m.goal B)).length:Nat)
  .rw[if_pos (iN:)];have RT:O.toNat < (m.outs (m.goal B)).length:=();have ub:(m.outs (m.goal B)).getD O.toNat 0<m.ws.length:=by
    have:=getD_mem (d:=0) RT;unfold NT.outs at this ⊢;rw[List.mem_filter,ac9]at this;exact this.1
   left;let(o,u,l,y):=tL.ins;calc ic l (eB ⋯) ?_;refine bH aaD (show hV _ O=some (.int (((m.outs (m.goal B)).getD O.toNat 0:Nat):Int)) from by
    rw[<-ej];calc aA ?_;rw[K'];show Option.map _ (m.outs (m.goal B))[_]?=_;rw[aal,aP (d:=0) RT];rfl) ?_
   have l:=(RS.v9.send (outs:=m.outs (m.goal B)) (ev:=m.ev r B) ((m.work r B k).cM.take i) VZ V0).mono (show _<=19999 by simp;lia);calc(F,x,bo,m,_,ad,_,px,.ref ev,some (m.ev r B),rfl,tL,nM.fr (f13.trans N) J.cU.zr,ub,(Si.aL N.aR).mono ∅,l,λH'' f2 hR2=>?_);left;calc ie (_,_,rfl,rfl) (N.trans f2) ?_;rw[QB];show bS C CN CR F H'' x bo m (if O.toNat<_ then _ else _) ad;rw[if_pos RT];exact hR2
  .rw[if_neg (iN:)];left;calc ie (_,_,rfl,rfl) N ?_;rw[QB];show bS C CN CR F H' x bo m (if O.toNat<_ then _ else _) ad;rw[if_neg ()];exact tL
 .intro σ H' iY;let((V1,V2,rfl),N,tL):=iY;left;rw[QA,aaP]at tL;calc q _ _ (f13.trans N) tL (Si.aL N.aR)
noncomputable def _root_.DD.RS.Ou(r:RS)(w:Nat):List Nat:=(List.range (r.ww w).say.length).filter λk=>((r.ww w).cE.getD k none).isNone
theorem jC{p:Nat->Bool}:(List.range (i+1)).filter p=(List.range i).filter p++(if p i=true then[i] else[]):=by
 rw[ac2,acX];congr 1
 cases h:p i<;>simp[h]
theorem Mj(c:∀b,Z b->∃o,H b=some o/\soft o){d:DV}(g:HT H m x d):HD (kg Z H) m x d:=by
 calc HT.hd (g.aL λb h e=>?_);rw[iu (λz=>by
  let(o,a,f):=c b z;rw[e] at a;cases a;calc f)]
 calc e
structure vN(H0 H':Hp)(D:Addr)(as:List Addr)(n:Nat)(ct:Nat->Hp->List V->Prop):Prop where
 len:as.length=n
 nd:as.Nodup
 new:∀a∈as,H0 a=none/\a≠D
 ins:∀(j:Nat) a,as[j]?=some a->∃vs,H' a=some (.lst vs)/\ct j H' vs
theorem vN.nil:vN H0 H' D [] 0 ct:=(rfl,List.nodup_nil,λa h=>by simp at h,λj a h=>by simp at h)
theorem vN.snoc(h:vN H0 H1 D as n ct)(p:au H0 H1)(q:H1 D≠none)(g:H1 a=none)(e:H' a=some (.lst vs))(c:ct n H' vs)(s:∀b o,b≠D->H1 b=some o->H' b=some o)(f:∀j vs,ct j H1 vs->ct j H' vs):vN H0 H' D (as++[a]) (n+1) ct:=by
 refine(by simp[h.len],?_,λb d=>?_,λj b d=>?_)
 .rw[List.nodup_append];calc ie h.nd nofun (λb d c l=>?_);simp at l;subst l;intro z;subst z;let(j,k):=acw d;let(vs,i,_):=h.ins j b k;rw[g]at i;cases i
 .rcases List.mem_append.mp d with d | d
  .exact h.new b d
  .simp at d;subst d;refine(?_,λz=>q (z ▸ g))
   cases r:H0 b with
   |none=>rfl
   |some o=>rw[p _ _ r]at g;cases g
 .by_cases k:j < as.length
  .rw[aag k]at d;let(vs,i,g):=h.ins j b d;exact(vs,s _ _ (h.new b (aaF d)).2 i,f _ _ g)
  .rw[aad ()] at d
   cases m:j-as.length with
   |zero=>
    rw[m]at d;simp at d;subst d;have:j=n:=by have:=h.len;lia
    subst this;calc(vs,e,c)
   |succ k=>rw[m]at d;simp at d
theorem vN.keep(h:vN H0 H1 D as n ct)(s:∀(b:Addr) (vs:List V),H1 b=some (.lst vs)->H' b=some (.lst vs))(c:∀j vs,ct j H1 vs->ct j H' vs):vN H0 H' D as n ct:=
 (h.len,h.nd,h.new,λj a e=>by
  let(vs,d,f):=h.ins j a e;calc(vs,s _ _ d,c _ _ f))
theorem mz(r:H l=some (.lst xs))(t:H D=none)(C:xs.length<=10)(v:∀x,Ext (wt ix σ) ((wt ix σ).set 0 (some x)))(d:∀g j (R:VK),(∀p,j p=none->R (.ref p) (upd j p (.lst vs)))->o g j R)(q:∀as H1,H1 D=some (.lst (as.map V.ref))->au H H1->vN H H1 D as xs.length (λ_ _ ws=>ws=vs)->Q (.ref D) H1):lX ix (xf K l) (fM 0) jw o σ H Q D:=by
 refine bu (n:=xs.length) (λi ys H'=>∃as:List Addr,ys=as.map V.ref/\au H H'/\vN H H' D as i (λ_ _ ws=>ws=vs)) (T' (small ())) ([],rfl,au.new _ t,vN.nil) ?_ ?_ ?_ ?_
 .rintro i ys H' k ⟨_,_,a,_⟩;exact(_,xs[i],aS.of (a _ _ r),cJ k)
 .rintro ys H' ⟨_,_,a,_⟩;exact(_,aS.of (a _ _ r),S' _)
 .intro i ys H' k c u w y F z;let(as,rfl,a,m):=w;let(rfl,g):=z;calc(v y,?_);simp only[jw,if_true];calc d _ _ _ λp g=>?_;have d:=au.new (.lst vs) g;have i:p≠D:=Ne.symm (av c g);refine b4 (d _ _ c) u k (T' (small ())) (as++[p],nofun,λb o e=>?_,?_)
  .rw[ay (av e t)];exact d _ _ (a _ _ e)
  .refine m.snoc a (by rw[c];simp) g (vs:=vs) ?_ rfl (λb o a e=>?_) (λj vs e=>e)
   .rw[ay i];exact af
   .rw[ay a];exact d _ _ e
 .intro ys H1 c u B;let(as,rfl,a,m):=B;calc q as H1 c a m
noncomputable abbrev oV:Stmt:=(cA (top 71)).getD 9 (.Pass (0,0,0,0))
inductive Sk(C CN CR:Addr)(vs:List V)(H:Hp)(Q:VK):Prop
 |mk (F:Addr->Prop) (x bo:Addr) (nt:NT) (r:RS) (ad:js) (wy k:Nat) (h0:vs=[.ref x,.int (wy:Nat),.int (k:Nat)]) (h1:bS C CN CR F H x bo nt r ad) (h2:FS F H) (h3:r.Ok nt) (h4:r.Qw nt wy k) (h5:r.picks.length<=400) (h6:∀t H',Fr (FP nt.n ad) H H'->bS C CN CR F H' x bo nt (r.pick nt wy k) ad->HT H' 1 t (pairD (nt.ev r wy))->Q t H'):Sk C CN CR vs H Q
def Ml(C CN CR:Addr):Sp:=λvs H Q _=>Sk C CN CR vs H Q
theorem D9(D:iM K CR "pick" "Run.pick" oV a0)(T:Tx K mg C CN CR F FD)(j:cn P w K mg base CR "pick_at" 6 ah (zu C CN CR)):cn P w K mg base CR "pick" 7 a0 (Ml C CN CR):=by
 exists a0;let(F,x,bo,b,r,ad,c,k,rfl,a,d,e,g,i,q):=h;have m:=hr.units;calc(_,(ak (aG (eR j T.ba hr (aq 0) (ag (aq 1) (ag (aq 2) (ag aj aa)))))),?_);let(m,o,l,n):=a.ins;left;calc ic l (eB ⋯) ?_;calc(F,x,bo,b,r,ad,c,k,_,rfl,a,d,e,g,i,q)
noncomputable abbrev jV:Stmt:=(cA (top 71)).getD 17 (.Pass (0,0,0,0))
def vO(C CN CR:Addr):Sp:=λvs H Q _=>∃(F:Addr->Prop) (x bo:Addr) (nt:NT) (r:RS) (ad:js) (a i:Nat),vs=[.ref x,.int a,.int i]/\bS C CN CR F H x bo nt r ad/\r.Ok nt/\a<nt.ws.length/\i<(r.ww a).say.length/\∀v,HT H 1 v (nQ ((r.ww a).snd.getD i none))->Q v H
theorem wO(D:iM K CR "sent_by" "Run.sent_by" jV a0)(T:Tx K mg C CN CR F FD)(o:cn P w K mg base CR "need_letter" 4 ah (FI C CN CR)):cn P w K mg base CR "sent_by" 5 a0 (vO C CN CR):=by
 exists a0;let(F,x,bo,k,r,ad,a,i,rfl,c,m,b,g,q):=h;have n:=hr.units;refine(_,(ai (bX (eR o T.ba hr (aq 0) (ag (aq 1) (ag (aq 2) (ag aj aa)))))
  (ak (aG (ao n (ao n (bP (aq 0) rfl) (aq 1)) (aq 2))))),?_)
 let(n,o,p,u):=c.ins;left;calc ic p (eB ⋯) ?_;calc(_,x,bo,k,r,ad,a,i,_,rfl,c,b,g,?_);left;have l:=(u 5 ∅ ∅).1;nofun;let(v,e,d):=c.cU.lst (t:=5) (i:=a) b rfl;have j:i<(r.ww a).snd.length:=by rw[<-m.ls a b];exact g
 let(u,y,z):=d.get (i:=i) (d:=nQ ((r.ww a).snd.getD i none)) (by rw[K',aP (d:=none) j];rfl);ac_rfl;calc gn p T.ba T.fF aaq ?_;left;calc bH l (bz b) ?_;calc bH e (aA y) ?_;calc q _ (FJ (z.cv dY))
noncomputable abbrev iC:Stmt:=(cA (top 71)).getD 18 (.Pass (0,0,0,0))
def zw(C CN CR:Addr):Sp:=λvs H Q _=>∃(F:Addr->Prop) (x bo:Addr) (nt:NT) (r:RS) (ad:js) (a i:Nat),vs=[.ref x,.int a,.int i]/\bS C CN CR F H x bo nt r ad/\r.Ok nt/\a<nt.ws.length/\i<(r.ww a).say.length/\∀v,HT H 1 v (nQ ((r.ww a).cE.getD i none))->Q v H
theorem tM(D:iM K CR "worked_by" "Run.worked_by" iC a0)(T:Tx K mg C CN CR F FD)(o:cn P w K mg base CR "need_letter" 4 ah (FI C CN CR)):cn P w K mg base CR "worked_by" 5 a0 (zw C CN CR):=by
 exists a0;let(F,x,bo,k,r,ad,a,i,rfl,c,m,b,g,q):=h;have n:=hr.units;refine(_,(ai (bX (eR o T.ba hr (aq 0) (ag (aq 1) (ag (aq 2) (ag aj aa)))))
  (ak (aG (ao n (ao n (bP (aq 0) rfl) (aq 1)) (aq 2))))),?_)
 let(n,o,p,u):=c.ins;left;calc ic p (eB ⋯) ?_;calc(_,x,bo,k,r,ad,a,i,_,rfl,c,b,g,?_);left;have l:=(u 6 ∅ ∅).1;nofun;let(v,e,d):=c.cU.lst (t:=6) (i:=a) b rfl;have j:i<(r.ww a).cE.length:=by rw[<-m.lk a b];exact g
 let(u,y,z):=d.get (i:=i) (d:=nQ ((r.ww a).cE.getD i none)) (by rw[K',aP (d:=none) j];rfl);ac_rfl;calc gn p T.ba T.dB Ma ?_;left;calc bH l (bz b) ?_;calc bH e (aA y) ?_;calc q _ (FJ (z.cv dY))
theorem aaH{C:Hp}{f:List (Str×V)}(c:List (Str×V))(s:au C H)(d:H x=some (.ins CR a f)):∃G,upd H x (.ins CR a c)=G/\G x=some (.ins CR a c)/\(∀b o,b≠x->C b=some o->G b=some o)/\(∀b vs,H b=some (.lst vs)->G b=some (.lst vs))/\cw H G:=(_,rfl,af,λb o n e=>by rw[ay n];calc s _ _ e,λb vs e=>by rw[ay (λz=>by rw[z,d]at e;cases e)];calc e,λb vs e=>by rw[ay (λz=>by rw[z,d]at e;cases e)];calc e)
theorem aaI{C:Hp}{d:Addr}(a:List (Key×V))(s:au C H):∃G,upd H d (.dK a)=G/\G d=some (.dK a)/\(∀b o,b≠d->C b=some o->G b=some o)/\(∀b o,b≠d->H b=some o->G b=some o):=(_,rfl,af,λb o n e=>by rw[ay n];calc s _ _ e,λb o n e=>by rw[ay n];calc e)
theorem rN:∀(ps:jr) {r:RS}{p:Int×Int},r.kr (ps++[p])=(r.kr ps).put p.1.toNat p.2 none
 | [],r,p=>rfl
 |q::ps,r,p=>rN ps
theorem Ea(j:nt.Ok):(RS.new nt).v9 nt 0:=by
 refine(λm e=>rfl,λm e=>rfl,λm e s d=>?_,λm e h f=>?_,λv i=>rfl,λv i=>rfl,λv i a c d=>?_,λm e=>S' _,λm e u b=>?_,λv i=>S' _,λm e u b=>?_)
 .have g:=j.gd e;have d:s ∈ [(((nt.ms.getD m default).ns),(nt.ms.getD m default).row)]:=d;simp at d;subst d;exact(rfl,g.bn,g.r12)
 .have f:h∈([]:List (List Int)):=f;simp at f
 .have d:some ((a),c)∈([]:List (Option (Int×Int))):=d;simp at d
 .have b:u∈([[]]:List (List Int)):=b;simp at b;subst b;exact S' _
 .have b:u∈([[]]:List (List Int)):=b;simp at b;subst b;calc List.nil_prefix
theorem uc:∀(ps:jr) {r:RS}{B:Nat},r.v9 nt B->(r.kr ps).v9 nt (B+ps.length)
 | [],r,B,h=>h
 |p::ps,r,B,h=>by
  have e:B+(p::ps).length=B+1+ps.length:=by simp;lia
  rw[e];calc uc ps (h.put (λa c z=>by cases z))
theorem vP:∀(ps:jr) {r:RS},(r.kr ps).picks=r.picks
 | [],r=>rfl
 |p::ps,r=>vP ps
theorem kC(a:nt.Ok)(h:ls.length<=20):(RS.begin nt ls).Ok nt/\(RS.begin nt ls).picks=[]:=by
 have e:(RS.begin nt ls).picks=[]:=vP ls;calc((uc ls (Ea a)).ok ?_,e);show 0+ls.length<=20+24*(RS.begin nt ls).picks.length;rw[e];simp;lia
structure sW(H0 H':Hp)(D:Addr)(as:List Addr)(n:Nat)(ct:Nat->Hp->HO->Prop):Prop where
 len:as.length=n
 nd:as.Nodup
 new:∀a∈as,H0 a=none/\a≠D
 ins:∀(j:Nat) a,as[j]?=some a->∃o,H' a=some o/\ct j H' o
theorem vN.o(h:vN H0 H' D as n ct):sW H0 H' D as n (λj H u=>∃vs,u=.lst vs/\ct j H vs):=(h.len,h.nd,h.new,λj a e=>by
 let(vs,a,b):=h.ins j a e;calc(_,a,_,rfl,b))
theorem vN.some(h:vN H0 H1 D as n ct)(s:au H1 H2):∀a∈as,H2 a≠none:=λa m=>by
 let(j,e):=acw m;let(b,e,_):=h.ins j a e;rw[s _ _ e];calc λz=>nomatch z
theorem FN{F:Addr->Prop}{c:Nat->Nat->CO}(g:Nat->Hp)(k:Nat->Nat)(p:Nat->List Addr)(o:Nat->Addr)(ct:Nat->Nat->Hp->HO->Prop)(W:∀t i,ad t i=(p t).getD i 0)(X:∀t,n (t+7)=0)(B:∀t t',t<=6->t'<=6->k t=k t'->t=t')(C:∀t b,g t b≠none->g (t+1) b≠none)(I:∀b,F b->g 0 b≠none/\∃u,G b=some u/\soft u)(q:∀t,t<=6->sW (g (k t)) G (o t) (p t) (n t) (ct t)/\(∀a∈p t,g (k t+1) a≠none)/\(1<=t->g (k t) (o t)=none/\g (k t+1) (o t)≠none))(Y:∀t i u,t<=6->ct t i G u->soft u)(Z:(∀b,F b\/FP n ad b->∃u,G b=some u/\soft u)->(∀s D,g s D=none->g (s+1) D≠none->(∀t,t<=6->k t=s->¬D∈p t)->¬(F D\/FP n ad D))->∀t i u,t<=6->i<n t->G (ad t i)=some u->ct t i G u->OR (kg (λb=>F b\/FP n ad b) G) (c t i) u):
  dZ F G n ad c/\(∀b,FP n ad b->g 0 b=none/\∃u,G b=some u/\soft u)/\∀t,1<=t->t<=6->¬F (o t)/\¬FP n ad (o t)/\(p t).map V.ref=jB n ad t:=by
 have r:∀t i,i<n t->t<=6:=λt i h=>Classical.byContradiction λz=>by
  have:=X (t-7);rw[show t-7+7=t by lia]at this;lia
 have up:∀(d t:Nat) (b:Addr),g t b≠none->g (t+d) b≠none:=λd=>by
  induction d with
  |zero=>calc λt b h=>h
  |succ d o=>exact λt b h=>C _ _ (o t b h)
 have v:∀s o b,s<=o->g s b≠none->g o b≠none:=λs o b h e=>by
  have:=up (o-s) s b e;rwa [show s+(o-s)=o by lia]at this
 have w:∀t i,i<n t->(p t)[i]?=some (ad t i)/\g (k t) (ad t i)=none/\g (k t+1) (ad t i)≠none/\∃u,G (ad t i)=some u/\ct t i G u:=λt i j=>by
  let(h,x,_):=q t (r t i j);have e:(p t)[i]?=some (ad t i):=by rw[W];exact aP (by rw[h.len];calc j)
  have m:=aaF e;exact(e,(h.new _ m).1,x _ m,h.ins _ _ e)
 have L:∀s D,g s D=none->g (s+1) D≠none->(∀t,t<=6->k t=s->¬D∈p t)->¬(F D\/FP n ad D):=λs D M x hn z=>by
  rcases z with z|⟨t,i,j,rfl⟩
  .exact v 0 s D (aam _) (I D z).1 M
  .let(e,J,y,_):=w t i j;rcases Nat.lt_trichotomy s (k t) with l | l | l
   .exact v _ _ _ l x J
   .exact hn t (r t i j) l.symm (aaF e)
   .exact v _ _ _ l y M
 have N:∀b,FP n ad b->g 0 b=none/\∃u,G b=some u/\soft u:=λb (t,i,j,e)=>by
  subst e;let(_,J,_,u,y,K):=w t i j;exact(Classical.byContradiction λz=>v 0 _ _ (aam _) z J,u,y,Y t i u (r t i j) K)
 refine((λt i t' O j P e=>?_,λt i j z=>?_,λt i j=>?_),N,λt x R=>?_)
 .let(a1,a2,a3,_):=w t i j;let(S,T,U,_):=w t' O P;rw[<-e]at S T U;have es:k t=k t':=by
   rcases Nat.lt_trichotomy (k t) (k t') with l|l|l
   .exact absurd T (v _ _ _ l a3)
   .exact l
   .exact absurd a2 (v _ _ _ l U)
  have:=B t t' (r t i j) (r t' O P) es;subst this;have h:=(q t (r t i j)).1;exact(rfl,(List.getElem?_inj (by rw[h.len];calc j) h.nd).mp (a1.trans S.symm))
 .exact v 0 _ _ (aam _) (I _ z).1 (w t i j).2.1
 .let(_,_,_,u,y,K):=w t i j;exact(u,y,Z (λb z=>z.elim (λh=>(I b h).2) λh=>(N b h).2) L t i u (r t i j) j y K)
 .let(h,_,g):=q t R;have:=L _ _ (g x).1 (g x).2 (λt' h' e m=>by
   have:=B t' t h' R e;subst this;calc(h.new _ m).2 rfl)
  calc(λz=>this (.inl z),λz=>this (.inr z),?_);unfold jB;apply ac8 (by simp[h.len]);intro j k g;have i:j<n t:=(g:)
  simp only[List.getElem_map,List.getElem_range];congr 1;calc(List.getElem_eq_iff _).mpr (w t j i).1
theorem QC{c:List Addr}{d e:List V}(h:ml CN H bo ms wv lv)(h':ml CN H bo c d e):lv=e:=by
 let(d,e,g,i,c,j,k,f):=h;let(d,e,g,i,a,j,k,b):=h';rw[c]at a
 cases a;rw[f]at b
 cases b;rfl
theorem zx{c:Addr}{p:Str×V}(h:some (HO.ins C a [])=some (HO.ins c b (p::l))):False:=by cases h
theorem nN{C:Hp}{c:List (Str×V)}(s:au C H)(d:C x=some (.ins CR h c))(k:wj K CR)(l:bZ K CR f)(m:c.length<n)(q:∀G,G x=some (.ins CR h (bT f v c))->(∀b o,b≠x->C b=some o->G b=some o)->(∀b vs,H b=some (.lst vs)->G b=some (.lst vs))->cw H G->(bT f v c).length<n+1->R G)(g:n<=1000:=by decide):∃a g j i,x=a/\H a=some (.ins g j i)/\wj K g/\bZ K g f/\i.length<1000/\R (upd H a (.ins g j (bT f v i))):=by
 have d:=s _ _ d;let(G,e,g,i,j,n):=aaH (bT f v c) s d;calc(x,CR,h,c,rfl,d,k,l,(),e▸q G g i j n (jM m))
noncomputable abbrev Mm:Stmt:=(cA (top 71)).getD 0 (.Pass (0,0,0,0))
inductive Mn(C CN CR:Addr)(vs:List V)(H:Hp)(Q:VK):Prop
 |mk (F:Addr->Prop) (x dx bo:Addr) (nt:NT) (ls:jr) (ms:List Addr) (wv lv:List V) (h0:vs=[.ref x,.ref bo]) (h1:H x=some (.ins CR dx [])) (h2:vE C CN H bo nt) (h3:ml CN H bo ms wv lv) (h4:fK H 1 lv (ls.map qm)) (h5:ls.length<=20) (h6:∀l∈ls,0<=l.1/\l.1<nt.ws.length) (nM:FS F H) (h7:∀ad H',(∀b o,b≠x->H b=some o->H' b=some o)->(∀b,FP nt.n ad b->H b=none)->bS C CN CR F H' x bo nt (RS.begin nt ls) ad->Q .bL H'):Mn C CN CR vs H Q
def zy(C CN CR:Addr):Sp:=λvs H Q _=>Mn C CN CR vs H Q
theorem aaK(D:Hd K mg "Run" CR "Run.__init__" Mm ["self","net"])(T:Tx K mg C CN CR F FD)(ff:cn P w K mg base C "first_state" 1 b0 (LQ C))(jW:cn P w K mg base CN "letters" 1 b0 (sT CN))(bx:cn P w K mg base CN "machines" 1 b0 (fI CN))(dC:cn P w K mg base CN "ways" 1 b0 (qo CN))(dj:cn P w K mg base CR "put_letter" 1 dt (vI C CN CR)):yV P w K mg base "Run" CR 2 ["self","net"] (zy C CN CR):=by
 exists["self","net","way","said"];let(FF,x,R,bo,k,ls,ms0,wv0,lv,rfl,S,hn,hf0,Om,tI,uy,nM,q):=h;have hu:=hr.units;refine(_,(ai (gq (aq 0) (aq 1) (hX rfl))
  (ai (gq (aq 0) (bE aa) (hX rfl))
  (ai (gq (aq 0) (dy (N':=hQ) (ix:=[none]) (bR (dW bx T.cT hr (aq 1))) (λ_ _ _ _=>(aT (i:=0) (iw hQ) rfl Sort)) nJ (λ_ _ _ _=>(bE (ag (dW ff T.cX hr (aq 0)) aa)))) rfl)
  (ai (gq (aq 0) (dy (N':=hQ) (ix:=[none]) (bR (dW bx T.cT hr (aq 1))) (λ_ _ _ _=>(aT (i:=0) (iw hQ) rfl Sort)) nJ (λ_ _ _ _=>(bE (ag aj aa)))) rfl)
  (ai (gq (aq 0) (dy (N':=hQ) (ix:=[none]) (bR (dW bx T.cT hr (aq 1))) (λ_ _ _ _=>(aT (i:=0) (iw hQ) rfl Sort)) nJ (λ_ _ _ _=>(bE aa))) rfl)
  (ai (gq (aq 0) (dy (N':=["way"]) (ix:=[none]) (bR (dW dC T.cT hr (aq 1))) (λ_ _ _ _=>(aT (i:=0) (iw ["way"]) rfl Sort)) nJ (λ_ _ _ _=>(bE aa))) rfl)
  (ai (gq (aq 0) (dy (N':=["way"]) (ix:=[none]) (bR (dW dC T.cT hr (aq 1))) (λ_ _ _ _=>(aT (i:=0) (iw ["way"]) rfl Sort)) nJ (λ_ _ _ _=>(bE aa))) rfl)
  (ai (gq (aq 0) (dy (N':=["way"]) (ix:=[none]) (bR (dW dC T.cT hr (aq 1))) (λ_ _ _ _=>(aT (i:=0) (iw ["way"]) rfl Sort)) nJ (λ_ _ _ _=>(bE aa))) rfl)
  (ak (cZ PassesOwn.never rfl (bR (dW jW T.cT hr (aq 1))) (fb (i:=2) (j:=3) rfl sc rfl rfl Sort Sort)
  (ak (bX (eR dj T.ba hr (aq 0) (ag (aq 2) (ag (aq 3) (ag gF aa)))))))))))))))),?_)
 have aY:=hn.ok;nofun;let((ms,wv,M,hf,nL,zo,Me),_):=id hn;let(dn,a1,b1,c1,y,g2,g3,g4):=id hf;have UY:M=lv:=QC hf hf0;subst UY;ac_rfl;have DQ:(ms.map V.ref).length<=5:=by simp[nL];exact aY.K4
 have lN:wv.length=k.ws.length:=(Me.1:)
 have tH:wv.length<=10:=by rw[lN];exact aY.Ho
 have N:bo≠x:=λz=>by rw[z,S]at y;exact zx y
 have Sm:a1≠x:=sO g2 S (λz=>nomatch z);have Sn:b1≠x:=sO g3 S (λz=>nomatch z);have So:c1≠x:=sO g4 S (λz=>nomatch z);left;calc Hu x CR R _ rfl S T.ba T.cY ∅ ?_;have hxa:upd H x (.ins CR R (bT "own_net" (.ref bo) [])) x=some (.ins CR R (bT "own_net" (.ref bo) [])):=af;have nxa:∀b o,b≠x->H b=some o->upd H x (.ins CR R (bT "own_net" (.ref bo) [])) b=some o:=λb o n e=>by rw[ay n];exact e
 generalize hGa:upd H x (.ins CR R (bT "own_net" (.ref bo) []))=Ga at *;left;calc(aam _,λp hp=>?_);generalize hGb:upd Ga p (.lst [])=Gb at *;let(sp0,ep0):=aaB hGb hp;left;calc Hu x CR R _ rfl (sp0 _ _ hxa) T.ba T.df (jM (n:=999) ∅) ?_;have V6:upd Gb x (.ins CR R (bT "picks_done" (.ref p) (bT "own_net" (.ref bo) []))) x=some (.ins CR R (bT "picks_done" (.ref p) (bT "own_net" (.ref bo) []))):=af;have ka:∀b o,b≠x->Ga b=some o->upd Gb x (.ins CR R (bT "picks_done" (.ref p) (bT "own_net" (.ref bo) []))) b=some o:=λb o n e=>by rw[ay n];exact sp0 _ _ e
 have npx:p≠x:=Ne.symm (av hxa hp);have ep:upd Gb x (.ins CR R (bT "picks_done" (.ref p) (bT "own_net" (.ref bo) []))) p=some (.lst []):=by rw[ay npx];exact ep0
 generalize hG0:upd Gb x (.ins CR R (bT "picks_done" (.ref p) (bT "own_net" (.ref bo) [])))=G0 at *;have LC:(bT "picks_done" (.ref p) (bT "own_net" (.ref bo) [])).length<3:=jM (jM (Nat.zero_lt_succ _));have Sr:∀b o,b≠x->H b=some o->G0 b=some o:=λb o n e=>ka b o n (nxa b o n e);left;calc bJ ?_;left;calc ic (Sr _ _ N y) (fu ⋯ ⋯ ⋯) ?_;calc fQ bo ms wv M rfl (dn,a1,b1,c1,Sr _ _ N y,Sr _ _ Sm g2,Sr _ _ Sn g3,Sr _ _ So g4) (λlm1 ags=>?_);generalize amL:upd G0 lm1 (.lst (ms.map V.ref))=X at *;let(V7,HS):=aaB amL ags;left;calc .inl ((_,aS.of HS),λD1 IT=>?_);refine bu (J:=xf K lm1) (n:=(ms.map V.ref).length) (λi ys H'=>∃as:List Addr,ys=as.map V.ref/\au X H'/\vN X H' D1 as i (λj H' vs=>∃v,vs=[v]/\HT H' 2 v (AW (k.ms.getD j default).ns (k.ms.getD j default).row))) (T' (small ())) ([],rfl,au.new _ IT,vN.nil) ?_ ?_ ?_ ?_
 .rintro i ys H' hi ⟨_,_,s3,_⟩;exact(_,(ms.map V.ref)[i],aS.of (s3 _ _ HS),cJ hi)
 .rintro ys H' ⟨_,_,s3,_⟩;exact(_,aS.of (s3 _ _ HS),S' _)
 .intro i ys H' hi l hl iz xx H4 iY;nofun;let(as,rfl,s3,hL):=iz;let(rfl,hy):=iY;ac_rfl;have ex:=hy _ (aS.of (s3 _ _ HS));calc(Ext.set (Ext.refl _) rfl,?_);left
  try rw[if_pos trivial]
  have him:i<ms.length:=(hi:)
  have exm:xx=.ref ms[i]:=by
   rw[K',cJ him]at ex
   cases ex;rfl
  nofun;subst exm;have QE:i<k.ms.length:=();have nmx:ms[i]≠x:=λz=>by
   let(d1,s1,d2,W,_):=zo i ms[i] _ (cJ him) (aP (d:=default) QE);rw[z,S]at W;exact zx W
  have IW:XA C H4 ms[i] (k.ms.getD i default):=by
   let(d1,s1,d2,W,w2,w3):=zo i ms[i] _ (cJ him) (aP (d:=default) QE);have tt:cw H H4:=λb xs e=>s3 _ _ (V7 _ _ (Sr b _ (λz=>by rw[z,S]at e;cases e) e));exact(d1,s1,d2,s3 _ _ (V7 _ _ (Sr _ _ nmx W)),w2.aL tt,w3.aL tt)
  let(d1,s1,d2,W,w2,w3):=id IW;ac_rfl;calc mth W (Fo ⋯ ⋯ ⋯) ?_;calc(ms[i],_,_,_,_,rfl,IW,λst pQ=>?_);left;calc(T' (small nofun),λp hp=>?_);have sN:=au.new (.lst [st]) hp;have nD:p≠D1:=Ne.symm (av l hp);refine b4 (sN _ _ l) hl hi (T' (small ())) (as++[p],nofun,λb o e=>?_,?_)
  .rw[ay (av e IT)];exact sN _ _ (s3 _ _ e)
  .refine hL.snoc s3 (by rw[l];simp) hp (vs:=[st]) ?_ (st,rfl,pQ.aL (λb xs e=>by rw[ay (λz=>by rw[z,l] at e;cases e)];calc sN _ _ e)) (λb o nb e=>?_) (λj vs (v,e,h)=>(v,e,h.aL (λb xs e=>by rw[ay (λz=>by rw[z,l] at e;cases e)];calc sN _ _ e)))
   .rw[ay nD];exact af
   .rw[ay nb];exact sN _ _ e
 intro ys H1 l hl qk;let(A1,rfl,sh1,hL1):=qk;left;calc nN sh1 (V7 _ _ V6) T.ba T.cp LC λG1 tW kd1 aaO agu LO=>?_;have eD1:=aaO _ _ l;have kg1:∀b o,b≠x->G0 b=some o->G1 b=some o:=λb o n e=>kd1 b o n (V7 _ _ e);have XM:∀b o,b≠x->H b=some o->G1 b=some o:=λb o n e=>kg1 b o n (Sr b o n e);have fD1:X D1=none:=IT;clear l;left;calc bJ ?_;left;calc ic (XM _ _ N y) (fu ⋯ ⋯ ⋯) ?_;calc fQ bo ms wv M rfl (dn,a1,b1,c1,XM _ _ N y,XM _ _ Sm g2,XM _ _ Sn g3,XM _ _ So g4) (λlm2 agx=>?_);generalize amO:upd G1 lm2 (.lst (ms.map V.ref))=Gd2 at *;let(XN,wQ):=aaB amO agx;left;calc .inl ((_,aS.of wQ),λD2 HU=>?_);calc mz (vs:=[V.int 0]) wQ HU () (λ_=>Ext.set (Ext.refl _) rfl) (λ_ _ _ r=>And.intro ∅ r) ?_;intro A2 H2 l XQ XR;left;calc nN XQ (XN _ _ tW) T.ba T.eJ LO λG2 Cy XS aaQ amP v8=>?_;have XT:=aaQ _ _ l;have kg2:∀b o,b≠x->G1 b=some o->G2 b=some o:=λb o n e=>XS b o n (XN _ _ e);have XU:∀b o,b≠x->H b=some o->G2 b=some o:=λb o n e=>kg2 b o n (XM b o n e);have fD2:Gd2 D2=none:=HU;clear l;left;calc bJ ?_;left;calc ic (XU _ _ N y) (fu ⋯ ⋯ ⋯) ?_;calc fQ bo ms wv M rfl (dn,a1,b1,c1,XU _ _ N y,XU _ _ Sm g2,XU _ _ Sn g3,XU _ _ So g4) (λlm3 agA=>?_);generalize amQ:upd G2 lm3 (.lst (ms.map V.ref))=Gd3 at *;let(XW,aaS):=aaB amQ agA;left;calc .inl ((_,aS.of aaS),λD3 x8=>?_);calc mz (vs:=[]) aaS x8 () (λ_=>Ext.set (Ext.refl _) rfl) (λ_ _ _ r=>And.intro ∅ r) ?_;intro A3 H3 l sh3 hL3;left;calc nN sh3 (XW _ _ Cy) T.ba T.dg v8 λG3 Oh kd3 aaV amR FO=>?_;have XX:=aaV _ _ l;have kg3:∀b o,b≠x->G2 b=some o->G3 b=some o:=λb o n e=>kd3 b o n (XW _ _ e);have XY:∀b o,b≠x->H b=some o->G3 b=some o:=λb o n e=>kg3 b o n (XU b o n e);have fD3:Gd3 D3=none:=x8;clear l;left;calc bJ ?_;left;calc ic (XY _ _ N y) (fu ⋯ ⋯ ⋯) ?_;calc fQ bo ms wv M rfl (dn,a1,b1,c1,XY _ _ N y,XY _ _ Sm g2,XY _ _ Sn g3,XY _ _ So g4) (λlm4 agD=>?_);generalize amS:upd G3 lm4 (.lst wv)=Gd4 at *;let(XZ,aaX):=aaB amS agD;left;calc .inl ((_,aS.of aaX),λD4 HV=>?_);calc mz (vs:=[]) aaX HV () (λ_=>Ext.set (Ext.refl _) rfl) (λ_ _ _ r=>And.intro ∅ r) ?_;intro A4 H4 l X0 hL4;left;calc nN X0 (XZ _ _ Oh) T.ba T.cu FO λG4 VJ kd4 aaZ amT Ob=>?_;have X1:=aaZ _ _ l;have kg4:∀b o,b≠x->G3 b=some o->G4 b=some o:=λb o n e=>kd4 b o n (XZ _ _ e);have X2:∀b o,b≠x->H b=some o->G4 b=some o:=λb o n e=>kg4 b o n (XY b o n e);have fD4:Gd4 D4=none:=HV;clear l;left;calc bJ ?_;left;calc ic (X2 _ _ N y) (fu ⋯ ⋯ ⋯) ?_;calc fQ bo ms wv M rfl (dn,a1,b1,c1,X2 _ _ N y,X2 _ _ Sm g2,X2 _ _ Sn g3,X2 _ _ So g4) (λlm5 agH=>?_);generalize amU:upd G4 lm5 (.lst wv)=Gd5 at *;let(X3,aa0):=aaB amU agH;left;calc .inl ((_,aS.of aa0),λD5 wa=>?_);calc mz (vs:=[]) aa0 wa () (λ_=>Ext.set (Ext.refl _) rfl) (λ_ _ _ r=>And.intro ∅ r) ?_;intro A5 H5 l X4 hL5;left;calc nN X4 (X3 _ _ VJ) T.ba T.fF Ob λG5 IS kd5 aa2 amV hl5=>?_;have X5:=aa2 _ _ l;have kg5:∀b o,b≠x->G4 b=some o->G5 b=some o:=λb o n e=>kd5 b o n (X3 _ _ e);have X6:∀b o,b≠x->H b=some o->G5 b=some o:=λb o n e=>kg5 b o n (X2 b o n e);have fD5:Gd5 D5=none:=wa;clear l;left;calc bJ ?_;left;calc ic (X6 _ _ N y) (fu ⋯ ⋯ ⋯) ?_;calc fQ bo ms wv M rfl (dn,a1,b1,c1,X6 _ _ N y,X6 _ _ Sm g2,X6 _ _ Sn g3,X6 _ _ So g4) (λlm6 agL=>?_);generalize amW:upd G5 lm6 (.lst wv)=Gd6 at *;let(X7,aa3):=aaB amW agL;left;calc .inl ((_,aS.of aa3),λD6 IX=>?_);calc mz (vs:=[]) aa3 IX () (λ_=>Ext.set (Ext.refl _) rfl) (λ_ _ _ r=>And.intro ∅ r) ?_;intro A6 H6 l sh6 hL6;left;calc nN sh6 (X7 _ _ IS) T.ba T.dB hl5 λU hx6 kd6 aa6 amX hl6=>?_;have X8:=aa6 _ _ l;have kg6:∀b o,b≠x->G5 b=some o->U b=some o:=λb o n e=>kd6 b o n (X7 _ _ e);have I:∀b o,b≠x->H b=some o->U b=some o:=λb o n e=>kg6 b o n (X6 b o n e);have fD6:Gd6 D6=none:=IX;clear l;have g:∀(G r:Hp),(∀b o,b≠x->G b=some o->r b=some o)->(∃T,G x=some (.ins CR R T))->(∀b vs,G b=some (.lst vs)->r b=some (.lst vs))/\cw G r:=λG r h (T,e)=>(λb vs L=>h b _ (λz=>by rw[z,e]at L;cases L) L,λb vs L=>h b _ (λz=>by rw[z,e]at L;cases L) L)
 have QF:=kg6;have Ss:∀b o,b≠x->G4 b=some o->U b=some o:=λb o n e=>QF b o n (kg5 b o n e);have Su:∀b o,b≠x->G3 b=some o->U b=some o:=λb o n e=>Ss b o n (kg4 b o n e);have V8:∀b o,b≠x->G2 b=some o->U b=some o:=λb o n e=>Su b o n (kg3 b o n e);have Y:∀b o,b≠x->G1 b=some o->U b=some o:=λb o n e=>V8 b o n (kg2 b o n e);have kc0:∀b o,b≠x->G0 b=some o->U b=some o:=λb o n e=>Y b o n (kg1 b o n e);have V9:vN X G1 D1 A1 (ms.map V.ref).length (λj H' vs=>∃v,vs=[v]/\HT H' 2 v (AW (k.ms.getD j default).ns (k.ms.getD j default).row)):=hL1.keep aaO (λj vs (v,e,h)=>(v,e,h.aL agu));have Wa:=V9.keep (g _ _ Y (_,tW)).1 (λj vs (v,e,h)=>(v,e,h.aL (g _ _ Y (_,tW)).2));have Sv:=(g _ _ Y (_,tW)).1 _ _ eD1;have Wb:vN Gd2 G2 D2 A2 (ms.map V.ref).length (λ_ _ vs=>vs=[V.int 0]):=XR.keep aaQ (λj vs e=>e);have Wc:=Wb.keep (g _ _ V8 (_,Cy)).1 (λj vs e=>e);have Sw:=(g _ _ V8 (_,Cy)).1 _ _ XT;have Wd:vN Gd3 G3 D3 A3 (ms.map V.ref).length (λ_ _ vs=>vs=[]):=hL3.keep aaV (λj vs e=>e);have We:=Wd.keep (g _ _ Su (_,Oh)).1 (λj vs e=>e);have Sx:=(g _ _ Su (_,Oh)).1 _ _ XX;have Wf:vN Gd4 G4 D4 A4 wv.length (λ_ _ vs=>vs=[]):=hL4.keep aaZ (λj vs e=>e);have Wg:=Wf.keep (g _ _ Ss (_,VJ)).1 (λj vs e=>e);have Sy:=(g _ _ Ss (_,VJ)).1 _ _ X1;have Wh:vN Gd5 G5 D5 A5 wv.length (λ_ _ vs=>vs=[]):=hL5.keep aa2 (λj vs e=>e);have zz:=Wh.keep (g _ _ QF (_,IS)).1 (λj vs e=>e);have x9:=(g _ _ QF (_,IS)).1 _ _ X5;have QG:vN Gd6 U D6 A6 wv.length (λ_ _ vs=>vs=[]):=hL6.keep aa6 (λj vs e=>e);have aa8:=(g _ _ kc0 (_,V6)).1 _ _ ep;have l:(ms.map V.ref).length=k.ms.length:=by simp[nL]
 rw[l]at Wa;rw[l]at Wc;rw[l]at We;rw[lN]at Wg;rw[lN]at zz;rw[lN]at QG;obtain⟨ad,V4⟩:∃ad:Nat->Nat->Addr,∀t i,ad t i=([[p],A1,A2,A3,A4,A5,A6].getD t []).getD i 0:=(_,λ_ _=>rfl)
 have pz:∀{A B:Hp},(∀b o,b≠x->A b=some o->B b=some o)->∀{o},B x=some o->∀b,A b≠none->B b≠none:=λ{A B} h {o} e b hb=>by
  by_cases z:b=x
  .rw[z,e];exact λz=>nomatch z
  .cases e1:A b with
   |none=>calc absurd e1 hb
   |some u=>rw[h b u z e1];exact λz=>nomatch z
 have Z:∀{A:Hp} {b:Addr} {o:HO},A b=some o->A b≠none:=λe z=>by rw[e]at z;cases z
 have nFx:∀b,FF b->b≠x:=λb h z=>by
  let(o,e,so):=nM b h;rw[z,S]at e;cases e;exact so
 let(cU,Sl,hDo):=FN (F:=FF) (G:=U) (n:=k.n) (c:=(RS.new k).ct) (λt=>[Ga,X,Gd2,Gd3,Gd4,Gd5,Gd6].getD t U) (λt=>t) _ (λt=>[x,D1,D2,D3,D4,D5,D6].getD t x) (λt=>[λ_ _ u=>u=.lst [],λj H u=>∃vs,u=.lst vs/\∃v,vs=[v]/\HT H 2 v (AW (k.ms.getD j default).ns (k.ms.getD j default).row),λ_ _ u=>∃vs,u=.lst vs/\vs=[V.int 0]].getD t λ_ _ u=>∃vs,u=.lst vs/\vs=[]) V4 (λ_=>rfl) (λ_ _ _ _ h=>h)
  (λt=>match t with
   |0=>pz (λb o n e=>V7 _ _ (ka b o n e)) (V7 _ _ V6)
   |1=>pz (λb o n e=>XN _ _ (kd1 b o n e)) (XN _ _ tW)
   |2=>pz (λb o n e=>XW _ _ (XS b o n e)) (XW _ _ Cy)
   |3=>pz (λb o n e=>XZ _ _ (kd3 b o n e)) (XZ _ _ Oh)
   |4=>pz (λb o n e=>X3 _ _ (kd4 b o n e)) (X3 _ _ VJ)
   |5=>pz (λb o n e=>X7 _ _ (kd5 b o n e)) (X7 _ _ IS)
   |6=>pz kd6 hx6
   | (t + 7)=>λb h=>h)
  (λb h=>by
   let(o,e,so):=nM b h;calc(Z (nxa b o (nFx b h) e),o,I b o (nFx b h) e,so))
  (λt ht=>match t,ht with
   | 0,_=>((rfl,nofun,λa m=>by rw[List.mem_singleton.mp m];exact(hp,npx),λj a e=>by cases j with
    |zero=>cases e;calc(_,aa8,rfl)
    | succ j=>cases e),λa m=>by rw[List.mem_singleton.mp m];calc Z (V7 _ _ ep),λh=>absurd h ∅)
   |1,_=>(Wa.o,V9.some XN,λ_=>(fD1,Z (XN _ _ eD1)))
   |2,_=>(Wc.o,Wb.some XW,λ_=>(fD2,Z (XW _ _ XT)))
   |3,_=>(We.o,Wd.some XZ,λ_=>(fD3,Z (XZ _ _ XX)))
   |4,_=>(Wg.o,Wf.some X3,λ_=>(fD4,Z (X3 _ _ X1)))
   |5,_=>(zz.o,Wh.some X7,λ_=>(fD5,Z (X7 _ _ X5)))
   |6,_=>(QG.o,QG.some (au.refl _),λ_=>(fD6,Z X8))
   | (t + 7),h=>absurd h ())
  (λt i u ht h=>by
   match t,ht,h with
   |0,_,h=>cases h;trivial
   |1,_,(_,e,_)|2,_,(_,e,_)|3,_,(_,e,_)|4,_,(_,e,_)|5,_,(_,e,_)|6,_,(_,e,_)=>cases e;trivial
   | (t + 7),h,_=>calc absurd h ())
  (λhz _ t i u ht hi e h=>by
   match t,ht,h with
   |0,_,h=>cases h;calc(fz.nil:fz _ 4 [] [])
   |1,_,(_,e,v,L,hv)=>cases e;cases L;calc(fz.one ((Mj hz hv).mono ∅):fz _ 4 [v] [_])
   |2,_,(_,e,L)=>cases e;cases L;calc(fz.one (.int 0):fz _ 4 [.int 0] [.int 0])
   |3,_,(_,e,L)|4,_,(_,e,L)|5,_,(_,e,L)|6,_,(_,e,L)=>cases e;cases L;calc(fz.nil:fz _ 4 [] [])
   | (t + 7),h,_=>calc absurd h ())
 have O:∀b,FP k.n ad b->H b=none:=λb hb=>by
  cases j:H b with
  |none=>rfl
  |some o=>
   have e:=(Sl b hb).1;have:b≠x:=λz=>by rw[z]at e;exact Z hxa e
   exact absurd e (Z (nxa b o this j))
 have hR:bS C CN CR FF U x bo k (RS.new k) ad:=by
  refine((R,λt=>[x,D1,D2,D3,D4,D5,D6].getD t x,?_,λt j l=>?_),cU,?_)
  .rw[hx6,IU,V4];rfl
  .let(W,w2,w3):=hDo t j l;calc(?_,W,w2);rw[<-w3]
   match t,j,l with
   |1,_,_=>calc Sv
   |2,_,_=>calc Sw
   |3,_,_=>calc Sx
   |4,_,_=>calc Sy
   |5,_,_=>calc x9
   |6,_,_=>calc X8
   |(t+7),_,h=>exact absurd h ()
  .calc((ms,wv,M,(dn,a1,b1,c1,I _ _ N y,I _ _ Sm g2,I _ _ Sn g3,I _ _ So g4),nL,λi m d e1 j=>?_,Me.aL (g _ _ I (_,S)).2),aY);let(d1,s1,d2,W,w2,w3):=zo i m d e1 j;have l:m≠x:=λz=>by rw[z,S] at W;exact zx W
   exact(d1,s1,d2,I _ _ l W,w2.aL (g _ _ I (_,S)).2,w3.aL (g _ _ I (_,S)).2)
 have agQ:=Om.aL (g _ _ I (_,S)).2;clear V9 Wa Wb Wc Wd We Wf Wg Wh zz QG Sv Sw Sx Sy x9 eD1 hL1 XT XR XX hL3 X1 hL4 X5 hL5 X8 hL6 aa8 kc0 Y V8 Su Ss QF;left;calc(bo,dn,_,rfl,I _ _ N y,fu ⋯ ⋯ ⋯,bo,ms,wv,M,rfl,(dn,a1,b1,c1,I _ _ N y,I _ _ Sm g2,I _ _ Sn g3,I _ _ So g4),λll t9=>?_);generalize hG7:upd U ll (.lst M)=G7 at *;let(s7,Wi):=aaB hG7 t9;have nll:¬FP k.n ad ll:=λz=>by
  let(_,u,e,_):=Sl ll z;rw[t9]at e;cases e
 have g:=hR.same s7;have aa9:=agQ.aL s7.aR;have aba:M.length=ls.length:=(aa9.1:)
 refine .inl ((_,aS.of Wi),fA (K:=K) (xs:=M) (λi σ H'=>(∃z2 z3,σ=[some (V.ref x),some (V.ref bo),z2,z3])/\Fr (FP k.n ad) G7 H'/\bS C CN CR FF H' x bo k ((RS.new k).kr (ls.take i)) ad) ?_ ?_ ?_ ?_)
 .exact((_,_,rfl),Fr.refl,g)
 .rintro i σ H' hi ⟨_,fi,_⟩;exact aS.of (fi.at Wi nll)
 .intro i z σ H' hz zi;nofun;let((z2,z3,rfl),fi,tL):=zi;have g:i < ls.length:=by rw[<-aba];exact(iF hz).1
  have j:ls[i]?=some ls[i]:=cJ g;have V3:=(aa9.2 i z (qm ls[i]) hz (by rw[K',j];rfl)).aL fi.aR;have Mo:=uy _ (aaJ g);have QB:(RS.new k).kr (ls.take (i+1))=((RS.new k).kr (ls.take i)).put ls[i].1.toNat ls[i].2 none:=by
   rw[acY,j];exact rN _
  generalize ls[i]=p at *;let(pj,px):=p;let(tz,u1,u2,kz,rfl,II,y1,y2):=dP V3;obtain rfl:=y1.cF;obtain rfl:=y2.cF;ac_rfl;calc vf (bI.of II) ?_;left;let(j,l,g,r):=tL.ins;calc ic g (eB ⋯) ?_;have j:((pj.toNat:Nat):Int)=pj:=abX Mo.1;refine(FF,x,bo,k,_,ad,pj.toNat,px,.bL,none,by rw[j],tL,λb h=>by
   let(o,e,so):=nM b h;calc(o,fi.at (s7 _ _ (I b o (nFx b h) e)) (λz=>by rw[O b z] at e;cases e),so),by have:=Mo.2;show pj.toNat < _;simp at this;lia,.bL,(uc (ls.take i) (Ea aY)).mono (by simp;lia),λg f2 hR2=>?_)
  left;calc ie (_,_,rfl,rfl) (fi.trans f2) ?_;rw[QB];exact hR2
 .rintro σ H' ⟨_,fi,tL⟩;rw[aba,aaP]at tL;calc q ad _ (λb o n e=>?_) O tL;calc fi.at (s7 _ _ (I b o n e)) λz=>?_;rw[O b z]at e;cases e
def CutAt(H:Hp)(t:Addr)(cut:List Int):Prop:=H t=some (.tup (cut.map V.int))\/H t=some (.lst (cut.map V.int))
theorem CutAt.same(h:CutAt H t cut)(s:au H H'):CutAt H' t cut:=h.imp (s _ _) (s _ _)
theorem Wj{P:V->Prop}(h:CutAt H a cut)(e:hV (cut.map V.int) i=some v)(k:P v):∃xs v,(aS K H a xs\/bI K H a xs)/\hV xs i=some v/\P v:=h.elim (λh=>cL h e k) λh=>bH h e k
theorem nZ(h:HT H 1 v (pairD e)):∃a,v=.ref a/\H a=some (.tup [.int e.1,.int e.2]):=by
 let(b,g,i,j,rfl,c,d,f):=dP h;obtain rfl:=d.cF;obtain rfl:=f.cF;calc(b,rfl,c)
structure sX(nt:NT)(r:RS)(cut:List Int):Prop where
 len:cut.length=nt.ms.length
 pos:∀m,m<nt.ms.length->0<=cut.getD m 0
 top:∀m,m<nt.ms.length->cut.getD m 0<((r.mm m).fH.length:Nat)
noncomputable def BV:Option (Int×Int)->List Int->Bool
 |none,_=>false
 |some e,cut=>decide (e.2<=cut.getD e.1.toNat 0)
abbrev mB:Stmt:=top 29
def Mp:Sp:=λvs H Q _=>∃(v:V) (e:Option (Int×Int)) (t:Addr) (cut:List Int),vs=[v,.ref t]/\HT H 1 v (nQ e)/\CutAt H t cut/\(∀p,e=some p->0<=p.1/\p.1<(cut.length:Nat))/\Q (.bl (BV e cut)) H
theorem BW(D:cG K mg "is_inside" "is_inside" mB ["event","cut"])(T:Tx K mg C CN CR F FD):Def P w K mg base "is_inside" 1 ["event","cut"] Mp:=by
 exists["event","cut","m","c"];let(v,e,t,cut,rfl,b,c,g,q):=h;have k:=hr.units;refine(_,(ai (aW (aC yJ (aq 0) gF (aI _)) (ak (aG gp)) aK)
  (ai (dS (aq 0) (fb (i:=2) (j:=3) rfl sc rfl rfl Sort Sort))
  (ak (aG (hJ uC (aq 3) (ao k (aq 1) (aq 2)) (aI _)))))),?_)
 cases e with
 |none=>
  have:v=.bL:=by cases(show HT H 1 v .bL from b);rfl
  subst this;right
  try rw[if_pos ∅]
  right;calc q
 |some e=>
  nofun;let(a,rfl,l):=nZ b;let(k,m):=g e rfl;ac_rfl;right
  try rw[if_neg ∅]
  calc vf (bI.of l) ?_;right;refine Wj c (show hV _ e.1=some (.int (cut.getD e.1.toNat 0)) from by
   have:=aA (xs:=cut.map V.int) (j:=e.1.toNat) (v:=.int (cut.getD e.1.toNat 0)) (by rw[K',aP (d:=0) ()];rfl);rw[show((e.1.toNat:Nat):Int)=e.1 by lia] at this;calc this) ?_
  right;calc q
noncomputable def wc(r:RS)(p:Nat×Nat):Option (Int×Int):=(r.ww p.1).snd.getD p.2 none
noncomputable def Sz(r:RS)(p:Nat×Nat):Option (Int×Int):=(r.ww p.1).cE.getD p.2 none
noncomputable def QI(r:RS)(p:Nat×Nat):DV:=.tup [pairD (pI p),nQ (wc r p),nQ (Sz r p)]
noncomputable def wR(r:RS)(ps:List (Nat×Nat)):List (Nat×Nat):=ps.filter λp=>(wc r p).isSome
noncomputable def lP(r:RS)(cut:List Int)(p:Nat×Nat):Bool:=BV (Sz r p) cut && !BV (wc r p) cut
noncomputable def mC(r:RS)(cut:List Int)(ps:List (Nat×Nat)):List (Nat×Nat):=(wR r ps).filter (lP r cut)
theorem Eb{H:Hp}{n:Nat}{v:V}{e:Option (Int×Int)}(h:HT H n v (nQ e)):HT H 1 v (nQ e):=by
 cases e with
 |none=>cases(show HT H n v .bL from h);calc .bL
 |some p=>
  let(d,f,g,i,rfl,a,b,c):=dP (show HT H n v (.tup [.int p.1,.int p.2]) from h);obtain rfl:=b.cF;obtain rfl:=c.cF;calc dA (n:=0) a (.int _) (.int _)
theorem BX{p:Nat×Nat}(h:ps[i]?=some p):wR r (ps.take (i+1))=wR r (ps.take i)++if (wc r p).isSome=true then[p] else[]:=by
 unfold wR;rw[acF,h,acX];congr 1;show List.filter _ [p]=_;rw[List.filter_cons,List.filter_nil]
theorem BY{f:Nat×Nat->Bool}{p:Nat×Nat}(h:ps[i]?=some p):(ps.take (i+1)).filter f=(ps.take i).filter f++if f p=true then[p] else[]:=by
 rw[acF,h,acX];congr 1;show List.filter _ [p]=_;rw[List.filter_cons,List.filter_nil]
theorem Wk(g:r.Ok nt)(k:r.Iv nt)(j:cut.length=nt.ms.length){p:Nat×Nat}(i:p∈ij r nt.ws.length):(∀e,wc r p=some e->0<=e.1/\e.1<(cut.length:Nat))/\∀e,Sz r p=some e->0<=e.1/\e.1<(cut.length:Nat):=by
 let(c,m,l):=fR.mp i;have m:p.2<(r.ww p.1).cE.length:=(iF l).1;have i:=g.ls _ c;have i:=g.lk _ c;refine(λe i=>?_,λe i=>?_)
 .let(a,b,_):=g.sd _ c e.1 e.2 (by rw[show(some ((e.1),e.2):Option (Int×Int))=(r.ww p.1).snd.getD p.2 none from i.symm];calc getD_mem ());rw[j];exact(a,b)
 .let(a,b,_):=k.ev _ p.2 e.1 e.2 c (by rw[aP (d:=none) m,show(r.ww p.1).cE.getD p.2 none=some e from i]);rw[j];calc(a,b)
theorem Wl{ps:jr}(h:fz H 4 vs (ps.map pairD)):Vw H vs ps:=(by have:=h.1;rwa [V'] at this,λi p e=>by
 have b:i<vs.length:=by have:=h.1;rw[V']at this;rw[this];exact(iF e).1
 let(a,c,d):=qt (e:=p) (h.2 i vs[i] _ (cJ b) (by rw[K',e];rfl));calc(a,by rw[cJ b,c],d))
abbrev gQ:Stmt:=top 30
inductive Mq(C CN CR:Addr)(vs:List V)(H:Hp)(Q:VK):Prop
 |mk (F:Addr->Prop) (x bo:Addr) (nt:NT) (r:RS) (ad:js) (h0:vs=[.ref x]) (h1:bS C CN CR F H x bo nt r ad) (h2:r.Ok nt) (h3:r.Iv nt) (h4:r.Pk nt) (h5:r.picks.length<=40) (q:∀l ys H',au H H'->H l=none->H' l=some (.lst ys)->fK H' 2 ys ((wR r (ij r nt.ws.length)).map (QI r))->Q (.ref l) H'):Mq C CN CR vs H Q
def FT(C CN CR:Addr):Sp:=λvs H Q _=>Mq C CN CR vs H Q
theorem rO(D:cG K mg "letters_passed" "letters_passed" gQ ["run"])(T:Tx K mg C CN CR F FD)(eC:cn P w K mg base CR "schedule" 1 b0 (DZ C CN CR))(eX:cn P w K mg base CR "sent_by" 5 a0 (vO C CN CR))(dF:cn P w K mg base CR "worked_by" 5 a0 (zw C CN CR)):Def P w K mg base "letters_passed" 6 ["run"] (FT C CN CR):=by
 exists["run","passed","letter","way","number","sender"];let(F,x,bo,d,r,ad,rfl,N,O,hI,R,oU,q):=h;have hu:=hr.units;refine(_,(ai (bf (i:=1) sc rfl Sort (bE aa))
  (ai (cZ PassesOwn.never rfl (bR (aX (xQ rfl) rfl T.vm PyProof.Rows.boot_sorted (ag (dW eC T.ba hr (aq 0)) aa))) (aT (i:=2) sc rfl Sort)
  (ai (dS (aq 2) (fb (i:=3) (j:=4) rfl sc rfl rfl Sort Sort))
  (ai (bf (i:=5) sc rfl Sort (eR eX T.ba hr (aq 0) (ag (aq 3) (ag (aq 4) aa))))
  (ak (aW (aC nu (aq 5) gF (aI _)) (ak (bX (dw pP sF sL cj (aq 1) (ag (bD (ag (aq 2) (ag (aq 5) (ag (eR dF T.ba hr (aq 0) (ag (aq 3) (ag (aq 4) aa))) aa)))) aa)))) aK)))))
  (ak (aG (aq 1))))),?_)
 let(dx,o,hx,T):=N.ins;have T:=Bp hI R;right;calc(aam _,λl t9=>?_);generalize hG1:upd H l (.lst [])=G1 at *;let(S,Wi):=aaB hG1 t9;right;calc(x,dx,_,rfl,S _ _ hx,eB ⋯,F,x,bo,d,r,ad,rfl,N.same S,λls vs HJ SA=>?_);have U:=au.new (.lst vs) HJ;have QJ:upd G1 ls (.lst vs) ls=some (.lst vs):=af;have Cw:vs.length=r.picks.length:=by have:=SA.1;rwa [V']at this
 have VG:=(Wl SA).mono U.aR;have qH:=S.trans U;have Wm:=U _ _ Wi;generalize LP:upd G1 ls (.lst vs)=G2 at *;calc(ls,rfl,.inl (vs,r.picks,aS.of QJ,(),VG,R.nd,λz g T v8 IP B hz=>?_));obtain rfl:=zd hI R IP B;clear VG IP B SA QJ HJ Cw LP hG1 U Wi;generalize hG3:upd G2 z (.lst g)=G3 at *;let(W,XH):=aaB hG3 v8;have t:=hz.mono W.aR;have G:=W _ _ Wm;have rH:=qH.trans W;have nl:z≠l:=Ne.symm (av Wm v8);clear hz v8 hG3 W Wm qH S;have QA:g.length=(ij r d.ws.length).length:=by have:=t.len;rwa [V']at this
 refine .inl ((_,aS.of XH),fA (K:=K) (xs:=g) (λi σ H'=>(∃z2 z3 z4 z5,σ=[some (V.ref x),some (V.ref l),z2,z3,z4,z5])/\au H H'/\H' z=some (.lst g)/\Vw H' g ((ij r d.ws.length).map pI)/\∃ys,H' l=some (.lst ys)/\ys.length<=i/\fK H' 2 ys ((wR r ((ij r d.ws.length).take i)).map (QI r))) ?_ ?_ ?_ ?_)
 .exact((_,_,_,_,rfl),rH,XH,t,[],G,S' _,fK.nil)
 .rintro i σ H' hi ⟨_,_,e,_⟩;exact aS.of e
 .intro i xx σ H' R9 iz;nofun;let((z2,z3,z4,z5,rfl),y,u,k,ys,I,wd,J):=iz;clear rH XH t G;have hi:i < (ij r d.ws.length).length:=by rw[<-QA];exact(iF R9).1
  obtain⟨p,X⟩:∃p,(ij r d.ws.length)[i]?=some p:=(_,cJ hi)
  let(hw,e,t):=fR.mp (aaF X);have hk:p.2<(r.ww p.1).say.length:=by rw[O.lk _ hw];exact(iF t).1
  let(b,e1,hb):=k.got i (pI p) (by rw[K',X];rfl);rw[R9]at e1;obtain rfl:=Option.some.inj e1;ac_rfl;clear e1;have tL:=N.same y;have L:=y _ _ hx;right;calc vf (bI.of hb) ?_;calc L2.bq λi h1=>?_;right;calc(x,dx,_,rfl,L,eB ⋯,F,x,bo,d,r,ad,p.1,p.2,rfl,tL,O,hw,hk,λv Y=>?_);calc L2.bc h1 ?_;clear h1
  cases Z:(r.ww p.1).snd.getD p.2 none with
  |none=>
   rw[Z]at Y;have:v=.bL:=by cases(show HT H' 1 v .bL from Y);rfl
   subst this;right
   try rw[if_neg ∅]
   calc((_,_,_,_,rfl,rfl,rfl,rfl),y,u,k,ys,I,(),?_);rw[BX X,show wc r p=none from Z];simpa using J
  |some q0=>
   nofun;let(a,rfl,i):=nZ (show HT H' 1 v (pairD q0) from by have:=Y;rw[Z]at this;calc this);ac_rfl;right
   try rw[if_pos ∅]
   calc(.inl (rfl,_,aS.of I),?_);calc(x,dx,_,rfl,L,eB ⋯,F,x,bo,d,r,ad,p.1,p.2,rfl,tL,O,hw,hk,λv' i=>?_);calc(by rw[abb];lia,λtp d=>?_);generalize hG4:upd H' tp (.tup [.ref b,.ref a,v'])=G4 at *;let(m,etp):=aaB hG4 d;have M:=m _ _ I;have agU:=J.aL m.aR;have agV:=m _ _ u;have agW:=k.mono m.aR;have hv4:=Y.aL m.aR;have agX:=i.aL m.aR;have hb4:=m _ _ hb;have sI:=y.trans m;calc iy _ M (aD ()) ?_;have st:cw G4 (upd G4 l (.lst (ys++[.ref tp]))):=(cw.refl _).upd λg e=>by rw[M]at e;cases e
   calc((_,_,_,_,rfl,rfl,rfl,rfl),λc o e=>by rw[ay (av e t9)];calc sI _ _ e,by rw[ay nl];calc agV,agW.mono st,_,af,by simp;lia,?_);have:=((agU.snoc (e:=QI r p) (lY (n:=1) etp (dA (n:=0) hb4 (.int _) (.int _)) hv4 agX)).aL st)
   rw[BX X,show wc r p=some q0 from Z,if_pos (show(some q0).isSome=true from rfl),aah];exact this
 .intro σ H' iY;let((z2,z3,z4,z5,rfl),y,u,k,ys,I,wd,J):=iY;right;rw[QA,aaP]at J;calc q l ys H' y t9 I J
abbrev iD:Stmt:=top 31
inductive Mr(vs:List V)(H:Hp)(Q:VK):Prop
 |mk (l t:Addr) (ys:List V) (r:RS) (ps:List (Nat×Nat)) (cut:List Int) (h0:vs=[.ref l,.ref t]) (h1:H l=some (.lst ys)) (h2:fK H 2 ys (ps.map (QI r))) (h3:ps.length<=40) (h4:CutAt H t cut) (h5:∀p∈ps,(∀e,wc r p=some e->0<=e.1/\e.1<(cut.length:Nat))/\∀e,Sz r p=some e->0<=e.1/\e.1<(cut.length:Nat)) (q:∀l' zs H',au H H'->H l'=none->H' l'=some (.lst zs)->fK H' 1 zs ((ps.filter (lP r cut)).map λp=>pairD (pI p))->Q (.ref l') H'):Mr vs H Q
def FU:Sp:=λvs H Q _=>Mr vs H Q
theorem tN(D:cG K mg "orphans_among" "orphans_among" iD ib)(T:Tx K mg C CN CR F FD)(y:Def P w K mg base "is_inside" 1 ["event","cut"] Mp):Def P w K mg base "orphans_among" 2 ib FU:=by
 exists ib;let(l,t,ys,r,ps,cut,rfl,g,o,W,N,k,q):=h;have T:=hr.units;calc(_,(ak (aG (dy (N':=["letter","sender","worker","cut"]) (ix:=[none,none,none,some 1]) (bR (pv 0)) (λ_ _ _ _=>(Hr (K:=K) rfl (i:=0) (j:=1) (l:=2) rfl (iw ["letter","sender","worker","cut"]) rfl rfl rfl Sort Sort Sort)) (λ_ _ _ _=>(jx (PW.pt (pw_and (bA (aN y hr (ag (aq 2) (ag (aq 3) aa)))) (pw_and1 (bY (bA (aN y hr (ag (aq 1) (ag (aq 3) aa)))))))))) (λ_ _ _ _=>(aq 0))))),?_);have X:ys.length=ps.length:=by have:=o.1;rwa [V'] at this
 right;calc bJ ?_;right;calc .inl ((_,aS.of g),λD B=>?_);refine bu (J:=xf K l) (n:=ys.length) (λi a H'=>au H H'/\fK H' 1 a (((ps.take i).filter (lP r cut)).map λp=>pairD (pI p))) (T' (aD ())) (au.new _ B,fK.nil) ?_ ?_ ?_ ?_
 .rintro i a H' G ⟨s,_⟩;exact(_,_,aS.of (s _ _ g),cJ G)
 .rintro a H' ⟨s,_⟩;exact(_,aS.of (s _ _ g),S' _)
 .intro i a H' G m O Y l d Z;nofun;let(s,x):=Y;let(rfl,y):=Z;have ex:=y _ (aS.of (s _ _ g));obtain⟨p,z⟩:∃p,ps[i]?=some p:=(_,cJ ())
  let(ta,u,v,w0,kk,rfl,tJ,y1,y2,y3):=bV ((o.aL s.aR).2 i _ _ ex (by rw[K',z];rfl));have R:=k p (aaF z);have S:=N.same s;let(b,rfl,hb):=nZ (show HT d 1 u (nQ (some (pI p))) from Eb (e:=some (pI p)) y1);ac_rfl;calc(ta,_,rfl,bI.of tJ,rfl,_,_,rfl,_,_,rfl,_,_,rfl,rfl,Ext.set (Ext.set (Ext.set (Ext.refl _) rfl) rfl) rfl,?_);right;calc(_,_,t,cut,rfl,Eb y3,S,R.2,?_);calc wB ?_;have I:lP r cut p=true->∃g,d D=some (HO.lst g)/\g.length<sizeLine/\Xq (λi a H'=>au H H'/\fK H' 1 a (List.map (λp=>pairD (pI p)) (List.filter (lP r cut) (List.take i ps)))) D i (upd d D (HO.lst (g++[V.ref b]))):=λL=>by
   have st:cw d (upd d D (.lst (a++[.ref b]))):=(cw.refl _).upd λa e=>by rw[m]at e;cases e
   calc b4 m O G (T' (aD ())) (λc o e=>by rw[ay (av e B)];calc s _ _ e,?_);rw[BY z,L,if_pos rfl,aah];exact(x.snoc (dA (n:=0) hb (.int _) (.int _))).aL st
  have U:lP r cut p=false->Xq (λi a H'=>au H H'/\fK H' 1 a (List.map (λp=>pairD (pI p)) (List.filter (lP r cut) (List.take i ps)))) D i d:=λL=>(_,m,(),s,by rw[BY z,L,if_neg ∅,aax];calc x)
  cases M:BV (Sz r p) cut with
  |false=>
   rw[if_neg ∅,if_neg ∅];calc U (by unfold lP;rw[M];rfl)
  |true=>
   rw[if_pos rfl];calc(_,_,t,cut,rfl,Eb y2,S,R.1,?_);refine wB ?_
   cases d:BV (wc r p) cut with
   |false=>
    rw[if_pos ∅];calc I (by unfold lP;rw[M,d];rfl)
   |true=>
    rw[if_neg ∅];exact U (by unfold lP;rw[M,d];rfl)
 rintro a H' m O ⟨s,x⟩;rw[X,aaP]at x;calc q D a H' s B m x
abbrev mD:Stmt:=top 77
def BZ:Sp:=λvs H Q _=>∃p m,vs=[.ref p,.int m]/\gA H p/\0<m/\m<=4/\∀x v H',Step p H H'->HT H' 1 x (Val.dv v)->v.ok m->Q x H'
theorem B0(D:cG K mg "_law_value" "_law_value" mD aO)(T:Tx K mg C CN CR F FD)(u:Def P w K mg base "_law_digit" 1 aO kx):Def P w K mg base "_law_value" 2 aO BZ:=by
 exists["_law_pot_here","_law_many","_law_kind"];let(p,m,rfl,G,I,J,q):=h;have L:=hr.units;refine(_,(ai (bf (i:=2) sc rfl Sort (aN u hr (ag (aq 0) (ag aj aa))))
  (ai (aW (aC gr (aq 2) aj (aI _)) (ak (aG (bD (ag aH (ag (ao L (bE (ag (aZ dR (aN u hr (ag (aq 0) (ag aj aa))) aj) (ag (aZ dR (aN u hr (ag (aq 0) (ag (aZ dR (aZ nr aj (aZ pW aj aj)) aj) aa))) (aZ dR (aZ pW aj aj) aj)) aa))) (aq 2)) aa))))) aK)
  (ai (aW (aC gr (aq 2) aj (aI _)) (ak (aG (bD (ag aH (ag (aN u hr (ag (aq 0) (ag (aq 1) aa))) aa))))) aK)
  (ak (aG (ao L (bE (ag (bD (ag aH aa)) (ag (bD (ag aH aa)) (ag (bD (ag aH aa)) (ag (bD (ag aH aa)) aa))))) (aZ dR (aq 2) aj))))))),?_)
 right;calc oB p 8 rfl G ⋯ ⋯ (λd H1 h1 h2 st=>?_);right;split
 .rename_i j;have j:d < 2:=(j:)
  calc oB p 9 rfl st.ia ⋯ ⋯ (λR H2 M J k=>?_);right;calc(DM,VB,dig k.ia Z0 Z1 λd2 H3 h5 h6 N=>?_);right;calc ie DM ∅ (λl c=>?_);have y:d=0\/d=1:=();rcases y with rfl|rfl
  .exact(_,_,.inl (aS.of af),rfl,∅,λt n=>q _ (.is _) _ ((((st.trans k).trans N).new c).new n) (dA af (.str _) (.int _)) trivial)
  .exact(_,_,.inl (aS.of af),rfl,∅,λt n=>q _ (.is _) _ ((((st.trans k).trans N).new c).new n) (dA af (.str _) (.int _)) trivial)
 .rename_i j;have j:¬d < 2:=(j:)
  split
  .refine(p,m,rfl,st.ia,I,?_,λR H2 M z k=>?_)
   .have:m=1\/m=2\/m=3\/m=4:=();rcases this with rfl|rfl|rfl|rfl<;>decide +kernel
   right;exact(∅,λt n=>q _ (.number _) _ ((st.trans k).new n) (dA af (.str _) (.int _)) (M,z))
  .rename_i r;have r:¬d < 4:=(r:)
   calc(∅,λa S=>(∅,λb O=>(∅,λe B=>(∅,λg v=>(∅,λl c=>?_)))));have x:=((((st.new S (o:=.tup [.str "letter"])).new O (o:=.tup [.str "letter"])).new B (o:=.tup [.str "way"])).new v (o:=.tup [.str "first"])).new c (o:=.lst [.ref a,.ref b,.ref e,.ref g]);have y:d=4\/d=5\/d=6\/d=7:=();have U:=(au.new (H:=upd H1 a (.tup [.str "letter"])) (.tup [.str "letter"]) O) a _ af;have W:=(au.new (.tup [.str "way"]) B) _ _ U;have X:=(au.new (.tup [.str "first"]) v) _ _ W;have Y:=(au.new (.lst [.ref a,.ref b,.ref e,.ref g]) c) _ _ X;have Z:=(au.new (H:=upd (upd H1 a (.tup [.str "letter"])) b (.tup [.str "letter"])) (.tup [.str "way"]) B) b _ af;have k3:=(au.new (.tup [.str "first"]) v) _ _ Z;have k4:=(au.new (.lst [.ref a,.ref b,.ref e,.ref g]) c) _ _ k3;have l3:=(au.new (H:=upd (upd (upd H1 a (.tup [.str "letter"])) b (.tup [.str "letter"])) e (.tup [.str "way"])) (.tup [.str "first"]) v) e _ af;have l4:=(au.new (.lst [.ref a,.ref b,.ref e,.ref g]) c) _ _ l3;have m4:=(au.new (H:=upd (upd (upd (upd H1 a (.tup [.str "letter"])) b (.tup [.str "letter"])) e (.tup [.str "way"])) g (.tup [.str "first"])) (.lst [.ref a,.ref b,.ref e,.ref g]) c) g _ af;rcases y with rfl|rfl|rfl|rfl
   .exact(_,_,.inl (aS.of af),rfl,q _ .oz _ x (uV Y (.str _)) trivial)
   .exact(_,_,.inl (aS.of af),rfl,q _ .oz _ x (uV k4 (.str _)) trivial)
   .exact(_,_,.inl (aS.of af),rfl,q _ .way _ x (uV l4 (.str _)) trivial)
   .calc(_,_,.inl (aS.of af),rfl,q _ .first _ x (uV m4 (.str _)) trivial)
theorem agZ{d:Int}(a:0<=d)(h:d<10):d=0\/d=1\/d=2\/d=3\/d=4\/d=5\/d=6\/d=7\/d=8\/d=9:=by
 have:∀n:Fin 10,((n.1:Nat):Int)=0\/((n.1:Nat):Int)=1\/((n.1:Nat):Int)=2\/((n.1:Nat):Int)=3\/((n.1:Nat):Int)=4\/((n.1:Nat):Int)=5\/((n.1:Nat):Int)=6\/((n.1:Nat):Int)=7\/((n.1:Nat):Int)=8\/((n.1:Nat):Int)=9:=∅;rw[<-abX a];calc this (d.toNat,())
abbrev oX:Stmt:=top 78
theorem Wo{w:V}{d:DV}(e:H a=some (.tup [u,v,w,z]))(h:HT H n u d)(h':HT H n v d')(f:HT H n w g)(j:HT H n z i):HT H (n+1) (.ref a) (.tup [d,d',g,i]):=by
 refine .tup e rfl λi x y b c=>?_
 match i,b,c with
 |0,b,c=>simp at b c;subst b c;calc h
 |1,b,c=>simp at b c;subst b c;calc h'
 |2,b,c=>simp at b c;subst b c;calc f
 |3,b,c=>simp at b c;subst b c;calc j
def B1:Sp:=λvs H Q _=>∃p m,vs=[.ref p,.int m]/\gA H p/\0<m/\m<=4/\∀x d H',Step p H H'->HT H' 2 x (bF.dv d)->d.ok m->Q x H'
theorem Ec(D:cG K mg "_law_deed" "_law_deed" oX aO)(T:Tx K mg C CN CR F FD)(M:Def P w K mg base "_law_digit" 1 aO kx)(I:Def P w K mg base "_law_value" 2 aO BZ):Def P w K mg base "_law_deed" 3 aO B1:=by
 exists["_law_pot_here","_law_many","_law_kind"];let(p,m,rfl,W,k,u,q):=h;have N:=hr.units;refine(_,(ai (bf (i:=2) sc rfl Sort (aN M hr (ag (aq 0) (ag aj aa))))
  (ai (aW (aC gr (aq 2) aj (aI _)) (ak (aG (bD (ag (ao N (bE (ag aH (ag aH (ag aH aa)))) (aq 2)) (ag (aN M hr (ag (aq 0) (ag (aq 1) aa))) (ag (aN I hr (ag (aq 0) (ag (aq 1) aa))) aa)))))) aK)
  (ai (aW (aC gr (aq 2) aj (aI _)) (ak (aG (bD (ag aH (ag (aN M hr (ag (aq 0) (ag aj aa))) (ag (aN I hr (ag (aq 0) (ag (aq 1) aa))) aa)))))) aK)
  (ai (aW (aC (bg N) (aq 2) aj (aI _)) (ak (aG (bD (ag aH (ag (aN I hr (ag (aq 0) (ag (aq 1) aa))) aa))))) aK)
  (ai (aW (aC (bg N) (aq 2) aj (aI _)) (ak (aG (bD (ag aH (ag (aN I hr (ag (aq 0) (ag (aq 1) aa))) aa))))) aK)
  (ai (aW (aC (bg N) (aq 2) aj (aI _)) (ak (aG (bD (ag aH aa)))) aK)
  (ak (aG (bD (ag aH (ag (aN I hr (ag (aq 0) (ag (aq 1) aa))) (ag (aN I hr (ag (aq 0) (ag (aq 1) aa))) (ag (aZ cB aj (aN M hr (ag (aq 0) (ag aj aa)))) aa))))))))))))),?_)
 right;calc oB p 10 rfl W ⋯ ⋯ (λd H1 I M st=>?_);have O:m.natAbs.log2<9000:=by
  have:m=1\/m=2\/m=3\/m=4:=();rcases this with rfl|rfl|rfl|rfl<;>decide +kernel
 have Z:d=0\/d=1\/d=2\/d=3\/d=4\/d=5\/d=6\/d=7\/d=8\/d=9:=agZ (by assumption) (by assumption);rcases Z with rfl|rfl|rfl|rfl|rfl|rfl|rfl|rfl|rfl|rfl
 .walk_at "go";calc(∅,λl J=>?_);have B:=st.new (o:=.lst [.str "set",.str "add",.str "times"]) J;calc bH af rfl ?_;calc dig B.ia k O λe L r y x=>?_;have b:=B.trans x;walk_at "go";calc oB p m rfl b.ia k u (λz v G c g j=>?_);walk_at "go";exact(∅,λt a=>q _ (.set e v) _ ((b.trans c).new a) (lY af (.str _) (.int _) (g.aL (au.new _ a).aR)) (r,y,j))
 .walk_at "go";calc(∅,λl J=>?_);have B:=st.new (o:=.lst [.str "set",.str "add",.str "times"]) J;calc bH af rfl ?_;calc dig B.ia k O λe L r y x=>?_;have b:=B.trans x;walk_at "go";calc oB p m rfl b.ia k u (λz v G c g j=>?_);walk_at "go";exact(∅,λt a=>q _ (.add e v) _ ((b.trans c).new a) (lY af (.str _) (.int _) (g.aL (au.new _ a).aR)) (r,y,j))
 .walk_at "go";calc(∅,λl J=>?_);have B:=st.new (o:=.lst [.str "set",.str "add",.str "times"]) J;calc bH af rfl ?_;calc dig B.ia k O λe L r y x=>?_;have b:=B.trans x;walk_at "go";calc oB p m rfl b.ia k u (λz v G c g j=>?_);walk_at "go";exact(∅,λt a=>q _ (.times e v) _ ((b.trans c).new a) (lY af (.str _) (.int _) (g.aL (au.new _ a).aR)) (r,y,j))
 .walk_at "go";calc dig st.ia ∅ ⋯ λe L r y x=>?_;have b:=st.trans x;right;calc oB p m rfl b.ia k u (λz v G c g j=>?_);right;exact(∅,λt a=>q _ (.send e v) _ ((b.trans c).new a) (lY af (.str _) (.int _) (g.aL (au.new _ a).aR)) (r,j))
 .walk_at "go";calc dig st.ia ∅ ⋯ λe L r y x=>?_;have b:=st.trans x;right;calc oB p m rfl b.ia k u (λz v G c g j=>?_);right;exact(∅,λt a=>q _ (.send e v) _ ((b.trans c).new a) (lY af (.str _) (.int _) (g.aL (au.new _ a).aR)) (r,j))
 .walk_at "go";calc dig st.ia ∅ ⋯ λe L r y x=>?_;have b:=st.trans x;right;calc oB p m rfl b.ia k u (λz v G c g j=>?_);right;exact(∅,λt a=>q _ (.send e v) _ ((b.trans c).new a) (lY af (.str _) (.int _) (g.aL (au.new _ a).aR)) (r,j))
 .walk_at "go";calc oB p m rfl st.ia k u (λz v G c g j=>?_);walk_at "go";exact(∅,λt a=>q _ (.say v) _ ((st.trans c).new a) (dA af (.str _) (g.aL (au.new _ a).aR)) j)
 .walk_at "go";calc oB p m rfl st.ia k u (λz v G c g j=>?_);walk_at "go";exact(∅,λt a=>q _ (.put v) _ ((st.trans c).new a) (dA af (.str _) (g.aL (au.new _ a).aR)) j)
 .walk_at "go";exact(∅,λt a=>q _ .drop _ (st.new a) (uV (n:=1) af (.str _)) trivial)
 .walk_at "go";calc oB p m rfl st.ia k u (λz v G c g j=>?_);walk_at "go";have R:=st.trans c;calc oB p m rfl R.ia k u (λvy v2 b X Qt S=>?_);have U:=R.trans X;walk_at "go";calc dig U.ia ∅ ⋯ λe b r y Y=>?_;walk_at "go";calc(∅,λt a=>q _ (.skip v v2 (1+e)) _ ((U.trans Y).new a) ?_ (j,S,(),()));have b:=(Y.aR U.ia).trans (au.new (.tup [.str "skip",z,vy,.int (1+e)]) a).aR;calc Wo af (.str _) (g.aL ((X.aR R.ia).trans b)) (Qt.aL b) (.int _)
abbrev jX:Stmt:=top 79
theorem Step.free(st:Step p H H')(h:H' b=none):H b=none:=by
 cases e:H b with
 |none=>rfl
 |some o=>
  by_cases a:b=p
  .subst a;let(x,c,_):=st.ia;rw[h]at c;cases c
  .rw[st.rest b o e a]at h;cases h
theorem Mt{m:Int}(a:0<m)(h:m<=1000000000000):m.natAbs.log2<9000:=(Nat.log2_lt ()).mpr (abY (show m.natAbs<=1000000000000 by lia) ⋯)
noncomputable def mods(d:Int):List V:=[.int 2,.int 3,.int 7,.int 10,.int 97,.int (2+d)]
theorem QL{d:Int}(b:0<=d)(a:d<10^Int.toNat 12-1)(c:0<=k)(f:k<6):∃z:Int,hV (mods d) k=some (.int z)/\2<=z/\z<=1000000000000:=by
 have e:(10:Int)^Int.toNat 12=1000000000000:=by decide +kernel
 rw[e]at a;have:k=0\/k=1\/k=2\/k=3\/k=4\/k=5:=by lia
 rcases this with rfl|rfl|rfl|rfl|rfl|rfl
 .exact(_,aA (j:=0) rfl,∅,∅)
 .exact(_,aA (j:=1) rfl,∅,∅)
 .exact(_,aA (j:=2) rfl,∅,∅)
 .exact(_,aA (j:=3) rfl,∅,∅)
 .exact(_,aA (j:=4) rfl,∅,∅)
 .calc(_,aA (j:=5) rfl,(),())
def B2:Sp:=λvs H Q _=>∃p,vs=[.ref p]/\gA H p/\∀t b c d xs M ns a e H',Step p H H'->H' t=some (.tup [.int M,.ref b,.ref c,.ref d])->H' b=some (.lst (ns.map V.int))->H' c=some (.lst (a.map V.int))->H' d=some (.lst xs)->fK H' 2 xs (e.map bF.dv)->H b=none->H c=none->H d=none->Good M ns a e->Q (.ref t) H'
theorem wU(D:cG K mg "_law_machine" "_law_machine" jX ["_law_pot_here"])(T:Tx K mg C CN CR F FD)(oY:Def P w K mg base "_law_deed" 3 aO B1)(j:Def P w K mg base "_law_digit" 1 aO kx):Def P w K mg base "_law_machine" 4 ["_law_pot_here"] B2:=by
 exists["_law_pot_here","_law_modulus","_law_many","_law_numbers","_law_row","_law_deeds"];let(p,rfl,k,q):=h;have l:=hr.units;refine(_,(ai (bf (i:=1) sc rfl Sort (ao l (bE (ag aj (ag aj (ag aj (ag aj (ag aj (ag (aZ cB aj (aN j hr (ag (aq 0) (ag (aZ dR (aZ pW aj aj) aj) aa)))) aa))))))) (aN j hr (ag (aq 0) (ag aj aa)))))
  (ai (bf (i:=2) sc rfl Sort (aZ cB aj (aN j hr (ag (aq 0) (ag aj aa)))))
  (ai (fC (i:=3) sc rfl Sort (N':=eh) (ix:=[none,some 0,some 1]) (cD rfl T.dD (ag (aq 2) aa)) (λ_ _ _ _=>(aT (i:=0) (iw eh) rfl Sort)) nJ (λ_ _ _ _=>(aN j hr (ag (aq 1) (ag (aq 2) aa)))))
  (ai (fC (i:=4) sc rfl Sort (N':=eh) (ix:=[none,some 0,some 1]) (cD rfl T.dD (ag (aN j hr (ag (aq 0) (ag aj aa))) aa)) (λ_ _ _ _=>(aT (i:=0) (iw eh) rfl Sort)) nJ (λ_ _ _ _=>(aN j hr (ag (aq 1) (ag (aq 2) aa)))))
  (ai (fC (i:=5) sc rfl Sort (N':=["_law_k","_law_pot_here","_law_many"]) (ix:=[none,some 0,some 2]) (cD rfl T.dD (ag (aN j hr (ag (aq 0) (ag aj aa))) aa)) (λ_ _ _ _=>(aT (i:=0) (iw ["_law_k","_law_pot_here","_law_many"]) rfl Sort)) nJ (λ_ _ _ _=>(aN oY hr (ag (aq 1) (ag (aq 2) aa)))))
  (ak (aG (bD (ag (aq 1) (ag (aq 3) (ag (aq 4) (ag (aq 5) aa)))))))))))),?_)
 right;calc(VA,?_);calc dig k Z2 VE λd0 H1 XE h11 ZZ=>?_;right;calc(∅,λl t=>?_);have j:=ZZ.new (o:=.lst (mods d0)) t;have hlp:l≠p:=Step.ne ZZ.ia t;calc dig j.ia ∅ ⋯ λk H3 hk0 hk1 c=>?_;have B:=j.trans c;let(M,eM,HH,rm):=QL XE h11 hk0 hk1;right;calc bH (c.rest _ _ af hlp) eM ?_;right;calc dig B.ia ∅ ⋯ λm H4 j k ud=>?_;have W:=B.trans ud;right;calc bJ ?_;right;calc ie () () (λD X=>?_);have y:D≠p:=Step.ne W.ia X;refine bu (J:=Ck 0 (1+m).toNat) (n:=(1+m).toNat) (λi ys H'=>∃ns:List Int,ys=ns.map V.int/\ns.length=i/\Step p H4 H'/\(∀z∈ns,0<=z/\z<M)) (T' (aD ())) ([],rfl,rfl,(Step.refl W.ia).new X,λz r=>by simp at r) (λi ys H' a _=>a) (λys H' _=>S' _) ?_ ?_
 .intro i ys H' a G t iz x H2 iY;nofun;let(ns,rfl,I,st,hb):=iz;let(rfl,rfl):=iY;ac_rfl;calc(Ext.set (Ext.refl _) rfl,?_);right;rw[if_pos trivial];calc dig st.ia () (Mt () rm) λd H3 h3 h4 c=>?_;refine b4 (c.rest _ _ G y) t a (T' (aD ())) (ns++[d],nofun,by simp[I],?_,λz r=>?_)
  .exact(c.ia.upd (Ne.symm y),λb o e ne=>by rw[ay (av e X)];calc c.rest _ _ (st.rest _ _ e ne) ne)
  .rcases List.mem_append.mp r with g | g
   .exact hb z g
   .simp at g;subst g;exact(h3,h4)
 intro ys H5 en hl5 qk;let(ns,rfl,I,nU,Ol):=qk;have fD:H D=none:=W.free X;have L:=W.trans nU;calc bJ ?_;right;calc dig L.ia ∅ ⋯ λm6 H6 j k SE=>?_;have Y:=L.trans SE;have en6:=SE.rest _ _ en y;right;calc ie () () (λZ HU=>?_);have QO:Z≠p:=Step.ne Y.ia HU;refine bu (J:=Ck 0 m6.toNat) (n:=m6.toNat) (λi ys H'=>∃ns:List Int,ys=ns.map V.int/\ns.length=i/\Step p H6 H'/\(∀z∈ns,0<=z/\z<M)) (T' (aD ())) ([],rfl,rfl,(Step.refl Y.ia).new HU,λz r=>by simp at r) (λi ys H' a _=>a) (λys H' _=>S' _) ?_ ?_
 .intro i ys H' a G t zg x H2 zh;nofun;let(ns,rfl,I,st,hb):=zg;let(rfl,rfl):=zh;ac_rfl;calc(Ext.set (Ext.refl _) rfl,?_);right;rw[if_pos trivial];calc dig st.ia () (Mt () rm) λd H3 h3 h4 c=>?_;refine b4 (c.rest _ _ G QO) t a (T' (aD ())) (ns++[d],nofun,by simp[I],?_,λz r=>?_)
  .exact(c.ia.upd (Ne.symm QO),λb o e ne=>by rw[ay (av e HU)];calc c.rest _ _ (st.rest _ _ e ne) ne)
  .rcases List.mem_append.mp r with g | g
   .exact hb z g
   .simp at g;subst g;exact(h3,h4)
 intro ys H7 er hl7 zi;let(row,rfl,c,Wq,VH):=zi;have fD2:H Z=none:=Y.free HU;have N:=Y.trans Wq;have en7:=Wq.rest _ _ en6 y;calc bJ ?_;right;calc dig N.ia ∅ ⋯ λm8 H8 c g Ov=>?_;have QP:=N.trans Ov;have en8:=Ov.rest _ _ en7 y;have er8:=Ov.rest _ _ er QO;right;calc ie () () (λO x8=>?_);have R:O≠p:=Step.ne QP.ia x8;have fD3:H O=none:=QP.free x8;refine bu (J:=Ck 0 m8.toNat) (n:=m8.toNat) (λi ys H'=>∃u:List bF,fK H' 2 ys (u.map bF.dv)/\u.length=i/\(∀d'∈u,d'.ok (1+m))/\Step p H8 H') (T' (aD ())) ([],fK.nil,rfl,λd' yr=>by simp at yr,(Step.refl QP.ia).new x8) (λi ys H' a _=>a) (λys H' _=>S' _) ?_ ?_
 .intro i ys H' a G t9 QQ x H9 Mu;nofun;let(u,wH,S,Wr,v):=QQ;let(rfl,rfl):=Mu;ac_rfl;calc(Ext.set (Ext.refl _) rfl,?_);right;rw[if_pos trivial];calc(p,1 + m,rfl,v.ia,(),(),λg dd c QR SG abk=>?_);have U:=QR.rest _ _ G R;have t10:cw c (upd c O (.lst (ys++[g]))):=(cw.refl _).upd λc e=>by rw[U] at e;cases e
  refine b4 U t9 a (T' (aD ())) (u++[dd],?_,by simp[S],?_,?_)
  .rw[aah];exact((wH.aL (QR.aR v.ia)).snoc SG).aL t10
  .intro d' yr;rcases List.mem_append.mp yr with z | z
   .exact Wr d' z
   .simp at z;subst z;exact abk
  .exact(QR.ia.upd (Ne.symm R),λb o e ne=>by rw[ay (av e x8)];calc QR.rest _ _ (v.rest _ _ e ne) ne)
 intro ys H9 ed a c;let(u,wH,S,Wr,v):=c;have ag3:=QP.trans v;right;calc(by show 4<=sizeLine;decide,λt c=>?_);have a:=au.new (.tup [.int M,.ref D,.ref Z,.ref O]) c;calc q t D Z O ys M ns row u _ (ag3.new c) af (a _ _ (v.rest _ _ en8 y)) (a _ _ (v.rest _ _ er8 QO)) (a _ _ ed) (wH.aL a.aR) fD fD2 fD3 (HH,rm,(),(),(),Ol,VH,(),λd g=>?_);rw[I];have e:(((1+m).toNat:Nat):Int)=1+m:=();rw[e];calc Wr d g
abbrev mF:Stmt:=top 81
inductive Mv(vs:List V)(H:Hp)(Q:VK):Prop
 |mk (x:V) (st an ar:Addr) (way said M:Int) (v:Val) (ns row:List Int) (n:Nat) (h0:vs=[x,.ref st,.int way,.int said,.int M]) (h1:HT H n x (Val.dv v)) (h2:H st=some (.tup [.ref an,.ref ar])) (h3:H an=some (.lst (ns.map V.int))) (h4:H ar=some (.lst (row.map V.int))) (h5:v.ok ns.length) (h6:0<M) (h7:row.length<=12) (h8:∀H',au H H'->Q (.int (gv M way said ns row v)) H'):Mv vs H Q
def FV:Sp:=λvs H Q _=>Mv vs H Q
theorem B3(D:cG K mg "_law_worth" "_law_worth" mF cx)(T:Tx K mg C CN CR F FD):Def P w K mg base "_law_worth" 1 cx FV:=by
 exists["_law_value_here","_law_state","_law_way","_law_said","_law_modulus","_law_worth_here"];let(x,st,c,z,way,d,M,v,ns,a,n,rfl,k,R,Y,o,S,m,Z,q):=h;have c:=hr.units;refine(_,(ai (bf (i:=5) sc rfl Sort (aq 2))
  (ai (aW (aC (bg c) (ao c (aq 0) aj) aH (aI _)) (ak (bf (i:=5) sc rfl Sort (ao c (aq 0) aj))) aK)
  (ai (aW (aC (bg c) (ao c (aq 0) aj) aH (aI _)) (ak (bf (i:=5) sc rfl Sort (ao c (ao c (aq 1) aj) (ao c (aq 0) aj)))) aK)
  (ai (aW (aC (bg c) (ao c (aq 0) aj) aH (aI _)) (ak (bf (i:=5) sc rfl Sort (aq 3))) aK)
  (ai (aW (aC (bg c) (ao c (aq 0) aj) aH (aI _)) (ak (bf (i:=5) sc rfl Sort (ao c (aZ cB (dy (N':=["_law_k","_law_state"]) (ix:=[none,some 1]) (cD rfl T.dD (ag (aX aM rfl T.bO Y' (ag (ao c (aq 1) aj) aa)) aa)) (λ_ _ _ _=>(aT (i:=0) (iw ["_law_k","_law_state"]) rfl Sort)) nJ (λ_ _ _ _=>(ft (K:=K) rfl c (ft (K:=K) rfl c (aq 1) aj) (aq 0)))) (bE (ag aj aa))) aj))) aK)
  (ak (aG (aZ dI (aq 5) (aq 4))))))))),?_)
 left
 cases v with
 |is z=>
  nofun;let(t,u,w2,y,rfl,B,g,I):=dP k;obtain rfl:=g.c8;obtain rfl:=I.cF;ac_rfl;walk_at "jg";calc(m,q H (au.refl H))
 |number i=>
  nofun;let(t,u,w2,y,rfl,B,g,I):=dP k;obtain rfl:=g.c8;obtain rfl:=I.cF;let(L,c):=S;let(j,rfl):=abI L;ac_rfl;have U:j<ns.length:=();have c:hV (ns.map V.int) (j:Int)=some (.int ns[j]):=aA (by rw[K',cJ U];rfl);walk_at "jg";have c:=q H (au.refl H);have N:gv M way d ns a (.number j)=ns[j]%M:=by
   show ns.getD (j:Int).toNat 0%M=_;simp[List.getD_eq_getElem?_getD,cJ U]
  rw[N]at c;calc(m,c)
 |first=>
  nofun;let(t,u,y,rfl,B,g):=jK k;obtain rfl:=g.c8;ac_rfl;walk_at "jg"
  skip
  walk_at "jg";calc bN _ (.inl (_,aS.of o,rfl)) ?_;left;have c:(a.map V.int).length=a.length:=nofun;rw[c];calc ie () () (λD W=>?_);refine bu (J:=Ck 0 a.length) (n:=a.length) (λi ys H'=>ys=(a.take i).map V.int/\au H H') (T' (aD ())) (rfl,au.new _ W) (λi ys H' l _=>l) (λys H' _=>S' _) ?_ ?_
  .intro i ys H' l r G iz x H2 iY;nofun;let(rfl,p):=iz;let(rfl,rfl):=iY;ac_rfl;calc(Ext.set (Ext.refl _) rfl,?_);have c:=p _ _ R;have O:=p _ _ o;walk_at "jg"
   try rw[if_pos trivial]
   calc bH O (show hV (a.map V.int) (0+(i:Int))=some (.int a[i]) from by rw[acq];calc aA (by rw[K',cJ l];rfl)) ?_;calc b4 r G l (T' (aD ())) (?_,λb o e=>by rw[ay (av e W)];calc p _ _ e);rw[acY,cJ l,aah];rfl
  rintro ys H1 r G ⟨rfl,p⟩;rw[aaP]at r;walk_at "jg";calc(∅,λl G=>?_);have X:=au.new (.lst [.int 0]) G;walk_at "jg";calc .inl (_,_,X _ _ r,af,T' (aD (by simp;lia)),λi c=>?_);have s3:=au.new (.lst (a.map V.int++[.int 0])) c;have N:hV (a.map V.int++[.int 0]) 0=some (.int (uU ns a way d .first)):=by
   cases a with
   |nil=>calc aA (j:=0) rfl
   |cons r a=>exact aA (j:=0) rfl
  left;calc bH af N ?_;walk_at "jg";calc(m,q _ (p.trans (X.trans s3)))
 |oz=>
  nofun;let(t,u,y,rfl,B,g):=jK k;obtain rfl:=g.c8;ac_rfl;walk_at "jg";calc(m,q _ (au.refl H))
 |way=>
  nofun;let(t,u,y,rfl,B,g):=jK k;obtain rfl:=g.c8;ac_rfl;walk_at "jg";calc(m,q _ (au.refl H))
noncomputable def SH(M way said:Int):Nat->List bF->WS->WS
 |_,[],s=>s
 |l+1,_::r,s=>SH M way said l r s
 |0,d::r,s=>SH M way said (nY M way said d s).toNat r (lL M way said d s)
theorem zB:∀(b:List bF) (l:Nat) (s:WS) (f:Nat),b.length<=f->SH M way said l b s=AX M way said f (b.drop l) s
 | [],l,s,f,_=>by rw[List.drop_nil,EY];cases l<;>rfl
 |d::r,l+1,s,f,h=>by
  show SH M way said l r s=AX M way said f (r.drop l) s;calc zB r l s f (by simp at h;lia)
 |d::r,0,s,f,h=>by
  obtain⟨a,rfl⟩:∃a,f=a+1:=(f-1,by simp at h;lia)
  show SH M way said (nY M way said d s).toNat r (lL M way said d s)=AX M way said a (r.drop (nY M way said d s).toNat) (lL M way said d s);calc zB r _ _ a (by simp at h;lia)
theorem Mw{b:List bF}{a:List Int}:SH M way said 0 b (ns,a,[],[])=qb M way said b ns a:=zB b 0 _ _ (S' _)
inductive QS(H:Hp)(mt:Addr)(st:V)(way said M:Int)(ds:List bF)(ns row:List Int)(i:Nat)(σ:St)(H':Hp):Prop
 |mk (an ar iJ aw:Addr) (zs:List V) (z9 VO:Option V) (l:Nat) (s:WS) (h0:σ=[some (.ref mt),some st,some (.int way),some (.int said),some (.ref an),some (.ref ar),some (.ref iJ),some (.ref aw),some (.int ((l:Nat):Int)),z9,VO]) (h1:au H H') (a1:H an=none) (a2:H ar=none) (a3:H iJ=none) (a4:H aw=none) (n1:an≠ar) (n2:an≠iJ) (n3:an≠aw) (n4:ar≠iJ) (n5:ar≠aw) (n6:iJ≠aw) (e1:H' an=some (.lst (s.ns.map V.int))) (e2:H' ar=some (.lst (s.row.map V.int))) (e3:H' iJ=some (.lst zs)) (FC:SL H' zs s.cM) (e5:H' aw=some (.lst (s.words.map V.int))) (Oj:s.ns.length=ns.length) (Ol:∀z∈s.ns,0<=z/\z<M) (BP:s.row.length<=12) (L7:s.cM.length<=i) (hwn:s.words.length<=i) (ou:SH M way said l (ds.drop i) s=qb M way said ds ns row):QS H mt st way said M ds ns row i σ H'
inductive Mx(K:W.Frag)(vs:List V)(H:Hp)(Q:VK):Prop
 |mk (mt ln lr ld:Addr) (st:V) (way said M:Int) (xs:List V) (ds:List bF) (ns row:List Int) (h0:vs=[.ref mt,st,.int way,.int said]) (hmt:H mt=some (.tup [.int M,.ref ln,.ref lr,.ref ld])) (h1:H ld=some (.lst xs)) (h2:fK H 2 xs (ds.map bF.dv)) (h3:AY K H st ns row) (h5:2<=M) (h6:M<=1000000000000) (h7:∀z∈ns,0<=z/\z<M) (h9:row.length<=12) (XE:ds.length<=24) (h11:∀d∈ds,d.ok ns.length) (h13:∀x H',au H H'->Res H H' x (qb M way said ds ns row)->Q x H'):Mx K vs H Q
theorem Ws:eD xs none (some 12)=xs.take 12:=by
 unfold eD;have a:HT.fm xs.length 0 none=0:=rfl;rw[a];have b:HT.fm xs.length xs.length (some 12)=min 12 xs.length:=by
  unfold HT.fm;simp
 rw[b,List.drop_zero,Nat.sub_zero];by_cases h:xs.length<=12
 .rw[Nat.min_eq_right h,aaP,abR h]
 .rw[Nat.min_eq_left ()]
theorem abo:eD xs (some 1) none=xs.tail:=by
 unfold eD;have b:HT.fm xs.length xs.length none=xs.length:=rfl;rw[b]
 cases xs with
 |nil=>simp
 |cons a r=>
  have b:HT.fm (a::r).length 0 (some 1)=1:=by
   unfold HT.fm;simp
  rw[b];simp
theorem FW{α:Type}{l m:List α}(h:l.length<=i)(h':m.length<=1):(l++m).length<=i+1:=by rw[aas];lia
theorem QT{a:List Int}(h:a.length<=12):eD (a.map V.int++[x].map V.int) none (some 12)=(if a.length<12 then a++[x] else a).map V.int:=by
 rw[Ws,<-aah,<-List.map_take];split
 .rw[abR (by simp;lia)]
 .rw[ac5 (),abR h]
abbrev kT:Stmt:=top 82
def FX(K:W.Frag):Sp:=λvs H Q _=>Mx K vs H Q
theorem zC(D:cG K mg "_law_worked" "_law_worked" kT c6)(T:Tx K mg C CN CR F FD)(mG:Def P w K mg base "_law_worth" 1 cx FV):Def P w K mg base "_law_worked" 2 c6 (FX K):=by
 exists["_law_machine_here","_law_state","_law_way","_law_said","_law_numbers","_law_row","_law_sent","_law_words","_law_left","_law_deed_here","_law_worths"];let(mt,g,lr,ld,st,k,a,M,xs,U,ns,row,rfl,hmt,had,wH,pQ,HH,rm,hb,ql,R6,aY,q):=h;have g:=hr.units;refine(_,(ai (bf (i:=4) sc rfl Sort (dz cK rfl T.fJ oh (ag (ao g (aq 1) aj) aa)))
  (ai (bf (i:=5) sc rfl Sort (dz cK rfl T.fJ oh (ag (ao g (aq 1) aj) aa)))
  (ai (bf (i:=6) sc rfl Sort (bE aa))
  (ai (bf (i:=7) sc rfl Sort (bE aa))
  (ai (bf (i:=8) sc rfl Sort aj)
  (ai (cZ PassesOwn.never rfl (bR (ao g (aq 0) aj)) (aT (i:=9) sc rfl Sort)
  (ai (fC (i:=10) sc rfl Sort (N':=ek) (ix:=[none,some 2,some 3,some 4,some 5,some 0]) (bR (pv 9)) (λ_ _ _ _=>(aT (i:=0) (iw ek) rfl Sort)) (λ_ _ _ _=>(jx (bA (aX (nv (K:=K) rfl) rfl T.bb ug (ag (aq 0) (ag (cV (v:=.ty "tuple") rfl T.b8 sM rfl) aa)))))) (λ_ _ _ _=>(aN mG hr (ag (aq 0) (ag (bD (ag (aq 3) (ag (aq 4) aa))) (ag (aq 1) (ag (aq 2) (ag (ft (K:=K) rfl g (aq 5) aj) aa))))))))
  (ak (aW (aC kK (aq 8) aj (aI _)) (ak (bf (i:=8) sc rfl Sort (aZ dR (aq 8) aj))) (ak (aW (aC (bg g) (ao g (aq 9) aj) aH (aI _)) (ak (dS (ao g (aq 10) aj) (iS (aq 4) (ao g (aq 9) aj) dU))) (ak (aW (aC (bg g) (ao g (aq 9) aj) aH (aI _)) (ak (dS (aZ dI (aZ cB (ao g (aq 4) (ao g (aq 9) aj)) (ao g (aq 10) aj)) (ao g (aq 0) aj)) (iS (aq 4) (ao g (aq 9) aj) dU))) (ak (aW (aC (bg g) (ao g (aq 9) aj) aH (aI _)) (ak (dS (aZ dI (aZ nr (ao g (aq 4) (ao g (aq 9) aj)) (ao g (aq 10) aj)) (ao g (aq 0) aj)) (iS (aq 4) (ao g (aq 9) aj) dU))) (ak (aW (aC (bg g) (ao g (aq 9) aj) aH (aI _)) (ak (bf (i:=5) sc rfl Sort (uM (aZ cB (aq 5) (aq 10)) pV (iK aj)))) (ak (aW (aC (bg g) (ao g (aq 9) aj) aH (aI _)) (ak (bf (i:=5) sc rfl Sort (uM (aq 5) (iK aj) pV))) (ak (aW (aC (bg g) (ao g (aq 9) aj) aH (aI _)) (ak (bX (dw pP sF sL cj (aq 6) (ag (bD (ag (ao g (aq 9) aj) (ag (ao g (aq 10) aj) aa))) aa)))) (ak (aW (aC (bg g) (ao g (aq 9) aj) aH (aI _)) (ak (bX (dw pP sF sL cj (aq 7) (ag (ao g (aq 10) aj) aa)))) (ak (aW (aC gr (ao g (aq 10) aj) (ao g (aq 10) aj) (aI _)) (ak (bf (i:=8) sc rfl Sort (ao g (aq 9) aj))) aK))))))))))))))))))))
  (ak (aG (bD (ag (bD (ag (dz bU rfl T.b8 sM (ag (aq 4) aa)) (ag (dz bU rfl T.b8 sM (ag (aq 5) aa)) aa))) (ag (aq 6) (ag (aq 7) aa)))))))))))),?_)
 let(sa,sb,sc',rfl,hsa,hsb,hsc):=pQ;have Oi:0<M:=();left;calc cL hsa rfl ?_;left;calc bN _ hsb (λB VP=>?_);have s1:=au.new (.lst (ns.map V.int)) VP;left;calc cL (s1 _ _ hsa) rfl ?_;left;have g:aS K (upd H B (.lst (ns.map V.int))) sc' (row.map V.int)\/bI K (upd H B (.lst (ns.map V.int))) sc' (row.map V.int):=hsc.elim (λz=>.inl (s1.seq z)) (λz=>.inr (s1.Xv z));calc bN _ g (λN DB=>?_);have s2:=au.new (.lst (row.map V.int)) DB;left;calc(aam _,λG rG=>?_);have m:=au.new (.lst []) rG;left;calc(aam _,λI nR=>?_);have s4:=au.new (.lst []) nR;left;have nra:N≠B:=λz=>by subst z;rw[af]at DB;cases DB
 have hrH:H N=none:=s1.free DB;have hsH:H G=none:=(s1.trans s2).free rG;have hwH:H I=none:=(s1.trans (s2.trans m)).free nR;have nsa:G≠B:=λz=>by subst z;rw[s2 _ _ af]at rG;cases rG
 have nsr:G≠N:=λz=>by subst z;rw[af]at rG;cases rG
 have nwa:I≠B:=λz=>by subst z;rw[m _ _ (s2 _ _ af)]at nR;cases nR
 have nwr:I≠N:=λz=>by subst z;rw[m _ _ af]at nR;cases nR
 have nws:I≠G:=λz=>by subst z;rw[af]at nR;cases nR
 have g:=s1.trans (s2.trans (m.trans s4));have exs:xs.length=U.length:=(wH.1:)
 refine cL (g _ _ hmt) (aA (j:=3) rfl) (.inl ((_,aS.of (g _ _ had)),fA (K:=K) (xs:=xs) (QS H mt (.ref sa) k a M U ns row) ?_ ?_ ?_ ?_))
 .refine(B,N,G,I,[],none,none,0,(ns,row,[],[]),rfl,g,VP,hrH,hsH,hwH,Ne.symm nra,Ne.symm nsa,Ne.symm nwa,Ne.symm nsr,Ne.symm nwr,Ne.symm nws,s4 _ _ (m _ _ (s2 _ _ af)),s4 _ _ (m _ _ af),s4 _ _ af,(rfl,λi z p e=>by simp at e),af,rfl,hb,ql,S' _,S' _,Mw)
 .intro i σ H1 hi iz;let(B,N,G,I,zs,z9,VO,l,s,rfl,sH,_):=iz;exact aS.of (sH _ _ had)
 .intro i x σ H1 hxi iY;nofun;let(B,N,G,I,zs,z9,VO,l,s,rfl,sH,a1,a2,a3,a4,n1,n2,n3,n4,n5,n6,L,X,O,FC,R,Oj,Ol,BP,L7,hwn,Y):=iY;have wF:i < U.length:=by rw[<-exs];exact(iF hxi).1
  have vD:=aY U[i] (aaJ wF);have hx:=(wH.2 i x (bF.dv U[i]) hxi (by rw[K',cJ wF];rfl)).aL sH.aR;have XF:U.drop i=U[i]::U.drop (i+1):=List.drop_eq_getElem_cons wF;generalize hdd:U[i]=d at vD hx XF;rw[XF]at Y;let(pa,xp,os,k0,rfl,hpa,om,Wt,oU):=Ft hx;ac_rfl;left;calc bJ ?_;left;calc .inr ((_,bI.of hpa),λD hD=>?_);have O0:=BM (d:=d);refine bu (J:=Xi K pa) (n:=xp.length) (λi ys H'=>ys=(((os.take i).filterMap id).map (gv M k a s.ns s.row)).map V.int/\au H1 H') (T' (aD ())) (rfl,au.new _ hD) ?_ ?_ ?_ ?_
  .rintro i ys H' hi ⟨_,m⟩;exact(_,xp[i],bI.of (m _ _ hpa),cJ hi)
  .rintro ys H' ⟨_,m⟩;exact(_,bI.of (m _ _ hpa),S' _)
  .intro i ys S hi bt t9 qk y H4 zg;nofun;let(rfl,m):=qk;let(rfl,g):=zg;have T:=g _ (bI.of (m _ _ hpa));let(o,ho,LU):=om.get T;ac_rfl;have BJ:os.take (i+1)=os.take i++[o]:=by
    rw[acF,ho];rfl
   calc(Ext.set (Ext.refl _) rfl,?_);left;rcases LU with⟨rfl,hc⟩|⟨v,rfl,hvx⟩
   .have ety:∃t,iq K H4 y t/\W.kitOne K t (.type "tuple")=some false:=by
     rcases hc with⟨w,rfl⟩|⟨j,rfl⟩
     .exact(_,.str w,rfl)
     .exact(_,.int j,rfl)
    let(t,h1,h2):=ety;refine d7 t false h1 h2 ?_
    first|calc(false,rfl,?_)|skip
    left
    try rw[if_neg X']
    exact(_,bt,(),by rw[BJ];simp,m)
   .have LV:=hvx.aL m.aR;let(b,Oo,rfl,gx):=EZ LV;refine d7 _ true (.tup gx) rfl ?_
    first|calc(true,rfl,?_)|skip
    left
    try first|rw[if_pos rfl]|rw[if_pos trivial]
    have jQ:v.ok ns.length:=qp vD v (by rw[<-Wt];calc List.mem_filterMap.mpr (some v,aaF ho,rfl));left;calc(dO,λy t=>?_);have g:=au.new (.tup [.ref B,.ref N]) t;calc cL (g _ _ (m _ _ (sH _ _ hmt))) (aA (j:=0) rfl) ?_;calc(.ref b,y,B,N,k,a,M,v,s.ns,s.row,k0,rfl,LV.aL g.aR,af,g _ _ (m _ _ L),g _ _ (m _ _ X),by rw[Oj];calc jQ,Oi,BP,λT t=>?_);calc b4 (t _ _ (g _ _ bt)) t9 hi (T' (aD ())) (?_,λc o e=>by rw[ay (av e hD)];calc t _ _ (g _ _ (m _ _ e)));rw[BJ,List.filterMap_append,aah,aah];rfl
  rintro ys S bt t9 ⟨rfl,m⟩;rw[om.len,aaP,Wt]at bt;have IT:H1 D=none:=hD;nofun;generalize g:d.vals.map (gv M k a s.ns s.row)=ws at bt;have lN:ws.length=d.vals.length:=by rw[<-g];simp
  have Sa:0<=ws.getD 0 0/\ws.getD 0 0<M:=by rw[<-g];exact xY Oi
  have FE:lL M k a d s=(kq M s.ns (ws.getD 0 0) d,p9 s.row (ws.getD 0 0) d,s.cM++iV (ws.getD 0 0) d,s.words++gG (ws.getD 0 0) d):=by rw[<-g];rfl
  have FG:nY M k a d s=qa (ws.getD 0 0) (ws.getD 1 0) d:=by rw[<-g];rfl
  have g:∀{b:Addr} {o:HO},H1 b=some o->b≠D:=λe=>av e IT;have qI:au H S:=sH.trans m;have Oh:=hx.aL m.aR;have zD:=FC.aL m.aR;have t:B≠D:=g L;have t:N≠D:=g X;have t:G≠D:=g O;have t:I≠D:=g R;have nPs:∀{b:Addr} {ys zs:List V},S b=some (.tup ys)->∀{c:Addr},S c=some (.lst zs)->b≠c:=λh1 _ h2 z=>by subst z;rw[h1]at h2;cases h2
  have ag5:=qI _ _ hmt
  replace L:=m _ _ L
  replace X:=m _ _ X
  replace O:=m _ _ O
  replace R:=m _ _ R
  ac_rfl;clear om Wt oU O0 t9 hx
  cases l with
  |succ l=>
   left;rw[if_pos nofun];left;calc(B,N,G,I,zs,some (.ref pa),some (.ref D),l,s,?_,qI,a1,a2,a3,a4,n1,n2,n3,n4,n5,n6,L,X,O,zD,R,Oj,Ol,BP,(),(),Y);have:((l+1:Nat):Int)-1=((l:Nat):Int):=by lia
   rw[this]
  |zero=>
  replace Y:SH M k a (nY M k a d s).toNat (U.drop (i+1)) (lL M k a d s)=qb M k a U ns row:=Y
  rw[FE,FG]at Y;left
  try rw[if_neg nofun]
  have g:((ns.length:Nat):Int)=s.ns.length:=by rw[Oj]
  have Z:∀H6 SI Oo n' r' sn' w' (k':Nat),vB M s.ns s.row (ws.getD 0 0) (ws.getD 1 0) d=((n'),r',sn',w',((k':Nat):Int))->au H H6->H SI=none->B≠SI->SI≠G->SI≠I->H6 B=some (.lst (n'.map V.int))->H6 SI=some (.lst (r'.map V.int))->H6 G=some (.lst Oo)->SL H6 Oo (s.cM++sn')->H6 I=some (.lst ((s.words++w').map V.int))->QS H mt (.ref sa) k a M U ns row (i+1) [some (.ref mt),some (.ref sa),some (.int k),some (.int a),some (.ref B),some (.ref SI),some (.ref G),some (.ref I),some (.int ((k':Nat):Int)),some (.ref pa),some (.ref D)] H6:=by
   clear bt Oh zD L X O R ag5 nPs;intro H6 SI Oo n' r' sn' w' k' E f0 f1 f2 f3 f4 f5 f6 f7 f8 f9;simp only[vB,Prod.mk.injEq]at E;let(rfl,rfl,rfl,rfl,E):=E;rw[E,aal]at Y;have g:=BN (w:=ws.getD 0 0) (d:=d);exact(B,SI,G,I,Oo,_,_,k',(_,_,_,_),rfl,f0,a1,f1,a3,a4,f2,n2,n3,f3,f4,n6,f5,f6,f7,f8,f9,qV.trans Oj,FA (d:=d) Oi Ol Sa,L4 (d:=d) BP,FW L7 g.1,FW hwn g.2,Y)
  have DT:∀r x,vB M s.ns s.row (ws.getD 0 0) (ws.getD 1 0) d=((s.ns.set r x),s.row,[],[],0)->QS H mt (.ref sa) k a M U ns row (i+1) [some (.ref mt),some (.ref sa),some (.int k),some (.int a),some (.ref B),some (.ref N),some (.ref G),some (.ref I),some (.int 0),some (.ref pa),some (.ref D)] (upd S B (.lst ((s.ns.map V.int).set r (.int x)))):=λr x E=>by
   have t6:cw S (upd S B (.lst ((s.ns.map V.int).set r (.int x)))):=(cw.refl _).upd λys e=>by rw[L]at e;cases e
   exact Z _ N zs _ _ _ _ 0 E (λb o e=>by rw[ay (av e a1)];calc qI _ _ e) a2 n1 n4 n5 (by rw[af,List.map_set]) (by rw[ay (Ne.symm n1)];calc X) (by rw[ay (Ne.symm n2)];calc O) (by rw[aax];calc zD.aL t6) (by rw[ay (Ne.symm n3),aax];calc R)
  have Pe:=xX Oh vD;clear Oh vD Y FE FG;have R8:∀r:Nat,((r:Nat):Int)<ns.length->Dc (s.ns.map V.int).length ((r:Nat):Int)=some r/\hV (s.ns.map V.int) ((r:Nat):Int)=some (.int (s.ns.getD r 0)):=λr hj=>(mq (by rw[V'];lia),i8 ())
  cases Pe with
  |set r u hj ha hl E=>
   have Fx:=i8 (ws:=ws) (j:=0) ();let(x1,x2):=R8 r hj;walk_at "jg";calc d7 _ r L x1 ?_;calc DT _ _ (E _ _ _ _ _)
  |add r u hj ha hl E=>
   have Fx:=i8 (ws:=ws) (j:=0) ();let(x1,x2):=R8 r hj;walk_at "jg";calc(Oi,?_);walk_at "jg";calc d7 _ r L x1 ?_;calc DT _ _ (E _ _ _ _ _)
  |times r u hj ha hl E=>
   have Fx:=i8 (ws:=ws) (j:=0) ();let(x1,x2):=R8 r hj;walk_at "jg";have g:=Fv Ol (j:=r) ();calc(.inl ((),()),?_);walk_at "jg";calc(Oi,?_);walk_at "jg";calc d7 _ r L x1 ?_;calc DT _ _ (E _ _ _ _ _)
  |put u ha hl E=>
   let(g,ag6):=afI (lN.trans hl);walk_at "jg";calc .inl (_,_,X,bt,T' (aD (by simp;lia)),λg v8=>?_);have s6:=au.new (.lst (s.row.map V.int++ws.map V.int)) v8;walk_at "jg";calc .inl (_,af,λl3 FO=>?_);have s7:=au.new (.lst (eD (s.row.map V.int++ws.map V.int) none (some 12))) FO;have g:=s6.trans s7;have f3:S l3=none:=s6.free FO;calc Z _ l3 zs _ _ _ _ 0 (E _ _ _ _ _) (qI.trans g) (qI.free f3) (av L f3) (Ne.symm (av O f3)) (Ne.symm (av R f3)) (g _ _ L) (by rw[af,ag6];calc congrArg (λz=>some (HO.lst z)) (QT BP)) (g _ _ O) (by rw[aax];calc zD.aL g.aR) (by rw[aax];calc g _ _ R)
  |drop ha E=>
   walk_at "jg";calc .inl (_,X,λl3 FO=>?_);have s7:=au.new (.lst (eD (s.row.map V.int) (some 1) none)) FO;calc Z _ l3 zs _ _ _ _ 0 (E _ _ _ _ _) (qI.trans s7) (qI.free FO) (av L FO) (Ne.symm (av O FO)) (Ne.symm (av R FO)) (s7 _ _ L) (by rw[af,abo,List.map_tail]) (s7 _ _ O) (by rw[aax];calc zD.aL s7.aR) (by rw[aax];calc s7 _ _ R)
  |send j u ha hl E=>
   have Fx:=i8 (ws:=ws) (j:=0) ();walk_at "jg";calc(.inl (rfl,_,aS.of O),?_);walk_at "jg";calc(dO,λtp Cq=>?_);have s6:=au.new (.tup [.int j,.int (ws.getD 0 0)]) Cq;walk_at "jg";calc iy _ (s6 _ _ O) (abY (by have:=FC.1;lia) (aD (n:=100) ())) ?_;have t6:cw (upd S tp (.tup [.int j,.int (ws.getD 0 0)])) (upd (upd S tp (.tup [.int j,.int (ws.getD 0 0)])) G (.lst (zs++[.ref tp]))):=(cw.refl _).upd λys e=>by rw[s6 _ _ O]at e;cases e
   have q6:∀b o,b≠G->S b=some o->upd (upd S tp (.tup [.int j,.int (ws.getD 0 0)])) G (.lst (zs++[.ref tp])) b=some o:=λb o ne e=>by rw[ay ne];exact s6 _ _ e
   calc Z _ N _ _ _ _ _ 0 (E _ _ _ _ _) (λb o e=>q6 b o (av e a3) (qI _ _ e)) a2 n1 n4 n5 (q6 _ _ n2 L) (q6 _ _ n4 X) af ((zD.aL (s6.aR.trans t6)).snoc (dA (n:=0) (t6 _ _ af) (.int _) (.int _))) (by rw[aax];calc q6 _ _ (Ne.symm n6) R)
  |say u ha hl E=>
   have Fx:=i8 (ws:=ws) (j:=0) ();walk_at "jg";calc(.inl (rfl,_,aS.of R),?_);walk_at "jg";calc iy _ R (abY (by simp;lia) (aD (n:=100) ())) ?_;have t6:cw S (upd S I (.lst (s.words.map V.int++[.int (ws.getD 0 0)]))):=(cw.refl _).upd λys e=>by rw[R]at e;cases e
   have q6:∀b o,b≠I->S b=some o->upd S I (.lst (s.words.map V.int++[.int (ws.getD 0 0)])) b=some o:=λb o ne e=>by rw[ay ne];exact e
   calc Z _ N zs _ _ _ _ 0 (E _ _ _ _ _) (λb o e=>q6 b o (av e a4) (qI _ _ e)) a2 n1 n4 n5 (q6 _ _ n3 L) (q6 _ _ n5 X) (q6 _ _ n6 O) (by rw[aax];calc zD.aL t6) (by rw[af,aah];rfl)
  |skip u v kk ha hl E=>
   have Fx:=i8 (ws:=ws) (j:=0) ();have g:=i8 (ws:=ws) (j:=1) ();have E:=E M s.ns s.row (ws.getD 0 0) (ws.getD 1 0);walk_at "jg";by_cases QV:ws.getD 0 0<ws.getD 1 0
   .rw[if_pos QV]at E;left;rw[if_pos (aaC QV)];walk_at "jg";exact Z _ N zs _ _ _ _ kk E qI a2 n1 n4 n5 L X O (by rw[aax];calc zD) (by rw[aax];calc R)
   .rw[if_neg QV]at E;left;rw[if_neg λz=>QV (aaU z)];walk_at "jg";exact Z _ N zs _ _ _ _ 0 E qI a2 n1 n4 n5 L X O (by rw[aax];calc zD) (by rw[aax];calc R)
 .intro σ H1 zh;let(B,N,G,I,zs,z9,VO,l,s,rfl,sH,a1,a2,a3,a4,n1,n2,n3,n4,n5,n6,L,X,O,FC,R,Oj,Ol,BP,L7,hwn,Y):=zh;rw[exs,List.drop_length] at Y;have Y:s=qb M k a U ns row:=by rw[<-Y];cases l <;> rfl
  left;calc .inl (_,aS.of L,λt1 wb=>?_);have r1:=au.new (.tup (s.ns.map V.int)) wb;left;calc .inl (_,aS.of (r1 _ _ X),λt2 qG=>?_);have r2:=au.new (.tup (s.row.map V.int)) qG;left;calc(dO,λt3 Bz=>?_);have r3:=au.new (.tup [.ref t1,.ref t2]) Bz;left;calc(by show 3<=sizeLine;decide,λa i=>?_);have g:=au.new (.tup [.ref t3,.ref G,.ref I]) i;have a:=r1.trans (r2.trans (r3.trans g));refine q _ _ (sH.trans a) (_,_,G,I,zs,rfl,af,?_,a _ _ O,?_,?_,a3,a4,n6)
  .rw[<-Y];exact(dA af (p8 (r3 _ _ (r2 _ _ af))) (p8 (r3 _ _ af))).aL g.aR
  .rw[<-Y];exact FC.aL a.aR
  .rw[<-Y];calc a _ _ R
def iE(H:Hp)(x:V)(M:Int)(ns a:List Int)(e:List bF):Prop:=∃t b c d xs,x=.ref t/\H t=some (.tup [.int M,.ref b,.ref c,.ref d])/\H b=some (.lst (ns.map V.int))/\H c=some (.lst (a.map V.int))/\H d=some (.lst xs)/\fK H 2 xs (e.map bF.dv)
theorem iE.cv{a:List Int}{b:List bF}(s:Cv H H')(h:iE H x M ns a b):iE H' x M ns a b:=by
 let(t,a,b,c,d,e,f,g,i,j,l):=h;calc(t,a,b,c,d,e,s _ _ f (λk z=>by cases z),s _ _ g (λk z=>by cases z),s _ _ i (λk z=>by cases z),s _ _ j (λk z=>by cases z),l.aL s.aR)
def Ed(H:Hp)(a:List V)(gj:List MD):Prop:=a.length=gj.length/\∀(i:Nat) v d,a[i]?=some v->gj[i]?=some d->iE H v d.M d.ns d.row d.ds
theorem Ed.cv{c:List V}(s:Cv H H')(h:Ed H c gj):Ed H' c gj:=(h.1,λi v d a b=>(h.2 i v d a b).cv s)
def ToldN(H:Hp)(x:V)(gj:List MD)(ws:List (Int×Int×Str))(ls:jr):Prop:=∃t a b c d wv lv,x=.ref t/\H t=some (.tup [.ref a,.ref b,.ref c])/\H a=some (.lst d)/\H b=some (.lst wv)/\H c=some (.lst lv)/\Ed H d gj/\fK H 1 wv (ws.map mf)/\fK H 1 lv (ls.map qm)
theorem ToldN.cv(s:Cv H H')(h:ToldN H x gj ws ls):ToldN H' x gj ws ls:=by
 let(t,a,b,c,d,wv,lv,e,f,g,i,j,l,m,n):=h;calc(t,a,b,c,d,wv,lv,e,s _ _ f (λk z=>by cases z),s _ _ g (λk z=>by cases z),s _ _ i (λk z=>by cases z),s _ _ j (λk z=>by cases z),l.cv s,m.aL s.aR,n.aL s.aR)
noncomputable def Ox(a:V)(ev:Addr)(o:Nat->Addr):List (Key×V):=[((.inr "net"),a),((.inr "put"),.ref (o 4)),((.inr "sender"),.ref (o 5)),((.inr "worker"),.ref (o 6)),((.inr "states"),.ref (o 1)),((.inr "words"),.ref (o 2)),((.inr "heard"),.ref (o 3)),((.inr "events"),.ref ev)]
theorem HZ{d:Addr}(h:H d=some (.dK (Ox tn ev o))):ir H d (.str "net") (some tn):=.inl (_,.inr "net",.inl h,rfl,by kernel_rfl)
theorem My{d:Addr}(h:H d=some (.dK (Ox tn ev o))):ir H d (.str "put") (some (.ref (o 4))):=.inl (_,.inr "put",.inl h,rfl,by kernel_rfl)
theorem Mz{d:Addr}(h:H d=some (.dK (Ox tn ev o))):ir H d (.str "sender") (some (.ref (o 5))):=.inl (_,.inr "sender",.inl h,rfl,by kernel_rfl)
theorem QW{d:Addr}(h:H d=some (.dK (Ox tn ev o))):ir H d (.str "worker") (some (.ref (o 6))):=.inl (_,.inr "worker",.inl h,rfl,by kernel_rfl)
theorem Wu{d:Addr}(h:H d=some (.dK (Ox tn ev o))):ir H d (.str "states") (some (.ref (o 1))):=.inl (_,.inr "states",.inl h,rfl,by kernel_rfl)
theorem abp{d:Addr}(h:H d=some (.dK (Ox tn ev o))):ir H d (.str "words") (some (.ref (o 2))):=.inl (_,.inr "words",.inl h,rfl,by kernel_rfl)
theorem zE{d:Addr}(h:H d=some (.dK (Ox tn ev o))):ir H d (.str "heard") (some (.ref (o 3))):=.inl (_,.inr "heard",.inl h,rfl,by kernel_rfl)
theorem abq{d:Addr}(h:H d=some (.dK (Ox tn ev o))):ir H d (.str "events") (some (.ref ev)):=.inl (_,.inr "events",.inl h,rfl,by kernel_rfl)
noncomputable def _root_.DD.RS.tv(r:RS):Nat->Nat->CO
 |0,_=>.l (r.picks.map pairD)
 |1,m=>.l ((r.mm m).fH.map u9)
 |2,m=>.l ((r.mm m).wp.map λw=>.lst (w.map .int))
 |3,m=>.l ((r.mm m).hr.map λw=>.lst (w.map .int))
 |4,w=>.l ((r.ww w).say.map .int)
 |5,w=>.l ((r.ww w).snd.map nQ)
 |_,w=>.d (jq (r.ww w).cE) ((r.ww w).cE.countP Option.isSome)
theorem count_set{e:Int×Int}:∀{l:List (Option (Int×Int))}{k:Nat},l[k]?=some none->(l.set k (some e)).countP Option.isSome=l.countP Option.isSome+1
 | [],k,h=>by simp at h
 |a::r,0,h=>by simp at h;subst h;simp
 |a::r,k+1,h=>by
  have b:=count_set (e:=e) (l:=r) (k:=k) (h:);simp only[List.set_cons_succ,List.countP_cons];rw[b];lia
theorem MA(h:k<l.length)(j:Int):jq (l.set k (some e)) j=if j=((k:Nat):Int) then some (pairD e) else jq l j:=by
 unfold jq;by_cases a:0<=j
 .rw[if_pos a,if_pos a];by_cases z:j=((k:Nat):Int)
  .subst z;rw[if_pos rfl,aal,W',List.getElem?_set];simp[h]
  .rw[if_neg z,W',List.getElem?_set,if_neg (),<-W']
 .rw[if_neg a,if_neg a,if_neg ()]
theorem Ia:jq (l++[none])=jq l:=by
 funext j;unfold jq;split
 .congr 1;rw[W',W',List.getElem?_append];split
  .rfl
  .next z=>
   rw[List.getElem?_eq_none (l:=l) ()]
   cases a:j.toNat-l.length with
   |zero=>rfl
   |succ n=>rfl
 .rfl
structure cC(F:Addr->Prop)(H:Hp)(d:Addr)(tn:V)(nt:NT)(r:RS)(ad:js):Prop where
 dk:∃o,H d=some (.dK (Ox tn (ad 0 0) o))/\¬F d/\¬FP nt.n ad d/\∀t,1<=t->t<=6->H (o t)=some (.lst (jB nt.n ad t))/\¬F (o t)/\¬FP nt.n ad (o t)
 cU:dZ F H nt.n ad r.tv
 told:∃ls,ToldN (kg (λb=>F b\/FP nt.n ad b) H) tn nt.ms nt.ws ls
 ok:nt.Ok
theorem cC.keep{F:Addr->Prop}{d:Addr}(h:cC F H d tn nt r ad)(f:Fr F H H'):cC F H' d tn nt r ad:=by
 let((o,g,e,i,c),j,(ls,k),l):=h;calc((o,f.at g e,e,i,λt a b=>(f.at (c t a b).1 (c t a b).2.1,(c t a b).2)),j.keep f,(ls,k.cv (f.mono λb z=>.inl z).kg),l)
theorem cC.same{F:Addr->Prop}{d:Addr}(h:cC F H d tn nt r ad)(s:au H H'):cC F H' d tn nt r ad:=h.keep s.fr
theorem cC.own{F:Addr->Prop}{d:Addr}{c:RS}(h:cC F H d tn nt r ad)(f:Fr (FP nt.n ad) H H')(b:dZ F H' nt.n ad c.tv):cC F H' d tn nt c ad:=by
 let((o,g,i,e,c),l,(ls,j),k):=h;calc((o,f.at g e,i,e,λt a b=>(f.at (c t a b).1 (c t a b).2.2,(c t a b).2)),b,(ls,j.cv (f.mono λb z=>.inr z).kg),k)
theorem Ib:(jq l ((k:Nat):Int)).isSome= !(l.getD k none).isNone:=by
 unfold jq;rw[if_pos (),aal]
 cases l.getD k none<;>rfl
theorem Ic{aU:List (Key×V)}(e:H a=some (.dK aU))(h:OR H0 (.d g N) (.dK aU))(k:Int):∃o,ir H a (.int k) o/\o.isSome=(g k).isSome:=by
 calc bN _ (ir.k (k:=Sum.inl k) e) ?_;have:=h.2 k;revert this
 cases g k with
 |none=>intro h;rw[h];rfl
 |some d=>intro⟨v,h,_⟩;rw[h];rfl
abbrev mH:Stmt:=top 84
def MB:Sp:=λvs H Q _=>∃(F:Addr->Prop) (d:Addr) (a:V) (nt:NT) (r:RS) (ad:js) (m:Nat),vs=[.ref d,.int m]/\cC F H d a nt r ad/\r.Ok nt/\r.picks.length<=400/\m<nt.ws.length/\∀l H',au H H'->H l=none->H' l=some (.lst ((r.Ou m).map λk=>.int (k:Nat)))->Q (.ref l) H'
theorem B4(D:cG K mg "_law_lying" "_law_lying" mH eE)(T:Tx K mg C CN CR F FD):Def P w K mg base "_law_lying" 1 eE MB:=by
 exists eE;let(F,d,g,z,r,ad,m,rfl,j,k,B,b,q):=h;have g:=hr.units;have z:=Xw g;calc(_,(ak (aG (dy (N':=["_law_k","_law_way","_law_run_here"]) (ix:=[none,some 1,some 0]) (cD rfl T.dD (ag (aX aM rfl T.bO Y' (ag (ao g (ao g (aq 0) aH) (aq 1)) aa)) aa)) (λ_ _ _ _=>(aT (i:=0) (iw ["_law_k","_law_way","_law_run_here"]) rfl Sort)) (λ_ _ _ _=>(jx (TJ (GQ z (aq 0) (ft (K:=K) rfl g (ft (K:=K) rfl g (aq 2) aH) (aq 1)))))) (λ_ _ _ _=>(aq 0))))),?_);nofun;let(o,v,z,B,g):=j.dk;have G:=(g 4 ∅ ∅).1;have I:=(g 6 ∅ ∅).1;let(z,L,B):=j.cU.lst (t:=4) (i:=m) b rfl;let(g,M,N):=j.cU.dct (t:=6) (i:=m) b rfl;ac_rfl;have O:z.length=(r.ww m).say.length:=(B.1:)
 have g:=k.bs m b;left;calc bJ ?_;left;calc bN _ (My v) ?_;left;calc bH G (bz b) ?_;calc bN _ (.inl (_,aS.of L,rfl)) ?_;left;rw[O];calc ie () () (λD p=>?_);rw[aal];refine bu (J:=Ck 0 (r.ww m).say.length) (n:=(r.ww m).say.length) (λi ys H'=>au H H'/\ys=((List.range i).filter λk=>((r.ww m).cE.getD k none).isNone).map λk=>V.int (k:Nat)) (T' (small ())) (au.new _ p,rfl) (λi ys H' u _=>u) (λys H' _=>S' _) ?_ ?_
 .intro i ys H' u l y R x H2 S;nofun;let(a,rfl):=R;let(rfl,rfl):=S;ac_rfl;calc(Ext.set (Ext.refl _) rfl,?_);left;calc bN _ (QW (a _ _ v)) ?_;left;calc bH (a _ _ I) (bz b) ?_;rw[acq];let(U,W,X):=Ic (a _ _ M) N ((i:Nat):Int);calc(ad 6 m,U,rfl,W,?_);rw[X,Ib,Bool.not_not];left;by_cases z:((r.ww m).cE.getD i none).isNone=true
  .rw[z]
   try rw[if_pos rfl]
   calc b4 l y u (T' (small ())) (λc o e=>by rw[ay (av e p)];calc a _ _ e,?_);rw[jC,if_pos z,aah];rfl
  .rw[Bool.not_eq_true] at z;rw[z]
   try rw[if_neg ∅]
   exact(_,l,(),a,by rw[jC,if_neg (by rw[z];decide),aax])
 .rintro ys H' l y ⟨a,rfl⟩;calc q _ _ a p l
noncomputable def jE(nt:NT)(r:RS)(w:Nat):List Nat:=if (nt.w w).2.2="row" then(r.Ou w).take 1 else r.Ou w
noncomputable def lM(nt:NT)(r:RS)(n:Nat):List (Nat×Nat):=(List.range n).flatMap λw=>(jE nt r w).map λk=>((w),k)
theorem vQ:lM nt r (n+1)=lM nt r n++(jE nt r n).map λk=>((n),k):=by
 unfold lM;rw[ac2,List.flatMap_append];simp
theorem fK.app{c e:List DV}(h:fK H n vs c)(g:fK H n us e):fK H n (vs++us) (c++e):=by
 calc(by simp[h.1,g.1],λi v d a b=>?_);by_cases c:i<vs.length
 .rw[aag c]at a;rw[aag (by rw[<-h.1];calc c)]at b;exact h.2 i _ _ a b
 .rw[aad ()]at a;rw[aad (by rw[<-h.1];lia),<-h.1]at b;calc g.2 _ _ _ a b
theorem zF{r:RS}{w:Nat}:(r.Ou w).length<=(r.ww w).say.length:=by
 unfold RS.Ou;calc aaL (List.length_filter_le _ _) nofun
theorem ya{w:Nat}:(jE nt r w).length<=(r.ww w).say.length:=by
 unfold jE;split
 .rw[aa1];have:=zF (r:=r) (w:=w);lia
 .calc zF
theorem yb{nt:NT}:∀n,(∀w,w<n->(r.ww w).say.length<=B)->(lM nt r n).length<=n*B
 |0,_=>by simp[lM]
 |n+1,h=>by
  rw[vQ,aas,V'];have a:=yb (nt:=nt) n (λw a=>h w ());have a:=h n ();have a:=ya (nt:=nt) (r:=r) (w:=n);rw[Nat.succ_mul];lia
noncomputable def pkD(p:Nat×Nat):DV:=pairD ((((p.1:Nat):Int)),((p.2:Nat):Int))
theorem Ie{r:RS}{w:Nat}(h:k∈(r.Ou w).take 1):∀j,j<k->((r.ww w).cE.getD j none).isNone=false:=by
 unfold RS.Ou at h;generalize b:(List.range (r.ww w).say.length).filter (λk=>((r.ww w).cE.getD k none).isNone)=l at h
 cases l with
 |nil=>simp at h
 |cons a t=>
  simp at h;subst h;intro j g;have f:(List.range (r.ww w).say.length).Pairwise (· < ·):=List.pairwise_lt_range;have c:=f.filter (λk=>((r.ww w).cE.getD k none).isNone);rw[b]at c;have f:k∈(List.range (r.ww w).say.length).filter (λk=>((r.ww w).cE.getD k none).isNone):=by rw[b];simp
  rw[List.mem_filter,ac9]at f
  cases z:((r.ww w).cE.getD j none).isNone with
  |false=>rfl
  |true=>
   exfalso;have d:j∈(List.range (r.ww w).say.length).filter (λk=>((r.ww w).cE.getD k none).isNone):=by
    rw[List.mem_filter,ac9];exact((),z)
   rw[b]at d;rcases List.mem_cons.mp d with e|e
   .lia
   .have:=(List.pairwise_cons.mp c).1 j e;lia
theorem MC(h:r.Ok nt){w:Nat}(c:((w),k)∈lM nt r nt.ws.length):r.Qw nt w k:=by
 unfold lM at c;rw[List.mem_flatMap]at c;let(j,a,c):=c;rw[ac9]at a;rw[List.mem_map]at c;let(j,b,e):=c
 cases e;have f:k∈r.Ou w:=by
  unfold jE at b;split at b
  .exact List.mem_of_mem_take b
  .exact b
 have g:k<(r.ww w).say.length/\((r.ww w).cE.getD k none).isNone=true:=by
  unfold RS.Ou at f;rw[List.mem_filter,ac9]at f;exact f
 have c:=h.lk w a;refine(a,?_,λi c=>?_)
 .rw[aP (d:=none) ()]
  cases z:(r.ww w).cE.getD k none with
  |none=>rfl
  |some e=>rw[z]at g;simp at g
 .unfold jE at b;rw[if_pos i] at b;have:=Ie b (k - 1) ();rw[aP (d:=none) (show k - 1 < (r.ww w).cE.length by lia)]
  cases z:(r.ww w).cE.getD (k-1) none with
  |none=>rw[z]at this;simp at this
  |some e=>calc(e,rfl)
theorem Wv:eD xs none (some 1)=xs.take 1:=by
 unfold eD;have b:HT.fm xs.length 0 none=0:=rfl;rw[b]
 cases xs with
 |nil=>simp
 |cons a r=>
  have b:HT.fm (a::r).length (a::r).length (some 1)=1:=by
   unfold HT.fm;simp
  rw[b];simp
abbrev oZ:Stmt:=top 85
def ME:Sp:=λvs H Q _=>∃(F:Addr->Prop) (d:Addr) (a:V) (nt:NT) (r:RS) (ad:js),vs=[.ref d]/\cC F H d a nt r ad/\r.Ok nt/\r.picks.length<=400/\∀l ys H',au H H'->H l=none->H' l=some (.lst ys)->fK H' 1 ys ((lM nt r nt.ws.length).map pkD)->Q (.ref l) H'
theorem Ee(D:cG K mg "_law_free" "_law_free" oZ ["_law_run_here"])(T:Tx K mg C CN CR F FD)(mI:Def P w K mg base "_law_lying" 1 eE MB):Def P w K mg base "_law_free" 2 ["_law_run_here"] ME:=by
 exists["_law_run_here","_law_free_here","_law_way","_law_told","_law_numbers"];let(F,d,tn,a,r,ad,rfl,L,cH,oU,q):=h;have W:=hr.units;refine(_,(ai (bf (i:=1) sc rfl Sort (bE aa))
  (ai (cZ PassesOwn.never rfl (iL rfl T.de (ag (ao W (ao W (aq 0) aH) aj) aa)) (fb (i:=2) (j:=3) rfl sc rfl rfl Sort Sort)
  (ai (bf (i:=4) sc rfl Sort (aN mI hr (ag (aq 0) (ag (aq 2) aa))))
  (ai (aW (aC (bg W) (ao W (aq 3) aj) aH (aI _)) (ak (bf (i:=4) sc rfl Sort (uM (aq 4) pV (iK aj)))) aK)
  (ak (bf (i:=1) sc rfl Sort (aZ cB (aq 1) (dy (N':=["_law_number","_law_way"]) (ix:=[none,some 2]) (bR (pv 4)) (λ_ _ _ _=>(aT (i:=0) (iw ["_law_number","_law_way"]) rfl Sort)) nJ (λ_ _ _ _=>(bD (ag (aq 1) (ag (aq 0) aa)))))))))))
  (ak (aG (aq 1))))),?_)
 nofun;let(o,hd,nF,nP,ho):=L.dk;let(ls,t,am,aw,al,mv,wv,lv,rfl,h1,h2,h3,h4,h5,X,h7):=L.told;have g1:=(dX h1 (λk z=>by cases z)).2;have g3:=(dX h3 (λk z=>by cases z)).2
 replace X:=X.aL dY.aR
 ac_rfl;have lN:wv.length=a.ws.length:=(X.1:)
 have tH:wv.length<=10:=by rw[lN];exact L.ok.Ho
 have hB:∀w,w<a.ws.length->(r.ww w).say.length<=9620:=λw hw=>by have:=cH.bs w hw;lia
 left;calc(aam _,λY LC=>?_);generalize hG0:upd H Y (.lst [])=G0 at *;let(Z,el0):=aaB hG0 LC;left;refine HZ (Z _ _ hd) |> λh=>(_,h,?_)
 refine cL (Z _ _ g1) (aA (j:=1) rfl) (true,wv,Sq.l (Z _ _ g3),kn (xs:=wv) (λi σ H'=>∃z2 z3 z4 G ys,σ=[some (V.ref d),some (V.ref G),z2,z3,z4]/\au H H'/\H G=none/\H' G=some (.lst ys)/\fK H' 1 ys ((lM a r i).map pkD)) ?_ ?_ ?_ ?_)
 .exact(_,_,_,Y,[],rfl,Z,LC,el0,show fK _ 1 [] [] from fK.nil)
 .intro i σ H' qk;let(_,_,_,_,_,_,g,_):=qk;exact Sq.l (g _ _ g3)
 .intro i x σ H' tt hx zg QU;nofun;let(z2,z3,z4,G,ys,rfl,g,M,u,N):=zg;have Og:i < a.ws.length:=by rw[<-lN];exact(iF hx).1
  generalize LP:upd H' tt (.tup [.int (i:Nat),x])=G2 at *;let(s2,Ww):=aaB LP QU;have zp:=(X.2 i x (mf (a.w i)) hx (by rw[K',show a.ws[i]?=some (a.w i) from aP Og];rfl)).aL (g.trans s2).aR;let(ta,u1,u2,u3,kk,rfl,tJ,y1,y2,y3):=bV zp;obtain rfl:=y1.cF;obtain rfl:=y2.cF;obtain rfl:=y3.c8;ac_rfl;calc vf (bI.of Ww) ?_;left;calc(F,d,_,a,r,ad,i,rfl,(L.same g).same s2,cH,oU,Og,λln H3 s3 fln v=>?_);have rH:au H' H3:=s2.trans s3;have hly:=zF (r:=r) (w:=i);have Wy:=ya (nt:=a) (r:=r) (w:=i);have hBi:=hB i Og;left;calc cL (s3 _ _ tJ) (aA (j:=2) rfl) ?_;left;rename_i N1 hN1 T1 U1 hT1 hU1;have m:∀O I,au H' O->O I=some (.lst ((jE a r i).map λk=>V.int ((k:Nat):Int)))->N1 [some (V.ref d),some (V.ref G),some (V.int ((i:Nat):Int)),some (V.ref ta),some (V.ref I)] O:=by
   intro O I L8 v;clear hT1 hU1;left;calc bJ ?_;left;calc .inl ((_,aS.of v),λD hD=>?_);refine bu (J:=xf K I) (n:=(jE a r i).length) (λj y H'=>au O H'/\fK H' 1 y (((jE a r i).take j).map λk=>pkD ((i),k))) (T' (small ())) (au.new _ hD,show fK _ 1 [] [] from fK.nil) ?_ ?_ ?_ ?_
   .rintro j y H' R ⟨p,_⟩;exact(_,_,aS.of (p _ _ v),by rw[K',cJ R];rfl)
   .rintro y H' ⟨p,_⟩;exact(_,aS.of (p _ _ v),nofun)
   .intro j y H' R Wz nK QQ xx H4 Mu;nofun;let(p,b):=QQ;let(rfl,hy):=Mu;have ex:=hy _ (aS.of (p _ _ v));rw[K',cJ R] at ex;obtain rfl:=Option.some.inj ex;ac_rfl;calc(Ext.set (Ext.refl _) rfl,?_);left
    try rw[if_pos trivial]
    calc(dO,λt2 qG=>?_);have s6:=au.new (.tup [.int ((i:Nat):Int),.int (((jE a r i)[j]:Nat):Int)]) qG;have S:=s6 _ _ Wz;calc b4 S nK R (T' (small ())) (λc o e=>by rw[ay (av e hD)];calc s6 _ _ (p _ _ e),?_);have tu:cw (upd H4 t2 (.tup [.int ((i:Nat):Int),.int (((jE a r i)[j]:Nat):Int)])) (upd (upd H4 t2 (.tup [.int ((i:Nat):Int),.int (((jE a r i)[j]:Nat):Int)])) D (.lst (y++[.ref t2]))):=(cw.refl _).upd λzs e=>by rw[S]at e;cases e
    rw[acY,cJ R,aah];exact((b.aL s6.aR).snoc (dA (n:=0) af (.int _) (.int _))).aL tu
   rintro y H6 Wz nK ⟨p,b⟩;rw[aaP]at b;have IZ:au H' H6:=L8.trans p;left;refine .inl (_,_,IZ _ _ u,Wz,?_,λlf' U=>?_)
   .have a1:=N.1;have a2:=b.1;have a3:=yb (nt:=a) (r:=r) (B:=9620) i (λw hw=>hB w ());simp at a1 a2;rw[abb];have a5:i<=9:=();have a4:i*9620<=9*9620:=Nat.mul_le_mul_right _ a5;lia
   have s7:=au.new (.lst (ys++y)) U;left;calc afl _ _ _ lf' _ (rfl,rfl,rfl,rfl) (g.trans (IZ.trans s7)) ((g.trans IZ).free U) af ?_;rw[vQ,aah];calc((N.aL IZ.aR).app ?_).aL s7.aR;rw[List.map_map];exact b
  by_cases gH:(a.w i).2.2="row"
  .rw[if_pos (by simp[gH])];left;calc .inl (_,v,λI v8=>?_);rw[Wv];have s4:=au.new (.lst (((r.Ou i).map λk=>V.int ((k:Nat):Int)).take 1)) v8;exact m _ I (rH.trans s4) (by unfold jE;rw[af,if_pos gH,List.map_take])
  .rw[if_neg (by simp[gH])];calc L2.bc (by assumption) ?_;exact m _ ln rH (by unfold jE;rw[if_neg gH];calc v)
 .intro σ H' HY;let(z2,z3,z4,G,ys,rfl,g,M,u,N):=HY;rw[lN]at N;left;calc q _ _ _ g M u N
def QY(H H':Hp):Prop:=∀b o,H b=some o->(∀k,o≠.own k)->H' b=some o
theorem QY.aR(h:QY H H'):cw H H':=λb a e=>h b _ e (λk z=>by cases z)
theorem _root_.L2.au.Oy(s:au H H'):QY H H':=λb o e _=>s b o e
theorem iE.Oy{a:List Int}{b:List bF}(s:QY H H')(h:iE H x M ns a b):iE H' x M ns a b:=by
 let(t,a,b,c,d,e,f,g,i,j,l):=h;calc(t,a,b,c,d,e,s _ _ f (λk z=>by cases z),s _ _ g (λk z=>by cases z),s _ _ i (λk z=>by cases z),s _ _ j (λk z=>by cases z),l.aL s.aR)
theorem Ed.Oy{c:List V}(s:QY H H')(h:Ed H c gj):Ed H' c gj:=(h.1,λi v d a b=>(h.2 i v d a b).Oy s)
theorem Ed.nil:Ed H [] []:=(rfl,λi v d a=>by simp at a)
theorem Ed.snoc{c:List V}{d:MD}(h:Ed H c gj)(g:iE H v d.M d.ns d.row d.ds):Ed H (c++[v]) (gj++[d]):=by
 calc(by simp[h.1],λi y e a b=>?_);by_cases f:i<c.length
 .rw[aag f]at a;rw[aag (by rw[<-h.1];calc f)]at b;exact h.2 i _ _ a b
 .rw[aad ()] at a;rw[aad (by rw[<-h.1];lia),<-h.1] at b
  cases j:i-c.length with
  |zero=>rw[j]at a b;cases a;cases b;calc g
  |succ k=>rw[j]at a;simp at a
noncomputable def mask(a b c:Addr)(H:Hp):Hp:=λx=>if x=a\/x=b\/x=c then some (.own 0) else H x
theorem qx{c:Addr}(d:x≠a)(e:x≠b)(f:x≠c):mask a b c H x=H x:=by unfold mask;rw[if_neg (by simp[d,e,f])]
theorem yc{c:Addr}(h:mask a b c H x=some o)(d:∀k,o≠.own k):x≠a/\x≠b/\x≠c/\H x=some o:=by
 unfold mask at h;split at h
 .cases h;exact absurd rfl (d 0)
 .rename_i hn;simp only[not_or]at hn;calc(hn.1,hn.2.1,hn.2.2,h)
theorem MG{c:Addr}:QY (mask a b c H) H:=λx o e n=>(yc e n).2.2.2
theorem B5{c:Addr}(h:∀x o,x≠a->x≠b->x≠c->H x=some o->H' x=some o):QY (mask a b c H) (mask a b c H'):=λx o e n=>by
 let(d,f,g,i):=yc e n;rw[qx d f g];calc h x o d f g i
theorem Ih{c d f:Addr}(q:H t=some (.tup [.int M,.ref d,.ref f,.ref g]))(r:H d=some (.lst (ns.map V.int)))(s:H f=some (.lst (h.map V.int)))(u:H g=some (.lst xs))(v:fK H 2 xs (o.map bF.dv))(i:∃ys,H a=some (.lst ys))(j:∃ys,H b=some (.lst ys))(k:∃ys,H c=some (.lst ys))(l:d≠a/\d≠b/\d≠c)(m:f≠a/\f≠b/\f≠c)(n:g≠a/\g≠b/\g≠c):iE (mask a b c H) (.ref t) M ns h o:=by
 let(h,i):=i;let(h,j):=j;let(h,k):=k;have p:cw H (mask a b c H):=λx ys e=>by
  rw[qx (λz=>by rw[z,i]at e;cases e) (λz=>by rw[z,j]at e;cases e) (λz=>by rw[z,k]at e;cases e)];exact e
 calc(t,d,f,g,xs,rfl,p _ _ q,by rw[qx l.1 l.2.1 l.2.2];calc r,by rw[qx m.1 m.2.1 m.2.2];calc s,by rw[qx n.1 n.2.1 n.2.2];calc u,v.aL p)
structure B6(gj:List MD)(ws:List (Int×Int×Str))(ls:jr):Prop where
 m1:1<=gj.length
 m5:gj.length<=5
 JZ:ws.length<=10
 l20:ls.length<=20
 mg:∀d∈gj,d.good
 wo:∀w∈ws,xT gj.length w
 lo:∀l∈ls,xU ws.length l
theorem B6.nt(h:B6 gj ws ls):(NT.mk gj ws).Ok:=(h.m5,h.m1,h.JZ,h.mg,h.wo)
abbrev rP:Stmt:=top 80
def FY(K:W.Frag):Sp:=λvs H Q _=>∃(a:Addr) (ns:List Int),vs=[.ref a]/\aS K H a (ns.map V.int)/\ns.length<=63/\∀t b c d e wv lv gj ws ls H',au H H'->H' t=some (.tup [.ref b,.ref c,.ref d])->H' b=some (.lst e)->H' c=some (.lst wv)->H' d=some (.lst lv)->Ed H' e gj->fK H' 1 wv (ws.map mf)->fK H' 1 lv (ls.map qm)->B6 gj ws ls->Q (.ref t) H'
theorem Ii(D:cG K mg "_law_net" "_law_net" rP fv)(T:Tx K mg C CN CR F FD)(x:Def P w K mg base "_law_at" 1 eu (LJ K))(v:Def P w K mg base "_law_digit" 1 aO kx)(jY:Def P w K mg base "_law_machine" 4 ["_law_pot_here"] B2)(M:Def P w K mg base "_law_pot" 1 ["_law_cell"] LL):Def P w K mg base "_law_net" 5 fv (FY K):=by
 exists["_law_script","_law_many","_law_machines","_law_pot_here","_law_ways","_law_k","_law_letters","_law_said"];let(a,ns,rfl,hS,h63,q):=h;have hu:=hr.units;refine(_,(ai (bf (i:=1) sc rfl Sort (aZ cB aj (aZ dI (aN x hr (ag (aq 0) (ag aj aa))) aj)))
  (ai (fC (i:=2) sc rfl Sort (N':=["_law_k","_law_script"]) (ix:=[none,some 0]) (cD rfl T.dD (ag (aq 1) aa)) (λ_ _ _ _=>(aT (i:=0) (iw ["_law_k","_law_script"]) rfl Sort)) nJ (λ_ _ _ _=>(aN jY hr (ag (aN M hr (ag (aN x hr (ag (aq 1) (ag (aZ cB aj (aq 0)) aa))) aa)) aa))))
  (ai (bf (i:=3) sc rfl Sort (aN M hr (ag (aN x hr (ag (aq 0) (ag aj aa))) aa)))
  (ai (bf (i:=4) sc rfl Sort (bE aa))
  (ai (cZ PassesOwn.never rfl (cD rfl T.dD (ag (aN v hr (ag (aq 3) (ag aj aa))) aa)) (aT (i:=5) sc rfl Sort)
  (ak (bX (dw pP sF sL cj (aq 4) (ag (bD (ag (aN v hr (ag (aq 3) (ag (aq 1) aa))) (ag (aN v hr (ag (aq 3) (ag (aq 1) aa))) (ag (ao hu (bE (ag aH (ag aH aa))) (aN v hr (ag (aq 3) (ag aj aa)))) aa)))) aa)))))
  (ai (bf (i:=3) sc rfl Sort (aN M hr (ag (aN x hr (ag (aq 0) (ag aj aa))) aa)))
  (ai (bf (i:=6) sc rfl Sort (bE aa))
  (ai (cZ PassesOwn.never rfl (cD rfl T.dD (ag (aN v hr (ag (aq 3) (ag aj aa))) aa)) (aT (i:=5) sc rfl Sort)
  (ak (aW (aC (fT hu) (aq 4) (bE aa) (aI _)) (ai (bf (i:=7) sc rfl Sort (ao hu (bE (ag (aN v hr (ag (aq 3) (ag aj aa))) (ag (aN v hr (ag (aq 3) (ag (aZ pW aj aj) aa))) aa))) (aN v hr (ag (aq 3) (ag aj aa)))))
  (ak (bX (dw pP sF sL cj (aq 6) (ag (bD (ag (aN v hr (ag (aq 3) (ag (aX aM rfl T.bO Y' (ag (aq 4) aa)) aa))) (ag (aq 7) aa))) aa))))) aK)))
  (ak (aG (bD (ag (aq 2) (ag (aq 4) (ag (aq 6) aa)))))))))))))),?_)
 left;calc(a,ns,_,rfl,hS,(),λg=>((by decide:(0:Int)<5),?_));have v:=aby g (b:=5) ∅;have v:=abF g (b:=5) ∅;left;calc bJ ?_;left;calc ie () () (λD hD=>?_);refine bu (J:=Ck 0 (1+g%5).toNat) (n:=(1+g%5).toNat) (λi ys H'=>au H H'/\∃gj,gj.length=i/\Ed (mask D D D H') ys gj/\∀d∈gj,d.good) (T' (aD ())) (au.new _ hD,[],rfl,Ed.nil,λd hd=>by simp at hd) (λi ys H' hi _=>hi) (λys H' _=>S' _) ?_ ?_
 .intro i ys H1 hi bt hl iz x H2 iY;nofun;let(s1,gj,nL,hM,O):=iz;let(rfl,rfl):=iY;ac_rfl;calc(Ext.set (Ext.refl _) rfl,?_);left;rw[if_pos trivial];calc(a,ns,_,rfl,s1.seq hS,(),λv=>(v,rfl,λp Ya R tW=>(p,rfl,(_,af,tW),λt v x ld xs M mns row ds T st h1 h2 h3 h4 h5 f1 f2 f3 hg=>?_)));have q3:∀b o,H2 b=some o->T b=some o:=λb o e=>st.rest b o ((au.new _ R) _ _ e) (av e R);have v:=q3 _ _ bt;have p1:=(au.new (.lst (Ya.map V.int)) R) _ _ bt;have x:∀{b:Addr},upd H2 p (.lst (Ya.map V.int)) b=none->b≠D:=λf=>Ne.symm (av p1 f);refine b4 v hl hi (T' (aD ())) (λb o e=>by rw[ay (av e hD)];calc q3 _ _ (s1 _ _ e),gj++[(M,mns,row,ds)],by simp[nL],?_,λd hd=>?_)
  .have c4:QY (mask D D D H2) (mask D D D (upd T D (.lst (ys++[.ref t])))):=B5 λb o M b2 b3 e=>by rw[ay M];exact q3 _ _ e
   have c5:QY (mask D D D T) (mask D D D (upd T D (.lst (ys++[.ref t])))):=B5 λb o M b2 b3 e=>by rw[ay M];exact e
   exact(hM.Oy c4).snoc (iE.Oy c5 (Ih h1 h2 h3 h4 h5 (_,v) (_,v) (_,v) (x f1,x f1,x f1) (x f2,x f2,x f2) (x f3,x f3,x f3)))
  .rcases List.mem_append.mp hd with hd | hd
   .exact O d hd
   .simp only[List.mem_singleton]at hd;subst hd;exact hg
 intro mv H1 hmv hl v;nofun;let(s1,gj,nL,hM0,O):=v;have hM:=hM0.Oy MG;generalize hDa:D=am at *;ac_rfl;left;calc(a,ns,_,rfl,s1.seq hS,(),λv=>(v,rfl,λp Ya R tW=>?_));have s2:=au.new (.lst (Ya.map V.int)) R;have Co:gA (upd H1 p (.lst (Ya.map V.int))) p:=(_,af,tW)
 generalize LP:upd H1 p (.lst (Ya.map V.int))=G2 at *;left;calc(aam _,λy v=>?_);generalize hG3:upd G2 y (.lst [])=G3 at *;let(s3,eaw):=aaB hG3 v;have S:y≠p:=Step.ne Co v;have hp3:=Co.same s3;have faw:H1 y=none:=s2.free v;have rH:=s2.trans s3;left;calc oB p 11 rfl hp3 ∅ ⋯ (λx T vD M v=>?_);refine(x,rfl,(),(),gh (n:=x.toNat) (λi σ H'=>(∃U,σ=[some (.ref a),some (.int (1+g%5)),some (.ref am),some (.ref p),some (.ref y),U,none,none])/\gA H' p/\au H1 H'/\∃(wv:List V) (ws:List (Int×Int×Str)),H' y=some (.lst wv)/\fK H' 1 wv (ws.map mf)/\ws.length=i/\∀w∈ws,xT (1+g%5) w) ?_ ?_ ?_)
 .exact((_,rfl),v.ia,v.over rH R,[],[],v.rest _ _ eaw S,fK.nil,rfl,λw r=>by simp at r)
 .intro i σ H5 hi zg;let((U,rfl),W,s5,wv,ws,X,hW,lN,Qn):=zg;have MH:wv.length=i:=by have:=hW.1;simp at this;lia
  left;calc(.inl (rfl,_,aS.of X),?_);have l5:(1+g%5).natAbs.log2<9000:=by
   have:1+g%5=1\/1+g%5=2\/1+g%5=3\/1+g%5=4\/1+g%5=5:=();rcases this with e|e|e|e|e<;>(rw[e];decide +kernel)
  calc dig W () l5 λc v h60 h61 SE=>?_;left;calc dig SE.ia () l5 λB v h70 h71 Wq=>?_;have abz:=SE.trans Wq;left;calc(dO,λl hl=>?_);have Ov:=abz.new (o:=.lst [.str "row",.str "heap"]) hl;have hlp:l≠p:=Step.ne abz.ia hl;calc dig Ov.ia ∅ ⋯ λk Y hk0 hk1 Ow=>?_;have ahc:=Ov.trans Ow;obtain⟨u,ew3,hw3⟩:∃u:Str,hV [V.str "row",V.str "heap"] k=some (.str u)/\(u="row"\/u="heap"):=by
   have:k=0\/k=1:=();rcases this with rfl|rfl
   .exact(_,aA (j:=0) rfl,.inl rfl)
   .exact(_,aA (j:=1) rfl,.inr rfl)
  left;calc bH (Ow.rest _ _ af hlp) ew3 ?_;left;calc(by show 3<=sizeLine;decide,λt ht=>?_);have I:=ahc.new (o:=.tup [.int c,.int B,.str u]) ht;have abA:=I.rest _ _ X S;have eT:upd Y t (.tup [.int c,.int B,.str u]) t=some (.tup [.int c,.int B,.str u]):=af;have Z:=I.ia;have tA:=I.aR W;have sA:au H1 (upd Y t (.tup [.int c,.int B,.str u])):=I.over s5 R;generalize hGA:upd Y t (.tup [.int c,.int B,.str u])=GA at *;have tB:cw GA (upd GA y (.lst (wv++[.ref t]))):=(cw.refl _).upd λys e=>by rw[abA]at e;cases e
  refine(_,abA,aD (),(_,rfl),Z.upd (Ne.symm S),λb o e=>by rw[ay (av e faw)];calc sA _ _ e,wv++[.ref t],ws++[((c),B,u)],af,?_,by simp[lN],λw r=>?_)
  .have h6:=((hW.aL tA).snoc (lY (n:=0) eT (.int c) (.int B) (.str u))).aL tB;simpa[mf] using h6
  .rcases List.mem_append.mp r with r | r
   .exact Qn w r
   .simp only[List.mem_singleton]at r;subst r;exact(h60,h61,h70,h71,hw3)
 intro σ H5 zh;let((U,rfl),W,s5,wv,ws,X,hW,lN,Qn):=zh;have MH:wv.length=ws.length:=by have:=hW.1;simpa using this
 have DQ:=s5 _ _ hmv;have hM5:=hM.Oy s5.Oy;left;calc(a,ns,_,rfl,(s1.trans s5).seq hS,(),λv=>(v,rfl,λL xs1 N8 u=>?_));have s6:=au.new (.lst (xs1.map V.int)) N8;have hp6:gA (upd H5 L (.lst (xs1.map V.int))) L:=(_,af,u)
 generalize hG6:upd H5 L (.lst (xs1.map V.int))=G6 at *;left;calc(aam _,λG u=>?_);generalize hG7:upd G6 G (.lst [])=G7 at *;let(s7,eal):=aaB hG7 u;have VI:G≠L:=Step.ne hp6 u;have hp7:=hp6.same s7;have fal:H5 G=none:=s6.free u;have XJ:=s6.trans s7;left;calc oB L 13 rfl hp7 ∅ ⋯ (λu M v x Ov=>?_);refine(u,rfl,(),(),gh (n:=u.toNat) (λi σ H'=>(∃U z8,σ=[some (.ref a),some (.int (1+g%5)),some (.ref am),some (.ref L),some (.ref y),U,some (.ref G),z8])/\gA H' L/\au H5 H'/\∃(lv:List V) (ls:jr),H' G=some (.lst lv)/\fK H' 1 lv (ls.map qm)/\ls.length<=i/\∀l∈ls,xU ws.length l) ?_ ?_ ?_)
 .exact((_,_,rfl),Ov.ia,Ov.over XJ N8,[],[],Ov.rest _ _ eal VI,fK.nil,S' _,λw r=>by simp at r)
 .intro i σ Y hi zi;let((U,z8,rfl),hp9,N,lv,ls,Om,hL,t9,uy):=zi;have i:lv.length=ls.length:=by have:=hL.1;simpa using this
  have ahg:=N _ _ X;left;calc(aam _,λl0 i=>?_);generalize aau:upd Y l0 (.lst [])=G10 at *;let(m,el0):=aaB aau i;have MI:=m _ _ ahg;have MJ:=m _ _ Om;have WA:=hp9.same m;have Ij:=N.trans m;have abB:=hL.aL m.aR
  cases ws with
  |nil=>
   have Sa:wv=[]:=(MH:)
   subst Sa;calc .inl (.inr (_,_,_,_,rfl,rfl,.inr (aS.of MI,aS.of el0),rfl,λj u v hu=>by simp at hu),?_);left
   try rw[if_neg X']
   calc((_,_,rfl,rfl),WA,Ij,lv,ls,MJ,abB,(),uy)
  |cons i u=>
   have hwp:0<(wv.length:Int):=by rw[MH];simp
   have i:wv.length<=10:=();calc .inr ((_,_,by simp[MH],.inl (aS.of MI,aS.of el0)),?_);left
   try rw[if_pos trivial]
   have lw:((wv.length:Nat):Int).natAbs.log2<9000:=Mt hwp ();calc dig WA ∅ ⋯ λB i u v abC=>?_;left;calc(DM,dig abC.ia VC VD λe3 i u ahh ahi=>?_);have MK:=abC.trans ahi;left;calc(dO,λv i=>?_);have u:=MK.new (o:=.lst [.int B,.int e3]) i;have ahj:v≠L:=Step.ne MK.ia i;calc dig u.ia ∅ ⋯ λk v hk0 hk1 HW=>?_;have zG:=u.trans HW;have i:(10:Int)^Int.toNat 60=1000000000000000000000000000000000000000000000000000000000000:=by decide +kernel
   rw[i]at ahh;obtain⟨z,ez,hz0,IH⟩:∃z:Int,hV [V.int B,V.int e3] k=some (.int z)/\1-1000000000000000000000000000000000000000000000000000000000000<=z/\z<1000000000000000000000000000000000000000000000000000000000000:=by
    have:k=0\/k=1:=();rcases this with rfl|rfl
    .exact(_,aA (j:=0) rfl,(),())
    .exact(_,aA (j:=1) rfl,(),())
   left;calc bH (HW.rest _ _ af ahj) ez ?_;left;have abG:=zG.rest _ _ MJ VI;have abH:=zG.rest _ _ MI (λz=>by rw[z,N8]at X;cases X);calc(.inl (rfl,_,aS.of abG),?_);calc bN _ (.inl (_,aS.of abH,rfl)) ?_;calc dig zG.ia hwp lw λc H16 ahl ahm Ms=>?_;have WB:=zG.trans Ms;left;calc(dO,λt ht=>?_);have I:=WB.new (o:=.tup [.int c,.int z]) ht;have abJ:=I.rest _ _ MJ VI;have eT:upd H16 t (.tup [.int c,.int z]) t=some (.tup [.int c,.int z]):=af;have Z:=I.ia;have tA:=I.aR WA;have sA:au H5 (upd H16 t (.tup [.int c,.int z])):=I.over Ij N8;generalize hGA:upd H16 t (.tup [.int c,.int z])=GA at *;have tB:cw GA (upd GA G (.lst (lv++[.ref t]))):=(cw.refl _).upd λys e=>by rw[abJ]at e;cases e
   refine(_,abJ,aD (),(_,_,rfl,rfl),Z.upd (Ne.symm VI),λb o e=>by rw[ay (av e fal)];calc sA _ _ e,lv++[.ref t],ls++[((c),z)],af,?_,by simp;lia,λl hl=>?_)
   .have h6:=((abB.aL tA).snoc (dA (n:=0) eT (.int c) (.int z))).aL tB;simpa[qm] using h6
   .rcases List.mem_append.mp hl with hl | hl
    .exact uy l hl
    .simp only[List.mem_singleton]at hl;subst hl;exact(ahl,by have:=ahm;rw[MH]at this;calc this,hz0,IH)
 intro σ Y QQ;let((U,z8,rfl),hp9,N,lv,ls,Om,hL,t9,uy):=QQ;left;calc(by show 3<=sizeLine;decide,λt ht=>?_);have m:=au.new (.tup [.ref am,.ref y,.ref G]) ht;calc q t am y G mv wv lv gj ws ls _ (s1.trans (s5.trans (N.trans m))) af (m _ _ (N _ _ DQ)) (m _ _ (N _ _ X)) (m _ _ Om) (hM5.Oy (N.trans m).Oy) (hW.aL (N.trans m).aR) (hL.aL m.aR) ((),(),(),(),O,λw r=>?_,uy);have e:((gj.length:Nat):Int)=1+g%5:=();rw[e];calc Qn w r
noncomputable def Yb(M:Int)(ns a:List Int)(b:List bF):DV:=.tup [.int M,.lst (ns.map .int),.lst (a.map .int),.lst (b.map bF.dv)]
theorem jF(v:Val):yZ v.dv:=by
 cases v<;>(calc .tup λe a=>?_;simp at a)<;>first|(rcases a with rfl|rfl;calc .str _;calc .int _)|(subst a;calc .str _)
theorem ML(d:bF):yZ d.dv:=by
 cases d with
 |set i v=>calc .tup λe a=>?_;simp at a;rcases a with rfl|rfl|rfl;calc .str _;calc .int _;calc jF v
 |add i v=>calc .tup λe a=>?_;simp at a;rcases a with rfl|rfl|rfl;calc .str _;calc .int _;calc jF v
 |times i v=>calc .tup λe a=>?_;simp at a;rcases a with rfl|rfl|rfl;calc .str _;calc .int _;calc jF v
 |put v=>calc .tup λe a=>?_;simp at a;rcases a with rfl|rfl;calc .str _;calc jF v
 |drop=>calc .tup λe a=>?_;simp at a;subst a;calc .str _
 |send j v=>calc .tup λe a=>?_;simp at a;rcases a with rfl|rfl|rfl;calc .str _;calc .int _;calc jF v
 |say v=>calc .tup λe a=>?_;simp at a;rcases a with rfl|rfl;calc .str _;calc jF v
 |skip v w k=>calc .tup λe a=>?_;simp at a;rcases a with rfl|rfl|rfl|rfl;calc .str _;calc jF v;calc jF w;calc .int _
theorem qy:yZ (.lst (ns.map .int)):=.lst λe a=>by
 let(z,_,rfl):=List.mem_map.mp a;calc .int z
theorem yd{a:List bF}:yZ (.lst (a.map bF.dv)):=.lst λe b=>by
 let(z,_,rfl):=List.mem_map.mp b;calc ML z
theorem rQ{b:List DV}(e:H a=some (.lst vs))(h:fz H n vs b):HD H (n+1) (.ref a) (.lst b):=.lst e h.1 h.2
theorem fK.Ry{c:List DV}(h:fK H n vs c):fz H n vs c:=(h.1,λi v d a b=>(h.2 i v d a b).hd)
theorem Q1{c:Addr}{d d':MD}(h:iE H (.ref a) d.M d.ns d.row d.ds)(h':iE H (.ref c) d'.M d'.ns d'.row d'.ds):∃b,EqT K H 19 a c b/\(b=true->Yb d.M d.ns d.row d.ds=Yb d'.M d'.ns d'.row d'.ds):=by
 let(t,u,v,w,L,e,n,p,q,r,s):=h;let(L,t,u,v,w,z,j,i,k,l,A):=h'
 cases e
 cases z;let(h,B,C):=y0 (K:=K) (H:=H) 4 (x:=.int d.M) (y:=.int d'.M) (m:=4) (.int _) (.int _) (.int _) (.int _);let(t,D,E):=y0 (K:=K) (H:=H) 4 (m:=4) (rQ p (fz.ints d.ns)) (rQ i (fz.ints d'.ns)) qy qy;let(u,F,G):=y0 (K:=K) (H:=H) 4 (m:=4) (rQ q (fz.ints d.row)) (rQ k (fz.ints d'.row)) qy qy;let(p,I,J):=y0 (K:=K) (H:=H) 4 (m:=4) (rQ r ((s.Ry).mono ∅)) (rQ l ((A.Ry).mono ∅)) yd yd;refine(_,(_,_,λi=>match i with
  |0=>h
  |1=>t
  |2=>u
  | _=>p,.inl (bI.of n,bI.of j),λi u v f g=>?_,rfl),λo=>?_)
 .match i,f,g with
  |0,f,g=>simp at f g;subst f g;calc B.mono ∅
  |1,f,g=>simp at f g;subst f g;calc D.mono ∅
  |2,f,g=>simp at f g;subst f g;calc F.mono ∅
  |3,f,g=>simp at f g;subst f g;calc I.mono ∅
  |(n+4),f,g=>simp at f
 .simp[List.range_succ]at o;let(f,g,h,i):=o;unfold Yb;rw[C.mp f,E.mp g,G.mp h,J.mp i]
theorem Q2{d:Int}{b a c:List Int}{f:List bF}(e:Yb M ns a f=Yb d b c g)(h:i3 C H m M ns a f):i3 C H m d b c g:=by
 unfold Yb at e;simp only[DV.tup.injEq,List.cons.injEq,DV.int.injEq,DV.lst.injEq,and_true]at e;let(i,j,k,l):=e;let(n,st,dd,o,p,q):=h;subst i;refine(n,st,dd,o,?_,?_)
 .show HT H 2 st (.tup [.tup (b.map .int),.tup (c.map .int)]);rw[<-j,<-k];exact p
 .rw[<-l];calc q
theorem kU{a:List Int}{f:List bF}(t:cw H H')(i:∀b c d e,H b=some (.ins c d e)->H' b=some (.ins c d e))(h:i3 C H m M ns a f):i3 C H' m M ns a f:=by
 let(a,st,dd,f,g,j):=h;calc(a,st,dd,i _ _ _ _ f,g.aL t,j.aL t)
abbrev jf:Stmt:=top 88
inductive B7(C CN:Addr)(vs:List V)(H:Hp)(Q:VK):Prop
 |mk (x:V) (gj:List MD) (ws:List (Int×Int×Str)) (ls:jr) (h0:vs=[x]) (h1:ToldN H x gj ws ls) (h2:B6 gj ws ls) (h3:∀n ms wv lv H',au H H'->vE C CN H' n (gj,ws)->ml CN H' n ms wv lv->fK H' 1 lv (ls.map qm)->Q (.ref n) H'):B7 C CN vs H Q
def ye(C CN:Addr):Sp:=λvs H Q _=>B7 C CN vs H Q
theorem vR(D:cG K mg "_law_net_made" "_law_net_made" jf eN)(T:Tx K mg C CN CR F FD)(rR:yV P w K mg base "Machine" C 7 c7 (Fp C))(MM:yV P w K mg base "Net" CN 7 dr (BD C CN)):Def P w K mg base "_law_net_made" 9 eN (ye C CN):=by
 exists["_law_net_here","_law_machines","_law_k","_law_one"];let(x,gj,ws,ls,rfl,hT,g,q):=h;have r:=hr.units;refine(_,(ai (bf (i:=1) sc rfl Sort (bE aa))
  (ai (cZ PassesOwn.never rfl (iL rfl T.de (ag (ao r (aq 0) aj) aa)) (fb (i:=2) (j:=3) rfl sc rfl rfl Sort Sort)
  (ak (aW (PW.pt (pw_and (aC kK (aq 2) aj (aI _)) (pw_and1 (aC (PK r) (aq 3) (ao r (ao r (aq 0) aj) aj) (aI _))))) (ak (bX (dw pP sF sL cj (aq 1) (ag (ao r (aq 1) aj) aa)))) (ak (bX (dw pP sF sL cj (aq 1) (ag (EU rR hr (ag (ao r (aq 3) aj) (ag (dz cK rfl T.fJ oh (ag (ao r (aq 3) aj) aa)) (ag (dz cK rfl T.fJ oh (ag (ao r (aq 3) aj) aa)) (ag (dz cK rfl T.fJ oh (ag (ao r (aq 3) aj) aa)) aa))))) aa)))))))
  (ak (aG (EU MM hr (ag (aq 1) (ag (dz cK rfl T.fJ oh (ag (ao r (aq 0) aj) aa)) (ag (dz cK rfl T.fJ oh (ag (ao r (aq 0) aj) aa)) aa)))))))),?_)
 let(t,am,aw,al,N,wv,lv,rfl,ht,O,QZ,Om,hM,hW,hL):=id hT;have anC:N.length<=5:=by have:=hM.1;have:=g.m5;lia
 left;calc(aam _,λu R=>?_);generalize hG0:upd H u (.lst [])=G0 at *;let(s0,elm):=aaB hG0 R;left;refine cL (s0 _ _ ht) (aA (j:=0) rfl) (true,N,Sq.l (s0 _ _ O),kn (xs:=N) (λi σ H'=>∃(z2 z3:Option V) (ms:List Addr),σ=[some (V.ref t),some (V.ref u),z2,z3]/\au H H'/\H' u=some (.lst (ms.map V.ref))/\ms.length=i/\(∀(j:Nat) m d,ms[j]?=some m->gj[j]?=some d->XA C H' m d)) ?_ ?_ ?_ ?_)
 .exact(_,_,[],rfl,s0,elm,rfl,λj m d e=>by simp at e)
 .intro i σ H' iz;let(_,_,_,_,s1,_):=iz;exact Sq.l (s1 _ _ O)
 .intro i x σ H' tt hx iY QU;nofun;let(z2,z3,ms,rfl,s1,HS,IW,zo):=iY;have hiv:i < N.length:=(iF hx).1;have kg:i < gj.length:=by have:=hM.1;lia
  have I:=g.mg _ (aaJ kg);generalize LP:upd H' tt (.tup [.int (i:Nat),x])=B at *;let(s2,Ww):=aaB LP QU;ac_rfl;have qH:=s1.trans s2;have SJ:=(hM.2 i x gj[i] hx (cJ kg)).cv qH.cv;have S:=s2 _ _ HS;calc vf (bI.of Ww) ?_;let(ta,ln,lr,ld,xs,rfl,h1,h2,h3,h4,h5):=id SJ;left;rename_i T2 U2 Pm hU2;have mk:U2 [some (V.ref t),some (V.ref u),some (V.int ((i:Nat):Int)),some (V.ref ta)] B:=by
   clear Pm T2;generalize hmd:gj[i]=p at *;left;calc(.inl (rfl,_,aS.of S),?_);calc cL h1 (aA (j:=0) rfl) ?_;calc cL h1 (aA (j:=1) rfl) ?_;left;calc bN _ (.inl (aS.of h2)) (λG LO=>?_);have s4:=au.new (.lst (p.ns.map V.int)) LO;calc cL (s4 _ _ h1) (aA (j:=2) rfl) ?_;left;calc bN _ (.inl (aS.of (s4 _ _ h3))) (λJ v8=>?_);have L:=au.new (.lst (p.row.map V.int)) v8;calc cL (L _ _ (s4 _ _ h1)) (aA (j:=3) rfl) ?_;left;calc bN _ (.inl (aS.of (L _ _ (s4 _ _ h4)))) (λl3 FO=>?_);generalize hG6:upd (upd (upd B G (.lst (p.ns.map V.int))) J (.lst (p.row.map V.int))) l3 (.lst xs)=G6 at *;let(U,e3):=aaB hG6 FO;have s46:=s4.trans (L.trans U);have n:=U _ _ (L _ _ (af (H:=B) (a:=G) (o:=.lst (p.ns.map V.int))));have y:=U _ _ (af (H:=upd B G (.lst (p.ns.map V.int))) (a:=J) (o:=.lst (p.row.map V.int)));intro m W AK SG WE;have X:au G6 (upd (upd G6 W (.own m)) m (.ins C W [])):=λb o e=>by rw[ay (av e AK),ay (av e SG)];exact e
   have s47:=s46.trans X;calc(m,W,p.M,G,J,l3,p.ns,p.row,xs,p.ds,2,rfl,af,I.m2,I.m12,.inl (X _ _ n),.inl (X _ _ y),.inl (X _ _ e3),I.l1,I.l4,I.r12,I.bn,I.br,(h5.aL s47.aR).dl,∅,I.d24,I.ok,λH8 FL hk=>(rfl,?_));have Y:au B H8:=λb o e=>hk b o (av (s46 _ _ e) AK) (s47 _ _ e);have WG:=Y _ _ S;left;calc iy _ WG (aD (by simp;lia)) ?_;have t7:cw H8 (upd H8 u (.lst (ms.map V.ref++[.ref m]))):=(cw.refl _).upd λzs e=>by rw[WG]at e;cases e
   have i7:∀b c d e,H8 b=some (.ins c d e)->upd H8 u (.lst (ms.map V.ref++[.ref m])) b=some (.ins c d e):=λb c d e h=>by
    rw[ay (λz=>by subst z;rw[WG]at h;cases h)];exact h
   left;refine(_,_,ms++[m],(rfl,rfl),λb o e=>?_,by rw[aah];calc af,by simp[IW],λj m' d n y=>?_)
   .rw[ay (av e R)];exact Y _ _ (qH _ _ e)
   .by_cases hj:j < ms.length
    .rw[aag hj]at n;exact kU t7 i7 ((zo j m' d n y).same (s2.trans Y))
    .rw[aad ()] at n
     cases Ig:j-ms.length with
     |succ k=>rw[Ig]at n;simp at n
     |zero=>
      rw[Ig]at n;nofun;obtain rfl:=Option.some.inj n;have Xx:j=i:=();subst Xx;rw[cJ kg,hmd]at y;obtain rfl:=Option.some.inj y;ac_rfl;exact kU t7 i7 FL
  by_cases h0:0<i
  .rw[if_pos (h0:)];have abM:0 < gj.length:=();have abN:0<N.length:=();have Ef:=(hM.2 0 N[0] gj[0] (cJ abN) (cJ abM)).cv qH.cv;have ht0:∃c,N[0]=.ref c:=by
    let(c,_,_,_,_,e,_):=Ef;exact(c,e)
   let(c,ec):=ht0;rw[ec]at Ef;calc cL (qH _ _ ht) (aA (j:=0) rfl) ?_;calc bH (qH _ _ O) (aA (j:=0) (v:=.ref c) (by rw[<-ec];calc cJ abN)) ?_;let(b,hb1,XC):=Q1 (K:=K) SJ Ef;refine afj ta c b rfl rfl hb1 ?_
   cases b with
   |false=>rw[if_neg ∅];calc mk
   |true=>
    have XC:=XC rfl;rw[if_pos rfl];clear mk;left;calc(.inl (rfl,_,aS.of S),?_);have XB:0<ms.length:=();calc bH S (aA (j:=0) (v:=.ref ms[0]) (by rw[K',cJ XB];rfl)) ?_;left;calc iy _ S (aD (by simp;lia)) ?_;have t7:cw B (upd B u (.lst (ms.map V.ref++[.ref ms[0]]))):=(cw.refl _).upd λzs e=>by rw[S]at e;cases e
    have i7:∀b c d e,B b=some (.ins c d e)->upd B u (.lst (ms.map V.ref++[.ref ms[0]])) b=some (.ins c d e):=λb c d e h=>by
     rw[ay (λz=>by subst z;rw[S]at h;cases h)];exact h
    left;refine(_,_,ms++[ms[0]],(rfl,rfl),λb o e=>?_,by rw[aah];calc af,by simp[IW],λj m' d n y=>?_)
    .rw[ay (av e R)];exact qH _ _ e
    .by_cases hj:j < ms.length
     .rw[aag hj]at n;exact kU t7 i7 ((zo j m' d n y).same s2)
     .rw[aad ()] at n
      cases Ig:j-ms.length with
      |succ k=>rw[Ig]at n;simp at n
      |zero=>
       rw[Ig]at n;nofun;obtain rfl:=Option.some.inj n;have Xx:j=i:=();subst Xx;rw[cJ kg]at y;obtain rfl:=Option.some.inj y;ac_rfl;exact Q2 XC.symm (kU t7 i7 ((zo 0 ms[0] gj[0] (cJ XB) (cJ abM)).same s2))
  .rw[if_neg (h0:),if_neg ∅];exact mk
 .intro σ H4 qk;let(z2,z3,ms,rfl,s5,bt,IW,zo):=qk;have nL:ms.length=gj.length:=by have:=hM.1;lia
  have DP:=s5 _ _ ht;left;calc cL DP (aA (j:=1) rfl) ?_;left;calc bN _ (.inl (aS.of (s5 _ _ QZ))) (λG LO=>?_);have U:=au.new (.lst wv) LO;calc cL (U _ _ DP) (aA (j:=2) rfl) ?_;left;calc bN _ (.inl (aS.of (U _ _ (s5 _ _ Om)))) (λJ v8=>?_);generalize hG7:upd (upd H4 G (.lst wv)) J (.lst lv)=G7 at *;let(X,y):=aaB hG7 v8;have n:=X _ _ (af (H:=H4) (a:=G) (o:=.lst wv));have zX:=U.trans X;have lN:wv.length=ws.length:=by have:=hW.1;simpa using this
  have t9:lv.length=ls.length:=by have:=hL.1;simpa using this
  intro x W hx SG WE;have s8:au G7 (upd (upd G7 W (.own x)) x (.ins CN W [])):=λb o e=>by rw[ay (av e hx),ay (av e SG)];exact e
  have s58:=s5.trans (zX.trans s8);have hgm:=g.m1;have anG:=g.m5;have hgw:=g.JZ;have HQ:=g.l20;refine(x,W,u,G,J,ms,wv,lv,ws,ls,rfl,af,s8 _ _ (zX _ _ bt),s8 _ _ n,s8 _ _ y,(),(),(),(),λm hm=>?_,hW.aL s58.aR,hL.aL s58.aR,λw hw=>by rw[nL];calc g.wo w hw,λl hl=>by rw[lN];calc g.lo l hl,λH9 hn9 hk9=>(rfl,?_))
  .nofun;let(j,hj,rfl):=List.getElem_of_mem hm;let(vd,Cm,O5,h1,_,_):=(zo j _ gj[j] (cJ hj) (cJ ())).same (zX.trans s8);ac_rfl;exact(_,_,h1)
  .have Yc:au H4 H9:=λb o e=>hk9 b o (av (zX _ _ e) hx) (s8 _ _ (zX _ _ e));have Z:=s5.trans Yc;calc q x ms wv lv H9 Z ((ms,wv,lv,hn9,nL,λj m d a b=>(zo j m d a b).same Yc,hW.aL Z.aR),g.nt) hn9 (hL.aL Z.aR)
noncomputable def qz(n:NT)(r:RS)(w k:Nat):List Int:=match (r.ww w).snd.getD k none with
 |none=>(r.mm (n.goal w)).hr.bM (List.replicate n.ms.length 0)
 |some ((s),c)=>List.zipWith max ((r.mm (n.goal w)).hr.bM (List.replicate n.ms.length 0)) ((r.mm s.toNat).hr.getD (c-1).toNat [])
theorem Q3{w:Nat}:n.gH r w k=(qz n r w k).set (n.goal w) (n.ev r w).2:=rfl
theorem Q4{l:List Int}{c:Int}(a:l.length=n)(b:m<n):((List.range n).map λj=>V.int (l.getD j 0+(if decide (((j:Nat):Int)=((m:Nat):Int))=true then 1 else 0))).set m (.int c)=(l.set m c).map V.int:=by
 apply ac8 (by simp[a]);intro j b d;have e:j<n:=(b:)
 simp only[List.getElem_map,List.getElem_set,List.getElem_range];by_cases z:m=j
 .rw[if_pos z,if_pos z]
 .rw[if_neg z,if_neg z,if_neg (by simp;lia),getD_at (cJ ()),Int.add_zero]
theorem WH{aU:List (Key×V)}(h:OR H0 (.d (jq l) (l.countP Option.isSome)) (.dK aU))(a:l[k]?=some none)(b:HD H0 4 v (pairD e)):OR H0 (.d (jq (l.set k (some e))) ((l.set k (some e)).countP Option.isSome)) (.dK (putK aU (Sum.inl ((k:Nat):Int)) v)):=by
 have c:k<l.length:=(iF a).1;have f:fN aU (Sum.inl ((k:Nat):Int))=none:=by
  have:=h.2 ((k:Nat):Int);have g:jq l ((k:Nat):Int)=none:=by
   unfold jq;rw[if_pos (),aal,getD_at a];rfl
  rw[g]at this;exact this
 refine(?_,λj=>?_)
 .rw[JL v f,count_set a,aas,List.length_singleton];have:=h.1;lia
 .rw[MA c,JK];by_cases z:j=((k:Nat):Int)
  .rw[if_pos z,if_pos (by rw[z])];exact(v,rfl,b)
  .rw[if_neg z,if_neg (λq=>z (Sum.inl.inj q))];calc h.2 j
theorem Q5{n:NT}{w:Nat}:∀t i,i<n.n t->setC (setC (setC (setC (setC r.tv 3 (n.goal w) (.l (((r.mm (n.goal w)).hr.map λu=>DV.lst (u.map .int))++[.lst ((n.gH r w k).map .int)]))) 6 w (.d (jq ((r.ww w).cE.set k (some (n.ev r w)))) (((r.ww w).cE.set k (some (n.ev r w))).countP Option.isSome))) 1 (n.goal w) (.l ((r.mm (n.goal w)).fH.map u9++[u9 (((n.work r w k).ns),(n.work r w k).row)]))) 2 (n.goal w) (.l (((r.mm (n.goal w)).wp.map λu=>DV.lst (u.map .int))++[.lst (((r.mm (n.goal w)).wp.bM []++(n.work r w k).words).map .int)]))) 0 0 (.l (r.picks.map pairD++[pairD (((w:Int)),(k:Int))])) t i=(r.step n w k).tv t i:=by
 intro t i a;unfold setC
 match t,a with
 |0,a=>
  have:i=0:=by have:i<1:=a;lia
  subst this;simp[RS.tv,RS.step]
 |1,_=>by_cases e:i=n.goal w<;>simp[RS.tv,RS.step,e]
 |2,_=>by_cases e:i=n.goal w<;>simp[RS.tv,RS.step,e]
 |3,_=>by_cases e:i=n.goal w<;>simp[RS.tv,RS.step,e]
 |4,_=>by_cases e:i=w<;>simp[RS.tv,RS.step,e]
 |5,_=>by_cases e:i=w<;>simp[RS.tv,RS.step,e]
 |6,_=>by_cases e:i=w<;>simp[RS.tv,RS.step,e]
 |(t+7),a=>calc absurd a (Nat.not_lt_zero i)
theorem MN{r:RS}{n:NT}{w:Nat}{s:Option (Int×Int)}:∀t i,i<n.n t->setC (setC r.tv 4 w (.l ((r.ww w).say.map .int++[.int x]))) 5 w (.l ((r.ww w).snd.map nQ++[nQ s])) t i=(r.put w x s).tv t i:=by
 intro t i a;unfold setC
 match t,a with
 |0,_=>simp[RS.tv,RS.put]
 |1,_=>simp[RS.tv,RS.put]
 |2,_=>simp[RS.tv,RS.put]
 |3,_=>simp[RS.tv,RS.put]
 |4,_=>by_cases e:i=w<;>simp[RS.tv,RS.put,e]
 |5,_=>by_cases e:i=w<;>simp[RS.tv,RS.put,e]
 |6,_=>by_cases e:i=w<;>simp[RS.tv,RS.put,e,Ia]
 |(t+7),a=>calc absurd a (Nat.not_lt_zero i)
theorem qA(h:HD H n v (.lst (ns.map .int))):∃a,v=.ref a/\H a=some (.lst (ns.map V.int)):=by
 cases h with
 | @lst n a b _ e l i=>calc(a,rfl,by rw[e,show b=ns.map V.int from fz.u6 (l,i)])
theorem MO(h:a≠b):upd (upd H a x) b y=upd (upd H b y) a x:=by
 funext c;by_cases d:c=a
 .subst d;rw[ay h,af,af]
 .by_cases e:c=b
  .subst e;rw[af,ay d,af]
  .rw[ay e,ay d,ay d,ay e]
theorem FZ{e:Nat}(u:e<2)(f:H j=some (.lst wv))(o:fK H 1 wv (nt.ws.map mf))(O:wv.length<=10)(v:σ[3]?=some (some (.int ((g:Nat):Int))))(p:H D=none)(q:∀H1,au H H1->H1 D=some (.lst ((wK nt e g).map λi=>V.int ((i:Nat):Int)))->Q (.ref D) H1):lX [none,none,some 3] (RL true K j) (Gx K 2 (ki (fM 0) (ki (fM 1) Gw))) (tT (Js (Vp K) (Js (UL K) (tV 1) (tC (V.int ((e:Nat):Int)))) (tV 2))) (tV 0) σ H Q D:=by
 have x:wv.length=nt.ws.length:=(o.1:)
 have z:wt [none,none,some 3] σ=[none,none,some (.int ((g:Nat):Int))]:=by simp[wt,v]
 refine bu (n:=wv.length) (λi ys H'=>au H H'/\ys=((List.range i).filter λj=>decide (vF nt e j=((g:Nat):Int))).map λj=>V.int (j:Nat)) (T' (aD ())) (au.new _ p,rfl) ?_ ?_ ?_ ?_
 .rintro i ys H' h ⟨a,_⟩;exact(wv,wv[i],Sq.l (a _ _ f),cJ h)
 .rintro ys H' ⟨a,_⟩;exact(wv,Sq.l (a _ _ f),rfl)
 .intro i ys H' h d r A P R B;rw[z];let(a,rfl):=A;let(k,C,rfl,y):=B;let(b,E,rfl):=y wv (Sq.l (a _ _ f));have j:i < nt.ws.length:=();generalize S:upd H' k (.tup [.int (i:Nat),b])=G at *;let(m,I):=aaB S C;have F:=(o.2 i b (mf (nt.w i)) E (by rw[K',show nt.ws[i]?=some (nt.w i) from aP j];rfl)).aL (a.trans m).aR;have s:=m _ _ d;have t:=a.trans m;let(T,U,X,Y,Z,rfl,J,L,M,N):=bV F;obtain rfl:=L.cF;obtain rfl:=M.cF;obtain rfl:=N.c8;calc vf (bI.of I) (Ext.set (Ext.set (Ext.refl _) rfl) rfl,?_);left;refine cL J (show hV _ ((e:Nat):Int)=some (.int (vF nt e i)) from aA (by match e,u with
   |0,_=>rfl
   | 1,_=>rfl)) ?_
  left;by_cases z:vF nt e i=((g:Nat):Int)
  .rw[if_pos (aaC z)];calc b4 s r h (T' (aD ())) (λc o e=>by rw[ay (av e p)];calc t _ _ e,?_);rw[jC,if_pos (aaC z),aah];rfl
  .rw[if_neg λh=>z (aaU h)];exact(_,s,(),t,by rw[jC,if_neg λh=>z (aaU h),aax])
 .rintro ys H1 d r ⟨a,rfl⟩;rw[x]at d;calc q H1 a d
abbrev o7:Stmt:=top 86
inductive MP(vs:List V)(H:Hp)(Q:VK):Prop
 |mk (F:Addr->Prop) (d:Addr) (tn:V) (nt:NT) (r:RS) (ad:js) (wy k:Nat) (h0:vs=[.ref d,.int (wy:Nat),.int (k:Nat)]) (h1:cC F H d tn nt r ad) (h2:FS F H) (h3:r.Ok nt) (h4:r.Qw nt wy k) (h5:r.picks.length<=400) (h6:∀t H',Fr (FP nt.n ad) H H'->cC F H' d tn nt (r.pick nt wy k) ad->HT H' 1 t (pairD (nt.ev r wy))->Q t H'):MP vs H Q
def F0:Sp:=λvs H Q _=>MP vs H Q
theorem Eg(D:cG K mg "_law_pick" "_law_pick" o7 ef)(T:Tx K mg C CN CR F FD)(kW:Def P w K mg base "_law_worked" 2 c6 (FX K)):Def P w K mg base "_law_pick" 3 ef F0:=by
 exists["_law_run_here","_law_way","_law_number","_law_m","_law_place","_law_outs","_law_event","_law_state","_law_sent","_law_words","_law_row","_law_source","_law_c","_law_j","_law_said"];let(F,d,tn,m,r,ad,B,k,rfl,M,nM,O,hc,oU,q):=h;have G:=hr.units;have Bx:=Xw G;refine(_,(ai (bf (i:=3) sc rfl Sort (ao G (ao G (ao G (ao G (aq 0) aH) aj) (aq 1)) aj))
  (ai (bf (i:=4) sc rfl Sort (dw pP PySem.F.slot_list_index PySem.F.type_list_index xN (dy (N':=e9) (ix:=[none,none,some 3]) (iL rfl T.de (ag (ao G (ao G (aq 0) aH) aj) aa)) (λ_ _ _ _=>(jy (K:=K) rfl (i:=0) (j:=1) rfl (iw e9) rfl rfl Sort Sort)) (λ_ _ _ _=>(jx (aC (l7 (K:=K) rfl G) (ft (K:=K) rfl G (aq 1) aj) (aq 2) (aI _)))) (λ_ _ _ _=>(aq 0))) (ag (aq 1) aa)))
  (ai (fC (i:=5) sc rfl Sort (N':=e9) (ix:=[none,none,some 3]) (iL rfl T.de (ag (ao G (ao G (aq 0) aH) aj) aa)) (λ_ _ _ _=>(jy (K:=K) rfl (i:=0) (j:=1) rfl (iw e9) rfl rfl Sort Sort)) (λ_ _ _ _=>(jx (aC (l7 (K:=K) rfl G) (ft (K:=K) rfl G (aq 1) aj) (aq 2) (aI _)))) (λ_ _ _ _=>(aq 0)))
  (ai (bf (i:=6) sc rfl Sort (bD (ag (aq 3) (ag (aX aM rfl T.bO Y' (ag (ao G (ao G (aq 0) aH) (aq 3)) aa)) aa))))
  (ai (dS (aN kW hr (ag (ao G (ao G (ao G (aq 0) aH) aj) (aq 3)) (ag (ao G (ao G (ao G (aq 0) aH) (aq 3)) (lJ ip aj)) (ag (aq 4) (ag (ao G (ao G (ao G (aq 0) aH) (aq 1)) (aq 2)) aa))))) (va (i:=7) (j:=8) (l:=9) rfl sc rfl rfl rfl Sort Sort Sort))
  (ai (bf (i:=10) sc rfl Sort (ao G (aZ cB (bE (ag (aZ A0 (bE (ag aj aa)) (aX aM rfl T.bO Y' (ag (ao G (ao G (aq 0) aH) aj) aa))) aa)) (ao G (ao G (aq 0) aH) (aq 3))) (lJ ip aj)))
  (ai (aW (aC nu (ao G (ao G (ao G (aq 0) aH) (aq 1)) (aq 2)) gF (aI _)) (ai (dS (ao G (ao G (ao G (aq 0) aH) (aq 1)) (aq 2)) (fb (i:=11) (j:=12) rfl sc rfl rfl Sort Sort))
  (ak (Jm (i:=10) sc rfl Sort (dy (N':=g0) (ix:=[none,none]) (yT rfl T.Bs (ag (aq 10) (ag (ao G (ao G (ao G (aq 0) aH) (aq 11)) (aZ dR (aq 12) aj)) aa))) (λ_ _ _ _=>(jy (K:=K) rfl (i:=0) (j:=1) rfl (iw g0) rfl rfl Sort Sort)) nJ (λ_ _ _ _=>(aX (qR rfl) rfl T.Ff PyProof.Rows.boot_max (ag (aq 0) (ag (aq 1) aa))))) rfl))) aK)
  (ai (bX (dw pP sF sL cj (ao G (ao G (aq 0) aH) (aq 3)) (ag (dy (N':=["_law_k","_law_row","_law_m"]) (ix:=[none,some 10,some 3]) (cD rfl T.dD (ag (aX aM rfl T.bO Y' (ag (aq 10) aa)) aa)) (λ_ _ _ _=>(aT (i:=0) (iw ["_law_k","_law_row","_law_m"]) rfl Sort)) nJ (λ_ _ _ _=>(aZ cB (ft (K:=K) rfl G (aq 1) (aq 0)) (dz xg rfl T.Br zA5 (ag (hJ (l7 (K:=K) rfl G) (aq 0) (aq 2) (aI _)) aa))))) aa)))
  (ai (dS (ao G (aq 6) aj) (iS (ao G (ao G (ao G (aq 0) aH) (aq 3)) (lJ ip aj)) (aq 3) dU))
  (ai (kJ Bx (ao G (ao G (aq 0) aH) (aq 1)) (aq 2) (aq 6) rfl)
  (ai (bX (dw pP sF sL cj (ao G (ao G (aq 0) aH) (aq 3)) (ag (aq 7) aa)))
  (ai (bX (dw pP sF sL cj (ao G (ao G (aq 0) aH) (aq 3)) (ag (aZ cB (ao G (ao G (ao G (aq 0) aH) (aq 3)) (lJ ip aj)) (aq 9)) aa)))
  (ai (bX (dw pP sF sL cj (ao G (aq 0) aH) (ag (bD (ag (aq 1) (ag (aq 2) aa))) aa)))
  (ai (cZ PassesOwn.never rfl (bR (pv 8)) (fb (i:=13) (j:=14) rfl sc rfl rfl Sort Sort)
  (ak (aW (aC gr (aq 13) (aX aM rfl T.bO Y' (ag (aq 5) aa)) (aI _)) (ai (bX (dw pP sF sL cj (ao G (ao G (aq 0) aH) (ao G (aq 5) (aq 13))) (ag (aq 14) aa)))
  (ak (bX (dw pP sF sL cj (ao G (ao G (aq 0) aH) (ao G (aq 5) (aq 13))) (ag (aq 6) aa))))) aK)))
  (ak (aG (aq 6))))))))))))))))),?_)
 nofun;let(o,N,nF,nP,ho):=M.dk;let(ls,tt,am,aw,al,mv,wv,lv,rfl,h1,h2,h3,h4,h5,h6,h7):=M.told;have g1:=(dX h1 (λk z=>by cases z)).2;have g2:=(dX h2 (λk z=>by cases z)).2;have g3:=(dX h3 (λk z=>by cases z)).2
 replace h5:=h5.cv dY
 replace h6:=h6.aL dY.aR
 have W:=M.ok;have L:=hc.lt;have I:=W.jz L;have lN:wv.length=m.ws.length:=(h6.1:)
 have nL:mv.length=m.ms.length:=h5.1;have tH:wv.length<=10:=by rw[lN];exact W.Ho
 have DQ:m.ms.length<=5:=W.K4;let(wk1,wk2,wk3,wk4):=tZ W O L k;ac_rfl;have uS:k<(r.ww B).say.length:=by rw[O.lk B L];exact(iF hc.lies).1
 left;calc bN _ (HZ N) ?_;left;calc cL g1 (aA (j:=1) rfl) ?_;have hwm:m.ws[B]?=some (m.w B):=aP L;have anI:B<wv.length:=();have zp:=h6.2 B wv[B] (mf (m.w B)) nofun (by rw[K',hwm];rfl);nofun;let(ta,u1,u2,u3,kk,eta,tJ,q1,q2,q3):=bV zp;obtain rfl:=q1.cF;obtain rfl:=q2.cF;obtain rfl:=q3.c8;ac_rfl;calc bH g3 (aA (j:=B) (v:=.ref ta) (by rw[<-eta];simp)) ?_;calc cL tJ (show hV _ 1=some (.int ((m.goal B:Nat):Int)) from by rw[<-ua W L];calc aA (j:=1) rfl) ?_;left;calc bJ ?_;left;calc bN _ (HZ ((au.refl H) _ _ N)) ?_;left;calc cL ((au.refl H) _ _ g1) (aA (j:=1) rfl) ?_;left;calc Ht true wv (Sq.l ((au.refl H) _ _ g3)) (λD1 IT=>?_);calc FZ ∅ g3 h6 tH rfl IT (λH1 s1x H1e=>?_);have WI:au H H1:=s1x;left;calc(.inl (rfl,_,aS.of H1e),?_);let(ix1,ix2):=vL (Mf W L);refine(D1,_,m.place B,B,rfl,rfl,by rw[H1e,x6],?_,?_,?_)
 .rw[K',<-qw W L,ix1];rfl
 .intro i y hi hy;rw[K']at hy;let(z,hz,rfl):=jb hy;have:=ix2 i z (by rw[qw W L];calc hi) hz;lia
 left;calc bJ ?_;left;calc bN _ (HZ (WI _ _ N)) ?_;left;calc cL (WI _ _ g1) (aA (j:=1) rfl) ?_;left;calc Ht true wv (Sq.l (WI _ _ g3)) (λD2 HU=>?_);calc FZ ∅ (WI _ _ g3) (h6.aL WI.aR) tH rfl HU (λH2 s2x H2e=>?_);have sH2:au H H2:=WI.trans s2x;left;calc bN _ (Wu (sH2 _ _ N)) ?_;have o1:=ho 1 ∅ ∅;have o2:=ho 2 ∅ ∅;have o3:=ho 3 ∅ ∅;have o4:=ho 4 ∅ ∅;have o5:=ho 5 ∅ ∅;have o6:=ho 6 ∅ ∅;have i0:0<m.n 0:=by show 0<1;decide
 let(v1,e1,d1):=M.cU.lst (t:=1) (i:=m.goal B) I rfl;have z1:v1.length=(r.mm (m.goal B)).fH.length:=(d1.1:)
 have abm:=O.y6 I;left;calc bH (sH2 _ _ o1.1) (bz I) ?_;calc iy _ (.inl (_,aS.of (sH2 _ _ e1),rfl)) dO (λev Qh=>?_);rw[z1];have Oq:=au.new (.tup [.int ((m.goal B:Nat):Int),.int (((r.mm (m.goal B)).fH.length:Nat):Int)]) Qh;have R:=sH2.trans Oq;have ahq:HT (upd H2 ev (.tup [.int ((m.goal B:Nat):Int),.int (((r.mm (m.goal B)).fH.length:Nat):Int)])) 1 (.ref ev) (pairD (m.ev r B)):=dA (n:=0) af (.int _) (.int _);have ahr:upd H2 ev (.tup [.int ((m.goal B:Nat):Int),.int (((r.mm (m.goal B)).fH.length:Nat):Int)]) ev=some (.tup [.int ((m.goal B:Nat):Int),.int (((r.mm (m.goal B)).fH.length:Nat):Int)]):=af;generalize hG3:upd H2 ev (.tup [.int ((m.goal B:Nat):Int),.int (((r.mm (m.goal B)).fH.length:Nat):Int)])=H3 at *;have H3o:=Oq _ _ H2e;left;calc bN _ (HZ (R _ _ N)) ?_;left;calc cL (R _ _ g1) (aA (j:=0) rfl) ?_;have anN:m.goal B<mv.length:=();have emd:m.ms[m.goal B]?=some (m.ms.getD (m.goal B) default):=aP I;let(mt,ln,lr,ld,xsd,emt,t1,t2,t3,t4,t5):=h5.2 (m.goal B) mv[m.goal B] _ nofun emd;have Qy:=W.gd I;calc bH (R _ _ g2) (aA (j:=m.goal B) (v:=.ref mt) (by rw[<-emt];simp)) ?_;calc bN _ (Wu (R _ _ N)) ?_;left;calc bH (R _ _ o1.1) (bz I) ?_;let(sv,esv,dsv):=d1.get (i:=(r.mm (m.goal B)).fH.length-1) (d:=u9 ((r.mm (m.goal B)).fH.bM (([]),[]))) (by rw[K',lZ (d:=(([]),[])) abm];rfl);have Mc:=(Sf (dsv.cv dY)).aL R.aR;calc bH (R _ _ e1) (qu () (by rw[z1];calc esv)) ?_;left;calc bN _ (My (R _ _ N)) ?_;nofun;let(v4,e4,d4):=M.cU.lst (t:=4) (i:=B) L rfl;have z4:=d4.u6;subst z4;ac_rfl;left;calc bH (R _ _ o4.1) (bz L) ?_;calc bH (R _ _ e4) (aA (j:=k) (v:=.int ((r.ww B).say.getD k 0)) (by rw[K',aP (d:=0) uS];rfl)) ?_;have vM:=O.last I;calc(mt,ln,lr,ld,sv,_,_,_,xsd,_,_,_,rfl,R _ _ t1,R _ _ t4,t5.aL R.aR,AY.of Mc,Qy.m2,Qy.m12,vM.bn,vM.lr,Qy.d24,by rw[vM.ln];calc Qy.ok,λrx H4 SK VW=>?_);have sH4:=R.trans SK;nofun;let(rp,Ot,XI,Sh,zs,rfl,hrp,D0,VX,oM,D7,fl1,fl2,agg):=VW.ex
 replace D0:HT H4 2 Ot (AW (m.work r B k).ns (m.work r B k).row):=D0
 replace oM:SL H4 zs (m.work r B k).cM:=oM
 replace D7:H4 Sh=some (.lst ((m.work r B k).words.map V.int)):=D7
 ac_rfl;have abO:=ahq.aL SK.aR;have ahs:=SK _ _ ahr;have H4o:=SK _ _ H3o;calc un3 (bI.of hrp) ?_;left;calc(∅,λlz hlz=>?_);generalize hG5:upd H4 lz (.lst [.int 0])=H5 at *;let(VU,elz):=aaB hG5 hlz;have VS:=sH4.trans VU;calc bN _ (HZ (VS _ _ N)) ?_;left;calc cL (VS _ _ g1) (aA (j:=0) rfl) ?_;calc bN _ (.inl (_,aS.of (VS _ _ g2),rfl)) ?_;calc PU _ elz () () (λS hlq=>?_);rw[aal,nL];have s56:=au.new (.lst (List.replicate m.ms.length (V.int 0))) hlq;have WJ:upd H5 S (.lst (List.replicate m.ms.length (V.int 0))) S=some (.lst ((List.replicate m.ms.length 0).map V.int)):=by rw[af,List.map_replicate]
 generalize hG6:upd H5 S (.lst (List.replicate m.ms.length (V.int 0)))=H6 at *;calc(∅,λla hla=>?_);generalize hG7:upd H6 la (.lst [.ref S])=H7 at *;let(zX,ela):=aaB hG7 hla;have s47:=VU.trans (s56.trans zX);have sH7:=sH4.trans s47;calc bN _ (zE (sH7 _ _ N)) ?_;let(v3,e3,d3):=M.cU.lst (t:=3) (i:=m.goal B) I rfl;have z3:v3.length=(r.mm (m.goal B)).hr.length:=(d3.1:)
 have hlh:=O.lh _ I;have Qz:=O.bp _ I;left;calc bH (sH7 _ _ o3.1) (bz I) ?_;calc .inl (_,_,ela,sH7 _ _ e3,T' (small (by simp;lia)),λlb hlb=>?_);generalize hG8:upd H7 lb (.lst ([.ref S]++v3))=H8 at *;let(s78,elb):=aaB hG8 hlb;have s48:=s47.trans s78;have X:=sH4.trans s48;have abP:∃rl,hV ([V.ref S]++v3) (-1)=some (.ref rl)/\H8 rl=some (.lst (((r.mm (m.goal B)).hr.bM (List.replicate m.ms.length 0)).map V.int)):=by
  by_cases h1:1<=(r.mm (m.goal B)).hr.length
  .nofun;let(v,ev',dv):=d3.get (i:=(r.mm (m.goal B)).hr.length-1) (d:=.lst (((r.mm (m.goal B)).hr.bM (List.replicate m.ms.length 0)).map .int)) (by rw[K',lZ (d:=List.replicate m.ms.length 0) h1];rfl);let(a,rfl,ea):=qA (dv.cv dY);ac_rfl;calc(a,qu nofun ?_,X _ _ ea);rw[aas,List.length_singleton,aad (by simp;lia)];rw[show 1+v3.length-1 - [V.ref S].length=(r.mm (m.goal B)).hr.length-1 by simp;lia];exact ev'
  .have ez:(r.mm (m.goal B)).hr=[]:=List.length_eq_zero_iff.mp ();have ev3:v3=[]:=List.length_eq_zero_iff.mp ();refine(S,?_,?_)
   .rw[ev3];exact qu nofun rfl
   .rw[ez];show H8 S=some (.lst (List.map V.int (List.getD ([]:List (List Int)) _ _)));exact s78 _ _ (zX _ _ WJ)
 let(rl,erl,BP):=abP;calc bH elb erl ?_;left;calc bN _ (Mz (X _ _ N)) ?_;let(v5,e5,d5):=M.cU.lst (t:=5) (i:=B) L rfl;have HJ:=O.ls B L;left;calc bH (X _ _ o5.1) (bz L) ?_;let(v5k,ev5,dv5):=d5.get (i:=k) (d:=nQ ((r.ww B).snd.getD k none)) (by rw[K',aP (d:=none) ()];rfl);calc bH (X _ _ e5) (aA ev5) ?_;left;rename_i N2 hN2 T2 U2 Pm hU2;have abQ:(qz m r B k).length=m.ms.length:=by
  have:=Bg W O L (k:=k);rw[Q3,List.length_set]at this;exact this
 have rest:∀(rl':Addr) (z11 V1:Option V) (H9:Hp),au H8 H9->H9 rl'=some (.lst ((qz m r B k).map V.int))->N2 [some (V.ref d),some (V.int ((B:Nat):Int)),some (V.int ((k:Nat):Int)),some (V.int ((m.goal B:Nat):Int)),some (V.int ((m.place B:Nat):Int)),some (V.ref D2),some (V.ref ev),some Ot,some (V.ref XI),some (V.ref Sh),some (V.ref rl'),z11,V1,none,none] H9:=by
  clear Pm hU2 T2 U2;intro rl' z11 V1 H9 s89 abS;have Yc:=s48.trans s89;have SM:=sH4.trans Yc;have b9:=M.cU.same SM;left;calc bN _ (zE (SM _ _ N)) ?_;left;calc bH (SM _ _ o3.1) (bz I) ?_;calc(.inl (rfl,_,aS.of (SM _ _ e3)),?_);calc bJ ?_;left;calc bN _ (.inl (_,aS.of abS,rfl)) ?_;left;rw[V',abQ];calc ie () () (λhl hhl=>?_);rw[aal];refine bu (J:=Ck 0 m.ms.length) (n:=m.ms.length) (λi ys H'=>au H9 H'/\ys=(List.range i).map λj=>V.int ((qz m r B k).getD j 0+(if decide (((j:Nat):Int)=((m.goal B:Nat):Int))=true then 1 else 0))) (T' (aD ())) (au.new _ hhl,rfl) (λi ys H' hi _=>hi) (λys H' _=>S' _) ?_ ?_
  .intro i ys H' hi bt nK zh x H2' zi;nofun;let(Y,rfl):=zh;let(rfl,rfl):=zi;ac_rfl;calc(Ext.set (Ext.refl _) rfl,?_);left
   try rw[if_pos trivial]
   calc bH (Y _ _ abS) (show hV _ (0+(i:Int))=some (.int ((qz m r B k).getD i 0)) from by rw[acq];calc aA (by rw[K',aP (d:=0) ()];rfl)) ?_;refine .inr ?_
   try rw[acq]
   calc b4 bt nK hi (T' (aD ())) (λc o e=>by rw[ay (av e hhl)];calc Y _ _ e,?_);rw[ac2,aah];rfl
  rintro ys IV bt nK ⟨Ij,rfl⟩;clear nK;have Ik:=SM.trans Ij;left;calc iy v3 (Ik _ _ e3) (small ()) ?_;left;have nA:ad 3 (m.goal B)≠hl:=λz=>by have:=SM _ _ e3;rw[z,hhl]at this;cases this
  have kA:∀b o,b≠ad 3 (m.goal B)->IV b=some o->upd IV (ad 3 (m.goal B)) (.lst (v3++[.ref hl])) b=some o:=λb o n e=>by rw[ay n];exact e
  have MQ:∀{b:Addr} {o:HO},IV b=some o->¬FP m.n ad b->b≠ad 3 (m.goal B):=λ{b o} _ h z=>h (3,m.goal B,I,z);have SN:=Ij _ _ (Yc _ _ ahs);have nev:ev≠ad 3 (m.goal B):=λz=>by have:=Ik _ _ e3;rw[<-z,SN]at this;cases this
  calc cL (kA _ _ nev SN) (aA (j:=1) rfl) ?_;calc bN _ (zE (kA _ _ (MQ (Ik _ _ N) nP) (Ik _ _ N))) ?_;left;calc bH (kA _ _ (MQ (Ik _ _ o3.1) o3.2.2) (Ik _ _ o3.1)) (bz I) ?_;calc bH af l9 ?_;left;calc(_,m.goal B,kA _ _ (Ne.symm nA) bt,mq (by simp;lia),?_);rw[Q4 abQ I,show(qz m r B k).set (m.goal B) (((r.mm (m.goal B)).fH.length:Nat):Int)=m.gH r B k from rfl,MO nA];have sK:au H9 (upd IV hl (.lst ((m.gH r B k).map V.int))):=λb o e=>by rw[ay (av e hhl)];exact Ij _ _ e
  have eK:upd IV hl (.lst ((m.gH r B k).map V.int)) hl=some (.lst ((m.gH r B k).map V.int)):=af;generalize hGK:upd IV hl (.lst ((m.gH r B k).map V.int))=K10 at *;have sHK:=SM.trans sK;have bK:=M.cU.same sHK;have FSK:FS F K10:=nM.fr (Z:=λ_=>False) sHK.fr (λ_ _ h=>h);have fresh:∀{b:Addr},H9 b=none->¬(F b\/FP m.n ad b):=λ{b} hb z=>by
   rcases z with z|z
   .let(o,e,_):=nM b z;rw[SM _ _ e]at hb;cases hb
   .let(o,e,_):=b9.fp z;rw[e]at hb;cases hb
  have e3K:=sHK _ _ e3;have xB:=(BF.mk bK sHK.fr (Yc.trans sK).fr).app (t:=3) (i:=m.goal B) I rfl e3K (fz.one (show HD _ 4 (.ref hl) (.lst ((m.gH r B k).map .int)) from .lst (by rw[iu (fresh hhl)];calc eK) nofun (λi u e G he=>(fz.ints (H:=kg (λb=>F b\/FP m.n ad b) K10) (n:=3) (m.gH r B k)).2 i u e G he)));generalize aav:upd K10 (ad 3 (m.goal B)) (.lst (v3++[.ref hl]))=H11 at *;clear kA MQ;left;calc bN _ (QW (xB.f.at N nP)) ?_;let(QX,e6,d6):=xB.b.dct (t:=6) (i:=B) L rfl;have X9:=O.lk B L;have hbs:=O.bs B L;left;calc bH (xB.f.at o6.1 o6.2.2) (bz L) ?_;have pR:((r.ww B).cE.countP Option.isSome)<=(r.ww B).cE.length:=List.countP_le_length;have h6l:=d6.1;calc(ad 6 B,_,rfl,wq.k (k:=Sum.inl ((k:Nat):Int)) e6 (small ()),?_);have Cz:=BF.mk (xB.b.upd (t:=6) (i:=B) L (WH d6 hc.lies ((xB.b.ht (nM.fr xB.f M.cU.zr) (abO.aL xB.g.aR)).mono ∅))) (xB.f.upd (6,B,L,rfl) e6 trivial) (xB.g.upd (6,B,L,rfl) e6 trivial);generalize aaw:upd H11 (ad 6 B) (.dK (putK QX (Sum.inl ((k:Nat):Int)) (.ref ev)))=H12 at *;left;calc bN _ (Wu (Cz.f.at N nP)) ?_;let(v1',e1',d1'):=Cz.b.lst (t:=1) (i:=m.goal B) I rfl;have z1':v1'.length=(r.mm (m.goal B)).fH.length:=(d1'.1:)
  left;calc bH (Cz.f.at o1.1 o1.2.2) (bz I) ?_;calc(.inl (rfl,_,aS.of e1'),?_);left;calc iy v1' e1' (small ()) ?_;have Oz:=Cz.app (t:=1) (i:=m.goal B) I rfl e1' (fz.one (show HD _ 4 Ot (u9 (((m.work r B k).ns),(m.work r B k).row)) from(Cz.b.ht (nM.fr Cz.f M.cU.zr) (D0.aL Cz.g.aR)).mono ∅));generalize an4:upd H12 (ad 1 (m.goal B)) (.lst (v1'++[Ot]))=H13 at *;left;calc bN _ (abp (Oz.f.at N nP)) ?_;let(v2,e2,d2):=Oz.b.lst (t:=2) (i:=m.goal B) I rfl;have z2:v2.length=(r.mm (m.goal B)).wp.length:=(d2.1:)
  have hlw:=O.lw _ I;left;calc bH (Oz.f.at o2.1 o2.2.2) (bz I) ?_;calc(.inl (rfl,_,aS.of e2),?_);calc bN _ (abp (Oz.f.at N nP)) ?_;left;calc bH (Oz.f.at o2.1 o2.2.2) (bz I) ?_;nofun;let(vw,evw,dvw):=d2.get (i:=(r.mm (m.goal B)).wp.length-1) (d:=.lst (((r.mm (m.goal B)).wp.bM []).map .int)) (by rw[K',lZ (d:=[]) ()];rfl);let(lw,rfl,elw):=qA (dvw.cv dY);ac_rfl;calc bH e2 (qu () (by rw[z2];calc evw)) ?_;have Mh:¬FP m.n ad XI:=λz=>by
   let(u,e,_):=(M.cU.same R).fp z;rw[fl1]at e;cases e
  have VY:¬FP m.n ad Sh:=λz=>by
   let(u,e,_):=(M.cU.same R).fp z;rw[fl2]at e;cases e
  have hbw:=O.bw _ I _ (iP (l:=(r.mm (m.goal B)).wp) (d:=[]) ());calc .inl (_,_,elw,Oz.g.at D7 VY,T' (small (by simp;lia)),λnw hnw=>?_);have MR:=au.new (.lst (((r.mm (m.goal B)).wp.bM []).map V.int++(m.work r B k).words.map V.int)) hnw;have enw:upd H13 nw (.lst (((r.mm (m.goal B)).wp.bM []).map V.int++(m.work r B k).words.map V.int)) nw=some (.lst (((r.mm (m.goal B)).wp.bM []++(m.work r B k).words).map V.int)):=by rw[af,aah]
  generalize an9:upd H13 nw (.lst (((r.mm (m.goal B)).wp.bM []).map V.int++(m.work r B k).words.map V.int))=H14 at *;have w14:=Oz.same MR;have nnw:¬(F nw\/FP m.n ad nw):=λz=>by
   rcases z with z|z
   .let(o,e,_):=(nM.fr Oz.f M.cU.zr) nw z;rw[hnw]at e;cases e
   .let(o,e,_):=Oz.b.fp z;rw[hnw]at e;cases e
  left;calc iy v2 (MR _ _ e2) (small ()) ?_;have w15:=w14.app (t:=2) (i:=m.goal B) I rfl (MR _ _ e2) (fz.one (show HD _ 4 (.ref nw) (.lst (((r.mm (m.goal B)).wp.bM []++(m.work r B k).words).map .int)) from .lst (by rw[iu nnw];calc enw) nofun (λi u e G he=>(fz.ints (H:=kg (λb=>F b\/FP m.n ad b) H14) (n:=3) ((r.mm (m.goal B)).wp.bM []++(m.work r B k).words)).2 i u e G he)));generalize aob:upd H14 (ad 2 (m.goal B)) (.lst (v2++[.ref nw]))=H15 at *;left;calc bN _ (abq (w15.f.at N nP)) ?_;let(v0,e0,d0):=w15.b.lst (t:=0) (i:=0) i0 rfl;have z0:v0.length=r.picks.length:=(d0.1:)
  left;calc ie (.inl (rfl,_,aS.of e0)) dO (λtp Cq=>?_);have SO:=au.new (.tup [.int ((B:Nat):Int),.int ((k:Nat):Int)]) Cq;have abU:HT (upd H15 tp (.tup [.int ((B:Nat):Int),.int ((k:Nat):Int)])) 1 (.ref tp) (pairD (((B:Int)),(k:Int))):=dA (n:=0) af (.int _) (.int _);generalize aoc:upd H15 tp (.tup [.int ((B:Nat):Int),.int ((k:Nat):Int)])=H16 at *;have w16:=w15.same SO;have abV:=SO _ _ e0;left;calc iy v0 abV (small ()) ?_;have SQ:=w16.app (t:=0) (i:=0) i0 rfl abV (fz.one ((w16.b.ht (nM.fr w16.f M.cU.zr) abU).mono ∅));generalize aod:upd H16 (ad 0 0) (.lst (v0++[.ref tp]))=H17 at *;have ahB:cC F H17 d (.ref tt) m (r.step m B k) ad:=M.own SQ.f (SQ.b.congr Q5);have SR:SL H17 zs (m.work r B k).cM:=oM.aL SQ.g.aR;have abW:=SQ.g.at VX Mh;have SU:=abO.aL SQ.g.aR;have nD2:¬FP m.n ad D2:=λz=>by
   let(u,e,_):=(M.cU.same WI).fp z;rw[HU]at e;cases e
  have ahD:=SQ.g.at H4o nD2;clear b9 bK xB Cz Oz w14 w15 w16 d0 d1' d2 d6;left;have QA:zs.length=(m.work r B k).cM.length:=SR.1;have VZ:=O.step W L (k:=k);have V0:∀a c,some (m.ev r B)=some ((a),c)->0<=a/\a<m.ms.length/\1<=c/\c<=((r.step m B k).mm a.toNat).hr.length:=FK W O L;refine(_,rfl,.inl ((_,aS.of abW),fA (K:=K) (xs:=zs) (λi σ H'=>(∃V2 z14,σ=[some (V.ref d),some (V.int ((B:Nat):Int)),some (V.int ((k:Nat):Int)),some (V.int ((m.goal B:Nat):Int)),some (V.int ((m.place B:Nat):Int)),some (V.ref D2),some (V.ref ev),some Ot,some (V.ref XI),some (V.ref Sh),some (V.ref rl'),z11,V1,V2,z14])/\Fr (FP m.n ad) H17 H'/\cC F H' d (.ref tt) m ((r.step m B k).send (m.outs (m.goal B)) (m.ev r B) ((m.work r B k).cM.take i)) ad) ?_ ?_ ?_ ?_))
  .exact((_,_,rfl),Fr.refl,ahB)
  .rintro i σ H' hi ⟨_,fi,_⟩;exact aS.of (fi.at abW Mh)
  .intro i z σ H' hz QQ;nofun;let((V2,z14,rfl),fi,F1):=QQ;have wF:i < zs.length:=(iF hz).1;have his:i < (m.work r B k).cM.length:=();have oF:(m.work r B k).cM[i]?=some (m.work r B k).cM[i]:=cJ his;have Qi:=wk4 _ (aaJ his);have V3:=(SR.2 i z _ hz oF).aL fi.aR;have QB:(r.step m B k).send (m.outs (m.goal B)) (m.ev r B) ((m.work r B k).cM.take (i+1))=((r.step m B k).send (m.outs (m.goal B)) (m.ev r B) ((m.work r B k).cM.take i)).send (m.outs (m.goal B)) (m.ev r B) [(m.work r B k).cM[i]]:=by
    rw[acY,oF];exact rM _
   have D8:=(RS.v9.send (outs:=m.outs (m.goal B)) (ev:=m.ev r B) ((m.work r B k).cM.take i) VZ V0).mono (show _<=19998 by simp;lia);generalize (m.work r B k).cM[i]=p at *;let(pj,px):=p;let(tz,u1,u2,kz,rfl,II,y1,y2):=dP V3;obtain rfl:=y1.cF;obtain rfl:=y2.cF;ac_rfl;calc vf (bI.of II) ?_;have eDi:=fi.at ahD nD2;left;calc bN _ (.inl (_,aS.of eDi,rfl)) ?_;left;have hlen:((wK m 0 (m.goal B)).map λi=>V.int ((i:Nat):Int)).length=(m.outs (m.goal B)).length:=by rw[V'];rfl
   rw[hlen];have ej:((pj.toNat:Nat):Int)=pj:=abX Qi;by_cases iN:pj<((m.outs (m.goal B)).length:Nat)
   .rw[if_pos (iN:)];have RT:pj.toNat < (m.outs (m.goal B)).length:=();have ub:(m.outs (m.goal B)).getD pj.toNat 0<m.ws.length:=by
     have:=getD_mem (d:=0) RT;unfold NT.outs at this ⊢;rw[List.mem_filter,ac9]at this;exact this.1
    have eix:hV ((wK m 0 (m.goal B)).map λi=>V.int ((i:Nat):Int)) pj=some (.int (((m.outs (m.goal B)).getD pj.toNat 0:Nat):Int)):=by
     rw[<-ej];calc aA ?_;rw[K'];show Option.map _ (m.outs (m.goal B))[_]?=_;rw[aal,aP (d:=0) RT];rfl
    nofun;obtain⟨U,how⟩:∃U,U=(m.outs (m.goal B)).getD pj.toNat 0:=(_,rfl)
    rw[<-how]at ub eix;generalize hri:(r.step m B k).send (m.outs (m.goal B)) (m.ev r B) ((m.work r B k).cM.take i)=ri at *;let(oi,hdi,nFi,nPi,hoi):=F1.dk;have oi4:=hoi 4 ∅ ∅;have oi5:=hoi 5 ∅ ∅;have bi:=F1.cU;let(w4,x4,y4):=bi.lst (t:=4) (i:=U) ub rfl;ac_rfl;have l4:w4.length=(ri.ww U).say.length:=(y4.1:)
    have hb4:=D8.bs U ub;have hb5:=D8.ls U ub;left;calc bN _ (My hdi) ?_;left;calc bH eDi eix ?_;calc bH oi4.1 (bz ub) ?_;calc(.inl (rfl,_,aS.of x4),?_);left;calc iy w4 x4 (small ()) ?_;have bj:=bi.app (t:=4) (i:=U) ub rfl x4 (fz.one (.int px));have fj:Fr (FP m.n ad) H' (upd H' (ad 4 U) (.lst (w4++[.int px]))):=Fr.refl.upd (4,U,ub,rfl) x4 trivial;generalize hGj:upd H' (ad 4 U) (.lst (w4++[.int px]))=Hj at *;let(w5,x5,y5):=bj.lst (t:=5) (i:=U) ub rfl;have l5:w5.length=(ri.ww U).snd.length:=(y5.1:)
    left;calc bN _ (Mz (fj.at hdi nPi)) ?_;left;calc bH (fj.at eDi nD2) eix ?_;calc bH (fj.at oi5.1 oi5.2.2) (bz ub) ?_;calc(.inl (rfl,_,aS.of x5),?_);left;calc iy w5 x5 (small ()) ?_;have FSj:FS F Hj:=nM.fr ((SQ.f.trans fi).trans fj) M.cU.zr;have bk:=bj.app (t:=5) (i:=U) ub rfl x5 (fz.one (show HD _ 4 (.ref ev) (nQ (some (m.ev r B))) from(bj.ht FSj ((SU.aL fi.aR).aL fj.aR)).mono ∅));have fk:Fr (FP m.n ad) H' (upd Hj (ad 5 U) (.lst (w5++[.ref ev]))):=fj.upd (5,U,ub,rfl) x5 trivial;left;calc ie (_,_,rfl,rfl) (fi.trans fk) ?_;rw[QB];show cC F _ d _ m (if pj.toNat<_ then _ else _) ad;rw[if_pos RT];show cC F _ d _ m (ri.put ((m.outs (m.goal B)).getD pj.toNat 0) px (some (m.ev r B))) ad;rw[<-how];exact F1.own fk (bk.congr MN)
   .rw[if_neg (iN:)];left;calc ie (_,_,rfl,rfl) fi ?_;rw[QB];show cC F H' d _ m (if pj.toNat<_ then _ else _) ad;rw[if_neg ()];exact F1
  .intro σ H' Mu;let((V2,z14,rfl),fi,F1):=Mu;left;rw[QA,aaP]at F1;exact q _ _ (SQ.f.trans fi) F1 (SU.aL fi.aR)
 clear hN2
 cases L7:(r.ww B).snd.getD k none with
 |none=>
  rw[L7]at dv5;have:=DY dv5;subst this;left
  try rw[if_neg ∅]
  left;calc rest rl _ _ H8 (au.refl _) ?_;unfold qz;rw[L7];calc BP
 |some sc=>
  nofun;let(s0,c0):=sc;rw[L7]at dv5;let(ae,rfl,UZ):=qt (dv5.cv dY);have ahI:=X _ _ UZ;have AD:some ((s0),c0)∈(r.ww B).snd:=by rw[<-L7];exact getD_mem ()
  let(q1,q2,q3,q4):=O.sd B L s0 c0 AD;ac_rfl;left
  try rw[if_pos ∅]
  left;calc bN _ (Mz (X _ _ N)) ?_;left;calc bH (X _ _ o5.1) (bz L) ?_;calc bH (X _ _ e5) (aA ev5) ?_;calc vf (bI.of ahI) ?_;left;calc bJ ?_;left;calc bN _ (zE (X _ _ N)) ?_;have hsm:s0.toNat<m.ms.length:=();have es0:((s0.toNat:Nat):Int)=s0:=abX q1;have ec0:(((c0-1).toNat:Nat):Int)=c0-1:=abX ();left;calc bH (X _ _ o3.1) (show hV _ s0=some (.ref (ad 3 s0.toNat)) from by have:=bz (n:=m.n) (ad:=ad) (t:=3) hsm;rw[es0]at this;calc this) ?_;nofun;let(vs3,es3,ds3):=M.cU.lst (t:=3) (i:=s0.toNat) hsm rfl;let(vr,evr,Yd):=ds3.get (i:=(c0-1).toNat) (d:=.lst (((r.mm s0.toNat).hr.getD (c0-1).toNat []).map .int)) (by rw[K',aP (d:=[]) ()];rfl);let(lo,rfl,Mi):=qA (Yd.cv dY);ac_rfl;calc bH (X _ _ es3) (show hV _ (c0-1)=some (.ref lo) from by rw[<-ec0];calc aA evr) ?_;have Q6:=X _ _ Mi;left;calc fQ true true _ _ (Sq.l BP) (Sq.l Q6) (λD3 x8=>?_);have ab1:((r.mm (m.goal B)).hr.bM (List.replicate m.ms.length 0)).length=m.ms.length:=by
   by_cases h1:1<=(r.mm (m.goal B)).hr.length
   .exact O.hl _ I _ (iP h1)
   .have ez:(r.mm (m.goal B)).hr=[]:=List.length_eq_zero_iff.mp ();rw[ez];simp[List.bM]
  have ab2:((r.mm s0.toNat).hr.getD (c0-1).toNat []).length=m.ms.length:=O.hl _ hsm _ (getD_mem ());have ehr:qz m r B k=List.zipWith max ((r.mm (m.goal B)).hr.bM (List.replicate m.ms.length 0)) ((r.mm s0.toNat).hr.getD (c0-1).toNat []):=by
   unfold qz;rw[L7]
  generalize hA:(r.mm (m.goal B)).hr.bM (List.replicate m.ms.length 0)=LA at *;generalize hB:(r.mm s0.toNat).hr.getD (c0-1).toNat []=LB at *;refine bu (J:=Xt true true K rl lo) (n:=m.ms.length) (λi ys H'=>au H8 H'/\ys=((List.zipWith max LA LB).take i).map V.int) (T' (aD ())) (au.new _ x8,rfl) ?_ ?_ ?_ ?_
  .rintro i ys H' hi ⟨Y,_⟩;exact(_,_,_,_,Sq.l (Y _ _ BP),Sq.l (Y _ _ Q6),by rw[K',aP (d:=0) ()];rfl,by rw[K',aP (d:=0) ()];rfl)
  .rintro ys H' ⟨Y,_⟩;exact(_,_,Sq.l (Y _ _ BP),Sq.l (Y _ _ Q6),.inl (by simp;lia))
  .intro i ys H' hi bt hl HY xx H4' zq9;nofun;let(Y,rfl):=HY;let(t',IY,rfl,y):=zq9;let(x1,x2,SV,SW,rfl):=y _ _ (Sq.l (Y _ _ BP)) (Sq.l (Y _ _ Q6));rw[K',aP (d:=0) ()] at SV SW;obtain rfl:=Option.some.inj SV;obtain rfl:=Option.some.inj SW;ac_rfl;have s2:=au.new (.tup [.int (LA.getD i 0),.int (LB.getD i 0)]) IY;have qG:upd H' t' (.tup [.int (LA.getD i 0),.int (LB.getD i 0)]) t'=some (.tup [.int (LA.getD i 0),.int (LB.getD i 0)]):=af;calc vf (bI.of qG) (Ext.set (Ext.set (Ext.refl _) rfl) rfl,?_);left
   try rw[if_pos trivial]
   calc b4 (s2 _ _ bt) hl hi (T' (aD ())) (λc o e=>by rw[ay (av e x8)];calc s2 _ _ (Y _ _ e),?_);rw[acY,List.getElem?_zipWith,aP (l:=LA) (d:=0) (),aP (l:=LB) (d:=0) (),aah];show _++[V.int (if LB.getD i 0 > LA.getD i 0 then LB.getD i 0 else LA.getD i 0)]=_++[V.int (max (LA.getD i 0) (LB.getD i 0))]
   congr 3;split<;>lia
  rintro ys H9 bt hl ⟨s89,rfl⟩;rw[abR (by simp;lia),<-ehr]at bt;left;calc rest D3 _ _ H9 s89 bt
theorem sW.nil:sW H0 H' D [] 0 ct:=(rfl,List.nodup_nil,λa h=>by simp at h,λj a h=>by simp at h)
theorem sW.snoc(h:sW H0 H1 D as n ct)(q:au H0 H1)(r:H1 D≠none)(g:H1 a=none)(e:H' a=some o)(c:ct n H' o)(s:∀b o,b≠D->H1 b=some o->H' b=some o)(f:∀j o,ct j H1 o->ct j H' o):sW H0 H' D (as++[a]) (n+1) ct:=by
 refine(by simp[h.len],?_,λb d=>?_,λj b d=>?_)
 .rw[List.nodup_append];calc ie h.nd nofun (λb d c l=>?_);simp at l;subst l;intro z;subst z;let(j,k):=acw d;let(m,i,_):=h.ins j b k;rw[g]at i;cases i
 .rcases List.mem_append.mp d with d | d
  .exact h.new b d
  .simp at d;subst d;refine(?_,λz=>r (z ▸ g))
   cases t:H0 b with
   |none=>rfl
   |some o=>rw[q _ _ t]at g;cases g
 .by_cases k:j < as.length
  .rw[aag k]at d;let(m,i,g):=h.ins j b d;exact(m,s _ _ (h.new b (aaF d)).2 i,f _ _ g)
  .rw[aad ()] at d
   cases p:j-as.length with
   |zero=>
    rw[p]at d;simp at d;subst d;have:j=n:=by have:=h.len;lia
    subst this;calc(o,e,c)
   |succ k=>rw[p]at d;simp at d
theorem sW.keep(h:sW H0 H1 D as n ct)(s:∀(j:Nat) (b:Addr) (o:HO),H1 b=some o->ct j H1 o->H' b=some o/\ct j H' o):sW H0 H' D as n ct:=
 (h.len,h.nd,h.new,λj a e=>by
  let(c,d,f):=h.ins j a e;calc(c,s _ _ _ d f))
theorem ue(t:H l=some (.lst xs))(v:H D=none)(G:xs.length<=10)(y:∀x,Ext (wt ix σ) ((wt ix σ).set 0 (some x)))(d:∀g j (R:VK),(∀p,j p=none->R (.ref p) (upd j p o))->r g j R)(q:∀as H1,H1 D=some (.lst (as.map V.ref))->au H H1->sW H H1 D as xs.length (λ_ _ u=>u=o)->Q (.ref D) H1):lX ix (xf K l) (fM 0) jw r σ H Q D:=by
 refine bu (n:=xs.length) (λi ys H'=>∃as:List Addr,ys=as.map V.ref/\au H H'/\sW H H' D as i (λ_ _ u=>u=o)) (T' (small ())) ([],rfl,au.new _ v,sW.nil) ?_ ?_ ?_ ?_
 .rintro i ys H' k ⟨_,_,a,_⟩;exact(_,xs[i],aS.of (a _ _ t),cJ k)
 .rintro ys H' ⟨_,_,a,_⟩;exact(_,aS.of (a _ _ t),S' _)
 .intro i ys H' k c w z B I C;let(as,rfl,a,m):=z;let(rfl,g):=C;calc(y B,?_);simp only[jw,if_true];calc d _ _ _ λp g=>?_;have d:=au.new o g;have i:p≠D:=Ne.symm (av c g);refine b4 (d _ _ c) w k (T' (small ())) (as++[p],nofun,λb o e=>?_,?_)
  .rw[ay (av e v)];exact d _ _ (a _ _ e)
  .refine m.snoc a (by rw[c];simp) g (o:=o) ?_ rfl (λb o a e=>?_) (λj u e=>e)
   .rw[ay i];exact af
   .rw[ay a];exact d _ _ e
 .intro ys H1 c w F;let(as,rfl,a,m):=F;calc q as H1 c a m
theorem sW.some(h:sW H0 H1 D as n ct):∀a∈as,H1 a≠none:=λa m=>by
 let(j,e):=acw m;let(b,e,_):=h.ins j a e;rw[e];calc λz=>nomatch z
noncomputable def kL(l:List Addr):List (Key×V):=List.zipWith (λk a=>((Sum.inr k),V.ref a)) ["net","put","sender","worker","states","words","heard","events"] l
theorem qB{C:Hp}{d:Addr}(c:H d=none)(S:au H C)(f:C d=some (.dK (kL l)))(a:au C H')(g:putK (kL l) k (V.ref D)=kL (l++[D]))(h:l.length<=8)(q:∀G,G d=some (.dK (kL (l++[D])))->(∀b o,b≠d->C b=some o->G b=some o)->(∀b o,b≠d->H' b=some o->G b=some o)->au H G->R G):∃d' G,d=d'/\wq H' d' (kV k) (V.ref D) G/\R G:=by
 calc(d,_,rfl,wq.k (a _ _ f) (small (by unfold kL;rw[ac6];lia)),?_);rw[g];calc q _ af (λb o n e=>by rw[ay n];calc a _ _ e) (λb o n e=>by rw[ay n];calc e) (λb o e=>by rw[ay (av e c)];calc a _ _ (S _ _ e))
abbrev mJ:Stmt:=top 83
inductive MT(vs:List V)(H:Hp)(Q:VK):Prop
 |mk (F:Addr->Prop) (tn:V) (nt:NT) (ls:jr) (h0:vs=[tn]) (h1:ToldN (kg F H) tn nt.ms nt.ws ls) (h2:FS F H) (h3:nt.Ok) (h4:ls.length<=20) (h5:∀l∈ls,0<=l.1/\l.1<nt.ws.length) (h6:∀d ad H',au H H'->(∀b,FP nt.n ad b->H b=none)->H d=none->cC F H' d tn nt (RS.begin nt ls) ad->Q (.ref d) H'):MT vs H Q
def F2:Sp:=λvs H Q _=>MT vs H Q
theorem B8(D:cG K mg "_law_begun" "_law_begun" mJ eN)(T:Tx K mg C CN CR F FD):Def P w K mg base "_law_begun" 1 eN F2:=by
 exists["_law_net_here","_law_run_here","_law_way","_law_said"];let(F,tn,g,ls,rfl,hN,nM,aY,tI,uy,q):=h;have N:=hr.units;have Bx:=Xw N;refine(_,(ai (bf (i:=1) sc rfl Sort (O8 (uw aH (aq 0) (uw aH (dy (N':=["_law_way"]) (ix:=[none]) (bR (ao N (aq 0) aj)) (λ_ _ _ _=>(aT (i:=0) (iw ["_law_way"]) rfl Sort)) nJ (λ_ _ _ _=>(bE aa))) (uw aH (dy (N':=["_law_way"]) (ix:=[none]) (bR (ao N (aq 0) aj)) (λ_ _ _ _=>(aT (i:=0) (iw ["_law_way"]) rfl Sort)) nJ (λ_ _ _ _=>(bE aa))) O7))) rfl rfl ∅ ∅))
  (ai (kJ Bx (aq 1) aH (dy (N':=["_law_way"]) (ix:=[none]) (bR (ao N (aq 0) aj)) (λ_ _ _ _=>(aT (i:=0) (iw ["_law_way"]) rfl Sort)) nJ (λ_ _ _ _=>JS)) rfl)
  (ai (kJ Bx (aq 1) aH (dy (N':=hE) (ix:=[none]) (bR (ao N (aq 0) aj)) (λ_ _ _ _=>(aT (i:=0) (iw hE) rfl Sort)) nJ (λ_ _ _ _=>(bE (ag (bD (ag (dz (p7 (K:=K) rfl) rfl T.b8 sM (ag (ft (K:=K) rfl N (aq 0) aj) aa)) (ag (dz (p7 (K:=K) rfl) rfl T.b8 sM (ag (ft (K:=K) rfl N (aq 0) aj) aa)) aa))) aa)))) rfl)
  (ai (kJ Bx (aq 1) aH (dy (N':=hE) (ix:=[none]) (bR (ao N (aq 0) aj)) (λ_ _ _ _=>(aT (i:=0) (iw hE) rfl Sort)) nJ (λ_ _ _ _=>(bE (ag (bE aa) aa)))) rfl)
  (ai (kJ Bx (aq 1) aH (dy (N':=hE) (ix:=[none]) (bR (ao N (aq 0) aj)) (λ_ _ _ _=>(aT (i:=0) (iw hE) rfl Sort)) nJ (λ_ _ _ _=>(bE aa))) rfl)
  (ai (kJ Bx (aq 1) aH (bE aa) rfl)
  (ai (cZ PassesOwn.never rfl (bR (ao N (aq 0) aj)) (fb (i:=2) (j:=3) rfl sc rfl rfl Sort Sort)
  (ai (bX (dw pP sF sL cj (ao N (ao N (aq 1) aH) (aq 2)) (ag (aq 3) aa)))
  (ak (bX (dw pP sF sL cj (ao N (ao N (aq 1) aH) (aq 2)) (ag gF aa))))))
  (ak (aG (aq 1)))))))))),?_)
 nofun;let(tt,am,aw,al,Y,wv,lv,rfl,h1,h2,h3,h4,h5,h6,h7):=id hN;have g1:=(dX h1 (λk z=>by cases z)).2;have Z:=(dX h2 (λk z=>by cases z)).2;have g3:=(dX h3 (λk z=>by cases z)).2;have g4:=(dX h4 (λk z=>by cases z)).2
 replace h5:=h5.cv dY
 replace h6:=h6.aL dY.aR
 replace h7:=h7.aL dY.aR
 ac_rfl;have lN:wv.length=g.ws.length:=(h6.1:)
 have nL:Y.length=g.ms.length:=h5.1;have t9:lv.length=ls.length:=(h7.1:)
 have T:wv.length<=10:=by rw[lN];exact aY.Ho
 have T:Y.length<=5:=by rw[nL];exact aY.K4
 left;calc Px λd vD=>?_;generalize hGd:upd H d (.dK [])=C1 at *;let(Ye,ed0):=aaB hGd vD;left;calc bJ ?_;left;calc cL (Ye _ _ g1) (aA (j:=1) rfl) ?_;left;calc .inl ((_,aS.of (Ye _ _ g3)),λD1 IT=>?_);calc ue (o:=.lst []) (Ye _ _ g3) IT () (λ_=>Ext.set (Ext.refl _) rfl) (λ_ _ _ r=>And.intro ∅ r) ?_;intro A1 H1 l sh1 hL1;have eD1:=l;clear l;have fD1:C1 D1=none:=IT;left;generalize hC2:H1=C2 at *;have S2:=Ye.trans sh1;have Yf:=sh1 _ _ ed0;have kd1:∀b o,b≠d->C1 b=some o->C2 b=some o:=λb o _ e=>sh1 _ _ e;calc bJ ?_;left;calc cL (S2 _ _ g1) (aA (j:=1) rfl) ?_;left;calc .inl ((_,aS.of (S2 _ _ g3)),λD2 HU=>?_);calc ue (o:=.lst []) (S2 _ _ g3) HU () (λ_=>Ext.set (Ext.refl _) rfl) (λ_ _ _ r=>And.intro ∅ r) ?_;intro A2 H2 l XQ XR;have XT:=l;clear l;have fD2:C2 D2=none:=HU;left;have edE:H2 d=some (.dK []):=XQ _ _ Yf;calc(edE,kL [tt,D1,D2],rfl,by simp[kL,List.zipWith],?_);rw[show oo [] (kL [tt,D1,D2])=kL [tt,D1,D2] by kernel_rfl];let(C3,hC3,Yg,XS,ke2):=aaI (d:=d) (kL [tt,D1,D2]) XQ;rw[hC3];have S3:au H C3:=λb o e=>XS b o (av e vD) (S2 _ _ e);clear hC3;clear edE;left;calc bJ ?_;left;calc cL (S3 _ _ g1) (aA (j:=1) rfl) ?_;left;calc .inl ((_,aS.of (S3 _ _ g3)),λD3 x8=>?_);calc ue (o:=.dK []) (S3 _ _ g3) x8 () (λ_=>Ext.set (Ext.refl _) rfl) (λ_ _ _ r=>r) ?_;intro A3 T l sh3 hL3;have XX:=l;clear l;have fD3:C3 D3=none:=x8;left;calc qB (k:=Sum.inr "worker") vD S3 Yg sh3 (by kernel_rfl) nofun λC4 WK kd3 ke3 S4=>?_;left;calc bJ ?_;left;calc cL (S4 _ _ g1) (aA (j:=0) rfl) ?_;left;calc .inl ((_,aS.of (S4 _ _ Z)),λD4 HV=>?_);refine bu (J:=xf K am) (n:=Y.length) (λi ys H'=>∃as:List Addr,ys=as.map V.ref/\au C4 H'/\sW C4 H' D4 as i (λj H' o=>∃v,o=.lst [v]/\HT H' 2 v (AW (g.ms.getD j default).ns (g.ms.getD j default).row))) (T' (small ())) ([],rfl,au.new _ HV,sW.nil) ?_ ?_ ?_ ?_
 .rintro i ys H' hi ⟨_,_,M,_⟩;exact(_,Y[i],aS.of (M _ _ (S4 _ _ Z)),cJ hi)
 .rintro ys H' ⟨_,_,M,_⟩;exact(_,aS.of (M _ _ (S4 _ _ Z)),S' _)
 .intro i ys H' hi l hl zg xx H4 zh;nofun;let(as,rfl,M,hL):=zg;let(rfl,hy):=zh;ac_rfl;have ex:=hy _ (aS.of (M _ _ (S4 _ _ Z)));calc(Ext.set (Ext.refl _) rfl,?_);left
  try rw[if_pos trivial]
  have QE:i<g.ms.length:=();let(mt,ln,lr,ld,xsd,rfl,m1,m2,m3,T,m5):=h5.2 i xx _ ex (aP (d:=default) QE);have sHk:=(S4.trans M)
  calc cL (sHk _ _ m1) (aA (j:=1) rfl) ?_;left;calc .inl (_,aS.of (sHk _ _ m2),λt1 T=>?_);have r1:=au.new (.tup ((g.ms.getD i default).ns.map V.int)) T;calc cL (r1 _ _ (sHk _ _ m1)) (aA (j:=2) rfl) ?_;left;calc .inl (_,aS.of (r1 _ _ (sHk _ _ m3)),λt2 T=>?_);have r2:=au.new (.tup ((g.ms.getD i default).row.map V.int)) T;calc(dO,λt3 Bz=>?_);have r3:=au.new (.tup [.ref t1,.ref t2]) Bz;have S:=r1.trans (r2.trans r3);have O:HT (upd (upd (upd H4 t1 (.tup ((g.ms.getD i default).ns.map V.int))) t2 (.tup ((g.ms.getD i default).row.map V.int))) t3 (.tup [.ref t1,.ref t2])) 2 (.ref t3) (AW (g.ms.getD i default).ns (g.ms.getD i default).row):=dA af (p8 (r3 _ _ (r2 _ _ af))) (p8 (r3 _ _ af));generalize hGP:upd (upd (upd H4 t1 (.tup ((g.ms.getD i default).ns.map V.int))) t2 (.tup ((g.ms.getD i default).row.map V.int))) t3 (.tup [.ref t1,.ref t2])=HP at *;have Il:=S _ _ l;left;calc(∅,λp hp=>?_);have U:=au.new (.lst [.ref t3]) hp;have WL:=U _ _ Il;have nD:p≠D4:=Ne.symm (av Il hp);refine b4 WL hl hi (T' (small ())) (as++[p],nofun,λb o e=>?_,?_)
  .rw[ay (av e HV)];exact U _ _ (S _ _ (M _ _ e))
  .refine hL.snoc M (by rw[l];simp) (S.free hp) (o:=.lst [.ref t3]) ?_ (_,rfl,O.aL (λb xs e=>by rw[ay (λz=>by rw[z,Il] at e;cases e)];calc U _ _ e)) (λb o nb e=>?_) (λj o (v,e,h)=>(v,e,h.aL (λb xs e=>by rw[ay (λz=>by rw[z,l] at e;cases e)];calc U _ _ (S _ _ e))))
   .rw[ay nD];exact af
   .rw[ay nb];exact U _ _ (S _ _ e)
 intro ys H4 l hl zi;let(A4,rfl,X0,hL4):=zi;have X1:=l;clear l hl;have fD4:C4 D4=none:=HV;left;calc qB (k:=Sum.inr "states") vD S4 WK X0 (by kernel_rfl) nofun λR SX kd4 ke4 S5=>?_;left;calc bJ ?_;left;calc cL (S5 _ _ g1) (aA (j:=0) rfl) ?_;left;calc .inl ((_,aS.of (S5 _ _ Z)),λD5 wa=>?_);refine bu (J:=xf K am) (n:=Y.length) (λi ys H'=>∃as:List Addr,ys=as.map V.ref/\au R H'/\sW R H' D5 as i (λ_ H' o=>∃q,o=.lst [.ref q]/\H' q=some (.lst [])/\R q=none/\q≠D5)) (T' (small ())) ([],rfl,au.new _ wa,sW.nil) ?_ ?_ ?_ ?_
 .rintro i ys H' hi ⟨_,_,M,_⟩;exact(_,Y[i],aS.of (M _ _ (S5 _ _ Z)),cJ hi)
 .rintro ys H' ⟨_,_,M,_⟩;exact(_,aS.of (M _ _ (S5 _ _ Z)),S' _)
 .intro i ys H' hi l hl QQ xx H4 Mu;nofun;let(as,rfl,M,hL):=QQ;let(rfl,hy):=Mu;ac_rfl;have ex:=hy _ (aS.of (M _ _ (S5 _ _ Z)));calc(Ext.set (Ext.refl _) rfl,?_);left
  try rw[if_pos trivial]
  calc(aam _,λqq hqq=>?_);generalize hGP:upd H4 qq (.lst [])=HP at *;let(S,eqq):=aaB hGP hqq;have nqD:qq≠D5:=Ne.symm (av l hqq);have Il:=S _ _ l;left;calc(∅,λp hp=>?_);have U:=au.new (.lst [.ref qq]) hp;have WL:=U _ _ Il;have nD:p≠D5:=Ne.symm (av Il hp);refine b4 WL hl hi (T' (small ())) (as++[p],nofun,λb o e=>?_,?_)
  .rw[ay (av e wa)];exact U _ _ (S _ _ (M _ _ e))
  .refine hL.snoc M (by rw[l];simp) (S.free hp) (o:=.lst [.ref qq]) ?_ (qq,rfl,by rw[ay nqD];calc U _ _ eqq,M.free hqq,nqD) (λb o nb e=>?_) (λj o (M,e,h,h',h2)=>(M,e,by rw[ay h2];calc U _ _ (S _ _ h),h',h2))
   .rw[ay nD];exact af
   .rw[ay nb];exact U _ _ (S _ _ e)
 intro ys H5 l hl HY;let(A5,rfl,X4,hL5):=HY;have X5:=l;clear l hl;have fD5:R D5=none:=wa;left;calc qB (k:=Sum.inr "words") vD S5 SX X4 (by kernel_rfl) nofun λC6 WM kd5 ke5 S6=>?_;left;calc bJ ?_;left;calc cL (S6 _ _ g1) (aA (j:=0) rfl) ?_;left;calc .inl ((_,aS.of (S6 _ _ Z)),λD6 IX=>?_);calc ue (o:=.lst []) (S6 _ _ Z) IX () (λ_=>Ext.set (Ext.refl _) rfl) (λ_ _ _ r=>And.intro ∅ r) ?_;intro A6 M l sh6 hL6;have X8:=l;clear l;have fD6:C6 D6=none:=IX;left;calc qB (k:=Sum.inr "heard") vD S6 WM sh6 (by kernel_rfl) nofun λC7 Yh kd6 ke6 S7=>?_;left;calc(aam _,λpe oF=>?_);generalize aoq:upd C7 pe (.lst [])=E7 at *;let(sE7,ahP):=aaB aoq oF;have npe:pe≠d:=Ne.symm (av Yh oF);calc qB (k:=Sum.inr "events") vD S7 Yh sE7 (by kernel_rfl) nofun λGF edF kd7 l SF=>?_;have epe:=l _ _ npe ahP;have x:∀(A:Hp) (kv:List (Key×V)) (b:Addr) (vs:List V),A d=some (.dK kv)->A b=some (.lst vs)->b≠d:=λA kv b vs I W z=>by rw[z,I]at W;cases W
 have ndk:∀(A:Hp) (p:Key×V) (kv:List (Key×V)) (b:Addr),A d=some (.dK (p::kv))->A b=some (.dK [])->b≠d:=λA p kv b I W z=>by rw[z,I]at W;cases W
 have OB:∀(A:Hp) (kv:List (Key×V)) (b:Addr) (vs:List V),A d=some (.dK kv)->A b=some (.tup vs)->b≠d:=λA kv b vs I W z=>by rw[z,I]at W;cases W
 have kc7:=kd7;have kc6:∀b o,b≠d->C6 b=some o->GF b=some o:=λb o n e=>kc7 b o n (kd6 b o n e);have QF:∀b o,b≠d->R b=some o->GF b=some o:=λb o n e=>kc6 b o n (kd5 b o n e);have Ss:∀b o,b≠d->C4 b=some o->GF b=some o:=λb o n e=>QF b o n (kd4 b o n e);have Su:∀b o,b≠d->C3 b=some o->GF b=some o:=λb o n e=>Ss b o n (kd3 b o n e);have V8:∀b o,b≠d->C2 b=some o->GF b=some o:=λb o n e=>Su b o n (XS b o n e);have ab3:sW C1 C2 D1 A1 wv.length (λ_ _ o=>o=.lst []):=hL1;have MU:=eD1;have ab4:=ab3.keep (λj b o e c=>by subst c;calc(V8 b _ (x _ _ _ _ Yf e) e,rfl));have ab5:=V8 _ _ (x _ _ _ _ Yf MU) MU;have ab6:sW C2 C3 D2 A2 wv.length (λ_ _ o=>o=.lst []):=XR.keep (λj b o e c=>by subst c;calc(ke2 b _ (x _ _ _ _ (XQ _ _ Yf) e) e,rfl));have MV:=ke2 _ _ (x _ _ _ _ (XQ _ _ Yf) XT) XT;have ab7:=ab6.keep (λj b o e c=>by subst c;calc(Su b _ (x _ _ _ _ Yg e) e,rfl));have ab8:=Su _ _ (x _ _ _ _ Yg MV) MV;have ab9:sW C3 C4 D3 A3 wv.length (λ_ _ o=>o=.dK []):=hL3.keep (λj b o e c=>by subst c;calc(ke3 b _ (ndk _ _ _ _ (sh3 _ _ Yg) e) e,rfl));have MW:=ke3 _ _ (x _ _ _ _ (sh3 _ _ Yg) XX) XX;have aca:=ab9.keep (λj b o e c=>by subst c;calc(Ss b _ (ndk _ _ _ _ WK e) e,rfl));have acb:=Ss _ _ (x _ _ _ _ WK MW) MW;have acd:sW C4 R D4 A4 Y.length (λj H' o=>∃v,o=.lst [v]/\HT H' 2 v (AW (g.ms.getD j default).ns (g.ms.getD j default).row)):=hL4.keep (λj b o e c=>by
  let(v,rfl,O):=c;calc(ke4 b _ (x _ _ _ _ (X0 _ _ WK) e) e,v,rfl,O.aL (λb' xs e'=>ke4 b' _ (OB _ _ _ _ (X0 _ _ WK) e') e')))
 have MX:=ke4 _ _ (x _ _ _ _ (X0 _ _ WK) X1) X1;have ace:=acd.keep (λj b o e c=>by
  let(v,rfl,O):=c;calc(QF b _ (x _ _ _ _ SX e) e,v,rfl,O.aL (λb' xs e'=>QF b' _ (OB _ _ _ _ SX e') e')))
 have acf:=QF _ _ (x _ _ _ _ SX MX) MX;have zz:sW R C6 D5 A5 Y.length (λ_ H' o=>∃q,o=.lst [.ref q]/\H' q=some (.lst [])/\R q=none/\q≠D5):=hL5.keep (λj b o e c=>by
  let(v,rfl,O,WC,X):=c;calc(ke5 b _ (x _ _ _ _ (X4 _ _ SX) e) e,v,rfl,ke5 v _ (x _ _ _ _ (X4 _ _ SX) O) O,WC,X))
 have x9:=ke5 _ _ (x _ _ _ _ (X4 _ _ SX) X5) X5;have nn:∀{A:Hp} {b:Addr} {o:HO},A b=some o->A b≠none:=λe z=>by rw[e]at z;cases z
 have ach:sW R C6 D5 A5 Y.length (λ_ H' o=>∃q,o=.lst [.ref q]/\H' q=some (.lst [])/\R q=none/\C6 q≠none):=(zz.len,zz.nd,zz.new,λj a e=>by
  let(o,I,q,rfl,W,l,_):=zz.ins j a e;calc(_,I,q,rfl,W,l,nn W))
 have WN:=ach.keep (λj b o e c=>by
  let(v,rfl,O,WC,X):=c;calc(kc6 b _ (x _ _ _ _ WM e) e,v,rfl,kc6 v _ (x _ _ _ _ WM O) O,WC,X))
 have aci:=kc6 _ _ (x _ _ _ _ WM x9) x9;have acj:sW C6 C7 D6 A6 Y.length (λ_ _ o=>o=.lst []):=hL6.keep (λj b o e c=>by subst c;calc(ke6 b _ (x _ _ _ _ (sh6 _ _ WM) e) e,rfl));have MY:=ke6 _ _ (x _ _ _ _ (sh6 _ _ WM) X8) X8;have ack:=acj.keep (λj b o e c=>by subst c;calc(kc7 b _ (x _ _ _ _ Yh e) e,rfl));have acm:=kc7 _ _ (x _ _ _ _ Yh MY) MY;rw[lN]at ab4;rw[lN]at ab7;rw[lN]at aca;rw[nL]at ace;rw[nL]at WN;rw[nL]at ack;obtain⟨ad,V4⟩:∃ad:Nat->Nat->Addr,∀t i,ad t i=([[pe],A4,A5,A6,A1,A2,A3].getD t []).getD i 0:=(_,λ_ _=>rfl)
 have pz:∀{A B:Hp},(∀b o,b≠d->A b=some o->B b=some o)->∀{o},B d=some o->∀b,A b≠none->B b≠none:=λ{A B} h {o} e b hb=>by
  by_cases z:b=d
  .rw[z,e];exact λz=>nomatch z
  .cases I:A b with
   |none=>calc absurd I hb
   |some u=>rw[h b u z I];exact λz=>nomatch z
 have sgi:∀a<7,∀b<7,[6,3,4,5,0,1,2].getD a 7=[6,3,4,5,0,1,2].getD b 7->a=b:=∅;let(cU,Sl,hDo):=FN (F:=F) (G:=GF) (n:=g.n) (c:=(RS.new g).tv) (λt=>[C1,C2,C3,C4,R,C6,C7].getD t GF) (λt=>[6,3,4,5,0,1,2].getD t 7) _ (λt=>[d,D4,D5,D6,D1,D2,D3].getD t d) (λt=>[λ_ _ u=>u=.lst [],λj H' o=>∃v,o=.lst [v]/\HT H' 2 v (AW (g.ms.getD j default).ns (g.ms.getD j default).row),λ_ H' o=>∃q,o=.lst [.ref q]/\H' q=some (.lst [])/\R q=none/\C6 q≠none,λ_ _ o=>o=.lst [],λ_ _ o=>o=.lst [],λ_ _ o=>o=.lst []].getD t λ_ _ o=>o=.dK []) V4 (λ_=>rfl) (λt l h h'=>sgi t () l ())
  (λt=>match t with
   |0=>pz kd1 Yf
   |1=>pz XS Yg
   |2=>pz kd3 WK
   |3=>pz kd4 SX
   |4=>pz kd5 WM
   |5=>pz kd6 Yh
   |6=>pz kd7 edF
   | (t + 7)=>λb h=>h)
  (λb h=>by
   let(o,e,l):=nM b h;calc(nn (Ye _ _ e),o,SF _ _ e,l))
  (λt ht=>match t,ht with
   | 0,_=>((rfl,nofun,λa m=>by rw[List.mem_singleton.mp m];exact(oF,Ne.symm (av Yh oF)),λj a e=>by cases j with
    |zero=>cases e;calc(_,epe,rfl)
    | succ j=>cases e),λa m=>by rw[List.mem_singleton.mp m];calc nn epe,λh=>absurd h ∅)
   |1,_=>(ace,acd.some,λ_=>(fD4,nn MX))
   |2,_=>(WN,zz.some,λ_=>(fD5,nn x9))
   |3,_=>(ack,acj.some,λ_=>(fD6,nn MY))
   |4,_=>(ab4,ab3.some,λ_=>(fD1,nn MU))
   |5,_=>(ab7,ab6.some,λ_=>(fD2,nn MV))
   |6,_=>(aca,ab9.some,λ_=>(fD3,nn MW))
   | (t + 7),h=>absurd h ())
  (λt i u ht h=>by
   match t,ht,h with
   |0,_,h|3,_,h|4,_,h|5,_,h|6,_,h=>cases h;trivial
   |1,_,(_,e,_)|2,_,(_,e,_)=>cases e;trivial
   | (t + 7),h,_=>calc absurd h ())
  (λhz fo t i u ht hi e h=>by
   match t,ht,h with
   |0,_,h|3,_,h|4,_,h|5,_,h=>cases h;calc(fz.nil:fz _ 4 [] [])
   |1,_,(v,e,O)=>cases e;calc(fz.one ((Mj hz O).mono ∅):fz _ 4 [v] [_])
   |2,_,(v,e,O,WC,X)=>
    cases e;have nq:=fo 4 v WC X (λt ht es m=>by
     have:=sgi t () 2 () es;subst this;let(j,e):=acw m;let(_,I,q,rfl,_):=WN.ins j _ e;rw[O] at I;cases I)
    show fz (kg (λb=>F b\/FP g.n ad b) GF) 4 [.ref v] [.lst []];calc fz.one (.lst (by rw[iu nq];calc O) rfl (λi u e N=>by simp at N))
   |6,_,h=>
    cases h;exact(aam _,λk=>by
     have I:jq ((RS.new g).ww i).cE k=none:=by
      show jq [] k=none;unfold jq;split<;>rfl
     rw[I];calc JJ)
   | (t + 7),h,_=>calc absurd h ())
 have y:∀b,FP g.n ad b->H b=none:=λb hb=>Ye.free (Sl b hb).1;have nF:∀b,H b=none->¬F b:=λb e z=>by
  let(o,I,_):=nM b z;rw[e]at I;cases I
 have hT:cC F GF d (.ref tt) g (RS.new g) ad:=by
  refine((λt=>[d,D4,D5,D6,D1,D2,D3].getD t d,?_,nF d vD,λz=>nn ed0 (Sl d z).1,λt h1 h6=>?_),cU,(ls,hN.cv ?_),aY)
  .rw[edF,Ox,V4];rfl
  .let(k,l,r):=hDo t h1 h6;calc(?_,k,l);rw[<-r]
   match t,h1,h6 with
   |1,_,_=>calc acf
   |2,_,_=>calc aci
   |3,_,_=>calc acm
   |4,_,_=>calc ab5
   |5,_,_=>calc ab8
   |6,_,_=>calc acb
   |(t+7),_,h=>exact absurd h ()
  .intro b l e n;let(k,z2):=dX e n;rw[iu]
   .exact SF _ _ z2
   .rintro(z | z)
    .exact k z
    .rw[y b z]at z2;cases z2
 have h7F:=h7.aL SF.aR;left;refine cL (SF _ _ g1) (aA (j:=2) rfl) (.inl ((_,aS.of (SF _ _ g4)),fA (K:=K) (xs:=lv) (λi σ H'=>(∃z2 z3,σ=[some (V.ref tt),some (V.ref d),z2,z3])/\Fr (FP g.n ad) GF H'/\cC F H' d (.ref tt) g ((RS.new g).kr (ls.take i)) ad) ?_ ?_ ?_ ?_))
 .exact((_,_,rfl),Fr.refl,hT)
 .rintro i σ H' hi ⟨_,fi,_⟩;exact aS.of (fi.at (SF _ _ g4) (λz=>by rw[y _ z]at g4;cases g4))
 .intro i z σ H' hzz ahR;nofun;let((z2,z3,rfl),fi,F1):=ahR;have k:i < ls.length:=by rw[<-t9];exact(iF hzz).1
  have j:ls[i]?=some ls[i]:=cJ k;have V3:=(h7F.2 i z (qm ls[i]) hzz (by rw[K',j];rfl)).aL fi.aR;have Mo:=uy _ (aaJ k);have QB:(RS.new g).kr (ls.take (i+1))=((RS.new g).kr (ls.take i)).put ls[i].1.toNat ls[i].2 none:=by
   rw[acY,j];exact rN _
  have D8:=(uc (ls.take i) (Ea aY)).mono (show _<=19998 by simp;lia);generalize ls[i]=p at *;let(L,px):=p;let(tz,u1,u2,kz,rfl,II,y1,y2):=dP V3;obtain rfl:=y1.cF;obtain rfl:=y2.cF;have j:=Mo.1;have k:=Mo.2;simp only at j k;have ej:((L.toNat:Nat):Int)=L:=abX j;have ub:L.toNat<g.ws.length:=();generalize hri:(RS.new g).kr (ls.take i)=ri at *;ac_rfl;calc vf (bI.of II) ?_;nofun;let(l,hdi,k,nPi,j):=F1.dk;have oi4:=j 4 ∅ ∅;have oi5:=j 5 ∅ ∅;have bi:=F1.cU;let(w4,x4,j):=bi.lst (t:=4) (i:=L.toNat) ub rfl;ac_rfl;have k:w4.length=(ri.ww L.toNat).say.length:=(j.1:)
  have j:=D8.bs _ ub;have j:=D8.ls _ ub;left;calc bN _ (My hdi) ?_;left;have ra:hV (jB g.n ad 4) L=some (.ref (ad 4 L.toNat)):=by have:=bz (n:=g.n) (ad:=ad) (t:=4) ub;rw[ej]at this;exact this
  have rb:hV (jB g.n ad 5) L=some (.ref (ad 5 L.toNat)):=by have:=bz (n:=g.n) (ad:=ad) (t:=5) ub;rw[ej]at this;exact this
  calc bH oi4.1 ra ?_;calc(.inl (rfl,_,aS.of x4),?_);left;calc iy w4 x4 (small ()) ?_;have bj:=bi.app (t:=4) (i:=L.toNat) ub rfl x4 (fz.one (.int px));have fj:Fr (FP g.n ad) H' (upd H' (ad 4 L.toNat) (.lst (w4++[.int px]))):=Fr.refl.upd (4,L.toNat,ub,rfl) x4 trivial;generalize hGj:upd H' (ad 4 L.toNat) (.lst (w4++[.int px]))=Hj at *;let(w5,x5,j):=bj.lst (t:=5) (i:=L.toNat) ub rfl;have k:w5.length=(ri.ww L.toNat).snd.length:=(j.1:)
  left;calc bN _ (Mz (fj.at hdi nPi)) ?_;left;calc bH (fj.at oi5.1 oi5.2.2) rb ?_;calc(.inl (rfl,_,aS.of x5),?_);left;calc iy w5 x5 (small ()) ?_;have bk:=bj.app (t:=5) (i:=L.toNat) ub rfl x5 (fz.one (show HD _ 4 .bL (nQ none) from .bL));have fk:Fr (FP g.n ad) H' (upd Hj (ad 5 L.toNat) (.lst (w5++[.bL]))):=fj.upd (5,L.toNat,ub,rfl) x5 trivial;left;calc ie (_,_,rfl,rfl) (fi.trans fk) ?_;rw[QB];exact F1.own fk (bk.congr MN)
 .intro σ H' ahT;let((z2,z3,rfl),fi,F1):=ahT;left;rw[t9,aaP]at F1;calc q d ad H' (λb o e=>?_) y vD F1;calc fi.at (SF _ _ e) (λz=>by rw[y b z]at e;cases e)
noncomputable def jG(nt:NT)(r:RS)(s:jr):RS:=s.foldl (λr p=>r.pick nt p.1.toNat p.2.toNat) r
def vS(nt:NT)(r:RS)(s:jr):Prop:=∀(i:Nat) p,s[i]?=some p->∃w k:Nat,p=(((w:Int)),(k:Int))/\(jG nt r (s.take i)).Qw nt w k
theorem kX{w k:Nat}:jG nt r (s++[(((w:Int)),(k:Int))])=(jG nt r s).pick nt w k:=by
 unfold jG;rw[List.foldl_append];rfl
theorem MZ:vS nt r []:=λi p e=>by simp at e
theorem Im{w:Nat}(h:vS nt r s)(b:(jG nt r s).Qw nt w k):vS nt r (s++[(((w:Int)),(k:Int))]):=λi p e=>by
 by_cases c:i<s.length
 .rw[aag c]at e;rw[ac5 ()];exact h i p e
 .have a:i=s.length:=by
   have:=(iF e).1;simp at this;lia
  subst a;rw[aad (S' _),Nat.sub_self]at e;obtain rfl:=Option.some.inj e;calc(w,k,rfl,by rw[List.take_left];calc b)
theorem yf{p:Int×Int}(h:vS nt r (s++[p])):vS nt r s/\∃w k:Nat,p=(((w:Int)),(k:Int))/\(jG nt r s).Qw nt w k:=by
 refine(λi q e=>?_,?_)
 .have a:=(iF e).1;have:=h i q (by rw[aag a];calc e);rw[ac5 ()]at this;exact this
 .have:=h s.length p (by rw[aad (S' _),Nat.sub_self];rfl);rw[List.take_left]at this;calc this
theorem uf(d:nt.Ok)(h:r.Ok nt)(e:r.picks=[]):∀n (s:jr),s.length=n->vS nt r s->(jG nt r s).Ok nt/\(jG nt r s).picks=s
 |0,s,c,_=>by
  have:s=[]:=List.length_eq_zero_iff.mp c;subst this;calc(h,e)
 |n+1,s,c,g=>by
  rcases List.eq_nil_or_concat s with rfl|⟨i,p,f⟩
  .simp at c
  rw[List.concat_eq_append]at f;subst f;let(j,w,k,rfl,l):=yf g;let(a,b):=uf d h e n i (c:) j;rw[kX];have:=RS.Ok.pick d a (k:=k) l.lt;rw[b]at this;calc this
theorem take_snoc{p:Int×Int}(e:s[i]?=some p):s.take (i+1)=s.take i++[p]:=by rw[acF,e];rfl
abbrev kY:Stmt:=top 72
inductive M0(C CN CR:Addr)(vs:List V)(H:Hp)(Q:VK):Prop
 |mk (F:Addr->Prop) (bo l:Addr) (nt:NT) (ls:jr) (ms:List Addr) (wv lv ys:List V) (s:jr) (h0:vs=[.ref bo,.ref l]) (h2:vE C CN H bo nt) (h3:ml CN H bo ms wv lv) (h4:fK H 1 lv (ls.map qm)) (h5:ls.length<=20) (h6:∀l∈ls,0<=l.1/\l.1<nt.ws.length) (hl:H l=some (.lst ys)) (hs:fK H 1 ys (s.map pairD)) (hn:s.length<=100) (hF:FS F H) (hc:vS nt (RS.begin nt ls) s) (q:∀x ad H',au H H'->H x=none->(∀b,FP nt.n ad b->H b=none)->bS C CN CR F H' x bo nt (jG nt (RS.begin nt ls) s) ad->Q (.ref x) H'):M0 C CN CR vs H Q
def F3(C CN CR:Addr):Sp:=λvs H Q _=>M0 C CN CR vs H Q
theorem yg(h:vS nt r s)(n:Nat):vS nt r (s.take n):=λi p e=>by
 have a:=(iF e).1;rw[aa1]at a;rw[List.getElem?_take,if_pos ()]at e;rw[List.take_take,Nat.min_eq_left ()];calc h i p e
theorem zH(D:cG K mg "played_run" "played_run" kY ["net","schedule"])(T:Tx K mg C CN CR F FD)(R:cn P w K mg base CR "pick_at" 6 ah (zu C CN CR))(yh:yV P w K mg base "Run" CR 2 ["self","net"] (zy C CN CR)):Def P w K mg base "played_run" 7 ["net","schedule"] (F3 C CN CR):=by
 exists["net","schedule","run","at","way","number"];let(F,bo,l,c,ls,ms,wv,lv,ys,s,rfl,G,Yi,Yj,J,uy,r,L,d,M,N,q):=h;have d:=hr.units;refine(_,(ai (bf (i:=2) sc rfl Sort (EU yh hr (ag (aq 0) aa)))
  (ai (cZ PassesOwn.never rfl (iL rfl T.de (ag (aq 1) aa)) (CH rfl (iR (aT (i:=3) sc rfl Sort) (iR (fb (i:=4) (j:=5) rfl sc rfl rfl Sort Sort) yw)))
  (ak (bX (eR R T.ba hr (aq 2) (ag (aq 4) (ag (aq 5) (ag (aq 3) aa)))))))
  (ak (aG (aq 2))))),?_)
 have F4:=G.ok;let(Q7,Qz):=kC F4 J;calc L2.bq λd h1=>?_;left;intro p d O R T;have g:au H (upd (upd H d (.own p)) p (.ins CR d [])):=λb o e=>by rw[ay (av e O),ay (av e R)];exact e
 calc(F,p,d,bo,c,ls,ms,wv,lv,rfl,af,G.fr (Z:=λ_=>False) g.fr,Yi.same g,Yj.aL g.aR,J,uy,M.fr (Z:=λ_=>False) g.fr (λ_ _ h=>h),λad H3 k0 f0 S=>?_);have u:au H H3:=λb o e=>k0 b o (av e O) (g _ _ e);have a:∀b,FP c.n ad b->H b=none:=λb hb=>by
  cases e:H b with
  |none=>rfl
  |some o=>
   have:=f0 b hb;rw[g _ _ e]at this;cases this
 clear k0 f0 g;calc(rfl,L2.bc h1 ?_);clear h1;left;have wd:ys.length=s.length:=(L.1:)
 refine(true,ys,Sq.l (u _ _ r),kn (xs:=ys) (λi σ H'=>(∃U W X,σ=[some (V.ref bo),some (V.ref l),some (V.ref p),U,W,X])/\Fr (FP c.n ad) H3 H'/\bS C CN CR F H' p bo c (jG c (RS.begin c ls) (s.take i)) ad) ?_ ?_ ?_ ?_)
 .exact((_,_,_,rfl),Fr.refl,S)
 .rintro i σ H' ⟨_,m,_⟩;exact Sq.l (m.at (u _ _ r) (λz=>by rw[a _ z]at r;cases r))
 .intro i t σ H' B hx iz QU;nofun;let((U,W,X,rfl),m,v):=iz;have d:i < s.length:=by rw[<-wd];exact(iF hx).1
  have I:s[i]?=some s[i]:=cJ d;generalize LP:upd H' B (.tup [.int (i:Nat),t])=G2 at *;let(x,Ww):=aaB LP QU;have y:=(((L.2 i t (pairD s[i]) hx (by rw[K',I];rfl)).aL u.aR).aL m.aR).aL x.aR;let(wy,k,ep,hc):=N i _ I;rw[ep]at y I;let(ta,u1,u2,kk,rfl,tJ,y1,y2):=dP y;obtain rfl:=y1.cF;obtain rfl:=y2.cF;ac_rfl;calc(B,_,rfl,bI.of Ww,rfl,_,_,rfl,_,_,rfl,(ta,_,rfl,bI.of tJ,rfl,_,_,rfl,_,_,rfl,rfl,rfl,?_));left;nofun;let(d,g,AK,l):=v.ins;let(Y,ahX):=uf F4 Q7 Qz _ _ rfl (yg N i);ac_rfl;have DW:∀{G:Hp},au G2 G->au H G:=λd b o e=>d _ _ (x _ _ (m.at (u _ _ e) (λz=>by rw[a _ z]at e;cases e)));calc ic (x _ _ AK) (eB ⋯) ?_;calc(F,p,bo,c,_,ad,wy,k,.int (i:Nat),rfl,v.same x,M.fr (Z:=λ_=>False) (DW (au.refl _)).fr (λ_ _ h=>h),Y,hc,by rw[ahX,aa1];lia,λt d f c g=>?_);calc((_,_,_,rfl,rfl,rfl),(m.trans x.fr).trans f,?_);rw[take_snoc I,kX];exact c
 .intro σ H' iY;let((U,W,X,rfl),m,v):=iY;rw[wd,aaP]at v;left;calc q _ _ _ (λb o e=>m.at (u _ _ e) (λz=>by rw[a _ z]at e;cases e)) O a v
theorem F5(h:fz H n vs (s.map pairD)):fK H 1 vs (s.map pairD):=(h.1,λi v d b a=>by
 rw[K'] at a;let(p,c,rfl):=jb a;calc FJ (e:=some p) (h.2 i v _ b (by rw[K',c];rfl)))
theorem S0(e:H a=some (.dT aU)):tyV K "dict" (.ref a) H:=.inr (.inr (.inl (rfl,.inr (_,e))))
theorem Eh:2<=sizeLine:=by rw[abb];lia
def fY(H:Hp)(aU:List (List Key×V))(D:List (Ev×List Int)):Prop:=Paired (λ(q:List Key×V) (x:Ev×List Int)=>q.1=kE x.1/\∃b,q.2=.ref b/\H b=some (.tup (x.2.map V.int))) aU D
theorem fY.same{D:List (Ev×List Int)}(h:fY H aU D)(s:au H H'):fY H' aU D:=Paired.Jb h λ_ _ z=>(z.1,let ⟨b,e,f⟩:=z.2;(b,e,s _ _ f))
theorem fY.keys{D:List (Ev×List Int)}(h:fY H aU D):aU.map (·.1)=D.map λx=>kE x.1:=by
 induction h with
 |nil=>rfl
 |cons h _ a=>rw[abx,abx,a,h.1]
theorem fY.val{D:List (Ev×List Int)}(h:fY H aU D)(p:Ev):(bW D p=none/\fN aU (kE p)=none)\/∃R b,bW D p=some R/\fN aU (kE p)=some (.ref b)/\H b=some (.tup (R.map V.int)):=by
 induction h with
 |nil=>calc .inl (rfl,rfl)
 | @cons q x c a h _ d=>
  let(c,b,g,i):=h;by_cases e:x.1=p
  .exact .inr (x.2,b,by simp[bW,List.find?_cons,e],by rw[eP (c.trans (by rw[e])),g],i)
  .have g:bW (x::a) p=bW a p:=by simp[bW,List.find?_cons,e]
   rw[g,eQ (λz=>e (Vt (c.symm.trans z)))];calc d
theorem F6{D:List (Ev×List Int)}(h:fY H aU D)(e:H a=some (.tup ((List.replicate n 0).map V.int)))(p:Ev):∃b,(fN aU (kE p)).getD (.ref a)=.ref b/\H b=some (.tup ((gD n D (some p)).map V.int)):=by
 rcases h.val p with⟨c,d⟩|⟨R,b,c,d,f⟩
 .exact(a,by rw[d];rfl,by rw[show gD n D (some p)=List.replicate n 0 by simp[gD,c]];calc e)
 .calc(b,by rw[d];rfl,by rw[show gD n D (some p)=R by simp[gD,c]];calc f)
theorem Io{D:List (Ev×List Int)}(h:fY H aU D)(g:∀p∈D.map (·.1),p∈vh){d c:Addr}(f:H d=some (.tup ((List.replicate n 0).map V.int)))(i:H c=some (.dT aU)){s:Option Ev}(j:HT H 1 v (nQ s))(q:∀b,H b=some (.tup ((gD n D s).map V.int))->Q (.ref b) H):RY (.ref c) [v,.ref d] H Q:=by
 cases s with
 |none=>
  have:v=.bL:=by cases(show HT H 1 v .bL from j);rfl
  subst this;calc(c,_,_,none,rfl,rfl,.inr (rfl,rfl,aU,.inl i,λp l=>?_),q d f);have:p.1∈aU.map (·.1):=List.mem_map.mpr (p,l,rfl);rw[h.keys]at this;let(y,d,e):=List.mem_map.mp this;calc(Lj y.1,by rw[<-e];calc P0 _,PZ _ (g _ (List.mem_map.mpr (y,d,rfl))))
 |some p=>
  let(a,rfl,d):=nZ (show HT H 1 v (pairD p) from j);let(b,g,l):=F6 h f p;calc Vl c _ _ _ rfl rfl (.inl (.t (k:=kE p) i d)) ?_;rw[g];calc q b l
theorem B9(h:dQ n L)(o:Option Ev):(gD n (bG n L) o).length=n:=(Ly h o).1
theorem fY.put{D:List (Ev×List Int)}(h:fY H aU D){p:Ev}(a:p∉D.map (·.1)){R:List Int}(e:H b=some (.tup (R.map V.int))):fY H (putK aU (kE p) (.ref b)) (D++[((p),R)]):=by
 have:¬(aU.any λc=>decide (c.1=kE p))=true:=by
  rw[iT];rcases h.val p with⟨_,z⟩|⟨c,d,z,_⟩
  .rw[z];exact X'
  .rw[gI a]at z;cases z
 unfold putK;rw[if_neg this];calc Paired.snoc h (rfl,b,rfl,e)
abbrev mK:Stmt:=top 35
inductive F7(C CN CR:Addr)(vs:List V)(H:Hp)(Q:VK):Prop
 |mk (F:Addr->Prop) (x bo:Addr) (nt:NT) (r:RS) (ad:js) (L:Lg) (h0:vs=[.ref x]) (h1:bS C CN CR F H x bo nt r ad) (h2:r.Ok nt) (h3:r.Lk nt L) (h4:L.length<=40) (q:∀a aU H',au H H'->H' a=some (.dT aU)->fY H' aU (bG nt.ms.length L)->Q (.ref a) H'):F7 C CN CR vs H Q
def Ca(C CN CR:Addr):Sp:=λvs H Q _=>F7 C CN CR vs H Q
theorem Cb(D:cG K mg "all_heard" "all_heard" mK ["run"])(T:Tx K mg C CN CR F FD)(bx:cn P w K mg base CN "machines" 1 b0 (fI CN))(dG:cn P w K mg base CR "net" 1 b0 (qv C CN CR))(eC:cn P w K mg base CR "schedule" 1 b0 (DZ C CN CR))(eX:cn P w K mg base CR "sent_by" 5 a0 (vO C CN CR))(dF:cn P w K mg base CR "worked_by" 5 a0 (zw C CN CR)):Def P w K mg base "all_heard" 6 ["run"] (Ca C CN CR):=by
 exists["run","noughts","heard","way","number","m","c","before","sender","counts"];let(F,x,bo,a,r,ad,L,rfl,X,cH,og,o8,q):=h;have hu:=hr.units;have Bx:=Xw hu;refine(_,(ai (bf (i:=1) sc rfl Sort (dz bU rfl T.b8 sM (ag (dy (N':=hQ) (ix:=[none]) (bR (dW bx T.cT hr (dW dG T.ba hr (aq 0)))) (λ_ _ _ _=>(aT (i:=0) (iw hQ) rfl Sort)) nJ (λ_ _ _ _=>aj)) aa)))
  (ai (bf (i:=2) sc rfl Sort (JT))
  (ai (cZ PassesOwn.never rfl (bR (dW eC T.ba hr (aq 0))) (fb (i:=3) (j:=4) rfl sc rfl rfl Sort Sort)
  (ai (dS (eR dF T.ba hr (aq 0) (ag (aq 3) (ag (aq 4) aa))) (fb (i:=5) (j:=6) rfl sc rfl rfl Sort Sort))
  (ai (bf (i:=7) sc rfl Sort (dw PySem.F.plainAttrs_dict Ts PySem.F.type_dict_get (Bj Bx) (aq 2) (ag (bD (ag (aq 5) (ag (aZ dR (aq 6) aj) aa))) (ag (aq 1) aa))))
  (ai (bf (i:=8) sc rfl Sort (dw PySem.F.plainAttrs_dict Ts PySem.F.type_dict_get (Bj Bx) (aq 2) (ag (eR eX T.ba hr (aq 0) (ag (aq 3) (ag (aq 4) aa))) (ag (aq 1) aa))))
  (ai (fC (i:=9) sc rfl Sort (N':=["one","other"]) (ix:=[none,none]) (yT rfl T.Bs (ag (aq 7) (ag (aq 8) aa))) (λ_ _ _ _=>(jy (K:=K) rfl (i:=0) (j:=1) rfl (iw ["one","other"]) rfl rfl Sort Sort)) nJ (λ_ _ _ _=>(aX (qR rfl) rfl T.Ff PyProof.Rows.boot_max (ag (aq 0) (ag (aq 1) aa)))))
  (ai (dS (aq 6) (iS (aq 9) (aq 5) dU))
  (ak (kJ Bx (aq 2) (bD (ag (aq 5) (ag (aq 6) aa))) (dz bU rfl T.b8 sM (ag (aq 9) aa)) rfl))))))))
  (ak (aG (aq 2)))))),?_)
 nofun;let(dx,o,hx,T):=X.ins;let((ms,wv,lv,hf,nL,T,Me),aY):=X.Mb;ac_rfl;have T:=aY.K4;calc L2.bq λT h1=>?_;right;calc bJ ?_;right;calc(x,dx,_,rfl,hx,eB ⋯,F,x,bo,a,r,ad,rfl,X,?_);have T:=hf;let(WQ,_,_,_,S8,_):=T;calc(bo,WQ,_,rfl,S8,by rfl,bo,ms,wv,lv,rfl,hf,λl hl=>?_);generalize hG:upd H l (.lst (ms.map V.ref))=G at *;let(N,el):=aaB hG hl;calc .inl ((_,aS.of el),λD hD=>?_);refine bu (J:=xf K l) (n:=ms.length) (λi ys H'=>au G H'/\ys=List.replicate i (.int 0)) (T' (aD ())) (au.new _ hD,rfl) ?_ ?_ ?_ ?_
 .rintro i ys H' Y ⟨I,_⟩;exact(_,_,aS.of (I _ _ el),by rw[K',cJ Y];rfl)
 .rintro ys H' ⟨I,_⟩;exact(_,aS.of (I _ _ el),nofun)
 .intro i ys H' Y R hl iz xx H4 iY;nofun;let(I,rfl):=iz;let(rfl,y):=iY;ac_rfl;calc(Ext.set (Ext.refl _) rfl,?_);right
  try rw[if_pos trivial]
  calc b4 R hl Y (T' (aD ())) (λc o e=>by rw[ay (av e hD)];calc I _ _ e,?_);exact List.replicate_succ'.symm
 rintro ys H1 R wd ⟨I,rfl⟩;rw[nL]at R;calc .inl (_,aS.of R,λnz T=>?_);have t2:=au.new (.tup (List.replicate a.ms.length (.int 0))) T;have enz:upd H1 nz (.tup (List.replicate a.ms.length (.int 0))) nz=some (.tup ((List.replicate a.ms.length 0).map V.int)):=by rw[List.map_replicate];exact af
 have Z:au H (upd H1 nz (.tup (List.replicate a.ms.length (.int 0)))):=N.trans (I.trans t2);generalize LP:upd H1 nz (.tup (List.replicate a.ms.length (.int 0)))=G2 at *;calc L2.bc h1 ?_;clear h1 I t2 R wd;right;intro M hhd;have t3:=au.new (.dT []) hhd;have ehd:upd G2 M (.dT []) M=some (.dT []):=af;have s3:au H (upd G2 M (.dT [])):=Z.trans t3;have T:H M=none:=Z.free hhd;have acr:=t3 _ _ enz;generalize hG3:upd G2 M (.dT [])=G3 at *;right;calc(x,dx,_,rfl,s3 _ _ hx,eB ⋯,F,x,bo,a,r,ad,rfl,X.same s3,λls vs T SA=>?_);have t4:=au.new (.lst vs) T;have QJ:upd G3 ls (.lst vs) ls=some (.lst vs):=af;have T:au H (upd G3 ls (.lst vs)):=s3.trans t4;have acs:=t4 _ _ ehd;have T:=t4 _ _ acr;have nls:ls≠M:=sO QJ acs (λz=>nomatch z);have acu:=(F5 SA).aL t4.aR;have t24:au G2 (upd G3 ls (.lst vs)):=t3.trans t4;have hR2:=X.same Z;generalize hG4:upd G3 ls (.lst vs)=G4 at *;clear t3 t4 acr ehd s3 SA X;have Cw:vs.length=r.picks.length:=(acu.1:)
 refine .inl ((_,aS.of QJ),fA (K:=K) (xs:=vs) (λi σ H'=>(∃z3 z4 z5 z6 z7 z8 z9,σ=[some (V.ref x),some (V.ref nz),some (V.ref M),z3,z4,z5,z6,z7,z8,z9])/\au G2 H'/\H' ls=some (.lst vs)/\fK H' 1 vs (r.picks.map pairD)/\∃aU,H' M=some (.dT aU)/\fY H' aU (bG a.ms.length (L.take i))) ?_ ?_ ?_ ?_)
 .exact((_,_,_,_,_,_,_,rfl),t24,QJ,acu,[],acs,Paired.nil)
 .rintro i σ H' Y ⟨_,_,fi,_⟩;exact aS.of fi
 .intro i z σ H' hz qk;nofun;let((z3,z4,z5,z6,z7,z8,z9,rfl),fi,acv,WR,aU,O,sZ):=qk;have wF:i < r.picks.length:=by rw[<-Cw];exact(iF hz).1
  let(wy,k,e,s,ep,eL,ew,es,hw):=og.at i _ (cJ wF);have hzp:=WR.2 i z (pairD r.picks[i]) hz (by rw[K',cJ wF];rfl);rw[ep]at hzp;let(ta,rfl,T):=nZ hzp;ac_rfl;calc vf (bI.of T) ?_;have tL:=hR2.same fi;let(vd,T,AK,X):=tL.ins;have uS:k<(r.ww wy).say.length:=by rw[cH.lk wy hw];exact(iF ew).1
  right;calc(x,vd,_,rfl,AK,eB ⋯,_,x,bo,a,r,ad,wy,k,rfl,tL,cH,hw,uS,λv hv=>?_);nofun;rw[getD_at ew]at hv;let(te,rfl,T):=nZ hv;let(m,g):=e;ac_rfl;calc vf (bI.of T) ?_;calc L2.bq λX h2=>?_;right;calc ie (S0 O) Eh (λI T=>?_);have u1:=au.new (.tup [.int m,.int (g-1)]) T;have et1:upd H' I (.tup [.int m,.int (g-1)]) I=some (.tup ((kE ((m),g-1)).map kV)):=af;have acx:=u1 _ _ (fi _ _ enz);have M1:=sZ.same u1;have Q8:=u1 _ _ O;generalize hJ1:upd H' I (.tup [.int m,.int (g-1)])=J1 at *;let(b1,T,S):=F6 M1 acx ((m),g-1);calc Vl M _ _ _ rfl rfl (.inl (.t Q8 et1)) ?_;rw[T];calc L2.bc h2 ?_;clear h2;calc L2.bq λI h3=>?_;right;have T:=tL.same u1;have hLi:L.take (i+1)=L.take i++[((((m),g)),s)]:=by rw[acF,eL];rfl
  have I:=og.good.take (i+1);rw[hLi]at I;let(U,X,Of,_,ahZ,L7):=I.inv;have zW:=nI U;have hD:∀p∈(bG a.ms.length (L.take i)).map (·.1),p∈vh:=λp I=>by
   rw[zW]at I;exact U.evs aY.K4 (aaL (by rw[aa1];lia) o8) I
  calc(S0 Q8,x,vd,_,rfl,u1 _ _ AK,eB ⋯,_,x,bo,a,r,ad,wy,k,rfl,T,cH,hw,uS,λv hv=>?_);nofun;ac_rfl;rw[getD_at es]at hv;calc Io M1 hD acx Q8 hv λb2 W=>?_;calc L2.bc h3 ?_;clear h3 hv;calc L2.bq λr h4=>?_;right;calc bJ ?_;right;calc fQ false false _ _ (Sq.t S) (Sq.t W) (λD3 x8=>?_);have r:(gD a.ms.length (bG a.ms.length (L.take i)) (some ((m),g-1))).length=a.ms.length:=B9 U _;have r:(gD a.ms.length (bG a.ms.length (L.take i)) s).length=a.ms.length:=B9 U _;have ehr:vi a.ms.length (bG a.ms.length (L.take i)) ((((m),g)),s)=(List.zipWith max (gD a.ms.length (bG a.ms.length (L.take i)) (some ((m),g-1))) (gD a.ms.length (bG a.ms.length (L.take i)) s)).set m.toNat g:=rfl;generalize gD a.ms.length (bG a.ms.length (L.take i)) (some ((m),g-1))=u at *;generalize gD a.ms.length (bG a.ms.length (L.take i)) s=B at *;refine bu (J:=Xt false false K b1 b2) (n:=a.ms.length) (λi ys H'=>au J1 H'/\ys=((List.zipWith max u B).take i).map V.int) (T' (aD ())) (au.new _ x8,rfl) ?_ ?_ ?_ ?_
  .rintro i ys H' Y ⟨N,_⟩;exact(_,_,_,_,Sq.t (N _ _ S),Sq.t (N _ _ W),by rw[K',aP (d:=0) ()];rfl,by rw[K',aP (d:=0) ()];rfl)
  .rintro ys H' ⟨N,_⟩;exact(_,_,Sq.t (N _ _ S),Sq.t (N _ _ W),.inl (by simp;lia))
  .intro i ys H' Y R hl zg xx H4' zh;nofun;let(N,rfl):=zg;let(t',IY,rfl,y):=zh;let(x1,x2,SV,SW,rfl):=y _ _ (Sq.t (N _ _ S)) (Sq.t (N _ _ W));rw[K',aP (d:=0) ()] at SV SW;obtain rfl:=Option.some.inj SV;obtain rfl:=Option.some.inj SW;ac_rfl;have Z:=au.new (.tup [.int (u.getD i 0),.int (B.getD i 0)]) IY;have qG:upd H' t' (.tup [.int (u.getD i 0),.int (B.getD i 0)]) t'=some (.tup [.int (u.getD i 0),.int (B.getD i 0)]):=af;calc vf (bI.of qG) (Ext.set (Ext.set (Ext.refl _) rfl) rfl,?_);right
   try rw[if_pos trivial]
   calc b4 (Z _ _ R) hl Y (T' (aD ())) (λc o e=>by rw[ay (av e x8)];calc Z _ _ (N _ _ e),?_);rw[acY,List.getElem?_zipWith,aP (l:=u) (d:=0) (),aP (l:=B) (d:=0) (),aah];show _++[V.int (if B.getD i 0 > u.getD i 0 then B.getD i 0 else u.getD i 0)]=_++[V.int (max (u.getD i 0) (B.getD i 0))]
   congr 3;split<;>lia
  rintro ys H9 R wd ⟨s9,rfl⟩;rw[abR (by simp;lia)]at R;calc L2.bc h4 ?_;clear h4 wd;right;have l:=s9 _ _ Q8;have l:m.toNat<a.ms.length:=();calc(_,m.toNat,R,by rw[show m=((m.toNat:Nat):Int) by lia];calc mq (by simp;lia),.inl (_,aS.of af,λtv htv=>(Eh,λtk Xj=>?_)));have w2:au J1 (upd H9 D3 (.lst (((List.zipWith max u B).map V.int).set m.toNat (.int g)))):=λb o e=>by rw[ay (av e x8)];exact s9 _ _ e
  generalize hJ2:upd H9 D3 (.lst (((List.zipWith max u B).map V.int).set m.toNat (.int g)))=J2 at *;have w3:=au.new (.tup (((List.zipWith max u B).map V.int).set m.toNat (.int g))) htv;have etv:upd J2 tv (.tup (((List.zipWith max u B).map V.int).set m.toNat (.int g))) tv=some (.tup ((vi a.ms.length (bG a.ms.length (L.take i)) ((((m),g)),s)).map V.int)):=by rw[af,ehr,List.map_set]
  generalize hJ3:upd J2 tv (.tup (((List.zipWith max u B).map V.int).set m.toNat (.int g)))=J3 at *;have w4:=au.new (.tup [.int m,.int g]) Xj;have etk:upd J3 tk (.tup [.int m,.int g]) tk=some (.tup ((kE ((m),g)).map kV)):=af;have acz:=w4 _ _ etv;have Yk:au H' (upd J3 tk (.tup [.int m,.int g])):=u1.trans (w2.trans (w3.trans w4));generalize hJ4:upd J3 tk (.tup [.int m,.int g])=J4 at *;have a:=Yk _ _ O;have i:∀b o,G2 b=some o->b≠M:=λb o e=>av e hhd;have l:aU.length<sizeLine:=by
   have r:=Paired.length sZ;have r:=congrArg List.length zW;rw[V',V',aa1]at r;rw[abb];lia
  refine(M,_,rfl,wq.t (k:=kE ((m),g)) (v:=.ref tv) a etk l,(_,_,_,_,_,_,_,rfl,rfl,rfl,rfl,rfl,rfl,rfl),λb o e=>?_,?_,?_,_,af,?_)
  .rw[ay (i b o e)];exact Yk _ _ (fi _ _ e)
  .rw[ay nls];exact Yk _ _ acv
  .exact WR.aL λb ys e=>by rw[ay (sO (Yk _ _ e) a (λz=>nomatch z))];exact Yk _ _ e
  .rw[hLi,fV];calc fY.put ?_ (by rw[zW];calc ahZ) (by rw[ay (sO acz a (λz=>nomatch z))];calc acz);exact Paired.Jb (sZ.same Yk) λq y z=>(z.1,let ⟨b,e,f⟩:=z.2;(b,e,by rw[ay (sO f a (λz=>nomatch z))];calc f))
 .intro σ H' zi;let((z3,z4,z5,z6,z7,z8,z9,rfl),fi,acv,WR,aU,O,sZ):=zi;right;rw[Cw,<-og.len,aaP]at sZ;calc q M aU H' (Z.trans fi) O sZ
noncomputable def okC(r:RS)(cut:List Int)(m:Nat):Bool:=decide (0<=cut.getD m 0/\cut.getD m 0<((r.mm m).fH.length:Nat))
noncomputable def Cc(nt:NT)(r:RS)(cut:List Int):Bool:=cut.length==nt.ms.length&&(List.range nt.ms.length).all (okC r cut)
theorem Cd:Cc nt r cut=true↔sX nt r cut:=by
 unfold Cc;rw[aa4,List.all_eq_true,beq_iff_eq];constructor
 .rintro⟨a,b⟩;have d:=λm (c:m<nt.ms.length)=>aaU (b m (List.mem_range.mpr c));exact(a,λm c=>(d m c).1,λm c=>(d m c).2)
 .calc λh=>(h.len,λm c=>aaC (h.pos m (List.mem_range.mp c),h.top m (List.mem_range.mp c)))
theorem WT(h:¬sX nt r cut):Cc nt r cut=false:=Bool.eq_false_iff.mpr λz=>h (Cd.mp z)
theorem WU{f:Nat->Bool}{l:List Nat}:(l.map f).all id=l.all f:=by rw[List.all_map];rfl
def Ei(nt:NT)(r:RS)(m c:Int):Prop:=0<=m/\m<nt.ms.length/\1<=c/\c<((r.mm m.toNat).fH.length:Nat)
abbrev vT:Stmt:=top 27
def M3(C CN CR:Addr):Sp:=λvs H Q _=>∃(F:Addr->Prop) (x bo:Addr) (nt:NT) (r:RS) (ad:js) (t:Addr) (cut:List Int),vs=[.ref x,.ref t]/\bS C CN CR F H x bo nt r ad/\r.Ok nt/\H t=some (.tup (cut.map V.int))/\∀H',au H H'->Q (.bl (Cc nt r cut)) H'
theorem M4(D:cG K mg "is_cut" "is_cut" vT ih)(T:Tx K mg C CN CR F FD)(aJ:Def P w K mg base "is_within" 2 bh cf)(bx:cn P w K mg base CN "machines" 1 b0 (fI CN))(dN:cn P w K mg base CR "count" 4 bQ (zt C CN CR))(dG:cn P w K mg base CR "net" 1 b0 (qv C CN CR)):Def P w K mg base "is_cut" 5 ih (M3 C CN CR):=by
 exists ih;let(F,x,bo,a,r,ad,t,cut,rfl,g,cH,k,q):=h;have hu:=hr.units;refine(_,(ai (aW (PW.pt (pw_or (bY (bA (aX dJ rfl T.bb ug (ag (aq 1) (ag (cV (v:=.ty "tuple") rfl T.b8 sM rfl) aa))))) (pw_or1 (aC (fT hu) (aX aM rfl T.bO Y' (ag (aq 1) aa)) (aX aM rfl T.bO Y' (ag (dW bx T.cT hr (dW dG T.ba hr (aq 0))) aa)) (aI _))))) (ak (aG gp)) aK)
  (ak (aG (aX (iO rfl) rfl T.vk Gk (ag (dy (N':=["m","c","run"]) (ix:=[none,none,some 0]) (iL rfl T.de (ag (aq 1) aa)) (λ_ _ _ _=>(jy (K:=K) rfl (i:=0) (j:=1) rfl (iw ["m","c","run"]) rfl rfl Sort Sort)) nJ (λ_ _ _ _=>(aN aJ hr (ag (aq 1) (ag aj (ag (aZ cB (eR dN T.ba hr (aq 2) (ag (aq 0) aa)) aj) aa)))))) aa))))),?_)
 nofun;let(dx,o,O,ho):=g.ins;let((ms,wv,lv,p,nL,zo,Me),T):=g.Mb;ac_rfl;have h5:=T.K4;by_cases I:cut.length=a.ms.length
 rotate_left
 .right;calc d7 _ true (.tup k) rfl ?_;rw[if_neg ∅];calc bN _ (.inr (_,bI.of k,rfl)) ?_;calc(x,dx,_,rfl,O,eB ⋯,F,x,bo,a,r,ad,rfl,g,?_);have R:=p;let(S,_,_,_,L,_):=R;calc(bo,S,_,rfl,L,by rfl,bo,ms,wv,lv,rfl,p,λl m=>?_);have u:=au.new (.lst (ms.map V.ref)) m;have M:upd H l (.lst (ms.map V.ref)) l=some (.lst (ms.map V.ref)):=af;calc bN _ (.inl (_,aS.of M,rfl)) ?_;rw[if_pos (by rw[V',V',nL];simp;lia)];right;rw[show Cc a r cut=false by unfold Cc;rw[show(cut.length==a.ms.length)=false from beq_eq_false_iff_ne.mpr I];rfl]at q;exact q _ u
 right;calc d7 _ true (.tup k) rfl ?_;rw[if_neg ∅];calc bN _ (.inr (_,bI.of k,rfl)) ?_;calc(x,dx,_,rfl,O,eB ⋯,F,x,bo,a,r,ad,rfl,g,?_);have R:=p;let(S,_,_,_,L,_):=R;calc(bo,S,_,rfl,L,by rfl,bo,ms,wv,lv,rfl,p,λl m=>?_);generalize hG:upd H l (.lst (ms.map V.ref))=G at *;let(u,M):=aaB hG m;calc bN _ (.inl (_,aS.of M,rfl)) ?_;rw[if_neg (by simp[I,nL])];have U:=g.same u;have N:=u _ _ k;clear g O ho k p L M m hG;calc bJ ?_;right;calc Ht false _ (Sq.t N) (λD hD=>?_);refine bu (J:=RL false K t) (n:=a.ms.length) (λi ys H'=>au G H'/\ys=((List.range i).map (okC r cut)).map V.bl) (T' (aD ())) (au.new _ hD,rfl) ?_ ?_ ?_ ?_
 .rintro i ys H' W ⟨b,_⟩;exact(_,_,Sq.t (b _ _ N),by rw[K',aP (d:=0) ()];rfl)
 .rintro ys H' ⟨b,_⟩;exact(_,Sq.t (b _ _ N),by simp[I])
 .intro i ys H' W X m iz xx H4 iY;nofun;let(b,rfl):=iz;let(Y,IY,rfl,y):=iY;let(z,ez,rfl):=y _ (Sq.t (b _ _ N));rw[K',aP (d:=0) ()] at ez;obtain rfl:=Option.some.inj ez;ac_rfl;generalize hGt:upd H' Y (.tup [.int (i:Nat),.int (cut.getD i 0)])=G3 at *;let(Z,g):=aaB hGt IY;calc vf (bI.of g) (Ext.set (Ext.set (Ext.refl _) rfl) rfl,?_);have M5:=Z _ _ X;have B:=(U.same b).same Z;have Oq:=b.trans Z;right;let(g,l,k,p):=B.ins;calc(x,g,_,rfl,k,eB ⋯,F,x,bo,a,r,ad,i,rfl,B,W,?_);have l:=cH.y6 (show i < a.ms.length by lia);calc(.int (cut.getD i 0),_,0,_,rfl,.int _,?_);rw[show inR 0 _ (.int (cut.getD i 0))=okC r cut i by rw[Bool.eq_iff_iff];simp only[inR,okC,Bool.and_eq_true,decide_eq_true_eq];lia]
  try rw[if_pos trivial]
  calc b4 M5 m W (T' (aD ())) (λc o e=>by rw[ay (av e hD)];calc Oq _ _ e,?_);rw[ac2,aah,aah];rfl
 rintro ys H1 X wd ⟨b,rfl⟩;calc bN _ (aS.of X) ?_;rw[WU,show(List.range a.ms.length).all (okC r cut)=Cc a r cut by unfold Cc;rw[show(cut.length==a.ms.length)=true from beq_iff_eq.mpr I];rfl];calc q _ (u.trans b)
abbrev o9:Stmt:=top 28
def M6(C CN CR:Addr)(c:Nat->Addr):Sp:=λvs H Q E=>∃(F:Addr->Prop) (x bo:Addr) (nt:NT) (r:RS) (ad:js) (t:Addr) (cut:List Int),vs=[.ref x,.ref t]/\bS C CN CR F H x bo nt r ad/\r.Ok nt/\H t=some (.tup (cut.map V.int))/\(sX nt r cut->∀H',au H H'->Q .bL H')/\(¬sX nt r cut->∀a H',au H H'->H' a=some (XO a (c 6) none false)->E (.ref a) none H')
theorem Ej(D:cG K mg "need_cut" "need_cut" o9 eV)(T:Tx K mg C CN CR F FD)(g:N9 K mg B c)(o:Def P w K mg base "is_cut" 5 ih (M3 C CN CR)):DefX P w K mg base "need_cut" 6 eV (M6 C CN CR c):=by
 have d:aE eV eV (az o9):=by walk_at "s"
 refine D.Va d (λp H Q E h=>?_) (λf u A d s H p Q E i h=>?_)
 .let(F,x,bo,e,r,ad,t,cut,rfl,j,k,l,q,m):=h;rfl
 .let(F,x,bo,e,r,ad,t,cut,rfl,j,k,l,q,m):=h;have d:=i.units;calc(_,(ak (aW (bY (bA (aN o i (ag (aq 0) (ag (aq 1) aa))))) (ak (AV rfl EW (RJ g.xK (ag aH aa)))) aK)),?_);right;calc(F,x,bo,e,r,ad,t,cut,rfl,j,k,l,λH1 n=>?_);by_cases b:sX e r cut
  .rw[Cd.mpr b]
   try rw[if_neg ∅]
   right;exact q b H1 n
  .rw[WT b]
   try rw[if_pos ∅]
   right;calc vn (D:=(λ_ _=>True,λ_ _=>True,λ_ _=>True,λ_ _=>True)) (σ:=[]) (g.cl 6 ∅) λa d=>m b a _ (n.trans (oG d)) af
abbrev kZ:Stmt:=top 32
inductive M7(C CN CR:Addr)(c:Nat->Addr)(vs:List V)(H:Hp)(Q:VK)(E:XK):Prop
 |mk (F:Addr->Prop) (x bo:Addr) (nt:NT) (r:RS) (ad:js) (t:Addr) (cut:List Int) (h0:vs=[.ref x,.ref t]) (h1:bS C CN CR F H x bo nt r ad) (h2:r.Ok nt) (h3:r.Iv nt) (h4:r.Pk nt) (h5:r.picks.length<=40) (h6:H t=some (.tup (cut.map V.int))) (q:sX nt r cut->∀l zs H',au H H'->H l=none->H' l=some (.lst zs)->fK H' 1 zs ((mC r cut (ij r nt.ws.length)).map λp=>pairD (pI p))->Q (.ref l) H') (qe:¬sX nt r cut->∀a H',au H H'->H' a=some (XO a (c 6) none false)->E (.ref a) none H'):M7 C CN CR c vs H Q E
def F8(C CN CR:Addr)(c:Nat->Addr):Sp:=λvs H Q E=>M7 C CN CR c vs H Q E
theorem zI(D:cG K mg "orphans_of" "orphans_of" kZ eV)(T:Tx K mg C CN CR F FD)(A:N9 K mg B c)(l:Def P w K mg base "letters_passed" 6 ["run"] (FT C CN CR))(y:DefX P w K mg base "need_cut" 6 eV (M6 C CN CR c))(z:Def P w K mg base "orphans_among" 2 ib FU):DefX P w K mg base "orphans_of" 7 eV (F8 C CN CR c):=by
 have e:aE eV eV (az kZ):=by walk_at "s"
 refine D.Va e (λG H Q E h=>?_) (λf I A e s H G Q E a h=>?_)
 .let(F,x,bo,g,r,ad,t,cut,rfl,i,b,d,j,n,k,q,m):=h;rfl
 .let(F,x,bo,g,r,ad,t,cut,rfl,i,b,d,j,n,k,q,m):=h;have e:=a.units;refine(_,(ai (bX (uR y yW a (ag (aq 0) (ag (aq 1) aa))))
   (ak (aG (aN z a (ag (aN l a (ag (aq 0) aa)) (ag (aq 1) aa)))))),?_)
  calc L2.bq λa o=>?_;right;calc(F,x,bo,g,r,ad,t,cut,rfl,i,b,k,λu H1 v=>?_,m);have q:=q u;clear m;calc L2.bc o ?_;clear o;right;calc(F,x,bo,g,r,ad,rfl,i.same v,b,d,j,n,λl ys H2 e a h y=>?_);have a:=v.trans e;have g:=Bp d j;refine(l,t,ys,r,_,cut,rfl,h,y,aaL (List.length_filter_le _ _) (),.inl (a _ _ k),λp g=>?_,λh i j k l e m=>?_)
  .exact Wk b d u.len (List.mem_filter.mp g).1
  .calc q h i j (a.trans k) (a.free l) e m
abbrev k6:Stmt:=top 34
def M8(C CN CR:Addr)(c:Nat->Addr):Sp:=λvs H Q E=>∃(F:Addr->Prop) (x bo:Addr) (nt:NT) (r:RS) (ad:js) (m b:Int),vs=[.ref x,.int m,.int b]/\bS C CN CR F H x bo nt r ad/\r.Ok nt/\(Ei nt r m b->∀H',au H H'->Q .bL H')/\(¬Ei nt r m b->∀a H',au H H'->H' a=some (XO a (c 7) none false)->E (.ref a) none H')
theorem zJ(D:cG K mg "need_event" "need_event" k6 cN)(T:Tx K mg C CN CR F FD)(n:N9 K mg B c)(v:Def P w K mg base "is_within" 2 bh cf)(J:cn P w K mg base CN "machines" 1 b0 (fI CN))(L:cn P w K mg base CR "count" 4 bQ (zt C CN CR))(M:cn P w K mg base CR "net" 1 b0 (qv C CN CR)):DefX P w K mg base "need_event" 5 cN (M8 C CN CR c):=by
 have o:aE cN cN (az k6):=by walk_at "s"
 refine D.Va o (λN H Q E h=>?_) (λf W A o s H N Q E d h=>?_)
 .let(F,x,bo,b,r,ad,m,e,rfl,g,y,q,p):=h;rfl
 .let(F,x,bo,b,r,ad,m,e,rfl,g,y,q,p):=h;have o:=d.units;calc(_,(ak (aW (PW.pt (pw_or (bY (bA (aN v d (ag (aq 1) (ag aj (ag (aX aM rfl T.bO Y' (ag (dW J T.cT d (dW M T.ba d (aq 0))) aa)) aa)))))) (pw_or1 (bY (bA (aN v d (ag (aq 2) (ag aj (ag (aZ cB (eR L T.ba d (aq 0) (ag (aq 1) aa)) aj) aa))))))))) (ak (AV rfl EW (RJ n.xM (ag aH aa)))) aK)),?_);nofun;let(O,o,R,h):=g.ins;let((ms,wv,lv,I,S,d,h),o):=g.Mb;ac_rfl;right;calc(x,O,_,rfl,R,eB ⋯,F,x,bo,b,r,ad,rfl,g,?_);have d:=I;let(h,_,_,_,o,_):=d;calc(bo,h,_,rfl,o,by rfl,bo,ms,wv,lv,rfl,I,λl v=>?_);generalize X:upd H l (.lst (ms.map V.ref))=G at *;let(j,U):=aaB X v;calc(_,.inl (_,aS.of U,rfl),.int m,_,0,_,rfl,.int _,?_);rw[V',S];by_cases i:0<=m/\m < ((b.ms.length:Nat):Int)
  .rw[show inR 0 ((b.ms.length:Nat):Int) (.int m)=true by simp only[inR];rw[aa4,abT,abT];calc i];calc wB ?_;rw[if_neg ∅];nofun;obtain⟨k,rfl⟩:∃k:Nat,m=k:=(m.toNat,())
   have d:=g.same j;let(h,o,l,v):=d.ins;ac_rfl;calc(x,h,_,rfl,l,eB ⋯,F,x,bo,b,r,ad,k,rfl,d,(),?_);calc fQ (.int e) _ 1 _ rfl (.int _) ?_;have g:=y.y6 (show k<b.ms.length by lia);by_cases t:1<=e/\e<(((r.mm k).fH.length:Nat):Int)
   .rw[show inR 1 _ (.int e)=true by simp only[inR];rw[aa4,abT,abT];lia];calc wB ?_;rw[if_neg ∅];right;exact q (i.1,i.2,t.1,t.2) G j
   .rw[show inR 1 _ (.int e)=false by rw[<-Bool.not_eq_true];simp only[inR];rw[aa4,abT,abT];lia];calc wB ?_;rw[if_pos ∅];right;exact vn (D:=(λ_ _=>True,λ_ _=>True,λ_ _=>True,λ_ _=>True)) (σ:=[]) (n.cl 7 ∅) λa u=>p (λz=>t (z.2.2.1,z.2.2.2)) a _ (j.trans (oG u)) af
  .rw[show inR 0 ((b.ms.length:Nat):Int) (.int m)=false by rw[<-Bool.not_eq_true];simp only[inR];rw[aa4,abT,abT];calc i];calc wB ?_;rw[if_pos ∅];right;calc vn (D:=(λ_ _=>True,λ_ _=>True,λ_ _=>True,λ_ _=>True)) (σ:=[]) (n.cl 7 ∅) λa u=>p (λz=>i (z.1,z.2.1)) a _ (j.trans (oG u)) af
abbrev pd:Stmt:=top 36
inductive M9(C CN CR:Addr)(c:Nat->Addr)(vs:List V)(H:Hp)(Q:VK)(E:XK):Prop
 |mk (F:Addr->Prop) (x bo:Addr) (nt:NT) (r:RS) (ad:js) (L:Lg) (m cc:Int) (h0:vs=[.ref x,.int m,.int cc]) (h1:bS C CN CR F H x bo nt r ad) (h2:r.Ok nt) (h3:r.Lk nt L) (h4:L.length<=40) (q:Ei nt r m cc->∀b R H',au H H'->bW (bG nt.ms.length L) ((m),cc)=some R->H' b=some (.tup (R.map V.int))->Q (.ref b) H') (qe:¬Ei nt r m cc->∀a H',au H H'->H' a=some (XO a (c 7) none false)->E (.ref a) none H'):M9 C CN CR c vs H Q E
def qC(C CN CR:Addr)(c:Nat->Addr):Sp:=λvs H Q E=>M9 C CN CR c vs H Q E
theorem Ek(D:cG K mg "heard_of" "heard_of" pd cN)(T:Tx K mg C CN CR F FD)(A:N9 K mg B c)(I:Def P w K mg base "all_heard" 6 ["run"] (Ca C CN CR))(J:DefX P w K mg base "need_event" 5 cN (M8 C CN CR c)):DefX P w K mg base "heard_of" 7 cN (qC C CN CR c):=by
 have g:aE cN cN (az pd):=by walk_at "s"
 refine D.Va g (λM H Q E h=>?_) (λf T A g s H M Q E i h=>?_)
 .let(F,x,bo,j,r,ad,L,m,d,rfl,k,l,e,u,q,v):=h;rfl
 .let(F,x,bo,j,r,ad,L,m,d,rfl,k,l,e,u,q,v):=h;have g:=i.units;refine(_,(ai (bX (uR J yW i (ag (aq 0) (ag (aq 1) (ag (aq 2) aa)))))
   (ak (aG (EI (Xw g) (aN I i (ag (aq 0) aa)) (bD (ag (aq 1) (ag (aq 2) aa))) (uF rfl))))),?_)
  right;calc(F,x,bo,j,r,ad,m,d,rfl,k,l,λg H1 y=>?_,v);have q:=q g;have n:((m),d)∈L.map (·.1):=by
   let(h,i,v,A):=g;have A:=e.cnt m.toNat ()
   rw[show((m.toNat:Nat):Int)=m by lia]at A;exact(e.good.mem m d).mpr (h,i,v,())
  right;calc(F,x,bo,j,r,ad,L,rfl,k.same y,l,e,u,λa aU H2 N O S=>?_);calc(Eh,λp g=>?_);have o:=au.new (.tup [.int m,.int d]) g;have U:upd H2 p (.tup [.int m,.int d]) p=some (.tup ((kE ((m),d)).map kV)):=af;generalize hG:upd H2 p (.tup [.int m,.int d])=G at *;rcases(S.same o).val ((m),d) with⟨z,_⟩|⟨R,b,W,X,Y⟩
  .let(R,Z):=DG e.good n;rw[Z]at z;cases z
  .calc(a,.ref b,rfl,by rw[<-X];calc .t (o _ _ O) U,q b R G (y.trans (N.trans o)) W Y)
abbrev gS:Stmt:=top 38
theorem rS(D:cG K mg "least_cut_with" "least_cut_with" gS cN)(T:Tx K mg C CN CR F FD)(o:N9 K mg B c)(n:DefX P w K mg base "heard_of" 7 cN (qC C CN CR c)):DefX P w K mg base "least_cut_with" 8 cN (qC C CN CR c):=by
 have a:aE cN cN (az gS):=by walk_at "s"
 refine D.Va a (λo H Q E h=>?_) (λf p A a s H o Q E b h=>?_)
 .let(F,x,bo,d,r,ad,L,m,e,rfl,g,i,j,k,q,l):=h;rfl
 .let(F,x,bo,d,r,ad,L,m,e,rfl,g,i,j,k,q,l):=h;have a:=b.units;calc(_,(ak (aG (uR n yW b (ag (aq 0) (ag (aq 1) (ag (aq 2) aa)))))),?_);right;calc(F,x,bo,d,r,ad,L,m,e,rfl,g,i,j,k,q,l)
theorem cC.wk2{F:Addr->Prop}{d:Addr}{c:V}(h:cC F H d c nt r ad){w:Nat}(g:w<nt.ws.length)(k:Nat):∃aU b,H (ad 6 w)=some (.dK aU)/\ir H (ad 6 w) (.int (k:Nat)) b/\((r.ww w).cE.getD k none=none->b=none)/\∀e,(r.ww w).cE.getD k none=some e->∃a,b=some (.ref a)/\H a=some (.tup [.int e.1,.int e.2]):=by
 let(c,f,j):=h.cU.dct (t:=6) (i:=w) g rfl;have b:=j.2 (k:Int);have g:jq (r.ww w).cE (k:Int)=((r.ww w).cE.getD k none).map pairD:=by unfold jq;rw[if_pos (),aal]
 rw[g]at b;refine(c,fN c (.inl (k:Int)),f,ir.k (k:=.inl (k:Int)) f,λz=>?_,λe z=>?_)
 .rw[z]at b;exact b
 .rw[z] at b;let(v,l,m):=(show ∃v,fN c (.inl (k:Int))=some v/\HD _ 4 v (pairD e) from b)
  let(a,rfl,b):=qt (e:=e) (m.cv dY);calc(a,l,b)
theorem Ra{ys:List (Nat×Nat)}:mC r cut (xs++ys)=mC r cut xs++mC r cut ys:=by
 unfold mC wR;rw[acX,acX]
theorem Rb{p:Nat×Nat}:mC r cut [p]=if ((wc r p).isSome&&lP r cut p)=true then[p] else[]:=by
 unfold mC wR;rw[List.filter_cons,List.filter_nil]
 cases(wc r p).isSome with
 |true=>rw[if_pos rfl,List.filter_cons,List.filter_nil,Bool.true_and]
 |false=>rw[if_neg ∅,List.filter_nil,Bool.false_and,if_neg ∅]
theorem WV(a:r.Iv nt){w:Nat}(b:w<nt.ws.length):(iX r w (r.ww w).cE.length).length<=r.picks.length:=by
 rw[Bn,<-a.cnt];have:=Bh (r:=r) (W:=nt.ws.length) (V:=w+1) b;rw[wC]at this;lia
theorem Na{m:Int}(a:0<=m)(b:m<(cut.length:Nat)):hV (cut.map V.int) m=some (.int (cut.getD m.toNat 0)):=by
 have:=aA (xs:=cut.map V.int) (j:=m.toNat) (v:=.int (cut.getD m.toNat 0)) (by rw[K',aP (d:=0) ()];rfl);rw[show((m.toNat:Nat):Int)=m by lia]at this;calc this
abbrev jZ:Stmt:=top 87
inductive Nb(vs:List V)(H:Hp)(Q:VK):Prop
 |mk (F:Addr->Prop) (d:Addr) (tn:V) (nt:NT) (r:RS) (ad:js) (t:Addr) (cut:List Int) (h0:vs=[.ref d,.ref t]) (h1:cC F H d tn nt r ad) (h2:r.Ok nt) (h3:r.Iv nt) (h4:r.picks.length<=40) (h5:CutAt H t cut) (h6:cut.length=nt.ms.length) (q:∀l zs H',au H H'->H' l=some (.lst zs)->fK H' 1 zs ((mC r cut (ij r nt.ws.length)).map λp=>pairD (pI p))->Q (.ref l) H'):Nb vs H Q
def zK:Sp:=λvs H Q _=>Nb vs H Q
theorem wV(D:cG K mg "_law_orphans" "_law_orphans" jZ eH)(T:Tx K mg C CN CR F FD):Def P w K mg base "_law_orphans" 1 eH zK:=by
 exists["_law_run_here","_law_cut","_law_some","_law_way","_law_number","_law_m","_law_c","_law_sender"];let(F,d,g,nt,r,ad,t,cut,rfl,S,cH,hI,oU,ht,hC,q):=h;have g:=hr.units;have Bx:=Xw g;refine(_,(ai (bf (i:=2) sc rfl Sort (bE aa))
  (ai (cZ PassesOwn.never rfl (cD rfl T.dD (ag (aX aM rfl T.bO Y' (ag (ao g (aq 0) aH) aa)) aa)) (aT (i:=3) sc rfl Sort)
  (ak (cZ PassesOwn.never rfl (bR (aX (xQ rfl) rfl T.vm PyProof.Rows.boot_sorted (ag (ao g (ao g (aq 0) aH) (aq 3)) aa))) (aT (i:=4) sc rfl Sort)
  (ai (dS (EI Bx (ao g (ao g (aq 0) aH) (aq 3)) (aq 4) (uF rfl)) (fb (i:=5) (j:=6) rfl sc rfl rfl Sort Sort))
  (ai (bf (i:=7) sc rfl Sort (ao g (ao g (ao g (aq 0) aH) (aq 3)) (aq 4)))
  (ak (aW (PW.pt (pw_and (aC uC (aq 6) (ao g (aq 1) (aq 5)) (aI _)) (pw_and (aC nu (aq 7) gF (aI _)) (pw_and1 (aC kK (ao g (aq 7) aj) (ao g (aq 1) (ao g (aq 7) aj)) (aI _)))))) (ak (bX (dw pP sF sL cj (aq 2) (ag (bD (ag (aq 3) (ag (aq 4) aa))) aa)))) aK)))))))
  (ak (aG (aq 2))))),?_)
 let(T,hd,nF,nP,g):=S.dk;have l4:=(g 4 ∅ ∅).1;have l5:=(g 5 ∅ ∅).1;have l6:=(g 6 ∅ ∅).1;have T:=S.ok;have g:=T.Ho;have g:=hC;right;calc(aam _,λl t9=>?_);generalize hG1:upd H l (.lst [])=G1 at *;let(s1,Wi):=aaB hG1 t9;right;calc(_,My (s1 _ _ hd),_,.inl (_,aS.of (s1 _ _ l4),rfl),?_);rw[kB,show nt.n 4=nt.ws.length from rfl];refine(_,rfl,(),(),gh (n:=nt.ws.length) (λi σ H'=>(∃z3 B I J L,σ=[some (V.ref d),some (V.ref t),some (V.ref l),z3,B,I,J,L])/\au H H'/\∃ys:List V,H' l=some (.lst ys)/\ys.length<=40*i/\fK H' 1 ys ((mC r cut (ij r i)).map λp=>pairD (pI p))) ?_ ?_ ?_)
 .exact((_,_,_,_,_,rfl),s1,[],Wi,aam _,fK.nil)
 .intro i σ H' u iz;let((z3,B,I,J,L,rfl),M,ys,v,W,x):=iz;rw[acq];have g:=cH.ls i u;have X9:=cH.lk i u;have g:=WV hI u;nofun;let(QX,e6,d6):=(S.same M).cU.dct (t:=6) (i:=i) u rfl;let(g,X,ZR):=Ls d6;ac_rfl;have uS:g.length<=r.picks.length:=by have:=ZR.length_eq;rw[V'] at this;lia
  calc(_,QW (M _ _ hd),bH (M _ _ l6) (bz u) (ad 6 i,rfl,.inr (.inl (QX,g,e6,X,(),λlk ns X9 IP Y=>?_))));obtain rfl:=Bo (IP.trans ZR) Y;generalize LP:upd H' lk (.lst (((iX r i (r.ww i).cE.length).map λk:Nat=>(k:Int)).map V.int))=G2 at *;let(s2,Yl):=aaB LP X9;have nlk:lk≠l:=Ne.symm (av v X9);have Z:=s2 _ _ v;have BQ:=x.aL s2.aR;have si2:=M.trans s2;clear LP s2 IP Y ZR X uS d6 e6 v x X9 M;refine .inl ((_,aS.of Yl),fA (K:=K) (xs:=((iX r i (r.ww i).cE.length).map λk:Nat=>(k:Int)).map V.int) (λk σ G=>(∃B I J L,σ=[some (V.ref d),some (V.ref t),some (V.ref l),some (V.int i),B,I,J,L])/\au H G/\G lk=some (.lst (((iX r i (r.ww i).cE.length).map λk:Nat=>(k:Int)).map V.int))/\∃ys,G l=some (.lst ys)/\ys.length<=40*i+k/\fK G 1 ys ((mC r cut (ij r i++((iX r i (r.ww i).cE.length).take k).map λk=>((i),k))).map λp=>pairD (pI p))) ?_ ?_ ?_ ?_)
  .calc((_,_,_,_,rfl),si2,Yl,ys,Z,W,?_);rw[List.take_zero,List.map_nil,aax];exact BQ
  .rintro k σ G g ⟨_,_,e,_⟩;exact aS.of e
  .intro k xx σ G hx iY;nofun;let((B,I,J,L,rfl),y,N,ys,v,W,x):=iY;clear Z BQ si2 Yl;rw[List.map_map,K'] at hx;let(c,o,O):=jb hx;have O:xx=V.int (c:Nat):=O.symm;subst O;have g:=(iF o).1;let(g,e,he):=qh.mp (aaF o);let(QX,g,g1,g2,g3,g4):=(S.same y).wk2 u c;have hwe:(r.ww i).cE.getD c none=some e:=by rw[W',he];rfl
   let(aw,ea,nR):=g4 e hwe;let(m0,g,_):=hI.ev i c e.1 e.2 u he;ac_rfl;rw[ea]at g2;right;calc(_,QW (y _ _ hd),bH (y _ _ l6) (bz u) (ad 6 i,_,rfl,g2,aw,_,rfl,bI.of nR,rfl,_,_,rfl,_,_,rfl,rfl,?_));nofun;let(g,e5,d5):=(S.same y).cU.lst (t:=5) (i:=i) u rfl;let(u5,eu5,du5):=d5.get (i:=c) (d:=nQ ((r.ww i).snd.getD c none)) (by rw[K',aP (d:=none) ()];rfl);ac_rfl;have Mc:=FJ (du5.cv dY);calc L2.bq λg h2=>?_;right;calc bN _ (Mz (y _ _ hd)) ?_;right;calc bH (y _ _ l5) (bz u) ?_;calc bH e5 (aA eu5) ?_;calc L2.bc h2 ?_;clear h2;have R:mC r cut (ij r i++((iX r i (r.ww i).cE.length).take (k+1)).map λk=>((i),k))=mC r cut (ij r i++((iX r i (r.ww i).cE.length).take k).map λk=>((i),k))++if ((wc r ((i),c)).isSome&&lP r cut ((i),c))=true then[((i),c)] else[]:=by
    rw[acF,o,<-Rb,<-Ra,aah,List.append_assoc];rfl
   have hcG:=ht.same y;clear g1 g2 g3 g4 d5 du5 e5;calc L2.fG λg U0 wW qJ=>?_;have yes:((wc r ((i),c)).isSome&&lP r cut ((i),c))=true->g [some (V.ref d),some (V.ref t),some (V.ref l),some (V.int i),some (V.int c),some (V.int e.1),some (V.int e.2),some u5] G:=λU=>by
    calc L2.bc wW ?_;right;calc ie (.inl (rfl,_,aS.of v)) dO (λtp g=>?_);generalize hG1:upd G tp (.tup [.int (i:Nat),.int (c:Nat)])=G1 at *;let(u1,etp):=aaB hG1 g;have acC:=u1 _ _ v;have ah3:=x.aL u1.aR;have ah4:=u1 _ _ N;have sG1:=y.trans u1;have st:cw G1 (upd G1 l (.lst (ys++[.ref tp]))):=(cw.refl _).upd λg e=>by rw[acC]at e;cases e
    calc(_,acC,aD (),(_,_,_,_,rfl,rfl,rfl,rfl),λb o e=>by rw[ay (av e t9)];calc sG1 _ _ e,by rw[ay nlk];calc ah4,_,af,by simp;lia,?_);rw[R,if_pos U,aah];exact(ah3.snoc (dA (n:=0) etp (.int _) (.int _))).aL st
   have no:((wc r ((i),c)).isSome&&lP r cut ((i),c))=false->U0 [some (V.ref d),some (V.ref t),some (V.ref l),some (V.int i),some (V.int c),some (V.int e.1),some (V.int e.2),some u5] G:=λU=>by
    calc L2.bc qJ ?_;calc((_,_,_,_,rfl),y,N,ys,v,(),?_);rw[R,U,if_neg ∅,aax];exact x
   clear wW qJ R;have ho:lP r cut ((i),c)=(decide (e.2<=cut.getD e.1.toNat 0) && !BV (wc r ((i),c)) cut):=by
    unfold lP;rw[show Sz r ((i),c)=some e from hwe];rfl
   rw[ho]at yes no;right;calc Wj hcG (Na m0 ()) ?_;right
   cases zp:decide (e.2<=cut.getD e.1.toNat 0) with
   |false=>
    rw[if_neg ∅]
    try rw[if_neg ∅]
    calc no (by rw[zp];simp)
   |true=>
    rw[if_pos ∅]
    cases z:(r.ww i).snd.getD c none with
    |none=>
     rw[z]at Mc;have:u5=.bL:=by cases(show HT G 1 u5 .bL from Mc);rfl
     subst this;right;rw[if_neg ∅]
     try rw[if_neg ∅]
     calc no (by rw[show wc r ((i),c)=none from z];rfl)
    |some m=>
     nofun;let(a,rfl,ha):=nZ (show HT G 1 u5 (pairD m) from by rw[z]at Mc;calc Mc);let(e0,g,_):=cH.sd i u m.1 m.2 (by rw[show(some ((m.1),m.2):Option (Int×Int))=(r.ww i).snd.getD c none from z.symm];calc getD_mem ());ac_rfl;right;rw[if_pos nofun];calc cL ha (aA (j:=1) rfl) ?_;calc cL ha (aA (j:=0) rfl) ?_;calc Wj hcG (Na e0 ()) ?_;right;have hz:((wc r ((i),c)).isSome&&(decide (e.2<=cut.getD e.1.toNat 0) && !BV (wc r ((i),c)) cut))=decide (cut.getD m.1.toNat 0<m.2):=by
      rw[show wc r ((i),c)=some m from z,zp];show(!decide (m.2<=cut.getD m.1.toNat 0))=_;rw[<-decide_not];exact decide_eq_decide.mpr ()
     cases U:decide (cut.getD m.1.toNat 0<m.2) with
     |true=>
      rw[if_pos rfl];calc yes (hz.trans U)
     |false=>
      rw[if_neg ∅];exact no (hz.trans U)
  .intro σ G qk;let((B,I,J,L,rfl),y,N,ys,v,W,x):=qk;simp only[List.length_map]at W x;rw[aaP,<-qX]at x;exact((_,_,_,_,_,rfl),y,ys,v,(),x)
 .intro σ H' zg;let((z3,B,I,J,L,rfl),M,ys,v,W,x):=zg;right;calc q l ys H' M v x
theorem Nc(e:H a=some (.lst [.bl x,.bl y,.bl z]))(f:H b=some (.lst [.bl x,.bl y,.bl z])):lK K H (k+2) (.ref a) (.ref b):=by
 calc .inr (a,b,_,_,rfl,rfl,.inr (aS.of e,aS.of f),rfl,λi u v c d=>?_);rw[c]at d
 cases d
 match i with
 |0=>cases c;calc .inl (rfl,rfl)
 |1=>cases c;calc .inl (rfl,rfl)
 |2=>cases c;calc .inl (rfl,rfl)
 |i+3=>simp at c
theorem Nd{xs:List Int}(e:H a=some (.tup (xs.map V.int)))(f:H b=some (.tup (xs.map V.int))):lK K H (k+2) (.ref a) (.ref b):=by
 calc .inr (a,b,_,_,rfl,rfl,.inl (bI.of e,bI.of f),rfl,λi u v c d=>?_);rw[c]at d
 cases d;rw[K']at c;let(j,_,rfl):=jb c;calc .inl (rfl,rfl)
theorem vV(h:i<n t):(jB n ad t)[i]?=some (.ref (ad t i)):=by simp[jB,h]
abbrev k8:Stmt:=top 89
def Nf:Sp:=λvs H Q _=>∃(F:Addr->Prop) (d:Addr) (a:V) (nt:NT) (r:RS) (ad:js),vs=[.ref d]/\cC F H d a nt r ad/\∀l H',au H H'->H' l=some (.lst (((List.range nt.ms.length).map λm=>(((r.mm m).hr.length:Nat):Int)).map V.int))->Q (.ref l) H'
theorem zL(D:cG K mg "_law_counts" "_law_counts" k8 ["_law_twin"])(T:Tx K mg C CN CR F FD):Def P w K mg base "_law_counts" 1 ["_law_twin"] Nf:=by
 exists["_law_twin"];let(F,d,u,g,r,ad,rfl,j,q):=h;have u:=hr.units;calc(_,(ak (aG (dy (N':=["_law_row"]) (ix:=[none]) (bR (ao u (aq 0) aH)) (λ_ _ _ _=>(aT (i:=0) (iw ["_law_row"]) rfl Sort)) nJ (λ_ _ _ _=>(aX (oy (K:=K) rfl) rfl T.bO Y' (ag (aq 0) aa)))))),?_);let(v,x,O,R,u):=j.dk;have k:=(u 3 ∅ ∅).1;have O:=j.ok.K4;calc bJ ?_;right;calc bN _ (zE x) ?_;right;calc .inl ((_,aS.of k),λD p=>?_);refine bu (J:=xf K (v 3)) (n:=g.ms.length) (λi ys G=>au H G/\ys=((List.range i).map λm=>(((r.mm m).hr.length:Nat):Int)).map V.int) (T' (aD ())) (au.new _ p,rfl) ?_ ?_ ?_ ?_
 .rintro i ys G b ⟨a,_⟩;exact(_,_,aS.of (a _ _ k),vV (show i<g.n 3 from b))
 .rintro ys G ⟨a,_⟩;exact(_,aS.of (a _ _ k),Nat.le_of_eq kB)
 .intro i ys G b l z B S U I;let(a,rfl):=B;let(rfl,y):=I;have o:=y _ (aS.of (a _ _ k));rw[vV (show i < g.n 3 from b)] at o;obtain rfl:=Option.some.inj o;let(g,L,k):=(j.same a).cU.lst (t:=3) (i:=i) b rfl;have M:g.length=(r.mm i).hr.length:=(k.1:)
  calc(Ext.set (Ext.refl _) rfl,?_);right;calc bN _ (.inl (_,aS.of L,rfl)) ?_;rw[M]
  try rw[if_pos trivial]
  calc b4 l z b (T' (aD ())) (λc o e=>by rw[ay (av e p)];calc a _ _ e,?_);rw[ac2,aah,aah];rfl
 rintro ys W l X ⟨N,rfl⟩;right;calc q _ _ N l
abbrev k9:Stmt:=top 91
def Ng:Sp:=λvs H Q _=>∃(t b:Addr) (xs:List Int),vs=[.ref t,.ref b]/\H t=some (.tup (xs.map V.int))/\H b=some (.lst (xs.map V.int))/\xs.length<=40/\∀H',au H H'->Q (.bl true) H'
theorem zM(D:cG K mg "_law_is_cut" "_law_is_cut" k9 eW)(T:Tx K mg C CN CR F FD):Def P w K mg base "_law_is_cut" 1 eW Ng:=by
 exists eW;let(t,b,a,rfl,d,m,x,q):=h;have x:=hr.units;refine(_,(ai (aW (PW.pt (pw_or (bY (bA (aX dJ rfl T.bb ug (ag (aq 0) (ag (cV (v:=.ty "tuple") rfl T.b8 sM rfl) aa))))) (pw_or1 (bA (aX (Hc rfl) rfl T.R0 PyProof.Rows.boot_any (ag (dy (N':=hE) (ix:=[none]) (bR (pv 0)) (λ_ _ _ _=>(aT (i:=0) (iw hE) rfl Sort)) nJ (λ_ _ _ _=>(Ji (Jj (aX (nv (K:=K) rfl) rfl T.bb ug (ag (aq 0) (ag (cV (v:=.ty "int") rfl T.Br zA5 rfl) aa)))) (il (aX (nv (K:=K) rfl) rfl T.bb ug (ag (aq 0) (ag (cV (v:=.ty "bool") rfl T.DI PyProof.Rows.boot_bool rfl) aa))))))) aa)))))) (ak (aG gp)) aK)
  (ak (aG (hJ (bg x) (aq 0) (dz bU rfl T.b8 sM (ag (aq 1) aa)) (aI _))))),?_)
 calc L2.bq λz p=>?_;calc L2.fG λx O B r=>?_;right;calc(_,true,.tup d,rfl,?_);rw[if_neg ∅];calc bJ ?_;right;calc .inr ((_,bI.of d),λD u=>?_);refine bu (J:=Xi K t) (n:=a.length) (λi ys G=>au H G/\ys=List.replicate i (V.bl false)) (T' (aD ())) (au.new _ u,rfl) ?_ ?_ ?_ ?_
 .rintro i ys G j ⟨g,_⟩;exact(_,.int a[i],bI.of (g _ _ d),by rw[K',cJ j];rfl)
 .rintro ys G ⟨g,_⟩;exact(_,bI.of (g _ _ d),nofun)
 .intro i ys G j k I L R S M;let(g,rfl):=L;let(rfl,y):=M;have o:=y _ (bI.of (g _ _ d));rw[K',cJ j] at o;obtain rfl:=Option.some.inj o;calc(Ext.set (Ext.refl _) rfl,?_);right;refine(_,true,.int _,rfl,?_)
  try rw[if_neg ∅]
  refine(_,false,.int _,rfl,?_)
  try rw[if_pos trivial]
  calc b4 k I j (T' (aD ())) (λc o e=>by rw[ay (av e u)];calc g _ _ e,?_);rw[List.replicate_succ']
 rintro ys N k U ⟨l,rfl⟩;right;calc(List.replicate a.length false,aS.of (by rw[List.map_replicate];calc k),?_);rw[show(List.replicate a.length false).any id=false by simp,if_neg ∅];calc L2.bc r ?_;show z _ _;calc L2.bc p ?_;clear B r p;right;calc .inl (_,aS.of (l _ _ m),λi g=>?_);have j:=au.new (.tup (a.map V.int)) g;have k:upd N i (.tup (a.map V.int)) i=some (.tup (a.map V.int)):=af;calc .inl (Nd (j _ _ (l _ _ d)) k,q _ (l.trans j))
abbrev j0:Stmt:=top 92
inductive Nh(C CN CR:Addr)(vs:List V)(H:Hp)(Q:VK):Prop
 |mk (F:Addr->Prop) (x bo:Addr) (nt:NT) (r:RS) (ad:js) (L:Lg) (m cc:Int) (h0:vs=[.ref x,.int m,.int cc]) (h1:bS C CN CR F H x bo nt r ad) (h2:r.Ok nt) (h3:r.Lk nt L) (h4:L.length<=40) (h5:¬Ei nt r m cc) (q:∀H',au H H'->Q (.bl true) H'):Nh C CN CR vs H Q
def zN(C CN CR:Addr):Sp:=λvs H Q _=>Nh C CN CR vs H Q
theorem wX(D:cG K mg "_law_refused" "_law_refused" j0 d8)(T:Tx K mg C CN CR F FD)(b:N9 K mg B c)(dq:DefX P w K mg base "least_cut_with" 8 cN (qC C CN CR c)):Def P w K mg base "_law_refused" 9 d8 (zN C CN CR):=by
 exists["_law_run_here","_law_m","_law_c","_law_told","e","_law_others"];let(F,x,bo,O,r,ad,L,m,R,rfl,S,U,W,X,Y,q):=h;have hu:=hr.units;refine(_,(ai (bf (i:=3) sc rfl Sort (bE aa))
  (ai (PX (i:=4) rfl rfl sc rfl rfl rfl b.uZ (Hv b.xb) (KP (Vb dq hr (ag (aq 0) (ag (aq 1) (ag (aq 2) aa))))) (λa=>
  (ai (bf (i:=5) sc rfl Sort (aX (oA (K:=K) rfl) rfl T.bb ug (ag (aq 4) (ag (bD (ag (cP (v:=.ref (c 1)) rfl b.xG rfl) (ag (cP (v:=.ref (c 0)) rfl b.qd rfl) (ag (cP (v:=.ref (c 3)) rfl b.A8 rfl) (ag (cP (v:=.ref (c 13)) rfl b.KR rfl) (ag (cP (v:=.ref (c 18)) rfl b.Bd rfl) (ag (cP (v:=.ref (c 6)) rfl b.xH rfl) (ag (cP (v:=.ref (c 4)) rfl b.uW rfl) (ag (cP (v:=.ref (c 10)) rfl b.A9 rfl) aa))))))))) aa))))
  (ai (bf (i:=5) sc rfl Sort (Ji (aq 5) (il (aX (oA (K:=K) rfl) rfl T.bb ug (ag (aq 4) (ag (bD (ag (cP (v:=.ref (c 11)) rfl b.sS rfl) (ag (cP (v:=.ref (c 15)) rfl b.Bb rfl) (ag (cP (v:=.ref (c 17)) rfl b.Bc rfl) (ag (cP (v:=.ref (c 16)) rfl b.E2 rfl) (ag (cP (v:=.ref (c 5)) rfl b.uX rfl) (ag (cP (v:=.ref (c 2)) rfl b.A7 rfl) aa))))))) aa))))))
  (ai (bf (i:=5) sc rfl Sort (Ji (aq 5) (il (aX (oA (K:=K) rfl) rfl T.bb ug (ag (aq 4) (ag (bD (ag (cP (v:=.ref (c 14)) rfl b.qf rfl) (ag (cP (v:=.ref (c 12)) rfl b.Ba rfl) (ag (cP (v:=.ref (c 8)) rfl b.uY rfl) (ag (cP (v:=.ref (c 9)) rfl b.xJ rfl) aa))))) aa))))))
  (ak (bf (i:=3) sc rfl Sort (bE (ag (aX (xE (K:=K) rfl) rfl T.bb ug (ag (aq 4) (ag (cP (v:=.ref (c 7)) rfl b.xI rfl) aa))) (ag (aX (xE (K:=K) rfl) rfl T.bb ug (ag (aq 4) (ag (cV (v:=.ty "ValueError") rfl T.qj PH rfl) aa))) (ag (aq 5) aa)))))))))))
  (ak (aG (hJ (bg hu) (aq 3) (bE (ag gp (ag gp (ag gp aa)))) (aI _)))))),?_)
 calc L2.bq λT Z=>?_;right;calc(aam _,λtl t=>?_);have s1:=au.new (.lst []) t;generalize upd H tl (.lst [])=H1 at *;calc L2.bc Z ?_;clear Z;calc L2.bq λT h2=>?_;calc PY λt u=>?_;right;calc(F,x,bo,O,r,ad,L,m,R,rfl,S.same s1,U,W,X,λz=>absurd z Y,λ_ g H2 s2 ea=>?_);refine u g (c 7) none H2 ea (b.cl 7 ()) ?_
 try dsimp only[List.set]
 calc L2.bq λN3 d=>?_;right;calc(by show 8<=sizeLine;decide,λl r=>?_);have s3:=au.new (.tup [.ref (c 1),.ref (c 0),.ref (c 3),.ref (c 13),.ref (c 18),.ref (c 6),.ref (c 4),.ref (c 10)]) r;have y:upd H2 l (.tup [.ref (c 1),.ref (c 0),.ref (c 3),.ref (c 13),.ref (c 18),.ref (c 6),.ref (c 4),.ref (c 10)]) l=some (.tup [.ref (c 1),.ref (c 0),.ref (c 3),.ref (c 13),.ref (c 18),.ref (c 6),.ref (c 4),.ref (c 10)]):=af;have j:=s3 _ _ ea;generalize upd H2 l (.tup [.ref (c 1),.ref (c 0),.ref (c 3),.ref (c 13),.ref (c 18),.ref (c 6),.ref (c 4),.ref (c 10)])=H3 at *;calc(g,c 7,B,none,l,[1,0,3,13,18,6,4,10].map c,false,false,rfl,j,(λn z=>nomatch z),b.cl 7 (),y,(tY b () _ ∅).trans ∅,?_);calc L2.bc d ?_;clear d;calc L2.bq λN3 d=>?_;right
 try first|rw[if_neg X']|skip
 calc(by show 6<=sizeLine;decide,λo l=>?_);have s4:=au.new (.tup [.ref (c 11),.ref (c 15),.ref (c 17),.ref (c 16),.ref (c 5),.ref (c 2)]) l;have G:upd H3 o (.tup [.ref (c 11),.ref (c 15),.ref (c 17),.ref (c 16),.ref (c 5),.ref (c 2)]) o=some (.tup [.ref (c 11),.ref (c 15),.ref (c 17),.ref (c 16),.ref (c 5),.ref (c 2)]):=af;have k:=s4 _ _ j;generalize upd H3 o (.tup [.ref (c 11),.ref (c 15),.ref (c 17),.ref (c 16),.ref (c 5),.ref (c 2)])=H4 at *;calc(g,c 7,B,none,o,[11,15,17,16,5,2].map c,false,false,rfl,k,(λn z=>nomatch z),b.cl 7 (),G,(tY b () _ ∅).trans ∅,?_);calc L2.bc d ?_;clear d;calc L2.bq λN3 d=>?_;right
 try first|rw[if_neg X']|skip
 calc(by show 4<=sizeLine;decide,λp j=>?_);have s5:=au.new (.tup [.ref (c 14),.ref (c 12),.ref (c 8),.ref (c 9)]) j;have I:upd H4 p (.tup [.ref (c 14),.ref (c 12),.ref (c 8),.ref (c 9)]) p=some (.tup [.ref (c 14),.ref (c 12),.ref (c 8),.ref (c 9)]):=af;have e:=s5 _ _ k;generalize upd H4 p (.tup [.ref (c 14),.ref (c 12),.ref (c 8),.ref (c 9)])=H5 at *;calc(g,c 7,B,none,p,[14,12,8,9].map c,false,false,rfl,e,(λn z=>nomatch z),b.cl 7 (),I,(tY b () _ ∅).trans ∅,?_);calc L2.bc d ?_;clear d;right
 try first|rw[if_neg X']|skip
 calc(g,c 7,B,none,.ref (c 7),true,false,rfl,e,(λn z=>nomatch z),b.cl 7 (),.inl rfl,(K0 b () ∅).trans ∅,?_);calc(g,c 7,B,none,_,true,false,rfl,e,(λn z=>nomatch z),b.cl 7 (),.inr (_,rfl),Vi b (),?_);calc(by show 3<=sizeLine;decide,λJ d=>?_);have s6:=au.new (.lst [.bl true,.bl true,.bl false]) d;have el:upd H5 J (.lst [.bl true,.bl true,.bl false]) J=some (.lst [.bl true,.bl true,.bl false]):=af;generalize upd H5 J (.lst [.bl true,.bl true,.bl false])=H6 at *
 try dsimp only[List.set]
 calc L2.bc h2 ?_;right;calc(by show 3<=sizeLine;decide,λM b=>?_);have s7:=au.new (.lst [.bl true,.bl true,.bl false]) b;have em:upd H6 M (.lst [.bl true,.bl true,.bl false]) M=some (.lst [.bl true,.bl true,.bl false]):=af;have N:=s7 _ _ el;generalize upd H6 M (.lst [.bl true,.bl true,.bl false])=H7 at *;calc .inl (Nc N em,q _ (s1.trans (s2.trans (s3.trans (s4.trans (s5.trans (s6.trans s7)))))))
theorem acE(h:r.Lk nt L)(c:Bq nt.ms.length L cut):sX nt r cut:=(c.1,λm a=>(c.2.1 m a).1,λm a=>by have:=(c.2.1 m a).2;have:=h.cnt m a;lia)
theorem WW(h:r.Lk nt L)(m:r.Pk nt)(n:∀w,w<nt.ws.length->(r.ww w).snd.length=(r.ww w).cE.length)(c:Bq nt.ms.length L cut):mC r cut (ij r nt.ws.length)=[]:=by
 calc List.eq_nil_iff_forall_not_mem.mpr λp i=>?_;unfold mC wR at i;let(k,f):=List.mem_filter.mp i;let(g,o):=List.mem_filter.mp k;let(j,e,i):=fR.mp g;let(s,k):=Option.isSome_iff_exists.mp o;have g:=(iF i).1;have o:(r.ww p.1).snd[p.2]?=some (some s):=by
  have:=aP (l:=(r.ww p.1).snd) (d:=none) (show p.2<(r.ww p.1).snd.length by rw[n _ j];calc g);rw[this];exact congrArg some k
 have g:=ZU h m j o i;unfold lP Sz at f;rw[k,getD_at i]at f;let(a,b):=Bool.and_eq_true_iff.mp f;have i:=(h.good.mem e.1 e.2).mp (List.mem_map.mpr (_,g,rfl));have j:=aaU (show decide (e.2<=cut.getD e.1.toNat 0)=true from a);let(R,i,f):=c.2.2 e.1.toNat e.2 () () j;rw[show((e.1.toNat:Nat):Int)=e.1 by lia]at i;let(k,m,n,o):=Vy h.good g i;have:=f s.1.toNat ()
 have f:¬(s.2<=cut.getD s.1.toNat 0):=λz=>by
  rw[show BV (some s) cut=true from aaC z]at b
  cases b
 lia
theorem Rc{a:List Int}{p:Ev}(h:r.Lk nt L)(l:bW (bG nt.ms.length L) p=some cut){j:Nat}(b:j<nt.ms.length)(m:(j:Int)≠p.1)(n:1<=cut.getD j 0)(c:∀i,i<nt.ms.length->a.getD i 0=cut.getD i 0-if i=j then 1 else 0):mC r a (ij r nt.ws.length)≠[]:=by
 let(e,i,d,f,k,o):=Qg h.good l j b m n;let(w,k,o,d,f):=ZV h i;have g:((w),k)∈mC r a (ij r nt.ws.length):=by
  unfold mC wR;refine List.mem_filter.mpr (List.mem_filter.mpr (fR.mpr (o,e,f),?_),?_)
  .show(wc r ((w),k)).isSome=true;unfold wc;rw[getD_at d];rfl
  .unfold lP Sz wc;rw[getD_at d,getD_at f];show(decide (e.2<=a.getD e.1.toNat 0) && !decide (cut.getD j 0<=a.getD (j:Int).toNat 0))=true;have h:=c e.1.toNat ()
   rw[if_neg ()]at h;have a:=c j b;rw[if_pos rfl]at a;rw[aal,aaC (),aaE ()];rfl
 intro z;rw[z]at g
 cases g
theorem WX(h:n<=1000):(((n:Nat):Int)+1).natAbs.log2<9000:=abY (Nat.log2_le_self _) ()
abbrev fZ:Stmt:=top 90
inductive Ni(vs:List V)(H:Hp)(Q:VK):Prop
 |mk (F:Addr->Prop) (d:Addr) (tn:V) (nt:NT) (r:RS) (ad:js) (L:Lg) (j:Int) (h0:vs=[.ref d,.int j]) (h1:cC F H d tn nt r ad) (h2:r.Ok nt) (h3:r.Lk nt L) (h4:r.Hh nt L) (h5:r.picks.length<=400) (q:∀t cut H',au H H'->H' t=some (.tup (cut.map V.int))->Bq nt.ms.length L cut->Q (.ref t) H'):Ni vs H Q
def F9:Sp:=λvs H Q _=>Ni vs H Q
theorem ph(D:cG K mg "_law_possible_cut" "_law_possible_cut" fZ g8)(T:Tx K mg C CN CR F FD):Def P w K mg base "_law_possible_cut" 1 g8 F9:=by
 exists["_law_twin","_law_cell","_law_cut","_law_m","_law_rows","_law_c"];let(F,d,U,a,r,ad,L,j,rfl,M,S,og,o,oU,q):=h;have U:=hr.units;refine(_,(ai (bf (i:=2) sc rfl Sort (aZ A0 (bE (ag aj aa)) (aX aM rfl T.bO Y' (ag (ao U (aq 0) aH) aa))))
  (ai (cZ PassesOwn.never rfl (iL rfl T.de (ag (ao U (aq 0) aH) aa)) (fb (i:=3) (j:=4) rfl sc rfl rfl Sort Sort)
  (ai (bf (i:=5) sc rfl Sort (aZ dI (aq 1) (aZ cB (aX aM rfl T.bO Y' (ag (aq 4) aa)) aj)))
  (ai (bf (i:=1) sc rfl Sort (aZ iU (aq 1) (aZ cB (aX aM rfl T.bO Y' (ag (aq 4) aa)) aj)))
  (ak (aW (aC kK (aq 5) aj (aI _)) (ak (fC (i:=2) sc rfl Sort (N':=g0) (ix:=[none,none]) (yT rfl T.Bs (ag (aq 2) (ag (ao U (aq 4) (aZ dR (aq 5) aj)) aa))) (λ_ _ _ _=>(jy (K:=K) rfl (i:=0) (j:=1) rfl (iw g0) rfl rfl Sort Sort)) nJ (λ_ _ _ _=>(aX (qR rfl) rfl T.Ff PyProof.Rows.boot_max (ag (aq 0) (ag (aq 1) aa)))))) aK)))))
  (ak (aG (dz bU rfl T.b8 sM (ag (aq 2) aa)))))),?_)
 let(T,hd,U,nP,j):=M.dk;have W:=(j 3 ∅ ∅).1;have T:=M.ok.K4;calc L2.bq λN1 z=>?_;right;calc(by show 1<=sizeLine;decide,λX j=>?_);have Y:=au.new (.lst [.int 0]) j;have e0:upd H X (.lst [.int 0]) X=some (.lst [.int 0]):=af;generalize upd H X (.lst [.int 0])=G0 at *;calc(_,zE (Y _ _ hd),_,.inl (_,aS.of (Y _ _ W),rfl),?_);rw[kB,show a.n 3=a.ms.length from rfl];calc PU (.int 0) e0 () () (λN j=>?_);rw[aal];have b:=Y.trans (au.new (.lst (List.replicate a.ms.length (.int 0))) j);have e2:upd G0 N (.lst (List.replicate a.ms.length (.int 0))) N=some (.lst ((List.replicate a.ms.length 0).map V.int)):=by rw[List.map_replicate];exact af
 generalize upd G0 N (.lst (List.replicate a.ms.length (.int 0)))=G1 at *;calc L2.bc z ?_;clear z;calc L2.bq λN1 z=>?_;right;refine(_,zE (b _ _ hd),true,jB a.n ad 3,Sq.l (b _ _ W),kn (xs:=jB a.n ad 3) (λi σ H'=>∃u Z z4 z5 v cut,σ=[some (V.ref d),some (V.int u),some (V.ref v),Z,z4,z5]/\au H H'/\H' v=some (.lst (cut.map V.int))/\Bq a.ms.length L cut) ?_ ?_ ?_ ?_)
 .exact(_,_,_,_,N,_,rfl,b,e2,Bq.zero)
 .rintro i σ H' ⟨_,_,_,_,_,_,_,g,_⟩;exact Sq.l (g _ _ W)
 .rintro i x σ H' tt hx ⟨u,Z,z4,z5,v,cut,rfl,g,Ym,B⟩ QU;have m:i < a.ms.length:=by have:=(iF hx).1;rwa [kB] at this
  rw[vV (show i<a.n 3 from m)]at hx;obtain rfl:=Option.some.inj hx;have s3:=au.new (.tup [.int (i:Nat),.ref (ad 3 i)]) QU;have Ww:upd H' tt (.tup [.int (i:Nat),.ref (ad 3 i)]) tt=some (.tup [.int (i:Nat),.ref (ad 3 i)]):=af;have G:=s3 _ _ Ym;have Oq:=g.trans s3;generalize upd H' tt (.tup [.int (i:Nat),.ref (ad 3 i)])=H3 at *;calc vf (bI.of Ww) ?_;let(v1,e1,d1):=(M.same Oq).cU.lst (t:=3) (i:=i) m rfl;have zl:v1.length=(r.mm i).hr.length:=(d1.1:)
  have j:=S.bp i m;have j:=S.lh i m;calc L2.bq λN2 I=>?_;right;calc(_,.inl (_,aS.of e1,rfl),(),?_);rw[zl];calc L2.bc I ?_;clear I;calc L2.bq λN2 I=>?_;right;calc(_,.inl (_,aS.of e1,rfl),((),by rw[zl];calc WX ()),?_);calc L2.bc I ?_;clear I;generalize u/(((v1.length:Nat):Int)+1)=j;have x:=aby u (show(((r.mm i).hr.length:Nat):Int)+1≠0 by lia);have j:=abF u (show(0:Int)<(((r.mm i).hr.length:Nat):Int)+1 by lia);generalize u%((((r.mm i).hr.length:Nat):Int)+1)=cc at *;calc L2.fG λj x wW qJ=>?_;right;by_cases hc:0<cc
  .rw[aaC hc,if_pos rfl];calc L2.bc wW ?_;clear wW qJ;obtain⟨k,rfl⟩:∃k:Nat,cc=((k + 1:Nat):Int):=((cc - 1).toNat,())
   have uS:k<(r.mm i).hr.length:=();let(j,evr,Yd):=d1.get (i:=k) (d:=.lst (((r.mm i).hr.getD k []).map .int)) (by rw[K',aP (d:=[]) ()];rfl);let(lo,rfl,O):=qA (Yd.cv dY);calc bJ ?_;right;calc bH e1 (show hV _ (((k+1:Nat):Int)-1)=some (.ref lo) from by rw[show((k+1:Nat):Int)-1=(k:Int) by lia];calc aA evr) ?_;right;calc fQ true true _ _ (Sq.l G) (Sq.l O) (λD3 x8=>?_);have hR:=Bq.row og.good (o i m k uS);have j:=B.1;have j:=hR.1;have WZ:=B.max hR;generalize (r.mm i).hr.getD k []=p at *;refine bu (J:=Xt true true K v lo) (n:=a.ms.length) (λi ys H'=>au H3 H'/\ys=((List.zipWith max cut p).take i).map V.int) (T' (aD ())) (au.new _ x8,rfl) ?_ ?_ ?_ ?_
   .rintro i ys H' m ⟨b,_⟩;exact(_,_,_,_,Sq.l (b _ _ G),Sq.l (b _ _ O),by rw[K',aP (d:=0) ()];rfl,by rw[K',aP (d:=0) ()];rfl)
   .rintro ys H' ⟨b,_⟩;exact(_,_,Sq.l (b _ _ G),Sq.l (b _ _ O),.inl (by simp;lia))
   .intro i ys H' m R hl HY xx H4' zq9;let(b,rfl):=HY;let(t',IY,rfl,y):=zq9;let(x1,x2,SV,SW,rfl):=y _ _ (Sq.l (b _ _ G)) (Sq.l (b _ _ O));rw[K',aP (d:=0) ()] at SV SW;obtain rfl:=Option.some.inj SV;obtain rfl:=Option.some.inj SW;have g:=au.new (.tup [.int (cut.getD i 0),.int (p.getD i 0)]) IY;have qG:upd H' t' (.tup [.int (cut.getD i 0),.int (p.getD i 0)]) t'=some (.tup [.int (cut.getD i 0),.int (p.getD i 0)]):=af;calc vf (bI.of qG) (Ext.set (Ext.set (Ext.refl _) rfl) rfl,?_);right
    try rw[if_pos trivial]
    calc b4 (g _ _ R) hl m (T' (aD ())) (λc o e=>by rw[ay (av e x8)];calc g _ _ (b _ _ e),?_);rw[acY,List.getElem?_zipWith,aP (l:=cut) (d:=0) (),aP (l:=p) (d:=0) (),aah];show _++[V.int (if p.getD i 0 > cut.getD i 0 then p.getD i 0 else cut.getD i 0)]=_++[V.int (max (cut.getD i 0) (p.getD i 0))]
    congr 3;split<;>lia
   rintro ys H9 R hl ⟨s89,rfl⟩;rw[abR (by rw[WZ.1];calc S' _)]at R;right;exact(_,_,_,_,D3,_,(rfl,rfl,rfl,rfl,rfl),Oq.trans s89,R,WZ)
  .rw[aaE hc,if_neg ∅];calc L2.bc qJ ?_;clear wW qJ;exact(_,_,_,_,v,cut,rfl,Oq,G,B)
 .rintro σ H' ⟨u,Z,z4,z5,v,cut,rfl,g,Ym,B⟩;show N1 _ _;calc L2.bc z ?_;clear z;right;calc .inl (_,aS.of Ym,λb a=>?_);calc q b cut _ (g.trans (au.new _ a)) af B
abbrev mM:Stmt:=top 93
inductive Nk(vs:List V)(H:Hp)(Q:VK):Prop
 |mk (F:Addr->Prop) (d:Addr) (tn:V) (nt:NT) (r:RS) (ad:js) (L:Lg) (t:Addr) (cut:List Int) (m c:Int) (h0:vs=[.ref d,.ref t,.int m,.int c]) (h1:cC F H d tn nt r ad) (h2:r.Ok nt) (h3:r.Iv nt) (h4:r.picks.length<=40) (h5:r.Lk nt L) (h6:bW (bG nt.ms.length L) ((m),c)=some cut) (h7:H t=some (.tup (cut.map V.int))) (q:∀H',au H H'->Q (.bl true) H'):Nk vs H Q
def Gd:Sp:=λvs H Q _=>Nk vs H Q
theorem Ce(D:cG K mg "_law_least" "_law_least" mM eg)(T:Tx K mg C CN CR F FD)(eY:Def P w K mg base "_law_orphans" 1 eH zK):Def P w K mg base "_law_least" 2 eg Gd:=by
 exists["_law_twin","_law_cut","_law_m","_law_c","_law_k","_law_fewer"];let(F,d,tn,a,r,ad,L,t,cut,m,c,rfl,I,cH,hI,oU,y,M,p,q):=h;have b:=hr.units;refine(_,(ai (cZ PassesOwn.never rfl (cD rfl T.dD (ag (aX aM rfl T.bO Y' (ag (aq 1) aa)) aa)) (aT (i:=4) sc rfl Sort)
  (ai (fC (i:=5) sc rfl Sort (N':=["_law_j","_law_cut","_law_k"]) (ix:=[none,some 1,some 4]) (cD rfl T.dD (ag (aX aM rfl T.bO Y' (ag (aq 1) aa)) aa)) (λ_ _ _ _=>(aT (i:=0) (iw ["_law_j","_law_cut","_law_k"]) rfl Sort)) nJ (λ_ _ _ _=>(aZ dR (ft (K:=K) rfl b (aq 1) (aq 0)) (dz xg rfl T.Br zA5 (ag (hJ (l7 (K:=K) rfl b) (aq 0) (aq 2) (aI _)) aa)))))
  (ak (aW (PW.pt (pw_and (aC (fT b) (aq 4) (aq 2) (aI _)) (pw_and (aC kK (ao b (aq 1) (aq 4)) aj (aI _)) (pw_and1 (aC (bg b) (aN eY hr (ag (aq 0) (ag (aq 5) aa))) (bE aa) (aI _)))))) (ak (aG gp)) aK))))
  (ak (aG (hJ (bg b) (ao b (aq 1) (aq 2)) (aq 3) (aI _))))),?_)
 have b:=I.ok.K4;let(b,o,L,N):=qi y.good M;have L:=(y.good.mem m c).mp b;calc L2.bq λN1 h1=>?_;right;calc(_,.inr (_,bI.of p,rfl),?_);rw[V',o];refine(_,rfl,(),(),gh (n:=a.ms.length) (λi σ G=>(∃O R,σ=[some (V.ref d),some (V.ref t),some (V.int m),some (V.int c),O,R])/\au H G) ?_ ?_ ?_)
 .exact((_,_,rfl),λ_ _ e=>e)
 .intro i σ G hi iz;let((O,R,rfl),g):=iz;calc L2.bq λb h2=>?_;right;calc bJ ?_;right;have l:=g _ _ p;calc(_,.inr (_,bI.of l,rfl),?_);rw[V',o,acq];calc ie () () (λlf u=>?_);rw[aal];refine bu (J:=Ck 0 a.ms.length) (n:=a.ms.length) (λk ys H'=>au G H'/\ys=((List.range k).map λq=>cut.getD q 0 - if decide (((q:Nat):Int)=((i:Nat):Int))=true then 1 else 0).map V.int) (T' (aD ())) (au.new _ u,rfl) (λi ys H' h _=>h) (λys H' _=>S' _) ?_ ?_
  .intro k ys H' hk S U zh x H2' zi;let(s1,rfl):=zh;let(rfl,rfl):=zi;calc(Ext.set (Ext.refl _) rfl,?_);right
   try rw[if_pos trivial]
   calc cL (s1 _ _ l) (show hV _ (0+(k:Int))=some (.int (cut.getD k 0)) from by rw[acq];calc aA (by rw[K',aP (d:=0) ()];rfl)) ?_;right;refine .inr ?_
   try rw[acq]
   calc b4 S U hk (T' (aD ())) (λc o e=>by rw[ay (av e u)];calc s1 _ _ e,?_);rw[ac2,aah,aah];rfl
  rintro ys H5 S U ⟨B,rfl⟩;clear U;calc L2.bc h2 ?_;clear h2;have v:=g.trans B;generalize W:((List.range a.ms.length).map λq:Nat=>cut.getD q 0-if decide (((q:Nat):Int)=((i:Nat):Int))=true then 1 else 0)=X at *;have Y:X.length=a.ms.length:=by rw[<-W,V',List.length_range]
  have Z:∀q,q<a.ms.length->X.getD q 0=cut.getD q 0-if q=i then 1 else 0:=λq b=>by
   rw[<-W,W',K',List.getElem?_range b];show cut.getD q 0-_=_;congr 1;by_cases z:q=i
   .rw[aaC (),if_pos rfl,if_pos z]
   .rw[aaE (),if_neg ∅,if_neg z]
  clear W;calc L2.fG λb U0 wW qJ=>?_;right;have no:∀j,au G j->U0 [some (V.ref d),some (V.ref t),some (V.int m),some (V.int c),some (V.int (i:Nat)),some (V.ref lf)] j:=λj s6=>by
   calc L2.bc qJ ?_;exact((_,_,rfl),g.trans s6)
  clear wW qJ;by_cases e1:((i:Nat):Int)=m
  .rw[aaC e1,if_neg ∅];exact no H5 B
  rw[aaE e1,if_pos ∅];calc cL (v _ _ p) (aA (show(cut.map V.int)[i]?=some (.int (cut.getD i 0)) by rw[K',aP (d:=0) ()];rfl)) ?_;right;by_cases e2:0<cut.getD i 0
  .rw[aaC e2,if_pos rfl];calc(F,d,tn,a,r,ad,lf,X,rfl,I.same v,cH,hI,oU,.inr S,Y,λl zs j s6 el hz=>?_);calc(aam _,λle a=>?_);have s7:=au.new (.lst []) a;have ee:upd j le (.lst []) le=some (.lst []):=af;have el7:=s7 _ _ el;generalize upd j le (.lst [])=H7 at *;refine .inr ((zs,[],λz=>Rc y M hi e1 e2 Z ?_,.inl (aS.of el7,aS.of ee)),?_)
   .have a:=hz.1;rw[z,V']at a;exact List.length_eq_zero_iff.mp a.symm
   exact no H7 ((B.trans s6).trans s7)
  .rw[aaE e2,if_neg ∅];exact no H5 B
 .rintro σ G ⟨⟨O,R,rfl⟩,g⟩;show N1 _ _;calc L2.bc h1 ?_;clear h1;right;obtain⟨k,rfl⟩:∃k:Nat,m=k:=(m.toNat,())
  calc cL (g _ _ p) (aA (show(cut.map V.int)[k]?=some (.int (cut.getD k 0)) by rw[K',aP (d:=0) ()];rfl)) ?_;rw[show cut.getD k 0=c from N];right;calc q _ g
def vW(n:Nat)(L:Lg)(H:Hp)(a:Addr):Prop:=∃vs,H a=some (.lst vs)/\vs.length<=100/\∀(i:Nat) v,vs[i]?=some v->∃t cut,v=.ref t/\H t=some (.tup (cut.map V.int))/\Bq n L cut
theorem vW.same(h:vW n L H a)(s:au H H'):vW n L H' a:=let ⟨d,e,l,f⟩:=h;(d,s _ _ e,l,λi v g=>let ⟨t,cut,a,b,c⟩:=f i v g;(t,cut,a,s _ _ b,c))
theorem qD(c:H a=some (.lst []))(d:H b=some (.lst [])):lK K H (k+1) (.ref a) (.ref b):=.inr (a,b,[],[],rfl,rfl,.inr (aS.of c,aS.of d),rfl,λi u v e=>by simp at e)
abbrev mN:Stmt:=top 94
inductive Nl(C CN CR:Addr)(vs:List V)(H:Hp)(Q:VK):Prop
 |mk (F:Addr->Prop) (x bo:Addr) (nt:NT) (r:RS) (ad:js) (L:Lg) (G:Addr->Prop) (d:Addr) (tn:V) (bd:js) (m cc:Int) (a:Addr) (h0:vs=[.ref x,.ref d,.int m,.int cc,.ref a]) (h1:bS C CN CR F H x bo nt r ad) (hT:cC G H d tn nt r bd) (h2:r.Ok nt) (hI:r.Iv nt) (hP:r.Pk nt) (h3:r.Lk nt L) (h4:L.length<=40) (h5:r.Hh nt L) (h6:Ei nt r m cc) (h7:vW nt.ms.length L H a) (q:∀H',au H H'->Q (.bl true) H'):Nl C CN CR vs H Q
def zO(C CN CR:Addr):Sp:=λvs H Q _=>Nl C CN CR vs H Q
theorem Cg(D:cG K mg "_law_right" "_law_right" mN cb)(T:Tx K mg C CN CR F FD)(lg:Def P w K mg base "_law_is_cut" 1 eW Ng)(mO:Def P w K mg base "_law_least" 2 eg Gd)(eY:Def P w K mg base "_law_orphans" 1 eH zK)(dq:DefX P w K mg base "least_cut_with" 8 cN (qC C CN CR c))(lj:DefX P w K mg base "orphans_of" 7 eV (F8 C CN CR c)):Def P w K mg base "_law_right" 9 cb (zO C CN CR):=by
 exists["_law_run_here","_law_twin","_law_m","_law_c","_law_cuts","_law_cut","_law_other"];let(F,x,bo,o,r,ad,L,G,d,tn,bd,m,cc,a,rfl,hR,N,u,hI,hP,z,o8,U,O,RA,q):=h;have l:=hr.units;refine(_,(ai (bf (i:=5) sc rfl Sort (uR dq RZ hr (ag (aq 0) (ag (aq 2) (ag (aq 3) aa)))))
  (ai (aW (PW.pt (pw_or (bY (bA (aN lg hr (ag (aq 5) (ag (ao l (ao l (ao l (aq 1) aH) (aq 2)) (aZ dR (aq 3) aj)) aa))))) (pw_or (aC (fT l) (uR lj RZ hr (ag (aq 0) (ag (aq 5) aa))) (bE aa) (aI _)) (pw_or1 (aC (fT l) (aN eY hr (ag (aq 1) (ag (aq 5) aa))) (bE aa) (aI _)))))) (ak (aG gp)) aK)
  (ai (cZ PassesOwn.never rfl (bR (pv 4)) (aT (i:=6) sc rfl Sort)
  (ak (aW (PW.pt (pw_and (aC J7 (ao l (aq 6) (aq 2)) (aq 3) (aI _)) (pw_and1 (aC (fT l) (dy (N':=["_law_k","_law_other","_law_cut"]) (ix:=[none,some 6,some 5]) (cD rfl T.dD (ag (aX aM rfl T.bO Y' (ag (aq 5) aa)) aa)) (λ_ _ _ _=>(aT (i:=0) (iw ["_law_k","_law_other","_law_cut"]) rfl Sort)) (λ_ _ _ _=>(jx (aC gr (ft (K:=K) rfl l (aq 1) (aq 0)) (ft (K:=K) rfl l (aq 2) (aq 0)) (aI _)))) (λ_ _ _ _=>(aq 0))) (bE aa) (aI _))))) (ak (aG gp)) aK)))
  (ak (aG (aN mO hr (ag (aq 1) (ag (aq 5) (ag (aq 2) (ag (aq 3) aa)))))))))),?_)
 have l:0<=m/\m<o.ms.length:=(O.1,O.2.1)
 obtain⟨g,rfl⟩:∃k:Nat,m=k:=(m.toNat,())
 have W:g<o.ms.length:=();calc L2.bq λN1 v=>?_;right;calc(F,x,bo,o,r,ad,L,((g:Nat):Int),cc,rfl,hR,u,z,o8,λ_ b R H1 X Cf eb=>?_,λS=>absurd O S);calc L2.bc v ?_;clear v;have pR:=Bq.row z.good Cf;let(T,hd,nF,nP,l):=N.dk;have l3:=(l 3 ∅ ∅).1;let(T,Y,d1):=N.cU.lst (t:=3) (i:=g) W rfl;have l:=u.lh g W;have l:=O.2.2.2;rw[aal]at l;have T:=O.2.2.1;obtain⟨j,rfl⟩:∃k:Nat,cc=((k+1:Nat):Int):=((cc-1).toNat,())
 have Z:j<(r.mm g).hr.length:=();have hRe:(r.mm g).hr.getD j []=R:=by
  have:=U g W j Z;rw[Cf]at this;exact(Option.some.inj this).symm
 let(l,evr,Yd):=d1.get (i:=j) (d:=.lst (((r.mm g).hr.getD j []).map .int)) (by rw[K',aP (d:=[]) Z];rfl);let(lo,rfl,Mi):=qA (Yd.cv dY);rw[hRe]at Mi;clear Yd d1 hRe;calc L2.bq λN1 v=>?_;calc L2.fG λT0 U0 wW qJ=>?_;right;calc bN _ (zE (X _ _ hd)) ?_;right;calc bH (X _ _ l3) (bz W) ?_;right;calc bH (X _ _ Y) (show hV _ (((j+1:Nat):Int)-1)=some (.ref lo) from by rw[show((j+1:Nat):Int)-1=(j:Int) by lia];calc aA evr) ?_;have l:=N.ok.K4;have hRl:=pR.1;have om:r.picks.length<=40:=by rw[<-z.len];exact o8
 calc(b,lo,R,rfl,eb,X _ _ Mi,(),λH2 s2=>?_);right
 try rw[if_neg ∅]
 have qH:=X.trans s2;have T:=acE z pR;have acH:=WW z hP (λw O=>(u.ls w O).symm.trans (u.lk w O)) pR;calc(F,x,bo,o,r,ad,b,R,rfl,hR.same qH,u,hI,hP,om,s2 _ _ eb,λ_ l zs H3 s3 _ el B=>?_,λS=>absurd T S);rw[acH]at B;have I:zs=[]:=List.length_eq_zero_iff.mp B.1;subst I;clear B;calc(aam _,λl4 l=>?_);have s4:=au.new (.lst []) l;have ee:upd H3 l4 (.lst []) l4=some (.lst []):=af;have el4:=s4 _ _ el;have L8:=qH.trans (s3.trans s4);have eb4:=(s2.trans (s3.trans s4)) _ _ eb;generalize upd H3 l4 (.lst [])=H4 at *;calc .inl (qD el4 ee,?_);right
 try rw[if_neg ∅]
 calc(G,d,tn,o,r,bd,b,R,rfl,N.same L8,u,hI,om,.inl eb4,hRl,λl zs H5 s5 el5 B=>?_);rw[acH]at B;have I:zs=[]:=List.length_eq_zero_iff.mp B.1;subst I;clear B;calc(aam _,λl6 l=>?_);have s6:=au.new (.lst []) l;have ee6:upd H5 l6 (.lst []) l6=some (.lst []):=af;have el6:=s6 _ _ el5;have IZ:=L8.trans (s5.trans s6);have eb6:=(s5.trans s6) _ _ eb4;generalize upd H5 l6 (.lst [])=H6 at *;calc .inl (qD el6 ee6,?_);right
 try rw[if_neg ∅]
 calc L2.bc qJ ?_;show N1 _ _;calc L2.bc v ?_;clear v wW qJ;calc L2.bq λN1 v=>?_;right;let(vs,B,l,SA):=RA;have l:=IZ _ _ B;refine(_,rfl,.inl ((_,aS.of l),fA (K:=K) (xs:=vs) (λi σ J=>(∃z6,σ=[some (V.ref x),some (V.ref d),some (V.int ((g:Nat):Int)),some (V.int ((j+1:Nat):Int)),some (V.ref a),some (V.ref b),z6])/\au H6 J) ?_ ?_ ?_ ?_))
 .exact((_,rfl),λ_ _ e=>e)
 .rintro i σ J B ⟨_,p⟩;exact aS.of (p _ _ l)
 .intro i xx σ J R9 iz;let((z6,rfl),p):=iz;let(tc,cut,rfl,l,YE):=SA i xx R9;have etJ:=(IZ.trans p) _ _ l;have ebJ:=p _ _ eb6;have l:=YE.1;calc L2.fG λT0 U0 wW qJ=>?_;right;have S:∀M,au J M->U0 [some (V.ref x),some (V.ref d),some (V.int ((g:Nat):Int)),some (V.int ((j+1:Nat):Int)),some (V.ref a),some (V.ref b),some (V.ref tc)] M:=λM s7=>by
   calc L2.bc qJ ?_;exact((_,rfl),p.trans s7)
  clear wW qJ;calc cL etJ (aA (show(cut.map V.int)[g]?=some (.int (cut.getD g 0)) by rw[K',aP (d:=0) ()];rfl)) ?_;right;by_cases Y:((j+1:Nat):Int)<=cut.getD g 0
  .rw[aaC Y]
   try rw[if_pos rfl]
   let(j,hR',hle):=YE.2.2 g _ W () Y;rw[Cf]at hR'
   cases hR';right;calc bJ ?_;right;calc(_,.inr (_,bI.of ebJ,rfl),?_);rw[V',hRl];calc ie () () (λj g=>?_);rw[aal];refine bu (J:=Ck 0 o.ms.length) (n:=o.ms.length) (λk ys H'=>au J H'/\ys=[]) (T' (aD ())) (au.new _ g,rfl) (λi ys H' h _=>h) (λys H' _=>S' _) ?_ ?_
   .intro k ys H' hk bt nK zh y H2' zi;let(Xs,rfl):=zh;let(rfl,rfl):=zi;calc(Ext.set (Ext.refl _) rfl,?_);right;calc cL (Xs _ _ etJ) (show hV _ (0 + (k:Int))=some (.int (cut.getD k 0)) from by rw[acq];calc aA (by rw[K',aP (d:=0) ()];rfl)) ?_;right;calc cL (Xs _ _ ebJ) (show hV _ (0 + (k:Int))=some (.int (R.getD k 0)) from by rw[acq];calc aA (by rw[K',aP (d:=0) ()];rfl)) ?_;right;have g:=hle k hk;rw[aaE ()]
    try rw[if_neg ∅]
    exact(_,bt,nofun,(Xs,rfl))
   rintro ys M bt nK ⟨s7,rfl⟩;calc(aam _,λle g=>?_);have s8:=au.new (.lst []) g;have ee8:upd M le (.lst []) le=some (.lst []):=af;have ey8:=s8 _ _ bt;generalize upd M le (.lst [])=H8 at *;calc .inl (qD ey8 ee8,?_);exact S H8 (s7.trans s8)
  .rw[aaE Y]
   try rw[if_neg ∅]
   exact S J λ_ _ e=>e
 .rintro σ J ⟨⟨z6,rfl⟩,p⟩;show N1 _ _;calc L2.bc v ?_;clear v;right;calc(G,d,tn,o,r,bd,L,b,R,_,_,rfl,N.same (IZ.trans p),u,hI,om,z,Cf,p _ _ eb6,λM s7=>q _ ((IZ.trans p).trans s7))
theorem _root_.DD.dZ.weak{F a:Addr->Prop}(h:dZ F H n ad ct)(s:au H H')(d:∀b,a b->F b\/H b=none):dZ a H' n ad ct:=by
 have c:∀{b:Addr} {o:HO},H b=some o->¬F b->¬a b:=λ{b o} e f z=>(d _ z).elim f λq=>by rw[q]at e;cases e
 have f:Cv (kg (λb=>F b\/FP n ad b) H) (kg (λb=>a b\/FP n ad b) H'):=λb u g i=>by
  let(a,d):=dX g i;rw[iu (λz=>z.elim (c d (λq=>a (.inl q))) (λq=>a (.inr q)))];exact s _ _ d
 refine(h.inj,λt i a=>?_,λt i a=>?_)
 .let(d,e,_):=h.Oa t i a;exact c e (h.out t i a)
 .let(d,e,c):=h.Oa t i a;calc(d,s _ _ e,c.cv f)
theorem bS.weak{F c:Addr->Prop}(h:bS C CN CR F H x bo nt r ad)(s:au H H')(d:∀b,c b->F b\/H b=none):bS C CN CR c H' x bo nt r ad:=by
 have f:∀{b:Addr} {o:HO},H b=some o->¬F b->¬c b:=λ{b o} e c z=>(d _ z).elim c λq=>by rw[q]at e;cases e
 let((g,o,i,c),j,k):=h;calc((g,o,s _ _ i,λt a b=>(s _ _ (c t a b).1,f (c t a b).1 (c t a b).2.1,(c t a b).2.2)),j.weak s d,k.fr (Z:=λ_=>False) s.fr)
structure Rf(C CN:Addr)(H:Hp)(n:Addr)(nt:NT)(ls:jr)(ms:List Addr)(wv lv:List V):Prop where
 na:vE C CN H n nt
 nf:ml CN H n ms wv lv
 nl:fK H 1 lv (ls.map qm)
theorem Rf.fr(h:Rf C CN H n nt ls ms wv lv)(f:Fr Z H H'):Rf C CN H' n nt ls ms wv lv:=(h.na.fr f,h.nf.fr f,h.nl.aL f.aR)
theorem Nm:(RS.begin n ls).Pk n:=by
 have a:∀(ls:jr) {r:RS},r.Pk n->(r.kr ls).Pk n:=λls=>by
  induction ls with
  |nil=>calc λh=>h
  |cons p ps b=>exact λ{r} h=>b (r:=r.put p.1.toNat p.2 none) h.put
 calc a ls (List.nodup_nil,λw k e _ h=>by simp[RS.new]at h)
theorem W0(a:r.Ok nt){w:Nat}(b:nt.goal w<nt.ms.length):Ei nt (r.pick nt w k) (nt.ev r w).1 (nt.ev r w).2:=by
 have c:=(RS.kN (outs:=nt.outs (nt.goal w)) (ev:=nt.ev r w) (nt.work r w k).cM (r:=r.step nt w k)).1;refine(Int.natCast_nonneg _,by show((nt.goal w:Nat):Int)<_;lia,?_,?_)
 .show(1:Int)<=((r.mm (nt.goal w)).fH.length:Nat)
  have:=a.lh _ b;lia
 .show(((r.mm (nt.goal w)).fH.length:Nat):Int)<((((r.step nt w k).send (nt.outs (nt.goal w)) (nt.ev r w) (nt.work r w k).cM).mm ((nt.goal w:Nat):Int).toNat).fH.length:Nat);rw[aal,c];show _<(((if nt.goal w=nt.goal w then _ else r.mm (nt.goal w):MS).fH.length:Nat):Int);rw[if_pos rfl];show _<((((r.mm (nt.goal w)).fH++[_]).length:Nat):Int);rw[aas,List.length_singleton];lia
structure Np(C CN CR:Addr)(H:Hp)(n:Addr)(v:V)(nt:NT)(ls:jr)(ms:List Addr)(wv lv:List V)(x d:Addr)(a b:js)(r:RS)(L:Lg):Prop where
 run:bS C CN CR (FP nt.n b) H x n nt r a
 twin:cC (FP nt.n a) H d v nt r b
 ok:r.Ok nt
 iv:r.Iv nt
 pk:r.Pk nt
 lk:r.Lk nt L
 hh:r.Hh nt L
 pl:r=jG nt (RS.begin nt ls) r.picks
 can:vS nt (RS.begin nt ls) r.picks
 bo:Rf C CN H n nt ls ms wv lv
theorem Np.same{a:js}{d:Addr}{b:js}(h:Np C CN CR H n v nt ls ms wv lv x d a b r L)(s:au H H'):Np C CN CR H' n v nt ls ms wv lv x d a b r L:=(h.run.same s,h.twin.same s,h.ok,h.iv,h.pk,h.lk,h.hh,h.pl,h.can,h.bo.fr (Z:=λ_=>False) s.fr)
theorem Np.step{a:js}{d:Addr}{b:js}(h:Np C CN CR H n v nt ls ms wv lv x d a b r L)(g:nt.Ok){w:Nat}(c:r.Qw nt w k)(f:Fr (λz=>FP nt.n a z\/FP nt.n b z) H H')(j:bS C CN CR (FP nt.n b) H' x n nt (r.pick nt w k) a)(l:cC (FP nt.n a) H' d v nt (r.pick nt w k) b):∃e,e.length=L.length+1/\Np C CN CR H' n v nt ls ms wv lv x d a b (r.pick nt w k) e:=by
 have i:k<(r.ww w).snd.length:=by rw[<-h.ok.ls w c.lt,h.ok.lk w c.lt];exact(iF c.lies).1
 have e:=RS.Ok.pick g h.ok (k:=k) c.lt;calc(_,aas,j,l,e.1,h.iv.pick g c.lt c.lies,h.pk.pick h.iv c.lies,h.lk.pick g c.lt c.lies (cJ i),h.hh.pick h.lk h.ok g c.lt c.lies (cJ i),by rw[e.2,kX,<-h.pl],by rw[e.2];calc Im h.can (by rw[<-h.pl];calc c),h.bo.fr f)
abbrev rT:Stmt:=top 95
inductive Nq(C CN CR:Addr)(vs:List V)(H:Hp)(Q:VK):Prop
 |mk (v:V) (gj:List MD) (ws:List (Int×Int×Str)) (ls:jr) (a:Addr) (cs:List V) (h0:vs=[v,.ref a]) (h1:ToldN H v gj ws ls) (h2:B6 gj ws ls) (h3:H a=some (.lst cs)) (h4:cs.length<=30) (h5:∀c∈cs,∃z,c=.int z) (q:∀p n ms wv lv x d ad bd r L H',au H H'->H' p=some (.tup [.ref x,.ref d])->L.length<=30->Np C CN CR H' n v (gj,ws) ls ms wv lv x d ad bd r L->Q (.ref p) H'):Nq C CN CR vs H Q
def Ge(C CN CR:Addr):Sp:=λvs H Q _=>Nq C CN CR vs H Q
theorem Ip(D:cG K mg "_law_run" "_law_run" rT gk)(T:Tx K mg C CN CR F FD)(mP:Def P w K mg base "_law_begun" 1 eN F2)(pq:Def P w K mg base "_law_free" 2 ["_law_run_here"] ME)(jh:Def P w K mg base "_law_net_made" 9 eN (ye C CN))(pw:Def P w K mg base "_law_pick" 3 ef F0)(cQ:Def P w K mg base "_law_refused" 9 d8 (zN C CN CR))(gm:Def P w K mg base "_law_right" 9 cb (zO C CN CR))(pA:cn P w K mg base CR "pick" 7 a0 (Ml C CN CR))(yh:yV P w K mg base "Run" CR 2 ["self","net"] (zy C CN CR)):Def P w K mg base "_law_run" 10 gk (Ge C CN CR):=by
 exists["_law_told","_law_cells","_law_run_here","_law_twin","_law_cell","_law_free_here","_law_way","_law_number","_law_m","_law_event"];let(v,gj,ws,ls,a,cs,rfl,W2,g,IE,I,hci,q):=h;have I:=hr.units;refine(_,(ai (bf (i:=2) sc rfl Sort (EU yh hr (ag (aN jh hr (ag (aq 0) aa)) aa)))
  (ai (bf (i:=3) sc rfl Sort (aN mP hr (ag (aq 0) aa)))
  (ai (cZ PassesOwn.never rfl (bR (pv 1)) (aT (i:=4) sc rfl Sort)
  (ai (bf (i:=5) sc rfl Sort (aN pq hr (ag (aq 3) aa)))
  (ak (aW (aC (fT I) (aq 5) (bE aa) (aI _)) (ai (dS (ao I (aq 5) (aZ dI (aZ iU (aq 4) aj) (aX aM rfl T.bO Y' (ag (aq 5) aa)))) (fb (i:=6) (j:=7) rfl sc rfl rfl Sort Sort))
  (ai (bf (i:=8) sc rfl Sort (ao I (ao I (ao I (aq 0) aj) (aq 6)) aj))
  (ai (aW (PW.pt (pw_and (aC (bg I) (aZ dI (aq 4) aj) aj (aI _)) (pw_and1 (bY (bA (aN cQ hr (ag (aq 2) (ag (aq 8) (ag (aZ cB (aX aM rfl T.bO Y' (ag (ao I (ao I (aq 3) aH) (aq 8)) aa)) aj) aa))))))))) (ak (aG (bD (ag gF (ag (aq 3) aa))))) aK)
  (ai (bX (eR pA T.ba hr (aq 2) (ag (aq 6) (ag (aq 7) aa))))
  (ai (bf (i:=9) sc rfl Sort (aN pw hr (ag (aq 3) (ag (aq 6) (ag (aq 7) aa)))))
  (ak (aW (PW.pt (pw_and (aC (bg I) (aZ dI (aq 4) aj) aj (aI _)) (pw_and1 (bY (bA (aN gm hr (ag (aq 2) (ag (aq 3) (ag (ao I (aq 9) aj) (ag (ao I (aq 9) aj) (ag (bE aa) aa))))))))))) (ak (aG (bD (ag gF (ag (aq 3) aa))))) aK))))))) aK))))
  (ak (aG (bD (ag (aq 2) (ag (aq 3) aa)))))))),?_)
 obtain⟨m,Yn⟩:∃m:NT,m=(gj,ws):=(_,rfl)
 have QJ:∀l∈ls,0<=l.1/\l.1<m.ws.length:=λl I=>by rw[Yn];exact((g.lo l I).1,(g.lo l I).2.1)
 have F4:m.Ok:=by rw[Yn];exact g.nt
 calc L2.bq λW u=>?_;right;calc(v,gj,ws,ls,rfl,W2,g,λn ms wv lv X s3 SY Yi Yj=>?_);rw[<-Yn]at SY;rw[<-Yn]at q;right;intro x dx hx SG WE;have Y:au X (upd (upd X dx (.own x)) x (.ins CR dx [])):=λb o e=>by rw[ay (av e hx),ay (av e SG)];exact e
 calc(λ_=>False,x,dx,n,m,ls,ms,wv,lv,rfl,af,SY.fr (Z:=λ_=>False) Y.fr,Yi.same Y,Yj.aL Y.aR,g.l20,QJ,λb O=>O.elim,λad H4 k4 f4 Yo=>(rfl,?_));have SK:au X H4:=λb o e=>k4 b o (av e hx) (Y _ _ e);have s4:au H H4:=s3.trans SK;calc L2.bc u ?_;clear u;calc L2.bq λI h2=>?_;right;refine(FP m.n ad,v,m,ls,rfl,?_,λb O=>Yo.cU.fp O,F4,g.l20,QJ,λd B H5 s5 f5 fd hT5=>?_)
 .calc(show ToldN H v m.ms m.ws ls by rw[Yn];calc W2).cv λb o e n=>?_;rw[iu (λz=>by have:=s3.free (Y.free (f4 b z));rw[e]at this;cases this)];exact s4 _ _ e
 calc L2.bc h2 ?_;clear h2;let(Q7,Qz):=kC F4 g.l20;have R7:=SK.trans s5;have VU:=s4.trans s5;have wa:Np C CN CR H5 n v m ls ms wv lv x d ad B (RS.begin m ls) []:=(Yo.weak s5 λb O=>.inr (f5 b O),hT5,Q7,RS.Iv.begin,Nm,RS.Lk.begin,RS.Hh.begin,by rw[Qz];rfl,by rw[Qz];calc MZ,(SY.fr (Z:=λ_=>False) R7.fr,Yi.fr (Z:=λ_=>False) R7.fr,Yj.aL R7.aR))
 have nF:∀{b:Addr} {o:HO},H b=some o->¬(FP m.n ad b\/FP m.n B b):=λ{b o} e z=>by
  have no:H b=none:=z.elim (λz=>s3.free (Y.free (f4 b z))) λz=>s4.free (f5 b z);rw[e]at no;cases no
 have Nr:∀{J:Hp},Fr (λz=>FP m.n ad z\/FP m.n B z) H5 J->au H J:=λ{J} f b o e=>f.at (VU _ _ e) (nF e)
 clear Q7 Qz Yo hT5 SY Yi Yj f4 f5 fd k4 hx SG WE Y SK R7 s3 s5 s4;calc L2.bq λN5 h5=>?_;right;refine(_,rfl,.inl ((_,aS.of (VU _ _ IE)),fA (K:=K) (xs:=cs) (λi σ J=>(∃z4 z5 z6 z7 z8 z9,σ=[some v,some (V.ref a),some (V.ref x),some (V.ref d),z4,z5,z6,z7,z8,z9])/\Fr (λz=>FP m.n ad z\/FP m.n B z) H5 J/\∃r L,L.length<=i/\Np C CN CR J n v m ls ms wv lv x d ad B r L) ?_ ?_ ?_ ?_))
 .exact((_,_,_,_,_,_,rfl),Fr.refl,_,_,S' _,wa)
 .rintro i σ J g ⟨_,f,_⟩;exact aS.of (Nr f _ _ IE)
 .intro i c σ Hq hc iz;let((z4,z5,z6,z7,z8,z9,rfl),fi,r,L,hLi,N):=iz;clear h5 wa;have g:i < 30:=by have:=(iF hc).1;lia
  let(R,rfl):=hci c (aaF hc);have g:r.picks.length<40:=by rw[<-N.lk.len];lia
  have fin:∀{G:Hp} {g I T Y w9:Option V} {r':RS} {L':Lg},Fr (λz=>FP m.n ad z\/FP m.n B z) Hq G->L'.length<=i+1->Np C CN CR G n v m ls ms wv lv x d ad B r' L'->(∃z4 z5 z6 z7 z8 z9,[some v,some (V.ref a),some (V.ref x),some (V.ref d),some (V.int R),g,I,T,Y,w9]=[some v,some (V.ref a),some (V.ref x),some (V.ref d),z4,z5,z6,z7,z8,z9])/\Fr (λz=>FP m.n ad z\/FP m.n B z) H5 G/\∃r L,L.length<=i+1/\Np C CN CR G n v m ls ms wv lv x d ad B r L:=λf l h=>((_,_,_,_,_,_,rfl),fi.trans f,_,_,l,h)
  calc L2.bq λW u=>?_;right;calc(FP m.n ad,d,v,m,r,B,rfl,N.twin,N.ok,(),λlf ys H2 s2 g zA IG=>?_);calc L2.bc u ?_;clear u;calc L2.fG λg l wW qJ=>?_;right;calc(aam _,λp0 g=>?_);have sp:=au.new (.lst []) g;have Rg:=sp _ _ zA;have acK:=IG.aL sp.aR;have hep:upd H2 p0 (.lst []) p0=some (.lst []):=af;have qH:=s2.trans sp;generalize upd H2 p0 (.lst [])=Gp at *;by_cases hy:ys=[]
  .subst hy;refine .inl (qD Rg hep,?_)
   try rw[if_neg ∅]
   calc L2.bc qJ ?_;exact fin qH.fr () (N.same qH)
  refine .inr ((ys,[],λh=>hy (List.length_eq_zero_iff.mp h),.inl (aS.of Rg,aS.of hep)),?_)
  try rw[if_pos trivial]
  calc L2.bc wW ?_;clear wW qJ;have HX:=N.same qH;have g:0<ys.length:=List.length_pos_iff.mpr hy;obtain⟨kf,acL⟩:∃kf:Nat,R/3%(ys.length:Int)=kf:=((R/3%(ys.length:Int)).toNat,by have:=aby (R/3) (show(ys.length:Int)≠0 by lia);lia)
  have uS:kf<ys.length:=by have:=abF (R/3) (show(0:Int)<ys.length by lia);lia
  have g:ys.length=(lM m r m.ws.length).length:=(acK.1:)
  have hkf:kf<(lM m r m.ws.length).length:=();have hel:=acK.2 kf ys[kf] _ (cJ uS) (by rw[K',cJ hkf];rfl);have AD:=aaJ hkf;generalize (lM m r m.ws.length)[kf]=pr at *;let(y,M):=pr;have tO:=MC N.ok AD;let(g,eta,tJ):=nZ hel;calc L2.bq λW u=>?_;right;calc((∅,⋯),_,.inl (_,aS.of Rg,rfl),(),_,_,.inl (aS.of Rg),by rw[acL];calc aA (cJ uS),?_);rw[eta];calc vf (bI.of tJ) ?_;calc L2.bc u ?_;clear u acL;have hHG:=(Nr fi).trans qH;let(t,am,aw,al,mv,wv0,lv0,rfl,g1,g,g3,I,T,l,Y):=W2;have S:y<m.ws.length:=tO.lt;have I:ws=m.ws:=by rw[Yn]
  have g:wv0.length=ws.length:=(l.1:)
  have Sa:y<wv0.length:=by rw[g,I];exact S
  have zp:=(l.2 y wv0[y] (mf (m.w y)) (cJ Sa) (by rw[K',I,show m.ws[y]?=some (m.w y) from aP S];rfl)).aL hHG.aR;let(g,T,Y,u3,kk,etw,htw,y1,y2,y3):=bV zp;obtain rfl:=y1.cF;obtain rfl:=y2.cF;clear y1 y2 y3 zp;have ou:(m.w y).2.1=((m.goal y:Nat):Int):=by
   have:=F4.K5 (m.w y) (by unfold NT.w;calc getD_mem S);unfold NT.goal;lia
  have HQ:m.goal y<m.ms.length:=by
   have:=F4.K5 (m.w y) (by unfold NT.w;calc getD_mem S);unfold NT.goal;lia
  calc L2.bq λW u=>?_;right;calc cL (hHG _ _ g1) (aA (j:=1) rfl) ?_;right;calc bH (hHG _ _ g3) (aA (cJ Sa)) ?_;rw[etw];right;calc cL htw (aA (j:=1) rfl) ?_;rw[ou];calc L2.bc u ?_;clear u;calc L2.bq λW u=>?_;calc L2.fG λg U1 hT1 hU1=>?_;right;have go:∀G,au Gp G->U1 [some (V.ref t),some (V.ref a),some (V.ref x),some (V.ref d),some (V.int R),some (V.ref lf),some (V.int ((y:Nat):Int)),some (V.int ((M:Nat):Int)),some (V.int ((m.goal y:Nat):Int)),z9] G:=λG sG=>by
   calc L2.bc hU1 ?_;show W _ _;calc L2.bc u ?_;clear u hT1 hU1;have W3:=HX.same sG;let(dx,o,hx,g):=W3.run.ins;calc L2.bq λW u=>?_;right;calc(x,dx,_,rfl,hx,eB ⋯,FP m.n B,x,n,m,r,ad,y,M,rfl,W3.run,λb O=>W3.twin.cU.fp O,W3.ok,tO,(),λg H4 f4 Yo _=>?_);calc L2.bc u ?_;clear u;have hT4:=W3.twin.keep f4;calc L2.bq λW u=>?_;right;calc(FP m.n ad,d,.ref t,m,r,B,y,M,rfl,hT4,λb O=>Yo.cU.fp O,W3.ok,tO,(),λtv X g hT3 Bz=>?_);calc L2.bc u ?_;clear u;have hR3:=Yo.keep g;have f34:Fr (λz=>FP m.n ad z\/FP m.n B z) G X:=(f4.mono λb z=>.inl z).trans (g.mono λb z=>.inr z);let(L',g,hD'):=W3.step F4 tO f34 hR3 hT3;let(tv,rfl,UZ):=nZ Bz;have Qh:=W0 (k:=M) N.ok HQ;calc L2.fG λg U2 Pm hU2=>?_;right;have U:∀J,au X J->U2 [some (V.ref t),some (V.ref a),some (V.ref x),some (V.ref d),some (V.int R),some (V.ref lf),some (V.int ((y:Nat):Int)),some (V.int ((M:Nat):Int)),some (V.int ((m.goal y:Nat):Int)),some (V.ref tv)] J:=λJ sJ=>by
    calc L2.bc hU2 ?_;exact fin ((qH.trans sG).fr.trans (f34.trans sJ.fr)) () (hD'.same sJ)
   clear Pm hU2;calc(∅,?_);by_cases e2:R%3=1
   .rw[aaC e2]
    try rw[if_pos rfl]
    calc cL UZ (aA (j:=0) rfl) ?_;right;calc cL UZ (aA (j:=1) rfl) ?_;calc(aam _,λo l=>?_);have s8:=au.new (.lst []) l;have g:=hD'.same s8;calc(FP m.n B,x,n,m,_,ad,L',FP m.n ad,d,.ref t,B,_,_,o,rfl,g.run,g.twin,g.ok,g.iv,g.pk,g.lk,(),g.hh,Qh,([],af,nofun,λi v l=>by simp at l),λJ sJ=>?_);right
    try rw[if_neg ∅]
    exact U J (s8.trans sJ)
   .rw[aaE e2]
    try rw[if_neg ∅]
    try rw[if_neg ∅]
    exact U X λ_ _ e=>e
  clear u;calc(∅,?_);by_cases e1:R%3=1
  .rw[aaC e1]
   try rw[if_pos rfl]
   let(o,hd,g,u,l):=HX.twin.dk;have l3:=(l 3 ∅ ∅).1;let(g,ev1,o):=HX.twin.cU.lst (t:=3) (i:=m.goal y) HQ rfl;have zl:g.length=(r.mm (m.goal y)).hr.length:=(o.1:)
   calc bN _ (zE hd) ?_;right;calc bH l3 (bz HQ) ?_;calc(_,.inl (_,aS.of ev1,rfl),?_);rw[zl];refine(FP m.n B,x,n,m,r,ad,L,_,_,rfl,HX.run,HX.ok,HX.lk,(),λz=>?_,λH7 s7=>?_)
   .have g:=N.ok.lh _ HQ;have g:=z.2.2.2;rw[aal]at g;lia
   right
   try rw[if_neg ∅]
   exact go H7 s7
  .rw[aaE e1]
   try rw[if_neg ∅]
   try rw[if_neg ∅]
   exact go Gp λ_ _ e=>e
 .intro σ H6 iY;let((z4,z5,z6,z7,z8,z9,rfl),f56,r,L,hLi,N):=iY;show N5 _ _;calc L2.bc h5 ?_;clear h5 wa;right;calc(dO,λp g=>?_);have sp:=au.new (.tup [.ref x,.ref d]) g;calc q p n ms wv lv x d ad B r L _ ((Nr f56).trans sp) af () (N.same sp)
theorem Iq(xs:List V):eD xs none (some (-1))=xs.take (xs.length-1):=by
 unfold eD;show(xs.drop 0).take (((-1:Int)+(xs.length:Int)).toNat-0)=_;rw[List.drop_zero];congr 1;lia
theorem Nt{c:List DV}(h:fK H n vs c):fK H n (vs.take k) (c.take k):=⟨by rw[aa1,aa1,h.1],λi v d a b=>by
 rw[List.getElem?_take]at a b;split at a
 .next q=>rw[if_pos q]at b;exact h.2 i v d a b
 .cases a⟩
theorem Gf(d:nt.Ok)(c:ls.length<=20):∀n (s:jr),s.length=n->vS nt (RS.begin nt ls) s->∃L,(jG nt (RS.begin nt ls) s).Lk nt L/\L.length=s.length
 |0,s,f,_=>by
  have:s=[]:=List.length_eq_zero_iff.mp f;subst this;calc([],RS.Lk.begin,rfl)
 |n+1,s,f,j=>by
  rcases List.eq_nil_or_concat s with rfl|⟨g,p,h⟩
  .simp at f
  rw[List.concat_eq_append]at h;subst h;let(i,w,k,rfl,e):=yf j;let(L,a,b):=Gf d c n g (f:) i;have h:=(uf d (kC d c).1 (kC d c).2 _ _ rfl i).1;rw[kX];have f:k<((jG nt (RS.begin nt ls) g).ww w).snd.length:=by rw[<-h.ls w e.lt,h.lk w e.lt];exact(iF e.lies).1
  calc(_,a.pick d e.lt e.lies (cJ f),by rw[aas,aas,b];rfl)
abbrev yi:Stmt:=top 96
def zP(K:W.Frag):Sp:=λvs H Q _=>∃(a:Addr) (ns:List Int),vs=[.ref a]/\aS K H a (ns.map V.int)/\ns.length<=63/\∀H',Q (.bl true) H'
theorem W4{f:Addr}(D:JV K "law" "law" yi f A)(T:Tx K mg C CN CR F FD)(fS:Def P w K mg base "_law_at" 1 eu (LJ K))(lp:Def P w K mg base "_law_counts" 1 ["_law_twin"] Nf)(rV:Def P w K mg base "_law_net" 5 fv (FY K))(gb:Def P w K mg base "_law_possible_cut" 1 g8 F9)(cQ:Def P w K mg base "_law_refused" 9 d8 (zN C CN CR))(gm:Def P w K mg base "_law_right" 9 cb (zO C CN CR))(rW:Def P w K mg base "_law_run" 10 gk (Ge C CN CR))(lu:Def P w K mg base "played_run" 7 ["net","schedule"] (F3 C CN CR))(dN:cn P w K mg base CR "count" 4 bQ (zt C CN CR))(dG:cn P w K mg base CR "net" 1 b0 (qv C CN CR)):kI P w K mg base GU 11 f A fv (zP K):=by
 have W:aE ["_law_script","_law_told","_law_run_here","_law_twin","_law_cuts","_law_counts_here","_law_beside","_law_m","_law_c","_law_far"] fv (az yi):=by walk_at "s"
 refine D.ok W (λvs H Q E h=>?_) (λfL A outer s H vs Q E l h=>?_)
 .let(a,ns,rfl,hS,h63,q):=h;rfl
 .let(a,ns,rfl,hS,h63,q):=h;have A:=l.units;refine(_,(ai (bf (i:=1) W.nd rfl Sort (aN rV l (ag (aq 0) aa)))
   (ai (dS (aN rW l (ag (aq 1) (ag (K6 (aq 0) (iK aj) (iK aj)) aa))) (fb (i:=2) (j:=3) rfl W.nd rfl rfl Sort Sort))
   (ai (aW (aC yJ (aq 2) gF (aI _)) (ak (aG gp)) aK)
   (ai (fC (i:=4) W.nd rfl Sort (N':=["_law_cell","_law_twin"]) (ix:=[none,some 3]) (bR (K6 (aq 0) (iK aj) (iK aj))) (λ_ _ _ _=>(aT (i:=0) (iw ["_law_cell","_law_twin"]) rfl Sort)) nJ (λ_ _ _ _=>(aN gb l (ag (aq 1) (ag (aq 0) aa)))))
   (ai (bf (i:=5) W.nd rfl Sort (aN lp l (ag (aq 3) aa)))
   (ai (bf (i:=6) W.nd rfl Sort (aN lu l (ag (dW dG T.ba l (aq 2)) (ag (uM (ao A (aq 3) aH) pV (iK (lJ ip aj))) aa))))
   (ai (cZ PassesOwn.never rfl (cD rfl T.dD (ag (aX aM rfl T.bO Y' (ag (aq 5) aa)) aa)) (aT (i:=7) W.nd rfl Sort)
   (ak (aW (PW.pt (pw_and (aC gr (eR dN T.ba l (aq 6) (ag (aq 7) aa)) (ao A (aq 5) (aq 7)) (aI _)) (pw_and1 (bY (bA (aN cQ l (ag (aq 6) (ag (aq 7) (ag (ao A (aq 5) (aq 7)) aa))))))))) (ak (aG gp)) aK)))
   (ai (cZ PassesOwn.never rfl (cD rfl T.dD (ag (aX aM rfl T.bO Y' (ag (aq 5) aa)) aa)) (aT (i:=7) W.nd rfl Sort)
   (ai (cZ PassesOwn.never rfl (GB rfl T.dD (ag aj (ag (aZ cB (ao A (aq 5) (aq 7)) aj) aa))) (aT (i:=8) W.nd rfl Sort)
   (ak (aW (bY (bA (aN gm l (ag (aq 2) (ag (aq 3) (ag (aq 7) (ag (aq 8) (ag (aq 4) aa)))))))) (ak (aG gp)) aK)))
   (ai (bf (i:=9) W.nd rfl Sort (aZ dI (aZ iU (aN fS l (ag (aq 0) (ag aj aa))) aj) (aZ pW aj aj)))
   (ak (cZ PassesOwn.never rfl (bR (bE (ag aj (ag (aZ cB (aZ cB (ao A (aq 5) (aq 7)) aj) (aq 9)) (ag (aZ dR (lJ ip aj) (aq 9)) aa))))) (aT (i:=8) W.nd rfl Sort)
   (ak (aW (bY (bA (aN cQ l (ag (aq 2) (ag (aq 7) (ag (aq 8) aa)))))) (ak (aG gp)) aK)))))))
   (ak (aG (jI (aN cQ l (ag (aq 2) (ag (aZ cB (aX aM rfl T.bO Y' (ag (aq 5) aa)) (aZ dI (aN fS l (ag (aq 0) (ag aj aa))) aj)) (ag aj aa)))) (il (aN cQ l (ag (aq 2) (ag (lJ ip aj) (ag aj aa)))))))))))))))),?_)
  calc L2.bq λN m=>?_;right;calc(a,ns,rfl,hS,h63,λt am aw al mv wv lv gj ws ls H1 s1 l A E T W g6 g7 g=>?_);have W2:ToldN H1 (.ref t) gj ws ls:=(t,am,aw,al,mv,wv,lv,rfl,l,A,E,T,W,g6,g7)
  clear l A E T W g6 g7;calc L2.bc m ?_;clear m;calc L2.bq λN m=>?_;right;calc(_,s1.seq hS,λlc hlc=>?_);have slc:=au.new (.lst (eD (ns.map V.int) (some 9) (some 39))) hlc;have Ym:upd H1 lc (.lst (eD (ns.map V.int) (some 9) (some 39))) lc=some (.lst (eD (ns.map V.int) (some 9) (some 39))):=af;have s2:=s1.trans slc;generalize upd H1 lc (.lst (eD (ns.map V.int) (some 9) (some 39)))=H2 at *;refine(.ref t,gj,ws,ls,lc,_,rfl,W2.cv slc.cv,g,Ym,E5 (i:=9) (j:=39),λc hc=>?_,λp n ms wv lv x d ad bd r L H3 X ep hLl hD=>?_)
  .let(z,_,rfl):=List.mem_map.mp (E6 hc);exact(z,rfl)
  have rH:=s2.trans X;have F4:NT.Ok (gj,ws):=g.nt;have g20:=g.l20;have glo:∀l∈ls,0<=l.1/\l.1<(NT.mk gj ws).ws.length:=λl hl=>((g.lo l hl).1,(g.lo l hl).2.1)
  clear g;generalize NT.mk gj ws=nt at *;calc vf (bI.of ep) ?_;calc L2.bc m ?_;clear m Ym hlc s1 s2 X slc W2;calc L2.bq λN m=>?_;right
  try rw[if_neg ∅]
  calc L2.bc m ?_;clear m;calc L2.bq λN m=>?_;calc bJ ?_;right;calc(_,rH.seq hS,λlq hlq=>?_);have aif:(eD (ns.map V.int) (some 39) (some 63)).length<=24:=E5 (i:=39) (j:=63);have acM:∀c∈eD (ns.map V.int) (some 39) (some 63),∃z,c=.int z:=λc hc=>by
   let(z,_,rfl):=List.mem_map.mp (E6 hc);exact(z,rfl)
  have g:r.picks.length<=30:=by rw[<-hD.lk.len];exact hLl
  have slq:=au.new (.lst (eD (ns.map V.int) (some 39) (some 63))) hlq;have WJ:upd H3 lq (.lst (eD (ns.map V.int) (some 39) (some 63))) lq=some (.lst (eD (ns.map V.int) (some 39) (some 63))):=af;have HV:=hD.same slq;have L8:=rH.trans slq;clear ep rH hD;generalize upd H3 lq (.lst (eD (ns.map V.int) (some 39) (some 63)))=H4 at *;generalize eD (ns.map V.int) (some 39) (some 63)=cq at *;calc .inl ((_,aS.of WJ),λD zW=>?_);refine bu (J:=xf K lq) (n:=cq.length) (λi ys J=>au H4 J/\∀(i:Nat) v,ys[i]?=some v->∃t cut,v=.ref t/\J t=some (.tup (cut.map V.int))/\Bq nt.ms.length L cut) (T' (aD ())) (au.new _ zW,λi v h=>by simp at h) ?_ ?_ ?_ ?_
  .rintro i ys J O ⟨u,_⟩;exact(_,cq[i],aS.of (u _ _ WJ),cJ O)
  .rintro ys J ⟨u,_⟩;exact(_,aS.of (u _ _ WJ),S' _)
  .intro i ys J O bt hl zq xx g qk;let(u,hv):=zq;let(rfl,y):=qk;have ex:=y _ (aS.of (u _ _ WJ));rw[cJ O] at ex;obtain rfl:=Option.some.inj ex;let(z,hz):=acM _ (aaJ O);rw[hz];calc(Ext.set (Ext.refl _) rfl,?_);right;refine(FP nt.n ad,d,.ref t,nt,r,bd,L,z,rfl,(HV.same u).twin,HV.ok,HV.lk,HV.hh,(),λtc cut g X etc pR=>?_)
   try rw[if_pos trivial]
   have M5:=X _ _ bt;calc b4 M5 hl O (T' (aD ())) (λc o e=>by rw[ay (av e zW)];calc X _ _ (u _ _ e),λj v Qt=>?_);by_cases q:j<ys.length
   .rw[aag q]at Qt;let(l,g,e1,A,e3):=hv j v Qt;have Rz:=X _ _ A;exact(l,g,e1,by rw[ay (λz=>by rw[z,M5]at Rz;cases Rz)];calc Rz,e3)
   .rw[aad ()] at Qt;have g:j - ys.length=0:=by have:=(iF Qt).1;simp at this;lia
    rw[g]at Qt
    cases Qt;exact(tc,cut,rfl,by rw[ay (λz=>by rw[z,M5]at etc;cases etc)];calc etc,pR)
  rintro ys j bt l ⟨g,hv⟩;have RA:vW nt.ms.length L j D:=(ys,bt,(),hv)
  have wa:=HV.same g;have s15:=L8.trans g;clear hv bt l HV L8 g WJ hlq zW slq acM aif;calc L2.bc m ?_;clear m;calc L2.bq λN m=>?_;right;calc(FP nt.n ad,d,.ref t,nt,r,bd,rfl,wa.twin,λlk H6 g Yl=>?_);calc L2.bc m ?_;clear m;have IX:=wa.same g;have hC6:=RA.same g;have IZ:=s15.trans g;clear wa RA s15 g;calc L2.bq λN m=>?_;right;let(dx,o,hx,ho):=IX.run.ins;calc(x,dx,_,rfl,hx,eB ⋯,FP nt.n bd,x,n,nt,r,ad,rfl,IX.run,?_);let(g,hd,nF,nP,jH):=IX.twin.dk;calc(_,abq hd,?_);let(B,eve,dve):=IX.twin.cU.lst (t:=0) (i:=0) (by show 0<1;decide) rfl;have hve:=F5 dve |>.aL dY.aR
  right;calc .inl (B,eve,λle hle=>?_);rw[Iq];have g:B.length=r.picks.length:=by have:=hve.1;rwa [V']at this
  have s7:=au.new (.lst (B.take (B.length-1))) hle;have el:upd H6 le (.lst (B.take (B.length-1))) le=some (.lst (B.take (B.length-1))):=af;have bt:fK H6 1 (B.take (B.length-1)) ((r.picks.take (B.length-1)).map pairD):=by rw[List.map_take];exact Nt hve
  have acN:=bt.aL s7.aR;have Yp:=IX.same s7;have hC7:=hC6.same s7;have s17:=IZ.trans s7;have acO:=s7 _ _ Yl;clear eve dve hve bt hd jH nF nP hx ho hle;generalize upd H6 le (.lst (B.take (B.length-1)))=H7 at *;have hca:=yg Yp.can (B.length-1);let(L2',acP,aik):=Gf F4 g20 _ _ rfl hca;have acQ:=(uf F4 (kC F4 g20).1 (kC F4 g20).2 _ _ rfl hca).1;calc(λ_=>False,n,le,nt,ls,_,_,_,_,r.picks.take (B.length-1),rfl,Yp.bo.na,Yp.bo.nf,Yp.bo.nl,g20,glo,el,acN,by rw[aa1];lia,λb g=>g.elim,hca,λy ad2 H8 s8 _ _ hR8=>?_);generalize hr2:jG nt (RS.begin nt ls) (r.picks.take (B.length-1))=r2 at *;have XR:L2'.length<=40:=by rw[aik,aa1];lia
  calc L2.bc m ?_;clear m hr2 acN el hca;have OA:=Yp.same s8;have hC8:=hC7.same s8;have s18:=s17.trans s8;have Rh:=s8 _ _ acO;clear Yp hC7 s17 acO s8 IX hC6 IZ Yl s7;have g:=F4.K4;calc L2.bq λN m=>?_;right;calc(_,.inl (_,aS.of Rh,rfl),?_);rw[V',V',List.length_range];refine(_,rfl,(),(),gh (n:=nt.ms.length) (λi σ J=>(∃z7,σ=[some (V.ref a),some (V.ref t),some (V.ref x),some (V.ref d),some (V.ref D),some (V.ref lk),some (V.ref y),z7,none,none])/\au H8 J) ?_ ?_ ?_)
  .exact((_,rfl),λ_ _ e=>e)
  .intro i σ J O zq;let((z7,rfl),u):=zq;clear m;have hR:=hR8.same u;let(dx,o,hx,ho):=hR.ins;have ex:∀{P:V->Prop},P (.int (((r.mm i).hr.length:Nat):Int))->∃xs v,(aS K J lk xs\/bI K J lk xs)/\hV xs ((i:Nat):Int)=some v/\P v:=λh=>bH (u _ _ Rh) (aA (by rw[K',K',List.getElem?_range O];rfl)) h;calc L2.fG λT0 U0 wW qJ=>?_;right;have go:∀G,au J G->U0 [some (V.ref a),some (V.ref t),some (V.ref x),some (V.ref d),some (V.ref D),some (V.ref lk),some (V.ref y),some (V.int ((i:Nat):Int)),none,none] G:=λG R=>by
    calc L2.bc qJ ?_;exact((_,rfl),u.trans R)
   clear wW qJ
   try rw[acq]
   calc(y,dx,_,rfl,hx,eB ⋯,λ_=>False,y,n,nt,r2,ad2,i,rfl,hR,O,?_);calc ex ?_;right;by_cases e1:(((r2.mm i).fH.length:Nat):Int)-1<(((r.mm i).hr.length:Nat):Int)
   .rw[aaC e1]
    try rw[if_pos rfl]
    calc ex ?_;refine(λ_=>False,y,n,nt,r2,ad2,L2',_,_,rfl,hR,acQ,acP,XR,λz=>?_,λG R=>?_)
    .have z2:=z.2.2.2;rw[aal]at z2;lia
    right
    try rw[if_neg ∅]
    exact go G R
   .rw[aaE e1]
    try rw[if_neg ∅]
    try rw[if_neg ∅]
    exact go J λ_ _ e=>e
  .rintro σ J ⟨⟨z7,rfl⟩,u⟩;show N _ _;calc L2.bc m ?_;clear m;have I:=OA.same u;have hC9:=hC8.same u;have Ir:=u _ _ Rh;have s19:=s18.trans u;clear OA hC8 Rh s18 u hR8 acP acQ;calc L2.bq λN m=>?_;right;calc(_,.inl (_,aS.of Ir,rfl),?_);rw[V',V',List.length_range];refine(_,rfl,(),(),gh (n:=nt.ms.length) (λi σ G=>(∃z7 S z9,σ=[some (V.ref a),some (V.ref t),some (V.ref x),some (V.ref d),some (V.ref D),some (V.ref lk),some (V.ref y),z7,S,z9])/\au J G) ?_ ?_ ?_)
   .exact((_,_,_,rfl),λ_ _ e=>e)
   .intro i σ G O zq;let((z7,S,z9,rfl),R):=zq;clear m;have I:=I.same R;have hC9:=hC9.same R;have Ir:=R _ _ Ir;have g:=I.ok.lh i O;have g:=I.ok.bp i O;have ex:∀{P:V->Prop},P (.int (((r.mm i).hr.length:Nat):Int))->∃xs v,(aS K G lk xs\/bI K G lk xs)/\hV xs ((i:Nat):Int)=some v/\P v:=λh=>bH Ir (aA (by rw[K',K',List.getElem?_range O];rfl)) h;calc L2.bq λN m=>?_;right
    try rw[acq]
    calc ex ?_;calc(_,_,rfl,(∅,∅,(),()),?_);rw[show((((r.mm i).hr.length:Nat):Int)+1-1).toNat=(r.mm i).hr.length by lia];refine gh (lo:=1) (n:=(r.mm i).hr.length) (λk σ Y=>(∃S,σ=[some (V.ref a),some (V.ref t),some (V.ref x),some (V.ref d),some (V.ref D),some (V.ref lk),some (V.ref y),some (V.int ((i:Nat):Int)),S,z9])/\au G Y) ?_ ?_ ?_
    .exact((_,rfl),λ_ _ e=>e)
    .intro k σ Y hk zq;let((S,rfl),sY):=zq;clear m;have W5:=I.same sY;calc L2.fG λT0 U0 wW qJ=>?_;right;calc(FP nt.n bd,x,n,nt,r,ad,L,FP nt.n ad,d,.ref t,bd,_,_,D,rfl,W5.run,W5.twin,W5.ok,W5.iv,W5.pk,W5.lk,(),W5.hh,((),(),(),by rw[aal];lia),hC9.same sY,λg sY2=>?_);right
     try rw[if_neg ∅]
     calc L2.bc qJ ?_;exact((_,rfl),sY.trans sY2)
    .rintro σ Y ⟨⟨S,rfl⟩,sY⟩;show N _ _;calc L2.bc m ?_;clear m;calc L2.bq λN m=>?_;right;calc(a,ns,8,rfl,(s19.trans (R.trans sY)).seq hS,∅,λc0=>?_);have g:(0:Int) < 10 ^ Int.toNat 20:=∅;calc((∅,⋯),(∅,∅,∅),g,?_);obtain⟨M,j,l⟩:∃M:Int,c0/7%10^Int.toNat 20=M/\0<=M:=(_,rfl,aby _ (Int.ne_of_gt g))
     show N [some (V.ref a),some (V.ref t),some (V.ref x),some (V.ref d),some (V.ref D),some (V.ref lk),some (V.ref y),some (V.int ((i:Nat):Int)),S,some (V.int (c0/7%10^Int.toNat 20))] Y;rw[j];calc L2.bc m ?_;clear m g j;calc bH (sY _ _ Ir) (aA (by rw[K',K',List.getElem?_range O];rfl)) ?_;calc(1,rfl,by show 3<=sizeLine;decide,λl3 l=>?_);generalize hZ:upd Y l3 (.lst [.int 0,.int ((((r.mm i).hr.length:Nat):Int)+1+M),.int (-1-M)])=Z at *;let(X,e3):=aaB hZ l;have hDZ:=(I.same sY).same X;have sYZ:=sY.trans X;change _\/_;refine .inl ((_,aS.of e3),fA (K:=K) (xs:=[.int 0,.int ((((r.mm i).hr.length:Nat):Int)+1+M),.int (-1-M)]) (λk σ U=>(∃S,σ=[some (V.ref a),some (V.ref t),some (V.ref x),some (V.ref d),some (V.ref D),some (V.ref lk),some (V.ref y),some (V.int ((i:Nat):Int)),S,some (V.int M)])/\au Z U) ?_ ?_ ?_ ?_)
     .exact((_,rfl),λ_ _ e=>e)
     .rintro k σ U hk ⟨_,sU⟩;exact aS.of (sU _ _ e3)
     .intro k xx σ U R9 zq;let((S,rfl),sU):=zq;have hDU:=hDZ.same sU;obtain⟨cz,rfl,g⟩:∃cz:Int,xx=.int cz/\(cz<1\/((((r.mm i).hr.length:Nat):Int)+1<=cz)):=by
       match k,R9 with
       |0,h=>cases h;calc(0,rfl,.inl ())
       |1,h=>cases h;calc(_,rfl,.inr ())
       |2,h=>cases h;calc(_,rfl,.inl ())
       |k+3,h=>simp at h
      calc L2.fG λT0 U0 wW qJ=>?_;right;refine(FP nt.n bd,x,n,nt,r,ad,L,_,_,rfl,hDU.run,hDU.ok,hDU.lk,(),λz=>?_,λg sU2=>?_)
      .have z1:=z.2.2.1;have z2:=z.2.2.2;rw[aal]at z2;lia
      right
      try rw[if_neg ∅]
      calc L2.bc qJ ?_;exact((_,rfl),sU.trans sU2)
     .rintro σ U ⟨⟨S,rfl⟩,sU⟩;exact((_,_,_,rfl),R.trans (sYZ.trans sU))
   .rintro σ G ⟨⟨z7,S,z9,rfl⟩,R⟩;show N _ _;calc L2.bc m ?_;clear m;right;have I:=I.same R;calc(_,.inl (_,aS.of (R _ _ Ir),rfl),?_);rw[V',V',List.length_range];calc(a,ns,8,rfl,(s19.trans R).seq hS,∅,λc0=>?_);right;calc(∅,?_);have g:=aby c0 (show(3:Int)≠0 by decide);generalize c0%3=cc at *;right;calc(FP nt.n bd,x,n,nt,r,ad,L,_,_,rfl,I.run,I.ok,I.lk,(),λz=>by have z1:=z.2.1;lia,λh g=>?_);calc(_,rfl,?_);rw[if_pos rfl];calc(FP nt.n bd,x,n,nt,r,ad,L,_,_,rfl,(I.same g).run,I.ok,I.lk,(),λz=>by have z1:=z.1;lia,λh g=>q _)
end
end IQ
namespace IQ
open PySem L2 DD
variable {K:W.Frag}
structure ju(K:W.Frag)(B C:Addr)(x:Str):Prop where
 ax:W.nsIn K mainGlobals x=some (some (.ref C))
 ob:∃nm q N bs sn sub ab col dd k0 k1 k2 k3 k5,K.lookup C=some (excClassObj nm q C N bs (.ref B::uG) true sn sub ab col dd k0 k1 k2 k3 k5 "ValueError.__new__")
 ga:W.findIn K (.ref C) "__getattribute__"=some (some (.builtin "BaseException.__getattribute__"))
 gt:W.findIn K (.ref C) "__getattr__"=some none
 sa:W.findIn K (.ref C) "__setattr__"=some (some (.builtin "object.__setattr__"))
 cl:W.findIn K (.ref C) "__class__"=some (some (.builtin "object.__class__"))
 kp:W.keepIn K (.ref C)=true
theorem acR(l:W.nsIn K mainGlobals x=some (some (.ref C)))(m:K.lookup C=some (excClassObj c q C N bs (.ref B::uG) true d a e b f g h i j k "ValueError.__new__"))(a:W.findIn K (.ref C) "__getattribute__"=some (some (.builtin "BaseException.__getattribute__")))(b:W.findIn K (.ref C) "__getattr__"=some none)(c:W.findIn K (.ref C) "__setattr__"=some (some (.builtin "object.__setattr__")))(d:W.findIn K (.ref C) "__class__"=some (some (.builtin "object.__class__")))(e:W.keepIn K (.ref C)=true):ju K B C x:=
 (l,(_,_,_,_,_,_,_,_,_,_,_,_,_,_,m),a,b,c,d,e)
theorem ju.cls(h:ju K B C x)(a:W.specialIn K (.builtin "object.__class__") "__get__"=some (some (.builtin "getset_descriptor.__get__")))(ct:W.takesIn K (.builtin "object.__class__")=some true):kM K C B:=
 (h.ob,h.ga,h.gt,h.sa,h.cl,a,ct,h.kp)
def FnAt(K:W.Frag)(f:Addr)(x q:Str)(a:Stmt):Prop:=∃od c d e kV g h b ct,K.lookup f=some (e,od,.func (W.fnOf x q (fq a) (cW a) (az a) .none kV g h c b ct),d)/\W.codeIn K b q=true/\W.keepIn K (.ref f)=true
def DF(K:W.Frag)(x:Str)(a:Stmt):Prop:=∃f,W.nsIn K mainGlobals x=some (some (.ref f))/\FnAt K f x x a
def MF(K:W.Frag)(C:Addr)(m q:Str)(a:Stmt):Prop:=∃f,W.findIn K (.ref C) m=some (some (.ref f))/\W.isFn K (.ref f)=true/\FnAt K f m q a
def S9(x q:Str)(a:Stmt)(c:List Str):Prop:=∀(kV b d:Value) (e:Option Addr) (f ct:Value) (us:List Value),us.length=c.length->bindArgs (W.fnOf x q (fq a) (cW a) (az a) .none kV b d e f ct) (us,[])=pure (c.zip us)
theorem Ta{kV:Value}(a:W.nsIn K mainGlobals x=some (some (.ref f)))(l:K.lookup f=some (oc,od,.func (W.fnOf x x (fq st) (cW st) (az st) .none kV dc pm an cd ct),sl))(c:W.codeIn K cd x=true)(k:W.keepIn K (.ref f)=true):DF K x st:=(f,a,_,_,_,_,_,_,_,_,_,l,c,k)
theorem Tb{kV:Value}(a:W.findIn K (.ref C) m=some (some (.ref f)))(i:W.isFn K (.ref f)=true)(l:K.lookup f=some (oc,od,.func (W.fnOf m q (fq st) (cW st) (az st) .none kV dc pm an cd ct),sl))(c:W.codeIn K cd q=true)(k:W.keepIn K (.ref f)=true):MF K C m q st:=(f,a,i,_,_,_,_,_,_,_,_,_,l,c,k)
theorem aV(X:K.In h)(G:h.Ns mainGlobals mg)(d:DF K x st)(b:S9 x x st ps):cG K mg x x st ps:=by
 let(f,a,_,_,_,_,_,_,_,_,_,l,c,k):=d;calc(_,_,oq l c k,W.mg_of X G a,(oq l c k).binds b)
theorem cR(d:MF K C m q st)(b:S9 m q st ps):iM K C m q st ps:=by
 let(f,a,i,_,_,_,_,_,_,_,_,_,l,c,k):=d;calc(_,_,(a,i,k),oq l c k,(oq l c k).binds b)
theorem zQ(X:K.In h)(G:h.Ns mainGlobals mg)(e:W.makesIn K C=true)(g:W.keepIn K (.ref C)=true)(d:MF K C "__init__" q st)(j:W.nsIn K mainGlobals x=some (some (.ref C)))(b:S9 "__init__" q st ps):Hd K mg x C q st ps:=by
 let(f,a,i,_,_,_,_,_,_,_,_,_,l,c,k):=d;calc((_,_,(e,a,i,g),oq l c k,(oq l c k).binds b),W.mg_of X G j)
theorem pB{us:List Value}{n:Nat}(h:us.length=n+1):∃x r,us=x::r/\r.length=n:=by
 cases us with
 |nil=>cases h
 |cons x r=>calc(x,r,rfl,Nat.succ.inj h)
theorem lQ(e:∀(kV a pm:Value) (an:Option Addr) (c ct b:Value),bindArgs (W.fnOf x q (fq st) (cW st) (az st) .none kV a pm an c ct) ([b],[])=pure ([p0].zip [b])):S9 x q st [p0]:=λkV a pm an c ct g d=>by
 let(b,h,rfl,f):=pB d
 cases List.length_eq_zero_iff.mp f;calc e ..
theorem gT(e:∀(kV a pm:Value) (an:Option Addr) (d ct b c:Value),bindArgs (W.fnOf x q (fq st) (cW st) (az st) .none kV a pm an d ct) ([b,c],[])=pure ([p0,p1].zip [b,c])):S9 x q st [p0,p1]:=λkV a pm an d ct i f=>by
 let(b,j,rfl,g):=pB f;let(c,k,rfl,h):=pB g
 cases List.length_eq_zero_iff.mp h;calc e ..
theorem pC(e:∀(kV a pm:Value) (an:Option Addr) (g ct b c d:Value),bindArgs (W.fnOf x q (fq st) (cW st) (az st) .none kV a pm an g ct) ([b,c,d],[])=pure ([p0,p1,f].zip [b,c,d])):S9 x q st [p0,p1,f]:=λkV a pm an g ct f h=>by
 let(b,l,rfl,i):=pB h;let(c,m,rfl,j):=pB i;let(d,n,rfl,k):=pB j
 cases List.length_eq_zero_iff.mp k;calc e ..
theorem tP(e:∀(kV a pm:Value) (an:Option Addr) (i ct b c d f:Value),bindArgs (W.fnOf x q (fq st) (cW st) (az st) .none kV a pm an i ct) ([b,c,d,f],[])=pure ([p0,p1,g,h].zip [b,c,d,f])):S9 x q st [p0,p1,g,h]:=λkV a pm an i ct g j=>by
 let(b,o,rfl,k):=pB j;let(c,p,rfl,l):=pB k;let(d,r,rfl,m):=pB l;let(f,s,rfl,n):=pB m
 cases List.length_eq_zero_iff.mp n;calc e ..
theorem Ri(e:∀(kV a pm:Value) (an:Option Addr) (k ct b c d f g:Value),bindArgs (W.fnOf x q (fq st) (cW st) (az st) .none kV a pm an k ct) ([b,c,d,f,g],[])=pure ([p0,p1,h,i,j].zip [b,c,d,f,g])):S9 x q st [p0,p1,h,i,j]:=λkV a pm an k ct h l=>by
 let(b,s,rfl,m):=pB l;let(c,t,rfl,n):=pB m;let(d,u,rfl,o):=pB n;let(f,v,rfl,p):=pB o;let(g,w,rfl,r):=pB p
 cases List.length_eq_zero_iff.mp r;calc e ..
theorem all_mk{K:W.Frag}{l:W.OpenLaw}{w:World}{h:Heap}{S:jP}{fa C g CR F B m n o p q r t u x y k z I J L M N O R:Addr}(X:K.In h)(G:h.Ns mainGlobals S)(hfa:S "law"=some (.ref fa)){cdB:ClassData}(aB:W.nsIn K mainGlobals "NetError"=some (some (.ref B)))(ZF:W.clsIn K B=some cdB)(tyB:W.typeIn K (.ref B)=some (.type "type")){ain q_B:Str}{N_B:Addr}{aio acS:List Value}{aip:List Str}{aiq:Bool}{acT:Option Bool}{air:Option Addr}{ais ait aiu aiv aiw:Option Value}(W7:K.lookup B=some (excClassObj ain q_B B N_B aio uG true aip acS aiq acT air ais ait aiu aiv aiw "ValueError.__new__"))(Iu:ju K B m "BadMachine")(Rj:ju K B n "BadDeed")(Iw:ju K B o "NoText")(Iy:ju K B p "BadNet")(Rk:ju K B q "NoLetter")(Rl:ju K B r "NotFirst")(Iz:ju K B t "NoCount")(IA:ju K B u "NoEvent")(Rm:ju K B x "Orphaned")(IB:ju K B y "TooMany")(Gh:ju K B k "NoLine")(yj:ju K B z "NoMachine")(Gi:ju K B I "NotRow")(yk:ju K B J "Busy")(Gj:ju K B L "NotReached")(yl:ju K B M "NoMark")(ym:ju K B N "NoRow")(yn:ju K B O "NoName")(yo:ju K B R "NoDeed")(gw:W.findIn K (.ref n) "at"=some none)(fO:W.findIn K (.ref q) "at"=some none)(fP:W.findIn K (.ref r) "at"=some none)(dM:W.findIn K (.ref x) "letter"=some none)(fE:W.findIn K (.ref k) "falls"=some none)(eS:W.findIn K (.ref k) "letter"=some none)(gy:W.findIn K (.ref I) "way"=some none)(cS:W.findIn K (.ref L) "machine"=some none)(W8:W.findIn K (.ref m) "__init__"=some (some (.builtin "ValueError.__init__")))(W9:W.findIn K (.ref o) "__init__"=some (some (.builtin "ValueError.__init__")))(Xa:W.findIn K (.ref p) "__init__"=some (some (.builtin "ValueError.__init__")))(Xb:W.findIn K (.ref t) "__init__"=some (some (.builtin "ValueError.__init__")))(Xc:W.findIn K (.ref u) "__init__"=some (some (.builtin "ValueError.__init__")))(Xd:W.findIn K (.ref y) "__init__"=some (some (.builtin "ValueError.__init__")))(Nu:W.findIn K (.ref z) "__init__"=some (some (.builtin "ValueError.__init__")))(Nv:W.findIn K (.ref J) "__init__"=some (some (.builtin "ValueError.__init__")))(Nw:W.findIn K (.ref M) "__init__"=some (some (.builtin "ValueError.__init__")))(Nx:W.findIn K (.ref N) "__init__"=some (some (.builtin "ValueError.__init__")))(Ny:W.findIn K (.ref O) "__init__"=some (some (.builtin "ValueError.__init__")))(Nz:W.findIn K (.ref R) "__init__"=some (some (.builtin "ValueError.__init__")))(qE:W.nsIn K mainGlobals "Machine"=some (some (.ref C)))(Rn:W.nsIn K mainGlobals "Net"=some (some (.ref g)))(Ro:W.nsIn K mainGlobals "Run"=some (some (.ref CR)))(vX:DF K "_law_at" vo)(lx:DF K "_law_counts" k8)(mQ:DF K "_law_digit" me)(mR:DF K "_law_value" mD)(pD:DF K "_law_deed" oX)(j3:DF K "_law_machine" jX)(rX:DF K "_law_pot" qY)(rY:DF K "_law_net" rP)(gc:DF K "_law_possible_cut" fZ)(ji:MF K g "machines" "Net.machines" i5)(rZ:MF K CR "net" "Run.net" rL)(jj:MF K CR "schedule" "Run.schedule" jc)(pE:DF K "is_whole" oH)(mS:DF K "is_within" ma)(jk:MF K CR "need_way" "Run.need_way" ja)(gC:MF K CR "need_letter" "Run.need_letter" gB)(j4:MF K CR "sent_by" "Run.sent_by" jV)(iG:MF K CR "worked_by" "Run.worked_by" iC)(mT:DF K "all_heard" mK)(gf:MF K CR "need_machine" "Run.need_machine" fX)(mU:MF K CR "count" "Run.count" mx)(ly:DF K "need_event" k6)(pF:DF K "heard_of" pd)(gU:DF K "least_cut_with" gS)(j5:DF K "_law_refused" j0)(lA:DF K "_law_is_cut" k9)(j6:DF K "_law_orphans" jZ)(mV:DF K "_law_least" mM)(gV:DF K "letters_passed" gQ)(vY:DF K "is_cut" vT)(pG:DF K "need_cut" o9)(mW:DF K "is_inside" mB)(iH:DF K "orphans_among" iD)(lB:DF K "orphans_of" kZ)(mX:DF K "_law_right" mN)(mY:DF K "_law_begun" mJ)(mZ:DF K "_law_lying" mH)(pH:DF K "_law_free" oZ)(r6:DF K "form_of" q5)(pJ:DF K "is_value" oI)(r8:DF K "is_part" q8)(r9:DF K "is_deed" q9)(jl:DF K "refuse_deeds" iZ)(se:DF K "is_list" qZ)(j7:DF K "are_counted" jL)(gW:DF K "refuse_machine" gJ)(sj:MF K C "__init__" "Machine.__init__" rz)(m7:DF K "is_letter" mh)(vZ:DF K "is_way" vv)(lC:DF K "refuse_net" kP)(NA:MF K g "__init__" "Net.__init__" LS)(jm:DF K "_law_net_made" jf)(m9:DF K "_law_worth" mF)(lD:DF K "_law_worked" kT)(pK:DF K "_law_pick" o7)(gX:DF K "change_numbers" gL)(lE:DF K "change_row" kR)(pL:DF K "left_out" oP)(nc:DF K "values_of" mn)(j8:DF K "plain_worth" jO)(pM:DF K "worth_of" oO)(gY:MF K C "worked" "Machine.worked" gM)(pN:MF K g "ways" "Net.ways" oN)(j9:MF K g "ways_at" "Net.ways_at" jR)(kb:MF K g "ways_in" "Net.ways_in" jS)(jo:MF K g "ways_out" "Net.ways_out" i9)(iI:MF K CR "need_pick" "Run.need_pick" iA)(g9:MF K CR "put_letter" "Run.put_letter" gO)(ng:MF K CR "state" "Run.state" mw)(kd:MF K CR "pick_at" "Run.pick_at" jT)(pO:MF K CR "pick" "Run.pick" oV)(fg:MF K C "first_state" "Machine.first_state" fe)(ke:MF K g "letters" "Net.letters" jN)(NB:MF K CR "__init__" "Run.__init__" Mm)(sk:DF K "_law_run" rT)(lG:DF K "played_run" kY)(NC:DF K "law" yi)(sm:W.plainGet K C Str.empty=true)(sr:W.hasDictIn K C=true)(su:W.plainOver K C=true)(sy:W.findIn K (.ref C) "__setattr__"=some (some (.builtin "object.__setattr__")))(sC:W.makesIn K C=true)(sD:W.keepIn K (.ref C)=true)(Hz:W.findIn K (.ref C) "__class__"=some (some (.builtin "object.__class__")))(HA:W.mroIn K C (.type "object")=some true)(R3:W.findIn K (.ref C) "own_modulus"=some none)(Vz:W.findIn K (.ref C) "own_state"=some none)(R4:W.findIn K (.ref C) "own_deeds"=some none)(ND:W.plainGet K g Str.empty=true)(NF:W.hasDictIn K g=true)(NG:W.plainOver K g=true)(NH:W.findIn K (.ref g) "__setattr__"=some (some (.builtin "object.__setattr__")))(NI:W.makesIn K g=true)(NJ:W.keepIn K (.ref g)=true)(LD:W.findIn K (.ref g) "__class__"=some (some (.builtin "object.__class__")))(LF:W.mroIn K g (.type "object")=some true)(Bt:W.findIn K (.ref g) "own_machines"=some none)(Bu:W.findIn K (.ref g) "own_ways"=some none)(DJ:W.findIn K (.ref g) "own_letters"=some none)(NK:W.plainGet K CR Str.empty=true)(NL:W.hasDictIn K CR=true)(NM:W.plainOver K CR=true)(NN:W.findIn K (.ref CR) "__setattr__"=some (some (.builtin "object.__setattr__")))(NO:W.makesIn K CR=true)(NP:W.keepIn K (.ref CR)=true)(LG:W.findIn K (.ref CR) "__class__"=some (some (.builtin "object.__class__")))(LH:W.mroIn K CR (.type "object")=some true)(cY:W.findIn K (.ref CR) "own_net"=some none)(df:W.findIn K (.ref CR) "picks_done"=some none)(cp:W.findIn K (.ref CR) "states_had"=some none)(eJ:W.findIn K (.ref CR) "words_had"=some none)(dg:W.findIn K (.ref CR) "words_said"=some none)(cu:W.findIn K (.ref CR) "letters_say"=some none)(fF:W.findIn K (.ref CR) "senders"=some none)(dB:W.findIn K (.ref CR) "workers"=some none)(a:W.specialIn K (.builtin "object.__class__") "__get__"=some (some (.builtin "getset_descriptor.__get__")))(b:W.takesIn K (.builtin "object.__class__")=some true)(lH:W.nsIn K mainGlobals "isinstance"=some none)(NQ:W.nsIn K mainGlobals "int"=some none)(El:W.nsIn K mainGlobals "bool"=some none)(NR:W.nsIn K mainGlobals "str"=some none)(zS:W.nsIn K mainGlobals "tuple"=some none)(Em:W.nsIn K mainGlobals "list"=some none)(NS:W.nsIn K mainGlobals "len"=some none)(zT:W.nsIn K mainGlobals "range"=some none)(NU:W.nsIn K mainGlobals "min"=some none)(NV:W.nsIn K mainGlobals "max"=some none)(NW:W.nsIn K mainGlobals "all"=some none)(NX:W.nsIn K mainGlobals "any"=some none)(NY:W.nsIn K mainGlobals "zip"=some none)(nh:W.nsIn K mainGlobals "enumerate"=some none)(lI:W.nsIn K mainGlobals "ValueError"=some none)(v7:W.nsIn K mainGlobals "sorted"=some none){wY:Tok}(eG:W.nsIn K mainGlobals "MOST_DEEDS"=some (some (.int 24 wY))){tQ:Tok}(d9:W.nsIn K mainGlobals "MOST_MODULUS"=some (some (.int 1000000000000 tQ))){tR:Tok}(ei:W.nsIn K mainGlobals "MOST_NUMBERS"=some (some (.int 4 tR))){Ci:Tok}(fW:W.nsIn K mainGlobals "MOST_ROW"=some (some (.int 12 Ci))){sE:Tok}(dE:W.nsIn K mainGlobals "MOST_MACHINES"=some (some (.int 5 sE))){zU:Tok}(gi:W.nsIn K mainGlobals "MOST_WAYS"=some (some (.int 10 zU))){tS:Tok}(eA:W.nsIn K mainGlobals "MOST_LETTERS"=some (some (.int 20 tS))){wZ:Tok}(eI:W.nsIn K mainGlobals "SAID_BOUND"=some (some (.int 1000000000000000000000000000000000000000000000000000000000000 wZ))){fh0 fh1 fh2 fh3 fh4 fh5 fh6 fh7:Int}{fk0 fk1 fk2 fk3 fk4 fk5 fk6 fk7:Tok}{U Y Z Yt Yu Yv Yw Yx:Addr}{fep:Nat}(aF:W.nsIn K mainGlobals "FORMS"=some (some (.ref F)))(lF:K.lookup F=some {cls:=.type "dict",dict:=none,data:=.dict #[(fh0,.str "set" fk0,.ref U),(fh1,.str "add" fk1,.ref Y),(fh2,.str "times" fk2,.ref Z),(fh3,.str "put" fk3,.ref Yt),(fh4,.str "drop" fk4,.ref Yu),(fh5,.str "send" fk5,.ref Yv),(fh6,.str "say" fk6,.ref Yw),(fh7,.str "skip" fk7,.ref Yx)] fep,slots:=#[]})(neF:(F==sysModules)=false){Tc Td:Tok}{fo0:Option Addr}{fn0:Nat}{fs0:Array (Option Value)}(lP0:K.lookup U=some (.type "tuple",fo0,.seq #[.str "number" Tc,.str "value" Td] fn0,fs0)){Te Tf:Tok}{fo1:Option Addr}{fn1:Nat}{fs1:Array (Option Value)}(lP1:K.lookup Y=some (.type "tuple",fo1,.seq #[.str "number" Te,.str "value" Tf] fn1,fs1)){Tg Th:Tok}{fo2:Option Addr}{fn2:Nat}{fs2:Array (Option Value)}(lP2:K.lookup Z=some (.type "tuple",fo2,.seq #[.str "number" Tg,.str "value" Th] fn2,fs2)){Ti:Tok}{fo3:Option Addr}{fn3:Nat}{fs3:Array (Option Value)}(lP3:K.lookup Yt=some (.type "tuple",fo3,.seq #[.str "value" Ti] fn3,fs3)){fo4:Option Addr}{fn4:Nat}{fs4:Array (Option Value)}(lP4:K.lookup Yu=some (.type "tuple",fo4,.seq #[] fn4,fs4)){Tj Tn:Tok}{fo5:Option Addr}{fn5:Nat}{fs5:Array (Option Value)}(lP5:K.lookup Yv=some (.type "tuple",fo5,.seq #[.str "way" Tj,.str "value" Tn] fn5,fs5)){To:Tok}{fo6:Option Addr}{fn6:Nat}{fs6:Array (Option Value)}(lP6:K.lookup Yw=some (.type "tuple",fo6,.seq #[.str "value" To] fn6,fs6)){Tp Tq Tr:Tok}{fo7:Option Addr}{fn7:Nat}{fs7:Array (Option Value)}(lP7:K.lookup Yx=some (.type "tuple",fo7,.seq #[.str "value" Tp,.str "value" Tq,.str "many" Tr] fn7,fs7))(Xe:∀i,i<19->∀j,j<19->([m,n,o,p,q,r,t,u,x,y,k,z,I,J,L,M,N,O,R]:List Addr).getD i 0=([m,n,o,p,q,r,t,u,x,y,k,z,I,J,L,M,N,O,R]:List Addr).getD j 0->i=j)(hnB:∀i,i<19->([m,n,o,p,q,r,t,u,x,y,k,z,I,J,L,M,N,O,R]:List Addr).getD i 0≠B):∃fd:FuncData,(∀(s:Shared) (v:Value),BindsTo s fd ([v],[]) [(("_law_script"),v)])/\∀base:Heap,K.In base->base.Ns mainGlobals S->kI l.prog w K S base GU 11 fa fd fv (zP K):=by
 have FR:PyProof.Rows.KTD.Rows RelV (#[(fh0,.str "set" fk0,.ref U),(fh1,.str "add" fk1,.ref Y),(fh2,.str "times" fk2,.ref Z),(fh3,.str "put" fk3,.ref Yt),(fh4,.str "drop" fk4,.ref Yu),(fh5,.str "send" fk5,.ref Yv),(fh6,.str "say" fk6,.ref Yw),(fh7,.str "skip" fk7,.ref Yx)]:Array DictEntry).toList ([(("set"),V.ref U),(("add"),V.ref Y),(("times"),V.ref Z),(("put"),V.ref Yt),(("drop"),V.ref Yu),(("send"),V.ref Yv),(("say"),V.ref Yw),(("skip"),V.ref Yx)]:List (Str×V)):=.cons rfl rfl (.cons rfl rfl (.cons rfl rfl (.cons rfl rfl (.cons rfl rfl (.cons rfl rfl (.cons rfl rfl (.cons rfl rfl (.nil))))))));have T:Tx K S C g CR F ([(("set"),V.ref U),(("add"),V.ref Y),(("times"),V.ref Z),(("put"),V.ref Yt),(("drop"),V.ref Yu),(("send"),V.ref Yv),(("say"),V.ref Yw),(("skip"),V.ref Yx)]:List (Str×V)):={
  bb:=abn X G lH
  Br:=abn X G NQ
  DI:=abn X G El
  Fe:=abn X G NR
  b8:=abn X G zS
  fJ:=abn X G Em
  bO:=abn X G NS
  dD:=abn X G zT
  ZW:=abn X G NU
  Ff:=abn X G NV
  vk:=abn X G NW
  R0:=abn X G NX
  Bs:=abn X G NY
  de:=abn X G nh
  qj:=abn X G lI
  vm:=abn X G v7
  eG:=(_,W.mg_of X G eG)
  d9:=(_,W.mg_of X G d9)
  ei:=(_,W.mg_of X G ei)
  fW:=(_,W.mg_of X G fW)
  dE:=(_,W.mg_of X G dE)
  gi:=(_,W.mg_of X G gi)
  eA:=(_,W.mg_of X G eA)
  eI:=(_,W.mg_of X G eI)
  cX:=(sm,sr,su,sy)
  xR:=W.mg_of X G qE
  Hz:=Hz
  HA:=HA
  R3:=R3
  Vz:=Vz
  R4:=R4
  cT:=(ND,NF,NG,NH)
  ZX:=W.mg_of X G Rn
  LD:=LD
  LF:=LF
  Bt:=Bt
  Bu:=Bu
  DJ:=DJ
  ba:=(NK,NL,NM,NN)
  ZY:=W.mg_of X G Ro
  LG:=LG
  LH:=LH
  cY:=cY
  df:=df
  cp:=cp
  eJ:=eJ
  dg:=dg
  cu:=cu
  fF:=fF
  dB:=dB
  fc:=a
  cI:=b
  i_k:=by unfold W.kitOne;rw[if_pos nofun]
  Fg:=W.mg_of X G aF
  Fh:=((_,_,_,lF,(rfl,rfl,rfl),rfl,FR),neF)
  R5:=λd=>by
   cases d with
   |set _ _=>calc(U,by kernel_rfl,λH=>.inr (_,_,_,lP0,rfl,rfl,by show 2<=sizeLine;decide,(.cons (Tc,rfl) (.cons (Td,rfl) .nil))))
   |add _ _=>calc(Y,by kernel_rfl,λH=>.inr (_,_,_,lP1,rfl,rfl,by show 2<=sizeLine;decide,(.cons (Te,rfl) (.cons (Tf,rfl) .nil))))
   |times _ _=>calc(Z,by kernel_rfl,λH=>.inr (_,_,_,lP2,rfl,rfl,by show 2<=sizeLine;decide,(.cons (Tg,rfl) (.cons (Th,rfl) .nil))))
   |put _=>calc(Yt,by kernel_rfl,λH=>.inr (_,_,_,lP3,rfl,rfl,by show 1<=sizeLine;decide,(.cons (Ti,rfl) .nil)))
   |drop=>calc(Yu,by kernel_rfl,λH=>.inr (_,_,_,lP4,rfl,rfl,by show 0<=sizeLine;decide,.nil))
   |send _ _=>calc(Yv,by kernel_rfl,λH=>.inr (_,_,_,lP5,rfl,rfl,by show 2<=sizeLine;decide,(.cons (Tj,rfl) (.cons (Tn,rfl) .nil))))
   |say _=>calc(Yw,by kernel_rfl,λH=>.inr (_,_,_,lP6,rfl,rfl,by show 1<=sizeLine;decide,(.cons (To,rfl) .nil)))
   |skip _ _ _=>exact(Yx,by kernel_rfl,λH=>.inr (_,_,_,lP7,rfl,rfl,by show 3<=sizeLine;decide,(.cons (Tp,rfl) (.cons (Tq,rfl) (.cons (Tr,rfl) .nil)))))
 }
 have d:∀C∈([m,n,o,p,q,r,t,u,x,y,k,z,I,J,L,M,N,O,R]:List Addr),kM K C B:=(i6 (Iu.cls a b,(i6 (Rj.cls a b,(i6 (Iw.cls a b,(i6 (Iy.cls a b,(i6 (Rk.cls a b,(i6 (Rl.cls a b,(i6 (Iz.cls a b,(i6 (IA.cls a b,(i6 (Rm.cls a b,(i6 (IB.cls a b,(i6 (Gh.cls a b,(i6 (yj.cls a b,(i6 (Gi.cls a b,(i6 (yk.cls a b,(i6 (Gj.cls a b,(i6 (yl.cls a b,(i6 (ym.cls a b,(i6 (yn.cls a b,(i6 (yo.cls a b,(λ_ h=>absurd h nofun)))))))))))))))))))))))))))))))))))))))
 have TX:N9 K S B (λi:Nat=>([m,n,o,p,q,r,t,u,x,y,k,z,I,J,L,M,N,O,R]:List Addr).getD i 0):={
  qd:=W.mg_of X G Iu.ax
  xG:=W.mg_of X G Rj.ax
  A7:=W.mg_of X G Iw.ax
  A8:=W.mg_of X G Iy.ax
  uW:=W.mg_of X G Rk.ax
  uX:=W.mg_of X G Rl.ax
  xH:=W.mg_of X G Iz.ax
  xI:=W.mg_of X G IA.ax
  uY:=W.mg_of X G Rm.ax
  xJ:=W.mg_of X G IB.ax
  A9:=W.mg_of X G Gh.ax
  sS:=W.mg_of X G yj.ax
  Ba:=W.mg_of X G Gi.ax
  KR:=W.mg_of X G yk.ax
  qf:=W.mg_of X G Gj.ax
  Bb:=W.mg_of X G yl.ax
  E2:=W.mg_of X G ym.ax
  Bc:=W.mg_of X G yn.ax
  Bd:=W.mg_of X G yo.ax
  uZ:=W.mg_of X G aB
  yY:=(Iu.cls a b,W8,W.mg_of X G Iu.ax)
  KS:=(Iw.cls a b,W9,W.mg_of X G Iw.ax)
  KU:=(Iy.cls a b,Xa,W.mg_of X G Iy.ax)
  xK:=(Iz.cls a b,Xb,W.mg_of X G Iz.ax)
  xM:=(IA.cls a b,Xc,W.mg_of X G IA.ax)
  Hl:=(IB.cls a b,Xd,W.mg_of X G IB.ax)
  Be:=(yj.cls a b,Nu,W.mg_of X G yj.ax)
  Vh:=(yk.cls a b,Nv,W.mg_of X G yk.ax)
  KW:=(yl.cls a b,Nw,W.mg_of X G yl.ax)
  PJ:=(ym.cls a b,Nx,W.mg_of X G ym.ax)
  KY:=(yn.cls a b,Ny,W.mg_of X G yn.ax)
  KZ:=(yo.cls a b,Nz,W.mg_of X G yo.ax)
  cl:=λi a=>d _ (by
   have e:([m,n,o,p,q,r,t,u,x,y,k,z,I,J,L,M,N,O,R]:List Addr).getD i 0=([m,n,o,p,q,r,t,u,x,y,k,z,I,J,L,M,N,O,R]:List Addr)[i]'a:=by simp only[List.getD_eq_getElem?_getD,cJ (show i<([m,n,o,p,q,r,t,u,x,y,k,z,I,J,L,M,N,O,R]:List Addr).length from a),Option.getD_some]
   show([m,n,o,p,q,r,t,u,x,y,k,z,I,J,L,M,N,O,R]:List Addr).getD i 0 ∈ ([m,n,o,p,q,r,t,u,x,y,k,z,I,J,L,M,N,O,R]:List Addr);rw[e];calc aaJ _)
  inj:=λi j a b e=>Xe i a j b e
  nB:=hnB
  ZF:=by rw[ZF];rfl
  tyB:=tyB
  xb:=⟨(_,_,_,_,_,_,_,_,_,_,_,_,_,_,W7)⟩
  gw:=gw
  fO:=fO
  fP:=fP
  dM:=dM
  fE:=fE
  eS:=eS
  gy:=gy
  cS:=cS
 }
 let(f,a,b,an,d,g,kV,dc,pm,cd,ct,ll,lc,lk):=NC;have e:=hfa.symm.trans (W.mg_of X G a)
 cases e;calc(W.fnOf "law" "law" (fq yi) (cW yi) (az yi) .none kV dc pm an cd ct,λs v=>.of_eq rfl,λbase _ _=>?_);have v:=LK (P:=l.prog) (w:=w) (base:=base) (aV X G vX (gT λ_ _ _ _ _ _ _ _=>rfl)) T;have lp:=zL (P:=l.prog) (w:=w) (base:=base) (aV X G lx (lQ λ_ _ _ _ _ _ _=>rfl)) T;have a:=By (P:=l.prog) (w:=w) (base:=base) (aV X G mQ (gT λ_ _ _ _ _ _ _ _=>rfl)) T;have b:=B0 (aV X G mR (gT λ_ _ _ _ _ _ _ _=>rfl)) T a;have d:=Ec (aV X G pD (gT λ_ _ _ _ _ _ _ _=>rfl)) T a b;have e:=wU (aV X G j3 (lQ λ_ _ _ _ _ _ _=>rfl)) T d a;have b:=HB (P:=l.prog) (w:=w) (base:=base) (aV X G rX (lQ λ_ _ _ _ _ _ _=>rfl)) T;have rV:=Ii (aV X G rY (lQ λ_ _ _ _ _ _ _=>rfl)) T v a e b;have gb:=ph (P:=l.prog) (w:=w) (base:=base) (aV X G gc (gT λ_ _ _ _ _ _ _ _=>rfl)) T;have b:=vA (P:=l.prog) (w:=w) (base:=base) (cR ji (lQ λ_ _ _ _ _ _ _=>rfl)) T;have d:=HR (P:=l.prog) (w:=w) (base:=base) (cR rZ (lQ λ_ _ _ _ _ _ _=>rfl)) T;have B:=vK (P:=l.prog) (w:=w) (base:=base) (cR jj (lQ λ_ _ _ _ _ _ _=>rfl)) T;have e:=DK (P:=l.prog) (w:=w) (base:=base) (aV X G pE (lQ λ_ _ _ _ _ _ _=>rfl)) T;have a:=Bw (aV X G mS (pC λ_ _ _ _ _ _ _ _ _=>rfl)) T e;have j:=vJ (cR jk (pC λ_ _ _ _ _ _ _ _ _=>rfl)) T a;have g:=qr (cR gC (tP λ_ _ _ _ _ _ _ _ _ _=>rfl)) T a j;have C:=wO (cR j4 (pC λ_ _ _ _ _ _ _ _ _=>rfl)) T g;have F:=tM (cR iG (pC λ_ _ _ _ _ _ _ _ _=>rfl)) T g;have Y:=Cb (aV X G mT (lQ λ_ _ _ _ _ _ _=>rfl)) T b d B C F;have S:=oS (cR gf (gT λ_ _ _ _ _ _ _ _=>rfl)) T a;have j:=BS (cR mU (gT λ_ _ _ _ _ _ _ _=>rfl)) T S;have Z:=zJ (c:=(λi:Nat=>([m,n,o,p,q,r,t,u,x,y,k,z,I,J,L,M,N,O,R]:List Addr).getD i 0)) (aV X G ly (pC λ_ _ _ _ _ _ _ _ _=>rfl)) T TX a b j d;have pf:=Ek (c:=(λi:Nat=>([m,n,o,p,q,r,t,u,x,y,k,z,I,J,L,M,N,O,R]:List Addr).getD i 0)) (aV X G pF (pC λ_ _ _ _ _ _ _ _ _=>rfl)) T TX Y Z;have U:=rS (c:=(λi:Nat=>([m,n,o,p,q,r,t,u,x,y,k,z,I,J,L,M,N,O,R]:List Addr).getD i 0)) (aV X G gU (pC λ_ _ _ _ _ _ _ _ _=>rfl)) T TX pf;have Y:=wX (c:=(λi:Nat=>([m,n,o,p,q,r,t,u,x,y,k,z,I,J,L,M,N,O,R]:List Addr).getD i 0)) (aV X G j5 (pC λ_ _ _ _ _ _ _ _ _=>rfl)) T TX U;have lg:=zM (P:=l.prog) (w:=w) (base:=base) (aV X G lA (gT λ_ _ _ _ _ _ _ _=>rfl)) T;have Z:=wV (P:=l.prog) (w:=w) (base:=base) (aV X G j6 (gT λ_ _ _ _ _ _ _ _=>rfl)) T;have mO:=Ce (aV X G mV (tP λ_ _ _ _ _ _ _ _ _ _=>rfl)) T Z;have gR:=rO (aV X G gV (lQ λ_ _ _ _ _ _ _=>rfl)) T B C F;have vU:=M4 (aV X G vY (gT λ_ _ _ _ _ _ _ _=>rfl)) T a b j d;have B:=Ej (c:=(λi:Nat=>([m,n,o,p,q,r,t,u,x,y,k,z,I,J,L,M,N,O,R]:List Addr).getD i 0)) (aV X G pG (gT λ_ _ _ _ _ _ _ _=>rfl)) T TX vU;have C:=BW (P:=l.prog) (w:=w) (base:=base) (aV X G mW (gT λ_ _ _ _ _ _ _ _=>rfl)) T;have F:=tN (aV X G iH (gT λ_ _ _ _ _ _ _ _=>rfl)) T C;have lj:=zI (c:=(λi:Nat=>([m,n,o,p,q,r,t,u,x,y,k,z,I,J,L,M,N,O,R]:List Addr).getD i 0)) (aV X G lB (gT λ_ _ _ _ _ _ _ _=>rfl)) T TX gR B F;have i:=Cg (aV X G mX (Ri λ_ _ _ _ _ _ _ _ _ _ _=>rfl)) T lg mO Z U lj;have m:=B8 (P:=l.prog) (w:=w) (base:=base) (aV X G mY (lQ λ_ _ _ _ _ _ _=>rfl)) T;have k:=B4 (P:=l.prog) (w:=w) (base:=base) (aV X G mZ (gT λ_ _ _ _ _ _ _ _=>rfl)) T;have n:=Ee (aV X G pH (lQ λ_ _ _ _ _ _ _=>rfl)) T k;have o:=HE (P:=l.prog) (w:=w) (base:=base) (aV X G r6 (lQ λ_ _ _ _ _ _ _=>rfl)) T;have k:=DN (aV X G pJ (gT λ_ _ _ _ _ _ _ _=>rfl)) T e a;have p:=HF (aV X G r8 (pC λ_ _ _ _ _ _ _ _ _=>rfl)) T k e a;have q:=HG (aV X G r9 (gT λ_ _ _ _ _ _ _ _=>rfl)) T o p;have k:=vt (aV X G jl (gT λ_ _ _ _ _ _ _ _=>rfl)) T q;have e:=HC (P:=l.prog) (w:=w) (base:=base) (aV X G se (pC λ_ _ _ _ _ _ _ _ _=>rfl)) T;have o:=wG (aV X G j7 (tP λ_ _ _ _ _ _ _ _ _ _=>rfl)) T e a;have p:=rj (aV X G gW (tP λ_ _ _ _ _ _ _ _ _ _=>rfl)) T o a;have q:=HI (zQ X G sC sD sj qE (Ri λ_ _ _ _ _ _ _ _ _ _ _=>rfl)) T k p;have o:=BC (aV X G m7 (gT λ_ _ _ _ _ _ _ _=>rfl)) T a;have k:=LR (aV X G vZ (gT λ_ _ _ _ _ _ _ _=>rfl)) T a;have p:=zj (aV X G lC (pC λ_ _ _ _ _ _ _ _ _=>rfl)) T o e k;have r:=aab (zQ X G NI NJ NA Rn (tP λ_ _ _ _ _ _ _ _ _ _=>rfl)) T p;have o:=vR (aV X G jm (lQ λ_ _ _ _ _ _ _=>rfl)) T q r;have e:=B3 (P:=l.prog) (w:=w) (base:=base) (aV X G m9 (Ri λ_ _ _ _ _ _ _ _ _ _ _=>rfl)) T;have k:=zC (aV X G lD (tP λ_ _ _ _ _ _ _ _ _ _=>rfl)) T e;have p:=Eg (aV X G pK (pC λ_ _ _ _ _ _ _ _ _=>rfl)) T k;have q:=rE (P:=l.prog) (w:=w) (base:=base) (aV X G gX (tP λ_ _ _ _ _ _ _ _ _ _=>rfl)) T;have k:=zm (P:=l.prog) (w:=w) (base:=base) (aV X G lE (pC λ_ _ _ _ _ _ _ _ _=>rfl)) T;have r:=DU (P:=l.prog) (w:=w) (base:=base) (aV X G pL (gT λ_ _ _ _ _ _ _ _=>rfl)) T;have t:=BI (P:=l.prog) (w:=w) (base:=base) (aV X G nc (lQ λ_ _ _ _ _ _ _=>rfl)) T;have e:=wJ (P:=l.prog) (w:=w) (base:=base) (aV X G j8 (tP λ_ _ _ _ _ _ _ _ _ _=>rfl)) T;have u:=DS (aV X G pM (Ri λ_ _ _ _ _ _ _ _ _ _ _=>rfl)) T e;have x:=rF (cR gY (tP λ_ _ _ _ _ _ _ _ _ _=>rfl)) T q k r t u;have e:=DR (P:=l.prog) (w:=w) (base:=base) (cR pN (lQ λ_ _ _ _ _ _ _=>rfl)) T;have k:=wL (cR j9 (pC λ_ _ _ _ _ _ _ _ _=>rfl)) T a;have q:=wM (cR kb (gT λ_ _ _ _ _ _ _ _=>rfl)) T k;have r:=vG (cR jo (gT λ_ _ _ _ _ _ _ _=>rfl)) T k;have t:=tK (cR iI (tP λ_ _ _ _ _ _ _ _ _ _=>rfl)) T e g;have a:=rK (P:=l.prog) (w:=w) (base:=base) (cR g9 (tP λ_ _ _ _ _ _ _ _ _ _=>rfl)) T;have k:=BR (cR ng (gT λ_ _ _ _ _ _ _ _=>rfl)) T S;have g:=wN (cR kd (tP λ_ _ _ _ _ _ _ _ _ _=>rfl)) T x b e q r t a k;have u:=D9 (cR pO (pC λ_ _ _ _ _ _ _ _ _=>rfl)) T g;have q:=lO (P:=l.prog) (w:=w) (base:=base) (cR fg (lQ λ_ _ _ _ _ _ _=>rfl)) T;have r:=wI (P:=l.prog) (w:=w) (base:=base) (cR ke (lQ λ_ _ _ _ _ _ _=>rfl)) T;have k:=aaK (zQ X G NO NP NB Ro (gT λ_ _ _ _ _ _ _ _=>rfl)) T q r b e a;have l:=Ip (aV X G sk (gT λ_ _ _ _ _ _ _ _=>rfl)) T m n o p Y i u k;have a:=zH (aV X G lG (gT λ_ _ _ _ _ _ _ _=>rfl)) T g k;calc W4 (oq ll lc lk) T v lp rV gb Y i l a j d
theorem walk{l:W.OpenLaw}{K:Params->W.Frag}(i:l.most=some 63)(j:d.params.defaults=[])(m:∀(w:World) (h:Heap),c w h->(K w.params).In h)(F:∀(w:World) (b:jP) (e:Addr) (h:Heap),(K w.params).In h->h.Ns mainGlobals b->b d.name=some (.ref e)->
   ∃f:FuncData,(∀(s:Shared) (u:Value),BindsTo s f ([u],[]) [(("_law_script"),u)])/\∀base:Heap,(K w.params).In base->base.Ns mainGlobals b->kI l.prog w (K w.params) b base GU 11 e f fv (zP (K w.params))):
  W.WalkO q a g c l.row.toRowW d [] (λf vs=>PySem.call f vs):=
 L2.Pa (n:=63) (k:=11) (x:="_law_script") (CX:=λ_=>GU) (sp:=λw=>zP (K w.params)) i ∅ j (rfl,∅,∅) m F (λ_ _ a b c _ d=>(a,b,rfl,d,c,λ_=>rfl)) λ_ _ _ _ _ z=>z
end IQ
end
end
section
set_option hygiene false
local macro_rules | `(command| include $x*) => do return Lean.mkNullNode (← x.mapM λ i => do return (← `(def $i:ident := Nat)).raw)
namespace PySem.W.Fast
include tw7018202440197551207 tw18003078212108974362 tw4917104633014717248 tw9460058616473030213 tw7526261821499877533 tw7959782973935665786 tw6432117138370249198 tw10598078731717709620 tw16638281687419910085 tw4750711229559373908 tw12359234459254705015 tw11971241203091153663 tw8362260986458734998 tw17236874010424275277 tw1370110266568038824 tw3084542281364923262 tw11345675608383437734 tw14200558221167954052 tw4926605328152805512 tw2741573541197768636 tw2087434849902046018 tw3150578076826792354 tw16737337278692506866 tw5643414955996388339 tw14085193454909116261 tw10776156098551703385 tw16952697453702585585 tw7805803993456747921 tw12552939527042783798 tw16642054453560589531 tw8230517899624094455 tw13992181283054371730 tw1719244358244860139 tw1218533524797565712 tw9013012996883724563 tw2051747545028945339 tw4927286574433774559 tw8132077573407469778 tw3087716373499393834 tw18233423842016510472 tw6572030461713352532 tw61947578835115830 tw3338988790594072954 tw18037971493270840801 tw12348875214514290112 tw10687483097068536304 tw7162878389450510056 tw13787828641370606882 tw299741431412583825 tw16170338533258446292 tw11237651890364629856 tw12809287623089416393 tw9053526324820050988 tw2352485244919427052 tw2030957506809386276 tw14636052223894231491 tw14931581577596539218 tw7134261573535403475 tw5486317660082350878 tw18141377559535309006 tw2400992347493771626 tw2512292207691504656 tw3140392573306927298 tw9589977200890853396 tw13931410335830105181 tw2164521103137016827 tw5741060680304566869 tw4744410781700574446 tw4014294077237936922 tw4298640766652670310 tw14973815470061549795 tw12317802611983800620 tw16828289854705545772 tw15277612746987238246 tw14598415292553429970 tw17454814937082686054 tw4103030911070828414 tw10755190534928983931 tw13083430254043699732 tw17633170578017950231 tw3978104077236481237 tw9594376064802686253 tw13594259023224916922 tw12376583808742093343 tw6365347944348643812 tw5185725878910846987 tw6855456807747875162 tw4685812473432334320 tw11101974456240490812 tw11415090502693238554 tw6912512915999857634 tw7671603744315809364 tw4420195379593654713 tw312917928213920152 tw11690579693937559261 tw2757948132866951967 tw16798179497833494532 tw9131530698914738278 tw11702393483842781412 tw18147085959601725201 tw17461299461611721517 tw11505288422919461068 tw14735025497208966973 tw10782165842326837426 tw6894843176778569555 tw1641915158103541317 tw5079567944464163074 tw2374773885547879847 tw17283451524975538368 tw3960797342840711510 tw17079250605932740704 tw6269191126751621974 tw16895002487277298696 tw4994102900988569140 tw10906197300582915994 tw168764997136764910 tw14534405467679740757 tw15411913550209996019 tw4883500157841003974 tw16889264060718837794 tw12292824016511527606 tw14464720587570069195 tw3489014335134358636 tw2710049353436286881 tw12051040139224603416 tw807945017905622497 tw8442177507421421249 tw7063790577114493658 tw1966661150384275640 tw146668420261259752 tw3759669204386560160 tw2063356758310336910 tw8032434023497258857 tw12884146659254772002 tw14881639279454794985 tw18021944887125396594 tw16820760016634025890 tw11212520997626315896 tw13967894153030520119 tw8198946523551622920 tw6362989757607517125 tw6410121517851911752 tw12788366098841059814 tw7798416692769605055 tw14895358662766490754 tw18331760015036028289 tw16972724713875651852 tw5844192946362257405 tw15860551651457079594 tw15972841863904635635 tw667208973899144848 tw12891416343936826793 tw6052171451705677550 tw2064984375811687775 tw13303050776314436315 tw9464434527614532275 tw11730737714010632584 tw5459804565415458553 tw15488449846496125029 tw16948015628543375414 tw8288919306136936880 tw7319679699495852785 tw8541827814476708480 tw14214753121861422151 tw9198427450719283189 tw6156936564930819447 tw14876218035749820293 tw16068109654384673674 tw15191363104397841269 tw8768573910402544385 tw6775736110949748802 tw12753969397496810464 tw4872437944393380052 tw5447026169597804288 tw13710172395128047413 tw7957282281848492848 tw14653127780897560227 tw15895260010472551571 tw8892297706922613130 tw12285761087742992462 tw11288779148758488718 tw4950607741457210170 tw18087375693948951170 tw9191183393077596831 tw4409215497850628615 tw13021016251780986325 tw12923320664252364877 tw9150054353171541921 tw15714270035983820388 tw3502750086633833747 tw11870209540286206662 tw4768806541840470826 tw4972433166575795728 tw15931132365943322829 tw4565801800769718301 tw1744044813174514971 tw13167292873428913460 tw15289445755058489716 tw13034398578085692000 tw5863344172577931540 tw15805695855768306898 tw6506164533369499189 tw2561284907278961124 tw13723035592282224761 tw9694025076657346586 tw7421258320300822067 tw17604172034056347254 tw2328638325452158434 tw18045814502083238818 tw8990445906998651180 tw8907331082959301691 tw882949954175730809 tw1531609657967331157 tw7854320855333612861 tw8409195244687617408 tw10113411887545892448 tw13401744033477412218 tw16705521306902934995 tw6463236160335491232 tw9883418936694593732 tw6424930404654394149 tw13123954846348654318 tw9819975368016955770 tw16279549144497597514 tw4174991180921417779 tw11137454977489806625 tw16105141264818271038 tw9332752903820161120 tw14231337314178506170 tw16405300104217465963 tw8690730801817902949 tw3552028105602735662 tw14339284125999973408 tw1564678474140634834 tw195678527570281444 tw10847676151339785435 tw16855914173318609758 tw17586210752402543523 tw10183113559138398094 tw8059813513350713199 tw8218282445218826378 tw7068406326012533361 tw2765306568039568415 tw16004563072803168976 tw10023011201796834676 tw15446089692061744917 tw10457359475196975318 tw439910356142194926 tw7334941508283650744 tw3032955175079336219 tw15670977384505395989 tw2762391326211865027 tw16265171282625374389 tw13975900050507863775 tw13610586313026776149 tw16233120229479901089 tw9457803736563422205 tw610007191731566880 tw18417282258844020327 tw4137549704452719040 tw10267562479881583031 tw6630440126483682451 tw5970585202498041878 tw14584051767749115328 tw9981720289879854448 tw11711695773077266899 tw4563520447560982381 tw18400340065082772411 tw16790375408965401436 tw9902071391702243579 tw7723146829085012537 tw13060584342204484818 tw9595542653932368175 tw16461842846602420833 tw7139594580046910554 tw7665859261943583100 tw11937316197586276488 tw8041138331956470132 tw7094211590428429314 tw5471973260477854468 tw17389967430324247477 tw461044051712732359 tw1384970320041323684 tw2829653824927958795 tw14414550490345927721 tw11407743739708187366 tw8340153929050428745 tw17150600148628102693 tw1256115300752627134 tw8515611852311130052 tw11124128827483339641 tw3096791913129796359 tw240257044531756858 tw7929822693555086601 tw12547591924814400053 tw15713209214527869714 tw9609518868793296740 tw10489487036249186323 tw9911191014441585556 tw8891719125367950187 tw4701797948376570711 tw18129757908483320240 tw1983817187668411757 tw8758860065672798508 tw14106827205776881897 tw8509652817265708546 tw628731364224840326 tw15341185029756197270 tw6787849259517127529 tw3670211021636540786 tw9937622058838919979 tw5780639909997520719 tw15270043528868352833 tw11946372003081923515 tw17848305925552841459 tw4754964795535240395 tw13035819896880339083 tw12298308854604411041 tw16585210730477749209 tw3944533471776333553 tw446452708072555223 tw17039636533447835656 tw11219972781464647435 tw3363438892769516393 tw9861572324910584863 tw15956633444493717205 tw6935469686531157396 tw15077137812258977308 tw3623361362670114171 tw1326526082353817772 tw18202358083509490366 tw11279234332404687468 tw6159940307025965309 tw13420815640244578757 tw14687590290269609634 tw16154380177908372467 tw14875837083566931419 tw14618755343119218619 tw8886030338618131788 tw14754506904346855513 tw7947412672372649245 tw2915356637616615273 tw18402928096149795628 tw8445102777971150259 tw7642255461060057281 tw11045623736168870984 tw11643286419366561001 tw12242039168274637737 tw77514526730260467 tw8628527968752717978 tw7373897314015709021 tw3442338525869026680 tw11599064537540910991 tw3830415247701629449 tw16566379893601665880 tw12665004432420325079 tw18336315057761497326 tw5064903382880363171 tw6887016272872118082 tw12284221894615436694 tw18418244614350666060 tw17909765369229182750 tw130075269945050836 tw9550490805503825609 tw15080699956292520597 tw12978634276028234596 tw9193187341122528465 tw16691075014674383072 tw3118816771126656796 tw5487928486776346682 tw5674961264513724284 tw17143779905847992828 tw10608494139852821202 tw2383227279100304432 tw13465750642130506019 tw10144580779874867521 tw29986081829367886 tw15659217832659491378 tw11989785356147428980 tw14352052426071348140 tw2470150187291698612 tw4678761700509849982 tw11772841347976468067 tw3631899629458382227 tw17721178674919530213 tw18873393555875853 tw10108691016253679872 tw17323649080820522432 tw1401770207253691651 tw12617328176953702799 tw1401942196999438979 tw12228172753534428605 tw12934302362456682467 tw10118825772652020385 tw8438108836467211655 tw13348519009041460139 tw16081814858927223679 tw56600208511095334 tw7610550185443594927 tw14687116602360465092 tw1987118039908419012 tw6596805043041174993 tw12936921812746078894 tw13457740489172738116 tw11463390268859932768 tw12774349080377463734 tw5872373807768904522 tw1659770957117506449 tw6162033363893680622 tw12376223804081864287 tw5336256513390488021 tw13049919108993277031 tw8648837794872931450 tw387054202152741826 tw12657752758591160594 tw7815781973678056275 tw12118085628188633175 tw3159918435952031970 tw2362663569335949588 tw8487222705038864649 tw13120650624423537312 tw18281148058874820620 tw11355990582156030284 tw6584356377178906109 tw5203221037012095553 tw9865868045913372080 tw4875572875644571990 tw3492013057034179451 tw9927627500673980636 tw14934133588123964117 tw3485044677151837110 tw16864821980551745624 tw10620625246263344805 tw6012042883727415087 tw7465907830910170404 tw5828697037151715850 tw6169835085749829632 tw16440047333358929216 tw3236428732648239871 tw12862950519057604278 tw6286674232814057223 tw6720062611093162435 tw9831431241023701321 tw18416223075378762230 tw7625552300966659852 tw8075983765554409025 tw6630985325442589868 tw2789863887588180126 tw5183279792635946222 tw3108739105961546295 tw7911103781034322478 tw13445930220660003523 tw9335102387423314479 tw4769862422369609098 tw1842878802582697458 tw10641834750036387278 tw14265573638211204903 tw17465838331423951674 tw9209400675049705741 tw16796410655007364130 tw11785176607788922026 tw9736595868211201023 tw3450643005021463171 tw7388792050028205360 tw2581666669585330868 tw17700860824287773360 tw1613233773266518419 tw9462255019776093872 tw2363525872890559408 tw15242419866944550613 tw5122899503654222599 tw11264114096353065224 tw18443565249909085166 tw2500797709025261645 tw8225593167248531708 tw18135144944958473751 tw1224255507746990672 tw8722884533037572098 tw17627553486272355179 tw9744592218141583601 tw12652457177666709329 tw17083609852650490454 tw3817717684067340195 tw14590088401248077138 tw6385765725837150906 tw12187849195653161215 tw7998876727081937814 tw6305681112771551504 tw16514938042111080416 tw16645459274613055476 tw17693580795328422894 tw4617430442470478904 tw5360782386582528941 tw16558902364586835155 tw5787842549178011493 tw418501484025891894 tw14837371294701752419 tw13576403657981215612 tw18013940959563736788 tw15677443468069248233 tw7528607188941859607 tw12706831354883873533 tw5771581064830993411 tw4268754563001504090 tw13285324556370584065 tw13314311329160563127 tw12286060278582869351 tw16872945078842415390 tw4505973984992505480 tw4968655096201441047 tw11325716855334465274 tw16218098755292443937 tw8595742941392971977 tw9121730140392527471 tw9415214539661104343 tw16930362979331021521 tw14855699466123322621 tw10946638596952330239 tw7551846866691637748 tw15543762827937068459 tw3635379414350522551 tw6847015369192926290 tw9619317418631756649 tw11945948570667487031 tw10777461956576122119 tw5371561481818463285 tw13985050507796130206 tw17443995937923700183 tw1746079951798525480 tw1678513570909908621 tw3973470638461279264 tw16363296649640680841 tw17302234333279039380 tw6220570014736172170 tw1279337356356010331 tw15894144775990385184 tw8783644217135488498 tw7497155155606696796 tw18053520078883188907 tw1370887080461172648 tw16262732926355726797 tw10824631763544745233 tw18401995195151084275 tw9459568086202562916 tw13903960048258186152 tw17687917837653221392 tw37771533909131654 tw13663326489444815837 tw12838966474572840277 tw13241143204912699795 tw264137509501512181 tw3596494483534397729 tw8006151602368528532 tw14378691935911628514 tw5151556100288035071 tw717350687188624888 tw3188139673516197742 tw17044304838307033448 tw9140495864386598615 tw5520385364401757625 tw17126561190595748029 tw15797652515104495331 tw17247070016344528399 tw5953268699661541879 tw2594350327351867949 tw12294740758244745934 tw1816118199016120119 tw5443080724380205745 tw13739636265145600831 tw6561037668229095361 tw8566473806516035351 tw13784228920152968189 tw9562809954762792201 tw12697284579065161109 tw12822492992355965779 tw11829047859672096009 tw1032076578370938323 tw7549875605660407707 tw15863236367538936130 tw16854236652613565161 tw17492005209239115731 tw6573289686372707981 tw9377684408160586377 tw1008397558565295653 tw2309414009680471020 tw13457379142998488097 tw12624968745788299558 tw17140067407831111371 tw9331469154607755392 tw13494668384978002645 tw6814081420401663932 tw12294013820578500698 tw8911756003091034541 tw14584200418108741539 tw6248441661086152592 tw10548192950596793432 tw10214584755441896871 tw16048446913953367983 tw18091057572152339878 tw4246974766267241511 tw8222943463510871432 tw2658458731941825498 tw9056791189515677567 tw14061936757244137668 tw11751139362295801982 tw8528399855410801123 tw13565198519968608920 tw5739577098607313319 tw5163560409821777532 tw2916495112161957446 tw5925445246277760617 tw10380612799564727021 tw11996013050953632492 tw544833299004846054 tw15912196868307323854 tw15015750998372255604 tw6829206098645899895 tw17816874360095441706 tw841244499182102773 tw1066861750984562433
end PySem.W.Fast
end
open PySem PySem.W PyProof.Rows
set_option maxRecDepth 100000 in
set_option maxHeartbeats 0 in
theorem PySem.Challenge.cw_cutrestore_k46_whole_least_cut_with_holds : PySem.Challenge.rw_cutrestore_k46_whole_least_cut_with.Holds := by
 w_on;o_law;k_head;(case hw=>w_witness2)
 k_fill
 refine IQ.walk (l:=PySem.Challenge.rw_cutrestore_k46_whole_least_cut_with) rfl rfl (λw h Y=>W.kIn_of Y) ?F
 case F=>
  intro w mg fa h KX G Y7;refine' IQ.all_mk KX G Y7 ?aB ?ZF ?tyB ?W7 ?Iu ?Rj ?Iw ?Iy ?Rk ?Rl ?Iz ?IA ?Rm ?IB ?Gh ?yj ?Gi ?yk ?Gj ?yl ?ym ?yn ?yo ?gw ?fO ?fP ?dM ?fE ?eS ?gy ?cS ?W8 ?W9 ?Xa ?Xb ?Xc ?Xd ?Nu ?Nv ?Nw ?Nx ?Ny ?Nz ?qE ?Rn ?Ro ?vX ?lx ?mQ ?mR ?pD ?j3 ?rX ?rY ?gc ?ji ?rZ ?jj ?pE ?mS ?jk ?gC ?j4 ?iG ?mT ?gf ?mU ?ly ?pF ?gU ?j5 ?lA ?j6 ?mV ?gV ?vY ?pG ?mW ?iH ?lB ?mX ?mY ?mZ ?pH ?r6 ?pJ ?r8 ?r9 ?jl ?se ?j7 ?gW ?sj ?m7 ?vZ ?lC ?NA ?jm ?m9 ?lD ?pK ?gX ?lE ?pL ?nc ?j8 ?pM ?gY ?pN ?j9 ?kb ?jo ?iI ?g9 ?ng ?kd ?pO ?fg ?ke ?NB ?sk ?lG ?NC ?sm ?sr ?su ?sy ?sC ?sD ?Hz ?HA ?R3 ?Vz ?R4 ?ND ?NF ?NG ?NH ?NI ?NJ ?LD ?LF ?Bt ?Bu ?DJ ?NK ?NL ?NM ?NN ?NO ?NP ?LG ?LH ?cY ?df ?cp ?eJ ?dg ?cu ?fF ?dB ?fc ?cI ?lH ?NQ ?El ?NR ?zS ?Em ?NS ?zT ?NU ?NV ?NW ?NX ?NY ?nh ?lI ?v7 ?eG ?d9 ?ei ?fW ?dE ?gi ?eA ?eI ?aF ?lF ?neF ?lP0 ?lP1 ?lP2 ?lP3 ?lP4 ?lP5 ?lP6 ?lP7 ?Xe ?hnB
  (case aB|ZF|tyB|W7=>k_is)
  (case Iu|Rj|Iw|Iy|Rk|Rl|Iz|IA|Rm|IB|Gh|yj|Gi|yk|Gj|yl|ym|yn|yo=>(refine' IQ.acR ?a ?b ?c ?d ?e ?f ?g;(case a=>k_is);(case b=>k_is);(case c=>k_is);(case d=>k_is);(case e=>k_is);(case f=>k_is);(case g=>k_is)))
  (case gw|fO|fP|dM|fE|eS|gy|cS|W8|W9|Xa|Xb|Xc|Xd|Nu|Nv|Nw|Nx|Ny|Nz|qE|Rn|Ro=>k_is)
  (case vX|lx|mQ|mR|pD|j3|rX|rY|gc=>(first | exact IQ.Ta (by k_is) (by k_is) (by k_is) (by k_is) | (refine' IQ.Ta ?a ?l ?c ?k;(case a=>k_is);(case l=>k_is);(case c=>k_is);(case k=>k_is))))
  (case ji|rZ|jj=>(first | exact IQ.Tb (by k_is) (by k_is) (by k_is) (by k_is) (by k_is) | (refine' IQ.Tb ?a ?i ?l ?c ?k;(case a=>k_is);(case i=>k_is);(case l=>k_is);(case c=>k_is);(case k=>k_is))))
  (case pE|mS=>(first | exact IQ.Ta (by k_is) (by k_is) (by k_is) (by k_is) | (refine' IQ.Ta ?a ?l ?c ?k;(case a=>k_is);(case l=>k_is);(case c=>k_is);(case k=>k_is))))
  (case jk|gC|j4|iG=>(first | exact IQ.Tb (by k_is) (by k_is) (by k_is) (by k_is) (by k_is) | (refine' IQ.Tb ?a ?i ?l ?c ?k;(case a=>k_is);(case i=>k_is);(case l=>k_is);(case c=>k_is);(case k=>k_is))))
  (case mT=>(first | exact IQ.Ta (by k_is) (by k_is) (by k_is) (by k_is) | (refine' IQ.Ta ?a ?l ?c ?k;(case a=>k_is);(case l=>k_is);(case c=>k_is);(case k=>k_is))))
  (case gf|mU=>(first | exact IQ.Tb (by k_is) (by k_is) (by k_is) (by k_is) (by k_is) | (refine' IQ.Tb ?a ?i ?l ?c ?k;(case a=>k_is);(case i=>k_is);(case l=>k_is);(case c=>k_is);(case k=>k_is))))
  (case ly|pF|gU|j5|lA|j6|mV|gV|vY|pG|mW|iH|lB|mX|mY|mZ|pH|r6|pJ|r8|r9|jl|se|j7|gW=>(first | exact IQ.Ta (by k_is) (by k_is) (by k_is) (by k_is) | (refine' IQ.Ta ?a ?l ?c ?k;(case a=>k_is);(case l=>k_is);(case c=>k_is);(case k=>k_is))))
  (case sj=>(first | exact IQ.Tb (by k_is) (by k_is) (by k_is) (by k_is) (by k_is) | (refine' IQ.Tb ?a ?i ?l ?c ?k;(case a=>k_is);(case i=>k_is);(case l=>k_is);(case c=>k_is);(case k=>k_is))))
  (case m7|vZ|lC=>(first | exact IQ.Ta (by k_is) (by k_is) (by k_is) (by k_is) | (refine' IQ.Ta ?a ?l ?c ?k;(case a=>k_is);(case l=>k_is);(case c=>k_is);(case k=>k_is))))
  (case NA=>(first | exact IQ.Tb (by k_is) (by k_is) (by k_is) (by k_is) (by k_is) | (refine' IQ.Tb ?a ?i ?l ?c ?k;(case a=>k_is);(case i=>k_is);(case l=>k_is);(case c=>k_is);(case k=>k_is))))
  (case jm|m9|lD|pK|gX|lE|pL|nc|j8|pM=>(first | exact IQ.Ta (by k_is) (by k_is) (by k_is) (by k_is) | (refine' IQ.Ta ?a ?l ?c ?k;(case a=>k_is);(case l=>k_is);(case c=>k_is);(case k=>k_is))))
  (case gY|pN|j9|kb|jo|iI|g9|ng|kd|pO|fg|ke|NB=>(first | exact IQ.Tb (by k_is) (by k_is) (by k_is) (by k_is) (by k_is) | (refine' IQ.Tb ?a ?i ?l ?c ?k;(case a=>k_is);(case i=>k_is);(case l=>k_is);(case c=>k_is);(case k=>k_is))))
  (case sk|lG|NC=>(first | exact IQ.Ta (by k_is) (by k_is) (by k_is) (by k_is) | (refine' IQ.Ta ?a ?l ?c ?k;(case a=>k_is);(case l=>k_is);(case c=>k_is);(case k=>k_is))))
  (case sm|sr|su|sy|sC|sD|Hz|HA|R3|Vz|R4|ND|NF|NG|NH|NI|NJ|LD|LF|Bt|Bu|DJ|NK|NL|NM|NN|NO|NP|LG|LH|cY|df|cp|eJ|dg|cu|fF|dB|fc|cI|lH|NQ|El|NR|zS|Em|NS|zT|NU|NV|NW|NX|NY|nh|lI|v7|eG|d9|ei|fW|dE|gi|eA|eI|aF|lF=>k_is)
  (case neF=>first|rfl|decide)
  (case lP0|lP1|lP2|lP3|lP4|lP5|lP6|lP7=>k_is)
  (case Xe|hnB=>decide +kernel)
