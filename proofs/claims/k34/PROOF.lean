import PyProof.Rows.All
import Wide.All
import OpenK.AllK
import Wide.FinOn
import Lean
import PyProof.EqAt
import PyProof.EqKinds
import PyProof.TupleCall
import PyProof.NeKinds
import PyProof.Rows.Range3
import KE.KIsAll
import PyProof.ExcClass3
import PyProof.InstStoreFacts
import PyProof.ExcArgsOwn
import PyProof.ExcBaseAll.ValueError
import PyProof.ExcAttrAll.ValueError
import PyProof.Draws
import PyProof.ZipIter
import PyProof.SumWalk
import PyProof.Rows.FactsT2
import PyProof.EnumMake
import PyProof.Rows.EnumRows
import KE.KTab
import PyProof.StationsW
import PyProof.RulesAs
import PyProof.NsDelKeeps
import PyProof.PassesOwn
import PyProof.Rows.ListMulArg
import PyProof.StrWalks
import PyProof.MeetsStr
import PyProof.MeetsStr2
import PyProof.StrBlockL
import PyProof.SliceStr2
import PyProof.StrLawsIdx
import PyProof.FitsStr
import PyProof.StrLaws
import PyProof.Rows.FStr
import KE.KIntText
import PyProof.StrLawsTight
import PyProof.Rows.StrIntSpec
import PyProof.Rows.CountFlat
import PyProof.Rows.SeqMore2
import PyProof.SeqRoads
import PyProof.StrLawsAffix
import PyProof.InstEq
import KE.KSortTup
import PyProof.DictUpdate
import PyProof.DictWalks
import KE.KDictList
import PyProof.FactsAll.NoneType_1
import Wide.Seal
import PyProof.WalkInts
import PyProof.Rows.CallKwBuiltin
import KE.KMinKey
import PyProof.ListRange
import PySem.Challenge.RW_cutrestore_k34_whole_alike_by_rows
set_option compiler.extract_closed false
set_option Elab.async false
set_option linter.all false
set_option maxRecDepth 100000
theorem L2.fo{p:Prop}(h:∀g:Prop,(p->g)->g):p:=h p id
theorem L2.yo1{A:Sort _}{p:A->Prop}{z:Prop}(h:∃a,p a)(y:∀a,p a->z):z:=h.elim λa x=>y a x
theorem L2.yo2{A B:Sort _}{p:A->B->Prop}{z:Prop}(h:∃a b,p a b)(y:∀a b,p a b->z):z:=h.elim λa x=>x.elim λb x=>y a b x
theorem L2.yo3{A B C:Sort _}{p:A->B->C->Prop}{z:Prop}(h:∃a b c,p a b c)(y:∀a b c,p a b c->z):z:=h.elim λa x=>x.elim λb x=>x.elim λc x=>y a b c x
theorem L2.yo4{A B C D:Sort _}{p:A->B->C->D->Prop}{z:Prop}(h:∃a b c d,p a b c d)(y:∀a b c d,p a b c d->z):z:=h.elim λa x=>x.elim λb x=>x.elim λc x=>x.elim λd x=>y a b c d x
theorem L2.yo5{A B C D E:Sort _}{p:A->B->C->D->E->Prop}{z:Prop}(h:∃a b c d e,p a b c d e)(y:∀a b c d e,p a b c d e->z):z:=h.elim λa x=>x.elim λb x=>x.elim λc x=>x.elim λd x=>x.elim λe x=>y a b c d e x
theorem L2.yo6{A B C D E F:Sort _}{p:A->B->C->D->E->F->Prop}{z:Prop}(h:∃a b c d e f,p a b c d e f)(y:∀a b c d e f,p a b c d e f->z):z:=h.elim λa x=>x.elim λb x=>x.elim λc x=>x.elim λd x=>x.elim λe x=>x.elim λf x=>y a b c d e f x
theorem L2.yo7{A B C D E F G:Sort _}{p:A->B->C->D->E->F->G->Prop}{z:Prop}(h:∃a b c d e f g,p a b c d e f g)(y:∀a b c d e f g,p a b c d e f g->z):z:=h.elim λa x=>x.elim λb x=>x.elim λc x=>x.elim λd x=>x.elim λe x=>x.elim λf x=>x.elim λg x=>y a b c d e f g x
theorem L2.yo8{A B C D E F G H:Sort _}{p:A->B->C->D->E->F->G->H->Prop}{z:Prop}(h:∃a b c d e f g h,p a b c d e f g h)(y:∀a b c d e f g h,p a b c d e f g h->z):z:=h.elim λa x=>x.elim λb x=>x.elim λc x=>x.elim λd x=>x.elim λe x=>x.elim λf x=>x.elim λg x=>x.elim λh x=>y a b c d e f g h x
theorem L2.ya2{A B y:Prop}(h:A/\B)(x:A->B->y):y:=x h.1 h.2
theorem L2.ya3{A B C y:Prop}(h:A/\B/\C)(x:A->B->C->y):y:=x h.1 h.2.1 h.2.2
theorem L2.ya4{A B C D y:Prop}(h:A/\B/\C/\D)(x:A->B->C->D->y):y:=x h.1 h.2.1 h.2.2.1 h.2.2.2
theorem L2.ya5{A B C D E y:Prop}(h:A/\B/\C/\D/\E)(x:A->B->C->D->E->y):y:=x h.1 h.2.1 h.2.2.1 h.2.2.2.1 h.2.2.2.2
theorem L2.ya6{A B C D E F y:Prop}(h:A/\B/\C/\D/\E/\F)(x:A->B->C->D->E->F->y):y:=x h.1 h.2.1 h.2.2.1 h.2.2.2.1 h.2.2.2.2.1 h.2.2.2.2.2
theorem L2.ya7{A B C D E F G y:Prop}(h:A/\B/\C/\D/\E/\F/\G)(x:A->B->C->D->E->F->G->y):y:=x h.1 h.2.1 h.2.2.1 h.2.2.2.1 h.2.2.2.2.1 h.2.2.2.2.2.1 h.2.2.2.2.2.2
theorem L2.ya8{A B C D E F G H y:Prop}(h:A/\B/\C/\D/\E/\F/\G/\H)(x:A->B->C->D->E->F->G->H->y):y:=x h.1 h.2.1 h.2.2.1 h.2.2.2.1 h.2.2.2.2.1 h.2.2.2.2.2.1 h.2.2.2.2.2.2.1 h.2.2.2.2.2.2.2
theorem L2.ya9{A B C D E F G H I y:Prop}(h:A/\B/\C/\D/\E/\F/\G/\H/\I)(x:A->B->C->D->E->F->G->H->I->y):y:=x h.1 h.2.1 h.2.2.1 h.2.2.2.1 h.2.2.2.2.1 h.2.2.2.2.2.1 h.2.2.2.2.2.2.1 h.2.2.2.2.2.2.2.1 h.2.2.2.2.2.2.2.2
section
set_option hygiene false
local macro_rules | `(tactic| calc $e:term) => `(tactic| refine $e)
local macro_rules | `(tactic| lia) => `(tactic| first | with_reducible assumption | exact Nat.zero_le _ | exact Nat.le_refl _ | (refine Nat.le_of_lt ?_; with_reducible assumption) | (refine Nat.lt_succ_of_le ?_; with_reducible assumption) | (refine Int.ofNat_lt.mpr ?_; with_reducible assumption) | (refine Eq.symm ?_; with_reducible assumption) | omega)
local macro_rules | `(tactic| obtain $p:rcasesPatMed := $e:term) => `(tactic| (refine L2.fo λgZ hZ => ?_; rcases $e:term with $p:rcasesPatMed) <;> (refine hZ ?_; clear hZ gZ))
local macro_rules
 | `(tactic| obtain ⟨$ps,*⟩ := $e:term) => do
  let q := ps.getElems
  let n := q.size
  let k0 ← `(tactic| skip)
  let i : Lean.Ident := ⟨e.raw⟩
  let ce ← if e.raw.isIdent then `(tactic| try clear $i:ident) else pure k0
  let mut xs := #[]
  let mut re := #[]
  for p in q do
    let a := p.raw[0][0]
    let x := a[0][0]
    let z := Lean.mkIdent (.num `z_ xs.size)
    let b := x.isIdent && a.getNumArgs == 1 && x.getId != `rfl
    let r ← `(tactic| rcases $z:ident with $p:rcasesPatLo)
    xs := xs.push (if b then ⟨x⟩ else z)
    re := re.push (if b then k0 else r)
  let mut t ← `(tactic| rcases $e:term with ⟨$q,*⟩)
  for m in [2:n+n] do
    let c := if m ≤ n then m - 1 else m - n
    let l := Lean.mkIdent (.str `L2 (if m ≤ n then s!"ya{m}" else s!"yo{c}"))
    let w := q[c:].toArray
    let w ← `(tactic| obtain ⟨$w,*⟩ := zH)
    let f := n ≤ c + 1
    let y := if f then xs else xs[:c].toArray.push (Lean.mkIdent `zH)
    let r := if f then re else re[:c].toArray.push w
    t ← `(tactic| first | (refine $l $e ?_; ($ce:tactic); intro $y*; $[$r]*) | $t:tactic)
  if e.raw.getId == `zH then return t
  `(tactic| (refine L2.fo λgZ hZ => ?_; $t:tactic) <;> (refine hZ ?_; clear hZ gZ))
local macro_rules | `(tactic| nofun) => `(tactic| refine L2.fo λgZ hZ => ?_)
local macro_rules | `(tactic| ac_rfl) => `(tactic| (refine hZ ?_; clear hZ gZ))
local macro_rules | `(()) => `(by lia)
local macro_rules | `(∅) => `(by decide)
local macro_rules | `(⋯) => `(by decide +kernel)
local macro_rules | `(nofun) => `(by simp)
local macro_rules | `(Sort) => `(by grind)
set_option hygiene true
set_option hygiene false
local macro_rules | `(tactic| grind) => `(tactic| first | exact Or.inl rfl | exact Or.inr rfl | assumption)
local macro_rules | `(tactic| exists $n:term) => `(tactic| (have sc : List.Nodup ($n : List PySem.Str) := (by decide +kernel); refine D.ok (N:=$n) (by walk_at "s") (λvs H Q E h => ?_) (λf gj A outer s H vs Q E hr h => ?_); (first | (cases h; subst_vars; rfl) | ((repeat rcases h with ⟨_, h⟩) <;> subst_vars <;> rfl))))
local macro_rules
 | `(tactic| walk_at "xc") => `(tactic| (refine ⟨?_⟩; intro pins s σ H Q I h))
 | `(tactic| walk_at "xd") => `(tactic| (refine ⟨?_⟩; intro pins s σ H D I h))
 | `(tactic| walk_at "xf") => `(tactic| refine ⟨Ext.set (Ext.refl _) rfl, ?_⟩)
set_option hygiene true
abbrev yx:= @PyProof.Rows.boot_isinstance
abbrev nS:= @PySem.F.plainAttrs_list
abbrev qy:= @PySem.F.slot_list_append
abbrev qz:= @PySem.F.type_list_append
abbrev tm:= @PyProof.Rows.boot_tuple
abbrev vX:= @PyProof.Rows.boot_list
abbrev Rq:= @PyProof.Rows.boot_all
section
open PySem
abbrev A':= @List.getElem?_map
abbrev E':= @wpAny_bind
abbrev J':= @Nat.le_refl
abbrev K':= @Heap.get?_push_of_some
abbrev L':= @Nat.le_of_lt
abbrev M':= @Bool.false_ne_true
abbrev P':= @List.getElem?_append_right
abbrev R':= @List.length_map
abbrev S':= @wpAny_pure
abbrev T':= @PySem.boot_len
abbrev U':= @Nat.lt_of_lt_of_le
abbrev V':= @Heap.lt_size
abbrev W':= @List.getElem?_append_left
abbrev X':= @Int.toNat_natCast
abbrev Y':= @List.append_nil
abbrev aac:= @List.length_append
abbrev aad:= @List.size_toArray
abbrev aah:= @Heap.get?_push_size
abbrev aai:= @List.mem_of_getElem?
abbrev aaj:= @decide_eq_true
abbrev aan:= @List.getElem_mem
abbrev aao:= @List.mem_cons_of_mem
abbrev aap:= @List.length_take
abbrev aaq:= @decide_eq_false
abbrev aar:= @List.map_append
abbrev aas:= @List.getD_eq_getElem?_getD
abbrev aat:= @PySem.mem_of_lookup
abbrev aav:= @Nat.zero_le
abbrev aax:= @List.take_length
abbrev aay:= @Nat.ne_of_lt
abbrev aaz:= @List.mem_append_right
abbrev aaB:= @Nat.le_trans
abbrev aaC:= @List.getElem?_of_mem
abbrev aaD:= @of_decide_eq_true
abbrev aaE:= @List.mem_cons_self
abbrev aaG:= @Heap.size_push
abbrev aaL:= @W.mg_none_of
abbrev aaP:= @True.intro
abbrev aaQ:= @Int.emod_lt_of_pos
abbrev aaR:= @Bool.and_eq_true
abbrev aaW:= @wpAny_field
abbrev aa1:= @Int.eq_ofNat_of_zero_le
abbrev aa2:= @False.elim
abbrev aa3:= @List.take_of_length_le
abbrev aa4:= @Int.emod_nonneg
abbrev aa5:= @List.length_cons
abbrev aa6:= @wpAny_pyIter_tuple
abbrev aa9:= @Nat.lt_irrefl
abbrev aba:= @List.map_cons
abbrev abg:= @wpAny_mono
abbrev abi:= @wpAny_callSpecial?_slot
abbrev abk:= @Nat.not_lt_zero
abbrev abl:= @Int.toNat_of_nonneg
abbrev abm:= @Nat.lt_of_le_of_lt
abbrev abn:= @List.take_succ
abbrev abo:= @PyProof.Rows.slot_tuple_getitem
abbrev abp:= @Nat.ne_of_gt
abbrev abq:= @wpAny_truthy_bool
abbrev abr:= @wpAny_newObj_type
abbrev abt:= @wpAny_seqItems
end
section
open PySem
abbrev ah:List Str:=["_law_pot_here","_law_many"]
abbrev aK:List Str:=["self","way","number","at"]
abbrev aL:List Str:=["thing","low","beyond"]
abbrev a0:List Str:=["thing","many"]
abbrev bh:List Str:=["self"]
abbrev bO:List Str:=["_law_value_here","_law_state","_law_way","_law_said","_law_modulus"]
abbrev cw:List Str:=["_law_net_here","_law_schedule","_law_m"]
abbrev cx:List Str:=["self","m"]
abbrev cz:List Str:=["_law_machine_here","_law_state","_law_way","_law_said"]
abbrev c6:List Str:=["_law_net_here","_law_schedule","_law_cells","_law_way"]
abbrev c7:List Str:=["_law_net_here","_law_one","_law_other","_law_due_here"]
abbrev dh:List Str:=["_law_run","_law_way","_law_number"]
abbrev dj:List Str:=["self","modulus","numbers","row","deeds"]
abbrev dn:List Str:=["value","state","way","said","modulus"]
abbrev dr:List Str:=["numbers","deed","worths","modulus"]
abbrev dt:List Str:=["_law_net_here","_law_schedule","_law_cells"]
abbrev dF:List Str:=["self","machines","ways","letters"]
abbrev dO:List Str:=["self","way","said","sender"]
abbrev dV:List Str:=["_law_net_here","_law_schedule","_law_cell"]
abbrev dX:List Str:=["things","least","most","modulus"]
abbrev d8:List Str:=["modulus","numbers","row","deeds"]
abbrev ed:List Str:=["_law_net_here"]
abbrev ef:List Str:=["_law_script","_law_k"]
abbrev eh:List Str:=["_law_k","_law_pot_here","_law_modulus"]
abbrev ek:List Str:=["_law_net_here","_law_one","_law_other"]
abbrev eo:List Str:=["_law_one","_law_way","_law_said","_law_numbers","_law_row","_law_machine_here"]
abbrev eH:List Str:=["things","least","most"]
abbrev eM:List Str:=["_law_net_here","_law_cells"]
abbrev eX:List Str:=["machines","ways","letters"]
abbrev e8:List Str:=["_law_k","_law_told_here","_law_m"]
abbrev fb:List Str:=["value","state","way","said"]
abbrev fh:List Str:=["_law_script"]
abbrev fx:List Str:=["self","state","way","said"]
abbrev fy:List Str:=["thing","sort","many"]
abbrev fA:List Str:=["row","deed","worths"]
abbrev fU:List Str:=["_law_run","_law_way"]
abbrev fV:List Str:=["_law_one","_law_free_here","_law_goal","_law_net_here"]
abbrev gg:List Str:=["self","m","end"]
abbrev gw:List Str:=["net","schedule","other"]
abbrev gI:List Str:=["_law_one"]
abbrev gW:List Str:=["self","way","at"]
abbrev g0:List Str:=["machine"]
abbrev g8:List Str:=["deed","worths"]
abbrev hC:List Str:=["one","other"]
end
namespace L2
open PySem PySem.Spec PyProof.Rows
section
theorem bU{α:Type _}{l:List α}{i:Nat}(h:i<l.length):l[i]?=some l[i]:=List.getElem?_eq_getElem h
abbrev Key:=Sum Int Str
def tq:Key->Value->Bool
 | .inl k,v=>Value.isInt k v
 | .inr x,v=>Value.isStrOf x v
def Xj(w:World):Key->Int
 | .inl k=>hashInt k
 | .inr x=>hashStr w x
theorem cV:∀{k:Key}{v:Value},tq k v=true->(∃i t,k=Sum.inl i/\v=Value.int i t)\/(∃x t,k=Sum.inr x/\v=Value.str x t)
 | .inl i,v,h=>by
  obtain⟨t,e⟩:=Value.isInt_shape (k:=i) (v:=v) h;calc .inl ⟨i,t,rfl,e⟩
 | .inr x,v,h=>by
  obtain⟨t,e⟩:=Value.isStrOf_shape (x:=x) (v:=v) h;calc .inr ⟨x,t,rfl,e⟩
theorem BO(i:Int)(t:Tok):tq (.inl i) (.int i t)=true:=by simp[tq,Value.isInt]
theorem BP(x:Str)(t:Tok):tq (.inr x) (.str x t)=true:=by simp[tq,Value.isStrOf]
theorem MH(a b:Int):decide ((Sum.inl a:Key)=Sum.inl b)=(a==b):=by
 by_cases e:a=b
 ·subst e;simp
 ·have h:¬(Sum.inl a:Key)=Sum.inl b:=λq=>e (Sum.inl.inj q);rw[aaq h];calc(beq_eq_false_iff_ne.mpr e).symm
theorem MI(a b:Str):decide ((Sum.inr a:Key)=Sum.inr b)=decide (a=b):=by
 by_cases e:a=b
 ·subst e;simp
 ·have h:¬(Sum.inr a:Key)=Sum.inr b:=λq=>e (Sum.inr.inj q);rw[aaq h,aaq e]
theorem MJ(a:Int)(b:Str):decide ((Sum.inl a:Key)=Sum.inr b)=false:=aaq (λq=>nomatch q)
theorem MK(a:Str)(b:Int):decide ((Sum.inr a:Key)=Sum.inl b)=false:=aaq (λq=>nomatch q)
def dG(prog:Program)(w:World):PySem.KeyKind prog w Key where
 is:=tq
 hash:=Xj w
 inj:=λv a b f d=>by
  rcases cV f with⟨i,t,rfl,rfl⟩|⟨x,t,rfl,rfl⟩
  ·rcases cV d with⟨j,u,rfl,e⟩ | ⟨y,u,rfl,e⟩
   ·injection e with e1 _;rw[e1]
   ·exact nomatch e
  ·rcases cV d with⟨j,u,rfl,e⟩ | ⟨y,u,rfl,e⟩
   ·exact nomatch e
   ·injection e with e1 _;rw[e1]
 byValue:=λk v h=>by
  rcases cV h with⟨i,t,rfl,rfl⟩|⟨x,t,rfl,rfl⟩<;>rfl
 pyHash:=λc h=>by
  rcases cV c with⟨i,t,rfl,rfl⟩|⟨x,t,rfl,rfl⟩
  ·exact wpAny_pyHash_int h
  ·exact wpAny_pyHash_str h
 eqBool:=λg c h=>by
  rcases cV g with⟨i,t,rfl,rfl⟩|⟨x,t,rfl,rfl⟩
  ·rcases cV c with⟨j,u,rfl,rfl⟩ | ⟨y,u,rfl,rfl⟩
   ·rw[MH]at h;exact wpAny_eqBool_int h
   ·rw[MJ]at h;exact SeqAt.EqAt.int_str i t y u _ _ _ _ h
  ·rcases cV c with⟨j,u,rfl,rfl⟩ | ⟨y,u,rfl,rfl⟩
   ·rw[MK]at h;exact SeqAt.EqAt.str_int x t j u _ _ _ _ h
   ·rw[MI]at h;exact wpAny_eqBool_str h
 «strs»:=λk x t v h=>by
  rcases cV h with⟨i,u,rfl,e⟩|⟨y,u,rfl,e⟩
  ·exact nomatch e
  ·injection e with e1 _
   subst e1
   cases v<;>rfl
theorem wb(prog:Program)(w:World)(i:Int)(t:Tok):(dG prog w).is (.inl i) (.int i t)=true:=BO i t
theorem wc(prog:Program)(w:World)(x:Str)(t:Tok):(dG prog w).is (.inr x) (.str x t)=true:=BP x t
end
section
variable {a b:Addr}{H:Hp}
inductive V where
 |bH|bl (b:Bool)|int (i:Int)|str (x:Str)|zS (b:Array UInt8)|K4 (b:UInt64)|ref (a:Addr)|ty (n:String)
 deriving DecidableEq
def RelV:V->Value->Prop
 | .bH,u=>u=Value.none
 | .bl b,u=>u=Value.bool b
 | .int i,u=>∃t,u=Value.int i t
 | .str x,u=>∃t,u=Value.str x t
 | .zS b,u=>∃t,u=Value.bytes b t
 | .K4 b,u=>∃t,u=Value.float b t
 | .ref a,u=>u=Value.ref a
 | .ty n,u=>u=Value.type n
abbrev Vals:List V->List Value->Prop:=Paired RelV
theorem Vals.length{xs:List V}{us:List Value}(r:Vals xs us):xs.length=us.length:=Paired.length r
theorem Vals.get:∀{xs:List V}{us:List Value}{i:Nat}{x:V},Vals xs us->xs[i]?=some x->∃u,us[i]?=some u/\RelV x u
 |_,_,_,_,.nil,e=>by simp at e
 |_,_,0,_,.cons r _,e=>by simp at e;subst e;calc⟨_,rfl,r⟩
 |_,_,i+1,x,.cons _ t,e=>by
  obtain⟨u,a,b⟩:=Vals.get (i:=i) (x:=x) t (by simpa using e);calc⟨u,by simpa using a,b⟩
theorem Vals.set{x:V}{u:Value}(r:RelV x u):∀{xs:List V}{us:List Value}(i:Nat),Vals xs us->Vals (xs.set i x) (us.set i u)
 |_,_,_,.nil=>.nil
 |_,_,0,.cons _ t=>.cons r t
 |_,_,i+1,.cons q t=>.cons q (Vals.set r i t)
theorem Vals.append:∀{xs a:List V}{us ws:List Value},Vals xs us->Vals a ws->Vals (xs++a) (us++ws)
 |_,_,_,_,.nil,s=>s
 |_,_,_,_,.cons r t,s=>.cons r (Vals.append t s)
theorem Vals.take:∀{xs:List V}{us:List Value}(n:Nat),Vals xs us->Vals (xs.take n) (us.take n)
 |_,_,0,_=>.nil
 |_,_,_+1,.nil=>.nil
 |_,_,n+1,.cons r t=>.cons r (Vals.take n t)
theorem Vals.drop:∀{xs:List V}{us:List Value}(n:Nat),Vals xs us->Vals (xs.drop n) (us.drop n)
 |_,_,0,r=>r
 |_,_,_+1,.nil=>.nil
 |_,_,n+1,.cons _ t=>Vals.drop n t
def lD:Option V->Option Value->Prop
 |some v,some u=>RelV v u
 |none,none=>True
 |_,_=>False
def KV{κ:Type}:List (κ×V)->List (κ×Value)->Prop:=Paired λ(p:κ×V) (q:κ×Value)=>p.1=q.1/\RelV p.2 q.2
def kV:Key->V
 | .inl i=>.int i
 | .inr x=>.str x
inductive HO where
 |lst (xs:List V)
 |tup (xs:List V)
 |dK (aW:List (Key×V))|dT (aW:List (List Key×V))
 |set (S:Int->Bool) (n:Nat)
 |ins (C dx:Addr) (fs:List (Str×V))
 |own (x:Addr)
 |xd (fs:List (Str×V))
 |met (f x:Addr)
 |Xk (lo hi:Int)
 |yj (o:Obj) (u:HO)
 |ML (ps:Array Value)
 |ext (φ:Heap->Prop)
abbrev Hp:=Addr->Option HO
def upd(H:Hp)(a:Addr)(o:HO):Hp:=λb=>if b=a then some o else H b
theorem ab{o:HO}:upd H a o a=some o:=by unfold upd;rw[if_pos rfl]
theorem ax{o:HO}(h:b≠a):upd H a o b=H b:=by unfold upd;rw[if_neg h]
theorem zT{o u:HO}(h:H a=some o)(h':H b=some u)(d:o≠u):a≠b:=by
 intro e;subst e;rw[h]at h';calc d (Option.some.inj h')
theorem au{o:HO}(h:H a=some o)(h':H b=none):a≠b:=by
 intro e;subst e;rw[h]at h';cases h'
section
variable (P:Program)(w:World)
def cF(H:Hp)(h:Heap)(a:Addr):HO->Prop
 | .lst xs=>xs.length<=sizeLine/\∃(b:List Value) (n:Nat),Vals xs b/\h.get? a=some {cls:=.type "list",data:=.seq b.toArray n}
 | .tup xs=>xs.length<=sizeLine/\∃b:List Value,Vals xs b/\IsTup h a b.toArray
 | .dK b=>b.length<=sizeLine/\(a==sysModules)=false/\∃vs,KV b vs/\h.DictOf (dG P w) a vs
 | .dT b=>b.length<=sizeLine/\(a == sysModules)=false/\∃xs:List (List Key×Addr×Value),
   Paired (λ(p:List Key×V) (q:List Key×Addr×Value)=>p.1=q.1/\H q.2.1=some (.tup (p.1.map kV))/\RelV p.2 q.2.2) b xs/\
   ∃o b c,h.get? a=some o/\o.ExactDict/\o.data=.dict b c/\b.toList=xs.map (entryOfKey (tupleKind (dG P w)))/\(xs.map (·.1)).Nodup
 | .set S n=>h.SetOf (intKind P w) a S n
 | .ins C d c=>H d=some (.own a)/\c.length<=1000/\d≠a/\h.get? a=some (W.instObj C d)/\
   ∃b,h.Ns1 d b/\(∀f,lD (c.lookup f) (b f))/\PySem.Within b (c.map (·.1))
 | .own _=>∃o,h.get? a=some o
 | .xd c=>∃b,h.Ns1 a b/\∀f,lD (c.lookup f) (b f)
 | .Xk b c=>∃t u v,h.get? a=some {cls:=.type "range",data:=.fields #[.int b t,.int c u,.int 1 v]}
 | .yj o u=>h.get? a=some o/\cF H h a u
 | .ML b=>h.get? a=some {cls:=.none,data:=.fields b}
 | .met f x=>h.get? a=some (W.methodObj (.ref f) (.ref x))
 | .ext φ=>φ h/\(∃o,h.get? a=some o)/\∀b c:Heap,φ b->(∀o,b.get? a=some o->c.get? a=some o)->φ c
def lU(H:Hp)(h:Heap):Prop:=∀a o,H a=some o->cF P w H h a o
end
section
variable {P:Program}{w:World}{H H':Hp}{h h':Heap}{a:Addr}{o:HO}
theorem cF.lt(x:cF P w H h a o):a<h.objs.size:=by
 cases o with
 |lst b=>obtain⟨_,_,_,_,e⟩:=x;calc V' e
 |tup b=>obtain⟨_,_,_,p⟩:=x;calc p.lt
 |dK b=>obtain⟨_,_,_,_,o,_,_,e,_⟩:=x;calc V' e
 |dT b=>obtain⟨_,_,_,_,o,_,_,e,_⟩:=x;calc V' e
 |set S n=>obtain⟨o,_,_,_,e,_⟩:=x;calc V' e
 |ins C c b=>obtain⟨_,_,_,e,_⟩:=x;calc V' e
 |own y=>obtain⟨_,e⟩:=x;calc V' e
 |xd b=>obtain⟨_,⟨_,_,_,e,_⟩,_⟩:=x;calc V' e
 |Xk b c=>obtain⟨_,_,_,e⟩:=x;calc V' e
 |yj b u=>obtain⟨e,_⟩:=x;calc V' e
 |ML b=>calc V' (show h.get? a=some _ from x)
 |met f y=>calc V' (show h.get? a=some _ from x)
 |ext φ=>obtain⟨_,⟨_,e⟩,_⟩:=x;calc V' e
theorem Paired.MM{α β:Type}{F G:α->β->Prop}:∀{c:List α}{d:List β},Paired F c d->(∀a b,F a b->G a b)->Paired G c d
 |_,_,.nil,_=>.nil
 |_,_,.cons r t,f=>.cons (f _ _ r) (Paired.MM t f)
theorem cF.aA(x:cF P w H h a o)(k:∀b u,(b=a\/H b=some (.own a))->h.get? b=some u->h'.get? b=some u)
  (m:∀b,H b=some (.own a)->H' b=some (.own a)) (j:∀b xs,H b=some (.tup xs)->H' b=some (.tup xs)):cF P w H' h' a o:=by
 induction o with
 |lst xs=>obtain⟨z,d,n,r,e⟩:=x;calc⟨z,d,n,r,k _ _ (.inl rfl) e⟩
 |tup xs=>obtain⟨z,d,r,f,e,c⟩:=x;calc⟨z,d,r,f,k _ _ (.inl rfl) e,c⟩
 |dK d=>obtain⟨z,y,l,r,f,g,i,e,c⟩:=x;calc⟨z,y,l,r,f,g,i,k _ _ (.inl rfl) e,c⟩
 |dT d=>
  obtain⟨z,y,xs,r,f,g,i,e,c⟩:=x;calc⟨z,y,xs,Paired.MM r λp q z=>⟨z.1,j _ _ z.2.1,z.2.2⟩,f,g,i,k _ _ (.inl rfl) e,c⟩
 |set S n=>obtain⟨f,g,i,t,e,c⟩:=x;calc⟨f,g,i,t,k _ _ (.inl rfl) e,c⟩
 |ins C d n=>
  obtain⟨d,z,s,e,j,⟨l,g,i,v,c⟩,r⟩:=x;calc⟨m _ d,z,s,k _ _ (.inl rfl) e,j,⟨l,g,i,k _ _ (.inr d) v,c⟩,r⟩
 |own y=>obtain⟨f,e⟩:=x;calc⟨f,k _ _ (.inl rfl) e⟩
 |xd n=>obtain⟨j,⟨l,g,i,e,c⟩,r⟩:=x;calc⟨j,⟨l,g,i,k _ _ (.inl rfl) e,c⟩,r⟩
 |Xk c d=>obtain⟨t,u,v,e⟩:=x;calc⟨t,u,v,k _ _ (.inl rfl) e⟩
 |yj f u c=>obtain⟨e,q⟩:=x;calc⟨k _ _ (.inl rfl) e,c q⟩
 |ML c=>
  have e:h.get? a=some {cls:=.none,data:=.fields c}:=x;show h'.get? a=some {cls:=.none,data:=.fields c};calc k a _ (.inl rfl) e
 |met f y=>
  have e:h.get? a=some (W.methodObj (.ref f) (.ref y)):=x;show h'.get? a=some (W.methodObj (.ref f) (.ref y));calc k a _ (.inl rfl) e
 |ext φ=>obtain⟨p,⟨o,e⟩,c⟩:=x;calc⟨c _ _ p λo q=>k _ _ (.inl rfl) q,⟨o,k _ _ (.inl rfl) e⟩,c⟩
theorem lU.lt(x:lU P w H h)(e:H a=some o):a<h.objs.size:=(x a o e).lt
theorem lU.fresh(x:lU P w H h)(e:h.objs.size<=a):H a=none:=by
 cases q:H a with
 |none=>rfl
 |some u=>calc absurd (U' (x.lt q) e) (aa9 _)
theorem lU.kept(x:lU P w H h)(k:∀b u,h.get? b=some u->h'.get? b=some u):lU P w H h':=λa o e=>
 (x a o e).aA (λb u _ q=>k b u q) (λ_ q=>q) λ_ _ q=>q
theorem lU.laid(x:lU P w H h)(k:∀b u,h.get? b=some u->h'.get? b=some u)(g:h.objs.size<=a)(c:cF P w (upd H a o) h' a o):lU P w (upd H a o) h':=λb u e=>by
 have d:=x.fresh g;by_cases f:b=a
 ·subst f;rw[ab]at e;cases e;exact c
 ·rw[ax f]at e;exact(x b u e).aA (λc v _ q=>k c v q) (λc q=>by rw[ax (au q d)];calc q) λc e q=>by rw[ax (au q d)];calc q
end
def Rd(H:Hp)(a:Addr)(u:HO):Prop:=H a=some u\/∃o,H a=some (.yj o u)
theorem Rd.ok{P:Program}{w:World}{h:Heap}{u:HO}(r:Rd H a u)(x:lU P w H h):cF P w H h a u:=by
 rcases r with r|⟨o,r⟩
 ·exact x a u r
 ·obtain⟨_,q⟩:=x a _ r;calc q
def Rr:Option HO->Prop
 |some (.lst _)=>True
 |some (.dK _)=>True
 |some (.dT _)=>True
 |some (.set _ _)=>True
 |some (.ins _ _ _)=>True
 |some (.ext _)=>True
 |_=>False
section
variable {P:Program}{w:World}{H:Hp}{h h':Heap}{x e:Addr}{o':HO}
theorem lU.write(o:lU P w H h)(a:Rr (H x))(l:e=x\/H e=some (.own x))(k:∀b u,b≠e->h.get? b=some u->h'.get? b=some u)(p:∃u,h'.get? e=some u)
  (j:cF P w (upd H x o') h' x o'):lU P w (upd H x o') h':=λb u q=>by
 have m:∀c y,H c=some (.own y)->c≠x:=λc y r z=>by subst z;rw[r]at a;exact a
 have s:∀c d,H c=some (.tup d)->c≠x:=λc d r z=>by subst z;rw[r]at a;exact a
 by_cases f:b=x
 ·subst f;rw[ab]at q;cases q;exact j
 ·rw[ax f] at q;by_cases g:b=e
  ·have n:H b=some (.own x):=by
    rcases l with z|z
    ·exact absurd (g.trans z) f
    ·rw[g];exact z
   rw[q]at n;cases n;obtain⟨v,a⟩:=p;exact⟨v,by rw[g];calc a⟩
  ·refine(o b u q).aA (λc v i r=>k c v ?_ r) (λc r=>by rw[ax (m c b r)];calc r) λc d r=>by rw[ax (s c d r)];exact r
   rcases i with rfl|i
   ·exact g
   ·rintro rfl;rcases l with z | z
    ·exact m c b i z
    ·rw[i]at z;cases z;calc f rfl
end
structure Un(fs ex:List Addr)(H H':Hp)(h h':Heap):Prop where
 keep:∀b o,h.get? b=some o->H b=none->b∉fs->b∉ex->h'.get? b=some o
 slot:∀b o,h.get? b=some o->H b=none->b∈fs->b∉ex->∃sl,h'.get? b=some {o with slots:=sl}
 free:∀b o,h.get? b=some o->H b=none->b∉ex->H' b=none
 there:∀b o,h.get? b=some o->b∉ex->∃o',h'.get? b=some o'
 aJ:∀b xs,H b=some (.tup xs)->H' b=some (.tup xs)
 uH:∀b o u,H b=some (.yj o u)->H' b=some (.yj o u)
 wd:∀b ps,H b=some (.ML ps)->∃more,H' b=some (.ML (ps++more))
section
variable {fs tx ex ex':List Addr}{H H1 H2:Hp}{h h1 h2 h':Heap}{a x e:Addr}{o:HO}
theorem Un.any(u:Un fs ex H H1 h h1){b:Addr}{a:Obj}(q:h.get? b=some a)(n:H b=none)(c:b∉ex):∃d,h1.get? b=some {a with slots:=d}:=by
 by_cases d:b∈fs
 ·exact u.slot b a q n d c
 ·calc⟨a.slots,u.keep b a q n d c⟩
theorem Un.kept(k:∀b u,h.get? b=some u->h'.get? b=some u):Un fs ex H H h h':=
 ⟨λb a q _ _ _=>k b a q,λb a q _ _ _=>⟨a.slots,k b a q⟩,λ_ _ _ n _=>n,λb a q _=>⟨a,k b a q⟩,λ_ _ q=>q,λ_ _ _ q=>q,λ_ a q=>⟨#[],by rw[q];simp⟩⟩
theorem Un.refl:Un fs ex H H h h:=Un.kept λ_ _ q=>q
theorem Un.laid(k:∀b u,h.get? b=some u->h'.get? b=some u)(d:h.objs.size<=a)(c:H a=none):Un fs ex H (upd H a o) h h' where
 keep:=λb u q _ _ _=>k b u q
 slot:=λb u q _ _ _=>⟨u.slots,k b u q⟩
 free:=λb u q n _=>by rw[ax (aay (U' (V' q) d))];exact n
 there:=λb u q _=>⟨u,k b u q⟩
 aJ:=λb d q=>by rw[ax (au q c)];exact q
 uH:=λb u d q=>by rw[ax (au q c)];exact q
 wd:=λb d q=>⟨#[],by rw[ax (au q c),q];simp⟩
theorem Un.write(a:Rr (H x))(i:e=x\/H e=some (.own x))(k:∀b u,b≠e->h.get? b=some u->h'.get? b=some u)(j:∃u,h'.get? e=some u):Un fs ex H (upd H x o) h h':=by
 have d:∀b,H b=none->b≠x:=λb n z=>by subst z;rw[n]at a;exact a
 have f:∀b,H b=none->b≠e:=λb n z=>by
  subst z;rcases i with r|r
  ·exact d b n r
  ·rw[n]at r;cases r
 have c:∀b u,H b=some u->¬Rr (some u)->b≠x:=λb u q l z=>by subst z;rw[q]at a;exact l a
 refine⟨λb u q n _ _=>k b u (f b n) q,λb u q n _ _=>⟨u.slots,k b u (f b n) q⟩,λb u q n _=>by rw[ax (d b n)];exact n,λb u q _=>?_,
  λb a q=>by rw[ax (c b _ q λz=>z)];calc q,λb u a q=>by rw[ax (c b _ q λz=>z)];calc q,λb a q=>⟨#[],by rw[ax (c b _ q λz=>z),q];simp⟩⟩
 by_cases g:b=e
 ·subst g;exact j
 ·calc⟨u,k b u g q⟩
end
def VS(h:Heap)(H:Hp):List Addr:=(List.range h.objs.size).filter λa=>(H a).isSome
def uJ(h:Heap)(H:Hp):Heap:=W.hideAll h (VS h H)
theorem BQ(h:Heap)(H:Hp):(uJ h H).objs.size=h.objs.size:=W.hideAll_size _ _
theorem DI{h:Heap}{o:Obj}(e:h.get? b=some o)(n:H b=none):(uJ h H).get? b=some o:=
 W.hideAll_get _ e λa=>by
  have q:(H b).isSome=true:=(List.mem_filter.mp a).2;rw[n]at q;simp at q
theorem IZ{h:Heap}{H:Hp}{b:Addr}{o:Obj}(e:(uJ h H).get? b=some o):h.get? b=some o/\H b=none:=by
 have a:h.get? b=some o:=W.of_hideAll (VS h H) e;refine⟨a,?_⟩
 cases q:H b with
 |none=>rfl
 |some x=>
  have c:b∈VS h H:=List.mem_filter.mpr ⟨List.mem_range.mpr (V' a),by simp[q]⟩;have z:(uJ h H).get? b=none:=W.hideAll_none (VS h H) c;rw[z]at e;cases e
end
section
variable {A:Around}{ch:List Addr}{t':Nat}{E:Value->Shared->Prop}
structure Mod(K:W.Frag)(mg:Str->Option Value)(base:Heap):Prop where
 Qg:K.In base
 glob:base.Ns mainGlobals mg
 blt:∃mb,base.Ns builtinsNs mb/\∀x:Str,x≠"__name__"->mb x=bootBuiltins x
 nolimit:base.NoLimit
structure Cx where
 prog:Program
 w:World
 K:W.Frag
 mg:Str->Option Value
 base:Heap
 A:Around
 N:List Str
 s₀:Shared
 H₀:Hp
 env:Env
 outer:List Env
 stack:List Env
 ex:List Addr
 fn:Str->Bool
 calm:Bool
 pn:List (Addr×Obj)
 xe:Value->Shared->Prop
def BR(l:List Env):List Addr:=l.filterMap (·.frame)
abbrev Cx.fs(X:Cx):List Addr:=BR X.outer
def Ru(sc:Scope)(x:Str):Prop:=sc.names.lookup x=some .local\/sc.names.lookup x=some .cell\/sc.names.lookup x=some .free
def Loc(sc:Scope)(x:Str):Prop:=sc.names.lookup x=some .local\/sc.names.lookup x=some .cell
def Look(env:Env)(h:Heap)(m:Str->Option Value)(x:Str)(u:Value):Prop:=
 (env.kindOf x=some .local/\m x=some u)\/((env.kindOf x=some .cell\/env.kindOf x=some .free)/\∃c,env.cells.lookup x=some c/\h.IsCell c (some u))
structure Cx.Ok(X:Cx):Prop where
 mod:Mod X.K X.mg X.base
 kind:X.env.scope.kind=.function
 glob:X.env.globals=mainGlobals
 blt:X.env.builtins=builtinsNs
 above:X.s₀.heap.objs.size<=X.env.locals
 inj:∀x y c,X.env.cells.lookup x=some c->X.env.cells.lookup y=some c->x=y
 has:∀x,(X.env.kindOf x=some .cell\/X.env.kindOf x=some .free)->∃c,X.env.cells.lookup x=some c
 Qh:∀x c,X.fn x=true->X.env.cells.lookup x=some c->X.s₀.heap.objs.size<=c
 hd:X.calm=true->X.A.handled=none
 frames:X.A.frames=some X.stack
 Rv:X.stack=X.outer\/(X.stack=X.env::X.outer/\X.env.frame=some X.env.locals)
 VT:∀b∈X.ex,b≠X.env.locals/\∀x c,X.env.cells.lookup x=some c->c≠b
 bs:∀b o,X.base.get? b=some o->X.s₀.heap.get? b=some o/\X.H₀ b=none
 DJ:X.base.objs.size<=X.s₀.heap.objs.size
 yy:∀b o,X.base.get? b=some o->b∉X.ex
 BS:∀b∈X.ex,b∉X.fs
 nW:X.s₀.heap.FunFrames X.base X.outer
 K5:∀b∈X.fs,X.H₀ b=none
structure Inv(X:Cx)(pins:List (Addr×Obj))(σ:List (Option V))(H:Hp)(s:Shared):Prop where
 ok:X.Ok
 os:s.os=X.s₀.os
 bare:AllBare s.gens
 base:Un X.fs X.ex X.H₀ H X.s₀.heap s.heap
 loc:∃m,s.heap.Ns X.env.locals m/\∀(i:Nat) (x:Str) (v:V),X.N[i]?=some x->σ[i]?=some (some v)->Ru X.env.scope x->∃u,RelV v u/\Look X.env s.heap m x u
 cell:∀x c,X.env.cells.lookup x=some c->∃v,s.heap.IsCell c v
 free:H X.env.locals=none
 j6:∀x c,X.env.cells.lookup x=some c->H c=none
 pin:∀p∈X.pn++pins,s.heap.get? p.1=some p.2/\H p.1=none/\p.1≠X.env.locals/\p.1∉X.fs/\∀v,p.2.data≠.cell v
 aU:lU X.prog X.w H s.heap
 len:σ.length=X.N.length
section
variable {X:Cx}{pins:List (Addr×Obj)}{σ:List (Option V)}{H H':Hp}{s:Shared}{h':Heap}
theorem Cx.Ok.MO(a:X.Ok){b:Addr}{o:Obj}(e:X.base.get? b=some o):b∉X.fs:=λc=>by
 have:=(a.nW.mem c).1;rw[e]at this;cases this
theorem Inv.bs(I:Inv X pins σ H s):∀b o,X.base.get? b=some o->s.heap.get? b=some o/\H b=none:=λb o e=>
 ⟨I.base.keep b o (I.ok.bs b o e).1 (I.ok.bs b o e).2 (I.ok.MO e) (I.ok.yy b o e),I.base.free b o (I.ok.bs b o e).1 (I.ok.bs b o e).2 (I.ok.yy b o e)⟩
theorem Inv.bk(I:Inv X pins σ H s):∀b o,X.base.get? b=some o->s.heap.get? b=some o:=λb o e=>(I.bs b o e).1
theorem Inv.mod(I:Inv X pins σ H s):Mod X.K X.mg X.base:=I.ok.mod
theorem Inv.j1(I:Inv X pins σ H s):X.K.In s.heap:=I.ok.mod.Qg.keeps I.bk
theorem Inv.lt(I:Inv X pins σ H s):X.env.locals<s.heap.objs.size:=let ⟨_,a,_⟩:=I.loc;a.lt
theorem Inv.sz(I:Inv X pins σ H s):X.s₀.heap.objs.size<=s.heap.objs.size:=aaB I.ok.above (L' I.lt)
theorem Inv.MP(I:Inv X pins σ H s){a:Addr}(h:s.heap.objs.size<=a):a∉X.fs:=λa=>by
 obtain⟨_,o,b,_⟩:=I.ok.nW.mem a;calc absurd (U' (V' b) (aaB I.sz h)) (aa9 _)
theorem Inv.MQ(I:Inv X pins σ H s):∀x c,X.env.cells.lookup x=some c->c≠X.env.locals:=λx c e z=>by
 obtain⟨v,o,a,b⟩:=I.cell x c e;obtain⟨m,⟨g,h,i,d,f,_⟩,_⟩:=I.loc;rw[z,d]at a;cases a;rw[f]at b;cases b
theorem Inv.nW(I:Inv X pins σ H s):s.heap.FunFrames X.base X.outer:=by
 have a:∀(l:List Env),(∀b∈BR l,b∈X.fs)->X.s₀.heap.FunFrames X.base l->s.heap.FunFrames X.base l:=by
  intro l;induction l with
  |nil=>intro _ _;trivial
  |cons c r h=>
   intro g e;obtain⟨i,⟨L,o,c,j,f,k⟩,l⟩:=e;have d:L∈X.fs:=g L (by unfold BR;rw[List.filterMap_cons,c];calc aaE);obtain⟨m,e⟩:=I.base.slot L o f (I.ok.K5 L d) d λz=>I.ok.BS L z d;exact⟨i,⟨L,_,c,j,e,k⟩,h (λb f=>g b (by unfold BR;rw[List.filterMap_cons,c];calc aao _ f)) l⟩
 calc a X.outer (λ_ f=>f) I.ok.nW
theorem Inv.stack(I:Inv X pins σ H s):s.heap.FunFrames X.base X.stack:=by
 rcases I.ok.Rv with e|⟨e,a⟩
 ·rw[e];exact I.nW
 ·rw[e];obtain⟨m,b,_⟩:=I.loc;calc .cons (by rw[I.ok.kind];decide) a b ?_ I.nW;calc Heap.get?_none_of_le (aaB I.ok.DJ I.ok.above)
theorem Inv.uK(I:Inv X pins σ H s):∀b∈BR X.stack,b∈X.env.locals::X.fs:=λb a=>by
 rcases I.ok.Rv with e|⟨e,b⟩
 ·rw[e]at a;exact aao _ a
 ·rw[e]at a;unfold BR at a;rw[List.filterMap_cons,b]at a;calc a
theorem Inv.zU(I:Inv X pins σ H s):∀b∈BR X.stack,H b=none:=λb a=>by
 rcases List.mem_cons.mp (I.uK b a) with e|a
 ·rw[e];exact I.free
 ·obtain⟨_,o,c,_⟩:=I.ok.nW.mem a;calc I.base.free b o c (I.ok.K5 b a) λz=>I.ok.BS b z a
theorem Inv.step{g':Array GenState}{t':Nat}{d':Drawn}(I:Inv X pins σ H s)
  (j:∀b∈ch,(b∈X.ex\/X.s₀.heap.objs.size<=b)/\b≠X.env.locals/\(∀x c,X.env.cells.lookup x=some c->c≠b)/\∀p∈X.pn++pins,p.1≠b)
  (keep:∀b o,b≠X.env.locals->b∉X.fs->b∉ch->s.heap.get? b=some o->H b=none->h'.get? b=some o)
  (slot:∀b o,b≠X.env.locals->b∈X.fs->b∉ch->s.heap.get? b=some o->H b=none->∃D,h'.get? b=some {o with slots:=D}) (free:∀b o,b∉ch->s.heap.get? b=some o->H b=none->H' b=none)
  (there:∀b o,b∉ch->s.heap.get? b=some o->∃k,h'.get? b=some k)
  (J:∀b xs,H b=some (.tup xs)->H' b=some (.tup xs)) (K:∀b o u,H b=some (.yj o u)->H' b=some (.yj o u)) (L:∀b B,H b=some (.ML B)->∃q,H' b=some (.ML (B++q)))
  (ns:∀m,s.heap.Ns X.env.locals m->h'.Ns X.env.locals m) (M:lU X.prog X.w H' h') (N:AllBare g'):
  Inv X pins σ H' {s with heap:=h',gens:=g',drawn:=d',toks:=t'}:=by
 have t:∀b o,X.s₀.heap.get? b=some o->b≠X.env.locals:=λb o e=>aay (U' (V' e) I.ok.above);have C:∀b o,X.s₀.heap.get? b=some o->b∉X.ex->b∉ch:=λb o e a g=>by
  rcases(j b g).1 with z|z
  ·exact a z
  ·exact absurd (U' (V' e) z) (aa9 _)
 have d:∀x c,X.env.cells.lookup x=some c->∀v,s.heap.IsCell c v->h'.IsCell c v:=λx c e v ⟨o,h,E⟩=>by
  have y:c∉ch:=λz=>(j c z).2.2.1 x c e rfl;by_cases F:c∈X.fs
  ·obtain⟨D,q⟩:=slot c o (I.MQ x c e) F y h (I.j6 x c e);exact⟨_,q,E⟩
  ·exact⟨o,keep c o (I.MQ x c e) F y h (I.j6 x c e),E⟩
 refine⟨I.ok,I.os,N,⟨λb o e n g a=>?_,λb o e n g a=>?_,λb o e n a=>?_,λb o e a=>?_,λb xs e=>J b xs (I.base.aJ b xs e),λb o xs e=>K b o xs (I.base.uH b o xs e),λb B e=>?_⟩,?_,λx c e=>?_,?_,λx c e=>?_,λp G=>?_,M,I.len⟩
 ·exact keep b o (t b o e) g (C b o e a) (I.base.keep b o e n g a) (I.base.free b o e n a)
 ·obtain⟨D,f⟩:=I.base.slot b o e n g a;obtain⟨q,A⟩:=slot b _ (t b o e) g (C b o e a) f (I.base.free b o e n a);exact⟨q,A⟩
 ·obtain⟨k,f⟩:=I.base.there b o e a;exact free b k (C b o e a) f (I.base.free b o e n a)
 ·obtain⟨k,f⟩:=I.base.there b o e a;exact there b k (C b o e a) f
 ·obtain⟨a,f⟩:=I.base.wd b B e;obtain⟨g,A⟩:=L b _ f;exact⟨a++g,by rw[A,Array.append_assoc]⟩
 ·obtain⟨m,a,O⟩:=I.loc;calc⟨m,ns m a,λi x v f A P=>?_⟩;obtain⟨u,r,l⟩:=O i x v f A P;calc⟨u,r,?_⟩;rcases l with l | ⟨k,c,e,z⟩
  ·exact .inl l
  ·exact .inr ⟨k,c,e,d x c e _ z⟩
 ·obtain⟨v,z⟩:=I.cell x c e;exact⟨v,d x c e v z⟩
 ·obtain⟨m,⟨o,_,_,h,_⟩,_⟩:=I.loc;exact free _ o (λz=>(j _ z).2.1 rfl) h I.free
 ·obtain⟨v,o,h,E⟩:=I.cell x c e;exact free c o (λz=>(j c z).2.2.1 x c e rfl) h (I.j6 x c e)
 ·obtain⟨e,n,a,b,d⟩:=I.pin p G;have y:p.1∉ch:=λz=>(j p.1 z).2.2.2 p G rfl;calc⟨keep p.1 p.2 a b y e n,free p.1 p.2 y e n,a,b,d⟩
theorem Inv.un(I:Inv X pins σ H s)(u:Un X.fs [] H H' s.heap h')(f:lU X.prog X.w H' h'):Inv X pins σ H' {s with heap:=h',toks:=t'}:=by
 obtain⟨m,⟨o,a,b,c,r⟩,_⟩:=id I.loc;obtain⟨a,g⟩:=u.any c I.free nofun;exact I.step (g':=s.gens) (d':=s.drawn) (ch:=[]) (λ_ z=>nomatch z) (λb o _ a _ e n=>u.keep b o e n a nofun) (λb o _ a _ e n=>u.slot b o e n a nofun) (λb o _ e n=>u.free b o e n nofun) (λb o _ e=>u.there b o e nofun) u.aJ u.uH u.wd (λa h=>by
  obtain⟨a,i,j,d,k⟩:=h;rw[c] at d;cases d;calc⟨_,i,j,g,k⟩) f I.bare
theorem Inv.call{g':Array GenState}{d':Drawn}(I:Inv X pins σ H s)(u:Un (BR X.stack) ch H H' s.heap h')(i:lU X.prog X.w H' h')(j:AllBare g')
  (f:∀b∈ch,(b∈X.ex\/X.s₀.heap.objs.size<=b)/\b≠X.env.locals/\(∀x c,X.env.cells.lookup x=some c->c≠b)/\∀p∈X.pn++pins,p.1≠b):
  Inv X pins σ H' {s with heap:=h',gens:=g',drawn:=d',toks:=t'}:=by
 obtain⟨m,⟨o,a,c,g,r⟩,_⟩:=id I.loc;obtain⟨a,d⟩:=u.any g I.free λz=>(f _ z).2.1 rfl;exact I.step (ch:=ch) f (λb o d c a e n=>u.keep b o e n (λz=>(List.mem_cons.mp (I.uK b z)).elim d c) a) (λb o _ _ a e n=>u.any e n a) (λb o a e n=>u.free b o e n a) (λb o a e=>u.there b o e a) u.aJ u.uH u.wd (λc k=>by
  obtain⟨a,l,q,h,t⟩:=k;rw[g] at h;cases h;calc⟨_,l,q,d,t⟩) i j
theorem Inv.turned{a:Addr}(I:Inv X pins σ H s)(k:∀b o,b≠a->s.heap.get? b=some o->h'.get? b=some o)(j:H a=none)(g:a≠X.env.locals)
  (l:a∈X.ex\/X.s₀.heap.objs.size<=a) (r:∀x c,X.env.cells.lookup x=some c->c≠a) (t:∀p∈X.pn++pins,p.1≠a):Inv X pins σ H {s with heap:=h',toks:=t'}:=by
 have i:∀b u,H b=some u->b≠a:=λb u e z=>by rw[z,j]at e;cases e
 refine I.step (g':=s.gens) (d':=s.drawn) (ch:=[a]) (λb j=>?_) (λb o _ _ d e _=>k b o (λz=>d (by simp[z])) e) (λb o _ _ d e _=>⟨o.slots,k b o (λz=>d (by simp[z])) e⟩) (λ_ _ _ _ n=>n)
  (λb o d e=>⟨o,k b o (λz=>d (by simp[z])) e⟩) (λ_ _ e=>e) (λ_ _ _ e=>e) (λb m e=>⟨#[],by rw[e];simp⟩) (λm v=>?_) (λb u e=>?_) I.bare
 ·have e:b=a:=by simpa using j
  subst e;exact⟨l,g,r,t⟩
 ·obtain⟨o,a,j,l,r⟩:=v;exact⟨o,a,j,k _ o (Ne.symm g) l,r⟩
 ·calc(I.aU b u e).aA (λc v d q=>k c v ?_ q) (λ_ q=>q) λ_ _ q=>q;rcases d with z | z
  ·rw[z];exact i b u e
  ·calc i c _ z
theorem Inv.tok(I:Inv X pins σ H s)(t:Nat):Inv X pins σ H {s with toks:=t}:=I.un (h':=s.heap) (t':=t) Un.refl I.aU
theorem Inv.kept(I:Inv X pins σ H s)(k:∀b u,s.heap.get? b=some u->h'.get? b=some u):Inv X pins σ H {s with heap:=h',toks:=t'}:=I.un (Un.kept k) (I.aU.kept k)
theorem Inv.laid{a:Addr}{o:HO}(I:Inv X pins σ H s)(k:∀b u,s.heap.get? b=some u->h'.get? b=some u)(c:s.heap.objs.size<=a)(d:cF X.prog X.w (upd H a o) h' a o):
  Inv X pins σ (upd H a o) {s with heap:=h',toks:=t'}:=I.un (Un.laid k c (I.aU.fresh c)) (I.aU.laid k c d)
theorem Inv.write{x e:Addr}{o:HO}(I:Inv X pins σ H s)(c:Rr (H x))(d:e=x\/H e=some (.own x))(k:∀b u,b≠e->s.heap.get? b=some u->h'.get? b=some u)(f:∃u,h'.get? e=some u)
  (a:cF X.prog X.w (upd H x o) h' x o):Inv X pins σ (upd H x o) {s with heap:=h',toks:=t'}:=I.un (Un.write c d k f) (I.aU.write c d k f a)
theorem Inv.uL{a:List (Addr×Obj)}(I:Inv X pins σ H s)(h:∀p∈a,s.heap.get? p.1=some p.2/\H p.1=none/\p.1≠X.env.locals/\p.1∉X.fs/\∀v,p.2.data≠.cell v):Inv X a σ H s:=
 ⟨I.ok,I.os,I.bare,I.base,I.loc,I.cell,I.free,I.j6,λp a=>(List.mem_append.mp a).elim (λz=>I.pin p (List.mem_append_left _ z)) (h p),I.aU,I.len⟩
theorem we{N:List Str}(c:N.Nodup){i j:Nat}{x:Str}(a:N[i]?=some x)(b:N[j]?=some x):i=j:=by
 obtain⟨e,d⟩:=List.getElem?_eq_some_iff.mp a;obtain⟨g,e⟩:=List.getElem?_eq_some_iff.mp b;calc(List.getElem_inj c).mp (d.trans e.symm)
theorem BU{M:Model}{i:Nat}{x:Str}{v:V}{u:Value}{Q:Unit->Shared->Prop}(I:Inv X pins σ H s)(hN:X.N.Nodup)(O:X.N[i]?=some x)(C:Loc X.env.scope x)(r:RelV v u)
  (h:∀s',Inv X pins (σ.set i (some v)) H s'->(∃a,Heap.SameBut a s.heap s'.heap/\(a=X.env.locals\/X.env.cells.lookup x=some a))->Q ⟨⟩ s') (hf:X.fn x=true\/X.env.scope.names.lookup x=some .local:=by grind):wpAny M A (storeName X.env x u) Q E s:=by
 obtain⟨m,U,hl⟩:=id I.loc;have Xn:(X.env.scope.kind == .class||(X.env.scope.kind == .module&&X.env.locals !=X.env.globals))=false:=by rw[I.ok.kind];rfl
 have G:i<σ.length:=by rw[I.len];exact(List.getElem?_eq_some_iff.mp O).1
 have W:=I.MQ;have l:∀{a:Addr} {h':Heap},(∃o,s.heap.get? a=some o/\H a=none)->Heap.SameBut a s.heap h'->lU X.prog X.w H h':=λ{a h'} v g b M e=>by
  obtain⟨_,_,K8⟩:=v;calc(I.aU b M e).aA (λc R B q=>(g.2 c ?_).trans q) (λ_ q=>q) λ_ _ q=>q;rintro rfl;rcases B with rfl|B
  ·rw[K8]at e;cases e
  ·rw[K8]at B;cases B
 rcases C with J|J
 ·calc wpAny_storeName_local J U (λh' a g=>?_) Xn;obtain⟨M,_,_,v,_⟩:=id U;refine h _ ⟨I.ok,I.os,I.bare,⟨λb o e n K C=>?_,λb o e n K C=>?_,I.base.free,λb o e C=>?_,I.base.aJ,I.base.uH,I.base.wd⟩,⟨_,a,λj y Y t F Z=>?_⟩,λy c e=>?_,I.free,I.j6,λp hp=>?_,l ⟨M,v,I.free⟩ g,by simpa using I.len⟩ ⟨_,g,.inl rfl⟩
  ·exact(g.2 b (aay (U' (V' e) I.ok.above))).trans (I.base.keep b o e n K C)
  ·obtain⟨sl,t⟩:=I.base.slot b o e n K C;exact⟨sl,(g.2 b (aay (U' (V' e) I.ok.above))).trans t⟩
  ·obtain⟨o',t⟩:=I.base.there b o e C;exact⟨o',(g.2 b (aay (U' (V' e) I.ok.above))).trans t⟩
  ·by_cases L:j=i
   ·subst L;rw[O] at t;cases t;rw[List.getElem?_set_self G] at F
    cases F;exact⟨u,r,.inl ⟨J,nofun⟩⟩
   ·rw[List.getElem?_set_ne (Ne.symm L)] at F;obtain⟨u',r',q⟩:=hl j y Y t F Z;calc⟨u',r',?_⟩;rcases q with⟨k,e⟩ | ⟨k,c,e,z⟩
    ·calc .inl ⟨k,?_⟩;have:y≠x:=λe=>L (we hN t (e▸O));simp[this,e]
    ·exact .inr ⟨k,c,e,z.sameBut g (W y c e)⟩
  ·obtain⟨R,z⟩:=I.cell y c e;exact⟨R,z.sameBut g (W y c e)⟩
  ·obtain⟨e,n,S,nf,d⟩:=I.pin p hp;exact⟨(g.2 p.1 S).trans e,n,S,nf,d⟩
 ·have MR:X.fn x=true:=by
   rcases hf with z|z
   ·exact z
   ·rw[z]at J;cases J
  obtain⟨c,B⟩:=I.ok.has x (.inl J);obtain⟨R,z⟩:=I.cell x c B;calc wpAny_storeName_cell I.ok.kind J B z (λh' mQ g=>?_);obtain⟨oc,VW,Xo⟩:=id z;refine h {s with heap:=h'} ⟨I.ok,I.os,I.bare,⟨λb o e n K C=>?_,λb o e n K C=>?_,I.base.free,λb o e C=>?_,I.base.aJ,I.base.uH,I.base.wd⟩,⟨m,U.sameBut g (Ne.symm (W x c B)),λj y Y t F Z=>?_⟩,λy T e=>?_,I.free,I.j6,λp hp=>?_,l ⟨oc,VW,I.j6 x c B⟩ g,by simpa using I.len⟩ ⟨c,g,.inr B⟩
  ·exact(g.2 b (aay (U' (V' e) (I.ok.Qh x c MR B)))).trans (I.base.keep b o e n K C)
  ·obtain⟨sl,t⟩:=I.base.slot b o e n K C;exact⟨sl,(g.2 b (aay (U' (V' e) (I.ok.Qh x c MR B)))).trans t⟩
  ·obtain⟨o',t⟩:=I.base.there b o e C;exact⟨o',(g.2 b (aay (U' (V' e) (I.ok.Qh x c MR B)))).trans t⟩
  ·by_cases L:j=i
   ·subst L;rw[O] at t;cases t;rw[List.getElem?_set_self G] at F
    cases F;exact⟨u,r,.inr ⟨.inl J,c,B,mQ⟩⟩
   ·rw[List.getElem?_set_ne (Ne.symm L)] at F;obtain⟨u',r',q⟩:=hl j y Y t F Z;calc⟨u',r',?_⟩;rcases q with q | ⟨k,T,e,z'⟩
    ·exact .inl q
    ·calc .inr ⟨k,T,e,z'.sameBut g ?_⟩;rintro rfl;exact L (we hN t (I.ok.inj _ _ _ e B▸O))
  ·by_cases P:T=c
   ·subst P;exact⟨_,mQ⟩
   ·obtain⟨a,b⟩:=I.cell y T e;exact⟨a,b.sameBut g P⟩
  ·obtain⟨e,n,S,nf,d⟩:=I.pin p hp;calc⟨(g.2 p.1 ?_).trans e,n,S,nf,d⟩;intro q;rw[q,VW]at e;have a:oc=p.2:=Option.some.inj e;calc d R (by rw[<-a];calc Xo)
theorem mR{M:Model}{i:Nat}{x:Str}{v:V}{u:Value}{Q:Unit->Shared->Prop}(I:Inv X pins σ H s)(a:X.N.Nodup)(b:X.N[i]?=some x)(c:Loc X.env.scope x)(r:RelV v u)
  (h:∀s',Inv X pins (σ.set i (some v)) H s'->Q ⟨⟩ s') (d:X.fn x=true\/X.env.scope.names.lookup x=some .local:=by grind):wpAny M A (storeName X.env x u) Q E s:=
 BU I a b c r (λs' e _=>h s' e) d
theorem Inv.Rx{s':Shared}(I:Inv X pins σ H s)(f:s'.os=s.os)(u:Un (BR X.stack) ch H H' s.heap s'.heap)(g:lU X.prog X.w H' s'.heap)(h:AllBare s'.gens)
  (i:∀b∈ch,(b∈X.ex\/X.s₀.heap.objs.size<=b)/\b≠X.env.locals/\(∀x c,X.env.cells.lookup x=some c->c≠b)/\∀p∈X.pn++pins,p.1≠b):Inv X pins σ H' s':=by
 obtain⟨h',a,d,t',b⟩:=s';have e:b=s.os:=f;subst e;calc I.call (g':=a) (t':=t') (d':=d) u g h i
end
abbrev XK:=Value->Option Addr->Hp->Prop
abbrev St:=List (Option V)
abbrev VK:=V->Hp->Prop
abbrev TE:=St->Hp->VK->Prop
abbrev TT:=St->Hp->(Bool->Hp->Prop)->Prop
abbrev TA:=St->Hp->(List V->Hp->Prop)->Prop
structure Ends where
 nx:St->Hp->Prop
 rt:VK
 bk:St->Hp->Prop:=λ_ _=>False
 ct:St->Hp->Prop:=λ_ _=>False
abbrev TS:=Ends->St->Hp->Prop
def EP(X:Cx)(pins:List (Addr×Obj))(σ:St)(Q:VK)(u:Value)(s':Shared):Prop:=∃v a,Inv X pins σ a s'/\RelV v u/\Q v a
def TP(X:Cx)(pins:List (Addr×Obj))(σ:St)(Q:Bool->Hp->Prop)(b:Bool)(s':Shared):Prop:=∃a,Inv X pins σ a s'/\Q b a
def AP(X:Cx)(pins:List (Addr×Obj))(σ:St)(Q:List V->Hp->Prop)(us:List Value)(s':Shared):Prop:=∃vs a,Inv X pins σ a s'/\Vals vs us/\Q vs a
def SP(X:Cx)(pins:List (Addr×Obj))(D:Ends)(f:Flow)(s':Shared):Prop:=
 match f with
 | .next=>∃a b,Inv X pins a b s'/\D.nx a b
 | .brk=>∃a b,Inv X pins a b s'/\D.bk a b
 | .cont=>∃a b,Inv X pins a b s'/\D.ct a b
 | .ret u=>∃v a b,Inv X pins a b s'/\RelV v u/\D.rt v b
structure PE(X:Cx)(e:Expr)(t:TE):Prop where
 out:
  ∀(pins:List (Addr×Obj)) (s:Shared) (σ:St) (H:Hp) (Q:VK),Inv X pins σ H s->t σ H Q->wpAny (model X.prog X.w) X.A (eval e X.env) (EP X pins σ Q) X.xe s
instance {X:Cx}{e:Expr}{t:TE}:CoeFun (PE X e t) λ_=>
 ∀(pins:List (Addr×Obj)) (s:Shared) (σ:St) (H:Hp) (Q:VK),Inv X pins σ H s->t σ H Q->wpAny (model X.prog X.w) X.A (eval e X.env) (EP X pins σ Q) X.xe s:=⟨PE.out⟩
structure PT(X:Cx)(e:Expr)(t:TT):Prop where
 out:
  ∀(pins:List (Addr×Obj)) (s:Shared) (σ:St) (H:Hp) (Q:Bool->Hp->Prop),Inv X pins σ H s->t σ H Q->wpAny (model X.prog X.w) X.A (isTrue e X.env (eval e X.env)) (TP X pins σ Q) X.xe s
instance {X:Cx}{e:Expr}{t:TT}:CoeFun (PT X e t) λ_=>
 ∀(pins:List (Addr×Obj)) (s:Shared) (σ:St) (H:Hp) (Q:Bool->Hp->Prop),Inv X pins σ H s->t σ H Q->wpAny (model X.prog X.w) X.A (isTrue e X.env (eval e X.env)) (TP X pins σ Q) X.xe s:=⟨PT.out⟩
structure PW(X:Cx)(e:Expr)(t:TT):Prop where
 out:
  ∀(whole:Sem Value) (pins:List (Addr×Obj)) (s:Shared) (σ:St) (H:Hp) (Q:Bool->Hp->Prop),Inv X pins σ H s->t σ H Q->wpAny (model X.prog X.w) X.A (isTrue e X.env whole) (TP X pins σ Q) X.xe s
instance {X:Cx}{e:Expr}{t:TT}:CoeFun (PW X e t) λ_=>
 ∀(a:Sem Value) (pins:List (Addr×Obj)) (s:Shared) (σ:St) (H:Hp) (Q:Bool->Hp->Prop),Inv X pins σ H s->t σ H Q->wpAny (model X.prog X.w) X.A (isTrue e X.env a) (TP X pins σ Q) X.xe s:=⟨PW.out⟩
theorem PW.pt{X:Cx}{e:Expr}{t:TT}(h:PW X e t):PT X e t:=⟨h.out _⟩
structure PA(X:Cx)(es:List Expr)(t:TA):Prop where
 out:
  ∀(pos:Pos) (pins:List (Addr×Obj)) (s:Shared) (σ:St) (H:Hp) (Q:List V->Hp->Prop),Inv X pins σ H s->t σ H Q->wpAny (model X.prog X.w) X.A (spliced (backTo pos (starEach es X.env))) (AP X pins σ Q) X.xe s
instance {X:Cx}{b:List Expr}{t:TA}:CoeFun (PA X b t) λ_=>
 ∀(a:Pos) (pins:List (Addr×Obj)) (s:Shared) (σ:St) (H:Hp) (Q:List V->Hp->Prop),Inv X pins σ H s->t σ H Q->wpAny (model X.prog X.w) X.A (spliced (backTo a (starEach b X.env))) (AP X pins σ Q) X.xe s:=⟨PA.out⟩
structure PS(X:Cx)(st:Stmt)(t:TS):Prop where
 out:
  ∀(pins:List (Addr×Obj)) (s:Shared) (σ:St) (H:Hp) (D:Ends),Inv X pins σ H s->t D σ H->wpAny (model X.prog X.w) X.A (exec st X.env) (SP X pins D) X.xe s
instance {X:Cx}{a:Stmt}{t:TS}:CoeFun (PS X a t) λ_=>
 ∀(pins:List (Addr×Obj)) (s:Shared) (σ:St) (H:Hp) (D:Ends),Inv X pins σ H s->t D σ H->wpAny (model X.prog X.w) X.A (exec a X.env) (SP X pins D) X.xe s:=⟨PS.out⟩
structure vY(X:Cx)(st:List Stmt)(t:TS):Prop where
 out:
  ∀(pins:List (Addr×Obj)) (s:Shared) (σ:St) (H:Hp) (D:Ends),Inv X pins σ H s->t D σ H->wpAny (model X.prog X.w) X.A (execs st X.env) (SP X pins D) X.xe s
instance {X:Cx}{a:List Stmt}{t:TS}:CoeFun (vY X a t) λ_=>
 ∀(pins:List (Addr×Obj)) (s:Shared) (σ:St) (H:Hp) (D:Ends),Inv X pins σ H s->t D σ H->wpAny (model X.prog X.w) X.A (execs a X.env) (SP X pins D) X.xe s:=⟨vY.out⟩
theorem c9{α:Type}{t:Sem α}{Q b:α->Shared->Prop}{M:Model}{s:Shared}(h:wpAny M A t Q E s)(c:∀a s,Q a s->b a s):wpAny M A t b E s:=abg h c λ_ _ x=>x
end
section
variable {pins:List (Addr×Obj)}{pos:Pos}{σ:St}{x:Str}{u:Value}{E Q:Value->Shared->Prop}
section
variable {X:Cx}
def DK(i:Nat):TE:=λσ H Q=>∃v,σ[i]?=some (some v)/\Q v H
def tC(v:V):TE:=λ_ H Q=>Q v H
theorem DM{i:Nat}(c:X.N[i]?=some x)(j:Ru X.env.scope x)(d:(x==("__debug__":Str))=false:=by decide)(k:(x==("__classdict__":Str))=false:=by decide):PE X (.Name x pos) (DK i):=by
 walk_at "xc";obtain⟨v,e,h⟩:=h;obtain⟨m,n,o⟩:=I.loc;obtain⟨u,r,l⟩:=o i x v c e j;have a:EP X pins σ Q u s:=⟨v,H,I,r,h⟩
 rcases l with⟨b,e⟩|⟨b,c,f,g⟩
 ·exact wpAny_Name (wpAny_loadName_local I.ok.kind b n e a) d
 ·rcases b with b | b
  ·exact wpAny_Name (wpAny_loadName_cell I.ok.kind b f g a) d
  ·calc wpAny_Name (wpAny_loadName_free I.ok.kind b f g a k) d
theorem ag{i j pos}:PE X (.Constant (.int i) j pos) (tC (.int i)):=.mk λ_ _ _ H _ I h=>wpAny_Constant_int ⟨.int i,H,I.tok _,⟨_,rfl⟩,h⟩
theorem j7{b j pos}:PE X (.Constant (.bool b) j pos) (tC (.bl b)):=.mk λ_ _ _ H _ I h=>Constant_bool ⟨.bl b,H,I,rfl,h⟩
theorem lV{j pos}:PE X (.Constant .none j pos) (tC .bH):=.mk λ_ _ _ H _ I h=>Constant_none ⟨.bH,H,I,rfl,h⟩
theorem aB{x j pos}:PE X (.Constant (.str x) j pos) (tC (.str x)):=.mk λ_ _ _ H _ I h=>Calls.Constant_str ⟨.str x,H,I.tok _,⟨_,rfl⟩,h⟩
def Gl(X:Cx)(x:Str):Prop:=X.env.kindOf x=some .globalImplicit
theorem qe{s:Shared}{H:Hp}(I:Inv X pins σ H s)(a:Gl X x)(b:X.mg x=some u)(h:Q u s)
  (c:(x==("__debug__":Str))=false:=by decide):wpAny (model X.prog X.w) X.A (eval (.Name x pos) X.env) Q E s:=
 Calls.Name_function_global I.ok.kind a (Calls.loadGlobal_global (by rw[I.ok.glob];calc I.mod.glob.keeps I.bk) b h) c
theorem nX{s:Shared}{H:Hp}(I:Inv X pins σ H s)(a:Gl X x)(b:X.mg x=none)(c:bootBuiltins x=some u)(h:Q u s)
  (d:x≠"__name__":=by decide) (e:(x==("__debug__":Str))=false:=by decide):wpAny (model X.prog X.w) X.A (eval (.Name x pos) X.env) Q E s:=by
 obtain⟨i,f,g⟩:=I.mod.blt;calc Calls.Name_function_global I.ok.kind a (Calls.loadGlobal_builtin (by rw[I.ok.glob];calc I.mod.glob.keeps I.bk) b (by rw[I.ok.blt];calc f.keeps I.bk) ((g x d).trans c) h) e
theorem zW{v:V}(a:Gl X x)(b:X.mg x=some u)(r:RelV v u)(c:(x==("__debug__":Str))=false:=by decide):PE X (.Name x pos) (tC v):=
 .mk λ_ _ _ H _ I h=>qe I a b ⟨v,H,I,r,h⟩ c
theorem di{v:V}(a:Gl X x)(b:X.mg x=none)(c:bootBuiltins x=some u)(r:RelV v u)(d:x≠"__name__":=by decide)(e:(x==("__debug__":Str))=false:=by decide):PE X (.Name x pos) (tC v):=
 .mk λ_ _ _ H _ I h=>nX I a b c ⟨v,H,I,r,h⟩ d e
variable {a b:Expr}{ta tb:TE}{pos:Pos}
structure PC(X:Cx)(op:CmpOp)(a b:Expr)(t:TE):Prop where
 out:
  ∀(pins:List (Addr×Obj)) (s:Shared) (σ:St) (H:Hp) (Q:VK),Inv X pins σ H s->t σ H Q->
   wpAny (model X.prog X.w) X.A (eval a X.env) (λv s₁=>wpAny (model X.prog X.w) X.A (eval b X.env) (λu s₂=>wpAny (model X.prog X.w) X.A (compareOp op v u) (EP X pins σ Q) X.xe s₂) X.xe s₁) X.xe s
instance {X:Cx}{e:CmpOp}{a b:Expr}{t:TE}:CoeFun (PC X e a b t) λ_=>
 ∀(pins:List (Addr×Obj)) (s:Shared) (σ:St) (H:Hp) (Q:VK),Inv X pins σ H s->t σ H Q->
  wpAny (model X.prog X.w) X.A (eval a X.env) (λv c=>wpAny (model X.prog X.w) X.A (eval b X.env) (λu d=>wpAny (model X.prog X.w) X.A (compareOp e v u) (EP X pins σ Q) X.xe d) X.xe c) X.xe s:=⟨PC.out⟩
def tB(t:TE):TT:=λσ H Q=>t σ H λx a=>∃c,x=.bl c/\Q c a
theorem MT{c:CmpOp}{t:TE}(h:PC X c a b t)(e:behindInMarks c b=false:=by first|calc f _ ∅ ∅|rfl):PT X (.Compare a [c] [b] pos) (tB t):=by
 calc⟨?_⟩;intro pins s σ H Q I c;calc wpAny_isTrue_Compare1 (c9 (h pins s σ H _ I c) λv f e=>c9 e λu c f=>c9 f λc h g=>?_) e;obtain⟨x,i,j,k,l⟩:=g;obtain⟨d,rfl,q⟩:=l
 cases k;calc abq ⟨i,j,q⟩
theorem MU{e:Expr}{t:TE}(h:PE X e t)(b:∀a,isTrue e X.env a=(do let v <-a;standAt e.pos;holding [v] (truthy v)):=by intro _;rfl):PT X e (tB t):=by
 calc⟨?_⟩;intro pins s σ H Q I a;calc isTrue_plain (c9 (h pins s σ H _ I a) λv e c=>?_) (b _);obtain⟨x,f,g,i,j⟩:=c;obtain⟨d,rfl,q⟩:=j
 cases i;calc abq ⟨f,g,q⟩
variable {tA VX:TT}{rest:List Expr}
def MV(t u:TT):TT:=λσ H Q=>t σ H λc a=>if c=true then u σ a Q else Q false a
def Xp(t u:TT):TT:=λσ H Q=>t σ H λc a=>if c=true then Q true a else u σ a Q
def MW(t:TT):TT:=λσ H Q=>t σ H λc a=>Q (!c) a
theorem pw_and1(b:PT X a tA):PW X (.BoolOp .And [a] pos) tA:=by
 calc⟨?_⟩;intro d pins s σ H Q I h;refine isTrue_and (c9 (b pins s σ H Q I h) λc f e=>?_)
 cases c with
 |true=>calc isTrue_and_nil e
 |false=>calc e
theorem pw_or1(b:PT X a tA):PW X (.BoolOp .Or [a] pos) tA:=by
 calc⟨?_⟩;intro d pins s σ H Q I h;refine isTrue_or (c9 (b pins s σ H Q I h) λc f e=>?_)
 cases c with
 |false=>calc isTrue_or_nil e
 |true=>calc e
theorem pw_and(g:PT X a tA)(i:PW X (.BoolOp .And (b::rest) pos) VX):PW X (.BoolOp .And (a::b::rest) pos) (MV tA VX):=by
 calc⟨?_⟩;intro j pins s σ H Q I h;calc isTrue_and (c9 (g pins s σ H _ I h) λc k l=>?_);obtain⟨d,e,f⟩:=l
 cases c with
 |true=>calc i j pins k σ d Q e f
 |false=>calc⟨d,e,f⟩
theorem pw_or(g:PT X a tA)(i:PW X (.BoolOp .Or (b::rest) pos) VX):PW X (.BoolOp .Or (a::b::rest) pos) (Xp tA VX):=by
 calc⟨?_⟩;intro j pins s σ H Q I h;calc isTrue_or (c9 (g pins s σ H _ I h) λc k l=>?_);obtain⟨d,e,f⟩:=l
 cases c with
 |true=>calc⟨d,e,f⟩
 |false=>calc i j pins k σ d Q e f
theorem cC(b:PT X a tA):PT X (.UnaryOp .Not a pos) (MW tA):=by
 walk_at "xc";exact isTrue_not (b pins s σ H (λc d=>Q (!c) d) I h)
def DN(ta tb:TE):TE:=λσ H Q=>ta σ H λx a=>∃c,x=.bl c/\if c=true then tb σ a Q else Q (.bl false) a
def DO(ta:TE):TE:=λσ H Q=>ta σ H λx a=>∃c,x=.bl c/\Q (.bl (!c)) a
theorem iE{op}{t:TE}(h:PE X a t):PE X (.BoolOp op [a] pos) t:=.mk λpins s σ H Q I b=>BoolOp_one (h pins s σ H Q I b)
theorem gk(g:PE X a ta)(i:PE X (.BoolOp .And (b::rest) pos) tb):PE X (.BoolOp .And (a::b::rest) pos) (DN ta tb):=by
 walk_at "xc";refine BoolOp_and (c9 (g pins s σ H _ I h) λv j k=>?_);obtain⟨x,e,f,l,d⟩:=k;obtain⟨c,rfl,d⟩:=d
 cases l;refine abq ?_
 cases c with
 |true=>calc i pins j σ e Q f d
 |false=>calc⟨.bl false,e,f,rfl,d⟩
theorem MX(d:PE X a ta):PE X (.UnaryOp .Not a pos) (DO ta):=by
 walk_at "xc";refine UnaryOp_ (c9 (d pins s σ H _ I h) λv j e=>?_);obtain⟨x,f,g,i,b⟩:=e;obtain⟨c,rfl,b⟩:=b
 cases i;calc not_of (abq ⟨.bl (!c),f,g,rfl,b⟩)
def Xq(t:TT)(ta tb:TE):TE:=λσ H Q=>t σ H λc a=>if c=true then ta σ a Q else tb σ a Q
theorem DP{c:Expr}(j:PT X c tA)(k:PE X a ta)(l:PE X b tb):PE X (.IfExp c a b pos) (Xq tA ta tb):=by
 walk_at "xc";refine wpAny_IfExp (c9 (j pins s σ H _ I h) λd e c=>?_);obtain⟨f,g,i⟩:=c
 cases d with
 |true=>calc k pins e σ f Q g i
 |false=>calc l pins e σ f Q g i
end
end
section
variable {X:Cx}{e tg:Expr}{pins:List (Addr×Obj)}{i:Nat}{σ:St}{x:Str}{te:TE}{K:W.Frag}
def aO(K:W.Frag)(H:Hp)(a:Addr)(xs:List V):Prop:=
 Rd H a (.lst xs)\/
  ∃(o:Obj) (b:Array Value) (n:Nat),K.lookup a=some o/\o.cls=.type "list"/\o.dict=none/\o.data=.seq b n/\b.size<=sizeLine/\Vals xs b.toList
def bq(K:W.Frag)(H:Hp)(a:Addr)(xs:List V):Prop:=
 Rd H a (.tup xs)\/
  ∃(o:Obj) (b:Array Value) (n:Nat),K.lookup a=some o/\o.cls=.type "tuple"/\o.data=.seq b n/\b.size<=sizeLine/\Vals xs b.toList
def Xr:Value->Option V
 | .none=>some .bH
 | .bool b=>some (.bl b)
 | .int i _=>some (.int i)
 | .str x _=>some (.str x)
 | .bytes b _=>some (.zS b)
 | .float b _=>some (.K4 b)
 | .ref a=>some (.ref a)
 | .type n=>some (.ty n)
 |_=>none
theorem RelV.abs{x:V}{u:Value}(r:RelV x u):Xr u=some x:=by
 cases x with
 |bH=>cases r;rfl
 |bl _=>cases r;rfl
 |int _=>obtain⟨t,rfl⟩:=r;rfl
 |str _=>obtain⟨t,rfl⟩:=r;rfl
 |zS _=>obtain⟨t,rfl⟩:=r;rfl
 |K4 _=>obtain⟨t,rfl⟩:=r;rfl
 |ref _=>cases r;rfl
 |ty _=>cases r;rfl
theorem RelV.inj{x y:V}{u:Value}(r:RelV x u)(q:RelV y u):x=y:=Option.some.inj (r.abs.symm.trans q.abs)
theorem Vals.inj:∀{xs a:List V}{us:List Value},Vals xs us->Vals a us->xs=a
 |_,_,_,.nil,.nil=>rfl
 |_,_,_,.cons r t,.cons a b=>by rw[r.inj a,Vals.inj t b]
section
variable {X:Cx}{pins:List (Addr×Obj)}{σ:St}{H:Hp}{s:Shared}{a:Addr}{xs ys:List V}
theorem aO.of(h:H a=some (.lst xs)):aO K H a xs:=.inl (.inl h)
theorem bq.of(h:H a=some (.tup xs)):bq K H a xs:=.inl (.inl h)
theorem Inv.list(I:Inv X pins σ H s)(h:aO X.K H a xs):∃b:List Value,Vals xs b/\PlainL s.heap a b.toArray/\xs.length<=sizeLine:=by
 rcases h with h|⟨o,b,n,c,d,f,g,i,r⟩
 ·obtain⟨z,b,n,r,e⟩:=h.ok I.aU;exact⟨b,r,⟨_,n,e,rfl,rfl,rfl⟩,z⟩
 ·calc⟨b.toList,r,⟨o,n,I.j1 a o c,d,f,by simpa using g⟩,?_⟩;have e:=r.length;simp only[Array.length_toList]at e;lia
theorem Inv.tuple(I:Inv X pins σ H s)(h:bq X.K H a xs):∃b:List Value,Vals xs b/\IsTup s.heap a b.toArray/\xs.length<=sizeLine:=by
 rcases h with h|⟨o,b,n,c,d,f,g,r⟩
 ·obtain⟨z,b,r,p⟩:=h.ok I.aU;exact⟨b,r,p,z⟩
 ·calc⟨b.toList,r,⟨o,I.j1 a o c,d,n,by simpa using f⟩,?_⟩;have e:=r.length;simp only[Array.length_toList]at e;lia
theorem Inv.wg(I:Inv X pins σ H s)(h:aO X.K H a xs)(h':aO X.K H a ys):xs=ys:=by
 obtain⟨f,r,⟨o,n,e,_,_,d⟩,_⟩:=I.list h;obtain⟨g,i,⟨j,k,b,_,_,c⟩,_⟩:=I.list h';rw[e]at b;cases b;rw[d]at c;injection c with h _
 have:f=g:=by simpa using congrArg Array.toList h
 subst this;calc r.inj i
theorem Inv.tD(I:Inv X pins σ H s)(h:bq X.K H a xs)(h':bq X.K H a ys):xs=ys:=by
 obtain⟨f,r,⟨o,e,_,n,d⟩,_⟩:=I.tuple h;obtain⟨g,i,⟨j,b,_,k,c⟩,_⟩:=I.tuple h';rw[e]at b;cases b;rw[d]at c;injection c with h _
 have:f=g:=by simpa using congrArg Array.toList h
 subst this;calc r.inj i
end
abbrev Cx.se(X:Cx)(E:Value->Shared->Prop):Cx:={X with xe:=E}
abbrev Cx.Ja(X:Cx):Cx:=X.se λ_ _=>False
theorem Cx.Ok.se(a:X.Ok)(E:Value->Shared->Prop):(X.se E).Ok:=
 ⟨a.mod,a.kind,a.glob,a.blt,a.above,a.inj,a.has,a.Qh,a.hd,a.frames,a.Rv,a.VT,a.bs,a.DJ,a.yy,a.BS,a.nW,a.K5⟩
theorem Cx.Ok.j9{E:Value->Shared->Prop}(a:(X.se E).Ok):X.Ok:=
 ⟨a.mod,a.kind,a.glob,a.blt,a.above,a.inj,a.has,a.Qh,a.hd,a.frames,a.Rv,a.VT,a.bs,a.DJ,a.yy,a.BS,a.nW,a.K5⟩
section
variable {X:Cx}{pins:List (Addr×Obj)}{σ:St}{H:Hp}{s:Shared}{E:Value->Shared->Prop}
theorem Inv.se(I:Inv X pins σ H s)(E:Value->Shared->Prop):Inv (X.se E) pins σ H s:=⟨I.ok.se E,I.os,I.bare,I.base,I.loc,I.cell,I.free,I.j6,I.pin,I.aU,I.len⟩
theorem Inv.j9(I:Inv (X.se E) pins σ H s):Inv X pins σ H s:=⟨I.ok.j9,I.os,I.bare,I.base,I.loc,I.cell,I.free,I.j6,I.pin,I.aU,I.len⟩
theorem SP.j9{D:Ends}{f:Flow}{s':Shared}(h:SP (X.se E) pins D f s'):SP X pins D f s':=by
 cases f with
 |next=>obtain⟨a,b,I,q⟩:=h;calc⟨a,b,I.j9,q⟩
 |brk=>obtain⟨a,b,I,q⟩:=h;calc⟨a,b,I.j9,q⟩
 |cont=>obtain⟨a,b,I,q⟩:=h;calc⟨a,b,I.j9,q⟩
 |ret u=>obtain⟨v,a,b,I,r,q⟩:=h;calc⟨v,a,b,I.j9,r,q⟩
theorem vY.Ja{a:List Stmt}{t:TS}(h:vY X.Ja a t):vY X a t:=.mk λpins s σ H D I a=>
 abg (h pins s σ H D (I.se _) a) (λ_ _ q=>q.j9) λ_ _ z=>aa2 z
end
section
variable {X:Cx}{st:Stmt}{rest:List Stmt}{t u:TS}{e:Expr}{te:TE}{pos:Pos}
def DQ:TS:=λD σ H=>D.nx σ H
def BW(t u:TS):TS:=λD σ H=>t {D with nx:=u D} σ H
theorem aI:vY X [] DQ:=.mk λ_ _ σ H _ I h=>wpAny_execs_nil ⟨σ,H,I,h⟩
theorem ai(a:PS X st t)(b:vY X rest u):vY X (st::rest) (BW t u):=by
 walk_at "xd";refine wpAny_execs_cons (c9 (a pins s σ H {D with nx:=u D} I h) λf c q=>?_)
 cases f with
 |next=>
  obtain⟨a,d,e,q⟩:=q;calc b pins c a d D e q
 |ret v=>calc q
 |brk=>calc q
 |cont=>calc q
theorem ak(a:PS X st t):vY X [st] t:=by
 walk_at "xd";refine wpAny_execs_cons (c9 (a pins s σ H D I h) λf b q=>?_)
 cases f with
 |next=>calc wpAny_execs_nil q
 |ret v=>calc q
 |brk=>calc q
 |cont=>calc q
theorem Inv.quiet{H:Hp}{s:Shared}(I:Inv X pins σ H s):interactive X.env=false:=by simp[interactive,I.ok.kind]
def zX(te:TE):TS:=λD σ H=>te σ H λ_ a=>D.nx σ a
theorem Jb(a:PE X e te)(b:swapsWith e none pos.line X.env=pure false:=by rfl):PS X (.Expr e pos) (zX te):=by
 walk_at "xd";exact wpAny_Expr_any (c9 (a pins s σ H _ I h) λv g ⟨x,c,d,i,f⟩=>⟨σ,c,d,f⟩) I.quiet b
def MY(te:TE):TS:=λD σ H=>te σ H D.rt
theorem aH(a:PE X e te):PS X (.Return (some e) pos) (MY te):=by
 walk_at "xd";exact wpAny_Return_some (c9 (a pins s σ H _ I h) λv g ⟨x,b,c,d,f⟩=>⟨x,σ,b,c,d,f⟩)
def BX(c:TT)(t u:TS):TS:=λD σ H=>c σ H λb a=>if b=true then t D σ a else u D σ a
theorem aS{c:Expr}{a b:List Stmt}{e:TT}(k:PT X c e)(l:vY X a t)(m:vY X b u):PS X (.If c a b pos) (BX e t u):=by
 walk_at "xd";refine wpAny_If (c9 (k pins s σ H _ I h) λd f a=>?_);obtain⟨g,i,j⟩:=a
 cases d with
 |true=>calc l pins f σ g D i j
 |false=>calc m pins f σ g D i j
def yz:TS:=λ_ _ _=>False
theorem cW:PS X st yz:=.mk λ_ _ _ _ _ _ h=>h.elim
end
abbrev TG:=V->St->Hp->(St->Hp->Prop)->Prop
abbrev K9:=List V->St->Hp->(St->Hp->Prop)->Prop
structure PG(X:Cx)(target:Expr)(t:TG):Prop where
 out:
  ∀(pins:List (Addr×Obj)) (s:Shared) (σ:St) (H:Hp) (v:V) (u:Value) (Q:St->Hp->Prop),Inv X pins σ H s->RelV v u->t v σ H Q->
   wpAny (model X.prog X.w) X.A (assign target X.env u) (λ_ s'=>∃σ' H',Inv X pins σ' H' s'/\Q σ' H') X.xe s
instance {X:Cx}{a:Expr}{t:TG}:CoeFun (PG X a t) λ_=>
 ∀(pins:List (Addr×Obj)) (s:Shared) (σ:St) (H:Hp) (v:V) (u:Value) (Q:St->Hp->Prop),Inv X pins σ H s->RelV v u->t v σ H Q->
  wpAny (model X.prog X.w) X.A (assign a X.env u) (λ_ s'=>∃a b,Inv X pins a b s'/\Q a b) X.xe s:=⟨PG.out⟩
structure Qi(X:Cx)(ts:List Expr)(t:K9):Prop where
 out:
  ∀(pins:List (Addr×Obj)) (s:Shared) (σ:St) (H:Hp) (vs:List V) (us:List Value) (Q:St->Hp->Prop),Inv X pins σ H s->Vals vs us->t vs σ H Q->
   wpAny (model X.prog X.w) X.A (assignInOrder ((assignEach ts X.env).map (·.2)) us) (λ_ s'=>∃σ' H',Inv X pins σ' H' s'/\Q σ' H') X.xe s
instance {X:Cx}{a:List Expr}{t:K9}:CoeFun (Qi X a t) λ_=>
 ∀(pins:List (Addr×Obj)) (s:Shared) (σ:St) (H:Hp) (vs:List V) (us:List Value) (Q:St->Hp->Prop),Inv X pins σ H s->Vals vs us->t vs σ H Q->
  wpAny (model X.prog X.w) X.A (assignInOrder ((assignEach a X.env).map (·.2)) us) (λ_ s'=>∃a b,Inv X pins a b s'/\Q a b) X.xe s:=⟨Qi.out⟩
abbrev MZ:=V->V->V->Hp->(Hp->Prop)->Prop
def M0(X:Cx)(t:MZ):Prop:=
 ∀(pins:List (Addr×Obj)) (s:Shared) (σ:St) (H:Hp) (o i v:V) (a b u:Value) (Q:Hp->Prop),Inv X pins σ H s->RelV o a->RelV i b->RelV v u->t o i v H Q->
  wpAny (model X.prog X.w) X.A (setItem a b u) (λ_ s'=>∃a,Inv X pins σ a s'/\Q a) X.xe s
abbrev VY:=V->V->Hp->VK->Prop
def PIp(X:Cx)(a:Operator)(t:VY):Prop:=
 ∀(pins:List (Addr×Obj)) (s:Shared) (σ:St) (H:Hp) (x y:V) (v u:Value) (Q:VK),Inv X pins σ H s->RelV x v->RelV y u->t x y H Q->
  wpAny (model X.prog X.w) X.A (inplaceOp a v u) (EP X pins σ Q) X.xe s
section
variable {X:Cx}{pos:Pos}
def fC(i:Nat):TG:=λv σ H Q=>Q (σ.set i (some v)) H
theorem aP(a:X.N.Nodup)(b:X.N[i]?=some x)(c:Loc X.env.scope x)(d:X.fn x=true\/X.env.scope.names.lookup x=some .local:=by grind):PG X (.Name x pos) (fC i):=by
 calc⟨?_⟩;intro pins s σ H v u Q I r h;calc wpAny_assign_Name (mR I a b c r (λf e=>⟨_,H,e,h⟩) d)
def DR:K9:=λvs σ H Q=>vs=[]/\Q σ H
def lN(t:TG)(u:K9):K9:=λvs σ H Q=>∃v r,vs=v::r/\t v σ H λa b=>u r a b Q
theorem uM:Qi X [] DR:=by
 calc⟨?_⟩;intro pins s σ H a b Q I r h;obtain⟨e,h⟩:=h;subst e
 cases r;calc assignInOrder_nil ⟨σ,H,I,h⟩
theorem gL{a:List Expr}{t:TG}{u:K9}(b:PG X e t)(c:Qi X a u)
  (d:(assignEach (e::a) X.env).map (·.2)=assign e X.env::(assignEach a X.env).map (·.2):=by rfl):Qi X (e::a) (lN t u):=by
 calc⟨?_⟩;intro pins s σ H a g Q I r h;obtain⟨v,i,f,h⟩:=h;subst f
 cases r with
 |cons r f=>
  rw[d];calc assignInOrder_cons (c9 (b pins s σ H _ _ _ I r h) λ_ g i=>?_);obtain⟨a,b,d,h⟩:=i;calc c pins g a b _ _ Q d f h
def DS(K:W.Frag)(n:Nat)(t:K9):TG:=λv σ H Q=>∃a xs,v=.ref a/\bq K H a xs/\xs.length=n/\t xs σ H Q
theorem yA{a:List Expr}{k:Nat}{t:K9}{n:Nat}(b:X.calm=true)(h:Qi X a t)
  (d:(assignEach a X.env).length=n:=by rfl) (f:(assignEach a X.env).findIdx? (·.1)=none:=by rfl):PG X (.Tuple a k pos) (DS X.K n t):=by
 calc⟨?_⟩;intro pins s σ H v u Q I r c;obtain⟨a,g,i,j,l,c⟩:=c;subst i
 cases r;obtain⟨k,a,i,m⟩:=I.tuple j;calc assign_Tuple_tuple (I.ok.hd b) i (by simp[d,<-l,a.length]) f λk m=>?_;have d:Inv X pins σ H {s with heap:=k}:=I.kept (t':=s.toks) λb o e=>m b o (aay (V' e)) e;calc h pins _ σ H g _ Q d (by simpa using a) c
def M1(a b:TE)(t:MZ):TG:=λv σ H Q=>a σ H λo c=>b σ c λi a=>t o i v a λb=>Q σ b
theorem iF{o i:Expr}{c d:TE}{t:MZ}(e:PE X o c)(f:PE X i d)(g:M0 X t)
  (j:∀v,assign (.Subscript o i pos) X.env v=(do
   let a <-holding [v] (eval o X.env)
   let b <-holding [v,a] (eval i X.env)
   standAt pos
   holding [v,a,b] (setItem a b v)
   release [v,a,b] []):=by intro _;rfl):PG X (.Subscript o i pos) (M1 c d t):=by
 calc⟨?_⟩;intro pins s σ H v u Q I r h;rw[j];calc E' (wpAny_holding (c9 (e pins s σ H _ I h) λa d c=>?_));obtain⟨x,e,h,j,k⟩:=c;calc E' (wpAny_holding (c9 (f pins d σ e _ h k) λb l c=>?_));obtain⟨y,d,e,f,h⟩:=c;calc E' (wpAny_standAt (E' (wpAny_holding (c9 (g pins l σ d x y v a b u _ e j f r h) λ_ k c=>?_))));obtain⟨a,b,d⟩:=c;calc wpAny_release ⟨σ,a,b,d⟩
def BY(te:TE)(g:TG):TS:=λD σ H=>te σ H λx a=>g x σ a D.nx
theorem ff{g:TG}(a:PE X e te)(b:PG X tg g)(c:swapsWithSole [tg] e pos.line X.env=pure false:=by rfl)(d:swappedStores [tg] e X.env=pure none:=by rfl)
  (f:(assignEach [tg] X.env).map (·.2)=[assign tg X.env]:=by rfl):PS X (.Assign [tg] e pos) (BY te g):=by
 walk_at "xd";refine wpAny_Assign_stores (c9 (a pins s σ H _ I h) λv g i=>?_) c d;obtain⟨x,a,j,k,l⟩:=i;rw[f];exact c9 (b pins g σ a x v _ j k l) λ_ c q=>q
theorem DT{a:Pos}(b:X.N.Nodup)(c:X.N[i]?=some x)(d:Loc X.env.scope x)(f:PE X e te)(g:swapsWith e (some (.Name x a)) pos.line X.env=pure false:=by rfl)(j:X.fn x=true\/X.env.scope.names.lookup x=some .local:=by grind):
  PS X (.Assign [.Name x a] e pos) (BY te (fC i)):=by
 walk_at "xd";refine wpAny_Assign_Name (c9 (f pins s σ H _ I h) λv k a=>?_) g;obtain⟨y,f,k,l,m⟩:=a;exact mR k b c d l (λn g=>⟨_,f,g,m⟩) j
def M3(i:Nat)(te:TE)(a:VY):TS:=λD σ H=>∃x,σ[i]?=some (some x)/\te σ H λy b=>a x y b λz c=>D.nx (σ.set i (some z)) c
theorem M4{d:Operator}{g:VY}{b:Pos}(o:X.N.Nodup)(j:X.N[i]?=some x)(f:Loc X.env.scope x)(p:PE X e te)(q:PIp X d g)(t:X.fn x=true\/X.env.scope.names.lookup x=some .local:=by grind):
  PS X (.AugAssign (.Name x b) d e pos) (M3 i te g):=by
 walk_at "xd";obtain⟨v,y,h⟩:=h;obtain⟨m,B,z⟩:=I.loc;have c:Ru X.env.scope x:=by rcases f with k|k;exact .inl k;exact .inr (.inl k)
 obtain⟨u,r,l⟩:=z i x v j y c;calc wpAny_AugAssign_Name ?_;have n:wpAny (model X.prog X.w) X.A (eval e X.env) (λw b=>wpAny (model X.prog X.w) X.A (inplaceOp d u w) (λr c=>wpAny (model X.prog X.w) X.A (storeName X.env x r) (λ_=>SP X pins D .next) X.xe c) X.xe b) X.xe s:=by
  calc c9 (p pins s σ H _ I h) λw c b=>?_;obtain⟨y,d,g,m,p⟩:=b;calc c9 (q pins c σ d v y u w _ g r m p) λz F b=>?_;obtain⟨p,c,d,g,m⟩:=b;exact mR d o j f g (λq p=>⟨_,c,p,m⟩) t
 rcases l with⟨a,b⟩|⟨a,c,C,E⟩
 ·exact wpAny_loadName_local I.ok.kind a B b n
 ·rcases a with a | a
  ·exact wpAny_loadName_cell I.ok.kind a C E n
  ·rcases f with k | k
   ·have:X.env.scope.names.lookup x=some .free:=a;rw[k]at this;cases this
   ·have:X.env.scope.names.lookup x=some .free:=a;rw[k]at this;cases this
def Xs(f:Int->Int->Int):VY:=λx y H Q=>∃i j,x=.int i/\y=.int j/\Q (.int (f i j)) H
theorem M5:PIp X .Add (Xs λi j=>i+j):=by
 intro pins s σ H x y v u Q I a b h;obtain⟨i,j,c,d,q⟩:=h;subst c;subst d;obtain⟨t,rfl⟩:=a;obtain⟨e,rfl⟩:=b;calc iadd_int ⟨.int _,H,I.tok _,⟨_,rfl⟩,q⟩
end
section
variable {X:Cx}{pos:Pos}
def uN(c:TT)(f:TS):TS:=λD σ H=>∃W:Nat->St->Hp->Prop,(∃m,W m σ H)/\∀m σ H,W m σ H->
 c σ H λb d=>if b=true then ∃N:St->Hp->Prop,(∀a c,N a c->∃e,e<m/\W e a c)/\f {D with nx:=N,ct:=N,bk:=D.nx} σ d else D.nx σ d
theorem DU{c:Expr}{a:List Stmt}{i:TT}{j:TS}(k:PassesOwn (model X.prog X.w) X.A X.env X.xe)(p:PT X c i)(q:vY X a j):PS X (.While c a [] pos) (uN i j):=by
 walk_at "xd";obtain⟨W,⟨r,t⟩,a⟩:=h;refine wpAny_While (codeAny_whileLoop (λn u=>∃c i,Inv X pins c i u/\W n c i) ?_ r ⟨σ,H,I,t⟩);rintro n v ⟨d,j,x,y⟩;refine wpAny_passesOwn k (c9 (p pins v d j _ x (a n d j y)) λb z B=>?_);obtain⟨l,m,e⟩:=B
 cases b with
 |true=>
  obtain⟨N,o,e⟩:=e;rw[if_pos rfl];refine wpAny_passesOwn k (c9 (q pins z d l _ m e) λf a g=>?_)
  cases f with
  |next=>
   obtain⟨a,b,c,f⟩:=g;obtain⟨i,j,k⟩:=o a b f;calc⟨i,j,a,b,c,k⟩
  |cont=>
   obtain⟨a,b,c,f⟩:=g;obtain⟨i,j,k⟩:=o a b f;calc⟨i,j,a,b,c,k⟩
  |brk=>calc g
  |ret v=>calc g
 |false=>
  rw[if_neg M'];calc wpAny_execs_nil ⟨d,l,m,e⟩
end
structure It where
 go:Nat->Hp->Prop
 La:Nat->Hp->V->Hp->Prop
 stop:Nat->Hp->Prop
def nY(X:Cx)(pins:List (Addr×Obj))(H:Hp)(b:Addr):Prop:=
 H b=none/\b≠X.env.locals/\b∉X.fs/\(b∈X.ex\/X.s₀.heap.objs.size<=b)/\(∀x c,X.env.cells.lookup x=some c->c≠b)/\∀p∈X.pn++pins,p.1≠b
theorem Inv.DW{H c:Hp}{s:Shared}{b:Addr}(I:Inv X pins σ H s)(a:s.heap.objs.size<=b)(d:c b=none):nY X pins c b:=by
 refine⟨d,abp (U' I.lt a),I.MP a,.inr (aaB I.sz a),λx c e z=>?_,λp b z=>?_⟩
 ·obtain⟨v,q⟩:=I.cell x c e;exact absurd (U' q.lt (by rw[z];calc a)) (aa9 _)
 ·calc absurd (U' (V' (I.pin p b).1) (by rw[z];calc a)) (aa9 _)
structure Turn(P:Program)(w:World)(K:W.Frag)(tg:Expr)(J:It)(fp:List Addr)(it:Addr)(tn:Nat->Heap->Prop):Prop where
 mem:it∈fp
 obj:∀i h,tn i h->∀b∈fp,∃o,h.get? b=some o/\∀v,o.data≠.cell v
 keep:∀i h h',tn i h->(∀b∈fp,∀o,h.get? b=some o->h'.get? b=some o)->tn i h'
 item:∀(X:Cx),X.prog=P->X.w=w->X.K=K->X.calm=true->∀(i:Nat) (pins:List (Addr×Obj)) (s:Shared) (σ:St) (H:Hp) (E:Value->Shared->Prop),Inv X pins σ H s->(∀b ∈ fp,nY X pins H b)->tn i s.heap->J.go i H->
  wpAny (model P w) X.A (pyNext (.ref it)) (λr s1=>∃u,r=some u/\
   wpAny (model P w) X.A (letOwnedTupleGo tg (.ref it) u) (λ_ s2=>∃x H',Inv X pins σ H' s2/\RelV x u/\J.La i H x H'/\tn (i + 1) s2.heap/\∀b ∈ fp,H' b=none) E s1) E s
 done:∀(X:Cx),X.prog=P->X.w=w->X.K=K->X.calm=true->∀(i:Nat) (pins:List (Addr×Obj)) (s:Shared) (σ:St) (H:Hp) (E:Value->Shared->Prop),Inv X pins σ H s->(∀b ∈ fp,nY X pins H b)->tn i s.heap->J.stop i H->
  wpAny (model P w) X.A (pyNext (.ref it)) (λr s1=>r=none/\Inv X pins σ H s1) E s
 self:∀(A:Around) (i:Nat) (s:Shared) (Q:Value->Shared->Prop) (E:Value->Shared->Prop),tn i s.heap->Q (.ref it) s->wpAny (model P w) A (pyIter (.ref it)) Q E s
abbrev TI:=St->Hp->(It->Hp->Prop)->Prop
def Xt(X:Cx)(pins:List (Addr×Obj))(σ:St)(tg:Expr)(R:It->Hp->Prop)(g:Value)(c:Shared):Prop:=
 ∃(d:Addr) (e:List Addr) (f:Nat->Heap->Prop) (J:It) (a:Hp),g=.ref d/\Inv X pins σ a c/\Turn X.prog X.w X.K tg J e d f/\f 0 c.heap/\(∀b∈e,nY X pins a b)/\R J a
structure PI(X:Cx)(tg iter:Expr)(wi:TI):Prop where
 out:
  ∀(pins:List (Addr×Obj)) (s:Shared) (σ:St) (H:Hp) (R:It->Hp->Prop),Inv X pins σ H s->wi σ H R->
   wpAny (model X.prog X.w) X.A (eval iter X.env) (λv s1=>wpAny (model X.prog X.w) X.A (pyIter v) (Xt X pins σ tg R) X.xe s1) X.xe s
instance {X:Cx}{tg a:Expr}{b:TI}:CoeFun (PI X tg a b) λ_=>
 ∀(pins:List (Addr×Obj)) (s:Shared) (σ:St) (H:Hp) (R:It->Hp->Prop),Inv X pins σ H s->b σ H R->
  wpAny (model X.prog X.w) X.A (eval a X.env) (λv b=>wpAny (model X.prog X.w) X.A (pyIter v) (Xt X pins σ tg R) X.xe b) X.xe s:=⟨PI.out⟩
theorem DX{M:Model}{A:Around}{E:Value->Shared->Prop}{s:Shared}{tg:Expr}{b:Addr}{u:Value}{o:Obj}{n:String}{vs:Array Value}{Q:Unit->Shared->Prop}(c:s.heap.get? b=some o)(d:o.cls=.type n)(e:o.data=.fields vs)
    (f:["enumerate","zip","dict_itemiterator","dict_reverseitemiterator","odict_iterator","itertools.zip_longest","itertools.pairwise"].contains n=false) (a:Q ⟨⟩ s):wpAny M A (letOwnedTupleGo tg (.ref b) u) Q E s:=by
  unfold letOwnedTupleGo
  cases tg<;>first
    |calc S' a
    | (cases u <;> first
        |calc S' a
        | (refine E' (wpAny_load c ?_)
           rw[d,e];show wpAny M A (if (["enumerate","zip","dict_itemiterator","dict_reverseitemiterator","odict_iterator","itertools.zip_longest","itertools.pairwise"].contains n && vs[0]? == some (rawInt _))=true then _ else _) Q E s;rw[if_neg (by intro h;rw[f,Bool.false_and] at h;cases h)];exact S' a))
def tF(K:W.Frag)(a:Addr):It:=
 ⟨λi H=>∃xs x,aO K H a xs/\xs[i]?=some x,λi H x b=>b=H/\∀xs,aO K H a xs->xs[i]?=some x,λi H=>∃xs,aO K H a xs/\xs.length<=i⟩
def Rz(K:W.Frag)(a:Addr):It:=
 ⟨λi H=>∃xs x,bq K H a xs/\xs[i]?=some x,λi H x b=>b=H/\∀xs,bq K H a xs->xs[i]?=some x,λi H=>∃xs,bq K H a xs/\xs.length<=i⟩
def zY(a:Int)(n:Nat):It:=⟨λi _=>i<n,λi H x b=>b=H/\x=.int (a+i),λi _=>n<=i⟩
theorem BZ{P:Program}{w:World}(a g:Addr):Turn P w K tg (tF K a) [g] g (λi h=>h.IsListIter g a i) where
 mem:=by simp
 obj:=λi h f b j=>by
  have e:b=g:=by simpa using j
  subst e;obtain⟨o,e,c,d⟩:=f;exact⟨o,e,λv z=>by rw[d]at z;cases z⟩
 keep:=λi h l f k=>f.at λo e=>k g nofun o e
 item:=by
  intro X q r t L i pins s σ H E I m f y;subst q r t;obtain⟨M,x,n,A⟩:=y;obtain⟨N,B,p,O⟩:=I.list n;obtain⟨u,k,v⟩:=B.get A;obtain⟨C,D,Q,F,G,J⟩:=m g nofun;calc wpAny_pyNext_list_item f p.isList (x:=u) (by simpa using k) λl a w=>?_;have k:Inv X pins σ H {s with heap:=l}:=I.turned (t':=s.toks) (λb o j e=>(w.2 b j).trans e) C D F G J;obtain⟨o,e,c,d⟩:=id a;exact⟨u,rfl,DX (s:={s with heap:=l}) e c d ∅ ⟨x,H,k,v,⟨rfl,λw u=>by rw[I.wg u n];calc A⟩,a,λb j=>(m b j).1⟩⟩
 done:=by
  intro X q r t L i pins s σ H E I m f y;subst q r t;obtain⟨M,n,A⟩:=y;obtain⟨N,B,p,O⟩:=I.list n;obtain⟨C,D,Q,F,G,J⟩:=m g nofun;have a:=B.length;exact wpAny_pyNext_list_end (I.ok.hd L) f p.isList (by simp;lia) λl a=>⟨rfl,I.turned (t':=s.toks) (λb o j e=>a b o j e) C D F G J⟩
 self:=λ_ _ _ _ _ f h=>wpAny_pyIter_listiter f h
theorem yB{P:Program}{w:World}(a g:Addr):Turn P w K tg (Rz K a) [g] g (λi h=>h.IsTupleIter g a i) where
 mem:=by simp
 obj:=λi h f b j=>by
  have e:b=g:=by simpa using j
  subst e;obtain⟨o,e,c,d⟩:=f;exact⟨o,e,λv z=>by rw[d]at z;cases z⟩
 keep:=λi h l f k=>f.at λo e=>k g nofun o e
 item:=by
  intro X q r t M i pins s σ H E I m f y;subst q r t;obtain⟨N,x,n,A⟩:=y;obtain⟨B,C,p,O⟩:=I.tuple n;obtain⟨u,v,w⟩:=C.get A;obtain⟨D,F,Q,G,J,L⟩:=m g nofun;calc wpAny_pyNext_tuple_item f (show s.heap.IsTuple a B.toArray from p) (x:=u) (by simpa using v) λl k z=>?_;have v:Inv X pins σ H {s with heap:=l}:=I.turned (t':=s.toks) (λb o j e=>(z.2 b j).trans e) D F G J L;obtain⟨o,e,c,d⟩:=id k;exact⟨u,rfl,DX (s:={s with heap:=l}) e c d ∅ ⟨x,H,v,w,⟨rfl,λz u=>by rw[I.tD u n];calc A⟩,k,λb j=>(m b j).1⟩⟩
 done:=by
  intro X q r t M i pins s σ H E I m f y;subst q r t;obtain⟨N,n,A⟩:=y;obtain⟨B,C,p,O⟩:=I.tuple n;obtain⟨D,F,Q,G,J,L⟩:=m g nofun;have c:=C.length;exact wpAny_pyNext_tuple_end (I.ok.hd M) f (show s.heap.IsTuple a B.toArray from p) (by simp;lia) λl c=>⟨rfl,I.turned (t':=s.toks) (λb o j e=>c b o j e) D F G J L⟩
 self:=λ_ _ _ _ _ f h=>wpAny_pyIter_tupleiter f h
theorem yC{P:Program}{w:World}(c:Addr)(f:Int)(n:Nat):Turn P w K tg (zY f n) [c] c (λi h=>IsRangeIter h c (f+(i:Nat)*1) ((n:Int)-(i:Nat)) 1) where
 mem:=by simp
 obj:=λi h a b d=>by
  have e:b=c:=by simpa using d
  subst e;exact⟨_,a,λv z=>by
   have k:Data.fields _=Data.cell v:=z
   cases k⟩
 keep:=λi h g a k=>k c nofun _ a
 item:=by
  intro X l m p q i pins s σ H E I j a r;subst l m p;obtain⟨u,x,F,y,A,B⟩:=j c nofun;have W:=Walks.range (prog:=X.prog) (w:=X.w) (I.ok.hd q) c f 1 n;calc W.item i s _ _ r a λv g C G D J=>?_;obtain⟨t,rfl⟩:=G;have k:Inv X pins σ H {s with heap:=g,toks:=C}:=I.turned (λb o d e=>J b o (by simpa using d) e) u x y A B;calc⟨_,rfl,DX (s:={s with heap:=g,toks:=C}) (n:="range_iterator") D rfl rfl ∅ ⟨.int (f+i),H,k,⟨t,?_⟩,⟨rfl,rfl⟩,D,λb d=>(j b d).1⟩⟩;rw[Int.mul_one]
 done:=by
  intro X l m p q i pins s σ H E I j a r;subst l m p;obtain⟨u,x,F,y,A,B⟩:=j c nofun;exact wpAny_pyNext_range_end (I.ok.hd q) a (by have:n<=i:=r;lia) λg c=>⟨rfl,I.turned (t':=s.toks) (λb o d e=>c b o d e) u x y A B⟩
 self:=λ_ _ _ _ _ a h=>wpAny_pyIter_rangeiter a h
end
section
variable {H:Hp}{pins:List (Addr×Obj)}{s:Shared}{σ:St}{g:TG}{tb:TS}
section
variable {X:Cx}{tg:Expr}
theorem DZ{R:It->Hp->Prop}{E:Value->Shared->Prop}{a c:Int}{t u v:Tok}{d:Nat}(I:Inv X pins σ H s)(g:-(2^62)<=a)(h:a<2^62)(i:-(2^62)<=c)(j:c<2^62)
  (q:R (zY a (c-a).toNat) H):wpAny (model X.prog X.w) X.A (pyIter (.ref s.heap.objs.size)) (Xt X pins σ tg R) E {s with heap:=s.heap.push {cls:=.type "range",data:=.fields #[.int a t,.int c u,.int 1 v]},toks:=d}:=by
 refine wpAny_pyIter_range (IsRange.new ..) (small_one g h i j) ?_;have f:Inv X pins σ H {s with heap:=s.heap.push {cls:=.type "range",data:=.fields #[.int a t,.int c u,.int 1 v]},toks:=d}:=I.kept λb o e=>K' _ e;refine⟨(s.heap.push {cls:=.type "range",data:=.fields #[.int a t,.int c u,.int 1 v]}).objs.size,[(s.heap.push {cls:=.type "range",data:=.fields #[.int a t,.int c u,.int 1 v]}).objs.size],_,_,H,rfl,
  f.kept (t':=d) λb o e=>K' _ e,yC _ a (c - a).toNat,?_,λb k=>?_,q⟩
 ·have l:a + ((0:Nat):Int) * 1=a:=by simp
  have m:(((c-a).toNat:Nat):Int)-((0:Nat):Int)=Builtin.Range.rangeSize a c 1:=by rw[rangeSize_one];split<;>lia
  show IsRangeIter _ _ (a+((0:Nat):Int)*1) ((((c-a).toNat:Nat):Int)-((0:Nat):Int)) 1;rw[l,m];exact aah _ rfl
 ·have e:b=(s.heap.push {cls:=.type "range",data:=.fields #[.int a t,.int c u,.int 1 v]}).objs.size:=by simpa using k
  subst e;calc f.DW (J' _) (f.aU.fresh (J' _))
def D0(a:TA):TI:=λσ H R=>a σ H λvs b=>∃j:Int,vs=[.int j]/\-(2^62)<=j/\j<2^62/\R (zY 0 j.toNat) b
theorem cJ{a:Expr}{d:TA}{p b:Pos}(f:Gl X "range")(g:X.mg "range"=none)(i:PA X [a] d)(j:starEach [a] X.env=[(false,eval a X.env)]:=by rfl):PI X tg (.Call (.Name "range" p) [a] [] b) (D0 d):=by
 calc⟨?_⟩;intro pins s σ H R I h;calc Call_ (nX I f g boot_range (PyProof.Rows.callWith_type1 (c9 (i b pins s σ H _ I h) λd o a=>?_) j rfl));obtain⟨b,d,k,l,c⟩:=a;obtain⟨j,e,c,m,q⟩:=c;subst e
 cases l with
 |cons r n=>
  cases n;obtain⟨t,rfl⟩:=r;calc call_range_1 (DZ k () () c m (by simpa using q))
def M6(a:TI)(g:TG)(tb:TS):TS:=λD σ H=>a σ H λJ b=>∃W:Nat->Nat->St->Hp->Prop,(∃m,W 0 m σ b)/\∀i m σ H,W i m σ H->
 (J.stop i H/\D.nx σ H)\/(J.go i H/\∃N:St->Hp->Prop,(∀a b,N a b->∃d,d<m/\W (i+1) d a b)/\∀x b,J.La i H x b->g x σ b λc e=>tb {D with nx:=N,ct:=N,bk:=D.nx} c e)
def nZ(a:List Addr)(h:Heap):List (Addr×Obj):=a.filterMap λb=>(h.get? b).map λo=>(b,o)
theorem jx{a:List Addr}{h:Heap}{b:Addr}{o:Obj}(c:b∈a)(e:h.get? b=some o):(b,o)∈nZ a h:=List.mem_filterMap.mpr ⟨b,c,by rw[e];rfl⟩
theorem B0{a:List Addr}{h:Heap}{p:Addr×Obj}(c:p∈nZ a h):p.1∈a/\h.get? p.1=some p.2:=by
 obtain⟨b,d,e⟩:=List.mem_filterMap.mp c
 cases q:h.get? b with
 |none=>rw[q]at e;cases e
 |some o=>
  rw[q]at e;have f:(b,o)=p:=Option.some.inj e;subst f;calc⟨d,q⟩
theorem Inv.pinned{a:List Addr}(I:Inv X pins σ H s)(g:∀b∈a,nY X pins H b)(h:∀b∈a,∃o,s.heap.get? b=some o/\∀v,o.data≠.cell v):Inv X (pins++nZ a s.heap) σ H s:=
 I.uL λp a=>(List.mem_append.mp a).elim (λz=>I.pin p (aaz _ z)) λz=>by
  obtain⟨c,e⟩:=B0 z;obtain⟨i,j,k,_⟩:=g p.1 c;obtain⟨o,f,d⟩:=h p.1 c;rw[e]at f;cases f;calc⟨e,i,j,k,d⟩
theorem Inv.kb{pl:List (Addr×Obj)}(I:Inv X (pins++pl) σ H s):Inv X pins σ H s:=I.uL λp a=>I.pin p (aaz _ (List.mem_append_left _ a))
theorem eI{c:Expr}{m:List Stmt}{M:TI}{J:Pos}(z:PassesOwn (model X.prog X.w) X.A X.env X.xe)(O:X.calm=true)(Z:PI X tg c M)(hg:PG X tg g)(j:vY X m tb)
  (hs:∀x,foldedSetIterable c X.env x=pure x:=by intro _;rfl):PS X (.For tg c m [] J) (M6 M g tb):=by
 walk_at "xd";refine wpAny_For (c9 (Z pins s σ H _ I h) λv m c=>c9 c λm J h2=>?_) hs;obtain⟨c,B,P,J,H2,e,I2,T,zZ,Q,W,⟨m0,w0⟩,C⟩:=h2;subst e;have K:∀{o:Hp},(∀b∈B,o b=none)->∀b∈B,nY X pins o b:=λc b j=>⟨c b j,(Q b j).2⟩
 calc codeAny_forLoop_any (λn c=>∃i d o,Inv X pins d o c/\P i c.heap/\(∀b∈B,o b=none)/\W i n d o) ?_ m0 ⟨0,σ,H2,I2,zZ,λb j=>(Q b j).1,w0⟩;rintro n R ⟨i,k,G,S,U,Y,w3⟩;rcases C i n k G w3 with⟨c,qn⟩|⟨go,N,hN,E⟩
 ·calc wpAny_passesOwn z (c9 (T.done X rfl rfl rfl O i pins R k G X.xe S (K Y) U c) λr s4 y=>?_);obtain⟨L,I4⟩:=y;subst L;exact wpAny_execs_nil ⟨k,G,I4,qn⟩
 ·calc wpAny_passesOwn z (c9 (T.item X rfl rfl rfl O i pins R k G X.xe S (K Y) U go) λr s4 y=>?_);obtain⟨u,L,h4⟩:=y;subst L;calc wpAny_passesOwn z (c9 h4 λ_ C y=>?_);obtain⟨x,m,r,G,J,c,L⟩:=y;have M:=r.pinned (K L) (T.obj _ _ c);calc wpAny_passesOwn z (c9 (hg _ C k m x u _ M G (E x m J)) λ_ O y=>?_);obtain⟨k,m,u,x⟩:=y;calc wpAny_passesOwn z (c9 (j _ O k m _ u x) λf r t=>?_);have l:∀{a:St} {p:Hp},Inv X (pins++nZ B C.heap) a p r->N a p->∃m,m<n/\∃i d o,Inv X pins d o r/\P i r.heap/\(∀b∈B,o b=none)/\W i m d o:=λ{a p} q F=>by
   obtain⟨d,k,m⟩:=hN a p F;calc⟨d,k,i+1,a,p,q.kb,T.keep _ _ _ c λb j o e=>(q.pin (b,o) (aaz _ (aaz _ (jx j e)))).1,λb j=>?_,m⟩;obtain⟨o,e,d⟩:=T.obj _ _ c b j;exact(q.pin (b,o) (aaz _ (aaz _ (jx j e)))).2.1
  cases f with
  |next=>obtain⟨a,p,q,F⟩:=t;calc l q F
  |cont=>obtain⟨a,p,q,F⟩:=t;calc l q F
  |brk=>obtain⟨a,p,q,t⟩:=t;calc⟨a,p,q.kb,t⟩
  |ret v=>obtain⟨b,a,p,q,c,t⟩:=t;calc⟨b,a,p,q.kb,c,t⟩
end
theorem gM{K:W.Frag}{a:Addr}{xs:List V}{D:Ends}(b:Nat->St->Hp->Prop)(k:b 0 σ H)(l:∀i σ H,i<=xs.length->b i σ H->aO K H a xs)
  (n:∀i x σ H,xs[i]?=some x->b i σ H->g x σ H λc h=>tb {D with nx:=b (i+1),ct:=b (i+1),bk:=D.nx} c h) (o:∀σ H,b xs.length σ H->D.nx σ H):
  ∃W:Nat->Nat->St->Hp->Prop,(∃m,W 0 m σ H)/\∀i m σ H,W i m σ H->
   ((tF K a).stop i H/\D.nx σ H)\/((tF K a).go i H/\∃N:St->Hp->Prop,(∀d f,N d f->∃j,j<m/\W (i+1) j d f)/\∀x f,(tF K a).La i H x f->g x σ f λc h=>tb {D with nx:=N,ct:=N,bk:=D.nx} c h):=by
 calc⟨λi m σ H=>m=xs.length-i/\i<=xs.length/\b i σ H,⟨xs.length,nofun,aav _,k⟩,?_⟩;rintro i m σ H ⟨rfl,c,p⟩;have q:=l i σ H c p;by_cases a:i<xs.length
 ·calc .inr ⟨⟨xs,xs[i],q,by simp[a]⟩,b (i+1),λd f c=>⟨xs.length-(i+1),(),rfl,a,c⟩,λx f y=>?_⟩;obtain⟨e,y⟩:=y;subst e;exact n i x σ _ (y xs q) p
 ·have e:i=xs.length:=by lia
  subst e;calc .inl ⟨⟨xs,q,J' _⟩,o σ H p⟩
theorem jb{f:Int}{n:Nat}{D:Ends}(a:Nat->St->Hp->Prop)(l:a 0 σ H)
  (o:∀i σ H,i<n->a i σ H->g (.int (f+i)) σ H λb h=>tb {D with nx:=a (i+1),ct:=a (i+1),bk:=D.nx} b h) (q:∀σ H,a n σ H->D.nx σ H):
  ∃W:Nat->Nat->St->Hp->Prop,(∃m,W 0 m σ H)/\∀i m σ H,W i m σ H->
   ((zY f n).stop i H/\D.nx σ H)\/((zY f n).go i H/\∃N:St->Hp->Prop,(∀c d,N c d->∃k,k<m/\W (i+1) k c d)/\∀x d,(zY f n).La i H x d->g x σ d λb h=>tb {D with nx:=N,ct:=N,bk:=D.nx} b h):=by
 calc⟨λi m σ H=>m=n-i/\i<=n/\a i σ H,⟨n,nofun,aav _,l⟩,?_⟩;rintro i m σ H ⟨rfl,b,p⟩;by_cases j:i<n
 ·calc .inr ⟨j,a (i+1),λc d b=>⟨n-(i+1),(),rfl,j,b⟩,λx d y=>?_⟩;obtain⟨e,y⟩:=y;subst e y;exact o i σ _ j p
 ·have e:i=n:=by lia
  subst e;calc .inl ⟨J' _,q σ H p⟩
end
section
variable {op:CmpOp}{g:Int->Int->Int}
abbrev R2:=V->V->Hp->VK->Prop
def fE(X:Cx)(f:Value->Value->Sem Value)(r:R2):Prop:=
 ∀(pins:List (Addr×Obj)) (s:Shared) (σ:St) (H:Hp) (x y:V) (v u:Value) (Q:VK),Inv X pins σ H s->RelV x v->RelV y u->r x y H Q->
  wpAny (model X.prog X.w) X.A (f v u) (EP X pins σ Q) X.xe s
def Xw(X:Cx)(f:Value->Sem Value)(r:V->Hp->VK->Prop):Prop:=
 ∀(pins:List (Addr×Obj)) (s:Shared) (σ:St) (H:Hp) (x:V) (v:Value) (Q:VK),Inv X pins σ H s->RelV x v->r x H Q->
  wpAny (model X.prog X.w) X.A (f v) (EP X pins σ Q) X.xe s
def eZ(X:Cx)(f:Value)(r:List V->Hp->VK->Prop):Prop:=
 ∀(pins:List (Addr×Obj)) (s:Shared) (σ:St) (H:Hp) (xs:List V) (us:List Value) (Q:VK),Inv X pins σ H s->Vals xs us->r xs H Q->
  wpAny (model X.prog X.w) X.A (call f us) (EP X pins σ Q) X.xe s
def D7(r:R2)(a b:TE):TE:=λσ H Q=>a σ H λx c=>b σ c λy a=>r x y a Q
def Xx(r:V->Hp->VK->Prop)(a:TE):TE:=λσ H Q=>a σ H λx b=>r x b Q
def rI(C:Int->Int->Prop)(g:Int->Int->V):R2:=λx y H Q=>∃i j,x=.int i/\y=.int j/\C i j/\Q (g i j) H
def Jc(g:Int->Int->V):R2:=λx y H Q=>∃i j,x=.int i/\y=.int j/\Q (g i j) H
def rU(g:Int->V):V->Hp->VK->Prop:=λx H Q=>∃i,x=.int i/\Q (g i) H
section
variable {X:Cx}{a b c:Expr}{ta tb tc:TE}{pos:Pos}
theorem M7(j:PE X a ta)(k:PE X b tb){pins:List (Addr×Obj)}{s:Shared}{σ:St}{H:Hp}{R:V->V->Hp->Prop}(I:Inv X pins σ H s)
  (h:ta σ H λx i=>tb σ i λy c=>R x y c) {Q:Value->Shared->Prop} {f:Value->Value->Sem Value}
  (l:∀v u g x y c,Inv X pins σ c g->RelV x v->RelV y u->R x y c->wpAny (model X.prog X.w) X.A (f v u) Q X.xe g):
  wpAny (model X.prog X.w) X.A (eval a X.env) (λv d=>wpAny (model X.prog X.w) X.A (eval b X.env) (λu e=>wpAny (model X.prog X.w) X.A (f v u) Q X.xe e) X.xe d) X.xe s:=by
 calc c9 (j pins s σ H _ I h) λv e d=>?_;obtain⟨x,i,f,h,j⟩:=d;calc c9 (k pins e σ i _ f j) λu g d=>?_;obtain⟨y,c,e,f,i⟩:=d;calc l v u g x y c e h f i
theorem aV{op:Operator}{r:R2}(c:fE X (binaryOp op) r)(d:PE X a ta)(e:PE X b tb):PE X (.BinOp a op b pos) (D7 r ta tb):=by
 walk_at "xc";exact wpAny_BinOp (M7 d e I h λv u f x y g i j k q=>c pins f σ g x y v u Q i j k q)
theorem mS{op:UnaryOp}{r:V->Hp->VK->Prop}(b:Xw X (unaryOp op) r)(c:PE X a ta):PE X (.UnaryOp op a pos) (Xx r ta):=by
 walk_at "xc";exact UnaryOp_ (c9 (c pins s σ H _ I h) λv d ⟨x,e,f,g,i⟩=>b pins d σ e x v Q f g i)
theorem V0{f:Value->Value->Sem Value}{C:Int->Int->Prop}
  (a:∀(i j:Int) (t u:Tok) (s:Shared) (Q:Value->Shared->Prop) (E:Value->Shared->Prop),C i j->Q (.int (g i j) s.toks) {s with toks:=s.toks+1}->wpAny (model X.prog X.w) X.A (f (.int i t) (.int j u)) Q E s):
  fE X f (rI C λi j=>.int (g i j)):=by
 intro b s σ H x y v u Q I c d h;obtain⟨i,j,rfl,rfl,e,q⟩:=h;obtain⟨t,rfl⟩:=c;obtain⟨k,rfl⟩:=d;calc a i j t k s _ _ e ⟨.int (g i j),H,I.tok _,⟨_,rfl⟩,q⟩
theorem RB{f:Value->Value->Sem Value}
  (a:∀(i j:Int) (t u:Tok) (s:Shared) (Q:Value->Shared->Prop) (E:Value->Shared->Prop),Q (.int (g i j) s.toks) {s with toks:=s.toks+1}->wpAny (model X.prog X.w) X.A (f (.int i t) (.int j u)) Q E s):
  fE X f (Jc λi j=>.int (g i j)):=by
 intro b s σ H x y v u Q I c d h;obtain⟨i,j,rfl,rfl,q⟩:=h;obtain⟨t,rfl⟩:=c;obtain⟨e,rfl⟩:=d;calc a i j t e s _ _ ⟨.int (g i j),H,I.tok _,⟨_,rfl⟩,q⟩
theorem Jd{f:Value->Value->Sem Value}{g:Int->Int->Bool}
  (a:∀(i j:Int) (t u:Tok) (s:Shared) (Q:Value->Shared->Prop) (E:Value->Shared->Prop),Q (.bool (g i j)) s->wpAny (model X.prog X.w) X.A (f (.int i t) (.int j u)) Q E s):
  fE X f (Jc λi j=>.bl (g i j)):=by
 intro b s σ H x y v u Q I c d h;obtain⟨i,j,rfl,rfl,q⟩:=h;obtain⟨t,rfl⟩:=c;obtain⟨e,rfl⟩:=d;calc a i j t e s _ _ ⟨.bl (g i j),H,I,rfl,q⟩
def Je(i j:Int):Prop:=0<=j/\j<=1000000/\i.natAbs<2^64
def D8(i j:Int):Prop:=(-(2^64)<i/\i<2^64)\/(-(2^64)<j/\j<2^64)
theorem D8.ok{i j:Int}(h:D8 i j):IntMulOk i j:=by
 rcases h with⟨a,b⟩|⟨a,b⟩
 ·exact .of_left (intBits_le_64 a b)
 ·calc .of_right (intBits_le_64 a b)
theorem M8:fE X (binaryOp .Add) (Jc λi j=>.int (i+j)):=RB λ_ _ _ _ _ _ _ q=>add_int q
theorem M9:fE X (binaryOp .Sub) (Jc λi j=>.int (i-j)):=RB λ_ _ _ _ _ _ _ q=>sub_int q
theorem Na:fE X (binaryOp .Mult) (rI D8 λi j=>.int (i*j)):=V0 λ_ _ _ _ _ _ _ a q=>mul_int q a.ok
theorem Nb:fE X (binaryOp .Mod) (rI (λ_ j=>0<j) λi j=>.int (i%j)):=V0 λi j _ _ _ _ _ a q=>by
 have b:(0:Int)<j:=a;calc mod_int' () (by rw[Int.fmod_eq_emod_of_nonneg i ()];calc q)
theorem Nc:fE X (binaryOp .Pow) (rI Je λi j=>.int (i^j.toNat)):=V0 λ_ _ _ _ _ _ _ a q=>pow_int_small a.1 a.2.1 a.2.2 q
theorem unI{f:Value->Sem Value}{g:Int->Int}
  (a:∀(i:Int) (t:Tok) (s:Shared) (Q:Value->Shared->Prop) (E:Value->Shared->Prop),Q (.int (g i) s.toks) {s with toks:=s.toks+1}->wpAny (model X.prog X.w) X.A (f (.int i t)) Q E s):
  Xw X f (rU λi=>.int (g i)):=by
 intro b s σ H x v Q I c h;obtain⟨i,rfl,q⟩:=h;obtain⟨t,rfl⟩:=c;calc a i t s _ _ ⟨.int (g i),H,I.tok _,⟨_,rfl⟩,q⟩
theorem jy:Xw X (unaryOp .USub) (rU λi=>.int (-i)):=unI λ_ _ _ _ _ q=>neg_int q
end
def Jf:V->V->Bool
 | .bH,.bH=>true | .bH,.int _=>true | .int _,.bH=>true | .bH,.bl _=>true | .bl _,.bH=>true | .bH,.str _=>true | .str _,.bH=>true
 | .int _,.int _=>true | .bl _,.bl _=>true | .str _,.str _=>true | .zS _,.zS _=>true
 | .int _,.str _=>true | .str _,.int _=>true | .bl _,.str _=>true | .str _,.bl _=>true
 |_,_=>false
def rEq:R2:=λx y H Q=>Jf x y=true/\Q (.bl (decide (x=y))) H
def rNe:R2:=λx y H Q=>Jf x y=true/\Q (.bl (!decide (x=y))) H
theorem Aa{i j:Int}:decide (V.int i=V.int j)=(i==j):=by
 rw[Bool.eq_iff_iff];simp
theorem D9{i j:Bool}:decide (V.bl i=V.bl j)=(i==j):=by
 rw[Bool.eq_iff_iff];simp
theorem Ab{i j:Str}:decide (V.str i=V.str j)=(i==j):=by
 rw[Bool.eq_iff_iff];simp
theorem Ac{i j:Array UInt8}:decide (V.zS i=V.zS j)=(i.toList==j.toList):=by
 rw[Bool.eq_iff_iff]
 cases i
 cases j;simp
section
variable {X:Cx}{a b c:Expr}{ta tb tc:TE}{pos:Pos}
theorem bQ{pins:List (Addr×Obj)}{σ:St}{H:Hp}{s:Shared}{Q:VK}{k a:Bool}(I:Inv X pins σ H s)(q:Q (.bl k) H)(e:k=a):EP X pins σ Q (.bool a) s:=by
 subst e;calc⟨.bl k,H,I,rfl,q⟩
theorem RC:fE X (compareOp .Eq) rEq:=by
 intro e s σ H x y v u Q I d a h;obtain⟨c,q⟩:=h
 cases x with
 |bH=>
  cases d
  cases y with
  |bH=>cases a;calc PySem.EqNone.eq_none_none (bQ I q nofun)
  |bl j=>cases a;calc PySem.EqNone.eq_none_bool (bQ I q nofun)
  |int j=>obtain⟨b,rfl⟩:=a;calc PySem.EqNone.eq_none_int (bQ I q nofun)
  |str j=>obtain⟨b,rfl⟩:=a;calc PySem.EqNone.eq_none_str (bQ I q nofun)
  |_=>calc absurd (show false=true from c) M'
 |bl i=>
  cases d
  cases y with
  |bH=>cases a;calc PySem.EqNone.eq_bool_none (bQ I q nofun)
  |bl j=>cases a;calc eq_bool (bQ I q D9)
  |str j=>obtain⟨b,rfl⟩:=a;calc PySem.EqMixed.eq_bool_str (bQ I q nofun)
  |_=>calc absurd (show false=true from c) M'
 |int i=>
  obtain⟨t,rfl⟩:=d
  cases y with
  |bH=>cases a;calc PySem.EqNone.eq_int_none (bQ I q nofun)
  |int j=>obtain⟨b,rfl⟩:=a;calc eq_int (bQ I q Aa)
  |str j=>obtain⟨b,rfl⟩:=a;calc PySem.EqMixed.eq_int_str (bQ I q nofun)
  |_=>calc absurd (show false=true from c) M'
 |str i=>
  obtain⟨t,rfl⟩:=d
  cases y with
  |bH=>cases a;calc PySem.EqNone.eq_str_none (bQ I q nofun)
  |bl j=>cases a;calc PySem.EqMixed.eq_str_bool (bQ I q nofun)
  |int j=>obtain⟨b,rfl⟩:=a;calc PySem.EqMixed.eq_str_int (bQ I q nofun)
  |str j=>obtain⟨b,rfl⟩:=a;calc eq_str (bQ I q Ab)
  |_=>calc absurd (show false=true from c) M'
 |zS i=>
  obtain⟨t,rfl⟩:=d
  cases y with
  |zS j=>obtain⟨b,rfl⟩:=a;calc W.eq_bytes (bQ I q Ac)
  |_=>calc absurd (show false=true from c) M'
 |_=>cases y<;>calc absurd (show false=true from c) M'
theorem RD:fE X (compareOp .NotEq) rNe:=by
 intro e s σ H x y v u Q I d a h;obtain⟨c,q⟩:=h
 cases x with
 |bH=>
  cases d
  cases y with
  |bH=>cases a;calc PySem.EqNone.ne_none_none (bQ I q nofun)
  |bl j=>cases a;calc PySem.EqNone.ne_none_bool (bQ I q nofun)
  |int j=>obtain⟨b,rfl⟩:=a;calc PySem.EqNone.ne_none_int (bQ I q nofun)
  |str j=>obtain⟨b,rfl⟩:=a;calc PySem.EqNone.ne_none_str (bQ I q nofun)
  |_=>calc absurd (show false=true from c) M'
 |bl i=>
  cases d
  cases y with
  |bH=>cases a;calc PySem.EqNone.ne_bool_none (bQ I q nofun)
  |bl j=>cases a;calc ne_bool (bQ I q (congrArg not D9))
  |str j=>obtain⟨b,rfl⟩:=a;calc PySem.EqMixed.ne_bool_str (bQ I q nofun)
  |_=>calc absurd (show false=true from c) M'
 |int i=>
  obtain⟨t,rfl⟩:=d
  cases y with
  |bH=>cases a;calc PySem.EqNone.ne_int_none (bQ I q nofun)
  |int j=>obtain⟨b,rfl⟩:=a;calc ne_int (bQ I q (congrArg not Aa))
  |str j=>obtain⟨b,rfl⟩:=a;calc PySem.EqMixed.ne_int_str (bQ I q nofun)
  |_=>calc absurd (show false=true from c) M'
 |str i=>
  obtain⟨t,rfl⟩:=d
  cases y with
  |bH=>cases a;calc PySem.EqNone.ne_str_none (bQ I q nofun)
  |bl j=>cases a;calc PySem.EqMixed.ne_str_bool (bQ I q nofun)
  |int j=>obtain⟨b,rfl⟩:=a;calc PySem.EqMixed.ne_str_int (bQ I q nofun)
  |str j=>obtain⟨b,rfl⟩:=a;calc ne_str (bQ I q (congrArg not Ab))
  |_=>calc absurd (show false=true from c) M'
 |zS i=>
  obtain⟨t,rfl⟩:=d
  cases y with
  |zS j=>obtain⟨b,rfl⟩:=a;calc W.ne_bytes (bQ I q (congrArg not Ac))
  |_=>calc absurd (show false=true from c) M'
 |_=>cases y<;>calc absurd (show false=true from c) M'
theorem RE:fE X (compareOp .Lt) (Jc λi j=>.bl (decide (i<j))):=Jd λ_ _ _ _ _ _ _ q=>lt_int q
theorem RF:fE X (compareOp .LtE) (Jc λi j=>.bl (decide (i<=j))):=Jd λ_ _ _ _ _ _ _ q=>le_int q
theorem RG:fE X (compareOp .Gt) (Jc λi j=>.bl (decide (j<i))):=Jd λ_ _ _ _ _ _ _ q=>gt_int q
theorem RH:fE X (compareOp .GtE) (Jc λi j=>.bl (decide (j<=i))):=Jd λ_ _ _ _ _ _ _ q=>ge_int q
theorem Nd:fE X (compareOp .Is) (λx y H Q=>y=.bH/\Q (.bl (decide (x=.bH))) H):=by
 intro a s σ H x y v u Q I b c h;obtain⟨rfl,q⟩:=h
 cases c;refine is_none_gen (bQ I q ?_)
 cases x<;>first
  |(cases b;rfl)
  |(obtain⟨t,rfl⟩:=b;rfl)
theorem Jg:fE X (compareOp .IsNot) (λx y H Q=>y=.bH/\Q (.bl (!decide (x=.bH))) H):=by
 intro a s σ H x y v u Q I b c h;obtain⟨rfl,q⟩:=h
 cases c;refine isnot_none_gen (bQ I q ?_)
 cases x<;>first
  |(cases b;rfl)
  |(obtain⟨t,rfl⟩:=b;rfl)
theorem aG(b:Expr){op:CmpOp}(h:op≠.In:=by decide)(a:op≠.NotIn:=by decide):behindInMarks op b=false:=by
 have c:(op==CmpOp.In)=false:=by cases op<;>first|rfl|exact absurd rfl h
 have d:(op==CmpOp.NotIn)=false:=by cases op<;>first|rfl|exact absurd rfl a
 cases b<;>simp[behindInMarks,c,d]
theorem gB{r:R2}(c:fE X (compareOp op) r)(d:PE X a ta)(e:PE X b tb)(f:behindInMarks op b=false):PE X (.Compare a [op] [b] pos) (D7 r ta tb):=by
 walk_at "xc";exact wpAny_Compare1 (M7 d e I h λv u g x y i j k l q=>c pins g σ i x y v u Q j k l q) f
def Ad(t:TE):TT:=λσ H Q=>t σ H λx a=>∃k,x=.bl k/\Q k a
theorem Ae{r:R2}(d:fE X (compareOp op) r)(f:PE X a ta)(g:PE X b tb)(i:behindInMarks op b=false):PT X (.Compare a [op] [b] pos) (Ad (D7 r ta tb)):=by
 walk_at "xc";refine wpAny_isTrue_Compare1 (c9 (f pins s σ H _ I h) λv j ⟨x,k,l,m,n⟩=>c9 (g pins j σ k _ l n) λu f ⟨y,o,p,q,r⟩=>
  c9 (d pins f σ o x y v u _ p m q r) λc g ⟨z,t,w,A,k,e,B⟩=>?_) i
 subst e
 cases A;calc abq ⟨t,w,B⟩
def yE(r b:R2)(ta tb tc:TE):TE:=λσ H Q=>ta σ H λx a=>tb σ a λy c=>r x y c λz a=>∃k,z=.bl k/\
 (if k=true then tc σ a λw' c=>b y w' c Q else Q (.bl false) a)
theorem wj{d:CmpOp}{r f:R2}(m:fE X (compareOp op) r)(n:fE X (compareOp d) f)(o:PE X a ta)(p:PE X b tb)(q:PE X c tc)
  (t:lastMarks [op,d] [b,c]=false:=by with_unfolding_all rfl):PE X (.Compare a [op,d] [b,c] pos) (yE r f ta tb tc):=by
 walk_at "xc";refine Compare_chain (c9 (o pins s σ H _ I h) λv d ⟨x,f,r,w,z⟩=>chain_link (c9 (p pins d σ f _ r z) λu o ⟨y,A,B,g,C⟩=>
  c9 (m pins o σ A x y v u _ B w g C) λd D ⟨z,i,j,E,k,e,l⟩=>?_)) t
 subst e
 cases E;refine abq ?_
 cases k with
 |false=>calc ite_ff ⟨.bl false,i,j,rfl,l⟩
 |true=>calc ite_tt (chain_last (c9 (q pins D σ i _ j l) λd e ⟨f,k,m,o,p⟩=>n pins e σ k y f u d Q m g o p))
theorem qA:(sizeLine:Nat)<2^63:=by rw[sizeLine_eq];decide
theorem yF:fE X (binaryOp .Add) (λx y H Q=>∃i j,x=.str i/\y=.str j/\i.length+j.length<=sizeLine/\Q (.str (i++j)) H):=by
 intro a s σ H x y v u Q I b c h;obtain⟨i,j,rfl,rfl,d,q⟩:=h;obtain⟨t,rfl⟩:=b;obtain⟨e,rfl⟩:=c;calc add_str (λe a=>⟨.str (i++j),H,I.tok _,⟨_,rfl⟩,q⟩) d
theorem vals1{x:V}{us:List Value}(r:Vals [x] us):∃u,us=[u]/\RelV x u:=by
 cases r with
 |cons a b=>cases b;calc⟨_,rfl,a⟩
theorem vals2{x y:V}{us:List Value}(r:Vals [x,y] us):∃u w',us=[u,w']/\RelV x u/\RelV y w':=by
 cases r with
 |cons a b=>
  cases b with
  |cons c d=>cases d;calc⟨_,_,rfl,a,c⟩
theorem B1(b:X.calm=true):eZ X (.builtin "max") (λxs H Q=>∃i j,xs=[.int i,.int j]/\Q (.int (if j > i then j else i)) H):=by
 intro a s σ H xs c Q I r h;obtain⟨i,j,rfl,q⟩:=h;obtain⟨u,d,rfl,⟨t,rfl⟩,⟨e,rfl⟩⟩:=vals2 r;refine max_two_ints (I.ok.hd b) λa c k=>⟨_,H,I.kept k,?_,q⟩
 by_cases a:j > i
 ·rw[if_pos a,if_pos a];exact⟨_,rfl⟩
 ·rw[if_neg a,if_neg a];calc⟨_,rfl⟩
theorem tI:eZ X (.type "int") (λxs H Q=>(∃i,xs=[.int i]/\Q (.int i) H)\/∃k,xs=[.bl k]/\Q (.int (if k then 1 else 0)) H):=by
 intro a s σ H xs c Q I r h;rcases h with⟨i,rfl,q⟩|⟨k,rfl,q⟩
 ·obtain⟨u,rfl,t,rfl⟩:=vals1 r;exact call_int_int ⟨.int i,H,I,⟨_,rfl⟩,q⟩
 ·obtain⟨u,rfl,b⟩:=vals1 r
  cases b;calc call_int_bool ⟨.int (if k then 1 else 0),H,I.tok _,⟨_,rfl⟩,q⟩
def Ea(K:W.Frag)(x:V)(H:Hp)(n:Nat):Prop:=
 match x with
 | .str y=>y.length<=sizeLine/\n=y.length
 | .zS y=>y.size<=sizeLine/\n=y.size
 | .ref p=>(∃xs,aO K H p xs/\n=xs.length)\/∃xs,bq K H p xs/\n=xs.length
 |_=>False
theorem Eb:eZ X (.builtin "len") (λxs H Q=>∃x n,xs=[x]/\Ea X.K x H n/\Q (.int n) H):=by
 intro i s σ H xs m Q I r h;obtain⟨x,n,rfl,e,q⟩:=h;obtain⟨u,rfl,c⟩:=vals1 r;have h:=qA;have h:sizeLine=16777216:=sizeLine_eq
 cases x with
 |str y=>
  obtain⟨t,rfl⟩:=c;obtain⟨j,b⟩:y.length<=sizeLine/\n=y.length:=e;subst b;calc len_str () ⟨.int _,H,I.tok _,⟨_,rfl⟩,q⟩
 |zS y=>
  obtain⟨t,rfl⟩:=c;obtain⟨j,b⟩:y.size<=sizeLine/\n=y.size:=e;subst b;calc W.len_bytes () ⟨.int _,H,I.tok _,⟨_,rfl⟩,q⟩
 |ref p=>
  cases c;have b:(∃xs,aO X.K H p xs/\n=xs.length)\/∃xs,bq X.K H p xs/\n=xs.length:=e;rcases b with⟨xs,d,b⟩|⟨xs,d,b⟩
  ·subst b;obtain⟨k,f,g,l⟩:=I.list d;have a:=f.length;exact Calls.call_len_list g.isList (by simp only[List.size_toArray];lia) ⟨.int xs.length,H,I.tok _,⟨_,by simp only[List.size_toArray];rw[a]⟩,q⟩
  ·subst b;obtain⟨k,f,g,l⟩:=I.tuple d;have a:=f.length;calc len_tuple g (by simp only[List.size_toArray];lia) ⟨.int xs.length,H,I.tok _,⟨_,by simp only[List.size_toArray];rw[a]⟩,q⟩
 |_=>calc(show False from e).elim
end
end
section
variable {C:Addr}{mA:Str->Option Value}{Q:Value->Shared->Prop}
structure yG(h:Heap)(x dx C:Addr)(mA:Str->Option Value):Prop where
 obj:h.get? x=some (W.instObj C dx)
 ns:h.Ns1 dx mA
 ne:dx≠x
theorem B2{h:Heap}{b:Addr}(n:h.Ns1 b mA):∃c,h.get? b=some c/\∀name,W.lookIn name c=some (mA name):=by
 obtain⟨o,d,p,f,g,i,_,j⟩:=n;calc⟨o,f,λname=>?_⟩;have e:=j name;unfold nsFind findBy at e;rw[<-Array.find?_toList]at e;unfold W.lookIn;rw[g];dsimp only;split
 ·rename_i y q;rw[q]at e;exact congrArg some e
 ·rename_i q;rw[q]at e;have a:d.toList.any (·.refKey)=false:=by
   rw[List.any_eq_false];intro y k;obtain⟨z,t,l⟩:=i y (Array.mem_toList_iff.mp k);simp[DictEntry.refKey,l]
  have m:¬d.toList.any (·.refKey)=true:=by rw[a];exact M'
  rw[if_neg m];calc congrArg some e
theorem yG.look{h:Heap}{x b:Addr}(I:yG h x b C mA):∃a,W.InstAt h x (W.instObj C b) C (some a)/\∀name,W.lookIn name a=some (mA name):=
 let ⟨a,b,c⟩:=B2 I.ns
 ⟨a,⟨I.obj,rfl,rfl,b⟩,c⟩
section
variable {prog:Program}{w:World}{A:Around}{E:Value->Shared->Prop}{s:Shared}{K:W.Frag}{x dx C f:Addr}{mA:Str->Option Value}{name:Str}{v:Value}
theorem get_map{a:Bool}(X:K.In s.heap)(I:yG s.heap x dx C mA)(c:W.plainGet K C name=true)(d:W.hasDictIn K C=true)
  (e:W.findIn K (.ref C) name=some none) (f:mA name=some v) (b:W.handedIn v=true) (h:Q v {s with toks:=s.toks+1}):
  wpAny (model prog w) A (getAttr (.ref x) name a) Q E s:=by
 obtain⟨g,J,a⟩:=I.look;calc W.get_value X J (W.plainGet_of c).1 (W.findObj_own d e rfl (by rw[a,f])) b h
theorem Ec{pl:Sem Bool}{Q:Value×List Value->Shared->Prop}(X:K.In s.heap)(I:yG s.heap x dx C mA)(a:W.plainGet K C name=true)
  (b:W.findIn K (.ref C) name=some (some (.ref f))) (c:W.isFn K (.ref f)=true) (d:mA name=none) (h:Q (.ref f,[.ref x]) s):
  wpAny (model prog w) A (getMethod (.ref x) name pl) Q E s:=by
 obtain⟨e,J,g⟩:=I.look;calc W.method_fn X J (W.plainGet_of a).1 (W.plainGet_of a).2 b (beq_iff_eq.mp c) (by show(W.lookIn name e).map (·.isSome)=some false;rw[g,d];rfl) h
theorem Jh{ns:List Str}{Q:Unit->Shared->Prop}(X:K.In s.heap)(I:yG s.heap x dx C mA)
  (b:W.findIn K (.ref C) "__setattr__"=some (some (.builtin "object.__setattr__"))) (c:W.plainOver K C=true) (d:W.takerIn K C name=some none) (e:W.hasDictIn K C=true)
  (i:PySem.Within mA ns) (hsz:ns.length<=sizeLine)
  (h:∀h',yG h' x dx C (λy=>if y=name then some v else mA y)->Heap.SameBut dx s.heap h'->Q ⟨⟩ {s with heap:=h',toks:=s.toks+2}):
  wpAny (model prog w) A (setAttr (.ref x) name v) Q E s:=by
 obtain⟨g,J,j⟩:=I.look;calc W.set_plain X J b (W.osa_open (s:={s with toks:=s.toks+1}) (r:=none) X J c d λb=>?_);obtain⟨d,b,c⟩:=W.any_some e;have d:s.heap.get? x=some ⟨.ref C,some dx,.plain,#[]⟩:=I.obj;calc E' (S' (E' (E' (wpAny_loadPart d (E' (W.Looks.here (s:={s with toks:=s.toks+1}) (W.looks_clsIn X b) ?_))))));rw[c];calc S' (a:=some dx) (E' (S' (E' ?_)));calc wpAny_nsSet1 (s:={s with toks:=s.toks+1}) I.ns λh' e g=>?_;obtain⟨l,j,k,b,c,d⟩:=e.count (PySem.Within.cons name v i);calc E' (wpAny_lookBehind b (by rw[c];calc pastItsLine_dict (aaB d (by rw[aa5];lia))) ?_);calc S' (h _ ⟨(g.2 _ (Ne.symm I.ne)).trans I.obj,e,I.ne⟩ g)
theorem Ed{R:Result->Shared->Prop}{vs:List Value}{a:List (Str×Value)}(X:K.In s.heap)(b:W.makesIn K C=true)
  (c:W.findIn K (.ref C) "__init__"=some (some (.ref f))) (e:W.typeIn K (.ref f)=some (.type "function"))
  (h:codeAny (model prog w) (A.under (.builtin "type.__call__" ⟨.ref C::vs,a⟩)) (.call (.ref f) ⟨.ref (s.heap.objs.size + 1)::vs,a⟩) (W.InitBack (s.heap.objs.size + 1) R)
   {s with heap:=(s.heap.push W.emptyDict).push (W.instObj C s.heap.objs.size)}):
  codeAny (model prog w) A (.call (.ref C) ⟨vs,a⟩) R s:=by
 obtain⟨a,g,d,t,i⟩:=s;calc W.make_core (W.makes_of X b) (W.looks_findIn X c) (λa=>W.bind_fn X a e) (.inl rfl) h
end
def bG(f:Str)(v:V):List (Str×V)->List (Str×V)
 | []=>[(f,v)]
 |(g,x)::r=>if g=f then(g,v)::r else(g,x)::bG f v r
theorem aX(f g:Str)(v:V):∀a:List (Str×V),(bG f v a).lookup g=if g=f then some v else a.lookup g
 | []=>by
  show List.lookup g [(f,v)]=_;by_cases h:g=f
  ·have a:(g==f)=true:=beq_iff_eq.mpr h;simp only[List.lookup,a,if_pos h]
  ·have a:(g==f)=false:=beq_eq_false_iff_ne.mpr h;simp only[List.lookup,a,if_neg h]
 |(k,x)::r=>by
  have c:=aX f g v r;rw[show bG f v ((k,x)::r)=(if k=f then(k,v)::r else(k,x)::bG f v r) from rfl];by_cases b:k=f
  ·rw[if_pos b];by_cases h:g=k
   ·have a:(g==k)=true:=beq_iff_eq.mpr h;simp only[List.lookup,a,if_pos (h.trans b)]
   ·have a:(g==k)=false:=beq_eq_false_iff_ne.mpr h;simp only[List.lookup,a,if_neg (λe:g=f=>h (e.trans b.symm))]
  ·rw[if_neg b];by_cases h:g=k
   ·have a:(g==k)=true:=beq_iff_eq.mpr h;simp only[List.lookup,a,if_neg (λe:g=f=>b (h.symm.trans e))]
   ·have a:(g==k)=false:=beq_eq_false_iff_ne.mpr h;simp only[List.lookup,a];calc c
theorem oa(f:Str)(v:V):∀a:List (Str×V),f∈(bG f v a).map (·.1)/\∀g,g∈a.map (·.1)->g∈(bG f v a).map (·.1)
 | []=>⟨by simp[bG],λg h=>by simp at h⟩
 |(k,x)::r=>by
  obtain⟨c,d⟩:=oa f v r;rw[show bG f v ((k,x)::r)=(if k=f then(k,v)::r else(k,x)::bG f v r) from rfl];by_cases b:k=f
  ·rw[if_pos b];subst b;exact⟨nofun,λg h=>by simpa using h⟩
  ·rw[if_neg b];refine⟨?_,λg h=>?_⟩
   ·rw[aba];exact aao _ c
   ·rw[aba] at h ⊢;rcases List.mem_cons.mp h with e | e
    ·exact List.mem_cons.mpr (.inl e)
    ·calc aao _ (d g e)
theorem kd(f:Str)(v:V):∀a:List (Str×V),(bG f v a).length<=a.length+1
 | []=>by simp[bG]
 |(k,x)::r=>by
  have a:=kd f v r;rw[show bG f v ((k,x)::r)=(if k=f then(k,v)::r else(k,x)::bG f v r) from rfl];by_cases a:k=f
  ·rw[if_pos a,aa5,aa5];lia
  ·rw[if_neg a,aa5,aa5];lia
theorem lD.some_of{v:V}{o:Option Value}(r:lD (some v) o):∃u,o=some u/\RelV v u:=by
 cases o with
 |none=>calc(show False from r).elim
 |some u=>calc⟨u,rfl,r⟩
theorem lD.none_of{o:Option Value}(r:lD none o):o=none:=by
 cases o with
 |none=>rfl
 |some u=>calc(show False from r).elim
theorem B3{v:V}{u:Value}(r:RelV v u):W.handedIn u=true:=by
 cases v with
 |bH=>cases(show u=Value.none from r);rfl
 |bl b=>cases(show u=Value.bool b from r);rfl
 |int i=>obtain⟨t,e⟩:=(show ∃t,u=Value.int i t from r);cases e;rfl
 |str x=>obtain⟨t,e⟩:=(show ∃t,u=Value.str x t from r);cases e;rfl
 |zS b=>obtain⟨t,e⟩:=(show ∃t,u=Value.bytes b t from r);cases e;rfl
 |K4 b=>obtain⟨t,e⟩:=(show ∃t,u=Value.float b t from r);cases e;rfl
 |ref a=>cases(show u=Value.ref a from r);rfl
 |ty n=>cases(show u=Value.type n from r);rfl
section
variable {P:Program}{w:World}{H H':Hp}{h h':Heap}{a C dx:Addr}{fs tx:List (Str×V)}
theorem mT(b:lU P w H h)(e:H a=some (.ins C dx fs)):∃mA,yG h a dx C mA/\(∀f,lD (fs.lookup f) (mA f))/\PySem.Within mA (fs.map (·.1))/\fs.length<=1000/\H dx=some (.own a):=by
 obtain⟨d,z,c,f,mA,n,r,q⟩:=(show cF P w H h a (.ins C dx fs) from b a _ e)
 calc⟨mA,⟨f,n,c⟩,r,q,z,d⟩
end
structure sj(K:W.Frag)(C:Addr):Prop where
 pg:W.plainGet K C Str.empty=true
 hd:W.hasDictIn K C=true
 po:W.plainOver K C=true
 sa:W.findIn K (.ref C) "__setattr__"=some (some (.builtin "object.__setattr__"))
theorem sj.get{K:W.Frag}(c:sj K C)(f:Str):W.plainGet K C f=true:=c.pg
def cm(K:W.Frag)(C:Addr)(f:Str):Prop:=W.findIn K (.ref C) f=some none
theorem cm.RI{K:W.Frag}{f:Str}(n:cm K C f):W.takerIn K C f=some none:=by
 unfold W.takerIn;rw[show W.findIn K (.ref C) f=some none from n];rfl
structure Meth(K:W.Frag)(C:Addr)(m:Str)(f:Addr):Prop where
 at_:W.findIn K (.ref C) m=some (some (.ref f))
 fn:W.isFn K (.ref f)=true
 kp:W.keepIn K (.ref f)=true
section
variable {X:Cx}{pins:List (Addr×Obj)}{σ:St}{H:Hp}{s:Shared}{a C dx:Addr}{fs:List (Str×V)}{f:Str}{v:V}{A:Around}{E:Value->Shared->Prop}
theorem yH{b:Bool}(I:Inv X pins σ H s)(e:H a=some (.ins C dx fs))(c:sj X.K C)(n:cm X.K C f)(l:fs.lookup f=some v)
  (h:∀u s',Inv X pins σ H s'->RelV v u->Q u s'):wpAny (model X.prog X.w) A (getAttr (.ref a) f b) Q E s:=by
 obtain⟨mA,O,r,_,_,_⟩:=mT I.aU e;obtain⟨u,d,b⟩:=lD.some_of (v:=v) (o:=mA f) (by rw[<-l];calc r f);calc get_map I.j1 O (c.get f) c.hd n d (B3 b) (h u _ (I.tok _) b)
theorem qB{m:Str}{g:Addr}{pl:Sem Bool}{Q:Value×List Value->Shared->Prop}(I:Inv X pins σ H s)(e:H a=some (.ins C dx fs))(c:sj X.K C)(k:Meth X.K C m g)(l:fs.lookup m=none)
  (h:Q (.ref g,[.ref a]) s):wpAny (model X.prog X.w) A (getMethod (.ref a) m pl) Q E s:=by
 obtain⟨mA,O,r,_,_,_⟩:=mT I.aU e;have b:mA m=none:=lD.none_of (by rw[<-l];calc r m);calc Ec I.j1 O (c.get m) k.at_ k.fn b h
theorem yI{y:V}{u:Value}{Q:Unit->Shared->Prop}(I:Inv X pins σ H s)(e:H a=some (.ins C dx fs))(c:sj X.K C)(n:cm X.K C f)(b:fs.length<1000)(k:RelV y u)
  (h:∀s',Inv X pins σ (upd H a (.ins C dx (bG f y fs))) s'->Q ⟨⟩ s'):wpAny (model X.prog X.w) A (setAttr (.ref a) f u) Q E s:=by
 obtain⟨mA,O,r,i,_,j⟩:=mT I.aU e;have b:(fs.map (·.1)).length<=sizeLine:=by rw[R',sizeLine_eq];lia
 calc Jh I.j1 O c.sa c.po n.RI c.hd i b λg d l=>h _ ?_;have hd:∃o,g.get? dx=some o:=let ⟨o,_,_,b,_⟩:=d.ns;⟨o,b⟩
 calc I.write (x:=a) (e:=dx) (by rw[e];calc aaP) (.inr j) (λb q c z=>(l.2 b c).trans z) hd ?_;refine⟨by rw[ax O.ne];calc j,?_,O.ne,d.obj,_,d.ns,λg=>?_,λg b=>?_⟩
 ·have:=kd f y fs;lia
 ·show lD ((bG f y fs).lookup g) (if g=f then some u else mA g);rw[aX];by_cases q:g=f
  ·rw[if_pos q,if_pos q];exact k
  ·rw[if_neg q,if_neg q];exact r g
 ·by_cases q:g=f
  ·rw[q];exact(oa f y fs).1
  ·calc(oa f y fs).2 g (i g λz=>b ?_);show(if g=f then some u else mA g)=none;rw[if_neg q];calc z
theorem Inv.made(I:Inv X pins σ H s):Inv X pins σ (upd (upd H s.heap.objs.size (.own (s.heap.objs.size+1))) (s.heap.objs.size+1) (.ins C s.heap.objs.size []))
  {s with heap:=(s.heap.push W.emptyDict).push (W.instObj C s.heap.objs.size)}:=by
 have c:(s.heap.push W.emptyDict).get? s.heap.objs.size=some W.emptyDict:=aah s.heap rfl;have d:((s.heap.push W.emptyDict).push (W.instObj C s.heap.objs.size)).get? (s.heap.objs.size+1)=some (W.instObj C s.heap.objs.size):=by
  have:=aah (s.heap.push W.emptyDict) (o:=W.instObj C s.heap.objs.size) rfl;rwa [aaG]at this
 have f:(s.heap.push W.emptyDict).Ns s.heap.objs.size (λ_=>none):=⟨W.emptyDict,#[],_,c,rfl,(λe b=>absurd b nofun),λ_=>rfl⟩
 have e:=I.laid (a:=s.heap.objs.size) (o:=.own (s.heap.objs.size+1)) (h':=s.heap.push W.emptyDict) (t':=s.toks) (λb u q=>K' _ q) (J' _) ⟨_,c⟩;calc e.laid (a:=s.heap.objs.size+1) (o:=.ins C s.heap.objs.size []) (t':=s.toks) (λb u q=>K' _ q) (Nat.le_of_eq (aaG _ _)) ?_;have b:s.heap.objs.size≠s.heap.objs.size+1:=aay (Nat.lt_succ_self _);calc⟨by rw[ax b,ab],aav _,b,d,λ_=>none,(Heap.Ns1.of_empty f).at λo q=>K' _ q,λ_=>aaP,λy b=>absurd rfl b⟩
theorem Ji{prog:Program}{w:World}{env:Env}{e:Expr}{f:Str}{b:Pos}{s:Shared}(c:attributeBase e f env (eval e env)=eval e env)
  (h:wpAny (model prog w) A (eval e env) (λo a=>wpAny (model prog w) A (getAttr o f true) Q E a) E s):wpAny (model prog w) A (eval (.Attribute e f b) env) Q E s:=
 Attribute_any_ h (by rw[arm_eval_Attribute,c])
end
def Jj(K:W.Frag)(a:TE)(f:Str):TE:=λσ H Q=>a σ H λx b=>∃a C d c v,x=.ref a/\b a=some (.ins C d c)/\sj K C/\cm K C f/\c.lookup f=some v/\Q v b
def Nf(K:W.Frag)(a b:TE)(f:Str):TS:=λD σ H=>b σ H λy d=>a σ d λx c=>∃a C d b,x=.ref a/\c a=some (.ins C d b)/\sj K C/\cm K C f/\b.length<1000/\
 D.nx σ (upd c a (.ins C d (bG f y b)))
section
variable {X:Cx}{o e value:Expr}{f:Str}{pos pos' Ng:Pos}{ta tv:TE}
theorem bJ(b:PE X e ta)(d:attributeBase e f X.env (eval e X.env)=eval e X.env):PE X (.Attribute e f pos) (Jj X.K ta f):=by
 walk_at "xc";refine Ji d (c9 (b pins s σ H _ I h) λu p g=>?_);obtain⟨x,i,j,k,a,C,b,d,v,m,o,c,n,l,q⟩:=g;subst m;obtain rfl:u=Value.ref a:=k;exact yH j o c n l λd g a b=>⟨v,i,a,b,q⟩
theorem fg(b:PE X o ta)(d:PE X value tv)(e:swapsWith value (some (.Attribute o f pos')) pos.line X.env=pure false):PS X (.Assign [.Attribute o f pos'] value pos) (Nf X.K ta tv f):=by
 walk_at "xd";refine plainObj_wpAny_Assign_Attribute (c9 (d pins s σ H _ I h) λu g ⟨y,i,j,k,q⟩=>c9 (b pins g σ i _ j q) λm d p=>?_) e;obtain⟨x,b,r,t,a,C,d,g,v,w,c,n,l,z⟩:=p;subst v;obtain rfl:m=Value.ref a:=t;exact yI r w c n l k λb a=>⟨σ,_,a,z⟩
end
section
variable {X:Cx}{pins:List (Addr×Obj)}{σ:St}{H:Hp}{s:Shared}{A:Around}{E:Value->Shared->Prop}{Q:Value->Shared->Prop}{c:Value}{b:Bool}
inductive gm(K:W.Frag)(H:Hp):V->Value->Prop where
  |bH:gm K H .bH (.type "NoneType")
  |bl (x:Bool):gm K H (.bl x) (.type "bool")
  |int (i:Int):gm K H (.int i) (.type "int")
  |str (x:Str):gm K H (.str x) (.type "str")
  |K4 (x:UInt64):gm K H (.K4 x) (.type "float")
  |lst {a:Addr} {xs:List V} (e:H a=some (.lst xs)):gm K H (.ref a) (.type "list")
  |yj {a:Addr} {o:Obj} {xs:List V} (e:H a=some (.yj o (.lst xs))):gm K H (.ref a) (.type "list")
  |tup {a:Addr} {xs:List V} (e:H a=some (.tup xs)):gm K H (.ref a) (.type "tuple")
  |dK {a:Addr} {aW:List (Key×V)} (e:H a=some (.dK aW)):gm K H (.ref a) (.type "dict")
  |dT {a:Addr} {aW:List (List Key×V)} (e:H a=some (.dT aW)):gm K H (.ref a) (.type "dict")
  | ins {a C dx:Addr} {fs:List (Str×V)} (e:H a=some (.ins C dx fs)) (cl:sj K C) (ha:W.findIn K (.ref C) "__class__"=some (some (.builtin "object.__class__")))
      (hn:W.specialIn K (.builtin "object.__class__") "__get__"=some (some (.builtin "getset_descriptor.__get__"))) (V2:W.takesIn K (.builtin "object.__class__")=some true)
      (hm:W.mroIn K C (.type "object")=some true):gm K H (.ref a) (.ref C)
theorem tJ{x:V}{u t:Value}(I:Inv X pins σ H s)(d:RelV x u)(r:gm X.K H x t)(e:W.kitOne X.K t c=some b)(h:∀v,Q (.bool b) {s with toks:=v}):
  wpAny (model X.prog X.w) A (call (.builtin "isinstance") [u,c]) Q E s:=by
 cases r with
 |bH=>cases(show u=Value.none from d);calc W.kia_one W.kitx_none I.j1 aaP e (λz=>nomatch z) h
 |bl y=>cases(show u=Value.bool y from d);calc W.kia_one W.kitx_bool I.j1 aaP e (λz=>nomatch z) h
 |int i=>obtain⟨t,q⟩:=(show ∃t,u=Value.int i t from d);cases q;calc W.kia_one W.kitx_int I.j1 aaP e (λz=>nomatch z) h
 |str y=>obtain⟨t,q⟩:=(show ∃t,u=Value.str y t from d);cases q;calc W.kia_one W.kitx_str I.j1 aaP e (λz=>nomatch z) h
 |K4 y=>obtain⟨t,q⟩:=(show ∃t,u=Value.float y t from d);cases q;calc W.kia_one W.kitx_float I.j1 aaP e (λz=>nomatch z) h
 | @lst a j f=>
  cases(show u=Value.ref a from d);obtain⟨_,_,n,_,g⟩:=(show cF X.prog X.w H s.heap a (.lst j) from I.aU a _ f)
  calc W.kia_one W.kitx_list I.j1 ⟨_,g,rfl⟩ e (λz=>nomatch z) h
 | @yj a B j f=>
  cases(show u=Value.ref a from d);obtain⟨_,_,_,n,_,g⟩:=(show cF X.prog X.w H s.heap a (.yj B (.lst j)) from I.aU a _ f)
  calc W.kia_one W.kitx_list I.j1 ⟨_,g,rfl⟩ e (λz=>nomatch z) h
 | @tup a j f=>
  cases(show u=Value.ref a from d);obtain⟨_,_,_,p⟩:=(show cF X.prog X.w H s.heap a (.tup j) from I.aU a _ f)
  obtain⟨o,g,k,_⟩:=p;calc W.kia_one W.kitx_tuple I.j1 ⟨o,g,k⟩ e (λz=>nomatch z) h
 | @dK a l f=>
  cases(show u=Value.ref a from d);obtain⟨_,_,i,_,p⟩:=(show cF X.prog X.w H s.heap a (.dK l) from I.aU a _ f)
  obtain⟨o,D,F,g,k,_⟩:=p;calc W.kia_one W.kitx_dict I.j1 ⟨o,g,k.1⟩ e (λz=>nomatch z) h
 | @dT a l f=>
  cases(show u=Value.ref a from d);obtain⟨_,_,j,_,o,D,F,g,k,_⟩:=(show cF X.prog X.w H s.heap a (.dT l) from I.aU a _ f)
  calc W.kia_one W.kitx_dict I.j1 ⟨o,g,k.1⟩ e (λz=>nomatch z) h
 | @ins a C g i f m G L M N=>
  cases(show u=Value.ref a from d);obtain⟨mA,O,_⟩:=mT I.aU f;obtain⟨a,J,_⟩:=O.look;calc W.kia_one (W.kitx_own (m.get _) m.hd G L M N) I.j1 J e (λz=>nomatch z) h
end
end
section
variable {A:Around}{base:Heap}{H:Hp}{kw:List (Str×Value)}{us:List Value}{s:Shared}{mg:Str->Option Value}{K:W.Frag}
structure eR(k:Nat)(A:Around):Prop where
 hd:A.handled=none
 dp:A.depth+3*k+5<recursionLimit
 un:A.units+16*k+200<cLine
theorem eR.mono{j k:Nat}(r:eR k A)(h:j<=k):eR j A:=⟨r.hd,by have:=r.dp;lia,by have:=r.un;lia⟩
theorem eR.deeper{k:Nat}(r:eR (k+1) A)(env:Env):eR k (A.deeper env):=
 ⟨r.hd,by have:=r.dp;show A.depth+1+3*k+5<_;lia,by have:=r.un;show A.units+3+16*k+200<_;lia⟩
theorem yJ{C:Addr}:(A.under (.builtin "type.__call__" ⟨.ref C::us,kw⟩)).depth=A.depth+1:=by
 first|rfl|simp[Around.under,Code.weight,Code.isCreation,Code.isGuard,Code.isCaller,Code.frames,Code.isFrame,guardIds]
theorem yK{C:Addr}:(A.under (.builtin "type.__call__" ⟨.ref C::us,kw⟩)).units=A.units+1:=by
 first|rfl|simp[Around.under,Code.cUnits,Code.frames,Code.isFrame]
theorem eR.make{k:Nat}(r:eR (k+1) A)(C:Addr)(us:List Value)(kw:List (Str×Value)):eR k (A.under (.builtin "type.__call__" ⟨.ref C::us,kw⟩)):=
 ⟨r.hd,by have:=r.dp;rw[yJ];lia,by have:=r.un;rw[yK];lia⟩
theorem eR.depth{k:Nat}(r:eR k A):A.depth<recursionLimit:=by have:=r.dp;lia
theorem eR.units{k:Nat}(r:eR k A):A.units+64<cLine:=by have:=r.un;lia
def Ee:TA:=λ_ H Q=>Q [] H
def Af(a:TE)(b:TA):TA:=λσ H Q=>a σ H λx c=>b σ c λxs a=>Q (x::xs) a
section
variable {X:Cx}{e:Expr}{es:List Expr}{te:TE}{t:TA}{pos:Pos}
theorem aa:PA X [] Ee:=.mk λ_ _ _ _ H Q I h=>Calls.spliced_nil ⟨[],H,I,.nil,h⟩
theorem Jk(b:PE X e te)(c:PA X es t)(d:starEach (e::es) X.env=(false,eval e X.env)::starEach es X.env:=by rfl):PA X (e::es) (Af te t):=by
 calc⟨?_⟩;intro pos a s σ H Q I h;rw[d];show wpAny _ _ (spliced ((false,eval e X.env)::backTo pos (starEach es X.env))) _ _ s;calc Calls.spliced_cons (c9 (b a s σ H _ I h) λu f g=>?_);obtain⟨x,b,d,h,i⟩:=g;calc c9 (c pos a f σ b _ d i) λus o ⟨j,k,l,m,n⟩=>⟨x::j,k,l,.cons h m,n⟩
def Nh(t:TA):TE:=λσ H Q=>t σ H λxs a=>xs.length<=sizeLine/\∀p,a p=none->Q (.ref p) (upd a p (.tup xs))
def Ni(t:TA):TE:=λσ H Q=>t σ H λxs a=>xs.length<=sizeLine/\∀p,a p=none->Q (.ref p) (upd a p (.lst xs))
theorem bu{a}(h:PA X es t):PE X (.Tuple es a pos) (Nh t):=by
 calc⟨?_⟩;intro a s σ H Q I f;calc wpAny_Tuple_spliced (c9 (h pos a s σ H _ I f) λus c ⟨g,b,d,r,z,q⟩=>⟨by rw[<-r.length];calc z,?_⟩);have a:b c.heap.objs.size=none:=d.aU.fresh (J' _);calc⟨.ref c.heap.objs.size,upd b c.heap.objs.size (.tup g),d.laid (t':=c.toks) (λb u e=>K' _ e) (J' _) ?_,rfl,q _ a⟩;calc⟨z,us,r,⟨_,aah _ rfl,rfl,_,rfl⟩⟩
theorem bF(h:PA X es t):PE X (.List es pos) (Ni t):=by
 calc⟨?_⟩;intro a s σ H Q I f;calc wpAny_List_spliced (c9 (h pos a s σ H _ I f) λus c ⟨g,b,d,r,z,q⟩=>⟨by rw[<-r.length];calc z,?_⟩);have a:b c.heap.objs.size=none:=d.aU.fresh (J' _);calc⟨.ref c.heap.objs.size,upd b c.heap.objs.size (.lst g),d.laid (t':=c.toks) (λb u e=>K' _ e) (J' _) ?_,rfl,q _ a⟩;calc⟨z,us,0,r,aah _ rfl⟩
end
abbrev Sp:=List V->Hp->VK->XK->Prop
abbrev Ik:=List Env->Hp->Shared->XK->Value->Shared->Prop
structure yL(P:Program)(w:World)(K:W.Frag)(mg:Str->Option Value)(base:Heap)(A:Around)(outer:List Env)(s:Shared)(H:Hp):Prop where
 frames:A.frames=some outer
 mod:Mod K mg base
 bs:∀b o,base.get? b=some o->s.heap.get? b=some o/\H b=none
 DJ:base.objs.size<=s.heap.objs.size
 nW:s.heap.FunFrames base outer
 K5:∀b∈BR outer,H b=none
 aU:lU P w H s.heap
 bare:AllBare s.gens
def CE(outer:List Env)(P:Program)(w:World)(H:Hp)(s:Shared)(Q:VK)(u:Value)(s':Shared):Prop:=
 ∃v a,s'.os=s.os/\AllBare s'.gens/\Un (BR outer) [] H a s.heap s'.heap/\lU P w a s'.heap/\RelV v u/\Q v a
def CR(CX:Ik)(outer:List Env)(P:Program)(w:World)(H:Hp)(s:Shared)(Q:VK)(E:XK)(r:Result)(s':Shared):Prop:=
 match r with
 | .ok (.ret u)=>CE outer P w H s Q u s'
 | .ok _=>False
 | .error e=>CX outer H s E e s'
structure lG(P:Program)(w:World)(K:W.Frag)(mg:Str->Option Value)(base:Heap)(CX:Ik)(k:Nat)(f:Addr)(fd:FuncData)(ps:List Str)(sp:Sp):Prop where
 len:∀vs H Q E,sp vs H Q E->vs.length=ps.length
 run:∀(A:Around) (outer:List Env) (s:Shared) (H:Hp) (args:Args) (us:List Value) (vs:List V) (Q:VK) (E:XK),eR k A->yL P w K mg base A outer s H->BindsTo s fd args (ps.zip us)->Vals vs us->sp vs H Q E->
  codeAny (model P w) A (.call (.ref f) args) (CR CX outer P w H s Q E) s
theorem yL.make{P:Program}{w:World}{outer:List Env}(e:yL P w K mg base A outer s H)(C:Addr)(us:List Value)(kw:List (Str×Value)):
  yL P w K mg base (A.under (.builtin "type.__call__" ⟨.ref C::us,kw⟩)) outer s H:=⟨by first|exact e.frames|(simpa[Around.under,Code.envs,Code.isFrame,pushEnvs] using e.frames),e.mod,e.bs,e.DJ,e.nW,e.K5,e.aU,e.bare⟩
section
variable {X:Cx}{pins:List (Addr×Obj)}{σ:St}{H:Hp}{s s':Shared}
theorem Inv.RJ(I:Inv X pins σ H s):yL X.prog X.w X.K X.mg X.base X.A X.stack s H:=
 ⟨I.ok.frames,I.ok.mod,I.bs,aaB I.ok.DJ I.sz,I.stack,I.zU,I.aU,I.bare⟩
theorem Inv.after{Q:VK}{u:Value}(I:Inv X pins σ H s)(h:CE X.stack X.prog X.w H s Q u s'):EP X pins σ Q u s':=by
 obtain⟨v,c,os,a,e,f,r,q⟩:=h;obtain⟨i,g,d,t,b⟩:=s';obtain rfl:b=s.os:=os;calc⟨v,c,I.call (h':=i) (g':=g) (d':=d) (t':=t) (ch:=[]) e f a (λb z=>absurd z nofun),r,q⟩
end
def wm(sp:Sp)(a:List V)(E:XK)(t:TA):TE:=λσ H Q=>t σ H λvs b=>sp (vs++a) b Q E
def tK(C:Addr)(m:Str)(sp:Sp)(d:List V)(E:XK)(a:TE)(t:TA):TE:=λσ H Q=>a σ H λx b=>∃a e c,x=.ref a/\b a=some (.ins C e c)/\c.lookup m=none/\
 t σ b λvs a=>sp (x::(vs++d)) a Q E
def Ag(C:Addr)(sp:Sp)(c:List V)(E:XK)(t:TA):TE:=λσ H Q=>t σ H λvs b=>∀x a,b x=none->b a=none->a≠x->
 sp (.ref x::(vs++c)) (upd (upd b a (.own x)) x (.ins C a [])) (λv d=>v=.bH/\Q (.ref x) d) E
def Binds(K:W.Frag)(c:FuncData)(a:List Str)(b:List Value):Prop:=
 ∀(s:Shared) (us:List Value),K.In s.heap->(us++b).length=a.length->BindsTo s c ⟨us,[]⟩ (a.zip (us++b))
theorem Binds.all{b:FuncData}{a:List Str}(h:∀us:List Value,us.length=a.length->bindArgs b ⟨us,[]⟩=pure (a.zip us)):Binds K b a []:=λs us _ a=>by
 rw[Y']at a ⊢;calc .of_eq (h us a)
def Passes(CX:Ik)(X:Cx)(E:XK):Prop:=∀(pins:List (Addr×Obj)) (σ:St) (H:Hp) (s:Shared) (e:Value) (s':Shared),Inv X pins σ H s->CX X.stack H s E e s'->X.xe e s'
section
variable {X:Cx}{CX:Ik}{k:Nat}{f C:Addr}{fd:FuncData}{ps:List Str}{sp:Sp}{sk:List V}{ds:List Value}{E:XK}{x m:Str}{p pos apos:Pos}{e o:Expr}{es:List Expr}{ta:TE}{t:TA}
theorem yM{pins:List (Addr×Obj)}{σ:St}{H:Hp}{s:Shared}{Q:VK}{us:List Value}{vs:List V}(F:lG X.prog X.w X.K X.mg X.base CX k f fd ps sp)(c:eR k X.A)(d:Binds X.K fd ps ds)(g:Vals sk ds)(i:Passes CX X E)
  (I:Inv X pins σ H s) (r:Vals vs us) (h:sp (vs++sk) H Q E):wpAny (model X.prog X.w) X.A (call (.ref f) us) (EP X pins σ Q) X.xe s:=by
 have b:Vals (vs++sk) (us++ds):=r.append g;have j:(us++ds).length=ps.length:=by rw[<-b.length];exact F.len _ _ _ _ h
 refine wpAny_call (codeAny_mono (F.run X.A X.stack s H ⟨us,[]⟩ (us++ds) (vs++sk) Q E c I.RJ (d s us I.j1 j) b h) λr l a=>?_)
 cases r with
 |error e=>calc i pins σ H s e l I a
 |ok m=>
  cases m with
  |ret u=>calc I.after a
  |next=>calc aa2 a
  |brk=>calc aa2 a
  |cont=>calc aa2 a
theorem Jl(F:lG X.prog X.w X.K X.mg X.base CX k f fd ps sp)(b:eR k X.A)(a:Gl X x)(c:X.mg x=some (.ref f))(d:W.keepIn X.K (.ref f)=true)(g:Binds X.K fd ps ds)(i:Vals sk ds)(j:Passes CX X E)
  (l:PA X (e::es) t) (m:(x==("__debug__":Str))=false:=by decide) (n:starEach (e::es) X.env=(false,eval e X.env)::starEach es X.env:=by rfl) (o:(backTo pos (starEach es X.env)).any (·.1)=false:=by rfl):
  PE X (.Call (.Name x p) (e::es) [] pos) (wm sp sk E t):=by
 walk_at "xc";refine wpAny_Call_Name_kw (qe I a c ?_ m);refine W.callWith_K (h₀:=X.base) I.ok.mod.Qg d (c9 (l pos pins s σ H _ I h) λus c ⟨m,u,a,r,q⟩=>⟨a.j1,?_⟩) n o;exact yM F b g i j a r q
theorem Jm{pl:Sem Bool}(i:PE X o ta)(c:sj X.K C)(b:Meth X.K C m f)(F:lG X.prog X.w X.K X.mg X.base CX k f fd ps sp)(j:eR k X.A)(n:Binds X.K fd ps ds)(p:Vals sk ds)(v:Passes CX X E)(y:PA X (e::es) t)
  (z:starEach (e::es) X.env=(false,eval e X.env)::starEach es X.env:=by rfl) (B:(backTo pos (starEach es X.env)).any (·.1)=false:=by rfl)
  (r:eval (.Call (.Attribute o m apos) (e::es) [] pos) X.env=(do
   let d <-eval o X.env
   standAt apos.atName
   let (f,first) <-holding [d] (getMethod d m pl)
   callWith pos f first (backTo pos (starEach (e::es) X.env)) (backToKw pos (keywordEach [] X.env))):=by rfl):
  PE X (.Call (.Attribute o m apos) (e::es) [] pos) (tK C m sp sk E ta t):=by
 walk_at "xc";refine W.methodCall_KW (pl:=pl) (c9 (i pins s σ H _ I h) λu D G=>?_) r;obtain⟨x,J,g,L,a,d,i,M,N,l,q⟩:=G;subst M;obtain rfl:u=Value.ref a:=L;refine qB g N c b l ?_;refine W.callWith_K (first:=[.ref a]) (h₀:=X.base) I.ok.mod.Qg b.kp (c9 (y pos pins D σ J _ g q) λus l ⟨c,u,d,r,i⟩=>⟨d.j1,?_⟩) z B;exact yM (us:=.ref a::us) (vs:=.ref a::c) F j n p v d (.cons rfl r) i
theorem Ef{pl:Sem Bool}(g:PE X o ta)(c:sj X.K C)(d:Meth X.K C m f)(F:lG X.prog X.w X.K X.mg X.base CX k f fd ps sp)(i:eR k X.A)(j:Binds X.K fd ps ds)(n:Vals sk ds)(p:Passes CX X E)
  (r:eval (.Call (.Attribute o m apos) [] [] pos) X.env=(do
   let e <-eval o X.env
   standAt apos.atName
   let (f,first) <-holding [e] (getMethod e m pl)
   callWith pos f first (backTo pos (starEach [] X.env)) (backToKw pos (keywordEach [] X.env))):=by rfl):
  PE X (.Call (.Attribute o m apos) [] [] pos) (tK C m sp sk E ta Ee):=by
 walk_at "xc";refine W.methodCall_KW (pl:=pl) (c9 (g pins s σ H _ I h) λu e t=>?_) r;obtain⟨x,e,b,v,a,g,B,y,z,l,q⟩:=t;subst y;obtain rfl:u=Value.ref a:=v;refine qB b z c d l ?_;exact W.callWith_K0 (first:=[.ref a]) b.j1 d.kp (yM (us:=[.ref a]) (vs:=[.ref a]) F i j n p b (.cons rfl .nil) q)
structure Mk(K:W.Frag)(C f:Addr):Prop where
 makes:W.makesIn K C=true
 init:W.findIn K (.ref C) "__init__"=some (some (.ref f))
 fn:W.isFn K (.ref f)=true
 kp:W.keepIn K (.ref C)=true
theorem Eg{pins:List (Addr×Obj)}{σ:St}{Q:VK}{vs:List V}(M:Mk X.K C f)(F:lG X.prog X.w X.K X.mg X.base CX k f fd ps sp)(hr:eR (k+1) X.A)(g:Binds X.K fd ps ds)(i:Vals sk ds)
  (j:Passes CX X E) (I:Inv X pins σ H s) (r:Vals vs us)
  (h:∀x b,H x=none->H b=none->b≠x->sp (.ref x::(vs++sk)) (upd (upd H b (.own x)) x (.ins C b [])) (λv d=>v=.bH/\Q (.ref x) d) E):
  wpAny (model X.prog X.w) X.A (call (.ref C) us) (EP X pins σ Q) X.xe s:=by
 have b:=h (s.heap.objs.size+1) s.heap.objs.size (I.aU.fresh (Nat.le_succ _)) (I.aU.fresh (J' _)) (aay (Nat.lt_succ_self _));have c:=Inv.made (C:=C) I;have d:Vals (V.ref (s.heap.objs.size+1)::(vs++sk)) (Value.ref (s.heap.objs.size+1)::(us++ds)):=.cons rfl (r.append i);have l:(Value.ref (s.heap.objs.size+1)::us++ds).length=ps.length:=by
  have e:=d.length;rw[F.len _ _ _ _ b]at e;exact e.symm
 refine wpAny_call (Ed (f:=f) I.j1 M.makes M.init (beq_iff_eq.mp M.fn) (codeAny_mono (F.run _ X.stack _ _ ⟨Value.ref (s.heap.objs.size + 1)::us,[]⟩ (Value.ref (s.heap.objs.size + 1)::(us++ds)) _ _ E (hr.make C us [])
  (c.RJ.make C us []) (g _ (Value.ref (s.heap.objs.size + 1)::us) c.j1 l) d b) λr m a=>?_))
 cases r with
 |error e=>calc j pins σ _ _ e m c a
 |ok n=>
  cases n with
  |ret u=>
   obtain⟨v,o,p,q,t,y⟩:=c.after a;subst t;calc⟨q,⟨V.ref (s.heap.objs.size+1),o,p,rfl,y⟩⟩
  |next=>calc aa2 a
  |brk=>calc aa2 a
  |cont=>calc aa2 a
theorem Jn(M:Mk X.K C f)(F:lG X.prog X.w X.K X.mg X.base CX k f fd ps sp)(b:eR (k+1) X.A)(a:Gl X x)(c:X.mg x=some (.ref C))(d:Binds X.K fd ps ds)(g:Vals sk ds)(i:Passes CX X E)
  (j:PA X (e::es) t) (l:(x==("__debug__":Str))=false:=by decide) (m:starEach (e::es) X.env=(false,eval e X.env)::starEach es X.env:=by rfl) (n:(backTo pos (starEach es X.env)).any (·.1)=false:=by rfl):
  PE X (.Call (.Name x p) (e::es) [] pos) (Ag C sp sk E t):=by
 walk_at "xc";refine wpAny_Call_Name_kw (qe I a c ?_ l);refine W.callWith_K (h₀:=X.base) I.ok.mod.Qg M.kp (c9 (j pos pins s σ H _ I h) λus c ⟨l,o,a,r,q⟩=>⟨a.j1,?_⟩) m n;exact Eg M F b d g i a r q
end
structure aC(N P:List Str)(sc:Scope):Prop where
 kind:sc.kind=.function
 co:sc.isCoroutine=false
 gen:sc.isGenerator=false
 nd:N.Nodup
 pre:N.take P.length=P
 par:∀x∈P,sc.names.lookup x=some .local\/sc.names.lookup x=some .cell
 Nj:∀y∈sc.names,y.2≠.free
theorem tL{b:Str->Option NameKind}{x:Str}:∀{a:List (Str×Value)}{m:Str->Option Value},(∀v,(x,v)∉a)->bindL b a m x=m x
 | [],_,_=>rfl
 |(n,v)::r,m,h=>by
  unfold bindL;rw[tL λw c=>h w (aao _ c)];split
  ·have:x≠n:=by rintro rfl;exact h v aaE
   simp[this]
  ·rfl
theorem tM{b:Str->Option NameKind}{x:Str}:∀{a:List (Str×Value)}{m:Str->Option Value},(∀v,(x,v)∉a)->bindC b a m x=m x
 | [],_,_=>rfl
 |(n,v)::r,m,h=>by
  unfold bindC;rw[tM λw c=>h w (aao _ c)];split
  ·rfl
  ·have:x≠n:=by rintro rfl;exact h v aaE
   simp[this]
theorem tN{a:Str->Option NameKind}{x:Str}{v:Value}:∀{P:List Str}{vs:List Value}{i:Nat}{m:Str->Option Value},P.Nodup->P[i]?=some x->vs[i]?=some v->a x=some .local->
  bindL a (P.zip vs) m x=some v
 | [],_,_,_,_,h,_,_=>by simp at h
 |_::_,[],_,_,_,_,h,_=>by simp at h
 |p::P,w::vs,0,m,d,b,c,e=>by
  simp at b c;subst b;subst c;show bindL a ((p,w)::P.zip vs) m p=_;unfold bindL;rw[tL λv f=>(List.nodup_cons.mp d).1 (List.of_mem_zip f).1,if_pos e];simp
 |p::P,w::vs,i+1,m,d,b,c,e=>by
  show bindL a ((p,w)::P.zip vs) m x=_;unfold bindL;calc tN (i:=i) (List.nodup_cons.mp d).2 (by simpa using b) (by simpa using c) e
theorem tO{a:Str->Option NameKind}{x:Str}{v:Value}:∀{P:List Str}{vs:List Value}{i:Nat}{m:Str->Option Value},P.Nodup->P[i]?=some x->vs[i]?=some v->a x≠some .local->
  bindC a (P.zip vs) m x=some v
 | [],_,_,_,_,h,_,_=>by simp at h
 |_::_,[],_,_,_,_,h,_=>by simp at h
 |p::P,w::vs,0,m,d,b,c,e=>by
  simp at b c;subst b;subst c;show bindC a ((p,w)::P.zip vs) m p=_;unfold bindC;rw[tM λv f=>(List.nodup_cons.mp d).1 (List.of_mem_zip f).1,if_neg e];simp
 |p::P,w::vs,i+1,m,d,b,c,e=>by
  show bindC a ((p,w)::P.zip vs) m x=_;unfold bindC;calc tO (i:=i) (List.nodup_cons.mp d).2 (by simpa using b) (by simpa using c) e
def start(N:List Str)(vs:List V):St:=vs.map some++List.replicate (N.length-vs.length) none
def qC(CX:Ik)(P:Program)(w:World)(K:W.Frag)(mg:Str->Option Value)(base:Heap)(N:List Str)(qual:Str)(scope:Scope)(f:Addr)(a:Value)(A:Around)(outer:List Env)(s:Shared)(H:Hp)(E:XK):Cx where
 prog:=P
 w:=w
 K:=K
 mg:=mg
 base:=base
 A:=A.deeper (envOfC qual scope s.heap.objs.size f a)
 N:=N
 s₀:=s
 H₀:=H
 env:=envOfC qual scope s.heap.objs.size f a
 outer:=outer
 stack:=envOfC qual scope s.heap.objs.size f a::outer
 ex:=[]
 calm:=true
 fn:=λ_=>true
 pn:=[]
 xe:=λe s'=>wpAny (model P w) (A.deeper (envOfC qual scope s.heap.objs.size f a)) (leaving (envOfC qual scope s.heap.objs.size f a) e) (λ_ b=>CX outer H s E e b) (λa b=>CX outer H s E a b) s'
theorem qD{sc:Scope}{n:Nat}{x:Str}(h:sc.names.lookup x=some .cell):∃c,(cellsFrom n sc.names []).lookup x=some c:=by
 have q:=W.cellsFrom_some sc.names n [] (.inl h);calc Option.isSome_iff_exists.mp q
theorem B4{CX:Ik}{P:Program}{w:World}{N j:List Str}{qual:Str}{scope:Scope}{f:Addr}{k:Value}{outer:List Env}{b:Shared}{E:XK}{vs:List V}
  (S:aC N j scope) (C:A.handled=none) (g:yL P w K mg base A outer s H) (p:vs.length=j.length) (r:Vals vs us)
  (x:InCallC s s.heap.objs.size (bindL (envOfC qual scope s.heap.objs.size f k).kindOf (j.zip us) λ_=>none) (cellsFrom (s.heap.objs.size+1) scope.names []) (bindC (envOfC qual scope s.heap.objs.size f k).kindOf (j.zip us) λ_=>none) b):
  Inv (qC CX P w K mg base N qual scope f k A outer s H E) [] (start N vs) H b:=by
 have b:j.length<=N.length:=by have:=congrArg List.length S.pre;rw[aap]at this;lia
 obtain⟨o,z,rfl,t⟩:=x.done;have p:∀b:Addr,b ∉ (qC CX P w K mg base N qual scope f k A outer s H E).ex:=λb z=>absurd (show b ∈ ([]:List Addr) from z) nofun;refine⟨⟨g.mod,S.kind,rfl,rfl,J' _,λy z c o d=>?_,λy a=>?_,λy c _ h=>?_,λ_=>C,Around.frames_deeper g.frames,.inr ⟨rfl,rfl⟩,λb z=>absurd z (p b),g.bs,g.DJ,λb _ _=>p b,λb z=>absurd z (p b),g.nW,g.K5⟩,
  rfl,g.bare,Un.kept t,⟨_,x.toInCall.ns,λi y v o d b=>?_⟩,λy c h=>⟨_,x.cell y c h⟩,g.aU.fresh (J' _),λy c h=>?_,λp l=>absurd (show p ∈ ([]:List (Addr×Obj)) from l) nofun,g.aU.kept t,?_⟩
 ·exact name_of_addr x.apart (aat o) (aat d)
 ·have a:scope.names.lookup y=some .cell\/scope.names.lookup y=some .free:=a;rcases a with a | a
  ·exact qD a
  ·exact absurd rfl (S.Nj _ (aat a))
 ·exact L' (x.above y c (aat h))
 ·have q:i<vs.length:=by
   unfold start at d;by_cases q:i<vs.length
   ·exact q
   ·rw[P' (by simpa using q)]at d;rw[List.getElem?_replicate]at d;split at d<;>cases d
  have D:vs[i]?=some v:=by
   unfold start at d;rw[W' (by simpa using q),A']at d
   cases e:vs[i]? with
   |none=>rw[e]at d;cases d
   |some a=>rw[e]at d;cases d;rfl
  obtain⟨u,B,F⟩:=r.get D;have l:j[i]?=some y:=by
   rw[<-S.pre,List.getElem?_take_of_lt ()];exact o
  have m:j.Nodup:=by rw[<-S.pre];exact S.nd.sublist (List.take_sublist _ _)
  calc⟨u,F,?_⟩;rcases S.par y (aai l) with k|k
  ·exact .inl ⟨k,tN m l B k⟩
  ·obtain⟨c,e⟩:=qD (n:=s.heap.objs.size+1) k;calc .inr ⟨.inl k,c,e,?_⟩;have q:=x.cell y c e;rw[tO m l B (by show scope.names.lookup y≠_;rw[k];decide)]at q;exact q
 ·exact g.aU.fresh (L' (x.above y c (aat h)))
 ·unfold start;show _=N.length;rw[aac,R',List.length_replicate];lia
theorem RM{CX:Ik}{P:Program}{w:World}{k:Nat}{f:Addr}{name qual:Str}{a:Arguments}{b:List Stmt}{scope:Scope}{o kV i y g ct j:Value}{D I:Option Addr}
  {M:Array (Option Value)} {N p:List Str} {sp:Sp} (O:K.lookup f=some ⟨j,I,.func (W.fnOf name qual a b scope o kV i y D g ct),M⟩) (R:W.codeIn K g qual=true) (S:aC N p scope)
  (j:∀vs H Q E,sp vs H Q E->vs.length=p.length)
  (T:∀(A:Around) (outer:List Env) (s:Shared) (H:Hp) (vs:List V) (Q:VK) (E:XK),eR k (A.deeper (envOfC qual scope s.heap.objs.size f g))->sp vs H Q E->
   ∃t,vY (qC CX P w K mg base N qual scope f g A outer s H E) b t/\t {nx:=λ_ d=>Q .bH d,rt:=Q} (start N vs) H):
  lG P w K mg base CX (k+1) f (W.fnOf name qual a b scope o kV i y D g ct) p sp:=by
 calc⟨j,λA outer s H a us vs Q E z l U r F=>?_⟩;have X:=j _ _ _ _ F;have G:K.In s.heap:=l.mod.Qg.keeps λb o e=>(l.bs b o e).1;have B:s.heap.NoLimit:=l.mod.nolimit.keeps λb o e=>(l.bs b o e).1;have Y:∀y∈p.zip us,scope.names.lookup y.1=some .local\/(scope.names.lookup y.1=some .cell/\((cellsFrom (s.heap.objs.size+1) scope.names []).lookup y.1).isSome=true):=λ⟨n,v⟩ Z=>by
  rcases S.par n (List.of_mem_zip Z).1 with q|q
  ·exact .inl q
  ·exact .inr ⟨q,W.cellsFrom_some _ _ _ (.inl q)⟩
 calc codeAny_call_function z.depth (G _ _ O) rfl S.co S.gen rfl (W.codeRec_of G R) (U _ _ _ _ ?_);calc wpAny_newFunctionEnv_cells S.kind Y λa he L x=>?_;subst he;calc⟨B.keeps x.toInCall.keep,codeAny_func ?_⟩;obtain⟨t,b,i⟩:=T A outer s H vs Q E (z.deeper _) F;have I:Inv (qC CX P w K mg base N qual scope f g A outer s H E) [] (start N vs) H L:=B4 S z.hd l X r x;calc abg (b [] L (start N vs) H _ I i) (λfl a h=>?_) λe a h=>h;have m:∀{c:St} {d:Hp} {v:V} {u:Value},Inv (qC CX P w K mg base N qual scope f g A outer s H E) [] c d a->RelV v u->Q v d->CE outer P w H s Q u a:=
  λ{c d v u} J C q=>⟨v,d,J.os,J.bare,J.base,J.aU,C,q⟩
 cases fl with
 |ret u=>
  obtain⟨v,c,d,J,C,q⟩:=h;calc m J C q
 |next=>
  obtain⟨c,d,J,q⟩:=h;calc m (v:=V.bH) (u:=Value.none) J rfl q
 |brk=>
  obtain⟨_,_,_,q⟩:=h;calc aa2 q
 |cont=>
  obtain⟨_,_,_,q⟩:=h;calc aa2 q
end
section
section
variable {X:Cx}{x:Str}{p pos:Pos}{e:Expr}{es:List Expr}{t:TA}{id T:String}{r:List V->Hp->VK->Prop}
def Qj(r:List V->Hp->VK->Prop)(t:TA):TE:=λσ H Q=>t σ H λvs a=>r vs a Q
theorem Eh(a:eZ X (.builtin id) r)(b:Gl X x)(c:X.mg x=none)(d:bootBuiltins x=some (.builtin id))(f:PA X (e::es) t)(g:x≠"__name__":=by decide)(i:(x==("__debug__":Str))=false:=by decide)
  (j:starEach (e::es) X.env=(false,eval e X.env)::starEach es X.env:=by rfl) (k:(backTo pos (starEach es X.env)).any (·.1)=false:=by rfl):PE X (.Call (.Name x p) (e::es) [] pos) (Qj r t):=by
 walk_at "xc";refine wpAny_Call_Name_kw (nX I b c d ?_ g i);exact PyProof.Rows.callWith_builtin1 (c9 (f pos pins s σ H _ I h) λl m ⟨n,o,q,u,v⟩=>a pins m σ o n l Q q u v) j k
theorem B5(a:eZ X (.type T) r)(b:Gl X x)(c:X.mg x=none)(d:bootBuiltins x=some (.type T))(f:PA X (e::es) t)(g:x≠"__name__":=by decide)(i:(x==("__debug__":Str))=false:=by decide)
  (j:starEach (e::es) X.env=(false,eval e X.env)::starEach es X.env:=by rfl) (k:(backTo pos (starEach es X.env)).any (·.1)=false:=by rfl):PE X (.Call (.Name x p) (e::es) [] pos) (Qj r t):=by
 walk_at "xc";refine wpAny_Call_Name_kw (nX I b c d ?_ g i);exact PyProof.Rows.callWith_type1 (c9 (f pos pins s σ H _ I h) λl m ⟨n,o,q,u,v⟩=>a pins m σ o n l Q q u v) j k
end
end
end L2
namespace HT
open PySem PyProof.Rows
variable {Q:Value->Shared->Prop}
section
open PySem.SeqAt
open PySem.AutoSeq1 (wpAny_loadPart')
open PySem.MeetsSeq PySem.MeetsSeq2 PySem.MeetsSeq3
end
section
variable {prog:Program}{w:World}{A:Around}{E:Value->Shared->Prop}{s:Shared}
theorem Jo{t b:Addr}{vs ws:List Value}(p:IsTup s.heap t vs.toArray)(q:IsTup s.heap b ws.toArray)(f:vs≠[])
  (r:ws=[]->Q (.ref t) s) (u:ws≠[]->Q (.ref s.heap.objs.size) {s with heap:=s.heap.push {cls:=.type "tuple",data:=.seq (vs++ws).toArray}})
  (hsz:vs.length+ws.length<=sizeLine):wpAny (model prog w) A (binaryOp .Add (.ref t) (.ref b)) Q E s:=by
 obtain⟨⟨cls,g,data,h⟩,c,i,n,j⟩:=id p;obtain⟨⟨v,k,e,l⟩,d,m,o,a⟩:=id q;simp only at i j m a;subst i j m a;have e:vs.toArray++ws.toArray=(vs++ws).toArray:=by simp
 by_cases a:ws=[]
 ·exact concat_meets ⟨_,c,rfl⟩ ⟨_,d,rfl⟩ noFill_tuple_add seq_tuple_add PySem.F.slot_tuple_add PySem.F.entry_tuple_add (PySem.F.args_tuple_add_2 _ _)
   (tuple_addW1 t b vs.toArray ws.toArray n o g k h l (by simpa using f) (by simp[a])) ⟨c,d,r a⟩
 ·refine concat_meets ⟨_,c,rfl⟩ ⟨_,d,rfl⟩ noFill_tuple_add seq_tuple_add PySem.F.slot_tuple_add PySem.F.entry_tuple_add (PySem.F.args_tuple_add_2 _ _)
   (tuple_addW2 t b vs.toArray ws.toArray n o g k h l (by simpa using f) (by simpa using a) (by rw[aad,aad];calc hsz)) ⟨c,d,?_⟩
  rw[e];calc u a
def dY(n d:Nat):Option Int->Nat
 |none=>d
 |some v=>if v<0 then(v+(n:Int)).toNat else min v.toNat n
theorem wq(n d:Nat):dY n d none=d:=rfl
theorem qf(n d k:Nat):dY n d (some (k:Int))=min k n:=by
 show(if (k:Int)<0 then((k:Int)+(n:Int)).toNat else min (k:Int).toNat n)=min k n;rw[if_neg (),X']
theorem Nl(n d:Nat)(a:d<=n)(o:Option Int):dY n d o<=n:=by
 cases o with
 |none=>calc a
 |some v=>
  show(if v<0 then(v+(n:Int)).toNat else min v.toNat n)<=n;by_cases a:v<0
  ·rw[if_pos a];lia
  ·rw[if_neg a];calc Nat.min_le_right _ _
theorem Ai(v:Int)(n d:Nat):(if v<0 then max (v+(n:Int)) 0 else min v (n:Int))=((dY n d (some v):Nat):Int):=by
 show(if v<0 then max (v+(n:Int)) 0 else min v (n:Int))=(((if v<0 then(v+(n:Int)).toNat else min v.toNat n):Nat):Int)
 by_cases a:v<0
 ·simp only[if_pos a];lia
 ·simp only[if_neg a];lia
theorem yN(a b:Option Int)(n:Nat):Builtin.Slice.sliceAdjust a b 1 (n:Int)=(((dY n 0 a:Nat):Int),((dY n n b:Nat):Int)):=by
 have c:¬((1:Int)<0):=by lia
 unfold Builtin.Slice.sliceAdjust;simp only[c,if_false];refine Prod.ext ?_ ?_
 ·cases a with
  |none=>rfl
  |some v=>exact Ai v n 0
 ·cases b with
  |none=>rfl
  |some v=>calc Ai v n n
theorem yO(i j:Nat):Builtin.Slice.slicePlaces (i:Int) (j:Int) 1=j-i:=by
 unfold Builtin.Slice.slicePlaces;have a:(1:Int) > 0:=by lia
 simp only[a,if_true,Int.ediv_one];split<;>lia
theorem qE{v:Value}{o:Option Int}{Q:Option Int->Shared->Prop}(p:IsPart v o)(h:Q o s):wpAny (model prog w) A (Builtin.Slice.slicePartIndex v) Q E s:=by
 cases p with
 |none=>calc slicePart_none h
 |int i t=>calc slicePart_int h
theorem jc{e:Addr}{c d:Value}{a b:Option Int}{n:Nat}{Q:Int×Int×Nat->Shared->Prop}(g:s.heap.IsSliceOf e c d .none)(pl:IsPart c a)(i:IsPart d b)
  (h:Q (((dY n 0 a:Nat):Int),1,dY n n b-dY n 0 a) s):wpAny (model prog w) A (Builtin.Slice.sliceApplied (.ref e) (pure (n:Int))) Q E s:=by
 obtain⟨j,e,k,f⟩:=id g;unfold Builtin.Slice.sliceApplied Builtin.Slice.sliceFields;calc E' (E' (aaW e f (x:=c) rfl (E' (aaW e f (x:=d) rfl (E' (aaW e f (x:=.none) rfl (S' ?_)))))));calc E' (slicePart_none ?_);show wpAny _ _ (if ((1:Int)==0)=true then _ else _) _ _ s;rw[if_neg ∅];calc E' (qE pl (E' (qE i (E' (S' ?_)))));show wpAny _ _ (match Builtin.Slice.sliceAdjust a b 1 (n:Int) with|(a,b)=>pure (a,(1:Int),Builtin.Slice.slicePlaces a b 1)) _ _ s;rw[yN a b n];show wpAny _ _ (pure (((dY n 0 a:Nat):Int),(1:Int),Builtin.Slice.slicePlaces ((dY n 0 a:Nat):Int) ((dY n n b:Nat):Int) 1)) _ _ s;rw[yO];calc S' h
theorem Ej(xs:Array Value)(i k:Nat):((List.range k).filterMap λ(m:Nat)=>xs[((i:Int)+(m:Int)*1).toNat]?).toArray=((xs.toList.drop i).take k).toArray:=by
 have e:(λ(m:Nat)=>xs[((i:Int)+(m:Int)*1).toNat]?)=λm=>xs[i+m]?:=by
  funext m;have:((i:Int)+(m:Int)*1).toNat=i+m:=by lia
  rw[this]
 rw[e];have:=pick_run xs i k;rw[List.filterMap_map]at this;have a:((λx=>xs[x]?) ∘ λx=>i+x)=λm=>xs[i+m]?:=rfl;rw[a]at this;rw[this]
theorem mV{t f:Addr}{a:Array Value}{e g:Value}{b c:Option Int}(d:IsTup s.heap t a)(i:s.heap.IsSliceOf f e g .none)(pl:IsPart e b)(j:IsPart g c)
  (g:¬(dY a.size 0 b=0/\dY a.size a.size c=a.size))
  (h:Q (.ref s.heap.objs.size) {s with heap:=s.heap.push {cls:=.type "tuple",data:=.seq ((a.toList.drop (dY a.size 0 b)).take (dY a.size a.size c-dY a.size 0 b)).toArray}})
  (hsz:a.size<=sizeLine):wpAny (model prog w) A (getItem (.ref t) (.ref f)) Q E s:=by
 have e:sizeOk (.seq ((a.toList.drop (dY a.size 0 b)).take (dY a.size a.size c-dY a.size 0 b)).toArray):=by
  show((a.toList.drop (dY a.size 0 b)).take (dY a.size a.size c-dY a.size 0 b)).toArray.size<=sizeLine;rw[aad,aap,List.length_drop,Array.length_toList];lia
 have k:dY a.size a.size c<=a.size:=Nl _ _ (J' _) c;obtain⟨k,l,n,o⟩:=id i;have o:s.TypeIs (.ref f) "slice":=⟨k,l,n⟩
 unfold getItem
 try with_reducible refine wpAny_holding ?_
 first|calc E' (S' ?_)|skip
 calc E' (wpAny_sequenceKey d.typeIs ∅ ?_);refine E' (abi (name:=Str.ofString "__getitem__") d.typeIs abo
  (wpAny_call_entry abo d.typeIs entry_tuple_getitem ?_ (args_tuple_getitem _ _)))
 show wpAny _ _ (Builtin.Tuple.tupleItemsOf (.ref t) >>= _) _ _ s;calc E' (tupleItemsOf_ d ?_);calc E' (wpAny_typeOf o ?_);rw[if_pos ∅];calc E' (jc i pl j ?_);have f:¬((((dY a.size 0 b:Nat):Int)==0&&(1:Int)==1&&(dY a.size a.size c-dY a.size 0 b)==a.size)=true):=by
  intro q;rw[aaR,aaR]at q;have d:((dY a.size 0 b:Nat):Int)=0:=eq_of_beq q.1.1;have d:dY a.size a.size c-dY a.size 0 b=a.size:=eq_of_beq q.2;exact g ⟨(),()⟩
 show wpAny _ _ (if (((dY a.size 0 b:Nat):Int)==0&&(1:Int)==1&&(dY a.size a.size c-dY a.size 0 b)==a.size)=true then _ else _) _ _ s;rw[if_neg f,Ej]
 first
  |calc E' (m:=Builtin.Tuple.tupleExact _) (abr (S' ⟨_,rfl,S' h⟩) e)
  |calc E' (m:=Builtin.Tuple.tupleExact _) (abr (E' (S' (S' ⟨_,rfl,S' h⟩))) e)
  |calc E' (E' (m:=Builtin.Tuple.tupleExact _) (abr (S' (S' ⟨_,rfl,S' h⟩)) e))
  |calc E' (E' (m:=Builtin.Tuple.tupleExact _) (abr (S' ⟨_,rfl,S' h⟩) e))
end
end HT
namespace L2
open PySem PySem.Spec PyProof.Rows
section
abbrev TO:=St->Hp->(Option Int->Hp->Prop)->Prop
def PO(X:Cx)(e:Option Expr)(t:TO):Prop:=
 ∀(pins:List (Addr×Obj)) (s:Shared) (σ:St) (H:Hp) (Q:Option Int->Hp->Prop),Inv X pins σ H s->t σ H Q->
  wpAny (model X.prog X.w) X.A (evalPart e X.env) (λu s'=>∃o a,Inv X pins σ a s'/\IsPart u o/\Q o a) X.xe s
def uQ:TO:=λ_ H Q=>Q none H
def Ek(t:TE):TO:=λσ H Q=>t σ H λx a=>∃i,x=.int i/\Q (some i) a
section
variable {X:Cx}{e:Expr}{te:TE}{lo hi:Option Expr}{tl th:TO}{pos p2:Pos}
theorem jz:PO X none uQ:=by
 intro a s σ H Q I h;rw[evalPart_none];calc S' ⟨none,H,I,.none,h⟩
theorem fm(h:PE X e te):PO X (some e) (Ek te):=by
 intro a s σ H Q I b;rw[evalPart_some];calc c9 (h a s σ H _ I b) λu k c=>?_;obtain⟨x,d,f,g,j⟩:=c;obtain⟨i,rfl,q⟩:=j;obtain⟨t,rfl⟩:=g;calc⟨some i,d,f,.int i t,q⟩
def RN(X:Cx)(r:V->Option Int->Option Int->Hp->VK->Prop):Prop:=
 ∀(pins:List (Addr×Obj)) (s:Shared) (σ:St) (H:Hp) (x:V) (v a b:Value) (lo hi:Option Int) (c:Addr) (Q:VK),Inv X pins σ H s->RelV x v->s.heap.IsSliceOf c a b .none->IsPart a lo->IsPart b hi->r x lo hi H Q->
  ∃T a,typeLookup (.type T) "__getitem__"=pure (some (.builtin a))/\s.TypeIs v T/\wpAny (model X.prog X.w) X.A (getItem v (.ref c)) (EP X pins σ Q) X.xe s
def RO(r:V->Option Int->Option Int->Hp->VK->Prop)(te:TE)(tl th:TO):TE:=λσ H Q=>te σ H λx a=>tl σ a λl b=>th σ b λu a=>r x l u a Q
theorem wt{r:V->Option Int->Option Int->Hp->VK->Prop}(g:RN X r)(a:PE X e te)(d:PO X lo tl)(f:PO X hi th):PE X (.Subscript e (.Slice lo hi none p2) pos) (RO r te tl th):=by
 walk_at "xc";refine Subscript_ (c9 (a pins s σ H _ I h) λv i b=>?_);obtain⟨x,a,j,k,m⟩:=b;refine wpAny_Slice (c9 (d pins i σ a _ j m) λc n ⟨l,o,p,r,q⟩=>c9 (f pins n σ o _ p q) λd a b=>?_);obtain⟨u,f,i,j,m⟩:=b;rw[evalPart_none];refine S' ?_;have n:Inv X pins σ f {a with heap:=a.heap.push {cls:=.type "slice",data:=.fields #[c,d,.none]}}:=i.kept (t':=a.toks) λb i q=>K' _ q;obtain⟨T,p,b,i,o⟩:=g pins {a with heap:=a.heap.push {cls:=.type "slice",data:=.fields #[c,d,.none]}} σ f x v c d l u a.heap.objs.size Q n k (Heap.IsSliceOf.new ..) r j m;show wpAny (model X.prog X.w) X.A (subscriptTail e (.Slice lo hi none p2) v (.ref a.heap.objs.size)) (EP X pins σ Q) X.xe {a with heap:=a.heap.push {cls:=.type "slice",data:=.fields #[c,d,.none]}};exact tail_any (ops:=[.ref a.heap.objs.size,v]) i b o (by with_unfolding_all rfl)
def dq(xs:List V)(lo hi:Option Int):List V:=(xs.drop (HT.dY xs.length 0 lo)).take (HT.dY xs.length xs.length hi-HT.dY xs.length 0 lo)
theorem pP(xs:List V)(lo hi:Option Int):(dq xs lo hi).length<=xs.length:=by
 unfold dq;rw[aap,List.length_drop];lia
def XE(K:W.Frag):V->Option Int->Option Int->Hp->VK->Prop:=λx lo hi H Q=>∃a xs,x=.ref a/\bq K H a xs/\
 ¬(HT.dY xs.length 0 lo=0/\HT.dY xs.length xs.length hi=xs.length)/\∀p,H p=none->Q (.ref p) (upd H p (.tup (dq xs lo hi)))
theorem Np:RN X (XE X.K):=by
 intro b s σ H x v d m lo hi n Q I e g i j h;obtain⟨a,c,rfl,k,l,q⟩:=h
 cases e;obtain⟨m,r,b,d⟩:=I.tuple k;have a:m.toArray.size=c.length:=by rw[aad];exact r.length.symm
 refine⟨"tuple",_,PyProof.Rows.slot_tuple_getitem.lookup,b.typeIs,?_⟩;refine HT.mV b g i j (by rw[a];exact l) ?_ (by rw[a];exact d);rw[a];refine⟨.ref s.heap.objs.size,_,I.laid (t':=s.toks) (o:=.tup (dq c lo hi)) (λb a q=>K' _ q) (J' _) ?_,rfl,q _ (I.aU.fresh (J' _))⟩;exact⟨aaB (pP c lo hi) d,_,(r.drop (HT.dY c.length 0 lo)).take (HT.dY c.length c.length hi-HT.dY c.length 0 lo),IsTup.new _ _⟩
def RP(K:W.Frag):R2:=λx y H Q=>∃a b xs c,x=.ref a/\y=.ref b/\bq K H a xs/\bq K H b c/\xs≠[]/\xs.length+c.length<=sizeLine/\
 (c=[]->Q (.ref a) H)/\(c≠[]->∀p,H p=none->Q (.ref p) (upd H p (.tup (xs++c))))
theorem Vals.uR{xs:List V}{us:List Value}(r:Vals xs us):us=[]↔xs=[]:=by
 cases r with
 |nil=>simp
 |cons _ _=>simp
theorem Jp:fE X (binaryOp .Add) (RP X.K):=by
 intro c s σ H x y v u Q I d f h;obtain⟨a,b,g,i,rfl,rfl,j,k,l,e,m,n⟩:=h
 cases d
 cases f;obtain⟨c,d,h,_⟩:=I.tuple j;obtain⟨f,c,p2,_⟩:=I.tuple k;calc HT.Jo h p2 (λz=>l (d.uR.mp z)) (λz=>⟨.ref a,H,I,rfl,m (c.uR.mp z)⟩) (λz=>?_) (by rw[<-d.length,<-c.length];calc e);calc⟨.ref s.heap.objs.size,_,I.laid (t':=s.toks) (o:=.tup (g++i)) (λb a q=>K' _ q) (J' _) ?_,rfl,n (λw=>z (c.uR.mpr w)) _ (I.aU.fresh (J' _))⟩;calc⟨by rw[aac];calc e,_,d.append c,IsTup.new _ _⟩
end
end
section
def yP(n:Nat)(i:Int):Option Nat:=if 0<=i then(if i<n then some i.toNat else none) else if -(n:Int)<=i then some (i+n).toNat else none
def iG{α:Type}(xs:List α)(i:Int):Option α:=(yP xs.length i).bind λj=>xs[j]?
theorem Ak{n:Nat}{i:Int}{j:Nat}(h:yP n i=some j):seqIndex? i n=some j/\j<n/\-(n:Int)<=i/\i<n:=by
 unfold yP at h;by_cases b:0<=i
 ·rw[if_pos b] at h;by_cases a:i < n
  ·rw[if_pos a]at h;have e:i.toNat=j:=Option.some.inj h;exact⟨by rw[seqIndex_of b a,e],(),(),a⟩
  ·rw[if_neg a]at h;cases h
 ·rw[if_neg b] at h;by_cases a:-(n:Int)<=i
  ·rw[if_pos a]at h;have e:(i+n).toNat=j:=Option.some.inj h;exact⟨by rw[seqIndex_neg () a,e],(),a,()⟩
  ·rw[if_neg a]at h;cases h
theorem uS{α:Type}{xs:List α}{i:Int}{v:α}(h:iG xs i=some v):∃j,seqIndex? i xs.length=some j/\xs[j]?=some v/\j<xs.length/\-(xs.length:Int)<=i/\i<xs.length:=by
 unfold iG at h
 cases e:yP xs.length i with
 |none=>rw[e]at h;cases h
 |some j=>
  rw[e]at h;obtain⟨a,b,c,d⟩:=Ak e;calc⟨j,a,h,b,c,d⟩
theorem av{α:Type}{xs:List α}{j:Nat}{v:α}(h:xs[j]?=some v):iG xs (j:Int)=some v:=by
 have a:j<xs.length:=(List.getElem?_eq_some_iff.mp h).1;have e:yP xs.length (j:Int)=some j:=by
  unfold yP;rw[if_pos (),if_pos ()];simp
 unfold iG;rw[e];calc h
def Al(b:Expr):Prop:=∀o i,subscripted b false o i=operate [o,i] (getItem o i)
def RQ(X:Cx)(r:R2):Prop:=
 ∀(b a:Expr) (pins:List (Addr×Obj)) (s:Shared) (σ:St) (H:Hp) (x y:V) (v u:Value) (Q:VK),Inv X pins σ H s->RelV x v->RelV y u->r x y H Q->
  subscripted a false v u=operate [v,u] (getItem v u)->wpAny (model X.prog X.w) X.A (subscriptTail b a v u) (EP X pins σ Q) X.xe s
def Qk(X:Cx)(a:String)(r:V->List V->Hp->VK->Prop):Prop:=
 ∀(pins:List (Addr×Obj)) (s:Shared) (σ:St) (H:Hp) (x:V) (xs:List V) (v:Value) (us:List Value) (Q:VK),Inv X pins σ H s->RelV x v->Vals xs us->r x xs H Q->
  wpAny (model X.prog X.w) X.A (call (.builtin a) (v::us)) (EP X pins σ Q) X.xe s
section
variable {X:Cx}{a b:Expr}{ta tb:TE}{pos:Pos}
theorem RT{r:R2}(c:RQ X r)(d:PE X a ta)(e:PE X b tb)(f:Al b):PE X (.Subscript a b pos) (D7 r ta tb):=by
 walk_at "xc";exact Subscript_ (M7 d e I h λv u g x y i j k l q=>c a b pins g σ i x y v u Q j k l q (f _ _))
def XF(K:W.Frag):R2:=λx y H Q=>∃p xs i v,x=.ref p/\y=.int i/\aO K H p xs/\iG xs i=some v/\Q v H
def XG(K:W.Frag):R2:=λx y H Q=>∃p xs i v,x=.ref p/\y=.int i/\bq K H p xs/\iG xs i=some v/\Q v H
def XH:R2:=λx y H Q=>∃z i c,x=.str z/\y=.int i/\z.length<=sizeLine/\iG z.cps.toList i=some c/\Q (.str ⟨#[c]⟩) H
theorem Jq:RQ X (XF X.K):=by
 intro b c a s σ H x y v u Q I d e h f;obtain⟨p,j,i,z,rfl,rfl,g,k,q⟩:=h
 cases d;obtain⟨t,rfl⟩:=e;obtain⟨l,r,d,b⟩:=I.list g;obtain⟨j,c,b,e,m,n⟩:=uS k;obtain⟨w,g,e⟩:=r.get b;have k:=r.length;have b:=qA;have b:EP X a σ Q w s:=⟨z,H,I,e,q⟩
 by_cases h:0<=i
 ·have e:i.toNat=j:=by
   rw[seqIndex_of h n]at c;exact Option.some.inj c
  exact item_listR d.isList h () (by rw[e];simpa using g) b f
 ·have e:(i+(l.toArray.size:Int)).toNat=j:=by
   rw[seqIndex_neg () m]at c;rw[aad,<-k];exact Option.some.inj c
  exact subscriptTail_builtinR (x:=w) d.isList.typeIs slot_list_getitem.lookup
   (wpAny_getItem_list_neg (Q:=λr c=>r=w/\EP X a σ Q r c) d.isList () (by rw[aad]<;>lia) () (by rw[e];simpa using g) ⟨rfl,b⟩) f
theorem Nq:RQ X (XG X.K):=by
 intro b c a s σ H x y v u Q I d e h f;obtain⟨p,j,i,z,rfl,rfl,g,k,q⟩:=h
 cases d;obtain⟨t,rfl⟩:=e;obtain⟨b,r,c,d⟩:=I.tuple g;obtain⟨j,d,b,e,h,i⟩:=uS k;obtain⟨w,e,g⟩:=r.get b;have h:=r.length;have b:=qA;have b:EP X a σ Q w s:=⟨z,H,I,g,q⟩
 exact subscriptTail_builtinR (x:=w) c.typeIs slot_tuple_getitem.lookup
  (getItem_tuple (j:=j) (Q:=λr g=>r=w/\EP X a σ Q r g) c () () (by rw[aad,<-h];calc d) (by simpa using e) ⟨rfl,b⟩) f
theorem Nr:RQ X XH:=by
 intro a b d s σ H x y v u Q I e f h g;obtain⟨z,i,c,rfl,rfl,j,k,q⟩:=h;obtain⟨t,rfl⟩:=e;obtain⟨l,rfl⟩:=f;obtain⟨j,a,b,h,d,e⟩:=uS k;have f:z.cps.toList.length=z.length:=by simp[Str.length]
 rw[f] at a d e;have h:=qA;exact tail_any (typeIs_str s z t) slot_str_getitem.lookup (getItem_str (c:=c) (by
  have d:decide (i < -(2 ^ 63:Int))=false:=aaq ();have e:decide (i >= 2 ^ 63)=false:=aaq ();rw[d,e,Bool.or_false]) (by rw[a];simpa using b) ⟨.str ⟨#[c]⟩,H,I.tok _,⟨_,rfl⟩,q⟩) g
theorem yQ(a:List Value)(n j:Nat)(u:Value):Obj.mapSeq (·.setIfInBounds j u) {cls:=.type "list",data:=.seq a.toArray n}={cls:=.type "list",data:=.seq (a.set j u).toArray n}:=by
 simp[Obj.mapSeq]
theorem Inv.lst{pins:List (Addr×Obj)}{σ:St}{H:Hp}{s:Shared}{p:Addr}{xs:List V}(I:Inv X pins σ H s)(h:H p=some (.lst xs)):
  ∃(a:List Value) (n:Nat),Vals xs a/\s.heap.get? p=some {cls:=.type "list",data:=.seq a.toArray n}/\xs.length<=sizeLine:=by
 obtain⟨z,a,n,r,e⟩:=I.aU p _ h;calc⟨a,n,r,e,z⟩
theorem Inv.Nt{pins:List (Addr×Obj)}{σ:St}{H:Hp}{s:Shared}{p:Addr}{xs a:List V}{d j8:List Value}{n c:Nat}{f:Obj->Obj}(I:Inv X pins σ H s)(h:H p=some (.lst xs))
  (i:s.heap.get? p=some {cls:=.type "list",data:=.seq d.toArray n}) (g:f {cls:=.type "list",data:=.seq d.toArray n}={cls:=.type "list",data:=.seq j8.toArray c}) (r:Vals a j8) (d:a.length<=sizeLine) (t:Nat):
  Inv X pins σ (upd H p (.lst a)) {s with heap:=s.heap.update p f,toks:=t}:=by
 have e:(s.heap.update p f).get? p=some {cls:=.type "list",data:=.seq j8.toArray c}:=by
  rw[Heap.get?_update_self f i (by rw[g]<;>rfl),g]
 calc I.write (x:=p) (e:=p) (by rw[h];trivial) (.inl rfl) (λb u a q=>(Heap.get?_update_other _ _ (Ne.symm a)).trans q) ⟨_,e⟩ ?_;calc⟨d,j8,c,r,e⟩
def RU:V->V->V->Hp->(Hp->Prop)->Prop:=λo i v H Q=>∃p xs k j,o=.ref p/\i=.int k/\H p=some (.lst xs)/\yP xs.length k=some j/\Q (upd H p (.lst (xs.set j v)))
theorem set_list:M0 X RU:=by
 intro a s σ H o i v c f u Q I b d l h;obtain⟨p,m,k,j,rfl,rfl,e,w,q⟩:=h
 cases b;obtain⟨t,rfl⟩:=d;obtain⟨f,n,r,c,o⟩:=I.lst e;obtain⟨b,d,g,h⟩:=Ak w;have d:=r.length;have i:=qA;have i:Inv X a σ (upd H p (.lst (m.set j v))) {s with heap:=s.heap.update p (Obj.mapSeq (·.setIfInBounds j u))}:=
  I.Nt e c (yQ f n j u) (r.set l j) (by rw[List.length_set];calc o) s.toks
 by_cases e:0<=k
 ·have a:k.toNat=j:=by
   rw[seqIndex_of e h]at b;exact Option.some.inj b
  exact W.ki_setAt c e () (by rw[aad,<-d];calc h) (by rw[a];calc⟨_,i,q⟩)
 ·have a:(k+(f.toArray.size:Int)).toNat=j:=by
   rw[seqIndex_neg () g]at b;rw[aad,<-d];exact Option.some.inj b
  calc W.ki_setBack c () (by rw[aad,<-d];calc g) () (by rw[a];calc⟨_,i,q⟩)
theorem uT(a b:Option Int)(n:Nat):(sliceBounds a b none n).1=((HT.dY n 0 a:Nat):Int)/\(sliceBounds a b none n).2.1=((HT.dY n n b:Nat):Int)/\(sliceBounds a b none n).2.2=1:=by
 refine⟨?_,?_,rfl⟩
 ·cases a with
  |none=>simp[sliceBounds,HT.dY]
  |some i=>
   simp only[sliceBounds,HT.dY,Option.getD_none,show(1:Int) > 0 by decide,if_true];by_cases h:i<0
   ·simp only[h,if_true]<;>lia
   ·simp only[h,if_false]<;>lia
 ·cases b with
  |none=>simp[sliceBounds,HT.dY]
  |some i=>
   simp only[sliceBounds,HT.dY,Option.getD_none,show(1:Int) > 0 by decide,if_true];by_cases h:i<0
   ·simp only[h,if_true]<;>lia
   ·simp only[h,if_false]<;>lia
theorem sm(a:List Value)(b c:Option Int):slicePick a.toArray b c none=((a.drop (HT.dY a.length 0 b)).take (HT.dY a.length a.length c-HT.dY a.length 0 b)).toArray:=by
 obtain⟨d,e,f⟩:=uT b c a.toArray.size;unfold slicePick;rw[d,e,f];simp only[sliceRange_one,pick_run,List.size_toArray]<;>rfl
def XI(K:W.Frag):V->Option Int->Option Int->Hp->VK->Prop:=λx b c H Q=>∃a xs,x=.ref a/\aO K H a xs/\∀p,H p=none->Q (.ref p) (upd H p (.lst (dq xs b c)))
theorem Am:RN X (XI X.K):=by
 intro d s σ H x v g n e f p Q I i j k l h;obtain⟨a,c,rfl,m,q⟩:=h
 cases i;obtain⟨d,r,g,h⟩:=I.list m;have d:=r.length;refine⟨"list",_,slot_list_getitem.lookup,g.isList.typeIs,?_⟩;refine wpAny_getItem_list_slice g.isList j k l .none nofun ?_ (by rw[aad]<;>lia);rw[sm,<-d];refine⟨.ref s.heap.objs.size,_,I.laid (t':=s.toks) (o:=.lst (dq c e f)) (λb d q=>K' _ q) (J' _) ?_,rfl,q _ (I.aU.fresh (J' _))⟩;exact⟨aaB (pP c e f) h,_,0,(r.drop (HT.dY c.length 0 e)).take (HT.dY c.length c.length f-HT.dY c.length 0 e),aah _ rfl⟩
def fF:V->Bool
 | .bH=>true
 | .bl _=>true
 | .int _=>true
 | .str _=>true
 |_=>false
def Dv:V->V->Bool
 | .bH,.bH=>true
 | .bl a,.bl b=>a==b
 | .bl a,.int b=>(if a then 1 else 0)==b
 | .int a,.bl b=>a==(if b then 1 else 0)
 | .int a,.int b=>a==b
 | .str a,.str b=>a==b
 |_,_=>false
theorem yR{A:Around}{s:Shared}{y x:V}{u v:Value}(e:RelV y u)(c:RelV x v)(g:fF y=true)(f:fF x=true):SeqAt.EqAt A s u v (Dv y x):=by
 cases y with
 |bH=>
  cases e
  cases x with
  |bH=>cases c;calc SeqAt.EqAt.same _
  |bl b=>cases c;calc SeqAt.EqAt.none_bool b
  |int b=>obtain⟨t,rfl⟩:=c;calc SeqAt.EqAt.none_int b t
  |str b=>obtain⟨t,rfl⟩:=c;calc SeqAt.EqAt.none_str b t
  |_=>calc absurd (show false=true from f) M'
 |bl a=>
  cases e
  cases x with
  |bH=>cases c;calc SeqAt.EqAt.bool_none a
  |bl b=>cases c;calc SeqAt.EqAt.bool_bool a b
  |int b=>obtain⟨t,rfl⟩:=c;calc SeqAt.EqAt.bool_int a b t
  |str b=>obtain⟨t,rfl⟩:=c;calc SeqAt.EqAt.bool_str a b t
  |_=>calc absurd (show false=true from f) M'
 |int a=>
  obtain⟨d,rfl⟩:=e
  cases x with
  |bH=>cases c;calc SeqAt.EqAt.int_none a d
  |bl b=>cases c;calc SeqAt.EqAt.int_bool a d b
  |int b=>obtain⟨t,rfl⟩:=c;calc SeqAt.EqAt.int_int a d b t
  |str b=>obtain⟨t,rfl⟩:=c;calc SeqAt.EqAt.int_str a d b t
  |_=>calc absurd (show false=true from f) M'
 |str a=>
  obtain⟨d,rfl⟩:=e
  cases x with
  |bH=>cases c;calc SeqAt.EqAt.str_none a d
  |bl b=>cases c;calc SeqAt.EqAt.str_bool a d b
  |int b=>obtain⟨t,rfl⟩:=c;calc SeqAt.EqAt.str_int a d b t
  |str b=>obtain⟨t,rfl⟩:=c;calc SeqAt.EqAt.str_str a d b t
  |_=>calc absurd (show false=true from f) M'
 |_=>calc absurd (show false=true from g) M'
def Jr(x:V)(u:Value):Bool:=match u with
 | .none=>Dv .bH x
 | .bool b=>Dv (.bl b) x
 | .int i _=>Dv (.int i) x
 | .str z _=>Dv (.str z) x
 |_=>false
theorem El{x y:V}{u:Value}(r:RelV y u)(f:fF y=true):Jr x u=Dv y x:=by
 cases y with
 |bH=>cases r;rfl
 |bl b=>cases r;rfl
 |int i=>obtain⟨t,rfl⟩:=r;rfl
 |str z=>obtain⟨t,rfl⟩:=r;rfl
 |_=>calc absurd (show false=true from f) M'
theorem uU{x:V}:∀{xs:List V}{us:List Value},Vals xs us->xs.all fF=true->us.any (Jr x)=xs.any λy=>Dv y x
 |_,_,.nil,_=>rfl
 |y::xs,u::us,.cons r t,f=>by
  rw[List.all_cons,aaR]at f;rw[List.any_cons,List.any_cons,El r f.1,uU t f.2]
theorem qF{A:Around}{s:Shared}{x:V}{v:Value}(b:RelV x v)(c:fF x=true):∀{xs:List V}{us:List Value},Vals xs us->xs.all fF=true->∀u∈us,SeqAt.EqAt A s u v (Jr x u)
 |_,_,.nil,_=>λu a=>by cases a
 |y::xs,u::us,.cons r t,f=>λd a=>by
  rw[List.all_cons,aaR]at f;rcases List.mem_cons.mp a with rfl|a
  ·rw[El r f.1];exact yR r b f.1 c
  ·calc qF b c t f.2 d a
def An(x:V)(xs:List V):Bool:=xs.any λy=>Dv y x
def rIn(K:W.Frag)(a:Bool):R2:=λx y H Q=>∃p xs,y=.ref p/\(aO K H p xs\/bq K H p xs)/\fF x=true/\xs.all fF=true/\Q (.bl (if a then !An x xs else An x xs)) H
theorem B7:fE X (compareOp .In) (rIn X.K false):=by
 intro b s σ H x y v u Q I f d h;obtain⟨p,e,rfl,a,g,c,q⟩:=h
 cases d;rcases a with a|a
 ·obtain⟨b,r,d,h⟩:=I.list a;calc SeqAt.in_listAt (Jr x) d.isList (λw e=>qF f g r c w (by simpa using e)) ⟨.bl _,H,I,rfl,?_⟩;rw[show b.toArray.any (Jr x)=b.any (Jr x) by simp,uU r c];exact q
 ·obtain⟨b,r,d,h⟩:=I.tuple a;calc SeqAt.in_tupleAt (Jr x) d (λw e=>qF f g r c w (by simpa using e)) ⟨.bl _,H,I,rfl,?_⟩;rw[show b.toArray.any (Jr x)=b.any (Jr x) by simp,uU r c];calc q
theorem uV:eZ X (.type "list") (λxs H Q=>∃p d,xs=[.ref p]/\(aO X.K H p d\/bq X.K H p d)/\∀l,H l=none->Q (.ref l) (upd H l (.lst d))):=by
 intro i s σ H xs o Q I r h;obtain⟨p,d,rfl,j,q⟩:=h;obtain⟨u,rfl,n⟩:=vals1 r
 cases n;have k:∀(c:List Value),Vals d c->d.length<=sizeLine->∀(a:Heap) (f:Nat),(∀b h,s.heap.get? b=some h->a.get? b=some h)->
   a.get? s.heap.objs.size=some {cls:=.type "list",dict:=none,data:=.seq c.toArray f,slots:=#[]}->EP X i σ Q (.ref s.heap.objs.size) {s with heap:=a}:=λc g m a f t e=>
  ⟨.ref s.heap.objs.size,_,I.laid (t':=s.toks) t (J' _) (show cF X.prog X.w _ a _ (.lst d) from⟨m,c,f,g,e⟩),rfl,q _ (I.aU.fresh (J' _))⟩
 rcases j with j|j
 ·obtain⟨c,g,h,m⟩:=I.list j;have d:=g.length;obtain⟨o,i,l,n,q⟩:=h.isList;exact call_list_seq p (.inl rfl) i l q (λa f t e=>k c g m a f t e) (by simp only[List.size_toArray]<;>lia)
 ·obtain⟨c,g,h,m⟩:=I.tuple j;have d:=g.length;obtain⟨o,i,l,n,q⟩:=h;calc call_list_seq p (.inr rfl) i l q (λa f t e=>k c g m a f t e) (by simp only[List.size_toArray]<;>lia)
theorem lP:eZ X (.type "tuple") (λxs H Q=>∃p c,xs=[.ref p]/\((aO X.K H p c/\∀l,H l=none->Q (.ref l) (upd H l (.tup c)))\/(bq X.K H p c/\Q (.ref p) H))):=by
 intro a s σ H xs e Q I r h;obtain⟨p,c,rfl,h⟩:=h;obtain⟨u,rfl,d⟩:=vals1 r
 cases d;rcases h with⟨f,q⟩|⟨f,q⟩
 ·obtain⟨g,h,i,j⟩:=I.list f;have d:=h.length;calc call_tuple_list i.isList (λd e=>?_) (by simp only[List.size_toArray]<;>lia);have k:Inv X a σ H {s with heap:=d}:=I.kept (t':=s.toks) e;have m:Inv X a σ (upd H d.objs.size (.tup c)) {s with heap:=d.push {cls:=.type "tuple",data:=.seq g.toArray}}:=
   k.laid (t':=s.toks) (λb o e=>K' _ e) (J' _) (show cF X.prog X.w _ _ _ (.tup c) from⟨j,g,h,IsTup.new _ _⟩)
  exact⟨.ref d.objs.size,_,m,rfl,q _ (k.aU.fresh (J' _))⟩
 ·obtain⟨g,h,i,j⟩:=I.tuple f;calc call_tuple_same i ⟨.ref p,H,I,rfl,q⟩
def XJ(K:W.Frag)(T:String)(x:V)(H:Hp):Prop:=match x with
 | .str _=>T="str"
 | .int _=>T="int"
 | .ref p=>(T="list"/\∃xs,aO K H p xs)\/(T="tuple"/\∃o,K.lookup p=some o/\o.cls=.type "tuple"/\o.dict=none)\/
   (T="dict"/\((∃a,H p=some (.dK a))\/∃a,H p=some (.dT a)))\/(T="set"/\∃S n,H p=some (.set S n))
 |_=>False
theorem Em{pins:List (Addr×Obj)}{σ:St}{H:Hp}{s:Shared}{T:String}{x:V}{v:Value}(I:Inv X pins σ H s)(r:RelV x v)(f:XJ X.K T x H):
  s.TypeIs v T/\∀a,v=.ref a->∃c,s.heap.get? a=some c/\c.dict=none:=by
 cases x with
 |str z=>
  obtain⟨t,rfl⟩:=r
  cases(show T="str" from f);exact⟨typeIs_str s z t,λ_ e=>nomatch e⟩
 |int i=>
  obtain⟨t,rfl⟩:=r
  cases(show T="int" from f);exact⟨typeIs_int s i t,λ_ e=>nomatch e⟩
 |ref p=>
  cases r;rcases f with⟨rfl,m,k⟩|⟨rfl,o,b,l,g⟩|⟨rfl,b⟩|⟨rfl,S,n,b⟩
  ·obtain⟨c,_,j,_⟩:=I.list k;refine⟨j.isList.typeIs,λa e=>?_⟩
   cases e;obtain⟨o,n,e,c,g,_⟩:=j;exact⟨o,e,g⟩
  ·refine⟨⟨o,I.j1 p o b,l⟩,λa e=>?_⟩
   cases e;exact⟨o,I.j1 _ o b,g⟩
  ·have z:∃o,s.heap.get? p=some o/\o.ExactDict:=by
    rcases b with⟨c,b⟩|⟨c,b⟩
    ·obtain⟨_,_,_,_,o,_,_,e,d,_⟩:=I.aU p _ b;exact⟨o,e,d⟩
    ·obtain⟨_,_,_,_,o,_,_,e,d,_⟩:=I.aU p _ b;exact⟨o,e,d⟩
   obtain⟨o,e,d⟩:=z;refine⟨⟨o,e,d.1⟩,λa h=>?_⟩
   cases h;exact⟨o,e,d.2.1⟩
  ·obtain⟨o,_,_,_,e,d,_⟩:=I.aU p _ b;refine⟨⟨o,e,d.1⟩,λa h=>?_⟩
   cases h;calc⟨o,e,d.2.1⟩
 |_=>calc aa2 f
def Nu(K:W.Frag)(T:String)(r:V->List V->Hp->VK->Prop)(b:TE):TE:=λσ H Q=>b σ H λx a=>XJ K T x a/\r x [] a Q
def XM(K:W.Frag)(T:String)(r:V->List V->Hp->VK->Prop)(b:TE)(t:TA):TE:=λσ H Q=>b σ H λx a=>XJ K T x a/\t σ a λxs b=>r x xs b Q
variable {o e:Expr}{es:List Expr}{to:TE}{t:TA}{name:Str}{apos oe:Pos}{T id:String}{r:V->List V->Hp->VK->Prop}
theorem Nv(d:PlainAttrs T)(a:Slot T name id)(e:typeOf (.builtin id)=pure (.type "method_descriptor"))(f:Qk X id r)(b:PE X o to)
  (c:attributeBase o name X.env (eval o X.env)=eval o X.env:=by rfl) (g:(apos.endLine==oe.line)=true:=by rfl):PE X (.Call (.Attribute o name apos) [] [] oe) (Nu X.K T r to):=by
 walk_at "xc";refine wpAny_Call_method0_late c g (c9 (b pins s σ H _ I h) λv i j=>?_);obtain⟨x,g,b,c,k,l⟩:=j;obtain⟨m,n⟩:=Em b c k;exact⟨T,id,d,a,e,m,n,Calls.callWith_builtin rfl (PySem.evalArgs_none (f pins i σ g x [] v [] Q b c .nil l))⟩
theorem du(f:PlainAttrs T)(a:Slot T name id)(g:typeOf (.builtin id)=pure (.type "method_descriptor"))(i:Qk X id r)(b:PE X o to)(j:PA X (e::es) t)
  (c:attributeBase o name X.env (eval o X.env)=eval o X.env:=by rfl)
  (d:((backTo oe (starEach (e::es) X.env)).all (λx=> !x.1) && (backToKw oe (keywordEach [] X.env)).all (λx=>x.1.isSome)
   && decide ((e::es).length + ([]:List Keyword).length + (if ([]:List Keyword).isEmpty then 0 else 1) < 30))=true:=by rfl)
  (k:(apos.endLine==oe.line)=true:=by rfl) (l:starEach (e::es) X.env=(false,eval e X.env)::starEach es X.env:=by rfl) (m:(backTo oe (starEach es X.env)).any (·.1)=false:=by rfl):
  PE X (.Call (.Attribute o name apos) (e::es) [] oe) (XM X.K T r to t):=by
 walk_at "xc";refine wpAny_Call_method_late c d k rfl (c9 (b pins s σ H _ I h) λv n p=>?_);obtain⟨x,k,b,c,q,u⟩:=p;obtain⟨w,y⟩:=Em b c q;refine⟨T,id,f,a,g,w,y,?_⟩;have d:=j oe pins n σ k _ b u;rw[l]at d ⊢;refine Calls.callWith_builtin (by show(false||(backTo oe (starEach es X.env)).any (·.1))=false;rw[m]<;>rfl) (Calls.evalArgs_plain ?_);exact c9 d λa f ⟨g,p,q,w,y⟩=>i pins f σ p x g v a Q q c w y
end
end
section
def V5(X:Cx)(a:String)(r:V->List V->Hp->VK->Prop):Prop:=
 ∀(pins:List (Addr×Obj)) (s:Shared) (σ:St) (H:Hp) (x:V) (xs:List V) (v:Value) (us:List Value) (Q:VK),Inv X pins σ H s->RelV x v->Vals xs us->r x xs H Q->
  wpAny (model X.prog X.w) X.A (call (.builtin a) (v::us)) (EP X pins σ Q) X.xe s
theorem Vals.one:∀{x:V}{us:List Value},Vals [x] us->∃u,us=[u]/\RelV x u
 |_,_,.cons r .nil=>⟨_,rfl,r⟩
theorem Vals.two:∀{x y:V}{us:List Value},Vals [x,y] us->∃u v,us=[u,v]/\RelV x u/\RelV y v
 |_,_,_,.cons r (.cons q .nil)=>⟨_,_,rfl,r,q⟩
theorem Vals.zero:∀{us:List Value},Vals [] us->us=[]
 |_,.nil=>rfl
theorem Vals.dropLast{xs:List V}{us:List Value}(h:Vals xs us):Vals xs.dropLast us.dropLast:=by
 induction h with
 |nil=>calc .nil
 |cons r t a=>
  cases t with
  |nil=>calc .nil
  |cons q b=>calc .cons r a
theorem Vals.eraseIdx:∀{xs:List V}{us:List Value}(i:Nat),Vals xs us->Vals (xs.eraseIdx i) (us.eraseIdx i)
 |_,_,_,.nil=>.nil
 |_,_,0,.cons _ t=>t
 |_,_,i+1,.cons r t=>.cons r (Vals.eraseIdx i t)
theorem yS{α:Type}(l:List α):l.eraseIdx (l.length-1)=l.dropLast:=by
 induction l with
 |nil=>rfl
 |cons a r c=>
  cases r with
  |nil=>rfl
  |cons b r=>
   have e:(a::b::r).length-1=((b::r).length-1)+1:=by
    have d:(a::b::r).length=r.length+2:=rfl;have a:(b::r).length=r.length+1:=rfl;lia
   rw[e,List.eraseIdx_cons_succ,c]
   all_goals rfl
theorem og{α:Type}:∀(l:List α) (i:Nat),(l.eraseIdx i).length<=l.length
 | [],_=>J' _
 |_::_,0=>Nat.le_succ _
 |_::r,i+1=>Nat.succ_le_succ (og r i)
section
variable {X:Cx}{pins:List (Addr×Obj)}{σ:St}{H:Hp}{s:Shared}{l b:Addr}{xs ys zs:List V}
theorem Inv.En{a j8:List Value}{n:Nat}{f:Array Value->Array Value}{t':Nat}(I:Inv X pins σ H s)(b:H l=some (.lst xs))
  (e:s.heap.get? l=some {cls:=.type "list",data:=.seq a.toArray n}) (c:f a.toArray=j8.toArray) (d:Vals ys j8) (g:ys.length<=sizeLine):
  Inv X pins σ (upd H l (.lst ys)) {s with heap:=s.heap.update l (Obj.mapSeq f),toks:=t'}:=by
 have q:=PySem.IsL.update e f;rw[c]at q;calc I.write (x:=l) (e:=l) (by rw[b];calc trivial) (.inl rfl) (λe u a c=>(Heap.get?_update_other s.heap (Obj.mapSeq f) (Ne.symm a)).trans c) ⟨_,q⟩ ?_;calc⟨g,j8,_,d,q⟩
theorem Inv.XN{a:List Value}{t':Nat}(I:Inv X pins σ H s)(b:Vals ys a)(c:ys.length<=sizeLine):
  Inv X pins σ (upd H s.heap.objs.size (.lst ys)) {s with heap:=s.heap.push {cls:=.type "list",data:=.seq a.toArray},toks:=t'}:=
 I.laid (λ_ _ q=>K' _ q) (J' _) ⟨c,a,0,b,aah _ rfl⟩
theorem Inv.fresh(I:Inv X pins σ H s):H s.heap.objs.size=none:=I.aU.fresh (J' _)
theorem Inv.wz(I:Inv X pins σ H s)(b:H l=some (.lst xs)):xs.length<=sizeLine/\∃(a:List Value) (n:Nat),Vals xs a/\xs.length=a.length/\s.heap.get? l=some {cls:=.type "list",data:=.seq a.toArray n}:=by
 obtain⟨z,a,n,r,e⟩:=I.aU l _ b;calc⟨z,a,n,r,r.length,e⟩
theorem Eo{n:Nat}(h:n<=sizeLine):Builtin.List.listTooLong n=false:=by
 unfold Builtin.List.listTooLong;calc aaq ()
end
section
variable {X:Cx}
def Jt:V->List V->Hp->VK->Prop:=λx vs H Q=>∃l xs y,x=.ref l/\vs=[y]/\H l=some (.lst xs)/\xs.length<sizeLine/\Q .bH (upd H l (.lst (xs++[y])))
theorem tP:V5 X "list.append" Jt:=by
 intro a s σ H x e v f Q I c d h;obtain⟨l,g,y,rfl,rfl,b,i,q⟩:=h
 cases c;obtain⟨u,rfl,f⟩:=d.one;obtain⟨z,a,n,r,c,e⟩:=I.wz b;calc call_meets F.slot_list_append ⟨_,e,rfl⟩ F.entry_list_append (F.args_list_append_2 _ _) (PySem.list_append l a.toArray n u (by rw[aad];lia)) ⟨e,?_⟩;calc⟨.bH,_,I.En (j8:=a++[u]) b e nofun (r.append (.cons f .nil)) ?_,rfl,q⟩;rw[aac,List.length_singleton];lia
def Ju:V->List V->Hp->VK->Prop:=λx vs H Q=>∃l b xs a,x=.ref l/\vs=[.ref b]/\H l=some (.lst xs)/\H b=some (.lst a)/\xs.length+a.length<=sizeLine/\Q .bH (upd H l (.lst (xs++a)))
theorem B8:V5 X "list.extend" Ju:=by
 intro a s σ H x e v j Q I c d h;obtain⟨l,b,k,m,rfl,rfl,f,g,n,q⟩:=h
 cases c;obtain⟨u,rfl,i⟩:=d.one
 cases i;obtain⟨z,a,n,r,c,e⟩:=I.wz f;obtain⟨d,c,h,i,k,j⟩:=I.wz g;have d:a.toArray.size+c.toArray.size<=sizeLine:=by rw[aad,aad];lia
 have g:¬(!a.toArray.isEmpty&&Builtin.List.listTooLong (a.toArray.size+c.toArray.size))=true:=by
  rw[Eo d,Bool.and_false];exact M'
 refine call_meets F.slot_list_extend ⟨_,e,rfl⟩ F.entry_list_extend (F.args_list_extend_2 _ _)
  (AutoSeq1.list_extend_list_list_0 l a.toArray n b c.toArray h g (by rw[aad];lia) ()) ⟨e,j,?_⟩
 calc⟨.bH,_,I.En (j8:=a++c) f e nofun (r.append i) ?_,rfl,q⟩;rw[aac];lia
def XO:V->List V->Hp->VK->Prop:=λx vs H Q=>∃l xs y,x=.ref l/\vs=[]/\H l=some (.lst xs)/\xs[xs.length-1]?=some y/\Q y (upd H l (.lst xs.dropLast))
theorem Nx:V5 X "list.pop" XO:=by
 intro a s σ H x e v i Q I d f h;obtain⟨l,j,y,rfl,rfl,c,g,q⟩:=h
 cases d;have b:=f.zero;subst b;obtain⟨z,a,n,r,d,e⟩:=I.wz c;obtain⟨u,b,f⟩:=r.get g;have h:a.toArray[a.toArray.size-1]?=some u:=by
  show a.toArray[a.length-1]?=some u;rw[<-Array.getElem?_toList,<-d];exact b
 calc call_meets F.slot_list_pop ⟨_,e,rfl⟩ F.entry_list_pop (F.args_list_pop_1 _) (MeetsSeq.list_pop_last l a.toArray n u h (by rw[aad];lia)) ⟨e,?_⟩;refine⟨y,_,I.En (j8:=a.dropLast) c e ?_ r.dropLast ?_,f,q⟩
 ·show a.toArray.eraseIdxIfInBounds (a.toArray.size-1)=a.dropLast.toArray;rw[aad,List.eraseIdxIfInBounds_toArray,yS]
 ·rw[List.length_dropLast];lia
def Ny:V->List V->Hp->VK->Prop:=λx vs H Q=>∃l xs i k y,x=.ref l/\vs=[.int i]/\H l=some (.lst xs)/\-(2^63)<=i/\i<2^63/\seqIndex? i xs.length=some k/\xs[k]?=some y/\Q y (upd H l (.lst (xs.eraseIdx k)))
theorem Ep:V5 X "list.pop" Ny:=by
 intro a s σ H x e v n Q I c d h;obtain⟨l,f,i,k,y,rfl,rfl,b,g,j,m,o,q⟩:=h
 cases c;obtain⟨u,rfl,p⟩:=d.one;obtain⟨t,rfl⟩:=p;obtain⟨z,a,n,r,c,e⟩:=I.wz b;obtain⟨w,d,h⟩:=r.get o;refine call_meets F.slot_list_pop ⟨_,e,rfl⟩ F.entry_list_pop (F.args_list_pop_2 _ _)
  (MeetsSeq.list_pop_at l a.toArray n i t k w (fitsIndex_both g j) (by rw[aad,<-c];calc m) (by rw[<-Array.getElem?_toList];calc d) (by rw[aad];lia)) ⟨e,?_⟩
 refine⟨y,_,I.En (j8:=a.eraseIdx k) b e ?_ (r.eraseIdx k) ?_,h,q⟩
 ·show a.toArray.eraseIdxIfInBounds k=(a.eraseIdx k).toArray;rw[List.eraseIdxIfInBounds_toArray]
 ·have:=og f k;lia
def XQ:R2:=λx y H Q=>∃l b xs a,x=.ref l/\y=.ref b/\H l=some (.lst xs)/\H b=some (.lst a)/\xs.length+a.length<=sizeLine/\∀p,H p=none->Q (.ref p) (upd H p (.lst (xs++a)))
theorem Nz:fE X (binaryOp .Add) XQ:=by
 intro a s σ H x y v u Q I c d h;obtain⟨l,b,e,i,rfl,rfl,f,g,j,q⟩:=h
 cases c
 cases d;obtain⟨z,a,n,r,b,e⟩:=I.wz f;obtain⟨h,b,i,c,j,d⟩:=I.wz g;calc PySem.P.add_list e d ?_ (by rw[aad,aad];lia);have f:a.toArray++b.toArray=(a++b).toArray:=by simp
 rw[f];calc⟨.ref _,_,I.XN (t':=s.toks) (r.append c) (by rw[aac];lia),rfl,q _ I.fresh⟩
theorem Er{pins:List (Addr×Obj)}{s:Shared}{σ:St}{H:Hp}{l:Addr}{xs:List V}{i:Int}{t:Tok}{k:Nat}{Q:Unit->Shared->Prop}(I:Inv X pins σ H s)(b:H l=some (.lst xs))
  (c:-(2^63)<=i) (d:i<2^63) (f:seqIndex? i xs.length=some k) (h:∀s',Inv X pins σ (upd H l (.lst (xs.eraseIdx k))) s'->Q ⟨⟩ s'):
  wpAny (model X.prog X.w) X.A (delItem (.ref l) (.int i t)) Q X.xe s:=by
 obtain⟨z,a,n,r,g,e⟩:=I.wz b;calc PySem.P.delItem_list (k:=k) e (fitsIndex_both c d) (by rw[aad,<-g];calc f) (h _ ?_) (by rw[aad];lia);refine I.En (j8:=a.eraseIdx k) (t':=s.toks) b e ?_ (r.eraseIdx k) ?_
 ·show a.toArray.eraseIdxIfInBounds k=(a.eraseIdx k).toArray;rw[List.eraseIdxIfInBounds_toArray]
 ·have:=og xs k;lia
end
section
variable {prog:Program}{w:World}{A:Around}{E:Value->Shared->Prop}{s:Shared}
set_option maxRecDepth 100000 in
end
section
variable {X:Cx}
end
end
section
variable {a:Addr}{X:Cx}{H H':Hp}{aW:List (Key×V)}{xs:List (List Key×Addr×Value)}{ym:List (TE×TE)}{pos:Pos}{Q:Value->Shared->Prop}
section
variable {κ:Type} [DecidableEq κ]
def gn(aW:List (κ×V))(k:κ):Option V:=(aW.find? λa=>decide (a.1=k)).map (·.2)
def putK(aW:List (κ×V))(k:κ)(v:V):List (κ×V):=
 if (aW.any λa=>decide (a.1=k))=true then aW.map (λa=>if a.1=k then(a.1,v) else a) else aW++[(k,v)]
theorem Es{k:κ}:gn ([]:List (κ×V)) k=none:=rfl
theorem eB{p:κ×V}{r:List (κ×V)}{k:κ}(e:p.1=k):gn (p::r) k=some p.2:=by simp[gn,List.find?_cons,e]
theorem eC{p:κ×V}{r:List (κ×V)}{k:κ}(e:¬p.1=k):gn (p::r) k=gn r k:=by simp[gn,List.find?_cons,e]
theorem ke(k:κ):∀aW:List (κ×V),(aW.any λa=>decide (a.1=k))=(gn aW k).isSome
 | []=>rfl
 |p::r=>by
  rw[List.any_cons];by_cases e:p.1=k
  ·simp only[eB e,decide_eq_true e,Bool.true_or,Option.isSome_some]
  ·rw[eC e,aaq e,Bool.false_or];calc ke k r
theorem wA(k j:κ)(y:V):∀aW:List (κ×V),gn (aW.map λa=>if a.1=k then(a.1,y) else a) j=(gn aW j).map λx=>if j=k then y else x
 | []=>rfl
 |p::r=>by
  have a:=wA k j y r;rw[aba];by_cases h:p.1=k
  ·rw[if_pos h];by_cases e:p.1=j
   ·rw[eB (p:=(p.1,y)) e,eB e,Option.map_some,if_pos (e.symm.trans h)]
   ·rw[eC (p:=(p.1,y)) e,eC e,a]
  ·rw[if_neg h];by_cases e:p.1=j
   ·rw[eB (p:=p) e,eB e,Option.map_some,if_neg (λz=>h (e.trans z))]
   ·rw[eC (p:=p) e,eC e,a]
theorem tQ(k j:κ)(y:V):∀aW:List (κ×V),gn aW k=none->gn (aW++[(k,y)]) j=if j=k then some y else gn aW j
 | [],_=>by
  by_cases e:k=j
  ·rw[if_pos e.symm];exact eB (p:=(k,y)) e
  ·rw[if_neg (λz=>e z.symm)];calc eC (p:=(k,y)) e
 |p::r,a=>by
  rw[List.cons_append];have b:¬p.1=k:=λz=>by rw[eB z]at a;cases a
  rw[eC b]at a;have c:=tQ k j y r a;by_cases e:p.1=j
  ·rw[eB e,eB e,if_neg (λz=>b (e.trans z))]
  ·rw[eC e,eC e,c]
theorem Et(aW:List (κ×V))(k j:κ)(y:V):gn (putK aW k y) j=if j=k then some y else gn aW j:=by
 unfold putK;by_cases a:(aW.any λb=>decide (b.1=k))=true
 ·rw[if_pos a,wA];rw[ke] at a;by_cases e:j=k
  ·obtain⟨x,b⟩:=Option.isSome_iff_exists.mp a;rw[if_pos e,e,b,Option.map_some,if_pos rfl]
  ·rw[if_neg e]
   cases gn aW j with
   |none=>rfl
   |some x=>rw[Option.map_some,if_neg e]
 ·rw[if_neg a];calc tQ k j y aW ?_;rw[ke] at a
  cases q:gn aW k with
  |none=>rfl
  |some x=>rw[q]at a;calc(a rfl).elim
theorem kg(aW:List (κ×V))(k:κ)(v:V):(putK aW k v).length<=aW.length+1:=by
 unfold putK;split
 ·rw[R'];lia
 ·rw[aac,aa5,List.length_nil];lia
theorem Eu{aW:List (κ×V)}{k:κ}(v:V)(h:gn aW k=none):putK aW k v=aW++[(k,v)]:=by
 unfold putK;rw[ke,h];calc if_neg ∅
theorem lD.oh{o:Option V}{u:Option Value}(r:lD o u):o.isSome=u.isSome:=by
 cases o with
 |none=>cases u with
  |none=>rfl
  |some _=>calc(show False from r).elim
 |some _=>cases u with
  |none=>calc(show False from r).elim
  |some _=>rfl
theorem KV.val{aW:List (κ×V)}{vs:List (κ×Value)}(r:KV aW vs)(k:κ):lD (gn aW k) (valueAt vs k):=by
 unfold KV at r;induction r with
 |nil=>calc aaP
 | @cons p q b a h t g=>
  obtain⟨d,i⟩:=h;by_cases e:p.1=k
  ·have c:q.1=k:=d.symm.trans e;have b:valueAt (q::a) k=some q.2:=by simp[valueAt,List.find?_cons,c]
   rw[eB e,b];exact i
  ·have c:¬q.1=k:=λz=>e (d.trans z);have b:valueAt (q::a) k=valueAt a k:=by simp[valueAt,List.find?_cons,c]
   rw[eC e,b];calc g
theorem KV.any{aW:List (κ×V)}{vs:List (κ×Value)}(r:KV aW vs)(k:κ):(aW.any λa=>decide (a.1=k))=vs.any λa=>decide (a.1=k):=by
 unfold KV at r;induction r with
 |nil=>rfl
 |cons h t a=>rw[List.any_cons,List.any_cons,a,h.1]
theorem KV.NA{aW:List (κ×V)}{vs:List (κ×Value)}(r:KV aW vs)(k:κ){y:V}{u:Value}(b:RelV y u):
  KV (aW.map λa=>if a.1=k then(a.1,y) else a) (vs.map λa=>if a.1=k then(a.1,u) else a):=by
 unfold KV at r ⊢;induction r with
 |nil=>calc .nil
 | @cons p q a d h t c=>
  rw[aba,aba];calc .cons ?_ c;obtain⟨a,d⟩:=h;by_cases e:p.1=k
  ·rw[if_pos e,if_pos (a.symm.trans e)];exact⟨a,b⟩
  ·rw[if_neg e,if_neg (λz=>e (a.trans z))];calc⟨a,d⟩
theorem KV.put{aW:List (κ×V)}{vs:List (κ×Value)}(r:KV aW vs)(k:κ){y:V}{u:Value}(a:RelV y u):KV (putK aW k y) (stored vs k u):=by
 unfold putK stored;rw[r.any k];by_cases e:(vs.any λb=>decide (b.1=k))=true
 ·rw[if_pos e,if_pos e];exact r.NA k a
 ·rw[if_neg e,if_neg e];calc Paired.snoc r ⟨rfl,a⟩
theorem KV.length{aW:List (κ×V)}{vs:List (κ×Value)}(r:KV aW vs):aW.length=vs.length:=Paired.length r
end
theorem wB{P:Program}{w:World}{k:Key}{u:Value}(r:RelV (kV k) u):(dG P w).is k u=true:=by
 cases k with
 |inl i=>obtain⟨t,e⟩:=(show ∃t,u=Value.int i t from r);subst e;calc wb P w i t
 |inr x=>obtain⟨t,e⟩:=(show ∃t,u=Value.str x t from r);subst e;calc wc P w x t
theorem tR{P:Program}{w:World}:∀{a:List Key}{us:List Value},Vals (a.map kV) us->ItemsAre (dG P w) a us
 | [],_,r=>by rw[List.map_nil]at r;cases r;calc .nil
 |k::a,_,r=>by
  rw[aba]at r
  cases r with
  |cons h t=>calc .cons (wB h) (tR t)
abbrev KT(H:Hp):List (List Key×V)->List (List Key×Addr×Value)->Prop:=Paired λp q=>p.1=q.1/\H q.2.1=some (.tup (p.1.map kV))/\RelV p.2 q.2.2
theorem KT.val{H:Hp}{aW:List (List Key×V)}{xs:List (List Key×Addr×Value)}(r:KT H aW xs)(k:List Key):lD (gn aW k) ((atKey xs k).map (·.2)):=by
 induction r with
 |nil=>calc aaP
 | @cons p q b a h t g=>
  obtain⟨d,_,i⟩:=h;by_cases e:p.1=k
  ·have c:q.1=k:=d.symm.trans e;have b:atKey (q::a) k=some q.2:=by simp[atKey,List.find?_cons,c]
   rw[eB e,b];exact i
  ·have c:¬q.1=k:=λz=>e (d.trans z);have b:atKey (q::a) k=atKey a k:=by simp[atKey,List.find?_cons,c]
   rw[eC e,b];calc g
theorem KT.NA{H:Hp}{aW:List (List Key×V)}{xs:List (List Key×Addr×Value)}(r:KT H aW xs)(k:List Key){y:V}{u:Value}(c:RelV y u):
  KT H (aW.map λa=>if a.1=k then(a.1,y) else a) (xs.map (putAt k u)):=by
 induction r with
 |nil=>calc .nil
 | @cons p q a b h t d=>
  rw[aba,aba];calc .cons ?_ d;obtain⟨a,b,g⟩:=h;unfold putAt;by_cases e:p.1=k
  ·rw[if_pos e,if_pos (a.symm.trans e)];exact⟨a,b,c⟩
  ·rw[if_neg e,if_neg (λz=>e (a.trans z))];calc⟨a,b,g⟩
theorem KT.put{aW:List (List Key×V)}(r:KT H aW xs)(k:List Key){b:Addr}{y:V}{u:Value}(c:H b=some (.tup (k.map kV)))(a:RelV y u):
  KT H (putK aW k y) (storedH xs k b u):=by
 have e:(aW.any λb=>decide (b.1=k))=(atKey xs k).isSome:=by
  rw[ke,(r.val k).oh,Option.isSome_map]
 unfold putK storedH;rw[e];by_cases q:(atKey xs k).isSome=true
 ·rw[if_pos q,if_pos q];exact r.NA k a
 ·rw[if_neg q,if_neg q];calc Paired.snoc r ⟨rfl,c,a⟩
theorem KT.keeps{aW:List (List Key×V)}(r:KT H aW xs)(c:∀b a,H b=some (.tup a)->H' b=some (.tup a)):KT H' aW xs:=
 Paired.MM r λ_ _ z=>⟨z.1,c _ _ z.2.1,z.2.2⟩
section
variable {P:Program}{w:World}{H:Hp}{h:Heap}{a:Addr}
theorem Lf{u:HO}(ok:lU P w H h)(e:Rd H a u):cF P w H h a u:=e.ok ok
theorem Ao(b:lU P w H h)(e:Rd H a (.dK aW)):aW.length<=sizeLine/\(a==sysModules)=false/\∃vs,KV aW vs/\h.DictOf (dG P w) a vs:=
 show cF P w H h a (.dK aW) from Lf b e
theorem Lg(b:lU P w H h)(e:H a=some (.dK aW)):aW.length<=sizeLine/\(a==sysModules)=false/\∃vs,KV aW vs/\h.DictOf (dG P w) a vs:=Ao b (.inl e)
theorem uW{b:List Key}(c:lU P w H h)(e:H a=some (.tup (b.map kV))):(tupleKind (dG P w)).is h b a:=by
 obtain⟨_,d,r,o,f,g,n,i⟩:=(show cF P w H h a (.tup (b.map kV)) from c a _ e)
 calc⟨o,d.toArray,n,f,g,i,by simpa using tR r⟩
theorem Ap{aW:List (List Key×V)}(d:lU P w H h)(e:Rd H a (.dT aW)):aW.length<=sizeLine/\(a==sysModules)=false/\
  ∃xs,KT H aW xs/\h.DictOfH (tupleKind (dG P w)) a xs:=by
 obtain⟨z,y,xs,r,o,g,i,j,k,n,p,s⟩:=(show cF P w H h a (.dT aW) from Lf d e)
 calc⟨z,y,xs,r,o,g,i,j,k,n,p,λx b=>?_,s⟩;have c:∀{l:List (List Key×V)} {m:List (List Key×Addr×Value)},KT H l m->∀x∈m,(tupleKind (dG P w)).is h x.1 x.2.1:=by
  intro l m q;induction q with
  |nil=>intro x b;calc nomatch b
  | @cons p q g i f t u=>
   intro x b;rcases List.mem_cons.mp b with e|b
   ·subst e;exact uW d (by rw[<-f.1];calc f.2.1)
   ·exact u x b
 calc c r x b
theorem RY{aW:List (List Key×V)}(b:lU P w H h)(e:H a=some (.dT aW)):aW.length<=sizeLine/\(a==sysModules)=false/\
  ∃xs,KT H aW xs/\h.DictOfH (tupleKind (dG P w)) a xs:=Ap b (.inl e)
end
def jA(H:Hp)(a:Addr)(y:V)(r:Option V):Prop:=
 (∃aW k,Rd H a (.dK aW)/\y=kV k/\r=gn aW k)\/∃aW k b,Rd H a (.dT aW)/\y=.ref b/\H b=some (.tup (k.map kV))/\r=gn aW k
def yT(H:Hp)(a:Addr)(y v:V)(H':Hp):Prop:=
 (∃aW k,H a=some (.dK aW)/\y=kV k/\aW.length<sizeLine/\H'=upd H a (.dK (putK aW k v)))\/
 ∃aW k b,H a=some (.dT aW)/\y=.ref b/\H b=some (.tup (k.map kV))/\aW.length<sizeLine/\H'=upd H a (.dT (putK aW k v))
theorem jA.k{k:Key}(e:H a=some (.dK aW)):jA H a (kV k) (gn aW k):=.inl ⟨aW,k,.inl e,rfl,rfl⟩
theorem yT.k{k:Key}{v:V}(e:H a=some (.dK aW))(b:aW.length<sizeLine):yT H a (kV k) v (upd H a (.dK (putK aW k v))):=.inl ⟨aW,k,e,rfl,b,rfl⟩
section
variable {X:Cx}{pins:List (Addr×Obj)}{σ:St}{H:Hp}{s:Shared}{a:Addr}{y v:V}{u r:Value}{o:Option V}{A:Around}{E:Value->Shared->Prop}
theorem Inv.big(I:Inv X pins σ H s):sysModules<s.heap.objs.size:=by
 have h:mainGlobals<s.heap.objs.size:=(I.mod.glob.keeps I.bk).lt;calc Nat.lt_trans ∅ h
theorem B9(n:A.units+1<cLine)(I:Inv X pins σ H s)(g:jA H a y (some v))(m:RelV y u)(h:∀w' s',Inv X pins σ H s'->RelV v w'->Q w' s'):
  wpAny (model X.prog X.w) A (getItem (.ref a) u) Q E s:=by
 rcases g with⟨aW,k,e,d,l⟩|⟨aW,k,b,e,d,q,l⟩
 ·subst d;obtain⟨z,p,g,c,f⟩:=Ao I.aU e;obtain⟨w',i,j⟩:=lD.some_of (v:=v) (o:=valueAt g k) (by rw[l];calc c.val k);exact wpAny_getItem_of (wB m) f.mapOf i (h w' _ (I.tok _) j)
 ·subst d
  cases(show u=Value.ref b from m);obtain⟨z,p,xs,c,f⟩:=Ap I.aU e;obtain⟨w',i,j⟩:=lD.some_of (v:=v) (o:=(atKey xs k).map (·.2)) (by rw[l];calc c.val k);obtain⟨p,b,d⟩:=Option.map_eq_some_iff.mp i;calc wpAny_getItem_heap (tupleKind_room_in1 n) (uW I.aU q) f b ?_;rw[d];calc h w' _ (I.tok _) j
theorem Jv(m:A.units+1<cLine)(I:Inv X pins σ H s)(g:jA H a y o)(j:RelV y u)(h:∀s',Inv X pins σ H s'->Q (.bool (!o.isSome)) s'):
  wpAny (model X.prog X.w) A (compareOp .NotIn u (.ref a)) Q E s:=by
 rcases g with⟨aW,k,e,d,l⟩|⟨aW,k,b,e,d,n,l⟩
 ·subst d;obtain⟨z,f,g,c,i⟩:=Ao I.aU e;calc wpAny_notIn_of (wB j) f i.mapOf ?_;rw[<-(c.val k).oh,<-l];exact h _ (I.tok _)
 ·subst d
  cases(show u=Value.ref b from j);obtain⟨z,f,xs,c,i⟩:=Ap I.aU e;calc wpAny_notIn_heap (tupleKind_room_in1 m) (uW I.aU n) f i ?_;have q:=(c.val k).oh;rw[Option.isSome_map]at q;rw[<-q,<-l];calc h _ (I.tok _)
theorem uX{h':Heap}{t':Nat}{b:HO}(I:Inv X pins σ H s)(d:Rr (H a))(f:Heap.SameBut a s.heap h')(g:∃q,h'.get? a=some q)(c:cF X.prog X.w (upd H a b) h' a b):
  Inv X pins σ (upd H a b) {s with heap:=h',toks:=t'}:=
 I.write (x:=a) (e:=a) d (.inl rfl) (λb q h z=>(f.2 b h).trans z) g c
theorem Ew{P:Program}{w:World}{h':Heap}{vs:List (Key×Value)}(z:aW.length<=sizeLine)(c:(a==sysModules)=false)(b:KV aW vs)(d:h'.DictOf (dG P w) a vs):
  cF P w H' h' a (.dK aW):=⟨z,c,vs,b,d⟩
theorem Ca{Q:Unit->Shared->Prop}(G:A.units+1<cLine)(I:Inv X pins σ H s)(g:yT H a y v H')(B:RelV y u)(C:RelV v r)(h:∀s',Inv X pins σ H' s'->Q ⟨⟩ s'):
  wpAny (model X.prog X.w) A (setItem (.ref a) u r) Q E s:=by
 rcases g with⟨aW,k,e,c,l,j⟩|⟨aW,k,b,e,c,D,l,j⟩
 ·subst c j;obtain⟨z,m,g,d,n⟩:=Lg I.aU e;have o:g.length<=sizeLine:=by rw[<-d.length];exact z
  have p:(putK aW k v).length<=sizeLine:=by have:=kg aW k v;lia
  calc wpAny_setItem_pairs (hsz:=o) (wB B) n λF f x=>h _ ?_;have g:∃q,F.get? a=some q:=let ⟨q,_,_,i,_⟩:=f;⟨q,i⟩
  exact uX I (by rw[e];calc aaP) x g (Ew p m (d.put k C) f)
 ·subst c j
  cases(show u=Value.ref b from B);obtain⟨z,m,xs,d,n⟩:=RY I.aU e;have o:xs.length<=sizeLine:=by rw[<-Paired.length d];exact z
  have p:(putK aW k v).length<=sizeLine:=by have:=kg aW k v;lia
  calc wpAny_setItem_heap (hsz:=o) (tupleKind_room_in1 G) (uW I.aU D) n λF f x=>h _ ?_;obtain⟨q,g,j,i,l,n,o,_,t⟩:=f;calc uX I (by rw[e];calc aaP) x ⟨q,i⟩ ⟨p,m,_,(d.put k D C).keeps λc h b=>?_,q,g,j,i,l,n,o,t⟩;rw[ax (zT b e (λz=>nomatch z))];calc b
end
section
variable {X:Cx}{pins:List (Addr×Obj)}{σ:St}{H:Hp}{s:Shared}{a:Addr}{aW:List (Key×V)}{k:Key}{u:Value}{A:Around}{E:Value->Shared->Prop}
end
theorem wC{pins:List (Addr×Obj)}{σ:St}{s:Shared}{y:V}{o:Option V}(I:Inv X pins σ H s)(g:jA H a y o):s.TypeIs (.ref a) "dict":=by
 rcases g with⟨aW,k,e,_,_⟩|⟨aW,k,b,e,_,_,_⟩
 ·obtain⟨_,_,c,_,b⟩:=Ao I.aU e;exact b.typeIs
 ·obtain⟨_,_,xs,_,b⟩:=Ap I.aU e;calc b.typeIs
def uY(b c:TE):TE:=λσ H Q=>b σ H λy d=>c σ d λx b=>∃a o,x=.ref a/\jA b a y o/\Q (.bl (!o.isSome)) b
def Ex(b c d:TE):TS:=λD σ H=>d σ H λv e=>b σ e λx d=>c σ d λy e=>∃a b,x=.ref a/\yT e a y v b/\D.nx σ b
section
variable {X:Cx}{o i e value:Expr}{pos pos' Ng:Pos}{td ty tv:TE}
theorem Cb(b:X.A.units+1<cLine)(c:PE X i ty)(d:PE X o td):PC X .NotIn i o (uY ty td):=by
 walk_at "xc";refine c9 (c pins s σ H _ I h) λw e ⟨y,f,j,k,l⟩=>c9 (d pins e σ f _ j l) λu c m=>?_;obtain⟨x,n,p,q,a,r,t,g,v⟩:=m;subst t;obtain rfl:u=Value.ref a:=q;exact Jv b p g k λd c=>⟨.bl (!r.isSome),n,c,rfl,v⟩
theorem k9(b:X.A.units+1<cLine)(c:PE X o td)(d:PE X i ty)(e:PE X value tv)(f:swapsWith value (some (.Subscript o i pos')) pos.line X.env=pure false):
  PS X (.Assign [.Subscript o i pos'] value pos) (Ex td ty tv):=by
 walk_at "xd";refine wpAny_Assign_Subscript (c9 (e pins s σ H _ I h) λr j ⟨v,k,l,m,n⟩=>c9 (c pins j σ k _ l n) λu e ⟨x,p,q,t,r⟩=>c9 (d pins e σ p _ q r) λc j w=>?_) f;obtain⟨y,c,z,B,a,C,E,g,F⟩:=w;subst E;obtain rfl:u=Value.ref a:=t;exact Ca b z g B m λd c=>⟨σ,C,c,F⟩
end
theorem wD{P:Program}{w:World}(h:Heap)(a:sysModules<h.objs.size):cF P w H (h.push {cls:=.type "dict",data:=.dict #[]}) h.objs.size (.dK []):=
 ⟨aav _,beq_eq_false_iff_ne.mpr (Ne.symm (aay a)),[],.nil,Heap.DictOf.new h⟩
def yU:TE:=λ_ H Q=>∀p,H p=none->Q (.ref p) (upd H p (.dK []))
section
variable {X:Cx}{pos:Pos}
theorem Ey:PE X (.Dict [] [] pos) yU:=.mk λb s σ H Q I h=>
 wpAny_Dict_empty ⟨.ref s.heap.objs.size,_,I.laid (a:=s.heap.objs.size) (o:=.dK []) (t':=s.toks) (λ_ _ q=>K' _ q) (J' _) (wD s.heap I.big),rfl,h _ (I.aU.fresh (J' _))⟩
end
def oj:List (TE×TE)->St->Hp->(List (V×V)->Hp->Prop)->Prop
 | [],_,H,Q=>Q [] H
 |(a,b)::r,σ,H,Q=>a σ H λx c=>b σ c λy a=>oj r σ a λb c=>Q ((x,y)::b) c
abbrev VV:List (V×V)->List (Value×Value)->Prop:=Paired λp q=>RelV p.1 q.1/\RelV p.2 q.2
def V6(X:Cx)(pos:Pos)(b:List (Option Expr))(a:List Expr)(ym:List (TE×TE)):Prop:=
 ∀(pins:List (Addr×Obj)) (s:Shared) (σ:St) (H:Hp) (Q:List (V×V)->Hp->Prop),Inv X pins σ H s->oj ym σ H Q->
  wpAny (model X.prog X.w) X.A (evalPairs (pairTrees b a X.env pos)) (λvs s'=>∃a H',Inv X pins σ H' s'/\VV a vs/\Q a H') X.xe s
theorem Jw:V6 X pos [] [] []:=λa s σ H Q I h=>pairTrees_nil_walk ⟨[],H,I,.nil,h⟩
theorem qH{k v:Expr}{a:List (Option Expr)}{vs:List Expr}{b c:TE}(d:PE X k b)(e:PE X v c)(f:V6 X pos a vs ym):
  V6 X pos (some k::a) (v::vs) ((b,c)::ym):=λa s σ H Q I h=>
 pairTrees_cons_walk (c9 (d a s σ H _ I h) λu b ⟨x,c,g,i,j⟩=>c9 (e a b σ c _ g j) λn d ⟨y,h,k,l,m⟩=>
  c9 (f a d σ h _ k m) λn o ⟨c,e,g,b,j⟩=>⟨(x,y)::c,e,g,.cons ⟨i,l⟩ b,j⟩)
def lW(aW a:List (Key×V)):List (Key×V):=a.foldl (λb c=>putK b c.1 c.2) aW
theorem KV.merge:∀{a:List (Key×V)}{b:List (Key×Value)}{aW:List (Key×V)}{vs:List (Key×Value)},KV a b->KV aW vs->KV (lW aW a) (merged vs b):=by
 intro a b aW vs r;unfold KV at r;induction r generalizing aW vs with
 |nil=>intro q;calc q
 | @cons p q b c h t a=>
  intro b;have e:KV (putK aW p.1 p.2) (stored vs q.1 q.2):=by
   have:=b.put p.1 h.2;rw[<-h.1];exact this
  calc a e
theorem lQ:∀(a aW:List (Key×V)),(lW aW a).length<=aW.length+a.length
 | [],aW=>by show aW.length<=aW.length+0;lia
 |p::r,aW=>by
  have a:=lQ r (putK aW p.1 p.2);have a:=kg aW p.1 p.2;show(lW (putK aW p.1 p.2) r).length<=_;rw[aa5];lia
theorem qI{P:Program}{w:World}:∀{aW:List (Key×V)}{ws:List (Value×Value)},VV (aW.map λb=>(kV b.1,b.2)) ws->∃d,Carries (dG P w) ws d/\KV aW d
 | [],_,r=>by rw[List.map_nil]at r;cases r;calc⟨[],aaP,.nil⟩
 |p::aW,_,r=>by
  rw[aba]at r
  cases r with
  | @cons a b c e h t=>
   obtain⟨d,c,q⟩:=qI (P:=P) (w:=w) t;obtain⟨f,e⟩:=b;calc⟨(p.1,e)::d,⟨wB h.1,rfl,c⟩,.cons ⟨rfl,h.2⟩ q⟩
def Aq(ym:List (TE×TE)):TE:=λσ H Q=>∀p,H p=none->oj ym σ (upd H p (.dK [])) λc a=>a p=some (.dK [])/\∃aW:List (Key×V),c=aW.map (λb=>(kV b.1,b.2))/\aW.length<=15/\Q (.ref p) (upd a p (.dK (lW [] aW)))
theorem Jx{b:List (Option Expr)}{d:List Expr}(h:V6 X pos b d ym)(k:b.all (·.isSome)=true)(l:b.length=d.length)(m:b≠[])
  (f:b.length<=15):PE X (.Dict b d pos) (Aq ym):=by
 refine⟨?_⟩;intro b s σ H Q I q;have d:=I.aU.fresh (J' s.heap.objs.size);have n:=I.laid (a:=s.heap.objs.size) (o:=.dK []) (h':=s.heap.push {cls:=.type "dict",data:=.dict #[]}) (t':=s.toks) (λ_ _ q=>K' _ q) (J' _) (wD s.heap I.big);refine wpAny_Dict_walk (knd:=dG X.prog X.w) k l m f (c9 (h b _ σ _ _ n (q _ d)) λz B p=>?_);obtain⟨b,d,j,g,e,aW,r,f,t⟩:=p;subst r;obtain⟨u,c,v⟩:=qI (P:=X.prog) (w:=X.w) g;obtain⟨z,x,b,y,A⟩:=Lg j.aU e
 cases y;calc⟨u,c,A,λi b d=>⟨.ref s.heap.objs.size,_,?_,rfl,t⟩⟩;have c:(lW [] aW).length<=sizeLine:=by
  have f:=lQ aW [];rw[List.length_nil]at f;rw[sizeLine_eq];lia
 have f:∃q,i.get? s.heap.objs.size=some q:=let ⟨q,_,_,g,_⟩:=b;⟨q,g⟩
 calc uX j (by rw[e];calc aaP) d f (Ew c x (v.merge .nil) b)
section
variable {X:Cx}{pins:List (Addr×Obj)}{σ:St}{H:Hp}{s:Shared}{a:Addr}{y d:V}{u r:Value}{o:Option V}{A:Around}{E:Value->Shared->Prop}
end
section
variable {X:Cx}{pins:List (Addr×Obj)}{σ:St}{H:Hp}{s:Shared}{a:Addr}{y:V}{u:Value}{A:Around}{E:Value->Shared->Prop}
end
end
end L2
namespace Att
open PySem PySem.W PySem.Calls PyProof.Rows
theorem pW{P:Params}{h:Heap}:∀(ns:List Int) (vs:List Value),WellAll P h vs (ns.map WData.int)->IntsAre vs ns:=by
 intro ns;induction ns with
 |nil=>
  intro vs w;rw[List.map_nil]at w
  cases w;calc .nil
 |cons n ns c=>
  intro vs w;rw[aba]at w
  cases w with
  |cons a b=>
   cases a;calc .cons _ _ (c _ b)
theorem Cc{l:OpenLaw}{n:Nat}(i:l.most=some n){P:Params}{h:Heap}{args:List WData}{b:List Value}
  (f:l.row.toRowW.claim.pre args=true) (j:WellAll P h b args):
  ∃a vs ns,b=[Value.ref a]/\args=[WData.list (ns.map WData.int)]/\h.get? a=some {cls:=.type "list",data:=.seq vs.toArray}/\IntsAre vs ns/\ns.length<=n:=by
 have e:WShape.hasAll [] args [.list .int]=true:=(pre_splitW f).1;have g:l.pre.holds [] {args:=args}=true:=(pre_splitW f).2;obtain⟨d,r,rfl,k,m⟩:=hasAllW_cons e;obtain rfl:=hasAllW_nil m;obtain⟨q,rfl,o⟩:=hasW_list k;obtain⟨ns,rfl⟩:=items_int o;have c:ns.length<=n:=by
  unfold OpenLaw.pre at g;have a:(WTm.not (.lt (.lit (.int (n:Int))) (.len (.arg 0)))).holds [] {args:=[.list (ns.map .int)]}=true:=by
   have a:=(holds_andW g).1;rw[i]at a;exact a
  have b:=condW_of a (w_not (w_lt w_lit (w_len_list (w_arg rfl))));rw[R']at b;calc Nat.le_of_not_lt λq=>?_;have a:(n:Int)<((ns.length:Nat):Int):=by lia
  first
   |(rw[aaj a]at b;calc absurd b ∅)
   |(simp at b;lia)
 cases j with
 |cons p s=>
  cases s
  cases p with
  |list a b=>calc⟨_,_,ns,rfl,rfl,a,pW ns _ b,c⟩
theorem Cd(l:OpenLaw)(args:List WData):l.row.toRowW.claim.post args (.bool true) args=true:=
 postW_of (r:=l.row.toRowW) (X:=(true == true))
  (show WShape.has [] (.bool true) .bool=true by first|rfl|decide|simp[WShape.has,WShape.arms,WShape.armsAll])
  (show(WTm.eq .res (.lit (.bool true))).value [] {args:=args,res:=some (.bool true),after:=args}=some (.bool (true==true)) from w_eq_bool (w_res rfl) w_lit) rfl
theorem wF{l:OpenLaw}{n:Nat}{q:Program}{c:List Str}{m:(Str->Option Value)->Heap->Prop}{p:World->Heap->Prop}{d:DefRec}
  (v:l.most=some n) (x:d.params.defaults=[])
  (call:∀(w:World) (s₀ b:Shared) (h j:Str->Option Value) (g:Addr) (o:Obj) (k i e:Value) (a:Addr) (vs:List Value) (ns:List Int),
   Ground q c [] m w s₀ h j b.heap->p w b.heap->
   b.heap.get? g=some o->o.data=.func (docDef d.name d.params d.body d.scope k i e)->b.heap.CodeRec i d.name->h d.name=some (.ref g)->
   b.heap.get? a=some {cls:=.type "list",data:=.seq vs.toArray}->IntsAre vs ns->ns.length<=n->b.gens=#[]->
   codeAny (model l.prog w) callerA (.call (.ref g) ⟨[.ref a],[]⟩) (λr s'=>r=.ok (.ret (.bool true))/\OldK b.heap s'.heap/\s'.os=b.os/\AllBare s'.gens) b):
  WalkO q c m p l.row.toRowW d [] (λf vs=>PySem.call f vs):=by
 intro w s₀ b h j G Y g o k i e y kV z A B s C D t u K E F H I L;obtain rfl:y=.none:=Dflts.none s x;obtain rfl:kV=.none:=Dflts.noKw s;obtain⟨a,vs,ns,rfl,rfl,f,c,d⟩:=Cc v E I;calc enter_call (codeAny_mono (call w s₀ b h j g o k i e a vs ns G Y z (fd_plain A) B C f c d D) λr s' J=>?_);obtain⟨rfl,a,b,c⟩:=J;calc⟨.inl ⟨.bool true,.bool true,[],rfl,λ_=>rfl,.bool true,Cd l _,λ_=>⟨List.Pairwise.nil,λ_ d=>(nomatch d)⟩⟩,a,b,c⟩
section
variable {prog:Program}{w:World}{A:Around}{E:Value->Shared->Prop}{s:Shared}{K:Frag}
end
end Att
namespace L2
open PySem PySem.Spec PyProof.Rows
section
theorem tU:∀{vs:List Value}{ns:List Int},IntsAre vs ns->Vals (ns.map V.int) vs
 |_,_,.nil=>.nil
 |_,_,.cons n t h=>.cons ⟨t,rfl⟩ (tU h)
def ND(H:Hp):Prop:=∀b,H b=none\/∃o xs,H b=some (.yj o (.lst xs))
theorem Ez{P:Program}{w:World}{K:W.Frag}{j J:Str->Option Value}{CX:Ik}{k:Nat}{m a:Addr}{n:FuncData}{x:Str}{sp:Sp}{c:Shared}{vs:List Value}{ns:List Int}
  (N:K.In c.heap) (l:c.heap.Ns mainGlobals j) (g:c.heap.Ns builtinsNs J) (V7:∀x:Str,x≠"__name__"->J x=bootBuiltins x) (XR:c.heap.NoLimit) (hg:c.gens=#[])
  (G:c.heap.get? a=some {cls:=.type "list",data:=.seq vs.toArray}) (O:IntsAre vs ns) (R:ns.length<=sizeLine) (hr:eR k callerA)
  (F:∀base:Heap,K.In base->base.Ns mainGlobals j->lG P w K j base CX k m n [x] sp) (R1:∀(s:Shared) (u:Value),BindsTo s n ⟨[u],[]⟩ [(x,u)])
  (Lc:∀H:Hp,ND H->aO K H a (ns.map V.int)->sp [.ref a] H (λv _=>v=.bl true) λ_ _ _=>False)
  (XS:∀H e s',CX [] H c (λ_ _ _=>False) e s'->False):
  codeAny (model P w) callerA (.call (.ref m) ⟨[.ref a],[]⟩) (λr s'=>r=.ok (.ret (.bool true))/\OldK c.heap s'.heap/\s'.os=c.os/\AllBare s'.gens) c:=by
 have S:=tU O;have XT:=O.length;have i:∀H:Hp,ND H->aO K H a (ns.map V.int)->lU P w H c.heap->(∀b,H b≠none->b=a)->(H a≠none->K.lookup a=none)->
   codeAny (model P w) callerA (.call (.ref m) ⟨[.ref a],[]⟩) (λr s'=>r=.ok (.ret (.bool true))/\OldK c.heap s'.heap/\s'.os=c.os/\AllBare s'.gens) c:=by
  intro H T hS U X hK;have Y:∀{b:Addr} {o:Obj},c.heap.get? b=some o->H b=none->(uJ c.heap H).get? b=some o:=λe n=>DI e n;have RL:∀{b:Addr} {o:Obj} {p:Array DictEntry} {t:Nat},c.heap.get? b=some o->o.data=.dict p t->H b=none:=λ{b o p t} e d=>by
   cases q:H b with
   |none=>rfl
   |some u=>
    have L:b=a:=X b (by rw[q];simp);subst L;rw[G]at e;cases e;have d':Data.seq vs.toArray _=Data.dict p t:=d
    cases d'
  have I:∀{b:Addr} {m:Str->Option Value},c.heap.Ns b m->(uJ c.heap H).Ns b m:=λ{b m} ⟨o,p,t,e,d,r⟩=>⟨o,p,t,Y e (RL e d),d,r⟩
  have y:K.In (uJ c.heap H):=λb o e=>Y (N b o e) (by
   cases q:H b with
   |none=>rfl
   |some u=>
    have L:b=a:=X b (by rw[q];simp);subst L;rw[hK (by rw[q];simp)] at e;cases e)
  have d:Mod K j (uJ c.heap H):=⟨y,I l,⟨J,I g,V7⟩,let ⟨k,m,n⟩:=XR;⟨k,I m,n⟩⟩
  have k:yL P w K j (uJ c.heap H) callerA [] c H:=⟨rfl,d,λb o e=>IZ e,Nat.le_of_eq (BQ _ _),trivial,λb g=>absurd (show b∈([]:List Addr) from g) nofun,U,.of_eq hg⟩
  refine codeAny_mono ((F _ y (I l)).run callerA [] c H ⟨[.ref a],[]⟩ [.ref a] [.ref a] _ _ hr k (R1 c (.ref a)) (.cons rfl .nil) (Lc H T hS)) λr s' h=>?_
  cases r with
  |error e=>calc(XS H e s' h).elim
  |ok fl=>
   cases fl with
   |next=>calc aa2 h
   |brk=>calc aa2 h
   |cont=>calc aa2 h
   |ret u=>
    obtain⟨v,c,os,B,Z,XU,r',q⟩:=h;have q':v=.bl true:=q;subst q';obtain rfl:u=Value.bool true:=r';refine⟨rfl,OldK.of_keep λb o e=>?_,os,B⟩
    cases q:H b with
    |none=>calc Z.keep b o e q (by intro z;calc absurd (show b∈([]:List Addr) from z) nofun) nofun
    |some u=>
     rcases T b with z|⟨ob,c,z⟩
     ·rw[q]at z;cases z
     ·have z2:=Z.uH b ob _ z;obtain⟨e1,_⟩:=U b _ z;obtain⟨e2,_⟩:=XU b _ z2;rw[e]at e1;cases e1;exact e2
 cases M:K.lookup a with
 |some o=>
  have e:=N a o M;rw[G]at e
  cases e;calc i (λ_=>none) (λ_=>.inl rfl) (.inr ⟨_,vs.toArray,_,M,rfl,rfl,rfl,by rw[aad,XT];calc R,by simpa using S⟩) (λb u z=>by have C:(none:Option HO)=some u:=z;cases C) (λb z=>absurd rfl z) λz=>absurd rfl z
 |none=>
  refine i (λb=>if b=a then some (.yj {cls:=.type "list",data:=.seq vs.toArray} (.lst (ns.map V.int))) else none) (λb=>?_) (.inl (.inr ⟨{cls:=.type "list",data:=.seq vs.toArray},if_pos rfl⟩)) (λb u z=>?_) (λb z=>?_) λ_=>M
  ·by_cases g:b=a
   ·exact .inr ⟨_,_,if_pos g⟩
   ·exact .inl (if_neg g)
  ·by_cases g:b=a
   ·have C:=(if_pos g).symm.trans z
    cases C;subst g;exact⟨G,by rw[R'];calc R,vs,_,S,G⟩
   ·have C:=(if_neg g).symm.trans z
    cases C
  ·by_cases g:b=a
   ·exact g
   ·calc absurd (if_neg g) z
end
section
theorem Jz{l:W.OpenLaw}{n k:Nat}{q:Program}{c:List Str}{o:(Str->Option Value)->Heap->Prop}{m:World->Heap->Prop}{d:DefRec}{K:Params->W.Frag}{CX:World->Ik}{sp:World->Sp}{x:Str}
  (p:l.most=some n) (r:n<=sizeLine) (t:d.params.defaults=[]) (y:eR k callerA)
  (z:∀(w:World) (h:Heap),m w h->(K w.params).In h)
  (F:∀(w:World) (i:Str->Option Value) (j:Addr) (h:Heap),(K w.params).In h->h.Ns mainGlobals i->i d.name=some (.ref j)->
   ∃h:FuncData,(∀(s:Shared) (u:Value),BindsTo s h ⟨[u],[]⟩ [(x,u)])/\
    ∀base:Heap,(K w.params).In base->base.Ns mainGlobals i->lG l.prog w (K w.params) i base (CX w) k j h [x] (sp w))
  (u:∀(w:World) (H:Hp) (a:Addr) (ns:List Int),ns.length<=n->ND H->aO (K w.params) H a (ns.map V.int)->sp w [.ref a] H (λv _=>v=.bl true) λ_ _ _=>False)
  (n:∀(w:World) (H:Hp) (s:Shared) (e:Value) (s':Shared),CX w [] H s (λ_ _ _=>False) e s'->False):
  W.WalkO q c o m l.row.toRowW d [] (λf vs=>PySem.call f vs):=by
 calc Att.wF p t λw k f i v j o x A l a vs ns G Y B C D m q d c s=>?_;have k:=z w _ Y;obtain⟨h,l,o⟩:=F w i j _ k G.T.g m;calc Ez k G.T.g G.T.b G.T.builtins G.T.nolimit s q d (aaB c r) y o l (λH h p=>u w H a ns c h p) λH e s'=>n w H f e s'
end
section
variable {f:Addr}{st:Stmt}{qual:Str}
def eg(s:Stmt):Arguments:=match s with
 | .FunctionDef _ a _ _ _ _ _ _ _ _=>a
 |_=>{posonlyargs:=[],args:=[],vararg:=none,kwonlyargs:=[],kw_defaults:=[],kwarg:=none,defaults:=[]}
def cO(s:Stmt):List Stmt:=match s with
 | .FunctionDef _ _ b _ _ _ _ _ _ _=>b
 |_=>[]
def ay(s:Stmt):Scope:=match s with
 | .FunctionDef _ _ _ _ _ _ sc _ _ _=>sc
 |_=>{kind:=.function,names:=[],isGenerator:=false,isCoroutine:=false}
abbrev Ce:Ik:=λ_ _ _ _ _ _=>False
abbrev E0:XK:=λ_ _ _=>False
theorem As{X:Cx}:Passes Ce X E0:=λ_ _ _ _ _ _ _ h=>h.elim
structure JA(K:W.Frag)(x qual:Str)(st:Stmt)(f:Addr)(fd:FuncData):Prop where
 ex:∃(oc:Value) (od:Option Addr) (kV doc pm:Value) (an:Option Addr) (gj ct:Value) (Lb:Array (Option Value)),
  fd=W.fnOf x qual (eg st) (cO st) (ay st) .none kV doc pm an gj ct/\K.lookup f=some ⟨oc,od,.func fd,Lb⟩/\W.codeIn K gj qual=true
 kp:W.keepIn K (.ref f)=true
section
variable {P:Program}{w:World}{K:W.Frag}{mg:Str->Option Value}{base:Heap}
theorem JA.ok{x:Str}{d:FuncData}{N b:List Str}{k:Nat}{sp:Sp}(F:JA K x qual st f d)(S:aC N b (ay st))(c:∀vs H Q E,sp vs H Q E->vs.length=b.length)
  (e:∀(a:Value) (A:Around) (outer:List Env) (s:Shared) (H:Hp) (vs:List V) (Q:VK) (E:XK),eR k (A.deeper (envOfC qual (ay st) s.heap.objs.size f a))->sp vs H Q E->
   ∃t,vY (qC Ce P w K mg base N qual (ay st) f a A outer s H E).Ja (cO st) t/\t {nx:=λ_ g=>Q .bH g,rt:=Q} (start N vs) H):lG P w K mg base Ce (k + 1) f d b sp:=by
 obtain⟨i,j,kV,h,l,m,a,n,o,rfl,b,d⟩:=F.ex;calc RM b d S c λA outer s H vs Q E g i=>?_;obtain⟨t,h,q⟩:=e a A outer s H vs Q E g i;calc⟨t,h.Ja,q⟩
theorem JA.binds{x:Str}{g:FuncData}{b:List Str}(F:JA K x qual st f g)
  (h:∀(kV a c:Value) (d:Option Addr) (e ct:Value) (us:List Value),us.length=b.length->bindArgs (W.fnOf x qual (eg st) (cO st) (ay st) .none kV a c d e ct) ⟨us,[]⟩=pure (b.zip us)):Binds K g b []:=by
 obtain⟨i,j,kV,a,c,d,e,ct,k,rfl,b,g⟩:=F.ex;calc .all (h kV a c d e ct)
theorem lX{x:Str}{g:Value}{h d:Option Addr}{i:Array (Option Value)}{kV a e b ct:Value}(l:K.lookup f=some ⟨g,h,.func (W.fnOf x qual (eg st) (cO st) (ay st) .none kV a e d b ct),i⟩)
  (c:W.codeIn K b qual=true) (k:W.keepIn K (.ref f)=true):JA K x qual st f (W.fnOf x qual (eg st) (cO st) (ay st) .none kV a e d b ct):=⟨⟨g,h,kV,a,e,d,b,ct,i,rfl,l,c⟩,k⟩
end
theorem aD{n:Nat}(h:n<=1000):n<sizeLine:=abm h ∅
section
variable {X:Cx}
theorem pv(i:Nat){x:Str}{a:Pos}(b:X.N[i]?=some x:=by rfl)(c:Ru X.env.scope x:=by first|calc Or.inl rfl|calc Or.inr (Or.inl rfl)|calc Or.inr (Or.inr rfl))(d:(x==("__debug__":Str))=false:=by decide)
  (e:(x==("__classdict__":Str))=false:=by decide):PE X (.Name x a) (DK i):=DM b c d e
end
def aq(H a:Hp):Prop:=∀b o,H b=some o->a b=some o
theorem aq.refl(H:Hp):aq H H:=λ_ _ h=>h
theorem aq.trans{H c d:Hp}(a:aq H c)(b:aq c d):aq H d:=λc o h=>b c o (a c o h)
theorem aq.free{H a:Hp}(e:aq H a){l:Addr}(h:a l=Option.none):H l=Option.none:=by
 cases q:H l with
 |none=>rfl
 |some o=>
  rw[e l o q]at h
  cases h
theorem aq.seq{K:W.Frag}{H b:Hp}{a:Addr}{xs:List V}(e:aq H b)(h:aO K H a xs):aO K b a xs:=by
 rcases h with(h|⟨o,h⟩)|h
 ·exact .inl (.inl (e _ _ h))
 ·exact .inl (.inr ⟨o,e _ _ h⟩)
 ·calc .inr h
end
end L2
set_option maxHeartbeats 4000000
namespace L2
open PySem PySem.Spec PyProof.Rows
section
variable {X:Cx}{H H₂:Hp}{pins:List (Addr×Obj)}{s:Shared}{σ:St}
def kh(env:Env):List (Str×NameKind)->List (Str×Addr)->List (Str×Addr)
 | [],cs=>cs
 |(n,k)::r,cs=>kh env r (if k == .free then(n,(env.cells.lookup n).getD 0)::cs else cs)
theorem wG{env:Env}{x:Str}{c:Addr}:∀{l:List (Str×NameKind)}{cs:List (Str×Addr)},(x,c)∈kh env l cs->(x,c)∈cs\/((x,NameKind.free)∈l/\c=(env.cells.lookup x).getD 0)
 | [],cs,h=>.inl h
 |(n,k)::r,cs,h=>by
  unfold kh at h;rcases wG h with a|⟨a,g⟩
  ·by_cases b:(k == NameKind.free)=true
   ·rw[if_pos b] at a;have i:k=.free:=by simpa using b
    rcases List.mem_cons.mp a with e|e
    ·have d:=congrArg Prod.fst e;have f:=congrArg Prod.snd e;simp only at d f;subst d i;exact .inr ⟨aaE,f⟩
    ·exact .inl e
   ·rw[if_neg b]at a;exact .inl a
  ·calc .inr ⟨aao _ a,g⟩
theorem tW{env:Env}{p:Str×Addr}:∀{l:List (Str×NameKind)}{cs:List (Str×Addr)},p∈cs->p∈kh env l cs
 | [],_,h=>h
 |(n,k)::r,cs,h=>by
  unfold kh;calc tW ?_;split
  ·exact aao _ h
  ·calc h
theorem qJ{env:Env}{x:Str}:∀{l:List (Str×NameKind)}{cs:List (Str×Addr)},(x,NameKind.free)∈l->(x,(env.cells.lookup x).getD 0)∈kh env l cs
 | [],_,h=>by simp at h
 |(n,k)::r,cs,h=>by
  unfold kh;rcases List.mem_cons.mp h with e|e
  ·have a:=congrArg Prod.fst e;have b:=congrArg Prod.snd e;simp only at a b;subst a b;calc tW ?_;rw[if_pos nofun];exact aaE
  ·calc qJ e
theorem eS{β:Type}:∀{l:List (Str×β)}{x:Str}{c:β},(x,c)∈l->∃d,l.lookup x=some d
 | [],_,_,h=>by simp at h
 |(n,b)::r,x,c,h=>by
  by_cases e:x=n
  ·subst e;exact⟨b,nofun⟩
  ·have a:(x == n)=false:=beq_eq_false_iff_ne.mpr e;rcases List.mem_cons.mp h with q | q
   ·exact absurd (congrArg Prod.fst q) e
   ·obtain⟨d,b⟩:=eS q;calc⟨d,by simp only[List.lookup_cons,a];calc b⟩
theorem lR{scope:Scope}{env:Env}(h:∀x∈scope.names,x.2=.free->∃c,env.cells.lookup x.1=some c):closureFor scope env=pure (kh env scope.names []):=by
 unfold closureFor;have b:∀(l:List (Str×NameKind)) (a:List (Str×Addr)),(∀x ∈ l,x.2=.free->∃c,env.cells.lookup x.1=some c)->
   ((forIn l a λ(x:Str×NameKind) (r:List (Str×Addr))=>if (x.2==NameKind.free)=true then do let y <-cellOf env x.1;pure (ForInStep.yield ((x.1,y)::r)) else pure (ForInStep.yield r)):Sem (List (Str×Addr)))=pure (kh env l a):=by
  intro l;induction l with
  |nil=>intro a _;rfl
  |cons p r f=>
   intro a d;obtain⟨n,k⟩:=p;rw[List.forIn_cons];dsimp only;by_cases a:(k==NameKind.free)=true
   ·obtain⟨c,g⟩:=d (n,k) aaE (by simpa using a);have e:cellOf env n=pure c:=by unfold cellOf;rw[g]
    rw[if_pos a,e,pure_bind,pure_bind];dsimp only;rw[f _ λx c=>d x (aao _ c)];show _=pure (kh env r _);rw[if_pos a,g];rfl
   ·rw[if_neg a,pure_bind];dsimp only;rw[f _ λx c=>d x (aao _ c)];show _=pure (kh env r _);rw[if_neg a]
 have:=b scope.names [] h;simp only at this ⊢;rw[this,pure_bind]
def Au(a:List Expr)(env:Env):Sem Bool:=forIn a true λc r=>if r=true then do let ok <-isTrue c env (eval c env);pure (ForInStep.yield ok) else pure (ForInStep.yield r)
def Ql(X:Cx)(a:List Expr)(t:TT):Prop:=
 ∀(pins:List (Addr×Obj)) (s:Shared) (σ:St) (H:Hp) (Q:Bool->Hp->Prop),Inv X pins σ H s->t σ H Q->wpAny (model X.prog X.w) X.A (Au a X.env) (TP X pins σ Q) X.xe s
def iA:TT:=λ_ H Q=>Q true H
theorem JB:Ql X [] iA:=λ_ _ _ H _ I h=>S' ⟨H,I,h⟩
theorem gC{c:Expr}{t:TT}(h:PT X c t):Ql X [c] t:=λpins s σ H Q I a=>wpAny_tests_one (h pins s σ H Q I a)
section
variable {prog:Program}{w:World}{A:Around}{R:Result->Shared->Prop}{s:Shared}
theorem uZ{o a e:Expr}{p:List Expr}{scope:Scope}{t:Pos}{y q:Value}{env:Env}(I:Nat->Shared->Prop)
  (u:∀n s,I n s->wpAny (model prog w) A (pyNext y) (λr b=>match r with
   |none=>R (.ok .next) b
   | some v=>wpAny (model prog w) A (letOwnedTupleGo a y v) (λ_ f=>wpAny (model prog w) A (assign a env v) (λ_ g=>
     wpAny (model prog w) A (Au p env) (λok c=>
      if ok=true then wpAny (model prog w) A (eval o env) (λx i=>
       wpAny (model prog w) A (call (.builtin "list.append") [q,x]) (λ_ j=>∃m,m < n/\I m j) (λ_ _=>False) i) (λ_ _=>False) c
      else ∃m,m < n/\I m c) (λ_ _=>False) g) (λ_ _=>False) f) (λ_ _=>False) b) (λ_ _=>False) s)
  (n:Nat) (h:I n s):
  codeAny (model prog w) A (.compLoop (.ListComp o [⟨a,e,p,0⟩] scope t) 0 y q env) R s:=by
 calc codeAny_loop rfl I (λn s m=>?_) n h;show wpAny _ A ((compTurn (.ListComp o [⟨a,e,p,0⟩] scope t) 0 y q env).onRaise (λx=>do noteFrame x env;theTreesLotGoes x)) _ _ s;calc wpAny_noted ?_;rw[compTurn_list];refine E' (wpAny_standAt (E' (abg (u n s m) (λr b k=>?_) λ_ _ d=>d.elim)))
 cases r with
 |none=>calc S' k
 |some v=>
  calc E' (abg k (λ_ f a=>?_) λ_ _ d=>d.elim);refine E' (abg a (λ_ g b=>E' (abg b (λok c l=>?_) λ_ _ d=>d.elim)) λ_ _ d=>d.elim)
  cases ok with
  |false=>calc S' ⟨rfl,l⟩
  |true=>
   calc E' (E' (abg l (λx i a=>E' (abg a (λ_ j b=>S' (S' ⟨rfl,b⟩)) λ_ _ d=>d.elim)) λ_ _ d=>d.elim))
end
def Cg(N N':List Str)(ix:List (Option Nat))(scope:Scope):Bool:=
 N'.length==ix.length&&(N'.zip ix).all λp=>match p.2 with|none=>true|some j=>N[j]? == some p.1&&scope.names.lookup p.1==some .free
def sr(ix:List (Option Nat))(σ:St):St:=ix.map λo=>match o with|none=>none|some j=>(σ[j]?).join
def freeOk(scope:Scope)(outer:Scope):Bool:=
 scope.names.all λx=>(x.2 != .cell||scope.names.lookup x.1==some .cell)&&(x.2 != .free||(outer.names.lookup x.1==some .cell||outer.names.lookup x.1==some .free))&&(x.2 != .local||scope.names.lookup x.1==some .local)&&(x.2 != .free||scope.names.lookup x.1==some .free)
def Qm(env:Env)(names:List (Str×NameKind))(C:Addr):List (Str×Addr):=cellsFrom (C+1) names (kh env names [])
theorem lg:∀(names:List (Str×NameKind)) (n:Nat) (a:List (Str×Addr)),cellsFrom n names a=cellsFrom n names []++a
 | [],_,_=>rfl
 |(x,k)::r,n,a=>by
  unfold cellsFrom;split
  ·rw[lg r (n+1) ((x,n)::a),lg r (n+1) [(x,n)],List.append_assoc];rfl
  ·calc lg r n a
theorem qK{x:Str}{c:Addr}:∀{names:List (Str×NameKind)}{n:Nat}{a:List (Str×Addr)},(x,c)∈cellsFrom n names a->(x,c)∈a\/(x,NameKind.cell)∈names
 | [],_,_,h=>.inl h
 |(y,k)::r,n,a,h=>by
  unfold cellsFrom at h;split at h
  ·next b=>
   rcases qK h with h|h
   ·rcases List.mem_cons.mp h with e | e
    ·cases e;exact .inr (by rw[show k=.cell by simpa using b];calc aaE)
    ·exact .inl e
   ·exact .inr (aao _ h)
  ·rcases qK h with h | h
   ·exact .inl h
   ·calc .inr (aao _ h)
theorem qL{β:Type}{x:Str}{a:List (Str×β)}:∀{l:List (Str×β)},(l++a).lookup x=(l.lookup x).or (a.lookup x)
 | []=>rfl
 |(n,b)::r=>by
  rw[List.cons_append,List.lookup_cons,List.lookup_cons]
  cases x==n with
  |true=>rfl
  |false=>calc qL
theorem EA{env:Env}{names:List (Str×NameKind)}{C:Addr}{x:Str}:(Qm env names C).lookup x=((cellsFrom (C+1) names []).lookup x).or ((kh env names []).lookup x):=by
 unfold Qm;rw[lg,qL]
def Qn(X:Cx)(scope:Scope)(C:Addr)(N':List Str)(a:Shared)(H₂:Hp)(b:List Addr):Cx:=
 {X with N:=N',s₀:=a,H₀:=H₂,env:=compEnvC scope (Qm X.env scope.names C) C X.env,outer:=X.stack,stack:=X.stack,ex:=b,fn:=λx=>scope.names.lookup x==some .cell,pn:=[],xe:=λ_ _=>False}
theorem freeOk.at{scope outer:Scope}(h:freeOk scope outer=true){x:Str×NameKind}(e:x∈scope.names):(x.2=.cell->scope.names.lookup x.1=some .cell)/\(x.2=.free->outer.names.lookup x.1=some .cell\/outer.names.lookup x.1=some .free)/\(x.2=.local->scope.names.lookup x.1=some .local)/\(x.2=.free->scope.names.lookup x.1=some .free):=by
 have f:=List.all_eq_true.mp h x e;simp only[Bool.and_eq_true,Bool.or_eq_true,bne_iff_ne,ne_eq,beq_iff_eq]at f;obtain⟨⟨⟨a,b⟩,c⟩,d⟩:=f;calc⟨λe=>a.resolve_left λz=>z e,λe=>b.resolve_left λz=>z e,λe=>c.resolve_left λz=>z e,λe=>d.resolve_left λz=>z e⟩
theorem eE{scope:Scope}{env:Env}:∀{names:List (Str×NameKind)}{x:Str}{k:NameKind},
  (names.map λ(n,k)=>if (k==NameKind.free&&env.scope.kind == .function&&env.kindOf n==some .cell) then(n,NameKind.cell) else(n,k)).lookup x=some k->∃a,(x,a)∈names/\(k=a\/(k=.cell/\a=.free))
 | [],_,_,h=>by simp at h
 |(n,c)::r,x,k,h=>by
  rw[aba]at h;by_cases d:(c==NameKind.free&&env.scope.kind == .function&&env.kindOf n==some .cell)=true
  ·simp only[d,if_true] at h
   cases b:x==n with
   |true=>
    simp only[List.lookup_cons,b]at h;have e:x=n:=by simpa using b
    subst e;have g:c=.free:=by
     simp only[Bool.and_eq_true,beq_iff_eq]at d;exact d.1.1
    calc⟨c,aaE,.inr ⟨(Option.some.inj h).symm,g⟩⟩
   |false=>
    simp only[List.lookup_cons,b]at h;obtain⟨a,m,q⟩:=eE (scope:=scope) (env:=env) h;exact⟨a,aao _ m,q⟩
  ·dsimp only at h;rw[if_neg d] at h
   cases b:x==n with
   |true=>
    simp only[List.lookup_cons,b]at h;have e:x=n:=by simpa using b
    subst e;calc⟨c,aaE,.inl (Option.some.inj h).symm⟩
   |false=>
    simp only[List.lookup_cons,b]at h;obtain⟨a,m,q⟩:=eE (scope:=scope) (env:=env) h;calc⟨a,aao _ m,q⟩
section
variable {X:Cx}{scope:Scope}{C:Addr}{N':List Str}{s₂:Shared}{H₂:Hp}{fp:List Addr}{pins:List (Addr×Obj)}{σ:St}
theorem wH(I:Inv X pins σ H₂ s₂)(d:freeOk scope X.env.scope=true){x:Str}{c:Addr}(h:(kh X.env scope.names []).lookup x=some c):X.env.cells.lookup x=some c/\(x,NameKind.free)∈scope.names:=by
 rcases wG (aat h) with z|⟨a,b⟩
 ·simp at z
 ·have q:=(d |> λh=>freeOk.at h a).2.1 rfl;obtain⟨c,e⟩:=I.ok.has x q;rw[e]at b;calc⟨by rw[e,b];rfl,a⟩
theorem EB(a:freeOk scope X.env.scope=true){x:Str}(h:scope.names.lookup x=some .free){n:Nat}:(cellsFrom n scope.names []).lookup x=none:=by
 cases e:(cellsFrom n scope.names []).lookup x with
 |none=>rfl
 |some c=>
  rcases qK (aat e) with z|z
  ·cases z
  ·have:=(freeOk.at a z).1 rfl;rw[h]at this;cases this
theorem lj(I:Inv X pins σ H₂ s₂)(a:freeOk scope X.env.scope=true){x:Str}{c:Addr}(h:(Qm X.env scope.names C).lookup x=some c):(X.env.cells.lookup x=some c/\ @LT.lt Nat _ c s₂.heap.objs.size/\(cellsFrom (C+1) scope.names []).lookup x=none)\/(cellsFrom (C+1) scope.names []).lookup x=some c:=by
 rw[EA]at h
 cases e:(cellsFrom (C+1) scope.names []).lookup x with
 |some d=>rw[e]at h;calc .inr h
 |none=>
  rw[e]at h;have q:=(wH I a h).1;calc .inl ⟨q,let ⟨_,z⟩:=I.cell x c q;z.lt,rfl⟩
theorem NF{g:Heap}(i:CellsOk g (C+1) (cellsFrom (C+1) scope.names []))(I:Inv X pins σ H₂ s₂)(j:freeOk scope X.env.scope=true)(E:scope.kind=.function)(v:s₂.heap.objs.size<=C)(k:∀b∈fp,nY X pins H₂ b)(F:∀b∈fp,∃o,s₂.heap.get? b=some o):(Qn X scope C N' s₂ H₂ fp).Ok where
 mod:=I.ok.mod
 kind:=E
 glob:=I.ok.glob
 blt:=I.ok.blt
 above:=v
 inj:=λx y c l p=>by
  rcases lj I j l with⟨a,H,_⟩|a<;>rcases lj I j p with⟨b,g,_⟩|b
  ·exact I.ok.inj x y c a b
  ·have:=(i.empty y c (aat b)).2;lia
  ·have:=(i.empty x c (aat a)).2;lia
  ·exact PySem.name_of_addr i.apart (aat a) (aat b)
 has:=λx h=>by
  have h:(relabel scope X.env).names.lookup x=some .cell\/(relabel scope X.env).names.lookup x=some .free:=h;have w:(x,NameKind.free)∈scope.names->((kh X.env scope.names []).lookup x).isSome=true:=λm=>let ⟨d,e⟩:=eS (qJ (env:=X.env) (cs:=[]) m);by rw[e];rfl
  calc Option.isSome_iff_exists.mp (W.cellsFrom_some scope.names (C+1) (kh X.env scope.names []) ?_);rcases h with h|h
  ·obtain⟨G,m,q⟩:=eE (scope:=scope) h;rcases q with q | ⟨_,q⟩
   ·subst q;exact .inl ((freeOk.at j m).1 rfl)
   ·subst q;exact .inr (w m)
  ·obtain⟨G,m,q⟩:=eE (scope:=scope) h;rcases q with q | ⟨q,_⟩
   ·subst q;exact .inr (w m)
   ·cases q
 Qh:=λx c l p=>by
  rcases lj I j p with⟨_,_,a⟩|a
  ·obtain⟨d,e⟩:=qD (sc:=scope) (n:=C+1) (x:=x) (by simpa[Qn] using l);rw[e]at a;cases a
  ·have:=(i.empty x c (aat a)).2;show s₂.heap.objs.size<=c;lia
 hd:=I.ok.hd
 frames:=I.ok.frames
 Rv:=.inl rfl
 VT:=λb f=>by
  obtain⟨o,A⟩:=F b f;obtain⟨B,r,s,t,u,D⟩:=k b f;calc⟨aay (U' (V' A) v),λx c h=>?_⟩;rcases lj I j h with⟨a,_⟩|a
  ·exact u x c a
  ·have:=(i.empty x c (aat a)).2;have: @LT.lt Nat _ b _:=V' A;exact abp ()
 bs:=I.bs
 DJ:=aaB I.ok.DJ I.sz
 yy:=λb o e f=>by
  obtain⟨B,r,s,t,u,D⟩:=k b f;rcases t with z|z
  ·exact I.ok.yy b o e z
  ·exact absurd (U' (U' (V' e) I.ok.DJ) z) (aa9 _)
 BS:=λb f z=>by
  obtain⟨B,r,s,t,u,D⟩:=k b f;rcases List.mem_cons.mp (I.uK b z) with e|e
  ·exact r e
  ·exact s e
 nW:=I.stack
 K5:=I.zU
end
theorem Inv.less{a:St}(I:Inv X pins σ H s)(b:a.length=σ.length)(h:∀(i:Nat) (v:V),a[i]?=some (some v)->σ[i]?=some (some v)):Inv X pins a H s:=
 ⟨I.ok,I.os,I.bare,I.base,(let ⟨m,a,c⟩:=I.loc;⟨m,a,λi x v d e f=>c i x v d (h i v e) f⟩),I.cell,I.free,I.j6,I.pin,I.aU,b.trans I.len⟩
def Ext(σ a:St):Prop:=a.length=σ.length/\∀(i:Nat) (v:V),σ[i]?=some (some v)->a[i]?=some (some v)
theorem Ext.refl(σ:St):Ext σ σ:=⟨rfl,λ_ _ h=>h⟩
theorem Ext.set{a:St}(h:Ext σ a){j:Nat}{w:Option V}(b:σ[j]?=some none):Ext σ (a.set j w):=by
 calc⟨by rw[List.length_set];calc h.1,λi v e=>?_⟩;have c:j≠i:=by rintro rfl;rw[b]at e;cases e
 rw[List.getElem?_set_ne c];calc h.2 i v e
theorem JC(ix:List (Option Nat))(σ:St):(sr ix σ).length=ix.length:=by unfold sr;rw[R']
section
variable {X:Cx}{scope:Scope}{N':List Str}{ix:List (Option Nat)}{s₂ s₄:Shared}{H₂:Hp}{fp:List Addr}{pins:List (Addr×Obj)}{σ:St}{C D:Addr}{h₄:Heap}
theorem XW(I:Inv X pins σ H₂ s₂)(g:freeOk scope X.env.scope=true)(p:scope.kind=.function)(L:Cg X.N N' ix scope=true)(S:∀b∈fp,nY X pins H₂ b)(T:∀b∈fp,∃o,s₂.heap.get? b=some o)
  (l:s₂.heap.objs.size<=D) (B: @LT.lt Nat _ D C) (F:CellsOk h₄ (C+1) (cellsFrom (C+1) scope.names [])) (U:h₄.Ns C (λ_=>none)) (r:∀b o,s₂.heap.get? b=some o->h₄.get? b=some o)
  (b:h₄.get? D=some {cls:=.type "list",data:=.seq ([]:List Value).toArray 0}) (t':Nat):
  Inv (Qn X scope C N' s₂ H₂ fp) [] (sr ix σ) (upd H₂ D (.lst [])) {s₂ with heap:=h₄,toks:=t'}:=by
 have W:H₂ D=none:=I.aU.fresh l;have G:s₂.heap.objs.size<=C:=aaB l (L' B);have Y:H₂ C=none:=I.aU.fresh G;have Z:lU X.prog X.w (upd H₂ D (.lst [])) h₄:=I.aU.laid r l ⟨aav _,[],0,.nil,b⟩;refine⟨NF F I g p G S T,rfl,I.bare,Un.laid r l W,⟨_,U,λi x v y k e3=>?_⟩,λx c e=>?_,?_,λx c e=>?_,λp b=>absurd (show p∈([]:List (Addr×Obj)) from b) nofun,Z,?_⟩
 ·have d:=L;unfold Cg at d;rw[aaR] at d;have b:N'.length=ix.length:=by simpa using d.1
  have b:i<N'.length:=(List.getElem?_eq_some_iff.mp y).1;unfold sr at k;rw[A']at k
  cases q:ix[i]? with
  |none=>rw[q]at k;cases k
  |some o=>
   rw[q]at k
   cases o with
   |none=>cases k
   |some j=>
    have o:(x,some j)∈N'.zip ix:=by
     calc aai (i:=i) ?_;rw[List.getElem?_zip_eq_some];exact⟨y,q⟩
    have b:=List.all_eq_true.mp d.2 _ o;simp only[Bool.and_eq_true,beq_iff_eq]at b;obtain⟨J,K⟩:=b;have m:(σ[j]?).join=some v:=by simpa using k
    have e4:σ[j]?=some (some v):=by
     cases z:σ[j]? with
     |none=>rw[z]at m;cases m
     |some y=>rw[z]at m;exact congrArg some m
    have M:(x,NameKind.free)∈scope.names:=aat K;have O:=(freeOk.at g M).2.1 rfl;obtain⟨m,b,hv⟩:=I.loc;obtain⟨u,ru,lk⟩:=hv j x v J e4 (by rcases O with z|z;calc .inr (.inl z);calc .inr (.inr z));refine⟨u,ru,.inr ⟨?_,?_⟩⟩
    ·rcases e3 with z | z | z
     ·obtain⟨b,m',n⟩:=eE (scope:=scope) (env:=X.env) (show(relabel scope X.env).names.lookup x=some .local from z);rcases n with n | ⟨n,_⟩
      ·subst n;have:=(freeOk.at g m').2.2.1 rfl;rw[K]at this;cases this
      ·cases n
     ·exact .inl z
     ·exact .inr z
    ·rcases lk with⟨t,_⟩ | ⟨_,c,l2,l3⟩
     ·have t:X.env.scope.names.lookup x=some .local:=t;rcases O with z | z
      ·rw[t]at z;cases z
      ·rw[t]at z;cases z
     ·obtain⟨b,P⟩:=eS (qJ (env:=X.env) (cs:=[]) M);have R:=(wH I g P).1;rw[l2]at R;have e7:c=b:=Option.some.inj R;subst e7;exact⟨c,by show(Qm X.env scope.names C).lookup x=some c;rw[EA,EB g K];calc P,l3.keeps r⟩
 ·rcases lj I g e with⟨a,_⟩ | a
  ·obtain⟨v,z⟩:=I.cell x c a;exact⟨v,z.keeps r⟩
  ·exact⟨_,(F.empty x c (aat a)).1⟩
 ·show upd H₂ D (.lst []) C=none;rw[ax (abp B)];exact Y
 ·show upd H₂ D (.lst []) c=none;rcases lj I g e with⟨a,z,_⟩ | a
  ·rw[ax (aay (U' z l))];exact I.j6 x c a
  ·have b: @LT.lt Nat _ C c:=(F.empty x c (aat a)).2;rw[ax (abp (Nat.lt_trans B b))];exact I.aU.fresh (aaB G (L' b))
 ·rw[JC];have d:=L;unfold Cg at d;rw[aaR] at d;have:N'.length=ix.length:=by simpa using d.1
  calc this.symm
end
theorem yV{M:Model}{A:Around}{E:Value->Shared->Prop}{scope:Scope}{g:Addr}{d:List (Str×Addr)}{qual:Str}{env:Env}{Q:Env->Shared->Prop}
  (f:∀a,a.Ns s.heap.objs.size (λ_=>none)->(∀b o,s.heap.get? b=some o->a.get? b=some o)->CellsOk a (s.heap.objs.size + 1) (cellsFrom (s.heap.objs.size + 1) scope.names [])->
   Q {scope:=scope,locals:=s.heap.objs.size,globals:=g,cells:=cellsFrom (s.heap.objs.size + 1) scope.names d,qual:=qual,func:=none,code:=env.code,frame:=env.frame,builtins:=env.builtins} {s with heap:=a}):
  wpAny M A (newFunctionEnv scope g d [] qual none .none (some env)) Q E s:=by
 simp only[newFunctionEnv,Option.isSome_some,if_true];refine E' (wpAny_alloc ?_);refine E' (wpAny_layCells _ (λa c cells=>by cases a:c==NameKind.cell<;>simp[a]) _ _ _ _ ?_);have d:=cellsFrom_ok scope.names (s.heap.push {cls:=.type "dict",data:=.dict #[]}) (s.heap.objs.size+1) [] ⟨λ_ _ a=>(nomatch a),List.Pairwise.nil⟩ (by rw[aaG];exact J' _);rw[aaG]at d;rw[show({s with heap:=s.heap.push {cls:=.type "dict",data:=.dict #[]}}:Shared).heap.objs.size=s.heap.objs.size+1 from aaG ..];rw[List.forIn_nil];exact E' (S' (S' (f _ ((Heap.Ns.new s.heap (.type "dict")).keeps (pushCells_keeps _ _)) (λb o e=>pushCells_keeps _ _ b o (K' _ e)) d)))
def ki(ix:List (Option Nat))(J:It)(g:TG)(d:TT)(e:TE)(σ:St)(a:Hp)(Q:VK)(D:Addr):Prop:=
 ∃W:Nat->Nat->Hp->Prop,(∃m,W 0 m (upd a D (.lst [])))/\∀i m H,W i m H->
  (J.stop i H/\Q (.ref D) H)\/(J.go i H/\∃N:Hp->Prop,(∀b,N b->∃c,c < m/\W (i + 1) c b)/\∀x b,J.La i H x b->g x (sr ix σ) b λa f=>Ext (sr ix σ) a/\d a f λb c=>
   if b=true then e a c λy d=>∃a,d D=some (.lst a)/\a.length < sizeLine/\N (upd d D (.lst (a++[y]))) else N c)
def R5(ix:List (Option Nat))(b:TI)(g:TG)(c:TT)(d:TE):TE:=λσ H Q=>b σ H λJ a=>∀D,a D=none->ki ix J g c d σ a Q D
abbrev su(X:Cx)(scope:Scope)(N':List Str)(F:Cx->Prop):Prop:=∀(C:Addr) (a:Shared) (H₂:Hp) (b:List Addr),F (Qn X scope C N' a H₂ b)
section
variable {X:Cx}{elt target iter:Expr}{ifs:List Expr}{scope:Scope}{pos:Pos}{N':List Str}{ix:List (Option Nat)}{wi:TI}{g:TG}{tt:TT}{te:TE}
theorem wI{a:Shared}{it:Addr}{l:List Addr}{R:Nat->Heap->Prop}{J:It}{QD:Addr->Hp->Prop}{RR:Value->Addr->Result->Shared->Prop}{E:Value->Shared->Prop}
  (sx:X.calm=true) (hf:freeOk scope X.env.scope=true) (hk:scope.kind=.function) (hx:Cg X.N N' ix scope=true)
  (hg:su X scope N' λY=>PG Y target g) (ht:su X scope N' λY=>Ql Y ifs tt) (he:su X scope N' λY=>PE Y elt te)
  (I:Inv X pins σ H₂ a) (T:Turn X.prog X.w X.K target J l it R) (st:R 0 a.heap) (Il:∀b∈l,nY X pins H₂ b)
  (hw:∀D,H₂ D=none->∃W:Nat->Nat->Hp->Prop,(∃m,W 0 m (upd H₂ D (.lst [])))/\∀i m H,W i m H->
   (J.stop i H/\QD D H)\/(J.go i H/\∃N:Hp->Prop,(∀d,N d->∃B,B < m/\W (i + 1) B d)/\∀x d,J.La i H x d->g x (sr ix σ) d λp C=>Ext (sr ix σ) p/\tt p C λb L=>
    if b=true then te p L λy C=>∃S,C D=some (.lst S)/\S.length < sizeLine/\N (upd C D (.lst (S++[y]))) else N L))
  (hRR:∀(D C:Addr) (s':Shared) (d:Hp) (m:Str->Option Value),a.heap.objs.size<=C->d C=none->C∉BR X.stack->s'.heap.Ns C m->(∃o,s'.heap.get? C=some o/\∀v,o.data≠.cell v)->Inv X pins σ d s'->QD D d->RR (.ref D) C (.ok .next) s'):
  wpAny (model X.prog X.w) X.A (newList []) (λp j=>wpAny (model X.prog X.w) X.A (newFunctionEnv scope X.env.globals (kh X.env scope.names []) [] X.env.qual none .none (some X.env)) (λJ C=>
   codeAny (model X.prog X.w) X.A (.compStart (.ListComp elt [⟨target,iter,ifs,0⟩] scope pos) 0 (.ref it) p {J with scope:=relabel scope X.env}) (RR p J.locals) C) E j) E a:=by
 calc abr (yV λk NH JE Ci=>?_);dsimp only at NH JE Ci ⊢;generalize C:a.heap.push {cls:=.type "list",dict:=none,data:=.seq ([]:List Value).toArray}=P2 at NH JE Ci ⊢;have p:P2.objs.size=a.heap.objs.size+1:=by rw[<-C,aaG]
 have J:a.heap.objs.size<P2.objs.size:=by rw[p];exact Nat.lt_succ_self _
 have U:a.heap.objs.size<=P2.objs.size:=by rw[p];exact Nat.le_succ _
 have Z:∀b o,a.heap.get? b=some o->k.get? b=some o:=λb o e=>JE b o (C▸K' _ e);have N:k.get? a.heap.objs.size=some {cls:=.type "list",data:=.seq ([]:List Value).toArray 0}:=JE _ _ (C▸aah _ rfl);have p:∀b∈l,∃o,a.heap.get? b=some o:=λb c=>let ⟨o,e,_⟩:=T.obj _ _ st b c;⟨o,e⟩
 have C:a.heap.get? P2.objs.size=none:=Heap.get?_none_of_le U;have C:H₂ a.heap.objs.size=none:=I.aU.fresh (J' _);obtain⟨W,⟨m0,w0⟩,turn⟩:=hw a.heap.objs.size C;have fpD:∀b∈l,b≠a.heap.objs.size:=λb c=>let ⟨o,e⟩:=p b c;aay (V' e)
 have fpC:∀b∈l,b≠P2.objs.size:=λb c=>let ⟨o,e⟩:=p b c;aay (U' (V' e) U)
 let Y:=Qn X scope P2.objs.size N' a H₂ l
 have hcY:Y.calm=true:=sx;have I0:Inv Y [] (sr ix σ) (upd H₂ a.heap.objs.size (.lst [])) {a with heap:=k}:=
  XW I hf hk hx Il p (J' _) J Ci (by simpa using NH) Z N _
 have MO:P2.objs.size∉BR X.stack:=λz=>by
  rcases List.mem_cons.mp (I.uK _ z) with e|e
  ·exact absurd I.lt (by rw[<-e];calc Nat.not_lt.mpr U)
  ·exact I.MP U e
 have yD:∀{d:Hp},(∀b∈l,d b=none)->∀b∈l,nY Y [] d b:=λhn b c=>by
  obtain⟨f0,f1,f2,f3,f4,f5⟩:=Il b c;refine⟨hn b c,fpC b c,I0.ok.BS b c,.inl c,(I0.ok.VT b c).2,λp C=>absurd (show p∈([]:List (Addr×Obj)) from C) nofun⟩
 have R7:R 0 k:=T.keep _ _ _ st λb _ o e=>Z b o e;have G:∀j:Shared,j={a with heap:=k}->
   codeAny (model X.prog X.w) X.A (.compLoop (.ListComp elt [⟨target,iter,ifs,0⟩] scope pos) 0 (.ref it) (.ref a.heap.objs.size) (compEnvC scope (Qm X.env scope.names P2.objs.size) P2.objs.size X.env))
    (RR (.ref a.heap.objs.size) P2.objs.size) j:=by
  rintro j rfl;calc uZ (λn s'=>∃i d,Inv Y [] (sr ix σ) d s'/\R i s'.heap/\(∀b∈l,d b=none)/\W i n d) ?_ m0 ⟨0,_,I0,R7,λb c=>by rw[ax (fpD b c)];calc(Il b c).1,w0⟩;rintro n s3 ⟨i,L,I3,nU,RA,w3⟩;rcases turn i n L w3 with⟨stop,qn⟩|⟨go,Nn,hNn,step⟩
  ·calc c9 (T.done Y rfl rfl rfl hcY i [] s3 _ L _ I3 (yD RA) nU stop) λr s4 q=>?_;obtain⟨hr,M⟩:=q;subst hr;obtain⟨m,hn,_⟩:=M.loc;refine hRR _ _ s4 L m U M.free MO hn ?_ ?_ qn
   ·obtain⟨o,k,p,j,hd,_⟩:=hn;exact⟨o,j,λv z=>by rw[hd]at z;cases z⟩
   ·refine I.Rx (s':=s4) (ch:=l) M.os ?_ M.aU M.bare λb c=>?_
    ·exact M.base
    ·obtain⟨f0,f1,f2,f3,f4,f5⟩:=Il b c;exact⟨f3,f1,f4,f5⟩
  ·calc c9 (T.item Y rfl rfl rfl hcY i [] s3 _ L _ I3 (yD RA) nU go) λr s4 q=>?_;obtain⟨u,hr,h4⟩:=q;subst hr;calc c9 h4 λ_ s5 q=>?_;obtain⟨x,j,p,r,v,k,z⟩:=q;have C:=p.pinned (yD z) (T.obj _ _ k);calc c9 (hg _ _ _ _ _ s5 _ j x u _ C r (step x j v)) λ_ I q=>?_;obtain⟨F,p,r,j,u⟩:=q;calc c9 (ht _ _ _ _ _ I F p _ r u) λok s7 q=>?_;obtain⟨H7,I7,q7⟩:=q;have t:∀{O:Shared} {P:Hp} {B:Nat},Inv Y ([]++nZ l s5.heap) F P O->B<n->W (i+1) B P->∃m,m<n/\∃i d,Inv Y [] (sr ix σ) d O/\R i O.heap/\(∀b∈l,d b=none)/\W i m d:=λ{O P B} I8 hm w8=>by
    calc⟨B,hm,i+1,P,(I8.kb).less j.1.symm j.2,T.keep _ _ _ k λb c o e=>(I8.pin (b,o) (aaz _ (aaz _ (jx c e)))).1,λb c=>?_,w8⟩;obtain⟨o,e,d⟩:=T.obj _ _ k b c;exact(I8.pin (b,o) (aaz _ (aaz _ (jx c e)))).2.1
   cases ok with
   |false=>
    rw[if_neg M']at q7 ⊢;obtain⟨B,hm,w8⟩:=hNn _ q7;calc t I7 hm w8
   |true=>
    rw[if_pos rfl] at q7 ⊢;calc c9 (he _ _ _ _ _ s7 F H7 _ I7 q7) λy O q=>?_;obtain⟨b,P,I8,d,S,e,i,j⟩:=q;have k:=(tP (X:=Y)) (pins:=[]++nZ l s5.heap) O F P (.ref a.heap.objs.size) [b] (.ref a.heap.objs.size) [y] (λ_ c=>Nn c) I8 rfl (.cons d .nil)
     ⟨_,S,b,rfl,rfl,e,i,j⟩
    exact c9 k λ_ d ⟨_,c,a,_,b⟩=>let ⟨B,hm,c⟩:=hNn _ b;t a hm c
 calc codeAny_compStart_list (G _ rfl) (T.self _ 0 _ _ _ R7 (G _ rfl))
theorem Inv.X1{b:Shared}{C:Addr}{h':Heap}(a:Inv X pins σ H₂ b)(I:Inv X pins σ H s)(d:b.heap.objs.size<=C)(f:H C=none)(g:Heap.SameBut C s.heap h'):Inv X pins σ H {s with heap:=h'}:=by
 refine I.turned (t':=s.toks) (λb o h e=>(g.2 b h).trans e) f (abp (U' a.lt d)) (.inr (aaB a.sz d)) (λx c e z=>?_) λp b z=>?_
 ·obtain⟨v,q⟩:=a.cell x c e;exact absurd (U' q.lt (by rw[z];calc d)) (aa9 _)
 ·calc absurd (U' (V' (a.pin p b).1) (by rw[z];calc d)) (aa9 _)
theorem dD
  (l:PI X target iter wi) (n:su X scope N' λY=>PG Y target g) (o:su X scope N' λY=>Ql Y ifs tt) (a:su X scope N' λY=>PE Y elt te)
  (p:X.calm=true:=by rfl) (f:freeOk scope X.env.scope=true:=by kernel_rfl) (i:scope.kind=.function:=by rfl) (b:Cg X.N N' ix scope=true:=by kernel_rfl) (j:∀x,foldedSetIterable iter X.env x=pure x:=by intro _;rfl):PE X (.ListComp elt [⟨target,iter,ifs,0⟩] scope pos) (R5 ix wi g tt te):=by
 walk_at "xc";rw[eval_ListComp];have m:∀x∈scope.names,x.2=.free->∃c,X.env.cells.lookup x.1=some c:=λx b a=>I.ok.has x.1 ((freeOk.at f b).2.1 a);refine wpAny_comprehension_free (use:=none) rfl j (lR m) i (λx b a=>(freeOk.at f b).2.2.1 a) (abg (l pins s σ H _ I h) (λm j c=>abg c (λl j d=>?_) λ_ _ e=>e) λ_ _ e=>e);obtain⟨c,j,l,J,m,e,k,T,r,t,u⟩:=d;subst e;refine wI (RR:=λc C=>compPost (model X.prog X.w) X.A X.xe none (EP X pins σ Q) c C) (QD:=λD c=>Q (.ref D) c) p f i b n o a k T r t u ?_;intro D C x c m d e y j z l q;exact⟨m,j,λB v=>⟨.ref D,c,k.X1 l d e v,rfl,q⟩⟩
theorem dP{i:Nat}{y:Str}{d R:Pos}(hN:X.N.Nodup)(F:X.N[i]?=some y)(hy:Loc X.env.scope y)
  (hi:PI X target iter wi) (hg:su X scope N' λY=>PG Y target g) (ht:su X scope N' λY=>Ql Y ifs tt) (j:su X scope N' λY=>PE Y elt te)
  (G:swapsWith (.ListComp elt [⟨target,iter,ifs,0⟩] scope pos) (some (.Name y d)) R.line X.env=pure true:=by rfl)
  (sx:X.calm=true:=by rfl) (K:freeOk scope X.env.scope=true:=by kernel_rfl) (S:scope.kind=.function:=by rfl) (k:Cg X.N N' ix scope=true:=by kernel_rfl) (hs:∀x,foldedSetIterable iter X.env x=pure x:=by intro _;rfl) (MR:X.fn y=true\/X.env.scope.names.lookup y=some .local:=by grind):
  PS X (.Assign [.Name y d] (.ListComp elt [⟨target,iter,ifs,0⟩] scope pos) R) (BY (R5 ix wi g tt te) (fC i)):=by
 walk_at "xd";rw[exec_Assign_Name_used _ _ _ _ G];refine E' (wpAny_standAt (E' ?_));show wpAny _ X.A (do let _ <-comprehension (.ListComp elt [⟨target,iter,ifs,0⟩] scope pos) scope X.env _ (newList []) false (eval iter X.env) (some (assign (.Name y d) X.env))) _ _ s;have Wb:∀x ∈ scope.names,x.2=.free->∃c,X.env.cells.lookup x.1=some c:=λx k j=>I.ok.has x.1 ((freeOk.at K k).2.1 j);refine E' (abg (wpAny_comprehension_free (use:=some (assign (.Name y d) X.env)) (Q:=λ_ a=>SP X pins D .next a) rfl hs (lR Wb) S (λx k j=>(freeOk.at K k).2.2.1 j)
  (abg (hi pins s σ H _ I h) (λxv U l=>abg l (λVZ W n=>?_) λ_ _ e=>e) λ_ _ e=>e)) (λ_ a hq=>S' (S' hq)) λ_ _ e=>e)
 obtain⟨it,fp,tn,J,H2,e,f,T,zZ,f2,hw⟩:=n;subst e;calc wI (RR:=λL C=>compPost (model X.prog X.w) X.A X.xe (some (assign (.Name y d) X.env)) (λ_ a=>SP X pins D .next a) L C) (QD:=λr t=>D.nx (σ.set i (some (.ref r))) t) sx K S k hg ht j f T zZ f2 hw ?_;intro r C a t m u R3 Cj hn E Z q;obtain⟨o,E,VW⟩:=E;show wpAny _ X.A (assign (.Name y d) X.env (.ref r)) _ _ a;have B:C≠X.env.locals:=abp (U' f.lt u);have R9:C∉X.fs:=f.MP u;have M:Inv X (pins++[(C,o)]) σ t a:=Z.uL λp O=>(List.mem_append.mp O).elim (λz=>Z.pin p (aaz _ z)) λz=>by
  have z':p=(C,o):=by simpa using z
  subst z';exact⟨E,R3,B,R9,VW⟩
 calc wpAny_assign_Name (mR M hN F hy (v:=.ref r) rfl (λs3 I3=>?_) MR);obtain⟨e3,n3,_⟩:=I3.pin (C,o) (aaz _ (aaz _ nofun));obtain⟨o',es,ep,r9,r'⟩:=hn;rw[E]at r9;cases r9;have P:Inv X pins (σ.set i (some (.ref r))) t s3:=I3.kb;calc⟨m,⟨o,es,ep,e3,r'⟩,λh' JF=>⟨_,t,?_,q⟩⟩;refine P.turned (t':=s3.toks) (λb o hb e=>(JF.2 b hb).trans e) n3 B (.inr (aaB f.sz u)) (λx c e z=>?_) λp O z=>?_
 ·obtain⟨v,q⟩:=f.cell x c e;exact absurd (U' q.lt (by rw[z];calc u)) (aa9 _)
 ·calc absurd (U' (V' (f.pin p O).1) (by rw[z];calc u)) (aa9 _)
end
def Wc(b:Nat->List V->Hp->Prop)(D:Addr)(i:Nat)(H:Hp):Prop:=∃a,H D=some (.lst a)/\a.length<=i+1/\b (i+1) a H
theorem bX{c:Nat->List V->Hp->Prop}{D:Addr}{i n:Nat}{a:List V}{y:V}(d:H D=some (.lst a))(b:a.length<=i)(e:i<n)(f:n<=sizeLine)(h:c (i+1) (a++[y]) (upd H D (.lst (a++[y])))):
  ∃b,H D=some (.lst b)/\b.length<sizeLine/\Wc c D i (upd H D (.lst (b++[y]))):=
 ⟨a,d,(),a++[y],ab,by rw[aac,List.length_singleton];lia,h⟩
theorem aY{ix:List (Option Nat)}{J:It}{n:Nat}{g:TG}{c:TT}{k:TE}{l:Hp}{Q:VK}{D:Addr}(f:Nat->List V->Hp->Prop)(a:n<=sizeLine)(t:f 0 [] (upd l D (.lst [])))
  (u:∀i d H,i<n->f i d H->J.go i H) (v:∀d H,f n d H->J.stop n H)
  (w:∀i d H,i < n->H D=some (.lst d)->d.length<=i->f i d H->∀x h,J.La i H x h->g x (sr ix σ) h λa q=>Ext (sr ix σ) a/\c a q λb o=>
   if b=true then k a o λy q=>∃j,q D=some (.lst j)/\j.length < sizeLine/\Wc f D i (upd q D (.lst (j++[y]))) else Wc f D i o)
  (z:∀d H,H D=some (.lst d)->d.length<=n->f n d H->Q (.ref D) H):
  ki ix J g c k σ l Q D:=by
 calc⟨λi m H=>m=n-i/\i<=n/\∃d,H D=some (.lst d)/\d.length<=i/\f i d H,⟨n,nofun,aav _,[],ab,J' _,t⟩,?_⟩;rintro i m H ⟨rfl,a,d,r,s,p⟩;by_cases g:i<n
 ·exact .inr ⟨u i d H g p,Wc f D i,λh ⟨j,a,b,c⟩=>⟨n-(i+1),(),rfl,g,j,a,b,c⟩,λx h y=>w i d H g r s p x h y⟩
 ·have e:i=n:=by lia
  subst e;calc .inl ⟨v d H p,z d H r s p⟩
end
section
section
variable {X:Cx}
def EE(i j:Int):Prop:=0<j/\j.natAbs.log2<9000
theorem EF:fE X (binaryOp .FloorDiv) (rI EE λi j=>.int (i/j)):=V0 λi j _ _ _ _ _ a q=>by
 have b:(0:Int)<j:=a.1;calc floordiv_int () (by rw[Int.fdiv_eq_ediv_of_nonneg i ()];calc q) (.inl (PyProof.noPylong_of_log2 a.2))
def uI(C:Int->Int->Prop)(g:Int->Int->V):R2:=λx y H Q=>match x,y with
 | .int i,.int j=>C i j/\Q (g i j) H
 |_,_=>False
def NI(g:Int->Int->V):R2:=λx y H Q=>match x,y with
 | .int i,.int j=>Q (g i j) H
 |_,_=>False
theorem Wd{f:Value->Value->Sem Value}{C:Int->Int->Prop}{g:Int->Int->V}(h:fE X f (rI C g)):fE X f (uI C g):=by
 intro a s σ H x y v u Q I b c q
 cases x<;>cases y<;>first
  |calc(show False from q).elim
  |calc h a s σ H _ _ v u Q I b c ⟨_,_,rfl,rfl,q.1,q.2⟩
theorem EG{f:Value->Value->Sem Value}{g:Int->Int->V}(h:fE X f (Jc g)):fE X f (NI g):=by
 intro a s σ H x y v u Q I b c q
 cases x<;>cases y<;>first
  |calc(show False from q).elim
  |calc h a s σ H _ _ v u Q I b c ⟨_,_,rfl,rfl,q⟩
theorem fq:fE X (binaryOp .Sub) (NI λi j=>.int (i-j)):=EG M9
theorem jB:fE X (binaryOp .Mult) (uI D8 λi j=>.int (i*j)):=Wd Na
theorem cD:fE X (binaryOp .Mod) (uI (λ_ j=>0<j) λi j=>.int (i%j)):=Wd Nb
theorem je:fE X (binaryOp .FloorDiv) (uI EE λi j=>.int (i/j)):=Wd EF
theorem qh:fE X (binaryOp .Pow) (uI Je λi j=>.int (i^j.toNat)):=Wd Nc
theorem gp:fE X (compareOp .Lt) (NI λi j=>.bl (decide (i<j))):=EG RE
theorem yW:fE X (compareOp .LtE) (NI λi j=>.bl (decide (i<=j))):=EG RF
theorem om:fE X (compareOp .Gt) (NI λi j=>.bl (decide (j<i))):=EG RG
theorem NJ:fE X (compareOp .GtE) (NI λi j=>.bl (decide (j<=i))):=EG RH
def iB(K:W.Frag)(H:Hp):Nat->V->V->Prop
 |0,_,_=>False
 |n+1,x,y=>(x=y/\fF x=true)\/∃a b xs c,x=.ref a/\y=.ref b/\((bq K H a xs/\bq K H b c)\/(aO K H a xs/\aO K H b c))/\xs.length=c.length/\∀(i:Nat) u v,xs[i]?=some u->c[i]?=some v->iB K H n u v
theorem in1_units(A:Around):A.in1.units=A.units+1:=rfl
theorem mY{pins:List (Addr×Obj)}{σ:St}{H:Hp}{s:Shared}(I:Inv X pins σ H s):∀(n:Nat) (A:Around) {x y:V}{u v:Value},iB X.K H n x y->A.units+n<cLine->RelV x u->RelV y v->SeqAt.EqAt A s u v true
 |0,_,_,_,_,_,h,_,_,_=>h.elim
 |n+1,A,x,y,u,v,h,o,c,d=>by
  rcases h with⟨e,f⟩|⟨a,b,J,L,j,k,l,o,M⟩
  ·subst e;have q:=yR (A:=A) (s:=s) c d f f;have g:Dv x x=true:=by cases x <;> first | rfl | calc absurd (show false=true from f) M' | simp[Dv]
   rw[g]at q;exact q
  ·subst j k
   cases c
   cases d;by_cases m:a=b
   ·subst m;exact SeqAt.EqAt.same _
   rcases l with⟨o,p⟩|⟨o,p⟩
   ·obtain⟨c,h,q,H⟩:=I.tuple o;obtain⟨f,k,r,N⟩:=I.tuple p;have O:=h.length;have P:=k.length;have t:c.toArray.size=f.toArray.size:=by simp;lia
    have d:=SeqAt.RcAt.tuples (A:=A) (e:=λ_=>true) (show s.heap.IsTuple a c.toArray from q) (show s.heap.IsTuple b f.toArray from r) () λj u v=>by
     have w:j<c.length:=by simpa using u
     have y:j<f.length:=by simpa using v
     obtain⟨z,l,B⟩:=h.get (i:=j) (x:=J[j]'()) nofun;obtain⟨C,g,D⟩:=k.get (i:=j) (x:=L[j]'()) nofun;have E:c.toArray[j]=z:=by
      have:=bU w;rw[this]at l;simpa using Option.some.inj l
     have F:f.toArray[j]=C:=by
      have:=bU y;rw[this]at g;simpa using Option.some.inj g
     rw[E,F];exact mY I n A.in1 (M j _ _ nofun nofun) (by rw[in1_units];lia) B D
    have G:SeqAt.RcAt A s (.ref a) (.ref b) true:=by
     have:((List.range (min c.toArray.size f.toArray.size)).all (λ_=>true)&&c.toArray.size==f.toArray.size)=true:=by
      rw[t];simp
     rw[this]at d;exact d
    exact SeqAt.EqAt.of_refs m G
   ·obtain⟨c,h,q,H⟩:=I.list o;obtain⟨f,k,r,N⟩:=I.list p;have O:=h.length;have P:=k.length;have t:c.toArray.size=f.toArray.size:=by simp;lia
    have d:=SeqAt.RcAt.lists (A:=A) (e:=λ_=>true) q.isList r.isList t () λj u v=>by
     have w:j<c.length:=by simpa using u
     have y:j<f.length:=by simpa using v
     obtain⟨z,l,B⟩:=h.get (i:=j) (x:=J[j]'()) nofun;obtain⟨C,g,D⟩:=k.get (i:=j) (x:=L[j]'()) nofun;have E:c.toArray[j]=z:=by
      have:=bU w;rw[this]at l;simpa using Option.some.inj l
     have F:f.toArray[j]=C:=by
      have:=bU y;rw[this]at g;simpa using Option.some.inj g
     rw[E,F];exact mY I n A.in1 (M j _ _ nofun nofun) (by rw[in1_units];lia) B D
    have G:SeqAt.RcAt A s (.ref a) (.ref b) true:=by
     have:((List.range c.toArray.size).all (λ_=>true))=true:=by simp
     rw[this]at d;exact d
    calc SeqAt.EqAt.of_refs m G
end
end
section
variable {pins:List (Addr×Obj)}{σ:St}
section
variable {X:Cx}
theorem EH{H:Hp}{s:Shared}(I:Inv X pins σ H s){A:Around}{n:Nat}{a b:Addr}(h:iB X.K H (n+1) (.ref a) (.ref b))(f:A.units+n+1<cLine):
  SeqAt.RcAt A s (.ref a) (.ref b) true/\SeqAt.RcNeAt A s (.ref a) (.ref b) false:=by
 rcases h with⟨e,f⟩|⟨g,k,J,L,c,d,j,l,M⟩
 ·exact absurd (show false=true from f) M'
 ·cases c
  cases d;rcases j with⟨g,h⟩|⟨g,h⟩
  ·obtain⟨d,k,l,H⟩:=I.tuple g;obtain⟨f,m,o,N⟩:=I.tuple h;have O:=k.length;have P:=m.length;have u:d.toArray.size=f.toArray.size:=by simp;lia
   have c:∀j (g:j<d.toArray.size) (h:j<f.toArray.size),SeqAt.EqAt A.in1 s d.toArray[j] f.toArray[j] ((λ_=>true) j):=λj v w=>by
    have y:j<d.length:=by simpa using v
    have z:j<f.length:=by simpa using w
    obtain⟨B,p,C⟩:=k.get (i:=j) (x:=J[j]'()) nofun;obtain⟨D,q,E⟩:=m.get (i:=j) (x:=L[j]'()) nofun;have F:d.toArray[j]=B:=by
     have:=bU y;rw[this]at p;simpa using Option.some.inj p
    have G:f.toArray[j]=D:=by
     have:=bU z;rw[this]at q;simpa using Option.some.inj q
    rw[F,G];exact mY I n A.in1 (M j _ _ nofun nofun) (by rw[in1_units];lia) C E
   have e:((List.range (min d.toArray.size f.toArray.size)).all (λ_=>true)&&d.toArray.size==f.toArray.size)=true:=by
    rw[u];simp
   have r:=SeqAt.RcAt.tuples (A:=A) (show s.heap.IsTuple a d.toArray from l) (show s.heap.IsTuple b f.toArray from o) () c;have t:=SeqAt.RcNeAt.tuples (A:=A) (show s.heap.IsTuple a d.toArray from l) (show s.heap.IsTuple b f.toArray from o) () c;rw[e]at r t;exact⟨r,t⟩
  ·obtain⟨d,k,l,H⟩:=I.list g;obtain⟨f,m,o,N⟩:=I.list h;have O:=k.length;have P:=m.length;have u:d.toArray.size=f.toArray.size:=by simp;lia
   have c:∀j (g:j<d.toArray.size) (h:j<f.toArray.size),SeqAt.EqAt A.in1 s d.toArray[j] f.toArray[j] ((λ_=>true) j):=λj v w=>by
    have y:j<d.length:=by simpa using v
    have z:j<f.length:=by simpa using w
    obtain⟨B,p,C⟩:=k.get (i:=j) (x:=J[j]'()) nofun;obtain⟨D,q,E⟩:=m.get (i:=j) (x:=L[j]'()) nofun;have F:d.toArray[j]=B:=by
     have:=bU y;rw[this]at p;simpa using Option.some.inj p
    have G:f.toArray[j]=D:=by
     have:=bU z;rw[this]at q;simpa using Option.some.inj q
    rw[F,G];exact mY I n A.in1 (M j _ _ nofun nofun) (by rw[in1_units];lia) C E
   have e:(List.range d.toArray.size).all (λ_=>true)=true:=by simp
   have r:=SeqAt.RcAt.lists (A:=A) l.isList o.isList u () c;have t:=SeqAt.RcNeAt.lists (A:=A) l.isList o.isList u () c;rw[e]at r t;calc⟨r,t⟩
def qM(K:W.Frag)(H:Hp)(a b:Addr):Prop:=∃xs c,xs.length≠c.length/\((aO K H a xs/\aO K H b c)\/(bq K H a xs/\bq K H b c/\(xs=[]\/c=[])))
theorem Av{H:Hp}{s:Shared}(I:Inv X pins σ H s){A:Around}{a b:Addr}(h:qM X.K H a b)(k:A.units<cLine):
  SeqAt.RcAt A s (.ref a) (.ref b) false/\SeqAt.RcNeAt A s (.ref a) (.ref b) true:=by
 obtain⟨j,n,r,⟨l,m⟩|⟨l,m,q⟩⟩:=h
 ·obtain⟨d,h,g,r⟩:=I.list l;obtain⟨f,n,i,t⟩:=I.list m;have o:=h.length;have p:=n.length;have j:(d.toArray.size != f.toArray.size)=true:=by simp;lia
  exact⟨SeqAt.RcAt.lists_lengths g.isList i.isList j k,SeqAt.RcNeAt.lists_lengths g.isList i.isList j k⟩
 ·obtain⟨d,h,g,r⟩:=I.tuple l;obtain⟨f,n,i,t⟩:=I.tuple m;have o:=h.length;have p:=n.length;have c:∀j (l:j<d.toArray.size) (m:j<f.toArray.size),SeqAt.EqAt A.in1 s d.toArray[j] f.toArray[j] ((λ_=>true) j):=λj h l=>by
   exfalso;have m:j<d.length:=by simpa using h
   have h:j<f.length:=by simpa using l
   rcases q with e|e
   ·subst e;simp at o;lia
   ·subst e;simp at p;lia
  have e:((List.range (min d.toArray.size f.toArray.size)).all (λ_=>true)&&d.toArray.size==f.toArray.size)=false:=by
   have:d.toArray.size≠f.toArray.size:=by simp;lia
   rw[Bool.and_eq_false_iff];exact .inr (beq_eq_false_iff_ne.mpr this)
  have h:=SeqAt.RcAt.tuples (A:=A) (show s.heap.IsTuple a d.toArray from g) (show s.heap.IsTuple b f.toArray from i) k c;have j:=SeqAt.RcNeAt.tuples (A:=A) (show s.heap.IsTuple a d.toArray from g) (show s.heap.IsTuple b f.toArray from i) k c;rw[e]at h j;calc⟨h,j⟩
def NL(K:W.Frag):R2:=λx y H Q=>match x,y with
 | .ref a,.ref b=>(iB K H 20 (.ref a) (.ref b)/\Q (.bl true) H)\/(qM K H a b/\Q (.bl false) H)
 |x,y=>Jf x y=true/\Q (.bl (decide (x=y))) H
def NM(K:W.Frag):R2:=λx y H Q=>match x,y with
 | .ref a,.ref b=>(iB K H 20 (.ref a) (.ref b)/\Q (.bl false) H)\/(qM K H a b/\Q (.bl true) H)
 |x,y=>Jf x y=true/\Q (.bl (!decide (x=y))) H
theorem EI(c:X.A.units+64<cLine):fE X (compareOp .Eq) (NL X.K):=by
  intro pins s σ H x y v u Q I a b h
  cases x<;>cases y<;>first
    |calc RC pins s σ H _ _ v u Q I a b h
    | (cases a;cases b
       rcases h with⟨a,q⟩|⟨a,q⟩
       · exact(EH I (A:=X.A) a ()).1 X.prog X.w X.xe _ ⟨.bl true,H,I,rfl,q⟩
       · calc(Av I (A:=X.A) a ()).1 X.prog X.w X.xe _ ⟨.bl false,H,I,rfl,q⟩)
theorem EJ(c:X.A.units+64<cLine):fE X (compareOp .NotEq) (NM X.K):=by
  intro pins s σ H x y v u Q I a b h
  cases x<;>cases y<;>first
    |calc RD pins s σ H _ _ v u Q I a b h
    | (cases a;cases b
       rcases h with⟨a,q⟩|⟨a,q⟩
       · exact(EH I (A:=X.A) a ()).2 X.prog X.w X.xe _ ⟨.bl false,H,I,rfl,q⟩
       · calc(Av I (A:=X.A) a ()).2 X.prog X.w X.xe _ ⟨.bl true,H,I,rfl,q⟩)
def Sb(g:Bool->Bool):R2:=λx y H Q=>match x,y with
 | .bl c,.bl d=>Q (.bl (g (c==d))) H
 |x,.bH=>Q (.bl (g (decide (x=.bH)))) H
 |_,_=>False
theorem EK:fE X (compareOp .Is) (Sb id):=by
 intro pins s σ H x y v u Q I a b h
 cases x<;>cases y<;>first
  |calc(show False from h).elim
  |calc Nd pins s σ H _ _ v u Q I a b ⟨rfl,h⟩
  |(cases a;cases b;calc is_bool ⟨.bl _,H,I,rfl,h⟩)
theorem tY:fE X (compareOp .IsNot) (Sb not):=by
 intro pins s σ H x y v u Q I a b h
 cases x<;>cases y<;>first
  |calc(show False from h).elim
  |calc Jg pins s σ H _ _ v u Q I a b ⟨rfl,h⟩
  |(cases a;cases b;calc isnot_bool ⟨.bl _,H,I,rfl,h⟩)
def uIn(K:W.Frag)(a:Bool):R2:=λx y H Q=>match y with
 | .ref p=>∃xs,(aO K H p xs\/bq K H p xs)/\fF x=true/\xs.all fF=true/\Q (.bl (if a then !An x xs else An x xs)) H
 |_=>False
theorem EL:fE X (compareOp .In) (uIn X.K false):=by
 intro pins s σ H x y v u Q I a b h
 cases y<;>first
  |calc(show False from h).elim
  |(obtain⟨c,d,e,f,g⟩:=h;calc B7 pins s σ H _ _ v u Q I a b ⟨_,c,rfl,d,e,f,g⟩)
def NN(K:W.Frag)(a:TE):TI:=λσ H R=>a σ H λx b=>match x with
 | .ref a=>((∃xs,aO K b a xs)/\R (tF K a) b)\/((∃xs,bq K b a xs)/\R (Rz K a) b)
 |_=>False
theorem bR{n l:Expr}{i:TE}(r:PE X l i):PI X n l (NN X.K i):=by
  calc⟨?_⟩;intro pins s σ H R I h;calc c9 (r pins s σ H _ I h) λv c t=>?_;obtain⟨x,j,d,u,k⟩:=t
  cases x<;>first
    |calc(show False from k).elim
    | (rename_i a;cases u
       rcases k with⟨⟨w,f⟩,q⟩|⟨⟨w,f⟩,q⟩
       · obtain⟨m,y,p,z⟩:=d.list f;calc wpAny_pyIter_list p.isList ?_;calc⟨c.heap.objs.size,[c.heap.objs.size],_,_,j,rfl,d.kept (t':=c.toks) λb o e=>K' _ e,BZ a _,⟨_,aah _ rfl,rfl,rfl⟩,λb g=>?_,q⟩;have e:b=c.heap.objs.size:=by simpa using g
         subst e;exact d.DW (J' _) (d.aU.fresh (J' _))
       · obtain⟨m,y,p,z⟩:=d.tuple f;calc aa6 (show c.heap.IsTuple a m.toArray from p) ?_;calc⟨c.heap.objs.size,[c.heap.objs.size],_,_,j,rfl,d.kept (t':=c.toks) λb o e=>K' _ e,yB a _,⟨_,aah _ rfl,rfl,rfl⟩,λb g=>?_,q⟩;have e:b=c.heap.objs.size:=by simpa using g
         subst e;calc d.DW (J' _) (d.aU.fresh (J' _)))
end
structure Def(P:Program)(w:World)(K:W.Frag)(mg:Str->Option Value)(base:Heap)(x:Str)(k:Nat)(ps:List Str)(sp:Sp):Prop where
 ex:∃f fd,lG P w K mg base Ce k f fd ps sp/\mg x=some (.ref f)/\W.keepIn K (.ref f)=true/\Binds K fd ps []
structure cL(K:W.Frag)(mg:Str->Option Value)(x qual:Str)(st:Stmt)(ps:List Str):Prop where
 ex:∃f fd,JA K x qual st f fd/\mg x=some (.ref f)/\Binds K fd ps []
section
variable {P:Program}{w:World}{K:W.Frag}{mg:Str->Option Value}{base:Heap}
theorem cL.ok{x qual:Str}{a:Stmt}{N b:List Str}{k:Nat}{sp:Sp}(T:cL K mg x qual a b)(S:aC N b (ay a))(c:∀vs H Q E,sp vs H Q E->vs.length=b.length)
  (e:∀(f:Addr) (d:Value) (A:Around) (outer:List Env) (s:Shared) (H:Hp) (vs:List V) (Q:VK) (E:XK),eR k (A.deeper (envOfC qual (ay a) s.heap.objs.size f d))->sp vs H Q E->
   ∃t,vY (qC Ce P w K mg base N qual (ay a) f d A outer s H E).Ja (cO a) t/\t {nx:=λ_ a=>Q .bH a,rt:=Q} (start N vs) H):Def P w K mg base x (k + 1) b sp:=by
 obtain⟨f,a,F,b,d⟩:=T.ex;calc⟨f,a,F.ok S c (e f),b,F.kp,d⟩
end
theorem Sd{X:Cx}{k j:Nat}{c:List Str}{sp:Sp}{x:Str}{p a:Pos}{e:Expr}{b:List Expr}{t:TA}(D:Def X.prog X.w X.K X.mg X.base x k c sp)(d:eR j X.A)(g:PA X (e::b) t)(h:Gl X x:=by rfl)(c:k<=j:=by decide)
  (i:(x==("__debug__":Str))=false:=by decide) (j:starEach (e::b) X.env=(false,eval e X.env)::starEach b X.env:=by rfl) (k:(backTo a (starEach b X.env)).any (·.1)=false:=by rfl):
  PE X (.Call (.Name x p) (e::b) [] a) (wm sp [] E0 t):=by
 obtain⟨f,l,F,a,b,e⟩:=D.ex;calc Jl F (d.mono c) h a b e .nil As g i j k
end
section
variable {H:Hp}
section
variable {X:Cx}
def NO(K:W.Frag):R2:=λx y H Q=>match x,y with
 | .str z,.int i=>∃c,z.length<=sizeLine/\iG z.cps.toList i=some c/\Q (.str ⟨#[c]⟩) H
 | .ref p,.int i=>∃xs v,(aO K H p xs\/bq K H p xs)/\iG xs i=some v/\Q v H
 | .ref p,.str k=>∃v,jA H p (.str k) (some v)/\Q v H
 |_,_=>False
theorem X2(c:X.A.units+64<cLine):RQ X (NO X.K):=by
  intro a b d s σ H x y v u Q I i j h k
  cases x<;>cases y<;>first
    |calc(show False from h).elim
    |(obtain⟨c,f,l,e⟩:=h;calc Nr a b d s σ H _ _ v u Q I i j ⟨_,_,c,rfl,rfl,f,l,e⟩ k)
    | (obtain⟨c,m,f | f,l,e⟩:=h
       · exact Jq a b d s σ H _ _ v u Q I i j ⟨_,c,_,m,rfl,rfl,f,l,e⟩ k
       · calc Nq a b d s σ H _ _ v u Q I i j ⟨_,c,_,m,rfl,rfl,f,l,e⟩ k)
    | (obtain⟨m,g,e⟩:=h
       cases i;calc tail_any (wC I g) PySem.F.slot_dict_getitem.lookup (B9 () I g j λc d a b=>⟨m,H,a,b,e⟩) k)
end
inductive DV where
 |bH|bl (b:Bool)|int (i:Int)|str (x:Str)|tup (ds:List DV)|lst (ds:List DV)|dict
inductive HD(H:Hp):Nat->V->DV->Prop
 |bH {n}:HD H n .bH .bH
 |bl {n} (b:Bool):HD H n (.bl b) (.bl b)
 |int {n} (i:Int):HD H n (.int i) (.int i)
 |str {n} (x:Str):HD H n (.str x) (.str x)
 |tup {n a xs ds}:H a=some (.tup xs)->xs.length=ds.length->(∀(i:Nat) u e,xs[i]?=some u->ds[i]?=some e->HD H n u e)->HD H (n+1) (.ref a) (.tup ds)
 |lst {n a xs ds}:H a=some (.lst xs)->xs.length=ds.length->(∀(i:Nat) u e,xs[i]?=some u->ds[i]?=some e->HD H n u e)->HD H (n+1) (.ref a) (.lst ds)
 |dict {n a aW}:H a=some (.dK aW)->HD H n (.ref a) .dict
theorem HD.same{H a:Hp}(s:aq H a){n:Nat}{x:V}{d:DV}(h:HD H n x d):HD a n x d:=by
 induction h with
 |bH=>calc .bH
 |bl b=>calc .bl b
 |int i=>calc .int i
 |str x=>calc .str x
 |tup a b c d=>calc .tup (s _ _ a) b d
 |lst a b c d=>calc .lst (s _ _ a) b d
 |dict a=>calc .dict (s _ _ a)
theorem HD.mono{H:Hp}{n:Nat}{x:V}{d:DV}(h:HD H n x d):∀{m:Nat},n<=m->HD H m x d:=by
 induction h with
 |bH=>intro m _;calc .bH
 |bl b=>intro m _;calc .bl b
 |int i=>intro m _;calc .int i
 |str x=>intro m _;calc .str x
 |tup a b c f=>
  intro m g;obtain⟨k,rfl⟩:∃k,m=k+1:=⟨m-1,()⟩
  calc .tup a b λi u e p q=>f i u e p q ()
 |lst a b c f=>
  intro m g;obtain⟨k,rfl⟩:∃k,m=k+1:=⟨m-1,()⟩
  calc .lst a b λi u e p q=>f i u e p q ()
 |dict a=>intro m _;calc .dict a
inductive HT(H:Hp):Nat->V->DV->Prop
 |bH {n}:HT H n .bH .bH
 |bl {n} (b:Bool):HT H n (.bl b) (.bl b)
 |int {n} (i:Int):HT H n (.int i) (.int i)
 |str {n} (x:Str):HT H n (.str x) (.str x)
 |tup {n a xs ds}:H a=some (.tup xs)->xs.length=ds.length->(∀(i:Nat) u e,xs[i]?=some u->ds[i]?=some e->HT H n u e)->HT H (n+1) (.ref a) (.tup ds)
theorem HT.hd{H:Hp}{n:Nat}{x:V}{d:DV}(h:HT H n x d):HD H n x d:=by
 induction h with
 |bH=>calc .bH
 |bl b=>calc .bl b
 |int i=>calc .int i
 |str x=>calc .str x
 |tup a b c d=>calc .tup a b d
def bP(H a:Hp):Prop:=∀b xs,H b=some (.tup xs)->a b=some (.tup xs)
theorem aq.aJ{a:Hp}(h:aq H a):bP H a:=λb a e=>h b _ e
theorem bP.refl(H:Hp):bP H H:=λ_ _ h=>h
theorem bP.trans{c d:Hp}(a:bP H c)(b:bP c d):bP H d:=λc o h=>b c o (a c o h)
theorem bP.upd{a:Hp}(h:bP H a){p:Addr}{o:HO}(d:∀xs,a p≠some (.tup xs)):bP H (upd a p o):=λb xs e=>by
 have c:=h b xs e;have:b≠p:=λz=>by subst z;exact d xs c
 rw[ax this];calc c
theorem HT.aA{H a:Hp}(s:bP H a){n:Nat}{x:V}{d:DV}(h:HT H n x d):HT a n x d:=by
 induction h with
 |bH=>calc .bH
 |bl b=>calc .bl b
 |int i=>calc .int i
 |str x=>calc .str x
 |tup a b c d=>calc .tup (s _ _ a) b d
theorem aq.new{p:Addr}(o:HO)(a:H p=none):aq H (upd H p o):=λb u e=>by rw[ax (au e a)];calc e
end
section
section
variable {X:Cx}
def NP(K:W.Frag):List V->Hp->VK->Prop:=λxs H Q=>match xs with
 | [x]=>∃n,Ea K x H n/\Q (.int (n:Nat)) H
 |_=>False
theorem aN:eZ X (.builtin "len") (NP X.K):=by
 intro a s σ H b c Q I r h
 match b,r,h with
 | [x],r,h=>
  obtain⟨n,b,d⟩:=h;calc Eb a s σ H _ c Q I r ⟨x,n,rfl,b,d⟩
def uII(g:Int->Int->Int):List V->Hp->VK->Prop:=λxs H Q=>match xs with
 | [.int i,.int j]=>Q (.int (g i j)) H
 |_=>False
theorem Cm(b:X.calm=true):eZ X (.builtin "max") (uII λi j=>if j > i then j else i):=by
 intro a s σ H c d Q I r h
 match c,r,h with
 | [.int i,.int j],r,h=>calc B1 b a s σ H _ d Q I r ⟨i,j,rfl,h⟩
def u6(K:W.Frag):List V->Hp->VK->Prop:=λxs H Q=>match xs with
 | [.ref p]=>(∃a,aO K H p a/\∀l,H l=none->Q (.ref l) (upd H l (.tup a)))\/(∃a,bq K H p a/\Q (.ref p) H)
 |_=>False
theorem cn:eZ X (.type "tuple") (u6 X.K):=by
 intro a s σ H b e Q I r h
 match b,r,h with
 | [.ref p],r,h=>
  rcases h with⟨b,c,d⟩|⟨b,c,d⟩
  ·exact lP a s σ H _ e Q I r ⟨p,b,rfl,.inl ⟨c,d⟩⟩
  ·calc lP a s σ H _ e Q I r ⟨p,b,rfl,.inr ⟨c,d⟩⟩
def EM(K:W.Frag):List V->Hp->VK->Prop:=λxs H Q=>match xs with
 | [.ref p]=>∃a,(aO K H p a\/bq K H p a)/\∀l,H l=none->Q (.ref l) (upd H l (.lst a))
 |_=>False
theorem b4:eZ X (.type "list") (EM X.K):=by
 intro a s σ H b c Q I r h
 match b,r,h with
 | [.ref p],r,h=>
  obtain⟨b,d,e⟩:=h;calc uV a s σ H _ c Q I r ⟨p,b,rfl,d,e⟩
def Lj:V->V->V->Hp->(Hp->Prop)->Prop:=λo i v H Q=>match o,i with
 | .ref p,.int k=>∃xs j,H p=some (.lst xs)/\yP xs.length k=some j/\Q (upd H p (.lst (xs.set j v)))
 |_,_=>False
theorem dW:M0 X Lj:=by
 intro a s σ H o i v b c u Q I d e f h
 cases o<;>cases i<;>first
  |calc(show False from h).elim
  |(obtain⟨g,j,i,k,l⟩:=h;calc set_list a s σ H _ _ v b c u Q I d e f ⟨_,g,_,j,rfl,rfl,i,k,l⟩)
end
theorem Se{CX P w K mg base N qual scope f cd A outer s H E}:(qC CX P w K mg base N qual scope f cd A outer s H E).Ja.K=K:=rfl
theorem Lk{X:Cx}:X.Ja.K=X.K:=rfl
theorem EN{CX P w K mg base N qual scope f cd A outer s H E}:(qC CX P w K mg base N qual scope f cd A outer s H E).K=K:=rfl
theorem Ll{X:Cx}{scope C N' a b fp}:(Qn X scope C N' a b fp).K=X.K:=rfl
theorem cR:2<=sizeLine:=by decide
end
section
variable {g:Int->Int->V}
section
variable {K:W.Frag}{H:Hp}{Q:VK}{i j:Int}{a b:Addr}{x y:V}{s t:Str}
theorem Lm{C:Int->Int->Prop}:uI C g (.int i) (.int j) H Q=(C i j/\Q (g i j) H):=rfl
theorem EO:NI g (.int i) (.int j) H Q=Q (g i j) H:=rfl
theorem ER:decide (V.int i=V.int j)=decide (i=j):=by simp
theorem ES:decide (V.str s=V.str t)=decide (s=t):=by simp
theorem u7:NL K (.int i) (.int j) H Q=Q (.bl (decide (i=j))) H:=by
 show(true=true/\Q (.bl (decide (V.int i=V.int j))) H)=_;rw[ER];simp
theorem u9:NL K (.str s) (.str t) H Q=Q (.bl (decide (s=t))) H:=by
 show(true=true/\Q (.bl (decide (V.str s=V.str t))) H)=_;rw[ES];simp
theorem va:NM K (.int i) (.int j) H Q=Q (.bl (!decide (i=j))) H:=by
 show(true=true/\Q (.bl (!decide (V.int i=V.int j))) H)=_;rw[ER];simp
theorem vb:NM K (.str s) (.str t) H Q=Q (.bl (!decide (s=t))) H:=by
 show(true=true/\Q (.bl (!decide (V.str s=V.str t))) H)=_;rw[ES];simp
theorem ET:NL K (.ref a) (.ref b) H Q=((iB K H 20 (.ref a) (.ref b)/\Q (.bl true) H)\/(qM K H a b/\Q (.bl false) H)):=rfl
theorem EU:NM K (.ref a) (.ref b) H Q=((iB K H 20 (.ref a) (.ref b)/\Q (.bl false) H)\/(qM K H a b/\Q (.bl true) H)):=rfl
theorem EV{g:Bool->Bool}{c d:Bool}:Sb g (.bl c) (.bl d) H Q=Q (.bl (g (c==d))) H:=rfl
theorem Ln{b:Bool}:uIn K b x (.ref a) H Q=∃xs,(aO K H a xs\/bq K H a xs)/\fF x=true/\xs.all fF=true/\Q (.bl (if b then !An x xs else An x xs)) H:=rfl
theorem EW:NO K (.ref a) (.int i) H Q=∃xs v,(aO K H a xs\/bq K H a xs)/\iG xs i=some v/\Q v H:=rfl
theorem EX:NO K (.ref a) (.str s) H Q=∃v,jA H a (.str s) (some v)/\Q v H:=rfl
theorem EY:NO K (.str s) (.int i) H Q=∃c,s.length<=sizeLine/\iG s.cps.toList i=some c/\Q (.str ⟨#[c]⟩) H:=rfl
theorem EZ:NP K [x] H Q=∃n,Ea K x H n/\Q (.int (n:Nat)) H:=rfl
theorem Lo{g:Int->Int->Int}:uII g [.int i,.int j] H Q=Q (.int (g i j)) H:=rfl
theorem mZ:u6 K [.ref a] H Q=((∃b,aO K H a b/\∀l,H l=none->Q (.ref l) (upd H l (.tup b)))\/(∃b,bq K H a b/\Q (.ref a) H)):=rfl
theorem Aw:EM K [.ref a] H Q=∃b,(aO K H a b\/bq K H a b)/\∀l,H l=none->Q (.ref l) (upd H l (.lst b)):=rfl
theorem wJ{R:Hp->Prop}:Lj (.ref a) (.int i) x H R=∃xs j,H a=some (.lst xs)/\yP xs.length i=some j/\R (upd H a (.lst (xs.set j x))):=rfl
theorem tZ{α:Type}{o:Option α}:(some o).join=o:=rfl
end
end
section
variable {r:List V->Hp->VK->Prop}
def fI:Expr->Bool
 | .Starred ..=>false
 |_=>true
theorem fJ{e:Expr}{a:List Expr}{env:Env}(h:fI e=true):starEach (e::a) env=(false,eval e env)::starEach a env:=by
 cases e<;>first|rfl|calc absurd h M'
theorem jf{a:Pos}{env:Env}:∀{b:List Expr},b.all fI=true->(backTo a (starEach b env)).any (·.1)=false
 | [],_=>rfl
 |e::b,h=>by
  rw[List.all_cons,aaR]at h;rw[fJ h.1];show(false||(backTo a (starEach b env)).any (·.1))=false;rw[jf h.2];rfl
def yX:Expr->Bool
 | .ListComp ..=>false
 | .SetComp ..=>false
 | .DictComp ..=>false
 |_=>true
theorem gc{e:Expr}{t:Option Expr}{l:Nat}{env:Env}(h:yX e=true):swapsWith e t l env=pure false:=by
 cases e<;>first|rfl|calc absurd h M'
section
variable {X:Cx}{e:Expr}{es:List Expr}{te:TE}{t:TA}{pos p:Pos}{x:Str}
theorem af(a:PE X e te)(b:PA X es t)(h:fI e=true:=by rfl):PA X (e::es) (Af te t):=Jk a b (fJ h)
theorem aE{k j:Nat}{a:List Str}{sp:Sp}(D:Def X.prog X.w X.K X.mg X.base x k a sp)(b:eR j X.A)(c:PA X (e::es) t)(d:Gl X x:=by rfl)(a:k<=j:=by decide)
  (f:(x==("__debug__":Str))=false:=by decide) (g:fI e=true:=by rfl) (h:es.all fI=true:=by rfl):
  PE X (.Call (.Name x p) (e::es) [] pos) (wm sp [] E0 t):=Sd D b c d a f (fJ g) (jf h)
theorem aZ{a:String}(b:eZ X (.builtin a) r)(c:Gl X x)(d:X.mg x=none)(f:bootBuiltins x=some (.builtin a))(g:PA X (e::es) t)(h:x≠"__name__":=by decide)(a:(x==("__debug__":Str))=false:=by decide)
  (i:fI e=true:=by rfl) (j:es.all fI=true:=by rfl):PE X (.Call (.Name x p) (e::es) [] pos) (Qj r t):=Eh b c d f g h a (fJ i) (jf j)
theorem cQ{T:String}(a:eZ X (.type T) r)(b:Gl X x)(c:X.mg x=none)(d:bootBuiltins x=some (.type T))(f:PA X (e::es) t)(g:x≠"__name__":=by decide)(h:(x==("__debug__":Str))=false:=by decide)
  (i:fI e=true:=by rfl) (j:es.all fI=true:=by rfl):PE X (.Call (.Name x p) (e::es) [] pos) (Qj r t):=B5 a b c d f g h (fJ i) (jf j)
theorem aT{i:Nat}{a:Pos}(b:X.N.Nodup)(c:X.N[i]?=some x)(d:Loc X.env.scope x)(f:PE X e te)(h:yX e=true:=by rfl)(g:X.fn x=true\/X.env.scope.names.lookup x=some .local:=by grind):
  PS X (.Assign [.Name x a] e pos) (BY te (fC i)):=DT b c d f (gc h) g
theorem bS(a:PE X e te)(h:yX e=true:=by rfl):PS X (.Expr e pos) (zX te):=Jb a (gc h)
end
end
section
def vc:Expr->Bool
 | .Slice ..=>false
 |_=>true
theorem E2{b:Expr}(h:vc b=true):Al b:=λo i=>by
 cases b<;>first|rfl|calc absurd h M'
theorem aj{X:Cx}{a b:Expr}{d e:TE}{c:Pos}(f:X.A.units+64<cLine)(g:PE X a d)(i:PE X b e)(h:vc b=true:=by rfl):PE X (.Subscript a b c) (D7 (NO X.K) d e):=RT (X2 f) g i (E2 h)
end
end L2
set_option maxHeartbeats 400000
namespace L2
open PySem PySem.Spec PyProof.Rows
section
section
variable {prog:Program}{w:World}{A:Around}{E:Value->Shared->Prop}{s:Shared}{K:W.Frag}{x C B:Addr}{ox:Obj}{od:Option Obj}{name:Str}
open PySem.W in
open PySem.W in
end
end
section
end
end L2
namespace L2
open PySem PySem.Spec PyProof.Rows
end L2
set_option maxHeartbeats 4000000
namespace PySem
variable {a j:Addr}{Q:Value->Shared->Prop}
section
variable {prog:Program}{w:World}{A:Around}{E:Value->Shared->Prop}{s:Shared}
theorem pZ{n:Nat}{c:Array Value}{v:Value}(b:s.heap.IsTupleIter j a n)(f:s.heap.IsTuple a c)(h:c[n]?=some v)
  (q:∀g,g.IsTupleIter j a (n+1)->Heap.SameBut j s.heap g->Q v {s with heap:=g}):wpAny (model prog w) A (Builtin.SmallTypes.nextOf (.ref j)) Q E s:=by
 obtain⟨g,e,c,d⟩:=id b;obtain⟨k,g,_,l,i⟩:=f;unfold Builtin.SmallTypes.nextOf;refine E' (abi (name:=Str.ofString "__next__") b.typeIs F.slot_tuple_iterator_next (wpAny_call_entry F.slot_tuple_iterator_next b.typeIs F.entry_tuple_iterator_next ?_ (F.args_tuple_iterator_next_1 _)));refine E' (m:=field (.ref j) 0) (aaW e d (x:=.ref a) rfl ?_);show wpAny _ _ (if (Value.ref a==Value.none)=true then _ else _) _ _ _;rw[if_neg (by exact M')];refine E' (m:=field (.ref j) 1) (aaW e d (x:=.int n 0) rfl ?_);refine E' (m:=seqItems? (.ref a)) (abt g i ?_);simp only[Int.toNat_natCast,h];refine E' (wpAny_setField e d nofun (S' ⟨v,rfl,S' (q _ ⟨_,Heap.get?_update_self _ e (Obj.isFreed_of_fields (Obj.data_mapFields d _)),(Obj.cls_mapFields ..).trans c,?_⟩ (Heap.SameBut.update ..))⟩));rw[Obj.data_mapFields d];simp[rawInt]
theorem qN{n:Nat}{c:Array Value}(f:A.handled=none)(b:s.heap.IsTupleIter j a n)(h:s.heap.IsTuple a c)(i:c[n]?=none)
  (q:∀g e,Heap.ExtBut j s.heap g->(∃o,g.get? e=some o/\o.cls=.type "StopIteration")->E (.ref e) {s with heap:=g}):wpAny (model prog w) A (Builtin.SmallTypes.nextOf (.ref j)) Q E s:=by
 obtain⟨g,e,c,d⟩:=id b;obtain⟨k,c,_,l,g⟩:=h;unfold Builtin.SmallTypes.nextOf;refine E' (abi (name:=Str.ofString "__next__") b.typeIs F.slot_tuple_iterator_next (wpAny_call_entry F.slot_tuple_iterator_next b.typeIs F.entry_tuple_iterator_next ?_ (F.args_tuple_iterator_next_1 _)));refine E' (m:=field (.ref j) 0) (aaW e d (x:=.ref a) rfl ?_);show wpAny _ _ (if (Value.ref a==Value.none)=true then _ else _) _ _ _;rw[if_neg (by exact M')];refine E' (m:=field (.ref j) 1) (aaW e d (x:=.int n 0) rfl ?_);refine E' (m:=seqItems? (.ref a)) (abt c g ?_);simp only[Int.toNat_natCast,i];refine E' (wpAny_rule (E' (wpAny_setField e d nofun (E' (m:=newExc (.type "StopIteration") []) ?_))));simp only[newExc,newTuple];refine E' (abr (E' (m:=firstArgMember _ _) (wpAny_of_eq (a:=Value.none) (by first|rfl|(simp only[firstArgMember];rfl)) (abr ?_ (by size_fits)))) (by size_fits));simp only[raiseNew];refine E' (wpAny_handled ?_)
 first|rw[show A.in1.handled=none from f]|rw[f]
 calc E' (S' (wpAny_throw (q _ _ (((Heap.SameBut.update ..).extBut.push _).push _) ⟨_,aah _ rfl,rfl⟩)))
end
theorem Draws.tup{prog:Program}{w:World}{A:Around}(f:A.handled=none)(j a:Addr)(l:a≠j)(c:Array Value):
  Draws prog w A j [j,a] c.size (λi v=>c[i]?=some v) (λi h=>h.IsTupleIter j a i/\h.IsTuple a c) where
 live:=λ_ _ b=>let ⟨o,d,_⟩:=b.1;⟨o,d⟩
 frame:=λ_ _ _ b k=>⟨b.1.at λo e=>k j nofun o e,b.2.at λo e=>k a nofun o e⟩
 item:=λi s Q E d b q=>pZ b.1 b.2 (v:=c[i]) (by simp[d]) λg h e=>q _ g s.toks (by simp[d]) ⟨h,b.2.extBut e.extBut l⟩ e
 done:=λs Q E b q=>qN f b.1 b.2 nofun q
def yY(b:Bool)(h:Heap)(a:Addr)(c:Array Value):Prop:=if b=true then h.IsList a c else h.IsTuple a c
def oo(b:Bool)(h:Heap)(j a:Addr)(n:Nat):Prop:=if b=true then h.IsListIter j a n else h.IsTupleIter j a n
theorem oo.at{b:Bool}{h h':Heap}{n:Nat}(x:oo b h j a n)(k:∀o,h.get? j=some o->h'.get? j=some o):oo b h' j a n:=by
 cases b
 ·exact Heap.IsTupleIter.at x k
 ·calc Heap.IsListIter.at x k
theorem oo.obj{b:Bool}{h:Heap}{n:Nat}(x:oo b h j a n):∃o,h.get? j=some o/\∀v,o.data≠.cell v:=by
 cases b<;>(obtain⟨o,e,c,d⟩:=x;calc⟨o,e,λv z=>by rw[d]at z;cases z⟩)
theorem Draws.sq{prog:Program}{w:World}{A:Around}(d:A.handled=none)(b:Bool)(j a:Addr)(e:a≠j)(c:Array Value):
  Draws prog w A j [j,a] c.size (λi v=>c[i]?=some v) (λi h=>oo b h j a i/\yY b h a c):=by
 cases b
 ·exact Draws.tup d j a e c
 ·calc Draws.list d j a e c
end PySem
namespace PySem
variable {Q:Option Value->Shared->Prop}
structure ZA(z ti to i1 i2:Addr)(f1 f2:List Addr):Prop where
 a1:ti≠z
 a2:to≠z
 a3:i1≠z
 a4:i2≠z
 a5:ti≠to
 a6:ti≠i1
 a7:ti≠i2
 a8:to≠i1
 a9:to≠i2
 a10:i1≠i2
 b1:z∉f1
 b2:to∉f1
 b3:i2∉f1
 c1:z∉f2
 c2:to∉f2
 c3:i1∉f2
section
variable {prog:Program}{w:World}{A:Around}{E:Value->Shared->Prop}{s:Shared}{z ti to i1 i2:Addr}{f1 f2:List Addr}{n1 n2 k:Nat}{P1 P2:Nat->Value->Prop}{S1 S2:Nat->Heap->Prop}{a b:Value}
theorem Cn{Q:Value->Shared->Prop}(Z:ZA z ti to i1 i2 f1 f2)(u:Draws prog w A i1 f1 n1 P1 S1)(B:Draws prog w A i2 f2 n2 P2 S2)(d:IsZip s.heap z ti to .none)(i:IsPair s.heap ti (.ref i1) (.ref i2))(C:IsPair s.heap to a b)
  (l:S1 k s.heap) (F:S2 k s.heap) (n:k<n1) (G:k<n2)
  (q:∀x y g e,P1 k x->P2 k y->IsZip g z ti to (rawInt s.heap.objs.size)->IsPair g to x y->S1 (k + 1) g->S2 (k + 1) g->IsPair g s.heap.objs.size x y->g.objs.size=s.heap.objs.size + 1->
   (∀c o,c≠z->c≠to->c≠i1->c≠i2->s.heap.get? c=some o->g.get? c=some o)->Q (.ref s.heap.objs.size) {s with heap:=g,toks:=e}):
  wpAny (model prog w) A (Builtin.«zip.__next__» ⟨[.ref z],[]⟩) (λe s'=>∃v,e=.done (.ret v)/\Q v s') E s:=by
 calc E' (m:=field (.ref z) 2) (aaW d rfl (x:=.bool false) rfl (E' (m:=field (.ref z) 3) (aaW d rfl (x:=.ref ti) rfl ?_)));calc E' (abt i rfl (E' (m:=Builtin.SmallTypes.ownedTupleIsFree (.ref z)) ?_));unfold Builtin.SmallTypes.ownedTupleIsFree;calc E' (aaW d rfl (x:=.none) rfl (S' ?_));simp only[if_true];refine E' (wpAny_rule (E' (aaW d rfl (x:=.ref to) rfl (E' (wpAny_setField_rec d nofun λj p r=>?_)))))
 replace p:IsZip j z ti to .ellipsis:=p
 calc E' ?_;simp only[List.zipIdx_cons,List.zipIdx_nil,List.forIn_cons,List.forIn_nil];calc E' (E' (wpAny_onRaise (E' (m:=Builtin.SmallTypes.nextOf (.ref i1)) ?_)));refine u.item k _ _ _ n (u.frame _ _ _ l λc g o e=>r.extBut c o (λh=>Z.b1 (h▸g)) e) λx d l L I i=>S' ?_
 replace i:Heap.SameBut i1 j d:=i
 have l:IsPair d to a b:=i.extBut _ _ Z.a8 (r.extBut _ _ Z.a2 C);refine E' (abt l rfl (E' (wpAny_updateSeq_pair l λn t j=>E' (wpAny_letGo (S' ?_)))))
 replace t:IsPair n to x b:=t
 replace j:Heap.SameBut to d n:=j
 calc E' (E' (wpAny_onRaise (E' (m:=Builtin.SmallTypes.nextOf (.ref i2)) ?_)));refine B.item k _ _ _ G (B.frame _ _ _ F λc g o e=>j.extBut c o (λh=>Z.c2 (h▸g)) (i.extBut c o (λh=>Z.c3 (h▸g)) (r.extBut c o (λh=>Z.c1 (h▸g)) e))) λy C d M K l=>S' ?_
 replace l:Heap.SameBut i2 n C:=l
 have F:IsPair C to x b:=l.extBut _ _ Z.a9 t;refine E' (abt F rfl (E' (wpAny_updateSeq_pair F λd v n=>E' (wpAny_letGo (S' (S' ?_))))))
 replace v:IsPair d to x y:=v
 replace n:Heap.SameBut to C d:=n
 calc E' (abt v rfl (E' (wpAny_newTuple ?_)));have t:d.objs.size=s.heap.objs.size:=by rw[n.1,l.1,j.1,i.1,r.1]
 have J:IsZip d z ti to .ellipsis:=n.extBut _ _ Z.a2.symm (l.extBut _ _ Z.a4.symm (j.extBut _ _ Z.a2.symm (i.extBut _ _ Z.a3.symm p)));have N:∀c o,c≠z->c≠to->c≠i1->c≠i2->s.heap.get? c=some o->d.get? c=some o:=λc o p C F G e=>n.extBut _ _ C (l.extBut _ _ G (j.extBut _ _ C (i.extBut _ _ F (r.extBut _ _ p e))));have O:S1 (k+1) d:=u.frame _ _ _ I λc g o e=>n.extBut c o (λh=>Z.b2 (h▸g)) (l.extBut c o (λh=>Z.b3 (h▸g)) (j.extBut c o (λh=>Z.b2 (h▸g)) e));have P:S2 (k+1) d:=B.frame _ _ _ K λc g o e=>n.extBut c o (λh=>Z.c2 (h▸g)) e;have i:z<d.objs.size:=V' J;refine E' (m:=Builtin.SmallTypes.ownedTupleHandOut (.ref z) (.ref d.objs.size)) ?_;unfold Builtin.SmallTypes.ownedTupleHandOut;have j:IsZip (d.push {cls:=.type "tuple",data:=.seq #[x,y]}) z ti to .ellipsis:=K' _ J;refine E' (wpAny_setField_rec j nofun λn l I=>?_)
 replace l:IsZip n z ti to (rawInt d.objs.size):=l
 refine wpAny_setField_rec l nofun λj n J=>?_
 replace n:IsZip j z ti to (rawInt d.objs.size):=n
 have r:∀c o,c≠z->d.get? c=some o->j.get? c=some o:=λc o p e=>J.extBut _ _ p (I.extBut _ _ p (K' _ e));have K:IsPair j d.objs.size x y:=J.extBut _ _ (abp i) (I.extBut _ _ (abp i) (aah _ rfl));have l:j.objs.size=d.objs.size+1:=by rw[J.1,I.1,aaG]
 rw[t]at n K l;calc S' ⟨_,rfl,?_⟩;show Q (.ref d.objs.size) _;rw[t];calc q x y j _ L M n (r _ _ Z.a2 v) (u.frame _ _ _ O λc g o e=>r c o (λh=>Z.b1 (h▸g)) e) (B.frame _ _ _ P λc g o e=>r c o (λh=>Z.c1 (h▸g)) e) K l λc o p C F G e=>r c o p (N c o p C F G e)
theorem E4{Q:Fin->Shared->Prop}(Z:ZA z ti to i1 i2 f1 f2)(J:Draws prog w A i1 f1 n1 P1 S1)(R:Draws prog w A i2 f2 n2 P2 S2)(p:IsZip s.heap z ti to .none)(T:IsPair s.heap ti (.ref i1) (.ref i2))(U:IsPair s.heap to a b)
  (W:S1 k s.heap) (X:S2 k s.heap) (l:k=n1\/(k<n1/\k=n2))
  (q:∀g e Y,(∀c o,c≠z->c≠to->c≠i1->c≠i2->s.heap.get? c=some o->g.get? c=some o)->(∃o,g.get? e=some o/\o.cls=.type "StopIteration")->E (.ref e) {s with heap:=g,toks:=Y}):
  wpAny (model prog w) A (Builtin.«zip.__next__» ⟨[.ref z],[]⟩) Q E s:=by
 calc E' (m:=field (.ref z) 2) (aaW p rfl (x:=.bool false) rfl (E' (m:=field (.ref z) 3) (aaW p rfl (x:=.ref ti) rfl ?_)));calc E' (abt T rfl (E' (m:=Builtin.SmallTypes.ownedTupleIsFree (.ref z)) ?_));unfold Builtin.SmallTypes.ownedTupleIsFree;calc E' (aaW p rfl (x:=.none) rfl (S' ?_));simp only[if_true];refine E' (wpAny_rule (E' (aaW p rfl (x:=.ref to) rfl (E' (wpAny_setField_rec p nofun λK F r=>?_)))))
 replace F:IsZip K z ti to .ellipsis:=F
 calc E' ?_;simp only[List.zipIdx_cons,List.zipIdx_nil,List.forIn_cons,List.forIn_nil];calc E' (E' (wpAny_onRaise (E' (m:=Builtin.SmallTypes.nextOf (.ref i1)) ?_)));have t:=J.frame _ _ _ W λc u o e=>r.extBut c o (λh=>Z.b1 (h▸u)) e;rcases l with l|⟨l1,l2⟩
 ·subst l;calc J.done _ _ _ t λn x d L=>?_;obtain⟨M,j,v⟩:=L
  replace d:Heap.ExtBut i1 K n:=d
  have S:IsZip n z ti to .ellipsis:=d _ _ Z.a3.symm F;have N:x≠z:=λy=>by subst y;rw[S]at j;cases j;simp at v
  exact wpAny_setField_rec S nofun λG _ i=>q G x s.toks (λc o B _ O _ y=>i.extBut _ _ B (d _ _ O (r.extBut _ _ B y))) ⟨M,i.extBut _ _ N j,v⟩
 ·subst l2;refine J.item k _ _ _ l1 t λx n P g l d=>S' ?_
  replace d:Heap.SameBut i1 K n:=d
  have g:IsPair n to a b:=d.extBut _ _ Z.a8 (r.extBut _ _ Z.a2 U);refine E' (abt g rfl (E' (wpAny_updateSeq_pair g λG l i=>E' (wpAny_letGo (S' ?_)))))
  replace i:Heap.SameBut to n G:=i
  calc E' (E' (wpAny_onRaise (E' (m:=Builtin.SmallTypes.nextOf (.ref i2)) ?_)));calc R.done _ _ _ (R.frame _ _ _ X λc u o e=>i.extBut c o (λh=>Z.c2 (h▸u)) (d.extBut c o (λh=>Z.c3 (h▸u)) (r.extBut c o (λh=>Z.c1 (h▸u)) e))) λg x I L=>?_;obtain⟨M,j,v⟩:=L
  replace I:Heap.ExtBut i2 G g:=I
  have C:IsZip g z ti to .ellipsis:=I _ _ Z.a4.symm (i.extBut _ _ Z.a2.symm (d.extBut _ _ Z.a3.symm F));have N:x≠z:=λy=>by subst y;rw[C]at j;cases j;simp at v
  calc wpAny_setField_rec C nofun λg _ e=>q g x P (λc o B l O n y=>e.extBut _ _ B (I _ _ n (i.extBut _ _ l (d.extBut _ _ O (r.extBut _ _ B y))))) ⟨M,e.extBut _ _ N j,v⟩
end
section
variable {prog:Program}{w:World}{A:Around}{E:Value->Shared->Prop}{s:Shared}{z ti to i1 i2:Addr}{f1 f2:List Addr}{n1 n2 k:Nat}{P1 P2:Nat->Value->Prop}{S1 S2:Nat->Heap->Prop}{a b:Value}
theorem sD(Z:ZA z ti to i1 i2 f1 f2)(f:Draws prog w A.in1 i1 f1 n1 P1 S1)(h:Draws prog w A.in1 i2 f2 n2 P2 S2)(e:IsZip s.heap z ti to .none)(i:IsPair s.heap ti (.ref i1) (.ref i2))(j:IsPair s.heap to a b)
  (l:S1 k s.heap) (m:S2 k s.heap) (n:k<n1) (p:k<n2)
  (q:∀x y g d,P1 k x->P2 k y->IsZip g z ti to (rawInt s.heap.objs.size)->IsPair g to x y->S1 (k + 1) g->S2 (k + 1) g->IsPair g s.heap.objs.size x y->g.objs.size=s.heap.objs.size + 1->
   (∀c o,c≠z->c≠to->c≠i1->c≠i2->s.heap.get? c=some o->g.get? c=some o)->Q (some (.ref s.heap.objs.size)) {s with heap:=g,toks:=d}):
  wpAny (model prog w) A (pyNext (.ref z)) Q E s:=by
 have c:s.TypeIs (.ref z) "zip":=⟨_,e,rfl⟩
 unfold pyNext;exact E' (wpAny_attempt (abi (name:=Str.ofString "__next__") c F.slot_zip_next (wpAny_call_entry F.slot_zip_next c F.entry_zip_next
  (Cn Z f h e i j l m n p λx y g d c o r t u v B C D=>S' (q x y g d c o r t u v B C D)) (F.args_zip_next_1 _))))
theorem vd(Z:ZA z ti to i1 i2 f1 f2)(h:Draws prog w A.in1 i1 f1 n1 P1 S1)(i:Draws prog w A.in1 i2 f2 n2 P2 S2)(d:IsZip s.heap z ti to .none)(j:IsPair s.heap ti (.ref i1) (.ref i2))(m:IsPair s.heap to a b)
  (n:S1 k s.heap) (p:S2 k s.heap) (l:k=n1\/(k<n1/\k=n2))
  (q:∀g f,(∀c o,c≠z->c≠to->c≠i1->c≠i2->s.heap.get? c=some o->g.get? c=some o)->Q none {s with heap:=g,toks:=f}):wpAny (model prog w) A (pyNext (.ref z)) Q E s:=by
 have c:s.TypeIs (.ref z) "zip":=⟨_,d,rfl⟩
 unfold pyNext;refine E' (wpAny_attempt (abi (name:=Str.ofString "__next__") c F.slot_zip_next (wpAny_call_entry F.slot_zip_next c F.entry_zip_next
  (E4 Z h i d j m n p l λg e f c ⟨o,r,t⟩=>?_) (F.args_zip_next_1 _))))
 calc E' (wpAny_isInstance (T:="StopIteration") (b:=true) ⟨o,r,t⟩ isSubtype_stop (S' (q _ _ c)))
end
def Im(b:Bool)(a:Addr):Obj:=if b=true then {cls:=.type "list_iterator",data:=.fields #[.ref a,.int 0 0]} else {cls:=.type "tuple_iterator",data:=.fields #[.ref a,.int 0 0]}
abbrev Wf(h:Heap)(b:Bool)(l:Addr):Heap:=h.push (Im b l)
abbrev Wg(h:Heap)(b c:Bool)(l m:Addr):Heap:=(Wf h b l).push (Im c m)
abbrev Wh(h:Heap)(b c:Bool)(l m:Addr):Heap:=(Wg h b c l m).push {cls:=.type "tuple",data:=.seq #[.ref h.objs.size,.ref (Wf h b l).objs.size]}
abbrev Wi(h:Heap)(b c:Bool)(l m:Addr):Heap:=(Wh h b c l m).push {cls:=.type "tuple",data:=.seq #[.none,.none]}
abbrev NS(h:Heap)(b c:Bool)(l m:Addr):Heap:=(Wi h b c l m).push {cls:=.type "zip",data:=.fields #[.none,.bool false,.bool false,.ref (Wg h b c l m).objs.size,.ref (Wh h b c l m).objs.size]}
theorem Cp(b c:Bool)(l m:Addr)(xs i:Array Value):
  Meets (Builtin.«zip.__new__» ⟨[.type "zip",.ref l,.ref m],[]⟩) (λ_ R s=>yY b s.heap l xs/\yY c s.heap m i/\R (.ok (.ret (.ref (Wi s.heap b c l m).objs.size))) {s with heap:=NS s.heap b c l m}):=
 .of_wp λn w A R s h=>by
  obtain⟨a,g,d,e,f⟩:=s;obtain⟨j,k,h⟩:=h;have n:=sub_zip
  cases b<;>cases c
  ·have b:Heap.IsTuple (Shared.heap ⟨a,g,d,e,f⟩) l xs:=j;have L2:Heap.IsTuple (Shared.heap ⟨a.push {cls:=.type "tuple_iterator",data:=.fields #[.ref l,.int 0 0]},g,d,e,f⟩) m i:=Heap.IsTuple.push k _;wp_walk using aa6 b,aa6 L2;exact⟨_,rfl,h⟩
  ·have b:Heap.IsTuple (Shared.heap ⟨a,g,d,e,f⟩) l xs:=j;have L2:Heap.IsList (Shared.heap ⟨a.push {cls:=.type "tuple_iterator",data:=.fields #[.ref l,.int 0 0]},g,d,e,f⟩) m i:=Heap.IsList.push k _;wp_walk using aa6 b,wpAny_pyIter_list L2;exact⟨_,rfl,h⟩
  ·have b:Heap.IsList (Shared.heap ⟨a,g,d,e,f⟩) l xs:=j;have L2:Heap.IsTuple (Shared.heap ⟨a.push {cls:=.type "list_iterator",data:=.fields #[.ref l,.int 0 0]},g,d,e,f⟩) m i:=Heap.IsTuple.push k _;wp_walk using wpAny_pyIter_list b,aa6 L2;exact⟨_,rfl,h⟩
  ·have b:Heap.IsList (Shared.heap ⟨a,g,d,e,f⟩) l xs:=j;have L2:Heap.IsList (Shared.heap ⟨a.push {cls:=.type "list_iterator",data:=.fields #[.ref l,.int 0 0]},g,d,e,f⟩) m i:=Heap.IsList.push k _;wp_walk using wpAny_pyIter_list b,wpAny_pyIter_list L2;exact⟨_,rfl,h⟩
theorem qO(b:Bool)(a:Addr):(Im b a).isFreed=false:=by cases b<;>rfl
theorem yZ{b:Bool}{h:Heap}{j a:Addr}(e:h.get? j=some (Im b a)):oo b h j a 0:=by
 cases b
 ·exact⟨_,e,rfl,rfl⟩
 ·calc⟨_,e,rfl,rfl⟩
theorem E5{prog:Program}{w:World}{A:Around}{E:Value->Shared->Prop}{s:Shared}{b c:Bool}{l m:Addr}{xs f:Array Value}{Q:Value->Shared->Prop}(h:yY b s.heap l xs)(i:yY c s.heap m f)
  (q:∀g,IsZip g (s.heap.objs.size + 4) (s.heap.objs.size + 2) (s.heap.objs.size + 3) .none->IsPair g (s.heap.objs.size + 2) (.ref s.heap.objs.size) (.ref (s.heap.objs.size + 1))->
   IsPair g (s.heap.objs.size+3) .none .none->oo b g s.heap.objs.size l 0->oo c g (s.heap.objs.size+1) m 0->g.objs.size=s.heap.objs.size+5->
   (∀d o,s.heap.get? d=some o->g.get? d=some o)->Q (.ref (s.heap.objs.size + 4)) {s with heap:=g}):
  wpAny (model prog w) A (call (.type "zip") [.ref l,.ref m]) Q E s:=by
 calc callType_new F.called_zip ∅ (F.typeCall_zip_2 _ _) (F.newCall_zip_2 _ _) (λa=>F.args_object_init_3 a _ _) F.entry_zip_new (Cp b c l m xs f) ⟨h,i,?_⟩;have e:(Wf s.heap b l).objs.size=s.heap.objs.size+1:=aaG ..;have a:(Wg s.heap b c l m).objs.size=s.heap.objs.size+2:=by rw[aaG,e]
 have f:(Wh s.heap b c l m).objs.size=s.heap.objs.size+3:=by rw[aaG,a]
 have g:(Wi s.heap b c l m).objs.size=s.heap.objs.size+4:=by rw[aaG,f]
 have n:(NS s.heap b c l m).objs.size=s.heap.objs.size+5:=by rw[aaG,g]
 have h:(NS s.heap b c l m).get? (Wi s.heap b c l m).objs.size=some _:=aah _ rfl;have i:(NS s.heap b c l m).get? (Wh s.heap b c l m).objs.size=some _:=K' _ (aah _ rfl);have j:(NS s.heap b c l m).get? (Wg s.heap b c l m).objs.size=some _:=K' _ (K' _ (aah _ rfl));have k:(NS s.heap b c l m).get? (Wf s.heap b l).objs.size=some (Im c m):=K' _ (K' _ (K' _ (aah _ (qO ..))));have p:(NS s.heap b c l m).get? s.heap.objs.size=some (Im b l):=K' _ (K' _ (K' _ (K' _ (aah _ (qO ..)))));show _/\_;rw[a,f,g]at h;rw[e,a]at j;rw[f]at i;rw[e]at k;rw[g];calc⟨⟨_,h,rfl⟩,q _ h j i (yZ p) (yZ k) n λd o x=>K' _ (K' _ (K' _ (K' _ (K' _ x))))⟩
theorem qP(l:Addr)(e:Array Value):
  Meets (Builtin.«enumerate.__new__» ⟨[.type "enumerate",.ref l],[]⟩) (λ_ R s=>s.heap.IsTuple l e/\
   R (.ok (.ret (.ref (s.heap.push (Im false l)).objs.size))) {s with heap:=(s.heap.push (Im false l)).push {cls:=.type "enumerate",data:=.fields #[.none,.bool false,.ref s.heap.objs.size,rawInt 0,.none,.none]}}):=
 .of_wp λf w A R s h=>by
  obtain⟨i,g,d,k,m⟩:=s;obtain⟨j,h⟩:=h;have p:=sub_enumerate;have b:Heap.IsTuple (Shared.heap ⟨i,g,d,k,m⟩) l e:=j;obtain⟨n,a,q,r,o⟩:=id j
  replace a:i.get? l=some n:=a
  wp_walk using AutoSeq1.wpAny_loadPart' a;calc wpAny_stack_any λt=>S' ?_;split
  ·rename_i c _ _ _ _ _
   cases(c==Value.type "enumerate")
   ·wp_walk using AutoSeq1.wpAny_loadPart' a,aa6 b;exact⟨_,rfl,h⟩
   ·wp_walk using AutoSeq1.wpAny_loadPart' a,aa6 b;exact⟨_,rfl,h⟩
  ·wp_walk using AutoSeq1.wpAny_loadPart' a,aa6 b;calc⟨_,rfl,h⟩
end PySem
namespace L2
open PySem PySem.Spec PyProof.Rows
section
variable {a:Addr}{xs:List V}
section
variable {X:Cx}{pins:List (Addr×Obj)}{σ:St}{H:Hp}{s:Shared}
theorem Inv.Ax{t':Nat}{ch:List Addr}{h':Heap}(I:Inv X pins σ H s)(d:∀b∈ch,nY X pins H b)(k:∀b o,b∉ch->s.heap.get? b=some o->h'.get? b=some o):Inv X pins σ H {s with heap:=h',toks:=t'}:=by
 have f:∀b u,H b=some u->b∉ch:=λb u e z=>by rw[(d b z).1]at e;cases e
 refine I.step (g':=s.gens) (d':=s.drawn) (ch:=ch) (λb g=>?_) (λb o _ _ a e _=>k b o a e) (λb o _ _ a e _=>⟨o.slots,k b o a e⟩) (λ_ _ _ _ n=>n) (λb o a e=>⟨o,k b o a e⟩) (λ_ _ e=>e) (λ_ _ _ e=>e) (λb h e=>⟨#[],by rw[e];simp⟩) (λm h=>?_) (λb u e=>?_) I.bare
 ·obtain⟨n,i,p,j,l,m⟩:=d b g;exact⟨j,i,l,m⟩
 ·obtain⟨o,g,i,j,r⟩:=h;exact⟨o,g,i,k _ o (λz=>(d _ z).2.1 rfl) j,r⟩
 ·calc(I.aU b u e).aA (λc v a q=>k c v ?_ q) (λ_ q=>q) λ_ _ q=>q;rcases a with z | z
  ·rw[z];exact f b u e
  ·calc f c _ z
theorem Inv.Ay{t':Nat}{ch:List Addr}{h':Heap}{T:Addr}{g:List Value}(I:Inv X pins σ H s)(h:∀b∈ch,nY X pins H b)(k:∀b o,b∉ch->s.heap.get? b=some o->h'.get? b=some o)
  (i:s.heap.objs.size<=T) (l:Vals xs g) (p:xs.length<=sizeLine) (q:IsTup h' T g.toArray):Inv X pins σ (upd H T (.tup xs)) {s with heap:=h',toks:=t'}:=by
 have j:∀b u,H b=some u->b∉ch:=λb u e z=>by rw[(h b z).1]at e;cases e
 have d:H T=none:=I.aU.fresh i;have m:∀b o,s.heap.get? b=some o->b≠T:=λb o e=>aay (U' (V' e) i);refine I.step (g':=s.gens) (d':=s.drawn) (ch:=ch) (λb f=>?_) (λb o _ _ a e _=>k b o a e) (λb o _ _ a e _=>⟨o.slots,k b o a e⟩) (λb o _ e n=>by rw[ax (m b o e)];calc n) (λb o a e=>⟨o,k b o a e⟩)
  (λb t e=>by rw[ax (au e d)];calc e) (λb o u e=>by rw[ax (au e d)];calc e) (λb i e=>⟨#[],by rw[ax (au e d),e];simp⟩) (λm i=>?_) (λb u e=>?_) I.bare
 ·obtain⟨w,m,x,n,r,v⟩:=h b f;exact⟨n,m,r,v⟩
 ·obtain⟨o,m,n,v,r⟩:=i;exact⟨o,m,n,k _ o (λz=>(h _ z).2.1 rfl) v,r⟩
 ·by_cases f:b=T
  ·subst f;rw[ab] at e
   cases e;exact⟨p,g,l,q⟩
  ·rw[ax f] at e;refine(I.aU b u e).aA (λc v a q=>k c v ?_ q) (λc q=>by rw[ax (au q d)];calc q) λc t q=>by rw[ax (au q d)];exact q
   rcases a with z|z
   ·rw[z];exact j b u e
   ·calc j c _ z
def Sq(b:Bool)(K:W.Frag)(H:Hp)(a:Addr)(xs:List V):Prop:=if b=true then aO K H a xs else bq K H a xs
theorem Sq.l{K:W.Frag}(h:H a=some (.lst xs)):Sq true K H a xs:=aO.of h
theorem Sq.t{K:W.Frag}(h:H a=some (.tup xs)):Sq false K H a xs:=bq.of h
theorem Inv.sq(I:Inv X pins σ H s){b:Bool}{a:Addr}{xs:List V}(h:Sq b X.K H a xs):∃c:List Value,Vals xs c/\yY b s.heap a c.toArray/\xs.length<=sizeLine:=by
 cases b
 ·exact I.tuple h
 ·obtain⟨c,r,p,z⟩:=I.list h;calc⟨c,r,p.isList,z⟩
theorem Inv.y0(I:Inv X pins σ H s){b:Bool}{a:Addr}{xs c:List V}(h:Sq b X.K H a xs)(h':Sq b X.K H a c):xs=c:=by
 cases b
 ·exact I.tD h h'
 ·calc I.wg h h'
theorem Lp{u:HO}{b:Addr}(h:Rd H a u)(c:H b=none):a≠b:=λz=>by
 subst z;rcases h with h|⟨o,h⟩<;>(rw[c]at h;cases h)
theorem Inv.qQ(I:Inv X pins σ H s){b:Bool}{a c:Addr}{xs:List V}(h:Sq b X.K H a xs)(f:nY X pins H c):a≠c:=by
 have d:∀o,X.K.lookup a=some o->a≠c:=λo e z=>by
  subst z;have i:=I.ok.mod.Qg a o e;rcases f.2.2.2.1 with y|y
  ·exact I.ok.yy a o i y
  ·exact absurd (U' (U' (V' i) I.ok.DJ) y) (aa9 _)
 cases b
 ·rcases h with h | ⟨o,j,n,g,_⟩
  ·exact Lp h f.1
  ·exact d o g
 ·rcases h with h | ⟨o,j,n,g,_⟩
  ·exact Lp h f.1
  ·calc d o g
end
end
section
def NV(b:Bool)(K:W.Frag)(a:Addr):It:=
 ⟨λi H=>∃xs x,Sq b K H a xs/\xs[i]?=some x,λi H y c=>∃T,H T=none/\y=.ref T/\∀xs,Sq b K H a xs->∃x,xs[i]?=some x/\c=upd H T (.tup [.int i,x]),λi H=>∃xs,Sq b K H a xs/\xs.length=i⟩
def Wj(b c:Bool)(K:W.Frag)(a d:Addr):It:=
  ⟨λi H=>∃xs e x y,Sq b K H a xs/\Sq c K H d e/\xs[i]?=some x/\e[i]?=some y,λi H v f=>∃T,H T=none/\v=.ref T/\∀xs e,Sq b K H a xs->Sq c K H d e->∃x y,xs[i]?=some x/\e[i]?=some y/\f=upd H T (.tup [x,y]),
   λi H=>∃xs e,Sq b K H a xs/\Sq c K H d e/\(i=xs.length\/(i < xs.length/\i=e.length))⟩
theorem wK{a b:V}:([a,b]:List V).length<=sizeLine:=by show 2<=sizeLine;decide
theorem ve{a:List Value}{i:Nat}{u:Value}(h:a[i]?=some u):i<a.toArray.size:=by
 have:=(List.getElem?_eq_some_iff.mp h).1;simpa using this
theorem Cq{P:Program}{w:World}{K:W.Frag}{k:List Expr}{u:Nat}{v:Pos}(b:Bool)(e j a:Addr)(J:e≠j):
  Turn P w K (.Tuple k u v) (NV b K a) [e,j] e (λi h=>(∃d,IsEnum h e j i d)/\oo b h j a i) where
 mem:=by simp
 obj:=λi h l c t=>by
  obtain⟨⟨d,g⟩,m⟩:=l;simp only[List.mem_cons,List.not_mem_nil,or_false]at t;rcases t with rfl|rfl
  ·exact⟨_,g,λv z=>by
    have z':Data.fields _=Data.cell v:=z
    cases z'⟩
  ·exact m.obj
 keep:=λi h h' l k=>by
  obtain⟨⟨d,g⟩,m⟩:=l;exact⟨⟨d,k e nofun _ g⟩,m.at λo q=>k j nofun o q⟩
 item:=by
  intro X L M N t i B s σ H E I n l O;subst L M N;obtain⟨⟨d,g⟩,m⟩:=l;obtain⟨xs,x,r,R⟩:=O;obtain⟨C,S,p,hz⟩:=I.sq r;obtain⟨u,k,ru⟩:=S.get R;have v:a≠e:=I.qQ r (n e nofun);have T:a≠j:=I.qQ r (n j nofun);have D:=Draws.sq (prog:=X.prog) (w:=X.w) (A:=X.A.in1) (show X.A.in1.handled=none from I.ok.hd t) b j a T C.toArray;calc wpAny_pyNext_enum_itemD D g ⟨m,p⟩ (ve k) J (by simp[J,Ne.symm v]) λy P Z K ho s1 hT sz U=>?_;have ey:y=u:=by
   have:C.toArray[i]?=some u:=by simpa using k
   exact Option.some.inj (K.symm.trans this)
  subst ey;calc⟨_,rfl,wpAny_letOwnedTupleGo_enum ho λv k u=>?_⟩;have K:∀c o,c ∉ [e,j]->s.heap.get? c=some o->v.get? c=some o:=λc o F q=>(u.2 c λz=>F (by simp[z])).trans (U c o (λz=>F (by simp[z])) (λz=>F (by simp[z])) q);have G:s.heap.objs.size≠e:=abp (V' g);have e:IsTup v s.heap.objs.size ([.int i Z,y]:List Value).toArray:=⟨_,(u.2 _ G).trans hT,rfl,_,rfl⟩
  have v:H s.heap.objs.size=none:=I.aU.fresh (J' _);refine⟨.ref s.heap.objs.size,upd H s.heap.objs.size (.tup [.int i,x]),I.Ay n K (J' _) (.cons ⟨Z,rfl⟩ (.cons ru .nil)) wK e,rfl,⟨_,v,rfl,λys P=>⟨x,by rw[I.y0 P r];calc R,rfl⟩⟩,⟨⟨y,?_⟩,?_⟩,λc Y=>?_⟩
  ·simpa using k
  ·exact s1.1.at λo q=>(u.2 j (Ne.symm J)).trans q
  ·have sC:c≠s.heap.objs.size:=by
    simp only[List.mem_cons,List.not_mem_nil,or_false]at Y;rcases Y with rfl|rfl
    ·exact Ne.symm G
    ·obtain⟨o,e,_⟩:=m.obj;exact aay (V' e)
   rw[ax sC];exact(n c Y).1
 done:=by
  intro X L M N t i B s σ H E I n l O;subst L M N;obtain⟨⟨d,g⟩,m⟩:=l;obtain⟨xs,r,R⟩:=O;obtain⟨C,S,p,hz⟩:=I.sq r;have T:a≠j:=I.qQ r (n j nofun);have D:=Draws.sq (prog:=X.prog) (w:=X.w) (A:=X.A.in1) (show X.A.in1.handled=none from I.ok.hd t) b j a T C.toArray;have e:C.toArray.size=i:=by have:=S.length;simp;lia
  refine wpAny_pyNext_enum_endD D g (by rw[e];calc⟨m,p⟩) λh' U=>⟨rfl,I.Ax (t':=s.toks) n λc o F q=>U c o (λz=>F (by simp[z])) q⟩
 self:=λ_ _ _ _ _ l h=>by
  obtain⟨⟨d,g⟩,m⟩:=l;calc wpAny_pyIter_enum g h
theorem Cr{prog:Program}{w:World}{A:Around}{E:Value->Shared->Prop}{s:Shared}{b:Bool}{l:Addr}{d:Array Value}{Q:Value->Shared->Prop}(e:yY b s.heap l d)
  (q:∀g,IsEnum g (s.heap.objs.size+1) s.heap.objs.size 0 .none->oo b g s.heap.objs.size l 0->g.objs.size=s.heap.objs.size+2->(∀c o,s.heap.get? c=some o->g.get? c=some o)->Q (.ref (s.heap.objs.size+1)) {s with heap:=g}):
  wpAny (model prog w) A (call (.type "enumerate") [.ref l]) Q E s:=by
 cases b
 ·refine callType_new F.called_enumerate ∅ (F.typeCall_enumerate_1 _) (F.newCall_enumerate_1 _) (λa=>F.args_object_init_2 a _) F.entry_enumerate_new (qP l d) ⟨e,?_⟩;have b:(s.heap.push (Im false l)).objs.size=s.heap.objs.size+1:=aaG ..;show _/\_;rw[b];have a:=aah (s.heap.push (Im false l)) (o:={cls:=.type "enumerate",data:=.fields #[.none,.bool false,.ref s.heap.objs.size,rawInt 0,.none,.none]}) rfl;rw[b]at a;refine⟨⟨_,a,rfl⟩,q _ a (yZ (K' _ (aah _ (qO ..)))) (by rw[aaG,b]) λc o x=>K' _ (K' _ x)⟩
 ·calc call_enumerate_list e q
theorem m5{z a b c d:Addr}:z ∈ [z,a,b,c,d]/\a ∈ [z,a,b,c,d]/\b ∈ [z,a,b,c,d]/\c ∈ [z,a,b,c,d]/\d ∈ [z,a,b,c,d]:=⟨.head _,.tail _ (.head _),.tail _ (.tail _ (.head _)),.tail _ (.tail _ (.tail _ (.head _))),.tail _ (.tail _ (.tail _ (.tail _ (.head _))))⟩
theorem in5{z a b c d e:Addr}{P:Addr->Prop}(f:e ∈ [z,a,b,c,d])(g:P z)(h:P a)(i:P b)(j:P c)(k:P d):P e:=by
 simp only[List.mem_cons,List.not_mem_nil,or_false]at f;rcases f with rfl|rfl|rfl|rfl|rfl<;>assumption
theorem no5{z a b c d e:Addr}(f:e ∉ [z,a,b,c,d]):e≠z/\e≠a/\e≠b/\e≠c/\e≠d:=by
 simpa only[List.mem_cons,List.not_mem_nil,or_false,not_or] using f
theorem nd5{z a b c d:Addr}(N:[z,a,b,c,d].Nodup):(z≠a/\z≠b/\z≠c/\z≠d)/\(a≠b/\a≠c/\a≠d)/\(b≠c/\b≠d)/\c≠d:=by
 simpa only[List.nodup_cons,List.mem_cons,List.not_mem_nil,or_false,not_or,List.nodup_nil,not_false_eq_true,and_true] using N
theorem Dx{x i a:Addr}(b:x≠i)(c:x≠a):x ∉ [i,a]:=by simp[b,c]
theorem E8{l:List Value}{i:Nat}{u x:Value}(h:l[i]?=some u)(g:l.toArray[i]?=some x):x=u:=by
 have:l.toArray[i]?=some u:=by simpa using h
 calc Option.some.inj (g.symm.trans this)
theorem E9{P:Program}{w:World}{K:W.Frag}{es:List Expr}{kt:Nat}{tp:Pos}(b c:Bool)(z r m g j a d:Addr)(N:[z,r,m,g,j].Nodup):
  Turn P w K (.Tuple es kt tp) (Wj b c K a d) [z,r,m,g,j] z (λi h=>IsZip h z r m .none/\IsPair h r (.ref g) (.ref j)/\(∃u v,IsPair h m u v)/\oo b h g a i/\oo c h j d i) where
 mem:=m5.1
 obj:=λi h t e l=>by
  obtain⟨G,B,⟨u,v,J⟩,L,M⟩:=t;refine in5 (P:=λe=>∃o,h.get? e=some o/\∀v,o.data≠.cell v) l ⟨_,G,λv z=>?_⟩ ⟨_,B,λv z=>?_⟩ ⟨_,J,λv z=>?_⟩ L.obj M.obj
  ·have k:Data.fields _=Data.cell v:=z
   cases k
  ·have k:Data.seq _ _=Data.cell v:=z
   cases k
  ·have k:Data.seq _ _=Data.cell v:=z
   cases k
 keep:=λi h h' t k=>by
  obtain⟨G,B,⟨u,v,J⟩,L,M⟩:=t;exact⟨k z m5.1 _ G,k r m5.2.1 _ B,⟨u,v,k m m5.2.2.1 _ J⟩,L.at λo q=>k g m5.2.2.2.1 o q,M.at λo q=>k j m5.2.2.2.2 o q⟩
 item:=by
  intro X hP hw hK hc i Y s σ H E I O t hg;subst hP hw hK;obtain⟨G,B,⟨u0,v0,J⟩,L,M⟩:=t;obtain⟨xs,ys,x,y,S,hr,hx,hy⟩:=hg;obtain⟨aM,rv,p,hz⟩:=I.sq S;obtain⟨Wl,rt,pt,hzt⟩:=I.sq hr;obtain⟨u,k,ru⟩:=rv.get hx;obtain⟨v,n,rv'⟩:=rt.get hy;have C:∀e ∈ [z,r,m,g,j],e≠a:=λe l=>Ne.symm (I.qQ S (O e l));have F:∀e ∈ [z,r,m,g,j],e≠d:=λe l=>Ne.symm (I.qQ hr (O e l));obtain⟨⟨n1,n2,T,U⟩,⟨n5,n6,n7⟩,⟨n8,n9⟩,R⟩:=nd5 N;have hh:X.A.in1.handled=none:=I.ok.hd hc;have D1:=Draws.sq (prog:=X.prog) (w:=X.w) (A:=X.A.in1) hh b g a (Ne.symm (C g m5.2.2.2.1)) aM.toArray;have D2:=Draws.sq (prog:=X.prog) (w:=X.w) (A:=X.A.in1) hh c j d (Ne.symm (F j m5.2.2.2.2)) Wl.toArray;have Z:ZA z r m g j [g,a] [j,d]:=⟨Ne.symm n1,Ne.symm n2,Ne.symm T,Ne.symm U,n5,n6,n7,n8,n9,R,Dx T (C z m5.1),Dx n8 (C m m5.2.2.1),Dx (Ne.symm R) (C j m5.2.2.2.2),Dx U (F z m5.1),Dx n9 (F m m5.2.2.1),Dx R (F g m5.2.2.2.1)⟩
  calc sD Z D1 D2 G B J ⟨L,p⟩ ⟨M,pt⟩ (ve k) (ve n) λx' y' h1 tk K py Co X6 s1 s2 hT sz kk=>?_;have ex:x'=u:=E8 k K;have ey:y'=v:=E8 n py;subst ex ey;calc⟨_,rfl,wpAny_letOwnedTupleGo_zip Co λu v k=>?_⟩;have K:∀e o,e ∉ [z,r,m,g,j]->s.heap.get? e=some o->u.get? e=some o:=λe o l q=>
   have n:=no5 l;(k.2 e n.1).trans (kk e o n.1 n.2.2.1 n.2.2.2.1 n.2.2.2.2 q)
  have n:s.heap.objs.size≠z:=abp (V' G);have Io:IsTup u s.heap.objs.size ([x',y']:List Value).toArray:=⟨_,(k.2 _ n).trans hT,rfl,_,rfl⟩
  have u:H s.heap.objs.size=none:=I.aU.fresh (J' _);refine⟨.ref s.heap.objs.size,upd H s.heap.objs.size (.tup [x,y]),I.Ay O K (J' _) (.cons ru (.cons rv' .nil)) wK Io,rfl,
   ⟨_,u,rfl,λK Lq NY RX=>⟨x,y,by rw[I.y0 NY S];calc hx,by rw[I.y0 RX hr];calc hy,rfl⟩⟩,⟨v,?_,⟨_,_,(k.2 m (Ne.symm n2)).trans X6⟩,s1.1.at λo q=>(k.2 g (Ne.symm T)).trans q,s2.1.at λo q=>(k.2 j (Ne.symm U)).trans q⟩,λe l=>?_⟩
  ·exact(k.2 r (Ne.symm n1)).trans (kk r _ (Ne.symm n1) n5 n6 n7 B)
  ·have u:e≠s.heap.objs.size:=in5 (P:=λe=>e≠s.heap.objs.size) l (Ne.symm n) (aay (V' B)) (aay (V' J)) (let ⟨_,k,_⟩:=L.obj;aay (V' k)) (let ⟨_,k,_⟩:=M.obj;aay (V' k));rw[ax u];exact(O e l).1
 done:=by
  intro X hP hw hK hc i Y s σ H E I O t hg;subst hP hw hK;obtain⟨G,B,⟨u0,v0,J⟩,L,M⟩:=t;obtain⟨xs,ys,S,hr,hx⟩:=hg;obtain⟨aM,rv,p,hz⟩:=I.sq S;obtain⟨Wl,rt,pt,hzt⟩:=I.sq hr;have C:∀e ∈ [z,r,m,g,j],e≠a:=λe l=>Ne.symm (I.qQ S (O e l));have F:∀e ∈ [z,r,m,g,j],e≠d:=λe l=>Ne.symm (I.qQ hr (O e l));obtain⟨⟨n1,n2,T,U⟩,⟨n5,n6,n7⟩,⟨n8,n9⟩,R⟩:=nd5 N;have hh:X.A.in1.handled=none:=I.ok.hd hc;have D1:=Draws.sq (prog:=X.prog) (w:=X.w) (A:=X.A.in1) hh b g a (Ne.symm (C g m5.2.2.2.1)) aM.toArray;have D2:=Draws.sq (prog:=X.prog) (w:=X.w) (A:=X.A.in1) hh c j d (Ne.symm (F j m5.2.2.2.2)) Wl.toArray;have Z:ZA z r m g j [g,a] [j,d]:=⟨Ne.symm n1,Ne.symm n2,Ne.symm T,Ne.symm U,n5,n6,n7,n8,n9,R,Dx T (C z m5.1),Dx n8 (C m m5.2.2.1),Dx (Ne.symm R) (C j m5.2.2.2.2),Dx U (F z m5.1),Dx n9 (F m m5.2.2.1),Dx R (F g m5.2.2.2.1)⟩
  have a:=rv.length;have a:=rt.length;exact vd Z D1 D2 G B J ⟨L,p⟩ ⟨M,pt⟩ (by simp only[List.size_toArray];lia) λh' tk kk=>⟨rfl,I.Ax O λe o l q=>kk e o (λw=>l (by simp[w])) (λw=>l (by simp[w])) (λw=>l (by simp[w])) (λw=>l (by simp[w])) q⟩
 self:=λ_ _ _ _ _ t h=>wpAny_pyIter_zip t.1 h
section
variable {X:Cx}
def Fb(K:W.Frag)(a:TA):TI:=λσ H R=>a σ H λvs c=>match vs with
 | [.ref a]=>∃b xs,Sq b K c a xs/\R (NV b K a) c
 |_=>False
def NZ(K:W.Frag)(a:TA):TI:=λσ H R=>a σ H λvs e=>match vs with
 | [.ref a,.ref d]=>∃b c xs f,Sq b K e a xs/\Sq c K e d f/\R (Wj b c K a d) e
 |_=>False
theorem jC{l:List Expr}{m:Nat}{n:Pos}{a:Expr}{h:TA}{p d:Pos}(o:Gl X "enumerate")(t:X.mg "enumerate"=none)(u:PA X [a] h)(v:starEach [a] X.env=[(false,eval a X.env)]:=by rfl):
  PI X (.Tuple l m n) (.Call (.Name "enumerate" p) [a] [] d) (Fb X.K h):=by
 calc⟨?_⟩;intro c s σ H R I h;calc Call_ (nX I o t boot_enumerate (PyProof.Rows.callWith_type1 (c9 (u d c s σ H _ I h) λm e l=>?_) (by rw[v];rfl) rfl));obtain⟨h,i,f,g,d⟩:=l
 match h,g,d with
 | [.ref a],g,d=>
  obtain⟨b,h,w,q⟩:=d
  cases g with
  |cons r x=>
   cases x
   cases r;obtain⟨d,g,p,h⟩:=f.sq w;calc Cr p λg d h m l=>wpAny_pyIter_enum d ?_;have m:Inv X c σ i {e with heap:=g}:=f.kept (t':=e.toks) l;calc⟨_,[e.heap.objs.size+1,e.heap.objs.size],_,_,i,rfl,m,Cq b _ _ a (Nat.succ_ne_self _),⟨⟨_,d⟩,h⟩,λc j=>?_,q⟩;have k:e.heap.objs.size<=c:=by
    simp only[List.mem_cons,List.not_mem_nil,or_false]at j;rcases j with rfl|rfl
    ·exact Nat.le_succ _
    ·exact J' _
   calc f.DW k (f.aU.fresh k)
theorem Fc{s:List Expr}{t:Nat}{u:Pos}{a b:Expr}{h:TA}{p g:Pos}(v:Gl X "zip")(w:X.mg "zip"=none)(x:PA X [a,b] h)(y:starEach [a,b] X.env=[(false,eval a X.env),(false,eval b X.env)]:=by rfl)(l:starEach [b] X.env=[(false,eval b X.env)]:=by rfl):
  PI X (.Tuple s t u) (.Call (.Name "zip" p) [a,b] [] g) (NZ X.K h):=by
 calc⟨?_⟩;intro e s σ H R I h;calc Call_ (nX I v w boot_zip (PyProof.Rows.callWith_type1 (c9 (x g e s σ H _ I h) λt f p=>?_) (by rw[y,l]) (by rw[l];rfl)));obtain⟨h,m,i,j,g⟩:=p
 match h,j,g with
 | [.ref a,.ref d],j,g=>
  obtain⟨b,c,h,l,z,A,q⟩:=g
  cases j with
  |cons r k=>
   cases k with
   |cons B k=>
    cases k
    cases r
    cases B;obtain⟨g,h,j,k⟩:=i.sq z;obtain⟨h,l,k,g⟩:=i.sq A;calc E5 j k λg h l p r s u t=>wpAny_pyIter_zip h ?_;have j:Inv X e σ m {f with heap:=g}:=i.kept (t':=f.toks) t;refine⟨_,[f.heap.objs.size+4,f.heap.objs.size+2,f.heap.objs.size+3,f.heap.objs.size,f.heap.objs.size+1],_,_,m,rfl,j,E9 b c _ _ _ _ _ a d ?_,⟨h,l,⟨_,_,p⟩,r,s⟩,λe n=>?_,q⟩
    ·simp
    ·have o:f.heap.objs.size<=e:=by
      simp only[List.mem_cons,List.not_mem_nil,or_false]at n;rcases n with rfl|rfl|rfl|rfl|rfl
      ·exact Nat.le_add_right _ _
      ·exact Nat.le_add_right _ _
      ·exact Nat.le_add_right _ _
      ·exact J' _
      ·exact Nat.le_add_right _ _
     calc i.DW o (i.aU.fresh o)
end
end
end L2
namespace HT
open PySem PyProof.Rows
section
variable {prog:Program}{w:World}{A:Around}{E:Value->Shared->Prop}{s:Shared}
theorem m7{t e:Addr}{a:Array Value}{f g:Value}{b d:Option Int}{Q:Value->Shared->Prop}(c:IsTup s.heap t a)(i:s.heap.IsSliceOf e f g .none)(pl:IsPart f b)(j:IsPart g d)
  (f:dY a.size 0 b=0/\dY a.size a.size d=a.size) (h:Q (.ref t) s):wpAny (model prog w) A (getItem (.ref t) (.ref e)) Q E s:=by
 obtain⟨g,k,l,n⟩:=id i;have n:s.TypeIs (.ref e) "slice":=⟨g,k,l⟩
 unfold getItem
 try with_reducible refine wpAny_holding ?_
 first|calc E' (S' ?_)|skip
 refine E' (wpAny_sequenceKey c.typeIs ∅ (E' (abi (name:=Str.ofString "__getitem__") c.typeIs abo
  (wpAny_call_entry abo c.typeIs entry_tuple_getitem ?_ (args_tuple_getitem _ _)))))
 calc E' (m:=Builtin.Tuple.tupleItemsOf (.ref t)) (tupleItemsOf_ c (E' (wpAny_typeOf n ?_)));rw[if_pos ∅];calc E' (jc i pl j ?_);have e:(((dY a.size 0 b:Nat):Int)==0&&(1:Int)==1&&(dY a.size a.size d-dY a.size 0 b)==a.size)=true:=by
  rw[f.1,f.2];simp
 show wpAny _ _ (if (((dY a.size 0 b:Nat):Int)==0&&(1:Int)==1&&(dY a.size a.size d-dY a.size 0 b)==a.size)=true then _ else _) _ _ s;rw[if_pos e];calc E' (m:=Builtin.Tuple.tupleIsExact (.ref t)) ?_;unfold Builtin.Tuple.tupleIsExact;calc E' (wpAny_typeOf c.typeIs (S' ?_));rw[if_pos ∅];calc E' (wpAny_rule (S' ⟨_,rfl,S' h⟩))
end
end HT
namespace L2
open PySem PySem.Spec PyProof.Rows
section
variable {H:Hp}{Q:VK}{K:W.Frag}
section
variable {X:Cx}
def X8:V->Option Int->Option Int->Hp->VK->Prop:=λx c d H Q=>match x with
 | .ref a=>(∃xs,H a=some (.lst xs)/\∀p,H p=none->Q (.ref p) (upd H p (.lst (dq xs c d))))\/(∃xs,H a=some (.tup xs)/\∀p b,aq H b->b p=some (.tup (dq xs c d))->Q (.ref p) b)
 |_=>False
theorem Lr{a:Addr}{b c:Option Int}:X8 (.ref a) b c H Q=((∃xs,H a=some (.lst xs)/\∀p,H p=none->Q (.ref p) (upd H p (.lst (dq xs b c))))\/(∃xs,H a=some (.tup xs)/\∀p d,aq H d->d p=some (.tup (dq xs b c))->Q (.ref p) d)):=rfl
theorem X9:RN X X8:=by
 intro c s σ H x v t u i j w Q I l m n o h
 cases x<;>first
  |calc(show False from h).elim
  |skip
 rename_i a;rcases h with⟨b,d,q⟩|⟨b,d,q⟩
 ·exact Am c s σ H _ v t u i j w Q I l m n o ⟨a,b,rfl,aO.of d,q⟩
 ·by_cases k:HT.dY b.length 0 i=0/\HT.dY b.length b.length j=b.length
  ·cases l;obtain⟨z,r,y,C⟩:=I.tuple (bq.of d);have g:z.toArray.size=b.length:=by rw[aad];exact r.length.symm
   refine⟨"tuple",_,PyProof.Rows.slot_tuple_getitem.lookup,y.typeIs,HT.m7 y m n o (by rw[g];exact k) ⟨.ref a,H,I,rfl,q a H (aq.refl H) ?_⟩⟩;have e:dq b i j=b:=by
    unfold dq;rw[k.1,k.2];simp
   rw[e];exact d
  ·calc Np c s σ H _ v t u i j w Q I l m n o ⟨a,b,rfl,bq.of d,k,λp B=>q p _ (aq.new _ B) ab⟩
theorem lY{e:Expr}{b:TE}{c d:Option Expr}{f g:TO}{a h:Pos}(i:PE X e b)(j:PO X c f)(k:PO X d g):PE X (.Subscript e (.Slice c d none h) a) (RO X8 b f g):=wt X9 i j k
def Wm:R2:=λx y H Q=>match x,y with
 | .int i,.int j=>Q (.int (i+j)) H
 | .str i,.str j=>i.length+j.length<=sizeLine/\Q (.str (i++j)) H
 | .ref a,.ref b=>(∃xs c,H a=some (.lst xs)/\H b=some (.lst c)/\xs.length + c.length<=sizeLine/\∀p,H p=none->Q (.ref p) (upd H p (.lst (xs++c))))\/
   (∃xs c,H a=some (.tup xs)/\H b=some (.tup c)/\xs.length+c.length<=sizeLine/\∀p d,aq H d->d p=some (.tup (xs++c))->Q (.ref p) d)
 |_,_=>False
theorem Fd{i j:Int}:Wm (.int i) (.int j) H Q=Q (.int (i+j)) H:=rfl
theorem Fe{i j:Str}:Wm (.str i) (.str j) H Q=(i.length+j.length<=sizeLine/\Q (.str (i++j)) H):=rfl
theorem Ff {a b:Addr}:Wm (.ref a) (.ref b) H Q=((∃xs c,H a=some (.lst xs)/\H b=some (.lst c)/\xs.length + c.length<=sizeLine/\∀p,H p=none->Q (.ref p) (upd H p (.lst (xs++c))))\/
      (∃xs c,H a=some (.tup xs)/\H b=some (.tup c)/\xs.length + c.length<=sizeLine/\∀p d,aq H d->d p=some (.tup (xs++c))->Q (.ref p) d)):=rfl
theorem cS:fE X (binaryOp .Add) Wm:=by
 intro c s σ H x y v u Q I d e h
 cases x<;>cases y<;>first
  |calc(show False from h).elim
  |calc M8 c s σ H _ _ v u Q I d e ⟨_,_,rfl,rfl,h⟩
  |calc yF c s σ H _ _ v u Q I d e ⟨_,_,rfl,rfl,h.1,h.2⟩
  |skip
 rename_i a b;rcases h with⟨k,l,f,g,m,i⟩|⟨k,l,f,g,m,i⟩
 ·exact Nz c s σ H _ _ v u Q I d e ⟨_,_,k,l,rfl,rfl,f,g,m,i⟩
 ·by_cases q:k=[]
  ·subst q
   cases d
   cases e;obtain⟨R,D,E,_⟩:=I.tuple (bq.of f);obtain⟨S,T,G,_⟩:=I.tuple (bq.of g)
   cases D;obtain⟨⟨J,K,r,L⟩,t,w,n,A⟩:=id E;obtain⟨⟨U,M,o,N⟩,B,C,O,j⟩:=id G;simp only at w A C j;subst w A C j;exact concat_meets ⟨_,t,rfl⟩ ⟨_,B,rfl⟩ noFill_tuple_add seq_tuple_add PySem.F.slot_tuple_add PySem.F.entry_tuple_add (PySem.F.args_tuple_add_2 _ _)
    (tuple_addW0 a b _ _ n O K M L N nofun) ⟨t,B,⟨.ref b,H,I,rfl,i b H (aq.refl H) (by simpa using g)⟩⟩
  ·calc Jp c s σ H _ _ v u Q I d e ⟨_,_,k,l,rfl,rfl,bq.of f,bq.of g,q,m,λz=>?_,λ_ p P=>i p _ (aq.new _ P) ab⟩;subst z;calc i a H (aq.refl H) (by simpa using f)
def Sh(K:W.Frag):List V->Hp->VK->Prop:=λxs H Q=>match xs with
 | [.ref p]=>∃bs:List Bool,aO K H p (bs.map V.bl)/\Q (.bl (bs.all id)) H
 |_=>False
theorem Fg{p:Addr}:Sh K [.ref p] H Q=∃bs:List Bool,aO K H p (bs.map V.bl)/\Q (.bl (bs.all id)) H:=rfl
theorem Az:∀{bs:List Bool}{us:List Value},Vals (bs.map V.bl) us->us=bs.map Value.bool
 | [],_,.nil=>rfl
 |b::bs,_,.cons r t=>by
  cases r;rw[Az t];rfl
theorem all_range:∀(bs:List Bool),((List.range bs.length).all λi=>bs.getD i false)=bs.all id:=by
 intro bs;induction bs with
 |nil=>rfl
 |cons b r a=>
  rw[aa5,List.range_succ_eq_map,List.all_cons,List.all_map,List.all_cons];have:((λi=>(b::r).getD i false) ∘ Nat.succ)=λi=>r.getD i false:=by funext i;simp
  rw[this,a];rfl
theorem Fh{prog:Program}{w:World}{A:Around}{bs:List Bool}:TruthOf prog w A (λi v=>(bs.map Value.bool).toArray[i]?=some v) (λi=>bs.getD i false):=by
 intro i v s Q E e c;have a:(bs.map Value.bool)[i]?=some v:=by simpa using e
 rw[A']at a
 cases d:bs[i]? with
 |none=>rw[d]at a;cases a
 |some b=>
  rw[d]at a
  cases a;have:bs.getD i false=b:=by rw[aas,d];rfl
  replace c:Q (bs.getD i false) s:=c
  rw[this]at c;calc abq c
theorem jh(d:X.calm=true):eZ X (.builtin "all") (Sh X.K):=by
 intro c s σ H f k Q I r h
 match f,r,h with
 | [.ref p],r,h=>
  obtain⟨a,g,q⟩:=h;obtain⟨u,rfl,i⟩:=Vals.one r
  cases i;obtain⟨c,j,b,f⟩:=I.list g;have e:=Az j;subst e;refine call_all_walk (wpAny_pyIter_list b.isList ⟨s.heap.objs.size,_,_,_,_,_,λi=>a.getD i false,rfl,Walks.list (show X.A.in1.handled=none from I.ok.hd d) _ p ?_ (a.map Value.bool).toArray,⟨⟨_,aah _ rfl,rfl,rfl⟩,b.isList.push _⟩,Fh,λf g c=>?_⟩)
  ·obtain⟨o,e,_⟩:=b.isList;exact aay (V' e)
  ·have:(a.map Value.bool).toArray.size=a.length:=by simp
   rw[this,all_range];calc⟨.bl _,H,I.kept λb o e=>c b o (by simp[Nat.ne_of_lt (Heap.lt_size e)]) (K' _ e),rfl,q⟩
def wL:List V->Option (List Value)
 | []=>some []
 | .ty n::r=>(wL r).map (.type n::·)
 |_=>none
theorem wM:∀{xs:List V}{us a:List Value},Vals xs us->wL xs=some a->us=a
  | [],_,_,.nil,h=>by cases h;rfl
  |x::xs,_,a,.cons r t,h=>by
    cases x<;>first
      |cases h
      | (rename_i n
         unfold wL at h;obtain⟨b,c,d⟩:=Option.map_eq_some_iff.mp h
         cases r;rw[<-d,wM t c])
def JJ(K:W.Frag):List V->Hp->VK->Prop:=λxs H Q=>match xs with
 | [x,.ty n]=>∃t b,gm K H x t/\W.kitOne K t (.type n)=some b/\Q (.bl b) H
 | [x,.ref p]=>∃t b a c,gm K H x t/\H p=some (.tup a)/\wL a=some c/\W.kitAny K t c=some b/\Q (.bl b) H
 |_=>False
theorem Fi{x:V}{n:String}:JJ K [x,.ty n] H Q=∃t b,gm K H x t/\W.kitOne K t (.type n)=some b/\Q (.bl b) H:=rfl
theorem Fj{x:V}{p:Addr}:JJ K [x,.ref p] H Q=∃t b a c,gm K H x t/\H p=some (.tup a)/\wL a=some c/\W.kitAny K t c=some b/\Q (.bl b) H:=rfl
theorem y6{x:V}{u t:Value}{pins:List (Addr×Obj)}{σ:St}{H:Hp}{s:Shared}{A:Around}{E:Value->Shared->Prop}{Q:Value->Shared->Prop}{b:Bool}{m:Addr}{r:List Value}(I:Inv X pins σ H s)(c:RelV x u)(C:gm X.K H x t)
  (D:IsTup s.heap m r.toArray) (e:W.kitAny X.K t r=some b) (h:∀x,Q (.bool b) {s with toks:=x}):wpAny (model X.prog X.w) A (call (.builtin "isinstance") [u,.ref m]) Q E s:=by
 obtain⟨⟨m,r,b,x⟩,d,v,n,hd⟩:=id D;simp only at v hd;subst v hd
 cases C with
 |bH=>cases(show u=Value.none from c);calc W.kia_tup W.kitx_none I.j1 aaP d e (λz=>nomatch z) h
 |bl y=>cases(show u=Value.bool y from c);calc W.kia_tup W.kitx_bool I.j1 aaP d e (λz=>nomatch z) h
 |int i=>obtain⟨t,q⟩:=(show ∃t,u=Value.int i t from c);cases q;calc W.kia_tup W.kitx_int I.j1 aaP d e (λz=>nomatch z) h
 |str y=>obtain⟨t,q⟩:=(show ∃t,u=Value.str y t from c);cases q;calc W.kia_tup W.kitx_str I.j1 aaP d e (λz=>nomatch z) h
 |K4 y=>obtain⟨t,q⟩:=(show ∃t,u=Value.float y t from c);cases q;calc W.kia_tup W.kitx_float I.j1 aaP d e (λz=>nomatch z) h
 | @lst a j f=>
  cases(show u=Value.ref a from c);obtain⟨_,_,n,_,g⟩:=(show cF X.prog X.w H s.heap a (.lst j) from I.aU a _ f)
  calc W.kia_tup W.kitx_list I.j1 ⟨_,g,rfl⟩ d e (λz=>nomatch z) h
 | @yj a F j f=>
  cases(show u=Value.ref a from c);obtain⟨_,_,_,n,_,g⟩:=(show cF X.prog X.w H s.heap a (.yj F (.lst j)) from I.aU a _ f)
  calc W.kia_tup W.kitx_list I.j1 ⟨_,g,rfl⟩ d e (λz=>nomatch z) h
 | @tup a j f=>
  cases(show u=Value.ref a from c);obtain⟨_,_,_,p⟩:=(show cF X.prog X.w H s.heap a (.tup j) from I.aU a _ f)
  obtain⟨o,g,k,_⟩:=p;calc W.kia_tup W.kitx_tuple I.j1 ⟨o,g,k⟩ d e (λz=>nomatch z) h
 | @dK a l f=>
  cases(show u=Value.ref a from c);obtain⟨_,_,b,_,p⟩:=(show cF X.prog X.w H s.heap a (.dK l) from I.aU a _ f)
  obtain⟨o,G,J,g,k,_⟩:=p;calc W.kia_tup W.kitx_dict I.j1 ⟨o,g,k.1⟩ d e (λz=>nomatch z) h
 | @dT a l f=>
  cases(show u=Value.ref a from c);obtain⟨_,_,j,_,o,G,J,g,k,_⟩:=(show cF X.prog X.w H s.heap a (.dT l) from I.aU a _ f)
  calc W.kia_tup W.kitx_dict I.j1 ⟨o,g,k.1⟩ d e (λz=>nomatch z) h
 | @ins a C b g f B L M N P=>
  cases(show u=Value.ref a from c);obtain⟨b,O,_⟩:=mT I.aU f;obtain⟨a,J,_⟩:=O.look;calc W.kia_tup (W.kitx_own (B.get _) B.hd L M N P) I.j1 J d e (λz=>nomatch z) h
theorem dw:eZ X (.builtin "isinstance") (JJ X.K):=by
 intro f s σ H g n Q I r h
 match g,r,h with
 | [x,.ty n],r,h=>
  obtain⟨t,b,ty,e,q⟩:=h;obtain⟨u,i,rfl,a,c⟩:=vals2 r
  cases c;calc tJ I a ty e λj=>⟨.bl b,H,I.tok _,rfl,q⟩
 | [x,.ref p],r,h=>
  obtain⟨t,b,f,g,ty,k,d,e,q⟩:=h;obtain⟨u,i,rfl,a,c⟩:=vals2 r
  cases c;obtain⟨f,l,m,g⟩:=I.tuple (bq.of k);have o:=wM l d;subst o;calc y6 I a ty m e λj=>⟨.bl b,H,I.tok _,rfl,q⟩
end
end
section
variable {a:Addr}{H:Hp}{D:List (Str×V)}
section
variable {X:Cx}
def Si:V->List V->Hp->VK->Prop:=λx vs H Q=>match x,vs with
 | .ref l,[y]=>∃xs,H l=some (.lst xs)/\xs.length<sizeLine/\Q .bH (upd H l (.lst (xs++[y])))
 |_,_=>False
theorem Fl{l:Addr}{y:V}{Q:VK}:Si (.ref l) [y] H Q=∃xs,H l=some (.lst xs)/\xs.length<sizeLine/\Q .bH (upd H l (.lst (xs++[y]))):=rfl
theorem b8:Qk X "list.append" Si:=by
 intro a s σ H x c v d Q I e b h
 match x,c,b,h with
 | .ref l,[y],b,⟨c,f,g,h⟩=>calc tP a s σ H _ _ v d Q I e b ⟨l,c,y,rfl,rfl,f,g,h⟩
def Sj:V->List V->Hp->VK->Prop:=λx vs H Q=>match x,vs with
 | .ref l,[.ref b]=>∃xs a,H l=some (.lst xs)/\H b=some (.lst a)/\xs.length+a.length<=sizeLine/\Q .bH (upd H l (.lst (xs++a)))
 |_,_=>False
theorem Fm{l b:Addr}{Q:VK}:Sj (.ref l) [.ref b] H Q=∃xs a,H l=some (.lst xs)/\H b=some (.lst a)/\xs.length+a.length<=sizeLine/\Q .bH (upd H l (.lst (xs++a))):=rfl
theorem JK:Qk X "list.extend" Sj:=by
 intro a s σ H x b v d Q I e c h
 match x,b,c,h with
 | .ref l,[.ref b],c,⟨f,g,h,i,j,k⟩=>calc B8 a s σ H _ _ v d Q I e c ⟨l,b,f,g,rfl,rfl,h,i,j,k⟩
def Ls:V->List V->Hp->VK->Prop:=λx vs H Q=>match x,vs with
 | .ref l,[.int 0]=>∃y xs,H l=some (.lst (y::xs))/\Q y (upd H l (.lst xs))
 |_,_=>False
theorem AB{l:Addr}{Q:VK}:Ls (.ref l) [.int 0] H Q=∃y xs,H l=some (.lst (y::xs))/\Q y (upd H l (.lst xs)):=rfl
theorem Fn:Qk X "list.pop" Ls:=by
 intro a s σ H x c v d Q I e b h
 match x,c,b,h with
 | .ref l,[.int 0],b,⟨y,c,f,g⟩=>calc Ep a s σ H _ _ v d Q I e b ⟨l,y::c,0,0,y,rfl,rfl,f,∅,∅,by simp[seqIndex?],rfl,g⟩
def Fo(a b:TE):TS:=λD σ H=>a σ H λx c=>b σ c λy a=>∃l i xs k,x=.ref l/\y=.int i/\a l=some (.lst xs)/\-(2^63)<=i/\i<2^63/\seqIndex? i xs.length=some k/\D.nx σ (upd a l (.lst (xs.eraseIdx k)))
theorem JL{o i:Expr}{b c:TE}{d a:Pos}(e:PE X o b)(f:PE X i c):PS X (.Delete [.Subscript o i d] a) (Fo b c):=by
 walk_at "xd";refine wpAny_Delete (wpAny_deleteEach_cons (wpAny_delete_Subscript (c9 (e pins s σ H _ I h) λu a ⟨x,b,c,g,d⟩=>c9 (f pins a σ b _ c d) λe k j=>?_)));obtain⟨y,a,m,n,l,i,b,k,p,q,r,v,w,z,A⟩:=j;subst p q;obtain rfl:u=Value.ref l:=g;obtain⟨t,rfl⟩:=n;exact Er m r v w z λb a=>wpAny_deleteEach_nil ⟨σ,_,a,A⟩
structure CD(K:W.Frag)(a:Addr)(D:List (Str×V)):Prop where
 ex:∃o es ep,K.lookup a=some o/\o.ExactDict/\o.data=.dict es ep/\KTD.Rows RelV es.toList D
 ne:(a==sysModules)=false
theorem N0{prog:Program}{w:World}{A:Around}{E:Value->Shared->Prop}{s:Shared}{o:Obj}{b:Array DictEntry}{f:Nat}{k:Str}{h:Tok}{Q:Option Value->Shared->Prop}(j:s.heap.get? a=some o)(m:o.data=.dict b f)(g:KTD.Rows RelV b.toList D)
  (i:∀d v,KTD.datumAt k D=some d->RelV d v->Q (some v) {s with toks:=s.toks+1}) (n:KTD.datumAt k D=none->Q none {s with toks:=s.toks+1}):wpAny (model prog w) A (dictGet a (.str k h)) Q E s:=by
 unfold dictGet
 try with_reducible refine wpAny_holding ?_
 calc E' (wpAny_pyHash_str (E' (KTD.kt_dictFind_strs (s:={s with toks:=s.toks+1}) j m (by obtain⟨l⟩:=b;simpa using g.exact) ?_)));have c:Q (findBy (λk v=>v.isStr k) b k) {s with toks:=s.toks+1}:=by
  have f:findBy (λk v=>v.isStr k) b k=(b.toList.find? λe=>e.key.isStr k).map (·.val):=by
   obtain⟨l⟩:=b;simp[findBy]
  rw[f]
  cases f:KTD.datumAt k D with
  |some d=>
   obtain⟨v,l,h⟩:=g.find_some f;rw[l];calc i d v f h
  |none=>rw[g.find_none f];exact n f
 rw[findBy_of_findIdx?]at c
 cases d:b.findIdx? λe=>e.key.isStr k with
 |none=>rw[d]at c;calc S' c
 |some i=>rw[d]at c;calc E' (wpAny_dictEntries (s:={s with toks:=s.toks+1}) j m (S' c))
theorem y7{prog:Program}{w:World}{o:Obj}{c:Array DictEntry}{d:Nat}{k:Str}{b:Tok}(e:o.data=.dict c d)(f:KTD.Rows RelV c.toList D)(g:(a==sysModules)=false):
  MeetsIn prog w (Builtin.«dict.get» ⟨[.ref a,.str k b],[]⟩) (λ_ R s=>s.heap.get? a=some o/\(∀d v,KTD.datumAt k D=some d->RelV d v->R (.ok (.ret v)) {s with toks:=s.toks+1})/\(KTD.datumAt k D=none->R (.ok (.ret .none)) {s with toks:=s.toks+1})):=
 .of_wp λA R s ⟨T,c,h⟩=>by
  show wpAny _ _ (dictGet a (.str k b) >>= _) _ _ s;calc E' (N0 T e f (λd v i j=>S' ⟨v,rfl,c d v i j⟩) λe=>?_);show wpAny _ _ (Builtin.Dict.missed a (.str k b) >>= _) _ _ _;calc E' (wpAny_missed_other g (S' ⟨.none,rfl,h e⟩))
def Fp(D:List (Str×V))(t:TA):TE:=λσ H Q=>t σ H λxs a=>match xs with
 | [.str k]=>Q ((KTD.datumAt k D).getD .bH) a
 |_=>False
theorem JM{n:Str}{e:Expr}{t:TA}{p b d:Pos}(C:CD X.K a D)(r:Gl X n)(v:X.mg n=some (.ref a))(w:PA X [e] t)
  (x:(n==("__debug__":Str))=false:=by decide) (y:attributeBase (.Name n p) "get" X.env (eval (.Name n p) X.env)=eval (.Name n p) X.env:=by rfl)
  (z:(b.endLine==d.line)=true:=by rfl) (l:starEach [e] X.env=[(false,eval e X.env)]:=by rfl):PE X (.Call (.Attribute (.Name n p) "get" b) [e] [] d) (Fp D t):=by
 walk_at "xc";obtain⟨o,b,n,m,f,A,B⟩:=C.ex;refine wpAny_Call_method_late y (by rw[l];rfl) z rfl (qe I r v ?_ x);have q:s.heap.get? a=some o:=I.j1 a o m;refine⟨"dict","dict.get",PySem.F.plainAttrs_dict,PySem.F.slot_dict_get,PySem.F.type_dict_get,⟨o,q,f.1⟩,λb e=>?_,?_⟩
 ·cases e;exact⟨o,q,f.2.1⟩
 have b:=w d pins s σ H _ I h;rw[l]at b ⊢;calc Calls.callWith_builtin rfl (Calls.evalArgs_plain (c9 b λn E e=>?_));obtain⟨b,g,i,j,c⟩:=e
 match b,j,c with
 | [.str k],j,c=>
  obtain⟨u,rfl,G⟩:=Vals.one j;obtain⟨J,rfl⟩:=G;have e:E.heap.get? a=some o:=i.j1 a o m
  replace c:Q ((KTD.datumAt k D).getD .bH) g:=c
  refine call_meetsIn PySem.F.slot_dict_get ⟨o,e,f.1⟩ PySem.F.entry_dict_get (PySem.F.args_dict_get_2 _ _) (y7 A B C.ne) ⟨e,λd v b j=>?_,λe=>?_⟩
  ·exact⟨d,g,i.tok _,j,by have:=c;rw[b]at this;calc this⟩
  ·calc⟨.bH,g,i.tok _,rfl,by have:=c;rw[e]at this;calc this⟩
end
end
section
variable {x:Str}
section
variable {X:Cx}
theorem ft{n:Int}{a:Pos}(b:∃t,X.mg x=some (.int n t))(c:Gl X x)(d:(x==("__debug__":Str))=false:=by decide):PE X (.Name x a) (tC (.int n)):=by
 obtain⟨t,b⟩:=b;calc zW c b ⟨t,rfl⟩ d
end
structure cX(P:Program)(w:World)(K:W.Frag)(mg:Str->Option Value)(base:Heap)(C:Addr)(m:Str)(k:Nat)(ps:List Str)(sp:Sp):Prop where
 ex:∃f fd,Meth K C m f/\lG P w K mg base Ce k f fd ps sp/\Binds K fd ps []
structure ji(K:W.Frag)(C:Addr)(m qual:Str)(st:Stmt)(ps:List Str):Prop where
 ex:∃f fd,Meth K C m f/\JA K m qual st f fd/\Binds K fd ps []
structure wN(P:Program)(w:World)(K:W.Frag)(mg:Str->Option Value)(base:Heap)(x:Str)(C:Addr)(k:Nat)(ps:List Str)(sp:Sp):Prop where
 ex:∃f fd,Mk K C f/\lG P w K mg base Ce k f fd ps sp/\Binds K fd ps []
 mg:mg x=some (.ref C)
structure Cs(K:W.Frag)(mg:Str->Option Value)(x:Str)(C:Addr)(qual:Str)(st:Stmt)(ps:List Str):Prop where
 ex:∃f fd,Mk K C f/\JA K "__init__" qual st f fd/\Binds K fd ps []
 mg:mg x=some (.ref C)
section
variable {P:Program}{w:World}{K:W.Frag}{mg:Str->Option Value}{base:Heap}
theorem ji.ok{C:Addr}{m qual:Str}{a:Stmt}{N b:List Str}{k:Nat}{sp:Sp}(T:ji K C m qual a b)(S:aC N b (ay a))(c:∀vs H Q E,sp vs H Q E->vs.length=b.length)
  (e:∀(f:Addr) (d:Value) (A:Around) (outer:List Env) (s:Shared) (H:Hp) (vs:List V) (Q:VK) (E:XK),eR k (A.deeper (envOfC qual (ay a) s.heap.objs.size f d))->sp vs H Q E->
   ∃t,vY (qC Ce P w K mg base N qual (ay a) f d A outer s H E).Ja (cO a) t/\t {nx:=λ_ a=>Q .bH a,rt:=Q} (start N vs) H):cX P w K mg base C m (k + 1) b sp:=by
 obtain⟨f,a,M,F,b⟩:=T.ex;calc⟨f,a,M,F.ok S c (e f),b⟩
theorem Cs.ok{C:Addr}{qual:Str}{a:Stmt}{N b:List Str}{k:Nat}{sp:Sp}(T:Cs K mg x C qual a b)(S:aC N b (ay a))(c:∀vs H Q E,sp vs H Q E->vs.length=b.length)
  (e:∀(f:Addr) (d:Value) (A:Around) (outer:List Env) (s:Shared) (H:Hp) (vs:List V) (Q:VK) (E:XK),eR k (A.deeper (envOfC qual (ay a) s.heap.objs.size f d))->sp vs H Q E->
   ∃t,vY (qC Ce P w K mg base N qual (ay a) f d A outer s H E).Ja (cO a) t/\t {nx:=λ_ a=>Q .bH a,rt:=Q} (start N vs) H):wN P w K mg base x C (k + 1) b sp:=by
 obtain⟨f,a,M,F,b⟩:=T.ex;calc⟨⟨f,a,M,F.ok S c (e f),b⟩,T.mg⟩
end
section
variable {X:Cx}{o e:Expr}{es:List Expr}{to:TE}{t:TA}{apos p pos:Pos}{C:Addr}{m x:Str}{k j:Nat}{ps:List Str}{sp:Sp}
theorem jj{pl:Sem Bool}(D:cX X.prog X.w X.K X.mg X.base C m k ps sp)(c:sj X.K C)(b:eR j X.A)(d:PE X o to)(g:PA X (e::es) t)(h:k<=j:=by decide)(i:fI e=true:=by rfl)(l:es.all fI=true:=by rfl)
  (n:eval (.Call (.Attribute o m apos) (e::es) [] pos) X.env=(do
   let a <-eval o X.env
   standAt apos.atName
   let (f,first) <-holding [a] (getMethod a m pl)
   callWith pos f first (backTo pos (starEach (e::es) X.env)) (backToKw pos (keywordEach [] X.env))):=by rfl):
  PE X (.Call (.Attribute o m apos) (e::es) [] pos) (tK C m sp [] E0 to t):=by
 obtain⟨f,p,M,F,a⟩:=D.ex;calc Jm d c M F (b.mono h) a .nil As g (fJ i) (jf l) n
theorem eJ{pl:Sem Bool}(D:cX X.prog X.w X.K X.mg X.base C m k ps sp)(c:sj X.K C)(b:eR j X.A)(d:PE X o to)(e:k<=j:=by decide)
  (g:eval (.Call (.Attribute o m apos) [] [] pos) X.env=(do
   let a <-eval o X.env
   standAt apos.atName
   let (f,first) <-holding [a] (getMethod a m pl)
   callWith pos f first (backTo pos (starEach [] X.env)) (backToKw pos (keywordEach [] X.env))):=by rfl):
  PE X (.Call (.Attribute o m apos) [] [] pos) (tK C m sp [] E0 to Ee):=by
 obtain⟨f,h,M,F,a⟩:=D.ex;calc Ef d c M F (b.mono e) a .nil As g
theorem Fq(D:wN X.prog X.w X.K X.mg X.base x C k ps sp)(a:eR j X.A)(b:PA X (e::es) t)(c:Gl X x:=by rfl)(d:k+1<=j:=by decide)(g:(x==("__debug__":Str))=false:=by decide)
  (h:fI e=true:=by rfl) (i:es.all fI=true:=by rfl):PE X (.Call (.Name x p) (e::es) [] pos) (Ag C sp [] E0 t):=by
 obtain⟨f,m,M,F,l⟩:=D.ex;calc Jn M F (a.mono d) c D.mg l .nil As b g (fJ h) (jf i)
end
theorem kj{K:W.Frag}{b:Bool}{a:Addr}{xs:List V}{g:TG}{l:TS}{D:Ends}{σ:St}{H:Hp}(c:Nat->St->Hp->Prop)(o:c 0 σ H)(j:∀i σ H,c i σ H->Sq b K H a xs)
  (q:∀i x σ H T,xs[i]?=some x->c i σ H->H T=none->g (.ref T) σ (upd H T (.tup [.int i,x])) λd k=>l {D with nx:=c (i+1),ct:=c (i+1),bk:=D.nx} d k) (r:∀σ H,c xs.length σ H->D.nx σ H):
  ∃W:Nat->Nat->St->Hp->Prop,(∃m,W 0 m σ H)/\∀i m σ H,W i m σ H->
   ((NV b K a).stop i H/\D.nx σ H)\/((NV b K a).go i H/\∃N:St->Hp->Prop,(∀f h,N f h->∃n,n<m/\W (i+1) n f h)/\∀x h,(NV b K a).La i H x h->g x σ h λd k=>l {D with nx:=N,ct:=N,bk:=D.nx} d k):=by
 calc⟨λi m σ H=>m=xs.length-i/\i<=xs.length/\c i σ H,⟨xs.length,nofun,aav _,o⟩,?_⟩;rintro i m σ H ⟨rfl,b,p⟩;by_cases a:i<xs.length
 ·calc .inr ⟨⟨xs,xs[i],j i σ H p,bU a⟩,c (i+1),λf h b=>⟨xs.length-(i+1),(),rfl,a,b⟩,λx h y=>?_⟩;obtain⟨T,s,rfl,y⟩:=y;obtain⟨x,t,rfl⟩:=y xs (j i σ H p);exact q i x σ H T t p s
 ·have e:i=xs.length:=by lia
  subst e;calc .inl ⟨⟨xs,j _ σ H p,rfl⟩,r σ H p⟩
theorem gq{X:Cx}{i j:Nat}{y:Str}{c d a:Pos}{k:Nat}(e:X.calm=true)(b:X.N.Nodup)(f:X.N[i]?=some x)(g:X.N[j]?=some y)(h:Loc X.env.scope x)(l:Loc X.env.scope y)
  (m:X.fn x=true\/X.env.scope.names.lookup x=some .local:=by grind) (n:X.fn y=true\/X.env.scope.names.lookup y=some .local:=by grind):
  PG X (.Tuple [.Name x c,.Name y d] k a) (DS X.K 2 (lN (fC i) (lN (fC j) DR))):=yA e (gL (aP b f h m) (gL (aP b g l n) uM))
end
end L2
set_option maxHeartbeats 400000
namespace L2
open PySem PySem.Spec PyProof.Rows
end L2
set_option maxHeartbeats 4000000
namespace L2
open PySem PySem.Spec PyProof.Rows
variable {a:Addr}{g:Bool->Bool}{H:Hp}{ix:List (Option Nat)}{ym:List (TE×TE)}{σ:St}{te:TE}{wi:TI}{tt:TT}{Q:VK}{K:W.Frag}
section
variable {X:Cx}{K:W.Frag}
theorem t9(a:X.K=K):eZ X (.builtin "isinstance") (JJ K):=a▸dw
theorem qR(a:X.K=K):eZ X (.builtin "len") (NP K):=a▸aN
theorem m9(a:X.K=K):eZ X (.type "tuple") (u6 K):=a▸cn
theorem km(a:X.K=K):eZ X (.type "list") (EM K):=a▸b4
theorem JN(a:X.K=K)(b:X.A.units+64<cLine):fE X (compareOp .Eq) (NL K):=a▸EI b
theorem JO(a:X.K=K)(b:X.A.units+64<cLine):fE X (compareOp .NotEq) (NM K):=a▸EJ b
theorem bW{a b:Expr}{d e:TE}{c:Pos}(f:X.K=K)(g:X.A.units+64<cLine)(i:PE X a d)(j:PE X b e)(h:vc b=true:=by rfl):PE X (.Subscript a b c) (D7 (NO K) d e):=f▸aj g i j h
theorem JP{e:Expr}{b:TE}{f:Str}{a:Pos}(c:X.K=K)(d:PE X e b)(g:attributeBase e f X.env (eval e X.env)=eval e X.env):PE X (.Attribute e f a) (Jj K b f):=c▸bJ d g
theorem nc{i j:Nat}{x y:Str}{b c a:Pos}{k:Nat}(d:X.K=K)(e:X.calm=true)(f:X.N.Nodup)(g:X.N[i]?=some x)(h:X.N[j]?=some y)(l:Loc X.env.scope x)(m:Loc X.env.scope y)
  (n:X.fn x=true\/X.env.scope.names.lookup x=some .local:=by grind) (o:X.fn y=true\/X.env.scope.names.lookup y=some .local:=by grind):
  PG X (.Tuple [.Name x b,.Name y c] k a) (DS K 2 (lN (fC i) (lN (fC j) DR))):=d▸gq e f g h l m n o
end
inductive Sn{α:Sort _}(x:α):Type
 |mk
def Ya(ix:List (Option Nat))(wi:TI)(g:TG)(tt:TT)(te:TE)(_:Sn (ix,wi,g,tt,te)):TE:=R5 ix wi g tt te
theorem AD{g:TG}:R5 ix wi g tt te=Ya ix wi g tt te .mk:=rfl
def So(wi:TI)(g:TG)(a:TS)(_:Sn (wi,g,a)):TS:=M6 wi g a
theorem wO{g:TG}{a:TS}:M6 wi g a=So wi g a .mk:=rfl
def JQ(a:TT)(b:TS)(_:Sn (a,b)):TS:=uN a b
theorem qS{a:TT}{b:TS}:uN a b=JQ a b .mk:=rfl
theorem bC{g:TG}(h:wi σ H λJ a=>∀D,a D=none->ki ix J g tt te σ a Q D):R5 ix wi g tt te σ H Q:=h
def JR(ix:List (Option Nat))(J:It)(g:TG)(tt:TT)(te:TE)(σ:St)(H:Hp)(Q:VK)(D:Addr)(_:Sn (ix,J,g,tt,te,σ,H,Q,D)):Prop:=ki ix J g tt te σ H Q D
theorem qT{J:It}{g:TG}{D:Addr}:ki ix J g tt te σ H Q D=JR ix J g tt te σ H Q D .mk:=rfl
theorem y8:Sb g (.ref a) .bH H Q=Q (.bl (g false)) H:=by
 show Q (.bl (g (decide (V.ref a=.bH)))) H=_;simp
theorem y9:Sb g .bH .bH H Q=Q (.bl (g true)) H:=by
 show Q (.bl (g (decide (V.bH=.bH)))) H=_;simp
theorem aq.Qo{b:Hp}(s:aq H b){a:Addr}{xs:List V}(h:bq K H a xs):bq K b a xs:=by
 rcases h with(h|⟨o,h⟩)|h
 ·exact .inl (.inl (s _ _ h))
 ·exact .inl (.inr ⟨o,s _ _ h⟩)
 ·calc .inr h
theorem jk{α:Type}(x:α)(n:Nat):List.replicate n x++[x]=List.replicate (n+1) x:=by
 rw[List.replicate_succ',]
theorem oq(n:Nat):List.replicate n (V.bl true)=(List.replicate n true).map V.bl:=by simp
theorem cp{xs:List V}{i:Int}{v:V}{P:V->Prop}(h:H a=some (.tup xs))(e:iG xs i=some v)(k:P v):∃xs v,(aO K H a xs\/bq K H a xs)/\iG xs i=some v/\P v:=⟨xs,v,.inr (bq.of h),e,k⟩
theorem bx{xs:List V}{i:Int}{v:V}{P:V->Prop}(h:H a=some (.lst xs))(e:iG xs i=some v)(k:P v):∃xs v,(aO K H a xs\/bq K H a xs)/\iG xs i=some v/\P v:=⟨xs,v,.inl (aO.of h),e,k⟩
def N4(ym:List (TE×TE))(_:Sn ym):TE:=Aq ym
theorem ua:Aq ym=N4 ym .mk:=rfl
theorem JS(h:∀p,H p=none->oj ym σ (upd H p (.dK [])) λd b=>b p=some (.dK [])/\∃a:List (Key×V),d=a.map (λc=>(kV c.1,c.2))/\a.length<=15/\Q (.ref p) (upd b p (.dK (lW [] a)))):Aq ym σ H Q:=h
end L2
set_option maxHeartbeats 400000
namespace L2
open PySem PySem.Spec PyProof.Rows
section
section
variable {X:Cx}{K:W.Frag}
end
end
section
section
variable {X:Cx}{pins:List (Addr×Obj)}{σ:St}{H:Hp}{s:Shared}{e C:Addr}{d:Option Addr}{fl:Bool}{T:Option Addr}{h':Heap}
end
section
variable {X:Cx}{pins:List (Addr×Obj)}{σ:St}{H:Hp}{s:Shared}{a C:Addr}{d:Option Addr}{fl:Bool}{T:Option Addr}{h':Heap}{E:XK}{E1:Value->Shared->Prop}
end
end
section
section
variable {X:Cx}{o e:Expr}{es:List Expr}{to:TE}{t:TA}{apos p pos:Pos}{C:Addr}{m x:Str}{k j:Nat}{ps:List Str}{sp:Sp}{E:XK}
end
end
section
end
end L2
namespace L2
open PySem PySem.Spec PyProof.Rows
end L2
set_option maxHeartbeats 4000000
namespace DD
open PySem L2
variable {H:Hp}{x:V}
inductive Kd(H:Hp):V->Value->Prop
 |bH:Kd H .bH (.type "NoneType")
 |bl (b:Bool):Kd H (.bl b) (.type "bool")
 |int (i:Int):Kd H (.int i) (.type "int")
 |str (x:Str):Kd H (.str x) (.type "str")
 |lst {a xs}:H a=some (.lst xs)->Kd H (.ref a) (.type "list")
 |tup {a xs}:H a=some (.tup xs)->Kd H (.ref a) (.type "tuple")
 |dK {a aW}:H a=some (.dK aW)->Kd H (.ref a) (.type "dict")
theorem Kd.ty{K:W.Frag}{H:Hp}{x:V}{t:Value}(h:Kd H x t):gm K H x t:=by
 cases h with
 |bH=>calc .bH
 |bl b=>calc .bl b
 |int i=>calc .int i
 |str x=>calc .str x
 |lst e=>calc .lst e
 |tup e=>calc .tup e
 |dK e=>calc .dK e
def Yb:V->Bool
 | .int _=>true
 |_=>false
theorem N5{K:W.Frag}{H:Hp}{x:V}{t:Value}(h:Kd H x t):∃b c,W.kitOne K t (.type "int")=some b/\W.kitOne K t (.type "bool")=some c/\Yb x=(b && !c):=by
 cases h with
 |bH=>calc⟨false,false,rfl,rfl,rfl⟩
 |bl b=>calc⟨true,true,rfl,rfl,rfl⟩
 |int i=>calc⟨true,false,rfl,rfl,rfl⟩
 |str x=>calc⟨false,false,rfl,rfl,rfl⟩
 |lst e=>calc⟨false,false,rfl,rfl,rfl⟩
 |tup e=>calc⟨false,false,rfl,rfl,rfl⟩
 |dK e=>calc⟨false,false,rfl,rfl,rfl⟩
def inR(a b:Int):V->Bool
 | .int i=>decide (a<=i)&&decide (i<b)
 |_=>false
theorem Sr{H:Hp}{n:Nat}{x:V}{d:DV}(h:HD H n x d):∃t,Kd H x t:=by
 cases h with
 |bH=>calc⟨_,.bH⟩
 |bl b=>calc⟨_,.bl b⟩
 |int i=>calc⟨_,.int i⟩
 |str x=>calc⟨_,.str x⟩
 |tup e=>calc⟨_,.tup e⟩
 |lst e=>calc⟨_,.lst e⟩
 |dict e=>calc⟨_,.dK e⟩
def N6:DV->Bool
 | .int _=>true
 |_=>false
def Ss(a b:Int):DV->Bool
 | .int i=>decide (a<=i)&&decide (i<b)
 |_=>false
theorem N7{n:Nat}{d:DV}(h:HD H n x d):Yb x=N6 d:=by cases h<;>rfl
theorem N8{n:Nat}{d:DV}(h:HD H n x d)(a b:Int):inR a b x=Ss a b d:=by cases h<;>rfl
def qU:List V:=[.str "letter",.str "way",.str "first"]
def JT(w:Str)(m:Int):List DV->Bool
 | [z]=>if w="is" then N6 z else(decide (w="number")&&Ss 0 m z)
 |_=>false
def Ct(m:Int):DV->Bool
 | .tup (.str w::r)=>if An (.str w) qU=true then decide (r.length=0) else JT w m r
 |_=>false
inductive Val where
 |is (c:Int)|number (i:Int)|lZ|way|first
def Val.dv:Val->DV
 | .is c=>.tup [.str "is",.int c]
 | .number i=>.tup [.str "number",.int i]
 | .lZ=>.tup [.str "letter"]
 | .way=>.tup [.str "way"]
 | .first=>.tup [.str "first"]
def Val.ok(m:Int):Val->Prop
 | .number i=>0<=i/\i<m
 |_=>True
theorem N9{m:Int}{v:Val}(h:v.ok m):Ct m v.dv=true:=by
 cases v with
 |is c=>calc rfl
 |number i=>
  obtain⟨a,b⟩:=h;show(if An (.str "number") qU=true then decide (([DV.int i]:List DV).length=0) else if ("number":Str)="is" then N6 (.int i) else(decide (("number":Str)="number")&&(decide (0<=i)&&decide (i<m))))=true;rw[if_neg ⋯,if_neg ⋯];simp[a,b]
 |lZ=>calc rfl
 |way=>calc rfl
 |first=>calc rfl
def qV(ns a:List Int)(way said:Int):Val->Int
 | .is c=>c
 | .number i=>ns.getD i.toNat 0
 | .lZ=>said
 | .way=>way
 | .first=>a.headD 0
abbrev wQ(ns a:List Int):DV:=.tup [.tup (ns.map .int),.tup (a.map .int)]
theorem ln1{l:List V}(h:l.length=1):∃a,l=[a]:=List.length_eq_one_iff.mp h
theorem ln2{l:List V}(h:l.length=2):∃a b,l=[a,b]:=by
 cases l with
 |nil=>cases h
 |cons a r=>
  obtain⟨b,rfl⟩:=ln1 (Nat.succ.inj h);calc⟨a,b,rfl⟩
theorem ln3{l:List V}(h:l.length=3):∃a b c,l=[a,b,c]:=by
 cases l with
 |nil=>cases h
 |cons a r=>
  obtain⟨b,c,rfl⟩:=ln2 (Nat.succ.inj h);calc⟨a,b,c,rfl⟩
theorem ln4{l:List V}(h:l.length=4):∃a b c d,l=[a,b,c,d]:=by
 cases l with
 |nil=>cases h
 |cons a r=>
  obtain⟨b,c,d,rfl⟩:=ln3 (Nat.succ.inj h);calc⟨a,b,c,d,rfl⟩
theorem iH{H:Hp}{n:Nat}{x:V}{d:DV}(h:HT H n x (.tup [d])):∃a u k,x=.ref a/\H a=some (.tup [u])/\HT H k u d:=by
 cases h with
 | @tup k a b _ e l i=>
  obtain⟨u,rfl⟩:=ln1 l;calc⟨a,u,k,rfl,e,i 0 u d rfl rfl⟩
theorem dH{H:Hp}{n:Nat}{x:V}{d d':DV}(h:HT H n x (.tup [d,d'])):∃a u v k,x=.ref a/\H a=some (.tup [u,v])/\HT H k u d/\HT H k v d':=by
 cases h with
 | @tup k a b _ e l i=>
  obtain⟨u,v,rfl⟩:=ln2 l;calc⟨a,u,v,k,rfl,e,i 0 u d rfl rfl,i 1 v d' rfl rfl⟩
theorem AE{H:Hp}{n:Nat}{x:V}{ns:List Int}(h:HT H n x (.tup (ns.map .int))):∃a,x=.ref a/\H a=some (.tup (ns.map V.int)):=by
 cases h with
 | @tup k a b _ e l i=>
  calc⟨a,rfl,?_⟩;have:b=ns.map V.int:=by
   apply List.ext_getElem?;intro j;rw[A']
   cases c:ns[j]? with
   |none=>
    have a:ns.length<=j:=List.getElem?_eq_none_iff.mp c;rw[List.getElem?_eq_none_iff.mpr (by rw[l,R'];calc a)];rfl
   |some z=>
    have a:j<ns.length:=(List.getElem?_eq_some_iff.mp c).1;have d:j<b.length:=by rw[l,R'];exact a
    have f:=i j b[j] (.int z) (bU d) (by rw[A',c];rfl);rw[bU d];generalize b[j]=y at f
    cases f;rfl
  rw[<-this];calc e
theorem ng{H:Hp}{n:Nat}{a:Addr}{ns:List Int}(e:H a=some (.tup (ns.map V.int))):HT H (n+1) (.ref a) (.tup (ns.map .int)):=by
 calc .tup e nofun λi u d b c=>?_;rw[A']at b c
 cases f:ns[i]? with
 |none=>rw[f]at b;cases b
 |some z=>rw[f]at b c;cases b;cases c;calc .int z
theorem qW{H:Hp}{n:Nat}{a:Addr}{u:V}{d:DV}(e:H a=some (.tup [u]))(h:HT H n u d):HT H (n+1) (.ref a) (.tup [d]):=by
 refine .tup e rfl λi x y b c=>?_
 cases i with
 |zero=>simp at b c;subst b c;calc h
 |succ i=>simp at b
theorem dy{H:Hp}{n:Nat}{a:Addr}{u v:V}{d d':DV}(e:H a=some (.tup [u,v]))(h:HT H n u d)(h':HT H n v d'):HT H (n+1) (.ref a) (.tup [d,d']):=by
 refine .tup e rfl λi x y b c=>?_
 match i,b,c with
 |0,b,c=>simp at b c;subst b c;calc h
 |1,b,c=>simp at b c;subst b c;calc h'
theorem _root_.L2.HT.mono{H:Hp}{n:Nat}{x:V}{d:DV}(h:HT H n x d):∀{m:Nat},n<=m->HT H m x d:=by
 induction h with
 |bH=>intro m _;calc .bH
 |bl b=>intro m _;calc .bl b
 |int i=>intro m _;calc .int i
 |str x=>intro m _;calc .str x
 |tup a b c f=>
  intro m e;obtain⟨k,rfl⟩:∃k,m=k+1:=⟨m-1,()⟩
  calc .tup a b λi u e p q=>f i u e p q ()
theorem JU{K:W.Frag}{H:Hp}{n:Nat}{x:V}{d:DV}(h:HT H n x d):∀{m:Nat}{y:V}{k:Nat},HT H m y d->n<k->iB K H k x y:=by
 induction h with
 |bH=>intro m y k h c;cases h;obtain⟨j,rfl⟩:∃j,k=j+1:=⟨k-1,()⟩;calc .inl ⟨rfl,rfl⟩
 |bl b=>intro m y k h c;cases h;obtain⟨j,rfl⟩:∃j,k=j+1:=⟨k-1,()⟩;calc .inl ⟨rfl,rfl⟩
 |int i=>intro m y k h c;cases h;obtain⟨j,rfl⟩:∃j,k=j+1:=⟨k-1,()⟩;calc .inl ⟨rfl,rfl⟩
 |str i=>intro m y k h c;cases h;obtain⟨j,rfl⟩:∃j,k=j+1:=⟨k-1,()⟩;calc .inl ⟨rfl,rfl⟩
 | @tup n a o g e l i q=>
  intro m y k h c;obtain⟨j,rfl⟩:∃j,k=j+1:=⟨k-1,()⟩
  cases h with
  | @tup m b d _ i j k=>
   calc .inr ⟨a,b,o,d,rfl,rfl,.inl ⟨bq.of e,bq.of i⟩,l.trans j.symm,λp u v c m=>?_⟩;have a:p<g.length:=by rw[<-l];exact(List.getElem?_eq_some_iff.mp c).1
   calc q p u g[p] c (bU a) (k p v g[p] m (bU a)) ()
inductive bf where
 |set (i:Int) (v:Val)|add (i:Int) (v:Val)|times (i:Int) (v:Val)|put (v:Val)|drop|send (j:Int) (v:Val)|say (v:Val)|skip (v w:Val) (k:Int)
def bf.dv:bf->DV
 | .set i v=>.tup [.str "set",.int i,v.dv]
 | .add i v=>.tup [.str "add",.int i,v.dv]
 | .times i v=>.tup [.str "times",.int i,v.dv]
 | .put v=>.tup [.str "put",v.dv]
 | .drop=>.tup [.str "drop"]
 | .send j v=>.tup [.str "send",.int j,v.dv]
 | .say v=>.tup [.str "say",v.dv]
 | .skip v w k=>.tup [.str "skip",v.dv,w.dv,.int k]
def bf.ok(m:Int):bf->Prop
 | .set i v=>0<=i/\i<m/\v.ok m
 | .add i v=>0<=i/\i<m/\v.ok m
 | .times i v=>0<=i/\i<m/\v.ok m
 | .put v=>v.ok m
 | .drop=>True
 | .send j v=>0<=j/\v.ok m
 | .say v=>v.ok m
 | .skip v w k=>v.ok m/\w.ok m/\1<=k/\k<25
def bf.vals:bf->List Val
 | .set _ v=>[v]
 | .add _ v=>[v]
 | .times _ v=>[v]
 | .put v=>[v]
 | .drop=>[]
 | .send _ v=>[v]
 | .say v=>[v]
 | .skip v w _=>[v,w]
def bf.word:bf->Str
 | .set _ _=>"set"
 | .add _ _=>"add"
 | .times _ _=>"times"
 | .put _=>"put"
 | .drop=>"drop"
 | .send _ _=>"send"
 | .say _=>"say"
 | .skip _ _ _=>"skip"
def bf.sE:bf->List Str
 | .set _ _=>["number","value"]
 | .add _ _=>["number","value"]
 | .times _ _=>["number","value"]
 | .put _=>["value"]
 | .drop=>[]
 | .send _ _=>["way","value"]
 | .say _=>["value"]
 | .skip _ _ _=>["value","value","many"]
structure WS where
 ns:List Int
 row:List Int
 cu:List (Int×Int)
 words:List Int
def fu(M way said:Int)(ns a:List Int)(v:Val):Int:=qV ns a way said v%M
def jl(M:Int)(ns:List Int)(x:Int):bf->List Int
 | .set i _=>ns.set i.toNat x
 | .add i _=>ns.set i.toNat ((ns.getD i.toNat 0+x)%M)
 | .times i _=>ns.set i.toNat ((ns.getD i.toNat 0*x)%M)
 |_=>ns
def nh(a:List Int)(x:Int):bf->List Int
 | .put _=>if a.length<12 then a++[x] else a
 | .drop=>a.tail
 |_=>a
def gN(x:Int):bf->List (Int×Int)
 | .send j _=>[(j,x)]
 |_=>[]
def fK(x:Int):bf->List Int
 | .say _=>[x]
 |_=>[]
def ni(x y:Int):bf->Int
 | .skip _ _ k=>if x<y then k else 0
 |_=>0
def j2(M way said:Int)(d:bf)(s:WS):WS:=
 let ws:=d.vals.map (fu M way said s.ns s.row)
 ⟨jl M s.ns (ws.getD 0 0) d,nh s.row (ws.getD 0 0) d,s.cu++gN (ws.getD 0 0) d,s.words++fK (ws.getD 0 0) d⟩
def lS(M way said:Int)(d:bf)(s:WS):Int:=
 let ws:=d.vals.map (fu M way said s.ns s.row)
 ni (ws.getD 0 0) (ws.getD 1 0) d
def wR(M way said:Int):Nat->List bf->WS->WS
 |0,_,s=>s
 |_,[],s=>s
 |f+1,d::r,s=>wR M way said f (r.drop (lS M way said d s).toNat) (j2 M way said d s)
theorem AF{M way said:Int}{f:Nat}{s:WS}:wR M way said f [] s=s:=by cases f<;>rfl
def nj(M way said:Int)(b:List bf)(ns a:List Int):WS:=wR M way said b.length b ⟨ns,a,[],[]⟩
theorem ou{M x:Int}{ns:List Int}{d:bf}:(jl M ns x d).length=ns.length:=by cases d<;>simp[jl]
def wU(K:W.Frag)(H:Hp)(e:V)(ns d:List Int):Prop:=∃a b c,e=.ref a/\H a=some (.tup [.ref b,.ref c])/\(aO K H b (ns.map V.int)\/bq K H b (ns.map V.int))/\(aO K H c (d.map V.int)\/bq K H c (d.map V.int))
theorem wU.of{K:W.Frag}{n:Nat}{f:V}{ns d:List Int}(h:HT H n f (wQ ns d)):wU K H f ns d:=by
 obtain⟨a,u,v,k,rfl,e,g,i⟩:=dH h;obtain⟨b,rfl,j⟩:=AE g;obtain⟨c,rfl,d⟩:=AE i;calc⟨a,b,c,rfl,e,.inr (bq.of j),.inr (bq.of d)⟩
def cq:Stmt->List Stmt
 | .ClassDef _ _ _ a _ _ _ _ _ _ _=>a
 |_=>[]
theorem bE{H:Hp}{n:Nat}{x:V}{d d' b:DV}(h:HT H n x (.tup [d,d',b])):∃a u v w k,x=.ref a/\H a=some (.tup [u,v,w])/\HT H k u d/\HT H k v d'/\HT H k w b:=by
 cases h with
 | @tup k a c _ e l i=>
  obtain⟨u,v,w,rfl⟩:=ln3 l;calc⟨a,u,v,w,k,rfl,e,i 0 u d rfl rfl,i 1 v d' rfl rfl,i 2 w b rfl rfl⟩
theorem nk{H:Hp}{n:Nat}{x:V}{d d' b c:DV}(h:HT H n x (.tup [d,d',b,c])):∃a u v w z k,x=.ref a/\H a=some (.tup [u,v,w,z])/\HT H k u d/\HT H k v d'/\HT H k w b/\HT H k z c:=by
 cases h with
 | @tup k a f _ e l i=>
  obtain⟨u,v,w,z,rfl⟩:=ln4 l;calc⟨a,u,v,w,z,k,rfl,e,i 0 u d rfl rfl,i 1 v d' rfl rfl,i 2 w b rfl rfl,i 3 z c rfl rfl⟩
theorem l7{H:Hp}{n:Nat}{a:Addr}{u v w:V}{d d' f:DV}(e:H a=some (.tup [u,v,w]))(h:HT H n u d)(h':HT H n v d')(g:HT H n w f):HT H (n+1) (.ref a) (.tup [d,d',f]):=by
 refine .tup e rfl λi x y b c=>?_
 match i,b,c with
 |0,b,c=>simp at b c;subst b c;calc h
 |1,b,c=>simp at b c;subst b c;calc h'
 |2,b,c=>simp at b c;subst b c;calc g
theorem AG{n:Nat}{v:Val}(h:HT H n x v.dv):∃a xs,x=.ref a/\H a=some (.tup xs):=by
 cases v<;>(cases h;rename_i a xs e l i;calc⟨_,_,rfl,by assumption⟩)
end DD
set_option maxHeartbeats 400000
namespace L2
open PySem PySem.Spec PyProof.Rows
def Su:R2:=λx y H Q=>match x,y with
 | .ref a,.int n=>∃v,H a=some (.lst [v])/\-1000<=n/\n<=1000/\∀p,H p=none->Q (.ref p) (upd H p (.lst (List.replicate n.toNat v)))
 |_,_=>False
theorem Fs{α:Type}(n:Nat)(v:α):(List.replicate n [v]).flatten=List.replicate n v:=by
 induction n with
 |zero=>rfl
 |succ n a=>rw[List.replicate_succ,List.flatten_cons,a];rfl
theorem wV{v:V}{u:Value}(r:RelV v u):∀n:Nat,Vals (List.replicate n v) (List.replicate n u)
 |0=>.nil
 |n+1=>.cons r (wV r n)
section
variable {X:Cx}
theorem Ft:fE X (binaryOp .Mult) Su:=by
 intro g s σ H x y v u Q I i j h
 cases x<;>cases y<;>first
  |calc(show False from h).elim
  |skip
 rename_i a n;obtain⟨w,l,A,B,q⟩:=h;obtain rfl:v=Value.ref a:=i;obtain⟨c,rfl⟩:∃c,u=Value.int n c:=j;obtain⟨_,C,k,m,d⟩:=I.aU a _ l;obtain⟨f,rfl,p⟩:=m.one;have r:([f]:List Value).toArray.size*n.toNat<=1000:=by simp;lia
 refine wpAny_binaryOp_repeat_ref (T:="list") (U:="int") ∅ ⟨_,d,rfl⟩ (λt=>typeIs_int t n c) noFill_list_mul F.fills_int_mul F.slot_int_rmul repeat_list F.slot_int_index.lookup
  (call_meets F.slot_int_rmul (typeIs_int s n c) F.entry_int_rmul (F.args_int_rmul_2 _ _) (lm_int_rmul_list_any n c a ([f]:List Value).toArray k none #[])
   ⟨d,rfl,⟨_,d,rfl⟩,call_meets F.slot_list_mul ⟨_,d,rfl⟩ F.entry_list_mul (F.args_list_mul_2 _ _)
    (lm_list_mul_any a ([f]:List Value).toArray k none #[] n c (by simp[Builtin.List.listFitsIndex];lia) () (by simp[Builtin.List.listTooLong,sizeLine];lia))
    ⟨d,?_⟩⟩)
 rw[listMul_foldl_if,Fs];have z:H s.heap.objs.size=none:=I.aU.fresh (J' _);calc⟨V.ref s.heap.objs.size,_,I.laid (o:=.lst (List.replicate n.toNat w)) (a:=s.heap.objs.size) (λb o e=>K' _ e) (J' _) (show _/\_ from⟨?_,_,0,wV p _,aah _ rfl⟩),rfl,q _ z⟩;rw[List.length_replicate,sizeLine_eq];lia
end
end L2
namespace L2
open PySem PySem.Spec PyProof.Rows Builtin.Str
end L2
namespace L2
open PySem PySem.Spec PyProof.Rows Builtin.Str
end L2
set_option maxHeartbeats 4000000
namespace L2
open PySem
section
variable {X:Cx}
def Yd(K:W.Frag):List V->Hp->VK->Prop:=λxs H Q=>∃(x:V) (C:Addr) (t:Value) (b:Bool),xs=[x,.ref C]/\gm K H x t/\W.kitOne K t (.ref C)=some b/\Q (.bl b) H
theorem Fu{K:W.Frag}(c:X.K=K):eZ X (.builtin "isinstance") (Yd K):=by
 subst c;intro a s σ H i j Q I r h;obtain⟨x,C,t,b,rfl,d,e,q⟩:=h;obtain⟨u,k,rfl,f,g⟩:=vals2 r
 cases g;calc tJ I f d e λa=>⟨.bl b,H,I.tok _,rfl,q⟩
end
end L2
namespace L2
open PySem PySem.Spec PyProof.Rows
variable {e:Nat->Bool}
def Cw(K:W.Frag)(H:Hp):Nat->V->V->Bool->Prop
 |0,_,_,_=>False
 | n + 1,x,y,b=>(∃a,x=.ref a/\y=.ref a/\b=true)\/(fF x=true/\fF y=true/\b=Dv x y)
  \/(∃a xs,fF x=true/\y=.ref a/\(bq K H a xs\/aO K H a xs)/\b=false)\/(∃a xs,fF y=true/\x=.ref a/\(bq K H a xs\/aO K H a xs)/\b=false)
  \/(∃a c xs d,x=.ref a/\y=.ref c/\((bq K H a xs/\aO K H c d)\/(aO K H a xs/\bq K H c d))/\b=false)
  \/∃a c xs d,∃e:Nat->Bool,x=.ref a/\y=.ref c/\a≠c/\((bq K H a xs/\bq K H c d)\/(aO K H a xs/\aO K H c d))
   /\(∀(i:Nat) u v,xs[i]?=some u->d[i]?=some v->Cw K H n u v (e i))/\b=((List.range (min xs.length d.length)).all e&&(xs.length==d.length))
def Wn(K:W.Frag)(H:Hp)(n:Nat)(a c:Addr)(b:Bool):Prop:=∃xs d,∃e:Nat->Bool,((bq K H a xs/\bq K H c d)\/(aO K H a xs/\aO K H c d))
      /\(∀(i:Nat) u v,xs[i]?=some u->d[i]?=some v->Cw K H n u v (e i))/\b=((List.range (min xs.length d.length)).all e&&(xs.length==d.length))
section
variable {X:Cx}
theorem za{pins:List (Addr×Obj)}{σ:St}{H:Hp}{s:Shared}(I:Inv X pins σ H s){n:Nat}(L:∀(A:Around) {x y:V}{u v:Value}{b:Bool},Cw X.K H n x y b->A.units+n<cLine->RelV x u->RelV y v->SeqAt.EqAt A s u v b)
  {A:Around} {a c:Addr} {b:Bool} (h:Wn X.K H n a c b) (f:A.units+n+1<cLine):SeqAt.RcAt A s (.ref a) (.ref c) b/\SeqAt.RcNeAt A s (.ref a) (.ref c) (!b):=by
 obtain⟨g,k,e,d,M,rfl⟩:=h;rcases d with⟨m,n⟩|⟨m,n⟩
 ·obtain⟨d,o,h,p⟩:=I.tuple m;obtain⟨f,q,l,w⟩:=I.tuple n;have N:=o.length;have O:=q.length;have b:∀j (m:j<d.toArray.size) (n:j<f.toArray.size),SeqAt.EqAt A.in1 s d.toArray[j] f.toArray[j] (e j):=λj y z=>by
   have B:j<d.length:=by simpa using y
   have C:j<f.length:=by simpa using z
   obtain⟨D,r,E⟩:=o.get (i:=j) (x:=g[j]'()) nofun;obtain⟨F,t,G⟩:=q.get (i:=j) (x:=k[j]'()) nofun;have H:d.toArray[j]=D:=by
    have:=bU B;rw[this]at r;simpa using Option.some.inj r
   have J:f.toArray[j]=F:=by
    have:=bU C;rw[this]at t;simpa using Option.some.inj t
   rw[H,J];exact L A.in1 (M j _ _ nofun nofun) (by rw[in1_units];lia) E G
  have u:=SeqAt.RcAt.tuples (A:=A) (show s.heap.IsTuple a d.toArray from h) (show s.heap.IsTuple c f.toArray from l) () b;have v:=SeqAt.RcNeAt.tuples (A:=A) (show s.heap.IsTuple a d.toArray from h) (show s.heap.IsTuple c f.toArray from l) () b;have p:d.toArray.size=g.length:=by simp;lia
  have w:f.toArray.size=k.length:=by simp;lia
  rw[p,w]at u v;exact⟨u,v⟩
 ·obtain⟨d,o,h,p⟩:=I.list m;obtain⟨f,q,l,w⟩:=I.list n;have N:=o.length;have O:=q.length;by_cases a:g.length=k.length
  ·have c:d.toArray.size=f.toArray.size:=by simp;lia
   have b:∀j (m:j<d.toArray.size) (n:j<f.toArray.size),SeqAt.EqAt A.in1 s d.toArray[j] f.toArray[j] (e j):=λj y z=>by
    have B:j<d.length:=by simpa using y
    have C:j<f.length:=by simpa using z
    obtain⟨D,r,E⟩:=o.get (i:=j) (x:=g[j]'()) nofun;obtain⟨F,t,G⟩:=q.get (i:=j) (x:=k[j]'()) nofun;have H:d.toArray[j]=D:=by
     have:=bU B;rw[this]at r;simpa using Option.some.inj r
    have J:f.toArray[j]=F:=by
     have:=bU C;rw[this]at t;simpa using Option.some.inj t
    rw[H,J];exact L A.in1 (M j _ _ nofun nofun) (by rw[in1_units];lia) E G
   have u:=SeqAt.RcAt.lists (A:=A) h.isList l.isList c () b;have v:=SeqAt.RcNeAt.lists (A:=A) h.isList l.isList c () b;have p:d.toArray.size=g.length:=by simp;lia
   have b:((List.range (min g.length k.length)).all e&&(g.length==k.length))=(List.range g.length).all e:=by rw[a];simp
   rw[p]at u v;rw[b];exact⟨u,v⟩
  ·have c:(d.toArray.size != f.toArray.size)=true:=by simp;lia
   have b:((List.range (min g.length k.length)).all e&&(g.length==k.length))=false:=by simp[a]
   rw[b];calc⟨SeqAt.RcAt.lists_lengths h.isList l.isList c (),SeqAt.RcNeAt.lists_lengths h.isList l.isList c ()⟩
theorem zb{pins:List (Addr×Obj)}{σ:St}{H:Hp}{s:Shared}(I:Inv X pins σ H s):∀(n:Nat) (A:Around) {x y:V}{u v:Value}{b:Bool},Cw X.K H n x y b->A.units+n<cLine->RelV x u->RelV y v->SeqAt.EqAt A s u v b
 |0,_,_,_,_,_,_,h,_,_,_=>h.elim
 |n+1,A,x,y,u,v,b,h,r,k,l=>by
  rcases h with⟨a,rfl,rfl,rfl⟩|⟨f,g,rfl⟩|⟨a,p,f,rfl,i,rfl⟩|⟨a,p,f,rfl,i,rfl⟩|⟨a,c,p,q,rfl,rfl,i,rfl⟩|⟨a,c,p,q,e,rfl,rfl,w,i,z,B⟩
  ·cases k;cases l;exact SeqAt.EqAt.same _
  ·exact yR k l f g
  ·cases l;rcases i with i | i
   ·obtain⟨j,m,d,o⟩:=I.tuple i
    cases x<;>first|calc absurd (show false=true from f) M'|skip
    ·cases k;exact SeqAt.EqAt.none_tuple (show s.heap.IsTuple a j.toArray from d) ()
    ·cases k;exact SeqAt.EqAt.bool_tuple _ (show s.heap.IsTuple a j.toArray from d) ()
    ·obtain⟨t,rfl⟩:=k;exact SeqAt.EqAt.int_tuple _ _ (show s.heap.IsTuple a j.toArray from d) ()
    ·obtain⟨t,rfl⟩:=k;exact SeqAt.EqAt.str_tuple _ _ (show s.heap.IsTuple a j.toArray from d) ()
   ·obtain⟨j,m,d,o⟩:=I.list i
    cases x<;>first|calc absurd (show false=true from f) M'|skip
    ·cases k;exact SeqAt.EqAt.none_list d.isList ()
    ·cases k;exact SeqAt.EqAt.bool_list _ d.isList ()
    ·obtain⟨t,rfl⟩:=k;exact SeqAt.EqAt.int_list _ _ d.isList ()
    ·obtain⟨t,rfl⟩:=k;exact SeqAt.EqAt.str_list _ _ d.isList ()
  ·cases k;rcases i with i | i
   ·obtain⟨j,m,d,o⟩:=I.tuple i
    cases y<;>first|calc absurd (show false=true from f) M'|skip
    ·cases l;exact SeqAt.EqAt.tuple_none (show s.heap.IsTuple a j.toArray from d) ()
    ·cases l;exact SeqAt.EqAt.tuple_bool _ (show s.heap.IsTuple a j.toArray from d) ()
    ·obtain⟨t,rfl⟩:=l;exact SeqAt.EqAt.tuple_int _ _ (show s.heap.IsTuple a j.toArray from d) ()
    ·obtain⟨t,rfl⟩:=l;exact SeqAt.EqAt.tuple_str _ _ (show s.heap.IsTuple a j.toArray from d) ()
   ·obtain⟨j,m,d,o⟩:=I.list i
    cases y<;>first|calc absurd (show false=true from f) M'|skip
    ·cases l;exact SeqAt.EqAt.list_none d.isList ()
    ·cases l;exact SeqAt.EqAt.list_bool _ d.isList ()
    ·obtain⟨t,rfl⟩:=l;exact SeqAt.EqAt.list_int _ _ d.isList ()
    ·obtain⟨t,rfl⟩:=l;exact SeqAt.EqAt.list_str _ _ d.isList ()
  ·cases k
   cases l;rcases i with⟨f,g⟩|⟨f,g⟩
   ·obtain⟨j,m,d,o⟩:=I.tuple f;obtain⟨r,t,h,C⟩:=I.list g;exact SeqAt.EqAt.tuple_list (show s.heap.IsTuple a j.toArray from d) h.isList ()
   ·obtain⟨j,m,d,o⟩:=I.list f;obtain⟨r,t,h,C⟩:=I.tuple g;exact SeqAt.EqAt.list_tuple d.isList (show s.heap.IsTuple c r.toArray from h) ()
  ·cases k
   cases l;calc SeqAt.EqAt.of_refs w (za I (λA {x y u v b}=>zb I n A) ⟨p,q,e,i,z,B⟩ ()).1
def Oa(K:W.Frag):R2:=λx y H Q=>∃a c b,x=.ref a/\y=.ref c/\Wn K H 19 a c b/\Q (.bl b) H
def Ob(K:W.Frag):R2:=λx y H Q=>∃a c b,x=.ref a/\y=.ref c/\Wn K H 19 a c b/\Q (.bl (!b)) H
theorem JV(i:X.A.units+64<cLine):fE X (compareOp .Eq) (Oa X.K):=by
 intro d s σ H x y v u Q I e f h;obtain⟨a,c,b,rfl,rfl,g,q⟩:=h
 cases e
 cases f;calc(za I (λA {x y u v b}=>zb I 19 A) (A:=X.A) g ()).1 X.prog X.w X.xe _ ⟨.bl b,H,I,rfl,q⟩
theorem JW(i:X.A.units+64<cLine):fE X (compareOp .NotEq) (Ob X.K):=by
 intro d s σ H x y v u Q I e f h;obtain⟨a,c,b,rfl,rfl,g,q⟩:=h
 cases e
 cases f;calc(za I (λA {x y u v b}=>zb I 19 A) (A:=X.A) g ()).2 X.prog X.w X.xe _ ⟨.bl (!b),H,I,rfl,q⟩
end
inductive sF:DV->Prop
 |bH:sF .bH
 |int (i:Int):sF (.int i)
 |str (x:Str):sF (.str x)
 |tup {ds:List DV}:(∀e∈ds,sF e)->sF (.tup ds)
 |lst {ds:List DV}:(∀e∈ds,sF e)->sF (.lst ds)
theorem Cw.mono{K:W.Frag}{H:Hp}:∀{n:Nat}{x y:V}{b:Bool},Cw K H n x y b->∀{m:Nat},n<=m->Cw K H m x y b
 |0,_,_,_,h,_,_=>h.elim
 |n+1,x,y,b,h,m,a=>by
  obtain⟨k,rfl⟩:∃k,m=k+1:=⟨m-1,()⟩
  rcases h with h|h|h|h|h|⟨a,c,b,d,e,f,g,j,k,l,m⟩
  ·exact .inl h
  ·exact .inr (.inl h)
  ·exact .inr (.inr (.inl h))
  ·exact .inr (.inr (.inr (.inl h)))
  ·exact .inr (.inr (.inr (.inr (.inl h))))
  ·calc .inr (.inr (.inr (.inr (.inr ⟨a,c,b,d,e,f,g,j,k,λi u v p q=>(l i u v p q).mono (),m⟩))))
theorem JX{H:Hp}{n:Nat}{x:V}{d:DV}(h:HD H n x d):∀{m:Nat}{d':DV},HD H m x d'->d=d':=by
 induction h with
 |bH=>intro m d' h;cases h;rfl
 |bl b=>intro m d' h;cases h;rfl
 |int i=>intro m d' h;cases h;rfl
 |str x=>intro m d' h;cases h;rfl
 | @tup n a f g e l i k=>
  intro m d' h
  cases h with
  | @tup m _ q o c r p=>
   rw[e]at c
   cases c;congr 1;apply List.ext_getElem ();intro j s t;have u:j<f.length:=by lia
   calc k j f[j] g[j] nofun nofun (p j f[j] o[j] nofun nofun)
  |lst c=>rw[e]at c;cases c
  |dict c=>rw[e]at c;cases c
 | @lst n a f g e l i k=>
  intro m d' h
  cases h with
  | @lst m _ q o c r p=>
   rw[e]at c
   cases c;congr 1;apply List.ext_getElem ();intro j s t;have u:j<f.length:=by lia
   calc k j f[j] g[j] nofun nofun (p j f[j] o[j] nofun nofun)
  |tup c=>rw[e]at c;cases c
  |dict c=>rw[e]at c;cases c
 |dict e=>
  intro m d' h
  cases h with
  |tup c=>rw[e]at c;cases c
  |lst c=>rw[e]at c;cases c
  |dict _=>rfl
theorem all_eq{a b:List DV}(f:∀(i:Nat) u v,a[i]?=some u->b[i]?=some v->e i=true->u=v)(h:((List.range (min a.length b.length)).all e&&(a.length==b.length))=true):a=b:=by
 rw[aaR]at h;obtain⟨d,c⟩:=h;have c:a.length=b.length:=by simpa using c
 apply List.ext_getElem c;intro j a b;calc f j _ _ nofun nofun ?_;rw[List.all_eq_true]at d;calc d j (by simp;lia)
theorem ub{a:List DV}(b:∀i,i<a.length->e i=true):((List.range (min a.length a.length)).all e&&(a.length==a.length))=true:=by
 simp;calc b
theorem lp{K:W.Frag}{H:Hp}{n m:Nat}{x y:V}{d d':DV}(h:HD H 0 x d)(h':HD H m y d')(a:sF d)(c:sF d')(f:fF x=true):∃b,Cw K H (n+1) x y b/\(b=true↔d=d'):=by
 cases h<;>cases h'<;>first
  |(calc⟨_,.inr (.inl ⟨rfl,rfl,rfl⟩),?_⟩;simp[Dv];done)
  |(rename_i e _ _;calc⟨false,.inr (.inr (.inl ⟨_,_,rfl,rfl,.inl (bq.of e),rfl⟩)),nofun⟩)
  |(rename_i e _ _;calc⟨false,.inr (.inr (.inl ⟨_,_,rfl,rfl,.inr (aO.of e),rfl⟩)),nofun⟩)
  |(exfalso;cases a;done)
  |(exfalso;cases c;done)
theorem Oc{K:W.Frag}{H:Hp}:∀(n:Nat) {x y:V}{d d':DV}{m:Nat},HD H n x d->HD H m y d'->sF d->sF d'->∃b,Cw K H (n+1) x y b/\(b=true↔d=d'):=by
 have A:∀{k m:Nat} {g s:List V} {t w:List DV},(∀{x y:V} {d d':DV} {m:Nat},HD H k x d->HD H m y d'->sF d->sF d'->∃b,Cw K H (k + 1) x y b/\(b=true↔d=d'))->g.length=t.length->s.length=w.length->
   (∀(i:Nat) u e,g[i]?=some u->t[i]?=some e->HD H k u e)->(∀(i:Nat) u e,s[i]?=some u->w[i]?=some e->HD H m u e)->(∀e∈t,sF e)->(∀e∈w,sF e)->
   ∃e:Nat->Bool,(∀(i:Nat) u v,g[i]?=some u->s[i]?=some v->Cw K H (k+1) u v (e i))/\(((List.range (min g.length s.length)).all e&&(g.length==s.length))=true↔t=w):=by
  intro k m g s t w G l C i D o r;have F:∀j:Nat,∃b:Bool,(∀u v,g[j]?=some u->s[j]?=some v->Cw K H (k+1) u v b)/\(∀u v,t[j]?=some u->w[j]?=some v->(b=true↔u=v)):=by
   intro j;by_cases I:j<g.length/\j<s.length
   ·obtain⟨Q,R⟩:=I;have O:j < t.length:=by lia
    have P:j<w.length:=by lia
    obtain⟨b,S,T⟩:=G (i j g[j] t[j] nofun nofun) (D j s[j] w[j] nofun nofun) (o _ (aan O)) (r _ (aan P));refine⟨b,λu v p q=>?_,λu v p q=>?_⟩
    ·rw[bU Q]at p;rw[bU R]at q;cases p;cases q;exact S
    ·rw[bU O]at p;rw[bU P]at q;cases p;cases q;exact T
   ·refine⟨true,λu v p q=>?_,λu v p q=>?_⟩
    ·exact absurd ⟨(List.getElem?_eq_some_iff.mp p).1,(List.getElem?_eq_some_iff.mp q).1⟩ I
    ·exact absurd ⟨by rw[l];calc(List.getElem?_eq_some_iff.mp p).1,by rw[C];calc(List.getElem?_eq_some_iff.mp q).1⟩ I
  obtain⟨e,J⟩:=Classical.axiomOfChoice F;refine⟨e,λi u v p q=>(J i).1 u v p q,λh=>?_,λh=>?_⟩
  ·rw[l,C]at h;exact all_eq (λi u v p q=>((J i).2 u v p q).mp) h
  ·subst h;rw[l,C];calc ub λi b=>?_;exact((J i).2 t[i] t[i] nofun nofun).mpr rfl
 intro n;induction n with
 |zero=>
  intro x y d d' m h B o r
  cases h with
  |bH=>calc lp .bH B o r rfl
  |int j=>calc lp (.int j) B o r rfl
  |str j=>calc lp (.str j) B o r rfl
  |bl _=>cases o
  |dict _=>cases o
 |succ n G=>
  intro x y d d' m h B o r;by_cases L:∃a,x=.ref a/\y=.ref a
  ·obtain⟨a,rfl,rfl⟩:=L;exact⟨true,.inl ⟨a,rfl,rfl,rfl⟩,by simp[JX h B]⟩
  cases h with
  | @tup _ a g t e l i=>
   cases o with
   |tup o=>
   cases B with
   | @tup m c s w E C D=>
    cases r with
    |tup r=>
    obtain⟨f,M,N⟩:=A G l C i D o r;calc⟨_,.inr (.inr (.inr (.inr (.inr ⟨a,c,g,s,f,rfl,rfl,λz=>L ⟨a,rfl,by rw[z]⟩,.inl ⟨bq.of e,bq.of E⟩,M,rfl⟩)))),N.trans nofun⟩
   | @lst m c s w E C D=>calc⟨false,.inr (.inr (.inr (.inr (.inl ⟨a,c,g,s,rfl,rfl,.inl ⟨bq.of e,aO.of E⟩,rfl⟩)))),nofun⟩
   |dict _=>cases r
   |bl _=>cases r
   |bH=>calc⟨false,.inr (.inr (.inr (.inl ⟨a,g,rfl,rfl,.inl (bq.of e),rfl⟩))),nofun⟩
   |int j=>calc⟨false,.inr (.inr (.inr (.inl ⟨a,g,rfl,rfl,.inl (bq.of e),rfl⟩))),nofun⟩
   |str j=>calc⟨false,.inr (.inr (.inr (.inl ⟨a,g,rfl,rfl,.inl (bq.of e),rfl⟩))),nofun⟩
  | @lst _ a g t e l i=>
   cases o with
   |lst o=>
   cases B with
   | @lst m c s w E C D=>
    cases r with
    |lst r=>
    obtain⟨f,M,N⟩:=A G l C i D o r;calc⟨_,.inr (.inr (.inr (.inr (.inr ⟨a,c,g,s,f,rfl,rfl,λz=>L ⟨a,rfl,by rw[z]⟩,.inr ⟨aO.of e,aO.of E⟩,M,rfl⟩)))),N.trans nofun⟩
   | @tup m c s w E C D=>calc⟨false,.inr (.inr (.inr (.inr (.inl ⟨a,c,g,s,rfl,rfl,.inr ⟨aO.of e,bq.of E⟩,rfl⟩)))),nofun⟩
   |dict _=>cases r
   |bl _=>cases r
   |bH=>calc⟨false,.inr (.inr (.inr (.inl ⟨a,g,rfl,rfl,.inr (aO.of e),rfl⟩))),nofun⟩
   |int j=>calc⟨false,.inr (.inr (.inr (.inl ⟨a,g,rfl,rfl,.inr (aO.of e),rfl⟩))),nofun⟩
   |str j=>calc⟨false,.inr (.inr (.inr (.inl ⟨a,g,rfl,rfl,.inr (aO.of e),rfl⟩))),nofun⟩
  |dict _=>cases o
  |bl _=>cases o
  |bH=>calc(lp (n:=n+1) .bH B o r rfl)
  |int j=>calc(lp (n:=n+1) (.int j) B o r rfl)
  |str j=>calc(lp (n:=n+1) (.str j) B o r rfl)
end L2
namespace L2
open PySem
variable {H:Hp}{σ:St}
theorem bz{t u:TS}{D:Ends}(h:∀N:St->Hp->Prop,N=u D->t {D with nx:=N} σ H):BW t u D σ H:=h _ rfl
theorem jD{c:TT}{t u:TS}{D:Ends}(h:∀T U:St->Hp->Prop,T=t D->U=u D->c σ H λb a=>if b=true then T σ a else U σ a):BX c t u D σ H:=h _ _ rfl rfl
theorem Od{i:Nat}{v:V}{Q:St->Hp->Prop}(h:Q (σ.set i (some v)) H):fC i v σ H Q:=h
theorem ba{N M:St->Hp->Prop}(e:N=M)(h:M σ H):N σ H:=e▸h
end L2
namespace DD
open PySem L2
variable {x:Addr}{Z:Addr->Prop}{H H':Hp}{vs:List V}
structure MD where
 M:Int
 ns:List Int
 row:List Int
 ds:List bf
structure Good(M:Int)(ns row:List Int)(ds:List bf):Prop where
 m2:2<=M
 Yf:M<=1000000000000
 l1:1<=ns.length
 l4:ns.length<=4
 r12:row.length<=12
 bn:∀z∈ns,0<=z/\z<M
 br:∀z∈row,0<=z/\z<M
 Wo:ds.length<=24
 ok:∀d∈ds,d.ok ns.length
abbrev MD.good(d:MD):Prop:=Good d.M d.ns d.row d.ds
instance:Inhabited MD:=⟨⟨0,[],[],[]⟩⟩
noncomputable def iI (Z:Addr->Prop) (H:Hp):Hp:=λx=> @ite _ (Z x) (Classical.propDecidable _) (some (.own 0)) (H x)
theorem gr(h:¬Z x):iI Z H x=H x:=by unfold iI;rw[if_neg h]
theorem zc(h:Z x):iI Z H x=some (.own 0):=by unfold iI;rw[if_pos h]
theorem dz{o:HO}(h:iI Z H x=some o)(b:∀k,o≠.own k):¬Z x/\H x=some o:=by
 by_cases a:Z x
 ·rw[zc a]at h;cases h;exact absurd rfl (b 0)
 ·rw[gr a]at h;calc⟨a,h⟩
theorem JZ{o:HO}(h:Z x):iI Z (upd H x o)=iI Z H:=by
 funext b;by_cases a:Z b
 ·rw[zc a,zc a]
 ·rw[gr a,gr a,ax (λe:b=x=>a (e▸h))]
def Cv(H H':Hp):Prop:=∀b o,H b=some o->(∀k,o≠.own k)->H' b=some o
theorem _root_.L2.aq.cv(s:aq H H'):Cv H H':=λb o e _=>s b o e
def soft:HO->Prop
 | .lst _=>True
 | .dK _=>True
 |_=>False
def Fr(Z:Addr->Prop)(H H':Hp):Prop:=∀b o,H b=some o->(Z b->¬soft o)->H' b=some o
theorem Fr.refl:Fr Z H H:=λ_ _ e _=>e
theorem Fr.trans{c d:Hp}(a:Fr Z H c)(b:Fr Z c d):Fr Z H d:=λc o e n=>b c o (a c o e n) n
theorem _root_.L2.aq.fr(s:aq H H'):Fr Z H H':=λb o e _=>s b o e
theorem Fr.at(a:Fr Z H H'){b:Addr}{o:HO}(e:H b=some o)(h:¬Z b):H' b=some o:=a b o e λz=>absurd z h
theorem Fr.lH(a:Fr Z H H'){b:Addr}{o:HO}(e:H b=some o)(h:¬soft o):H' b=some o:=a b o e λ_=>h
theorem Fr.upd{b:Hp}(a:Fr Z H b){x:Addr}{o u:HO}(h:Z x)(f:b x=some u)(g:soft u):Fr Z H (upd b x o):=λc v e n=>by
 by_cases z:c=x
 ·subst z;have d:=a c v e n;rw[f] at d
  cases d;exact absurd g (n h)
 ·rw[ax z];calc a c v e n
theorem Fr.mono{c:Addr->Prop}{d:Hp}(a:Fr Z H d)(h:∀b,Z b->c b):Fr c H d:=λc o e n=>a c o e λz=>n (h c z)
theorem Fr.aJ(h:Fr Z H H'):bP H H':=λb a e=>h b _ e λ_=>id
theorem Fr.iI(h:Fr Z H H'):Cv (iI Z H) (iI Z H'):=λb o e n=>by
 obtain⟨a,b⟩:=dz e n;rw[gr a];calc h.at b a
theorem dZ:Cv (iI Z H) H:=λb o e n=>(dz e n).2
theorem Cv.aJ(h:Cv H H'):bP H H':=λb a e=>h b _ e (λk z=>by cases z)
theorem _root_.L2.HD.cv{H H':Hp}(s:Cv H H'){n:Nat}{x:V}{d:DV}(h:HD H n x d):HD H' n x d:=by
 induction h with
 |bH=>calc .bH
 |bl b=>calc .bl b
 |int i=>calc .int i
 |str x=>calc .str x
 |tup e l i a=>calc .tup (s _ _ e (λk z=>by cases z)) l a
 |lst e l i a=>calc .lst (s _ _ e (λk z=>by cases z)) l a
 |dict e=>calc .dict (s _ _ e (λk z=>by cases z))
def eL(H:Hp)(n:Nat)(vs:List V)(a:List DV):Prop:=vs.length=a.length/\∀(i:Nat) v d,vs[i]?=some v->a[i]?=some d->HD H n v d
theorem eL.cv(s:Cv H H'){n:Nat}{vs:List V}{a:List DV}(h:eL H n vs a):eL H' n vs a:=⟨h.1,λi v d a b=>(h.2 i v d a b).cv s⟩
theorem eL.nil{n:Nat}:eL H n [] []:=⟨rfl,λi v d a=>by simp at a⟩
theorem eL.app{n:Nat}{us:List V}{a b:List DV}(h:eL H n vs a)(g:eL H n us b):eL H n (vs++us) (a++b):=by
 calc⟨by simp[h.1,g.1],λi v d a b=>?_⟩;by_cases c:i<vs.length
 ·rw[W' c]at a;rw[W' (by rw[<-h.1];calc c)]at b;exact h.2 i _ _ a b
 ·rw[P' ()]at a;rw[P' (by rw[<-h.1];lia),<-h.1]at b;calc g.2 _ _ _ a b
theorem eL.one{H:Hp}{n:Nat}{v:V}{d:DV}(h:HD H n v d):eL H n [v] [d]:=by
 refine⟨rfl,λi u e a b=>?_⟩
 cases i with
 |zero=>simp at a b;subst a b;calc h
 |succ i=>simp at a
theorem eL.set{n:Nat}{c:List DV}{v:V}{d:DV}(h:eL H n vs c)(g:HD H n v d)(k:Nat):eL H n (vs.set k v) (c.set k d):=by
 calc⟨by simp[h.1],λi u e a b=>?_⟩;rw[List.getElem?_set]at a b;by_cases f:k=i
 ·rw[if_pos f] at a b;split at a
  ·rw[if_pos (by rw[<-h.1];assumption)]at b;cases a;cases b;exact g
  ·cases a
 ·rw[if_neg f]at a b;calc h.2 i u e a b
theorem eL.ints{H:Hp}{n:Nat}(ns:List Int):eL H n (ns.map V.int) (ns.map DV.int):=by
 calc⟨nofun,λi v d a b=>?_⟩;rw[A']at a b
 cases c:ns[i]? with
 |none=>rw[c]at a;cases a
 |some z=>rw[c]at a b;cases a;cases b;calc .int z
theorem eL.qY{n:Nat}{ns:List Int}(h:eL H n vs (ns.map DV.int)):vs=ns.map V.int:=by
 apply List.ext_getElem (by simpa using h.1);intro j c a;have b:j<ns.length:=by simpa using a
 have:=h.2 j vs[j] (.int ns[j]) nofun (by simp[b]);simp only[List.getElem_map];generalize vs[j]=y at this
 cases this;rfl
theorem eL.get{n:Nat}{a:List DV}(h:eL H n vs a){i:Nat}{d:DV}(e:a[i]?=some d):∃v,vs[i]?=some v/\HD H n v d:=by
 have b:i<a.length:=(List.getElem?_eq_some_iff.mp e).1;have a:i<vs.length:=by rw[h.1];exact b
 calc⟨vs[i],nofun,h.2 i _ _ nofun e⟩
inductive CO where
 |l (ds:List DV)|d (g:Int->Option DV) (n:Nat)
def OR(H:Hp):CO->HO->Prop
 | .l a,.lst vs=>eL H 4 vs a
 | .d g n,.dK a=>a.length<=n/\∀k:Int,match g k with
  |none=>gn a (Sum.inl k)=none
  |some d=>∃v,gn a (Sum.inl k)=some v/\HD H 4 v d
 |_,_=>False
theorem OR.cv{H H':Hp}(s:Cv H H'){c:CO}{o:HO}(h:OR H c o):OR H' c o:=by
 cases c with
 |l a=>
  cases o with
  |lst vs=>calc eL.cv s h
  |_=>calc aa2 h
 |d g n=>
  cases o with
  |dK a=>
   calc⟨h.1,λk=>?_⟩;have:=h.2 k;revert this
   cases g k with
   |none=>calc id
   |some d=>calc λ⟨v,e,a⟩=>⟨v,e,a.cv s⟩
  |_=>calc aa2 h
def FP(n:Nat->Nat)(ad:Nat->Nat->Addr)(b:Addr):Prop:=∃t i,i<n t/\b=ad t i
structure dQ(F:Addr->Prop)(H:Hp)(n:Nat->Nat)(ad:Nat->Nat->Addr)(ct:Nat->Nat->CO):Prop where
 inj:∀t i t' i',i<n t->i'<n t'->ad t i=ad t' i'->t=t'/\i=i'
 out:∀t i,i<n t->¬F (ad t i)
 Fv:∀t i,i<n t->∃o,H (ad t i)=some o/\OR (iI (λb=>F b\/FP n ad b) H) (ct t i) o
def setC(ct:Nat->Nat->CO)(t i:Nat)(c:CO):Nat->Nat->CO:=λt' a=>if t'=t/\a=i then c else ct t' a
section
variable {F:Addr->Prop}{H H':Hp}{n:Nat->Nat}{ad:Nat->Nat->Addr}{ct ct':Nat->Nat->CO}
theorem dQ.keep(h:dQ F H n ad ct)(a:Fr F H H'):dQ F H' n ad ct:=
 ⟨h.inj,h.out,λt i c=>by
  obtain⟨o,e,r⟩:=h.Fv t i c;calc⟨o,a.at e (h.out t i c),r.cv (a.mono λb z=>.inl z).iI⟩⟩
theorem dQ.same(h:dQ F H n ad ct)(s:aq H H'):dQ F H' n ad ct:=h.keep s.fr
theorem dQ.congr(h:dQ F H n ad ct)(e:∀t i,i<n t->ct t i=ct' t i):dQ F H n ad ct':=
 ⟨h.inj,h.out,λt i a=>by rw[<-e t i a];calc h.Fv t i a⟩
theorem dQ.upd(h:dQ F H n ad ct){t i:Nat}(a:i<n t){c:CO}{o:HO}(r:OR (iI (λb=>F b\/FP n ad b) H) c o):dQ F (upd H (ad t i) o) n ad (setC ct t i c):=by
 have c:(λb=>F b\/FP n ad b) (ad t i):=.inr ⟨t,i,a,rfl⟩;calc⟨h.inj,h.out,λd f g=>?_⟩;rw[JZ c];by_cases e:d=t/\f=i
 ·obtain⟨rfl,rfl⟩:=e;exact⟨o,ab,by unfold setC;rw[if_pos ⟨rfl,rfl⟩];calc r⟩
 ·obtain⟨b,c,i⟩:=h.Fv d f g;calc⟨b,?_,by unfold setC;rw[if_neg e];calc i⟩;rw[ax (λz=>e (h.inj _ _ _ _ g a z))];calc c
theorem dQ.lst(h:dQ F H n ad ct){t i:Nat}(c:i<n t){a:List DV}(e:ct t i=.l a):∃vs,H (ad t i)=some (.lst vs)/\eL (iI (λb=>F b\/FP n ad b) H) 4 vs a:=by
 obtain⟨o,d,r⟩:=h.Fv t i c;rw[e]at r
 cases o with
 |lst vs=>calc⟨vs,d,r⟩
 |_=>calc r.elim
theorem dQ.dct(h:dQ F H n ad ct){t i:Nat}(c:i<n t){g:Int->Option DV}{N:Nat}(e:ct t i=.d g N):∃a,H (ad t i)=some (.dK a)/\OR (iI (λb=>F b\/FP n ad b) H) (.d g N) (.dK a):=by
 obtain⟨o,f,r⟩:=h.Fv t i c;rw[e]at r
 cases o with
 |dK vs=>calc⟨vs,f,r⟩
 |_=>calc r.elim
theorem dQ.app(h:dQ F H n ad ct){t i:Nat}(a:i<n t){c:List DV}(e:ct t i=.l c){vs:List V}(j:H (ad t i)=some (.lst vs)){us:List V}{d:List DV}(g:eL (iI (λb=>F b\/FP n ad b) H) 4 us d):
  dQ F (L2.upd H (ad t i) (.lst (vs++us))) n ad (setC ct t i (.l (c++d))):=by
 obtain⟨b,f,r⟩:=h.lst a e;rw[j]at f
 cases f;calc h.upd a (show eL _ 4 _ _ from r.app g)
theorem dQ.set(h:dQ F H n ad ct){t i:Nat}(a:i<n t){c:List DV}(e:ct t i=.l c){vs:List V}(j:H (ad t i)=some (.lst vs)){k:Nat}{v:V}{d:DV}(g:HD (iI (λb=>F b\/FP n ad b) H) 4 v d):
  dQ F (L2.upd H (ad t i) (.lst (vs.set k v))) n ad (setC ct t i (.l (c.set k d))):=by
 obtain⟨b,f,r⟩:=h.lst a e;rw[j]at f
 cases f;calc h.upd a (show eL _ 4 _ _ from r.set g k)
theorem OR.soft{c:CO}{o:HO}(h:OR H c o):soft o:=by
 cases c<;>cases o<;>first|trivial|calc aa2 h
theorem dQ.soft(h:dQ F H n ad ct){t i:Nat}(a:i<n t):∃o,H (ad t i)=some o/\DD.soft o:=by
 obtain⟨o,e,r⟩:=h.Fv t i a;calc⟨o,e,r.soft⟩
theorem dQ.fp(h:dQ F H n ad ct){b:Addr}(a:FP n ad b):∃o,H b=some o/\DD.soft o:=by
 obtain⟨t,i,c,rfl⟩:=a;calc h.soft c
theorem dQ.ne(h:dQ F H n ad ct){b:Addr}{o:HO}(e:H b=some o)(c:¬DD.soft o):¬FP n ad b:=λz=>by
 obtain⟨u,a,d⟩:=h.fp z;rw[e]at a;cases a;calc c d
theorem dQ.ht(h:dQ F H n ad ct)(c:∀b,F b->∃o,H b=some o/\DD.soft o){m:Nat}{x:V}{d:DV}(g:HT H m x d):HD (DD.iI (λb=>F b\/FP n ad b) H) m x d:=by
 calc HT.hd (g.aA λb d e=>?_);rw[gr]
 ·exact e
 ·rintro(z | z)
  ·obtain⟨o,a,f⟩:=c b z;rw[e]at a;cases a;exact f
  ·calc h.ne e id z
end
end DD
namespace DD
open PySem L2
variable {B i:Nat}
def _root_.List.bA{α:Type}(l:List α)(d:α):α:=l.getD (l.length-1) d
theorem getD_at{α:Type}{l:List α}{x d:α}(h:l[i]?=some x):l.getD i d=x:=by rw[aas,h];rfl
theorem bc{α:Type}{l:List α}{d:α}(h:i<l.length):l[i]?=some (l.getD i d):=by rw[aas,bU h];rfl
theorem getD_mem{α:Type}{l:List α}{d:α}(h:i<l.length):l.getD i d∈l:=aai (bc h)
theorem qZ{α:Type}{l:List α}{x d:α}:(l++[x]).bA d=x:=by
 unfold List.bA;calc getD_at nofun
theorem gJ{α:Type}{l:List α}{d:α}(h:1<=l.length):l.bA d∈l:=getD_mem ()
theorem nr{α:Type}{l:List α}{d:α}(h:1<=l.length):l[l.length-1]?=some (l.bA d):=bc ()
structure MS where
 fe:List (List Int×List Int)
 wp:List (List Int)
 hr:List (List Int)
structure WY where
 say:List Int
 snd:List (Option (Int×Int))
 da:List (Option (Int×Int))
structure RS where
 picks:List (Int×Int)
 mm:Nat->MS
 ww:Nat->WY
structure NT where
 ms:List MD
 ws:List (Int×Int×Str)
def pairD(p:Int×Int):DV:=.tup [.int p.1,.int p.2]
def sJ:Option (Int×Int)->DV
 |none=>.bH
 |some p=>pairD p
def q5(s:List Int×List Int):DV:=wQ s.1 s.2
def NT.M(n:NT)(m:Nat):Int:=(n.ms.getD m default).M
def NT.nn(n:NT)(m:Nat):Nat:=(n.ms.getD m default).ns.length
def NT.ds(n:NT)(m:Nat):List bf:=(n.ms.getD m default).ds
def NT.w(n:NT)(w:Nat):Int×Int×Str:=n.ws.getD w (0,0,"")
def NT.outs(n:NT)(m:Int):List Nat:=(List.range n.ws.length).filter λi=>decide ((n.w i).1=m)
def NT.ins(n:NT)(m:Int):List Nat:=(List.range n.ws.length).filter λi=>decide ((n.w i).2.1=m)
def NT.goal(n:NT)(w:Nat):Nat:=(n.w w).2.1.toNat
def NT.place(n:NT)(w:Nat):Nat:=(n.ins (n.w w).2.1).idxOf w
def RS.put(r:RS)(w:Nat)(x:Int)(s:Option (Int×Int)):RS:=
 {r with ww:=λk=>if k=w then⟨(r.ww w).say++[x],(r.ww w).snd++[s],(r.ww w).da++[none]⟩ else r.ww k}
def RS.send(r:RS)(outs:List Nat)(ev:Int×Int):List (Int×Int)->RS
 | []=>r
 |p::a=>(if p.1.toNat<outs.length then r.put (outs.getD p.1.toNat 0) p.2 (some ev) else r).send outs ev a
def NT.work(n:NT)(r:RS)(w k:Nat):WS:=
 nj (n.M (n.goal w)) (n.place w) ((r.ww w).say.getD k 0) (n.ds (n.goal w)) ((r.mm (n.goal w)).fe.bA ([],[])).1 ((r.mm (n.goal w)).fe.bA ([],[])).2
def NT.ev(n:NT)(r:RS)(w:Nat):Int×Int:=((n.goal w:Nat),((r.mm (n.goal w)).fe.length:Nat))
def NT.cY(n:NT)(r:RS)(w k:Nat):List Int:=
 let m:=n.goal w
 let a:=(r.mm m).hr.bA (List.replicate n.ms.length 0)
 let b:=match (r.ww w).snd.getD k none with
  |none=>a
  |some (s,c)=>List.zipWith max a ((r.mm s.toNat).hr.getD (c-1).toNat [])
 b.set m (n.ev r w).2
def RS.step(n:NT)(r:RS)(w k:Nat):RS:=
 let m:=n.goal w
 let res:=n.work r w k
 {picks:=r.picks++[((w:Int),(k:Int))]
  mm:=λi=>if i=m then⟨(r.mm m).fe++[(res.ns,res.row)],(r.mm m).wp++[(r.mm m).wp.bA []++res.words],(r.mm m).hr++[n.cY r w k]⟩ else r.mm i
  ww:=λi=>if i=w then {(r.ww w) with da:=(r.ww w).da.set k (some (n.ev r w))} else r.ww i}
def RS.pick(n:NT)(r:RS)(w k:Nat):RS:=(r.step n w k).send (n.outs (n.goal w)) (n.ev r w) (n.work r w k).cu
def RS.ip(r:RS):List (Int×Int)->RS
 | []=>r
 |p::a=>(r.put p.1.toNat p.2 none).ip a
def RS.new(n:NT):RS:=⟨[],λm=>⟨[((n.ms.getD m default).ns,(n.ms.getD m default).row)],[[]],[]⟩,λ_=>⟨[],[],[]⟩⟩
def RS.begin(n:NT)(ls:List (Int×Int)):RS:=(RS.new n).ip ls
def kn(l:List (Option (Int×Int)))(k:Int):Option DV:=if 0<=k then(l.getD k.toNat none).map pairD else none
def RS.ct(r:RS):Nat->Nat->CO
 |0,_=>.l (r.picks.map pairD)
 |1,m=>.l ((r.mm m).fe.map q5)
 |2,m=>.l ((r.mm m).wp.map λw=>.int (w.length:Nat))
 |3,m=>.l (((r.mm m).wp.bA []).map .int)
 |4,w=>.l ((r.ww w).say.map .int)
 |5,w=>.l ((r.ww w).snd.map sJ)
 |_,w=>.l ((r.ww w).da.map sJ)
def NT.n(n:NT):Nat->Nat
 |0=>1
 |1=>n.ms.length
 |2=>n.ms.length
 |3=>n.ms.length
 |4=>n.ws.length
 |5=>n.ws.length
 |6=>n.ws.length
 |_=>0
structure NT.Ok(n:NT):Prop where
 Qp:n.ms.length<=5
 ms1:1<=n.ms.length
 Cz:n.ws.length<=10
 good:∀d∈n.ms,d.good
 Yh:∀w∈n.ws,0<=w.1/\w.1<n.ms.length/\0<=w.2.1/\w.2.1<n.ms.length/\(w.2.2="row"\/w.2.2="heap")
structure J0(M:Int)(nn:Nat)(s:List Int×List Int):Prop where
 ln:s.1.length=nn
 bn:∀z∈s.1,0<=z/\z<M
 lr:s.2.length<=12
structure RS.Ok(n:NT)(r:RS):Prop where
 lw:∀m,m<n.ms.length->(r.mm m).fe.length=(r.mm m).wp.length
 lh:∀m,m<n.ms.length->(r.mm m).fe.length=(r.mm m).hr.length+1
 so:∀m,m<n.ms.length->∀s∈(r.mm m).fe,J0 (n.M m) (n.nn m) s
 hl:∀m,m<n.ms.length->∀h∈(r.mm m).hr,h.length=n.ms.length
 ls:∀w,w<n.ws.length->(r.ww w).say.length=(r.ww w).snd.length
 lk:∀w,w<n.ws.length->(r.ww w).say.length=(r.ww w).da.length
 sd:∀w,w<n.ws.length->∀s c,some (s,c)∈(r.ww w).snd->0<=s/\s<n.ms.length/\1<=c/\c<=(r.mm s.toNat).hr.length
 bp:∀m,m<n.ms.length->(r.mm m).fe.length<=r.picks.length+1
 bw:∀m,m<n.ms.length->∀w∈(r.mm m).wp,w.length<=24*r.picks.length
 bs:∀w,w<n.ws.length->(r.ww w).say.length<=20+24*r.picks.length
 Sv:∀m,m<n.ms.length->∀u∈(r.mm m).wp,u <+:(r.mm m).wp.bA []
theorem wW{M way said:Int}{n:Int}:∀(f:Nat) (b:List bf) (s:WS),(∀d∈b,d.ok n)->(∀p∈s.cu,0<=p.1)->∀p∈(wR M way said f b s).cu,0<=p.1
 |0,_,s,_,h=>h
 |f+1,[],s,_,h=>h
 |f+1,d::r,s,c,h=>by
  calc wW f _ _ (λe b=>c e (aao _ (List.mem_of_mem_drop b))) ?_;intro p a;have a:p∈s.cu++gN ((d.vals.map (fu M way said s.ns s.row)).getD 0 0) d:=a;rcases List.mem_append.mp a with a|a
  ·exact h p a
  ·have g:=c d (aaE ..)
   cases d with
   |send j v=>
    simp only[gN,List.mem_singleton]at a;subst a;calc g.1
   |_=>simp only[gN,List.not_mem_nil]at a
theorem AH{M way said:Int}:∀(f:Nat) (a:List bf) (s:WS),(wR M way said f a s).cu.length<=s.cu.length+a.length/\(wR M way said f a s).words.length<=s.words.length+a.length/\(wR M way said f a s).ns.length=s.ns.length
 |0,_,s=>⟨Nat.le_add_right ..,Nat.le_add_right ..,rfl⟩
 |f+1,[],s=>⟨J' _,J' _,rfl⟩
 |f+1,d::r,s=>by
  obtain⟨a,b,c⟩:=AH (M:=M) (way:=way) (said:=said) f (r.drop (lS M way said d s).toNat) (j2 M way said d s);have a:(j2 M way said d s).cu.length<=s.cu.length+1:=by
   show(s.cu++gN _ d).length<=_
   cases d<;>simp[gN]
  have a:(j2 M way said d s).words.length<=s.words.length+1:=by
   show(s.words++fK _ d).length<=_
   cases d<;>simp[fK]
  have a:(j2 M way said d s).ns.length=s.ns.length:=ou;have a:(r.drop (lS M way said d s).toNat).length<=r.length:=by simp
  refine⟨?_,?_,?_⟩
  ·show(wR M way said f _ _).cu.length<=_;simp only[List.length_cons];lia
  ·show(wR M way said f _ _).words.length<=_;simp only[List.length_cons];lia
  ·show(wR M way said f _ _).ns.length=_;lia
theorem AI{M way said:Int}(c:0<M):∀(f:Nat) (e:List bf) (s:WS),(∀z∈s.ns,0<=z/\z<M)->s.row.length<=12->(∀z∈(wR M way said f e s).ns,0<=z/\z<M)/\(wR M way said f e s).row.length<=12
 |0,_,s,h,g=>⟨h,g⟩
 |f+1,[],s,h,g=>⟨h,g⟩
 |f+1,d::r,s,h,g=>by
  refine AI c f _ _ ?_ ?_
  ·have b:∀y:Int,0<=y % M/\y % M < M:=λy=>⟨aa4 _ (),aaQ _ c⟩
   have a:∀(j:Nat) (y:Int),(0<=y/\y<M)->∀z∈s.ns.set j y,0<=z/\z<M:=λj y k z l=>by
    rcases List.mem_or_eq_of_mem_set l with c|c
    ·exact h z c
    ·rw[c];exact k
   show ∀z∈jl M s.ns ((d.vals.map (fu M way said s.ns s.row)).getD 0 0) d,0<=z/\z<M
   cases d with
   |set i v=>calc a _ _ (b _)
   |add i v=>calc a _ _ (b _)
   |times i v=>calc a _ _ (b _)
   |_=>exact h
  ·show(nh s.row ((d.vals.map (fu M way said s.ns s.row)).getD 0 0) d).length<=12
   cases d with
   |put v=>
    simp only[nh];split
    ·simp;lia
    ·calc g
   |drop=>simp only[nh,List.length_tail];lia
   |_=>calc g
section
variable {n:NT}{r:RS}
theorem NT.Ok.gd(h:n.Ok){m:Nat}(a:m<n.ms.length):(n.ms.getD m default).good:=by
 calc h.good _ (getD_mem a)
theorem NT.Ok.wy(h:n.Ok){w:Nat}(a:w<n.ws.length):0<=(n.w w).1/\(n.w w).1<n.ms.length/\0<=(n.w w).2.1/\(n.w w).2.1<n.ms.length/\((n.w w).2.2="row"\/(n.w w).2.2="heap"):=by
 calc h.Yh _ (getD_mem a)
theorem NT.Ok.ei(h:n.Ok){w:Nat}(a:w<n.ws.length):n.goal w<n.ms.length:=by
 have:=h.wy a;unfold NT.goal;lia
theorem RS.Ok.wX(h:r.Ok n){m:Nat}(a:m<n.ms.length):1<=(r.mm m).fe.length:=by rw[h.lh m a];lia
theorem RS.Ok.last(h:r.Ok n){m:Nat}(a:m<n.ms.length):J0 (n.M m) (n.nn m) ((r.mm m).fe.bA ([],[])):=h.so m a _ (gJ (h.wX a))
theorem qi(a:n.Ok)(h:r.Ok n){w:Nat}(c:w<n.ws.length)(k:Nat):J0 (n.M (n.goal w)) (n.nn (n.goal w)) ((n.work r w k).ns,(n.work r w k).row)/\(n.work r w k).cu.length<=24/\(n.work r w k).words.length<=24/\∀p∈(n.work r w k).cu,0<=p.1:=by
 have b:=a.ei c;have g:=a.gd b;have l:=h.last b;have a:(n.ds (n.goal w)).length<=24:=g.Wo;have b:0<n.M (n.goal w):=by have:=g.m2;show 0<(n.ms.getD (n.goal w) default).M;lia
 obtain⟨d,e,f⟩:=AH (M:=n.M (n.goal w)) (way:=n.place w) (said:=(r.ww w).say.getD k 0) (n.ds (n.goal w)).length (n.ds (n.goal w)) ⟨((r.mm (n.goal w)).fe.bA ([],[])).1,((r.mm (n.goal w)).fe.bA ([],[])).2,[],[]⟩;obtain⟨h,i⟩:=AI b (way:=n.place w) (said:=(r.ww w).say.getD k 0) (n.ds (n.goal w)).length (n.ds (n.goal w)) ⟨((r.mm (n.goal w)).fe.bA ([],[])).1,((r.mm (n.goal w)).fe.bA ([],[])).2,[],[]⟩ l.bn l.lr;have c:=wW (M:=n.M (n.goal w)) (way:=n.place w) (said:=(r.ww w).say.getD k 0) (n:=n.nn (n.goal w)) (n.ds (n.goal w)).length (n.ds (n.goal w)) ⟨((r.mm (n.goal w)).fe.bA ([],[])).1,((r.mm (n.goal w)).fe.bA ([],[])).2,[],[]⟩ g.ok (λp b=>by simp at b);refine⟨⟨?_,h,i⟩,?_,?_,c⟩
 ·exact f.trans l.ln
 ·exact aaB d (by simpa using a)
 ·calc aaB e (by simpa using a)
structure RS.r8(n:NT)(r:RS)(B:Nat):Prop where
 lw:∀m,m<n.ms.length->(r.mm m).fe.length=(r.mm m).wp.length
 lh:∀m,m<n.ms.length->(r.mm m).fe.length=(r.mm m).hr.length+1
 so:∀m,m<n.ms.length->∀s∈(r.mm m).fe,J0 (n.M m) (n.nn m) s
 hl:∀m,m<n.ms.length->∀h∈(r.mm m).hr,h.length=n.ms.length
 ls:∀w,w<n.ws.length->(r.ww w).say.length=(r.ww w).snd.length
 lk:∀w,w<n.ws.length->(r.ww w).say.length=(r.ww w).da.length
 sd:∀w,w<n.ws.length->∀s c,some (s,c)∈(r.ww w).snd->0<=s/\s<n.ms.length/\1<=c/\c<=(r.mm s.toNat).hr.length
 bp:∀m,m<n.ms.length->(r.mm m).fe.length<=r.picks.length+1
 bw:∀m,m<n.ms.length->∀w∈(r.mm m).wp,w.length<=24*r.picks.length
 bs:∀w,w<n.ws.length->(r.ww w).say.length<=B
 Sv:∀m,m<n.ms.length->∀u∈(r.mm m).wp,u <+:(r.mm m).wp.bA []
theorem RS.r8.ok(h:r.r8 n B)(a:B<=20+24*r.picks.length):r.Ok n:=⟨h.lw,h.lh,h.so,h.hl,h.ls,h.lk,h.sd,h.bp,h.bw,λw b=>aaB (h.bs w b) a,h.Sv⟩
theorem RS.r8.put(h:r.r8 n B){w:Nat}{x:Int}{s:Option (Int×Int)}(g:∀a c,s=some (a,c)->0<=a/\a<n.ms.length/\1<=c/\c<=(r.mm a.toNat).hr.length):(r.put w x s).r8 n (B+1):=by
 have e:∀k,(r.put w x s).ww k=if k=w then⟨(r.ww w).say++[x],(r.ww w).snd++[s],(r.ww w).da++[none]⟩ else r.ww k:=λk=>rfl
 refine⟨h.lw,h.lh,h.so,h.hl,λv b=>?_,λv b=>?_,λv b a c d=>?_,h.bp,h.bw,λv b=>?_,h.Sv⟩
 ·rw[e];split
  ·next z=>subst z;simp[h.ls v b]
  ·exact h.ls v b
 ·rw[e];split
  ·next z=>subst z;simp[h.lk v b]
  ·exact h.lk v b
 ·rw[e] at d;split at d
  ·next z=>
   subst z;rcases List.mem_append.mp d with d|d
   ·exact h.sd v b a c d
   ·simp at d;exact g a c d.symm
  ·exact h.sd v b a c d
 ·rw[e];split
  ·next z=>subst z;have:=h.bs v b;simp;lia
  ·have:=h.bs v b;lia
theorem RS.r8.mono{a:Nat}(h:r.r8 n B)(b:B<=a):r.r8 n a:={h with bs:=λw a=>aaB (h.bs w a) b}
theorem RS.r8.send{outs:List Nat}{ev:Int×Int}:∀(b:List (Int×Int)) {r:RS}{B:Nat},r.r8 n B->(∀a c,some ev=some (a,c)->0<=a/\a<n.ms.length/\1<=c/\c<=(r.mm a.toNat).hr.length)->(r.send outs ev b).r8 n (B+b.length)
 | [],r,B,h,_=>h
 |p::b,r,B,h,d=>by
  show((if p.1.toNat<outs.length then r.put (outs.getD p.1.toNat 0) p.2 (some ev) else r).send outs ev b).r8 n _;have e:B+(p::b).length=B+1+b.length:=by simp;lia
  rw[e];split
  ·exact RS.r8.send b (h.put d) d
  ·calc RS.r8.send b (h.mono ()) d
theorem RS.lu{outs:List Nat}{ev:Int×Int}:∀(a:List (Int×Int)) {r:RS},(r.send outs ev a).mm=r.mm/\(r.send outs ev a).picks=r.picks
 | [],r=>⟨rfl,rfl⟩
 |p::a,r=>by
  show((if p.1.toNat<outs.length then r.put (outs.getD p.1.toNat 0) p.2 (some ev) else r).send outs ev a).mm=_/\((if p.1.toNat<outs.length then r.put (outs.getD p.1.toNat 0) p.2 (some ev) else r).send outs ev a).picks=_;split
  ·exact RS.lu a
  ·calc RS.lu a
theorem zd{u v w:List Int}(h:u <+:v):u <+:v++w:=by
 obtain⟨t,rfl⟩:=h;calc⟨t++w,nofun⟩
theorem wY(o:n.Ok)(h:r.Ok n){w:Nat}(j:w<n.ws.length){k:Nat}:(n.cY r w k).length=n.ms.length:=by
 have p:=o.ei j;have m:((r.mm (n.goal w)).hr.bA (List.replicate n.ms.length 0)).length=n.ms.length:=by
  by_cases f:1<=(r.mm (n.goal w)).hr.length
  ·exact h.hl _ p _ (gJ f)
  ·have e:(r.mm (n.goal w)).hr=[]:=by
    cases q:(r.mm (n.goal w)).hr with
    |nil=>rfl
    |cons a b=>rw[q]at f;simp at f
   rw[e];simp[List.bA]
 unfold NT.cY;simp only[List.length_set];split
 ·exact m
 ·next s c e=>
  have g:k<(r.ww w).snd.length:=by
   by_cases g:k<(r.ww w).snd.length
   ·exact g
   ·rw[aas,List.getElem?_eq_none ()]at e;cases e
  have t:some (s,c)∈(r.ww w).snd:=by rw[<-e];exact getD_mem g
  obtain⟨u,v,x,y⟩:=h.sd w j s c t;have:=h.hl s.toNat () _ (getD_mem (l:=(r.mm s.toNat).hr) (i:=(c-1).toNat) (d:=[]) ());rw[List.length_zipWith,m,this];lia
theorem RS.Ok.step(t:n.Ok)(h:r.Ok n){w k:Nat}(p:w<n.ws.length):(r.step n w k).r8 n (20+24*r.picks.length):=by
 have g:=t.ei p;obtain⟨A,F,G,H⟩:=qi t h p k;have j:∀i,(r.step n w k).mm i=if i=n.goal w then⟨(r.mm (n.goal w)).fe++[((n.work r w k).ns,(n.work r w k).row)],(r.mm (n.goal w)).wp++[(r.mm (n.goal w)).wp.bA []++(n.work r w k).words],(r.mm (n.goal w)).hr++[n.cY r w k]⟩ else r.mm i:=λi=>rfl
 have q:∀i,(r.step n w k).ww i=if i=w then {(r.ww w) with da:=(r.ww w).da.set k (some (n.ev r w))} else r.ww i:=λi=>rfl
 have x:(r.step n w k).picks.length=r.picks.length+1:=by show(r.picks++[_]).length=_;simp
 refine⟨λm f=>?_,λm f=>?_,λm f s b=>?_,λm f s b=>?_,λv o=>?_,λv o=>?_,λv o a c b=>?_,λm f=>?_,λm f u e=>?_,λv o=>?_,λm f u e=>?_⟩
 ·rw[j];split
  ·simp[h.lw _ g]
  ·exact h.lw m f
 ·rw[j];split
  ·simp[h.lh _ g]
  ·exact h.lh m f
 ·rw[j] at b;split at b
  ·next z=>
   subst z;rcases List.mem_append.mp b with b|b
   ·exact h.so _ g s b
   ·simp at b;subst b;exact A
  ·exact h.so m f s b
 ·rw[j] at b;split at b
  ·rcases List.mem_append.mp b with b | b
   ·exact h.hl _ g s b
   ·simp at b;subst b;exact wY t h p
  ·exact h.hl m f s b
 ·rw[q];split
  ·exact h.ls w p
  ·exact h.ls v o
 ·rw[q];split
  ·simp[h.lk w p]
  ·exact h.lk v o
 ·have B:some (a,c)∈(r.ww v).snd:=by
   rw[q]at b;split at b
   ·next z=>subst z;exact b
   ·exact b
  obtain⟨C,D,E,y⟩:=h.sd v o a c B;calc⟨C,D,E,?_⟩;rw[j];split
  ·next z=>rw[z]at y;simp;lia
  ·exact y
 ·rw[j,x];split
  ·have:=h.bp _ g;simp;lia
  ·have:=h.bp _ f;lia
 ·rw[x];rw[j] at e;split at e
  ·rcases List.mem_append.mp e with e | e
   ·have:=h.bw _ g u e;lia
   ·simp at e;subst e;have:=h.bw _ g _ (gJ (l:=(r.mm (n.goal w)).wp) (d:=[]) (by rw[<-h.lw _ g];calc h.wX g));simp;lia
  ·have:=h.bw _ f u e;lia
 ·rw[q];split
  ·exact h.bs w p
  ·exact h.bs v o
 ·rw[j] at e ⊢;split at e
  ·next z=>
   rw[if_pos z];show u <+:((r.mm (n.goal w)).wp++[_]).bA [];rw[qZ];rcases List.mem_append.mp e with e|e
   ·exact zd (h.Sv _ g u e)
   ·simp at e;subst e;exact List.prefix_refl _
  ·next z=>rw[if_neg z];calc h.Sv m f u e
theorem RS.Ok.pick(a:n.Ok)(h:r.Ok n){w k:Nat}(b:w<n.ws.length):(r.pick n w k).Ok n/\(r.pick n w k).picks=r.picks++[((w:Int),(k:Int))]:=by
 have d:=a.ei b;obtain⟨c,f,g,i⟩:=qi a h b k;have s:=RS.r8.send (outs:=n.outs (n.goal w)) (ev:=n.ev r w) (n.work r w k).cu (h.step a b (k:=k)) (λa c e=>by
  cases e;refine⟨(),(),?_,?_⟩
  ·have:=h.wX d;lia
  ·have a:(r.step n w k).mm (n.goal w)=⟨(r.mm (n.goal w)).fe++[((n.work r w k).ns,(n.work r w k).row)],(r.mm (n.goal w)).wp++[(r.mm (n.goal w)).wp.bA []++(n.work r w k).words],(r.mm (n.goal w)).hr++[n.cY r w k]⟩:=if_pos rfl;rw[show((n.goal w:Nat):Int).toNat=n.goal w from X' _,a,h.lh _ d];simp)
 have a:=(RS.lu (outs:=n.outs (n.goal w)) (ev:=n.ev r w) (n.work r w k).cu (r:=r.step n w k)).2;calc⟨s.ok ?_,a⟩;rw[a];show _<=20+24*(r.picks++[_]).length;simp;lia
end
end DD
namespace L2
open PySem PySem.Spec PyProof.Rows Builtin Builtin.Str
section
variable {X:Cx}
theorem wZ{i j l:Nat}{x y z:Str}{d e f a:Pos}{k:Nat}(g:X.calm=true)(b:X.N.Nodup)(h:X.N[i]?=some x)(m:X.N[j]?=some y)(n:X.N[l]?=some z)(o:Loc X.env.scope x)(p:Loc X.env.scope y)(q:Loc X.env.scope z)
  (r:X.fn x=true\/X.env.scope.names.lookup x=some .local:=by grind) (s:X.fn y=true\/X.env.scope.names.lookup y=some .local:=by grind) (c:X.fn z=true\/X.env.scope.names.lookup z=some .local:=by grind):
  PG X (.Tuple [.Name x d,.Name y e,.Name z f] k a) (DS X.K 3 (lN (fC i) (lN (fC j) (lN (fC l) DR)))):=yA g (gL (aP b h o r) (gL (aP b m p s) (gL (aP b n q c) uM)))
end
end L2
namespace L2
open PySem PyProof.Rows
theorem Yi{a b:Nat}(h:a+64<b):a+1<b:=by lia
section
variable {X:Cx}
def ze(z:Int):Value->Bool
 | .int i _=>i==z
 |_=>false
theorem q8:∀{ns:List Int}{us:List Value},Vals (ns.map V.int) us->us.length=ns.length/\∀(i:Nat) u z,us[i]?=some u->ns[i]?=some z->∃t,u=.int z t
 | [],_,.nil=>⟨rfl,λi u z h=>by simp at h⟩
 |n::ns,_,.cons r t=>by
  obtain⟨l,h⟩:=q8 t;refine⟨by simp[l],λi u z a b=>?_⟩
  cases i with
  |zero=>simp at a b;subst a b;calc r
  |succ i=>calc h i u z (by simpa using a) (by simpa using b)
def J1:V->List V->Hp->VK->Prop:=λx vs H Q=>∃(a:Addr) (ns:List Int) (j:Nat) (z:Int),x=.ref a/\vs=[.int z]/\H a=some (.lst (ns.map V.int))/\ns[j]?=some z/\(∀i y,i<j->ns[i]?=some y->y≠z)/\Q (.int j) H
theorem uc:Qk X "list.index" J1:=by
 intro k s σ H x O v P Q I r D h;obtain⟨a,d,j,z,rfl,rfl,E,l,G,q⟩:=h
 cases r;obtain⟨u,rfl,o,rfl⟩:=D.one;obtain⟨b,r,J,k⟩:=I.list (aO.of E);obtain⟨h,K⟩:=q8 r;have h:j<d.length:=(List.getElem?_eq_some_iff.mp l).1;have p:(d.map V.int).length<=sizeLine:=k;rw[R']at p;obtain⟨⟨r,s,h,L⟩,n,w,A,B,e⟩:=id J;simp only at A B e;subst A B e;have h:j<b.length:=by lia
 have c:∀m (f:m<b.length),∃y t,d[m]?=some y/\b[m]=.int y t:=λm f=>by
  have C:m<d.length:=by lia
  obtain⟨t,e⟩:=K m b[m] d[m] nofun nofun;exact⟨d[m],t,nofun,e⟩
 refine call_meets PySem.F.slot_list_index ⟨_,w,rfl⟩ PySem.F.entry_list_index (PySem.F.args_list_index_2 _ _) (SeqAt.list_indexAt a b.toArray n none L (.int z o) (ze z) j (by simpa using h) (by rw[sizeLine_eq]at p;lia) ?_ ?_) ⟨w,λy M=>?_,?_⟩
 ·obtain⟨y,t,g,i⟩:=c j h;rw[l] at g
  cases g;simp[i,ze]
 ·intro m f a;have C:m < b.length:=by simpa using f
  obtain⟨y,t,g,i⟩:=c m C;have:=G m y a g;simp[i,ze,this]
 ·have N:y ∈ b:=by simpa using M
  obtain⟨m,f,rfl⟩:=List.getElem_of_mem N;obtain⟨y,t,g,i⟩:=c m f;rw[i];exact SeqAt.EqAt.int_int y t z o
 ·calc⟨.int _,H,I.tok _,⟨_,rfl⟩,q⟩
end
end L2
namespace L2
open PySem PySem.Spec PyProof.Rows
section
def Sy(K:W.Frag):V->Option Int->Option Int->Hp->VK->Prop:=λx b c H Q=>match x with
 | .ref a=>∃xs,aO K H a xs/\∀p,H p=none->Q (.ref p) (upd H p (.lst (dq xs b c)))
 |_=>False
theorem Yj{X:Cx}:RN X (Sy X.K):=by
 intro a s σ H x v b c d e f Q I g i j k h
 cases x<;>first
  |calc(show False from h).elim
  |skip
 obtain⟨l,m,q⟩:=h;calc Am a s σ H _ v b c d e f Q I g i j k ⟨_,l,rfl,m,q⟩
theorem Fx{X:Cx}{e:Expr}{b:TE}{c d:Option Expr}{f g:TO}{a h:Pos}(i:PE X e b)(j:PO X c f)(k:PO X d g):PE X (.Subscript e (.Slice c d none h) a) (RO (Sy X.K) b f g):=wt Yj i j k
theorem AJ{xs:List V}{i j:Nat}:(dq xs (some (i:Int)) (some (j:Int))).length<=j-i:=by
 unfold dq;rw[show HT.dY xs.length 0 (some (i:Int))=min i xs.length from HT.qf _ _ i,show HT.dY xs.length xs.length (some (j:Int))=min j xs.length from HT.qf _ _ j,aap];calc aaB (Nat.min_le_left _ _) ?_;rcases Nat.le_total xs.length i with h|h
 ·rw[Nat.min_eq_right h,Nat.sub_eq_zero_of_le (Nat.min_le_right _ _)];exact aav _
 ·rw[Nat.min_eq_left h];calc Nat.sub_le_sub_right (Nat.min_le_left _ _) _
theorem AK{xs:List V}{a b:Option Int}{v:V}(h:v∈dq xs a b):v∈xs:=List.mem_of_mem_drop (List.mem_of_mem_take h)
end
section
variable {a dx:Addr}{Q:Bool->Hp->Prop}{X:Cx}{H:Hp}{f:Str}{v:V}{K:W.Frag}
theorem fld{C:Addr}{b:List (Str×V)}{Q:V->Prop}(h:H a=some (.ins C dx b))(c:sj K C)(n:cm K C f)(l:b.lookup f=some v)(q:Q v):∃e d j g i,V.ref a=.ref e/\H e=some (.ins d j g)/\sj K d/\cm K d f/\g.lookup f=some i/\Q i:=⟨a,C,dx,b,v,rfl,h,c,n,l,q⟩
theorem mth{C:Addr}{b:List (Str×V)}{Q:Addr->Prop}(h:H a=some (.ins C dx b))(l:b.lookup f=none)(q:Q a):∃c e d,V.ref a=.ref c/\H c=some (.ins C e d)/\d.lookup f=none/\Q c:=⟨a,dx,b,rfl,h,l,q⟩
theorem fL{C:Addr}{b:List (Str×V)}{Q:V->Prop}(h:H a=some (.ins C dx b))(c:sj K C)(n:cm K C f)(l:b.lookup f=some v)(q:Q v):∃e d j g i,a=e/\H e=some (.ins d j g)/\sj K d/\cm K d f/\g.lookup f=some i/\Q i:=⟨a,C,dx,b,v,rfl,h,c,n,l,q⟩
theorem iq{C:Addr}{b:List (Str×V)}{Q:Addr->Prop}(h:H a=some (.ins C dx b))(l:b.lookup f=none)(q:Q a):∃c e d,a=c/\H c=some (.ins C e d)/\d.lookup f=none/\Q c:=⟨a,dx,b,rfl,h,l,q⟩
theorem zf{x y:V}{P:V->V->Prop}(h:bq K H a [x,y])(q:P x y):∃b xs,V.ref a=.ref b/\bq K H b xs/\xs.length=2/\∃v r,xs=v::r/\∃c d,r=c::d/\d=[]/\P v c:=⟨a,_,rfl,h,rfl,_,_,rfl,_,_,rfl,rfl,q⟩
theorem un3{x y z:V}{P:V->V->V->Prop}(h:bq K H a [x,y,z])(q:P x y z):∃d xs,V.ref a=.ref d/\bq K H d xs/\xs.length=3/\∃v r,xs=v::r/\∃e f,r=e::f/\∃b c,f=b::c/\c=[]/\P v e b:=⟨a,_,rfl,h,rfl,_,_,rfl,_,_,rfl,_,_,rfl,rfl,q⟩
theorem ir{A B R:Prop}(a:A)(b:B)(r:R):A/\B/\R:=⟨a,b,r⟩
theorem bL{α:Type}{A R:α->Prop}(x:α)(a:A x)(r:R x):∃x,A x/\R x:=⟨x,a,r⟩
theorem gO{α:Type}{A B R:α->Prop}(x:α)(a:A x)(b:B x)(r:R x):∃x,A x/\B x/\R x:=⟨x,a,b,r⟩
theorem Oe{α:Type}{A B C R:α->Prop}(x:α)(a:A x)(b:B x)(ch:C x)(r:R x):∃x,A x/\B x/\C x/\R x:=⟨x,a,b,ch,r⟩
theorem Fy{α β:Type}{A R:α->β->Prop}(x:α)(y:β)(a:A x y)(r:R x y):∃x y,A x y/\R x y:=⟨x,y,a,r⟩
theorem cT{α β:Type}{A B R:α->β->Prop}(x:α)(y:β)(a:A x y)(b:B x y)(r:R x y):∃x y,A x y/\B x y/\R x y:=⟨x,y,a,b,r⟩
theorem vf{α β:Type}{A B C R:α->β->Prop}(x:α)(y:β)(a:A x y)(b:B x y)(ch:C x y)(r:R x y):∃x y,A x y/\B x y/\C x y/\R x y:=⟨x,y,a,b,ch,r⟩
theorem l8{α β:Type}{A B C D R:α->β->Prop}(x:α)(y:β)(a:A x y)(b:B x y)(ch:C x y)(c:D x y)(r:R x y):∃x y,A x y/\B x y/\C x y/\D x y/\R x y:=⟨x,y,a,b,ch,c,r⟩
theorem Yk{α β γ:Type}{A B R:α->β->γ->Prop}(x:α)(y:β)(z:γ)(a:A x y z)(b:B x y z)(r:R x y z):∃x y z,A x y z/\B x y z/\R x y z:=⟨x,y,z,a,b,r⟩
theorem fv{α β γ δ:Type}{A B R:α->β->γ->δ->Prop}(x:α)(y:β)(z:γ)(u:δ)(a:A x y z u)(b:B x y z u)(r:R x y z u):∃x y z u,A x y z u/\B x y z u/\R x y z u:=⟨x,y,z,u,a,b,r⟩
theorem Yl{α β γ δ:Type}{A B C R:α->β->γ->δ->Prop}(x:α)(y:β)(z:γ)(u:δ)(a:A x y z u)(b:B x y z u)(ch:C x y z u)(r:R x y z u):∃x y z u,A x y z u/\B x y z u/\C x y z u/\R x y z u:=⟨x,y,z,u,a,b,ch,r⟩
theorem Sz{α β γ δ:Type}{A B C D R:α->β->γ->δ->Prop}(x:α)(y:β)(z:γ)(u:δ)(a:A x y z u)(b:B x y z u)(ch:C x y z u)(c:D x y z u)(r:R x y z u):∃x y z u,A x y z u/\B x y z u/\C x y z u/\D x y z u/\R x y z u:=⟨x,y,z,u,a,b,ch,c,r⟩
theorem CA{α β γ δ:Type}{A B C D E R:α->β->γ->δ->Prop}(x:α)(y:β)(z:γ)(u:δ)(a:A x y z u)(b:B x y z u)(ch:C x y z u)(c:D x y z u)(d:E x y z u)(r:R x y z u):∃x y z u,A x y z u/\B x y z u/\C x y z u/\D x y z u/\E x y z u/\R x y z u:=⟨x,y,z,u,a,b,ch,c,d,r⟩
theorem Ym{α β γ δ:Type}{A B C D E F R:α->β->γ->δ->Prop}(x:α)(y:β)(z:γ)(u:δ)(a:A x y z u)(b:B x y z u)(ch:C x y z u)(c:D x y z u)(d:E x y z u)(e:F x y z u)(r:R x y z u):∃x y z u,A x y z u/\B x y z u/\C x y z u/\D x y z u/\E x y z u/\F x y z u/\R x y z u:=⟨x,y,z,u,a,b,ch,c,d,e,r⟩
theorem Yn{α β γ δ ε:Type}{A B C D R:α->β->γ->δ->ε->Prop}(x:α)(y:β)(z:γ)(u:δ)(v:ε)(a:A x y z u v)(b:B x y z u v)(ch:C x y z u v)(c:D x y z u v)(r:R x y z u v):∃x y z u v,A x y z u v/\B x y z u v/\C x y z u v/\D x y z u v/\R x y z u v:=⟨x,y,z,u,v,a,b,ch,c,r⟩
theorem Yo{α β γ δ ε:Type}{A B C D E R:α->β->γ->δ->ε->Prop}(x:α)(y:β)(z:γ)(u:δ)(v:ε)(a:A x y z u v)(b:B x y z u v)(ch:C x y z u v)(c:D x y z u v)(d:E x y z u v)(r:R x y z u v):∃x y z u v,A x y z u v/\B x y z u v/\C x y z u v/\D x y z u v/\E x y z u v/\R x y z u v:=⟨x,y,z,u,v,a,b,ch,c,d,r⟩
theorem SA{α β γ δ ε:Type}{A B C D E F R:α->β->γ->δ->ε->Prop}(x:α)(y:β)(z:γ)(u:δ)(v:ε)(a:A x y z u v)(b:B x y z u v)(ch:C x y z u v)(c:D x y z u v)(d:E x y z u v)(e:F x y z u v)(r:R x y z u v):∃x y z u v,A x y z u v/\B x y z u v/\C x y z u v/\D x y z u v/\E x y z u v/\F x y z u v/\R x y z u v:=⟨x,y,z,u,v,a,b,ch,c,d,e,r⟩
theorem PE.imp{e:Expr}{t u:TE}(h:PE X e t)(i:∀σ H Q,u σ H Q->t σ H Q):PE X e u:=⟨λp s σ H Q I q=>h.out p s σ H Q I (i σ H Q q)⟩
def tV(i:Nat):TE:=λσ H Q=>match σ[i]? with
 |some (some v)=>Q v H
 |_=>False
theorem Of{i:Nat}(σ:St)(H:Hp)(Q:VK)(h:tV i σ H Q):DK i σ H Q:=by
 unfold tV at h;split at h
 ·exact⟨_,by assumption,h⟩
 ·calc h.elim
def bB(Q:Bool->Hp->Prop):V->Hp->Prop
 | .bl k,H=>Q k H
 |_,_=>False
theorem Og{Q:Bool->Hp->Prop}{x:V}{H:Hp}(h:bB Q x H):∃k,x=.bl k/\Q k H:=by
 cases x with
 |bl k=>calc⟨k,rfl,h⟩
 |_=>calc h.elim
theorem SD{k:Bool}:bB Q (.bl k) H=Q k H:=rfl
theorem vg{k:Bool}(h:Q k H):bB Q (.bl k) H:=h
def tT(t:TE):TT:=λσ H Q=>t σ H (bB Q)
theorem SE:bB Q=λx H=>∃k,x=.bl k/\Q k H:=by
 funext x H;calc propext ⟨Og,?_⟩;rintro⟨k,rfl,h⟩;calc h
theorem Lu:tT=Ad:=by
 funext t σ H Q;show t σ H (bB Q)=_;rw[SE];rfl
theorem Oh:tT=tB:=Lu
section
variable {X:Cx}{a b:Expr}{ta tb:TE}{pos:Pos}
theorem az{c:CmpOp}{r:R2}(d:fE X (compareOp c) r)(e:PE X a ta)(f:PE X b tb)(g:behindInMarks c b=false):PT X (.Compare a [c] [b] pos) (tT (D7 r ta tb)):=by
 rw[Lu];calc Ae d e f g
theorem bN{e:Expr}{t:TE}(h:PE X e t)(b:∀a,PySem.isTrue e X.env a=(do let v <-a;standAt e.pos;holding [v] (truthy v)):=by intro _;rfl):PT X e (tT t):=by
 rw[Oh];calc MU h b
theorem ao(i:Nat){x:Str}{pos:Pos}(a:X.N[i]?=some x:=by rfl)(b:Ru X.env.scope x:=by first|calc Or.inl rfl|calc Or.inr (Or.inl rfl)|calc Or.inr (Or.inr rfl))(c:(x==("__debug__":Str))=false:=by decide)
  (d:(x==("__classdict__":Str))=false:=by decide):PE X (.Name x pos) (tV i):=(DM a b c d).imp Of
end
section
variable {K:W.Frag}{H:Hp}{Q:VK}{i j:Int}{s t:Str}{a b:Addr}
def Oi(K:W.Frag):R2:=λx y H Q=>match x,y with
 | .int i,.int j=>Q (.bl (decide (i=j))) H
 | .str s,.str t=>Q (.bl (decide (s=t))) H
 |x,y=>NL K x y H Q
def Qq(K:W.Frag):R2:=λx y H Q=>match x,y with
 | .int i,.int j=>Q (.bl (!decide (i=j))) H
 | .str s,.str t=>Q (.bl (!decide (s=t))) H
 |x,y=>NM K x y H Q
theorem Fz:Oi K (.int i) (.int j) H Q=Q (.bl (decide (i=j))) H:=rfl
theorem FA:Oi K (.str s) (.str t) H Q=Q (.bl (decide (s=t))) H:=rfl
theorem FC:Oi K (.ref a) (.ref b) H Q=((iB K H 20 (.ref a) (.ref b)/\Q (.bl true) H)\/(qM K H a b/\Q (.bl false) H)):=rfl
theorem FE:Qq K (.int i) (.int j) H Q=Q (.bl (!decide (i=j))) H:=rfl
theorem FG:Qq K (.str s) (.str t) H Q=Q (.bl (!decide (s=t))) H:=rfl
theorem FH:Qq K (.ref a) (.ref b) H Q=((iB K H 20 (.ref a) (.ref b)/\Q (.bl false) H)\/(qM K H a b/\Q (.bl true) H)):=rfl
theorem FI:Oi K=NL K:=by
 funext x y H Q
 cases x<;>cases y<;>first|rfl|calc u7.symm|calc u9.symm
theorem FJ:Qq K=NM K:=by
 funext x y H Q
 cases x<;>cases y<;>first|rfl|calc va.symm|calc vb.symm
theorem aQ(a:X.A.units+64<cLine):fE X (compareOp .Eq) (Oi X.K):=FI▸EI a
theorem gD(a:X.A.units+64<cLine):fE X (compareOp .NotEq) (Qq X.K):=FJ▸EJ a
theorem jm(a:X.K=K)(b:X.A.units+64<cLine):fE X (compareOp .Eq) (Oi K):=FI▸JN a b
theorem FK(a:X.K=K)(b:X.A.units+64<cLine):fE X (compareOp .NotEq) (Qq K):=FJ▸JO a b
end
theorem HT.cj{n:Nat}{i:Int}(h:HT H n v (.int i)):v=.int i:=by
 cases h;rfl
theorem HT.cE{n:Nat}{s:Str}(h:HT H n v (.str s)):v=.str s:=by
 cases h;rfl
theorem HD.cj{n:Nat}{i:Int}(h:HD H n v (.int i)):v=.int i:=by
 cases h;rfl
theorem HD.cE{n:Nat}{s:Str}(h:HD H n v (.str s)):v=.str s:=by
 cases h;rfl
end
end L2
namespace DD
open PySem L2
variable {x:Int}{e:Int×Int}{u:Nat}{s:Option (Int×Int)}
def ud(r:RS):Nat->Nat
 |0=>0
 |W+1=>ud r W+(r.ww W).da.countP Option.isSome
structure RS.Iv(n:NT)(r:RS):Prop where
 ev:∀(w k:Nat) (m c:Int),w<n.ws.length->(r.ww w).da[k]?=some (some (m,c))->0<=m/\m<n.ms.length/\c<(r.mm m.toNat).fe.length
 inj:∀(w k w' k':Nat) (e:Int×Int),w<n.ws.length->w'<n.ws.length->(r.ww w).da[k]?=some (some e)->(r.ww w').da[k']?=some (some e)->w=w'/\k=k'
 pk:∀p∈r.picks,∃w k:Nat,∃e,p=((w:Int),(k:Int))/\w<n.ws.length/\(r.ww w).da[k]?=some (some e)
 cnt:ud r n.ws.length=r.picks.length
theorem oy{r a:RS}:∀{W:Nat},(∀w,w<W->(a.ww w).da.countP Option.isSome=(r.ww w).da.countP Option.isSome)->ud a W=ud r W
 |0,_=>rfl
 |W+1,h=>by rw[ud,ud,oy λw a=>h w (),h W ()]
theorem FL{r a:RS}{w:Nat}(c:(a.ww w).da.countP Option.isSome=(r.ww w).da.countP Option.isSome+1)(b:∀u,u≠w->a.ww u=r.ww u):∀{W:Nat},w<W->ud a W=ud r W+1
 |0,h=>absurd h (abk _)
 |W+1,h=>by
  by_cases e:w=W
  ·subst e;have d:ud a w=ud r w:=oy λu a=>by rw[b u ()]
   rw[ud,ud,c,d];lia
  ·rw[ud,ud,FL c b (W:=W) (),b W (λz=>e z.symm)];lia
theorem CB{l:List (Option (Int×Int))}{k:Nat}:(l++[none])[k]?=some (some e)↔l[k]?=some (some e):=by
 by_cases h:k<l.length
 ·rw[W' h]
 ·rw[P' (),List.getElem?_eq_none (l:=l) ()];constructor
  ·intro z
   cases a:k-l.length with
   |zero=>rw[a]at z;simp at z
   |succ j=>rw[a]at z;simp at z
  ·intro z;cases z
section
variable {n:NT}{r:RS}
theorem FN{w:Nat}:((r.put w x s).ww u).da=if u=w then(r.ww w).da++[none] else(r.ww u).da:=by
 show(if u=w then _ else _:WY).da=_;split<;>rfl
theorem gE{w:Nat}{k:Nat}:((r.put w x s).ww u).da[k]?=some (some e)↔(r.ww u).da[k]?=some (some e):=by
 rw[FN];split
 ·next z=>subst z;exact CB
 ·calc Iff.rfl
theorem J2{w:Nat}{W:Nat}:ud (r.put w x s) W=ud r W:=oy λu _=>by
 rw[FN];split
 ·next z=>subst z;simp
 ·rfl
theorem RS.Iv.put(h:r.Iv n){w:Nat}{x:Int}{s:Option (Int×Int)}:(r.put w x s).Iv n:=
  ⟨λu k m c a f=>h.ev u k m c a (gE.mp f),λu k g i e a j b d=>h.inj u k g i e a j (gE.mp b) (gE.mp d),
   λp a=>let ⟨u,k,e,b,d,c⟩:=h.pk p a;⟨u,k,e,b,d,gE.mpr c⟩,J2.trans h.cnt⟩
theorem RS.Iv.send{outs:List Nat}{ev:Int×Int}:∀(a:List (Int×Int)) {r:RS},r.Iv n->(r.send outs ev a).Iv n
 | [],r,h=>h
 |p::a,r,h=>by
  show((if p.1.toNat<outs.length then r.put (outs.getD p.1.toNat 0) p.2 (some ev) else r).send outs ev a).Iv n;split
  ·exact RS.Iv.send a h.put
  ·calc RS.Iv.send a h
theorem RS.Iv.ip:∀(ls:List (Int×Int)) {r:RS},r.Iv n->(r.ip ls).Iv n
 | [],r,h=>h
 |p::a,r,h=>RS.Iv.ip a h.put
theorem RS.Iv.begin{ls:List (Int×Int)}:(RS.begin n ls).Iv n:=
 RS.Iv.ip ls ⟨λw k m c _ h=>by simp[RS.new] at h,λw k a b e _ _ h=>by simp[RS.new] at h,λp a=>absurd a List.not_mem_nil,by
  have:∀W,ud (RS.new n) W=0:=λW=>by
   induction W with
   |zero=>rfl
   |succ W a=>rw[ud,a];rfl
  calc this _⟩
theorem AL:∀{l:List (Option (Int×Int))}{k:Nat}{e:Int×Int},l[k]?=some none->(l.set k (some e)).countP Option.isSome=l.countP Option.isSome+1
 | [],k,e,h=>by simp at h
 |a::l,0,e,h=>by
  simp at h;subst h;simp
 |a::l,k+1,e,h=>by
  have:=AL (l:=l) (k:=k) (e:=e) (by simpa using h);rw[List.set_cons_succ,List.countP_cons,List.countP_cons,this];lia
theorem AM{w k:Nat}:((r.step n w k).ww u).da=if u=w then(r.ww w).da.set k (some (n.ev r w)) else(r.ww u).da:=by
 show(if u=w then _ else _:WY).da=_;split<;>rfl
theorem eF{w k j:Nat}(b:(r.ww w).da[k]?=some none):((r.step n w k).ww u).da[j]?=some (some e)↔(u=w/\j=k/\e=n.ev r w)\/(r.ww u).da[j]?=some (some e):=by
 have c:k<(r.ww w).da.length:=(List.getElem?_eq_some_iff.mp b).1;rw[AM];split
 ·next z=>
  subst z;by_cases a:j=k
  ·subst a;rw[List.getElem?_set_self c,b];constructor
   ·intro z;cases z;exact .inl ⟨rfl,rfl,rfl⟩
   ·rintro(⟨_,_,rfl⟩ | z)
    ·rfl
    ·cases z
  ·rw[List.getElem?_set_ne (λz=>a z.symm)];exact⟨.inr,λz=>z.elim (λq=>absurd q.2.1 a) id⟩
 ·next z=>calc⟨.inr,λq=>q.elim (λq=>absurd q.1 z) id⟩
theorem w6{w k:Nat}{m:Nat}:((r.step n w k).mm m).fe.length=(r.mm m).fe.length+if m=n.goal w then 1 else 0:=by
 show(if m=n.goal w then _ else _:MS).fe.length=_;split
 ·next z=>subst z;simp
 ·simp
theorem RS.Iv.step(h:r.Iv n)(z:n.Ok){w k:Nat}(x:w<n.ws.length)(l:(r.ww w).da[k]?=some none):(r.step n w k).Iv n:=by
 have K:=z.ei x;refine⟨λu j m c g t=>?_,λu j B C e g y o q=>?_,λp i=>?_,?_⟩
 ·rcases(eF l).mp t with⟨_,_,e⟩ | t
  ·cases e;calc⟨(),(),?_⟩;rw[X',w6,if_pos rfl];lia
  ·obtain⟨a,b,d⟩:=h.ev u j m c g t;calc⟨a,b,?_⟩;rw[w6];split<;>lia
 ·have v:∀{u j:Nat},u<n.ws.length->(r.ww u).da[j]?=some (some (n.ev r w))->False:=λ{u j} g t=>by
   obtain⟨_,_,d⟩:=h.ev u j _ _ g t;rw[X']at d;lia
  rcases(eF l).mp o with⟨F,G,I⟩|o<;>rcases(eF l).mp q with⟨a,b,J⟩|q
  ·exact⟨F.trans a.symm,G.trans b.symm⟩
  ·subst I;exact(v y q).elim
  ·subst J;exact(v g o).elim
  ·exact h.inj u j B C e g y o q
 ·have i:p ∈ r.picks++[((w:Int),(k:Int))]:=i;rcases List.mem_append.mp i with i | i
  ·obtain⟨u,j,e,o,q,a⟩:=h.pk p i;exact⟨u,j,e,o,q,(eF l).mpr (.inr a)⟩
  ·simp at i;exact⟨w,k,_,i,x,(eF l).mpr (.inl ⟨rfl,rfl,rfl⟩)⟩
 ·have a:((r.step n w k).ww w).da.countP Option.isSome=(r.ww w).da.countP Option.isSome + 1:=by rw[AM,if_pos rfl,AL l]
  have b:∀u,u≠w->(r.step n w k).ww u=r.ww u:=λu g=>if_neg g;rw[FL a b x,h.cnt];show _=(r.picks++[_]).length;simp
theorem RS.Iv.pick(h:r.Iv n)(a:n.Ok){w k:Nat}(b:w<n.ws.length)(c:(r.ww w).da[k]?=some none):(r.pick n w k).Iv n:=RS.Iv.send _ (h.step a b c)
variable {H H':Hp}{aW:List (List Key×V)}{w k:Nat}
end
end DD
namespace DD
open PySem L2
structure RS.Px(n:NT)(r:RS):Prop where
 px:∀w,w<n.ws.length->(n.w w).2.2="row"->∀(j k:Nat) (e:Int×Int),j<k->(r.ww w).da[k]?=some (some e)->∃e':Int×Int,(r.ww w).da[j]?=some (some e')
section
variable {n:NT}{r:RS}
theorem RS.Px.put(h:r.Px n){w:Nat}{x:Int}{s:Option (Int×Int)}:(r.put w x s).Px n:=
 ⟨λu a b j k e c d=>let ⟨f,g⟩:=h.px u a b j k e c (gE.mp d);⟨f,gE.mpr g⟩⟩
theorem RS.Px.send{outs:List Nat}{ev:Int×Int}:∀(a:List (Int×Int)) {r:RS},r.Px n->(r.send outs ev a).Px n
 | [],r,h=>h
 |p::a,r,h=>by
  show((if p.1.toNat<outs.length then r.put (outs.getD p.1.toNat 0) p.2 (some ev) else r).send outs ev a).Px n;split
  ·exact RS.Px.send a h.put
  ·calc RS.Px.send a h
theorem RS.Px.ip:∀(ls:List (Int×Int)) {r:RS},r.Px n->(r.ip ls).Px n
 | [],r,h=>h
 |p::a,r,h=>RS.Px.ip a h.put
theorem RS.Px.begin{ls:List (Int×Int)}:(RS.begin n ls).Px n:=
 RS.Px.ip ls ⟨λw _ _ j k e _ h=>by simp[RS.new]at h⟩
theorem RS.Px.pick(h:r.Px n){w k:Nat}(c:(r.ww w).da[k]?=some none)(p:(n.w w).2.2="row"->0<k->∃e,(r.ww w).da[k-1]?=some (some e)):(r.pick n w k).Px n:=by
 calc RS.Px.send _ ⟨λu l d j i e q a=>?_⟩;have f:(r.ww u).da[i]?=some (some e)->∃b,((r.step n w k).ww u).da[j]?=some (some b):=λa=>by
  obtain⟨b,g⟩:=h.px u l d j i e q a;exact⟨b,(eF c).mpr (.inr g)⟩
 rcases(eF c).mp a with⟨rfl,rfl,_⟩|a
 ·obtain⟨m,o⟩:=p d ();by_cases z:j=i - 1
  ·subst z;exact⟨m,(eF c).mpr (.inr o)⟩
  ·obtain⟨b,g⟩:=h.px u l d j (i-1) m () o;exact⟨b,(eF c).mpr (.inr g)⟩
 ·calc f a
end
end DD
namespace L2
open PySem PySem.W PyProof.Rows
section
variable {n:Nat}{lt:Nat->Nat->Bool}{α β:Type}
def PP(n:Nat)(p:Array Nat):Prop:=p.Perm (List.range n).toArray
theorem PP.size{p:Array Nat}(h:PP n p):p.size=n:=by have:=h.size_eq;simpa using this
theorem PP.get{p:Array Nat}(h:PP n p){i:Nat}(a:i<n):p[i]?=some (p.getD i 0):=by
 have:=h.size;rw[Array.getD_eq_getD_getElem?,Array.getElem?_eq_getElem ()];rfl
end
end L2
namespace L2
open PySem PySem.Spec PyProof.Rows
end L2
set_option maxHeartbeats 400000
namespace L2
open PySem PySem.Spec PyProof.Rows
section
def SG(h:Heap)(d:Addr)(a:Array DictEntry)(b:Nat):Prop:=∃o,h.get? d=some o/\o.ExactDict/\o.data=.dict a b
theorem SG.type{s:Shared}{d:Addr}{a:Array DictEntry}{b:Nat}(x:SG s.heap d a b):s.TypeIs (.ref d) "dict":=let ⟨o,h,c,_⟩:=x;⟨o,h,c.1⟩
section
variable {P:Program}{w:World}{H:Hp}{h:Heap}{a:Addr}{aW:List (List Key×V)}
theorem Paired.get{α β:Type}{F:α->β->Prop}:∀{c:List α}{d:List β},Paired F c d->∀{i:Nat}{a:α},c[i]?=some a->∃b,d[i]?=some b/\F a b
 |_,_,.nil,i,a,e=>by simp at e
 |_,_,.cons r t,0,a,e=>by cases e;calc⟨_,rfl,r⟩
 |_,_,.cons r t,i+1,a,e=>Paired.get t (i:=i) e
end
end
section
section
variable {prog:Program}{w:World}{A:Around}{E:Value->Shared->Prop}{s:Shared}{d:Addr}{es:Array DictEntry}{ep:Nat}
end
section
variable {prog:Program}{w:World}{K:Type} [DecidableEq K]{knd:HeapKind prog w K}{A:Around}{E:Value->Shared->Prop}{s:Shared}
end
end
end L2
namespace L2
open PySem PySem.Spec PyProof.Rows DD
end L2
set_option maxHeartbeats 4000000
namespace DD
open PySem L2
end DD
namespace L2
open PySem PySem.W PySem.Spec PyProof.Rows
end L2
namespace L2
open PySem PySem.W PySem.Spec PyProof.Rows
structure Oj(H:Hp)(ys:List V)(ps:List (Int×Int)):Prop where
 len:ys.length=ps.length
 got:∀(i:Nat) p,ps[i]?=some p->∃b,ys[i]?=some (.ref b)/\H b=some (.tup [.int p.1,.int p.2])
theorem Oj.mono{H a:Hp}{b:List V}{c:List (Int×Int)}(h:Oj H b c)(s:bP H a):Oj a b c:=⟨h.len,λi p e=>let ⟨b,a,c⟩:=h.got i p e;⟨b,a,s _ _ c⟩⟩
end L2
namespace DD
open PySem L2
structure RS.Pk(n:NT)(r:RS):Prop where
 nd:r.picks.Nodup
 mem:∀(w k:Nat) e,w<n.ws.length->(r.ww w).da[k]?=some (some e)->((w:Int),(k:Int))∈r.picks
section
variable {n:NT}{r:RS}
theorem RS.Pk.put(h:r.Pk n){w:Nat}{x:Int}{s:Option (Int×Int)}:(r.put w x s).Pk n:=⟨h.nd,λu k e a b=>h.mem u k e a (gE.mp b)⟩
theorem RS.Pk.send{outs:List Nat}{ev:Int×Int}:∀(a:List (Int×Int)) {r:RS},r.Pk n->(r.send outs ev a).Pk n
 | [],r,h=>h
 |p::a,r,h=>by
  show((if p.1.toNat<outs.length then r.put (outs.getD p.1.toNat 0) p.2 (some ev) else r).send outs ev a).Pk n;split
  ·exact RS.Pk.send a h.put
  ·calc RS.Pk.send a h
theorem RS.Pk.pick(h:r.Pk n)(f:r.Iv n){w k:Nat}(b:(r.ww w).da[k]?=some none):(r.pick n w k).Pk n:=by
 refine RS.Pk.send _ ⟨?_,λu j e g a=>?_⟩
 ·show(r.picks++[((w:Int),(k:Int))]).Nodup;rw[List.nodup_append];calc⟨h.nd,nofun,λp i q c e=>?_⟩;rw[List.mem_singleton] at c;subst c;subst e;obtain⟨m,o,e,l,_,d⟩:=f.pk _ i
  cases l;rw[b]at d
  cases d
 ·show _ ∈ r.picks++[((w:Int),(k:Int))]
  rcases(eF b).mp a with⟨rfl,rfl,_⟩|a
  ·simp
  ·calc List.mem_append_left _ (h.mem u j e g a)
theorem xa:∀{W:Nat},ud r W=0->∀w,w<W->(r.ww w).da.countP Option.isSome=0
 |W+1,h,w,a=>by
  rw[ud]at h;by_cases e:w=W
  ·subst e;lia
  ·calc xa (W:=W) () w ()
theorem RS.Pk.zero(b:r.Iv n)(e:r.picks=[]):r.Pk n:=by
 have a:=b.cnt;rw[e]at a;calc⟨by rw[e];calc .nil,λw k f c d=>?_⟩;have:=List.countP_eq_zero.mp (xa a w c) _ (aai d);simp at this
end
def pI(p:Nat×Nat):Int×Int:=((p.1:Int),(p.2:Int))
theorem xb{α:Type} [DecidableEq α]:∀(L M:List α),L.Nodup->(∀x∈L,x∈M)->M.length<=L.length->M.Perm L
 | [],M,_,_,h=>by rw[List.length_eq_zero_iff.mp (Nat.le_zero.mp h)]
 |x::L,M,c,a,h=>by
  have d:=a x aaE;have b:=List.nodup_cons.mp c;have p:=List.perm_cons_erase d;have e:=p.length_eq;simp only[List.length_cons]at h e;calc p.trans ((xb L (M.erase x) b.2 (λy c=>(List.mem_erase_of_ne (λe=>b.1 (by rw[<-e];calc c))).mpr (a y (aao _ c))) ()).cons x)
end DD
namespace L2
open PySem PySem.Spec PyProof.Rows
section
section
variable {X:Cx}
theorem J3{pins:List (Addr×Obj)}{σ:St}{H:Hp}{s:Shared}(I:Inv X pins σ H s){A:Around}{a c:Addr}{p q:Int×Int}(f:H a=some (.tup [.int p.1,.int p.2]))(b:H c=some (.tup [.int q.1,.int q.2]))(t:A.units+2<cLine):SeqAt.EqAt A s (.ref a) (.ref c) (decide (p=q)):=by
 by_cases e:a=c
 ·subst e;rw[f]at b;simp only[Option.some.injEq,HO.tup.injEq,List.cons.injEq,V.int.injEq,and_true]at b;rw[aaj (Prod.ext b.1 b.2)];exact SeqAt.EqAt.same _
 ·obtain⟨t,j,n,_⟩:=I.tuple (bq.of f);obtain⟨t,o,r,_⟩:=I.tuple (bq.of b);obtain⟨_,_,rfl,⟨g,rfl⟩,⟨i,rfl⟩⟩:=j.two;obtain⟨_,_,rfl,⟨k,rfl⟩,⟨l,rfl⟩⟩:=o.two;have:=SeqAt.RcAt.tuples (e:=λj=>if j=0 then p.1==q.1 else p.2==q.2) (show s.heap.IsTuple a _ from n) (show s.heap.IsTuple c _ from r) (A:=A) () λj d m=>by
   match j,d with
   |0,_=>calc SeqAt.EqAt.int_int _ _ _ _
   |1,_=>exact SeqAt.EqAt.int_int _ _ _ _
  rw[show((List.range (min ([Value.int p.1 g,Value.int p.2 i].toArray).size ([Value.int q.1 k,Value.int q.2 l].toArray).size)).all (λj=>if j=0 then p.1 == q.1 else p.2 == q.2) && ([Value.int p.1 g,Value.int p.2 i].toArray).size == ([Value.int q.1 k,Value.int q.2 l].toArray).size)=decide (p=q) from by
   show((p.1==q.1&&(p.2==q.2&&true))&&true)=_;rw[Bool.and_true,Bool.and_true];by_cases h:p=q
   ·subst h;simp
   ·rw[aaq h];by_cases d:p.1=q.1
    ·have m:p.2≠q.2:=λz=>h (Prod.ext d z);simp[m]
    ·simp[d]] at this
  calc SeqAt.EqAt.of_refs e this
end
end
section
section
variable {X:Cx}
def Yp(K:W.Frag):R2:=λx y H Q=>∃l a xs b,∃p:Int×Int,x=.ref a/\y=.ref l/\H l=some (.lst xs)/\Oj H xs b/\H a=some (.tup [.int p.1,.int p.2])/\Q (.bl (decide (p∈b))) H
theorem vh{K:W.Frag}(M:X.A.units+64<cLine):fE X (compareOp .In) (Yp K):=by
 classical
 intro o s σ H x y v u Q I C D h;obtain⟨l,a,N,m,p,rfl,rfl,E,n,F,q⟩:=h
 cases C
 cases D;obtain⟨j,r,G,k⟩:=I.list (aO.of E);have d:∀(i:Nat) w,j[i]?=some w->∃b z,w=.ref b/\H b=some (.tup [.int z.1,.int z.2])/\m[i]?=some z:=λi w g=>by
  have c:i<m.length:=by rw[<-n.1,r.length];exact(List.getElem?_eq_some_iff.mp g).1
  obtain⟨b,a,J⟩:=n.2 i _ (bU c);obtain⟨h,t,L⟩:=r.get a;rw[g]at t
  cases t;exact⟨b,_,L,J,bU c⟩
 refine SeqAt.in_listAt (λw=>match w with | .ref b=>decide (H b=some (.tup [.int p.1,.int p.2]))|_=>false) G.isList (λw g=>?_) ⟨.bl _,H,I,rfl,?_⟩
 ·obtain⟨i,c⟩:=aaC (show w ∈ j by simpa using g);obtain⟨b,z,rfl,f,_⟩:=d i w c;have:=J3 I (A:=X.A.in1) f F (show X.A.units + 1 + 2 < cLine by lia);rwa [show decide (z=p)=decide (H b=some (.tup [.int p.1,.int p.2])) from decide_eq_decide.mpr ⟨λe=>by rw[f,e],λe=>by
   rw[f] at e;simp only[Option.some.injEq,HO.tup.injEq,List.cons.injEq,V.int.injEq,and_true] at e;calc Prod.ext e.1 e.2⟩] at this
 ·rw[show j.toArray.any (λw=>match w with | .ref b=>decide (H b=some (.tup [.int p.1,.int p.2])) | _=>false)=decide (p ∈ m) from ?_]
  ·exact q
  rw[Bool.eq_iff_iff,decide_eq_true_eq,List.any_toArray,List.any_eq_true];constructor
  ·rintro⟨w,g,e⟩;obtain⟨i,c⟩:=aaC g;obtain⟨b,z,rfl,f,k⟩:=d i w c;have e:=aaD e;rw[f]at e;simp only[Option.some.injEq,HO.tup.injEq,List.cons.injEq,V.int.injEq,and_true]at e;rw[<-show z=p from Prod.ext e.1 e.2];exact aai k
  ·intro a;obtain⟨i,c⟩:=aaC a;have B:i<j.length:=by
    have:=(List.getElem?_eq_some_iff.mp c).1;have:=n.1;have:=r.length;lia
   obtain⟨b,z,e,f,k⟩:=d i _ (bU B);rw[c]at k
   cases k;calc⟨j[i],aan B,by rw[e];calc aaj f⟩
end
end
end L2
set_option maxHeartbeats 400000
namespace L2
open PySem PySem.Spec PyProof.Rows
section
section
variable {X:Cx}{o e:Expr}{es:List Expr}{to:TE}{t:TA}{apos p pos:Pos}{C:Addr}{m x:Str}{k j:Nat}{ps:List Str}{sp:Sp}{E:XK}
end
end
section
end
end L2
namespace L2
open PySem PySem.Spec PyProof.Rows
end L2
set_option maxHeartbeats 4000000
namespace L2
open PySem PySem.W PySem.Spec PyProof.Rows
end L2
namespace L2
open PySem PySem.W PySem.Spec PyProof.Rows
end L2
namespace L2
open PySem PySem.Spec PyProof.Rows
end L2
namespace FO
open PySem L2 DD
def top(i:Nat):Stmt:=PySem.Challenge.pw_cutrestore_k34_whole_alike_by_rows.main.body.getD i (.Pass ⟨0,0,0,0⟩)
structure Tx(K:W.Frag)(mg:Str->Option Value)(C CN CR F:Addr)(FD:List (Str×V)):Prop where
 bg:mg "isinstance"=none
 AN:mg "int"=none
 zg:mg "bool"=none
 AO:mg "str"=none
 ck:mg "tuple"=none
 dI:mg "list"=none
 bV:mg "len"=none
 eu:mg "range"=none
 SH:mg "min"=none
 Lv:mg "max"=none
 ue:mg "all"=none
 SI:mg "any"=none
 FQ:mg "zip"=none
 dE:mg "enumerate"=none
 vi:mg "ValueError"=none
 FT:mg "sorted"=none
 dJ:∃t,mg "MOST_DEEDS"=some (.int 24 t)
 dA:∃t,mg "MOST_MODULUS"=some (.int 1000000000000 t)
 dB:∃t,mg "MOST_NUMBERS"=some (.int 4 t)
 eU:∃t,mg "MOST_ROW"=some (.int 12 t)
 cU:∃t,mg "MOST_MACHINES"=some (.int 5 t)
 e9:∃t,mg "MOST_WAYS"=some (.int 10 t)
 dC:∃t,mg "MOST_LETTERS"=some (.int 20 t)
 dM:∃t,mg "SAID_BOUND"=some (.int 1000000000000000000000000000000000000000000000000000000000000 t)
 cy:sj K C
 uf:mg "Machine"=some (.ref C)
 Lw:cm K C "own_modulus"
 Ol:cm K C "own_state"
 Lx:cm K C "own_deeds"
 CC:W.findIn K (.ref C) "__class__"=some (some (.builtin "object.__class__"))
 CF:W.mroIn K C (.type "object")=some true
 cA:sj K CN
 SJ:mg "Net"=some (.ref CN)
 xc:cm K CN "own_machines"
 xf:cm K CN "own_ways"
 zh:cm K CN "own_letters"
 FU:W.findIn K (.ref CN) "__class__"=some (some (.builtin "object.__class__"))
 FV:W.mroIn K CN (.type "object")=some true
 bb:sj K CR
 SK:mg "Run"=some (.ref CR)
 cB:cm K CR "own_net"
 cG:cm K CR "picks_done"
 bZ:cm K CR "states_had"
 dN:cm K CR "words_had"
 cH:cm K CR "words_said"
 bT:cm K CR "letters_say"
 eV:cm K CR "senders"
 de:cm K CR "workers"
 FW:W.findIn K (.ref CR) "__class__"=some (some (.builtin "object.__class__"))
 FX:W.mroIn K CR (.type "object")=some true
 CG:W.specialIn K (.builtin "object.__class__") "__get__"=some (some (.builtin "getset_descriptor.__get__"))
 uh:W.takesIn K (.builtin "object.__class__")=some true
 i_k:W.kitOne K (.ref C) (.ref C)=some true
 AQ:mg "FORMS"=some (.ref F)
 AR:CD K F FD
 Ly:∀d:bf,∃p,PyProof.Rows.KTD.datumAt d.word FD=some (.ref p)/\∀H,bq K H p (d.sE.map V.str)
end FO
namespace FO
open PySem L2 DD
variable {D a b p:Addr}{Z:Addr->Prop}{d:bf}{H H' H0 H1 H2:Hp}{R:Hp->Prop}{e:Int×Int}{ws:List (Int×Int×Str)}{ls ps s:List (Int×Int)}{as ms:List Addr}{es:List DV}{ns row:List Int}{gF:List MD}{mv wv ys:List V}{m:Nat}{ad:Nat->Nat->Addr}{r r':RS}{σ:St}{f:Str}{dd st z:V}{Q:VK}
theorem nu{X:Cx}{c:Scope}{N:List Str}:su X c N λY=>Ql Y [] iA:=λ_ _ _ _=>JB
section
variable {P:Program}{w:World}{K:W.Frag}{mg:Str->Option Value}{base:Heap}{C CN CR F B:Addr}{c:Nat->Addr}{FD:List (Str×V)}
local macro_rules | `(tactic| walk_at "s") => `(tactic| exact ⟨rfl, rfl, rfl, by decide +kernel, rfl, by decide +kernel, by decide +kernel⟩)
def zqI(s:String):Array Lean.Ident:=(s.splitOn " ").toArray.map (Lean.mkIdent ·.toName)
def zqK:=zqI "tV tT SD Fz FA FC FE FG FH DK tC D7 Xx rU Ad tB MW DO MV Xp DN Xq DQ MY BY fC M1 wm Qj Af Ee Nh Ni zX uY Ex yU Oa Ob yE Fd Fe Ff Lr Fg Fi Fj Fl Fm AB RO uQ Ek Jj Nf tK Ag XM Nu Fp Fo M3 Xs yz id_eq NZ Fb NN D0 oj Lm EO ET EU EV Ln EW EX EY EZ Lo Aw wJ iA sr tZ Se EN Lk Ll L2.start List.map_cons List.map_nil List.cons_append List.nil_append List.replicate List.getElem?_cons_zero List.getElem?_cons_succ List.set_cons_zero List.set_cons_succ"
def zqL:=zqI "y8 y9 u7 u9 va vb List.length_cons List.length_nil List.append_nil Option.some.injEq exists_eq_left' exists_eq_left V.int.injEq V.bl.injEq V.str.injEq V.ref.injEq List.cons.injEq and_true true_and Nat.reduceSub Nat.reduceAdd"
local macro_rules | `(tactic| simp_arith only [$xs,*]) => let l:=zqK; `(tactic| simp only [$[$l:ident],*, ↓AD, ↓wO, ↓qS, ↓ua, ↓qT, $xs,*])
local macro_rules | `(tactic| simp_arith! only [$xs:simpLemma,*]) => let l:=zqK; `(tactic| dsimp only [$[$l:ident],*, ↓AD, ↓wO, ↓qS, ↓ua, ↓qT, $xs:simpLemma,*])
local macro_rules | `(tactic| walk_at "l0") => `(tactic| simp_arith! only [BX, BW, mZ])
local macro_rules | `(tactic| walk_at "l1") => let l:=zqL; `(tactic| simp_arith only [BX, BW, mZ, $[$l:ident],*])
local macro_rules | `(tactic| walk_at "l2") => `(tactic| simp_arith! only [BX, BW])
local macro_rules | `(tactic| walk_at "l3") => let l:=zqL; `(tactic| simp_arith only [BX, BW, $[$l:ident],*])
local macro_rules | `(tactic| walk_at "l4") => `(tactic| simp_arith! only [mZ])
local macro_rules | `(tactic| walk_at "l5") => let l:=zqL; `(tactic| simp_arith only [mZ, $[$l:ident],*])
local macro_rules | `(tactic| walk_at "rd") => `(tactic| first | (walk_at "l0"; try walk_at "l1") | walk_at "l1")
local macro_rules | `(tactic| right) => `(tactic| try walk_at "rd")
local macro_rules | `(tactic| walk_at "rt") => `(tactic| first | (walk_at "l2"; try walk_at "l3") | walk_at "l3")
local macro_rules | `(tactic| walk_at "gj") => `(tactic| first
  |refine cp (by assumption) (by first|rfl|exact av (j := 0) rfl|exact av (j := 1) rfl|exact av (j := 2) rfl|exact av (j := 3) rfl) ?_
  |refine bx (by assumption) (by first|rfl|exact av (j := 0) rfl|exact av (j := 1) rfl|assumption) ?_
  |rw [if_pos (by decide +kernel)]
  | rw [if_neg (by decide +kernel)])
local macro_rules | `(tactic| walk_at "go") => `(tactic| repeat (first|walk_at "rd"|walk_at "gj"))
local macro_rules | `(tactic| walk_at "r0") => `(tactic| first | (walk_at "l4"; try walk_at "l5") | walk_at "l5")
local macro_rules | `(tactic| walk_at "rh") => `(tactic| first | with_reducible refine L2.Od ?_ | (with_reducible refine L2.bz ?_; intro N hN) | (with_reducible refine L2.jD ?_; intro T U hT hU))
local macro_rules | `(tactic| walk_at "rn") => `(tactic| (refine L2.ba (by assumption) ?_; (repeat walk_at "rh"); try walk_at "r0"))
local macro_rules | `(tactic| walk_at "jd") => `(tactic| first
  |(walk_at "rh"; (repeat walk_at "rh"); (try walk_at "r0"); repeat walk_at "rn")
  |(walk_at "rn"; repeat walk_at "rn")
  | (walk_at "r0"; repeat walk_at "rn"))
local macro_rules | `(tactic| left) => `(tactic| try walk_at "jd")
local macro_rules | `(tactic| walk_at "jt") => `(tactic| first | (walk_at "l2"; try walk_at "l3") | walk_at "l3")
local macro_rules | `(tactic| walk_at "jg") => `(tactic| repeat (first|walk_at "jd"|walk_at "gj"))
theorem xg:yP (ys++[z]).length (-1)=some ys.length:=by
 unfold yP;rw[if_neg ∅,if_pos (by simp;lia)];congr 1;simp;lia
theorem ko:iG (ys++[z]) (-1)=some z:=by
 unfold iG;rw[xg];simp
theorem FY{α:Type}{ys:List α}{z y:α}:(ys++[z]).set ys.length y=ys++[y]:=by simp
theorem vj{o c:HO}:upd (upd H a o) a c=upd H a c:=by
 funext b;by_cases h:b=a
 ·subst h;rw[ab,ab]
 ·rw[ax h,ax h,ax h]
def fw(H:Hp)(p:Addr):Prop:=∃xs:List Int,H p=some (.lst (xs.map V.int))/\1<=xs.length
structure Step(p:Addr)(H H':Hp):Prop where
 gf:fw H' p
 rest:∀b o,H b=some o->b≠p->H' b=some o
theorem Step.refl(h:fw H p):Step p H H:=⟨h,λ_ _ e _=>e⟩
theorem Step.trans(a:Step p H H1)(b:Step p H1 H2):Step p H H2:=⟨b.gf,λc o e n=>b.rest c o (a.rest c o e n) n⟩
theorem fw.same(s:aq H H')(h:fw H p):fw H' p:=by
 obtain⟨a,e,h⟩:=h;calc⟨a,s _ _ e,h⟩
theorem Step.same(a:Step p H H1)(b:aq H1 H2):Step p H H2:=⟨a.gf.same b,λc o e n=>b _ _ (a.rest c o e n)⟩
theorem Step.set(a:Step p H H1)(xs:List Int)(h:1<=xs.length):Step p H (upd H1 p (.lst (xs.map V.int))):=
 ⟨⟨xs,ab,h⟩,λc o e n=>by rw[ax n];calc a.rest c o e n⟩
theorem Step.new{q:Addr}(a:Step p H H1){o:HO}(b:H1 q=none):Step p H (upd H1 q o):=a.same (aq.new o b)
theorem Step.aJ(a:Step p H H1)(c:fw H p):bP H H1:=λb d e=>a.rest b _ e λz=>by
 subst z;obtain⟨a,h,_⟩:=c;rw[h]at e;cases e
theorem Step.ne{q:Addr}(c:fw H p)(b:H q=none):q≠p:=λz=>by
 subst z;obtain⟨a,h,_⟩:=c;rw[h]at b;cases b
theorem Step.over(s:aq H0 H1)(a:H0 p=none)(st:Step p H1 H2):aq H0 H2:=λb o e=>st.rest b o (s b o e) (au e a)
theorem fw.upd{q:Addr}{o:HO}(h:fw H p)(b:p≠q):fw (upd H q o) p:=by
 obtain⟨a,e,h⟩:=h;calc⟨a,by rw[ax b];calc e,h⟩
abbrev l9:Stmt:=top 10
def iC:Sp:=λvs H Q _=>∃x t,vs=[x]/\Kd H x t/\Q (.bl (Yb x)) H
theorem zi(D:cL K mg "is_whole" "is_whole" l9 ["thing"])(T:Tx K mg C CN CR F FD):Def P w K mg base "is_whole" 1 ["thing"] iC:=by
 exists["thing"];obtain⟨x,t,rfl,a,q⟩:=h;have d:=hr.units;refine⟨_,(ak (aH (gk (aZ dw rfl T.bg yx (af (ao 0) (af (di (v:=.ty "int") rfl T.AN PyProof.Rows.boot_int rfl) aa))) (iE (MX (aZ dw rfl T.bg yx (af (ao 0) (af (di (v:=.ty "bool") rfl T.zg PyProof.Rows.boot_bool rfl) aa)))))))),?_⟩;walk_at "rd";obtain⟨b,c,d,e,g⟩:=N5 (K:=K) a;refine cT t b a.ty d ?_;rw[g] at q
 cases b
 ·rw[if_neg M'];exact q
 ·rw[if_pos rfl];calc⟨t,c,a.ty,e,q⟩
abbrev kq:Stmt:=top 11
def cb:Sp:=λvs H Q _=>∃x t a b,vs=[x,.int a,.int b]/\Kd H x t/\Q (.bl (inR a b x)) H
theorem xh(D:cL K mg "is_within" "is_within" kq aL)(T:Tx K mg C CN CR F FD)(j:Def P w K mg base "is_whole" 1 ["thing"] iC):Def P w K mg base "is_within" 2 aL cb:=by
  exists aL;obtain⟨x,t,a,b,rfl,g,q⟩:=h;have k:=hr.units;refine⟨_,(ak (aH (gk (aE j hr (af (ao 0) aa)) (iE (wj yW gp (ao 1) (ao 0) (ao 2)))))),?_⟩;walk_at "rd";refine cT x t rfl g ?_
  cases g<;>first
    | (rename_i i
       show ∃c,V.bl true=.bl c/\_;calc⟨true,rfl,?_⟩;rw[if_pos rfl];walk_at "rd";by_cases d:a<=i
       · rw[if_pos (by simpa using d)];have e:inR a b (.int i)=decide (i < b):=by simp[inR,d]
         rw[e]at q;exact q
       · rw[if_neg (by simpa using d)];have e:inR a b (.int i)=false:=by simp[inR,d]
         rw[e] at q;calc q)
    | (show ∃c,V.bl false=.bl c/\_
       calc⟨false,rfl,?_⟩;rw[if_neg M'];calc q)
abbrev rf:Stmt:=top 52
def AS(K:W.Frag):Sp:=λvs H Q _=>∃(a:Addr) (ns:List Int) (k:Int),vs=[.ref a,.int k]/\aO K H a (ns.map V.int)/\0<=k/\∀c,Q (.int c) H
theorem FZ(D:cL K mg "_law_at" "_law_at" rf ef)(T:Tx K mg C CN CR F FD):Def P w K mg base "_law_at" 1 ef (AS K):=by
 exists ef;obtain⟨a,ns,k,rfl,b,c,q⟩:=h;have e:=hr.units;refine⟨_,(ai (aS (az gp (ao 1) (aZ aN rfl T.bV T' (af (ao 0) aa)) (aG _)) (ak (aH (aj e (ao 0) (ao 1)))) aI)
  (ak (aH ag))),?_⟩
 walk_at "rd";refine bL _ (.inl ⟨_,b,rfl⟩) ?_;rw[R'];by_cases d:k<(ns.length:Int)
 ·rw[if_pos (by simpa using d)];obtain⟨n,rfl⟩:=aa1 c;have e:n < ns.length:=by lia
  exact⟨_,.int ns[n],.inl b,av (by rw[A',bU e];rfl),q _⟩
 ·rw[if_neg (by simpa using d)];calc q _
abbrev oz:Stmt:=top 53
def F0:Sp:=λvs H Q _=>∃n:Int,vs=[.int n]/\∀(p:Addr) (xs:List Int),H p=none->1<=xs.length->Q (.ref p) (upd H p (.lst (xs.map V.int)))
theorem CH(D:cL K mg "_law_pot" "_law_pot" oz ["_law_cell"])(T:Tx K mg C CN CR F FD):Def P w K mg base "_law_pot" 1 ["_law_cell"] F0:=by
 exists["_law_cell","_law_number","_law_pot_here","_law_k"];obtain⟨n,rfl,q⟩:=h;have c:=hr.units;refine⟨_,(ai (aT (i:=1) sc rfl Sort (aV cS (aV cD (aV je (ao 0) ag) ag) ag))
  (ai (aT (i:=2) sc rfl Sort (bF (af ag aa)))
  (ai (eI PassesOwn.never rfl (cJ rfl T.eu (af ag aa)) (aP (i:=3) sc rfl Sort)
  (ai (aT (i:=1) sc rfl Sort (aV cD (aV cS (aV cS (aV jB (ao 1) (ao 1)) (aV jB ag (ao 1))) (ao 3)) ag))
  (ak (ff (aV cS (aV jB (aj c (ao 2) ag) ag) (ao 1)) (iF (ao 2) ag dW)))))
  (ai (aS (PW.pt (pw_and (az (aQ c) (aV cD (ao 0) ag) ag (aG _)) (pw_and1 (az (gD c) (aV je (ao 0) ag) ag (aG _))))) (ak (bS (du nS qy qz b8 (ao 2) (af (aV je (ao 0) ag) aa)))) aI)
  (ak (aH (ao 2))))))),?_⟩
 right;have d:EE n 2:=⟨∅,∅⟩
 calc ir d ∅ ?_;right;calc⟨by show 1<=sizeLine;decide,λp e=>?_⟩;have c:=aa4 (n/2) (b:=2147483629) ∅;have c:=aaQ (n/2) (b:=2147483629) ∅;refine⟨40,rfl,∅,∅,jb (n:=40) (λi σ H'=>∃(u a:Int) (z:Option V),0<=u/\u<2147483648/\σ=[some (.int n),some (.int u),some (.ref p),z]/\H'=upd H p (.lst [.int a])) ?_ ?_ ?_⟩
 ·exact⟨_,0,none,(),(),rfl,rfl⟩
 ·intro i σ H' o k;obtain⟨u,a,z,g,l,rfl,rfl⟩:=k;right;calc⟨.inl ⟨(),()⟩,?_⟩;right;calc ir (.inl ⟨(),()⟩) ∅ ?_;right;calc bx ab (av (j:=0) rfl) ?_;right;calc⟨.inr ⟨∅,∅⟩,?_⟩;right;calc cT _ 0 ab rfl ?_;right;have c:=aa4 (u*u+48271*u+(0+(i:Int))) (b:=2147483647) ∅;have k:=aaQ (u*u+48271*u+(0+(i:Int))) (b:=2147483647) ∅;exact⟨_,_,_,c,(),⟨rfl,rfl⟩,vj⟩
 ·intro σ H' m;obtain⟨u,a,z,g,l,rfl,rfl⟩:=m;right;calc⟨∅,?_⟩;right;split
  ·calc⟨d,?_⟩;right;split
   ·calc ir (.inl ⟨rfl,_,aO.of ab⟩) d ?_;right;calc gO _ ab (aD nofun) ?_;right;rw[vj];exact q p [a,n/2] e nofun
   ·right;exact q p [a] e nofun
  ·right;calc q p [a] e nofun
abbrev kr:Stmt:=top 54
def jo:Sp:=λvs H Q _=>∃(p:Addr) (m:Int),vs=[.ref p,.int m]/\fw H p/\0<m/\m.natAbs.log2<9000/\∀d H',0<=d->d<m->Step p H H'->Q (.int d) H'
theorem xi(D:cL K mg "_law_digit" "_law_digit" kr ah)(T:Tx K mg C CN CR F FD):Def P w K mg base "_law_digit" 1 ah jo:=by
 exists["_law_pot_here","_law_many","_law_digit_here"];obtain⟨p,m,rfl,k,g,r,q⟩:=h;have j:=hr.units;refine⟨_,(ai (aT (i:=2) sc rfl Sort (aV cD (aj j (ao 0) (mS jy ag)) (ao 1)))
  (ai (ff (aV je (aj j (ao 0) (mS jy ag)) (ao 1)) (iF (ao 0) (mS jy ag) dW))
  (ai (aS (PW.pt (pw_and (az (aQ j) (aj j (ao 0) (mS jy ag)) ag (aG _)) (pw_and1 (az om (aZ aN rfl T.bV T' (af (ao 0) aa)) ag (aG _))))) (ak (bS (Nv nS PySem.F.slot_list_pop PySem.F.type_list_pop Nx (ao 0)))) aI)
  (ak (aH (ao 2)))))),?_⟩
 nofun;obtain⟨l,c,t⟩:=id k;obtain⟨ys,z,rfl⟩:∃ys z,l=ys++[z]:=⟨l.dropLast,l.getLast (by intro e;rw[e]at t;simp at t),(List.dropLast_concat_getLast _).symm⟩
 rw[aar]at c
 replace c:H p=some (.lst (ys.map V.int++[.int z])):=c
 ac_rfl;have d:Step p H H:=Step.refl k;right;calc cT _ _ (.inl (aO.of c)) ko ?_;right;calc⟨g,?_⟩;right;calc cT _ _ (.inl (aO.of c)) ko ?_;right;calc⟨⟨g,r⟩,?_⟩;right;calc cT _ _ c xg ?_;rw[FY];calc cT _ _ (.inl (aO.of ab)) ko ?_;have n:=aa4 z (b:=m) ();have o:=aaQ z g;have u:Step p H (upd H p (.lst (ys.map V.int++[.int (z/m)]))):=by
  have:=d.set (ys++[z/m]) nofun;rw[aar]at this;exact this
 right;split
 ·calc bL _ (.inl ⟨_,aO.of ab,rfl⟩) ?_;right;split
  ·rename_i a;have a:1<=ys.length:=by
    simp at a;lia
   calc⟨.inl ⟨rfl,_,aO.of ab⟩,?_⟩;calc⟨p,_,.int (z/m),rfl,rfl,ab,nofun,?_⟩;right;rw[List.dropLast_concat,vj];exact q _ _ n o (d.set ys a)
  ·right;exact q _ _ n o u
 ·right;calc q _ _ n o u
theorem zj:Je 10 60:=⟨∅,∅,⋯⟩
theorem Om:Je 10 12:=⟨∅,∅,⋯⟩
theorem Oo:D8 2 (10^Int.toNat 60):=.inl ⟨⋯,⋯⟩
theorem SN:(0:Int)<2*10^Int.toNat 60-1:=by decide +kernel
theorem SO:(2*10^Int.toNat 60-1:Int).natAbs.log2<9000:=by decide +kernel
theorem Oq:(0:Int)<10^Int.toNat 60:=by decide +kernel
theorem Ot:(10^Int.toNat 60:Int).natAbs.log2<9000:=by decide +kernel
theorem SQ:(0:Int)<10^Int.toNat 12-1:=by decide +kernel
theorem Ou:(10^Int.toNat 12-1:Int).natAbs.log2<9000:=by decide +kernel
theorem dig{m:Int}{E:XK}(a:fw H p)(b:0<m)(c:m.natAbs.log2<9000)(q:∀d H',0<=d->d<m->Step p H H'->Q (.int d) H'):jo [.ref p,.int m] H Q E:=⟨p,m,rfl,a,b,c,q⟩
theorem J4{H:Hp}{n:Nat}{x:V}{d:List DV}(h:HD H n x (.tup d)):∃k a xs,x=.ref a/\H a=some (.tup xs)/\xs.length=d.length/\∀(i:Nat) u e,xs[i]?=some u->d[i]?=some e->HD H k u e:=by
 cases h with
 |tup a b c=>calc⟨_,_,_,rfl,a,b,c⟩
abbrev ma:Stmt:=top 21
def F2:Sp:=λvs H Q _=>∃x m n d,vs=[x,.int m]/\HD H n x d/\∀H',aq H H'->Q (.bl (Ct m d)) H'
theorem J5{K:W.Frag}{H:Hp}{n:Nat}{x:V}{d:DV}(h:HD H n x d)(a:∀c,d≠.tup c):∃t,gm K H x t/\W.kitOne K t (.type "tuple")=some false:=by
 cases h with
 |bH=>calc⟨_,.bH,rfl⟩
 |bl b=>calc⟨_,.bl b,rfl⟩
 |int i=>calc⟨_,.int i,rfl⟩
 |str x=>calc⟨_,.str x,rfl⟩
 |tup e=>calc absurd rfl (a _)
 |lst e=>calc⟨_,.lst e,rfl⟩
 |dict e=>calc⟨_,.dK e,rfl⟩
theorem J6{K:W.Frag}{H:Hp}{n:Nat}{x:V}{d:DV}(h:HD H n x d)(a:∀s,d≠.str s):∃t,gm K H x t/\W.kitOne K t (.type "str")=some false:=by
 cases h with
 |bH=>calc⟨_,.bH,rfl⟩
 |bl b=>calc⟨_,.bl b,rfl⟩
 |int i=>calc⟨_,.int i,rfl⟩
 |str x=>calc absurd rfl (a _)
 |tup e=>calc⟨_,.tup e,rfl⟩
 |lst e=>calc⟨_,.lst e,rfl⟩
 |dict e=>calc⟨_,.dK e,rfl⟩
theorem J7{m:Int}{d:DV}(b:∀a,d≠.tup a):Ct m d=false:=by
 cases d with
 |tup a=>calc absurd rfl (b a)
 |_=>rfl
theorem F3{m:Int}{d:DV}{r:List DV}(a:∀s,d≠.str s):Ct m (.tup (d::r))=false:=by
 cases d with
 |str s=>calc absurd rfl (a s)
 |_=>rfl
theorem zk(D:cL K mg "is_value" "is_value" ma a0)(T:Tx K mg C CN CR F FD)(X:Def P w K mg base "is_whole" 1 ["thing"] iC)(Y:Def P w K mg base "is_within" 2 aL cb):Def P w K mg base "is_value" 3 a0 F2:=by
 exists["thing","many","word"];obtain⟨x,m,n,d,rfl,G,q⟩:=h;have k:=hr.units;refine⟨_,(ai (aS (PW.pt (pw_or (cC (bN (aZ dw rfl T.bg yx (af (ao 0) (af (di (v:=.ty "tuple") rfl T.ck tm rfl) aa))))) (pw_or (az (aQ k) (aZ aN rfl T.bV T' (af (ao 0) aa)) ag (aG _)) (pw_or1 (cC (bN (aZ dw rfl T.bg yx (af (aj k (ao 0) ag) (af (di (v:=.ty "str") rfl T.AO PyProof.Rows.boot_str rfl) aa))))))))) (ak (aH j7)) aI)
  (ai (aT (i:=2) sc rfl Sort (aj k (ao 0) ag))
  (ai (aS (az EL (ao 2) (bu (af aB (af aB (af aB aa)))) (by with_unfolding_all rfl)) (ak (aH (gB (aQ k) (aZ aN rfl T.bV T' (af (ao 0) aa)) ag (aG _)))) aI)
  (ai (aS (az (gD k) (aZ aN rfl T.bV T' (af (ao 0) aa)) ag (aG _)) (ak (aH j7)) aI)
  (ai (aS (az (aQ k) (ao 2) aB (aG _)) (ak (aH (aE X hr (af (aj k (ao 0) ag) aa)))) aI)
  (ak (aH (gk (gB (aQ k) (ao 2) aB (aG _)) (iE (aE Y hr (af (aj k (ao 0) ag) (af ag (af (ao 1) aa))))))))))))),?_⟩
 walk_at "rd";by_cases I:∀l,d≠.tup l
 ·obtain⟨t,o,N⟩:=J5 (K:=K) G I;calc cT t false o N ?_;rw[J7 I]at q;exact q H (aq.refl H)
 ·have:∃l,d=.tup l:=Classical.byContradiction λz=>I λl e=>z ⟨l,e⟩;nofun;obtain⟨l,rfl⟩:=this;obtain⟨n,a,Z,rfl,B,O,U⟩:=J4 G;calc hZ ?_;clear hZ gZ G I
  ·skip
   refine⟨.type "tuple",true,.tup B,rfl,?_⟩;simp only[Bool.not_true,Bool.false_eq_true,if_false];refine bL _ (.inr ⟨_,bq.of B,rfl⟩) ?_;right;rcases l with _|⟨R,b⟩<;>rcases Z with _|⟨x0,J⟩
   ·exact q H (aq.refl H)
   ·cases O
   ·cases O
   ·skip
    rw[if_neg (by simp;lia)];calc cT _ _ (.inr (bq.of B)) (av (j:=0) rfl) ?_;have W:=U 0 x0 R rfl rfl;by_cases k:∀s,R≠.str s
    ·obtain⟨t,o,N⟩:=J6 (K:=K) W k;calc cT t false o N ?_;rw[F3 k]at q;exact q H (aq.refl H)
    ·have:∃s,R=.str s:=Classical.byContradiction λz=>k λl e=>z ⟨l,e⟩;nofun;obtain⟨g,rfl⟩:=this;obtain rfl:=W.cE;ac_rfl;refine⟨.type "str",true,.str _,rfl,?_⟩;simp only[Bool.not_true,Bool.false_eq_true,if_false];refine cT _ _ (.inr (bq.of B)) (av (j:=0) rfl) ?_;right;refine⟨∅,λp k=>?_⟩;have r:aq H (upd H p (.tup [.str "letter",.str "way",.str "first"])):=aq.new _ k;have L:=r _ _ B;refine Oe _ (.inr (bq.of ab)) rfl rfl ?_;right;have u:J.length=b.length:=by simpa using O
     by_cases M:An (.str g) qU=true
     ·have S:Ct m (.tup (.str g::b))=decide (b.length=0):=by
       show(if An (.str g) qU=true then decide (b.length=0) else _)=_;rw[if_pos M]
      rw[if_pos (show An (.str g) [.str "letter",.str "way",.str "first"]=true from M)];refine bL _ (.inr ⟨_,bq.of L,rfl⟩) ?_;right;have e:decide (((J.length+1:Nat):Int)=1)=decide (b.length=0):=by
       rw[u];by_cases z:b.length=0
       ·rw[aaj z,aaj ()]
       ·rw[aaq z,aaq ()]
      rw[S]at q;have c:=q _ r;rw[<-e]at c;exact c
     ·have S:Ct m (.tup (.str g::b))=JT g m b:=by
       show(if An (.str g) qU=true then decide (b.length=0) else _)=_;rw[if_neg M]
      rw[if_neg (show ¬An (.str g) [.str "letter",.str "way",.str "first"]=true from M)];refine bL _ (.inr ⟨_,bq.of L,rfl⟩) ?_;right;rw[S]at q;rcases b with _|⟨z,_|⟨z',b⟩⟩<;>rcases J with _|⟨y,_|⟨k,J⟩⟩
      ·rw[if_pos nofun];exact q _ r
      ·cases u
      ·cases u
      ·cases u
      ·skip
       rw[if_neg nofun];have o:=(U 1 y z rfl rfl).same r;obtain⟨t,l⟩:=Sr o;by_cases b:g="is"
       ·rw[if_pos (by simpa using b)];calc⟨_,_,.inr (bq.of L),rfl,y,t,rfl,l,?_⟩;have c:=q _ r;simp only[JT,if_pos b]at c;rw[N7 o];exact c
       ·rw[if_neg (by simpa using b)];have c:=q _ r;simp only[JT,if_neg b] at c;by_cases k:g="number"
        ·rw[if_pos (by simpa using k)];calc⟨_,_,.inr (bq.of L),rfl,y,t,0,m,rfl,l,?_⟩;rw[aaj k,Bool.true_and]at c;rw[N8 o];exact c
        ·rw[if_neg (by simpa using k)];rw[aaq k,Bool.false_and]at c;exact c
      ·simp at u
      ·cases u
      ·simp at u
      ·rw[if_pos (by simp;lia)];calc q _ r
abbrev oA:Stmt:=top 12
def me:Sp:=λvs H Q _=>∃(a:Addr) (xs:List V) (b c:Int),vs=[.ref a,.int b,.int c]/\(H a=some (.lst xs)\/H a=some (.tup xs))/\∀H',aq H H'->Q (.bl (decide (b<=(xs.length:Int))&&decide ((xs.length:Int)<=c))) H'
theorem CI(D:cL K mg "is_list" "is_list" oA eH)(T:Tx K mg C CN CR F FD):Def P w K mg base "is_list" 1 eH me:=by
 exists eH;obtain⟨a,d,g,i,rfl,b,q⟩:=h;have i:=hr.units;refine⟨_,(ak (aH (gk (aZ dw rfl T.bg yx (af (ao 0) (af (bu (af (di (v:=.ty "list") rfl T.dI vX rfl) (af (di (v:=.ty "tuple") rfl T.ck tm rfl) aa))) aa))) (iE (wj yW yW (ao 1) (aZ aN rfl T.bV T' (af (ao 0) aa)) (ao 2)))))),?_⟩;right;refine⟨cR,λp i=>?_⟩;have c:aq H (upd H p (.tup [.ty "list",.ty "tuple"])):=aq.new _ i;have e:∃t,gm K (upd H p (.tup [.ty "list",.ty "tuple"])) (.ref a) t/\W.kitAny K t [.type "list",.type "tuple"]=some true/\Ea K (.ref a) (upd H p (.tup [.ty "list",.ty "tuple"])) d.length:=by
  rcases b with b|b
  ·exact⟨_,.lst (c _ _ b),rfl,.inl ⟨_,aO.of (c _ _ b),rfl⟩⟩
  ·exact⟨_,.tup (c _ _ b),rfl,.inr ⟨_,bq.of (c _ _ b),rfl⟩⟩
 obtain⟨t,i,j,k⟩:=e;calc Sz t true _ _ i ab rfl j ?_;rw[if_pos rfl];calc bL _ k ?_;have b:=q _ c;by_cases h:g<=(d.length:Int)
 ·rw[if_pos (by simpa using h)];rw[aaj h,Bool.true_and]at b;exact b
 ·rw[if_neg (by simpa using h)];rw[aaq h,Bool.false_and]at b;calc b
abbrev oB:Stmt:=top 27
def AU(K:W.Frag):Sp:=λvs H Q _=>∃d:bf,vs=[.str d.word]/\∀p,bq K H p (d.sE.map V.str)->Q (.ref p) H
theorem CJ(D:cL K mg "form_of" "form_of" oB ["word"])(T:Tx K mg C CN CR F FD):Def P w K mg base "form_of" 1 ["word"] (AU K):=by
 exists["word"];obtain⟨d,rfl,q⟩:=h;have a:=hr.units;calc⟨_,(ak (aH (JM T.AR rfl T.AQ (af (ao 0) aa)))),?_⟩;obtain⟨p,a,b⟩:=T.Ly d;show Q ((PyProof.Rows.KTD.datumAt d.word FD).getD .bH) H;rw[a];calc q p (b H)
abbrev oC:Stmt:=top 28
inductive jE(H:Hp)(m:Int):V->Str->Prop
 |value {n x v}:HT H n x (Val.dv v)->v.ok m->jE H m x "value"
 |number {i}:0<=i->i<m->jE H m (.int i) "number"
 |many {i}:1<=i->i<25->jE H m (.int i) "many"
 |way {i}:0<=i->jE H m (.int i) "way"
theorem jE.same{H H':Hp}{m:Int}{x:V}{w:Str}(s:aq H H')(h:jE H m x w):jE H' m x w:=by
 cases h with
 |value a b=>calc .value (a.aA s.aJ) b
 |number a b=>calc .number a b
 |many a b=>calc .many a b
 |way a=>calc .way a
def AV:Sp:=λvs H Q _=>∃x w m,vs=[x,.str w,.int m]/\jE H m x w/\∀H',aq H H'->Q (.bl true) H'
theorem CK(D:cL K mg "is_part" "is_part" oC fy)(T:Tx K mg C CN CR F FD)(d:Def P w K mg base "is_value" 3 a0 F2)(g:Def P w K mg base "is_whole" 1 ["thing"] iC)(b:Def P w K mg base "is_within" 2 aL cb):Def P w K mg base "is_part" 4 fy AV:=by
 exists fy;obtain⟨x,w,m,rfl,c,q⟩:=h;have a:=hr.units;refine⟨_,(ai (aS (az (aQ a) (ao 1) aB (aG _)) (ak (aH (aE d hr (af (ao 0) (af (ao 2) aa))))) aI)
  (ai (aS (az (aQ a) (ao 1) aB (aG _)) (ak (aH (aE b hr (af (ao 0) (af ag (af (ao 2) aa)))))) aI)
  (ai (aS (az (aQ a) (ao 1) aB (aG _)) (ak (aH (aE b hr (af (ao 0) (af ag (af (aV cS (ft T.dJ rfl) ag) aa)))))) aI)
  (ak (aH (gk (aE g hr (af (ao 0) aa)) (iE (gB NJ (ao 0) ag (aG _))))))))),?_⟩
 right
 cases c with
 | @value n x v a b=>
  rw[if_pos ⋯];calc fv x m n _ rfl a.hd (λH' s=>?_);rw[N9 b];calc q H' s
 | @number i a b=>
  rw[if_neg ⋯,if_pos ⋯];calc fv (.int i) _ 0 m rfl (.int i) ?_;have e:inR 0 m (.int i)=true:=by simp[inR,a,b]
  rw[e];calc q H (aq.refl H)
 | @many i a b=>
  rw[if_neg ⋯,if_neg ⋯,if_pos ⋯];calc fv (.int i) _ 1 _ rfl (.int i) ?_;have e:inR 1 (24+1) (.int i)=true:=by simp[inR,a];lia
  rw[e];calc q H (aq.refl H)
 | @way i a=>
  rw[if_neg ⋯,if_neg ⋯,if_neg ⋯];calc⟨.int i,_,rfl,.int i,true,rfl,?_⟩;rw[if_pos rfl];have e:decide ((0:Int)<=i)=true:=aaj a;right;rw[e];calc q H (aq.refl H)
abbrev oE:Stmt:=top 29
theorem Yq{x:V}{ps:List V}:dq (x::ps) (some 1) none=ps:=by
 unfold dq;have e:HT.dY (x::ps).length 0 (some 1)=1:=by
  show(if (1:Int)<0 then((1:Int)+((x::ps).length:Int)).toNat else min (1:Int).toNat (x::ps).length)=1;rw[if_neg ∅];show min 1 (ps.length+1)=1;lia
 rw[e];show List.take ((x::ps).length-1) ps=ps;simp
theorem rg{H:Hp}{n:Nat}{x:V}{d:bf}{m:Int}(h:HT H n x d.dv)(f:d.ok m):∃a ps,x=.ref a/\H a=some (.tup (.str d.word::ps))/\ps.length=d.sE.length/\∀(i:Nat) p s,ps[i]?=some p->d.sE[i]?=some s->jE H m p s:=by
 cases d with
 |set i v=>
  nofun;obtain⟨a,u,y,z,k,rfl,e,g,l,o⟩:=bE h;obtain rfl:=g.cE;obtain rfl:=l.cj;ac_rfl;refine vf a _ rfl e rfl (λj p s b c=>?_)
  match j,b,c with
  |0,b,c=>cases b;cases c;calc .number f.1 f.2.1
  |1,b,c=>cases b;cases c;calc .value o f.2.2
 |add i v=>
  nofun;obtain⟨a,u,y,z,k,rfl,e,g,l,o⟩:=bE h;obtain rfl:=g.cE;obtain rfl:=l.cj;ac_rfl;refine vf a _ rfl e rfl (λj p s b c=>?_)
  match j,b,c with
  |0,b,c=>cases b;cases c;calc .number f.1 f.2.1
  |1,b,c=>cases b;cases c;calc .value o f.2.2
 |times i v=>
  nofun;obtain⟨a,u,y,z,k,rfl,e,g,l,o⟩:=bE h;obtain rfl:=g.cE;obtain rfl:=l.cj;ac_rfl;refine vf a _ rfl e rfl (λj p s b c=>?_)
  match j,b,c with
  |0,b,c=>cases b;cases c;calc .number f.1 f.2.1
  |1,b,c=>cases b;cases c;calc .value o f.2.2
 |put v=>
  nofun;obtain⟨a,u,y,k,rfl,e,g,l⟩:=dH h;obtain rfl:=g.cE;ac_rfl;refine vf a _ rfl e rfl (λj p s b c=>?_)
  match j,b,c with
  |0,b,c=>cases b;cases c;calc .value l f
 |drop=>
  nofun;obtain⟨a,u,k,rfl,e,g⟩:=iH h;obtain rfl:=g.cE;ac_rfl;calc⟨a,_,rfl,e,rfl,λj p s b c=>by simp at b⟩
 |send j v=>
  nofun;obtain⟨a,u,y,z,k,rfl,e,g,l,o⟩:=bE h;obtain rfl:=g.cE;obtain rfl:=l.cj;ac_rfl;refine vf a _ rfl e rfl (λj p s b c=>?_)
  match j,b,c with
  |0,b,c=>cases b;cases c;calc .way f.1
  |1,b,c=>cases b;cases c;calc .value o f.2
 |say v=>
  nofun;obtain⟨a,u,y,k,rfl,e,g,l⟩:=dH h;obtain rfl:=g.cE;ac_rfl;refine vf a _ rfl e rfl (λj p s b c=>?_)
  match j,b,c with
  |0,b,c=>cases b;cases c;calc .value l f
 |skip v w i=>
  nofun;obtain⟨a,u,y,z,t,k,rfl,e,g,l,o,q⟩:=nk h;obtain rfl:=g.cE;obtain rfl:=q.cj;ac_rfl;refine vf a _ rfl e rfl (λj p s b c=>?_)
  match j,b,c with
  |0,b,c=>cases b;cases c;calc .value l f.1
  |1,b,c=>cases b;cases c;calc .value o f.2.1
  |2,b,c=>cases b;cases c;calc .many f.2.2.1 f.2.2.2
theorem zl:d.sE.length<=3:=by cases d<;>simp[bf.sE]
def ui:Sp:=λvs H Q _=>∃x m n d,vs=[x,.int m]/\HT H n x (bf.dv d)/\d.ok m/\∀H',aq H H'->Q (.bl true) H'
theorem CL(D:cL K mg "is_deed" "is_deed" oE a0)(T:Tx K mg C CN CR F FD)(k:Def P w K mg base "form_of" 1 ["word"] (AU K))(O:Def P w K mg base "is_part" 4 fy AV):Def P w K mg base "is_deed" 5 a0 ui:=by
 exists["thing","many","form"];obtain⟨x,m,n,d,rfl,G,I,q⟩:=h;have g:=hr.units;refine⟨_,(ai (aS (PW.pt (pw_or (cC (bN (aZ dw rfl T.bg yx (af (ao 0) (af (di (v:=.ty "tuple") rfl T.ck tm rfl) aa))))) (pw_or (az (aQ g) (aZ aN rfl T.bV T' (af (ao 0) aa)) ag (aG _)) (pw_or1 (cC (bN (aZ dw rfl T.bg yx (af (aj g (ao 0) ag) (af (di (v:=.ty "str") rfl T.AO PyProof.Rows.boot_str rfl) aa))))))))) (ak (aH j7)) aI)
  (ai (aT (i:=2) sc rfl Sort (aE k hr (af (aj g (ao 0) ag) aa)))
  (ai (aS (PW.pt (pw_or (az EK (ao 2) lV (aG _)) (pw_or1 (az (gD g) (aZ aN rfl T.bV T' (af (ao 0) aa)) (aV cS (aZ aN rfl T.bV T' (af (ao 2) aa)) ag) (aG _))))) (ak (aH j7)) aI)
  (ak (aH (aZ (jh rfl) rfl T.ue Rq (af (dD (N':=["part","sort","many"]) (ix:=[none,none,some 1]) (Fc rfl T.FQ (af (lY (ao 0) (fm ag) jz) (af (ao 2) aa))) (λ_ _ _ _=>(nc (K:=K) rfl (i:=0) (j:=1) rfl (show(["part","sort","many"]:List Str).Nodup by decide +kernel) rfl rfl Sort Sort)) nu (λ_ _ _ _=>(aE O hr (af (ao 0) (af (ao 1) (af (ao 2) aa)))))) aa))))))),?_⟩
 obtain⟨a,ps,rfl,g,k,R⟩:=rg G I;have O:=zl (d:=d);right;calc cT _ true (.tup g) rfl ?_;simp only[Bool.not_true,Bool.false_eq_true,if_false];calc bL _ (.inr ⟨_,bq.of g,rfl⟩) ?_;rw[if_neg (by simp;lia)];calc⟨_,.str d.word,.inr (bq.of g),av (j:=0) rfl,_,true,.str _,rfl,?_⟩;simp only[Bool.not_true,Bool.false_eq_true,if_false];calc⟨_,.str d.word,.inr (bq.of g),av (j:=0) rfl,d,rfl,λp G=>?_⟩;right;rw[if_neg M'];calc⟨_,.inr ⟨_,bq.of g,rfl⟩,_,.inr ⟨_,G,rfl⟩,?_⟩;rw[if_neg (by simp[k])];calc bC ?_;right;calc .inr ⟨_,g,λI H2 y l=>?_⟩;rw[Yq]at l;have o:=y.Qo G;calc fv false false _ _ (Sq.t l) o (λD L=>?_);refine aY (J:=Wj false false K I p) (n:=ps.length) (λi ys H'=>ys=List.replicate i (V.bl true)/\aq H2 H') (L' (aD ())) ⟨rfl,aq.new _ L⟩ ?_ ?_ ?_ ?_
 ·rintro i ys H' B ⟨_,c⟩;exact⟨ps,d.sE.map V.str,ps[i],.str (d.sE[i]'()),Sq.t (c _ _ l),c.Qo o,bU B,by rw[A',bU ()];rfl⟩
 ·rintro ys H' ⟨_,c⟩;exact⟨ps,d.sE.map V.str,Sq.t (c _ _ l),c.Qo o,.inl rfl⟩
 ·intro i ys H' B r M S x H4 U;nofun;obtain⟨rfl,c⟩:=S;obtain⟨T,W,rfl,X⟩:=U;obtain⟨u,v,Y,N,rfl⟩:=X ps (d.sE.map V.str) (Sq.t (c _ _ l)) (c.Qo o);rw[A']at N;obtain⟨z,Z,rfl⟩:=Option.map_eq_some_iff.mp N;ac_rfl;have g:aq H' (upd H' T (.tup [u,.str z])):=aq.new _ W;calc zf (bq.of ab) ⟨Ext.set (Ext.set (Ext.refl _) rfl) rfl,?_⟩;right;rw[if_pos trivial];calc Yk u z m rfl ((R i u z Y Z).same (y.trans (c.trans g))) (λl k=>?_);have n:l D=some (.lst (List.replicate i (V.bl true))):=k _ _ (g _ _ r);calc bX n M B (L' (aD ())) ⟨jk _ _,λb o e=>?_⟩;rw[ax (au e L)];exact k _ _ (g _ _ (c _ _ e))
 ·rintro ys H' r M ⟨rfl,c⟩;right;rw[oq] at r;calc bL _ (aO.of r) ?_;have e:(List.replicate ps.length true).all id=true:=by simp
  rw[e];calc q _ (y.trans c)
abbrev iJ:Stmt:=top 35
def LT(H:Hp)(a:Addr)(xs:List V):Prop:=H a=some (.lst xs)\/H a=some (.tup xs)
theorem LT.same{xs:List V}(s:aq H H')(h:LT H a xs):LT H' a xs:=h.elim (λz=>.inl (s _ _ z)) (λz=>.inr (s _ _ z))
theorem jq{K:W.Frag}(h:LT H a ys)(q:∀p H',aq H H'->H' p=some (.tup ys)->Q (.ref p) H'):u6 K [.ref a] H Q:=by
 rcases h with h|h
 ·exact .inl ⟨_,aO.of h,λl b=>q l _ (aq.new _ b) ab⟩
 ·calc .inr ⟨_,bq.of h,q a H (aq.refl H) h⟩
def rj:Sp:=λvs H Q _=>∃(a:Addr) (ns:List Int) (c b M:Int),vs=[.ref a,.int c,.int b,.int M]/\LT H a (ns.map V.int)/\c<=(ns.length:Int)/\(ns.length:Int)<=b/\b<=100/\(∀z∈ns,0<=z/\z<M)/\∀H',aq H H'->Q (.bl true) H'
theorem sL(D:cL K mg "are_counted" "are_counted" iJ dX)(T:Tx K mg C CN CR F FD)(I:Def P w K mg base "is_list" 1 eH me)(L:Def P w K mg base "is_within" 2 aL cb):Def P w K mg base "are_counted" 3 dX rj:=by
 exists dX;obtain⟨a,ns,z,B,M,rfl,g,G,m,N,v,q⟩:=h;have N:=hr.units;refine⟨_,(ak (aH (gk (aE I hr (af (ao 0) (af (ao 1) (af (ao 2) aa)))) (iE (aZ (jh rfl) rfl T.ue Rq (af (dD (N':=["thing","modulus"]) (ix:=[none,some 3]) (bR (pv 0)) (λ_ _ _ _=>(aP (i:=0) (show(["thing","modulus"]:List Str).Nodup by decide +kernel) rfl Sort)) nu (λ_ _ _ _=>(aE L hr (af (ao 0) (af ag (af (ao 1) aa)))))) aa)))))),?_⟩;right;refine fv a _ z B rfl g (λH1 k=>?_);rw[R',aaj G,aaj m];show ∃c,V.bl true=.bl c/\_;refine bL true rfl ?_;rw[if_pos rfl];refine bC ?_;right;rcases g with g | g
 ·calc .inl ⟨⟨_,aO.of (k _ _ g)⟩,λD p=>?_⟩;refine aY (J:=tF K a) (n:=ns.length) (λi ys H'=>ys=List.replicate i (V.bl true)/\aq H1 H') (L' (aD ())) ⟨rfl,aq.new _ p⟩ ?_ ?_ ?_ ?_
  ·rintro i ys H' j ⟨_,d⟩;exact⟨_,.int ns[i],aO.of (d _ _ (k _ _ g)),by rw[A',bU j];rfl⟩
  ·rintro ys H' ⟨_,d⟩;exact⟨_,aO.of (d _ _ (k _ _ g)),nofun⟩
  ·intro i ys H' j l r O x R S;nofun;obtain⟨rfl,d⟩:=O;obtain⟨rfl,y⟩:=S;have t:=y _ (aO.of (d _ _ (k _ _ g)));rw[A',bU j] at t;obtain rfl:=Option.some.inj t;ac_rfl;walk_at "xf";right;rw[if_pos trivial];refine fv (.int ns[i]) _ 0 M rfl (.int _) ?_;have u:=v ns[i] (aan j);have e:inR 0 M (.int ns[i])=true:=by simp[inR,u.1,u.2]
   rw[e];calc bX l r j (L' (aD ())) ⟨jk _ _,λb o e=>?_⟩;rw[ax (au e p)];exact d _ _ e
  ·rintro ys H' l r ⟨rfl,d⟩;right;rw[oq] at l;calc bL _ (aO.of l) ?_;have e:(List.replicate ns.length true).all id=true:=by simp
   rw[e];exact q _ (k.trans d)
 ·calc .inr ⟨⟨_,bq.of (k _ _ g)⟩,λD p=>?_⟩;refine aY (J:=Rz K a) (n:=ns.length) (λi ys H'=>ys=List.replicate i (V.bl true)/\aq H1 H') (L' (aD ())) ⟨rfl,aq.new _ p⟩ ?_ ?_ ?_ ?_
  ·rintro i ys H' j ⟨_,d⟩;exact⟨_,.int ns[i],bq.of (d _ _ (k _ _ g)),by rw[A',bU j];rfl⟩
  ·rintro ys H' ⟨_,d⟩;exact⟨_,bq.of (d _ _ (k _ _ g)),nofun⟩
  ·intro i ys H' j l r U x R W;nofun;obtain⟨rfl,d⟩:=U;obtain⟨rfl,y⟩:=W;have t:=y _ (bq.of (d _ _ (k _ _ g)));rw[A',bU j] at t;obtain rfl:=Option.some.inj t;ac_rfl;walk_at "xf";right;rw[if_pos trivial];refine fv (.int ns[i]) _ 0 M rfl (.int _) ?_;have u:=v ns[i] (aan j);have e:inR 0 M (.int ns[i])=true:=by simp[inR,u.1,u.2]
   rw[e];calc bX l r j (L' (aD ())) ⟨jk _ _,λb o e=>?_⟩;rw[ax (au e p)];exact d _ _ e
  ·rintro ys H' l r ⟨rfl,d⟩;right;rw[oq] at l;calc bL _ (aO.of l) ?_;have e:(List.replicate ns.length true).all id=true:=by simp
   rw[e];calc q _ (k.trans d)
abbrev fM:Stmt:=top 36
def AX:Sp:=λvs H Q _=>∃(M:Int) (a b ad:Addr) (ns row:List Int) (xs:List V),vs=[.int M,.ref a,.ref b,.ref ad]/\2<=M/\M<=1000000000000/\LT H a (ns.map V.int)/\LT H b (row.map V.int)/\LT H ad xs/\1<=ns.length/\ns.length<=4/\row.length<=12/\(∀z∈ns,0<=z/\z<M)/\(∀z∈row,0<=z/\z<M)/\∀H',aq H H'->Q .bH H'
theorem oH(D:cL K mg "refuse_machine" "refuse_machine" fM d8)(T:Tx K mg C CN CR F FD)(b:Def P w K mg base "are_counted" 3 dX rj)(r:Def P w K mg base "is_within" 2 aL cb):Def P w K mg base "refuse_machine" 4 d8 AX:=by
 exists d8;obtain⟨M,c,d,ad,ns,row,u,rfl,g,x,i,j,k,y,B,G,l,m,q⟩:=h;have u:=hr.units;refine⟨_,(ai (aS (cC (bN (aE r hr (af (ao 0) (af ag (af (aV cS (ft T.dA rfl) ag) aa)))))) (ak cW) aI)
  (ai (aS (cC (bN (aE b hr (af (ao 1) (af ag (af (ft T.dB rfl) (af (ao 0) aa))))))) (ak cW) aI)
  (ai (aS (cC (bN (aE b hr (af (ao 2) (af ag (af (ft T.eU rfl) (af (ao 0) aa))))))) (ak cW) aI)
  (ak (aS (cC (bN (aZ dw rfl T.bg yx (af (ao 3) (af (bu (af (di (v:=.ty "list") rfl T.dI vX rfl) (af (di (v:=.ty "tuple") rfl T.ck tm rfl) aa))) aa))))) (ak cW) aI))))),?_⟩
 right;calc fv (.int M) _ 2 _ rfl (.int M) ?_;have e:inR 2 (1000000000000+1) (.int M)=true:=by simp[inR,g];lia
 rw[e];right;rw[if_neg ∅];calc SA c ns 1 4 M rfl i () () ∅ l (λH1 a=>?_);right;rw[if_neg ∅];calc SA d row 0 12 M rfl (j.same a) () () ∅ m (λH2 n=>?_);right;rw[if_neg ∅];calc⟨cR,λp b=>?_⟩;have o:aq H2 (upd H2 p (.tup [.ty "list",.ty "tuple"])):=aq.new _ b;have I:∃t,gm K (upd H2 p (.tup [.ty "list",.ty "tuple"])) (.ref ad) t/\W.kitAny K t [.type "list",.type "tuple"]=some true:=by
  rcases k.same (a.trans (n.trans o)) with z|z
  ·exact⟨_,.lst z,rfl⟩
  ·exact⟨_,.tup z,rfl⟩
 obtain⟨t,b,c⟩:=I;calc Sz t true _ _ b ab rfl c ?_;right;rw[if_neg ∅];calc q _ (a.trans (n.trans o))
abbrev gQ:Stmt:=top 37
def DL(H:Hp)(n:Nat)(xs:List V)(a:List bf):Prop:=xs.length=a.length/\∀(i:Nat) x d,xs[i]?=some x->a[i]?=some d->HT H n x (bf.dv d)
theorem DL.aA{n:Nat}{xs:List V}{a:List bf}(s:bP H H')(h:DL H n xs a):DL H' n xs a:=⟨h.1,λi x d a b=>(h.2 i x d a b).aA s⟩
theorem DL.ht{n:Nat}{xs:List V}{b:List bf}(h:DL H n xs b)(e:H a=some (.tup xs)):HT H (n+1) (.ref a) (.tup (b.map bf.dv)):=by
 calc .tup e (by rw[R'];calc h.1) λi u d f c=>?_;rw[A']at c;obtain⟨dd,g,rfl⟩:=Option.map_eq_some_iff.mp c;calc h.2 i u dd f g
def AY:Sp:=λvs H Q _=>∃(a:Addr) (xs:List V) (b:List bf) (m:Int) (n:Nat),vs=[.ref a,.int m]/\LT H a xs/\DL H n xs b/\b.length<=24/\(∀d∈b,d.ok m)/\∀H',aq H H'->Q .bH H'
theorem rm(D:cL K mg "refuse_deeds" "refuse_deeds" gQ ["deeds","many"])(T:Tx K mg C CN CR F FD)(B:Def P w K mg base "is_deed" 5 a0 ui):Def P w K mg base "refuse_deeds" 6 ["deeds","many"] AY:=by
 exists["deeds","many","at","deed"];obtain⟨a,c,e,m,n,rfl,d,g,G,u,q⟩:=h;have G:=hr.units;refine⟨_,(ak (eI PassesOwn.never rfl (jC rfl T.dE (af (ao 0) aa)) (gq (i:=2) (j:=3) rfl sc rfl rfl Sort Sort)
  (ak (aS (PW.pt (pw_or (az (aQ G) (ao 2) (ft T.dJ rfl) (aG _)) (pw_or1 (cC (bN (aE B hr (af (ao 3) (af (ao 1) aa)))))))) (ak cW) aI)))),?_⟩
 rcases d with d|d
 ·calc Fy true c (Sq.l d) ?_;refine kj (xs:=c) (λi σ H'=>aq H H'/\∃k o,σ=[some (.ref a),some (.int m),k,o]) ⟨aq.refl H,none,none,rfl⟩ (λi σ H' ⟨b,_⟩=>Sq.l (b _ _ d)) ?_ ?_
  ·intro i x σ H1 T p I v;obtain⟨b,k,o,rfl⟩:=I;have y:i < c.length:=(List.getElem?_eq_some_iff.mp p).1;have iI:i < e.length:=by rw[<-g.1];exact y
   have r:aq H1 (upd H1 T (.tup [.int i,x])):=aq.new _ v;calc zf (bq.of ab) ?_;right;rw[if_neg (by simp;lia)];calc⟨x,m,n,e[i],rfl,(g.2 i x e[i] p (bU iI)).aA (b.trans r).aJ,u _ (aan iI),λJ z=>?_⟩;right
   first|rw[if_neg ∅]|skip
   exact⟨b.trans (r.trans z),_,_,rfl,rfl⟩
  ·rintro σ H1 ⟨b,_⟩;exact q _ b
 ·calc Fy false c (Sq.t d) ?_;refine kj (xs:=c) (λi σ H'=>aq H H'/\∃k o,σ=[some (.ref a),some (.int m),k,o]) ⟨aq.refl H,none,none,rfl⟩ (λi σ H' ⟨b,_⟩=>Sq.t (b _ _ d)) ?_ ?_
  ·intro i x σ H1 T p L v;obtain⟨b,k,o,rfl⟩:=L;have y:i < c.length:=(List.getElem?_eq_some_iff.mp p).1;have iI:i < e.length:=by rw[<-g.1];exact y
   have r:aq H1 (upd H1 T (.tup [.int i,x])):=aq.new _ v;calc zf (bq.of ab) ?_;right;rw[if_neg (by simp;lia)];calc⟨x,m,n,e[i],rfl,(g.2 i x e[i] p (bU iI)).aA (b.trans r).aJ,u _ (aan iI),λJ z=>?_⟩;right
   first|rw[if_neg ∅]|skip
   exact⟨b.trans (r.trans z),_,_,rfl,rfl⟩
  ·rintro σ H1 ⟨b,_⟩;calc q _ b
abbrev oK:Stmt:=(cq (top 41)).getD 0 (.Pass ⟨0,0,0,0⟩)
def Ip(M:Int)(st dd:V):List (Str×V):=bG "own_deeds" dd (bG "own_state" st (bG "own_modulus" (.int M) []))
theorem SR{M:Int}:(Ip M st dd).lookup ("own_modulus":Str)=some (.int M):=by
 unfold Ip;rw[aX,if_neg ⋯,aX,if_neg ⋯,aX,if_pos rfl]
theorem Ys{M:Int}:(Ip M st dd).lookup ("own_state":Str)=some st:=by
 unfold Ip;rw[aX,if_neg ⋯,aX,if_pos rfl]
theorem SS{M:Int}:(Ip M st dd).lookup ("own_deeds":Str)=some dd:=by
 unfold Ip;rw[aX,if_pos rfl]
theorem AZ{M:Int}(a:f≠"own_modulus")(b:f≠"own_state")(c:f≠"own_deeds"):(Ip M st dd).lookup f=none:=by
 unfold Ip;rw[aX,if_neg c,aX,if_neg b,aX,if_neg a];rfl
theorem iK{v:V}{a:List (Str×V)}{n:Nat}(h:a.length<n):(bG f v a).length<n+1:=by
 have:=kd f v a;lia
def jF(C:Addr)(H:Hp)(m:Addr)(M:Int)(ns row:List Int)(a:List bf):Prop:=∃b st dd,H m=some (.ins C b (Ip M st dd))/\HT H 2 st (wQ ns row)/\HT H 4 dd (.tup (a.map bf.dv))
theorem jF.same{C:Addr}{m:Addr}{M:Int}{a:List bf}(s:aq H H')(h:jF C H m M ns row a):jF C H' m M ns row a:=by
 obtain⟨a,st,dd,b,c,d⟩:=h;calc⟨a,st,dd,s _ _ b,c.aA s.aJ,d.aA s.aJ⟩
def A0(C:Addr):Sp:=λvs H Q _=>∃(x f:Addr) (M:Int) (c e ad:Addr) (ns row:List Int) (xs:List V) (a:List bf) (n:Nat),vs=[.ref x,.int M,.ref c,.ref e,.ref ad]/\H x=some (.ins C f [])/\2<=M/\M<=1000000000000/\LT H c (ns.map V.int)/\LT H e (row.map V.int)/\LT H ad xs/\1<=ns.length/\ns.length<=4/\row.length<=12/\
 (∀z∈ns,0<=z/\z<M)/\(∀z∈row,0<=z/\z<M)/\DL H n xs a/\n<=3/\a.length<=24/\(∀d∈a,d.ok ns.length)/\∀H',jF C H' x M ns row a->(∀b o,b≠x->H b=some o->H' b=some o)->Q .bH H'
theorem CQ(D:Cs K mg "Machine" C "Machine.__init__" oK dj)(T:Tx K mg C CN CR F FD)(gR:Def P w K mg base "refuse_deeds" 6 ["deeds","many"] AY)(fN:Def P w K mg base "refuse_machine" 4 d8 AX):wN P w K mg base "Machine" C 7 dj (A0 C):=by
 exists dj;obtain⟨x,a,M,J,ar,ad,ns,row,r,ds,n,rfl,t,CM,oI,u,L,j,vZ,Lz,nv,hb,Ow,N,k,LC,aU,q⟩:=h;have k:=hr.units;refine⟨_,(ai (bS (aE fN hr (af (ao 1) (af (ao 2) (af (ao 3) (af (ao 4) aa))))))
  (ai (bS (aE gR hr (af (ao 4) (af (aZ aN rfl T.bV T' (af (ao 2) aa)) aa))))
  (ai (fg (ao 0) (ao 1) (gc rfl))
  (ai (fg (ao 0) (bu (af (cQ cn rfl T.ck tm (af (ao 2) aa)) (af (cQ cn rfl T.ck tm (af (ao 3) aa)) aa))) (gc rfl))
  (ak (fg (ao 0) (cQ cn rfl T.ck tm (af (ao 4) aa)) (gc rfl))))))),?_⟩
 try walk_at "rt"
 refine⟨M,J,ar,ad,ns,row,r,rfl,CM,oI,u,L,j,vZ,Lz,nv,hb,Ow,λH1 v=>?_⟩
 try walk_at "rt"
 have k:Ea K (.ref J) H1 (ns.map V.int).length:=(u.same v).elim (λz=>.inl ⟨_,aO.of z,rfl⟩) (λz=>.inr ⟨_,bq.of z,rfl⟩);calc bL _ k ?_;calc Yo ad r ds _ n rfl (j.same v) (N.aA v.aJ) LC (by rw[R'];calc aU) (λH2 J=>?_);have Iq:=v.trans J
 try walk_at "rt"
 have k:=Iq _ _ t;calc⟨x,C,a,[],rfl,k,T.cy,T.Lw,∅,?_⟩;have l:∀{b:Addr} {ys:List V},LT H b ys->b≠x:=λh z=>by
  subst z;rcases h with h|h<;>(rw[t]at h;cases h)
 have O:∀b o,b≠x->H b=some o->upd H2 x (.ins C a (bG "own_modulus" (.int M) [])) b=some o:=λb o d e=>by rw[ax d];exact Iq _ _ e
 have m:∀{b:Addr} {ys:List V},LT H b ys->LT (upd H2 x (.ins C a (bG "own_modulus" (.int M) []))) b ys:=λh=>by
  have g:=l h;exact h.elim (λz=>.inl (O _ _ g z)) (λz=>.inr (O _ _ g z))
 have p:upd H2 x (.ins C a (bG "own_modulus" (.int M) [])) x=some (.ins C a (bG "own_modulus" (.int M) [])):=ab;generalize SU:upd H2 x (.ins C a (bG "own_modulus" (.int M) []))=G2 at *
 try walk_at "rt"
 refine jq (m u) λy k s3 zo=>?_
 try walk_at "rt"
 refine jq ((m L).same s3) λB R s4 qj=>?_
 try walk_at "rt"
 calc⟨cR,λc k=>?_⟩;have S:=aq.new (.tup [.ref y,.ref B]) k;have U:=s3.trans (s4.trans S)
 try walk_at "rt"
 calc CA x C a _ rfl (U _ _ p) T.cy T.Ol (iK (n:=999) ∅) ?_;have W:HT (upd R c (.tup [.ref y,.ref B])) 2 (.ref c) (wQ ns row):=dy ab (ng (S _ _ (s4 _ _ zo))) (ng (S _ _ qj));have Yu:=U _ _ p;have I:∀b o,b≠x->H b=some o->upd R c (.tup [.ref y,.ref B]) b=some o:=λb o d e=>U _ _ (O b o d e);generalize hG:upd R c (.tup [.ref y,.ref B])=G at *;have tG:bP H G:=λb ys e=>I b _ (λz=>by subst z;rw[t]at e;cases e) e;have t6:bP G (upd G x (.ins C a (bG "own_state" (.ref c) (bG "own_modulus" (.int M) [])))):=(bP.refl G).upd λys e=>by rw[Yu]at e;cases e
 have e6:LT (upd G x (.ins C a (bG "own_state" (.ref c) (bG "own_modulus" (.int M) [])))) ad r:=by
  have g:=l j;exact j.elim (λz=>.inl (by rw[ax g];calc I _ _ g z)) (λz=>.inr (by rw[ax g];calc I _ _ g z))
 have n6:∀b o,b≠x->H b=some o->upd G x (.ins C a (bG "own_state" (.ref c) (bG "own_modulus" (.int M) []))) b=some o:=λb o d e=>by rw[ax d];exact I b o d e
 have X:upd G x (.ins C a (bG "own_state" (.ref c) (bG "own_modulus" (.int M) []))) x=some (.ins C a (bG "own_state" (.ref c) (bG "own_modulus" (.int M) []))):=ab;generalize Ws:upd G x (.ins C a (bG "own_state" (.ref c) (bG "own_modulus" (.int M) [])))=G6 at *
 try walk_at "rt"
 refine jq e6 λY H7 i Z=>?_
 try walk_at "rt"
 calc CA x C a _ rfl (i _ _ X) T.cy T.Lx (iK (n:=999) (iK (n:=998) ∅)) ?_;have ne4:Y≠x:=λz=>by subst z;rw[i _ _ X]at Z;cases Z
 have t8:bP H7 (upd H7 x (.ins C a (Ip M (.ref c) (.ref Y)))):=(bP.refl _).upd λys e=>by rw[i _ _ X]at e;cases e
 refine q _ ⟨a,.ref c,.ref Y,ab,(W.aA t6).aA (i.aJ.trans t8),?_⟩ λb o d e=>?_
 ·calc HT.mono (n:=n+1) ?_ ();calc DL.ht (N.aA (tG.trans (t6.trans (i.aJ.trans t8)))) ?_;rw[ax ne4];exact Z
 ·rw[ax d];calc i _ _ (n6 b o d e)
abbrev d7:Stmt:=(cq (top 41)).getD 2 (.Pass ⟨0,0,0,0⟩)
def F4(C:Addr):Sp:=λvs H Q _=>∃(m:Addr) (M:Int) (ns row:List Int) (a:List bf),vs=[.ref m]/\jF C H m M ns row a/\∀st,HT H 2 st (wQ ns row)->Q st H
theorem j4(D:ji K C "first_state" "Machine.first_state" d7 bh)(T:Tx K mg C CN CR F FD):cX P w K mg base C "first_state" 1 bh (F4 C):=by
 exists bh;obtain⟨m,M,ns,row,d,rfl,⟨a,st,dd,b,c,e⟩,q⟩:=h;have d:=hr.units;calc⟨_,(ak (aH (bJ (ao 0) rfl))),?_⟩;calc⟨m,C,a,_,_,rfl,b,T.cy,T.Ol,Ys,q _ c⟩
theorem SV{H:Hp}{n:Nat}{x:V}{b:List bf}(h:HT H (n+1) x (.tup (b.map bf.dv))):∃a xs,x=.ref a/\H a=some (.tup xs)/\DL H n xs b:=by
 cases h with
 | @tup _ a xs _ e l i=>
  calc⟨a,xs,rfl,e,by simpa using l,λj x d b c=>i j x _ b ?_⟩;rw[A',c];rfl
def fc(H:Hp)(n:Nat)(ys:List V)(es:List DV):Prop:=ys.length=es.length/\∀(i:Nat) y e,ys[i]?=some y->es[i]?=some e->HT H n y e
theorem fc.nil{n:Nat}:fc H n [] []:=⟨rfl,λi y e h=>by simp at h⟩
theorem fc.aA{n:Nat}(h:fc H n ys es)(t:bP H H'):fc H' n ys es:=⟨h.1,λi y e a b=>(h.2 i y e a b).aA t⟩
theorem fc.snoc{n:Nat}{y:V}{e:DV}(h:fc H n ys es)(g:HT H n y e):fc H n (ys++[y]) (es++[e]):=by
 calc⟨by simp[h.1],λi c f a b=>?_⟩;by_cases c:i<ys.length
 ·rw[W' c]at a;rw[W' (by rw[<-h.1];calc c)]at b;exact h.2 i _ _ a b
 ·rw[P' ()] at a;rw[P' (by rw[<-h.1];lia),<-h.1] at b
  cases d:i-ys.length with
  |zero=>rw[d]at a b;cases a;cases b;calc g
  |succ k=>rw[d]at a;simp at a
theorem fc.dl{n:Nat}{xs:List V}{a:List bf}(h:fc H n xs (a.map bf.dv)):DL H n xs a:=⟨by simpa using h.1,λi x d a b=>h.2 i x _ a (by rw[A',b];rfl)⟩
abbrev rq:Stmt:=top 47
abbrev Qv(C:Addr)(H:Hp)(m:Addr)(d:MD):Prop:=jF C H m d.M d.ns d.row d.ds
def jr(w:Int×Int×Str):DV:=.tup [.int w.1,.int w.2.1,.str w.2.2]
def mh(l:Int×Int):DV:=.tup [.int l.1,.int l.2]
def uj(m:Int)(w:Int×Int×Str):Prop:=0<=w.1/\w.1<m/\0<=w.2.1/\w.2.1<m/\(w.2.2="row"\/w.2.2="heap")
def uk(m:Int)(l:Int×Int):Prop:=0<=l.1/\l.1<m/\1-1000000000000000000000000000000000000000000000000000000000000<=l.2/\l.2<1000000000000000000000000000000000000000000000000000000000000
def xj:Sp:=λvs H Q _=>∃(x:V) (n:Nat) (a b:Int) (c:Str) (m:Int),vs=[x,.int m]/\HT H n x (jr (a,b,c))/\uj m (a,b,c)/\∀H',aq H H'->Q (.bl true) H'
theorem F5(D:cL K mg "is_way" "is_way" rq a0)(T:Tx K mg C CN CR F FD)(l:Def P w K mg base "is_within" 2 aL cb):Def P w K mg base "is_way" 3 a0 xj:=by
 exists a0;obtain⟨x,n,c,d,g,m,rfl,o,r,q⟩:=h;have i:=hr.units;refine⟨_,(ai (aS (PW.pt (pw_or (cC (bN (aZ dw rfl T.bg yx (af (ao 0) (af (di (v:=.ty "tuple") rfl T.ck tm rfl) aa))))) (pw_or (az (gD i) (aZ aN rfl T.bV T' (af (ao 0) aa)) ag (aG _)) (pw_or1 (cC (bN (aZ dw rfl T.bg yx (af (aj i (ao 0) ag) (af (di (v:=.ty "str") rfl T.AO PyProof.Rows.boot_str rfl) aa))))))))) (ak (aH j7)) aI)
  (ak (aH (gk (aE l hr (af (aj i (ao 0) ag) (af ag (af (ao 1) aa)))) (gk (aE l hr (af (aj i (ao 0) ag) (af ag (af (ao 1) aa)))) (iE (gB EL (aj i (ao 0) ag) (bu (af aB (af aB aa))) (by with_unfolding_all rfl)))))))),?_⟩
 nofun;obtain⟨a,G,I,J,k,rfl,b,t,u,y⟩:=bE o;obtain rfl:=t.cj;obtain rfl:=u.cj;obtain rfl:=y.cE
 replace b:H a=some (.tup [.int c,.int d,.str g]):=b
 obtain⟨i,k,l,n,z⟩:0<=c/\c<m/\0<=d/\d<m/\(g="row"\/g="heap"):=r;ac_rfl;left;refine cT _ true (.tup b) rfl ?_;simp only[Bool.not_true,Bool.false_eq_true,if_false];refine bL _ (.inr ⟨_,bq.of b,rfl⟩) ?_;rw[if_neg nofun];refine⟨_,_,.inr (bq.of b),av (j:=2) rfl,_,true,.str _,rfl,?_⟩;simp only[Bool.not_true,Bool.false_eq_true,if_false];left;refine cT _ _ (.inr (bq.of b)) (av (j:=0) rfl) ?_;refine fv (.int c) _ 0 m rfl (.int c) ?_;rw[show inR 0 m (.int c)=true by simp[inR,i,k]];left;rw[if_pos trivial];refine cT _ _ (.inr (bq.of b)) (av (j:=1) rfl) ?_;refine fv (.int d) _ 0 m rfl (.int d) ?_;rw[show inR 0 m (.int d)=true by simp[inR,l,n]];left;rw[if_pos trivial];refine vf _ _ (.inr (bq.of b)) (av (j:=2) rfl) cR (λp B=>?_);refine Oe _ (.inr (bq.of ab)) rfl rfl ?_;have e:An (.str g) [.str "row",.str "heap"]=true:=by
  rcases z with rfl|rfl<;>decide +kernel
 rw[e];calc q _ (aq.new _ B)
abbrev ku:Stmt:=top 48
def xk:Sp:=λvs H Q _=>∃(x:V) (n:Nat) (a b:Int) (m:Int),vs=[x,.int m]/\HT H n x (mh (a,b))/\uk m (a,b)/\Q (.bl true) H
theorem xl(D:cL K mg "is_letter" "is_letter" ku a0)(T:Tx K mg C CN CR F FD)(g:Def P w K mg base "is_within" 2 aL cb):Def P w K mg base "is_letter" 3 a0 xk:=by
 exists a0;obtain⟨x,n,b,c,m,rfl,i,l,q⟩:=h;have e:=hr.units;refine⟨_,(ai (aS (PW.pt (pw_or (cC (bN (aZ dw rfl T.bg yx (af (ao 0) (af (di (v:=.ty "tuple") rfl T.ck tm rfl) aa))))) (pw_or1 (az (gD e) (aZ aN rfl T.bV T' (af (ao 0) aa)) ag (aG _))))) (ak (aH j7)) aI)
  (ak (aH (gk (aE g hr (af (aj e (ao 0) ag) (af ag (af (ao 1) aa)))) (iE (aE g hr (af (aj e (ao 0) ag) (af (aV fq ag (ft T.dM rfl)) (af (ft T.dM rfl) aa))))))))),?_⟩
 nofun;obtain⟨a,r,t,k,rfl,d,o,p⟩:=dH i;obtain rfl:=o.cj;obtain rfl:=p.cj
 replace d:H a=some (.tup [.int b,.int c]):=d
 obtain⟨e,g,i,k⟩:0<=b/\b<m/\1-1000000000000000000000000000000000000000000000000000000000000<=c/\c<1000000000000000000000000000000000000000000000000000000000000:=l;ac_rfl;left;calc cT _ true (.tup d) rfl ?_;simp only[Bool.not_true,Bool.false_eq_true,if_false];calc bL _ (.inr ⟨_,bq.of d,rfl⟩) ?_;rw[if_neg nofun];left;calc cT _ _ (.inr (bq.of d)) (av (j:=0) rfl) ?_;calc fv (.int b) _ 0 m rfl (.int b) ?_;rw[show inR 0 m (.int b)=true by simp[inR,e,g]];left;rw[if_pos trivial];calc cT _ _ (.inr (bq.of d)) (av (j:=1) rfl) ?_;calc fv (.int c) _ _ _ rfl (.int c) ?_;rw[show inR (1-1000000000000000000000000000000000000000000000000000000000000) 1000000000000000000000000000000000000000000000000000000000000 (.int c)=true by simp only[inR,decide_eq_true i,decide_eq_true k,Bool.and_self]];calc q
abbrev jG:Stmt:=top 49
def A7(C:Addr):Sp:=λvs H Q _=>∃(b c d:Addr) (ms:List Addr) (wv a:List V) (ws:List (Int×Int×Str)) (ls:List (Int×Int)),vs=[.ref b,.ref c,.ref d]/\H b=some (.lst (ms.map V.ref))/\H c=some (.lst wv)/\H d=some (.lst a)/\1<=ms.length/\ms.length<=5/\wv.length<=10/\a.length<=20/\(∀m∈ms,∃e f,H m=some (.ins C e f))/\fc H 1 wv (ws.map jr)/\fc H 1 a (ls.map mh)/\(∀w∈ws,uj ms.length w)/\(∀l∈ls,uk wv.length l)/\∀H',aq H H'->Q .bH H'
theorem vk(D:cL K mg "refuse_net" "refuse_net" jG eX)(T:Tx K mg C CN CR F FD)(kx:Def P w K mg base "is_letter" 3 a0 xk)(M:Def P w K mg base "is_list" 1 eH me)(rz:Def P w K mg base "is_way" 3 a0 xj):Def P w K mg base "refuse_net" 4 eX (A7 C):=by
 exists eX;obtain⟨N,O,R,ms,wv,t,ws,ls,rfl,z,S,zw,Iu,Iw,p5,df,Ox,U,W,J8,iz,q⟩:=h;have hu:=hr.units;refine⟨_,(ai (aS (PW.pt (pw_or (cC (bN (aE M hr (af (ao 0) (af ag (af (ft T.cU rfl) aa)))))) (pw_or1 (cC (bN (aZ (jh rfl) rfl T.ue Rq (af (dD (N':=["one"]) (ix:=[none]) (bR (pv 0)) (λ_ _ _ _=>(aP (i:=0) (show(["one"]:List Str).Nodup by decide +kernel) rfl Sort)) nu (λ_ _ _ _=>(aZ (Fu (K:=K) rfl) rfl T.bg yx (af (ao 0) (af (zW (v:=.ref C) rfl T.uf rfl) aa))))) aa))))))) (ak cW) aI)
  (ai (aS (PW.pt (pw_or (cC (bN (aE M hr (af (ao 1) (af ag (af (ft T.e9 rfl) aa)))))) (pw_or1 (cC (bN (aZ (jh rfl) rfl T.ue Rq (af (dD (N':=["way","machines"]) (ix:=[none,some 0]) (bR (pv 1)) (λ_ _ _ _=>(aP (i:=0) (show(["way","machines"]:List Str).Nodup by decide +kernel) rfl Sort)) nu (λ_ _ _ _=>(aE rz hr (af (ao 0) (af (aZ (qR (K:=K) rfl) rfl T.bV T' (af (ao 1) aa)) aa))))) aa))))))) (ak cW) aI)
  (ak (aS (PW.pt (pw_or (cC (bN (aE M hr (af (ao 2) (af ag (af (ft T.dC rfl) aa)))))) (pw_or1 (cC (bN (aZ (jh rfl) rfl T.ue Rq (af (dD (N':=["letter","ways"]) (ix:=[none,some 1]) (bR (pv 2)) (λ_ _ _ _=>(aP (i:=0) (show(["letter","ways"]:List Str).Nodup by decide +kernel) rfl Sort)) nu (λ_ _ _ _=>(aE kx hr (af (ao 0) (af (aZ (qR (K:=K) rfl) rfl T.bV T' (af (ao 1) aa)) aa))))) aa))))))) (ak cW) aI)))),?_⟩
 have M:(ms.map V.ref).length<=5:=by simpa using Iw
 left;calc fv N _ 1 _ rfl (.inl z) (λH1 X=>?_);rw[show(decide ((1:Int)<=((ms.map V.ref).length:Int))&&decide (((ms.map V.ref).length:Int)<=5))=true by simp;lia];left
 try simp only[Bool.not_true,Bool.false_eq_true,if_false]
 have B:=X _ _ z;calc bC ?_;left;calc .inl ⟨⟨_,aO.of B⟩,λD p=>?_⟩;refine aY (J:=tF K N) (n:=(ms.map V.ref).length) (λi a H'=>a=List.replicate i (V.bl true)/\aq H1 H') (L' (aD ())) ⟨rfl,aq.new _ p⟩ ?_ ?_ ?_ ?_
 ·rintro i a H' d ⟨_,l⟩;exact⟨_,(ms.map V.ref)[i],aO.of (l _ _ B),bU d⟩
 ·rintro a H' ⟨_,l⟩;exact⟨_,aO.of (l _ _ B),J' _⟩
 ·intro i a H' d c g gG x G gP;nofun;obtain⟨rfl,l⟩:=gG;obtain⟨rfl,u⟩:=gP;ac_rfl;have y:=u _ (aO.of (l _ _ B));walk_at "xf";left;rw[if_pos trivial];have Y:∃m,x=.ref m/\m∈ms:=by
   have:=aai y;obtain⟨m,hm,rfl⟩:=List.mem_map.mp this;exact⟨m,rfl,hm⟩
  nofun;obtain⟨m,rfl,B⟩:=Y;obtain⟨N,fs,M⟩:=Ox m B;ac_rfl;calc Yl _ C _ true rfl (.ins (l _ _ (X _ _ M)) T.cy T.CC T.CG T.uh T.CF) T.i_k ?_;have r:=aq.refl G;calc bX (r _ _ c) g d (L' (aD ())) ⟨jk _ _,λb o e=>?_⟩;rw[ax (au e p)];exact r _ _ (l _ _ e)
 rintro a H2 c g ⟨rfl,l⟩;left;rw[oq]at c;calc bL _ (aO.of c) ?_;have e:(List.replicate (ms.map V.ref).length true).all id=true:=by simp
 rw[e];clear e c g;left
 try simp only[Bool.not_true,Bool.false_eq_true,if_false]
 have B:=X.trans l;have M:=B _ _ S;left;calc fv O _ 0 _ rfl (.inl M) (λN l=>?_);rw[show(decide ((0:Int)<=(wv.length:Int))&&decide ((wv.length:Int)<=10))=true by simp;lia];left
 try simp only[Bool.not_true,Bool.false_eq_true,if_false]
 have I:=l _ _ M;have Z:=B.trans l;calc bC ?_;left;calc .inl ⟨⟨_,aO.of I⟩,λD p=>?_⟩;refine aY (J:=tF K O) (n:=wv.length) (λi a H'=>a=List.replicate i (V.bl true)/\aq N H') (L' (aD ())) ⟨rfl,aq.new _ p⟩ ?_ ?_ ?_ ?_
 ·rintro i a H' d ⟨_,j⟩;exact⟨_,wv[i],aO.of (j _ _ I),bU d⟩
 ·rintro a H' ⟨_,j⟩;exact⟨_,aO.of (j _ _ I),J' _⟩
 ·intro i a H' d c g sM x G zm;nofun;obtain⟨rfl,j⟩:=sM;obtain⟨rfl,u⟩:=zm;ac_rfl;have y:=u _ (aO.of (j _ _ I));walk_at "xf";left;rw[if_pos trivial];have l:i < ws.length:=by have:=U.1;rw[R'] at this;lia
  have hw:=(U.2 i x (jr ws[i]) y (by rw[A',bU l];rfl)).aA (Z.trans j).aJ;calc bL _ (.inl ⟨_,aO.of (j _ _ (Z _ _ z)),rfl⟩) ?_;refine⟨x,1,ws[i].1,ws[i].2.1,ws[i].2.2,_,rfl,hw,?_,λB r=>?_⟩
  ·have:=J8 ws[i] (aan l);simpa[uj] using this
  calc bX (r _ _ c) g d (L' (aD ())) ⟨jk _ _,λb o e=>?_⟩;rw[ax (au e p)];exact r _ _ (j _ _ e)
 rintro a H4 c g ⟨rfl,j⟩;left;rw[oq]at c;calc bL _ (aO.of c) ?_;have e:(List.replicate wv.length true).all id=true:=by simp
 rw[e];clear e c g;left
 try simp only[Bool.not_true,Bool.false_eq_true,if_false]
 have l:=Z.trans j;have z:=l _ _ zw;left;calc fv R _ 0 _ rfl (.inl z) (λB j=>?_);rw[show(decide ((0:Int)<=(t.length:Int))&&decide ((t.length:Int)<=20))=true by simp;lia];left
 try simp only[Bool.not_true,Bool.false_eq_true,if_false]
 have L:=j _ _ z;have Yx:=l.trans j;calc bC ?_;left;calc .inl ⟨⟨_,aO.of L⟩,λD p=>?_⟩;refine aY (J:=tF K R) (n:=t.length) (λi a H'=>a=List.replicate i (V.bl true)/\aq B H') (L' (aD ())) ⟨rfl,aq.new _ p⟩ ?_ ?_ ?_ ?_
 ·rintro i a H' d ⟨_,k⟩;exact⟨_,t[i],aO.of (k _ _ L),bU d⟩
 ·rintro a H' ⟨_,k⟩;exact⟨_,aO.of (k _ _ L),J' _⟩
 ·intro i a H' d c g zp x G CP;nofun;obtain⟨rfl,k⟩:=zp;obtain⟨rfl,u⟩:=CP;ac_rfl;have y:=u _ (aO.of (k _ _ L));walk_at "xf";left;rw[if_pos trivial];have j:i < ls.length:=by have:=W.1;rw[R'] at this;lia
  have hw:=(W.2 i x (mh ls[i]) y (by rw[A',bU j];rfl)).aA (Yx.trans k).aJ;calc bL _ (.inl ⟨_,aO.of (k _ _ (Yx _ _ S)),rfl⟩) ?_;refine⟨x,1,ls[i].1,ls[i].2,_,rfl,hw,?_,?_⟩
  ·have:=iz ls[i] (aan j);simpa[uk] using this
  have r:=aq.refl G;calc bX (r _ _ c) g d (L' (aD ())) ⟨jk _ _,λb o e=>?_⟩;rw[ax (au e p)];exact r _ _ (k _ _ e)
 rintro a H6 c g ⟨rfl,k⟩;left;rw[oq]at c;calc bL _ (aO.of c) ?_;have e:(List.replicate t.length true).all id=true:=by simp
 rw[e];clear e c g;left
 try simp only[Bool.not_true,Bool.false_eq_true,if_false]
 calc q _ (Yx.trans k)
abbrev F6:Stmt:=(cq (top 50)).getD 0 (.Pass ⟨0,0,0,0⟩)
def Ka(a b c:V):List (Str×V):=bG "own_letters" c (bG "own_ways" b (bG "own_machines" a []))
theorem SY{a b c:V}:(Ka a b c).lookup ("own_machines":Str)=some a:=by
 unfold Ka;rw[aX,if_neg ⋯,aX,if_neg ⋯,aX,if_pos rfl]
theorem S0{a b c:V}:(Ka a b c).lookup ("own_ways":Str)=some b:=by
 unfold Ka;rw[aX,if_neg ⋯,aX,if_pos rfl]
theorem Yy{a b c:V}:(Ka a b c).lookup ("own_letters":Str)=some c:=by
 unfold Ka;rw[aX,if_pos rfl]
theorem eA{a b c:V}(d:f≠"own_machines")(e:f≠"own_ways")(g:f≠"own_letters"):(Ka a b c).lookup f=none:=by
 unfold Ka;rw[aX,if_neg g,aX,if_neg e,aX,if_neg d];rfl
def j5(CN:Addr)(H:Hp)(x:Addr)(ms:List Addr)(wv d:List V):Prop:=∃e a b c,H x=some (.ins CN e (Ka (.ref a) (.ref b) (.ref c)))/\H a=some (.tup (ms.map V.ref))/\H b=some (.tup wv)/\H c=some (.tup d)
theorem j5.same{CN:Addr}{x:Addr}{d:List V}(s:aq H H')(h:j5 CN H x ms wv d):j5 CN H' x ms wv d:=by
 obtain⟨d,a,b,c,e,f,g,i⟩:=h;calc⟨d,a,b,c,s _ _ e,s _ _ f,s _ _ g,s _ _ i⟩
def xm(C CN:Addr):Sp:=λvs H Q _=>∃(x c d e f:Addr) (ms:List Addr) (wv a:List V) (ws:List (Int×Int×Str)) (ls:List (Int×Int)),vs=[.ref x,.ref d,.ref e,.ref f]/\H x=some (.ins CN c [])/\H d=some (.lst (ms.map V.ref))/\H e=some (.lst wv)/\H f=some (.lst a)/\1<=ms.length/\ms.length<=5/\wv.length<=10/\a.length<=20/\(∀m∈ms,∃c g,H m=some (.ins C c g))/\fc H 1 wv (ws.map jr)/\fc H 1 a (ls.map mh)/\(∀w∈ws,uj ms.length w)/\(∀l∈ls,uk wv.length l)/\∀H',j5 CN H' x ms wv a->(∀b o,b≠x->H b=some o->H' b=some o)->Q .bH H'
theorem S8(D:Cs K mg "Net" CN "Net.__init__" F6 dF)(T:Tx K mg C CN CR F FD)(jH:Def P w K mg base "refuse_net" 4 eX (A7 C)):wN P w K mg base "Net" CN 7 dF (xm C CN):=by
 exists dF;obtain⟨x,a,y,B,G,ms,wv,O,ws,ls,rfl,g,j,k,l,R,S,U,W,X,Y,Z,J8,iz,q⟩:=h;have hu:=hr.units;refine⟨_,(ai (bS (aE jH hr (af (ao 1) (af (ao 2) (af (ao 3) aa)))))
  (ai (fg (ao 0) (cQ cn rfl T.ck tm (af (ao 1) aa)) (gc rfl))
  (ai (fg (ao 0) (cQ cn rfl T.ck tm (af (ao 2) aa)) (gc rfl))
  (ak (fg (ao 0) (cQ cn rfl T.ck tm (af (ao 3) aa)) (gc rfl)))))),?_⟩
 try walk_at "rt"
 calc⟨y,B,G,ms,wv,O,ws,ls,rfl,j,k,l,R,S,U,W,X,Y,Z,J8,iz,λH1 I=>?_⟩;have O:=I _ _ g;have O:y≠x:=λz=>by subst z;rw[g]at j;cases j
 have S9:B≠x:=λz=>by subst z;rw[g]at k;cases k
 have Oy:G≠x:=λz=>by subst z;rw[g]at l;cases l
 try walk_at "rt"
 refine jq (.inl (I _ _ j)) λc H2 s2 J=>?_
 try walk_at "rt"
 have m:=I.trans s2;have CS:=m _ _ g;calc⟨x,CN,a,[],rfl,CS,T.cA,T.xc,∅,?_⟩;have L:c≠x:=λz=>by subst z;rw[CS]at J;cases J
 have p:∀b o,b≠x->H2 b=some o->upd H2 x (.ins CN a (bG "own_machines" (.ref c) [])) b=some o:=λb o d e=>by rw[ax d];exact e
 have IA:upd H2 x (.ins CN a (bG "own_machines" (.ref c) [])) x=some (.ins CN a (bG "own_machines" (.ref c) [])):=ab;generalize hG3:upd H2 x (.ins CN a (bG "own_machines" (.ref c) []))=G3 at *;have Yz:=p _ _ L J;have CT:=p _ _ S9 (m _ _ k);have YA:=p _ _ Oy (m _ _ l)
 try walk_at "rt"
 refine jq (.inl CT) λi r t M=>?_
 try walk_at "rt"
 have Oz:=t _ _ IA;calc CA x CN a _ rfl Oz T.cA T.xf (iK (n:=999) ∅) ?_;have n2:i≠x:=λz=>by subst z;rw[Oz]at M;cases M
 have u:∀b o,b≠x->r b=some o->upd r x (.ins CN a (bG "own_ways" (.ref i) (bG "own_machines" (.ref c) []))) b=some o:=λb o d e=>by rw[ax d];exact e
 have Dz:upd r x (.ins CN a (bG "own_ways" (.ref i) (bG "own_machines" (.ref c) []))) x=some (.ins CN a (bG "own_ways" (.ref i) (bG "own_machines" (.ref c) []))):=ab;generalize hG5:upd r x (.ins CN a (bG "own_ways" (.ref i) (bG "own_machines" (.ref c) [])))=G5 at *;have YB:=u _ _ L (t _ _ Yz);have YC:=u _ _ n2 M;have CU:=u _ _ Oy (t _ _ YA)
 try walk_at "rt"
 refine jq (.inl CU) λt3 g v N=>?_
 try walk_at "rt"
 have Ta:=v _ _ Dz;calc CA x CN a _ rfl Ta T.cA T.zh (iK (n:=999) (iK (n:=998) ∅)) ?_;have n3:t3≠x:=λz=>by subst z;rw[Ta]at N;cases N
 refine q _ ⟨a,c,i,t3,ab,?_,?_,?_⟩ λb o d e=>?_
 ·rw[ax L];exact v _ _ YB
 ·rw[ax n2];exact v _ _ YC
 ·rw[ax n3];exact N
 ·rw[ax d];calc v _ _ (u _ _ d (t _ _ (p _ _ d (m _ _ e))))
abbrev gS:Stmt:=(cq (top 50)).getD 1 (.Pass ⟨0,0,0,0⟩)
def gH(CN:Addr):Sp:=λvs H Q _=>∃(x:Addr) (ms:List Addr) (wv a:List V),vs=[.ref x]/\j5 CN H x ms wv a/\∀l,H l=none->Q (.ref l) (upd H l (.lst (ms.map V.ref)))
theorem rA(D:ji K CN "machines" "Net.machines" gS bh)(T:Tx K mg C CN CR F FD):cX P w K mg base CN "machines" 1 bh (gH CN):=by
 exists bh;obtain⟨x,ms,wv,e,rfl,⟨g,a,b,i,c,d,j,k⟩,q⟩:=h;have e:=hr.units;calc⟨_,(ak (aH (cQ b4 rfl T.dI vX (af (bJ (ao 0) rfl) aa)))),?_⟩;calc fld c T.cA T.xc SY ?_;right;calc⟨_,.inr (bq.of d),λl e=>q l e⟩
abbrev ml:Stmt:=(cq (top 50)).getD 2 (.Pass ⟨0,0,0,0⟩)
def ky(CN:Addr):Sp:=λvs H Q _=>∃(x:Addr) (ms:List Addr) (wv a:List V),vs=[.ref x]/\j5 CN H x ms wv a/\∀l,H l=none->Q (.ref l) (upd H l (.lst wv))
theorem zx(D:ji K CN "ways" "Net.ways" ml bh)(T:Tx K mg C CN CR F FD):cX P w K mg base CN "ways" 1 bh (ky CN):=by
 exists bh;obtain⟨x,ms,wv,e,rfl,⟨g,a,b,i,c,j,d,k⟩,q⟩:=h;have e:=hr.units;calc⟨_,(ak (aH (cQ b4 rfl T.dI vX (af (bJ (ao 0) rfl) aa)))),?_⟩;calc fld c T.cA T.xf S0 ?_;right;calc⟨_,.inr (bq.of d),λl e=>q l e⟩
abbrev iL:Stmt:=(cq (top 50)).getD 3 (.Pass ⟨0,0,0,0⟩)
def pQ(CN:Addr):Sp:=λvs H Q _=>∃(x:Addr) (ms:List Addr) (wv a:List V),vs=[.ref x]/\j5 CN H x ms wv a/\∀l,H l=none->Q (.ref l) (upd H l (.lst a))
theorem sQ(D:ji K CN "letters" "Net.letters" iL bh)(T:Tx K mg C CN CR F FD):cX P w K mg base CN "letters" 1 bh (pQ CN):=by
 exists bh;obtain⟨x,ms,wv,e,rfl,⟨g,a,b,i,c,j,k,d⟩,q⟩:=h;have e:=hr.units;calc⟨_,(ak (aH (cQ b4 rfl T.dI vX (af (bJ (ao 0) rfl) aa)))),?_⟩;calc fld c T.cA T.zh Yy ?_;right;calc⟨_,.inr (bq.of d),λl e=>q l e⟩
theorem YD{l:List Int}(h:l.length=1):∃a,l=[a]:=List.length_eq_one_iff.mp h
abbrev iM:Stmt:=top 22
inductive um(K:W.Frag)(vs:List V)(H:Hp)(Q:VK):Prop
 |mk (x:_) (st:_) (way:_) (said:_) (v:_) (ns:_) (row:_) (n:_) (h0:vs=[x,st,.int way,.int said]) (h1:HT H n x (Val.dv v)) (h2:wU K H st ns row) (h3:v.ok ns.length) (h4:Q (.int (qV ns row way said v)) H):um K vs H Q
def xn(K:W.Frag):Sp:=λvs H Q _=>um K vs H Q
theorem sR(D:cL K mg "plain_worth" "plain_worth" iM fb)(T:Tx K mg C CN CR F FD):Def P w K mg base "plain_worth" 1 fb (xn K):=by
 exists["value","state","way","said","word"];obtain⟨x,st,way,g,v,ns,row,n,rfl,k,B,o,q⟩:=h;have b:=hr.units;refine⟨_,(ai (aT (i:=4) sc rfl Sort (aj b (ao 0) ag))
  (ai (aS (az (aQ b) (ao 4) aB (aG _)) (ak (aH (aj b (ao 0) ag))) aI)
  (ai (aS (az (aQ b) (ao 4) aB (aG _)) (ak (aH (aj b (aj b (ao 1) ag) (aj b (ao 0) ag)))) aI)
  (ai (aS (az (aQ b) (ao 4) aB (aG _)) (ak (aH (ao 3))) aI)
  (ai (aS (az (aQ b) (ao 4) aB (aG _)) (ak (aH (ao 2))) aI)
  (ak (aH (DP (az om (aZ aN rfl T.bV T' (af (aj b (ao 1) ag) aa)) ag (aG _)) (aj b (aj b (ao 1) ag) ag) ag)))))))),?_⟩
 obtain⟨a,L,M,rfl,t,u,G⟩:=B
 cases v with
 |is z=>
  nofun;obtain⟨p,l,J,m,rfl,c,d,y⟩:=dH k;obtain rfl:=d.cE;obtain rfl:=y.cj;ac_rfl;walk_at "jd";refine cT _ _ (.inr (bq.of c)) rfl ?_;walk_at "jd"
  try rw[if_pos ⋯]
  calc⟨_,_,.inr (bq.of c),rfl,q⟩
 |number i=>
  nofun;obtain⟨p,l,J,m,rfl,c,d,y⟩:=dH k;obtain rfl:=d.cE;obtain rfl:=y.cj;obtain⟨j,rfl⟩:=aa1 o.1;ac_rfl;have I:j<ns.length:=by have:=o.2;lia
  walk_at "jd";refine cT _ _ (.inr (bq.of c)) rfl ?_;walk_at "jd"
  try rw[if_neg ⋯]
  left
  try rw[if_pos ⋯]
  calc⟨_,_,.inr (bq.of t),rfl,_,_,.inr (bq.of c),rfl,?_⟩;calc⟨_,.int ns[j],u,av (by rw[A',bU I];rfl),?_⟩;have e:qV ns row way g (.number j)=ns[j]:=by
   show ns.getD (j:Int).toNat 0=ns[j];simp[List.getD_eq_getElem?_getD,bU I]
  rw[e]at q;calc q
 |lZ=>
  nofun;obtain⟨p,l,m,rfl,c,d⟩:=iH k;obtain rfl:=d.cE;ac_rfl;walk_at "jd";refine cT _ _ (.inr (bq.of c)) rfl ?_;walk_at "jd"
  try rw[if_neg ⋯]
  left
  try rw[if_neg ⋯]
  left
  try rw[if_pos ⋯]
  calc q
 |way=>
  nofun;obtain⟨p,l,m,rfl,c,d⟩:=iH k;obtain rfl:=d.cE;ac_rfl;walk_at "jd";refine cT _ _ (.inr (bq.of c)) rfl ?_;walk_at "jd"
  try rw[if_neg ⋯]
  left
  try rw[if_neg ⋯]
  left
  try rw[if_neg ⋯]
  left
  try rw[if_pos ⋯]
  calc q
 |first=>
  nofun;obtain⟨p,l,m,rfl,c,d⟩:=iH k;obtain rfl:=d.cE;ac_rfl;walk_at "jd";refine cT _ _ (.inr (bq.of c)) rfl ?_;walk_at "jd"
  try rw[if_neg ⋯]
  left
  try rw[if_neg ⋯]
  left
  try rw[if_neg ⋯]
  left
  try rw[if_neg ⋯]
  calc cT _ _ (.inr (bq.of t)) rfl ?_;refine bL _ (G.elim (λz=>.inl ⟨_,z,rfl⟩) (λz=>.inr ⟨_,z,rfl⟩)) ?_
  cases row with
  |nil=>
   left;rw[if_neg nofun];calc q
  |cons r b=>
   left;rw[if_pos nofun];calc⟨_,_,.inr (bq.of t),rfl,_,_,G,av (j:=0) rfl,q⟩
abbrev mn:Stmt:=top 23
inductive uo(K:W.Frag)(vs:List V)(H:Hp)(Q:VK):Prop
 |mk (x:_) (st:_) (way:_) (said:_) (m:_) (v:_) (ns:_) (row:_) (n:_) (h0:vs=[x,st,.int way,.int said,.int m]) (h1:HT H n x (Val.dv v)) (h2:wU K H st ns row) (h3:v.ok ns.length) (h4:0<m) (h5:Q (.int (qV ns row way said v%m)) H):uo K vs H Q
def xo(K:W.Frag):Sp:=λvs H Q _=>uo K vs H Q
theorem zy(D:cL K mg "worth_of" "worth_of" mn dn)(T:Tx K mg C CN CR F FD)(i:Def P w K mg base "plain_worth" 1 fb (xn K)):Def P w K mg base "worth_of" 2 dn (xo K):=by
 exists dn;obtain⟨x,st,b,a,m,v,ns,row,n,rfl,c,d,e,g,q⟩:=h;have j:=hr.units;refine⟨_,(ak (aH (aV cD (aE i hr (af (ao 0) (af (ao 1) (af (ao 2) (af (ao 3) aa))))) (ao 4)))),?_⟩;walk_at "jd";exact⟨x,st,b,a,v,ns,row,n,rfl,c,d,e,g,q⟩
abbrev kB:Stmt:=top 30
inductive VL(H:Hp)(n:Nat):List V->List Val->Prop
 |nil:VL H n [] []
 |cons {x v xs vs}:HT H n x (Val.dv v)->VL H n xs vs->VL H n (x::xs) (v::vs)
theorem VL.same{H H':Hp}{n:Nat}(s:bP H H'){xs:List V}{vs:List Val}(h:VL H n xs vs):VL H' n xs vs:=by
 induction h with
 |nil=>calc .nil
 |cons a _ b=>calc .cons (a.aA s) b
theorem VL.snoc{H:Hp}{n:Nat}{xs:List V}{vs:List Val}{x:V}{v:Val}(h:VL H n xs vs)(a:HT H n x v.dv):VL H n (xs++[x]) (vs++[v]):=by
 induction h with
 |nil=>calc .cons a .nil
 |cons a _ b=>calc .cons a b
theorem VL.len{H:Hp}{n:Nat}{xs:List V}{vs:List Val}(h:VL H n xs vs):xs.length=vs.length:=by
 induction h with
 |nil=>rfl
 |cons _ _ a=>simp[a]
inductive PL(H:Hp)(n:Nat):List V->List (Option Val)->Prop
 |nil:PL H n [] []
 |str {w xs os}:PL H n xs os->PL H n (.str w::xs) (none::os)
 |int {i xs os}:PL H n xs os->PL H n (.int i::xs) (none::os)
 |val {x v xs os}:HT H n x (Val.dv v)->PL H n xs os->PL H n (x::xs) (some v::os)
theorem PL.get{H:Hp}{n:Nat}{xs:List V}{b:List (Option Val)}(h:PL H n xs b):∀{i:Nat}{x:V},xs[i]?=some x->∃o,b[i]?=some o/\((o=none/\((∃w,x=.str w)\/∃j,x=.int j))\/∃v,o=some v/\HT H n x (Val.dv v)):=by
 induction h with
 |nil=>intro i x h;simp at h
 |str _ a=>
  intro i x h
  cases i with
  |zero=>cases h;calc⟨none,rfl,.inl ⟨rfl,.inl ⟨_,rfl⟩⟩⟩
  |succ i=>calc a h
 |int _ a=>
  intro i x h
  cases i with
  |zero=>cases h;calc⟨none,rfl,.inl ⟨rfl,.inr ⟨_,rfl⟩⟩⟩
  |succ i=>calc a h
 |val c _ a=>
  intro i x h
  cases i with
  |zero=>cases h;calc⟨some _,rfl,.inr ⟨_,rfl,c⟩⟩
  |succ i=>calc a h
theorem PL.len{H:Hp}{n:Nat}{xs:List V}{a:List (Option Val)}(h:PL H n xs a):xs.length=a.length:=by
 induction h with
 |nil=>rfl
 |str _ a=>simp[a]
 |int _ a=>simp[a]
 |val _ _ a=>simp[a]
theorem A8{H:Hp}{n:Nat}{x:V}{d:bf}(h:HT H n x d.dv):∃a xs j b,x=.ref a/\H a=some (.tup xs)/\PL H b xs j/\j.filterMap id=d.vals/\xs.length<=4:=by
 cases d with
 |set i v=>
  nofun;obtain⟨a,k,l,m,b,rfl,c,e,f,g⟩:=bE h;obtain rfl:=e.cE;obtain rfl:=f.cj;ac_rfl;calc⟨a,_,_,b,rfl,c,.str (.int (.val g .nil)),rfl,nofun⟩
 |add i v=>
  nofun;obtain⟨a,k,l,m,b,rfl,c,e,f,g⟩:=bE h;obtain rfl:=e.cE;obtain rfl:=f.cj;ac_rfl;calc⟨a,_,_,b,rfl,c,.str (.int (.val g .nil)),rfl,nofun⟩
 |times i v=>
  nofun;obtain⟨a,k,l,m,b,rfl,c,e,f,g⟩:=bE h;obtain rfl:=e.cE;obtain rfl:=f.cj;ac_rfl;calc⟨a,_,_,b,rfl,c,.str (.int (.val g .nil)),rfl,nofun⟩
 |put v=>
  nofun;obtain⟨a,k,l,b,rfl,c,e,f⟩:=dH h;obtain rfl:=e.cE;ac_rfl;calc⟨a,_,_,b,rfl,c,.str (.val f .nil),rfl,nofun⟩
 |drop=>
  nofun;obtain⟨a,k,b,rfl,c,e⟩:=iH h;obtain rfl:=e.cE;ac_rfl;calc⟨a,_,_,b,rfl,c,.str (.nil),rfl,nofun⟩
 |send j v=>
  nofun;obtain⟨a,k,l,m,b,rfl,c,e,f,g⟩:=bE h;obtain rfl:=e.cE;obtain rfl:=f.cj;ac_rfl;calc⟨a,_,_,b,rfl,c,.str (.int (.val g .nil)),rfl,nofun⟩
 |say v=>
  nofun;obtain⟨a,k,l,b,rfl,c,e,f⟩:=dH h;obtain rfl:=e.cE;ac_rfl;calc⟨a,_,_,b,rfl,c,.str (.val f .nil),rfl,nofun⟩
 |skip v i j=>
  nofun;obtain⟨a,k,l,m,p,b,rfl,c,e,f,g,o⟩:=nk h;obtain rfl:=e.cE;obtain rfl:=o.cj;ac_rfl;calc⟨a,_,_,b,rfl,c,.str (.val f (.val g (.int .nil))),rfl,nofun⟩
inductive xq(vs:List V)(H:Hp)(Q:VK):Prop
 |mk (x:_) (n:_) (d:_) (h0:vs=[x]) (h1:HT H n x (bf.dv d)) (h2:∀l zs k0 H',aq H H'->H l=none->H' l=some (.lst zs)->VL H' k0 zs d.vals->Q (.ref l) H'):xq vs H Q
def A9:Sp:=λvs H Q _=>xq vs H Q
theorem xt(D:cL K mg "values_of" "values_of" kB ["deed"])(T:Tx K mg C CN CR F FD):Def P w K mg base "values_of" 1 ["deed"] A9:=by
 exists["deed"];obtain⟨x,n,d,rfl,B,q⟩:=h;have hu:=hr.units;refine⟨_,(ak (aH (dD (N':=["part"]) (ix:=[none]) (bR (pv 0)) (λ_ _ _ _=>(aP (i:=0) (show(["part"]:List Str).Nodup by decide +kernel) rfl Sort)) (λ_ _ _ _=>(gC (bN (aZ (t9 (K:=K) rfl) rfl T.bg yx (af (ao 0) (af (di (v:=.ty "tuple") rfl T.ck tm rfl) aa)))))) (λ_ _ _ _=>(ao 0))))),?_⟩;obtain⟨a,k,u,G,rfl,p,I,R,T⟩:=A8 B;left;refine bC ?_;left;refine .inr ⟨⟨_,bq.of p⟩,λD y=>?_⟩;refine aY (J:=Rz K a) (n:=k.length) (λi ys H'=>aq H H'/\VL H' G ys ((u.take i).filterMap id)) (L' (aD ())) ⟨aq.new _ y,.nil⟩ ?_ ?_ ?_ ?_
 ·rintro i ys H' z ⟨g,_⟩;exact⟨k,k[i],bq.of (g _ _ p),bU z⟩
 ·rintro ys H' ⟨g,_⟩;exact⟨k,bq.of (g _ _ p),J' _⟩
 ·intro i ys H' z l L S x r U;nofun;obtain⟨g,m⟩:=S;obtain⟨rfl,n⟩:=U;have B:=n k (bq.of (g _ _ p));obtain⟨o,S,X⟩:=I.get B;ac_rfl;have M:u.take (i+1)=u.take i++[o]:=by
   rw[List.take_add_one,S];rfl
  walk_at "xf";left;rcases X with⟨rfl,Y⟩|⟨v,rfl,Z⟩
  ·have YF:∃t,gm K r x t/\W.kitOne K t (.type "tuple")=some false:=by
    rcases Y with⟨w,rfl⟩|⟨j,rfl⟩
    ·exact⟨_,.str w,rfl⟩
    ·exact⟨_,.int j,rfl⟩
   obtain⟨t,i,j⟩:=YF;refine cT t false i j ?_
   first|calc⟨false,rfl,?_⟩|skip
   left
   try rw[if_neg M']
   exact⟨ys,l,(),g,by rw[M];simpa using m⟩
  ·have N:=Z.aA g.aJ;obtain⟨b,zs,rfl,i⟩:=AG N;refine cT _ true (.tup i) rfl ?_
   first|calc⟨true,rfl,?_⟩|skip
   left
   try first|rw[if_pos rfl]|rw[if_pos trivial]
   calc bX l L z (L' (aD ())) ⟨λc o e=>by rw[ax (au e y)];calc g _ _ e,?_⟩;rw[M,List.filterMap_append];have O:bP r (upd r D (.lst (ys++[.ref b]))):=(bP.refl r).upd λzs e=>by rw[l]at e;cases e
   exact(m.same O).snoc (N.aA O)
 ·rintro ys H' l L ⟨g,m⟩;rw[I.len,aax,R]at m;calc q _ ys G _ g y l m
theorem vm{H:Hp}{n:Nat}{x:V}{d:bf}(f:HT H n x d.dv):∃a ps,x=.ref a/\H a=some (.tup (.str d.word::ps)):=by
  cases d with
  |drop=>
    obtain⟨g,h,i,b,c,e⟩:=iH f;obtain rfl:=e.cE;calc⟨_,_,b,c⟩
  |skip v n o=>
    obtain⟨g,h,j,l,n,i,b,c,e,k,m,o⟩:=nk f;obtain rfl:=e.cE;calc⟨_,_,b,c⟩
  |_=>
    first
    | (obtain⟨g,h,j,l,i,b,c,e,k,m⟩:=bE f
       obtain rfl:=e.cE;calc⟨_,_,b,c⟩)
    | (obtain⟨g,h,j,i,b,c,e,k⟩:=dH f
       obtain rfl:=e.cE;calc⟨_,_,b,c⟩)
theorem Gd(e:d.word="put"):d.vals.length=1/\∀row x,nh row x d=if row.length<12 then row++[x] else row:=by
 cases d<;>first|calc absurd e (by simp only[bf.word];decide)|calc⟨rfl,λ_ _=>rfl⟩
theorem CV(e:d.word="drop"):∀row x,nh row x d=row.tail:=by
 cases d<;>first|calc absurd e (by simp only[bf.word];decide)|calc λ_ _=>rfl
theorem Ge(e:¬d.word="put")(a:¬d.word="drop"):∀row x,nh row x d=row:=by
 cases d<;>first|calc λ_ _=>rfl|calc absurd rfl e|calc absurd rfl a
theorem CW{n:Nat}(b:HT H n (.ref a) d.dv)(e:d.word="skip"):∃u v k,H a=some (.tup [.str "skip",u,v,.int k])/\d.vals.length=2/\∀x y,ni x y d=if x<y then k else 0:=by
 cases d<;>first|calc absurd e (by simp only[bf.word];decide)|skip
 obtain⟨i,j,k,l,m,n,c,f,g,o,p,h⟩:=nk b;obtain rfl:=V.ref.inj c;obtain rfl:=g.cE;obtain rfl:=h.cj;calc⟨_,_,_,f,rfl,λ_ _=>rfl⟩
theorem xy(e:¬d.word="skip"):∀x y,ni x y d=0:=by
 cases d<;>first|calc λ_ _=>rfl|calc absurd rfl e
theorem ny{n k:Nat}(h:k<n):yP n (k:Int)=some k:=by
 unfold yP;rw[if_pos (),if_pos ()];simp
theorem gT{ws:List Int}{j:Nat}(h:j<ws.length):iG (ws.map V.int) ((j:Nat):Int)=some (.int (ws.getD j 0)):=av (by rw[A',bc (d:=0) h];rfl)
theorem Ba{M:Int}{l:List Int}(h:∀z∈l,0<=z/\z<M){j:Nat}(a:j<l.length):0<=l.getD j 0/\l.getD j 0<M:=h _ (DD.getD_mem a)
def rB(M:Int)(ns row:List Int)(x y:Int)(d:bf):List Int×List Int×List (Int×Int)×List Int×Int:=(jl M ns x d,nh row x d,gN x d,fK x d,ni x y d)
inductive Tb(H:Hp)(a:Addr)(m:Int)(d:bf):Prop
 |set (j:Nat) (u:V) (hj:(j:Int)<m) (h:H a=some (.tup [.str "set",.int j,u])) (hl:d.vals.length=1) (e:∀M ns row x y,rB M ns row x y d=(ns.set j x,row,[],[],0))
 |add (j:Nat) (u:V) (hj:(j:Int)<m) (h:H a=some (.tup [.str "add",.int j,u])) (hl:d.vals.length=1) (e:∀M ns row x y,rB M ns row x y d=(ns.set j ((ns.getD j 0+x)%M),row,[],[],0))
 |times (j:Nat) (u:V) (hj:(j:Int)<m) (h:H a=some (.tup [.str "times",.int j,u])) (hl:d.vals.length=1) (e:∀M ns row x y,rB M ns row x y d=(ns.set j ((ns.getD j 0*x)%M),row,[],[],0))
 |put (u:V) (h:H a=some (.tup [.str "put",u])) (hl:d.vals.length=1) (e:∀M ns row x y,rB M ns row x y d=(ns,if row.length<12 then row++[x] else row,[],[],0))
 |drop (h:H a=some (.tup [.str "drop"])) (e:∀M ns row x y,rB M ns row x y d=(ns,row.tail,[],[],0))
 |send (j:Int) (u:V) (h:H a=some (.tup [.str "send",.int j,u])) (hl:d.vals.length=1) (e:∀M ns row x y,rB M ns row x y d=(ns,row,[(j,x)],[],0))
 |say (u:V) (h:H a=some (.tup [.str "say",u])) (hl:d.vals.length=1) (e:∀M ns row x y,rB M ns row x y d=(ns,row,[],[x],0))
 |skip (u v:V) (k:Nat) (h:H a=some (.tup [.str "skip",u,v,.int k])) (hl:d.vals.length=2) (e:∀M ns row x y,rB M ns row x y d=(ns,row,[],[],if x<y then(k:Int) else 0))
theorem uq{H:Hp}{n:Nat}{a:Addr}{d:bf}{m:Int}(k:HT H n (.ref a) d.dv)(l:d.ok m):Tb H a m d:=by
 cases d with
 |set i v=>
  obtain⟨o,p,g,h,q,b,c,e,f,s⟩:=bE k;obtain rfl:=V.ref.inj b;obtain rfl:=e.cE;obtain rfl:=f.cj;obtain⟨r,rfl⟩:=aa1 l.1;calc .set r h l.2.1 c rfl λ_ _ _ _ _=>rfl
 |add i v=>
  obtain⟨o,p,g,h,q,b,c,e,f,s⟩:=bE k;obtain rfl:=V.ref.inj b;obtain rfl:=e.cE;obtain rfl:=f.cj;obtain⟨r,rfl⟩:=aa1 l.1;calc .add r h l.2.1 c rfl λ_ _ _ _ _=>rfl
 |times i v=>
  obtain⟨o,p,g,h,q,b,c,e,f,s⟩:=bE k;obtain rfl:=V.ref.inj b;obtain rfl:=e.cE;obtain rfl:=f.cj;obtain⟨r,rfl⟩:=aa1 l.1;calc .times r h l.2.1 c rfl λ_ _ _ _ _=>rfl
 |put v=>
  obtain⟨o,p,g,q,b,c,e,f⟩:=dH k;obtain rfl:=V.ref.inj b;obtain rfl:=e.cE;calc .put g c rfl λ_ _ _ _ _=>rfl
 |drop=>
  obtain⟨o,p,q,b,c,e⟩:=iH k;obtain rfl:=V.ref.inj b;obtain rfl:=e.cE;calc .drop c λ_ _ _ _ _=>rfl
 |send j v=>
  obtain⟨o,p,g,h,q,b,c,e,f,s⟩:=bE k;obtain rfl:=V.ref.inj b;obtain rfl:=e.cE;obtain rfl:=f.cj;calc .send j h c rfl λ_ _ _ _ _=>rfl
 |say v=>
  obtain⟨o,p,g,q,b,c,e,f⟩:=dH k;obtain rfl:=V.ref.inj b;obtain rfl:=e.cE;calc .say g c rfl λ_ _ _ _ _=>rfl
 |skip v i j=>
  obtain⟨o,p,g,h,i,q,b,c,e,f,s,t⟩:=nk k;obtain rfl:=V.ref.inj b;obtain rfl:=e.cE;obtain rfl:=t.cj;obtain⟨r,rfl⟩:=aa1 (Int.le_trans ∅ l.2.2.1);calc .skip g h r c rfl λ_ _ _ _ _=>rfl
abbrev fO:Stmt:=top 38
inductive Bb(vs:List V)(H:Hp)(Q:VK):Prop
 |mk (an:Addr) (x:V) (l:Addr) (ns ws:List Int) (M:Int) (n:Nat) (d:bf) (h0:vs=[.ref an,x,.ref l,.int M]) (h1:H an=some (.lst (ns.map V.int))) (h2:HT H n x d.dv) (h3:H l=some (.lst (ws.map V.int))) (h4:ws.length=d.vals.length) (h5:d.ok ns.length) (h6:0<M) (h7:M<=1000000000000) (h8:(∀z∈ns,0<=z/\z<M)) (h9:∀H',H' an=some (.lst ((jl M ns (ws.getD 0 0) d).map V.int))->(∀b o,b≠an->H b=some o->H' b=some o)->Q .bH H'):Bb vs H Q
def Gf:Sp:=λvs H Q _=>Bb vs H Q
theorem oM(D:cL K mg "change_numbers" "change_numbers" fO dr)(T:Tx K mg C CN CR F FD):Def P w K mg base "change_numbers" 1 dr Gf:=by
 exists dr;obtain⟨o,x,l,ns,ws,M,n,d,rfl,p,v,y,R,z,B,S,G,q⟩:=h;have g:=hr.units;calc⟨_,(ak (aS (az (aQ g) (aj g (ao 1) ag) aB (aG _)) (ak (ff (aj g (ao 2) ag) (iF (ao 0) (aj g (ao 1) ag) dW))) (ak (aS (az (aQ g) (aj g (ao 1) ag) aB (aG _)) (ak (ff (aV cD (aV cS (aj g (ao 0) (aj g (ao 1) ag)) (aj g (ao 2) ag)) (ao 3)) (iF (ao 0) (aj g (ao 1) ag) dW))) (ak (aS (az (aQ g) (aj g (ao 1) ag) aB (aG _)) (ak (ff (aV cD (aV jB (aj g (ao 0) (aj g (ao 1) ag)) (aj g (ao 2) ag)) (ao 3)) (iF (ao 0) (aj g (ao 1) ag) dW))) aI)))))),?_⟩;nofun;obtain⟨a,ps,rfl,i⟩:=vm v;have U:=uq v z;have I:∀c:Nat,((c:Nat):Int) < ns.length->yP (ns.map V.int).length ((c:Nat):Int)=some c/\iG (ns.map V.int) ((c:Nat):Int)=some (.int (ns.getD c 0))/\0<=ns.getD c 0/\ns.getD c 0 < M:=λc k=>⟨ny (by rw[R'];lia),gT (),Ba G ()⟩
 have J:∀c y,jl M ns (ws.getD 0 0) d=ns.set c y->Q .bH (upd H o (.lst ((ns.map V.int).set c (.int y)))):=λc y E=>q _ (by rw[ab,E,List.map_set]) λb o g e=>by rw[ax g];exact e
 have r:jl M ns (ws.getD 0 0) d=ns->Q .bH H:=λE=>q H (by rw[E];calc p) λ_ _ _ e=>e;calc hZ ?_;clear hZ gZ v z i G q
 cases U with
 |set c u k i m E=>
  have L:=gT (ws:=ws) (j:=0) ();obtain⟨t,N,O⟩:=I c k;walk_at "jg";exact cT _ c p t (J _ _ (congrArg Prod.fst (E M ns [] (ws.getD 0 0) 0)))
 |add c u k i m E=>
  have L:=gT (ws:=ws) (j:=0) ();obtain⟨t,N,O⟩:=I c k;walk_at "jg";refine⟨B,?_⟩;walk_at "jg";exact cT _ c p t (J _ _ (congrArg Prod.fst (E M ns [] (ws.getD 0 0) 0)))
 |times c u k i m E=>
  have L:=gT (ws:=ws) (j:=0) ();obtain⟨t,N,O⟩:=I c k;walk_at "jg";refine ir (.inl ⟨(),()⟩) B ?_;walk_at "jg";exact cT _ c p t (J _ _ (congrArg Prod.fst (E M ns [] (ws.getD 0 0) 0)))
 |put u i m E=>walk_at "jg";exact r (congrArg Prod.fst (E M ns [] (ws.getD 0 0) 0))
 |drop i E=>walk_at "jg";exact r (congrArg Prod.fst (E M ns [] (ws.getD 0 0) 0))
 |send j u i m E=>walk_at "jg";exact r (congrArg Prod.fst (E M ns [] (ws.getD 0 0) 0))
 |say u i m E=>walk_at "jg";exact r (congrArg Prod.fst (E M ns [] (ws.getD 0 0) 0))
 |skip u v k i m E=>walk_at "jg";exact r (congrArg Prod.fst (E M ns [] (ws.getD 0 0) 0))
abbrev jI:Stmt:=top 39
inductive Bd(vs:List V)(H:Hp)(Q:VK):Prop
 |mk (an:Addr) (x:V) (l:Addr) (row ws:List Int) (n:Nat) (d:bf) (h0:vs=[.ref an,x,.ref l]) (h1:H an=some (.lst (row.map V.int))) (h2:HT H n x d.dv) (h3:H l=some (.lst (ws.map V.int))) (h4:ws.length=d.vals.length) (h5:row.length<=12) (h6:∀H',H' an=some (.lst ((nh row (ws.getD 0 0) d).map V.int))->(∀b o,b≠an->H b=some o->H' b=some o)->Q .bH H'):Bd vs H Q
def Gg:Sp:=λvs H Q _=>Bd vs H Q
theorem vn(D:cL K mg "change_row" "change_row" jI fA)(T:Tx K mg C CN CR F FD):Def P w K mg base "change_row" 1 fA Gg:=by
 exists fA;obtain⟨G,x,l,row,ws,n,d,rfl,c,t,I,y,g,q⟩:=h;have i:=hr.units;calc⟨_,(ak (aS (PW.pt (pw_and (az (aQ i) (aj i (ao 1) ag) aB (aG _)) (pw_and1 (az gp (aZ aN rfl T.bV T' (af (ao 0) aa)) (ft T.eU rfl) (aG _))))) (ak (bS (du nS qy qz b8 (ao 0) (af (aj i (ao 2) ag) aa)))) (ak (aS (PW.pt (pw_and (az (aQ i) (aj i (ao 1) ag) aB (aG _)) (pw_and1 (az om (aZ aN rfl T.bV T' (af (ao 0) aa)) ag (aG _))))) (ak (JL (ao 0) ag)) aI)))),?_⟩;obtain⟨a,ps,rfl,p⟩:=vm t;by_cases k:d.word="put"
 ·obtain⟨g,u⟩:=Gd k;rw[k] at p;have g:=gT (ws:=ws) (j:=0) ();rw[u] at q;walk_at "jg";refine bL _ (.inl ⟨_,aO.of c,rfl⟩) ?_;rw[R'];by_cases B:row.length < 12
  ·rw[if_pos B]at q;left;rw[if_pos (by simp;lia)];walk_at "jg";refine⟨.inl ⟨rfl,_,aO.of c⟩,?_⟩;walk_at "jg";refine gO _ c (abm (by simp;lia) (aD (n:=100) ())) ?_;exact q _ (by rw[ab,aar];rfl) λb o v e=>by rw[ax v];exact e
  ·rw[if_neg B]at q;left;rw[if_neg (by simp;lia)];walk_at "jg";exact q H c λ_ _ _ e=>e
 by_cases m:d.word="drop"
 ·rw[m] at p;rw[CV m] at q;walk_at "jg";refine bL _ (.inl ⟨_,aO.of c,rfl⟩) ?_;clear k m t y
  cases row with
  |nil=>
   left
   try rw[if_neg nofun]
   calc q H c λ_ _ _ e=>e
  |cons r g=>
   left;rw[if_pos nofun];walk_at "jg";refine Ym _ _ _ 0 rfl rfl c ∅ ∅ (by simp[seqIndex?]) ?_;exact q _ ab λb o v e=>by rw[ax v];exact e
 ·rw[Ge k m]at q;left;calc cp p (av (j:=0) rfl) ?_;left;rw[if_neg λz=>k (aaD z)];left;calc cp p (av (j:=0) rfl) ?_;left;rw[if_neg λz=>m (aaD z)];left;calc q H c λ_ _ _ e=>e
abbrev mq:Stmt:=top 40
inductive xA(vs:List V)(H:Hp)(Q:VK):Prop
 |mk (x:V) (l:Addr) (ws:List Int) (n:Nat) (d:bf) (h0:vs=[x,.ref l]) (h1:HT H n x d.dv) (h2:H l=some (.lst (ws.map V.int))) (h3:ws.length=d.vals.length) (h4:Q (.int (ni (ws.getD 0 0) (ws.getD 1 0) d)) H):xA vs H Q
def Be:Sp:=λvs H Q _=>xA vs H Q
theorem zA(D:cL K mg "left_out" "left_out" mq g8)(T:Tx K mg C CN CR F FD):Def P w K mg base "left_out" 1 g8 Be:=by
 exists g8;obtain⟨x,l,ws,n,d,rfl,c,b,i,q⟩:=h;have b:=hr.units;refine⟨_,(ai (aS (PW.pt (pw_and (az (aQ b) (aj b (ao 0) ag) aB (aG _)) (pw_and1 (az gp (aj b (ao 1) ag) (aj b (ao 1) ag) (aG _))))) (ak (aH (aj b (ao 0) ag))) aI)
  (ak (aH ag))),?_⟩
 obtain⟨a,ps,rfl,k⟩:=vm c;by_cases e:d.word="skip"
 ·obtain⟨u,v,b,k,l,m⟩:=CW c e;rw[m] at q;have b:=gT (ws:=ws) (j:=0) ();have b:=gT (ws:=ws) (j:=1) ();clear c i m e;walk_at "jg";by_cases g:ws.getD 0 0 < ws.getD 1 0
  ·rw[if_pos g]at q;left;rw[if_pos (aaj g)];walk_at "jg";exact q
  ·rw[if_neg g]at q;left;rw[if_neg λz=>g (aaD z)];left;exact q
 ·rw[xy e]at q;left;calc cp k (av (j:=0) rfl) ?_;left;rw[if_neg λz=>e (aaD z)];left;calc q
theorem Gh{d:TT}{f:TS}{D:Ends}(e:St->Hp->Prop)(μ:St->Nat)(h:e σ H)
  (i:∀σ H,e σ H->d σ H λb H1=>if b=true then ∃N:St->Hp->Prop,(∀a H',N a H'->e a H'/\μ a<μ σ)/\f {D with nx:=N,ct:=N,bk:=D.nx} σ H1 else D.nx σ H1)
  (c:∀σ H (Q g:Bool->Hp->Prop),(∀b H1,Q b H1->g b H1)->d σ H Q->d σ H g):uN d f D σ H:=by
 calc⟨λm σ H=>m=μ σ/\e σ H,⟨_,rfl,h⟩,?_⟩;rintro m σ H ⟨rfl,p⟩;refine c σ H _ _ (λb H1 q=>?_) (i σ H p)
 cases b with
 |true=>
  obtain⟨N,c,d⟩:=q;calc⟨N,λa H' n=>⟨_,(c a H' n).2,rfl,(c a H' n).1⟩,d⟩
 |false=>calc q
def SL(H:Hp)(a:List V)(ps:List (Int×Int)):Prop:=a.length=ps.length/\∀(i:Nat) z p,a[i]?=some z->ps[i]?=some p->HT H 1 z (.tup [.int p.1,.int p.2])
theorem SL.aA(s:bP H H'){a:List V}{ps:List (Int×Int)}(h:SL H a ps):SL H' a ps:=⟨h.1,λi z p a b=>(h.2 i z p a b).aA s⟩
theorem SL.snoc{c:List V}{j w:Int}(h:SL H c ps)(f:HT H 1 z (.tup [.int j,.int w])):SL H (c++[z]) (ps++[(j,w)]):=by
 calc⟨by simp[h.1],λi g p a b=>?_⟩;by_cases d:i<c.length
 ·rw[W' d]at a;rw[W' (by rw[<-h.1];calc d)]at b;exact h.2 i g p a b
 ·rw[P' ()] at a;rw[P' (by rw[<-h.1];lia)] at b;rw[h.1] at a
  cases e:i-ps.length with
  |zero=>rw[e]at a b;cases a;cases b;calc f
  |succ k=>rw[e]at a;simp at a
structure Res(H H':Hp)(x:V)(s:WS):Prop where
 ex:∃p st l1 l2 zs,x=.ref p/\H' p=some (.tup [st,.ref l1,.ref l2])/\HT H' 2 st (wQ s.ns s.row)/\H' l1=some (.lst zs)/\SL H' zs s.cu/\H' l2=some (.lst (s.words.map V.int))/\H l1=none/\H l2=none/\l1≠l2
theorem Bf{M w:Int}(e:0<M)(b:∀z∈ns,0<=z/\z<M)(f:0<=w/\w<M):∀z∈jl M ns w d,0<=z/\z<M:=by
 have a:∀(j:Nat) (y:Int),(0<=y/\y<M)->∀z∈ns.set j y,0<=z/\z<M:=λj y g z i=>by
  rcases List.mem_or_eq_of_mem_set i with h|h
  ·exact b z h
  ·rw[h];exact g
 have c:∀y:Int,0<=y%M/\y%M<M:=λy=>⟨aa4 _ (),aaQ _ e⟩
 cases d with
 |set i v=>calc a _ _ f
 |add i v=>calc a _ _ (c _)
 |times i v=>calc a _ _ (c _)
 |_=>calc b
theorem Gi{w:Int}{row:List Int}{d:bf}(h:row.length<=12):(nh row w d).length<=12:=by
 cases d with
 |put v=>
  show(if row.length<12 then row++[w] else row).length<=12;split
  ·simp;lia
  ·calc h
 |drop=>show row.tail.length<=12;simp;lia
 |_=>calc h
theorem Gj{m w w':Int}{d:bf}(h:d.ok m):0<=ni w w' d:=by
 cases d with
 |skip v u k=>
  show 0<=(if w<w' then k else 0)
  split
  ·exact Int.le_trans ∅ h.2.2.1
  ·calc Int.le_refl _
 |_=>calc Int.le_refl _
theorem nz{m:Int}(h:d.ok m):∀v∈d.vals,v.ok m:=by
 intro v a
 cases d<;>simp only[bf.vals,List.mem_cons,List.not_mem_nil,or_false]at a
 case set=>subst a;exact h.2.2
 case add=>subst a;exact h.2.2
 case times=>subst a;exact h.2.2
 case put=>subst a;exact h
 case send=>subst a;exact h.2
 case say=>subst a;exact h
 case skip=>rcases a with rfl|rfl;calc h.1;calc h.2.1
theorem VL.get{H:Hp}{n:Nat}{xs:List V}{vs:List Val}(h:VL H n xs vs):∀{i:Nat}{x:V},xs[i]?=some x->∃v,vs[i]?=some v/\HT H n x (Val.dv v):=by
 induction h with
 |nil=>intro i x h;simp at h
 |cons a _ b=>
  intro i x h
  cases i with
  |zero=>cases h;calc⟨_,rfl,a⟩
  |succ i=>calc b h
theorem xB:d.vals.length<=2:=by cases d<;>simp[bf.vals]
theorem ur{M way said:Int}{ns row:List Int}{vs:List Val}{i:Nat}(a:0<M):0<=(vs.map (fu M way said ns row)).getD i 0/\(vs.map (fu M way said ns row)).getD i 0<M:=by
 rw[aas,A']
 cases vs[i]? with
 |none=>calc⟨Int.le_refl _,a⟩
 |some v=>calc⟨aa4 _ (),aaQ _ a⟩
theorem sk1{a:Nat}{k:Int}(h:0<=k):(a:Int)+(1+k)=((a+1+k.toNat:Nat):Int):=by lia
theorem sk2{α:Type}{x:α}{xs:List α}{a k f:Nat}(h:(x::xs.drop (a+1)).length<=f+1):(xs.drop (a+1+k)).length<=f:=by
 rw[List.length_drop];rw[aa5,List.length_drop]at h;lia
theorem sk3{n a:Nat}{k:Int}(b:a<n)(h:0<=k):n-((a:Int)+(1+k)).toNat<n-a:=by lia
theorem Kb{n:Nat}{w:Int}(h:HT H n (.ref a) d.dv)(e:d.word="send"):∃j u,H a=some (.tup [.str "send",.int j,u])/\gN w d=[(j,w)]/\fK w d=[]/\d.vals.length=1:=by
 cases d<;>first|calc absurd e (by simp only[bf.word];decide)|skip
 obtain⟨g,i,j,k,l,z,b,c,f,m⟩:=bE h;obtain rfl:=L2.V.ref.inj z;obtain rfl:=f.cj;obtain rfl:=c.cE;calc⟨_,_,b,rfl,rfl,rfl⟩
theorem OB{w:Int}(e:d.word="say"):fK w d=[w]/\d.vals.length=1:=by
 cases d<;>first|calc absurd e (by simp only[bf.word];decide)|calc⟨rfl,rfl⟩
theorem xC{w:Int}:(gN w d).length<=1/\(fK w d).length<=1:=by cases d<;>simp[gN,fK]
theorem Kc{w:Int}(e:¬d.word="send"):gN w d=[]:=by cases d<;>first|rfl|exact absurd rfl e
theorem Gk{w:Int}(e:¬d.word="say"):fK w d=[]:=by cases d<;>first|rfl|exact absurd rfl e
theorem xD{l:List Int}(h:0<l.length):l[0]?=some (l.getD 0 0):=by
 cases l with
 |nil=>simp at h
 |cons a r=>rfl
abbrev fP:Stmt:=(cq (top 41)).getD 4 (.Pass ⟨0,0,0,0⟩)
def muW(n:Nat)(σ:St):Nat:=match σ[8]? with
 |some (some (V.int i))=>n-i.toNat
 |_=>0
inductive rC(K:W.Frag)(C:Addr)(vs:List V)(H:Hp)(Q:VK):Prop
 |mk (m:Addr) (st:V) (way said M:Int) (YI Cy:List Int) (ds:List bf) (ns row:List Int) (h0:vs=[.ref m,st,.int way,.int said]) (h1:jF C H m M YI Cy ds) (h2:wU K H st ns row) (h3:2<=M) (h4:M<=1000000000000) (h5:(∀z∈ns,0<=z/\z<M)) (h6:row.length<=12) (h7:ds.length<=24) (h8:(∀d∈ds,d.ok ns.length)) (h9:∀x H',aq H H'->Res H H' x (nj M way said ds ns row)->Q x H'):rC K C vs H Q
def uu(K:W.Frag)(C:Addr):Sp:=λvs H Q _=>rC K C vs H Q
inductive OC(H:Hp)(m:Addr)(st:V)(way said M:Int)(ds:List bf)(ns row:List Int)(σ:St)(H':Hp):Prop
 |mk (an ar gA aw:Addr) (zs:List V) (z9 OD:Option V) (at_:Nat) (s:WS) (f:Nat) (h0:σ=[some (.ref m),some st,some (.int way),some (.int said),some (.ref an),some (.ref ar),some (.ref gA),some (.ref aw),some (.int at_),z9,OD]) (h1:aq H H') (h2:H an=none) (h3:H ar=none) (h4:H gA=none) (h5:H aw=none) (h6:an≠ar) (h7:an≠gA) (h8:an≠aw) (h9:ar≠gA) (LF:ar≠aw) (Td:gA≠aw) (Tc:H' an=some (.lst (s.ns.map V.int))) (h13:H' ar=some (.lst (s.row.map V.int))) (h14:H' gA=some (.lst zs)) (h15:SL H' zs s.cu) (h16:H' aw=some (.lst (s.words.map V.int))) (h17:s.ns.length=ns.length) (h18:(∀z∈s.ns,0<=z/\z<M)) (h19:s.row.length<=12) (h20:s.cu.length<=at_) (h21:s.words.length<=at_) (h22:wR M way said f (ds.drop at_) s=nj M way said ds ns row) (h23:(ds.drop at_).length<=f):OC H m st way said M ds ns row σ H'
theorem oN(D:ji K C "worked" "Machine.worked" fP fx)(T:Tx K mg C CN CR F FD)(fQ:Def P w K mg base "change_numbers" 1 dr Gf)(jJ:Def P w K mg base "change_row" 1 fA Gg)(mr:Def P w K mg base "left_out" 1 g8 Be)(kC:Def P w K mg base "values_of" 1 ["deed"] A9)(mw:Def P w K mg base "worth_of" 2 dn (xo K)):cX P w K mg base C "worked" 3 fx (uu K C):=by
  exists["self","state","way","said","numbers","row","sent","words","at","deed","worths"];obtain⟨m,st,k,c,M,YI,Cy,t,ns,row,rfl,hm,tE,CM,oI,hb,nv,LC,aU,q⟩:=h;have O:=hr.units;refine⟨_,(ai (aT (i:=4) sc rfl Sort (cQ b4 rfl T.dI vX (af (aj O (ao 1) ag) aa)))
    (ai (aT (i:=5) sc rfl Sort (cQ b4 rfl T.dI vX (af (aj O (ao 1) ag) aa)))
    (ai (aT (i:=6) sc rfl Sort (bF aa))
    (ai (aT (i:=7) sc rfl Sort (bF aa))
    (ai (aT (i:=8) sc rfl Sort ag)
    (ai (DU PassesOwn.never (Ae gp (pv 8) (aZ aN rfl T.bV T' (af (bJ (pv 0) rfl) aa)) (aG _))
    (ai (aT (i:=9) sc rfl Sort (aj O (bJ (ao 0) rfl) (ao 8)))
    (ai (dP (i:=10) sc rfl Sort (N':=["value","way","said","numbers","row","self"]) (ix:=[none,some 2,some 3,some 4,some 5,some 0]) (bR (aE kC hr (af (ao 9) aa))) (λ_ _ _ _=>(aP (i:=0) (show(["value","way","said","numbers","row","self"]:List Str).Nodup by decide +kernel) rfl Sort)) nu (λ_ _ _ _=>(aE mw hr (af (ao 0) (af (bu (af (ao 3) (af (ao 4) aa))) (af (ao 1) (af (ao 2) (af (JP (K:=K) rfl (ao 5) rfl) aa))))))))
    (ai (bS (aE fQ hr (af (ao 4) (af (ao 9) (af (ao 10) (af (bJ (ao 0) rfl) aa))))))
    (ai (bS (aE jJ hr (af (ao 5) (af (ao 9) (af (ao 10) aa)))))
    (ai (aS (az (aQ O) (aj O (ao 9) ag) aB (aG _)) (ak (bS (du nS qy qz b8 (ao 6) (af (bu (af (aj O (ao 9) ag) (af (aj O (ao 10) ag) aa))) aa)))) (ak (aS (az (aQ O) (aj O (ao 9) ag) aB (aG _)) (ak (bS (du nS qy qz b8 (ao 7) (af (aj O (ao 10) ag) aa)))) aI)))
    (ak (M4 (i:=8) sc rfl Sort (aV cS ag (aE mr hr (af (ao 9) (af (ao 10) aa)))) M5))))))))
    (ak (aH (bu (af (bu (af (cQ cn rfl T.ck tm (af (ao 4) aa)) (af (cQ cn rfl T.ck tm (af (ao 5) aa)) aa))) (af (ao 6) (af (ao 7) aa)))))))))))),?_⟩
  nofun;obtain⟨dx,stm,dd,Iu,IB,LG⟩:=hm;obtain⟨ad,xs,rfl,Te,sO⟩:=SV LG;obtain⟨sa,sb,Tf,rfl,Tg,YJ,YK⟩:=tE;ac_rfl;left;calc cT _ _ (.inr (bq.of Tg)) rfl ?_;left;calc bL _ YJ (λB OE=>?_);have Z:=aq.new (.lst (ns.map V.int)) OE;left;calc cT _ _ (.inr (bq.of (Z _ _ Tg))) rfl ?_;left;have OF:aO K (upd H B (.lst (ns.map V.int))) Tf (row.map V.int)\/bq K (upd H B (.lst (ns.map V.int))) Tf (row.map V.int):=YK.elim (λz=>.inl (Z.seq z)) (λz=>.inr (Z.Qo z));calc bL _ OF (λI CY=>?_);have R:=aq.new (.lst (row.map V.int)) CY;left;calc⟨aav _,λu oO=>?_⟩;have r:=aq.new (.lst []) oO;left;calc⟨aav _,λG Y=>?_⟩;have W:=aq.new (.lst []) Y;left;have YL:I≠B:=λz=>by subst z;rw[ab]at CY;cases CY
  have YM:H I=none:=Z.free CY;have YN:H u=none:=(Z.trans R).free oO;have YO:H G=none:=(Z.trans (R.trans r)).free Y;have YQ:u≠B:=λz=>by subst z;rw[R _ _ ab]at oO;cases oO
  have YR:u≠I:=λz=>by subst z;rw[ab]at oO;cases oO
  have YS:G≠B:=λz=>by subst z;rw[r _ _ (R _ _ ab)]at Y;cases Y
  have YT:G≠I:=λz=>by subst z;rw[r _ _ ab]at Y;cases Y
  have YU:G≠u:=λz=>by subst z;rw[ab]at Y;cases Y
  have zB:=Z.trans (R.trans (r.trans W));have IC:0<M:=by lia
  refine Gh (OC H m (.ref sa) k c M t ns row) (muW t.length) ?_ ?_ ?_
  · refine⟨B,I,u,G,[],none,none,0,⟨ns,row,[],[]⟩,t.length,rfl,zB,OE,YM,YN,YO,Ne.symm YL,Ne.symm YQ,Ne.symm YS,Ne.symm YR,Ne.symm YT,Ne.symm YU,W _ _ (r _ _ (R _ _ ab)),W _ _ (r _ _ ab),W _ _ ab,⟨rfl,λi z p e=>by simp at e⟩,ab,rfl,hb,nv,J' _,J' _,rfl,J' _⟩
  · intro σ H1 gG;obtain⟨B,I,u,G,zs,z9,OD,g,s,f,rfl,sH,a1,a2,a3,a4,n1,n2,n3,n4,n5,n6,e1,e2,e3,zC,e5,ID,IE,xE,IF,Wv,S,CZ⟩:=gG;have Ke:=sH _ _ Iu;have Th:=sH _ _ Te;have YV:=sO.aA sH.aJ;left;calc fL Ke T.cy T.Lx SS ?_;left;calc bL _ (.inr ⟨_,bq.of Th,rfl⟩) ?_;by_cases lE:g < t.length
    · have Ti:g < xs.length:=by rw[sO.1];exact lE
      left;rw[if_pos (by simpa using Ti)];calc⟨λσ' H'=>OC H m (.ref sa) k c M t ns row σ' H'/\muW t.length σ'<t.length-g,λσ' H' h=>h,?_⟩;have j3:=aU t[g] (aan lE);have hx:=YV.2 g xs[g] t[g] (bU Ti) (bU lE);have Qw:t.drop g=t[g]::t.drop (g+1):=List.drop_eq_getElem_cons lE;nofun;generalize hdd:t[g]=d at j3 hx Qw;generalize Ww:xs[g]=x at hx;have exx:xs[g]?=some x:=by rw[bU Ti,Ww]
      obtain⟨f',rfl⟩:∃f',f=f'+1:=⟨f-1,by rw[Qw]at CZ;simp at CZ;lia⟩
      rw[Qw]at S CZ
      replace S:wR M k c f' ((t.drop (g+1)).drop (lS M k c d s).toNat) (j2 M k c d s)=nj M k c t ns row:=S
      ac_rfl;rw[List.drop_drop]at S;left;calc fL Ke T.cy T.Lx SS ?_;left;calc cT _ x (.inr (bq.of Th)) (av exx) ?_;left;calc bC ?_;left;calc⟨x,3,d,rfl,hx,λl zv k0 H2 R OG hl F7=>?_⟩;calc .inl ⟨⟨_,aO.of hl⟩,λD hD=>?_⟩;have IG:=F7.len;have Js:=xB (d:=d);refine aY (J:=tF K l) (n:=zv.length) (λi ys H'=>ys=((d.vals.take i).map (fu M k c s.ns s.row)).map V.int/\aq H2 H') (L' (aD ())) ⟨rfl,aq.new _ hD⟩ ?_ ?_ ?_ ?_
      · rintro i ys H' hi ⟨_,r⟩;exact⟨_,zv[i],aO.of (r _ _ hl),bU hi⟩
      · rintro ys H' ⟨_,r⟩;exact⟨_,aO.of (r _ _ hl),J' _⟩
      · intro i ys H3 hi bD xF gP y H4 sM;nofun;obtain⟨rfl,r⟩:=gP;obtain⟨rfl,hy⟩:=sM;have ey:=hy _ (aO.of (r _ _ hl));obtain⟨v,ev,hv⟩:=F7.get ey;ac_rfl;have iO:=nz j3 v (aai ev);walk_at "xf";left;rw[if_pos trivial];refine⟨cR,λp hp=>?_⟩;have W:=aq.new (.tup [.ref B,.ref I]) hp;have Qx:=R.trans (r.trans W);refine fL (Qx _ _ Ke) T.cy T.Lw SR ?_;refine⟨y,.ref p,k,c,M,v,s.ns,s.row,k0,rfl,(hv.aA (r.trans W).aJ),⟨p,B,I,rfl,ab,.inl (aO.of (Qx _ _ e1)),.inl (aO.of (Qx _ _ e2))⟩,by rw[ID];exact iO,IC,?_⟩;refine bX (W _ _ bD) xF hi (L' (aD ())) ⟨?_,λb o e=>?_⟩
        · rw[List.take_add_one,ev];simp[fu]
        · rw[ax (au e hD)];exact W _ _ (r _ _ e)
      rintro ys H3 bD xF ⟨rfl,r⟩;rw[IG,aax]at bD;have X:=R.trans r;have DA:H1 D=none:=R.free hD;generalize qk:d.vals.map (fu M k c s.ns s.row)=ws at bD;have jw:ws.length=d.vals.length:=by rw[<-qk];simp
      have Tj:0<=ws.getD 0 0/\ws.getD 0 0<M:=by rw[<-qk];exact ur IC
      have Bg:j2 M k c d s=⟨jl M s.ns (ws.getD 0 0) d,nh s.row (ws.getD 0 0) d,s.cu++gN (ws.getD 0 0) d,s.words++fK (ws.getD 0 0) d⟩:=by rw[<-qk];rfl
      have Bh:lS M k c d s=ni (ws.getD 0 0) (ws.getD 1 0) d:=by rw[<-qk];rfl
      rw[Bg,Bh]at S;have IH:∀{b:Addr} {o:HO},H1 b=some o->b≠D:=λe=>au e DA;left;calc fL (X _ _ Ke) T.cy T.Lw SR ?_;calc⟨B,x,D,s.ns,ws,M,3,d,rfl,X _ _ e1,hx.aA X.aJ,bD,jw,by rw[ID];calc j3,IC,oI,IE,λH4 e14 k4=>?_⟩;have t4:bP H3 H4:=λb ys e=>k4 b _ (λz=>by subst z;rw[X _ _ e1]at e;cases e) e;left;calc⟨I,x,D,s.row,ws,3,d,rfl,k4 _ _ (Ne.symm n1) (X _ _ e2),hx.aA (X.aJ.trans t4),k4 _ _ (Ne.symm (IH e1)) bD,jw,xE,λL YW k5=>?_⟩;have t5:bP H4 L:=λb ys e=>k5 b _ (λz=>by subst z;rw[k4 _ _ (Ne.symm n1) (X _ _ e2)]at e;cases e) e;have t15:bP H1 L:=X.aJ.trans (t4.trans t5);have kk:∀b o,b≠B->b≠I->H1 b=some o->L b=some o:=λb o ne1 ne2 e=>k5 b o ne2 (k4 b o ne1 (X _ _ e));have YX:=k5 _ _ n1 e14;have Qy:=kk _ _ (Ne.symm n2) (Ne.symm n4) e3;have Tn:=kk _ _ (Ne.symm n3) (Ne.symm n5) e5;have AW:L D=some (.lst (ws.map V.int)):=k5 _ _ (Ne.symm (IH e2)) (k4 _ _ (Ne.symm (IH e1)) bD);have OH:=zC.aA t15;have OI:aq H L:=λb o e=>kk b o (au e a1) (au e a2) (sH _ _ e);have Dz:=hx.aA t15;have LH:=Gj (w:=ws.getD 0 0) (w':=ws.getD 1 0) j3;obtain⟨a,us,rfl,ha,-⟩:=rg Dz j3;left;rename_i N1 hN1 T1 U1 hT1 hU1;have fin:∀U II,aq H U->U B=some (.lst ((jl M s.ns (ws.getD 0 0) d).map V.int))->U I=some (.lst ((nh s.row (ws.getD 0 0) d).map V.int))->U u=some (.lst II)->SL U II (s.cu++gN (ws.getD 0 0) d)->U G=some (.lst ((s.words++fK (ws.getD 0 0) d).map V.int))->HT U 3 (.ref a) d.dv->U D=some (.lst (ws.map V.int))->N1 [some (V.ref m),some (V.ref sa),some (V.int k),some (V.int c),some (V.ref B),some (V.ref I),some (V.ref u),some (V.ref G),some (V.int (g:Nat)),some (V.ref a),some (V.ref D)] U:=by
        intro U II f0 f1 f2 f3 f4 f5 f6 f7;left;calc⟨.ref a,D,ws,_,_,rfl,f6,f7,jw,?_⟩;left;calc cT _ _ rfl rfl ?_;have l1:=xC (w:=ws.getD 0 0) (d:=d);refine⟨⟨B,I,u,G,II,some (.ref a),some (.ref D),g+1+(ni (ws.getD 0 0) (ws.getD 1 0) d).toNat,⟨jl M s.ns (ws.getD 0 0) d,nh s.row (ws.getD 0 0) d,s.cu++gN (ws.getD 0 0) d,s.words++fK (ws.getD 0 0) d⟩,f',?_,f0,a1,a2,a3,a4,n1,n2,n3,n4,n5,n6,f1,f2,f3,f4,f5,by rw[ou];calc ID,Bf (d:=d) IC IE Tj,Gi (w:=ws.getD 0 0) (d:=d) xE,(by rw[aac];lia),(by rw[aac];lia),S,?_⟩,?_⟩
        · first|rfl|rw[sk1 LH]
        · exact sk2 CZ
        · exact sk3 lE LH
      calc cp ha (av (j:=0) rfl) ?_;left;by_cases k1:d.word="send"
      · rw[if_pos (aaj k1)];obtain⟨j,u2,YH,es,C0,hv2⟩:=Kb (w:=ws.getD 0 0) Dz k1;have Bc:iG (ws.map V.int) 0=some (.int (ws.getD 0 0)):=av (j:=0) (by rw[A',xD ()];rfl);generalize ws.getD 0 0=w0 at *
        · skip
          left;calc⟨.inl ⟨rfl,_,aO.of Qy⟩,?_⟩;calc cp YH (av (j:=1) rfl) ?_;left;calc bx AW Bc ?_;calc⟨cR,λtp IJ=>?_⟩;have s6:=aq.new (.tup [.int j,.int w0]) IJ;calc gO _ (s6 _ _ Qy) (abm (by have:=zC.1;lia) (aD (n:=100) ())) ?_;have htn:tp≠u:=λz=>by subst z;rw[Qy]at IJ;cases IJ
          have t6:bP (upd L tp (.tup [.int j,.int w0])) (upd (upd L tp (.tup [.int j,.int w0])) u (.lst (zs++[.ref tp]))):=(bP.refl _).upd λys e=>by rw[s6 _ _ Qy]at e;cases e
          have N:∀b o,b≠u->L b=some o->upd (upd L tp (.tup [.int j,.int w0])) u (.lst (zs++[.ref tp])) b=some o:=λb o ne e=>by rw[ax ne];exact s6 _ _ e
          exact fin _ _ (λb o e=>N b o (au e a3) (OI _ _ e)) (N _ _ n2 YX) (N _ _ n4 YW) ab (by rw[es];calc(OH.aA (s6.aJ.trans t6)).snoc (dy (n:=0) (by rw[ax htn];calc ab) (.int _) (.int _))) (by rw[C0,Y'];calc N _ _ (Ne.symm n6) Tn) (Dz.aA (s6.aJ.trans t6)) (N _ _ (Ne.symm (IH e3)) AW)
      · rw[if_neg λz=>k1 (aaD z)];have es:=Kc (w:=ws.getD 0 0) k1;left;calc cp ha (av (j:=0) rfl) ?_;left;by_cases k2:d.word="say"
        · rw[if_pos (aaj k2)];obtain⟨ew,C0⟩:=OB (w:=ws.getD 0 0) k2;have Bc:iG (ws.map V.int) 0=some (.int (ws.getD 0 0)):=av (j:=0) (by rw[A',xD ()];rfl);generalize ws.getD 0 0=w0 at *
          · skip
            left;calc⟨.inl ⟨rfl,_,aO.of Tn⟩,?_⟩;left;calc bx AW Bc ?_;calc gO _ Tn (abm (by simp;lia) (aD (n:=100) ())) ?_;have t6:bP L (upd L G (.lst (s.words.map V.int++[.int w0]))):=(bP.refl _).upd λys e=>by rw[Tn]at e;cases e
            have N:∀b o,b≠G->L b=some o->upd L G (.lst (s.words.map V.int++[.int w0])) b=some o:=λb o ne e=>by rw[ax ne];exact e
            exact fin _ zs (λb o e=>N b o (au e a4) (OI _ _ e)) (N _ _ n3 YX) (N _ _ n5 YW) (N _ _ n6 Qy) (by rw[es,Y'];calc OH.aA t6) (by rw[ab,ew,aar];rfl) (Dz.aA t6) (N _ _ (Ne.symm (IH e5)) AW)
        · rw[if_neg λz=>k2 (aaD z)];have ew:=Gk (w:=ws.getD 0 0) k2;calc L2.ba (by assumption) ?_;exact fin _ _ OI YX YW Qy (by rw[es,Y'];calc OH) (by rw[ew,Y'];calc Tn) Dz AW
    · have Ti:¬g < xs.length:=by rw[sO.1];exact lE
      left;rw[if_neg (by simpa using Ti)];rw[List.drop_eq_nil_of_le (),AF]at S;left;calc .inl ⟨_,aO.of e1,λt1 zo=>?_⟩;have r1:=aq.new (.tup (s.ns.map V.int)) zo;left;calc .inl ⟨_,aO.of (r1 _ _ e2),λt2 qj=>?_⟩;have r2:=aq.new (.tup (s.row.map V.int)) qj;left;calc⟨cR,λt3 zt=>?_⟩;have r3:=aq.new (.tup [.ref t1,.ref t2]) zt;left;calc⟨by show 3<=sizeLine;decide,λt4 zu=>?_⟩;have r4:=aq.new (.tup [.ref t3,.ref u,.ref G]) zu;have Kf:=r1.trans (r2.trans (r3.trans r4));refine q _ _ (sH.trans Kf) ⟨_,_,u,G,zs,rfl,ab,?_,Kf _ _ e3,?_,?_,a3,a4,n6⟩
      · rw[<-S];exact(dy ab (ng (r3 _ _ (r2 _ _ ab))) (ng (r3 _ _ ab))).aA r4.aJ
      · rw[<-S];exact zC.aA Kf.aJ
      · rw[<-S];exact Kf _ _ e5
  · intro σ H1 Q Q' hq hc;obtain⟨x,h1,x0,h0,a,C',yp,fs,v,h2,h3,h4,h5,h6,n,h7,h8⟩:=hc;refine⟨x,h1,x0,h0,a,C',yp,fs,v,h2,h3,h4,h5,h6,n,h7,?_⟩
    cases x<;>first
      |calc(show False from h8).elim
      | (obtain⟨k',h9,LF⟩:=h8
         calc⟨k',h9,hq _ _ LF⟩)
def lT(n:Nat->Nat)(ad:Nat->Nat->Addr)(t:Nat):List V:=(List.range (n t)).map λi=>V.ref (ad t i)
theorem xG{n:Nat->Nat}{t:Nat}:(lT n ad t).length=n t:=by simp[lT]
theorem bo{n:Nat->Nat}{t i:Nat}(h:i<n t):iG (lT n ad t) (i:Int)=some (.ref (ad t i)):=av (by simp[lT,h])
def DB(a:V)(p:Addr)(o:Nat->Addr):List (Str×V):=[("own_net",a),("picks_done",.ref p),("states_had",.ref (o 1)),("words_had",.ref (o 2)),("words_said",.ref (o 3)),("letters_say",.ref (o 4)),("senders",.ref (o 5)),("workers",.ref (o 6))]
section
variable {bt:V}{p:Addr}{o:Nat->Addr}
theorem oP:(DB bt p o).lookup ("own_net":Str)=some bt:=by kernel_rfl
theorem To:(DB bt p o).lookup ("picks_done":Str)=some (.ref p):=by kernel_rfl
theorem Kg:(DB bt p o).lookup ("states_had":Str)=some (.ref (o 1)):=by kernel_rfl
theorem YY:(DB bt p o).lookup ("words_had":Str)=some (.ref (o 2)):=by kernel_rfl
theorem Tp:(DB bt p o).lookup ("words_said":Str)=some (.ref (o 3)):=by kernel_rfl
theorem Kh:(DB bt p o).lookup ("letters_say":Str)=some (.ref (o 4)):=by kernel_rfl
theorem YZ:(DB bt p o).lookup ("senders":Str)=some (.ref (o 5)):=by kernel_rfl
theorem Ki:(DB bt p o).lookup ("workers":Str)=some (.ref (o 6)):=by kernel_rfl
end
structure oQ(C CN:Addr)(H:Hp)(bt:Addr)(nt:NT):Prop where
 ex:∃ms wv lv,j5 CN H bt ms wv lv/\ms.length=nt.ms.length/\(∀(i:Nat) m d,ms[i]?=some m->nt.ms[i]?=some d->Qv C H m d)/\fc H 1 wv (nt.ws.map jr)
 ok:nt.Ok
theorem Qv.fr{C:Addr}{m:Addr}{d:MD}(f:Fr Z H H')(h:Qv C H m d):Qv C H' m d:=by
 obtain⟨a,st,dd,b,c,e⟩:=h;calc⟨a,st,dd,f.lH b id,c.aA f.aJ,e.aA f.aJ⟩
theorem j5.fr{CN:Addr}{x:Addr}{d:List V}(f:Fr Z H H')(h:j5 CN H x ms wv d):j5 CN H' x ms wv d:=by
 obtain⟨d,a,b,c,e,g,i,j⟩:=h;calc⟨d,a,b,c,f.lH e id,f.lH g id,f.lH i id,f.lH j id⟩
theorem oQ.fr{C CN:Addr}{c:Addr}{nt:NT}(f:Fr Z H H')(h:oQ C CN H c nt):oQ C CN H' c nt:=by
 obtain⟨⟨ms,wv,c,e,g,j,k⟩,l⟩:=h;calc⟨⟨ms,wv,c,e.fr f,g,λi m d a b=>(j i m d a b).fr f,k.aA f.aJ⟩,l⟩
structure cI(C CN CR:Addr)(F:Addr->Prop)(H:Hp)(x bt:Addr)(nt:NT)(r:RS)(ad:Nat->Nat->Addr):Prop where
 ins:∃dx o,H x=some (.ins CR dx (DB (.ref bt) (ad 0 0) o))/\∀t,1<=t->t<=6->H (o t)=some (.lst (lT nt.n ad t))/\¬F (o t)/\¬FP nt.n ad (o t)
 cP:dQ F H nt.n ad r.ct
 OJ:oQ C CN H bt nt
section
variable {C CN CR:Addr}{F:Addr->Prop}{H H':Hp}{x bt:Addr}{nt:NT}{r:RS}{ad:Nat->Nat->Addr}
theorem cI.keep(h:cI C CN CR F H x bt nt r ad)(f:Fr F H H'):cI C CN CR F H' x bt nt r ad:=by
 obtain⟨⟨d,o,e,c⟩,g,i⟩:=h;calc⟨⟨d,o,f.lH e id,λt a b=>⟨f.at (c t a b).1 (c t a b).2.1,(c t a b).2⟩⟩,g.keep f,i.fr f⟩
theorem cI.same(h:cI C CN CR F H x bt nt r ad)(s:aq H H'):cI C CN CR F H' x bt nt r ad:=h.keep s.fr
theorem cI.own(h:cI C CN CR F H x bt nt r ad)(f:Fr (FP nt.n ad) H H')(b:dQ F H' nt.n ad r'.ct):cI C CN CR F H' x bt nt r' ad:=by
 obtain⟨⟨d,o,e,c⟩,i,g⟩:=h;calc⟨⟨d,o,f.lH e id,λt a b=>⟨f.at (c t a b).1 (c t a b).2.2,(c t a b).2⟩⟩,b,g.fr f⟩
end
abbrev iP:Stmt:=(cq (top 50)).getD 6 (.Pass ⟨0,0,0,0⟩)
def rD(nt:NT)(e j:Nat):Int:=if e=0 then(nt.w j).1 else(nt.w j).2.1
def sT(nt:NT)(e m:Nat):List Nat:=(List.range nt.ws.length).filter λj=>decide (rD nt e j=m)
def zD(C CN:Addr):Sp:=λvs H Q _=>∃(x:Addr) (nt:NT) (m e:Nat),vs=[.ref x,.int m,.int e]/\oQ C CN H x nt/\m<nt.ms.length/\e<2/\∀l H',aq H H'->H l=none->H' l=some (.lst ((sT nt e m).map λi=>.int (i:Nat)))->Q (.ref l) H'
theorem sU(D:ji K CN "ways_at" "Net.ways_at" iP gg)(T:Tx K mg C CN CR F FD)(S:Def P w K mg base "is_within" 2 aL cb):cX P w K mg base CN "ways_at" 3 gg (zD C CN):=by
 exists gg;obtain⟨x,d,m,e,rfl,B,I,L,q⟩:=h;have L:=hr.units;refine⟨_,(ai (aS (cC (bN (aE S hr (af (ao 1) (af ag (af (aZ aN rfl T.bV T' (af (bJ (ao 0) rfl) aa)) aa)))))) (ak cW) aI)
  (ak (aH (dD (N':=["number","way","m","end"]) (ix:=[none,none,some 1,some 2]) (jC rfl T.dE (af (bJ (ao 0) rfl) aa)) (λ_ _ _ _=>(nc (K:=K) rfl (i:=0) (j:=1) rfl (show(["number","way","m","end"]:List Str).Nodup by decide +kernel) rfl rfl Sort Sort)) (λ_ _ _ _=>(gC (az (jm (K:=K) rfl L) (bW (K:=K) rfl L (ao 1) (ao 3)) (ao 2) (aG _)))) (λ_ _ _ _=>(ao 0)))))),?_⟩
 nofun;obtain⟨⟨ms,wv,L,S,U,X,M⟩,W⟩:=id B;obtain⟨X,a,b,cc,L,Y,l,h4⟩:=id S;ac_rfl;left;calc⟨x,CN,X,_,_,rfl,L,T.cA,T.xc,SY,_,.inr ⟨_,bq.of Y,rfl⟩,?_⟩;calc fv (.int m) _ 0 _ rfl (.int _) ?_;rw[show inR 0 (((ms.map V.ref).length:Nat):Int) (.int (m:Int))=true by simp[inR,U,I]];calc vg ?_;rw[if_neg ∅];left;calc bC ?_;left;calc fL L T.cA T.xf S0 ?_;left;calc Fy false wv (Sq.t l) (λD r=>?_);have Z:wv.length=d.ws.length:=by simpa using M.1
 have x:=W.Cz;refine aY (J:=NV false K b) (n:=wv.length) (λi ys H'=>aq H H'/\ys=((List.range i).filter λj=>decide (rD d e j=m)).map λj=>V.int (j:Nat)) (L' (aD ())) ⟨aq.new _ r,rfl⟩ ?_ ?_ ?_ ?_
 ·rintro i ys H' u ⟨g,_⟩;exact⟨wv,wv[i],Sq.t (g _ _ l),bU u⟩
 ·rintro ys H' ⟨g,_⟩;exact⟨wv,Sq.t (g _ _ l),rfl⟩
 ·intro i ys H' u p N gG xx H4 gP;nofun;obtain⟨g,rfl⟩:=gG;obtain⟨t,ht,rfl,y⟩:=gP;obtain⟨k,ex,rfl⟩:=y wv (Sq.t (g _ _ l));have x:i < d.ws.length:=by lia
  have o:=(M.2 i k (jr (d.w i)) ex (by rw[A',show d.ws[i]?=some (d.w i) from bc x];rfl)).aA g.aJ;have v:=aq.new (.tup [.int (i:Nat),k]) ht
  replace o:=o.aA v.aJ
  have qj:upd H' t (.tup [.int (i:Nat),k]) t=some (.tup [.int (i:Nat),k]):=ab;have O:=v _ _ p;have R:=g.trans v;generalize hG:upd H' t (.tup [.int (i:Nat),k])=G at *;obtain⟨ta,u1,u2,u3,kk,rfl,oR,g1,g2,g3⟩:=bE o;obtain rfl:=g1.cj;obtain rfl:=g2.cj;obtain rfl:=g3.cE;ac_rfl;calc zf (bq.of qj) ⟨Ext.set (Ext.set (Ext.refl _) rfl) rfl,?_⟩;left;have Tq:iG [V.int (d.w i).1,V.int (d.w i).2.1,V.str (d.w i).2.2] (e:Int)=some (.int (rD d e i)):=by
   have:e=0\/e=1:=by lia
   rcases this with rfl|rfl
   ·exact av (j:=0) rfl
   ·exact av (j:=1) rfl
  calc cp oR Tq ?_;left;have k:(List.range (i+1)).filter (λj=>decide (rD d e j=m))=(List.range i).filter (λj=>decide (rD d e j=m))++(if rD d e i=m then[i] else[]):=by
   rw[List.range_succ,List.filter_append];congr 1;by_cases z:rD d e i=m<;>simp[z]
  by_cases z:rD d e i=m
  ·rw[if_pos (by simp[z])];calc bX O N u (L' (aD ())) ⟨λc o e=>by rw[ax (au e r)];calc R _ _ e,?_⟩;rw[k,if_pos z,aar];rfl
  ·rw[if_neg (by simp[z])];exact⟨_,O,(),R,by rw[k,if_neg z,Y']⟩
 ·rintro ys H' p N ⟨g,rfl⟩;rw[Z]at p;calc q _ _ g r p
abbrev gU:Stmt:=(cq (top 50)).getD 4 (.Pass ⟨0,0,0,0⟩)
def pR(C CN:Addr):Sp:=λvs H Q _=>∃(x:Addr) (nt:NT) (m:Nat),vs=[.ref x,.int m]/\oQ C CN H x nt/\m<nt.ms.length/\∀l H',aq H H'->H l=none->H' l=some (.lst ((sT nt 0 m).map λi=>.int (i:Nat)))->Q (.ref l) H'
theorem rE(D:ji K CN "ways_out" "Net.ways_out" gU cx)(T:Tx K mg C CN CR F FD)(g:cX P w K mg base CN "ways_at" 3 gg (zD C CN)):cX P w K mg base CN "ways_out" 4 cx (pR C CN):=by
 exists cx;obtain⟨x,d,m,rfl,c,e,q⟩:=h;have i:=hr.units;calc⟨_,(ak (aH (jj g T.cA hr (ao 0) (af (ao 1) (af ag aa))))),?_⟩;nofun;obtain⟨⟨ms,wv,j,i,k,l,n⟩,o⟩:=id c;obtain⟨j,a,b,k,g,l,n,o⟩:=id i;ac_rfl;left;calc iq g (eA ⋯ ⋯ ⋯) ?_;calc⟨x,d,m,0,rfl,c,e,∅,q⟩
abbrev iQ:Stmt:=(cq (top 50)).getD 5 (.Pass ⟨0,0,0,0⟩)
def rF(C CN:Addr):Sp:=λvs H Q _=>∃(x:Addr) (nt:NT) (m:Nat),vs=[.ref x,.int m]/\oQ C CN H x nt/\m<nt.ms.length/\∀l H',aq H H'->H l=none->H' l=some (.lst ((sT nt 1 m).map λi=>.int (i:Nat)))->Q (.ref l) H'
theorem sV(D:ji K CN "ways_in" "Net.ways_in" iQ cx)(T:Tx K mg C CN CR F FD)(g:cX P w K mg base CN "ways_at" 3 gg (zD C CN)):cX P w K mg base CN "ways_in" 4 cx (rF C CN):=by
 exists cx;obtain⟨x,d,m,rfl,c,e,q⟩:=h;have i:=hr.units;calc⟨_,(ak (aH (jj g T.cA hr (ao 0) (af (ao 1) (af ag aa))))),?_⟩;nofun;obtain⟨⟨ms,wv,j,i,k,l,n⟩,o⟩:=id c;obtain⟨j,a,b,k,g,l,n,o⟩:=id i;ac_rfl;left;calc iq g (eA ⋯ ⋯ ⋯) ?_;calc⟨x,d,m,1,rfl,c,e,∅,q⟩
def FS(F:Addr->Prop)(H:Hp):Prop:=∀b,F b->∃o,H b=some o/\soft o
theorem FS.fr{F:Addr->Prop}(h:FS F H)(f:Fr Z H H')(c:∀b,F b->¬Z b):FS F H':=λb a=>by
 obtain⟨o,e,s⟩:=h b a;calc⟨o,f.at e (c b a),s⟩
theorem _root_.DD.dQ.sW{F:Addr->Prop}{n:Nat->Nat}{ct:Nat->Nat->CO}(h:dQ F H n ad ct):∀b,F b->¬FP n ad b:=λb a ⟨t,i,c,e⟩=>h.out t i c (e▸a)
theorem small{n:Nat}(h:n<=20000):n<sizeLine:=by rw[sizeLine_eq];lia
theorem OK{r:RS}{n:NT}{w:Nat}{x:Int}{s:Option (Int×Int)}:∀t i,i<n.n t->setC (setC (setC r.ct 4 w (.l ((r.ww w).say.map .int++[.int x]))) 5 w (.l ((r.ww w).snd.map sJ++[sJ s]))) 6 w (.l ((r.ww w).da.map sJ++[.bH])) t i=(r.put w x s).ct t i:=by
 intro t i a;unfold setC
 match t,a with
 |0,_=>simp[RS.ct,RS.put]
 |1,_=>simp[RS.ct,RS.put]
 |2,_=>simp[RS.ct,RS.put]
 |3,_=>simp[RS.ct,RS.put]
 |4,_=>by_cases e:i=w<;>simp[RS.ct,RS.put,e]
 |5,_=>by_cases e:i=w<;>simp[RS.ct,RS.put,e]
 |6,_=>by_cases e:i=w<;>simp[RS.ct,RS.put,e,sJ]
 |(t+7),a=>calc absurd a (abk i)
abbrev fR:Stmt:=(cq (top 14)).getD 1 (.Pass ⟨0,0,0,0⟩)
inductive Bi(C CN CR:Addr)(vs:List V)(H:Hp)(Q:VK):Prop
 |mk (F:Addr->Prop) (x bt:Addr) (nt:NT) (r:RS) (ad:Nat->Nat->Addr) (wy:Nat) (said:Int) (sv:V) (s:Option (Int×Int)) (h0:vs=[.ref x,.int (wy:Nat),.int said,sv]) (h1:cI C CN CR F H x bt nt r ad) (h2:FS F H) (h3:wy<nt.ws.length) (h4:HT H 4 sv (sJ s)) (h5:r.r8 nt 19999) (h6:∀H',Fr (FP nt.n ad) H H'->cI C CN CR F H' x bt nt (r.put wy said s) ad->Q .bH H'):Bi C CN CR vs H Q
def rG(C CN CR:Addr):Sp:=λvs H Q _=>Bi C CN CR vs H Q
theorem oS(D:ji K CR "put_letter" "Run.put_letter" fR dO)(T:Tx K mg C CN CR F FD):cX P w K mg base CR "put_letter" 1 dO (rG C CN CR):=by
 exists dO;obtain⟨F,x,o,g,r,ad,a,c,v,s,rfl,j,I,b,J,k,q⟩:=h;have o:=hr.units;refine⟨_,(ai (bS (du nS qy qz b8 (aj o (bJ (ao 0) rfl) (ao 1)) (af (ao 2) aa)))
  (ai (bS (du nS qy qz b8 (aj o (bJ (ao 0) rfl) (ao 1)) (af (ao 3) aa)))
  (ak (bS (du nS qy qz b8 (aj o (bJ (ao 0) rfl) (ao 1)) (af lV aa)))))),?_⟩
 nofun;obtain⟨x,o,y,d⟩:=j.ins;have z:=j.cP;have o:=(d 4 ∅ ∅).1;have N:=(d 5 ∅ ∅).2.2;have O:=(d 6 ∅ ∅).2.2;have x:=k.bs a b;have x:=k.ls a b;have x:=k.lk a b;obtain⟨l,m,x⟩:=z.lst (t:=4) (i:=a) b rfl;ac_rfl;have k:l.length=(r.ww a).say.length:=by simpa using x.1
 left;calc fL y T.bb T.bT Kh ?_;left;calc bx o (bo b) ?_;calc⟨.inl ⟨rfl,_,aO.of m⟩,?_⟩;left;calc gO l m (small ()) ?_;have B:=z.app (t:=4) (i:=a) b rfl m (eL.one (.int c));have e:Fr (FP g.n ad) H (upd H (ad 4 a) (.lst (l++[.int c]))):=Fr.refl.upd ⟨4,a,b,rfl⟩ m trivial;generalize R:upd H (ad 4 a) (.lst (l++[.int c]))=L at *;left;have k:=e.lH y id;have c:=e.at (d 5 ∅ ∅).1 N;obtain⟨p,u,l⟩:=B.lst (t:=5) (i:=a) b rfl;have m:p.length=(r.ww a).snd.length:=by simpa using l.1
 have l:=I.fr e z.sW;left;calc fL k T.bb T.eV YZ ?_;left;calc bx c (bo b) ?_;calc⟨.inl ⟨rfl,_,aO.of u⟩,?_⟩;left;calc gO p u (small ()) ?_;have M:=B.app (t:=5) (i:=a) b rfl u (eL.one (B.ht l (J.aA e.aJ)));have G:Fr (FP g.n ad) H (upd L (ad 5 a) (.lst (p++[v]))):=e.upd ⟨5,a,b,rfl⟩ u trivial;generalize U:upd L (ad 5 a) (.lst (p++[v]))=S at *;left;have k:=G.lH y id;have l:=G.at (d 6 ∅ ∅).1 O;obtain⟨e,c,m⟩:=M.lst (t:=6) (i:=a) b rfl;have d:e.length=(r.ww a).da.length:=by simpa using m.1
 left;calc fL k T.bb T.de Ki ?_;left;calc bx l (bo b) ?_;calc⟨.inl ⟨rfl,_,aO.of c⟩,?_⟩;left;calc gO e c (small ()) ?_;have m:=M.app (t:=6) (i:=a) b rfl c (eL.one (.bH));have d:Fr (FP g.n ad) H (upd S (ad 6 a) (.lst (e++[.bH]))):=G.upd ⟨6,a,b,rfl⟩ c trivial;calc q _ d (j.own d (m.congr OK))
abbrev eW:Stmt:=(cq (top 14)).getD 2 (.Pass ⟨0,0,0,0⟩)
def LJ(C CN CR:Addr):Sp:=λvs H Q _=>∃(F:Addr->Prop) (x a:Addr) (nt:NT) (r:RS) (ad:Nat->Nat->Addr) (m:Nat),vs=[.ref x,.int m]/\cI C CN CR F H x a nt r ad/\m<nt.ms.length/\Q .bH H
theorem mx(D:ji K CR "need_machine" "Run.need_machine" eW cx)(T:Tx K mg C CN CR F FD)(d:Def P w K mg base "is_within" 2 aL cb):cX P w K mg base CR "need_machine" 3 cx (LJ C CN CR):=by
 exists cx;obtain⟨F,x,e,a,r,ad,m,rfl,b,c,q⟩:=h;have e:=hr.units;calc⟨_,(ak (aS (cC (bN (aE d hr (af (ao 1) (af ag (af (aZ aN rfl T.bV T' (af (bJ (ao 0) rfl) aa)) aa)))))) (ak cW) aI)),?_⟩;obtain⟨e,o,g,i⟩:=b.ins;have d:=(i 1 ∅ ∅).1;left;calc⟨x,CR,e,_,_,rfl,g,T.bb,T.bZ,Kg,_,.inl ⟨_,aO.of d,rfl⟩,?_⟩;calc fv (.int m) _ 0 _ rfl (.int _) ?_;rw[xG];rw[show inR 0 ((a.n 1:Nat):Int) (.int (m:Int))=true by simp[inR];calc c];calc vg ?_;rw[if_neg ∅];left;calc q
abbrev gV:Stmt:=(cq (top 14)).getD 4 (.Pass ⟨0,0,0,0⟩)
def LK(C CN CR:Addr):Sp:=λvs H Q _=>∃(F:Addr->Prop) (x b:Addr) (nt:NT) (r:RS) (ad:Nat->Nat->Addr) (m:Nat) (a:V),vs=[.ref x,.int m,a]/\cI C CN CR F H x b nt r ad/\m<nt.ws.length/\Q .bH H
theorem rH(D:ji K CR "need_way" "Run.need_way" gV gW)(T:Tx K mg C CN CR F FD)(e:Def P w K mg base "is_within" 2 aL cb):cX P w K mg base CR "need_way" 3 gW (LK C CN CR):=by
 exists gW;obtain⟨F,x,g,b,r,ad,m,a,rfl,c,d,q⟩:=h;have g:=hr.units;calc⟨_,(ak (aS (cC (bN (aE e hr (af (ao 1) (af ag (af (aZ aN rfl T.bV T' (af (bJ (ao 0) rfl) aa)) aa)))))) (ak cW) aI)),?_⟩;obtain⟨g,o,i,j⟩:=c.ins;have e:=(j 4 ∅ ∅).1;left;calc⟨x,CR,g,_,_,rfl,i,T.bb,T.bT,Kh,_,.inl ⟨_,aO.of e,rfl⟩,?_⟩;calc fv (.int m) _ 0 _ rfl (.int _) ?_;rw[xG];rw[show inR 0 ((b.n 4:Nat):Int) (.int (m:Int))=true by simp[inR];calc d];calc vg ?_;rw[if_neg ∅];left;calc q
abbrev fz:Stmt:=(cq (top 14)).getD 5 (.Pass ⟨0,0,0,0⟩)
theorem kE{a:V}{o:Nat->Addr}(h:f∉(["own_net","picks_done","states_had","words_had","words_said","letters_say","senders","workers"]:List Str)):(DB a p o).lookup f=none:=by
 simp only[List.mem_cons,List.not_mem_nil,or_false,not_or]at h;unfold DB;simp[List.lookup,beq_eq_false_iff_ne.mpr h.1,beq_eq_false_iff_ne.mpr h.2.1,beq_eq_false_iff_ne.mpr h.2.2.1,beq_eq_false_iff_ne.mpr h.2.2.2.1,beq_eq_false_iff_ne.mpr h.2.2.2.2.1,beq_eq_false_iff_ne.mpr h.2.2.2.2.2.1,beq_eq_false_iff_ne.mpr h.2.2.2.2.2.2.1,beq_eq_false_iff_ne.mpr h.2.2.2.2.2.2.2]
def LL(C CN CR:Addr):Sp:=λvs H Q _=>∃(F:Addr->Prop) (x b:Addr) (nt:NT) (r:RS) (ad:Nat->Nat->Addr) (m k:Nat) (a:V),vs=[.ref x,.int m,.int k,a]/\cI C CN CR F H x b nt r ad/\m<nt.ws.length/\k<(r.ww m).say.length/\Q .bH H
theorem nB(D:ji K CR "need_letter" "Run.need_letter" fz aK)(T:Tx K mg C CN CR F FD)(g:Def P w K mg base "is_within" 2 aL cb)(j:cX P w K mg base CR "need_way" 3 gW (LK C CN CR)):cX P w K mg base CR "need_letter" 4 aK (LL C CN CR):=by
 exists aK;obtain⟨F,x,d,e,r,ad,m,k,a,rfl,b,c,l,q⟩:=h;have l:=hr.units;refine⟨_,(ai (bS (jj j T.bb hr (ao 0) (af (ao 1) (af (ao 3) aa))))
  (ak (aS (cC (bN (aE g hr (af (ao 2) (af ag (af (aZ aN rfl T.bV T' (af (aj l (bJ (ao 0) rfl) (ao 1)) aa)) aa)))))) (ak cW) aI))),?_⟩
 nofun;obtain⟨j,o,g,l⟩:=b.ins;have n:=(l 4 ∅ ∅).1;obtain⟨j,o,p⟩:=b.cP.lst (t:=4) (i:=m) c rfl;ac_rfl;have l:j.length=(r.ww m).say.length:=by simpa using p.1
 left;calc iq g (kE ⋯) ?_;calc⟨_,x,d,e,r,ad,m,_,rfl,b,c,?_⟩;left;calc fL g T.bb T.bT Kh ?_;left;calc bx n (bo c) ?_;calc bL _ (.inl ⟨_,aO.of o,rfl⟩) ?_;calc fv (.int k) _ 0 _ rfl (.int _) ?_;rw[show inR 0 ((j.length:Nat):Int) (.int (k:Int))=true by simp[inR];lia];calc vg ?_;rw[if_neg ∅];left;calc q
structure _root_.DD.RS.sX(nt:NT)(r:RS)(w k:Nat):Prop where
 lt:w<nt.ws.length
 lies:(r.ww w).da[k]?=some none
 row:(nt.w w).2.2="row"->0<k->∃e,(r.ww w).da[k-1]?=some (some e)
theorem zF{n:Nat}{v:V}(h:HD H n v (sJ none)):v=.bH:=by
 have h:HD H n v .bH:=h
 cases h;rfl
theorem ql{H:Hp}{n:Nat}{v:V}{e:Int×Int}(h:HD H n v (sJ (some e))):∃a,v=.ref a/\H a=some (.tup [.int e.1,.int e.2]):=by
 have h:HD H n v (.tup [.int e.1,.int e.2]):=h
 cases h with
 | @tup n a b _ e l i=>
  match b,l,e,i with
  | [u,v],_,e,i=>
   have c:=i 0 u _ rfl rfl;have d:=i 1 v _ rfl rfl;obtain rfl:=c.cj;obtain rfl:=d.cj;calc⟨a,rfl,e⟩
theorem Tr{H:Hp}{n:Nat}{v:V}{e:Option (Int×Int)}(h:HD H n v (sJ e)):HT H 1 v (sJ e):=by
 cases e with
 |none=>rw[zF h];calc .bH
 |some e=>obtain⟨a,rfl,b⟩:=ql h;calc dy b (.int _) (.int _)
theorem nC{vs:List V}{v:V}(h:1<=vs.length)(e:vs[vs.length-1]?=some v):iG vs (-1)=some v:=by
 obtain⟨ys,z,rfl⟩:∃ys z,vs=ys++[z]:=⟨vs.dropLast,vs.getLast (by intro a;rw[a]at h;simp at h),(List.dropLast_concat_getLast _).symm⟩
 rw[ko];simpa using e
abbrev gs:Stmt:=(cq (top 14)).getD 6 (.Pass ⟨0,0,0,0⟩)
def LM(C CN CR:Addr):Sp:=λvs H Q _=>∃(F:Addr->Prop) (x b:Addr) (nt:NT) (r:RS) (ad:Nat->Nat->Addr) (m k:Nat) (a:V),vs=[.ref x,.int m,.int k,a]/\cI C CN CR F H x b nt r ad/\r.Ok nt/\r.sX nt m k/\∀H',aq H H'->Q .bH H'
theorem p8(D:ji K CR "need_pick" "Run.need_pick" gs aK)(T:Tx K mg C CN CR F FD)(o:cX P w K mg base CN "ways" 1 bh (ky CN))(X:cX P w K mg base CR "need_letter" 4 aK (LL C CN CR)):cX P w K mg base CR "need_pick" 5 aK (LM C CN CR):=by
 exists["self","way","number","at","sort"];obtain⟨F,x,B,c,r,ad,m,k,a,rfl,n,N,u,q⟩:=h;have b:=hr.units;refine⟨_,(ai (bS (jj X T.bb hr (ao 0) (af (ao 1) (af (ao 2) (af (ao 3) aa)))))
  (ai (aS (az tY (aj b (aj b (bJ (ao 0) rfl) (ao 1)) (ao 2)) lV (aG _)) (ak cW) aI)
  (ai (aT (i:=4) sc rfl Sort (aj b (aj b (eJ o T.cA hr (bJ (ao 0) rfl)) (ao 1)) ag))
  (ak (aS (PW.pt (pw_and (az (aQ b) (ao 4) aB (aG _)) (pw_and (az om (ao 2) ag (aG _)) (pw_and1 (az EK (aj b (aj b (bJ (ao 0) rfl) (ao 1)) (aV fq (ao 2) ag)) lV (aG _)))))) (ak cW) aI))))),?_⟩
 nofun;obtain⟨X,o,y,b⟩:=n.ins;obtain⟨⟨ms,wv,Y,O,o,X,R⟩,aU⟩:=n.OJ;have S:=(b 6 ∅ ∅).1;have g:=u.lt;obtain⟨Z,U,W⟩:=n.cP.lst (t:=6) (i:=m) g rfl;have b:=u.lies;have Bj:k<(r.ww m).da.length:=(List.getElem?_eq_some_iff.mp b).1;obtain⟨v,ev,dv⟩:=W.get (i:=k) (d:=sJ none) (by rw[A',b];rfl);have:=zF dv;subst this;ac_rfl;left;calc iq y (kE ⋯) ?_;calc⟨_,x,B,c,r,ad,m,k,a,rfl,n,g,by rw[N.lk m g];calc Bj,?_⟩;left;calc fL y T.bb T.de Ki ?_;left;calc bx S (bo g) ?_;calc bx U (av ev) ?_;left
 try rw[if_neg ∅]
 left;calc fL y T.bb T.cB oP ?_;obtain⟨n,o,x,N,b,X,g3,g4⟩:=id O;left;calc iq b (eA ⋯ ⋯ ⋯) ?_;calc fv B ms wv Y rfl O (λl n=>?_);have p:=aq.new (.lst wv) n;have el:upd H l (.lst wv) l=some (.lst wv):=ab;generalize hG:upd H l (.lst wv)=G at *;left;have b:c.ws[m]?=some (c.w m):=bc g;have l:m<wv.length:=by have:=R.1;simp at this;lia
 have C8:=(R.2 m wv[m] (jr (c.w m)) nofun (by rw[A',b];rfl)).aA p.aJ;nofun;obtain⟨ta,l,n,o,x,I,oR,q1,q2,q3⟩:=bE C8;obtain rfl:=q1.cj;obtain rfl:=q2.cj;obtain rfl:=q3.cE;ac_rfl;calc bx el (av (j:=m) (v:=.ref ta) (by rw[<-I];simp)) ?_;calc cp oR (av (j:=2) rfl) ?_;left;have CS:=p _ _ y;have Y2:=p _ _ S;have J:=p _ _ U;have L:=q _ p;have b:=u.row;by_cases z:(c.w m).2.2="row"
 ·by_cases c:0 < k
  ·nofun;obtain⟨e,he⟩:=b z c;obtain⟨l,Y3,M⟩:=W.get (i:=k - 1) (d:=sJ (some e)) (by rw[A',he];rfl);obtain⟨ae,rfl,b⟩:=ql M;ac_rfl;rw[if_pos (by simp[z]),if_pos (by simp;lia)];calc fL CS T.bb T.de Ki ?_;left;calc bx Y2 (bo g) ?_;calc bx J (show iG Z ((k:Int) - 1)=some (.ref ae) from by rw[show(k:Int) - 1=((k - 1:Nat):Int) by lia];calc av Y3) ?_;left
   try rw[if_neg ∅]
   left;exact L
  ·rw[if_pos (by simp[z]),if_neg (by simp;lia),if_neg ∅];left;exact L
 ·rw[if_neg (by simp[z]),if_neg ∅];left;calc L
abbrev kF:Stmt:=(cq (top 14)).getD 11 (.Pass ⟨0,0,0,0⟩)
theorem LN{H:Hp}{n:Nat}{v:V}{s:List Int×List Int}(h:HD H n v (q5 s)):HT H 2 v (wQ s.1 s.2):=by
 have h:HD H n v (.tup [.tup (s.1.map .int),.tup (s.2.map .int)]):=h
 cases h with
 | @tup n a c _ e l i=>
  match c,l,e,i with
  | [u,v],_,e,i=>
   have d:=i 0 u _ rfl rfl;have f:=i 1 v _ rfl rfl;have b:∀{n:Nat} {u:V} {ns:List Int},HD H n u (.tup (ns.map .int))->HT H 1 u (.tup (ns.map .int)):=λ{n u ns} h=>by
    cases h with
    | @tup n a c _ e l i=>exact ng (n:=0) (by rw[e,show c=ns.map V.int from eL.qY ⟨l,i⟩])
   calc dy e (b d) (b f)
def LO(C CN CR:Addr):Sp:=λvs H Q _=>∃(F:Addr->Prop) (x a:Addr) (nt:NT) (r:RS) (ad:Nat->Nat->Addr) (m:Nat),vs=[.ref x,.int m]/\cI C CN CR F H x a nt r ad/\r.Ok nt/\m<nt.ms.length/\∀v,HT H 2 v (wQ ((r.mm m).fe.bA ([],[])).1 ((r.mm m).fe.bA ([],[])).2)->Q v H
theorem xH(D:ji K CR "state" "Run.state" kF cx)(T:Tx K mg C CN CR F FD)(k:cX P w K mg base CR "need_machine" 3 cx (LJ C CN CR)):cX P w K mg base CR "state" 4 cx (LO C CN CR):=by
 exists cx;obtain⟨F,x,c,e,r,ad,m,rfl,b,g,a,q⟩:=h;have j:=hr.units;refine⟨_,(ai (bS (jj k T.bb hr (ao 0) (af (ao 1) aa)))
  (ak (aH (aj j (aj j (bJ (ao 0) rfl) (ao 1)) (mS jy ag))))),?_⟩
 nofun;obtain⟨k,o,j,l⟩:=b.ins;have n:=(l 1 ∅ ∅).1;obtain⟨o,p,k⟩:=b.cP.lst (t:=1) (i:=m) a rfl;have l:o.length=(r.mm m).fe.length:=by simpa using k.1
 have o:=g.wX a;obtain⟨v,u,y⟩:=k.get (i:=(r.mm m).fe.length-1) (d:=q5 ((r.mm m).fe.bA ([],[]))) (by rw[A',nr (d:=([],[])) o];rfl);ac_rfl;left;calc iq j (kE ⋯) ?_;calc⟨_,x,c,e,r,ad,m,rfl,b,a,?_⟩;left;calc fL j T.bb T.bZ Kg ?_;left;calc bx n (bo a) ?_;calc bx p (nC () (by rw[l];calc u)) ?_;calc q _ (LN (y.cv dZ))
abbrev gX:Stmt:=(cq (top 14)).getD 15 (.Pass ⟨0,0,0,0⟩)
def Gq(C CN CR:Addr):Sp:=λvs H Q _=>∃(F:Addr->Prop) (x b:Addr) (nt:NT) (r:RS) (ad:Nat->Nat->Addr),vs=[.ref x]/\cI C CN CR F H x b nt r ad/\∀l a,H l=none->eL H 4 a (r.picks.map pairD)->Q (.ref l) (upd H l (.lst a))
theorem rJ(D:ji K CR "schedule" "Run.schedule" gX bh)(T:Tx K mg C CN CR F FD):cX P w K mg base CR "schedule" 1 bh (Gq C CN CR):=by
 exists bh;obtain⟨F,x,b,c,r,ad,rfl,a,q⟩:=h;have b:=hr.units;calc⟨_,(ak (aH (cQ b4 rfl T.dI vX (af (bJ (ao 0) rfl) aa)))),?_⟩;nofun;obtain⟨c,o,b,d⟩:=a.ins;obtain⟨e,c,d⟩:=a.cP.lst (t:=0) (i:=0) (by show 0<1;decide) rfl;ac_rfl;left;calc fL b T.bb T.cG To ?_;left;calc bL _ (.inl (aO.of c)) (λl a=>?_);calc q l _ a (d.cv dZ)
abbrev oT:Stmt:=(cq (top 14)).getD 8 (.Pass ⟨0,0,0,0⟩)
def Bk(C CN CR:Addr):Sp:=λvs H Q _=>∃(F:Addr->Prop) (x a:Addr) (nt:NT) (r:RS) (ad:Nat->Nat->Addr),vs=[.ref x]/\cI C CN CR F H x a nt r ad/\Q (.ref a) H
theorem C9(D:ji K CR "net" "Run.net" oT bh)(T:Tx K mg C CN CR F FD):cX P w K mg base CR "net" 1 bh (Bk C CN CR):=by
 exists bh;obtain⟨F,x,b,c,r,ad,rfl,a,q⟩:=h;have b:=hr.units;calc⟨_,(ak (aH (bJ (ao 0) rfl))),?_⟩;obtain⟨c,o,b,d⟩:=a.ins;left;calc fL b T.bb T.cB oP ?_;calc q
theorem rK{w:Nat}:∀{l:List Nat},w∈l->l[l.idxOf w]?=some w/\∀i y,i<l.idxOf w->l[i]?=some y->y≠w
 | [],h=>by simp at h
 |a::r,h=>by
  by_cases e:a=w
  ·subst e;rw[List.idxOf_cons_self];exact⟨rfl,λi y c=>absurd c (abk i)⟩
  ·have hr:w∈r:=by
    rcases List.mem_cons.mp h with h|h
    ·exact absurd h.symm e
    ·exact h
   obtain⟨d,g⟩:=rK hr;have j:(a::r).idxOf w=r.idxOf w+1:=by rw[List.idxOf_cons,beq_eq_false_iff_ne.mpr e];rfl
   rw[j];refine⟨by simpa using d,λi y c b=>?_⟩
   cases i with
   |zero=>simp at b;subst b;calc e
   |succ i=>calc g i y () (by simpa using b)
theorem qm{nt:NT}(h:nt.Ok){w:Nat}(a:w<nt.ws.length):(nt.w w).2.1=((nt.goal w:Nat):Int):=by
 have:=h.wy a;unfold NT.goal;lia
theorem Gr{nt:NT}(h:nt.Ok){w:Nat}(a:w<nt.ws.length):w∈sT nt 1 (nt.goal w):=by
 unfold sT;rw[List.mem_filter];calc⟨List.mem_range.mpr a,?_⟩;rw[decide_eq_true_eq];calc qm h a
theorem nE{nt:NT}(h:nt.Ok){w:Nat}(a:w<nt.ws.length):(sT nt 1 (nt.goal w)).idxOf w=nt.place w:=by
 unfold NT.place;rw[qm h a];rfl
theorem uv{l:List Nat}:(l.map λi=>V.int (i:Nat))=(l.map λi=>((i:Nat):Int)).map V.int:=by simp[List.map_map]
theorem Kj{r:RS}{n:NT}{w k:Nat}:∀t i,i<n.n t->setC (setC (setC (setC (setC r.ct 0 0 (.l (r.picks.map pairD++[pairD ((w:Int),(k:Int))]))) 6 w (.l (((r.ww w).da.map sJ).set k (sJ (some (n.ev r w)))))) 1 (n.goal w) (.l ((r.mm (n.goal w)).fe.map q5++[q5 ((n.work r w k).ns,(n.work r w k).row)]))) 3 (n.goal w) (.l (((r.mm (n.goal w)).wp.bA []).map .int++(n.work r w k).words.map .int))) 2 (n.goal w) (.l (((r.mm (n.goal w)).wp.map λu=>DV.int (u.length:Nat))++[.int ((((r.mm (n.goal w)).wp.bA []++(n.work r w k).words).length:Nat))])) t i=(r.step n w k).ct t i:=by
 intro t i a;unfold setC
 match t,a with
 |0,a=>
  have:i=0:=by have:i<1:=a;lia
  subst this;simp[RS.ct,RS.step]
 |1,_=>by_cases e:i=n.goal w<;>simp[RS.ct,RS.step,e]
 |2,_=>by_cases e:i=n.goal w<;>simp[RS.ct,RS.step,e]
 |3,_=>by_cases e:i=n.goal w<;>simp[RS.ct,RS.step,e,qZ]
 |4,_=>by_cases e:i=w<;>simp[RS.ct,RS.step,e]
 |5,_=>by_cases e:i=w<;>simp[RS.ct,RS.step,e]
 |6,_=>by_cases e:i=w<;>simp[RS.ct,RS.step,e,List.map_set]
 |(t+7),a=>calc absurd a (abk i)
theorem Bl{nt:NT}(d:nt.Ok)(h:r.Ok nt){w k:Nat}(f:w<nt.ws.length):∀a c,some (nt.ev r w)=some (a,c)->0<=a/\a<nt.ms.length/\1<=c/\c<=((r.step nt w k).mm a.toNat).hr.length:=by
 have b:=d.ei f;intro a c e
 cases e;refine⟨(),(),?_,?_⟩
 ·have:=h.wX b;lia
 ·have d:(r.step nt w k).mm (nt.goal w)=⟨(r.mm (nt.goal w)).fe++[((nt.work r w k).ns,(nt.work r w k).row)],(r.mm (nt.goal w)).wp++[(r.mm (nt.goal w)).wp.bA []++(nt.work r w k).words],(r.mm (nt.goal w)).hr++[nt.cY r w k]⟩:=if_pos rfl;rw[show((nt.goal w:Nat):Int).toNat=nt.goal w from X' _,d,h.lh _ b];simp
theorem oU{outs:List Nat}{ev:Int×Int}:∀(ps:List (Int×Int)) {r:RS}{p:Int×Int},r.send outs ev (ps++[p])=(r.send outs ev ps).send outs ev [p]
 | [],r,p=>rfl
 |q::ps,r,p=>oU ps
structure BF(F:Addr->Prop)(n:Nat->Nat)(ad:Nat->Nat->Addr)(A B H:Hp)(ct:Nat->Nat->CO):Prop where
 b:dQ F H n ad ct
 f:Fr (FP n ad) A H
 g:Fr (FP n ad) B H
section
variable {F:Addr->Prop}{n:Nat->Nat}{ad:Nat->Nat->Addr}{A B H H':Hp}{ct:Nat->Nat->CO}
theorem BF.same(h:BF F n ad A B H ct)(s:aq H H'):BF F n ad A B H' ct:=⟨h.b.same s,h.f.trans s.fr,h.g.trans s.fr⟩
theorem BF.app(h:BF F n ad A B H ct){t i:Nat}(a:i<n t){d:List DV}(e:ct t i=.l d){vs:List V}(c:H (ad t i)=some (.lst vs)){us:List V}{es:List DV}(g:eL (iI (λb=>F b\/FP n ad b) H) 4 us es):BF F n ad A B (upd H (ad t i) (.lst (vs++us))) (setC ct t i (.l (d++es))):=⟨h.b.app a e c g,h.f.upd ⟨t,i,a,rfl⟩ c trivial,h.g.upd ⟨t,i,a,rfl⟩ c trivial⟩
end
abbrev iR:Stmt:=(cq (top 14)).getD 7 (.Pass ⟨0,0,0,0⟩)
inductive Gs(C CN CR:Addr)(vs:List V)(H:Hp)(Q:VK):Prop
 |mk (F:Addr->Prop) (x bt:Addr) (nt:NT) (r:RS) (ad:Nat->Nat->Addr) (wy k:Nat) (a:V) (h0:vs=[.ref x,.int (wy:Nat),.int (k:Nat),a]) (h1:cI C CN CR F H x bt nt r ad) (h2:FS F H) (h3:r.Ok nt) (h4:r.sX nt wy k) (h5:r.picks.length<=400) (h6:∀t H',Fr (FP nt.n ad) H H'->cI C CN CR F H' x bt nt (r.pick nt wy k) ad->HT H' 1 t (pairD (nt.ev r wy))->Q t H'):Gs C CN CR vs H Q
def Bm(C CN CR:Addr):Sp:=λvs H Q _=>Gs C CN CR vs H Q
theorem sY(D:ji K CR "pick_at" "Run.pick_at" iR aK)(T:Tx K mg C CN CR F FD)(fS:cX P w K mg base C "worked" 3 fx (uu K C))(bI:cX P w K mg base CN "machines" 1 bh (gH CN))(cf:cX P w K mg base CN "ways" 1 bh (ky CN))(iS:cX P w K mg base CN "ways_in" 4 cx (rF C CN))(gY:cX P w K mg base CN "ways_out" 4 cx (pR C CN))(gu:cX P w K mg base CR "need_pick" 5 aK (LM C CN CR))(cK:cX P w K mg base CR "put_letter" 1 dO (rG C CN CR))(kG:cX P w K mg base CR "state" 4 cx (LO C CN CR)):cX P w K mg base CR "pick_at" 6 aK (Bm C CN CR):=by
 exists["self","way","number","at","m","place","machine","state","sent","words","event","ways_out","j","said"];obtain⟨F,x,N,m,r,ad,B,k,a,rfl,J,kD,L,hc,o,q⟩:=h;have o:=hr.units;refine⟨_,(ai (bS (jj gu T.bb hr (ao 0) (af (ao 1) (af (ao 2) (af (ao 3) aa)))))
  (ai (aT (i:=4) sc rfl Sort (aj o (aj o (eJ cf T.cA hr (bJ (ao 0) rfl)) (ao 1)) ag))
  (ai (aT (i:=5) sc rfl Sort (du nS PySem.F.slot_list_index PySem.F.type_list_index uc (jj iS T.cA hr (bJ (ao 0) rfl) (af (ao 4) aa)) (af (ao 1) aa)))
  (ai (aT (i:=6) sc rfl Sort (aj o (eJ bI T.cA hr (bJ (ao 0) rfl)) (ao 4)))
  (ai (ff (jj fS T.cy hr (ao 6) (af (jj kG T.bb hr (ao 0) (af (ao 4) aa)) (af (ao 5) (af (aj o (aj o (bJ (ao 0) rfl) (ao 1)) (ao 2)) aa)))) (wZ (i:=7) (j:=8) (l:=9) rfl sc rfl rfl rfl Sort Sort Sort))
  (ai (aT (i:=10) sc rfl Sort (bu (af (ao 4) (af (aZ aN rfl T.bV T' (af (aj o (bJ (ao 0) rfl) (ao 4)) aa)) aa))))
  (ai (bS (du nS qy qz b8 (bJ (ao 0) rfl) (af (bu (af (ao 1) (af (ao 2) aa))) aa)))
  (ai (ff (ao 10) (iF (aj o (bJ (ao 0) rfl) (ao 1)) (ao 2) dW))
  (ai (bS (du nS qy qz b8 (aj o (bJ (ao 0) rfl) (ao 4)) (af (ao 7) aa)))
  (ai (bS (du nS PySem.F.slot_list_extend PySem.F.type_list_extend JK (aj o (bJ (ao 0) rfl) (ao 4)) (af (ao 9) aa)))
  (ai (bS (du nS qy qz b8 (aj o (bJ (ao 0) rfl) (ao 4)) (af (aZ aN rfl T.bV T' (af (aj o (bJ (ao 0) rfl) (ao 4)) aa)) aa)))
  (ai (aT (i:=11) sc rfl Sort (jj gY T.cA hr (bJ (ao 0) rfl) (af (ao 4) aa)))
  (ai (eI PassesOwn.never rfl (bR (pv 8)) (gq (i:=12) (j:=13) rfl sc rfl rfl Sort Sort)
  (ak (aS (az gp (ao 12) (aZ aN rfl T.bV T' (af (ao 11) aa)) (aG _)) (ak (bS (jj cK T.bb hr (ao 0) (af (aj o (ao 11) (ao 12)) (af (ao 13) (af (ao 10) aa)))))) aI)))
  (ak (aH (ao 10)))))))))))))))),?_⟩
 nofun;obtain⟨dx,o,M,ho⟩:=J.ins;have hn:=J.OJ;have U:=hn.ok;obtain⟨⟨ms,wv,lv,hf,o,zE,Gn⟩,_⟩:=id hn;obtain⟨o,a1,b1,c1,g1,g2,g3,g4⟩:=id hf;ac_rfl;left;calc iq M (kE ⋯) ?_;calc⟨_,x,N,m,r,ad,B,k,a,rfl,J,L,hc,λH1 o=>?_⟩;nofun;have I:=hc.lt;have G:=U.ei I;obtain⟨wk1,wk2,wk3,Y4⟩:=qi U L I k;ac_rfl;left;calc fL (o _ _ M) T.bb T.cB oP ?_;left;calc iq (o _ _ g1) (eA ⋯ ⋯ ⋯) ?_;calc fv N ms wv lv rfl (hf.same o) (λl hl=>?_);have s2:aq H (upd H1 l (.lst wv)):=o.trans (aq.new _ hl);have el:upd H1 l (.lst wv) l=some (.lst wv):=ab;nofun;generalize SU:upd H1 l (.lst wv)=H2 at *;have o:m.ws[B]?=some (m.w B):=bc I;have jw:B<wv.length:=by have:=Gn.1;simp at this;lia
 have C8:=(Gn.2 B wv[B] (jr (m.w B)) nofun (by rw[A',o];rfl)).aA s2.aJ;obtain⟨ta,u1,u2,u3,kk,eta,oR,q1,q2,q3⟩:=bE C8;obtain rfl:=q1.cj;obtain rfl:=q2.cj;obtain rfl:=q3.cE;ac_rfl;left;calc bx el (av (j:=B) (v:=.ref ta) (by rw[<-eta];simp)) ?_;calc cp oR (show iG _ 1=some (.int ((m.goal B:Nat):Int)) from by rw[<-qm U I];calc av (j:=1) rfl) ?_;left;calc fL (s2 _ _ M) T.bb T.cB oP ?_;left;calc iq (s2 _ _ g1) (eA ⋯ ⋯ ⋯) ?_;calc⟨N,m,m.goal B,rfl,hn.fr (Z:=λ_=>False) s2.fr,G,λl2 H3 Wx fl2 o=>?_⟩;have s3:=s2.trans Wx;calc⟨.inl ⟨rfl,_,aO.of o⟩,?_⟩;obtain⟨Y5,Y6⟩:=rK (Gr U I);refine⟨l2,_,m.place B,B,rfl,rfl,by rw[o,uv],?_,?_,?_⟩
 ·rw[A',<-nE U I,Y5];rfl
 ·intro i y hi hy;rw[A']at hy;obtain⟨z,hz,rfl⟩:=Option.map_eq_some_iff.mp hy;have:=Y6 i z (by rw[nE U I];calc hi) hz;lia
 left;calc fL (s3 _ _ M) T.bb T.cB oP ?_;left;calc iq (s3 _ _ g1) (eA ⋯ ⋯ ⋯) ?_;calc fv N ms wv lv rfl (hf.same s3) (λl4 o=>?_);have W:aq H (upd H3 l4 (.lst (ms.map V.ref))):=s3.trans (aq.new _ o);have QA:upd H3 l4 (.lst (ms.map V.ref)) l4=some (.lst (ms.map V.ref)):=ab;generalize hG4:upd H3 l4 (.lst (ms.map V.ref))=H4 at *;have CZ:m.goal B<ms.length:=by lia
 have o:m.ms[m.goal B]?=some (m.ms.getD (m.goal B) default):=bc G;have Bn:=(zE (m.goal B) ms[m.goal B] _ (bU CZ) o).same W;have Kk:=U.gd G;left;calc bx QA (av (j:=m.goal B) (v:=.ref ms[m.goal B]) (by rw[A',bU CZ];rfl)) ?_;left;nofun;generalize ms[m.goal B]=mch at *;obtain⟨dm,o,y,Iu,IB,LG⟩:=id Bn;ac_rfl;calc iq Iu (AZ ⋯ ⋯ ⋯) ?_;calc iq (W _ _ M) (kE ⋯) ?_;calc⟨_,x,N,m,r,ad,m.goal B,rfl,J.same W,L,G,λsv Qz=>?_⟩;have l4':=W _ _ (ho 4 ∅ ∅).1;nofun;obtain⟨o,e4,d4⟩:=(J.cP.same W).lst (t:=4) (i:=B) I rfl;have z4:=d4.qY;subst z4;ac_rfl;have Bj:k<(r.ww B).say.length:=by rw[L.lk B I];exact(List.getElem?_eq_some_iff.mp hc.lies).1
 left;calc fL (W _ _ M) T.bb T.bT Kh ?_;left;calc bx l4' (bo I) ?_;calc bx e4 (av (j:=k) (v:=.int ((r.ww B).say.getD k 0)) (by rw[A',bc (d:=0) Bj];rfl)) ?_;have o:=L.last G;calc⟨mch,sv,_,_,_,_,_,_,_,_,rfl,Bn,wU.of Qz,Kk.m2,Kk.Yf,o.bn,o.lr,Kk.Wo,by rw[o.ln];calc Kk.ok,λy X Kl OL=>?_⟩;have s5:=W.trans Kl;nofun;obtain⟨rp,IL,QB,LP,zs,rfl,o,zG,OM,p6,zH,Y9,Za,y⟩:=OL.ex
 replace zG:HT X 2 IL (wQ (m.work r B k).ns (m.work r B k).row):=zG
 replace p6:SL X zs (m.work r B k).cu:=p6
 replace zH:X LP=some (.lst ((m.work r B k).words.map V.int)):=zH
 ac_rfl;calc un3 (bq.of o) ?_;left;calc fL (s5 _ _ M) T.bb T.bZ Kg ?_;have b5:=J.cP.same s5;have i0:0<m.n 0:=by show 0<1;decide
 obtain⟨o,y,d1⟩:=b5.lst (t:=1) (i:=m.goal B) G rfl;have z1:o.length=(r.mm (m.goal B)).fe.length:=by simpa using d1.1
 left;calc bx (s5 _ _ (ho 1 ∅ ∅).1) (bo G) ?_;calc gO _ (.inl ⟨_,aO.of y,rfl⟩) cR (λev o=>?_);rw[z1];have s6:aq H (upd X ev (.tup [.int ((m.goal B:Nat):Int),.int (((r.mm (m.goal B)).fe.length:Nat):Int)])):=s5.trans (aq.new _ o);have LQ:aq X (upd X ev (.tup [.int ((m.goal B:Nat):Int),.int (((r.mm (m.goal B)).fe.length:Nat):Int)])):=aq.new _ o;have Zc:HT (upd X ev (.tup [.int ((m.goal B:Nat):Int),.int (((r.mm (m.goal B)).fe.length:Nat):Int)])) 1 (.ref ev) (pairD (m.ev r B)):=dy (n:=0) ab (.int _) (.int _);generalize Ws:upd X ev (.tup [.int ((m.goal B:Nat):Int),.int (((r.mm (m.goal B)).fe.length:Nat):Int)])=H6 at *;have b6:=J.cP.same s6;left;calc fL (s6 _ _ M) T.bb T.cG To ?_;obtain⟨v0,e0,d0⟩:=b6.lst (t:=0) (i:=0) i0 rfl;have o:v0.length=r.picks.length:=by simpa using d0.1
 left;calc ir (.inl ⟨rfl,_,aO.of e0⟩) cR (λtp o=>?_);left;have s7:aq H (upd H6 tp (.tup [.int ((B:Nat):Int),.int ((k:Nat):Int)])):=s6.trans (aq.new _ o);have v7:aq H6 (upd H6 tp (.tup [.int ((B:Nat):Int),.int ((k:Nat):Int)])):=aq.new _ o;have Zd:HT (upd H6 tp (.tup [.int ((B:Nat):Int),.int ((k:Nat):Int)])) 1 (.ref tp) (pairD ((B:Int),(k:Int))):=dy (n:=0) ab (.int _) (.int _);generalize Wz:upd H6 tp (.tup [.int ((B:Nat):Int),.int ((k:Nat):Int)])=H7 at *;have b7:=J.cP.same s7;have FS7:FS F H7:=kD.fr (Z:=λ_=>False) s7.fr (λ_ _ h=>h);have e07:=v7 _ _ e0;have QC:=LQ.trans v7;calc gO v0 e07 (small ()) ?_;have S:=(BF.mk b7 s7.fr (Fr.refl:Fr (FP m.n ad) H7 H7)).app (t:=0) (i:=0) i0 rfl e07 (eL.one ((b7.ht FS7 Zd).mono ∅));generalize hG8:upd H7 (ad 0 0) (.lst (v0++[.ref tp]))=H8 at *;have y:=ho 6 ∅ ∅;have o1:=ho 1 ∅ ∅;have o2:=ho 2 ∅ ∅;have o3:=ho 3 ∅ ∅;left;calc fL (S.f.lH M id) T.bb T.de Ki ?_;obtain⟨v6,e6,d6⟩:=S.b.lst (t:=6) (i:=B) I rfl;have X:v6.length=(r.ww B).da.length:=by simpa using d6.1
 have o:k<v6.length:=by rw[X,<-L.lk B I];exact Bj
 left;calc bx (S.f.at y.1 y.2.2) (bo I) ?_;left;calc cT v6 k e6 (ny o) ?_;have Tt:=Zc.aA v7.aJ;have Y:=BF.mk (S.b.set (t:=6) (i:=B) I rfl e6 (k:=k) ((S.b.ht (kD.fr S.f J.cP.sW) (Tt.aA S.g.aJ)).mono ∅)) (S.f.upd ⟨6,B,I,rfl⟩ e6 trivial) (S.g.upd ⟨6,B,I,rfl⟩ e6 trivial);generalize hG9:upd H8 (ad 6 B) (.lst (v6.set k (.ref ev)))=H9 at *;left;calc fL (Y.f.lH M id) T.bb T.bZ Kg ?_;obtain⟨Ze,o,d19⟩:=Y.b.lst (t:=1) (i:=m.goal B) G rfl;have y:Ze.length=(r.mm (m.goal B)).fe.length:=by simpa using d19.1
 have y:=L.bp _ G;left;calc bx (Y.f.at o1.1 o1.2.2) (bo G) ?_;calc⟨.inl ⟨rfl,_,aO.of o⟩,?_⟩;left;calc gO Ze o (small ()) ?_;have ED:=Y.app (t:=1) (i:=m.goal B) G rfl o (eL.one (show HD _ 4 IL (q5 ((m.work r B k).ns,(m.work r B k).row)) from(Y.b.ht (kD.fr Y.f J.cP.sW) ((zG.aA QC.aJ).aA Y.g.aJ)).mono ∅));have Gu:¬FP m.n ad QB:=λz=>by
  obtain⟨u,e,_⟩:=(J.cP.same W).fp z;rw[Y9]at e;cases e
 have ON:¬FP m.n ad LP:=λz=>by
  obtain⟨u,e,_⟩:=(J.cP.same W).fp z;rw[Za]at e;cases e
 generalize Tu:upd H9 (ad 1 (m.goal B)) (.lst (Ze++[IL]))=zI at *;left;calc fL (ED.f.lH M id) T.bb T.cH Tp ?_;obtain⟨v3,o,d3⟩:=ED.b.lst (t:=3) (i:=m.goal B) G rfl;have y:=d3.qY;have W:=L.bw _ G _ (gJ (l:=(r.mm (m.goal B)).wp) (d:=[]) (by rw[<-L.lw _ G];calc L.wX G));have l:v3.length=((r.mm (m.goal B)).wp.bA []).length:=by rw[y];simp
 left;calc bx (ED.f.at o3.1 o3.2.2) (bo G) ?_;calc⟨.inl ⟨rfl,_,aO.of o⟩,?_⟩;left;calc vf v3 _ o (ED.g.at (QC _ _ zH) ON) (L' (small (by simp;lia))) ?_;have tX:=ED.app (t:=3) (i:=m.goal B) G rfl o (eL.ints (m.work r B k).words);have Zh:upd zI (ad 3 (m.goal B)) (.lst (v3++(m.work r B k).words.map V.int)) (ad 3 (m.goal B))=some (.lst (v3++(m.work r B k).words.map V.int)):=ab;generalize Tv:upd zI (ad 3 (m.goal B)) (.lst (v3++(m.work r B k).words.map V.int))=Tw at *;left;calc fL (tX.f.lH M id) T.bb T.dN YY ?_;obtain⟨v2,e2,d2⟩:=tX.b.lst (t:=2) (i:=m.goal B) G rfl;have l:v2.length=(r.mm (m.goal B)).wp.length:=by simpa using d2.1
 have l:=L.lw _ G;left;calc bx (tX.f.at o2.1 o2.2.2) (bo G) ?_;calc⟨.inl ⟨rfl,_,aO.of e2⟩,?_⟩;left;calc fL (tX.f.lH M id) T.bb T.cH Tp ?_;left;calc bx (tX.f.at o3.1 o3.2.2) (bo G) ?_;calc bL _ (.inl ⟨_,aO.of Zh,rfl⟩) ?_;left;calc gO v2 e2 (small ()) ?_;rw[show(v3++(m.work r B k).words.map V.int).length=((r.mm (m.goal B)).wp.bA []++(m.work r B k).words).length by simp;lia];have yq:=tX.app (t:=2) (i:=m.goal B) G rfl e2 (eL.one (.int (((r.mm (m.goal B)).wp.bA []++(m.work r B k).words).length:Nat)));generalize Tz:upd Tw (ad 2 (m.goal B)) (.lst (v2++[.int (((r.mm (m.goal B)).wp.bA []++(m.work r B k).words).length:Nat)]))=QE at *;have TB:cI C CN CR F QE x N m (r.step m B k) ad:=J.own yq.f (yq.b.congr Kj);have TC:SL QE zs (m.work r B k).cu:=(p6.aA QC.aJ).aA yq.g.aJ;have nv:=yq.g.at (QC _ _ OM) Gu;have TF:=Tt.aA yq.g.aJ;have WA:=yq.f;clear b5 b6 b7 S Y ED tX yq d0 d1 d2 d3 d4 d6 d19 hG8 hG9 Tu Tv Tz;left;calc fL (WA.lH M id) T.bb T.cB oP ?_;left;calc iq (WA.lH g1 id) (eA ⋯ ⋯ ⋯) ?_;calc⟨N,m,m.goal B,rfl,hn.fr WA,G,λlo QF lJ flo Zi=>?_⟩;have nlo:¬FP m.n ad lo:=λz=>by
  obtain⟨u,e,_⟩:=TB.cP.fp z;rw[flo]at e;cases e
 left;have o:=TB.same lJ;have l:=lJ _ _ nv;have LR:=TF.aA lJ.aJ;have LS:=TC.aA lJ.aJ;have QG:zs.length=(m.work r B k).cu.length:=LS.1;have f13:=WA.trans lJ.fr;have OO:=L.step U I (k:=k);have OP:∀a c,some (m.ev r B)=some (a,c)->0<=a/\a<m.ms.length/\1<=c/\c<=((r.step m B k).mm a.toNat).hr.length:=Bl U L I;refine⟨_,rfl,.inl ⟨⟨_,aO.of l⟩,gM (K:=K) (xs:=zs) (λi σ H'=>(∃OQ OS,σ=[some (V.ref x),some (V.int ((B:Nat):Int)),some (V.int ((k:Nat):Int)),some a,some (V.int ((m.goal B:Nat):Int)),some (V.int ((m.place B:Nat):Int)),some (V.ref mch),some IL,some (V.ref QB),some (V.ref LP),some (V.ref ev),some (V.ref lo),OQ,OS])/\Fr (FP m.n ad) QF H'/\cI C CN CR F H' x N m ((r.step m B k).send (m.outs (m.goal B)) (m.ev r B) ((m.work r B k).cu.take i)) ad) ?_ ?_ ?_ ?_⟩⟩
 ·exact⟨⟨_,_,rfl⟩,Fr.refl,o⟩
 ·rintro i σ H' hi ⟨_,O,_⟩;exact aO.of (O.at l Gu)
 ·intro i z σ H' hz gG;nofun;obtain⟨⟨OQ,OS,rfl⟩,O,v8⟩:=gG;have l:i < zs.length:=(List.getElem?_eq_some_iff.mp hz).1;have l:i < (m.work r B k).cu.length:=by lia
  have o:(m.work r B k).cu[i]?=some (m.work r B k).cu[i]:=bU l;have TJ:=Y4 _ (aan l);have OT:=(LS.2 i z _ hz o).aA O.aJ;have Km:(r.step m B k).send (m.outs (m.goal B)) (m.ev r B) ((m.work r B k).cu.take (i+1))=((r.step m B k).send (m.outs (m.goal B)) (m.ev r B) ((m.work r B k).cu.take i)).send (m.outs (m.goal B)) (m.ev r B) [(m.work r B k).cu[i]]:=by
   rw[abn,o];exact oU _
  generalize (m.work r B k).cu[i]=p at *;obtain⟨R,px⟩:=p;obtain⟨tz,u1,u2,kz,rfl,Dw,y1,y2⟩:=dH OT;obtain rfl:=y1.cj;obtain rfl:=y2.cj;ac_rfl;calc zf (bq.of Dw) ?_;have o:=O.at Zi nlo;left;calc bL _ (.inl ⟨_,aO.of o,rfl⟩) ?_;left;have l:((sT m 0 (m.goal B)).map λi=>V.int ((i:Nat):Int)).length=(m.outs (m.goal B)).length:=by rw[R'];rfl
  rw[l];have u:R.toNat=R.toNat:=rfl;have y:((R.toNat:Nat):Int)=R:=abl TJ;by_cases u:R<((m.outs (m.goal B)).length:Nat)
  ·rw[if_pos (by simpa using u)];have l:R.toNat < (m.outs (m.goal B)).length:=by lia
   have G:(m.outs (m.goal B)).getD R.toNat 0<m.ws.length:=by
    have:=getD_mem (d:=0) l;unfold NT.outs at this ⊢;rw[List.mem_filter,List.mem_range]at this;exact this.1
   left;obtain⟨L,M,I,S⟩:=v8.ins;calc iq I (kE ⋯) ?_;refine bx o (show iG _ R=some (.int (((m.outs (m.goal B)).getD R.toNat 0:Nat):Int)) from by
    rw[<-y];calc av ?_;rw[A'];show Option.map _ (m.outs (m.goal B))[_]?=_;rw[X',bc (d:=0) l];rfl) ?_
   have o:=(RS.r8.send (outs:=m.outs (m.goal B)) (ev:=m.ev r B) ((m.work r B k).cu.take i) OO OP).mono (show _<=19999 by simp;lia);calc⟨F,x,N,m,_,ad,_,px,.ref ev,some (m.ev r B),rfl,v8,kD.fr (f13.trans O) J.cP.sW,G,(LR.aA O.aJ).mono ∅,o,λy I L=>?_⟩;left;calc ir ⟨_,_,rfl,rfl⟩ (O.trans I) ?_;rw[Km];show cI C CN CR F y x N m (if R.toNat<_ then _ else _) ad;rw[if_pos l];exact L
  ·rw[if_neg (by simpa using u)];left;calc ir ⟨_,_,rfl,rfl⟩ O ?_;rw[Km];show cI C CN CR F H' x N m (if R.toNat<_ then _ else _) ad;rw[if_neg ()];exact v8
 ·intro σ H' gP;obtain⟨⟨OQ,OS,rfl⟩,O,v8⟩:=gP;left;rw[QG,aax]at v8;calc q _ _ (f13.trans O) v8 (LR.aA O.aJ)
def _root_.DD.RS.yt(r:RS)(w:Nat):List Nat:=(List.range (r.ww w).say.length).filter λk=>((r.ww w).da.getD k none).isNone
theorem iD{p:Nat->Bool}{i:Nat}:(List.range (i+1)).filter p=(List.range i).filter p++(if p i=true then[i] else[]):=by
 rw[List.range_succ,List.filter_append];congr 1
 cases h:p i<;>simp[h]
theorem Gw(c:∀b,Z b->∃o,H b=some o/\soft o){m:Nat}{x:V}{d:DV}(g:HT H m x d):HD (iI Z H) m x d:=by
 calc HT.hd (g.aA λb h e=>?_);rw[gr (λz=>by
  obtain⟨o,a,f⟩:=c b z;rw[e] at a;cases a;calc f)]
 calc e
structure rM(H0 H':Hp)(D:Addr)(as:List Addr)(n:Nat)(ct:Nat->Hp->List V->Prop):Prop where
 len:as.length=n
 nd:as.Nodup
 new:∀a∈as,H0 a=none/\a≠D
 ins:∀(j:Nat) a,as[j]?=some a->∃vs,H' a=some (.lst vs)/\ct j H' vs
theorem rM.nil{ct:Nat->Hp->List V->Prop}:rM H0 H' D [] 0 ct:=⟨rfl,List.nodup_nil,λa h=>by simp at h,λj a h=>by simp at h⟩
theorem rM.snoc{n:Nat}{ct:Nat->Hp->List V->Prop}(h:rM H0 H1 D as n ct)(p:aq H0 H1)(q:H1 D≠none)(g:H1 a=none){vs:List V}(e:H' a=some (.lst vs))(c:ct n H' vs)(s:∀b o,b≠D->H1 b=some o->H' b=some o)(f:∀j vs,ct j H1 vs->ct j H' vs):rM H0 H' D (as++[a]) (n+1) ct:=by
 refine⟨by simp[h.len],?_,λb d=>?_,λj b d=>?_⟩
 ·rw[List.nodup_append];calc ir h.nd nofun (λb d c l=>?_);simp at l;subst l;intro z;subst z;obtain⟨j,k⟩:=aaC d;obtain⟨vs,i,_⟩:=h.ins j b k;rw[g]at i;cases i
 ·rcases List.mem_append.mp d with d | d
  ·exact h.new b d
  ·simp at d;subst d;refine⟨?_,λz=>q (z ▸ g)⟩
   cases r:H0 b with
   |none=>rfl
   |some o=>rw[p _ _ r]at g;cases g
 ·by_cases k:j < as.length
  ·rw[W' k]at d;obtain⟨vs,i,g⟩:=h.ins j b d;exact⟨vs,s _ _ (h.new b (aai d)).2 i,f _ _ g⟩
  ·rw[P' ()] at d
   cases m:j-as.length with
   |zero=>
    rw[m]at d;simp at d;subst d;have:j=n:=by have:=h.len;lia
    subst this;calc⟨vs,e,c⟩
   |succ k=>rw[m]at d;simp at d
theorem rM.keep{n:Nat}{ct:Nat->Hp->List V->Prop}(h:rM H0 H1 D as n ct)(s:∀(b:Addr) (vs:List V),H1 b=some (.lst vs)->H' b=some (.lst vs))(c:∀j vs,ct j H1 vs->ct j H' vs):rM H0 H' D as n ct:=
 ⟨h.len,h.nd,h.new,λj a e=>by
  obtain⟨vs,d,f⟩:=h.ins j a e;calc⟨vs,s _ _ d,c _ _ f⟩⟩
theorem js{K:W.Frag}{ix:List (Option Nat)}{m:TE}{l:Addr}{xs vs:List V}(o:H l=some (.lst xs))(r:H D=none)(C:xs.length<=10)(u:∀x,Ext (sr ix σ) ((sr ix σ).set 0 (some x)))(v:∀d g (R:VK),(∀p,g p=none->R (.ref p) (upd g p (.lst vs)))->m d g R)(q:∀as H1,H1 D=some (.lst (as.map V.ref))->aq H H1->rM H H1 D as xs.length (λ_ _ ws=>ws=vs)->Q (.ref D) H1):ki ix (tF K l) (fC 0) iA m σ H Q D:=by
 refine aY (n:=xs.length) (λi ys H'=>∃as:List Addr,ys=as.map V.ref/\aq H H'/\rM H H' D as i (λ_ _ ws=>ws=vs)) (L' (small ())) ⟨[],rfl,aq.new _ r,rM.nil⟩ ?_ ?_ ?_ ?_
 ·rintro i ys H' j ⟨_,_,a,_⟩;exact⟨_,xs[i],aO.of (a _ _ o),bU j⟩
 ·rintro ys H' ⟨_,_,a,_⟩;exact⟨_,aO.of (a _ _ o),J' _⟩
 ·intro i ys H' j c t w y F z;obtain⟨as,rfl,a,k⟩:=w;obtain⟨rfl,d⟩:=z;calc⟨u y,?_⟩;simp only[iA,if_true];calc v _ _ _ λp d=>?_;have g:=aq.new (.lst vs) d;have i:p≠D:=Ne.symm (au c d);refine bX (g _ _ c) t j (L' (small ())) ⟨as++[p],nofun,λb o e=>?_,?_⟩
  ·rw[ax (au e r)];exact g _ _ (a _ _ e)
  ·refine k.snoc a (by rw[c];simp) d (vs:=vs) ?_ rfl (λb o a e=>?_) (λj vs e=>e)
   ·rw[ax i];exact ab
   ·rw[ax a];exact g _ _ e
 ·intro ys H1 c t B;obtain⟨as,rfl,a,k⟩:=B;calc q as H1 c a k
theorem TL{CR x a:Addr}{C:Hp}{f:List (Str×V)}(c:List (Str×V))(s:aq C H)(d:H x=some (.ins CR a f)):∃G,upd H x (.ins CR a c)=G/\G x=some (.ins CR a c)/\(∀b o,b≠x->C b=some o->G b=some o)/\(∀b vs,H b=some (.lst vs)->G b=some (.lst vs))/\bP H G:=⟨_,rfl,ab,λb o n e=>by rw[ax n];calc s _ _ e,λb vs e=>by rw[ax (λz=>by rw[z,d]at e;cases e)];calc e,λb vs e=>by rw[ax (λz=>by rw[z,d]at e;cases e)];calc e⟩
theorem TM{C:Hp}{d:Addr}(a:List (Key×V))(s:aq C H):∃G,upd H d (.dK a)=G/\G d=some (.dK a)/\(∀b o,b≠d->C b=some o->G b=some o)/\(∀b o,b≠d->H b=some o->G b=some o):=⟨_,rfl,ab,λb o n e=>by rw[ax n];calc s _ _ e,λb o n e=>by rw[ax n];calc e⟩
theorem oV:∀(ps:List (Int×Int)) {r:RS}{p:Int×Int},r.ip (ps++[p])=(r.ip ps).put p.1.toNat p.2 none
 | [],r,p=>rfl
 |q::ps,r,p=>oV ps
theorem zK{nt:NT}(j:nt.Ok):(RS.new nt).r8 nt 0:=by
 refine⟨λm e=>rfl,λm e=>rfl,λm e s d=>?_,λm e h f=>?_,λv i=>rfl,λv i=>rfl,λv i a c d=>?_,λm e=>J' _,λm e u b=>?_,λv i=>J' _,λm e u b=>?_⟩
 ·have g:=j.gd e;have d:s ∈ [((nt.ms.getD m default).ns,(nt.ms.getD m default).row)]:=d;simp at d;subst d;exact⟨rfl,g.bn,g.r12⟩
 ·have f:h∈([]:List (List Int)):=f;simp at f
 ·have d:some (a,c)∈([]:List (Option (Int×Int))):=d;simp at d
 ·have b:u∈([[]]:List (List Int)):=b;simp at b;subst b;exact J' _
 ·have b:u∈([[]]:List (List Int)):=b;simp at b;subst b;calc List.nil_prefix
theorem qp{nt:NT}:∀(ps:List (Int×Int)) {r:RS}{B:Nat},r.r8 nt B->(r.ip ps).r8 nt (B+ps.length)
 | [],r,B,h=>h
 |p::ps,r,B,h=>by
  have e:B+(p::ps).length=B+1+ps.length:=by simp;lia
  rw[e];calc qp ps (h.put (λa c z=>by cases z))
theorem rN:∀(ps:List (Int×Int)) {r:RS},(r.ip ps).picks=r.picks
 | [],r=>rfl
 |p::ps,r=>rN ps
theorem g9{nt:NT}(a:nt.Ok){ls:List (Int×Int)}(h:ls.length<=20):(RS.begin nt ls).Ok nt/\(RS.begin nt ls).picks=[]:=by
 have e:(RS.begin nt ls).picks=[]:=rN ls;calc⟨(qp ls (zK a)).ok ?_,e⟩;show 0+ls.length<=20+24*(RS.begin nt ls).picks.length;rw[e];simp;lia
structure pT(H0 H':Hp)(D:Addr)(as:List Addr)(n:Nat)(ct:Nat->Hp->HO->Prop):Prop where
 len:as.length=n
 nd:as.Nodup
 new:∀a∈as,H0 a=none/\a≠D
 ins:∀(j:Nat) a,as[j]?=some a->∃o,H' a=some o/\ct j H' o
theorem rM.o{n:Nat}{ct:Nat->Hp->List V->Prop}(h:rM H0 H' D as n ct):pT H0 H' D as n (λj H u=>∃vs,u=.lst vs/\ct j H vs):=⟨h.len,h.nd,h.new,λj a e=>by
 obtain⟨vs,a,b⟩:=h.ins j a e;calc⟨_,a,_,rfl,b⟩⟩
theorem rM.some{n:Nat}{ct:Nat->Hp->List V->Prop}(h:rM H0 H1 D as n ct)(s:aq H1 H2):∀a∈as,H2 a≠none:=λa m=>by
 obtain⟨j,e⟩:=aaC m;obtain⟨b,e,_⟩:=h.ins j a e;rw[s _ _ e];calc λz=>nomatch z
theorem Bo{F:Addr->Prop}{G:Hp}{n:Nat->Nat}{c:Nat->Nat->CO}(g:Nat->Hp)(k:Nat->Nat)(p:Nat->List Addr)(o:Nat->Addr)(ct:Nat->Nat->Hp->HO->Prop)(W:∀t i,ad t i=(p t).getD i 0)(X:∀t,n (t+7)=0)(K:∀t t',t<=6->t'<=6->k t=k t'->t=t')(y:∀t b,g t b≠none->g (t+1) b≠none)(B:∀b,F b->g 0 b≠none/\∃u,G b=some u/\soft u)
  (C:∀t,t<=6->pT (g (k t)) G (o t) (p t) (n t) (ct t)/\(∀a∈p t,g (k t+1) a≠none)/\(1<=t->g (k t) (o t)=none/\g (k t+1) (o t)≠none)) (Y:∀t i u,t<=6->ct t i G u->soft u)
  (Z:(∀b,F b\/FP n ad b->∃u,G b=some u/\soft u)->(∀s D,g s D=none->g (s+1) D≠none->(∀t,t<=6->k t=s->¬D∈p t)->¬(F D\/FP n ad D))->∀t i u,t<=6->i<n t->G (ad t i)=some u->ct t i G u->OR (iI (λb=>F b\/FP n ad b) G) (c t i) u):
  dQ F G n ad c/\(∀b,FP n ad b->g 0 b=none/\∃u,G b=some u/\soft u)/\∀t,1<=t->t<=6->¬F (o t)/\¬FP n ad (o t)/\(p t).map V.ref=lT n ad t:=by
 have q:∀t i,i<n t->t<=6:=λt i h=>Classical.byContradiction λz=>by
  have:=X (t-7);rw[show t-7+7=t by lia]at this;lia
 have up:∀(d t:Nat) (b:Addr),g t b≠none->g (t+d) b≠none:=λd=>by
  induction d with
  |zero=>calc λt b h=>h
  |succ d o=>exact λt b h=>y _ _ (o t b h)
 have r:∀s o b,s<=o->g s b≠none->g o b≠none:=λs o b h e=>by
  have:=up (o-s) s b e;rwa [show s+(o-s)=o by lia]at this
 have v:∀t i,i<n t->(p t)[i]?=some (ad t i)/\g (k t) (ad t i)=none/\g (k t+1) (ad t i)≠none/\∃u,G (ad t i)=some u/\ct t i G u:=λt i j=>by
  obtain⟨h,w,_⟩:=C t (q t i j);have e:(p t)[i]?=some (ad t i):=by rw[W];exact bc (by rw[h.len];calc j)
  have m:=aai e;exact⟨e,(h.new _ m).1,w _ m,h.ins _ _ e⟩
 have L:∀s D,g s D=none->g (s+1) D≠none->(∀t,t<=6->k t=s->¬D∈p t)->¬(F D\/FP n ad D):=λs D M w hn z=>by
  rcases z with z|⟨t,i,j,rfl⟩
  ·exact r 0 s D (aav _) (B D z).1 M
  ·obtain⟨e,I,x,_⟩:=v t i j;rcases Nat.lt_trichotomy s (k t) with l | l | l
   ·exact r _ _ _ l w I
   ·exact hn t (q t i j) l.symm (aai e)
   ·exact r _ _ _ l x M
 have N:∀b,FP n ad b->g 0 b=none/\∃u,G b=some u/\soft u:=λb ⟨t,i,j,e⟩=>by
  subst e;obtain⟨_,I,_,u,x,J⟩:=v t i j;exact⟨Classical.byContradiction λz=>r 0 _ _ (aav _) z I,u,x,Y t i u (q t i j) J⟩
 refine⟨⟨λt i t' O j P e=>?_,λt i j z=>?_,λt i j=>?_⟩,N,λt w R=>?_⟩
 ·obtain⟨a1,a2,a3,_⟩:=v t i j;obtain⟨S,T,U,_⟩:=v t' O P;rw[<-e]at S T U;have es:k t=k t':=by
   rcases Nat.lt_trichotomy (k t) (k t') with l|l|l
   ·exact absurd T (r _ _ _ l a3)
   ·exact l
   ·exact absurd a2 (r _ _ _ l U)
  have:=K t t' (q t i j) (q t' O P) es;subst this;have h:=(C t (q t i j)).1;exact⟨rfl,(List.getElem?_inj (by rw[h.len];calc j) h.nd).mp (a1.trans S.symm)⟩
 ·exact r 0 _ _ (aav _) (B _ z).1 (v t i j).2.1
 ·obtain⟨_,_,_,u,x,J⟩:=v t i j;exact⟨u,x,Z (λb z=>z.elim (λh=>(B b h).2) λh=>(N b h).2) L t i u (q t i j) j x J⟩
 ·obtain⟨h,_,g⟩:=C t R;have:=L _ _ (g w).1 (g w).2 (λt' h' e m=>by
   have:=K t' t h' R e;subst this;calc(h.new _ m).2 rfl)
  calc⟨λz=>this (.inl z),λz=>this (.inr z),?_⟩;unfold lT;apply List.ext_getElem (by simp[h.len]);intro j k g;have i:j<n t:=by simpa using g
  simp only[List.getElem_map,List.getElem_range];congr 1;calc(List.getElem_eq_iff _).mpr (v t j i).1
theorem Kn{CN e:Addr}{f:List V}{c:List Addr}{d g:List V}(h:j5 CN H e ms wv f)(h':j5 CN H e c d g):f=g:=by
 obtain⟨d,e,f,g,c,j,k,i⟩:=h;obtain⟨d,e,f,g,a,j,k,b⟩:=h';rw[c]at a
 cases a;rw[i]at b
 cases b;rfl
theorem vo{C c:Addr}{p:Str×V}{l:List (Str×V)}(h:some (HO.ins C a [])=some (HO.ins c b (p::l))):False:=by cases h
theorem lx{K:W.Frag}{C:Hp}{x CR h:Addr}{c:List (Str×V)}{v:V}{n:Nat}(s:aq C H)(d:C x=some (.ins CR h c))(k:sj K CR)(l:cm K CR f)(m:c.length<n)(q:∀G,G x=some (.ins CR h (bG f v c))->(∀b o,b≠x->C b=some o->G b=some o)->(∀b vs,H b=some (.lst vs)->G b=some (.lst vs))->bP H G->(bG f v c).length<n+1->R G)(g:n<=1000:=by decide):∃a g j i,x=a/\H a=some (.ins g j i)/\sj K g/\cm K g f/\i.length<1000/\R (upd H a (.ins g j (bG f v i))):=by
 have d:=s _ _ d;obtain⟨G,e,g,i,j,n⟩:=TL (bG f v c) s d;calc⟨x,CR,h,c,rfl,d,k,l,(),e▸q G g i j n (iK m)⟩
abbrev Gx:Stmt:=(cq (top 14)).getD 0 (.Pass ⟨0,0,0,0⟩)
inductive Gy(C CN CR:Addr)(vs:List V)(H:Hp)(Q:VK):Prop
 |mk (F:Addr->Prop) (x dx bt:Addr) (nt:NT) (ls:List (Int×Int)) (ms:List Addr) (wv lv:List V) (h0:vs=[.ref x,.ref bt]) (h1:H x=some (.ins CR dx [])) (h2:oQ C CN H bt nt) (h3:j5 CN H bt ms wv lv) (h4:fc H 1 lv (ls.map mh)) (h5:ls.length<=20) (h6:∀l∈ls,0<=l.1/\l.1<nt.ws.length) (kD:FS F H) (h7:∀ad H',(∀b o,b≠x->H b=some o->H' b=some o)->(∀b,FP nt.n ad b->H b=none)->cI C CN CR F H' x bt nt (RS.begin nt ls) ad->Q .bH H'):Gy C CN CR vs H Q
def Bp(C CN CR:Addr):Sp:=λvs H Q _=>Gy C CN CR vs H Q
theorem TQ(D:Cs K mg "Run" CR "Run.__init__" Gx ["self","net"])(T:Tx K mg C CN CR F FD)(d9:cX P w K mg base C "first_state" 1 bh (F4 C))(iT:cX P w K mg base CN "letters" 1 bh (pQ CN))(bI:cX P w K mg base CN "machines" 1 bh (gH CN))(cf:cX P w K mg base CN "ways" 1 bh (ky CN))(cK:cX P w K mg base CR "put_letter" 1 dO (rG C CN CR)):wN P w K mg base "Run" CR 2 ["self","net"] (Bp C CN CR):=by
 exists["self","net","way","said"];obtain⟨FF,x,S,k,l,ls,ms0,wv0,lv,rfl,U,hn,hf0,IG,df,iz,kD,q⟩:=h;have hu:=hr.units;refine⟨_,(ai (fg (ao 0) (ao 1) (gc rfl))
  (ai (fg (ao 0) (bF aa) (gc rfl))
  (ai (fg (ao 0) (dD (N':=g0) (ix:=[none]) (bR (eJ bI T.cA hr (ao 1))) (λ_ _ _ _=>(aP (i:=0) (show(g0:List Str).Nodup by decide +kernel) rfl Sort)) nu (λ_ _ _ _=>(bF (af (eJ d9 T.cy hr (ao 0)) aa)))) rfl)
  (ai (fg (ao 0) (dD (N':=g0) (ix:=[none]) (bR (eJ bI T.cA hr (ao 1))) (λ_ _ _ _=>(aP (i:=0) (show(g0:List Str).Nodup by decide +kernel) rfl Sort)) nu (λ_ _ _ _=>(bF (af ag aa)))) rfl)
  (ai (fg (ao 0) (dD (N':=g0) (ix:=[none]) (bR (eJ bI T.cA hr (ao 1))) (λ_ _ _ _=>(aP (i:=0) (show(g0:List Str).Nodup by decide +kernel) rfl Sort)) nu (λ_ _ _ _=>(bF aa))) rfl)
  (ai (fg (ao 0) (dD (N':=["way"]) (ix:=[none]) (bR (eJ cf T.cA hr (ao 1))) (λ_ _ _ _=>(aP (i:=0) (show(["way"]:List Str).Nodup by decide +kernel) rfl Sort)) nu (λ_ _ _ _=>(bF aa))) rfl)
  (ai (fg (ao 0) (dD (N':=["way"]) (ix:=[none]) (bR (eJ cf T.cA hr (ao 1))) (λ_ _ _ _=>(aP (i:=0) (show(["way"]:List Str).Nodup by decide +kernel) rfl Sort)) nu (λ_ _ _ _=>(bF aa))) rfl)
  (ai (fg (ao 0) (dD (N':=["way"]) (ix:=[none]) (bR (eJ cf T.cA hr (ao 1))) (λ_ _ _ _=>(aP (i:=0) (show(["way"]:List Str).Nodup by decide +kernel) rfl Sort)) nu (λ_ _ _ _=>(bF aa))) rfl)
  (ak (eI PassesOwn.never rfl (bR (eJ iT T.cA hr (ao 1))) (gq (i:=2) (j:=3) rfl sc rfl rfl Sort Sort)
  (ak (bS (jj cK T.bb hr (ao 0) (af (ao 2) (af (ao 3) (af lV aa)))))))))))))))),?_⟩
 have aU:=hn.ok;nofun;obtain⟨⟨ms,wv,N,hf,mj,zE,Gn⟩,_⟩:=id hn;obtain⟨Z,a1,b1,c1,I,g2,g3,g4⟩:=id hf;have NU:N=lv:=Kn hf hf0;subst NU;ac_rfl;have Iw:(ms.map V.ref).length<=5:=by simp[mj];exact aU.Qp
 have jw:wv.length=l.ws.length:=by simpa using Gn.1
 have p5:wv.length<=10:=by rw[jw];exact aU.Cz
 have O:k≠x:=λz=>by rw[z,U]at I;exact vo I
 have LV:a1≠x:=zT g2 U (λz=>nomatch z);have IM:b1≠x:=zT g3 U (λz=>nomatch z);have LW:c1≠x:=zT g4 U (λz=>nomatch z);left;refine CA x CR S _ rfl U T.bb T.cB ∅ ?_;have Zo:upd H x (.ins CR S (bG "own_net" (.ref k) [])) x=some (.ins CR S (bG "own_net" (.ref k) [])):=ab;have Zp:∀b o,b≠x->H b=some o->upd H x (.ins CR S (bG "own_net" (.ref k) [])) b=some o:=λb o n e=>by rw[ax n];exact e
 generalize hGa:upd H x (.ins CR S (bG "own_net" (.ref k) []))=Ga at *;left;refine⟨aav _,λp hp=>?_⟩;have sp0:=aq.new (.lst []) hp;have ep0:upd Ga p (.lst []) p=some (.lst []):=ab;generalize hGb:upd Ga p (.lst [])=Gb at *;left;refine CA x CR S _ rfl (sp0 _ _ Zo) T.bb T.cG (iK (n:=999) ∅) ?_;have OW:upd Gb x (.ins CR S (bG "picks_done" (.ref p) (bG "own_net" (.ref k) []))) x=some (.ins CR S (bG "picks_done" (.ref p) (bG "own_net" (.ref k) []))):=ab;have ka:∀b o,b≠x->Ga b=some o->upd Gb x (.ins CR S (bG "picks_done" (.ref p) (bG "own_net" (.ref k) []))) b=some o:=λb o n e=>by rw[ax n];exact sp0 _ _ e
 have npx:p≠x:=Ne.symm (au Zo hp);have ep:upd Gb x (.ins CR S (bG "picks_done" (.ref p) (bG "own_net" (.ref k) []))) p=some (.lst []):=by rw[ax npx];exact ep0
 generalize hG0:upd Gb x (.ins CR S (bG "picks_done" (.ref p) (bG "own_net" (.ref k) [])))=G0 at *;have OG:(bG "picks_done" (.ref p) (bG "own_net" (.ref k) [])).length<3:=iK (iK (Nat.zero_lt_succ _));have LX:∀b o,b≠x->H b=some o->G0 b=some o:=λb o n e=>ka b o n (Zp b o n e);left;refine bC ?_;left;refine iq (LX _ _ O I) (eA ⋯ ⋯ ⋯) ?_;refine fv k ms wv N rfl ⟨Z,a1,b1,c1,LX _ _ O I,LX _ _ LV g2,LX _ _ IM g3,LX _ _ LW g4⟩ (λWB Zq=>?_);have OX:=aq.new (.lst (ms.map V.ref)) Zq;have Ko:upd G0 WB (.lst (ms.map V.ref)) WB=some (.lst (ms.map V.ref)):=ab;generalize ae9:upd G0 WB (.lst (ms.map V.ref))=TR at *;left;refine .inl ⟨⟨_,aO.of Ko⟩,λD1 DA=>?_⟩;refine aY (J:=tF K WB) (n:=(ms.map V.ref).length) (λi ys H'=>∃as:List Addr,ys=as.map V.ref/\aq TR H'/\rM TR H' D1 as i (λj H' vs=>∃v,vs=[v]/\HT H' 2 v (wQ (l.ms.getD j default).ns (l.ms.getD j default).row))) (L' (small ())) ⟨[],rfl,aq.new _ DA,rM.nil⟩ ?_ ?_ ?_ ?_
 ·rintro i ys H' hi ⟨_,_,s3,_⟩;exact⟨_,(ms.map V.ref)[i],aO.of (s3 _ _ Ko),bU hi⟩
 ·rintro ys H' ⟨_,_,s3,_⟩;exact⟨_,aO.of (s3 _ _ Ko),J' _⟩
 ·intro i ys H' hi y hl gG xx H4 gP;nofun;obtain⟨as,rfl,s3,hL⟩:=gG;obtain⟨rfl,hy⟩:=gP;ac_rfl;have ex:=hy _ (aO.of (s3 _ _ Ko));walk_at "xf";left
  try rw[if_pos trivial]
  have Zr:i<ms.length:=by simpa using hi
  have exm:xx=.ref ms[i]:=by
   rw[A',bU Zr]at ex
   cases ex;rfl
  nofun;subst exm;have Kp:i<l.ms.length:=by lia
  have nmx:ms[i]≠x:=λz=>by
   obtain⟨d1,s1,d2,X,_⟩:=zE i ms[i] _ (bU Zr) (bc (d:=default) Kp);rw[z,U]at X;exact vo X
  have TU:Qv C H4 ms[i] (l.ms.getD i default):=by
   obtain⟨d1,s1,d2,X,w2,w3⟩:=zE i ms[i] _ (bU Zr) (bc (d:=default) Kp);have tt:bP H H4:=λb xs e=>s3 _ _ (OX _ _ (LX b _ (λz=>by rw[z,U]at e;cases e) e));exact⟨d1,s1,d2,s3 _ _ (OX _ _ (LX _ _ nmx X)),w2.aA tt,w3.aA tt⟩
  obtain⟨d1,s1,d2,X,w2,w3⟩:=id TU;ac_rfl;calc mth X (AZ ⋯ ⋯ ⋯) ?_;calc⟨ms[i],_,_,_,_,rfl,TU,λst tE=>?_⟩;left;calc⟨L' (small nofun),λp hp=>?_⟩;have sN:=aq.new (.lst [st]) hp;have nD:p≠D1:=Ne.symm (au y hp);refine bX (sN _ _ y) hl hi (L' (small ())) ⟨as++[p],nofun,λb o e=>?_,?_⟩
  ·rw[ax (au e DA)];exact sN _ _ (s3 _ _ e)
  ·refine hL.snoc s3 (by rw[y];simp) hp (vs:=[st]) ?_ ⟨st,rfl,tE.aA (λb xs e=>by rw[ax (λz=>by rw[z,y] at e;cases e)];calc sN _ _ e)⟩ (λb o nb e=>?_) (λj vs ⟨v,e,h⟩=>⟨v,e,h.aA (λb xs e=>by rw[ax (λz=>by rw[z,y] at e;cases e)];calc sN _ _ e)⟩)
   ·rw[ax nD];exact ab
   ·rw[ax nb];exact sN _ _ e
 intro ys H1 y hl sM;obtain⟨A1,rfl,TV,WC⟩:=sM;left;calc lx TV (OX _ _ OW) T.bb T.bZ OG λG1 qg WD TX Zs vZ=>?_;have TY:=TX _ _ y;have kg1:∀b o,b≠x->G0 b=some o->G1 b=some o:=λb o n e=>WD b o n (OX _ _ e);have QH:∀b o,b≠x->H b=some o->G1 b=some o:=λb o n e=>kg1 b o n (LX b o n e);have Zt:TR D1=none:=DA;clear y;left;calc bC ?_;left;calc iq (QH _ _ O I) (eA ⋯ ⋯ ⋯) ?_;calc fv k ms wv N rfl ⟨Z,a1,b1,c1,QH _ _ O I,QH _ _ LV g2,QH _ _ IM g3,QH _ _ LW g4⟩ (λZu Zv=>?_);have QI:=aq.new (.lst (ms.map V.ref)) Zv;have TZ:upd G1 Zu (.lst (ms.map V.ref)) Zu=some (.lst (ms.map V.ref)):=ab;generalize afc:upd G1 Zu (.lst (ms.map V.ref))=Zw at *;left;calc .inl ⟨⟨_,aO.of TZ⟩,λD2 vp=>?_⟩;calc js (vs:=[V.int 0]) TZ vp () (λ_=>Ext.set (Ext.refl _) rfl) (λ_ _ _ r=>And.intro ∅ r) ?_;intro A2 H2 y QJ WE;left;calc lx QJ (QI _ _ qg) T.bb T.dN vZ λG2 CS QK T3 afd qG=>?_;have QL:=T3 _ _ y;have kg2:∀b o,b≠x->G1 b=some o->G2 b=some o:=λb o n e=>QK b o n (QI _ _ e);have QM:∀b o,b≠x->H b=some o->G2 b=some o:=λb o n e=>kg2 b o n (QH b o n e);have T4:Zw D2=none:=vp;clear y;left;calc bC ?_;left;calc iq (QM _ _ O I) (eA ⋯ ⋯ ⋯) ?_;calc fv k ms wv N rfl ⟨Z,a1,b1,c1,QM _ _ O I,QM _ _ LV g2,QM _ _ IM g3,QM _ _ LW g4⟩ (λZx Zy=>?_);have QN:=aq.new (.lst (ms.map V.ref)) Zy;have T5:upd G2 Zx (.lst (ms.map V.ref)) Zx=some (.lst (ms.map V.ref)):=ab;generalize afe:upd G2 Zx (.lst (ms.map V.ref))=Zz at *;left;calc .inl ⟨⟨_,aO.of T5⟩,λD3 Dc=>?_⟩;calc js (vs:=[]) T5 Dc () (λ_=>Ext.set (Ext.refl _) rfl) (λ_ _ _ r=>And.intro ∅ r) ?_;intro A3 H3 y T6 WG;left;calc lx T6 (QN _ _ CS) T.bb T.cH qG λG3 IA T7 T8 aff Bq=>?_;have QO:=T8 _ _ y;have kg3:∀b o,b≠x->G2 b=some o->G3 b=some o:=λb o n e=>T7 b o n (QN _ _ e);have QP:∀b o,b≠x->H b=some o->G3 b=some o:=λb o n e=>kg3 b o n (QM b o n e);have T9:Zz D3=none:=Dc;clear y;left;calc bC ?_;left;calc iq (QP _ _ O I) (eA ⋯ ⋯ ⋯) ?_;calc fv k ms wv N rfl ⟨Z,a1,b1,c1,QP _ _ O I,QP _ _ LV g2,QP _ _ IM g3,QP _ _ LW g4⟩ (λZC ZD=>?_);have QQ:=aq.new (.lst wv) ZD;have Ua:upd G3 ZC (.lst wv) ZC=some (.lst wv):=ab;generalize afg:upd G3 ZC (.lst wv)=ZE at *;left;calc .inl ⟨⟨_,aO.of Ua⟩,λD4 QR=>?_⟩;calc js (vs:=[]) Ua QR () (λ_=>Ext.set (Ext.refl _) rfl) (λ_ _ _ r=>And.intro ∅ r) ?_;intro A4 H4 y QS OY;left;calc lx QS (QQ _ _ IA) T.bb T.bT Bq λG4 Oz Ub Uc afh Lz=>?_;have LY:=Uc _ _ y;have kg4:∀b o,b≠x->G3 b=some o->G4 b=some o:=λb o n e=>Ub b o n (QQ _ _ e);have QT:∀b o,b≠x->H b=some o->G4 b=some o:=λb o n e=>kg4 b o n (QP b o n e);have ZF:ZE D4=none:=QR;clear y;left;calc bC ?_;left;calc iq (QT _ _ O I) (eA ⋯ ⋯ ⋯) ?_;calc fv k ms wv N rfl ⟨Z,a1,b1,c1,QT _ _ O I,QT _ _ LV g2,QT _ _ IM g3,QT _ _ LW g4⟩ (λZG ZH=>?_);have QU:=aq.new (.lst wv) ZH;have Ud:upd G4 ZG (.lst wv) ZG=some (.lst wv):=ab;generalize afi:upd G4 ZG (.lst wv)=ZI at *;left;calc .inl ⟨⟨_,aO.of Ud⟩,λD5 AW=>?_⟩;calc js (vs:=[]) Ud AW () (λ_=>Ext.set (Ext.refl _) rfl) (λ_ _ _ r=>And.intro ∅ r) ?_;intro A5 H5 y QV WH;left;calc lx QV (QU _ _ Oz) T.bb T.eV Lz λG5 Dz Ue Ug afj hl5=>?_;have QW:=Ug _ _ y;have kg5:∀b o,b≠x->G4 b=some o->G5 b=some o:=λb o n e=>Ue b o n (QU _ _ e);have QX:∀b o,b≠x->H b=some o->G5 b=some o:=λb o n e=>kg5 b o n (QT b o n e);have ZJ:ZI D5=none:=AW;clear y;left;calc bC ?_;left;calc iq (QX _ _ O I) (eA ⋯ ⋯ ⋯) ?_;calc fv k ms wv N rfl ⟨Z,a1,b1,c1,QX _ _ O I,QX _ _ LV g2,QX _ _ IM g3,QX _ _ LW g4⟩ (λZK ZL=>?_);have QY:=aq.new (.lst wv) ZL;have Uh:upd G5 ZK (.lst wv) ZK=some (.lst wv):=ab;generalize afk:upd G5 ZK (.lst wv)=ZM at *;left;calc .inl ⟨⟨_,aO.of Uh⟩,λD6 Ui=>?_⟩;calc js (vs:=[]) Uh Ui () (λ_=>Ext.set (Ext.refl _) rfl) (λ_ _ _ r=>And.intro ∅ r) ?_;intro A6 H6 y Uj WI;left;calc lx Uj (QY _ _ Dz) T.bb T.de hl5 λW Ta Uk Ul afl hl6=>?_;have QZ:=Ul _ _ y;have kg6:∀b o,b≠x->G5 b=some o->W b=some o:=λb o n e=>Uk b o n (QY _ _ e);have L:∀b o,b≠x->H b=some o->W b=some o:=λb o n e=>kg6 b o n (QX b o n e);have ZN:ZM D6=none:=Ui;clear y;have g:∀(G T:Hp),(∀b o,b≠x->G b=some o->T b=some o)->(∃fs,G x=some (.ins CR S fs))->(∀b vs,G b=some (.lst vs)->T b=some (.lst vs))/\bP G T:=λG T h ⟨fs,e⟩=>⟨λb vs M=>h b _ (λz=>by rw[z,e]at M;cases M) M,λb vs M=>h b _ (λz=>by rw[z,e]at M;cases M) M⟩
 have Kq:=kg6;have LZ:∀b o,b≠x->G4 b=some o->W b=some o:=λb o n e=>Kq b o n (kg5 b o n e);have L0:∀b o,b≠x->G3 b=some o->W b=some o:=λb o n e=>LZ b o n (kg4 b o n e);have OZ:∀b o,b≠x->G2 b=some o->W b=some o:=λb o n e=>L0 b o n (kg3 b o n e);have Um:∀b o,b≠x->G1 b=some o->W b=some o:=λb o n e=>OZ b o n (kg2 b o n e);have kc0:∀b o,b≠x->G0 b=some o->W b=some o:=λb o n e=>Um b o n (kg1 b o n e);have O0:rM TR G1 D1 A1 (ms.map V.ref).length (λj H' vs=>∃v,vs=[v]/\HT H' 2 v (wQ (l.ms.getD j default).ns (l.ms.getD j default).row)):=WC.keep TX (λj vs ⟨v,e,h⟩=>⟨v,e,h.aA Zs⟩);have O1:=O0.keep (g _ _ Um ⟨_,qg⟩).1 (λj vs ⟨v,e,h⟩=>⟨v,e,h.aA (g _ _ Um ⟨_,qg⟩).2⟩);have L3:=(g _ _ Um ⟨_,qg⟩).1 _ _ TY;have O2:rM Zw G2 D2 A2 (ms.map V.ref).length (λ_ _ vs=>vs=[V.int 0]):=WE.keep T3 (λj vs e=>e);have O3:=O2.keep (g _ _ OZ ⟨_,CS⟩).1 (λj vs e=>e);have L4:=(g _ _ OZ ⟨_,CS⟩).1 _ _ QL;have O4:rM Zz G3 D3 A3 (ms.map V.ref).length (λ_ _ vs=>vs=[]):=WG.keep T8 (λj vs e=>e);have O5:=O4.keep (g _ _ L0 ⟨_,IA⟩).1 (λj vs e=>e);have L5:=(g _ _ L0 ⟨_,IA⟩).1 _ _ QO;have O6:rM ZE G4 D4 A4 wv.length (λ_ _ vs=>vs=[]):=OY.keep Uc (λj vs e=>e);have O7:=O6.keep (g _ _ LZ ⟨_,Oz⟩).1 (λj vs e=>e);have L6:=(g _ _ LZ ⟨_,Oz⟩).1 _ _ LY;have O8:rM ZI G5 D5 A5 wv.length (λ_ _ vs=>vs=[]):=WH.keep Ug (λj vs e=>e);have vq:=O8.keep (g _ _ Kq ⟨_,Dz⟩).1 (λj vs e=>e);have uw:=(g _ _ Kq ⟨_,Dz⟩).1 _ _ QW;have Kr:rM ZM W D6 A6 wv.length (λ_ _ vs=>vs=[]):=WI.keep Ul (λj vs e=>e);have Uo:=(g _ _ kc0 ⟨_,OW⟩).1 _ _ ep;have y:(ms.map V.ref).length=l.ms.length:=by simp[mj]
 rw[y]at O1;rw[y]at O3;rw[y]at O5;rw[jw]at O7;rw[jw]at vq;rw[jw]at Kr;obtain⟨ad,OU⟩:∃ad:Nat->Nat->Addr,∀t i,ad t i=([[p],A1,A2,A3,A4,A5,A6].getD t []).getD i 0:=⟨_,λ_ _=>rfl⟩
 have pz:∀{A B:Hp},(∀b o,b≠x->A b=some o->B b=some o)->∀{o},B x=some o->∀b,A b≠none->B b≠none:=λ{A B} h {o} e b hb=>by
  by_cases z:b=x
  ·rw[z,e];exact λz=>nomatch z
  ·cases e1:A b with
   |none=>calc absurd e1 hb
   |some u=>rw[h b u z e1];exact λz=>nomatch z
 have Y:∀{A:Hp} {b:Addr} {o:HO},A b=some o->A b≠none:=λe z=>by rw[e]at z;cases z
 have ZO:∀b,FF b->b≠x:=λb h z=>by
  obtain⟨o,e,so⟩:=kD b h;rw[z,U]at e;cases e;exact so
 obtain⟨cP,LU,ZP⟩:=Bo (F:=FF) (G:=W) (n:=l.n) (c:=(RS.new l).ct) (λt=>[Ga,TR,Zw,Zz,ZE,ZI,ZM].getD t W) (λt=>t) _ (λt=>[x,D1,D2,D3,D4,D5,D6].getD t x) (λt=>[λ_ _ u=>u=.lst [],λj H u=>∃vs,u=.lst vs/\∃v,vs=[v]/\HT H 2 v (wQ (l.ms.getD j default).ns (l.ms.getD j default).row),λ_ _ u=>∃vs,u=.lst vs/\vs=[V.int 0]].getD t λ_ _ u=>∃vs,u=.lst vs/\vs=[]) OU (λ_=>rfl) (λ_ _ _ _ h=>h)
  (λt=>match t with
   |0=>pz (λb o n e=>OX _ _ (ka b o n e)) (OX _ _ OW)
   |1=>pz (λb o n e=>QI _ _ (WD b o n e)) (QI _ _ qg)
   |2=>pz (λb o n e=>QN _ _ (QK b o n e)) (QN _ _ CS)
   |3=>pz (λb o n e=>QQ _ _ (T7 b o n e)) (QQ _ _ IA)
   |4=>pz (λb o n e=>QU _ _ (Ub b o n e)) (QU _ _ Oz)
   |5=>pz (λb o n e=>QY _ _ (Ue b o n e)) (QY _ _ Dz)
   |6=>pz Uk Ta
   | (t + 7)=>λb h=>h)
  (λb h=>by
   obtain⟨o,e,so⟩:=kD b h;calc⟨Y (Zp b o (ZO b h) e),o,L b o (ZO b h) e,so⟩)
  (λt ht=>match t,ht with
   | 0,_=>⟨⟨rfl,nofun,λa m=>by rw[List.mem_singleton.mp m];exact⟨hp,npx⟩,λj a e=>by cases j with
    |zero=>cases e;calc⟨_,Uo,rfl⟩
    | succ j=>cases e⟩,λa m=>by rw[List.mem_singleton.mp m];calc Y (OX _ _ ep),λh=>absurd h ∅⟩
   |1,_=>⟨O1.o,O0.some QI,λ_=>⟨Zt,Y (QI _ _ TY)⟩⟩
   |2,_=>⟨O3.o,O2.some QN,λ_=>⟨T4,Y (QN _ _ QL)⟩⟩
   |3,_=>⟨O5.o,O4.some QQ,λ_=>⟨T9,Y (QQ _ _ QO)⟩⟩
   |4,_=>⟨O7.o,O6.some QU,λ_=>⟨ZF,Y (QU _ _ LY)⟩⟩
   |5,_=>⟨vq.o,O8.some QY,λ_=>⟨ZJ,Y (QY _ _ QW)⟩⟩
   |6,_=>⟨Kr.o,Kr.some (aq.refl _),λ_=>⟨ZN,Y QZ⟩⟩
   | (t + 7),h=>absurd h ())
  (λt i u ht h=>by
   match t,ht,h with
   |0,_,h=>cases h;trivial
   |1,_,⟨_,e,_⟩|2,_,⟨_,e,_⟩|3,_,⟨_,e,_⟩|4,_,⟨_,e,_⟩|5,_,⟨_,e,_⟩|6,_,⟨_,e,_⟩=>cases e;trivial
   | (t + 7),h,_=>calc absurd h ())
  (λhz _ t i u ht hi e h=>by
   match t,ht,h with
   |0,_,h=>cases h;calc(eL.nil:eL _ 4 [] [])
   |1,_,⟨_,e,v,M,hv⟩=>cases e;cases M;calc(eL.one ((Gw hz hv).mono ∅):eL _ 4 [v] [_])
   |2,_,⟨_,e,M⟩=>cases e;cases M;calc(eL.one (.int 0):eL _ 4 [.int 0] [.int 0])
   |3,_,⟨_,e,M⟩|4,_,⟨_,e,M⟩|5,_,⟨_,e,M⟩|6,_,⟨_,e,M⟩=>cases e;cases M;calc(eL.nil:eL _ 4 [] [])
   | (t + 7),h,_=>calc absurd h ())
 have R:∀b,FP l.n ad b->H b=none:=λb hb=>by
  cases j:H b with
  |none=>rfl
  |some o=>
   have e:=(LU b hb).1;have:b≠x:=λz=>by rw[z]at e;exact Y Zo e
   exact absurd e (Y (Zp b o this j))
 have hR:cI C CN CR FF W x k l (RS.new l) ad:=by
  refine⟨⟨S,λt=>[x,D1,D2,D3,D4,D5,D6].getD t x,?_,λt j v=>?_⟩,cP,?_⟩
  ·rw[Ta,DB,OU];rfl
  ·obtain⟨X,w2,w3⟩:=ZP t j v;calc⟨?_,X,w2⟩;rw[<-w3]
   match t,j,v with
   |1,_,_=>calc L3
   |2,_,_=>calc L4
   |3,_,_=>calc L5
   |4,_,_=>calc L6
   |5,_,_=>calc uw
   |6,_,_=>calc QZ
   |(t+7),_,h=>exact absurd h ()
  ·calc⟨⟨ms,wv,N,⟨Z,a1,b1,c1,L _ _ O I,L _ _ LV g2,L _ _ IM g3,L _ _ LW g4⟩,mj,λi m d e1 j=>?_,Gn.aA (g _ _ L ⟨_,U⟩).2⟩,aU⟩;obtain⟨d1,s1,d2,X,w2,w3⟩:=zE i m d e1 j;have t:m≠x:=λz=>by rw[z,U] at X;exact vo X
   exact⟨d1,s1,d2,L _ _ t X,w2.aA (g _ _ L ⟨_,U⟩).2,w3.aA (g _ _ L ⟨_,U⟩).2⟩
 have ZQ:=IG.aA (g _ _ L ⟨_,U⟩).2;clear O0 O1 O2 O3 O4 O5 O6 O7 O8 vq Kr L3 L4 L5 L6 uw TY WC QL WE QO WG LY OY QW WH QZ WI Uo kc0 Um OZ L0 LZ Kq;left;calc⟨k,Z,_,rfl,L _ _ O I,eA ⋯ ⋯ ⋯,k,ms,wv,N,rfl,⟨Z,a1,b1,c1,L _ _ O I,L _ _ LV g2,L _ _ IM g3,L _ _ LW g4⟩,λll xF=>?_⟩;have s7:=aq.new (.lst N) xF;have ell:upd W ll (.lst N) ll=some (.lst N):=ab;generalize Wz:upd W ll (.lst N)=G7 at *;have nll:¬FP l.n ad ll:=λz=>by
  obtain⟨_,u,e,_⟩:=LU ll z;rw[xF]at e;cases e
 have g:=hR.same s7;have Up:=ZQ.aA s7.aJ;have Uq:N.length=ls.length:=by simpa using Up.1
 refine .inl ⟨⟨_,aO.of ell⟩,gM (K:=K) (xs:=N) (λi σ H'=>(∃z2 z3,σ=[some (V.ref x),some (V.ref k),z2,z3])/\Fr (FP l.n ad) G7 H'/\cI C CN CR FF H' x k l ((RS.new l).ip (ls.take i)) ad) ?_ ?_ ?_ ?_⟩
 ·exact⟨⟨_,_,rfl⟩,Fr.refl,g⟩
 ·rintro i σ H' hi ⟨_,fi,_⟩;exact aO.of (fi.at ell nll)
 ·intro i z σ H' hz CP;nofun;obtain⟨⟨z2,z3,rfl⟩,fi,v8⟩:=CP;have g:i < ls.length:=by rw[<-Uq];exact(List.getElem?_eq_some_iff.mp hz).1
  have j:ls[i]?=some ls[i]:=bU g;have OT:=(Up.2 i z (mh ls[i]) hz (by rw[A',j];rfl)).aA fi.aJ;have Gz:=iz _ (aan g);have Km:(RS.new l).ip (ls.take (i+1))=((RS.new l).ip (ls.take i)).put ls[i].1.toNat ls[i].2 none:=by
   rw[abn,j];exact oV _
  generalize ls[i]=p at *;obtain⟨pj,px⟩:=p;obtain⟨tz,u1,u2,kz,rfl,Dw,y1,y2⟩:=dH OT;obtain rfl:=y1.cj;obtain rfl:=y2.cj;ac_rfl;calc zf (bq.of Dw) ?_;left;obtain⟨j,t,g,u⟩:=v8.ins;calc iq g (kE ⋯) ?_;have j:((pj.toNat:Nat):Int)=pj:=abl Gz.1;refine⟨FF,x,k,l,_,ad,pj.toNat,px,.bH,none,by rw[j],v8,λb h=>by
   obtain⟨o,e,so⟩:=kD b h;calc⟨o,fi.at (s7 _ _ (L b o (ZO b h) e)) (λz=>by rw[R b z] at e;cases e),so⟩,by have:=Gz.2;show pj.toNat < _;simp at this;lia,.bH,(qp (ls.take i) (zK aU)).mono (by simp;lia),λk g j=>?_⟩
  left;calc ir ⟨_,_,rfl,rfl⟩ (fi.trans g) ?_;rw[Km];exact j
 ·rintro σ H' ⟨_,fi,v8⟩;rw[Uq,aax]at v8;calc q ad _ (λb o n e=>?_) R v8;calc fi.at (s7 _ _ (L b o n e)) λz=>?_;rw[R b z]at e;cases e
theorem rO{v:V}(h:HT H 1 v (pairD e)):∃a,v=.ref a/\H a=some (.tup [.int e.1,.int e.2]):=by
 obtain⟨b,g,i,j,rfl,c,d,f⟩:=dH h;obtain rfl:=d.cj;obtain rfl:=f.cj;calc⟨b,rfl,c⟩
abbrev kH:Stmt:=top 55
def xJ:Sp:=λvs H Q _=>∃p m,vs=[.ref p,.int m]/\fw H p/\0<m/\m<=4/\∀x v H',Step p H H'->HT H' 1 x (Val.dv v)->v.ok m->Q x H'
theorem xK(D:cL K mg "_law_value" "_law_value" kH ah)(T:Tx K mg C CN CR F FD)(u:Def P w K mg base "_law_digit" 1 ah jo):Def P w K mg base "_law_value" 2 ah xJ:=by
 exists["_law_pot_here","_law_many","_law_kind"];obtain⟨p,m,rfl,G,I,J,q⟩:=h;have L:=hr.units;refine⟨_,(ai (aT (i:=2) sc rfl Sort (aE u hr (af (ao 0) (af ag aa))))
  (ai (aS (az gp (ao 2) ag (aG _)) (ak (aH (bu (af aB (af (aj L (bF (af (aV fq (aE u hr (af (ao 0) (af ag aa))) ag) (af (aV fq (aE u hr (af (ao 0) (af (aV fq (aV jB ag (aV qh ag ag)) ag) aa))) (aV fq (aV qh ag ag) ag)) aa))) (ao 2)) aa))))) aI)
  (ai (aS (az gp (ao 2) ag (aG _)) (ak (aH (bu (af aB (af (aE u hr (af (ao 0) (af (ao 1) aa))) aa))))) aI)
  (ak (aH (aj L (bF (af (bu (af aB aa)) (af (bu (af aB aa)) (af (bu (af aB aa)) (af (bu (af aB aa)) aa))))) (aV fq (ao 2) ag))))))),?_⟩
 right;calc l8 p 8 rfl G ⋯ ⋯ (λd H1 h1 h2 st=>?_);right;split
 ·rename_i j;have j:d < 2:=by simpa using j
  calc l8 p 9 rfl st.gf ⋯ ⋯ (λR H2 M J k=>?_);right;calc⟨zj,Oo,dig k.gf SN SO λd2 H3 h5 h6 N=>?_⟩;right;calc ir zj ∅ (λl c=>?_);have y:d=0\/d=1:=by lia
  rcases y with rfl|rfl
  ·exact⟨_,_,.inl (aO.of ab),rfl,∅,λt n=>q _ (.is _) _ ((((st.trans k).trans N).new c).new n) (dy ab (.str _) (.int _)) trivial⟩
  ·exact⟨_,_,.inl (aO.of ab),rfl,∅,λt n=>q _ (.is _) _ ((((st.trans k).trans N).new c).new n) (dy ab (.str _) (.int _)) trivial⟩
 ·rename_i j;have j:¬d < 2:=by simpa using j
  split
  ·refine⟨p,m,rfl,st.gf,I,?_,λR H2 M z k=>?_⟩
   ·have:m=1\/m=2\/m=3\/m=4:=by lia
    rcases this with rfl|rfl|rfl|rfl<;>decide +kernel
   right;exact⟨∅,λt n=>q _ (.number _) _ ((st.trans k).new n) (dy ab (.str _) (.int _)) ⟨M,z⟩⟩
  ·rename_i r;have r:¬d < 4:=by simpa using r
   calc⟨∅,λa S=>⟨∅,λb O=>⟨∅,λe B=>⟨∅,λg v=>⟨∅,λl c=>?_⟩⟩⟩⟩⟩;have x:=((((st.new S (o:=.tup [.str "letter"])).new O (o:=.tup [.str "letter"])).new B (o:=.tup [.str "way"])).new v (o:=.tup [.str "first"])).new c (o:=.lst [.ref a,.ref b,.ref e,.ref g]);have y:d=4\/d=5\/d=6\/d=7:=by lia
   have U:=(aq.new (H:=upd H1 a (.tup [.str "letter"])) (.tup [.str "letter"]) O) a _ ab;have W:=(aq.new (.tup [.str "way"]) B) _ _ U;have X:=(aq.new (.tup [.str "first"]) v) _ _ W;have Y:=(aq.new (.lst [.ref a,.ref b,.ref e,.ref g]) c) _ _ X;have Z:=(aq.new (H:=upd (upd H1 a (.tup [.str "letter"])) b (.tup [.str "letter"])) (.tup [.str "way"]) B) b _ ab;have k3:=(aq.new (.tup [.str "first"]) v) _ _ Z;have k4:=(aq.new (.lst [.ref a,.ref b,.ref e,.ref g]) c) _ _ k3;have l3:=(aq.new (H:=upd (upd (upd H1 a (.tup [.str "letter"])) b (.tup [.str "letter"])) e (.tup [.str "way"])) (.tup [.str "first"]) v) e _ ab;have l4:=(aq.new (.lst [.ref a,.ref b,.ref e,.ref g]) c) _ _ l3;have m4:=(aq.new (H:=upd (upd (upd (upd H1 a (.tup [.str "letter"])) b (.tup [.str "letter"])) e (.tup [.str "way"])) g (.tup [.str "first"])) (.lst [.ref a,.ref b,.ref e,.ref g]) c) g _ ab;rcases y with rfl|rfl|rfl|rfl
   ·exact⟨_,_,.inl (aO.of ab),rfl,q _ .lZ _ x (qW Y (.str _)) trivial⟩
   ·exact⟨_,_,.inl (aO.of ab),rfl,q _ .lZ _ x (qW k4 (.str _)) trivial⟩
   ·exact⟨_,_,.inl (aO.of ab),rfl,q _ .way _ x (qW l4 (.str _)) trivial⟩
   ·calc⟨_,_,.inl (aO.of ab),rfl,q _ .first _ x (qW m4 (.str _)) trivial⟩
theorem ZR{d:Int}(a:0<=d)(h:d<10):d=0\/d=1\/d=2\/d=3\/d=4\/d=5\/d=6\/d=7\/d=8\/d=9:=by
 have:∀n:Fin 10,((n.1:Nat):Int)=0\/((n.1:Nat):Int)=1\/((n.1:Nat):Int)=2\/((n.1:Nat):Int)=3\/((n.1:Nat):Int)=4\/((n.1:Nat):Int)=5\/((n.1:Nat):Int)=6\/((n.1:Nat):Int)=7\/((n.1:Nat):Int)=8\/((n.1:Nat):Int)=9:=by decide
 rw[<-abl a];calc this ⟨d.toNat,()⟩
abbrev mz:Stmt:=top 56
theorem Pa{H:Hp}{n:Nat}{a:Addr}{u v w z:V}{d d' f g:DV}(e:H a=some (.tup [u,v,w,z]))(h:HT H n u d)(h':HT H n v d')(j:HT H n w f)(k:HT H n z g):HT H (n+1) (.ref a) (.tup [d,d',f,g]):=by
 refine .tup e rfl λi x y b c=>?_
 match i,b,c with
 |0,b,c=>simp at b c;subst b c;calc h
 |1,b,c=>simp at b c;subst b c;calc h'
 |2,b,c=>simp at b c;subst b c;calc j
 |3,b,c=>simp at b c;subst b c;calc k
def xM:Sp:=λvs H Q _=>∃p m,vs=[.ref p,.int m]/\fw H p/\0<m/\m<=4/\∀x d H',Step p H H'->HT H' 2 x (bf.dv d)->d.ok m->Q x H'
theorem zL(D:cL K mg "_law_deed" "_law_deed" mz ah)(T:Tx K mg C CN CR F FD)(M:Def P w K mg base "_law_digit" 1 ah jo)(I:Def P w K mg base "_law_value" 2 ah xJ):Def P w K mg base "_law_deed" 3 ah xM:=by
 exists["_law_pot_here","_law_many","_law_kind"];obtain⟨p,m,rfl,W,k,u,q⟩:=h;have N:=hr.units;refine⟨_,(ai (aT (i:=2) sc rfl Sort (aE M hr (af (ao 0) (af ag aa))))
  (ai (aS (az gp (ao 2) ag (aG _)) (ak (aH (bu (af (aj N (bF (af aB (af aB (af aB aa)))) (ao 2)) (af (aE M hr (af (ao 0) (af (ao 1) aa))) (af (aE I hr (af (ao 0) (af (ao 1) aa))) aa)))))) aI)
  (ai (aS (az gp (ao 2) ag (aG _)) (ak (aH (bu (af aB (af (aE M hr (af (ao 0) (af ag aa))) (af (aE I hr (af (ao 0) (af (ao 1) aa))) aa)))))) aI)
  (ai (aS (az (aQ N) (ao 2) ag (aG _)) (ak (aH (bu (af aB (af (aE I hr (af (ao 0) (af (ao 1) aa))) aa))))) aI)
  (ai (aS (az (aQ N) (ao 2) ag (aG _)) (ak (aH (bu (af aB (af (aE I hr (af (ao 0) (af (ao 1) aa))) aa))))) aI)
  (ai (aS (az (aQ N) (ao 2) ag (aG _)) (ak (aH (bu (af aB aa)))) aI)
  (ak (aH (bu (af aB (af (aE I hr (af (ao 0) (af (ao 1) aa))) (af (aE I hr (af (ao 0) (af (ao 1) aa))) (af (aV cS ag (aE M hr (af (ao 0) (af ag aa)))) aa))))))))))))),?_⟩
 right;calc l8 p 10 rfl W ⋯ ⋯ (λd H1 I M st=>?_);have O:m.natAbs.log2<9000:=by
  have:m=1\/m=2\/m=3\/m=4:=by lia
  rcases this with rfl|rfl|rfl|rfl<;>decide +kernel
 have Z:d=0\/d=1\/d=2\/d=3\/d=4\/d=5\/d=6\/d=7\/d=8\/d=9:=ZR (by assumption) (by assumption);rcases Z with rfl|rfl|rfl|rfl|rfl|rfl|rfl|rfl|rfl|rfl
 ·walk_at "go";refine⟨∅,λl J=>?_⟩;have B:=st.new (o:=.lst [.str "set",.str "add",.str "times"]) J;refine bx ab rfl ?_;refine dig B.gf k O λe L r y x=>?_;have b:=B.trans x;walk_at "go";refine l8 p m rfl b.gf k u (λz v G c g j=>?_);walk_at "go";exact⟨∅,λt a=>q _ (.set e v) _ ((b.trans c).new a) (l7 ab (.str _) (.int _) (g.aA (aq.new _ a).aJ)) ⟨r,y,j⟩⟩
 ·walk_at "go";refine⟨∅,λl J=>?_⟩;have B:=st.new (o:=.lst [.str "set",.str "add",.str "times"]) J;refine bx ab rfl ?_;refine dig B.gf k O λe L r y x=>?_;have b:=B.trans x;walk_at "go";refine l8 p m rfl b.gf k u (λz v G c g j=>?_);walk_at "go";exact⟨∅,λt a=>q _ (.add e v) _ ((b.trans c).new a) (l7 ab (.str _) (.int _) (g.aA (aq.new _ a).aJ)) ⟨r,y,j⟩⟩
 ·walk_at "go";refine⟨∅,λl J=>?_⟩;have B:=st.new (o:=.lst [.str "set",.str "add",.str "times"]) J;refine bx ab rfl ?_;refine dig B.gf k O λe L r y x=>?_;have b:=B.trans x;walk_at "go";refine l8 p m rfl b.gf k u (λz v G c g j=>?_);walk_at "go";exact⟨∅,λt a=>q _ (.times e v) _ ((b.trans c).new a) (l7 ab (.str _) (.int _) (g.aA (aq.new _ a).aJ)) ⟨r,y,j⟩⟩
 ·walk_at "go";refine dig st.gf ∅ ⋯ λe L r y x=>?_;have b:=st.trans x;right;refine l8 p m rfl b.gf k u (λz v G c g j=>?_);right;exact⟨∅,λt a=>q _ (.send e v) _ ((b.trans c).new a) (l7 ab (.str _) (.int _) (g.aA (aq.new _ a).aJ)) ⟨r,j⟩⟩
 ·walk_at "go";refine dig st.gf ∅ ⋯ λe L r y x=>?_;have b:=st.trans x;right;refine l8 p m rfl b.gf k u (λz v G c g j=>?_);right;exact⟨∅,λt a=>q _ (.send e v) _ ((b.trans c).new a) (l7 ab (.str _) (.int _) (g.aA (aq.new _ a).aJ)) ⟨r,j⟩⟩
 ·walk_at "go";refine dig st.gf ∅ ⋯ λe L r y x=>?_;have b:=st.trans x;right;refine l8 p m rfl b.gf k u (λz v G c g j=>?_);right;exact⟨∅,λt a=>q _ (.send e v) _ ((b.trans c).new a) (l7 ab (.str _) (.int _) (g.aA (aq.new _ a).aJ)) ⟨r,j⟩⟩
 ·walk_at "go";refine l8 p m rfl st.gf k u (λz v G c g j=>?_);walk_at "go";exact⟨∅,λt a=>q _ (.say v) _ ((st.trans c).new a) (dy ab (.str _) (g.aA (aq.new _ a).aJ)) j⟩
 ·walk_at "go";refine l8 p m rfl st.gf k u (λz v G c g j=>?_);walk_at "go";exact⟨∅,λt a=>q _ (.put v) _ ((st.trans c).new a) (dy ab (.str _) (g.aA (aq.new _ a).aJ)) j⟩
 ·walk_at "go";exact⟨∅,λt a=>q _ .drop _ (st.new a) (qW (n:=1) ab (.str _)) trivial⟩
 ·walk_at "go";refine l8 p m rfl st.gf k u (λz v G c g j=>?_);walk_at "go";have R:=st.trans c;refine l8 p m rfl R.gf k u (λvy v2 b X S Ur=>?_);have U:=R.trans X;walk_at "go";refine dig U.gf ∅ ⋯ λe b r y Y=>?_;walk_at "go";refine⟨∅,λt a=>q _ (.skip v v2 (1+e)) _ ((U.trans Y).new a) ?_ ⟨j,Ur,(),()⟩⟩;have b:=(Y.aJ U.gf).trans (aq.new (.tup [.str "skip",z,vy,.int (1+e)]) a).aJ;exact Pa ab (.str _) (g.aA ((X.aJ R.gf).trans b)) (S.aA b) (.int _)
abbrev iU:Stmt:=top 57
theorem Step.free{p b:Addr}{H H':Hp}(st:Step p H H')(h:H' b=none):H b=none:=by
 cases e:H b with
 |none=>rfl
 |some o=>
  by_cases a:b=p
  ·subst a;obtain⟨x,c,_⟩:=st.gf;rw[h]at c;cases c
  ·rw[st.rest b o e a]at h;cases h
theorem GC{m:Int}(a:0<m)(h:m<=1000000000000):m.natAbs.log2<9000:=(Nat.log2_lt ()).mpr (abm (show m.natAbs<=1000000000000 by lia) ⋯)
def mods(d:Int):List V:=[.int 2,.int 3,.int 7,.int 10,.int 97,.int (2+d)]
theorem Kt{d k:Int}(b:0<=d)(a:d<10^Int.toNat 12-1)(c:0<=k)(f:k<6):∃z:Int,iG (mods d) k=some (.int z)/\2<=z/\z<=1000000000000:=by
 have e:(10:Int)^Int.toNat 12=1000000000000:=by decide +kernel
 rw[e]at a;have:k=0\/k=1\/k=2\/k=3\/k=4\/k=5:=by lia
 rcases this with rfl|rfl|rfl|rfl|rfl|rfl
 ·exact⟨_,av (j:=0) rfl,∅,∅⟩
 ·exact⟨_,av (j:=1) rfl,∅,∅⟩
 ·exact⟨_,av (j:=2) rfl,∅,∅⟩
 ·exact⟨_,av (j:=3) rfl,∅,∅⟩
 ·exact⟨_,av (j:=4) rfl,∅,∅⟩
 ·calc⟨_,av (j:=5) rfl,(),()⟩
def xN:Sp:=λvs H Q _=>∃p,vs=[.ref p]/\fw H p/\∀t a b c xs M ns row d H',Step p H H'->H' t=some (.tup [.int M,.ref a,.ref b,.ref c])->H' a=some (.lst (ns.map V.int))->H' b=some (.lst (row.map V.int))->H' c=some (.lst xs)->fc H' 2 xs (d.map bf.dv)->H a=none->H b=none->H c=none->Good M ns row d->Q (.ref t) H'
theorem sZ(D:cL K mg "_law_machine" "_law_machine" iU ["_law_pot_here"])(T:Tx K mg C CN CR F FD)(mB:Def P w K mg base "_law_deed" 3 ah xM)(j:Def P w K mg base "_law_digit" 1 ah jo):Def P w K mg base "_law_machine" 4 ["_law_pot_here"] xN:=by
 exists["_law_pot_here","_law_modulus","_law_many","_law_numbers","_law_row","_law_deeds"];obtain⟨p,rfl,k,q⟩:=h;have l:=hr.units;refine⟨_,(ai (aT (i:=1) sc rfl Sort (aj l (bF (af ag (af ag (af ag (af ag (af ag (af (aV cS ag (aE j hr (af (ao 0) (af (aV fq (aV qh ag ag) ag) aa)))) aa))))))) (aE j hr (af (ao 0) (af ag aa)))))
  (ai (aT (i:=2) sc rfl Sort (aV cS ag (aE j hr (af (ao 0) (af ag aa)))))
  (ai (dP (i:=3) sc rfl Sort (N':=eh) (ix:=[none,some 0,some 1]) (cJ rfl T.eu (af (ao 2) aa)) (λ_ _ _ _=>(aP (i:=0) (show(eh:List Str).Nodup by decide +kernel) rfl Sort)) nu (λ_ _ _ _=>(aE j hr (af (ao 1) (af (ao 2) aa)))))
  (ai (dP (i:=4) sc rfl Sort (N':=eh) (ix:=[none,some 0,some 1]) (cJ rfl T.eu (af (aE j hr (af (ao 0) (af ag aa))) aa)) (λ_ _ _ _=>(aP (i:=0) (show(eh:List Str).Nodup by decide +kernel) rfl Sort)) nu (λ_ _ _ _=>(aE j hr (af (ao 1) (af (ao 2) aa)))))
  (ai (dP (i:=5) sc rfl Sort (N':=["_law_k","_law_pot_here","_law_many"]) (ix:=[none,some 0,some 2]) (cJ rfl T.eu (af (aE j hr (af (ao 0) (af ag aa))) aa)) (λ_ _ _ _=>(aP (i:=0) (show(["_law_k","_law_pot_here","_law_many"]:List Str).Nodup by decide +kernel) rfl Sort)) nu (λ_ _ _ _=>(aE mB hr (af (ao 1) (af (ao 2) aa)))))
  (ak (aH (bu (af (ao 1) (af (ao 3) (af (ao 4) (af (ao 5) aa)))))))))))),?_⟩
 right;calc⟨Om,?_⟩;calc dig k SQ Ou λd0 H1 LF Td j=>?_;right;calc⟨∅,λl t=>?_⟩;have T:=j.new (o:=.lst (mods d0)) t;have ZS:l≠p:=Step.ne j.gf t;calc dig T.gf ∅ ⋯ λk H3 l ZU c=>?_;have j:=T.trans c;obtain⟨M,k,CM,oI⟩:=Kt LF Td l ZU;right;calc bx (c.rest _ _ ab ZS) k ?_;right;calc dig j.gf ∅ ⋯ λm T Wu Iu qr=>?_;have N:=j.trans qr;right;calc bC ?_;right;calc ir () () (λD O=>?_);have y:D≠p:=Step.ne N.gf O;refine aY (J:=zY 0 (1+m).toNat) (n:=(1+m).toNat) (λi ys H'=>∃ns:List Int,ys=ns.map V.int/\ns.length=i/\Step p T H'/\(∀z∈ns,0<=z/\z<M)) (L' (aD ())) ⟨[],rfl,rfl,(Step.refl N.gf).new O,λz r=>by simp at r⟩ (λi ys H' a _=>a) (λys H' _=>J' _) ?_ ?_
 ·intro i ys H' a B t gG x H2 gP;nofun;obtain⟨ns,rfl,G,st,hb⟩:=gG;obtain⟨rfl,rfl⟩:=gP;ac_rfl;walk_at "xf";right;rw[if_pos trivial];refine dig st.gf () (GC () oI) λd H3 h3 h4 c=>?_;refine bX (c.rest _ _ B y) t a (L' (aD ())) ⟨ns++[d],nofun,by simp[G],?_,λz r=>?_⟩
  ·exact⟨c.gf.upd (Ne.symm y),λb o e ne=>by rw[ax (au e O)];calc c.rest _ _ (st.rest _ _ e ne) ne⟩
  ·rcases List.mem_append.mp r with g | g
   ·exact hb z g
   ·simp at g;subst g;exact⟨h3,h4⟩
 intro ys H5 en hl5 sM;obtain⟨ns,rfl,G,T,IE⟩:=sM;have fD:H D=none:=N.free O;have j:=N.trans T;calc bC ?_;right;calc dig j.gf ∅ ⋯ λk O h60 h61 l=>?_;have R:=j.trans l;have en6:=l.rest _ _ en y;right;calc ir () () (λS U=>?_);have W:S≠p:=Step.ne R.gf U;refine aY (J:=zY 0 k.toNat) (n:=k.toNat) (λi ys H'=>∃ns:List Int,ys=ns.map V.int/\ns.length=i/\Step p O H'/\(∀z∈ns,0<=z/\z<M)) (L' (aD ())) ⟨[],rfl,rfl,(Step.refl R.gf).new U,λz r=>by simp at r⟩ (λi ys H' a _=>a) (λys H' _=>J' _) ?_ ?_
 ·intro i ys H' a B t zm x H2 zp;nofun;obtain⟨ns,rfl,G,st,hb⟩:=zm;obtain⟨rfl,rfl⟩:=zp;ac_rfl;walk_at "xf";right;rw[if_pos trivial];refine dig st.gf () (GC () oI) λd H3 h3 h4 c=>?_;refine bX (c.rest _ _ B W) t a (L' (aD ())) ⟨ns++[d],nofun,by simp[G],?_,λz r=>?_⟩
  ·exact⟨c.gf.upd (Ne.symm W),λb o e ne=>by rw[ax (au e U)];calc c.rest _ _ (st.rest _ _ e ne) ne⟩
  ·rcases List.mem_append.mp r with g | g
   ·exact hb z g
   ·simp at g;subst g;exact⟨h3,h4⟩
 intro ys H7 er hl7 CP;obtain⟨row,rfl,c,j,Ow⟩:=CP;have T4:H S=none:=R.free U;have k:=R.trans j;have c:=j.rest _ _ en6 y;calc bC ?_;right;calc dig k.gf ∅ ⋯ λl r t N g=>?_;have X:=k.trans g;have en8:=g.rest _ _ c y;have er8:=g.rest _ _ er W;right;calc ir () () (λI Y=>?_);have Uv:I≠p:=Step.ne X.gf Y;have T9:H I=none:=X.free Y;refine aY (J:=zY 0 l.toNat) (n:=l.toNat) (λi ys H'=>∃u:List bf,fc H' 2 ys (u.map bf.dv)/\u.length=i/\(∀Z∈u,Z.ok (1+m))/\Step p r H') (L' (aD ())) ⟨[],fc.nil,rfl,λZ yk=>by simp at yk,(Step.refl X.gf).new Y⟩ (λi ys H' a _=>a) (λys H' _=>J' _) ?_ ?_
 ·intro i ys H' a B xF Ky x H9 Pc;nofun;obtain⟨u,sO,L,Pd,v⟩:=Ky;obtain⟨rfl,rfl⟩:=Pc;ac_rfl;walk_at "xf";right;rw[if_pos trivial];refine⟨p,1 + m,rfl,v.gf,(),(),λg dd c Kz Uw Ux=>?_⟩;have Uy:=Kz.rest _ _ B Uv;have t10:bP c (upd c I (.lst (ys++[g]))):=(bP.refl _).upd λc e=>by rw[Uy] at e;cases e
  refine bX Uy xF a (L' (aD ())) ⟨u++[dd],?_,by simp[L],?_,?_⟩
  ·rw[aar];exact((sO.aA (Kz.aJ v.gf)).snoc Uw).aA t10
  ·intro Z yk;rcases List.mem_append.mp yk with z | z
   ·exact Pd Z z
   ·simp at z;subst z;exact Ux
  ·exact⟨Kz.gf.upd (Ne.symm Uv),λb o e ne=>by rw[ax (au e Y)];calc Kz.rest _ _ (v.rest _ _ e ne) ne⟩
 intro ys H9 g a c;obtain⟨u,sO,L,Pd,v⟩:=c;have i:=X.trans v;right;calc⟨by show 4<=sizeLine;decide,λt c=>?_⟩;have a:=aq.new (.tup [.int M,.ref D,.ref S,.ref I]) c;calc q t D S I ys M ns row u _ (i.new c) ab (a _ _ (v.rest _ _ en8 y)) (a _ _ (v.rest _ _ er8 W)) (a _ _ g) (sO.aA a.aJ) fD T4 T9 ⟨CM,oI,(),(),(),IE,Ow,(),λd j=>?_⟩;rw[G];have e:(((1+m).toNat:Nat):Int)=1+m:=by lia
 rw[e];calc Pd d j
abbrev kJ:Stmt:=top 59
inductive GD(vs:List V)(H:Hp)(Q:VK):Prop
 |mk (x:V) (st an ar:Addr) (way said M:Int) (v:Val) (ns row:List Int) (n:Nat) (h0:vs=[x,.ref st,.int way,.int said,.int M]) (h1:HT H n x (Val.dv v)) (h2:H st=some (.tup [.ref an,.ref ar])) (h3:H an=some (.lst (ns.map V.int))) (h4:H ar=some (.lst (row.map V.int))) (h5:v.ok ns.length) (h6:0<M) (h7:row.length<=12) (h8:∀H',aq H H'->Q (.int (fu M way said ns row v)) H'):GD vs H Q
def Br:Sp:=λvs H Q _=>GD vs H Q
theorem xO(D:cL K mg "_law_worth" "_law_worth" kJ bO)(T:Tx K mg C CN CR F FD):Def P w K mg base "_law_worth" 1 bO Br:=by
 exists["_law_value_here","_law_state","_law_way","_law_said","_law_modulus","_law_worth_here"];obtain⟨x,st,a,X,way,c,M,v,ns,row,n,rfl,g,O,Y,o,R,k,Z,q⟩:=h;have a:=hr.units;refine⟨_,(ai (aT (i:=5) sc rfl Sort (ao 2))
  (ai (aS (az (aQ a) (aj a (ao 0) ag) aB (aG _)) (ak (aT (i:=5) sc rfl Sort (aj a (ao 0) ag))) aI)
  (ai (aS (az (aQ a) (aj a (ao 0) ag) aB (aG _)) (ak (aT (i:=5) sc rfl Sort (aj a (aj a (ao 1) ag) (aj a (ao 0) ag)))) aI)
  (ai (aS (az (aQ a) (aj a (ao 0) ag) aB (aG _)) (ak (aT (i:=5) sc rfl Sort (ao 3))) aI)
  (ai (aS (az (aQ a) (aj a (ao 0) ag) aB (aG _)) (ak (aT (i:=5) sc rfl Sort (aj a (aV cS (dD (N':=["_law_k","_law_state"]) (ix:=[none,some 1]) (cJ rfl T.eu (af (aZ aN rfl T.bV T' (af (aj a (ao 1) ag) aa)) aa)) (λ_ _ _ _=>(aP (i:=0) (show(["_law_k","_law_state"]:List Str).Nodup by decide +kernel) rfl Sort)) nu (λ_ _ _ _=>(bW (K:=K) rfl a (bW (K:=K) rfl a (ao 1) ag) (ao 0)))) (bF (af ag aa))) ag))) aI)
  (ak (aH (aV cD (ao 5) (ao 4))))))))),?_⟩
 left
 cases v with
 |is z=>
  nofun;obtain⟨p,t,w2,u,rfl,y,d,I⟩:=dH g;obtain rfl:=d.cE;obtain rfl:=I.cj;ac_rfl;walk_at "jg";exact⟨k,q H (aq.refl H)⟩
 |number i=>
  nofun;obtain⟨p,t,w2,u,rfl,y,d,I⟩:=dH g;obtain rfl:=d.cE;obtain rfl:=I.cj;obtain⟨L,a⟩:=R;obtain⟨j,rfl⟩:=aa1 L;ac_rfl;have S:j<ns.length:=by lia
  have a:iG (ns.map V.int) (j:Int)=some (.int ns[j]):=av (by rw[A',bU S];rfl);walk_at "jg";have a:=q H (aq.refl H);have N:fu M way c ns row (.number j)=ns[j]%M:=by
   show ns.getD (j:Int).toNat 0%M=_;simp[List.getD_eq_getElem?_getD,bU S]
  rw[N]at a;calc⟨k,a⟩
 |first=>
  nofun;obtain⟨p,t,u,rfl,y,d⟩:=iH g;obtain rfl:=d.cE;ac_rfl;walk_at "jg"
  skip
  walk_at "jg";refine bL _ (.inl ⟨_,aO.of o,rfl⟩) ?_;left;have a:(row.map V.int).length=row.length:=by simp
  rw[a];calc ir () () (λD U=>?_);refine aY (J:=zY 0 row.length) (n:=row.length) (λi ys H'=>ys=(row.take i).map V.int/\aq H H') (L' (aD ())) ⟨rfl,aq.new _ U⟩ (λi ys H' l _=>l) (λys H' _=>J' _) ?_ ?_
  ·intro i ys H' l B G gG x H2 gP;nofun;obtain⟨rfl,m⟩:=gG;obtain⟨rfl,rfl⟩:=gP;ac_rfl;walk_at "xf";have a:=m _ _ O;have ZW:=m _ _ o;walk_at "jg"
   try rw[if_pos trivial]
   calc bx ZW (show iG (row.map V.int) (0+(i:Int))=some (.int row[i]) from by rw[Int.zero_add];calc av (by rw[A',bU l];rfl)) ?_;calc bX B G l (L' (aD ())) ⟨?_,λb o e=>by rw[ax (au e U)];calc m _ _ e⟩;rw[abn,bU l,aar];rfl
  rintro ys H1 B G ⟨rfl,m⟩;rw[aax]at B;walk_at "jg";refine⟨∅,λl G=>?_⟩;have W:=aq.new (.lst [.int 0]) G;walk_at "jg";refine .inl ⟨_,_,W _ _ B,ab,L' (aD (by simp;lia)),λi a=>?_⟩;have s3:=aq.new (.lst (row.map V.int++[.int 0])) a;have N:iG (row.map V.int++[.int 0]) 0=some (.int (qV ns row way c .first)):=by
   cases row with
   |nil=>calc av (j:=0) rfl
   |cons r a=>exact av (j:=0) rfl
  left;refine bx ab N ?_;walk_at "jg";exact⟨k,q _ (m.trans (W.trans s3))⟩
 |lZ=>
  nofun;obtain⟨p,t,u,rfl,y,d⟩:=iH g;obtain rfl:=d.cE;ac_rfl;walk_at "jg";exact⟨k,q _ (aq.refl H)⟩
 |way=>
  nofun;obtain⟨p,t,u,rfl,y,d⟩:=iH g;obtain rfl:=d.cE;ac_rfl;walk_at "jg";exact⟨k,q _ (aq.refl H)⟩
def L8(M way said:Int):Nat->List bf->WS->WS
 |_,[],s=>s
 |l+1,_::r,s=>L8 M way said l r s
 |0,d::r,s=>L8 M way said (lS M way said d s).toNat r (j2 M way said d s)
theorem vt{M way said:Int}:∀(b:List bf) (l:Nat) (s:WS) (f:Nat),b.length<=f->L8 M way said l b s=wR M way said f (b.drop l) s
 | [],l,s,f,_=>by rw[List.drop_nil,AF];cases l<;>rfl
 |d::r,l+1,s,f,h=>by
  show L8 M way said l r s=wR M way said f (r.drop l) s;calc vt r l s f (by simp at h;lia)
 |d::r,0,s,f,h=>by
  obtain⟨a,rfl⟩:∃a,f=a+1:=⟨f-1,by simp at h;lia⟩
  show L8 M way said (lS M way said d s).toNat r (j2 M way said d s)=wR M way said a (r.drop (lS M way said d s).toNat) (j2 M way said d s);calc vt r _ _ a (by simp at h;lia)
theorem GG{M way said:Int}{a:List bf}:L8 M way said 0 a ⟨ns,row,[],[]⟩=nj M way said a ns row:=vt a 0 _ _ (J' _)
inductive KA(H:Hp)(mt:Addr)(st:V)(way said M:Int)(ds:List bf)(ns row:List Int)(i:Nat)(σ:St)(H':Hp):Prop
 |mk (an ar gA aw:Addr) (zs:List V) (z9 OD:Option V) (l:Nat) (s:WS) (h0:σ=[some (.ref mt),some st,some (.int way),some (.int said),some (.ref an),some (.ref ar),some (.ref gA),some (.ref aw),some (.int ((l:Nat):Int)),z9,OD]) (h1:aq H H') (a1:H an=none) (a2:H ar=none) (a3:H gA=none) (a4:H aw=none) (n1:an≠ar) (n2:an≠gA) (n3:an≠aw) (n4:ar≠gA) (n5:ar≠aw) (n6:gA≠aw) (e1:H' an=some (.lst (s.ns.map V.int))) (e2:H' ar=some (.lst (s.row.map V.int))) (e3:H' gA=some (.lst zs)) (zC:SL H' zs s.cu) (e5:H' aw=some (.lst (s.words.map V.int))) (ID:s.ns.length=ns.length) (IE:∀z∈s.ns,0<=z/\z<M) (xE:s.row.length<=12) (IF:s.cu.length<=i) (Wv:s.words.length<=i) (mX:L8 M way said l (ds.drop i) s=nj M way said ds ns row):KA H mt st way said M ds ns row i σ H'
inductive GH(K:W.Frag)(vs:List V)(H:Hp)(Q:VK):Prop
 |mk (mt ln lr ld:Addr) (st:V) (way said M:Int) (xs:List V) (ds:List bf) (ns row:List Int) (h0:vs=[.ref mt,st,.int way,.int said]) (UA:H mt=some (.tup [.int M,.ref ln,.ref lr,.ref ld])) (h1:H ld=some (.lst xs)) (h2:fc H 2 xs (ds.map bf.dv)) (h3:wU K H st ns row) (h5:2<=M) (h6:M<=1000000000000) (h7:∀z∈ns,0<=z/\z<M) (h9:row.length<=12) (LF:ds.length<=24) (Td:∀d∈ds,d.ok ns.length) (h13:∀x H',aq H H'->Res H H' x (nj M way said ds ns row)->Q x H'):GH K vs H Q
theorem Pf{xs:List V}:dq xs none (some 12)=xs.take 12:=by
 unfold dq;have a:HT.dY xs.length 0 none=0:=rfl;rw[a];have b:HT.dY xs.length xs.length (some 12)=min 12 xs.length:=by
  unfold HT.dY;simp
 rw[b,List.drop_zero,Nat.sub_zero];by_cases h:xs.length<=12
 ·rw[Nat.min_eq_right h,aax,aa3 h]
 ·rw[Nat.min_eq_left ()]
theorem UB{xs:List V}:dq xs (some 1) none=xs.tail:=by
 unfold dq;have b:HT.dY xs.length xs.length none=xs.length:=rfl;rw[b]
 cases xs with
 |nil=>simp
 |cons a r=>
  have b:HT.dY (a::r).length 0 (some 1)=1:=by
   unfold HT.dY;simp
  rw[b];simp
theorem Bs{α:Type}{l m:List α}{i:Nat}(h:l.length<=i)(h':m.length<=1):(l++m).length<=i+1:=by rw[aac];lia
theorem KC{x:Int}(h:row.length<=12):dq (row.map V.int++[x].map V.int) none (some 12)=(if row.length<12 then row++[x] else row).map V.int:=by
 rw[Pf,<-aar,<-List.map_take];split
 ·rw[aa3 (by simp;lia)]
 ·rw[List.take_append_of_le_length (),aa3 h]
abbrev jK:Stmt:=top 60
def Bt(K:W.Frag):Sp:=λvs H Q _=>GH K vs H Q
theorem vv(D:cL K mg "_law_worked" "_law_worked" jK cz)(T:Tx K mg C CN CR F FD)(kK:Def P w K mg base "_law_worth" 1 bO Br):Def P w K mg base "_law_worked" 2 cz (Bt K):=by
 exists["_law_machine_here","_law_state","_law_way","_law_said","_law_numbers","_law_row","_law_sent","_law_words","_law_left","_law_deed_here","_law_worths"];obtain⟨mt,g,lr,ld,st,k,a,M,xs,U,ns,row,rfl,UA,Te,sO,tE,CM,oI,hb,nv,LC,aU,q⟩:=h;have g:=hr.units;refine⟨_,(ai (aT (i:=4) sc rfl Sort (cQ b4 rfl T.dI vX (af (aj g (ao 1) ag) aa)))
  (ai (aT (i:=5) sc rfl Sort (cQ b4 rfl T.dI vX (af (aj g (ao 1) ag) aa)))
  (ai (aT (i:=6) sc rfl Sort (bF aa))
  (ai (aT (i:=7) sc rfl Sort (bF aa))
  (ai (aT (i:=8) sc rfl Sort ag)
  (ai (eI PassesOwn.never rfl (bR (aj g (ao 0) ag)) (aP (i:=9) sc rfl Sort)
  (ai (dP (i:=10) sc rfl Sort (N':=eo) (ix:=[none,some 2,some 3,some 4,some 5,some 0]) (bR (pv 9)) (λ_ _ _ _=>(aP (i:=0) (show(eo:List Str).Nodup by decide +kernel) rfl Sort)) (λ_ _ _ _=>(gC (bN (aZ (t9 (K:=K) rfl) rfl T.bg yx (af (ao 0) (af (di (v:=.ty "tuple") rfl T.ck tm rfl) aa)))))) (λ_ _ _ _=>(aE kK hr (af (ao 0) (af (bu (af (ao 3) (af (ao 4) aa))) (af (ao 1) (af (ao 2) (af (bW (K:=K) rfl g (ao 5) ag) aa))))))))
  (ak (aS (az om (ao 8) ag (aG _)) (ak (aT (i:=8) sc rfl Sort (aV fq (ao 8) ag))) (ak (aS (az (aQ g) (aj g (ao 9) ag) aB (aG _)) (ak (ff (aj g (ao 10) ag) (iF (ao 4) (aj g (ao 9) ag) dW))) (ak (aS (az (aQ g) (aj g (ao 9) ag) aB (aG _)) (ak (ff (aV cD (aV cS (aj g (ao 4) (aj g (ao 9) ag)) (aj g (ao 10) ag)) (aj g (ao 0) ag)) (iF (ao 4) (aj g (ao 9) ag) dW))) (ak (aS (az (aQ g) (aj g (ao 9) ag) aB (aG _)) (ak (ff (aV cD (aV jB (aj g (ao 4) (aj g (ao 9) ag)) (aj g (ao 10) ag)) (aj g (ao 0) ag)) (iF (ao 4) (aj g (ao 9) ag) dW))) (ak (aS (az (aQ g) (aj g (ao 9) ag) aB (aG _)) (ak (aT (i:=5) sc rfl Sort (lY (aV cS (ao 5) (ao 10)) jz (fm ag)))) (ak (aS (az (aQ g) (aj g (ao 9) ag) aB (aG _)) (ak (aT (i:=5) sc rfl Sort (lY (ao 5) (fm ag) jz))) (ak (aS (az (aQ g) (aj g (ao 9) ag) aB (aG _)) (ak (bS (du nS qy qz b8 (ao 6) (af (bu (af (aj g (ao 9) ag) (af (aj g (ao 10) ag) aa))) aa)))) (ak (aS (az (aQ g) (aj g (ao 9) ag) aB (aG _)) (ak (bS (du nS qy qz b8 (ao 7) (af (aj g (ao 10) ag) aa)))) (ak (aS (az gp (aj g (ao 10) ag) (aj g (ao 10) ag) (aG _)) (ak (aT (i:=8) sc rfl Sort (aj g (ao 9) ag))) aI))))))))))))))))))))
  (ak (aH (bu (af (bu (af (cQ cn rfl T.ck tm (af (ao 4) aa)) (af (cQ cn rfl T.ck tm (af (ao 5) aa)) aa))) (af (ao 6) (af (ao 7) aa)))))))))))),?_⟩
 obtain⟨sa,sb,Tf,rfl,g,T,YK⟩:=tE;have IC:0<M:=by lia
 left;calc cp g rfl ?_;left;calc bL _ T (λB OE=>?_);have s1:=aq.new (.lst (ns.map V.int)) OE;left;calc cp (s1 _ _ g) rfl ?_;left;have T:aO K (upd H B (.lst (ns.map V.int))) Tf (row.map V.int)\/bq K (upd H B (.lst (ns.map V.int))) Tf (row.map V.int):=YK.elim (λz=>.inl (s1.seq z)) (λz=>.inr (s1.Qo z));calc bL _ T (λN CY=>?_);have s2:=aq.new (.lst (row.map V.int)) CY;left;calc⟨aav _,λG oO=>?_⟩;have m:=aq.new (.lst []) oO;left;calc⟨aav _,λI mi=>?_⟩;have s4:=aq.new (.lst []) mi;left;have YL:N≠B:=λz=>by subst z;rw[ab]at CY;cases CY
 have YM:H N=none:=s1.free CY;have YN:H G=none:=(s1.trans s2).free oO;have YO:H I=none:=(s1.trans (s2.trans m)).free mi;have YQ:G≠B:=λz=>by subst z;rw[s2 _ _ ab]at oO;cases oO
 have YR:G≠N:=λz=>by subst z;rw[ab]at oO;cases oO
 have YS:I≠B:=λz=>by subst z;rw[m _ _ (s2 _ _ ab)]at mi;cases mi
 have YT:I≠N:=λz=>by subst z;rw[m _ _ ab]at mi;cases mi
 have YU:I≠G:=λz=>by subst z;rw[ab]at mi;cases mi
 have g:=s1.trans (s2.trans (m.trans s4));have exs:xs.length=U.length:=by simpa using sO.1
 refine cp (g _ _ UA) (av (j:=3) rfl) (.inl ⟨⟨_,aO.of (g _ _ Te)⟩,gM (K:=K) (xs:=xs) (KA H mt (.ref sa) k a M U ns row) ?_ ?_ ?_ ?_⟩)
 ·refine⟨B,N,G,I,[],none,none,0,⟨ns,row,[],[]⟩,rfl,g,OE,YM,YN,YO,Ne.symm YL,Ne.symm YQ,Ne.symm YS,Ne.symm YR,Ne.symm YT,Ne.symm YU,s4 _ _ (m _ _ (s2 _ _ ab)),s4 _ _ (m _ _ ab),s4 _ _ ab,⟨rfl,λi z p e=>by simp at e⟩,ab,rfl,hb,nv,J' _,J' _,GG⟩
 ·intro i σ H1 hi gG;obtain⟨B,N,G,I,zs,z9,OD,l,s,rfl,sH,_⟩:=gG;exact aO.of (sH _ _ Te)
 ·intro i x σ H1 hxi gP;nofun;obtain⟨B,N,G,I,zs,z9,OD,l,s,rfl,sH,a1,a2,a3,a4,n1,n2,n3,n4,n5,n6,L,X,O,zC,R,ID,IE,xE,IF,Wv,Y⟩:=gP;have q9:i < U.length:=by rw[<-exs];exact(List.getElem?_eq_some_iff.mp hxi).1
  have j3:=aU U[i] (aan q9);have hx:=(sO.2 i x (bf.dv U[i]) hxi (by rw[A',bU q9];rfl)).aA sH.aJ;have Qw:U.drop i=U[i]::U.drop (i+1):=List.drop_eq_getElem_cons q9;generalize hdd:U[i]=d at j3 hx Qw;rw[Qw]at Y;obtain⟨pa,xp,os,k0,rfl,WJ,uP,Pg,IK⟩:=A8 hx;ac_rfl;left;calc bC ?_;left;calc .inr ⟨⟨_,bq.of WJ⟩,λD hD=>?_⟩;have Js:=xB (d:=d);refine aY (J:=Rz K pa) (n:=xp.length) (λi ys H'=>ys=(((os.take i).filterMap id).map (fu M k a s.ns s.row)).map V.int/\aq H1 H') (L' (aD ())) ⟨rfl,aq.new _ hD⟩ ?_ ?_ ?_ ?_
  ·rintro i ys H' hi ⟨_,m⟩;exact⟨_,xp[i],bq.of (m _ _ WJ),bU hi⟩
  ·rintro ys H' ⟨_,m⟩;exact⟨_,bq.of (m _ _ WJ),J' _⟩
  ·intro i ys S hi bD xF sM y H4 zm;nofun;obtain⟨rfl,m⟩:=sM;obtain⟨rfl,g⟩:=zm;have T:=g _ (bq.of (m _ _ WJ));obtain⟨o,ho,F8⟩:=uP.get T;ac_rfl;have xu:os.take (i+1)=os.take i++[o]:=by
    rw[List.take_add_one,ho];rfl
   walk_at "xf";left;rcases F8 with⟨rfl,hc⟩|⟨v,rfl,YE⟩
   ·have YF:∃t,gm K H4 y t/\W.kitOne K t (.type "tuple")=some false:=by
     rcases hc with⟨w,rfl⟩|⟨j,rfl⟩
     ·exact⟨_,.str w,rfl⟩
     ·exact⟨_,.int j,rfl⟩
    obtain⟨t,h1,h2⟩:=YF;refine cT t false h1 h2 ?_
    first|calc⟨false,rfl,?_⟩|skip
    left
    try rw[if_neg M']
    exact⟨_,bD,(),by rw[xu];simp,m⟩
   ·have F9:=YE.aA m.aJ;obtain⟨b,II,rfl,gx⟩:=AG F9;refine cT _ true (.tup gx) rfl ?_
    first|calc⟨true,rfl,?_⟩|skip
    left
    try first|rw[if_pos rfl]|rw[if_pos trivial]
    have y:v.ok ns.length:=nz j3 v (by rw[<-Pg];calc List.mem_filterMap.mpr ⟨some v,aai ho,rfl⟩);left;calc⟨cR,λT t=>?_⟩;have g:=aq.new (.tup [.ref B,.ref N]) t;calc cp (g _ _ (m _ _ (sH _ _ UA))) (av (j:=0) rfl) ?_;calc⟨.ref b,T,B,N,k,a,M,v,s.ns,s.row,k0,rfl,F9.aA g.aJ,ab,g _ _ (m _ _ L),g _ _ (m _ _ X),by rw[ID];calc y,IC,xE,λH5 t=>?_⟩;calc bX (t _ _ (g _ _ bD)) xF hi (L' (aD ())) ⟨?_,λc o e=>by rw[ax (au e hD)];calc t _ _ (g _ _ (m _ _ e))⟩;rw[xu,List.filterMap_append,aar,aar];rfl
  rintro ys S bD xF ⟨rfl,m⟩;rw[uP.len,aax,Pg]at bD;have DA:H1 D=none:=hD;nofun;generalize g:d.vals.map (fu M k a s.ns s.row)=ws at bD;have jw:ws.length=d.vals.length:=by rw[<-g];simp
  have Tj:0<=ws.getD 0 0/\ws.getD 0 0<M:=by rw[<-g];exact ur IC
  have Bg:j2 M k a d s=⟨jl M s.ns (ws.getD 0 0) d,nh s.row (ws.getD 0 0) d,s.cu++gN (ws.getD 0 0) d,s.words++fK (ws.getD 0 0) d⟩:=by rw[<-g];rfl
  have Bh:lS M k a d s=ni (ws.getD 0 0) (ws.getD 1 0) d:=by rw[<-g];rfl
  have g:∀{b:Addr} {o:HO},H1 b=some o->b≠D:=λe=>au e DA;have nV:aq H S:=sH.trans m;have IA:=hx.aA m.aJ;have vz:=zC.aA m.aJ;have t:B≠D:=g L;have t:N≠D:=g X;have t:G≠D:=g O;have t:I≠D:=g R;have nPs:∀{b:Addr} {ys zs:List V},S b=some (.tup ys)->∀{c:Addr},S c=some (.lst zs)->b≠c:=λh1 _ h2 z=>by subst z;rw[h1]at h2;cases h2
  have ZX:=nV _ _ UA
  replace L:=m _ _ L
  replace X:=m _ _ X
  replace O:=m _ _ O
  replace R:=m _ _ R
  ac_rfl;clear uP Pg IK Js xF hx
  cases l with
  |succ l=>
   left;rw[if_pos nofun];left;calc⟨B,N,G,I,zs,some (.ref pa),some (.ref D),l,s,?_,nV,a1,a2,a3,a4,n1,n2,n3,n4,n5,n6,L,X,O,vz,R,ID,IE,xE,(),(),Y⟩;have:((l+1:Nat):Int)-1=((l:Nat):Int):=by lia
   rw[this]
  |zero=>
  replace Y:L8 M k a (lS M k a d s).toNat (U.drop (i+1)) (j2 M k a d s)=nj M k a U ns row:=Y
  rw[Bg,Bh]at Y;left
  try rw[if_neg nofun]
  have g:((ns.length:Nat):Int)=s.ns.length:=by rw[ID]
  have Z:∀H6 L9 II n' r' ZY w' (k':Nat),rB M s.ns s.row (ws.getD 0 0) (ws.getD 1 0) d=(n',r',ZY,w',((k':Nat):Int))->aq H H6->H L9=none->B≠L9->L9≠G->L9≠I->H6 B=some (.lst (n'.map V.int))->H6 L9=some (.lst (r'.map V.int))->H6 G=some (.lst II)->SL H6 II (s.cu++ZY)->H6 I=some (.lst ((s.words++w').map V.int))->KA H mt (.ref sa) k a M U ns row (i+1) [some (.ref mt),some (.ref sa),some (.int k),some (.int a),some (.ref B),some (.ref L9),some (.ref G),some (.ref I),some (.int ((k':Nat):Int)),some (.ref pa),some (.ref D)] H6:=by
   clear bD IA vz L X O R ZX nPs;intro H6 L9 II n' r' ZY w' k' E f0 f1 f2 f3 f4 f5 f6 f7 f8 f9;simp only[rB,Prod.mk.injEq]at E;obtain⟨rfl,rfl,rfl,rfl,E⟩:=E;rw[E,X']at Y;have g:=xC (w:=ws.getD 0 0) (d:=d);exact⟨B,L9,G,I,II,_,_,k',⟨_,_,_,_⟩,rfl,f0,a1,f1,a3,a4,f2,n2,n3,f3,f4,n6,f5,f6,f7,f8,f9,ou.trans ID,Bf (d:=d) IC IE Tj,Gi (d:=d) xE,Bs IF g.1,Bs Wv g.2,Y⟩
  have zz:∀r x,rB M s.ns s.row (ws.getD 0 0) (ws.getD 1 0) d=(s.ns.set r x,s.row,[],[],0)->KA H mt (.ref sa) k a M U ns row (i+1) [some (.ref mt),some (.ref sa),some (.int k),some (.int a),some (.ref B),some (.ref N),some (.ref G),some (.ref I),some (.int 0),some (.ref pa),some (.ref D)] (upd S B (.lst ((s.ns.map V.int).set r (.int x)))):=λr x E=>by
   have t6:bP S (upd S B (.lst ((s.ns.map V.int).set r (.int x)))):=(bP.refl _).upd λys e=>by rw[L]at e;cases e
   exact Z _ N zs _ _ _ _ 0 E (λb o e=>by rw[ax (au e a1)];calc nV _ _ e) a2 n1 n4 n5 (by rw[ab,List.map_set]) (by rw[ax (Ne.symm n1)];calc X) (by rw[ax (Ne.symm n2)];calc O) (by rw[Y'];calc vz.aA t6) (by rw[ax (Ne.symm n3),Y'];calc R)
  have JD:=uq IA j3;clear IA j3 Y Bg Bh;have LD:∀r:Nat,((r:Nat):Int)<ns.length->yP (s.ns.map V.int).length ((r:Nat):Int)=some r/\iG (s.ns.map V.int) ((r:Nat):Int)=some (.int (s.ns.getD r 0)):=λr hj=>⟨ny (by rw[R'];lia),gT ()⟩
  cases JD with
  |set r u hj ha hl E=>
   have Bc:=gT (ws:=ws) (j:=0) ();obtain⟨x1,x2⟩:=LD r hj;walk_at "jg";refine cT _ r L x1 ?_;exact zz _ _ (E _ _ _ _ _)
  |add r u hj ha hl E=>
   have Bc:=gT (ws:=ws) (j:=0) ();obtain⟨x1,x2⟩:=LD r hj;walk_at "jg";refine⟨IC,?_⟩;walk_at "jg";refine cT _ r L x1 ?_;exact zz _ _ (E _ _ _ _ _)
  |times r u hj ha hl E=>
   have Bc:=gT (ws:=ws) (j:=0) ();obtain⟨x1,x2⟩:=LD r hj;walk_at "jg";have g:=Ba IE (j:=r) ();refine⟨.inl ⟨(),()⟩,?_⟩;walk_at "jg";refine⟨IC,?_⟩;walk_at "jg";refine cT _ r L x1 ?_;exact zz _ _ (E _ _ _ _ _)
  |put u ha hl E=>
   obtain⟨g,ZZ⟩:=YD (jw.trans hl);walk_at "jg";refine .inl ⟨_,_,X,bD,L' (aD (by simp;lia)),λg qG=>?_⟩;have s6:=aq.new (.lst (s.row.map V.int++ws.map V.int)) qG;walk_at "jg";refine .inl ⟨_,ab,λl3 Bq=>?_⟩;have s7:=aq.new (.lst (dq (s.row.map V.int++ws.map V.int) none (some 12))) Bq;have g:=s6.trans s7;have f3:S l3=none:=s6.free Bq;exact Z _ l3 zs _ _ _ _ 0 (E _ _ _ _ _) (nV.trans g) (nV.free f3) (au L f3) (Ne.symm (au O f3)) (Ne.symm (au R f3)) (g _ _ L) (by rw[ab,ZZ];exact congrArg (λz=>some (HO.lst z)) (KC xE)) (g _ _ O) (by rw[Y'];exact vz.aA g.aJ) (by rw[Y'];exact g _ _ R)
  |drop ha E=>
   walk_at "jg";refine .inl ⟨_,X,λl3 Bq=>?_⟩;have s7:=aq.new (.lst (dq (s.row.map V.int) (some 1) none)) Bq;exact Z _ l3 zs _ _ _ _ 0 (E _ _ _ _ _) (nV.trans s7) (nV.free Bq) (au L Bq) (Ne.symm (au O Bq)) (Ne.symm (au R Bq)) (s7 _ _ L) (by rw[ab,UB,List.map_tail]) (s7 _ _ O) (by rw[Y'];exact vz.aA s7.aJ) (by rw[Y'];exact s7 _ _ R)
  |send j u ha hl E=>
   have Bc:=gT (ws:=ws) (j:=0) ();walk_at "jg";refine⟨.inl ⟨rfl,_,aO.of O⟩,?_⟩;walk_at "jg";refine⟨cR,λtp IJ=>?_⟩;have s6:=aq.new (.tup [.int j,.int (ws.getD 0 0)]) IJ;walk_at "jg";refine gO _ (s6 _ _ O) (abm (by have:=zC.1;lia) (aD (n:=100) ())) ?_;have t6:bP (upd S tp (.tup [.int j,.int (ws.getD 0 0)])) (upd (upd S tp (.tup [.int j,.int (ws.getD 0 0)])) G (.lst (zs++[.ref tp]))):=(bP.refl _).upd λys e=>by rw[s6 _ _ O]at e;cases e
   have q6:∀b o,b≠G->S b=some o->upd (upd S tp (.tup [.int j,.int (ws.getD 0 0)])) G (.lst (zs++[.ref tp])) b=some o:=λb o ne e=>by rw[ax ne];exact s6 _ _ e
   calc Z _ N _ _ _ _ _ 0 (E _ _ _ _ _) (λb o e=>q6 b o (au e a3) (nV _ _ e)) a2 n1 n4 n5 (q6 _ _ n2 L) (q6 _ _ n4 X) ab ((vz.aA (s6.aJ.trans t6)).snoc (dy (n:=0) (t6 _ _ ab) (.int _) (.int _))) (by rw[Y'];calc q6 _ _ (Ne.symm n6) R)
  |say u ha hl E=>
   have Bc:=gT (ws:=ws) (j:=0) ();walk_at "jg";refine⟨.inl ⟨rfl,_,aO.of R⟩,?_⟩;walk_at "jg";refine gO _ R (abm (by simp;lia) (aD (n:=100) ())) ?_;have t6:bP S (upd S I (.lst (s.words.map V.int++[.int (ws.getD 0 0)]))):=(bP.refl _).upd λys e=>by rw[R]at e;cases e
   have q6:∀b o,b≠I->S b=some o->upd S I (.lst (s.words.map V.int++[.int (ws.getD 0 0)])) b=some o:=λb o ne e=>by rw[ax ne];exact e
   calc Z _ N zs _ _ _ _ 0 (E _ _ _ _ _) (λb o e=>q6 b o (au e a4) (nV _ _ e)) a2 n1 n4 n5 (q6 _ _ n3 L) (q6 _ _ n5 X) (q6 _ _ n6 O) (by rw[Y'];calc vz.aA t6) (by rw[ab,aar];rfl)
  |skip u v kk ha hl E=>
   have Bc:=gT (ws:=ws) (j:=0) ();have g:=gT (ws:=ws) (j:=1) ();have E:=E M s.ns s.row (ws.getD 0 0) (ws.getD 1 0);walk_at "jg";by_cases KD:ws.getD 0 0<ws.getD 1 0
   ·rw[if_pos KD]at E;left;rw[if_pos (aaj KD)];walk_at "jg";exact Z _ N zs _ _ _ _ kk E nV a2 n1 n4 n5 L X O (by rw[Y'];exact vz) (by rw[Y'];exact R)
   ·rw[if_neg KD]at E;left;rw[if_neg λz=>KD (aaD z)];walk_at "jg";exact Z _ N zs _ _ _ _ 0 E nV a2 n1 n4 n5 L X O (by rw[Y'];exact vz) (by rw[Y'];exact R)
 ·intro σ H1 zp;obtain⟨B,N,G,I,zs,z9,OD,l,s,rfl,sH,a1,a2,a3,a4,n1,n2,n3,n4,n5,n6,L,X,O,zC,R,ID,IE,xE,IF,Wv,Y⟩:=zp;rw[exs,List.drop_length] at Y;have Y:s=nj M k a U ns row:=by rw[<-Y];cases l <;> rfl
  left;calc .inl ⟨_,aO.of L,λa g=>?_⟩;have i:=aq.new (.tup (s.ns.map V.int)) g;left;calc .inl ⟨_,aO.of (i _ _ X),λk l=>?_⟩;have j:=aq.new (.tup (s.row.map V.int)) l;left;calc⟨cR,λm o=>?_⟩;have g:=aq.new (.tup [.ref a,.ref k]) o;left;calc⟨by show 3<=sizeLine;decide,λr l=>?_⟩;have k:=aq.new (.tup [.ref m,.ref G,.ref I]) l;have a:=i.trans (j.trans (g.trans k));refine q _ _ (sH.trans a) ⟨_,_,G,I,zs,rfl,ab,?_,a _ _ O,?_,?_,a3,a4,n6⟩
  ·rw[<-Y];exact(dy ab (ng (g _ _ (j _ _ ab))) (ng (g _ _ ab))).aA k.aJ
  ·rw[<-Y];exact zC.aA a.aJ
  ·rw[<-Y];calc a _ _ R
def iV(H:Hp)(x:V)(M:Int)(ns row:List Int)(d:List bf):Prop:=∃t a b c xs,x=.ref t/\H t=some (.tup [.int M,.ref a,.ref b,.ref c])/\H a=some (.lst (ns.map V.int))/\H b=some (.lst (row.map V.int))/\H c=some (.lst xs)/\fc H 2 xs (d.map bf.dv)
theorem iV.cv{x:V}{M:Int}{a:List bf}(s:Cv H H')(h:iV H x M ns row a):iV H' x M ns row a:=by
 obtain⟨t,a,b,c,d,e,f,g,i,j,l⟩:=h;calc⟨t,a,b,c,d,e,s _ _ f (λk z=>by cases z),s _ _ g (λk z=>by cases z),s _ _ i (λk z=>by cases z),s _ _ j (λk z=>by cases z),l.aA s.aJ⟩
def zM(H:Hp)(mv:List V)(gF:List MD):Prop:=mv.length=gF.length/\∀(i:Nat) v d,mv[i]?=some v->gF[i]?=some d->iV H v d.M d.ns d.row d.ds
theorem zM.cv(s:Cv H H')(h:zM H mv gF):zM H' mv gF:=⟨h.1,λi v d a b=>(h.2 i v d a b).cv s⟩
def ToldN(H:Hp)(x:V)(gF:List MD)(ws:List (Int×Int×Str))(ls:List (Int×Int)):Prop:=∃t a b c mv wv d,x=.ref t/\H t=some (.tup [.ref a,.ref b,.ref c])/\H a=some (.lst mv)/\H b=some (.lst wv)/\H c=some (.lst d)/\zM H mv gF/\fc H 1 wv (ws.map jr)/\fc H 1 d (ls.map mh)
theorem ToldN.cv{x:V}(s:Cv H H')(h:ToldN H x gF ws ls):ToldN H' x gF ws ls:=by
 obtain⟨t,a,b,c,mv,wv,d,e,f,g,i,j,l,m,n⟩:=h;calc⟨t,a,b,c,mv,wv,d,e,s _ _ f (λk z=>by cases z),s _ _ g (λk z=>by cases z),s _ _ i (λk z=>by cases z),s _ _ j (λk z=>by cases z),l.cv s,m.aA s.aJ,n.aA s.aJ⟩
def IS(a:V)(ev:Addr)(o:Nat->Addr):List (Key×V):=[(.inr "net",a),(.inr "put",.ref (o 4)),(.inr "sender",.ref (o 5)),(.inr "worker",.ref (o 6)),(.inr "states",.ref (o 1)),(.inr "words",.ref (o 2)),(.inr "heard",.ref (o 3)),(.inr "events",.ref ev)]
section
variable {H:Hp}{d:Addr}{tn:V}{ev:Addr}{o:Nat->Addr}
theorem De(h:H d=some (.dK (IS tn ev o))):jA H d (.str "net") (some tn):=.inl ⟨_,.inr "net",.inl h,rfl,by kernel_rfl⟩
theorem KG(h:H d=some (.dK (IS tn ev o))):jA H d (.str "put") (some (.ref (o 4))):=.inl ⟨_,.inr "put",.inl h,rfl,by kernel_rfl⟩
theorem KH(h:H d=some (.dK (IS tn ev o))):jA H d (.str "sender") (some (.ref (o 5))):=.inl ⟨_,.inr "sender",.inl h,rfl,by kernel_rfl⟩
theorem UC(h:H d=some (.dK (IS tn ev o))):jA H d (.str "worker") (some (.ref (o 6))):=.inl ⟨_,.inr "worker",.inl h,rfl,by kernel_rfl⟩
theorem Pj(h:H d=some (.dK (IS tn ev o))):jA H d (.str "states") (some (.ref (o 1))):=.inl ⟨_,.inr "states",.inl h,rfl,by kernel_rfl⟩
theorem UD(h:H d=some (.dK (IS tn ev o))):jA H d (.str "words") (some (.ref (o 2))):=.inl ⟨_,.inr "words",.inl h,rfl,by kernel_rfl⟩
theorem KI(h:H d=some (.dK (IS tn ev o))):jA H d (.str "heard") (some (.ref (o 3))):=.inl ⟨_,.inr "heard",.inl h,rfl,by kernel_rfl⟩
theorem Df(h:H d=some (.dK (IS tn ev o))):jA H d (.str "events") (some (.ref ev)):=.inl ⟨_,.inr "events",.inl h,rfl,by kernel_rfl⟩
end
def _root_.DD.RS.tv(r:RS):Nat->Nat->CO
 |0,_=>.l (r.picks.map pairD)
 |1,m=>.l ((r.mm m).fe.map q5)
 |2,m=>.l ((r.mm m).wp.map λw=>.lst (w.map .int))
 |3,m=>.l ((r.mm m).hr.map λw=>.lst (w.map .int))
 |4,w=>.l ((r.ww w).say.map .int)
 |5,w=>.l ((r.ww w).snd.map sJ)
 |_,w=>.d (kn (r.ww w).da) ((r.ww w).da.countP Option.isSome)
theorem count_set{e:Int×Int}:∀{l:List (Option (Int×Int))}{k:Nat},l[k]?=some none->(l.set k (some e)).countP Option.isSome=l.countP Option.isSome+1
 | [],k,h=>by simp at h
 |a::r,0,h=>by simp at h;subst h;simp
 |a::r,k+1,h=>by
  have b:=count_set (e:=e) (l:=r) (k:=k) (by simpa using h);simp only[List.set_cons_succ,List.countP_cons];rw[b];lia
theorem GI{l:List (Option (Int×Int))}{k:Nat}(h:k<l.length)(j:Int):kn (l.set k (some e)) j=if j=((k:Nat):Int) then some (pairD e) else kn l j:=by
 unfold kn;by_cases a:0<=j
 ·rw[if_pos a,if_pos a];by_cases z:j=((k:Nat):Int)
  ·subst z;rw[if_pos rfl,X',aas,List.getElem?_set];simp[h]
  ·rw[if_neg z,aas,List.getElem?_set,if_neg (),<-aas]
 ·rw[if_neg a,if_neg a,if_neg ()]
theorem Dg{l:List (Option (Int×Int))}:kn (l++[none])=kn l:=by
 funext j;unfold kn;split
 ·congr 1;rw[aas,aas,List.getElem?_append];split
  ·rfl
  ·next z=>
   rw[List.getElem?_eq_none (l:=l) ()]
   cases a:j.toNat-l.length with
   |zero=>rfl
   |succ n=>rfl
 ·rfl
structure bY(F:Addr->Prop)(H:Hp)(d:Addr)(tn:V)(nt:NT)(r:RS)(ad:Nat->Nat->Addr):Prop where
 dk:∃o,H d=some (.dK (IS tn (ad 0 0) o))/\¬F d/\¬FP nt.n ad d/\∀t,1<=t->t<=6->H (o t)=some (.lst (lT nt.n ad t))/\¬F (o t)/\¬FP nt.n ad (o t)
 cP:dQ F H nt.n ad r.tv
 told:∃ls,ToldN (iI (λb=>F b\/FP nt.n ad b) H) tn nt.ms nt.ws ls
 ok:nt.Ok
section
variable {F:Addr->Prop}{H H':Hp}{d:Addr}{tn:V}{nt:NT}{r:RS}{ad:Nat->Nat->Addr}
theorem bY.keep(h:bY F H d tn nt r ad)(f:Fr F H H'):bY F H' d tn nt r ad:=by
 obtain⟨⟨o,g,e,i,c⟩,j,⟨ls,k⟩,l⟩:=h;calc⟨⟨o,f.at g e,e,i,λt a b=>⟨f.at (c t a b).1 (c t a b).2.1,(c t a b).2⟩⟩,j.keep f,⟨ls,k.cv (f.mono λb z=>.inl z).iI⟩,l⟩
theorem bY.same(h:bY F H d tn nt r ad)(s:aq H H'):bY F H' d tn nt r ad:=h.keep s.fr
theorem bY.own(h:bY F H d tn nt r ad)(f:Fr (FP nt.n ad) H H')(b:dQ F H' nt.n ad r'.tv):bY F H' d tn nt r' ad:=by
 obtain⟨⟨o,g,i,e,c⟩,l,⟨ls,j⟩,k⟩:=h;calc⟨⟨o,f.at g e,i,e,λt a b=>⟨f.at (c t a b).1 (c t a b).2.2,(c t a b).2⟩⟩,b,⟨ls,j.cv (f.mono λb z=>.inr z).iI⟩,k⟩
end
theorem Dh{l:List (Option (Int×Int))}{k:Nat}:(kn l ((k:Nat):Int)).isSome= !(l.getD k none).isNone:=by
 unfold kn;rw[if_pos (),X']
 cases l.getD k none<;>rfl
theorem Di{H0 H:Hp}{a:Addr}{b:List (Key×V)}{g:Int->Option DV}{N:Nat}(e:H a=some (.dK b))(h:OR H0 (.d g N) (.dK b))(k:Int):∃o,jA H a (.int k) o/\o.isSome=(g k).isSome:=by
 calc bL _ (jA.k (k:=Sum.inl k) e) ?_;have:=h.2 k;revert this
 cases g k with
 |none=>intro h;rw[h];rfl
 |some d=>intro⟨v,h,_⟩;rw[h];rfl
abbrev kM:Stmt:=top 62
def GJ:Sp:=λvs H Q _=>∃(F:Addr->Prop) (d:Addr) (a:V) (nt:NT) (r:RS) (ad:Nat->Nat->Addr) (m:Nat),vs=[.ref d,.int m]/\bY F H d a nt r ad/\r.Ok nt/\r.picks.length<=400/\m<nt.ws.length/\∀l H',aq H H'->H l=none->H' l=some (.lst ((r.yt m).map λk=>.int (k:Nat)))->Q (.ref l) H'
theorem xP(D:cL K mg "_law_lying" "_law_lying" kM fU)(T:Tx K mg C CN CR F FD):Def P w K mg base "_law_lying" 1 fU GJ:=by
 exists fU;obtain⟨F,d,g,B,r,ad,m,rfl,j,k,G,b,q⟩:=h;have g:=hr.units;have B:=Yi g;calc⟨_,(ak (aH (dD (N':=["_law_k","_law_way","_law_run"]) (ix:=[none,some 1,some 0]) (cJ rfl T.eu (af (aZ aN rfl T.bV T' (af (aj g (aj g (ao 0) aB) (ao 1)) aa)) aa)) (λ_ _ _ _=>(aP (i:=0) (show(["_law_k","_law_way","_law_run"]:List Str).Nodup by decide +kernel) rfl Sort)) (λ_ _ _ _=>(gC (MT (Cb B (ao 0) (bW (K:=K) rfl g (bW (K:=K) rfl g (ao 2) aB) (ao 1)))))) (λ_ _ _ _=>(ao 0))))),?_⟩;nofun;obtain⟨o,v,B,G,g⟩:=j.dk;have B:=(g 4 ∅ ∅).1;have I:=(g 6 ∅ ∅).1;obtain⟨G,L,M⟩:=j.cP.lst (t:=4) (i:=m) b rfl;obtain⟨g,N,O⟩:=j.cP.dct (t:=6) (i:=m) b rfl;ac_rfl;have g:G.length=(r.ww m).say.length:=by simpa using M.1
 have j:=k.bs m b;left;calc bC ?_;left;calc bL _ (KG v) ?_;left;calc bx B (bo b) ?_;calc bL _ (.inl ⟨_,aO.of L,rfl⟩) ?_;left;rw[g];calc ir () () (λD p=>?_);rw[X'];refine aY (J:=zY 0 (r.ww m).say.length) (n:=(r.ww m).say.length) (λi ys H'=>aq H H'/\ys=((List.range i).filter λk=>((r.ww m).da.getD k none).isNone).map λk=>V.int (k:Nat)) (L' (small ())) ⟨aq.new _ p,rfl⟩ (λi ys H' u _=>u) (λys H' _=>J' _) ?_ ?_
 ·intro i ys H' u l y R x H2 S;nofun;obtain⟨a,rfl⟩:=R;obtain⟨rfl,rfl⟩:=S;ac_rfl;walk_at "xf";left;refine bL _ (UC (a _ _ v)) ?_;left;refine bx (a _ _ I) (bo b) ?_;rw[Int.zero_add];obtain⟨g,j,k⟩:=Di (a _ _ N) O ((i:Nat):Int);refine⟨ad 6 m,g,rfl,j,?_⟩;rw[k,Dh,Bool.not_not];left;by_cases z:((r.ww m).da.getD i none).isNone=true
  ·rw[z]
   try rw[if_pos rfl]
   calc bX l y u (L' (small ())) ⟨λc o e=>by rw[ax (au e p)];calc a _ _ e,?_⟩;rw[iD,if_pos z,aar];rfl
  ·rw[Bool.not_eq_true] at z;rw[z]
   try rw[if_neg ∅]
   exact⟨_,l,(),a,by rw[iD,if_neg (by rw[z];decide),Y']⟩
 ·rintro ys H' l y ⟨a,rfl⟩;calc q _ _ a p l
def hJ(nt:NT)(r:RS)(w:Nat):List Nat:=if (nt.w w).2.2="row" then(r.yt w).take 1 else r.yt w
def gh(nt:NT)(r:RS)(n:Nat):List (Nat×Nat):=(List.range n).flatMap λw=>(hJ nt r w).map λk=>(w,k)
theorem rP{nt:NT}{n:Nat}:gh nt r (n+1)=gh nt r n++(hJ nt r n).map λk=>(n,k):=by
 unfold gh;rw[List.range_succ,List.flatMap_append];simp
theorem fc.app{n:Nat}{vs us:List V}{c:List DV}(h:fc H n vs c)(g:fc H n us es):fc H n (vs++us) (c++es):=by
 calc⟨by simp[h.1,g.1],λi v d a b=>?_⟩;by_cases c:i<vs.length
 ·rw[W' c]at a;rw[W' (by rw[<-h.1];calc c)]at b;exact h.2 i _ _ a b
 ·rw[P' ()]at a;rw[P' (by rw[<-h.1];lia),<-h.1]at b;calc g.2 _ _ _ a b
theorem vA{w:Nat}:(r.yt w).length<=(r.ww w).say.length:=by
 unfold RS.yt;calc aaB (List.length_filter_le _ _) nofun
theorem uy{nt:NT}{w:Nat}:(hJ nt r w).length<=(r.ww w).say.length:=by
 unfold hJ;split
 ·rw[aap];have:=vA (r:=r) (w:=w);lia
 ·calc vA
theorem uz{nt:NT}{r:RS}{B:Nat}:∀n,(∀w,w<n->(r.ww w).say.length<=B)->(gh nt r n).length<=n*B
 |0,_=>by simp[gh]
 |n+1,h=>by
  rw[rP,aac,R'];have a:=uz (nt:=nt) n (λw a=>h w ());have a:=h n ();have a:=uy (nt:=nt) (r:=r) (w:=n);rw[Nat.succ_mul];lia
def WK(p:Nat×Nat):DV:=pairD (((p.1:Nat):Int),((p.2:Nat):Int))
theorem uA{r:RS}{w k:Nat}(h:k∈(r.yt w).take 1):∀j,j<k->((r.ww w).da.getD j none).isNone=false:=by
 unfold RS.yt at h;generalize b:(List.range (r.ww w).say.length).filter (λk=>((r.ww w).da.getD k none).isNone)=l at h
 cases l with
 |nil=>simp at h
 |cons a t=>
  simp at h;subst h;intro j g;have f:(List.range (r.ww w).say.length).Pairwise (· < ·):=List.pairwise_lt_range;have c:=f.filter (λk=>((r.ww w).da.getD k none).isNone);rw[b]at c;have f:k∈(List.range (r.ww w).say.length).filter (λk=>((r.ww w).da.getD k none).isNone):=by rw[b];simp
  rw[List.mem_filter,List.mem_range]at f
  cases z:((r.ww w).da.getD j none).isNone with
  |false=>rfl
  |true=>
   exfalso;have d:j∈(List.range (r.ww w).say.length).filter (λk=>((r.ww w).da.getD k none).isNone):=by
    rw[List.mem_filter,List.mem_range];exact⟨(),z⟩
   rw[b]at d;rcases List.mem_cons.mp d with e|e
   ·lia
   ·have:=(List.pairwise_cons.mp c).1 j e;lia
theorem xQ{nt:NT}(h:r.Ok nt){w k:Nat}(b:(w,k)∈gh nt r nt.ws.length):r.sX nt w k:=by
 unfold gh at b;rw[List.mem_flatMap]at b;obtain⟨j,f,b⟩:=b;rw[List.mem_range]at f;rw[List.mem_map]at b;obtain⟨j,a,e⟩:=b
 cases e;have g:k∈r.yt w:=by
  unfold hJ at a;split at a
  ·exact List.mem_of_mem_take a
  ·exact a
 have c:k<(r.ww w).say.length/\((r.ww w).da.getD k none).isNone=true:=by
  unfold RS.yt at g;rw[List.mem_filter,List.mem_range]at g;exact g
 have b:=h.lk w f;refine⟨f,?_,λi b=>?_⟩
 ·rw[bc (d:=none) ()]
  cases z:(r.ww w).da.getD k none with
  |none=>rfl
  |some e=>rw[z]at c;simp at c
 ·unfold hJ at a;rw[if_pos i] at a;have:=uA a (k - 1) ();rw[bc (d:=none) (show k - 1 < (r.ww w).da.length by lia)]
  cases z:(r.ww w).da.getD (k-1) none with
  |none=>rw[z]at this;simp at this
  |some e=>calc⟨e,rfl⟩
theorem Pl{xs:List V}:dq xs none (some 1)=xs.take 1:=by
 unfold dq;have b:HT.dY xs.length 0 none=0:=rfl;rw[b]
 cases xs with
 |nil=>simp
 |cons a r=>
  have b:HT.dY (a::r).length (a::r).length (some 1)=1:=by
   unfold HT.dY;simp
  rw[b];simp
abbrev mC:Stmt:=top 63
def vB:Sp:=λvs H Q _=>∃(F:Addr->Prop) (d:Addr) (a:V) (nt:NT) (r:RS) (ad:Nat->Nat->Addr),vs=[.ref d]/\bY F H d a nt r ad/\r.Ok nt/\r.picks.length<=400/\∀l ys H',aq H H'->H l=none->H' l=some (.lst ys)->fc H' 1 ys ((gh nt r nt.ws.length).map WK)->Q (.ref l) H'
theorem zN(D:cL K mg "_law_free" "_law_free" mC ["_law_run"])(T:Tx K mg C CN CR F FD)(kN:Def P w K mg base "_law_lying" 1 fU GJ):Def P w K mg base "_law_free" 2 ["_law_run"] vB:=by
 exists["_law_run","_law_free_here","_law_way","_law_told_here","_law_numbers"];obtain⟨F,d,tn,a,r,ad,rfl,G,Y,IK,q⟩:=h;have O:=hr.units;refine⟨_,(ai (aT (i:=1) sc rfl Sort (bF aa))
  (ai (eI PassesOwn.never rfl (jC rfl T.dE (af (aj O (aj O (ao 0) aB) ag) aa)) (gq (i:=2) (j:=3) rfl sc rfl rfl Sort Sort)
  (ai (aT (i:=4) sc rfl Sort (aE kN hr (af (ao 0) (af (ao 2) aa))))
  (ai (aS (az (aQ O) (aj O (ao 3) ag) aB (aG _)) (ak (aT (i:=4) sc rfl Sort (lY (ao 4) jz (fm ag)))) aI)
  (ak (aT (i:=1) sc rfl Sort (aV cS (ao 1) (dD (N':=["_law_number","_law_way"]) (ix:=[none,some 2]) (bR (pv 4)) (λ_ _ _ _=>(aP (i:=0) (show(["_law_number","_law_way"]:List Str).Nodup by decide +kernel) rfl Sort)) nu (λ_ _ _ _=>(bu (af (ao 1) (af (ao 0) aa)))))))))))
  (ak (aH (ao 1))))),?_⟩
 nofun;obtain⟨o,hd,nF,nP,ho⟩:=G.dk;obtain⟨ls,t,am,aw,al,mv,wv,lv,rfl,h1,h2,h3,h4,h5,R,h7⟩:=G.told;have g1:=(dz h1 (λk z=>by cases z)).2;have g3:=(dz h3 (λk z=>by cases z)).2
 replace R:=R.aA dZ.aJ
 ac_rfl;have Z:wv.length=a.ws.length:=by simpa using R.1
 have p5:wv.length<=10:=by rw[Z];exact G.ok.Cz
 have hB:∀w,w<a.ws.length->(r.ww w).say.length<=9620:=λw hw=>by have:=Y.bs w hw;lia
 left;calc⟨aav _,λS OG=>?_⟩;have U:=aq.new (.lst []) OG;have WL:upd H S (.lst []) S=some (.lst []):=ab;generalize hG0:upd H S (.lst [])=G0 at *;left;refine De (U _ _ hd) |> λh=>⟨_,h,?_⟩
 refine cp (U _ _ g1) (av (j:=1) rfl) ⟨true,wv,Sq.l (U _ _ g3),kj (xs:=wv) (λi σ H'=>∃z2 z3 z4 v ys,σ=[some (V.ref d),some (V.ref v),z2,z3,z4]/\aq H H'/\H v=none/\H' v=some (.lst ys)/\fc H' 1 ys ((gh a r i).map WK)) ?_ ?_ ?_ ?_⟩
 ·exact⟨_,_,_,S,[],rfl,U,OG,WL,show fc _ 1 [] [] from fc.nil⟩
 ·intro i σ H' sM;obtain⟨_,_,_,_,_,_,b,_⟩:=sM;exact Sq.l (b _ _ g3)
 ·intro i x σ H' tt hx zm Ph;nofun;obtain⟨z2,z3,z4,v,ys,rfl,b,UE,Z2,I⟩:=zm;have Iz:i < a.ws.length:=by rw[<-Z];exact(List.getElem?_eq_some_iff.mp hx).1
  have s2:=aq.new (.tup [.int (i:Nat),x]) Ph;have UG:upd H' tt (.tup [.int (i:Nat),x]) tt=some (.tup [.int (i:Nat),x]):=ab;have C8:=(R.2 i x (jr (a.w i)) hx (by rw[A',show a.ws[i]?=some (a.w i) from bc Iz];rfl)).aA (b.trans s2).aJ;generalize SU:upd H' tt (.tup [.int (i:Nat),x])=G2 at *;obtain⟨ta,u1,u2,u3,kk,rfl,oR,y1,y2,y3⟩:=bE C8;obtain rfl:=y1.cj;obtain rfl:=y2.cj;obtain rfl:=y3.cE;ac_rfl;calc zf (bq.of UG) ?_;left;calc⟨F,d,_,a,r,ad,i,rfl,(G.same b).same s2,Y,IK,Iz,λln H3 s3 fln p=>?_⟩;have lJ:aq H' H3:=s2.trans s3;have hly:=vA (r:=r) (w:=i);have hfw:=uy (nt:=a) (r:=r) (w:=i);have hBi:=hB i Iz;left;calc cp (s3 _ _ oR) (av (j:=2) rfl) ?_;left;rename_i N1 hN1 T1 U1 hT1 hU1;have g:∀L y,aq H' L->L y=some (.lst ((hJ a r i).map λk=>V.int ((k:Nat):Int)))->N1 [some (V.ref d),some (V.ref v),some (V.int ((i:Nat):Int)),some (V.ref ta),some (V.ref y)] L:=by
   intro L y Qx p;clear hT1 hU1;left;calc bC ?_;left;calc .inl ⟨⟨_,aO.of p⟩,λD hD=>?_⟩;refine aY (J:=tF K y) (n:=(hJ a r i).length) (λj u H'=>aq L H'/\fc H' 1 u (((hJ a r i).take j).map λk=>WK (i,k))) (L' (small ())) ⟨aq.new _ hD,show fc _ 1 [] [] from fc.nil⟩ ?_ ?_ ?_ ?_
   ·rintro j u H' M ⟨m,_⟩;exact⟨_,_,aO.of (m _ _ p),by rw[A',bU M];rfl⟩
   ·rintro u H' ⟨m,_⟩;exact⟨_,aO.of (m _ _ p),nofun⟩
   ·intro j u H' M Pn iu Ky xx H4 Pc;nofun;obtain⟨m,N⟩:=Ky;obtain⟨rfl,hy⟩:=Pc;have ex:=hy _ (aO.of (m _ _ p));rw[A',bU M] at ex;obtain rfl:=Option.some.inj ex;ac_rfl;walk_at "xf";left
    try rw[if_pos trivial]
    calc⟨cR,λt2 qj=>?_⟩;have s6:=aq.new (.tup [.int ((i:Nat):Int),.int (((hJ a r i)[j]:Nat):Int)]) qj;have Dj:=s6 _ _ Pn;calc bX Dj iu M (L' (small ())) ⟨λc o e=>by rw[ax (au e hD)];calc s6 _ _ (m _ _ e),?_⟩;have tu:bP (upd H4 t2 (.tup [.int ((i:Nat):Int),.int (((hJ a r i)[j]:Nat):Int)])) (upd (upd H4 t2 (.tup [.int ((i:Nat):Int),.int (((hJ a r i)[j]:Nat):Int)])) D (.lst (u++[.ref t2]))):=(bP.refl _).upd λzs e=>by rw[Dj]at e;cases e
    rw[abn,bU M,aar];exact((N.aA s6.aJ).snoc (dy (n:=0) ab (.int _) (.int _))).aA tu
   rintro u H6 Pn iu ⟨m,N⟩;rw[aax]at N;have W:aq H' H6:=Qx.trans m;left;refine .inl ⟨_,_,W _ _ Z2,Pn,?_,λlf' UI=>?_⟩
   ·have a1:=I.1;have a2:=N.1;have a3:=uz (nt:=a) (r:=r) (B:=9620) i (λw hw=>hB w ());simp at a1 a2;rw[sizeLine_eq];have a5:i<=9:=by lia
    have a4:i*9620<=9*9620:=Nat.mul_le_mul_right _ a5;lia
   have s7:=aq.new (.lst (ys++u)) UI;left;calc Yn _ _ _ lf' _ ⟨rfl,rfl,rfl,rfl⟩ (b.trans (W.trans s7)) ((b.trans W).free UI) ab ?_;rw[rP,aar];calc((I.aA W.aJ).app ?_).aA s7.aJ;rw[List.map_map];exact N
  by_cases X:(a.w i).2.2="row"
  ·rw[if_pos (by simp[X])];left;calc .inl ⟨_,p,λy qG=>?_⟩;rw[Pl];have s4:=aq.new (.lst (((r.yt i).map λk=>V.int ((k:Nat):Int)).take 1)) qG;exact g _ y (lJ.trans s4) (by unfold hJ;rw[ab,if_pos X,List.map_take])
  ·rw[if_neg (by simp[X])];calc L2.ba (by assumption) ?_;exact g _ ln lJ (by unfold hJ;rw[if_neg X];calc p)
 ·intro σ H' Pe;obtain⟨z2,z3,z4,v,ys,rfl,b,UE,Z2,I⟩:=Pe;rw[Z]at I;left;calc q _ _ _ b UE Z2 I
def KJ(H H':Hp):Prop:=∀b o,H b=some o->(∀k,o≠.own k)->H' b=some o
theorem KJ.aJ(h:KJ H H'):bP H H':=λb a e=>h b _ e (λk z=>by cases z)
theorem _root_.L2.aq.IU(s:aq H H'):KJ H H':=λb o e _=>s b o e
theorem iV.IU{x:V}{M:Int}{a:List bf}(s:KJ H H')(h:iV H x M ns row a):iV H' x M ns row a:=by
 obtain⟨t,a,b,c,d,e,f,g,i,j,l⟩:=h;calc⟨t,a,b,c,d,e,s _ _ f (λk z=>by cases z),s _ _ g (λk z=>by cases z),s _ _ i (λk z=>by cases z),s _ _ j (λk z=>by cases z),l.aA s.aJ⟩
theorem zM.IU(s:KJ H H')(h:zM H mv gF):zM H' mv gF:=⟨h.1,λi v d a b=>(h.2 i v d a b).IU s⟩
theorem zM.nil:zM H [] []:=⟨rfl,λi v d a=>by simp at a⟩
theorem zM.snoc{v:V}{d:MD}(h:zM H mv gF)(g:iV H v d.M d.ns d.row d.ds):zM H (mv++[v]) (gF++[d]):=by
 calc⟨by simp[h.1],λi y e a b=>?_⟩;by_cases c:i<mv.length
 ·rw[W' c]at a;rw[W' (by rw[<-h.1];calc c)]at b;exact h.2 i _ _ a b
 ·rw[P' ()] at a;rw[P' (by rw[<-h.1];lia),<-h.1] at b
  cases f:i-mv.length with
  |zero=>rw[f]at a b;cases a;cases b;calc g
  |succ k=>rw[f]at a;simp at a
def mask(a b c:Addr)(H:Hp):Hp:=λx=>if x=a\/x=b\/x=c then some (.own 0) else H x
theorem nH{c x:Addr}(d:x≠a)(e:x≠b)(f:x≠c):mask a b c H x=H x:=by unfold mask;rw[if_neg (by simp[d,e,f])]
theorem uB{c x:Addr}{o:HO}(h:mask a b c H x=some o)(d:∀k,o≠.own k):x≠a/\x≠b/\x≠c/\H x=some o:=by
 unfold mask at h;split at h
 ·cases h;exact absurd rfl (d 0)
 ·rename_i hn;simp only[not_or]at hn;calc⟨hn.1,hn.2.1,hn.2.2,h⟩
theorem GK{c:Addr}:KJ (mask a b c H) H:=λx o e n=>(uB e n).2.2.2
theorem xR{c:Addr}(h:∀x o,x≠a->x≠b->x≠c->H x=some o->H' x=some o):KJ (mask a b c H) (mask a b c H'):=λx o e n=>by
 obtain⟨d,f,g,i⟩:=uB e n;rw[nH d f g];calc h x o d f g i
theorem Dk{c t d f g:Addr}{xs:List V}{M:Int}{n:List bf}(p:H t=some (.tup [.int M,.ref d,.ref f,.ref g]))(q:H d=some (.lst (ns.map V.int)))(r:H f=some (.lst (row.map V.int)))(s:H g=some (.lst xs))(u:fc H 2 xs (n.map bf.dv))
  (h:∃ys,H a=some (.lst ys)) (i:∃ys,H b=some (.lst ys)) (j:∃ys,H c=some (.lst ys)) (k:d≠a/\d≠b/\d≠c) (l:f≠a/\f≠b/\f≠c) (m:g≠a/\g≠b/\g≠c):iV (mask a b c H) (.ref t) M ns row n:=by
 obtain⟨n,h⟩:=h;obtain⟨n,i⟩:=i;obtain⟨n,j⟩:=j;have o:bP H (mask a b c H):=λx ys e=>by
  rw[nH (λz=>by rw[z,h]at e;cases e) (λz=>by rw[z,i]at e;cases e) (λz=>by rw[z,j]at e;cases e)];exact e
 calc⟨t,d,f,g,xs,rfl,o _ _ p,by rw[nH k.1 k.2.1 k.2.2];calc q,by rw[nH l.1 l.2.1 l.2.2];calc r,by rw[nH m.1 m.2.1 m.2.2];calc s,u.aA o⟩
structure Bu(gF:List MD)(ws:List (Int×Int×Str))(ls:List (Int×Int)):Prop where
 m1:1<=gF.length
 m5:gF.length<=5
 ED:ws.length<=10
 WN:ls.length<=20
 mg:∀d∈gF,d.good
 wo:∀w∈ws,uj gF.length w
 lo:∀l∈ls,uk ws.length l
theorem Bu.nt(h:Bu gF ws ls):(NT.mk gF ws).Ok:=⟨h.m5,h.m1,h.ED,h.mg,h.wo⟩
abbrev oW:Stmt:=top 58
def Bv(K:W.Frag):Sp:=λvs H Q _=>∃(a:Addr) (ns:List Int),vs=[.ref a]/\aO K H a (ns.map V.int)/\ns.length<=63/\∀t b c d mv wv e gF ws ls H',aq H H'->H' t=some (.tup [.ref b,.ref c,.ref d])->H' b=some (.lst mv)->H' c=some (.lst wv)->H' d=some (.lst e)->zM H' mv gF->fc H' 1 wv (ws.map jr)->fc H' 1 e (ls.map mh)->Bu gF ws ls->Q (.ref t) H'
theorem Dl(D:cL K mg "_law_net" "_law_net" oW fh)(T:Tx K mg C CN CR F FD)(x:Def P w K mg base "_law_at" 1 ef (AS K))(v:Def P w K mg base "_law_digit" 1 ah jo)(iW:Def P w K mg base "_law_machine" 4 ["_law_pot_here"] xN)(M:Def P w K mg base "_law_pot" 1 ["_law_cell"] F0):Def P w K mg base "_law_net" 5 fh (Bv K):=by
 exists["_law_script","_law_many","_law_machines","_law_pot_here","_law_ways","_law_k","_law_letters","_law_said"];obtain⟨a,ns,rfl,hS,WO,q⟩:=h;have hu:=hr.units;refine⟨_,(ai (aT (i:=1) sc rfl Sort (aV cS ag (aV cD (aE x hr (af (ao 0) (af ag aa))) ag)))
  (ai (dP (i:=2) sc rfl Sort (N':=["_law_k","_law_script"]) (ix:=[none,some 0]) (cJ rfl T.eu (af (ao 1) aa)) (λ_ _ _ _=>(aP (i:=0) (show(["_law_k","_law_script"]:List Str).Nodup by decide +kernel) rfl Sort)) nu (λ_ _ _ _=>(aE iW hr (af (aE M hr (af (aE x hr (af (ao 1) (af (aV cS ag (ao 0)) aa))) aa)) aa))))
  (ai (aT (i:=3) sc rfl Sort (aE M hr (af (aE x hr (af (ao 0) (af ag aa))) aa)))
  (ai (aT (i:=4) sc rfl Sort (bF aa))
  (ai (eI PassesOwn.never rfl (cJ rfl T.eu (af (aE v hr (af (ao 3) (af ag aa))) aa)) (aP (i:=5) sc rfl Sort)
  (ak (bS (du nS qy qz b8 (ao 4) (af (bu (af (aE v hr (af (ao 3) (af (ao 1) aa))) (af (aE v hr (af (ao 3) (af (ao 1) aa))) (af (aj hu (bF (af aB (af aB aa))) (aE v hr (af (ao 3) (af ag aa)))) aa)))) aa)))))
  (ai (aT (i:=3) sc rfl Sort (aE M hr (af (aE x hr (af (ao 0) (af ag aa))) aa)))
  (ai (aT (i:=6) sc rfl Sort (bF aa))
  (ai (eI PassesOwn.never rfl (cJ rfl T.eu (af (aE v hr (af (ao 3) (af ag aa))) aa)) (aP (i:=5) sc rfl Sort)
  (ak (aS (az (gD hu) (ao 4) (bF aa) (aG _)) (ai (aT (i:=7) sc rfl Sort (aj hu (bF (af (aE v hr (af (ao 3) (af ag aa))) (af (aE v hr (af (ao 3) (af (aV qh ag ag) aa))) aa))) (aE v hr (af (ao 3) (af ag aa)))))
  (ak (bS (du nS qy qz b8 (ao 6) (af (bu (af (aE v hr (af (ao 3) (af (aZ aN rfl T.bV T' (af (ao 4) aa)) aa))) (af (ao 7) aa))) aa))))) aI)))
  (ak (aH (bu (af (ao 2) (af (ao 4) (af (ao 6) aa)))))))))))))),?_⟩
 left;calc⟨a,ns,_,rfl,hS,(),λg=>⟨(by decide:(0:Int)<5),?_⟩⟩;have v:=aa4 g (b:=5) ∅;have v:=aaQ g (b:=5) ∅;left;calc bC ?_;left;calc ir () () (λD hD=>?_);refine aY (J:=zY 0 (1+g%5).toNat) (n:=(1+g%5).toNat) (λi ys H'=>aq H H'/\∃gF,gF.length=i/\zM (mask D D D H') ys gF/\∀d∈gF,d.good) (L' (aD ())) ⟨aq.new _ hD,[],rfl,zM.nil,λd hd=>by simp at hd⟩ (λi ys H' hi _=>hi) (λys H' _=>J' _) ?_ ?_
 ·intro i ys H1 hi bD hl gG x H2 gP;nofun;obtain⟨X,gF,mj,hM,Z3⟩:=gG;obtain⟨rfl,rfl⟩:=gP;ac_rfl;walk_at "xf";left;rw[if_pos trivial];refine⟨a,ns,_,rfl,X.seq hS,(),λv=>⟨v,rfl,λp Y R qg=>⟨p,rfl,⟨_,ab,qg⟩,λt v T ld xs M mns row ds x st h1 h2 h3 h4 h5 f1 f2 f3 hg=>?_⟩⟩⟩;have q3:∀b o,H2 b=some o->x b=some o:=λb o e=>st.rest b o ((aq.new _ R) _ _ e) (au e R);have T:=q3 _ _ bD;have p1:=(aq.new (.lst (Y.map V.int)) R) _ _ bD;have v:∀{b:Addr},upd H2 p (.lst (Y.map V.int)) b=none->b≠D:=λf=>Ne.symm (au p1 f);refine bX T hl hi (L' (aD ())) ⟨λb o e=>by rw[ax (au e hD)];exact q3 _ _ (X _ _ e),gF++[⟨M,mns,row,ds⟩],by simp[mj],?_,λd hd=>?_⟩
  ·have c4:KJ (mask D D D H2) (mask D D D (upd x D (.lst (ys++[.ref t])))):=xR λb o M b2 b3 e=>by rw[ax M];exact q3 _ _ e
   have c5:KJ (mask D D D x) (mask D D D (upd x D (.lst (ys++[.ref t])))):=xR λb o M b2 b3 e=>by rw[ax M];exact e
   exact(hM.IU c4).snoc (iV.IU c5 (Dk h1 h2 h3 h4 h5 ⟨_,T⟩ ⟨_,T⟩ ⟨_,T⟩ ⟨v f1,v f1,v f1⟩ ⟨v f2,v f2,v f2⟩ ⟨v f3,v f3,v f3⟩))
  ·rcases List.mem_append.mp hd with hd | hd
   ·exact Z3 d hd
   ·simp only[List.mem_singleton]at hd;subst hd;exact hg
 intro mv H1 Q2 hl v;nofun;obtain⟨X,gF,mj,hM0,Z3⟩:=v;have hM:=hM0.IU GK;generalize hDa:D=am at *;ac_rfl;left;calc⟨a,ns,_,rfl,X.seq hS,(),λv=>⟨v,rfl,λp Y R qg=>?_⟩⟩;have s2:=aq.new (.lst (Y.map V.int)) R;have tS:fw (upd H1 p (.lst (Y.map V.int))) p:=⟨_,ab,qg⟩
 generalize SU:upd H1 p (.lst (Y.map V.int))=G2 at *;left;calc⟨aav _,λy v=>?_⟩;have s3:=aq.new (.lst []) v;have S9:y≠p:=Step.ne tS v;have hp3:=tS.same s3;have eaw:upd G2 y (.lst []) y=some (.lst []):=ab;have faw:H1 y=none:=s2.free v;have lJ:=s2.trans s3;generalize hG3:upd G2 y (.lst [])=G3 at *;left;calc l8 p 11 rfl hp3 ∅ ⋯ (λx M T Y v=>?_);refine⟨x,rfl,(),(),jb (n:=x.toNat) (λi σ H'=>(∃S,σ=[some (.ref a),some (.int (1+g%5)),some (.ref am),some (.ref p),some (.ref y),S,none,none])/\fw H' p/\aq H1 H'/\∃(wv:List V) (ws:List (Int×Int×Str)),H' y=some (.lst wv)/\fc H' 1 wv (ws.map jr)/\ws.length=i/\∀w∈ws,uj (1+g%5) w) ?_ ?_ ?_⟩
 ·exact⟨⟨_,rfl⟩,v.gf,v.over lJ R,[],[],v.rest _ _ eaw S9,fc.nil,rfl,λw r=>by simp at r⟩
 ·intro i σ Z hi zm;obtain⟨⟨S,rfl⟩,Z4,s5,wv,ws,U,hW,jw,J8⟩:=zm;have GN:wv.length=i:=by have:=hW.1;simp at this;lia
  left;calc⟨.inl ⟨rfl,_,aO.of U⟩,?_⟩;have l5:(1+g%5).natAbs.log2<9000:=by
   have:1+g%5=1\/1+g%5=2\/1+g%5=3\/1+g%5=4\/1+g%5=5:=by lia
   rcases this with e|e|e|e|e<;>(rw[e];decide +kernel)
  refine dig Z4 () l5 λc x h60 h61 v=>?_;left;refine dig v.gf () l5 λB x h70 h71 M=>?_;have x:=v.trans M;left;refine⟨cR,λl hl=>?_⟩;have IP:=x.new (o:=.lst [.str "row",.str "heap"]) hl;have ZS:l≠p:=Step.ne x.gf hl;refine dig IP.gf ∅ ⋯ λk W ZT ZU IQ=>?_;have Z5:=IP.trans IQ;obtain⟨u,ew3,hw3⟩:∃u:Str,iG [V.str "row",V.str "heap"] k=some (.str u)/\(u="row"\/u="heap"):=by
   have:k=0\/k=1:=by lia
   rcases this with rfl|rfl
   ·exact⟨_,av (j:=0) rfl,.inl rfl⟩
   ·exact⟨_,av (j:=1) rfl,.inr rfl⟩
  left;calc bx (IQ.rest _ _ ab ZS) ew3 ?_;left;calc⟨by show 3<=sizeLine;decide,λt ht=>?_⟩;have I:=Z5.new (o:=.tup [.int c,.int B,.str u]) ht;have UK:=I.rest _ _ U S9;have eT:upd W t (.tup [.int c,.int B,.str u]) t=some (.tup [.int c,.int B,.str u]):=ab;have Z6:=I.gf;have tA:=I.aJ Z4;have sA:aq H1 (upd W t (.tup [.int c,.int B,.str u])):=I.over s5 R;generalize hGA:upd W t (.tup [.int c,.int B,.str u])=GA at *;have tB:bP GA (upd GA y (.lst (wv++[.ref t]))):=(bP.refl _).upd λys e=>by rw[UK]at e;cases e
  refine⟨_,UK,aD (),⟨_,rfl⟩,Z6.upd (Ne.symm S9),λb o e=>by rw[ax (au e faw)];calc sA _ _ e,wv++[.ref t],ws++[(c,B,u)],ab,?_,by simp[jw],λw r=>?_⟩
  ·have h6:=((hW.aA tA).snoc (l7 (n:=0) eT (.int c) (.int B) (.str u))).aA tB;simpa[jr] using h6
  ·rcases List.mem_append.mp r with r | r
   ·exact J8 w r
   ·simp only[List.mem_singleton]at r;subst r;exact⟨h60,h61,h70,h71,hw3⟩
 intro σ Z zp;obtain⟨⟨S,rfl⟩,Z4,s5,wv,ws,U,hW,jw,J8⟩:=zp;have GN:wv.length=ws.length:=by have:=hW.1;simpa using this
 have Iw:=s5 _ _ Q2;have hM5:=hM.IU s5.IU;left;calc⟨a,ns,_,rfl,(X.trans s5).seq hS,(),λu=>⟨u,rfl,λN Ma Dy v=>?_⟩⟩;have s6:=aq.new (.lst (Ma.map V.int)) Dy;have hp6:fw (upd Z N (.lst (Ma.map V.int))) N:=⟨_,ab,v⟩
 generalize Ws:upd Z N (.lst (Ma.map V.int))=G6 at *;left;calc⟨aav _,λG u=>?_⟩;have s7:=aq.new (.lst []) u;have Oy:G≠N:=Step.ne hp6 u;have WR:=hp6.same s7;have eal:upd G6 G (.lst []) G=some (.lst []):=ab;have fal:Z G=none:=s6.free u;have QC:=s6.trans s7;generalize Wz:upd G6 G (.lst [])=G7 at *;left;calc l8 N 13 rfl WR ∅ ⋯ (λu M v x IP=>?_);refine⟨u,rfl,(),(),jb (n:=u.toNat) (λi σ H'=>(∃S z8,σ=[some (.ref a),some (.int (1+g%5)),some (.ref am),some (.ref N),some (.ref y),S,some (.ref G),z8])/\fw H' N/\aq Z H'/\∃(L:List V) (ls:List (Int×Int)),H' G=some (.lst L)/\fc H' 1 L (ls.map mh)/\ls.length<=i/\∀l∈ls,uk ws.length l) ?_ ?_ ?_⟩
 ·exact⟨⟨_,_,rfl⟩,IP.gf,IP.over QC Dy,[],[],IP.rest _ _ eal Oy,fc.nil,J' _,λw r=>by simp at r⟩
 ·intro i σ W hi CP;obtain⟨⟨S,z8,rfl⟩,hp9,O,L,ls,IG,hL,xF,iz⟩:=CP;have i:L.length=ls.length:=by have:=hL.1;simpa using this
  have i:=O _ _ U;left;calc⟨aav _,λl0 u=>?_⟩;have m:=aq.new (.lst []) u;have GO:=m _ _ i;have WL:upd W l0 (.lst []) l0=some (.lst []):=ab;have GP:=m _ _ IG;have Po:=hp9.same m;have Dm:=O.trans m;have UL:=hL.aA m.aJ;generalize Tu:upd W l0 (.lst [])=G10 at *
  cases ws with
  |nil=>
   have Tj:wv=[]:=by simpa using GN
   subst Tj;calc .inl ⟨.inr ⟨_,_,_,_,rfl,rfl,.inr ⟨aO.of GO,aO.of WL⟩,rfl,λj u v hu=>by simp at hu⟩,?_⟩;left
   try rw[if_neg M']
   calc⟨⟨_,_,rfl,rfl⟩,Po,Dm,L,ls,GP,UL,(),iz⟩
  |cons i u=>
   have hwp:0<(wv.length:Int):=by rw[GN];simp
   have i:wv.length<=10:=by lia
   calc .inr ⟨⟨_,_,by simp[GN],.inl ⟨aO.of GO,aO.of WL⟩⟩,?_⟩;left
   try rw[if_pos trivial]
   have lw:((wv.length:Nat):Int).natAbs.log2<9000:=GC hwp ();calc dig Po ∅ ⋯ λB x i u v=>?_;left;calc⟨zj,dig v.gf Oq Ot λx M u T i=>?_⟩;have M:=v.trans i;left;calc⟨cR,λu R=>?_⟩;have v:=M.new (o:=.lst [.int B,.int x]) R;have aab:u≠N:=Step.ne M.gf R;calc dig v.gf ∅ ⋯ λk i ZT ZU Dd=>?_;have vC:=v.trans Dd;have i:(10:Int)^Int.toNat 60=1000000000000000000000000000000000000000000000000000000000000:=by decide +kernel
   rw[i]at T;obtain⟨z,ez,hz0,Co⟩:∃z:Int,iG [V.int B,V.int x] k=some (.int z)/\1-1000000000000000000000000000000000000000000000000000000000000<=z/\z<1000000000000000000000000000000000000000000000000000000000000:=by
    have:k=0\/k=1:=by lia
    rcases this with rfl|rfl
    ·exact⟨_,av (j:=0) rfl,(),()⟩
    ·exact⟨_,av (j:=1) rfl,(),()⟩
   left;calc bx (Dd.rest _ _ ab aab) ez ?_;left;have UP:=vC.rest _ _ GP Oy;have UQ:=vC.rest _ _ GO (λz=>by rw[z,Dy]at U;cases U);calc⟨.inl ⟨rfl,_,aO.of UP⟩,?_⟩;calc bL _ (.inl ⟨_,aO.of UQ,rfl⟩) ?_;calc dig vC.gf hwp lw λc UR aae aaf i=>?_;have j:=vC.trans i;left;calc⟨cR,λt ht=>?_⟩;have I:=j.new (o:=.tup [.int c,.int z]) ht;have US:=I.rest _ _ GP Oy;have eT:upd UR t (.tup [.int c,.int z]) t=some (.tup [.int c,.int z]):=ab;have Z6:=I.gf;have tA:=I.aJ Po;have sA:aq Z (upd UR t (.tup [.int c,.int z])):=I.over Dm Dy;generalize hGA:upd UR t (.tup [.int c,.int z])=GA at *;have tB:bP GA (upd GA G (.lst (L++[.ref t]))):=(bP.refl _).upd λys e=>by rw[US]at e;cases e
   refine⟨_,US,aD (),⟨_,_,rfl,rfl⟩,Z6.upd (Ne.symm Oy),λb o e=>by rw[ax (au e fal)];calc sA _ _ e,L++[.ref t],ls++[(c,z)],ab,?_,by simp;lia,λl hl=>?_⟩
   ·have h6:=((UL.aA tA).snoc (dy (n:=0) eT (.int c) (.int z))).aA tB;simpa[mh] using h6
   ·rcases List.mem_append.mp hl with hl | hl
    ·exact iz l hl
    ·simp only[List.mem_singleton]at hl;subst hl;exact⟨aae,by have:=aaf;rw[GN]at this;calc this,hz0,Co⟩
 intro σ W Ky;obtain⟨⟨S,z8,rfl⟩,hp9,O,L,ls,IG,hL,xF,iz⟩:=Ky;left;calc⟨by show 3<=sizeLine;decide,λt ht=>?_⟩;have m:=aq.new (.tup [.ref am,.ref y,.ref G]) ht;calc q t am y G mv wv L gF ws ls _ (X.trans (s5.trans (O.trans m))) ab (m _ _ (O _ _ Iw)) (m _ _ (O _ _ U)) (m _ _ IG) (hM5.IU (O.trans m).IU) (hW.aA (O.trans m).aJ) (hL.aA m.aJ) ⟨(),(),(),(),Z3,λw r=>?_,iz⟩;have e:((gF.length:Nat):Int)=1+g%5:=by lia
 rw[e];calc J8 w r
theorem rQ{C:Addr}{m:Addr}{M:Int}{a:List bf}(t:bP H H')(i:∀b c d e,H b=some (.ins c d e)->H' b=some (.ins c d e))(h:jF C H m M ns row a):jF C H' m M ns row a:=by
 obtain⟨a,st,dd,f,g,j⟩:=h;calc⟨a,st,dd,i _ _ _ _ f,g.aA t,j.aA t⟩
abbrev hV:Stmt:=top 66
inductive xS(C CN:Addr)(vs:List V)(H:Hp)(Q:VK):Prop
 |mk (x:V) (gF:List MD) (ws:List (Int×Int×Str)) (ls:List (Int×Int)) (h0:vs=[x]) (h1:ToldN H x gF ws ls) (h2:Bu gF ws ls) (h3:∀n ms wv lv H',aq H H'->oQ C CN H' n ⟨gF,ws⟩->j5 CN H' n ms wv lv->fc H' 1 lv (ls.map mh)->Q (.ref n) H'):xS C CN vs H Q
def uC(C CN:Addr):Sp:=λvs H Q _=>xS C CN vs H Q
theorem rR(D:cL K mg "_law_net_made" "_law_net_made" hV ed)(T:Tx K mg C CN CR F FD)(oX:wN P w K mg base "Machine" C 7 dj (A0 C))(GR:wN P w K mg base "Net" CN 7 dF (xm C CN)):Def P w K mg base "_law_net_made" 9 ed (uC C CN):=by
 exists["_law_net_here","_law_machines"];obtain⟨x,gF,ws,ls,rfl,hT,g,q⟩:=h;have B:=hr.units;refine⟨_,(ai (dP (i:=1) sc rfl Sort (N':=gI) (ix:=[none]) (bR (aj B (ao 0) ag)) (λ_ _ _ _=>(aP (i:=0) (show(gI:List Str).Nodup by decide +kernel) rfl Sort)) nu (λ_ _ _ _=>(Fq oX hr (af (bW (K:=K) rfl B (ao 0) ag) (af (cQ (km (K:=K) rfl) rfl T.dI vX (af (bW (K:=K) rfl B (ao 0) ag) aa)) (af (cQ (km (K:=K) rfl) rfl T.dI vX (af (bW (K:=K) rfl B (ao 0) ag) aa)) (af (cQ (km (K:=K) rfl) rfl T.dI vX (af (bW (K:=K) rfl B (ao 0) ag) aa)) aa)))))))
  (ak (aH (Fq GR hr (af (ao 1) (af (cQ b4 rfl T.dI vX (af (aj B (ao 0) ag) aa)) (af (cQ b4 rfl T.dI vX (af (aj B (ao 0) ag) aa)) aa))))))),?_⟩
 obtain⟨t,am,aw,al,mv,wv,y,rfl,ht,Q2,KL,IG,hM,hW,hL⟩:=id hT;have t:mv.length<=5:=by have:=hM.1;have:=g.m5;lia
 right;calc bC ?_;right;calc cp ht (av (j:=0) rfl) ?_;right;calc .inl ⟨⟨_,aO.of Q2⟩,λD hD=>?_⟩;refine aY (J:=tF K am) (n:=mv.length) (λi ys H'=>∃ms:List Addr,ys=ms.map V.ref/\ms.length=i/\(∀(j:Nat) m d,ms[j]?=some m->gF[j]?=some d->Qv C H' m d)/\aq H H') (L' (aD ())) ⟨[],rfl,rfl,λj m d e=>by simp at e,aq.new _ hD⟩ ?_ ?_ ?_ ?_
 ·intro i ys H' lI t;obtain⟨_,_,_,_,p⟩:=t;exact⟨_,mv[i],aO.of (p _ _ Q2),bU lI⟩
 ·intro ys H' t;obtain⟨_,_,_,_,p⟩:=t;exact⟨_,aO.of (p _ _ Q2),J' _⟩
 ·intro i ys H' lI bD hl sM x U zm;nofun;obtain⟨ms,rfl,TU,zE,p⟩:=sM;obtain⟨rfl,t⟩:=zm;have ex:=t _ (aO.of (p _ _ Q2));have iI:i < gF.length:=by have:=hM.1;lia
  have u:=g.mg _ (aan iI);obtain⟨tt,ln,lr,ld,W,rfl,R,h2,h3,h4,h5⟩:=(hM.2 i x gF[i] ex (bU iI)).cv p.cv;generalize hmd:gF[i]=k at *;ac_rfl;walk_at "xf";right;rw[if_pos trivial];refine cT _ _ (.inr (bq.of R)) (av (j:=0) rfl) ?_;refine cT _ _ (.inr (bq.of R)) (av (j:=1) rfl) ?_;right;refine bL _ (.inl (aO.of h2)) (λr vZ=>?_);have t:=aq.new (.lst (k.ns.map V.int)) vZ;refine cT _ _ (.inr (bq.of (t _ _ R))) (av (j:=2) rfl) ?_;right;refine bL _ (.inl (aO.of (t _ _ h3))) (λv qG=>?_);have B:=aq.new (.lst (k.row.map V.int)) qG;refine cT _ _ (.inr (bq.of (B _ _ (t _ _ R)))) (av (j:=3) rfl) ?_;right;refine bL _ (.inl (aO.of (B _ _ (t _ _ h4)))) (λl3 T=>?_);have G:=aq.new (.lst W) T;have X:=t.trans (B.trans G);have l:=G _ _ (B _ _ (ab (H:=U) (a:=r) (o:=.lst (k.ns.map V.int))));have I:=G _ _ (ab (H:=upd U r (.lst (k.ns.map V.int))) (a:=v) (o:=.lst (k.row.map V.int)));have e3:upd (upd (upd U r (.lst (k.ns.map V.int))) v (.lst (k.row.map V.int))) l3 (.lst W) l3=some (.lst W):=ab;generalize Ws:upd (upd (upd U r (.lst (k.ns.map V.int))) v (.lst (k.row.map V.int))) l3 (.lst W)=G6 at *;intro m L Y Uw aag;have N:aq G6 (upd (upd G6 L (.own m)) m (.ins C L [])):=λb o e=>by rw[ax (au e Y),ax (au e Uw)];exact e
  have t:=X.trans N;calc⟨m,L,k.M,r,v,l3,k.ns,k.row,W,k.ds,2,rfl,ab,u.m2,u.Yf,.inl (N _ _ l),.inl (N _ _ I),.inl (N _ _ e3),u.l1,u.l4,u.r12,u.bn,u.br,(h5.aA t.aJ).dl,∅,u.Wo,u.ok,λZ Bn B=>⟨rfl,?_⟩⟩;have O:aq U Z:=λb o e=>B b o (au (X _ _ e) Y) (t _ _ e);have Dj:=O _ _ bD;have t7:bP Z (upd Z D (.lst (ms.map V.ref++[.ref m]))):=(bP.refl _).upd λk e=>by rw[Dj]at e;cases e
  have i7:∀b c d e,Z b=some (.ins c d e)->upd Z D (.lst (ms.map V.ref++[.ref m])) b=some (.ins c d e):=λb c d e h=>by
   rw[ax (λz=>by subst z;rw[Dj]at h;cases h)];exact h
  refine bX Dj hl lI (L' (aD ())) ⟨ms++[m],nofun,by simp[TU],λj k d l I=>?_,λb o e=>?_⟩
  ·by_cases hj:j < ms.length
   ·rw[W' hj]at l;exact rQ t7 i7 ((zE j k d l I).same O)
   ·rw[P' ()] at l
    cases IT:j-ms.length with
    |succ k=>rw[IT]at l;simp at l
    |zero=>
     rw[IT]at l;nofun;obtain rfl:=Option.some.inj l;have Sw:j=i:=by lia
     subst Sw;rw[bU iI,hmd]at I;obtain rfl:=Option.some.inj I;ac_rfl;exact rQ t7 i7 Bn
  ·rw[ax (au e hD)];exact O _ _ (p _ _ e)
 intro ys H4 bD hl zp;obtain⟨ms,rfl,TU,zE,p⟩:=zp;have mj:ms.length=gF.length:=by have:=hM.1;lia
 have i:=p _ _ ht;right;calc cT _ _ (.inr (bq.of i)) (av (j:=1) rfl) ?_;right;calc bL _ (.inl (aO.of (p _ _ KL))) (λr vZ=>?_);have G:=aq.new (.lst wv) vZ;calc cT _ _ (.inr (bq.of (G _ _ i))) (av (j:=2) rfl) ?_;right;calc bL _ (.inl (aO.of (G _ _ (p _ _ IG)))) (λv qG=>?_);have N:=aq.new (.lst y) qG;have l:=N _ _ (ab (H:=H4) (a:=r) (o:=.lst wv));have I:upd (upd H4 r (.lst wv)) v (.lst y) v=some (.lst y):=ab;have v7:=G.trans N;generalize Wz:upd (upd H4 r (.lst wv)) v (.lst y)=G7 at *;have k:wv.length=ws.length:=by have:=hW.1;simpa using this
 have i:y.length=ls.length:=by have:=hL.1;simpa using this
 intro x L Y Uw aag;have S:aq G7 (upd (upd G7 L (.own x)) x (.ins CN L [])):=λb o e=>by rw[ax (au e Y),ax (au e Uw)];exact e
 have i:=p.trans (v7.trans S);have t:=g.m1;have t:=g.m5;have t:=g.ED;have t:=g.WN;refine⟨x,L,D,r,v,ms,wv,y,ws,ls,rfl,ab,S _ _ (v7 _ _ bD),S _ _ l,S _ _ I,(),(),(),(),λm hm=>?_,hW.aA i.aJ,hL.aA i.aJ,λw r=>by rw[mj];calc g.wo w r,λl hl=>by rw[k];calc g.lo l hl,λH9 hn9 hk9=>⟨rfl,?_⟩⟩
 ·nofun;obtain⟨j,hj,rfl⟩:=List.getElem_of_mem hm;obtain⟨i,k,l,R,_,_⟩:=(zE j _ gF[j] (bU hj) (bU ())).same (v7.trans S);ac_rfl;exact⟨_,_,R⟩
 ·have k:aq H4 H9:=λb o e=>hk9 b o (au (v7 _ _ e) Y) (S _ _ (v7 _ _ e));have i:=p.trans k;calc q x ms wv y H9 i ⟨⟨ms,wv,y,hn9,mj,λj m d a b=>(zE j m d a b).same k,hW.aA i.aJ⟩,g.nt⟩ hn9 (hL.aA i.aJ)
def nI(n:NT)(r:RS)(w k:Nat):List Int:=match (r.ww w).snd.getD k none with
 |none=>(r.mm (n.goal w)).hr.bA (List.replicate n.ms.length 0)
 |some (s,c)=>List.zipWith max ((r.mm (n.goal w)).hr.bA (List.replicate n.ms.length 0)) ((r.mm s.toNat).hr.getD (c-1).toNat [])
theorem KO{n:NT}{w k:Nat}:n.cY r w k=(nI n r w k).set (n.goal w) (n.ev r w).2:=rfl
theorem KP{l:List Int}{c:Int}{n:Nat}(a:l.length=n)(b:m<n):((List.range n).map λj=>V.int (l.getD j 0+(if decide (((j:Nat):Int)=((m:Nat):Int))=true then 1 else 0))).set m (.int c)=(l.set m c).map V.int:=by
 apply List.ext_getElem (by simp[a]);intro j b d;have e:j<n:=by simpa using b
 simp only[List.getElem_map,List.getElem_set,List.getElem_range];by_cases z:m=j
 ·rw[if_pos z,if_pos z]
 ·rw[if_neg z,if_neg z,if_neg (by simp;lia),getD_at (bU ()),Int.add_zero]
theorem Pq{l:List (Option (Int×Int))}{k:Nat}{a:List (Key×V)}{v:V}(h:OR H0 (.d (kn l) (l.countP Option.isSome)) (.dK a))(b:l[k]?=some none)(c:HD H0 4 v (pairD e)):OR H0 (.d (kn (l.set k (some e))) ((l.set k (some e)).countP Option.isSome)) (.dK (putK a (Sum.inl ((k:Nat):Int)) v)):=by
 have f:k<l.length:=(List.getElem?_eq_some_iff.mp b).1;have g:gn a (Sum.inl ((k:Nat):Int))=none:=by
  have:=h.2 ((k:Nat):Int);have a:kn l ((k:Nat):Int)=none:=by
   unfold kn;rw[if_pos (),X',getD_at b];rfl
  rw[a]at this;exact this
 refine⟨?_,λj=>?_⟩
 ·rw[Eu v g,count_set b,aac,List.length_singleton];have:=h.1;lia
 ·rw[GI f,Et];by_cases z:j=((k:Nat):Int)
  ·rw[if_pos z,if_pos (by rw[z])];exact⟨v,rfl,c⟩
  ·rw[if_neg z,if_neg (λq=>z (Sum.inl.inj q))];calc h.2 j
theorem KQ{r:RS}{n:NT}{w k:Nat}:∀t i,i<n.n t->setC (setC (setC (setC (setC r.tv 3 (n.goal w) (.l (((r.mm (n.goal w)).hr.map λu=>DV.lst (u.map .int))++[.lst ((n.cY r w k).map .int)]))) 6 w (.d (kn ((r.ww w).da.set k (some (n.ev r w)))) (((r.ww w).da.set k (some (n.ev r w))).countP Option.isSome))) 1 (n.goal w) (.l ((r.mm (n.goal w)).fe.map q5++[q5 ((n.work r w k).ns,(n.work r w k).row)]))) 2 (n.goal w) (.l (((r.mm (n.goal w)).wp.map λu=>DV.lst (u.map .int))++[.lst (((r.mm (n.goal w)).wp.bA []++(n.work r w k).words).map .int)]))) 0 0 (.l (r.picks.map pairD++[pairD ((w:Int),(k:Int))])) t i=(r.step n w k).tv t i:=by
 intro t i a;unfold setC
 match t,a with
 |0,a=>
  have:i=0:=by have:i<1:=a;lia
  subst this;simp[RS.tv,RS.step]
 |1,_=>by_cases e:i=n.goal w<;>simp[RS.tv,RS.step,e]
 |2,_=>by_cases e:i=n.goal w<;>simp[RS.tv,RS.step,e]
 |3,_=>by_cases e:i=n.goal w<;>simp[RS.tv,RS.step,e]
 |4,_=>by_cases e:i=w<;>simp[RS.tv,RS.step,e]
 |5,_=>by_cases e:i=w<;>simp[RS.tv,RS.step,e]
 |6,_=>by_cases e:i=w<;>simp[RS.tv,RS.step,e]
 |(t+7),a=>calc absurd a (abk i)
theorem GS{r:RS}{n:NT}{w:Nat}{x:Int}{s:Option (Int×Int)}:∀t i,i<n.n t->setC (setC r.tv 4 w (.l ((r.ww w).say.map .int++[.int x]))) 5 w (.l ((r.ww w).snd.map sJ++[sJ s])) t i=(r.put w x s).tv t i:=by
 intro t i a;unfold setC
 match t,a with
 |0,_=>simp[RS.tv,RS.put]
 |1,_=>simp[RS.tv,RS.put]
 |2,_=>simp[RS.tv,RS.put]
 |3,_=>simp[RS.tv,RS.put]
 |4,_=>by_cases e:i=w<;>simp[RS.tv,RS.put,e]
 |5,_=>by_cases e:i=w<;>simp[RS.tv,RS.put,e]
 |6,_=>by_cases e:i=w<;>simp[RS.tv,RS.put,e,Dg]
 |(t+7),a=>calc absurd a (abk i)
theorem vD{H:Hp}{n:Nat}{v:V}{ns:List Int}(h:HD H n v (.lst (ns.map .int))):∃a,v=.ref a/\H a=some (.lst (ns.map V.int)):=by
 cases h with
 | @lst n a b _ e l i=>calc⟨a,rfl,by rw[e,show b=ns.map V.int from eL.qY ⟨l,i⟩]⟩
theorem GU{x y:HO}(h:a≠b):upd (upd H a x) b y=upd (upd H b y) a x:=by
 funext c;by_cases d:c=a
 ·subst d;rw[ax h,ab,ab]
 ·by_cases e:c=b
  ·subst e;rw[ab,ax d,ab]
  ·rw[ax e,ax d,ax d,ax e]
theorem Bw{K:W.Frag}{j:Addr}{nt:NT}{g:Nat}{e:Nat}(v:e<2)(f:H j=some (.lst wv))(p:fc H 1 wv (nt.ws.map jr))(P:wv.length<=10)(x:σ[3]?=some (some (.int ((g:Nat):Int))))(r:H D=none)(q:∀H1,aq H H1->H1 D=some (.lst ((sT nt e g).map λi=>V.int ((i:Nat):Int)))->Q (.ref D) H1):ki [none,none,some 3] (NV true K j) (DS K 2 (lN (fC 0) (lN (fC 1) DR))) (tT (D7 (Oi K) (D7 (NO K) (tV 1) (tC (V.int ((e:Nat):Int)))) (tV 2))) (tV 0) σ H Q D:=by
 have A:wv.length=nt.ws.length:=by simpa using p.1
 have B:sr [none,none,some 3] σ=[none,none,some (.int ((g:Nat):Int))]:=by simp[sr,x]
 refine aY (n:=wv.length) (λi ys H'=>aq H H'/\ys=((List.range i).filter λj=>decide (rD nt e j=((g:Nat):Int))).map λj=>V.int (j:Nat)) (L' (aD ())) ⟨aq.new _ r,rfl⟩ ?_ ?_ ?_ ?_
 ·rintro i ys H' h ⟨a,_⟩;exact⟨wv,wv[i],Sq.l (a _ _ f),bU h⟩
 ·rintro ys H' ⟨a,_⟩;exact⟨wv,Sq.l (a _ _ f),rfl⟩
 ·intro i ys H' h d s C R S E;rw[B];obtain⟨a,rfl⟩:=C;obtain⟨k,m,rfl,y⟩:=E;obtain⟨b,F,rfl⟩:=y wv (Sq.l (a _ _ f));have j:i < nt.ws.length:=by lia
  have o:=aq.new (.tup [.int (i:Nat),b]) m;have I:=(p.2 i b (jr (nt.w i)) F (by rw[A',show nt.ws[i]?=some (nt.w i) from bc j];rfl)).aA (a.trans o).aJ;have J:upd H' k (.tup [.int (i:Nat),b]) k=some (.tup [.int (i:Nat),b]):=ab;have t:=o _ _ d;have u:=a.trans o;generalize T:upd H' k (.tup [.int (i:Nat),b])=G at *;obtain⟨U,X,Y,Z,kk,rfl,L,M,N,O⟩:=bE I;obtain rfl:=M.cj;obtain rfl:=N.cj;obtain rfl:=O.cE;calc zf (bq.of J) ⟨Ext.set (Ext.set (Ext.refl _) rfl) rfl,?_⟩;left;refine cp L (show iG _ ((e:Nat):Int)=some (.int (rD nt e i)) from av (by match e,v with
   |0,_=>rfl
   | 1,_=>rfl)) ?_
  left;by_cases z:rD nt e i=((g:Nat):Int)
  ·rw[if_pos (aaj z)];calc bX t s h (L' (aD ())) ⟨λc o e=>by rw[ax (au e r)];calc u _ _ e,?_⟩;rw[iD,if_pos (aaj z),aar];rfl
  ·rw[if_neg λh=>z (aaD h)];exact⟨_,t,(),u,by rw[iD,if_neg λh=>z (aaD h),Y']⟩
 ·rintro ys H1 d s ⟨a,rfl⟩;rw[A]at d;calc q H1 a d
abbrev mD:Stmt:=top 64
inductive GV(vs:List V)(H:Hp)(Q:VK):Prop
 |mk (F:Addr->Prop) (d:Addr) (tn:V) (nt:NT) (r:RS) (ad:Nat->Nat->Addr) (wy k:Nat) (h0:vs=[.ref d,.int (wy:Nat),.int (k:Nat)]) (h1:bY F H d tn nt r ad) (h2:FS F H) (h3:r.Ok nt) (h4:r.sX nt wy k) (h5:r.picks.length<=400) (h6:∀t H',Fr (FP nt.n ad) H H'->bY F H' d tn nt (r.pick nt wy k) ad->HT H' 1 t (pairD (nt.ev r wy))->Q t H'):GV vs H Q
def qt:Sp:=λvs H Q _=>GV vs H Q
theorem zO(D:cL K mg "_law_pick" "_law_pick" mD dh)(T:Tx K mg C CN CR F FD)(jL:Def P w K mg base "_law_worked" 2 cz (Bt K)):Def P w K mg base "_law_pick" 3 dh qt:=by
 exists["_law_run","_law_way","_law_number","_law_m","_law_place","_law_outs","_law_event","_law_state","_law_sent","_law_words","_law_row","_law_source","_law_c","_law_j","_law_said"];obtain⟨F,d,tn,m,r,ad,B,k,rfl,M,kD,O,hc,IK,q⟩:=h;have G:=hr.units;have F1:=Yi G;refine⟨_,(ai (aT (i:=3) sc rfl Sort (aj G (aj G (aj G (aj G (ao 0) aB) ag) (ao 1)) ag))
  (ai (aT (i:=4) sc rfl Sort (du nS PySem.F.slot_list_index PySem.F.type_list_index uc (dD (N':=e8) (ix:=[none,none,some 3]) (jC rfl T.dE (af (aj G (aj G (ao 0) aB) ag) aa)) (λ_ _ _ _=>(nc (K:=K) rfl (i:=0) (j:=1) rfl (show(e8:List Str).Nodup by decide +kernel) rfl rfl Sort Sort)) (λ_ _ _ _=>(gC (az (jm (K:=K) rfl G) (bW (K:=K) rfl G (ao 1) ag) (ao 2) (aG _)))) (λ_ _ _ _=>(ao 0))) (af (ao 1) aa)))
  (ai (dP (i:=5) sc rfl Sort (N':=e8) (ix:=[none,none,some 3]) (jC rfl T.dE (af (aj G (aj G (ao 0) aB) ag) aa)) (λ_ _ _ _=>(nc (K:=K) rfl (i:=0) (j:=1) rfl (show(e8:List Str).Nodup by decide +kernel) rfl rfl Sort Sort)) (λ_ _ _ _=>(gC (az (jm (K:=K) rfl G) (bW (K:=K) rfl G (ao 1) ag) (ao 2) (aG _)))) (λ_ _ _ _=>(ao 0)))
  (ai (aT (i:=6) sc rfl Sort (bu (af (ao 3) (af (aZ aN rfl T.bV T' (af (aj G (aj G (ao 0) aB) (ao 3)) aa)) aa))))
  (ai (ff (aE jL hr (af (aj G (aj G (aj G (ao 0) aB) ag) (ao 3)) (af (aj G (aj G (aj G (ao 0) aB) (ao 3)) (mS jy ag)) (af (ao 4) (af (aj G (aj G (aj G (ao 0) aB) (ao 1)) (ao 2)) aa))))) (wZ (i:=7) (j:=8) (l:=9) rfl sc rfl rfl rfl Sort Sort Sort))
  (ai (aT (i:=10) sc rfl Sort (aj G (aV cS (bF (af (aV Ft (bF (af ag aa)) (aZ aN rfl T.bV T' (af (aj G (aj G (ao 0) aB) ag) aa))) aa)) (aj G (aj G (ao 0) aB) (ao 3))) (mS jy ag)))
  (ai (aS (az tY (aj G (aj G (aj G (ao 0) aB) (ao 1)) (ao 2)) lV (aG _)) (ai (ff (aj G (aj G (aj G (ao 0) aB) (ao 1)) (ao 2)) (gq (i:=11) (j:=12) rfl sc rfl rfl Sort Sort))
  (ak (DT (i:=10) sc rfl Sort (dD (N':=["_law_one","_law_other"]) (ix:=[none,none]) (Fc rfl T.FQ (af (ao 10) (af (aj G (aj G (aj G (ao 0) aB) (ao 11)) (aV fq (ao 12) ag)) aa))) (λ_ _ _ _=>(nc (K:=K) rfl (i:=0) (j:=1) rfl (show(["_law_one","_law_other"]:List Str).Nodup by decide +kernel) rfl rfl Sort Sort)) nu (λ_ _ _ _=>(aZ (Cm rfl) rfl T.Lv PyProof.Rows.boot_max (af (ao 0) (af (ao 1) aa))))) rfl))) aI)
  (ai (bS (du nS qy qz b8 (aj G (aj G (ao 0) aB) (ao 3)) (af (dD (N':=["_law_k","_law_row","_law_m"]) (ix:=[none,some 10,some 3]) (cJ rfl T.eu (af (aZ aN rfl T.bV T' (af (ao 10) aa)) aa)) (λ_ _ _ _=>(aP (i:=0) (show(["_law_k","_law_row","_law_m"]:List Str).Nodup by decide +kernel) rfl Sort)) nu (λ_ _ _ _=>(aV cS (bW (K:=K) rfl G (ao 1) (ao 0)) (cQ tI rfl T.AN PyProof.Rows.boot_int (af (gB (jm (K:=K) rfl G) (ao 0) (ao 2) (aG _)) aa))))) aa)))
  (ai (ff (aj G (ao 6) ag) (iF (aj G (aj G (aj G (ao 0) aB) (ao 3)) (mS jy ag)) (ao 3) dW))
  (ai (k9 F1 (aj G (aj G (ao 0) aB) (ao 1)) (ao 2) (ao 6) rfl)
  (ai (bS (du nS qy qz b8 (aj G (aj G (ao 0) aB) (ao 3)) (af (ao 7) aa)))
  (ai (bS (du nS qy qz b8 (aj G (aj G (ao 0) aB) (ao 3)) (af (aV cS (aj G (aj G (aj G (ao 0) aB) (ao 3)) (mS jy ag)) (ao 9)) aa)))
  (ai (bS (du nS qy qz b8 (aj G (ao 0) aB) (af (bu (af (ao 1) (af (ao 2) aa))) aa)))
  (ai (eI PassesOwn.never rfl (bR (pv 8)) (gq (i:=13) (j:=14) rfl sc rfl rfl Sort Sort)
  (ak (aS (az gp (ao 13) (aZ aN rfl T.bV T' (af (ao 5) aa)) (aG _)) (ai (bS (du nS qy qz b8 (aj G (aj G (ao 0) aB) (aj G (ao 5) (ao 13))) (af (ao 14) aa)))
  (ak (bS (du nS qy qz b8 (aj G (aj G (ao 0) aB) (aj G (ao 5) (ao 13))) (af (ao 6) aa))))) aI)))
  (ak (aH (ao 6))))))))))))))))),?_⟩
 nofun;obtain⟨o,N,nF,nP,ho⟩:=M.dk;obtain⟨ls,tt,am,aw,al,mv,wv,lv,rfl,h1,h2,h3,h4,h5,h6,h7⟩:=M.told;have g1:=(dz h1 (λk z=>by cases z)).2;have g2:=(dz h2 (λk z=>by cases z)).2;have g3:=(dz h3 (λk z=>by cases z)).2
 replace h5:=h5.cv dZ
 replace h6:=h6.aA dZ.aJ
 have W:=M.ok;have L:=hc.lt;have I:=W.ei L;have jw:wv.length=m.ws.length:=by simpa using h6.1
 have mj:mv.length=m.ms.length:=h5.1;have p5:wv.length<=10:=by rw[jw];exact W.Cz
 have Iw:m.ms.length<=5:=W.Qp;obtain⟨wk1,wk2,wk3,Y4⟩:=qi W O L k;ac_rfl;have Bj:k<(r.ww B).say.length:=by rw[O.lk B L];exact(List.getElem?_eq_some_iff.mp hc.lies).1
 left;calc bL _ (De N) ?_;left;calc cp g1 (av (j:=1) rfl) ?_;have Ts:m.ws[B]?=some (m.w B):=bc L;have afY:B<wv.length:=by lia
 have C8:=h6.2 B wv[B] (jr (m.w B)) nofun (by rw[A',Ts];rfl);nofun;obtain⟨ta,u1,u2,u3,kk,eta,oR,q1,q2,q3⟩:=bE C8;obtain rfl:=q1.cj;obtain rfl:=q2.cj;obtain rfl:=q3.cE;ac_rfl;calc bx g3 (av (j:=B) (v:=.ref ta) (by rw[<-eta];simp)) ?_;calc cp oR (show iG _ 1=some (.int ((m.goal B:Nat):Int)) from by rw[<-qm W L];calc av (j:=1) rfl) ?_;left;calc bC ?_;left;calc bL _ (De ((aq.refl H) _ _ N)) ?_;left;calc cp ((aq.refl H) _ _ g1) (av (j:=1) rfl) ?_;left;calc Fy true wv (Sq.l ((aq.refl H) _ _ g3)) (λD1 DA=>?_);calc Bw ∅ g3 h6 p5 rfl DA (λH1 s1x H1e=>?_);have Pr:aq H H1:=s1x;left;calc⟨.inl ⟨rfl,_,aO.of H1e⟩,?_⟩;obtain⟨Y5,Y6⟩:=rK (Gr W L);refine⟨D1,_,m.place B,B,rfl,rfl,by rw[H1e,uv],?_,?_,?_⟩
 ·rw[A',<-nE W L,Y5];rfl
 ·intro i y hi hy;rw[A']at hy;obtain⟨z,hz,rfl⟩:=Option.map_eq_some_iff.mp hy;have:=Y6 i z (by rw[nE W L];calc hi) hz;lia
 left;calc bC ?_;left;calc bL _ (De (Pr _ _ N)) ?_;left;calc cp (Pr _ _ g1) (av (j:=1) rfl) ?_;left;calc Fy true wv (Sq.l (Pr _ _ g3)) (λD2 vp=>?_);calc Bw ∅ (Pr _ _ g3) (h6.aA Pr.aJ) p5 rfl vp (λH2 s2x H2e=>?_);have WU:aq H H2:=Pr.trans s2x;left;calc bL _ (Pj (WU _ _ N)) ?_;have o1:=ho 1 ∅ ∅;have o2:=ho 2 ∅ ∅;have o3:=ho 3 ∅ ∅;have o4:=ho 4 ∅ ∅;have o5:=ho 5 ∅ ∅;have o6:=ho 6 ∅ ∅;have i0:0<m.n 0:=by show 0<1;decide
 obtain⟨v1,e1,d1⟩:=M.cP.lst (t:=1) (i:=m.goal B) I rfl;have z1:v1.length=(r.mm (m.goal B)).fe.length:=by simpa using d1.1
 have Uz:=O.wX I;left;calc bx (WU _ _ o1.1) (bo I) ?_;calc gO _ (.inl ⟨_,aO.of (WU _ _ e1),rfl⟩) cR (λev Wy=>?_);rw[z1];have Wx:=aq.new (.tup [.int ((m.goal B:Nat):Int),.int (((r.mm (m.goal B)).fe.length:Nat):Int)]) Wy;have R:=WU.trans Wx;have aak:HT (upd H2 ev (.tup [.int ((m.goal B:Nat):Int),.int (((r.mm (m.goal B)).fe.length:Nat):Int)])) 1 (.ref ev) (pairD (m.ev r B)):=dy (n:=0) ab (.int _) (.int _);have aal:upd H2 ev (.tup [.int ((m.goal B:Nat):Int),.int (((r.mm (m.goal B)).fe.length:Nat):Int)]) ev=some (.tup [.int ((m.goal B:Nat):Int),.int (((r.mm (m.goal B)).fe.length:Nat):Int)]):=ab;generalize hG3:upd H2 ev (.tup [.int ((m.goal B:Nat):Int),.int (((r.mm (m.goal B)).fe.length:Nat):Int)])=H3 at *;have H3o:=Wx _ _ H2e;left;calc bL _ (De (R _ _ N)) ?_;left;calc cp (R _ _ g1) (av (j:=0) rfl) ?_;have af3:m.goal B<mv.length:=by lia
 have Y7:m.ms[m.goal B]?=some (m.ms.getD (m.goal B) default):=bc I;obtain⟨mt,ln,lr,ld,xsd,emt,t1,t2,t3,t4,t5⟩:=h5.2 (m.goal B) mv[m.goal B] _ nofun Y7;have Kk:=W.gd I;calc bx (R _ _ g2) (av (j:=m.goal B) (v:=.ref mt) (by rw[<-emt];simp)) ?_;calc bL _ (Pj (R _ _ N)) ?_;left;calc bx (R _ _ o1.1) (bo I) ?_;obtain⟨sv,esv,dsv⟩:=d1.get (i:=(r.mm (m.goal B)).fe.length-1) (d:=q5 ((r.mm (m.goal B)).fe.bA ([],[]))) (by rw[A',nr (d:=([],[])) Uz];rfl);have Qz:=(LN (dsv.cv dZ)).aA R.aJ;calc bx (R _ _ e1) (nC () (by rw[z1];calc esv)) ?_;left;calc bL _ (KG (R _ _ N)) ?_;nofun;obtain⟨v4,e4,d4⟩:=M.cP.lst (t:=4) (i:=B) L rfl;have z4:=d4.qY;subst z4;ac_rfl;left;calc bx (R _ _ o4.1) (bo L) ?_;calc bx (R _ _ e4) (av (j:=k) (v:=.int ((r.ww B).say.getD k 0)) (by rw[A',bc (d:=0) Bj];rfl)) ?_;have rL:=O.last I;calc⟨mt,ln,lr,ld,sv,_,_,_,xsd,_,_,_,rfl,R _ _ t1,R _ _ t4,t5.aA R.aJ,wU.of Qz,Kk.m2,Kk.Yf,rL.bn,rL.lr,Kk.Wo,by rw[rL.ln];calc Kk.ok,λrx H4 Mb OL=>?_⟩;have WV:=R.trans Mb;nofun;obtain⟨rp,IL,QB,LP,zs,rfl,Y8,zG,OM,p6,zH,Y9,fl2,Zb⟩:=OL.ex
 replace zG:HT H4 2 IL (wQ (m.work r B k).ns (m.work r B k).row):=zG
 replace p6:SL H4 zs (m.work r B k).cu:=p6
 replace zH:H4 LP=some (.lst ((m.work r B k).words.map V.int)):=zH
 ac_rfl;have UU:=aak.aA Mb.aJ;have aam:=Mb _ _ aal;have H4o:=Mb _ _ H3o;calc un3 (bq.of Y8) ?_;left;calc⟨∅,λlz hlz=>?_⟩;have Kl:=aq.new (.lst [.int 0]) hlz;have elz:upd H4 lz (.lst [.int 0]) lz=some (.lst [.int 0]):=ab;generalize hG5:upd H4 lz (.lst [.int 0])=H5 at *;have OI:=WV.trans Kl;calc bL _ (De (OI _ _ N)) ?_;left;calc cp (OI _ _ g1) (av (j:=0) rfl) ?_;calc bL _ (.inl ⟨_,aO.of (OI _ _ g2),rfl⟩) ?_;calc Oe _ elz () () (λS hlq=>?_);rw[X',mj];have LQ:=aq.new (.lst (List.replicate m.ms.length (V.int 0))) hlq;have elq:upd H5 S (.lst (List.replicate m.ms.length (V.int 0))) S=some (.lst ((List.replicate m.ms.length 0).map V.int)):=by rw[ab,List.map_replicate]
 generalize Ws:upd H5 S (.lst (List.replicate m.ms.length (V.int 0)))=H6 at *;calc⟨∅,λla hla=>?_⟩;have v7:=aq.new (.lst [.ref S]) hla;have ela:upd H6 la (.lst [.ref S]) la=some (.lst [.ref S]):=ab;generalize Wz:upd H6 la (.lst [.ref S])=H7 at *;have UT:=Kl.trans (LQ.trans v7);have sH7:=WV.trans UT;calc bL _ (KI (sH7 _ _ N)) ?_;obtain⟨v3,e3,d3⟩:=M.cP.lst (t:=3) (i:=m.goal B) I rfl;have z3:v3.length=(r.mm (m.goal B)).hr.length:=by simpa using d3.1
 have hlh:=O.lh _ I;have Zg:=O.bp _ I;left;calc bx (sH7 _ _ o3.1) (bo I) ?_;calc .inl ⟨_,_,ela,sH7 _ _ e3,L' (small (by simp;lia)),λlb hlb=>?_⟩;have s78:=aq.new (.lst ([.ref S]++v3)) hlb;have elb:upd H7 lb (.lst ([.ref S]++v3)) lb=some (.lst ([.ref S]++v3)):=ab;generalize hG8:upd H7 lb (.lst ([.ref S]++v3))=H8 at *;have s48:=UT.trans s78;have X:=WV.trans s48;have UW:∃rl,iG ([V.ref S]++v3) (-1)=some (.ref rl)/\H8 rl=some (.lst (((r.mm (m.goal B)).hr.bA (List.replicate m.ms.length 0)).map V.int)):=by
  by_cases h1:1<=(r.mm (m.goal B)).hr.length
  ·nofun;obtain⟨v,Y3,dv⟩:=d3.get (i:=(r.mm (m.goal B)).hr.length-1) (d:=.lst (((r.mm (m.goal B)).hr.bA (List.replicate m.ms.length 0)).map .int)) (by rw[A',nr (d:=List.replicate m.ms.length 0) h1];rfl);obtain⟨a,rfl,ea⟩:=vD (dv.cv dZ);ac_rfl;calc⟨a,nC nofun ?_,X _ _ ea⟩;rw[aac,List.length_singleton,P' (by simp;lia)];rw[show 1+v3.length-1 - [V.ref S].length=(r.mm (m.goal B)).hr.length-1 by simp;lia];exact Y3
  ·have ez:(r.mm (m.goal B)).hr=[]:=List.length_eq_zero_iff.mp ();have ev3:v3=[]:=List.length_eq_zero_iff.mp ();refine⟨S,?_,?_⟩
   ·rw[ev3];exact nC nofun rfl
   ·rw[ez];show H8 S=some (.lst (List.map V.int (List.getD ([]:List (List Int)) _ _)));exact s78 _ _ (v7 _ _ elq)
 obtain⟨rl,erl,xE⟩:=UW;calc bx elb erl ?_;left;calc bL _ (KH (X _ _ N)) ?_;obtain⟨v5,e5,d5⟩:=M.cP.lst (t:=5) (i:=B) L rfl;have Iy:=O.ls B L;left;calc bx (X _ _ o5.1) (bo L) ?_;obtain⟨v5k,ev5,WW⟩:=d5.get (i:=k) (d:=sJ ((r.ww B).snd.getD k none)) (by rw[A',bc (d:=none) ()];rfl);calc bx (X _ _ e5) (av ev5) ?_;left;rename_i N2 hN2 T2 U2 Io hU2;have UX:(nI m r B k).length=m.ms.length:=by
  have:=wY W O L (k:=k);rw[KO,List.length_set]at this;exact this
 have rest:∀(WX:Addr) (z11 OQ:Option V) (H9:Hp),aq H8 H9->H9 WX=some (.lst ((nI m r B k).map V.int))->N2 [some (V.ref d),some (V.int ((B:Nat):Int)),some (V.int ((k:Nat):Int)),some (V.int ((m.goal B:Nat):Int)),some (V.int ((m.place B:Nat):Int)),some (V.ref D2),some (V.ref ev),some IL,some (V.ref QB),some (V.ref LP),some (V.ref WX),z11,OQ,none,none] H9:=by
  clear Io hU2 T2 U2;intro WX z11 OQ H9 s89 UY;have Q3:=s48.trans s89;have Mc:=WV.trans Q3;have b9:=M.cP.same Mc;left;calc bL _ (KI (Mc _ _ N)) ?_;left;calc bx (Mc _ _ o3.1) (bo I) ?_;calc⟨.inl ⟨rfl,_,aO.of (Mc _ _ e3)⟩,?_⟩;calc bC ?_;left;calc bL _ (.inl ⟨_,aO.of UY,rfl⟩) ?_;left;rw[R',UX];calc ir () () (λhl UZ=>?_);rw[X'];refine aY (J:=zY 0 m.ms.length) (n:=m.ms.length) (λi ys H'=>aq H9 H'/\ys=(List.range i).map λj=>V.int ((nI m r B k).getD j 0+(if decide (((j:Nat):Int)=((m.goal B:Nat):Int))=true then 1 else 0))) (L' (aD ())) ⟨aq.new _ UZ,rfl⟩ (λi ys H' hi _=>hi) (λys H' _=>J' _) ?_ ?_
  ·intro i ys H' hi bD iu zp x H2' CP;nofun;obtain⟨Y,rfl⟩:=zp;obtain⟨rfl,rfl⟩:=CP;ac_rfl;walk_at "xf";left
   try rw[if_pos trivial]
   calc bx (Y _ _ UY) (show iG _ (0+(i:Int))=some (.int ((nI m r B k).getD i 0)) from by rw[Int.zero_add];calc av (by rw[A',bc (d:=0) ()];rfl)) ?_;refine .inr ?_
   try rw[Int.zero_add]
   calc bX bD iu hi (L' (aD ())) ⟨λc o e=>by rw[ax (au e UZ)];calc Y _ _ e,?_⟩;rw[List.range_succ,aar];rfl
  rintro ys zI bD iu ⟨Dm,rfl⟩;clear iu;have Dn:=Mc.trans Dm;left;calc gO v3 (Dn _ _ e3) (small ()) ?_;left;have nA:ad 3 (m.goal B)≠hl:=λz=>by have:=Mc _ _ e3;rw[z,UZ]at this;cases this
  have kA:∀b o,b≠ad 3 (m.goal B)->zI b=some o->upd zI (ad 3 (m.goal B)) (.lst (v3++[.ref hl])) b=some o:=λb o n e=>by rw[ax n];exact e
  have GW:∀{b:Addr} {o:HO},zI b=some o->¬FP m.n ad b->b≠ad 3 (m.goal B):=λ{b o} _ h z=>h ⟨3,m.goal B,I,z⟩;have Md:=Dm _ _ (Q3 _ _ aam);have nev:ev≠ad 3 (m.goal B):=λz=>by have:=Dn _ _ e3;rw[<-z,Md]at this;cases this
  calc cp (kA _ _ nev Md) (av (j:=1) rfl) ?_;calc bL _ (KI (kA _ _ (GW (Dn _ _ N) nP) (Dn _ _ N))) ?_;left;calc bx (kA _ _ (GW (Dn _ _ o3.1) o3.2.2) (Dn _ _ o3.1)) (bo I) ?_;calc bx ab ko ?_;left;calc⟨_,m.goal B,kA _ _ (Ne.symm nA) bD,ny (by simp;lia),?_⟩;rw[KP UX I,show(nI m r B k).set (m.goal B) (((r.mm (m.goal B)).fe.length:Nat):Int)=m.cY r B k from rfl,GU nA];have sK:aq H9 (upd zI hl (.lst ((m.cY r B k).map V.int))):=λb o e=>by rw[ax (au e UZ)];exact Dm _ _ e
  have eK:upd zI hl (.lst ((m.cY r B k).map V.int)) hl=some (.lst ((m.cY r B k).map V.int)):=ab;generalize hGK:upd zI hl (.lst ((m.cY r B k).map V.int))=K10 at *;have WZ:=Mc.trans sK;have bK:=M.cP.same WZ;have FSK:FS F K10:=kD.fr (Z:=λ_=>False) WZ.fr (λ_ _ h=>h);have fresh:∀{b:Addr},H9 b=none->¬(F b\/FP m.n ad b):=λ{b} hb z=>by
   rcases z with z|z
   ·obtain⟨o,e,_⟩:=kD b z;rw[Mc _ _ e]at hb;cases hb
   ·obtain⟨o,e,_⟩:=b9.fp z;rw[e]at hb;cases hb
  have e3K:=WZ _ _ e3;have tX:=(BF.mk bK WZ.fr (Q3.trans sK).fr).app (t:=3) (i:=m.goal B) I rfl e3K (eL.one (show HD _ 4 (.ref hl) (.lst ((m.cY r B k).map .int)) from .lst (by rw[gr (fresh UZ)];calc eK) nofun (λi u e G he=>(eL.ints (H:=iI (λb=>F b\/FP m.n ad b) K10) (n:=3) (m.cY r B k)).2 i u e G he)));generalize Tv:upd K10 (ad 3 (m.goal B)) (.lst (v3++[.ref hl]))=Tw at *;clear kA GW;left;calc bL _ (UC (tX.f.at N nP)) ?_;obtain⟨kv6,e6,d6⟩:=tX.b.dct (t:=6) (i:=B) L rfl;have Z1:=O.lk B L;have hbs:=O.bs B L;left;calc bx (tX.f.at o6.1 o6.2.2) (bo L) ?_;have Wb:((r.ww B).da.countP Option.isSome)<=(r.ww B).da.length:=List.countP_le_length;have h6l:=d6.1;calc⟨ad 6 B,_,rfl,yT.k (k:=Sum.inl ((k:Nat):Int)) e6 (small ()),?_⟩;have yq:=BF.mk (tX.b.upd (t:=6) (i:=B) L (Pq d6 hc.lies ((tX.b.ht (kD.fr tX.f M.cP.sW) (UU.aA tX.g.aJ)).mono ∅))) (tX.f.upd ⟨6,B,L,rfl⟩ e6 trivial) (tX.g.upd ⟨6,B,L,rfl⟩ e6 trivial);generalize Tz:upd Tw (ad 6 B) (.dK (putK kv6 (Sum.inl ((k:Nat):Int)) (.ref ev)))=QE at *;left;calc bL _ (Pj (yq.f.at N nP)) ?_;obtain⟨v1',Pt,Dp⟩:=yq.b.lst (t:=1) (i:=m.goal B) I rfl;have z1':v1'.length=(r.mm (m.goal B)).fe.length:=by simpa using Dp.1
  left;calc bx (yq.f.at o1.1 o1.2.2) (bo I) ?_;calc⟨.inl ⟨rfl,_,aO.of Pt⟩,?_⟩;left;calc gO v1' Pt (small ()) ?_;have IV:=yq.app (t:=1) (i:=m.goal B) I rfl Pt (eL.one (show HD _ 4 IL (q5 ((m.work r B k).ns,(m.work r B k).row)) from(yq.b.ht (kD.fr yq.f M.cP.sW) (zG.aA yq.g.aJ)).mono ∅));generalize agm:upd QE (ad 1 (m.goal B)) (.lst (v1'++[IL]))=QF at *;left;calc bL _ (UD (IV.f.at N nP)) ?_;obtain⟨v2,e2,d2⟩:=IV.b.lst (t:=2) (i:=m.goal B) I rfl;have z2:v2.length=(r.mm (m.goal B)).wp.length:=by simpa using d2.1
  have hlw:=O.lw _ I;left;calc bx (IV.f.at o2.1 o2.2.2) (bo I) ?_;calc⟨.inl ⟨rfl,_,aO.of e2⟩,?_⟩;calc bL _ (UD (IV.f.at N nP)) ?_;left;calc bx (IV.f.at o2.1 o2.2.2) (bo I) ?_;nofun;obtain⟨vw,evw,dvw⟩:=d2.get (i:=(r.mm (m.goal B)).wp.length-1) (d:=.lst (((r.mm (m.goal B)).wp.bA []).map .int)) (by rw[A',nr (d:=[]) ()];rfl);obtain⟨lw,rfl,elw⟩:=vD (dvw.cv dZ);ac_rfl;calc bx e2 (nC () (by rw[z2];calc evw)) ?_;have Gu:¬FP m.n ad QB:=λz=>by
   obtain⟨u,e,_⟩:=(M.cP.same R).fp z;rw[Y9]at e;cases e
  have ON:¬FP m.n ad LP:=λz=>by
   obtain⟨u,e,_⟩:=(M.cP.same R).fp z;rw[fl2]at e;cases e
  have hbw:=O.bw _ I _ (gJ (l:=(r.mm (m.goal B)).wp) (d:=[]) ());calc .inl ⟨_,_,elw,IV.g.at zH ON,L' (small (by simp;lia)),λnw hnw=>?_⟩;have GX:=aq.new (.lst (((r.mm (m.goal B)).wp.bA []).map V.int++(m.work r B k).words.map V.int)) hnw;have enw:upd QF nw (.lst (((r.mm (m.goal B)).wp.bA []).map V.int++(m.work r B k).words.map V.int)) nw=some (.lst (((r.mm (m.goal B)).wp.bA []++(m.work r B k).words).map V.int)):=by rw[ab,aar]
  generalize agr:upd QF nw (.lst (((r.mm (m.goal B)).wp.bA []).map V.int++(m.work r B k).words.map V.int))=H14 at *;have w14:=IV.same GX;have nnw:¬(F nw\/FP m.n ad nw):=λz=>by
   rcases z with z|z
   ·obtain⟨o,e,_⟩:=(kD.fr IV.f M.cP.sW) nw z;rw[hnw]at e;cases e
   ·obtain⟨o,e,_⟩:=IV.b.fp z;rw[hnw]at e;cases e
  left;calc gO v2 (GX _ _ e2) (small ()) ?_;have W0:=w14.app (t:=2) (i:=m.goal B) I rfl (GX _ _ e2) (eL.one (show HD _ 4 (.ref nw) (.lst (((r.mm (m.goal B)).wp.bA []++(m.work r B k).words).map .int)) from .lst (by rw[gr nnw];calc enw) nofun (λi u e G he=>(eL.ints (H:=iI (λb=>F b\/FP m.n ad b) H14) (n:=3) ((r.mm (m.goal B)).wp.bA []++(m.work r B k).words)).2 i u e G he)));generalize agt:upd H14 (ad 2 (m.goal B)) (.lst (v2++[.ref nw]))=H15 at *;left;calc bL _ (Df (W0.f.at N nP)) ?_;obtain⟨v0,e0,d0⟩:=W0.b.lst (t:=0) (i:=0) i0 rfl;have z0:v0.length=r.picks.length:=by simpa using d0.1
  left;calc ir (.inl ⟨rfl,_,aO.of e0⟩) cR (λtp IJ=>?_);have Me:=aq.new (.tup [.int ((B:Nat):Int),.int ((k:Nat):Int)]) IJ;have U3:HT (upd H15 tp (.tup [.int ((B:Nat):Int),.int ((k:Nat):Int)])) 1 (.ref tp) (pairD ((B:Int),(k:Int))):=dy (n:=0) ab (.int _) (.int _);generalize agu:upd H15 tp (.tup [.int ((B:Nat):Int),.int ((k:Nat):Int)])=UR at *;have W2:=W0.same Me;have U4:=Me _ _ e0;left;calc gO v0 U4 (small ()) ?_;have Mf:=W2.app (t:=0) (i:=0) i0 rfl U4 (eL.one ((W2.b.ht (kD.fr W2.f M.cP.sW) U3).mono ∅));generalize agv:upd UR (ad 0 0) (.lst (v0++[.ref tp]))=H17 at *;have aau:bY F H17 d (.ref tt) m (r.step m B k) ad:=M.own Mf.f (Mf.b.congr KQ);have Mg:SL H17 zs (m.work r B k).cu:=p6.aA Mf.g.aJ;have U5:=Mf.g.at OM Gu;have Mh:=UU.aA Mf.g.aJ;have nD2:¬FP m.n ad D2:=λz=>by
   obtain⟨u,e,_⟩:=(M.cP.same Pr).fp z;rw[vp]at e;cases e
  have aaw:=Mf.g.at H4o nD2;clear b9 bK tX yq IV w14 W0 W2 d0 Dp d2 d6;left;have QG:zs.length=(m.work r B k).cu.length:=Mg.1;have OO:=O.step W L (k:=k);have OP:∀a c,some (m.ev r B)=some (a,c)->0<=a/\a<m.ms.length/\1<=c/\c<=((r.step m B k).mm a.toNat).hr.length:=Bl W O L;refine⟨_,rfl,.inl ⟨⟨_,aO.of U5⟩,gM (K:=K) (xs:=zs) (λi σ H'=>(∃OS z14,σ=[some (V.ref d),some (V.int ((B:Nat):Int)),some (V.int ((k:Nat):Int)),some (V.int ((m.goal B:Nat):Int)),some (V.int ((m.place B:Nat):Int)),some (V.ref D2),some (V.ref ev),some IL,some (V.ref QB),some (V.ref LP),some (V.ref WX),z11,OQ,OS,z14])/\Fr (FP m.n ad) H17 H'/\bY F H' d (.ref tt) m ((r.step m B k).send (m.outs (m.goal B)) (m.ev r B) ((m.work r B k).cu.take i)) ad) ?_ ?_ ?_ ?_⟩⟩
  ·exact⟨⟨_,_,rfl⟩,Fr.refl,aau⟩
  ·rintro i σ H' hi ⟨_,fi,_⟩;exact aO.of (fi.at U5 Gu)
  ·intro i z σ H' hz Ky;nofun;obtain⟨⟨OS,z14,rfl⟩,fi,Bx⟩:=Ky;have q9:i < zs.length:=(List.getElem?_eq_some_iff.mp hz).1;have Gv:i < (m.work r B k).cu.length:=by lia
   have pS:(m.work r B k).cu[i]?=some (m.work r B k).cu[i]:=bU Gv;have TJ:=Y4 _ (aan Gv);have OT:=(Mg.2 i z _ hz pS).aA fi.aJ;have Km:(r.step m B k).send (m.outs (m.goal B)) (m.ev r B) ((m.work r B k).cu.take (i+1))=((r.step m B k).send (m.outs (m.goal B)) (m.ev r B) ((m.work r B k).cu.take i)).send (m.outs (m.goal B)) (m.ev r B) [(m.work r B k).cu[i]]:=by
    rw[abn,pS];exact oU _
   have zJ:=(RS.r8.send (outs:=m.outs (m.goal B)) (ev:=m.ev r B) ((m.work r B k).cu.take i) OO OP).mono (show _<=19998 by simp;lia);generalize (m.work r B k).cu[i]=p at *;obtain⟨pj,px⟩:=p;obtain⟨tz,u1,u2,kz,rfl,Dw,y1,y2⟩:=dH OT;obtain rfl:=y1.cj;obtain rfl:=y2.cj;ac_rfl;calc zf (bq.of Dw) ?_;have Mi:=fi.at aaw nD2;left;calc bL _ (.inl ⟨_,aO.of Mi,rfl⟩) ?_;left;have hlen:((sT m 0 (m.goal B)).map λi=>V.int ((i:Nat):Int)).length=(m.outs (m.goal B)).length:=by rw[R'];rfl
   rw[hlen];have ej:((pj.toNat:Nat):Int)=pj:=abl TJ;by_cases lE:pj<((m.outs (m.goal B)).length:Nat)
   ·rw[if_pos (by simpa using lE)];have Fw:pj.toNat < (m.outs (m.goal B)).length:=by lia
    have qo:(m.outs (m.goal B)).getD pj.toNat 0<m.ws.length:=by
     have:=getD_mem (d:=0) Fw;unfold NT.outs at this ⊢;rw[List.mem_filter,List.mem_range]at this;exact this.1
    have Tq:iG ((sT m 0 (m.goal B)).map λi=>V.int ((i:Nat):Int)) pj=some (.int (((m.outs (m.goal B)).getD pj.toNat 0:Nat):Int)):=by
     rw[<-ej];calc av ?_;rw[A'];show Option.map _ (m.outs (m.goal B))[_]?=_;rw[X',bc (d:=0) Fw];rfl
    nofun;obtain⟨U,how⟩:∃U,U=(m.outs (m.goal B)).getD pj.toNat 0:=⟨_,rfl⟩
    rw[<-how]at qo Tq;generalize hri:(r.step m B k).send (m.outs (m.goal B)) (m.ev r B) ((m.work r B k).cu.take i)=ri at *;obtain⟨oi,U6,nFi,nPi,U7⟩:=Bx.dk;have oi4:=U7 4 ∅ ∅;have U8:=U7 5 ∅ ∅;have bi:=Bx.cP;obtain⟨w4,x4,y4⟩:=bi.lst (t:=4) (i:=U) qo rfl;ac_rfl;have l4:w4.length=(ri.ww U).say.length:=by simpa using y4.1
    have LI:=zJ.bs U qo;have hb5:=zJ.ls U qo;left;calc bL _ (KG U6) ?_;left;calc bx Mi Tq ?_;calc bx oi4.1 (bo qo) ?_;calc⟨.inl ⟨rfl,_,aO.of x4⟩,?_⟩;left;calc gO w4 x4 (small ()) ?_;have bj:=bi.app (t:=4) (i:=U) qo rfl x4 (eL.one (.int px));have fj:Fr (FP m.n ad) H' (upd H' (ad 4 U) (.lst (w4++[.int px]))):=Fr.refl.upd ⟨4,U,qo,rfl⟩ x4 trivial;generalize hGj:upd H' (ad 4 U) (.lst (w4++[.int px]))=Hj at *;obtain⟨w5,x5,y5⟩:=bj.lst (t:=5) (i:=U) qo rfl;have l5:w5.length=(ri.ww U).snd.length:=by simpa using y5.1
    left;calc bL _ (KH (fj.at U6 nPi)) ?_;left;calc bx (fj.at Mi nD2) Tq ?_;calc bx (fj.at U8.1 U8.2.2) (bo qo) ?_;calc⟨.inl ⟨rfl,_,aO.of x5⟩,?_⟩;left;calc gO w5 x5 (small ()) ?_;have FSj:FS F Hj:=kD.fr ((Mf.f.trans fi).trans fj) M.cP.sW;have bk:=bj.app (t:=5) (i:=U) qo rfl x5 (eL.one (show HD _ 4 (.ref ev) (sJ (some (m.ev r B))) from(bj.ht FSj ((Mh.aA fi.aJ).aA fj.aJ)).mono ∅));have fk:Fr (FP m.n ad) H' (upd Hj (ad 5 U) (.lst (w5++[.ref ev]))):=fj.upd ⟨5,U,qo,rfl⟩ x5 trivial;left;calc ir ⟨_,_,rfl,rfl⟩ (fi.trans fk) ?_;rw[Km];show bY F _ d _ m (if pj.toNat<_ then _ else _) ad;rw[if_pos Fw];show bY F _ d _ m (ri.put ((m.outs (m.goal B)).getD pj.toNat 0) px (some (m.ev r B))) ad;rw[<-how];exact Bx.own fk (bk.congr GS)
   ·rw[if_neg (by simpa using lE)];left;calc ir ⟨_,_,rfl,rfl⟩ fi ?_;rw[Km];show bY F H' d _ m (if pj.toNat<_ then _ else _) ad;rw[if_neg ()];exact Bx
  ·intro σ H' Pc;obtain⟨⟨OS,z14,rfl⟩,fi,Bx⟩:=Pc;left;rw[QG,aax]at Bx;exact q _ _ (Mf.f.trans fi) Bx (Mh.aA fi.aJ)
 clear hN2
 cases IF:(r.ww B).snd.getD k none with
 |none=>
  rw[IF]at WW;have:=zF WW;subst this;left
  try rw[if_neg ∅]
  left;calc rest rl _ _ H8 (aq.refl _) ?_;unfold nI;rw[IF];calc xE
 |some sc=>
  nofun;obtain⟨s0,c0⟩:=sc;rw[IF]at WW;obtain⟨ae,rfl,Wk⟩:=ql (WW.cv dZ);have aaA:=X _ _ Wk;have mW:some (s0,c0)∈(r.ww B).snd:=by rw[<-IF];exact getD_mem ()
  obtain⟨q1,q2,q3,q4⟩:=O.sd B L s0 c0 mW;ac_rfl;left
  try rw[if_pos ∅]
  left;calc bL _ (KH (X _ _ N)) ?_;left;calc bx (X _ _ o5.1) (bo L) ?_;calc bx (X _ _ e5) (av ev5) ?_;calc zf (bq.of aaA) ?_;left;calc bC ?_;left;calc bL _ (KI (X _ _ N)) ?_;have hsm:s0.toNat<m.ms.length:=by lia
  have es0:((s0.toNat:Nat):Int)=s0:=abl q1;have ec0:(((c0-1).toNat:Nat):Int)=c0-1:=abl ();left;calc bx (X _ _ o3.1) (show iG _ s0=some (.ref (ad 3 s0.toNat)) from by have:=bo (n:=m.n) (ad:=ad) (t:=3) hsm;rw[es0]at this;calc this) ?_;nofun;obtain⟨vs3,es3,ds3⟩:=M.cP.lst (t:=3) (i:=s0.toNat) hsm rfl;obtain⟨vr,evr,dvr⟩:=ds3.get (i:=(c0-1).toNat) (d:=.lst (((r.mm s0.toNat).hr.getD (c0-1).toNat []).map .int)) (by rw[A',bc (d:=[]) ()];rfl);obtain⟨lo,rfl,Zi⟩:=vD (dvr.cv dZ);ac_rfl;calc bx (X _ _ es3) (show iG _ (c0-1)=some (.ref lo) from by rw[<-ec0];calc av evr) ?_;have KR:=X _ _ Zi;left;calc fv true true _ _ (Sq.l xE) (Sq.l KR) (λD3 Dc=>?_);have ac0:((r.mm (m.goal B)).hr.bA (List.replicate m.ms.length 0)).length=m.ms.length:=by
   by_cases h1:1<=(r.mm (m.goal B)).hr.length
   ·exact O.hl _ I _ (gJ h1)
   ·have ez:(r.mm (m.goal B)).hr=[]:=List.length_eq_zero_iff.mp ();rw[ez];simp[List.bA]
  have ac1:((r.mm s0.toNat).hr.getD (c0-1).toNat []).length=m.ms.length:=O.hl _ hsm _ (getD_mem ());have ehr:nI m r B k=List.zipWith max ((r.mm (m.goal B)).hr.bA (List.replicate m.ms.length 0)) ((r.mm s0.toNat).hr.getD (c0-1).toNat []):=by
   unfold nI;rw[IF]
  generalize hA:(r.mm (m.goal B)).hr.bA (List.replicate m.ms.length 0)=LA at *;generalize hB:(r.mm s0.toNat).hr.getD (c0-1).toNat []=LB at *;refine aY (J:=Wj true true K rl lo) (n:=m.ms.length) (λi ys H'=>aq H8 H'/\ys=((List.zipWith max LA LB).take i).map V.int) (L' (aD ())) ⟨aq.new _ Dc,rfl⟩ ?_ ?_ ?_ ?_
  ·rintro i ys H' hi ⟨Y,_⟩;exact⟨_,_,_,_,Sq.l (Y _ _ xE),Sq.l (Y _ _ KR),by rw[A',bc (d:=0) ()];rfl,by rw[A',bc (d:=0) ()];rfl⟩
  ·rintro ys H' ⟨Y,_⟩;exact⟨_,_,Sq.l (Y _ _ xE),Sq.l (Y _ _ KR),.inl (by simp;lia)⟩
  ·intro i ys H' hi bD hl Pe xx H4' zq9;nofun;obtain⟨Y,rfl⟩:=Pe;obtain⟨t',ht',rfl,y⟩:=zq9;obtain⟨x1,x2,ex1,ex2,rfl⟩:=y _ _ (Sq.l (Y _ _ xE)) (Sq.l (Y _ _ KR));rw[A',bc (d:=0) ()] at ex1 ex2;obtain rfl:=Option.some.inj ex1;obtain rfl:=Option.some.inj ex2;ac_rfl;have s2:=aq.new (.tup [.int (LA.getD i 0),.int (LB.getD i 0)]) ht';have qj:upd H' t' (.tup [.int (LA.getD i 0),.int (LB.getD i 0)]) t'=some (.tup [.int (LA.getD i 0),.int (LB.getD i 0)]):=ab;calc zf (bq.of qj) ⟨Ext.set (Ext.set (Ext.refl _) rfl) rfl,?_⟩;left
   try rw[if_pos trivial]
   calc bX (s2 _ _ bD) hl hi (L' (aD ())) ⟨λc o e=>by rw[ax (au e Dc)];calc s2 _ _ (Y _ _ e),?_⟩;rw[abn,List.getElem?_zipWith,bc (l:=LA) (d:=0) (),bc (l:=LB) (d:=0) (),aar];show _++[V.int (if LB.getD i 0 > LA.getD i 0 then LB.getD i 0 else LA.getD i 0)]=_++[V.int (max (LA.getD i 0) (LB.getD i 0))]
   congr 3;split<;>lia
  rintro ys H9 bD hl ⟨s89,rfl⟩;rw[aa3 (by simp;lia),<-ehr]at bD;left;calc rest D3 _ _ H9 s89 bD
theorem pT.nil{ct:Nat->Hp->HO->Prop}:pT H0 H' D [] 0 ct:=⟨rfl,List.nodup_nil,λa h=>by simp at h,λj a h=>by simp at h⟩
theorem pT.snoc{n:Nat}{ct:Nat->Hp->HO->Prop}(h:pT H0 H1 D as n ct)(q:aq H0 H1)(r:H1 D≠none)(g:H1 a=none){o:HO}(e:H' a=some o)(c:ct n H' o)(s:∀b o,b≠D->H1 b=some o->H' b=some o)(f:∀j o,ct j H1 o->ct j H' o):pT H0 H' D (as++[a]) (n+1) ct:=by
 refine⟨by simp[h.len],?_,λb d=>?_,λj b d=>?_⟩
 ·rw[List.nodup_append];calc ir h.nd nofun (λb d c l=>?_);simp at l;subst l;intro z;subst z;obtain⟨j,k⟩:=aaC d;obtain⟨m,i,_⟩:=h.ins j b k;rw[g]at i;cases i
 ·rcases List.mem_append.mp d with d | d
  ·exact h.new b d
  ·simp at d;subst d;refine⟨?_,λz=>r (z ▸ g)⟩
   cases t:H0 b with
   |none=>rfl
   |some o=>rw[q _ _ t]at g;cases g
 ·by_cases k:j < as.length
  ·rw[W' k]at d;obtain⟨m,i,g⟩:=h.ins j b d;exact⟨m,s _ _ (h.new b (aai d)).2 i,f _ _ g⟩
  ·rw[P' ()] at d
   cases p:j-as.length with
   |zero=>
    rw[p]at d;simp at d;subst d;have:j=n:=by have:=h.len;lia
    subst this;calc⟨o,e,c⟩
   |succ k=>rw[p]at d;simp at d
theorem pT.keep{n:Nat}{ct:Nat->Hp->HO->Prop}(h:pT H0 H1 D as n ct)(s:∀(j:Nat) (b:Addr) (o:HO),H1 b=some o->ct j H1 o->H' b=some o/\ct j H' o):pT H0 H' D as n ct:=
 ⟨h.len,h.nd,h.new,λj a e=>by
  obtain⟨c,d,f⟩:=h.ins j a e;calc⟨c,s _ _ _ d f⟩⟩
theorem qu{K:W.Frag}{ix:List (Option Nat)}{m:TE}{l:Addr}{xs:List V}{o:HO}(r:H l=some (.lst xs))(t:H D=none)(G:xs.length<=10)(w:∀x,Ext (sr ix σ) ((sr ix σ).set 0 (some x)))(y:∀d g (R:VK),(∀p,g p=none->R (.ref p) (upd g p o))->m d g R)(q:∀as H1,H1 D=some (.lst (as.map V.ref))->aq H H1->pT H H1 D as xs.length (λ_ _ u=>u=o)->Q (.ref D) H1):ki ix (tF K l) (fC 0) iA m σ H Q D:=by
 refine aY (n:=xs.length) (λi ys H'=>∃as:List Addr,ys=as.map V.ref/\aq H H'/\pT H H' D as i (λ_ _ u=>u=o)) (L' (small ())) ⟨[],rfl,aq.new _ t,pT.nil⟩ ?_ ?_ ?_ ?_
 ·rintro i ys H' j ⟨_,_,a,_⟩;exact⟨_,xs[i],aO.of (a _ _ r),bU j⟩
 ·rintro ys H' ⟨_,_,a,_⟩;exact⟨_,aO.of (a _ _ r),J' _⟩
 ·intro i ys H' j c v z B I C;obtain⟨as,rfl,a,k⟩:=z;obtain⟨rfl,d⟩:=C;calc⟨w B,?_⟩;simp only[iA,if_true];calc y _ _ _ λp d=>?_;have g:=aq.new o d;have i:p≠D:=Ne.symm (au c d);refine bX (g _ _ c) v j (L' (small ())) ⟨as++[p],nofun,λb o e=>?_,?_⟩
  ·rw[ax (au e t)];exact g _ _ (a _ _ e)
  ·refine k.snoc a (by rw[c];simp) d (o:=o) ?_ rfl (λb o a e=>?_) (λj u e=>e)
   ·rw[ax i];exact ab
   ·rw[ax a];exact g _ _ e
 ·intro ys H1 c v F;obtain⟨as,rfl,a,k⟩:=F;calc q as H1 c a k
theorem pT.some{n:Nat}{ct:Nat->Hp->HO->Prop}(h:pT H0 H1 D as n ct):∀a∈as,H1 a≠none:=λa m=>by
 obtain⟨j,e⟩:=aaC m;obtain⟨b,e,_⟩:=h.ins j a e;rw[e];calc λz=>nomatch z
def kL(l:List Addr):List (Key×V):=List.zipWith (λk a=>(Sum.inr k,V.ref a)) ["net","put","sender","worker","states","words","heard","events"] l
theorem nJ{C:Hp}{d:Addr}{l:List Addr}{k:Key}(c:H d=none)(S:aq H C)(f:C d=some (.dK (kL l)))(a:aq C H')(g:putK (kL l) k (V.ref D)=kL (l++[D]))(h:l.length<=8)(q:∀G,G d=some (.dK (kL (l++[D])))->(∀b o,b≠d->C b=some o->G b=some o)->(∀b o,b≠d->H' b=some o->G b=some o)->aq H G->R G):∃d' G,d=d'/\yT H' d' (kV k) (V.ref D) G/\R G:=by
 calc⟨d,_,rfl,yT.k (a _ _ f) (small (by unfold kL;rw[List.length_zipWith];lia)),?_⟩;rw[g];calc q _ ab (λb o n e=>by rw[ax n];calc a _ _ e) (λb o n e=>by rw[ax n];calc e) (λb o e=>by rw[ax (au e c)];calc a _ _ (S _ _ e))
abbrev kO:Stmt:=top 61
inductive GY(vs:List V)(H:Hp)(Q:VK):Prop
 |mk (F:Addr->Prop) (tn:V) (nt:NT) (ls:List (Int×Int)) (h0:vs=[tn]) (h1:ToldN (iI F H) tn nt.ms nt.ws ls) (h2:FS F H) (h3:nt.Ok) (h4:ls.length<=20) (h5:∀l∈ls,0<=l.1/\l.1<nt.ws.length) (h6:∀d ad H',aq H H'->(∀b,FP nt.n ad b->H b=none)->H d=none->bY F H' d tn nt (RS.begin nt ls) ad->Q (.ref d) H'):GY vs H Q
def qv:Sp:=λvs H Q _=>GY vs H Q
theorem xT(D:cL K mg "_law_begun" "_law_begun" kO ed)(T:Tx K mg C CN CR F FD):Def P w K mg base "_law_begun" 1 ed qv:=by
 exists["_law_net_here","_law_run","_law_way","_law_said"];obtain⟨F,tn,g,ls,rfl,hN,kD,aU,df,iz,q⟩:=h;have N:=hr.units;have F1:=Yi N;refine⟨_,(ai (aT (i:=1) sc rfl Sort (Jx (qH aB (ao 0) (qH aB (dD (N':=["_law_way"]) (ix:=[none]) (bR (aj N (ao 0) ag)) (λ_ _ _ _=>(aP (i:=0) (show(["_law_way"]:List Str).Nodup by decide +kernel) rfl Sort)) nu (λ_ _ _ _=>(bF aa))) (qH aB (dD (N':=["_law_way"]) (ix:=[none]) (bR (aj N (ao 0) ag)) (λ_ _ _ _=>(aP (i:=0) (show(["_law_way"]:List Str).Nodup by decide +kernel) rfl Sort)) nu (λ_ _ _ _=>(bF aa))) Jw))) rfl rfl ∅ ∅))
  (ai (k9 F1 (ao 1) aB (dD (N':=["_law_way"]) (ix:=[none]) (bR (aj N (ao 0) ag)) (λ_ _ _ _=>(aP (i:=0) (show(["_law_way"]:List Str).Nodup by decide +kernel) rfl Sort)) nu (λ_ _ _ _=>Ey)) rfl)
  (ai (k9 F1 (ao 1) aB (dD (N':=gI) (ix:=[none]) (bR (aj N (ao 0) ag)) (λ_ _ _ _=>(aP (i:=0) (show(gI:List Str).Nodup by decide +kernel) rfl Sort)) nu (λ_ _ _ _=>(bF (af (bu (af (cQ (m9 (K:=K) rfl) rfl T.ck tm (af (bW (K:=K) rfl N (ao 0) ag) aa)) (af (cQ (m9 (K:=K) rfl) rfl T.ck tm (af (bW (K:=K) rfl N (ao 0) ag) aa)) aa))) aa)))) rfl)
  (ai (k9 F1 (ao 1) aB (dD (N':=gI) (ix:=[none]) (bR (aj N (ao 0) ag)) (λ_ _ _ _=>(aP (i:=0) (show(gI:List Str).Nodup by decide +kernel) rfl Sort)) nu (λ_ _ _ _=>(bF (af (bF aa) aa)))) rfl)
  (ai (k9 F1 (ao 1) aB (dD (N':=gI) (ix:=[none]) (bR (aj N (ao 0) ag)) (λ_ _ _ _=>(aP (i:=0) (show(gI:List Str).Nodup by decide +kernel) rfl Sort)) nu (λ_ _ _ _=>(bF aa))) rfl)
  (ai (k9 F1 (ao 1) aB (bF aa) rfl)
  (ai (eI PassesOwn.never rfl (bR (aj N (ao 0) ag)) (gq (i:=2) (j:=3) rfl sc rfl rfl Sort Sort)
  (ai (bS (du nS qy qz b8 (aj N (aj N (ao 1) aB) (ao 2)) (af (ao 3) aa)))
  (ak (bS (du nS qy qz b8 (aj N (aj N (ao 1) aB) (ao 2)) (af lV aa))))))
  (ak (aH (ao 1)))))))))),?_⟩
 nofun;obtain⟨tt,am,aw,al,mv,wv,lv,rfl,h1,h2,h3,h4,h5,h6,h7⟩:=id hN;have g1:=(dz h1 (λk z=>by cases z)).2;have X:=(dz h2 (λk z=>by cases z)).2;have g3:=(dz h3 (λk z=>by cases z)).2;have g4:=(dz h4 (λk z=>by cases z)).2
 replace h5:=h5.cv dZ
 replace h6:=h6.aA dZ.aJ
 replace h7:=h7.aA dZ.aJ
 ac_rfl;have jw:wv.length=g.ws.length:=by simpa using h6.1
 have mj:mv.length=g.ms.length:=h5.1;have xF:lv.length=ls.length:=by simpa using h7.1
 have T:wv.length<=10:=by rw[jw];exact aU.Cz
 have T:mv.length<=5:=by rw[mj];exact aU.Qp
 left;refine JS λd j3=>?_;have Q4:=aq.new (.dK []) j3;have ed0:upd H d (.dK []) d=some (.dK []):=ab;generalize hGd:upd H d (.dK [])=C1 at *;left;refine bC ?_;left;refine cp (Q4 _ _ g1) (av (j:=1) rfl) ?_;left;refine .inl ⟨⟨_,aO.of (Q4 _ _ g3)⟩,λD1 DA=>?_⟩;refine qu (o:=.lst []) (Q4 _ _ g3) DA () (λ_=>Ext.set (Ext.refl _) rfl) (λ_ _ _ r=>And.intro ∅ r) ?_;intro A1 H1 l TV WC;have TY:=l;clear l;have Zt:C1 D1=none:=DA;left;generalize hC2:H1=C2 at *;have S2:=Q4.trans TV;have Q5:=TV _ _ ed0;have WD:∀b o,b≠d->C1 b=some o->C2 b=some o:=λb o _ e=>TV _ _ e;refine bC ?_;left;refine cp (S2 _ _ g1) (av (j:=1) rfl) ?_;left;refine .inl ⟨⟨_,aO.of (S2 _ _ g3)⟩,λD2 vp=>?_⟩;refine qu (o:=.lst []) (S2 _ _ g3) vp () (λ_=>Ext.set (Ext.refl _) rfl) (λ_ _ _ r=>And.intro ∅ r) ?_;intro A2 H2 l QJ WE;have QL:=l;clear l;have T4:C2 D2=none:=vp;left;have T:H2 d=some (.dK []):=QJ _ _ Q5;refine⟨T,kL [tt,D1,D2],rfl,by simp[kL,List.zipWith],?_⟩;rw[show lW [] (kL [tt,D1,D2])=kL [tt,D1,D2] by kernel_rfl];obtain⟨C3,hC3,Q6,QK,ke2⟩:=TM (d:=d) (kL [tt,D1,D2]) QJ;rw[hC3];have S3:aq H C3:=λb o e=>QK b o (au e j3) (S2 _ _ e);clear hC3;clear T;left;refine bC ?_;left;refine cp (S3 _ _ g1) (av (j:=1) rfl) ?_;left;refine .inl ⟨⟨_,aO.of (S3 _ _ g3)⟩,λD3 T=>?_⟩;refine qu (o:=.dK []) (S3 _ _ g3) T () (λ_=>Ext.set (Ext.refl _) rfl) (λ_ _ _ r=>r) ?_;intro A3 H3 l T6 WG;have QO:=l;clear l;have T9:C3 D3=none:=T;left;refine nJ (k:=Sum.inr "worker") j3 S3 Q6 T6 (by kernel_rfl) nofun λC4 Pu T7 ke3 S4=>?_;left;refine bC ?_;left;refine cp (S4 _ _ g1) (av (j:=0) rfl) ?_;left;refine .inl ⟨⟨_,aO.of (S4 _ _ X)⟩,λD4 QR=>?_⟩;refine aY (J:=tF K am) (n:=mv.length) (λi ys H'=>∃as:List Addr,ys=as.map V.ref/\aq C4 H'/\pT C4 H' D4 as i (λj H' o=>∃v,o=.lst [v]/\HT H' 2 v (wQ (g.ms.getD j default).ns (g.ms.getD j default).row))) (L' (small ())) ⟨[],rfl,aq.new _ QR,pT.nil⟩ ?_ ?_ ?_ ?_
 ·rintro i ys H' hi ⟨_,_,M,_⟩;exact⟨_,mv[i],aO.of (M _ _ (S4 _ _ X)),bU hi⟩
 ·rintro ys H' ⟨_,_,M,_⟩;exact⟨_,aO.of (M _ _ (S4 _ _ X)),J' _⟩
 ·intro i ys H' hi l hl zm xx H4 zp;nofun;obtain⟨as,rfl,M,hL⟩:=zm;obtain⟨rfl,hy⟩:=zp;ac_rfl;have ex:=hy _ (aO.of (M _ _ (S4 _ _ X)));walk_at "xf";left
  try rw[if_pos trivial]
  have Kp:i<g.ms.length:=by lia
  obtain⟨mt,ln,lr,ld,xsd,rfl,m1,m2,m3,T,m5⟩:=h5.2 i xx _ ex (bc (d:=default) Kp);have T:=(S4.trans M)
  calc cp (T _ _ m1) (av (j:=1) rfl) ?_;left;calc .inl ⟨_,aO.of (T _ _ m2),λt1 zo=>?_⟩;have r1:=aq.new (.tup ((g.ms.getD i default).ns.map V.int)) zo;calc cp (r1 _ _ (T _ _ m1)) (av (j:=2) rfl) ?_;left;calc .inl ⟨_,aO.of (r1 _ _ (T _ _ m3)),λt2 qj=>?_⟩;have r2:=aq.new (.tup ((g.ms.getD i default).row.map V.int)) qj;calc⟨cR,λt3 T=>?_⟩;have r3:=aq.new (.tup [.ref t1,.ref t2]) T;have S:=r1.trans (r2.trans r3);have O:HT (upd (upd (upd H4 t1 (.tup ((g.ms.getD i default).ns.map V.int))) t2 (.tup ((g.ms.getD i default).row.map V.int))) t3 (.tup [.ref t1,.ref t2])) 2 (.ref t3) (wQ (g.ms.getD i default).ns (g.ms.getD i default).row):=dy ab (ng (r3 _ _ (r2 _ _ ab))) (ng (r3 _ _ ab));generalize hGP:upd (upd (upd H4 t1 (.tup ((g.ms.getD i default).ns.map V.int))) t2 (.tup ((g.ms.getD i default).row.map V.int))) t3 (.tup [.ref t1,.ref t2])=HP at *;have Dq:=S _ _ l;left;calc⟨∅,λp hp=>?_⟩;have U:=aq.new (.lst [.ref t3]) hp;have Pw:=U _ _ Dq;have nD:p≠D4:=Ne.symm (au Dq hp);refine bX Pw hl hi (L' (small ())) ⟨as++[p],nofun,λb o e=>?_,?_⟩
  ·rw[ax (au e QR)];exact U _ _ (S _ _ (M _ _ e))
  ·refine hL.snoc M (by rw[l];simp) (S.free hp) (o:=.lst [.ref t3]) ?_ ⟨_,rfl,O.aA (λb xs e=>by rw[ax (λz=>by rw[z,Dq] at e;cases e)];calc U _ _ e)⟩ (λb o nb e=>?_) (λj o ⟨v,e,h⟩=>⟨v,e,h.aA (λb xs e=>by rw[ax (λz=>by rw[z,l] at e;cases e)];calc U _ _ (S _ _ e))⟩)
   ·rw[ax nD];exact ab
   ·rw[ax nb];exact U _ _ (S _ _ e)
 intro ys H4 l hl CP;obtain⟨A4,rfl,QS,OY⟩:=CP;have LY:=l;clear l hl;have ZF:C4 D4=none:=QR;left;refine nJ (k:=Sum.inr "states") j3 S4 Pu QS (by kernel_rfl) nofun λR Mj Ub ke4 S5=>?_;left;refine bC ?_;left;refine cp (S5 _ _ g1) (av (j:=0) rfl) ?_;left;refine .inl ⟨⟨_,aO.of (S5 _ _ X)⟩,λY AW=>?_⟩;refine aY (J:=tF K am) (n:=mv.length) (λi ys H'=>∃as:List Addr,ys=as.map V.ref/\aq R H'/\pT R H' Y as i (λ_ H' o=>∃q,o=.lst [.ref q]/\H' q=some (.lst [])/\R q=none/\q≠Y)) (L' (small ())) ⟨[],rfl,aq.new _ AW,pT.nil⟩ ?_ ?_ ?_ ?_
 ·rintro i ys H' hi ⟨_,_,M,_⟩;exact⟨_,mv[i],aO.of (M _ _ (S5 _ _ X)),bU hi⟩
 ·rintro ys H' ⟨_,_,M,_⟩;exact⟨_,aO.of (M _ _ (S5 _ _ X)),J' _⟩
 ·intro i ys H' hi l hl Ky xx H4 Pc;nofun;obtain⟨as,rfl,M,hL⟩:=Ky;obtain⟨rfl,hy⟩:=Pc;ac_rfl;have ex:=hy _ (aO.of (M _ _ (S5 _ _ X)));walk_at "xf";left
  try rw[if_pos trivial]
  calc⟨aav _,λqq hqq=>?_⟩;have S:=aq.new (.lst []) hqq;have eqq:upd H4 qq (.lst []) qq=some (.lst []):=ab;have nqD:qq≠Y:=Ne.symm (au l hqq);generalize hGP:upd H4 qq (.lst [])=HP at *;have Dq:=S _ _ l;left;calc⟨∅,λp hp=>?_⟩;have U:=aq.new (.lst [.ref qq]) hp;have Pw:=U _ _ Dq;have nD:p≠Y:=Ne.symm (au Dq hp);refine bX Pw hl hi (L' (small ())) ⟨as++[p],nofun,λb o e=>?_,?_⟩
  ·rw[ax (au e AW)];exact U _ _ (S _ _ (M _ _ e))
  ·refine hL.snoc M (by rw[l];simp) (S.free hp) (o:=.lst [.ref qq]) ?_ ⟨qq,rfl,by rw[ax nqD];calc U _ _ eqq,M.free hqq,nqD⟩ (λb o nb e=>?_) (λj o ⟨M,e,h,h',h2⟩=>⟨M,e,by rw[ax h2];calc U _ _ (S _ _ h),h',h2⟩)
   ·rw[ax nD];exact ab
   ·rw[ax nb];exact U _ _ (S _ _ e)
 intro ys H5 l hl Pe;obtain⟨A5,rfl,QV,WH⟩:=Pe;have QW:=l;clear l hl;have ZJ:R Y=none:=AW;left;refine nJ (k:=Sum.inr "words") j3 S5 Mj QV (by kernel_rfl) nofun λC6 Py Ue ke5 M=>?_;left;refine bC ?_;left;refine cp (M _ _ g1) (av (j:=0) rfl) ?_;left;refine .inl ⟨⟨_,aO.of (M _ _ X)⟩,λD6 S=>?_⟩;refine qu (o:=.lst []) (M _ _ X) S () (λ_=>Ext.set (Ext.refl _) rfl) (λ_ _ _ r=>And.intro ∅ r) ?_;intro A6 T l Uj WI;have QZ:=l;clear l;have ZN:C6 D6=none:=S;left;refine nJ (k:=Sum.inr "heard") j3 M Py Uj (by kernel_rfl) nofun λC7 Q7 Uk ke6 S7=>?_;left;refine⟨aav _,λpe pS=>?_⟩;have sE7:=aq.new (.lst []) pS;have aaF:upd C7 pe (.lst []) pe=some (.lst []):=ab;have npe:pe≠d:=Ne.symm (au Q7 pS);generalize agM:upd C7 pe (.lst [])=E7 at *;refine nJ (k:=Sum.inr "events") j3 S7 Q7 sE7 (by kernel_rfl) nofun λZ edF kd7 l SF=>?_;have epe:=l _ _ npe aaF;have x:∀(A:Hp) (kv:List (Key×V)) (b:Addr) (vs:List V),A d=some (.dK kv)->A b=some (.lst vs)->b≠d:=λA kv b vs I W z=>by rw[z,I]at W;cases W
 have ndk:∀(A:Hp) (p:Key×V) (kv:List (Key×V)) (b:Addr),A d=some (.dK (p::kv))->A b=some (.dK [])->b≠d:=λA p kv b I W z=>by rw[z,I]at W;cases W
 have IY:∀(A:Hp) (kv:List (Key×V)) (b:Addr) (vs:List V),A d=some (.dK kv)->A b=some (.tup vs)->b≠d:=λA kv b vs I W z=>by rw[z,I]at W;cases W
 have kc7:=kd7;have W4:∀b o,b≠d->C6 b=some o->Z b=some o:=λb o n e=>kc7 b o n (Uk b o n e);have Kq:∀b o,b≠d->R b=some o->Z b=some o:=λb o n e=>W4 b o n (Ue b o n e);have LZ:∀b o,b≠d->C4 b=some o->Z b=some o:=λb o n e=>Kq b o n (Ub b o n e);have L0:∀b o,b≠d->C3 b=some o->Z b=some o:=λb o n e=>LZ b o n (T7 b o n e);have OZ:∀b o,b≠d->C2 b=some o->Z b=some o:=λb o n e=>L0 b o n (QK b o n e);have U9:pT C1 C2 D1 A1 wv.length (λ_ _ o=>o=.lst []):=WC;have GZ:=TY;have Va:=U9.keep (λj b o e c=>by subst c;calc⟨OZ b _ (x _ _ _ _ Q5 e) e,rfl⟩);have Vb:=OZ _ _ (x _ _ _ _ Q5 GZ) GZ;have Vc:pT C2 C3 D2 A2 wv.length (λ_ _ o=>o=.lst []):=WE.keep (λj b o e c=>by subst c;calc⟨ke2 b _ (x _ _ _ _ (QJ _ _ Q5) e) e,rfl⟩);have Ha:=ke2 _ _ (x _ _ _ _ (QJ _ _ Q5) QL) QL;have Vd:=Vc.keep (λj b o e c=>by subst c;calc⟨L0 b _ (x _ _ _ _ Q6 e) e,rfl⟩);have Ve:=L0 _ _ (x _ _ _ _ Q6 Ha) Ha;have Vf:pT C3 C4 D3 A3 wv.length (λ_ _ o=>o=.dK []):=WG.keep (λj b o e c=>by subst c;calc⟨ke3 b _ (ndk _ _ _ _ (T6 _ _ Q6) e) e,rfl⟩);have Hb:=ke3 _ _ (x _ _ _ _ (T6 _ _ Q6) QO) QO;have Vg:=Vf.keep (λj b o e c=>by subst c;calc⟨LZ b _ (ndk _ _ _ _ Pu e) e,rfl⟩);have Vh:=LZ _ _ (x _ _ _ _ Pu Hb) Hb;have Vi:pT C4 R D4 A4 mv.length (λj H' o=>∃v,o=.lst [v]/\HT H' 2 v (wQ (g.ms.getD j default).ns (g.ms.getD j default).row)):=OY.keep (λj b o e c=>by
  obtain⟨v,rfl,O⟩:=c;calc⟨ke4 b _ (x _ _ _ _ (QS _ _ Pu) e) e,v,rfl,O.aA (λb' xs e'=>ke4 b' _ (IY _ _ _ _ (QS _ _ Pu) e') e')⟩)
 have Hc:=ke4 _ _ (x _ _ _ _ (QS _ _ Pu) LY) LY;have Vj:=Vi.keep (λj b o e c=>by
  obtain⟨v,rfl,O⟩:=c;calc⟨Kq b _ (x _ _ _ _ Mj e) e,v,rfl,O.aA (λb' xs e'=>Kq b' _ (IY _ _ _ _ Mj e') e')⟩)
 have Vk:=Kq _ _ (x _ _ _ _ Mj Hc) Hc;have vq:pT R C6 Y A5 mv.length (λ_ H' o=>∃q,o=.lst [.ref q]/\H' q=some (.lst [])/\R q=none/\q≠Y):=WH.keep (λj b o e c=>by
  obtain⟨v,rfl,O,Pz,Vl⟩:=c;calc⟨ke5 b _ (x _ _ _ _ (QV _ _ Mj) e) e,v,rfl,ke5 v _ (x _ _ _ _ (QV _ _ Mj) O) O,Pz,Vl⟩)
 have uw:=ke5 _ _ (x _ _ _ _ (QV _ _ Mj) QW) QW;have nn:∀{A:Hp} {b:Addr} {o:HO},A b=some o->A b≠none:=λe z=>by rw[e]at z;cases z
 have Vm:pT R C6 Y A5 mv.length (λ_ H' o=>∃q,o=.lst [.ref q]/\H' q=some (.lst [])/\R q=none/\C6 q≠none):=⟨vq.len,vq.nd,vq.new,λj a e=>by
  obtain⟨o,I,q,rfl,W,l,_⟩:=vq.ins j a e;calc⟨_,I,q,rfl,W,l,nn W⟩⟩
 have PB:=Vm.keep (λj b o e c=>by
  obtain⟨v,rfl,O,Pz,Vl⟩:=c;calc⟨W4 b _ (x _ _ _ _ Py e) e,v,rfl,W4 v _ (x _ _ _ _ Py O) O,Pz,Vl⟩)
 have Vn:=W4 _ _ (x _ _ _ _ Py uw) uw;have Vo:pT C6 C7 D6 A6 mv.length (λ_ _ o=>o=.lst []):=WI.keep (λj b o e c=>by subst c;calc⟨ke6 b _ (x _ _ _ _ (Uj _ _ Py) e) e,rfl⟩);have Hd:=ke6 _ _ (x _ _ _ _ (Uj _ _ Py) QZ) QZ;have Vp:=Vo.keep (λj b o e c=>by subst c;calc⟨kc7 b _ (x _ _ _ _ Q7 e) e,rfl⟩);have Vq:=kc7 _ _ (x _ _ _ _ Q7 Hd) Hd;rw[jw]at Va;rw[jw]at Vd;rw[jw]at Vg;rw[mj]at Vj;rw[mj]at PB;rw[mj]at Vp;obtain⟨ad,OU⟩:∃ad:Nat->Nat->Addr,∀t i,ad t i=([[pe],A4,A5,A6,A1,A2,A3].getD t []).getD i 0:=⟨_,λ_ _=>rfl⟩
 have pz:∀{A B:Hp},(∀b o,b≠d->A b=some o->B b=some o)->∀{o},B d=some o->∀b,A b≠none->B b≠none:=λ{A B} h {o} e b hb=>by
  by_cases z:b=d
  ·rw[z,e];exact λz=>nomatch z
  ·cases I:A b with
   |none=>calc absurd I hb
   |some u=>rw[h b u z I];exact λz=>nomatch z
 have TN:∀a<7,∀b<7,[6,3,4,5,0,1,2].getD a 7=[6,3,4,5,0,1,2].getD b 7->a=b:=by decide
 obtain⟨cP,LU,ZP⟩:=Bo (F:=F) (G:=Z) (n:=g.n) (c:=(RS.new g).tv) (λt=>[C1,C2,C3,C4,R,C6,C7].getD t Z) (λt=>[6,3,4,5,0,1,2].getD t 7) _ (λt=>[d,D4,Y,D6,D1,D2,D3].getD t d) (λt=>[λ_ _ u=>u=.lst [],λj H' o=>∃v,o=.lst [v]/\HT H' 2 v (wQ (g.ms.getD j default).ns (g.ms.getD j default).row),λ_ H' o=>∃q,o=.lst [.ref q]/\H' q=some (.lst [])/\R q=none/\C6 q≠none,λ_ _ o=>o=.lst [],λ_ _ o=>o=.lst [],λ_ _ o=>o=.lst []].getD t λ_ _ o=>o=.dK []) OU (λ_=>rfl) (λt l h h'=>TN t () l ())
  (λt=>match t with
   |0=>pz WD Q5
   |1=>pz QK Q6
   |2=>pz T7 Pu
   |3=>pz Ub Mj
   |4=>pz Ue Py
   |5=>pz Uk Q7
   |6=>pz kd7 edF
   | (t + 7)=>λb h=>h)
  (λb h=>by
   obtain⟨o,e,l⟩:=kD b h;calc⟨nn (Q4 _ _ e),o,SF _ _ e,l⟩)
  (λt ht=>match t,ht with
   | 0,_=>⟨⟨rfl,nofun,λa m=>by rw[List.mem_singleton.mp m];exact⟨pS,Ne.symm (au Q7 pS)⟩,λj a e=>by cases j with
    |zero=>cases e;calc⟨_,epe,rfl⟩
    | succ j=>cases e⟩,λa m=>by rw[List.mem_singleton.mp m];calc nn epe,λh=>absurd h ∅⟩
   |1,_=>⟨Vj,Vi.some,λ_=>⟨ZF,nn Hc⟩⟩
   |2,_=>⟨PB,vq.some,λ_=>⟨ZJ,nn uw⟩⟩
   |3,_=>⟨Vp,Vo.some,λ_=>⟨ZN,nn Hd⟩⟩
   |4,_=>⟨Va,U9.some,λ_=>⟨Zt,nn GZ⟩⟩
   |5,_=>⟨Vd,Vc.some,λ_=>⟨T4,nn Ha⟩⟩
   |6,_=>⟨Vg,Vf.some,λ_=>⟨T9,nn Hb⟩⟩
   | (t + 7),h=>absurd h ())
  (λt i u ht h=>by
   match t,ht,h with
   |0,_,h|3,_,h|4,_,h|5,_,h|6,_,h=>cases h;trivial
   |1,_,⟨_,e,_⟩|2,_,⟨_,e,_⟩=>cases e;trivial
   | (t + 7),h,_=>calc absurd h ())
  (λhz fo t i u ht hi e h=>by
   match t,ht,h with
   |0,_,h|3,_,h|4,_,h|5,_,h=>cases h;calc(eL.nil:eL _ 4 [] [])
   |1,_,⟨v,e,O⟩=>cases e;calc(eL.one ((Gw hz O).mono ∅):eL _ 4 [v] [_])
   |2,_,⟨v,e,O,Pz,Vl⟩=>
    cases e;have nq:=fo 4 v Pz Vl (λt ht es m=>by
     have:=TN t () 2 () es;subst this;obtain⟨j,e⟩:=aaC m;obtain⟨_,I,q,rfl,_⟩:=PB.ins j _ e;rw[O] at I;cases I)
    show eL (iI (λb=>F b\/FP g.n ad b) Z) 4 [.ref v] [.lst []];calc eL.one (.lst (by rw[gr nq];calc O) rfl (λi u e N=>by simp at N))
   |6,_,h=>
    cases h;exact⟨aav _,λk=>by
     have I:kn ((RS.new g).ww i).da k=none:=by
      show kn [] k=none;unfold kn;split<;>rfl
     rw[I];calc Es⟩
   | (t + 7),h,_=>calc absurd h ())
 have y:∀b,FP g.n ad b->H b=none:=λb hb=>Q4.free (LU b hb).1;have nF:∀b,H b=none->¬F b:=λb e z=>by
  obtain⟨o,I,_⟩:=kD b z;rw[e]at I;cases I
 have hT:bY F Z d (.ref tt) g (RS.new g) ad:=by
  refine⟨⟨λt=>[d,D4,Y,D6,D1,D2,D3].getD t d,?_,nF d j3,λz=>nn ed0 (LU d z).1,λt h1 h6=>?_⟩,cP,⟨ls,hN.cv ?_⟩,aU⟩
  ·rw[edF,IS,OU];rfl
  ·obtain⟨k,l,u⟩:=ZP t h1 h6;calc⟨?_,k,l⟩;rw[<-u]
   match t,h1,h6 with
   |1,_,_=>calc Vk
   |2,_,_=>calc Vn
   |3,_,_=>calc Vq
   |4,_,_=>calc Vb
   |5,_,_=>calc Ve
   |6,_,_=>calc Vh
   |(t+7),_,h=>exact absurd h ()
  ·intro b l e n;obtain⟨k,z2⟩:=dz e n;rw[gr]
   ·exact SF _ _ z2
   ·rintro(z | z)
    ·exact k z
    ·rw[y b z]at z2;cases z2
 have h7F:=h7.aA SF.aJ;left;refine cp (SF _ _ g1) (av (j:=2) rfl) (.inl ⟨⟨_,aO.of (SF _ _ g4)⟩,gM (K:=K) (xs:=lv) (λi σ H'=>(∃z2 z3,σ=[some (V.ref tt),some (V.ref d),z2,z3])/\Fr (FP g.n ad) Z H'/\bY F H' d (.ref tt) g ((RS.new g).ip (ls.take i)) ad) ?_ ?_ ?_ ?_⟩)
 ·exact⟨⟨_,_,rfl⟩,Fr.refl,hT⟩
 ·rintro i σ H' hi ⟨_,fi,_⟩;exact aO.of (fi.at (SF _ _ g4) (λz=>by rw[y _ z]at g4;cases g4))
 ·intro i z σ H' yu aaH;nofun;obtain⟨⟨z2,z3,rfl⟩,fi,Bx⟩:=aaH;have j:i < ls.length:=by rw[<-xF];exact(List.getElem?_eq_some_iff.mp yu).1
  have k:ls[i]?=some ls[i]:=bU j;have OT:=(h7F.2 i z (mh ls[i]) yu (by rw[A',k];rfl)).aA fi.aJ;have Gz:=iz _ (aan j);have Km:(RS.new g).ip (ls.take (i+1))=((RS.new g).ip (ls.take i)).put ls[i].1.toNat ls[i].2 none:=by
   rw[abn,k];exact oV _
  have zJ:=(qp (ls.take i) (zK aU)).mono (show _<=19998 by simp;lia);generalize ls[i]=p at *;obtain⟨L,px⟩:=p;obtain⟨tz,u1,u2,kz,rfl,Dw,y1,y2⟩:=dH OT;obtain rfl:=y1.cj;obtain rfl:=y2.cj;have k:=Gz.1;have j:=Gz.2;simp only at k j;have ej:((L.toNat:Nat):Int)=L:=abl k;have qo:L.toNat<g.ws.length:=by lia
  generalize hri:(RS.new g).ip (ls.take i)=ri at *;ac_rfl;calc zf (bq.of Dw) ?_;nofun;obtain⟨l,U6,j,nPi,k⟩:=Bx.dk;have j:=k 4 ∅ ∅;have U8:=k 5 ∅ ∅;have l:=Bx.cP;obtain⟨w4,x4,k⟩:=l.lst (t:=4) (i:=L.toNat) qo rfl;ac_rfl;have u:w4.length=(ri.ww L.toNat).say.length:=by simpa using k.1
  have k:=zJ.bs _ qo;have k:=zJ.ls _ qo;left;calc bL _ (KG U6) ?_;left;have k:iG (lT g.n ad 4) L=some (.ref (ad 4 L.toNat)):=by have:=bo (n:=g.n) (ad:=ad) (t:=4) qo;rw[ej]at this;exact this
  have rb:iG (lT g.n ad 5) L=some (.ref (ad 5 L.toNat)):=by have:=bo (n:=g.n) (ad:=ad) (t:=5) qo;rw[ej]at this;exact this
  calc bx j.1 k ?_;calc⟨.inl ⟨rfl,_,aO.of x4⟩,?_⟩;left;calc gO w4 x4 (small ()) ?_;have bj:=l.app (t:=4) (i:=L.toNat) qo rfl x4 (eL.one (.int px));have fj:Fr (FP g.n ad) H' (upd H' (ad 4 L.toNat) (.lst (w4++[.int px]))):=Fr.refl.upd ⟨4,L.toNat,qo,rfl⟩ x4 trivial;generalize hGj:upd H' (ad 4 L.toNat) (.lst (w4++[.int px]))=Hj at *;obtain⟨k,j,l⟩:=bj.lst (t:=5) (i:=L.toNat) qo rfl;have n:k.length=(ri.ww L.toNat).snd.length:=by simpa using l.1
  left;calc bL _ (KH (fj.at U6 nPi)) ?_;left;calc bx (fj.at U8.1 U8.2.2) rb ?_;calc⟨.inl ⟨rfl,_,aO.of j⟩,?_⟩;left;calc gO k j (small ()) ?_;have l:=bj.app (t:=5) (i:=L.toNat) qo rfl j (eL.one (show HD _ 4 .bH (sJ none) from .bH));have i:Fr (FP g.n ad) H' (upd Hj (ad 5 L.toNat) (.lst (k++[.bH]))):=fj.upd ⟨5,L.toNat,qo,rfl⟩ j trivial;left;calc ir ⟨_,_,rfl,rfl⟩ (fi.trans i) ?_;rw[Km];exact Bx.own i (l.congr GS)
 ·intro σ H' aaJ;obtain⟨⟨z2,z3,rfl⟩,fi,Bx⟩:=aaJ;left;rw[xF,aax]at Bx;calc q d ad H' (λb o e=>?_) y j3 Bx;calc fi.at (SF _ _ e) (λz=>by rw[y b z]at e;cases e)
def cg(nt:NT)(r:RS)(s:List (Int×Int)):RS:=s.foldl (λr p=>r.pick nt p.1.toNat p.2.toNat) r
def eG(nt:NT)(r:RS)(s:List (Int×Int)):Prop:=∀(i:Nat) p,s[i]?=some p->∃w k:Nat,p=((w:Int),(k:Int))/\(cg nt r (s.take i)).sX nt w k
theorem cM{nt:NT}{w k:Nat}:cg nt r (s++[((w:Int),(k:Int))])=(cg nt r s).pick nt w k:=by
 unfold cg;rw[List.foldl_append];rfl
theorem xU{nt:NT}:eG nt r []:=λi p e=>by simp at e
theorem ly{nt:NT}{w k:Nat}(h:eG nt r s)(b:(cg nt r s).sX nt w k):eG nt r (s++[((w:Int),(k:Int))]):=λi p e=>by
 by_cases c:i<s.length
 ·rw[W' c]at e;rw[List.take_append_of_le_length ()];exact h i p e
 ·have a:i=s.length:=by
   have:=(List.getElem?_eq_some_iff.mp e).1;simp at this;lia
  subst a;rw[P' (J' _),Nat.sub_self]at e;obtain rfl:=Option.some.inj e;calc⟨w,k,rfl,by rw[List.take_left];calc b⟩
theorem uD{nt:NT}{p:Int×Int}(h:eG nt r (s++[p])):eG nt r s/\∃w k:Nat,p=((w:Int),(k:Int))/\(cg nt r s).sX nt w k:=by
 refine⟨λi q e=>?_,?_⟩
 ·have a:=(List.getElem?_eq_some_iff.mp e).1;have:=h i q (by rw[W' a];calc e);rw[List.take_append_of_le_length ()]at this;exact this
 ·have:=h s.length p (by rw[P' (J' _),Nat.sub_self];rfl);rw[List.take_left]at this;calc this
theorem qw{nt:NT}(d:nt.Ok){r:RS}(h:r.Ok nt)(e:r.picks=[]):∀n (s:List (Int×Int)),s.length=n->eG nt r s->(cg nt r s).Ok nt/\(cg nt r s).picks=s
 |0,s,c,_=>by
  have:s=[]:=List.length_eq_zero_iff.mp c;subst this;calc⟨h,e⟩
 |n+1,s,c,g=>by
  rcases List.eq_nil_or_concat s with rfl|⟨i,p,f⟩
  ·simp at c
  rw[List.concat_eq_append]at f;subst f;obtain⟨j,w,k,rfl,l⟩:=uD g;obtain⟨a,b⟩:=qw d h e n i (by simpa using c) j;rw[cM];have:=RS.Ok.pick d a (k:=k) l.lt;rw[b]at this;calc this
theorem take_snoc{i:Nat}{p:Int×Int}(e:s[i]?=some p):s.take (i+1)=s.take i++[p]:=by rw[List.take_add_one,e];rfl
abbrev jM:Stmt:=top 15
inductive He(C CN CR:Addr)(vs:List V)(H:Hp)(Q:VK):Prop
 |mk (F:Addr->Prop) (bt l:Addr) (nt:NT) (ls:List (Int×Int)) (ms:List Addr) (wv lv ys:List V) (s:List (Int×Int)) (h0:vs=[.ref bt,.ref l]) (h2:oQ C CN H bt nt) (h3:j5 CN H bt ms wv lv) (h4:fc H 1 lv (ls.map mh)) (h5:ls.length<=20) (h6:∀l∈ls,0<=l.1/\l.1<nt.ws.length) (hl:H l=some (.lst ys)) (hs:fc H 1 ys (s.map pairD)) (hn:s.length<=100) (hF:FS F H) (hc:eG nt (RS.begin nt ls) s) (q:∀x ad H',aq H H'->H x=none->(∀b,FP nt.n ad b->H b=none)->cI C CN CR F H' x bt nt (cg nt (RS.begin nt ls) s) ad->Q (.ref x) H'):He C CN CR vs H Q
def By(C CN CR:Addr):Sp:=λvs H Q _=>He C CN CR vs H Q
theorem lA{nt:NT}(h:eG nt r s)(n:Nat):eG nt r (s.take n):=λi p e=>by
 have a:=(List.getElem?_eq_some_iff.mp e).1;rw[aap]at a;rw[List.getElem?_take,if_pos ()]at e;rw[List.take_take,Nat.min_eq_left ()];calc h i p e
theorem vE(D:cL K mg "played_run" "played_run" jM ["net","schedule"])(T:Tx K mg C CN CR F FD)(c:cX P w K mg base CR "pick_at" 6 aK (Bm C CN CR))(Hf:wN P w K mg base "Run" CR 2 ["self","net"] (Bp C CN CR)):Def P w K mg base "played_run" 7 ["net","schedule"] (By C CN CR):=by
 exists["net","schedule","run","at","way","number"];obtain⟨F,p,l,a,ls,ms,wv,lv,ys,s,rfl,J,Hg,Hh,L,iz,r,M,Vt,N,O,q⟩:=h;have hu:=hr.units;refine⟨_,(ai (aT (i:=2) sc rfl Sort (Fq Hf hr (af (ao 0) aa)))
  (ai (eI PassesOwn.never rfl (jC rfl T.dE (af (ao 1) aa)) (yA rfl (gL (aP (i:=3) sc rfl Sort) (gL (gq (i:=4) (j:=5) rfl sc rfl rfl Sort Sort) uM)))
  (ak (bS (jj c T.bb hr (ao 2) (af (ao 4) (af (ao 5) (af (ao 3) aa)))))))
  (ak (aH (ao 2))))),?_⟩
 have DG:=J.ok;obtain⟨R,Zg⟩:=g9 DG L;calc L2.bz λc h1=>?_;left;intro m c S T agQ;have d:aq H (upd (upd H c (.own m)) m (.ins CR c [])):=λb o e=>by rw[ax (au e S),ax (au e T)];exact e
 calc⟨F,m,c,p,a,ls,ms,wv,lv,rfl,ab,J.fr (Z:=λ_=>False) d.fr,Hg.same d,Hh.aA d.aJ,L,iz,N.fr (Z:=λ_=>False) d.fr (λ_ _ h=>h),λad H3 k0 f0 U=>?_⟩;have u:aq H H3:=λb o e=>k0 b o (au e S) (d _ _ e);have B:∀b,FP a.n ad b->H b=none:=λb hb=>by
  cases e:H b with
  |none=>rfl
  |some o=>
   have:=f0 b hb;rw[d _ _ e]at this;cases this
 clear k0 f0 d;calc⟨rfl,L2.ba h1 ?_⟩;clear h1;left;have KS:ys.length=s.length:=by simpa using M.1
 refine⟨true,ys,Sq.l (u _ _ r),kj (xs:=ys) (λi σ H'=>(∃W X Y,σ=[some (V.ref p),some (V.ref l),some (V.ref m),W,X,Y])/\Fr (FP a.n ad) H3 H'/\cI C CN CR F H' m p a (cg a (RS.begin a ls) (s.take i)) ad) ?_ ?_ ?_ ?_⟩
 ·exact⟨⟨_,_,_,rfl⟩,Fr.refl,U⟩
 ·rintro i σ H' ⟨_,g,_⟩;exact Sq.l (g.at (u _ _ r) (λz=>by rw[B _ z]at r;cases r))
 ·intro i t σ H' G hx gG Ph;nofun;obtain⟨⟨W,X,Y,rfl⟩,g,v⟩:=gG;have c:i < s.length:=by rw[<-KS];exact(List.getElem?_eq_some_iff.mp hx).1
  have I:s[i]?=some s[i]:=bU c;have x:=aq.new (.tup [.int (i:Nat),t]) Ph;have UG:upd H' G (.tup [.int (i:Nat),t]) G=some (.tup [.int (i:Nat),t]):=ab;have y:=(((M.2 i t (pairD s[i]) hx (by rw[A',I];rfl)).aA u.aJ).aA g.aJ).aA x.aJ;generalize SU:upd H' G (.tup [.int (i:Nat),t])=G2 at *;obtain⟨wy,k,ep,hc⟩:=O i _ I;rw[ep]at y I;obtain⟨ta,u1,u2,kk,rfl,oR,y1,y2⟩:=dH y;obtain rfl:=y1.cj;obtain rfl:=y2.cj;ac_rfl;calc⟨G,_,rfl,bq.of UG,rfl,_,_,rfl,_,_,rfl,⟨ta,_,rfl,bq.of oR,rfl,_,_,rfl,_,_,rfl,rfl,rfl,?_⟩⟩;left;nofun;obtain⟨c,d,NY,l⟩:=v.ins;obtain⟨aaN,aaO⟩:=qw DG R Zg _ _ rfl (lA O i);ac_rfl;have zB:∀{G:Hp},aq G2 G->aq H G:=λc b o e=>c _ _ (x _ _ (g.at (u _ _ e) (λz=>by rw[B _ z]at e;cases e)));calc iq (x _ _ NY) (kE ⋯) ?_;calc⟨F,m,p,a,_,ad,wy,k,.int (i:Nat),rfl,v.same x,N.fr (Z:=λ_=>False) (zB (aq.refl _)).fr (λ_ _ h=>h),aaN,hc,by rw[aaO,aap];lia,λt c f a d=>?_⟩;calc⟨⟨_,_,_,rfl,rfl,rfl⟩,(g.trans x.fr).trans f,?_⟩;rw[take_snoc I,cM];exact a
 ·intro σ H' gP;obtain⟨⟨W,X,Y,rfl⟩,g,v⟩:=gP;rw[KS,aax]at v;left;calc q _ _ _ (λb o e=>g.at (u _ _ e) (λz=>by rw[B _ z]at e;cases e)) S B v
def RS.Ps(nt:NT)(r:RS):Prop:=∀(w k:Nat) (m c:Int),w<nt.ws.length->(r.ww w).da[k]?=some (some (m,c))->1<=c
theorem xW{outs:List Nat}{ev:Int×Int}{u k:Nat}{e:Int×Int}:∀(ps:List (Int×Int)) {r:RS},((r.send outs ev ps).ww u).da[k]?=some (some e)->(r.ww u).da[k]?=some (some e)
 | [],r,h=>h
 |p::ps,r,h=>by
  have h:(((if p.1.toNat<outs.length then r.put (outs.getD p.1.toNat 0) p.2 (some ev) else r).send outs ev ps).ww u).da[k]?=some (some e):=h;have h:=xW ps h;split at h
  ·exact gE.mp h
  ·calc h
theorem xX{u k:Nat}{e:Int×Int}:∀(ps:List (Int×Int)) {r:RS},((r.ip ps).ww u).da[k]?=some (some e)->(r.ww u).da[k]?=some (some e)
 | [],r,h=>h
 |p::ps,r,h=>gE.mp (xX ps h)
structure nK(nt:NT)(ls:List (Int×Int))(r:RS):Prop where
 ok:r.Ok nt
 iv:r.Iv nt
 pk:r.Pk nt
 ps:RS.Ps nt r
 pl:r=cg nt (RS.begin nt ls) r.picks
 can:eG nt (RS.begin nt ls) r.picks
theorem nK.pick{nt:NT}(h:nK nt ls r)(d:nt.Ok){w k:Nat}(a:r.sX nt w k):nK nt ls (r.pick nt w k)/\(r.pick nt w k).picks=r.picks++[((w:Int),(k:Int))]:=by
 have b:=RS.Ok.pick d h.ok (k:=k) a.lt;exact⟨⟨b.1,h.iv.pick d a.lt a.lies,h.pk.pick h.iv a.lies,λu j m c f e=>by
  rcases(eF a.lies).mp (xW _ e) with⟨_,_,z⟩|e
  ·cases z;have:=h.ok.wX (d.ei a.lt);lia
  ·calc h.ps u j m c f e,by rw[b.2,cM,<-h.pl],by rw[b.2];calc ly h.can (by rw[<-h.pl];calc a)⟩,b.2⟩
theorem nK.begin{nt:NT}(d:nt.Ok){ls:List (Int×Int)}(h:ls.length<=20):nK nt ls (RS.begin nt ls):=by
 obtain⟨a,b⟩:=g9 d h;exact⟨a,RS.Iv.begin,RS.Pk.zero RS.Iv.begin b,λu j m c f e=>by
  have:=xX ls (r:=RS.new nt) e;simp[RS.new] at this,by rw[b];rfl,by rw[b];calc xU⟩
abbrev oY:Stmt:=top 65
inductive Hi(vs:List V)(H:Hp)(Q:VK):Prop
 |mk (F:Addr->Prop) (tn:V) (nt:NT) (ls:List (Int×Int)) (l:Addr) (xs:List Int) (h0:vs=[tn,.ref l]) (h1:ToldN (iI F H) tn nt.ms nt.ws ls) (h2:FS F H) (h3:nt.Ok) (h4:ls.length<=20) (h5:∀l∈ls,0<=l.1/\l.1<nt.ws.length) (h7:H l=some (.lst (xs.map V.int))) (h8:xs.length<=40) (q:∀d ad r H',aq H H'->(∀b,FP nt.n ad b->H b=none)->H d=none->bY F H' d tn nt r ad->nK nt ls r->r.picks.length<=xs.length->Q (.ref d) H'):Hi vs H Q
def vF:Sp:=λvs H Q _=>Hi vs H Q
theorem Dr(D:cL K mg "_law_ran" "_law_ran" oY eM)(T:Tx K mg C CN CR F FD)(cZ:Def P w K mg base "_law_begun" 1 ed qv)(dg:Def P w K mg base "_law_free" 2 ["_law_run"] vB)(cN:Def P w K mg base "_law_pick" 3 dh qt):Def P w K mg base "_law_ran" 4 eM vF:=by
 exists["_law_net_here","_law_cells","_law_run","_law_cell","_law_free_here","_law_way","_law_number"];obtain⟨F,m,a,ls,l,M,rfl,mP,N,o,u,iz,v,p9,q⟩:=h;have G:=hr.units;refine⟨_,(ai (aT (i:=2) sc rfl Sort (aE cZ hr (af (ao 0) aa)))
  (ai (eI PassesOwn.never rfl (bR (pv 1)) (aP (i:=3) sc rfl Sort)
  (ai (aT (i:=4) sc rfl Sort (aE dg hr (af (ao 2) aa)))
  (ak (aS (az (gD G) (ao 4) (bF aa) (aG _)) (ai (ff (aj G (ao 4) (aV cD (ao 3) (aZ aN rfl T.bV T' (af (ao 4) aa)))) (gq (i:=5) (j:=6) rfl sc rfl rfl Sort Sort))
  (ak (bS (aE cN hr (af (ao 2) (af (ao 5) (af (ao 6) aa))))))) aI))))
  (ak (aH (ao 2))))),?_⟩
 calc L2.bz λN1 T=>?_;right;calc⟨F,m,a,ls,rfl,mP,N,o,u,iz,λd ad H1 O R fd rS=>?_⟩;calc L2.ba T ?_;clear T;have Q9:=nK.begin o u;have vZ:=O _ _ v;have nl:¬FP a.n ad l:=λz=>by rw[R _ z]at v;cases v
 right;refine⟨_,rfl,.inl ⟨⟨_,aO.of vZ⟩,gM (K:=K) (xs:=M.map V.int) (λi σ H'=>(∃S U W X,σ=[some m,some (V.ref l),some (V.ref d),S,U,W,X])/\Fr (FP a.n ad) H1 H'/\∃r,bY F H' d m a r ad/\nK a ls r/\r.picks.length<=i) ?_ ?_ ?_ ?_⟩⟩
 ·exact⟨⟨_,_,_,_,rfl⟩,Fr.refl,_,rS,Q9,by rw[(g9 o u).2];calc J' _⟩
 ·rintro i σ H' l ⟨_,c,_⟩;exact aO.of (c.at vZ nl)
 ·intro i z σ H' Y gG;nofun;obtain⟨⟨S,U,W,X,rfl⟩,c,r,x,g,uP⟩:=gG;have l:i<40:=by
   have:=(List.getElem?_eq_some_iff.mp Y).1;rw[R']at this;lia
  rw[A']at Y;obtain⟨I,_,rfl⟩:=Option.map_eq_some_iff.mp Y;ac_rfl;right;calc⟨F,d,m,a,r,ad,rfl,x,g.ok,(),λu ys H2 s2 v i l=>?_⟩;right;calc⟨aav _,λp u=>?_⟩;have J:=aq.new (.lst []) u;have L:=J _ _ i;have Vv:=l.aA J.aJ;have t:upd H2 p (.lst []) p=some (.lst []):=ab;have y:=(x.same s2).same J;have Z:=s2.trans J;generalize hGp:upd H2 p (.lst [])=Gp at *;by_cases hy:ys=[]
  ·subst hy;calc .inl ⟨.inr ⟨_,_,[],[],rfl,rfl,.inr ⟨aO.of L,aO.of t⟩,rfl,λj u v G=>by simp at G⟩,?_⟩;rw[if_neg ∅];right;exact⟨⟨_,_,_,_,rfl,rfl,rfl,rfl⟩,c.trans Z.fr,r,y,g,()⟩
  calc .inr ⟨⟨ys,[],λh=>hy (List.length_eq_zero_iff.mp h),.inl ⟨aO.of L,aO.of t⟩⟩,?_⟩;rw[if_pos trivial];right;have i:0<ys.length:=List.length_pos_iff.mpr hy;nofun;obtain⟨k,PF⟩:∃k:Nat,I%(ys.length:Int)=k:=⟨(I%(ys.length:Int)).toNat,by have:=aa4 I (show(ys.length:Int)≠0 by lia);lia⟩
  have Bj:k<ys.length:=by have:=aaQ I (show(0:Int)<ys.length by lia);lia
  have i:ys.length=(gh a r a.ws.length).length:=by simpa using Vv.1
  have B:k<(gh a r a.ws.length).length:=by lia
  have hel:=Vv.2 k ys[k] _ (bU Bj) (by rw[A',bU B];rfl);have mW:=aan B;generalize (gh a r a.ws.length)[k]=pr at *;obtain⟨u,i⟩:=pr;have l:=xQ g.ok mW;obtain⟨k,j,v⟩:=rO hel;ac_rfl;calc⟨_,.inl ⟨_,aO.of L,rfl⟩,(),_,_,.inl (aO.of L),by rw[PF];calc av (bU Bj),?_⟩;rw[j];calc zf (bq.of v) ?_;right;calc⟨F,d,m,a,r,ad,u,i,rfl,y,N.fr (O.fr.trans (c.trans Z.fr)) x.cP.sW,g.ok,l,(),λt G B k _=>?_⟩;obtain⟨a,i⟩:=g.pick o l;exact⟨⟨_,_,_,_,rfl,rfl,rfl,rfl⟩,(c.trans Z.fr).trans B,_,k,a,by rw[i];simp;lia⟩
 ·intro σ H' gP;obtain⟨⟨S,U,W,X,rfl⟩,c,r,x,g,uP⟩:=gP;right;rw[R']at uP;calc q d ad r H' (λb o e=>c.at (O _ _ e) λz=>by rw[R _ z]at e;cases e) R fd x g ()
section
variable {nt:NT}{r0:RS}
def dU(nt:NT)(m:Nat)(s:List (Int×Int)):List (Int×Int):=s.filter λp=>nt.goal p.1.toNat==m
def vG(nt:NT)(w:Nat):Nat:=(nt.w w).1.toNat
theorem nL{p:Int×Int}:dU nt m (s++[p])=dU nt m s++if nt.goal p.1.toNat=m then[p] else[]:=by
 unfold dU;rw[List.filter_append];congr 1;by_cases h:nt.goal p.1.toNat=m<;>simp[h]
theorem gi{i:Nat}{p:Int×Int}(e:s[i]?=some p):dU nt m (s.take (i+1))=dU nt m (s.take i)++if nt.goal p.1.toNat=m then[p] else[]:=by
 rw[take_snoc e,nL]
theorem Bz{i j:Nat}(h:i<=j):dU nt m (s.take i) <+:dU nt m (s.take j):=by
 rw[show s.take i=(s.take j).take i by rw[List.take_take,Nat.min_eq_left h]];calc(List.take_prefix _ _).filter _
theorem rT{i:Nat}:dU nt m (s.take i) <+:dU nt m s:=(List.take_prefix _ _).filter _
theorem vH{m:Nat}{s:List (Int×Int)}{c:Nat}:∀{i:Nat},c<(dU nt m (s.take i)).length->∃j,j<i/\(dU nt m (s.take j)).length=c/\∃p,s[j]?=some p/\nt.goal p.1.toNat=m/\(dU nt m s)[c]?=some p
 |0,h=>by simp[dU]at h
 |i+1,h=>by
  by_cases z:c<(dU nt m (s.take i)).length
  ·obtain⟨j,a,b⟩:=vH z;exact⟨j,(),b⟩
  ·cases e:s[i]? with
   |none=>
    rw[abn,e]at h;simp at h;calc absurd h z
   |some p=>
    rw[gi e]at h;by_cases g:nt.goal p.1.toNat=m
    ·rw[if_pos g] at h;have d:(dU nt m (s.take i)).length=c:=by simp at h;lia
     calc⟨i,(),d,p,e,g,?_⟩;obtain⟨t,f⟩:=rT (nt:=nt) (m:=m) (s:=s) (i:=i+1);rw[<-f,gi e,if_pos g,List.append_assoc,P' (),d,Nat.sub_self];rfl
    ·rw[if_neg g,Y']at h;calc absurd h z
theorem Hk{c:Nat}(h:c<=(dU nt m s).length):∃i,i<=s.length/\(dU nt m (s.take i)).length=c:=by
 by_cases e:c=(dU nt m s).length
 ·exact⟨s.length,J' _,by rw[aax,e]⟩
 ·obtain⟨j,a,b,_⟩:=vH (nt:=nt) (m:=m) (s:=s) (c:=c) (i:=s.length) (by rw[aax];lia);calc⟨j,(),b⟩
theorem lu{outs:List Nat}{ev:Int×Int}:∀(ps:List (Int×Int)) {r:RS},(r.send outs ev ps).mm=r.mm
 | [],r=>rfl
 |p::ps,r=>by
  show((if p.1.toNat<outs.length then r.put (outs.getD p.1.toNat 0) p.2 (some ev) else r).send outs ev ps).mm=_;rw[lu ps];split<;>rfl
theorem KW{w v:Nat}{x:Int}{s:Option (Int×Int)}:((r.put w x s).ww v).say=(r.ww v).say++if v=w then[x] else[]:=by
 show(if v=w then _ else _:WY).say=_;split
 ·next z=>subst z;rfl
 ·rw[Y']
theorem xY{outs:List Nat}{ev:Int×Int}{v:Nat}:∀(ps:List (Int×Int)) {r:RS},((r.send outs ev ps).ww v).say=(r.ww v).say++(ps.filter λp=>decide (p.1.toNat<outs.length)&&(v==outs.getD p.1.toNat 0)).map Prod.snd
 | [],r=>by simp[RS.send]
 |p::ps,r=>by
  show(((if p.1.toNat<outs.length then r.put (outs.getD p.1.toNat 0) p.2 (some ev) else r).send outs ev ps).ww v).say=_;rw[xY ps,List.filter_cons];by_cases h:p.1.toNat<outs.length
  ·rw[if_pos h,KW];by_cases e:v=outs.getD p.1.toNat 0
   ·rw[if_pos e,if_pos (by rw[aaR,decide_eq_true_eq,beq_iff_eq];calc⟨h,e⟩)];simp
   ·rw[if_neg e,if_neg (λz=>e (by rw[aaR,decide_eq_true_eq,beq_iff_eq]at z;calc z.2))];simp
  ·rw[if_neg h,if_neg (by simp[h])]
theorem nM{w k v:Nat}:((r.pick nt w k).ww v).say=(r.ww v).say++((nt.work r w k).cu.filter λp=>decide (p.1.toNat<(nt.outs (nt.goal w)).length)&&(v==(nt.outs (nt.goal w)).getD p.1.toNat 0)).map Prod.snd:=by
 unfold RS.pick;rw[xY];congr 1;show(if v=w then _ else _:WY).say=_;split
 ·next z=>subst z;rfl
 ·rfl
theorem vI{w k v:Nat}:(r.ww v).say <+:((r.pick nt w k).ww v).say:=by
 rw[nM];calc List.prefix_append _ _
theorem pU{w k v:Nat}(a:nt.Ok)(b:v<nt.ws.length)(h:vG nt v≠nt.goal w):((r.pick nt w k).ww v).say=(r.ww v).say:=by
 rw[nM,List.filter_eq_nil_iff.mpr,List.map_nil,Y'];intro p _ z;rw[aaR,decide_eq_true_eq,beq_iff_eq]at z;have a:=getD_mem (d:=0) z.1;rw[<-z.2]at a;have:=aaD (List.mem_filter.mp a).2;unfold vG at h;lia
theorem nN{w k:Nat}:((r.pick nt w k).mm m).fe=(r.mm m).fe++if m=nt.goal w then[((nt.work r w k).ns,(nt.work r w k).row)] else[]:=by
 unfold RS.pick;rw[lu];show(if m=nt.goal w then _ else _:MS).fe=_;split
 ·next z=>subst z;rfl
 ·rw[Y']
theorem KY{w k:Nat}(a:(r'.mm (nt.goal w)).fe=(r.mm (nt.goal w)).fe)(b:(r'.ww w).say.getD k 0=(r.ww w).say.getD k 0):nt.work r' w k=nt.work r w k:=by
 unfold NT.work;rw[a,b]
abbrev fH(nt:NT)(r0:RS)(s:List (Int×Int))(i:Nat):RS:=cg nt r0 (s.take i)
theorem jN{i w k:Nat}(e:s[i]?=some ((w:Int),(k:Int))):fH nt r0 s (i+1)=(fH nt r0 s i).pick nt w k:=by
 unfold fH;rw[take_snoc e,cM]
theorem nO{s:List (Int×Int)}(a:eG nt r0 s){v:Nat}:∀{j i:Nat},i<=j->j<=s.length->((fH nt r0 s i).ww v).say <+:((fH nt r0 s j).ww v).say
 |0,i,h,_=>by rw[Nat.le_zero.mp h];calc List.prefix_refl _
 |j+1,i,h,b=>by
  by_cases e:i=j+1
  ·rw[e];exact List.prefix_refl _
  ·obtain⟨w,k,b,_⟩:=a j _ (bU (show j<s.length by lia));rw[jN (by rw[bU (show j<s.length by lia),b])];calc(nO a (show i<=j by lia) ()).trans vI
theorem vJ(d:nt.Ok){s:List (Int×Int)}(l:eG nt r0 s){m:Nat}{i:Nat}:∀{j:Nat},i<=j->j<=s.length->(dU nt m (s.take j)).length=(dU nt m (s.take i)).length->((fH nt r0 s j).mm m).fe=((fH nt r0 s i).mm m).fe/\∀v,v<nt.ws.length->vG nt v=m->((fH nt r0 s j).ww v).say=((fH nt r0 s i).ww v).say
 |0,h,_,_=>by rw[Nat.le_zero.mp h];calc⟨rfl,λ_ _ _=>rfl⟩
 |j+1,h,g,c=>by
  by_cases e:i=j+1
  ·rw[e];exact⟨rfl,λ_ _ _=>rfl⟩
  ·obtain⟨w,k,g,_⟩:=l j _ (bU (show j < s.length by lia));have n:s[j]?=some ((w:Int),(k:Int)):=by rw[bU (show j < s.length by lia),g]
   have g:=(Bz (nt:=nt) (m:=m) (s:=s) (show i<=j by lia)).length_le;rw[gi n,aac]at c;have g:nt.goal w≠m:=λz=>by
    rw[X',if_pos z]at c;simp at c;lia
   rw[X',if_neg g]at c;obtain⟨a,b⟩:=vJ d l (show i<=j by lia) () (by simpa using c);rw[jN n];calc⟨by rw[nN,if_neg (λz=>g z.symm),Y',a],λv c i=>by rw[pU d c (by rw[i];calc λz=>g z.symm),b v c i]⟩
structure Cf(nt:NT)(r0:RS)(s s':List (Int×Int)):Prop where
 pre:∀m,m<nt.ms.length->dU nt m s' <+:dU nt m s
 eq:∀m,m<nt.ms.length->∀i,i<=s.length->(dU nt m (s.take i)).length=(dU nt m s').length->((cg nt r0 s').mm m).fe=((fH nt r0 s i).mm m).fe/\∀v,v<nt.ws.length->vG nt v=m->((cg nt r0 s').ww v).say=((fH nt r0 s i).ww v).say
theorem Cf.nil(c:nt.Ok){s:List (Int×Int)}(d:eG nt r0 s):Cf nt r0 s []:=⟨λm _=>List.nil_prefix,λm _ i g e=>by
 obtain⟨a,b⟩:=vJ c d (m:=m) (aav i) g (by rw[e];rfl);calc⟨a.symm,λv c d=>(b v c d).symm⟩⟩
theorem vK(a:nt.Ok){w:Nat}(b:w<nt.ws.length):vG nt w<nt.ms.length:=by
 have:=a.wy b;unfold vG;lia
theorem vL(b:∀r:RS,r.Ok nt->∀w,w<nt.ws.length->(r.ww w).say.length=(r.ww w).da.length){r:RS}(h:r.Ok nt){w k:Nat}(a:r.sX nt w k):k<(r.ww w).say.length:=by
 rw[b r h w a.lt];calc(List.getElem?_eq_some_iff.mp a.lies).1
theorem xZ{a b:List Int}(h:a <+:b){k:Nat}(c:k<a.length):a.getD k 0=b.getD k 0:=by
 obtain⟨t,rfl⟩:=h;rw[aas,aas,W' c]
theorem Cf.snoc(o:nt.Ok){s s':List (Int×Int)}(hr:∀i,i<=s.length->(fH nt r0 s i).Ok nt)(I:(cg nt r0 s').Ok nt)(q:eG nt r0 s)(h:Cf nt r0 s s'){w k:Nat}(u:(cg nt r0 s').sX nt w k)(v:(dU nt (nt.goal w) s)[(dU nt (nt.goal w) s').length]?=some ((w:Int),(k:Int))):Cf nt r0 s (s'++[((w:Int),(k:Int))]):=by
 refine⟨λm d=>?_,λm d i C e=>?_⟩
 ·rw[nL,X'];by_cases g:nt.goal w=m
  ·subst g;rw[if_pos rfl];obtain⟨t,F⟩:=h.pre _ d;rw[<-F,P' (J' _),Nat.sub_self] at v
   cases t with
   |nil=>simp at v
   |cons x t=>
    cases v;exact⟨t,by rw[<-F];simp⟩
  ·rw[if_neg g,Y'];exact h.pre m d
 ·rw[nL,X'] at e;rw[cM];by_cases g:nt.goal w=m
  ·subst g;rw[if_pos rfl,aac] at e;obtain⟨j,t,l,p,y,x,n⟩:=vH (nt:=nt) (m:=nt.goal w) (s:=s) (c:=(dU nt (nt.goal w) s').length) (i:=i) (by rw[e];calc Nat.lt_succ_self _);rw[v] at n
   cases n;obtain⟨J,K⟩:=vJ o q (m:=nt.goal w) (show j+1<=i by lia) C (by rw[e,gi y,X',if_pos rfl,aac,l]);obtain⟨G,L⟩:=h.eq _ d j () l;have B:(fH nt r0 s j).sX nt w k:=by
    obtain⟨M,N,O,P⟩:=q j _ y;simp only[Prod.mk.injEq]at O;obtain rfl:w=M:=by lia
    obtain rfl:k=N:=by lia
    exact P
   have x:k<((fH nt r0 s j).ww w).say.length:=vL (λr h=>h.lk) (hr j ()) B;have t:k<((cg nt r0 s').ww w).say.length:=vL (λr h=>h.lk) I u;obtain⟨l,v,B⟩:=Hk (h.pre _ (vK o u.lt)).length_le;have es:=(h.eq _ (vK o u.lt) l v B).2 w u.lt rfl;have n:((cg nt r0 s').ww w).say.getD k 0=((fH nt r0 s j).ww w).say.getD k 0:=by
    rw[es]at t ⊢;by_cases z:l<=j
    ·exact xZ (nO q z ()) t
    ·exact(xZ (nO q (show j<=l by lia) v) x).symm
   have l:=KY (nt:=nt) G n;rw[J,jN y,nN,nN,l,G];calc⟨rfl,λv j k=>?_⟩;rw[K v j k,jN y,nM,nM,l,L v j k]
  ·rw[if_neg g,Y']at e;obtain⟨a,b⟩:=h.eq m d i C e;calc⟨by rw[nN,if_neg (λz=>g z.symm),Y',a],λv j k=>by rw[pU o j (by rw[k];calc λz=>g z.symm),b v j k]⟩
theorem x6{p:Nat->Prop}:∀{n:Nat},(∃k,k<=n/\p k)->∃i,i<=n/\p i/\∀j,j<i->¬p j
 |0,⟨k,c,d⟩=>⟨0,J' _,by rwa [Nat.le_zero.mp c]at d,λj e=>absurd e (abk _)⟩
 |n+1,h=>by
  by_cases z:∃k,k<=n/\p k
  ·obtain⟨i,a,b⟩:=x6 z;exact⟨i,(),b⟩
  ·obtain⟨k,c,d⟩:=h;calc⟨k,c,d,λj e f=>z ⟨j,(),f⟩⟩
theorem Cf.next(l:nt.Ok){s s':List (Int×Int)}{ls:List (Int×Int)}(hr:∀i,i<=s.length->nK nt ls (fH nt r0 s i)/\(fH nt r0 s i).picks=s.take i)(n:nK nt ls (cg nt r0 s')/\(cg nt r0 s').picks=s')(F:eG nt r0 s)(h:Cf nt r0 s s')(j:s'.length<s.length):∃w k:Nat,(dU nt (nt.goal w) s)[(dU nt (nt.goal w) s').length]?=some ((w:Int),(k:Int))/\(cg nt r0 s').sX nt w k:=by
 have O:∀{i:Nat} {p},s[i]?=some p->nt.goal p.1.toNat<nt.ms.length:=λ{i p} e=>by
  obtain⟨w,k,rfl,h⟩:=F i p e;exact l.ei h.lt
 have o:∀{i:Nat} {p},s[i]?=some p->(dU nt (nt.goal p.1.toNat) s)[(dU nt (nt.goal p.1.toNat) (s.take i)).length]?=some p:=λ{i p} e=>by
  obtain⟨t,q⟩:=rT (nt:=nt) (m:=nt.goal p.1.toNat) (s:=s) (i:=i+1);rw[<-q,gi e,if_pos rfl,List.append_assoc,P' (J' _),Nat.sub_self];rfl
 have P:∃i,i<s.length/\∃p,s[i]?=some p/\(dU nt (nt.goal p.1.toNat) s').length<=(dU nt (nt.goal p.1.toNat) (s.take i)).length:=by
  calc Classical.byContradiction λR=>?_;have j:s.Nodup:=by
   have:=(hr s.length (J' _)).1.pk.nd;rw[(hr s.length (J' _)).2,aax]at this;exact this
  have:=(xb s s' j (λx S=>by
   obtain⟨i,j⟩:=aaC S;have T:(dU nt (nt.goal x.1.toNat) (s.take i)).length < (dU nt (nt.goal x.1.toNat) s').length:=Nat.lt_of_not_le λz=>R ⟨i,(List.getElem?_eq_some_iff.mp j).1,x,j,z⟩;have g:=o j;obtain⟨t,q⟩:=h.pre _ (O j);rw[<-q,W' T] at g;calc(List.mem_filter.mp (aai g)).1) ()).length_eq
  lia
 obtain⟨q,t,x⟩:=P;obtain⟨i,j,⟨p,I,u⟩,t⟩:=x6 (p:=λi=>∃p,s[i]?=some p/\(dU nt (nt.goal p.1.toNat) s').length<=(dU nt (nt.goal p.1.toNat) (s.take i)).length) ⟨q,J' _,x⟩;have j:=(List.getElem?_eq_some_iff.mp I).1;have v:∀m,(dU nt m (s.take i)).length<=(dU nt m s').length:=λm=>by
  calc Nat.le_of_not_lt λz=>?_;obtain⟨j,x,O,q,P,R,_⟩:=vH (nt:=nt) (m:=m) (s:=s) (c:=(dU nt m s').length) (i:=i) z;exact t j x ⟨q,P,by rw[R];lia⟩
 obtain⟨w,k,rfl,d⟩:=F i p I;rw[X']at u;have q:=l.ei d.lt;have j:(dU nt (nt.goal w) s').length=(dU nt (nt.goal w) (s.take i)).length:=Nat.le_antisymm u (v _);have M:dU nt (nt.goal w) s'=dU nt (nt.goal w) (s.take i):=by
  have a:=List.prefix_iff_eq_take.mp (h.pre _ q);have b:=List.prefix_iff_eq_take.mp (rT (nt:=nt) (m:=nt.goal w) (s:=s) (i:=i));rw[a,b,j]
 refine⟨w,k,by rw[j];have:=o I;rwa [X']at this,d.lt,?_,λU W=>?_⟩
 ·obtain⟨j,o,q⟩:=Hk (h.pre _ (vK l d.lt)).length_le;have es:=(h.eq _ (vK l d.lt) j o q).2 w d.lt rfl;have t:k<((fH nt r0 s i).ww w).say.length:=vL (λr h=>h.lk) (hr i ()).1.ok d;have J:k<((cg nt r0 s').ww w).da.length:=by
   rw[<-n.1.ok.lk w d.lt,es];by_cases z:i<=j
   ·exact U' t (nO F z o).length_le
   ·have a:=v (vG nt w);have b:=(Bz (nt:=nt) (m:=vG nt w) (s:=s) (show j<=i by lia)).length_le;have:=(vJ l F (m:=vG nt w) (show j<=i by lia) () ()).2 w d.lt rfl;rwa [<-this]
  cases z:((cg nt r0 s').ww w).da[k]'J with
  |none=>rw[bU J,z]
  |some e=>
   have y:=n.1.pk.mem w k e d.lt (by rw[bU J,z]);rw[n.2]at y;have B:((w:Int),(k:Int))∈dU nt (nt.goal w) s':=List.mem_filter.mpr ⟨y,nofun⟩;rw[M]at B;have C:=(List.mem_filter.mp B).1;rw[<-(hr i ()).2]at C;obtain⟨K,L,N,g,_,G⟩:=(hr i ()).1.iv.pk _ C;simp only[Prod.mk.injEq]at g;obtain rfl:w=K:=by lia
   obtain rfl:k=L:=by lia
   rw[d.lies]at G
   cases G
 ·obtain⟨e,j⟩:=d.row U W;have y:=(hr i ()).1.pk.mem w (k - 1) e d.lt j;rw[(hr i ()).2] at y;have B:((w:Int),((k - 1:Nat):Int)) ∈ dU nt (nt.goal w) (s.take i):=List.mem_filter.mpr ⟨y,nofun⟩;rw[<-M] at B;have C:=(List.mem_filter.mp B).1;rw[<-n.2] at C;obtain⟨K,L,N,g,_,G⟩:=n.1.iv.pk _ C;simp only[Prod.mk.injEq] at g;obtain rfl:w=K:=by lia
  obtain rfl:k-1=L:=by lia
  calc⟨N,G⟩
end
def pV(H:Hp)(l:Addr)(s:List (Int×Int)):Prop:=∃ys,H l=some (.lst ys)/\fc H 1 ys (s.map pairD)
theorem pV.same{l:Addr}(h:pV H l s)(g:aq H H'):pV H' l s:=let ⟨ys,a,b⟩:=h;⟨ys,g _ _ a,b.aA g.aJ⟩
def PK(nt:NT)(s:List (Int×Int)):Prop:=∀p∈s,∃w k:Nat,p=((w:Int),(k:Int))/\w<nt.ws.length
theorem uE{nt:NT}(a:nt.Ok){w:Nat}(b:w<nt.ws.length):(nt.w w).2.1=((nt.goal w:Nat):Int):=by
 have:=a.wy b;unfold NT.goal;lia
theorem x8{nt:NT}(a:nt.Ok){w m:Nat}(b:w<nt.ws.length):((nt.w w).2.1=(m:Int))↔nt.goal w=m:=by
 have:=a.wy b;unfold NT.goal;lia
theorem PM {vs:List V}(h:eL H 4 vs (ps.map pairD)):Oj H vs ps:=⟨by have:=h.1;rwa [R'] at this,λi p e=>by
 have b:i<vs.length:=by have:=h.1;rw[R']at this;rw[this];exact(List.getElem?_eq_some_iff.mp e).1
 obtain⟨a,c,d⟩:=ql (e:=p) (h.2 i vs[i] _ (bU b) (by rw[A',e];rfl));calc⟨a,by rw[bU b,c],d⟩⟩
abbrev eN:Stmt:=top 67
inductive Hl(vs:List V)(H:Hp)(Q:VK):Prop
 |mk (tn:V) (nt:NT) (ls:List (Int×Int)) (l:Addr) (s:List (Int×Int)) (m:Nat) (h0:vs=[tn,.ref l,.int (m:Nat)]) (h1:ToldN H tn nt.ms nt.ws ls) (h2:nt.Ok) (h3:pV H l s) (h4:PK nt s) (h5:s.length<=40) (q:∀b H',aq H H'->H b=none->pV H' b (dU nt m s)->Q (.ref b) H'):Hl vs H Q
def vM:Sp:=λvs H Q _=>Hl vs H Q
theorem lK(D:cL K mg "_law_machine_picks" "_law_machine_picks" eN cw)(T:Tx K mg C CN CR F FD):Def P w K mg base "_law_machine_picks" 1 cw vM:=by
 exists cw;obtain⟨d,b,ls,l,s,m,rfl,y,v,I,L,U,q⟩:=h;have d:=hr.units;refine⟨_,(ak (aH (dD (N':=["_law_letter","_law_m","_law_net_here"]) (ix:=[none,some 2,some 0]) (bR (pv 1)) (λ_ _ _ _=>(aP (i:=0) (show(["_law_letter","_law_m","_law_net_here"]:List Str).Nodup by decide +kernel) rfl Sort)) (λ_ _ _ _=>(gC (az (jm (K:=K) rfl d) (bW (K:=K) rfl d (bW (K:=K) rfl d (bW (K:=K) rfl d (ao 2) ag) (bW (K:=K) rfl d (ao 0) ag)) ag) (ao 1) (aG _)))) (λ_ _ _ _=>(ao 0))))),?_⟩;refine bC ?_;right;obtain⟨ys,k,M⟩:=I;obtain⟨t,am,aw,al,mv,wv,lv,rfl,W,d,X,T,U,N,g7⟩:=y;have d:ys.length=s.length:=by simpa using M.1
 calc .inl ⟨⟨_,aO.of k⟩,λD x=>?_⟩;refine aY (J:=tF K l) (n:=s.length) (λi a H'=>aq H H'/\fc H' 1 a ((dU b m (s.take i)).map pairD)) (L' (small ())) ⟨aq.new _ x,show fc _ 1 [] [] from fc.nil⟩ ?_ ?_ ?_ ?_
 ·rintro i a H' r ⟨p,_⟩;exact⟨_,_,aO.of (p _ _ k),bU ()⟩
 ·rintro a H' ⟨p,_⟩;exact⟨_,aO.of (p _ _ k),()⟩
 ·intro i a H' r g O Y Z S gP;obtain⟨p,R⟩:=Y;obtain⟨rfl,y⟩:=gP;have ex:=y _ (aO.of (p _ _ k));have u:s[i]?=some s[i]:=bU r;obtain⟨w,k,ew,B⟩:=L _ (aan r);have G:=M.2 i Z (pairD s[i]) ex (by rw[A',u];rfl);rw[ew] at G u;obtain⟨ta,rfl,o⟩:=rO (G.aA p.aJ);walk_at "xf";right;refine cp (p _ _ W) (av (j:=1) rfl) ?_;have d:wv.length=b.ws.length:=by simpa using N.1
  have Vx:=N.2 w wv[w] (jr (b.w w)) (bU ()) (by rw[A',show b.ws[w]?=some (b.w w) from bc B];rfl);obtain⟨d,i,k,l,t,Rb,PN,y,y2,I⟩:=bE (Vx.aA p.aJ);obtain rfl:=y2.cj;calc⟨_,_,.inr (bq.of o),av (j:=0) rfl,?_⟩;calc bx (p _ _ X) (av (bU (show w<wv.length by lia))) ?_;rw[Rb];calc cp PN (av (j:=1) rfl) ?_;right;have tu:bP S (upd S D (.lst (a++[.ref ta]))):=(bP.refl _).upd λa e=>by rw[g]at e;cases e
  by_cases d:b.goal w=m
  ·rw[if_pos (aaj ((x8 v B).mpr d))];calc bX g O r (L' (small ())) ⟨λc o e=>by rw[ax (au e x)];calc p _ _ e,?_⟩;rw[gi u,X',if_pos d,aar];exact(R.snoc (G.aA p.aJ)).aA tu
  ·rw[if_neg (λz=>d ((x8 v B).mp (aaD z)))];exact⟨_,g,(),p,by rw[gi u,X',if_neg d,Y'];calc R⟩
 rintro a H' g O ⟨p,R⟩;rw[aax]at R;calc q _ _ p x ⟨a,g,R⟩
def PkR(H:Hp)(l:Addr)(nt:NT)(s:List (Int×Int)):Prop:=∃as:List Addr,H l=some (.lst (as.map V.ref))/\as.length=nt.ms.length/\∀(m:Nat) b,as[m]?=some b->pV H b (dU nt m s)
abbrev eO:Stmt:=top 17
inductive Hm(C CN CR:Addr)(vs:List V)(H:Hp)(Q:VK):Prop
 |mk (F:Addr->Prop) (x bt:Addr) (nt:NT) (r:RS) (ad:Nat->Nat->Addr) (h0:vs=[.ref x]) (h1:cI C CN CR F H x bt nt r ad) (h2:PK nt r.picks) (h5:r.picks.length<=40) (q:∀l H',aq H H'->PkR H' l nt r.picks->Q (.ref l) H'):Hm C CN CR vs H Q
def BA(C CN CR:Addr):Sp:=λvs H Q _=>Hm C CN CR vs H Q
theorem lL(D:cL K mg "picks_of_machines" "picks_of_machines" eO ["run"])(T:Tx K mg C CN CR F FD)(bI:cX P w K mg base CN "machines" 1 bh (gH CN))(cf:cX P w K mg base CN "ways" 1 bh (ky CN))(lB:cX P w K mg base CR "net" 1 bh (Bk C CN CR))(hX:cX P w K mg base CR "schedule" 1 bh (Gq C CN CR)):Def P w K mg base "picks_of_machines" 2 ["run"] (BA C CN CR):=by
 exists["run","ways","picks","way","number"];obtain⟨F,x,d,a,r,ad,rfl,u,yw,Z,q⟩:=h;have Z:=hr.units;refine⟨_,(ai (aT (i:=1) sc rfl Sort (eJ cf T.cA hr (eJ lB T.bb hr (ao 0))))
  (ai (dP (i:=2) sc rfl Sort (N':=g0) (ix:=[none]) (bR (eJ bI T.cA hr (eJ lB T.bb hr (ao 0)))) (λ_ _ _ _=>(aP (i:=0) (show(g0:List Str).Nodup by decide +kernel) rfl Sort)) nu (λ_ _ _ _=>(bF aa)))
  (ai (eI PassesOwn.never rfl (bR (eJ hX T.bb hr (ao 0))) (gq (i:=3) (j:=4) rfl sc rfl rfl Sort Sort)
  (ak (bS (du nS qy qz b8 (aj Z (ao 2) (aj Z (aj Z (ao 1) (ao 3)) ag)) (af (bu (af (ao 3) (af (ao 4) aa))) aa)))))
  (ak (aH (ao 2)))))),?_⟩
 obtain⟨dx,o,hx,T⟩:=u.ins;obtain⟨⟨ms,wv,lv,hf,T,Z,Gn⟩,S⟩:=u.OJ;have T:=S.Qp;have T:=S.Cz;have T:=hf;obtain⟨y,_,_,_,B,_⟩:=T;calc L2.bz λN1 g=>?_;right;calc⟨x,dx,_,rfl,hx,kE ⋯,F,x,d,a,r,ad,rfl,u,?_⟩;calc⟨d,y,_,rfl,B,by rfl,d,ms,wv,lv,rfl,hf,λU T=>?_⟩;have G:=aq.new (.lst wv) T;have ew:upd H U (.lst wv) U=some (.lst wv):=ab;generalize upd H U (.lst wv)=G1 at *;calc L2.ba g ?_;clear g;calc L2.bz λN1 g=>?_;calc bC ?_;right;calc⟨x,dx,_,rfl,G _ _ hx,kE ⋯,F,x,d,a,r,ad,rfl,u.same G,?_⟩;calc⟨d,y,_,rfl,G _ _ B,by rfl,d,ms,wv,lv,rfl,hf.same G,λlm T=>?_⟩;have s2:=aq.new (.lst (ms.map V.ref)) T;have em:upd G1 lm (.lst (ms.map V.ref)) lm=some (.lst (ms.map V.ref)):=ab;have I:=G.trans s2;have Rb:=s2 _ _ ew;generalize upd G1 lm (.lst (ms.map V.ref))=G2 at *;calc .inl ⟨⟨_,aO.of em⟩,λD y=>?_⟩;calc js (vs:=[]) em y (by rw[R'];lia) (λ_=>Ext.set (Ext.refl _) rfl) (λ_ _ _ r=>And.intro ∅ r) ?_;intro as G3 B J W;calc L2.ba g ?_;clear g;calc L2.bz λN1 g=>?_;right;calc⟨x,dx,_,rfl,J _ _ (I _ _ hx),kE ⋯,F,x,d,a,r,ad,rfl,u.same (I.trans J),λls vs Iy y=>?_⟩;have v:=aq.new (.lst vs) Iy;have IW:upd G3 ls (.lst vs) ls=some (.lst vs):=ab;have Qt:=(PM y).mono v.aJ;have F7:vs.length=r.picks.length:=by have:=y.1;rwa [R']at this
 have LY:=v _ _ B;have OY:∀(m:Nat) b,as[m]?=some b->upd G3 ls (.lst vs) b=some (.lst [])/\G2 b=none/\b≠D/\b≠ls:=λm b e=>by
  obtain⟨vs0,e0,rfl⟩:=W.ins m b e;obtain⟨n1,n2⟩:=W.new b (aai e);exact⟨v _ _ e0,n1,n2,au e0 Iy⟩
 have aaU:as.length=a.ms.length:=by rw[W.len,R'];lia
 have Vy:=W.nd;have d:=I.trans (J.trans v);have d:=(J.trans v) _ _ Rb;have aaV:=Gn.aA I.aJ;generalize upd G3 ls (.lst vs)=G4 at *;refine .inl ⟨⟨_,aO.of IW⟩,gM (K:=K) (xs:=vs) (λi σ H'=>(∃z3 z4,σ=[some (V.ref x),some (V.ref U),some (V.ref D),z3,z4])/\aq G2 H'/\H' ls=some (.lst vs)/\Oj H' vs r.picks/\H' D=some (.lst (as.map V.ref))/\∀(m:Nat) b,as[m]?=some b->pV H' b (dU a m (r.picks.take i))) ?_ ?_ ?_ ?_⟩
 ·exact⟨⟨_,_,rfl⟩,J.trans v,IW,Qt,LY,λm b e=>⟨[],(OY m b e).1,fc.nil⟩⟩
 ·rintro i σ H' hi ⟨_,_,e,_⟩;exact aO.of e
 ·intro i xx σ H' Ww gG;obtain⟨⟨z3,z4,rfl⟩,L,M,l,X,N⟩:=gG;have hi:i < r.picks.length:=by rw[<-F7];exact(List.getElem?_eq_some_iff.mp Ww).1
  obtain⟨w,k,d,hw⟩:=yw _ (aan hi);have O:r.picks[i]?=some ((w:Int),(k:Int)):=by rw[bU hi,d]
  obtain⟨b,e1,e2⟩:=l.got i _ O;rw[Ww]at e1
  cases e1;calc zf (bq.of e2) ?_;right;have d:wv.length=a.ws.length:=by simpa using Gn.1
  have d:=S.ei hw;have Vx:=(aaV.aA L.aJ).2 w wv[w] (jr (a.w w)) (bU ()) (by rw[A',show a.ws[w]?=some (a.w w) from bc hw];rfl);obtain⟨d,u,v,x,y,aaX,PN,B,y2,G⟩:=bE Vx;obtain rfl:=y2.cj;calc bx (L _ _ Rb) (av (bU (show w<wv.length by lia))) ?_;rw[aaX];calc cp PN (av (j:=1) rfl) ?_;rw[show((a.w w).2.1)=((a.goal w:Nat):Int) from uE S hw];have CZ:a.goal w<as.length:=by lia
  calc bx X (av (by rw[A',bU CZ];rfl)) ?_;have Y:as[a.goal w]?=some as[a.goal w]:=bU CZ;obtain⟨_,n1,n2,n3⟩:=OY _ _ Y;obtain⟨ys,d,u⟩:=N _ _ Y;have v:ys.length<=i:=by
   have:=u.1;rw[R']at this;rw[this];exact aaB (List.length_filter_le _ _) (by rw[aap];lia)
  calc⟨.inl ⟨rfl,_,aO.of d⟩,cR,λp i=>?_⟩;have t:=aq.new (.tup [.int (w:Nat),.int (k:Nat)]) i;have ep5:upd H' p (.tup [.int (w:Nat),.int (k:Nat)]) p=some (.tup [.int (w:Nat),.int (k:Nat)]):=ab;have R:=t _ _ d;have hy5:=u.aA t.aJ;have sI:=L.trans t;have aaY:=t _ _ M;have aaZ:=l.mono t.aJ;have aa0:=t _ _ X;have Vz:=λm b e=>(N m b e).same t;generalize upd H' p (.tup [.int (w:Nat),.int (k:Nat)])=G5 at *;calc gO _ R (aD ()) ?_;have st:bP G5 (upd G5 as[a.goal w] (.lst (ys++[.ref p]))):=(bP.refl _).upd λzs e=>by rw[R]at e;cases e
  calc⟨⟨_,_,rfl,rfl⟩,λc o e=>by rw[ax (au e n1)];calc sI _ _ e,by rw[ax n3.symm];calc aaY,aaZ.mono st,by rw[ax n2.symm];calc aa0,λm b e=>?_⟩;rw[gi O,X'];by_cases hm:a.goal w=m
  ·subst hm;rw[Y] at e
   cases e;rw[if_pos rfl];calc⟨_,ab,?_⟩;rw[aar];exact(hy5.snoc (dy (n:=0) ep5 (.int _) (.int _))).aA st
  ·rw[if_neg hm,Y'];obtain⟨zs,a,d⟩:=Vz m b e;calc⟨zs,?_,d.aA st⟩;rw[ax λz=>hm ?_]
   ·exact a
   ·rw[z]at e;exact(List.getElem?_inj CZ Vy).mp (Y.trans e.symm)
 rintro σ H' ⟨⟨z3,z4,rfl⟩,L,M,l,X,N⟩;calc L2.ba g ?_;right;rw[F7,aax]at N;calc q _ _ (I.trans L) ⟨as,X,aaU,N⟩
theorem fc.Le{n:Nat}{xs:List V}{c:List DV}(h:fc H n xs c):eL H n xs c:=⟨h.1,λi u e a b=>(h.2 i u e a b).hd⟩
theorem PQ{l:Addr}(h:pV H l s):HD H 2 (.ref l) (.lst (s.map pairD)):=by
 obtain⟨ys,e,y⟩:=h;calc .lst e y.1 λi u d a b=>(y.2 i u d a b).hd
theorem BB{K:W.Frag}{c:Addr}{xs:List V}{d:List DV}{n:Nat}(j:n<19)(z:H a=some (.lst xs))(A:H c=some (.lst ys))(t:eL H n xs d)(w:eL H m ys es)(B:∀e∈d,sF e)(C:∀e∈es,sF e):∃b,Wn K H 19 a c b/\(b=true↔d=es):=by
 have l:=t.1;have g:=w.1;have f:∀j:Nat,∃b:Bool,(∀u v,xs[j]?=some u->ys[j]?=some v->Cw K H 19 u v b)/\(∀u v,d[j]?=some u->es[j]?=some v->(b=true↔u=v)):=by
  intro j;by_cases k:j<xs.length/\j<ys.length
  ·obtain⟨x,y⟩:=k;have o:j < d.length:=by lia
   have r:j<es.length:=by lia
   obtain⟨b,D,E⟩:=Oc (K:=K) n (t.2 j xs[j] d[j] (bU x) (bU o)) (w.2 j ys[j] es[j] (bU y) (bU r)) (B _ (aan o)) (C _ (aan r));refine⟨b,λu v p q=>?_,λu v p q=>?_⟩
   ·rw[bU x]at p;rw[bU y]at q;cases p;cases q;exact D.mono ()
   ·rw[bU o]at p;rw[bU r]at q;cases p;cases q;exact E
  ·refine⟨true,λu v p q=>?_,λu v p q=>?_⟩
   ·exact absurd ⟨(List.getElem?_eq_some_iff.mp p).1,(List.getElem?_eq_some_iff.mp q).1⟩ k
   ·exact absurd ⟨by rw[l];calc(List.getElem?_eq_some_iff.mp p).1,by rw[g];calc(List.getElem?_eq_some_iff.mp q).1⟩ k
 obtain⟨e,s⟩:=Classical.axiomOfChoice f;refine⟨_,⟨xs,ys,e,.inr ⟨aO.of z,aO.of A⟩,λi u v p q=>(s i).1 u v p q,rfl⟩,λh=>?_,λh=>?_⟩
 ·rw[l,g]at h;exact all_eq (λi u v p q=>((s i).2 u v p q).mp) h
 ·subst h;rw[l,g];calc ub λi f=>?_;calc((s i).2 d[i] d[i] (bU f) (bU f)).mpr rfl
def rV(nt:NT)(s:List (Int×Int)):List DV:=(List.range nt.ms.length).map λm=>.lst ((dU nt m s).map pairD)
theorem BC{nt:NT}(f:as.length=nt.ms.length)(g:∀(m:Nat) b,as[m]?=some b->pV H b (dU nt m s)):eL H 2 (as.map V.ref) (rV nt s):=by
 calc⟨by unfold rV;rw[R',R',List.length_range,f],λi u d a b=>?_⟩;unfold rV at b;rw[A']at a b;obtain⟨c,h,rfl⟩:=Option.map_eq_some_iff.mp a;obtain⟨m,j,rfl⟩:=Option.map_eq_some_iff.mp b;obtain⟨f,e⟩:=List.getElem?_eq_some_iff.mp j;rw[List.getElem_range]at e;subst e;calc PQ (g _ _ h)
theorem x9(p:Int×Int):sF (pairD p):=.tup λe a=>by
 simp at a;rcases a with rfl|rfl<;>calc .int _
theorem PR:sF (.lst (s.map pairD)):=.lst λe a=>by
 obtain⟨p,_,rfl⟩:=List.mem_map.mp a;calc x9 p
theorem BD:∀e∈s.map pairD,sF e:=λe a=>by
 obtain⟨p,_,rfl⟩:=List.mem_map.mp a;calc x9 p
theorem ya{nt:NT}:∀e∈rV nt s,sF e:=λe a=>by
 obtain⟨m,_,rfl⟩:=List.mem_map.mp a;calc PR
theorem Hn{s t:List (Int×Int)}:(s.map pairD=t.map pairD)↔s=t:=by
 constructor
 ·intro h;induction s generalizing t with
  |nil=>cases t with
   |nil=>rfl
   |cons q t=>simp at h
  |cons p s a=>cases t with
   |nil=>simp at h
   |cons q t=>
    simp only[List.map_cons,pairD,List.cons.injEq,DV.tup.injEq,DV.int.injEq,and_true]at h;rw[a h.2,Prod.ext h.1.1 h.1.2]
 ·rintro rfl;rfl
def iY(nt:NT)(s t:List (Int×Int)):Prop:=∀m,m<nt.ms.length->dU nt m s=dU nt m t
theorem Ho{nt:NT}{t:List (Int×Int)}:rV nt s=rV nt t↔iY nt s t:=by
 unfold rV iY;constructor
 ·intro h m a;have:=congrArg (λl=>l[m]?) h;simp only[List.getElem?_map,List.getElem?_range a,Option.map_some,Option.some.injEq,DV.lst.injEq]at this;exact Hn.mp this
 ·intro h;exact List.map_congr_left λm a=>by rw[h m (List.mem_range.mp a)]
abbrev fT:Stmt:=top 18
inductive Hq(C CN CR:Addr)(vs:List V)(H:Hp)(Q:VK):Prop
 |mk (F F':Addr->Prop) (x x' bt KZ:Addr) (nt:NT) (r r':RS) (ad Rc:Nat->Nat->Addr) (h0:vs=[.ref x,.ref x']) (h1:cI C CN CR F H x bt nt r ad) (h1':cI C CN CR F' H x' KZ nt r' Rc) (h2:PK nt r.picks) (h2':PK nt r'.picks) (h5:r.picks.length<=40) (Pz:r'.picks.length<=40) (q:∀b H',aq H H'->(b=true↔iY nt r.picks r'.picks)->Q (.bl b) H'):Hq C CN CR vs H Q
def BE(C CN CR:Addr):Sp:=λvs H Q _=>Hq C CN CR vs H Q
theorem oZ(D:cL K mg "runs_are_alike" "runs_are_alike" fT hC)(T:Tx K mg C CN CR F FD)(d:Def P w K mg base "picks_of_machines" 2 ["run"] (BA C CN CR)):Def P w K mg base "runs_are_alike" 3 hC (BE C CN CR):=by
 exists hC;obtain⟨F,i,x,j,g,k,a,r,r',ad,l,rfl,n,o,p,t,u,v,q⟩:=h;have z:=hr.units;calc⟨_,(ak (aH (gB (JV z) (aE d hr (af (ao 0) aa)) (aE d hr (af (ao 1) aa)) (aG _)))),?_⟩;right;calc⟨F,x,g,a,r,ad,rfl,n,p,u,λB H1 y c=>?_⟩;obtain⟨as,n,p,d⟩:=c;calc⟨i,j,k,a,r',l,rfl,o.same y,t,v,λu H2 g c=>?_⟩;obtain⟨k,i,j,a⟩:=c;obtain⟨b,k,l⟩:=BB (K:=K) ∅ (g _ _ n) i (BC p λm b e=>(d m b e).same g) (BC j a) ya ya;calc⟨B,u,b,rfl,rfl,k,q b _ (y.trans g) (l.trans Ho)⟩
theorem lC{nt:NT}(h:eG nt r s):PK nt s:=λp a=>by
 obtain⟨i,b⟩:=aaC a;obtain⟨w,k,e,c⟩:=h i p b;calc⟨w,k,e,c.lt⟩
abbrev kP:Stmt:=top 19
inductive Ht(C CN CR:Addr)(vs:List V)(H:Hp)(Q:VK):Prop
 |mk (bt l l':Addr) (nt:NT) (ls:List (Int×Int)) (ms:List Addr) (wv lv:List V) (s s':List (Int×Int)) (h0:vs=[.ref bt,.ref l,.ref l']) (h2:oQ C CN H bt nt) (h3:j5 CN H bt ms wv lv) (h4:fc H 1 lv (ls.map mh)) (h5:ls.length<=20) (h6:∀l∈ls,0<=l.1/\l.1<nt.ws.length) (h7:pV H l s) (h8:pV H l' s') (h9:eG nt (RS.begin nt ls) s) (LF:eG nt (RS.begin nt ls) s') (Td:s.length<=40) (Tc:s'.length<=40) (q:∀b H',aq H H'->(b=true↔iY nt s s')->Q (.bl b) H'):Ht C CN CR vs H Q
def BG(C CN CR:Addr):Sp:=λvs H Q _=>Ht C CN CR vs H Q
theorem yd(D:cL K mg "are_alike" "are_alike" kP gw)(T:Tx K mg C CN CR F FD)(c:Def P w K mg base "played_run" 7 ["net","schedule"] (By C CN CR))(x:Def P w K mg base "runs_are_alike" 3 hC (BE C CN CR)):Def P w K mg base "are_alike" 8 gw (BG C CN CR):=by
 exists["net","schedule","other","one_run"];obtain⟨e,l,t,g,ls,ms,wv,n,s,u,rfl,a,o,p,j,r,d,v,k,m,y,z,q⟩:=h;have B:=hr.units;refine⟨_,(ai (aT (i:=3) sc rfl Sort (aE c hr (af (ao 0) (af (ao 1) aa))))
  (ak (aH (aE x hr (af (ao 3) (af (aE c hr (af (ao 0) (af (ao 2) aa))) aa)))))),?_⟩
 obtain⟨B,G⟩:=g9 a.ok j;calc L2.bz λc I=>?_;right;obtain⟨ys,x,J⟩:=d;obtain⟨L,M,N⟩:=v;calc⟨λ_=>False,e,l,g,ls,ms,wv,n,ys,s,rfl,a,o,p,j,r,x,J,(),λb c=>c.elim,k,λx ad H1 d _ _ v=>?_⟩;calc L2.ba I ?_;clear I;right;calc⟨λ_=>False,e,t,g,ls,ms,wv,n,L,u,rfl,a.fr (Z:=λ_=>False) d.fr,o.same d,p.aA d.aJ,j,r,d _ _ M,N.aA d.aJ,(),λb c=>c.elim,m,λo p H2 n _ _ r=>?_⟩;obtain⟨_,j⟩:=qw a.ok B G _ _ rfl k;obtain⟨_,l⟩:=qw a.ok B G _ _ rfl m;calc⟨_,_,x,o,e,e,g,_,_,ad,p,rfl,v.same n,r,by rw[j];calc lC k,by rw[l];calc lC m,by rw[j];calc y,by rw[l];calc z,λb u t c=>?_⟩;rw[j,l]at c;calc q b _ (d.trans (n.trans t)) c
theorem BH{nt:NT}(h:r.Ok nt){w k:Nat}(c:w<nt.ws.length):k∈r.yt w↔(r.ww w).da[k]?=some none:=by
 have f:=h.lk w c;unfold RS.yt;rw[List.mem_filter,List.mem_range];constructor
 ·rintro⟨a,b⟩;rw[bc (d:=none) ()]
  cases z:(r.ww w).da.getD k none with
  |none=>rfl
  |some e=>rw[z]at b;simp at b
 ·intro a;have b:=(List.getElem?_eq_some_iff.mp a).1;calc⟨(),?_⟩;rw[getD_at a];rfl
theorem Hu{nt:NT}{r:RS}(h:r.Ok nt)(u:r.Px nt){w i j:Nat}(n:w<nt.ws.length)(p:(nt.w w).2.2="row")(o:(r.ww w).da[i]?=some none)(m:(r.yt w)[0]?=some j):(i=j↔r.sX nt w i):=by
 have f:j∈(r.yt w).take 1:=by
  cases q:r.yt w with
  |nil=>rw[q]at m;cases m
  |cons a l=>rw[q]at m;cases m;simp
 have l:=uA f;have b:=(BH h n).mp (List.mem_of_mem_take f);have m:=(List.getElem?_eq_some_iff.mp o).1;have s:∀k,k<j->∃e,(r.ww w).da[k]?=some (some e):=λk f=>by
  have h:=(List.getElem?_eq_some_iff.mp b).1;have t:=l k f;rw[bc (d:=none) (show k<(r.ww w).da.length by lia)]
  cases z:(r.ww w).da.getD k none with
  |none=>rw[z]at t;simp at t
  |some e=>exact⟨e,rfl⟩
 constructor
 ·rintro rfl;exact⟨n,o,λ_ f=>s (i-1) ()⟩
 ·intro v;calc Classical.byContradiction λf=>?_;have f:j<i:=by
   calc Classical.byContradiction λz=>?_;obtain⟨e,c⟩:=s i ();rw[o]at c;cases c
  obtain⟨e,c⟩:=v.row p ();by_cases z:j=i-1
  ·subst z;rw[b]at c;cases c
  ·obtain⟨f,g⟩:=u.px w n p j (i-1) e () c;rw[b]at g;cases g
theorem Hv{nt:NT}(h:r.Ok nt)(e:r.Px nt){w i:Nat}(b:r.sX nt w i):(w,i)∈gh nt r nt.ws.length:=by
 have c:=(BH h b.lt).mpr b.lies;unfold gh;rw[List.mem_flatMap];calc⟨w,List.mem_range.mpr b.lt,List.mem_map.mpr ⟨i,?_,rfl⟩⟩;unfold hJ;split
 ·next z=>
  cases d:r.yt w with
  |nil=>rw[d]at c;cases c
  |cons a l=>
   have:=(Hu h e b.lt z b.lies (j:=a) (by rw[d];rfl)).mpr b;subst this;simp
 ·calc c
theorem qx{nt:NT}{r:RS}(h:r.Px nt):∀n (s:List (Int×Int)),s.length=n->eG nt r s->(cg nt r s).Px nt
 |0,s,a,_=>by
  have:s=[]:=List.length_eq_zero_iff.mp a;subst this;calc h
 |n+1,s,a,d=>by
  rcases List.eq_nil_or_concat s with rfl|⟨e,p,b⟩
  ·simp at a
  rw[List.concat_eq_append]at b;subst b;obtain⟨f,w,k,rfl,c⟩:=uD d;rw[cM];calc(qx h n e (by simpa using a) f).pick c.lies c.row
theorem bY.weak{F c:Addr->Prop}{d:Addr}{g:V}{nt:NT}(h:bY F H d g nt r ad)(s:aq H H')(i:∀b,c b->H b=none):bY c H' d g nt r ad:=by
 have f:∀{b:Addr} {o:HO},H b=some o->¬c b:=λ{b o} e z=>by rw[i b z]at e;cases e
 have j:Cv (iI (λb=>F b\/FP nt.n ad b) H) (iI (λb=>c b\/FP nt.n ad b) H'):=λb u g n=>by
  obtain⟨i,c⟩:=dz g n;rw[gr (λz=>z.elim (f c) (λq=>i (.inr q)))];exact s _ _ c
 obtain⟨⟨o,i,n,k,c⟩,g,⟨ls,l⟩,m⟩:=h;refine⟨⟨o,s _ _ i,f i,k,λt a b=>⟨s _ _ (c t a b).1,f (c t a b).1,(c t a b).2.2⟩⟩,⟨g.inj,λt i h=>?_,λt i h=>?_⟩,⟨ls,l.cv j⟩,m⟩
 ·obtain⟨c,e,_⟩:=g.Fv t i h;exact f e
 ·obtain⟨c,e,r'⟩:=g.Fv t i h;calc⟨c,s _ _ e,r'.cv j⟩
theorem vN (h:fc H 1 ys (ps.map pairD)):Oj H ys ps:=⟨by have:=h.1;rwa [R'] at this,λi p e=>by
 have b:i<ys.length:=by have:=h.1;rw[R']at this;rw[this];exact(List.getElem?_eq_some_iff.mp e).1
 obtain⟨a,c,d⟩:=rO (e:=p) (h.2 i ys[i] _ (bU b) (by rw[A',e];rfl));calc⟨a,by rw[bU b,c],d⟩⟩
theorem nQ {vs:List V}(h:eL H 4 vs (ps.map pairD)):fc H 1 vs (ps.map pairD):=⟨h.1,λi u e b a=>by
 have c:=h.2 i u e b a;rw[A'] at a;obtain⟨p,_,rfl⟩:=Option.map_eq_some_iff.mp a;calc Tr (e:=some p) c⟩
theorem rX{nt:NT}{n:Nat}:(gh nt r n).map WK=((gh nt r n).map pI).map pairD:=by rw[List.map_map];rfl
theorem jv{nt:NT}(h:r.Ok nt)(c:r.Px nt){w k:Nat}:((w:Int),(k:Int))∈(gh nt r nt.ws.length).map pI↔r.sX nt w k:=by
 rw[List.mem_map];constructor
 ·rintro⟨⟨a,b⟩,d,e⟩;simp only[pI,Prod.mk.injEq] at e;obtain rfl:a=w:=by lia
  obtain rfl:b=k:=by lia
  exact xQ h d
 ·calc λd=>⟨(w,k),Hv h c d,rfl⟩
theorem ye{nt:NT}(f:nt.Ok){ls:List (Int×Int)}(g:ls.length<=20){s:List (Int×Int)}(h:eG nt (RS.begin nt ls) s):∀i,i<=s.length->nK nt ls (cg nt (RS.begin nt ls) (s.take i))/\(cg nt (RS.begin nt ls) (s.take i)).picks=s.take i
 |0,_=>⟨nK.begin f g,(g9 f g).2⟩
 |i+1,j=>by
  obtain⟨a,b⟩:=ye f g h i ();obtain⟨w,k,e,j⟩:=h i _ (bU (show i<s.length by lia));rw[abn,bU (show i<s.length by lia),e];show nK nt ls (cg nt _ (_++[_]))/\(cg nt _ (_++[_])).picks=_;rw[cM];obtain⟨c,d⟩:=a.pick f j;calc⟨c,by rw[d,b];rfl⟩
theorem Mo{nt:NT}(a:nt.Ok){ls:List (Int×Int)}(b:ls.length<=20){s:List (Int×Int)}(h:eG nt (RS.begin nt ls) s):nK nt ls (cg nt (RS.begin nt ls) s)/\(cg nt (RS.begin nt ls) s).picks=s:=by
 have:=ye a b h s.length (J' _);rwa [aax]at this
theorem vO{x:V}(h:ToldN H x gF ws ls):ToldN (iI (λ_=>False) H) x gF ws ls:=h.cv λb o e n=>by rw[gr (λz=>z)];calc e
abbrev gv:Stmt:=top 68
inductive Hw(vs:List V)(H:Hp)(Q:VK):Prop
 |mk (tn:V) (nt:NT) (ls:List (Int×Int)) (l lc:Addr) (s:List (Int×Int)) (xs:List Int) (h0:vs=[tn,.ref l,.ref lc]) (h1:ToldN H tn nt.ms nt.ws ls) (h2:nt.Ok) (h3:ls.length<=20) (h4:∀l∈ls,0<=l.1/\l.1<nt.ws.length) (h5:pV H l s) (h6:eG nt (RS.begin nt ls) s) (h7:s.length<=40) (h8:H lc=some (.lst (xs.map V.int))) (q:∀e s' H',aq H H'->pV H' e s'->eG nt (RS.begin nt ls) s'->s'.length=s.length->Q (.ref e) H'):Hw vs H Q
def BI:Sp:=λvs H Q _=>Hw vs H Q
theorem qa(D:cL K mg "_law_other_way" "_law_other_way" gv dt)(T:Tx K mg C CN CR F FD)(dR:Def P w K mg base "_law_at" 1 ef (AS K))(cZ:Def P w K mg base "_law_begun" 1 ed qv)(dg:Def P w K mg base "_law_free" 2 ["_law_run"] vB)(bM:Def P w K mg base "_law_machine_picks" 1 cw vM)(cN:Def P w K mg base "_law_pick" 3 dh qt):Def P w K mg base "_law_other_way" 4 dt BI:=by
 exists["_law_net_here","_law_schedule","_law_cells","_law_run","_law_left","_law_k","_law_free_here","_law_some","_law_row"];obtain⟨tn,g,ls,l,lc,s,xs,rfl,mP,N,df,iz,hl,hc,p9,hx,q⟩:=h;have O:=hr.units;refine⟨_,(ai (aT (i:=3) sc rfl Sort (aE cZ hr (af (ao 0) aa)))
  (ai (dP (i:=4) sc rfl Sort (N':=["_law_m","_law_net_here","_law_schedule"]) (ix:=[none,some 0,some 1]) (cJ rfl T.eu (af (aZ aN rfl T.bV T' (af (aj O (ao 0) ag) aa)) aa)) (λ_ _ _ _=>(aP (i:=0) (show(["_law_m","_law_net_here","_law_schedule"]:List Str).Nodup by decide +kernel) rfl Sort)) nu (λ_ _ _ _=>(aE bM hr (af (ao 1) (af (ao 2) (af (ao 0) aa))))))
  (ai (eI PassesOwn.never rfl (cJ rfl T.eu (af (aZ aN rfl T.bV T' (af (ao 1) aa)) aa)) (aP (i:=5) sc rfl Sort)
  (ai (aT (i:=6) sc rfl Sort (aE dg hr (af (ao 3) aa)))
  (ai (dP (i:=7) sc rfl Sort (N':=["_law_row","_law_free_here"]) (ix:=[none,some 6]) (bR (pv 4)) (λ_ _ _ _=>(aP (i:=0) (show(["_law_row","_law_free_here"]:List Str).Nodup by decide +kernel) rfl Sort)) (λ_ _ _ _=>(gC (PW.pt (pw_and (az (FK (K:=K) rfl O) (ao 0) (bF aa) (aG _)) (pw_and1 (az (vh (K:=K) O) (bW (K:=K) rfl O (ao 0) ag) (ao 1) (by with_unfolding_all rfl))))))) (λ_ _ _ _=>(ao 0)))
  (ai (aT (i:=8) sc rfl Sort (aj O (ao 7) (aV cD (aE dR hr (af (ao 2) (af (ao 5) aa))) (aZ aN rfl T.bV T' (af (ao 7) aa)))))
  (ai (bS (aE cN hr (af (ao 3) (af (aj O (aj O (ao 8) ag) ag) (af (aj O (aj O (ao 8) ag) ag) aa)))))
  (ak (bS (du nS PySem.F.slot_list_pop PySem.F.type_list_pop Fn (ao 8) (af ag aa)))))))))
  (ak (aH (aj O (ao 3) aB)))))),?_⟩
 have Ox:=N.Qp;calc L2.bz λN1 L=>?_;right;calc⟨λ_=>False,tn,g,ls,rfl,vO mP,λb R=>R.elim,N,df,iz,λd ad H1 s1 fr1 fd hT=>?_⟩;calc L2.ba L ?_;clear L;calc L2.bz λN1 L=>?_;calc bC ?_;right;have Hx:=mP;obtain⟨t,am,aw,al,mv,wv,lv,et,g1,g2,g3,g4,g5,g6,g7⟩:=mP;subst et;have mj:mv.length=g.ms.length:=g5.1;calc cp (s1 _ _ g1) (av (j:=0) rfl) ?_;calc⟨_,.inl ⟨_,aO.of (s1 _ _ g2),rfl⟩,?_⟩;calc⟨(),(),λD hD=>?_⟩;rw[X'];have yw:=lC hc;refine aY (J:=zY 0 mv.length) (n:=g.ms.length) (λi ys H'=>∃as:List Addr,ys=as.map V.ref/\as.length=i/\aq H1 H'/\as.Nodup/\(∀b∈as,H1 b=none/\b≠D)/\∀(m:Nat) b,as[m]?=some b->pV H' b (dU g m s)) (L' (small ())) ⟨[],rfl,rfl,aq.new _ hD,List.nodup_nil,λb R=>absurd R List.not_mem_nil,λm b e=>by simp at e⟩ ?_ ?_ ?_ ?_
 ·intro i ys H' U _;show i<mv.length;lia
 ·intro ys H' _;show mv.length<=g.ms.length;lia
 ·intro i I H' U hz iu gG xx H4 gP;obtain⟨as,rfl,zw,sS,Vy,X,cY⟩:=gG;obtain⟨rfl,rfl⟩:=gP;walk_at "xf";right;rw[Int.zero_add];have sA:=s1.trans sS;refine⟨_,g,ls,l,s,i,rfl,Hx.cv sA.cv,N,hl.same sA,yw,p9,λb H5 s5 R hp=>?_⟩;right;have Sg:=s5 _ _ hz;have IM:H1 b=none:=by
   cases e:H1 b with
   |none=>rfl
   |some o=>rw[sS _ _ e]at R;cases R
  have nbD:b≠D:=λz=>by rw[z,hz]at R;cases R
  have nba:b∉as:=λz=>by
   obtain⟨m,S⟩:=aaC z;obtain⟨ys,e,_⟩:=cY m b S;rw[R]at e
   cases e
  have st:∀{c I},c≠D->H5 c=some (.lst I)->upd H5 D (.lst (as.map V.ref++[V.ref b])) c=some (.lst I):=λn e=>by rw[ax n];exact e
  have tu:bP H5 (upd H5 D (.lst (as.map V.ref++[V.ref b]))):=(bP.refl _).upd λI e=>by rw[Sg]at e;cases e
  refine bX Sg iu U (L' (small ())) ⟨as++[b],by rw[aar];rfl,by rw[aac,zw];rfl,λc o e=>by rw[ax (au e hD)];calc s5 _ _ (sS _ _ e),?_,λc Y=>?_,λm c e=>?_⟩
  ·rw[List.nodup_append];exact⟨Vy,nofun,λx hx y hy z=>nba (by rw[List.mem_singleton]at hy;rw[<-hy,<-z];calc hx)⟩
  ·rcases List.mem_append.mp Y with Y | Y
   ·exact X c Y
   ·rw[List.mem_singleton]at Y;rw[Y];exact⟨IM,nbD⟩
  ·by_cases S:m < as.length
   ·rw[W' S]at e;obtain⟨ys,e1,e2⟩:=cY m c e;exact⟨ys,st (X c (aai e)).2 (s5 _ _ e1),(e2.aA s5.aJ).aA tu⟩
   ·rw[P' ()]at e;have Wu:m-as.length=0:=by
     have:=(List.getElem?_eq_some_iff.mp e).1;simp at this;lia
    rw[Wu]at e
    cases e;obtain rfl:m=i:=by lia
    obtain⟨ys,e1,e2⟩:=hp;exact⟨ys,st nbD e1,e2.aA tu⟩
 rintro I H2 eD _ ⟨as,rfl,zw,p7,Vy,X,cY⟩;calc L2.ba L ?_;clear L;right;obtain⟨sy,IX,K0⟩:=hl;have zC:sy.length=s.length:=by simpa using K0.1
 have nfp:∀b,H1 b=none->¬FP g.n ad b:=λb e ⟨t,i,U,eb⟩=>by
  obtain⟨o,h,_⟩:=hT.cP.Fv t i U;rw[<-eb,e]at h
  cases h
 have nD:D∉as:=λz=>(X D z).2 rfl;have VA:∀{b o},H b=some o->H2 b=some o/\¬(FP g.n ad b\/b∈as):=λ{b o} e=>⟨p7 _ _ (s1 _ _ e),λz=>z.elim (λz=>by rw[fr1 b z]at e;cases e) λz=>by have:=(X b z).1;rw[s1 _ _ e]at this;cases this⟩
 have Io:bY (λb=>b∈as) H2 d (.ref t) g (RS.begin g ls) ad:=hT.weak p7 λb R=>(X b R).1;obtain⟨W6,W7⟩:=g9 N df;have hE:=λ{B} (h:eG g (RS.begin g ls) B)=>Mo N df h;calc⟨_,.inl ⟨_,aO.of (VA IX).1,rfl⟩,?_⟩;rw[zC];calc⟨_,rfl,(),(),?_⟩;rw[X'];refine jb (n:=s.length) (λi σ G=>(∃z5 z6 z7 z8,σ=[some (V.ref t),some (V.ref l),some (V.ref lc),some (V.ref d),some (V.ref D),z5,z6,z7,z8])/\Fr (λb=>FP g.n ad b\/b∈as) H2 G/\∃B,B.length=i/\bY (λb=>b∈as) G d (.ref t) g (cg g (RS.begin g ls) B) ad/\eG g (RS.begin g ls) B/\Cf g (RS.begin g ls) s B/\∀(m:Nat) b,as[m]?=some b->pV G b ((dU g m s).drop (dU g m B).length)) ?_ ?_ ?_
 ·exact⟨⟨_,_,_,_,rfl⟩,Fr.refl,[],rfl,Io,xU,Cf.nil N hc,cY⟩
 ·rintro i σ G U ⟨⟨z5,z6,z7,z8,rfl⟩,fG,B,JF,Hy,mQ,R9,VB⟩;obtain⟨hI,hp⟩:=hE mQ;calc L2.bz λN1 L=>?_;right;calc⟨λb=>b ∈ as,d,_,g,_,ad,rfl,Hy,hI.ok,by rw[hp];lia,λlf ys G1 u1 UE Vu Cj=>?_⟩;calc L2.ba L ?_;clear L;calc L2.bz λN1 L=>?_;calc bC ?_;right;have W8:G D=some (.lst (as.map V.ref)):=fG.at eD λz=>z.elim (nfp D hD) nD;rw[rX] at Cj;have hPs:=vN Cj;calc .inl ⟨⟨_,aO.of (u1 _ _ W8)⟩,λD2 vp=>?_⟩;refine aY (J:=tF K D) (n:=g.ms.length) (λi I G'=>aq G1 G'/\(∀z ∈ I,∃(m:Nat) (b:Addr) (w k:Nat),z=.ref b/\as[m]?=some b/\(dU g m s)[(dU g m B).length]?=some ((w:Int),(k:Int))/\(cg g (RS.begin g ls) B).sX g w k)/\∀(m w k:Nat),m < i->(dU g m s)[(dU g m B).length]?=some ((w:Int),(k:Int))->(cg g (RS.begin g ls) B).sX g w k->I≠[]) (L' (small ())) ⟨aq.new _ vp,λz hz=>absurd hz List.not_mem_nil,λm w k h=>absurd h (abk _)⟩ ?_ ?_ ?_ ?_
  ·rintro j I G' hj ⟨p,_⟩;exact⟨_,_,aO.of (p _ _ (u1 _ _ W8)),by rw[A',bU (show j<as.length by lia)];rfl⟩
  ·rintro I G' ⟨p,_⟩;exact⟨_,aO.of (p _ _ (u1 _ _ W8)),by rw[R'];lia⟩
  ·intro j I G' hj hz iu gG xx G4 gP;obtain⟨p,hA,hB⟩:=gG;obtain⟨rfl,y⟩:=gP;have ex:=y _ (aO.of (p _ _ (u1 _ _ W8)));have NW:as[j]?=some as[j]:=bU (show j < as.length by lia);rw[A',NW] at ex
   cases ex;walk_at "xf";right;refine⟨aav _,λq0 hq0=>?_⟩;have sq:=aq.new (.lst []) hq0;have VC:upd G4 q0 (.lst []) q0=some (.lst []):=ab;obtain⟨Rf,e2,y2⟩:=((VB j _ NW).same u1).same p;have e2q:=sq _ _ e2;have VD:=y2.aA sq.aJ;have aa7:=(hPs.mono p.aJ).mono sq.aJ;have aa8:=sq _ _ (p _ _ Vu);have hzq:=sq _ _ hz;have pq:=p.trans sq;have VE:=qx (RS.Px.begin (n:=g) (ls:=ls)) _ _ rfl mQ;generalize upd G4 q0 (.lst [])=G5 at *;have M:((dU g j s).drop (dU g j B).length)[0]?=(dU g j s)[(dU g j B).length]?:=by rw[List.getElem?_drop,Nat.add_zero]
   cases hd:(dU g j s).drop (dU g j B).length with
   |nil=>
    rw[hd]at VD M;have hy0:Rf=[]:=List.length_eq_zero_iff.mp VD.1;subst hy0;calc .inl ⟨.inr ⟨_,_,[],[],rfl,rfl,.inr ⟨aO.of e2q,aO.of VC⟩,rfl,λj u v O=>by simp at O⟩,?_⟩;rw[if_neg ∅];calc⟨_,hzq,(),pq,hA,λm w k S e E6=>?_⟩;by_cases Sx:m=j
    ·subst Sx;rw[<-M] at e
     cases e
    ·calc hB m w k () e E6
   |cons p0 rest=>
    rw[hd]at VD M;have M:(dU g j s)[(dU g j B).length]?=some p0:=M.symm;obtain⟨w,k,ep,hw⟩:=yw p0 (List.mem_filter.mp (aai M)).1;have KS:0<Rf.length:=by rw[VD.1];simp
    have hv:=VD.2 0 Rf[0] (pairD p0) (bU KS) rfl;obtain⟨ta,eta,oR⟩:=rO hv;have e0:Rf[0]?=some (.ref ta):=by rw[bU KS,eta]
    calc .inr ⟨⟨Rf,[],λh=>by have h:Rf.length=0:=h;lia,.inl ⟨aO.of e2q,aO.of VC⟩⟩,?_⟩;rw[if_pos trivial];calc bx e2q (av (j:=0) e0) ?_;calc⟨lf,ta,ys,_,p0,rfl,rfl,aa8,aa7,oR,?_⟩;calc vg ?_;subst ep;by_cases W:(cg g (RS.begin g ls) B).sX g w k
    ·rw[aaj ((jv hI.ok VE).mpr W)];rw[if_pos rfl];calc bX hzq iu hj (L' (small ())) ⟨λc o e=>by rw[ax (au e vp)];calc pq _ _ e,λz yu=>?_,λm w k S e E6=>by simp⟩;rcases List.mem_append.mp yu with yu | yu
     ·exact hA z yu
     ·rw[List.mem_singleton]at yu;exact⟨j,as[j],w,k,yu,NW,M,W⟩
    ·rw[aaq (λz=>W ((jv hI.ok VE).mp z))];rw[if_neg ∅];calc⟨_,hzq,(),pq,hA,λm w2 k2 S e E6=>?_⟩;by_cases Sx:m=j
     ·subst Sx;rw[M] at e;simp only[Option.some.injEq,Prod.mk.injEq] at e;obtain rfl:w=w2:=by lia
      obtain rfl:k=k2:=by lia
      exact absurd E6 W
     ·exact hB m w2 k2 () e E6
  rintro I G2 ez QG ⟨sg,hA,hB⟩;calc L2.ba L ?_;clear L;obtain⟨w1,k1,VF,Hz⟩:=R9.next N (λi U=>ye N df hc i U) (hE mQ) hc ();have hz0:I≠[]:=hB (g.goal w1) w1 k1 (N.ei Hz.lt) VF Hz;clear hB VF Hz;have Co:0<I.length:=List.length_pos_iff.mpr hz0;calc L2.bz λN1 L=>?_;right;have ug:=u1.trans sg;calc⟨lc,xs,_,rfl,aO.of (ug _ _ (fG.at (VA hx).1 (VA hx).2)),(),λc=>?_⟩;obtain⟨kf,PF⟩:∃kf:Nat,c%(I.length:Int)=kf:=⟨(c%(I.length:Int)).toNat,by have:=aa4 c (show(I.length:Int)≠0 by lia);lia⟩
  have Bj:kf<I.length:=by have:=aaQ c (show(0:Int)<I.length by lia);lia
  calc⟨_,.inl ⟨_,aO.of ez,rfl⟩,(),_,_,.inl (aO.of ez),by rw[PF];calc av (bU Bj),?_⟩;obtain⟨m,b,w,k,ezk,Li,Mm,W⟩:=hA _ (aan Bj);rw[ezk];calc L2.ba L ?_;clear L hA;obtain⟨yb,eb,hyb⟩:=(VB m b Li).same ug;have hgm:g.goal w=m:=by
   have:=(List.mem_filter.mp (aai Mm)).2;rw[X']at this;exact beq_iff_eq.mp this
  subst hgm;have M:((dU g (g.goal w) s).drop (dU g (g.goal w) B).length)[0]?=some ((w:Int),(k:Int)):=by rw[List.getElem?_drop,Nat.add_zero];exact Mm
  cases yb with
  |nil=>
   have:=hyb.1;rw[R']at this;rw[List.length_eq_zero_iff.mp this.symm]at M
   cases M
  |cons v0 yr=>
  have hv:=hyb.2 0 v0 (pairD ((w:Int),(k:Int))) rfl (by rw[A',M];rfl);obtain⟨ta,rfl,oR⟩:=rO hv;have PU:b∈as:=aai Li;calc L2.bz λN1 L=>?_;right;calc bx eb (av (j:=0) rfl) ?_;calc cp oR (av (j:=0) rfl) ?_;calc bx eb (av (j:=0) rfl) ?_;calc cp oR (av (j:=1) rfl) ?_;refine⟨λb=>b∈as,d,_,g,_,ad,w,k,rfl,Hy.same ug,λc Y=>?_,hI.ok,W,by rw[hp];lia,λtv G3 f3 hT3 _=>?_⟩
  ·obtain⟨mc,hmc⟩:=aaC Y;obtain⟨yc,ec,_⟩:=(VB mc c hmc).same ug;exact⟨_,ec,trivial⟩
  calc L2.ba L ?_;clear L;right;have W9:=f3.at eb (nfp b (X b PU).1);have CZ:=N.ei W.lt;have tu:bP G3 (upd G3 b (.lst yr)):=(bP.refl _).upd λI e=>by rw[W9]at e;cases e
  have frb:∀{Z:Addr->Prop},Z b->Fr Z G3 (upd G3 b (.lst yr)):=λz=>Fr.refl.upd z W9 trivial;have cnt:∀m,(dU g m (B++[((w:Int),(k:Int))])).length=(dU g m B).length+if g.goal w=m then 1 else 0:=λm=>by
   rw[nL,aac,X'];split<;>rfl
  calc⟨.inl ⟨rfl,_,aO.of W9⟩,_,yr,W9,⟨_,_,_,_,rfl,rfl,rfl,rfl⟩,((fG.trans ug.fr).trans (f3.mono λb z=>.inl z)).trans (frb (.inr PU)),B++[((w:Int),(k:Int))],by rw[aac,JF];rfl,by rw[cM];calc hT3.keep (frb PU),ly mQ W,R9.snoc N (λi U=>(ye N df hc i U).1.ok) hI.ok hc W Mm,λm c e=>?_⟩;rw[cnt];by_cases S:g.goal w=m
  ·subst S;rw[Li] at e
   cases e;rw[if_pos rfl];calc⟨yr,ab,?_⟩;have h2:=(hyb.aA f3.aJ).aA tu;rw[<-List.drop_drop]
   cases hd:(dU g (g.goal w) s).drop (dU g (g.goal w) B).length with
   |nil=>rw[hd]at M;cases M
   |cons q r=>
    rw[hd]at h2;exact⟨by have:=h2.1;simp at this;simpa using this,λi v d a b=>h2.2 (i+1) v d a b⟩
  ·rw[if_neg S];have nb:c≠b:=λz=>by
    rw[z]at e;have abb:m<as.length:=(List.getElem?_eq_some_iff.mp e).1;exact S ((List.getElem?_inj abb Vy).mp (e.trans Li.symm)).symm
   obtain⟨yc,ec,hyc⟩:=(VB m c e).same ug;exact⟨yc,by rw[ax nb];calc f3.at ec (nfp c (X c (aai e)).1),(hyc.aA f3.aJ).aA tu⟩
 rintro σ G ⟨⟨z5,z6,z7,z8,rfl⟩,fG,B,JF,Hy,mQ,R9,VB⟩;obtain⟨hI,hp⟩:=hE mQ;obtain⟨o1,GL,_,_,VG⟩:=Hy.dk;obtain⟨v1,e1,Dp⟩:=Hy.cP.lst (t:=0) (i:=0) (by show 0<1;decide) rfl;have C0:=nQ (Dp.cv dZ);rw[hp]at C0;right;calc⟨_,Df GL,q _ B G (λb o e=>fG.at (VA e).1 (VA e).2) ⟨v1,e1,C0⟩ mQ JF⟩
theorem yg{nt:NT}{w:Nat}(e:nt.Ok)(h:fc H 1 wv (nt.ws.map jr))(d:w<nt.ws.length):∃a b c,wv[w]?=some (.ref a)/\H a=some (.tup [b,.int ((nt.goal w:Nat):Int),c]):=by
 have k:wv.length=nt.ws.length:=by simpa using h.1
 have f:=h.2 w wv[w] (jr (nt.w w)) (bU ()) (by rw[A',show nt.ws[w]?=some (nt.w w) from bc d];rfl);obtain⟨a,b,k,c,l,g,i,m,j,n⟩:=bE f;obtain rfl:=j.cj;calc⟨a,b,c,by rw[bU (),g],by rw[i,uE e d]⟩
theorem BJ(xs:List V)(k:Nat):dq xs none (some (k:Int))=xs.take k:=by
 unfold dq;rw[HT.qf,HT.wq,List.drop_zero,Nat.sub_zero];by_cases h:k<=xs.length
 ·rw[Nat.min_eq_left h]
 ·rw[Nat.min_eq_right (),aa3 (J' _),aa3 ()]
theorem fc.tak{n k:Nat}(h:fc H n ys es):fc H n (ys.take k) (es.take k):=⟨by rw[aap,aap,h.1],λi v d a b=>by
 have c:=(List.getElem?_eq_some_iff.mp a).1;rw[aap] at c;rw[List.getElem?_take,if_pos ()] at a b;calc h.2 i v d a b⟩
theorem Ds(xs:List V)(k:Nat):dq xs (some (k:Int)) none=xs.drop k:=by
 unfold dq;rw[HT.qf,HT.wq];by_cases h:k<=xs.length
 ·rw[Nat.min_eq_left h,aa3 nofun]
 ·rw[Nat.min_eq_right (),List.drop_eq_nil_of_le (J' _),List.drop_eq_nil_of_le (),List.take_nil]
abbrev jO:Stmt:=top 69
inductive HA(vs:List V)(H:Hp)(Q:VK):Prop
 |mk (tn:V) (nt:NT) (ls:List (Int×Int)) (l:Addr) (s:List (Int×Int)) (cc:Int) (h0:vs=[tn,.ref l,.int cc]) (h1:ToldN H tn nt.ms nt.ws ls) (h2:nt.Ok) (h3:ls.length<=20) (h4:∀l∈ls,0<=l.1/\l.1<nt.ws.length) (h5:pV H l s) (h6:eG nt (RS.begin nt ls) s) (h7:s.length<=39) (q:∀e s' H',aq H H'->pV H' e s'->eG nt (RS.begin nt ls) s'->s'.length<=40->Q (.ref e) H'):HA vs H Q
def BK:Sp:=λvs H Q _=>HA vs H Q
theorem vP(D:cL K mg "_law_turned" "_law_turned" jO dV)(T:Tx K mg C CN CR F FD)(cZ:Def P w K mg base "_law_begun" 1 ed qv)(dg:Def P w K mg base "_law_free" 2 ["_law_run"] vB)(cN:Def P w K mg base "_law_pick" 3 dh qt):Def P w K mg base "_law_turned" 4 dV BK:=by
 exists["_law_net_here","_law_schedule","_law_cell","_law_run","_law_k","_law_letter","_law_free_here","_law_goal","_law_later"];obtain⟨tn,a,ls,l,s,cc,rfl,mP,O,df,iz,hl,L,p9,q⟩:=h;have g:=hr.units;refine⟨_,(ai (aT (i:=3) sc rfl Sort (aE cZ hr (af (ao 0) aa)))
  (ai (eI PassesOwn.never rfl (jC rfl T.dE (af (ao 1) aa)) (gq (i:=4) (j:=5) rfl sc rfl rfl Sort Sort)
  (ai (aT (i:=6) sc rfl Sort (aE dg hr (af (ao 3) aa)))
  (ai (aT (i:=7) sc rfl Sort (aj g (aj g (aj g (ao 0) ag) (aj g (ao 5) ag)) ag))
  (ai (dP (i:=8) sc rfl Sort (N':=fV) (ix:=[none,some 6,some 7,some 0]) (bR (lY (ao 1) (fm (aV cS (ao 4) ag)) jz)) (λ_ _ _ _=>(aP (i:=0) (show(fV:List Str).Nodup by decide +kernel) rfl Sort)) (λ_ _ _ _=>(gC (PW.pt (pw_and (az (vh (K:=K) g) (ao 0) (ao 1) (by with_unfolding_all rfl)) (pw_and1 (az (jm (K:=K) rfl g) (bW (K:=K) rfl g (bW (K:=K) rfl g (bW (K:=K) rfl g (ao 3) ag) (bW (K:=K) rfl g (ao 0) ag)) ag) (ao 2) (aG _))))))) (λ_ _ _ _=>(ao 0)))
  (ai (aS (PW.pt (pw_and (az (gD g) (ao 8) (bF aa) (aG _)) (pw_and1 (az (gD g) (aV cD (ao 2) ag) (aV cD (ao 4) ag) (aG _))))) (ai (bS (aE cN hr (af (ao 3) (af (aj g (aj g (ao 8) ag) ag) (af (aj g (aj g (ao 8) ag) ag) aa)))))
  (ai (aS (az (vh (K:=K) g) (ao 5) (aE dg hr (af (ao 3) aa)) (by with_unfolding_all rfl)) (ak (bS (aE cN hr (af (ao 3) (af (aj g (ao 5) ag) (af (aj g (ao 5) ag) aa)))))) aI)
  (ak (aH (aj g (ao 3) aB))))) aI)
  (ak (bS (aE cN hr (af (ao 3) (af (aj g (ao 5) ag) (af (aj g (ao 5) ag) aa)))))))))))
  (ak (aH (aj g (ao 3) aB))))),?_⟩
 obtain⟨u,IX,K0⟩:=hl;have zC:u.length=s.length:=by simpa using K0.1
 have yw:=lC L;obtain⟨T,W7⟩:=g9 O df;have hE:=λ{T} (h:eG a (RS.begin a ls) T)=>Mo O df h;have T:=mP;calc L2.bz λN1 m=>?_;right;calc⟨λ_=>False,tn,a,ls,rfl,vO mP,λb B=>B.elim,O,df,iz,λd ad H1 s1 fr1 T hT=>?_⟩;calc L2.ba m ?_;clear m;obtain⟨t,T,aw,al,mv,wv,lv,et,g1,g2,g3,g4,g5,g6,g7⟩:=mP;subst et;have T:wv.length=a.ws.length:=by simpa using g6.1
 have I:∀{b o},H b=some o->H1 b=some o/\¬FP a.n ad b:=λ{b o} e=>⟨s1 _ _ e,λz=>by rw[fr1 b z]at e;cases e⟩
 right;refine⟨true,u,Sq.l (I IX).1,kj (xs:=u) (λi σ G=>(∃z4 z5 z6 z7 z8,σ=[some (V.ref t),some (V.ref l),some (V.int cc),some (V.ref d),z4,z5,z6,z7,z8])/\Fr (FP a.n ad) H1 G/\bY (λ_=>False) G d (.ref t) a (cg a (RS.begin a ls) (s.take i)) ad) ?_ ?_ ?_ ?_⟩
 ·exact⟨⟨_,_,_,_,_,rfl⟩,Fr.refl,hT⟩
 ·rintro i σ G ⟨_,S,_⟩;exact Sq.l (S.at (I IX).1 (I IX).2)
 ·rintro i M σ G tt hx ⟨⟨z4,z5,z6,z7,z8,rfl⟩,S,Hy⟩ Ph;have T:i < s.length:=by rw[<-zC];exact(List.getElem?_eq_some_iff.mp hx).1
  obtain⟨w,k,ep,dS⟩:=L i _ (bU T);have pS:s[i]?=some ((w:Int),(k:Int)):=by rw[bU T,ep]
  have s2:=aq.new (.tup [.int (i:Nat),M]) Ph;have UG:upd G tt (.tup [.int (i:Nat),M]) tt=some (.tup [.int (i:Nat),M]):=ab;have y:∀{b o},H b=some o->upd G tt (.tup [.int (i:Nat),M]) b=some o:=λe=>s2 _ _ (S.at (I e).1 (I e).2);have tH:bP H (upd G tt (.tup [.int (i:Nat),M])):=λb xs e=>y e;obtain⟨ta,rfl,oR⟩:=rO (K0.2 i M (pairD ((w:Int),(k:Int))) hx (by rw[A',pS];rfl));have oR:=y oR;have Io:=Hy.same s2;have f2:=S.trans s2.fr;generalize upd G tt (.tup [.int (i:Nat),.ref ta])=G2 at *;obtain⟨hI,hp⟩:=ye O df L i ();have VE:=qx (RS.Px.begin (n:=a) (ls:=ls)) _ _ rfl (lA L i);have mQ:=lA L i;calc zf (bq.of UG) ?_;calc L2.bz λN1 m=>?_;right;calc⟨_,d,_,a,_,ad,rfl,Io,hI.ok,by rw[hp,aap];lia,λlf ys G3 s3 UE Vu T=>?_⟩;rw[rX]at T;have hPs:=vN T;calc L2.ba m ?_;clear m;calc L2.bz λN1 m=>?_;right;have U:∀{b o},H b=some o->G3 b=some o:=λe=>s3 _ _ (y e);have t3:bP H G3:=tH.trans s3.aJ;obtain⟨tw,u1,u3,y,T⟩:=yg O (g6.aA t3) dS.lt;calc cp (U g1) (av (j:=1) rfl) ?_;calc⟨_,_,.inr (bq.of (s3 _ _ oR)),av (j:=0) rfl,?_⟩;calc bx (U g3) (av y) ?_;calc cp T (av (j:=1) rfl) ?_;calc L2.ba m ?_;clear m;calc L2.bz λN1 m=>?_;calc bC ?_;right;calc .inl ⟨u,U IX,λXa y=>?_⟩;rw[show((i:Nat):Int)+1=((i+1:Nat):Int) by lia,Ds];have R:=aq.new (.lst (u.drop (i+1))) y;have QA:upd G3 Xa (.lst (u.drop (i+1))) Xa=some (.lst (u.drop (i+1))):=ab;generalize upd G3 Xa (.lst (u.drop (i+1)))=G4 at *;calc .inl ⟨⟨_,aO.of QA⟩,λD2 vp=>?_⟩;refine aY (J:=tF K Xa) (n:=s.length-(i+1)) (λj W u=>aq G4 u/\∀z∈W,∃(r x:Nat) (b:Addr),z=.ref b/\G4 b=some (.tup [.int (r:Nat),.int (x:Nat)])/\(cg a (RS.begin a ls) (s.take i)).sX a r x) (L' (small ())) ⟨aq.new _ vp,λz hz=>absurd hz List.not_mem_nil⟩ ?_ ?_ ?_ ?_
  ·rintro j W u hj ⟨p,_⟩;exact⟨_,_,aO.of (p _ _ QA),bU (by rw[List.length_drop];lia)⟩
  ·rintro W u ⟨p,_⟩;exact⟨_,aO.of (p _ _ QA),by rw[List.length_drop];lia⟩
  ·intro j W u hj hz iu gG M X gP;obtain⟨p,hA⟩:=gG;obtain⟨rfl,y⟩:=gP;have ex:=y _ (aO.of (p _ _ QA));rw[List.getElem?_drop] at ex;have Fw:i + 1 + j < s.length:=by lia
   obtain⟨r,x,e2,YG⟩:=yw _ (aan Fw);obtain⟨b,rfl,B⟩:=rO (K0.2 _ M (pairD ((r:Int),(x:Int))) ex (by rw[A',bU Fw,e2];rfl));have LI:=R _ _ (U B);walk_at "xf";right;refine⟨lf,b,ys,_,((r:Int),(x:Int)),rfl,rfl,p _ _ (R _ _ Vu),(hPs.mono R.aJ).mono p.aJ,p _ _ LI,?_⟩;refine vg ?_;by_cases Y:(cg a (RS.begin a ls) (s.take i)).sX a r x
   ·rw[aaj ((jv hI.ok VE).mpr Y)];rw[if_pos rfl];obtain⟨y,T,u5,M,u⟩:=yg O (g6.aA (t3.trans (R.aJ.trans p.aJ))) YG;calc cp (p _ _ (R _ _ (U g1))) (av (j:=1) rfl) ?_;calc⟨_,_,.inr (bq.of (p _ _ LI)),av (j:=0) rfl,?_⟩;calc bx (p _ _ (R _ _ (U g3))) (av M) ?_;calc cp u (av (j:=1) rfl) ?_;right;by_cases hg:a.goal r=a.goal w
    ·rw[if_pos (aaj (by rw[hg]))];calc bX hz iu hj (L' (small ())) ⟨λc o e=>by rw[ax (au e vp)];calc p _ _ e,λz Z=>?_⟩;rcases List.mem_append.mp Z with Z | Z
     ·exact hA z Z
     ·rw[List.mem_singleton]at Z;exact⟨r,x,b,Z,LI,Y⟩
    ·rw[if_neg (λz=>hg (by have:=aaD z;lia))];exact⟨_,hz,(),p,hA⟩
   ·rw[aaq (λz=>Y ((jv hI.ok VE).mp z))];rw[if_neg ∅];exact⟨_,hz,(),p,hA⟩
  rintro W X y QG ⟨p,hA⟩;calc L2.ba m ?_;clear m;have u:=s3.trans (R.trans p);have hT5:=Io.same u;have f5:=f2.trans u.fr;have PV:=u _ _ oR;calc L2.bz λN1 m=>?_;calc L2.jD λT0 U0 rS wa=>?_;right;have IW:∀G6,aq X G6->U0 [some (V.ref t),some (V.ref l),some (V.int cc),some (V.ref d),some (V.int i),some (V.ref ta),some (V.ref lf),some (V.int (a.goal w)),some (V.ref D2)] G6:=λG6 l=>by
   calc L2.ba wa ?_;show N1 _ _;calc L2.ba m ?_;right;calc cp (l _ _ PV) (av (j:=0) rfl) ?_;calc cp (l _ _ PV) (av (j:=1) rfl) ?_;calc⟨_,d,_,a,_,ad,w,k,rfl,hT5.same l,λb B=>B.elim,hI.ok,dS,by rw[hp,aap];lia,λtv G7 f7 Rg _=>?_⟩;calc⟨⟨_,_,_,_,_,rfl,rfl,rfl,rfl,rfl⟩,(f5.trans l.fr).trans f7,?_⟩;rw[take_snoc pS,cM];exact Rg
  calc⟨aav _,λq0 l=>?_⟩;have N:=aq.new (.lst []) l;have VC:upd X q0 (.lst []) q0=some (.lst []):=ab;have Xb:=N _ _ y;have l:aq X (upd X q0 (.lst [])):=N;generalize upd X q0 (.lst [])=G6 at *
  cases W with
  |nil=>
   calc .inl ⟨.inr ⟨_,_,[],[],rfl,rfl,.inr ⟨aO.of Xb,aO.of VC⟩,rfl,λj u v g=>by simp at g⟩,?_⟩;rw[if_neg ∅];rw[if_neg ∅];calc IW _ N
  |cons z0 g=>
  calc .inr ⟨⟨z0::g,[],(λh=>by cases h),.inl ⟨aO.of Xb,aO.of VC⟩⟩,?_⟩;rw[if_pos trivial];calc⟨∅,∅,?_⟩;by_cases g:cc%3=(i:Nat)%3
  ·rw[aaj g];rw[if_neg ∅];exact IW _ N
  rw[aaq g];rw[if_pos ∅];calc L2.ba rS ?_;clear IW rS wa m;have l:i+1<s.length:=by simp at QG;lia
  obtain⟨r,x,b,rfl,LI,Y⟩:=hA z0 aaE;have g:=N _ _ (p _ _ LI);calc L2.bz λR m=>?_;right;calc bx Xb (av (j:=0) rfl) ?_;calc cp g (av (j:=0) rfl) ?_;calc bx Xb (av (j:=0) rfl) ?_;calc cp g (av (j:=1) rfl) ?_;calc⟨_,d,_,a,_,ad,r,x,rfl,hT5.same N,λb B=>B.elim,hI.ok,Y,by rw[hp,aap];lia,λtv G7 f7 Rg _=>?_⟩;calc L2.ba m ?_;clear m;have M:=ly mQ Y;rw[<-cM]at Rg;obtain⟨O,U⟩:=hE M;have W:=qx (RS.Px.begin (n:=a) (ls:=ls)) _ _ rfl M;have u:∀l g,Fr (FP a.n ad) H1 l->bY (λ_=>False) l d (.ref t) a (cg a (RS.begin a ls) g) ad->eG a (RS.begin a ls) g->g.length<=40->∃v,jA l d (.str "events") (some v)/\Q v l:=λl g T v y X=>by
   obtain⟨o1,GL,_,_,VG⟩:=v.dk;obtain⟨v1,e1,Dp⟩:=v.cP.lst (t:=0) (i:=0) (by show 0<1;decide) rfl;have C0:=nQ (Dp.cv dZ);rw[(hE y).2]at C0;exact⟨_,Df GL,q _ g l (λb o e=>T.at (I e).1 (I e).2) ⟨v1,e1,C0⟩ y X⟩
  have v:=N _ _ PV;have y:=f7.aJ _ _ v;have X:=(f5.trans N.fr).trans f7;calc L2.bz λR m=>?_;calc L2.jD λT0 U0 rS wa=>?_;right;calc⟨_,d,_,a,_,ad,rfl,Rg,O.ok,by rw[U,aac,aap];simp;lia,λv N l g _ T Y=>?_⟩;rw[rX]at Y;calc⟨v,ta,N,_,((w:Int),(k:Int)),rfl,rfl,T,vN Y,g _ _ y,?_⟩;calc vg ?_;by_cases l:(cg a (RS.begin a ls) (s.take i++[((r:Int),(x:Int))])).sX a w k
  ·rw[aaj ((jv O.ok W).mpr l)];rw[if_pos rfl];calc L2.ba rS ?_;right;calc cp (g _ _ y) (av (j:=0) rfl) ?_;calc cp (g _ _ y) (av (j:=1) rfl) ?_;calc⟨_,d,_,a,_,ad,w,k,rfl,Rg.same g,λb B=>B.elim,O.ok,l,by rw[U,aac,aap];simp;lia,λtv k j a _=>?_⟩;show R _ _;calc L2.ba m ?_;right;rw[<-cM]at a;exact u _ _ ((X.trans g.fr).trans j) a (ly M l) (by rw[aac,aac,aap];simp;lia)
  ·rw[aaq (λz=>l ((jv O.ok W).mp z))];rw[if_neg ∅];calc L2.ba wa ?_;show R _ _;calc L2.ba m ?_;right;exact u _ _ (X.trans g.fr) (Rg.same g) M (by rw[aac,aap];simp;lia)
 rintro σ G ⟨⟨z4,z5,z6,z7,z8,rfl⟩,S,Hy⟩;rw[zC,aax]at Hy;obtain⟨o1,GL,_,_,VG⟩:=Hy.dk;obtain⟨v1,e1,Dp⟩:=Hy.cP.lst (t:=0) (i:=0) (by show 0<1;decide) rfl;have C0:=nQ (Dp.cv dZ);rw[(hE L).2]at C0;right;calc⟨_,Df GL,q _ s G (λb o e=>S.at (I e).1 (I e).2) ⟨v1,e1,C0⟩ L ()⟩
abbrev jP:Stmt:=top 70
inductive HB(vs:List V)(H:Hp)(Q:VK):Prop
 |mk (tn:V) (nt:NT) (ls:List (Int×Int)) (l:Addr) (s:List (Int×Int)) (lc:Addr) (xs:List Int) (wy:Int) (h0:vs=[tn,.ref l,.ref lc,.int wy]) (h1:ToldN H tn nt.ms nt.ws ls) (h2:nt.Ok) (h3:ls.length<=20) (h4:∀l∈ls,0<=l.1/\l.1<nt.ws.length) (h5:pV H l s) (h6:eG nt (RS.begin nt ls) s) (h7:s.length<=39) (h8:H lc=some (.lst (xs.map V.int))) (q:∀e s' H',aq H H'->pV H' e s'->eG nt (RS.begin nt ls) s'->s'.length<=40->Q (.ref e) H'):HB vs H Q
def BM:Sp:=λvs H Q _=>HB vs H Q
theorem vQ(D:cL K mg "_law_second" "_law_second" jP c6)(T:Tx K mg C CN CR F FD)(Z:Def P w K mg base "_law_other_way" 4 dt BI)(gK:Def P w K mg base "_law_ran" 4 eM vF)(jQ:Def P w K mg base "_law_turned" 4 dV BK):Def P w K mg base "_law_second" 5 c6 BM:=by
 exists["_law_net_here","_law_schedule","_law_cells","_law_way","_law_other"];obtain⟨v,x,ls,l,s,S,m,j,rfl,y,B,G,I,U,L,W,M,q⟩:=h;have J:=hr.units;refine⟨_,(ai (aS (az (aQ J) (aV cD (ao 3) ag) ag (aG _)) (ak (aH (aj J (aE gK hr (af (ao 0) (af (lY (ao 2) jz (fm (aZ aN rfl T.bV T' (af (ao 1) aa)))) aa))) aB))) aI)
  (ai (aS (az (aQ J) (aV cD (ao 3) ag) ag (aG _)) (ak (aH (aE jQ hr (af (ao 0) (af (ao 1) (af (aV je (ao 3) ag) aa)))))) aI)
  (ai (aT (i:=4) sc rfl Sort (aE Z hr (af (ao 0) (af (ao 1) (af (ao 2) aa)))))
  (ai (aS (az (aQ J) (aV cD (ao 3) ag) ag (aG _)) (ak (aH (lY (ao 4) jz (fm (aV fq (aZ aN rfl T.bV T' (af (ao 4) aa)) (aV jB (aV cD (aV je (ao 3) ag) ag) (cQ tI rfl T.AN PyProof.Rows.boot_int (af (gB om (aZ aN rfl T.bV T' (af (ao 4) aa)) ag (aG _)) aa)))))))) aI)
  (ak (aH (ao 4))))))),?_⟩
 obtain⟨k,N,O⟩:=U;have J:k.length=s.length:=by simpa using O.1
 calc L2.bz λn a=>?_;calc L2.jD λX Y c g=>?_;right;calc⟨∅,?_⟩;by_cases R:j%4=3
 ·rw[aaj R];rw[if_pos rfl];calc L2.ba c ?_;clear c g a;right;calc⟨_,.inl ⟨_,aO.of N,rfl⟩,?_⟩;calc .inl ⟨_,M,λp o=>?_⟩;rw[BJ,<-List.map_take];have u:=aq.new (.lst ((m.take k.length).map V.int)) o;have ep:upd H p (.lst ((m.take k.length).map V.int)) p=some (.lst ((m.take k.length).map V.int)):=ab;generalize upd H p (.lst ((m.take k.length).map V.int))=H1 at *;calc⟨λ_=>False,v,x,ls,p,_,rfl,vO (y.cv u.cv),λb J=>J.elim,B,G,I,ep,by rw[aap];lia,λd ad r H2 U _ _ T Z PY=>?_⟩;obtain⟨J,GL,_,_,VG⟩:=T.dk;obtain⟨v1,J,Dp⟩:=T.cP.lst (t:=0) (i:=0) (by show 0<1;decide) rfl;have T:=nQ (Dp.cv dZ);right;exact⟨_,Df GL,q _ _ _ (u.trans U) ⟨v1,J,T⟩ Z.can (by rw[aap]at PY;lia)⟩
 rw[aaq R];rw[if_neg ∅];calc L2.ba g ?_;show n _ _;calc L2.ba a ?_;clear a c g R;calc L2.bz λn a=>?_;calc L2.jD λX Y c g=>?_;right;calc⟨∅,?_⟩;by_cases R:j%4=2
 ·rw[aaj R];rw[if_pos rfl];calc L2.ba c ?_;clear c g a;right;refine⟨⟨∅,⋯⟩,v,x,ls,l,s,j/4,rfl,y,B,G,I,⟨k,N,O⟩,L,W,q⟩
 rw[aaq R];rw[if_neg ∅];calc L2.ba g ?_;show n _ _;calc L2.ba a ?_;clear a c g R;calc L2.bz λn a=>?_;right;calc⟨v,x,ls,l,S,s,m,rfl,y,B,G,I,⟨k,N,O⟩,L,(),M,λe R H1 u o T U=>?_⟩;calc L2.ba a ?_;clear a;calc L2.bz λn a=>?_;calc L2.jD λX Y c g=>?_;right;calc⟨∅,?_⟩;by_cases J:j%4=1
 ·rw[aaj J];rw[if_pos rfl];calc L2.ba c ?_;clear c g a;right;obtain⟨ys,k,l⟩:=o;have c:ys.length=R.length:=by simpa using l.1
  have c:=aa4 (j/4) (show(3:Int)≠0 by decide);have c:=aaQ (j/4) (show(0:Int)<3 by decide);have c:(2:Int)^64=18446744073709551616:=by decide
  calc⟨_,.inl ⟨_,aO.of k,rfl⟩,⟨∅,⋯⟩,∅,_,.inl ⟨_,aO.of k,rfl⟩,.inr ⟨.inl ⟨by rw[c];lia,by rw[c];lia⟩,.inl ⟨_,k,λp o=>?_⟩⟩⟩;obtain⟨k,m⟩:∃k:Nat,((ys.length:Nat):Int)-j/4%3*(if decide (2<((ys.length:Nat):Int))=true then 1 else 0)=k:=by
   by_cases c:2<((ys.length:Nat):Int)
   ·rw[if_pos (aaj c),Int.mul_one];exact⟨((ys.length:Int)-j/4%3).toNat,()⟩
   ·rw[if_neg (λz=>c (aaD z)),Int.mul_zero];exact⟨ys.length,()⟩
  rw[m,BJ];have c:=aq.new (.lst (ys.take k)) o;calc q p (R.take k) _ (u.trans c) ⟨ys.take k,ab,?_⟩ (lA T k) (by rw[aap];lia);rw[List.map_take];exact(l.aA c.aJ).tak
 rw[aaq J];rw[if_neg ∅];calc L2.ba g ?_;show n _ _;calc L2.ba a ?_;right;calc q e R H1 u o T ()
theorem yh{K:W.Frag}{k:Nat}{xs:List V}{c:List DV}(e:H a=some (.lst xs))(g:H b=some (.lst ys))(x:fc H 1 xs c)(y:fc H 1 ys c):iB K H (k+3) (.ref a) (.ref b):=by
 calc .inr ⟨a,b,xs,ys,rfl,rfl,.inr ⟨aO.of e,aO.of g⟩,x.1.trans y.1.symm,λi u v d j=>?_⟩;have e:i<c.length:=by rw[<-x.1];exact(List.getElem?_eq_some_iff.mp d).1
 calc JU (x.2 i u _ d (bU e)) (y.2 i v _ j (bU e)) ()
theorem HC{K:W.Frag}{H:Hp}{k:Nat}{a b c d p q:Addr}(j:H p=some (.tup [.ref a,.ref b]))(l:H q=some (.tup [.ref c,.ref d]))(h:iB K H k (.ref a) (.ref c))(g:iB K H k (.ref b) (.ref d)):iB K H (k+1) (.ref p) (.ref q):=by
 refine .inr ⟨p,q,_,_,rfl,rfl,.inl ⟨bq.of j,bq.of l⟩,rfl,λi u v e f=>?_⟩
 match i with
 |0=>cases e;cases f;calc h
 |1=>cases e;cases f;calc g
 |i+2=>simp at e
abbrev o7:Stmt:=top 71
inductive HE(vs:List V)(H:Hp)(Q:VK):Prop
 |mk (tn:V) (nt:NT) (ls:List (Int×Int)) (l l':Addr) (s s':List (Int×Int)) (h0:vs=[tn,.ref l,.ref l']) (h1:ToldN H tn nt.ms nt.ws ls) (h2:nt.Ok) (h3:pV H l s) (h3':pV H l' s') (h4:PK nt s) (h4':PK nt s') (h5:s.length<=40) (Pz:s'.length<=40) (q:∀b H',aq H H'->(b=true↔iY nt s s')->Q (.bl b) H'):HE vs H Q
def BN:Sp:=λvs H Q _=>HE vs H Q
theorem Du(D:cL K mg "_law_due" "_law_due" o7 ek)(T:Tx K mg C CN CR F FD)(u:Def P w K mg base "_law_machine_picks" 1 cw vM):Def P w K mg base "_law_due" 2 ek BN:=by
 exists["_law_net_here","_law_one","_law_other","_law_m"];obtain⟨L,a,ls,l,g,s,k,rfl,o,d,v,x,y,B,I,J,q⟩:=h;have L:=hr.units;refine⟨_,(ai (eI PassesOwn.never rfl (cJ rfl T.eu (af (aZ aN rfl T.bV T' (af (aj L (ao 0) ag) aa)) aa)) (aP (i:=3) sc rfl Sort)
  (ak (aS (az (JW L) (aE u hr (af (ao 0) (af (ao 1) (af (ao 3) aa)))) (aE u hr (af (ao 0) (af (ao 2) (af (ao 3) aa)))) (aG _)) (ak (aH j7)) aI)))
  (ak (aH j7))),?_⟩
 have u:=d.Qp;have M:=o;obtain⟨t,u,L,T,mv,wv,Z,S,U,W,g3,g4,X,g6,g7⟩:=o;subst S;have u:mv.length=a.ms.length:=X.1;right;calc cp U (av (j:=0) rfl) ?_;calc⟨_,.inl ⟨_,aO.of W,rfl⟩,?_⟩;calc⟨_,rfl,(),(),?_⟩;rw[u,X'];refine jb (n:=a.ms.length) (λi σ G=>(∃p,σ=[some (V.ref t),some (V.ref l),some (V.ref g),p])/\aq H G/\∀m,m<i->dU a m s=dU a m k) ?_ ?_ ?_
 ·exact⟨⟨_,rfl⟩,aq.refl _,λm h=>absurd h (abk _)⟩
 ·rintro i σ G Y ⟨⟨p,rfl⟩,c,r⟩;rw[Int.zero_add];right;calc⟨_,a,ls,l,s,i,rfl,M.cv c.cv,d,v.same c,y,I,λt L o _ u=>?_⟩;calc⟨_,a,ls,g,k,i,rfl,M.cv (c.trans o).cv,d,x.same (c.trans o),B,J,λv I l _ y=>?_⟩;obtain⟨g,a,d⟩:=u.same l;obtain⟨x,g,k⟩:=y;obtain⟨b,u,N⟩:=BB (K:=K) ∅ a g d.Le k.Le BD BD;calc⟨t,v,b,rfl,rfl,u,?_⟩;have O:=c.trans (o.trans l)
  cases R:b with
  |true=>
   rw[if_neg ∅];calc⟨⟨_,rfl⟩,O,λm a=>?_⟩;by_cases e:m=i
   ·rw[e];exact Hn.mp (N.mp R)
   ·calc r m ()
  |false=>
   rw[if_pos ∅];calc q false _ O ⟨(λz=>by cases z),λz=>?_⟩;have:=N.mpr (by rw[z i Y]);rw[R]at this;exact this
 rintro σ G ⟨⟨p,rfl⟩,c,r⟩;right;calc q true _ c ⟨λ_=>r,λ_=>rfl⟩
abbrev mE:Stmt:=top 72
inductive HF(C CN CR:Addr)(vs:List V)(H:Hp)(Q:VK):Prop
 |mk (bt l l':Addr) (bd:Bool) (nt:NT) (ls:List (Int×Int)) (ms:List Addr) (wv lv:List V) (s s':List (Int×Int)) (h0:vs=[.ref bt,.ref l,.ref l',.bl bd]) (h2:oQ C CN H bt nt) (h3:j5 CN H bt ms wv lv) (h4:fc H 1 lv (ls.map mh)) (h5:ls.length<=20) (h6:∀l∈ls,0<=l.1/\l.1<nt.ws.length) (h7:pV H l s) (h8:pV H l' s') (h9:eG nt (RS.begin nt ls) s) (LF:eG nt (RS.begin nt ls) s') (Td:s.length<=40) (Tc:s'.length<=40) (hb:bd=true↔iY nt s s') (q:∀H',aq H H'->Q (.bl true) H'):HF C CN CR vs H Q
def vR(C CN CR:Addr):Sp:=λvs H Q _=>HF C CN CR vs H Q
theorem zP(D:cL K mg "_law_told" "_law_told" mE c7)(T:Tx K mg C CN CR F FD)(kQ:Def P w K mg base "are_alike" 8 gw (BG C CN CR)):Def P w K mg base "_law_told" 9 c7 (vR C CN CR):=by
 exists["_law_net_here","_law_one","_law_other","_law_due_here","_law_kept","_law_found"];obtain⟨B,l,e,G,I,ls,ms,wv,J,s,L,rfl,M,N,O,R,S,U,W,X,Y,p9,rW,g,q⟩:=h;have hu:=hr.units;refine⟨_,(ai (aT (i:=4) sc rfl Sort (bu (af (cQ b4 rfl T.dI vX (af (ao 1) aa)) (af (cQ b4 rfl T.dI vX (af (ao 2) aa)) aa))))
  (ai (aT (i:=5) sc rfl Sort (aE kQ hr (af (ao 0) (af (ao 1) (af (ao 2) aa)))))
  (ak (aH (gk (aZ dw rfl T.bg yx (af (ao 5) (af (di (v:=.ty "bool") rfl T.zg PyProof.Rows.boot_bool rfl) aa))) (gk (gB (aQ hu) (ao 5) (ao 3) (aG _)) (iE (gB (aQ hu) (bu (af (ao 1) (af (ao 2) aa))) (ao 4) (aG _))))))))),?_⟩
 right;obtain⟨ys,m,n⟩:=U;obtain⟨j,o,r⟩:=W;calc⟨_,.inl (aO.of m),λc T=>?_⟩;have s1:=aq.new (.lst ys) T;have u:upd H c (.lst ys) c=some (.lst ys):=ab;generalize upd H c (.lst ys)=H1 at *;calc⟨_,.inl (aO.of (s1 _ _ o)),λd T=>?_⟩;have s2:=aq.new (.lst j) T;have x:upd H1 d (.lst j) d=some (.lst j):=ab;generalize upd H1 d (.lst j)=H2 at *;calc⟨cR,λt T=>?_⟩;have y:=aq.new (.tup [.ref c,.ref d]) T;have et:upd H2 t (.tup [.ref c,.ref d]) t=some (.tup [.ref c,.ref d]):=ab;generalize upd H2 t (.tup [.ref c,.ref d])=H3 at *;have a:=s1.trans (s2.trans y);calc⟨B,l,e,I,ls,ms,wv,J,s,L,rfl,M.fr (Z:=λ_=>False) a.fr,N.same a,O.aA a.aJ,R,S,⟨ys,a _ _ m,n.aA a.aJ⟩,⟨j,a _ _ o,r.aA a.aJ⟩,X,Y,p9,rW,λb H4 s4 c=>?_⟩;have z:b=G:=by rw[Bool.eq_iff_iff];exact c.trans g.symm
 subst z;calc⟨_,true,.bl b,rfl,?_⟩;rw[if_pos rfl];calc⟨rfl,_,rfl,?_⟩;rw[if_pos (aaj rfl)];calc⟨cR,λp c=>?_⟩;have s5:=aq.new (.tup [.ref l,.ref e]) c;have ep:upd H4 p (.tup [.ref l,.ref e]) p=some (.tup [.ref l,.ref e]):=ab;generalize upd H4 p (.tup [.ref l,.ref e])=H5 at *;have d:=s4.trans s5;have c:=a.trans d;calc .inl ⟨HC (k:=19) ep (d _ _ et) (yh (k:=16) (c _ _ m) (d _ _ (y _ _ (s2 _ _ u))) (n.aA c.aJ) (n.aA c.aJ)) (yh (k:=16) (c _ _ o) (d _ _ (y _ _ x)) (r.aA c.aJ) (r.aA c.aJ)),?_⟩;calc q _ c
theorem of_map{α:Type}{f:α->V}{a:List α}:∀(xs:List V),(∀x∈xs,x∈a.map f)->∃us:List α,xs=us.map f/\∀u∈us,u∈a
 | [],_=>⟨[],rfl,λu h=>by simp at h⟩
 |x::xs,h=>by
  obtain⟨us,e,b⟩:=of_map xs λy c=>h y (aao _ c);obtain⟨t,d,rfl⟩:=List.mem_map.mp (h x aaE);exact⟨t::us,by rw[e];rfl,λu g=>by
   rcases List.mem_cons.mp g with rfl|a
   ·exact d
   ·calc b u a⟩
theorem ints_of{xs:List V}(h:∀x∈xs,x∈ns.map V.int):∃us:List Int,xs=us.map V.int:=let ⟨us,e,_⟩:=of_map xs h;⟨us,e⟩
abbrev uG:Stmt:=top 73
def vS(K:W.Frag):Sp:=λvs H Q _=>∃(a:Addr) (ns:List Int),vs=[.ref a]/\aO K H a (ns.map V.int)/\ns.length<=63/\∀H',Q (.bl true) H'
theorem P0{f:Addr}{fd:FuncData}(D:JA K "law" "law" uG f fd)(T:Tx K mg C CN CR F FD)(dR:Def P w K mg base "_law_at" 1 ef (AS K))(o8:Def P w K mg base "_law_due" 2 ek BN)(o9:Def P w K mg base "_law_net" 5 fh (Bv K))(ia:Def P w K mg base "_law_net_made" 9 ed (uC C CN))(gK:Def P w K mg base "_law_ran" 4 eM vF)(jR:Def P w K mg base "_law_second" 5 c6 BM)(N:Def P w K mg base "_law_told" 9 c7 (vR C CN CR)):lG P w K mg base Ce 10 f fd fh (vS K):=by
 have sc:aC ["_law_script","_law_net_here","_law_one","_law_other","_law_due_here","_law_made"] fh (ay uG):=by walk_at "s"
 refine D.ok sc (λvs H Q E h=>?_) (λgj A outer s H vs Q E hr h=>?_)
 ·obtain⟨a,ns,rfl,O,WO,q⟩:=h;rfl
 ·obtain⟨a,ns,rfl,O,WO,q⟩:=h;have hu:=hr.units;refine⟨_,(ai (aT (i:=1) sc.nd rfl Sort (aE o9 hr (af (ao 0) aa)))
   (ai (aT (i:=2) sc.nd rfl Sort (aj hu (aE gK hr (af (ao 1) (af (Fx (ao 0) (fm ag) (fm ag)) aa))) aB))
   (ai (aT (i:=3) sc.nd rfl Sort (aE jR hr (af (ao 1) (af (ao 2) (af (Fx (ao 0) (fm ag) (fm ag)) (af (aE dR hr (af (ao 0) (af ag aa))) aa))))))
   (ai (aT (i:=4) sc.nd rfl Sort (aE o8 hr (af (ao 1) (af (ao 2) (af (ao 3) aa)))))
   (ai (aT (i:=5) sc.nd rfl Sort (aE ia hr (af (ao 1) aa)))
   (ai (aS (PW.pt (pw_or (cC (bN (aE N hr (af (ao 5) (af (ao 2) (af (ao 3) (af (ao 4) aa))))))) (pw_or1 (cC (bN (aE N hr (af (ao 5) (af (ao 3) (af (ao 2) (af (ao 4) aa)))))))))) (ak (aH j7)) aI)
   (ak (aH (gk (aE N hr (af (ao 5) (af (ao 2) (af (cQ b4 rfl T.dI vX (af (ao 2) aa)) (af j7 aa))))) (iE (aE N hr (af (ao 5) (af (ao 3) (af (ao 3) (af j7 aa))))))))))))))),?_⟩
  calc L2.bz λu d=>?_;left;calc⟨a,ns,rfl,O,WO,λt am aw S mv wv lv gF ws ls H1 s1 N T g3 g4 g5 g6 g7 g=>?_⟩;have B:ToldN H1 (.ref t) gF ws ls:=⟨t,am,aw,S,mv,wv,lv,rfl,N,T,g3,g4,g5,g6,g7⟩
  clear N T g3 g4 g5 g6 g7;obtain⟨c,U⟩:∃c:NT,c=⟨gF,ws⟩:=⟨_,rfl⟩
  have IW:∀l∈ls,0<=l.1/\l.1<c.ws.length:=λl N=>by rw[U];exact⟨(g.lo l N).1,(g.lo l N).2.1⟩
  have DG:c.Ok:=by rw[U];exact g.nt
  have B:ToldN H1 (.ref t) c.ms c.ws ls:=by rw[U];exact B
  generalize V.ref t=v at *;have n:=s1.seq O;calc L2.ba d ?_;clear d O s1;calc L2.bz λu d=>?_;left;calc⟨_,n,λW VJ=>?_⟩;obtain⟨X,Qa⟩:=ints_of (ns:=ns) λx (hx:x∈dq (ns.map V.int) (some 8) (some 35))=>AK hx;have abh:X.length<=27:=by
   have:=AJ (xs:=ns.map V.int) (i:=8) (j:=35);rw[show dq (ns.map V.int) (some ((8:Nat):Int)) (some ((35:Nat):Int))=X.map V.int from Qa,R']at this;exact this
  have p:=aq.new (.lst (dq (ns.map V.int) (some 8) (some 35))) VJ;have VM:upd H1 W (.lst (dq (ns.map V.int) (some 8) (some 35))) W=some (.lst (X.map V.int)):=by rw[<-Qa];exact ab
  generalize upd H1 W (.lst (dq (ns.map V.int) (some 8) (some 35)))=H2 at *;calc⟨λ_=>False,v,c,ls,W,X,rfl,vO (B.cv p.cv),λb y=>y.elim,DG,g.WN,IW,VM,(),λN b0 rr H3 s3 fb0 fd0 G hI PY=>?_⟩;left;obtain⟨o1,GL,_,_,VG⟩:=G.dk;obtain⟨v1,Y,Dp⟩:=G.cP.lst (t:=0) (i:=0) (by show 0<1;decide) rfl;have k:pV H3 (b0 0 0) rr.picks:=⟨v1,Y,nQ (Dp.cv dZ)⟩
  have z:=hI.can;have t:rr.picks.length<=27:=by lia
  calc⟨_,Df GL,?_⟩;have lJ:=p.trans s3;have Xg:=lJ.seq n;have Qb:=B.cv lJ.cv;generalize b0 0 0=l1 at *;generalize rr.picks=p1 at *;calc L2.ba d ?_;clear d VJ VM p s3 fb0 fd0 G hI PY o1 GL VG v1 Y Dp lJ n B Qa abh;calc L2.bz λu d=>?_;left;calc⟨_,Xg,λXh VN=>?_⟩;obtain⟨Xi,Qc⟩:=ints_of (ns:=ns) λx (hx:x∈dq (ns.map V.int) (some 35) (some 62))=>AK hx;have abj:Xi.length<=27:=by
   have:=AJ (xs:=ns.map V.int) (i:=35) (j:=62);rw[show dq (ns.map V.int) (some ((35:Nat):Int)) (some ((62:Nat):Int))=Xi.map V.int from Qc,R']at this;exact this
  have I:=aq.new (.lst (dq (ns.map V.int) (some 35) (some 62))) VN;have VP:upd H3 Xh (.lst (dq (ns.map V.int) (some 35) (some 62))) Xh=some (.lst (Xi.map V.int)):=by rw[<-Qc];exact ab
  generalize upd H3 Xh (.lst (dq (ns.map V.int) (some 35) (some 62)))=H5 at *;have n:=I.seq Xg;calc⟨a,ns,62,rfl,n,∅,λp=>?_⟩;calc⟨v,c,ls,l1,p1,Xh,Xi,p,rfl,Qb.cv I.cv,DG,g.WN,IW,k.same I,z,(),VP,λN O t B o J L=>?_⟩;have t:=I.trans B;have k:=k.same t;have x:=Qb.cv t.cv;have p:=t.seq Xg;calc L2.ba d ?_;clear d VN VP I B t Qb Xg n Qc abj;calc L2.bz λu d=>?_;left;calc⟨v,c,ls,l1,N,p1,O,rfl,x,DG,k,o,lC z,lC J,(),L,λb t n y=>?_⟩;have k:=k.same n;have o:=o.same n;have B:=x.cv n.cv;have t:=n.seq p;calc L2.ba d ?_;clear d n x p;calc L2.bz λu d=>?_;left;calc⟨v,c.ms,c.ws,ls,rfl,B,by rw[U];calc g,λn ms wv lv I p x O T=>?_⟩;have k:=k.same p;have o:=o.same p;have x:oQ C CN I n c:=x;calc L2.ba d ?_;clear d p B t;calc L2.bz λu d=>?_;calc L2.jD λp t G B=>?_;left;have S:∀s,iY c s s:=λs m _=>rfl;have as:∀{s p},iY c s p->iY c p s:=λh m U=>(h m U).symm;have e:∀{t:Hp} {l N s p} {b:Bool},aq I t->pV t l s->pV t N p->eG c (RS.begin c ls) s->eG c (RS.begin c ls) p->s.length<=40->p.length<=40->(b=true↔iY c s p)->∀{R:VK} {E:XK},(∀H',aq t H'->R (.bl true) H')->vR C CN CR [.ref n,.ref l,.ref N,.bl b] t R E:=λl p I N U W X y _ _ r=>⟨n,_,_,_,c,ls,ms,wv,lv,_,_,rfl,x.fr (Z:=λ_=>False) l.fr,O.same l,T.aA l.aJ,g.WN,IW,p,I,N,U,W,X,y,r⟩
  calc e (aq.refl _) k o z J () L y λt l=>?_;calc vg ?_;rw[if_neg ∅];calc e l (o.same l) (k.same l) J z L () (y.trans ⟨as,as⟩) λzI c=>?_;calc vg ?_;rw[if_neg ∅];calc L2.ba B ?_;show u _ _;calc L2.ba d ?_;clear d G B;have VR:=l.trans c;left;obtain⟨ys,Y,y1⟩:=k.same VR;calc⟨ys,.inl (aO.of Y),λl3 c=>?_⟩;have M:=aq.new (.lst ys) c;have e3:upd zI l3 (.lst ys) l3=some (.lst ys):=ab;generalize upd zI l3 (.lst ys)=Tw at *;have c:=VR.trans M;calc e c (k.same c) ⟨ys,e3,y1.aA M.aJ⟩ z z () () ⟨λ_=>S _,λ_=>rfl⟩ λg d=>?_;calc⟨true,rfl,?_⟩;rw[if_pos rfl];calc e (c.trans d) (o.same (c.trans d)) (o.same (c.trans d)) J J L L ⟨λ_=>S _,λ_=>rfl⟩ λc _=>q c
end
end FO
namespace FO
open PySem L2 DD
variable {p0 p1:Str}
def FnAt(K:W.Frag)(f:Addr)(x q:Str)(a:Stmt):Prop:=∃c d e g kV h i b ct,K.lookup f=some ⟨g,c,.func (W.fnOf x q (eg a) (cO a) (ay a) .none kV h i d b ct),e⟩/\W.codeIn K b q=true/\W.keepIn K (.ref f)=true
def DF(K:W.Frag)(x:Str)(a:Stmt):Prop:=∃f,W.nsIn K mainGlobals x=some (some (.ref f))/\FnAt K f x x a
def MF(K:W.Frag)(C:Addr)(m q:Str)(a:Stmt):Prop:=∃f,W.findIn K (.ref C) m=some (some (.ref f))/\W.isFn K (.ref f)=true/\FnAt K f m q a
def Mp(x q:Str)(a:Stmt)(c:List Str):Prop:=∀(kV b d:Value) (e:Option Addr) (f ct:Value) (us:List Value),us.length=c.length->bindArgs (W.fnOf x q (eg a) (cO a) (ay a) .none kV b d e f ct) ⟨us,[]⟩=pure (c.zip us)
section
variable {K:W.Frag}{h:Heap}{mg:Str->Option Value}{x m q:Str}{C f:Addr}{st:Stmt}{ps:List Str}{od an:Option Addr}{sl:Array (Option Value)}{oc kV dc pm cd ct:Value}
theorem Mq(a:W.nsIn K mainGlobals x=some (some (.ref f)))(l:K.lookup f=some ⟨oc,od,.func (W.fnOf x x (eg st) (cO st) (ay st) .none kV dc pm an cd ct),sl⟩)(c:W.codeIn K cd x=true)(k:W.keepIn K (.ref f)=true):DF K x st:=⟨f,a,_,_,_,_,_,_,_,_,_,l,c,k⟩
theorem Mr(a:W.findIn K (.ref C) m=some (some (.ref f)))(i:W.isFn K (.ref f)=true)(l:K.lookup f=some ⟨oc,od,.func (W.fnOf m q (eg st) (cO st) (ay st) .none kV dc pm an cd ct),sl⟩)(c:W.codeIn K cd q=true)(k:W.keepIn K (.ref f)=true):MF K C m q st:=⟨f,a,i,_,_,_,_,_,_,_,_,_,l,c,k⟩
theorem aR(X:K.In h)(G:h.Ns mainGlobals mg)(d:DF K x st)(b:Mp x x st ps):cL K mg x x st ps:=by
 obtain⟨f,a,_,_,_,_,_,_,_,_,_,l,c,k⟩:=d;calc⟨_,_,lX l c k,W.mg_of X G a,(lX l c k).binds b⟩
theorem c8(d:MF K C m q st)(b:Mp m q st ps):ji K C m q st ps:=by
 obtain⟨f,a,i,_,_,_,_,_,_,_,_,_,l,c,k⟩:=d;calc⟨_,_,⟨a,i,k⟩,lX l c k,(lX l c k).binds b⟩
theorem vT(X:K.In h)(G:h.Ns mainGlobals mg)(e:W.makesIn K C=true)(g:W.keepIn K (.ref C)=true)(d:MF K C "__init__" q st)(j:W.nsIn K mainGlobals x=some (some (.ref C)))(b:Mp "__init__" q st ps):Cs K mg x C q st ps:=by
 obtain⟨f,a,i,_,_,_,_,_,_,_,_,_,l,c,k⟩:=d;calc⟨⟨_,_,⟨e,a,i,g⟩,lX l c k,(lX l c k).binds b⟩,W.mg_of X G j⟩
theorem mF{us:List Value}{n:Nat}(h:us.length=n+1):∃x r,us=x::r/\r.length=n:=by
 cases us with
 |nil=>cases h
 |cons x r=>calc⟨x,r,rfl,Nat.succ.inj h⟩
theorem lM(e:∀(kV a pm:Value) (an:Option Addr) (c ct b:Value),bindArgs (W.fnOf x q (eg st) (cO st) (ay st) .none kV a pm an c ct) ⟨[b],[]⟩=pure ([p0].zip [b])):Mp x q st [p0]:=λkV a pm an c ct g d=>by
 obtain⟨b,h,rfl,f⟩:=mF d
 cases List.length_eq_zero_iff.mp f;calc e ..
theorem jS(e:∀(kV a pm:Value) (an:Option Addr) (d ct b c:Value),bindArgs (W.fnOf x q (eg st) (cO st) (ay st) .none kV a pm an d ct) ⟨[b,c],[]⟩=pure ([p0,p1].zip [b,c])):Mp x q st [p0,p1]:=λkV a pm an d ct i f=>by
 obtain⟨b,j,rfl,g⟩:=mF f;obtain⟨c,k,rfl,h⟩:=mF g
 cases List.length_eq_zero_iff.mp h;calc e ..
theorem pb{f:Str}(e:∀(kV a pm:Value) (an:Option Addr) (g ct b c d:Value),bindArgs (W.fnOf x q (eg st) (cO st) (ay st) .none kV a pm an g ct) ⟨[b,c,d],[]⟩=pure ([p0,p1,f].zip [b,c,d])):Mp x q st [p0,p1,f]:=λkV a pm an g ct f h=>by
 obtain⟨b,l,rfl,i⟩:=mF h;obtain⟨c,m,rfl,j⟩:=mF i;obtain⟨d,n,rfl,k⟩:=mF j
 cases List.length_eq_zero_iff.mp k;calc e ..
theorem pd{g h:Str}(e:∀(kV a pm:Value) (an:Option Addr) (i ct b c d f:Value),bindArgs (W.fnOf x q (eg st) (cO st) (ay st) .none kV a pm an i ct) ⟨[b,c,d,f],[]⟩=pure ([p0,p1,g,h].zip [b,c,d,f])):Mp x q st [p0,p1,g,h]:=λkV a pm an i ct g j=>by
 obtain⟨b,o,rfl,k⟩:=mF j;obtain⟨c,p,rfl,l⟩:=mF k;obtain⟨d,r,rfl,m⟩:=mF l;obtain⟨f,s,rfl,n⟩:=mF m
 cases List.length_eq_zero_iff.mp n;calc e ..
theorem Qe{h i j:Str}(e:∀(kV a pm:Value) (an:Option Addr) (k ct b c d f g:Value),bindArgs (W.fnOf x q (eg st) (cO st) (ay st) .none kV a pm an k ct) ⟨[b,c,d,f,g],[]⟩=pure ([p0,p1,h,i,j].zip [b,c,d,f,g])):Mp x q st [p0,p1,h,i,j]:=λkV a pm an k ct h l=>by
 obtain⟨b,s,rfl,m⟩:=mF l;obtain⟨c,t,rfl,n⟩:=mF m;obtain⟨d,u,rfl,o⟩:=mF n;obtain⟨f,v,rfl,p⟩:=mF o;obtain⟨g,w,rfl,r⟩:=mF p
 cases List.length_eq_zero_iff.mp r;calc e ..
end
theorem all_mk{l:W.OpenLaw}{w:World}{K:W.Frag}{h:Heap}{o:Str->Option Value}{fa C a CR F:Addr}(X:K.In h)(G:h.Ns mainGlobals o)(S:o "law"=some (.ref fa))
  (nR:W.nsIn K mainGlobals "Machine"=some (some (.ref C))) (K2:W.nsIn K mainGlobals "Net"=some (some (.ref a))) (K3:W.nsIn K mainGlobals "Run"=some (some (.ref CR))) (rY:DF K "_law_at" rf) (eP:DF K "_law_machine_picks" eN) (pf:DF K "_law_due" o7) (kR:DF K "_law_digit" kr) (kS:DF K "_law_value" kH) (mG:DF K "_law_deed" mz) (iZ:DF K "_law_machine" iU) (ph:DF K "_law_pot" oz) (pw:DF K "_law_net" oW) (pA:DF K "form_of" oB) (mH:DF K "is_whole" l9) (kT:DF K "is_within" kq) (mI:DF K "is_value" ma) (pB:DF K "is_part" oC) (pC:DF K "is_deed" oE) (ib:DF K "refuse_deeds" gQ) (pD:DF K "is_list" oA) (i3:DF K "are_counted" iJ) (fW:DF K "refuse_machine" fM) (pE:MF K C "__init__" "Machine.__init__" oK) (kU:DF K "is_letter" ku) (rZ:DF K "is_way" rq) (jT:DF K "refuse_net" jG) (HH:MF K a "__init__" "Net.__init__" F6) (ic:DF K "_law_net_made" hV) (kW:DF K "_law_begun" kO) (kX:DF K "_law_lying" kM) (mJ:DF K "_law_free" mC) (kY:DF K "_law_worth" kJ) (jU:DF K "_law_worked" jK) (mK:DF K "_law_pick" mD) (pF:DF K "_law_ran" oY) (gy:DF K "_law_other_way" gv) (jV:DF K "_law_turned" jO) (jW:DF K "_law_second" jP) (fX:DF K "change_numbers" fO) (jX:DF K "change_row" jI) (mL:DF K "left_out" mq) (kZ:DF K "values_of" kB) (i4:DF K "plain_worth" iM) (mM:DF K "worth_of" mn) (fY:MF K C "worked" "Machine.worked" fP) (ie:MF K a "machines" "Net.machines" gS) (mN:MF K a "ways" "Net.ways" ml) (i5:MF K a "ways_at" "Net.ways_at" iP) (i8:MF K a "ways_in" "Net.ways_in" iQ) (ig:MF K a "ways_out" "Net.ways_out" gU) (ij:MF K CR "need_way" "Run.need_way" gV) (fB:MF K CR "need_letter" "Run.need_letter" fz) (gz:MF K CR "need_pick" "Run.need_pick" gs) (fZ:MF K CR "put_letter" "Run.put_letter" fR) (eY:MF K CR "need_machine" "Run.need_machine" eW) (k6:MF K CR "state" "Run.state" kF) (i9:MF K CR "pick_at" "Run.pick_at" iR) (ee:MF K C "first_state" "Machine.first_state" d7) (ja:MF K a "letters" "Net.letters" iL) (HI:MF K CR "__init__" "Run.__init__" Gx) (jY:DF K "played_run" jM) (pG:MF K CR "net" "Run.net" oT) (ik:MF K CR "schedule" "Run.schedule" gX) (eQ:DF K "picks_of_machines" eO) (gb:DF K "runs_are_alike" fT) (k7:DF K "are_alike" kP) (mO:DF K "_law_told" mE) (HJ:DF K "law" uG) (pH:W.plainGet K C Str.empty=true) (pJ:W.hasDictIn K C=true) (pK:W.plainOver K C=true) (pL:W.findIn K (.ref C) "__setattr__"=some (some (.builtin "object.__setattr__"))) (pM:W.makesIn K C=true) (pN:W.keepIn K (.ref C)=true) (CC:W.findIn K (.ref C) "__class__"=some (some (.builtin "object.__class__"))) (CF:W.mroIn K C (.type "object")=some true) (Lw:W.findIn K (.ref C) "own_modulus"=some none) (Ol:W.findIn K (.ref C) "own_state"=some none) (Lx:W.findIn K (.ref C) "own_deeds"=some none) (HK:W.plainGet K a Str.empty=true) (HL:W.hasDictIn K a=true) (HM:W.plainOver K a=true) (HN:W.findIn K (.ref a) "__setattr__"=some (some (.builtin "object.__setattr__"))) (HQ:W.makesIn K a=true) (HR:W.keepIn K (.ref a)=true) (FU:W.findIn K (.ref a) "__class__"=some (some (.builtin "object.__class__"))) (FV:W.mroIn K a (.type "object")=some true) (xc:W.findIn K (.ref a) "own_machines"=some none) (xf:W.findIn K (.ref a) "own_ways"=some none) (zh:W.findIn K (.ref a) "own_letters"=some none) (HS:W.plainGet K CR Str.empty=true) (HU:W.hasDictIn K CR=true) (HV:W.plainOver K CR=true) (HW:W.findIn K (.ref CR) "__setattr__"=some (some (.builtin "object.__setattr__"))) (HX:W.makesIn K CR=true) (HY:W.keepIn K (.ref CR)=true) (FW:W.findIn K (.ref CR) "__class__"=some (some (.builtin "object.__class__"))) (FX:W.mroIn K CR (.type "object")=some true) (cB:W.findIn K (.ref CR) "own_net"=some none) (cG:W.findIn K (.ref CR) "picks_done"=some none) (bZ:W.findIn K (.ref CR) "states_had"=some none) (dN:W.findIn K (.ref CR) "words_had"=some none) (cH:W.findIn K (.ref CR) "words_said"=some none) (bT:W.findIn K (.ref CR) "letters_say"=some none) (eV:W.findIn K (.ref CR) "senders"=some none) (de:W.findIn K (.ref CR) "workers"=some none) (CG:W.specialIn K (.builtin "object.__class__") "__get__"=some (some (.builtin "getset_descriptor.__get__"))) (uh:W.takesIn K (.builtin "object.__class__")=some true)
  (jZ:W.nsIn K mainGlobals "isinstance"=some none) (HZ:W.nsIn K mainGlobals "int"=some none) (zQ:W.nsIn K mainGlobals "bool"=some none) (Ia:W.nsIn K mainGlobals "str"=some none) (vU:W.nsIn K mainGlobals "tuple"=some none) (zR:W.nsIn K mainGlobals "list"=some none) (Ib:W.nsIn K mainGlobals "len"=some none) (vV:W.nsIn K mainGlobals "range"=some none) (Ic:W.nsIn K mainGlobals "min"=some none) (Ie:W.nsIn K mainGlobals "max"=some none) (Ig:W.nsIn K mainGlobals "all"=some none) (Ih:W.nsIn K mainGlobals "any"=some none) (Ii:W.nsIn K mainGlobals "zip"=some none) (k8:W.nsIn K mainGlobals "enumerate"=some none) (j0:W.nsIn K mainGlobals "ValueError"=some none) (r6:W.nsIn K mainGlobals "sorted"=some none) {p:Tok} (dJ:W.nsIn K mainGlobals "MOST_DEEDS"=some (some (.int 24 p))) {q:Tok} (dA:W.nsIn K mainGlobals "MOST_MODULUS"=some (some (.int 1000000000000 q))) {r:Tok} (dB:W.nsIn K mainGlobals "MOST_NUMBERS"=some (some (.int 4 r))) {t:Tok} (eU:W.nsIn K mainGlobals "MOST_ROW"=some (some (.int 12 t))) {u:Tok} (cU:W.nsIn K mainGlobals "MOST_MACHINES"=some (some (.int 5 u))) {x:Tok} (e9:W.nsIn K mainGlobals "MOST_WAYS"=some (some (.int 10 x))) {y:Tok} (dC:W.nsIn K mainGlobals "MOST_LETTERS"=some (some (.int 20 y))) {z:Tok} (dM:W.nsIn K mainGlobals "SAID_BOUND"=some (some (.int 1000000000000000000000000000000000000000000000000000000000000 z)))
  {p q r t u x y z:Int} {B I J L M N O R:Tok} {b c g i j k m n:Addr} {U:Nat}
  (aF:W.nsIn K mainGlobals "FORMS"=some (some (.ref F))) (lF:K.lookup F=some {cls:=.type "dict",dict:=none,data:=.dict #[⟨p,.str "set" B,.ref b⟩,⟨q,.str "add" I,.ref c⟩,⟨r,.str "times" J,.ref g⟩,⟨t,.str "put" L,.ref i⟩,⟨u,.str "drop" M,.ref j⟩,⟨x,.str "send" N,.ref k⟩,⟨y,.str "say" O,.ref m⟩,⟨z,.str "skip" R,.ref n⟩] U,slots:=#[]}) (U:(F==sysModules)=false) {Ms Mt:Tok} {Y:Option Addr} {Z:Nat} {fs0:Array (Option Value)} (lP0:K.lookup b=some ⟨.type "tuple",Y,.seq #[.str "number" Ms,.str "value" Mt] Z,fs0⟩) {Mu Mv:Tok} {fo1:Option Addr} {fn1:Nat} {fs1:Array (Option Value)} (lP1:K.lookup c=some ⟨.type "tuple",fo1,.seq #[.str "number" Mu,.str "value" Mv] fn1,fs1⟩) {Mw Mx:Tok} {fo2:Option Addr} {fn2:Nat} {fs2:Array (Option Value)} (lP2:K.lookup g=some ⟨.type "tuple",fo2,.seq #[.str "number" Mw,.str "value" Mx] fn2,fs2⟩) {My:Tok} {fo3:Option Addr} {fn3:Nat} {fs3:Array (Option Value)} (lP3:K.lookup i=some ⟨.type "tuple",fo3,.seq #[.str "value" My] fn3,fs3⟩) {fo4:Option Addr} {fn4:Nat} {fs4:Array (Option Value)} (lP4:K.lookup j=some ⟨.type "tuple",fo4,.seq #[] fn4,fs4⟩) {Mz MA:Tok} {fo5:Option Addr} {fn5:Nat} {fs5:Array (Option Value)} (lP5:K.lookup k=some ⟨.type "tuple",fo5,.seq #[.str "way" Mz,.str "value" MA] fn5,fs5⟩) {MB:Tok} {fo6:Option Addr} {fn6:Nat} {fs6:Array (Option Value)} (lP6:K.lookup m=some ⟨.type "tuple",fo6,.seq #[.str "value" MB] fn6,fs6⟩) {MC ME MG:Tok} {fo7:Option Addr} {fn7:Nat} {fs7:Array (Option Value)} (lP7:K.lookup n=some ⟨.type "tuple",fo7,.seq #[.str "value" MC,.str "value" ME,.str "many" MG] fn7,fs7⟩)
  :∃Y:FuncData,(∀(s:Shared) (v:Value),BindsTo s Y ⟨[v],[]⟩ [("_law_script",v)])/\∀base:Heap,K.In base->base.Ns mainGlobals o->lG l.prog w K o base Ce 10 fa Y fh (vS K):=by
 have Y:PyProof.Rows.KTD.Rows RelV (#[⟨p,.str "set" B,.ref b⟩,⟨q,.str "add" I,.ref c⟩,⟨r,.str "times" J,.ref g⟩,⟨t,.str "put" L,.ref i⟩,⟨u,.str "drop" M,.ref j⟩,⟨x,.str "send" N,.ref k⟩,⟨y,.str "say" O,.ref m⟩,⟨z,.str "skip" R,.ref n⟩]:Array DictEntry).toList ([("set",V.ref b),("add",V.ref c),("times",V.ref g),("put",V.ref i),("drop",V.ref j),("send",V.ref k),("say",V.ref m),("skip",V.ref n)]:List (Str×V)):=.cons rfl rfl (.cons rfl rfl (.cons rfl rfl (.cons rfl rfl (.cons rfl rfl (.cons rfl rfl (.cons rfl rfl (.cons rfl rfl (.nil))))))));have T:Tx K o C a CR F ([("set",V.ref b),("add",V.ref c),("times",V.ref g),("put",V.ref i),("drop",V.ref j),("send",V.ref k),("say",V.ref m),("skip",V.ref n)]:List (Str×V)):={
  bg:=aaL X G jZ
  AN:=aaL X G HZ
  zg:=aaL X G zQ
  AO:=aaL X G Ia
  ck:=aaL X G vU
  dI:=aaL X G zR
  bV:=aaL X G Ib
  eu:=aaL X G vV
  SH:=aaL X G Ic
  Lv:=aaL X G Ie
  ue:=aaL X G Ig
  SI:=aaL X G Ih
  FQ:=aaL X G Ii
  dE:=aaL X G k8
  vi:=aaL X G j0
  FT:=aaL X G r6
  dJ:=⟨_,W.mg_of X G dJ⟩
  dA:=⟨_,W.mg_of X G dA⟩
  dB:=⟨_,W.mg_of X G dB⟩
  eU:=⟨_,W.mg_of X G eU⟩
  cU:=⟨_,W.mg_of X G cU⟩
  e9:=⟨_,W.mg_of X G e9⟩
  dC:=⟨_,W.mg_of X G dC⟩
  dM:=⟨_,W.mg_of X G dM⟩
  cy:=⟨pH,pJ,pK,pL⟩
  uf:=W.mg_of X G nR
  CC:=CC
  CF:=CF
  Lw:=Lw
  Ol:=Ol
  Lx:=Lx
  cA:=⟨HK,HL,HM,HN⟩
  SJ:=W.mg_of X G K2
  FU:=FU
  FV:=FV
  xc:=xc
  xf:=xf
  zh:=zh
  bb:=⟨HS,HU,HV,HW⟩
  SK:=W.mg_of X G K3
  FW:=FW
  FX:=FX
  cB:=cB
  cG:=cG
  bZ:=bZ
  dN:=dN
  cH:=cH
  bT:=bT
  eV:=eV
  de:=de
  CG:=CG
  uh:=uh
  i_k:=by unfold W.kitOne;rw[if_pos nofun]
  AQ:=W.mg_of X G aF
  AR:=⟨⟨_,_,_,lF,⟨rfl,rfl,rfl⟩,rfl,Y⟩,U⟩
  Ly:=λd=>by
   cases d with
   |set _ _=>calc⟨b,by kernel_rfl,λH=>.inr ⟨_,_,_,lP0,rfl,rfl,by show 2<=sizeLine;decide,(.cons ⟨Ms,rfl⟩ (.cons ⟨Mt,rfl⟩ .nil))⟩⟩
   |add _ _=>calc⟨c,by kernel_rfl,λH=>.inr ⟨_,_,_,lP1,rfl,rfl,by show 2<=sizeLine;decide,(.cons ⟨Mu,rfl⟩ (.cons ⟨Mv,rfl⟩ .nil))⟩⟩
   |times _ _=>calc⟨g,by kernel_rfl,λH=>.inr ⟨_,_,_,lP2,rfl,rfl,by show 2<=sizeLine;decide,(.cons ⟨Mw,rfl⟩ (.cons ⟨Mx,rfl⟩ .nil))⟩⟩
   |put _=>calc⟨i,by kernel_rfl,λH=>.inr ⟨_,_,_,lP3,rfl,rfl,by show 1<=sizeLine;decide,(.cons ⟨My,rfl⟩ .nil)⟩⟩
   |drop=>calc⟨j,by kernel_rfl,λH=>.inr ⟨_,_,_,lP4,rfl,rfl,by show 0<=sizeLine;decide,.nil⟩⟩
   |send _ _=>calc⟨k,by kernel_rfl,λH=>.inr ⟨_,_,_,lP5,rfl,rfl,by show 2<=sizeLine;decide,(.cons ⟨Mz,rfl⟩ (.cons ⟨MA,rfl⟩ .nil))⟩⟩
   |say _=>calc⟨m,by kernel_rfl,λH=>.inr ⟨_,_,_,lP6,rfl,rfl,by show 1<=sizeLine;decide,(.cons ⟨MB,rfl⟩ .nil)⟩⟩
   |skip _ _ _=>exact⟨n,by kernel_rfl,λH=>.inr ⟨_,_,_,lP7,rfl,rfl,by show 3<=sizeLine;decide,(.cons ⟨MC,rfl⟩ (.cons ⟨ME,rfl⟩ (.cons ⟨MG,rfl⟩ .nil)))⟩⟩
 }
 obtain⟨f,a,b,an,c,d,kV,dc,pm,cd,ct,ll,lc,lk⟩:=HJ;have e:=S.symm.trans (W.mg_of X G a)
 cases e;refine⟨W.fnOf "law" "law" (eg uG) (cO uG) (ay uG) .none kV dc pm an cd ct,λs v=>.of_eq rfl,λbase _ _=>?_⟩;have c:=FZ (P:=l.prog) (w:=w) (base:=base) (aR X G rY (jS λ_ _ _ _ _ _ _ _=>rfl)) T;have g:=lK (P:=l.prog) (w:=w) (base:=base) (aR X G eP (pb λ_ _ _ _ _ _ _ _ _=>rfl)) T;have j:=Du (aR X G pf (pb λ_ _ _ _ _ _ _ _ _=>rfl)) T g;have a:=xi (P:=l.prog) (w:=w) (base:=base) (aR X G kR (jS λ_ _ _ _ _ _ _ _=>rfl)) T;have b:=xK (aR X G kS (jS λ_ _ _ _ _ _ _ _=>rfl)) T a;have d:=zL (aR X G mG (jS λ_ _ _ _ _ _ _ _=>rfl)) T a b;have e:=sZ (aR X G iZ (lM λ_ _ _ _ _ _ _=>rfl)) T d a;have b:=CH (P:=l.prog) (w:=w) (base:=base) (aR X G ph (lM λ_ _ _ _ _ _ _=>rfl)) T;have k:=Dl (aR X G pw (lM λ_ _ _ _ _ _ _=>rfl)) T c a e b;have d:=CJ (P:=l.prog) (w:=w) (base:=base) (aR X G pA (lM λ_ _ _ _ _ _ _=>rfl)) T;have b:=zi (P:=l.prog) (w:=w) (base:=base) (aR X G mH (lM λ_ _ _ _ _ _ _=>rfl)) T;have a:=xh (aR X G kT (pb λ_ _ _ _ _ _ _ _ _=>rfl)) T b;have e:=zk (aR X G mI (jS λ_ _ _ _ _ _ _ _=>rfl)) T b a;have i:=CK (aR X G pB (pb λ_ _ _ _ _ _ _ _ _=>rfl)) T e b a;have m:=CL (aR X G pC (jS λ_ _ _ _ _ _ _ _=>rfl)) T d i;have e:=rm (aR X G ib (jS λ_ _ _ _ _ _ _ _=>rfl)) T m;have b:=CI (P:=l.prog) (w:=w) (base:=base) (aR X G pD (pb λ_ _ _ _ _ _ _ _ _=>rfl)) T;have d:=sL (aR X G i3 (pd λ_ _ _ _ _ _ _ _ _ _=>rfl)) T b a;have i:=oH (aR X G fW (pd λ_ _ _ _ _ _ _ _ _ _=>rfl)) T d a;have m:=CQ (vT X G pM pN pE nR (Qe λ_ _ _ _ _ _ _ _ _ _ _=>rfl)) T e i;have d:=xl (aR X G kU (jS λ_ _ _ _ _ _ _ _=>rfl)) T a;have e:=F5 (aR X G rZ (jS λ_ _ _ _ _ _ _ _=>rfl)) T a;have i:=vk (aR X G jT (pb λ_ _ _ _ _ _ _ _ _=>rfl)) T d b e;have n:=S8 (vT X G HQ HR HH K2 (pd λ_ _ _ _ _ _ _ _ _ _=>rfl)) T i;have o:=rR (aR X G ic (lM λ_ _ _ _ _ _ _=>rfl)) T m n;have b:=xT (P:=l.prog) (w:=w) (base:=base) (aR X G kW (lM λ_ _ _ _ _ _ _=>rfl)) T;have e:=xP (P:=l.prog) (w:=w) (base:=base) (aR X G kX (jS λ_ _ _ _ _ _ _ _=>rfl)) T;have d:=zN (aR X G mJ (lM λ_ _ _ _ _ _ _=>rfl)) T e;have i:=xO (P:=l.prog) (w:=w) (base:=base) (aR X G kY (Qe λ_ _ _ _ _ _ _ _ _ _ _=>rfl)) T;have m:=vv (aR X G jU (pd λ_ _ _ _ _ _ _ _ _ _=>rfl)) T i;have e:=zO (aR X G mK (pb λ_ _ _ _ _ _ _ _ _=>rfl)) T m;have i:=Dr (aR X G pF (jS λ_ _ _ _ _ _ _ _=>rfl)) T b d e;have m:=qa (aR X G gy (pb λ_ _ _ _ _ _ _ _ _=>rfl)) T c b d g e;have n:=vP (aR X G jV (pb λ_ _ _ _ _ _ _ _ _=>rfl)) T b d e;have g:=vQ (aR X G jW (pd λ_ _ _ _ _ _ _ _ _ _=>rfl)) T m i n;have b:=oM (P:=l.prog) (w:=w) (base:=base) (aR X G fX (pd λ_ _ _ _ _ _ _ _ _ _=>rfl)) T;have e:=vn (P:=l.prog) (w:=w) (base:=base) (aR X G jX (pb λ_ _ _ _ _ _ _ _ _=>rfl)) T;have m:=zA (P:=l.prog) (w:=w) (base:=base) (aR X G mL (jS λ_ _ _ _ _ _ _ _=>rfl)) T;have n:=xt (P:=l.prog) (w:=w) (base:=base) (aR X G kZ (lM λ_ _ _ _ _ _ _=>rfl)) T;have d:=sR (P:=l.prog) (w:=w) (base:=base) (aR X G i4 (pd λ_ _ _ _ _ _ _ _ _ _=>rfl)) T;have p:=zy (aR X G mM (Qe λ_ _ _ _ _ _ _ _ _ _ _=>rfl)) T d;have q:=oN (c8 fY (pd λ_ _ _ _ _ _ _ _ _ _=>rfl)) T b e m n p;have d:=rA (P:=l.prog) (w:=w) (base:=base) (c8 ie (lM λ_ _ _ _ _ _ _=>rfl)) T;have b:=zx (P:=l.prog) (w:=w) (base:=base) (c8 mN (lM λ_ _ _ _ _ _ _=>rfl)) T;have e:=sU (c8 i5 (pb λ_ _ _ _ _ _ _ _ _=>rfl)) T a;have m:=sV (c8 i8 (jS λ_ _ _ _ _ _ _ _=>rfl)) T e;have n:=rE (c8 ig (jS λ_ _ _ _ _ _ _ _=>rfl)) T e;have p:=rH (c8 ij (pb λ_ _ _ _ _ _ _ _ _=>rfl)) T a;have r:=nB (c8 fB (pd λ_ _ _ _ _ _ _ _ _ _=>rfl)) T a p;have t:=p8 (c8 gz (pd λ_ _ _ _ _ _ _ _ _ _=>rfl)) T b r;have e:=oS (P:=l.prog) (w:=w) (base:=base) (c8 fZ (pd λ_ _ _ _ _ _ _ _ _ _=>rfl)) T;have p:=mx (c8 eY (jS λ_ _ _ _ _ _ _ _=>rfl)) T a;have r:=xH (c8 k6 (jS λ_ _ _ _ _ _ _ _=>rfl)) T p;have a:=sY (c8 i9 (pd λ_ _ _ _ _ _ _ _ _ _=>rfl)) T q d b m n t e r;have p:=j4 (P:=l.prog) (w:=w) (base:=base) (c8 ee (lM λ_ _ _ _ _ _ _=>rfl)) T;have m:=sQ (P:=l.prog) (w:=w) (base:=base) (c8 ja (lM λ_ _ _ _ _ _ _=>rfl)) T;have n:=TQ (vT X G HX HY HI K3 (jS λ_ _ _ _ _ _ _ _=>rfl)) T p m d b e;have q:=vE (aR X G jY (jS λ_ _ _ _ _ _ _ _=>rfl)) T a n;have e:=C9 (P:=l.prog) (w:=w) (base:=base) (c8 pG (lM λ_ _ _ _ _ _ _=>rfl)) T;have a:=rJ (P:=l.prog) (w:=w) (base:=base) (c8 ik (lM λ_ _ _ _ _ _ _=>rfl)) T;have l:=lL (aR X G eQ (lM λ_ _ _ _ _ _ _=>rfl)) T d b e a;have m:=oZ (aR X G gb (jS λ_ _ _ _ _ _ _ _=>rfl)) T l;have a:=yd (aR X G k7 (pb λ_ _ _ _ _ _ _ _ _=>rfl)) T q m;have b:=zP (aR X G mO (pd λ_ _ _ _ _ _ _ _ _ _=>rfl)) T a;exact P0 (lX ll lc lk) T c j k o i g b
theorem walk{l:W.OpenLaw}{q:Program}{a:List Str}{g:(Str->Option Value)->Heap->Prop}{c:World->Heap->Prop}{d:DefRec}{K:Params->W.Frag}(i:l.most=some 63)(j:d.params.defaults=[])
  (m:∀(w:World) (h:Heap),c w h->(K w.params).In h)
  (F:∀(w:World) (b:Str->Option Value) (e:Addr) (h:Heap),(K w.params).In h->h.Ns mainGlobals b->b d.name=some (.ref e)->
   ∃f:FuncData,(∀(s:Shared) (u:Value),BindsTo s f ⟨[u],[]⟩ [("_law_script",u)])/\∀base:Heap,(K w.params).In base->base.Ns mainGlobals b->lG l.prog w (K w.params) b base Ce 10 e f fh (vS (K w.params))):
  W.WalkO q a g c l.row.toRowW d [] (λf vs=>PySem.call f vs):=
 L2.Jz (n:=63) (k:=10) (x:="_law_script") (CX:=λ_=>Ce) (sp:=λw=>vS (K w.params)) i ∅ j ⟨rfl,∅,∅⟩ m F (λ_ _ a b c _ d=>⟨a,b,rfl,d,c,λ_=>rfl⟩) λ_ _ _ _ _ z=>z
end FO
end
namespace PySem.W.Fast
def tw3505761021056339886:=Nat
def tw4025508824540639069:=Nat
def tw7446134580499283380:=Nat
def tw7254219428391875327:=Nat
def tw6399416274739005775:=Nat
def tw14616670102502635384:=Nat
def tw2630996104959657054:=Nat
def tw17101729510317320307:=Nat
def tw10564240250448506347:=Nat
def tw4535592229469684393:=Nat
def tw1350381442925967767:=Nat
def tw9897652780597170962:=Nat
def tw278587059225356513:=Nat
def tw14845059640960433073:=Nat
def tw6422236758458866230:=Nat
def tw18134817802040980689:=Nat
def tw8203510827741352184:=Nat
def tw13959776159470875363:=Nat
def tw1034166989508732449:=Nat
def tw3619456988798443339:=Nat
def tw4283567269380265157:=Nat
def tw10607582380033614521:=Nat
def tw15952475620687403157:=Nat
def tw8301370949667144762:=Nat
def tw1347529141132730325:=Nat
def tw15789075395224702560:=Nat
def tw5934489417525087718:=Nat
def tw18184021484109600111:=Nat
def tw6839475894832642190:=Nat
def tw14001576443429709379:=Nat
def tw10390852111642626222:=Nat
def tw7198326220411196278:=Nat
def tw15569768768843171407:=Nat
def tw4211703402002662216:=Nat
def tw897388296501226255:=Nat
def tw15081299686265041511:=Nat
def tw202830868975966848:=Nat
def tw4947870815620784515:=Nat
def tw2724404146927654267:=Nat
def tw8829995947763342418:=Nat
def tw13270832326102693449:=Nat
def tw664661556435294709:=Nat
def tw8109924512134264896:=Nat
def tw7829219452574598610:=Nat
def tw6167363815290023794:=Nat
def tw11820787984829708654:=Nat
def tw18199745432338467938:=Nat
def tw17080656421104673366:=Nat
def tw110709995112946185:=Nat
def tw17369981469957468654:=Nat
def tw1654758729023588442:=Nat
def tw2713808292458761340:=Nat
def tw4748225872587410247:=Nat
def tw5335232511991340262:=Nat
def tw15378748538350594938:=Nat
def tw2698985298950825777:=Nat
def tw6199258356960221158:=Nat
def tw9886995458296016255:=Nat
def tw9928185420992248582:=Nat
def tw16349505751527833307:=Nat
def tw18371765647683965453:=Nat
def tw3554995629237452803:=Nat
def tw13448956259592390615:=Nat
def tw10415564048178047025:=Nat
def tw3894570727520320028:=Nat
def tw1516055168824994276:=Nat
def tw5781373864522343191:=Nat
def tw1655296215937623934:=Nat
def tw2383891363385738920:=Nat
def tw15039050095959304248:=Nat
def tw7768521920768637126:=Nat
def tw4857735653486444267:=Nat
def tw10348077623669940750:=Nat
def tw1066705109472788667:=Nat
def tw10441914304868678835:=Nat
def tw17647997583386891735:=Nat
def tw10177874419809203622:=Nat
def tw9850823095366639252:=Nat
def tw17627294205731623529:=Nat
def tw15046121133871187912:=Nat
def tw3347482137630669309:=Nat
def tw12106053541709831651:=Nat
def tw7357888557365961070:=Nat
def tw3786144138593580178:=Nat
def tw7427643937550367988:=Nat
def tw7673016379154236808:=Nat
def tw4864299169437494966:=Nat
def tw1977529115491604190:=Nat
def tw15365928701649216016:=Nat
def tw18141471922141207101:=Nat
def tw13758144252177550936:=Nat
def tw12905031655532365114:=Nat
def tw11233061445149478318:=Nat
def tw4884130402209106541:=Nat
def tw13605439266227521867:=Nat
def tw14380363198114598593:=Nat
def tw7380686287113009513:=Nat
def tw2817469656144077916:=Nat
def tw10082551613753998557:=Nat
def tw7585907280437280619:=Nat
def tw18173149965664652907:=Nat
def tw7750544742353204896:=Nat
def tw8234680876999076752:=Nat
def tw4621496177360942679:=Nat
def tw9012393894709856943:=Nat
def tw13679335012692415028:=Nat
def tw3678863161058420621:=Nat
def tw11664795282986756909:=Nat
def tw15497327925945811547:=Nat
def tw13080203369218816313:=Nat
def tw12715602331153223274:=Nat
def tw11631412432450897625:=Nat
def tw7142600866342317077:=Nat
def tw11574199937161286245:=Nat
def tw1415173322960135531:=Nat
def tw9563696012279576620:=Nat
def tw6745765913137890534:=Nat
def tw773324195845793264:=Nat
def tw3632993923014077491:=Nat
def tw5721383268478026143:=Nat
def tw14477527076766656178:=Nat
def tw13882924991171583677:=Nat
def tw3265614084487511656:=Nat
def tw6104342577068411723:=Nat
def tw11009275248215118839:=Nat
def tw7937035399756878216:=Nat
def tw6735028699567055319:=Nat
def tw10823629808810909301:=Nat
def tw10845504122446418600:=Nat
def tw14492314163387666169:=Nat
def tw6629039047920377514:=Nat
def tw9759482204086604339:=Nat
def tw661199633339706452:=Nat
def tw12338946273567022705:=Nat
def tw12328863268338515195:=Nat
def tw11218128113960749604:=Nat
def tw2186039054607438044:=Nat
def tw9185883932176206263:=Nat
def tw11993203018394370610:=Nat
def tw9008317907765000176:=Nat
def tw2538561634348404881:=Nat
def tw15090209223525749298:=Nat
def tw13534266252014498776:=Nat
def tw11753085832758171328:=Nat
def tw6726852259338170616:=Nat
def tw341793809093923725:=Nat
def tw11241214248628141910:=Nat
def tw12878008803926399548:=Nat
def tw9449257888563922632:=Nat
def tw11611099118046851297:=Nat
def tw12236161085655968995:=Nat
def tw10113545770608005817:=Nat
def tw10289257293673805185:=Nat
def tw11059536601729769590:=Nat
def tw6976088012762529471:=Nat
def tw7529093119824772186:=Nat
def tw9349417875621755974:=Nat
def tw13251772002111044570:=Nat
def tw8623180041180615326:=Nat
def tw7361774737505139467:=Nat
def tw10289816711830630716:=Nat
def tw962195877819960337:=Nat
def tw6200688677855853731:=Nat
def tw9243135963388610000:=Nat
def tw1903443667728339316:=Nat
def tw2418576355544119205:=Nat
def tw11106299765920689965:=Nat
def tw15963144611520906487:=Nat
def tw2233017444610097320:=Nat
def tw3492263580070972744:=Nat
def tw4426225616522884102:=Nat
def tw15145723661802714273:=Nat
def tw10702012390372644617:=Nat
def tw11610845198087718287:=Nat
def tw108664174988536354:=Nat
def tw7066276542679682614:=Nat
def tw18235046865980539720:=Nat
def tw1925117383567877225:=Nat
def tw10788347339446788798:=Nat
def tw13885169317204100551:=Nat
def tw14105557537591441681:=Nat
def tw1739571065441357498:=Nat
def tw17877926726981719416:=Nat
def tw16549344637774074305:=Nat
def tw1949185887689889372:=Nat
def tw13474253703966216598:=Nat
def tw549520937425472364:=Nat
def tw13073286709239123844:=Nat
def tw16907662185924404658:=Nat
def tw5297697044528928108:=Nat
def tw746588330159270440:=Nat
def tw590384078052758340:=Nat
def tw9619855374143560110:=Nat
def tw5521235373277351390:=Nat
def tw16682586062852310431:=Nat
def tw8207764466191097969:=Nat
def tw2692313163620397873:=Nat
def tw2246125393296069191:=Nat
def tw13687717356490301063:=Nat
def tw11408578281666427496:=Nat
def tw13010733239813101369:=Nat
def tw2749867796762480356:=Nat
def tw16126237120745692639:=Nat
def tw87735517680964938:=Nat
def tw4243630319845349912:=Nat
def tw16249684973861209418:=Nat
def tw9241385912874481116:=Nat
def tw4717421967433230545:=Nat
def tw12372312506914964847:=Nat
def tw1279047513710983522:=Nat
def tw6751760209144628700:=Nat
def tw13607312968622630865:=Nat
def tw5279623912594079725:=Nat
def tw4167691681092209641:=Nat
def tw17106749948547325129:=Nat
def tw11683669400495376767:=Nat
def tw57578092633630847:=Nat
def tw7575606687780365769:=Nat
def tw7050121525380906600:=Nat
def tw12482991336508046483:=Nat
def tw14979533270038525467:=Nat
def tw15718170528531466456:=Nat
def tw4463633790766659401:=Nat
def tw13220578306345273515:=Nat
def tw2425045537798817415:=Nat
def tw11554807797354005788:=Nat
def tw495082008896985273:=Nat
def tw14980790242649206552:=Nat
def tw6949048271822529569:=Nat
def tw5057227124480614508:=Nat
def tw6977324227469874483:=Nat
def tw12210163530858474402:=Nat
def tw1494859626835215472:=Nat
def tw4904950026976284550:=Nat
def tw685804945414686607:=Nat
def tw11336172955479141698:=Nat
def tw16935026908946809777:=Nat
def tw11326670106146124779:=Nat
def tw2169452484367513239:=Nat
def tw3277376274330256127:=Nat
def tw4977479081135768775:=Nat
def tw16021703472583755138:=Nat
def tw5412962537297401311:=Nat
def tw5406566367325276660:=Nat
def tw28696272238984582:=Nat
def tw10644224578226826030:=Nat
def tw3967296919453747691:=Nat
def tw11101520724482206051:=Nat
def tw630553045665791297:=Nat
def tw9547567014569005636:=Nat
def tw13261499999826795726:=Nat
def tw8252083029292203904:=Nat
def tw15818955981428986790:=Nat
def tw6784713902856276456:=Nat
def tw11420540186517490706:=Nat
def tw14876994914112049434:=Nat
def tw15219088854802503909:=Nat
def tw927356051291538320:=Nat
def tw11774926028277023259:=Nat
def tw4576850682715344700:=Nat
def tw6514726425248879589:=Nat
def tw11664814315796871499:=Nat
def tw12068469724439429756:=Nat
def tw12292250479332099508:=Nat
def tw14752851165150601881:=Nat
def tw11887333931123530078:=Nat
def tw6397097196493850676:=Nat
def tw17253260708168481288:=Nat
def tw15244772802852512181:=Nat
def tw8509110618207954975:=Nat
def tw15151406114039574473:=Nat
def tw13117292397940220182:=Nat
def tw7799443546822951633:=Nat
def tw5520314860405435723:=Nat
def tw13022489558031841937:=Nat
def tw11189897977922802653:=Nat
def tw7390656753023321885:=Nat
def tw14588619916046095664:=Nat
def tw14288924312740957824:=Nat
def tw7073508453309744672:=Nat
def tw13403660871133862159:=Nat
def tw14212156254515235733:=Nat
def tw16465847483986207826:=Nat
def tw3410163745117334746:=Nat
def tw3126674258540616377:=Nat
def tw17388105193455982427:=Nat
def tw4275629397394275187:=Nat
def tw5521794312559721453:=Nat
def tw14591562478237112919:=Nat
def tw17046378757496115171:=Nat
def tw14025283770674399014:=Nat
def tw2724760189584017813:=Nat
def tw3697738110598405921:=Nat
def tw10340685488200543984:=Nat
def tw13977344542152660407:=Nat
def tw7396988270426040444:=Nat
def tw619032609467721496:=Nat
def tw14473315720245225901:=Nat
def tw4108192844742352960:=Nat
def tw16217689525600265105:=Nat
def tw13292397857686674734:=Nat
def tw4325834619162576686:=Nat
def tw16785797556270087137:=Nat
def tw9405952541405752688:=Nat
def tw5314478959426619925:=Nat
def tw4101035260060984446:=Nat
def tw18025795313446669019:=Nat
def tw15813033023313205891:=Nat
def tw7571509982302945832:=Nat
def tw9695939512645976791:=Nat
def tw10661328185888143050:=Nat
def tw7108775776697214714:=Nat
def tw5188359739424756939:=Nat
def tw11490883815457404695:=Nat
def tw8930007574059275736:=Nat
def tw12394477256703464667:=Nat
def tw3775614034417152366:=Nat
def tw12980710787928449902:=Nat
def tw4621960522857438498:=Nat
def tw11594047555994862569:=Nat
def tw1248574219304977718:=Nat
def tw10288072627426075013:=Nat
def tw11202747088956025405:=Nat
def tw5911595403418682053:=Nat
def tw1291681549516276623:=Nat
def tw2132947372855341015:=Nat
def tw3212285248658709423:=Nat
def tw6371313965145429272:=Nat
def tw4079577522417566644:=Nat
def tw13968622100174678273:=Nat
def tw17169403192849678482:=Nat
def tw9134892283085452754:=Nat
def tw13941118118839267924:=Nat
def tw14836454231071823742:=Nat
def tw10633879827544729154:=Nat
def tw12753219942217630976:=Nat
def tw4268932493609751321:=Nat
def tw8686782920501772207:=Nat
def tw9007847643998263634:=Nat
def tw6726114203923778583:=Nat
def tw9529770766381692508:=Nat
def tw15180936969261158927:=Nat
def tw2915146864249497692:=Nat
def tw11082964661054523890:=Nat
def tw17486355050533239176:=Nat
def tw850020170906791130:=Nat
def tw8291999124538495912:=Nat
def tw2481056642306800028:=Nat
def tw3632772791393925955:=Nat
def tw714381030883726123:=Nat
def tw3820140927536366034:=Nat
def tw2862532549587744623:=Nat
def tw182328724826696581:=Nat
def tw3104848996258155658:=Nat
def tw1295605627159535004:=Nat
def tw8148770878922898046:=Nat
def tw4966967941505831869:=Nat
def tw7261126801347046219:=Nat
def tw13435837360022216134:=Nat
def tw18182685193234238685:=Nat
def tw8984909326632244295:=Nat
def tw12399870340197230627:=Nat
def tw7897108619292665068:=Nat
def tw16825569007181873591:=Nat
def tw3500216557010360952:=Nat
def tw15679639780594078878:=Nat
def tw15157322166937142288:=Nat
def tw5562457915613901540:=Nat
def tw13209634982565597443:=Nat
def tw8446303562098391841:=Nat
def tw13007840395137783949:=Nat
def tw1490527181010784628:=Nat
def tw12512616096053203946:=Nat
def tw16590400845274955346:=Nat
def tw12457328795036933344:=Nat
def tw15967672093024889281:=Nat
def tw15770522480450020976:=Nat
def tw14182211559568101734:=Nat
def tw8543151554188820438:=Nat
def tw8197753873818132303:=Nat
def tw1099799233155030525:=Nat
def tw12718397055110345654:=Nat
def tw15681151205299513466:=Nat
def tw15483959109284305048:=Nat
def tw13001613472442742710:=Nat
def tw4591677709610757593:=Nat
def tw6711308411400563654:=Nat
def tw18275257336211228138:=Nat
def tw491712780615376023:=Nat
def tw3259244577028402298:=Nat
def tw10446183470353426144:=Nat
def tw13168303073235732384:=Nat
def tw2921735863449838439:=Nat
def tw10571404438852228745:=Nat
def tw6861985152217622494:=Nat
def tw16302069642160477116:=Nat
def tw3887593269409968314:=Nat
def tw854620047071074170:=Nat
def tw15907576580226974477:=Nat
def tw3758223901463751901:=Nat
def tw16465356203055839950:=Nat
def tw13975864619038232512:=Nat
def tw5833492421300360329:=Nat
def tw6858626403651873535:=Nat
def tw7364500744963189187:=Nat
def tw665689353773133387:=Nat
def tw16629185862890329333:=Nat
def tw11498238504977536795:=Nat
def tw6144278006401062934:=Nat
def tw6484785158119828381:=Nat
def tw14075332536559264918:=Nat
def tw9243443562653248745:=Nat
def tw2827647502258359388:=Nat
def tw13686576558499858176:=Nat
def tw12063605161414055100:=Nat
def tw2986098188566740974:=Nat
def tw7643663174224034219:=Nat
def tw11963846884535056580:=Nat
def tw17871266103893957007:=Nat
def tw8917199714518257309:=Nat
def tw11605442689569754949:=Nat
def tw5003182191239686153:=Nat
def tw128654365772884983:=Nat
def tw16136503890148865538:=Nat
def tw15523269890723966739:=Nat
def tw3914548542631620256:=Nat
def tw11519768377739450229:=Nat
def tw12186650799607101905:=Nat
def tw3425139947294255893:=Nat
def tw3172012564193389057:=Nat
def tw17773420935456079402:=Nat
def tw10971483921773115376:=Nat
def tw1393194685251839145:=Nat
def tw5181533269788149757:=Nat
def tw13902481300187491648:=Nat
def tw4381238533279317653:=Nat
def tw16264905403884343421:=Nat
def tw6344212826061679184:=Nat
def tw2045521535547347321:=Nat
def tw12941288922411182230:=Nat
def tw558015504064805053:=Nat
def tw5951800647113817448:=Nat
def tw15217082183829548973:=Nat
def tw10443242927927242838:=Nat
def tw5021669749847859628:=Nat
def tw8865973387671122259:=Nat
def tw13717363543303250633:=Nat
def tw6586940292852053535:=Nat
def tw2155335614003546189:=Nat
def tw8894828279410536172:=Nat
def tw10435547624359437747:=Nat
def tw14079060626507425016:=Nat
def tw5667542940142672760:=Nat
def tw6460184870075618248:=Nat
def tw14009409089316368732:=Nat
def tw13343976579282236667:=Nat
end PySem.W.Fast
open PySem PySem.W PyProof.Rows
local macro_rules | `(tactic| walk_at "d") => `(tactic| first | exact FO.Mq (by k_is) (by k_is) (by k_is) (by k_is) | (refine' FO.Mq ?a ?l ?c ?k; (case a => k_is); (case l => k_is); (case c => k_is); (case k => k_is)))
local macro_rules | `(tactic| walk_at "m") => `(tactic| first | exact FO.Mr (by k_is) (by k_is) (by k_is) (by k_is) (by k_is) | (refine' FO.Mr ?a ?i ?l ?c ?k; (case a => k_is); (case i => k_is); (case l => k_is); (case c => k_is); (case k => k_is)))
set_option maxRecDepth 100000 in
set_option maxHeartbeats 0 in
theorem PySem.Challenge.cw_cutrestore_k34_whole_alike_by_rows_holds : PySem.Challenge.rw_cutrestore_k34_whole_alike_by_rows.Holds := by
 w_on;o_law;k_head;(case hw=>w_witness2)
 k_fill
 refine FO.walk (l:=PySem.Challenge.rw_cutrestore_k34_whole_alike_by_rows) rfl rfl (λw h Y=>W.kIn_of Y) ?F
 case F=>
  intro w mg fa h KX G R0;refine' FO.all_mk KX G R0 ?nR ?K2 ?K3 ?rY ?eP ?pf ?kR ?kS ?mG ?iZ ?ph ?pw ?pA ?mH ?kT ?mI ?pB ?pC ?ib ?pD ?i3 ?fW ?pE ?kU ?rZ ?jT ?HH ?ic ?kW ?kX ?mJ ?kY ?jU ?mK ?pF ?gy ?jV ?jW ?fX ?jX ?mL ?kZ ?i4 ?mM ?fY ?ie ?mN ?i5 ?i8 ?ig ?ij ?fB ?gz ?fZ ?eY ?k6 ?i9 ?ee ?ja ?HI ?jY ?pG ?ik ?eQ ?gb ?k7 ?mO ?HJ ?pH ?pJ ?pK ?pL ?pM ?pN ?CC ?CF ?Lw ?Ol ?Lx ?HK ?HL ?HM ?HN ?HQ ?HR ?FU ?FV ?xc ?xf ?zh ?HS ?HU ?HV ?HW ?HX ?HY ?FW ?FX ?cB ?cG ?bZ ?dN ?cH ?bT ?eV ?de ?CG ?uh ?jZ ?HZ ?zQ ?Ia ?vU ?zR ?Ib ?vV ?Ic ?Ie ?Ig ?Ih ?Ii ?k8 ?j0 ?r6 ?dJ ?dA ?dB ?eU ?cU ?e9 ?dC ?dM ?aF ?lF ?neF ?lP0 ?lP1 ?lP2 ?lP3 ?lP4 ?lP5 ?lP6 ?lP7
  (case nR|K2|K3=>k_is)
  (case rY|eP|pf|kR|kS|mG|iZ|ph|pw|pA|mH|kT|mI|pB|pC|ib|pD|i3|fW=>walk_at "d")
  (case pE=>walk_at "m")
  (case kU|rZ|jT=>walk_at "d")
  (case HH=>walk_at "m")
  (case ic|kW|kX|mJ|kY|jU|mK|pF|gy|jV|jW|fX|jX|mL|kZ|i4|mM=>walk_at "d")
  (case fY|ie|mN|i5|i8|ig|ij|fB|gz|fZ|eY|k6|i9|ee|ja|HI=>walk_at "m")
  (case jY=>walk_at "d")
  (case pG|ik=>walk_at "m")
  (case eQ|gb|k7|mO|HJ=>walk_at "d")
  (case pH|pJ|pK|pL|pM|pN|CC|CF|Lw|Ol|Lx|HK|HL|HM|HN|HQ|HR|FU|FV|xc|xf|zh|HS|HU|HV|HW|HX|HY|FW|FX|cB|cG|bZ|dN|cH|bT|eV|de|CG|uh|jZ|HZ|zQ|Ia|vU|zR|Ib|vV|Ic|Ie|Ig|Ih|Ii|k8|j0|r6|dJ|dA|dB|eU|cU|e9|dC|dM|aF|lF=>k_is)
  (case neF=>first|rfl|decide)
  (case lP0|lP1|lP2|lP3|lP4|lP5|lP6|lP7=>k_is)
