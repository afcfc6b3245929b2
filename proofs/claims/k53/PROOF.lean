import PyProof.Rows.All
import Wide.All
import OpenK.AllK
import Wide.FinOn
import Lean
import PyProof.EqAt
import PyProof.EqKinds
import PyProof.TupleCall
import PyProof.NeKinds
import PyProof.Rows.Range3
import KE.KIsAll
import PyProof.ExcClass3
import PyProof.InstStoreFacts
import PyProof.ExcArgsOwn
import PyProof.ExcBaseAll.ValueError
import PyProof.ExcAttrAll.ValueError
import PyProof.Draws
import PyProof.ZipIter
import PyProof.SumWalk
import PyProof.Rows.FactsT2
import PyProof.EnumMake
import PyProof.Rows.EnumRows
import KE.KTab
import PyProof.StationsW
import PyProof.RulesAs
import PyProof.NsDelKeeps
import PyProof.PassesOwn
import PyProof.Rows.ListMulArg
import PyProof.StrWalks
import PyProof.MeetsStr
import PyProof.MeetsStr2
import PyProof.StrBlockL
import PyProof.SliceStr2
import PyProof.StrLawsIdx
import PyProof.FitsStr
import PyProof.StrLaws
import PyProof.Rows.FStr
import KE.KIntText
import PyProof.StrLawsTight
import PyProof.Rows.StrIntSpec
import PyProof.Rows.CountFlat
import PyProof.Rows.SeqMore2
import PyProof.SeqRoads
import PyProof.StrLawsAffix
import PyProof.InstEq
import KE.KSortTup
import PyProof.DictUpdate
import PyProof.DictWalks
import KE.KDictList
import PyProof.FactsAll.NoneType_1
import Wide.Seal
import PyProof.WalkInts
import PyProof.Rows.CallKwBuiltin
import KE.KMinKey
import PyProof.ListRange
import PySem.Challenge.RW_cutrestore_k53_whole_each_later_choice
set_option compiler.extract_closed false
set_option Elab.async false
set_option linter.all false
set_option maxRecDepth 100000
theorem L2.fo{p:Prop}(h:∀g:Prop,(p->g)->g):p:=h p id
theorem L2.yo1{A:Sort _}{p:A->Prop}{z:Prop}(h:∃a,p a)(y:∀a,p a->z):z:=h.elim λa x=>y a x
theorem L2.yo2{A B:Sort _}{p:A->B->Prop}{z:Prop}(h:∃a b,p a b)(y:∀a b,p a b->z):z:=h.elim λa x=>x.elim λb x=>y a b x
theorem L2.yo3{A B C:Sort _}{p:A->B->C->Prop}{z:Prop}(h:∃a b c,p a b c)(y:∀a b c,p a b c->z):z:=h.elim λa x=>x.elim λb x=>x.elim λc x=>y a b c x
theorem L2.yo4{A B C D:Sort _}{p:A->B->C->D->Prop}{z:Prop}(h:∃a b c d,p a b c d)(y:∀a b c d,p a b c d->z):z:=h.elim λa x=>x.elim λb x=>x.elim λc x=>x.elim λd x=>y a b c d x
theorem L2.yo5{A B C D E:Sort _}{p:A->B->C->D->E->Prop}{z:Prop}(h:∃a b c d e,p a b c d e)(y:∀a b c d e,p a b c d e->z):z:=h.elim λa x=>x.elim λb x=>x.elim λc x=>x.elim λd x=>x.elim λe x=>y a b c d e x
theorem L2.yo6{A B C D E F:Sort _}{p:A->B->C->D->E->F->Prop}{z:Prop}(h:∃a b c d e f,p a b c d e f)(y:∀a b c d e f,p a b c d e f->z):z:=h.elim λa x=>x.elim λb x=>x.elim λc x=>x.elim λd x=>x.elim λe x=>x.elim λf x=>y a b c d e f x
theorem L2.yo7{A B C D E F G:Sort _}{p:A->B->C->D->E->F->G->Prop}{z:Prop}(h:∃a b c d e f g,p a b c d e f g)(y:∀a b c d e f g,p a b c d e f g->z):z:=h.elim λa x=>x.elim λb x=>x.elim λc x=>x.elim λd x=>x.elim λe x=>x.elim λf x=>x.elim λg x=>y a b c d e f g x
theorem L2.yo8{A B C D E F G H:Sort _}{p:A->B->C->D->E->F->G->H->Prop}{z:Prop}(h:∃a b c d e f g h,p a b c d e f g h)(y:∀a b c d e f g h,p a b c d e f g h->z):z:=h.elim λa x=>x.elim λb x=>x.elim λc x=>x.elim λd x=>x.elim λe x=>x.elim λf x=>x.elim λg x=>x.elim λh x=>y a b c d e f g h x
theorem L2.ya2{A B y:Prop}(h:A/\B)(x:A->B->y):y:=x h.1 h.2
theorem L2.ya3{A B C y:Prop}(h:A/\B/\C)(x:A->B->C->y):y:=x h.1 h.2.1 h.2.2
theorem L2.ya4{A B C D y:Prop}(h:A/\B/\C/\D)(x:A->B->C->D->y):y:=x h.1 h.2.1 h.2.2.1 h.2.2.2
theorem L2.ya5{A B C D E y:Prop}(h:A/\B/\C/\D/\E)(x:A->B->C->D->E->y):y:=x h.1 h.2.1 h.2.2.1 h.2.2.2.1 h.2.2.2.2
theorem L2.ya6{A B C D E F y:Prop}(h:A/\B/\C/\D/\E/\F)(x:A->B->C->D->E->F->y):y:=x h.1 h.2.1 h.2.2.1 h.2.2.2.1 h.2.2.2.2.1 h.2.2.2.2.2
theorem L2.ya7{A B C D E F G y:Prop}(h:A/\B/\C/\D/\E/\F/\G)(x:A->B->C->D->E->F->G->y):y:=x h.1 h.2.1 h.2.2.1 h.2.2.2.1 h.2.2.2.2.1 h.2.2.2.2.2.1 h.2.2.2.2.2.2
theorem L2.ya8{A B C D E F G H y:Prop}(h:A/\B/\C/\D/\E/\F/\G/\H)(x:A->B->C->D->E->F->G->H->y):y:=x h.1 h.2.1 h.2.2.1 h.2.2.2.1 h.2.2.2.2.1 h.2.2.2.2.2.1 h.2.2.2.2.2.2.1 h.2.2.2.2.2.2.2
theorem L2.ya9{A B C D E F G H I y:Prop}(h:A/\B/\C/\D/\E/\F/\G/\H/\I)(x:A->B->C->D->E->F->G->H->I->y):y:=x h.1 h.2.1 h.2.2.1 h.2.2.2.1 h.2.2.2.2.1 h.2.2.2.2.2.1 h.2.2.2.2.2.2.1 h.2.2.2.2.2.2.2.1 h.2.2.2.2.2.2.2.2
section
set_option hygiene false
local macro_rules | `(tactic| calc $e:term) => `(tactic| refine $e)
local macro_rules | `(tactic| lia) => `(tactic| first | with_reducible assumption | exact Nat.zero_le _ | exact Nat.le_refl _ | (refine Nat.le_of_lt ?_; with_reducible assumption) | (refine Nat.lt_succ_of_le ?_; with_reducible assumption) | (refine Int.ofNat_lt.mpr ?_; with_reducible assumption) | (refine Eq.symm ?_; with_reducible assumption) | omega)
local macro_rules | `(tactic| obtain $p:rcasesPatMed := $e:term) => `(tactic| (refine L2.fo λgZ hZ => ?_; rcases $e:term with $p:rcasesPatMed) <;> (refine hZ ?_; clear hZ gZ))
local macro_rules
 | `(tactic| obtain ⟨$ps,*⟩ := $e:term) => do
  let q := ps.getElems
  let n := q.size
  let k0 ← `(tactic| skip)
  let i : Lean.Ident := ⟨e.raw⟩
  let ce ← if e.raw.isIdent then `(tactic| try clear $i:ident) else pure k0
  let mut xs := #[]
  let mut re := #[]
  for p in q do
    let a := p.raw[0][0]
    let x := a[0][0]
    let z := Lean.mkIdent (.num `z_ xs.size)
    let b := x.isIdent && a.getNumArgs == 1 && x.getId != `rfl
    let r ← `(tactic| rcases $z:ident with $p:rcasesPatLo)
    xs := xs.push (if b then ⟨x⟩ else z)
    re := re.push (if b then k0 else r)
  let mut t ← `(tactic| rcases $e:term with ⟨$q,*⟩)
  for m in [2:n+n] do
    let c := if m ≤ n then m - 1 else m - n
    let l := Lean.mkIdent (.str `L2 (if m ≤ n then s!"ya{m}" else s!"yo{c}"))
    let w := q[c:].toArray
    let w ← `(tactic| obtain ⟨$w,*⟩ := zH)
    let f := n ≤ c + 1
    let y := if f then xs else xs[:c].toArray.push (Lean.mkIdent `zH)
    let r := if f then re else re[:c].toArray.push w
    t ← `(tactic| first | (refine $l $e ?_; ($ce:tactic); intro $y*; $[$r]*) | $t:tactic)
  if e.raw.getId == `zH then return t
  `(tactic| (refine L2.fo λgZ hZ => ?_; $t:tactic) <;> (refine hZ ?_; clear hZ gZ))
local macro_rules | `(tactic| nofun) => `(tactic| refine L2.fo λgZ hZ => ?_)
local macro_rules | `(tactic| ac_rfl) => `(tactic| (refine hZ ?_; clear hZ gZ))
local macro_rules | `(()) => `(by lia)
local macro_rules | `(∅) => `(by decide)
local macro_rules | `(⋯) => `(by decide +kernel)
local macro_rules | `(nofun) => `(by simp)
local macro_rules | `(Sort) => `(by grind)
set_option hygiene true
set_option hygiene false
local macro_rules | `(tactic| grind) => `(tactic| first | exact Or.inl rfl | exact Or.inr rfl | assumption)
local macro_rules | `(tactic| symm) => `(tactic| (refine D.ok sc (λvs H Q E h => ?_) (λf gQ A outer s H vs Q E hr h => ?_); (first | (cases h; subst_vars; rfl) | ((repeat rcases h with ⟨_, h⟩) <;> subst_vars <;> rfl))))
local macro_rules
 | `(tactic| walk_at "xc") => `(tactic| (refine ⟨?_⟩; intro pins s σ H Q I h))
 | `(tactic| walk_at "xd") => `(tactic| (refine ⟨?_⟩; intro pins s σ H D I h))
 | `(tactic| walk_at "xf") => `(tactic| refine ⟨Ext.set (Ext.refl _) rfl, ?_⟩)
 | `(tactic| walk_at "xg") => `(tactic| refine L2.kd λN1 h1 => ?_)
set_option hygiene true
abbrev yD:= @PyProof.Rows.boot_isinstance
abbrev zA2:= @PyProof.Rows.boot_int
abbrev o7:= @PySem.F.plainAttrs_list
abbrev rB:= @PySem.F.slot_list_append
abbrev rC:= @PySem.F.type_list_append
abbrev sC:= @PyProof.Rows.boot_tuple
abbrev wV:= @PyProof.Rows.boot_list
abbrev GJ:= @PyProof.Rows.boot_all
section
open PySem
abbrev A':= @List.getElem?_map
abbrev E':= @wpAny_bind
abbrev F':= @Nat.le_refl
abbrev J':= @Nat.le_of_lt
abbrev K':= @Heap.get?_push_of_some
abbrev L':= @List.getD_eq_getElem?_getD
abbrev M':= @List.length_map
abbrev P':= @wpAny_pure
abbrev R':= @Bool.false_ne_true
abbrev S':= @PySem.boot_len
abbrev T':= @Heap.lt_size
abbrev U':= @List.map_append
abbrev V':= @List.getElem?_append_right
abbrev W':= @List.getElem?_append_left
abbrev X':= @Nat.lt_of_lt_of_le
abbrev Y':= @Heap.get?_push_size
abbrev aaa:= @List.mem_cons_self
abbrev aai:= @List.mem_cons_of_mem
abbrev aaj:= @Nat.zero_le
abbrev aak:= @List.size_toArray
abbrev aal:= @Nat.ne_of_lt
abbrev aam:= @List.append_nil
abbrev aan:= @List.mem_of_getElem?
abbrev aao:= @Int.toNat_natCast
abbrev aap:= @PySem.mem_of_lookup
abbrev aaq:= @Nat.le_trans
abbrev aar:= @decide_eq_true
abbrev aas:= @List.length_append
abbrev aat:= @List.take_length
abbrev aau:= @List.mem_append_right
abbrev aav:= @of_decide_eq_true
abbrev aaw:= @List.getElem_mem
abbrev aax:= @sizeLine_eq
abbrev aay:= @decide_eq_false
abbrev aaz:= @Heap.size_push
abbrev aaA:= @Nat.ne_of_gt
abbrev aaB:= @List.length_take
abbrev aaC:= @W.mg_none_of
abbrev aaD:= @Array.getD_eq_getD_getElem?
abbrev aaE:= @wpAny_mono
abbrev aaF:= @True.intro
abbrev aaG:= @List.take_of_length_le
abbrev aaH:= @List.take_add_one
abbrev aaI:= @wpAny_field
abbrev aaJ:= @Int.eq_ofNat_of_zero_le
abbrev aaK:= @False.elim
abbrev aaL:= @List.length_cons
abbrev aaM:= @Nat.lt_irrefl
abbrev aaN:= @List.map_cons
abbrev aaO:= @wpAny_seqItems
abbrev aaP:= @wpAny_pyIter_tuple
abbrev aaQ:= @Int.emod_lt_of_pos
abbrev aaR:= @List.filter_append
abbrev aaS:= @wpAny_holding
abbrev aaT:= @List.replicate_succ'
abbrev aaU:= @List.take_succ
abbrev aaV:= @wpAny_callSpecial?_slot
abbrev aaW:= @wpAny_truthy_bool
abbrev aaX:= @Nat.not_lt_zero
abbrev aaY:= @List.mem_filter
abbrev aaZ:= @Int.toNat_of_nonneg
abbrev aa0:= @wpAny_call_entry
abbrev aa1:= @Bool.and_eq_true
abbrev aa2:= @Nat.le_add_right
abbrev aa3:= @List.length_singleton
abbrev aa4:= @Nat.lt_of_le_of_lt
abbrev aa5:= @PyProof.Rows.slot_tuple_getitem
abbrev aa6:= @Int.emod_nonneg
abbrev aa7:= @wpAny_newObj_type
abbrev aa8:= @wpAny_pyIter_list
abbrev aa9:= @Heap.get?_push_ne
abbrev aba:= @List.length_drop
abbrev abb:= @List.mem_range
abbrev abc:= @F.plain_max_loop
end
namespace L2
open PySem PySem.Spec PyProof.Rows
section
theorem cD{α:Type _}{l:List α}{i:Nat}(h:i<l.length):l[i]?=some l[i]:=List.getElem?_eq_getElem h
abbrev Key:=Sum Int Str
def sX:Key->Value->Bool
 | .inl k,v=>Value.isInt k v
 | .inr x,v=>Value.isStrOf x v
def abI(w:World):Key->Int
 | .inl k=>hashInt k
 | .inr x=>hashStr w x
theorem cY:∀{k:Key}{v:Value},sX k v=true->(∃i t,k=Sum.inl i/\v=Value.int i t)\/(∃x t,k=Sum.inr x/\v=Value.str x t)
 | .inl i,v,h=>by
  obtain⟨t,e⟩:=Value.isInt_shape (k:=i) (v:=v) h;calc .inl ⟨i,t,rfl,e⟩
 | .inr x,v,h=>by
  obtain⟨t,e⟩:=Value.isStrOf_shape (x:=x) (v:=v) h;calc .inr ⟨x,t,rfl,e⟩
theorem EF(i:Int)(t:Tok):sX (.inl i) (.int i t)=true:=by simp[sX,Value.isInt]
theorem EG(x:Str)(t:Tok):sX (.inr x) (.str x t)=true:=by simp[sX,Value.isStrOf]
theorem QK(a b:Int):decide ((Sum.inl a:Key)=Sum.inl b)=(a==b):=by
 by_cases e:a=b
 ·subst e;simp
 ·have h:¬(Sum.inl a:Key)=Sum.inl b:=λq=>e (Sum.inl.inj q);rw[aay h];calc(beq_eq_false_iff_ne.mpr e).symm
theorem QL(a b:Str):decide ((Sum.inr a:Key)=Sum.inr b)=decide (a=b):=by
 by_cases e:a=b
 ·subst e;simp
 ·have h:¬(Sum.inr a:Key)=Sum.inr b:=λq=>e (Sum.inr.inj q);rw[aay h,aay e]
theorem QM(a:Int)(b:Str):decide ((Sum.inl a:Key)=Sum.inr b)=false:=aay (λq=>nomatch q)
theorem QN(a:Str)(b:Int):decide ((Sum.inr a:Key)=Sum.inl b)=false:=aay (λq=>nomatch q)
def dF(prog:Program)(w:World):PySem.KeyKind prog w Key where
 is:=sX
 hash:=abI w
 inj:=λv a b f d=>by
  rcases cY f with⟨i,t,rfl,rfl⟩|⟨x,t,rfl,rfl⟩
  ·rcases cY d with⟨j,u,rfl,e⟩ | ⟨y,u,rfl,e⟩
   ·injection e with e1 _;rw[e1]
   ·exact nomatch e
  ·rcases cY d with⟨j,u,rfl,e⟩ | ⟨y,u,rfl,e⟩
   ·exact nomatch e
   ·injection e with e1 _;rw[e1]
 byValue:=λk v h=>by
  rcases cY h with⟨i,t,rfl,rfl⟩|⟨x,t,rfl,rfl⟩<;>rfl
 pyHash:=λc h=>by
  rcases cY c with⟨i,t,rfl,rfl⟩|⟨x,t,rfl,rfl⟩
  ·exact wpAny_pyHash_int h
  ·exact wpAny_pyHash_str h
 eqBool:=λg c h=>by
  rcases cY g with⟨i,t,rfl,rfl⟩|⟨x,t,rfl,rfl⟩
  ·rcases cY c with⟨j,u,rfl,rfl⟩ | ⟨y,u,rfl,rfl⟩
   ·rw[QK]at h;exact wpAny_eqBool_int h
   ·rw[QM]at h;exact SeqAt.EqAt.int_str i t y u _ _ _ _ h
  ·rcases cY c with⟨j,u,rfl,rfl⟩ | ⟨y,u,rfl,rfl⟩
   ·rw[QN]at h;exact SeqAt.EqAt.str_int x t j u _ _ _ _ h
   ·rw[QL]at h;exact wpAny_eqBool_str h
 «strs»:=λk x t v h=>by
  rcases cY h with⟨i,u,rfl,e⟩|⟨y,u,rfl,e⟩
  ·exact nomatch e
  ·injection e with e1 _
   subst e1
   cases v<;>rfl
theorem AZ(prog:Program)(w:World)(k:Key)(v:Value):(dF prog w).is k v=sX k v:=rfl
theorem yJ(prog:Program)(w:World)(i:Int)(t:Tok):(dF prog w).is (.inl i) (.int i t)=true:=EF i t
theorem yK(prog:Program)(w:World)(x:Str)(t:Tok):(dF prog w).is (.inr x) (.str x t)=true:=EG x t
end
section
variable {a b:Addr}{H:Hp}
inductive V where
 |bL|bl (b:Bool)|int (i:Int)|str (x:Str)|CB (b:Array UInt8)|OL (b:UInt64)|ref (a:Addr)|ty (n:String)
 deriving DecidableEq
def RelV:V->Value->Prop
 | .bL,u=>u=Value.none
 | .bl b,u=>u=Value.bool b
 | .int i,u=>∃t,u=Value.int i t
 | .str x,u=>∃t,u=Value.str x t
 | .CB b,u=>∃t,u=Value.bytes b t
 | .OL b,u=>∃t,u=Value.float b t
 | .ref a,u=>u=Value.ref a
 | .ty n,u=>u=Value.type n
abbrev Vals:List V->List Value->Prop:=Paired RelV
theorem Vals.length{xs:List V}{us:List Value}(r:Vals xs us):xs.length=us.length:=Paired.length r
theorem Vals.get:∀{xs:List V}{us:List Value}{i:Nat}{x:V},Vals xs us->xs[i]?=some x->∃u,us[i]?=some u/\RelV x u
 |_,_,_,_,.nil,e=>by simp at e
 |_,_,0,_,.cons r _,e=>by simp at e;subst e;calc⟨_,rfl,r⟩
 |_,_,i+1,x,.cons _ t,e=>by
  obtain⟨u,a,b⟩:=Vals.get (i:=i) (x:=x) t (by simpa using e);calc⟨u,by simpa using a,b⟩
theorem Vals.set{x:V}{u:Value}(r:RelV x u):∀{xs:List V}{us:List Value}(i:Nat),Vals xs us->Vals (xs.set i x) (us.set i u)
 |_,_,_,.nil=>.nil
 |_,_,0,.cons _ t=>.cons r t
 |_,_,i+1,.cons q t=>.cons q (Vals.set r i t)
theorem Vals.append:∀{xs a:List V}{us ws:List Value},Vals xs us->Vals a ws->Vals (xs++a) (us++ws)
 |_,_,_,_,.nil,s=>s
 |_,_,_,_,.cons r t,s=>.cons r (Vals.append t s)
theorem Vals.take:∀{xs:List V}{us:List Value}(n:Nat),Vals xs us->Vals (xs.take n) (us.take n)
 |_,_,0,_=>.nil
 |_,_,_+1,.nil=>.nil
 |_,_,n+1,.cons r t=>.cons r (Vals.take n t)
theorem Vals.drop:∀{xs:List V}{us:List Value}(n:Nat),Vals xs us->Vals (xs.drop n) (us.drop n)
 |_,_,0,r=>r
 |_,_,_+1,.nil=>.nil
 |_,_,n+1,.cons _ t=>Vals.drop n t
theorem Vals.none_of:∀{xs:List V}{us:List Value}{i:Nat},Vals xs us->xs[i]?=none->us[i]?=none:=λ{xs us i} r e=>by
 have a:=r.length;have a:xs.length<=i:=List.getElem?_eq_none_iff.mp e;calc List.getElem?_eq_none_iff.mpr ()
def ny:Option V->Option Value->Prop
 |some v,some u=>RelV v u
 |none,none=>True
 |_,_=>False
def KV{κ:Type}:List (κ×V)->List (κ×Value)->Prop:=Paired λ(p:κ×V) (q:κ×Value)=>p.1=q.1/\RelV p.2 q.2
def kV:Key->V
 | .inl i=>.int i
 | .inr x=>.str x
inductive HO where
 |lst (xs:List V)
 |tup (xs:List V)
 |dK (bb:List (Key×V))|dT (bb:List (List Key×V))
 |set (S:Int->Bool) (n:Nat)
 |ins (C dx:Addr) (fs:List (Str×V))
 |own (x:Addr)
 |xd (fs:List (Str×V))
 |met (f x:Addr)
 |rng (lo hi:Int)
 |AI (o:Obj) (u:HO)
 |QO (ps:Array Value)
 |ext (φ:Heap->Prop)
abbrev Hp:=Addr->Option HO
def upd(H:Hp)(a:Addr)(o:HO):Hp:=λb=>if b=a then some o else H b
theorem ab{o:HO}:upd H a o a=some o:=by unfold upd;rw[if_pos rfl]
theorem ay{o:HO}(h:b≠a):upd H a o b=H b:=by unfold upd;rw[if_neg h]
theorem CC{o u:HO}(h:H a=some o)(h':H b=some u)(d:o≠u):a≠b:=by
 intro e;subst e;rw[h]at h';calc d (Option.some.inj h')
theorem aq{o:HO}(h:H a=some o)(h':H b=none):a≠b:=by
 intro e;subst e;rw[h]at h';cases h'
section
variable (P:Program)(w:World)
def cE(H:Hp)(h:Heap)(a:Addr):HO->Prop
 | .lst xs=>xs.length<=sizeLine/\∃(b:List Value) (n:Nat),Vals xs b/\h.get? a=some {cls:=.type "list",data:=.seq b.toArray n}
 | .tup xs=>xs.length<=sizeLine/\∃b:List Value,Vals xs b/\IsTup h a b.toArray
 | .dK b=>b.length<=sizeLine/\(a==sysModules)=false/\∃vs,KV b vs/\h.DictOf (dF P w) a vs
 | .dT b=>b.length<=sizeLine/\(a == sysModules)=false/\∃xs:List (List Key×Addr×Value),
   Paired (λ(p:List Key×V) (q:List Key×Addr×Value)=>p.1=q.1/\H q.2.1=some (.tup (p.1.map kV))/\RelV p.2 q.2.2) b xs/\
   ∃o es ep,h.get? a=some o/\o.ExactDict/\o.data=.dict es ep/\es.toList=xs.map (entryOfKey (tupleKind (dF P w)))/\(xs.map (·.1)).Nodup
 | .set S n=>h.SetOf (intKind P w) a S n
 | .ins C d c=>H d=some (.own a)/\c.length<=1000/\d≠a/\h.get? a=some (W.instObj C d)/\
   ∃b,h.Ns1 d b/\(∀f,ny (c.lookup f) (b f))/\PySem.Within b (c.map (·.1))
 | .own _=>∃o,h.get? a=some o
 | .xd c=>∃b,h.Ns1 a b/\∀f,ny (c.lookup f) (b f)
 | .rng lo b=>∃t u v,h.get? a=some {cls:=.type "range",data:=.fields #[.int lo t,.int b u,.int 1 v]}
 | .AI o u=>h.get? a=some o/\cE H h a u
 | .QO b=>h.get? a=some {cls:=.none,data:=.fields b}
 | .met f x=>h.get? a=some (W.methodObj (.ref f) (.ref x))
 | .ext φ=>φ h/\(∃o,h.get? a=some o)/\∀b c:Heap,φ b->(∀o,b.get? a=some o->c.get? a=some o)->φ c
def nS(H:Hp)(h:Heap):Prop:=∀a o,H a=some o->cE P w H h a o
end
section
variable {P:Program}{w:World}{H H':Hp}{h h':Heap}{a:Addr}{o:HO}
theorem cE.lt(x:cE P w H h a o):a<h.objs.size:=by
 cases o with
 |lst b=>obtain⟨_,_,_,_,e⟩:=x;calc T' e
 |tup b=>obtain⟨_,_,_,p⟩:=x;calc p.lt
 |dK b=>obtain⟨_,_,_,_,o,_,_,e,_⟩:=x;calc T' e
 |dT b=>obtain⟨_,_,_,_,o,_,_,e,_⟩:=x;calc T' e
 |set S n=>obtain⟨o,_,_,_,e,_⟩:=x;calc T' e
 |ins C c b=>obtain⟨_,_,_,e,_⟩:=x;calc T' e
 |own y=>obtain⟨_,e⟩:=x;calc T' e
 |xd b=>obtain⟨_,⟨_,_,_,e,_⟩,_⟩:=x;calc T' e
 |rng b c=>obtain⟨_,_,_,e⟩:=x;calc T' e
 |AI b u=>obtain⟨e,_⟩:=x;calc T' e
 |QO b=>calc T' (show h.get? a=some _ from x)
 |met f y=>calc T' (show h.get? a=some _ from x)
 |ext φ=>obtain⟨_,⟨_,e⟩,_⟩:=x;calc T' e
theorem Paired.QP{α β:Type}{F G:α->β->Prop}:∀{c:List α}{d:List β},Paired F c d->(∀a b,F a b->G a b)->Paired G c d
 |_,_,.nil,_=>.nil
 |_,_,.cons r t,f=>.cons (f _ _ r) (Paired.QP t f)
theorem cE.aJ(x:cE P w H h a o)(k:∀b u,(b=a\/H b=some (.own a))->h.get? b=some u->h'.get? b=some u)
  (m:∀b,H b=some (.own a)->H' b=some (.own a)) (j:∀b xs,H b=some (.tup xs)->H' b=some (.tup xs)):cE P w H' h' a o:=by
 induction o with
 |lst xs=>obtain⟨z,d,n,r,e⟩:=x;calc⟨z,d,n,r,k _ _ (.inl rfl) e⟩
 |tup xs=>obtain⟨z,d,r,f,e,c⟩:=x;calc⟨z,d,r,f,k _ _ (.inl rfl) e,c⟩
 |dK d=>obtain⟨z,y,l,r,f,g,i,e,c⟩:=x;calc⟨z,y,l,r,f,g,i,k _ _ (.inl rfl) e,c⟩
 |dT d=>
  obtain⟨z,y,xs,r,f,g,i,e,c⟩:=x;calc⟨z,y,xs,Paired.QP r λp q z=>⟨z.1,j _ _ z.2.1,z.2.2⟩,f,g,i,k _ _ (.inl rfl) e,c⟩
 |set S n=>obtain⟨f,g,i,t,e,c⟩:=x;calc⟨f,g,i,t,k _ _ (.inl rfl) e,c⟩
 |ins C d n=>
  obtain⟨d,z,s,e,j,⟨l,g,i,v,c⟩,r⟩:=x;calc⟨m _ d,z,s,k _ _ (.inl rfl) e,j,⟨l,g,i,k _ _ (.inr d) v,c⟩,r⟩
 |own y=>obtain⟨f,e⟩:=x;calc⟨f,k _ _ (.inl rfl) e⟩
 |xd n=>obtain⟨j,⟨l,g,i,e,c⟩,r⟩:=x;calc⟨j,⟨l,g,i,k _ _ (.inl rfl) e,c⟩,r⟩
 |rng c d=>obtain⟨t,u,v,e⟩:=x;calc⟨t,u,v,k _ _ (.inl rfl) e⟩
 |AI f u c=>obtain⟨e,q⟩:=x;calc⟨k _ _ (.inl rfl) e,c q⟩
 |QO c=>
  have e:h.get? a=some {cls:=.none,data:=.fields c}:=x;show h'.get? a=some {cls:=.none,data:=.fields c};calc k a _ (.inl rfl) e
 |met f y=>
  have e:h.get? a=some (W.methodObj (.ref f) (.ref y)):=x;show h'.get? a=some (W.methodObj (.ref f) (.ref y));calc k a _ (.inl rfl) e
 |ext φ=>obtain⟨p,⟨o,e⟩,c⟩:=x;calc⟨c _ _ p λo q=>k _ _ (.inl rfl) q,⟨o,k _ _ (.inl rfl) e⟩,c⟩
theorem nS.lt(x:nS P w H h)(e:H a=some o):a<h.objs.size:=(x a o e).lt
theorem nS.fresh(x:nS P w H h)(e:h.objs.size<=a):H a=none:=by
 cases q:H a with
 |none=>rfl
 |some u=>calc absurd (X' (x.lt q) e) (aaM _)
theorem nS.kept(x:nS P w H h)(k:∀b u,h.get? b=some u->h'.get? b=some u):nS P w H h':=λa o e=>
 (x a o e).aJ (λb u _ q=>k b u q) (λ_ q=>q) λ_ _ q=>q
theorem nS.laid(x:nS P w H h)(k:∀b u,h.get? b=some u->h'.get? b=some u)(g:h.objs.size<=a)(c:cE P w (upd H a o) h' a o):nS P w (upd H a o) h':=λb u e=>by
 have d:=x.fresh g;by_cases f:b=a
 ·subst f;rw[ab]at e;cases e;exact c
 ·rw[ay f]at e;exact(x b u e).aJ (λc v _ q=>k c v q) (λc q=>by rw[ay (aq q d)];calc q) λc e q=>by rw[ay (aq q d)];calc q
end
def Rd(H:Hp)(a:Addr)(u:HO):Prop:=H a=some u\/∃o,H a=some (.AI o u)
theorem Rd.ok{P:Program}{w:World}{h:Heap}{u:HO}(r:Rd H a u)(x:nS P w H h):cE P w H h a u:=by
 rcases r with r|⟨o,r⟩
 ·exact x a u r
 ·obtain⟨_,q⟩:=x a _ r;calc q
def VR:Option HO->Prop
 |some (.lst _)=>True
 |some (.dK _)=>True
 |some (.dT _)=>True
 |some (.set _ _)=>True
 |some (.ins _ _ _)=>True
 |some (.ext _)=>True
 |_=>False
section
variable {P:Program}{w:World}{H:Hp}{h h':Heap}{x e:Addr}{o':HO}
theorem nS.write(n:nS P w H h)(a:VR (H x))(he:e=x\/H e=some (.own x))(k:∀b u,b≠e->h.get? b=some u->h'.get? b=some u)(o:∃u,h'.get? e=some u)
  (j:cE P w (upd H x o') h' x o'):nS P w (upd H x o') h':=λb u q=>by
 have l:∀c y,H c=some (.own y)->c≠x:=λc y r z=>by subst z;rw[r]at a;exact a
 have p:∀c d,H c=some (.tup d)->c≠x:=λc d r z=>by subst z;rw[r]at a;exact a
 by_cases f:b=x
 ·subst f;rw[ab]at q;cases q;exact j
 ·rw[ay f] at q;by_cases g:b=e
  ·have m:H b=some (.own x):=by
    rcases he with z|z
    ·exact absurd (g.trans z) f
    ·rw[g];exact z
   rw[q]at m;cases m;obtain⟨v,a⟩:=o;exact⟨v,by rw[g];calc a⟩
  ·refine(n b u q).aJ (λc v i r=>k c v ?_ r) (λc r=>by rw[ay (l c b r)];calc r) λc d r=>by rw[ay (p c d r)];exact r
   rcases i with rfl|i
   ·exact g
   ·rintro rfl;rcases he with z | z
    ·exact l c b i z
    ·rw[i]at z;cases z;calc f rfl
end
structure Un(fs ex:List Addr)(H H':Hp)(h h':Heap):Prop where
 keep:∀b o,h.get? b=some o->H b=none->b∉fs->b∉ex->h'.get? b=some o
 slot:∀b o,h.get? b=some o->H b=none->b∈fs->b∉ex->∃sl,h'.get? b=some {o with slots:=sl}
 free:∀b o,h.get? b=some o->H b=none->b∉ex->H' b=none
 there:∀b o,h.get? b=some o->b∉ex->∃o',h'.get? b=some o'
 aP:∀b xs,H b=some (.tup xs)->H' b=some (.tup xs)
 wW:∀b o u,H b=some (.AI o u)->H' b=some (.AI o u)
 yL:∀b ps,H b=some (.QO ps)->∃more,H' b=some (.QO (ps++more))
section
variable {fs vL ex ex':List Addr}{H H1 H2:Hp}{h h1 h2 h':Heap}{a x e:Addr}{o:HO}
theorem Un.any(u:Un fs ex H H1 h h1){b:Addr}{a:Obj}(q:h.get? b=some a)(n:H b=none)(c:b∉ex):∃d,h1.get? b=some {a with slots:=d}:=by
 by_cases d:b∈fs
 ·exact u.slot b a q n d c
 ·calc⟨a.slots,u.keep b a q n d c⟩
theorem Un.kept(k:∀b u,h.get? b=some u->h'.get? b=some u):Un fs ex H H h h':=
 ⟨λb a q _ _ _=>k b a q,λb a q _ _ _=>⟨a.slots,k b a q⟩,λ_ _ _ n _=>n,λb a q _=>⟨a,k b a q⟩,λ_ _ q=>q,λ_ _ _ q=>q,λ_ a q=>⟨#[],by rw[q];simp⟩⟩
theorem Un.refl:Un fs ex H H h h:=Un.kept λ_ _ q=>q
theorem Un.laid(k:∀b u,h.get? b=some u->h'.get? b=some u)(d:h.objs.size<=a)(c:H a=none):Un fs ex H (upd H a o) h h' where
 keep:=λb u q _ _ _=>k b u q
 slot:=λb u q _ _ _=>⟨u.slots,k b u q⟩
 free:=λb u q n _=>by rw[ay (aal (X' (T' q) d))];exact n
 there:=λb u q _=>⟨u,k b u q⟩
 aP:=λb d q=>by rw[ay (aq q c)];exact q
 wW:=λb u d q=>by rw[ay (aq q c)];exact q
 yL:=λb d q=>⟨#[],by rw[ay (aq q c),q];simp⟩
theorem Un.write(a:VR (H x))(he:e=x\/H e=some (.own x))(k:∀b u,b≠e->h.get? b=some u->h'.get? b=some u)(i:∃u,h'.get? e=some u):Un fs ex H (upd H x o) h h':=by
 have d:∀b,H b=none->b≠x:=λb n z=>by subst z;rw[n]at a;exact a
 have f:∀b,H b=none->b≠e:=λb n z=>by
  subst z;rcases he with r|r
  ·exact d b n r
  ·rw[n]at r;cases r
 have c:∀b u,H b=some u->¬VR (some u)->b≠x:=λb u q j z=>by subst z;rw[q]at a;exact j a
 refine⟨λb u q n _ _=>k b u (f b n) q,λb u q n _ _=>⟨u.slots,k b u (f b n) q⟩,λb u q n _=>by rw[ay (d b n)];exact n,λb u q _=>?_,
  λb a q=>by rw[ay (c b _ q λz=>z)];calc q,λb u a q=>by rw[ay (c b _ q λz=>z)];calc q,λb a q=>⟨#[],by rw[ay (c b _ q λz=>z),q];simp⟩⟩
 by_cases g:b=e
 ·subst g;exact i
 ·calc⟨u,k b u g q⟩
end
def trk(h:Heap)(H:Hp):List Addr:=(List.range h.objs.size).filter λa=>(H a).isSome
def wX(h:Heap)(H:Hp):Heap:=W.hideAll h (trk h H)
theorem EH(h:Heap)(H:Hp):(wX h H).objs.size=h.objs.size:=W.hideAll_size _ _
theorem GK{h:Heap}{o:Obj}(e:h.get? b=some o)(n:H b=none):(wX h H).get? b=some o:=
 W.hideAll_get _ e λa=>by
  have q:(H b).isSome=true:=(List.mem_filter.mp a).2;rw[n]at q;simp at q
theorem Ms{h:Heap}{H:Hp}{b:Addr}{o:Obj}(e:(wX h H).get? b=some o):h.get? b=some o/\H b=none:=by
 have a:h.get? b=some o:=W.of_hideAll (trk h H) e;refine⟨a,?_⟩
 cases q:H b with
 |none=>rfl
 |some x=>
  have c:b∈trk h H:=List.mem_filter.mpr ⟨List.mem_range.mpr (T' a),by simp[q]⟩;have z:(wX h H).get? b=none:=W.hideAll_none (trk h H) c;rw[z]at e;cases e
end
section
variable {A:Around}{ch:List Addr}{t':Nat}{E:Value->Shared->Prop}
structure Mod(K:W.Frag)(mg:Str->Option Value)(base:Heap):Prop where
 Ux:K.In base
 glob:base.Ns mainGlobals mg
 blt:∃mb,base.Ns builtinsNs mb/\∀x:Str,x≠"__name__"->mb x=bootBuiltins x
 nolimit:base.NoLimit
structure Cx where
 prog:Program
 w:World
 K:W.Frag
 mg:Str->Option Value
 base:Heap
 A:Around
 N:List Str
 s₀:Shared
 H₀:Hp
 env:Env
 outer:List Env
 stack:List Env
 ex:List Addr
 fn:Str->Bool
 calm:Bool
 pn:List (Addr×Obj)
 xe:Value->Shared->Prop
def EI(l:List Env):List Addr:=l.filterMap (·.frame)
abbrev Cx.fs(X:Cx):List Addr:=EI X.outer
def VT(sc:Scope)(x:Str):Prop:=sc.names.lookup x=some .local\/sc.names.lookup x=some .cell\/sc.names.lookup x=some .free
def Loc(sc:Scope)(x:Str):Prop:=sc.names.lookup x=some .local\/sc.names.lookup x=some .cell
def Look(env:Env)(h:Heap)(m:Str->Option Value)(x:Str)(u:Value):Prop:=
 (env.kindOf x=some .local/\m x=some u)\/((env.kindOf x=some .cell\/env.kindOf x=some .free)/\∃c,env.cells.lookup x=some c/\h.IsCell c (some u))
structure Cx.Ok(X:Cx):Prop where
 mod:Mod X.K X.mg X.base
 kind:X.env.scope.kind=.function
 glob:X.env.globals=mainGlobals
 blt:X.env.builtins=builtinsNs
 above:X.s₀.heap.objs.size<=X.env.locals
 inj:∀x y c,X.env.cells.lookup x=some c->X.env.cells.lookup y=some c->x=y
 has:∀x,(X.env.kindOf x=some .cell\/X.env.kindOf x=some .free)->∃c,X.env.cells.lookup x=some c
 Uy:∀x c,X.fn x=true->X.env.cells.lookup x=some c->X.s₀.heap.objs.size<=c
 hd:X.calm=true->X.A.handled=none
 frames:X.A.frames=some X.stack
 VU:X.stack=X.outer\/(X.stack=X.env::X.outer/\X.env.frame=some X.env.locals)
 exf:∀b∈X.ex,b≠X.env.locals/\∀x c,X.env.cells.lookup x=some c->c≠b
 bs:∀b o,X.base.get? b=some o->X.s₀.heap.get? b=some o/\X.H₀ b=none
 GL:X.base.objs.size<=X.s₀.heap.objs.size
 A0:∀b o,X.base.get? b=some o->b∉X.ex
 EJ:∀b∈X.ex,b∉X.fs
 p9:X.s₀.heap.FunFrames X.base X.outer
 OM:∀b∈X.fs,X.H₀ b=none
structure Inv(X:Cx)(pins:List (Addr×Obj))(σ:List (Option V))(H:Hp)(s:Shared):Prop where
 ok:X.Ok
 os:s.os=X.s₀.os
 bare:AllBare s.gens
 base:Un X.fs X.ex X.H₀ H X.s₀.heap s.heap
 loc:∃m,s.heap.Ns X.env.locals m/\∀(i:Nat) (x:Str) (v:V),X.N[i]?=some x->σ[i]?=some (some v)->VT X.env.scope x->∃u,RelV v u/\Look X.env s.heap m x u
 cell:∀x c,X.env.cells.lookup x=some c->∃v,s.heap.IsCell c v
 free:H X.env.locals=none
 lE:∀x c,X.env.cells.lookup x=some c->H c=none
 pin:∀p∈X.pn++pins,s.heap.get? p.1=some p.2/\H p.1=none/\p.1≠X.env.locals/\p.1∉X.fs/\∀v,p.2.data≠.cell v
 ba:nS X.prog X.w H s.heap
 len:σ.length=X.N.length
section
variable {X:Cx}{pins:List (Addr×Obj)}{σ:List (Option V)}{H H':Hp}{s:Shared}{h':Heap}
theorem Cx.Ok.QR(a:X.Ok){b:Addr}{o:Obj}(e:X.base.get? b=some o):b∉X.fs:=λc=>by
 have:=(a.p9.mem c).1;rw[e]at this;cases this
theorem Inv.bs(I:Inv X pins σ H s):∀b o,X.base.get? b=some o->s.heap.get? b=some o/\H b=none:=λb o e=>
 ⟨I.base.keep b o (I.ok.bs b o e).1 (I.ok.bs b o e).2 (I.ok.QR e) (I.ok.A0 b o e),I.base.free b o (I.ok.bs b o e).1 (I.ok.bs b o e).2 (I.ok.A0 b o e)⟩
theorem Inv.bk(I:Inv X pins σ H s):∀b o,X.base.get? b=some o->s.heap.get? b=some o:=λb o e=>(I.bs b o e).1
theorem Inv.mod(I:Inv X pins σ H s):Mod X.K X.mg X.base:=I.ok.mod
theorem Inv.kX(I:Inv X pins σ H s):X.K.In s.heap:=I.ok.mod.Ux.keeps I.bk
theorem Inv.lt(I:Inv X pins σ H s):X.env.locals<s.heap.objs.size:=let ⟨_,a,_⟩:=I.loc;a.lt
theorem Inv.sz(I:Inv X pins σ H s):X.s₀.heap.objs.size<=s.heap.objs.size:=aaq I.ok.above (J' I.lt)
theorem Inv.QS(I:Inv X pins σ H s){a:Addr}(h:s.heap.objs.size<=a):a∉X.fs:=λa=>by
 obtain⟨_,o,b,_⟩:=I.ok.p9.mem a;calc absurd (X' (T' b) (aaq I.sz h)) (aaM _)
theorem Inv.QT(I:Inv X pins σ H s):∀x c,X.env.cells.lookup x=some c->c≠X.env.locals:=λx c e z=>by
 obtain⟨v,o,a,b⟩:=I.cell x c e;obtain⟨m,⟨g,h,i,d,f,_⟩,_⟩:=I.loc;rw[z,d]at a;cases a;rw[f]at b;cases b
theorem Inv.p9(I:Inv X pins σ H s):s.heap.FunFrames X.base X.outer:=by
 have a:∀(l:List Env),(∀b∈EI l,b∈X.fs)->X.s₀.heap.FunFrames X.base l->s.heap.FunFrames X.base l:=by
  intro l;induction l with
  |nil=>intro _ _;trivial
  |cons c r h=>
   intro g e;obtain⟨i,⟨L,o,c,j,f,k⟩,l⟩:=e;have d:L∈X.fs:=g L (by unfold EI;rw[List.filterMap_cons,c];calc aaa);obtain⟨m,e⟩:=I.base.slot L o f (I.ok.OM L d) d λz=>I.ok.EJ L z d;exact⟨i,⟨L,_,c,j,e,k⟩,h (λb f=>g b (by unfold EI;rw[List.filterMap_cons,c];calc aai _ f)) l⟩
 calc a X.outer (λ_ f=>f) I.ok.p9
theorem Inv.stack(I:Inv X pins σ H s):s.heap.FunFrames X.base X.stack:=by
 rcases I.ok.VU with e|⟨e,a⟩
 ·rw[e];exact I.p9
 ·rw[e];obtain⟨m,b,_⟩:=I.loc;calc .cons (by rw[I.ok.kind];decide) a b ?_ I.p9;calc Heap.get?_none_of_le (aaq I.ok.GL I.ok.above)
theorem Inv.wY(I:Inv X pins σ H s):∀b∈EI X.stack,b∈X.env.locals::X.fs:=λb a=>by
 rcases I.ok.VU with e|⟨e,b⟩
 ·rw[e]at a;exact aai _ a
 ·rw[e]at a;unfold EI at a;rw[List.filterMap_cons,b]at a;calc a
theorem Inv.CF(I:Inv X pins σ H s):∀b∈EI X.stack,H b=none:=λb a=>by
 rcases List.mem_cons.mp (I.wY b a) with e|a
 ·rw[e];exact I.free
 ·obtain⟨_,o,c,_⟩:=I.ok.p9.mem a;calc I.base.free b o c (I.ok.OM b a) λz=>I.ok.EJ b z a
theorem Inv.step{g':Array GenState}{t':Nat}{d':Drawn}(I:Inv X pins σ H s)
  (t:∀b∈ch,(b∈X.ex\/X.s₀.heap.objs.size<=b)/\b≠X.env.locals/\(∀x c,X.env.cells.lookup x=some c->c≠b)/\∀p∈X.pn++pins,p.1≠b)
  (keep:∀b o,b≠X.env.locals->b∉X.fs->b∉ch->s.heap.get? b=some o->H b=none->h'.get? b=some o)
  (slot:∀b o,b≠X.env.locals->b∈X.fs->b∉ch->s.heap.get? b=some o->H b=none->∃D,h'.get? b=some {o with slots:=D}) (free:∀b o,b∉ch->s.heap.get? b=some o->H b=none->H' b=none)
  (there:∀b o,b∉ch->s.heap.get? b=some o->∃k,h'.get? b=some k)
  (J:∀b xs,H b=some (.tup xs)->H' b=some (.tup xs)) (K:∀b o u,H b=some (.AI o u)->H' b=some (.AI o u)) (L:∀b C,H b=some (.QO C)->∃q,H' b=some (.QO (C++q)))
  (ns:∀m,s.heap.Ns X.env.locals m->h'.Ns X.env.locals m) (M:nS X.prog X.w H' h') (N:AllBare g'):
  Inv X pins σ H' {s with heap:=h',gens:=g',drawn:=d',toks:=t'}:=by
 have y:∀b o,X.s₀.heap.get? b=some o->b≠X.env.locals:=λb o e=>aal (X' (T' e) I.ok.above);have f:∀b o,X.s₀.heap.get? b=some o->b∉X.ex->b∉ch:=λb o e a h=>by
  rcases(t b h).1 with z|z
  ·exact a z
  ·exact absurd (X' (T' e) z) (aaM _)
 have d:∀x c,X.env.cells.lookup x=some c->∀v,s.heap.IsCell c v->h'.IsCell c v:=λx c e v ⟨o,j,E⟩=>by
  have A:c∉ch:=λz=>(t c z).2.2.1 x c e rfl;by_cases F:c∈X.fs
  ·obtain⟨D,q⟩:=slot c o (I.QT x c e) F A j (I.lE x c e);exact⟨_,q,E⟩
  ·exact⟨o,keep c o (I.QT x c e) F A j (I.lE x c e),E⟩
 refine⟨I.ok,I.os,N,⟨λb o e n h a=>?_,λb o e n h a=>?_,λb o e n a=>?_,λb o e a=>?_,λb xs e=>J b xs (I.base.aP b xs e),λb o xs e=>K b o xs (I.base.wW b o xs e),λb C e=>?_⟩,?_,λx c e=>?_,?_,λx c e=>?_,λp G=>?_,M,I.len⟩
 ·exact keep b o (y b o e) h (f b o e a) (I.base.keep b o e n h a) (I.base.free b o e n a)
 ·obtain⟨D,g⟩:=I.base.slot b o e n h a;obtain⟨q,B⟩:=slot b _ (y b o e) h (f b o e a) g (I.base.free b o e n a);exact⟨q,B⟩
 ·obtain⟨k,g⟩:=I.base.there b o e a;exact free b k (f b o e a) g (I.base.free b o e n a)
 ·obtain⟨k,g⟩:=I.base.there b o e a;exact there b k (f b o e a) g
 ·obtain⟨a,g⟩:=I.base.yL b C e;obtain⟨f,B⟩:=L b _ g;exact⟨a++f,by rw[B,Array.append_assoc]⟩
 ·obtain⟨m,a,O⟩:=I.loc;calc⟨m,ns m a,λi x v g B P=>?_⟩;obtain⟨u,r,l⟩:=O i x v g B P;calc⟨u,r,?_⟩;rcases l with l | ⟨k,c,e,z⟩
  ·exact .inl l
  ·exact .inr ⟨k,c,e,d x c e _ z⟩
 ·obtain⟨v,z⟩:=I.cell x c e;exact⟨v,d x c e v z⟩
 ·obtain⟨m,⟨o,_,_,j,_⟩,_⟩:=I.loc;exact free _ o (λz=>(t _ z).2.1 rfl) j I.free
 ·obtain⟨v,o,j,E⟩:=I.cell x c e;exact free c o (λz=>(t c z).2.2.1 x c e rfl) j (I.lE x c e)
 ·obtain⟨e,n,a,b,d⟩:=I.pin p G;have A:p.1∉ch:=λz=>(t p.1 z).2.2.2 p G rfl;calc⟨keep p.1 p.2 a b A e n,free p.1 p.2 A e n,a,b,d⟩
theorem Inv.un(I:Inv X pins σ H s)(u:Un X.fs [] H H' s.heap h')(h:nS X.prog X.w H' h'):Inv X pins σ H' {s with heap:=h',toks:=t'}:=by
 obtain⟨m,⟨o,a,b,f,r⟩,_⟩:=id I.loc;obtain⟨a,i⟩:=u.any f I.free nofun;exact I.step (g':=s.gens) (d':=s.drawn) (ch:=[]) (λ_ z=>nomatch z) (λb o _ a _ e n=>u.keep b o e n a nofun) (λb o _ a _ e n=>u.slot b o e n a nofun) (λb o _ e n=>u.free b o e n nofun) (λb o _ e=>u.there b o e nofun) u.aP u.wW u.yL (λa j=>by
  obtain⟨a,c,d,g,k⟩:=j;rw[f] at g;cases g;calc⟨_,c,d,i,k⟩) h I.bare
theorem Inv.call{g':Array GenState}{d':Drawn}(I:Inv X pins σ H s)(u:Un (EI X.stack) ch H H' s.heap h')(k:nS X.prog X.w H' h')(l:AllBare g')
  (h:∀b∈ch,(b∈X.ex\/X.s₀.heap.objs.size<=b)/\b≠X.env.locals/\(∀x c,X.env.cells.lookup x=some c->c≠b)/\∀p∈X.pn++pins,p.1≠b):
  Inv X pins σ H' {s with heap:=h',gens:=g',drawn:=d',toks:=t'}:=by
 obtain⟨m,⟨o,a,c,i,r⟩,_⟩:=id I.loc;obtain⟨a,d⟩:=u.any i I.free λz=>(h _ z).2.1 rfl;exact I.step (ch:=ch) h (λb o d c a e n=>u.keep b o e n (λz=>(List.mem_cons.mp (I.wY b z)).elim d c) a) (λb o _ _ a e n=>u.any e n a) (λb o a e n=>u.free b o e n a) (λb o a e=>u.there b o e a) u.aP u.wW u.yL (λc q=>by
  obtain⟨a,f,g,j,t⟩:=q;rw[i] at j;cases j;calc⟨_,f,g,d,t⟩) k l
theorem Inv.turned{a:Addr}(I:Inv X pins σ H s)(k:∀b o,b≠a->s.heap.get? b=some o->h'.get? b=some o)(j:H a=none)(g:a≠X.env.locals)
  (l:a∈X.ex\/X.s₀.heap.objs.size<=a) (r:∀x c,X.env.cells.lookup x=some c->c≠a) (t:∀p∈X.pn++pins,p.1≠a):Inv X pins σ H {s with heap:=h',toks:=t'}:=by
 have i:∀b u,H b=some u->b≠a:=λb u e z=>by rw[z,j]at e;cases e
 refine I.step (g':=s.gens) (d':=s.drawn) (ch:=[a]) (λb j=>?_) (λb o _ _ d e _=>k b o (λz=>d (by simp[z])) e) (λb o _ _ d e _=>⟨o.slots,k b o (λz=>d (by simp[z])) e⟩) (λ_ _ _ _ n=>n)
  (λb o d e=>⟨o,k b o (λz=>d (by simp[z])) e⟩) (λ_ _ e=>e) (λ_ _ _ e=>e) (λb m e=>⟨#[],by rw[e];simp⟩) (λm v=>?_) (λb u e=>?_) I.bare
 ·have e:b=a:=by simpa using j
  subst e;exact⟨l,g,r,t⟩
 ·obtain⟨o,a,j,l,r⟩:=v;exact⟨o,a,j,k _ o (Ne.symm g) l,r⟩
 ·calc(I.ba b u e).aJ (λc v d q=>k c v ?_ q) (λ_ q=>q) λ_ _ q=>q;rcases d with z | z
  ·rw[z];exact i b u e
  ·calc i c _ z
theorem Inv.tok(I:Inv X pins σ H s)(t:Nat):Inv X pins σ H {s with toks:=t}:=I.un (h':=s.heap) (t':=t) Un.refl I.ba
theorem Inv.kept(I:Inv X pins σ H s)(k:∀b u,s.heap.get? b=some u->h'.get? b=some u):Inv X pins σ H {s with heap:=h',toks:=t'}:=I.un (Un.kept k) (I.ba.kept k)
theorem Inv.laid{a:Addr}{o:HO}(I:Inv X pins σ H s)(k:∀b u,s.heap.get? b=some u->h'.get? b=some u)(c:s.heap.objs.size<=a)(d:cE X.prog X.w (upd H a o) h' a o):
  Inv X pins σ (upd H a o) {s with heap:=h',toks:=t'}:=I.un (Un.laid k c (I.ba.fresh c)) (I.ba.laid k c d)
theorem Inv.write{x e:Addr}{o:HO}(I:Inv X pins σ H s)(c:VR (H x))(he:e=x\/H e=some (.own x))(k:∀b u,b≠e->s.heap.get? b=some u->h'.get? b=some u)(d:∃u,h'.get? e=some u)
  (a:cE X.prog X.w (upd H x o) h' x o):Inv X pins σ (upd H x o) {s with heap:=h',toks:=t'}:=I.un (Un.write c he k d) (I.ba.write c he k d a)
theorem Inv.wZ{a:List (Addr×Obj)}(I:Inv X pins σ H s)(h:∀p∈a,s.heap.get? p.1=some p.2/\H p.1=none/\p.1≠X.env.locals/\p.1∉X.fs/\∀v,p.2.data≠.cell v):Inv X a σ H s:=
 ⟨I.ok,I.os,I.bare,I.base,I.loc,I.cell,I.free,I.lE,λp a=>(List.mem_append.mp a).elim (λz=>I.pin p (List.mem_append_left _ z)) (h p),I.ba,I.len⟩
theorem yM{N:List Str}(c:N.Nodup){i j:Nat}{x:Str}(a:N[i]?=some x)(b:N[j]?=some x):i=j:=by
 obtain⟨e,d⟩:=List.getElem?_eq_some_iff.mp a;obtain⟨g,e⟩:=List.getElem?_eq_some_iff.mp b;calc(List.getElem_inj c).mp (d.trans e.symm)
theorem EK{M:Model}{i:Nat}{x:Str}{v:V}{u:Value}{Q:Unit->Shared->Prop}(I:Inv X pins σ H s)(hN:X.N.Nodup)(L:X.N[i]?=some x)(C:Loc X.env.scope x)(r:RelV v u)
  (h:∀s',Inv X pins (σ.set i (some v)) H s'->(∃a,Heap.SameBut a s.heap s'.heap/\(a=X.env.locals\/X.env.cells.lookup x=some a))->Q ⟨⟩ s') (hf:X.fn x=true\/X.env.scope.names.lookup x=some .local:=by grind):wpAny M A (storeName X.env x u) Q E s:=by
 obtain⟨m,U,hl⟩:=id I.loc;have W:(X.env.scope.kind == .class||(X.env.scope.kind == .module&&X.env.locals !=X.env.globals))=false:=by rw[I.ok.kind];rfl
 have G:i<σ.length:=by rw[I.len];exact(List.getElem?_eq_some_iff.mp L).1
 have Y:=I.QT;have l:∀{a:Addr} {h':Heap},(∃o,s.heap.get? a=some o/\H a=none)->Heap.SameBut a s.heap h'->nS X.prog X.w H h':=λ{a h'} v g b M e=>by
  obtain⟨_,_,OP⟩:=v;calc(I.ba b M e).aJ (λc R B q=>(g.2 c ?_).trans q) (λ_ q=>q) λ_ _ q=>q;rintro rfl;rcases B with rfl|B
  ·rw[OP]at e;cases e
  ·rw[OP]at B;cases B
 rcases C with hk|hk
 ·calc wpAny_storeName_local hk U (λh' a g=>?_) W;obtain⟨v,_,_,M,_⟩:=id U;refine h _ ⟨I.ok,I.os,I.bare,⟨λb o e n J C=>?_,λb o e n J C=>?_,I.base.free,λb o e C=>?_,I.base.aP,I.base.wW,I.base.yL⟩,⟨_,a,λj y Z t F e3=>?_⟩,λy c e=>?_,I.free,I.lE,λp hp=>?_,l ⟨v,M,I.free⟩ g,by simpa using I.len⟩ ⟨_,g,.inl rfl⟩
  ·exact(g.2 b (aal (X' (T' e) I.ok.above))).trans (I.base.keep b o e n J C)
  ·obtain⟨sl,t⟩:=I.base.slot b o e n J C;exact⟨sl,(g.2 b (aal (X' (T' e) I.ok.above))).trans t⟩
  ·obtain⟨o',t⟩:=I.base.there b o e C;exact⟨o',(g.2 b (aal (X' (T' e) I.ok.above))).trans t⟩
  ·by_cases K:j=i
   ·subst K;rw[L] at t;cases t;rw[List.getElem?_set_self G] at F
    cases F;exact⟨u,r,.inl ⟨hk,nofun⟩⟩
   ·rw[List.getElem?_set_ne (Ne.symm K)] at F;obtain⟨u',r',q⟩:=hl j y Z t F e3;calc⟨u',r',?_⟩;rcases q with⟨k,e⟩ | ⟨k,c,e,z⟩
    ·calc .inl ⟨k,?_⟩;have:y≠x:=λe=>K (yM hN t (e▸L));simp[this,e]
    ·exact .inr ⟨k,c,e,z.sameBut g (Y y c e)⟩
  ·obtain⟨R,z⟩:=I.cell y c e;exact⟨R,z.sameBut g (Y y c e)⟩
  ·obtain⟨e,n,S,nf,d⟩:=I.pin p hp;exact⟨(g.2 p.1 S).trans e,n,S,nf,d⟩
 ·have Mt:X.fn x=true:=by
   rcases hf with z|z
   ·exact z
   ·rw[z]at hk;cases hk
  obtain⟨c,B⟩:=I.ok.has x (.inl hk);obtain⟨R,z⟩:=I.cell x c B;calc wpAny_storeName_cell I.ok.kind hk B z (λh' OS g=>?_);obtain⟨oc,O,abN⟩:=id z;refine h {s with heap:=h'} ⟨I.ok,I.os,I.bare,⟨λb o e n J C=>?_,λb o e n J C=>?_,I.base.free,λb o e C=>?_,I.base.aP,I.base.wW,I.base.yL⟩,⟨m,U.sameBut g (Ne.symm (Y x c B)),λj y Z t F e3=>?_⟩,λy T e=>?_,I.free,I.lE,λp hp=>?_,l ⟨oc,O,I.lE x c B⟩ g,by simpa using I.len⟩ ⟨c,g,.inr B⟩
  ·exact(g.2 b (aal (X' (T' e) (I.ok.Uy x c Mt B)))).trans (I.base.keep b o e n J C)
  ·obtain⟨sl,t⟩:=I.base.slot b o e n J C;exact⟨sl,(g.2 b (aal (X' (T' e) (I.ok.Uy x c Mt B)))).trans t⟩
  ·obtain⟨o',t⟩:=I.base.there b o e C;exact⟨o',(g.2 b (aal (X' (T' e) (I.ok.Uy x c Mt B)))).trans t⟩
  ·by_cases K:j=i
   ·subst K;rw[L] at t;cases t;rw[List.getElem?_set_self G] at F
    cases F;exact⟨u,r,.inr ⟨.inl hk,c,B,OS⟩⟩
   ·rw[List.getElem?_set_ne (Ne.symm K)] at F;obtain⟨u',r',q⟩:=hl j y Z t F e3;calc⟨u',r',?_⟩;rcases q with q | ⟨k,T,e,z'⟩
    ·exact .inl q
    ·calc .inr ⟨k,T,e,z'.sameBut g ?_⟩;rintro rfl;exact K (yM hN t (I.ok.inj _ _ _ e B▸L))
  ·by_cases P:T=c
   ·subst P;exact⟨_,OS⟩
   ·obtain⟨a,b⟩:=I.cell y T e;exact⟨a,b.sameBut g P⟩
  ·obtain⟨e,n,S,nf,d⟩:=I.pin p hp;calc⟨(g.2 p.1 ?_).trans e,n,S,nf,d⟩;intro q;rw[q,O]at e;have a:oc=p.2:=Option.some.inj e;calc d R (by rw[<-a];calc abN)
theorem pb{M:Model}{i:Nat}{x:Str}{v:V}{u:Value}{Q:Unit->Shared->Prop}(I:Inv X pins σ H s)(a:X.N.Nodup)(b:X.N[i]?=some x)(c:Loc X.env.scope x)(r:RelV v u)
  (h:∀s',Inv X pins (σ.set i (some v)) H s'->Q ⟨⟩ s') (d:X.fn x=true\/X.env.scope.names.lookup x=some .local:=by grind):wpAny M A (storeName X.env x u) Q E s:=
 EK I a b c r (λs' e _=>h s' e) d
theorem Inv.VX{s':Shared}(I:Inv X pins σ H s)(f:s'.os=s.os)(u:Un (EI X.stack) ch H H' s.heap s'.heap)(g:nS X.prog X.w H' s'.heap)(h:AllBare s'.gens)
  (i:∀b∈ch,(b∈X.ex\/X.s₀.heap.objs.size<=b)/\b≠X.env.locals/\(∀x c,X.env.cells.lookup x=some c->c≠b)/\∀p∈X.pn++pins,p.1≠b):Inv X pins σ H' s':=by
 obtain⟨h',a,d,t',b⟩:=s';have e:b=s.os:=f;subst e;calc I.call (g':=a) (t':=t') (d':=d) u g h i
end
abbrev XK:=Value->Option Addr->Hp->Prop
abbrev St:=List (Option V)
abbrev VK:=V->Hp->Prop
abbrev TE:=St->Hp->VK->Prop
abbrev TT:=St->Hp->(Bool->Hp->Prop)->Prop
abbrev TA:=St->Hp->(List V->Hp->Prop)->Prop
structure Ends where
 nx:St->Hp->Prop
 rt:VK
 bk:St->Hp->Prop:=λ_ _=>False
 ct:St->Hp->Prop:=λ_ _=>False
abbrev TS:=Ends->St->Hp->Prop
def EP(X:Cx)(pins:List (Addr×Obj))(σ:St)(Q:VK)(u:Value)(s':Shared):Prop:=∃v a,Inv X pins σ a s'/\RelV v u/\Q v a
def TP(X:Cx)(pins:List (Addr×Obj))(σ:St)(Q:Bool->Hp->Prop)(b:Bool)(s':Shared):Prop:=∃a,Inv X pins σ a s'/\Q b a
def AP(X:Cx)(pins:List (Addr×Obj))(σ:St)(Q:List V->Hp->Prop)(us:List Value)(s':Shared):Prop:=∃vs a,Inv X pins σ a s'/\Vals vs us/\Q vs a
def SP(X:Cx)(pins:List (Addr×Obj))(D:Ends)(f:Flow)(s':Shared):Prop:=
 match f with
 | .next=>∃a b,Inv X pins a b s'/\D.nx a b
 | .brk=>∃a b,Inv X pins a b s'/\D.bk a b
 | .cont=>∃a b,Inv X pins a b s'/\D.ct a b
 | .ret u=>∃v a b,Inv X pins a b s'/\RelV v u/\D.rt v b
structure PE(X:Cx)(e:Expr)(t:TE):Prop where
 out:
  ∀(pins:List (Addr×Obj)) (s:Shared) (σ:St) (H:Hp) (Q:VK),Inv X pins σ H s->t σ H Q->wpAny (model X.prog X.w) X.A (eval e X.env) (EP X pins σ Q) X.xe s
instance {X:Cx}{e:Expr}{t:TE}:CoeFun (PE X e t) λ_=>
 ∀(pins:List (Addr×Obj)) (s:Shared) (σ:St) (H:Hp) (Q:VK),Inv X pins σ H s->t σ H Q->wpAny (model X.prog X.w) X.A (eval e X.env) (EP X pins σ Q) X.xe s:=⟨PE.out⟩
structure PT(X:Cx)(e:Expr)(t:TT):Prop where
 out:
  ∀(pins:List (Addr×Obj)) (s:Shared) (σ:St) (H:Hp) (Q:Bool->Hp->Prop),Inv X pins σ H s->t σ H Q->wpAny (model X.prog X.w) X.A (isTrue e X.env (eval e X.env)) (TP X pins σ Q) X.xe s
instance {X:Cx}{e:Expr}{t:TT}:CoeFun (PT X e t) λ_=>
 ∀(pins:List (Addr×Obj)) (s:Shared) (σ:St) (H:Hp) (Q:Bool->Hp->Prop),Inv X pins σ H s->t σ H Q->wpAny (model X.prog X.w) X.A (isTrue e X.env (eval e X.env)) (TP X pins σ Q) X.xe s:=⟨PT.out⟩
structure PW(X:Cx)(e:Expr)(t:TT):Prop where
 out:
  ∀(whole:Sem Value) (pins:List (Addr×Obj)) (s:Shared) (σ:St) (H:Hp) (Q:Bool->Hp->Prop),Inv X pins σ H s->t σ H Q->wpAny (model X.prog X.w) X.A (isTrue e X.env whole) (TP X pins σ Q) X.xe s
instance {X:Cx}{e:Expr}{t:TT}:CoeFun (PW X e t) λ_=>
 ∀(a:Sem Value) (pins:List (Addr×Obj)) (s:Shared) (σ:St) (H:Hp) (Q:Bool->Hp->Prop),Inv X pins σ H s->t σ H Q->wpAny (model X.prog X.w) X.A (isTrue e X.env a) (TP X pins σ Q) X.xe s:=⟨PW.out⟩
theorem PW.pt{X:Cx}{e:Expr}{t:TT}(h:PW X e t):PT X e t:=⟨h.out _⟩
structure PA(X:Cx)(es:List Expr)(t:TA):Prop where
 out:
  ∀(pos:Pos) (pins:List (Addr×Obj)) (s:Shared) (σ:St) (H:Hp) (Q:List V->Hp->Prop),Inv X pins σ H s->t σ H Q->wpAny (model X.prog X.w) X.A (spliced (backTo pos (starEach es X.env))) (AP X pins σ Q) X.xe s
instance {X:Cx}{es:List Expr}{t:TA}:CoeFun (PA X es t) λ_=>
 ∀(a:Pos) (pins:List (Addr×Obj)) (s:Shared) (σ:St) (H:Hp) (Q:List V->Hp->Prop),Inv X pins σ H s->t σ H Q->wpAny (model X.prog X.w) X.A (spliced (backTo a (starEach es X.env))) (AP X pins σ Q) X.xe s:=⟨PA.out⟩
structure PS(X:Cx)(st:Stmt)(t:TS):Prop where
 out:
  ∀(pins:List (Addr×Obj)) (s:Shared) (σ:St) (H:Hp) (D:Ends),Inv X pins σ H s->t D σ H->wpAny (model X.prog X.w) X.A (exec st X.env) (SP X pins D) X.xe s
instance {X:Cx}{a:Stmt}{t:TS}:CoeFun (PS X a t) λ_=>
 ∀(pins:List (Addr×Obj)) (s:Shared) (σ:St) (H:Hp) (D:Ends),Inv X pins σ H s->t D σ H->wpAny (model X.prog X.w) X.A (exec a X.env) (SP X pins D) X.xe s:=⟨PS.out⟩
structure yE(X:Cx)(st:List Stmt)(t:TS):Prop where
 out:
  ∀(pins:List (Addr×Obj)) (s:Shared) (σ:St) (H:Hp) (D:Ends),Inv X pins σ H s->t D σ H->wpAny (model X.prog X.w) X.A (execs st X.env) (SP X pins D) X.xe s
instance {X:Cx}{a:List Stmt}{t:TS}:CoeFun (yE X a t) λ_=>
 ∀(pins:List (Addr×Obj)) (s:Shared) (σ:St) (H:Hp) (D:Ends),Inv X pins σ H s->t D σ H->wpAny (model X.prog X.w) X.A (execs a X.env) (SP X pins D) X.xe s:=⟨yE.out⟩
theorem dq{α:Type}{t:Sem α}{Q b:α->Shared->Prop}{M:Model}{s:Shared}(h:wpAny M A t Q E s)(c:∀a s,Q a s->b a s):wpAny M A t b E s:=aaE h c λ_ _ x=>x
end
section
variable {pins:List (Addr×Obj)}{pos:Pos}{σ:St}{x:Str}{u:Value}{E Q:Value->Shared->Prop}
section
variable {X:Cx}
def GN(i:Nat):TE:=λσ H Q=>∃v,σ[i]?=some (some v)/\Q v H
def tC(v:V):TE:=λ_ H Q=>Q v H
theorem GO{i:Nat}(c:X.N[i]?=some x)(g:VT X.env.scope x)(b:(x==("__debug__":Str))=false:=by decide)(j:(x==("__classdict__":Str))=false:=by decide):PE X (.Name x pos) (GN i):=by
 walk_at "xc";obtain⟨v,e,h⟩:=h;obtain⟨m,k,n⟩:=I.loc;obtain⟨u,r,l⟩:=n i x v c e g;have a:EP X pins σ Q u s:=⟨v,H,I,r,h⟩
 rcases l with⟨hk,e⟩|⟨hk,c,d,f⟩
 ·exact wpAny_Name (wpAny_loadName_local I.ok.kind hk k e a) b
 ·rcases hk with hk | hk
  ·exact wpAny_Name (wpAny_loadName_cell I.ok.kind hk d f a) b
  ·calc wpAny_Name (wpAny_loadName_free I.ok.kind hk d f a j) b
theorem ai{i j pos}:PE X (.Constant (.int i) j pos) (tC (.int i)):=.mk λ_ _ _ H _ I h=>wpAny_Constant_int ⟨.int i,H,I.tok _,⟨_,rfl⟩,h⟩
theorem hX{b j pos}:PE X (.Constant (.bool b) j pos) (tC (.bl b)):=.mk λ_ _ _ H _ I h=>Constant_bool ⟨.bl b,H,I,rfl,h⟩
theorem gm{j pos}:PE X (.Constant .none j pos) (tC .bL):=.mk λ_ _ _ H _ I h=>Constant_none ⟨.bL,H,I,rfl,h⟩
theorem aE{x j pos}:PE X (.Constant (.str x) j pos) (tC (.str x)):=.mk λ_ _ _ H _ I h=>Calls.Constant_str ⟨.str x,H,I.tok _,⟨_,rfl⟩,h⟩
def Gl(X:Cx)(x:Str):Prop:=X.env.kindOf x=some .globalImplicit
theorem sD{s:Shared}{H:Hp}(I:Inv X pins σ H s)(a:Gl X x)(b:X.mg x=some u)(h:Q u s)
  (c:(x==("__debug__":Str))=false:=by decide):wpAny (model X.prog X.w) X.A (eval (.Name x pos) X.env) Q E s:=
 Calls.Name_function_global I.ok.kind a (Calls.loadGlobal_global (by rw[I.ok.glob];calc I.mod.glob.keeps I.bk) b h) c
theorem nU{s:Shared}{H:Hp}(I:Inv X pins σ H s)(a:Gl X x)(b:X.mg x=none)(c:bootBuiltins x=some u)(h:Q u s)
  (d:x≠"__name__":=by decide) (e:(x==("__debug__":Str))=false:=by decide):wpAny (model X.prog X.w) X.A (eval (.Name x pos) X.env) Q E s:=by
 obtain⟨i,f,g⟩:=I.mod.blt;calc Calls.Name_function_global I.ok.kind a (Calls.loadGlobal_builtin (by rw[I.ok.glob];calc I.mod.glob.keeps I.bk) b (by rw[I.ok.blt];calc f.keeps I.bk) ((g x d).trans c) h) e
theorem CH{v:V}(a:Gl X x)(b:X.mg x=some u)(r:RelV v u)(c:(x==("__debug__":Str))=false:=by decide):PE X (.Name x pos) (tC v):=
 .mk λ_ _ _ H _ I h=>sD I a b ⟨v,H,I,r,h⟩ c
theorem cU{v:V}(a:Gl X x)(b:X.mg x=none)(c:bootBuiltins x=some u)(r:RelV v u)(d:x≠"__name__":=by decide)(e:(x==("__debug__":Str))=false:=by decide):PE X (.Name x pos) (tC v):=
 .mk λ_ _ _ H _ I h=>nU I a b c ⟨v,H,I,r,h⟩ d e
variable {a b:Expr}{ta tb:TE}{pos:Pos}
structure PC(X:Cx)(op:CmpOp)(a b:Expr)(t:TE):Prop where
 out:
  ∀(pins:List (Addr×Obj)) (s:Shared) (σ:St) (H:Hp) (Q:VK),Inv X pins σ H s->t σ H Q->
   wpAny (model X.prog X.w) X.A (eval a X.env) (λv s₁=>wpAny (model X.prog X.w) X.A (eval b X.env) (λu s₂=>wpAny (model X.prog X.w) X.A (compareOp op v u) (EP X pins σ Q) X.xe s₂) X.xe s₁) X.xe s
instance {X:Cx}{e:CmpOp}{a b:Expr}{t:TE}:CoeFun (PC X e a b t) λ_=>
 ∀(pins:List (Addr×Obj)) (s:Shared) (σ:St) (H:Hp) (Q:VK),Inv X pins σ H s->t σ H Q->
  wpAny (model X.prog X.w) X.A (eval a X.env) (λv c=>wpAny (model X.prog X.w) X.A (eval b X.env) (λu d=>wpAny (model X.prog X.w) X.A (compareOp e v u) (EP X pins σ Q) X.xe d) X.xe c) X.xe s:=⟨PC.out⟩
def tB(t:TE):TT:=λσ H Q=>t σ H λx a=>∃c,x=.bl c/\Q c a
theorem QU{c:CmpOp}{t:TE}(h:PC X c a b t)(e:behindInMarks c b=false:=by first|calc f _ ∅ ∅|rfl):PT X (.Compare a [c] [b] pos) (tB t):=by
 calc⟨?_⟩;intro pins s σ H Q I c;calc wpAny_isTrue_Compare1 (dq (h pins s σ H _ I c) λv f e=>dq e λu c f=>dq f λc h g=>?_) e;obtain⟨x,i,j,k,l⟩:=g;obtain⟨d,rfl,q⟩:=l
 cases k;calc aaW ⟨i,j,q⟩
theorem QV{e:Expr}{t:TE}(h:PE X e t)(he:∀a,isTrue e X.env a=(do let v <-a;standAt e.pos;holding [v] (truthy v)):=by intro _;rfl):PT X e (tB t):=by
 calc⟨?_⟩;intro pins s σ H Q I a;calc isTrue_plain (dq (h pins s σ H _ I a) λv e b=>?_) (he _);obtain⟨x,c,f,g,i⟩:=b;obtain⟨d,rfl,q⟩:=i
 cases g;calc aaW ⟨c,f,q⟩
variable {tA tB':TT}{rest:List Expr}
def QW(t u:TT):TT:=λσ H Q=>t σ H λc a=>if c=true then u σ a Q else Q false a
def tOr(t u:TT):TT:=λσ H Q=>t σ H λc a=>if c=true then Q true a else u σ a Q
def QX(t:TT):TT:=λσ H Q=>t σ H λc a=>Q (!c) a
theorem pw_and1(b:PT X a tA):PW X (.BoolOp .And [a] pos) tA:=by
 calc⟨?_⟩;intro d pins s σ H Q I h;refine isTrue_and (dq (b pins s σ H Q I h) λc f e=>?_)
 cases c with
 |true=>calc isTrue_and_nil e
 |false=>calc e
theorem pw_or1(b:PT X a tA):PW X (.BoolOp .Or [a] pos) tA:=by
 calc⟨?_⟩;intro d pins s σ H Q I h;refine isTrue_or (dq (b pins s σ H Q I h) λc f e=>?_)
 cases c with
 |false=>calc isTrue_or_nil e
 |true=>calc e
theorem pw_and(g:PT X a tA)(i:PW X (.BoolOp .And (b::rest) pos) tB'):PW X (.BoolOp .And (a::b::rest) pos) (QW tA tB'):=by
 calc⟨?_⟩;intro j pins s σ H Q I h;calc isTrue_and (dq (g pins s σ H _ I h) λc k l=>?_);obtain⟨d,e,f⟩:=l
 cases c with
 |true=>calc i j pins k σ d Q e f
 |false=>calc⟨d,e,f⟩
theorem pw_or(g:PT X a tA)(i:PW X (.BoolOp .Or (b::rest) pos) tB'):PW X (.BoolOp .Or (a::b::rest) pos) (tOr tA tB'):=by
 calc⟨?_⟩;intro j pins s σ H Q I h;calc isTrue_or (dq (g pins s σ H _ I h) λc k l=>?_);obtain⟨d,e,f⟩:=l
 cases c with
 |true=>calc⟨d,e,f⟩
 |false=>calc i j pins k σ d Q e f
theorem bR(b:PT X a tA):PT X (.UnaryOp .Not a pos) (QX tA):=by
 walk_at "xc";exact isTrue_not (b pins s σ H (λc d=>Q (!c) d) I h)
def GP(ta tb:TE):TE:=λσ H Q=>ta σ H λx a=>∃c,x=.bl c/\if c=true then tb σ a Q else Q (.bl false) a
def GQ(ta:TE):TE:=λσ H Q=>ta σ H λx a=>∃c,x=.bl c/\Q (.bl (!c)) a
theorem iz{op}{t:TE}(h:PE X a t):PE X (.BoolOp op [a] pos) t:=.mk λpins s σ H Q I b=>BoolOp_one (h pins s σ H Q I b)
theorem fR(g:PE X a ta)(i:PE X (.BoolOp .And (b::rest) pos) tb):PE X (.BoolOp .And (a::b::rest) pos) (GP ta tb):=by
 walk_at "xc";refine BoolOp_and (dq (g pins s σ H _ I h) λv j k=>?_);obtain⟨x,e,f,l,d⟩:=k;obtain⟨c,rfl,d⟩:=d
 cases l;refine aaW ?_
 cases c with
 |true=>calc i pins j σ e Q f d
 |false=>calc⟨.bl false,e,f,rfl,d⟩
theorem GR(d:PE X a ta):PE X (.UnaryOp .Not a pos) (GQ ta):=by
 walk_at "xc";refine UnaryOp_ (dq (d pins s σ H _ I h) λv j e=>?_);obtain⟨x,f,g,i,b⟩:=e;obtain⟨c,rfl,b⟩:=b
 cases i;calc not_of (aaW ⟨.bl (!c),f,g,rfl,b⟩)
def tIf(t:TT)(ta tb:TE):TE:=λσ H Q=>t σ H λc a=>if c=true then ta σ a Q else tb σ a Q
theorem yN{c:Expr}(j:PT X c tA)(k:PE X a ta)(l:PE X b tb):PE X (.IfExp c a b pos) (tIf tA ta tb):=by
 walk_at "xc";refine wpAny_IfExp (dq (j pins s σ H _ I h) λd e c=>?_);obtain⟨f,g,i⟩:=c
 cases d with
 |true=>calc k pins e σ f Q g i
 |false=>calc l pins e σ f Q g i
end
end
section
variable {X:Cx}{e tg:Expr}{pins:List (Addr×Obj)}{i:Nat}{σ:St}{x:Str}{te:TE}{K:W.Frag}
def aO(K:W.Frag)(H:Hp)(a:Addr)(xs:List V):Prop:=
 Rd H a (.lst xs)\/
  ∃(o:Obj) (b:Array Value) (n:Nat),K.lookup a=some o/\o.cls=.type "list"/\o.dict=none/\o.data=.seq b n/\b.size<=sizeLine/\Vals xs b.toList
def bF(K:W.Frag)(H:Hp)(a:Addr)(xs:List V):Prop:=
 Rd H a (.tup xs)\/
  ∃(o:Obj) (b:Array Value) (n:Nat),K.lookup a=some o/\o.cls=.type "tuple"/\o.data=.seq b n/\b.size<=sizeLine/\Vals xs b.toList
def abQ:Value->Option V
 | .none=>some .bL
 | .bool b=>some (.bl b)
 | .int i _=>some (.int i)
 | .str x _=>some (.str x)
 | .bytes b _=>some (.CB b)
 | .float b _=>some (.OL b)
 | .ref a=>some (.ref a)
 | .type n=>some (.ty n)
 |_=>none
theorem RelV.abs{x:V}{u:Value}(r:RelV x u):abQ u=some x:=by
 cases x with
 |bL=>cases r;rfl
 |bl _=>cases r;rfl
 |int _=>obtain⟨t,rfl⟩:=r;rfl
 |str _=>obtain⟨t,rfl⟩:=r;rfl
 |CB _=>obtain⟨t,rfl⟩:=r;rfl
 |OL _=>obtain⟨t,rfl⟩:=r;rfl
 |ref _=>cases r;rfl
 |ty _=>cases r;rfl
theorem RelV.inj{x y:V}{u:Value}(r:RelV x u)(q:RelV y u):x=y:=Option.some.inj (r.abs.symm.trans q.abs)
theorem Vals.inj:∀{xs a:List V}{us:List Value},Vals xs us->Vals a us->xs=a
 |_,_,_,.nil,.nil=>rfl
 |_,_,_,.cons r t,.cons a b=>by rw[r.inj a,Vals.inj t b]
section
variable {X:Cx}{pins:List (Addr×Obj)}{σ:St}{H:Hp}{s:Shared}{a:Addr}{xs ys:List V}
theorem aO.of(h:H a=some (.lst xs)):aO K H a xs:=.inl (.inl h)
theorem bF.of(h:H a=some (.tup xs)):bF K H a xs:=.inl (.inl h)
theorem Inv.list(I:Inv X pins σ H s)(h:aO X.K H a xs):∃b:List Value,Vals xs b/\PlainL s.heap a b.toArray/\xs.length<=sizeLine:=by
 rcases h with h|⟨o,b,n,c,d,f,g,i,r⟩
 ·obtain⟨z,b,n,r,e⟩:=h.ok I.ba;exact⟨b,r,⟨_,n,e,rfl,rfl,rfl⟩,z⟩
 ·calc⟨b.toList,r,⟨o,n,I.kX a o c,d,f,by simpa using g⟩,?_⟩;have e:=r.length;simp only[Array.length_toList]at e;lia
theorem Inv.tuple(I:Inv X pins σ H s)(h:bF X.K H a xs):∃b:List Value,Vals xs b/\IsTup s.heap a b.toArray/\xs.length<=sizeLine:=by
 rcases h with h|⟨o,b,n,c,d,f,g,r⟩
 ·obtain⟨z,b,r,p⟩:=h.ok I.ba;exact⟨b,r,p,z⟩
 ·calc⟨b.toList,r,⟨o,I.kX a o c,d,n,by simpa using f⟩,?_⟩;have e:=r.length;simp only[Array.length_toList]at e;lia
theorem Inv.yO(I:Inv X pins σ H s)(h:aO X.K H a xs)(h':aO X.K H a ys):xs=ys:=by
 obtain⟨f,r,⟨o,n,e,_,_,d⟩,_⟩:=I.list h;obtain⟨g,i,⟨j,k,b,_,_,c⟩,_⟩:=I.list h';rw[e]at b;cases b;rw[d]at c;injection c with h _
 have:f=g:=by simpa using congrArg Array.toList h
 subst this;calc r.inj i
theorem Inv.vM(I:Inv X pins σ H s)(h:bF X.K H a xs)(h':bF X.K H a ys):xs=ys:=by
 obtain⟨f,r,⟨o,e,_,n,d⟩,_⟩:=I.tuple h;obtain⟨g,i,⟨j,b,_,k,c⟩,_⟩:=I.tuple h';rw[e]at b;cases b;rw[d]at c;injection c with h _
 have:f=g:=by simpa using congrArg Array.toList h
 subst this;calc r.inj i
end
abbrev Cx.vc(X:Cx)(E:Value->Shared->Prop):Cx:={X with xe:=E}
abbrev Cx.Mu(X:Cx):Cx:=X.vc λ_ _=>False
theorem Cx.Ok.vc(a:X.Ok)(E:Value->Shared->Prop):(X.vc E).Ok:=
 ⟨a.mod,a.kind,a.glob,a.blt,a.above,a.inj,a.has,a.Uy,a.hd,a.frames,a.VU,a.exf,a.bs,a.GL,a.A0,a.EJ,a.p9,a.OM⟩
theorem Cx.Ok.lH{E:Value->Shared->Prop}(a:(X.vc E).Ok):X.Ok:=
 ⟨a.mod,a.kind,a.glob,a.blt,a.above,a.inj,a.has,a.Uy,a.hd,a.frames,a.VU,a.exf,a.bs,a.GL,a.A0,a.EJ,a.p9,a.OM⟩
section
variable {X:Cx}{pins:List (Addr×Obj)}{σ:St}{H:Hp}{s:Shared}{E:Value->Shared->Prop}
theorem Inv.vc(I:Inv X pins σ H s)(E:Value->Shared->Prop):Inv (X.vc E) pins σ H s:=⟨I.ok.vc E,I.os,I.bare,I.base,I.loc,I.cell,I.free,I.lE,I.pin,I.ba,I.len⟩
theorem Inv.lH(I:Inv (X.vc E) pins σ H s):Inv X pins σ H s:=⟨I.ok.lH,I.os,I.bare,I.base,I.loc,I.cell,I.free,I.lE,I.pin,I.ba,I.len⟩
theorem SP.lH{D:Ends}{f:Flow}{s':Shared}(h:SP (X.vc E) pins D f s'):SP X pins D f s':=by
 cases f with
 |next=>obtain⟨a,b,I,q⟩:=h;calc⟨a,b,I.lH,q⟩
 |brk=>obtain⟨a,b,I,q⟩:=h;calc⟨a,b,I.lH,q⟩
 |cont=>obtain⟨a,b,I,q⟩:=h;calc⟨a,b,I.lH,q⟩
 |ret u=>obtain⟨v,a,b,I,r,q⟩:=h;calc⟨v,a,b,I.lH,r,q⟩
theorem yE.Mu{a:List Stmt}{t:TS}(h:yE X.Mu a t):yE X a t:=.mk λpins s σ H D I a=>
 aaE (h pins s σ H D (I.vc _) a) (λ_ _ q=>q.lH) λ_ _ z=>aaK z
end
section
variable {X:Cx}{st:Stmt}{rest:List Stmt}{t u:TS}{e:Expr}{te:TE}{pos:Pos}
def GS:TS:=λD σ H=>D.nx σ H
def A7(t u:TS):TS:=λD σ H=>t {D with nx:=u D} σ H
theorem aK:yE X [] GS:=.mk λ_ _ σ H _ I h=>wpAny_execs_nil ⟨σ,H,I,h⟩
theorem ag(a:PS X st t)(b:yE X rest u):yE X (st::rest) (A7 t u):=by
 walk_at "xd";refine wpAny_execs_cons (dq (a pins s σ H {D with nx:=u D} I h) λf c q=>?_)
 cases f with
 |next=>
  obtain⟨a,d,e,q⟩:=q;calc b pins c a d D e q
 |ret v=>calc q
 |brk=>calc q
 |cont=>calc q
theorem aj(a:PS X st t):yE X [st] t:=by
 walk_at "xd";refine wpAny_execs_cons (dq (a pins s σ H D I h) λf b q=>?_)
 cases f with
 |next=>calc wpAny_execs_nil q
 |ret v=>calc q
 |brk=>calc q
 |cont=>calc q
theorem Inv.quiet{H:Hp}{s:Shared}(I:Inv X pins σ H s):interactive X.env=false:=by simp[interactive,I.ok.kind]
def CI(te:TE):TS:=λD σ H=>te σ H λ_ a=>D.nx σ a
theorem Mv(he:PE X e te)(a:swapsWith e none pos.line X.env=pure false:=by rfl):PS X (.Expr e pos) (CI te):=by
 walk_at "xd";exact wpAny_Expr_any (dq (he pins s σ H _ I h) λv f ⟨x,b,c,g,d⟩=>⟨σ,b,c,d⟩) I.quiet a
def QY(te:TE):TS:=λD σ H=>te σ H D.rt
theorem aH(he:PE X e te):PS X (.Return (some e) pos) (QY te):=by
 walk_at "xd";exact wpAny_Return_some (dq (he pins s σ H _ I h) λv f ⟨x,a,b,c,d⟩=>⟨x,σ,a,b,c,d⟩)
def EM(c:TT)(t u:TS):TS:=λD σ H=>c σ H λb a=>if b=true then t D σ a else u D σ a
theorem aU{c:Expr}{a b:List Stmt}{e:TT}(k:PT X c e)(l:yE X a t)(m:yE X b u):PS X (.If c a b pos) (EM e t u):=by
 walk_at "xd";refine wpAny_If (dq (k pins s σ H _ I h) λd f a=>?_);obtain⟨g,i,j⟩:=a
 cases d with
 |true=>calc l pins f σ g D i j
 |false=>calc m pins f σ g D i j
def A8:TS:=λ_ _ _=>False
theorem cq:PS X st A8:=.mk λ_ _ _ _ _ _ h=>h.elim
end
abbrev TG:=V->St->Hp->(St->Hp->Prop)->Prop
abbrev OT:=List V->St->Hp->(St->Hp->Prop)->Prop
structure PG(X:Cx)(target:Expr)(t:TG):Prop where
 out:
  ∀(pins:List (Addr×Obj)) (s:Shared) (σ:St) (H:Hp) (v:V) (u:Value) (Q:St->Hp->Prop),Inv X pins σ H s->RelV v u->t v σ H Q->
   wpAny (model X.prog X.w) X.A (assign target X.env u) (λ_ s'=>∃σ' H',Inv X pins σ' H' s'/\Q σ' H') X.xe s
instance {X:Cx}{a:Expr}{t:TG}:CoeFun (PG X a t) λ_=>
 ∀(pins:List (Addr×Obj)) (s:Shared) (σ:St) (H:Hp) (v:V) (u:Value) (Q:St->Hp->Prop),Inv X pins σ H s->RelV v u->t v σ H Q->
  wpAny (model X.prog X.w) X.A (assign a X.env u) (λ_ s'=>∃a b,Inv X pins a b s'/\Q a b) X.xe s:=⟨PG.out⟩
structure Uz(X:Cx)(ts:List Expr)(t:OT):Prop where
 out:
  ∀(pins:List (Addr×Obj)) (s:Shared) (σ:St) (H:Hp) (vs:List V) (us:List Value) (Q:St->Hp->Prop),Inv X pins σ H s->Vals vs us->t vs σ H Q->
   wpAny (model X.prog X.w) X.A (assignInOrder ((assignEach ts X.env).map (·.2)) us) (λ_ s'=>∃σ' H',Inv X pins σ' H' s'/\Q σ' H') X.xe s
instance {X:Cx}{a:List Expr}{t:OT}:CoeFun (Uz X a t) λ_=>
 ∀(pins:List (Addr×Obj)) (s:Shared) (σ:St) (H:Hp) (vs:List V) (us:List Value) (Q:St->Hp->Prop),Inv X pins σ H s->Vals vs us->t vs σ H Q->
  wpAny (model X.prog X.w) X.A (assignInOrder ((assignEach a X.env).map (·.2)) us) (λ_ s'=>∃a b,Inv X pins a b s'/\Q a b) X.xe s:=⟨Uz.out⟩
abbrev QZ:=V->V->V->Hp->(Hp->Prop)->Prop
def Q0(X:Cx)(t:QZ):Prop:=
 ∀(pins:List (Addr×Obj)) (s:Shared) (σ:St) (H:Hp) (o i v:V) (a b u:Value) (Q:Hp->Prop),Inv X pins σ H s->RelV o a->RelV i b->RelV v u->t o i v H Q->
  wpAny (model X.prog X.w) X.A (setItem a b u) (λ_ s'=>∃a,Inv X pins σ a s'/\Q a) X.xe s
abbrev TIp:=V->V->Hp->VK->Prop
def PIp(X:Cx)(a:Operator)(t:TIp):Prop:=
 ∀(pins:List (Addr×Obj)) (s:Shared) (σ:St) (H:Hp) (x y:V) (v u:Value) (Q:VK),Inv X pins σ H s->RelV x v->RelV y u->t x y H Q->
  wpAny (model X.prog X.w) X.A (inplaceOp a v u) (EP X pins σ Q) X.xe s
section
variable {X:Cx}{pos:Pos}
def dE(i:Nat):TG:=λv σ H Q=>Q (σ.set i (some v)) H
theorem aR(a:X.N.Nodup)(b:X.N[i]?=some x)(c:Loc X.env.scope x)(d:X.fn x=true\/X.env.scope.names.lookup x=some .local:=by grind):PG X (.Name x pos) (dE i):=by
 calc⟨?_⟩;intro pins s σ H v u Q I r h;calc wpAny_assign_Name (pb I a b c r (λf e=>⟨_,H,e,h⟩) d)
def A9:OT:=λvs σ H Q=>vs=[]/\Q σ H
def iA(t:TG)(u:OT):OT:=λvs σ H Q=>∃v r,vs=v::r/\t v σ H λa b=>u r a b Q
theorem w6:Uz X [] A9:=by
 calc⟨?_⟩;intro pins s σ H a b Q I r h;obtain⟨e,h⟩:=h;subst e
 cases r;calc assignInOrder_nil ⟨σ,H,I,h⟩
theorem iB{es:List Expr}{t:TG}{u:OT}(a:PG X e t)(b:Uz X es u)
  (c:(assignEach (e::es) X.env).map (·.2)=assign e X.env::(assignEach es X.env).map (·.2):=by rfl):Uz X (e::es) (iA t u):=by
 calc⟨?_⟩;intro pins s σ H f g Q I r h;obtain⟨v,i,d,h⟩:=h;subst d
 cases r with
 |cons r d=>
  rw[c];calc assignInOrder_cons (dq (a pins s σ H _ _ _ I r h) λ_ f g=>?_);obtain⟨a,c,h,i⟩:=g;calc b pins f a c _ _ Q h d i
def Ba(K:W.Frag)(n:Nat)(t:OT):TG:=λv σ H Q=>∃a xs,v=.ref a/\bF K H a xs/\xs.length=n/\t xs σ H Q
theorem Bb{es:List Expr}{k:Nat}{t:OT}{n:Nat}(b:X.calm=true)(h:Uz X es t)
  (d:(assignEach es X.env).length=n:=by rfl) (f:(assignEach es X.env).findIdx? (·.1)=none:=by rfl):PG X (.Tuple es k pos) (Ba X.K n t):=by
 calc⟨?_⟩;intro pins s σ H v u Q I r c;obtain⟨a,g,i,j,l,c⟩:=c;subst i
 cases r;obtain⟨k,a,i,m⟩:=I.tuple j;calc assign_Tuple_tuple (I.ok.hd b) i (by simp[d,<-l,a.length]) f λk m=>?_;have d:Inv X pins σ H {s with heap:=k}:=I.kept (t':=s.toks) λb o e=>m b o (aal (T' e)) e;calc h pins _ σ H g _ Q d (by simpa using a) c
def Q1(a b:TE)(t:QZ):TG:=λv σ H Q=>a σ H λo c=>b σ c λi a=>t o i v a λb=>Q σ b
theorem iC{o i:Expr}{c d:TE}{t:QZ}(e:PE X o c)(f:PE X i d)(g:Q0 X t)
  (j:∀v,assign (.Subscript o i pos) X.env v=(do
   let a <-holding [v] (eval o X.env)
   let b <-holding [v,a] (eval i X.env)
   standAt pos
   holding [v,a,b] (setItem a b v)
   release [v,a,b] []):=by intro _;rfl):PG X (.Subscript o i pos) (Q1 c d t):=by
 calc⟨?_⟩;intro pins s σ H v u Q I r h;rw[j];calc E' (aaS (dq (e pins s σ H _ I h) λa d c=>?_));obtain⟨x,e,h,j,k⟩:=c;calc E' (aaS (dq (f pins d σ e _ h k) λb l c=>?_));obtain⟨y,d,e,f,h⟩:=c;calc E' (wpAny_standAt (E' (aaS (dq (g pins l σ d x y v a b u _ e j f r h) λ_ k c=>?_))));obtain⟨a,b,d⟩:=c;calc wpAny_release ⟨σ,a,b,d⟩
def EN(te:TE)(g:TG):TS:=λD σ H=>te σ H λx a=>g x σ a D.nx
theorem dy{g:TG}(he:PE X e te)(a:PG X tg g)(b:swapsWithSole [tg] e pos.line X.env=pure false:=by rfl)(c:swappedStores [tg] e X.env=pure none:=by rfl)
  (d:(assignEach [tg] X.env).map (·.2)=[assign tg X.env]:=by rfl):PS X (.Assign [tg] e pos) (EN te g):=by
 walk_at "xd";refine wpAny_Assign_stores (dq (he pins s σ H _ I h) λv f g=>?_) b c;obtain⟨x,i,j,k,l⟩:=g;rw[d];exact dq (a pins f σ i x v _ j k l) λ_ b q=>q
theorem GU{a:Pos}(b:X.N.Nodup)(c:X.N[i]?=some x)(d:Loc X.env.scope x)(he:PE X e te)(f:swapsWith e (some (.Name x a)) pos.line X.env=pure false:=by rfl)(g:X.fn x=true\/X.env.scope.names.lookup x=some .local:=by grind):
  PS X (.Assign [.Name x a] e pos) (EN te (dE i)):=by
 walk_at "xd";refine wpAny_Assign_Name (dq (he pins s σ H _ I h) λv j a=>?_) f;obtain⟨y,j,k,l,m⟩:=a;exact pb k b c d l (λn f=>⟨_,j,f,m⟩) g
def Q2(i:Nat)(te:TE)(a:TIp):TS:=λD σ H=>∃x,σ[i]?=some (some x)/\te σ H λy b=>a x y b λz c=>D.nx (σ.set i (some z)) c
theorem Q3{c:Operator}{f:TIp}{a:Pos}(n:X.N.Nodup)(g:X.N[i]?=some x)(d:Loc X.env.scope x)(he:PE X e te)(o:PIp X c f)(p:X.fn x=true\/X.env.scope.names.lookup x=some .local:=by grind):
  PS X (.AugAssign (.Name x a) c e pos) (Q2 i te f):=by
 walk_at "xd";obtain⟨v,q,h⟩:=h;obtain⟨m,t,y⟩:=I.loc;have b:VT X.env.scope x:=by rcases d with k|k;exact .inl k;exact .inr (.inl k)
 obtain⟨u,r,l⟩:=y i x v g q b;calc wpAny_AugAssign_Name ?_;have j:wpAny (model X.prog X.w) X.A (eval e X.env) (λw a=>wpAny (model X.prog X.w) X.A (inplaceOp c u w) (λr b=>wpAny (model X.prog X.w) X.A (storeName X.env x r) (λ_=>SP X pins D .next) X.xe b) X.xe a) X.xe s:=by
  calc dq (he pins s σ H _ I h) λw b a=>?_;obtain⟨y,c,f,m,q⟩:=a;calc dq (o pins b σ c v y u w _ f r m q) λz E a=>?_;obtain⟨o,b,c,f,m⟩:=a;exact pb c n g d f (λq o=>⟨_,b,o,m⟩) p
 rcases l with⟨hk,a⟩|⟨hk,c,B,C⟩
 ·exact wpAny_loadName_local I.ok.kind hk t a j
 ·rcases hk with hk | hk
  ·exact wpAny_loadName_cell I.ok.kind hk B C j
  ·rcases d with k | k
   ·have:X.env.scope.names.lookup x=some .free:=hk;rw[k]at this;cases this
   ·have:X.env.scope.names.lookup x=some .free:=hk;rw[k]at this;cases this
def ipI(f:Int->Int->Int):TIp:=λx y H Q=>∃i j,x=.int i/\y=.int j/\Q (.int (f i j)) H
theorem Q4:PIp X .Add (ipI λi j=>i+j):=by
 intro pins s σ H x y v u Q I a b h;obtain⟨i,j,c,d,q⟩:=h;subst c;subst d;obtain⟨t,rfl⟩:=a;obtain⟨e,rfl⟩:=b;calc iadd_int ⟨.int _,H,I.tok _,⟨_,rfl⟩,q⟩
end
section
variable {X:Cx}{pos:Pos}
def xa(c:TT)(f:TS):TS:=λD σ H=>∃W:Nat->St->Hp->Prop,(∃m,W m σ H)/\∀m σ H,W m σ H->
 c σ H λb d=>if b=true then ∃N:St->Hp->Prop,(∀a c,N a c->∃e,e<m/\W e a c)/\f {D with nx:=N,ct:=N,bk:=D.nx} σ d else D.nx σ d
theorem yP{c:Expr}{a:List Stmt}{i:TT}{j:TS}(k:PassesOwn (model X.prog X.w) X.A X.env X.xe)(p:PT X c i)(q:yE X a j):PS X (.While c a [] pos) (xa i j):=by
 walk_at "xd";obtain⟨W,⟨r,t⟩,a⟩:=h;refine wpAny_While (codeAny_whileLoop (λn u=>∃c i,Inv X pins c i u/\W n c i) ?_ r ⟨σ,H,I,t⟩);rintro n v ⟨d,j,x,y⟩;refine wpAny_passesOwn k (dq (p pins v d j _ x (a n d j y)) λb z B=>?_);obtain⟨l,m,e⟩:=B
 cases b with
 |true=>
  obtain⟨N,o,e⟩:=e;rw[if_pos rfl];refine wpAny_passesOwn k (dq (q pins z d l _ m e) λf a g=>?_)
  cases f with
  |next=>
   obtain⟨a,b,c,f⟩:=g;obtain⟨i,j,k⟩:=o a b f;calc⟨i,j,a,b,c,k⟩
  |cont=>
   obtain⟨a,b,c,f⟩:=g;obtain⟨i,j,k⟩:=o a b f;calc⟨i,j,a,b,c,k⟩
  |brk=>calc g
  |ret v=>calc g
 |false=>
  rw[if_neg R'];calc wpAny_execs_nil ⟨d,l,m,e⟩
end
structure It where
 go:Nat->Hp->Prop
 OU:Nat->Hp->V->Hp->Prop
 stop:Nat->Hp->Prop
def qa(X:Cx)(pins:List (Addr×Obj))(H:Hp)(b:Addr):Prop:=
 H b=none/\b≠X.env.locals/\b∉X.fs/\(b∈X.ex\/X.s₀.heap.objs.size<=b)/\(∀x c,X.env.cells.lookup x=some c->c≠b)/\∀p∈X.pn++pins,p.1≠b
theorem Inv.GV{H c:Hp}{s:Shared}{b:Addr}(I:Inv X pins σ H s)(a:s.heap.objs.size<=b)(d:c b=none):qa X pins c b:=by
 refine⟨d,aaA (X' I.lt a),I.QS a,.inr (aaq I.sz a),λx c e z=>?_,λp b z=>?_⟩
 ·obtain⟨v,q⟩:=I.cell x c e;exact absurd (X' q.lt (by rw[z];calc a)) (aaM _)
 ·calc absurd (X' (T' (I.pin p b).1) (by rw[z];calc a)) (aaM _)
structure Turn(P:Program)(w:World)(K:W.Frag)(tg:Expr)(J:It)(fp:List Addr)(it:Addr)(tn:Nat->Heap->Prop):Prop where
 mem:it∈fp
 obj:∀i h,tn i h->∀b∈fp,∃o,h.get? b=some o/\∀v,o.data≠.cell v
 keep:∀i h h',tn i h->(∀b∈fp,∀o,h.get? b=some o->h'.get? b=some o)->tn i h'
 item:∀(X:Cx),X.prog=P->X.w=w->X.K=K->X.calm=true->∀(i:Nat) (pins:List (Addr×Obj)) (s:Shared) (σ:St) (H:Hp) (E:Value->Shared->Prop),Inv X pins σ H s->(∀b ∈ fp,qa X pins H b)->tn i s.heap->J.go i H->
  wpAny (model P w) X.A (pyNext (.ref it)) (λr s1=>∃u,r=some u/\
   wpAny (model P w) X.A (letOwnedTupleGo tg (.ref it) u) (λ_ s2=>∃x H',Inv X pins σ H' s2/\RelV x u/\J.OU i H x H'/\tn (i + 1) s2.heap/\∀b ∈ fp,H' b=none) E s1) E s
 done:∀(X:Cx),X.prog=P->X.w=w->X.K=K->X.calm=true->∀(i:Nat) (pins:List (Addr×Obj)) (s:Shared) (σ:St) (H:Hp) (E:Value->Shared->Prop),Inv X pins σ H s->(∀b ∈ fp,qa X pins H b)->tn i s.heap->J.stop i H->
  wpAny (model P w) X.A (pyNext (.ref it)) (λr s1=>r=none/\Inv X pins σ H s1) E s
 self:∀(A:Around) (i:Nat) (s:Shared) (Q:Value->Shared->Prop) (E:Value->Shared->Prop),tn i s.heap->Q (.ref it) s->wpAny (model P w) A (pyIter (.ref it)) Q E s
abbrev TI:=St->Hp->(It->Hp->Prop)->Prop
def PIE(X:Cx)(pins:List (Addr×Obj))(σ:St)(tg:Expr)(R:It->Hp->Prop)(a:Value)(d:Shared):Prop:=
 ∃(e:Addr) (f:List Addr) (g:Nat->Heap->Prop) (J:It) (c:Hp),a=.ref e/\Inv X pins σ c d/\Turn X.prog X.w X.K tg J f e g/\g 0 d.heap/\(∀b∈f,qa X pins c b)/\R J c
structure PI(X:Cx)(tg iter:Expr)(wi:TI):Prop where
 out:
  ∀(pins:List (Addr×Obj)) (s:Shared) (σ:St) (H:Hp) (R:It->Hp->Prop),Inv X pins σ H s->wi σ H R->
   wpAny (model X.prog X.w) X.A (eval iter X.env) (λv s1=>wpAny (model X.prog X.w) X.A (pyIter v) (PIE X pins σ tg R) X.xe s1) X.xe s
instance {X:Cx}{tg a:Expr}{b:TI}:CoeFun (PI X tg a b) λ_=>
 ∀(pins:List (Addr×Obj)) (s:Shared) (σ:St) (H:Hp) (R:It->Hp->Prop),Inv X pins σ H s->b σ H R->
  wpAny (model X.prog X.w) X.A (eval a X.env) (λv b=>wpAny (model X.prog X.w) X.A (pyIter v) (PIE X pins σ tg R) X.xe b) X.xe s:=⟨PI.out⟩
theorem GW{M:Model}{A:Around}{E:Value->Shared->Prop}{s:Shared}{tg:Expr}{b:Addr}{u:Value}{o:Obj}{n:String}{vs:Array Value}{Q:Unit->Shared->Prop}(c:s.heap.get? b=some o)(d:o.cls=.type n)(e:o.data=.fields vs)
    (f:["enumerate","zip","dict_itemiterator","dict_reverseitemiterator","odict_iterator","itertools.zip_longest","itertools.pairwise"].contains n=false) (a:Q ⟨⟩ s):wpAny M A (letOwnedTupleGo tg (.ref b) u) Q E s:=by
  unfold letOwnedTupleGo
  cases tg<;>first
    |calc P' a
    | (cases u <;> first
        |calc P' a
        | (refine E' (wpAny_load c ?_)
           rw[d,e];show wpAny M A (if (["enumerate","zip","dict_itemiterator","dict_reverseitemiterator","odict_iterator","itertools.zip_longest","itertools.pairwise"].contains n && vs[0]? == some (rawInt _))=true then _ else _) Q E s;rw[if_neg (by intro h;rw[f,Bool.false_and] at h;cases h)];exact P' a))
def rD(K:W.Frag)(a:Addr):It:=
 ⟨λi H=>∃xs x,aO K H a xs/\xs[i]?=some x,λi H x b=>b=H/\∀xs,aO K H a xs->xs[i]?=some x,λi H=>∃xs,aO K H a xs/\xs.length<=i⟩
def Q5(K:W.Frag)(a:Addr):It:=
 ⟨λi H=>∃xs x,bF K H a xs/\xs[i]?=some x,λi H x b=>b=H/\∀xs,bF K H a xs->xs[i]?=some x,λi H=>∃xs,bF K H a xs/\xs.length<=i⟩
def Bc(lo:Int)(n:Nat):It:=⟨λi _=>i<n,λi H x a=>a=H/\x=.int (lo+i),λi _=>n<=i⟩
theorem EO{P:Program}{w:World}(a g:Addr):Turn P w K tg (rD K a) [g] g (λi h=>h.IsListIter g a i) where
 mem:=by simp
 obj:=λi h f b j=>by
  have e:b=g:=by simpa using j
  subst e;obtain⟨o,e,c,d⟩:=f;exact⟨o,e,λv z=>by rw[d]at z;cases z⟩
 keep:=λi h l f k=>f.at λo e=>k g nofun o e
 item:=by
  intro X q r t L i pins s σ H E I m f y;subst q r t;obtain⟨M,x,n,A⟩:=y;obtain⟨N,B,p,O⟩:=I.list n;obtain⟨u,k,v⟩:=B.get A;obtain⟨C,D,Q,F,G,J⟩:=m g nofun;calc wpAny_pyNext_list_item f p.isList (x:=u) (by simpa using k) λl a w=>?_;have k:Inv X pins σ H {s with heap:=l}:=I.turned (t':=s.toks) (λb o j e=>(w.2 b j).trans e) C D F G J;obtain⟨o,e,c,d⟩:=id a;exact⟨u,rfl,GW (s:={s with heap:=l}) e c d ∅ ⟨x,H,k,v,⟨rfl,λw u=>by rw[I.yO u n];calc A⟩,a,λb j=>(m b j).1⟩⟩
 done:=by
  intro X q r t L i pins s σ H E I m f y;subst q r t;obtain⟨M,n,A⟩:=y;obtain⟨N,B,p,O⟩:=I.list n;obtain⟨C,D,Q,F,G,J⟩:=m g nofun;have a:=B.length;exact wpAny_pyNext_list_end (I.ok.hd L) f p.isList (by simp;lia) λl a=>⟨rfl,I.turned (t':=s.toks) (λb o j e=>a b o j e) C D F G J⟩
 self:=λ_ _ _ _ _ f h=>wpAny_pyIter_listiter f h
theorem Bd{P:Program}{w:World}(a g:Addr):Turn P w K tg (Q5 K a) [g] g (λi h=>h.IsTupleIter g a i) where
 mem:=by simp
 obj:=λi h f b j=>by
  have e:b=g:=by simpa using j
  subst e;obtain⟨o,e,c,d⟩:=f;exact⟨o,e,λv z=>by rw[d]at z;cases z⟩
 keep:=λi h l f k=>f.at λo e=>k g nofun o e
 item:=by
  intro X q r t M i pins s σ H E I m f y;subst q r t;obtain⟨N,x,n,A⟩:=y;obtain⟨B,C,p,O⟩:=I.tuple n;obtain⟨u,v,w⟩:=C.get A;obtain⟨D,F,Q,G,J,L⟩:=m g nofun;calc wpAny_pyNext_tuple_item f (show s.heap.IsTuple a B.toArray from p) (x:=u) (by simpa using v) λl k z=>?_;have v:Inv X pins σ H {s with heap:=l}:=I.turned (t':=s.toks) (λb o j e=>(z.2 b j).trans e) D F G J L;obtain⟨o,e,c,d⟩:=id k;exact⟨u,rfl,GW (s:={s with heap:=l}) e c d ∅ ⟨x,H,v,w,⟨rfl,λz u=>by rw[I.vM u n];calc A⟩,k,λb j=>(m b j).1⟩⟩
 done:=by
  intro X q r t M i pins s σ H E I m f y;subst q r t;obtain⟨N,n,A⟩:=y;obtain⟨B,C,p,O⟩:=I.tuple n;obtain⟨D,F,Q,G,J,L⟩:=m g nofun;have c:=C.length;exact wpAny_pyNext_tuple_end (I.ok.hd M) f (show s.heap.IsTuple a B.toArray from p) (by simp;lia) λl c=>⟨rfl,I.turned (t':=s.toks) (λb o j e=>c b o j e) D F G J L⟩
 self:=λ_ _ _ _ _ f h=>wpAny_pyIter_tupleiter f h
theorem Be{P:Program}{w:World}(c:Addr)(lo:Int)(n:Nat):Turn P w K tg (Bc lo n) [c] c (λi h=>IsRangeIter h c (lo+(i:Nat)*1) ((n:Int)-(i:Nat)) 1) where
 mem:=by simp
 obj:=λi h a b d=>by
  have e:b=c:=by simpa using d
  subst e;exact⟨_,a,λv z=>by
   have k:Data.fields _=Data.cell v:=z
   cases k⟩
 keep:=λi h f a k=>k c nofun _ a
 item:=by
  intro X j l m p i pins s σ H E I g a q;subst j l m;obtain⟨r,u,D,x,y,A⟩:=g c nofun;have W:=Walks.range (prog:=X.prog) (w:=X.w) (I.ok.hd p) c lo 1 n;calc W.item i s _ _ q a λv f B F C G=>?_;obtain⟨t,rfl⟩:=F;have k:Inv X pins σ H {s with heap:=f,toks:=B}:=I.turned (λb o d e=>G b o (by simpa using d) e) r u x y A;calc⟨_,rfl,GW (s:={s with heap:=f,toks:=B}) (n:="range_iterator") C rfl rfl ∅ ⟨.int (lo+i),H,k,⟨t,?_⟩,⟨rfl,rfl⟩,C,λb d=>(g b d).1⟩⟩;rw[Int.mul_one]
 done:=by
  intro X j l m p i pins s σ H E I g a q;subst j l m;obtain⟨r,u,D,x,y,A⟩:=g c nofun;exact wpAny_pyNext_range_end (I.ok.hd p) a (by have:n<=i:=q;lia) λf c=>⟨rfl,I.turned (t':=s.toks) (λb o d e=>c b o d e) r u x y A⟩
 self:=λ_ _ _ _ _ a h=>wpAny_pyIter_rangeiter a h
end
section
variable {H:Hp}{pins:List (Addr×Obj)}{s:Shared}{σ:St}{g:TG}{tb:TS}
section
variable {X:Cx}{tg:Expr}
theorem GX{R:It->Hp->Prop}{E:Value->Shared->Prop}{lo a:Int}{t u v:Tok}{c:Nat}(I:Inv X pins σ H s)(f:-(2^62)<=lo)(g:lo<2^62)(h:-(2^62)<=a)(i:a<2^62)
  (q:R (Bc lo (a-lo).toNat) H):wpAny (model X.prog X.w) X.A (pyIter (.ref s.heap.objs.size)) (PIE X pins σ tg R) E {s with heap:=s.heap.push {cls:=.type "range",data:=.fields #[.int lo t,.int a u,.int 1 v]},toks:=c}:=by
 refine wpAny_pyIter_range (IsRange.new ..) (small_one f g h i) ?_;have d:Inv X pins σ H {s with heap:=s.heap.push {cls:=.type "range",data:=.fields #[.int lo t,.int a u,.int 1 v]},toks:=c}:=I.kept λb o e=>K' _ e;refine⟨(s.heap.push {cls:=.type "range",data:=.fields #[.int lo t,.int a u,.int 1 v]}).objs.size,[(s.heap.push {cls:=.type "range",data:=.fields #[.int lo t,.int a u,.int 1 v]}).objs.size],_,_,H,rfl,
  d.kept (t':=c) λb o e=>K' _ e,Be _ lo (a - lo).toNat,?_,λb j=>?_,q⟩
 ·have k:lo + ((0:Nat):Int) * 1=lo:=by simp
  have l:(((a-lo).toNat:Nat):Int)-((0:Nat):Int)=Builtin.Range.rangeSize lo a 1:=by rw[rangeSize_one];split<;>lia
  show IsRangeIter _ _ (lo+((0:Nat):Int)*1) ((((a-lo).toNat:Nat):Int)-((0:Nat):Int)) 1;rw[k,l];exact Y' _ rfl
 ·have e:b=(s.heap.push {cls:=.type "range",data:=.fields #[.int lo t,.int a u,.int 1 v]}).objs.size:=by simpa using j
  subst e;calc d.GV (F' _) (d.ba.fresh (F' _))
def GY(a:TA):TI:=λσ H R=>a σ H λvs b=>∃j:Int,vs=[.int j]/\-(2^62)<=j/\j<2^62/\R (Bc 0 j.toNat) b
theorem cy{a:Expr}{d:TA}{p b:Pos}(f:Gl X "range")(g:X.mg "range"=none)(i:PA X [a] d)(j:starEach [a] X.env=[(false,eval a X.env)]:=by rfl):PI X tg (.Call (.Name "range" p) [a] [] b) (GY d):=by
 calc⟨?_⟩;intro pins s σ H R I h;calc Call_ (nU I f g boot_range (PyProof.Rows.callWith_type1 (dq (i b pins s σ H _ I h) λd o a=>?_) j rfl));obtain⟨b,d,k,l,c⟩:=a;obtain⟨j,e,c,m,q⟩:=c;subst e
 cases l with
 |cons r n=>
  cases n;obtain⟨t,rfl⟩:=r;calc call_range_1 (GX k () () c m (by simpa using q))
def Q6(a:TI)(g:TG)(tb:TS):TS:=λD σ H=>a σ H λJ b=>∃W:Nat->Nat->St->Hp->Prop,(∃m,W 0 m σ b)/\∀i m σ H,W i m σ H->
 (J.stop i H/\D.nx σ H)\/(J.go i H/\∃N:St->Hp->Prop,(∀a b,N a b->∃d,d<m/\W (i+1) d a b)/\∀x b,J.OU i H x b->g x σ b λc e=>tb {D with nx:=N,ct:=N,bk:=D.nx} c e)
def qb(a:List Addr)(h:Heap):List (Addr×Obj):=a.filterMap λb=>(h.get? b).map λo=>(b,o)
theorem ke{a:List Addr}{h:Heap}{b:Addr}{o:Obj}(c:b∈a)(e:h.get? b=some o):(b,o)∈qb a h:=List.mem_filterMap.mpr ⟨b,c,by rw[e];rfl⟩
theorem ER{a:List Addr}{h:Heap}{p:Addr×Obj}(c:p∈qb a h):p.1∈a/\h.get? p.1=some p.2:=by
 obtain⟨b,d,e⟩:=List.mem_filterMap.mp c
 cases q:h.get? b with
 |none=>rw[q]at e;cases e
 |some o=>
  rw[q]at e;have f:(b,o)=p:=Option.some.inj e;subst f;calc⟨d,q⟩
theorem Inv.pinned{a:List Addr}(I:Inv X pins σ H s)(g:∀b∈a,qa X pins H b)(h:∀b∈a,∃o,s.heap.get? b=some o/\∀v,o.data≠.cell v):Inv X (pins++qb a s.heap) σ H s:=
 I.wZ λp a=>(List.mem_append.mp a).elim (λz=>I.pin p (aau _ z)) λz=>by
  obtain⟨c,e⟩:=ER z;obtain⟨i,j,k,_⟩:=g p.1 c;obtain⟨o,f,d⟩:=h p.1 c;rw[e]at f;cases f;calc⟨e,i,j,k,d⟩
theorem Inv.lI{pl:List (Addr×Obj)}(I:Inv X (pins++pl) σ H s):Inv X pins σ H s:=I.wZ λp a=>I.pin p (aau _ (List.mem_append_left _ a))
theorem dC{c:Expr}{m:List Stmt}{M:TI}{J:Pos}(z:PassesOwn (model X.prog X.w) X.A X.env X.xe)(O:X.calm=true)(Z:PI X tg c M)(hg:PG X tg g)(j:yE X m tb)
  (hs:∀x,foldedSetIterable c X.env x=pure x:=by intro _;rfl):PS X (.For tg c m [] J) (Q6 M g tb):=by
 walk_at "xd";refine wpAny_For (dq (Z pins s σ H _ I h) λv m c=>dq c λm J h2=>?_) hs;obtain⟨c,B,P,J,H2,e,I2,T,pd,Q,W,⟨m0,w0⟩,C⟩:=h2;subst e;have K:∀{o:Hp},(∀b∈B,o b=none)->∀b∈B,qa X pins o b:=λc b j=>⟨c b j,(Q b j).2⟩
 calc codeAny_forLoop_any (λn c=>∃i d o,Inv X pins d o c/\P i c.heap/\(∀b∈B,o b=none)/\W i n d o) ?_ m0 ⟨0,σ,H2,I2,pd,λb j=>(Q b j).1,w0⟩;rintro n R ⟨i,k,G,S,U,Y,w3⟩;rcases C i n k G w3 with⟨c,qn⟩|⟨go,N,hN,E⟩
 ·calc wpAny_passesOwn z (dq (T.done X rfl rfl rfl O i pins R k G X.xe S (K Y) U c) λr s4 y=>?_);obtain⟨L,I4⟩:=y;subst L;exact wpAny_execs_nil ⟨k,G,I4,qn⟩
 ·calc wpAny_passesOwn z (dq (T.item X rfl rfl rfl O i pins R k G X.xe S (K Y) U go) λr s4 y=>?_);obtain⟨u,L,h4⟩:=y;subst L;calc wpAny_passesOwn z (dq h4 λ_ C y=>?_);obtain⟨x,G,J,L,M,c,m⟩:=y;have r:=J.pinned (K m) (T.obj _ _ c);calc wpAny_passesOwn z (dq (hg _ C k G x u _ r L (E x G M)) λ_ O y=>?_);obtain⟨k,m,u,x⟩:=y;calc wpAny_passesOwn z (dq (j _ O k m _ u x) λf r t=>?_);have l:∀{a:St} {p:Hp},Inv X (pins++qb B C.heap) a p r->N a p->∃m,m<n/\∃i d o,Inv X pins d o r/\P i r.heap/\(∀b∈B,o b=none)/\W i m d o:=λ{a p} q F=>by
   obtain⟨d,k,m⟩:=hN a p F;calc⟨d,k,i+1,a,p,q.lI,T.keep _ _ _ c λb j o e=>(q.pin (b,o) (aau _ (aau _ (ke j e)))).1,λb j=>?_,m⟩;obtain⟨o,e,d⟩:=T.obj _ _ c b j;exact(q.pin (b,o) (aau _ (aau _ (ke j e)))).2.1
  cases f with
  |next=>obtain⟨a,p,q,F⟩:=t;calc l q F
  |cont=>obtain⟨a,p,q,F⟩:=t;calc l q F
  |brk=>obtain⟨a,p,q,t⟩:=t;calc⟨a,p,q.lI,t⟩
  |ret v=>obtain⟨b,a,p,q,c,t⟩:=t;calc⟨b,a,p,q.lI,c,t⟩
end
theorem d9{K:W.Frag}{a:Addr}{xs:List V}{D:Ends}(b:Nat->St->Hp->Prop)(k:b 0 σ H)(l:∀i σ H,i<=xs.length->b i σ H->aO K H a xs)
  (n:∀i x σ H,xs[i]?=some x->b i σ H->g x σ H λc h=>tb {D with nx:=b (i+1),ct:=b (i+1),bk:=D.nx} c h) (o:∀σ H,b xs.length σ H->D.nx σ H):
  ∃W:Nat->Nat->St->Hp->Prop,(∃m,W 0 m σ H)/\∀i m σ H,W i m σ H->
   ((rD K a).stop i H/\D.nx σ H)\/((rD K a).go i H/\∃N:St->Hp->Prop,(∀d f,N d f->∃j,j<m/\W (i+1) j d f)/\∀x f,(rD K a).OU i H x f->g x σ f λc h=>tb {D with nx:=N,ct:=N,bk:=D.nx} c h):=by
 calc⟨λi m σ H=>m=xs.length-i/\i<=xs.length/\b i σ H,⟨xs.length,nofun,aaj _,k⟩,?_⟩;rintro i m σ H ⟨rfl,c,p⟩;have q:=l i σ H c p;by_cases a:i<xs.length
 ·calc .inr ⟨⟨xs,xs[i],q,by simp[a]⟩,b (i+1),λd f c=>⟨xs.length-(i+1),(),rfl,a,c⟩,λx f y=>?_⟩;obtain⟨e,y⟩:=y;subst e;exact n i x σ _ (y xs q) p
 ·have e:i=xs.length:=by lia
  subst e;calc .inl ⟨⟨xs,q,F' _⟩,o σ H p⟩
theorem iu{lo:Int}{n:Nat}{D:Ends}(a:Nat->St->Hp->Prop)(k:a 0 σ H)
  (l:∀i σ H,i<n->a i σ H->g (.int (lo+i)) σ H λb f=>tb {D with nx:=a (i+1),ct:=a (i+1),bk:=D.nx} b f) (o:∀σ H,a n σ H->D.nx σ H):
  ∃W:Nat->Nat->St->Hp->Prop,(∃m,W 0 m σ H)/\∀i m σ H,W i m σ H->
   ((Bc lo n).stop i H/\D.nx σ H)\/((Bc lo n).go i H/\∃N:St->Hp->Prop,(∀c d,N c d->∃j,j<m/\W (i+1) j c d)/\∀x d,(Bc lo n).OU i H x d->g x σ d λb f=>tb {D with nx:=N,ct:=N,bk:=D.nx} b f):=by
 calc⟨λi m σ H=>m=n-i/\i<=n/\a i σ H,⟨n,nofun,aaj _,k⟩,?_⟩;rintro i m σ H ⟨rfl,b,p⟩;by_cases h:i<n
 ·calc .inr ⟨h,a (i+1),λc d b=>⟨n-(i+1),(),rfl,h,b⟩,λx d y=>?_⟩;obtain⟨e,y⟩:=y;subst e y;exact l i σ _ h p
 ·have e:i=n:=by lia
  subst e;calc .inl ⟨F' _,o σ H p⟩
end
section
variable {op:CmpOp}{g:Int->Int->Int}
abbrev R2:=V->V->Hp->VK->Prop
def fQ(X:Cx)(f:Value->Value->Sem Value)(r:R2):Prop:=
 ∀(pins:List (Addr×Obj)) (s:Shared) (σ:St) (H:Hp) (x y:V) (v u:Value) (Q:VK),Inv X pins σ H s->RelV x v->RelV y u->r x y H Q->
  wpAny (model X.prog X.w) X.A (f v u) (EP X pins σ Q) X.xe s
def UnR(X:Cx)(f:Value->Sem Value)(r:V->Hp->VK->Prop):Prop:=
 ∀(pins:List (Addr×Obj)) (s:Shared) (σ:St) (H:Hp) (x:V) (v:Value) (Q:VK),Inv X pins σ H s->RelV x v->r x H Q->
  wpAny (model X.prog X.w) X.A (f v) (EP X pins σ Q) X.xe s
def fe(X:Cx)(f:Value)(r:List V->Hp->VK->Prop):Prop:=
 ∀(pins:List (Addr×Obj)) (s:Shared) (σ:St) (H:Hp) (xs:List V) (us:List Value) (Q:VK),Inv X pins σ H s->Vals xs us->r xs H Q->
  wpAny (model X.prog X.w) X.A (call f us) (EP X pins σ Q) X.xe s
def AK(r:R2)(a b:TE):TE:=λσ H Q=>a σ H λx c=>b σ c λy a=>r x y a Q
def tUn(r:V->Hp->VK->Prop)(a:TE):TE:=λσ H Q=>a σ H λx b=>r x b Q
def rI(C:Int->Int->Prop)(g:Int->Int->V):R2:=λx y H Q=>∃i j,x=.int i/\y=.int j/\C i j/\Q (g i j) H
def LQ(g:Int->Int->V):R2:=λx y H Q=>∃i j,x=.int i/\y=.int j/\Q (g i j) H
def rU(g:Int->V):V->Hp->VK->Prop:=λx H Q=>∃i,x=.int i/\Q (g i) H
section
variable {X:Cx}{a b c:Expr}{ta tb tc:TE}{pos:Pos}
theorem Q7(j:PE X a ta)(k:PE X b tb){pins:List (Addr×Obj)}{s:Shared}{σ:St}{H:Hp}{R:V->V->Hp->Prop}(I:Inv X pins σ H s)
  (h:ta σ H λx i=>tb σ i λy c=>R x y c) {Q:Value->Shared->Prop} {f:Value->Value->Sem Value}
  (l:∀v u g x y c,Inv X pins σ c g->RelV x v->RelV y u->R x y c->wpAny (model X.prog X.w) X.A (f v u) Q X.xe g):
  wpAny (model X.prog X.w) X.A (eval a X.env) (λv d=>wpAny (model X.prog X.w) X.A (eval b X.env) (λu e=>wpAny (model X.prog X.w) X.A (f v u) Q X.xe e) X.xe d) X.xe s:=by
 calc dq (j pins s σ H _ I h) λv e d=>?_;obtain⟨x,i,f,h,j⟩:=d;calc dq (k pins e σ i _ f j) λu g d=>?_;obtain⟨y,c,e,f,i⟩:=d;calc l v u g x y c e h f i
theorem bc{op:Operator}{r:R2}(c:fQ X (binaryOp op) r)(d:PE X a ta)(e:PE X b tb):PE X (.BinOp a op b pos) (AK r ta tb):=by
 walk_at "xc";exact wpAny_BinOp (Q7 d e I h λv u f x y g i j k q=>c pins f σ g x y v u Q i j k q)
theorem kY{op:UnaryOp}{r:V->Hp->VK->Prop}(b:UnR X (unaryOp op) r)(c:PE X a ta):PE X (.UnaryOp op a pos) (tUn r ta):=by
 walk_at "xc";exact UnaryOp_ (dq (c pins s σ H _ I h) λv d ⟨x,e,f,g,i⟩=>b pins d σ e x v Q f g i)
theorem UA{f:Value->Value->Sem Value}{C:Int->Int->Prop}
  (a:∀(i j:Int) (t u:Tok) (s:Shared) (Q:Value->Shared->Prop) (E:Value->Shared->Prop),C i j->Q (.int (g i j) s.toks) {s with toks:=s.toks+1}->wpAny (model X.prog X.w) X.A (f (.int i t) (.int j u)) Q E s):
  fQ X f (rI C λi j=>.int (g i j)):=by
 intro b s σ H x y v u Q I c d h;obtain⟨i,j,rfl,rfl,e,q⟩:=h;obtain⟨t,rfl⟩:=c;obtain⟨k,rfl⟩:=d;calc a i j t k s _ _ e ⟨.int (g i j),H,I.tok _,⟨_,rfl⟩,q⟩
theorem Q8{f:Value->Value->Sem Value}
  (a:∀(i j:Int) (t u:Tok) (s:Shared) (Q:Value->Shared->Prop) (E:Value->Shared->Prop),Q (.int (g i j) s.toks) {s with toks:=s.toks+1}->wpAny (model X.prog X.w) X.A (f (.int i t) (.int j u)) Q E s):
  fQ X f (LQ λi j=>.int (g i j)):=by
 intro b s σ H x y v u Q I c d h;obtain⟨i,j,rfl,rfl,q⟩:=h;obtain⟨t,rfl⟩:=c;obtain⟨e,rfl⟩:=d;calc a i j t e s _ _ ⟨.int (g i j),H,I.tok _,⟨_,rfl⟩,q⟩
theorem Mw{f:Value->Value->Sem Value}{g:Int->Int->Bool}
  (a:∀(i j:Int) (t u:Tok) (s:Shared) (Q:Value->Shared->Prop) (E:Value->Shared->Prop),Q (.bool (g i j)) s->wpAny (model X.prog X.w) X.A (f (.int i t) (.int j u)) Q E s):
  fQ X f (LQ λi j=>.bl (g i j)):=by
 intro b s σ H x y v u Q I c d h;obtain⟨i,j,rfl,rfl,q⟩:=h;obtain⟨t,rfl⟩:=c;obtain⟨e,rfl⟩:=d;calc a i j t e s _ _ ⟨.bl (g i j),H,I,rfl,q⟩
def ES(i j:Int):Prop:=0<=j/\j<=1000000/\i.natAbs<2^64
def GZ(i j:Int):Prop:=(-(2^64)<i/\i<2^64)\/(-(2^64)<j/\j<2^64)
theorem GZ.ok{i j:Int}(h:GZ i j):IntMulOk i j:=by
 rcases h with⟨a,b⟩|⟨a,b⟩
 ·exact .of_left (intBits_le_64 a b)
 ·calc .of_right (intBits_le_64 a b)
theorem sY(k:Nat):(0:Int)<=2^k:=by
 rw[two_pow_cast];calc Int.natCast_nonneg _
theorem Q9:fQ X (binaryOp .Add) (LQ λi j=>.int (i+j)):=Q8 λ_ _ _ _ _ _ _ q=>add_int q
theorem Ra:fQ X (binaryOp .Sub) (LQ λi j=>.int (i-j)):=Q8 λ_ _ _ _ _ _ _ q=>sub_int q
theorem Rb:fQ X (binaryOp .Mult) (rI GZ λi j=>.int (i*j)):=UA λ_ _ _ _ _ _ _ a q=>mul_int q a.ok
theorem Rc:fQ X (binaryOp .Mod) (rI (λ_ j=>0<j) λi j=>.int (i%j)):=UA λi j _ _ _ _ _ a q=>by
 have b:(0:Int)<j:=a;calc mod_int' () (by rw[Int.fmod_eq_emod_of_nonneg i ()];calc q)
theorem Rf:fQ X (binaryOp .Pow) (rI ES λi j=>.int (i^j.toNat)):=UA λ_ _ _ _ _ _ _ a q=>pow_int_small a.1 a.2.1 a.2.2 q
theorem Rg:fQ X (binaryOp .LShift) (rI ES λi j=>.int (i*2^j.toNat)):=UA λ_ _ _ _ _ _ _ a q=>lshift_int_small a.1 a.2.1 a.2.2 q
theorem Rh:fQ X (binaryOp .RShift) (rI (λ_ j=>0<=j) λi j=>.int (i/2^j.toNat)):=UA λi j _ _ _ _ _ a q=>
 rshift_int a (by rw[Int.fdiv_eq_ediv_of_nonneg i (sY _)];calc q)
theorem Ri:fQ X (binaryOp .BitAnd) (LQ λi j=>.int (Builtin.bitAnd i j)):=Q8 λ_ _ _ _ _ _ _ q=>and_int q
theorem unI{f:Value->Sem Value}{g:Int->Int}
  (a:∀(i:Int) (t:Tok) (s:Shared) (Q:Value->Shared->Prop) (E:Value->Shared->Prop),Q (.int (g i) s.toks) {s with toks:=s.toks+1}->wpAny (model X.prog X.w) X.A (f (.int i t)) Q E s):
  UnR X f (rU λi=>.int (g i)):=by
 intro b s σ H x v Q I c h;obtain⟨i,rfl,q⟩:=h;obtain⟨t,rfl⟩:=c;calc a i t s _ _ ⟨.int (g i),H,I.tok _,⟨_,rfl⟩,q⟩
theorem gR:UnR X (unaryOp .USub) (rU λi=>.int (-i)):=unI λ_ _ _ _ _ q=>neg_int q
end
def Mx:V->V->Bool
 | .bL,.bL=>true | .bL,.int _=>true | .int _,.bL=>true | .bL,.bl _=>true | .bl _,.bL=>true | .bL,.str _=>true | .str _,.bL=>true
 | .int _,.int _=>true | .bl _,.bl _=>true | .str _,.str _=>true | .CB _,.CB _=>true
 | .int _,.str _=>true | .str _,.int _=>true | .bl _,.str _=>true | .str _,.bl _=>true
 |_,_=>false
def rEq:R2:=λx y H Q=>Mx x y=true/\Q (.bl (decide (x=y))) H
def rNe:R2:=λx y H Q=>Mx x y=true/\Q (.bl (!decide (x=y))) H
theorem CJ{i j:Int}:decide (V.int i=V.int j)=(i==j):=by
 rw[Bool.eq_iff_iff];simp
theorem G9{i j:Bool}:decide (V.bl i=V.bl j)=(i==j):=by
 rw[Bool.eq_iff_iff];simp
theorem CK{i j:Str}:decide (V.str i=V.str j)=(i==j):=by
 rw[Bool.eq_iff_iff];simp
theorem CL{i j:Array UInt8}:decide (V.CB i=V.CB j)=(i.toList==j.toList):=by
 rw[Bool.eq_iff_iff]
 cases i
 cases j;simp
section
variable {X:Cx}{a b c:Expr}{ta tb tc:TE}{pos:Pos}
theorem bY{pins:List (Addr×Obj)}{σ:St}{H:Hp}{s:Shared}{Q:VK}{k a:Bool}(I:Inv X pins σ H s)(q:Q (.bl k) H)(e:k=a):EP X pins σ Q (.bool a) s:=by
 subst e;calc⟨.bl k,H,I,rfl,q⟩
theorem V0:fQ X (compareOp .Eq) rEq:=by
 intro e s σ H x y v u Q I d a h;obtain⟨c,q⟩:=h
 cases x with
 |bL=>
  cases d
  cases y with
  |bL=>cases a;calc PySem.EqNone.eq_none_none (bY I q nofun)
  |bl j=>cases a;calc PySem.EqNone.eq_none_bool (bY I q nofun)
  |int j=>obtain⟨b,rfl⟩:=a;calc PySem.EqNone.eq_none_int (bY I q nofun)
  |str j=>obtain⟨b,rfl⟩:=a;calc PySem.EqNone.eq_none_str (bY I q nofun)
  |_=>calc absurd (show false=true from c) R'
 |bl i=>
  cases d
  cases y with
  |bL=>cases a;calc PySem.EqNone.eq_bool_none (bY I q nofun)
  |bl j=>cases a;calc eq_bool (bY I q G9)
  |str j=>obtain⟨b,rfl⟩:=a;calc PySem.EqMixed.eq_bool_str (bY I q nofun)
  |_=>calc absurd (show false=true from c) R'
 |int i=>
  obtain⟨t,rfl⟩:=d
  cases y with
  |bL=>cases a;calc PySem.EqNone.eq_int_none (bY I q nofun)
  |int j=>obtain⟨b,rfl⟩:=a;calc eq_int (bY I q CJ)
  |str j=>obtain⟨b,rfl⟩:=a;calc PySem.EqMixed.eq_int_str (bY I q nofun)
  |_=>calc absurd (show false=true from c) R'
 |str i=>
  obtain⟨t,rfl⟩:=d
  cases y with
  |bL=>cases a;calc PySem.EqNone.eq_str_none (bY I q nofun)
  |bl j=>cases a;calc PySem.EqMixed.eq_str_bool (bY I q nofun)
  |int j=>obtain⟨b,rfl⟩:=a;calc PySem.EqMixed.eq_str_int (bY I q nofun)
  |str j=>obtain⟨b,rfl⟩:=a;calc eq_str (bY I q CK)
  |_=>calc absurd (show false=true from c) R'
 |CB i=>
  obtain⟨t,rfl⟩:=d
  cases y with
  |CB j=>obtain⟨b,rfl⟩:=a;calc W.eq_bytes (bY I q CL)
  |_=>calc absurd (show false=true from c) R'
 |_=>cases y<;>calc absurd (show false=true from c) R'
theorem V1:fQ X (compareOp .NotEq) rNe:=by
 intro e s σ H x y v u Q I d a h;obtain⟨c,q⟩:=h
 cases x with
 |bL=>
  cases d
  cases y with
  |bL=>cases a;calc PySem.EqNone.ne_none_none (bY I q nofun)
  |bl j=>cases a;calc PySem.EqNone.ne_none_bool (bY I q nofun)
  |int j=>obtain⟨b,rfl⟩:=a;calc PySem.EqNone.ne_none_int (bY I q nofun)
  |str j=>obtain⟨b,rfl⟩:=a;calc PySem.EqNone.ne_none_str (bY I q nofun)
  |_=>calc absurd (show false=true from c) R'
 |bl i=>
  cases d
  cases y with
  |bL=>cases a;calc PySem.EqNone.ne_bool_none (bY I q nofun)
  |bl j=>cases a;calc ne_bool (bY I q (congrArg not G9))
  |str j=>obtain⟨b,rfl⟩:=a;calc PySem.EqMixed.ne_bool_str (bY I q nofun)
  |_=>calc absurd (show false=true from c) R'
 |int i=>
  obtain⟨t,rfl⟩:=d
  cases y with
  |bL=>cases a;calc PySem.EqNone.ne_int_none (bY I q nofun)
  |int j=>obtain⟨b,rfl⟩:=a;calc ne_int (bY I q (congrArg not CJ))
  |str j=>obtain⟨b,rfl⟩:=a;calc PySem.EqMixed.ne_int_str (bY I q nofun)
  |_=>calc absurd (show false=true from c) R'
 |str i=>
  obtain⟨t,rfl⟩:=d
  cases y with
  |bL=>cases a;calc PySem.EqNone.ne_str_none (bY I q nofun)
  |bl j=>cases a;calc PySem.EqMixed.ne_str_bool (bY I q nofun)
  |int j=>obtain⟨b,rfl⟩:=a;calc PySem.EqMixed.ne_str_int (bY I q nofun)
  |str j=>obtain⟨b,rfl⟩:=a;calc ne_str (bY I q (congrArg not CK))
  |_=>calc absurd (show false=true from c) R'
 |CB i=>
  obtain⟨t,rfl⟩:=d
  cases y with
  |CB j=>obtain⟨b,rfl⟩:=a;calc W.ne_bytes (bY I q (congrArg not CL))
  |_=>calc absurd (show false=true from c) R'
 |_=>cases y<;>calc absurd (show false=true from c) R'
theorem V2:fQ X (compareOp .Lt) (LQ λi j=>.bl (decide (i<j))):=Mw λ_ _ _ _ _ _ _ q=>lt_int q
theorem V3:fQ X (compareOp .LtE) (LQ λi j=>.bl (decide (i<=j))):=Mw λ_ _ _ _ _ _ _ q=>le_int q
theorem V4:fQ X (compareOp .Gt) (LQ λi j=>.bl (decide (j<i))):=Mw λ_ _ _ _ _ _ _ q=>gt_int q
theorem V5:fQ X (compareOp .GtE) (LQ λi j=>.bl (decide (j<=i))):=Mw λ_ _ _ _ _ _ _ q=>ge_int q
theorem Rj:fQ X (compareOp .Is) (λx y H Q=>y=.bL/\Q (.bl (decide (x=.bL))) H):=by
 intro a s σ H x y v u Q I b c h;obtain⟨rfl,q⟩:=h
 cases c;refine is_none_gen (bY I q ?_)
 cases x<;>first
  |(cases b;rfl)
  |(obtain⟨t,rfl⟩:=b;rfl)
theorem My:fQ X (compareOp .IsNot) (λx y H Q=>y=.bL/\Q (.bl (!decide (x=.bL))) H):=by
 intro a s σ H x y v u Q I b c h;obtain⟨rfl,q⟩:=h
 cases c;refine isnot_none_gen (bY I q ?_)
 cases x<;>first
  |(cases b;rfl)
  |(obtain⟨t,rfl⟩:=b;rfl)
theorem aG(b:Expr){op:CmpOp}(h:op≠.In:=by decide)(a:op≠.NotIn:=by decide):behindInMarks op b=false:=by
 have c:(op==CmpOp.In)=false:=by cases op<;>first|rfl|exact absurd rfl h
 have d:(op==CmpOp.NotIn)=false:=by cases op<;>first|rfl|exact absurd rfl a
 cases b<;>simp[behindInMarks,c,d]
theorem fm{r:R2}(c:fQ X (compareOp op) r)(d:PE X a ta)(e:PE X b tb)(f:behindInMarks op b=false):PE X (.Compare a [op] [b] pos) (AK r ta tb):=by
 walk_at "xc";exact wpAny_Compare1 (Q7 d e I h λv u g x y i j k l q=>c pins g σ i x y v u Q j k l q) f
def CM(t:TE):TT:=λσ H Q=>t σ H λx a=>∃k,x=.bl k/\Q k a
theorem xb{r:R2}(d:fQ X (compareOp op) r)(f:PE X a ta)(g:PE X b tb)(i:behindInMarks op b=false):PT X (.Compare a [op] [b] pos) (CM (AK r ta tb)):=by
 walk_at "xc";refine wpAny_isTrue_Compare1 (dq (f pins s σ H _ I h) λv j ⟨x,k,l,m,n⟩=>dq (g pins j σ k _ l n) λu f ⟨y,o,p,q,r⟩=>
  dq (d pins f σ o x y v u _ p m q r) λc g ⟨z,t,w,A,k,e,B⟩=>?_) i
 subst e
 cases A;calc aaW ⟨t,w,B⟩
def Bg(r b:R2)(ta tb tc:TE):TE:=λσ H Q=>ta σ H λx a=>tb σ a λy c=>r x y c λz a=>∃k,z=.bl k/\
 (if k=true then tc σ a λw' c=>b y w' c Q else Q (.bl false) a)
theorem yQ{d:CmpOp}{r f:R2}(m:fQ X (compareOp op) r)(n:fQ X (compareOp d) f)(o:PE X a ta)(p:PE X b tb)(q:PE X c tc)
  (t:lastMarks [op,d] [b,c]=false:=by with_unfolding_all rfl):PE X (.Compare a [op,d] [b,c] pos) (Bg r f ta tb tc):=by
 walk_at "xc";refine Compare_chain (dq (o pins s σ H _ I h) λv d ⟨x,f,r,w,z⟩=>chain_link (dq (p pins d σ f _ r z) λu o ⟨y,A,B,g,C⟩=>
  dq (m pins o σ A x y v u _ B w g C) λd D ⟨z,i,j,E,k,e,l⟩=>?_)) t
 subst e
 cases E;refine aaW ?_
 cases k with
 |false=>calc ite_ff ⟨.bl false,i,j,rfl,l⟩
 |true=>calc ite_tt (chain_last (dq (q pins D σ i _ j l) λd e ⟨f,k,m,o,p⟩=>n pins e σ k y f u d Q m g o p))
theorem sZ:(sizeLine:Nat)<2^63:=by rw[aax];decide
theorem Bh:fQ X (binaryOp .Add) (λx y H Q=>∃i j,x=.str i/\y=.str j/\i.length+j.length<=sizeLine/\Q (.str (i++j)) H):=by
 intro a s σ H x y v u Q I b c h;obtain⟨i,j,rfl,rfl,d,q⟩:=h;obtain⟨t,rfl⟩:=b;obtain⟨e,rfl⟩:=c;calc add_str (λe a=>⟨.str (i++j),H,I.tok _,⟨_,rfl⟩,q⟩) d
theorem vals1{x:V}{us:List Value}(r:Vals [x] us):∃u,us=[u]/\RelV x u:=by
 cases r with
 |cons a b=>cases b;calc⟨_,rfl,a⟩
theorem vals2{x y:V}{us:List Value}(r:Vals [x,y] us):∃u w',us=[u,w']/\RelV x u/\RelV y w':=by
 cases r with
 |cons a b=>
  cases b with
  |cons c d=>cases d;calc⟨_,_,rfl,a,c⟩
theorem ET(b:X.calm=true):fe X (.builtin "max") (λxs H Q=>∃i j,xs=[.int i,.int j]/\Q (.int (if j > i then j else i)) H):=by
 intro a s σ H xs c Q I r h;obtain⟨i,j,rfl,q⟩:=h;obtain⟨u,d,rfl,⟨t,rfl⟩,⟨e,rfl⟩⟩:=vals2 r;refine max_two_ints (I.ok.hd b) λa c k=>⟨_,H,I.kept k,?_,q⟩
 by_cases a:j > i
 ·rw[if_pos a,if_pos a];exact⟨_,rfl⟩
 ·rw[if_neg a,if_neg a];calc⟨_,rfl⟩
theorem vO:fe X (.type "int") (λxs H Q=>(∃i,xs=[.int i]/\Q (.int i) H)\/∃k,xs=[.bl k]/\Q (.int (if k then 1 else 0)) H):=by
 intro a s σ H xs c Q I r h;rcases h with⟨i,rfl,q⟩|⟨k,rfl,q⟩
 ·obtain⟨u,rfl,t,rfl⟩:=vals1 r;exact call_int_int ⟨.int i,H,I,⟨_,rfl⟩,q⟩
 ·obtain⟨u,rfl,b⟩:=vals1 r
  cases b;calc call_int_bool ⟨.int (if k then 1 else 0),H,I.tok _,⟨_,rfl⟩,q⟩
def Ha(K:W.Frag)(x:V)(H:Hp)(n:Nat):Prop:=
 match x with
 | .str y=>y.length<=sizeLine/\n=y.length
 | .CB y=>y.size<=sizeLine/\n=y.size
 | .ref p=>(∃xs,aO K H p xs/\n=xs.length)\/∃xs,bF K H p xs/\n=xs.length
 |_=>False
theorem Hb:fe X (.builtin "len") (λxs H Q=>∃x n,xs=[x]/\Ha X.K x H n/\Q (.int n) H):=by
 intro i s σ H xs m Q I r h;obtain⟨x,n,rfl,e,q⟩:=h;obtain⟨u,rfl,c⟩:=vals1 r;have h:=sZ;have h:sizeLine=16777216:=aax
 cases x with
 |str y=>
  obtain⟨t,rfl⟩:=c;obtain⟨j,b⟩:y.length<=sizeLine/\n=y.length:=e;subst b;calc len_str () ⟨.int _,H,I.tok _,⟨_,rfl⟩,q⟩
 |CB y=>
  obtain⟨t,rfl⟩:=c;obtain⟨j,b⟩:y.size<=sizeLine/\n=y.size:=e;subst b;calc W.len_bytes () ⟨.int _,H,I.tok _,⟨_,rfl⟩,q⟩
 |ref p=>
  cases c;have b:(∃xs,aO X.K H p xs/\n=xs.length)\/∃xs,bF X.K H p xs/\n=xs.length:=e;rcases b with⟨xs,d,b⟩|⟨xs,d,b⟩
  ·subst b;obtain⟨k,f,g,l⟩:=I.list d;have a:=f.length;exact Calls.call_len_list g.isList (by simp only[List.size_toArray];lia) ⟨.int xs.length,H,I.tok _,⟨_,by simp only[List.size_toArray];rw[a]⟩,q⟩
  ·subst b;obtain⟨k,f,g,l⟩:=I.tuple d;have a:=f.length;calc len_tuple g (by simp only[List.size_toArray];lia) ⟨.int xs.length,H,I.tok _,⟨_,by simp only[List.size_toArray];rw[a]⟩,q⟩
 |_=>calc(show False from e).elim
end
end
section
variable {C:Addr}{mA:Str->Option Value}{Q:Value->Shared->Prop}
structure Bi(h:Heap)(x dx C:Addr)(mA:Str->Option Value):Prop where
 obj:h.get? x=some (W.instObj C dx)
 ns:h.Ns1 dx mA
 ne:dx≠x
theorem EU{h:Heap}{c:Addr}(n:h.Ns1 c mA):∃d,h.get? c=some d/\∀name,W.lookIn name d=some (mA name):=by
 obtain⟨o,f,p,g,i,j,_,k⟩:=n;calc⟨o,g,λname=>?_⟩;have e:=k name;unfold nsFind findBy at e;rw[<-Array.find?_toList]at e;unfold W.lookIn;rw[i];dsimp only;split
 ·rename_i y q;rw[q]at e;exact congrArg some e
 ·rename_i q;rw[q]at e;have a:f.toList.any (·.refKey)=false:=by
   rw[List.any_eq_false];intro y l;obtain⟨z,t,b⟩:=j y (Array.mem_toList_iff.mp l);simp[DictEntry.refKey,b]
  have m:¬f.toList.any (·.refKey)=true:=by rw[a];exact R'
  rw[if_neg m];calc congrArg some e
theorem Bi.look{h:Heap}{x b:Addr}(I:Bi h x b C mA):∃a,W.InstAt h x (W.instObj C b) C (some a)/\∀name,W.lookIn name a=some (mA name):=
 let ⟨a,b,c⟩:=EU I.ns
 ⟨a,⟨I.obj,rfl,rfl,b⟩,c⟩
section
variable {prog:Program}{w:World}{A:Around}{E:Value->Shared->Prop}{s:Shared}{K:W.Frag}{x dx C f:Addr}{mA:Str->Option Value}{name:Str}{v:Value}
theorem get_map{a:Bool}(X:K.In s.heap)(I:Bi s.heap x dx C mA)(c:W.plainGet K C name=true)(d:W.hasDictIn K C=true)
  (e:W.findIn K (.ref C) name=some none) (f:mA name=some v) (b:W.handedIn v=true) (h:Q v {s with toks:=s.toks+1}):
  wpAny (model prog w) A (getAttr (.ref x) name a) Q E s:=by
 obtain⟨g,J,a⟩:=I.look;calc W.get_value X J (W.plainGet_of c).1 (W.findObj_own d e rfl (by rw[a,f])) b h
theorem Hc{pl:Sem Bool}{Q:Value×List Value->Shared->Prop}(X:K.In s.heap)(I:Bi s.heap x dx C mA)(a:W.plainGet K C name=true)
  (b:W.findIn K (.ref C) name=some (some (.ref f))) (c:W.isFn K (.ref f)=true) (d:mA name=none) (h:Q (.ref f,[.ref x]) s):
  wpAny (model prog w) A (getMethod (.ref x) name pl) Q E s:=by
 obtain⟨e,J,g⟩:=I.look;calc W.method_fn X J (W.plainGet_of a).1 (W.plainGet_of a).2 b (beq_iff_eq.mp c) (by show(W.lookIn name e).map (·.isSome)=some false;rw[g,d];rfl) h
theorem Mz{ns:List Str}{Q:Unit->Shared->Prop}(X:K.In s.heap)(I:Bi s.heap x dx C mA)
  (b:W.findIn K (.ref C) "__setattr__"=some (some (.builtin "object.__setattr__"))) (c:W.plainOver K C=true) (d:W.takerIn K C name=some none) (e:W.hasDictIn K C=true)
  (i:PySem.Within mA ns) (hsz:ns.length<=sizeLine)
  (h:∀h',Bi h' x dx C (λy=>if y=name then some v else mA y)->Heap.SameBut dx s.heap h'->Q ⟨⟩ {s with heap:=h',toks:=s.toks+2}):
  wpAny (model prog w) A (setAttr (.ref x) name v) Q E s:=by
 obtain⟨g,J,j⟩:=I.look;calc W.set_plain X J b (W.osa_open (s:={s with toks:=s.toks+1}) (r:=none) X J c d λb=>?_);obtain⟨d,b,c⟩:=W.any_some e;have d:s.heap.get? x=some ⟨.ref C,some dx,.plain,#[]⟩:=I.obj;calc E' (P' (E' (E' (wpAny_loadPart d (E' (W.Looks.here (s:={s with toks:=s.toks+1}) (W.looks_clsIn X b) ?_))))));rw[c];calc P' (a:=some dx) (E' (P' (E' ?_)));calc wpAny_nsSet1 (s:={s with toks:=s.toks+1}) I.ns λh' b g=>?_;obtain⟨l,j,k,c,d,e⟩:=b.count (PySem.Within.cons name v i);calc E' (wpAny_lookBehind c (by rw[d];calc pastItsLine_dict (aaq e (by rw[aaL];lia))) ?_);calc P' (h _ ⟨(g.2 _ (Ne.symm I.ne)).trans I.obj,b,I.ne⟩ g)
theorem Hd{R:Result->Shared->Prop}{vs:List Value}{a:List (Str×Value)}(X:K.In s.heap)(b:W.makesIn K C=true)
  (c:W.findIn K (.ref C) "__init__"=some (some (.ref f))) (e:W.typeIn K (.ref f)=some (.type "function"))
  (h:codeAny (model prog w) (A.under (.builtin "type.__call__" ⟨.ref C::vs,a⟩)) (.call (.ref f) ⟨.ref (s.heap.objs.size + 1)::vs,a⟩) (W.InitBack (s.heap.objs.size + 1) R)
   {s with heap:=(s.heap.push W.emptyDict).push (W.instObj C s.heap.objs.size)}):
  codeAny (model prog w) A (.call (.ref C) ⟨vs,a⟩) R s:=by
 obtain⟨a,g,d,t,i⟩:=s;calc W.make_core (W.makes_of X b) (W.looks_findIn X c) (λa=>W.bind_fn X a e) (.inl rfl) h
end
def bQ(f:Str)(v:V):List (Str×V)->List (Str×V)
 | []=>[(f,v)]
 |(g,x)::r=>if g=f then(g,v)::r else(g,x)::bQ f v r
theorem bA(f g:Str)(v:V):∀a:List (Str×V),(bQ f v a).lookup g=if g=f then some v else a.lookup g
 | []=>by
  show List.lookup g [(f,v)]=_;by_cases h:g=f
  ·have a:(g==f)=true:=beq_iff_eq.mpr h;simp only[List.lookup,a,if_pos h]
  ·have a:(g==f)=false:=beq_eq_false_iff_ne.mpr h;simp only[List.lookup,a,if_neg h]
 |(k,x)::r=>by
  have c:=bA f g v r;rw[show bQ f v ((k,x)::r)=(if k=f then(k,v)::r else(k,x)::bQ f v r) from rfl];by_cases b:k=f
  ·rw[if_pos b];by_cases h:g=k
   ·have a:(g==k)=true:=beq_iff_eq.mpr h;simp only[List.lookup,a,if_pos (h.trans b)]
   ·have a:(g==k)=false:=beq_eq_false_iff_ne.mpr h;simp only[List.lookup,a,if_neg (λe:g=f=>h (e.trans b.symm))]
  ·rw[if_neg b];by_cases h:g=k
   ·have a:(g==k)=true:=beq_iff_eq.mpr h;simp only[List.lookup,a,if_neg (λe:g=f=>b (h.symm.trans e))]
   ·have a:(g==k)=false:=beq_eq_false_iff_ne.mpr h;simp only[List.lookup,a];calc c
theorem qc(f:Str)(v:V):∀a:List (Str×V),f∈(bQ f v a).map (·.1)/\∀g,g∈a.map (·.1)->g∈(bQ f v a).map (·.1)
 | []=>⟨by simp[bQ],λg h=>by simp at h⟩
 |(k,x)::r=>by
  obtain⟨c,d⟩:=qc f v r;rw[show bQ f v ((k,x)::r)=(if k=f then(k,v)::r else(k,x)::bQ f v r) from rfl];by_cases b:k=f
  ·rw[if_pos b];subst b;exact⟨nofun,λg h=>by simpa using h⟩
  ·rw[if_neg b];refine⟨?_,λg h=>?_⟩
   ·rw[aaN];exact aai _ c
   ·rw[aaN] at h ⊢;rcases List.mem_cons.mp h with e | e
    ·exact List.mem_cons.mpr (.inl e)
    ·calc aai _ (d g e)
theorem lJ(f:Str)(v:V):∀a:List (Str×V),(bQ f v a).length<=a.length+1
 | []=>by simp[bQ]
 |(k,x)::r=>by
  have a:=lJ f v r;rw[show bQ f v ((k,x)::r)=(if k=f then(k,v)::r else(k,x)::bQ f v r) from rfl];by_cases a:k=f
  ·rw[if_pos a,aaL,aaL];lia
  ·rw[if_neg a,aaL,aaL];lia
theorem ny.some_of{v:V}{o:Option Value}(r:ny (some v) o):∃u,o=some u/\RelV v u:=by
 cases o with
 |none=>calc(show False from r).elim
 |some u=>calc⟨u,rfl,r⟩
theorem ny.none_of{o:Option Value}(r:ny none o):o=none:=by
 cases o with
 |none=>rfl
 |some u=>calc(show False from r).elim
theorem EV{v:V}{u:Value}(r:RelV v u):W.handedIn u=true:=by
 cases v with
 |bL=>cases(show u=Value.none from r);rfl
 |bl b=>cases(show u=Value.bool b from r);rfl
 |int i=>obtain⟨t,e⟩:=(show ∃t,u=Value.int i t from r);cases e;rfl
 |str x=>obtain⟨t,e⟩:=(show ∃t,u=Value.str x t from r);cases e;rfl
 |CB b=>obtain⟨t,e⟩:=(show ∃t,u=Value.bytes b t from r);cases e;rfl
 |OL b=>obtain⟨t,e⟩:=(show ∃t,u=Value.float b t from r);cases e;rfl
 |ref a=>cases(show u=Value.ref a from r);rfl
 |ty n=>cases(show u=Value.type n from r);rfl
section
variable {P:Program}{w:World}{H H':Hp}{h h':Heap}{a C dx:Addr}{fs vL:List (Str×V)}
theorem pf(b:nS P w H h)(e:H a=some (.ins C dx fs)):∃mA,Bi h a dx C mA/\(∀f,ny (fs.lookup f) (mA f))/\PySem.Within mA (fs.map (·.1))/\fs.length<=1000/\H dx=some (.own a):=by
 obtain⟨d,z,c,f,mA,n,r,q⟩:=(show cE P w H h a (.ins C dx fs) from b a _ e)
 calc⟨mA,⟨f,n,c⟩,r,q,z,d⟩
end
structure vd(K:W.Frag)(C:Addr):Prop where
 pg:W.plainGet K C Str.empty=true
 hd:W.hasDictIn K C=true
 po:W.plainOver K C=true
 sa:W.findIn K (.ref C) "__setattr__"=some (some (.builtin "object.__setattr__"))
theorem vd.get{K:W.Frag}(c:vd K C)(f:Str):W.plainGet K C f=true:=c.pg
def cJ(K:W.Frag)(C:Addr)(f:Str):Prop:=W.findIn K (.ref C) f=some none
theorem cJ.V6{K:W.Frag}{f:Str}(n:cJ K C f):W.takerIn K C f=some none:=by
 unfold W.takerIn;rw[show W.findIn K (.ref C) f=some none from n];rfl
structure Meth(K:W.Frag)(C:Addr)(m:Str)(f:Addr):Prop where
 at_:W.findIn K (.ref C) m=some (some (.ref f))
 fn:W.isFn K (.ref f)=true
 kp:W.keepIn K (.ref f)=true
section
variable {X:Cx}{pins:List (Addr×Obj)}{σ:St}{H:Hp}{s:Shared}{a C dx:Addr}{fs:List (Str×V)}{f:Str}{v:V}{A:Around}{E:Value->Shared->Prop}
theorem Bj{b:Bool}(I:Inv X pins σ H s)(e:H a=some (.ins C dx fs))(c:vd X.K C)(n:cJ X.K C f)(l:fs.lookup f=some v)
  (h:∀u s',Inv X pins σ H s'->RelV v u->Q u s'):wpAny (model X.prog X.w) A (getAttr (.ref a) f b) Q E s:=by
 obtain⟨mA,O,r,_,_,_⟩:=pf I.ba e;obtain⟨u,d,b⟩:=ny.some_of (v:=v) (o:=mA f) (by rw[<-l];calc r f);calc get_map I.kX O (c.get f) c.hd n d (EV b) (h u _ (I.tok _) b)
theorem tf{m:Str}{g:Addr}{pl:Sem Bool}{Q:Value×List Value->Shared->Prop}(I:Inv X pins σ H s)(e:H a=some (.ins C dx fs))(c:vd X.K C)(k:Meth X.K C m g)(l:fs.lookup m=none)
  (h:Q (.ref g,[.ref a]) s):wpAny (model X.prog X.w) A (getMethod (.ref a) m pl) Q E s:=by
 obtain⟨mA,O,r,_,_,_⟩:=pf I.ba e;have b:mA m=none:=ny.none_of (by rw[<-l];calc r m);calc Hc I.kX O (c.get m) k.at_ k.fn b h
theorem Bk{y:V}{u:Value}{Q:Unit->Shared->Prop}(I:Inv X pins σ H s)(e:H a=some (.ins C dx fs))(c:vd X.K C)(n:cJ X.K C f)(b:fs.length<1000)(k:RelV y u)
  (h:∀s',Inv X pins σ (upd H a (.ins C dx (bQ f y fs))) s'->Q ⟨⟩ s'):wpAny (model X.prog X.w) A (setAttr (.ref a) f u) Q E s:=by
 obtain⟨mA,O,r,i,_,j⟩:=pf I.ba e;have b:(fs.map (·.1)).length<=sizeLine:=by rw[M',aax];lia
 calc Mz I.kX O c.sa c.po n.V6 c.hd i b λg d l=>h _ ?_;have hd:∃o,g.get? dx=some o:=let ⟨o,_,_,b,_⟩:=d.ns;⟨o,b⟩
 calc I.write (x:=a) (e:=dx) (by rw[e];calc aaF) (.inr j) (λb q c z=>(l.2 b c).trans z) hd ?_;refine⟨by rw[ay O.ne];calc j,?_,O.ne,d.obj,_,d.ns,λg=>?_,λg b=>?_⟩
 ·have:=lJ f y fs;lia
 ·show ny ((bQ f y fs).lookup g) (if g=f then some u else mA g);rw[bA];by_cases q:g=f
  ·rw[if_pos q,if_pos q];exact k
  ·rw[if_neg q,if_neg q];exact r g
 ·by_cases q:g=f
  ·rw[q];exact(qc f y fs).1
  ·calc(qc f y fs).2 g (i g λz=>b ?_);show(if g=f then some u else mA g)=none;rw[if_neg q];calc z
theorem Inv.made(I:Inv X pins σ H s):Inv X pins σ (upd (upd H s.heap.objs.size (.own (s.heap.objs.size+1))) (s.heap.objs.size+1) (.ins C s.heap.objs.size []))
  {s with heap:=(s.heap.push W.emptyDict).push (W.instObj C s.heap.objs.size)}:=by
 have c:(s.heap.push W.emptyDict).get? s.heap.objs.size=some W.emptyDict:=Y' s.heap rfl;have d:((s.heap.push W.emptyDict).push (W.instObj C s.heap.objs.size)).get? (s.heap.objs.size+1)=some (W.instObj C s.heap.objs.size):=by
  have:=Y' (s.heap.push W.emptyDict) (o:=W.instObj C s.heap.objs.size) rfl;rwa [aaz]at this
 have f:(s.heap.push W.emptyDict).Ns s.heap.objs.size (λ_=>none):=⟨W.emptyDict,#[],_,c,rfl,(λe b=>absurd b nofun),λ_=>rfl⟩
 have e:=I.laid (a:=s.heap.objs.size) (o:=.own (s.heap.objs.size+1)) (h':=s.heap.push W.emptyDict) (t':=s.toks) (λb u q=>K' _ q) (F' _) ⟨_,c⟩;calc e.laid (a:=s.heap.objs.size+1) (o:=.ins C s.heap.objs.size []) (t':=s.toks) (λb u q=>K' _ q) (Nat.le_of_eq (aaz _ _)) ?_;have b:s.heap.objs.size≠s.heap.objs.size+1:=aal (Nat.lt_succ_self _);calc⟨by rw[ay b,ab],aaj _,b,d,λ_=>none,(Heap.Ns1.of_empty f).at λo q=>K' _ q,λ_=>aaF,λy b=>absurd rfl b⟩
theorem MA{prog:Program}{w:World}{env:Env}{e:Expr}{f:Str}{b:Pos}{s:Shared}(c:attributeBase e f env (eval e env)=eval e env)
  (h:wpAny (model prog w) A (eval e env) (λo a=>wpAny (model prog w) A (getAttr o f true) Q E a) E s):wpAny (model prog w) A (eval (.Attribute e f b) env) Q E s:=
 Attribute_any_ h (by rw[arm_eval_Attribute,c])
end
def MB(K:W.Frag)(a:TE)(f:Str):TE:=λσ H Q=>a σ H λx b=>∃a C d c v,x=.ref a/\b a=some (.ins C d c)/\vd K C/\cJ K C f/\c.lookup f=some v/\Q v b
def Rk(K:W.Frag)(a b:TE)(f:Str):TS:=λD σ H=>b σ H λy d=>a σ d λx c=>∃a C d b,x=.ref a/\c a=some (.ins C d b)/\vd K C/\cJ K C f/\b.length<1000/\
 D.nx σ (upd c a (.ins C d (bQ f y b)))
section
variable {X:Cx}{o e value:Expr}{f:Str}{pos pos' Rl:Pos}{ta tv:TE}
theorem bM(he:PE X e ta)(b:attributeBase e f X.env (eval e X.env)=eval e X.env):PE X (.Attribute e f pos) (MB X.K ta f):=by
 walk_at "xc";refine MA b (dq (he pins s σ H _ I h) λu o d=>?_);obtain⟨x,g,i,j,a,C,b,o,v,k,m,c,n,l,q⟩:=d;subst k;obtain rfl:u=Value.ref a:=j;exact Bj i m c n l λd k a b=>⟨v,g,a,b,q⟩
theorem fS(b:PE X o ta)(d:PE X value tv)(e:swapsWith value (some (.Attribute o f pos')) pos.line X.env=pure false):PS X (.Assign [.Attribute o f pos'] value pos) (Rk X.K ta tv f):=by
 walk_at "xd";refine plainObj_wpAny_Assign_Attribute (dq (d pins s σ H _ I h) λu g ⟨y,i,j,k,q⟩=>dq (b pins g σ i _ j q) λm d p=>?_) e;obtain⟨x,b,r,t,a,C,d,g,v,w,c,n,l,z⟩:=p;subst v;obtain rfl:m=Value.ref a:=t;exact Bk r w c n l k λb a=>⟨σ,_,a,z⟩
end
section
variable {X:Cx}{pins:List (Addr×Obj)}{σ:St}{H:Hp}{s:Shared}{A:Around}{E:Value->Shared->Prop}{Q:Value->Shared->Prop}{c:Value}{b:Bool}
inductive gT(K:W.Frag)(H:Hp):V->Value->Prop where
  |bL:gT K H .bL (.type "NoneType")
  |bl (x:Bool):gT K H (.bl x) (.type "bool")
  |int (i:Int):gT K H (.int i) (.type "int")
  |str (x:Str):gT K H (.str x) (.type "str")
  |OL (x:UInt64):gT K H (.OL x) (.type "float")
  |lst {a:Addr} {xs:List V} (e:H a=some (.lst xs)):gT K H (.ref a) (.type "list")
  |AI {a:Addr} {o:Obj} {xs:List V} (e:H a=some (.AI o (.lst xs))):gT K H (.ref a) (.type "list")
  |tup {a:Addr} {xs:List V} (e:H a=some (.tup xs)):gT K H (.ref a) (.type "tuple")
  |dK {a:Addr} {bb:List (Key×V)} (e:H a=some (.dK bb)):gT K H (.ref a) (.type "dict")
  |dT {a:Addr} {bb:List (List Key×V)} (e:H a=some (.dT bb)):gT K H (.ref a) (.type "dict")
  | ins {a C dx:Addr} {fs:List (Str×V)} (e:H a=some (.ins C dx fs)) (cl:vd K C) (ha:W.findIn K (.ref C) "__class__"=some (some (.builtin "object.__class__")))
      (hn:W.specialIn K (.builtin "object.__class__") "__get__"=some (some (.builtin "getset_descriptor.__get__"))) (htk:W.takesIn K (.builtin "object.__class__")=some true)
      (hm:W.mroIn K C (.type "object")=some true):gT K H (.ref a) (.ref C)
theorem vP{x:V}{u t:Value}(I:Inv X pins σ H s)(d:RelV x u)(v:gT X.K H x t)(e:W.kitOne X.K t c=some b)(h:∀B,Q (.bool b) {s with toks:=B}):
  wpAny (model X.prog X.w) A (call (.builtin "isinstance") [u,c]) Q E s:=by
 cases v with
 |bL=>cases(show u=Value.none from d);calc W.kia_one W.kitx_none I.kX aaF e (λz=>nomatch z) h
 |bl y=>cases(show u=Value.bool y from d);calc W.kia_one W.kitx_bool I.kX aaF e (λz=>nomatch z) h
 |int i=>obtain⟨t,q⟩:=(show ∃t,u=Value.int i t from d);cases q;calc W.kia_one W.kitx_int I.kX aaF e (λz=>nomatch z) h
 |str y=>obtain⟨t,q⟩:=(show ∃t,u=Value.str y t from d);cases q;calc W.kia_one W.kitx_str I.kX aaF e (λz=>nomatch z) h
 |OL y=>obtain⟨t,q⟩:=(show ∃t,u=Value.float y t from d);cases q;calc W.kia_one W.kitx_float I.kX aaF e (λz=>nomatch z) h
 | @lst a j f=>
  cases(show u=Value.ref a from d);obtain⟨_,_,n,_,g⟩:=(show cE X.prog X.w H s.heap a (.lst j) from I.ba a _ f)
  calc W.kia_one W.kitx_list I.kX ⟨_,g,rfl⟩ e (λz=>nomatch z) h
 | @AI a D j f=>
  cases(show u=Value.ref a from d);obtain⟨_,_,_,n,_,g⟩:=(show cE X.prog X.w H s.heap a (.AI D (.lst j)) from I.ba a _ f)
  calc W.kia_one W.kitx_list I.kX ⟨_,g,rfl⟩ e (λz=>nomatch z) h
 | @tup a j f=>
  cases(show u=Value.ref a from d);obtain⟨_,_,_,p⟩:=(show cE X.prog X.w H s.heap a (.tup j) from I.ba a _ f)
  obtain⟨o,g,k,_⟩:=p;calc W.kia_one W.kitx_tuple I.kX ⟨o,g,k⟩ e (λz=>nomatch z) h
 | @dK a l f=>
  cases(show u=Value.ref a from d);obtain⟨_,_,i,_,p⟩:=(show cE X.prog X.w H s.heap a (.dK l) from I.ba a _ f)
  obtain⟨o,F,G,g,k,_⟩:=p;calc W.kia_one W.kitx_dict I.kX ⟨o,g,k.1⟩ e (λz=>nomatch z) h
 | @dT a l f=>
  cases(show u=Value.ref a from d);obtain⟨_,_,j,_,o,F,G,g,k,_⟩:=(show cE X.prog X.w H s.heap a (.dT l) from I.ba a _ f)
  calc W.kia_one W.kitx_dict I.kX ⟨o,g,k.1⟩ e (λz=>nomatch z) h
 | @ins a C g i f r L M m N=>
  cases(show u=Value.ref a from d);obtain⟨mA,O,_⟩:=pf I.ba f;obtain⟨a,J,_⟩:=O.look;calc W.kia_one (W.kitx_own (r.get _) r.hd L M m N) I.kX J e (λz=>nomatch z) h
end
end
section
variable {A:Around}{base:Heap}{H:Hp}{kw:List (Str×Value)}{us:List Value}{s:Shared}{mg:Str->Option Value}{K:W.Frag}
structure ff(k:Nat)(A:Around):Prop where
 hd:A.handled=none
 dp:A.depth+3*k+5<recursionLimit
 un:A.units+16*k+200<cLine
theorem ff.mono{j k:Nat}(r:ff k A)(h:j<=k):ff j A:=⟨r.hd,by have:=r.dp;lia,by have:=r.un;lia⟩
theorem ff.deeper{k:Nat}(r:ff (k+1) A)(env:Env):ff k (A.deeper env):=
 ⟨r.hd,by have:=r.dp;show A.depth+1+3*k+5<_;lia,by have:=r.un;show A.units+3+16*k+200<_;lia⟩
theorem Bl{C:Addr}:(A.under (.builtin "type.__call__" ⟨.ref C::us,kw⟩)).depth=A.depth+1:=by
 first|rfl|simp[Around.under,Code.weight,Code.isCreation,Code.isGuard,Code.isCaller,Code.frames,Code.isFrame,guardIds]
theorem Bm{C:Addr}:(A.under (.builtin "type.__call__" ⟨.ref C::us,kw⟩)).units=A.units+1:=by
 first|rfl|simp[Around.under,Code.cUnits,Code.frames,Code.isFrame]
theorem ff.make{k:Nat}(r:ff (k+1) A)(C:Addr)(us:List Value)(kw:List (Str×Value)):ff k (A.under (.builtin "type.__call__" ⟨.ref C::us,kw⟩)):=
 ⟨r.hd,by have:=r.dp;rw[Bl];lia,by have:=r.un;rw[Bm];lia⟩
theorem ff.depth{k:Nat}(r:ff k A):A.depth<recursionLimit:=by have:=r.dp;lia
theorem ff.units{k:Nat}(r:ff k A):A.units+64<cLine:=by have:=r.un;lia
def yR:TA:=λ_ H Q=>Q [] H
def tj(a:TE)(b:TA):TA:=λσ H Q=>a σ H λx c=>b σ c λxs a=>Q (x::xs) a
section
variable {X:Cx}{e:Expr}{es:List Expr}{te:TE}{t:TA}{pos:Pos}
theorem aa:PA X [] yR:=.mk λ_ _ _ _ H Q I h=>Calls.spliced_nil ⟨[],H,I,.nil,h⟩
theorem MC(b:PE X e te)(c:PA X es t)(d:starEach (e::es) X.env=(false,eval e X.env)::starEach es X.env:=by rfl):PA X (e::es) (tj te t):=by
 calc⟨?_⟩;intro pos a s σ H Q I h;rw[d];show wpAny _ _ (spliced ((false,eval e X.env)::backTo pos (starEach es X.env))) _ _ s;calc Calls.spliced_cons (dq (b a s σ H _ I h) λu f g=>?_);obtain⟨x,b,d,h,i⟩:=g;calc dq (c pos a f σ b _ d i) λus o ⟨j,k,l,m,n⟩=>⟨x::j,k,l,.cons h m,n⟩
def Rm(t:TA):TE:=λσ H Q=>t σ H λxs a=>xs.length<=sizeLine/\∀p,a p=none->Q (.ref p) (upd a p (.tup xs))
def Rn(t:TA):TE:=λσ H Q=>t σ H λxs a=>xs.length<=sizeLine/\∀p,a p=none->Q (.ref p) (upd a p (.lst xs))
theorem bG{a}(h:PA X es t):PE X (.Tuple es a pos) (Rm t):=by
 calc⟨?_⟩;intro a s σ H Q I f;calc wpAny_Tuple_spliced (dq (h pos a s σ H _ I f) λus c ⟨g,b,d,r,z,q⟩=>⟨by rw[<-r.length];calc z,?_⟩);have a:b c.heap.objs.size=none:=d.ba.fresh (F' _);calc⟨.ref c.heap.objs.size,upd b c.heap.objs.size (.tup g),d.laid (t':=c.toks) (λb u e=>K' _ e) (F' _) ?_,rfl,q _ a⟩;calc⟨z,us,r,⟨_,Y' _ rfl,rfl,_,rfl⟩⟩
theorem bx(h:PA X es t):PE X (.List es pos) (Rn t):=by
 calc⟨?_⟩;intro a s σ H Q I f;calc wpAny_List_spliced (dq (h pos a s σ H _ I f) λus c ⟨g,b,d,r,z,q⟩=>⟨by rw[<-r.length];calc z,?_⟩);have a:b c.heap.objs.size=none:=d.ba.fresh (F' _);calc⟨.ref c.heap.objs.size,upd b c.heap.objs.size (.lst g),d.laid (t':=c.toks) (λb u e=>K' _ e) (F' _) ?_,rfl,q _ a⟩;calc⟨z,us,0,r,Y' _ rfl⟩
end
abbrev Sp:=List V->Hp->VK->XK->Prop
abbrev LR:=List Env->Hp->Shared->XK->Value->Shared->Prop
structure Bn(P:Program)(w:World)(K:W.Frag)(mg:Str->Option Value)(base:Heap)(A:Around)(outer:List Env)(s:Shared)(H:Hp):Prop where
 frames:A.frames=some outer
 mod:Mod K mg base
 bs:∀b o,base.get? b=some o->s.heap.get? b=some o/\H b=none
 GL:base.objs.size<=s.heap.objs.size
 p9:s.heap.FunFrames base outer
 OM:∀b∈EI outer,H b=none
 ba:nS P w H s.heap
 bare:AllBare s.gens
def CE(outer:List Env)(P:Program)(w:World)(H:Hp)(s:Shared)(Q:VK)(u:Value)(s':Shared):Prop:=
 ∃v a,s'.os=s.os/\AllBare s'.gens/\Un (EI outer) [] H a s.heap s'.heap/\nS P w a s'.heap/\RelV v u/\Q v a
def CR(CX:LR)(outer:List Env)(P:Program)(w:World)(H:Hp)(s:Shared)(Q:VK)(E:XK)(r:Result)(s':Shared):Prop:=
 match r with
 | .ok (.ret u)=>CE outer P w H s Q u s'
 | .ok _=>False
 | .error e=>CX outer H s E e s'
structure nC(P:Program)(w:World)(K:W.Frag)(mg:Str->Option Value)(base:Heap)(CX:LR)(k:Nat)(f:Addr)(fd:FuncData)(ps:List Str)(sp:Sp):Prop where
 len:∀vs H Q E,sp vs H Q E->vs.length=ps.length
 run:∀(A:Around) (outer:List Env) (s:Shared) (H:Hp) (args:Args) (us:List Value) (vs:List V) (Q:VK) (E:XK),ff k A->Bn P w K mg base A outer s H->BindsTo s fd args (ps.zip us)->Vals vs us->sp vs H Q E->
  codeAny (model P w) A (.call (.ref f) args) (CR CX outer P w H s Q E) s
theorem Bn.make{P:Program}{w:World}{outer:List Env}(e:Bn P w K mg base A outer s H)(C:Addr)(us:List Value)(kw:List (Str×Value)):
  Bn P w K mg base (A.under (.builtin "type.__call__" ⟨.ref C::us,kw⟩)) outer s H:=⟨by first|exact e.frames|(simpa[Around.under,Code.envs,Code.isFrame,pushEnvs] using e.frames),e.mod,e.bs,e.GL,e.p9,e.OM,e.ba,e.bare⟩
section
variable {X:Cx}{pins:List (Addr×Obj)}{σ:St}{H:Hp}{s s':Shared}
theorem Inv.V7(I:Inv X pins σ H s):Bn X.prog X.w X.K X.mg X.base X.A X.stack s H:=
 ⟨I.ok.frames,I.ok.mod,I.bs,aaq I.ok.GL I.sz,I.stack,I.CF,I.ba,I.bare⟩
theorem Inv.after{Q:VK}{u:Value}(I:Inv X pins σ H s)(h:CE X.stack X.prog X.w H s Q u s'):EP X pins σ Q u s':=by
 obtain⟨v,c,os,a,e,f,r,q⟩:=h;obtain⟨i,g,d,t,b⟩:=s';obtain rfl:b=s.os:=os;calc⟨v,c,I.call (h':=i) (g':=g) (d':=d) (t':=t) (ch:=[]) e f a (λb z=>absurd z nofun),r,q⟩
end
def vQ(sp:Sp)(a:List V)(E:XK)(t:TA):TE:=λσ H Q=>t σ H λvs b=>sp (vs++a) b Q E
def vR(C:Addr)(m:Str)(sp:Sp)(d:List V)(E:XK)(a:TE)(t:TA):TE:=λσ H Q=>a σ H λx b=>∃a e c,x=.ref a/\b a=some (.ins C e c)/\c.lookup m=none/\
 t σ b λvs a=>sp (x::(vs++d)) a Q E
def CP(C:Addr)(sp:Sp)(c:List V)(E:XK)(t:TA):TE:=λσ H Q=>t σ H λvs b=>∀x a,b x=none->b a=none->a≠x->
 sp (.ref x::(vs++c)) (upd (upd b a (.own x)) x (.ins C a [])) (λv d=>v=.bL/\Q (.ref x) d) E
def Binds(K:W.Frag)(c:FuncData)(a:List Str)(b:List Value):Prop:=
 ∀(s:Shared) (us:List Value),K.In s.heap->(us++b).length=a.length->BindsTo s c ⟨us,[]⟩ (a.zip (us++b))
theorem Binds.all{b:FuncData}{a:List Str}(h:∀us:List Value,us.length=a.length->bindArgs b ⟨us,[]⟩=pure (a.zip us)):Binds K b a []:=λs us _ a=>by
 rw[aam]at a ⊢;calc .of_eq (h us a)
def Passes(CX:LR)(X:Cx)(E:XK):Prop:=∀(pins:List (Addr×Obj)) (σ:St) (H:Hp) (s:Shared) (e:Value) (s':Shared),Inv X pins σ H s->CX X.stack H s E e s'->X.xe e s'
section
variable {X:Cx}{CX:LR}{k:Nat}{f C:Addr}{fd:FuncData}{ps:List Str}{sp:Sp}{ve:List V}{ds:List Value}{E:XK}{x m:Str}{p pos apos:Pos}{e o:Expr}{es:List Expr}{ta:TE}{t:TA}
theorem Bo{pins:List (Addr×Obj)}{σ:St}{H:Hp}{s:Shared}{Q:VK}{us:List Value}{vs:List V}(F:nC X.prog X.w X.K X.mg X.base CX k f fd ps sp)(c:ff k X.A)(d:Binds X.K fd ps ds)(g:Vals ve ds)(i:Passes CX X E)
  (I:Inv X pins σ H s) (r:Vals vs us) (h:sp (vs++ve) H Q E):wpAny (model X.prog X.w) X.A (call (.ref f) us) (EP X pins σ Q) X.xe s:=by
 have b:Vals (vs++ve) (us++ds):=r.append g;have j:(us++ds).length=ps.length:=by rw[<-b.length];exact F.len _ _ _ _ h
 refine wpAny_call (codeAny_mono (F.run X.A X.stack s H ⟨us,[]⟩ (us++ds) (vs++ve) Q E c I.V7 (d s us I.kX j) b h) λr l a=>?_)
 cases r with
 |error e=>calc i pins σ H s e l I a
 |ok m=>
  cases m with
  |ret u=>calc I.after a
  |next=>calc aaK a
  |brk=>calc aaK a
  |cont=>calc aaK a
theorem ME(F:nC X.prog X.w X.K X.mg X.base CX k f fd ps sp)(b:ff k X.A)(a:Gl X x)(c:X.mg x=some (.ref f))(d:W.keepIn X.K (.ref f)=true)(g:Binds X.K fd ps ds)(i:Vals ve ds)(j:Passes CX X E)
  (l:PA X (e::es) t) (m:(x==("__debug__":Str))=false:=by decide) (he:starEach (e::es) X.env=(false,eval e X.env)::starEach es X.env:=by rfl) (n:(backTo pos (starEach es X.env)).any (·.1)=false:=by rfl):
  PE X (.Call (.Name x p) (e::es) [] pos) (vQ sp ve E t):=by
 walk_at "xc";refine wpAny_Call_Name_kw (sD I a c ?_ m);refine W.callWith_K (h₀:=X.base) I.ok.mod.Ux d (dq (l pos pins s σ H _ I h) λus c ⟨m,o,a,r,q⟩=>⟨a.kX,?_⟩) he n;exact Bo F b g i j a r q
theorem MG{pl:Sem Bool}(he:PE X o ta)(c:vd X.K C)(b:Meth X.K C m f)(F:nC X.prog X.w X.K X.mg X.base CX k f fd ps sp)(i:ff k X.A)(j:Binds X.K fd ps ds)(n:Vals ve ds)(p:Passes CX X E)(v:PA X (e::es) t)
  (y:starEach (e::es) X.env=(false,eval e X.env)::starEach es X.env:=by rfl) (z:(backTo pos (starEach es X.env)).any (·.1)=false:=by rfl)
  (r:eval (.Call (.Attribute o m apos) (e::es) [] pos) X.env=(do
   let d <-eval o X.env
   standAt apos.atName
   let (f,first) <-holding [d] (getMethod d m pl)
   callWith pos f first (backTo pos (starEach (e::es) X.env)) (backToKw pos (keywordEach [] X.env))):=by rfl):
  PE X (.Call (.Attribute o m apos) (e::es) [] pos) (vR C m sp ve E ta t):=by
 walk_at "xc";refine W.methodCall_KW (pl:=pl) (dq (he pins s σ H _ I h) λu B D=>?_) r;obtain⟨x,G,g,J,a,d,N,L,M,l,q⟩:=D;subst L;obtain rfl:u=Value.ref a:=J;refine tf g M c b l ?_;refine W.callWith_K (first:=[.ref a]) (h₀:=X.base) I.ok.mod.Ux b.kp (dq (v pos pins B σ G _ g q) λus u ⟨c,D,d,r,l⟩=>⟨d.kX,?_⟩) y z;exact Bo (us:=.ref a::us) (vs:=.ref a::c) F i j n p d (.cons rfl r) l
theorem He{pl:Sem Bool}(he:PE X o ta)(c:vd X.K C)(d:Meth X.K C m f)(F:nC X.prog X.w X.K X.mg X.base CX k f fd ps sp)(g:ff k X.A)(i:Binds X.K fd ps ds)(j:Vals ve ds)(n:Passes CX X E)
  (p:eval (.Call (.Attribute o m apos) [] [] pos) X.env=(do
   let e <-eval o X.env
   standAt apos.atName
   let (f,first) <-holding [e] (getMethod e m pl)
   callWith pos f first (backTo pos (starEach [] X.env)) (backToKw pos (keywordEach [] X.env))):=by rfl):
  PE X (.Call (.Attribute o m apos) [] [] pos) (vR C m sp ve E ta yR):=by
 walk_at "xc";refine W.methodCall_KW (pl:=pl) (dq (he pins s σ H _ I h) λu e r=>?_) p;obtain⟨x,e,b,t,a,z,B,v,y,l,q⟩:=r;subst v;obtain rfl:u=Value.ref a:=t;refine tf b y c d l ?_;exact W.callWith_K0 (first:=[.ref a]) b.kX d.kp (Bo (us:=[.ref a]) (vs:=[.ref a]) F g i j n b (.cons rfl .nil) q)
structure Mk(K:W.Frag)(C f:Addr):Prop where
 makes:W.makesIn K C=true
 init:W.findIn K (.ref C) "__init__"=some (some (.ref f))
 fn:W.isFn K (.ref f)=true
 kp:W.keepIn K (.ref C)=true
theorem Hf{pins:List (Addr×Obj)}{σ:St}{Q:VK}{vs:List V}(M:Mk X.K C f)(F:nC X.prog X.w X.K X.mg X.base CX k f fd ps sp)(hr:ff (k+1) X.A)(g:Binds X.K fd ps ds)(i:Vals ve ds)
  (j:Passes CX X E) (I:Inv X pins σ H s) (r:Vals vs us)
  (h:∀x b,H x=none->H b=none->b≠x->sp (.ref x::(vs++ve)) (upd (upd H b (.own x)) x (.ins C b [])) (λv d=>v=.bL/\Q (.ref x) d) E):
  wpAny (model X.prog X.w) X.A (call (.ref C) us) (EP X pins σ Q) X.xe s:=by
 have b:=h (s.heap.objs.size+1) s.heap.objs.size (I.ba.fresh (Nat.le_succ _)) (I.ba.fresh (F' _)) (aal (Nat.lt_succ_self _));have c:=Inv.made (C:=C) I;have d:Vals (V.ref (s.heap.objs.size+1)::(vs++ve)) (Value.ref (s.heap.objs.size+1)::(us++ds)):=.cons rfl (r.append i);have l:(Value.ref (s.heap.objs.size+1)::us++ds).length=ps.length:=by
  have e:=d.length;rw[F.len _ _ _ _ b]at e;exact e.symm
 refine wpAny_call (Hd (f:=f) I.kX M.makes M.init (beq_iff_eq.mp M.fn) (codeAny_mono (F.run _ X.stack _ _ ⟨Value.ref (s.heap.objs.size + 1)::us,[]⟩ (Value.ref (s.heap.objs.size + 1)::(us++ds)) _ _ E (hr.make C us [])
  (c.V7.make C us []) (g _ (Value.ref (s.heap.objs.size + 1)::us) c.kX l) d b) λr m a=>?_))
 cases r with
 |error e=>calc j pins σ _ _ e m c a
 |ok n=>
  cases n with
  |ret u=>
   obtain⟨v,o,p,q,t,y⟩:=c.after a;subst t;calc⟨q,⟨V.ref (s.heap.objs.size+1),o,p,rfl,y⟩⟩
  |next=>calc aaK a
  |brk=>calc aaK a
  |cont=>calc aaK a
theorem MH(M:Mk X.K C f)(F:nC X.prog X.w X.K X.mg X.base CX k f fd ps sp)(b:ff (k+1) X.A)(a:Gl X x)(c:X.mg x=some (.ref C))(d:Binds X.K fd ps ds)(g:Vals ve ds)(i:Passes CX X E)
  (j:PA X (e::es) t) (l:(x==("__debug__":Str))=false:=by decide) (he:starEach (e::es) X.env=(false,eval e X.env)::starEach es X.env:=by rfl) (m:(backTo pos (starEach es X.env)).any (·.1)=false:=by rfl):
  PE X (.Call (.Name x p) (e::es) [] pos) (CP C sp ve E t):=by
 walk_at "xc";refine wpAny_Call_Name_kw (sD I a c ?_ l);refine W.callWith_K (h₀:=X.base) I.ok.mod.Ux M.kp (dq (j pos pins s σ H _ I h) λus c ⟨l,n,a,r,q⟩=>⟨a.kX,?_⟩) he m;exact Hf M F b d g i a r q
end
structure aD(N P:List Str)(sc:Scope):Prop where
 kind:sc.kind=.function
 co:sc.isCoroutine=false
 gen:sc.isGenerator=false
 nd:N.Nodup
 pre:N.take P.length=P
 par:∀x∈P,sc.names.lookup x=some .local\/sc.names.lookup x=some .cell
 Ro:∀y∈sc.names,y.2≠.free
theorem vS{b:Str->Option NameKind}{x:Str}:∀{a:List (Str×Value)}{m:Str->Option Value},(∀v,(x,v)∉a)->bindL b a m x=m x
 | [],_,_=>rfl
 |(n,v)::r,m,h=>by
  unfold bindL;rw[vS λw c=>h w (aai _ c)];split
  ·have:x≠n:=by rintro rfl;exact h v aaa
   simp[this]
  ·rfl
theorem vT{b:Str->Option NameKind}{x:Str}:∀{a:List (Str×Value)}{m:Str->Option Value},(∀v,(x,v)∉a)->bindC b a m x=m x
 | [],_,_=>rfl
 |(n,v)::r,m,h=>by
  unfold bindC;rw[vT λw c=>h w (aai _ c)];split
  ·rfl
  ·have:x≠n:=by rintro rfl;exact h v aaa
   simp[this]
theorem vU{a:Str->Option NameKind}{x:Str}{v:Value}:∀{P:List Str}{vs:List Value}{i:Nat}{m:Str->Option Value},P.Nodup->P[i]?=some x->vs[i]?=some v->a x=some .local->
  bindL a (P.zip vs) m x=some v
 | [],_,_,_,_,h,_,_=>by simp at h
 |_::_,[],_,_,_,_,h,_=>by simp at h
 |p::P,w::vs,0,m,d,b,c,e=>by
  simp at b c;subst b;subst c;show bindL a ((p,w)::P.zip vs) m p=_;unfold bindL;rw[vS λv f=>(List.nodup_cons.mp d).1 (List.of_mem_zip f).1,if_pos e];simp
 |p::P,w::vs,i+1,m,d,b,c,e=>by
  show bindL a ((p,w)::P.zip vs) m x=_;unfold bindL;calc vU (i:=i) (List.nodup_cons.mp d).2 (by simpa using b) (by simpa using c) e
theorem vV{a:Str->Option NameKind}{x:Str}{v:Value}:∀{P:List Str}{vs:List Value}{i:Nat}{m:Str->Option Value},P.Nodup->P[i]?=some x->vs[i]?=some v->a x≠some .local->
  bindC a (P.zip vs) m x=some v
 | [],_,_,_,_,h,_,_=>by simp at h
 |_::_,[],_,_,_,_,h,_=>by simp at h
 |p::P,w::vs,0,m,d,b,c,e=>by
  simp at b c;subst b;subst c;show bindC a ((p,w)::P.zip vs) m p=_;unfold bindC;rw[vT λv f=>(List.nodup_cons.mp d).1 (List.of_mem_zip f).1,if_neg e];simp
 |p::P,w::vs,i+1,m,d,b,c,e=>by
  show bindC a ((p,w)::P.zip vs) m x=_;unfold bindC;calc vV (i:=i) (List.nodup_cons.mp d).2 (by simpa using b) (by simpa using c) e
def start(N:List Str)(vs:List V):St:=vs.map some++List.replicate (N.length-vs.length) none
def tm(CX:LR)(P:Program)(w:World)(K:W.Frag)(mg:Str->Option Value)(base:Heap)(N:List Str)(qual:Str)(scope:Scope)(f:Addr)(b:Value)(A:Around)(outer:List Env)(s:Shared)(H:Hp)(E:XK):Cx where
 prog:=P
 w:=w
 K:=K
 mg:=mg
 base:=base
 A:=A.deeper (envOfC qual scope s.heap.objs.size f b)
 N:=N
 s₀:=s
 H₀:=H
 env:=envOfC qual scope s.heap.objs.size f b
 outer:=outer
 stack:=envOfC qual scope s.heap.objs.size f b::outer
 ex:=[]
 calm:=true
 fn:=λ_=>true
 pn:=[]
 xe:=λe s'=>wpAny (model P w) (A.deeper (envOfC qual scope s.heap.objs.size f b)) (leaving (envOfC qual scope s.heap.objs.size f b) e) (λ_ a=>CX outer H s E e a) (λb a=>CX outer H s E b a) s'
theorem tq{sc:Scope}{n:Nat}{x:Str}(h:sc.names.lookup x=some .cell):∃c,(cellsFrom n sc.names []).lookup x=some c:=by
 have q:=W.cellsFrom_some sc.names n [] (.inl h);calc Option.isSome_iff_exists.mp q
theorem EW{CX:LR}{P:Program}{w:World}{N j:List Str}{qual:Str}{scope:Scope}{f:Addr}{k:Value}{outer:List Env}{b:Shared}{E:XK}{vs:List V}
  (S:aD N j scope) (C:A.handled=none) (g:Bn P w K mg base A outer s H) (p:vs.length=j.length) (r:Vals vs us)
  (x:InCallC s s.heap.objs.size (bindL (envOfC qual scope s.heap.objs.size f k).kindOf (j.zip us) λ_=>none) (cellsFrom (s.heap.objs.size+1) scope.names []) (bindC (envOfC qual scope s.heap.objs.size f k).kindOf (j.zip us) λ_=>none) b):
  Inv (tm CX P w K mg base N qual scope f k A outer s H E) [] (start N vs) H b:=by
 have b:j.length<=N.length:=by have:=congrArg List.length S.pre;rw[aaB]at this;lia
 obtain⟨o,z,rfl,t⟩:=x.done;have p:∀b:Addr,b ∉ (tm CX P w K mg base N qual scope f k A outer s H E).ex:=λb z=>absurd (show b ∈ ([]:List Addr) from z) nofun;refine⟨⟨g.mod,S.kind,rfl,rfl,F' _,λy z c o d=>?_,λy a=>?_,λy c _ h=>?_,λ_=>C,Around.frames_deeper g.frames,.inr ⟨rfl,rfl⟩,λb z=>absurd z (p b),g.bs,g.GL,λb _ _=>p b,λb z=>absurd z (p b),g.p9,g.OM⟩,
  rfl,g.bare,Un.kept t,⟨_,x.toInCall.ns,λi y v o d b=>?_⟩,λy c h=>⟨_,x.cell y c h⟩,g.ba.fresh (F' _),λy c h=>?_,λp l=>absurd (show p ∈ ([]:List (Addr×Obj)) from l) nofun,g.ba.kept t,?_⟩
 ·exact name_of_addr x.apart (aap o) (aap d)
 ·have a:scope.names.lookup y=some .cell\/scope.names.lookup y=some .free:=a;rcases a with a | a
  ·exact tq a
  ·exact absurd rfl (S.Ro _ (aap a))
 ·exact J' (x.above y c (aap h))
 ·have q:i<vs.length:=by
   unfold start at d;by_cases q:i<vs.length
   ·exact q
   ·rw[V' (by simpa using q)]at d;rw[List.getElem?_replicate]at d;split at d<;>cases d
  have D:vs[i]?=some v:=by
   unfold start at d;rw[W' (by simpa using q),A']at d
   cases e:vs[i]? with
   |none=>rw[e]at d;cases d
   |some a=>rw[e]at d;cases d;rfl
  obtain⟨u,B,F⟩:=r.get D;have l:j[i]?=some y:=by
   rw[<-S.pre,List.getElem?_take_of_lt ()];exact o
  have m:j.Nodup:=by rw[<-S.pre];exact S.nd.sublist (List.take_sublist _ _)
  calc⟨u,F,?_⟩;rcases S.par y (aan l) with k|k
  ·exact .inl ⟨k,vU m l B k⟩
  ·obtain⟨c,e⟩:=tq (n:=s.heap.objs.size+1) k;calc .inr ⟨.inl k,c,e,?_⟩;have q:=x.cell y c e;rw[vV m l B (by show scope.names.lookup y≠_;rw[k];decide)]at q;exact q
 ·exact g.ba.fresh (J' (x.above y c (aap h)))
 ·unfold start;show _=N.length;rw[aas,M',List.length_replicate];lia
theorem Wa{CX:LR}{P:Program}{w:World}{k:Nat}{f:Addr}{name qual:Str}{a:Arguments}{b:List Stmt}{scope:Scope}{o kV i y g ct j:Value}{D I:Option Addr}
  {M:Array (Option Value)} {N p:List Str} {sp:Sp} (O:K.lookup f=some ⟨j,I,.func (W.fnOf name qual a b scope o kV i y D g ct),M⟩) (R:W.codeIn K g qual=true) (S:aD N p scope)
  (j:∀vs H Q E,sp vs H Q E->vs.length=p.length)
  (T:∀(A:Around) (outer:List Env) (s:Shared) (H:Hp) (vs:List V) (Q:VK) (E:XK),ff k (A.deeper (envOfC qual scope s.heap.objs.size f g))->sp vs H Q E->
   ∃t,yE (tm CX P w K mg base N qual scope f g A outer s H E) b t/\t {nx:=λ_ d=>Q .bL d,rt:=Q} (start N vs) H):
  nC P w K mg base CX (k+1) f (W.fnOf name qual a b scope o kV i y D g ct) p sp:=by
 calc⟨j,λA outer s H a us vs Q E z l U r F=>?_⟩;have X:=j _ _ _ _ F;have G:K.In s.heap:=l.mod.Ux.keeps λb o e=>(l.bs b o e).1;have B:s.heap.NoLimit:=l.mod.nolimit.keeps λb o e=>(l.bs b o e).1;have Y:∀y∈p.zip us,scope.names.lookup y.1=some .local\/(scope.names.lookup y.1=some .cell/\((cellsFrom (s.heap.objs.size+1) scope.names []).lookup y.1).isSome=true):=λ⟨n,v⟩ Z=>by
  rcases S.par n (List.of_mem_zip Z).1 with q|q
  ·exact .inl q
  ·exact .inr ⟨q,W.cellsFrom_some _ _ _ (.inl q)⟩
 calc codeAny_call_function z.depth (G _ _ O) rfl S.co S.gen rfl (W.codeRec_of G R) (U _ _ _ _ ?_);calc wpAny_newFunctionEnv_cells S.kind Y λa he L x=>?_;subst he;calc⟨B.keeps x.toInCall.keep,codeAny_func ?_⟩;obtain⟨t,b,i⟩:=T A outer s H vs Q E (z.deeper _) F;have I:Inv (tm CX P w K mg base N qual scope f g A outer s H E) [] (start N vs) H L:=EW S z.hd l X r x;calc aaE (b [] L (start N vs) H _ I i) (λfl a h=>?_) λe a h=>h;have m:∀{c:St} {d:Hp} {v:V} {u:Value},Inv (tm CX P w K mg base N qual scope f g A outer s H E) [] c d a->RelV v u->Q v d->CE outer P w H s Q u a:=
  λ{c d v u} J C q=>⟨v,d,J.os,J.bare,J.base,J.ba,C,q⟩
 cases fl with
 |ret u=>
  obtain⟨v,c,d,J,C,q⟩:=h;calc m J C q
 |next=>
  obtain⟨c,d,J,q⟩:=h;calc m (v:=V.bL) (u:=Value.none) J rfl q
 |brk=>
  obtain⟨_,_,_,q⟩:=h;calc aaK q
 |cont=>
  obtain⟨_,_,_,q⟩:=h;calc aaK q
end
section
section
variable {X:Cx}{x:Str}{p pos:Pos}{e:Expr}{es:List Expr}{t:TA}{id T:String}{r:List V->Hp->VK->Prop}
def OX(r:List V->Hp->VK->Prop)(t:TA):TE:=λσ H Q=>t σ H λvs a=>r vs a Q
theorem Hg(a:fe X (.builtin id) r)(b:Gl X x)(c:X.mg x=none)(d:bootBuiltins x=some (.builtin id))(f:PA X (e::es) t)(g:x≠"__name__":=by decide)(i:(x==("__debug__":Str))=false:=by decide)
  (he:starEach (e::es) X.env=(false,eval e X.env)::starEach es X.env:=by rfl) (j:(backTo pos (starEach es X.env)).any (·.1)=false:=by rfl):PE X (.Call (.Name x p) (e::es) [] pos) (OX r t):=by
 walk_at "xc";refine wpAny_Call_Name_kw (nU I b c d ?_ g i);exact PyProof.Rows.callWith_builtin1 (dq (f pos pins s σ H _ I h) λk l ⟨m,n,o,q,u⟩=>a pins l σ n m k Q o q u) he j
theorem EX(a:fe X (.type T) r)(b:Gl X x)(c:X.mg x=none)(d:bootBuiltins x=some (.type T))(f:PA X (e::es) t)(g:x≠"__name__":=by decide)(i:(x==("__debug__":Str))=false:=by decide)
  (he:starEach (e::es) X.env=(false,eval e X.env)::starEach es X.env:=by rfl) (j:(backTo pos (starEach es X.env)).any (·.1)=false:=by rfl):PE X (.Call (.Name x p) (e::es) [] pos) (OX r t):=by
 walk_at "xc";refine wpAny_Call_Name_kw (nU I b c d ?_ g i);exact PyProof.Rows.callWith_type1 (dq (f pos pins s σ H _ I h) λk l ⟨m,n,o,q,u⟩=>a pins l σ n m k Q o q u) he j
end
end
end L2
namespace HT
open PySem PyProof.Rows
variable {Q:Value->Shared->Prop}
section
open PySem.SeqAt
open PySem.AutoSeq1 (wpAny_loadPart')
open PySem.MeetsSeq PySem.MeetsSeq2 PySem.MeetsSeq3
end
section
variable {prog:Program}{w:World}{A:Around}{E:Value->Shared->Prop}{s:Shared}
theorem MI{t b:Addr}{vs ws:List Value}(p:IsTup s.heap t vs.toArray)(q:IsTup s.heap b ws.toArray)(h:vs≠[])
  (r:ws=[]->Q (.ref t) s) (u:ws≠[]->Q (.ref s.heap.objs.size) {s with heap:=s.heap.push {cls:=.type "tuple",data:=.seq (vs++ws).toArray}})
  (hsz:vs.length+ws.length<=sizeLine):wpAny (model prog w) A (binaryOp .Add (.ref t) (.ref b)) Q E s:=by
 obtain⟨⟨cls,i,data,j⟩,f,k,n,l⟩:=id p;obtain⟨⟨v,a,e,c⟩,g,m,o,d⟩:=id q;simp only at k l m d;subst k l m d;have e:vs.toArray++ws.toArray=(vs++ws).toArray:=by simp
 by_cases d:ws=[]
 ·exact concat_meets ⟨_,f,rfl⟩ ⟨_,g,rfl⟩ noFill_tuple_add seq_tuple_add PySem.F.slot_tuple_add PySem.F.entry_tuple_add (PySem.F.args_tuple_add_2 _ _)
   (tuple_addW1 t b vs.toArray ws.toArray n o i a j c (by simpa using h) (by simp[d])) ⟨f,g,r d⟩
 ·refine concat_meets ⟨_,f,rfl⟩ ⟨_,g,rfl⟩ noFill_tuple_add seq_tuple_add PySem.F.slot_tuple_add PySem.F.entry_tuple_add (PySem.F.args_tuple_add_2 _ _)
   (tuple_addW2 t b vs.toArray ws.toArray n o i a j c (by simpa using h) (by simpa using d) (by rw[aak,aak];calc hsz)) ⟨f,g,?_⟩
  rw[e];calc u d
def eF(n d:Nat):Option Int->Nat
 |none=>d
 |some v=>if v<0 then(v+(n:Int)).toNat else min v.toNat n
theorem yS(n d:Nat):eF n d none=d:=rfl
theorem sE(n d k:Nat):eF n d (some (k:Int))=min k n:=by
 show(if (k:Int)<0 then((k:Int)+(n:Int)).toNat else min (k:Int).toNat n)=min k n;rw[if_neg (),aao]
theorem Rq(n d:Nat)(a:d<=n)(o:Option Int):eF n d o<=n:=by
 cases o with
 |none=>calc a
 |some v=>
  show(if v<0 then(v+(n:Int)).toNat else min v.toNat n)<=n;by_cases a:v<0
  ·rw[if_pos a];lia
  ·rw[if_neg a];calc Nat.min_le_right _ _
theorem CS(v:Int)(n d:Nat):(if v<0 then max (v+(n:Int)) 0 else min v (n:Int))=((eF n d (some v):Nat):Int):=by
 show(if v<0 then max (v+(n:Int)) 0 else min v (n:Int))=(((if v<0 then(v+(n:Int)).toNat else min v.toNat n):Nat):Int)
 by_cases a:v<0
 ·simp only[if_pos a];lia
 ·simp only[if_neg a];lia
theorem Bp(lo a:Option Int)(n:Nat):Builtin.Slice.sliceAdjust lo a 1 (n:Int)=(((eF n 0 lo:Nat):Int),((eF n n a:Nat):Int)):=by
 have b:¬((1:Int)<0):=by lia
 unfold Builtin.Slice.sliceAdjust;simp only[b,if_false];refine Prod.ext ?_ ?_
 ·cases lo with
  |none=>rfl
  |some v=>exact CS v n 0
 ·cases a with
  |none=>rfl
  |some v=>calc CS v n n
theorem Bq(i j:Nat):Builtin.Slice.slicePlaces (i:Int) (j:Int) 1=j-i:=by
 unfold Builtin.Slice.slicePlaces;have a:(1:Int) > 0:=by lia
 simp only[a,if_true,Int.ediv_one];split<;>lia
theorem tw{v:Value}{o:Option Int}{Q:Option Int->Shared->Prop}(p:IsPart v o)(h:Q o s):wpAny (model prog w) A (Builtin.Slice.slicePartIndex v) Q E s:=by
 cases p with
 |none=>calc slicePart_none h
 |int i t=>calc slicePart_int h
theorem j3{d:Addr}{b c:Value}{lo a:Option Int}{n:Nat}{Q:Int×Int×Nat->Shared->Prop}(f:s.heap.IsSliceOf d b c .none)(pl:IsPart b lo)(g:IsPart c a)
  (h:Q (((eF n 0 lo:Nat):Int),1,eF n n a-eF n 0 lo) s):wpAny (model prog w) A (Builtin.Slice.sliceApplied (.ref d) (pure (n:Int))) Q E s:=by
 obtain⟨i,d,j,e⟩:=id f;unfold Builtin.Slice.sliceApplied Builtin.Slice.sliceFields;calc E' (E' (aaI d e (x:=b) rfl (E' (aaI d e (x:=c) rfl (E' (aaI d e (x:=.none) rfl (P' ?_)))))));calc E' (slicePart_none ?_);show wpAny _ _ (if ((1:Int)==0)=true then _ else _) _ _ s;rw[if_neg ∅];calc E' (tw pl (E' (tw g (E' (P' ?_)))));show wpAny _ _ (match Builtin.Slice.sliceAdjust lo a 1 (n:Int) with|(lo,a)=>pure (lo,(1:Int),Builtin.Slice.slicePlaces lo a 1)) _ _ s;rw[Bp lo a n];show wpAny _ _ (pure (((eF n 0 lo:Nat):Int),(1:Int),Builtin.Slice.slicePlaces ((eF n 0 lo:Nat):Int) ((eF n n a:Nat):Int) 1)) _ _ s;rw[Bq];calc P' h
theorem Hi(xs:Array Value)(i k:Nat):((List.range k).filterMap λ(m:Nat)=>xs[((i:Int)+(m:Int)*1).toNat]?).toArray=((xs.toList.drop i).take k).toArray:=by
 have e:(λ(m:Nat)=>xs[((i:Int)+(m:Int)*1).toNat]?)=λm=>xs[i+m]?:=by
  funext m;have:((i:Int)+(m:Int)*1).toNat=i+m:=by lia
  rw[this]
 rw[e];have:=pick_run xs i k;rw[List.filterMap_map]at this;have a:((λx=>xs[x]?) ∘ λx=>i+x)=λm=>xs[i+m]?:=rfl;rw[a]at this;rw[this]
theorem pq{t e:Addr}{a:Array Value}{d f:Value}{lo b:Option Int}(c:IsTup s.heap t a)(g:s.heap.IsSliceOf e d f .none)(pl:IsPart d lo)(i:IsPart f b)
  (j:¬(eF a.size 0 lo=0/\eF a.size a.size b=a.size))
  (h:Q (.ref s.heap.objs.size) {s with heap:=s.heap.push {cls:=.type "tuple",data:=.seq ((a.toList.drop (eF a.size 0 lo)).take (eF a.size a.size b-eF a.size 0 lo)).toArray}})
  (hsz:a.size<=sizeLine):wpAny (model prog w) A (getItem (.ref t) (.ref e)) Q E s:=by
 have d:sizeOk (.seq ((a.toList.drop (eF a.size 0 lo)).take (eF a.size a.size b-eF a.size 0 lo)).toArray):=by
  show((a.toList.drop (eF a.size 0 lo)).take (eF a.size a.size b-eF a.size 0 lo)).toArray.size<=sizeLine;rw[aak,aaB,aba,Array.length_toList];lia
 have f:eF a.size a.size b<=a.size:=Rq _ _ (F' _) b;obtain⟨k,l,n,f⟩:=id g;have f:s.TypeIs (.ref e) "slice":=⟨k,l,n⟩
 unfold getItem
 try with_reducible refine aaS ?_
 first|calc E' (P' ?_)|skip
 calc E' (wpAny_sequenceKey c.typeIs ∅ ?_);refine E' (aaV (name:=Str.ofString "__getitem__") c.typeIs aa5
  (aa0 aa5 c.typeIs entry_tuple_getitem ?_ (args_tuple_getitem _ _)))
 show wpAny _ _ (Builtin.Tuple.tupleItemsOf (.ref t) >>= _) _ _ s;calc E' (tupleItemsOf_ c ?_);calc E' (wpAny_typeOf f ?_);rw[if_pos ∅];calc E' (j3 g pl i ?_);have e:¬((((eF a.size 0 lo:Nat):Int)==0&&(1:Int)==1&&(eF a.size a.size b-eF a.size 0 lo)==a.size)=true):=by
  intro q;rw[aa1,aa1]at q;have c:((eF a.size 0 lo:Nat):Int)=0:=eq_of_beq q.1.1;have c:eF a.size a.size b-eF a.size 0 lo=a.size:=eq_of_beq q.2;exact j ⟨(),()⟩
 show wpAny _ _ (if (((eF a.size 0 lo:Nat):Int)==0&&(1:Int)==1&&(eF a.size a.size b-eF a.size 0 lo)==a.size)=true then _ else _) _ _ s;rw[if_neg e,Hi]
 first
  |calc E' (m:=Builtin.Tuple.tupleExact _) (aa7 (P' ⟨_,rfl,P' h⟩) d)
  |calc E' (m:=Builtin.Tuple.tupleExact _) (aa7 (E' (P' (P' ⟨_,rfl,P' h⟩))) d)
  |calc E' (E' (m:=Builtin.Tuple.tupleExact _) (aa7 (P' (P' ⟨_,rfl,P' h⟩)) d))
  |calc E' (E' (m:=Builtin.Tuple.tupleExact _) (aa7 (P' ⟨_,rfl,P' h⟩) d))
end
end HT
namespace L2
open PySem PySem.Spec PyProof.Rows
section
abbrev TO:=St->Hp->(Option Int->Hp->Prop)->Prop
def PO(X:Cx)(e:Option Expr)(t:TO):Prop:=
 ∀(pins:List (Addr×Obj)) (s:Shared) (σ:St) (H:Hp) (Q:Option Int->Hp->Prop),Inv X pins σ H s->t σ H Q->
  wpAny (model X.prog X.w) X.A (evalPart e X.env) (λu s'=>∃o a,Inv X pins σ a s'/\IsPart u o/\Q o a) X.xe s
def xf:TO:=λ_ H Q=>Q none H
def Hk(t:TE):TO:=λσ H Q=>t σ H λx a=>∃i,x=.int i/\Q (some i) a
section
variable {X:Cx}{e:Expr}{te:TE}{lo hi:Option Expr}{tl th:TO}{pos p2:Pos}
theorem ig:PO X none xf:=by
 intro a s σ H Q I h;rw[evalPart_none];calc P' ⟨none,H,I,.none,h⟩
theorem eW(h:PE X e te):PO X (some e) (Hk te):=by
 intro a s σ H Q I b;rw[evalPart_some];calc dq (h a s σ H _ I b) λu k c=>?_;obtain⟨x,d,f,g,j⟩:=c;obtain⟨i,rfl,q⟩:=j;obtain⟨t,rfl⟩:=g;calc⟨some i,d,f,.int i t,q⟩
def Wc(X:Cx)(r:V->Option Int->Option Int->Hp->VK->Prop):Prop:=
 ∀(pins:List (Addr×Obj)) (s:Shared) (σ:St) (H:Hp) (x:V) (v a b:Value) (lo hi:Option Int) (c:Addr) (Q:VK),Inv X pins σ H s->RelV x v->s.heap.IsSliceOf c a b .none->IsPart a lo->IsPart b hi->r x lo hi H Q->
  ∃T a,typeLookup (.type T) "__getitem__"=pure (some (.builtin a))/\s.TypeIs v T/\wpAny (model X.prog X.w) X.A (getItem v (.ref c)) (EP X pins σ Q) X.xe s
def UB(r:V->Option Int->Option Int->Hp->VK->Prop)(te:TE)(tl th:TO):TE:=λσ H Q=>te σ H λx a=>tl σ a λl b=>th σ b λu a=>r x l u a Q
theorem tx{r:V->Option Int->Option Int->Hp->VK->Prop}(g:Wc X r)(he:PE X e te)(a:PO X lo tl)(f:PO X hi th):PE X (.Subscript e (.Slice lo hi none p2) pos) (UB r te tl th):=by
 walk_at "xc";refine Subscript_ (dq (he pins s σ H _ I h) λv d b=>?_);obtain⟨x,i,j,k,m⟩:=b;refine wpAny_Slice (dq (a pins d σ i _ j m) λc n ⟨l,o,p,r,q⟩=>dq (f pins n σ o _ p q) λd a b=>?_);obtain⟨u,f,i,j,m⟩:=b;rw[evalPart_none];refine P' ?_;have n:Inv X pins σ f {a with heap:=a.heap.push {cls:=.type "slice",data:=.fields #[c,d,.none]}}:=i.kept (t':=a.toks) λb i q=>K' _ q;obtain⟨T,p,b,i,o⟩:=g pins {a with heap:=a.heap.push {cls:=.type "slice",data:=.fields #[c,d,.none]}} σ f x v c d l u a.heap.objs.size Q n k (Heap.IsSliceOf.new ..) r j m;show wpAny (model X.prog X.w) X.A (subscriptTail e (.Slice lo hi none p2) v (.ref a.heap.objs.size)) (EP X pins σ Q) X.xe {a with heap:=a.heap.push {cls:=.type "slice",data:=.fields #[c,d,.none]}};exact tail_any (ops:=[.ref a.heap.objs.size,v]) i b o (by with_unfolding_all rfl)
def dS(xs:List V)(lo hi:Option Int):List V:=(xs.drop (HT.eF xs.length 0 lo)).take (HT.eF xs.length xs.length hi-HT.eF xs.length 0 lo)
theorem gM(xs:List V)(lo hi:Option Int):(dS xs lo hi).length<=xs.length:=by
 unfold dS;rw[aaB,aba];lia
def ab2(K:W.Frag):V->Option Int->Option Int->Hp->VK->Prop:=λx lo hi H Q=>∃a xs,x=.ref a/\bF K H a xs/\
 ¬(HT.eF xs.length 0 lo=0/\HT.eF xs.length xs.length hi=xs.length)/\∀p,H p=none->Q (.ref p) (upd H p (.tup (dS xs lo hi)))
theorem Rt:Wc X (ab2 X.K):=by
 intro b s σ H x v d m lo hi n Q I e g i j h;obtain⟨a,c,rfl,k,l,q⟩:=h
 cases e;obtain⟨m,r,b,d⟩:=I.tuple k;have a:m.toArray.size=c.length:=by rw[aak];exact r.length.symm
 refine⟨"tuple",_,PyProof.Rows.slot_tuple_getitem.lookup,b.typeIs,?_⟩;refine HT.pq b g i j (by rw[a];exact l) ?_ (by rw[a];exact d);rw[a];refine⟨.ref s.heap.objs.size,_,I.laid (t':=s.toks) (o:=.tup (dS c lo hi)) (λb a q=>K' _ q) (F' _) ?_,rfl,q _ (I.ba.fresh (F' _))⟩;exact⟨aaq (gM c lo hi) d,_,(r.drop (HT.eF c.length 0 lo)).take (HT.eF c.length c.length hi-HT.eF c.length 0 lo),IsTup.new _ _⟩
def Wd(K:W.Frag):R2:=λx y H Q=>∃a b xs c,x=.ref a/\y=.ref b/\bF K H a xs/\bF K H b c/\xs≠[]/\xs.length+c.length<=sizeLine/\
 (c=[]->Q (.ref a) H)/\(c≠[]->∀p,H p=none->Q (.ref p) (upd H p (.tup (xs++c))))
theorem Vals.xg{xs:List V}{us:List Value}(r:Vals xs us):us=[]↔xs=[]:=by
 cases r with
 |nil=>simp
 |cons _ _=>simp
theorem MJ:fQ X (binaryOp .Add) (Wd X.K):=by
 intro c s σ H x y v u Q I d f h;obtain⟨a,b,g,i,rfl,rfl,j,k,l,e,m,n⟩:=h
 cases d
 cases f;obtain⟨c,d,h,_⟩:=I.tuple j;obtain⟨f,c,p2,_⟩:=I.tuple k;calc HT.MI h p2 (λz=>l (d.xg.mp z)) (λz=>⟨.ref a,H,I,rfl,m (c.xg.mp z)⟩) (λz=>?_) (by rw[<-d.length,<-c.length];calc e);calc⟨.ref s.heap.objs.size,_,I.laid (t':=s.toks) (o:=.tup (g++i)) (λb a q=>K' _ q) (F' _) ?_,rfl,n (λw=>z (c.xg.mpr w)) _ (I.ba.fresh (F' _))⟩;calc⟨by rw[aas];calc e,_,d.append c,IsTup.new _ _⟩
end
end
section
def Br(n:Nat)(i:Int):Option Nat:=if 0<=i then(if i<n then some i.toNat else none) else if -(n:Int)<=i then some (i+n).toNat else none
def ia{α:Type}(xs:List α)(i:Int):Option α:=(Br xs.length i).bind λj=>xs[j]?
theorem CU{n:Nat}{i:Int}{j:Nat}(h:Br n i=some j):seqIndex? i n=some j/\j<n/\-(n:Int)<=i/\i<n:=by
 unfold Br at h;by_cases b:0<=i
 ·rw[if_pos b] at h;by_cases a:i < n
  ·rw[if_pos a]at h;have e:i.toNat=j:=Option.some.inj h;exact⟨by rw[seqIndex_of b a,e],(),(),a⟩
  ·rw[if_neg a]at h;cases h
 ·rw[if_neg b] at h;by_cases a:-(n:Int)<=i
  ·rw[if_pos a]at h;have e:(i+n).toNat=j:=Option.some.inj h;exact⟨by rw[seqIndex_neg () a,e],(),a,()⟩
  ·rw[if_neg a]at h;cases h
theorem xh{α:Type}{xs:List α}{i:Int}{v:α}(h:ia xs i=some v):∃j,seqIndex? i xs.length=some j/\xs[j]?=some v/\j<xs.length/\-(xs.length:Int)<=i/\i<xs.length:=by
 unfold ia at h
 cases e:Br xs.length i with
 |none=>rw[e]at h;cases h
 |some j=>
  rw[e]at h;obtain⟨a,b,c,d⟩:=CU e;calc⟨j,a,h,b,c,d⟩
theorem aA{α:Type}{xs:List α}{j:Nat}{v:α}(h:xs[j]?=some v):ia xs (j:Int)=some v:=by
 have a:j<xs.length:=(List.getElem?_eq_some_iff.mp h).1;have e:Br xs.length (j:Int)=some j:=by
  unfold Br;rw[if_pos (),if_pos ()];simp
 unfold ia;rw[e];calc h
def CV(b:Expr):Prop:=∀o i,subscripted b false o i=operate [o,i] (getItem o i)
def We(X:Cx)(r:R2):Prop:=
 ∀(b a:Expr) (pins:List (Addr×Obj)) (s:Shared) (σ:St) (H:Hp) (x y:V) (v u:Value) (Q:VK),Inv X pins σ H s->RelV x v->RelV y u->r x y H Q->
  subscripted a false v u=operate [v,u] (getItem v u)->wpAny (model X.prog X.w) X.A (subscriptTail b a v u) (EP X pins σ Q) X.xe s
def Wf(X:Cx)(a:String)(r:V->List V->Hp->VK->Prop):Prop:=
 ∀(pins:List (Addr×Obj)) (s:Shared) (σ:St) (H:Hp) (x:V) (xs:List V) (v:Value) (us:List Value) (Q:VK),Inv X pins σ H s->RelV x v->Vals xs us->r x xs H Q->
  wpAny (model X.prog X.w) X.A (call (.builtin a) (v::us)) (EP X pins σ Q) X.xe s
section
variable {X:Cx}{a b:Expr}{ta tb:TE}{pos:Pos}
theorem Wg{r:R2}(c:We X r)(d:PE X a ta)(e:PE X b tb)(f:CV b):PE X (.Subscript a b pos) (AK r ta tb):=by
 walk_at "xc";exact Subscript_ (Q7 d e I h λv u g x y i j k l q=>c a b pins g σ i x y v u Q j k l q (f _ _))
def ab3(K:W.Frag):R2:=λx y H Q=>∃p xs i v,x=.ref p/\y=.int i/\aO K H p xs/\ia xs i=some v/\Q v H
def ab4(K:W.Frag):R2:=λx y H Q=>∃p xs i v,x=.ref p/\y=.int i/\bF K H p xs/\ia xs i=some v/\Q v H
def ab5:R2:=λx y H Q=>∃z i c,x=.str z/\y=.int i/\z.length<=sizeLine/\ia z.cps.toList i=some c/\Q (.str ⟨#[c]⟩) H
theorem MK:We X (ab3 X.K):=by
 intro b c a s σ H x y v u Q I d e h f;obtain⟨p,j,i,z,rfl,rfl,g,k,q⟩:=h
 cases d;obtain⟨t,rfl⟩:=e;obtain⟨l,r,d,b⟩:=I.list g;obtain⟨j,c,b,e,m,n⟩:=xh k;obtain⟨w,g,e⟩:=r.get b;have k:=r.length;have b:=sZ;have b:EP X a σ Q w s:=⟨z,H,I,e,q⟩
 by_cases h:0<=i
 ·have e:i.toNat=j:=by
   rw[seqIndex_of h n]at c;exact Option.some.inj c
  exact item_listR d.isList h () (by rw[e];simpa using g) b f
 ·have e:(i+(l.toArray.size:Int)).toNat=j:=by
   rw[seqIndex_neg () m]at c;rw[aak,<-k];exact Option.some.inj c
  exact subscriptTail_builtinR (x:=w) d.isList.typeIs slot_list_getitem.lookup
   (wpAny_getItem_list_neg (Q:=λr c=>r=w/\EP X a σ Q r c) d.isList () (by rw[aak]<;>lia) () (by rw[e];simpa using g) ⟨rfl,b⟩) f
theorem Ru:We X (ab4 X.K):=by
 intro b c a s σ H x y v u Q I d e h f;obtain⟨p,j,i,z,rfl,rfl,g,k,q⟩:=h
 cases d;obtain⟨t,rfl⟩:=e;obtain⟨b,r,c,d⟩:=I.tuple g;obtain⟨j,d,b,e,h,i⟩:=xh k;obtain⟨w,e,g⟩:=r.get b;have h:=r.length;have b:=sZ;have b:EP X a σ Q w s:=⟨z,H,I,g,q⟩
 exact subscriptTail_builtinR (x:=w) c.typeIs slot_tuple_getitem.lookup
  (getItem_tuple (j:=j) (Q:=λr g=>r=w/\EP X a σ Q r g) c () () (by rw[aak,<-h];calc d) (by simpa using e) ⟨rfl,b⟩) f
theorem Rv:We X ab5:=by
 intro a b d s σ H x y v u Q I e f h g;obtain⟨z,i,c,rfl,rfl,j,k,q⟩:=h;obtain⟨t,rfl⟩:=e;obtain⟨l,rfl⟩:=f;obtain⟨j,a,b,h,d,e⟩:=xh k;have f:z.cps.toList.length=z.length:=by simp[Str.length]
 rw[f] at a d e;have h:=sZ;exact tail_any (typeIs_str s z t) slot_str_getitem.lookup (getItem_str (c:=c) (by
  have d:decide (i < -(2 ^ 63:Int))=false:=aay ();have e:decide (i >= 2 ^ 63)=false:=aay ();rw[d,e,Bool.or_false]) (by rw[a];simpa using b) ⟨.str ⟨#[c]⟩,H,I.tok _,⟨_,rfl⟩,q⟩) g
theorem Bs(a:List Value)(n j:Nat)(u:Value):Obj.mapSeq (·.setIfInBounds j u) {cls:=.type "list",data:=.seq a.toArray n}={cls:=.type "list",data:=.seq (a.set j u).toArray n}:=by
 simp[Obj.mapSeq]
theorem Inv.lst{pins:List (Addr×Obj)}{σ:St}{H:Hp}{s:Shared}{p:Addr}{xs:List V}(I:Inv X pins σ H s)(h:H p=some (.lst xs)):
  ∃(a:List Value) (n:Nat),Vals xs a/\s.heap.get? p=some {cls:=.type "list",data:=.seq a.toArray n}/\xs.length<=sizeLine:=by
 obtain⟨z,a,n,r,e⟩:=I.ba p _ h;calc⟨a,n,r,e,z⟩
theorem Inv.Rw{pins:List (Addr×Obj)}{σ:St}{H:Hp}{s:Shared}{p:Addr}{xs a:List V}{d lG:List Value}{n c:Nat}{f:Obj->Obj}(I:Inv X pins σ H s)(h:H p=some (.lst xs))
  (i:s.heap.get? p=some {cls:=.type "list",data:=.seq d.toArray n}) (g:f {cls:=.type "list",data:=.seq d.toArray n}={cls:=.type "list",data:=.seq lG.toArray c}) (r:Vals a lG) (d:a.length<=sizeLine) (t:Nat):
  Inv X pins σ (upd H p (.lst a)) {s with heap:=s.heap.update p f,toks:=t}:=by
 have e:(s.heap.update p f).get? p=some {cls:=.type "list",data:=.seq lG.toArray c}:=by
  rw[Heap.get?_update_self f i (by rw[g]<;>rfl),g]
 calc I.write (x:=p) (e:=p) (by rw[h];trivial) (.inl rfl) (λb u a q=>(Heap.get?_update_other _ _ (Ne.symm a)).trans q) ⟨_,e⟩ ?_;calc⟨d,lG,c,r,e⟩
def Wh:V->V->V->Hp->(Hp->Prop)->Prop:=λo i v H Q=>∃p xs k j,o=.ref p/\i=.int k/\H p=some (.lst xs)/\Br xs.length k=some j/\Q (upd H p (.lst (xs.set j v)))
theorem set_list:Q0 X Wh:=by
 intro a s σ H o i v c f u Q I b d l h;obtain⟨p,m,k,j,rfl,rfl,e,w,q⟩:=h
 cases b;obtain⟨t,rfl⟩:=d;obtain⟨f,n,r,c,o⟩:=I.lst e;obtain⟨b,d,g,h⟩:=CU w;have d:=r.length;have i:=sZ;have i:Inv X a σ (upd H p (.lst (m.set j v))) {s with heap:=s.heap.update p (Obj.mapSeq (·.setIfInBounds j u))}:=
  I.Rw e c (Bs f n j u) (r.set l j) (by rw[List.length_set];calc o) s.toks
 by_cases e:0<=k
 ·have a:k.toNat=j:=by
   rw[seqIndex_of e h]at b;exact Option.some.inj b
  exact W.ki_setAt c e () (by rw[aak,<-d];calc h) (by rw[a];calc⟨_,i,q⟩)
 ·have a:(k+(f.toArray.size:Int)).toNat=j:=by
   rw[seqIndex_neg () g]at b;rw[aak,<-d];exact Option.some.inj b
  calc W.ki_setBack c () (by rw[aak,<-d];calc g) () (by rw[a];calc⟨_,i,q⟩)
theorem xi(lo a:Option Int)(n:Nat):(sliceBounds lo a none n).1=((HT.eF n 0 lo:Nat):Int)/\(sliceBounds lo a none n).2.1=((HT.eF n n a:Nat):Int)/\(sliceBounds lo a none n).2.2=1:=by
 refine⟨?_,?_,rfl⟩
 ·cases lo with
  |none=>simp[sliceBounds,HT.eF]
  |some i=>
   simp only[sliceBounds,HT.eF,Option.getD_none,show(1:Int) > 0 by decide,if_true];by_cases h:i<0
   ·simp only[h,if_true]<;>lia
   ·simp only[h,if_false]<;>lia
 ·cases a with
  |none=>simp[sliceBounds,HT.eF]
  |some i=>
   simp only[sliceBounds,HT.eF,Option.getD_none,show(1:Int) > 0 by decide,if_true];by_cases h:i<0
   ·simp only[h,if_true]<;>lia
   ·simp only[h,if_false]<;>lia
theorem vf(a:List Value)(lo b:Option Int):slicePick a.toArray lo b none=((a.drop (HT.eF a.length 0 lo)).take (HT.eF a.length a.length b-HT.eF a.length 0 lo)).toArray:=by
 obtain⟨c,d,e⟩:=xi lo b a.toArray.size;unfold slicePick;rw[c,d,e];simp only[sliceRange_one,pick_run,List.size_toArray]<;>rfl
def ab6(K:W.Frag):V->Option Int->Option Int->Hp->VK->Prop:=λx lo b H Q=>∃a xs,x=.ref a/\aO K H a xs/\∀p,H p=none->Q (.ref p) (upd H p (.lst (dS xs lo b)))
theorem CW:Wc X (ab6 X.K):=by
 intro d s σ H x v g n e f p Q I i j k l h;obtain⟨a,c,rfl,m,q⟩:=h
 cases i;obtain⟨d,r,g,h⟩:=I.list m;have d:=r.length;refine⟨"list",_,slot_list_getitem.lookup,g.isList.typeIs,?_⟩;refine wpAny_getItem_list_slice g.isList j k l .none nofun ?_ (by rw[aak]<;>lia);rw[vf,<-d];refine⟨.ref s.heap.objs.size,_,I.laid (t':=s.toks) (o:=.lst (dS c e f)) (λb d q=>K' _ q) (F' _) ?_,rfl,q _ (I.ba.fresh (F' _))⟩;exact⟨aaq (gM c e f) h,_,0,(r.drop (HT.eF c.length 0 e)).take (HT.eF c.length c.length f-HT.eF c.length 0 e),Y' _ rfl⟩
def gj:V->Bool
 | .bL=>true
 | .bl _=>true
 | .int _=>true
 | .str _=>true
 |_=>false
def CY:V->V->Bool
 | .bL,.bL=>true
 | .bl a,.bl b=>a==b
 | .bl a,.int b=>(if a then 1 else 0)==b
 | .int a,.bl b=>a==(if b then 1 else 0)
 | .int a,.int b=>a==b
 | .str a,.str b=>a==b
 |_,_=>false
theorem Bt{A:Around}{s:Shared}{y x:V}{u v:Value}(e:RelV y u)(c:RelV x v)(g:gj y=true)(f:gj x=true):SeqAt.EqAt A s u v (CY y x):=by
 cases y with
 |bL=>
  cases e
  cases x with
  |bL=>cases c;calc SeqAt.EqAt.same _
  |bl b=>cases c;calc SeqAt.EqAt.none_bool b
  |int b=>obtain⟨t,rfl⟩:=c;calc SeqAt.EqAt.none_int b t
  |str b=>obtain⟨t,rfl⟩:=c;calc SeqAt.EqAt.none_str b t
  |_=>calc absurd (show false=true from f) R'
 |bl a=>
  cases e
  cases x with
  |bL=>cases c;calc SeqAt.EqAt.bool_none a
  |bl b=>cases c;calc SeqAt.EqAt.bool_bool a b
  |int b=>obtain⟨t,rfl⟩:=c;calc SeqAt.EqAt.bool_int a b t
  |str b=>obtain⟨t,rfl⟩:=c;calc SeqAt.EqAt.bool_str a b t
  |_=>calc absurd (show false=true from f) R'
 |int a=>
  obtain⟨d,rfl⟩:=e
  cases x with
  |bL=>cases c;calc SeqAt.EqAt.int_none a d
  |bl b=>cases c;calc SeqAt.EqAt.int_bool a d b
  |int b=>obtain⟨t,rfl⟩:=c;calc SeqAt.EqAt.int_int a d b t
  |str b=>obtain⟨t,rfl⟩:=c;calc SeqAt.EqAt.int_str a d b t
  |_=>calc absurd (show false=true from f) R'
 |str a=>
  obtain⟨d,rfl⟩:=e
  cases x with
  |bL=>cases c;calc SeqAt.EqAt.str_none a d
  |bl b=>cases c;calc SeqAt.EqAt.str_bool a d b
  |int b=>obtain⟨t,rfl⟩:=c;calc SeqAt.EqAt.str_int a d b t
  |str b=>obtain⟨t,rfl⟩:=c;calc SeqAt.EqAt.str_str a d b t
  |_=>calc absurd (show false=true from f) R'
 |_=>calc absurd (show false=true from g) R'
def ML(x:V)(u:Value):Bool:=match u with
 | .none=>CY .bL x
 | .bool b=>CY (.bl b) x
 | .int i _=>CY (.int i) x
 | .str z _=>CY (.str z) x
 |_=>false
theorem Hl{x y:V}{u:Value}(r:RelV y u)(f:gj y=true):ML x u=CY y x:=by
 cases y with
 |bL=>cases r;rfl
 |bl b=>cases r;rfl
 |int i=>obtain⟨t,rfl⟩:=r;rfl
 |str z=>obtain⟨t,rfl⟩:=r;rfl
 |_=>calc absurd (show false=true from f) R'
theorem xj{x:V}:∀{xs:List V}{us:List Value},Vals xs us->xs.all gj=true->us.any (ML x)=xs.any λy=>CY y x
 |_,_,.nil,_=>rfl
 |y::xs,u::us,.cons r t,f=>by
  rw[List.all_cons,aa1]at f;rw[List.any_cons,List.any_cons,Hl r f.1,xj t f.2]
theorem tD{A:Around}{s:Shared}{x:V}{v:Value}(b:RelV x v)(c:gj x=true):∀{xs:List V}{us:List Value},Vals xs us->xs.all gj=true->∀u∈us,SeqAt.EqAt A s u v (ML x u)
 |_,_,.nil,_=>λu a=>by cases a
 |y::xs,u::us,.cons r t,f=>λd a=>by
  rw[List.all_cons,aa1]at f;rcases List.mem_cons.mp a with rfl|a
  ·rw[Hl r f.1];exact Bt r b f.1 c
  ·calc tD b c t f.2 d a
def Bu(x:V)(xs:List V):Bool:=xs.any λy=>CY y x
def rIn(K:W.Frag)(a:Bool):R2:=λx y H Q=>∃p xs,y=.ref p/\(aO K H p xs\/bF K H p xs)/\gj x=true/\xs.all gj=true/\Q (.bl (if a then !Bu x xs else Bu x xs)) H
theorem EZ:fQ X (compareOp .In) (rIn X.K false):=by
 intro b s σ H x y v u Q I f d h;obtain⟨p,e,rfl,a,g,c,q⟩:=h
 cases d;rcases a with a|a
 ·obtain⟨b,r,d,h⟩:=I.list a;calc SeqAt.in_listAt (ML x) d.isList (λw e=>tD f g r c w (by simpa using e)) ⟨.bl _,H,I,rfl,?_⟩;rw[show b.toArray.any (ML x)=b.any (ML x) by simp,xj r c];exact q
 ·obtain⟨b,r,d,h⟩:=I.tuple a;calc SeqAt.in_tupleAt (ML x) d (λw e=>tD f g r c w (by simpa using e)) ⟨.bl _,H,I,rfl,?_⟩;rw[show b.toArray.any (ML x)=b.any (ML x) by simp,xj r c];calc q
theorem xk:fe X (.type "list") (λxs H Q=>∃p d,xs=[.ref p]/\(aO X.K H p d\/bF X.K H p d)/\∀l,H l=none->Q (.ref l) (upd H l (.lst d))):=by
 intro i s σ H xs o Q I r h;obtain⟨p,d,rfl,j,q⟩:=h;obtain⟨u,rfl,n⟩:=vals1 r
 cases n;have k:∀(c:List Value),Vals d c->d.length<=sizeLine->∀(a:Heap) (f:Nat),(∀b h,s.heap.get? b=some h->a.get? b=some h)->
   a.get? s.heap.objs.size=some {cls:=.type "list",dict:=none,data:=.seq c.toArray f,slots:=#[]}->EP X i σ Q (.ref s.heap.objs.size) {s with heap:=a}:=λc g m a f t e=>
  ⟨.ref s.heap.objs.size,_,I.laid (t':=s.toks) t (F' _) (show cE X.prog X.w _ a _ (.lst d) from⟨m,c,f,g,e⟩),rfl,q _ (I.ba.fresh (F' _))⟩
 rcases j with j|j
 ·obtain⟨c,g,h,m⟩:=I.list j;have d:=g.length;obtain⟨o,i,l,n,q⟩:=h.isList;exact call_list_seq p (.inl rfl) i l q (λa f t e=>k c g m a f t e) (by simp only[List.size_toArray]<;>lia)
 ·obtain⟨c,g,h,m⟩:=I.tuple j;have d:=g.length;obtain⟨o,i,l,n,q⟩:=h;calc call_list_seq p (.inr rfl) i l q (λa f t e=>k c g m a f t e) (by simp only[List.size_toArray]<;>lia)
theorem nL:fe X (.type "tuple") (λxs H Q=>∃p c,xs=[.ref p]/\((aO X.K H p c/\∀l,H l=none->Q (.ref l) (upd H l (.tup c)))\/(bF X.K H p c/\Q (.ref p) H))):=by
 intro a s σ H xs e Q I r h;obtain⟨p,c,rfl,h⟩:=h;obtain⟨u,rfl,d⟩:=vals1 r
 cases d;rcases h with⟨f,q⟩|⟨f,q⟩
 ·obtain⟨g,h,i,j⟩:=I.list f;have d:=h.length;calc call_tuple_list i.isList (λd e=>?_) (by simp only[List.size_toArray]<;>lia);have k:Inv X a σ H {s with heap:=d}:=I.kept (t':=s.toks) e;have m:Inv X a σ (upd H d.objs.size (.tup c)) {s with heap:=d.push {cls:=.type "tuple",data:=.seq g.toArray}}:=
   k.laid (t':=s.toks) (λb o e=>K' _ e) (F' _) (show cE X.prog X.w _ _ _ (.tup c) from⟨j,g,h,IsTup.new _ _⟩)
  exact⟨.ref d.objs.size,_,m,rfl,q _ (k.ba.fresh (F' _))⟩
 ·obtain⟨g,h,i,j⟩:=I.tuple f;calc call_tuple_same i ⟨.ref p,H,I,rfl,q⟩
def tyV(K:W.Frag)(T:String)(x:V)(H:Hp):Prop:=match x with
 | .str _=>T="str"
 | .int _=>T="int"
 | .ref p=>(T="list"/\∃xs,aO K H p xs)\/(T="tuple"/\∃o,K.lookup p=some o/\o.cls=.type "tuple"/\o.dict=none)\/
   (T="dict"/\((∃a,H p=some (.dK a))\/∃a,H p=some (.dT a)))\/(T="set"/\∃S n,H p=some (.set S n))
 |_=>False
theorem Hm{pins:List (Addr×Obj)}{σ:St}{H:Hp}{s:Shared}{T:String}{x:V}{v:Value}(I:Inv X pins σ H s)(r:RelV x v)(f:tyV X.K T x H):
  s.TypeIs v T/\∀a,v=.ref a->∃c,s.heap.get? a=some c/\c.dict=none:=by
 cases x with
 |str z=>
  obtain⟨t,rfl⟩:=r
  cases(show T="str" from f);exact⟨typeIs_str s z t,λ_ e=>nomatch e⟩
 |int i=>
  obtain⟨t,rfl⟩:=r
  cases(show T="int" from f);exact⟨typeIs_int s i t,λ_ e=>nomatch e⟩
 |ref p=>
  cases r;rcases f with⟨rfl,m,k⟩|⟨rfl,o,b,l,g⟩|⟨rfl,b⟩|⟨rfl,S,n,b⟩
  ·obtain⟨c,_,j,_⟩:=I.list k;refine⟨j.isList.typeIs,λa e=>?_⟩
   cases e;obtain⟨o,n,e,c,g,_⟩:=j;exact⟨o,e,g⟩
  ·refine⟨⟨o,I.kX p o b,l⟩,λa e=>?_⟩
   cases e;exact⟨o,I.kX _ o b,g⟩
  ·have z:∃o,s.heap.get? p=some o/\o.ExactDict:=by
    rcases b with⟨c,b⟩|⟨c,b⟩
    ·obtain⟨_,_,_,_,o,_,_,e,d,_⟩:=I.ba p _ b;exact⟨o,e,d⟩
    ·obtain⟨_,_,_,_,o,_,_,e,d,_⟩:=I.ba p _ b;exact⟨o,e,d⟩
   obtain⟨o,e,d⟩:=z;refine⟨⟨o,e,d.1⟩,λa h=>?_⟩
   cases h;exact⟨o,e,d.2.1⟩
  ·obtain⟨o,_,_,_,e,d,_⟩:=I.ba p _ b;refine⟨⟨o,e,d.1⟩,λa h=>?_⟩
   cases h;calc⟨o,e,d.2.1⟩
 |_=>calc aaK f
def Rx(K:W.Frag)(T:String)(r:V->List V->Hp->VK->Prop)(b:TE):TE:=λσ H Q=>b σ H λx a=>tyV K T x a/\r x [] a Q
def tBM(K:W.Frag)(T:String)(r:V->List V->Hp->VK->Prop)(b:TE)(t:TA):TE:=λσ H Q=>b σ H λx a=>tyV K T x a/\t σ a λxs b=>r x xs b Q
variable {o e:Expr}{es:List Expr}{to:TE}{t:TA}{name:Str}{apos qd:Pos}{T id:String}{r:V->List V->Hp->VK->Prop}
theorem Ry(d:PlainAttrs T)(a:Slot T name id)(e:typeOf (.builtin id)=pure (.type "method_descriptor"))(f:Wf X id r)(b:PE X o to)
  (c:attributeBase o name X.env (eval o X.env)=eval o X.env:=by rfl) (g:(apos.endLine==qd.line)=true:=by rfl):PE X (.Call (.Attribute o name apos) [] [] qd) (Rx X.K T r to):=by
 walk_at "xc";refine wpAny_Call_method0_late c g (dq (b pins s σ H _ I h) λv i j=>?_);obtain⟨x,g,b,c,k,l⟩:=j;obtain⟨m,n⟩:=Hm b c k;exact⟨T,id,d,a,e,m,n,Calls.callWith_builtin rfl (PySem.evalArgs_none (f pins i σ g x [] v [] Q b c .nil l))⟩
theorem dB(f:PlainAttrs T)(a:Slot T name id)(g:typeOf (.builtin id)=pure (.type "method_descriptor"))(i:Wf X id r)(b:PE X o to)(j:PA X (e::es) t)
  (c:attributeBase o name X.env (eval o X.env)=eval o X.env:=by rfl)
  (d:((backTo qd (starEach (e::es) X.env)).all (λx=> !x.1) && (backToKw qd (keywordEach [] X.env)).all (λx=>x.1.isSome)
   && decide ((e::es).length + ([]:List Keyword).length + (if ([]:List Keyword).isEmpty then 0 else 1) < 30))=true:=by rfl)
  (k:(apos.endLine==qd.line)=true:=by rfl) (l:starEach (e::es) X.env=(false,eval e X.env)::starEach es X.env:=by rfl) (hplain:(backTo qd (starEach es X.env)).any (·.1)=false:=by rfl):
  PE X (.Call (.Attribute o name apos) (e::es) [] qd) (tBM X.K T r to t):=by
 walk_at "xc";refine wpAny_Call_method_late c d k rfl (dq (b pins s σ H _ I h) λv m n=>?_);obtain⟨x,k,b,c,p,q⟩:=n;obtain⟨u,w⟩:=Hm b c p;refine⟨T,id,f,a,g,u,w,?_⟩;have d:=j qd pins m σ k _ b q;rw[l]at d ⊢;refine Calls.callWith_builtin (by show(false||(backTo qd (starEach es X.env)).any (·.1))=false;rw[hplain]<;>rfl) (Calls.evalArgs_plain ?_);exact dq d λa f ⟨g,n,p,u,w⟩=>i pins f σ n x g v a Q p c u w
end
end
section
def MtM(X:Cx)(a:String)(r:V->List V->Hp->VK->Prop):Prop:=
 ∀(pins:List (Addr×Obj)) (s:Shared) (σ:St) (H:Hp) (x:V) (xs:List V) (v:Value) (us:List Value) (Q:VK),Inv X pins σ H s->RelV x v->Vals xs us->r x xs H Q->
  wpAny (model X.prog X.w) X.A (call (.builtin a) (v::us)) (EP X pins σ Q) X.xe s
theorem Vals.one:∀{x:V}{us:List Value},Vals [x] us->∃u,us=[u]/\RelV x u
 |_,_,.cons r .nil=>⟨_,rfl,r⟩
theorem Vals.two:∀{x y:V}{us:List Value},Vals [x,y] us->∃u v,us=[u,v]/\RelV x u/\RelV y v
 |_,_,_,.cons r (.cons q .nil)=>⟨_,_,rfl,r,q⟩
theorem Vals.zero:∀{us:List Value},Vals [] us->us=[]
 |_,.nil=>rfl
theorem Vals.dropLast{xs:List V}{us:List Value}(h:Vals xs us):Vals xs.dropLast us.dropLast:=by
 induction h with
 |nil=>calc .nil
 |cons r t a=>
  cases t with
  |nil=>calc .nil
  |cons q b=>calc .cons r a
theorem Vals.eraseIdx:∀{xs:List V}{us:List Value}(i:Nat),Vals xs us->Vals (xs.eraseIdx i) (us.eraseIdx i)
 |_,_,_,.nil=>.nil
 |_,_,0,.cons _ t=>t
 |_,_,i+1,.cons r t=>.cons r (Vals.eraseIdx i t)
theorem Bv{α:Type}(l:List α):l.eraseIdx (l.length-1)=l.dropLast:=by
 induction l with
 |nil=>rfl
 |cons a r c=>
  cases r with
  |nil=>rfl
  |cons b r=>
   have e:(a::b::r).length-1=((b::r).length-1)+1:=by
    have d:(a::b::r).length=r.length+2:=rfl;have a:(b::r).length=r.length+1:=rfl;lia
   rw[e,List.eraseIdx_cons_succ,c]
   all_goals rfl
theorem vW{α:Type}:∀(l:List α) (i:Nat),(l.eraseIdx i).length<=l.length
 | [],_=>F' _
 |_::_,0=>Nat.le_succ _
 |_::r,i+1=>Nat.succ_le_succ (vW r i)
section
variable {X:Cx}{pins:List (Addr×Obj)}{σ:St}{H:Hp}{s:Shared}{l b:Addr}{xs ys zs:List V}
theorem Inv.MN{a lG:List Value}{n:Nat}{f:Array Value->Array Value}{t':Nat}(I:Inv X pins σ H s)(b:H l=some (.lst xs))
  (e:s.heap.get? l=some {cls:=.type "list",data:=.seq a.toArray n}) (c:f a.toArray=lG.toArray) (d:Vals ys lG) (g:ys.length<=sizeLine):
  Inv X pins σ (upd H l (.lst ys)) {s with heap:=s.heap.update l (Obj.mapSeq f),toks:=t'}:=by
 have q:=PySem.IsL.update e f;rw[c]at q;calc I.write (x:=l) (e:=l) (by rw[b];calc trivial) (.inl rfl) (λe u a c=>(Heap.get?_update_other s.heap (Obj.mapSeq f) (Ne.symm a)).trans c) ⟨_,q⟩ ?_;calc⟨g,lG,_,d,q⟩
theorem Inv.aca{a:List Value}{t':Nat}(I:Inv X pins σ H s)(b:Vals ys a)(c:ys.length<=sizeLine):
  Inv X pins σ (upd H s.heap.objs.size (.lst ys)) {s with heap:=s.heap.push {cls:=.type "list",data:=.seq a.toArray},toks:=t'}:=
 I.laid (λ_ _ q=>K' _ q) (F' _) ⟨c,a,0,b,Y' _ rfl⟩
theorem Inv.fresh(I:Inv X pins σ H s):H s.heap.objs.size=none:=I.ba.fresh (F' _)
theorem Inv.Bw(I:Inv X pins σ H s)(b:H l=some (.lst xs)):xs.length<=sizeLine/\∃(a:List Value) (n:Nat),Vals xs a/\xs.length=a.length/\s.heap.get? l=some {cls:=.type "list",data:=.seq a.toArray n}:=by
 obtain⟨z,a,n,r,e⟩:=I.ba l _ b;calc⟨z,a,n,r,r.length,e⟩
theorem Hn{n:Nat}(h:n<=sizeLine):Builtin.List.listTooLong n=false:=by
 unfold Builtin.List.listTooLong;calc aay ()
end
section
variable {X:Cx}
def MO:V->List V->Hp->VK->Prop:=λx vs H Q=>∃l xs y,x=.ref l/\vs=[y]/\H l=some (.lst xs)/\xs.length<sizeLine/\Q .bL (upd H l (.lst (xs++[y])))
theorem vX:MtM X "list.append" MO:=by
 intro a s σ H x e v f Q I c d h;obtain⟨l,g,y,rfl,rfl,b,i,q⟩:=h
 cases c;obtain⟨u,rfl,f⟩:=d.one;obtain⟨z,a,n,r,c,e⟩:=I.Bw b;calc call_meets F.slot_list_append ⟨_,e,rfl⟩ F.entry_list_append (F.args_list_append_2 _ _) (PySem.list_append l a.toArray n u (by rw[aak];lia)) ⟨e,?_⟩;calc⟨.bL,_,I.MN (lG:=a++[u]) b e nofun (r.append (.cons f .nil)) ?_,rfl,q⟩;rw[aas,aa3];lia
def MP:V->List V->Hp->VK->Prop:=λx vs H Q=>∃l b xs a,x=.ref l/\vs=[.ref b]/\H l=some (.lst xs)/\H b=some (.lst a)/\xs.length+a.length<=sizeLine/\Q .bL (upd H l (.lst (xs++a)))
theorem E2:MtM X "list.extend" MP:=by
 intro a s σ H x e v j Q I c d h;obtain⟨l,b,k,m,rfl,rfl,f,g,n,q⟩:=h
 cases c;obtain⟨u,rfl,i⟩:=d.one
 cases i;obtain⟨z,a,n,r,c,e⟩:=I.Bw f;obtain⟨d,c,h,i,k,j⟩:=I.Bw g;have d:a.toArray.size+c.toArray.size<=sizeLine:=by rw[aak,aak];lia
 have g:¬(!a.toArray.isEmpty&&Builtin.List.listTooLong (a.toArray.size+c.toArray.size))=true:=by
  rw[Hn d,Bool.and_false];exact R'
 refine call_meets F.slot_list_extend ⟨_,e,rfl⟩ F.entry_list_extend (F.args_list_extend_2 _ _)
  (AutoSeq1.list_extend_list_list_0 l a.toArray n b c.toArray h g (by rw[aak];lia) ()) ⟨e,j,?_⟩
 calc⟨.bL,_,I.MN (lG:=a++c) f e nofun (r.append i) ?_,rfl,q⟩;rw[aas];lia
def acb:V->List V->Hp->VK->Prop:=λx vs H Q=>∃l xs y,x=.ref l/\vs=[]/\H l=some (.lst xs)/\xs[xs.length-1]?=some y/\Q y (upd H l (.lst xs.dropLast))
theorem Rz:MtM X "list.pop" acb:=by
 intro a s σ H x e v i Q I d f h;obtain⟨l,j,y,rfl,rfl,c,g,q⟩:=h
 cases d;have b:=f.zero;subst b;obtain⟨z,a,n,r,d,e⟩:=I.Bw c;obtain⟨u,b,f⟩:=r.get g;have h:a.toArray[a.toArray.size-1]?=some u:=by
  show a.toArray[a.length-1]?=some u;rw[<-Array.getElem?_toList,<-d];exact b
 calc call_meets F.slot_list_pop ⟨_,e,rfl⟩ F.entry_list_pop (F.args_list_pop_1 _) (MeetsSeq.list_pop_last l a.toArray n u h (by rw[aak];lia)) ⟨e,?_⟩;refine⟨y,_,I.MN (lG:=a.dropLast) c e ?_ r.dropLast ?_,f,q⟩
 ·show a.toArray.eraseIdxIfInBounds (a.toArray.size-1)=a.dropLast.toArray;rw[aak,List.eraseIdxIfInBounds_toArray,Bv]
 ·rw[List.length_dropLast];lia
def acd:R2:=λx y H Q=>∃l b xs a,x=.ref l/\y=.ref b/\H l=some (.lst xs)/\H b=some (.lst a)/\xs.length+a.length<=sizeLine/\∀p,H p=none->Q (.ref p) (upd H p (.lst (xs++a)))
theorem RA:fQ X (binaryOp .Add) acd:=by
 intro a s σ H x y v u Q I c d h;obtain⟨l,b,e,i,rfl,rfl,f,g,j,q⟩:=h
 cases c
 cases d;obtain⟨z,a,n,r,b,e⟩:=I.Bw f;obtain⟨h,b,i,c,j,d⟩:=I.Bw g;calc PySem.P.add_list e d ?_ (by rw[aak,aak];lia);have f:a.toArray++b.toArray=(a++b).toArray:=by simp
 rw[f];calc⟨.ref _,_,I.aca (t':=s.toks) (r.append c) (by rw[aas];lia),rfl,q _ I.fresh⟩
theorem Ho{pins:List (Addr×Obj)}{s:Shared}{σ:St}{H:Hp}{l:Addr}{xs:List V}{i:Int}{t:Tok}{k:Nat}{Q:Unit->Shared->Prop}(I:Inv X pins σ H s)(b:H l=some (.lst xs))
  (c:-(2^63)<=i) (d:i<2^63) (f:seqIndex? i xs.length=some k) (h:∀s',Inv X pins σ (upd H l (.lst (xs.eraseIdx k))) s'->Q ⟨⟩ s'):
  wpAny (model X.prog X.w) X.A (delItem (.ref l) (.int i t)) Q X.xe s:=by
 obtain⟨z,a,n,r,g,e⟩:=I.Bw b;calc PySem.P.delItem_list (k:=k) e (fitsIndex_both c d) (by rw[aak,<-g];calc f) (h _ ?_) (by rw[aak];lia);refine I.MN (lG:=a.eraseIdx k) (t':=s.toks) b e ?_ (r.eraseIdx k) ?_
 ·show a.toArray.eraseIdxIfInBounds k=(a.eraseIdx k).toArray;rw[List.eraseIdxIfInBounds_toArray]
 ·have:=vW xs k;lia
end
section
variable {prog:Program}{w:World}{A:Around}{E:Value->Shared->Prop}{s:Shared}
set_option maxRecDepth 100000 in
end
section
variable {X:Cx}
end
end
section
variable {a:Addr}{X:Cx}{H H':Hp}{bb:List (Key×V)}{xs:List (List Key×Addr×Value)}{AM:List (TE×TE)}{pos:Pos}{Q:Value->Shared->Prop}
section
variable {κ:Type} [DecidableEq κ]
def gi(bb:List (κ×V))(k:κ):Option V:=(bb.find? λa=>decide (a.1=k)).map (·.2)
def putK(bb:List (κ×V))(k:κ)(v:V):List (κ×V):=
 if (bb.any λa=>decide (a.1=k))=true then bb.map (λa=>if a.1=k then(a.1,v) else a) else bb++[(k,v)]
theorem Hq{k:κ}:gi ([]:List (κ×V)) k=none:=rfl
theorem eP{p:κ×V}{r:List (κ×V)}{k:κ}(e:p.1=k):gi (p::r) k=some p.2:=by simp[gi,List.find?_cons,e]
theorem eQ{p:κ×V}{r:List (κ×V)}{k:κ}(e:¬p.1=k):gi (p::r) k=gi r k:=by simp[gi,List.find?_cons,e]
theorem j4(k:κ):∀bb:List (κ×V),(bb.any λa=>decide (a.1=k))=(gi bb k).isSome
 | []=>rfl
 |p::r=>by
  rw[List.any_cons];by_cases e:p.1=k
  ·simp only[eP e,decide_eq_true e,Bool.true_or,Option.isSome_some]
  ·rw[eQ e,aay e,Bool.false_or];calc j4 k r
theorem yV(k j:κ)(y:V):∀bb:List (κ×V),gi (bb.map λa=>if a.1=k then(a.1,y) else a) j=(gi bb j).map λx=>if j=k then y else x
 | []=>rfl
 |p::r=>by
  have a:=yV k j y r;rw[aaN];by_cases h:p.1=k
  ·rw[if_pos h];by_cases e:p.1=j
   ·rw[eP (p:=(p.1,y)) e,eP e,Option.map_some,if_pos (e.symm.trans h)]
   ·rw[eQ (p:=(p.1,y)) e,eQ e,a]
  ·rw[if_neg h];by_cases e:p.1=j
   ·rw[eP (p:=p) e,eP e,Option.map_some,if_neg (λz=>h (e.trans z))]
   ·rw[eQ (p:=p) e,eQ e,a]
theorem vY(k j:κ)(y:V):∀bb:List (κ×V),gi bb k=none->gi (bb++[(k,y)]) j=if j=k then some y else gi bb j
 | [],_=>by
  by_cases e:k=j
  ·rw[if_pos e.symm];exact eP (p:=(k,y)) e
  ·rw[if_neg (λz=>e z.symm)];calc eQ (p:=(k,y)) e
 |p::r,a=>by
  rw[List.cons_append];have b:¬p.1=k:=λz=>by rw[eP z]at a;cases a
  rw[eQ b]at a;have c:=vY k j y r a;by_cases e:p.1=j
  ·rw[eP e,eP e,if_neg (λz=>b (e.trans z))]
  ·rw[eQ e,eQ e,c]
theorem Hr(bb:List (κ×V))(k j:κ)(y:V):gi (putK bb k y) j=if j=k then some y else gi bb j:=by
 unfold putK;by_cases a:(bb.any λb=>decide (b.1=k))=true
 ·rw[if_pos a,yV];rw[j4] at a;by_cases e:j=k
  ·obtain⟨x,b⟩:=Option.isSome_iff_exists.mp a;rw[if_pos e,e,b,Option.map_some,if_pos rfl]
  ·rw[if_neg e]
   cases gi bb j with
   |none=>rfl
   |some x=>rw[Option.map_some,if_neg e]
 ·rw[if_neg a];calc vY k j y bb ?_;rw[j4] at a
  cases q:gi bb k with
  |none=>rfl
  |some x=>rw[q]at a;calc(a rfl).elim
theorem lK(bb:List (κ×V))(k:κ)(v:V):(putK bb k v).length<=bb.length+1:=by
 unfold putK;split
 ·rw[M'];lia
 ·rw[aas,aaL,List.length_nil];lia
theorem Ht{bb:List (κ×V)}{k:κ}(v:V)(h:gi bb k=none):putK bb k v=bb++[(k,v)]:=by
 unfold putK;rw[j4,h];calc if_neg ∅
theorem ny.qe{o:Option V}{u:Option Value}(r:ny o u):o.isSome=u.isSome:=by
 cases o with
 |none=>cases u with
  |none=>rfl
  |some _=>calc(show False from r).elim
 |some _=>cases u with
  |none=>calc(show False from r).elim
  |some _=>rfl
theorem KV.val{bb:List (κ×V)}{vs:List (κ×Value)}(r:KV bb vs)(k:κ):ny (gi bb k) (valueAt vs k):=by
 unfold KV at r;induction r with
 |nil=>calc aaF
 | @cons p q b a h t g=>
  obtain⟨d,i⟩:=h;by_cases e:p.1=k
  ·have c:q.1=k:=d.symm.trans e;have b:valueAt (q::a) k=some q.2:=by simp[valueAt,List.find?_cons,c]
   rw[eP e,b];exact i
  ·have c:¬q.1=k:=λz=>e (d.trans z);have b:valueAt (q::a) k=valueAt a k:=by simp[valueAt,List.find?_cons,c]
   rw[eQ e,b];calc g
theorem KV.any{bb:List (κ×V)}{vs:List (κ×Value)}(r:KV bb vs)(k:κ):(bb.any λa=>decide (a.1=k))=vs.any λa=>decide (a.1=k):=by
 unfold KV at r;induction r with
 |nil=>rfl
 |cons h t a=>rw[List.any_cons,List.any_cons,a,h.1]
theorem KV.RB{bb:List (κ×V)}{vs:List (κ×Value)}(r:KV bb vs)(k:κ){y:V}{u:Value}(b:RelV y u):
  KV (bb.map λa=>if a.1=k then(a.1,y) else a) (vs.map λa=>if a.1=k then(a.1,u) else a):=by
 unfold KV at r ⊢;induction r with
 |nil=>calc .nil
 | @cons p q a d h t c=>
  rw[aaN,aaN];calc .cons ?_ c;obtain⟨a,d⟩:=h;by_cases e:p.1=k
  ·rw[if_pos e,if_pos (a.symm.trans e)];exact⟨a,b⟩
  ·rw[if_neg e,if_neg (λz=>e (a.trans z))];calc⟨a,d⟩
theorem KV.put{bb:List (κ×V)}{vs:List (κ×Value)}(r:KV bb vs)(k:κ){y:V}{u:Value}(a:RelV y u):KV (putK bb k y) (stored vs k u):=by
 unfold putK stored;rw[r.any k];by_cases e:(vs.any λb=>decide (b.1=k))=true
 ·rw[if_pos e,if_pos e];exact r.RB k a
 ·rw[if_neg e,if_neg e];calc Paired.snoc r ⟨rfl,a⟩
theorem KV.length{bb:List (κ×V)}{vs:List (κ×Value)}(r:KV bb vs):bb.length=vs.length:=Paired.length r
end
theorem yW{P:Program}{w:World}{k:Key}{u:Value}(r:RelV (kV k) u):(dF P w).is k u=true:=by
 cases k with
 |inl i=>obtain⟨t,e⟩:=(show ∃t,u=Value.int i t from r);subst e;calc yJ P w i t
 |inr x=>obtain⟨t,e⟩:=(show ∃t,u=Value.str x t from r);subst e;calc yK P w x t
theorem vZ{P:Program}{w:World}:∀{ks:List Key}{us:List Value},Vals (ks.map kV) us->ItemsAre (dF P w) ks us
 | [],_,r=>by rw[List.map_nil]at r;cases r;calc .nil
 |k::ks,_,r=>by
  rw[aaN]at r
  cases r with
  |cons h t=>calc .cons (yW h) (vZ t)
abbrev KT(H:Hp):List (List Key×V)->List (List Key×Addr×Value)->Prop:=Paired λp q=>p.1=q.1/\H q.2.1=some (.tup (p.1.map kV))/\RelV p.2 q.2.2
theorem KT.val{H:Hp}{bb:List (List Key×V)}{xs:List (List Key×Addr×Value)}(r:KT H bb xs)(k:List Key):ny (gi bb k) ((atKey xs k).map (·.2)):=by
 induction r with
 |nil=>calc aaF
 | @cons p q b a h t g=>
  obtain⟨d,_,i⟩:=h;by_cases e:p.1=k
  ·have c:q.1=k:=d.symm.trans e;have b:atKey (q::a) k=some q.2:=by simp[atKey,List.find?_cons,c]
   rw[eP e,b];exact i
  ·have c:¬q.1=k:=λz=>e (d.trans z);have b:atKey (q::a) k=atKey a k:=by simp[atKey,List.find?_cons,c]
   rw[eQ e,b];calc g
theorem KT.RB{H:Hp}{bb:List (List Key×V)}{xs:List (List Key×Addr×Value)}(r:KT H bb xs)(k:List Key){y:V}{u:Value}(c:RelV y u):
  KT H (bb.map λa=>if a.1=k then(a.1,y) else a) (xs.map (putAt k u)):=by
 induction r with
 |nil=>calc .nil
 | @cons p q a b h t d=>
  rw[aaN,aaN];calc .cons ?_ d;obtain⟨a,b,g⟩:=h;unfold putAt;by_cases e:p.1=k
  ·rw[if_pos e,if_pos (a.symm.trans e)];exact⟨a,b,c⟩
  ·rw[if_neg e,if_neg (λz=>e (a.trans z))];calc⟨a,b,g⟩
theorem KT.put{bb:List (List Key×V)}(r:KT H bb xs)(k:List Key){b:Addr}{y:V}{u:Value}(c:H b=some (.tup (k.map kV)))(a:RelV y u):
  KT H (putK bb k y) (storedH xs k b u):=by
 have e:(bb.any λb=>decide (b.1=k))=(atKey xs k).isSome:=by
  rw[j4,(r.val k).qe,Option.isSome_map]
 unfold putK storedH;rw[e];by_cases q:(atKey xs k).isSome=true
 ·rw[if_pos q,if_pos q];exact r.RB k a
 ·rw[if_neg q,if_neg q];calc Paired.snoc r ⟨rfl,c,a⟩
theorem KT.keeps{bb:List (List Key×V)}(r:KT H bb xs)(c:∀b a,H b=some (.tup a)->H' b=some (.tup a)):KT H' bb xs:=
 Paired.QP r λ_ _ z=>⟨z.1,c _ _ z.2.1,z.2.2⟩
section
variable {P:Program}{w:World}{H:Hp}{h:Heap}{a:Addr}
theorem OZ{u:HO}(ok:nS P w H h)(e:Rd H a u):cE P w H h a u:=e.ok ok
theorem CZ(b:nS P w H h)(e:Rd H a (.dK bb)):bb.length<=sizeLine/\(a==sysModules)=false/\∃vs,KV bb vs/\h.DictOf (dF P w) a vs:=
 show cE P w H h a (.dK bb) from OZ b e
theorem Hu(b:nS P w H h)(e:H a=some (.dK bb)):bb.length<=sizeLine/\(a==sysModules)=false/\∃vs,KV bb vs/\h.DictOf (dF P w) a vs:=CZ b (.inl e)
theorem xl{ks:List Key}(b:nS P w H h)(e:H a=some (.tup (ks.map kV))):(tupleKind (dF P w)).is h ks a:=by
 obtain⟨_,c,r,o,d,f,n,g⟩:=(show cE P w H h a (.tup (ks.map kV)) from b a _ e)
 calc⟨o,c.toArray,n,d,f,g,by simpa using vZ r⟩
theorem C0{bb:List (List Key×V)}(d:nS P w H h)(e:Rd H a (.dT bb)):bb.length<=sizeLine/\(a==sysModules)=false/\
  ∃xs,KT H bb xs/\h.DictOfH (tupleKind (dF P w)) a xs:=by
 obtain⟨z,y,xs,r,o,g,i,j,k,n,p,s⟩:=(show cE P w H h a (.dT bb) from OZ d e)
 calc⟨z,y,xs,r,o,g,i,j,k,n,p,λx b=>?_,s⟩;have c:∀{l:List (List Key×V)} {m:List (List Key×Addr×Value)},KT H l m->∀x∈m,(tupleKind (dF P w)).is h x.1 x.2.1:=by
  intro l m q;induction q with
  |nil=>intro x b;calc nomatch b
  | @cons p q g i f t u=>
   intro x b;rcases List.mem_cons.mp b with e|b
   ·subst e;exact xl d (by rw[<-f.1];calc f.2.1)
   ·exact u x b
 calc c r x b
theorem Wl{bb:List (List Key×V)}(b:nS P w H h)(e:H a=some (.dT bb)):bb.length<=sizeLine/\(a==sysModules)=false/\
  ∃xs,KT H bb xs/\h.DictOfH (tupleKind (dF P w)) a xs:=C0 b (.inl e)
end
def jj(H:Hp)(a:Addr)(y:V)(r:Option V):Prop:=
 (∃bb k,Rd H a (.dK bb)/\y=kV k/\r=gi bb k)\/∃bb k b,Rd H a (.dT bb)/\y=.ref b/\H b=some (.tup (k.map kV))/\r=gi bb k
def Bx(H:Hp)(a:Addr)(y v:V)(H':Hp):Prop:=
 (∃bb k,H a=some (.dK bb)/\y=kV k/\bb.length<sizeLine/\H'=upd H a (.dK (putK bb k v)))\/
 ∃bb k b,H a=some (.dT bb)/\y=.ref b/\H b=some (.tup (k.map kV))/\bb.length<sizeLine/\H'=upd H a (.dT (putK bb k v))
theorem jj.k{k:Key}(e:H a=some (.dK bb)):jj H a (kV k) (gi bb k):=.inl ⟨bb,k,.inl e,rfl,rfl⟩
theorem Bx.k{k:Key}{v:V}(e:H a=some (.dK bb))(b:bb.length<sizeLine):Bx H a (kV k) v (upd H a (.dK (putK bb k v))):=.inl ⟨bb,k,e,rfl,b,rfl⟩
section
variable {X:Cx}{pins:List (Addr×Obj)}{σ:St}{H:Hp}{s:Shared}{a:Addr}{y v:V}{u r:Value}{o:Option V}{A:Around}{E:Value->Shared->Prop}
theorem Inv.big(I:Inv X pins σ H s):sysModules<s.heap.objs.size:=by
 have h:mainGlobals<s.heap.objs.size:=(I.mod.glob.keeps I.bk).lt;calc Nat.lt_trans ∅ h
theorem v7(n:A.units+1<cLine)(I:Inv X pins σ H s)(g:jj H a y (some v))(m:RelV y u)(h:∀w' s',Inv X pins σ H s'->RelV v w'->Q w' s'):
  wpAny (model X.prog X.w) A (getItem (.ref a) u) Q E s:=by
 rcases g with⟨bb,k,e,d,l⟩|⟨bb,k,b,e,d,q,l⟩
 ·subst d;obtain⟨z,p,g,c,f⟩:=CZ I.ba e;obtain⟨w',i,j⟩:=ny.some_of (v:=v) (o:=valueAt g k) (by rw[l];calc c.val k);exact wpAny_getItem_of (yW m) f.mapOf i (h w' _ (I.tok _) j)
 ·subst d
  cases(show u=Value.ref b from m);obtain⟨z,p,xs,c,f⟩:=C0 I.ba e;obtain⟨w',i,j⟩:=ny.some_of (v:=v) (o:=(atKey xs k).map (·.2)) (by rw[l];calc c.val k);obtain⟨p,b,d⟩:=Option.map_eq_some_iff.mp i;calc wpAny_getItem_heap (tupleKind_room_in1 n) (xl I.ba q) f b ?_;rw[d];calc h w' _ (I.tok _) j
theorem MQ(m:A.units+1<cLine)(I:Inv X pins σ H s)(g:jj H a y o)(j:RelV y u)(h:∀s',Inv X pins σ H s'->Q (.bool (!o.isSome)) s'):
  wpAny (model X.prog X.w) A (compareOp .NotIn u (.ref a)) Q E s:=by
 rcases g with⟨bb,k,e,d,l⟩|⟨bb,k,b,e,d,n,l⟩
 ·subst d;obtain⟨z,f,g,c,i⟩:=CZ I.ba e;calc wpAny_notIn_of (yW j) f i.mapOf ?_;rw[<-(c.val k).qe,<-l];exact h _ (I.tok _)
 ·subst d
  cases(show u=Value.ref b from j);obtain⟨z,f,xs,c,i⟩:=C0 I.ba e;calc wpAny_notIn_heap (tupleKind_room_in1 m) (xl I.ba n) f i ?_;have q:=(c.val k).qe;rw[Option.isSome_map]at q;rw[<-q,<-l];calc h _ (I.tok _)
theorem xm{h':Heap}{t':Nat}{b:HO}(I:Inv X pins σ H s)(d:VR (H a))(f:Heap.SameBut a s.heap h')(he:∃q,h'.get? a=some q)(c:cE X.prog X.w (upd H a b) h' a b):
  Inv X pins σ (upd H a b) {s with heap:=h',toks:=t'}:=
 I.write (x:=a) (e:=a) d (.inl rfl) (λb q g z=>(f.2 b g).trans z) he c
theorem Hv{P:Program}{w:World}{h':Heap}{vs:List (Key×Value)}(z:bb.length<=sizeLine)(c:(a==sysModules)=false)(b:KV bb vs)(d:h'.DictOf (dF P w) a vs):
  cE P w H' h' a (.dK bb):=⟨z,c,vs,b,d⟩
theorem E3{Q:Unit->Shared->Prop}(G:A.units+1<cLine)(I:Inv X pins σ H s)(g:Bx H a y v H')(B:RelV y u)(C:RelV v r)(h:∀s',Inv X pins σ H' s'->Q ⟨⟩ s'):
  wpAny (model X.prog X.w) A (setItem (.ref a) u r) Q E s:=by
 rcases g with⟨bb,k,e,c,l,j⟩|⟨bb,k,b,e,c,D,l,j⟩
 ·subst c j;obtain⟨z,m,g,d,n⟩:=Hu I.ba e;have o:g.length<=sizeLine:=by rw[<-d.length];exact z
  have p:(putK bb k v).length<=sizeLine:=by have:=lK bb k v;lia
  calc wpAny_setItem_pairs (hsz:=o) (yW B) n λF f x=>h _ ?_;have g:∃q,F.get? a=some q:=let ⟨q,_,_,i,_⟩:=f;⟨q,i⟩
  exact xm I (by rw[e];calc aaF) x g (Hv p m (d.put k C) f)
 ·subst c j
  cases(show u=Value.ref b from B);obtain⟨z,m,xs,d,n⟩:=Wl I.ba e;have o:xs.length<=sizeLine:=by rw[<-Paired.length d];exact z
  have p:(putK bb k v).length<=sizeLine:=by have:=lK bb k v;lia
  calc wpAny_setItem_heap (hsz:=o) (tupleKind_room_in1 G) (xl I.ba D) n λF f x=>h _ ?_;obtain⟨q,g,j,i,l,n,o,_,t⟩:=f;calc xm I (by rw[e];calc aaF) x ⟨q,i⟩ ⟨p,m,_,(d.put k D C).keeps λc h b=>?_,q,g,j,i,l,n,o,t⟩;rw[ay (CC b e (λz=>nomatch z))];calc b
end
section
variable {X:Cx}{pins:List (Addr×Obj)}{σ:St}{H:Hp}{s:Shared}{a:Addr}{bb:List (Key×V)}{k:Key}{u:Value}{A:Around}{E:Value->Shared->Prop}
end
def Wm(i:Expr):Prop:=∀a b,subscripted i false a b=operate [a,b] (getItem a b)
theorem MR{prog:Program}{w:World}{A:Around}{E:Value->Shared->Prop}{s:Shared}{env:Env}{b a:Expr}{T c:String}
  (j:typeLookup (.type T) "__getitem__"=pure (some (.builtin c))) (k:Wm a)
  (h:wpAny (model prog w) A (eval b env) (λo d=>wpAny (model prog w) A (eval a env) (λi c=>c.TypeIs o T/\wpAny (model prog w) A (getItem o i) Q E c) E d) E s):
  wpAny (model prog w) A (eval (.Subscript b a pos) env) Q E s:=by
 calc Subscript_ (aaE h (λo d e=>aaE e (λi c d=>?_) λ_ _ x=>x) λ_ _ x=>x);obtain⟨g,d⟩:=d;unfold subscriptTail;calc E' ?_;rw[getitemInPython_of_ne g.not_modules];calc E' (wpAny_specialOf g j ?_);have f:wpAny (model prog w) A (subscripted a false o i) (λr e=>wpAny (model prog w) A (letTemporaryGo b o r >>= λ_=>pure r) Q E e) E c:=by
  rw[k o i];exact wpAny_operating (aaE d (λr e a=>E' (wpAny_letTemporaryGo (P' a))) λ_ _ x=>x)
 first
  |calc P' (E' f)
  |calc E' (P' (E' f))
  |calc E' f
theorem rE{pins:List (Addr×Obj)}{σ:St}{s:Shared}{y:V}{o:Option V}(I:Inv X pins σ H s)(g:jj H a y o):s.TypeIs (.ref a) "dict":=by
 rcases g with⟨bb,k,e,_,_⟩|⟨bb,k,b,e,_,_,_⟩
 ·obtain⟨_,_,c,_,b⟩:=CZ I.ba e;exact b.typeIs
 ·obtain⟨_,_,xs,_,b⟩:=C0 I.ba e;calc b.typeIs
def Hw(b c:TE):TE:=λσ H Q=>b σ H λx d=>c σ d λy b=>∃a v,x=.ref a/\jj b a y (some v)/\Q v b
def xn(b c:TE):TE:=λσ H Q=>b σ H λy d=>c σ d λx b=>∃a o,x=.ref a/\jj b a y o/\Q (.bl (!o.isSome)) b
def Hx(b c d:TE):TS:=λD σ H=>d σ H λv e=>b σ e λx d=>c σ d λy e=>∃a b,x=.ref a/\Bx e a y v b/\D.nx σ b
section
variable {X:Cx}{o i e value:Expr}{pos pos' Rl:Pos}{td ty tv:TE}
theorem MT(c:X.A.units+1<cLine)(d:PE X o td)(e:PE X i ty)(f:Wm i):PE X (.Subscript o i pos) (Hw td ty):=by
 walk_at "xc";refine MR PySem.F.slot_dict_getitem.lookup f (dq (d pins s σ H _ I h) λu j ⟨x,k,l,m,n⟩=>dq (e pins j σ k _ l n) λd f p=>?_);obtain⟨y,q,b,r,a,v,t,g,w⟩:=p;subst t;obtain rfl:u=Value.ref a:=m;exact⟨rE b g,v7 c b g r λf j d e=>⟨v,q,d,e,w⟩⟩
theorem E4(b:X.A.units+1<cLine)(c:PE X i ty)(d:PE X o td):PC X .NotIn i o (xn ty td):=by
 walk_at "xc";refine dq (c pins s σ H _ I h) λw e ⟨y,f,j,k,l⟩=>dq (d pins e σ f _ j l) λu c m=>?_;obtain⟨x,n,p,q,a,r,t,g,v⟩:=m;subst t;obtain rfl:u=Value.ref a:=q;exact MQ b p g k λd c=>⟨.bl (!r.isSome),n,c,rfl,v⟩
theorem mZ(b:X.A.units+1<cLine)(c:PE X o td)(d:PE X i ty)(e:PE X value tv)(f:swapsWith value (some (.Subscript o i pos')) pos.line X.env=pure false):
  PS X (.Assign [.Subscript o i pos'] value pos) (Hx td ty tv):=by
 walk_at "xd";refine wpAny_Assign_Subscript (dq (e pins s σ H _ I h) λr j ⟨v,k,l,m,n⟩=>dq (c pins j σ k _ l n) λu e ⟨x,p,q,t,r⟩=>dq (d pins e σ p _ q r) λc j w=>?_) f;obtain⟨y,c,z,B,a,C,E,g,F⟩:=w;subst E;obtain rfl:u=Value.ref a:=t;exact E3 b z g B m λd c=>⟨σ,C,c,F⟩
end
theorem yX{P:Program}{w:World}(h:Heap)(a:sysModules<h.objs.size):cE P w H (h.push {cls:=.type "dict",data:=.dict #[]}) h.objs.size (.dK []):=
 ⟨aaj _,beq_eq_false_iff_ne.mpr (Ne.symm (aal a)),[],.nil,Heap.DictOf.new h⟩
def By:TE:=λ_ H Q=>∀p,H p=none->Q (.ref p) (upd H p (.dK []))
section
variable {X:Cx}{pos:Pos}
theorem Hy:PE X (.Dict [] [] pos) By:=.mk λb s σ H Q I h=>
 wpAny_Dict_empty ⟨.ref s.heap.objs.size,_,I.laid (a:=s.heap.objs.size) (o:=.dK []) (t':=s.toks) (λ_ _ q=>K' _ q) (F' _) (yX s.heap I.big),rfl,h _ (I.ba.fresh (F' _))⟩
end
def qf:List (TE×TE)->St->Hp->(List (V×V)->Hp->Prop)->Prop
 | [],_,H,Q=>Q [] H
 |(a,b)::r,σ,H,Q=>a σ H λx c=>b σ c λy a=>qf r σ a λb c=>Q ((x,y)::b) c
abbrev VV:List (V×V)->List (Value×Value)->Prop:=Paired λp q=>RelV p.1 q.1/\RelV p.2 q.2
def PPs(X:Cx)(pos:Pos)(b:List (Option Expr))(a:List Expr)(AM:List (TE×TE)):Prop:=
 ∀(pins:List (Addr×Obj)) (s:Shared) (σ:St) (H:Hp) (Q:List (V×V)->Hp->Prop),Inv X pins σ H s->qf AM σ H Q->
  wpAny (model X.prog X.w) X.A (evalPairs (pairTrees b a X.env pos)) (λvs s'=>∃a H',Inv X pins σ H' s'/\VV a vs/\Q a H') X.xe s
theorem MU:PPs X pos [] [] []:=λa s σ H Q I h=>pairTrees_nil_walk ⟨[],H,I,.nil,h⟩
theorem tF{k v:Expr}{ks:List (Option Expr)}{vs:List Expr}{a b:TE}(c:PE X k a)(d:PE X v b)(e:PPs X pos ks vs AM):
  PPs X pos (some k::ks) (v::vs) ((a,b)::AM):=λa s σ H Q I h=>
 pairTrees_cons_walk (dq (c a s σ H _ I h) λu b ⟨x,f,g,i,j⟩=>dq (d a b σ f _ g j) λn c ⟨y,h,k,l,m⟩=>
  dq (e a c σ h _ k m) λn o ⟨d,f,g,b,j⟩=>⟨(x,y)::d,f,g,.cons ⟨i,l⟩ b,j⟩)
def nV(bb a:List (Key×V)):List (Key×V):=a.foldl (λb c=>putK b c.1 c.2) bb
theorem KV.merge:∀{a:List (Key×V)}{b:List (Key×Value)}{bb:List (Key×V)}{vs:List (Key×Value)},KV a b->KV bb vs->KV (nV bb a) (merged vs b):=by
 intro a b bb vs r;unfold KV at r;induction r generalizing bb vs with
 |nil=>intro q;calc q
 | @cons p q b c h t a=>
  intro b;have e:KV (putK bb p.1 p.2) (stored vs q.1 q.2):=by
   have:=b.put p.1 h.2;rw[<-h.1];exact this
  calc a e
theorem nM:∀(a bb:List (Key×V)),(nV bb a).length<=bb.length+a.length
 | [],bb=>by show bb.length<=bb.length+0;lia
 |p::r,bb=>by
  have a:=nM r (putK bb p.1 p.2);have a:=lK bb p.1 p.2;show(nV (putK bb p.1 p.2) r).length<=_;rw[aaL];lia
theorem tH{P:Program}{w:World}:∀{bb:List (Key×V)}{ws:List (Value×Value)},VV (bb.map λb=>(kV b.1,b.2)) ws->∃d,Carries (dF P w) ws d/\KV bb d
 | [],_,r=>by rw[List.map_nil]at r;cases r;calc⟨[],aaF,.nil⟩
 |p::bb,_,r=>by
  rw[aaN]at r
  cases r with
  | @cons a b c e h t=>
   obtain⟨d,c,q⟩:=tH (P:=P) (w:=w) t;obtain⟨f,e⟩:=b;calc⟨(p.1,e)::d,⟨yW h.1,rfl,c⟩,.cons ⟨rfl,h.2⟩ q⟩
def C8(AM:List (TE×TE)):TE:=λσ H Q=>∀p,H p=none->qf AM σ (upd H p (.dK [])) λc a=>a p=some (.dK [])/\∃bb:List (Key×V),c=bb.map (λb=>(kV b.1,b.2))/\bb.length<=15/\Q (.ref p) (upd a p (.dK (nV [] bb)))
theorem MV{b:List (Option Expr)}{d:List Expr}(h:PPs X pos b d AM)(k:b.all (·.isSome)=true)(l:b.length=d.length)(m:b≠[])
  (f:b.length<=15):PE X (.Dict b d pos) (C8 AM):=by
 refine⟨?_⟩;intro b s σ H Q I q;have d:=I.ba.fresh (F' s.heap.objs.size);have n:=I.laid (a:=s.heap.objs.size) (o:=.dK []) (h':=s.heap.push {cls:=.type "dict",data:=.dict #[]}) (t':=s.toks) (λ_ _ q=>K' _ q) (F' _) (yX s.heap I.big);refine wpAny_Dict_walk (knd:=dF X.prog X.w) k l m f (dq (h b _ σ _ _ n (q _ d)) λz B p=>?_);obtain⟨b,d,j,g,e,bb,r,f,t⟩:=p;subst r;obtain⟨u,c,v⟩:=tH (P:=X.prog) (w:=X.w) g;obtain⟨z,x,b,y,A⟩:=Hu j.ba e
 cases y;calc⟨u,c,A,λi b d=>⟨.ref s.heap.objs.size,_,?_,rfl,t⟩⟩;have c:(nV [] bb).length<=sizeLine:=by
  have f:=nM bb [];rw[List.length_nil]at f;rw[aax];lia
 have f:∃q,i.get? s.heap.objs.size=some q:=let ⟨q,_,_,g,_⟩:=b;⟨q,g⟩
 calc xm j (by rw[e];calc aaF) d f (Hv c x (v.merge .nil) b)
section
variable {X:Cx}{pins:List (Addr×Obj)}{σ:St}{H:Hp}{s:Shared}{a:Addr}{y d:V}{u r:Value}{o:Option V}{A:Around}{E:Value->Shared->Prop}
end
section
variable {X:Cx}{pins:List (Addr×Obj)}{σ:St}{H:Hp}{s:Shared}{a:Addr}{y:V}{u:Value}{A:Around}{E:Value->Shared->Prop}
end
end
end L2
namespace Att
open PySem PySem.W PySem.Calls PyProof.Rows
theorem rN{P:Params}{h:Heap}:∀(ns:List Int) (vs:List Value),WellAll P h vs (ns.map WData.int)->IntsAre vs ns:=by
 intro ns;induction ns with
 |nil=>
  intro vs w;rw[List.map_nil]at w
  cases w;calc .nil
 |cons n ns c=>
  intro vs w;rw[aaN]at w
  cases w with
  |cons a b=>
   cases a;calc .cons _ _ (c _ b)
theorem E5{l:OpenLaw}{n:Nat}(i:l.most=some n){P:Params}{h:Heap}{args:List WData}{b:List Value}
  (f:l.row.toRowW.claim.pre args=true) (j:WellAll P h b args):
  ∃a vs ns,b=[Value.ref a]/\args=[WData.list (ns.map WData.int)]/\h.get? a=some {cls:=.type "list",data:=.seq vs.toArray}/\IntsAre vs ns/\ns.length<=n:=by
 have e:WShape.hasAll [] args [.list .int]=true:=(pre_splitW f).1;have g:l.pre.holds [] {args:=args}=true:=(pre_splitW f).2;obtain⟨d,r,rfl,k,m⟩:=hasAllW_cons e;obtain rfl:=hasAllW_nil m;obtain⟨q,rfl,o⟩:=hasW_list k;obtain⟨ns,rfl⟩:=items_int o;have c:ns.length<=n:=by
  unfold OpenLaw.pre at g;have a:(WTm.not (.lt (.lit (.int (n:Int))) (.len (.arg 0)))).holds [] {args:=[.list (ns.map .int)]}=true:=by
   have a:=(holds_andW g).1;rw[i]at a;exact a
  have b:=condW_of a (w_not (w_lt w_lit (w_len_list (w_arg rfl))));rw[M']at b;calc Nat.le_of_not_lt λq=>?_;have a:(n:Int)<((ns.length:Nat):Int):=by lia
  first
   |(rw[aar a]at b;calc absurd b ∅)
   |(simp at b;lia)
 cases j with
 |cons p s=>
  cases s
  cases p with
  |list a b=>calc⟨_,_,ns,rfl,rfl,a,rN ns _ b,c⟩
theorem E6(l:OpenLaw)(args:List WData):l.row.toRowW.claim.post args (.bool true) args=true:=
 postW_of (r:=l.row.toRowW) (X:=(true == true))
  (show WShape.has [] (.bool true) .bool=true by first|rfl|decide|simp[WShape.has,WShape.arms,WShape.armsAll])
  (show(WTm.eq .res (.lit (.bool true))).value [] {args:=args,res:=some (.bool true),after:=args}=some (.bool (true==true)) from w_eq_bool (w_res rfl) w_lit) rfl
theorem yY{l:OpenLaw}{n:Nat}{q:Program}{c:List Str}{m:(Str->Option Value)->Heap->Prop}{p:World->Heap->Prop}{d:DefRec}
  (v:l.most=some n) (x:d.params.defaults=[])
  (call:∀(w:World) (s₀ b:Shared) (h j:Str->Option Value) (g:Addr) (o:Obj) (k i e:Value) (a:Addr) (vs:List Value) (ns:List Int),
   Ground q c [] m w s₀ h j b.heap->p w b.heap->
   b.heap.get? g=some o->o.data=.func (docDef d.name d.params d.body d.scope k i e)->b.heap.CodeRec i d.name->h d.name=some (.ref g)->
   b.heap.get? a=some {cls:=.type "list",data:=.seq vs.toArray}->IntsAre vs ns->ns.length<=n->b.gens=#[]->
   codeAny (model l.prog w) callerA (.call (.ref g) ⟨[.ref a],[]⟩) (λr s'=>r=.ok (.ret (.bool true))/\OldK b.heap s'.heap/\s'.os=b.os/\AllBare s'.gens) b):
  WalkO q c m p l.row.toRowW d [] (λf vs=>PySem.call f vs):=by
 intro w s₀ b h j G Y g o k i e y kV z A B s C D t u K E F H I L;obtain rfl:y=.none:=Dflts.none s x;obtain rfl:kV=.none:=Dflts.noKw s;obtain⟨a,vs,ns,rfl,rfl,f,c,d⟩:=E5 v E I;calc enter_call (codeAny_mono (call w s₀ b h j g o k i e a vs ns G Y z (fd_plain A) B C f c d D) λr s' J=>?_);obtain⟨rfl,a,b,c⟩:=J;calc⟨.inl ⟨.bool true,.bool true,[],rfl,λ_=>rfl,.bool true,E6 l _,λ_=>⟨List.Pairwise.nil,λ_ d=>(nomatch d)⟩⟩,a,b,c⟩
section
variable {prog:Program}{w:World}{A:Around}{E:Value->Shared->Prop}{s:Shared}{K:Frag}
end
end Att
namespace L2
open PySem PySem.Spec PyProof.Rows
section
theorem m7:∀{vs:List Value}{ns:List Int},IntsAre vs ns->Vals (ns.map V.int) vs
 |_,_,.nil=>.nil
 |_,_,.cons n t h=>.cons ⟨t,rfl⟩ (m7 h)
def RE(H:Hp):Prop:=∀b,H b=none\/∃o xs,H b=some (.AI o (.lst xs))
theorem Hz{P:Program}{w:World}{K:W.Frag}{l J:Str->Option Value}{CX:LR}{k:Nat}{m a:Addr}{n:FuncData}{x:Str}{sp:Sp}{c:Shared}{vs:List Value}{ns:List Int}
  (U:K.In c.heap) (p:c.heap.Ns mainGlobals l) (g:c.heap.Ns builtinsNs J) (L:∀x:Str,x≠"__name__"->J x=bootBuiltins x) (M:c.heap.NoLimit) (hg:c.gens=#[])
  (I:c.heap.get? a=some {cls:=.type "list",data:=.seq vs.toArray}) (X:IntsAre vs ns) (Y:ns.length<=sizeLine) (hr:ff k callerA)
  (F:∀base:Heap,K.In base->base.Ns mainGlobals l->nC P w K l base CX k m n [x] sp) (Wq:∀(s:Shared) (u:Value),BindsTo s n ⟨[u],[]⟩ [(x,u)])
  (OW:∀H:Hp,RE H->aO K H a (ns.map V.int)->sp [.ref a] H (λv _=>v=.bl true) λ_ _ _=>False)
  (N:∀H e s',CX [] H c (λ_ _ _=>False) e s'->False):
  codeAny (model P w) callerA (.call (.ref m) ⟨[.ref a],[]⟩) (λr s'=>r=.ok (.ret (.bool true))/\OldK c.heap s'.heap/\s'.os=c.os/\AllBare s'.gens) c:=by
 have Z:=m7 X;have O:=X.length;have j:∀H:Hp,RE H->aO K H a (ns.map V.int)->nS P w H c.heap->(∀b,H b≠none->b=a)->(H a≠none->K.lookup a=none)->
   codeAny (model P w) callerA (.call (.ref m) ⟨[.ref a],[]⟩) (λr s'=>r=.ok (.ret (.bool true))/\OldK c.heap s'.heap/\s'.os=c.os/\AllBare s'.gens) c:=by
  intro H hO hS ba hA hK;have C9:∀{b:Addr} {o:Obj},c.heap.get? b=some o->H b=none->(wX c.heap H).get? b=some o:=λe n=>GK e n;have V9:∀{b:Addr} {o:Obj} {t:Array DictEntry} {y:Nat},c.heap.get? b=some o->o.data=.dict t y->H b=none:=λ{b o t y} e d=>by
   cases q:H b with
   |none=>rfl
   |some u=>
    have R:b=a:=hA b (by rw[q];simp);subst R;rw[I]at e;cases e;have d':Data.seq vs.toArray _=Data.dict t y:=d
    cases d'
  have i:∀{b:Addr} {m:Str->Option Value},c.heap.Ns b m->(wX c.heap H).Ns b m:=λ{b m} ⟨o,t,y,e,d,r⟩=>⟨o,t,y,C9 e (V9 e d),d,r⟩
  have B:K.In (wX c.heap H):=λb o e=>C9 (U b o e) (by
   cases q:H b with
   |none=>rfl
   |some u=>
    have R:b=a:=hA b (by rw[q];simp);subst R;rw[hK (by rw[q];simp)] at e;cases e)
  have d:Mod K l (wX c.heap H):=⟨B,i p,⟨J,i g,L⟩,let ⟨k,m,n⟩:=M;⟨k,i m,n⟩⟩
  have k:Bn P w K l (wX c.heap H) callerA [] c H:=⟨rfl,d,λb o e=>Ms e,Nat.le_of_eq (EH _ _),trivial,λb g=>absurd (show b∈([]:List Addr) from g) nofun,ba,.of_eq hg⟩
  refine codeAny_mono ((F _ B (i p)).run callerA [] c H ⟨[.ref a],[]⟩ [.ref a] [.ref a] _ _ hr k (Wq c (.ref a)) (.cons rfl .nil) (OW H hO hS)) λr s' h=>?_
  cases r with
  |error e=>calc(N H e s' h).elim
  |ok fl=>
   cases fl with
   |next=>calc aaK h
   |brk=>calc aaK h
   |cont=>calc aaK h
   |ret u=>
    obtain⟨v,c,os,C,un,S,r',q⟩:=h;have q':v=.bl true:=q;subst q';obtain rfl:u=Value.bool true:=r';refine⟨rfl,OldK.of_keep λb o e=>?_,os,C⟩
    cases q:H b with
    |none=>calc un.keep b o e q (by intro z;calc absurd (show b∈([]:List Addr) from z) nofun) nofun
    |some u=>
     rcases hO b with z|⟨ob,c,z⟩
     ·rw[q]at z;cases z
     ·have z2:=un.wW b ob _ z;obtain⟨e1,_⟩:=ba b _ z;obtain⟨e2,_⟩:=S b _ z2;rw[e]at e1;cases e1;exact e2
 cases T:K.lookup a with
 |some o=>
  have e:=U a o T;rw[I]at e
  cases e;calc j (λ_=>none) (λ_=>.inl rfl) (.inr ⟨_,vs.toArray,_,T,rfl,rfl,rfl,by rw[aak,O];calc Y,by simpa using Z⟩) (λb u z=>by have G:(none:Option HO)=some u:=z;cases G) (λb z=>absurd rfl z) λz=>absurd rfl z
 |none=>
  refine j (λb=>if b=a then some (.AI {cls:=.type "list",data:=.seq vs.toArray} (.lst (ns.map V.int))) else none) (λb=>?_) (.inl (.inr ⟨{cls:=.type "list",data:=.seq vs.toArray},if_pos rfl⟩)) (λb u z=>?_) (λb z=>?_) λ_=>T
  ·by_cases g:b=a
   ·exact .inr ⟨_,_,if_pos g⟩
   ·exact .inl (if_neg g)
  ·by_cases g:b=a
   ·have G:=(if_pos g).symm.trans z
    cases G;subst g;exact⟨I,by rw[M'];calc Y,vs,_,Z,I⟩
   ·have G:=(if_neg g).symm.trans z
    cases G
  ·by_cases g:b=a
   ·exact g
   ·calc absurd (if_neg g) z
end
section
theorem MX{l:W.OpenLaw}{n k:Nat}{q:Program}{c:List Str}{p:(Str->Option Value)->Heap->Prop}{o:World->Heap->Prop}{d:DefRec}{K:Params->W.Frag}{CX:World->LR}{sp:World->Sp}{x:Str}
  (r:l.most=some n) (m:n<=sizeLine) (t:d.params.defaults=[]) (y:ff k callerA)
  (z:∀(w:World) (h:Heap),o w h->(K w.params).In h)
  (F:∀(w:World) (i:Str->Option Value) (j:Addr) (h:Heap),(K w.params).In h->h.Ns mainGlobals i->i d.name=some (.ref j)->
   ∃h:FuncData,(∀(s:Shared) (u:Value),BindsTo s h ⟨[u],[]⟩ [(x,u)])/\
    ∀base:Heap,(K w.params).In base->base.Ns mainGlobals i->nC l.prog w (K w.params) i base (CX w) k j h [x] (sp w))
  (u:∀(w:World) (H:Hp) (a:Addr) (ns:List Int),ns.length<=n->RE H->aO (K w.params) H a (ns.map V.int)->sp w [.ref a] H (λv _=>v=.bl true) λ_ _ _=>False)
  (k:∀(w:World) (H:Hp) (s:Shared) (e:Value) (s':Shared),CX w [] H s (λ_ _ _=>False) e s'->False):
  W.WalkO q c p o l.row.toRowW d [] (λf vs=>PySem.call f vs):=by
 calc Att.yY r t λw l f i v j o x A n a vs ns G Y B C D p q d c s=>?_;have l:=z w _ Y;obtain⟨h,n,o⟩:=F w i j _ l G.T.g p;calc Hz l G.T.g G.T.b G.T.builtins G.T.nolimit s q d (aaq c m) y o n (λH h r=>u w H a ns c h r) λH e s'=>k w H f e s'
end
section
variable {f:Addr}{st:Stmt}{qual:Str}
def eL(s:Stmt):Arguments:=match s with
 | .FunctionDef _ a _ _ _ _ _ _ _ _=>a
 |_=>{posonlyargs:=[],args:=[],vararg:=none,kwonlyargs:=[],kw_defaults:=[],kwarg:=none,defaults:=[]}
def dj(s:Stmt):List Stmt:=match s with
 | .FunctionDef _ _ b _ _ _ _ _ _ _=>b
 |_=>[]
def az(s:Stmt):Scope:=match s with
 | .FunctionDef _ _ _ _ _ _ sc _ _ _=>sc
 |_=>{kind:=.function,names:=[],isGenerator:=false,isCoroutine:=false}
abbrev E8:LR:=λ_ _ _ _ _ _=>False
abbrev E0:XK:=λ_ _ _=>False
theorem Dc{X:Cx}:Passes E8 X E0:=λ_ _ _ _ _ _ _ h=>h.elim
structure MY(K:W.Frag)(x qual:Str)(st:Stmt)(f:Addr)(fd:FuncData):Prop where
 ex:∃(oc:Value) (od:Option Addr) (kV doc pm:Value) (an:Option Addr) (gQ ct:Value) (OV:Array (Option Value)),
  fd=W.fnOf x qual (eL st) (dj st) (az st) .none kV doc pm an gQ ct/\K.lookup f=some ⟨oc,od,.func fd,OV⟩/\W.codeIn K gQ qual=true
 kp:W.keepIn K (.ref f)=true
section
variable {P:Program}{w:World}{K:W.Frag}{mg:Str->Option Value}{base:Heap}
theorem MY.ok{x:Str}{d:FuncData}{N b:List Str}{k:Nat}{sp:Sp}(F:MY K x qual st f d)(S:aD N b (az st))(c:∀vs H Q E,sp vs H Q E->vs.length=b.length)
  (e:∀(a:Value) (A:Around) (outer:List Env) (s:Shared) (H:Hp) (vs:List V) (Q:VK) (E:XK),ff k (A.deeper (envOfC qual (az st) s.heap.objs.size f a))->sp vs H Q E->
   ∃t,yE (tm E8 P w K mg base N qual (az st) f a A outer s H E).Mu (dj st) t/\t {nx:=λ_ g=>Q .bL g,rt:=Q} (start N vs) H):nC P w K mg base E8 (k + 1) f d b sp:=by
 obtain⟨i,j,kV,h,l,m,a,n,o,rfl,b,d⟩:=F.ex;calc Wa b d S c λA outer s H vs Q E g i=>?_;obtain⟨t,h,q⟩:=e a A outer s H vs Q E g i;calc⟨t,h.Mu,q⟩
theorem MY.binds{x:Str}{g:FuncData}{b:List Str}(F:MY K x qual st f g)
  (h:∀(kV a c:Value) (d:Option Addr) (e ct:Value) (us:List Value),us.length=b.length->bindArgs (W.fnOf x qual (eL st) (dj st) (az st) .none kV a c d e ct) ⟨us,[]⟩=pure (b.zip us)):Binds K g b []:=by
 obtain⟨i,j,kV,a,c,d,e,ct,k,rfl,b,g⟩:=F.ex;calc .all (h kV a c d e ct)
theorem nW{x:Str}{g:Value}{h d:Option Addr}{i:Array (Option Value)}{kV a e b ct:Value}(l:K.lookup f=some ⟨g,h,.func (W.fnOf x qual (eL st) (dj st) (az st) .none kV a e d b ct),i⟩)
  (c:W.codeIn K b qual=true) (k:W.keepIn K (.ref f)=true):MY K x qual st f (W.fnOf x qual (eL st) (dj st) (az st) .none kV a e d b ct):=⟨⟨g,h,kV,a,e,d,b,ct,i,rfl,l,c⟩,k⟩
end
theorem aB{n:Nat}(h:n<=1000):n<sizeLine:=aa4 h ∅
section
variable {X:Cx}
theorem pv(i:Nat){x:Str}{a:Pos}(b:X.N[i]?=some x:=by rfl)(c:VT X.env.scope x:=by first|calc Or.inl rfl|calc Or.inr (Or.inl rfl)|calc Or.inr (Or.inr rfl))(d:(x==("__debug__":Str))=false:=by decide)
  (e:(x==("__classdict__":Str))=false:=by decide):PE X (.Name x a) (GN i):=GO b c d e
end
def av(H a:Hp):Prop:=∀b o,H b=some o->a b=some o
theorem av.refl(H:Hp):av H H:=λ_ _ h=>h
theorem av.trans{H c d:Hp}(a:av H c)(b:av c d):av H d:=λc o h=>b c o (a c o h)
theorem av.free{H a:Hp}(e:av H a){l:Addr}(h:a l=Option.none):H l=Option.none:=by
 cases q:H l with
 |none=>rfl
 |some o=>
  rw[e l o q]at h
  cases h
theorem av.seq{K:W.Frag}{H b:Hp}{a:Addr}{xs:List V}(e:av H b)(h:aO K H a xs):aO K b a xs:=by
 rcases h with(h|⟨o,h⟩)|h
 ·exact .inl (.inl (e _ _ h))
 ·exact .inl (.inr ⟨o,e _ _ h⟩)
 ·calc .inr h
section
variable {κ:Type} [DecidableEq κ]
theorem MZ{a:List (κ×V)}{k:κ}{v:V}(h:gi a k=some v):k∈a.map (·.1):=by
 have q:(a.any λb=>decide (b.1=k))=true:=by
  rw[j4,h]
  all_goals rfl
 obtain⟨p,a,e⟩:=List.any_eq_true.mp q;calc List.mem_map.mpr ⟨p,a,aav e⟩
end
end
end L2
set_option maxHeartbeats 4000000
namespace L2
open PySem PySem.Spec PyProof.Rows
section
variable {X:Cx}{H H₂:Hp}{pins:List (Addr×Obj)}{s:Shared}{σ:St}
def lL(env:Env):List (Str×NameKind)->List (Str×Addr)->List (Str×Addr)
 | [],cs=>cs
 |(n,k)::r,cs=>lL env r (if k == .free then(n,(env.cells.lookup n).getD 0)::cs else cs)
theorem yZ{env:Env}{x:Str}{c:Addr}:∀{l:List (Str×NameKind)}{cs:List (Str×Addr)},(x,c)∈lL env l cs->(x,c)∈cs\/((x,NameKind.free)∈l/\c=(env.cells.lookup x).getD 0)
 | [],cs,h=>.inl h
 |(n,k)::r,cs,h=>by
  unfold lL at h;rcases yZ h with a|⟨a,g⟩
  ·by_cases b:(k == NameKind.free)=true
   ·rw[if_pos b] at a;have i:k=.free:=by simpa using b
    rcases List.mem_cons.mp a with e|e
    ·have d:=congrArg Prod.fst e;have f:=congrArg Prod.snd e;simp only at d f;subst d i;exact .inr ⟨aaa,f⟩
    ·exact .inl e
   ·rw[if_neg b]at a;exact .inl a
  ·calc .inr ⟨aai _ a,g⟩
theorem v8{env:Env}{p:Str×Addr}:∀{l:List (Str×NameKind)}{cs:List (Str×Addr)},p∈cs->p∈lL env l cs
 | [],_,h=>h
 |(n,k)::r,cs,h=>by
  unfold lL;calc v8 ?_;split
  ·exact aai _ h
  ·calc h
theorem tI{env:Env}{x:Str}:∀{l:List (Str×NameKind)}{cs:List (Str×Addr)},(x,NameKind.free)∈l->(x,(env.cells.lookup x).getD 0)∈lL env l cs
 | [],_,h=>by simp at h
 |(n,k)::r,cs,h=>by
  unfold lL;rcases List.mem_cons.mp h with e|e
  ·have a:=congrArg Prod.fst e;have b:=congrArg Prod.snd e;simp only at a b;subst a b;calc v8 ?_;rw[if_pos nofun];exact aaa
  ·calc tI e
theorem fu{β:Type}:∀{l:List (Str×β)}{x:Str}{c:β},(x,c)∈l->∃d,l.lookup x=some d
 | [],_,_,h=>by simp at h
 |(n,b)::r,x,c,h=>by
  by_cases e:x=n
  ·subst e;exact⟨b,nofun⟩
  ·have a:(x == n)=false:=beq_eq_false_iff_ne.mpr e;rcases List.mem_cons.mp h with q | q
   ·exact absurd (congrArg Prod.fst q) e
   ·obtain⟨d,b⟩:=fu q;calc⟨d,by simp only[List.lookup_cons,a];calc b⟩
theorem nN{scope:Scope}{env:Env}(h:∀x∈scope.names,x.2=.free->∃c,env.cells.lookup x.1=some c):closureFor scope env=pure (lL env scope.names []):=by
 unfold closureFor;have b:∀(l:List (Str×NameKind)) (a:List (Str×Addr)),(∀x ∈ l,x.2=.free->∃c,env.cells.lookup x.1=some c)->
   ((forIn l a λ(x:Str×NameKind) (r:List (Str×Addr))=>if (x.2==NameKind.free)=true then do let y <-cellOf env x.1;pure (ForInStep.yield ((x.1,y)::r)) else pure (ForInStep.yield r)):Sem (List (Str×Addr)))=pure (lL env l a):=by
  intro l;induction l with
  |nil=>intro a _;rfl
  |cons p r f=>
   intro a d;obtain⟨n,k⟩:=p;rw[List.forIn_cons];dsimp only;by_cases a:(k==NameKind.free)=true
   ·obtain⟨c,g⟩:=d (n,k) aaa (by simpa using a);have e:cellOf env n=pure c:=by unfold cellOf;rw[g]
    rw[if_pos a,e,pure_bind,pure_bind];dsimp only;rw[f _ λx c=>d x (aai _ c)];show _=pure (lL env r _);rw[if_pos a,g];rfl
   ·rw[if_neg a,pure_bind];dsimp only;rw[f _ λx c=>d x (aai _ c)];show _=pure (lL env r _);rw[if_neg a]
 have:=b scope.names [] h;simp only at this ⊢;rw[this,pure_bind]
def Dd(a:List Expr)(env:Env):Sem Bool:=forIn a true λc r=>if r=true then do let ok <-isTrue c env (eval c env);pure (ForInStep.yield ok) else pure (ForInStep.yield r)
def UC(X:Cx)(a:List Expr)(t:TT):Prop:=
 ∀(pins:List (Addr×Obj)) (s:Shared) (σ:St) (H:Hp) (Q:Bool->Hp->Prop),Inv X pins σ H s->t σ H Q->wpAny (model X.prog X.w) X.A (Dd a X.env) (TP X pins σ Q) X.xe s
def fq:TT:=λ_ H Q=>Q true H
theorem M0:UC X [] fq:=λ_ _ _ H _ I h=>P' ⟨H,I,h⟩
theorem fT{c:Expr}{t:TT}(h:PT X c t):UC X [c] t:=λpins s σ H Q I a=>wpAny_tests_one (h pins s σ H Q I a)
section
variable {prog:Program}{w:World}{A:Around}{R:Result->Shared->Prop}{s:Shared}
theorem xo{o a e:Expr}{p:List Expr}{scope:Scope}{t:Pos}{y q:Value}{env:Env}(I:Nat->Shared->Prop)
  (u:∀n s,I n s->wpAny (model prog w) A (pyNext y) (λr b=>match r with
   |none=>R (.ok .next) b
   | some v=>wpAny (model prog w) A (letOwnedTupleGo a y v) (λ_ f=>wpAny (model prog w) A (assign a env v) (λ_ g=>
     wpAny (model prog w) A (Dd p env) (λok c=>
      if ok=true then wpAny (model prog w) A (eval o env) (λx i=>
       wpAny (model prog w) A (call (.builtin "list.append") [q,x]) (λ_ j=>∃m,m < n/\I m j) (λ_ _=>False) i) (λ_ _=>False) c
      else ∃m,m < n/\I m c) (λ_ _=>False) g) (λ_ _=>False) f) (λ_ _=>False) b) (λ_ _=>False) s)
  (n:Nat) (h:I n s):
  codeAny (model prog w) A (.compLoop (.ListComp o [⟨a,e,p,0⟩] scope t) 0 y q env) R s:=by
 calc codeAny_loop rfl I (λn s m=>?_) n h;show wpAny _ A ((compTurn (.ListComp o [⟨a,e,p,0⟩] scope t) 0 y q env).onRaise (λx=>do noteFrame x env;theTreesLotGoes x)) _ _ s;calc wpAny_noted ?_;rw[compTurn_list];refine E' (wpAny_standAt (E' (aaE (u n s m) (λr b k=>?_) λ_ _ d=>d.elim)))
 cases r with
 |none=>calc P' k
 |some v=>
  calc E' (aaE k (λ_ f a=>?_) λ_ _ d=>d.elim);refine E' (aaE a (λ_ g b=>E' (aaE b (λok c l=>?_) λ_ _ d=>d.elim)) λ_ _ d=>d.elim)
  cases ok with
  |false=>calc P' ⟨rfl,l⟩
  |true=>
   calc E' (E' (aaE l (λx i a=>E' (aaE a (λ_ j b=>P' (P' ⟨rfl,b⟩)) λ_ _ d=>d.elim)) λ_ _ d=>d.elim))
end
def E9(N N':List Str)(ix:List (Option Nat))(scope:Scope):Bool:=
 N'.length==ix.length&&(N'.zip ix).all λp=>match p.2 with|none=>true|some j=>N[j]? == some p.1&&scope.names.lookup p.1==some .free
def tJ(ix:List (Option Nat))(σ:St):St:=ix.map λo=>match o with|none=>none|some j=>(σ[j]?).join
def freeOk(scope:Scope)(outer:Scope):Bool:=
 scope.names.all λx=>(x.2 != .cell||scope.names.lookup x.1==some .cell)&&(x.2 != .free||(outer.names.lookup x.1==some .cell||outer.names.lookup x.1==some .free))&&(x.2 != .local||scope.names.lookup x.1==some .local)&&(x.2 != .free||scope.names.lookup x.1==some .free)
def UD(env:Env)(names:List (Str×NameKind))(C:Addr):List (Str×Addr):=cellsFrom (C+1) names (lL env names [])
theorem m9:∀(names:List (Str×NameKind)) (n:Nat) (a:List (Str×Addr)),cellsFrom n names a=cellsFrom n names []++a
 | [],_,_=>rfl
 |(x,k)::r,n,a=>by
  unfold cellsFrom;split
  ·rw[m9 r (n+1) ((x,n)::a),m9 r (n+1) [(x,n)],List.append_assoc];rfl
  ·calc m9 r n a
theorem tK{x:Str}{c:Addr}:∀{names:List (Str×NameKind)}{n:Nat}{a:List (Str×Addr)},(x,c)∈cellsFrom n names a->(x,c)∈a\/(x,NameKind.cell)∈names
 | [],_,_,h=>.inl h
 |(y,k)::r,n,a,h=>by
  unfold cellsFrom at h;split at h
  ·next hk=>
   rcases tK h with h|h
   ·rcases List.mem_cons.mp h with e | e
    ·cases e;exact .inr (by rw[show k=.cell by simpa using hk];calc aaa)
    ·exact .inl e
   ·exact .inr (aai _ h)
  ·rcases tK h with h | h
   ·exact .inl h
   ·calc .inr (aai _ h)
theorem tL{β:Type}{x:Str}{a:List (Str×β)}:∀{l:List (Str×β)},(l++a).lookup x=(l.lookup x).or (a.lookup x)
 | []=>rfl
 |(n,b)::r=>by
  rw[List.cons_append,List.lookup_cons,List.lookup_cons]
  cases x==n with
  |true=>rfl
  |false=>calc tL
theorem HB{env:Env}{names:List (Str×NameKind)}{C:Addr}{x:Str}:(UD env names C).lookup x=((cellsFrom (C+1) names []).lookup x).or ((lL env names []).lookup x):=by
 unfold UD;rw[m9,tL]
def UE(X:Cx)(scope:Scope)(C:Addr)(N':List Str)(a:Shared)(H₂:Hp)(b:List Addr):Cx:=
 {X with N:=N',s₀:=a,H₀:=H₂,env:=compEnvC scope (UD X.env scope.names C) C X.env,outer:=X.stack,stack:=X.stack,ex:=b,fn:=λx=>scope.names.lookup x==some .cell,pn:=[],xe:=λ_ _=>False}
theorem freeOk.at{scope outer:Scope}(h:freeOk scope outer=true){x:Str×NameKind}(e:x∈scope.names):(x.2=.cell->scope.names.lookup x.1=some .cell)/\(x.2=.free->outer.names.lookup x.1=some .cell\/outer.names.lookup x.1=some .free)/\(x.2=.local->scope.names.lookup x.1=some .local)/\(x.2=.free->scope.names.lookup x.1=some .free):=by
 have f:=List.all_eq_true.mp h x e;simp only[Bool.and_eq_true,Bool.or_eq_true,bne_iff_ne,ne_eq,beq_iff_eq]at f;obtain⟨⟨⟨a,b⟩,c⟩,d⟩:=f;calc⟨λe=>a.resolve_left λz=>z e,λe=>b.resolve_left λz=>z e,λe=>c.resolve_left λz=>z e,λe=>d.resolve_left λz=>z e⟩
theorem eR{scope:Scope}{env:Env}:∀{names:List (Str×NameKind)}{x:Str}{k:NameKind},
  (names.map λ(n,k)=>if (k==NameKind.free&&env.scope.kind == .function&&env.kindOf n==some .cell) then(n,NameKind.cell) else(n,k)).lookup x=some k->∃a,(x,a)∈names/\(k=a\/(k=.cell/\a=.free))
 | [],_,_,h=>by simp at h
 |(n,c)::r,x,k,h=>by
  rw[aaN]at h;by_cases d:(c==NameKind.free&&env.scope.kind == .function&&env.kindOf n==some .cell)=true
  ·simp only[d,if_true] at h
   cases b:x==n with
   |true=>
    simp only[List.lookup_cons,b]at h;have e:x=n:=by simpa using b
    subst e;have g:c=.free:=by
     simp only[Bool.and_eq_true,beq_iff_eq]at d;exact d.1.1
    calc⟨c,aaa,.inr ⟨(Option.some.inj h).symm,g⟩⟩
   |false=>
    simp only[List.lookup_cons,b]at h;obtain⟨a,m,q⟩:=eR (scope:=scope) (env:=env) h;exact⟨a,aai _ m,q⟩
  ·dsimp only at h;rw[if_neg d] at h
   cases b:x==n with
   |true=>
    simp only[List.lookup_cons,b]at h;have e:x=n:=by simpa using b
    subst e;calc⟨c,aaa,.inl (Option.some.inj h).symm⟩
   |false=>
    simp only[List.lookup_cons,b]at h;obtain⟨a,m,q⟩:=eR (scope:=scope) (env:=env) h;calc⟨a,aai _ m,q⟩
section
variable {X:Cx}{scope:Scope}{C:Addr}{N':List Str}{s₂:Shared}{H₂:Hp}{fp:List Addr}{pins:List (Addr×Obj)}{σ:St}
theorem y0(I:Inv X pins σ H₂ s₂)(d:freeOk scope X.env.scope=true){x:Str}{c:Addr}(h:(lL X.env scope.names []).lookup x=some c):X.env.cells.lookup x=some c/\(x,NameKind.free)∈scope.names:=by
 rcases yZ (aap h) with z|⟨a,b⟩
 ·simp at z
 ·have q:=(d |> λh=>freeOk.at h a).2.1 rfl;obtain⟨c,e⟩:=I.ok.has x q;rw[e]at b;calc⟨by rw[e,b];rfl,a⟩
theorem HC(a:freeOk scope X.env.scope=true){x:Str}(h:scope.names.lookup x=some .free){n:Nat}:(cellsFrom n scope.names []).lookup x=none:=by
 cases e:(cellsFrom n scope.names []).lookup x with
 |none=>rfl
 |some c=>
  rcases tK (aap e) with z|z
  ·cases z
  ·have:=(freeOk.at a z).1 rfl;rw[h]at this;cases this
theorem nc(I:Inv X pins σ H₂ s₂)(a:freeOk scope X.env.scope=true){x:Str}{c:Addr}(h:(UD X.env scope.names C).lookup x=some c):(X.env.cells.lookup x=some c/\ @LT.lt Nat _ c s₂.heap.objs.size/\(cellsFrom (C+1) scope.names []).lookup x=none)\/(cellsFrom (C+1) scope.names []).lookup x=some c:=by
 rw[HB]at h
 cases e:(cellsFrom (C+1) scope.names []).lookup x with
 |some d=>rw[e]at h;calc .inr h
 |none=>
  rw[e]at h;have q:=(y0 I a h).1;calc .inl ⟨q,let ⟨_,z⟩:=I.cell x c q;z.lt,rfl⟩
theorem RF{g:Heap}(i:CellsOk g (C+1) (cellsFrom (C+1) scope.names []))(I:Inv X pins σ H₂ s₂)(j:freeOk scope X.env.scope=true)(E:scope.kind=.function)(v:s₂.heap.objs.size<=C)(k:∀b∈fp,qa X pins H₂ b)(F:∀b∈fp,∃o,s₂.heap.get? b=some o):(UE X scope C N' s₂ H₂ fp).Ok where
 mod:=I.ok.mod
 kind:=E
 glob:=I.ok.glob
 blt:=I.ok.blt
 above:=v
 inj:=λx y c l p=>by
  rcases nc I j l with⟨a,H,_⟩|a<;>rcases nc I j p with⟨b,g,_⟩|b
  ·exact I.ok.inj x y c a b
  ·have:=(i.empty y c (aap b)).2;lia
  ·have:=(i.empty x c (aap a)).2;lia
  ·exact PySem.name_of_addr i.apart (aap a) (aap b)
 has:=λx h=>by
  have h:(relabel scope X.env).names.lookup x=some .cell\/(relabel scope X.env).names.lookup x=some .free:=h;have w:(x,NameKind.free)∈scope.names->((lL X.env scope.names []).lookup x).isSome=true:=λm=>let ⟨d,e⟩:=fu (tI (env:=X.env) (cs:=[]) m);by rw[e];rfl
  calc Option.isSome_iff_exists.mp (W.cellsFrom_some scope.names (C+1) (lL X.env scope.names []) ?_);rcases h with h|h
  ·obtain⟨G,m,q⟩:=eR (scope:=scope) h;rcases q with q | ⟨_,q⟩
   ·subst q;exact .inl ((freeOk.at j m).1 rfl)
   ·subst q;exact .inr (w m)
  ·obtain⟨G,m,q⟩:=eR (scope:=scope) h;rcases q with q | ⟨q,_⟩
   ·subst q;exact .inr (w m)
   ·cases q
 Uy:=λx c l p=>by
  rcases nc I j p with⟨_,_,a⟩|a
  ·obtain⟨d,e⟩:=tq (sc:=scope) (n:=C+1) (x:=x) (by simpa[UE] using l);rw[e]at a;cases a
  ·have:=(i.empty x c (aap a)).2;show s₂.heap.objs.size<=c;lia
 hd:=I.ok.hd
 frames:=I.ok.frames
 VU:=.inl rfl
 exf:=λb f=>by
  obtain⟨o,A⟩:=F b f;obtain⟨B,r,s,t,u,D⟩:=k b f;calc⟨aal (X' (T' A) v),λx c h=>?_⟩;rcases nc I j h with⟨a,_⟩|a
  ·exact u x c a
  ·have:=(i.empty x c (aap a)).2;have: @LT.lt Nat _ b _:=T' A;exact aaA ()
 bs:=I.bs
 GL:=aaq I.ok.GL I.sz
 A0:=λb o e f=>by
  obtain⟨B,r,s,t,u,D⟩:=k b f;rcases t with z|z
  ·exact I.ok.A0 b o e z
  ·exact absurd (X' (X' (T' e) I.ok.GL) z) (aaM _)
 EJ:=λb f z=>by
  obtain⟨B,r,s,t,u,D⟩:=k b f;rcases List.mem_cons.mp (I.wY b z) with e|e
  ·exact r e
  ·exact s e
 p9:=I.stack
 OM:=I.CF
end
theorem Inv.less{a:St}(I:Inv X pins σ H s)(b:a.length=σ.length)(h:∀(i:Nat) (v:V),a[i]?=some (some v)->σ[i]?=some (some v)):Inv X pins a H s:=
 ⟨I.ok,I.os,I.bare,I.base,(let ⟨m,a,c⟩:=I.loc;⟨m,a,λi x v d e f=>c i x v d (h i v e) f⟩),I.cell,I.free,I.lE,I.pin,I.ba,b.trans I.len⟩
def Ext(σ a:St):Prop:=a.length=σ.length/\∀(i:Nat) (v:V),σ[i]?=some (some v)->a[i]?=some (some v)
theorem Ext.refl(σ:St):Ext σ σ:=⟨rfl,λ_ _ h=>h⟩
theorem Ext.set{a:St}(h:Ext σ a){j:Nat}{w:Option V}(b:σ[j]?=some none):Ext σ (a.set j w):=by
 calc⟨by rw[List.length_set];calc h.1,λi v e=>?_⟩;have c:j≠i:=by rintro rfl;rw[b]at e;cases e
 rw[List.getElem?_set_ne c];calc h.2 i v e
theorem M1(ix:List (Option Nat))(σ:St):(tJ ix σ).length=ix.length:=by unfold tJ;rw[M']
section
variable {X:Cx}{scope:Scope}{N':List Str}{ix:List (Option Nat)}{s₂ s₄:Shared}{H₂:Hp}{fp:List Addr}{pins:List (Addr×Obj)}{σ:St}{C D:Addr}{h₄:Heap}
theorem aci(I:Inv X pins σ H₂ s₂)(k:freeOk scope X.env.scope=true)(p:scope.kind=.function)(M:E9 X.N N' ix scope=true)(y:∀b∈fp,qa X pins H₂ b)(T:∀b∈fp,∃o,s₂.heap.get? b=some o)
  (n:s₂.heap.objs.size<=D) (F: @LT.lt Nat _ D C) (G:CellsOk h₄ (C+1) (cellsFrom (C+1) scope.names [])) (U:h₄.Ns C (λ_=>none)) (t:∀b o,s₂.heap.get? b=some o->h₄.get? b=some o)
  (W:h₄.get? D=some {cls:=.type "list",data:=.seq ([]:List Value).toArray 0}) (t':Nat):
  Inv (UE X scope C N' s₂ H₂ fp) [] (tJ ix σ) (upd H₂ D (.lst [])) {s₂ with heap:=h₄,toks:=t'}:=by
 have b:H₂ D=none:=I.ba.fresh n;have J:s₂.heap.objs.size<=C:=aaq n (J' F);have Y:H₂ C=none:=I.ba.fresh J;have Z:nS X.prog X.w (upd H₂ D (.lst [])) h₄:=I.ba.laid t n ⟨aaj _,[],0,.nil,W⟩;refine⟨RF G I k p J y T,rfl,I.bare,Un.laid t n b,⟨_,U,λi x v m l e3=>?_⟩,λx c e=>?_,?_,λx c e=>?_,λp b=>absurd (show p∈([]:List (Addr×Obj)) from b) nofun,Z,?_⟩
 ·have g:=M;unfold E9 at g;rw[aa1] at g;have b:N'.length=ix.length:=by simpa using g.1
  have b:i<N'.length:=(List.getElem?_eq_some_iff.mp m).1;unfold tJ at l;rw[A']at l
  cases q:ix[i]? with
  |none=>rw[q]at l;cases l
  |some o=>
   rw[q]at l
   cases o with
   |none=>cases l
   |some j=>
    have o:(x,some j)∈N'.zip ix:=by
     calc aan (i:=i) ?_;rw[List.getElem?_zip_eq_some];exact⟨m,q⟩
    have b:=List.all_eq_true.mp g.2 _ o;simp only[Bool.and_eq_true,beq_iff_eq]at b;obtain⟨K,L⟩:=b;have d:(σ[j]?).join=some v:=by simpa using l
    have e4:σ[j]?=some (some v):=by
     cases z:σ[j]? with
     |none=>rw[z]at d;cases d
     |some y=>rw[z]at d;exact congrArg some d
    have O:(x,NameKind.free)∈scope.names:=aap L;have P:=(freeOk.at k O).2.1 rfl;obtain⟨m,b,hv⟩:=I.loc;obtain⟨u,ru,lk⟩:=hv j x v K e4 (by rcases P with z|z;calc .inr (.inl z);calc .inr (.inr z));refine⟨u,ru,.inr ⟨?_,?_⟩⟩
    ·rcases e3 with z | z | z
     ·obtain⟨b,m',r⟩:=eR (scope:=scope) (env:=X.env) (show(relabel scope X.env).names.lookup x=some .local from z);rcases r with r | ⟨r,_⟩
      ·subst r;have:=(freeOk.at k m').2.2.1 rfl;rw[L]at this;cases this
      ·cases r
     ·exact .inl z
     ·exact .inr z
    ·rcases lk with⟨B,_⟩ | ⟨_,c,l2,l3⟩
     ·have B:X.env.scope.names.lookup x=some .local:=B;rcases P with z | z
      ·rw[B]at z;cases z
      ·rw[B]at z;cases z
     ·obtain⟨b,R⟩:=fu (tI (env:=X.env) (cs:=[]) O);have S:=(y0 I k R).1;rw[l2]at S;have e7:c=b:=Option.some.inj S;subst e7;exact⟨c,by show(UD X.env scope.names C).lookup x=some c;rw[HB,HC k L];calc R,l3.keeps t⟩
 ·rcases nc I k e with⟨a,_⟩ | a
  ·obtain⟨v,z⟩:=I.cell x c a;exact⟨v,z.keeps t⟩
  ·exact⟨_,(G.empty x c (aap a)).1⟩
 ·show upd H₂ D (.lst []) C=none;rw[ay (aaA F)];exact Y
 ·show upd H₂ D (.lst []) c=none;rcases nc I k e with⟨a,z,_⟩ | a
  ·rw[ay (aal (X' z n))];exact I.lE x c a
  ·have b: @LT.lt Nat _ C c:=(G.empty x c (aap a)).2;rw[ay (aaA (Nat.lt_trans F b))];exact I.ba.fresh (aaq J (J' b))
 ·rw[M1];have g:=M;unfold E9 at g;rw[aa1] at g;have:N'.length=ix.length:=by simpa using g.1
  calc this.symm
end
theorem Bz{M:Model}{A:Around}{E:Value->Shared->Prop}{scope:Scope}{g:Addr}{d:List (Str×Addr)}{qual:Str}{env:Env}{Q:Env->Shared->Prop}
  (f:∀a,a.Ns s.heap.objs.size (λ_=>none)->(∀b o,s.heap.get? b=some o->a.get? b=some o)->CellsOk a (s.heap.objs.size + 1) (cellsFrom (s.heap.objs.size + 1) scope.names [])->
   Q {scope:=scope,locals:=s.heap.objs.size,globals:=g,cells:=cellsFrom (s.heap.objs.size + 1) scope.names d,qual:=qual,func:=none,code:=env.code,frame:=env.frame,builtins:=env.builtins} {s with heap:=a}):
  wpAny M A (newFunctionEnv scope g d [] qual none .none (some env)) Q E s:=by
 simp only[newFunctionEnv,Option.isSome_some,if_true];refine E' (wpAny_alloc ?_);refine E' (wpAny_layCells _ (λa c cells=>by cases a:c==NameKind.cell<;>simp[a]) _ _ _ _ ?_);have d:=cellsFrom_ok scope.names (s.heap.push {cls:=.type "dict",data:=.dict #[]}) (s.heap.objs.size+1) [] ⟨λ_ _ a=>(nomatch a),List.Pairwise.nil⟩ (by rw[aaz];exact F' _);rw[aaz]at d;rw[show({s with heap:=s.heap.push {cls:=.type "dict",data:=.dict #[]}}:Shared).heap.objs.size=s.heap.objs.size+1 from aaz ..];rw[List.forIn_nil];exact E' (P' (P' (f _ ((Heap.Ns.new s.heap (.type "dict")).keeps (pushCells_keeps _ _)) (λb o e=>pushCells_keeps _ _ b o (K' _ e)) d)))
def lM(ix:List (Option Nat))(J:It)(g:TG)(d:TT)(e:TE)(σ:St)(a:Hp)(Q:VK)(D:Addr):Prop:=
 ∃W:Nat->Nat->Hp->Prop,(∃m,W 0 m (upd a D (.lst [])))/\∀i m H,W i m H->
  (J.stop i H/\Q (.ref D) H)\/(J.go i H/\∃N:Hp->Prop,(∀b,N b->∃c,c < m/\W (i + 1) c b)/\∀x b,J.OU i H x b->g x (tJ ix σ) b λa f=>Ext (tJ ix σ) a/\d a f λb c=>
   if b=true then e a c λy d=>∃a,d D=some (.lst a)/\a.length < sizeLine/\N (upd d D (.lst (a++[y]))) else N c)
def Wt(ix:List (Option Nat))(b:TI)(g:TG)(c:TT)(d:TE):TE:=λσ H Q=>b σ H λJ a=>∀D,a D=none->lM ix J g c d σ a Q D
abbrev vg(X:Cx)(scope:Scope)(N':List Str)(F:Cx->Prop):Prop:=∀(C:Addr) (a:Shared) (H₂:Hp) (b:List Addr),F (UE X scope C N' a H₂ b)
section
variable {X:Cx}{elt target iter:Expr}{ifs:List Expr}{scope:Scope}{pos:Pos}{N':List Str}{ix:List (Option Nat)}{wi:TI}{g:TG}{tt:TT}{te:TE}
theorem y7{a:Shared}{it:Addr}{l:List Addr}{R:Nat->Heap->Prop}{J:It}{QD:Addr->Hp->Prop}{RR:Value->Addr->Result->Shared->Prop}{E:Value->Shared->Prop}
  (HE:X.calm=true) (hf:freeOk scope X.env.scope=true) (hk:scope.kind=.function) (hx:E9 X.N N' ix scope=true)
  (hg:vg X scope N' λY=>PG Y target g) (ht:vg X scope N' λY=>UC Y ifs tt) (he:vg X scope N' λY=>PE Y elt te)
  (I:Inv X pins σ H₂ a) (T:Turn X.prog X.w X.K target J l it R) (st:R 0 a.heap) (LU:∀b∈l,qa X pins H₂ b)
  (hw:∀D,H₂ D=none->∃W:Nat->Nat->Hp->Prop,(∃m,W 0 m (upd H₂ D (.lst [])))/\∀i m H,W i m H->
   (J.stop i H/\QD D H)\/(J.go i H/\∃N:Hp->Prop,(∀d,N d->∃B,B < m/\W (i + 1) B d)/\∀x d,J.OU i H x d->g x (tJ ix σ) d λp C=>Ext (tJ ix σ) p/\tt p C λb L=>
    if b=true then te p L λy C=>∃S,C D=some (.lst S)/\S.length < sizeLine/\N (upd C D (.lst (S++[y]))) else N L))
  (hRR:∀(D C:Addr) (s':Shared) (d:Hp) (m:Str->Option Value),a.heap.objs.size<=C->d C=none->C∉EI X.stack->s'.heap.Ns C m->(∃o,s'.heap.get? C=some o/\∀v,o.data≠.cell v)->Inv X pins σ d s'->QD D d->RR (.ref D) C (.ok .next) s'):
  wpAny (model X.prog X.w) X.A (newList []) (λp j=>wpAny (model X.prog X.w) X.A (newFunctionEnv scope X.env.globals (lL X.env scope.names []) [] X.env.qual none .none (some X.env)) (λJ C=>
   codeAny (model X.prog X.w) X.A (.compStart (.ListComp elt [⟨target,iter,ifs,0⟩] scope pos) 0 (.ref it) p {J with scope:=relabel scope X.env}) (RR p J.locals) C) E j) E a:=by
 calc aa7 (Bz λk RI M4 Fb=>?_);dsimp only at RI M4 Fb ⊢;generalize p:a.heap.push {cls:=.type "list",dict:=none,data:=.seq ([]:List Value).toArray}=P2 at RI M4 Fb ⊢;have C:P2.objs.size=a.heap.objs.size+1:=by rw[<-p,aaz]
 have J:a.heap.objs.size<P2.objs.size:=by rw[C];exact Nat.lt_succ_self _
 have U:a.heap.objs.size<=P2.objs.size:=by rw[C];exact Nat.le_succ _
 have Z:∀b o,a.heap.get? b=some o->k.get? b=some o:=λb o e=>M4 b o (p▸K' _ e);have N:k.get? a.heap.objs.size=some {cls:=.type "list",data:=.seq ([]:List Value).toArray 0}:=M4 _ _ (p▸Y' _ rfl);have C:∀b∈l,∃o,a.heap.get? b=some o:=λb c=>let ⟨o,e,_⟩:=T.obj _ _ st b c;⟨o,e⟩
 have p:a.heap.get? P2.objs.size=none:=Heap.get?_none_of_le U;have p:H₂ a.heap.objs.size=none:=I.ba.fresh (F' _);obtain⟨W,⟨m0,w0⟩,turn⟩:=hw a.heap.objs.size p;have fpD:∀b∈l,b≠a.heap.objs.size:=λb c=>let ⟨o,e⟩:=C b c;aal (T' e)
 have fpC:∀b∈l,b≠P2.objs.size:=λb c=>let ⟨o,e⟩:=C b c;aal (X' (T' e) U)
 let Y:=UE X scope P2.objs.size N' a H₂ l
 have hcY:Y.calm=true:=HE;have I0:Inv Y [] (tJ ix σ) (upd H₂ a.heap.objs.size (.lst [])) {a with heap:=k}:=
  aci I hf hk hx LU C (F' _) J Fb (by simpa using RI) Z N _
 have QR:P2.objs.size∉EI X.stack:=λz=>by
  rcases List.mem_cons.mp (I.wY _ z) with e|e
  ·exact absurd I.lt (by rw[<-e];calc Nat.not_lt.mpr U)
  ·exact I.QS U e
 have Bf:∀{d:Hp},(∀b∈l,d b=none)->∀b∈l,qa Y [] d b:=λhn b c=>by
  obtain⟨f0,f1,f2,f3,f4,f5⟩:=LU b c;refine⟨hn b c,fpC b c,I0.ok.EJ b c,.inl c,(I0.ok.exf b c).2,λp C=>absurd (show p∈([]:List (Addr×Obj)) from C) nofun⟩
 have Wv:R 0 k:=T.keep _ _ _ st λb _ o e=>Z b o e;have G:∀j:Shared,j={a with heap:=k}->
   codeAny (model X.prog X.w) X.A (.compLoop (.ListComp elt [⟨target,iter,ifs,0⟩] scope pos) 0 (.ref it) (.ref a.heap.objs.size) (compEnvC scope (UD X.env scope.names P2.objs.size) P2.objs.size X.env))
    (RR (.ref a.heap.objs.size) P2.objs.size) j:=by
  rintro j rfl;calc xo (λn s'=>∃i d,Inv Y [] (tJ ix σ) d s'/\R i s'.heap/\(∀b∈l,d b=none)/\W i n d) ?_ m0 ⟨0,_,I0,Wv,λb c=>by rw[ay (fpD b c)];calc(LU b c).1,w0⟩;rintro n s3 ⟨i,L,I3,nB,VZ,w3⟩;rcases turn i n L w3 with⟨stop,qn⟩|⟨go,Nn,hNn,step⟩
  ·calc dq (T.done Y rfl rfl rfl hcY i [] s3 _ L _ I3 (Bf VZ) nB stop) λr s4 q=>?_;obtain⟨hr,M⟩:=q;subst hr;obtain⟨m,hn,_⟩:=M.loc;refine hRR _ _ s4 L m U M.free QR hn ?_ ?_ qn
   ·obtain⟨o,k,p,j,hd,_⟩:=hn;exact⟨o,j,λv z=>by rw[hd]at z;cases z⟩
   ·refine I.VX (s':=s4) (ch:=l) M.os ?_ M.ba M.bare λb c=>?_
    ·exact M.base
    ·obtain⟨f0,f1,f2,f3,f4,f5⟩:=LU b c;exact⟨f3,f1,f4,f5⟩
  ·calc dq (T.item Y rfl rfl rfl hcY i [] s3 _ L _ I3 (Bf VZ) nB go) λr s4 q=>?_;obtain⟨u,hr,h4⟩:=q;subst hr;calc dq h4 λ_ s5 q=>?_;obtain⟨x,r,v,z,C,k,j⟩:=q;have p:=v.pinned (Bf j) (T.obj _ _ k);calc dq (hg _ _ _ _ _ s5 _ r x u _ p z (step x r C)) λ_ I q=>?_;obtain⟨F,p,r,j,u⟩:=q;calc dq (ht _ _ _ _ _ I F p _ r u) λok s7 q=>?_;obtain⟨H7,I7,q7⟩:=q;have t:∀{O:Shared} {P:Hp} {B:Nat},Inv Y ([]++qb l s5.heap) F P O->B<n->W (i+1) B P->∃m,m<n/\∃i d,Inv Y [] (tJ ix σ) d O/\R i O.heap/\(∀b∈l,d b=none)/\W i m d:=λ{O P B} I8 hm w8=>by
    calc⟨B,hm,i+1,P,(I8.lI).less j.1.symm j.2,T.keep _ _ _ k λb c o e=>(I8.pin (b,o) (aau _ (aau _ (ke c e)))).1,λb c=>?_,w8⟩;obtain⟨o,e,d⟩:=T.obj _ _ k b c;exact(I8.pin (b,o) (aau _ (aau _ (ke c e)))).2.1
   cases ok with
   |false=>
    rw[if_neg R']at q7 ⊢;obtain⟨B,hm,w8⟩:=hNn _ q7;calc t I7 hm w8
   |true=>
    rw[if_pos rfl] at q7 ⊢;calc dq (he _ _ _ _ _ s7 F H7 _ I7 q7) λy O q=>?_;obtain⟨b,P,I8,d,S,e,i,j⟩:=q;have k:=(vX (X:=Y)) (pins:=[]++qb l s5.heap) O F P (.ref a.heap.objs.size) [b] (.ref a.heap.objs.size) [y] (λ_ c=>Nn c) I8 rfl (.cons d .nil)
     ⟨_,S,b,rfl,rfl,e,i,j⟩
    exact dq k λ_ d ⟨_,c,a,_,b⟩=>let ⟨B,hm,c⟩:=hNn _ b;t a hm c
 calc codeAny_compStart_list (G _ rfl) (T.self _ 0 _ _ _ Wv (G _ rfl))
theorem Inv.acn{b:Shared}{C:Addr}{h':Heap}(a:Inv X pins σ H₂ b)(I:Inv X pins σ H s)(d:b.heap.objs.size<=C)(f:H C=none)(g:Heap.SameBut C s.heap h'):Inv X pins σ H {s with heap:=h'}:=by
 refine I.turned (t':=s.toks) (λb o h e=>(g.2 b h).trans e) f (aaA (X' a.lt d)) (.inr (aaq a.sz d)) (λx c e z=>?_) λp b z=>?_
 ·obtain⟨v,q⟩:=a.cell x c e;exact absurd (X' q.lt (by rw[z];calc d)) (aaM _)
 ·calc absurd (X' (T' (a.pin p b).1) (by rw[z];calc d)) (aaM _)
theorem cu
  (k:PI X target iter wi) (l:vg X scope N' λY=>PG Y target g) (n:vg X scope N' λY=>UC Y ifs tt) (he:vg X scope N' λY=>PE Y elt te)
  (o:X.calm=true:=by rfl) (f:freeOk scope X.env.scope=true:=by kernel_rfl) (i:scope.kind=.function:=by rfl) (a:E9 X.N N' ix scope=true:=by kernel_rfl) (b:∀x,foldedSetIterable iter X.env x=pure x:=by intro _;rfl):PE X (.ListComp elt [⟨target,iter,ifs,0⟩] scope pos) (Wt ix wi g tt te):=by
 walk_at "xc";rw[eval_ListComp];have m:∀x∈scope.names,x.2=.free->∃c,X.env.cells.lookup x.1=some c:=λx a he=>I.ok.has x.1 ((freeOk.at f a).2.1 he);refine wpAny_comprehension_free (use:=none) rfl b (nN m) i (λx a he=>(freeOk.at f a).2.2.1 he) (aaE (k pins s σ H _ I h) (λm c b=>aaE b (λk c d=>?_) λ_ _ e=>e) λ_ _ e=>e);obtain⟨b,c,k,J,m,e,j,T,p,r,t⟩:=d;subst e;refine y7 (RR:=λb C=>compPost (model X.prog X.w) X.A X.xe none (EP X pins σ Q) b C) (QD:=λD b=>Q (.ref D) b) o f i a l n he j T p r t ?_;intro D C v b m c d x e y k q;exact⟨m,e,λz u=>⟨.ref D,b,j.acn k c d u,rfl,q⟩⟩
theorem ee{i:Nat}{y:Str}{d S:Pos}(hN:X.N.Nodup)(E:X.N[i]?=some y)(hy:Loc X.env.scope y)
  (hi:PI X target iter wi) (hg:vg X scope N' λY=>PG Y target g) (ht:vg X scope N' λY=>UC Y ifs tt) (he:vg X scope N' λY=>PE Y elt te)
  (F:swapsWith (.ListComp elt [⟨target,iter,ifs,0⟩] scope pos) (some (.Name y d)) S.line X.env=pure true:=by rfl)
  (HE:X.calm=true:=by rfl) (G:freeOk scope X.env.scope=true:=by kernel_rfl) (U:scope.kind=.function:=by rfl) (j:E9 X.N N' ix scope=true:=by kernel_rfl) (hs:∀x,foldedSetIterable iter X.env x=pure x:=by intro _;rfl) (Mt:X.fn y=true\/X.env.scope.names.lookup y=some .local:=by grind):
  PS X (.Assign [.Name y d] (.ListComp elt [⟨target,iter,ifs,0⟩] scope pos) S) (EN (Wt ix wi g tt te) (dE i)):=by
 walk_at "xd";rw[exec_Assign_Name_used _ _ _ _ F];refine E' (wpAny_standAt (E' ?_));show wpAny _ X.A (do let _ <-comprehension (.ListComp elt [⟨target,iter,ifs,0⟩] scope pos) scope X.env _ (newList []) false (eval iter X.env) (some (assign (.Name y d) X.env))) _ _ s;have Gu:∀x ∈ scope.names,x.2=.free->∃c,X.env.cells.lookup x.1=some c:=λx j he=>I.ok.has x.1 ((freeOk.at G j).2.1 he);refine E' (aaE (wpAny_comprehension_free (use:=some (assign (.Name y d) X.env)) (Q:=λ_ a=>SP X pins D .next a) rfl hs (nN Gu) U (λx j he=>(freeOk.at G j).2.2.1 he)
  (aaE (hi pins s σ H _ I h) (λxv W k=>aaE k (λitv Z l=>?_) λ_ _ e=>e) λ_ _ e=>e)) (λ_ a hq=>P' (P' hq)) λ_ _ e=>e)
 obtain⟨it,fp,tn,J,H2,e,f,T,pd,f2,hw⟩:=l;subst e;calc y7 (RR:=λK C=>compPost (model X.prog X.w) X.A X.xe (some (assign (.Name y d) X.env)) (λ_ a=>SP X pins D .next a) K C) (QD:=λn r=>D.nx (σ.set i (some (.ref n))) r) HE G U j hg ht he f T pd f2 hw ?_;intro n C a r m t Wr RH hn B I' q;obtain⟨o,B,L⟩:=B;show wpAny _ X.A (assign (.Name y d) X.env (.ref n)) _ _ a;have u:C≠X.env.locals:=aaA (X' f.lt t);have M:C∉X.fs:=f.QS t;have O:Inv X (pins++[(C,o)]) σ r a:=I'.wZ λp P=>(List.mem_append.mp P).elim (λz=>I'.pin p (aau _ z)) λz=>by
  have z':p=(C,o):=by simpa using z
  subst z';exact⟨B,Wr,u,M,L⟩
 calc wpAny_assign_Name (pb O hN E hy (v:=.ref n) rfl (λs3 I3=>?_) Mt);obtain⟨e3,n3,_⟩:=I3.pin (C,o) (aau _ (aau _ nofun));obtain⟨o',es,ep,nz,r'⟩:=hn;rw[B]at nz;cases nz;have R:Inv X pins (σ.set i (some (.ref n))) r s3:=I3.lI;calc⟨m,⟨o,es,ep,e3,r'⟩,λh' Ww=>⟨_,r,?_,q⟩⟩;refine R.turned (t':=s3.toks) (λb o hb e=>(Ww.2 b hb).trans e) n3 u (.inr (aaq f.sz t)) (λx c e z=>?_) λp P z=>?_
 ·obtain⟨v,q⟩:=f.cell x c e;exact absurd (X' q.lt (by rw[z];calc t)) (aaM _)
 ·calc absurd (X' (T' (f.pin p P).1) (by rw[z];calc t)) (aaM _)
end
def UH(b:Nat->List V->Hp->Prop)(D:Addr)(i:Nat)(H:Hp):Prop:=∃a,H D=some (.lst a)/\a.length<=i+1/\b (i+1) a H
theorem bJ{c:Nat->List V->Hp->Prop}{D:Addr}{i n:Nat}{a:List V}{y:V}(d:H D=some (.lst a))(b:a.length<=i)(e:i<n)(f:n<=sizeLine)(h:c (i+1) (a++[y]) (upd H D (.lst (a++[y])))):
  ∃b,H D=some (.lst b)/\b.length<sizeLine/\UH c D i (upd H D (.lst (b++[y]))):=
 ⟨a,d,(),a++[y],ab,by rw[aas,aa3];lia,h⟩
theorem aV{ix:List (Option Nat)}{J:It}{n:Nat}{g:TG}{c:TT}{k:TE}{l:Hp}{Q:VK}{D:Addr}(f:Nat->List V->Hp->Prop)(a:n<=sizeLine)(t:f 0 [] (upd l D (.lst [])))
  (u:∀i d H,i<n->f i d H->J.go i H) (v:∀d H,f n d H->J.stop n H)
  (w:∀i d H,i < n->H D=some (.lst d)->d.length<=i->f i d H->∀x h,J.OU i H x h->g x (tJ ix σ) h λa q=>Ext (tJ ix σ) a/\c a q λb o=>
   if b=true then k a o λy q=>∃j,q D=some (.lst j)/\j.length < sizeLine/\UH f D i (upd q D (.lst (j++[y]))) else UH f D i o)
  (z:∀d H,H D=some (.lst d)->d.length<=n->f n d H->Q (.ref D) H):
  lM ix J g c k σ l Q D:=by
 calc⟨λi m H=>m=n-i/\i<=n/\∃d,H D=some (.lst d)/\d.length<=i/\f i d H,⟨n,nofun,aaj _,[],ab,F' _,t⟩,?_⟩;rintro i m H ⟨rfl,a,d,r,s,p⟩;by_cases g:i<n
 ·exact .inr ⟨u i d H g p,UH f D i,λh ⟨j,a,b,c⟩=>⟨n-(i+1),(),rfl,g,j,a,b,c⟩,λx h y=>w i d H g r s p x h y⟩
 ·have e:i=n:=by lia
  subst e;calc .inl ⟨v d H p,z d H r s p⟩
end
section
section
variable {X:Cx}
def HH(i j:Int):Prop:=0<j/\j.natAbs.log2<9000
theorem HI:fQ X (binaryOp .FloorDiv) (rI HH λi j=>.int (i/j)):=UA λi j _ _ _ _ _ a q=>by
 have b:(0:Int)<j:=a.1;calc floordiv_int () (by rw[Int.fdiv_eq_ediv_of_nonneg i ()];calc q) (.inl (PyProof.noPylong_of_log2 a.2))
def uI(C:Int->Int->Prop)(g:Int->Int->V):R2:=λx y H Q=>match x,y with
 | .int i,.int j=>C i j/\Q (g i j) H
 |_,_=>False
def LV(g:Int->Int->V):R2:=λx y H Q=>match x,y with
 | .int i,.int j=>Q (g i j) H
 |_,_=>False
theorem UI{f:Value->Value->Sem Value}{C:Int->Int->Prop}{g:Int->Int->V}(h:fQ X f (rI C g)):fQ X f (uI C g):=by
 intro a s σ H x y v u Q I b c q
 cases x<;>cases y<;>first
  |calc(show False from q).elim
  |calc h a s σ H _ _ v u Q I b c ⟨_,_,rfl,rfl,q.1,q.2⟩
theorem Fc{f:Value->Value->Sem Value}{g:Int->Int->V}(h:fQ X f (LQ g)):fQ X f (LV g):=by
 intro a s σ H x y v u Q I b c q
 cases x<;>cases y<;>first
  |calc(show False from q).elim
  |calc h a s σ H _ _ v u Q I b c ⟨_,_,rfl,rfl,q⟩
theorem fU:fQ X (binaryOp .Sub) (LV λi j=>.int (i-j)):=Fc Ra
theorem ng:fQ X (binaryOp .Mult) (uI GZ λi j=>.int (i*j)):=UI Rb
theorem ft:fQ X (binaryOp .Mod) (uI (λ_ j=>0<j) λi j=>.int (i%j)):=UI Rc
theorem lN:fQ X (binaryOp .FloorDiv) (uI HH λi j=>.int (i/j)):=UI HI
theorem sJ:fQ X (binaryOp .Pow) (uI ES λi j=>.int (i^j.toNat)):=UI Rf
theorem fc:fQ X (compareOp .Lt) (LV λi j=>.bl (decide (i<j))):=Fc V2
theorem tM:fQ X (compareOp .LtE) (LV λi j=>.bl (decide (i<=j))):=Fc V3
theorem lO:fQ X (compareOp .Gt) (LV λi j=>.bl (decide (j<i))):=Fc V4
theorem RJ:fQ X (compareOp .GtE) (LV λi j=>.bl (decide (j<=i))):=Fc V5
def j5(K:W.Frag)(H:Hp):Nat->V->V->Prop
 |0,_,_=>False
 |n+1,x,y=>(x=y/\gj x=true)\/∃a b xs c,x=.ref a/\y=.ref b/\((bF K H a xs/\bF K H b c)\/(aO K H a xs/\aO K H b c))/\xs.length=c.length/\∀(i:Nat) u v,xs[i]?=some u->c[i]?=some v->j5 K H n u v
theorem in1_units(A:Around):A.in1.units=A.units+1:=rfl
theorem pA{pins:List (Addr×Obj)}{σ:St}{H:Hp}{s:Shared}(I:Inv X pins σ H s):∀(n:Nat) (A:Around) {x y:V}{u v:Value},j5 X.K H n x y->A.units+n<cLine->RelV x u->RelV y v->SeqAt.EqAt A s u v true
 |0,_,_,_,_,_,h,_,_,_=>h.elim
 |n+1,A,x,y,u,v,h,o,c,d=>by
  rcases h with⟨e,f⟩|⟨a,b,J,L,j,k,l,o,M⟩
  ·subst e;have q:=Bt (A:=A) (s:=s) c d f f;have g:CY x x=true:=by cases x <;> first | rfl | calc absurd (show false=true from f) R' | simp[CY]
   rw[g]at q;exact q
  ·subst j k
   cases c
   cases d;by_cases m:a=b
   ·subst m;exact SeqAt.EqAt.same _
   rcases l with⟨o,p⟩|⟨o,p⟩
   ·obtain⟨c,h,q,H⟩:=I.tuple o;obtain⟨f,k,r,N⟩:=I.tuple p;have O:=h.length;have P:=k.length;have t:c.toArray.size=f.toArray.size:=by simp;lia
    have d:=SeqAt.RcAt.tuples (A:=A) (e:=λ_=>true) (show s.heap.IsTuple a c.toArray from q) (show s.heap.IsTuple b f.toArray from r) () λj u v=>by
     have w:j<c.length:=by simpa using u
     have y:j<f.length:=by simpa using v
     obtain⟨z,l,B⟩:=h.get (i:=j) (x:=J[j]'()) nofun;obtain⟨C,g,D⟩:=k.get (i:=j) (x:=L[j]'()) nofun;have E:c.toArray[j]=z:=by
      have:=cD w;rw[this]at l;simpa using Option.some.inj l
     have F:f.toArray[j]=C:=by
      have:=cD y;rw[this]at g;simpa using Option.some.inj g
     rw[E,F];exact pA I n A.in1 (M j _ _ nofun nofun) (by rw[in1_units];lia) B D
    have G:SeqAt.RcAt A s (.ref a) (.ref b) true:=by
     have:((List.range (min c.toArray.size f.toArray.size)).all (λ_=>true)&&c.toArray.size==f.toArray.size)=true:=by
      rw[t];simp
     rw[this]at d;exact d
    exact SeqAt.EqAt.of_refs m G
   ·obtain⟨c,h,q,H⟩:=I.list o;obtain⟨f,k,r,N⟩:=I.list p;have O:=h.length;have P:=k.length;have t:c.toArray.size=f.toArray.size:=by simp;lia
    have d:=SeqAt.RcAt.lists (A:=A) (e:=λ_=>true) q.isList r.isList t () λj u v=>by
     have w:j<c.length:=by simpa using u
     have y:j<f.length:=by simpa using v
     obtain⟨z,l,B⟩:=h.get (i:=j) (x:=J[j]'()) nofun;obtain⟨C,g,D⟩:=k.get (i:=j) (x:=L[j]'()) nofun;have E:c.toArray[j]=z:=by
      have:=cD w;rw[this]at l;simpa using Option.some.inj l
     have F:f.toArray[j]=C:=by
      have:=cD y;rw[this]at g;simpa using Option.some.inj g
     rw[E,F];exact pA I n A.in1 (M j _ _ nofun nofun) (by rw[in1_units];lia) B D
    have G:SeqAt.RcAt A s (.ref a) (.ref b) true:=by
     have:((List.range c.toArray.size).all (λ_=>true))=true:=by simp
     rw[this]at d;exact d
    calc SeqAt.EqAt.of_refs m G
end
end
section
variable {pins:List (Addr×Obj)}{σ:St}
section
variable {X:Cx}
theorem HJ{H:Hp}{s:Shared}(I:Inv X pins σ H s){A:Around}{n:Nat}{a b:Addr}(h:j5 X.K H (n+1) (.ref a) (.ref b))(f:A.units+n+1<cLine):
  SeqAt.RcAt A s (.ref a) (.ref b) true/\SeqAt.RcNeAt A s (.ref a) (.ref b) false:=by
 rcases h with⟨e,f⟩|⟨g,k,J,L,c,d,j,l,M⟩
 ·exact absurd (show false=true from f) R'
 ·cases c
  cases d;rcases j with⟨g,h⟩|⟨g,h⟩
  ·obtain⟨d,k,l,H⟩:=I.tuple g;obtain⟨f,m,o,N⟩:=I.tuple h;have O:=k.length;have P:=m.length;have u:d.toArray.size=f.toArray.size:=by simp;lia
   have c:∀j (g:j<d.toArray.size) (h:j<f.toArray.size),SeqAt.EqAt A.in1 s d.toArray[j] f.toArray[j] ((λ_=>true) j):=λj v w=>by
    have y:j<d.length:=by simpa using v
    have z:j<f.length:=by simpa using w
    obtain⟨B,p,C⟩:=k.get (i:=j) (x:=J[j]'()) nofun;obtain⟨D,q,E⟩:=m.get (i:=j) (x:=L[j]'()) nofun;have F:d.toArray[j]=B:=by
     have:=cD y;rw[this]at p;simpa using Option.some.inj p
    have G:f.toArray[j]=D:=by
     have:=cD z;rw[this]at q;simpa using Option.some.inj q
    rw[F,G];exact pA I n A.in1 (M j _ _ nofun nofun) (by rw[in1_units];lia) C E
   have e:((List.range (min d.toArray.size f.toArray.size)).all (λ_=>true)&&d.toArray.size==f.toArray.size)=true:=by
    rw[u];simp
   have r:=SeqAt.RcAt.tuples (A:=A) (show s.heap.IsTuple a d.toArray from l) (show s.heap.IsTuple b f.toArray from o) () c;have t:=SeqAt.RcNeAt.tuples (A:=A) (show s.heap.IsTuple a d.toArray from l) (show s.heap.IsTuple b f.toArray from o) () c;rw[e]at r t;exact⟨r,t⟩
  ·obtain⟨d,k,l,H⟩:=I.list g;obtain⟨f,m,o,N⟩:=I.list h;have O:=k.length;have P:=m.length;have u:d.toArray.size=f.toArray.size:=by simp;lia
   have c:∀j (g:j<d.toArray.size) (h:j<f.toArray.size),SeqAt.EqAt A.in1 s d.toArray[j] f.toArray[j] ((λ_=>true) j):=λj v w=>by
    have y:j<d.length:=by simpa using v
    have z:j<f.length:=by simpa using w
    obtain⟨B,p,C⟩:=k.get (i:=j) (x:=J[j]'()) nofun;obtain⟨D,q,E⟩:=m.get (i:=j) (x:=L[j]'()) nofun;have F:d.toArray[j]=B:=by
     have:=cD y;rw[this]at p;simpa using Option.some.inj p
    have G:f.toArray[j]=D:=by
     have:=cD z;rw[this]at q;simpa using Option.some.inj q
    rw[F,G];exact pA I n A.in1 (M j _ _ nofun nofun) (by rw[in1_units];lia) C E
   have e:(List.range d.toArray.size).all (λ_=>true)=true:=by simp
   have r:=SeqAt.RcAt.lists (A:=A) l.isList o.isList u () c;have t:=SeqAt.RcNeAt.lists (A:=A) l.isList o.isList u () c;rw[e]at r t;calc⟨r,t⟩
def tN(K:W.Frag)(H:Hp)(a b:Addr):Prop:=∃xs c,xs.length≠c.length/\((aO K H a xs/\aO K H b c)\/(bF K H a xs/\bF K H b c/\(xs=[]\/c=[])))
theorem De{H:Hp}{s:Shared}(I:Inv X pins σ H s){A:Around}{a b:Addr}(h:tN X.K H a b)(k:A.units<cLine):
  SeqAt.RcAt A s (.ref a) (.ref b) false/\SeqAt.RcNeAt A s (.ref a) (.ref b) true:=by
 obtain⟨j,n,r,⟨l,m⟩|⟨l,m,q⟩⟩:=h
 ·obtain⟨d,h,g,r⟩:=I.list l;obtain⟨f,n,i,t⟩:=I.list m;have o:=h.length;have p:=n.length;have j:(d.toArray.size != f.toArray.size)=true:=by simp;lia
  exact⟨SeqAt.RcAt.lists_lengths g.isList i.isList j k,SeqAt.RcNeAt.lists_lengths g.isList i.isList j k⟩
 ·obtain⟨d,h,g,r⟩:=I.tuple l;obtain⟨f,n,i,t⟩:=I.tuple m;have o:=h.length;have p:=n.length;have c:∀j (l:j<d.toArray.size) (m:j<f.toArray.size),SeqAt.EqAt A.in1 s d.toArray[j] f.toArray[j] ((λ_=>true) j):=λj h l=>by
   exfalso;have m:j<d.length:=by simpa using h
   have h:j<f.length:=by simpa using l
   rcases q with e|e
   ·subst e;simp at o;lia
   ·subst e;simp at p;lia
  have e:((List.range (min d.toArray.size f.toArray.size)).all (λ_=>true)&&d.toArray.size==f.toArray.size)=false:=by
   have:d.toArray.size≠f.toArray.size:=by simp;lia
   rw[Bool.and_eq_false_iff];exact .inr (beq_eq_false_iff_ne.mpr this)
  have h:=SeqAt.RcAt.tuples (A:=A) (show s.heap.IsTuple a d.toArray from g) (show s.heap.IsTuple b f.toArray from i) k c;have j:=SeqAt.RcNeAt.tuples (A:=A) (show s.heap.IsTuple a d.toArray from g) (show s.heap.IsTuple b f.toArray from i) k c;rw[e]at h j;calc⟨h,j⟩
def RL(K:W.Frag):R2:=λx y H Q=>match x,y with
 | .ref a,.ref b=>(j5 K H 20 (.ref a) (.ref b)/\Q (.bl true) H)\/(tN K H a b/\Q (.bl false) H)
 |x,y=>Mx x y=true/\Q (.bl (decide (x=y))) H
def UJ(K:W.Frag):R2:=λx y H Q=>match x,y with
 | .ref a,.ref b=>(j5 K H 20 (.ref a) (.ref b)/\Q (.bl false) H)\/(tN K H a b/\Q (.bl true) H)
 |x,y=>Mx x y=true/\Q (.bl (!decide (x=y))) H
theorem HK(c:X.A.units+64<cLine):fQ X (compareOp .Eq) (RL X.K):=by
  intro pins s σ H x y v u Q I a b h
  cases x<;>cases y<;>first
    |calc V0 pins s σ H _ _ v u Q I a b h
    | (cases a;cases b
       rcases h with⟨a,q⟩|⟨a,q⟩
       · exact(HJ I (A:=X.A) a ()).1 X.prog X.w X.xe _ ⟨.bl true,H,I,rfl,q⟩
       · calc(De I (A:=X.A) a ()).1 X.prog X.w X.xe _ ⟨.bl false,H,I,rfl,q⟩)
theorem HL(c:X.A.units+64<cLine):fQ X (compareOp .NotEq) (UJ X.K):=by
  intro pins s σ H x y v u Q I a b h
  cases x<;>cases y<;>first
    |calc V1 pins s σ H _ _ v u Q I a b h
    | (cases a;cases b
       rcases h with⟨a,q⟩|⟨a,q⟩
       · exact(HJ I (A:=X.A) a ()).2 X.prog X.w X.xe _ ⟨.bl false,H,I,rfl,q⟩
       · calc(De I (A:=X.A) a ()).2 X.prog X.w X.xe _ ⟨.bl true,H,I,rfl,q⟩)
def WA(g:Bool->Bool):R2:=λx y H Q=>match x,y with
 | .bl c,.bl d=>Q (.bl (g (c==d))) H
 |x,.bL=>Q (.bl (g (decide (x=.bL)))) H
 |_,_=>False
theorem tO:fQ X (compareOp .Is) (WA id):=by
 intro pins s σ H x y v u Q I a b h
 cases x<;>cases y<;>first
  |calc(show False from h).elim
  |calc Rj pins s σ H _ _ v u Q I a b ⟨rfl,h⟩
  |(cases a;cases b;calc is_bool ⟨.bl _,H,I,rfl,h⟩)
theorem nh:fQ X (compareOp .IsNot) (WA not):=by
 intro pins s σ H x y v u Q I a b h
 cases x<;>cases y<;>first
  |calc(show False from h).elim
  |calc My pins s σ H _ _ v u Q I a b ⟨rfl,h⟩
  |(cases a;cases b;calc isnot_bool ⟨.bl _,H,I,rfl,h⟩)
def uIn(K:W.Frag)(a:Bool):R2:=λx y H Q=>match y with
 | .ref p=>∃xs,(aO K H p xs\/bF K H p xs)/\gj x=true/\xs.all gj=true/\Q (.bl (if a then !Bu x xs else Bu x xs)) H
 |_=>False
theorem BA:fQ X (compareOp .In) (uIn X.K false):=by
 intro pins s σ H x y v u Q I a b h
 cases y<;>first
  |calc(show False from h).elim
  |(obtain⟨c,d,e,f,g⟩:=h;calc EZ pins s σ H _ _ v u Q I a b ⟨_,c,rfl,d,e,f,g⟩)
def HM(K:W.Frag)(a:TE):TI:=λσ H R=>a σ H λx b=>match x with
 | .ref a=>((∃xs,aO K b a xs)/\R (rD K a) b)\/((∃xs,bF K b a xs)/\R (Q5 K a) b)
 |_=>False
theorem bI{n l:Expr}{i:TE}(r:PE X l i):PI X n l (HM X.K i):=by
  calc⟨?_⟩;intro pins s σ H R I h;calc dq (r pins s σ H _ I h) λv c t=>?_;obtain⟨x,j,d,u,k⟩:=t
  cases x<;>first
    |calc(show False from k).elim
    | (rename_i a;cases u
       rcases k with⟨⟨w,f⟩,q⟩|⟨⟨w,f⟩,q⟩
       · obtain⟨m,y,p,z⟩:=d.list f;calc aa8 p.isList ?_;calc⟨c.heap.objs.size,[c.heap.objs.size],_,_,j,rfl,d.kept (t':=c.toks) λb o e=>K' _ e,EO a _,⟨_,Y' _ rfl,rfl,rfl⟩,λb g=>?_,q⟩;have e:b=c.heap.objs.size:=by simpa using g
         subst e;exact d.GV (F' _) (d.ba.fresh (F' _))
       · obtain⟨m,y,p,z⟩:=d.tuple f;calc aaP (show c.heap.IsTuple a m.toArray from p) ?_;calc⟨c.heap.objs.size,[c.heap.objs.size],_,_,j,rfl,d.kept (t':=c.toks) λb o e=>K' _ e,Bd a _,⟨_,Y' _ rfl,rfl,rfl⟩,λb g=>?_,q⟩;have e:b=c.heap.objs.size:=by simpa using g
         subst e;calc d.GV (F' _) (d.ba.fresh (F' _)))
end
structure Def(P:Program)(w:World)(K:W.Frag)(mg:Str->Option Value)(base:Heap)(x:Str)(k:Nat)(ps:List Str)(sp:Sp):Prop where
 ex:∃f fd,nC P w K mg base E8 k f fd ps sp/\mg x=some (.ref f)/\W.keepIn K (.ref f)=true/\Binds K fd ps []
structure cw(K:W.Frag)(mg:Str->Option Value)(x qual:Str)(st:Stmt)(ps:List Str):Prop where
 ex:∃f fd,MY K x qual st f fd/\mg x=some (.ref f)/\Binds K fd ps []
section
variable {P:Program}{w:World}{K:W.Frag}{mg:Str->Option Value}{base:Heap}
theorem cw.ok{x qual:Str}{a:Stmt}{N b:List Str}{k:Nat}{sp:Sp}(T:cw K mg x qual a b)(S:aD N b (az a))(c:∀vs H Q E,sp vs H Q E->vs.length=b.length)
  (e:∀(f:Addr) (d:Value) (A:Around) (outer:List Env) (s:Shared) (H:Hp) (vs:List V) (Q:VK) (E:XK),ff k (A.deeper (envOfC qual (az a) s.heap.objs.size f d))->sp vs H Q E->
   ∃t,yE (tm E8 P w K mg base N qual (az a) f d A outer s H E).Mu (dj a) t/\t {nx:=λ_ a=>Q .bL a,rt:=Q} (start N vs) H):Def P w K mg base x (k + 1) b sp:=by
 obtain⟨f,a,F,b,d⟩:=T.ex;calc⟨f,a,F.ok S c (e f),b,F.kp,d⟩
end
theorem WB{X:Cx}{k j:Nat}{b:List Str}{sp:Sp}{x:Str}{p a:Pos}{e:Expr}{es:List Expr}{t:TA}(D:Def X.prog X.w X.K X.mg X.base x k b sp)(c:ff j X.A)(d:PA X (e::es) t)(g:Gl X x:=by rfl)(b:k<=j:=by decide)
  (h:(x==("__debug__":Str))=false:=by decide) (he:starEach (e::es) X.env=(false,eval e X.env)::starEach es X.env:=by rfl) (i:(backTo a (starEach es X.env)).any (·.1)=false:=by rfl):
  PE X (.Call (.Name x p) (e::es) [] a) (vQ sp [] E0 t):=by
 obtain⟨f,k,F,a,e,j⟩:=D.ex;calc ME F (c.mono b) g a e j .nil Dc d h he i
end
section
variable {H:Hp}
section
variable {X:Cx}
def LW(K:W.Frag):R2:=λx y H Q=>match x,y with
 | .str z,.int i=>∃c,z.length<=sizeLine/\ia z.cps.toList i=some c/\Q (.str ⟨#[c]⟩) H
 | .ref p,.int i=>∃xs v,(aO K H p xs\/bF K H p xs)/\ia xs i=some v/\Q v H
 | .ref p,.str k=>∃v,jj H p (.str k) (some v)/\Q v H
 |_,_=>False
theorem acp(c:X.A.units+64<cLine):We X (LW X.K):=by
  intro a b d s σ H x y v u Q I i j h k
  cases x<;>cases y<;>first
    |calc(show False from h).elim
    |(obtain⟨c,f,l,e⟩:=h;calc Rv a b d s σ H _ _ v u Q I i j ⟨_,_,c,rfl,rfl,f,l,e⟩ k)
    | (obtain⟨c,m,f | f,l,e⟩:=h
       · exact MK a b d s σ H _ _ v u Q I i j ⟨_,c,_,m,rfl,rfl,f,l,e⟩ k
       · calc Ru a b d s σ H _ _ v u Q I i j ⟨_,c,_,m,rfl,rfl,f,l,e⟩ k)
    | (obtain⟨m,g,e⟩:=h
       cases i;calc tail_any (rE I g) PySem.F.slot_dict_getitem.lookup (v7 () I g j λc d a b=>⟨m,H,a,b,e⟩) k)
end
inductive DV where
 |bL|bl (b:Bool)|int (i:Int)|str (x:Str)|tup (ds:List DV)|lst (ds:List DV)|dict
inductive HD(H:Hp):Nat->V->DV->Prop
 |bL {n}:HD H n .bL .bL
 |bl {n} (b:Bool):HD H n (.bl b) (.bl b)
 |int {n} (i:Int):HD H n (.int i) (.int i)
 |str {n} (x:Str):HD H n (.str x) (.str x)
 |tup {n a xs ds}:H a=some (.tup xs)->xs.length=ds.length->(∀(i:Nat) u e,xs[i]?=some u->ds[i]?=some e->HD H n u e)->HD H (n+1) (.ref a) (.tup ds)
 |lst {n a xs ds}:H a=some (.lst xs)->xs.length=ds.length->(∀(i:Nat) u e,xs[i]?=some u->ds[i]?=some e->HD H n u e)->HD H (n+1) (.ref a) (.lst ds)
 |dict {n a bb}:H a=some (.dK bb)->HD H n (.ref a) .dict
theorem HD.same{H a:Hp}(s:av H a){n:Nat}{x:V}{d:DV}(h:HD H n x d):HD a n x d:=by
 induction h with
 |bL=>calc .bL
 |bl b=>calc .bl b
 |int i=>calc .int i
 |str x=>calc .str x
 |tup a b c d=>calc .tup (s _ _ a) b d
 |lst a b c d=>calc .lst (s _ _ a) b d
 |dict a=>calc .dict (s _ _ a)
theorem HD.mono{H:Hp}{n:Nat}{x:V}{d:DV}(h:HD H n x d):∀{m:Nat},n<=m->HD H m x d:=by
 induction h with
 |bL=>intro m _;calc .bL
 |bl b=>intro m _;calc .bl b
 |int i=>intro m _;calc .int i
 |str x=>intro m _;calc .str x
 |tup a b c f=>
  intro m g;obtain⟨k,rfl⟩:∃k,m=k+1:=⟨m-1,()⟩
  calc .tup a b λi u e p q=>f i u e p q ()
 |lst a b c f=>
  intro m g;obtain⟨k,rfl⟩:∃k,m=k+1:=⟨m-1,()⟩
  calc .lst a b λi u e p q=>f i u e p q ()
 |dict a=>intro m _;calc .dict a
inductive HT(H:Hp):Nat->V->DV->Prop
 |bL {n}:HT H n .bL .bL
 |bl {n} (b:Bool):HT H n (.bl b) (.bl b)
 |int {n} (i:Int):HT H n (.int i) (.int i)
 |str {n} (x:Str):HT H n (.str x) (.str x)
 |tup {n a xs ds}:H a=some (.tup xs)->xs.length=ds.length->(∀(i:Nat) u e,xs[i]?=some u->ds[i]?=some e->HT H n u e)->HT H (n+1) (.ref a) (.tup ds)
theorem HT.hd{H:Hp}{n:Nat}{x:V}{d:DV}(h:HT H n x d):HD H n x d:=by
 induction h with
 |bL=>calc .bL
 |bl b=>calc .bl b
 |int i=>calc .int i
 |str x=>calc .str x
 |tup a b c d=>calc .tup a b d
def bX(H a:Hp):Prop:=∀b xs,H b=some (.tup xs)->a b=some (.tup xs)
theorem av.aP{a:Hp}(h:av H a):bX H a:=λb a e=>h b _ e
theorem bX.refl(H:Hp):bX H H:=λ_ _ h=>h
theorem bX.trans{c d:Hp}(a:bX H c)(b:bX c d):bX H d:=λc o h=>b c o (a c o h)
theorem bX.upd{a:Hp}(h:bX H a){p:Addr}{o:HO}(d:∀xs,a p≠some (.tup xs)):bX H (upd a p o):=λb xs e=>by
 have c:=h b xs e;have:b≠p:=λz=>by subst z;exact d xs c
 rw[ay this];calc c
theorem HT.aJ{H a:Hp}(s:bX H a){n:Nat}{x:V}{d:DV}(h:HT H n x d):HT a n x d:=by
 induction h with
 |bL=>calc .bL
 |bl b=>calc .bl b
 |int i=>calc .int i
 |str x=>calc .str x
 |tup a b c d=>calc .tup (s _ _ a) b d
theorem av.new{p:Addr}(o:HO)(a:H p=none):av H (upd H p o):=λb u e=>by rw[ay (aq e a)];calc e
end
section
section
variable {X:Cx}
def M5(K:W.Frag):List V->Hp->VK->Prop:=λxs H Q=>match xs with
 | [x]=>∃n,Ha K x H n/\Q (.int (n:Nat)) H
 |_=>False
theorem aN:fe X (.builtin "len") (M5 X.K):=by
 intro a s σ H b c Q I r h
 match b,r,h with
 | [x],r,h=>
  obtain⟨n,b,d⟩:=h;calc Hb a s σ H _ c Q I r ⟨x,n,rfl,b,d⟩
def uII(g:Int->Int->Int):List V->Hp->VK->Prop:=λxs H Q=>match xs with
 | [.int i,.int j]=>Q (.int (g i j)) H
 |_=>False
theorem Fe(b:X.calm=true):fe X (.builtin "max") (uII λi j=>if j > i then j else i):=by
 intro a s σ H c d Q I r h
 match c,r,h with
 | [.int i,.int j],r,h=>calc ET b a s σ H _ d Q I r ⟨i,j,rfl,h⟩
def xt(K:W.Frag):List V->Hp->VK->Prop:=λxs H Q=>match xs with
 | [.ref p]=>(∃a,aO K H p a/\∀l,H l=none->Q (.ref l) (upd H l (.tup a)))\/(∃a,bF K H p a/\Q (.ref p) H)
 |_=>False
theorem cg:fe X (.type "tuple") (xt X.K):=by
 intro a s σ H b e Q I r h
 match b,r,h with
 | [.ref p],r,h=>
  rcases h with⟨b,c,d⟩|⟨b,c,d⟩
  ·exact nL a s σ H _ e Q I r ⟨p,b,rfl,.inl ⟨c,d⟩⟩
  ·calc nL a s σ H _ e Q I r ⟨p,b,rfl,.inr ⟨c,d⟩⟩
def Df(K:W.Frag):List V->Hp->VK->Prop:=λxs H Q=>match xs with
 | [.ref p]=>∃a,(aO K H p a\/bF K H p a)/\∀l,H l=none->Q (.ref l) (upd H l (.lst a))
 |_=>False
theorem cA:fe X (.type "list") (Df X.K):=by
 intro a s σ H b c Q I r h
 match b,r,h with
 | [.ref p],r,h=>
  obtain⟨b,d,e⟩:=h;calc xk a s σ H _ c Q I r ⟨p,b,rfl,d,e⟩
def O1:V->V->V->Hp->(Hp->Prop)->Prop:=λo i v H Q=>match o,i with
 | .ref p,.int k=>∃xs j,H p=some (.lst xs)/\Br xs.length k=some j/\Q (upd H p (.lst (xs.set j v)))
 |_,_=>False
theorem dH:Q0 X O1:=by
 intro a s σ H o i v b c u Q I d e f h
 cases o<;>cases i<;>first
  |calc(show False from h).elim
  |(obtain⟨g,j,i,k,l⟩:=h;calc set_list a s σ H _ _ v b c u Q I d e f ⟨_,g,_,j,rfl,rfl,i,k,l⟩)
end
theorem WC{CX P w K mg base N qual scope f cd A outer s H E}:(tm CX P w K mg base N qual scope f cd A outer s H E).Mu.K=K:=rfl
theorem O2{X:Cx}:X.Mu.K=X.K:=rfl
theorem HN{CX P w K mg base N qual scope f cd A outer s H E}:(tm CX P w K mg base N qual scope f cd A outer s H E).K=K:=rfl
theorem O3{X:Cx}{scope C N' a b fp}:(UE X scope C N' a b fp).K=X.K:=rfl
theorem cM:2<=sizeLine:=by decide
end
section
variable {g:Int->Int->V}
section
variable {K:W.Frag}{H:Hp}{Q:VK}{i j:Int}{a b:Addr}{x y:V}{s t:Str}
theorem O4{C:Int->Int->Prop}:uI C g (.int i) (.int j) H Q=(C i j/\Q (g i j) H):=rfl
theorem HQ:LV g (.int i) (.int j) H Q=Q (g i j) H:=rfl
theorem HR:decide (V.int i=V.int j)=decide (i=j):=by simp
theorem HS:decide (V.str s=V.str t)=decide (s=t):=by simp
theorem xu:RL K (.int i) (.int j) H Q=Q (.bl (decide (i=j))) H:=by
 show(true=true/\Q (.bl (decide (V.int i=V.int j))) H)=_;rw[HR];simp
theorem xy:RL K (.str s) (.str t) H Q=Q (.bl (decide (s=t))) H:=by
 show(true=true/\Q (.bl (decide (V.str s=V.str t))) H)=_;rw[HS];simp
theorem xA:UJ K (.int i) (.int j) H Q=Q (.bl (!decide (i=j))) H:=by
 show(true=true/\Q (.bl (!decide (V.int i=V.int j))) H)=_;rw[HR];simp
theorem xB:UJ K (.str s) (.str t) H Q=Q (.bl (!decide (s=t))) H:=by
 show(true=true/\Q (.bl (!decide (V.str s=V.str t))) H)=_;rw[HS];simp
theorem HU:RL K (.ref a) (.ref b) H Q=((j5 K H 20 (.ref a) (.ref b)/\Q (.bl true) H)\/(tN K H a b/\Q (.bl false) H)):=rfl
theorem HV:UJ K (.ref a) (.ref b) H Q=((j5 K H 20 (.ref a) (.ref b)/\Q (.bl false) H)\/(tN K H a b/\Q (.bl true) H)):=rfl
theorem HW{g:Bool->Bool}{c d:Bool}:WA g (.bl c) (.bl d) H Q=Q (.bl (g (c==d))) H:=rfl
theorem O5{b:Bool}:uIn K b x (.ref a) H Q=∃xs,(aO K H a xs\/bF K H a xs)/\gj x=true/\xs.all gj=true/\Q (.bl (if b then !Bu x xs else Bu x xs)) H:=rfl
theorem HX:LW K (.ref a) (.int i) H Q=∃xs v,(aO K H a xs\/bF K H a xs)/\ia xs i=some v/\Q v H:=rfl
theorem HY:LW K (.ref a) (.str s) H Q=∃v,jj H a (.str s) (some v)/\Q v H:=rfl
theorem HZ:LW K (.str s) (.int i) H Q=∃c,s.length<=sizeLine/\ia s.cps.toList i=some c/\Q (.str ⟨#[c]⟩) H:=rfl
theorem Ia:M5 K [x] H Q=∃n,Ha K x H n/\Q (.int (n:Nat)) H:=rfl
theorem O6{g:Int->Int->Int}:uII g [.int i,.int j] H Q=Q (.int (g i j)) H:=rfl
theorem pB:xt K [.ref a] H Q=((∃b,aO K H a b/\∀l,H l=none->Q (.ref l) (upd H l (.tup b)))\/(∃b,bF K H a b/\Q (.ref a) H)):=rfl
theorem Dg:Df K [.ref a] H Q=∃b,(aO K H a b\/bF K H a b)/\∀l,H l=none->Q (.ref l) (upd H l (.lst b)):=rfl
theorem y8{R:Hp->Prop}:O1 (.ref a) (.int i) x H R=∃xs j,H a=some (.lst xs)/\Br xs.length i=some j/\R (upd H a (.lst (xs.set j x))):=rfl
theorem wa{α:Type}{o:Option α}:(some o).join=o:=rfl
end
end
section
variable {r:List V->Hp->VK->Prop}
def fV:Expr->Bool
 | .Starred ..=>false
 |_=>true
theorem fG{e:Expr}{es:List Expr}{env:Env}(h:fV e=true):starEach (e::es) env=(false,eval e env)::starEach es env:=by
 cases e<;>first|rfl|calc absurd h R'
theorem j6{a:Pos}{env:Env}:∀{es:List Expr},es.all fV=true->(backTo a (starEach es env)).any (·.1)=false
 | [],_=>rfl
 |e::es,h=>by
  rw[List.all_cons,aa1]at h;rw[fG h.1];show(false||(backTo a (starEach es env)).any (·.1))=false;rw[j6 h.2];rfl
def BB:Expr->Bool
 | .ListComp ..=>false
 | .SetComp ..=>false
 | .DictComp ..=>false
 |_=>true
theorem gJ{e:Expr}{t:Option Expr}{l:Nat}{env:Env}(h:BB e=true):swapsWith e t l env=pure false:=by
 cases e<;>first|rfl|calc absurd h R'
section
variable {X:Cx}{e:Expr}{es:List Expr}{te:TE}{t:TA}{pos p:Pos}{x:Str}
theorem af(a:PE X e te)(b:PA X es t)(h:fV e=true:=by rfl):PA X (e::es) (tj te t):=MC a b (fG h)
theorem aI{k j:Nat}{a:List Str}{sp:Sp}(D:Def X.prog X.w X.K X.mg X.base x k a sp)(b:ff j X.A)(c:PA X (e::es) t)(d:Gl X x:=by rfl)(a:k<=j:=by decide)
  (f:(x==("__debug__":Str))=false:=by decide) (g:fV e=true:=by rfl) (h:es.all fV=true:=by rfl):
  PE X (.Call (.Name x p) (e::es) [] pos) (vQ sp [] E0 t):=WB D b c d a f (fG g) (j6 h)
theorem aX{a:String}(b:fe X (.builtin a) r)(c:Gl X x)(d:X.mg x=none)(f:bootBuiltins x=some (.builtin a))(g:PA X (e::es) t)(h:x≠"__name__":=by decide)(a:(x==("__debug__":Str))=false:=by decide)
  (i:fV e=true:=by rfl) (j:es.all fV=true:=by rfl):PE X (.Call (.Name x p) (e::es) [] pos) (OX r t):=Hg b c d f g h a (fG i) (j6 j)
theorem cR{T:String}(a:fe X (.type T) r)(b:Gl X x)(c:X.mg x=none)(d:bootBuiltins x=some (.type T))(f:PA X (e::es) t)(g:x≠"__name__":=by decide)(h:(x==("__debug__":Str))=false:=by decide)
  (i:fV e=true:=by rfl) (j:es.all fV=true:=by rfl):PE X (.Call (.Name x p) (e::es) [] pos) (OX r t):=EX a b c d f g h (fG i) (j6 j)
theorem aZ{i:Nat}{a:Pos}(b:X.N.Nodup)(c:X.N[i]?=some x)(d:Loc X.env.scope x)(he:PE X e te)(h:BB e=true:=by rfl)(f:X.fn x=true\/X.env.scope.names.lookup x=some .local:=by grind):
  PS X (.Assign [.Name x a] e pos) (EN te (dE i)):=GU b c d he (gJ h) f
theorem bN(he:PE X e te)(h:BB e=true:=by rfl):PS X (.Expr e pos) (CI te):=Mv he (gJ h)
end
end
section
def xC:Expr->Bool
 | .Slice ..=>false
 |_=>true
theorem y9{b:Expr}(h:xC b=true):CV b:=λo i=>by
 cases b<;>first|rfl|calc absurd h R'
theorem ao{X:Cx}{a b:Expr}{d e:TE}{c:Pos}(f:X.A.units+64<cLine)(g:PE X a d)(i:PE X b e)(h:xC b=true:=by rfl):PE X (.Subscript a b c) (AK (LW X.K) d e):=Wg (acp f) g i (y9 h)
end
end L2
set_option maxHeartbeats 400000
namespace L2
open PySem PySem.Spec PyProof.Rows
section
section
variable {prog:Program}{w:World}{A:Around}{E:Value->Shared->Prop}{s:Shared}{K:W.Frag}{x C B:Addr}{ox:Obj}{od:Option Obj}{name:Str}
open PySem.W in
open PySem.W in
end
end
section
end
end L2
namespace L2
open PySem PySem.Spec PyProof.Rows
end L2
set_option maxHeartbeats 4000000
namespace PySem
variable {a j:Addr}{Q:Value->Shared->Prop}
section
variable {prog:Program}{w:World}{A:Around}{E:Value->Shared->Prop}{s:Shared}
theorem rQ{n:Nat}{c:Array Value}{v:Value}(b:s.heap.IsTupleIter j a n)(f:s.heap.IsTuple a c)(h:c[n]?=some v)
  (q:∀g,g.IsTupleIter j a (n+1)->Heap.SameBut j s.heap g->Q v {s with heap:=g}):wpAny (model prog w) A (Builtin.SmallTypes.nextOf (.ref j)) Q E s:=by
 obtain⟨g,e,c,d⟩:=id b;obtain⟨k,g,_,l,i⟩:=f;unfold Builtin.SmallTypes.nextOf;refine E' (aaV (name:=Str.ofString "__next__") b.typeIs F.slot_tuple_iterator_next (aa0 F.slot_tuple_iterator_next b.typeIs F.entry_tuple_iterator_next ?_ (F.args_tuple_iterator_next_1 _)));refine E' (m:=field (.ref j) 0) (aaI e d (x:=.ref a) rfl ?_);show wpAny _ _ (if (Value.ref a==Value.none)=true then _ else _) _ _ _;rw[if_neg (by exact R')];refine E' (m:=field (.ref j) 1) (aaI e d (x:=.int n 0) rfl ?_);refine E' (m:=seqItems? (.ref a)) (aaO g i ?_);simp only[Int.toNat_natCast,h];refine E' (wpAny_setField e d nofun (P' ⟨v,rfl,P' (q _ ⟨_,Heap.get?_update_self _ e (Obj.isFreed_of_fields (Obj.data_mapFields d _)),(Obj.cls_mapFields ..).trans c,?_⟩ (Heap.SameBut.update ..))⟩));rw[Obj.data_mapFields d];simp[rawInt]
theorem tP{n:Nat}{c:Array Value}(f:A.handled=none)(b:s.heap.IsTupleIter j a n)(h:s.heap.IsTuple a c)(i:c[n]?=none)
  (q:∀g e,Heap.ExtBut j s.heap g->(∃o,g.get? e=some o/\o.cls=.type "StopIteration")->E (.ref e) {s with heap:=g}):wpAny (model prog w) A (Builtin.SmallTypes.nextOf (.ref j)) Q E s:=by
 obtain⟨g,e,c,d⟩:=id b;obtain⟨k,c,_,l,g⟩:=h;unfold Builtin.SmallTypes.nextOf;refine E' (aaV (name:=Str.ofString "__next__") b.typeIs F.slot_tuple_iterator_next (aa0 F.slot_tuple_iterator_next b.typeIs F.entry_tuple_iterator_next ?_ (F.args_tuple_iterator_next_1 _)));refine E' (m:=field (.ref j) 0) (aaI e d (x:=.ref a) rfl ?_);show wpAny _ _ (if (Value.ref a==Value.none)=true then _ else _) _ _ _;rw[if_neg (by exact R')];refine E' (m:=field (.ref j) 1) (aaI e d (x:=.int n 0) rfl ?_);refine E' (m:=seqItems? (.ref a)) (aaO c g ?_);simp only[Int.toNat_natCast,i];refine E' (wpAny_rule (E' (wpAny_setField e d nofun (E' (m:=newExc (.type "StopIteration") []) ?_))));simp only[newExc,newTuple];refine E' (aa7 (E' (m:=firstArgMember _ _) (wpAny_of_eq (a:=Value.none) (by first|rfl|(simp only[firstArgMember];rfl)) (aa7 ?_ (by size_fits)))) (by size_fits));simp only[raiseNew];refine E' (wpAny_handled ?_)
 first|rw[show A.in1.handled=none from f]|rw[f]
 calc E' (P' (wpAny_throw (q _ _ (((Heap.SameBut.update ..).extBut.push _).push _) ⟨_,Y' _ rfl,rfl⟩)))
end
theorem Draws.tup{prog:Program}{w:World}{A:Around}(f:A.handled=none)(j a:Addr)(l:a≠j)(c:Array Value):
  Draws prog w A j [j,a] c.size (λi v=>c[i]?=some v) (λi h=>h.IsTupleIter j a i/\h.IsTuple a c) where
 live:=λ_ _ b=>let ⟨o,d,_⟩:=b.1;⟨o,d⟩
 frame:=λ_ _ _ b k=>⟨b.1.at λo e=>k j nofun o e,b.2.at λo e=>k a nofun o e⟩
 item:=λi s Q E d b q=>rQ b.1 b.2 (v:=c[i]) (by simp[d]) λg h e=>q _ g s.toks (by simp[d]) ⟨h,b.2.extBut e.extBut l⟩ e
 done:=λs Q E b q=>tP f b.1 b.2 nofun q
def BC(b:Bool)(h:Heap)(a:Addr)(c:Array Value):Prop:=if b=true then h.IsList a c else h.IsTuple a c
def qg(b:Bool)(h:Heap)(j a:Addr)(n:Nat):Prop:=if b=true then h.IsListIter j a n else h.IsTupleIter j a n
theorem qg.at{b:Bool}{h h':Heap}{n:Nat}(x:qg b h j a n)(k:∀o,h.get? j=some o->h'.get? j=some o):qg b h' j a n:=by
 cases b
 ·exact Heap.IsTupleIter.at x k
 ·calc Heap.IsListIter.at x k
theorem qg.obj{b:Bool}{h:Heap}{n:Nat}(x:qg b h j a n):∃o,h.get? j=some o/\∀v,o.data≠.cell v:=by
 cases b<;>(obtain⟨o,e,c,d⟩:=x;calc⟨o,e,λv z=>by rw[d]at z;cases z⟩)
theorem Draws.sq{prog:Program}{w:World}{A:Around}(d:A.handled=none)(b:Bool)(j a:Addr)(e:a≠j)(c:Array Value):
  Draws prog w A j [j,a] c.size (λi v=>c[i]?=some v) (λi h=>qg b h j a i/\BC b h a c):=by
 cases b
 ·exact Draws.tup d j a e c
 ·calc Draws.list d j a e c
end PySem
namespace PySem
variable {Q:Option Value->Shared->Prop}
structure ZA(z ti to i1 i2:Addr)(f1 f2:List Addr):Prop where
 a1:ti≠z
 a2:to≠z
 a3:i1≠z
 a4:i2≠z
 a5:ti≠to
 a6:ti≠i1
 a7:ti≠i2
 a8:to≠i1
 a9:to≠i2
 a10:i1≠i2
 b1:z∉f1
 b2:to∉f1
 b3:i2∉f1
 c1:z∉f2
 c2:to∉f2
 c3:i1∉f2
section
variable {prog:Program}{w:World}{A:Around}{E:Value->Shared->Prop}{s:Shared}{z ti to i1 i2:Addr}{f1 f2:List Addr}{n1 n2 k:Nat}{P1 P2:Nat->Value->Prop}{S1 S2:Nat->Heap->Prop}{a b:Value}
theorem Ff{Q:Value->Shared->Prop}(Z:ZA z ti to i1 i2 f1 f2)(B:Draws prog w A i1 f1 n1 P1 S1)(C:Draws prog w A i2 f2 n2 P2 S2)(d:IsZip s.heap z ti to .none)(i:IsPair s.heap ti (.ref i1) (.ref i2))(u:IsPair s.heap to a b)
  (l:S1 k s.heap) (F:S2 k s.heap) (n:k<n1) (G:k<n2)
  (q:∀x y g e,P1 k x->P2 k y->IsZip g z ti to (rawInt s.heap.objs.size)->IsPair g to x y->S1 (k + 1) g->S2 (k + 1) g->IsPair g s.heap.objs.size x y->g.objs.size=s.heap.objs.size + 1->
   (∀c o,c≠z->c≠to->c≠i1->c≠i2->s.heap.get? c=some o->g.get? c=some o)->Q (.ref s.heap.objs.size) {s with heap:=g,toks:=e}):
  wpAny (model prog w) A (Builtin.«zip.__next__» ⟨[.ref z],[]⟩) (λe s'=>∃v,e=.done (.ret v)/\Q v s') E s:=by
 calc E' (m:=field (.ref z) 2) (aaI d rfl (x:=.bool false) rfl (E' (m:=field (.ref z) 3) (aaI d rfl (x:=.ref ti) rfl ?_)));calc E' (aaO i rfl (E' (m:=Builtin.SmallTypes.ownedTupleIsFree (.ref z)) ?_));unfold Builtin.SmallTypes.ownedTupleIsFree;calc E' (aaI d rfl (x:=.none) rfl (P' ?_));simp only[if_true];refine E' (wpAny_rule (E' (aaI d rfl (x:=.ref to) rfl (E' (wpAny_setField_rec d nofun λj p r=>?_)))))
 replace p:IsZip j z ti to .ellipsis:=p
 calc E' ?_;simp only[List.zipIdx_cons,List.zipIdx_nil,List.forIn_cons,List.forIn_nil];calc E' (E' (wpAny_onRaise (E' (m:=Builtin.SmallTypes.nextOf (.ref i1)) ?_)));refine B.item k _ _ _ n (B.frame _ _ _ l λc g o e=>r.extBut c o (λh=>Z.b1 (h▸g)) e) λx d l L J i=>P' ?_
 replace i:Heap.SameBut i1 j d:=i
 have l:IsPair d to a b:=i.extBut _ _ Z.a8 (r.extBut _ _ Z.a2 u);refine E' (aaO l rfl (E' (wpAny_updateSeq_pair l λn t j=>E' (wpAny_letGo (P' ?_)))))
 replace t:IsPair n to x b:=t
 replace j:Heap.SameBut to d n:=j
 calc E' (E' (wpAny_onRaise (E' (m:=Builtin.SmallTypes.nextOf (.ref i2)) ?_)));refine C.item k _ _ _ G (C.frame _ _ _ F λc g o e=>j.extBut c o (λh=>Z.c2 (h▸g)) (i.extBut c o (λh=>Z.c3 (h▸g)) (r.extBut c o (λh=>Z.c1 (h▸g)) e))) λy u d M K l=>P' ?_
 replace l:Heap.SameBut i2 n u:=l
 have F:IsPair u to x b:=l.extBut _ _ Z.a9 t;refine E' (aaO F rfl (E' (wpAny_updateSeq_pair F λd v n=>E' (wpAny_letGo (P' (P' ?_))))))
 replace v:IsPair d to x y:=v
 replace n:Heap.SameBut to u d:=n
 calc E' (aaO v rfl (E' (wpAny_newTuple ?_)));have t:d.objs.size=s.heap.objs.size:=by rw[n.1,l.1,j.1,i.1,r.1]
 have u:IsZip d z ti to .ellipsis:=n.extBut _ _ Z.a2.symm (l.extBut _ _ Z.a4.symm (j.extBut _ _ Z.a2.symm (i.extBut _ _ Z.a3.symm p)));have N:∀c o,c≠z->c≠to->c≠i1->c≠i2->s.heap.get? c=some o->d.get? c=some o:=λc o p F G I e=>n.extBut _ _ F (l.extBut _ _ I (j.extBut _ _ F (i.extBut _ _ G (r.extBut _ _ p e))));have O:S1 (k+1) d:=B.frame _ _ _ J λc g o e=>n.extBut c o (λh=>Z.b2 (h▸g)) (l.extBut c o (λh=>Z.b3 (h▸g)) (j.extBut c o (λh=>Z.b2 (h▸g)) e));have P:S2 (k+1) d:=C.frame _ _ _ K λc g o e=>n.extBut c o (λh=>Z.c2 (h▸g)) e;have l:z<d.objs.size:=T' u;refine E' (m:=Builtin.SmallTypes.ownedTupleHandOut (.ref z) (.ref d.objs.size)) ?_;unfold Builtin.SmallTypes.ownedTupleHandOut;have i:IsZip (d.push {cls:=.type "tuple",data:=.seq #[x,y]}) z ti to .ellipsis:=K' _ u;refine E' (wpAny_setField_rec i nofun λn j J=>?_)
 replace j:IsZip n z ti to (rawInt d.objs.size):=j
 refine wpAny_setField_rec j nofun λn i u=>?_
 replace i:IsZip n z ti to (rawInt d.objs.size):=i
 have r:∀c o,c≠z->d.get? c=some o->n.get? c=some o:=λc o p e=>u.extBut _ _ p (J.extBut _ _ p (K' _ e));have K:IsPair n d.objs.size x y:=u.extBut _ _ (aaA l) (J.extBut _ _ (aaA l) (Y' _ rfl));have j:n.objs.size=d.objs.size+1:=by rw[u.1,J.1,aaz]
 rw[t]at i K j;calc P' ⟨_,rfl,?_⟩;show Q (.ref d.objs.size) _;rw[t];calc q x y n _ L M i (r _ _ Z.a2 v) (B.frame _ _ _ O λc g o e=>r c o (λh=>Z.b1 (h▸g)) e) (C.frame _ _ _ P λc g o e=>r c o (λh=>Z.c1 (h▸g)) e) K j λc o p F G I e=>r c o p (N c o p F G I e)
theorem Ic{Q:Fin->Shared->Prop}(Z:ZA z ti to i1 i2 f1 f2)(J:Draws prog w A i1 f1 n1 P1 S1)(O:Draws prog w A i2 f2 n2 P2 S2)(r:IsZip s.heap z ti to .none)(S:IsPair s.heap ti (.ref i1) (.ref i2))(T:IsPair s.heap to a b)
  (U:S1 k s.heap) (W:S2 k s.heap) (l:k=n1\/(k<n1/\k=n2))
  (q:∀g e X,(∀c o,c≠z->c≠to->c≠i1->c≠i2->s.heap.get? c=some o->g.get? c=some o)->(∃o,g.get? e=some o/\o.cls=.type "StopIteration")->E (.ref e) {s with heap:=g,toks:=X}):
  wpAny (model prog w) A (Builtin.«zip.__next__» ⟨[.ref z],[]⟩) Q E s:=by
 calc E' (m:=field (.ref z) 2) (aaI r rfl (x:=.bool false) rfl (E' (m:=field (.ref z) 3) (aaI r rfl (x:=.ref ti) rfl ?_)));calc E' (aaO S rfl (E' (m:=Builtin.SmallTypes.ownedTupleIsFree (.ref z)) ?_));unfold Builtin.SmallTypes.ownedTupleIsFree;calc E' (aaI r rfl (x:=.none) rfl (P' ?_));simp only[if_true];refine E' (wpAny_rule (E' (aaI r rfl (x:=.ref to) rfl (E' (wpAny_setField_rec r nofun λK F t=>?_)))))
 replace F:IsZip K z ti to .ellipsis:=F
 calc E' ?_;simp only[List.zipIdx_cons,List.zipIdx_nil,List.forIn_cons,List.forIn_nil];calc E' (E' (wpAny_onRaise (E' (m:=Builtin.SmallTypes.nextOf (.ref i1)) ?_)));have u:=J.frame _ _ _ U λc v o e=>t.extBut c o (λh=>Z.b1 (h▸v)) e;rcases l with l|⟨Y,l2⟩
 ·subst l;calc J.done _ _ _ u λp x d L=>?_;obtain⟨M,j,B⟩:=L
  replace d:Heap.ExtBut i1 K p:=d
  have P:IsZip p z ti to .ellipsis:=d _ _ Z.a3.symm F;have n:x≠z:=λy=>by subst y;rw[P]at j;cases j;simp at B
  exact wpAny_setField_rec P nofun λG _ i=>q G x s.toks (λc o C _ N _ y=>i.extBut _ _ C (d _ _ N (t.extBut _ _ C y))) ⟨M,i.extBut _ _ n j,B⟩
 ·subst l2;refine J.item k _ _ _ Y u λx p O7 g l d=>P' ?_
  replace d:Heap.SameBut i1 K p:=d
  have g:IsPair p to a b:=d.extBut _ _ Z.a8 (t.extBut _ _ Z.a2 T);refine E' (aaO g rfl (E' (wpAny_updateSeq_pair g λG l i=>E' (wpAny_letGo (P' ?_)))))
  replace i:Heap.SameBut to p G:=i
  calc E' (E' (wpAny_onRaise (E' (m:=Builtin.SmallTypes.nextOf (.ref i2)) ?_)));calc O.done _ _ _ (O.frame _ _ _ W λc v o e=>i.extBut c o (λh=>Z.c2 (h▸v)) (d.extBut c o (λh=>Z.c3 (h▸v)) (t.extBut c o (λh=>Z.c1 (h▸v)) e))) λg x I L=>?_;obtain⟨M,j,B⟩:=L
  replace I:Heap.ExtBut i2 G g:=I
  have R:IsZip g z ti to .ellipsis:=I _ _ Z.a4.symm (i.extBut _ _ Z.a2.symm (d.extBut _ _ Z.a3.symm F));have n:x≠z:=λy=>by subst y;rw[R]at j;cases j;simp at B
  calc wpAny_setField_rec R nofun λg _ e=>q g x O7 (λc o C l N p y=>e.extBut _ _ C (I _ _ p (i.extBut _ _ l (d.extBut _ _ N (t.extBut _ _ C y))))) ⟨M,e.extBut _ _ n j,B⟩
end
section
variable {prog:Program}{w:World}{A:Around}{E:Value->Shared->Prop}{s:Shared}{z ti to i1 i2:Addr}{f1 f2:List Addr}{n1 n2 k:Nat}{P1 P2:Nat->Value->Prop}{S1 S2:Nat->Heap->Prop}{a b:Value}
theorem vh(Z:ZA z ti to i1 i2 f1 f2)(f:Draws prog w A.in1 i1 f1 n1 P1 S1)(h:Draws prog w A.in1 i2 f2 n2 P2 S2)(e:IsZip s.heap z ti to .none)(i:IsPair s.heap ti (.ref i1) (.ref i2))(j:IsPair s.heap to a b)
  (l:S1 k s.heap) (m:S2 k s.heap) (n:k<n1) (p:k<n2)
  (q:∀x y g d,P1 k x->P2 k y->IsZip g z ti to (rawInt s.heap.objs.size)->IsPair g to x y->S1 (k + 1) g->S2 (k + 1) g->IsPair g s.heap.objs.size x y->g.objs.size=s.heap.objs.size + 1->
   (∀c o,c≠z->c≠to->c≠i1->c≠i2->s.heap.get? c=some o->g.get? c=some o)->Q (some (.ref s.heap.objs.size)) {s with heap:=g,toks:=d}):
  wpAny (model prog w) A (pyNext (.ref z)) Q E s:=by
 have c:s.TypeIs (.ref z) "zip":=⟨_,e,rfl⟩
 unfold pyNext;exact E' (wpAny_attempt (aaV (name:=Str.ofString "__next__") c F.slot_zip_next (aa0 F.slot_zip_next c F.entry_zip_next
  (Ff Z f h e i j l m n p λx y g d c o r t u v B C D=>P' (q x y g d c o r t u v B C D)) (F.args_zip_next_1 _))))
theorem xD(Z:ZA z ti to i1 i2 f1 f2)(h:Draws prog w A.in1 i1 f1 n1 P1 S1)(i:Draws prog w A.in1 i2 f2 n2 P2 S2)(d:IsZip s.heap z ti to .none)(j:IsPair s.heap ti (.ref i1) (.ref i2))(m:IsPair s.heap to a b)
  (n:S1 k s.heap) (p:S2 k s.heap) (l:k=n1\/(k<n1/\k=n2))
  (q:∀g f,(∀c o,c≠z->c≠to->c≠i1->c≠i2->s.heap.get? c=some o->g.get? c=some o)->Q none {s with heap:=g,toks:=f}):wpAny (model prog w) A (pyNext (.ref z)) Q E s:=by
 have c:s.TypeIs (.ref z) "zip":=⟨_,d,rfl⟩
 unfold pyNext;refine E' (wpAny_attempt (aaV (name:=Str.ofString "__next__") c F.slot_zip_next (aa0 F.slot_zip_next c F.entry_zip_next
  (Ic Z h i d j m n p l λg e f c ⟨o,r,t⟩=>?_) (F.args_zip_next_1 _))))
 calc E' (wpAny_isInstance (T:="StopIteration") (b:=true) ⟨o,r,t⟩ isSubtype_stop (P' (q _ _ c)))
end
def LX(b:Bool)(a:Addr):Obj:=if b=true then {cls:=.type "list_iterator",data:=.fields #[.ref a,.int 0 0]} else {cls:=.type "tuple_iterator",data:=.fields #[.ref a,.int 0 0]}
abbrev zz1(h:Heap)(b:Bool)(l:Addr):Heap:=h.push (LX b l)
abbrev zz2(h:Heap)(b c:Bool)(l m:Addr):Heap:=(zz1 h b l).push (LX c m)
abbrev zz3(h:Heap)(b c:Bool)(l m:Addr):Heap:=(zz2 h b c l m).push {cls:=.type "tuple",data:=.seq #[.ref h.objs.size,.ref (zz1 h b l).objs.size]}
abbrev zz4(h:Heap)(b c:Bool)(l m:Addr):Heap:=(zz3 h b c l m).push {cls:=.type "tuple",data:=.seq #[.none,.none]}
abbrev RO(h:Heap)(b c:Bool)(l m:Addr):Heap:=(zz4 h b c l m).push {cls:=.type "zip",data:=.fields #[.none,.bool false,.bool false,.ref (zz2 h b c l m).objs.size,.ref (zz3 h b c l m).objs.size]}
theorem Fg(b c:Bool)(l m:Addr)(xs i:Array Value):
  Meets (Builtin.«zip.__new__» ⟨[.type "zip",.ref l,.ref m],[]⟩) (λ_ R s=>BC b s.heap l xs/\BC c s.heap m i/\R (.ok (.ret (.ref (zz4 s.heap b c l m).objs.size))) {s with heap:=RO s.heap b c l m}):=
 .of_wp λn w A R s h=>by
  obtain⟨a,g,d,e,f⟩:=s;obtain⟨j,k,h⟩:=h;have n:=sub_zip
  cases b<;>cases c
  ·have b:Heap.IsTuple (Shared.heap ⟨a,g,d,e,f⟩) l xs:=j;have L2:Heap.IsTuple (Shared.heap ⟨a.push {cls:=.type "tuple_iterator",data:=.fields #[.ref l,.int 0 0]},g,d,e,f⟩) m i:=Heap.IsTuple.push k _;wp_walk using aaP b,aaP L2;exact⟨_,rfl,h⟩
  ·have b:Heap.IsTuple (Shared.heap ⟨a,g,d,e,f⟩) l xs:=j;have L2:Heap.IsList (Shared.heap ⟨a.push {cls:=.type "tuple_iterator",data:=.fields #[.ref l,.int 0 0]},g,d,e,f⟩) m i:=Heap.IsList.push k _;wp_walk using aaP b,aa8 L2;exact⟨_,rfl,h⟩
  ·have b:Heap.IsList (Shared.heap ⟨a,g,d,e,f⟩) l xs:=j;have L2:Heap.IsTuple (Shared.heap ⟨a.push {cls:=.type "list_iterator",data:=.fields #[.ref l,.int 0 0]},g,d,e,f⟩) m i:=Heap.IsTuple.push k _;wp_walk using aa8 b,aaP L2;exact⟨_,rfl,h⟩
  ·have b:Heap.IsList (Shared.heap ⟨a,g,d,e,f⟩) l xs:=j;have L2:Heap.IsList (Shared.heap ⟨a.push {cls:=.type "list_iterator",data:=.fields #[.ref l,.int 0 0]},g,d,e,f⟩) m i:=Heap.IsList.push k _;wp_walk using aa8 b,aa8 L2;exact⟨_,rfl,h⟩
theorem tQ(b:Bool)(a:Addr):(LX b a).isFreed=false:=by cases b<;>rfl
theorem BD{b:Bool}{h:Heap}{j a:Addr}(e:h.get? j=some (LX b a)):qg b h j a 0:=by
 cases b
 ·exact⟨_,e,rfl,rfl⟩
 ·calc⟨_,e,rfl,rfl⟩
theorem Ie{prog:Program}{w:World}{A:Around}{E:Value->Shared->Prop}{s:Shared}{b c:Bool}{l m:Addr}{xs f:Array Value}{Q:Value->Shared->Prop}(h:BC b s.heap l xs)(i:BC c s.heap m f)
  (q:∀g,IsZip g (s.heap.objs.size + 4) (s.heap.objs.size + 2) (s.heap.objs.size + 3) .none->IsPair g (s.heap.objs.size + 2) (.ref s.heap.objs.size) (.ref (s.heap.objs.size + 1))->
   IsPair g (s.heap.objs.size+3) .none .none->qg b g s.heap.objs.size l 0->qg c g (s.heap.objs.size+1) m 0->g.objs.size=s.heap.objs.size+5->
   (∀d o,s.heap.get? d=some o->g.get? d=some o)->Q (.ref (s.heap.objs.size + 4)) {s with heap:=g}):
  wpAny (model prog w) A (call (.type "zip") [.ref l,.ref m]) Q E s:=by
 calc callType_new F.called_zip ∅ (F.typeCall_zip_2 _ _) (F.newCall_zip_2 _ _) (λa=>F.args_object_init_3 a _ _) F.entry_zip_new (Fg b c l m xs f) ⟨h,i,?_⟩;have e:(zz1 s.heap b l).objs.size=s.heap.objs.size+1:=aaz ..;have a:(zz2 s.heap b c l m).objs.size=s.heap.objs.size+2:=by rw[aaz,e]
 have f:(zz3 s.heap b c l m).objs.size=s.heap.objs.size+3:=by rw[aaz,a]
 have g:(zz4 s.heap b c l m).objs.size=s.heap.objs.size+4:=by rw[aaz,f]
 have n:(RO s.heap b c l m).objs.size=s.heap.objs.size+5:=by rw[aaz,g]
 have h:(RO s.heap b c l m).get? (zz4 s.heap b c l m).objs.size=some _:=Y' _ rfl;have i:(RO s.heap b c l m).get? (zz3 s.heap b c l m).objs.size=some _:=K' _ (Y' _ rfl);have j:(RO s.heap b c l m).get? (zz2 s.heap b c l m).objs.size=some _:=K' _ (K' _ (Y' _ rfl));have k:(RO s.heap b c l m).get? (zz1 s.heap b l).objs.size=some (LX c m):=K' _ (K' _ (K' _ (Y' _ (tQ ..))));have p:(RO s.heap b c l m).get? s.heap.objs.size=some (LX b l):=K' _ (K' _ (K' _ (K' _ (Y' _ (tQ ..)))));show _/\_;rw[a,f,g]at h;rw[e,a]at j;rw[f]at i;rw[e]at k;rw[g];calc⟨⟨_,h,rfl⟩,q _ h j i (BD p) (BD k) n λd o x=>K' _ (K' _ (K' _ (K' _ (K' _ x))))⟩
theorem tR(l:Addr)(e:Array Value):
  Meets (Builtin.«enumerate.__new__» ⟨[.type "enumerate",.ref l],[]⟩) (λ_ R s=>s.heap.IsTuple l e/\
   R (.ok (.ret (.ref (s.heap.push (LX false l)).objs.size))) {s with heap:=(s.heap.push (LX false l)).push {cls:=.type "enumerate",data:=.fields #[.none,.bool false,.ref s.heap.objs.size,rawInt 0,.none,.none]}}):=
 .of_wp λf w A R s h=>by
  obtain⟨i,g,d,k,m⟩:=s;obtain⟨j,h⟩:=h;have p:=sub_enumerate;have b:Heap.IsTuple (Shared.heap ⟨i,g,d,k,m⟩) l e:=j;obtain⟨n,a,q,r,o⟩:=id j
  replace a:i.get? l=some n:=a
  wp_walk using AutoSeq1.wpAny_loadPart' a;calc wpAny_stack_any λt=>P' ?_;split
  ·rename_i c _ _ _ _ _
   cases(c==Value.type "enumerate")
   ·wp_walk using AutoSeq1.wpAny_loadPart' a,aaP b;exact⟨_,rfl,h⟩
   ·wp_walk using AutoSeq1.wpAny_loadPart' a,aaP b;exact⟨_,rfl,h⟩
  ·wp_walk using AutoSeq1.wpAny_loadPart' a,aaP b;calc⟨_,rfl,h⟩
end PySem
namespace L2
open PySem PySem.Spec PyProof.Rows
section
variable {a:Addr}{xs:List V}
section
variable {X:Cx}{pins:List (Addr×Obj)}{σ:St}{H:Hp}{s:Shared}
theorem Inv.Di{t':Nat}{ch:List Addr}{h':Heap}(I:Inv X pins σ H s)(d:∀b∈ch,qa X pins H b)(k:∀b o,b∉ch->s.heap.get? b=some o->h'.get? b=some o):Inv X pins σ H {s with heap:=h',toks:=t'}:=by
 have f:∀b u,H b=some u->b∉ch:=λb u e z=>by rw[(d b z).1]at e;cases e
 refine I.step (g':=s.gens) (d':=s.drawn) (ch:=ch) (λb g=>?_) (λb o _ _ a e _=>k b o a e) (λb o _ _ a e _=>⟨o.slots,k b o a e⟩) (λ_ _ _ _ n=>n) (λb o a e=>⟨o,k b o a e⟩) (λ_ _ e=>e) (λ_ _ _ e=>e) (λb h e=>⟨#[],by rw[e];simp⟩) (λm h=>?_) (λb u e=>?_) I.bare
 ·obtain⟨n,i,p,j,l,m⟩:=d b g;exact⟨j,i,l,m⟩
 ·obtain⟨o,g,i,j,r⟩:=h;exact⟨o,g,i,k _ o (λz=>(d _ z).2.1 rfl) j,r⟩
 ·calc(I.ba b u e).aJ (λc v a q=>k c v ?_ q) (λ_ q=>q) λ_ _ q=>q;rcases a with z | z
  ·rw[z];exact f b u e
  ·calc f c _ z
theorem Inv.Dj{t':Nat}{ch:List Addr}{h':Heap}{T:Addr}{g:List Value}(I:Inv X pins σ H s)(h:∀b∈ch,qa X pins H b)(k:∀b o,b∉ch->s.heap.get? b=some o->h'.get? b=some o)
  (i:s.heap.objs.size<=T) (l:Vals xs g) (p:xs.length<=sizeLine) (q:IsTup h' T g.toArray):Inv X pins σ (upd H T (.tup xs)) {s with heap:=h',toks:=t'}:=by
 have j:∀b u,H b=some u->b∉ch:=λb u e z=>by rw[(h b z).1]at e;cases e
 have d:H T=none:=I.ba.fresh i;have m:∀b o,s.heap.get? b=some o->b≠T:=λb o e=>aal (X' (T' e) i);refine I.step (g':=s.gens) (d':=s.drawn) (ch:=ch) (λb f=>?_) (λb o _ _ a e _=>k b o a e) (λb o _ _ a e _=>⟨o.slots,k b o a e⟩) (λb o _ e n=>by rw[ay (m b o e)];calc n) (λb o a e=>⟨o,k b o a e⟩)
  (λb t e=>by rw[ay (aq e d)];calc e) (λb o u e=>by rw[ay (aq e d)];calc e) (λb i e=>⟨#[],by rw[ay (aq e d),e];simp⟩) (λm i=>?_) (λb u e=>?_) I.bare
 ·obtain⟨w,m,x,n,r,v⟩:=h b f;exact⟨n,m,r,v⟩
 ·obtain⟨o,m,n,v,r⟩:=i;exact⟨o,m,n,k _ o (λz=>(h _ z).2.1 rfl) v,r⟩
 ·by_cases f:b=T
  ·subst f;rw[ab] at e
   cases e;exact⟨p,g,l,q⟩
  ·rw[ay f] at e;refine(I.ba b u e).aJ (λc v a q=>k c v ?_ q) (λc q=>by rw[ay (aq q d)];calc q) λc t q=>by rw[ay (aq q d)];exact q
   rcases a with z|z
   ·rw[z];exact j b u e
   ·calc j c _ z
def Sq(b:Bool)(K:W.Frag)(H:Hp)(a:Addr)(xs:List V):Prop:=if b=true then aO K H a xs else bF K H a xs
theorem Sq.l{K:W.Frag}(h:H a=some (.lst xs)):Sq true K H a xs:=aO.of h
theorem Sq.t{K:W.Frag}(h:H a=some (.tup xs)):Sq false K H a xs:=bF.of h
theorem Inv.sq(I:Inv X pins σ H s){b:Bool}{a:Addr}{xs:List V}(h:Sq b X.K H a xs):∃c:List Value,Vals xs c/\BC b s.heap a c.toArray/\xs.length<=sizeLine:=by
 cases b
 ·exact I.tuple h
 ·obtain⟨c,r,p,z⟩:=I.list h;calc⟨c,r,p.isList,z⟩
theorem Inv.BE(I:Inv X pins σ H s){b:Bool}{a:Addr}{xs c:List V}(h:Sq b X.K H a xs)(h':Sq b X.K H a c):xs=c:=by
 cases b
 ·exact I.vM h h'
 ·calc I.yO h h'
theorem O9{u:HO}{b:Addr}(h:Rd H a u)(c:H b=none):a≠b:=λz=>by
 subst z;rcases h with h|⟨o,h⟩<;>(rw[c]at h;cases h)
theorem Inv.tS(I:Inv X pins σ H s){b:Bool}{a c:Addr}{xs:List V}(h:Sq b X.K H a xs)(f:qa X pins H c):a≠c:=by
 have d:∀o,X.K.lookup a=some o->a≠c:=λo e z=>by
  subst z;have i:=I.ok.mod.Ux a o e;rcases f.2.2.2.1 with y|y
  ·exact I.ok.A0 a o i y
  ·exact absurd (X' (X' (T' i) I.ok.GL) y) (aaM _)
 cases b
 ·rcases h with h | ⟨o,j,n,g,_⟩
  ·exact O9 h f.1
  ·exact d o g
 ·rcases h with h | ⟨o,j,n,g,_⟩
  ·exact O9 h f.1
  ·calc d o g
end
end
section
def Ig(b:Bool)(K:W.Frag)(a:Addr):It:=
 ⟨λi H=>∃xs x,Sq b K H a xs/\xs[i]?=some x,λi H y c=>∃T,H T=none/\y=.ref T/\∀xs,Sq b K H a xs->∃x,xs[i]?=some x/\c=upd H T (.tup [.int i,x]),λi H=>∃xs,Sq b K H a xs/\xs.length=i⟩
def UK(b c:Bool)(K:W.Frag)(a d:Addr):It:=
  ⟨λi H=>∃xs e x y,Sq b K H a xs/\Sq c K H d e/\xs[i]?=some x/\e[i]?=some y,λi H v f=>∃T,H T=none/\v=.ref T/\∀xs e,Sq b K H a xs->Sq c K H d e->∃x y,xs[i]?=some x/\e[i]?=some y/\f=upd H T (.tup [x,y]),
   λi H=>∃xs e,Sq b K H a xs/\Sq c K H d e/\(i=xs.length\/(i < xs.length/\i=e.length))⟩
theorem za{a b:V}:([a,b]:List V).length<=sizeLine:=by show 2<=sizeLine;decide
theorem xE{a:List Value}{i:Nat}{u:Value}(h:a[i]?=some u):i<a.toArray.size:=by
 have:=(List.getElem?_eq_some_iff.mp h).1;simpa using this
theorem Fh{P:Program}{w:World}{K:W.Frag}{es:List Expr}{k:Nat}{u:Pos}(b:Bool)(e j a:Addr)(n:e≠j):
  Turn P w K (.Tuple es k u) (Ig b K a) [e,j] e (λi h=>(∃d,IsEnum h e j i d)/\qg b h j a i) where
 mem:=by simp
 obj:=λi h l c C=>by
  obtain⟨⟨d,g⟩,m⟩:=l;simp only[List.mem_cons,List.not_mem_nil,or_false]at C;rcases C with rfl|rfl
  ·exact⟨_,g,λv z=>by
    have z':Data.fields _=Data.cell v:=z
    cases z'⟩
  ·exact m.obj
 keep:=λi h h' l k=>by
  obtain⟨⟨d,g⟩,m⟩:=l;exact⟨⟨d,k e nofun _ g⟩,m.at λo q=>k j nofun o q⟩
 item:=by
  intro X M N O C i F s σ H E I r l R;subst M N O;obtain⟨⟨d,g⟩,m⟩:=l;obtain⟨xs,x,t,S⟩:=R;obtain⟨G,T,p,hz⟩:=I.sq t;obtain⟨u,v,ru⟩:=T.get S;have k:a≠e:=I.tS t (r e nofun);have B:a≠j:=I.tS t (r j nofun);have D:=Draws.sq (prog:=X.prog) (w:=X.w) (A:=X.A.in1) (show X.A.in1.handled=none from I.ok.hd C) b j a B G.toArray;calc wpAny_pyNext_enum_itemD D g ⟨m,p⟩ (xE v) n (by simp[n,Ne.symm k]) λy P Z K ho s1 hT sz U=>?_;have ey:y=u:=by
   have:G.toArray[i]?=some u:=by simpa using v
   exact Option.some.inj (K.symm.trans this)
  subst ey;calc⟨_,rfl,wpAny_letOwnedTupleGo_enum ho λv k u=>?_⟩;have K:∀c o,c ∉ [e,j]->s.heap.get? c=some o->v.get? c=some o:=λc o J q=>(u.2 c λz=>J (by simp[z])).trans (U c o (λz=>J (by simp[z])) (λz=>J (by simp[z])) q);have L:s.heap.objs.size≠e:=aaA (T' g);have e:IsTup v s.heap.objs.size ([.int i Z,y]:List Value).toArray:=⟨_,(u.2 _ L).trans hT,rfl,_,rfl⟩
  have v:H s.heap.objs.size=none:=I.ba.fresh (F' _);refine⟨.ref s.heap.objs.size,upd H s.heap.objs.size (.tup [.int i,x]),I.Dj r K (F' _) (.cons ⟨Z,rfl⟩ (.cons ru .nil)) za e,rfl,⟨_,v,rfl,λys P=>⟨x,by rw[I.BE P t];calc S,rfl⟩⟩,⟨⟨y,?_⟩,?_⟩,λc Y=>?_⟩
  ·simpa using k
  ·exact s1.1.at λo q=>(u.2 j (Ne.symm n)).trans q
  ·have lP:c≠s.heap.objs.size:=by
    simp only[List.mem_cons,List.not_mem_nil,or_false]at Y;rcases Y with rfl|rfl
    ·exact Ne.symm L
    ·obtain⟨o,e,_⟩:=m.obj;exact aal (T' e)
   rw[ay lP];exact(r c Y).1
 done:=by
  intro X M N O C i F s σ H E I r l R;subst M N O;obtain⟨⟨d,g⟩,m⟩:=l;obtain⟨xs,t,S⟩:=R;obtain⟨G,T,p,hz⟩:=I.sq t;have B:a≠j:=I.tS t (r j nofun);have D:=Draws.sq (prog:=X.prog) (w:=X.w) (A:=X.A.in1) (show X.A.in1.handled=none from I.ok.hd C) b j a B G.toArray;have e:G.toArray.size=i:=by have:=T.length;simp;lia
  refine wpAny_pyNext_enum_endD D g (by rw[e];calc⟨m,p⟩) λh' U=>⟨rfl,I.Di (t':=s.toks) r λc o J q=>U c o (λz=>J (by simp[z])) q⟩
 self:=λ_ _ _ _ _ l h=>by
  obtain⟨⟨d,g⟩,m⟩:=l;calc wpAny_pyIter_enum g h
theorem Fi{prog:Program}{w:World}{A:Around}{E:Value->Shared->Prop}{s:Shared}{b:Bool}{l:Addr}{d:Array Value}{Q:Value->Shared->Prop}(e:BC b s.heap l d)
  (q:∀g,IsEnum g (s.heap.objs.size+1) s.heap.objs.size 0 .none->qg b g s.heap.objs.size l 0->g.objs.size=s.heap.objs.size+2->(∀c o,s.heap.get? c=some o->g.get? c=some o)->Q (.ref (s.heap.objs.size+1)) {s with heap:=g}):
  wpAny (model prog w) A (call (.type "enumerate") [.ref l]) Q E s:=by
 cases b
 ·refine callType_new F.called_enumerate ∅ (F.typeCall_enumerate_1 _) (F.newCall_enumerate_1 _) (λa=>F.args_object_init_2 a _) F.entry_enumerate_new (tR l d) ⟨e,?_⟩;have b:(s.heap.push (LX false l)).objs.size=s.heap.objs.size+1:=aaz ..;show _/\_;rw[b];have a:=Y' (s.heap.push (LX false l)) (o:={cls:=.type "enumerate",data:=.fields #[.none,.bool false,.ref s.heap.objs.size,rawInt 0,.none,.none]}) rfl;rw[b]at a;refine⟨⟨_,a,rfl⟩,q _ a (BD (K' _ (Y' _ (tQ ..)))) (by rw[aaz,b]) λc o x=>K' _ (K' _ x)⟩
 ·calc call_enumerate_list e q
theorem m5{z a b c d:Addr}:z ∈ [z,a,b,c,d]/\a ∈ [z,a,b,c,d]/\b ∈ [z,a,b,c,d]/\c ∈ [z,a,b,c,d]/\d ∈ [z,a,b,c,d]:=⟨.head _,.tail _ (.head _),.tail _ (.tail _ (.head _)),.tail _ (.tail _ (.tail _ (.head _))),.tail _ (.tail _ (.tail _ (.tail _ (.head _))))⟩
theorem in5{z a b c d e:Addr}{P:Addr->Prop}(he:e ∈ [z,a,b,c,d])(f:P z)(g:P a)(h:P b)(i:P c)(j:P d):P e:=by
 simp only[List.mem_cons,List.not_mem_nil,or_false]at he;rcases he with rfl|rfl|rfl|rfl|rfl<;>assumption
theorem no5{z a b c d e:Addr}(he:e ∉ [z,a,b,c,d]):e≠z/\e≠a/\e≠b/\e≠c/\e≠d:=by
 simpa only[List.mem_cons,List.not_mem_nil,or_false,not_or] using he
theorem nd5{z a b c d:Addr}(N:[z,a,b,c,d].Nodup):(z≠a/\z≠b/\z≠c/\z≠d)/\(a≠b/\a≠c/\a≠d)/\(b≠c/\b≠d)/\c≠d:=by
 simpa only[List.nodup_cons,List.mem_cons,List.not_mem_nil,or_false,not_or,List.nodup_nil,not_false_eq_true,and_true] using N
theorem Gv{x i a:Addr}(b:x≠i)(c:x≠a):x ∉ [i,a]:=by simp[b,c]
theorem Ih{l:List Value}{i:Nat}{u x:Value}(h:l[i]?=some u)(g:l.toArray[i]?=some x):x=u:=by
 have:l.toArray[i]?=some u:=by simpa using h
 calc Option.some.inj (g.symm.trans this)
theorem Ii{P:Program}{w:World}{K:W.Frag}{es:List Expr}{kt:Nat}{tp:Pos}(b c:Bool)(z r m g j a d:Addr)(N:[z,r,m,g,j].Nodup):
  Turn P w K (.Tuple es kt tp) (UK b c K a d) [z,r,m,g,j] z (λi h=>IsZip h z r m .none/\IsPair h r (.ref g) (.ref j)/\(∃u v,IsPair h m u v)/\qg b h g a i/\qg c h j d i) where
 mem:=m5.1
 obj:=λi h t e l=>by
  obtain⟨G,B,⟨u,v,J⟩,L,M⟩:=t;refine in5 (P:=λe=>∃o,h.get? e=some o/\∀v,o.data≠.cell v) l ⟨_,G,λv z=>?_⟩ ⟨_,B,λv z=>?_⟩ ⟨_,J,λv z=>?_⟩ L.obj M.obj
  ·have k:Data.fields _=Data.cell v:=z
   cases k
  ·have k:Data.seq _ _=Data.cell v:=z
   cases k
  ·have k:Data.seq _ _=Data.cell v:=z
   cases k
 keep:=λi h h' t k=>by
  obtain⟨G,B,⟨u,v,J⟩,L,M⟩:=t;exact⟨k z m5.1 _ G,k r m5.2.1 _ B,⟨u,v,k m m5.2.2.1 _ J⟩,L.at λo q=>k g m5.2.2.2.1 o q,M.at λo q=>k j m5.2.2.2.2 o q⟩
 item:=by
  intro X hP hw hK hc i pins s σ H E I O t hg;subst hP hw hK;obtain⟨G,B,⟨u0,v0,J⟩,L,M⟩:=t;obtain⟨xs,ys,x,y,T,hr,hx,hy⟩:=hg;obtain⟨aQ,rv,p,hz⟩:=I.sq T;obtain⟨R,rt,pt,hzt⟩:=I.sq hr;obtain⟨u,k,ru⟩:=rv.get hx;obtain⟨v,n,rv'⟩:=rt.get hy;have C:∀e ∈ [z,r,m,g,j],e≠a:=λe l=>Ne.symm (I.tS T (O e l));have F:∀e ∈ [z,r,m,g,j],e≠d:=λe l=>Ne.symm (I.tS hr (O e l));obtain⟨⟨n1,n2,U,Y⟩,⟨n5,n6,n7⟩,⟨n8,n9⟩,S⟩:=nd5 N;have hh:X.A.in1.handled=none:=I.ok.hd hc;have D1:=Draws.sq (prog:=X.prog) (w:=X.w) (A:=X.A.in1) hh b g a (Ne.symm (C g m5.2.2.2.1)) aQ.toArray;have D2:=Draws.sq (prog:=X.prog) (w:=X.w) (A:=X.A.in1) hh c j d (Ne.symm (F j m5.2.2.2.2)) R.toArray;have Z:ZA z r m g j [g,a] [j,d]:=⟨Ne.symm n1,Ne.symm n2,Ne.symm U,Ne.symm Y,n5,n6,n7,n8,n9,S,Gv U (C z m5.1),Gv n8 (C m m5.2.2.1),Gv (Ne.symm S) (C j m5.2.2.2.2),Gv Y (F z m5.1),Gv n9 (F m m5.2.2.1),Gv S (F g m5.2.2.2.1)⟩
  calc vh Z D1 D2 G B J ⟨L,p⟩ ⟨M,pt⟩ (xE k) (xE n) λx' y' h1 tk K py sL acv s1 s2 hT sz kk=>?_;have ex:x'=u:=Ih k K;have ey:y'=v:=Ih n py;subst ex ey;calc⟨_,rfl,wpAny_letOwnedTupleGo_zip sL λu v k=>?_⟩;have K:∀e o,e ∉ [z,r,m,g,j]->s.heap.get? e=some o->u.get? e=some o:=λe o l q=>
   have n:=no5 l;(k.2 e n.1).trans (kk e o n.1 n.2.2.1 n.2.2.2.1 n.2.2.2.2 q)
  have n:s.heap.objs.size≠z:=aaA (T' G);have M9:IsTup u s.heap.objs.size ([x',y']:List Value).toArray:=⟨_,(k.2 _ n).trans hT,rfl,_,rfl⟩
  have u:H s.heap.objs.size=none:=I.ba.fresh (F' _);refine⟨.ref s.heap.objs.size,upd H s.heap.objs.size (.tup [x,y]),I.Dj O K (F' _) (.cons ru (.cons rv' .nil)) za M9,rfl,
   ⟨_,u,rfl,λK Pb Ij Wk=>⟨x,y,by rw[I.BE Ij T];calc hx,by rw[I.BE Wk hr];calc hy,rfl⟩⟩,⟨v,?_,⟨_,_,(k.2 m (Ne.symm n2)).trans acv⟩,s1.1.at λo q=>(k.2 g (Ne.symm U)).trans q,s2.1.at λo q=>(k.2 j (Ne.symm Y)).trans q⟩,λe l=>?_⟩
  ·exact(k.2 r (Ne.symm n1)).trans (kk r _ (Ne.symm n1) n5 n6 n7 B)
  ·have u:e≠s.heap.objs.size:=in5 (P:=λe=>e≠s.heap.objs.size) l (Ne.symm n) (aal (T' B)) (aal (T' J)) (let ⟨_,k,_⟩:=L.obj;aal (T' k)) (let ⟨_,k,_⟩:=M.obj;aal (T' k));rw[ay u];exact(O e l).1
 done:=by
  intro X hP hw hK hc i pins s σ H E I O t hg;subst hP hw hK;obtain⟨G,B,⟨u0,v0,J⟩,L,M⟩:=t;obtain⟨xs,ys,T,hr,hx⟩:=hg;obtain⟨aQ,rv,p,hz⟩:=I.sq T;obtain⟨R,rt,pt,hzt⟩:=I.sq hr;have C:∀e ∈ [z,r,m,g,j],e≠a:=λe l=>Ne.symm (I.tS T (O e l));have F:∀e ∈ [z,r,m,g,j],e≠d:=λe l=>Ne.symm (I.tS hr (O e l));obtain⟨⟨n1,n2,U,Y⟩,⟨n5,n6,n7⟩,⟨n8,n9⟩,S⟩:=nd5 N;have hh:X.A.in1.handled=none:=I.ok.hd hc;have D1:=Draws.sq (prog:=X.prog) (w:=X.w) (A:=X.A.in1) hh b g a (Ne.symm (C g m5.2.2.2.1)) aQ.toArray;have D2:=Draws.sq (prog:=X.prog) (w:=X.w) (A:=X.A.in1) hh c j d (Ne.symm (F j m5.2.2.2.2)) R.toArray;have Z:ZA z r m g j [g,a] [j,d]:=⟨Ne.symm n1,Ne.symm n2,Ne.symm U,Ne.symm Y,n5,n6,n7,n8,n9,S,Gv U (C z m5.1),Gv n8 (C m m5.2.2.1),Gv (Ne.symm S) (C j m5.2.2.2.2),Gv Y (F z m5.1),Gv n9 (F m m5.2.2.1),Gv S (F g m5.2.2.2.1)⟩
  have a:=rv.length;have a:=rt.length;exact xD Z D1 D2 G B J ⟨L,p⟩ ⟨M,pt⟩ (by simp only[List.size_toArray];lia) λh' tk kk=>⟨rfl,I.Di O λe o l q=>kk e o (λw=>l (by simp[w])) (λw=>l (by simp[w])) (λw=>l (by simp[w])) (λw=>l (by simp[w])) q⟩
 self:=λ_ _ _ _ _ t h=>wpAny_pyIter_zip t.1 h
section
variable {X:Cx}
def Ik(K:W.Frag)(a:TA):TI:=λσ H R=>a σ H λvs c=>match vs with
 | [.ref a]=>∃b xs,Sq b K c a xs/\R (Ig b K a) c
 |_=>False
def RT(K:W.Frag)(a:TA):TI:=λσ H R=>a σ H λvs e=>match vs with
 | [.ref a,.ref d]=>∃b c xs f,Sq b K e a xs/\Sq c K e d f/\R (UK b c K a d) e
 |_=>False
theorem gK{es:List Expr}{l:Nat}{m:Pos}{a:Expr}{h:TA}{p d:Pos}(n:Gl X "enumerate")(o:X.mg "enumerate"=none)(t:PA X [a] h)(u:starEach [a] X.env=[(false,eval a X.env)]:=by rfl):
  PI X (.Tuple es l m) (.Call (.Name "enumerate" p) [a] [] d) (Ik X.K h):=by
 calc⟨?_⟩;intro c s σ H R I h;calc Call_ (nU I n o boot_enumerate (PyProof.Rows.callWith_type1 (dq (t d c s σ H _ I h) λm e l=>?_) (by rw[u];rfl) rfl));obtain⟨h,i,f,g,d⟩:=l
 match h,g,d with
 | [.ref a],g,d=>
  obtain⟨b,h,v,q⟩:=d
  cases g with
  |cons r w=>
   cases w
   cases r;obtain⟨d,g,p,h⟩:=f.sq v;calc Fi p λg d h m l=>wpAny_pyIter_enum d ?_;have m:Inv X c σ i {e with heap:=g}:=f.kept (t':=e.toks) l;calc⟨_,[e.heap.objs.size+1,e.heap.objs.size],_,_,i,rfl,m,Fh b _ _ a (Nat.succ_ne_self _),⟨⟨_,d⟩,h⟩,λc j=>?_,q⟩;have k:e.heap.objs.size<=c:=by
    simp only[List.mem_cons,List.not_mem_nil,or_false]at j;rcases j with rfl|rfl
    ·exact Nat.le_succ _
    ·exact F' _
   calc f.GV k (f.ba.fresh k)
theorem xF{es:List Expr}{s:Nat}{t:Pos}{a b:Expr}{h:TA}{p g:Pos}(u:Gl X "zip")(v:X.mg "zip"=none)(w:PA X [a,b] h)(x:starEach [a,b] X.env=[(false,eval a X.env),(false,eval b X.env)]:=by rfl)(l:starEach [b] X.env=[(false,eval b X.env)]:=by rfl):
  PI X (.Tuple es s t) (.Call (.Name "zip" p) [a,b] [] g) (RT X.K h):=by
 calc⟨?_⟩;intro e s σ H R I h;calc Call_ (nU I u v boot_zip (PyProof.Rows.callWith_type1 (dq (w g e s σ H _ I h) λt f p=>?_) (by rw[x,l]) (by rw[l];rfl)));obtain⟨h,m,i,j,g⟩:=p
 match h,j,g with
 | [.ref a,.ref d],j,g=>
  obtain⟨b,c,h,l,y,z,q⟩:=g
  cases j with
  |cons r k=>
   cases k with
   |cons A k=>
    cases k
    cases r
    cases A;obtain⟨g,h,j,k⟩:=i.sq y;obtain⟨g,l,k,h⟩:=i.sq z;calc Ie j k λg h l p r s u t=>wpAny_pyIter_zip h ?_;have j:Inv X e σ m {f with heap:=g}:=i.kept (t':=f.toks) t;refine⟨_,[f.heap.objs.size+4,f.heap.objs.size+2,f.heap.objs.size+3,f.heap.objs.size,f.heap.objs.size+1],_,_,m,rfl,j,Ii b c _ _ _ _ _ a d ?_,⟨h,l,⟨_,_,p⟩,r,s⟩,λe n=>?_,q⟩
    ·simp
    ·have o:f.heap.objs.size<=e:=by
      simp only[List.mem_cons,List.not_mem_nil,or_false]at n;rcases n with rfl|rfl|rfl|rfl|rfl
      ·exact aa2 _ _
      ·exact aa2 _ _
      ·exact aa2 _ _
      ·exact F' _
      ·exact aa2 _ _
     calc i.GV o (i.ba.fresh o)
end
end
end L2
namespace HT
open PySem PyProof.Rows
section
variable {prog:Program}{w:World}{A:Around}{E:Value->Shared->Prop}{s:Shared}
theorem pC{t d:Addr}{a:Array Value}{e f:Value}{lo c:Option Int}{Q:Value->Shared->Prop}(b:IsTup s.heap t a)(g:s.heap.IsSliceOf d e f .none)(pl:IsPart e lo)(i:IsPart f c)
  (f:eF a.size 0 lo=0/\eF a.size a.size c=a.size) (h:Q (.ref t) s):wpAny (model prog w) A (getItem (.ref t) (.ref d)) Q E s:=by
 obtain⟨j,k,l,e⟩:=id g;have e:s.TypeIs (.ref d) "slice":=⟨j,k,l⟩
 unfold getItem
 try with_reducible refine aaS ?_
 first|calc E' (P' ?_)|skip
 refine E' (wpAny_sequenceKey b.typeIs ∅ (E' (aaV (name:=Str.ofString "__getitem__") b.typeIs aa5
  (aa0 aa5 b.typeIs entry_tuple_getitem ?_ (args_tuple_getitem _ _)))))
 calc E' (m:=Builtin.Tuple.tupleItemsOf (.ref t)) (tupleItemsOf_ b (E' (wpAny_typeOf e ?_)));rw[if_pos ∅];calc E' (j3 g pl i ?_);have d:(((eF a.size 0 lo:Nat):Int)==0&&(1:Int)==1&&(eF a.size a.size c-eF a.size 0 lo)==a.size)=true:=by
  rw[f.1,f.2];simp
 show wpAny _ _ (if (((eF a.size 0 lo:Nat):Int)==0&&(1:Int)==1&&(eF a.size a.size c-eF a.size 0 lo)==a.size)=true then _ else _) _ _ s;rw[if_pos d];calc E' (m:=Builtin.Tuple.tupleIsExact (.ref t)) ?_;unfold Builtin.Tuple.tupleIsExact;calc E' (wpAny_typeOf b.typeIs (P' ?_));rw[if_pos ∅];calc E' (wpAny_rule (P' ⟨_,rfl,P' h⟩))
end
end HT
namespace L2
open PySem PySem.Spec PyProof.Rows
section
variable {H:Hp}{Q:VK}{K:W.Frag}
section
variable {X:Cx}
def uSl:V->Option Int->Option Int->Hp->VK->Prop:=λx lo c H Q=>match x with
 | .ref a=>(∃xs,H a=some (.lst xs)/\∀p,H p=none->Q (.ref p) (upd H p (.lst (dS xs lo c))))\/(∃xs,H a=some (.tup xs)/\∀p b,av H b->b p=some (.tup (dS xs lo c))->Q (.ref p) b)
 |_=>False
theorem Pc{a:Addr}{lo b:Option Int}:uSl (.ref a) lo b H Q=((∃xs,H a=some (.lst xs)/\∀p,H p=none->Q (.ref p) (upd H p (.lst (dS xs lo b))))\/(∃xs,H a=some (.tup xs)/\∀p c,av H c->c p=some (.tup (dS xs lo b))->Q (.ref p) c)):=rfl
theorem WE:Wc X uSl:=by
 intro c s σ H x v t u i j w Q I l m n o h
 cases x<;>first
  |calc(show False from h).elim
  |skip
 rename_i a;rcases h with⟨b,d,q⟩|⟨b,d,q⟩
 ·exact CW c s σ H _ v t u i j w Q I l m n o ⟨a,b,rfl,aO.of d,q⟩
 ·by_cases k:HT.eF b.length 0 i=0/\HT.eF b.length b.length j=b.length
  ·cases l;obtain⟨z,r,y,C⟩:=I.tuple (bF.of d);have g:z.toArray.size=b.length:=by rw[aak];exact r.length.symm
   refine⟨"tuple",_,PyProof.Rows.slot_tuple_getitem.lookup,y.typeIs,HT.pC y m n o (by rw[g];exact k) ⟨.ref a,H,I,rfl,q a H (av.refl H) ?_⟩⟩;have e:dS b i j=b:=by
    unfold dS;rw[k.1,k.2];simp
   rw[e];exact d
  ·calc Rt c s σ H _ v t u i j w Q I l m n o ⟨a,b,rfl,bF.of d,k,λp B=>q p _ (av.new _ B) ab⟩
theorem nX{e:Expr}{b:TE}{lo c:Option Expr}{d f:TO}{a g:Pos}(he:PE X e b)(h:PO X lo d)(i:PO X c f):PE X (.Subscript e (.Slice lo c none g) a) (UB uSl b d f):=tx WE he h i
def uAd:R2:=λx y H Q=>match x,y with
 | .int i,.int j=>Q (.int (i+j)) H
 | .str i,.str j=>i.length+j.length<=sizeLine/\Q (.str (i++j)) H
 | .ref a,.ref b=>(∃xs c,H a=some (.lst xs)/\H b=some (.lst c)/\xs.length + c.length<=sizeLine/\∀p,H p=none->Q (.ref p) (upd H p (.lst (xs++c))))\/
   (∃xs c,H a=some (.tup xs)/\H b=some (.tup c)/\xs.length+c.length<=sizeLine/\∀p d,av H d->d p=some (.tup (xs++c))->Q (.ref p) d)
 |_,_=>False
theorem Il{i j:Int}:uAd (.int i) (.int j) H Q=Q (.int (i+j)) H:=rfl
theorem Im{i j:Str}:uAd (.str i) (.str j) H Q=(i.length+j.length<=sizeLine/\Q (.str (i++j)) H):=rfl
theorem Io {a b:Addr}:uAd (.ref a) (.ref b) H Q=((∃xs c,H a=some (.lst xs)/\H b=some (.lst c)/\xs.length + c.length<=sizeLine/\∀p,H p=none->Q (.ref p) (upd H p (.lst (xs++c))))\/
      (∃xs c,H a=some (.tup xs)/\H b=some (.tup c)/\xs.length + c.length<=sizeLine/\∀p d,av H d->d p=some (.tup (xs++c))->Q (.ref p) d)):=rfl
theorem cB:fQ X (binaryOp .Add) uAd:=by
 intro c s σ H x y v u Q I d e h
 cases x<;>cases y<;>first
  |calc(show False from h).elim
  |calc Q9 c s σ H _ _ v u Q I d e ⟨_,_,rfl,rfl,h⟩
  |calc Bh c s σ H _ _ v u Q I d e ⟨_,_,rfl,rfl,h.1,h.2⟩
  |skip
 rename_i a b;rcases h with⟨k,l,f,g,m,i⟩|⟨k,l,f,g,m,i⟩
 ·exact RA c s σ H _ _ v u Q I d e ⟨_,_,k,l,rfl,rfl,f,g,m,i⟩
 ·by_cases t:k=[]
  ·subst t
   cases d
   cases e;obtain⟨S,G,J,_⟩:=I.tuple (bF.of f);obtain⟨T,U,K,_⟩:=I.tuple (bF.of g)
   cases G;obtain⟨⟨L,M,w,N⟩,A,B,n,C⟩:=id J;obtain⟨⟨O,o,q,r⟩,D,E,P,j⟩:=id K;simp only at B C E j;subst B C E j;exact concat_meets ⟨_,A,rfl⟩ ⟨_,D,rfl⟩ noFill_tuple_add seq_tuple_add PySem.F.slot_tuple_add PySem.F.entry_tuple_add (PySem.F.args_tuple_add_2 _ _)
    (tuple_addW0 a b _ _ n P M o N r nofun) ⟨A,D,⟨.ref b,H,I,rfl,i b H (av.refl H) (by simpa using g)⟩⟩
  ·calc MJ c s σ H _ _ v u Q I d e ⟨_,_,k,l,rfl,rfl,bF.of f,bF.of g,t,m,λz=>?_,λ_ p R=>i p _ (av.new _ R) ab⟩;subst z;calc i a H (av.refl H) (by simpa using f)
def RU(K:W.Frag):List V->Hp->VK->Prop:=λxs H Q=>match xs with
 | [.ref p]=>∃bs:List Bool,aO K H p (bs.map V.bl)/\Q (.bl (bs.all id)) H
 |_=>False
theorem Ip{p:Addr}:RU K [.ref p] H Q=∃bs:List Bool,aO K H p (bs.map V.bl)/\Q (.bl (bs.all id)) H:=rfl
theorem Dk:∀{bs:List Bool}{us:List Value},Vals (bs.map V.bl) us->us=bs.map Value.bool
 | [],_,.nil=>rfl
 |b::bs,_,.cons r t=>by
  cases r;rw[Dk t];rfl
theorem all_range:∀(bs:List Bool),((List.range bs.length).all λi=>bs.getD i false)=bs.all id:=by
 intro bs;induction bs with
 |nil=>rfl
 |cons b r a=>
  rw[aaL,List.range_succ_eq_map,List.all_cons,List.all_map,List.all_cons];have:((λi=>(b::r).getD i false) ∘ Nat.succ)=λi=>r.getD i false:=by funext i;simp
  rw[this,a];rfl
theorem Iq{prog:Program}{w:World}{A:Around}{bs:List Bool}:TruthOf prog w A (λi v=>(bs.map Value.bool).toArray[i]?=some v) (λi=>bs.getD i false):=by
 intro i v s Q E e c;have a:(bs.map Value.bool)[i]?=some v:=by simpa using e
 rw[A']at a
 cases d:bs[i]? with
 |none=>rw[d]at a;cases a
 |some b=>
  rw[d]at a
  cases a;have:bs.getD i false=b:=by rw[L',d];rfl
  replace c:Q (bs.getD i false) s:=c
  rw[this]at c;calc aaW c
theorem dI(d:X.calm=true):fe X (.builtin "all") (RU X.K):=by
 intro c s σ H f k Q I r h
 match f,r,h with
 | [.ref p],r,h=>
  obtain⟨a,g,q⟩:=h;obtain⟨u,rfl,i⟩:=Vals.one r
  cases i;obtain⟨c,j,b,f⟩:=I.list g;have e:=Dk j;subst e;refine call_all_walk (aa8 b.isList ⟨s.heap.objs.size,_,_,_,_,_,λi=>a.getD i false,rfl,Walks.list (show X.A.in1.handled=none from I.ok.hd d) _ p ?_ (a.map Value.bool).toArray,⟨⟨_,Y' _ rfl,rfl,rfl⟩,b.isList.push _⟩,Iq,λf g c=>?_⟩)
  ·obtain⟨o,e,_⟩:=b.isList;exact aal (T' e)
  ·have:(a.map Value.bool).toArray.size=a.length:=by simp
   rw[this,all_range];calc⟨.bl _,H,I.kept λb o e=>c b o (by simp[Nat.ne_of_lt (Heap.lt_size e)]) (K' _ e),rfl,q⟩
def zb:List V->Option (List Value)
 | []=>some []
 | .ty n::r=>(zb r).map (.type n::·)
 |_=>none
theorem zc:∀{xs:List V}{us a:List Value},Vals xs us->zb xs=some a->us=a
  | [],_,_,.nil,h=>by cases h;rfl
  |x::xs,_,a,.cons r t,h=>by
    cases x<;>first
      |cases h
      | (rename_i n
         unfold zb at h;obtain⟨b,c,d⟩:=Option.map_eq_some_iff.mp h
         cases r;rw[<-d,zc t c])
def Na(K:W.Frag):List V->Hp->VK->Prop:=λxs H Q=>match xs with
 | [x,.ty n]=>∃t b,gT K H x t/\W.kitOne K t (.type n)=some b/\Q (.bl b) H
 | [x,.ref p]=>∃t b a c,gT K H x t/\H p=some (.tup a)/\zb a=some c/\W.kitAny K t c=some b/\Q (.bl b) H
 |_=>False
theorem Ir{x:V}{n:String}:Na K [x,.ty n] H Q=∃t b,gT K H x t/\W.kitOne K t (.type n)=some b/\Q (.bl b) H:=rfl
theorem Iu{x:V}{p:Addr}:Na K [x,.ref p] H Q=∃t b a c,gT K H x t/\H p=some (.tup a)/\zb a=some c/\W.kitAny K t c=some b/\Q (.bl b) H:=rfl
theorem BG{x:V}{u t:Value}{pins:List (Addr×Obj)}{σ:St}{H:Hp}{s:Shared}{A:Around}{E:Value->Shared->Prop}{Q:Value->Shared->Prop}{b:Bool}{r:Addr}{v:List Value}(I:Inv X pins σ H s)(c:RelV x u)(C:gT X.K H x t)
  (F:IsTup s.heap r v.toArray) (e:W.kitAny X.K t v=some b) (h:∀x,Q (.bool b) {s with toks:=x}):wpAny (model X.prog X.w) A (call (.builtin "isinstance") [u,.ref r]) Q E s:=by
 obtain⟨⟨r,v,b,x⟩,d,B,n,hd⟩:=id F;simp only at B hd;subst B hd
 cases C with
 |bL=>cases(show u=Value.none from c);calc W.kia_tup W.kitx_none I.kX aaF d e (λz=>nomatch z) h
 |bl y=>cases(show u=Value.bool y from c);calc W.kia_tup W.kitx_bool I.kX aaF d e (λz=>nomatch z) h
 |int i=>obtain⟨t,q⟩:=(show ∃t,u=Value.int i t from c);cases q;calc W.kia_tup W.kitx_int I.kX aaF d e (λz=>nomatch z) h
 |str y=>obtain⟨t,q⟩:=(show ∃t,u=Value.str y t from c);cases q;calc W.kia_tup W.kitx_str I.kX aaF d e (λz=>nomatch z) h
 |OL y=>obtain⟨t,q⟩:=(show ∃t,u=Value.float y t from c);cases q;calc W.kia_tup W.kitx_float I.kX aaF d e (λz=>nomatch z) h
 | @lst a j f=>
  cases(show u=Value.ref a from c);obtain⟨_,_,n,_,g⟩:=(show cE X.prog X.w H s.heap a (.lst j) from I.ba a _ f)
  calc W.kia_tup W.kitx_list I.kX ⟨_,g,rfl⟩ d e (λz=>nomatch z) h
 | @AI a G j f=>
  cases(show u=Value.ref a from c);obtain⟨_,_,_,n,_,g⟩:=(show cE X.prog X.w H s.heap a (.AI G (.lst j)) from I.ba a _ f)
  calc W.kia_tup W.kitx_list I.kX ⟨_,g,rfl⟩ d e (λz=>nomatch z) h
 | @tup a j f=>
  cases(show u=Value.ref a from c);obtain⟨_,_,_,p⟩:=(show cE X.prog X.w H s.heap a (.tup j) from I.ba a _ f)
  obtain⟨o,g,k,_⟩:=p;calc W.kia_tup W.kitx_tuple I.kX ⟨o,g,k⟩ d e (λz=>nomatch z) h
 | @dK a l f=>
  cases(show u=Value.ref a from c);obtain⟨_,_,b,_,p⟩:=(show cE X.prog X.w H s.heap a (.dK l) from I.ba a _ f)
  obtain⟨o,J,L,g,k,_⟩:=p;calc W.kia_tup W.kitx_dict I.kX ⟨o,g,k.1⟩ d e (λz=>nomatch z) h
 | @dT a l f=>
  cases(show u=Value.ref a from c);obtain⟨_,_,j,_,o,J,L,g,k,_⟩:=(show cE X.prog X.w H s.heap a (.dT l) from I.ba a _ f)
  calc W.kia_tup W.kitx_dict I.kX ⟨o,g,k.1⟩ d e (λz=>nomatch z) h
 | @ins a C b g f D M N m P=>
  cases(show u=Value.ref a from c);obtain⟨b,O,_⟩:=pf I.ba f;obtain⟨a,J,_⟩:=O.look;calc W.kia_tup (W.kitx_own (D.get _) D.hd M N m P) I.kX J d e (λz=>nomatch z) h
theorem cS:fe X (.builtin "isinstance") (Na X.K):=by
 intro f s σ H g n Q I r h
 match g,r,h with
 | [x,.ty n],r,h=>
  obtain⟨t,b,ty,e,q⟩:=h;obtain⟨u,i,rfl,a,c⟩:=vals2 r
  cases c;calc vP I a ty e λj=>⟨.bl b,H,I.tok _,rfl,q⟩
 | [x,.ref p],r,h=>
  obtain⟨t,b,f,g,ty,k,d,e,q⟩:=h;obtain⟨u,i,rfl,a,c⟩:=vals2 r
  cases c;obtain⟨f,l,m,g⟩:=I.tuple (bF.of k);have o:=zc l d;subst o;calc BG I a ty m e λj=>⟨.bl b,H,I.tok _,rfl,q⟩
end
end
section
variable {a:Addr}{D:List (Str×V)}
section
variable {X:Cx}
def WG:V->List V->Hp->VK->Prop:=λx vs H Q=>match x,vs with
 | .ref l,[y]=>∃xs,H l=some (.lst xs)/\xs.length<sizeLine/\Q .bL (upd H l (.lst (xs++[y])))
 |_,_=>False
theorem Iw{l:Addr}{y:V}{H:Hp}{Q:VK}:WG (.ref l) [y] H Q=∃xs,H l=some (.lst xs)/\xs.length<sizeLine/\Q .bL (upd H l (.lst (xs++[y]))):=rfl
theorem bW:Wf X "list.append" WG:=by
 intro a s σ H x c v d Q I e b h
 match x,c,b,h with
 | .ref l,[y],b,⟨c,f,g,h⟩=>calc vX a s σ H _ _ v d Q I e b ⟨l,c,y,rfl,rfl,f,g,h⟩
def WH:V->List V->Hp->VK->Prop:=λx vs H Q=>match x,vs with
 | .ref l,[.ref b]=>∃xs a,H l=some (.lst xs)/\H b=some (.lst a)/\xs.length+a.length<=sizeLine/\Q .bL (upd H l (.lst (xs++a)))
 |_,_=>False
theorem Iy{l b:Addr}{H:Hp}{Q:VK}:WH (.ref l) [.ref b] H Q=∃xs a,H l=some (.lst xs)/\H b=some (.lst a)/\xs.length+a.length<=sizeLine/\Q .bL (upd H l (.lst (xs++a))):=rfl
theorem Nb:Wf X "list.extend" WH:=by
 intro a s σ H x b v d Q I e c h
 match x,b,c,h with
 | .ref l,[.ref b],c,⟨f,g,h,i,j,k⟩=>calc E2 a s σ H _ _ v d Q I e c ⟨l,b,f,g,rfl,rfl,h,i,j,k⟩
def Iz(a b:TE):TS:=λD σ H=>a σ H λx c=>b σ c λy a=>∃l i xs k,x=.ref l/\y=.int i/\a l=some (.lst xs)/\-(2^63)<=i/\i<2^63/\seqIndex? i xs.length=some k/\D.nx σ (upd a l (.lst (xs.eraseIdx k)))
theorem Nc{o i:Expr}{b c:TE}{d a:Pos}(e:PE X o b)(f:PE X i c):PS X (.Delete [.Subscript o i d] a) (Iz b c):=by
 walk_at "xd";refine wpAny_Delete (wpAny_deleteEach_cons (wpAny_delete_Subscript (dq (e pins s σ H _ I h) λu a ⟨x,b,c,g,d⟩=>dq (f pins a σ b _ c d) λe k j=>?_)));obtain⟨y,a,m,n,l,i,b,k,p,q,r,v,w,z,A⟩:=j;subst p q;obtain rfl:u=Value.ref l:=g;obtain⟨t,rfl⟩:=n;exact Ho m r v w z λb a=>wpAny_deleteEach_nil ⟨σ,_,a,A⟩
structure CD(K:W.Frag)(a:Addr)(D:List (Str×V)):Prop where
 ex:∃o es ep,K.lookup a=some o/\o.ExactDict/\o.data=.dict es ep/\KTD.Rows RelV es.toList D
 ne:(a==sysModules)=false
theorem RV{prog:Program}{w:World}{A:Around}{E:Value->Shared->Prop}{s:Shared}{o:Obj}{es:Array DictEntry}{ep:Nat}{k:Str}{c:Tok}{Q:Option Value->Shared->Prop}(h:s.heap.get? a=some o)(j:o.data=.dict es ep)(f:KTD.Rows RelV es.toList D)
  (i:∀d v,KTD.datumAt k D=some d->RelV d v->Q (some v) {s with toks:=s.toks+1}) (m:KTD.datumAt k D=none->Q none {s with toks:=s.toks+1}):wpAny (model prog w) A (dictGet a (.str k c)) Q E s:=by
 unfold dictGet
 try with_reducible refine aaS ?_
 calc E' (wpAny_pyHash_str (E' (KTD.kt_dictFind_strs (s:={s with toks:=s.toks+1}) h j (by obtain⟨l⟩:=es;simpa using f.exact) ?_)));have b:Q (findBy (λk v=>v.isStr k) es k) {s with toks:=s.toks+1}:=by
  have c:findBy (λk v=>v.isStr k) es k=(es.toList.find? λe=>e.key.isStr k).map (·.val):=by
   obtain⟨l⟩:=es;simp[findBy]
  rw[c]
  cases c:KTD.datumAt k D with
  |some d=>
   obtain⟨v,l,g⟩:=f.find_some c;rw[l];calc i d v c g
  |none=>rw[f.find_none c];exact m c
 rw[findBy_of_findIdx?]at b
 cases c:es.findIdx? λe=>e.key.isStr k with
 |none=>rw[c]at b;calc P' b
 |some i=>rw[c]at b;calc E' (wpAny_dictEntries (s:={s with toks:=s.toks+1}) h j (P' b))
theorem BH{prog:Program}{w:World}{o:Obj}{es:Array DictEntry}{ep:Nat}{k:Str}{b:Tok}(c:o.data=.dict es ep)(e:KTD.Rows RelV es.toList D)(f:(a==sysModules)=false):
  MeetsIn prog w (Builtin.«dict.get» ⟨[.ref a,.str k b],[]⟩) (λ_ R s=>s.heap.get? a=some o/\(∀d v,KTD.datumAt k D=some d->RelV d v->R (.ok (.ret v)) {s with toks:=s.toks+1})/\(KTD.datumAt k D=none->R (.ok (.ret .none)) {s with toks:=s.toks+1})):=
 .of_wp λA R s ⟨T,g,h⟩=>by
  show wpAny _ _ (dictGet a (.str k b) >>= _) _ _ s;calc E' (RV T c e (λd v i j=>P' ⟨v,rfl,g d v i j⟩) λc=>?_);show wpAny _ _ (Builtin.Dict.missed a (.str k b) >>= _) _ _ _;calc E' (wpAny_missed_other f (P' ⟨.none,rfl,h c⟩))
def IA(D:List (Str×V))(t:TA):TE:=λσ H Q=>t σ H λxs a=>match xs with
 | [.str k]=>Q ((KTD.datumAt k D).getD .bL) a
 |_=>False
theorem Nd{n:Str}{e:Expr}{t:TA}{p b d:Pos}(C:CD X.K a D)(r:Gl X n)(v:X.mg n=some (.ref a))(w:PA X [e] t)
  (x:(n==("__debug__":Str))=false:=by decide) (y:attributeBase (.Name n p) "get" X.env (eval (.Name n p) X.env)=eval (.Name n p) X.env:=by rfl)
  (z:(b.endLine==d.line)=true:=by rfl) (l:starEach [e] X.env=[(false,eval e X.env)]:=by rfl):PE X (.Call (.Attribute (.Name n p) "get" b) [e] [] d) (IA D t):=by
 walk_at "xc";obtain⟨o,b,n,m,f,A,B⟩:=C.ex;refine wpAny_Call_method_late y (by rw[l];rfl) z rfl (sD I r v ?_ x);have q:s.heap.get? a=some o:=I.kX a o m;refine⟨"dict","dict.get",PySem.F.plainAttrs_dict,PySem.F.slot_dict_get,PySem.F.type_dict_get,⟨o,q,f.1⟩,λb e=>?_,?_⟩
 ·cases e;exact⟨o,q,f.2.1⟩
 have b:=w d pins s σ H _ I h;rw[l]at b ⊢;calc Calls.callWith_builtin rfl (Calls.evalArgs_plain (dq b λn E e=>?_));obtain⟨b,g,i,j,c⟩:=e
 match b,j,c with
 | [.str k],j,c=>
  obtain⟨u,rfl,G⟩:=Vals.one j;obtain⟨J,rfl⟩:=G;have e:E.heap.get? a=some o:=i.kX a o m
  replace c:Q ((KTD.datumAt k D).getD .bL) g:=c
  refine call_meetsIn PySem.F.slot_dict_get ⟨o,e,f.1⟩ PySem.F.entry_dict_get (PySem.F.args_dict_get_2 _ _) (BH A B C.ne) ⟨e,λd v b j=>?_,λe=>?_⟩
  ·exact⟨d,g,i.tok _,j,by have:=c;rw[b]at this;calc this⟩
  ·calc⟨.bL,g,i.tok _,rfl,by have:=c;rw[e]at this;calc this⟩
end
end
section
variable {x:Str}
section
variable {X:Cx}
theorem fW{n:Int}{a:Pos}(b:∃t,X.mg x=some (.int n t))(c:Gl X x)(d:(x==("__debug__":Str))=false:=by decide):PE X (.Name x a) (tC (.int n)):=by
 obtain⟨t,b⟩:=b;calc CH c b ⟨t,rfl⟩ d
end
structure cn(P:Program)(w:World)(K:W.Frag)(mg:Str->Option Value)(base:Heap)(C:Addr)(m:Str)(k:Nat)(ps:List Str)(sp:Sp):Prop where
 ex:∃f fd,Meth K C m f/\nC P w K mg base E8 k f fd ps sp/\Binds K fd ps []
structure ij(K:W.Frag)(C:Addr)(m qual:Str)(st:Stmt)(ps:List Str):Prop where
 ex:∃f fd,Meth K C m f/\MY K m qual st f fd/\Binds K fd ps []
structure zd(P:Program)(w:World)(K:W.Frag)(mg:Str->Option Value)(base:Heap)(x:Str)(C:Addr)(k:Nat)(ps:List Str)(sp:Sp):Prop where
 ex:∃f fd,Mk K C f/\nC P w K mg base E8 k f fd ps sp/\Binds K fd ps []
 mg:mg x=some (.ref C)
structure Fj(K:W.Frag)(mg:Str->Option Value)(x:Str)(C:Addr)(qual:Str)(st:Stmt)(ps:List Str):Prop where
 ex:∃f fd,Mk K C f/\MY K "__init__" qual st f fd/\Binds K fd ps []
 mg:mg x=some (.ref C)
section
variable {P:Program}{w:World}{K:W.Frag}{mg:Str->Option Value}{base:Heap}
theorem ij.ok{C:Addr}{m qual:Str}{a:Stmt}{N b:List Str}{k:Nat}{sp:Sp}(T:ij K C m qual a b)(S:aD N b (az a))(c:∀vs H Q E,sp vs H Q E->vs.length=b.length)
  (e:∀(f:Addr) (d:Value) (A:Around) (outer:List Env) (s:Shared) (H:Hp) (vs:List V) (Q:VK) (E:XK),ff k (A.deeper (envOfC qual (az a) s.heap.objs.size f d))->sp vs H Q E->
   ∃t,yE (tm E8 P w K mg base N qual (az a) f d A outer s H E).Mu (dj a) t/\t {nx:=λ_ a=>Q .bL a,rt:=Q} (start N vs) H):cn P w K mg base C m (k + 1) b sp:=by
 obtain⟨f,a,M,F,b⟩:=T.ex;calc⟨f,a,M,F.ok S c (e f),b⟩
theorem Fj.ok{C:Addr}{qual:Str}{a:Stmt}{N b:List Str}{k:Nat}{sp:Sp}(T:Fj K mg x C qual a b)(S:aD N b (az a))(c:∀vs H Q E,sp vs H Q E->vs.length=b.length)
  (e:∀(f:Addr) (d:Value) (A:Around) (outer:List Env) (s:Shared) (H:Hp) (vs:List V) (Q:VK) (E:XK),ff k (A.deeper (envOfC qual (az a) s.heap.objs.size f d))->sp vs H Q E->
   ∃t,yE (tm E8 P w K mg base N qual (az a) f d A outer s H E).Mu (dj a) t/\t {nx:=λ_ a=>Q .bL a,rt:=Q} (start N vs) H):zd P w K mg base x C (k + 1) b sp:=by
 obtain⟨f,a,M,F,b⟩:=T.ex;calc⟨⟨f,a,M,F.ok S c (e f),b⟩,T.mg⟩
end
section
variable {X:Cx}{o e:Expr}{es:List Expr}{to:TE}{t:TA}{apos p pos:Pos}{C:Addr}{m x:Str}{k j:Nat}{ps:List Str}{sp:Sp}
theorem eS{pl:Sem Bool}(D:cn X.prog X.w X.K X.mg X.base C m k ps sp)(c:vd X.K C)(b:ff j X.A)(d:PE X o to)(g:PA X (e::es) t)(h:k<=j:=by decide)(i:fV e=true:=by rfl)(l:es.all fV=true:=by rfl)
  (n:eval (.Call (.Attribute o m apos) (e::es) [] pos) X.env=(do
   let a <-eval o X.env
   standAt apos.atName
   let (f,first) <-holding [a] (getMethod a m pl)
   callWith pos f first (backTo pos (starEach (e::es) X.env)) (backToKw pos (keywordEach [] X.env))):=by rfl):
  PE X (.Call (.Attribute o m apos) (e::es) [] pos) (vR C m sp [] E0 to t):=by
 obtain⟨f,p,M,F,a⟩:=D.ex;calc MG d c M F (b.mono h) a .nil Dc g (fG i) (j6 l) n
theorem eU{pl:Sem Bool}(D:cn X.prog X.w X.K X.mg X.base C m k ps sp)(c:vd X.K C)(b:ff j X.A)(d:PE X o to)(e:k<=j:=by decide)
  (g:eval (.Call (.Attribute o m apos) [] [] pos) X.env=(do
   let a <-eval o X.env
   standAt apos.atName
   let (f,first) <-holding [a] (getMethod a m pl)
   callWith pos f first (backTo pos (starEach [] X.env)) (backToKw pos (keywordEach [] X.env))):=by rfl):
  PE X (.Call (.Attribute o m apos) [] [] pos) (vR C m sp [] E0 to yR):=by
 obtain⟨f,h,M,F,a⟩:=D.ex;calc He d c M F (b.mono e) a .nil Dc g
theorem IB(D:zd X.prog X.w X.K X.mg X.base x C k ps sp)(a:ff j X.A)(b:PA X (e::es) t)(c:Gl X x:=by rfl)(d:k+1<=j:=by decide)(g:(x==("__debug__":Str))=false:=by decide)
  (h:fV e=true:=by rfl) (i:es.all fV=true:=by rfl):PE X (.Call (.Name x p) (e::es) [] pos) (CP C sp [] E0 t):=by
 obtain⟨f,m,M,F,l⟩:=D.ex;calc MH M F (a.mono d) c D.mg l .nil Dc b g (fG h) (j6 i)
end
theorem pD{K:W.Frag}{b:Bool}{a:Addr}{xs:List V}{g:TG}{l:TS}{D:Ends}{σ:St}{H:Hp}(c:Nat->St->Hp->Prop)(o:c 0 σ H)(j:∀i σ H,c i σ H->Sq b K H a xs)
  (q:∀i x σ H T,xs[i]?=some x->c i σ H->H T=none->g (.ref T) σ (upd H T (.tup [.int i,x])) λd k=>l {D with nx:=c (i+1),ct:=c (i+1),bk:=D.nx} d k) (r:∀σ H,c xs.length σ H->D.nx σ H):
  ∃W:Nat->Nat->St->Hp->Prop,(∃m,W 0 m σ H)/\∀i m σ H,W i m σ H->
   ((Ig b K a).stop i H/\D.nx σ H)\/((Ig b K a).go i H/\∃N:St->Hp->Prop,(∀f h,N f h->∃n,n<m/\W (i+1) n f h)/\∀x h,(Ig b K a).OU i H x h->g x σ h λd k=>l {D with nx:=N,ct:=N,bk:=D.nx} d k):=by
 calc⟨λi m σ H=>m=xs.length-i/\i<=xs.length/\c i σ H,⟨xs.length,nofun,aaj _,o⟩,?_⟩;rintro i m σ H ⟨rfl,b,p⟩;by_cases a:i<xs.length
 ·calc .inr ⟨⟨xs,xs[i],j i σ H p,cD a⟩,c (i+1),λf h b=>⟨xs.length-(i+1),(),rfl,a,b⟩,λx h y=>?_⟩;obtain⟨T,s,rfl,y⟩:=y;obtain⟨x,t,rfl⟩:=y xs (j i σ H p);exact q i x σ H T t p s
 ·have e:i=xs.length:=by lia
  subst e;calc .inl ⟨⟨xs,j _ σ H p,rfl⟩,r σ H p⟩
theorem dW{X:Cx}{i j:Nat}{y:Str}{c d a:Pos}{k:Nat}(e:X.calm=true)(b:X.N.Nodup)(f:X.N[i]?=some x)(g:X.N[j]?=some y)(h:Loc X.env.scope x)(l:Loc X.env.scope y)
  (m:X.fn x=true\/X.env.scope.names.lookup x=some .local:=by grind) (n:X.fn y=true\/X.env.scope.names.lookup y=some .local:=by grind):
  PG X (.Tuple [.Name x c,.Name y d] k a) (Ba X.K 2 (iA (dE i) (iA (dE j) A9))):=Bb e (iB (aR b f h m) (iB (aR b g l n) w6))
end
end L2
set_option maxHeartbeats 400000
namespace L2
open PySem PySem.Spec PyProof.Rows
end L2
set_option maxHeartbeats 4000000
namespace L2
open PySem PySem.Spec PyProof.Rows
variable {a:Addr}{g:Bool->Bool}{H:Hp}{ix:List (Option Nat)}{AM:List (TE×TE)}{σ:St}{te:TE}{wi:TI}{tt:TT}{Q:VK}{K:W.Frag}
section
variable {X:Cx}{K:W.Frag}
theorem wb(a:X.K=K):fe X (.builtin "isinstance") (Na K):=a▸cS
theorem kh(a:X.K=K):fe X (.builtin "len") (M5 K):=a▸aN
theorem pE(a:X.K=K):fe X (.type "tuple") (xt K):=a▸cg
theorem gN(a:X.K=K):fe X (.type "list") (Df K):=a▸cA
theorem Nf(a:X.K=K)(b:X.A.units+64<cLine):fQ X (compareOp .Eq) (RL K):=a▸HK b
theorem Ng(a:X.K=K):fQ X (compareOp .In) (uIn K false):=a▸BA
theorem cj{a b:Expr}{d e:TE}{c:Pos}(f:X.K=K)(g:X.A.units+64<cLine)(i:PE X a d)(j:PE X b e)(h:xC b=true:=by rfl):PE X (.Subscript a b c) (AK (LW K) d e):=f▸ao g i j h
theorem Nh{e:Expr}{b:TE}{f:Str}{a:Pos}(c:X.K=K)(he:PE X e b)(d:attributeBase e f X.env (eval e X.env)=eval e X.env):PE X (.Attribute e f a) (MB K b f):=c▸bM he d
theorem fX{i j:Nat}{x y:Str}{b c a:Pos}{k:Nat}(d:X.K=K)(e:X.calm=true)(f:X.N.Nodup)(g:X.N[i]?=some x)(h:X.N[j]?=some y)(l:Loc X.env.scope x)(m:Loc X.env.scope y)
  (n:X.fn x=true\/X.env.scope.names.lookup x=some .local:=by grind) (o:X.fn y=true\/X.env.scope.names.lookup y=some .local:=by grind):
  PG X (.Tuple [.Name x b,.Name y c] k a) (Ba K 2 (iA (dE i) (iA (dE j) A9))):=d▸dW e f g h l m n o
end
inductive IC{α:Sort _}(x:α):Type
 |mk
def WJ(ix:List (Option Nat))(wi:TI)(g:TG)(tt:TT)(te:TE)(_:IC (ix,wi,g,tt,te)):TE:=Wt ix wi g tt te
theorem Dl{g:TG}:Wt ix wi g tt te=WJ ix wi g tt te .mk:=rfl
def WK(wi:TI)(g:TG)(a:TS)(_:IC (wi,g,a)):TS:=Q6 wi g a
theorem ze{g:TG}{a:TS}:Q6 wi g a=WK wi g a .mk:=rfl
def Ni(a:TT)(b:TS)(_:IC (a,b)):TS:=xa a b
theorem tU{a:TT}{b:TS}:xa a b=Ni a b .mk:=rfl
theorem bt{g:TG}(h:wi σ H λJ a=>∀D,a D=none->lM ix J g tt te σ a Q D):Wt ix wi g tt te σ H Q:=h
def ni(ix:List (Option Nat))(J:It)(g:TG)(tt:TT)(te:TE)(σ:St)(H:Hp)(Q:VK)(D:Addr)(_:IC (ix,J,g,tt,te,σ,H,Q,D)):Prop:=lM ix J g tt te σ H Q D
theorem tW{J:It}{g:TG}{D:Addr}:lM ix J g tt te σ H Q D=ni ix J g tt te σ H Q D .mk:=rfl
theorem BI:WA g (.ref a) .bL H Q=Q (.bl (g false)) H:=by
 show Q (.bl (g (decide (V.ref a=.bL)))) H=_;simp
theorem BJ:WA g .bL .bL H Q=Q (.bl (g true)) H:=by
 show Q (.bl (g (decide (V.bL=.bL)))) H=_;simp
theorem av.UL{b:Hp}(s:av H b){a:Addr}{xs:List V}(h:bF K H a xs):bF K b a xs:=by
 rcases h with(h|⟨o,h⟩)|h
 ·exact .inl (.inl (s _ _ h))
 ·exact .inl (.inr ⟨o,s _ _ h⟩)
 ·calc .inr h
theorem j7{α:Type}(x:α)(n:Nat):List.replicate n x++[x]=List.replicate (n+1) x:=by
 rw[aaT,]
theorem qh(n:Nat):List.replicate n (V.bl true)=(List.replicate n true).map V.bl:=by simp
theorem dJ{xs:List V}{i:Int}{v:V}{P:V->Prop}(h:H a=some (.tup xs))(e:ia xs i=some v)(k:P v):∃xs v,(aO K H a xs\/bF K H a xs)/\ia xs i=some v/\P v:=⟨xs,v,.inr (bF.of h),e,k⟩
theorem bC{xs:List V}{i:Int}{v:V}{P:V->Prop}(h:H a=some (.lst xs))(e:ia xs i=some v)(k:P v):∃xs v,(aO K H a xs\/bF K H a xs)/\ia xs i=some v/\P v:=⟨xs,v,.inl (aO.of h),e,k⟩
def RZ(AM:List (TE×TE))(_:IC AM):TE:=C8 AM
theorem wc:C8 AM=RZ AM .mk:=rfl
theorem Nj(h:∀p,H p=none->qf AM σ (upd H p (.dK [])) λd b=>b p=some (.dK [])/\∃a:List (Key×V),d=a.map (λc=>(kV c.1,c.2))/\a.length<=15/\Q (.ref p) (upd b p (.dK (nV [] a)))):C8 AM σ H Q:=h
end L2
set_option maxHeartbeats 400000
namespace L2
open PySem PySem.Spec PyProof.Rows
section
section
variable {X:Cx}{K:W.Frag}
end
end
section
section
variable {X:Cx}{pins:List (Addr×Obj)}{σ:St}{H:Hp}{s:Shared}{e C:Addr}{d:Option Addr}{fl:Bool}{T:Option Addr}{h':Heap}
end
section
variable {X:Cx}{pins:List (Addr×Obj)}{σ:St}{H:Hp}{s:Shared}{a C:Addr}{d:Option Addr}{fl:Bool}{T:Option Addr}{h':Heap}{E:XK}{E1:Value->Shared->Prop}
end
end
section
section
variable {X:Cx}{o e:Expr}{es:List Expr}{to:TE}{t:TA}{apos p pos:Pos}{C:Addr}{m x:Str}{k j:Nat}{ps:List Str}{sp:Sp}{E:XK}
end
end
section
end
end L2
namespace L2
open PySem PySem.Spec PyProof.Rows
end L2
set_option maxHeartbeats 4000000
namespace DD
open PySem L2
variable {H:Hp}{x:V}
inductive Kd(H:Hp):V->Value->Prop
 |bL:Kd H .bL (.type "NoneType")
 |bl (b:Bool):Kd H (.bl b) (.type "bool")
 |int (i:Int):Kd H (.int i) (.type "int")
 |str (x:Str):Kd H (.str x) (.type "str")
 |lst {a xs}:H a=some (.lst xs)->Kd H (.ref a) (.type "list")
 |tup {a xs}:H a=some (.tup xs)->Kd H (.ref a) (.type "tuple")
 |dK {a bb}:H a=some (.dK bb)->Kd H (.ref a) (.type "dict")
theorem Kd.ty{K:W.Frag}{H:Hp}{x:V}{t:Value}(h:Kd H x t):gT K H x t:=by
 cases h with
 |bL=>calc .bL
 |bl b=>calc .bl b
 |int i=>calc .int i
 |str x=>calc .str x
 |lst e=>calc .lst e
 |tup e=>calc .tup e
 |dK e=>calc .dK e
def isI:V->Bool
 | .int _=>true
 |_=>false
theorem R0{K:W.Frag}{H:Hp}{x:V}{t:Value}(h:Kd H x t):∃b c,W.kitOne K t (.type "int")=some b/\W.kitOne K t (.type "bool")=some c/\isI x=(b && !c):=by
 cases h with
 |bL=>calc⟨false,false,rfl,rfl,rfl⟩
 |bl b=>calc⟨true,true,rfl,rfl,rfl⟩
 |int i=>calc⟨true,false,rfl,rfl,rfl⟩
 |str x=>calc⟨false,false,rfl,rfl,rfl⟩
 |lst e=>calc⟨false,false,rfl,rfl,rfl⟩
 |tup e=>calc⟨false,false,rfl,rfl,rfl⟩
 |dK e=>calc⟨false,false,rfl,rfl,rfl⟩
def inR(lo a:Int):V->Bool
 | .int i=>decide (lo<=i)&&decide (i<a)
 |_=>false
theorem WL{H:Hp}{n:Nat}{x:V}{d:DV}(h:HD H n x d):∃t,Kd H x t:=by
 cases h with
 |bL=>calc⟨_,.bL⟩
 |bl b=>calc⟨_,.bl b⟩
 |int i=>calc⟨_,.int i⟩
 |str x=>calc⟨_,.str x⟩
 |tup e=>calc⟨_,.tup e⟩
 |lst e=>calc⟨_,.lst e⟩
 |dict e=>calc⟨_,.dK e⟩
def R1:DV->Bool
 | .int _=>true
 |_=>false
def WM(lo a:Int):DV->Bool
 | .int i=>decide (lo<=i)&&decide (i<a)
 |_=>false
theorem R3{n:Nat}{d:DV}(h:HD H n x d):isI x=R1 d:=by cases h<;>rfl
theorem R4{n:Nat}{d:DV}(h:HD H n x d)(lo a:Int):inR lo a x=WM lo a d:=by cases h<;>rfl
def tX:List V:=[.str "letter",.str "way",.str "first"]
def Nk(w:Str)(m:Int):List DV->Bool
 | [z]=>if w="is" then R1 z else(decide (w="number")&&WM 0 m z)
 |_=>false
def Fl(m:Int):DV->Bool
 | .tup (.str w::r)=>if Bu (.str w) tX=true then decide (r.length=0) else Nk w m r
 |_=>false
inductive Val where
 |is (c:Int)|number (i:Int)|nY|way|first
def Val.dv:Val->DV
 | .is c=>.tup [.str "is",.int c]
 | .number i=>.tup [.str "number",.int i]
 | .nY=>.tup [.str "letter"]
 | .way=>.tup [.str "way"]
 | .first=>.tup [.str "first"]
def Val.ok(m:Int):Val->Prop
 | .number i=>0<=i/\i<m
 |_=>True
theorem R5{m:Int}{v:Val}(h:v.ok m):Fl m v.dv=true:=by
 cases v with
 |is c=>calc rfl
 |number i=>
  obtain⟨a,b⟩:=h;show(if Bu (.str "number") tX=true then decide (([DV.int i]:List DV).length=0) else if ("number":Str)="is" then R1 (.int i) else(decide (("number":Str)="number")&&(decide (0<=i)&&decide (i<m))))=true;rw[if_neg ⋯,if_neg ⋯];simp[a,b]
 |nY=>calc rfl
 |way=>calc rfl
 |first=>calc rfl
def tY(ns a:List Int)(way said:Int):Val->Int
 | .is c=>c
 | .number i=>ns.getD i.toNat 0
 | .nY=>said
 | .way=>way
 | .first=>a.headD 0
abbrev zf(ns a:List Int):DV:=.tup [.tup (ns.map .int),.tup (a.map .int)]
theorem ln1{l:List V}(h:l.length=1):∃a,l=[a]:=List.length_eq_one_iff.mp h
theorem ln2{l:List V}(h:l.length=2):∃a b,l=[a,b]:=by
 cases l with
 |nil=>cases h
 |cons a r=>
  obtain⟨b,rfl⟩:=ln1 (Nat.succ.inj h);calc⟨a,b,rfl⟩
theorem ln3{l:List V}(h:l.length=3):∃a b c,l=[a,b,c]:=by
 cases l with
 |nil=>cases h
 |cons a r=>
  obtain⟨b,c,rfl⟩:=ln2 (Nat.succ.inj h);calc⟨a,b,c,rfl⟩
theorem ln4{l:List V}(h:l.length=4):∃a b c d,l=[a,b,c,d]:=by
 cases l with
 |nil=>cases h
 |cons a r=>
  obtain⟨b,c,d,rfl⟩:=ln3 (Nat.succ.inj h);calc⟨a,b,c,d,rfl⟩
theorem jk{H:Hp}{n:Nat}{x:V}{d:DV}(h:HT H n x (.tup [d])):∃a u k,x=.ref a/\H a=some (.tup [u])/\HT H k u d:=by
 cases h with
 | @tup k a b _ e l i=>
  obtain⟨u,rfl⟩:=ln1 l;calc⟨a,u,k,rfl,e,i 0 u d rfl rfl⟩
theorem dM{H:Hp}{n:Nat}{x:V}{d d':DV}(h:HT H n x (.tup [d,d'])):∃a u v k,x=.ref a/\H a=some (.tup [u,v])/\HT H k u d/\HT H k v d':=by
 cases h with
 | @tup k a b _ e l i=>
  obtain⟨u,v,rfl⟩:=ln2 l;calc⟨a,u,v,k,rfl,e,i 0 u d rfl rfl,i 1 v d' rfl rfl⟩
theorem Dm{H:Hp}{n:Nat}{x:V}{ns:List Int}(h:HT H n x (.tup (ns.map .int))):∃a,x=.ref a/\H a=some (.tup (ns.map V.int)):=by
 cases h with
 | @tup k a b _ e l i=>
  calc⟨a,rfl,?_⟩;have:b=ns.map V.int:=by
   apply List.ext_getElem?;intro j;rw[A']
   cases c:ns[j]? with
   |none=>
    have a:ns.length<=j:=List.getElem?_eq_none_iff.mp c;rw[List.getElem?_eq_none_iff.mpr (by rw[l,M'];calc a)];rfl
   |some z=>
    have a:j<ns.length:=(List.getElem?_eq_some_iff.mp c).1;have d:j<b.length:=by rw[l,M'];exact a
    have f:=i j b[j] (.int z) (cD d) (by rw[A',c];rfl);rw[cD d];generalize b[j]=y at f
    cases f;rfl
  rw[<-this];calc e
theorem pF{H:Hp}{n:Nat}{a:Addr}{ns:List Int}(e:H a=some (.tup (ns.map V.int))):HT H (n+1) (.ref a) (.tup (ns.map .int)):=by
 calc .tup e nofun λi u d b c=>?_;rw[A']at b c
 cases f:ns[i]? with
 |none=>rw[f]at b;cases b
 |some z=>rw[f]at b c;cases b;cases c;calc .int z
theorem tZ{H:Hp}{n:Nat}{a:Addr}{u:V}{d:DV}(e:H a=some (.tup [u]))(h:HT H n u d):HT H (n+1) (.ref a) (.tup [d]):=by
 refine .tup e rfl λi x y b c=>?_
 cases i with
 |zero=>simp at b c;subst b c;calc h
 |succ i=>simp at b
theorem cV{H:Hp}{n:Nat}{a:Addr}{u v:V}{d d':DV}(e:H a=some (.tup [u,v]))(h:HT H n u d)(h':HT H n v d'):HT H (n+1) (.ref a) (.tup [d,d']):=by
 refine .tup e rfl λi x y b c=>?_
 match i,b,c with
 |0,b,c=>simp at b c;subst b c;calc h
 |1,b,c=>simp at b c;subst b c;calc h'
theorem _root_.L2.HT.mono{H:Hp}{n:Nat}{x:V}{d:DV}(h:HT H n x d):∀{m:Nat},n<=m->HT H m x d:=by
 induction h with
 |bL=>intro m _;calc .bL
 |bl b=>intro m _;calc .bl b
 |int i=>intro m _;calc .int i
 |str x=>intro m _;calc .str x
 |tup a b c f=>
  intro m e;obtain⟨k,rfl⟩:∃k,m=k+1:=⟨m-1,()⟩
  calc .tup a b λi u e p q=>f i u e p q ()
theorem Nl{K:W.Frag}{H:Hp}{n:Nat}{x:V}{d:DV}(h:HT H n x d):∀{m:Nat}{y:V}{k:Nat},HT H m y d->n<k->j5 K H k x y:=by
 induction h with
 |bL=>intro m y k h c;cases h;obtain⟨j,rfl⟩:∃j,k=j+1:=⟨k-1,()⟩;calc .inl ⟨rfl,rfl⟩
 |bl b=>intro m y k h c;cases h;obtain⟨j,rfl⟩:∃j,k=j+1:=⟨k-1,()⟩;calc .inl ⟨rfl,rfl⟩
 |int i=>intro m y k h c;cases h;obtain⟨j,rfl⟩:∃j,k=j+1:=⟨k-1,()⟩;calc .inl ⟨rfl,rfl⟩
 |str i=>intro m y k h c;cases h;obtain⟨j,rfl⟩:∃j,k=j+1:=⟨k-1,()⟩;calc .inl ⟨rfl,rfl⟩
 | @tup n a o g e l i q=>
  intro m y k h c;obtain⟨j,rfl⟩:∃j,k=j+1:=⟨k-1,()⟩
  cases h with
  | @tup m b d _ i j k=>
   calc .inr ⟨a,b,o,d,rfl,rfl,.inl ⟨bF.of e,bF.of i⟩,l.trans j.symm,λp u v c m=>?_⟩;have a:p<g.length:=by rw[<-l];exact(List.getElem?_eq_some_iff.mp c).1
   calc q p u g[p] c (cD a) (k p v g[p] m (cD a)) ()
inductive bH where
 |set (i:Int) (v:Val)|add (i:Int) (v:Val)|times (i:Int) (v:Val)|put (v:Val)|drop|send (j:Int) (v:Val)|say (v:Val)|skip (v w:Val) (k:Int)
def bH.dv:bH->DV
 | .set i v=>.tup [.str "set",.int i,v.dv]
 | .add i v=>.tup [.str "add",.int i,v.dv]
 | .times i v=>.tup [.str "times",.int i,v.dv]
 | .put v=>.tup [.str "put",v.dv]
 | .drop=>.tup [.str "drop"]
 | .send j v=>.tup [.str "send",.int j,v.dv]
 | .say v=>.tup [.str "say",v.dv]
 | .skip v w k=>.tup [.str "skip",v.dv,w.dv,.int k]
def bH.ok(m:Int):bH->Prop
 | .set i v=>0<=i/\i<m/\v.ok m
 | .add i v=>0<=i/\i<m/\v.ok m
 | .times i v=>0<=i/\i<m/\v.ok m
 | .put v=>v.ok m
 | .drop=>True
 | .send j v=>0<=j/\v.ok m
 | .say v=>v.ok m
 | .skip v w k=>v.ok m/\w.ok m/\1<=k/\k<25
def bH.vals:bH->List Val
 | .set _ v=>[v]
 | .add _ v=>[v]
 | .times _ v=>[v]
 | .put v=>[v]
 | .drop=>[]
 | .send _ v=>[v]
 | .say v=>[v]
 | .skip v w _=>[v,w]
def bH.word:bH->Str
 | .set _ _=>"set"
 | .add _ _=>"add"
 | .times _ _=>"times"
 | .put _=>"put"
 | .drop=>"drop"
 | .send _ _=>"send"
 | .say _=>"say"
 | .skip _ _ _=>"skip"
def bH.vi:bH->List Str
 | .set _ _=>["number","value"]
 | .add _ _=>["number","value"]
 | .times _ _=>["number","value"]
 | .put _=>["value"]
 | .drop=>[]
 | .send _ _=>["way","value"]
 | .say _=>["value"]
 | .skip _ _ _=>["value","value","many"]
structure WS where
 ns:List Int
 row:List Int
 cT:List (Int×Int)
 words:List Int
def fY(M way said:Int)(ns a:List Int)(v:Val):Int:=tY ns a way said v%M
def j8(M:Int)(ns:List Int)(x:Int):bH->List Int
 | .set i _=>ns.set i.toNat x
 | .add i _=>ns.set i.toNat ((ns.getD i.toNat 0+x)%M)
 | .times i _=>ns.set i.toNat ((ns.getD i.toNat 0*x)%M)
 |_=>ns
def pG(a:List Int)(x:Int):bH->List Int
 | .put _=>if a.length<12 then a++[x] else a
 | .drop=>a.tail
 |_=>a
def iD(x:Int):bH->List (Int×Int)
 | .send j _=>[(j,x)]
 |_=>[]
def gn(x:Int):bH->List Int
 | .say _=>[x]
 |_=>[]
def pH(x y:Int):bH->Int
 | .skip _ _ k=>if x<y then k else 0
 |_=>0
def kZ(M way said:Int)(d:bH)(s:WS):WS:=
 let ws:=d.vals.map (fY M way said s.ns s.row)
 ⟨j8 M s.ns (ws.getD 0 0) d,pG s.row (ws.getD 0 0) d,s.cT++iD (ws.getD 0 0) d,s.words++gn (ws.getD 0 0) d⟩
def nO(M way said:Int)(d:bH)(s:WS):Int:=
 let ws:=d.vals.map (fY M way said s.ns s.row)
 pH (ws.getD 0 0) (ws.getD 1 0) d
def zg(M way said:Int):Nat->List bH->WS->WS
 |0,_,s=>s
 |_,[],s=>s
 |f+1,d::r,s=>zg M way said f (r.drop (nO M way said d s).toNat) (kZ M way said d s)
theorem Dn{M way said:Int}{f:Nat}{s:WS}:zg M way said f [] s=s:=by cases f<;>rfl
def pJ(M way said:Int)(b:List bH)(ns a:List Int):WS:=zg M way said b.length b ⟨ns,a,[],[]⟩
theorem qi{M x:Int}{ns:List Int}{d:bH}:(j8 M ns x d).length=ns.length:=by cases d<;>simp[j8]
def zh(K:W.Frag)(H:Hp)(e:V)(ns d:List Int):Prop:=∃a b c,e=.ref a/\H a=some (.tup [.ref b,.ref c])/\(aO K H b (ns.map V.int)\/bF K H b (ns.map V.int))/\(aO K H c (d.map V.int)\/bF K H c (d.map V.int))
theorem zh.of{K:W.Frag}{n:Nat}{f:V}{ns d:List Int}(h:HT H n f (zf ns d)):zh K H f ns d:=by
 obtain⟨a,u,v,k,rfl,e,g,i⟩:=dM h;obtain⟨b,rfl,j⟩:=Dm g;obtain⟨c,rfl,d⟩:=Dm i;calc⟨a,b,c,rfl,e,.inr (bF.of j),.inr (bF.of d)⟩
def ck:Stmt->List Stmt
 | .ClassDef _ _ _ a _ _ _ _ _ _ _=>a
 |_=>[]
theorem bT{H:Hp}{n:Nat}{x:V}{d d' b:DV}(h:HT H n x (.tup [d,d',b])):∃a u v w k,x=.ref a/\H a=some (.tup [u,v,w])/\HT H k u d/\HT H k v d'/\HT H k w b:=by
 cases h with
 | @tup k a c _ e l i=>
  obtain⟨u,v,w,rfl⟩:=ln3 l;calc⟨a,u,v,w,k,rfl,e,i 0 u d rfl rfl,i 1 v d' rfl rfl,i 2 w b rfl rfl⟩
theorem pK{H:Hp}{n:Nat}{x:V}{d d' b c:DV}(h:HT H n x (.tup [d,d',b,c])):∃a u v w z k,x=.ref a/\H a=some (.tup [u,v,w,z])/\HT H k u d/\HT H k v d'/\HT H k w b/\HT H k z c:=by
 cases h with
 | @tup k a f _ e l i=>
  obtain⟨u,v,w,z,rfl⟩:=ln4 l;calc⟨a,u,v,w,z,k,rfl,e,i 0 u d rfl rfl,i 1 v d' rfl rfl,i 2 w b rfl rfl,i 3 z c rfl rfl⟩
theorem lQ{H:Hp}{n:Nat}{a:Addr}{u v w:V}{d d' g:DV}(e:H a=some (.tup [u,v,w]))(h:HT H n u d)(h':HT H n v d')(f:HT H n w g):HT H (n+1) (.ref a) (.tup [d,d',g]):=by
 refine .tup e rfl λi x y b c=>?_
 match i,b,c with
 |0,b,c=>simp at b c;subst b c;calc h
 |1,b,c=>simp at b c;subst b c;calc h'
 |2,b,c=>simp at b c;subst b c;calc f
theorem Dp{n:Nat}{v:Val}(h:HT H n x v.dv):∃a xs,x=.ref a/\H a=some (.tup xs):=by
 cases v<;>(cases h;rename_i a xs e l i;calc⟨_,_,rfl,by assumption⟩)
end DD
set_option maxHeartbeats 400000
namespace L2
open PySem PySem.Spec PyProof.Rows
def WN:R2:=λx y H Q=>match x,y with
 | .ref a,.int n=>∃v,H a=some (.lst [v])/\-1000<=n/\n<=1000/\∀p,H p=none->Q (.ref p) (upd H p (.lst (List.replicate n.toNat v)))
 |_,_=>False
theorem ID{α:Type}(n:Nat)(v:α):(List.replicate n [v]).flatten=List.replicate n v:=by
 induction n with
 |zero=>rfl
 |succ n a=>rw[List.replicate_succ,List.flatten_cons,a];rfl
theorem zi{v:V}{u:Value}(r:RelV v u):∀n:Nat,Vals (List.replicate n v) (List.replicate n u)
 |0=>.nil
 |n+1=>.cons r (zi r n)
section
variable {X:Cx}
theorem IE:fQ X (binaryOp .Mult) WN:=by
 intro g s σ H x y v u Q I i j h
 cases x<;>cases y<;>first
  |calc(show False from h).elim
  |skip
 rename_i a n;obtain⟨w,l,A,B,q⟩:=h;obtain rfl:v=Value.ref a:=i;obtain⟨c,rfl⟩:∃c,u=Value.int n c:=j;obtain⟨_,C,k,m,d⟩:=I.ba a _ l;obtain⟨f,rfl,p⟩:=m.one;have r:([f]:List Value).toArray.size*n.toNat<=1000:=by simp;lia
 refine wpAny_binaryOp_repeat_ref (T:="list") (U:="int") ∅ ⟨_,d,rfl⟩ (λt=>typeIs_int t n c) noFill_list_mul F.fills_int_mul F.slot_int_rmul repeat_list F.slot_int_index.lookup
  (call_meets F.slot_int_rmul (typeIs_int s n c) F.entry_int_rmul (F.args_int_rmul_2 _ _) (lm_int_rmul_list_any n c a ([f]:List Value).toArray k none #[])
   ⟨d,rfl,⟨_,d,rfl⟩,call_meets F.slot_list_mul ⟨_,d,rfl⟩ F.entry_list_mul (F.args_list_mul_2 _ _)
    (lm_list_mul_any a ([f]:List Value).toArray k none #[] n c (by simp[Builtin.List.listFitsIndex];lia) () (by simp[Builtin.List.listTooLong,sizeLine];lia))
    ⟨d,?_⟩⟩)
 rw[listMul_foldl_if,ID];have z:H s.heap.objs.size=none:=I.ba.fresh (F' _);calc⟨V.ref s.heap.objs.size,_,I.laid (o:=.lst (List.replicate n.toNat w)) (a:=s.heap.objs.size) (λb o e=>K' _ e) (F' _) (show _/\_ from⟨?_,_,0,zi p _,Y' _ rfl⟩),rfl,q _ z⟩;rw[List.length_replicate,aax];lia
end
end L2
namespace L2
open PySem PySem.Spec PyProof.Rows Builtin.Str
end L2
namespace L2
open PySem PySem.Spec PyProof.Rows Builtin.Str
end L2
set_option maxHeartbeats 4000000
namespace L2
open PySem
section
variable {X:Cx}
def acA(K:W.Frag):List V->Hp->VK->Prop:=λxs H Q=>∃(x:V) (C:Addr) (t:Value) (b:Bool),xs=[x,.ref C]/\gT K H x t/\W.kitOne K t (.ref C)=some b/\Q (.bl b) H
theorem IF{K:W.Frag}(c:X.K=K):fe X (.builtin "isinstance") (acA K):=by
 subst c;intro a s σ H i j Q I r h;obtain⟨x,C,t,b,rfl,d,e,q⟩:=h;obtain⟨u,k,rfl,f,g⟩:=vals2 r
 cases g;calc vP I f d e λa=>⟨.bl b,H,I.tok _,rfl,q⟩
end
end L2
namespace L2
open PySem PySem.Spec PyProof.Rows
def EqD(K:W.Frag)(H:Hp):Nat->V->V->Bool->Prop
 |0,_,_,_=>False
 | n + 1,x,y,b=>(∃a,x=.ref a/\y=.ref a/\b=true)\/(gj x=true/\gj y=true/\b=CY x y)
  \/(∃a xs,gj x=true/\y=.ref a/\(bF K H a xs\/aO K H a xs)/\b=false)\/(∃a xs,gj y=true/\x=.ref a/\(bF K H a xs\/aO K H a xs)/\b=false)
  \/(∃a c xs d,x=.ref a/\y=.ref c/\((bF K H a xs/\aO K H c d)\/(aO K H a xs/\bF K H c d))/\b=false)
  \/∃a c xs d,∃e:Nat->Bool,x=.ref a/\y=.ref c/\a≠c/\((bF K H a xs/\bF K H c d)\/(aO K H a xs/\aO K H c d))
   /\(∀(i:Nat) u v,xs[i]?=some u->d[i]?=some v->EqD K H n u v (e i))/\b=((List.range (min xs.length d.length)).all e&&(xs.length==d.length))
def EqT(K:W.Frag)(H:Hp)(n:Nat)(a c:Addr)(b:Bool):Prop:=∃xs d,∃e:Nat->Bool,((bF K H a xs/\bF K H c d)\/(aO K H a xs/\aO K H c d))
      /\(∀(i:Nat) u v,xs[i]?=some u->d[i]?=some v->EqD K H n u v (e i))/\b=((List.range (min xs.length d.length)).all e&&(xs.length==d.length))
section
variable {X:Cx}
theorem IG{pins:List (Addr×Obj)}{σ:St}{H:Hp}{s:Shared}(I:Inv X pins σ H s){n:Nat}(L:∀(A:Around) {x y:V}{u v:Value}{b:Bool},EqD X.K H n x y b->A.units+n<cLine->RelV x u->RelV y v->SeqAt.EqAt A s u v b)
  {A:Around} {a c:Addr} {b:Bool} (h:EqT X.K H n a c b) (f:A.units+n+1<cLine):SeqAt.RcAt A s (.ref a) (.ref c) b/\SeqAt.RcNeAt A s (.ref a) (.ref c) (!b):=by
 obtain⟨g,k,e,d,M,rfl⟩:=h;rcases d with⟨m,n⟩|⟨m,n⟩
 ·obtain⟨d,o,h,p⟩:=I.tuple m;obtain⟨f,q,l,w⟩:=I.tuple n;have N:=o.length;have O:=q.length;have b:∀j (m:j<d.toArray.size) (n:j<f.toArray.size),SeqAt.EqAt A.in1 s d.toArray[j] f.toArray[j] (e j):=λj y z=>by
   have B:j<d.length:=by simpa using y
   have C:j<f.length:=by simpa using z
   obtain⟨D,r,E⟩:=o.get (i:=j) (x:=g[j]'()) nofun;obtain⟨F,t,G⟩:=q.get (i:=j) (x:=k[j]'()) nofun;have H:d.toArray[j]=D:=by
    have:=cD B;rw[this]at r;simpa using Option.some.inj r
   have J:f.toArray[j]=F:=by
    have:=cD C;rw[this]at t;simpa using Option.some.inj t
   rw[H,J];exact L A.in1 (M j _ _ nofun nofun) (by rw[in1_units];lia) E G
  have u:=SeqAt.RcAt.tuples (A:=A) (show s.heap.IsTuple a d.toArray from h) (show s.heap.IsTuple c f.toArray from l) () b;have v:=SeqAt.RcNeAt.tuples (A:=A) (show s.heap.IsTuple a d.toArray from h) (show s.heap.IsTuple c f.toArray from l) () b;have p:d.toArray.size=g.length:=by simp;lia
  have w:f.toArray.size=k.length:=by simp;lia
  rw[p,w]at u v;exact⟨u,v⟩
 ·obtain⟨d,o,h,p⟩:=I.list m;obtain⟨f,q,l,w⟩:=I.list n;have N:=o.length;have O:=q.length;by_cases a:g.length=k.length
  ·have c:d.toArray.size=f.toArray.size:=by simp;lia
   have b:∀j (m:j<d.toArray.size) (n:j<f.toArray.size),SeqAt.EqAt A.in1 s d.toArray[j] f.toArray[j] (e j):=λj y z=>by
    have B:j<d.length:=by simpa using y
    have C:j<f.length:=by simpa using z
    obtain⟨D,r,E⟩:=o.get (i:=j) (x:=g[j]'()) nofun;obtain⟨F,t,G⟩:=q.get (i:=j) (x:=k[j]'()) nofun;have H:d.toArray[j]=D:=by
     have:=cD B;rw[this]at r;simpa using Option.some.inj r
    have J:f.toArray[j]=F:=by
     have:=cD C;rw[this]at t;simpa using Option.some.inj t
    rw[H,J];exact L A.in1 (M j _ _ nofun nofun) (by rw[in1_units];lia) E G
   have u:=SeqAt.RcAt.lists (A:=A) h.isList l.isList c () b;have v:=SeqAt.RcNeAt.lists (A:=A) h.isList l.isList c () b;have p:d.toArray.size=g.length:=by simp;lia
   have b:((List.range (min g.length k.length)).all e&&(g.length==k.length))=(List.range g.length).all e:=by rw[a];simp
   rw[p]at u v;rw[b];exact⟨u,v⟩
  ·have c:(d.toArray.size != f.toArray.size)=true:=by simp;lia
   have b:((List.range (min g.length k.length)).all e&&(g.length==k.length))=false:=by simp[a]
   rw[b];calc⟨SeqAt.RcAt.lists_lengths h.isList l.isList c (),SeqAt.RcNeAt.lists_lengths h.isList l.isList c ()⟩
theorem IH{pins:List (Addr×Obj)}{σ:St}{H:Hp}{s:Shared}(I:Inv X pins σ H s):∀(n:Nat) (A:Around) {x y:V}{u v:Value}{b:Bool},EqD X.K H n x y b->A.units+n<cLine->RelV x u->RelV y v->SeqAt.EqAt A s u v b
 |0,_,_,_,_,_,_,h,_,_,_=>h.elim
 |n+1,A,x,y,u,v,b,h,r,k,l=>by
  rcases h with⟨a,rfl,rfl,rfl⟩|⟨f,g,rfl⟩|⟨a,p,f,rfl,i,rfl⟩|⟨a,p,f,rfl,i,rfl⟩|⟨a,c,p,q,rfl,rfl,i,rfl⟩|⟨a,c,p,q,e,rfl,rfl,w,i,z,B⟩
  ·cases k;cases l;exact SeqAt.EqAt.same _
  ·exact Bt k l f g
  ·cases l;rcases i with i | i
   ·obtain⟨j,m,d,o⟩:=I.tuple i
    cases x<;>first|calc absurd (show false=true from f) R'|skip
    ·cases k;exact SeqAt.EqAt.none_tuple (show s.heap.IsTuple a j.toArray from d) ()
    ·cases k;exact SeqAt.EqAt.bool_tuple _ (show s.heap.IsTuple a j.toArray from d) ()
    ·obtain⟨t,rfl⟩:=k;exact SeqAt.EqAt.int_tuple _ _ (show s.heap.IsTuple a j.toArray from d) ()
    ·obtain⟨t,rfl⟩:=k;exact SeqAt.EqAt.str_tuple _ _ (show s.heap.IsTuple a j.toArray from d) ()
   ·obtain⟨j,m,d,o⟩:=I.list i
    cases x<;>first|calc absurd (show false=true from f) R'|skip
    ·cases k;exact SeqAt.EqAt.none_list d.isList ()
    ·cases k;exact SeqAt.EqAt.bool_list _ d.isList ()
    ·obtain⟨t,rfl⟩:=k;exact SeqAt.EqAt.int_list _ _ d.isList ()
    ·obtain⟨t,rfl⟩:=k;exact SeqAt.EqAt.str_list _ _ d.isList ()
  ·cases k;rcases i with i | i
   ·obtain⟨j,m,d,o⟩:=I.tuple i
    cases y<;>first|calc absurd (show false=true from f) R'|skip
    ·cases l;exact SeqAt.EqAt.tuple_none (show s.heap.IsTuple a j.toArray from d) ()
    ·cases l;exact SeqAt.EqAt.tuple_bool _ (show s.heap.IsTuple a j.toArray from d) ()
    ·obtain⟨t,rfl⟩:=l;exact SeqAt.EqAt.tuple_int _ _ (show s.heap.IsTuple a j.toArray from d) ()
    ·obtain⟨t,rfl⟩:=l;exact SeqAt.EqAt.tuple_str _ _ (show s.heap.IsTuple a j.toArray from d) ()
   ·obtain⟨j,m,d,o⟩:=I.list i
    cases y<;>first|calc absurd (show false=true from f) R'|skip
    ·cases l;exact SeqAt.EqAt.list_none d.isList ()
    ·cases l;exact SeqAt.EqAt.list_bool _ d.isList ()
    ·obtain⟨t,rfl⟩:=l;exact SeqAt.EqAt.list_int _ _ d.isList ()
    ·obtain⟨t,rfl⟩:=l;exact SeqAt.EqAt.list_str _ _ d.isList ()
  ·cases k
   cases l;rcases i with⟨f,g⟩|⟨f,g⟩
   ·obtain⟨j,m,d,o⟩:=I.tuple f;obtain⟨r,t,h,C⟩:=I.list g;exact SeqAt.EqAt.tuple_list (show s.heap.IsTuple a j.toArray from d) h.isList ()
   ·obtain⟨j,m,d,o⟩:=I.list f;obtain⟨r,t,h,C⟩:=I.tuple g;exact SeqAt.EqAt.list_tuple d.isList (show s.heap.IsTuple c r.toArray from h) ()
  ·cases k
   cases l;calc SeqAt.EqAt.of_refs w (IG I (λA {x y u v b}=>IH I n A) ⟨p,q,e,i,z,B⟩ ()).1
def R6(K:W.Frag):R2:=λx y H Q=>∃a c b,x=.ref a/\y=.ref c/\EqT K H 19 a c b/\Q (.bl (!b)) H
theorem Nm(i:X.A.units+64<cLine):fQ X (compareOp .NotEq) (R6 X.K):=by
 intro d s σ H x y v u Q I e f h;obtain⟨a,c,b,rfl,rfl,g,q⟩:=h
 cases e
 cases f;calc(IG I (λA {x y u v b}=>IH I 19 A) (A:=X.A) g ()).2 X.prog X.w X.xe _ ⟨.bl (!b),H,I,rfl,q⟩
end
end L2
namespace L2
open PySem
variable {H:Hp}{σ:St}
theorem kd{t u:TS}{D:Ends}(h:∀N:St->Hp->Prop,N=u D->t {D with nx:=N} σ H):A7 t u D σ H:=h _ rfl
theorem jb{c:TT}{t u:TS}{D:Ends}(h:∀T U:St->Hp->Prop,T=t D->U=u D->c σ H λb a=>if b=true then T σ a else U σ a):EM c t u D σ H:=h _ _ rfl rfl
theorem R7{i:Nat}{v:V}{Q:St->Hp->Prop}(h:Q (σ.set i (some v)) H):dE i v σ H Q:=h
theorem bz{N M:St->Hp->Prop}(e:N=M)(h:M σ H):N σ H:=e▸h
end L2
namespace DD
open PySem L2
variable {x:Addr}{Z:Addr->Prop}{H H':Hp}{vs:List V}
structure MD where
 M:Int
 ns:List Int
 row:List Int
 ds:List bH
structure Good(M:Int)(ns row:List Int)(ds:List bH):Prop where
 m2:2<=M
 m12:M<=1000000000000
 l1:1<=ns.length
 l4:ns.length<=4
 r12:row.length<=12
 bn:∀z∈ns,0<=z/\z<M
 br:∀z∈row,0<=z/\z<M
 d24:ds.length<=24
 ok:∀d∈ds,d.ok ns.length
abbrev MD.good(d:MD):Prop:=Good d.M d.ns d.row d.ds
instance:Inhabited MD:=⟨⟨0,[],[],[]⟩⟩
noncomputable def jZ (Z:Addr->Prop) (H:Hp):Hp:=λx=> @ite _ (Z x) (Classical.propDecidable _) (some (.own 0)) (H x)
theorem gU(h:¬Z x):jZ Z H x=H x:=by unfold jZ;rw[if_neg h]
theorem BK(h:Z x):jZ Z H x=some (.own 0):=by unfold jZ;rw[if_pos h]
theorem ei{o:HO}(h:jZ Z H x=some o)(b:∀k,o≠.own k):¬Z x/\H x=some o:=by
 by_cases a:Z x
 ·rw[BK a]at h;cases h;exact absurd rfl (b 0)
 ·rw[gU a]at h;calc⟨a,h⟩
theorem Np{o:HO}(h:Z x):jZ Z (upd H x o)=jZ Z H:=by
 funext b;by_cases a:Z b
 ·rw[BK a,BK a]
 ·rw[gU a,gU a,ay (λe:b=x=>a (e▸h))]
def Cv(H H':Hp):Prop:=∀b o,H b=some o->(∀k,o≠.own k)->H' b=some o
theorem _root_.L2.av.cv(s:av H H'):Cv H H':=λb o e _=>s b o e
def soft:HO->Prop
 | .lst _=>True
 | .dK _=>True
 |_=>False
def Fr(Z:Addr->Prop)(H H':Hp):Prop:=∀b o,H b=some o->(Z b->¬soft o)->H' b=some o
theorem Fr.refl:Fr Z H H:=λ_ _ e _=>e
theorem Fr.trans{c d:Hp}(a:Fr Z H c)(b:Fr Z c d):Fr Z H d:=λc o e n=>b c o (a c o e n) n
theorem _root_.L2.av.fr(s:av H H'):Fr Z H H':=λb o e _=>s b o e
theorem Fr.at(a:Fr Z H H'){b:Addr}{o:HO}(e:H b=some o)(h:¬Z b):H' b=some o:=a b o e λz=>absurd z h
theorem Fr.k8(a:Fr Z H H'){b:Addr}{o:HO}(e:H b=some o)(h:¬soft o):H' b=some o:=a b o e λ_=>h
theorem Fr.upd{b:Hp}(a:Fr Z H b){x:Addr}{o u:HO}(h:Z x)(f:b x=some u)(g:soft u):Fr Z H (upd b x o):=λc v e n=>by
 by_cases z:c=x
 ·subst z;have d:=a c v e n;rw[f] at d
  cases d;exact absurd g (n h)
 ·rw[ay z];calc a c v e n
theorem Fr.mono{c:Addr->Prop}{d:Hp}(a:Fr Z H d)(h:∀b,Z b->c b):Fr c H d:=λc o e n=>a c o e λz=>n (h c z)
theorem Fr.aP(h:Fr Z H H'):bX H H':=λb a e=>h b _ e λ_=>id
theorem Fr.jZ(h:Fr Z H H'):Cv (jZ Z H) (jZ Z H'):=λb o e n=>by
 obtain⟨a,b⟩:=ei e n;rw[gU a];calc h.at b a
theorem dD:Cv (jZ Z H) H:=λb o e n=>(ei e n).2
theorem Cv.aP(h:Cv H H'):bX H H':=λb a e=>h b _ e (λk z=>by cases z)
theorem _root_.L2.HD.cv{H H':Hp}(s:Cv H H'){n:Nat}{x:V}{d:DV}(h:HD H n x d):HD H' n x d:=by
 induction h with
 |bL=>calc .bL
 |bl b=>calc .bl b
 |int i=>calc .int i
 |str x=>calc .str x
 |tup e l i a=>calc .tup (s _ _ e (λk z=>by cases z)) l a
 |lst e l i a=>calc .lst (s _ _ e (λk z=>by cases z)) l a
 |dict e=>calc .dict (s _ _ e (λk z=>by cases z))
def fw(H:Hp)(n:Nat)(vs:List V)(a:List DV):Prop:=vs.length=a.length/\∀(i:Nat) v d,vs[i]?=some v->a[i]?=some d->HD H n v d
theorem fw.cv(s:Cv H H'){n:Nat}{vs:List V}{a:List DV}(h:fw H n vs a):fw H' n vs a:=⟨h.1,λi v d a b=>(h.2 i v d a b).cv s⟩
theorem fw.nil{n:Nat}:fw H n [] []:=⟨rfl,λi v d a=>by simp at a⟩
theorem fw.app{n:Nat}{us:List V}{a es:List DV}(h:fw H n vs a)(g:fw H n us es):fw H n (vs++us) (a++es):=by
 calc⟨by simp[h.1,g.1],λi v d a b=>?_⟩;by_cases c:i<vs.length
 ·rw[W' c]at a;rw[W' (by rw[<-h.1];calc c)]at b;exact h.2 i _ _ a b
 ·rw[V' ()]at a;rw[V' (by rw[<-h.1];lia),<-h.1]at b;calc g.2 _ _ _ a b
theorem fw.one{H:Hp}{n:Nat}{v:V}{d:DV}(h:HD H n v d):fw H n [v] [d]:=by
 refine⟨rfl,λi u e a b=>?_⟩
 cases i with
 |zero=>simp at a b;subst a b;calc h
 |succ i=>simp at a
theorem fw.set{n:Nat}{c:List DV}{v:V}{d:DV}(h:fw H n vs c)(g:HD H n v d)(k:Nat):fw H n (vs.set k v) (c.set k d):=by
 calc⟨by simp[h.1],λi u e a b=>?_⟩;rw[List.getElem?_set]at a b;by_cases f:k=i
 ·rw[if_pos f] at a b;split at a
  ·rw[if_pos (by rw[<-h.1];assumption)]at b;cases a;cases b;exact g
  ·cases a
 ·rw[if_neg f]at a b;calc h.2 i u e a b
theorem fw.ints{H:Hp}{n:Nat}(ns:List Int):fw H n (ns.map V.int) (ns.map DV.int):=by
 calc⟨nofun,λi v d a b=>?_⟩;rw[A']at a b
 cases c:ns[i]? with
 |none=>rw[c]at a;cases a
 |some z=>rw[c]at a b;cases a;cases b;calc .int z
theorem fw.t9{n:Nat}{ns:List Int}(h:fw H n vs (ns.map DV.int)):vs=ns.map V.int:=by
 apply List.ext_getElem (by simpa using h.1);intro j c a;have b:j<ns.length:=by simpa using a
 have:=h.2 j vs[j] (.int ns[j]) nofun (by simp[b]);simp only[List.getElem_map];generalize vs[j]=y at this
 cases this;rfl
theorem fw.get{n:Nat}{a:List DV}(h:fw H n vs a){i:Nat}{d:DV}(e:a[i]?=some d):∃v,vs[i]?=some v/\HD H n v d:=by
 have b:i<a.length:=(List.getElem?_eq_some_iff.mp e).1;have a:i<vs.length:=by rw[h.1];exact b
 calc⟨vs[i],nofun,h.2 i _ _ nofun e⟩
inductive CO where
 |l (ds:List DV)|d (g:Int->Option DV) (n:Nat)
def OR(H:Hp):CO->HO->Prop
 | .l a,.lst vs=>fw H 4 vs a
 | .d g n,.dK a=>a.length<=n/\∀k:Int,match g k with
  |none=>gi a (Sum.inl k)=none
  |some d=>∃v,gi a (Sum.inl k)=some v/\HD H 4 v d
 |_,_=>False
theorem OR.cv{H H':Hp}(s:Cv H H'){c:CO}{o:HO}(h:OR H c o):OR H' c o:=by
 cases c with
 |l a=>
  cases o with
  |lst vs=>calc fw.cv s h
  |_=>calc aaK h
 |d g n=>
  cases o with
  |dK a=>
   calc⟨h.1,λk=>?_⟩;have:=h.2 k;revert this
   cases g k with
   |none=>calc id
   |some d=>calc λ⟨v,e,a⟩=>⟨v,e,a.cv s⟩
  |_=>calc aaK h
def FP(n:Nat->Nat)(ad:Nat->Nat->Addr)(b:Addr):Prop:=∃t i,i<n t/\b=ad t i
structure eA(F:Addr->Prop)(H:Hp)(n:Nat->Nat)(ad:Nat->Nat->Addr)(ct:Nat->Nat->CO):Prop where
 inj:∀t i t' i',i<n t->i'<n t'->ad t i=ad t' i'->t=t'/\i=i'
 out:∀t i,i<n t->¬F (ad t i)
 Pd:∀t i,i<n t->∃o,H (ad t i)=some o/\OR (jZ (λb=>F b\/FP n ad b) H) (ct t i) o
def setC(ct:Nat->Nat->CO)(t i:Nat)(c:CO):Nat->Nat->CO:=λt' a=>if t'=t/\a=i then c else ct t' a
section
variable {F:Addr->Prop}{H H':Hp}{n:Nat->Nat}{ad:Nat->Nat->Addr}{ct ct':Nat->Nat->CO}
theorem eA.keep(h:eA F H n ad ct)(a:Fr F H H'):eA F H' n ad ct:=
 ⟨h.inj,h.out,λt i c=>by
  obtain⟨o,e,r⟩:=h.Pd t i c;calc⟨o,a.at e (h.out t i c),r.cv (a.mono λb z=>.inl z).jZ⟩⟩
theorem eA.same(h:eA F H n ad ct)(s:av H H'):eA F H' n ad ct:=h.keep s.fr
theorem eA.congr(h:eA F H n ad ct)(e:∀t i,i<n t->ct t i=ct' t i):eA F H n ad ct':=
 ⟨h.inj,h.out,λt i a=>by rw[<-e t i a];calc h.Pd t i a⟩
theorem eA.upd(h:eA F H n ad ct){t i:Nat}(a:i<n t){c:CO}{o:HO}(r:OR (jZ (λb=>F b\/FP n ad b) H) c o):eA F (upd H (ad t i) o) n ad (setC ct t i c):=by
 have c:(λb=>F b\/FP n ad b) (ad t i):=.inr ⟨t,i,a,rfl⟩;calc⟨h.inj,h.out,λd f g=>?_⟩;rw[Np c];by_cases e:d=t/\f=i
 ·obtain⟨rfl,rfl⟩:=e;exact⟨o,ab,by unfold setC;rw[if_pos ⟨rfl,rfl⟩];calc r⟩
 ·obtain⟨b,c,i⟩:=h.Pd d f g;calc⟨b,?_,by unfold setC;rw[if_neg e];calc i⟩;rw[ay (λz=>e (h.inj _ _ _ _ g a z))];calc c
theorem eA.lst(h:eA F H n ad ct){t i:Nat}(c:i<n t){a:List DV}(e:ct t i=.l a):∃vs,H (ad t i)=some (.lst vs)/\fw (jZ (λb=>F b\/FP n ad b) H) 4 vs a:=by
 obtain⟨o,d,r⟩:=h.Pd t i c;rw[e]at r
 cases o with
 |lst vs=>calc⟨vs,d,r⟩
 |_=>calc r.elim
theorem eA.dct(h:eA F H n ad ct){t i:Nat}(c:i<n t){g:Int->Option DV}{N:Nat}(e:ct t i=.d g N):∃a,H (ad t i)=some (.dK a)/\OR (jZ (λb=>F b\/FP n ad b) H) (.d g N) (.dK a):=by
 obtain⟨o,f,r⟩:=h.Pd t i c;rw[e]at r
 cases o with
 |dK vs=>calc⟨vs,f,r⟩
 |_=>calc r.elim
theorem eA.app(h:eA F H n ad ct){t i:Nat}(a:i<n t){c:List DV}(e:ct t i=.l c){vs:List V}(f:H (ad t i)=some (.lst vs)){us:List V}{es:List DV}(g:fw (jZ (λb=>F b\/FP n ad b) H) 4 us es):
  eA F (L2.upd H (ad t i) (.lst (vs++us))) n ad (setC ct t i (.l (c++es))):=by
 obtain⟨b,d,r⟩:=h.lst a e;rw[f]at d
 cases d;calc h.upd a (show fw _ 4 _ _ from r.app g)
theorem eA.set(h:eA F H n ad ct){t i:Nat}(a:i<n t){c:List DV}(e:ct t i=.l c){vs:List V}(j:H (ad t i)=some (.lst vs)){k:Nat}{v:V}{d:DV}(g:HD (jZ (λb=>F b\/FP n ad b) H) 4 v d):
  eA F (L2.upd H (ad t i) (.lst (vs.set k v))) n ad (setC ct t i (.l (c.set k d))):=by
 obtain⟨b,f,r⟩:=h.lst a e;rw[j]at f
 cases f;calc h.upd a (show fw _ 4 _ _ from r.set g k)
theorem OR.soft{c:CO}{o:HO}(h:OR H c o):soft o:=by
 cases c<;>cases o<;>first|trivial|calc aaK h
theorem eA.soft(h:eA F H n ad ct){t i:Nat}(a:i<n t):∃o,H (ad t i)=some o/\DD.soft o:=by
 obtain⟨o,e,r⟩:=h.Pd t i a;calc⟨o,e,r.soft⟩
theorem eA.fp(h:eA F H n ad ct){b:Addr}(a:FP n ad b):∃o,H b=some o/\DD.soft o:=by
 obtain⟨t,i,c,rfl⟩:=a;calc h.soft c
theorem eA.ne(h:eA F H n ad ct){b:Addr}{o:HO}(e:H b=some o)(c:¬DD.soft o):¬FP n ad b:=λz=>by
 obtain⟨u,a,d⟩:=h.fp z;rw[e]at a;cases a;calc c d
theorem eA.ht(h:eA F H n ad ct)(c:∀b,F b->∃o,H b=some o/\DD.soft o){m:Nat}{x:V}{d:DV}(g:HT H m x d):HD (DD.jZ (λb=>F b\/FP n ad b) H) m x d:=by
 calc HT.hd (g.aJ λb d e=>?_);rw[gU]
 ·exact e
 ·rintro(z | z)
  ·obtain⟨o,a,f⟩:=c b z;rw[e]at a;cases a;exact f
  ·calc h.ne e id z
end
end DD
namespace DD
open PySem L2
variable {B i:Nat}
def _root_.List.bf{α:Type}(l:List α)(d:α):α:=l.getD (l.length-1) d
theorem getD_at{α:Type}{l:List α}{x d:α}(h:l[i]?=some x):l.getD i d=x:=by rw[L',h];rfl
theorem aS{α:Type}{l:List α}{d:α}(h:i<l.length):l[i]?=some (l.getD i d):=by rw[L',cD h];rfl
theorem getD_mem{α:Type}{l:List α}{d:α}(h:i<l.length):l.getD i d∈l:=aan (aS h)
theorem ua{α:Type}{l:List α}{x d:α}:(l++[x]).bf d=x:=by
 unfold List.bf;calc getD_at nofun
theorem fH{α:Type}{l:List α}{d:α}(h:1<=l.length):l.bf d∈l:=getD_mem ()
theorem lR{α:Type}{l:List α}{d:α}(h:1<=l.length):l[l.length-1]?=some (l.bf d):=aS ()
structure MS where
 eB:List (List Int×List Int)
 wp:List (List Int)
 hr:List (List Int)
structure WY where
 say:List Int
 snd:List (Option (Int×Int))
 cF:List (Option (Int×Int))
structure RS where
 picks:List (Int×Int)
 mm:Nat->MS
 ww:Nat->WY
structure NT where
 ms:List MD
 ws:List (Int×Int×Str)
def pairD(p:Int×Int):DV:=.tup [.int p.1,.int p.2]
def nj:Option (Int×Int)->DV
 |none=>.bL
 |some p=>pairD p
def ub(s:List Int×List Int):DV:=zf s.1 s.2
def NT.M(n:NT)(m:Nat):Int:=(n.ms.getD m default).M
def NT.nn(n:NT)(m:Nat):Nat:=(n.ms.getD m default).ns.length
def NT.ds(n:NT)(m:Nat):List bH:=(n.ms.getD m default).ds
def NT.w(n:NT)(w:Nat):Int×Int×Str:=n.ws.getD w (0,0,"")
def NT.outs(n:NT)(m:Int):List Nat:=(List.range n.ws.length).filter λi=>decide ((n.w i).1=m)
def NT.ins(n:NT)(m:Int):List Nat:=(List.range n.ws.length).filter λi=>decide ((n.w i).2.1=m)
def NT.goal(n:NT)(w:Nat):Nat:=(n.w w).2.1.toNat
def NT.place(n:NT)(w:Nat):Nat:=(n.ins (n.w w).2.1).idxOf w
def RS.put(r:RS)(w:Nat)(x:Int)(s:Option (Int×Int)):RS:=
 {r with ww:=λk=>if k=w then⟨(r.ww w).say++[x],(r.ww w).snd++[s],(r.ww w).cF++[none]⟩ else r.ww k}
def RS.send(r:RS)(outs:List Nat)(ev:Int×Int):List (Int×Int)->RS
 | []=>r
 |p::a=>(if p.1.toNat<outs.length then r.put (outs.getD p.1.toNat 0) p.2 (some ev) else r).send outs ev a
def NT.work(n:NT)(r:RS)(w k:Nat):WS:=
 pJ (n.M (n.goal w)) (n.place w) ((r.ww w).say.getD k 0) (n.ds (n.goal w)) ((r.mm (n.goal w)).eB.bf ([],[])).1 ((r.mm (n.goal w)).eB.bf ([],[])).2
def NT.ev(n:NT)(r:RS)(w:Nat):Int×Int:=((n.goal w:Nat),((r.mm (n.goal w)).eB.length:Nat))
def NT.ik(n:NT)(r:RS)(w k:Nat):List Int:=
 let m:=n.goal w
 let b:=(r.mm m).hr.bf (List.replicate n.ms.length 0)
 let a:=match (r.ww w).snd.getD k none with
  |none=>b
  |some (s,c)=>List.zipWith max b ((r.mm s.toNat).hr.getD (c-1).toNat [])
 a.set m (n.ev r w).2
def RS.step(n:NT)(r:RS)(w k:Nat):RS:=
 let m:=n.goal w
 let res:=n.work r w k
 {picks:=r.picks++[((w:Int),(k:Int))]
  mm:=λi=>if i=m then⟨(r.mm m).eB++[(res.ns,res.row)],(r.mm m).wp++[(r.mm m).wp.bf []++res.words],(r.mm m).hr++[n.ik r w k]⟩ else r.mm i
  ww:=λi=>if i=w then {(r.ww w) with cF:=(r.ww w).cF.set k (some (n.ev r w))} else r.ww i}
def RS.pick(n:NT)(r:RS)(w k:Nat):RS:=(r.step n w k).send (n.outs (n.goal w)) (n.ev r w) (n.work r w k).cT
def RS.k9(r:RS):List (Int×Int)->RS
 | []=>r
 |p::a=>(r.put p.1.toNat p.2 none).k9 a
def RS.new(n:NT):RS:=⟨[],λm=>⟨[((n.ms.getD m default).ns,(n.ms.getD m default).row)],[[]],[]⟩,λ_=>⟨[],[],[]⟩⟩
def RS.begin(n:NT)(a:List (Int×Int)):RS:=(RS.new n).k9 a
def i8(l:List (Option (Int×Int)))(k:Int):Option DV:=if 0<=k then(l.getD k.toNat none).map pairD else none
def RS.ct(r:RS):Nat->Nat->CO
 |0,_=>.l (r.picks.map pairD)
 |1,m=>.l ((r.mm m).eB.map ub)
 |2,m=>.l ((r.mm m).wp.map λw=>.int (w.length:Nat))
 |3,m=>.l (((r.mm m).wp.bf []).map .int)
 |4,w=>.l ((r.ww w).say.map .int)
 |5,w=>.l ((r.ww w).snd.map nj)
 |_,w=>.l ((r.ww w).cF.map nj)
def NT.n(n:NT):Nat->Nat
 |0=>1
 |1=>n.ms.length
 |2=>n.ms.length
 |3=>n.ms.length
 |4=>n.ws.length
 |5=>n.ws.length
 |6=>n.ws.length
 |_=>0
structure NT.Ok(n:NT):Prop where
 II:n.ms.length<=5
 ms1:1<=n.ms.length
 Fo:n.ws.length<=10
 good:∀d∈n.ms,d.good
 acE:∀w∈n.ws,0<=w.1/\w.1<n.ms.length/\0<=w.2.1/\w.2.1<n.ms.length/\(w.2.2="row"\/w.2.2="heap")
structure Nq(M:Int)(nn:Nat)(s:List Int×List Int):Prop where
 ln:s.1.length=nn
 bn:∀z∈s.1,0<=z/\z<M
 lr:s.2.length<=12
structure RS.Ok(n:NT)(r:RS):Prop where
 lw:∀m,m<n.ms.length->(r.mm m).eB.length=(r.mm m).wp.length
 lh:∀m,m<n.ms.length->(r.mm m).eB.length=(r.mm m).hr.length+1
 so:∀m,m<n.ms.length->∀s∈(r.mm m).eB,Nq (n.M m) (n.nn m) s
 hl:∀m,m<n.ms.length->∀h∈(r.mm m).hr,h.length=n.ms.length
 ls:∀w,w<n.ws.length->(r.ww w).say.length=(r.ww w).snd.length
 lk:∀w,w<n.ws.length->(r.ww w).say.length=(r.ww w).cF.length
 sd:∀w,w<n.ws.length->∀s c,some (s,c)∈(r.ww w).snd->0<=s/\s<n.ms.length/\1<=c/\c<=(r.mm s.toNat).hr.length
 bp:∀m,m<n.ms.length->(r.mm m).eB.length<=r.picks.length+1
 bw:∀m,m<n.ms.length->∀w∈(r.mm m).wp,w.length<=24*r.picks.length
 bs:∀w,w<n.ws.length->(r.ww w).say.length<=20+24*r.picks.length
 WO:∀m,m<n.ms.length->∀u∈(r.mm m).wp,u <+:(r.mm m).wp.bf []
theorem zj{M way said:Int}{n:Int}:∀(f:Nat) (b:List bH) (s:WS),(∀d∈b,d.ok n)->(∀p∈s.cT,0<=p.1)->∀p∈(zg M way said f b s).cT,0<=p.1
 |0,_,s,_,h=>h
 |f+1,[],s,_,h=>h
 |f+1,d::r,s,c,h=>by
  calc zj f _ _ (λe b=>c e (aai _ (List.mem_of_mem_drop b))) ?_;intro p a;have a:p∈s.cT++iD ((d.vals.map (fY M way said s.ns s.row)).getD 0 0) d:=a;rcases List.mem_append.mp a with a|a
  ·exact h p a
  ·have g:=c d (aaa ..)
   cases d with
   |send j v=>
    simp only[iD,List.mem_singleton]at a;subst a;calc g.1
   |_=>simp only[iD,List.not_mem_nil]at a
theorem Dq{M way said:Int}:∀(f:Nat) (a:List bH) (s:WS),(zg M way said f a s).cT.length<=s.cT.length+a.length/\(zg M way said f a s).words.length<=s.words.length+a.length/\(zg M way said f a s).ns.length=s.ns.length
 |0,_,s=>⟨aa2 ..,aa2 ..,rfl⟩
 |f+1,[],s=>⟨F' _,F' _,rfl⟩
 |f+1,d::r,s=>by
  obtain⟨a,b,c⟩:=Dq (M:=M) (way:=way) (said:=said) f (r.drop (nO M way said d s).toNat) (kZ M way said d s);have a:(kZ M way said d s).cT.length<=s.cT.length+1:=by
   show(s.cT++iD _ d).length<=_
   cases d<;>simp[iD]
  have a:(kZ M way said d s).words.length<=s.words.length+1:=by
   show(s.words++gn _ d).length<=_
   cases d<;>simp[gn]
  have a:(kZ M way said d s).ns.length=s.ns.length:=qi;have a:(r.drop (nO M way said d s).toNat).length<=r.length:=by simp
  refine⟨?_,?_,?_⟩
  ·show(zg M way said f _ _).cT.length<=_;simp only[List.length_cons];lia
  ·show(zg M way said f _ _).words.length<=_;simp only[List.length_cons];lia
  ·show(zg M way said f _ _).ns.length=_;lia
theorem Dr{M way said:Int}(c:0<M):∀(f:Nat) (e:List bH) (s:WS),(∀z∈s.ns,0<=z/\z<M)->s.row.length<=12->(∀z∈(zg M way said f e s).ns,0<=z/\z<M)/\(zg M way said f e s).row.length<=12
 |0,_,s,h,g=>⟨h,g⟩
 |f+1,[],s,h,g=>⟨h,g⟩
 |f+1,d::r,s,h,g=>by
  refine Dr c f _ _ ?_ ?_
  ·have b:∀y:Int,0<=y % M/\y % M < M:=λy=>⟨aa6 _ (),aaQ _ c⟩
   have a:∀(j:Nat) (y:Int),(0<=y/\y<M)->∀z∈s.ns.set j y,0<=z/\z<M:=λj y k z l=>by
    rcases List.mem_or_eq_of_mem_set l with c|c
    ·exact h z c
    ·rw[c];exact k
   show ∀z∈j8 M s.ns ((d.vals.map (fY M way said s.ns s.row)).getD 0 0) d,0<=z/\z<M
   cases d with
   |set i v=>calc a _ _ (b _)
   |add i v=>calc a _ _ (b _)
   |times i v=>calc a _ _ (b _)
   |_=>exact h
  ·show(pG s.row ((d.vals.map (fY M way said s.ns s.row)).getD 0 0) d).length<=12
   cases d with
   |put v=>
    simp only[pG];split
    ·simp;lia
    ·calc g
   |drop=>simp only[pG,List.length_tail];lia
   |_=>calc g
section
variable {n:NT}{r:RS}
theorem NT.Ok.gd(h:n.Ok){m:Nat}(a:m<n.ms.length):(n.ms.getD m default).good:=by
 calc h.good _ (getD_mem a)
theorem NT.Ok.wy(h:n.Ok){w:Nat}(a:w<n.ws.length):0<=(n.w w).1/\(n.w w).1<n.ms.length/\0<=(n.w w).2.1/\(n.w w).2.1<n.ms.length/\((n.w w).2.2="row"\/(n.w w).2.2="heap"):=by
 calc h.acE _ (getD_mem a)
theorem NT.Ok.il(h:n.Ok){w:Nat}(a:w<n.ws.length):n.goal w<n.ms.length:=by
 have:=h.wy a;unfold NT.goal;lia
theorem RS.Ok.xH(h:r.Ok n){m:Nat}(a:m<n.ms.length):1<=(r.mm m).eB.length:=by rw[h.lh m a];lia
theorem RS.Ok.last(h:r.Ok n){m:Nat}(a:m<n.ms.length):Nq (n.M m) (n.nn m) ((r.mm m).eB.bf ([],[])):=h.so m a _ (fH (h.xH a))
theorem sM(a:n.Ok)(h:r.Ok n){w:Nat}(c:w<n.ws.length)(k:Nat):Nq (n.M (n.goal w)) (n.nn (n.goal w)) ((n.work r w k).ns,(n.work r w k).row)/\(n.work r w k).cT.length<=24/\(n.work r w k).words.length<=24/\∀p∈(n.work r w k).cT,0<=p.1:=by
 have b:=a.il c;have g:=a.gd b;have l:=h.last b;have a:(n.ds (n.goal w)).length<=24:=g.d24;have b:0<n.M (n.goal w):=by have:=g.m2;show 0<(n.ms.getD (n.goal w) default).M;lia
 obtain⟨d,e,f⟩:=Dq (M:=n.M (n.goal w)) (way:=n.place w) (said:=(r.ww w).say.getD k 0) (n.ds (n.goal w)).length (n.ds (n.goal w)) ⟨((r.mm (n.goal w)).eB.bf ([],[])).1,((r.mm (n.goal w)).eB.bf ([],[])).2,[],[]⟩;obtain⟨h,i⟩:=Dr b (way:=n.place w) (said:=(r.ww w).say.getD k 0) (n.ds (n.goal w)).length (n.ds (n.goal w)) ⟨((r.mm (n.goal w)).eB.bf ([],[])).1,((r.mm (n.goal w)).eB.bf ([],[])).2,[],[]⟩ l.bn l.lr;have c:=zj (M:=n.M (n.goal w)) (way:=n.place w) (said:=(r.ww w).say.getD k 0) (n:=n.nn (n.goal w)) (n.ds (n.goal w)).length (n.ds (n.goal w)) ⟨((r.mm (n.goal w)).eB.bf ([],[])).1,((r.mm (n.goal w)).eB.bf ([],[])).2,[],[]⟩ g.ok (λp b=>by simp at b);refine⟨⟨?_,h,i⟩,?_,?_,c⟩
 ·exact f.trans l.ln
 ·exact aaq d (by simpa using a)
 ·calc aaq e (by simpa using a)
structure RS.uZ(n:NT)(r:RS)(B:Nat):Prop where
 lw:∀m,m<n.ms.length->(r.mm m).eB.length=(r.mm m).wp.length
 lh:∀m,m<n.ms.length->(r.mm m).eB.length=(r.mm m).hr.length+1
 so:∀m,m<n.ms.length->∀s∈(r.mm m).eB,Nq (n.M m) (n.nn m) s
 hl:∀m,m<n.ms.length->∀h∈(r.mm m).hr,h.length=n.ms.length
 ls:∀w,w<n.ws.length->(r.ww w).say.length=(r.ww w).snd.length
 lk:∀w,w<n.ws.length->(r.ww w).say.length=(r.ww w).cF.length
 sd:∀w,w<n.ws.length->∀s c,some (s,c)∈(r.ww w).snd->0<=s/\s<n.ms.length/\1<=c/\c<=(r.mm s.toNat).hr.length
 bp:∀m,m<n.ms.length->(r.mm m).eB.length<=r.picks.length+1
 bw:∀m,m<n.ms.length->∀w∈(r.mm m).wp,w.length<=24*r.picks.length
 bs:∀w,w<n.ws.length->(r.ww w).say.length<=B
 WO:∀m,m<n.ms.length->∀u∈(r.mm m).wp,u <+:(r.mm m).wp.bf []
theorem RS.uZ.ok(h:r.uZ n B)(a:B<=20+24*r.picks.length):r.Ok n:=⟨h.lw,h.lh,h.so,h.hl,h.ls,h.lk,h.sd,h.bp,h.bw,λw b=>aaq (h.bs w b) a,h.WO⟩
theorem RS.uZ.put(h:r.uZ n B){w:Nat}{x:Int}{s:Option (Int×Int)}(g:∀a c,s=some (a,c)->0<=a/\a<n.ms.length/\1<=c/\c<=(r.mm a.toNat).hr.length):(r.put w x s).uZ n (B+1):=by
 have e:∀k,(r.put w x s).ww k=if k=w then⟨(r.ww w).say++[x],(r.ww w).snd++[s],(r.ww w).cF++[none]⟩ else r.ww k:=λk=>rfl
 refine⟨h.lw,h.lh,h.so,h.hl,λv b=>?_,λv b=>?_,λv b a c d=>?_,h.bp,h.bw,λv b=>?_,h.WO⟩
 ·rw[e];split
  ·next z=>subst z;simp[h.ls v b]
  ·exact h.ls v b
 ·rw[e];split
  ·next z=>subst z;simp[h.lk v b]
  ·exact h.lk v b
 ·rw[e] at d;split at d
  ·next z=>
   subst z;rcases List.mem_append.mp d with d|d
   ·exact h.sd v b a c d
   ·simp at d;exact g a c d.symm
  ·exact h.sd v b a c d
 ·rw[e];split
  ·next z=>subst z;have:=h.bs v b;simp;lia
  ·have:=h.bs v b;lia
theorem RS.uZ.mono{a:Nat}(h:r.uZ n B)(b:B<=a):r.uZ n a:={h with bs:=λw a=>aaq (h.bs w a) b}
theorem RS.uZ.send{outs:List Nat}{ev:Int×Int}:∀(b:List (Int×Int)) {r:RS}{B:Nat},r.uZ n B->(∀a c,some ev=some (a,c)->0<=a/\a<n.ms.length/\1<=c/\c<=(r.mm a.toNat).hr.length)->(r.send outs ev b).uZ n (B+b.length)
 | [],r,B,h,_=>h
 |p::b,r,B,h,d=>by
  show((if p.1.toNat<outs.length then r.put (outs.getD p.1.toNat 0) p.2 (some ev) else r).send outs ev b).uZ n _;have e:B+(p::b).length=B+1+b.length:=by simp;lia
  rw[e];split
  ·exact RS.uZ.send b (h.put d) d
  ·calc RS.uZ.send b (h.mono ()) d
theorem RS.xI{outs:List Nat}{ev:Int×Int}:∀(a:List (Int×Int)) {r:RS},(r.send outs ev a).mm=r.mm/\(r.send outs ev a).picks=r.picks
 | [],r=>⟨rfl,rfl⟩
 |p::a,r=>by
  show((if p.1.toNat<outs.length then r.put (outs.getD p.1.toNat 0) p.2 (some ev) else r).send outs ev a).mm=_/\((if p.1.toNat<outs.length then r.put (outs.getD p.1.toNat 0) p.2 (some ev) else r).send outs ev a).picks=_;split
  ·exact RS.xI a
  ·calc RS.xI a
theorem BL{u v w:List Int}(h:u <+:v):u <+:v++w:=by
 obtain⟨t,rfl⟩:=h;calc⟨t++w,nofun⟩
theorem zk(o:n.Ok)(h:r.Ok n){w:Nat}(j:w<n.ws.length){k:Nat}:(n.ik r w k).length=n.ms.length:=by
 have p:=o.il j;have m:((r.mm (n.goal w)).hr.bf (List.replicate n.ms.length 0)).length=n.ms.length:=by
  by_cases f:1<=(r.mm (n.goal w)).hr.length
  ·exact h.hl _ p _ (fH f)
  ·have e:(r.mm (n.goal w)).hr=[]:=by
    cases q:(r.mm (n.goal w)).hr with
    |nil=>rfl
    |cons a b=>rw[q]at f;simp at f
   rw[e];simp[List.bf]
 unfold NT.ik;simp only[List.length_set];split
 ·exact m
 ·next s c e=>
  have g:k<(r.ww w).snd.length:=by
   by_cases g:k<(r.ww w).snd.length
   ·exact g
   ·rw[L',List.getElem?_eq_none ()]at e;cases e
  have t:some (s,c)∈(r.ww w).snd:=by rw[<-e];exact getD_mem g
  obtain⟨u,v,x,y⟩:=h.sd w j s c t;have:=h.hl s.toNat () _ (getD_mem (l:=(r.mm s.toNat).hr) (i:=(c-1).toNat) (d:=[]) ());rw[List.length_zipWith,m,this];lia
theorem RS.Ok.step(t:n.Ok)(h:r.Ok n){w k:Nat}(p:w<n.ws.length):(r.step n w k).uZ n (20+24*r.picks.length):=by
 have g:=t.il p;obtain⟨A,F,G,H⟩:=sM t h p k;have j:∀i,(r.step n w k).mm i=if i=n.goal w then⟨(r.mm (n.goal w)).eB++[((n.work r w k).ns,(n.work r w k).row)],(r.mm (n.goal w)).wp++[(r.mm (n.goal w)).wp.bf []++(n.work r w k).words],(r.mm (n.goal w)).hr++[n.ik r w k]⟩ else r.mm i:=λi=>rfl
 have q:∀i,(r.step n w k).ww i=if i=w then {(r.ww w) with cF:=(r.ww w).cF.set k (some (n.ev r w))} else r.ww i:=λi=>rfl
 have x:(r.step n w k).picks.length=r.picks.length+1:=by show(r.picks++[_]).length=_;simp
 refine⟨λm f=>?_,λm f=>?_,λm f s b=>?_,λm f s b=>?_,λv o=>?_,λv o=>?_,λv o a c b=>?_,λm f=>?_,λm f u e=>?_,λv o=>?_,λm f u e=>?_⟩
 ·rw[j];split
  ·simp[h.lw _ g]
  ·exact h.lw m f
 ·rw[j];split
  ·simp[h.lh _ g]
  ·exact h.lh m f
 ·rw[j] at b;split at b
  ·next z=>
   subst z;rcases List.mem_append.mp b with b|b
   ·exact h.so _ g s b
   ·simp at b;subst b;exact A
  ·exact h.so m f s b
 ·rw[j] at b;split at b
  ·rcases List.mem_append.mp b with b | b
   ·exact h.hl _ g s b
   ·simp at b;subst b;exact zk t h p
  ·exact h.hl m f s b
 ·rw[q];split
  ·exact h.ls w p
  ·exact h.ls v o
 ·rw[q];split
  ·simp[h.lk w p]
  ·exact h.lk v o
 ·have B:some (a,c)∈(r.ww v).snd:=by
   rw[q]at b;split at b
   ·next z=>subst z;exact b
   ·exact b
  obtain⟨C,D,E,y⟩:=h.sd v o a c B;calc⟨C,D,E,?_⟩;rw[j];split
  ·next z=>rw[z]at y;simp;lia
  ·exact y
 ·rw[j,x];split
  ·have:=h.bp _ g;simp;lia
  ·have:=h.bp _ f;lia
 ·rw[x];rw[j] at e;split at e
  ·rcases List.mem_append.mp e with e | e
   ·have:=h.bw _ g u e;lia
   ·simp at e;subst e;have:=h.bw _ g _ (fH (l:=(r.mm (n.goal w)).wp) (d:=[]) (by rw[<-h.lw _ g];calc h.xH g));simp;lia
  ·have:=h.bw _ f u e;lia
 ·rw[q];split
  ·exact h.bs w p
  ·exact h.bs v o
 ·rw[j] at e ⊢;split at e
  ·next z=>
   rw[if_pos z];show u <+:((r.mm (n.goal w)).wp++[_]).bf [];rw[ua];rcases List.mem_append.mp e with e|e
   ·exact BL (h.WO _ g u e)
   ·simp at e;subst e;exact List.prefix_refl _
  ·next z=>rw[if_neg z];calc h.WO m f u e
theorem RS.Ok.pick(a:n.Ok)(h:r.Ok n){w k:Nat}(b:w<n.ws.length):(r.pick n w k).Ok n/\(r.pick n w k).picks=r.picks++[((w:Int),(k:Int))]:=by
 have d:=a.il b;obtain⟨c,f,g,i⟩:=sM a h b k;have s:=RS.uZ.send (outs:=n.outs (n.goal w)) (ev:=n.ev r w) (n.work r w k).cT (h.step a b (k:=k)) (λa c e=>by
  cases e;refine⟨(),(),?_,?_⟩
  ·have:=h.xH d;lia
  ·have a:(r.step n w k).mm (n.goal w)=⟨(r.mm (n.goal w)).eB++[((n.work r w k).ns,(n.work r w k).row)],(r.mm (n.goal w)).wp++[(r.mm (n.goal w)).wp.bf []++(n.work r w k).words],(r.mm (n.goal w)).hr++[n.ik r w k]⟩:=if_pos rfl;rw[show((n.goal w:Nat):Int).toNat=n.goal w from aao _,a,h.lh _ d];simp)
 have a:=(RS.xI (outs:=n.outs (n.goal w)) (ev:=n.ev r w) (n.work r w k).cT (r:=r.step n w k)).2;calc⟨s.ok ?_,a⟩;rw[a];show _<=20+24*(r.picks++[_]).length;simp;lia
end
end DD
namespace L2
open PySem PySem.Spec PyProof.Rows Builtin Builtin.Str
section
variable {X:Cx}
theorem uc{i j l:Nat}{x y z:Str}{d e f a:Pos}{k:Nat}(g:X.calm=true)(b:X.N.Nodup)(h:X.N[i]?=some x)(m:X.N[j]?=some y)(n:X.N[l]?=some z)(o:Loc X.env.scope x)(p:Loc X.env.scope y)(q:Loc X.env.scope z)
  (r:X.fn x=true\/X.env.scope.names.lookup x=some .local:=by grind) (s:X.fn y=true\/X.env.scope.names.lookup y=some .local:=by grind) (c:X.fn z=true\/X.env.scope.names.lookup z=some .local:=by grind):
  PG X (.Tuple [.Name x d,.Name y e,.Name z f] k a) (Ba X.K 3 (iA (dE i) (iA (dE j) (iA (dE l) A9)))):=Bb g (iB (aR b h o r) (iB (aR b m p s) (iB (aR b n q c) w6)))
theorem Fp{K:W.Frag}{i j l:Nat}{x y z:Str}{c d e a:Pos}{k:Nat}(f:X.K=K)(g:X.calm=true)(h:X.N.Nodup)(m:X.N[i]?=some x)(n:X.N[j]?=some y)(o:X.N[l]?=some z)(p:Loc X.env.scope x)(q:Loc X.env.scope y)(r:Loc X.env.scope z)
  (s:X.fn x=true\/X.env.scope.names.lookup x=some .local:=by grind) (t:X.fn y=true\/X.env.scope.names.lookup y=some .local:=by grind) (b:X.fn z=true\/X.env.scope.names.lookup z=some .local:=by grind):
  PG X (.Tuple [.Name x c,.Name y d,.Name z e] k a) (Ba K 3 (iA (dE i) (iA (dE j) (iA (dE l) A9)))):=f▸uc g h m n o p q r s t b
end
end L2
namespace L2
open PySem PyProof.Rows
theorem lt1{a b:Nat}(h:a+64<b):a+1<b:=by lia
section
variable {X:Cx}
def BM(z:Int):Value->Bool
 | .int i _=>i==z
 |_=>false
theorem ud:∀{ns:List Int}{us:List Value},Vals (ns.map V.int) us->us.length=ns.length/\∀(i:Nat) u z,us[i]?=some u->ns[i]?=some z->∃t,u=.int z t
 | [],_,.nil=>⟨rfl,λi u z h=>by simp at h⟩
 |n::ns,_,.cons r t=>by
  obtain⟨l,h⟩:=ud t;refine⟨by simp[l],λi u z a b=>?_⟩
  cases i with
  |zero=>simp at a b;subst a b;calc r
  |succ i=>calc h i u z (by simpa using a) (by simpa using b)
def Nr:V->List V->Hp->VK->Prop:=λx vs H Q=>∃(a:Addr) (ns:List Int) (j:Nat) (z:Int),x=.ref a/\vs=[.int z]/\H a=some (.lst (ns.map V.int))/\ns[j]?=some z/\(∀i y,i<j->ns[i]?=some y->y≠z)/\Q (.int j) H
theorem wd:Wf X "list.index" Nr:=by
 intro f s σ H x O v P Q I r D h;obtain⟨a,d,j,z,rfl,rfl,E,l,G,q⟩:=h
 cases r;obtain⟨u,rfl,o,rfl⟩:=D.one;obtain⟨b,r,J,h⟩:=I.list (aO.of E);obtain⟨f,K⟩:=ud r;have f:j<d.length:=(List.getElem?_eq_some_iff.mp l).1;have p:(d.map V.int).length<=sizeLine:=h;rw[M']at p;obtain⟨⟨r,s,f,L⟩,n,w,A,B,e⟩:=id J;simp only at A B e;subst A B e;have f:j<b.length:=by lia
 have c:∀m (g:m<b.length),∃y t,d[m]?=some y/\b[m]=.int y t:=λm g=>by
  have C:m<d.length:=by lia
  obtain⟨t,e⟩:=K m b[m] d[m] nofun nofun;exact⟨d[m],t,nofun,e⟩
 refine call_meets PySem.F.slot_list_index ⟨_,w,rfl⟩ PySem.F.entry_list_index (PySem.F.args_list_index_2 _ _) (SeqAt.list_indexAt a b.toArray n none L (.int z o) (BM z) j (by simpa using f) (by rw[aax]at p;lia) ?_ ?_) ⟨w,λy M=>?_,?_⟩
 ·obtain⟨y,t,i,k⟩:=c j f;rw[l] at i
  cases i;simp[k,BM]
 ·intro m g a;have C:m < b.length:=by simpa using g
  obtain⟨y,t,i,k⟩:=c m C;have:=G m y a i;simp[k,BM,this]
 ·have N:y ∈ b:=by simpa using M
  obtain⟨m,g,rfl⟩:=List.getElem_of_mem N;obtain⟨y,t,i,k⟩:=c m g;rw[k];exact SeqAt.EqAt.int_int y t z o
 ·calc⟨.int _,H,I.tok _,⟨_,rfl⟩,q⟩
end
end L2
namespace L2
open PySem PySem.Spec PyProof.Rows
section
def WQ(K:W.Frag):V->Option Int->Option Int->Hp->VK->Prop:=λx lo b H Q=>match x with
 | .ref a=>∃xs,aO K H a xs/\∀p,H p=none->Q (.ref p) (upd H p (.lst (dS xs lo b)))
 |_=>False
theorem acG{X:Cx}:Wc X (WQ X.K):=by
 intro a s σ H x v b c d e f Q I g i j k h
 cases x<;>first
  |calc(show False from h).elim
  |skip
 obtain⟨l,m,q⟩:=h;calc CW a s σ H _ v b c d e f Q I g i j k ⟨_,l,rfl,m,q⟩
theorem IJ{X:Cx}{e:Expr}{b:TE}{lo c:Option Expr}{d f:TO}{a g:Pos}(he:PE X e b)(h:PO X lo d)(i:PO X c f):PE X (.Subscript e (.Slice lo c none g) a) (UB (WQ X.K) b d f):=tx acG he h i
theorem Nt{xs:List V}{i j:Nat}:(dS xs (some (i:Int)) (some (j:Int))).length<=j-i:=by
 unfold dS;rw[show HT.eF xs.length 0 (some (i:Int))=min i xs.length from HT.sE _ _ i,show HT.eF xs.length xs.length (some (j:Int))=min j xs.length from HT.sE _ _ j,aaB];calc aaq (Nat.min_le_left _ _) ?_;rcases Nat.le_total xs.length i with h|h
 ·rw[Nat.min_eq_right h,Nat.sub_eq_zero_of_le (Nat.min_le_right _ _)];exact aaj _
 ·rw[Nat.min_eq_left h];calc Nat.sub_le_sub_right (Nat.min_le_left _ _) _
theorem Nu{xs:List V}{lo a:Option Int}{v:V}(h:v∈dS xs lo a):v∈xs:=List.mem_of_mem_drop (List.mem_of_mem_take h)
end
section
variable {a dx:Addr}{Q:Bool->Hp->Prop}{X:Cx}{H:Hp}{f:Str}{v:V}{K:W.Frag}
theorem fld{C:Addr}{b:List (Str×V)}{Q:V->Prop}(h:H a=some (.ins C dx b))(c:vd K C)(n:cJ K C f)(l:b.lookup f=some v)(q:Q v):∃e d j g i,V.ref a=.ref e/\H e=some (.ins d j g)/\vd K d/\cJ K d f/\g.lookup f=some i/\Q i:=⟨a,C,dx,b,v,rfl,h,c,n,l,q⟩
theorem mth{C:Addr}{b:List (Str×V)}{Q:Addr->Prop}(h:H a=some (.ins C dx b))(l:b.lookup f=none)(q:Q a):∃c e d,V.ref a=.ref c/\H c=some (.ins C e d)/\d.lookup f=none/\Q c:=⟨a,dx,b,rfl,h,l,q⟩
theorem fN{C:Addr}{b:List (Str×V)}{Q:V->Prop}(h:H a=some (.ins C dx b))(c:vd K C)(n:cJ K C f)(l:b.lookup f=some v)(q:Q v):∃e d j g i,a=e/\H e=some (.ins d j g)/\vd K d/\cJ K d f/\g.lookup f=some i/\Q i:=⟨a,C,dx,b,v,rfl,h,c,n,l,q⟩
theorem gO{C:Addr}{b:List (Str×V)}{Q:Addr->Prop}(h:H a=some (.ins C dx b))(l:b.lookup f=none)(q:Q a):∃c e d,a=c/\H c=some (.ins C e d)/\d.lookup f=none/\Q c:=⟨a,dx,b,rfl,h,l,q⟩
theorem rF{x y:V}{P:V->V->Prop}(h:bF K H a [x,y])(q:P x y):∃b xs,V.ref a=.ref b/\bF K H b xs/\xs.length=2/\∃v r,xs=v::r/\∃c d,r=c::d/\d=[]/\P v c:=⟨a,_,rfl,h,rfl,_,_,rfl,_,_,rfl,rfl,q⟩
theorem un3{x y z:V}{P:V->V->V->Prop}(h:bF K H a [x,y,z])(q:P x y z):∃d xs,V.ref a=.ref d/\bF K H d xs/\xs.length=3/\∃v r,xs=v::r/\∃e f,r=e::f/\∃b c,f=b::c/\c=[]/\P v e b:=⟨a,_,rfl,h,rfl,_,_,rfl,_,_,rfl,_,_,rfl,rfl,q⟩
theorem gp{A B R:Prop}(a:A)(b:B)(r:R):A/\B/\R:=⟨a,b,r⟩
theorem bD{α:Type}{A R:α->Prop}(x:α)(a:A x)(r:R x):∃x,A x/\R x:=⟨x,a,r⟩
theorem iE{α:Type}{A B R:α->Prop}(x:α)(a:A x)(b:B x)(r:R x):∃x,A x/\B x/\R x:=⟨x,a,b,r⟩
theorem Nv{α:Type}{A B C R:α->Prop}(x:α)(a:A x)(b:B x)(ch:C x)(r:R x):∃x,A x/\B x/\C x/\R x:=⟨x,a,b,ch,r⟩
theorem xJ{α β:Type}{A R:α->β->Prop}(x:α)(y:β)(a:A x y)(r:R x y):∃x y,A x y/\R x y:=⟨x,y,a,r⟩
theorem cW{α β:Type}{A B R:α->β->Prop}(x:α)(y:β)(a:A x y)(b:B x y)(r:R x y):∃x y,A x y/\B x y/\R x y:=⟨x,y,a,b,r⟩
theorem ue{α β:Type}{A B C R:α->β->Prop}(x:α)(y:β)(a:A x y)(b:B x y)(ch:C x y)(r:R x y):∃x y,A x y/\B x y/\C x y/\R x y:=⟨x,y,a,b,ch,r⟩
theorem lS{α β:Type}{A B C D R:α->β->Prop}(x:α)(y:β)(a:A x y)(b:B x y)(ch:C x y)(c:D x y)(r:R x y):∃x y,A x y/\B x y/\C x y/\D x y/\R x y:=⟨x,y,a,b,ch,c,r⟩
theorem acH{α β γ:Type}{A B R:α->β->γ->Prop}(x:α)(y:β)(z:γ)(a:A x y z)(b:B x y z)(r:R x y z):∃x y z,A x y z/\B x y z/\R x y z:=⟨x,y,z,a,b,r⟩
theorem R8{α β γ:Type}{A B C R:α->β->γ->Prop}(x:α)(y:β)(z:γ)(a:A x y z)(b:B x y z)(ch:C x y z)(r:R x y z):∃x y z,A x y z/\B x y z/\C x y z/\R x y z:=⟨x,y,z,a,b,ch,r⟩
theorem fz{α β γ δ:Type}{A B R:α->β->γ->δ->Prop}(x:α)(y:β)(z:γ)(u:δ)(a:A x y z u)(b:B x y z u)(r:R x y z u):∃x y z u,A x y z u/\B x y z u/\R x y z u:=⟨x,y,z,u,a,b,r⟩
theorem acI{α β γ δ:Type}{A B C R:α->β->γ->δ->Prop}(x:α)(y:β)(z:γ)(u:δ)(a:A x y z u)(b:B x y z u)(ch:C x y z u)(r:R x y z u):∃x y z u,A x y z u/\B x y z u/\C x y z u/\R x y z u:=⟨x,y,z,u,a,b,ch,r⟩
theorem WR{α β γ δ:Type}{A B C D R:α->β->γ->δ->Prop}(x:α)(y:β)(z:γ)(u:δ)(a:A x y z u)(b:B x y z u)(ch:C x y z u)(c:D x y z u)(r:R x y z u):∃x y z u,A x y z u/\B x y z u/\C x y z u/\D x y z u/\R x y z u:=⟨x,y,z,u,a,b,ch,c,r⟩
theorem BN{α β γ δ:Type}{A B C D E R:α->β->γ->δ->Prop}(x:α)(y:β)(z:γ)(u:δ)(a:A x y z u)(b:B x y z u)(ch:C x y z u)(c:D x y z u)(d:E x y z u)(r:R x y z u):∃x y z u,A x y z u/\B x y z u/\C x y z u/\D x y z u/\E x y z u/\R x y z u:=⟨x,y,z,u,a,b,ch,c,d,r⟩
theorem acJ{α β γ δ:Type}{A B C D E F R:α->β->γ->δ->Prop}(x:α)(y:β)(z:γ)(u:δ)(a:A x y z u)(b:B x y z u)(ch:C x y z u)(c:D x y z u)(d:E x y z u)(e:F x y z u)(r:R x y z u):∃x y z u,A x y z u/\B x y z u/\C x y z u/\D x y z u/\E x y z u/\F x y z u/\R x y z u:=⟨x,y,z,u,a,b,ch,c,d,e,r⟩
theorem acK{α β γ δ ε:Type}{A B C D R:α->β->γ->δ->ε->Prop}(x:α)(y:β)(z:γ)(u:δ)(v:ε)(a:A x y z u v)(b:B x y z u v)(ch:C x y z u v)(c:D x y z u v)(r:R x y z u v):∃x y z u v,A x y z u v/\B x y z u v/\C x y z u v/\D x y z u v/\R x y z u v:=⟨x,y,z,u,v,a,b,ch,c,r⟩
theorem acL{α β γ δ ε:Type}{A B C D E R:α->β->γ->δ->ε->Prop}(x:α)(y:β)(z:γ)(u:δ)(v:ε)(a:A x y z u v)(b:B x y z u v)(ch:C x y z u v)(c:D x y z u v)(d:E x y z u v)(r:R x y z u v):∃x y z u v,A x y z u v/\B x y z u v/\C x y z u v/\D x y z u v/\E x y z u v/\R x y z u v:=⟨x,y,z,u,v,a,b,ch,c,d,r⟩
theorem WT{α β γ δ ε:Type}{A B C D E F R:α->β->γ->δ->ε->Prop}(x:α)(y:β)(z:γ)(u:δ)(v:ε)(a:A x y z u v)(b:B x y z u v)(ch:C x y z u v)(c:D x y z u v)(d:E x y z u v)(e:F x y z u v)(r:R x y z u v):∃x y z u v,A x y z u v/\B x y z u v/\C x y z u v/\D x y z u v/\E x y z u v/\F x y z u v/\R x y z u v:=⟨x,y,z,u,v,a,b,ch,c,d,e,r⟩
theorem PE.imp{e:Expr}{t u:TE}(h:PE X e t)(i:∀σ H Q,u σ H Q->t σ H Q):PE X e u:=⟨λp s σ H Q I q=>h.out p s σ H Q I (i σ H Q q)⟩
def tV(i:Nat):TE:=λσ H Q=>match σ[i]? with
 |some (some v)=>Q v H
 |_=>False
theorem R9{i:Nat}(σ:St)(H:Hp)(Q:VK)(h:tV i σ H Q):GN i σ H Q:=by
 unfold tV at h;split at h
 ·exact⟨_,by assumption,h⟩
 ·calc h.elim
def bB(Q:Bool->Hp->Prop):V->Hp->Prop
 | .bl k,H=>Q k H
 |_,_=>False
theorem Sa{Q:Bool->Hp->Prop}{x:V}{H:Hp}(h:bB Q x H):∃k,x=.bl k/\Q k H:=by
 cases x with
 |bl k=>calc⟨k,rfl,h⟩
 |_=>calc h.elim
theorem WU{k:Bool}:bB Q (.bl k) H=Q k H:=rfl
theorem pL{k:Bool}(h:Q k H):bB Q (.bl k) H:=h
def tT(t:TE):TT:=λσ H Q=>t σ H (bB Q)
theorem WV:bB Q=λx H=>∃k,x=.bl k/\Q k H:=by
 funext x H;calc propext ⟨Sa,?_⟩;rintro⟨k,rfl,h⟩;calc h
theorem Pf:tT=CM:=by
 funext t σ H Q;show t σ H (bB Q)=_;rw[WV];rfl
theorem Sb:tT=tB:=Pf
section
variable {X:Cx}{a b:Expr}{ta tb:TE}{pos:Pos}
theorem aC{c:CmpOp}{r:R2}(d:fQ X (compareOp c) r)(e:PE X a ta)(f:PE X b tb)(g:behindInMarks c b=false):PT X (.Compare a [c] [b] pos) (tT (AK r ta tb)):=by
 rw[Pf];calc xb d e f g
theorem bu{e:Expr}{t:TE}(h:PE X e t)(he:∀a,PySem.isTrue e X.env a=(do let v <-a;standAt e.pos;holding [v] (truthy v)):=by intro _;rfl):PT X e (tT t):=by
 rw[Sb];calc QV h he
theorem au(i:Nat){x:Str}{pos:Pos}(a:X.N[i]?=some x:=by rfl)(b:VT X.env.scope x:=by first|calc Or.inl rfl|calc Or.inr (Or.inl rfl)|calc Or.inr (Or.inr rfl))(c:(x==("__debug__":Str))=false:=by decide)
  (d:(x==("__classdict__":Str))=false:=by decide):PE X (.Name x pos) (tV i):=(GO a b c d).imp R9
end
section
variable {K:W.Frag}{H:Hp}{Q:VK}{i j:Int}{s t:Str}{a b:Addr}
def Sd(K:W.Frag):R2:=λx y H Q=>match x,y with
 | .int i,.int j=>Q (.bl (decide (i=j))) H
 | .str s,.str t=>Q (.bl (decide (s=t))) H
 |x,y=>RL K x y H Q
def WW(K:W.Frag):R2:=λx y H Q=>match x,y with
 | .int i,.int j=>Q (.bl (!decide (i=j))) H
 | .str s,.str t=>Q (.bl (!decide (s=t))) H
 |x,y=>UJ K x y H Q
theorem IK:Sd K (.int i) (.int j) H Q=Q (.bl (decide (i=j))) H:=rfl
theorem IL:Sd K (.str s) (.str t) H Q=Q (.bl (decide (s=t))) H:=rfl
theorem IM:Sd K (.ref a) (.ref b) H Q=((j5 K H 20 (.ref a) (.ref b)/\Q (.bl true) H)\/(tN K H a b/\Q (.bl false) H)):=rfl
theorem IP:WW K (.int i) (.int j) H Q=Q (.bl (!decide (i=j))) H:=rfl
theorem IQ:WW K (.str s) (.str t) H Q=Q (.bl (!decide (s=t))) H:=rfl
theorem IS:WW K (.ref a) (.ref b) H Q=((j5 K H 20 (.ref a) (.ref b)/\Q (.bl false) H)\/(tN K H a b/\Q (.bl true) H)):=rfl
theorem IT:Sd K=RL K:=by
 funext x y H Q
 cases x<;>cases y<;>first|rfl|calc xu.symm|calc xy.symm
theorem Se:WW K=UJ K:=by
 funext x y H Q
 cases x<;>cases y<;>first|rfl|calc xA.symm|calc xB.symm
theorem aY(a:X.A.units+64<cLine):fQ X (compareOp .Eq) (Sd X.K):=IT▸HK a
theorem ip(a:X.A.units+64<cLine):fQ X (compareOp .NotEq) (WW X.K):=Se▸HL a
theorem lT(a:X.K=K)(b:X.A.units+64<cLine):fQ X (compareOp .Eq) (Sd K):=IT▸Nf a b
end
theorem HT.cG{n:Nat}{i:Int}(h:HT H n v (.int i)):v=.int i:=by
 cases h;rfl
theorem HT.cX{n:Nat}{s:Str}(h:HT H n v (.str s)):v=.str s:=by
 cases h;rfl
theorem HD.cG{n:Nat}{i:Int}(h:HD H n v (.int i)):v=.int i:=by
 cases h;rfl
theorem HD.cX{n:Nat}{s:Str}(h:HD H n v (.str s)):v=.str s:=by
 cases h;rfl
end
end L2
namespace DD
open PySem L2
variable {x:Int}{e:Int×Int}{u:Nat}{s:Option (Int×Int)}
def uf(r:RS):Nat->Nat
 |0=>0
 |W+1=>uf r W+(r.ww W).cF.countP Option.isSome
structure RS.Iv(n:NT)(r:RS):Prop where
 ev:∀(w k:Nat) (m c:Int),w<n.ws.length->(r.ww w).cF[k]?=some (some (m,c))->0<=m/\m<n.ms.length/\c<(r.mm m.toNat).eB.length
 inj:∀(w k w' k':Nat) (e:Int×Int),w<n.ws.length->w'<n.ws.length->(r.ww w).cF[k]?=some (some e)->(r.ww w').cF[k']?=some (some e)->w=w'/\k=k'
 pk:∀p∈r.picks,∃w k:Nat,∃e,p=((w:Int),(k:Int))/\w<n.ws.length/\(r.ww w).cF[k]?=some (some e)
 cnt:uf r n.ws.length=r.picks.length
theorem qj{r a:RS}:∀{W:Nat},(∀w,w<W->(a.ww w).cF.countP Option.isSome=(r.ww w).cF.countP Option.isSome)->uf a W=uf r W
 |0,_=>rfl
 |W+1,h=>by rw[uf,uf,qj λw a=>h w (),h W ()]
theorem zl{r:RS}:∀{W V:Nat},V<=W->uf r V<=uf r W
 |0,V,h=>Nat.le_of_eq (by rw[Nat.le_zero.mp h])
 |W+1,V,h=>by
  by_cases e:V=W+1
  ·rw[e];exact F' _
  ·calc aaq (zl (W:=W) ()) (aa2 _ _)
theorem IU{r a:RS}{w:Nat}(c:(a.ww w).cF.countP Option.isSome=(r.ww w).cF.countP Option.isSome+1)(b:∀u,u≠w->a.ww u=r.ww u):∀{W:Nat},w<W->uf a W=uf r W+1
 |0,h=>absurd h (aaX _)
 |W+1,h=>by
  by_cases e:w=W
  ·subst e;have d:uf a w=uf r w:=qj λu a=>by rw[b u ()]
   rw[uf,uf,c,d];lia
  ·rw[uf,uf,IU c b (W:=W) (),b W (λz=>e z.symm)];lia
theorem Fq{l:List (Option (Int×Int))}{k:Nat}:(l++[none])[k]?=some (some e)↔l[k]?=some (some e):=by
 by_cases h:k<l.length
 ·rw[W' h]
 ·rw[V' (),List.getElem?_eq_none (l:=l) ()];constructor
  ·intro z
   cases a:k-l.length with
   |zero=>rw[a]at z;simp at z
   |succ j=>rw[a]at z;simp at z
  ·intro z;cases z
section
variable {n:NT}{r:RS}
theorem IV{w:Nat}:((r.put w x s).ww u).cF=if u=w then(r.ww w).cF++[none] else(r.ww u).cF:=by
 show(if u=w then _ else _:WY).cF=_;split<;>rfl
theorem ki{w:Nat}{k:Nat}:((r.put w x s).ww u).cF[k]?=some (some e)↔(r.ww u).cF[k]?=some (some e):=by
 rw[IV];split
 ·next z=>subst z;exact Fq
 ·calc Iff.rfl
theorem Nw{w:Nat}{W:Nat}:uf (r.put w x s) W=uf r W:=qj λu _=>by
 rw[IV];split
 ·next z=>subst z;simp
 ·rfl
theorem RS.Iv.put(h:r.Iv n){w:Nat}{x:Int}{s:Option (Int×Int)}:(r.put w x s).Iv n:=
  ⟨λu k m c a f=>h.ev u k m c a (ki.mp f),λu k g i e a j b d=>h.inj u k g i e a j (ki.mp b) (ki.mp d),
   λp a=>let ⟨u,k,e,b,d,c⟩:=h.pk p a;⟨u,k,e,b,d,ki.mpr c⟩,Nw.trans h.cnt⟩
theorem RS.Iv.send{outs:List Nat}{ev:Int×Int}:∀(a:List (Int×Int)) {r:RS},r.Iv n->(r.send outs ev a).Iv n
 | [],r,h=>h
 |p::a,r,h=>by
  show((if p.1.toNat<outs.length then r.put (outs.getD p.1.toNat 0) p.2 (some ev) else r).send outs ev a).Iv n;split
  ·exact RS.Iv.send a h.put
  ·calc RS.Iv.send a h
theorem RS.Iv.k9:∀(a:List (Int×Int)) {r:RS},r.Iv n->(r.k9 a).Iv n
 | [],r,h=>h
 |p::a,r,h=>RS.Iv.k9 a h.put
theorem RS.Iv.begin{a:List (Int×Int)}:(RS.begin n a).Iv n:=
 RS.Iv.k9 a ⟨λw k m c _ h=>by simp[RS.new] at h,λw k a b e _ _ h=>by simp[RS.new] at h,λp a=>absurd a List.not_mem_nil,by
  have:∀W,uf (RS.new n) W=0:=λW=>by
   induction W with
   |zero=>rfl
   |succ W a=>rw[uf,a];rfl
  calc this _⟩
theorem Ds:∀{l:List (Option (Int×Int))}{k:Nat}{e:Int×Int},l[k]?=some none->(l.set k (some e)).countP Option.isSome=l.countP Option.isSome+1
 | [],k,e,h=>by simp at h
 |a::l,0,e,h=>by
  simp at h;subst h;simp
 |a::l,k+1,e,h=>by
  have:=Ds (l:=l) (k:=k) (e:=e) (by simpa using h);rw[List.set_cons_succ,List.countP_cons,List.countP_cons,this];lia
theorem Dt{w k:Nat}:((r.step n w k).ww u).cF=if u=w then(r.ww w).cF.set k (some (n.ev r w)) else(r.ww u).cF:=by
 show(if u=w then _ else _:WY).cF=_;split<;>rfl
theorem iF{w k j:Nat}(b:(r.ww w).cF[k]?=some none):((r.step n w k).ww u).cF[j]?=some (some e)↔(u=w/\j=k/\e=n.ev r w)\/(r.ww u).cF[j]?=some (some e):=by
 have c:k<(r.ww w).cF.length:=(List.getElem?_eq_some_iff.mp b).1;rw[Dt];split
 ·next z=>
  subst z;by_cases a:j=k
  ·subst a;rw[List.getElem?_set_self c,b];constructor
   ·intro z;cases z;exact .inl ⟨rfl,rfl,rfl⟩
   ·rintro(⟨_,_,rfl⟩ | z)
    ·rfl
    ·cases z
  ·rw[List.getElem?_set_ne (λz=>a z.symm)];exact⟨.inr,λz=>z.elim (λq=>absurd q.2.1 a) id⟩
 ·next z=>calc⟨.inr,λq=>q.elim (λq=>absurd q.1 z) id⟩
theorem zm{w k:Nat}{m:Nat}:((r.step n w k).mm m).eB.length=(r.mm m).eB.length+if m=n.goal w then 1 else 0:=by
 show(if m=n.goal w then _ else _:MS).eB.length=_;split
 ·next z=>subst z;simp
 ·simp
theorem RS.Iv.step(h:r.Iv n)(z:n.Ok){w k:Nat}(x:w<n.ws.length)(l:(r.ww w).cF[k]?=some none):(r.step n w k).Iv n:=by
 have K:=z.il x;refine⟨λu j m c g t=>?_,λu j B C e g y o q=>?_,λp i=>?_,?_⟩
 ·rcases(iF l).mp t with⟨_,_,e⟩ | t
  ·cases e;calc⟨(),(),?_⟩;rw[aao,zm,if_pos rfl];lia
  ·obtain⟨a,b,d⟩:=h.ev u j m c g t;calc⟨a,b,?_⟩;rw[zm];split<;>lia
 ·have v:∀{u j:Nat},u<n.ws.length->(r.ww u).cF[j]?=some (some (n.ev r w))->False:=λ{u j} g t=>by
   obtain⟨_,_,d⟩:=h.ev u j _ _ g t;rw[aao]at d;lia
  rcases(iF l).mp o with⟨F,G,I⟩|o<;>rcases(iF l).mp q with⟨a,b,J⟩|q
  ·exact⟨F.trans a.symm,G.trans b.symm⟩
  ·subst I;exact(v y q).elim
  ·subst J;exact(v g o).elim
  ·exact h.inj u j B C e g y o q
 ·have i:p ∈ r.picks++[((w:Int),(k:Int))]:=i;rcases List.mem_append.mp i with i | i
  ·obtain⟨u,j,e,o,q,a⟩:=h.pk p i;exact⟨u,j,e,o,q,(iF l).mpr (.inr a)⟩
  ·simp at i;exact⟨w,k,_,i,x,(iF l).mpr (.inl ⟨rfl,rfl,rfl⟩)⟩
 ·have a:((r.step n w k).ww w).cF.countP Option.isSome=(r.ww w).cF.countP Option.isSome + 1:=by rw[Dt,if_pos rfl,Ds l]
  have b:∀u,u≠w->(r.step n w k).ww u=r.ww u:=λu g=>if_neg g;rw[IU a b x,h.cnt];show _=(r.picks++[_]).length;simp
theorem RS.Iv.pick(h:r.Iv n)(a:n.Ok){w k:Nat}(b:w<n.ws.length)(c:(r.ww w).cF[k]?=some none):(r.pick n w k).Iv n:=RS.Iv.send _ (h.step a b c)
variable {H H':Hp}{bb:List (List Key×V)}{w k:Nat}
end
end DD
namespace DD
open PySem L2
end DD
set_option maxHeartbeats 400000
namespace L2
open PySem PySem.Spec PyProof.Rows
section
section
variable {X:Cx}{o e:Expr}{es:List Expr}{to:TE}{t:TA}{apos p pos:Pos}{C:Addr}{m x:Str}{k j:Nat}{ps:List Str}{sp:Sp}{E:XK}
end
end
section
end
end L2
namespace L2
open PySem PySem.Spec PyProof.Rows
end L2
set_option maxHeartbeats 4000000
namespace L2
open PySem PySem.W PyProof.Rows
variable {p:Array Nat}{i:Nat}
structure vj(n:Nat)(lt:Nat->Nat->Bool):Prop where
 as:∀i j,lt i j=true->lt j i=false
 tr:∀i j k,lt i j=true->lt j k=true->lt i k=true
 tot:∀i j,i<n->j<n->i≠j->lt i j=false->lt j i=true
def xK(n:Nat)(c:Nat->Nat->Bool){α:Type}(t:KasT α)(Q:α->Prop):Prop:=
 ∀(b:Nat->Nat->(Bool->Shared->Prop)->Shared->Prop) (G:α->Shared->Prop) (s:Shared),(∀i j C,i<n->j<n->C (c i j) s->b i j C s)->(∀a,Q a->G a s)->t.kasWp b G s
section
variable {n:Nat}{lt:Nat->Nat->Bool}{α β:Type}
theorem xK.ret{a:α}{Q:α->Prop}(h:Q a):xK n lt (.ret a) Q:=λ_ _ _ _ b=>b a h
theorem xK.ask{j:Nat}{k:Bool->KasT α}{Q:α->Prop}(c:i<n)(d:j<n)(h:xK n lt (k (lt i j)) Q):xK n lt (.ask i j k) Q:=λa G s b e=>b i j _ c d (h a G s b e)
theorem xK.bind{t:KasT α}{f:α->KasT β}{R:α->Prop}{Q:β->Prop}(h:xK n lt t R)(d:∀a,R a->xK n lt (f a) Q):xK n lt (t.bind f) Q:=λb G s c e=>by
 rw[KasT.kasWp_bind];calc h b _ s c λa f=>d a f b G s c e
theorem xK.mono{t:KasT α}{R Q:α->Prop}(h:xK n lt t R)(c:∀a,R a->Q a):xK n lt t Q:=λb G s d e=>h b G s d λa f=>e a (c a f)
def PP(n:Nat)(p:Array Nat):Prop:=p.Perm (List.range n).toArray
theorem PP.size(h:PP n p):p.size=n:=by have:=h.size_eq;simpa using this
theorem PP.get(h:PP n p){i:Nat}(a:i<n):p[i]?=some (p.getD i 0):=by
 have:=h.size;rw[aaD,Array.getElem?_eq_getElem ()];rfl
theorem PP.AQ(h:PP n p){i:Nat}(a:i<n):p.getD i 0<n:=by
 have e:=h.get a;have m:p.getD i 0∈p:=Array.mem_of_getElem? e;have:=h.mem_iff.mp m;simpa using this
theorem PP.inj(h:PP n p){i j:Nat}(b:i<n)(d:j<n)(f:i≠j):p.getD i 0≠p.getD j 0:=λe=>by
 have g:p.toList.Nodup:=(h.toList).nodup_iff.mpr (by simpa using List.nodup_range);have a:=h.get b;have c:=h.get d;rw[<-Array.getElem?_toList]at a c;rw[e,<-c]at a;calc f ((List.getElem?_inj (by have:=h.size;simpa[this] using b) g).mp a)
def SS(lt:Nat->Nat->Bool)(p:Array Nat)(k:Nat):Prop:=∀i j,i<j->j<k->lt (p.getD i 0) (p.getD j 0)=true
def SD(lt:Nat->Nat->Bool)(p:Array Nat)(k:Nat):Prop:=∀i j,i<j->j<k->lt (p.getD j 0) (p.getD i 0)=true
theorem SS.succ(a:vj n lt){p:Array Nat}{k:Nat}(h:SS lt p k)(b:1<=k)(e:lt (p.getD (k-1) 0) (p.getD k 0)=true):SS lt p (k+1):=λi j b c=>by
 by_cases z:j<k
 ·exact h i j b z
 ·obtain rfl:j=k:=by lia
  by_cases y:i=j-1
  ·rw[y];exact e
  ·calc a.tr _ _ _ (h i (j-1) () ()) e
theorem SD.succ(a:vj n lt){p:Array Nat}{k:Nat}(h:SD lt p k)(b:1<=k)(e:lt (p.getD k 0) (p.getD (k-1) 0)=true):SD lt p (k+1):=λi j b c=>by
 by_cases z:j<k
 ·exact h i j b z
 ·obtain rfl:j=k:=by lia
  by_cases y:i=j-1
  ·rw[y];exact e
  ·calc a.tr _ _ _ e (h i (j-1) () ())
theorem BO(l:vj n lt){p:Array Nat}(g:PP n p):∀(f k:Nat),1<=k->k+f<=n->SS lt p k->xK n lt (kas_asc p f k) λm=>k<=m/\m<=k+f/\SS lt p m/\(m<k+f->lt (p.getD m 0) (p.getD (m-1) 0)=true)
 |0,k,o,_,h=>.ret ⟨F' _,F' _,h,λz=>absurd z (aaM _)⟩
 |f+1,k,o,a,h=>by
  unfold kas_asc;refine .ask (g.AQ ()) (g.AQ ()) ?_
  cases e:lt (p.getD k 0) (p.getD (k-1) 0) with
  |true=>
   rw[if_pos rfl];calc .ret ⟨F' _,(),h,λ_=>e⟩
  |false=>
   rw[if_neg ∅];have q:=l.tot _ _ (g.AQ ()) (g.AQ ()) (g.inj (i:=k) (j:=k-1) () () ()) e;calc(BO l g f (k+1) () () (h.succ l o q)).mono λm ⟨a,b,c,d⟩=>⟨(),(),c,λz=>d ()⟩
theorem Du(o:vj n lt){p:Array Nat}(l:PP n p):∀(f k:Nat),1<=k->k+f<=n->SD lt p k->xK n lt (kas_desc f p k 0) λr=>r.1=p/\k<=r.2.1/\r.2.1<=k+f/\r.2.2=0/\SD lt p r.2.1
 |0,k,q,_,h=>.ret ⟨rfl,F' _,F' _,rfl,h⟩
 |f+1,k,q,a,h=>by
  unfold kas_desc;refine .ask (l.AQ ()) (l.AQ ()) ?_
  cases e:lt (p.getD k 0) (p.getD (k-1) 0) with
  |true=>
   rw[if_pos rfl,if_neg ()];calc(Du o l f (k+1) () () (h.succ o q e)).mono λm ⟨a,b,c,d,g⟩=>⟨a,(),(),d,g⟩
  |false=>
   rw[if_neg ∅];have a:=o.tot _ _ (l.AQ ()) (l.AQ ()) (l.inj (i:=k) (j:=k-1) () () ()) e;calc .ask (l.AQ ()) (l.AQ ()) ?_;rw[a,if_pos rfl];calc .ret ⟨rfl,F' _,aa2 _ _,rfl,h⟩
theorem IW{k:Nat}(a:PP n p)(c:k<=n)(b:i<k):(kas_rev p 0 k).getD i 0=p.getD (k-1-i) 0:=by
 have c:=a.size;unfold kas_rev;rw[aaD,getElem?_mirror_all (),if_pos ⟨aaj _,b⟩,Nat.zero_add,<-aaD]
theorem IX{j:Nat}(a:PP n p):PP n (kas_rev p i j):=(mirror_perm _ _ _ _).trans a
theorem IY(a:vj n lt){p:Array Nat}(d:PP n p){k:Nat}(b:1<=k)(e:k<=n)(h:SD lt p k):xK n lt (kas_tail3 k n p) λr=>1<=r.1/\r.1<=n/\PP n r.2/\SS lt r.2 r.1:=by
 unfold kas_tail3;calc .bind (BO a (IX (i:=0) (j:=k) d) (n-k) k b () λi j a f=>?_) λm ⟨a,b,c,_⟩=>.ret ⟨(),(),IX d,c⟩;rw[IW d e (),IW d e f];calc h _ _ () ()
theorem IZ(g:vj n lt){p:Array Nat}(f:PP n p)(a:1<=n):xK n lt (kas_count n p) λr=>1<=r.1/\r.1<=n/\PP n r.2/\SS lt r.2 r.1:=by
 unfold kas_count;calc .bind (BO g f (n-1) 1 (F' _) () λi j k l=>by lia) λm o=>?_;obtain⟨a,b,c,d⟩:=o;by_cases b:m=n
 ·rw[if_pos (by simpa using b)];exact .ret ⟨a,(),f,c⟩
 ·rw[if_neg (by simpa using b)];by_cases h:m > 1
  ·rw[if_pos h];calc .ask (f.AQ ()) (f.AQ ()) ?_;rw[c 0 (m-1) () (),if_pos rfl];exact .ret ⟨a,(),f,c⟩
  ·rw[if_neg h];obtain rfl:m=1:=by lia
   unfold kas_descPart;refine .bind (Du g f (n-(1+1)) (1+1) () () λi j k l=>?_) λr ⟨e,a,b,c,q⟩=>?_
   ·obtain⟨rfl,rfl⟩:i=0/\j=1:=by lia
    exact d ()
   ·rw[if_neg (),e];calc IY g f () () q
theorem ug(b:vj n lt){p:Array Nat}(a:PP n p){k:Nat}(c:k<n)(d:SS lt p k):∀(f l r:Nat),l<=r->r<=k->r-l<=f->(∀i,i<l->lt (p.getD i 0) (p.getD k 0)=true)->(∀i,r<=i->i<k->lt (p.getD k 0) (p.getD i 0)=true)->xK n lt (kas_place p k f l r) λm=>m<=k/\(∀i,i<m->lt (p.getD i 0) (p.getD k 0)=true)/\(∀i,m<=i->i<k->lt (p.getD k 0) (p.getD i 0)=true)
 |0,l,r,e,g,q,h,o=>by
  obtain rfl:l=r:=by lia
  calc .ret ⟨g,h,o⟩
 |f+1,l,r,e,g,q,h,o=>by
  unfold kas_place;by_cases z:l >= r
  ·rw[if_pos z];obtain rfl:l=r:=by lia
   exact .ret ⟨g,h,o⟩
  ·rw[if_neg z];refine .ask (a.AQ c) (a.AQ ()) ?_
   cases e:lt (p.getD k 0) (p.getD ((l+r)/2) 0) with
   |true=>
    rw[if_pos rfl];calc ug b a c d f l _ () () () h λi m q=>?_;by_cases y:i=(l+r)/2
    ·rw[y];exact e
    ·calc b.tr _ _ _ e (d _ _ () q)
   |false=>
    rw[if_neg ∅];have h:=b.tot _ _ (a.AQ c) (a.AQ ()) (a.inj (i:=k) (j:=(l+r)/2) c () ()) e;calc ug b a c d f _ r () g () (λi m=>?_) o;by_cases y:i=(l+r)/2
    ·rw[y];exact h
    ·calc b.tr _ _ _ (d _ _ () ()) h
theorem Ja{k l:Nat}(b:PP n p)(a:k<n)(c:l<=k):(bubble p k (k-l)).getD i 0=if i=l then p.getD k 0 else if l<i/\i<=k then p.getD (i-1) 0 else p.getD i 0:=by
 have a:=b.size;rw[aaD,getElem?_bubble () _ (),show k-(k-l)=l by lia];by_cases a:i=l
 ·rw[if_pos a,if_pos a,<-aaD]
 ·rw[if_neg a,if_neg a];by_cases b:l < i/\i<=k
  ·rw[if_pos b,if_pos b,<-aaD]
  ·rw[if_neg b,if_neg b,<-aaD]
theorem Jb(e:vj n lt):∀(f:Nat) {p:Array Nat}(k:Nat),PP n p->1<=k->k+f=n->SS lt p k->xK n lt (kas_bin f p k) λq=>PP n q/\SS lt q n
 |0,p,k,d,_,a,h=>.ret ⟨d,by rw[show n=k by lia];calc h⟩
 |f+1,p,k,d,b,a,h=>by
  unfold kas_bin;calc .bind (ug e d () h k 0 k (aaj _) (F' _) () (λi z=>absurd z (aaX _)) λi a b=>by lia) λl g=>?_;obtain⟨a,b,c⟩:=g;calc Jb e f (k+1) ((bubble_perm _ _ _).trans d) () () λi j m o=>?_;rw[Ja d () a,Ja d () a];by_cases e:i=l
  ·rw[if_pos e,if_neg (),if_pos ()];exact c _ () ()
  ·rw[if_neg e];by_cases a:j=l
   ·rw[if_neg (),if_pos a];exact b _ ()
   ·rw[if_neg a];by_cases b:l < i/\i<=k
    ·rw[if_pos b,if_pos ()];exact h _ _ () ()
    ·rw[if_neg b];by_cases a:l < j/\j<=k
     ·rw[if_pos a];by_cases z:i=j - 1
      ·lia
      ·exact h _ _ () ()
     ·rw[if_neg a];calc h _ _ m ()
theorem Nx(e:vj n lt)(a:1<=n):xK n lt (kas_sort n) λq=>PP n q/\SS lt q n:=by
 unfold kas_sort;calc .bind (IZ e (Array.Perm.refl _) a) λr f=>?_;obtain⟨a,b,c,d⟩:=f;by_cases z:r.1<n
 ·rw[if_pos z,show max r.1 1=r.1 by lia];exact Jb e _ _ c a () d
 ·rw[if_neg z];obtain e:r.1=n:=by lia
  rw[e]at d;calc .ret ⟨c,d⟩
end
end L2
namespace L2
open PySem PySem.Spec PyProof.Rows
end L2
set_option maxHeartbeats 400000
namespace L2
open PySem PySem.Spec PyProof.Rows
section
def WX(h:Heap)(d:Addr)(es:Array DictEntry)(ep:Nat):Prop:=∃o,h.get? d=some o/\o.ExactDict/\o.data=.dict es ep
theorem WX.type{s:Shared}{d:Addr}{es:Array DictEntry}{ep:Nat}(x:WX s.heap d es ep):s.TypeIs (.ref d) "dict":=let ⟨o,h,c,_⟩:=x;⟨o,h,c.1⟩
section
variable {P:Program}{w:World}{H:Hp}{h:Heap}{a:Addr}{bb:List (List Key×V)}
theorem Paired.get{α β:Type}{F:α->β->Prop}:∀{c:List α}{d:List β},Paired F c d->∀{i:Nat}{a:α},c[i]?=some a->∃b,d[i]?=some b/\F a b
 |_,_,.nil,i,a,e=>by simp at e
 |_,_,.cons r t,0,a,e=>by cases e;calc⟨_,rfl,r⟩
 |_,_,.cons r t,i+1,a,e=>Paired.get t (i:=i) e
end
end
section
section
variable {prog:Program}{w:World}{A:Around}{E:Value->Shared->Prop}{s:Shared}{d:Addr}{es:Array DictEntry}{ep:Nat}
end
section
variable {prog:Program}{w:World}{K:Type} [DecidableEq K]{knd:HeapKind prog w K}{A:Around}{E:Value->Shared->Prop}{s:Shared}
end
end
end L2
namespace L2
open PySem PySem.Spec PyProof.Rows DD
end L2
set_option maxHeartbeats 4000000
namespace DD
open PySem L2
end DD
namespace L2
open PySem PySem.W PySem.Spec PyProof.Rows
variable {vs:List Value}{f:Nat->Int×Int}
def xM(a b:Int×Int):Bool:=decide (a.1<b.1)||(decide (a.1=b.1)&&decide (a.2<b.2))
theorem fZ{a b:Int×Int}:xM a b=true↔a.1<b.1\/(a.1=b.1/\a.2<b.2):=by simp[xM]
theorem BP{a b:Int×Int}:xM a b=false↔¬(a.1<b.1\/(a.1=b.1/\a.2<b.2)):=by rw[<-fZ];simp
theorem Sf{n:Nat}(c:∀i j,i<n->j<n->i≠j->f i≠f j):vj n λi j=>xM (f i) (f j):=by
 refine⟨λi j h=>?_,λi j k a b=>?_,λi j d g k h=>?_⟩
 ·have:=fZ.mp h;exact BP.mpr ()
 ·have:=fZ.mp a;have:=fZ.mp b;exact fZ.mpr ()
 ·have a:=BP.mp h;have b:=c i j d g k;calc fZ.mpr ?_;by_cases e:(f i).1=(f j).1
  ·by_cases a:(f i).2=(f j).2
   ·exact absurd (Prod.ext e a) b
   ·lia
  ·lia
def nZ(h:Heap)(v:Value)(p:Int×Int):Prop:=∃a o n t u,v=.ref a/\h.get? a=some o/\o.cls=.type "tuple"/\o.data=.seq #[.int p.1 t,.int p.2 u] n
section
variable {prog:Program}{w:World}{A:Around}{E:Value->Shared->Prop}{s:Shared}
theorem Ny{x y:Value}{p q:Int×Int}{Q:Bool->Shared->Prop}(c:nZ s.heap x p)(d:nZ s.heap y q)(h:Q (xM p q) s):wpAny (model prog w) A (keyLt' (tuples' true) x y) Q E s:=by
 obtain⟨a,e,i,j,k,rfl,f,l,g⟩:=c;obtain⟨b,m,n,o,r,rfl,a,e,i⟩:=d;calc kat_lt f g a i ?_;calc kat_cons (wpAny_eqBool_int ?_);by_cases e:p.1=q.1
 ·rw[show(p.1 == q.1)=true by simpa using e];calc kat_yes (kat_cons (wpAny_eqBool_int ?_));by_cases a:p.2=q.2
  ·rw[show(p.2==q.2)=true by simpa using a];calc kat_yes (kat_nil ?_);have:xM p q=false:=BP.mpr ();rw[this]at h;exact h
  ·rw[show(p.2 == q.2)=false by simpa using a];calc kat_no ?_;calc kat_one _ _ (PyProof.Rows.lt_int ?_);have:xM p q=decide (p.2 < q.2):=by simp[xM,e]
   rw[this]at h;exact h
 ·rw[show(p.1 == q.1)=false by simpa using e];calc kat_no ?_;have:xM p q=decide (p.1 < q.1):=by simp[xM,e]
  rw[this]at h;calc oneLt_int h
theorem Jc{h:Heap}:∀(vs:List Value) (f:Nat->Int×Int),(∀i v,vs[i]?=some v->nZ h v (f i))->∃g,KatTups h vs g/\g.length=vs.length/\∀v∈g,∃n t,v=.int n t
 | [],_,_=>⟨[],KatTups.nil,rfl,λv d=>by simp at d⟩
 |x::vs,f,d=>by
  obtain⟨g,a,b,c⟩:=Jc vs (λi=>f (i + 1)) λi v e=>d (i + 1) v e;obtain⟨y,o,n,t,u,rfl,h,j,k⟩:=d 0 x rfl;exact⟨_::g,KatTups.cons h j k rfl a,by simp[b],λv d=>by
   rcases List.mem_cons.mp d with rfl|d
   ·exact⟨_,_,rfl⟩
   ·calc c v d⟩
theorem Fs{Q:SortKind->Shared->Prop}(a:0<vs.length)(d:∀i v,vs[i]?=some v->nZ s.heap v (f i))(h:Q (tuples' true) s):wpAny (model prog w) A (keyKind' vs.toArray) Q E s:=by
 obtain⟨e,a,b,c⟩:=Jc vs f d;refine kat_kind (T:=Value.type "int") a () (λv d=>?_) ∅ ?_
 ·obtain⟨n,t,rfl⟩:=c v d;exact Looks.of_pure rfl
 ·have:(Value.type "int" != Value.type "tuple")=true:=by decide
  rw[this];calc h
theorem rR{a:Addr}{n:Nat}{P:PySem.Fin->Shared->Prop}(r:s.heap.get? a=some (seqObj "list" vs.toArray n))(K:∀i v,vs[i]?=some v->nZ s.heap v (f i))(L:∀i j,i<vs.length->j<vs.length->i≠j->f i≠f j)(M:vs.length<64)
  (h:∀p:List Nat,p.Perm (List.range vs.length)->p.Pairwise (λi j=>xM (f i) (f j)=true)->P (.done (.ret .none)) {s with heap:=sortedHeap s.heap a vs (p.map λi=>vs.getD i Value.none).toArray}):
  wpAny (model prog w) A (Builtin.«list.sort» ⟨[.ref a],[]⟩) P E s:=by
 rw[list_sort_plain];have z:a<s.heap.objs.size:=T' r;calc E' (listItems_at r rfl ?_);calc E' (listUpdate_at r rfl ?_);obtain⟨d,n⟩:∃d,(s.heap.update a (Obj.mapSeq λ_=>#[])).get? a=some (seqObj "list" #[] d):=⟨_,get?_update_seq r (λ_=>#[])⟩
 calc E' (seqEpoch_at n rfl ?_);calc E' (wpAny_newTuple ?_);calc E' (wpAny_newList ?_);calc aaS ?_;have x:∀b o,b≠a->s.heap.get? b=some o->(((s.heap.update a (Obj.mapSeq λ_=>#[])).push (seqObj "tuple" vs.toArray 0)).push (seqObj "list" #[] 0)).get? b=some o:=λb o N q=>by
  have J:b<s.heap.objs.size:=T' q;rw[aa9 _ _ _ (by rw[size_push',Heap.size_update];calc aal (Nat.lt_succ_of_lt J)),aa9 _ _ _ (by rw[Heap.size_update];calc aal J),Heap.get?_update_ne _ _ _ _ N];exact q
 have c:(((s.heap.update a (Obj.mapSeq λ_=>#[])).push (seqObj "tuple" vs.toArray 0)).push (seqObj "list" #[] 0)).get? a=some (seqObj "list" #[] d):=by
  rw[aa9 _ _ _ (by rw[size_push',Heap.size_update];calc aal (Nat.lt_succ_of_lt z)),aa9 _ _ _ (by rw[Heap.size_update];calc aal z)];exact n
 have g:∀i v,vs[i]?=some v->nZ (((s.heap.update a (Obj.mapSeq λ_=>#[])).push (seqObj "tuple" vs.toArray 0)).push (seqObj "list" #[] 0)) v (f i):=λi v e=>by
  obtain⟨b,o,m,t,u,rfl,d,C,n⟩:=K i v e;calc⟨b,o,m,t,u,rfl,x b o (λz=>?_) d,C,n⟩;rw[z,r]at d
  cases d;exact absurd C (show ¬(Value.type "list"=Value.type "tuple") by decide)
 have y:=h;show wpAny (model prog w) A _ P E {s with heap:=((s.heap.update a (Obj.mapSeq λ_=>#[])).push (seqObj "tuple" vs.toArray 0)).push (seqObj "list" #[] 0)};dsimp only;have k:vs.toArray.size=vs.length:=by simp
 by_cases b:vs.toArray.size<2
 ·rw[if_pos b,if_pos b];calc E' (P' ?_);rw[StateT.run_pure];calc E' (P' ?_);dsimp only;calc E' (seqEpoch_at c rfl ?_);calc E' (listUpdate_at c rfl ?_ (hsz2:=by rw[Array.size_map];show(pairsOf vs).size<=_;rw[pairsOf_size,aax];lia));simp only[bne_self_eq_false,Bool.false_eq_true,if_false];have e:=y (List.range vs.length) (List.Perm.refl _) (by
   match vs,k,b with
   | [],_,_=>calc .nil
   | [_],_,_=>calc List.pairwise_singleton _ _
   | _::_::_,d,b=>simp at b;lia)
  have C:((List.range vs.length).map λi=>vs.getD i Value.none).toArray=(vs.toArray.zip vs.toArray).map (·.2):=by
   apply Array.toList_inj.mp;apply List.ext_getElem?;intro i;by_cases l:i<vs.length
   ·simp[l]
   ·simp[l]
  rw[C]at e;exact P' e
 ·rw[if_neg b,if_neg b];have d:2<=vs.length:=by lia
  calc E' (Fs (f:=f) () g ?_);refine E' (aaE (kat_run (E:=E) (κ:=tuples' true) (ks:=vs) (vs:=vs) (Q:=λI D=>D={s with heap:=((s.heap.update a (Obj.mapSeq λ_=>#[])).push (seqObj "tuple" vs.toArray 0)).push (seqObj "list" #[] 0)}/\∃p:Array Nat,arrOf I=p.map (kas_item (vs.toArray.zip vs.toArray))/\failedOf I=none/\PP vs.length p/\SS (λi j=>xM (f i) (f j)) p vs.length)
   (G:=λp D=>D={s with heap:=((s.heap.update a (Obj.mapSeq λ_=>#[])).push (seqObj "tuple" vs.toArray 0)).push (seqObj "list" #[] 0)}/\PP vs.length p/\SS (λi j=>xM (f i) (f j)) p vs.length)
   rfl d M (λp I D _ b h a=>⟨a.1,p,b,h,a.2.1,a.2.2⟩) (Nx (Sf L) () _ _ _ (λi j C l F d=>?_) λp H=>⟨rfl,H⟩)) ?_ λ_ _ e=>e)
  ·refine Ny (g i _ ?_) (g j _ ?_) d
   ·rw[L',cD l];rfl
   ·rw[L',cD F];rfl
  rintro⟨⟨⟩,I⟩ D ⟨rfl,p,b,d,H,e⟩;dsimp only;have a:=kat_snds rfl b;rw[a];calc E' (seqEpoch_at c rfl ?_);calc E' (listUpdate_at c rfl ?_ (hsz2:=by rw[aak,M',Array.length_toList,H.size,aax];lia));rw[d];simp only[bne_self_eq_false,Bool.false_eq_true,if_false];calc P' (y p.toList (by have:=Array.perm_iff_toList_perm.mp H;simpa using this) ?_);rw[List.pairwise_iff_getElem];intro i j l F a;have k:=H.size;have:=e i j a (by simpa[k] using F);rw[Array.length_toList]at l F;simpa[Array.getD,l,F] using this
theorem xN{l:Addr}{Q:Value->Shared->Prop}(d:s.heap.IsList l vs.toArray)(k:∀i v,vs[i]?=some v->nZ s.heap v (f i))(n:∀i j,i<vs.length->j<vs.length->i≠j->f i≠f j)(r:vs.length<64)
  (h:∀p:List Nat,p.Perm (List.range vs.length)->p.Pairwise (λi j=>xM (f i) (f j)=true)->Q (.ref (s.heap.objs.size+1)) {s with heap:=sortedAll s.heap vs (p.map λi=>vs.getD i Value.none).toArray}):
  wpAny (model prog w) A (call (.builtin "sorted") [.ref l]) Q E s:=by
 refine Calls.call_function_entry kind_sorted plain_sorted entry_sorted (args_sorted1 _) ?_;unfold Builtin.«sorted»;refine E' (m:=checkCount "sorted" 1 1 _) (P' ?_);refine E' (collect_list d ?_);refine E' (wpAny_newList ?_);have a:((s.heap.push (seqObj "list" #[] 0)).update s.heap.objs.size (Obj.mapSeq (· ++vs.toArray))).objs.size=s.heap.objs.size+1:=by
  rw[Heap.size_update,size_push']
 have g:(((s.heap.push (seqObj "list" #[] 0)).update s.heap.objs.size (Obj.mapSeq (· ++vs.toArray))).push (seqObj "list" vs.toArray 0)).get? (s.heap.objs.size+1)=some (seqObj "list" vs.toArray 0):=by
  rw[<-a];exact Y' _ rfl
 have c:∀b o,s.heap.get? b=some o->(((s.heap.push (seqObj "list" #[] 0)).update s.heap.objs.size (Obj.mapSeq (· ++vs.toArray))).push (seqObj "list" vs.toArray 0)).get? b=some o:=λb o q=>by
  have d:b<s.heap.objs.size:=T' q;rw[aa9 _ _ _ (by rw[a];calc aal (Nat.lt_succ_of_lt d)),Heap.get?_update_ne _ _ _ _ (aal d),aa9 _ _ _ (aal d)];exact q
 show wpAny _ _ _ _ _ {s with heap:=((s.heap.push (seqObj "list" #[] 0)).update s.heap.objs.size (Obj.mapSeq (· ++vs.toArray))).push (seqObj "list" vs.toArray 0)};rw[a];refine E' (aaS (aa0 slot_list_sort ⟨_,g,rfl⟩ entry_list_sort (rR (f:=f) g (λi v e=>?_) n r λp x y=>⟨_,rfl,?_⟩) (args_list_sort _)))
 ·obtain⟨b,o,m,t,u,rfl,a,d,g⟩:=k i v e;exact⟨b,o,m,t,u,rfl,c _ _ a,d,g⟩
 calc P' ⟨_,rfl,h p x y⟩
end
end L2
namespace L2
open PySem PySem.W PySem.Spec PyProof.Rows
section
variable {prog:Program}{w:World}{A:Around}{E:Value->Shared->Prop}{s:Shared}{T:String}{r d:Addr}{n:Nat}{P:Nat->Value->Prop}{OK:Heap->Prop}
theorem zp{Q:List Value->Shared->Prop}(K:KdlSrc prog w T r d n P OK)(k:A.handled=none)(g:OK s.heap)(l:n<=sizeLine)
  (h:∀h' c f,(∀b o,s.heap.get? b=some o->h'.get? b=some o)->s.heap.objs.size<=h'.objs.size->ItemsOf P f n->Q f.toList {s with heap:=h',toks:=c}):wpAny (model prog w) A (collect (.ref r)) Q E s:=by
 unfold collect;refine E' (wpAny_runValue (codeAny_builtin entry_proto_collect' ?_));show wpAny _ _ (do again (.builtin "list.__iadd__" ⟨[<-newList [],.ref r],[]⟩)) _ _ s;refine E' (wpAny_newList (P' ⟨Code.quiet_builtin _ ⋯,codeAny_builtin entry_list_iadd' ?_⟩));show wpAny _ _ (Builtin.List.listExtendWith (.ref s.heap.objs.size) (.ref r) (.ref s.heap.objs.size)) _ _ {s with heap:=s.heap.push (seqObj "list" #[] 0)};have i:=K.there _ g;have m:(s.heap.push (seqObj "list" #[] 0)).get? s.heap.objs.size=some (seqObj "list" #[] 0):=Y' _ rfl;rw[Around.under_plainId ⋯];refine kdl_extend (R:=λr j=>match r with
   | .ok (.ret v)=>wpAny (model prog w) A (match v with
    | .ref a=>(do
     let o <-load a
     match o.data with
     | .seq a _=>pure a.toList
     | _=>unsupported "internal:collect")
    | _=>unsupported "internal:collect") Q E j
   | .ok _=>False
   | .error e=>E e j) (s:={s with heap:=s.heap.push (seqObj "list" #[] 0)}) K k (K.keep _ _ g λb _ o e=>K' _ e) _ (aaA i.1) (aaA i.2) (.ref s.heap.objs.size) 0 m (λh' c f p j g k=>?_) l
 show wpAny (model prog w) A (do
   let o <-load s.heap.objs.size
   match o.data with
   | .seq a _=>pure a.toList
   | _=>unsupported "internal:collect") Q E {s with heap:=h',toks:=c}
 calc E' (wpAny_load g ?_);calc P' (h h' c f (λb o e=>j b o (aal (T' e)) (K' _ e)) (J' (T' g)) k)
theorem BR{Q:Value->Shared->Prop}{ks:List Int}(K:KdlSrc prog w T r d n P OK)(i:A.handled=none)(j:OK s.heap)(a:n<64)(l:∀c:Array Value,ItemsOf P c n->IntsAre c.toList ks)
  (h:∀h' g (out:Array Value) f e a,(∀b o,s.heap.get? b=some o->h'.get? b=some o)->s.heap.objs.size<=a->h'.get? a=some (seqObj "list" out e)->IntsAre out.toList f->f.Perm ks->f.Pairwise (· <=·)->Q (.ref a) {s with heap:=h',toks:=g}):
  wpAny (model prog w) A (call (.builtin "sorted") [.ref r]) Q E s:=by
 refine Calls.call_function_entry kind_sorted plain_sorted entry_sorted (args_sorted1 _) ?_;unfold Builtin.«sorted»;refine E' (m:=checkCount "sorted" 1 1 _) (P' ?_);refine E' (zp K i j (by rw[aax];lia) λh' g c p a k=>?_);have i:c.toList.length=n:=by rw[Array.length_toList];exact k.1
 refine E' (wpAny_newList ?_ (by rw[i,aax];lia));have j:(h'.push (seqObj "list" c.toList.toArray 0)).get? h'.objs.size=some (seqObj "list" c.toList.toArray 0):=Y' _ rfl;refine E' (aaS (aa0 slot_list_sort ⟨_,j,rfl⟩ entry_list_sort (list_sort_tree j (l _ k) () λout f c i t=>⟨_,rfl,?_⟩) (args_list_sort _)));obtain⟨e,k⟩:=sortedHeap_at (out:=out) j;refine P' ⟨_,rfl,h _ g out f e _ (λb o q=>?_) ?_ k c i t⟩
 ·have e:=p b o q;have c:b<h'.objs.size:=T' e;show(sortedHeap (h'.push _) h'.objs.size _ out).get? b=some o;rw[sortedHeap_old (aal c) (by rw[size_push'];calc Nat.lt_succ_of_lt c),aa9 _ _ _ (aal c)];exact e
 ·calc a
end
structure Sh(H:Hp)(ys:List V)(ps:List (Int×Int)):Prop where
 len:ys.length=ps.length
 got:∀(i:Nat) p,ps[i]?=some p->∃b,ys[i]?=some (.ref b)/\H b=some (.tup [.int p.1,.int p.2])
theorem Sh.mono{H a:Hp}{b:List V}{c:List (Int×Int)}(h:Sh H b c)(s:bX H a):Sh a b c:=⟨h.len,λi p e=>let ⟨b,a,c⟩:=h.got i p e;⟨b,a,s _ _ c⟩⟩
theorem qk:∀{ns:List Int}{us:List Value},Vals (ns.map V.int) us->IntsAre us ns
 | [],_,.nil=>.nil
 |n::ns,_,.cons r a=>by
  obtain⟨t,rfl⟩:=r;calc .cons n t (qk a)
theorem ints_get:∀{us:List Value}{ks:List Int},us.length=ks.length->(∀(i:Nat) u k,us[i]?=some u->ks[i]?=some k->∃t,u=.int k t)->IntsAre us ks
 | [],[],_,_=>.nil
 |u::us,k::ks,a,h=>by
  obtain⟨t,rfl⟩:=h 0 u k rfl rfl;calc .cons k t (ints_get (by simpa using a) λi u k b c=>h (i+1) u k b c)
theorem zr{a:List V}{us:List Value}(h:Vals a us):∀(p:List Nat),(∀i∈p,i<a.length)->Vals (p.map λi=>a.getD i .bL) (p.map λi=>us.getD i Value.none)
 | [],_=>.nil
 |i::p,b=>by
  have c:=b i aaa;obtain⟨u,e,r⟩:=h.get (cD c);calc .cons ?_ (zr h p λj d=>b j (aai _ d));show RelV (a.getD i .bL) (us.getD i Value.none);rw[L',L',cD c,e];calc r
def acQ(K:W.Frag):List V->Hp->VK->Prop:=λvs H Q=>∃a,vs=[.ref a]/\
  ((∃(b:List V) (c:List (Int×Int)),aO K H a b/\b.length < 64/\Sh H b c/\c.Nodup/\∀l (e:List V) (d:List (Int×Int)),H l=none->d.Perm c->d.Pairwise (λx y=>xM x y=true)->Sh H e d->Q (.ref l) (upd H l (.lst e)))\/
   (∃(b:List (Key×V)) (ks:List Int),H a=some (.dK b)/\b.map (·.1)=ks.map Sum.inl/\ks.length<64/\∀l (ns:List Int),H l=none->ns.Perm ks->ns.Pairwise (· <=·)->Q (.ref l) (upd H l (.lst (ns.map V.int))))\/
   (∃ks:List Int,aO K H a (ks.map V.int)/\ks.length < 64/\∀l (ns:List Int),H l=none->ns.Perm ks->ns.Pairwise (· <=·)->Q (.ref l) (upd H l (.lst (ns.map V.int)))))
theorem wg{X:Cx}(O:X.calm=true):fe X (.builtin "sorted") (acQ X.K):=by
 intro v s σ H xs us Q I r h;obtain⟨a,rfl,h⟩:=h;obtain⟨u,rfl,ru⟩:=r.one
 cases ru;rcases h with⟨Z,c,P,r,l,z,q⟩|⟨R,L,e,F,r,q⟩|⟨L,P,r,q⟩
 ·obtain⟨M,B,S,hz⟩:=I.list P;have d:=B.length;have p6:=l.len;refine xN (f:=λi=>c.getD i (0,0)) S.isList (λi v e=>?_) (λi j m r AR e=>?_) () λp T yF=>?_
  ·have m:i < c.length:=by have:=(List.getElem?_eq_some_iff.mp e).1;lia
   obtain⟨b,C,G⟩:=l.got i _ (cD m);obtain⟨r,N,r3⟩:=B.get C;rw[e]at N
   cases N
   cases r3;obtain⟨_,r,rt,o,ho,O,n,hd⟩:=(show cE X.prog X.w H s.heap b (.tup [.int (c[i]).1,.int (c[i]).2]) from I.ba b _ G)
   obtain⟨v1,v2,rfl,⟨t1,rfl⟩,⟨t2,rfl⟩⟩:=rt.two;rw[show c.getD i (0,0)=c[i] by simp[m]];exact⟨b,o,n,t1,t2,rfl,ho,O,hd⟩
  ·rw[show c.getD i (0,0)=c[i]'() by simp[show i<c.length by lia],show c.getD j (0,0)=c[j]'() by simp[show j<c.length by lia]]at e;exact AR ((List.getElem_inj z).mp e)
  ·have ir:∀i ∈ p,i < Z.length:=λi m=>by have:=(T.mem_iff).mp m;rw[abb] at this;lia
   obtain⟨e,U⟩:=sortedAll_at s.heap M (p.map λi=>M.getD i Value.none).toArray;have n:p.length=c.length:=by rw[T.length_eq];simp;lia
   refine⟨.ref (s.heap.objs.size+1),_,I.laid (a:=s.heap.objs.size+1) (o:=.lst (p.map λi=>Z.getD i .bL)) (t':=s.toks) (λb o q=>sortedAll_old q) (Nat.le_succ _) (show cE X.prog X.w _ _ _ (.lst _) from⟨by rw[M'];lia,_,e,zr B p ir,U⟩),rfl,q _ _ (p.map λi=>c.getD i (0,0)) (I.ba.fresh (Nat.le_succ _)) ?_ ?_ ⟨nofun,λi x e=>?_⟩⟩
   ·have n:c=(List.range c.length).map λi=>c.getD i (0,0):=by
     apply List.ext_getElem?;intro i;by_cases m:i<c.length
     ·simp[m]
     ·simp[m]
    have m:=T.map λi=>c.getD i (0,0);rw[<-d,p6,<-n]at m;exact m
   ·exact List.pairwise_map.mpr yF
   ·rw[A']at e;obtain⟨k,F,rfl⟩:=Option.map_eq_some_iff.mp e;have n:=ir k (aan F);obtain⟨b,C,G⟩:=l.got k _ (cD (show k<c.length by lia));calc⟨b,by rw[A',F];simp[List.getD_eq_getElem?_getD,C],?_⟩;rw[show c.getD k (0,0)=c[k]'() by simp[show k<c.length by lia]];exact G
 ·obtain⟨z,r,vs,c,hd⟩:=Hu I.ba e;obtain⟨o,v,m,z,T,Z,g4,g5⟩:=id hd;have Je:vs.length=R.length:=c.length.symm;have n:R.length=L.length:=by have:=congrArg List.length F;simpa using this
  refine BR (ks:=L) (kdl_dict (ep:=m) r) (I.ok.hd O) ⟨o,v,z,T,Z,g4,g5⟩ () (λL n=>?_) λm tk g W e a' WZ J ha hI l hs=>?_
  ·calc ints_get (by rw[Array.length_toList,n.1];lia) λi u k C G=>?_;rw[Array.getElem?_toList] at C;obtain⟨k',x,N,e4⟩:=n.2 i u C;have m:(R.map (·.1))[i]?=some (Sum.inl k):=by rw[F,A',G];rfl
   rw[A']at m;obtain⟨p,l,e6⟩:=Option.map_eq_some_iff.mp m;obtain⟨i,e7,e8,_⟩:=Paired.get c l;rw[N]at e7
   cases e7;rw[e6]at e8;rw[AZ,show k'=Sum.inl k from e8.symm]at e4;rcases cY e4 with⟨j,t,Y,rfl⟩|⟨y,t,Y,rfl⟩
   ·cases Y;exact⟨t,rfl⟩
   ·cases Y
  ·exact⟨.ref a',_,I.laid (a:=a') (o:=.lst (W.map V.int)) (t':=tk) WZ J (show cE X.prog X.w _ _ _ (.lst _) from⟨by rw[M',l.length_eq];rw[aax];lia,g.toList,e,m7 hI,by simpa using ha⟩),rfl,q _ _ (I.ba.fresh J) l hs⟩
 ·obtain⟨M,B,S,hz⟩:=I.list P;have d:=B.length;rw[M']at d;calc sorted_ints S.isList (qk B) () λg W i c j=>?_;obtain⟨e,U⟩:=sortedAll_at s.heap M g;calc⟨.ref (s.heap.objs.size+1),_,I.laid (a:=s.heap.objs.size+1) (o:=.lst (W.map V.int)) (t':=s.toks) (λb o q=>sortedAll_old q) (Nat.le_succ _) (show cE X.prog X.w _ _ _ (.lst _) from⟨by rw[M',c.length_eq];rw[aax];lia,g.toList,e,m7 i,by simpa using U⟩),rfl,q _ _ (I.ba.fresh (Nat.le_succ _)) c j⟩
end L2
namespace DD
open PySem L2
variable {r:RS}
structure RS.Pk(n:NT)(r:RS):Prop where
 nd:r.picks.Nodup
 mem:∀(w k:Nat) e,w<n.ws.length->(r.ww w).cF[k]?=some (some e)->((w:Int),(k:Int))∈r.picks
section
variable {n:NT}{r:RS}
theorem RS.Pk.put(h:r.Pk n){w:Nat}{x:Int}{s:Option (Int×Int)}:(r.put w x s).Pk n:=⟨h.nd,λu k e a b=>h.mem u k e a (ki.mp b)⟩
theorem RS.Pk.send{outs:List Nat}{ev:Int×Int}:∀(a:List (Int×Int)) {r:RS},r.Pk n->(r.send outs ev a).Pk n
 | [],r,h=>h
 |p::a,r,h=>by
  show((if p.1.toNat<outs.length then r.put (outs.getD p.1.toNat 0) p.2 (some ev) else r).send outs ev a).Pk n;split
  ·exact RS.Pk.send a h.put
  ·calc RS.Pk.send a h
theorem RS.Pk.pick(h:r.Pk n)(f:r.Iv n){w k:Nat}(b:(r.ww w).cF[k]?=some none):(r.pick n w k).Pk n:=by
 refine RS.Pk.send _ ⟨?_,λu j e g a=>?_⟩
 ·show(r.picks++[((w:Int),(k:Int))]).Nodup;rw[List.nodup_append];calc⟨h.nd,nofun,λp i q c e=>?_⟩;rw[List.mem_singleton] at c;subst c;subst e;obtain⟨m,o,e,l,_,d⟩:=f.pk _ i
  cases l;rw[b]at d
  cases d
 ·show _ ∈ r.picks++[((w:Int),(k:Int))]
  rcases(iF b).mp a with⟨rfl,rfl,_⟩|a
  ·simp
  ·calc List.mem_append_left _ (h.mem u j e g a)
theorem zt:∀{W:Nat},uf r W=0->∀w,w<W->(r.ww w).cF.countP Option.isSome=0
 |W+1,h,w,a=>by
  rw[uf]at h;by_cases e:w=W
  ·subst e;lia
  ·calc zt (W:=W) () w ()
theorem RS.Pk.zero(b:r.Iv n)(e:r.picks=[]):r.Pk n:=by
 have a:=b.cnt;rw[e]at a;calc⟨by rw[e];calc .nil,λw k f c d=>?_⟩;have:=List.countP_eq_zero.mp (zt a w c) _ (aan d);simp at this
end
def iG(r:RS)(w n:Nat):List Nat:=(List.range n).filter λk=>((r.ww w).cF.getD k none).isSome
def dw(r:RS)(W:Nat):List (Nat×Nat):=(List.range W).flatMap λw=>(iG r w (r.ww w).cF.length).map λk=>(w,k)
def pI(p:Nat×Nat):Int×Int:=((p.1:Int),(p.2:Int))
theorem ql{W:Nat}:dw r (W+1)=dw r W++(iG r W (r.ww W).cF.length).map λk=>(W,k):=by
 unfold dw;rw[List.range_succ,List.flatMap_append];simp
theorem pM{r:RS}{w n k:Nat}:k∈iG r w n↔k<n/\∃e,(r.ww w).cF[k]?=some (some e):=by
 unfold iG;rw[aaY,abb,L'];refine and_congr_right λ_=>?_
 cases(r.ww w).cF[k]? with
 |none=>simp
 |some o=>cases o<;>simp
theorem gb{r:RS}{p:Nat×Nat}:∀{W:Nat},p∈dw r W↔p.1<W/\∃e,(r.ww p.1).cF[p.2]?=some (some e)
 |0=>by simp[dw]
 |W+1=>by
  rw[ql,List.mem_append,gb (W:=W),List.mem_map];constructor
  ·rintro(⟨b,a⟩ | ⟨k,c,rfl⟩)
   ·exact⟨(),a⟩
   ·exact⟨Nat.lt_succ_self _,(pM.mp c).2⟩
  ·rintro⟨b,e,a⟩;by_cases z:p.1 < W
   ·exact .inl ⟨z,e,a⟩
   ·have b:p.1=W:=by lia
    calc .inr ⟨p.2,pM.mpr ⟨?_,e,by rw[<-b];calc a⟩,by rw[<-b]⟩;rw[<-b];calc(List.getElem?_eq_some_iff.mp a).1
theorem xO{w n:Nat}:(iG r w n).Pairwise (· < ·):=List.Pairwise.filter _ List.pairwise_lt_range
theorem xP{r:RS}:∀{W:Nat},((dw r W).map pI).Pairwise λx y=>xM x y=true
 |0=>.nil
 |W+1=>by
  rw[ql,U',List.pairwise_append];refine⟨xP,?_,λx c y d=>?_⟩
  ·rw[List.map_map,List.pairwise_map];calc xO.imp λ{a b} h=>?_;exact fZ.mpr (.inr ⟨rfl,by show(a:Int)<b;lia⟩)
  ·obtain⟨p,e,rfl⟩:=List.mem_map.mp c;obtain⟨q,f,rfl⟩:=List.mem_map.mp d;obtain⟨k,_,rfl⟩:=List.mem_map.mp f;have:=(gb.mp e).1;calc fZ.mpr (.inl (by show(p.1:Int)<W;lia))
theorem oe{α:Type}{R:α->α->Prop}(k:∀a b,R a b->¬R b a):∀{xs c:List α},xs.Pairwise R->c.Pairwise R->(∀p,p∈xs↔p∈c)->xs=c
 | [],[],_,_,_=>rfl
 | [],y::c,_,_,h=>absurd ((h y).mpr aaa) List.not_mem_nil
 |x::xs,[],_,_,h=>absurd ((h x).mp aaa) List.not_mem_nil
 |x::xs,y::c,i,j,h=>by
  rw[List.pairwise_cons]at i j;have e:x=y:=by
   rcases List.mem_cons.mp ((h x).mp aaa) with e|l
   ·exact e
   rcases List.mem_cons.mp ((h y).mpr aaa) with e|a
   ·exact e.symm
   exact absurd (i.1 y a) (k _ _ (j.1 x l))
  subst e;have d:¬R x x:=λz=>k _ _ z z;rw[oe k i.2 j.2 λp=>⟨λg=>?_,λg=>?_⟩]
  ·rcases List.mem_cons.mp ((h p).mp (aai _ g)) with rfl | q
   ·exact absurd (i.1 _ g) d
   ·exact q
  ·rcases List.mem_cons.mp ((h p).mpr (aai _ g)) with rfl | q
   ·exact absurd (j.1 _ g) d
   ·calc q
theorem Si(a b:Int×Int)(h:xM a b=true):¬xM b a=true:=λa=>by
 have:=fZ.mp h;have:=fZ.mp a;lia
theorem zu{α:Type} [DecidableEq α]:∀(L M:List α),L.Nodup->(∀x∈L,x∈M)->M.length<=L.length->M.Perm L
 | [],M,_,_,h=>by rw[List.length_eq_zero_iff.mp (Nat.le_zero.mp h)]
 |x::L,M,c,a,h=>by
  have d:=a x aaa;have b:=List.nodup_cons.mp c;have p:=List.perm_cons_erase d;have e:=p.length_eq;simp only[List.length_cons]at h e;calc p.trans ((zu L (M.erase x) b.2 (λy c=>(List.mem_erase_of_ne (λe=>b.1 (by rw[<-e];calc c))).mpr (a y (aai _ c))) ()).cons x)
theorem zw{r:RS}{w:Nat}:(iG r w (r.ww w).cF.length).length=(r.ww w).cF.countP Option.isSome:=by
 unfold iG;have:∀l:List (Option (Int×Int)),((List.range l.length).filter λk=>(l.getD k none).isSome).length=l.countP Option.isSome:=λl=>by
  rw[<-List.countP_eq_length_filter];induction l with
  |nil=>rfl
  |cons a l b=>rw[aaL,List.range_succ_eq_map,List.countP_cons,List.countP_cons,List.countP_map,<-b];congr 1
 calc this _
theorem Jf{H:Hp}{w:Nat}{c:List (Key×V)}(h:OR H (.d (i8 (r.ww w).cF) ((r.ww w).cF.countP Option.isSome)) (.dK c)):∃ks:List Int,c.map (·.1)=ks.map Sum.inl/\ks.Perm ((iG r w (r.ww w).cF.length).map λk:Nat=>(k:Int)):=by
 have j:((iG r w (r.ww w).cF.length).map λk:Nat=>(Sum.inl (k:Int):Key)).Nodup:=List.pairwise_map.mpr (xO.imp λ{a b} h e=>by cases e;lia);have p:=zu _ (c.map (·.1)) j (λx g=>by
  obtain⟨k,m,rfl⟩:=List.mem_map.mp g;obtain⟨_,e,b⟩:=pM.mp m;have a:=h.2 (k:Int);rw[show i8 (r.ww w).cF (k:Int)=some (pairD e) by unfold i8;rw[if_pos (),aao,L',b];rfl] at a;obtain⟨v,j,_⟩:=a;calc MZ j) (by rw[M',M',zw];calc h.1)
 refine⟨(c.map (·.1)).map λx:Key=>match x with | .inl i=>i | .inr _=>0,?_,?_⟩
 ·rw[List.map_map];calc(List.map_id _).symm.trans (List.map_congr_left λx g=>?_);obtain⟨k,_,rfl⟩:=List.mem_map.mp (p.mem_iff.mp g);rfl
 ·have:=p.map λx:Key=>match x with | .inl i=>i | .inr _=>0
  rw[List.map_map (l:=iG r w _)]at this;calc this
theorem zx{w n:Nat}{ns:List Int}(h:ns.Perm ((iG r w n).map λk:Nat=>(k:Int)))(d:ns.Pairwise (· <=·)):ns=(iG r w n).map λk:Nat=>(k:Int):=by
 have c:((iG r w n).map λk:Nat=>(k:Int)).Pairwise (· < ·):=List.pairwise_map.mpr (xO.imp λ{a b} h=>by lia);have f:ns.Nodup:=h.nodup_iff.mpr (c.imp λ{a b} h e=>by lia);calc oe (R:=(· < ·)) (λa b h=>by lia) ((List.Pairwise.and d f).imp λ{a b} h=>by have:=h.1;have:=h.2;lia) c λp=>h.mem_iff
theorem xQ{n:NT}(d:r.Iv n)(f:r.Pk n){a:List (Int×Int)}(g:a.Perm r.picks)(i:a.Pairwise λx y=>xM x y=true):a=(dw r n.ws.length).map pI:=by
 calc oe Si i xP λp=>?_;rw[g.mem_iff,List.mem_map];constructor
 ·intro h;obtain⟨w,k,e,rfl,b,c⟩:=d.pk p h;exact⟨(w,k),gb.mpr ⟨b,e,c⟩,rfl⟩
 ·rintro⟨q,j,rfl⟩;obtain⟨b,e,c⟩:=gb.mp j;calc f.mem _ _ _ b c
theorem uh{n:NT}(g:r.Iv n)(f:r.Pk n):(dw r n.ws.length).length=r.picks.length:=by
 have i:((dw r n.ws.length).map pI).Nodup:=xP.imp λ{a b} h e=>by subst e;have:=fZ.mp h;lia
 have j:((dw r n.ws.length).map pI).Perm r.picks:=(List.perm_ext_iff_of_nodup i f.nd).mpr λp=>by
  rw[List.mem_map];constructor
  ·rintro⟨q,l,rfl⟩;obtain⟨c,e,d⟩:=gb.mp l;exact f.mem _ _ _ c d
  ·intro h;obtain⟨w,k,e,rfl,c,d⟩:=g.pk p h;exact⟨(w,k),gb.mpr ⟨c,e,d⟩,rfl⟩
 have:=j.length_eq;rwa [M']at this
end DD
namespace L2
open PySem PySem.W PySem.Spec PyProof.Rows
def zy(b a:Int):Int:=if a > b then a else b
section
variable {prog:Program}{w:World}{A:Around}{E:Value->Shared->Prop}{R:Result->Shared->Prop}{l I S:Addr}{vs:List Value}{ns:List Int}{kw:List (Str×Value)}
theorem NB(hh:A.handled=none)(G:l≠I)(J:S≠I)(K:S≠l)(Z:IntsAre vs ns):
  ∀(k i:Nat) (s:Shared) (b:Int) (t:Tok) (c:Nat),vs.length-i=k->i<=vs.length->s.heap.IsListIter I l i/\s.heap.IsList l vs.toArray->s.heap.get? S=some (seqObj "list" #[.int b t,.int b t] c)->
  (∀h' C t',(∀x o,x≠S->x≠I->s.heap.get? x=some o->h'.get? x=some o)->R (.ok (.ret (.int ((ns.drop i).foldl zy b) t'))) {s with heap:=h',toks:=C})->
  codeAny (model prog w) A (.builtin "max.loop" ⟨[.ref I,.none,.ref S],kw⟩) R s:=by
 have W:=Walks.list (prog:=prog) (w:=w) (A:=A.in1) hh I l G vs.toArray;have hsz:vs.toArray.size=vs.length:=by simp
 have hnl:=IntsAre.length Z;have UG:(toString "max"++toString ".loop":String)="max.loop":=by decide
 have p:∀{x:Addr},x≠S->x≠I->x ∉ [I]:=λ_ d h=>d (List.mem_singleton.mp h);have fp:∀{x:Addr},x ∈ [I,l]->x≠S:=λh z=>by
  rcases List.mem_cons.mp h with e|h
  ·exact J (z▸e)
  ·exact K (z▸List.mem_singleton.mp h)
 intro k;induction k with
 |zero=>
  intro i s b t c hk L M r y;have N:i=vs.toArray.size:=by lia
  calc codeAny_builtin F.entry_max_loop ?_;rw[Around.under_plainId abc _];calc E' (m:=seqItems? (.ref S)) (aaO r rfl ?_);calc E' (wpAny_tryCatch (W.done s _ _ (N▸M) λh' C q=>?_));have B:=q S _ (λh=>J (List.mem_singleton.mp h)) r;show wpAny _ A.in1 (updateSeq S (λ_=>#[]) >>= _) _ _ _;calc E' (wpAny_updateSeq B rfl (E' (wpAny_letGo (P' ?_))));have e:ns.drop i=[]:=List.drop_eq_nil_of_le ();have:=y (h'.update S (Obj.mapSeq λ_=>#[])) C t λx o g d e=>(Heap.get?_update_other _ _ (Ne.symm g)).trans (q x o (p g d) e);rw[e]at this;calc this
 |succ k ih=>
  intro i s b t c hk L M r y;calc codeAny_builtin F.entry_max_loop ?_;rw[Around.under_plainId abc _];calc E' (m:=seqItems? (.ref S)) (aaO r rfl ?_);calc E' (wpAny_tryCatch (W.item i s _ _ () M λv h' C hP rM q=>?_));have B:=q S _ (λh=>J (List.mem_singleton.mp h)) r;obtain⟨a,u,rfl,ha⟩:=IntsAre.at Z i v (by simpa using hP);have ed:ns.drop i=a::ns.drop (i+1):=by
   obtain⟨g,d⟩:=List.getElem?_eq_some_iff.mp ha;rw[List.drop_eq_getElem_cons g,d]
  rw[ed]at y;show wpAny _ A.in1 (tryCatch (holding [.int a u,.int a u] (richCompare .Gt (.int a u) (.int b t) >>= _)) _ >>= _) _ _ _;calc E' (wpAny_tryCatch (aaS (E' (CmpOf.ints_gt (P:=λ(j:Nat) (v:Value)=>∃t,v=.int (if j=0 then a else b) t) (λj=>if j=0 then a else b) (λ_ _ h=>h) 0 1 _ _ _ _ _ ⟨u,rfl⟩ ⟨t,rfl⟩ ?_))));calc E' (aaS (aaW ?_));calc E' (wpAny_letGo (P' ?_));split
  ·rename_i O;have T:a > b:=aav O;calc E' (wpAny_updateSeq B rfl (E' (wpAny_letGo ?_)));rw[UG];have n:∀x o,x≠S->h'.get? x=some o->(h'.update S (Obj.mapSeq λ_=>#[.int a u,.int a u])).get? x=some o:=λx o g e=>(Heap.get?_update_other _ _ (Ne.symm g)).trans e;calc P' ⟨plainId_quiet abc _,ih (i+1) _ a u _ () () (W.frame _ _ _ rM λx hx o e=>n x o (fp hx) e) (Heap.get?_update_self _ B rfl) λd U X Y=>?_⟩;have:=y d U X λx o g d e=>Y x o g d (n x o g (q x o (p g d) e));rw[List.foldl_cons,show zy b a=a from if_pos T]at this;exact this
  ·rename_i O;have T:¬a > b:=λz=>O (aar z);calc E' (wpAny_letGo ?_);rw[UG];calc P' ⟨plainId_quiet abc _,ih (i+1) _ b t c () () rM B λd U X Y=>?_⟩;have:=y d U X λx o g d e=>Y x o g d (q x o (p g d) e);rw[List.foldl_cons,show zy b a=b from if_neg T]at this;calc this
def Jh:List Int->Option Int
 | []=>none
 |b::r=>some (r.foldl zy b)
def oI(o:Option Int)(v:Value):Prop:=match o with
 |none=>v=.none
 |some i=>∃t,v=.int i t
theorem Ft(a v:Value):argsOk "max" ⟨[a],[(Str.ofString "default",v)]⟩:=by unfold argsOk;kernel_rfl
theorem Ji{s:Shared}{Q:Value->Shared->Prop}(C:A.handled=none)(q:s.heap.IsList l vs.toArray)(L:IntsAre vs ns)
  (h:∀v h' k,oI (Jh ns) v->(∀b o,s.heap.get? b=some o->h'.get? b=some o)->Q v {s with heap:=h',toks:=k}):
  wpAny (model prog w) A (call (.builtin "max") [.ref l] [(Str.ofString "default",.none)]) Q E s:=by
 have G:(toString "max"++toString ".loop":String)="max.loop":=by decide
 obtain⟨r,g,_⟩:=id q;have I:l<s.heap.objs.size:=T' g;refine kmk_tree F.kind_max F.plain_max F.entry_max (Ft _ _) ?_;show wpAny _ A.in1 (Builtin.Builtins.bindParams "max" ["key","default"] 0 ⟨[],[(Str.ofString "default",.none)]⟩ >>= _) _ _ s;refine E' (m:=Builtin.Builtins.bindParams "max" ["key","default"] 0 ⟨[],[(Str.ofString "default",.none)]⟩) (wpAny_of_eq (show Builtin.Builtins.bindParams "max" ["key","default"] 0 ⟨[],[(Str.ofString "default",.none)]⟩=pure [none,some .none] from rfl) ?_);refine E' (P' ?_);refine E' (aa8 q ?_);refine E' (wpAny_newList ?_ (aaj _));rw[G];generalize g:s.heap.push {cls:=.type "list_iterator",data:=.fields #[.ref l,.int 0 0]}=a;have r:a.objs.size=s.heap.objs.size+1:=by rw[<-g];exact size_push' ..
 have M:(a.push (seqObj "list" #[] 0)).get? s.heap.objs.size=some {cls:=.type "list_iterator",data:=.fields #[.ref l,.int 0 0]}:=by
  rw[<-g];exact K' _ (Y' _ rfl)
 have J:(a.push (seqObj "list" #[] 0)).get? a.objs.size=some (seqObj "list" #[] 0):=Y' _ rfl;have u:∀b o,s.heap.get? b=some o->(a.push (seqObj "list" #[] 0)).get? b=some o:=λb o e=>by
  rw[<-g];exact K' _ (K' _ e)
 have i:l≠s.heap.objs.size:=aal I;have y:a.objs.size≠s.heap.objs.size:=aaA (by rw[r];calc Nat.lt_succ_self _);have j:a.objs.size≠l:=aaA (by rw[r];calc Nat.lt_succ_of_lt I);have K:(a.push (seqObj "list" #[] 0)).IsListIter s.heap.objs.size l 0/\(a.push (seqObj "list" #[] 0)).IsList l vs.toArray:=⟨⟨_,M,rfl,rfl⟩,q.at λo e=>u _ _ e⟩
 have c:∀x o,s.heap.get? x=some o->x≠a.objs.size/\x≠s.heap.objs.size:=λx o e=>by
  have:=T' e;exact⟨aal (by rw[r];calc Nat.lt_succ_of_lt this),aal this⟩
 have W:=Walks.list (prog:=prog) (w:=w) (A:=A.in1) C s.heap.objs.size l i vs.toArray;calc P' ⟨plainId_quiet abc _,?_⟩;calc codeAny_builtin F.entry_max_loop ?_;rw[Around.under_plainId abc _];show wpAny _ A.in1 (seqItems? (.ref a.objs.size) >>= _) _ _ _;refine E' (aaO J rfl ?_)
 cases L with
 |nil=>
  calc E' (wpAny_tryCatch (W.done _ _ _ K λh' k p=>?_));show wpAny _ A.in1 (rule _ >>= _) _ _ _;calc E' (wpAny_rule (P' ?_));calc h _ h' k rfl λb o e=>p b o (λz=>(c b o e).2 (List.mem_singleton.mp z)) (u b o e)
 |cons n t hr=>
  calc E' (wpAny_tryCatch (W.item 0 _ _ _ nofun K λv h' k g N p=>?_));have O:v=.int n t:=by simpa using g.symm
  subst O;have g:=p _ _ (λz=>y (List.mem_singleton.mp z)) J;show wpAny _ A.in1 (updateSeq a.objs.size (λ_=>#[.int n t,.int n t]) >>= _) _ _ _;calc E' (wpAny_updateSeq g rfl ?_);rw[G];have d:∀x o,x≠a.objs.size->h'.get? x=some o->(h'.update a.objs.size (Obj.mapSeq λ_=>#[.int n t,.int n t])).get? x=some o:=λx o a e=>(Heap.get?_update_other _ _ (Ne.symm a)).trans e;refine P' ⟨plainId_quiet abc _,NB C i y j (.cons n t hr) _ 1 _ n t _ rfl nofun (W.frame _ _ _ N λx B o e=>d x o (λz=>?_) e) (Heap.get?_update_self _ g rfl) λP R S T=>?_⟩
  ·rcases List.mem_cons.mp B with e | B
   ·exact y (z▸e)
   ·exact j (z▸List.mem_singleton.mp B)
  ·calc h _ P R ⟨S,rfl⟩ λb o e=>T b o (c b o e).1 (c b o e).2 (d b o (c b o e).1 (p b o (λz=>(c b o e).2 (List.mem_singleton.mp z)) (u b o e)))
end
def oV:Option Int->V
 |none=>.bL
 |some i=>.int i
def W0(K:W.Frag)(t:TE):TE:=λσ H Q=>t σ H λv b=>∃(a:Addr) (ns:List Int),v=.ref a/\aO K b a (ns.map V.int)/\Q (oV (Jh ns)) b
theorem NC{X:Cx}{e:Expr}{t:TE}{p d o:Pos}{j:Nat}{r:Pos}(w:X.calm=true)(x:Gl X "max")(f:X.mg "max"=none)(he:PE X e t)(m:fV e=true:=by rfl):PE X (.Call (.Name "max" p) [e] [⟨some "default",.Constant .none j r,o⟩] d) (W0 X.K t):=by
 walk_at "xc";refine wpAny_Call_Name_kw (nU I x f PyProof.Rows.boot_max ?_);have n:=fG (es:=[]) (env:=X.env) m;refine callWith_kw ?_ (he:=?_) (hplain:=?_)
 ·calc dq ((af he aa m).out d pins s σ H (λg c=>match g with | [v]=>∃(a:Addr) (b:List Int),v=.ref a/\aO X.K c a (b.map V.int)/\Q (oV (Jh b)) c|_=>False) I h) λd e y=>?_;obtain⟨g,c,i,z,l⟩:=y;obtain⟨v,rfl,a,b,rfl,A,q⟩:∃v,g=[v]/\∃(a:Addr) (b:List Int),v=.ref a/\aO X.K c a (b.map V.int)/\Q (oV (Jh b)) c:=by
   match g,l with
   | [v],l=>exact⟨v,rfl,l⟩
  obtain⟨u,rfl,B⟩:=z.one
  cases B;calc kws_cons (Constant_none (kws_nil ?_));obtain⟨e,a,d,g⟩:=i.list A;calc Ji (i.ok.hd w) d.isList (qk a) λv g j k e=>?_;refine⟨_,c,i.kept e,?_,q⟩
  cases f:Jh b with
  |none=>rw[f]at k;calc k
  |some i=>rw[f]at k;exact k
 ·rw[n];rfl
 ·rw[n];rfl
end L2
namespace L2
open PySem PySem.W PySem.Spec PyProof.Rows
theorem wj{xs:List V}{us:List Value}(r:Vals xs us):∀a:List Nat,Vals (a.filterMap (xs[·]?)) (a.filterMap (us[·]?))
 | []=>.nil
 |i::a=>by
  have b:=wj r a
  cases e:xs[i]? with
  |none=>rw[List.filterMap_cons_none e,List.filterMap_cons_none (r.none_of e)];calc b
  |some x=>
   obtain⟨u,a,c⟩:=r.get e;rw[List.filterMap_cons_some e,List.filterMap_cons_some a];calc .cons c b
section
variable {X:Cx}
theorem Dv{K:W.Frag}{b l:Expr}{a:TE}(c:X.K=K)(d:PE X l a):PI X b l (HM K a):=c▸bI d
def acS:V->Option Int->Option Int->Hp->VK->Prop:=λx lo c H Q=>∃a xs,x=.ref a/\H a=some (.tup xs)/\∀p b,av H b->b p=some (.tup (dS xs lo c))->Q (.ref p) b
theorem Jj{e:Expr}{d:TE}{lo c:Option Expr}{f g:TO}{a h:Pos}(he:PE X e d)(i:PO X lo f)(j:PO X c g):PE X (.Subscript e (.Slice lo c none h) a) (UB acS d f g):=tx (λb s σ H x v k l lo c m Q I n o p q ⟨a,r,e,t,u⟩=>by subst e;calc WE b s σ H _ v k l lo c m Q I n o p q (.inr ⟨r,t,u⟩)) he i j
def acT:R2:=λx y H Q=>∃a b xs c,x=.ref a/\y=.ref b/\H a=some (.tup xs)/\H b=some (.tup c)/\xs.length+c.length<=sizeLine/\∀p d,av H d->d p=some (.tup (xs++c))->Q (.ref p) d
theorem Dw:fQ X (binaryOp .Add) acT:=λc s σ H x y v u Q I d e ⟨a,b,f,g,i,j,h⟩=>by subst i j;calc cB c s σ H _ _ v u Q I d e (.inr ⟨f,g,h⟩)
def Fu(xs:List V):List V:=(sliceRange (sliceBounds none none (some (-1)) xs.length).1 (sliceBounds none none (some (-1)) xs.length).2.1 (sliceBounds none none (some (-1)) xs.length).2.2).filterMap (xs[·]?)
theorem Jk{xs:List V}{x:V}(h:x∈Fu xs):x∈xs:=by
 obtain⟨i,_,e⟩:=List.mem_filterMap.mp h;calc aan e
def W2(a c:TE):TE:=λσ H Q=>a σ H λx d=>c σ d λy b=>y=.int (-1)/\∃a xs,x=.ref a/\b a=some (.lst xs)/\∀p,b p=none->(Fu xs).length<=xs.length->Q (.ref p) (upd b p (.lst (Fu xs)))
theorem Sk{e i:Expr}{j k:TE}{m b:Pos}(he:PE X e j)(n:PE X i k):PE X (.Subscript e (.Slice none none (some i) m) b) (W2 j k):=by
 walk_at "xc";refine Subscript_ (dq (he.out pins s σ H _ I h) λv b c=>?_);obtain⟨x,e,i,p,j⟩:=c;refine wpAny_Slice ?_;rw[evalPart_none];refine P' (P' ?_);rw[evalPart_some];refine dq (n.out pins b σ e _ i j) λvs g c=>?_;obtain⟨y,r,t,u,w⟩:=c;obtain⟨rfl,a,d,rfl,z,q⟩:=w;obtain⟨l,rfl⟩:=u
 cases p;have i:Inv X pins σ r {g with heap:=g.heap.push {cls:=.type "slice",data:=.fields #[.none,.none,.int (-1) l]}}:=t.kept (t':=g.toks) λb t q=>K' _ q;obtain⟨e,j,k,m⟩:=i.list (aO.of z);have c:e.toArray.size=d.length:=by rw[aak];exact j.length.symm
 have n:=wj j (sliceRange (sliceBounds none none (some (-1)) d.length).1 (sliceBounds none none (some (-1)) d.length).2.1 (sliceBounds none none (some (-1)) d.length).2.2);have p:=slicePick_size_le e.toArray none none (some (-1));have j:slicePick e.toArray none none (some (-1))=((sliceRange (sliceBounds none none (some (-1)) d.length).1 (sliceBounds none none (some (-1)) d.length).2.1 (sliceBounds none none (some (-1)) d.length).2.2).filterMap (e[·]?)).toArray:=by
  unfold slicePick;rw[c];simp
 have e:(Fu d).length<=d.length:=by
  have:=n.length;rw[j,aak,c]at p;exact aaq (Nat.le_of_eq this) p
 calc tail_any (ops:=[.ref a,.ref g.heap.objs.size]) k.isList.typeIs list_getitem_lookup (wpAny_getItem_list_slice k.isList (Heap.IsSliceOf.new ..) .none .none (.int (-1) l) ∅ ?_ (by rw[c];calc m)) (by with_unfolding_all rfl);calc⟨.ref _,_,i.laid (t':=g.toks) (o:=.lst (Fu d)) (λb t q=>K' _ q) (F' _) ⟨aaq e m,_,0,n,?_⟩,rfl,q _ (i.ba.fresh (F' _)) e⟩;rw[j];calc Y' _ rfl
end
end L2
namespace L2
open PySem PySem.Spec PyProof.Rows
section
variable {ns:List Int}
section
variable {X:Cx}
theorem ND:fQ X (binaryOp .LShift) (uI ES λi j=>.int (i*2^j.toNat)):=UI Rg
theorem NF:fQ X (binaryOp .RShift) (uI (λ_ j=>0<=j) λi j=>.int (i/2^j.toNat)):=UI Rh
theorem NG:fQ X (binaryOp .BitAnd) (LV λi j=>.int (Builtin.bitAnd i j)):=Fc Ri
theorem acU{x:Int}(h:0<=x):Builtin.bitAnd x 1=0\/Builtin.bitAnd x 1=1:=by
 rw[PyProof.Rows.bitAnd_pp h ∅,show(1:Int).toNat=1 from rfl,Nat.and_one_is_mod];lia
theorem NH{c:Int}(h:c∈ns):Bu (.int c) (ns.map V.int)=true:=List.any_eq_true.mpr ⟨.int c,List.mem_map.mpr ⟨c,h,rfl⟩,by simp[CY]⟩
theorem Fv:(ns.map V.int).all gj=true:=List.all_eq_true.mpr λx h=>by
 obtain⟨i,_,rfl⟩:=List.mem_map.mp h;rfl
theorem Jl{K:W.Frag}{H:Hp}{a c:Addr}{d:List Int}(g:H a=some (.tup (ns.map V.int)))(j:H c=some (.tup (d.map V.int))):∃b,EqT K H 19 a c b/\(b=false->ns≠d):=by
 refine⟨_,⟨_,_,λi=>CY (.int (ns.getD i 0)) (.int (d.getD i 0)),.inl ⟨bF.of g,bF.of j⟩,λi u v e f=>.inr (.inl ?_),rfl⟩,?_⟩
 ·rw[A']at e f;obtain⟨x,k,rfl⟩:=Option.map_eq_some_iff.mp e;obtain⟨y,l,rfl⟩:=Option.map_eq_some_iff.mp f;exact⟨rfl,rfl,by simp only[List.getD_eq_getElem?_getD,k,l,Option.getD_some]⟩
 ·rintro h rfl;simp[CY]at h
end
end
section
end
end L2
namespace Jm
open PySem L2 DD
def top(i:Nat):Stmt:=PySem.Challenge.pw_cutrestore_k53_whole_each_later_choice.main.body.getD i (.Pass ⟨0,0,0,0⟩)
structure Tx(K:W.Frag)(mg:Str->Option Value)(C CN CR F:Addr)(FD:List (Str×V)):Prop where
 bq:mg "isinstance"=none
 zz:mg "int"=none
 BU:mg "bool"=none
 Dx:mg "str"=none
 cf:mg "tuple"=none
 dN:mg "list"=none
 bO:mg "len"=none
 dG:mg "range"=none
 W3:mg "min"=none
 Jn:mg "max"=none
 k6:mg "all"=none
 W4:mg "any"=none
 zA:mg "zip"=none
 cK:mg "enumerate"=none
 xR:mg "ValueError"=none
 ui:mg "sorted"=none
 dX:∃t,mg "MOST_DEEDS"=some (.int 24 t)
 dO:∃t,mg "MOST_MODULUS"=some (.int 1000000000000 t)
 dP:∃t,mg "MOST_NUMBERS"=some (.int 4 t)
 fA:∃t,mg "MOST_ROW"=some (.int 12 t)
 dz:∃t,mg "MOST_MACHINES"=some (.int 5 t)
 fI:∃t,mg "MOST_WAYS"=some (.int 10 t)
 dQ:∃t,mg "MOST_LETTERS"=some (.int 20 t)
 dY:∃t,mg "SAID_BOUND"=some (.int 1000000000000000000000000000000000000000000000000000000000000 t)
 cN:vd K C
 wq:mg "Machine"=some (.ref C)
 Ph:cJ K C "own_modulus"
 Sl:cJ K C "own_state"
 Pj:cJ K C "own_deeds"
 Fw:W.findIn K (.ref C) "__class__"=some (some (.builtin "object.__class__"))
 Fx:W.mroIn K C (.type "object")=some true
 cO:vd K CN
 W5:mg "Net"=some (.ref CN)
 zB:cJ K CN "own_machines"
 zC:cJ K CN "own_ways"
 BV:cJ K CN "own_letters"
 Jo:W.findIn K (.ref CN) "__class__"=some (some (.builtin "object.__class__"))
 Jp:W.mroIn K CN (.type "object")=some true
 a0:vd K CR
 W6:mg "Run"=some (.ref CR)
 cP:cJ K CR "own_net"
 cZ:cJ K CR "picks_done"
 b4:cJ K CR "states_had"
 dZ:cJ K CR "words_had"
 c8:cJ K CR "words_said"
 b8:cJ K CR "letters_say"
 eV:cJ K CR "senders"
 df:cJ K CR "workers"
 Jq:W.findIn K (.ref CR) "__class__"=some (some (.builtin "object.__class__"))
 Jr:W.mroIn K CR (.type "object")=some true
 Fy:W.specialIn K (.builtin "object.__class__") "__get__"=some (some (.builtin "getset_descriptor.__get__"))
 wt:W.takesIn K (.builtin "object.__class__")=some true
 i_k:W.kitOne K (.ref C) (.ref C)=some true
 Dy:mg "FORMS"=some (.ref F)
 Dz:CD K F FD
 Pl:∀d:bH,∃p,PyProof.Rows.KTD.datumAt d.word FD=some (.ref p)/\∀H,bF K H p (d.vi.map V.str)
end Jm
namespace Jm
open PySem L2 DD
variable {D a b p:Addr}{Z:Addr->Prop}{d:bH}{G H H' H0 H1 H2:Hp}{R:Hp->Prop}{e:Int×Int}{ws:List (Int×Int×Str)}{ls ps s:List (Int×Int)}{as ms:List Addr}{es:List DV}{cut ns row:List Int}{ib:List MD}{mv wv ys:List V}{j m:Nat}{ad:Nat->Nat->Addr}{r r':RS}{σ:St}{f:Str}{dd st:V}{Q:VK}
theorem kj{X:Cx}{c:Scope}{N:List Str}:vg X c N λY=>UC Y [] fq:=λ_ _ _ _=>M0
section
variable {P:Program}{w:World}{K:W.Frag}{mg:Str->Option Value}{base:Heap}{C CN CR F B:Addr}{c:Nat->Addr}{FD:List (Str×V)}
local macro_rules | `(tactic| walk_at "s") => `(tactic| exact ⟨rfl, rfl, rfl, by decide +kernel, rfl, by decide +kernel, by decide +kernel⟩)
def zqI(s:String):Array Lean.Ident:=(s.splitOn " ").toArray.map (Lean.mkIdent ·.toName)
def zqK:=zqI "tV tT WU IK IL IM IP IQ IS GN tC AK tUn rU CM tB QX GQ QW tOr GP tIf GS QY EN dE Q1 vQ OX tj yR Rm Rn CI Hw xn Hx By R6 Bg Il Im Io Pc Ip Ir Iu Iw Iy UB xf Hk MB Rk vR CP tBM Rx IA Iz Q2 ipI A8 id_eq RT Ik HM GY qf O4 HQ HU HV HW O5 HX HY HZ Ia O6 Dg y8 fq tJ wa WC HN O2 O3 L2.start List.map_cons List.map_nil List.cons_append List.nil_append List.replicate List.getElem?_cons_zero List.getElem?_cons_succ List.set_cons_zero List.set_cons_succ"
def zqL:=zqI "BI BJ xu xy xA xB List.length_cons List.length_nil List.append_nil Option.some.injEq exists_eq_left' exists_eq_left V.int.injEq V.bl.injEq V.str.injEq V.ref.injEq List.cons.injEq and_true true_and Nat.reduceSub Nat.reduceAdd"
local macro_rules | `(tactic| simp_arith only [$xs,*]) => let l:=zqK; `(tactic| simp only [$[$l:ident],*, ↓Dl, ↓ze, ↓tU, ↓wc, ↓tW, $xs,*])
local macro_rules | `(tactic| simp_arith! only [$xs:simpLemma,*]) => let l:=zqK; `(tactic| dsimp only [$[$l:ident],*, ↓Dl, ↓ze, ↓tU, ↓wc, ↓tW, $xs:simpLemma,*])
local macro_rules | `(tactic| walk_at "l0") => `(tactic| simp_arith! only [EM, A7, pB])
local macro_rules | `(tactic| walk_at "l1") => let l:=zqL; `(tactic| simp_arith only [EM, A7, pB, $[$l:ident],*])
local macro_rules | `(tactic| walk_at "l2") => `(tactic| simp_arith! only [EM, A7])
local macro_rules | `(tactic| walk_at "l3") => let l:=zqL; `(tactic| simp_arith only [EM, A7, $[$l:ident],*])
local macro_rules | `(tactic| walk_at "l4") => `(tactic| simp_arith! only [pB])
local macro_rules | `(tactic| walk_at "l5") => let l:=zqL; `(tactic| simp_arith only [pB, $[$l:ident],*])
local macro_rules | `(tactic| walk_at "rd") => `(tactic| first | (walk_at "l0"; try walk_at "l1") | walk_at "l1")
local macro_rules | `(tactic| right) => `(tactic| try walk_at "rd")
local macro_rules | `(tactic| walk_at "rt") => `(tactic| first | (walk_at "l2"; try walk_at "l3") | walk_at "l3")
local macro_rules | `(tactic| walk_at "gj") => `(tactic| first
  |refine dJ (by assumption) (by first|rfl|exact aA (j := 0) rfl|exact aA (j := 1) rfl|exact aA (j := 2) rfl|exact aA (j := 3) rfl) ?_
  |refine bC (by assumption) (by first|rfl|exact aA (j := 0) rfl|exact aA (j := 1) rfl|assumption) ?_
  |rw [if_pos (by decide +kernel)]
  | rw [if_neg (by decide +kernel)])
local macro_rules | `(tactic| walk_at "go") => `(tactic| repeat (first|walk_at "rd"|walk_at "gj"))
local macro_rules | `(tactic| walk_at "r0") => `(tactic| first | (walk_at "l4"; try walk_at "l5") | walk_at "l5")
local macro_rules | `(tactic| walk_at "rh") => `(tactic| first | with_reducible refine L2.R7 ?_ | (with_reducible refine L2.kd ?_; intro N hN) | (with_reducible refine L2.jb ?_; intro T U hT hU))
local macro_rules | `(tactic| walk_at "rn") => `(tactic| (refine L2.bz (by assumption) ?_; (repeat walk_at "rh"); try walk_at "r0"))
local macro_rules | `(tactic| walk_at "jd") => `(tactic| first
  |(walk_at "rh"; (repeat walk_at "rh"); (try walk_at "r0"); repeat walk_at "rn")
  |(walk_at "rn"; repeat walk_at "rn")
  | (walk_at "r0"; repeat walk_at "rn"))
local macro_rules | `(tactic| left) => `(tactic| try walk_at "jd")
local macro_rules | `(tactic| walk_at "jt") => `(tactic| first | (walk_at "l2"; try walk_at "l3") | walk_at "l3")
local macro_rules | `(tactic| walk_at "jg") => `(tactic| repeat (first|walk_at "jd"|walk_at "gj"))
theorem zD{z:V}:Br (ys++[z]).length (-1)=some ys.length:=by
 unfold Br;rw[if_neg ∅,if_pos (by simp;lia)];congr 1;simp;lia
theorem lU{z:V}:ia (ys++[z]) (-1)=some z:=by
 unfold ia;rw[zD];simp
theorem Js{α:Type}{ys:List α}{z y:α}:(ys++[z]).set ys.length y=ys++[y]:=by simp
theorem xS{o c:HO}:upd (upd H a o) a c=upd H a c:=by
 funext b;by_cases h:b=a
 ·subst h;rw[ab,ab]
 ·rw[ay h,ay h,ay h]
def fg(H:Hp)(p:Addr):Prop:=∃xs:List Int,H p=some (.lst (xs.map V.int))/\1<=xs.length
structure Step(p:Addr)(H H':Hp):Prop where
 fB:fg H' p
 rest:∀b o,H b=some o->b≠p->H' b=some o
theorem Step.refl(h:fg H p):Step p H H:=⟨h,λ_ _ e _=>e⟩
theorem Step.trans(a:Step p H H1)(b:Step p H1 H2):Step p H H2:=⟨b.fB,λc o e n=>b.rest c o (a.rest c o e n) n⟩
theorem fg.same(s:av H H')(h:fg H p):fg H' p:=by
 obtain⟨a,e,h⟩:=h;calc⟨a,s _ _ e,h⟩
theorem Step.same(a:Step p H H1)(b:av H1 H2):Step p H H2:=⟨a.fB.same b,λc o e n=>b _ _ (a.rest c o e n)⟩
theorem Step.set(a:Step p H H1)(xs:List Int)(h:1<=xs.length):Step p H (upd H1 p (.lst (xs.map V.int))):=
 ⟨⟨xs,ab,h⟩,λc o e n=>by rw[ay n];calc a.rest c o e n⟩
theorem Step.new{q:Addr}(a:Step p H H1){o:HO}(b:H1 q=none):Step p H (upd H1 q o):=a.same (av.new o b)
theorem Step.aP(a:Step p H H1)(c:fg H p):bX H H1:=λb d e=>a.rest b _ e λz=>by
 subst z;obtain⟨a,h,_⟩:=c;rw[h]at e;cases e
theorem Step.ne{q:Addr}(c:fg H p)(b:H q=none):q≠p:=λz=>by
 subst z;obtain⟨a,h,_⟩:=c;rw[h]at b;cases b
theorem Step.over(s:av H0 H1)(a:H0 p=none)(st:Step p H1 H2):av H0 H2:=λb o e=>st.rest b o (s b o e) (aq e a)
theorem fg.upd{q:Addr}{o:HO}(h:fg H p)(b:p≠q):fg (upd H q o) p:=by
 obtain⟨a,e,h⟩:=h;calc⟨a,by rw[ay b];calc e,h⟩
abbrev og:Stmt:=top 12
def jc:Sp:=λvs H Q _=>∃x t,vs=[x]/\Kd H x t/\Q (.bl (isI x)) H
theorem BW(D:cw K mg "is_whole" "is_whole" og ["thing"])(T:Tx K mg C CN CR F FD):Def P w K mg base "is_whole" 1 ["thing"] jc:=by
 have sc:aD ["thing"] ["thing"] (az og):=by walk_at "s"
 symm;obtain⟨x,t,rfl,a,q⟩:=h;have d:=hr.units;refine⟨_,(aj (aH (fR (aX cS rfl T.bq yD (af (au 0) (af (cU (v:=.ty "int") rfl T.zz zA2 rfl) aa))) (iz (GR (aX cS rfl T.bq yD (af (au 0) (af (cU (v:=.ty "bool") rfl T.BU PyProof.Rows.boot_bool rfl) aa)))))))),?_⟩;walk_at "rd";obtain⟨b,c,d,e,g⟩:=R0 (K:=K) a;refine cW t b a.ty d ?_;rw[g] at q
 cases b
 ·rw[if_neg R'];exact q
 ·rw[if_pos rfl];calc⟨t,c,a.ty,e,q⟩
abbrev lV:Stmt:=top 13
def bS:Sp:=λvs H Q _=>∃x t lo a,vs=[x,.int lo,.int a]/\Kd H x t/\Q (.bl (inR lo a x)) H
theorem zE(D:cw K mg "is_within" "is_within" lV ["thing","low","beyond"])(T:Tx K mg C CN CR F FD)(j:Def P w K mg base "is_whole" 1 ["thing"] jc):Def P w K mg base "is_within" 2 ["thing","low","beyond"] bS:=by
  have sc:aD ["thing","low","beyond"] ["thing","low","beyond"] (az lV):=by walk_at "s"
  symm;obtain⟨x,t,a,b,rfl,g,q⟩:=h;have k:=hr.units;refine⟨_,(aj (aH (fR (aI j hr (af (au 0) aa)) (iz (yQ tM fc (au 1) (au 0) (au 2)))))),?_⟩;walk_at "rd";refine cW x t rfl g ?_
  cases g<;>first
    | (rename_i i
       show ∃c,V.bl true=.bl c/\_;calc⟨true,rfl,?_⟩;rw[if_pos rfl];walk_at "rd";by_cases d:a<=i
       · rw[if_pos (by simpa using d)];have e:inR a b (.int i)=decide (i < b):=by simp[inR,d]
         rw[e]at q;exact q
       · rw[if_neg (by simpa using d)];have e:inR a b (.int i)=false:=by simp[inR,d]
         rw[e] at q;calc q)
    | (show ∃c,V.bl false=.bl c/\_
       calc⟨false,rfl,?_⟩;rw[if_neg R'];calc q)
abbrev uj:Stmt:=top 65
def Jt(K:W.Frag):Sp:=λvs H Q _=>∃(a:Addr) (ns:List Int) (k:Int),vs=[.ref a,.int k]/\aO K H a (ns.map V.int)/\0<=k/\∀c,Q (.int c) H
theorem Ju(D:cw K mg "_law_at" "_law_at" uj ["_law_script","_law_k"])(T:Tx K mg C CN CR F FD):Def P w K mg base "_law_at" 1 ["_law_script","_law_k"] (Jt K):=by
 have sc:aD ["_law_script","_law_k"] ["_law_script","_law_k"] (az uj):=by walk_at "s"
 symm;obtain⟨a,ns,k,rfl,b,c,q⟩:=h;have e:=hr.units;refine⟨_,(ag (aU (aC fc (au 1) (aX aN rfl T.bO S' (af (au 0) aa)) (aG _)) (aj (aH (ao e (au 0) (au 1)))) aK)
  (aj (aH ai))),?_⟩
 walk_at "rd";refine bD _ (.inl ⟨_,b,rfl⟩) ?_;rw[M'];by_cases d:k<(ns.length:Int)
 ·rw[if_pos (by simpa using d)];obtain⟨n,rfl⟩:=aaJ c;have e:n < ns.length:=by lia
  exact⟨_,.int ns[n],.inl b,aA (by rw[A',cD e];rfl),q _⟩
 ·rw[if_neg (by simpa using d)];calc q _
abbrev qo:Stmt:=top 66
def BX:Sp:=λvs H Q _=>∃n:Int,vs=[.int n]/\∀(p:Addr) (xs:List Int),H p=none->1<=xs.length->Q (.ref p) (upd H p (.lst (xs.map V.int)))
theorem Fz(D:cw K mg "_law_pot" "_law_pot" qo ["_law_cell"])(T:Tx K mg C CN CR F FD):Def P w K mg base "_law_pot" 1 ["_law_cell"] BX:=by
 have sc:aD ["_law_cell","_law_number","_law_pot_here","_law_k"] ["_law_cell"] (az qo):=by walk_at "s"
 symm;obtain⟨n,rfl,q⟩:=h;have c:=hr.units;refine⟨_,(ag (aZ (i:=1) sc.nd rfl Sort (bc cB (bc ft (bc lN (au 0) ai) ai) ai))
  (ag (aZ (i:=2) sc.nd rfl Sort (bx (af ai aa)))
  (ag (dC PassesOwn.never rfl (cy rfl T.dG (af ai aa)) (aR (i:=3) sc.nd rfl Sort)
  (ag (aZ (i:=1) sc.nd rfl Sort (bc ft (bc cB (bc cB (bc ng (au 1) (au 1)) (bc ng ai (au 1))) (au 3)) ai))
  (aj (dy (bc cB (bc ng (ao c (au 2) ai) ai) (au 1)) (iC (au 2) ai dH)))))
  (ag (aU (PW.pt (pw_and (aC (aY c) (bc ft (au 0) ai) ai (aG _)) (pw_and1 (aC (ip c) (bc lN (au 0) ai) ai (aG _))))) (aj (bN (dB o7 rB rC bW (au 2) (af (bc lN (au 0) ai) aa)))) aK)
  (aj (aH (au 2))))))),?_⟩
 right;have d:HH n 2:=⟨∅,∅⟩
 calc gp d ∅ ?_;right;calc⟨by show 1<=sizeLine;decide,λp e=>?_⟩;have c:=aa6 (n/2) (b:=2147483629) ∅;have c:=aaQ (n/2) (b:=2147483629) ∅;refine⟨40,rfl,∅,∅,iu (n:=40) (λi σ H'=>∃(u a:Int) (z:Option V),0<=u/\u<2147483648/\σ=[some (.int n),some (.int u),some (.ref p),z]/\H'=upd H p (.lst [.int a])) ?_ ?_ ?_⟩
 ·exact⟨_,0,none,(),(),rfl,rfl⟩
 ·intro i σ H' o g;obtain⟨u,a,z,k,l,rfl,rfl⟩:=g;right;calc⟨.inl ⟨(),()⟩,?_⟩;right;calc gp (.inl ⟨(),()⟩) ∅ ?_;right;calc bC ab (aA (j:=0) rfl) ?_;right;calc⟨.inr ⟨∅,∅⟩,?_⟩;right;calc cW _ 0 ab rfl ?_;right;have c:=aa6 (u*u+48271*u+(0+(i:Int))) (b:=2147483647) ∅;have g:=aaQ (u*u+48271*u+(0+(i:Int))) (b:=2147483647) ∅;exact⟨_,_,_,c,(),⟨rfl,rfl⟩,xS⟩
 ·intro σ H' m;obtain⟨u,a,z,k,l,rfl,rfl⟩:=m;right;calc⟨∅,?_⟩;right;split
  ·calc⟨d,?_⟩;right;split
   ·calc gp (.inl ⟨rfl,_,aO.of ab⟩) d ?_;right;calc iE _ ab (aB nofun) ?_;right;rw[xS];exact q p [a,n/2] e nofun
   ·right;exact q p [a] e nofun
  ·right;calc q p [a] e nofun
abbrev lW:Stmt:=top 67
def iH:Sp:=λvs H Q _=>∃(p:Addr) (m:Int),vs=[.ref p,.int m]/\fg H p/\0<m/\m.natAbs.log2<9000/\∀d H',0<=d->d<m->Step p H H'->Q (.int d) H'
theorem zF(D:cw K mg "_law_digit" "_law_digit" lW ["_law_pot_here","_law_many"])(T:Tx K mg C CN CR F FD):Def P w K mg base "_law_digit" 1 ["_law_pot_here","_law_many"] iH:=by
 have sc:aD ["_law_pot_here","_law_many","_law_digit_here"] ["_law_pot_here","_law_many"] (az lW):=by walk_at "s"
 symm;obtain⟨p,m,rfl,j,d,o,q⟩:=h;have g:=hr.units;refine⟨_,(ag (aZ (i:=2) sc.nd rfl Sort (bc ft (ao g (au 0) (kY gR ai)) (au 1)))
  (ag (dy (bc lN (ao g (au 0) (kY gR ai)) (au 1)) (iC (au 0) (kY gR ai) dH))
  (ag (aU (PW.pt (pw_and (aC (aY g) (ao g (au 0) (kY gR ai)) ai (aG _)) (pw_and1 (aC lO (aX aN rfl T.bO S' (af (au 0) aa)) ai (aG _))))) (aj (bN (Ry o7 PySem.F.slot_list_pop PySem.F.type_list_pop Rz (au 0)))) aK)
  (aj (aH (au 2)))))),?_⟩
 nofun;obtain⟨k,c,r⟩:=id j;obtain⟨ys,z,rfl⟩:∃ys z,k=ys++[z]:=⟨k.dropLast,k.getLast (by intro e;rw[e]at r;simp at r),(List.dropLast_concat_getLast _).symm⟩
 rw[U']at c
 replace c:H p=some (.lst (ys.map V.int++[.int z])):=c
 ac_rfl;have t:Step p H H:=Step.refl j;right;calc cW _ _ (.inl (aO.of c)) lU ?_;right;calc⟨d,?_⟩;right;calc cW _ _ (.inl (aO.of c)) lU ?_;right;calc⟨⟨d,o⟩,?_⟩;right;calc cW _ _ c zD ?_;rw[Js];calc cW _ _ (.inl (aO.of ab)) lU ?_;have l:=aa6 z (b:=m) ();have n:=aaQ z d;have u:Step p H (upd H p (.lst (ys.map V.int++[.int (z/m)]))):=by
  have:=t.set (ys++[z/m]) nofun;rw[U']at this;exact this
 right;split
 ·calc bD _ (.inl ⟨_,aO.of ab,rfl⟩) ?_;right;split
  ·rename_i a;have a:1<=ys.length:=by
    simp at a;lia
   calc⟨.inl ⟨rfl,_,aO.of ab⟩,?_⟩;calc⟨p,_,.int (z/m),rfl,rfl,ab,nofun,?_⟩;right;rw[List.dropLast_concat,xS];exact q _ _ l n (t.set ys a)
  ·right;exact q _ _ l n u
 ·right;calc q _ _ l n u
theorem BY:ES 10 60:=⟨∅,∅,⋯⟩
theorem So:ES 10 12:=⟨∅,∅,⋯⟩
theorem Sr:GZ 2 (10^Int.toNat 60):=.inl ⟨⋯,⋯⟩
theorem W7:(0:Int)<2*10^Int.toNat 60-1:=by decide +kernel
theorem W8:(2*10^Int.toNat 60-1:Int).natAbs.log2<9000:=by decide +kernel
theorem Ss:(0:Int)<10^Int.toNat 60:=by decide +kernel
theorem Su:(10^Int.toNat 60:Int).natAbs.log2<9000:=by decide +kernel
theorem W9:(0:Int)<10^Int.toNat 12-1:=by decide +kernel
theorem Sv:(10^Int.toNat 12-1:Int).natAbs.log2<9000:=by decide +kernel
theorem dig{m:Int}{E:XK}(a:fg H p)(b:0<m)(c:m.natAbs.log2<9000)(q:∀d H',0<=d->d<m->Step p H H'->Q (.int d) H'):iH [.ref p,.int m] H Q E:=⟨p,m,rfl,a,b,c,q⟩
theorem NI{H:Hp}{n:Nat}{x:V}{d:List DV}(h:HD H n x (.tup d)):∃k a xs,x=.ref a/\H a=some (.tup xs)/\xs.length=d.length/\∀(i:Nat) u e,xs[i]?=some u->d[i]?=some e->HD H k u e:=by
 cases h with
 |tup a b c=>calc⟨_,_,_,rfl,a,b,c⟩
abbrev oh:Stmt:=top 31
def Jv:Sp:=λvs H Q _=>∃x m n d,vs=[x,.int m]/\HD H n x d/\∀H',av H H'->Q (.bl (Fl m d)) H'
theorem NJ{K:W.Frag}{H:Hp}{n:Nat}{x:V}{d:DV}(h:HD H n x d)(a:∀c,d≠.tup c):∃t,gT K H x t/\W.kitOne K t (.type "tuple")=some false:=by
 cases h with
 |bL=>calc⟨_,.bL,rfl⟩
 |bl b=>calc⟨_,.bl b,rfl⟩
 |int i=>calc⟨_,.int i,rfl⟩
 |str x=>calc⟨_,.str x,rfl⟩
 |tup e=>calc absurd rfl (a _)
 |lst e=>calc⟨_,.lst e,rfl⟩
 |dict e=>calc⟨_,.dK e,rfl⟩
theorem NK{K:W.Frag}{H:Hp}{n:Nat}{x:V}{d:DV}(h:HD H n x d)(a:∀s,d≠.str s):∃t,gT K H x t/\W.kitOne K t (.type "str")=some false:=by
 cases h with
 |bL=>calc⟨_,.bL,rfl⟩
 |bl b=>calc⟨_,.bl b,rfl⟩
 |int i=>calc⟨_,.int i,rfl⟩
 |str x=>calc absurd rfl (a _)
 |tup e=>calc⟨_,.tup e,rfl⟩
 |lst e=>calc⟨_,.lst e,rfl⟩
 |dict e=>calc⟨_,.dK e,rfl⟩
theorem NL{m:Int}{d:DV}(b:∀a,d≠.tup a):Fl m d=false:=by
 cases d with
 |tup a=>calc absurd rfl (b a)
 |_=>rfl
theorem Jw{m:Int}{d:DV}{r:List DV}(a:∀s,d≠.str s):Fl m (.tup (d::r))=false:=by
 cases d with
 |str s=>calc absurd rfl (a s)
 |_=>rfl
theorem BZ(D:cw K mg "is_value" "is_value" oh ["thing","many"])(T:Tx K mg C CN CR F FD)(X:Def P w K mg base "is_whole" 1 ["thing"] jc)(Y:Def P w K mg base "is_within" 2 ["thing","low","beyond"] bS):Def P w K mg base "is_value" 3 ["thing","many"] Jv:=by
 have sc:aD ["thing","many","word"] ["thing","many"] (az oh):=by walk_at "s"
 symm;obtain⟨x,m,n,d,rfl,G,q⟩:=h;have k:=hr.units;refine⟨_,(ag (aU (PW.pt (pw_or (bR (bu (aX cS rfl T.bq yD (af (au 0) (af (cU (v:=.ty "tuple") rfl T.cf sC rfl) aa))))) (pw_or (aC (aY k) (aX aN rfl T.bO S' (af (au 0) aa)) ai (aG _)) (pw_or1 (bR (bu (aX cS rfl T.bq yD (af (ao k (au 0) ai) (af (cU (v:=.ty "str") rfl T.Dx PyProof.Rows.boot_str rfl) aa))))))))) (aj (aH hX)) aK)
  (ag (aZ (i:=2) sc.nd rfl Sort (ao k (au 0) ai))
  (ag (aU (aC BA (au 2) (bG (af aE (af aE (af aE aa)))) (by with_unfolding_all rfl)) (aj (aH (fm (aY k) (aX aN rfl T.bO S' (af (au 0) aa)) ai (aG _)))) aK)
  (ag (aU (aC (ip k) (aX aN rfl T.bO S' (af (au 0) aa)) ai (aG _)) (aj (aH hX)) aK)
  (ag (aU (aC (aY k) (au 2) aE (aG _)) (aj (aH (aI X hr (af (ao k (au 0) ai) aa)))) aK)
  (aj (aH (fR (fm (aY k) (au 2) aE (aG _)) (iz (aI Y hr (af (ao k (au 0) ai) (af ai (af (au 1) aa))))))))))))),?_⟩
 walk_at "rd";by_cases I:∀l,d≠.tup l
 ·obtain⟨t,o,N⟩:=NJ (K:=K) G I;calc cW t false o N ?_;rw[NL I]at q;exact q H (av.refl H)
 ·have:∃l,d=.tup l:=Classical.byContradiction λz=>I λl e=>z ⟨l,e⟩;nofun;obtain⟨l,rfl⟩:=this;obtain⟨n,a,Z,rfl,B,O,U⟩:=NI G;calc hZ ?_;clear hZ gZ G I
  ·skip
   refine⟨.type "tuple",true,.tup B,rfl,?_⟩;simp only[Bool.not_true,Bool.false_eq_true,if_false];refine bD _ (.inr ⟨_,bF.of B,rfl⟩) ?_;right;rcases l with _|⟨R,b⟩<;>rcases Z with _|⟨x0,J⟩
   ·exact q H (av.refl H)
   ·cases O
   ·cases O
   ·skip
    rw[if_neg (by simp;lia)];calc cW _ _ (.inr (bF.of B)) (aA (j:=0) rfl) ?_;have W:=U 0 x0 R rfl rfl;by_cases k:∀s,R≠.str s
    ·obtain⟨t,o,N⟩:=NK (K:=K) W k;calc cW t false o N ?_;rw[Jw k]at q;exact q H (av.refl H)
    ·have:∃s,R=.str s:=Classical.byContradiction λz=>k λl e=>z ⟨l,e⟩;nofun;obtain⟨g,rfl⟩:=this;obtain rfl:=W.cX;ac_rfl;refine⟨.type "str",true,.str _,rfl,?_⟩;simp only[Bool.not_true,Bool.false_eq_true,if_false];refine cW _ _ (.inr (bF.of B)) (aA (j:=0) rfl) ?_;right;refine⟨∅,λp k=>?_⟩;have r:av H (upd H p (.tup [.str "letter",.str "way",.str "first"])):=av.new _ k;have L:=r _ _ B;refine Nv _ (.inr (bF.of ab)) rfl rfl ?_;right;have u:J.length=b.length:=by simpa using O
     by_cases M:Bu (.str g) tX=true
     ·have S:Fl m (.tup (.str g::b))=decide (b.length=0):=by
       show(if Bu (.str g) tX=true then decide (b.length=0) else _)=_;rw[if_pos M]
      rw[if_pos (show Bu (.str g) [.str "letter",.str "way",.str "first"]=true from M)];refine bD _ (.inr ⟨_,bF.of L,rfl⟩) ?_;right;have e:decide (((J.length+1:Nat):Int)=1)=decide (b.length=0):=by
       rw[u];by_cases z:b.length=0
       ·rw[aar z,aar ()]
       ·rw[aay z,aay ()]
      rw[S]at q;have c:=q _ r;rw[<-e]at c;exact c
     ·have S:Fl m (.tup (.str g::b))=Nk g m b:=by
       show(if Bu (.str g) tX=true then decide (b.length=0) else _)=_;rw[if_neg M]
      rw[if_neg (show ¬Bu (.str g) [.str "letter",.str "way",.str "first"]=true from M)];refine bD _ (.inr ⟨_,bF.of L,rfl⟩) ?_;right;rw[S]at q;rcases b with _|⟨z,_|⟨z',b⟩⟩<;>rcases J with _|⟨y,_|⟨k,J⟩⟩
      ·rw[if_pos nofun];exact q _ r
      ·cases u
      ·cases u
      ·cases u
      ·skip
       rw[if_neg nofun];have o:=(U 1 y z rfl rfl).same r;obtain⟨t,l⟩:=WL o;by_cases b:g="is"
       ·rw[if_pos (by simpa using b)];calc⟨_,_,.inr (bF.of L),rfl,y,t,rfl,l,?_⟩;have c:=q _ r;simp only[Nk,if_pos b]at c;rw[R3 o];exact c
       ·rw[if_neg (by simpa using b)];have c:=q _ r;simp only[Nk,if_neg b] at c;by_cases k:g="number"
        ·rw[if_pos (by simpa using k)];calc⟨_,_,.inr (bF.of L),rfl,y,t,0,m,rfl,l,?_⟩;rw[aar k,Bool.true_and]at c;rw[R4 o];exact c
        ·rw[if_neg (by simpa using k)];rw[aay k,Bool.false_and]at c;exact c
      ·simp at u
      ·cases u
      ·simp at u
      ·rw[if_pos (by simp;lia)];calc q _ r
abbrev qp:Stmt:=top 14
def iI:Sp:=λvs H Q _=>∃(a:Addr) (xs:List V) (lo b:Int),vs=[.ref a,.int lo,.int b]/\(H a=some (.lst xs)\/H a=some (.tup xs))/\∀H',av H H'->Q (.bl (decide (lo<=(xs.length:Int))&&decide ((xs.length:Int)<=b))) H'
theorem FC(D:cw K mg "is_list" "is_list" qp ["things","least","most"])(T:Tx K mg C CN CR F FD):Def P w K mg base "is_list" 1 ["things","least","most"] iI:=by
 have sc:aD ["things","least","most"] ["things","least","most"] (az qp):=by walk_at "s"
 symm;obtain⟨a,d,g,i,rfl,b,q⟩:=h;have i:=hr.units;refine⟨_,(aj (aH (fR (aX cS rfl T.bq yD (af (au 0) (af (bG (af (cU (v:=.ty "list") rfl T.dN wV rfl) (af (cU (v:=.ty "tuple") rfl T.cf sC rfl) aa))) aa))) (iz (yQ tM tM (au 1) (aX aN rfl T.bO S' (af (au 0) aa)) (au 2)))))),?_⟩;right;refine⟨cM,λp i=>?_⟩;have c:av H (upd H p (.tup [.ty "list",.ty "tuple"])):=av.new _ i;have e:∃t,gT K (upd H p (.tup [.ty "list",.ty "tuple"])) (.ref a) t/\W.kitAny K t [.type "list",.type "tuple"]=some true/\Ha K (.ref a) (upd H p (.tup [.ty "list",.ty "tuple"])) d.length:=by
  rcases b with b|b
  ·exact⟨_,.lst (c _ _ b),rfl,.inl ⟨_,aO.of (c _ _ b),rfl⟩⟩
  ·exact⟨_,.tup (c _ _ b),rfl,.inr ⟨_,bF.of (c _ _ b),rfl⟩⟩
 obtain⟨t,i,j,k⟩:=e;calc WR t true _ _ i ab rfl j ?_;rw[if_pos rfl];calc bD _ k ?_;have b:=q _ c;by_cases h:g<=(d.length:Int)
 ·rw[if_pos (by simpa using h)];rw[aar h,Bool.true_and]at b;exact b
 ·rw[if_neg (by simpa using h)];rw[aay h,Bool.false_and]at b;calc b
abbrev qr:Stmt:=top 37
def DA(K:W.Frag):Sp:=λvs H Q _=>∃d:bH,vs=[.str d.word]/\∀p,bF K H p (d.vi.map V.str)->Q (.ref p) H
theorem FE(D:cw K mg "form_of" "form_of" qr ["word"])(T:Tx K mg C CN CR F FD):Def P w K mg base "form_of" 1 ["word"] (DA K):=by
 have sc:aD ["word"] ["word"] (az qr):=by walk_at "s"
 symm;obtain⟨d,rfl,q⟩:=h;have a:=hr.units;calc⟨_,(aj (aH (Nd T.Dz rfl T.Dy (af (au 0) aa)))),?_⟩;obtain⟨p,a,b⟩:=T.Pl d;show Q ((PyProof.Rows.KTD.datumAt d.word FD).getD .bL) H;rw[a];calc q p (b H)
abbrev qt:Stmt:=top 38
inductive kl(H:Hp)(m:Int):V->Str->Prop
 |value {n x v}:HT H n x (Val.dv v)->v.ok m->kl H m x "value"
 |number {i}:0<=i->i<m->kl H m (.int i) "number"
 |many {i}:1<=i->i<25->kl H m (.int i) "many"
 |way {i}:0<=i->kl H m (.int i) "way"
theorem kl.same{H H':Hp}{m:Int}{x:V}{w:Str}(s:av H H')(h:kl H m x w):kl H' m x w:=by
 cases h with
 |value a b=>calc .value (a.aJ s.aP) b
 |number a b=>calc .number a b
 |many a b=>calc .many a b
 |way a=>calc .way a
def DB:Sp:=λvs H Q _=>∃x w m,vs=[x,.str w,.int m]/\kl H m x w/\∀H',av H H'->Q (.bl true) H'
theorem FG(D:cw K mg "is_part" "is_part" qt ["thing","sort","many"])(T:Tx K mg C CN CR F FD)(d:Def P w K mg base "is_value" 3 ["thing","many"] Jv)(g:Def P w K mg base "is_whole" 1 ["thing"] jc)(b:Def P w K mg base "is_within" 2 ["thing","low","beyond"] bS):Def P w K mg base "is_part" 4 ["thing","sort","many"] DB:=by
 have sc:aD ["thing","sort","many"] ["thing","sort","many"] (az qt):=by walk_at "s"
 symm;obtain⟨x,w,m,rfl,c,q⟩:=h;have a:=hr.units;refine⟨_,(ag (aU (aC (aY a) (au 1) aE (aG _)) (aj (aH (aI d hr (af (au 0) (af (au 2) aa))))) aK)
  (ag (aU (aC (aY a) (au 1) aE (aG _)) (aj (aH (aI b hr (af (au 0) (af ai (af (au 2) aa)))))) aK)
  (ag (aU (aC (aY a) (au 1) aE (aG _)) (aj (aH (aI b hr (af (au 0) (af ai (af (bc cB (fW T.dX rfl) ai) aa)))))) aK)
  (aj (aH (fR (aI g hr (af (au 0) aa)) (iz (fm RJ (au 0) ai (aG _))))))))),?_⟩
 right
 cases c with
 | @value n x v a b=>
  rw[if_pos ⋯];calc fz x m n _ rfl a.hd (λH' s=>?_);rw[R5 b];calc q H' s
 | @number i a b=>
  rw[if_neg ⋯,if_pos ⋯];calc fz (.int i) _ 0 m rfl (.int i) ?_;have e:inR 0 m (.int i)=true:=by simp[inR,a,b]
  rw[e];calc q H (av.refl H)
 | @many i a b=>
  rw[if_neg ⋯,if_neg ⋯,if_pos ⋯];calc fz (.int i) _ 1 _ rfl (.int i) ?_;have e:inR 1 (24+1) (.int i)=true:=by simp[inR,a];lia
  rw[e];calc q H (av.refl H)
 | @way i a=>
  rw[if_neg ⋯,if_neg ⋯,if_neg ⋯];calc⟨.int i,_,rfl,.int i,true,rfl,?_⟩;rw[if_pos rfl];have e:decide ((0:Int)<=i)=true:=aar a;right;rw[e];calc q H (av.refl H)
abbrev qu:Stmt:=top 39
theorem acV{x:V}{ps:List V}:dS (x::ps) (some 1) none=ps:=by
 unfold dS;have e:HT.eF (x::ps).length 0 (some 1)=1:=by
  show(if (1:Int)<0 then((1:Int)+((x::ps).length:Int)).toNat else min (1:Int).toNat (x::ps).length)=1;rw[if_neg ∅];show min 1 (ps.length+1)=1;lia
 rw[e];show List.take ((x::ps).length-1) ps=ps;simp
theorem uk{H:Hp}{n:Nat}{x:V}{d:bH}{m:Int}(h:HT H n x d.dv)(f:d.ok m):∃a ps,x=.ref a/\H a=some (.tup (.str d.word::ps))/\ps.length=d.vi.length/\∀(i:Nat) p s,ps[i]?=some p->d.vi[i]?=some s->kl H m p s:=by
 cases d with
 |set i v=>
  nofun;obtain⟨a,u,y,z,k,rfl,e,g,l,o⟩:=bT h;obtain rfl:=g.cX;obtain rfl:=l.cG;ac_rfl;refine ue a _ rfl e rfl (λj p s b c=>?_)
  match j,b,c with
  |0,b,c=>cases b;cases c;calc .number f.1 f.2.1
  |1,b,c=>cases b;cases c;calc .value o f.2.2
 |add i v=>
  nofun;obtain⟨a,u,y,z,k,rfl,e,g,l,o⟩:=bT h;obtain rfl:=g.cX;obtain rfl:=l.cG;ac_rfl;refine ue a _ rfl e rfl (λj p s b c=>?_)
  match j,b,c with
  |0,b,c=>cases b;cases c;calc .number f.1 f.2.1
  |1,b,c=>cases b;cases c;calc .value o f.2.2
 |times i v=>
  nofun;obtain⟨a,u,y,z,k,rfl,e,g,l,o⟩:=bT h;obtain rfl:=g.cX;obtain rfl:=l.cG;ac_rfl;refine ue a _ rfl e rfl (λj p s b c=>?_)
  match j,b,c with
  |0,b,c=>cases b;cases c;calc .number f.1 f.2.1
  |1,b,c=>cases b;cases c;calc .value o f.2.2
 |put v=>
  nofun;obtain⟨a,u,y,k,rfl,e,g,l⟩:=dM h;obtain rfl:=g.cX;ac_rfl;refine ue a _ rfl e rfl (λj p s b c=>?_)
  match j,b,c with
  |0,b,c=>cases b;cases c;calc .value l f
 |drop=>
  nofun;obtain⟨a,u,k,rfl,e,g⟩:=jk h;obtain rfl:=g.cX;ac_rfl;calc⟨a,_,rfl,e,rfl,λj p s b c=>by simp at b⟩
 |send j v=>
  nofun;obtain⟨a,u,y,z,k,rfl,e,g,l,o⟩:=bT h;obtain rfl:=g.cX;obtain rfl:=l.cG;ac_rfl;refine ue a _ rfl e rfl (λj p s b c=>?_)
  match j,b,c with
  |0,b,c=>cases b;cases c;calc .way f.1
  |1,b,c=>cases b;cases c;calc .value o f.2
 |say v=>
  nofun;obtain⟨a,u,y,k,rfl,e,g,l⟩:=dM h;obtain rfl:=g.cX;ac_rfl;refine ue a _ rfl e rfl (λj p s b c=>?_)
  match j,b,c with
  |0,b,c=>cases b;cases c;calc .value l f
 |skip v w i=>
  nofun;obtain⟨a,u,y,z,t,k,rfl,e,g,l,o,q⟩:=pK h;obtain rfl:=g.cX;obtain rfl:=q.cG;ac_rfl;refine ue a _ rfl e rfl (λj p s b c=>?_)
  match j,b,c with
  |0,b,c=>cases b;cases c;calc .value l f.1
  |1,b,c=>cases b;cases c;calc .value o f.2.1
  |2,b,c=>cases b;cases c;calc .many f.2.2.1 f.2.2.2
theorem B1:d.vi.length<=3:=by cases d<;>simp[bH.vi]
def wu:Sp:=λvs H Q _=>∃x m n d,vs=[x,.int m]/\HT H n x (bH.dv d)/\d.ok m/\∀H',av H H'->Q (.bl true) H'
theorem FH(D:cw K mg "is_deed" "is_deed" qu ["thing","many"])(T:Tx K mg C CN CR F FD)(k:Def P w K mg base "form_of" 1 ["word"] (DA K))(O:Def P w K mg base "is_part" 4 ["thing","sort","many"] DB):Def P w K mg base "is_deed" 5 ["thing","many"] wu:=by
 have sc:aD ["thing","many","form"] ["thing","many"] (az qu):=by walk_at "s"
 symm;obtain⟨x,m,n,d,rfl,G,I,q⟩:=h;have g:=hr.units;refine⟨_,(ag (aU (PW.pt (pw_or (bR (bu (aX cS rfl T.bq yD (af (au 0) (af (cU (v:=.ty "tuple") rfl T.cf sC rfl) aa))))) (pw_or (aC (aY g) (aX aN rfl T.bO S' (af (au 0) aa)) ai (aG _)) (pw_or1 (bR (bu (aX cS rfl T.bq yD (af (ao g (au 0) ai) (af (cU (v:=.ty "str") rfl T.Dx PyProof.Rows.boot_str rfl) aa))))))))) (aj (aH hX)) aK)
  (ag (aZ (i:=2) sc.nd rfl Sort (aI k hr (af (ao g (au 0) ai) aa)))
  (ag (aU (PW.pt (pw_or (aC tO (au 2) gm (aG _)) (pw_or1 (aC (ip g) (aX aN rfl T.bO S' (af (au 0) aa)) (bc cB (aX aN rfl T.bO S' (af (au 2) aa)) ai) (aG _))))) (aj (aH hX)) aK)
  (aj (aH (aX (dI rfl) rfl T.k6 GJ (af (cu (N':=["part","sort","many"]) (ix:=[none,none,some 1]) (xF rfl T.zA (af (nX (au 0) (eW ai) ig) (af (au 2) aa))) (λ_ _ _ _=>(fX (K:=K) rfl (i:=0) (j:=1) rfl (show(["part","sort","many"]:List Str).Nodup by decide +kernel) rfl rfl Sort Sort)) kj (λ_ _ _ _=>(aI O hr (af (au 0) (af (au 1) (af (au 2) aa)))))) aa))))))),?_⟩
 obtain⟨a,ps,rfl,g,k,R⟩:=uk G I;have O:=B1 (d:=d);right;calc cW _ true (.tup g) rfl ?_;simp only[Bool.not_true,Bool.false_eq_true,if_false];calc bD _ (.inr ⟨_,bF.of g,rfl⟩) ?_;rw[if_neg (by simp;lia)];calc⟨_,.str d.word,.inr (bF.of g),aA (j:=0) rfl,_,true,.str _,rfl,?_⟩;simp only[Bool.not_true,Bool.false_eq_true,if_false];calc⟨_,.str d.word,.inr (bF.of g),aA (j:=0) rfl,d,rfl,λp G=>?_⟩;right;rw[if_neg R'];calc⟨_,.inr ⟨_,bF.of g,rfl⟩,_,.inr ⟨_,G,rfl⟩,?_⟩;rw[if_neg (by simp[k])];calc bt ?_;right;calc .inr ⟨_,g,λI H2 y l=>?_⟩;rw[acV]at l;have o:=y.UL G;calc fz false false _ _ (Sq.t l) o (λD L=>?_);refine aV (J:=UK false false K I p) (n:=ps.length) (λi ys H'=>ys=List.replicate i (V.bl true)/\av H2 H') (J' (aB ())) ⟨rfl,av.new _ L⟩ ?_ ?_ ?_ ?_
 ·rintro i ys H' B ⟨_,c⟩;exact⟨ps,d.vi.map V.str,ps[i],.str (d.vi[i]'()),Sq.t (c _ _ l),c.UL o,cD B,by rw[A',cD ()];rfl⟩
 ·rintro ys H' ⟨_,c⟩;exact⟨ps,d.vi.map V.str,Sq.t (c _ _ l),c.UL o,.inl rfl⟩
 ·intro i ys H' B r M S x H4 U;nofun;obtain⟨rfl,c⟩:=S;obtain⟨T,W,rfl,X⟩:=U;obtain⟨u,v,Y,N,rfl⟩:=X ps (d.vi.map V.str) (Sq.t (c _ _ l)) (c.UL o);rw[A']at N;obtain⟨z,Z,rfl⟩:=Option.map_eq_some_iff.mp N;ac_rfl;have g:av H' (upd H' T (.tup [u,.str z])):=av.new _ W;calc rF (bF.of ab) ⟨Ext.set (Ext.set (Ext.refl _) rfl) rfl,?_⟩;right;rw[if_pos trivial];calc acH u z m rfl ((R i u z Y Z).same (y.trans (c.trans g))) (λl k=>?_);have n:l D=some (.lst (List.replicate i (V.bl true))):=k _ _ (g _ _ r);calc bJ n M B (J' (aB ())) ⟨j7 _ _,λb o e=>?_⟩;rw[ay (aq e L)];exact k _ _ (g _ _ (c _ _ e))
 ·rintro ys H' r M ⟨rfl,c⟩;right;rw[qh] at r;calc bD _ (aO.of r) ?_;have e:(List.replicate ps.length true).all id=true:=by simp
  rw[e];calc q _ (y.trans c)
abbrev jl:Stmt:=top 45
def LT(H:Hp)(a:Addr)(xs:List V):Prop:=H a=some (.lst xs)\/H a=some (.tup xs)
theorem LT.same{xs:List V}(s:av H H')(h:LT H a xs):LT H' a xs:=h.elim (λz=>.inl (s _ _ z)) (λz=>.inr (s _ _ z))
theorem j9{K:W.Frag}(h:LT H a ys)(q:∀p H',av H H'->H' p=some (.tup ys)->Q (.ref p) H'):xt K [.ref a] H Q:=by
 rcases h with h|h
 ·exact .inl ⟨_,aO.of h,λl b=>q l _ (av.new _ b) ab⟩
 ·calc .inr ⟨_,bF.of h,q a H (av.refl H) h⟩
def um:Sp:=λvs H Q _=>∃(a:Addr) (ns:List Int) (lo b M:Int),vs=[.ref a,.int lo,.int b,.int M]/\LT H a (ns.map V.int)/\lo<=(ns.length:Int)/\(ns.length:Int)<=b/\b<=100/\(∀z∈ns,0<=z/\z<M)/\∀H',av H H'->Q (.bl true) H'
theorem vk(D:cw K mg "are_counted" "are_counted" jl ["things","least","most","modulus"])(T:Tx K mg C CN CR F FD)(L:Def P w K mg base "is_list" 1 ["things","least","most"] iI)(N:Def P w K mg base "is_within" 2 ["thing","low","beyond"] bS):Def P w K mg base "are_counted" 3 ["things","least","most","modulus"] um:=by
 have sc:aD ["things","least","most","modulus"] ["things","least","most","modulus"] (az jl):=by walk_at "s"
 symm;obtain⟨a,ns,B,G,M,rfl,g,I,m,v,y,q⟩:=h;have v:=hr.units;refine⟨_,(aj (aH (fR (aI L hr (af (au 0) (af (au 1) (af (au 2) aa)))) (iz (aX (dI rfl) rfl T.k6 GJ (af (cu (N':=["thing","modulus"]) (ix:=[none,some 3]) (bI (pv 0)) (λ_ _ _ _=>(aR (i:=0) (show(["thing","modulus"]:List Str).Nodup by decide +kernel) rfl Sort)) kj (λ_ _ _ _=>(aI N hr (af (au 0) (af ai (af (au 1) aa)))))) aa)))))),?_⟩;right;refine fz a _ B G rfl g (λH1 k=>?_);rw[M',aar I,aar m];show ∃c,V.bl true=.bl c/\_;refine bD true rfl ?_;rw[if_pos rfl];refine bt ?_;right;rcases g with g | g
 ·calc .inl ⟨⟨_,aO.of (k _ _ g)⟩,λD p=>?_⟩;refine aV (J:=rD K a) (n:=ns.length) (λi ys H'=>ys=List.replicate i (V.bl true)/\av H1 H') (J' (aB ())) ⟨rfl,av.new _ p⟩ ?_ ?_ ?_ ?_
  ·rintro i ys H' j ⟨_,d⟩;exact⟨_,.int ns[i],aO.of (d _ _ (k _ _ g)),by rw[A',cD j];rfl⟩
  ·rintro ys H' ⟨_,d⟩;exact⟨_,aO.of (d _ _ (k _ _ g)),nofun⟩
  ·intro i ys H' j l r O x R S;nofun;obtain⟨rfl,d⟩:=O;obtain⟨rfl,z⟩:=S;have t:=z _ (aO.of (d _ _ (k _ _ g)));rw[A',cD j] at t;obtain rfl:=Option.some.inj t;ac_rfl;walk_at "xf";right;rw[if_pos trivial];refine fz (.int ns[i]) _ 0 M rfl (.int _) ?_;have u:=y ns[i] (aaw j);have e:inR 0 M (.int ns[i])=true:=by simp[inR,u.1,u.2]
   rw[e];calc bJ l r j (J' (aB ())) ⟨j7 _ _,λb o e=>?_⟩;rw[ay (aq e p)];exact d _ _ e
  ·rintro ys H' l r ⟨rfl,d⟩;right;rw[qh] at l;calc bD _ (aO.of l) ?_;have e:(List.replicate ns.length true).all id=true:=by simp
   rw[e];exact q _ (k.trans d)
 ·calc .inr ⟨⟨_,bF.of (k _ _ g)⟩,λD p=>?_⟩;refine aV (J:=Q5 K a) (n:=ns.length) (λi ys H'=>ys=List.replicate i (V.bl true)/\av H1 H') (J' (aB ())) ⟨rfl,av.new _ p⟩ ?_ ?_ ?_ ?_
  ·rintro i ys H' j ⟨_,d⟩;exact⟨_,.int ns[i],bF.of (d _ _ (k _ _ g)),by rw[A',cD j];rfl⟩
  ·rintro ys H' ⟨_,d⟩;exact⟨_,bF.of (d _ _ (k _ _ g)),nofun⟩
  ·intro i ys H' j l r U x R W;nofun;obtain⟨rfl,d⟩:=U;obtain⟨rfl,z⟩:=W;have t:=z _ (bF.of (d _ _ (k _ _ g)));rw[A',cD j] at t;obtain rfl:=Option.some.inj t;ac_rfl;walk_at "xf";right;rw[if_pos trivial];refine fz (.int ns[i]) _ 0 M rfl (.int _) ?_;have u:=y ns[i] (aaw j);have e:inR 0 M (.int ns[i])=true:=by simp[inR,u.1,u.2]
   rw[e];calc bJ l r j (J' (aB ())) ⟨j7 _ _,λb o e=>?_⟩;rw[ay (aq e p)];exact d _ _ e
  ·rintro ys H' l r ⟨rfl,d⟩;right;rw[qh] at l;calc bD _ (aO.of l) ?_;have e:(List.replicate ns.length true).all id=true:=by simp
   rw[e];calc q _ (k.trans d)
abbrev gq:Stmt:=top 46
def DE:Sp:=λvs H Q _=>∃(M:Int) (a b ad:Addr) (ns row:List Int) (xs:List V),vs=[.int M,.ref a,.ref b,.ref ad]/\2<=M/\M<=1000000000000/\LT H a (ns.map V.int)/\LT H b (row.map V.int)/\LT H ad xs/\1<=ns.length/\ns.length<=4/\row.length<=12/\(∀z∈ns,0<=z/\z<M)/\(∀z∈row,0<=z/\z<M)/\∀H',av H H'->Q .bL H'
theorem qx(D:cw K mg "refuse_machine" "refuse_machine" gq ["modulus","numbers","row","deeds"])(T:Tx K mg C CN CR F FD)(b:Def P w K mg base "are_counted" 3 ["things","least","most","modulus"] um)(r:Def P w K mg base "is_within" 2 ["thing","low","beyond"] bS):Def P w K mg base "refuse_machine" 4 ["modulus","numbers","row","deeds"] DE:=by
 have sc:aD ["modulus","numbers","row","deeds"] ["modulus","numbers","row","deeds"] (az gq):=by walk_at "s"
 symm;obtain⟨M,c,d,ad,ns,row,u,rfl,g,x,i,j,k,y,z,B,l,m,q⟩:=h;have u:=hr.units;refine⟨_,(ag (aU (bR (bu (aI r hr (af (au 0) (af ai (af (bc cB (fW T.dO rfl) ai) aa)))))) (aj cq) aK)
  (ag (aU (bR (bu (aI b hr (af (au 1) (af ai (af (fW T.dP rfl) (af (au 0) aa))))))) (aj cq) aK)
  (ag (aU (bR (bu (aI b hr (af (au 2) (af ai (af (fW T.fA rfl) (af (au 0) aa))))))) (aj cq) aK)
  (aj (aU (bR (bu (aX cS rfl T.bq yD (af (au 3) (af (bG (af (cU (v:=.ty "list") rfl T.dN wV rfl) (af (cU (v:=.ty "tuple") rfl T.cf sC rfl) aa))) aa))))) (aj cq) aK))))),?_⟩
 right;calc fz (.int M) _ 2 _ rfl (.int M) ?_;have e:inR 2 (1000000000000+1) (.int M)=true:=by simp[inR,g];lia
 rw[e];right;rw[if_neg ∅];calc WT c ns 1 4 M rfl i () () ∅ l (λH1 a=>?_);right;rw[if_neg ∅];calc WT d row 0 12 M rfl (j.same a) () () ∅ m (λH2 n=>?_);right;rw[if_neg ∅];calc⟨cM,λp b=>?_⟩;have o:av H2 (upd H2 p (.tup [.ty "list",.ty "tuple"])):=av.new _ b;have G:∃t,gT K (upd H2 p (.tup [.ty "list",.ty "tuple"])) (.ref ad) t/\W.kitAny K t [.type "list",.type "tuple"]=some true:=by
  rcases k.same (a.trans (n.trans o)) with z|z
  ·exact⟨_,.lst z,rfl⟩
  ·exact⟨_,.tup z,rfl⟩
 obtain⟨t,b,c⟩:=G;calc WR t true _ _ b ab rfl c ?_;right;rw[if_neg ∅];calc q _ (a.trans (n.trans o))
abbrev iJ:Stmt:=top 47
def DL(H:Hp)(n:Nat)(xs:List V)(a:List bH):Prop:=xs.length=a.length/\∀(i:Nat) x d,xs[i]?=some x->a[i]?=some d->HT H n x (bH.dv d)
theorem DL.aJ{n:Nat}{xs:List V}{a:List bH}(s:bX H H')(h:DL H n xs a):DL H' n xs a:=⟨h.1,λi x d a b=>(h.2 i x d a b).aJ s⟩
theorem DL.ht{n:Nat}{xs:List V}{b:List bH}(h:DL H n xs b)(e:H a=some (.tup xs)):HT H (n+1) (.ref a) (.tup (b.map bH.dv)):=by
 calc .tup e (by rw[M'];calc h.1) λi u d f c=>?_;rw[A']at c;obtain⟨dd,g,rfl⟩:=Option.map_eq_some_iff.mp c;calc h.2 i u dd f g
def DG:Sp:=λvs H Q _=>∃(a:Addr) (xs:List V) (b:List bH) (m:Int) (n:Nat),vs=[.ref a,.int m]/\LT H a xs/\DL H n xs b/\b.length<=24/\(∀d∈b,d.ok m)/\∀H',av H H'->Q .bL H'
theorem uq(D:cw K mg "refuse_deeds" "refuse_deeds" iJ ["deeds","many"])(T:Tx K mg C CN CR F FD)(B:Def P w K mg base "is_deed" 5 ["thing","many"] wu):Def P w K mg base "refuse_deeds" 6 ["deeds","many"] DG:=by
 have sc:aD ["deeds","many","at","deed"] ["deeds","many"] (az iJ):=by walk_at "s"
 symm;obtain⟨a,c,e,m,n,rfl,d,g,G,u,q⟩:=h;have G:=hr.units;refine⟨_,(aj (dC PassesOwn.never rfl (gK rfl T.cK (af (au 0) aa)) (dW (i:=2) (j:=3) rfl sc.nd rfl rfl Sort Sort)
  (aj (aU (PW.pt (pw_or (aC (aY G) (au 2) (fW T.dX rfl) (aG _)) (pw_or1 (bR (bu (aI B hr (af (au 3) (af (au 1) aa)))))))) (aj cq) aK)))),?_⟩
 rcases d with d|d
 ·calc xJ true c (Sq.l d) ?_;refine pD (xs:=c) (λi σ H'=>av H H'/\∃k o,σ=[some (.ref a),some (.int m),k,o]) ⟨av.refl H,none,none,rfl⟩ (λi σ H' ⟨b,_⟩=>Sq.l (b _ _ d)) ?_ ?_
  ·intro i x σ H1 T p I v;obtain⟨b,k,o,rfl⟩:=I;have y:i < c.length:=(List.getElem?_eq_some_iff.mp p).1;have jZ:i < e.length:=by rw[<-g.1];exact y
   have r:av H1 (upd H1 T (.tup [.int i,x])):=av.new _ v;calc rF (bF.of ab) ?_;right;rw[if_neg (by simp;lia)];calc⟨x,m,n,e[i],rfl,(g.2 i x e[i] p (cD jZ)).aJ (b.trans r).aP,u _ (aaw jZ),λJ z=>?_⟩;right
   first|rw[if_neg ∅]|skip
   exact⟨b.trans (r.trans z),_,_,rfl,rfl⟩
  ·rintro σ H1 ⟨b,_⟩;exact q _ b
 ·calc xJ false c (Sq.t d) ?_;refine pD (xs:=c) (λi σ H'=>av H H'/\∃k o,σ=[some (.ref a),some (.int m),k,o]) ⟨av.refl H,none,none,rfl⟩ (λi σ H' ⟨b,_⟩=>Sq.t (b _ _ d)) ?_ ?_
  ·intro i x σ H1 T p L v;obtain⟨b,k,o,rfl⟩:=L;have y:i < c.length:=(List.getElem?_eq_some_iff.mp p).1;have jZ:i < e.length:=by rw[<-g.1];exact y
   have r:av H1 (upd H1 T (.tup [.int i,x])):=av.new _ v;calc rF (bF.of ab) ?_;right;rw[if_neg (by simp;lia)];calc⟨x,m,n,e[i],rfl,(g.2 i x e[i] p (cD jZ)).aJ (b.trans r).aP,u _ (aaw jZ),λJ z=>?_⟩;right
   first|rw[if_neg ∅]|skip
   exact⟨b.trans (r.trans z),_,_,rfl,rfl⟩
  ·rintro σ H1 ⟨b,_⟩;calc q _ b
abbrev qA:Stmt:=(ck (top 51)).getD 0 (.Pass ⟨0,0,0,0⟩)
def L0(M:Int)(st dd:V):List (Str×V):=bQ "own_deeds" dd (bQ "own_state" st (bQ "own_modulus" (.int M) []))
theorem Xa{M:Int}:(L0 M st dd).lookup ("own_modulus":Str)=some (.int M):=by
 unfold L0;rw[bA,if_neg ⋯,bA,if_neg ⋯,bA,if_pos rfl]
theorem acX{M:Int}:(L0 M st dd).lookup ("own_state":Str)=some st:=by
 unfold L0;rw[bA,if_neg ⋯,bA,if_pos rfl]
theorem Xb{M:Int}:(L0 M st dd).lookup ("own_deeds":Str)=some dd:=by
 unfold L0;rw[bA,if_pos rfl]
theorem DH{M:Int}(a:f≠"own_modulus")(b:f≠"own_state")(c:f≠"own_deeds"):(L0 M st dd).lookup f=none:=by
 unfold L0;rw[bA,if_neg c,bA,if_neg b,bA,if_neg a];rfl
theorem jm{v:V}{a:List (Str×V)}{n:Nat}(h:a.length<n):(bQ f v a).length<n+1:=by
 have:=lJ f v a;lia
def km(C:Addr)(H:Hp)(m:Addr)(M:Int)(ns row:List Int)(a:List bH):Prop:=∃b st dd,H m=some (.ins C b (L0 M st dd))/\HT H 2 st (zf ns row)/\HT H 4 dd (.tup (a.map bH.dv))
theorem km.same{C:Addr}{m:Addr}{M:Int}{a:List bH}(s:av H H')(h:km C H m M ns row a):km C H' m M ns row a:=by
 obtain⟨a,st,dd,b,c,d⟩:=h;calc⟨a,st,dd,s _ _ b,c.aJ s.aP,d.aJ s.aP⟩
def DI(C:Addr):Sp:=λvs H Q _=>∃(x f:Addr) (M:Int) (c e ad:Addr) (ns row:List Int) (xs:List V) (a:List bH) (n:Nat),vs=[.ref x,.int M,.ref c,.ref e,.ref ad]/\H x=some (.ins C f [])/\2<=M/\M<=1000000000000/\LT H c (ns.map V.int)/\LT H e (row.map V.int)/\LT H ad xs/\1<=ns.length/\ns.length<=4/\row.length<=12/\
 (∀z∈ns,0<=z/\z<M)/\(∀z∈row,0<=z/\z<M)/\DL H n xs a/\n<=3/\a.length<=24/\(∀d∈a,d.ok ns.length)/\∀H',km C H' x M ns row a->(∀b o,b≠x->H b=some o->H' b=some o)->Q .bL H'
theorem FJ(D:Fj K mg "Machine" C "Machine.__init__" qA ["self","modulus","numbers","row","deeds"])(T:Tx K mg C CN CR F FD)(iK:Def P w K mg base "refuse_deeds" 6 ["deeds","many"] DG)(gr:Def P w K mg base "refuse_machine" 4 ["modulus","numbers","row","deeds"] DE):zd P w K mg base "Machine" C 7 ["self","modulus","numbers","row","deeds"] (DI C):=by
 have sc:aD ["self","modulus","numbers","row","deeds"] ["self","modulus","numbers","row","deeds"] (az qA):=by walk_at "s"
 symm;obtain⟨x,a,M,L,ar,ad,ns,row,t,ds,n,rfl,u,FI,qy,v,N,k,uo,Jx,pO,hb,Sx,O,l,Pn,ba,q⟩:=h;have l:=hr.units;refine⟨_,(ag (bN (aI gr hr (af (au 1) (af (au 2) (af (au 3) (af (au 4) aa))))))
  (ag (bN (aI iK hr (af (au 4) (af (aX aN rfl T.bO S' (af (au 2) aa)) aa))))
  (ag (fS (au 0) (au 1) (gJ rfl))
  (ag (fS (au 0) (bG (af (cR cg rfl T.cf sC (af (au 2) aa)) (af (cR cg rfl T.cf sC (af (au 3) aa)) aa))) (gJ rfl))
  (aj (fS (au 0) (cR cg rfl T.cf sC (af (au 4) aa)) (gJ rfl))))))),?_⟩
 try walk_at "rt"
 refine⟨M,L,ar,ad,ns,row,t,rfl,FI,qy,v,N,k,uo,Jx,pO,hb,Sx,λH1 y=>?_⟩
 try walk_at "rt"
 have l:Ha K (.ref L) H1 (ns.map V.int).length:=(v.same y).elim (λz=>.inl ⟨_,aO.of z,rfl⟩) (λz=>.inr ⟨_,bF.of z,rfl⟩);calc bD _ l ?_;calc acL ad t ds _ n rfl (k.same y) (O.aJ y.aP) Pn (by rw[M'];calc ba) (λH2 L=>?_);have L3:=y.trans L
 try walk_at "rt"
 have l:=L3 _ _ u;calc⟨x,C,a,[],rfl,l,T.cN,T.Ph,∅,?_⟩;have m:∀{b:Addr} {ys:List V},LT H b ys->b≠x:=λh z=>by
  subst z;rcases h with h|h<;>(rw[u]at h;cases h)
 have R:∀b o,b≠x->H b=some o->upd H2 x (.ins C a (bQ "own_modulus" (.int M) [])) b=some o:=λb o d e=>by rw[ay d];exact L3 _ _ e
 have p:∀{b:Addr} {ys:List V},LT H b ys->LT (upd H2 x (.ins C a (bQ "own_modulus" (.int M) []))) b ys:=λh=>by
  have g:=m h;exact h.elim (λz=>.inl (R _ _ g z)) (λz=>.inr (R _ _ g z))
 have r:upd H2 x (.ins C a (bQ "own_modulus" (.int M) [])) x=some (.ins C a (bQ "own_modulus" (.int M) [])):=ab;generalize Jy:upd H2 x (.ins C a (bQ "own_modulus" (.int M) []))=G2 at *
 try walk_at "rt"
 refine j9 (p v) λB l s3 wx=>?_
 try walk_at "rt"
 refine j9 ((p N).same s3) λI S s4 o8=>?_
 try walk_at "rt"
 calc⟨cM,λc l=>?_⟩;have U:=av.new (.tup [.ref B,.ref I]) l;have W:=s3.trans (s4.trans U)
 try walk_at "rt"
 calc BN x C a _ rfl (W _ _ r) T.cN T.Sl (jm (n:=999) ∅) ?_;have X:HT (upd S c (.tup [.ref B,.ref I])) 2 (.ref c) (zf ns row):=cV ab (pF (U _ _ (s4 _ _ wx))) (pF (U _ _ o8));have Y:=W _ _ r;have J:∀b o,b≠x->H b=some o->upd S c (.tup [.ref B,.ref I]) b=some o:=λb o d e=>W _ _ (R b o d e);generalize hG:upd S c (.tup [.ref B,.ref I])=G at *;have tG:bX H G:=λb ys e=>J b _ (λz=>by subst z;rw[u]at e;cases e) e;have t6:bX G (upd G x (.ins C a (bQ "own_state" (.ref c) (bQ "own_modulus" (.int M) [])))):=(bX.refl G).upd λys e=>by rw[Y]at e;cases e
 have e6:LT (upd G x (.ins C a (bQ "own_state" (.ref c) (bQ "own_modulus" (.int M) [])))) ad t:=by
  have g:=m k;exact k.elim (λz=>.inl (by rw[ay g];calc J _ _ g z)) (λz=>.inr (by rw[ay g];calc J _ _ g z))
 have n6:∀b o,b≠x->H b=some o->upd G x (.ins C a (bQ "own_state" (.ref c) (bQ "own_modulus" (.int M) []))) b=some o:=λb o d e=>by rw[ay d];exact J b o d e
 have i:upd G x (.ins C a (bQ "own_state" (.ref c) (bQ "own_modulus" (.int M) []))) x=some (.ins C a (bQ "own_state" (.ref c) (bQ "own_modulus" (.int M) []))):=ab;generalize hG6:upd G x (.ins C a (bQ "own_state" (.ref c) (bQ "own_modulus" (.int M) [])))=G6 at *
 try walk_at "rt"
 refine j9 e6 λZ H7 j B3=>?_
 try walk_at "rt"
 calc BN x C a _ rfl (j _ _ i) T.cN T.Pj (jm (n:=999) (jm (n:=998) ∅)) ?_;have ne4:Z≠x:=λz=>by subst z;rw[j _ _ i]at B3;cases B3
 have t8:bX H7 (upd H7 x (.ins C a (L0 M (.ref c) (.ref Z)))):=(bX.refl _).upd λys e=>by rw[j _ _ i]at e;cases e
 refine q _ ⟨a,.ref c,.ref Z,ab,(X.aJ t6).aJ (j.aP.trans t8),?_⟩ λb o d e=>?_
 ·calc HT.mono (n:=n+1) ?_ ();calc DL.ht (O.aJ (tG.trans (t6.trans (j.aP.trans t8)))) ?_;rw[ay ne4];exact B3
 ·rw[ay d];calc j _ _ (n6 b o d e)
abbrev eG:Stmt:=(ck (top 51)).getD 2 (.Pass ⟨0,0,0,0⟩)
def Jz(C:Addr):Sp:=λvs H Q _=>∃(m:Addr) (M:Int) (ns row:List Int) (a:List bH),vs=[.ref m]/\km C H m M ns row a/\∀st,HT H 2 st (zf ns row)->Q st H
theorem lj(D:ij K C "first_state" "Machine.first_state" eG ["self"])(T:Tx K mg C CN CR F FD):cn P w K mg base C "first_state" 1 ["self"] (Jz C):=by
 have sc:aD ["self"] ["self"] (az eG):=by walk_at "s"
 symm;obtain⟨m,M,ns,row,d,rfl,⟨a,st,dd,b,c,e⟩,q⟩:=h;have d:=hr.units;calc⟨_,(aj (aH (bM (au 0) rfl))),?_⟩;calc⟨m,C,a,_,_,rfl,b,T.cN,T.Sl,acX,q _ c⟩
theorem Xd{H:Hp}{n:Nat}{x:V}{b:List bH}(h:HT H (n+1) x (.tup (b.map bH.dv))):∃a xs,x=.ref a/\H a=some (.tup xs)/\DL H n xs b:=by
 cases h with
 | @tup _ a xs _ e l i=>
  calc⟨a,xs,rfl,e,by simpa using l,λj x d b c=>i j x _ b ?_⟩;rw[A',c];rfl
def eO(H:Hp)(n:Nat)(ys:List V)(es:List DV):Prop:=ys.length=es.length/\∀(i:Nat) y e,ys[i]?=some y->es[i]?=some e->HT H n y e
theorem eO.nil{n:Nat}:eO H n [] []:=⟨rfl,λi y e h=>by simp at h⟩
theorem eO.aJ{n:Nat}(h:eO H n ys es)(t:bX H H'):eO H' n ys es:=⟨h.1,λi y e a b=>(h.2 i y e a b).aJ t⟩
theorem eO.snoc{n:Nat}{y:V}{e:DV}(h:eO H n ys es)(g:HT H n y e):eO H n (ys++[y]) (es++[e]):=by
 calc⟨by simp[h.1],λi c f a b=>?_⟩;by_cases c:i<ys.length
 ·rw[W' c]at a;rw[W' (by rw[<-h.1];calc c)]at b;exact h.2 i _ _ a b
 ·rw[V' ()] at a;rw[V' (by rw[<-h.1];lia),<-h.1] at b
  cases d:i-ys.length with
  |zero=>rw[d]at a b;cases a;cases b;calc g
  |succ k=>rw[d]at a;simp at a
theorem eO.dl{n:Nat}{xs:List V}{a:List bH}(h:eO H n xs (a.map bH.dv)):DL H n xs a:=⟨by simpa using h.1,λi x d a b=>h.2 i x _ a (by rw[A',b];rfl)⟩
abbrev ur:Stmt:=top 57
abbrev UN(C:Addr)(H:Hp)(m:Addr)(d:MD):Prop:=km C H m d.M d.ns d.row d.ds
def nI(w:Int×Int×Str):DV:=.tup [.int w.1,.int w.2.1,.str w.2.2]
def qB(l:Int×Int):DV:=.tup [.int l.1,.int l.2]
def wz(m:Int)(w:Int×Int×Str):Prop:=0<=w.1/\w.1<m/\0<=w.2.1/\w.2.1<m/\(w.2.2="row"\/w.2.2="heap")
def wA(m:Int)(l:Int×Int):Prop:=0<=l.1/\l.1<m/\1-1000000000000000000000000000000000000000000000000000000000000<=l.2/\l.2<1000000000000000000000000000000000000000000000000000000000000
def zH:Sp:=λvs H Q _=>∃(x:V) (n:Nat) (a b:Int) (c:Str) (m:Int),vs=[x,.int m]/\HT H n x (nI (a,b,c))/\wz m (a,b,c)/\∀H',av H H'->Q (.bl true) H'
theorem JA(D:cw K mg "is_way" "is_way" ur ["thing","many"])(T:Tx K mg C CN CR F FD)(l:Def P w K mg base "is_within" 2 ["thing","low","beyond"] bS):Def P w K mg base "is_way" 3 ["thing","many"] zH:=by
 have sc:aD ["thing","many"] ["thing","many"] (az ur):=by walk_at "s"
 symm;obtain⟨x,n,c,d,g,m,rfl,o,r,q⟩:=h;have i:=hr.units;refine⟨_,(ag (aU (PW.pt (pw_or (bR (bu (aX cS rfl T.bq yD (af (au 0) (af (cU (v:=.ty "tuple") rfl T.cf sC rfl) aa))))) (pw_or (aC (ip i) (aX aN rfl T.bO S' (af (au 0) aa)) ai (aG _)) (pw_or1 (bR (bu (aX cS rfl T.bq yD (af (ao i (au 0) ai) (af (cU (v:=.ty "str") rfl T.Dx PyProof.Rows.boot_str rfl) aa))))))))) (aj (aH hX)) aK)
  (aj (aH (fR (aI l hr (af (ao i (au 0) ai) (af ai (af (au 1) aa)))) (fR (aI l hr (af (ao i (au 0) ai) (af ai (af (au 1) aa)))) (iz (fm BA (ao i (au 0) ai) (bG (af aE (af aE aa))) (by with_unfolding_all rfl)))))))),?_⟩
 nofun;obtain⟨a,G,I,J,k,rfl,b,t,u,y⟩:=bT o;obtain rfl:=t.cG;obtain rfl:=u.cG;obtain rfl:=y.cX
 replace b:H a=some (.tup [.int c,.int d,.str g]):=b
 obtain⟨i,k,l,n,z⟩:0<=c/\c<m/\0<=d/\d<m/\(g="row"\/g="heap"):=r;ac_rfl;left;refine cW _ true (.tup b) rfl ?_;simp only[Bool.not_true,Bool.false_eq_true,if_false];refine bD _ (.inr ⟨_,bF.of b,rfl⟩) ?_;rw[if_neg nofun];refine⟨_,_,.inr (bF.of b),aA (j:=2) rfl,_,true,.str _,rfl,?_⟩;simp only[Bool.not_true,Bool.false_eq_true,if_false];left;refine cW _ _ (.inr (bF.of b)) (aA (j:=0) rfl) ?_;refine fz (.int c) _ 0 m rfl (.int c) ?_;rw[show inR 0 m (.int c)=true by simp[inR,i,k]];left;rw[if_pos trivial];refine cW _ _ (.inr (bF.of b)) (aA (j:=1) rfl) ?_;refine fz (.int d) _ 0 m rfl (.int d) ?_;rw[show inR 0 m (.int d)=true by simp[inR,l,n]];left;rw[if_pos trivial];refine ue _ _ (.inr (bF.of b)) (aA (j:=2) rfl) cM (λp B=>?_);refine Nv _ (.inr (bF.of ab)) rfl rfl ?_;have e:Bu (.str g) [.str "row",.str "heap"]=true:=by
  rcases z with rfl|rfl<;>decide +kernel
 rw[e];calc q _ (av.new _ B)
abbrev lX:Stmt:=top 58
def zI:Sp:=λvs H Q _=>∃(x:V) (n:Nat) (a b:Int) (m:Int),vs=[x,.int m]/\HT H n x (qB (a,b))/\wA m (a,b)/\Q (.bl true) H
theorem zJ(D:cw K mg "is_letter" "is_letter" lX ["thing","many"])(T:Tx K mg C CN CR F FD)(g:Def P w K mg base "is_within" 2 ["thing","low","beyond"] bS):Def P w K mg base "is_letter" 3 ["thing","many"] zI:=by
 have sc:aD ["thing","many"] ["thing","many"] (az lX):=by walk_at "s"
 symm;obtain⟨x,n,b,c,m,rfl,i,l,q⟩:=h;have e:=hr.units;refine⟨_,(ag (aU (PW.pt (pw_or (bR (bu (aX cS rfl T.bq yD (af (au 0) (af (cU (v:=.ty "tuple") rfl T.cf sC rfl) aa))))) (pw_or1 (aC (ip e) (aX aN rfl T.bO S' (af (au 0) aa)) ai (aG _))))) (aj (aH hX)) aK)
  (aj (aH (fR (aI g hr (af (ao e (au 0) ai) (af ai (af (au 1) aa)))) (iz (aI g hr (af (ao e (au 0) ai) (af (bc fU ai (fW T.dY rfl)) (af (fW T.dY rfl) aa))))))))),?_⟩
 nofun;obtain⟨a,r,t,k,rfl,d,o,p⟩:=dM i;obtain rfl:=o.cG;obtain rfl:=p.cG
 replace d:H a=some (.tup [.int b,.int c]):=d
 obtain⟨e,g,i,k⟩:0<=b/\b<m/\1-1000000000000000000000000000000000000000000000000000000000000<=c/\c<1000000000000000000000000000000000000000000000000000000000000:=l;ac_rfl;left;calc cW _ true (.tup d) rfl ?_;simp only[Bool.not_true,Bool.false_eq_true,if_false];calc bD _ (.inr ⟨_,bF.of d,rfl⟩) ?_;rw[if_neg nofun];left;calc cW _ _ (.inr (bF.of d)) (aA (j:=0) rfl) ?_;calc fz (.int b) _ 0 m rfl (.int b) ?_;rw[show inR 0 m (.int b)=true by simp[inR,e,g]];left;rw[if_pos trivial];calc cW _ _ (.inr (bF.of d)) (aA (j:=1) rfl) ?_;calc fz (.int c) _ _ _ rfl (.int c) ?_;rw[show inR (1-1000000000000000000000000000000000000000000000000000000000000) 1000000000000000000000000000000000000000000000000000000000000 (.int c)=true by simp only[inR,decide_eq_true i,decide_eq_true k,Bool.and_self]];calc q
abbrev kn:Stmt:=top 59
def DJ(C:Addr):Sp:=λvs H Q _=>∃(b c d:Addr) (ms:List Addr) (wv a:List V) (ws:List (Int×Int×Str)) (ls:List (Int×Int)),vs=[.ref b,.ref c,.ref d]/\H b=some (.lst (ms.map V.ref))/\H c=some (.lst wv)/\H d=some (.lst a)/\1<=ms.length/\ms.length<=5/\wv.length<=10/\a.length<=20/\(∀m∈ms,∃e f,H m=some (.ins C e f))/\eO H 1 wv (ws.map nI)/\eO H 1 a (ls.map qB)/\(∀w∈ws,wz ms.length w)/\(∀l∈ls,wA wv.length l)/\∀H',av H H'->Q .bL H'
theorem xU(D:cw K mg "refuse_net" "refuse_net" kn ["machines","ways","letters"])(T:Tx K mg C CN CR F FD)(lY:Def P w K mg base "is_letter" 3 ["thing","many"] zI)(N:Def P w K mg base "is_list" 1 ["things","least","most"] iI)(uu:Def P w K mg base "is_way" 3 ["thing","many"] zH):Def P w K mg base "refuse_net" 4 ["machines","ways","letters"] (DJ C):=by
 have sc:aD ["machines","ways","letters"] ["machines","ways","letters"] (az kn):=by walk_at "s"
 symm;obtain⟨O,R,S,ms,wv,y,ws,ls,rfl,G,U,vb,Gx,L5,rV,jo,Xe,W,X,NM,nE,q⟩:=h;have hu:=hr.units;refine⟨_,(ag (aU (PW.pt (pw_or (bR (bu (aI N hr (af (au 0) (af ai (af (fW T.dz rfl) aa)))))) (pw_or1 (bR (bu (aX (dI rfl) rfl T.k6 GJ (af (cu (N':=["one"]) (ix:=[none]) (bI (pv 0)) (λ_ _ _ _=>(aR (i:=0) (show(["one"]:List Str).Nodup by decide +kernel) rfl Sort)) kj (λ_ _ _ _=>(aX (IF (K:=K) rfl) rfl T.bq yD (af (au 0) (af (CH (v:=.ref C) rfl T.wq rfl) aa))))) aa))))))) (aj cq) aK)
  (ag (aU (PW.pt (pw_or (bR (bu (aI N hr (af (au 1) (af ai (af (fW T.fI rfl) aa)))))) (pw_or1 (bR (bu (aX (dI rfl) rfl T.k6 GJ (af (cu (N':=["way","machines"]) (ix:=[none,some 0]) (bI (pv 1)) (λ_ _ _ _=>(aR (i:=0) (show(["way","machines"]:List Str).Nodup by decide +kernel) rfl Sort)) kj (λ_ _ _ _=>(aI uu hr (af (au 0) (af (aX (kh (K:=K) rfl) rfl T.bO S' (af (au 1) aa)) aa))))) aa))))))) (aj cq) aK)
  (aj (aU (PW.pt (pw_or (bR (bu (aI N hr (af (au 2) (af ai (af (fW T.dQ rfl) aa)))))) (pw_or1 (bR (bu (aX (dI rfl) rfl T.k6 GJ (af (cu (N':=["letter","ways"]) (ix:=[none,some 1]) (bI (pv 2)) (λ_ _ _ _=>(aR (i:=0) (show(["letter","ways"]:List Str).Nodup by decide +kernel) rfl Sort)) kj (λ_ _ _ _=>(aI lY hr (af (au 0) (af (aX (kh (K:=K) rfl) rfl T.bO S' (af (au 1) aa)) aa))))) aa))))))) (aj cq) aK)))),?_⟩
 have N:(ms.map V.ref).length<=5:=by simpa using L5
 left;calc fz O _ 1 _ rfl (.inl G) (λH1 Y=>?_);rw[show(decide ((1:Int)<=((ms.map V.ref).length:Int))&&decide (((ms.map V.ref).length:Int)<=5))=true by simp;lia];left
 try simp only[Bool.not_true,Bool.false_eq_true,if_false]
 have I:=Y _ _ G;calc bt ?_;left;calc .inl ⟨⟨_,aO.of I⟩,λD r=>?_⟩;refine aV (J:=rD K O) (n:=(ms.map V.ref).length) (λi a H'=>a=List.replicate i (V.bl true)/\av H1 H') (J' (aB ())) ⟨rfl,av.new _ r⟩ ?_ ?_ ?_ ?_
 ·rintro i a H' d ⟨_,l⟩;exact⟨_,(ms.map V.ref)[i],aO.of (l _ _ I),cD d⟩
 ·rintro a H' ⟨_,l⟩;exact⟨_,aO.of (l _ _ I),F' _⟩
 ·intro i a H' d c g fO x p fP;nofun;obtain⟨rfl,l⟩:=fO;obtain⟨rfl,z⟩:=fP;ac_rfl;have B:=z _ (aO.of (l _ _ I));walk_at "xf";left;rw[if_pos trivial];have Z:∃m,x=.ref m/\m∈ms:=by
   have:=aan B;obtain⟨m,hm,rfl⟩:=List.mem_map.mp this;exact⟨m,rfl,hm⟩
  nofun;obtain⟨m,rfl,I⟩:=Z;obtain⟨O,fs,N⟩:=Xe m I;ac_rfl;calc acI _ C _ true rfl (.ins (l _ _ (Y _ _ N)) T.cN T.Fw T.Fy T.wt T.Fx) T.i_k ?_;have t:=av.refl p;calc bJ (t _ _ c) g d (J' (aB ())) ⟨j7 _ _,λb o e=>?_⟩;rw[ay (aq e r)];exact t _ _ (l _ _ e)
 rintro a H2 c g ⟨rfl,l⟩;left;rw[qh]at c;calc bD _ (aO.of c) ?_;have e:(List.replicate (ms.map V.ref).length true).all id=true:=by simp
 rw[e];clear e c g;left
 try simp only[Bool.not_true,Bool.false_eq_true,if_false]
 have I:=Y.trans l;have N:=I _ _ U;left;calc fz R _ 0 _ rfl (.inl N) (λO l=>?_);rw[show(decide ((0:Int)<=(wv.length:Int))&&decide ((wv.length:Int)<=10))=true by simp;lia];left
 try simp only[Bool.not_true,Bool.false_eq_true,if_false]
 have L:=l _ _ N;have u:=I.trans l;calc bt ?_;left;calc .inl ⟨⟨_,aO.of L⟩,λD r=>?_⟩;refine aV (J:=rD K R) (n:=wv.length) (λi a H'=>a=List.replicate i (V.bl true)/\av O H') (J' (aB ())) ⟨rfl,av.new _ r⟩ ?_ ?_ ?_ ?_
 ·rintro i a H' d ⟨_,j⟩;exact⟨_,wv[i],aO.of (j _ _ L),cD d⟩
 ·rintro a H' ⟨_,j⟩;exact⟨_,aO.of (j _ _ L),F' _⟩
 ·intro i a H' d c g lg x p pN;nofun;obtain⟨rfl,j⟩:=lg;obtain⟨rfl,z⟩:=pN;ac_rfl;have B:=z _ (aO.of (j _ _ L));walk_at "xf";left;rw[if_pos trivial];have l:i < ws.length:=by have:=W.1;rw[M'] at this;lia
  have hw:=(W.2 i x (nI ws[i]) B (by rw[A',cD l];rfl)).aJ (u.trans j).aP;calc bD _ (.inl ⟨_,aO.of (j _ _ (u _ _ G)),rfl⟩) ?_;refine⟨x,1,ws[i].1,ws[i].2.1,ws[i].2.2,_,rfl,hw,?_,λI t=>?_⟩
  ·have:=NM ws[i] (aaw l);simpa[wz] using this
  calc bJ (t _ _ c) g d (J' (aB ())) ⟨j7 _ _,λb o e=>?_⟩;rw[ay (aq e r)];exact t _ _ (j _ _ e)
 rintro a H4 c g ⟨rfl,j⟩;left;rw[qh]at c;calc bD _ (aO.of c) ?_;have e:(List.replicate wv.length true).all id=true:=by simp
 rw[e];clear e c g;left
 try simp only[Bool.not_true,Bool.false_eq_true,if_false]
 have l:=u.trans j;have G:=l _ _ vb;left;calc fz S _ 0 _ rfl (.inl G) (λu j=>?_);rw[show(decide ((0:Int)<=(y.length:Int))&&decide ((y.length:Int)<=20))=true by simp;lia];left
 try simp only[Bool.not_true,Bool.false_eq_true,if_false]
 have M:=j _ _ G;have JC:=l.trans j;calc bt ?_;left;calc .inl ⟨⟨_,aO.of M⟩,λD r=>?_⟩;refine aV (J:=rD K S) (n:=y.length) (λi a H'=>a=List.replicate i (V.bl true)/\av u H') (J' (aB ())) ⟨rfl,av.new _ r⟩ ?_ ?_ ?_ ?_
 ·rintro i a H' d ⟨_,k⟩;exact⟨_,y[i],aO.of (k _ _ M),cD d⟩
 ·rintro a H' ⟨_,k⟩;exact⟨_,aO.of (k _ _ M),F' _⟩
 ·intro i a H' d c g rT x p xT;nofun;obtain⟨rfl,k⟩:=rT;obtain⟨rfl,z⟩:=xT;ac_rfl;have B:=z _ (aO.of (k _ _ M));walk_at "xf";left;rw[if_pos trivial];have j:i < ls.length:=by have:=X.1;rw[M'] at this;lia
  have hw:=(X.2 i x (qB ls[i]) B (by rw[A',cD j];rfl)).aJ (JC.trans k).aP;calc bD _ (.inl ⟨_,aO.of (k _ _ (JC _ _ U)),rfl⟩) ?_;refine⟨x,1,ls[i].1,ls[i].2,_,rfl,hw,?_,?_⟩
  ·have:=nE ls[i] (aaw j);simpa[wA] using this
  have t:=av.refl p;calc bJ (t _ _ c) g d (J' (aB ())) ⟨j7 _ _,λb o e=>?_⟩;rw[ay (aq e r)];exact t _ _ (k _ _ e)
 rintro a H6 c g ⟨rfl,k⟩;left;rw[qh]at c;calc bD _ (aO.of c) ?_;have e:(List.replicate y.length true).all id=true:=by simp
 rw[e];clear e c g;left
 try simp only[Bool.not_true,Bool.false_eq_true,if_false]
 calc q _ (JC.trans k)
abbrev JD:Stmt:=(ck (top 60)).getD 0 (.Pass ⟨0,0,0,0⟩)
def NO(a b c:V):List (Str×V):=bQ "own_letters" c (bQ "own_ways" b (bQ "own_machines" a []))
theorem Xh{a b c:V}:(NO a b c).lookup ("own_machines":Str)=some a:=by
 unfold NO;rw[bA,if_neg ⋯,bA,if_neg ⋯,bA,if_pos rfl]
theorem Xi{a b c:V}:(NO a b c).lookup ("own_ways":Str)=some b:=by
 unfold NO;rw[bA,if_neg ⋯,bA,if_pos rfl]
theorem ac1{a b c:V}:(NO a b c).lookup ("own_letters":Str)=some c:=by
 unfold NO;rw[bA,if_pos rfl]
theorem eN{a b c:V}(d:f≠"own_machines")(e:f≠"own_ways")(g:f≠"own_letters"):(NO a b c).lookup f=none:=by
 unfold NO;rw[bA,if_neg g,bA,if_neg e,bA,if_neg d];rfl
def nJ(CN:Addr)(H:Hp)(x:Addr)(ms:List Addr)(wv d:List V):Prop:=∃e a b c,H x=some (.ins CN e (NO (.ref a) (.ref b) (.ref c)))/\H a=some (.tup (ms.map V.ref))/\H b=some (.tup wv)/\H c=some (.tup d)
theorem nJ.same{CN:Addr}{x:Addr}{d:List V}(s:av H H')(h:nJ CN H x ms wv d):nJ CN H' x ms wv d:=by
 obtain⟨d,a,b,c,e,f,g,i⟩:=h;calc⟨d,a,b,c,s _ _ e,s _ _ f,s _ _ g,s _ _ i⟩
def zL(C CN:Addr):Sp:=λvs H Q _=>∃(x c d e f:Addr) (ms:List Addr) (wv a:List V) (ws:List (Int×Int×Str)) (ls:List (Int×Int)),vs=[.ref x,.ref d,.ref e,.ref f]/\H x=some (.ins CN c [])/\H d=some (.lst (ms.map V.ref))/\H e=some (.lst wv)/\H f=some (.lst a)/\1<=ms.length/\ms.length<=5/\wv.length<=10/\a.length<=20/\(∀m∈ms,∃c g,H m=some (.ins C c g))/\eO H 1 wv (ws.map nI)/\eO H 1 a (ls.map qB)/\(∀w∈ws,wz ms.length w)/\(∀l∈ls,wA wv.length l)/\∀H',nJ CN H' x ms wv a->(∀b o,b≠x->H b=some o->H' b=some o)->Q .bL H'
theorem Xj(D:Fj K mg "Net" CN "Net.__init__" JD ["self","machines","ways","letters"])(T:Tx K mg C CN CR F FD)(ko:Def P w K mg base "refuse_net" 4 ["machines","ways","letters"] (DJ C)):zd P w K mg base "Net" CN 7 ["self","machines","ways","letters"] (zL C CN):=by
 have sc:aD ["self","machines","ways","letters"] ["self","machines","ways","letters"] (az JD):=by walk_at "s"
 symm;obtain⟨x,a,y,B,G,ms,wv,W,ws,ls,rfl,g,j,k,l,X,Y,Z,jo,Xe,sQ,JB,NM,nE,q⟩:=h;have hu:=hr.units;refine⟨_,(ag (bN (aI ko hr (af (au 1) (af (au 2) (af (au 3) aa)))))
  (ag (fS (au 0) (cR cg rfl T.cf sC (af (au 1) aa)) (gJ rfl))
  (ag (fS (au 0) (cR cg rfl T.cf sC (af (au 2) aa)) (gJ rfl))
  (aj (fS (au 0) (cR cg rfl T.cf sC (af (au 3) aa)) (gJ rfl)))))),?_⟩
 try walk_at "rt"
 calc⟨y,B,G,ms,wv,W,ws,ls,rfl,j,k,l,X,Y,Z,jo,Xe,sQ,JB,NM,nE,λH1 I=>?_⟩;have W:=I _ _ g;have W:y≠x:=λz=>by subst z;rw[g]at j;cases j
 have Xk:B≠x:=λz=>by subst z;rw[g]at k;cases k
 have Sz:G≠x:=λz=>by subst z;rw[g]at l;cases l
 try walk_at "rt"
 refine j9 (.inl (I _ _ j)) λc H2 s2 J=>?_
 try walk_at "rt"
 have m:=I.trans s2;have FK:=m _ _ g;calc⟨x,CN,a,[],rfl,FK,T.cO,T.zB,∅,?_⟩;have L:c≠x:=λz=>by subst z;rw[FK]at J;cases J
 have p:∀b o,b≠x->H2 b=some o->upd H2 x (.ins CN a (bQ "own_machines" (.ref c) [])) b=some o:=λb o d e=>by rw[ay d];exact e
 have L7:upd H2 x (.ins CN a (bQ "own_machines" (.ref c) [])) x=some (.ins CN a (bQ "own_machines" (.ref c) [])):=ab;generalize hG3:upd H2 x (.ins CN a (bQ "own_machines" (.ref c) []))=G3 at *;have M:=p _ _ L J;have FL:=p _ _ Xk (m _ _ k);have N:=p _ _ Sz (m _ _ l)
 try walk_at "rt"
 refine j9 (.inl FL) λi r t O=>?_
 try walk_at "rt"
 have SA:=t _ _ L7;calc BN x CN a _ rfl SA T.cO T.zC (jm (n:=999) ∅) ?_;have n2:i≠x:=λz=>by subst z;rw[SA]at O;cases O
 have u:∀b o,b≠x->r b=some o->upd r x (.ins CN a (bQ "own_ways" (.ref i) (bQ "own_machines" (.ref c) []))) b=some o:=λb o d e=>by rw[ay d];exact e
 have Gy:upd r x (.ins CN a (bQ "own_ways" (.ref i) (bQ "own_machines" (.ref c) []))) x=some (.ins CN a (bQ "own_ways" (.ref i) (bQ "own_machines" (.ref c) []))):=ab;generalize hG5:upd r x (.ins CN a (bQ "own_ways" (.ref i) (bQ "own_machines" (.ref c) [])))=G5 at *;have R:=u _ _ L (t _ _ M);have S:=u _ _ n2 O;have FN:=u _ _ Sz (t _ _ N)
 try walk_at "rt"
 refine j9 (.inl FN) λt3 g v U=>?_
 try walk_at "rt"
 have Xl:=v _ _ Gy;calc BN x CN a _ rfl Xl T.cO T.BV (jm (n:=999) (jm (n:=998) ∅)) ?_;have n3:t3≠x:=λz=>by subst z;rw[Xl]at U;cases U
 refine q _ ⟨a,c,i,t3,ab,?_,?_,?_⟩ λb o d e=>?_
 ·rw[ay L];exact v _ _ R
 ·rw[ay n2];exact v _ _ S
 ·rw[ay n3];exact U
 ·rw[ay d];calc v _ _ (u _ _ d (t _ _ (p _ _ d (m _ _ e))))
abbrev iL:Stmt:=(ck (top 60)).getD 1 (.Pass ⟨0,0,0,0⟩)
def gc(CN:Addr):Sp:=λvs H Q _=>∃(x:Addr) (ms:List Addr) (wv a:List V),vs=[.ref x]/\nJ CN H x ms wv a/\∀l,H l=none->Q (.ref l) (upd H l (.lst (ms.map V.ref)))
theorem uv(D:ij K CN "machines" "Net.machines" iL ["self"])(T:Tx K mg C CN CR F FD):cn P w K mg base CN "machines" 1 ["self"] (gc CN):=by
 have sc:aD ["self"] ["self"] (az iL):=by walk_at "s"
 symm;obtain⟨x,ms,wv,e,rfl,⟨g,a,b,i,c,d,j,k⟩,q⟩:=h;have e:=hr.units;calc⟨_,(aj (aH (cR cA rfl T.dN wV (af (bM (au 0) rfl) aa)))),?_⟩;calc fld c T.cO T.zB Xh ?_;right;calc⟨_,.inr (bF.of d),λl e=>q l e⟩
abbrev oo:Stmt:=(ck (top 60)).getD 2 (.Pass ⟨0,0,0,0⟩)
def pP(CN:Addr):Sp:=λvs H Q _=>∃(x:Addr) (ms:List Addr) (wv a:List V),vs=[.ref x]/\nJ CN H x ms wv a/\∀l,H l=none->Q (.ref l) (upd H l (.lst wv))
theorem B4(D:ij K CN "ways" "Net.ways" oo ["self"])(T:Tx K mg C CN CR F FD):cn P w K mg base CN "ways" 1 ["self"] (pP CN):=by
 have sc:aD ["self"] ["self"] (az oo):=by walk_at "s"
 symm;obtain⟨x,ms,wv,e,rfl,⟨g,a,b,i,c,j,d,k⟩,q⟩:=h;have e:=hr.units;calc⟨_,(aj (aH (cR cA rfl T.dN wV (af (bM (au 0) rfl) aa)))),?_⟩;calc fld c T.cO T.zC Xi ?_;right;calc⟨_,.inr (bF.of d),λl e=>q l e⟩
abbrev jq:Stmt:=(ck (top 60)).getD 3 (.Pass ⟨0,0,0,0⟩)
def rG(CN:Addr):Sp:=λvs H Q _=>∃(x:Addr) (ms:List Addr) (wv a:List V),vs=[.ref x]/\nJ CN H x ms wv a/\∀l,H l=none->Q (.ref l) (upd H l (.lst a))
theorem vm(D:ij K CN "letters" "Net.letters" jq ["self"])(T:Tx K mg C CN CR F FD):cn P w K mg base CN "letters" 1 ["self"] (rG CN):=by
 have sc:aD ["self"] ["self"] (az jq):=by walk_at "s"
 symm;obtain⟨x,ms,wv,e,rfl,⟨g,a,b,i,c,j,k,d⟩,q⟩:=h;have e:=hr.units;calc⟨_,(aj (aH (cR cA rfl T.dN wV (af (bM (au 0) rfl) aa)))),?_⟩;calc fld c T.cO T.BV ac1 ?_;right;calc⟨_,.inr (bF.of d),λl e=>q l e⟩
theorem ac6{l:List Int}(h:l.length=1):∃a,l=[a]:=List.length_eq_one_iff.mp h
abbrev jr:Stmt:=top 32
inductive wB(K:W.Frag)(vs:List V)(H:Hp)(Q:VK):Prop
 |mk (x:_) (st:_) (way:_) (said:_) (v:_) (ns:_) (row:_) (n:_) (h0:vs=[x,st,.int way,.int said]) (h1:HT H n x (Val.dv v)) (h2:zh K H st ns row) (h3:v.ok ns.length) (h4:Q (.int (tY ns row way said v)) H):wB K vs H Q
def zM(K:W.Frag):Sp:=λvs H Q _=>wB K vs H Q
theorem vn(D:cw K mg "plain_worth" "plain_worth" jr ["value","state","way","said"])(T:Tx K mg C CN CR F FD):Def P w K mg base "plain_worth" 1 ["value","state","way","said"] (zM K):=by
 have sc:aD ["value","state","way","said","word"] ["value","state","way","said"] (az jr):=by walk_at "s"
 symm;obtain⟨x,st,way,g,v,ns,row,n,rfl,k,B,o,q⟩:=h;have b:=hr.units;refine⟨_,(ag (aZ (i:=4) sc.nd rfl Sort (ao b (au 0) ai))
  (ag (aU (aC (aY b) (au 4) aE (aG _)) (aj (aH (ao b (au 0) ai))) aK)
  (ag (aU (aC (aY b) (au 4) aE (aG _)) (aj (aH (ao b (ao b (au 1) ai) (ao b (au 0) ai)))) aK)
  (ag (aU (aC (aY b) (au 4) aE (aG _)) (aj (aH (au 3))) aK)
  (ag (aU (aC (aY b) (au 4) aE (aG _)) (aj (aH (au 2))) aK)
  (aj (aH (yN (aC lO (aX aN rfl T.bO S' (af (ao b (au 1) ai) aa)) ai (aG _)) (ao b (ao b (au 1) ai) ai) ai)))))))),?_⟩
 obtain⟨a,L,M,rfl,t,u,G⟩:=B
 cases v with
 |is z=>
  nofun;obtain⟨p,l,J,m,rfl,c,d,y⟩:=dM k;obtain rfl:=d.cX;obtain rfl:=y.cG;ac_rfl;walk_at "jd";refine cW _ _ (.inr (bF.of c)) rfl ?_;walk_at "jd"
  try rw[if_pos ⋯]
  calc⟨_,_,.inr (bF.of c),rfl,q⟩
 |number i=>
  nofun;obtain⟨p,l,J,m,rfl,c,d,y⟩:=dM k;obtain rfl:=d.cX;obtain rfl:=y.cG;obtain⟨j,rfl⟩:=aaJ o.1;ac_rfl;have I:j<ns.length:=by have:=o.2;lia
  walk_at "jd";refine cW _ _ (.inr (bF.of c)) rfl ?_;walk_at "jd"
  try rw[if_neg ⋯]
  left
  try rw[if_pos ⋯]
  calc⟨_,_,.inr (bF.of t),rfl,_,_,.inr (bF.of c),rfl,?_⟩;calc⟨_,.int ns[j],u,aA (by rw[A',cD I];rfl),?_⟩;have e:tY ns row way g (.number j)=ns[j]:=by
   show ns.getD (j:Int).toNat 0=ns[j];simp[List.getD_eq_getElem?_getD,cD I]
  rw[e]at q;calc q
 |nY=>
  nofun;obtain⟨p,l,m,rfl,c,d⟩:=jk k;obtain rfl:=d.cX;ac_rfl;walk_at "jd";refine cW _ _ (.inr (bF.of c)) rfl ?_;walk_at "jd"
  try rw[if_neg ⋯]
  left
  try rw[if_neg ⋯]
  left
  try rw[if_pos ⋯]
  calc q
 |way=>
  nofun;obtain⟨p,l,m,rfl,c,d⟩:=jk k;obtain rfl:=d.cX;ac_rfl;walk_at "jd";refine cW _ _ (.inr (bF.of c)) rfl ?_;walk_at "jd"
  try rw[if_neg ⋯]
  left
  try rw[if_neg ⋯]
  left
  try rw[if_neg ⋯]
  left
  try rw[if_pos ⋯]
  calc q
 |first=>
  nofun;obtain⟨p,l,m,rfl,c,d⟩:=jk k;obtain rfl:=d.cX;ac_rfl;walk_at "jd";refine cW _ _ (.inr (bF.of c)) rfl ?_;walk_at "jd"
  try rw[if_neg ⋯]
  left
  try rw[if_neg ⋯]
  left
  try rw[if_neg ⋯]
  left
  try rw[if_neg ⋯]
  calc cW _ _ (.inr (bF.of t)) rfl ?_;refine bD _ (G.elim (λz=>.inl ⟨_,z,rfl⟩) (λz=>.inr ⟨_,z,rfl⟩)) ?_
  cases row with
  |nil=>
   left;rw[if_neg nofun];calc q
  |cons r b=>
   left;rw[if_pos nofun];calc⟨_,_,.inr (bF.of t),rfl,_,_,G,aA (j:=0) rfl,q⟩
abbrev oq:Stmt:=top 33
inductive wC(K:W.Frag)(vs:List V)(H:Hp)(Q:VK):Prop
 |mk (x:_) (st:_) (way:_) (said:_) (m:_) (v:_) (ns:_) (row:_) (n:_) (h0:vs=[x,st,.int way,.int said,.int m]) (h1:HT H n x (Val.dv v)) (h2:zh K H st ns row) (h3:v.ok ns.length) (h4:0<m) (h5:Q (.int (tY ns row way said v%m)) H):wC K vs H Q
def zN(K:W.Frag):Sp:=λvs H Q _=>wC K vs H Q
theorem B5(D:cw K mg "worth_of" "worth_of" oq ["value","state","way","said","modulus"])(T:Tx K mg C CN CR F FD)(i:Def P w K mg base "plain_worth" 1 ["value","state","way","said"] (zM K)):Def P w K mg base "worth_of" 2 ["value","state","way","said","modulus"] (zN K):=by
 have sc:aD ["value","state","way","said","modulus"] ["value","state","way","said","modulus"] (az oq):=by walk_at "s"
 symm;obtain⟨x,st,b,a,m,v,ns,row,n,rfl,c,d,e,g,q⟩:=h;have j:=hr.units;refine⟨_,(aj (aH (bc ft (aI i hr (af (au 0) (af (au 1) (af (au 2) (af (au 3) aa))))) (au 4)))),?_⟩;walk_at "jd";exact⟨x,st,b,a,v,ns,row,n,rfl,c,d,e,g,q⟩
abbrev lZ:Stmt:=top 40
inductive VL(H:Hp)(n:Nat):List V->List Val->Prop
 |nil:VL H n [] []
 |cons {x v xs vs}:HT H n x (Val.dv v)->VL H n xs vs->VL H n (x::xs) (v::vs)
theorem VL.same{H H':Hp}{n:Nat}(s:bX H H'){xs:List V}{vs:List Val}(h:VL H n xs vs):VL H' n xs vs:=by
 induction h with
 |nil=>calc .nil
 |cons a _ b=>calc .cons (a.aJ s) b
theorem VL.snoc{H:Hp}{n:Nat}{xs:List V}{vs:List Val}{x:V}{v:Val}(h:VL H n xs vs)(a:HT H n x v.dv):VL H n (xs++[x]) (vs++[v]):=by
 induction h with
 |nil=>calc .cons a .nil
 |cons a _ b=>calc .cons a b
theorem VL.len{H:Hp}{n:Nat}{xs:List V}{vs:List Val}(h:VL H n xs vs):xs.length=vs.length:=by
 induction h with
 |nil=>rfl
 |cons _ _ a=>simp[a]
inductive PL(H:Hp)(n:Nat):List V->List (Option Val)->Prop
 |nil:PL H n [] []
 |str {w xs os}:PL H n xs os->PL H n (.str w::xs) (none::os)
 |int {i xs os}:PL H n xs os->PL H n (.int i::xs) (none::os)
 |val {x v xs os}:HT H n x (Val.dv v)->PL H n xs os->PL H n (x::xs) (some v::os)
theorem PL.get{H:Hp}{n:Nat}{xs:List V}{b:List (Option Val)}(h:PL H n xs b):∀{i:Nat}{x:V},xs[i]?=some x->∃o,b[i]?=some o/\((o=none/\((∃w,x=.str w)\/∃j,x=.int j))\/∃v,o=some v/\HT H n x (Val.dv v)):=by
 induction h with
 |nil=>intro i x h;simp at h
 |str _ a=>
  intro i x h
  cases i with
  |zero=>cases h;calc⟨none,rfl,.inl ⟨rfl,.inl ⟨_,rfl⟩⟩⟩
  |succ i=>calc a h
 |int _ a=>
  intro i x h
  cases i with
  |zero=>cases h;calc⟨none,rfl,.inl ⟨rfl,.inr ⟨_,rfl⟩⟩⟩
  |succ i=>calc a h
 |val c _ a=>
  intro i x h
  cases i with
  |zero=>cases h;calc⟨some _,rfl,.inr ⟨_,rfl,c⟩⟩
  |succ i=>calc a h
theorem PL.len{H:Hp}{n:Nat}{xs:List V}{a:List (Option Val)}(h:PL H n xs a):xs.length=a.length:=by
 induction h with
 |nil=>rfl
 |str _ a=>simp[a]
 |int _ a=>simp[a]
 |val _ _ a=>simp[a]
theorem DK{H:Hp}{n:Nat}{x:V}{d:bH}(h:HT H n x d.dv):∃a xs o b,x=.ref a/\H a=some (.tup xs)/\PL H b xs o/\o.filterMap id=d.vals/\xs.length<=4:=by
 cases d with
 |set i v=>
  nofun;obtain⟨a,k,l,m,b,rfl,c,e,f,g⟩:=bT h;obtain rfl:=e.cX;obtain rfl:=f.cG;ac_rfl;calc⟨a,_,_,b,rfl,c,.str (.int (.val g .nil)),rfl,nofun⟩
 |add i v=>
  nofun;obtain⟨a,k,l,m,b,rfl,c,e,f,g⟩:=bT h;obtain rfl:=e.cX;obtain rfl:=f.cG;ac_rfl;calc⟨a,_,_,b,rfl,c,.str (.int (.val g .nil)),rfl,nofun⟩
 |times i v=>
  nofun;obtain⟨a,k,l,m,b,rfl,c,e,f,g⟩:=bT h;obtain rfl:=e.cX;obtain rfl:=f.cG;ac_rfl;calc⟨a,_,_,b,rfl,c,.str (.int (.val g .nil)),rfl,nofun⟩
 |put v=>
  nofun;obtain⟨a,k,l,b,rfl,c,e,f⟩:=dM h;obtain rfl:=e.cX;ac_rfl;calc⟨a,_,_,b,rfl,c,.str (.val f .nil),rfl,nofun⟩
 |drop=>
  nofun;obtain⟨a,k,b,rfl,c,e⟩:=jk h;obtain rfl:=e.cX;ac_rfl;calc⟨a,_,_,b,rfl,c,.str (.nil),rfl,nofun⟩
 |send j v=>
  nofun;obtain⟨a,k,l,m,b,rfl,c,e,f,g⟩:=bT h;obtain rfl:=e.cX;obtain rfl:=f.cG;ac_rfl;calc⟨a,_,_,b,rfl,c,.str (.int (.val g .nil)),rfl,nofun⟩
 |say v=>
  nofun;obtain⟨a,k,l,b,rfl,c,e,f⟩:=dM h;obtain rfl:=e.cX;ac_rfl;calc⟨a,_,_,b,rfl,c,.str (.val f .nil),rfl,nofun⟩
 |skip v i n=>
  nofun;obtain⟨a,k,l,m,q,b,rfl,c,e,f,g,p⟩:=pK h;obtain rfl:=e.cX;obtain rfl:=p.cG;ac_rfl;calc⟨a,_,_,b,rfl,c,.str (.val f (.val g (.int .nil))),rfl,nofun⟩
inductive zO(vs:List V)(H:Hp)(Q:VK):Prop
 |mk (x:_) (n:_) (d:_) (h0:vs=[x]) (h1:HT H n x (bH.dv d)) (h2:∀l zs k0 H',av H H'->H l=none->H' l=some (.lst zs)->VL H' k0 zs d.vals->Q (.ref l) H'):zO vs H Q
def DM:Sp:=λvs H Q _=>zO vs H Q
theorem zP(D:cw K mg "values_of" "values_of" lZ ["deed"])(T:Tx K mg C CN CR F FD):Def P w K mg base "values_of" 1 ["deed"] DM:=by
 have sc:aD ["deed"] ["deed"] (az lZ):=by walk_at "s"
 symm;obtain⟨x,n,d,rfl,I,q⟩:=h;have hu:=hr.units;refine⟨_,(aj (aH (cu (N':=["part"]) (ix:=[none]) (bI (pv 0)) (λ_ _ _ _=>(aR (i:=0) (show(["part"]:List Str).Nodup by decide +kernel) rfl Sort)) (λ_ _ _ _=>(fT (bu (aX (wb (K:=K) rfl) rfl T.bq yD (af (au 0) (af (cU (v:=.ty "tuple") rfl T.cf sC rfl) aa)))))) (λ_ _ _ _=>(au 0))))),?_⟩;obtain⟨a,k,u,L,rfl,p,M,U,T⟩:=DK I;left;refine bt ?_;left;refine .inr ⟨⟨_,bF.of p⟩,λD y=>?_⟩;refine aV (J:=Q5 K a) (n:=k.length) (λi ys H'=>av H H'/\VL H' L ys ((u.take i).filterMap id)) (J' (aB ())) ⟨av.new _ y,.nil⟩ ?_ ?_ ?_ ?_
 ·rintro i ys H' z ⟨g,_⟩;exact⟨k,k[i],bF.of (g _ _ p),cD z⟩
 ·rintro ys H' ⟨g,_⟩;exact⟨k,bF.of (g _ _ p),F' _⟩
 ·intro i ys H' z l N X x r Y;nofun;obtain⟨g,m⟩:=X;obtain⟨rfl,n⟩:=Y;have I:=n k (bF.of (g _ _ p));obtain⟨o,T,Z⟩:=M.get I;ac_rfl;have O:u.take (i+1)=u.take i++[o]:=by
   rw[aaH,T];rfl
  walk_at "xf";left;rcases Z with⟨rfl,hc⟩|⟨v,rfl,B⟩
  ·have G:∃t,gT K r x t/\W.kitOne K t (.type "tuple")=some false:=by
    rcases hc with⟨w,rfl⟩|⟨j,rfl⟩
    ·exact⟨_,.str w,rfl⟩
    ·exact⟨_,.int j,rfl⟩
   obtain⟨t,i,k⟩:=G;refine cW t false i k ?_
   first|calc⟨false,rfl,?_⟩|skip
   left
   try rw[if_neg R']
   exact⟨ys,l,(),g,by rw[O];simpa using m⟩
  ·have R:=B.aJ g.aP;obtain⟨b,zs,rfl,i⟩:=Dp R;refine cW _ true (.tup i) rfl ?_
   first|calc⟨true,rfl,?_⟩|skip
   left
   try first|rw[if_pos rfl]|rw[if_pos trivial]
   calc bJ l N z (J' (aB ())) ⟨λc o e=>by rw[ay (aq e y)];calc g _ _ e,?_⟩;rw[O,List.filterMap_append];have S:bX r (upd r D (.lst (ys++[.ref b]))):=(bX.refl r).upd λzs e=>by rw[l]at e;cases e
   exact(m.same S).snoc (R.aJ S)
 ·rintro ys H' l N ⟨g,m⟩;rw[M.len,aat,U]at m;calc q _ ys L _ g y l m
theorem xV{H:Hp}{n:Nat}{x:V}{d:bH}(f:HT H n x d.dv):∃a ps,x=.ref a/\H a=some (.tup (.str d.word::ps)):=by
  cases d with
  |drop=>
    obtain⟨g,h,i,b,c,e⟩:=jk f;obtain rfl:=e.cX;calc⟨_,_,b,c⟩
  |skip v n o=>
    obtain⟨g,h,j,l,n,i,b,c,e,k,m,o⟩:=pK f;obtain rfl:=e.cX;calc⟨_,_,b,c⟩
  |_=>
    first
    | (obtain⟨g,h,j,l,i,b,c,e,k,m⟩:=bT f
       obtain rfl:=e.cX;calc⟨_,_,b,c⟩)
    | (obtain⟨g,h,j,i,b,c,e,k⟩:=dM f
       obtain rfl:=e.cX;calc⟨_,_,b,c⟩)
theorem JG(e:d.word="put"):d.vals.length=1/\∀row x,pG row x d=if row.length<12 then row++[x] else row:=by
 cases d<;>first|calc absurd e (by simp only[bH.word];decide)|calc⟨rfl,λ_ _=>rfl⟩
theorem FO(e:d.word="drop"):∀row x,pG row x d=row.tail:=by
 cases d<;>first|calc absurd e (by simp only[bH.word];decide)|calc λ_ _=>rfl
theorem JH(e:¬d.word="put")(a:¬d.word="drop"):∀row x,pG row x d=row:=by
 cases d<;>first|calc λ_ _=>rfl|calc absurd rfl e|calc absurd rfl a
theorem FQ{n:Nat}(b:HT H n (.ref a) d.dv)(e:d.word="skip"):∃u v k,H a=some (.tup [.str "skip",u,v,.int k])/\d.vals.length=2/\∀x y,pH x y d=if x<y then k else 0:=by
 cases d<;>first|calc absurd e (by simp only[bH.word];decide)|skip
 obtain⟨i,j,k,l,m,n,c,f,g,o,p,h⟩:=pK b;obtain rfl:=V.ref.inj c;obtain rfl:=g.cX;obtain rfl:=h.cG;calc⟨_,_,_,f,rfl,λ_ _=>rfl⟩
theorem zR(e:¬d.word="skip"):∀x y,pH x y d=0:=by
 cases d<;>first|calc λ_ _=>rfl|calc absurd rfl e
theorem l7{n k:Nat}(h:k<n):Br n (k:Int)=some k:=by
 unfold Br;rw[if_pos (),if_pos ()];simp
theorem iM{ws:List Int}(h:j<ws.length):ia (ws.map V.int) ((j:Nat):Int)=some (.int (ws.getD j 0)):=aA (by rw[A',aS (d:=0) h];rfl)
theorem DN{M:Int}{l:List Int}(h:∀z∈l,0<=z/\z<M){j:Nat}(a:j<l.length):0<=l.getD j 0/\l.getD j 0<M:=h _ (DD.getD_mem a)
def uw(M:Int)(ns row:List Int)(x y:Int)(d:bH):List Int×List Int×List (Int×Int)×List Int×Int:=(j8 M ns x d,pG row x d,iD x d,gn x d,pH x y d)
inductive Xm(H:Hp)(a:Addr)(m:Int)(d:bH):Prop
 |set (j:Nat) (u:V) (hj:(j:Int)<m) (h:H a=some (.tup [.str "set",.int j,u])) (hl:d.vals.length=1) (e:∀M ns row x y,uw M ns row x y d=(ns.set j x,row,[],[],0))
 |add (j:Nat) (u:V) (hj:(j:Int)<m) (h:H a=some (.tup [.str "add",.int j,u])) (hl:d.vals.length=1) (e:∀M ns row x y,uw M ns row x y d=(ns.set j ((ns.getD j 0+x)%M),row,[],[],0))
 |times (j:Nat) (u:V) (hj:(j:Int)<m) (h:H a=some (.tup [.str "times",.int j,u])) (hl:d.vals.length=1) (e:∀M ns row x y,uw M ns row x y d=(ns.set j ((ns.getD j 0*x)%M),row,[],[],0))
 |put (u:V) (h:H a=some (.tup [.str "put",u])) (hl:d.vals.length=1) (e:∀M ns row x y,uw M ns row x y d=(ns,if row.length<12 then row++[x] else row,[],[],0))
 |drop (h:H a=some (.tup [.str "drop"])) (e:∀M ns row x y,uw M ns row x y d=(ns,row.tail,[],[],0))
 |send (j:Int) (u:V) (h:H a=some (.tup [.str "send",.int j,u])) (hl:d.vals.length=1) (e:∀M ns row x y,uw M ns row x y d=(ns,row,[(j,x)],[],0))
 |say (u:V) (h:H a=some (.tup [.str "say",u])) (hl:d.vals.length=1) (e:∀M ns row x y,uw M ns row x y d=(ns,row,[],[x],0))
 |skip (u v:V) (k:Nat) (h:H a=some (.tup [.str "skip",u,v,.int k])) (hl:d.vals.length=2) (e:∀M ns row x y,uw M ns row x y d=(ns,row,[],[],if x<y then(k:Int) else 0))
theorem wD{H:Hp}{n:Nat}{a:Addr}{d:bH}{m:Int}(k:HT H n (.ref a) d.dv)(l:d.ok m):Xm H a m d:=by
 cases d with
 |set i v=>
  obtain⟨o,p,g,h,q,b,c,e,f,s⟩:=bT k;obtain rfl:=V.ref.inj b;obtain rfl:=e.cX;obtain rfl:=f.cG;obtain⟨r,rfl⟩:=aaJ l.1;calc .set r h l.2.1 c rfl λ_ _ _ _ _=>rfl
 |add i v=>
  obtain⟨o,p,g,h,q,b,c,e,f,s⟩:=bT k;obtain rfl:=V.ref.inj b;obtain rfl:=e.cX;obtain rfl:=f.cG;obtain⟨r,rfl⟩:=aaJ l.1;calc .add r h l.2.1 c rfl λ_ _ _ _ _=>rfl
 |times i v=>
  obtain⟨o,p,g,h,q,b,c,e,f,s⟩:=bT k;obtain rfl:=V.ref.inj b;obtain rfl:=e.cX;obtain rfl:=f.cG;obtain⟨r,rfl⟩:=aaJ l.1;calc .times r h l.2.1 c rfl λ_ _ _ _ _=>rfl
 |put v=>
  obtain⟨o,p,g,q,b,c,e,f⟩:=dM k;obtain rfl:=V.ref.inj b;obtain rfl:=e.cX;calc .put g c rfl λ_ _ _ _ _=>rfl
 |drop=>
  obtain⟨o,p,q,b,c,e⟩:=jk k;obtain rfl:=V.ref.inj b;obtain rfl:=e.cX;calc .drop c λ_ _ _ _ _=>rfl
 |send j v=>
  obtain⟨o,p,g,h,q,b,c,e,f,s⟩:=bT k;obtain rfl:=V.ref.inj b;obtain rfl:=e.cX;obtain rfl:=f.cG;calc .send j h c rfl λ_ _ _ _ _=>rfl
 |say v=>
  obtain⟨o,p,g,q,b,c,e,f⟩:=dM k;obtain rfl:=V.ref.inj b;obtain rfl:=e.cX;calc .say g c rfl λ_ _ _ _ _=>rfl
 |skip v i n=>
  obtain⟨o,p,g,h,i,q,b,c,e,f,s,t⟩:=pK k;obtain rfl:=V.ref.inj b;obtain rfl:=e.cX;obtain rfl:=t.cG;obtain⟨r,rfl⟩:=aaJ (Int.le_trans ∅ l.2.2.1);calc .skip g h r c rfl λ_ _ _ _ _=>rfl
abbrev gs:Stmt:=top 48
inductive DO(vs:List V)(H:Hp)(Q:VK):Prop
 |mk (an:Addr) (x:V) (l:Addr) (ns ws:List Int) (M:Int) (n:Nat) (d:bH) (h0:vs=[.ref an,x,.ref l,.int M]) (h1:H an=some (.lst (ns.map V.int))) (h2:HT H n x d.dv) (h3:H l=some (.lst (ws.map V.int))) (h4:ws.length=d.vals.length) (h5:d.ok ns.length) (h6:0<M) (h7:M<=1000000000000) (h8:(∀z∈ns,0<=z/\z<M)) (h9:∀H',H' an=some (.lst ((j8 M ns (ws.getD 0 0) d).map V.int))->(∀b o,b≠an->H b=some o->H' b=some o)->Q .bL H'):DO vs H Q
def JI:Sp:=λvs H Q _=>DO vs H Q
theorem qC(D:cw K mg "change_numbers" "change_numbers" gs ["numbers","deed","worths","modulus"])(T:Tx K mg C CN CR F FD):Def P w K mg base "change_numbers" 1 ["numbers","deed","worths","modulus"] JI:=by
 have sc:aD ["numbers","deed","worths","modulus"] ["numbers","deed","worths","modulus"] (az gs):=by walk_at "s"
 symm;obtain⟨o,x,l,ns,ws,M,n,d,rfl,p,v,y,R,z,B,S,G,q⟩:=h;have g:=hr.units;calc⟨_,(aj (aU (aC (aY g) (ao g (au 1) ai) aE (aG _)) (aj (dy (ao g (au 2) ai) (iC (au 0) (ao g (au 1) ai) dH))) (aj (aU (aC (aY g) (ao g (au 1) ai) aE (aG _)) (aj (dy (bc ft (bc cB (ao g (au 0) (ao g (au 1) ai)) (ao g (au 2) ai)) (au 3)) (iC (au 0) (ao g (au 1) ai) dH))) (aj (aU (aC (aY g) (ao g (au 1) ai) aE (aG _)) (aj (dy (bc ft (bc ng (ao g (au 0) (ao g (au 1) ai)) (ao g (au 2) ai)) (au 3)) (iC (au 0) (ao g (au 1) ai) dH))) aK)))))),?_⟩;nofun;obtain⟨a,ps,rfl,i⟩:=xV v;have U:=wD v z;have I:∀c:Nat,((c:Nat):Int) < ns.length->Br (ns.map V.int).length ((c:Nat):Int)=some c/\ia (ns.map V.int) ((c:Nat):Int)=some (.int (ns.getD c 0))/\0<=ns.getD c 0/\ns.getD c 0 < M:=λc k=>⟨l7 (by rw[M'];lia),iM (),DN G ()⟩
 have J:∀c y,j8 M ns (ws.getD 0 0) d=ns.set c y->Q .bL (upd H o (.lst ((ns.map V.int).set c (.int y)))):=λc y E=>q _ (by rw[ab,E,List.map_set]) λb o g e=>by rw[ay g];exact e
 have r:j8 M ns (ws.getD 0 0) d=ns->Q .bL H:=λE=>q H (by rw[E];calc p) λ_ _ _ e=>e;calc hZ ?_;clear hZ gZ v z i G q
 cases U with
 |set c u k i m E=>
  have L:=iM (ws:=ws) (j:=0) ();obtain⟨t,N,O⟩:=I c k;walk_at "jg";exact cW _ c p t (J _ _ (congrArg Prod.fst (E M ns [] (ws.getD 0 0) 0)))
 |add c u k i m E=>
  have L:=iM (ws:=ws) (j:=0) ();obtain⟨t,N,O⟩:=I c k;walk_at "jg";refine⟨B,?_⟩;walk_at "jg";exact cW _ c p t (J _ _ (congrArg Prod.fst (E M ns [] (ws.getD 0 0) 0)))
 |times c u k i m E=>
  have L:=iM (ws:=ws) (j:=0) ();obtain⟨t,N,O⟩:=I c k;walk_at "jg";refine gp (.inl ⟨(),()⟩) B ?_;walk_at "jg";exact cW _ c p t (J _ _ (congrArg Prod.fst (E M ns [] (ws.getD 0 0) 0)))
 |put u i m E=>walk_at "jg";exact r (congrArg Prod.fst (E M ns [] (ws.getD 0 0) 0))
 |drop i E=>walk_at "jg";exact r (congrArg Prod.fst (E M ns [] (ws.getD 0 0) 0))
 |send j u i m E=>walk_at "jg";exact r (congrArg Prod.fst (E M ns [] (ws.getD 0 0) 0))
 |say u i m E=>walk_at "jg";exact r (congrArg Prod.fst (E M ns [] (ws.getD 0 0) 0))
 |skip u v k i m E=>walk_at "jg";exact r (congrArg Prod.fst (E M ns [] (ws.getD 0 0) 0))
abbrev kq:Stmt:=top 49
inductive DQ(vs:List V)(H:Hp)(Q:VK):Prop
 |mk (an:Addr) (x:V) (l:Addr) (row ws:List Int) (n:Nat) (d:bH) (h0:vs=[.ref an,x,.ref l]) (h1:H an=some (.lst (row.map V.int))) (h2:HT H n x d.dv) (h3:H l=some (.lst (ws.map V.int))) (h4:ws.length=d.vals.length) (h5:row.length<=12) (h6:∀H',H' an=some (.lst ((pG row (ws.getD 0 0) d).map V.int))->(∀b o,b≠an->H b=some o->H' b=some o)->Q .bL H'):DQ vs H Q
def JJ:Sp:=λvs H Q _=>DQ vs H Q
theorem xW(D:cw K mg "change_row" "change_row" kq ["row","deed","worths"])(T:Tx K mg C CN CR F FD):Def P w K mg base "change_row" 1 ["row","deed","worths"] JJ:=by
 have sc:aD ["row","deed","worths"] ["row","deed","worths"] (az kq):=by walk_at "s"
 symm;obtain⟨B,x,l,row,ws,n,d,rfl,c,u,G,z,g,q⟩:=h;have i:=hr.units;calc⟨_,(aj (aU (PW.pt (pw_and (aC (aY i) (ao i (au 1) ai) aE (aG _)) (pw_and1 (aC fc (aX aN rfl T.bO S' (af (au 0) aa)) (fW T.fA rfl) (aG _))))) (aj (bN (dB o7 rB rC bW (au 0) (af (ao i (au 2) ai) aa)))) (aj (aU (PW.pt (pw_and (aC (aY i) (ao i (au 1) ai) aE (aG _)) (pw_and1 (aC lO (aX aN rfl T.bO S' (af (au 0) aa)) ai (aG _))))) (aj (Nc (au 0) ai)) aK)))),?_⟩;obtain⟨a,ps,rfl,t⟩:=xV u;by_cases k:d.word="put"
 ·obtain⟨g,v⟩:=JG k;rw[k] at t;have g:=iM (ws:=ws) (j:=0) ();rw[v] at q;walk_at "jg";refine bD _ (.inl ⟨_,aO.of c,rfl⟩) ?_;rw[M'];by_cases m:row.length < 12
  ·rw[if_pos m]at q;left;rw[if_pos (by simp;lia)];walk_at "jg";refine⟨.inl ⟨rfl,_,aO.of c⟩,?_⟩;walk_at "jg";refine iE _ c (aa4 (by simp;lia) (aB (n:=100) ())) ?_;exact q _ (by rw[ab,U'];rfl) λb o y e=>by rw[ay y];exact e
  ·rw[if_neg m]at q;left;rw[if_neg (by simp;lia)];walk_at "jg";exact q H c λ_ _ _ e=>e
 by_cases p:d.word="drop"
 ·rw[p] at t;rw[FO p] at q;walk_at "jg";refine bD _ (.inl ⟨_,aO.of c,rfl⟩) ?_;clear k p u z
  cases row with
  |nil=>
   left
   try rw[if_neg nofun]
   calc q H c λ_ _ _ e=>e
  |cons r g=>
   left;rw[if_pos nofun];walk_at "jg";refine acJ _ _ _ 0 rfl rfl c ∅ ∅ (by simp[seqIndex?]) ?_;exact q _ ab λb o y e=>by rw[ay y];exact e
 ·rw[JH k p]at q;left;calc dJ t (aA (j:=0) rfl) ?_;left;rw[if_neg λz=>k (aav z)];left;calc dJ t (aA (j:=0) rfl) ?_;left;rw[if_neg λz=>p (aav z)];left;calc q H c λ_ _ _ e=>e
abbrev ou:Stmt:=top 50
inductive zS(vs:List V)(H:Hp)(Q:VK):Prop
 |mk (x:V) (l:Addr) (ws:List Int) (n:Nat) (d:bH) (h0:vs=[x,.ref l]) (h1:HT H n x d.dv) (h2:H l=some (.lst (ws.map V.int))) (h3:ws.length=d.vals.length) (h4:Q (.int (pH (ws.getD 0 0) (ws.getD 1 0) d)) H):zS vs H Q
def DR:Sp:=λvs H Q _=>zS vs H Q
theorem B7(D:cw K mg "left_out" "left_out" ou ["deed","worths"])(T:Tx K mg C CN CR F FD):Def P w K mg base "left_out" 1 ["deed","worths"] DR:=by
 have sc:aD ["deed","worths"] ["deed","worths"] (az ou):=by walk_at "s"
 symm;obtain⟨x,l,ws,n,d,rfl,c,b,i,q⟩:=h;have b:=hr.units;refine⟨_,(ag (aU (PW.pt (pw_and (aC (aY b) (ao b (au 0) ai) aE (aG _)) (pw_and1 (aC fc (ao b (au 1) ai) (ao b (au 1) ai) (aG _))))) (aj (aH (ao b (au 0) ai))) aK)
  (aj (aH ai))),?_⟩
 obtain⟨a,ps,rfl,k⟩:=xV c;by_cases e:d.word="skip"
 ·obtain⟨u,v,b,k,l,m⟩:=FQ c e;rw[m] at q;have b:=iM (ws:=ws) (j:=0) ();have b:=iM (ws:=ws) (j:=1) ();clear c i m e;walk_at "jg";by_cases g:ws.getD 0 0 < ws.getD 1 0
  ·rw[if_pos g]at q;left;rw[if_pos (aar g)];walk_at "jg";exact q
  ·rw[if_neg g]at q;left;rw[if_neg λz=>g (aav z)];left;exact q
 ·rw[zR e]at q;left;calc dJ k (aA (j:=0) rfl) ?_;left;rw[if_neg λz=>e (aav z)];left;calc q
theorem JK{d:TT}{f:TS}{D:Ends}(e:St->Hp->Prop)(μ:St->Nat)(h:e σ H)
  (i:∀σ H,e σ H->d σ H λb H1=>if b=true then ∃N:St->Hp->Prop,(∀a H',N a H'->e a H'/\μ a<μ σ)/\f {D with nx:=N,ct:=N,bk:=D.nx} σ H1 else D.nx σ H1)
  (c:∀σ H (Q g:Bool->Hp->Prop),(∀b H1,Q b H1->g b H1)->d σ H Q->d σ H g):xa d f D σ H:=by
 calc⟨λm σ H=>m=μ σ/\e σ H,⟨_,rfl,h⟩,?_⟩;rintro m σ H ⟨rfl,p⟩;refine c σ H _ _ (λb H1 q=>?_) (i σ H p)
 cases b with
 |true=>
  obtain⟨N,c,d⟩:=q;calc⟨N,λa H' n=>⟨_,(c a H' n).2,rfl,(c a H' n).1⟩,d⟩
 |false=>calc q
def SL(H:Hp)(a:List V)(ps:List (Int×Int)):Prop:=a.length=ps.length/\∀(i:Nat) z p,a[i]?=some z->ps[i]?=some p->HT H 1 z (.tup [.int p.1,.int p.2])
theorem SL.aJ(s:bX H H'){a:List V}{ps:List (Int×Int)}(h:SL H a ps):SL H' a ps:=⟨h.1,λi z p a b=>(h.2 i z p a b).aJ s⟩
theorem SL.snoc{c:List V}{z:V}{j w:Int}(h:SL H c ps)(f:HT H 1 z (.tup [.int j,.int w])):SL H (c++[z]) (ps++[(j,w)]):=by
 calc⟨by simp[h.1],λi g p a b=>?_⟩;by_cases d:i<c.length
 ·rw[W' d]at a;rw[W' (by rw[<-h.1];calc d)]at b;exact h.2 i g p a b
 ·rw[V' ()] at a;rw[V' (by rw[<-h.1];lia)] at b;rw[h.1] at a
  cases e:i-ps.length with
  |zero=>rw[e]at a b;cases a;cases b;calc f
  |succ k=>rw[e]at a;simp at a
structure Res(H H':Hp)(x:V)(s:WS):Prop where
 ex:∃p st l1 l2 zs,x=.ref p/\H' p=some (.tup [st,.ref l1,.ref l2])/\HT H' 2 st (zf s.ns s.row)/\H' l1=some (.lst zs)/\SL H' zs s.cT/\H' l2=some (.lst (s.words.map V.int))/\H l1=none/\H l2=none/\l1≠l2
theorem DS{M w:Int}(e:0<M)(b:∀z∈ns,0<=z/\z<M)(f:0<=w/\w<M):∀z∈j8 M ns w d,0<=z/\z<M:=by
 have a:∀(j:Nat) (y:Int),(0<=y/\y<M)->∀z∈ns.set j y,0<=z/\z<M:=λj y g z i=>by
  rcases List.mem_or_eq_of_mem_set i with h|h
  ·exact b z h
  ·rw[h];exact g
 have c:∀y:Int,0<=y%M/\y%M<M:=λy=>⟨aa6 _ (),aaQ _ e⟩
 cases d with
 |set i v=>calc a _ _ f
 |add i v=>calc a _ _ (c _)
 |times i v=>calc a _ _ (c _)
 |_=>calc b
theorem JL{w:Int}{row:List Int}{d:bH}(h:row.length<=12):(pG row w d).length<=12:=by
 cases d with
 |put v=>
  show(if row.length<12 then row++[w] else row).length<=12;split
  ·simp;lia
  ·calc h
 |drop=>show row.tail.length<=12;simp;lia
 |_=>calc h
theorem JM{m w w':Int}{d:bH}(h:d.ok m):0<=pH w w' d:=by
 cases d with
 |skip v u k=>
  show 0<=(if w<w' then k else 0)
  split
  ·exact Int.le_trans ∅ h.2.2.1
  ·calc Int.le_refl _
 |_=>calc Int.le_refl _
theorem pQ{m:Int}(h:d.ok m):∀v∈d.vals,v.ok m:=by
 intro v a
 cases d<;>simp only[bH.vals,List.mem_cons,List.not_mem_nil,or_false]at a
 case set=>subst a;exact h.2.2
 case add=>subst a;exact h.2.2
 case times=>subst a;exact h.2.2
 case put=>subst a;exact h
 case send=>subst a;exact h.2
 case say=>subst a;exact h
 case skip=>rcases a with rfl|rfl;calc h.1;calc h.2.1
theorem VL.get{H:Hp}{n:Nat}{xs:List V}{vs:List Val}(h:VL H n xs vs):∀{i:Nat}{x:V},xs[i]?=some x->∃v,vs[i]?=some v/\HT H n x (Val.dv v):=by
 induction h with
 |nil=>intro i x h;simp at h
 |cons a _ b=>
  intro i x h
  cases i with
  |zero=>cases h;calc⟨_,rfl,a⟩
  |succ i=>calc b h
theorem zT:d.vals.length<=2:=by cases d<;>simp[bH.vals]
theorem wF{M way said:Int}{ns row:List Int}{vs:List Val}{i:Nat}(a:0<M):0<=(vs.map (fY M way said ns row)).getD i 0/\(vs.map (fY M way said ns row)).getD i 0<M:=by
 rw[L',A']
 cases vs[i]? with
 |none=>calc⟨Int.le_refl _,a⟩
 |some v=>calc⟨aa6 _ (),aaQ _ a⟩
theorem sk1{a:Nat}{k:Int}(h:0<=k):(a:Int)+(1+k)=((a+1+k.toNat:Nat):Int):=by lia
theorem sk2{α:Type}{x:α}{xs:List α}{a k f:Nat}(h:(x::xs.drop (a+1)).length<=f+1):(xs.drop (a+1+k)).length<=f:=by
 rw[aba];rw[aaL,aba]at h;lia
theorem sk3{n a:Nat}{k:Int}(b:a<n)(h:0<=k):n-((a:Int)+(1+k)).toNat<n-a:=by lia
theorem NP{n:Nat}{w:Int}(h:HT H n (.ref a) d.dv)(e:d.word="send"):∃j u,H a=some (.tup [.str "send",.int j,u])/\iD w d=[(j,w)]/\gn w d=[]/\d.vals.length=1:=by
 cases d<;>first|calc absurd e (by simp only[bH.word];decide)|skip
 obtain⟨g,i,k,l,m,z,b,c,f,n⟩:=bT h;obtain rfl:=L2.V.ref.inj z;obtain rfl:=f.cG;obtain rfl:=c.cX;calc⟨_,_,b,rfl,rfl,rfl⟩
theorem SE{w:Int}(e:d.word="say"):gn w d=[w]/\d.vals.length=1:=by
 cases d<;>first|calc absurd e (by simp only[bH.word];decide)|calc⟨rfl,rfl⟩
theorem zU{w:Int}:(iD w d).length<=1/\(gn w d).length<=1:=by cases d<;>simp[iD,gn]
theorem NQ{w:Int}(e:¬d.word="send"):iD w d=[]:=by cases d<;>first|rfl|exact absurd rfl e
theorem JN{w:Int}(e:¬d.word="say"):gn w d=[]:=by cases d<;>first|rfl|exact absurd rfl e
theorem zV{l:List Int}(h:0<l.length):l[0]?=some (l.getD 0 0):=by
 cases l with
 |nil=>simp at h
 |cons a r=>rfl
abbrev gu:Stmt:=(ck (top 51)).getD 4 (.Pass ⟨0,0,0,0⟩)
def muW(n:Nat)(σ:St):Nat:=match σ[8]? with
 |some (some (V.int i))=>n-i.toNat
 |_=>0
inductive ux(K:W.Frag)(C:Addr)(vs:List V)(H:Hp)(Q:VK):Prop
 |mk (m:Addr) (st:V) (way said M:Int) (ns0 Fn:List Int) (ds:List bH) (ns row:List Int) (h0:vs=[.ref m,st,.int way,.int said]) (h1:km C H m M ns0 Fn ds) (h2:zh K H st ns row) (h3:2<=M) (h4:M<=1000000000000) (h5:(∀z∈ns,0<=z/\z<M)) (h6:row.length<=12) (h7:ds.length<=24) (h8:(∀d∈ds,d.ok ns.length)) (h9:∀x H',av H H'->Res H H' x (pJ M way said ds ns row)->Q x H'):ux K C vs H Q
def wG(K:W.Frag)(C:Addr):Sp:=λvs H Q _=>ux K C vs H Q
inductive SG(H:Hp)(m:Addr)(st:V)(way said M:Int)(ds:List bH)(ns row:List Int)(σ:St)(H':Hp):Prop
 |mk (an ar ic aw:Addr) (zs:List V) (z9 DT:Option V) (at_:Nat) (s:WS) (f:Nat) (h0:σ=[some (.ref m),some st,some (.int way),some (.int said),some (.ref an),some (.ref ar),some (.ref ic),some (.ref aw),some (.int at_),z9,DT]) (h1:av H H') (h2:H an=none) (h3:H ar=none) (h4:H ic=none) (h5:H aw=none) (h6:an≠ar) (h7:an≠ic) (h8:an≠aw) (h9:ar≠ic) (L8:ar≠aw) (h11:ic≠aw) (h12:H' an=some (.lst (s.ns.map V.int))) (h13:H' ar=some (.lst (s.row.map V.int))) (h14:H' ic=some (.lst zs)) (h15:SL H' zs s.cT) (h16:H' aw=some (.lst (s.words.map V.int))) (h17:s.ns.length=ns.length) (h18:(∀z∈s.ns,0<=z/\z<M)) (h19:s.row.length<=12) (h20:s.cT.length<=at_) (h21:s.words.length<=at_) (h22:zg M way said f (ds.drop at_) s=pJ M way said ds ns row) (h23:(ds.drop at_).length<=f):SG H m st way said M ds ns row σ H'
theorem qD(D:ij K C "worked" "Machine.worked" gu ["self","state","way","said"])(T:Tx K mg C CN CR F FD)(gv:Def P w K mg base "change_numbers" 1 ["numbers","deed","worths","modulus"] JI)(kr:Def P w K mg base "change_row" 1 ["row","deed","worths"] JJ)(oy:Def P w K mg base "left_out" 1 ["deed","worths"] DR)(l8:Def P w K mg base "values_of" 1 ["deed"] DM)(oz:Def P w K mg base "worth_of" 2 ["value","state","way","said","modulus"] (zN K)):cn P w K mg base C "worked" 3 ["self","state","way","said"] (wG K C):=by
  have sc:aD ["self","state","way","said","numbers","row","sent","words","at","deed","worths"] ["self","state","way","said"] (az gu):=by walk_at "s"
  symm;obtain⟨m,st,k,c,M,ns0,Fn,t,ns,row,rfl,hm,vN,FI,qy,hb,pO,Pn,ba,q⟩:=h;have O:=hr.units;refine⟨_,(ag (aZ (i:=4) sc.nd rfl Sort (cR cA rfl T.dN wV (af (ao O (au 1) ai) aa)))
    (ag (aZ (i:=5) sc.nd rfl Sort (cR cA rfl T.dN wV (af (ao O (au 1) ai) aa)))
    (ag (aZ (i:=6) sc.nd rfl Sort (bx aa))
    (ag (aZ (i:=7) sc.nd rfl Sort (bx aa))
    (ag (aZ (i:=8) sc.nd rfl Sort ai)
    (ag (yP PassesOwn.never (xb fc (pv 8) (aX aN rfl T.bO S' (af (bM (pv 0) rfl) aa)) (aG _))
    (ag (aZ (i:=9) sc.nd rfl Sort (ao O (bM (au 0) rfl) (au 8)))
    (ag (ee (i:=10) sc.nd rfl Sort (N':=["value","way","said","numbers","row","self"]) (ix:=[none,some 2,some 3,some 4,some 5,some 0]) (bI (aI l8 hr (af (au 9) aa))) (λ_ _ _ _=>(aR (i:=0) (show(["value","way","said","numbers","row","self"]:List Str).Nodup by decide +kernel) rfl Sort)) kj (λ_ _ _ _=>(aI oz hr (af (au 0) (af (bG (af (au 3) (af (au 4) aa))) (af (au 1) (af (au 2) (af (Nh (K:=K) rfl (au 5) rfl) aa))))))))
    (ag (bN (aI gv hr (af (au 4) (af (au 9) (af (au 10) (af (bM (au 0) rfl) aa))))))
    (ag (bN (aI kr hr (af (au 5) (af (au 9) (af (au 10) aa)))))
    (ag (aU (aC (aY O) (ao O (au 9) ai) aE (aG _)) (aj (bN (dB o7 rB rC bW (au 6) (af (bG (af (ao O (au 9) ai) (af (ao O (au 10) ai) aa))) aa)))) (aj (aU (aC (aY O) (ao O (au 9) ai) aE (aG _)) (aj (bN (dB o7 rB rC bW (au 7) (af (ao O (au 10) ai) aa)))) aK)))
    (aj (Q3 (i:=8) sc.nd rfl Sort (bc cB ai (aI oy hr (af (au 9) (af (au 10) aa)))) Q4))))))))
    (aj (aH (bG (af (bG (af (cR cg rfl T.cf sC (af (au 4) aa)) (af (cR cg rfl T.cf sC (af (au 5) aa)) aa))) (af (au 6) (af (au 7) aa)))))))))))),?_⟩
  nofun;obtain⟨dx,stm,dd,Gx,SH,hm3⟩:=hm;obtain⟨ad,xs,rfl,Xn,sO⟩:=Xd hm3;obtain⟨sa,sb,Xo,rfl,Xp,hsb,hsc⟩:=vN;ac_rfl;left;calc cW _ _ (.inr (bF.of Xp)) rfl ?_;left;calc bD _ hsb (λB SI=>?_);have Z:=av.new (.lst (ns.map V.int)) SI;left;calc cW _ _ (.inr (bF.of (Z _ _ Xp))) rfl ?_;left;have SJ:aO K (upd H B (.lst (ns.map V.int))) Xo (row.map V.int)\/bF K (upd H B (.lst (ns.map V.int))) Xo (row.map V.int):=hsc.elim (λz=>.inl (Z.seq z)) (λz=>.inr (Z.UL z));calc bD _ SJ (λI BQ=>?_);have R:=av.new (.lst (row.map V.int)) BQ;left;calc⟨aaj _,λu qE=>?_⟩;have r:=av.new (.lst []) qE;left;calc⟨aaj _,λG Y=>?_⟩;have W:=av.new (.lst []) Y;left;have nra:I≠B:=λz=>by subst z;rw[ab]at BQ;cases BQ
  have hrH:H I=none:=Z.free BQ;have hsH:H u=none:=(Z.trans R).free qE;have hwH:H G=none:=(Z.trans (R.trans r)).free Y;have nsa:u≠B:=λz=>by subst z;rw[R _ _ ab]at qE;cases qE
  have nsr:u≠I:=λz=>by subst z;rw[ab]at qE;cases qE
  have nwa:G≠B:=λz=>by subst z;rw[r _ _ (R _ _ ab)]at Y;cases Y
  have nwr:G≠I:=λz=>by subst z;rw[r _ _ ab]at Y;cases Y
  have nws:G≠u:=λz=>by subst z;rw[ab]at Y;cases Y
  have B8:=Z.trans (R.trans (r.trans W));have L9:0<M:=by lia
  refine JK (SG H m (.ref sa) k c M t ns row) (muW t.length) ?_ ?_ ?_
  · refine⟨B,I,u,G,[],none,none,0,⟨ns,row,[],[]⟩,t.length,rfl,B8,SI,hrH,hsH,hwH,Ne.symm nra,Ne.symm nsa,Ne.symm nwa,Ne.symm nsr,Ne.symm nwr,Ne.symm nws,W _ _ (r _ _ (R _ _ ab)),W _ _ (r _ _ ab),W _ _ ab,⟨rfl,λi z p e=>by simp at e⟩,ab,rfl,hb,pO,F' _,F' _,rfl,F' _⟩
  · intro σ H1 fO;obtain⟨B,I,u,G,zs,z9,DT,g,s,f,rfl,sH,a1,a2,a3,a4,n1,n2,n3,n4,n5,n6,e1,e2,e3,Gw,e5,Ma,Gz,wm,Mb,hwn,S,Pp⟩:=fO;have NR:=sH _ _ Gx;have Xq:=sH _ _ Xn;have ado:=sO.aJ sH.aP;left;calc fN NR T.cN T.Pj Xb ?_;left;calc bD _ (.inr ⟨_,bF.of Xq,rfl⟩) ?_;by_cases ir:g < t.length
    · have UP:g < xs.length:=by rw[sO.1];exact ir
      left;rw[if_pos (by simpa using UP)];calc⟨λσ' H'=>SG H m (.ref sa) k c M t ns row σ' H'/\muW t.length σ'<t.length-g,λσ' H' h=>h,?_⟩;have rW:=ba t[g] (aaw ir);have hx:=ado.2 g xs[g] t[g] (cD UP) (cD ir);have UQ:t.drop g=t[g]::t.drop (g+1):=List.drop_eq_getElem_cons ir;nofun;generalize hdd:t[g]=d at rW hx UQ;generalize hxx:xs[g]=x at hx;have Xr:xs[g]?=some x:=by rw[cD UP,hxx]
      obtain⟨f',rfl⟩:∃f',f=f'+1:=⟨f-1,by rw[UQ]at Pp;simp at Pp;lia⟩
      rw[UQ]at S Pp
      replace S:zg M k c f' ((t.drop (g+1)).drop (nO M k c d s).toNat) (kZ M k c d s)=pJ M k c t ns row:=S
      ac_rfl;rw[List.drop_drop]at S;left;calc fN NR T.cN T.Pj Xb ?_;left;calc cW _ x (.inr (bF.of Xq)) (aA Xr) ?_;left;calc bt ?_;left;calc⟨x,3,d,rfl,hx,λl zv k0 H2 R SK hl Je=>?_⟩;calc .inl ⟨⟨_,aO.of hl⟩,λD hD=>?_⟩;have Mc:=Je.len;have MM:=zT (d:=d);refine aV (J:=rD K l) (n:=zv.length) (λi ys H'=>ys=((d.vals.take i).map (fY M k c s.ns s.row)).map V.int/\av H2 H') (J' (aB ())) ⟨rfl,av.new _ hD⟩ ?_ ?_ ?_ ?_
      · rintro i ys H' hi ⟨_,r⟩;exact⟨_,zv[i],aO.of (r _ _ hl),cD hi⟩
      · rintro ys H' ⟨_,r⟩;exact⟨_,aO.of (r _ _ hl),F' _⟩
      · intro i ys H3 hi aW qm fP y H4 lg;nofun;obtain⟨rfl,r⟩:=fP;obtain⟨rfl,hy⟩:=lg;have ey:=hy _ (aO.of (r _ _ hl));obtain⟨v,ev,hv⟩:=Je.get ey;ac_rfl;have ju:=pQ rW v (aan ev);walk_at "xf";left;rw[if_pos trivial];refine⟨cM,λp hp=>?_⟩;have W:=av.new (.tup [.ref B,.ref I]) hp;have zW:=R.trans (r.trans W);refine fN (zW _ _ NR) T.cN T.Ph Xa ?_;refine⟨y,.ref p,k,c,M,v,s.ns,s.row,k0,rfl,(hv.aJ (r.trans W).aP),⟨p,B,I,rfl,ab,.inl (aO.of (zW _ _ e1)),.inl (aO.of (zW _ _ e2))⟩,by rw[Ma];exact ju,L9,?_⟩;refine bJ (W _ _ aW) qm hi (J' (aB ())) ⟨?_,λb o e=>?_⟩
        · rw[aaH,ev];simp[fY]
        · rw[ay (aq e hD)];exact W _ _ (r _ _ e)
      rintro ys H3 aW qm ⟨rfl,r⟩;rw[Mc,aat]at aW;have X:=R.trans r;have GB:H1 D=none:=R.free hD;generalize sQ:d.vals.map (fY M k c s.ns s.row)=ws at aW;have kg:ws.length=d.vals.length:=by rw[<-sQ];simp
      have Xs:0<=ws.getD 0 0/\ws.getD 0 0<M:=by rw[<-sQ];exact wF L9
      have DU:kZ M k c d s=⟨j8 M s.ns (ws.getD 0 0) d,pG s.row (ws.getD 0 0) d,s.cT++iD (ws.getD 0 0) d,s.words++gn (ws.getD 0 0) d⟩:=by rw[<-sQ];rfl
      have DW:nO M k c d s=pH (ws.getD 0 0) (ws.getD 1 0) d:=by rw[<-sQ];rfl
      rw[DU,DW]at S;have Md:∀{b:Addr} {o:HO},H1 b=some o->b≠D:=λe=>aq e GB;left;calc fN (X _ _ NR) T.cN T.Ph Xa ?_;calc⟨B,x,D,s.ns,ws,M,3,d,rfl,X _ _ e1,hx.aJ X.aP,aW,kg,by rw[Ma];calc rW,L9,qy,Gz,λH4 e14 k4=>?_⟩;have t4:bX H3 H4:=λb ys e=>k4 b _ (λz=>by subst z;rw[X _ _ e1]at e;cases e) e;left;calc⟨I,x,D,s.row,ws,3,d,rfl,k4 _ _ (Ne.symm n1) (X _ _ e2),hx.aJ (X.aP.trans t4),k4 _ _ (Ne.symm (Md e1)) aW,kg,wm,λL e25 k5=>?_⟩;have t5:bX H4 L:=λb ys e=>k5 b _ (λz=>by subst z;rw[k4 _ _ (Ne.symm n1) (X _ _ e2)]at e;cases e) e;have t15:bX H1 L:=X.aP.trans (t4.trans t5);have kk:∀b o,b≠B->b≠I->H1 b=some o->L b=some o:=λb o ne1 ne2 e=>k5 b o ne2 (k4 b o ne1 (X _ _ e));have e15:=k5 _ _ n1 e14;have UR:=kk _ _ (Ne.symm n2) (Ne.symm n4) e3;have Xt:=kk _ _ (Ne.symm n3) (Ne.symm n5) e5;have DC:L D=some (.lst (ws.map V.int)):=k5 _ _ (Ne.symm (Md e2)) (k4 _ _ (Ne.symm (Md e1)) aW);have SM:=Gw.aJ t15;have SN:av H L:=λb o e=>kk b o (aq e a1) (aq e a2) (sH _ _ e);have Gy:=hx.aJ t15;have Pq:=JM (w:=ws.getD 0 0) (w':=ws.getD 1 0) rW;obtain⟨a,us,rfl,ha,-⟩:=uk Gy rW;left;rename_i N1 hN1 T1 U1 Xu hU1;have fin:∀U Me,av H U->U B=some (.lst ((j8 M s.ns (ws.getD 0 0) d).map V.int))->U I=some (.lst ((pG s.row (ws.getD 0 0) d).map V.int))->U u=some (.lst Me)->SL U Me (s.cT++iD (ws.getD 0 0) d)->U G=some (.lst ((s.words++gn (ws.getD 0 0) d).map V.int))->HT U 3 (.ref a) d.dv->U D=some (.lst (ws.map V.int))->N1 [some (V.ref m),some (V.ref sa),some (V.int k),some (V.int c),some (V.ref B),some (V.ref I),some (V.ref u),some (V.ref G),some (V.int (g:Nat)),some (V.ref a),some (V.ref D)] U:=by
        intro U Me f0 f1 f2 f3 f4 f5 f6 f7;left;calc⟨.ref a,D,ws,_,_,rfl,f6,f7,kg,?_⟩;left;calc cW _ _ rfl rfl ?_;have l1:=zU (w:=ws.getD 0 0) (d:=d);refine⟨⟨B,I,u,G,Me,some (.ref a),some (.ref D),g+1+(pH (ws.getD 0 0) (ws.getD 1 0) d).toNat,⟨j8 M s.ns (ws.getD 0 0) d,pG s.row (ws.getD 0 0) d,s.cT++iD (ws.getD 0 0) d,s.words++gn (ws.getD 0 0) d⟩,f',?_,f0,a1,a2,a3,a4,n1,n2,n3,n4,n5,n6,f1,f2,f3,f4,f5,by rw[qi];calc Ma,DS (d:=d) L9 Gz Xs,JL (w:=ws.getD 0 0) (d:=d) wm,(by rw[aas];lia),(by rw[aas];lia),S,?_⟩,?_⟩
        · first|rfl|rw[sk1 Pq]
        · exact sk2 Pp
        · exact sk3 ir Pq
      calc dJ ha (aA (j:=0) rfl) ?_;left;by_cases k1:d.word="send"
      · rw[if_pos (aar k1)];obtain⟨j,u2,ha',es,Pr,US⟩:=NP (w:=ws.getD 0 0) Gy k1;have DP:ia (ws.map V.int) 0=some (.int (ws.getD 0 0)):=aA (j:=0) (by rw[A',zV ()];rfl);generalize ws.getD 0 0=w0 at *
        · skip
          left;calc⟨.inl ⟨rfl,_,aO.of UR⟩,?_⟩;calc dJ ha' (aA (j:=1) rfl) ?_;left;calc bC DC DP ?_;calc⟨cM,λtp zX=>?_⟩;have s6:=av.new (.tup [.int j,.int w0]) zX;calc iE _ (s6 _ _ UR) (aa4 (by have:=Gw.1;lia) (aB (n:=100) ())) ?_;have htn:tp≠u:=λz=>by subst z;rw[UR]at zX;cases zX
          have t6:bX (upd L tp (.tup [.int j,.int w0])) (upd (upd L tp (.tup [.int j,.int w0])) u (.lst (zs++[.ref tp]))):=(bX.refl _).upd λys e=>by rw[s6 _ _ UR]at e;cases e
          have N:∀b o,b≠u->L b=some o->upd (upd L tp (.tup [.int j,.int w0])) u (.lst (zs++[.ref tp])) b=some o:=λb o ne e=>by rw[ay ne];exact s6 _ _ e
          exact fin _ _ (λb o e=>N b o (aq e a3) (SN _ _ e)) (N _ _ n2 e15) (N _ _ n4 e25) ab (by rw[es];calc(SM.aJ (s6.aP.trans t6)).snoc (cV (n:=0) (by rw[ay htn];calc ab) (.int _) (.int _))) (by rw[Pr,aam];calc N _ _ (Ne.symm n6) Xt) (Gy.aJ (s6.aP.trans t6)) (N _ _ (Ne.symm (Md e3)) DC)
      · rw[if_neg λz=>k1 (aav z)];have es:=NQ (w:=ws.getD 0 0) k1;left;calc dJ ha (aA (j:=0) rfl) ?_;left;by_cases k2:d.word="say"
        · rw[if_pos (aar k2)];obtain⟨ew,Pr⟩:=SE (w:=ws.getD 0 0) k2;have DP:ia (ws.map V.int) 0=some (.int (ws.getD 0 0)):=aA (j:=0) (by rw[A',zV ()];rfl);generalize ws.getD 0 0=w0 at *
          · skip
            left;calc⟨.inl ⟨rfl,_,aO.of Xt⟩,?_⟩;left;calc bC DC DP ?_;calc iE _ Xt (aa4 (by simp;lia) (aB (n:=100) ())) ?_;have t6:bX L (upd L G (.lst (s.words.map V.int++[.int w0]))):=(bX.refl _).upd λys e=>by rw[Xt]at e;cases e
            have N:∀b o,b≠G->L b=some o->upd L G (.lst (s.words.map V.int++[.int w0])) b=some o:=λb o ne e=>by rw[ay ne];exact e
            exact fin _ zs (λb o e=>N b o (aq e a4) (SN _ _ e)) (N _ _ n3 e15) (N _ _ n5 e25) (N _ _ n6 UR) (by rw[es,aam];calc SM.aJ t6) (by rw[ab,ew,U'];rfl) (Gy.aJ t6) (N _ _ (Ne.symm (Md e5)) DC)
        · rw[if_neg λz=>k2 (aav z)];have ew:=JN (w:=ws.getD 0 0) k2;calc L2.bz (by assumption) ?_;exact fin _ _ SN e15 e25 UR (by rw[es,aam];calc SM) (by rw[ew,aam];calc Xt) Gy DC
    · have UP:¬g < xs.length:=by rw[sO.1];exact ir
      left;rw[if_neg (by simpa using UP)];rw[List.drop_eq_nil_of_le (),Dn]at S;left;calc .inl ⟨_,aO.of e1,λt1 wx=>?_⟩;have r1:=av.new (.tup (s.ns.map V.int)) wx;left;calc .inl ⟨_,aO.of (r1 _ _ e2),λt2 o8=>?_⟩;have r2:=av.new (.tup (s.row.map V.int)) o8;left;calc⟨cM,λt3 B2=>?_⟩;have r3:=av.new (.tup [.ref t1,.ref t2]) B2;left;calc⟨by show 3<=sizeLine;decide,λt4 B3=>?_⟩;have r4:=av.new (.tup [.ref t3,.ref u,.ref G]) B3;have NS:=r1.trans (r2.trans (r3.trans r4));refine q _ _ (sH.trans NS) ⟨_,_,u,G,zs,rfl,ab,?_,NS _ _ e3,?_,?_,a3,a4,n6⟩
      · rw[<-S];exact(cV ab (pF (r3 _ _ (r2 _ _ ab))) (pF (r3 _ _ ab))).aJ r4.aP
      · rw[<-S];exact Gw.aJ NS.aP
      · rw[<-S];exact NS _ _ e5
  · intro σ H1 Q Q' hq hc;obtain⟨x,h1,x0,h0,a,C',we,fs,v,h2,h3,h4,h5,h6,n,h7,h8⟩:=hc;refine⟨x,h1,x0,h0,a,C',we,fs,v,h2,h3,h4,h5,h6,n,h7,?_⟩
    cases x<;>first
      |calc(show False from h8).elim
      | (obtain⟨k',h9,L8⟩:=h8
         calc⟨k',h9,hq _ _ L8⟩)
def kb(n:Nat->Nat)(ad:Nat->Nat->Addr)(t:Nat):List V:=(List.range (n t)).map λi=>V.ref (ad t i)
theorem l9{n:Nat->Nat}{t:Nat}:(kb n ad t).length=n t:=by simp[kb]
theorem bo{n:Nat->Nat}{t i:Nat}(h:i<n t):ia (kb n ad t) (i:Int)=some (.ref (ad t i)):=aA (by simp[kb,h])
def GC(a:V)(p:Addr)(o:Nat->Addr):List (Str×V):=[("own_net",a),("picks_done",.ref p),("states_had",.ref (o 1)),("words_had",.ref (o 2)),("words_said",.ref (o 3)),("letters_say",.ref (o 4)),("senders",.ref (o 5)),("workers",.ref (o 6))]
section
variable {bg:V}{p:Addr}{o:Nat->Addr}
theorem qF:(GC bg p o).lookup ("own_net":Str)=some bg:=by kernel_rfl
theorem Xv:(GC bg p o).lookup ("picks_done":Str)=some (.ref p):=by kernel_rfl
theorem JO:(GC bg p o).lookup ("states_had":Str)=some (.ref (o 1)):=by kernel_rfl
theorem ads:(GC bg p o).lookup ("words_had":Str)=some (.ref (o 2)):=by kernel_rfl
theorem Xw:(GC bg p o).lookup ("words_said":Str)=some (.ref (o 3)):=by kernel_rfl
theorem NU:(GC bg p o).lookup ("letters_say":Str)=some (.ref (o 4)):=by kernel_rfl
theorem Xx:(GC bg p o).lookup ("senders":Str)=some (.ref (o 5)):=by kernel_rfl
theorem JP:(GC bg p o).lookup ("workers":Str)=some (.ref (o 6)):=by kernel_rfl
end
structure vo(C CN:Addr)(H:Hp)(bg:Addr)(nt:NT):Prop where
 ex:∃ms wv lv,nJ CN H bg ms wv lv/\ms.length=nt.ms.length/\(∀(i:Nat) m d,ms[i]?=some m->nt.ms[i]?=some d->UN C H m d)/\eO H 1 wv (nt.ws.map nI)
 ok:nt.Ok
theorem UN.fr{C:Addr}{m:Addr}{d:MD}(f:Fr Z H H')(h:UN C H m d):UN C H' m d:=by
 obtain⟨a,st,dd,b,c,e⟩:=h;calc⟨a,st,dd,f.k8 b id,c.aJ f.aP,e.aJ f.aP⟩
theorem nJ.fr{CN:Addr}{x:Addr}{d:List V}(f:Fr Z H H')(h:nJ CN H x ms wv d):nJ CN H' x ms wv d:=by
 obtain⟨d,a,b,c,e,g,i,j⟩:=h;calc⟨d,a,b,c,f.k8 e id,f.k8 g id,f.k8 i id,f.k8 j id⟩
theorem vo.fr{C CN:Addr}{c:Addr}{nt:NT}(f:Fr Z H H')(h:vo C CN H c nt):vo C CN H' c nt:=by
 obtain⟨⟨ms,wv,c,e,g,j,k⟩,l⟩:=h;calc⟨⟨ms,wv,c,e.fr f,g,λi m d a b=>(j i m d a b).fr f,k.aJ f.aP⟩,l⟩
structure bU(C CN CR:Addr)(F:Addr->Prop)(H:Hp)(x bg:Addr)(nt:NT)(r:RS)(ad:Nat->Nat->Addr):Prop where
 ins:∃dx o,H x=some (.ins CR dx (GC (.ref bg) (ad 0 0) o))/\∀t,1<=t->t<=6->H (o t)=some (.lst (kb nt.n ad t))/\¬F (o t)/\¬FP nt.n ad (o t)
 cH:eA F H nt.n ad r.ct
 FT:vo C CN H bg nt
section
variable {C CN CR:Addr}{F:Addr->Prop}{H H':Hp}{x bg:Addr}{nt:NT}{r:RS}{ad:Nat->Nat->Addr}
theorem bU.keep(h:bU C CN CR F H x bg nt r ad)(f:Fr F H H'):bU C CN CR F H' x bg nt r ad:=by
 obtain⟨⟨d,o,e,c⟩,g,i⟩:=h;calc⟨⟨d,o,f.k8 e id,λt a b=>⟨f.at (c t a b).1 (c t a b).2.1,(c t a b).2⟩⟩,g.keep f,i.fr f⟩
theorem bU.same(h:bU C CN CR F H x bg nt r ad)(s:av H H'):bU C CN CR F H' x bg nt r ad:=h.keep s.fr
theorem bU.own(h:bU C CN CR F H x bg nt r ad)(f:Fr (FP nt.n ad) H H')(b:eA F H' nt.n ad r'.ct):bU C CN CR F H' x bg nt r' ad:=by
 obtain⟨⟨d,o,e,c⟩,i,g⟩:=h;calc⟨⟨d,o,f.k8 e id,λt a b=>⟨f.at (c t a b).1 (c t a b).2.2,(c t a b).2⟩⟩,b,g.fr f⟩
end
abbrev jv:Stmt:=(ck (top 60)).getD 6 (.Pass ⟨0,0,0,0⟩)
def uy(nt:NT)(e j:Nat):Int:=if e=0 then(nt.w j).1 else(nt.w j).2.1
def vp(nt:NT)(e m:Nat):List Nat:=(List.range nt.ws.length).filter λj=>decide (uy nt e j=m)
def B9(C CN:Addr):Sp:=λvs H Q _=>∃(x:Addr) (nt:NT) (m e:Nat),vs=[.ref x,.int m,.int e]/\vo C CN H x nt/\m<nt.ms.length/\e<2/\∀l H',av H H'->H l=none->H' l=some (.lst ((vp nt e m).map λi=>.int (i:Nat)))->Q (.ref l) H'
theorem vq(D:ij K CN "ways_at" "Net.ways_at" jv ["self","m","end"])(T:Tx K mg C CN CR F FD)(R:Def P w K mg base "is_within" 2 ["thing","low","beyond"] bS):cn P w K mg base CN "ways_at" 3 ["self","m","end"] (B9 C CN):=by
 have sc:aD ["self","m","end"] ["self","m","end"] (az jv):=by walk_at "s"
 symm;obtain⟨x,d,m,e,rfl,z,B,I,q⟩:=h;have I:=hr.units;refine⟨_,(ag (aU (bR (bu (aI R hr (af (au 1) (af ai (af (aX aN rfl T.bO S' (af (bM (au 0) rfl) aa)) aa)))))) (aj cq) aK)
  (aj (aH (cu (N':=["number","way","m","end"]) (ix:=[none,none,some 1,some 2]) (gK rfl T.cK (af (bM (au 0) rfl) aa)) (λ_ _ _ _=>(fX (K:=K) rfl (i:=0) (j:=1) rfl (show(["number","way","m","end"]:List Str).Nodup by decide +kernel) rfl rfl Sort Sort)) (λ_ _ _ _=>(fT (aC (lT (K:=K) rfl I) (cj (K:=K) rfl I (au 1) (au 3)) (au 2) (aG _)))) (λ_ _ _ _=>(au 0)))))),?_⟩
 nofun;obtain⟨⟨ms,wv,I,R,S,W,L⟩,U⟩:=id z;obtain⟨W,a,b,cc,I,X,l,h4⟩:=id R;ac_rfl;left;calc⟨x,CN,W,_,_,rfl,I,T.cO,T.zB,Xh,_,.inr ⟨_,bF.of X,rfl⟩,?_⟩;calc fz (.int m) _ 0 _ rfl (.int _) ?_;rw[show inR 0 (((ms.map V.ref).length:Nat):Int) (.int (m:Int))=true by simp[inR,S,B]];calc pL ?_;rw[if_neg ∅];left;calc bt ?_;left;calc fN I T.cO T.zC Xi ?_;left;calc xJ false wv (Sq.t l) (λD r=>?_);have Y:wv.length=d.ws.length:=by simpa using L.1
 have x:=U.Fo;refine aV (J:=Ig false K b) (n:=wv.length) (λi ys H'=>av H H'/\ys=((List.range i).filter λj=>decide (uy d e j=m)).map λj=>V.int (j:Nat)) (J' (aB ())) ⟨av.new _ r,rfl⟩ ?_ ?_ ?_ ?_
 ·rintro i ys H' u ⟨g,_⟩;exact⟨wv,wv[i],Sq.t (g _ _ l),cD u⟩
 ·rintro ys H' ⟨g,_⟩;exact⟨wv,Sq.t (g _ _ l),rfl⟩
 ·intro i ys H' u p M Z xx H4 fP;nofun;obtain⟨g,rfl⟩:=Z;obtain⟨t,ht,rfl,y⟩:=fP;obtain⟨k,ex,rfl⟩:=y wv (Sq.t (g _ _ l));have x:i < d.ws.length:=by lia
  have o:=(L.2 i k (nI (d.w i)) ex (by rw[A',show d.ws[i]?=some (d.w i) from aS x];rfl)).aJ g.aP;have v:=av.new (.tup [.int (i:Nat),k]) ht
  replace o:=o.aJ v.aP
  have o8:upd H' t (.tup [.int (i:Nat),k]) t=some (.tup [.int (i:Nat),k]):=ab;have N:=v _ _ p;have O:=g.trans v;generalize hG:upd H' t (.tup [.int (i:Nat),k])=G at *;obtain⟨ta,u1,u2,u3,kk,rfl,rX,g1,g2,g3⟩:=bT o;obtain rfl:=g1.cG;obtain rfl:=g2.cG;obtain rfl:=g3.cX;ac_rfl;calc rF (bF.of o8) ⟨Ext.set (Ext.set (Ext.refl _) rfl) rfl,?_⟩;left;have Xy:ia [V.int (d.w i).1,V.int (d.w i).2.1,V.str (d.w i).2.2] (e:Int)=some (.int (uy d e i)):=by
   have:e=0\/e=1:=by lia
   rcases this with rfl|rfl
   ·exact aA (j:=0) rfl
   ·exact aA (j:=1) rfl
  calc dJ rX Xy ?_;left;have k:(List.range (i+1)).filter (λj=>decide (uy d e j=m))=(List.range i).filter (λj=>decide (uy d e j=m))++(if uy d e i=m then[i] else[]):=by
   rw[List.range_succ,aaR];congr 1;by_cases z:uy d e i=m<;>simp[z]
  by_cases z:uy d e i=m
  ·rw[if_pos (by simp[z])];calc bJ N M u (J' (aB ())) ⟨λc o e=>by rw[ay (aq e r)];calc O _ _ e,?_⟩;rw[k,if_pos z,U'];rfl
  ·rw[if_neg (by simp[z])];exact⟨_,N,(),O,by rw[k,if_neg z,aam]⟩
 ·rintro ys H' p M ⟨g,rfl⟩;rw[Y]at p;calc q _ _ g r p
abbrev iN:Stmt:=(ck (top 60)).getD 4 (.Pass ⟨0,0,0,0⟩)
def rH(C CN:Addr):Sp:=λvs H Q _=>∃(x:Addr) (nt:NT) (m:Nat),vs=[.ref x,.int m]/\vo C CN H x nt/\m<nt.ms.length/\∀l H',av H H'->H l=none->H' l=some (.lst ((vp nt 0 m).map λi=>.int (i:Nat)))->Q (.ref l) H'
theorem uz(D:ij K CN "ways_out" "Net.ways_out" iN ["self","m"])(T:Tx K mg C CN CR F FD)(g:cn P w K mg base CN "ways_at" 3 ["self","m","end"] (B9 C CN)):cn P w K mg base CN "ways_out" 4 ["self","m"] (rH C CN):=by
 have sc:aD ["self","m"] ["self","m"] (az iN):=by walk_at "s"
 symm;obtain⟨x,d,m,rfl,c,e,q⟩:=h;have i:=hr.units;calc⟨_,(aj (aH (eS g T.cO hr (au 0) (af (au 1) (af ai aa))))),?_⟩;nofun;obtain⟨⟨ms,wv,j,i,k,l,n⟩,o⟩:=id c;obtain⟨j,a,b,k,g,l,n,o⟩:=id i;ac_rfl;left;calc gO g (eN ⋯ ⋯ ⋯) ?_;calc⟨x,d,m,0,rfl,c,e,∅,q⟩
abbrev jx:Stmt:=(ck (top 60)).getD 5 (.Pass ⟨0,0,0,0⟩)
def uA(C CN:Addr):Sp:=λvs H Q _=>∃(x:Addr) (nt:NT) (m:Nat),vs=[.ref x,.int m]/\vo C CN H x nt/\m<nt.ms.length/\∀l H',av H H'->H l=none->H' l=some (.lst ((vp nt 1 m).map λi=>.int (i:Nat)))->Q (.ref l) H'
theorem vt(D:ij K CN "ways_in" "Net.ways_in" jx ["self","m"])(T:Tx K mg C CN CR F FD)(g:cn P w K mg base CN "ways_at" 3 ["self","m","end"] (B9 C CN)):cn P w K mg base CN "ways_in" 4 ["self","m"] (uA C CN):=by
 have sc:aD ["self","m"] ["self","m"] (az jx):=by walk_at "s"
 symm;obtain⟨x,d,m,rfl,c,e,q⟩:=h;have i:=hr.units;calc⟨_,(aj (aH (eS g T.cO hr (au 0) (af (au 1) (af ai aa))))),?_⟩;nofun;obtain⟨⟨ms,wv,j,i,k,l,n⟩,o⟩:=id c;obtain⟨j,a,b,k,g,l,n,o⟩:=id i;ac_rfl;left;calc gO g (eN ⋯ ⋯ ⋯) ?_;calc⟨x,d,m,1,rfl,c,e,∅,q⟩
def FS(F:Addr->Prop)(H:Hp):Prop:=∀b,F b->∃o,H b=some o/\soft o
theorem FS.fr{F:Addr->Prop}(h:FS F H)(f:Fr Z H H')(c:∀b,F b->¬Z b):FS F H':=λb a=>by
 obtain⟨o,e,s⟩:=h b a;calc⟨o,f.at e (c b a),s⟩
theorem _root_.DD.eA.uB{F:Addr->Prop}{n:Nat->Nat}{ct:Nat->Nat->CO}(h:eA F H n ad ct):∀b,F b->¬FP n ad b:=λb a ⟨t,i,c,e⟩=>h.out t i c (e▸a)
theorem small{n:Nat}(h:n<=20000):n<sizeLine:=by rw[aax];lia
theorem SO{r:RS}{n:NT}{w:Nat}{x:Int}{s:Option (Int×Int)}:∀t i,i<n.n t->setC (setC (setC r.ct 4 w (.l ((r.ww w).say.map .int++[.int x]))) 5 w (.l ((r.ww w).snd.map nj++[nj s]))) 6 w (.l ((r.ww w).cF.map nj++[.bL])) t i=(r.put w x s).ct t i:=by
 intro t i a;unfold setC
 match t,a with
 |0,_=>simp[RS.ct,RS.put]
 |1,_=>simp[RS.ct,RS.put]
 |2,_=>simp[RS.ct,RS.put]
 |3,_=>simp[RS.ct,RS.put]
 |4,_=>by_cases e:i=w<;>simp[RS.ct,RS.put,e]
 |5,_=>by_cases e:i=w<;>simp[RS.ct,RS.put,e]
 |6,_=>by_cases e:i=w<;>simp[RS.ct,RS.put,e,nj]
 |(t+7),a=>calc absurd a (aaX i)
abbrev gw:Stmt:=(ck (top 62)).getD 1 (.Pass ⟨0,0,0,0⟩)
inductive DX(C CN CR:Addr)(vs:List V)(H:Hp)(Q:VK):Prop
 |mk (F:Addr->Prop) (x bg:Addr) (nt:NT) (r:RS) (ad:Nat->Nat->Addr) (wy:Nat) (said:Int) (sv:V) (s:Option (Int×Int)) (h0:vs=[.ref x,.int (wy:Nat),.int said,sv]) (h1:bU C CN CR F H x bg nt r ad) (h2:FS F H) (h3:wy<nt.ws.length) (h4:HT H 4 sv (nj s)) (h5:r.uZ nt 19999) (h6:∀H',Fr (FP nt.n ad) H H'->bU C CN CR F H' x bg nt (r.put wy said s) ad->Q .bL H'):DX C CN CR vs H Q
def uC(C CN CR:Addr):Sp:=λvs H Q _=>DX C CN CR vs H Q
theorem qG(D:ij K CR "put_letter" "Run.put_letter" gw ["self","way","said","sender"])(T:Tx K mg C CN CR F FD):cn P w K mg base CR "put_letter" 1 ["self","way","said","sender"] (uC C CN CR):=by
 have sc:aD ["self","way","said","sender"] ["self","way","said","sender"] (az gw):=by walk_at "s"
 symm;obtain⟨F,x,o,g,r,ad,a,c,v,s,rfl,j,I,b,J,k,q⟩:=h;have o:=hr.units;refine⟨_,(ag (bN (dB o7 rB rC bW (ao o (bM (au 0) rfl) (au 1)) (af (au 2) aa)))
  (ag (bN (dB o7 rB rC bW (ao o (bM (au 0) rfl) (au 1)) (af (au 3) aa)))
  (aj (bN (dB o7 rB rC bW (ao o (bM (au 0) rfl) (au 1)) (af gm aa)))))),?_⟩
 nofun;obtain⟨x,o,y,d⟩:=j.ins;have z:=j.cH;have o:=(d 4 ∅ ∅).1;have N:=(d 5 ∅ ∅).2.2;have O:=(d 6 ∅ ∅).2.2;have x:=k.bs a b;have x:=k.ls a b;have x:=k.lk a b;obtain⟨l,m,x⟩:=z.lst (t:=4) (i:=a) b rfl;ac_rfl;have k:l.length=(r.ww a).say.length:=by simpa using x.1
 left;calc fN y T.a0 T.b8 NU ?_;left;calc bC o (bo b) ?_;calc⟨.inl ⟨rfl,_,aO.of m⟩,?_⟩;left;calc iE l m (small ()) ?_;have B:=z.app (t:=4) (i:=a) b rfl m (fw.one (.int c));have e:Fr (FP g.n ad) H (upd H (ad 4 a) (.lst (l++[.int c]))):=Fr.refl.upd ⟨4,a,b,rfl⟩ m trivial;generalize R:upd H (ad 4 a) (.lst (l++[.int c]))=L at *;left;have o:=e.k8 y id;have c:=e.at (d 5 ∅ ∅).1 N;obtain⟨p,u,k⟩:=B.lst (t:=5) (i:=a) b rfl;have l:p.length=(r.ww a).snd.length:=by simpa using k.1
 have k:=I.fr e z.uB;left;calc fN o T.a0 T.eV Xx ?_;left;calc bC c (bo b) ?_;calc⟨.inl ⟨rfl,_,aO.of u⟩,?_⟩;left;calc iE p u (small ()) ?_;have M:=B.app (t:=5) (i:=a) b rfl u (fw.one (B.ht k (J.aJ e.aP)));have G:Fr (FP g.n ad) H (upd L (ad 5 a) (.lst (p++[v]))):=e.upd ⟨5,a,b,rfl⟩ u trivial;generalize U:upd L (ad 5 a) (.lst (p++[v]))=S at *;left;have l:=G.k8 y id;have e:=G.at (d 6 ∅ ∅).1 O;obtain⟨k,c,m⟩:=M.lst (t:=6) (i:=a) b rfl;have d:k.length=(r.ww a).cF.length:=by simpa using m.1
 left;calc fN l T.a0 T.df JP ?_;left;calc bC e (bo b) ?_;calc⟨.inl ⟨rfl,_,aO.of c⟩,?_⟩;left;calc iE k c (small ()) ?_;have m:=M.app (t:=6) (i:=a) b rfl c (fw.one (.bL));have d:Fr (FP g.n ad) H (upd S (ad 6 a) (.lst (k++[.bL]))):=G.upd ⟨6,a,b,rfl⟩ c trivial;calc q _ d (j.own d (m.congr SO))
abbrev fC:Stmt:=(ck (top 62)).getD 2 (.Pass ⟨0,0,0,0⟩)
def JR(C CN CR:Addr):Sp:=λvs H Q _=>∃(F:Addr->Prop) (x a:Addr) (nt:NT) (r:RS) (ad:Nat->Nat->Addr) (m:Nat),vs=[.ref x,.int m]/\bU C CN CR F H x a nt r ad/\m<nt.ms.length/\Q .bL H
theorem oA(D:ij K CR "need_machine" "Run.need_machine" fC ["self","m"])(T:Tx K mg C CN CR F FD)(d:Def P w K mg base "is_within" 2 ["thing","low","beyond"] bS):cn P w K mg base CR "need_machine" 3 ["self","m"] (JR C CN CR):=by
 have sc:aD ["self","m"] ["self","m"] (az fC):=by walk_at "s"
 symm;obtain⟨F,x,e,a,r,ad,m,rfl,b,c,q⟩:=h;have e:=hr.units;calc⟨_,(aj (aU (bR (bu (aI d hr (af (au 1) (af ai (af (aX aN rfl T.bO S' (af (bM (au 0) rfl) aa)) aa)))))) (aj cq) aK)),?_⟩;obtain⟨e,o,g,i⟩:=b.ins;have d:=(i 1 ∅ ∅).1;left;calc⟨x,CR,e,_,_,rfl,g,T.a0,T.b4,JO,_,.inl ⟨_,aO.of d,rfl⟩,?_⟩;calc fz (.int m) _ 0 _ rfl (.int _) ?_;rw[l9];rw[show inR 0 ((a.n 1:Nat):Int) (.int (m:Int))=true by simp[inR];calc c];calc pL ?_;rw[if_neg ∅];left;calc q
abbrev iO:Stmt:=(ck (top 62)).getD 4 (.Pass ⟨0,0,0,0⟩)
def Pt(C CN CR:Addr):Sp:=λvs H Q _=>∃(F:Addr->Prop) (x b:Addr) (nt:NT) (r:RS) (ad:Nat->Nat->Addr) (m:Nat) (a:V),vs=[.ref x,.int m,a]/\bU C CN CR F H x b nt r ad/\m<nt.ws.length/\Q .bL H
theorem uD(D:ij K CR "need_way" "Run.need_way" iO ["self","way","at"])(T:Tx K mg C CN CR F FD)(e:Def P w K mg base "is_within" 2 ["thing","low","beyond"] bS):cn P w K mg base CR "need_way" 3 ["self","way","at"] (Pt C CN CR):=by
 have sc:aD ["self","way","at"] ["self","way","at"] (az iO):=by walk_at "s"
 symm;obtain⟨F,x,g,b,r,ad,m,a,rfl,c,d,q⟩:=h;have g:=hr.units;calc⟨_,(aj (aU (bR (bu (aI e hr (af (au 1) (af ai (af (aX aN rfl T.bO S' (af (bM (au 0) rfl) aa)) aa)))))) (aj cq) aK)),?_⟩;obtain⟨g,o,i,j⟩:=c.ins;have e:=(j 4 ∅ ∅).1;left;calc⟨x,CR,g,_,_,rfl,i,T.a0,T.b8,NU,_,.inl ⟨_,aO.of e,rfl⟩,?_⟩;calc fz (.int m) _ 0 _ rfl (.int _) ?_;rw[l9];rw[show inR 0 ((b.n 4:Nat):Int) (.int (m:Int))=true by simp[inR];calc d];calc pL ?_;rw[if_neg ∅];left;calc q
abbrev gf:Stmt:=(ck (top 62)).getD 5 (.Pass ⟨0,0,0,0⟩)
theorem eY{a:V}{o:Nat->Addr}(h:f∉(["own_net","picks_done","states_had","words_had","words_said","letters_say","senders","workers"]:List Str)):(GC a p o).lookup f=none:=by
 simp only[List.mem_cons,List.not_mem_nil,or_false,not_or]at h;unfold GC;simp[List.lookup,beq_eq_false_iff_ne.mpr h.1,beq_eq_false_iff_ne.mpr h.2.1,beq_eq_false_iff_ne.mpr h.2.2.1,beq_eq_false_iff_ne.mpr h.2.2.2.1,beq_eq_false_iff_ne.mpr h.2.2.2.2.1,beq_eq_false_iff_ne.mpr h.2.2.2.2.2.1,beq_eq_false_iff_ne.mpr h.2.2.2.2.2.2.1,beq_eq_false_iff_ne.mpr h.2.2.2.2.2.2.2]
def DY(C CN CR:Addr):Sp:=λvs H Q _=>∃(F:Addr->Prop) (x b:Addr) (nt:NT) (r:RS) (ad:Nat->Nat->Addr) (m k:Nat) (a:V),vs=[.ref x,.int m,.int k,a]/\bU C CN CR F H x b nt r ad/\m<nt.ws.length/\k<(r.ww m).say.length/\Q .bL H
theorem pR(D:ij K CR "need_letter" "Run.need_letter" gf ["self","way","number","at"])(T:Tx K mg C CN CR F FD)(g:Def P w K mg base "is_within" 2 ["thing","low","beyond"] bS)(j:cn P w K mg base CR "need_way" 3 ["self","way","at"] (Pt C CN CR)):cn P w K mg base CR "need_letter" 4 ["self","way","number","at"] (DY C CN CR):=by
 have sc:aD ["self","way","number","at"] ["self","way","number","at"] (az gf):=by walk_at "s"
 symm;obtain⟨F,x,d,e,r,ad,m,k,a,rfl,b,c,l,q⟩:=h;have l:=hr.units;refine⟨_,(ag (bN (eS j T.a0 hr (au 0) (af (au 1) (af (au 3) aa))))
  (aj (aU (bR (bu (aI g hr (af (au 2) (af ai (af (aX aN rfl T.bO S' (af (ao l (bM (au 0) rfl) (au 1)) aa)) aa)))))) (aj cq) aK))),?_⟩
 nofun;obtain⟨j,o,g,l⟩:=b.ins;have n:=(l 4 ∅ ∅).1;obtain⟨j,o,p⟩:=b.cH.lst (t:=4) (i:=m) c rfl;ac_rfl;have l:j.length=(r.ww m).say.length:=by simpa using p.1
 left;calc gO g (eY ⋯) ?_;calc⟨_,x,d,e,r,ad,m,_,rfl,b,c,?_⟩;left;calc fN g T.a0 T.b8 NU ?_;left;calc bC n (bo c) ?_;calc bD _ (.inl ⟨_,aO.of o,rfl⟩) ?_;calc fz (.int k) _ 0 _ rfl (.int _) ?_;rw[show inR 0 ((j.length:Nat):Int) (.int (k:Int))=true by simp[inR];lia];calc pL ?_;rw[if_neg ∅];left;calc q
structure _root_.DD.RS.NV(nt:NT)(r:RS)(w k:Nat):Prop where
 lt:w<nt.ws.length
 lies:(r.ww w).cF[k]?=some none
 row:(nt.w w).2.2="row"->0<k->∃e,(r.ww w).cF[k-1]?=some (some e)
theorem Ca{n:Nat}{v:V}(h:HD H n v (nj none)):v=.bL:=by
 have h:HD H n v .bL:=h
 cases h;rfl
theorem pS{H:Hp}{n:Nat}{v:V}{e:Int×Int}(h:HD H n v (nj (some e))):∃a,v=.ref a/\H a=some (.tup [.int e.1,.int e.2]):=by
 have h:HD H n v (.tup [.int e.1,.int e.2]):=h
 cases h with
 | @tup n a b _ e l i=>
  match b,l,e,i with
  | [u,v],_,e,i=>
   have c:=i 0 u _ rfl rfl;have d:=i 1 v _ rfl rfl;obtain rfl:=c.cG;obtain rfl:=d.cG;calc⟨a,rfl,e⟩
theorem DZ{H:Hp}{n:Nat}{v:V}{e:Option (Int×Int)}(h:HD H n v (nj e)):HT H 1 v (nj e):=by
 cases e with
 |none=>rw[Ca h];calc .bL
 |some e=>obtain⟨a,rfl,b⟩:=pS h;calc cV b (.int _) (.int _)
theorem nk{vs:List V}{v:V}(h:1<=vs.length)(e:vs[vs.length-1]?=some v):ia vs (-1)=some v:=by
 obtain⟨ys,z,rfl⟩:∃ys z,vs=ys++[z]:=⟨vs.dropLast,vs.getLast (by intro a;rw[a]at h;simp at h),(List.dropLast_concat_getLast _).symm⟩
 rw[lU];simpa using e
abbrev gV:Stmt:=(ck (top 62)).getD 6 (.Pass ⟨0,0,0,0⟩)
def Pu(C CN CR:Addr):Sp:=λvs H Q _=>∃(F:Addr->Prop) (x b:Addr) (nt:NT) (r:RS) (ad:Nat->Nat->Addr) (m k:Nat) (a:V),vs=[.ref x,.int m,.int k,a]/\bU C CN CR F H x b nt r ad/\r.Ok nt/\r.NV nt m k/\∀H',av H H'->Q .bL H'
theorem rY(D:ij K CR "need_pick" "Run.need_pick" gV ["self","way","number","at"])(T:Tx K mg C CN CR F FD)(o:cn P w K mg base CN "ways" 1 ["self"] (pP CN))(Z:cn P w K mg base CR "need_letter" 4 ["self","way","number","at"] (DY C CN CR)):cn P w K mg base CR "need_pick" 5 ["self","way","number","at"] (Pu C CN CR):=by
 have sc:aD ["self","way","number","at","sort"] ["self","way","number","at"] (az gV):=by walk_at "s"
 symm;obtain⟨F,x,B,c,r,ad,m,k,a,rfl,n,R,u,q⟩:=h;have b:=hr.units;refine⟨_,(ag (bN (eS Z T.a0 hr (au 0) (af (au 1) (af (au 2) (af (au 3) aa)))))
  (ag (aU (aC nh (ao b (ao b (bM (au 0) rfl) (au 1)) (au 2)) gm (aG _)) (aj cq) aK)
  (ag (aZ (i:=4) sc.nd rfl Sort (ao b (ao b (eU o T.cO hr (bM (au 0) rfl)) (au 1)) ai))
  (aj (aU (PW.pt (pw_and (aC (aY b) (au 4) aE (aG _)) (pw_and (aC lO (au 2) ai (aG _)) (pw_and1 (aC tO (ao b (ao b (bM (au 0) rfl) (au 1)) (bc fU (au 2) ai)) gm (aG _)))))) (aj cq) aK))))),?_⟩
 nofun;obtain⟨Z,o,y,b⟩:=n.ins;obtain⟨⟨ms,wv,lv,S,o,Z,U⟩,ba⟩:=n.FT;have W:=(b 6 ∅ ∅).1;have g:=u.lt;obtain⟨v6,X,Y⟩:=n.cH.lst (t:=6) (i:=m) g rfl;have b:=u.lies;have BS:k<(r.ww m).cF.length:=(List.getElem?_eq_some_iff.mp b).1;obtain⟨v,ev,dv⟩:=Y.get (i:=k) (d:=nj none) (by rw[A',b];rfl);have:=Ca dv;subst this;ac_rfl;left;calc gO y (eY ⋯) ?_;calc⟨_,x,B,c,r,ad,m,k,a,rfl,n,g,by rw[R.lk m g];calc BS,?_⟩;left;calc fN y T.a0 T.df JP ?_;left;calc bC W (bo g) ?_;calc bC X (aA ev) ?_;left
 try rw[if_neg ∅]
 left;calc fN y T.a0 T.cP qF ?_;obtain⟨n,o,x,R,b,Z,g3,g4⟩:=id S;left;calc gO b (eN ⋯ ⋯ ⋯) ?_;calc fz B ms wv lv rfl S (λl n=>?_);have p:=av.new (.lst wv) n;have el:upd H l (.lst wv) l=some (.lst wv):=ab;generalize hG:upd H l (.lst wv)=G at *;left;have b:c.ws[m]?=some (c.w m):=aS g;have l:m<wv.length:=by have:=U.1;simp at this;lia
 have AS:=(U.2 m wv[m] (nI (c.w m)) nofun (by rw[A',b];rfl)).aJ p.aP;nofun;obtain⟨ta,l,n,o,x,I,rX,q1,q2,q3⟩:=bT AS;obtain rfl:=q1.cG;obtain rfl:=q2.cG;obtain rfl:=q3.cX;ac_rfl;calc bC el (aA (j:=m) (v:=.ref ta) (by rw[<-I];simp)) ?_;calc dJ rX (aA (j:=2) rfl) ?_;left;have FK:=p _ _ y;have J:=p _ _ W;have L:=p _ _ X;have M:=q _ p;have b:=u.row;by_cases z:(c.w m).2.2="row"
 ·by_cases c:0 < k
  ·nofun;obtain⟨e,he⟩:=b z c;obtain⟨l,N,O⟩:=Y.get (i:=k - 1) (d:=nj (some e)) (by rw[A',he];rfl);obtain⟨ae,rfl,b⟩:=pS O;ac_rfl;rw[if_pos (by simp[z]),if_pos (by simp;lia)];calc fN FK T.a0 T.df JP ?_;left;calc bC J (bo g) ?_;calc bC L (show ia v6 ((k:Int) - 1)=some (.ref ae) from by rw[show(k:Int) - 1=((k - 1:Nat):Int) by lia];calc aA N) ?_;left
   try rw[if_neg ∅]
   left;exact M
  ·rw[if_pos (by simp[z]),if_neg (by simp;lia),if_neg ∅];left;exact M
 ·rw[if_neg (by simp[z]),if_neg ∅];left;calc M
abbrev ma:Stmt:=(ck (top 62)).getD 11 (.Pass ⟨0,0,0,0⟩)
theorem Pw{H:Hp}{n:Nat}{v:V}{s:List Int×List Int}(h:HD H n v (ub s)):HT H 2 v (zf s.1 s.2):=by
 have h:HD H n v (.tup [.tup (s.1.map .int),.tup (s.2.map .int)]):=h
 cases h with
 | @tup n a c _ e l i=>
  match c,l,e,i with
  | [u,v],_,e,i=>
   have d:=i 0 u _ rfl rfl;have f:=i 1 v _ rfl rfl;have b:∀{n:Nat} {u:V} {ns:List Int},HD H n u (.tup (ns.map .int))->HT H 1 u (.tup (ns.map .int)):=λ{n u ns} h=>by
    cases h with
    | @tup n a c _ e l i=>exact pF (n:=0) (by rw[e,show c=ns.map V.int from fw.t9 ⟨l,i⟩])
   calc cV e (b d) (b f)
def Px(C CN CR:Addr):Sp:=λvs H Q _=>∃(F:Addr->Prop) (x a:Addr) (nt:NT) (r:RS) (ad:Nat->Nat->Addr) (m:Nat),vs=[.ref x,.int m]/\bU C CN CR F H x a nt r ad/\r.Ok nt/\m<nt.ms.length/\∀v,HT H 2 v (zf ((r.mm m).eB.bf ([],[])).1 ((r.mm m).eB.bf ([],[])).2)->Q v H
theorem zZ(D:ij K CR "state" "Run.state" ma ["self","m"])(T:Tx K mg C CN CR F FD)(k:cn P w K mg base CR "need_machine" 3 ["self","m"] (JR C CN CR)):cn P w K mg base CR "state" 4 ["self","m"] (Px C CN CR):=by
 have sc:aD ["self","m"] ["self","m"] (az ma):=by walk_at "s"
 symm;obtain⟨F,x,c,e,r,ad,m,rfl,b,g,a,q⟩:=h;have j:=hr.units;refine⟨_,(ag (bN (eS k T.a0 hr (au 0) (af (au 1) aa)))
  (aj (aH (ao j (ao j (bM (au 0) rfl) (au 1)) (kY gR ai))))),?_⟩
 nofun;obtain⟨k,o,j,l⟩:=b.ins;have n:=(l 1 ∅ ∅).1;obtain⟨o,p,k⟩:=b.cH.lst (t:=1) (i:=m) a rfl;have l:o.length=(r.mm m).eB.length:=by simpa using k.1
 have o:=g.xH a;obtain⟨v,u,y⟩:=k.get (i:=(r.mm m).eB.length-1) (d:=ub ((r.mm m).eB.bf ([],[]))) (by rw[A',lR (d:=([],[])) o];rfl);ac_rfl;left;calc gO j (eY ⋯) ?_;calc⟨_,x,c,e,r,ad,m,rfl,b,a,?_⟩;left;calc fN j T.a0 T.b4 JO ?_;left;calc bC n (bo a) ?_;calc bC p (nk () (by rw[l];calc u)) ?_;calc q _ (Pw (y.cv dD))
abbrev me:Stmt:=(ck (top 62)).getD 10 (.Pass ⟨0,0,0,0⟩)
def Cb(C CN CR:Addr):Sp:=λvs H Q _=>∃(F:Addr->Prop) (x a:Addr) (nt:NT) (r:RS) (ad:Nat->Nat->Addr) (m:Nat),vs=[.ref x,.int m]/\bU C CN CR F H x a nt r ad/\m<nt.ms.length/\Q (.int (((r.mm m).eB.length:Nat)-1)) H
theorem Aa(D:ij K CR "count" "Run.count" me ["self","m"])(T:Tx K mg C CN CR F FD)(e:cn P w K mg base CR "need_machine" 3 ["self","m"] (JR C CN CR)):cn P w K mg base CR "count" 4 ["self","m"] (Cb C CN CR):=by
 have sc:aD ["self","m"] ["self","m"] (az me):=by walk_at "s"
 symm;obtain⟨F,x,c,d,r,ad,m,rfl,a,b,q⟩:=h;have g:=hr.units;refine⟨_,(ag (bN (eS e T.a0 hr (au 0) (af (au 1) aa)))
  (aj (aH (bc fU (aX aN rfl T.bO S' (af (ao g (bM (au 0) rfl) (au 1)) aa)) ai)))),?_⟩
 nofun;obtain⟨j,o,e,g⟩:=a.ins;have j:=(g 1 ∅ ∅).1;obtain⟨k,l,n⟩:=a.cH.lst (t:=1) (i:=m) b rfl;ac_rfl;have g:k.length=(r.mm m).eB.length:=by simpa using n.1
 left;calc gO e (eY ⋯) ?_;calc⟨_,x,c,d,r,ad,m,rfl,a,b,?_⟩;left;calc fN e T.a0 T.b4 JO ?_;left;calc bC j (bo b) ?_;calc bD _ (.inl ⟨_,aO.of l,rfl⟩) ?_;left;rw[g];calc q
abbrev iQ:Stmt:=(ck (top 62)).getD 15 (.Pass ⟨0,0,0,0⟩)
def Cc(C CN CR:Addr):Sp:=λvs H Q _=>∃(F:Addr->Prop) (x b:Addr) (nt:NT) (r:RS) (ad:Nat->Nat->Addr),vs=[.ref x]/\bU C CN CR F H x b nt r ad/\∀l a,H l=none->fw H 4 a (r.picks.map pairD)->Q (.ref l) (upd H l (.lst a))
theorem uE(D:ij K CR "schedule" "Run.schedule" iQ ["self"])(T:Tx K mg C CN CR F FD):cn P w K mg base CR "schedule" 1 ["self"] (Cc C CN CR):=by
 have sc:aD ["self"] ["self"] (az iQ):=by walk_at "s"
 symm;obtain⟨F,x,b,c,r,ad,rfl,a,q⟩:=h;have b:=hr.units;calc⟨_,(aj (aH (cR cA rfl T.dN wV (af (bM (au 0) rfl) aa)))),?_⟩;nofun;obtain⟨c,o,b,d⟩:=a.ins;obtain⟨e,c,d⟩:=a.cH.lst (t:=0) (i:=0) (by show 0<1;decide) rfl;ac_rfl;left;calc fN b T.a0 T.cZ Xv ?_;left;calc bD _ (.inl (aO.of c)) (λl a=>?_);calc q l _ a (d.cv dD)
abbrev qH:Stmt:=(ck (top 62)).getD 8 (.Pass ⟨0,0,0,0⟩)
def xY(C CN CR:Addr):Sp:=λvs H Q _=>∃(F:Addr->Prop) (x a:Addr) (nt:NT) (r:RS) (ad:Nat->Nat->Addr),vs=[.ref x]/\bU C CN CR F H x a nt r ad/\Q (.ref a) H
theorem FV(D:ij K CR "net" "Run.net" qH ["self"])(T:Tx K mg C CN CR F FD):cn P w K mg base CR "net" 1 ["self"] (xY C CN CR):=by
 have sc:aD ["self"] ["self"] (az qH):=by walk_at "s"
 symm;obtain⟨F,x,b,c,r,ad,rfl,a,q⟩:=h;have b:=hr.units;calc⟨_,(aj (aH (bM (au 0) rfl))),?_⟩;obtain⟨c,o,b,d⟩:=a.ins;left;calc fN b T.a0 T.cP qF ?_;calc q
theorem uF{w:Nat}:∀{l:List Nat},w∈l->l[l.idxOf w]?=some w/\∀i y,i<l.idxOf w->l[i]?=some y->y≠w
 | [],h=>by simp at h
 |a::r,h=>by
  by_cases e:a=w
  ·subst e;rw[List.idxOf_cons_self];exact⟨rfl,λi y c=>absurd c (aaX i)⟩
  ·have hr:w∈r:=by
    rcases List.mem_cons.mp h with h|h
    ·exact absurd h.symm e
    ·exact h
   obtain⟨d,g⟩:=uF hr;have j:(a::r).idxOf w=r.idxOf w+1:=by rw[List.idxOf_cons,beq_eq_false_iff_ne.mpr e];rfl
   rw[j];refine⟨by simpa using d,λi y c b=>?_⟩
   cases i with
   |zero=>simp at b;subst b;calc e
   |succ i=>calc g i y () (by simpa using b)
theorem sR{nt:NT}(h:nt.Ok){w:Nat}(a:w<nt.ws.length):(nt.w w).2.1=((nt.goal w:Nat):Int):=by
 have:=h.wy a;unfold NT.goal;lia
theorem JS{nt:NT}(h:nt.Ok){w:Nat}(a:w<nt.ws.length):w∈vp nt 1 (nt.goal w):=by
 unfold vp;rw[aaY];calc⟨List.mem_range.mpr a,?_⟩;rw[decide_eq_true_eq];calc sR h a
theorem pT{nt:NT}(h:nt.Ok){w:Nat}(a:w<nt.ws.length):(vp nt 1 (nt.goal w)).idxOf w=nt.place w:=by
 unfold NT.place;rw[sR h a];rfl
theorem wH{l:List Nat}:(l.map λi=>V.int (i:Nat))=(l.map λi=>((i:Nat):Int)).map V.int:=by simp[List.map_map]
theorem NW{r:RS}{n:NT}{w k:Nat}:∀t i,i<n.n t->setC (setC (setC (setC (setC r.ct 0 0 (.l (r.picks.map pairD++[pairD ((w:Int),(k:Int))]))) 6 w (.l (((r.ww w).cF.map nj).set k (nj (some (n.ev r w)))))) 1 (n.goal w) (.l ((r.mm (n.goal w)).eB.map ub++[ub ((n.work r w k).ns,(n.work r w k).row)]))) 3 (n.goal w) (.l (((r.mm (n.goal w)).wp.bf []).map .int++(n.work r w k).words.map .int))) 2 (n.goal w) (.l (((r.mm (n.goal w)).wp.map λu=>DV.int (u.length:Nat))++[.int ((((r.mm (n.goal w)).wp.bf []++(n.work r w k).words).length:Nat))])) t i=(r.step n w k).ct t i:=by
 intro t i a;unfold setC
 match t,a with
 |0,a=>
  have:i=0:=by have:i<1:=a;lia
  subst this;simp[RS.ct,RS.step]
 |1,_=>by_cases e:i=n.goal w<;>simp[RS.ct,RS.step,e]
 |2,_=>by_cases e:i=n.goal w<;>simp[RS.ct,RS.step,e]
 |3,_=>by_cases e:i=n.goal w<;>simp[RS.ct,RS.step,e,ua]
 |4,_=>by_cases e:i=w<;>simp[RS.ct,RS.step,e]
 |5,_=>by_cases e:i=w<;>simp[RS.ct,RS.step,e]
 |6,_=>by_cases e:i=w<;>simp[RS.ct,RS.step,e,List.map_set]
 |(t+7),a=>calc absurd a (aaX i)
theorem D0{nt:NT}(d:nt.Ok)(h:r.Ok nt){w k:Nat}(f:w<nt.ws.length):∀a c,some (nt.ev r w)=some (a,c)->0<=a/\a<nt.ms.length/\1<=c/\c<=((r.step nt w k).mm a.toNat).hr.length:=by
 have b:=d.il f;intro a c e
 cases e;refine⟨(),(),?_,?_⟩
 ·have:=h.xH b;lia
 ·have d:(r.step nt w k).mm (nt.goal w)=⟨(r.mm (nt.goal w)).eB++[((nt.work r w k).ns,(nt.work r w k).row)],(r.mm (nt.goal w)).wp++[(r.mm (nt.goal w)).wp.bf []++(nt.work r w k).words],(r.mm (nt.goal w)).hr++[nt.ik r w k]⟩:=if_pos rfl;rw[show((nt.goal w:Nat):Int).toNat=nt.goal w from aao _,d,h.lh _ b];simp
theorem qI{outs:List Nat}{ev:Int×Int}:∀(ps:List (Int×Int)) {r:RS}{p:Int×Int},r.send outs ev (ps++[p])=(r.send outs ev ps).send outs ev [p]
 | [],r,p=>rfl
 |q::ps,r,p=>qI ps
structure BF(F:Addr->Prop)(n:Nat->Nat)(ad:Nat->Nat->Addr)(A B H:Hp)(ct:Nat->Nat->CO):Prop where
 b:eA F H n ad ct
 f:Fr (FP n ad) A H
 g:Fr (FP n ad) B H
section
variable {F:Addr->Prop}{n:Nat->Nat}{ad:Nat->Nat->Addr}{A B H H':Hp}{ct:Nat->Nat->CO}
theorem BF.same(h:BF F n ad A B H ct)(s:av H H'):BF F n ad A B H' ct:=⟨h.b.same s,h.f.trans s.fr,h.g.trans s.fr⟩
theorem BF.app(h:BF F n ad A B H ct){t i:Nat}(a:i<n t){d:List DV}(e:ct t i=.l d){vs:List V}(c:H (ad t i)=some (.lst vs)){us:List V}{es:List DV}(g:fw (jZ (λb=>F b\/FP n ad b) H) 4 us es):BF F n ad A B (upd H (ad t i) (.lst (vs++us))) (setC ct t i (.l (d++es))):=⟨h.b.app a e c g,h.f.upd ⟨t,i,a,rfl⟩ c trivial,h.g.upd ⟨t,i,a,rfl⟩ c trivial⟩
end
abbrev jy:Stmt:=(ck (top 62)).getD 7 (.Pass ⟨0,0,0,0⟩)
inductive JT(C CN CR:Addr)(vs:List V)(H:Hp)(Q:VK):Prop
 |mk (F:Addr->Prop) (x bg:Addr) (nt:NT) (r:RS) (ad:Nat->Nat->Addr) (wy k:Nat) (a:V) (h0:vs=[.ref x,.int (wy:Nat),.int (k:Nat),a]) (h1:bU C CN CR F H x bg nt r ad) (h2:FS F H) (h3:r.Ok nt) (h4:r.NV nt wy k) (h5:r.picks.length<=400) (h6:∀t H',Fr (FP nt.n ad) H H'->bU C CN CR F H' x bg nt (r.pick nt wy k) ad->HT H' 1 t (pairD (nt.ev r wy))->Q t H'):JT C CN CR vs H Q
def xZ(C CN CR:Addr):Sp:=λvs H Q _=>JT C CN CR vs H Q
theorem vv(D:ij K CR "pick_at" "Run.pick_at" jy ["self","way","number","at"])(T:Tx K mg C CN CR F FD)(gy:cn P w K mg base C "worked" 3 ["self","state","way","said"] (wG K C))(bE:cn P w K mg base CN "machines" 1 ["self"] (gc CN))(di:cn P w K mg base CN "ways" 1 ["self"] (pP CN))(jz:cn P w K mg base CN "ways_in" 4 ["self","m"] (uA C CN))(iR:cn P w K mg base CN "ways_out" 4 ["self","m"] (rH C CN))(gW:cn P w K mg base CR "need_pick" 5 ["self","way","number","at"] (Pu C CN CR))(c9:cn P w K mg base CR "put_letter" 1 ["self","way","said","sender"] (uC C CN CR))(mf:cn P w K mg base CR "state" 4 ["self","m"] (Px C CN CR)):cn P w K mg base CR "pick_at" 6 ["self","way","number","at"] (xZ C CN CR):=by
 have sc:aD ["self","way","number","at","m","place","machine","state","sent","words","event","ways_out","j","said"] ["self","way","number","at"] (az jy):=by walk_at "s"
 symm;obtain⟨F,x,N,m,r,ad,B,k,a,rfl,J,j0,L,hc,o,q⟩:=h;have o:=hr.units;refine⟨_,(ag (bN (eS gW T.a0 hr (au 0) (af (au 1) (af (au 2) (af (au 3) aa)))))
  (ag (aZ (i:=4) sc.nd rfl Sort (ao o (ao o (eU di T.cO hr (bM (au 0) rfl)) (au 1)) ai))
  (ag (aZ (i:=5) sc.nd rfl Sort (dB o7 PySem.F.slot_list_index PySem.F.type_list_index wd (eS jz T.cO hr (bM (au 0) rfl) (af (au 4) aa)) (af (au 1) aa)))
  (ag (aZ (i:=6) sc.nd rfl Sort (ao o (eU bE T.cO hr (bM (au 0) rfl)) (au 4)))
  (ag (dy (eS gy T.cN hr (au 6) (af (eS mf T.a0 hr (au 0) (af (au 4) aa)) (af (au 5) (af (ao o (ao o (bM (au 0) rfl) (au 1)) (au 2)) aa)))) (uc (i:=7) (j:=8) (l:=9) rfl sc.nd rfl rfl rfl Sort Sort Sort))
  (ag (aZ (i:=10) sc.nd rfl Sort (bG (af (au 4) (af (aX aN rfl T.bO S' (af (ao o (bM (au 0) rfl) (au 4)) aa)) aa))))
  (ag (bN (dB o7 rB rC bW (bM (au 0) rfl) (af (bG (af (au 1) (af (au 2) aa))) aa)))
  (ag (dy (au 10) (iC (ao o (bM (au 0) rfl) (au 1)) (au 2) dH))
  (ag (bN (dB o7 rB rC bW (ao o (bM (au 0) rfl) (au 4)) (af (au 7) aa)))
  (ag (bN (dB o7 PySem.F.slot_list_extend PySem.F.type_list_extend Nb (ao o (bM (au 0) rfl) (au 4)) (af (au 9) aa)))
  (ag (bN (dB o7 rB rC bW (ao o (bM (au 0) rfl) (au 4)) (af (aX aN rfl T.bO S' (af (ao o (bM (au 0) rfl) (au 4)) aa)) aa)))
  (ag (aZ (i:=11) sc.nd rfl Sort (eS iR T.cO hr (bM (au 0) rfl) (af (au 4) aa)))
  (ag (dC PassesOwn.never rfl (bI (pv 8)) (dW (i:=12) (j:=13) rfl sc.nd rfl rfl Sort Sort)
  (aj (aU (aC fc (au 12) (aX aN rfl T.bO S' (af (au 11) aa)) (aG _)) (aj (bN (eS c9 T.a0 hr (au 0) (af (ao o (au 11) (au 12)) (af (au 13) (af (au 10) aa)))))) aK)))
  (aj (aH (au 10)))))))))))))))),?_⟩
 nofun;obtain⟨dx,o,M,ho⟩:=J.ins;have hn:=J.FT;have U:=hn.ok;obtain⟨⟨ms,wv,lv,hf,o,xX,FU⟩,_⟩:=id hn;obtain⟨o,a1,b1,c1,g1,g2,g3,g4⟩:=id hf;ac_rfl;left;calc gO M (eY ⋯) ?_;calc⟨_,x,N,m,r,ad,B,k,a,rfl,J,L,hc,λH1 o=>?_⟩;nofun;have I:=hc.lt;have G:=U.il I;obtain⟨wk1,wk2,wk3,wk4⟩:=sM U L I k;ac_rfl;left;calc fN (o _ _ M) T.a0 T.cP qF ?_;left;calc gO (o _ _ g1) (eN ⋯ ⋯ ⋯) ?_;calc fz N ms wv lv rfl (hf.same o) (λl hl=>?_);have s2:av H (upd H1 l (.lst wv)):=o.trans (av.new _ hl);have el:upd H1 l (.lst wv) l=some (.lst wv):=ab;nofun;generalize Jy:upd H1 l (.lst wv)=H2 at *;have o:m.ws[B]?=some (m.w B):=aS I;have kg:B<wv.length:=by have:=FU.1;simp at this;lia
 have AS:=(FU.2 B wv[B] (nI (m.w B)) nofun (by rw[A',o];rfl)).aJ s2.aP;obtain⟨ta,u1,u2,u3,kk,eta,rX,q1,q2,q3⟩:=bT AS;obtain rfl:=q1.cG;obtain rfl:=q2.cG;obtain rfl:=q3.cX;ac_rfl;left;calc bC el (aA (j:=B) (v:=.ref ta) (by rw[<-eta];simp)) ?_;calc dJ rX (show ia _ 1=some (.int ((m.goal B:Nat):Int)) from by rw[<-sR U I];calc aA (j:=1) rfl) ?_;left;calc fN (s2 _ _ M) T.a0 T.cP qF ?_;left;calc gO (s2 _ _ g1) (eN ⋯ ⋯ ⋯) ?_;calc⟨N,m,m.goal B,rfl,hn.fr (Z:=λ_=>False) s2.fr,G,λl2 H3 Mf o GD=>?_⟩;have s3:=s2.trans Mf;calc⟨.inl ⟨rfl,_,aO.of GD⟩,?_⟩;obtain⟨o,ix2⟩:=uF (JS U I);refine⟨l2,_,m.place B,B,rfl,rfl,by rw[GD,wH],?_,?_,?_⟩
 ·rw[A',<-pT U I,o];rfl
 ·intro i y hi hy;rw[A']at hy;obtain⟨z,hz,rfl⟩:=Option.map_eq_some_iff.mp hy;have:=ix2 i z (by rw[pT U I];calc hi) hz;lia
 left;calc fN (s3 _ _ M) T.a0 T.cP qF ?_;left;calc gO (s3 _ _ g1) (eN ⋯ ⋯ ⋯) ?_;calc fz N ms wv lv rfl (hf.same s3) (λl4 o=>?_);have W:av H (upd H3 l4 (.lst (ms.map V.ref))):=s3.trans (av.new _ o);have XA:upd H3 l4 (.lst (ms.map V.ref)) l4=some (.lst (ms.map V.ref)):=ab;generalize hG4:upd H3 l4 (.lst (ms.map V.ref))=H4 at *;have Pp:m.goal B<ms.length:=by lia
 have o:m.ms[m.goal B]?=some (m.ms.getD (m.goal B) default):=aS G;have D7:=(xX (m.goal B) ms[m.goal B] _ (cD Pp) o).same W;have NX:=U.gd G;left;calc bC XA (aA (j:=m.goal B) (v:=.ref ms[m.goal B]) (by rw[A',cD Pp];rfl)) ?_;left;nofun;generalize ms[m.goal B]=mch at *;obtain⟨dm,o,y,Gx,SH,hm3⟩:=id D7;ac_rfl;calc gO Gx (DH ⋯ ⋯ ⋯) ?_;calc gO (W _ _ M) (eY ⋯) ?_;calc⟨_,x,N,m,r,ad,m.goal B,rfl,J.same W,L,G,λsv JQ=>?_⟩;have l4':=W _ _ (ho 4 ∅ ∅).1;nofun;obtain⟨o,e4,d4⟩:=(J.cH.same W).lst (t:=4) (i:=B) I rfl;have z4:=d4.t9;subst z4;ac_rfl;have BS:k<(r.ww B).say.length:=by rw[L.lk B I];exact(List.getElem?_eq_some_iff.mp hc.lies).1
 left;calc fN (W _ _ M) T.a0 T.b8 NU ?_;left;calc bC l4' (bo I) ?_;calc bC e4 (aA (j:=k) (v:=.int ((r.ww B).say.getD k 0)) (by rw[A',aS (d:=0) BS];rfl)) ?_;have o:=L.last G;calc⟨mch,sv,_,_,_,_,_,_,_,_,rfl,D7,zh.of JQ,NX.m2,NX.m12,o.bn,o.lr,NX.d24,by rw[o.ln];calc NX.ok,λy Y D8 SQ=>?_⟩;have s5:=W.trans D8;nofun;obtain⟨rp,Mg,UU,Py,zs,rfl,o,Cd,SR,lu,Ce,fl1,adF,y⟩:=SQ.ex
 replace Cd:HT Y 2 Mg (zf (m.work r B k).ns (m.work r B k).row):=Cd
 replace lu:SL Y zs (m.work r B k).cT:=lu
 replace Ce:Y Py=some (.lst ((m.work r B k).words.map V.int)):=Ce
 ac_rfl;calc un3 (bF.of o) ?_;left;calc fN (s5 _ _ M) T.a0 T.b4 JO ?_;have b5:=J.cH.same s5;have i0:0<m.n 0:=by show 0<1;decide
 obtain⟨o,y,d1⟩:=b5.lst (t:=1) (i:=m.goal B) G rfl;have z1:o.length=(r.mm (m.goal B)).eB.length:=by simpa using d1.1
 left;calc bC (s5 _ _ (ho 1 ∅ ∅).1) (bo G) ?_;calc iE _ (.inl ⟨_,aO.of y,rfl⟩) cM (λev o=>?_);rw[z1];have s6:av H (upd Y ev (.tup [.int ((m.goal B:Nat):Int),.int (((r.mm (m.goal B)).eB.length:Nat):Int)])):=s5.trans (av.new _ o);have FW:av Y (upd Y ev (.tup [.int ((m.goal B:Nat):Int),.int (((r.mm (m.goal B)).eB.length:Nat):Int)])):=av.new _ o;have adH:HT (upd Y ev (.tup [.int ((m.goal B:Nat):Int),.int (((r.mm (m.goal B)).eB.length:Nat):Int)])) 1 (.ref ev) (pairD (m.ev r B)):=cV (n:=0) ab (.int _) (.int _);generalize hG6:upd Y ev (.tup [.int ((m.goal B:Nat):Int),.int (((r.mm (m.goal B)).eB.length:Nat):Int)])=H6 at *;have b6:=J.cH.same s6;left;calc fN (s6 _ _ M) T.a0 T.cZ Xv ?_;obtain⟨v0,e0,d0⟩:=b6.lst (t:=0) (i:=0) i0 rfl;have o:v0.length=r.picks.length:=by simpa using d0.1
 left;calc gp (.inl ⟨rfl,_,aO.of e0⟩) cM (λtp o=>?_);left;have s7:av H (upd H6 tp (.tup [.int ((B:Nat):Int),.int ((k:Nat):Int)])):=s6.trans (av.new _ o);have rJ:av H6 (upd H6 tp (.tup [.int ((B:Nat):Int),.int ((k:Nat):Int)])):=av.new _ o;have adI:HT (upd H6 tp (.tup [.int ((B:Nat):Int),.int ((k:Nat):Int)])) 1 (.ref tp) (pairD ((B:Int),(k:Int))):=cV (n:=0) ab (.int _) (.int _);generalize UW:upd H6 tp (.tup [.int ((B:Nat):Int),.int ((k:Nat):Int)])=H7 at *;have b7:=J.cH.same s7;have FS7:FS F H7:=j0.fr (Z:=λ_=>False) s7.fr (λ_ _ h=>h);have e07:=rJ _ _ e0;have Pz:=FW.trans rJ;calc iE v0 e07 (small ()) ?_;have S:=(BF.mk b7 s7.fr (Fr.refl:Fr (FP m.n ad) H7 H7)).app (t:=0) (i:=0) i0 rfl e07 (fw.one ((b7.ht FS7 adI).mono ∅));generalize hG8:upd H7 (ad 0 0) (.lst (v0++[.ref tp]))=H8 at *;have y:=ho 6 ∅ ∅;have o1:=ho 1 ∅ ∅;have o2:=ho 2 ∅ ∅;have o3:=ho 3 ∅ ∅;left;calc fN (S.f.k8 M id) T.a0 T.df JP ?_;obtain⟨v6,e6,d6⟩:=S.b.lst (t:=6) (i:=B) I rfl;have Y:v6.length=(r.ww B).cF.length:=by simpa using d6.1
 have o:k<v6.length:=by rw[Y,<-L.lk B I];exact BS
 left;calc bC (S.f.at y.1 y.2.2) (bo I) ?_;left;calc cW v6 k e6 (l7 o) ?_;have XB:=adH.aJ rJ.aP;have w9:=BF.mk (S.b.set (t:=6) (i:=B) I rfl e6 (k:=k) ((S.b.ht (j0.fr S.f J.cH.uB) (XB.aJ S.g.aP)).mono ∅)) (S.f.upd ⟨6,B,I,rfl⟩ e6 trivial) (S.g.upd ⟨6,B,I,rfl⟩ e6 trivial);generalize hG9:upd H8 (ad 6 B) (.lst (v6.set k (.ref ev)))=H9 at *;left;calc fN (w9.f.k8 M id) T.a0 T.b4 JO ?_;obtain⟨v19,o,d19⟩:=w9.b.lst (t:=1) (i:=m.goal B) G rfl;have y:v19.length=(r.mm (m.goal B)).eB.length:=by simpa using d19.1
 have y:=L.bp _ G;left;calc bC (w9.f.at o1.1 o1.2.2) (bo G) ?_;calc⟨.inl ⟨rfl,_,aO.of o⟩,?_⟩;left;calc iE v19 o (small ()) ?_;have HG:=w9.app (t:=1) (i:=m.goal B) G rfl o (fw.one (show HD _ 4 Mg (ub ((m.work r B k).ns,(m.work r B k).row)) from(w9.b.ht (j0.fr w9.f J.cH.uB) ((Cd.aJ Pz.aP).aJ w9.g.aP)).mono ∅));have JU:¬FP m.n ad UU:=λz=>by
  obtain⟨u,e,_⟩:=(J.cH.same W).fp z;rw[fl1]at e;cases e
 have SU:¬FP m.n ad Py:=λz=>by
  obtain⟨u,e,_⟩:=(J.cH.same W).fp z;rw[adF]at e;cases e
 generalize XC:upd H9 (ad 1 (m.goal B)) (.lst (v19++[Mg]))=FX at *;left;calc fN (HG.f.k8 M id) T.a0 T.c8 Xw ?_;obtain⟨v3,o,d3⟩:=HG.b.lst (t:=3) (i:=m.goal B) G rfl;have y:=d3.t9;have W:=L.bw _ G _ (fH (l:=(r.mm (m.goal B)).wp) (d:=[]) (by rw[<-L.lw _ G];calc L.xH G));have l:v3.length=((r.mm (m.goal B)).wp.bf []).length:=by rw[y];simp
 left;calc bC (HG.f.at o3.1 o3.2.2) (bo G) ?_;calc⟨.inl ⟨rfl,_,aO.of o⟩,?_⟩;left;calc ue v3 _ o (HG.g.at (Pz _ _ Ce) SU) (J' (small (by simp;lia))) ?_;have v9:=HG.app (t:=3) (i:=m.goal B) G rfl o (fw.ints (m.work r B k).words);have adM:upd FX (ad 3 (m.goal B)) (.lst (v3++(m.work r B k).words.map V.int)) (ad 3 (m.goal B))=some (.lst (v3++(m.work r B k).words.map V.int)):=ab;generalize XD:upd FX (ad 3 (m.goal B)) (.lst (v3++(m.work r B k).words.map V.int))=XE at *;left;calc fN (v9.f.k8 M id) T.a0 T.dZ ads ?_;obtain⟨v2,e2,d2⟩:=v9.b.lst (t:=2) (i:=m.goal B) G rfl;have l:v2.length=(r.mm (m.goal B)).wp.length:=by simpa using d2.1
 have l:=L.lw _ G;left;calc bC (v9.f.at o2.1 o2.2.2) (bo G) ?_;calc⟨.inl ⟨rfl,_,aO.of e2⟩,?_⟩;left;calc fN (v9.f.k8 M id) T.a0 T.c8 Xw ?_;left;calc bC (v9.f.at o3.1 o3.2.2) (bo G) ?_;calc bD _ (.inl ⟨_,aO.of adM,rfl⟩) ?_;left;calc iE v2 e2 (small ()) ?_;rw[show(v3++(m.work r B k).words.map V.int).length=((r.mm (m.goal B)).wp.bf []++(m.work r B k).words).length by simp;lia];have AU:=v9.app (t:=2) (i:=m.goal B) G rfl e2 (fw.one (.int (((r.mm (m.goal B)).wp.bf []++(m.work r B k).words).length:Nat)));generalize XF:upd XE (ad 2 (m.goal B)) (.lst (v2++[.int (((r.mm (m.goal B)).wp.bf []++(m.work r B k).words).length:Nat)]))=UX at *;have XG:bU C CN CR F UX x N m (r.step m B k) ad:=J.own AU.f (AU.b.congr NW);have XH:SL UX zs (m.work r B k).cT:=(lu.aJ Pz.aP).aJ AU.g.aP;have pO:=AU.g.at (Pz _ _ SR) JU;have XI:=XB.aJ AU.g.aP;have X:=AU.f;clear b5 b6 b7 S w9 HG v9 AU d0 d1 d2 d3 d4 d6 d19 hG8 hG9 XC XD XF;left;calc fN (X.k8 M id) T.a0 T.cP qF ?_;left;calc gO (X.k8 g1 id) (eN ⋯ ⋯ ⋯) ?_;calc⟨N,m,m.goal B,rfl,hn.fr X,G,λlo SV lx flo UY=>?_⟩;have nlo:¬FP m.n ad lo:=λz=>by
  obtain⟨u,e,_⟩:=XG.cH.fp z;rw[flo]at e;cases e
 left;have o:=XG.same lx;have l:=lx _ _ pO;have PB:=XI.aJ lx.aP;have PD:=XH.aJ lx.aP;have nr:zs.length=(m.work r B k).cT.length:=PD.1;have f13:=X.trans lx.fr;have SW:=L.step U I (k:=k);have SX:∀a c,some (m.ev r B)=some (a,c)->0<=a/\a<m.ms.length/\1<=c/\c<=((r.step m B k).mm a.toNat).hr.length:=D0 U L I;refine⟨_,rfl,.inl ⟨⟨_,aO.of l⟩,d9 (K:=K) (xs:=zs) (λi σ H'=>(∃SY S0,σ=[some (V.ref x),some (V.int ((B:Nat):Int)),some (V.int ((k:Nat):Int)),some a,some (V.int ((m.goal B:Nat):Int)),some (V.int ((m.place B:Nat):Int)),some (V.ref mch),some Mg,some (V.ref UU),some (V.ref Py),some (V.ref ev),some (V.ref lo),SY,S0])/\Fr (FP m.n ad) SV H'/\bU C CN CR F H' x N m ((r.step m B k).send (m.outs (m.goal B)) (m.ev r B) ((m.work r B k).cT.take i)) ad) ?_ ?_ ?_ ?_⟩⟩
 ·exact⟨⟨_,_,rfl⟩,Fr.refl,o⟩
 ·rintro i σ H' hi ⟨_,O,_⟩;exact aO.of (O.at l JU)
 ·intro i z σ H' hz fO;nofun;obtain⟨⟨SY,S0,rfl⟩,O,vz⟩:=fO;have l:i < zs.length:=(List.getElem?_eq_some_iff.mp hz).1;have l:i < (m.work r B k).cT.length:=by lia
  have o:(m.work r B k).cT[i]?=some (m.work r B k).cT[i]:=cD l;have AV:=wk4 _ (aaw l);have S8:=(PD.2 i z _ hz o).aJ O.aP;have NY:(r.step m B k).send (m.outs (m.goal B)) (m.ev r B) ((m.work r B k).cT.take (i+1))=((r.step m B k).send (m.outs (m.goal B)) (m.ev r B) ((m.work r B k).cT.take i)).send (m.outs (m.goal B)) (m.ev r B) [(m.work r B k).cT[i]]:=by
   rw[aaU,o];exact qI _
  generalize (m.work r B k).cT[i]=p at *;obtain⟨R,px⟩:=p;obtain⟨tz,u1,u2,kz,rfl,Dh,y1,y2⟩:=dM S8;obtain rfl:=y1.cG;obtain rfl:=y2.cG;ac_rfl;calc rF (bF.of Dh) ?_;have o:=O.at UY nlo;left;calc bD _ (.inl ⟨_,aO.of o,rfl⟩) ?_;left;have l:((vp m 0 (m.goal B)).map λi=>V.int ((i:Nat):Int)).length=(m.outs (m.goal B)).length:=by rw[M'];rfl
  rw[l];have u:R.toNat=R.toNat:=rfl;have y:((R.toNat:Nat):Int)=R:=aaZ AV;by_cases u:R<((m.outs (m.goal B)).length:Nat)
  ·rw[if_pos (by simpa using u)];have l:R.toNat < (m.outs (m.goal B)).length:=by lia
   have z:(m.outs (m.goal B)).getD R.toNat 0<m.ws.length:=by
    have:=getD_mem (d:=0) l;unfold NT.outs at this ⊢;rw[aaY,abb]at this;exact this.1
   left;obtain⟨I,L,G,M⟩:=vz.ins;calc gO G (eY ⋯) ?_;refine bC o (show ia _ R=some (.int (((m.outs (m.goal B)).getD R.toNat 0:Nat):Int)) from by
    rw[<-y];calc aA ?_;rw[A'];show Option.map _ (m.outs (m.goal B))[_]?=_;rw[aao,aS (d:=0) l];rfl) ?_
   have y:=(RS.uZ.send (outs:=m.outs (m.goal B)) (ev:=m.ev r B) ((m.work r B k).cT.take i) SW SX).mono (show _<=19999 by simp;lia);calc⟨F,x,N,m,_,ad,_,px,.ref ev,some (m.ev r B),rfl,vz,j0.fr (f13.trans O) J.cH.uB,z,(PB.aJ O.aP).mono ∅,y,λo G I=>?_⟩;left;calc gp ⟨_,_,rfl,rfl⟩ (O.trans G) ?_;rw[NY];show bU C CN CR F o x N m (if R.toNat<_ then _ else _) ad;rw[if_pos l];exact I
  ·rw[if_neg (by simpa using u)];left;calc gp ⟨_,_,rfl,rfl⟩ O ?_;rw[NY];show bU C CN CR F H' x N m (if R.toNat<_ then _ else _) ad;rw[if_neg ()];exact vz
 ·intro σ H' fP;obtain⟨⟨SY,S0,rfl⟩,O,vz⟩:=fP;left;rw[nr,aat]at vz;calc q _ _ (f13.trans O) vz (PB.aJ O.aP)
def _root_.DD.RS.Mh(r:RS)(w:Nat):List Nat:=(List.range (r.ww w).say.length).filter λk=>((r.ww w).cF.getD k none).isNone
theorem jf{p:Nat->Bool}{i:Nat}:(List.range (i+1)).filter p=(List.range i).filter p++(if p i=true then[i] else[]):=by
 rw[List.range_succ,aaR];congr 1
 cases h:p i<;>simp[h]
theorem JX(c:∀b,Z b->∃o,H b=some o/\soft o){m:Nat}{x:V}{d:DV}(g:HT H m x d):HD (jZ Z H) m x d:=by
 calc HT.hd (g.aJ λb h e=>?_);rw[gU (λz=>by
  obtain⟨o,a,f⟩:=c b z;rw[e] at a;cases a;calc f)]
 calc e
structure uH(H0 H':Hp)(D:Addr)(as:List Addr)(n:Nat)(ct:Nat->Hp->List V->Prop):Prop where
 len:as.length=n
 nd:as.Nodup
 new:∀a∈as,H0 a=none/\a≠D
 ins:∀(j:Nat) a,as[j]?=some a->∃vs,H' a=some (.lst vs)/\ct j H' vs
theorem uH.nil{ct:Nat->Hp->List V->Prop}:uH H0 H' D [] 0 ct:=⟨rfl,List.nodup_nil,λa h=>by simp at h,λj a h=>by simp at h⟩
theorem uH.snoc{n:Nat}{ct:Nat->Hp->List V->Prop}(h:uH H0 H1 D as n ct)(p:av H0 H1)(q:H1 D≠none)(g:H1 a=none){vs:List V}(e:H' a=some (.lst vs))(c:ct n H' vs)(s:∀b o,b≠D->H1 b=some o->H' b=some o)(f:∀j vs,ct j H1 vs->ct j H' vs):uH H0 H' D (as++[a]) (n+1) ct:=by
 refine⟨by simp[h.len],?_,λb d=>?_,λj b d=>?_⟩
 ·rw[List.nodup_append];calc gp h.nd nofun (λb d c l=>?_);simp at l;subst l;intro z;subst z;obtain⟨j,k⟩:=List.getElem?_of_mem d;obtain⟨vs,i,_⟩:=h.ins j b k;rw[g]at i;cases i
 ·rcases List.mem_append.mp d with d | d
  ·exact h.new b d
  ·simp at d;subst d;refine⟨?_,λz=>q (z ▸ g)⟩
   cases r:H0 b with
   |none=>rfl
   |some o=>rw[p _ _ r]at g;cases g
 ·by_cases k:j < as.length
  ·rw[W' k]at d;obtain⟨vs,i,g⟩:=h.ins j b d;exact⟨vs,s _ _ (h.new b (aan d)).2 i,f _ _ g⟩
  ·rw[V' ()] at d
   cases m:j-as.length with
   |zero=>
    rw[m]at d;simp at d;subst d;have:j=n:=by have:=h.len;lia
    subst this;calc⟨vs,e,c⟩
   |succ k=>rw[m]at d;simp at d
theorem uH.keep{n:Nat}{ct:Nat->Hp->List V->Prop}(h:uH H0 H1 D as n ct)(s:∀(b:Addr) (vs:List V),H1 b=some (.lst vs)->H' b=some (.lst vs))(c:∀j vs,ct j H1 vs->ct j H' vs):uH H0 H' D as n ct:=
 ⟨h.len,h.nd,h.new,λj a e=>by
  obtain⟨vs,d,f⟩:=h.ins j a e;calc⟨vs,s _ _ d,c _ _ f⟩⟩
theorem mh{K:W.Frag}{ix:List (Option Nat)}{o:TE}{l:Addr}{xs vs:List V}(t:H l=some (.lst xs))(u:H D=none)(F:xs.length<=10)(w:∀x,Ext (tJ ix σ) ((tJ ix σ).set 0 (some x)))(d:∀g k (R:VK),(∀p,k p=none->R (.ref p) (upd k p (.lst vs)))->o g k R)(q:∀as H1,H1 D=some (.lst (as.map V.ref))->av H H1->uH H H1 D as xs.length (λ_ _ ws=>ws=vs)->Q (.ref D) H1):lM ix (rD K l) (dE 0) fq o σ H Q D:=by
 refine aV (n:=xs.length) (λi ys H'=>∃as:List Addr,ys=as.map V.ref/\av H H'/\uH H H' D as i (λ_ _ ws=>ws=vs)) (J' (small ())) ⟨[],rfl,av.new _ u,uH.nil⟩ ?_ ?_ ?_ ?_
 ·rintro i ys H' m ⟨_,_,a,_⟩;exact⟨_,xs[i],aO.of (a _ _ t),cD m⟩
 ·rintro ys H' ⟨_,_,a,_⟩;exact⟨_,aO.of (a _ _ t),F' _⟩
 ·intro i ys H' m c v y z G B;obtain⟨as,rfl,a,r⟩:=y;obtain⟨rfl,g⟩:=B;calc⟨w z,?_⟩;simp only[fq,if_true];calc d _ _ _ λp g=>?_;have d:=av.new (.lst vs) g;have i:p≠D:=Ne.symm (aq c g);refine bJ (d _ _ c) v m (J' (small ())) ⟨as++[p],nofun,λb o e=>?_,?_⟩
  ·rw[ay (aq e u)];exact d _ _ (a _ _ e)
  ·refine r.snoc a (by rw[c];simp) g (vs:=vs) ?_ rfl (λb o a e=>?_) (λj vs e=>e)
   ·rw[ay i];exact ab
   ·rw[ay a];exact d _ _ e
 ·intro ys H1 c v C;obtain⟨as,rfl,a,r⟩:=C;calc q as H1 c a r
abbrev oB:Stmt:=(ck (top 62)).getD 9 (.Pass ⟨0,0,0,0⟩)
inductive PF(C CN CR:Addr)(vs:List V)(H:Hp)(Q:VK):Prop
 |mk (F:Addr->Prop) (x bg:Addr) (nt:NT) (r:RS) (ad:Nat->Nat->Addr) (wy k:Nat) (h0:vs=[.ref x,.int (wy:Nat),.int (k:Nat)]) (h1:bU C CN CR F H x bg nt r ad) (h2:FS F H) (h3:r.Ok nt) (h4:r.NV nt wy k) (h5:r.picks.length<=400) (h6:∀t H',Fr (FP nt.n ad) H H'->bU C CN CR F H' x bg nt (r.pick nt wy k) ad->HT H' 1 t (pairD (nt.ev r wy))->Q t H'):PF C CN CR vs H Q
def JY(C CN CR:Addr):Sp:=λvs H Q _=>PF C CN CR vs H Q
theorem Cg(D:ij K CR "pick" "Run.pick" oB ["self","way","number"])(T:Tx K mg C CN CR F FD)(l:cn P w K mg base CR "pick_at" 6 ["self","way","number","at"] (xZ C CN CR)):cn P w K mg base CR "pick" 7 ["self","way","number"] (JY C CN CR):=by
 have sc:aD ["self","way","number"] ["self","way","number"] (az oB):=by walk_at "s"
 symm;obtain⟨F,x,b,c,r,ad,d,k,rfl,a,e,g,i,j,q⟩:=h;have m:=hr.units;calc⟨_,(aj (aH (eS l T.a0 hr (au 0) (af (au 1) (af (au 2) (af ai aa)))))),?_⟩;obtain⟨n,o,m,p⟩:=a.ins;left;calc gO m (eY ⋯) ?_;calc⟨F,x,b,c,r,ad,d,k,_,rfl,a,e,g,i,j,q⟩
abbrev jA:Stmt:=(ck (top 62)).getD 17 (.Pass ⟨0,0,0,0⟩)
def Ab(C CN CR:Addr):Sp:=λvs H Q _=>∃(F:Addr->Prop) (x b:Addr) (nt:NT) (r:RS) (ad:Nat->Nat->Addr) (a i:Nat),vs=[.ref x,.int a,.int i]/\bU C CN CR F H x b nt r ad/\r.Ok nt/\a<nt.ws.length/\i<(r.ww a).say.length/\∀v,HT H 1 v (nj ((r.ww a).snd.getD i none))->Q v H
theorem vA(D:ij K CR "sent_by" "Run.sent_by" jA ["self","way","number"])(T:Tx K mg C CN CR F FD)(n:cn P w K mg base CR "need_letter" 4 ["self","way","number","at"] (DY C CN CR)):cn P w K mg base CR "sent_by" 5 ["self","way","number"] (Ab C CN CR):=by
 have sc:aD ["self","way","number"] ["self","way","number"] (az jA):=by walk_at "s"
 symm;obtain⟨F,x,j,k,r,ad,a,i,rfl,c,m,b,g,q⟩:=h;have l:=hr.units;refine⟨_,(ag (bN (eS n T.a0 hr (au 0) (af (au 1) (af (au 2) (af ai aa)))))
  (aj (aH (ao l (ao l (bM (au 0) rfl) (au 1)) (au 2))))),?_⟩
 obtain⟨l,o,n,p⟩:=c.ins;left;calc gO n (eY ⋯) ?_;calc⟨_,x,j,k,r,ad,a,i,_,rfl,c,b,g,?_⟩;left;have l:=(p 5 ∅ ∅).1;nofun;obtain⟨v,e,d⟩:=c.cH.lst (t:=5) (i:=a) b rfl;have c:i<(r.ww a).snd.length:=by rw[<-m.ls a b];exact g
 obtain⟨u,g,j⟩:=d.get (i:=i) (d:=nj ((r.ww a).snd.getD i none)) (by rw[A',aS (d:=none) c];rfl);ac_rfl;calc fN n T.a0 T.eV Xx ?_;left;calc bC l (bo b) ?_;calc bC e (aA g) ?_;calc q _ (DZ (j.cv dD))
abbrev gX:Stmt:=(ck (top 62)).getD 18 (.Pass ⟨0,0,0,0⟩)
def x6(C CN CR:Addr):Sp:=λvs H Q _=>∃(F:Addr->Prop) (x b:Addr) (nt:NT) (r:RS) (ad:Nat->Nat->Addr) (a i:Nat),vs=[.ref x,.int a,.int i]/\bU C CN CR F H x b nt r ad/\r.Ok nt/\a<nt.ws.length/\i<(r.ww a).say.length/\∀v,HT H 1 v (nj ((r.ww a).cF.getD i none))->Q v H
theorem rZ(D:ij K CR "worked_by" "Run.worked_by" gX ["self","way","number"])(T:Tx K mg C CN CR F FD)(n:cn P w K mg base CR "need_letter" 4 ["self","way","number","at"] (DY C CN CR)):cn P w K mg base CR "worked_by" 5 ["self","way","number"] (x6 C CN CR):=by
 have sc:aD ["self","way","number"] ["self","way","number"] (az gX):=by walk_at "s"
 symm;obtain⟨F,x,j,k,r,ad,a,i,rfl,c,m,b,g,q⟩:=h;have l:=hr.units;refine⟨_,(ag (bN (eS n T.a0 hr (au 0) (af (au 1) (af (au 2) (af ai aa)))))
  (aj (aH (ao l (ao l (bM (au 0) rfl) (au 1)) (au 2))))),?_⟩
 obtain⟨l,o,n,p⟩:=c.ins;left;calc gO n (eY ⋯) ?_;calc⟨_,x,j,k,r,ad,a,i,_,rfl,c,b,g,?_⟩;left;have l:=(p 6 ∅ ∅).1;nofun;obtain⟨v,e,d⟩:=c.cH.lst (t:=6) (i:=a) b rfl;have c:i<(r.ww a).cF.length:=by rw[<-m.lk a b];exact g
 obtain⟨u,g,j⟩:=d.get (i:=i) (d:=nj ((r.ww a).cF.getD i none)) (by rw[A',aS (d:=none) c];rfl);ac_rfl;calc fN n T.a0 T.df JP ?_;left;calc bC l (bo b) ?_;calc bC e (aA g) ?_;calc q _ (DZ (j.cv dD))
theorem XO{CR x a:Addr}{C:Hp}{f:List (Str×V)}(c:List (Str×V))(s:av C H)(d:H x=some (.ins CR a f)):∃G,upd H x (.ins CR a c)=G/\G x=some (.ins CR a c)/\(∀b o,b≠x->C b=some o->G b=some o)/\(∀b vs,H b=some (.lst vs)->G b=some (.lst vs))/\bX H G:=⟨_,rfl,ab,λb o n e=>by rw[ay n];calc s _ _ e,λb vs e=>by rw[ay (λz=>by rw[z,d]at e;cases e)];calc e,λb vs e=>by rw[ay (λz=>by rw[z,d]at e;cases e)];calc e⟩
theorem XQ{C:Hp}{d:Addr}(a:List (Key×V))(s:av C H):∃G,upd H d (.dK a)=G/\G d=some (.dK a)/\(∀b o,b≠d->C b=some o->G b=some o)/\(∀b o,b≠d->H b=some o->G b=some o):=⟨_,rfl,ab,λb o n e=>by rw[ay n];calc s _ _ e,λb o n e=>by rw[ay n];calc e⟩
theorem qJ:∀(ps:List (Int×Int)) {r:RS}{p:Int×Int},r.k9 (ps++[p])=(r.k9 ps).put p.1.toNat p.2 none
 | [],r,p=>rfl
 |q::ps,r,p=>qJ ps
theorem Ci{nt:NT}(j:nt.Ok):(RS.new nt).uZ nt 0:=by
 refine⟨λm e=>rfl,λm e=>rfl,λm e s d=>?_,λm e h f=>?_,λv i=>rfl,λv i=>rfl,λv i a c d=>?_,λm e=>F' _,λm e u b=>?_,λv i=>F' _,λm e u b=>?_⟩
 ·have g:=j.gd e;have d:s ∈ [((nt.ms.getD m default).ns,(nt.ms.getD m default).row)]:=d;simp at d;subst d;exact⟨rfl,g.bn,g.r12⟩
 ·have f:h∈([]:List (List Int)):=f;simp at f
 ·have d:some (a,c)∈([]:List (Option (Int×Int))):=d;simp at d
 ·have b:u∈([[]]:List (List Int)):=b;simp at b;subst b;exact F' _
 ·have b:u∈([[]]:List (List Int)):=b;simp at b;subst b;calc List.nil_prefix
theorem sT{nt:NT}:∀(ps:List (Int×Int)) {r:RS}{B:Nat},r.uZ nt B->(r.k9 ps).uZ nt (B+ps.length)
 | [],r,B,h=>h
 |p::ps,r,B,h=>by
  have e:B+(p::ps).length=B+1+ps.length:=by simp;lia
  rw[e];calc sT ps (h.put (λa c z=>by cases z))
theorem uJ:∀(ps:List (Int×Int)) {r:RS},(r.k9 ps).picks=r.picks
 | [],r=>rfl
 |p::ps,r=>uJ ps
theorem pU{nt:NT}(a:nt.Ok){ls:List (Int×Int)}(h:ls.length<=20):(RS.begin nt ls).Ok nt/\(RS.begin nt ls).picks=[]:=by
 have e:(RS.begin nt ls).picks=[]:=uJ ls;calc⟨(sT ls (Ci a)).ok ?_,e⟩;show 0+ls.length<=20+24*(RS.begin nt ls).picks.length;rw[e];simp;lia
structure rK(H0 H':Hp)(D:Addr)(as:List Addr)(n:Nat)(ct:Nat->Hp->HO->Prop):Prop where
 len:as.length=n
 nd:as.Nodup
 new:∀a∈as,H0 a=none/\a≠D
 ins:∀(j:Nat) a,as[j]?=some a->∃o,H' a=some o/\ct j H' o
theorem uH.o{n:Nat}{ct:Nat->Hp->List V->Prop}(h:uH H0 H' D as n ct):rK H0 H' D as n (λj H u=>∃vs,u=.lst vs/\ct j H vs):=⟨h.len,h.nd,h.new,λj a e=>by
 obtain⟨vs,a,b⟩:=h.ins j a e;calc⟨_,a,_,rfl,b⟩⟩
theorem uH.some{n:Nat}{ct:Nat->Hp->List V->Prop}(h:uH H0 H1 D as n ct)(s:av H1 H2):∀a∈as,H2 a≠none:=λa m=>by
 obtain⟨j,e⟩:=List.getElem?_of_mem m;obtain⟨b,e,_⟩:=h.ins j a e;rw[s _ _ e];calc λz=>nomatch z
theorem D9{F:Addr->Prop}{n:Nat->Nat}{c:Nat->Nat->CO}(g:Nat->Hp)(p:Nat->Nat)(q:Nat->List Addr)(o:Nat->Addr)(ct:Nat->Nat->Hp->HO->Prop)(X:∀t i,ad t i=(q t).getD i 0)(Y:∀t,n (t+7)=0)(L:∀t t',t<=6->t'<=6->p t=p t'->t=t')(C:∀t b,g t b≠none->g (t+1) b≠none)(I:∀b,F b->g 0 b≠none/\∃u,G b=some u/\soft u)
  (r:∀t,t<=6->rK (g (p t)) G (o t) (q t) (n t) (ct t)/\(∀a∈q t,g (p t+1) a≠none)/\(1<=t->g (p t) (o t)=none/\g (p t+1) (o t)≠none)) (Z:∀t i u,t<=6->ct t i G u->soft u)
  (Pd:(∀b,F b\/FP n ad b->∃u,G b=some u/\soft u)->(∀s D,g s D=none->g (s+1) D≠none->(∀t,t<=6->p t=s->¬D∈q t)->¬(F D\/FP n ad D))->∀t i u,t<=6->i<n t->G (ad t i)=some u->ct t i G u->OR (jZ (λb=>F b\/FP n ad b) G) (c t i) u):
  eA F G n ad c/\(∀b,FP n ad b->g 0 b=none/\∃u,G b=some u/\soft u)/\∀t,1<=t->t<=6->¬F (o t)/\¬FP n ad (o t)/\(q t).map V.ref=kb n ad t:=by
 have v:∀t i,i<n t->t<=6:=λt i h=>Classical.byContradiction λz=>by
  have:=Y (t-7);rw[show t-7+7=t by lia]at this;lia
 have up:∀(d t:Nat) (b:Addr),g t b≠none->g (t+d) b≠none:=λd=>by
  induction d with
  |zero=>calc λt b h=>h
  |succ d o=>exact λt b h=>C _ _ (o t b h)
 have w:∀s o b,s<=o->g s b≠none->g o b≠none:=λs o b h e=>by
  have:=up (o-s) s b e;rwa [show s+(o-s)=o by lia]at this
 have x:∀t i,i<n t->(q t)[i]?=some (ad t i)/\g (p t) (ad t i)=none/\g (p t+1) (ad t i)≠none/\∃u,G (ad t i)=some u/\ct t i G u:=λt i k=>by
  obtain⟨h,y,_⟩:=r t (v t i k);have e:(q t)[i]?=some (ad t i):=by rw[X];exact aS (by rw[h.len];calc k)
  have m:=aan e;exact⟨e,(h.new _ m).1,y _ m,h.ins _ _ e⟩
 have M:∀s D,g s D=none->g (s+1) D≠none->(∀t,t<=6->p t=s->¬D∈q t)->¬(F D\/FP n ad D):=λs D N y hn z=>by
  rcases z with z|⟨t,i,k,rfl⟩
  ·exact w 0 s D (aaj _) (I D z).1 N
  ·obtain⟨e,J,B,_⟩:=x t i k;rcases Nat.lt_trichotomy s (p t) with l | l | l
   ·exact w _ _ _ l y J
   ·exact hn t (v t i k) l.symm (aan e)
   ·exact w _ _ _ l B N
 have O:∀b,FP n ad b->g 0 b=none/\∃u,G b=some u/\soft u:=λb ⟨t,i,k,e⟩=>by
  subst e;obtain⟨_,J,_,u,B,K⟩:=x t i k;exact⟨Classical.byContradiction λz=>w 0 _ _ (aaj _) z J,u,B,Z t i u (v t i k) K⟩
 refine⟨⟨λt i t' P k R e=>?_,λt i k z=>?_,λt i k=>?_⟩,O,λt y S=>?_⟩
 ·obtain⟨a1,a2,a3,_⟩:=x t i k;obtain⟨T,U,W,_⟩:=x t' P R;rw[<-e]at T U W;have es:p t=p t':=by
   rcases Nat.lt_trichotomy (p t) (p t') with l|l|l
   ·exact absurd U (w _ _ _ l a3)
   ·exact l
   ·exact absurd a2 (w _ _ _ l W)
  have:=L t t' (v t i k) (v t' P R) es;subst this;have h:=(r t (v t i k)).1;exact⟨rfl,(List.getElem?_inj (by rw[h.len];calc k) h.nd).mp (a1.trans T.symm)⟩
 ·exact w 0 _ _ (aaj _) (I _ z).1 (x t i k).2.1
 ·obtain⟨_,_,_,u,B,K⟩:=x t i k;exact⟨u,B,Pd (λb z=>z.elim (λh=>(I b h).2) λh=>(O b h).2) M t i u (v t i k) k B K⟩
 ·obtain⟨h,_,g⟩:=r t S;have:=M _ _ (g y).1 (g y).2 (λt' h' e m=>by
   have:=L t' t h' S e;subst this;calc(h.new _ m).2 rfl)
  calc⟨λz=>this (.inl z),λz=>this (.inr z),?_⟩;unfold kb;apply List.ext_getElem (by simp[h.len]);intro j k g;have i:j<n t:=by simpa using g
  simp only[List.getElem_map,List.getElem_range];congr 1;calc(List.getElem_eq_iff _).mpr (x t j i).1
theorem NZ{CN e:Addr}{f:List V}{c:List Addr}{d g:List V}(h:nJ CN H e ms wv f)(h':nJ CN H e c d g):f=g:=by
 obtain⟨d,e,f,g,c,j,k,i⟩:=h;obtain⟨d,e,f,g,a,j,k,b⟩:=h';rw[c]at a
 cases a;rw[i]at b
 cases b;rfl
theorem x8{C c:Addr}{p:Str×V}{l:List (Str×V)}(h:some (HO.ins C a [])=some (HO.ins c b (p::l))):False:=by cases h
theorem nu{K:W.Frag}{C:Hp}{x CR h:Addr}{c:List (Str×V)}{v:V}{n:Nat}(s:av C H)(d:C x=some (.ins CR h c))(k:vd K CR)(l:cJ K CR f)(m:c.length<n)(q:∀G,G x=some (.ins CR h (bQ f v c))->(∀b o,b≠x->C b=some o->G b=some o)->(∀b vs,H b=some (.lst vs)->G b=some (.lst vs))->bX H G->(bQ f v c).length<n+1->R G)(g:n<=1000:=by decide):∃a g j i,x=a/\H a=some (.ins g j i)/\vd K g/\cJ K g f/\i.length<1000/\R (upd H a (.ins g j (bQ f v i))):=by
 have d:=s _ _ d;obtain⟨G,e,g,i,j,n⟩:=XO (bQ f v c) s d;calc⟨x,CR,h,c,rfl,d,k,l,(),e▸q G g i j n (jm m)⟩
abbrev JZ:Stmt:=(ck (top 62)).getD 0 (.Pass ⟨0,0,0,0⟩)
inductive J0(C CN CR:Addr)(vs:List V)(H:Hp)(Q:VK):Prop
 |mk (F:Addr->Prop) (x dx bg:Addr) (nt:NT) (ls:List (Int×Int)) (ms:List Addr) (wv lv:List V) (h0:vs=[.ref x,.ref bg]) (h1:H x=some (.ins CR dx [])) (h2:vo C CN H bg nt) (h3:nJ CN H bg ms wv lv) (h4:eO H 1 lv (ls.map qB)) (h5:ls.length<=20) (h6:∀l∈ls,0<=l.1/\l.1<nt.ws.length) (j0:FS F H) (h7:∀ad H',(∀b o,b≠x->H b=some o->H' b=some o)->(∀b,FP nt.n ad b->H b=none)->bU C CN CR F H' x bg nt (RS.begin nt ls) ad->Q .bL H'):J0 C CN CR vs H Q
def Ea(C CN CR:Addr):Sp:=λvs H Q _=>J0 C CN CR vs H Q
theorem XS(D:Fj K mg "Run" CR "Run.__init__" JZ ["self","net"])(T:Tx K mg C CN CR F FD)(eI:cn P w K mg base C "first_state" 1 ["self"] (Jz C))(jB:cn P w K mg base CN "letters" 1 ["self"] (rG CN))(bE:cn P w K mg base CN "machines" 1 ["self"] (gc CN))(di:cn P w K mg base CN "ways" 1 ["self"] (pP CN))(c9:cn P w K mg base CR "put_letter" 1 ["self","way","said","sender"] (uC C CN CR)):zd P w K mg base "Run" CR 2 ["self","net"] (Ea C CN CR):=by
 have sc:aD ["self","net","way","said"] ["self","net"] (az JZ):=by walk_at "s"
 symm;obtain⟨FF,x,S,k,l,ls,ms0,wv0,lv,rfl,U,hn,hf0,Mc,jo,nE,j0,q⟩:=h;have hu:=hr.units;refine⟨_,(ag (fS (au 0) (au 1) (gJ rfl))
  (ag (fS (au 0) (bx aa) (gJ rfl))
  (ag (fS (au 0) (cu (N':=["machine"]) (ix:=[none]) (bI (eU bE T.cO hr (au 1))) (λ_ _ _ _=>(aR (i:=0) (show(["machine"]:List Str).Nodup by decide +kernel) rfl Sort)) kj (λ_ _ _ _=>(bx (af (eU eI T.cN hr (au 0)) aa)))) rfl)
  (ag (fS (au 0) (cu (N':=["machine"]) (ix:=[none]) (bI (eU bE T.cO hr (au 1))) (λ_ _ _ _=>(aR (i:=0) (show(["machine"]:List Str).Nodup by decide +kernel) rfl Sort)) kj (λ_ _ _ _=>(bx (af ai aa)))) rfl)
  (ag (fS (au 0) (cu (N':=["machine"]) (ix:=[none]) (bI (eU bE T.cO hr (au 1))) (λ_ _ _ _=>(aR (i:=0) (show(["machine"]:List Str).Nodup by decide +kernel) rfl Sort)) kj (λ_ _ _ _=>(bx aa))) rfl)
  (ag (fS (au 0) (cu (N':=["way"]) (ix:=[none]) (bI (eU di T.cO hr (au 1))) (λ_ _ _ _=>(aR (i:=0) (show(["way"]:List Str).Nodup by decide +kernel) rfl Sort)) kj (λ_ _ _ _=>(bx aa))) rfl)
  (ag (fS (au 0) (cu (N':=["way"]) (ix:=[none]) (bI (eU di T.cO hr (au 1))) (λ_ _ _ _=>(aR (i:=0) (show(["way"]:List Str).Nodup by decide +kernel) rfl Sort)) kj (λ_ _ _ _=>(bx aa))) rfl)
  (ag (fS (au 0) (cu (N':=["way"]) (ix:=[none]) (bI (eU di T.cO hr (au 1))) (λ_ _ _ _=>(aR (i:=0) (show(["way"]:List Str).Nodup by decide +kernel) rfl Sort)) kj (λ_ _ _ _=>(bx aa))) rfl)
  (aj (dC PassesOwn.never rfl (bI (eU jB T.cO hr (au 1))) (dW (i:=2) (j:=3) rfl sc.nd rfl rfl Sort Sort)
  (aj (bN (eS c9 T.a0 hr (au 0) (af (au 2) (af (au 3) (af gm aa)))))))))))))))),?_⟩
 have ba:=hn.ok;nofun;obtain⟨⟨ms,wv,N,hf,nQ,xX,FU⟩,_⟩:=id hn;obtain⟨Z,a1,b1,c1,I,g2,g3,g4⟩:=id hf;have RP:N=lv:=NZ hf hf0;subst RP;ac_rfl;have L5:(ms.map V.ref).length<=5:=by simp[nQ];exact ba.II
 have kg:wv.length=l.ws.length:=by simpa using FU.1
 have rV:wv.length<=10:=by rw[kg];exact ba.Fo
 have O:k≠x:=λz=>by rw[z,U]at I;exact x8 I
 have PJ:a1≠x:=CC g2 U (λz=>nomatch z);have PK:b1≠x:=CC g3 U (λz=>nomatch z);have PM:c1≠x:=CC g4 U (λz=>nomatch z);left;refine BN x CR S _ rfl U T.a0 T.cP ∅ ?_;have hxa:upd H x (.ins CR S (bQ "own_net" (.ref k) [])) x=some (.ins CR S (bQ "own_net" (.ref k) [])):=ab;have nxa:∀b o,b≠x->H b=some o->upd H x (.ins CR S (bQ "own_net" (.ref k) [])) b=some o:=λb o n e=>by rw[ay n];exact e
 generalize hGa:upd H x (.ins CR S (bQ "own_net" (.ref k) []))=Ga at *;left;refine⟨aaj _,λp hp=>?_⟩;have sp0:=av.new (.lst []) hp;have J1:upd Ga p (.lst []) p=some (.lst []):=ab;generalize hGb:upd Ga p (.lst [])=Gb at *;left;refine BN x CR S _ rfl (sp0 _ _ hxa) T.a0 T.cZ (jm (n:=999) ∅) ?_;have Tb:upd Gb x (.ins CR S (bQ "picks_done" (.ref p) (bQ "own_net" (.ref k) []))) x=some (.ins CR S (bQ "picks_done" (.ref p) (bQ "own_net" (.ref k) []))):=ab;have ka:∀b o,b≠x->Ga b=some o->upd Gb x (.ins CR S (bQ "picks_done" (.ref p) (bQ "own_net" (.ref k) []))) b=some o:=λb o n e=>by rw[ay n];exact sp0 _ _ e
 have npx:p≠x:=Ne.symm (aq hxa hp);have ep:upd Gb x (.ins CR S (bQ "picks_done" (.ref p) (bQ "own_net" (.ref k) []))) p=some (.lst []):=by rw[ay npx];exact J1
 generalize hG0:upd Gb x (.ins CR S (bQ "picks_done" (.ref p) (bQ "own_net" (.ref k) [])))=G0 at *;have SK:(bQ "picks_done" (.ref p) (bQ "own_net" (.ref k) [])).length<3:=jm (jm (Nat.zero_lt_succ _));have PN:∀b o,b≠x->H b=some o->G0 b=some o:=λb o n e=>ka b o n (nxa b o n e);left;refine bt ?_;left;refine gO (PN _ _ O I) (eN ⋯ ⋯ ⋯) ?_;refine fz k ms wv N rfl ⟨Z,a1,b1,c1,PN _ _ O I,PN _ _ PJ g2,PN _ _ PK g3,PN _ _ PM g4⟩ (λlm1 adS=>?_);have Tc:=av.new (.lst (ms.map V.ref)) adS;have N0:upd G0 lm1 (.lst (ms.map V.ref)) lm1=some (.lst (ms.map V.ref)):=ab;generalize ajG:upd G0 lm1 (.lst (ms.map V.ref))=XT at *;left;refine .inl ⟨⟨_,aO.of N0⟩,λD1 GB=>?_⟩;refine aV (J:=rD K lm1) (n:=(ms.map V.ref).length) (λi ys H'=>∃as:List Addr,ys=as.map V.ref/\av XT H'/\uH XT H' D1 as i (λj H' vs=>∃v,vs=[v]/\HT H' 2 v (zf (l.ms.getD j default).ns (l.ms.getD j default).row))) (J' (small ())) ⟨[],rfl,av.new _ GB,uH.nil⟩ ?_ ?_ ?_ ?_
 ·rintro i ys H' hi ⟨_,_,s3,_⟩;exact⟨_,(ms.map V.ref)[i],aO.of (s3 _ _ N0),cD hi⟩
 ·rintro ys H' ⟨_,_,s3,_⟩;exact⟨_,aO.of (s3 _ _ N0),F' _⟩
 ·intro i ys H' hi y hl fO xx H4 fP;nofun;obtain⟨as,rfl,s3,hL⟩:=fO;obtain⟨rfl,hy⟩:=fP;ac_rfl;have ex:=hy _ (aO.of (s3 _ _ N0));walk_at "xf";left
  try rw[if_pos trivial]
  have him:i<ms.length:=by simpa using hi
  have exm:xx=.ref ms[i]:=by
   rw[A',cD him]at ex
   cases ex;rfl
  nofun;subst exm;have N3:i<l.ms.length:=by lia
  have nmx:ms[i]≠x:=λz=>by
   obtain⟨d1,s1,d2,X,_⟩:=xX i ms[i] _ (cD him) (aS (d:=default) N3);rw[z,U]at X;exact x8 X
  have XU:UN C H4 ms[i] (l.ms.getD i default):=by
   obtain⟨d1,s1,d2,X,w2,w3⟩:=xX i ms[i] _ (cD him) (aS (d:=default) N3);have tt:bX H H4:=λb xs e=>s3 _ _ (Tc _ _ (PN b _ (λz=>by rw[z,U]at e;cases e) e));exact⟨d1,s1,d2,s3 _ _ (Tc _ _ (PN _ _ nmx X)),w2.aJ tt,w3.aJ tt⟩
  obtain⟨d1,s1,d2,X,w2,w3⟩:=id XU;ac_rfl;calc mth X (DH ⋯ ⋯ ⋯) ?_;calc⟨ms[i],_,_,_,_,rfl,XU,λst vN=>?_⟩;left;calc⟨J' (small nofun),λp hp=>?_⟩;have sN:=av.new (.lst [st]) hp;have nD:p≠D1:=Ne.symm (aq y hp);refine bJ (sN _ _ y) hl hi (J' (small ())) ⟨as++[p],nofun,λb o e=>?_,?_⟩
  ·rw[ay (aq e GB)];exact sN _ _ (s3 _ _ e)
  ·refine hL.snoc s3 (by rw[y];simp) hp (vs:=[st]) ?_ ⟨st,rfl,vN.aJ (λb xs e=>by rw[ay (λz=>by rw[z,y] at e;cases e)];calc sN _ _ e)⟩ (λb o nb e=>?_) (λj vs ⟨v,e,h⟩=>⟨v,e,h.aJ (λb xs e=>by rw[ay (λz=>by rw[z,y] at e;cases e)];calc sN _ _ e)⟩)
   ·rw[ay nD];exact ab
   ·rw[ay nb];exact sN _ _ e
 intro ys H1 y hl lg;obtain⟨A1,rfl,XW,hL1⟩:=lg;left;calc nu XW (Tc _ _ Tb) T.a0 T.b4 SK λG1 sF kd1 XX adU uo=>?_;have XY:=XX _ _ y;have kg1:∀b o,b≠x->G0 b=some o->G1 b=some o:=λb o n e=>kd1 b o n (Tc _ _ e);have U3:∀b o,b≠x->H b=some o->G1 b=some o:=λb o n e=>kg1 b o n (PN b o n e);have fD1:XT D1=none:=GB;clear y;left;calc bt ?_;left;calc gO (U3 _ _ O I) (eN ⋯ ⋯ ⋯) ?_;calc fz k ms wv N rfl ⟨Z,a1,b1,c1,U3 _ _ O I,U3 _ _ PJ g2,U3 _ _ PK g3,U3 _ _ PM g4⟩ (λlm2 adX=>?_);have U4:=av.new (.lst (ms.map V.ref)) adX;have XZ:upd G1 lm2 (.lst (ms.map V.ref)) lm2=some (.lst (ms.map V.ref)):=ab;generalize ajJ:upd G1 lm2 (.lst (ms.map V.ref))=Gd2 at *;left;calc .inl ⟨⟨_,aO.of XZ⟩,λD2 FY=>?_⟩;calc mh (vs:=[V.int 0]) XZ FY () (λ_=>Ext.set (Ext.refl _) rfl) (λ_ _ _ r=>And.intro ∅ r) ?_;intro A2 H2 y U5 hL2;left;calc nu U5 (U4 _ _ sF) T.a0 T.dZ uo λG2 FK U6 X0 ajK tE=>?_;have U7:=X0 _ _ y;have kg2:∀b o,b≠x->G1 b=some o->G2 b=some o:=λb o n e=>U6 b o n (U4 _ _ e);have U8:∀b o,b≠x->H b=some o->G2 b=some o:=λb o n e=>kg2 b o n (U3 b o n e);have X1:Gd2 D2=none:=FY;clear y;left;calc bt ?_;left;calc gO (U8 _ _ O I) (eN ⋯ ⋯ ⋯) ?_;calc fz k ms wv N rfl ⟨Z,a1,b1,c1,U8 _ _ O I,U8 _ _ PJ g2,U8 _ _ PK g3,U8 _ _ PM g4⟩ (λlm3 ad0=>?_);have U9:=av.new (.lst (ms.map V.ref)) ad0;have X2:upd G2 lm3 (.lst (ms.map V.ref)) lm3=some (.lst (ms.map V.ref)):=ab;generalize ajL:upd G2 lm3 (.lst (ms.map V.ref))=Gd3 at *;left;calc .inl ⟨⟨_,aO.of X2⟩,λD3 FZ=>?_⟩;calc mh (vs:=[]) X2 FZ () (λ_=>Ext.set (Ext.refl _) rfl) (λ_ _ _ r=>And.intro ∅ r) ?_;intro A3 H3 y X3 hL3;left;calc nu X3 (U9 _ _ FK) T.a0 T.c8 tE λG3 L7 X4 X5 ajM AW=>?_;have Va:=X5 _ _ y;have kg3:∀b o,b≠x->G2 b=some o->G3 b=some o:=λb o n e=>X4 b o n (U9 _ _ e);have Vb:∀b o,b≠x->H b=some o->G3 b=some o:=λb o n e=>kg3 b o n (U8 b o n e);have X6:Gd3 D3=none:=FZ;clear y;left;calc bt ?_;left;calc gO (Vb _ _ O I) (eN ⋯ ⋯ ⋯) ?_;calc fz k ms wv N rfl ⟨Z,a1,b1,c1,Vb _ _ O I,Vb _ _ PJ g2,Vb _ _ PK g3,Vb _ _ PM g4⟩ (λlm4 ad3=>?_);have Vc:=av.new (.lst wv) ad3;have X7:upd G3 lm4 (.lst wv) lm4=some (.lst wv):=ab;generalize ajN:upd G3 lm4 (.lst wv)=Gd4 at *;left;calc .inl ⟨⟨_,aO.of X7⟩,λD4 Vd=>?_⟩;calc mh (vs:=[]) X7 Vd () (λ_=>Ext.set (Ext.refl _) rfl) (λ_ _ _ r=>And.intro ∅ r) ?_;intro A4 H4 y Ve hL4;left;calc nu Ve (Vc _ _ L7) T.a0 T.b8 AW λG4 SA X8 X9 ajO Jx=>?_;have Vf:=X9 _ _ y;have kg4:∀b o,b≠x->G3 b=some o->G4 b=some o:=λb o n e=>X8 b o n (Vc _ _ e);have Vg:∀b o,b≠x->H b=some o->G4 b=some o:=λb o n e=>kg4 b o n (Vb b o n e);have fD4:Gd4 D4=none:=Vd;clear y;left;calc bt ?_;left;calc gO (Vg _ _ O I) (eN ⋯ ⋯ ⋯) ?_;calc fz k ms wv N rfl ⟨Z,a1,b1,c1,Vg _ _ O I,Vg _ _ PJ g2,Vg _ _ PK g3,Vg _ _ PM g4⟩ (λlm5 ad7=>?_);have Vh:=av.new (.lst wv) ad7;have Ya:upd G4 lm5 (.lst wv) lm5=some (.lst wv):=ab;generalize ajP:upd G4 lm5 (.lst wv)=Gd5 at *;left;calc .inl ⟨⟨_,aO.of Ya⟩,λD5 DC=>?_⟩;calc mh (vs:=[]) Ya DC () (λ_=>Ext.set (Ext.refl _) rfl) (λ_ _ _ r=>And.intro ∅ r) ?_;intro A5 H5 y Vi hL5;left;calc nu Vi (Vh _ _ SA) T.a0 T.eV Jx λG5 Gy Yb Yc ajQ PQ=>?_;have Vj:=Yc _ _ y;have kg5:∀b o,b≠x->G4 b=some o->G5 b=some o:=λb o n e=>Yb b o n (Vh _ _ e);have Vk:∀b o,b≠x->H b=some o->G5 b=some o:=λb o n e=>kg5 b o n (Vg b o n e);have fD5:Gd5 D5=none:=DC;clear y;left;calc bt ?_;left;calc gO (Vk _ _ O I) (eN ⋯ ⋯ ⋯) ?_;calc fz k ms wv N rfl ⟨Z,a1,b1,c1,Vk _ _ O I,Vk _ _ PJ g2,Vk _ _ PK g3,Vk _ _ PM g4⟩ (λlm6 aeb=>?_);have Vl:=av.new (.lst wv) aeb;have Yd:upd G5 lm6 (.lst wv) lm6=some (.lst wv):=ab;generalize ajR:upd G5 lm6 (.lst wv)=Gd6 at *;left;calc .inl ⟨⟨_,aO.of Yd⟩,λD6 Ye=>?_⟩;calc mh (vs:=[]) Yd Ye () (λ_=>Ext.set (Ext.refl _) rfl) (λ_ _ _ r=>And.intro ∅ r) ?_;intro A6 H6 y Yf hL6;left;calc nu Yf (Vl _ _ Gy) T.a0 T.df PQ λW Xl Yg Yh ajS hl6=>?_;have Mi:=Yh _ _ y;have kg6:∀b o,b≠x->G5 b=some o->W b=some o:=λb o n e=>Yg b o n (Vl _ _ e);have L:∀b o,b≠x->H b=some o->W b=some o:=λb o n e=>kg6 b o n (Vk b o n e);have fD6:Gd6 D6=none:=Ye;clear y;have g:∀(G T:Hp),(∀b o,b≠x->G b=some o->T b=some o)->(∃fs,G x=some (.ins CR S fs))->(∀b vs,G b=some (.lst vs)->T b=some (.lst vs))/\bX G T:=λG T h ⟨fs,e⟩=>⟨λb vs M=>h b _ (λz=>by rw[z,e]at M;cases M) M,λb vs M=>h b _ (λz=>by rw[z,e]at M;cases M) M⟩
 have N4:=kg6;have PR:∀b o,b≠x->G4 b=some o->W b=some o:=λb o n e=>N4 b o n (kg5 b o n e);have PU:∀b o,b≠x->G3 b=some o->W b=some o:=λb o n e=>PR b o n (kg4 b o n e);have Td:∀b o,b≠x->G2 b=some o->W b=some o:=λb o n e=>PU b o n (kg3 b o n e);have Yi:∀b o,b≠x->G1 b=some o->W b=some o:=λb o n e=>Td b o n (kg2 b o n e);have kc0:∀b o,b≠x->G0 b=some o->W b=some o:=λb o n e=>Yi b o n (kg1 b o n e);have Te:uH XT G1 D1 A1 (ms.map V.ref).length (λj H' vs=>∃v,vs=[v]/\HT H' 2 v (zf (l.ms.getD j default).ns (l.ms.getD j default).row)):=hL1.keep XX (λj vs ⟨v,e,h⟩=>⟨v,e,h.aJ adU⟩);have Tf:=Te.keep (g _ _ Yi ⟨_,sF⟩).1 (λj vs ⟨v,e,h⟩=>⟨v,e,h.aJ (g _ _ Yi ⟨_,sF⟩).2⟩);have PV:=(g _ _ Yi ⟨_,sF⟩).1 _ _ XY;have Tg:uH Gd2 G2 D2 A2 (ms.map V.ref).length (λ_ _ vs=>vs=[V.int 0]):=hL2.keep X0 (λj vs e=>e);have Th:=Tg.keep (g _ _ Td ⟨_,FK⟩).1 (λj vs e=>e);have PX:=(g _ _ Td ⟨_,FK⟩).1 _ _ U7;have Ti:uH Gd3 G3 D3 A3 (ms.map V.ref).length (λ_ _ vs=>vs=[]):=hL3.keep X5 (λj vs e=>e);have Tj:=Ti.keep (g _ _ PU ⟨_,L7⟩).1 (λj vs e=>e);have PY:=(g _ _ PU ⟨_,L7⟩).1 _ _ Va;have Tn:uH Gd4 G4 D4 A4 wv.length (λ_ _ vs=>vs=[]):=hL4.keep X9 (λj vs e=>e);have To:=Tn.keep (g _ _ PR ⟨_,SA⟩).1 (λj vs e=>e);have PZ:=(g _ _ PR ⟨_,SA⟩).1 _ _ Vf;have Tp:uH Gd5 G5 D5 A5 wv.length (λ_ _ vs=>vs=[]):=hL5.keep Yc (λj vs e=>e);have x9:=Tp.keep (g _ _ N4 ⟨_,Gy⟩).1 (λj vs e=>e);have wI:=(g _ _ N4 ⟨_,Gy⟩).1 _ _ Vj;have N5:uH Gd6 W D6 A6 wv.length (λ_ _ vs=>vs=[]):=hL6.keep Yh (λj vs e=>e);have Yj:=(g _ _ kc0 ⟨_,Tb⟩).1 _ _ ep;have y:(ms.map V.ref).length=l.ms.length:=by simp[nQ]
 rw[y]at Tf;rw[y]at Th;rw[y]at Tj;rw[kg]at To;rw[kg]at x9;rw[kg]at N5;obtain⟨ad,S9⟩:∃ad:Nat->Nat->Addr,∀t i,ad t i=([[p],A1,A2,A3,A4,A5,A6].getD t []).getD i 0:=⟨_,λ_ _=>rfl⟩
 have pz:∀{A B:Hp},(∀b o,b≠x->A b=some o->B b=some o)->∀{o},B x=some o->∀b,A b≠none->B b≠none:=λ{A B} h {o} e b hb=>by
  by_cases z:b=x
  ·rw[z,e];exact λz=>nomatch z
  ·cases e1:A b with
   |none=>calc absurd e1 hb
   |some u=>rw[h b u z e1];exact λz=>nomatch z
 have Y:∀{A:Hp} {b:Addr} {o:HO},A b=some o->A b≠none:=λe z=>by rw[e]at z;cases z
 have nFx:∀b,FF b->b≠x:=λb h z=>by
  obtain⟨o,e,so⟩:=j0 b h;rw[z,U]at e;cases e;exact so
 obtain⟨cH,PH,hDo⟩:=D9 (F:=FF) (G:=W) (n:=l.n) (c:=(RS.new l).ct) (λt=>[Ga,XT,Gd2,Gd3,Gd4,Gd5,Gd6].getD t W) (λt=>t) _ (λt=>[x,D1,D2,D3,D4,D5,D6].getD t x) (λt=>[λ_ _ u=>u=.lst [],λj H u=>∃vs,u=.lst vs/\∃v,vs=[v]/\HT H 2 v (zf (l.ms.getD j default).ns (l.ms.getD j default).row),λ_ _ u=>∃vs,u=.lst vs/\vs=[V.int 0]].getD t λ_ _ u=>∃vs,u=.lst vs/\vs=[]) S9 (λ_=>rfl) (λ_ _ _ _ h=>h)
  (λt=>match t with
   |0=>pz (λb o n e=>Tc _ _ (ka b o n e)) (Tc _ _ Tb)
   |1=>pz (λb o n e=>U4 _ _ (kd1 b o n e)) (U4 _ _ sF)
   |2=>pz (λb o n e=>U9 _ _ (U6 b o n e)) (U9 _ _ FK)
   |3=>pz (λb o n e=>Vc _ _ (X4 b o n e)) (Vc _ _ L7)
   |4=>pz (λb o n e=>Vh _ _ (X8 b o n e)) (Vh _ _ SA)
   |5=>pz (λb o n e=>Vl _ _ (Yb b o n e)) (Vl _ _ Gy)
   |6=>pz Yg Xl
   | (t + 7)=>λb h=>h)
  (λb h=>by
   obtain⟨o,e,so⟩:=j0 b h;calc⟨Y (nxa b o (nFx b h) e),o,L b o (nFx b h) e,so⟩)
  (λt ht=>match t,ht with
   | 0,_=>⟨⟨rfl,nofun,λa m=>by rw[List.mem_singleton.mp m];exact⟨hp,npx⟩,λj a e=>by cases j with
    |zero=>cases e;calc⟨_,Yj,rfl⟩
    | succ j=>cases e⟩,λa m=>by rw[List.mem_singleton.mp m];calc Y (Tc _ _ ep),λh=>absurd h ∅⟩
   |1,_=>⟨Tf.o,Te.some U4,λ_=>⟨fD1,Y (U4 _ _ XY)⟩⟩
   |2,_=>⟨Th.o,Tg.some U9,λ_=>⟨X1,Y (U9 _ _ U7)⟩⟩
   |3,_=>⟨Tj.o,Ti.some Vc,λ_=>⟨X6,Y (Vc _ _ Va)⟩⟩
   |4,_=>⟨To.o,Tn.some Vh,λ_=>⟨fD4,Y (Vh _ _ Vf)⟩⟩
   |5,_=>⟨x9.o,Tp.some Vl,λ_=>⟨fD5,Y (Vl _ _ Vj)⟩⟩
   |6,_=>⟨N5.o,N5.some (av.refl _),λ_=>⟨fD6,Y Mi⟩⟩
   | (t + 7),h=>absurd h ())
  (λt i u ht h=>by
   match t,ht,h with
   |0,_,h=>cases h;trivial
   |1,_,⟨_,e,_⟩|2,_,⟨_,e,_⟩|3,_,⟨_,e,_⟩|4,_,⟨_,e,_⟩|5,_,⟨_,e,_⟩|6,_,⟨_,e,_⟩=>cases e;trivial
   | (t + 7),h,_=>calc absurd h ())
  (λhz _ t i u ht hi e h=>by
   match t,ht,h with
   |0,_,h=>cases h;calc(fw.nil:fw _ 4 [] [])
   |1,_,⟨_,e,v,M,hv⟩=>cases e;cases M;calc(fw.one ((JX hz hv).mono ∅):fw _ 4 [v] [_])
   |2,_,⟨_,e,M⟩=>cases e;cases M;calc(fw.one (.int 0):fw _ 4 [.int 0] [.int 0])
   |3,_,⟨_,e,M⟩|4,_,⟨_,e,M⟩|5,_,⟨_,e,M⟩|6,_,⟨_,e,M⟩=>cases e;cases M;calc(fw.nil:fw _ 4 [] [])
   | (t + 7),h,_=>calc absurd h ())
 have R:∀b,FP l.n ad b->H b=none:=λb hb=>by
  cases v:H b with
  |none=>rfl
  |some o=>
   have e:=(PH b hb).1;have:b≠x:=λz=>by rw[z]at e;exact Y hxa e
   exact absurd e (Y (nxa b o this v))
 have hR:bU C CN CR FF W x k l (RS.new l) ad:=by
  refine⟨⟨S,λt=>[x,D1,D2,D3,D4,D5,D6].getD t x,?_,λt v y=>?_⟩,cH,?_⟩
  ·rw[Xl,GC,S9];rfl
  ·obtain⟨X,w2,w3⟩:=hDo t v y;calc⟨?_,X,w2⟩;rw[<-w3]
   match t,v,y with
   |1,_,_=>calc PV
   |2,_,_=>calc PX
   |3,_,_=>calc PY
   |4,_,_=>calc PZ
   |5,_,_=>calc wI
   |6,_,_=>calc Mi
   |(t+7),_,h=>exact absurd h ()
  ·calc⟨⟨ms,wv,N,⟨Z,a1,b1,c1,L _ _ O I,L _ _ PJ g2,L _ _ PK g3,L _ _ PM g4⟩,nQ,λi m d e1 t=>?_,FU.aJ (g _ _ L ⟨_,U⟩).2⟩,ba⟩;obtain⟨d1,s1,d2,X,w2,w3⟩:=xX i m d e1 t;have v:m≠x:=λz=>by rw[z,U] at X;exact x8 X
   exact⟨d1,s1,d2,L _ _ v X,w2.aJ (g _ _ L ⟨_,U⟩).2,w3.aJ (g _ _ L ⟨_,U⟩).2⟩
 have aeg:=Mc.aJ (g _ _ L ⟨_,U⟩).2;clear Te Tf Tg Th Ti Tj Tn To Tp x9 N5 PV PX PY PZ wI XY hL1 U7 hL2 Va hL3 Vf hL4 Vj hL5 Mi hL6 Yj kc0 Yi Td PU PR N4;left;calc⟨k,Z,_,rfl,L _ _ O I,eN ⋯ ⋯ ⋯,k,ms,wv,N,rfl,⟨Z,a1,b1,c1,L _ _ O I,L _ _ PJ g2,L _ _ PK g3,L _ _ PM g4⟩,λll qm=>?_⟩;have s7:=av.new (.lst N) qm;have Tr:upd W ll (.lst N) ll=some (.lst N):=ab;generalize UW:upd W ll (.lst N)=G7 at *;have nll:¬FP l.n ad ll:=λz=>by
  obtain⟨_,u,e,_⟩:=PH ll z;rw[qm]at e;cases e
 have g:=hR.same s7;have Yk:=aeg.aJ s7.aP;have Yl:N.length=ls.length:=by simpa using Yk.1
 refine .inl ⟨⟨_,aO.of Tr⟩,d9 (K:=K) (xs:=N) (λi σ H'=>(∃z2 z3,σ=[some (V.ref x),some (V.ref k),z2,z3])/\Fr (FP l.n ad) G7 H'/\bU C CN CR FF H' x k l ((RS.new l).k9 (ls.take i)) ad) ?_ ?_ ?_ ?_⟩
 ·exact⟨⟨_,_,rfl⟩,Fr.refl,g⟩
 ·rintro i σ H' hi ⟨_,fi,_⟩;exact aO.of (fi.at Tr nll)
 ·intro i z σ H' hz xT;nofun;obtain⟨⟨z2,z3,rfl⟩,fi,vz⟩:=xT;have g:i < ls.length:=by rw[<-Yl];exact(List.getElem?_eq_some_iff.mp hz).1
  have t:ls[i]?=some ls[i]:=cD g;have S8:=(Yk.2 i z (qB ls[i]) hz (by rw[A',t];rfl)).aJ fi.aP;have vB:=nE _ (aaw g);have NY:(RS.new l).k9 (ls.take (i+1))=((RS.new l).k9 (ls.take i)).put ls[i].1.toNat ls[i].2 none:=by
   rw[aaU,t];exact qJ _
  generalize ls[i]=p at *;obtain⟨pj,px⟩:=p;obtain⟨tz,u1,u2,kz,rfl,Dh,y1,y2⟩:=dM S8;obtain rfl:=y1.cG;obtain rfl:=y2.cG;ac_rfl;calc rF (bF.of Dh) ?_;left;obtain⟨t,u,g,v⟩:=vz.ins;calc gO g (eY ⋯) ?_;have t:((pj.toNat:Nat):Int)=pj:=aaZ vB.1;refine⟨FF,x,k,l,_,ad,pj.toNat,px,.bL,none,by rw[t],vz,λb h=>by
   obtain⟨o,e,so⟩:=j0 b h;calc⟨o,fi.at (s7 _ _ (L b o (nFx b h) e)) (λz=>by rw[R b z] at e;cases e),so⟩,by have:=vB.2;show pj.toNat < _;simp at this;lia,.bL,(sT (ls.take i) (Ci ba)).mono (by simp;lia),λg k l=>?_⟩
  left;calc gp ⟨_,_,rfl,rfl⟩ (fi.trans k) ?_;rw[NY];exact l
 ·rintro σ H' ⟨_,fi,vz⟩;rw[Yl,aat]at vz;calc q ad _ (λb o n e=>?_) R vz;calc fi.at (s7 _ _ (L b o n e)) λz=>?_;rw[R b z]at e;cases e
def CutAt(H:Hp)(t:Addr)(cut:List Int):Prop:=H t=some (.tup (cut.map V.int))\/H t=some (.lst (cut.map V.int))
theorem CutAt.same{t:Addr}(h:CutAt H t cut)(s:av H H'):CutAt H' t cut:=h.imp (s _ _) (s _ _)
theorem Ts{K:W.Frag}{i:Int}{v:V}{P:V->Prop}(h:CutAt H a cut)(e:ia (cut.map V.int) i=some v)(k:P v):∃xs v,(aO K H a xs\/bF K H a xs)/\ia xs i=some v/\P v:=h.elim (λh=>dJ h e k) λh=>bC h e k
theorem mi{v:V}(h:HT H 1 v (pairD e)):∃a,v=.ref a/\H a=some (.tup [.int e.1,.int e.2]):=by
 obtain⟨b,g,i,j,rfl,c,d,f⟩:=dM h;obtain rfl:=d.cG;obtain rfl:=f.cG;calc⟨b,rfl,c⟩
structure Eb(nt:NT)(r:RS)(cut:List Int):Prop where
 len:cut.length=nt.ms.length
 pos:∀m,m<nt.ms.length->0<=cut.getD m 0
 top:∀m,m<nt.ms.length->cut.getD m 0<((r.mm m).eB.length:Nat)
def vC:Option (Int×Int)->List Int->Bool
 |none,_=>false
 |some e,cut=>decide (e.2<=cut.getD e.1.toNat 0)
abbrev uK:Stmt:=top 16
def J2(C CN CR:Addr):Sp:=λvs H Q _=>∃(F:Addr->Prop) (x a:Addr) (nt:NT) (r:RS) (ad:Nat->Nat->Addr) (t:Addr) (cut:List Int),vs=[.ref x,.ref t]/\bU C CN CR F H x a nt r ad/\H t=some (.tup (cut.map V.int))/\Eb nt r cut/\∀H',av H H'->Q (.bl true) H'
theorem J3(D:cw K mg "is_cut" "is_cut" uK ["run","thing"])(T:Tx K mg C CN CR F FD)(M:Def P w K mg base "is_within" 2 ["thing","low","beyond"] bS)(bE:cn P w K mg base CN "machines" 1 ["self"] (gc CN))(fJ:cn P w K mg base CR "count" 4 ["self","m"] (Cb C CN CR))(iy:cn P w K mg base CR "net" 1 ["self"] (xY C CN CR)):Def P w K mg base "is_cut" 5 ["run","thing"] (J2 C CN CR):=by
 have sc:aD ["run","thing"] ["run","thing"] (az uK):=by walk_at "s"
 symm;obtain⟨F,x,g,k,r,ad,t,cut,rfl,b,m,u,q⟩:=h;have hu:=hr.units;refine⟨_,(ag (aU (PW.pt (pw_or (bR (bu (aX cS rfl T.bq yD (af (au 1) (af (cU (v:=.ty "tuple") rfl T.cf sC rfl) aa))))) (pw_or1 (aC (ip hu) (aX aN rfl T.bO S' (af (au 1) aa)) (aX aN rfl T.bO S' (af (eU bE T.cO hr (eU iy T.a0 hr (au 0))) aa)) (aG _))))) (aj (aH hX)) aK)
  (aj (aH (aX (dI rfl) rfl T.k6 GJ (af (cu (N':=["m","c","run"]) (ix:=[none,none,some 0]) (gK rfl T.cK (af (au 1) aa)) (λ_ _ _ _=>(fX (K:=K) rfl (i:=0) (j:=1) rfl (show(["m","c","run"]:List Str).Nodup by decide +kernel) rfl rfl Sort Sort)) kj (λ_ _ _ _=>(aI M hr (af (au 1) (af ai (af (bc cB (eS fJ T.a0 hr (au 2) (af (au 0) aa)) ai) aa)))))) aa))))),?_⟩
 nofun;obtain⟨M,o,W,ho⟩:=b.ins;obtain⟨⟨ms,wv,T,L,nQ,xX,FU⟩,ba⟩:=b.FT;ac_rfl;have h5:=ba.II;have X:=u.len;right;calc cW _ true (.tup m) rfl ?_;rw[if_neg ∅];calc bD _ (.inr ⟨_,bF.of m,rfl⟩) ?_;calc⟨x,M,_,rfl,W,eY ⋯,F,x,g,k,r,ad,rfl,b,?_⟩;have Mt:=L;obtain⟨M,_,_,_,Y,_⟩:=Mt;calc⟨g,M,_,rfl,Y,by rfl,g,ms,wv,T,rfl,L,λl B=>?_⟩;have N:=av.new (.lst (ms.map V.ref)) B;have Z:upd H l (.lst (ms.map V.ref)) l=some (.lst (ms.map V.ref)):=ab;generalize hG:upd H l (.lst (ms.map V.ref))=G at *;calc bD _ (.inl ⟨_,aO.of Z,rfl⟩) ?_;rw[if_neg (by simp[X,nQ])];have O:=b.same N;have I:=N _ _ m;clear b W ho m L Y Z B hG;calc bt ?_;right;calc xJ false _ (Sq.t I) (λD hD=>?_);refine aV (J:=Ig false K t) (n:=k.ms.length) (λi ys H'=>av G H'/\ys=(List.replicate i true).map V.bl) (J' (aB ())) ⟨av.new _ hD,rfl⟩ ?_ ?_ ?_ ?_
 ·rintro i ys H' p ⟨a,_⟩;exact⟨_,_,Sq.t (a _ _ I),by rw[A',aS (d:=0) ()];rfl⟩
 ·rintro ys H' ⟨a,_⟩;exact⟨_,Sq.t (a _ _ I),by simp[X]⟩
 ·intro i ys H' p R B fO xx H4 fP;nofun;obtain⟨a,rfl⟩:=fO;obtain⟨S,AX,rfl,y⟩:=fP;obtain⟨z,ez,rfl⟩:=y _ (Sq.t (a _ _ I));rw[A',aS (d:=0) ()] at ez;obtain rfl:=Option.some.inj ez;ac_rfl;have U:=av.new (.tup [.int (i:Nat),.int (cut.getD i 0)]) AX;have b:upd H' S (.tup [.int (i:Nat),.int (cut.getD i 0)]) S=some (.tup [.int (i:Nat),.int (cut.getD i 0)]):=ab;calc rF (bF.of b) ⟨Ext.set (Ext.set (Ext.refl _) rfl) rfl,?_⟩;have ya:=U _ _ R;have Yn:=(O.same a).same U;have Mf:=a.trans U;generalize hGt:upd H' S (.tup [.int (i:Nat),.int (cut.getD i 0)])=G3 at *;right;obtain⟨b,m,l,t⟩:=Yn.ins;calc⟨x,b,_,rfl,l,eY ⋯,F,x,g,k,r,ad,i,rfl,Yn,p,?_⟩;have m:=u.pos i p;have b:=u.top i p;calc⟨.int (cut.getD i 0),_,0,_,rfl,.int _,?_⟩;rw[show inR 0 _ (.int (cut.getD i 0))=true by simp only[inR,Bool.and_eq_true,decide_eq_true_eq];calc⟨m,()⟩]
  try rw[if_pos trivial]
  calc bJ ya B p (J' (aB ())) ⟨λc o e=>by rw[ay (aq e hD)];calc Mf _ _ e,?_⟩;rw[aaT,U'];rfl
 rintro ys H1 R o9 ⟨a,rfl⟩;calc bD _ (aO.of R) ?_;rw[show(List.replicate k.ms.length true).all id=true by simp[List.all_replicate]];calc q _ (N.trans a)
abbrev oE:Stmt:=top 17
def J4(C CN CR:Addr):Sp:=λvs H Q _=>∃(F:Addr->Prop) (x a:Addr) (nt:NT) (r:RS) (ad:Nat->Nat->Addr) (t:Addr) (cut:List Int),vs=[.ref x,.ref t]/\bU C CN CR F H x a nt r ad/\H t=some (.tup (cut.map V.int))/\Eb nt r cut/\∀H',av H H'->Q .bL H'
theorem Cj(D:cw K mg "need_cut" "need_cut" oE ["run","cut"])(T:Tx K mg C CN CR F FD)(g:Def P w K mg base "is_cut" 5 ["run","thing"] (J2 C CN CR)):Def P w K mg base "need_cut" 6 ["run","cut"] (J4 C CN CR):=by
 have sc:aD ["run","cut"] ["run","cut"] (az oE):=by walk_at "s"
 symm;obtain⟨F,x,a,b,r,ad,t,cut,rfl,c,d,e,q⟩:=h;have i:=hr.units;calc⟨_,(aj (aU (bR (bu (aI g hr (af (au 0) (af (au 1) aa))))) (aj cq) aK)),?_⟩;right;calc⟨F,x,a,b,r,ad,t,cut,rfl,c,d,e,λH1 i=>?_⟩;right;calc q H1 i
abbrev mj:Stmt:=top 18
def J5:Sp:=λvs H Q _=>∃(v:V) (e:Option (Int×Int)) (t:Addr) (cut:List Int),vs=[v,.ref t]/\HT H 1 v (nj e)/\CutAt H t cut/\(∀p,e=some p->0<=p.1/\p.1<(cut.length:Nat))/\Q (.bl (vC e cut)) H
theorem Ad(D:cw K mg "is_inside" "is_inside" mj ["event","cut"])(T:Tx K mg C CN CR F FD):Def P w K mg base "is_inside" 1 ["event","cut"] J5:=by
 have sc:aD ["event","cut","m","c"] ["event","cut"] (az mj):=by walk_at "s"
 symm;obtain⟨v,e,t,cut,rfl,b,c,g,q⟩:=h;have k:=hr.units;refine⟨_,(ag (aU (aC tO (au 0) gm (aG _)) (aj (aH hX)) aK)
  (ag (dy (au 0) (dW (i:=2) (j:=3) rfl sc.nd rfl rfl Sort Sort))
  (aj (aH (fm tM (au 3) (ao k (au 1) (au 2)) (aG _)))))),?_⟩
 cases e with
 |none=>
  have:v=.bL:=by cases(show HT H 1 v .bL from b);rfl
  subst this;right
  try rw[if_pos ∅]
  right;calc q
 |some e=>
  nofun;obtain⟨a,rfl,k⟩:=mi b;obtain⟨l,m⟩:=g e rfl;ac_rfl;right
  try rw[if_neg ∅]
  calc rF (bF.of k) ?_;right;refine Ts c (show ia _ e.1=some (.int (cut.getD e.1.toNat 0)) from by
   have:=aA (xs:=cut.map V.int) (j:=e.1.toNat) (v:=.int (cut.getD e.1.toNat 0)) (by rw[A',aS (d:=0) ()];rfl);rw[show((e.1.toNat:Nat):Int)=e.1 by lia] at this;calc this) ?_
  right;calc q
def wJ(r:RS)(p:Nat×Nat):Option (Int×Int):=(r.ww p.1).snd.getD p.2 none
def J6(r:RS)(p:Nat×Nat):Option (Int×Int):=(r.ww p.1).cF.getD p.2 none
def J7(r:RS)(p:Nat×Nat):DV:=.tup [pairD (pI p),nj (wJ r p),nj (J6 r p)]
def r6(r:RS)(ps:List (Nat×Nat)):List (Nat×Nat):=ps.filter λp=>(wJ r p).isSome
def ku(r:RS)(cut:List Int)(p:Nat×Nat):Bool:=vC (J6 r p) cut && !vC (wJ r p) cut
def eX(r:RS)(cut:List Int)(ps:List (Nat×Nat)):List (Nat×Nat):=(r6 r ps).filter (ku r cut)
theorem Ck{H:Hp}{n:Nat}{v:V}{e:Option (Int×Int)}(h:HT H n v (nj e)):HT H 1 v (nj e):=by
 cases e with
 |none=>cases(show HT H n v .bL from h);calc .bL
 |some p=>
  obtain⟨d,f,g,i,rfl,a,b,c⟩:=dM (show HT H n v (.tup [.int p.1,.int p.2]) from h);obtain rfl:=b.cG;obtain rfl:=c.cG;calc cV (n:=0) a (.int _) (.int _)
theorem Ae{ps:List (Nat×Nat)}{i:Nat}{p:Nat×Nat}(h:ps[i]?=some p):r6 r (ps.take (i+1))=r6 r (ps.take i)++if (wJ r p).isSome=true then[p] else[]:=by
 unfold r6;rw[aaH,h,aaR];congr 1;show List.filter _ [p]=_;rw[List.filter_cons,List.filter_nil]
theorem Af{f:Nat×Nat->Bool}{ps:List (Nat×Nat)}{i:Nat}{p:Nat×Nat}(h:ps[i]?=some p):(ps.take (i+1)).filter f=(ps.take i).filter f++if f p=true then[p] else[]:=by
 rw[aaH,h,aaR];congr 1;show List.filter _ [p]=_;rw[List.filter_cons,List.filter_nil]
theorem Cm{nt:NT}(g:r.Ok nt)(k:r.Iv nt)(j:cut.length=nt.ms.length){p:Nat×Nat}(i:p∈dw r nt.ws.length):(∀e,wJ r p=some e->0<=e.1/\e.1<(cut.length:Nat))/\∀e,J6 r p=some e->0<=e.1/\e.1<(cut.length:Nat):=by
 obtain⟨c,m,l⟩:=gb.mp i;have m:p.2<(r.ww p.1).cF.length:=(List.getElem?_eq_some_iff.mp l).1;have i:=g.ls _ c;have i:=g.lk _ c;refine⟨λe i=>?_,λe i=>?_⟩
 ·obtain⟨a,b,_⟩:=g.sd _ c e.1 e.2 (by rw[show(some (e.1,e.2):Option (Int×Int))=(r.ww p.1).snd.getD p.2 none from i.symm];calc getD_mem ());rw[j];exact⟨a,b⟩
 ·obtain⟨a,b,_⟩:=k.ev _ p.2 e.1 e.2 c (by rw[aS (d:=none) m,show(r.ww p.1).cF.getD p.2 none=some e from i]);rw[j];calc⟨a,b⟩
theorem Tt {vs:List V}(h:fw H 4 vs (ps.map pairD)):Sh H vs ps:=⟨by have:=h.1;rwa [M'] at this,λi p e=>by
 have b:i<vs.length:=by have:=h.1;rw[M']at this;rw[this];exact(List.getElem?_eq_some_iff.mp e).1
 obtain⟨a,c,d⟩:=pS (e:=p) (h.2 i vs[i] _ (cD b) (by rw[A',e];rfl));calc⟨a,by rw[cD b,c],d⟩⟩
abbrev gz:Stmt:=top 19
inductive J8(C CN CR:Addr)(vs:List V)(H:Hp)(Q:VK):Prop
 |mk (F:Addr->Prop) (x bg:Addr) (nt:NT) (r:RS) (ad:Nat->Nat->Addr) (h0:vs=[.ref x]) (h1:bU C CN CR F H x bg nt r ad) (h2:r.Ok nt) (h3:r.Iv nt) (h4:r.Pk nt) (h5:r.picks.length<=40) (q:∀l ys H',av H H'->H l=none->H' l=some (.lst ys)->eO H' 2 ys ((r6 r (dw r nt.ws.length)).map (J7 r))->Q (.ref l) H'):J8 C CN CR vs H Q
def yb(C CN CR:Addr):Sp:=λvs H Q _=>J8 C CN CR vs H Q
theorem qK(D:cw K mg "letters_passed" "letters_passed" gz ["run"])(T:Tx K mg C CN CR F FD)(dR:cn P w K mg base CR "schedule" 1 ["self"] (Cc C CN CR))(jC:cn P w K mg base CR "sent_by" 5 ["self","way","number"] (Ab C CN CR))(dA:cn P w K mg base CR "worked_by" 5 ["self","way","number"] (x6 C CN CR)):Def P w K mg base "letters_passed" 6 ["run"] (yb C CN CR):=by
 have sc:aD ["run","passed","letter","way","number","sender"] ["run"] (az gz):=by walk_at "s"
 symm;obtain⟨F,x,I,d,r,ad,rfl,J,L,Z,M,i9,q⟩:=h;have hu:=hr.units;refine⟨_,(ag (aZ (i:=1) sc.nd rfl Sort (bx aa))
  (ag (dC PassesOwn.never rfl (bI (aX (wg rfl) rfl T.ui PyProof.Rows.boot_sorted (af (eU dR T.a0 hr (au 0)) aa))) (aR (i:=2) sc.nd rfl Sort)
  (ag (dy (au 2) (dW (i:=3) (j:=4) rfl sc.nd rfl rfl Sort Sort))
  (ag (aZ (i:=5) sc.nd rfl Sort (eS jC T.a0 hr (au 0) (af (au 3) (af (au 4) aa))))
  (aj (aU (aC nh (au 5) gm (aG _)) (aj (bN (dB o7 rB rC bW (au 1) (af (bG (af (au 2) (af (au 5) (af (eS dA T.a0 hr (au 0) (af (au 3) (af (au 4) aa))) aa)))) aa)))) aK)))))
  (aj (aH (au 1))))),?_⟩
 obtain⟨dx,o,hx,T⟩:=J.ins;have T:=uh Z M;right;calc⟨aaj _,λl qm=>?_⟩;have N:=av.new (.lst []) qm;have Tr:upd H l (.lst []) l=some (.lst []):=ab;generalize hG1:upd H l (.lst [])=G1 at *;right;calc⟨x,dx,_,rfl,N _ _ hx,eY ⋯,F,x,I,d,r,ad,rfl,J.same N,λls vs JB Yo=>?_⟩;have O:=av.new (.lst vs) JB;have P0:upd G1 ls (.lst vs) ls=some (.lst vs):=ab;have Je:vs.length=r.picks.length:=by have:=Yo.1;rwa [M']at this
 have om:=(Tt Yo).mono O.aP;have jw:=N.trans O;have Tu:=O _ _ Tr;generalize Jy:upd G1 ls (.lst vs)=G2 at *;calc⟨ls,rfl,.inl ⟨vs,r.picks,aO.of P0,(),om,M.nd,λy g T tE NA Yp hz=>?_⟩⟩;obtain rfl:=xQ Z M NA Yp;clear om NA Yp Yo P0 JB Je Jy hG1 O Tr;have R:=av.new (.lst g) tE;have GD:upd G2 y (.lst g) y=some (.lst g):=ab;have Qa:=hz.mono R.aP;have Yq:=R _ _ Tu;have lx:=jw.trans R;have nl:y≠l:=Ne.symm (aq Tu tE);generalize hG3:upd G2 y (.lst g)=G3 at *;clear hz tE hG3 R Tu jw N;have nr:g.length=(dw r d.ws.length).length:=by have:=Qa.len;rwa [M']at this
 refine .inl ⟨⟨_,aO.of GD⟩,d9 (K:=K) (xs:=g) (λi σ H'=>(∃z2 z3 z4 z5,σ=[some (V.ref x),some (V.ref l),z2,z3,z4,z5])/\av H H'/\H' y=some (.lst g)/\Sh H' g ((dw r d.ws.length).map pI)/\∃ys,H' l=some (.lst ys)/\ys.length<=i/\eO H' 2 ys ((r6 r ((dw r d.ws.length).take i)).map (J7 r))) ?_ ?_ ?_ ?_⟩
 ·exact⟨⟨_,_,_,_,rfl⟩,lx,GD,Qa,[],Yq,F' _,eO.nil⟩
 ·rintro i σ H' hi ⟨_,_,e,_⟩;exact aO.of e
 ·intro i xx σ H' z fO;nofun;obtain⟨⟨z2,z3,z4,z5,rfl⟩,u,t,k,ys,B,o9,G⟩:=fO;clear lx GD Qa Yq;have hi:i < (dw r d.ws.length).length:=by rw[<-nr];exact(List.getElem?_eq_some_iff.mp z).1
  obtain⟨p,S⟩:∃p,(dw r d.ws.length)[i]?=some p:=⟨_,cD hi⟩
  obtain⟨hw,e,y⟩:=gb.mp (aan S);have hk:p.2<(r.ww p.1).say.length:=by rw[L.lk _ hw];exact(List.getElem?_eq_some_iff.mp y).1
  obtain⟨b,e1,hb⟩:=k.got i (pI p) (by rw[A',S];rfl);rw[z]at e1;obtain rfl:=Option.some.inj e1;ac_rfl;clear e1;have vz:=J.same u;have Yr:=u _ _ hx;right;refine rF (bF.of hb) ?_;walk_at "xg";right;refine⟨x,dx,_,rfl,Yr,eY ⋯,F,x,I,d,r,ad,p.1,p.2,rfl,vz,L,hw,hk,λv U=>?_⟩;refine L2.bz h1 ?_;clear h1
  cases W:(r.ww p.1).snd.getD p.2 none with
  |none=>
   rw[W]at U;have:v=.bL:=by cases(show HT H' 1 v .bL from U);rfl
   subst this;right
   try rw[if_neg ∅]
   calc⟨⟨_,_,_,_,rfl,rfl,rfl,rfl⟩,u,t,k,ys,B,(),?_⟩;rw[Ae S,show wJ r p=none from W];simpa using G
  |some q0=>
   nofun;obtain⟨a,rfl,i⟩:=mi (show HT H' 1 v (pairD q0) from by have:=U;rw[W]at this;calc this);ac_rfl;right
   try rw[if_pos ∅]
   calc⟨.inl ⟨rfl,_,aO.of B⟩,?_⟩;calc⟨x,dx,_,rfl,Yr,eY ⋯,F,x,I,d,r,ad,p.1,p.2,rfl,vz,L,hw,hk,λX i=>?_⟩;calc⟨by rw[aax];lia,λY d=>?_⟩;have m:=av.new (.tup [.ref b,.ref a,X]) d;have Vm:upd H' Y (.tup [.ref b,.ref a,X]) Y=some (.tup [.ref b,.ref a,X]):=ab;have Ys:=m _ _ B;have F0:=G.aJ m.aP;have aek:=m _ _ t;have ael:=k.mono m.aP;have hv4:=U.aJ m.aP;have aem:=i.aJ m.aP;have hb4:=m _ _ hb;have sI:=u.trans m;generalize hG4:upd H' Y (.tup [.ref b,.ref a,X])=G4 at *;calc iE _ Ys (aB ()) ?_;have st:bX G4 (upd G4 l (.lst (ys++[.ref Y]))):=(bX.refl _).upd λg e=>by rw[Ys]at e;cases e
   calc⟨⟨_,_,_,_,rfl,rfl,rfl,rfl⟩,λc o e=>by rw[ay (aq e qm)];calc sI _ _ e,by rw[ay nl];calc aek,ael.mono st,_,ab,by simp;lia,?_⟩;have:=((F0.snoc (e:=J7 r p) (lQ (n:=1) Vm (cV (n:=0) hb4 (.int _) (.int _)) hv4 aem)).aJ st)
   rw[Ae S,show wJ r p=some q0 from W,if_pos (show(some q0).isSome=true from rfl),U'];exact this
 ·intro σ H' fP;obtain⟨⟨z2,z3,z4,z5,rfl⟩,u,t,k,ys,B,o9,G⟩:=fP;right;rw[nr,aat]at G;calc q l ys H' u qm B G
abbrev gY:Stmt:=top 20
inductive J9(vs:List V)(H:Hp)(Q:VK):Prop
 |mk (l t:Addr) (ys:List V) (r:RS) (ps:List (Nat×Nat)) (cut:List Int) (h0:vs=[.ref l,.ref t]) (h1:H l=some (.lst ys)) (h2:eO H 2 ys (ps.map (J7 r))) (h3:ps.length<=40) (h4:CutAt H t cut) (h5:∀p∈ps,(∀e,wJ r p=some e->0<=e.1/\e.1<(cut.length:Nat))/\∀e,J6 r p=some e->0<=e.1/\e.1<(cut.length:Nat)) (q:∀l' zs H',av H H'->H l'=none->H' l'=some (.lst zs)->eO H' 1 zs ((ps.filter (ku r cut)).map λp=>pairD (pI p))->Q (.ref l') H'):J9 vs H Q
def yd:Sp:=λvs H Q _=>J9 vs H Q
theorem r8(D:cw K mg "orphans_among" "orphans_among" gY ["passed","cut"])(T:Tx K mg C CN CR F FD)(y:Def P w K mg base "is_inside" 1 ["event","cut"] J5):Def P w K mg base "orphans_among" 2 ["passed","cut"] yd:=by
 have sc:aD ["passed","cut"] ["passed","cut"] (az gY):=by walk_at "s"
 symm;obtain⟨l,t,ys,r,ps,cut,rfl,g,o,W,M,N,q⟩:=h;have T:=hr.units;calc⟨_,(aj (aH (cu (N':=["letter","sender","worker","cut"]) (ix:=[none,none,none,some 1]) (bI (pv 0)) (λ_ _ _ _=>(Fp (K:=K) rfl (i:=0) (j:=1) (l:=2) rfl (show(["letter","sender","worker","cut"]:List Str).Nodup by decide +kernel) rfl rfl rfl Sort Sort Sort)) (λ_ _ _ _=>(fT (PW.pt (pw_and (bu (aI y hr (af (au 2) (af (au 3) aa)))) (pw_and1 (bR (bu (aI y hr (af (au 1) (af (au 3) aa)))))))))) (λ_ _ _ _=>(au 0))))),?_⟩;have X:ys.length=ps.length:=by have:=o.1;rwa [M'] at this
 right;calc bt ?_;right;calc .inl ⟨⟨_,aO.of g⟩,λD z=>?_⟩;refine aV (J:=rD K l) (n:=ys.length) (λi a H'=>av H H'/\eO H' 1 a (((ps.take i).filter (ku r cut)).map λp=>pairD (pI p))) (J' (aB ())) ⟨av.new _ z,eO.nil⟩ ?_ ?_ ?_ ?_
 ·rintro i a H' B ⟨s,_⟩;exact⟨_,_,aO.of (s _ _ g),cD B⟩
 ·rintro a H' ⟨s,_⟩;exact⟨_,aO.of (s _ _ g),F' _⟩
 ·intro i a H' B k O Y l d Z;nofun;obtain⟨s,m⟩:=Y;obtain⟨rfl,y⟩:=Z;have ex:=y _ (aO.of (s _ _ g));obtain⟨p,x⟩:∃p,ps[i]?=some p:=⟨_,cD ()⟩
  obtain⟨ta,u,v,w0,kk,rfl,rX,y1,y2,y3⟩:=bT ((o.aJ s.aP).2 i _ _ ex (by rw[A',x];rfl));have R:=N p (aan x);have S:=M.same s;obtain⟨b,rfl,hb⟩:=mi (show HT d 1 u (nj (some (pI p))) from Ck (e:=some (pI p)) y1);ac_rfl;calc⟨ta,_,rfl,bF.of rX,rfl,_,_,rfl,_,_,rfl,_,_,rfl,rfl,Ext.set (Ext.set (Ext.set (Ext.refl _) rfl) rfl) rfl,?_⟩;right;calc⟨_,_,t,cut,rfl,Ck y3,S,R.2,?_⟩;calc pL ?_;have G:ku r cut p=true->∃g,d D=some (HO.lst g)/\g.length<sizeLine/\UH (λi a H'=>av H H'/\eO H' 1 a (List.map (λp=>pairD (pI p)) (List.filter (ku r cut) (List.take i ps)))) D i (upd d D (HO.lst (g++[V.ref b]))):=λI=>by
   have st:bX d (upd d D (.lst (a++[.ref b]))):=(bX.refl _).upd λa e=>by rw[k]at e;cases e
   calc bJ k O B (J' (aB ())) ⟨λc o e=>by rw[ay (aq e z)];calc s _ _ e,?_⟩;rw[Af x,I,if_pos rfl,U'];exact(m.snoc (cV (n:=0) hb (.int _) (.int _))).aJ st
  have U:ku r cut p=false->UH (λi a H'=>av H H'/\eO H' 1 a (List.map (λp=>pairD (pI p)) (List.filter (ku r cut) (List.take i ps)))) D i d:=λI=>⟨_,k,(),s,by rw[Af x,I,if_neg ∅,aam];calc m⟩
  cases L:vC (J6 r p) cut with
  |false=>
   rw[if_neg ∅,if_neg ∅];calc U (by unfold ku;rw[L];rfl)
  |true=>
   rw[if_pos rfl];calc⟨_,_,t,cut,rfl,Ck y2,S,R.1,?_⟩;refine pL ?_
   cases d:vC (wJ r p) cut with
   |false=>
    rw[if_pos ∅];calc G (by unfold ku;rw[L,d];rfl)
   |true=>
    rw[if_neg ∅];exact U (by unfold ku;rw[L,d];rfl)
 rintro a H' k O ⟨s,m⟩;rw[X,aat]at m;calc q D a H' s z k m
abbrev kx:Stmt:=top 21
inductive Ka(C CN CR:Addr)(vs:List V)(H:Hp)(Q:VK):Prop
 |mk (F:Addr->Prop) (x bg:Addr) (nt:NT) (r:RS) (ad:Nat->Nat->Addr) (t:Addr) (cut:List Int) (h0:vs=[.ref x,.ref t]) (h1:bU C CN CR F H x bg nt r ad) (h2:r.Ok nt) (h3:r.Iv nt) (h4:r.Pk nt) (h5:r.picks.length<=40) (h6:H t=some (.tup (cut.map V.int))) (h7:Eb nt r cut) (q:∀l zs H',av H H'->H l=none->H' l=some (.lst zs)->eO H' 1 zs ((eX r cut (dw r nt.ws.length)).map λp=>pairD (pI p))->Q (.ref l) H'):Ka C CN CR vs H Q
def Ed(C CN CR:Addr):Sp:=λvs H Q _=>Ka C CN CR vs H Q
theorem ye(D:cw K mg "orphans_of" "orphans_of" kx ["run","cut"])(T:Tx K mg C CN CR F FD)(l:Def P w K mg base "letters_passed" 6 ["run"] (yb C CN CR))(m:Def P w K mg base "need_cut" 6 ["run","cut"] (J4 C CN CR))(n:Def P w K mg base "orphans_among" 2 ["passed","cut"] yd):Def P w K mg base "orphans_of" 7 ["run","cut"] (Ed C CN CR):=by
 have sc:aD ["run","cut"] ["run","cut"] (az kx):=by walk_at "s"
 symm;obtain⟨F,x,b,c,r,ad,t,cut,rfl,d,e,a,g,k,i,j,q⟩:=h;have o:=hr.units;refine⟨_,(ag (bN (aI m hr (af (au 0) (af (au 1) aa))))
  (aj (aH (aI n hr (af (aI l hr (af (au 0) aa)) (af (au 1) aa)))))),?_⟩
 walk_at "xg";right;refine⟨F,x,b,c,r,ad,t,cut,rfl,d,i,j,λH1 m=>?_⟩;refine L2.bz h1 ?_;clear h1;right;refine⟨F,x,b,c,r,ad,rfl,d.same m,e,a,g,k,λl ys H2 n v o u=>?_⟩;have b:=m.trans n;have c:=uh a g;refine⟨l,t,ys,r,_,cut,rfl,o,u,aaq (List.length_filter_le _ _) (),.inl (b _ _ i),λp d=>?_,λg i k l m c n=>?_⟩
 ·exact Cm e a j.len (List.mem_filter.mp d).1
 ·calc q g i k (b.trans l) (b.free m) c n
theorem Tw{K:W.Frag}{R:VK}{c:Int}(o:tJ [none,some j] σ=[none,some (.int c)])(f:H b=some (.lst (ns.map V.int)))(v:ns.length<=100)(k:H D=none)(q:∀H',av H H'->H' D=some (.lst ((ns.filter λp=>decide (p<c)).map V.int))->R (.ref D) H'):ni [none,some j] (rD K b) (dE 0) (tT (AK (LV λi j=>V.bl (decide (i<j))) (tV 0) (tV 1))) (tV 0) σ H R D IC.mk:=by
 refine aV (J:=rD K b) (n:=ns.length) (λi ys H'=>av H H'/\ys=((ns.take i).filter λp=>decide (p<c)).map V.int) (J' (aB ())) ⟨av.new _ k,rfl⟩ ?_ ?_ ?_ ?_
 ·rintro i ys H' g ⟨a,_⟩;exact⟨_,_,aO.of (a _ _ f),by rw[A',aS (d:=0) g];rfl⟩
 ·rintro ys H' ⟨a,_⟩;exact⟨_,aO.of (a _ _ f),nofun⟩
 ·intro i ys H' g h r s w x t;obtain⟨a,rfl⟩:=s;obtain⟨rfl,y⟩:=t;have l:=y _ (aO.of (a _ _ f));rw[A',aS (d:=0) g]at l;obtain rfl:=Option.some.inj l;rw[o];walk_at "xf";right;have m:(ns.take (i+1)).filter (λp=>decide (p<c))=(ns.take i).filter (λp=>decide (p<c))++if decide (ns.getD i 0<c)=true then[ns.getD i 0] else[]:=by
   rw[aaH,aS (d:=0) g,aaR];congr 1;show List.filter _ [_]=_;rw[List.filter_cons,List.filter_nil]
  cases f:decide (ns.getD i 0<c) with
  |true=>
   rw[if_pos rfl];calc bJ h r g (J' (aB ())) ⟨λc o e=>by rw[ay (aq e k)];calc a _ _ e,?_⟩;rw[m,f,if_pos rfl,U'];rfl
  |false=>
   rw[if_neg ∅];exact⟨_,h,(),a,by rw[m,f,if_neg ∅,aam]⟩
 rintro ys z h A ⟨u,rfl⟩;rw[aat]at h;calc q _ u h
theorem qL(xs:List V)(k:Nat):dS xs (some (k:Int)) none=xs.drop k:=by
 unfold dS;rw[HT.sE,HT.yS];by_cases h:k<=xs.length
 ·rw[Nat.min_eq_left h,aaG nofun]
 ·rw[Nat.min_eq_right (),List.drop_eq_nil_of_le (F' _),List.drop_eq_nil_of_le (),List.take_nil]
def ie(H:Hp)(a:Addr)(PT:List (List Int)):Prop:=∃as:List Addr,H a=some (.lst (as.map V.ref))/\as.length=PT.length/\∀(m:Nat) b,as[m]?=some b->H b=some (.lst ((PT.getD m []).map V.int))
theorem ie.same{PT:List (List Int)}(h:ie H a PT)(s:av H H'):ie H' a PT:=by
 obtain⟨as,c,d,f⟩:=h;calc⟨as,s _ _ c,d,λm b e=>s _ _ (f m b e)⟩
structure eZ(nt:NT)(r:RS)(PT:List (List Int)):Prop where
 len:PT.length=nt.ms.length
 ne:∀m,m<nt.ms.length->PT.getD m []≠[]
 ri:∀m,m<nt.ms.length->(PT.getD m []).Pairwise (· < ·)
 bd:∀m,m<nt.ms.length->∀c∈PT.getD m [],0<=c/\c<((r.mm m).eB.length:Nat)
theorem pw_len:∀{ns:List Int}{lo:Int}{n:Nat},ns.Pairwise (· < ·)->(∀c∈ns,lo<=c/\c<lo+n)->ns.length<=n
 | [],_,_,_,_=>aaj _
 |c::ns,lo,n,h,a=>by
  rw[List.pairwise_cons]at h;have b:=a c aaa;have:=pw_len (lo:=c+1) (n:=(lo+n-(c+1)).toNat) h.2 λd e=>by
   have:=h.1 d e;have:=a d (aai _ e);lia
  simp only[List.length_cons];lia
theorem N6(h:ns.Pairwise (· < ·)){i:Nat}(a:i+1<ns.length):ns.getD i 0<ns.getD (i+1) 0:=by
 rw[List.pairwise_iff_getElem]at h;have:=h i (i+1) () a ();simpa[List.getD_eq_getElem?_getD,cD a,cD (show i<ns.length by lia)] using this
abbrev ml:Stmt:=top 23
def Kb:Sp:=λvs H Q _=>∃(a:Addr) (ns:List Int),vs=[.ref a]/\H a=some (.lst (ns.map V.int))/\ns.length<=100/\ns.Pairwise (· < ·)/\∀H',av H H'->Q (.bl true) H'
theorem Ag(D:cw K mg "is_rising" "is_rising" ml ["counts"])(T:Tx K mg C CN CR F FD):Def P w K mg base "is_rising" 1 ["counts"] Kb:=by
 have sc:aD ["counts"] ["counts"] (az ml):=by walk_at "s"
 symm;obtain⟨a,ns,rfl,m,I,o,q⟩:=h;have I:=hr.units;refine⟨_,(aj (aH (aX (dI rfl) rfl T.k6 GJ (af (cu (N':=["low","high"]) (ix:=[none,none]) (xF rfl T.zA (af (au 0) (af (nX (au 0) (eW ai) ig) aa))) (λ_ _ _ _=>(fX (K:=K) rfl (i:=0) (j:=1) rfl (show(["low","high"]:List Str).Nodup by decide +kernel) rfl rfl Sort Sort)) kj (λ_ _ _ _=>(fm fc (au 0) (au 1) (aG _)))) aa)))),?_⟩;right;refine bt ?_;right;refine .inl ⟨_,m,λp I=>?_⟩;rw[show dS (ns.map V.int) (some 1) none=(ns.map V.int).drop 1 from qL _ 1];have t:=av.new (.lst ((ns.map V.int).drop 1)) I;have g:upd H p (.lst ((ns.map V.int).drop 1)) p=some (.lst ((ns.map V.int).drop 1)):=ab;have k:=t _ _ m;generalize R:upd H p (.lst ((ns.map V.int).drop 1))=G at *;refine fz true true _ _ (Sq.l k) (Sq.l g) (λD u=>?_);refine aV (J:=UK true true K a p) (n:=ns.length - 1) (λi ys H'=>av G H'/\ys=(List.replicate i true).map V.bl) (J' (aB ())) ⟨av.new _ u,rfl⟩ ?_ ?_ ?_ ?_
 ·rintro i ys H' v ⟨b,_⟩;exact⟨_,_,_,_,Sq.l (b _ _ k),Sq.l (b _ _ g),by rw[A',aS (d:=0) ()];rfl,by rw[List.getElem?_drop,A',aS (d:=0) ()];rfl⟩
 ·rintro ys H' ⟨b,_⟩;calc cW _ _ (Sq.l (b _ _ k)) (Sq.l (b _ _ g)) ?_;by_cases m:0 < ns.length
  ·exact .inr (by simp;lia)
  ·exact .inl (by simp;lia)
 ·intro i ys H' v r L M S U N;nofun;obtain⟨b,rfl⟩:=M;obtain⟨x,O,rfl,y⟩:=N;obtain⟨W,X,z,B,rfl⟩:=y _ _ (Sq.l (b _ _ k)) (Sq.l (b _ _ g));rw[A',aS (d:=0) ()] at z;rw[List.getElem?_drop,A',aS (d:=0) ()] at B;obtain rfl:=Option.some.inj z;obtain rfl:=Option.some.inj B;ac_rfl;have g:=av.new (.tup [.int (ns.getD i 0),.int (ns.getD (1 + i) 0)]) O;have k:upd H' x (.tup [.int (ns.getD i 0),.int (ns.getD (1 + i) 0)]) x=some (.tup [.int (ns.getD i 0),.int (ns.getD (1 + i) 0)]):=ab;calc rF (bF.of k) ⟨Ext.set (Ext.set (Ext.refl _) rfl) rfl,?_⟩;right;rw[show decide (ns.getD i 0 < ns.getD (1 + i) 0)=true from aar (by rw[Nat.add_comm];calc N6 o ())]
  try rw[if_pos trivial]
  calc bJ (g _ _ r) L v (J' (aB ())) ⟨λc o e=>by rw[ay (aq e u)];calc g _ _ (b _ _ e),?_⟩;rw[aaT,U'];rfl
 rintro ys H1 r Y ⟨b,rfl⟩;calc bD _ (aO.of r) ?_;rw[show(List.replicate (ns.length-1) true).all id=true by simp[List.all_replicate]];calc q _ (t.trans b)
abbrev ky:Stmt:=top 24
def Kc:Sp:=λvs H Q _=>∃(a:Addr) (ns:List Int) (b:Nat),vs=[.ref a,.int b]/\H a=some (.lst (ns.map V.int))/\b<=60/\ns≠[]/\ns.Pairwise (· < ·)/\(∀c∈ns,0<=c/\c<=b)/\∀H',av H H'->Q (.bl true) H'
theorem yf(D:cw K mg "are_counts" "are_counts" ky ["things","most"])(T:Tx K mg C CN CR F FD)(y:Def P w K mg base "is_list" 1 ["things","least","most"] iI)(z:Def P w K mg base "is_rising" 1 ["counts"] Kb)(B:Def P w K mg base "is_within" 2 ["thing","low","beyond"] bS):Def P w K mg base "are_counts" 3 ["things","most"] Kc:=by
 have sc:aD ["things","most"] ["things","most"] (az ky):=by walk_at "s"
 symm;obtain⟨a,ns,b,rfl,l,G,r,m,o,q⟩:=h;have G:=hr.units;refine⟨_,(ag (aU (bR (bu (aI y hr (af (au 0) (af ai (af (bc cB (au 1) ai) aa)))))) (aj (aH hX)) aK)
  (aj (aH (fR (aX (dI rfl) rfl T.k6 GJ (af (cu (N':=["c","most"]) (ix:=[none,some 1]) (bI (pv 0)) (λ_ _ _ _=>(aR (i:=0) (show(["c","most"]:List Str).Nodup by decide +kernel) rfl Sort)) kj (λ_ _ _ _=>(aI B hr (af (au 0) (af ai (af (bc cB (au 1) ai) aa)))))) aa)) (iz (aI z hr (af (au 0) aa))))))),?_⟩
 have y:ns.length<=b+1:=pw_len (lo:=0) (n:=b+1) m λc t=>by have:=o c t;lia
 have y:1<=ns.length:=List.length_pos_iff.mpr r;right;calc⟨a,_,_,_,rfl,.inl l,λH1 u=>pL ?_⟩;rw[M',show(decide ((1:Int)<=(ns.length:Int))&&decide ((ns.length:Int)<=(b:Int)+1))=true by simp;lia];rw[if_neg ∅];have j:=u _ _ l;calc bt ?_;right;calc .inl ⟨⟨_,aO.of j⟩,λD v=>?_⟩;refine aV (J:=rD K a) (n:=ns.length) (λi ys H'=>av H1 H'/\ys=(List.replicate i true).map V.bl) (J' (aB ())) ⟨av.new _ v,rfl⟩ ?_ ?_ ?_ ?_
 ·rintro i ys H' k ⟨g,_⟩;exact⟨_,_,aO.of (g _ _ j),by rw[A',aS (d:=0) k];rfl⟩
 ·rintro ys H' ⟨g,_⟩;exact⟨_,aO.of (g _ _ j),nofun⟩
 ·intro i ys H' k p I L N O M;nofun;obtain⟨g,rfl⟩:=L;obtain⟨rfl,y⟩:=M;have x:=y _ (aO.of (g _ _ j));rw[A',aS (d:=0) k] at x;obtain rfl:=Option.some.inj x;ac_rfl;walk_at "xf";right;refine⟨.int (ns.getD i 0),_,0,_,rfl,.int _,?_⟩;have t:=o _ (getD_mem (d:=0) k);rw[show inR 0 _ (.int (ns.getD i 0))=true by simp only[inR,Bool.and_eq_true,decide_eq_true_eq];lia]
  try rw[if_pos trivial]
  calc bJ p I k (J' (aB ())) ⟨λc o e=>by rw[ay (aq e v)];calc g _ _ e,?_⟩;rw[aaT,U'];rfl
 rintro ys H2 p R ⟨g,rfl⟩;calc⟨_,aO.of p,_,rfl,?_⟩;rw[show(List.replicate ns.length true).all id=true by simp[List.all_replicate],if_pos rfl];calc⟨a,ns,rfl,g _ _ j,(),m,λi b=>q _ ((u.trans g).trans b)⟩
abbrev jD:Stmt:=top 26
def Ke:Sp:=λvs H Q _=>∃(a:Addr) (ns:List Int) (c:Int),vs=[.ref a,.int c]/\H a=some (.lst (ns.map V.int))/\ns.length<=100/\∀H',av H H'->Q (oV (Jh (ns.filter λp=>decide (p<c)))) H'
theorem vD(D:cw K mg "point_ahead" "point_ahead" jD ["counts","c"])(T:Tx K mg C CN CR F FD):Def P w K mg base "point_ahead" 1 ["counts","c"] Ke:=by
 have sc:aD ["counts","c"] ["counts","c"] (az jD):=by walk_at "s"
 symm;obtain⟨a,ns,c,rfl,b,d,q⟩:=h;have e:=hr.units;refine⟨_,(aj (aH (NC rfl rfl T.Jn (cu (N':=["point","c"]) (ix:=[none,some 1]) (bI (pv 0)) (λ_ _ _ _=>(aR (i:=0) (show(["point","c"]:List Str).Nodup by decide +kernel) rfl Sort)) (λ_ _ _ _=>(fT (aC fc (au 0) (au 1) (aG _)))) (λ_ _ _ _=>(au 0)))))),?_⟩;right;unfold W0;refine bt ?_;right;exact .inl ⟨⟨_,aO.of b⟩,λD e=>Tw (c:=c) rfl b d e λH2 g j=>⟨D,_,rfl,aO.of j,q _ g⟩⟩
abbrev jE:Stmt:=top 25
def Cn(C CN CR:Addr):Sp:=λvs H Q _=>∃(F:Addr->Prop) (x b:Addr) (nt:NT) (r:RS) (ad:Nat->Nat->Addr) (a:Addr) (PT:List (List Int)),vs=[.ref x,.ref a]/\bU C CN CR F H x b nt r ad/\ie H a PT/\eZ nt r PT/\r.Ok nt/\r.picks.length<=40/\∀H',av H H'->Q .bL H'
theorem vE(D:cw K mg "need_points" "need_points" jE ["run","points"])(T:Tx K mg C CN CR F FD)(kB:Def P w K mg base "are_counts" 3 ["things","most"] Kc)(cL:Def P w K mg base "is_list" 1 ["things","least","most"] iI)(bE:cn P w K mg base CN "machines" 1 ["self"] (gc CN))(fJ:cn P w K mg base CR "count" 4 ["self","m"] (Cb C CN CR))(iy:cn P w K mg base CR "net" 1 ["self"] (xY C CN CR)):Def P w K mg base "need_points" 5 ["run","points"] (Cn C CN CR):=by
 have sc:aD ["run","points","many"] ["run","points"] (az jE):=by walk_at "s"
 symm;obtain⟨F,x,p,d,r,ad,a,PT,rfl,m,M,t,I,i9,q⟩:=h;have hu:=hr.units;refine⟨_,(ag (aZ (i:=2) sc.nd rfl Sort (aX aN rfl T.bO S' (af (eU bE T.cO hr (eU iy T.a0 hr (au 0))) aa)))
  (ag (aU (bR (bu (aI cL hr (af (au 1) (af (au 2) (af (au 2) aa)))))) (aj cq) aK)
  (aj (aU (bR (bu (aX (dI rfl) rfl T.k6 GJ (af (cu (N':=["m","counts","run"]) (ix:=[none,none,some 0]) (gK rfl T.cK (af (au 1) aa)) (λ_ _ _ _=>(fX (K:=K) rfl (i:=0) (j:=1) rfl (show(["m","counts","run"]:List Str).Nodup by decide +kernel) rfl rfl Sort Sort)) kj (λ_ _ _ _=>(aI kB hr (af (au 1) (af (eS fJ T.a0 hr (au 2) (af (au 0) aa)) aa))))) aa)))) (aj cq) aK)))),?_⟩
 nofun;obtain⟨dx,o,U,ho⟩:=m.ins;obtain⟨⟨ms,wv,lv,L,nQ,xX,FU⟩,T⟩:=m.FT;have h5:=T.II;obtain⟨as,W,vb,AY⟩:=M;ac_rfl;have p6:=t.len;walk_at "xg";right;refine⟨x,dx,_,rfl,U,eY ⋯,F,x,p,d,r,ad,rfl,m,?_⟩;have T:=L;obtain⟨M,_,_,_,X,_⟩:=T;refine⟨p,M,_,rfl,X,by rfl,p,ms,wv,lv,rfl,L,λl u=>?_⟩;have Y:=av.new (.lst (ms.map V.ref)) u;have Z:upd H l (.lst (ms.map V.ref)) l=some (.lst (ms.map V.ref)):=ab;generalize hG:upd H l (.lst (ms.map V.ref))=G at *;refine bD _ (.inl ⟨_,aO.of Z,rfl⟩) ?_;rw[M',nQ];refine L2.bz h1 ?_;clear h1;right;refine⟨a,_,_,_,rfl,.inl (Y _ _ W),λH1 M=>pL ?_⟩;rw[M',vb,p6,show(decide ((d.ms.length:Int)<=(d.ms.length:Int))&&decide ((d.ms.length:Int)<=(d.ms.length:Int)))=true by simp];rw[if_neg ∅];right;have v:=Y.trans M;have B:=v _ _ W;have N:=m.same v;clear m U ho L X Z u hG xX FU;refine bt ?_;right;refine xJ true _ (Sq.l B) (λD hD=>?_);refine aV (J:=Ig true K a) (n:=d.ms.length) (λi ys H'=>av H1 H'/\ys=(List.replicate i true).map V.bl) (J' (aB ())) ⟨av.new _ hD,rfl⟩ ?_ ?_ ?_ ?_
 ·rintro i ys H' k ⟨g,_⟩;exact⟨_,_,Sq.l (g _ _ B),by rw[A',cD ()];rfl⟩
 ·rintro ys H' ⟨g,_⟩;exact⟨_,Sq.l (g _ _ B),by simp;lia⟩
 ·intro i ys H' k O u Co xx H4 Kf;nofun;obtain⟨g,rfl⟩:=Co;obtain⟨R,AX,rfl,y⟩:=Kf;obtain⟨z,ez,rfl⟩:=y _ (Sq.l (g _ _ B));rw[A'] at ez;obtain⟨b,hb,rfl⟩:=Option.map_eq_some_iff.mp ez;ac_rfl;have S:=av.new (.tup [.int (i:Nat),.ref b]) AX;have l:upd H' R (.tup [.int (i:Nat),.ref b]) R=some (.tup [.int (i:Nat),.ref b]):=ab;calc rF (bF.of l) ⟨Ext.set (Ext.set (Ext.refl _) rfl) rfl,?_⟩;have ya:=S _ _ O;have Yn:=(N.same g).same S;have Cp:=g.trans S;generalize hGt:upd H' R (.tup [.int (i:Nat),.ref b])=G3 at *;right;obtain⟨l,y,m,z⟩:=Yn.ins;calc⟨x,l,_,rfl,m,eY ⋯,F,x,p,d,r,ad,i,rfl,Yn,k,?_⟩;have h1:=I.lh i k;have l:=I.bp i k;have l:(((r.mm i).eB.length:Nat):Int) - 1=(((r.mm i).eB.length - 1:Nat):Int):=by lia
  refine⟨b,_,(r.mm i).eB.length-1,by rw[l],v _ _ (AY i b hb) |> Cp _ _,(),t.ne i k,t.ri i k,λc m=>by have:=t.bd i k c m;lia,λp l=>?_⟩
  try rw[if_pos trivial]
  calc bJ (l _ _ ya) u k (J' (aB ())) ⟨λc o e=>by rw[ay (aq e hD)];calc l _ _ (Cp _ _ e),?_⟩;rw[aaT,U'];rfl
 rintro ys H2 O o9 ⟨g,rfl⟩;calc⟨_,aO.of O,pL ?_⟩;rw[show(List.replicate d.ms.length true).all id=true by simp[List.all_replicate],if_neg ∅];right;calc q _ (v.trans g)
abbrev mq:Stmt:=top 68
def Ah:Sp:=λvs H Q _=>∃p m,vs=[.ref p,.int m]/\fg H p/\0<m/\m<=4/\∀x v H',Step p H H'->HT H' 1 x (Val.dv v)->v.ok m->Q x H'
theorem Ai(D:cw K mg "_law_value" "_law_value" mq ["_law_pot_here","_law_many"])(T:Tx K mg C CN CR F FD)(u:Def P w K mg base "_law_digit" 1 ["_law_pot_here","_law_many"] iH):Def P w K mg base "_law_value" 2 ["_law_pot_here","_law_many"] Ah:=by
 have sc:aD ["_law_pot_here","_law_many","_law_kind"] ["_law_pot_here","_law_many"] (az mq):=by walk_at "s"
 symm;obtain⟨p,m,rfl,G,I,J,q⟩:=h;have L:=hr.units;refine⟨_,(ag (aZ (i:=2) sc.nd rfl Sort (aI u hr (af (au 0) (af ai aa))))
  (ag (aU (aC fc (au 2) ai (aG _)) (aj (aH (bG (af aE (af (ao L (bx (af (bc fU (aI u hr (af (au 0) (af ai aa))) ai) (af (bc fU (aI u hr (af (au 0) (af (bc fU (bc ng ai (bc sJ ai ai)) ai) aa))) (bc fU (bc sJ ai ai) ai)) aa))) (au 2)) aa))))) aK)
  (ag (aU (aC fc (au 2) ai (aG _)) (aj (aH (bG (af aE (af (aI u hr (af (au 0) (af (au 1) aa))) aa))))) aK)
  (aj (aH (ao L (bx (af (bG (af aE aa)) (af (bG (af aE aa)) (af (bG (af aE aa)) (af (bG (af aE aa)) aa))))) (bc fU (au 2) ai))))))),?_⟩
 right;calc lS p 8 rfl G ⋯ ⋯ (λd H1 h1 h2 st=>?_);right;split
 ·rename_i j;have j:d < 2:=by simpa using j
  calc lS p 9 rfl st.fB ⋯ ⋯ (λR H2 M J k=>?_);right;calc⟨BY,Sr,dig k.fB W7 W8 λd2 H3 h5 h6 N=>?_⟩;right;calc gp BY ∅ (λl c=>?_);have y:d=0\/d=1:=by lia
  rcases y with rfl|rfl
  ·exact⟨_,_,.inl (aO.of ab),rfl,∅,λt n=>q _ (.is _) _ ((((st.trans k).trans N).new c).new n) (cV ab (.str _) (.int _)) trivial⟩
  ·exact⟨_,_,.inl (aO.of ab),rfl,∅,λt n=>q _ (.is _) _ ((((st.trans k).trans N).new c).new n) (cV ab (.str _) (.int _)) trivial⟩
 ·rename_i j;have j:¬d < 2:=by simpa using j
  split
  ·refine⟨p,m,rfl,st.fB,I,?_,λR H2 M z k=>?_⟩
   ·have:m=1\/m=2\/m=3\/m=4:=by lia
    rcases this with rfl|rfl|rfl|rfl<;>decide +kernel
   right;exact⟨∅,λt n=>q _ (.number _) _ ((st.trans k).new n) (cV ab (.str _) (.int _)) ⟨M,z⟩⟩
  ·rename_i r;have r:¬d < 4:=by simpa using r
   calc⟨∅,λa S=>⟨∅,λb O=>⟨∅,λe B=>⟨∅,λg v=>⟨∅,λl c=>?_⟩⟩⟩⟩⟩;have x:=((((st.new S (o:=.tup [.str "letter"])).new O (o:=.tup [.str "letter"])).new B (o:=.tup [.str "way"])).new v (o:=.tup [.str "first"])).new c (o:=.lst [.ref a,.ref b,.ref e,.ref g]);have y:d=4\/d=5\/d=6\/d=7:=by lia
   have U:=(av.new (H:=upd H1 a (.tup [.str "letter"])) (.tup [.str "letter"]) O) a _ ab;have W:=(av.new (.tup [.str "way"]) B) _ _ U;have X:=(av.new (.tup [.str "first"]) v) _ _ W;have Y:=(av.new (.lst [.ref a,.ref b,.ref e,.ref g]) c) _ _ X;have Z:=(av.new (H:=upd (upd H1 a (.tup [.str "letter"])) b (.tup [.str "letter"])) (.tup [.str "way"]) B) b _ ab;have k3:=(av.new (.tup [.str "first"]) v) _ _ Z;have k4:=(av.new (.lst [.ref a,.ref b,.ref e,.ref g]) c) _ _ k3;have l3:=(av.new (H:=upd (upd (upd H1 a (.tup [.str "letter"])) b (.tup [.str "letter"])) e (.tup [.str "way"])) (.tup [.str "first"]) v) e _ ab;have l4:=(av.new (.lst [.ref a,.ref b,.ref e,.ref g]) c) _ _ l3;have m4:=(av.new (H:=upd (upd (upd (upd H1 a (.tup [.str "letter"])) b (.tup [.str "letter"])) e (.tup [.str "way"])) g (.tup [.str "first"])) (.lst [.ref a,.ref b,.ref e,.ref g]) c) g _ ab;rcases y with rfl|rfl|rfl|rfl
   ·exact⟨_,_,.inl (aO.of ab),rfl,q _ .nY _ x (tZ Y (.str _)) trivial⟩
   ·exact⟨_,_,.inl (aO.of ab),rfl,q _ .nY _ x (tZ k4 (.str _)) trivial⟩
   ·exact⟨_,_,.inl (aO.of ab),rfl,q _ .way _ x (tZ l4 (.str _)) trivial⟩
   ·calc⟨_,_,.inl (aO.of ab),rfl,q _ .first _ x (tZ m4 (.str _)) trivial⟩
theorem aen{d:Int}(a:0<=d)(h:d<10):d=0\/d=1\/d=2\/d=3\/d=4\/d=5\/d=6\/d=7\/d=8\/d=9:=by
 have:∀n:Fin 10,((n.1:Nat):Int)=0\/((n.1:Nat):Int)=1\/((n.1:Nat):Int)=2\/((n.1:Nat):Int)=3\/((n.1:Nat):Int)=4\/((n.1:Nat):Int)=5\/((n.1:Nat):Int)=6\/((n.1:Nat):Int)=7\/((n.1:Nat):Int)=8\/((n.1:Nat):Int)=9:=by decide
 rw[<-aaZ a];calc this ⟨d.toNat,()⟩
abbrev oG:Stmt:=top 69
theorem Kg{H:Hp}{n:Nat}{a:Addr}{u v w z:V}{d d' g i:DV}(e:H a=some (.tup [u,v,w,z]))(h:HT H n u d)(h':HT H n v d')(f:HT H n w g)(j:HT H n z i):HT H (n+1) (.ref a) (.tup [d,d',g,i]):=by
 refine .tup e rfl λi x y b c=>?_
 match i,b,c with
 |0,b,c=>simp at b c;subst b c;calc h
 |1,b,c=>simp at b c;subst b c;calc h'
 |2,b,c=>simp at b c;subst b c;calc f
 |3,b,c=>simp at b c;subst b c;calc j
def Aj:Sp:=λvs H Q _=>∃p m,vs=[.ref p,.int m]/\fg H p/\0<m/\m<=4/\∀x d H',Step p H H'->HT H' 2 x (bH.dv d)->d.ok m->Q x H'
theorem Cq(D:cw K mg "_law_deed" "_law_deed" oG ["_law_pot_here","_law_many"])(T:Tx K mg C CN CR F FD)(M:Def P w K mg base "_law_digit" 1 ["_law_pot_here","_law_many"] iH)(I:Def P w K mg base "_law_value" 2 ["_law_pot_here","_law_many"] Ah):Def P w K mg base "_law_deed" 3 ["_law_pot_here","_law_many"] Aj:=by
 have sc:aD ["_law_pot_here","_law_many","_law_kind"] ["_law_pot_here","_law_many"] (az oG):=by walk_at "s"
 symm;obtain⟨p,m,rfl,U,k,u,q⟩:=h;have N:=hr.units;refine⟨_,(ag (aZ (i:=2) sc.nd rfl Sort (aI M hr (af (au 0) (af ai aa))))
  (ag (aU (aC fc (au 2) ai (aG _)) (aj (aH (bG (af (ao N (bx (af aE (af aE (af aE aa)))) (au 2)) (af (aI M hr (af (au 0) (af (au 1) aa))) (af (aI I hr (af (au 0) (af (au 1) aa))) aa)))))) aK)
  (ag (aU (aC fc (au 2) ai (aG _)) (aj (aH (bG (af aE (af (aI M hr (af (au 0) (af ai aa))) (af (aI I hr (af (au 0) (af (au 1) aa))) aa)))))) aK)
  (ag (aU (aC (aY N) (au 2) ai (aG _)) (aj (aH (bG (af aE (af (aI I hr (af (au 0) (af (au 1) aa))) aa))))) aK)
  (ag (aU (aC (aY N) (au 2) ai (aG _)) (aj (aH (bG (af aE (af (aI I hr (af (au 0) (af (au 1) aa))) aa))))) aK)
  (ag (aU (aC (aY N) (au 2) ai (aG _)) (aj (aH (bG (af aE aa)))) aK)
  (aj (aH (bG (af aE (af (aI I hr (af (au 0) (af (au 1) aa))) (af (aI I hr (af (au 0) (af (au 1) aa))) (af (bc cB ai (aI M hr (af (au 0) (af ai aa)))) aa))))))))))))),?_⟩
 right;calc lS p 10 rfl U ⋯ ⋯ (λd H1 I M st=>?_);have O:m.natAbs.log2<9000:=by
  have:m=1\/m=2\/m=3\/m=4:=by lia
  rcases this with rfl|rfl|rfl|rfl<;>decide +kernel
 have Y:d=0\/d=1\/d=2\/d=3\/d=4\/d=5\/d=6\/d=7\/d=8\/d=9:=aen (by assumption) (by assumption);rcases Y with rfl|rfl|rfl|rfl|rfl|rfl|rfl|rfl|rfl|rfl
 ·walk_at "go";refine⟨∅,λl J=>?_⟩;have B:=st.new (o:=.lst [.str "set",.str "add",.str "times"]) J;refine bC ab rfl ?_;refine dig B.fB k O λe L r y x=>?_;have b:=B.trans x;walk_at "go";refine lS p m rfl b.fB k u (λz v G c g j=>?_);walk_at "go";exact⟨∅,λt a=>q _ (.set e v) _ ((b.trans c).new a) (lQ ab (.str _) (.int _) (g.aJ (av.new _ a).aP)) ⟨r,y,j⟩⟩
 ·walk_at "go";refine⟨∅,λl J=>?_⟩;have B:=st.new (o:=.lst [.str "set",.str "add",.str "times"]) J;refine bC ab rfl ?_;refine dig B.fB k O λe L r y x=>?_;have b:=B.trans x;walk_at "go";refine lS p m rfl b.fB k u (λz v G c g j=>?_);walk_at "go";exact⟨∅,λt a=>q _ (.add e v) _ ((b.trans c).new a) (lQ ab (.str _) (.int _) (g.aJ (av.new _ a).aP)) ⟨r,y,j⟩⟩
 ·walk_at "go";refine⟨∅,λl J=>?_⟩;have B:=st.new (o:=.lst [.str "set",.str "add",.str "times"]) J;refine bC ab rfl ?_;refine dig B.fB k O λe L r y x=>?_;have b:=B.trans x;walk_at "go";refine lS p m rfl b.fB k u (λz v G c g j=>?_);walk_at "go";exact⟨∅,λt a=>q _ (.times e v) _ ((b.trans c).new a) (lQ ab (.str _) (.int _) (g.aJ (av.new _ a).aP)) ⟨r,y,j⟩⟩
 ·walk_at "go";refine dig st.fB ∅ ⋯ λe L r y x=>?_;have b:=st.trans x;right;refine lS p m rfl b.fB k u (λz v G c g j=>?_);right;exact⟨∅,λt a=>q _ (.send e v) _ ((b.trans c).new a) (lQ ab (.str _) (.int _) (g.aJ (av.new _ a).aP)) ⟨r,j⟩⟩
 ·walk_at "go";refine dig st.fB ∅ ⋯ λe L r y x=>?_;have b:=st.trans x;right;refine lS p m rfl b.fB k u (λz v G c g j=>?_);right;exact⟨∅,λt a=>q _ (.send e v) _ ((b.trans c).new a) (lQ ab (.str _) (.int _) (g.aJ (av.new _ a).aP)) ⟨r,j⟩⟩
 ·walk_at "go";refine dig st.fB ∅ ⋯ λe L r y x=>?_;have b:=st.trans x;right;refine lS p m rfl b.fB k u (λz v G c g j=>?_);right;exact⟨∅,λt a=>q _ (.send e v) _ ((b.trans c).new a) (lQ ab (.str _) (.int _) (g.aJ (av.new _ a).aP)) ⟨r,j⟩⟩
 ·walk_at "go";refine lS p m rfl st.fB k u (λz v G c g j=>?_);walk_at "go";exact⟨∅,λt a=>q _ (.say v) _ ((st.trans c).new a) (cV ab (.str _) (g.aJ (av.new _ a).aP)) j⟩
 ·walk_at "go";refine lS p m rfl st.fB k u (λz v G c g j=>?_);walk_at "go";exact⟨∅,λt a=>q _ (.put v) _ ((st.trans c).new a) (cV ab (.str _) (g.aJ (av.new _ a).aP)) j⟩
 ·walk_at "go";exact⟨∅,λt a=>q _ .drop _ (st.new a) (tZ (n:=1) ab (.str _)) trivial⟩
 ·walk_at "go";refine lS p m rfl st.fB k u (λz v G c g j=>?_);walk_at "go";have R:=st.trans c;refine lS p m rfl R.fB k u (λZ v2 b W US Yu=>?_);have S:=R.trans W;walk_at "go";refine dig S.fB ∅ ⋯ λe b r y X=>?_;walk_at "go";refine⟨∅,λt a=>q _ (.skip v v2 (1+e)) _ ((S.trans X).new a) ?_ ⟨j,Yu,(),()⟩⟩;have b:=(X.aP S.fB).trans (av.new (.tup [.str "skip",z,Z,.int (1+e)]) a).aP;exact Kg ab (.str _) (g.aJ ((W.aP R.fB).trans b)) (US.aJ b) (.int _)
abbrev jF:Stmt:=top 70
theorem Step.free{p b:Addr}{H H':Hp}(st:Step p H H')(h:H' b=none):H b=none:=by
 cases e:H b with
 |none=>rfl
 |some o=>
  by_cases a:b=p
  ·subst a;obtain⟨x,c,_⟩:=st.fB;rw[h]at c;cases c
  ·rw[st.rest b o e a]at h;cases h
theorem Ak{m:Int}(a:0<m)(h:m<=1000000000000):m.natAbs.log2<9000:=(Nat.log2_lt ()).mpr (aa4 (show m.natAbs<=1000000000000 by lia) ⋯)
def mods(d:Int):List V:=[.int 2,.int 3,.int 7,.int 10,.int 97,.int (2+d)]
theorem N8{d k:Int}(b:0<=d)(a:d<10^Int.toNat 12-1)(c:0<=k)(f:k<6):∃z:Int,ia (mods d) k=some (.int z)/\2<=z/\z<=1000000000000:=by
 have e:(10:Int)^Int.toNat 12=1000000000000:=by decide +kernel
 rw[e]at a;have:k=0\/k=1\/k=2\/k=3\/k=4\/k=5:=by lia
 rcases this with rfl|rfl|rfl|rfl|rfl|rfl
 ·exact⟨_,aA (j:=0) rfl,∅,∅⟩
 ·exact⟨_,aA (j:=1) rfl,∅,∅⟩
 ·exact⟨_,aA (j:=2) rfl,∅,∅⟩
 ·exact⟨_,aA (j:=3) rfl,∅,∅⟩
 ·exact⟨_,aA (j:=4) rfl,∅,∅⟩
 ·calc⟨_,aA (j:=5) rfl,(),()⟩
def Al:Sp:=λvs H Q _=>∃p,vs=[.ref p]/\fg H p/\∀t a b c xs M ns row d H',Step p H H'->H' t=some (.tup [.int M,.ref a,.ref b,.ref c])->H' a=some (.lst (ns.map V.int))->H' b=some (.lst (row.map V.int))->H' c=some (.lst xs)->eO H' 2 xs (d.map bH.dv)->H a=none->H b=none->H c=none->Good M ns row d->Q (.ref t) H'
theorem vG(D:cw K mg "_law_machine" "_law_machine" jF ["_law_pot_here"])(T:Tx K mg C CN CR F FD)(oH:Def P w K mg base "_law_deed" 3 ["_law_pot_here","_law_many"] Aj)(j:Def P w K mg base "_law_digit" 1 ["_law_pot_here","_law_many"] iH):Def P w K mg base "_law_machine" 4 ["_law_pot_here"] Al:=by
 have sc:aD ["_law_pot_here","_law_modulus","_law_many","_law_numbers","_law_row","_law_deeds"] ["_law_pot_here"] (az jF):=by walk_at "s"
 symm;obtain⟨p,rfl,k,q⟩:=h;have l:=hr.units;refine⟨_,(ag (aZ (i:=1) sc.nd rfl Sort (ao l (bx (af ai (af ai (af ai (af ai (af ai (af (bc cB ai (aI j hr (af (au 0) (af (bc fU (bc sJ ai ai) ai) aa)))) aa))))))) (aI j hr (af (au 0) (af ai aa)))))
  (ag (aZ (i:=2) sc.nd rfl Sort (bc cB ai (aI j hr (af (au 0) (af ai aa)))))
  (ag (ee (i:=3) sc.nd rfl Sort (N':=["_law_k","_law_pot_here","_law_modulus"]) (ix:=[none,some 0,some 1]) (cy rfl T.dG (af (au 2) aa)) (λ_ _ _ _=>(aR (i:=0) (show(["_law_k","_law_pot_here","_law_modulus"]:List Str).Nodup by decide +kernel) rfl Sort)) kj (λ_ _ _ _=>(aI j hr (af (au 1) (af (au 2) aa)))))
  (ag (ee (i:=4) sc.nd rfl Sort (N':=["_law_k","_law_pot_here","_law_modulus"]) (ix:=[none,some 0,some 1]) (cy rfl T.dG (af (aI j hr (af (au 0) (af ai aa))) aa)) (λ_ _ _ _=>(aR (i:=0) (show(["_law_k","_law_pot_here","_law_modulus"]:List Str).Nodup by decide +kernel) rfl Sort)) kj (λ_ _ _ _=>(aI j hr (af (au 1) (af (au 2) aa)))))
  (ag (ee (i:=5) sc.nd rfl Sort (N':=["_law_k","_law_pot_here","_law_many"]) (ix:=[none,some 0,some 2]) (cy rfl T.dG (af (aI j hr (af (au 0) (af ai aa))) aa)) (λ_ _ _ _=>(aR (i:=0) (show(["_law_k","_law_pot_here","_law_many"]:List Str).Nodup by decide +kernel) rfl Sort)) kj (λ_ _ _ _=>(aI oH hr (af (au 1) (af (au 2) aa)))))
  (aj (aH (bG (af (au 1) (af (au 3) (af (au 4) (af (au 5) aa)))))))))))),?_⟩
 right;calc⟨So,?_⟩;calc dig k W9 Sv λd0 H1 L8 j T=>?_;right;calc⟨∅,λl t=>?_⟩;have pd:=T.new (o:=.lst (mods d0)) t;have Vn:l≠p:=Step.ne T.fB t;calc dig pd.fB ∅ ⋯ λk H3 l Yv c=>?_;have k:=pd.trans c;obtain⟨M,T,FI,qy⟩:=N8 L8 j l Yv;right;calc bC (c.rest _ _ ab Vn) T ?_;right;calc dig k.fB ∅ ⋯ λm H4 hm0 Gx sU=>?_;have N:=k.trans sU;right;calc bt ?_;right;calc gp () () (λD O=>?_);have y:D≠p:=Step.ne N.fB O;refine aV (J:=Bc 0 (1+m).toNat) (n:=(1+m).toNat) (λi ys H'=>∃ns:List Int,ys=ns.map V.int/\ns.length=i/\Step p H4 H'/\(∀z∈ns,0<=z/\z<M)) (J' (aB ())) ⟨[],rfl,rfl,(Step.refl N.fB).new O,λz r=>by simp at r⟩ (λi ys H' a _=>a) (λys H' _=>F' _) ?_ ?_
 ·intro i ys H' a B t fO x H2 fP;nofun;obtain⟨ns,rfl,G,st,hb⟩:=fO;obtain⟨rfl,rfl⟩:=fP;ac_rfl;walk_at "xf";right;rw[if_pos trivial];refine dig st.fB () (Ak () qy) λd H3 h3 h4 c=>?_;refine bJ (c.rest _ _ B y) t a (J' (aB ())) ⟨ns++[d],nofun,by simp[G],?_,λz r=>?_⟩
  ·exact⟨c.fB.upd (Ne.symm y),λb o e ne=>by rw[ay (aq e O)];calc c.rest _ _ (st.rest _ _ e ne) ne⟩
  ·rcases List.mem_append.mp r with g | g
   ·exact hb z g
   ·simp at g;subst g;exact⟨h3,h4⟩
 intro ys H5 en PQ lg;obtain⟨ns,rfl,G,T,Gz⟩:=lg;have fD:H D=none:=N.free O;have j:=N.trans T;calc bt ?_;right;calc dig j.fB ∅ ⋯ λk O h60 h61 l=>?_;have R:=j.trans l;have en6:=l.rest _ _ en y;right;calc gp () () (λS U=>?_);have W:S≠p:=Step.ne R.fB U;refine aV (J:=Bc 0 k.toNat) (n:=k.toNat) (λi ys H'=>∃ns:List Int,ys=ns.map V.int/\ns.length=i/\Step p O H'/\(∀z∈ns,0<=z/\z<M)) (J' (aB ())) ⟨[],rfl,rfl,(Step.refl R.fB).new U,λz r=>by simp at r⟩ (λi ys H' a _=>a) (λys H' _=>F' _) ?_ ?_
 ·intro i ys H' a B t pN x H2 rT;nofun;obtain⟨ns,rfl,G,st,hb⟩:=pN;obtain⟨rfl,rfl⟩:=rT;ac_rfl;walk_at "xf";right;rw[if_pos trivial];refine dig st.fB () (Ak () qy) λd H3 h3 h4 c=>?_;refine bJ (c.rest _ _ B W) t a (J' (aB ())) ⟨ns++[d],nofun,by simp[G],?_,λz r=>?_⟩
  ·exact⟨c.fB.upd (Ne.symm W),λb o e ne=>by rw[ay (aq e U)];calc c.rest _ _ (st.rest _ _ e ne) ne⟩
  ·rcases List.mem_append.mp r with g | g
   ·exact hb z g
   ·simp at g;subst g;exact⟨h3,h4⟩
 intro ys H7 er hl7 xT;obtain⟨row,rfl,c,j,Sx⟩:=xT;have X1:H S=none:=R.free U;have k:=R.trans j;have c:=j.rest _ _ en6 y;calc bt ?_;right;calc dig k.fB ∅ ⋯ λl r t N g=>?_;have X:=k.trans g;have en8:=g.rest _ _ c y;have er8:=g.rest _ _ er W;right;calc gp () () (λI Y=>?_);have Yz:I≠p:=Step.ne X.fB Y;have X6:H I=none:=X.free Y;refine aV (J:=Bc 0 l.toNat) (n:=l.toNat) (λi ys H'=>∃u:List bH,eO H' 2 ys (u.map bH.dv)/\u.length=i/\(∀Z∈u,Z.ok (1+m))/\Step p r H') (J' (aB ())) ⟨[],eO.nil,rfl,λZ AJ=>by simp at AJ,(Step.refl X.fB).new Y⟩ (λi ys H' a _=>a) (λys H' _=>F' _) ?_ ?_
 ·intro i ys H' a B qm Co x H9 Kf;nofun;obtain⟨u,sO,L,TB,v⟩:=Co;obtain⟨rfl,rfl⟩:=Kf;ac_rfl;walk_at "xf";right;rw[if_pos trivial];refine⟨p,1 + m,rfl,v.fB,(),(),λg dd c Od YA YB=>?_⟩;have YC:=Od.rest _ _ B Yz;have t10:bX c (upd c I (.lst (ys++[g]))):=(bX.refl _).upd λc e=>by rw[YC] at e;cases e
  refine bJ YC qm a (J' (aB ())) ⟨u++[dd],?_,by simp[L],?_,?_⟩
  ·rw[U'];exact((sO.aJ (Od.aP v.fB)).snoc YA).aJ t10
  ·intro Z AJ;rcases List.mem_append.mp AJ with z | z
   ·exact TB Z z
   ·simp at z;subst z;exact YB
  ·exact⟨Od.fB.upd (Ne.symm Yz),λb o e ne=>by rw[ay (aq e Y)];calc Od.rest _ _ (v.rest _ _ e ne) ne⟩
 intro ys H9 i a g;obtain⟨u,sO,L,TB,v⟩:=g;have c:=X.trans v;right;calc⟨by show 4<=sizeLine;decide,λt g=>?_⟩;have a:=av.new (.tup [.int M,.ref D,.ref S,.ref I]) g;calc q t D S I ys M ns row u _ (c.new g) ab (a _ _ (v.rest _ _ en8 y)) (a _ _ (v.rest _ _ er8 W)) (a _ _ i) (sO.aJ a.aP) fD X1 X6 ⟨FI,qy,(),(),(),Gz,Sx,(),λd j=>?_⟩;rw[G];have e:(((1+m).toNat:Nat):Int)=1+m:=by lia
 rw[e];calc TB d j
abbrev mw:Stmt:=top 72
inductive Ki(vs:List V)(H:Hp)(Q:VK):Prop
 |mk (x:V) (st an ar:Addr) (way said M:Int) (v:Val) (ns row:List Int) (n:Nat) (h0:vs=[x,.ref st,.int way,.int said,.int M]) (h1:HT H n x (Val.dv v)) (h2:H st=some (.tup [.ref an,.ref ar])) (h3:H an=some (.lst (ns.map V.int))) (h4:H ar=some (.lst (row.map V.int))) (h5:v.ok ns.length) (h6:0<M) (h7:row.length<=12) (h8:∀H',av H H'->Q (.int (fY M way said ns row v)) H'):Ki vs H Q
def Ee:Sp:=λvs H Q _=>Ki vs H Q
theorem Am(D:cw K mg "_law_worth" "_law_worth" mw ["_law_value_here","_law_state","_law_way","_law_said","_law_modulus"])(T:Tx K mg C CN CR F FD):Def P w K mg base "_law_worth" 1 ["_law_value_here","_law_state","_law_way","_law_said","_law_modulus"] Ee:=by
 have sc:aD ["_law_value_here","_law_state","_law_way","_law_said","_law_modulus","_law_worth_here"] ["_law_value_here","_law_state","_law_way","_law_said","_law_modulus"] (az mw):=by walk_at "s"
 symm;obtain⟨x,st,a,z,way,c,M,v,ns,row,n,rfl,g,R,Y,o,S,k,Z,q⟩:=h;have a:=hr.units;refine⟨_,(ag (aZ (i:=5) sc.nd rfl Sort (au 2))
  (ag (aU (aC (aY a) (ao a (au 0) ai) aE (aG _)) (aj (aZ (i:=5) sc.nd rfl Sort (ao a (au 0) ai))) aK)
  (ag (aU (aC (aY a) (ao a (au 0) ai) aE (aG _)) (aj (aZ (i:=5) sc.nd rfl Sort (ao a (ao a (au 1) ai) (ao a (au 0) ai)))) aK)
  (ag (aU (aC (aY a) (ao a (au 0) ai) aE (aG _)) (aj (aZ (i:=5) sc.nd rfl Sort (au 3))) aK)
  (ag (aU (aC (aY a) (ao a (au 0) ai) aE (aG _)) (aj (aZ (i:=5) sc.nd rfl Sort (ao a (bc cB (cu (N':=["_law_k","_law_state"]) (ix:=[none,some 1]) (cy rfl T.dG (af (aX aN rfl T.bO S' (af (ao a (au 1) ai) aa)) aa)) (λ_ _ _ _=>(aR (i:=0) (show(["_law_k","_law_state"]:List Str).Nodup by decide +kernel) rfl Sort)) kj (λ_ _ _ _=>(cj (K:=K) rfl a (cj (K:=K) rfl a (au 1) ai) (au 0)))) (bx (af ai aa))) ai))) aK)
  (aj (aH (bc ft (au 5) (au 4))))))))),?_⟩
 left
 cases v with
 |is z=>
  nofun;obtain⟨p,t,w2,u,rfl,y,d,I⟩:=dM g;obtain rfl:=d.cX;obtain rfl:=I.cG;ac_rfl;walk_at "jg";exact⟨k,q H (av.refl H)⟩
 |number i=>
  nofun;obtain⟨p,t,w2,u,rfl,y,d,I⟩:=dM g;obtain rfl:=d.cX;obtain rfl:=I.cG;obtain⟨L,a⟩:=S;obtain⟨j,rfl⟩:=aaJ L;ac_rfl;have U:j<ns.length:=by lia
  have a:ia (ns.map V.int) (j:Int)=some (.int ns[j]):=aA (by rw[A',cD U];rfl);walk_at "jg";have a:=q H (av.refl H);have N:fY M way c ns row (.number j)=ns[j]%M:=by
   show ns.getD (j:Int).toNat 0%M=_;simp[List.getD_eq_getElem?_getD,cD U]
  rw[N]at a;calc⟨k,a⟩
 |first=>
  nofun;obtain⟨p,t,u,rfl,y,d⟩:=jk g;obtain rfl:=d.cX;ac_rfl;walk_at "jg"
  skip
  walk_at "jg";refine bD _ (.inl ⟨_,aO.of o,rfl⟩) ?_;left;have a:(row.map V.int).length=row.length:=by simp
  rw[a];calc gp () () (λD W=>?_);refine aV (J:=Bc 0 row.length) (n:=row.length) (λi ys H'=>ys=(row.take i).map V.int/\av H H') (J' (aB ())) ⟨rfl,av.new _ W⟩ (λi ys H' l _=>l) (λys H' _=>F' _) ?_ ?_
  ·intro i ys H' l B G fO x H2 fP;nofun;obtain⟨rfl,m⟩:=fO;obtain⟨rfl,rfl⟩:=fP;ac_rfl;walk_at "xf";have a:=m _ _ R;have O:=m _ _ o;walk_at "jg"
   try rw[if_pos trivial]
   calc bC O (show ia (row.map V.int) (0+(i:Int))=some (.int row[i]) from by rw[Int.zero_add];calc aA (by rw[A',cD l];rfl)) ?_;calc bJ B G l (J' (aB ())) ⟨?_,λb o e=>by rw[ay (aq e W)];calc m _ _ e⟩;rw[aaU,cD l,U'];rfl
  rintro ys H1 B G ⟨rfl,m⟩;rw[aat]at B;walk_at "jg";refine⟨∅,λl G=>?_⟩;have X:=av.new (.lst [.int 0]) G;walk_at "jg";refine .inl ⟨_,_,X _ _ B,ab,J' (aB (by simp;lia)),λi a=>?_⟩;have s3:=av.new (.lst (row.map V.int++[.int 0])) a;have N:ia (row.map V.int++[.int 0]) 0=some (.int (tY ns row way c .first)):=by
   cases row with
   |nil=>calc aA (j:=0) rfl
   |cons r a=>exact aA (j:=0) rfl
  left;refine bC ab N ?_;walk_at "jg";exact⟨k,q _ (m.trans (X.trans s3))⟩
 |nY=>
  nofun;obtain⟨p,t,u,rfl,y,d⟩:=jk g;obtain rfl:=d.cX;ac_rfl;walk_at "jg";exact⟨k,q _ (av.refl H)⟩
 |way=>
  nofun;obtain⟨p,t,u,rfl,y,d⟩:=jk g;obtain rfl:=d.cX;ac_rfl;walk_at "jg";exact⟨k,q _ (av.refl H)⟩
def Qe(M way said:Int):Nat->List bH->WS->WS
 |_,[],s=>s
 |l+1,_::r,s=>Qe M way said l r s
 |0,d::r,s=>Qe M way said (nO M way said d s).toNat r (kZ M way said d s)
theorem yg{M way said:Int}:∀(b:List bH) (l:Nat) (s:WS) (f:Nat),b.length<=f->Qe M way said l b s=zg M way said f (b.drop l) s
 | [],l,s,f,_=>by rw[List.drop_nil,Dn];cases l<;>rfl
 |d::r,l+1,s,f,h=>by
  show Qe M way said l r s=zg M way said f (r.drop l) s;calc yg r l s f (by simp at h;lia)
 |d::r,0,s,f,h=>by
  obtain⟨a,rfl⟩:∃a,f=a+1:=⟨f-1,by simp at h;lia⟩
  show Qe M way said (nO M way said d s).toNat r (kZ M way said d s)=zg M way said a (r.drop (nO M way said d s).toNat) (kZ M way said d s);calc yg r _ _ a (by simp at h;lia)
theorem Kj{M way said:Int}{a:List bH}:Qe M way said 0 a ⟨ns,row,[],[]⟩=pJ M way said a ns row:=yg a 0 _ _ (F' _)
inductive Of(H:Hp)(mt:Addr)(st:V)(way said M:Int)(ds:List bH)(ns row:List Int)(i:Nat)(σ:St)(H':Hp):Prop
 |mk (an ar ic aw:Addr) (zs:List V) (z9 DT:Option V) (l:Nat) (s:WS) (h0:σ=[some (.ref mt),some st,some (.int way),some (.int said),some (.ref an),some (.ref ar),some (.ref ic),some (.ref aw),some (.int ((l:Nat):Int)),z9,DT]) (h1:av H H') (a1:H an=none) (a2:H ar=none) (a3:H ic=none) (a4:H aw=none) (n1:an≠ar) (n2:an≠ic) (n3:an≠aw) (n4:ar≠ic) (n5:ar≠aw) (n6:ic≠aw) (e1:H' an=some (.lst (s.ns.map V.int))) (e2:H' ar=some (.lst (s.row.map V.int))) (e3:H' ic=some (.lst zs)) (Gw:SL H' zs s.cT) (e5:H' aw=some (.lst (s.words.map V.int))) (Ma:s.ns.length=ns.length) (Gz:∀z∈s.ns,0<=z/\z<M) (wm:s.row.length<=12) (Mb:s.cT.length<=i) (hwn:s.words.length<=i) (pw:Qe M way said l (ds.drop i) s=pJ M way said ds ns row):Of H mt st way said M ds ns row i σ H'
inductive Kk(K:W.Frag)(vs:List V)(H:Hp)(Q:VK):Prop
 |mk (mt ln lr ld:Addr) (st:V) (way said M:Int) (xs:List V) (ds:List bH) (ns row:List Int) (h0:vs=[.ref mt,st,.int way,.int said]) (YE:H mt=some (.tup [.int M,.ref ln,.ref lr,.ref ld])) (h1:H ld=some (.lst xs)) (h2:eO H 2 xs (ds.map bH.dv)) (h3:zh K H st ns row) (h5:2<=M) (h6:M<=1000000000000) (h7:∀z∈ns,0<=z/\z<M) (h9:row.length<=12) (L8:ds.length<=24) (h11:∀d∈ds,d.ok ns.length) (h13:∀x H',av H H'->Res H H' x (pJ M way said ds ns row)->Q x H'):Kk K vs H Q
theorem TC{xs:List V}:dS xs none (some 12)=xs.take 12:=by
 unfold dS;have a:HT.eF xs.length 0 none=0:=rfl;rw[a];have b:HT.eF xs.length xs.length (some 12)=min 12 xs.length:=by
  unfold HT.eF;simp
 rw[b,List.drop_zero,Nat.sub_zero];by_cases h:xs.length<=12
 ·rw[Nat.min_eq_right h,aat,aaG h]
 ·rw[Nat.min_eq_left ()]
theorem YF{xs:List V}:dS xs (some 1) none=xs.tail:=by
 unfold dS;have b:HT.eF xs.length xs.length none=xs.length:=rfl;rw[b]
 cases xs with
 |nil=>simp
 |cons a r=>
  have b:HT.eF (a::r).length 0 (some 1)=1:=by
   unfold HT.eF;simp
  rw[b];simp
theorem Ef{α:Type}{l m:List α}{i:Nat}(h:l.length<=i)(h':m.length<=1):(l++m).length<=i+1:=by rw[aas];lia
theorem Og{x:Int}(h:row.length<=12):dS (row.map V.int++[x].map V.int) none (some 12)=(if row.length<12 then row++[x] else row).map V.int:=by
 rw[TC,<-U',<-List.map_take];split
 ·rw[aaG (by simp;lia)]
 ·rw[List.take_append_of_le_length (),aaG h]
abbrev kC:Stmt:=top 73
def Eg(K:W.Frag):Sp:=λvs H Q _=>Kk K vs H Q
theorem yh(D:cw K mg "_law_worked" "_law_worked" kC ["_law_machine_here","_law_state","_law_way","_law_said"])(T:Tx K mg C CN CR F FD)(mx:Def P w K mg base "_law_worth" 1 ["_law_value_here","_law_state","_law_way","_law_said","_law_modulus"] Ee):Def P w K mg base "_law_worked" 2 ["_law_machine_here","_law_state","_law_way","_law_said"] (Eg K):=by
 have sc:aD ["_law_machine_here","_law_state","_law_way","_law_said","_law_numbers","_law_row","_law_sent","_law_words","_law_left","_law_deed_here","_law_worths"] ["_law_machine_here","_law_state","_law_way","_law_said"] (az kC):=by walk_at "s"
 symm;obtain⟨mt,g,lr,ld,st,k,a,M,xs,U,ns,row,rfl,YE,Xn,sO,vN,FI,qy,hb,pO,Pn,ba,q⟩:=h;have g:=hr.units;refine⟨_,(ag (aZ (i:=4) sc.nd rfl Sort (cR cA rfl T.dN wV (af (ao g (au 1) ai) aa)))
  (ag (aZ (i:=5) sc.nd rfl Sort (cR cA rfl T.dN wV (af (ao g (au 1) ai) aa)))
  (ag (aZ (i:=6) sc.nd rfl Sort (bx aa))
  (ag (aZ (i:=7) sc.nd rfl Sort (bx aa))
  (ag (aZ (i:=8) sc.nd rfl Sort ai)
  (ag (dC PassesOwn.never rfl (bI (ao g (au 0) ai)) (aR (i:=9) sc.nd rfl Sort)
  (ag (ee (i:=10) sc.nd rfl Sort (N':=["_law_one","_law_way","_law_said","_law_numbers","_law_row","_law_machine_here"]) (ix:=[none,some 2,some 3,some 4,some 5,some 0]) (bI (pv 9)) (λ_ _ _ _=>(aR (i:=0) (show(["_law_one","_law_way","_law_said","_law_numbers","_law_row","_law_machine_here"]:List Str).Nodup by decide +kernel) rfl Sort)) (λ_ _ _ _=>(fT (bu (aX (wb (K:=K) rfl) rfl T.bq yD (af (au 0) (af (cU (v:=.ty "tuple") rfl T.cf sC rfl) aa)))))) (λ_ _ _ _=>(aI mx hr (af (au 0) (af (bG (af (au 3) (af (au 4) aa))) (af (au 1) (af (au 2) (af (cj (K:=K) rfl g (au 5) ai) aa))))))))
  (aj (aU (aC lO (au 8) ai (aG _)) (aj (aZ (i:=8) sc.nd rfl Sort (bc fU (au 8) ai))) (aj (aU (aC (aY g) (ao g (au 9) ai) aE (aG _)) (aj (dy (ao g (au 10) ai) (iC (au 4) (ao g (au 9) ai) dH))) (aj (aU (aC (aY g) (ao g (au 9) ai) aE (aG _)) (aj (dy (bc ft (bc cB (ao g (au 4) (ao g (au 9) ai)) (ao g (au 10) ai)) (ao g (au 0) ai)) (iC (au 4) (ao g (au 9) ai) dH))) (aj (aU (aC (aY g) (ao g (au 9) ai) aE (aG _)) (aj (dy (bc ft (bc ng (ao g (au 4) (ao g (au 9) ai)) (ao g (au 10) ai)) (ao g (au 0) ai)) (iC (au 4) (ao g (au 9) ai) dH))) (aj (aU (aC (aY g) (ao g (au 9) ai) aE (aG _)) (aj (aZ (i:=5) sc.nd rfl Sort (nX (bc cB (au 5) (au 10)) ig (eW ai)))) (aj (aU (aC (aY g) (ao g (au 9) ai) aE (aG _)) (aj (aZ (i:=5) sc.nd rfl Sort (nX (au 5) (eW ai) ig))) (aj (aU (aC (aY g) (ao g (au 9) ai) aE (aG _)) (aj (bN (dB o7 rB rC bW (au 6) (af (bG (af (ao g (au 9) ai) (af (ao g (au 10) ai) aa))) aa)))) (aj (aU (aC (aY g) (ao g (au 9) ai) aE (aG _)) (aj (bN (dB o7 rB rC bW (au 7) (af (ao g (au 10) ai) aa)))) (aj (aU (aC fc (ao g (au 10) ai) (ao g (au 10) ai) (aG _)) (aj (aZ (i:=8) sc.nd rfl Sort (ao g (au 9) ai))) aK))))))))))))))))))))
  (aj (aH (bG (af (bG (af (cR cg rfl T.cf sC (af (au 4) aa)) (af (cR cg rfl T.cf sC (af (au 5) aa)) aa))) (af (au 6) (af (au 7) aa)))))))))))),?_⟩
 obtain⟨sa,sb,Xo,rfl,Xp,g,T⟩:=vN;have L9:0<M:=by lia
 left;calc dJ Xp rfl ?_;left;calc bD _ g (λB SI=>?_);have s1:=av.new (.lst (ns.map V.int)) SI;left;calc dJ (s1 _ _ Xp) rfl ?_;left;have g:aO K (upd H B (.lst (ns.map V.int))) Xo (row.map V.int)\/bF K (upd H B (.lst (ns.map V.int))) Xo (row.map V.int):=T.elim (λz=>.inl (s1.seq z)) (λz=>.inr (s1.UL z));calc bD _ g (λN BQ=>?_);have s2:=av.new (.lst (row.map V.int)) BQ;left;calc⟨aaj _,λG qE=>?_⟩;have m:=av.new (.lst []) qE;left;calc⟨aaj _,λI lD=>?_⟩;have s4:=av.new (.lst []) lD;left;have nra:N≠B:=λz=>by subst z;rw[ab]at BQ;cases BQ
 have hrH:H N=none:=s1.free BQ;have hsH:H G=none:=(s1.trans s2).free qE;have hwH:H I=none:=(s1.trans (s2.trans m)).free lD;have nsa:G≠B:=λz=>by subst z;rw[s2 _ _ ab]at qE;cases qE
 have nsr:G≠N:=λz=>by subst z;rw[ab]at qE;cases qE
 have nwa:I≠B:=λz=>by subst z;rw[m _ _ (s2 _ _ ab)]at lD;cases lD
 have nwr:I≠N:=λz=>by subst z;rw[m _ _ ab]at lD;cases lD
 have nws:I≠G:=λz=>by subst z;rw[ab]at lD;cases lD
 have g:=s1.trans (s2.trans (m.trans s4));have exs:xs.length=U.length:=by simpa using sO.1
 refine dJ (g _ _ YE) (aA (j:=3) rfl) (.inl ⟨⟨_,aO.of (g _ _ Xn)⟩,d9 (K:=K) (xs:=xs) (Of H mt (.ref sa) k a M U ns row) ?_ ?_ ?_ ?_⟩)
 ·refine⟨B,N,G,I,[],none,none,0,⟨ns,row,[],[]⟩,rfl,g,SI,hrH,hsH,hwH,Ne.symm nra,Ne.symm nsa,Ne.symm nwa,Ne.symm nsr,Ne.symm nwr,Ne.symm nws,s4 _ _ (m _ _ (s2 _ _ ab)),s4 _ _ (m _ _ ab),s4 _ _ ab,⟨rfl,λi z p e=>by simp at e⟩,ab,rfl,hb,pO,F' _,F' _,Kj⟩
 ·intro i σ H1 hi fO;obtain⟨B,N,G,I,zs,z9,DT,l,s,rfl,sH,_⟩:=fO;exact aO.of (sH _ _ Xn)
 ·intro i x σ H1 Yr fP;nofun;obtain⟨B,N,G,I,zs,z9,DT,l,s,rfl,sH,a1,a2,a3,a4,n1,n2,n3,n4,n5,n6,L,X,O,Gw,R,Ma,Gz,wm,Mb,hwn,Y⟩:=fP;have zK:i < U.length:=by rw[<-exs];exact(List.getElem?_eq_some_iff.mp Yr).1
  have rW:=ba U[i] (aaw zK);have hx:=(sO.2 i x (bH.dv U[i]) Yr (by rw[A',cD zK];rfl)).aJ sH.aP;have UQ:U.drop i=U[i]::U.drop (i+1):=List.drop_eq_getElem_cons zK;generalize hdd:U[i]=d at rW hx UQ;rw[UQ]at Y;obtain⟨pa,xp,os,k0,rfl,hpa,p6,TF,i9⟩:=DK hx;ac_rfl;left;calc bt ?_;left;calc .inr ⟨⟨_,bF.of hpa⟩,λD hD=>?_⟩;have MM:=zT (d:=d);refine aV (J:=Q5 K pa) (n:=xp.length) (λi ys H'=>ys=(((os.take i).filterMap id).map (fY M k a s.ns s.row)).map V.int/\av H1 H') (J' (aB ())) ⟨rfl,av.new _ hD⟩ ?_ ?_ ?_ ?_
  ·rintro i ys H' hi ⟨_,m⟩;exact⟨_,xp[i],bF.of (m _ _ hpa),cD hi⟩
  ·rintro ys H' ⟨_,m⟩;exact⟨_,bF.of (m _ _ hpa),F' _⟩
  ·intro i ys S hi aW qm lg y H4 pN;nofun;obtain⟨rfl,m⟩:=lg;obtain⟨rfl,g⟩:=pN;have T:=g _ (bF.of (m _ _ hpa));obtain⟨o,ho,JE⟩:=p6.get T;ac_rfl;have zQ:os.take (i+1)=os.take i++[o]:=by
    rw[aaH,ho];rfl
   walk_at "xf";left;rcases JE with⟨rfl,hc⟩|⟨v,rfl,hvx⟩
   ·have ety:∃t,gT K H4 y t/\W.kitOne K t (.type "tuple")=some false:=by
     rcases hc with⟨w,rfl⟩|⟨j,rfl⟩
     ·exact⟨_,.str w,rfl⟩
     ·exact⟨_,.int j,rfl⟩
    obtain⟨t,h1,h2⟩:=ety;refine cW t false h1 h2 ?_
    first|calc⟨false,rfl,?_⟩|skip
    left
    try rw[if_neg R']
    exact⟨_,aW,(),by rw[zQ];simp,m⟩
   ·have JF:=hvx.aJ m.aP;obtain⟨b,Me,rfl,gx⟩:=Dp JF;refine cW _ true (.tup gx) rfl ?_
    first|calc⟨true,rfl,?_⟩|skip
    left
    try first|rw[if_pos rfl]|rw[if_pos trivial]
    have y:v.ok ns.length:=pQ rW v (by rw[<-TF];calc List.mem_filterMap.mpr ⟨some v,aan ho,rfl⟩);left;calc⟨cM,λT t=>?_⟩;have g:=av.new (.tup [.ref B,.ref N]) t;calc dJ (g _ _ (m _ _ (sH _ _ YE))) (aA (j:=0) rfl) ?_;calc⟨.ref b,T,B,N,k,a,M,v,s.ns,s.row,k0,rfl,JF.aJ g.aP,ab,g _ _ (m _ _ L),g _ _ (m _ _ X),by rw[Ma];calc y,L9,wm,λH5 t=>?_⟩;calc bJ (t _ _ (g _ _ aW)) qm hi (J' (aB ())) ⟨?_,λc o e=>by rw[ay (aq e hD)];calc t _ _ (g _ _ (m _ _ e))⟩;rw[zQ,List.filterMap_append,U',U'];rfl
  rintro ys S aW qm ⟨rfl,m⟩;rw[p6.len,aat,TF]at aW;have GB:H1 D=none:=hD;nofun;generalize g:d.vals.map (fY M k a s.ns s.row)=ws at aW;have kg:ws.length=d.vals.length:=by rw[<-g];simp
  have Xs:0<=ws.getD 0 0/\ws.getD 0 0<M:=by rw[<-g];exact wF L9
  have DU:kZ M k a d s=⟨j8 M s.ns (ws.getD 0 0) d,pG s.row (ws.getD 0 0) d,s.cT++iD (ws.getD 0 0) d,s.words++gn (ws.getD 0 0) d⟩:=by rw[<-g];rfl
  have DW:nO M k a d s=pH (ws.getD 0 0) (ws.getD 1 0) d:=by rw[<-g];rfl
  have g:∀{b:Addr} {o:HO},H1 b=some o->b≠D:=λe=>aq e GB;have p8:av H S:=sH.trans m;have L7:=hx.aJ m.aP;have yi:=Gw.aJ m.aP;have t:B≠D:=g L;have t:N≠D:=g X;have t:G≠D:=g O;have t:I≠D:=g R;have nPs:∀{b:Addr} {ys zs:List V},S b=some (.tup ys)->∀{c:Addr},S c=some (.lst zs)->b≠c:=λh1 _ h2 z=>by subst z;rw[h1]at h2;cases h2
  have aer:=p8 _ _ YE
  replace L:=m _ _ L
  replace X:=m _ _ X
  replace O:=m _ _ O
  replace R:=m _ _ R
  ac_rfl;clear p6 TF i9 MM qm hx
  cases l with
  |succ l=>
   left;rw[if_pos nofun];left;calc⟨B,N,G,I,zs,some (.ref pa),some (.ref D),l,s,?_,p8,a1,a2,a3,a4,n1,n2,n3,n4,n5,n6,L,X,O,yi,R,Ma,Gz,wm,(),(),Y⟩;have:((l+1:Nat):Int)-1=((l:Nat):Int):=by lia
   rw[this]
  |zero=>
  replace Y:Qe M k a (nO M k a d s).toNat (U.drop (i+1)) (kZ M k a d s)=pJ M k a U ns row:=Y
  rw[DU,DW]at Y;left
  try rw[if_neg nofun]
  have g:((ns.length:Nat):Int)=s.ns.length:=by rw[Ma]
  have Z:∀H6 Qf Me n' r' sn' w' (k':Nat),uw M s.ns s.row (ws.getD 0 0) (ws.getD 1 0) d=(n',r',sn',w',((k':Nat):Int))->av H H6->H Qf=none->B≠Qf->Qf≠G->Qf≠I->H6 B=some (.lst (n'.map V.int))->H6 Qf=some (.lst (r'.map V.int))->H6 G=some (.lst Me)->SL H6 Me (s.cT++sn')->H6 I=some (.lst ((s.words++w').map V.int))->Of H mt (.ref sa) k a M U ns row (i+1) [some (.ref mt),some (.ref sa),some (.int k),some (.int a),some (.ref B),some (.ref Qf),some (.ref G),some (.ref I),some (.int ((k':Nat):Int)),some (.ref pa),some (.ref D)] H6:=by
   clear aW L7 yi L X O R aer nPs;intro H6 Qf Me n' r' sn' w' k' E f0 f1 f2 f3 f4 f5 f6 f7 f8 f9;simp only[uw,Prod.mk.injEq]at E;obtain⟨rfl,rfl,rfl,rfl,E⟩:=E;rw[E,aao]at Y;have g:=zU (w:=ws.getD 0 0) (d:=d);exact⟨B,Qf,G,I,Me,_,_,k',⟨_,_,_,_⟩,rfl,f0,a1,f1,a3,a4,f2,n2,n3,f3,f4,n6,f5,f6,f7,f8,f9,qi.trans Ma,DS (d:=d) L9 Gz Xs,JL (d:=d) wm,Ef Mb g.1,Ef hwn g.2,Y⟩
  have B6:∀r x,uw M s.ns s.row (ws.getD 0 0) (ws.getD 1 0) d=(s.ns.set r x,s.row,[],[],0)->Of H mt (.ref sa) k a M U ns row (i+1) [some (.ref mt),some (.ref sa),some (.int k),some (.int a),some (.ref B),some (.ref N),some (.ref G),some (.ref I),some (.int 0),some (.ref pa),some (.ref D)] (upd S B (.lst ((s.ns.map V.int).set r (.int x)))):=λr x E=>by
   have t6:bX S (upd S B (.lst ((s.ns.map V.int).set r (.int x)))):=(bX.refl _).upd λys e=>by rw[L]at e;cases e
   exact Z _ N zs _ _ _ _ 0 E (λb o e=>by rw[ay (aq e a1)];calc p8 _ _ e) a2 n1 n4 n5 (by rw[ab,List.map_set]) (by rw[ay (Ne.symm n1)];calc X) (by rw[ay (Ne.symm n2)];calc O) (by rw[aam];calc yi.aJ t6) (by rw[ay (Ne.symm n3),aam];calc R)
  have M3:=wD L7 rW;clear L7 rW Y DU DW;have Po:∀r:Nat,((r:Nat):Int)<ns.length->Br (s.ns.map V.int).length ((r:Nat):Int)=some r/\ia (s.ns.map V.int) ((r:Nat):Int)=some (.int (s.ns.getD r 0)):=λr hj=>⟨l7 (by rw[M'];lia),iM ()⟩
  cases M3 with
  |set r u hj ha hl E=>
   have DP:=iM (ws:=ws) (j:=0) ();obtain⟨x1,x2⟩:=Po r hj;walk_at "jg";refine cW _ r L x1 ?_;exact B6 _ _ (E _ _ _ _ _)
  |add r u hj ha hl E=>
   have DP:=iM (ws:=ws) (j:=0) ();obtain⟨x1,x2⟩:=Po r hj;walk_at "jg";refine⟨L9,?_⟩;walk_at "jg";refine cW _ r L x1 ?_;exact B6 _ _ (E _ _ _ _ _)
  |times r u hj ha hl E=>
   have DP:=iM (ws:=ws) (j:=0) ();obtain⟨x1,x2⟩:=Po r hj;walk_at "jg";have g:=DN Gz (j:=r) ();refine⟨.inl ⟨(),()⟩,?_⟩;walk_at "jg";refine⟨L9,?_⟩;walk_at "jg";refine cW _ r L x1 ?_;exact B6 _ _ (E _ _ _ _ _)
  |put u ha hl E=>
   obtain⟨g,aet⟩:=ac6 (kg.trans hl);walk_at "jg";refine .inl ⟨_,_,X,aW,J' (aB (by simp;lia)),λg tE=>?_⟩;have s6:=av.new (.lst (s.row.map V.int++ws.map V.int)) tE;walk_at "jg";refine .inl ⟨_,ab,λl3 AW=>?_⟩;have s7:=av.new (.lst (dS (s.row.map V.int++ws.map V.int) none (some 12))) AW;have g:=s6.trans s7;have f3:S l3=none:=s6.free AW;exact Z _ l3 zs _ _ _ _ 0 (E _ _ _ _ _) (p8.trans g) (p8.free f3) (aq L f3) (Ne.symm (aq O f3)) (Ne.symm (aq R f3)) (g _ _ L) (by rw[ab,aet];exact congrArg (λz=>some (HO.lst z)) (Og wm)) (g _ _ O) (by rw[aam];exact yi.aJ g.aP) (by rw[aam];exact g _ _ R)
  |drop ha E=>
   walk_at "jg";refine .inl ⟨_,X,λl3 AW=>?_⟩;have s7:=av.new (.lst (dS (s.row.map V.int) (some 1) none)) AW;exact Z _ l3 zs _ _ _ _ 0 (E _ _ _ _ _) (p8.trans s7) (p8.free AW) (aq L AW) (Ne.symm (aq O AW)) (Ne.symm (aq R AW)) (s7 _ _ L) (by rw[ab,YF,List.map_tail]) (s7 _ _ O) (by rw[aam];exact yi.aJ s7.aP) (by rw[aam];exact s7 _ _ R)
  |send j u ha hl E=>
   have DP:=iM (ws:=ws) (j:=0) ();walk_at "jg";refine⟨.inl ⟨rfl,_,aO.of O⟩,?_⟩;walk_at "jg";refine⟨cM,λtp zX=>?_⟩;have s6:=av.new (.tup [.int j,.int (ws.getD 0 0)]) zX;walk_at "jg";refine iE _ (s6 _ _ O) (aa4 (by have:=Gw.1;lia) (aB (n:=100) ())) ?_;have t6:bX (upd S tp (.tup [.int j,.int (ws.getD 0 0)])) (upd (upd S tp (.tup [.int j,.int (ws.getD 0 0)])) G (.lst (zs++[.ref tp]))):=(bX.refl _).upd λys e=>by rw[s6 _ _ O]at e;cases e
   have q6:∀b o,b≠G->S b=some o->upd (upd S tp (.tup [.int j,.int (ws.getD 0 0)])) G (.lst (zs++[.ref tp])) b=some o:=λb o ne e=>by rw[ay ne];exact s6 _ _ e
   calc Z _ N _ _ _ _ _ 0 (E _ _ _ _ _) (λb o e=>q6 b o (aq e a3) (p8 _ _ e)) a2 n1 n4 n5 (q6 _ _ n2 L) (q6 _ _ n4 X) ab ((yi.aJ (s6.aP.trans t6)).snoc (cV (n:=0) (t6 _ _ ab) (.int _) (.int _))) (by rw[aam];calc q6 _ _ (Ne.symm n6) R)
  |say u ha hl E=>
   have DP:=iM (ws:=ws) (j:=0) ();walk_at "jg";refine⟨.inl ⟨rfl,_,aO.of R⟩,?_⟩;walk_at "jg";refine iE _ R (aa4 (by simp;lia) (aB (n:=100) ())) ?_;have t6:bX S (upd S I (.lst (s.words.map V.int++[.int (ws.getD 0 0)]))):=(bX.refl _).upd λys e=>by rw[R]at e;cases e
   have q6:∀b o,b≠I->S b=some o->upd S I (.lst (s.words.map V.int++[.int (ws.getD 0 0)])) b=some o:=λb o ne e=>by rw[ay ne];exact e
   calc Z _ N zs _ _ _ _ 0 (E _ _ _ _ _) (λb o e=>q6 b o (aq e a4) (p8 _ _ e)) a2 n1 n4 n5 (q6 _ _ n3 L) (q6 _ _ n5 X) (q6 _ _ n6 O) (by rw[aam];calc yi.aJ t6) (by rw[ab,U'];rfl)
  |skip u v kk ha hl E=>
   have DP:=iM (ws:=ws) (j:=0) ();have g:=iM (ws:=ws) (j:=1) ();have E:=E M s.ns s.row (ws.getD 0 0) (ws.getD 1 0);walk_at "jg";by_cases Oh:ws.getD 0 0<ws.getD 1 0
   ·rw[if_pos Oh]at E;left;rw[if_pos (aar Oh)];walk_at "jg";exact Z _ N zs _ _ _ _ kk E p8 a2 n1 n4 n5 L X O (by rw[aam];exact yi) (by rw[aam];exact R)
   ·rw[if_neg Oh]at E;left;rw[if_neg λz=>Oh (aav z)];walk_at "jg";exact Z _ N zs _ _ _ _ 0 E p8 a2 n1 n4 n5 L X O (by rw[aam];exact yi) (by rw[aam];exact R)
 ·intro σ H1 rT;obtain⟨B,N,G,I,zs,z9,DT,l,s,rfl,sH,a1,a2,a3,a4,n1,n2,n3,n4,n5,n6,L,X,O,Gw,R,Ma,Gz,wm,Mb,hwn,Y⟩:=rT;rw[exs,List.drop_length] at Y;have Y:s=pJ M k a U ns row:=by rw[<-Y];cases l <;> rfl
  left;calc .inl ⟨_,aO.of L,λa g=>?_⟩;have i:=av.new (.tup (s.ns.map V.int)) g;left;calc .inl ⟨_,aO.of (i _ _ X),λl m=>?_⟩;have k:=av.new (.tup (s.row.map V.int)) m;left;calc⟨cM,λo r=>?_⟩;have g:=av.new (.tup [.ref a,.ref l]) r;left;calc⟨by show 3<=sizeLine;decide,λt m=>?_⟩;have l:=av.new (.tup [.ref o,.ref G,.ref I]) m;have a:=i.trans (k.trans (g.trans l));refine q _ _ (sH.trans a) ⟨_,_,G,I,zs,rfl,ab,?_,a _ _ O,?_,?_,a3,a4,n6⟩
  ·rw[<-Y];exact(cV ab (pF (g _ _ (k _ _ ab))) (pF (g _ _ ab))).aJ l.aP
  ·rw[<-Y];exact Gw.aJ a.aP
  ·rw[<-Y];calc a _ _ R
def jG(H:Hp)(x:V)(M:Int)(ns row:List Int)(d:List bH):Prop:=∃t a b c xs,x=.ref t/\H t=some (.tup [.int M,.ref a,.ref b,.ref c])/\H a=some (.lst (ns.map V.int))/\H b=some (.lst (row.map V.int))/\H c=some (.lst xs)/\eO H 2 xs (d.map bH.dv)
theorem jG.cv{x:V}{M:Int}{a:List bH}(s:Cv H H')(h:jG H x M ns row a):jG H' x M ns row a:=by
 obtain⟨t,a,b,c,d,e,f,g,i,j,l⟩:=h;calc⟨t,a,b,c,d,e,s _ _ f (λk z=>by cases z),s _ _ g (λk z=>by cases z),s _ _ i (λk z=>by cases z),s _ _ j (λk z=>by cases z),l.aJ s.aP⟩
def Cr(H:Hp)(mv:List V)(ib:List MD):Prop:=mv.length=ib.length/\∀(i:Nat) v d,mv[i]?=some v->ib[i]?=some d->jG H v d.M d.ns d.row d.ds
theorem Cr.cv(s:Cv H H')(h:Cr H mv ib):Cr H' mv ib:=⟨h.1,λi v d a b=>(h.2 i v d a b).cv s⟩
def ToldN(H:Hp)(x:V)(ib:List MD)(ws:List (Int×Int×Str))(ls:List (Int×Int)):Prop:=∃t a b c mv wv d,x=.ref t/\H t=some (.tup [.ref a,.ref b,.ref c])/\H a=some (.lst mv)/\H b=some (.lst wv)/\H c=some (.lst d)/\Cr H mv ib/\eO H 1 wv (ws.map nI)/\eO H 1 d (ls.map qB)
theorem ToldN.cv{x:V}(s:Cv H H')(h:ToldN H x ib ws ls):ToldN H' x ib ws ls:=by
 obtain⟨t,a,b,c,mv,wv,d,e,f,g,i,j,l,m,n⟩:=h;calc⟨t,a,b,c,mv,wv,d,e,s _ _ f (λk z=>by cases z),s _ _ g (λk z=>by cases z),s _ _ i (λk z=>by cases z),s _ _ j (λk z=>by cases z),l.cv s,m.aJ s.aP,n.aJ s.aP⟩
def Mm(a:V)(ev:Addr)(o:Nat->Addr):List (Key×V):=[(.inr "net",a),(.inr "put",.ref (o 4)),(.inr "sender",.ref (o 5)),(.inr "worker",.ref (o 6)),(.inr "states",.ref (o 1)),(.inr "words",.ref (o 2)),(.inr "heard",.ref (o 3)),(.inr "events",.ref ev)]
section
variable {H:Hp}{d:Addr}{tn:V}{ev:Addr}{o:Nat->Addr}
theorem yj(h:H d=some (.dK (Mm tn ev o))):jj H d (.str "net") (some tn):=.inl ⟨_,.inr "net",.inl h,rfl,by kernel_rfl⟩
theorem Kl(h:H d=some (.dK (Mm tn ev o))):jj H d (.str "put") (some (.ref (o 4))):=.inl ⟨_,.inr "put",.inl h,rfl,by kernel_rfl⟩
theorem Km(h:H d=some (.dK (Mm tn ev o))):jj H d (.str "sender") (some (.ref (o 5))):=.inl ⟨_,.inr "sender",.inl h,rfl,by kernel_rfl⟩
theorem Oi(h:H d=some (.dK (Mm tn ev o))):jj H d (.str "worker") (some (.ref (o 6))):=.inl ⟨_,.inr "worker",.inl h,rfl,by kernel_rfl⟩
theorem Kn(h:H d=some (.dK (Mm tn ev o))):jj H d (.str "states") (some (.ref (o 1))):=.inl ⟨_,.inr "states",.inl h,rfl,by kernel_rfl⟩
theorem YH(h:H d=some (.dK (Mm tn ev o))):jj H d (.str "words") (some (.ref (o 2))):=.inl ⟨_,.inr "words",.inl h,rfl,by kernel_rfl⟩
theorem Oj(h:H d=some (.dK (Mm tn ev o))):jj H d (.str "heard") (some (.ref (o 3))):=.inl ⟨_,.inr "heard",.inl h,rfl,by kernel_rfl⟩
theorem An(h:H d=some (.dK (Mm tn ev o))):jj H d (.str "events") (some (.ref ev)):=.inl ⟨_,.inr "events",.inl h,rfl,by kernel_rfl⟩
end
def _root_.DD.RS.tv(r:RS):Nat->Nat->CO
 |0,_=>.l (r.picks.map pairD)
 |1,m=>.l ((r.mm m).eB.map ub)
 |2,m=>.l ((r.mm m).wp.map λw=>.lst (w.map .int))
 |3,m=>.l ((r.mm m).hr.map λw=>.lst (w.map .int))
 |4,w=>.l ((r.ww w).say.map .int)
 |5,w=>.l ((r.ww w).snd.map nj)
 |_,w=>.d (i8 (r.ww w).cF) ((r.ww w).cF.countP Option.isSome)
theorem count_set{e:Int×Int}:∀{l:List (Option (Int×Int))}{k:Nat},l[k]?=some none->(l.set k (some e)).countP Option.isSome=l.countP Option.isSome+1
 | [],k,h=>by simp at h
 |a::r,0,h=>by simp at h;subst h;simp
 |a::r,k+1,h=>by
  have b:=count_set (e:=e) (l:=r) (k:=k) (by simpa using h);simp only[List.set_cons_succ,List.countP_cons];rw[b];lia
theorem Ko{l:List (Option (Int×Int))}{k:Nat}(h:k<l.length)(j:Int):i8 (l.set k (some e)) j=if j=((k:Nat):Int) then some (pairD e) else i8 l j:=by
 unfold i8;by_cases a:0<=j
 ·rw[if_pos a,if_pos a];by_cases z:j=((k:Nat):Int)
  ·subst z;rw[if_pos rfl,aao,L',List.getElem?_set];simp[h]
  ·rw[if_neg z,L',List.getElem?_set,if_neg (),<-L']
 ·rw[if_neg a,if_neg a,if_neg ()]
theorem F3{l:List (Option (Int×Int))}:i8 (l++[none])=i8 l:=by
 funext j;unfold i8;split
 ·congr 1;rw[L',L',List.getElem?_append];split
  ·rfl
  ·next z=>
   rw[List.getElem?_eq_none (l:=l) ()]
   cases a:j.toNat-l.length with
   |zero=>rfl
   |succ n=>rfl
 ·rfl
structure bV(F:Addr->Prop)(H:Hp)(d:Addr)(tn:V)(nt:NT)(r:RS)(ad:Nat->Nat->Addr):Prop where
 dk:∃o,H d=some (.dK (Mm tn (ad 0 0) o))/\¬F d/\¬FP nt.n ad d/\∀t,1<=t->t<=6->H (o t)=some (.lst (kb nt.n ad t))/\¬F (o t)/\¬FP nt.n ad (o t)
 cH:eA F H nt.n ad r.tv
 told:∃ls,ToldN (jZ (λb=>F b\/FP nt.n ad b) H) tn nt.ms nt.ws ls
 ok:nt.Ok
section
variable {F:Addr->Prop}{H H':Hp}{d:Addr}{tn:V}{nt:NT}{r:RS}{ad:Nat->Nat->Addr}
theorem bV.keep(h:bV F H d tn nt r ad)(f:Fr F H H'):bV F H' d tn nt r ad:=by
 obtain⟨⟨o,g,e,i,c⟩,j,⟨ls,k⟩,l⟩:=h;calc⟨⟨o,f.at g e,e,i,λt a b=>⟨f.at (c t a b).1 (c t a b).2.1,(c t a b).2⟩⟩,j.keep f,⟨ls,k.cv (f.mono λb z=>.inl z).jZ⟩,l⟩
theorem bV.same(h:bV F H d tn nt r ad)(s:av H H'):bV F H' d tn nt r ad:=h.keep s.fr
theorem bV.own(h:bV F H d tn nt r ad)(f:Fr (FP nt.n ad) H H')(b:eA F H' nt.n ad r'.tv):bV F H' d tn nt r' ad:=by
 obtain⟨⟨o,g,i,e,c⟩,l,⟨ls,j⟩,k⟩:=h;calc⟨⟨o,f.at g e,i,e,λt a b=>⟨f.at (c t a b).1 (c t a b).2.2,(c t a b).2⟩⟩,b,⟨ls,j.cv (f.mono λb z=>.inr z).jZ⟩,k⟩
end
theorem F4{l:List (Option (Int×Int))}{k:Nat}:(i8 l ((k:Nat):Int)).isSome= !(l.getD k none).isNone:=by
 unfold i8;rw[if_pos (),aao]
 cases l.getD k none<;>rfl
theorem F5{H0 H:Hp}{a:Addr}{b:List (Key×V)}{g:Int->Option DV}{N:Nat}(e:H a=some (.dK b))(h:OR H0 (.d g N) (.dK b))(k:Int):∃o,jj H a (.int k) o/\o.isSome=(g k).isSome:=by
 calc bD _ (jj.k (k:=Sum.inl k) e) ?_;have:=h.2 k;revert this
 cases g k with
 |none=>intro h;rw[h];rfl
 |some d=>intro⟨v,h,_⟩;rw[h];rfl
abbrev my:Stmt:=top 75
def Kp:Sp:=λvs H Q _=>∃(F:Addr->Prop) (d:Addr) (a:V) (nt:NT) (r:RS) (ad:Nat->Nat->Addr) (m:Nat),vs=[.ref d,.int m]/\bV F H d a nt r ad/\r.Ok nt/\r.picks.length<=400/\m<nt.ws.length/\∀l H',av H H'->H l=none->H' l=some (.lst ((r.Mh m).map λk=>.int (k:Nat)))->Q (.ref l) H'
theorem Ao(D:cw K mg "_law_lying" "_law_lying" my ["_law_run","_law_way"])(T:Tx K mg C CN CR F FD):Def P w K mg base "_law_lying" 1 ["_law_run","_law_way"] Kp:=by
 have sc:aD ["_law_run","_law_way"] ["_law_run","_law_way"] (az my):=by walk_at "s"
 symm;obtain⟨F,d,g,z,r,ad,m,rfl,j,k,B,b,q⟩:=h;have g:=hr.units;have z:=lt1 g;calc⟨_,(aj (aH (cu (N':=["_law_k","_law_way","_law_run"]) (ix:=[none,some 1,some 0]) (cy rfl T.dG (af (aX aN rfl T.bO S' (af (ao g (ao g (au 0) aE) (au 1)) aa)) aa)) (λ_ _ _ _=>(aR (i:=0) (show(["_law_k","_law_way","_law_run"]:List Str).Nodup by decide +kernel) rfl Sort)) (λ_ _ _ _=>(fT (QU (E4 z (au 0) (cj (K:=K) rfl g (cj (K:=K) rfl g (au 2) aE) (au 1)))))) (λ_ _ _ _=>(au 0))))),?_⟩;nofun;obtain⟨o,v,z,B,g⟩:=j.dk;have z:=(g 4 ∅ ∅).1;have G:=(g 6 ∅ ∅).1;obtain⟨B,I,L⟩:=j.cH.lst (t:=4) (i:=m) b rfl;obtain⟨g,M,N⟩:=j.cH.dct (t:=6) (i:=m) b rfl;ac_rfl;have g:B.length=(r.ww m).say.length:=by simpa using L.1
 have j:=k.bs m b;left;calc bt ?_;left;calc bD _ (Kl v) ?_;left;calc bC z (bo b) ?_;calc bD _ (.inl ⟨_,aO.of I,rfl⟩) ?_;left;rw[g];calc gp () () (λD p=>?_);rw[aao];refine aV (J:=Bc 0 (r.ww m).say.length) (n:=(r.ww m).say.length) (λi ys H'=>av H H'/\ys=((List.range i).filter λk=>((r.ww m).cF.getD k none).isNone).map λk=>V.int (k:Nat)) (J' (small ())) ⟨av.new _ p,rfl⟩ (λi ys H' u _=>u) (λys H' _=>F' _) ?_ ?_
 ·intro i ys H' u l y O x H2 R;nofun;obtain⟨a,rfl⟩:=O;obtain⟨rfl,rfl⟩:=R;ac_rfl;walk_at "xf";left;refine bD _ (Oi (a _ _ v)) ?_;left;refine bC (a _ _ G) (bo b) ?_;rw[Int.zero_add];obtain⟨g,j,k⟩:=F5 (a _ _ M) N ((i:Nat):Int);refine⟨ad 6 m,g,rfl,j,?_⟩;rw[k,F4,Bool.not_not];left;by_cases z:((r.ww m).cF.getD i none).isNone=true
  ·rw[z]
   try rw[if_pos rfl]
   calc bJ l y u (J' (small ())) ⟨λc o e=>by rw[ay (aq e p)];calc a _ _ e,?_⟩;rw[jf,if_pos z,U'];rfl
  ·rw[Bool.not_eq_true] at z;rw[z]
   try rw[if_neg ∅]
   exact⟨_,l,(),a,by rw[jf,if_neg (by rw[z];decide),aam]⟩
 ·rintro ys H' l y ⟨a,rfl⟩;calc q _ _ a p l
def ji(nt:NT)(r:RS)(w:Nat):List Nat:=if (nt.w w).2.2="row" then(r.Mh w).take 1 else r.Mh w
def k7(nt:NT)(r:RS)(n:Nat):List (Nat×Nat):=(List.range n).flatMap λw=>(ji nt r w).map λk=>(w,k)
theorem uM{nt:NT}{n:Nat}:k7 nt r (n+1)=k7 nt r n++(ji nt r n).map λk=>(n,k):=by
 unfold k7;rw[List.range_succ,List.flatMap_append];simp
theorem eO.app{n:Nat}{vs us:List V}{c:List DV}(h:eO H n vs c)(g:eO H n us es):eO H n (vs++us) (c++es):=by
 calc⟨by simp[h.1,g.1],λi v d a b=>?_⟩;by_cases c:i<vs.length
 ·rw[W' c]at a;rw[W' (by rw[<-h.1];calc c)]at b;exact h.2 i _ _ a b
 ·rw[V' ()]at a;rw[V' (by rw[<-h.1];lia),<-h.1]at b;calc g.2 _ _ _ a b
theorem yk{w:Nat}:(r.Mh w).length<=(r.ww w).say.length:=by
 unfold RS.Mh;calc aaq (List.length_filter_le _ _) nofun
theorem wK{nt:NT}{w:Nat}:(ji nt r w).length<=(r.ww w).say.length:=by
 unfold ji;split
 ·rw[aaB];have:=yk (r:=r) (w:=w);lia
 ·calc yk
theorem wL{nt:NT}{r:RS}{B:Nat}:∀n,(∀w,w<n->(r.ww w).say.length<=B)->(k7 nt r n).length<=n*B
 |0,_=>by simp[k7]
 |n+1,h=>by
  rw[uM,aas,M'];have a:=wL (nt:=nt) n (λw a=>h w ());have a:=h n ();have a:=wK (nt:=nt) (r:=r) (w:=n);rw[Nat.succ_mul];lia
def pkD(p:Nat×Nat):DV:=pairD (((p.1:Nat):Int),((p.2:Nat):Int))
theorem F6{r:RS}{w k:Nat}(h:k∈(r.Mh w).take 1):∀j,j<k->((r.ww w).cF.getD j none).isNone=false:=by
 unfold RS.Mh at h;generalize b:(List.range (r.ww w).say.length).filter (λk=>((r.ww w).cF.getD k none).isNone)=l at h
 cases l with
 |nil=>simp at h
 |cons a t=>
  simp at h;subst h;intro j g;have f:(List.range (r.ww w).say.length).Pairwise (· < ·):=List.pairwise_lt_range;have c:=f.filter (λk=>((r.ww w).cF.getD k none).isNone);rw[b]at c;have f:k∈(List.range (r.ww w).say.length).filter (λk=>((r.ww w).cF.getD k none).isNone):=by rw[b];simp
  rw[aaY,abb]at f
  cases z:((r.ww w).cF.getD j none).isNone with
  |false=>rfl
  |true=>
   exfalso;have d:j∈(List.range (r.ww w).say.length).filter (λk=>((r.ww w).cF.getD k none).isNone):=by
    rw[aaY,abb];exact⟨(),z⟩
   rw[b]at d;rcases List.mem_cons.mp d with e|e
   ·lia
   ·have:=(List.pairwise_cons.mp c).1 j e;lia
theorem Kq{nt:NT}(h:r.Ok nt){w k:Nat}(c:(w,k)∈k7 nt r nt.ws.length):r.NV nt w k:=by
 unfold k7 at c;rw[List.mem_flatMap]at c;obtain⟨j,a,c⟩:=c;rw[abb]at a;rw[List.mem_map]at c;obtain⟨j,b,e⟩:=c
 cases e;have f:k∈r.Mh w:=by
  unfold ji at b;split at b
  ·exact List.mem_of_mem_take b
  ·exact b
 have g:k<(r.ww w).say.length/\((r.ww w).cF.getD k none).isNone=true:=by
  unfold RS.Mh at f;rw[aaY,abb]at f;exact f
 have c:=h.lk w a;refine⟨a,?_,λi c=>?_⟩
 ·rw[aS (d:=none) ()]
  cases z:(r.ww w).cF.getD k none with
  |none=>rfl
  |some e=>rw[z]at g;simp at g
 ·unfold ji at b;rw[if_pos i] at b;have:=F6 b (k - 1) ();rw[aS (d:=none) (show k - 1 < (r.ww w).cF.length by lia)]
  cases z:(r.ww w).cF.getD (k-1) none with
  |none=>rw[z]at this;simp at this
  |some e=>calc⟨e,rfl⟩
theorem TH{xs:List V}:dS xs none (some 1)=xs.take 1:=by
 unfold dS;have b:HT.eF xs.length 0 none=0:=rfl;rw[b]
 cases xs with
 |nil=>simp
 |cons a r=>
  have b:HT.eF (a::r).length (a::r).length (some 1)=1:=by
   unfold HT.eF;simp
  rw[b];simp
abbrev oJ:Stmt:=top 76
def Kr:Sp:=λvs H Q _=>∃(F:Addr->Prop) (d:Addr) (a:V) (nt:NT) (r:RS) (ad:Nat->Nat->Addr),vs=[.ref d]/\bV F H d a nt r ad/\r.Ok nt/\r.picks.length<=400/\∀l ys H',av H H'->H l=none->H' l=some (.lst ys)->eO H' 1 ys ((k7 nt r nt.ws.length).map pkD)->Q (.ref l) H'
theorem Cs(D:cw K mg "_law_free" "_law_free" oJ ["_law_run"])(T:Tx K mg C CN CR F FD)(mz:Def P w K mg base "_law_lying" 1 ["_law_run","_law_way"] Kp):Def P w K mg base "_law_free" 2 ["_law_run"] Kr:=by
 have sc:aD ["_law_run","_law_free_here","_law_way","_law_told","_law_numbers"] ["_law_run"] (az oJ):=by walk_at "s"
 symm;obtain⟨F,d,tn,a,r,ad,rfl,I,Z,i9,q⟩:=h;have S:=hr.units;refine⟨_,(ag (aZ (i:=1) sc.nd rfl Sort (bx aa))
  (ag (dC PassesOwn.never rfl (gK rfl T.cK (af (ao S (ao S (au 0) aE) ai) aa)) (dW (i:=2) (j:=3) rfl sc.nd rfl rfl Sort Sort)
  (ag (aZ (i:=4) sc.nd rfl Sort (aI mz hr (af (au 0) (af (au 2) aa))))
  (ag (aU (aC (aY S) (ao S (au 3) ai) aE (aG _)) (aj (aZ (i:=4) sc.nd rfl Sort (nX (au 4) ig (eW ai)))) aK)
  (aj (aZ (i:=1) sc.nd rfl Sort (bc cB (au 1) (cu (N':=["_law_number","_law_way"]) (ix:=[none,some 2]) (bI (pv 4)) (λ_ _ _ _=>(aR (i:=0) (show(["_law_number","_law_way"]:List Str).Nodup by decide +kernel) rfl Sort)) kj (λ_ _ _ _=>(bG (af (au 1) (af (au 0) aa)))))))))))
  (aj (aH (au 1))))),?_⟩
 nofun;obtain⟨o,hd,nF,nP,ho⟩:=I.dk;obtain⟨ls,t,am,aw,al,mv,wv,lv,rfl,h1,h2,h3,h4,h5,U,h7⟩:=I.told;have g1:=(ei h1 (λk z=>by cases z)).2;have g3:=(ei h3 (λk z=>by cases z)).2
 replace U:=U.aJ dD.aP
 ac_rfl;have kg:wv.length=a.ws.length:=by simpa using U.1
 have rV:wv.length<=10:=by rw[kg];exact I.ok.Fo
 have hB:∀w,w<a.ws.length->(r.ww w).say.length<=9620:=λw hw=>by have:=Z.bs w hw;lia
 left;calc⟨aaj _,λW SK=>?_⟩;have X:=av.new (.lst []) SK;have el0:upd H W (.lst []) W=some (.lst []):=ab;generalize hG0:upd H W (.lst [])=G0 at *;left;refine yj (X _ _ hd) |> λh=>⟨_,h,?_⟩
 refine dJ (X _ _ g1) (aA (j:=1) rfl) ⟨true,wv,Sq.l (X _ _ g3),pD (xs:=wv) (λi σ H'=>∃z2 z3 z4 y ys,σ=[some (V.ref d),some (V.ref y),z2,z3,z4]/\av H H'/\H y=none/\H' y=some (.lst ys)/\eO H' 1 ys ((k7 a r i).map pkD)) ?_ ?_ ?_ ?_⟩
 ·exact⟨_,_,_,W,[],rfl,X,SK,el0,show eO _ 1 [] [] from eO.nil⟩
 ·intro i σ H' lg;obtain⟨_,_,_,_,_,_,g,_⟩:=lg;exact Sq.l (g _ _ g3)
 ·intro i x σ H' tt hx pN YG;nofun;obtain⟨z2,z3,z4,y,ys,rfl,g,L,TJ,M⟩:=pN;have L6:i < a.ws.length:=by rw[<-kg];exact(List.getElem?_eq_some_iff.mp hx).1
  have s2:=av.new (.tup [.int (i:Nat),x]) YG;have ett:upd H' tt (.tup [.int (i:Nat),x]) tt=some (.tup [.int (i:Nat),x]):=ab;have AS:=(U.2 i x (nI (a.w i)) hx (by rw[A',show a.ws[i]?=some (a.w i) from aS L6];rfl)).aJ (g.trans s2).aP;generalize Jy:upd H' tt (.tup [.int (i:Nat),x])=G2 at *;obtain⟨ta,u1,u2,u3,kk,rfl,rX,y1,y2,y3⟩:=bT AS;obtain rfl:=y1.cG;obtain rfl:=y2.cG;obtain rfl:=y3.cX;ac_rfl;calc rF (bF.of ett) ?_;left;calc⟨F,d,_,a,r,ad,i,rfl,(I.same g).same s2,Z,i9,L6,λln H3 s3 fln u=>?_⟩;have lx:av H' H3:=s2.trans s3;have hly:=yk (r:=r) (w:=i);have hfw:=wK (nt:=a) (r:=r) (w:=i);have hBi:=hB i L6;left;calc dJ (s3 _ _ rX) (aA (j:=2) rfl) ?_;left;rename_i N1 hN1 T1 U1 Xu hU1;have m:∀N G,av H' N->N G=some (.lst ((ji a r i).map λk=>V.int ((k:Nat):Int)))->N1 [some (V.ref d),some (V.ref y),some (V.int ((i:Nat):Int)),some (V.ref ta),some (V.ref G)] N:=by
   intro N G zW u;clear Xu hU1;left;calc bt ?_;left;calc .inl ⟨⟨_,aO.of u⟩,λD hD=>?_⟩;refine aV (J:=rD K G) (n:=(ji a r i).length) (λj v H'=>av N H'/\eO H' 1 v (((ji a r i).take j).map λk=>pkD (i,k))) (J' (small ())) ⟨av.new _ hD,show eO _ 1 [] [] from eO.nil⟩ ?_ ?_ ?_ ?_
   ·rintro j v H' O ⟨p,_⟩;exact⟨_,_,aO.of (p _ _ u),by rw[A',cD O];rfl⟩
   ·rintro v H' ⟨p,_⟩;exact⟨_,aO.of (p _ _ u),nofun⟩
   ·intro j v H' O TL je Co xx H4 Kf;nofun;obtain⟨p,R⟩:=Co;obtain⟨rfl,hy⟩:=Kf;have ex:=hy _ (aO.of (p _ _ u));rw[A',cD O] at ex;obtain rfl:=Option.some.inj ex;ac_rfl;walk_at "xf";left
    try rw[if_pos trivial]
    calc⟨cM,λt2 o8=>?_⟩;have s6:=av.new (.tup [.int ((i:Nat):Int),.int (((ji a r i)[j]:Nat):Int)]) o8;have F7:=s6 _ _ TL;calc bJ F7 je O (J' (small ())) ⟨λc o e=>by rw[ay (aq e hD)];calc s6 _ _ (p _ _ e),?_⟩;have tu:bX (upd H4 t2 (.tup [.int ((i:Nat):Int),.int (((ji a r i)[j]:Nat):Int)])) (upd (upd H4 t2 (.tup [.int ((i:Nat):Int),.int (((ji a r i)[j]:Nat):Int)])) D (.lst (v++[.ref t2]))):=(bX.refl _).upd λzs e=>by rw[F7]at e;cases e
    rw[aaU,cD O,U'];exact((R.aJ s6.aP).snoc (cV (n:=0) ab (.int _) (.int _))).aJ tu
   rintro v H6 TL je ⟨p,R⟩;rw[aat]at R;have b:av H' H6:=zW.trans p;left;refine .inl ⟨_,_,b _ _ TJ,TL,?_,λlf' YJ=>?_⟩
   ·have a1:=M.1;have a2:=R.1;have a3:=wL (nt:=a) (r:=r) (B:=9620) i (λw hw=>hB w ());simp at a1 a2;rw[aax];have a5:i<=9:=by lia
    have a4:i*9620<=9*9620:=Nat.mul_le_mul_right _ a5;lia
   have s7:=av.new (.lst (ys++v)) YJ;left;calc acK _ _ _ lf' _ ⟨rfl,rfl,rfl,rfl⟩ (g.trans (b.trans s7)) ((g.trans b).free YJ) ab ?_;rw[uM,U'];calc((M.aJ b.aP).app ?_).aJ s7.aP;rw[List.map_map];exact R
  by_cases Y:(a.w i).2.2="row"
  ·rw[if_pos (by simp[Y])];left;calc .inl ⟨_,u,λG tE=>?_⟩;rw[TH];have s4:=av.new (.lst (((r.Mh i).map λk=>V.int ((k:Nat):Int)).take 1)) tE;exact m _ G (lx.trans s4) (by unfold ji;rw[ab,if_pos Y,List.map_take])
  ·rw[if_neg (by simp[Y])];calc L2.bz (by assumption) ?_;exact m _ ln lx (by unfold ji;rw[if_neg Y];calc u)
 ·intro σ H' Oe;obtain⟨z2,z3,z4,y,ys,rfl,g,L,TJ,M⟩:=Oe;rw[kg]at M;left;calc q _ _ _ g L TJ M
def Oo(H H':Hp):Prop:=∀b o,H b=some o->(∀k,o≠.own k)->H' b=some o
theorem Oo.aP(h:Oo H H'):bX H H':=λb a e=>h b _ e (λk z=>by cases z)
theorem _root_.L2.av.Mn(s:av H H'):Oo H H':=λb o e _=>s b o e
theorem jG.Mn{x:V}{M:Int}{a:List bH}(s:Oo H H')(h:jG H x M ns row a):jG H' x M ns row a:=by
 obtain⟨t,a,b,c,d,e,f,g,i,j,l⟩:=h;calc⟨t,a,b,c,d,e,s _ _ f (λk z=>by cases z),s _ _ g (λk z=>by cases z),s _ _ i (λk z=>by cases z),s _ _ j (λk z=>by cases z),l.aJ s.aP⟩
theorem Cr.Mn(s:Oo H H')(h:Cr H mv ib):Cr H' mv ib:=⟨h.1,λi v d a b=>(h.2 i v d a b).Mn s⟩
theorem Cr.nil:Cr H [] []:=⟨rfl,λi v d a=>by simp at a⟩
theorem Cr.snoc{v:V}{d:MD}(h:Cr H mv ib)(g:jG H v d.M d.ns d.row d.ds):Cr H (mv++[v]) (ib++[d]):=by
 calc⟨by simp[h.1],λi y e a b=>?_⟩;by_cases c:i<mv.length
 ·rw[W' c]at a;rw[W' (by rw[<-h.1];calc c)]at b;exact h.2 i _ _ a b
 ·rw[V' ()] at a;rw[V' (by rw[<-h.1];lia),<-h.1] at b
  cases f:i-mv.length with
  |zero=>rw[f]at a b;cases a;cases b;calc g
  |succ k=>rw[f]at a;simp at a
def mask(a b c:Addr)(H:Hp):Hp:=λx=>if x=a\/x=b\/x=c then some (.own 0) else H x
theorem pV{c x:Addr}(d:x≠a)(e:x≠b)(f:x≠c):mask a b c H x=H x:=by unfold mask;rw[if_neg (by simp[d,e,f])]
theorem wM{c x:Addr}{o:HO}(h:mask a b c H x=some o)(d:∀k,o≠.own k):x≠a/\x≠b/\x≠c/\H x=some o:=by
 unfold mask at h;split at h
 ·cases h;exact absurd rfl (d 0)
 ·rename_i hn;simp only[not_or]at hn;calc⟨hn.1,hn.2.1,hn.2.2,h⟩
theorem Ks{c:Addr}:Oo (mask a b c H) H:=λx o e n=>(wM e n).2.2.2
theorem Ap{c:Addr}(h:∀x o,x≠a->x≠b->x≠c->H x=some o->H' x=some o):Oo (mask a b c H) (mask a b c H'):=λx o e n=>by
 obtain⟨d,f,g,i⟩:=wM e n;rw[pV d f g];calc h x o d f g i
theorem F8{c t d f g:Addr}{xs:List V}{M:Int}{n:List bH}(p:H t=some (.tup [.int M,.ref d,.ref f,.ref g]))(q:H d=some (.lst (ns.map V.int)))(r:H f=some (.lst (row.map V.int)))(s:H g=some (.lst xs))(u:eO H 2 xs (n.map bH.dv))
  (h:∃ys,H a=some (.lst ys)) (i:∃ys,H b=some (.lst ys)) (j:∃ys,H c=some (.lst ys)) (k:d≠a/\d≠b/\d≠c) (l:f≠a/\f≠b/\f≠c) (m:g≠a/\g≠b/\g≠c):jG (mask a b c H) (.ref t) M ns row n:=by
 obtain⟨n,h⟩:=h;obtain⟨n,i⟩:=i;obtain⟨n,j⟩:=j;have o:bX H (mask a b c H):=λx ys e=>by
  rw[pV (λz=>by rw[z,h]at e;cases e) (λz=>by rw[z,i]at e;cases e) (λz=>by rw[z,j]at e;cases e)];exact e
 calc⟨t,d,f,g,xs,rfl,o _ _ p,by rw[pV k.1 k.2.1 k.2.2];calc q,by rw[pV l.1 l.2.1 l.2.2];calc r,by rw[pV m.1 m.2.1 m.2.2];calc s,u.aJ o⟩
structure Eh(ib:List MD)(ws:List (Int×Int×Str))(ls:List (Int×Int)):Prop where
 m1:1<=ib.length
 m5:ib.length<=5
 HG:ws.length<=10
 Qg:ls.length<=20
 mg:∀d∈ib,d.good
 wo:∀w∈ws,wz ib.length w
 lo:∀l∈ls,wA ws.length l
theorem Eh.nt(h:Eh ib ws ls):(NT.mk ib ws).Ok:=⟨h.m5,h.m1,h.HG,h.mg,h.wo⟩
abbrev qM:Stmt:=top 71
def Ei(K:W.Frag):Sp:=λvs H Q _=>∃(a:Addr) (ns:List Int),vs=[.ref a]/\aO K H a (ns.map V.int)/\ns.length<=63/\∀t b c d mv wv e ib ws ls H',av H H'->H' t=some (.tup [.ref b,.ref c,.ref d])->H' b=some (.lst mv)->H' c=some (.lst wv)->H' d=some (.lst e)->Cr H' mv ib->eO H' 1 wv (ws.map nI)->eO H' 1 e (ls.map qB)->Eh ib ws ls->Q (.ref t) H'
theorem F9(D:cw K mg "_law_net" "_law_net" qM ["_law_script"])(T:Tx K mg C CN CR F FD)(x:Def P w K mg base "_law_at" 1 ["_law_script","_law_k"] (Jt K))(v:Def P w K mg base "_law_digit" 1 ["_law_pot_here","_law_many"] iH)(jH:Def P w K mg base "_law_machine" 4 ["_law_pot_here"] Al)(M:Def P w K mg base "_law_pot" 1 ["_law_cell"] BX):Def P w K mg base "_law_net" 5 ["_law_script"] (Ei K):=by
 have sc:aD ["_law_script","_law_many","_law_machines","_law_pot_here","_law_ways","_law_k","_law_letters","_law_said"] ["_law_script"] (az qM):=by walk_at "s"
 symm;obtain⟨a,ns,rfl,hS,h63,q⟩:=h;have hu:=hr.units;refine⟨_,(ag (aZ (i:=1) sc.nd rfl Sort (bc cB ai (bc ft (aI x hr (af (au 0) (af ai aa))) ai)))
  (ag (ee (i:=2) sc.nd rfl Sort (N':=["_law_k","_law_script"]) (ix:=[none,some 0]) (cy rfl T.dG (af (au 1) aa)) (λ_ _ _ _=>(aR (i:=0) (show(["_law_k","_law_script"]:List Str).Nodup by decide +kernel) rfl Sort)) kj (λ_ _ _ _=>(aI jH hr (af (aI M hr (af (aI x hr (af (au 1) (af (bc cB ai (au 0)) aa))) aa)) aa))))
  (ag (aZ (i:=3) sc.nd rfl Sort (aI M hr (af (aI x hr (af (au 0) (af ai aa))) aa)))
  (ag (aZ (i:=4) sc.nd rfl Sort (bx aa))
  (ag (dC PassesOwn.never rfl (cy rfl T.dG (af (aI v hr (af (au 3) (af ai aa))) aa)) (aR (i:=5) sc.nd rfl Sort)
  (aj (bN (dB o7 rB rC bW (au 4) (af (bG (af (aI v hr (af (au 3) (af (au 1) aa))) (af (aI v hr (af (au 3) (af (au 1) aa))) (af (ao hu (bx (af aE (af aE aa))) (aI v hr (af (au 3) (af ai aa)))) aa)))) aa)))))
  (ag (aZ (i:=3) sc.nd rfl Sort (aI M hr (af (aI x hr (af (au 0) (af ai aa))) aa)))
  (ag (aZ (i:=6) sc.nd rfl Sort (bx aa))
  (ag (dC PassesOwn.never rfl (cy rfl T.dG (af (aI v hr (af (au 3) (af ai aa))) aa)) (aR (i:=5) sc.nd rfl Sort)
  (aj (aU (aC (ip hu) (au 4) (bx aa) (aG _)) (ag (aZ (i:=7) sc.nd rfl Sort (ao hu (bx (af (aI v hr (af (au 3) (af ai aa))) (af (aI v hr (af (au 3) (af (bc sJ ai ai) aa))) aa))) (aI v hr (af (au 3) (af ai aa)))))
  (aj (bN (dB o7 rB rC bW (au 6) (af (bG (af (aI v hr (af (au 3) (af (aX aN rfl T.bO S' (af (au 4) aa)) aa))) (af (au 7) aa))) aa))))) aK)))
  (aj (aH (bG (af (au 2) (af (au 4) (af (au 6) aa)))))))))))))),?_⟩
 left;calc⟨a,ns,_,rfl,hS,(),λg=>⟨(by decide:(0:Int)<5),?_⟩⟩;have v:=aa6 g (b:=5) ∅;have v:=aaQ g (b:=5) ∅;left;calc bt ?_;left;calc gp () () (λD hD=>?_);refine aV (J:=Bc 0 (1+g%5).toNat) (n:=(1+g%5).toNat) (λi ys H'=>av H H'/\∃ib,ib.length=i/\Cr (mask D D D H') ys ib/\∀d∈ib,d.good) (J' (aB ())) ⟨av.new _ hD,[],rfl,Cr.nil,λd hd=>by simp at hd⟩ (λi ys H' hi _=>hi) (λys H' _=>F' _) ?_ ?_
 ·intro i ys H1 hi aW hl fO x H2 fP;nofun;obtain⟨s1,ib,nQ,hM,O⟩:=fO;obtain⟨rfl,rfl⟩:=fP;ac_rfl;walk_at "xf";left;rw[if_pos trivial];refine⟨a,ns,_,rfl,s1.seq hS,(),λv=>⟨v,rfl,λp Vq R sF=>⟨p,rfl,⟨_,ab,sF⟩,λt v x ld xs M mns row ds T st h1 h2 h3 h4 h5 f1 f2 f3 hg=>?_⟩⟩⟩;have q3:∀b o,H2 b=some o->T b=some o:=λb o e=>st.rest b o ((av.new _ R) _ _ e) (aq e R);have v:=q3 _ _ aW;have p1:=(av.new (.lst (Vq.map V.int)) R) _ _ aW;have x:∀{b:Addr},upd H2 p (.lst (Vq.map V.int)) b=none->b≠D:=λf=>Ne.symm (aq p1 f);refine bJ v hl hi (J' (aB ())) ⟨λb o e=>by rw[ay (aq e hD)];exact q3 _ _ (s1 _ _ e),ib++[⟨M,mns,row,ds⟩],by simp[nQ],?_,λd hd=>?_⟩
  ·have c4:Oo (mask D D D H2) (mask D D D (upd T D (.lst (ys++[.ref t])))):=Ap λb o M b2 b3 e=>by rw[ay M];exact q3 _ _ e
   have c5:Oo (mask D D D T) (mask D D D (upd T D (.lst (ys++[.ref t])))):=Ap λb o M b2 b3 e=>by rw[ay M];exact e
   exact(hM.Mn c4).snoc (jG.Mn c5 (F8 h1 h2 h3 h4 h5 ⟨_,v⟩ ⟨_,v⟩ ⟨_,v⟩ ⟨x f1,x f1,x f1⟩ ⟨x f2,x f2,x f2⟩ ⟨x f3,x f3,x f3⟩))
  ·rcases List.mem_append.mp hd with hd | hd
   ·exact O d hd
   ·simp only[List.mem_singleton]at hd;subst hd;exact hg
 intro mv H1 Vr hl v;nofun;obtain⟨s1,ib,nQ,hM0,O⟩:=v;have hM:=hM0.Mn Ks;generalize hDa:D=am at *;ac_rfl;left;calc⟨a,ns,_,rfl,s1.seq hS,(),λv=>⟨v,rfl,λp Vq R sF=>?_⟩⟩;have s2:=av.new (.lst (Vq.map V.int)) R;have yF:fg (upd H1 p (.lst (Vq.map V.int))) p:=⟨_,ab,sF⟩
 generalize Jy:upd H1 p (.lst (Vq.map V.int))=G2 at *;left;calc⟨aaj _,λr v=>?_⟩;have s3:=av.new (.lst []) v;have Xk:r≠p:=Step.ne yF v;have hp3:=yF.same s3;have eaw:upd G2 r (.lst []) r=some (.lst []):=ab;have faw:H1 r=none:=s2.free v;have lx:=s2.trans s3;generalize hG3:upd G2 r (.lst [])=G3 at *;left;calc lS p 11 rfl hp3 ∅ ⋯ (λx M T YK v=>?_);refine⟨x,rfl,(),(),iu (n:=x.toNat) (λi σ H'=>(∃S,σ=[some (.ref a),some (.int (1+g%5)),some (.ref am),some (.ref p),some (.ref r),S,none,none])/\fg H' p/\av H1 H'/\∃(wv:List V) (ws:List (Int×Int×Str)),H' r=some (.lst wv)/\eO H' 1 wv (ws.map nI)/\ws.length=i/\∀w∈ws,wz (1+g%5) w) ?_ ?_ ?_⟩
 ·exact⟨⟨_,rfl⟩,v.fB,v.over lx R,[],[],v.rest _ _ eaw Xk,eO.nil,rfl,λw hw=>by simp at hw⟩
 ·intro i σ H5 hi pN;obtain⟨⟨S,rfl⟩,U,s5,wv,ws,W,hW,kg,NM⟩:=pN;have Kt:wv.length=i:=by have:=hW.1;simp at this;lia
  left;calc⟨.inl ⟨rfl,_,aO.of W⟩,?_⟩;have l5:(1+g%5).natAbs.log2<9000:=by
   have:1+g%5=1\/1+g%5=2\/1+g%5=3\/1+g%5=4\/1+g%5=5:=by lia
   rcases this with e|e|e|e|e<;>(rw[e];decide +kernel)
  refine dig U () l5 λc x h60 h61 v=>?_;left;refine dig v.fB () l5 λy x h70 h71 M=>?_;have x:=v.trans M;left;refine⟨cM,λl hl=>?_⟩;have Mj:=x.new (o:=.lst [.str "row",.str "heap"]) hl;have Vn:l≠p:=Step.ne x.fB hl;refine dig Mj.fB ∅ ⋯ λk X F2 Yv Ml=>?_;have aeB:=Mj.trans Ml;obtain⟨u,ew3,hw3⟩:∃u:Str,ia [V.str "row",V.str "heap"] k=some (.str u)/\(u="row"\/u="heap"):=by
   have:k=0\/k=1:=by lia
   rcases this with rfl|rfl
   ·exact⟨_,aA (j:=0) rfl,.inl rfl⟩
   ·exact⟨_,aA (j:=1) rfl,.inr rfl⟩
  left;calc bC (Ml.rest _ _ ab Vn) ew3 ?_;left;calc⟨by show 3<=sizeLine;decide,λt ht=>?_⟩;have G:=aeB.new (o:=.tup [.int c,.int y,.str u]) ht;have YM:=G.rest _ _ W Xk;have eT:upd X t (.tup [.int c,.int y,.str u]) t=some (.tup [.int c,.int y,.str u]):=ab;have Y:=G.fB;have tA:=G.aP U;have sA:av H1 (upd X t (.tup [.int c,.int y,.str u])):=G.over s5 R;generalize hGA:upd X t (.tup [.int c,.int y,.str u])=GA at *;have tB:bX GA (upd GA r (.lst (wv++[.ref t]))):=(bX.refl _).upd λys e=>by rw[YM]at e;cases e
  refine⟨_,YM,aB (),⟨_,rfl⟩,Y.upd (Ne.symm Xk),λb o e=>by rw[ay (aq e faw)];calc sA _ _ e,wv++[.ref t],ws++[(c,y,u)],ab,?_,by simp[kg],λw hw=>?_⟩
  ·have h6:=((hW.aJ tA).snoc (lQ (n:=0) eT (.int c) (.int y) (.str u))).aJ tB;simpa[nI] using h6
  ·rcases List.mem_append.mp hw with hw | hw
   ·exact NM w hw
   ·simp only[List.mem_singleton]at hw;subst hw;exact⟨h60,h61,h70,h71,hw3⟩
 intro σ H5 rT;obtain⟨⟨S,rfl⟩,U,s5,wv,ws,W,hW,kg,NM⟩:=rT;have Kt:wv.length=ws.length:=by have:=hW.1;simpa using this
 have L5:=s5 _ _ Vr;have hM5:=hM.Mn s5.Mn;left;calc⟨a,ns,_,rfl,(s1.trans s5).seq hS,(),λv=>⟨v,rfl,λL Z xG u=>?_⟩⟩;have s6:=av.new (.lst (Z.map V.int)) xG;have hp6:fg (upd H5 L (.lst (Z.map V.int))) L:=⟨_,ab,u⟩
 generalize hG6:upd H5 L (.lst (Z.map V.int))=G6 at *;left;calc⟨aaj _,λB u=>?_⟩;have s7:=av.new (.lst []) u;have Sz:B≠L:=Step.ne hp6 u;have hp7:=hp6.same s7;have eal:upd G6 B (.lst []) B=some (.lst []):=ab;have fal:H5 B=none:=s6.free u;have Pz:=s6.trans s7;generalize UW:upd G6 B (.lst [])=G7 at *;left;calc lS L 13 rfl hp7 ∅ ⋯ (λu M v x Mj=>?_);refine⟨u,rfl,(),(),iu (n:=u.toNat) (λi σ H'=>(∃S z8,σ=[some (.ref a),some (.int (1+g%5)),some (.ref am),some (.ref L),some (.ref r),S,some (.ref B),z8])/\fg H' L/\av H5 H'/\∃(I:List V) (ls:List (Int×Int)),H' B=some (.lst I)/\eO H' 1 I (ls.map qB)/\ls.length<=i/\∀l∈ls,wA ws.length l) ?_ ?_ ?_⟩
 ·exact⟨⟨_,_,rfl⟩,Mj.fB,Mj.over Pz xG,[],[],Mj.rest _ _ eal Sz,eO.nil,F' _,λw hw=>by simp at hw⟩
 ·intro i σ X hi xT;obtain⟨⟨S,z8,rfl⟩,hp9,N,I,ls,Mc,hL,qm,nE⟩:=xT;have i:I.length=ls.length:=by have:=hL.1;simpa using this
  have i:=N _ _ W;left;calc⟨aaj _,λl0 u=>?_⟩;have m:=av.new (.lst []) u;have Ku:=m _ _ i;have el0:upd X l0 (.lst []) l0=some (.lst []):=ab;have Kv:=m _ _ Mc;have TM:=hp9.same m;have Gd:=N.trans m;have YN:=hL.aJ m.aP;generalize XC:upd X l0 (.lst [])=G10 at *
  cases ws with
  |nil=>
   have Xs:wv=[]:=by simpa using Kt
   subst Xs;calc .inl ⟨.inr ⟨_,_,_,_,rfl,rfl,.inr ⟨aO.of Ku,aO.of el0⟩,rfl,λj u v hu=>by simp at hu⟩,?_⟩;left
   try rw[if_neg R']
   calc⟨⟨_,_,rfl,rfl⟩,TM,Gd,I,ls,Kv,YN,(),nE⟩
  |cons i u=>
   have hwp:0<(wv.length:Int):=by rw[Kt];simp
   have i:wv.length<=10:=by lia
   calc .inr ⟨⟨_,_,by simp[Kt],.inl ⟨aO.of Ku,aO.of el0⟩⟩,?_⟩;left
   try rw[if_pos trivial]
   have lw:((wv.length:Nat):Int).natAbs.log2<9000:=Ak hwp ();calc dig TM ∅ ⋯ λy v i u x=>?_;left;calc⟨BY,dig x.fB Ss Su λM R v i u=>?_⟩;have R:=x.trans u;left;calc⟨cM,λv T=>?_⟩;have x:=R.new (o:=.lst [.int y,.int M]) T;have aeI:v≠L:=Step.ne R.fB T;calc dig x.fB ∅ ⋯ λk u F2 Yv F1=>?_;have yl:=x.trans F1;have u:(10:Int)^Int.toNat 60=1000000000000000000000000000000000000000000000000000000000000:=by decide +kernel
   rw[u]at i;obtain⟨z,ez,YS,sL⟩:∃z:Int,ia [V.int y,V.int M] k=some (.int z)/\1-1000000000000000000000000000000000000000000000000000000000000<=z/\z<1000000000000000000000000000000000000000000000000000000000000:=by
    have:k=0\/k=1:=by lia
    rcases this with rfl|rfl
    ·exact⟨_,aA (j:=0) rfl,(),()⟩
    ·exact⟨_,aA (j:=1) rfl,(),()⟩
   left;calc bC (F1.rest _ _ ab aeI) ez ?_;left;have YT:=yl.rest _ _ Kv Sz;have YU:=yl.rest _ _ Ku (λz=>by rw[z,xG]at W;cases W);calc⟨.inl ⟨rfl,_,aO.of YT⟩,?_⟩;calc bD _ (.inl ⟨_,aO.of YU,rfl⟩) ?_;calc dig yl.fB hwp lw λc YV aeK aeL i=>?_;have k:=yl.trans i;left;calc⟨cM,λt ht=>?_⟩;have G:=k.new (o:=.tup [.int c,.int z]) ht;have YW:=G.rest _ _ Kv Sz;have eT:upd YV t (.tup [.int c,.int z]) t=some (.tup [.int c,.int z]):=ab;have Y:=G.fB;have tA:=G.aP TM;have sA:av H5 (upd YV t (.tup [.int c,.int z])):=G.over Gd xG;generalize hGA:upd YV t (.tup [.int c,.int z])=GA at *;have tB:bX GA (upd GA B (.lst (I++[.ref t]))):=(bX.refl _).upd λys e=>by rw[YW]at e;cases e
   refine⟨_,YW,aB (),⟨_,_,rfl,rfl⟩,Y.upd (Ne.symm Sz),λb o e=>by rw[ay (aq e fal)];calc sA _ _ e,I++[.ref t],ls++[(c,z)],ab,?_,by simp;lia,λl hl=>?_⟩
   ·have h6:=((YN.aJ tA).snoc (cV (n:=0) eT (.int c) (.int z))).aJ tB;simpa[qB] using h6
   ·rcases List.mem_append.mp hl with hl | hl
    ·exact nE l hl
    ·simp only[List.mem_singleton]at hl;subst hl;exact⟨aeK,by have:=aeL;rw[Kt]at this;calc this,YS,sL⟩
 intro σ X Co;obtain⟨⟨S,z8,rfl⟩,hp9,N,I,ls,Mc,hL,qm,nE⟩:=Co;left;calc⟨by show 3<=sizeLine;decide,λt ht=>?_⟩;have m:=av.new (.tup [.ref am,.ref r,.ref B]) ht;calc q t am r B mv wv I ib ws ls _ (s1.trans (s5.trans (N.trans m))) ab (m _ _ (N _ _ L5)) (m _ _ (N _ _ W)) (m _ _ Mc) (hM5.Mn (N.trans m).Mn) (hW.aJ (N.trans m).aP) (hL.aJ m.aP) ⟨(),(),(),(),O,λw hw=>?_,nE⟩;have e:((ib.length:Nat):Int)=1+g%5:=by lia
 rw[e];calc NM w hw
theorem uN{C:Addr}{m:Addr}{M:Int}{a:List bH}(t:bX H H')(i:∀b c d e,H b=some (.ins c d e)->H' b=some (.ins c d e))(h:km C H m M ns row a):km C H' m M ns row a:=by
 obtain⟨a,st,dd,f,g,j⟩:=h;calc⟨a,st,dd,i _ _ _ _ f,g.aJ t,j.aJ t⟩
abbrev iS:Stmt:=top 81
inductive Aq(C CN:Addr)(vs:List V)(H:Hp)(Q:VK):Prop
 |mk (x:V) (ib:List MD) (ws:List (Int×Int×Str)) (ls:List (Int×Int)) (h0:vs=[x]) (h1:ToldN H x ib ws ls) (h2:Eh ib ws ls) (h3:∀n ms wv lv H',av H H'->vo C CN H' n ⟨ib,ws⟩->nJ CN H' n ms wv lv->eO H' 1 lv (ls.map qB)->Q (.ref n) H'):Aq C CN vs H Q
def wN(C CN:Addr):Sp:=λvs H Q _=>Aq C CN vs H Q
theorem uO(D:cw K mg "_law_net_made" "_law_net_made" iS ["_law_net_here"])(T:Tx K mg C CN CR F FD)(qN:zd P w K mg base "Machine" C 7 ["self","modulus","numbers","row","deeds"] (DI C))(Kx:zd P w K mg base "Net" CN 7 ["self","machines","ways","letters"] (zL C CN)):Def P w K mg base "_law_net_made" 9 ["_law_net_here"] (wN C CN):=by
 have sc:aD ["_law_net_here","_law_machines"] ["_law_net_here"] (az iS):=by walk_at "s"
 symm;obtain⟨x,ib,ws,ls,rfl,hT,g,q⟩:=h;have B:=hr.units;refine⟨_,(ag (ee (i:=1) sc.nd rfl Sort (N':=["_law_one"]) (ix:=[none]) (bI (ao B (au 0) ai)) (λ_ _ _ _=>(aR (i:=0) (show(["_law_one"]:List Str).Nodup by decide +kernel) rfl Sort)) kj (λ_ _ _ _=>(IB qN hr (af (cj (K:=K) rfl B (au 0) ai) (af (cR (gN (K:=K) rfl) rfl T.dN wV (af (cj (K:=K) rfl B (au 0) ai) aa)) (af (cR (gN (K:=K) rfl) rfl T.dN wV (af (cj (K:=K) rfl B (au 0) ai) aa)) (af (cR (gN (K:=K) rfl) rfl T.dN wV (af (cj (K:=K) rfl B (au 0) ai) aa)) aa)))))))
  (aj (aH (IB Kx hr (af (au 1) (af (cR cA rfl T.dN wV (af (ao B (au 0) ai) aa)) (af (cR cA rfl T.dN wV (af (ao B (au 0) ai) aa)) aa))))))),?_⟩
 obtain⟨t,am,aw,al,mv,wv,y,rfl,ht,Vr,Oq,Mc,hM,hW,hL⟩:=id hT;have t:mv.length<=5:=by have:=hM.1;have:=g.m5;lia
 right;calc bt ?_;right;calc dJ ht (aA (j:=0) rfl) ?_;right;calc .inl ⟨⟨_,aO.of Vr⟩,λD hD=>?_⟩;refine aV (J:=rD K am) (n:=mv.length) (λi ys H'=>∃ms:List Addr,ys=ms.map V.ref/\ms.length=i/\(∀(j:Nat) m d,ms[j]?=some m->ib[j]?=some d->UN C H' m d)/\av H H') (J' (aB ())) ⟨[],rfl,rfl,λj m d e=>by simp at e,av.new _ hD⟩ ?_ ?_ ?_ ?_
 ·intro i ys H' nH t;obtain⟨_,_,_,_,p⟩:=t;exact⟨_,mv[i],aO.of (p _ _ Vr),cD nH⟩
 ·intro ys H' t;obtain⟨_,_,_,_,p⟩:=t;exact⟨_,aO.of (p _ _ Vr),F' _⟩
 ·intro i ys H' nH aW hl lg x U pN;nofun;obtain⟨ms,rfl,XU,xX,p⟩:=lg;obtain⟨rfl,t⟩:=pN;have ex:=t _ (aO.of (p _ _ Vr));have jZ:i < ib.length:=by have:=hM.1;lia
  have u:=g.mg _ (aaw jZ);obtain⟨tt,ln,lr,ld,W,rfl,R,h2,h3,h4,h5⟩:=(hM.2 i x ib[i] ex (cD jZ)).cv p.cv;generalize hmd:ib[i]=k at *;ac_rfl;walk_at "xf";right;rw[if_pos trivial];refine cW _ _ (.inr (bF.of R)) (aA (j:=0) rfl) ?_;refine cW _ _ (.inr (bF.of R)) (aA (j:=1) rfl) ?_;right;refine bD _ (.inl (aO.of h2)) (λr uo=>?_);have B:=av.new (.lst (k.ns.map V.int)) uo;refine cW _ _ (.inr (bF.of (B _ _ R))) (aA (j:=2) rfl) ?_;right;refine bD _ (.inl (aO.of (B _ _ h3))) (λv tE=>?_);have t:=av.new (.lst (k.row.map V.int)) tE;refine cW _ _ (.inr (bF.of (t _ _ (B _ _ R)))) (aA (j:=3) rfl) ?_;right;refine bD _ (.inl (aO.of (t _ _ (B _ _ h4)))) (λl3 T=>?_);have G:=av.new (.lst W) T;have X:=B.trans (t.trans G);have l:=G _ _ (t _ _ (ab (H:=U) (a:=r) (o:=.lst (k.ns.map V.int))));have I:=G _ _ (ab (H:=upd U r (.lst (k.ns.map V.int))) (a:=v) (o:=.lst (k.row.map V.int)));have e3:upd (upd (upd U r (.lst (k.ns.map V.int))) v (.lst (k.row.map V.int))) l3 (.lst W) l3=some (.lst W):=ab;generalize hG6:upd (upd (upd U r (.lst (k.ns.map V.int))) v (.lst (k.row.map V.int))) l3 (.lst W)=G6 at *;intro m L Y YA aeM;have N:av G6 (upd (upd G6 L (.own m)) m (.ins C L [])):=λb o e=>by rw[ay (aq e Y),ay (aq e YA)];exact e
  have t:=X.trans N;calc⟨m,L,k.M,r,v,l3,k.ns,k.row,W,k.ds,2,rfl,ab,u.m2,u.m12,.inl (N _ _ l),.inl (N _ _ I),.inl (N _ _ e3),u.l1,u.l4,u.r12,u.bn,u.br,(h5.aJ t.aP).dl,∅,u.d24,u.ok,λZ D7 B=>⟨rfl,?_⟩⟩;have O:av U Z:=λb o e=>B b o (aq (X _ _ e) Y) (t _ _ e);have F7:=O _ _ aW;have t7:bX Z (upd Z D (.lst (ms.map V.ref++[.ref m]))):=(bX.refl _).upd λk e=>by rw[F7]at e;cases e
  have i7:∀b c d e,Z b=some (.ins c d e)->upd Z D (.lst (ms.map V.ref++[.ref m])) b=some (.ins c d e):=λb c d e h=>by
   rw[ay (λz=>by subst z;rw[F7]at h;cases h)];exact h
  refine bJ F7 hl nH (J' (aB ())) ⟨ms++[m],nofun,by simp[XU],λj k d l I=>?_,λb o e=>?_⟩
  ·by_cases hj:j < ms.length
   ·rw[W' hj]at l;exact uN t7 i7 ((xX j k d l I).same O)
   ·rw[V' ()] at l
    cases va:j-ms.length with
    |succ k=>rw[va]at l;simp at l
    |zero=>
     rw[va]at l;nofun;obtain rfl:=Option.some.inj l;have hji:j=i:=by lia
     subst hji;rw[cD jZ,hmd]at I;obtain rfl:=Option.some.inj I;ac_rfl;exact uN t7 i7 D7
  ·rw[ay (aq e hD)];exact O _ _ (p _ _ e)
 intro ys H4 aW hl rT;obtain⟨ms,rfl,XU,xX,p⟩:=rT;have nQ:ms.length=ib.length:=by have:=hM.1;lia
 have i:=p _ _ ht;right;calc cW _ _ (.inr (bF.of i)) (aA (j:=1) rfl) ?_;right;calc bD _ (.inl (aO.of (p _ _ Oq))) (λr uo=>?_);have G:=av.new (.lst wv) uo;calc cW _ _ (.inr (bF.of (G _ _ i))) (aA (j:=2) rfl) ?_;right;calc bD _ (.inl (aO.of (G _ _ (p _ _ Mc)))) (λv tE=>?_);have N:=av.new (.lst y) tE;have l:=N _ _ (ab (H:=H4) (a:=r) (o:=.lst wv));have I:upd (upd H4 r (.lst wv)) v (.lst y) v=some (.lst y):=ab;have rJ:=G.trans N;generalize UW:upd (upd H4 r (.lst wv)) v (.lst y)=G7 at *;have k:wv.length=ws.length:=by have:=hW.1;simpa using this
 have i:y.length=ls.length:=by have:=hL.1;simpa using this
 intro x L Y YA aeM;have S:av G7 (upd (upd G7 L (.own x)) x (.ins CN L [])):=λb o e=>by rw[ay (aq e Y),ay (aq e YA)];exact e
 have i:=p.trans (rJ.trans S);have t:=g.m1;have t:=g.m5;have t:=g.HG;have t:=g.Qg;refine⟨x,L,D,r,v,ms,wv,y,ws,ls,rfl,ab,S _ _ (rJ _ _ aW),S _ _ l,S _ _ I,(),(),(),(),λm hm=>?_,hW.aJ i.aP,hL.aJ i.aP,λw r=>by rw[nQ];calc g.wo w r,λl hl=>by rw[k];calc g.lo l hl,λH9 hn9 hk9=>⟨rfl,?_⟩⟩
 ·nofun;obtain⟨j,hj,rfl⟩:=List.getElem_of_mem hm;obtain⟨i,k,l,R,_,_⟩:=(xX j _ ib[j] (cD hj) (cD ())).same (rJ.trans S);ac_rfl;exact⟨_,_,R⟩
 ·have k:av H4 H9:=λb o e=>hk9 b o (aq (rJ _ _ e) Y) (S _ _ (rJ _ _ e));have i:=p.trans k;calc q x ms wv y H9 i ⟨⟨ms,wv,y,hn9,nQ,λj m d a b=>(xX j m d a b).same k,hW.aJ i.aP⟩,g.nt⟩ hn9 (hL.aJ i.aP)
def pW(n:NT)(r:RS)(w k:Nat):List Int:=match (r.ww w).snd.getD k none with
 |none=>(r.mm (n.goal w)).hr.bf (List.replicate n.ms.length 0)
 |some (s,c)=>List.zipWith max ((r.mm (n.goal w)).hr.bf (List.replicate n.ms.length 0)) ((r.mm s.toNat).hr.getD (c-1).toNat [])
theorem Ot{n:NT}{w k:Nat}:n.ik r w k=(pW n r w k).set (n.goal w) (n.ev r w).2:=rfl
theorem Ou{l:List Int}{c:Int}{n:Nat}(a:l.length=n)(b:m<n):((List.range n).map λj=>V.int (l.getD j 0+(if decide (((j:Nat):Int)=((m:Nat):Int))=true then 1 else 0))).set m (.int c)=(l.set m c).map V.int:=by
 apply List.ext_getElem (by simp[a]);intro j b d;have e:j<n:=by simpa using b
 simp only[List.getElem_map,List.getElem_set,List.getElem_range];by_cases z:m=j
 ·rw[if_pos z,if_pos z]
 ·rw[if_neg z,if_neg z,if_neg (by simp;lia),getD_at (cD ()),Int.add_zero]
theorem TQ{l:List (Option (Int×Int))}{k:Nat}{a:List (Key×V)}{v:V}(h:OR H0 (.d (i8 l) (l.countP Option.isSome)) (.dK a))(b:l[k]?=some none)(c:HD H0 4 v (pairD e)):OR H0 (.d (i8 (l.set k (some e))) ((l.set k (some e)).countP Option.isSome)) (.dK (putK a (Sum.inl ((k:Nat):Int)) v)):=by
 have f:k<l.length:=(List.getElem?_eq_some_iff.mp b).1;have g:gi a (Sum.inl ((k:Nat):Int))=none:=by
  have:=h.2 ((k:Nat):Int);have a:i8 l ((k:Nat):Int)=none:=by
   unfold i8;rw[if_pos (),aao,getD_at b];rfl
  rw[a]at this;exact this
 refine⟨?_,λj=>?_⟩
 ·rw[Ht v g,count_set b,aas,aa3];have:=h.1;lia
 ·rw[Ko f,Hr];by_cases z:j=((k:Nat):Int)
  ·rw[if_pos z,if_pos (by rw[z])];exact⟨v,rfl,c⟩
  ·rw[if_neg z,if_neg (λq=>z (Sum.inl.inj q))];calc h.2 j
theorem Ov{r:RS}{n:NT}{w k:Nat}:∀t i,i<n.n t->setC (setC (setC (setC (setC r.tv 3 (n.goal w) (.l (((r.mm (n.goal w)).hr.map λu=>DV.lst (u.map .int))++[.lst ((n.ik r w k).map .int)]))) 6 w (.d (i8 ((r.ww w).cF.set k (some (n.ev r w)))) (((r.ww w).cF.set k (some (n.ev r w))).countP Option.isSome))) 1 (n.goal w) (.l ((r.mm (n.goal w)).eB.map ub++[ub ((n.work r w k).ns,(n.work r w k).row)]))) 2 (n.goal w) (.l (((r.mm (n.goal w)).wp.map λu=>DV.lst (u.map .int))++[.lst (((r.mm (n.goal w)).wp.bf []++(n.work r w k).words).map .int)]))) 0 0 (.l (r.picks.map pairD++[pairD ((w:Int),(k:Int))])) t i=(r.step n w k).tv t i:=by
 intro t i a;unfold setC
 match t,a with
 |0,a=>
  have:i=0:=by have:i<1:=a;lia
  subst this;simp[RS.tv,RS.step]
 |1,_=>by_cases e:i=n.goal w<;>simp[RS.tv,RS.step,e]
 |2,_=>by_cases e:i=n.goal w<;>simp[RS.tv,RS.step,e]
 |3,_=>by_cases e:i=n.goal w<;>simp[RS.tv,RS.step,e]
 |4,_=>by_cases e:i=w<;>simp[RS.tv,RS.step,e]
 |5,_=>by_cases e:i=w<;>simp[RS.tv,RS.step,e]
 |6,_=>by_cases e:i=w<;>simp[RS.tv,RS.step,e]
 |(t+7),a=>calc absurd a (aaX i)
theorem Ky{r:RS}{n:NT}{w:Nat}{x:Int}{s:Option (Int×Int)}:∀t i,i<n.n t->setC (setC r.tv 4 w (.l ((r.ww w).say.map .int++[.int x]))) 5 w (.l ((r.ww w).snd.map nj++[nj s])) t i=(r.put w x s).tv t i:=by
 intro t i a;unfold setC
 match t,a with
 |0,_=>simp[RS.tv,RS.put]
 |1,_=>simp[RS.tv,RS.put]
 |2,_=>simp[RS.tv,RS.put]
 |3,_=>simp[RS.tv,RS.put]
 |4,_=>by_cases e:i=w<;>simp[RS.tv,RS.put,e]
 |5,_=>by_cases e:i=w<;>simp[RS.tv,RS.put,e]
 |6,_=>by_cases e:i=w<;>simp[RS.tv,RS.put,e,F3]
 |(t+7),a=>calc absurd a (aaX i)
theorem ym{H:Hp}{n:Nat}{v:V}{ns:List Int}(h:HD H n v (.lst (ns.map .int))):∃a,v=.ref a/\H a=some (.lst (ns.map V.int)):=by
 cases h with
 | @lst n a b _ e l i=>calc⟨a,rfl,by rw[e,show b=ns.map V.int from fw.t9 ⟨l,i⟩]⟩
theorem Kz{x y:HO}(h:a≠b):upd (upd H a x) b y=upd (upd H b y) a x:=by
 funext c;by_cases d:c=a
 ·subst d;rw[ay h,ab,ab]
 ·by_cases e:c=b
  ·subst e;rw[ab,ay d,ab]
  ·rw[ay e,ay d,ay d,ay e]
theorem Ej{K:W.Frag}{o:Addr}{nt:NT}{g:Nat}{e:Nat}(he:e<2)(f:H o=some (.lst wv))(p:eO H 1 wv (nt.ws.map nI))(O:wv.length<=10)(v:σ[3]?=some (some (.int ((g:Nat):Int))))(r:H D=none)(q:∀H1,av H H1->H1 D=some (.lst ((vp nt e g).map λi=>V.int ((i:Nat):Int)))->Q (.ref D) H1):lM [none,none,some 3] (Ig true K o) (Ba K 2 (iA (dE 0) (iA (dE 1) A9))) (tT (AK (Sd K) (AK (LW K) (tV 1) (tC (V.int ((e:Nat):Int)))) (tV 2))) (tV 0) σ H Q D:=by
 have x:wv.length=nt.ws.length:=by simpa using p.1
 have z:tJ [none,none,some 3] σ=[none,none,some (.int ((g:Nat):Int))]:=by simp[tJ,v]
 refine aV (n:=wv.length) (λi ys H'=>av H H'/\ys=((List.range i).filter λj=>decide (uy nt e j=((g:Nat):Int))).map λj=>V.int (j:Nat)) (J' (aB ())) ⟨av.new _ r,rfl⟩ ?_ ?_ ?_ ?_
 ·rintro i ys H' h ⟨a,_⟩;exact⟨wv,wv[i],Sq.l (a _ _ f),cD h⟩
 ·rintro ys H' ⟨a,_⟩;exact⟨wv,Sq.l (a _ _ f),rfl⟩
 ·intro i ys H' h d s A P R B;rw[z];obtain⟨a,rfl⟩:=A;obtain⟨k,C,rfl,y⟩:=B;obtain⟨b,E,rfl⟩:=y wv (Sq.l (a _ _ f));have o:i < nt.ws.length:=by lia
  have m:=av.new (.tup [.int (i:Nat),b]) C;have F:=(p.2 i b (nI (nt.w i)) E (by rw[A',show nt.ws[i]?=some (nt.w i) from aS o];rfl)).aJ (a.trans m).aP;have I:upd H' k (.tup [.int (i:Nat),b]) k=some (.tup [.int (i:Nat),b]):=ab;have t:=m _ _ d;have u:=a.trans m;generalize S:upd H' k (.tup [.int (i:Nat),b])=G at *;obtain⟨T,U,X,Y,Z,rfl,J,L,M,N⟩:=bT F;obtain rfl:=L.cG;obtain rfl:=M.cG;obtain rfl:=N.cX;calc rF (bF.of I) ⟨Ext.set (Ext.set (Ext.refl _) rfl) rfl,?_⟩;left;refine dJ J (show ia _ ((e:Nat):Int)=some (.int (uy nt e i)) from aA (by match e,he with
   |0,_=>rfl
   | 1,_=>rfl)) ?_
  left;by_cases z:uy nt e i=((g:Nat):Int)
  ·rw[if_pos (aar z)];calc bJ t s h (J' (aB ())) ⟨λc o e=>by rw[ay (aq e r)];calc u _ _ e,?_⟩;rw[jf,if_pos (aar z),U'];rfl
  ·rw[if_neg λh=>z (aav h)];exact⟨_,t,(),u,by rw[jf,if_neg λh=>z (aav h),aam]⟩
 ·rintro ys H1 d s ⟨a,rfl⟩;rw[x]at d;calc q H1 a d
abbrev oK:Stmt:=top 77
inductive KA(vs:List V)(H:Hp)(Q:VK):Prop
 |mk (F:Addr->Prop) (d:Addr) (tn:V) (nt:NT) (r:RS) (ad:Nat->Nat->Addr) (wy k:Nat) (h0:vs=[.ref d,.int (wy:Nat),.int (k:Nat)]) (h1:bV F H d tn nt r ad) (h2:FS F H) (h3:r.Ok nt) (h4:r.NV nt wy k) (h5:r.picks.length<=400) (h6:∀t H',Fr (FP nt.n ad) H H'->bV F H' d tn nt (r.pick nt wy k) ad->HT H' 1 t (pairD (nt.ev r wy))->Q t H'):KA vs H Q
def yn:Sp:=λvs H Q _=>KA vs H Q
theorem Ct(D:cw K mg "_law_pick" "_law_pick" oK ["_law_run","_law_way","_law_number"])(T:Tx K mg C CN CR F FD)(kD:Def P w K mg base "_law_worked" 2 ["_law_machine_here","_law_state","_law_way","_law_said"] (Eg K)):Def P w K mg base "_law_pick" 3 ["_law_run","_law_way","_law_number"] yn:=by
 have sc:aD ["_law_run","_law_way","_law_number","_law_m","_law_place","_law_outs","_law_event","_law_state","_law_sent","_law_words","_law_row","_law_source","_law_c","_law_j","_law_said"] ["_law_run","_law_way","_law_number"] (az oK):=by walk_at "s"
 symm;obtain⟨F,d,tn,m,r,ad,B,k,rfl,M,j0,O,hc,i9,q⟩:=h;have G:=hr.units;have FA:=lt1 G;refine⟨_,(ag (aZ (i:=3) sc.nd rfl Sort (ao G (ao G (ao G (ao G (au 0) aE) ai) (au 1)) ai))
  (ag (aZ (i:=4) sc.nd rfl Sort (dB o7 PySem.F.slot_list_index PySem.F.type_list_index wd (cu (N':=["_law_k","_law_told","_law_m"]) (ix:=[none,none,some 3]) (gK rfl T.cK (af (ao G (ao G (au 0) aE) ai) aa)) (λ_ _ _ _=>(fX (K:=K) rfl (i:=0) (j:=1) rfl (show(["_law_k","_law_told","_law_m"]:List Str).Nodup by decide +kernel) rfl rfl Sort Sort)) (λ_ _ _ _=>(fT (aC (lT (K:=K) rfl G) (cj (K:=K) rfl G (au 1) ai) (au 2) (aG _)))) (λ_ _ _ _=>(au 0))) (af (au 1) aa)))
  (ag (ee (i:=5) sc.nd rfl Sort (N':=["_law_k","_law_told","_law_m"]) (ix:=[none,none,some 3]) (gK rfl T.cK (af (ao G (ao G (au 0) aE) ai) aa)) (λ_ _ _ _=>(fX (K:=K) rfl (i:=0) (j:=1) rfl (show(["_law_k","_law_told","_law_m"]:List Str).Nodup by decide +kernel) rfl rfl Sort Sort)) (λ_ _ _ _=>(fT (aC (lT (K:=K) rfl G) (cj (K:=K) rfl G (au 1) ai) (au 2) (aG _)))) (λ_ _ _ _=>(au 0)))
  (ag (aZ (i:=6) sc.nd rfl Sort (bG (af (au 3) (af (aX aN rfl T.bO S' (af (ao G (ao G (au 0) aE) (au 3)) aa)) aa))))
  (ag (dy (aI kD hr (af (ao G (ao G (ao G (au 0) aE) ai) (au 3)) (af (ao G (ao G (ao G (au 0) aE) (au 3)) (kY gR ai)) (af (au 4) (af (ao G (ao G (ao G (au 0) aE) (au 1)) (au 2)) aa))))) (uc (i:=7) (j:=8) (l:=9) rfl sc.nd rfl rfl rfl Sort Sort Sort))
  (ag (aZ (i:=10) sc.nd rfl Sort (ao G (bc cB (bx (af (bc IE (bx (af ai aa)) (aX aN rfl T.bO S' (af (ao G (ao G (au 0) aE) ai) aa))) aa)) (ao G (ao G (au 0) aE) (au 3))) (kY gR ai)))
  (ag (aU (aC nh (ao G (ao G (ao G (au 0) aE) (au 1)) (au 2)) gm (aG _)) (ag (dy (ao G (ao G (ao G (au 0) aE) (au 1)) (au 2)) (dW (i:=11) (j:=12) rfl sc.nd rfl rfl Sort Sort))
  (aj (GU (i:=10) sc.nd rfl Sort (cu (N':=["_law_one","_law_other"]) (ix:=[none,none]) (xF rfl T.zA (af (au 10) (af (ao G (ao G (ao G (au 0) aE) (au 11)) (bc fU (au 12) ai)) aa))) (λ_ _ _ _=>(fX (K:=K) rfl (i:=0) (j:=1) rfl (show(["_law_one","_law_other"]:List Str).Nodup by decide +kernel) rfl rfl Sort Sort)) kj (λ_ _ _ _=>(aX (Fe rfl) rfl T.Jn PyProof.Rows.boot_max (af (au 0) (af (au 1) aa))))) rfl))) aK)
  (ag (bN (dB o7 rB rC bW (ao G (ao G (au 0) aE) (au 3)) (af (cu (N':=["_law_k","_law_row","_law_m"]) (ix:=[none,some 10,some 3]) (cy rfl T.dG (af (aX aN rfl T.bO S' (af (au 10) aa)) aa)) (λ_ _ _ _=>(aR (i:=0) (show(["_law_k","_law_row","_law_m"]:List Str).Nodup by decide +kernel) rfl Sort)) kj (λ_ _ _ _=>(bc cB (cj (K:=K) rfl G (au 1) (au 0)) (cR vO rfl T.zz zA2 (af (fm (lT (K:=K) rfl G) (au 0) (au 2) (aG _)) aa))))) aa)))
  (ag (dy (ao G (au 6) ai) (iC (ao G (ao G (ao G (au 0) aE) (au 3)) (kY gR ai)) (au 3) dH))
  (ag (mZ FA (ao G (ao G (au 0) aE) (au 1)) (au 2) (au 6) rfl)
  (ag (bN (dB o7 rB rC bW (ao G (ao G (au 0) aE) (au 3)) (af (au 7) aa)))
  (ag (bN (dB o7 rB rC bW (ao G (ao G (au 0) aE) (au 3)) (af (bc cB (ao G (ao G (ao G (au 0) aE) (au 3)) (kY gR ai)) (au 9)) aa)))
  (ag (bN (dB o7 rB rC bW (ao G (au 0) aE) (af (bG (af (au 1) (af (au 2) aa))) aa)))
  (ag (dC PassesOwn.never rfl (bI (pv 8)) (dW (i:=13) (j:=14) rfl sc.nd rfl rfl Sort Sort)
  (aj (aU (aC fc (au 13) (aX aN rfl T.bO S' (af (au 5) aa)) (aG _)) (ag (bN (dB o7 rB rC bW (ao G (ao G (au 0) aE) (ao G (au 5) (au 13))) (af (au 14) aa)))
  (aj (bN (dB o7 rB rC bW (ao G (ao G (au 0) aE) (ao G (au 5) (au 13))) (af (au 6) aa))))) aK)))
  (aj (aH (au 6))))))))))))))))),?_⟩
 nofun;obtain⟨o,N,nF,nP,ho⟩:=M.dk;obtain⟨ls,tt,am,aw,al,mv,wv,lv,rfl,h1,h2,h3,h4,h5,h6,h7⟩:=M.told;have g1:=(ei h1 (λk z=>by cases z)).2;have g2:=(ei h2 (λk z=>by cases z)).2;have g3:=(ei h3 (λk z=>by cases z)).2
 replace h5:=h5.cv dD
 replace h6:=h6.aJ dD.aP
 have W:=M.ok;have L:=hc.lt;have I:=W.il L;have kg:wv.length=m.ws.length:=by simpa using h6.1
 have nQ:mv.length=m.ms.length:=h5.1;have rV:wv.length<=10:=by rw[kg];exact W.Fo
 have L5:m.ms.length<=5:=W.II;obtain⟨wk1,wk2,wk3,wk4⟩:=sM W O L k;ac_rfl;have BS:k<(r.ww B).say.length:=by rw[O.lk B L];exact(List.getElem?_eq_some_iff.mp hc.lies).1
 left;calc bD _ (yj N) ?_;left;calc dJ g1 (aA (j:=1) rfl) ?_;have Xz:m.ws[B]?=some (m.w B):=aS L;have akz:B<wv.length:=by lia
 have AS:=h6.2 B wv[B] (nI (m.w B)) nofun (by rw[A',Xz];rfl);nofun;obtain⟨ta,u1,u2,u3,kk,eta,rX,q1,q2,q3⟩:=bT AS;obtain rfl:=q1.cG;obtain rfl:=q2.cG;obtain rfl:=q3.cX;ac_rfl;calc bC g3 (aA (j:=B) (v:=.ref ta) (by rw[<-eta];simp)) ?_;calc dJ rX (show ia _ 1=some (.int ((m.goal B:Nat):Int)) from by rw[<-sR W L];calc aA (j:=1) rfl) ?_;left;calc bt ?_;left;calc bD _ (yj ((av.refl H) _ _ N)) ?_;left;calc dJ ((av.refl H) _ _ g1) (aA (j:=1) rfl) ?_;left;calc xJ true wv (Sq.l ((av.refl H) _ _ g3)) (λD1 GB=>?_);calc Ej ∅ g3 h6 rV rfl GB (λH1 s1x H1e=>?_);have TR:av H H1:=s1x;left;calc⟨.inl ⟨rfl,_,aO.of H1e⟩,?_⟩;obtain⟨ix1,ix2⟩:=uF (JS W L);refine⟨D1,_,m.place B,B,rfl,rfl,by rw[H1e,wH],?_,?_,?_⟩
 ·rw[A',<-pT W L,ix1];rfl
 ·intro i y hi hy;rw[A']at hy;obtain⟨z,hz,rfl⟩:=Option.map_eq_some_iff.mp hy;have:=ix2 i z (by rw[pT W L];calc hi) hz;lia
 left;calc bt ?_;left;calc bD _ (yj (TR _ _ N)) ?_;left;calc dJ (TR _ _ g1) (aA (j:=1) rfl) ?_;left;calc xJ true wv (Sq.l (TR _ _ g3)) (λD2 FY=>?_);calc Ej ∅ (TR _ _ g3) (h6.aJ TR.aP) rV rfl FY (λH2 s2x H2e=>?_);have sH2:av H H2:=TR.trans s2x;left;calc bD _ (Kn (sH2 _ _ N)) ?_;have o1:=ho 1 ∅ ∅;have o2:=ho 2 ∅ ∅;have o3:=ho 3 ∅ ∅;have o4:=ho 4 ∅ ∅;have o5:=ho 5 ∅ ∅;have o6:=ho 6 ∅ ∅;have i0:0<m.n 0:=by show 0<1;decide
 obtain⟨v1,e1,d1⟩:=M.cH.lst (t:=1) (i:=m.goal B) I rfl;have z1:v1.length=(r.mm (m.goal B)).eB.length:=by simpa using d1.1
 have YD:=O.xH I;left;calc bC (sH2 _ _ o1.1) (bo I) ?_;calc iE _ (.inl ⟨_,aO.of (sH2 _ _ e1),rfl⟩) cM (λev hev=>?_);rw[z1];have Mf:=av.new (.tup [.int ((m.goal B:Nat):Int),.int (((r.mm (m.goal B)).eB.length:Nat):Int)]) hev;have R:=sH2.trans Mf;have aeP:HT (upd H2 ev (.tup [.int ((m.goal B:Nat):Int),.int (((r.mm (m.goal B)).eB.length:Nat):Int)])) 1 (.ref ev) (pairD (m.ev r B)):=cV (n:=0) ab (.int _) (.int _);have aeQ:upd H2 ev (.tup [.int ((m.goal B:Nat):Int),.int (((r.mm (m.goal B)).eB.length:Nat):Int)]) ev=some (.tup [.int ((m.goal B:Nat):Int),.int (((r.mm (m.goal B)).eB.length:Nat):Int)]):=ab;generalize hG3:upd H2 ev (.tup [.int ((m.goal B:Nat):Int),.int (((r.mm (m.goal B)).eB.length:Nat):Int)])=H3 at *;have H3o:=Mf _ _ H2e;left;calc bD _ (yj (R _ _ N)) ?_;left;calc dJ (R _ _ g1) (aA (j:=0) rfl) ?_;have akE:m.goal B<mv.length:=by lia
 have emd:m.ms[m.goal B]?=some (m.ms.getD (m.goal B) default):=aS I;obtain⟨mt,ln,lr,ld,xsd,emt,t1,t2,t3,t4,t5⟩:=h5.2 (m.goal B) mv[m.goal B] _ nofun emd;have NX:=W.gd I;calc bC (R _ _ g2) (aA (j:=m.goal B) (v:=.ref mt) (by rw[<-emt];simp)) ?_;calc bD _ (Kn (R _ _ N)) ?_;left;calc bC (R _ _ o1.1) (bo I) ?_;obtain⟨sv,esv,dsv⟩:=d1.get (i:=(r.mm (m.goal B)).eB.length-1) (d:=ub ((r.mm (m.goal B)).eB.bf ([],[]))) (by rw[A',lR (d:=([],[])) YD];rfl);have JQ:=(Pw (dsv.cv dD)).aJ R.aP;calc bC (R _ _ e1) (nk () (by rw[z1];calc esv)) ?_;left;calc bD _ (Kl (R _ _ N)) ?_;nofun;obtain⟨v4,e4,d4⟩:=M.cH.lst (t:=4) (i:=B) L rfl;have z4:=d4.t9;subst z4;ac_rfl;left;calc bC (R _ _ o4.1) (bo L) ?_;calc bC (R _ _ e4) (aA (j:=k) (v:=.int ((r.ww B).say.getD k 0)) (by rw[A',aS (d:=0) BS];rfl)) ?_;have uG:=O.last I;calc⟨mt,ln,lr,ld,sv,_,_,_,xsd,_,_,_,rfl,R _ _ t1,R _ _ t4,t5.aJ R.aP,zh.of JQ,NX.m2,NX.m12,uG.bn,uG.lr,NX.d24,by rw[uG.ln];calc NX.ok,λrx H4 Cp SQ=>?_⟩;have sH4:=R.trans Cp;nofun;obtain⟨rp,Mg,UU,Py,zs,rfl,hrp,Cd,SR,lu,Ce,fl1,fl2,adG⟩:=SQ.ex
 replace Cd:HT H4 2 Mg (zf (m.work r B k).ns (m.work r B k).row):=Cd
 replace lu:SL H4 zs (m.work r B k).cT:=lu
 replace Ce:H4 Py=some (.lst ((m.work r B k).words.map V.int)):=Ce
 ac_rfl;have YY:=aeP.aJ Cp.aP;have aeR:=Cp _ _ aeQ;have H4o:=Cp _ _ H3o;calc un3 (bF.of hrp) ?_;left;calc⟨∅,λlz hlz=>?_⟩;have D8:=av.new (.lst [.int 0]) hlz;have elz:upd H4 lz (.lst [.int 0]) lz=some (.lst [.int 0]):=ab;generalize hG5:upd H4 lz (.lst [.int 0])=H5 at *;have SN:=sH4.trans D8;calc bD _ (yj (SN _ _ N)) ?_;left;calc dJ (SN _ _ g1) (aA (j:=0) rfl) ?_;calc bD _ (.inl ⟨_,aO.of (SN _ _ g2),rfl⟩) ?_;calc Nv _ elz () () (λS hlq=>?_);rw[aao,nQ];have FW:=av.new (.lst (List.replicate m.ms.length (V.int 0))) hlq;have elq:upd H5 S (.lst (List.replicate m.ms.length (V.int 0))) S=some (.lst ((List.replicate m.ms.length 0).map V.int)):=by rw[ab,List.map_replicate]
 generalize hG6:upd H5 S (.lst (List.replicate m.ms.length (V.int 0)))=H6 at *;calc⟨∅,λla hla=>?_⟩;have rJ:=av.new (.lst [.ref S]) hla;have ela:upd H6 la (.lst [.ref S]) la=some (.lst [.ref S]):=ab;generalize UW:upd H6 la (.lst [.ref S])=H7 at *;have YX:=D8.trans (FW.trans rJ);have sH7:=sH4.trans YX;calc bD _ (Oj (sH7 _ _ N)) ?_;obtain⟨v3,e3,d3⟩:=M.cH.lst (t:=3) (i:=m.goal B) I rfl;have z3:v3.length=(r.mm (m.goal B)).hr.length:=by simpa using d3.1
 have hlh:=O.lh _ I;have hbp:=O.bp _ I;left;calc bC (sH7 _ _ o3.1) (bo I) ?_;calc .inl ⟨_,_,ela,sH7 _ _ e3,J' (small (by simp;lia)),λlb hlb=>?_⟩;have Vt:=av.new (.lst ([.ref S]++v3)) hlb;have elb:upd H7 lb (.lst ([.ref S]++v3)) lb=some (.lst ([.ref S]++v3)):=ab;generalize hG8:upd H7 lb (.lst ([.ref S]++v3))=H8 at *;have s48:=YX.trans Vt;have X:=sH4.trans s48;have YZ:∃rl,ia ([V.ref S]++v3) (-1)=some (.ref rl)/\H8 rl=some (.lst (((r.mm (m.goal B)).hr.bf (List.replicate m.ms.length 0)).map V.int)):=by
  by_cases h1:1<=(r.mm (m.goal B)).hr.length
  ·nofun;obtain⟨v,ev',dv⟩:=d3.get (i:=(r.mm (m.goal B)).hr.length-1) (d:=.lst (((r.mm (m.goal B)).hr.bf (List.replicate m.ms.length 0)).map .int)) (by rw[A',lR (d:=List.replicate m.ms.length 0) h1];rfl);obtain⟨a,rfl,ea⟩:=ym (dv.cv dD);ac_rfl;calc⟨a,nk nofun ?_,X _ _ ea⟩;rw[aas,aa3,V' (by simp;lia)];rw[show 1+v3.length-1 - [V.ref S].length=(r.mm (m.goal B)).hr.length-1 by simp;lia];exact ev'
  ·have ez:(r.mm (m.goal B)).hr=[]:=List.length_eq_zero_iff.mp ();have ev3:v3=[]:=List.length_eq_zero_iff.mp ();refine⟨S,?_,?_⟩
   ·rw[ev3];exact nk nofun rfl
   ·rw[ez];show H8 S=some (.lst (List.map V.int (List.getD ([]:List (List Int)) _ _)));exact Vt _ _ (rJ _ _ elq)
 obtain⟨rl,erl,wm⟩:=YZ;calc bC elb erl ?_;left;calc bD _ (Km (X _ _ N)) ?_;obtain⟨v5,e5,d5⟩:=M.cH.lst (t:=5) (i:=B) L rfl;have JB:=O.ls B L;left;calc bC (X _ _ o5.1) (bo L) ?_;obtain⟨v5k,ev5,dv5⟩:=d5.get (i:=k) (d:=nj ((r.ww B).snd.getD k none)) (by rw[A',aS (d:=none) ()];rfl);calc bC (X _ _ e5) (aA ev5) ?_;left;rename_i N2 hN2 T2 U2 M9 hU2;have Y0:(pW m r B k).length=m.ms.length:=by
  have:=zk W O L (k:=k);rw[Ot,List.length_set]at this;exact this
 have rest:∀(rl':Addr) (z11 SY:Option V) (H9:Hp),av H8 H9->H9 rl'=some (.lst ((pW m r B k).map V.int))->N2 [some (V.ref d),some (V.int ((B:Nat):Int)),some (V.int ((k:Nat):Int)),some (V.int ((m.goal B:Nat):Int)),some (V.int ((m.place B:Nat):Int)),some (V.ref D2),some (V.ref ev),some Mg,some (V.ref UU),some (V.ref Py),some (V.ref rl'),z11,SY,none,none] H9:=by
  clear M9 hU2 T2 U2;intro rl' z11 SY H9 Vu Y1;have Vs:=s48.trans Vu;have Qh:=sH4.trans Vs;have b9:=M.cH.same Qh;left;calc bD _ (Oj (Qh _ _ N)) ?_;left;calc bC (Qh _ _ o3.1) (bo I) ?_;calc⟨.inl ⟨rfl,_,aO.of (Qh _ _ e3)⟩,?_⟩;calc bt ?_;left;calc bD _ (.inl ⟨_,aO.of Y1,rfl⟩) ?_;left;rw[M',Y0];calc gp () () (λhl Y2=>?_);rw[aao];refine aV (J:=Bc 0 m.ms.length) (n:=m.ms.length) (λi ys H'=>av H9 H'/\ys=(List.range i).map λj=>V.int ((pW m r B k).getD j 0+(if decide (((j:Nat):Int)=((m.goal B:Nat):Int))=true then 1 else 0))) (J' (aB ())) ⟨av.new _ Y2,rfl⟩ (λi ys H' hi _=>hi) (λys H' _=>F' _) ?_ ?_
  ·intro i ys H' hi aW je rT x H2' xT;nofun;obtain⟨Y,rfl⟩:=rT;obtain⟨rfl,rfl⟩:=xT;ac_rfl;walk_at "xf";left
   try rw[if_pos trivial]
   calc bC (Y _ _ Y1) (show ia _ (0+(i:Int))=some (.int ((pW m r B k).getD i 0)) from by rw[Int.zero_add];calc aA (by rw[A',aS (d:=0) ()];rfl)) ?_;refine .inr ?_
   try rw[Int.zero_add]
   calc bJ aW je hi (J' (aB ())) ⟨λc o e=>by rw[ay (aq e Y2)];calc Y _ _ e,?_⟩;rw[List.range_succ,U'];rfl
  rintro ys FX aW je ⟨Gd,rfl⟩;clear je;have Ge:=Qh.trans Gd;left;calc iE v3 (Ge _ _ e3) (small ()) ?_;left;have nA:ad 3 (m.goal B)≠hl:=λz=>by have:=Qh _ _ e3;rw[z,Y2]at this;cases this
  have kA:∀b o,b≠ad 3 (m.goal B)->FX b=some o->upd FX (ad 3 (m.goal B)) (.lst (v3++[.ref hl])) b=some o:=λb o n e=>by rw[ay n];exact e
  have KC:∀{b:Addr} {o:HO},FX b=some o->¬FP m.n ad b->b≠ad 3 (m.goal B):=λ{b o} _ h z=>h ⟨3,m.goal B,I,z⟩;have Qi:=Gd _ _ (Vs _ _ aeR);have nev:ev≠ad 3 (m.goal B):=λz=>by have:=Ge _ _ e3;rw[<-z,Qi]at this;cases this
  calc dJ (kA _ _ nev Qi) (aA (j:=1) rfl) ?_;calc bD _ (Oj (kA _ _ (KC (Ge _ _ N) nP) (Ge _ _ N))) ?_;left;calc bC (kA _ _ (KC (Ge _ _ o3.1) o3.2.2) (Ge _ _ o3.1)) (bo I) ?_;calc bC ab lU ?_;left;calc⟨_,m.goal B,kA _ _ (Ne.symm nA) aW,l7 (by simp;lia),?_⟩;rw[Ou Y0 I,show(pW m r B k).set (m.goal B) (((r.mm (m.goal B)).eB.length:Nat):Int)=m.ik r B k from rfl,Kz nA];have sK:av H9 (upd FX hl (.lst ((m.ik r B k).map V.int))):=λb o e=>by rw[ay (aq e Y2)];exact Gd _ _ e
  have eK:upd FX hl (.lst ((m.ik r B k).map V.int)) hl=some (.lst ((m.ik r B k).map V.int)):=ab;generalize hGK:upd FX hl (.lst ((m.ik r B k).map V.int))=K10 at *;have sHK:=Qh.trans sK;have bK:=M.cH.same sHK;have FSK:FS F K10:=j0.fr (Z:=λ_=>False) sHK.fr (λ_ _ h=>h);have fresh:∀{b:Addr},H9 b=none->¬(F b\/FP m.n ad b):=λ{b} hb z=>by
   rcases z with z|z
   ·obtain⟨o,e,_⟩:=j0 b z;rw[Qh _ _ e]at hb;cases hb
   ·obtain⟨o,e,_⟩:=b9.fp z;rw[e]at hb;cases hb
  have e3K:=sHK _ _ e3;have v9:=(BF.mk bK sHK.fr (Vs.trans sK).fr).app (t:=3) (i:=m.goal B) I rfl e3K (fw.one (show HD _ 4 (.ref hl) (.lst ((m.ik r B k).map .int)) from .lst (by rw[gU (fresh Y2)];calc eK) nofun (λi u e G he=>(fw.ints (H:=jZ (λb=>F b\/FP m.n ad b) K10) (n:=3) (m.ik r B k)).2 i u e G he)));generalize XD:upd K10 (ad 3 (m.goal B)) (.lst (v3++[.ref hl]))=XE at *;clear kA KC;left;calc bD _ (Oi (v9.f.at N nP)) ?_;obtain⟨Ol,e6,d6⟩:=v9.b.dct (t:=6) (i:=B) L rfl;have Vp:=O.lk B L;have Om:=O.bs B L;left;calc bC (v9.f.at o6.1 o6.2.2) (bo L) ?_;have Gu:((r.ww B).cF.countP Option.isSome)<=(r.ww B).cF.length:=List.countP_le_length;have h6l:=d6.1;calc⟨ad 6 B,_,rfl,Bx.k (k:=Sum.inl ((k:Nat):Int)) e6 (small ()),?_⟩;have AU:=BF.mk (v9.b.upd (t:=6) (i:=B) L (TQ d6 hc.lies ((v9.b.ht (j0.fr v9.f M.cH.uB) (YY.aJ v9.g.aP)).mono ∅))) (v9.f.upd ⟨6,B,L,rfl⟩ e6 trivial) (v9.g.upd ⟨6,B,L,rfl⟩ e6 trivial);generalize XF:upd XE (ad 6 B) (.dK (putK Ol (Sum.inl ((k:Nat):Int)) (.ref ev)))=UX at *;left;calc bD _ (Kn (AU.f.at N nP)) ?_;obtain⟨v1',e1',Vv⟩:=AU.b.lst (t:=1) (i:=m.goal B) I rfl;have z1':v1'.length=(r.mm (m.goal B)).eB.length:=by simpa using Vv.1
  left;calc bC (AU.f.at o1.1 o1.2.2) (bo I) ?_;calc⟨.inl ⟨rfl,_,aO.of e1'⟩,?_⟩;left;calc iE v1' e1' (small ()) ?_;have Mo:=AU.app (t:=1) (i:=m.goal B) I rfl e1' (fw.one (show HD _ 4 Mg (ub ((m.work r B k).ns,(m.work r B k).row)) from(AU.b.ht (j0.fr AU.f M.cH.uB) (Cd.aJ AU.g.aP)).mono ∅));generalize akY:upd UX (ad 1 (m.goal B)) (.lst (v1'++[Mg]))=SV at *;left;calc bD _ (YH (Mo.f.at N nP)) ?_;obtain⟨v2,e2,d2⟩:=Mo.b.lst (t:=2) (i:=m.goal B) I rfl;have z2:v2.length=(r.mm (m.goal B)).wp.length:=by simpa using d2.1
  have hlw:=O.lw _ I;left;calc bC (Mo.f.at o2.1 o2.2.2) (bo I) ?_;calc⟨.inl ⟨rfl,_,aO.of e2⟩,?_⟩;calc bD _ (YH (Mo.f.at N nP)) ?_;left;calc bC (Mo.f.at o2.1 o2.2.2) (bo I) ?_;nofun;obtain⟨vw,evw,dvw⟩:=d2.get (i:=(r.mm (m.goal B)).wp.length-1) (d:=.lst (((r.mm (m.goal B)).wp.bf []).map .int)) (by rw[A',lR (d:=[]) ()];rfl);obtain⟨lw,rfl,elw⟩:=ym (dvw.cv dD);ac_rfl;calc bC e2 (nk () (by rw[z2];calc evw)) ?_;have JU:¬FP m.n ad UU:=λz=>by
   obtain⟨u,e,_⟩:=(M.cH.same R).fp z;rw[fl1]at e;cases e
  have SU:¬FP m.n ad Py:=λz=>by
   obtain⟨u,e,_⟩:=(M.cH.same R).fp z;rw[fl2]at e;cases e
  have hbw:=O.bw _ I _ (fH (l:=(r.mm (m.goal B)).wp) (d:=[]) ());calc .inl ⟨_,_,elw,Mo.g.at Ce SU,J' (small (by simp;lia)),λnw hnw=>?_⟩;have KD:=av.new (.lst (((r.mm (m.goal B)).wp.bf []).map V.int++(m.work r B k).words.map V.int)) hnw;have enw:upd SV nw (.lst (((r.mm (m.goal B)).wp.bf []).map V.int++(m.work r B k).words.map V.int)) nw=some (.lst (((r.mm (m.goal B)).wp.bf []++(m.work r B k).words).map V.int)):=by rw[ab,U']
  generalize ak3:upd SV nw (.lst (((r.mm (m.goal B)).wp.bf []).map V.int++(m.work r B k).words.map V.int))=H14 at *;have w14:=Mo.same KD;have nnw:¬(F nw\/FP m.n ad nw):=λz=>by
   rcases z with z|z
   ·obtain⟨o,e,_⟩:=(j0.fr Mo.f M.cH.uB) nw z;rw[hnw]at e;cases e
   ·obtain⟨o,e,_⟩:=Mo.b.fp z;rw[hnw]at e;cases e
  left;calc iE v2 (KD _ _ e2) (small ()) ?_;have w15:=w14.app (t:=2) (i:=m.goal B) I rfl (KD _ _ e2) (fw.one (show HD _ 4 (.ref nw) (.lst (((r.mm (m.goal B)).wp.bf []++(m.work r B k).words).map .int)) from .lst (by rw[gU nnw];calc enw) nofun (λi u e G he=>(fw.ints (H:=jZ (λb=>F b\/FP m.n ad b) H14) (n:=3) ((r.mm (m.goal B)).wp.bf []++(m.work r B k).words)).2 i u e G he)));generalize ak5:upd H14 (ad 2 (m.goal B)) (.lst (v2++[.ref nw]))=H15 at *;left;calc bD _ (An (w15.f.at N nP)) ?_;obtain⟨v0,e0,d0⟩:=w15.b.lst (t:=0) (i:=0) i0 rfl;have z0:v0.length=r.picks.length:=by simpa using d0.1
  left;calc gp (.inl ⟨rfl,_,aO.of e0⟩) cM (λtp zX=>?_);have Qj:=av.new (.tup [.int ((B:Nat):Int),.int ((k:Nat):Int)]) zX;have Y3:HT (upd H15 tp (.tup [.int ((B:Nat):Int),.int ((k:Nat):Int)])) 1 (.ref tp) (pairD ((B:Int),(k:Int))):=cV (n:=0) ab (.int _) (.int _);generalize ak6:upd H15 tp (.tup [.int ((B:Nat):Int),.int ((k:Nat):Int)])=YV at *;have w16:=w15.same Qj;have Y4:=Qj _ _ e0;left;calc iE v0 Y4 (small ()) ?_;have Qk:=w16.app (t:=0) (i:=0) i0 rfl Y4 (fw.one ((w16.b.ht (j0.fr w16.f M.cH.uB) Y3).mono ∅));generalize ak7:upd YV (ad 0 0) (.lst (v0++[.ref tp]))=H17 at *;have aeZ:bV F H17 d (.ref tt) m (r.step m B k) ad:=M.own Qk.f (Qk.b.congr Ov);have Ql:SL H17 zs (m.work r B k).cT:=lu.aJ Qk.g.aP;have Y5:=Qk.g.at SR JU;have Qm:=YY.aJ Qk.g.aP;have nD2:¬FP m.n ad D2:=λz=>by
   obtain⟨u,e,_⟩:=(M.cH.same TR).fp z;rw[FY]at e;cases e
  have ae1:=Qk.g.at H4o nD2;clear b9 bK v9 AU Mo w14 w15 w16 d0 Vv d2 d6;left;have nr:zs.length=(m.work r B k).cT.length:=Ql.1;have SW:=O.step W L (k:=k);have SX:∀a c,some (m.ev r B)=some (a,c)->0<=a/\a<m.ms.length/\1<=c/\c<=((r.step m B k).mm a.toNat).hr.length:=D0 W O L;refine⟨_,rfl,.inl ⟨⟨_,aO.of Y5⟩,d9 (K:=K) (xs:=zs) (λi σ H'=>(∃S0 z14,σ=[some (V.ref d),some (V.int ((B:Nat):Int)),some (V.int ((k:Nat):Int)),some (V.int ((m.goal B:Nat):Int)),some (V.int ((m.place B:Nat):Int)),some (V.ref D2),some (V.ref ev),some Mg,some (V.ref UU),some (V.ref Py),some (V.ref rl'),z11,SY,S0,z14])/\Fr (FP m.n ad) H17 H'/\bV F H' d (.ref tt) m ((r.step m B k).send (m.outs (m.goal B)) (m.ev r B) ((m.work r B k).cT.take i)) ad) ?_ ?_ ?_ ?_⟩⟩
  ·exact⟨⟨_,_,rfl⟩,Fr.refl,aeZ⟩
  ·rintro i σ H' hi ⟨_,fi,_⟩;exact aO.of (fi.at Y5 JU)
  ·intro i z σ H' hz Co;nofun;obtain⟨⟨S0,z14,rfl⟩,fi,Ek⟩:=Co;have zK:i < zs.length:=(List.getElem?_eq_some_iff.mp hz).1;have XM:i < (m.work r B k).cT.length:=by lia
   have yG:(m.work r B k).cT[i]?=some (m.work r B k).cT[i]:=cD XM;have AV:=wk4 _ (aaw XM);have S8:=(Ql.2 i z _ hz yG).aJ fi.aP;have NY:(r.step m B k).send (m.outs (m.goal B)) (m.ev r B) ((m.work r B k).cT.take (i+1))=((r.step m B k).send (m.outs (m.goal B)) (m.ev r B) ((m.work r B k).cT.take i)).send (m.outs (m.goal B)) (m.ev r B) [(m.work r B k).cT[i]]:=by
    rw[aaU,yG];exact qI _
   have Cf:=(RS.uZ.send (outs:=m.outs (m.goal B)) (ev:=m.ev r B) ((m.work r B k).cT.take i) SW SX).mono (show _<=19998 by simp;lia);generalize (m.work r B k).cT[i]=p at *;obtain⟨pj,px⟩:=p;obtain⟨tz,u1,u2,kz,rfl,Dh,y1,y2⟩:=dM S8;obtain rfl:=y1.cG;obtain rfl:=y2.cG;ac_rfl;calc rF (bF.of Dh) ?_;have Vw:=fi.at ae1 nD2;left;calc bD _ (.inl ⟨_,aO.of Vw,rfl⟩) ?_;left;have hlen:((vp m 0 (m.goal B)).map λi=>V.int ((i:Nat):Int)).length=(m.outs (m.goal B)).length:=by rw[M'];rfl
   rw[hlen];have ej:((pj.toNat:Nat):Int)=pj:=aaZ AV;by_cases ir:pj<((m.outs (m.goal B)).length:Nat)
   ·rw[if_pos (by simpa using ir)];have Pe:pj.toNat < (m.outs (m.goal B)).length:=by lia
    have sS:(m.outs (m.goal B)).getD pj.toNat 0<m.ws.length:=by
     have:=getD_mem (d:=0) Pe;unfold NT.outs at this ⊢;rw[aaY,abb]at this;exact this.1
    have Xy:ia ((vp m 0 (m.goal B)).map λi=>V.int ((i:Nat):Int)) pj=some (.int (((m.outs (m.goal B)).getD pj.toNat 0:Nat):Int)):=by
     rw[<-ej];calc aA ?_;rw[A'];show Option.map _ (m.outs (m.goal B))[_]?=_;rw[aao,aS (d:=0) Pe];rfl
    nofun;obtain⟨U,how⟩:∃U,U=(m.outs (m.goal B)).getD pj.toNat 0:=⟨_,rfl⟩
    rw[<-how]at sS Xy;generalize hri:(r.step m B k).send (m.outs (m.goal B)) (m.ev r B) ((m.work r B k).cT.take i)=ri at *;obtain⟨oi,Y6,nFi,nPi,Y7⟩:=Ek.dk;have oi4:=Y7 4 ∅ ∅;have Y8:=Y7 5 ∅ ∅;have bi:=Ek.cH;obtain⟨w4,x4,y4⟩:=bi.lst (t:=4) (i:=U) sS rfl;ac_rfl;have l4:w4.length=(ri.ww U).say.length:=by simpa using y4.1
    have hb4:=Cf.bs U sS;have UT:=Cf.ls U sS;left;calc bD _ (Kl Y6) ?_;left;calc bC Vw Xy ?_;calc bC oi4.1 (bo sS) ?_;calc⟨.inl ⟨rfl,_,aO.of x4⟩,?_⟩;left;calc iE w4 x4 (small ()) ?_;have bj:=bi.app (t:=4) (i:=U) sS rfl x4 (fw.one (.int px));have fj:Fr (FP m.n ad) H' (upd H' (ad 4 U) (.lst (w4++[.int px]))):=Fr.refl.upd ⟨4,U,sS,rfl⟩ x4 trivial;generalize hGj:upd H' (ad 4 U) (.lst (w4++[.int px]))=Hj at *;obtain⟨w5,x5,y5⟩:=bj.lst (t:=5) (i:=U) sS rfl;have l5:w5.length=(ri.ww U).snd.length:=by simpa using y5.1
    left;calc bD _ (Km (fj.at Y6 nPi)) ?_;left;calc bC (fj.at Vw nD2) Xy ?_;calc bC (fj.at Y8.1 Y8.2.2) (bo sS) ?_;calc⟨.inl ⟨rfl,_,aO.of x5⟩,?_⟩;left;calc iE w5 x5 (small ()) ?_;have FSj:FS F Hj:=j0.fr ((Qk.f.trans fi).trans fj) M.cH.uB;have bk:=bj.app (t:=5) (i:=U) sS rfl x5 (fw.one (show HD _ 4 (.ref ev) (nj (some (m.ev r B))) from(bj.ht FSj ((Qm.aJ fi.aP).aJ fj.aP)).mono ∅));have fk:Fr (FP m.n ad) H' (upd Hj (ad 5 U) (.lst (w5++[.ref ev]))):=fj.upd ⟨5,U,sS,rfl⟩ x5 trivial;left;calc gp ⟨_,_,rfl,rfl⟩ (fi.trans fk) ?_;rw[NY];show bV F _ d _ m (if pj.toNat<_ then _ else _) ad;rw[if_pos Pe];show bV F _ d _ m (ri.put ((m.outs (m.goal B)).getD pj.toNat 0) px (some (m.ev r B))) ad;rw[<-how];exact Ek.own fk (bk.congr Ky)
   ·rw[if_neg (by simpa using ir)];left;calc gp ⟨_,_,rfl,rfl⟩ fi ?_;rw[NY];show bV F H' d _ m (if pj.toNat<_ then _ else _) ad;rw[if_neg ()];exact Ek
  ·intro σ H' Kf;obtain⟨⟨S0,z14,rfl⟩,fi,Ek⟩:=Kf;left;rw[nr,aat]at Ek;exact q _ _ (Qk.f.trans fi) Ek (Qm.aJ fi.aP)
 clear hN2
 cases Mb:(r.ww B).snd.getD k none with
 |none=>
  rw[Mb]at dv5;have:=Ca dv5;subst this;left
  try rw[if_neg ∅]
  left;calc rest rl _ _ H8 (av.refl _) ?_;unfold pW;rw[Mb];calc wm
 |some sc=>
  nofun;obtain⟨s0,c0⟩:=sc;rw[Mb]at dv5;obtain⟨ae,rfl,hae⟩:=pS (dv5.cv dD);have ae6:=X _ _ hae;have y6:some (s0,c0)∈(r.ww B).snd:=by rw[<-Mb];exact getD_mem ()
  obtain⟨q1,q2,q3,q4⟩:=O.sd B L s0 c0 y6;ac_rfl;left
  try rw[if_pos ∅]
  left;calc bD _ (Km (X _ _ N)) ?_;left;calc bC (X _ _ o5.1) (bo L) ?_;calc bC (X _ _ e5) (aA ev5) ?_;calc rF (bF.of ae6) ?_;left;calc bt ?_;left;calc bD _ (Oj (X _ _ N)) ?_;have hsm:s0.toNat<m.ms.length:=by lia
  have es0:((s0.toNat:Nat):Int)=s0:=aaZ q1;have ec0:(((c0-1).toNat:Nat):Int)=c0-1:=aaZ ();left;calc bC (X _ _ o3.1) (show ia _ s0=some (.ref (ad 3 s0.toNat)) from by have:=bo (n:=m.n) (ad:=ad) (t:=3) hsm;rw[es0]at this;calc this) ?_;nofun;obtain⟨vs3,es3,ds3⟩:=M.cH.lst (t:=3) (i:=s0.toNat) hsm rfl;obtain⟨vr,evr,dvr⟩:=ds3.get (i:=(c0-1).toNat) (d:=.lst (((r.mm s0.toNat).hr.getD (c0-1).toNat []).map .int)) (by rw[A',aS (d:=[]) ()];rfl);obtain⟨lo,rfl,UY⟩:=ym (dvr.cv dD);ac_rfl;calc bC (X _ _ es3) (show ia _ (c0-1)=some (.ref lo) from by rw[<-ec0];calc aA evr) ?_;have Ow:=X _ _ UY;left;calc fz true true _ _ (Sq.l wm) (Sq.l Ow) (λD3 FZ=>?_);have ahp:((r.mm (m.goal B)).hr.bf (List.replicate m.ms.length 0)).length=m.ms.length:=by
   by_cases h1:1<=(r.mm (m.goal B)).hr.length
   ·exact O.hl _ I _ (fH h1)
   ·have ez:(r.mm (m.goal B)).hr=[]:=List.length_eq_zero_iff.mp ();rw[ez];simp[List.bf]
  have ahq:((r.mm s0.toNat).hr.getD (c0-1).toNat []).length=m.ms.length:=O.hl _ hsm _ (getD_mem ());have ehr:pW m r B k=List.zipWith max ((r.mm (m.goal B)).hr.bf (List.replicate m.ms.length 0)) ((r.mm s0.toNat).hr.getD (c0-1).toNat []):=by
   unfold pW;rw[Mb]
  generalize hA:(r.mm (m.goal B)).hr.bf (List.replicate m.ms.length 0)=LA at *;generalize hB:(r.mm s0.toNat).hr.getD (c0-1).toNat []=LB at *;refine aV (J:=UK true true K rl lo) (n:=m.ms.length) (λi ys H'=>av H8 H'/\ys=((List.zipWith max LA LB).take i).map V.int) (J' (aB ())) ⟨av.new _ FZ,rfl⟩ ?_ ?_ ?_ ?_
  ·rintro i ys H' hi ⟨Y,_⟩;exact⟨_,_,_,_,Sq.l (Y _ _ wm),Sq.l (Y _ _ Ow),by rw[A',aS (d:=0) ()];rfl,by rw[A',aS (d:=0) ()];rfl⟩
  ·rintro ys H' ⟨Y,_⟩;exact⟨_,_,Sq.l (Y _ _ wm),Sq.l (Y _ _ Ow),.inl (by simp;lia)⟩
  ·intro i ys H' hi aW hl Oe xx H4' zq9;nofun;obtain⟨Y,rfl⟩:=Oe;obtain⟨t',AX,rfl,y⟩:=zq9;obtain⟨x1,x2,Qb,Qc,rfl⟩:=y _ _ (Sq.l (Y _ _ wm)) (Sq.l (Y _ _ Ow));rw[A',aS (d:=0) ()] at Qb Qc;obtain rfl:=Option.some.inj Qb;obtain rfl:=Option.some.inj Qc;ac_rfl;have s2:=av.new (.tup [.int (LA.getD i 0),.int (LB.getD i 0)]) AX;have o8:upd H' t' (.tup [.int (LA.getD i 0),.int (LB.getD i 0)]) t'=some (.tup [.int (LA.getD i 0),.int (LB.getD i 0)]):=ab;calc rF (bF.of o8) ⟨Ext.set (Ext.set (Ext.refl _) rfl) rfl,?_⟩;left
   try rw[if_pos trivial]
   calc bJ (s2 _ _ aW) hl hi (J' (aB ())) ⟨λc o e=>by rw[ay (aq e FZ)];calc s2 _ _ (Y _ _ e),?_⟩;rw[aaU,List.getElem?_zipWith,aS (l:=LA) (d:=0) (),aS (l:=LB) (d:=0) (),U'];show _++[V.int (if LB.getD i 0 > LA.getD i 0 then LB.getD i 0 else LA.getD i 0)]=_++[V.int (max (LA.getD i 0) (LB.getD i 0))]
   congr 3;split<;>lia
  rintro ys H9 aW hl ⟨Vu,rfl⟩;rw[aaG (by simp;lia),<-ehr]at aW;left;calc rest D3 _ _ H9 Vu aW
theorem rK.nil{ct:Nat->Hp->HO->Prop}:rK H0 H' D [] 0 ct:=⟨rfl,List.nodup_nil,λa h=>by simp at h,λj a h=>by simp at h⟩
theorem rK.snoc{n:Nat}{ct:Nat->Hp->HO->Prop}(h:rK H0 H1 D as n ct)(q:av H0 H1)(r:H1 D≠none)(g:H1 a=none){o:HO}(e:H' a=some o)(c:ct n H' o)(s:∀b o,b≠D->H1 b=some o->H' b=some o)(f:∀j o,ct j H1 o->ct j H' o):rK H0 H' D (as++[a]) (n+1) ct:=by
 refine⟨by simp[h.len],?_,λb d=>?_,λj b d=>?_⟩
 ·rw[List.nodup_append];calc gp h.nd nofun (λb d c l=>?_);simp at l;subst l;intro z;subst z;obtain⟨j,k⟩:=List.getElem?_of_mem d;obtain⟨m,i,_⟩:=h.ins j b k;rw[g]at i;cases i
 ·rcases List.mem_append.mp d with d | d
  ·exact h.new b d
  ·simp at d;subst d;refine⟨?_,λz=>r (z ▸ g)⟩
   cases t:H0 b with
   |none=>rfl
   |some o=>rw[q _ _ t]at g;cases g
 ·by_cases k:j < as.length
  ·rw[W' k]at d;obtain⟨m,i,g⟩:=h.ins j b d;exact⟨m,s _ _ (h.new b (aan d)).2 i,f _ _ g⟩
  ·rw[V' ()] at d
   cases p:j-as.length with
   |zero=>
    rw[p]at d;simp at d;subst d;have:j=n:=by have:=h.len;lia
    subst this;calc⟨o,e,c⟩
   |succ k=>rw[p]at d;simp at d
theorem rK.keep{n:Nat}{ct:Nat->Hp->HO->Prop}(h:rK H0 H1 D as n ct)(s:∀(j:Nat) (b:Addr) (o:HO),H1 b=some o->ct j H1 o->H' b=some o/\ct j H' o):rK H0 H' D as n ct:=
 ⟨h.len,h.nd,h.new,λj a e=>by
  obtain⟨c,d,f⟩:=h.ins j a e;calc⟨c,s _ _ _ d f⟩⟩
theorem sV{K:W.Frag}{ix:List (Option Nat)}{t:TE}{l:Addr}{xs:List V}{o:HO}(v:H l=some (.lst xs))(w:H D=none)(I:xs.length<=10)(z:∀x,Ext (tJ ix σ) ((tJ ix σ).set 0 (some x)))(d:∀g k (R:VK),(∀p,k p=none->R (.ref p) (upd k p o))->t g k R)(q:∀as H1,H1 D=some (.lst (as.map V.ref))->av H H1->rK H H1 D as xs.length (λ_ _ u=>u=o)->Q (.ref D) H1):lM ix (rD K l) (dE 0) fq t σ H Q D:=by
 refine aV (n:=xs.length) (λi ys H'=>∃as:List Addr,ys=as.map V.ref/\av H H'/\rK H H' D as i (λ_ _ u=>u=o)) (J' (small ())) ⟨[],rfl,av.new _ w,rK.nil⟩ ?_ ?_ ?_ ?_
 ·rintro i ys H' m ⟨_,_,a,_⟩;exact⟨_,xs[i],aO.of (a _ _ v),cD m⟩
 ·rintro ys H' ⟨_,_,a,_⟩;exact⟨_,aO.of (a _ _ v),F' _⟩
 ·intro i ys H' m c y B C J F;obtain⟨as,rfl,a,r⟩:=B;obtain⟨rfl,g⟩:=F;calc⟨z C,?_⟩;simp only[fq,if_true];calc d _ _ _ λp g=>?_;have d:=av.new o g;have i:p≠D:=Ne.symm (aq c g);refine bJ (d _ _ c) y m (J' (small ())) ⟨as++[p],nofun,λb o e=>?_,?_⟩
  ·rw[ay (aq e w)];exact d _ _ (a _ _ e)
  ·refine r.snoc a (by rw[c];simp) g (o:=o) ?_ rfl (λb o a e=>?_) (λj u e=>e)
   ·rw[ay i];exact ab
   ·rw[ay a];exact d _ _ e
 ·intro ys H1 c y G;obtain⟨as,rfl,a,r⟩:=G;calc q as H1 c a r
theorem rK.some{n:Nat}{ct:Nat->Hp->HO->Prop}(h:rK H0 H1 D as n ct):∀a∈as,H1 a≠none:=λa m=>by
 obtain⟨j,e⟩:=List.getElem?_of_mem m;obtain⟨b,e,_⟩:=h.ins j a e;rw[e];calc λz=>nomatch z
def kL(l:List Addr):List (Key×V):=List.zipWith (λk a=>(Sum.inr k,V.ref a)) ["net","put","sender","worker","states","words","heard","events"] l
theorem pX{C:Hp}{d:Addr}{l:List Addr}{k:Key}(c:H d=none)(S:av H C)(f:C d=some (.dK (kL l)))(a:av C H')(g:putK (kL l) k (V.ref D)=kL (l++[D]))(h:l.length<=8)(q:∀G,G d=some (.dK (kL (l++[D])))->(∀b o,b≠d->C b=some o->G b=some o)->(∀b o,b≠d->H' b=some o->G b=some o)->av H G->R G):∃d' G,d=d'/\Bx H' d' (kV k) (V.ref D) G/\R G:=by
 calc⟨d,_,rfl,Bx.k (a _ _ f) (small (by unfold kL;rw[List.length_zipWith];lia)),?_⟩;rw[g];calc q _ ab (λb o n e=>by rw[ay n];calc a _ _ e) (λb o n e=>by rw[ay n];calc e) (λb o e=>by rw[ay (aq e c)];calc a _ _ (S _ _ e))
abbrev mB:Stmt:=top 74
inductive KG(vs:List V)(H:Hp)(Q:VK):Prop
 |mk (F:Addr->Prop) (tn:V) (nt:NT) (ls:List (Int×Int)) (h0:vs=[tn]) (h1:ToldN (jZ F H) tn nt.ms nt.ws ls) (h2:FS F H) (h3:nt.Ok) (h4:ls.length<=20) (h5:∀l∈ls,0<=l.1/\l.1<nt.ws.length) (h6:∀d ad H',av H H'->(∀b,FP nt.n ad b->H b=none)->H d=none->bV F H' d tn nt (RS.begin nt ls) ad->Q (.ref d) H'):KG vs H Q
def yo:Sp:=λvs H Q _=>KG vs H Q
theorem Ar(D:cw K mg "_law_begun" "_law_begun" mB ["_law_net_here"])(T:Tx K mg C CN CR F FD):Def P w K mg base "_law_begun" 1 ["_law_net_here"] yo:=by
 have sc:aD ["_law_net_here","_law_run","_law_way","_law_said"] ["_law_net_here"] (az mB):=by walk_at "s"
 symm;obtain⟨F,tn,g,ls,rfl,hN,j0,ba,jo,nE,q⟩:=h;have N:=hr.units;have FA:=lt1 N;refine⟨_,(ag (aZ (i:=1) sc.nd rfl Sort (MV (tF aE (au 0) (tF aE (cu (N':=["_law_way"]) (ix:=[none]) (bI (ao N (au 0) ai)) (λ_ _ _ _=>(aR (i:=0) (show(["_law_way"]:List Str).Nodup by decide +kernel) rfl Sort)) kj (λ_ _ _ _=>(bx aa))) (tF aE (cu (N':=["_law_way"]) (ix:=[none]) (bI (ao N (au 0) ai)) (λ_ _ _ _=>(aR (i:=0) (show(["_law_way"]:List Str).Nodup by decide +kernel) rfl Sort)) kj (λ_ _ _ _=>(bx aa))) MU))) rfl rfl ∅ ∅))
  (ag (mZ FA (au 1) aE (cu (N':=["_law_way"]) (ix:=[none]) (bI (ao N (au 0) ai)) (λ_ _ _ _=>(aR (i:=0) (show(["_law_way"]:List Str).Nodup by decide +kernel) rfl Sort)) kj (λ_ _ _ _=>Hy)) rfl)
  (ag (mZ FA (au 1) aE (cu (N':=["_law_one"]) (ix:=[none]) (bI (ao N (au 0) ai)) (λ_ _ _ _=>(aR (i:=0) (show(["_law_one"]:List Str).Nodup by decide +kernel) rfl Sort)) kj (λ_ _ _ _=>(bx (af (bG (af (cR (pE (K:=K) rfl) rfl T.cf sC (af (cj (K:=K) rfl N (au 0) ai) aa)) (af (cR (pE (K:=K) rfl) rfl T.cf sC (af (cj (K:=K) rfl N (au 0) ai) aa)) aa))) aa)))) rfl)
  (ag (mZ FA (au 1) aE (cu (N':=["_law_one"]) (ix:=[none]) (bI (ao N (au 0) ai)) (λ_ _ _ _=>(aR (i:=0) (show(["_law_one"]:List Str).Nodup by decide +kernel) rfl Sort)) kj (λ_ _ _ _=>(bx (af (bx aa) aa)))) rfl)
  (ag (mZ FA (au 1) aE (cu (N':=["_law_one"]) (ix:=[none]) (bI (ao N (au 0) ai)) (λ_ _ _ _=>(aR (i:=0) (show(["_law_one"]:List Str).Nodup by decide +kernel) rfl Sort)) kj (λ_ _ _ _=>(bx aa))) rfl)
  (ag (mZ FA (au 1) aE (bx aa) rfl)
  (ag (dC PassesOwn.never rfl (bI (ao N (au 0) ai)) (dW (i:=2) (j:=3) rfl sc.nd rfl rfl Sort Sort)
  (ag (bN (dB o7 rB rC bW (ao N (ao N (au 1) aE) (au 2)) (af (au 3) aa)))
  (aj (bN (dB o7 rB rC bW (ao N (ao N (au 1) aE) (au 2)) (af gm aa))))))
  (aj (aH (au 1)))))))))),?_⟩
 nofun;obtain⟨tt,am,aw,al,mv,wv,lv,rfl,h1,h2,h3,h4,h5,h6,h7⟩:=id hN;have g1:=(ei h1 (λk z=>by cases z)).2;have X:=(ei h2 (λk z=>by cases z)).2;have g3:=(ei h3 (λk z=>by cases z)).2;have g4:=(ei h4 (λk z=>by cases z)).2
 replace h5:=h5.cv dD
 replace h6:=h6.aJ dD.aP
 replace h7:=h7.aJ dD.aP
 ac_rfl;have kg:wv.length=g.ws.length:=by simpa using h6.1
 have nQ:mv.length=g.ms.length:=h5.1;have qm:lv.length=ls.length:=by simpa using h7.1
 have T:wv.length<=10:=by rw[kg];exact ba.Fo
 have T:mv.length<=5:=by rw[nQ];exact ba.II
 left;refine Nj λd rW=>?_;have Vx:=av.new (.dK []) rW;have ed0:upd H d (.dK []) d=some (.dK []):=ab;generalize hGd:upd H d (.dK [])=C1 at *;left;refine bt ?_;left;refine dJ (Vx _ _ g1) (aA (j:=1) rfl) ?_;left;refine .inl ⟨⟨_,aO.of (Vx _ _ g3)⟩,λD1 GB=>?_⟩;refine sV (o:=.lst []) (Vx _ _ g3) GB () (λ_=>Ext.set (Ext.refl _) rfl) (λ_ _ _ r=>And.intro ∅ r) ?_;intro A1 H1 l XW hL1;have XY:=l;clear l;have fD1:C1 D1=none:=GB;left;generalize hC2:H1=C2 at *;have S2:=Vx.trans XW;have Vy:=XW _ _ ed0;have kd1:∀b o,b≠d->C1 b=some o->C2 b=some o:=λb o _ e=>XW _ _ e;refine bt ?_;left;refine dJ (S2 _ _ g1) (aA (j:=1) rfl) ?_;left;refine .inl ⟨⟨_,aO.of (S2 _ _ g3)⟩,λD2 FY=>?_⟩;refine sV (o:=.lst []) (S2 _ _ g3) FY () (λ_=>Ext.set (Ext.refl _) rfl) (λ_ _ _ r=>And.intro ∅ r) ?_;intro A2 H2 l U5 hL2;have U7:=l;clear l;have X1:C2 D2=none:=FY;left;have T:H2 d=some (.dK []):=U5 _ _ Vy;refine⟨T,kL [tt,D1,D2],rfl,by simp[kL,List.zipWith],?_⟩;rw[show nV [] (kL [tt,D1,D2])=kL [tt,D1,D2] by kernel_rfl];obtain⟨C3,hC3,Vz,U6,ke2⟩:=XQ (d:=d) (kL [tt,D1,D2]) U5;rw[hC3];have S3:av H C3:=λb o e=>U6 b o (aq e rW) (S2 _ _ e);clear hC3;clear T;left;refine bt ?_;left;refine dJ (S3 _ _ g1) (aA (j:=1) rfl) ?_;left;refine .inl ⟨⟨_,aO.of (S3 _ _ g3)⟩,λD3 T=>?_⟩;refine sV (o:=.dK []) (S3 _ _ g3) T () (λ_=>Ext.set (Ext.refl _) rfl) (λ_ _ _ r=>r) ?_;intro A3 H3 l X3 hL3;have Va:=l;clear l;have X6:C3 D3=none:=T;left;refine pX (k:=Sum.inr "worker") rW S3 Vz X3 (by kernel_rfl) nofun λC4 TU X4 ke3 S4=>?_;left;refine bt ?_;left;refine dJ (S4 _ _ g1) (aA (j:=0) rfl) ?_;left;refine .inl ⟨⟨_,aO.of (S4 _ _ X)⟩,λD4 Vd=>?_⟩;refine aV (J:=rD K am) (n:=mv.length) (λi ys H'=>∃as:List Addr,ys=as.map V.ref/\av C4 H'/\rK C4 H' D4 as i (λj H' o=>∃v,o=.lst [v]/\HT H' 2 v (zf (g.ms.getD j default).ns (g.ms.getD j default).row))) (J' (small ())) ⟨[],rfl,av.new _ Vd,rK.nil⟩ ?_ ?_ ?_ ?_
 ·rintro i ys H' hi ⟨_,_,M,_⟩;exact⟨_,mv[i],aO.of (M _ _ (S4 _ _ X)),cD hi⟩
 ·rintro ys H' ⟨_,_,M,_⟩;exact⟨_,aO.of (M _ _ (S4 _ _ X)),F' _⟩
 ·intro i ys H' hi l hl pN xx H4 rT;nofun;obtain⟨as,rfl,M,hL⟩:=pN;obtain⟨rfl,hy⟩:=rT;ac_rfl;have ex:=hy _ (aO.of (M _ _ (S4 _ _ X)));walk_at "xf";left
  try rw[if_pos trivial]
  have N3:i<g.ms.length:=by lia
  obtain⟨mt,ln,lr,ld,xsd,rfl,m1,m2,m3,T,m5⟩:=h5.2 i xx _ ex (aS (d:=default) N3);have T:=(S4.trans M)
  calc dJ (T _ _ m1) (aA (j:=1) rfl) ?_;left;calc .inl ⟨_,aO.of (T _ _ m2),λt1 wx=>?_⟩;have r1:=av.new (.tup ((g.ms.getD i default).ns.map V.int)) wx;calc dJ (r1 _ _ (T _ _ m1)) (aA (j:=2) rfl) ?_;left;calc .inl ⟨_,aO.of (r1 _ _ (T _ _ m3)),λt2 o8=>?_⟩;have r2:=av.new (.tup ((g.ms.getD i default).row.map V.int)) o8;calc⟨cM,λt3 T=>?_⟩;have r3:=av.new (.tup [.ref t1,.ref t2]) T;have S:=r1.trans (r2.trans r3);have O:HT (upd (upd (upd H4 t1 (.tup ((g.ms.getD i default).ns.map V.int))) t2 (.tup ((g.ms.getD i default).row.map V.int))) t3 (.tup [.ref t1,.ref t2])) 2 (.ref t3) (zf (g.ms.getD i default).ns (g.ms.getD i default).row):=cV ab (pF (r3 _ _ (r2 _ _ ab))) (pF (r3 _ _ ab));generalize hGP:upd (upd (upd H4 t1 (.tup ((g.ms.getD i default).ns.map V.int))) t2 (.tup ((g.ms.getD i default).row.map V.int))) t3 (.tup [.ref t1,.ref t2])=HP at *;have Gf:=S _ _ l;left;calc⟨∅,λp hp=>?_⟩;have U:=av.new (.lst [.ref t3]) hp;have TV:=U _ _ Gf;have nD:p≠D4:=Ne.symm (aq Gf hp);refine bJ TV hl hi (J' (small ())) ⟨as++[p],nofun,λb o e=>?_,?_⟩
  ·rw[ay (aq e Vd)];exact U _ _ (S _ _ (M _ _ e))
  ·refine hL.snoc M (by rw[l];simp) (S.free hp) (o:=.lst [.ref t3]) ?_ ⟨_,rfl,O.aJ (λb xs e=>by rw[ay (λz=>by rw[z,Gf] at e;cases e)];calc U _ _ e)⟩ (λb o nb e=>?_) (λj o ⟨v,e,h⟩=>⟨v,e,h.aJ (λb xs e=>by rw[ay (λz=>by rw[z,l] at e;cases e)];calc U _ _ (S _ _ e))⟩)
   ·rw[ay nD];exact ab
   ·rw[ay nb];exact U _ _ (S _ _ e)
 intro ys H4 l hl xT;obtain⟨A4,rfl,Ve,hL4⟩:=xT;have Vf:=l;clear l hl;have fD4:C4 D4=none:=Vd;left;refine pX (k:=Sum.inr "states") rW S4 TU Ve (by kernel_rfl) nofun λR Qn X8 ke4 S5=>?_;left;refine bt ?_;left;refine dJ (S5 _ _ g1) (aA (j:=0) rfl) ?_;left;refine .inl ⟨⟨_,aO.of (S5 _ _ X)⟩,λY DC=>?_⟩;refine aV (J:=rD K am) (n:=mv.length) (λi ys H'=>∃as:List Addr,ys=as.map V.ref/\av R H'/\rK R H' Y as i (λ_ H' o=>∃q,o=.lst [.ref q]/\H' q=some (.lst [])/\R q=none/\q≠Y)) (J' (small ())) ⟨[],rfl,av.new _ DC,rK.nil⟩ ?_ ?_ ?_ ?_
 ·rintro i ys H' hi ⟨_,_,M,_⟩;exact⟨_,mv[i],aO.of (M _ _ (S5 _ _ X)),cD hi⟩
 ·rintro ys H' ⟨_,_,M,_⟩;exact⟨_,aO.of (M _ _ (S5 _ _ X)),F' _⟩
 ·intro i ys H' hi l hl Co xx H4 Kf;nofun;obtain⟨as,rfl,M,hL⟩:=Co;obtain⟨rfl,hy⟩:=Kf;ac_rfl;have ex:=hy _ (aO.of (M _ _ (S5 _ _ X)));walk_at "xf";left
  try rw[if_pos trivial]
  calc⟨aaj _,λqq hqq=>?_⟩;have S:=av.new (.lst []) hqq;have eqq:upd H4 qq (.lst []) qq=some (.lst []):=ab;have nqD:qq≠Y:=Ne.symm (aq l hqq);generalize hGP:upd H4 qq (.lst [])=HP at *;have Gf:=S _ _ l;left;calc⟨∅,λp hp=>?_⟩;have U:=av.new (.lst [.ref qq]) hp;have TV:=U _ _ Gf;have nD:p≠Y:=Ne.symm (aq Gf hp);refine bJ TV hl hi (J' (small ())) ⟨as++[p],nofun,λb o e=>?_,?_⟩
  ·rw[ay (aq e DC)];exact U _ _ (S _ _ (M _ _ e))
  ·refine hL.snoc M (by rw[l];simp) (S.free hp) (o:=.lst [.ref qq]) ?_ ⟨qq,rfl,by rw[ay nqD];calc U _ _ eqq,M.free hqq,nqD⟩ (λb o nb e=>?_) (λj o ⟨M,e,h,h',h2⟩=>⟨M,e,by rw[ay h2];calc U _ _ (S _ _ h),h',h2⟩)
   ·rw[ay nD];exact ab
   ·rw[ay nb];exact U _ _ (S _ _ e)
 intro ys H5 l hl Oe;obtain⟨A5,rfl,Vi,hL5⟩:=Oe;have Vj:=l;clear l hl;have fD5:R Y=none:=DC;left;refine pX (k:=Sum.inr "words") rW S5 Qn Vi (by kernel_rfl) nofun λC6 TX Yb ke5 M=>?_;left;refine bt ?_;left;refine dJ (M _ _ g1) (aA (j:=0) rfl) ?_;left;refine .inl ⟨⟨_,aO.of (M _ _ X)⟩,λD6 S=>?_⟩;refine sV (o:=.lst []) (M _ _ X) S () (λ_=>Ext.set (Ext.refl _) rfl) (λ_ _ _ r=>And.intro ∅ r) ?_;intro A6 T l Yf hL6;have Mi:=l;clear l;have fD6:C6 D6=none:=S;left;refine pX (k:=Sum.inr "heard") rW M TX Yf (by kernel_rfl) nofun λC7 VA Yg ke6 S7=>?_;left;refine⟨aaj _,λpe yG=>?_⟩;have sE7:=av.new (.lst []) yG;have afb:upd C7 pe (.lst []) pe=some (.lst []):=ab;have npe:pe≠d:=Ne.symm (aq VA yG);generalize alo:upd C7 pe (.lst [])=E7 at *;refine pX (k:=Sum.inr "events") rW S7 VA sE7 (by kernel_rfl) nofun λZ edF kd7 l SF=>?_;have epe:=l _ _ npe afb;have x:∀(A:Hp) (kv:List (Key×V)) (b:Addr) (vs:List V),A d=some (.dK kv)->A b=some (.lst vs)->b≠d:=λA kv b vs I W z=>by rw[z,I]at W;cases W
 have ndk:∀(A:Hp) (p:Key×V) (kv:List (Key×V)) (b:Addr),A d=some (.dK (p::kv))->A b=some (.dK [])->b≠d:=λA p kv b I W z=>by rw[z,I]at W;cases W
 have Mr:∀(A:Hp) (kv:List (Key×V)) (b:Addr) (vs:List V),A d=some (.dK kv)->A b=some (.tup vs)->b≠d:=λA kv b vs I W z=>by rw[z,I]at W;cases W
 have kc7:=kd7;have kc6:∀b o,b≠d->C6 b=some o->Z b=some o:=λb o n e=>kc7 b o n (Yg b o n e);have N4:∀b o,b≠d->R b=some o->Z b=some o:=λb o n e=>kc6 b o n (Yb b o n e);have PR:∀b o,b≠d->C4 b=some o->Z b=some o:=λb o n e=>N4 b o n (X8 b o n e);have PU:∀b o,b≠d->C3 b=some o->Z b=some o:=λb o n e=>PR b o n (X4 b o n e);have Td:∀b o,b≠d->C2 b=some o->Z b=some o:=λb o n e=>PU b o n (U6 b o n e);have Y9:rK C1 C2 D1 A1 wv.length (λ_ _ o=>o=.lst []):=hL1;have KH:=XY;have Za:=Y9.keep (λj b o e c=>by subst c;calc⟨Td b _ (x _ _ _ _ Vy e) e,rfl⟩);have Zb:=Td _ _ (x _ _ _ _ Vy KH) KH;have Zc:rK C2 C3 D2 A2 wv.length (λ_ _ o=>o=.lst []):=hL2.keep (λj b o e c=>by subst c;calc⟨ke2 b _ (x _ _ _ _ (U5 _ _ Vy) e) e,rfl⟩);have KI:=ke2 _ _ (x _ _ _ _ (U5 _ _ Vy) U7) U7;have Zd:=Zc.keep (λj b o e c=>by subst c;calc⟨PU b _ (x _ _ _ _ Vz e) e,rfl⟩);have Ze:=PU _ _ (x _ _ _ _ Vz KI) KI;have Zf:rK C3 C4 D3 A3 wv.length (λ_ _ o=>o=.dK []):=hL3.keep (λj b o e c=>by subst c;calc⟨ke3 b _ (ndk _ _ _ _ (X3 _ _ Vz) e) e,rfl⟩);have KJ:=ke3 _ _ (x _ _ _ _ (X3 _ _ Vz) Va) Va;have Zg:=Zf.keep (λj b o e c=>by subst c;calc⟨PR b _ (ndk _ _ _ _ TU e) e,rfl⟩);have Zh:=PR _ _ (x _ _ _ _ TU KJ) KJ;have Zi:rK C4 R D4 A4 mv.length (λj H' o=>∃v,o=.lst [v]/\HT H' 2 v (zf (g.ms.getD j default).ns (g.ms.getD j default).row)):=hL4.keep (λj b o e c=>by
  obtain⟨v,rfl,O⟩:=c;calc⟨ke4 b _ (x _ _ _ _ (Ve _ _ TU) e) e,v,rfl,O.aJ (λb' xs e'=>ke4 b' _ (Mr _ _ _ _ (Ve _ _ TU) e') e')⟩)
 have KL:=ke4 _ _ (x _ _ _ _ (Ve _ _ TU) Vf) Vf;have Zj:=Zi.keep (λj b o e c=>by
  obtain⟨v,rfl,O⟩:=c;calc⟨N4 b _ (x _ _ _ _ Qn e) e,v,rfl,O.aJ (λb' xs e'=>N4 b' _ (Mr _ _ _ _ Qn e') e')⟩)
 have Zk:=N4 _ _ (x _ _ _ _ Qn KL) KL;have x9:rK R C6 Y A5 mv.length (λ_ H' o=>∃q,o=.lst [.ref q]/\H' q=some (.lst [])/\R q=none/\q≠Y):=hL5.keep (λj b o e c=>by
  obtain⟨v,rfl,O,Zl,Zm⟩:=c;calc⟨ke5 b _ (x _ _ _ _ (Vi _ _ Qn) e) e,v,rfl,ke5 v _ (x _ _ _ _ (Vi _ _ Qn) O) O,Zl,Zm⟩)
 have wI:=ke5 _ _ (x _ _ _ _ (Vi _ _ Qn) Vj) Vj;have nn:∀{A:Hp} {b:Addr} {o:HO},A b=some o->A b≠none:=λe z=>by rw[e]at z;cases z
 have Zn:rK R C6 Y A5 mv.length (λ_ H' o=>∃q,o=.lst [.ref q]/\H' q=some (.lst [])/\R q=none/\C6 q≠none):=⟨x9.len,x9.nd,x9.new,λj a e=>by
  obtain⟨o,I,q,rfl,W,l,_⟩:=x9.ins j a e;calc⟨_,I,q,rfl,W,l,nn W⟩⟩
 have TY:=Zn.keep (λj b o e c=>by
  obtain⟨v,rfl,O,Zl,Zm⟩:=c;calc⟨kc6 b _ (x _ _ _ _ TX e) e,v,rfl,kc6 v _ (x _ _ _ _ TX O) O,Zl,Zm⟩)
 have Zo:=kc6 _ _ (x _ _ _ _ TX wI) wI;have Zp:rK C6 C7 D6 A6 mv.length (λ_ _ o=>o=.lst []):=hL6.keep (λj b o e c=>by subst c;calc⟨ke6 b _ (x _ _ _ _ (Yf _ _ TX) e) e,rfl⟩);have KN:=ke6 _ _ (x _ _ _ _ (Yf _ _ TX) Mi) Mi;have Zq:=Zp.keep (λj b o e c=>by subst c;calc⟨kc7 b _ (x _ _ _ _ VA e) e,rfl⟩);have Zr:=kc7 _ _ (x _ _ _ _ VA KN) KN;rw[kg]at Za;rw[kg]at Zd;rw[kg]at Zg;rw[nQ]at Zj;rw[nQ]at TY;rw[nQ]at Zq;obtain⟨ad,S9⟩:∃ad:Nat->Nat->Addr,∀t i,ad t i=([[pe],A4,A5,A6,A1,A2,A3].getD t []).getD i 0:=⟨_,λ_ _=>rfl⟩
 have pz:∀{A B:Hp},(∀b o,b≠d->A b=some o->B b=some o)->∀{o},B d=some o->∀b,A b≠none->B b≠none:=λ{A B} h {o} e b hb=>by
  by_cases z:b=d
  ·rw[z,e];exact λz=>nomatch z
  ·cases I:A b with
   |none=>calc absurd I hb
   |some u=>rw[h b u z I];exact λz=>nomatch z
 have XR:∀a<7,∀b<7,[6,3,4,5,0,1,2].getD a 7=[6,3,4,5,0,1,2].getD b 7->a=b:=by decide
 obtain⟨cH,PH,hDo⟩:=D9 (F:=F) (G:=Z) (n:=g.n) (c:=(RS.new g).tv) (λt=>[C1,C2,C3,C4,R,C6,C7].getD t Z) (λt=>[6,3,4,5,0,1,2].getD t 7) _ (λt=>[d,D4,Y,D6,D1,D2,D3].getD t d) (λt=>[λ_ _ u=>u=.lst [],λj H' o=>∃v,o=.lst [v]/\HT H' 2 v (zf (g.ms.getD j default).ns (g.ms.getD j default).row),λ_ H' o=>∃q,o=.lst [.ref q]/\H' q=some (.lst [])/\R q=none/\C6 q≠none,λ_ _ o=>o=.lst [],λ_ _ o=>o=.lst [],λ_ _ o=>o=.lst []].getD t λ_ _ o=>o=.dK []) S9 (λ_=>rfl) (λt l h h'=>XR t () l ())
  (λt=>match t with
   |0=>pz kd1 Vy
   |1=>pz U6 Vz
   |2=>pz X4 TU
   |3=>pz X8 Qn
   |4=>pz Yb TX
   |5=>pz Yg VA
   |6=>pz kd7 edF
   | (t + 7)=>λb h=>h)
  (λb h=>by
   obtain⟨o,e,l⟩:=j0 b h;calc⟨nn (Vx _ _ e),o,SF _ _ e,l⟩)
  (λt ht=>match t,ht with
   | 0,_=>⟨⟨rfl,nofun,λa m=>by rw[List.mem_singleton.mp m];exact⟨yG,Ne.symm (aq VA yG)⟩,λj a e=>by cases j with
    |zero=>cases e;calc⟨_,epe,rfl⟩
    | succ j=>cases e⟩,λa m=>by rw[List.mem_singleton.mp m];calc nn epe,λh=>absurd h ∅⟩
   |1,_=>⟨Zj,Zi.some,λ_=>⟨fD4,nn KL⟩⟩
   |2,_=>⟨TY,x9.some,λ_=>⟨fD5,nn wI⟩⟩
   |3,_=>⟨Zq,Zp.some,λ_=>⟨fD6,nn KN⟩⟩
   |4,_=>⟨Za,Y9.some,λ_=>⟨fD1,nn KH⟩⟩
   |5,_=>⟨Zd,Zc.some,λ_=>⟨X1,nn KI⟩⟩
   |6,_=>⟨Zg,Zf.some,λ_=>⟨X6,nn KJ⟩⟩
   | (t + 7),h=>absurd h ())
  (λt i u ht h=>by
   match t,ht,h with
   |0,_,h|3,_,h|4,_,h|5,_,h|6,_,h=>cases h;trivial
   |1,_,⟨_,e,_⟩|2,_,⟨_,e,_⟩=>cases e;trivial
   | (t + 7),h,_=>calc absurd h ())
  (λhz fo t i u ht hi e h=>by
   match t,ht,h with
   |0,_,h|3,_,h|4,_,h|5,_,h=>cases h;calc(fw.nil:fw _ 4 [] [])
   |1,_,⟨v,e,O⟩=>cases e;calc(fw.one ((JX hz O).mono ∅):fw _ 4 [v] [_])
   |2,_,⟨v,e,O,Zl,Zm⟩=>
    cases e;have nq:=fo 4 v Zl Zm (λt ht es m=>by
     have:=XR t () 2 () es;subst this;obtain⟨j,e⟩:=List.getElem?_of_mem m;obtain⟨_,I,q,rfl,_⟩:=TY.ins j _ e;rw[O] at I;cases I)
    show fw (jZ (λb=>F b\/FP g.n ad b) Z) 4 [.ref v] [.lst []];calc fw.one (.lst (by rw[gU nq];calc O) rfl (λi u e N=>by simp at N))
   |6,_,h=>
    cases h;exact⟨aaj _,λk=>by
     have I:i8 ((RS.new g).ww i).cF k=none:=by
      show i8 [] k=none;unfold i8;split<;>rfl
     rw[I];calc Hq⟩
   | (t + 7),h,_=>calc absurd h ())
 have y:∀b,FP g.n ad b->H b=none:=λb hb=>Vx.free (PH b hb).1;have nF:∀b,H b=none->¬F b:=λb e z=>by
  obtain⟨o,I,_⟩:=j0 b z;rw[e]at I;cases I
 have hT:bV F Z d (.ref tt) g (RS.new g) ad:=by
  refine⟨⟨λt=>[d,D4,Y,D6,D1,D2,D3].getD t d,?_,nF d rW,λz=>nn ed0 (PH d z).1,λt h1 h6=>?_⟩,cH,⟨ls,hN.cv ?_⟩,ba⟩
  ·rw[edF,Mm,S9];rfl
  ·obtain⟨k,l,u⟩:=hDo t h1 h6;calc⟨?_,k,l⟩;rw[<-u]
   match t,h1,h6 with
   |1,_,_=>calc Zk
   |2,_,_=>calc Zo
   |3,_,_=>calc Zr
   |4,_,_=>calc Zb
   |5,_,_=>calc Ze
   |6,_,_=>calc Zh
   |(t+7),_,h=>exact absurd h ()
  ·intro b l e n;obtain⟨k,z2⟩:=ei e n;rw[gU]
   ·exact SF _ _ z2
   ·rintro(z | z)
    ·exact k z
    ·rw[y b z]at z2;cases z2
 have h7F:=h7.aJ SF.aP;left;refine dJ (SF _ _ g1) (aA (j:=2) rfl) (.inl ⟨⟨_,aO.of (SF _ _ g4)⟩,d9 (K:=K) (xs:=lv) (λi σ H'=>(∃z2 z3,σ=[some (V.ref tt),some (V.ref d),z2,z3])/\Fr (FP g.n ad) Z H'/\bV F H' d (.ref tt) g ((RS.new g).k9 (ls.take i)) ad) ?_ ?_ ?_ ?_⟩)
 ·exact⟨⟨_,_,rfl⟩,Fr.refl,hT⟩
 ·rintro i σ H' hi ⟨_,fi,_⟩;exact aO.of (fi.at (SF _ _ g4) (λz=>by rw[y _ z]at g4;cases g4))
 ·intro i z σ H' hzz afd;nofun;obtain⟨⟨z2,z3,rfl⟩,fi,Ek⟩:=afd;have k:i < ls.length:=by rw[<-qm];exact(List.getElem?_eq_some_iff.mp hzz).1
  have l:ls[i]?=some ls[i]:=cD k;have S8:=(h7F.2 i z (qB ls[i]) hzz (by rw[A',l];rfl)).aJ fi.aP;have vB:=nE _ (aaw k);have NY:(RS.new g).k9 (ls.take (i+1))=((RS.new g).k9 (ls.take i)).put ls[i].1.toNat ls[i].2 none:=by
   rw[aaU,l];exact qJ _
  have Cf:=(sT (ls.take i) (Ci ba)).mono (show _<=19998 by simp;lia);generalize ls[i]=p at *;obtain⟨L,px⟩:=p;obtain⟨tz,u1,u2,kz,rfl,Dh,y1,y2⟩:=dM S8;obtain rfl:=y1.cG;obtain rfl:=y2.cG;have l:=vB.1;have k:=vB.2;simp only at l k;have ej:((L.toNat:Nat):Int)=L:=aaZ l;have sS:L.toNat<g.ws.length:=by lia
  generalize hri:(RS.new g).k9 (ls.take i)=ri at *;ac_rfl;calc rF (bF.of Dh) ?_;nofun;obtain⟨u,Y6,k,nPi,l⟩:=Ek.dk;have k:=l 4 ∅ ∅;have Y8:=l 5 ∅ ∅;have u:=Ek.cH;obtain⟨w4,x4,l⟩:=u.lst (t:=4) (i:=L.toNat) sS rfl;ac_rfl;have v:w4.length=(ri.ww L.toNat).say.length:=by simpa using l.1
  have l:=Cf.bs _ sS;have l:=Cf.ls _ sS;left;calc bD _ (Kl Y6) ?_;left;have l:ia (kb g.n ad 4) L=some (.ref (ad 4 L.toNat)):=by have:=bo (n:=g.n) (ad:=ad) (t:=4) sS;rw[ej]at this;exact this
  have rb:ia (kb g.n ad 5) L=some (.ref (ad 5 L.toNat)):=by have:=bo (n:=g.n) (ad:=ad) (t:=5) sS;rw[ej]at this;exact this
  calc bC k.1 l ?_;calc⟨.inl ⟨rfl,_,aO.of x4⟩,?_⟩;left;calc iE w4 x4 (small ()) ?_;have bj:=u.app (t:=4) (i:=L.toNat) sS rfl x4 (fw.one (.int px));have fj:Fr (FP g.n ad) H' (upd H' (ad 4 L.toNat) (.lst (w4++[.int px]))):=Fr.refl.upd ⟨4,L.toNat,sS,rfl⟩ x4 trivial;generalize hGj:upd H' (ad 4 L.toNat) (.lst (w4++[.int px]))=Hj at *;obtain⟨l,k,n⟩:=bj.lst (t:=5) (i:=L.toNat) sS rfl;have u:l.length=(ri.ww L.toNat).snd.length:=by simpa using n.1
  left;calc bD _ (Km (fj.at Y6 nPi)) ?_;left;calc bC (fj.at Y8.1 Y8.2.2) rb ?_;calc⟨.inl ⟨rfl,_,aO.of k⟩,?_⟩;left;calc iE l k (small ()) ?_;have n:=bj.app (t:=5) (i:=L.toNat) sS rfl k (fw.one (show HD _ 4 .bL (nj none) from .bL));have i:Fr (FP g.n ad) H' (upd Hj (ad 5 L.toNat) (.lst (l++[.bL]))):=fj.upd ⟨5,L.toNat,sS,rfl⟩ k trivial;left;calc gp ⟨_,_,rfl,rfl⟩ (fi.trans i) ?_;rw[NY];exact Ek.own i (n.congr Ky)
 ·intro σ H' aff;obtain⟨⟨z2,z3,rfl⟩,fi,Ek⟩:=aff;left;rw[qm,aat]at Ek;calc q d ad H' (λb o e=>?_) y rW Ek;calc fi.at (SF _ _ e) (λz=>by rw[y b z]at e;cases e)
def fb(nt:NT)(r:RS)(s:List (Int×Int)):RS:=s.foldl (λr p=>r.pick nt p.1.toNat p.2.toNat) r
def qO(nt:NT)(r:RS)(s:List (Int×Int)):Prop:=∀(i:Nat) p,s[i]?=some p->∃w k:Nat,p=((w:Int),(k:Int))/\(fb nt r (s.take i)).NV nt w k
theorem gA{nt:NT}{w k:Nat}:fb nt r (s++[((w:Int),(k:Int))])=(fb nt r s).pick nt w k:=by
 unfold fb;rw[List.foldl_append];rfl
theorem KO{nt:NT}:qO nt r []:=λi p e=>by simp at e
theorem Gg{nt:NT}{w k:Nat}(h:qO nt r s)(a:(fb nt r s).NV nt w k):qO nt r (s++[((w:Int),(k:Int))]):=λi p e=>by
 by_cases b:i<s.length
 ·rw[W' b]at e;rw[List.take_append_of_le_length ()];exact h i p e
 ·have c:i=s.length:=by
   have:=(List.getElem?_eq_some_iff.mp e).1;simp at this;lia
  subst c;rw[V' (F' _),Nat.sub_self]at e;obtain rfl:=Option.some.inj e;calc⟨w,k,rfl,by rw[List.take_left];calc a⟩
theorem Gh{nt:NT}{p:Int×Int}(h:qO nt r (s++[p])):qO nt r s/\∃w k:Nat,p=((w:Int),(k:Int))/\(fb nt r s).NV nt w k:=by
 refine⟨λi q e=>?_,?_⟩
 ·have a:=(List.getElem?_eq_some_iff.mp e).1;have:=h i q (by rw[W' a];calc e);rw[List.take_append_of_le_length ()]at this;exact this
 ·have:=h s.length p (by rw[V' (F' _),Nat.sub_self];rfl);rw[List.take_left]at this;calc this
theorem El{nt:NT}(d:nt.Ok){r:RS}(h:r.Ok nt)(e:r.picks=[]):∀n (s:List (Int×Int)),s.length=n->qO nt r s->(fb nt r s).Ok nt/\(fb nt r s).picks=s
 |0,s,c,_=>by
  have:s=[]:=List.length_eq_zero_iff.mp c;subst this;calc⟨h,e⟩
 |n+1,s,c,g=>by
  rcases List.eq_nil_or_concat s with rfl|⟨i,p,f⟩
  ·simp at c
  rw[List.concat_eq_append]at f;subst f;obtain⟨j,w,k,rfl,l⟩:=Gh g;obtain⟨a,b⟩:=El d h e n i (by simpa using c) j;rw[gA];have:=RS.Ok.pick d a (k:=k) l.lt;rw[b]at this;calc this
theorem take_snoc{i:Nat}{p:Int×Int}(e:s[i]?=some p):s.take (i+1)=s.take i++[p]:=by rw[aaH,e];rfl
abbrev kE:Stmt:=top 63
inductive KP(C CN CR:Addr)(vs:List V)(H:Hp)(Q:VK):Prop
 |mk (F:Addr->Prop) (bg l:Addr) (nt:NT) (ls:List (Int×Int)) (ms:List Addr) (wv lv ys:List V) (s:List (Int×Int)) (h0:vs=[.ref bg,.ref l]) (h2:vo C CN H bg nt) (h3:nJ CN H bg ms wv lv) (h4:eO H 1 lv (ls.map qB)) (h5:ls.length<=20) (h6:∀l∈ls,0<=l.1/\l.1<nt.ws.length) (hl:H l=some (.lst ys)) (hs:eO H 1 ys (s.map pairD)) (hn:s.length<=100) (hF:FS F H) (hc:qO nt (RS.begin nt ls) s) (q:∀x ad H',av H H'->H x=none->(∀b,FP nt.n ad b->H b=none)->bU C CN CR F H' x bg nt (fb nt (RS.begin nt ls) s) ad->Q (.ref x) H'):KP C CN CR vs H Q
def Em(C CN CR:Addr):Sp:=λvs H Q _=>KP C CN CR vs H Q
theorem wO{nt:NT}(h:qO nt r s)(n:Nat):qO nt r (s.take n):=λi p e=>by
 have a:=(List.getElem?_eq_some_iff.mp e).1;rw[aaB]at a;rw[List.getElem?_take,if_pos ()]at e;rw[List.take_take,Nat.min_eq_left ()];calc h i p e
theorem yq(D:cw K mg "played_run" "played_run" kE ["net","schedule"])(T:Tx K mg C CN CR F FD)(c:cn P w K mg base CR "pick_at" 6 ["self","way","number","at"] (xZ C CN CR))(KQ:zd P w K mg base "Run" CR 2 ["self","net"] (Ea C CN CR)):Def P w K mg base "played_run" 7 ["net","schedule"] (Em C CN CR):=by
 have sc:aD ["net","schedule","run","at","way","number"] ["net","schedule"] (az kE):=by walk_at "s"
 symm;obtain⟨F,p,l,a,ls,ms,wv,lv,ys,s,rfl,L,Zu,Zv,M,nE,r,N,Zw,O,R,q⟩:=h;have hu:=hr.units;refine⟨_,(ag (aZ (i:=2) sc.nd rfl Sort (IB KQ hr (af (au 0) aa)))
  (ag (dC PassesOwn.never rfl (gK rfl T.cK (af (au 1) aa)) (Bb rfl (iB (aR (i:=3) sc.nd rfl Sort) (iB (dW (i:=4) (j:=5) rfl sc.nd rfl rfl Sort Sort) w6)))
  (aj (bN (eS c T.a0 hr (au 2) (af (au 4) (af (au 5) (af (au 3) aa)))))))
  (aj (aH (au 2))))),?_⟩
 have yI:=L.ok;obtain⟨S,U⟩:=pU yI M;walk_at "xg";left;intro m c W T alr;have d:av H (upd (upd H c (.own m)) m (.ins CR c [])):=λb o e=>by rw[ay (aq e W),ay (aq e T)];exact e
 calc⟨F,m,c,p,a,ls,ms,wv,lv,rfl,ab,L.fr (Z:=λ_=>False) d.fr,Zu.same d,Zv.aJ d.aP,M,nE,O.fr (Z:=λ_=>False) d.fr (λ_ _ h=>h),λad H3 k0 f0 X=>?_⟩;have u:av H H3:=λb o e=>k0 b o (aq e W) (d _ _ e);have B:∀b,FP a.n ad b->H b=none:=λb hb=>by
  cases e:H b with
  |none=>rfl
  |some o=>
   have:=f0 b hb;rw[d _ _ e]at this;cases this
 clear k0 f0 d;calc⟨rfl,L2.bz h1 ?_⟩;clear h1;left;have o9:ys.length=s.length:=by simpa using N.1
 refine⟨true,ys,Sq.l (u _ _ r),pD (xs:=ys) (λi σ H'=>(∃Y z4 z5,σ=[some (V.ref p),some (V.ref l),some (V.ref m),Y,z4,z5])/\Fr (FP a.n ad) H3 H'/\bU C CN CR F H' m p a (fb a (RS.begin a ls) (s.take i)) ad) ?_ ?_ ?_ ?_⟩
 ·exact⟨⟨_,_,_,rfl⟩,Fr.refl,X⟩
 ·rintro i σ H' ⟨_,g,_⟩;exact Sq.l (g.at (u _ _ r) (λz=>by rw[B _ z]at r;cases r))
 ·intro i t σ H' I hx fO YG;nofun;obtain⟨⟨Y,z4,z5,rfl⟩,g,v⟩:=fO;have c:i < s.length:=by rw[<-o9];exact(List.getElem?_eq_some_iff.mp hx).1
  have J:s[i]?=some s[i]:=cD c;have x:=av.new (.tup [.int (i:Nat),t]) YG;have ett:upd H' I (.tup [.int (i:Nat),t]) I=some (.tup [.int (i:Nat),t]):=ab;have y:=(((N.2 i t (pairD s[i]) hx (by rw[A',J];rfl)).aJ u.aP).aJ g.aP).aJ x.aP;generalize Jy:upd H' I (.tup [.int (i:Nat),t])=G2 at *;obtain⟨wy,k,ep,hc⟩:=R i _ J;rw[ep]at y J;obtain⟨ta,u1,u2,kk,rfl,rX,y1,y2⟩:=dM y;obtain rfl:=y1.cG;obtain rfl:=y2.cG;ac_rfl;calc⟨I,_,rfl,bF.of ett,rfl,_,_,rfl,_,_,rfl,⟨ta,_,rfl,bF.of rX,rfl,_,_,rfl,_,_,rfl,rfl,rfl,?_⟩⟩;left;nofun;obtain⟨c,d,Ij,l⟩:=v.ins;obtain⟨afj,afk⟩:=El yI S U _ _ rfl (wO R i);ac_rfl;have B8:∀{G:Hp},av G2 G->av H G:=λc b o e=>c _ _ (x _ _ (g.at (u _ _ e) (λz=>by rw[B _ z]at e;cases e)));calc gO (x _ _ Ij) (eY ⋯) ?_;calc⟨F,m,p,a,_,ad,wy,k,.int (i:Nat),rfl,v.same x,O.fr (Z:=λ_=>False) (B8 (av.refl _)).fr (λ_ _ h=>h),afj,hc,by rw[afk,aaB];lia,λt c f a d=>?_⟩;calc⟨⟨_,_,_,rfl,rfl,rfl⟩,(g.trans x.fr).trans f,?_⟩;rw[take_snoc J,gA];exact a
 ·intro σ H' fP;obtain⟨⟨Y,z4,z5,rfl⟩,g,v⟩:=fP;rw[o9,aat]at v;left;calc q _ _ _ (λb o e=>g.at (u _ _ e) (λz=>by rw[B _ z]at e;cases e)) W B v
def RS.Ps(nt:NT)(r:RS):Prop:=∀(w k:Nat) (m c:Int),w<nt.ws.length->(r.ww w).cF[k]?=some (some (m,c))->1<=c
theorem Au{outs:List Nat}{ev:Int×Int}{u k:Nat}{e:Int×Int}:∀(ps:List (Int×Int)) {r:RS},((r.send outs ev ps).ww u).cF[k]?=some (some e)->(r.ww u).cF[k]?=some (some e)
 | [],r,h=>h
 |p::ps,r,h=>by
  have h:(((if p.1.toNat<outs.length then r.put (outs.getD p.1.toNat 0) p.2 (some ev) else r).send outs ev ps).ww u).cF[k]?=some (some e):=h;have h:=Au ps h;split at h
  ·exact ki.mp h
  ·calc h
theorem Av{u k:Nat}{e:Int×Int}:∀(ps:List (Int×Int)) {r:RS},((r.k9 ps).ww u).cF[k]?=some (some e)->(r.ww u).cF[k]?=some (some e)
 | [],r,h=>h
 |p::ps,r,h=>ki.mp (Av ps h)
structure uP(nt:NT)(ls:List (Int×Int))(r:RS):Prop where
 ok:r.Ok nt
 iv:r.Iv nt
 pk:r.Pk nt
 ps:RS.Ps nt r
 pl:r=fb nt (RS.begin nt ls) r.picks
 T4:qO nt (RS.begin nt ls) r.picks
theorem uP.pick{nt:NT}(h:uP nt ls r)(d:nt.Ok){w k:Nat}(b:r.NV nt w k):uP nt ls (r.pick nt w k)/\(r.pick nt w k).picks=r.picks++[((w:Int),(k:Int))]:=by
 have a:=RS.Ok.pick d h.ok (k:=k) b.lt;exact⟨⟨a.1,h.iv.pick d b.lt b.lies,h.pk.pick h.iv b.lies,λu j m c f e=>by
  rcases(iF b.lies).mp (Au _ e) with⟨_,_,z⟩|e
  ·cases z;have:=h.ok.xH (d.il b.lt);lia
  ·calc h.ps u j m c f e,by rw[a.2,gA,<-h.pl],by rw[a.2];calc Gg h.T4 (by rw[<-h.pl];calc b)⟩,a.2⟩
theorem uP.begin{nt:NT}(d:nt.Ok){ls:List (Int×Int)}(h:ls.length<=20):uP nt ls (RS.begin nt ls):=by
 obtain⟨a,b⟩:=pU d h;exact⟨a,RS.Iv.begin,RS.Pk.zero RS.Iv.begin b,λu j m c f e=>by
  have:=Av ls (r:=RS.new nt) e;simp[RS.new] at this,by rw[b];rfl,by rw[b];calc KO⟩
abbrev qP:Stmt:=top 79
inductive KR(vs:List V)(H:Hp)(Q:VK):Prop
 |mk (F:Addr->Prop) (tn:V) (nt:NT) (ls:List (Int×Int)) (l:Addr) (xs:List Int) (h0:vs=[tn,.ref l]) (h1:ToldN (jZ F H) tn nt.ms nt.ws ls) (h2:FS F H) (h3:nt.Ok) (h4:ls.length<=20) (h5:∀l∈ls,0<=l.1/\l.1<nt.ws.length) (h7:H l=some (.lst (xs.map V.int))) (h8:xs.length<=40) (q:∀d ad r H',av H H'->(∀b,FP nt.n ad b->H b=none)->H d=none->bV F H' d tn nt r ad->uP nt ls r->r.picks.length<=40->Q (.ref d) H'):KR vs H Q
def En:Sp:=λvs H Q _=>KR vs H Q
theorem Gi(D:cw K mg "_law_ran" "_law_ran" qP ["_law_net_here","_law_cells"])(T:Tx K mg C CN CR F FD)(fL:Def P w K mg base "_law_begun" 1 ["_law_net_here"] yo)(oM:Def P w K mg base "_law_free" 2 ["_law_run"] Kr)(gB:Def P w K mg base "_law_pick" 3 ["_law_run","_law_way","_law_number"] yn):Def P w K mg base "_law_ran" 4 ["_law_net_here","_law_cells"] En:=by
 have sc:aD ["_law_net_here","_law_cells","_law_run","_law_cell","_law_free_here","_law_way","_law_number"] ["_law_net_here","_law_cells"] (az qP):=by walk_at "s"
 symm;obtain⟨F,m,a,ls,l,M,rfl,Ox,N,o,u,nE,v,O,q⟩:=h;have G:=hr.units;refine⟨_,(ag (aZ (i:=2) sc.nd rfl Sort (aI fL hr (af (au 0) aa)))
  (ag (dC PassesOwn.never rfl (bI (pv 1)) (aR (i:=3) sc.nd rfl Sort)
  (ag (aZ (i:=4) sc.nd rfl Sort (aI oM hr (af (au 2) aa)))
  (aj (aU (aC (ip G) (au 4) (bx aa) (aG _)) (ag (dy (ao G (au 4) (bc ft (au 3) (aX aN rfl T.bO S' (af (au 4) aa)))) (dW (i:=5) (j:=6) rfl sc.nd rfl rfl Sort Sort))
  (aj (bN (aI gB hr (af (au 2) (af (au 5) (af (au 6) aa))))))) aK))))
  (aj (aH (au 2))))),?_⟩
 walk_at "xg";right;refine⟨F,m,a,ls,rfl,Ox,N,o,u,nE,λd ad H1 R S fd uQ=>?_⟩;refine L2.bz h1 ?_;clear h1;have U:=uP.begin o u;have uo:=R _ _ v;have nl:¬FP a.n ad l:=λz=>by rw[S _ z]at v;cases v
 right;refine⟨_,rfl,.inl ⟨⟨_,aO.of uo⟩,d9 (K:=K) (xs:=M.map V.int) (λi σ H'=>(∃W X Y Z,σ=[some m,some (V.ref l),some (V.ref d),W,X,Y,Z])/\Fr (FP a.n ad) H1 H'/\∃r,bV F H' d m a r ad/\uP a ls r/\r.picks.length<=i) ?_ ?_ ?_ ?_⟩⟩
 ·exact⟨⟨_,_,_,_,rfl⟩,Fr.refl,_,uQ,U,by rw[(pU o u).2];calc F' _⟩
 ·rintro i σ H' l ⟨_,c,_⟩;exact aO.of (c.at uo nl)
 ·intro i z σ H' hz fO;nofun;obtain⟨⟨W,X,Y,Z,rfl⟩,c,r,x,g,p6⟩:=fO;have l:i<40:=by
   have:=(List.getElem?_eq_some_iff.mp hz).1;rw[M']at this;lia
  rw[A']at hz;obtain⟨I,_,rfl⟩:=Option.map_eq_some_iff.mp hz;ac_rfl;right;calc⟨F,d,m,a,r,ad,rfl,x,g.ok,(),λv ys H2 s2 i l u=>?_⟩;right;calc⟨aaj _,λp i=>?_⟩;have J:=av.new (.lst []) i;have L:=J _ _ l;have Zx:=u.aJ J.aP;have t:upd H2 p (.lst []) p=some (.lst []):=ab;have y:=(x.same s2).same J;have jw:=s2.trans J;generalize hGp:upd H2 p (.lst [])=Gp at *;by_cases hy:ys=[]
  ·subst hy;calc .inl ⟨.inr ⟨_,_,[],[],rfl,rfl,.inr ⟨aO.of L,aO.of t⟩,rfl,λj u v G=>by simp at G⟩,?_⟩;rw[if_neg ∅];right;exact⟨⟨_,_,_,_,rfl,rfl,rfl,rfl⟩,c.trans jw.fr,r,y,g,()⟩
  calc .inr ⟨⟨ys,[],λh=>hy (List.length_eq_zero_iff.mp h),.inl ⟨aO.of L,aO.of t⟩⟩,?_⟩;rw[if_pos trivial];right;have i:0<ys.length:=List.length_pos_iff.mpr hy;nofun;obtain⟨k,afn⟩:∃k:Nat,I%(ys.length:Int)=k:=⟨(I%(ys.length:Int)).toNat,by have:=aa6 I (show(ys.length:Int)≠0 by lia);lia⟩
  have BS:k<ys.length:=by have:=aaQ I (show(0:Int)<ys.length by lia);lia
  have i:ys.length=(k7 a r a.ws.length).length:=by simpa using Zx.1
  have B:k<(k7 a r a.ws.length).length:=by lia
  have hel:=Zx.2 k ys[k] _ (cD BS) (by rw[A',cD B];rfl);have y6:=aaw B;generalize (k7 a r a.ws.length)[k]=pr at *;obtain⟨v,i⟩:=pr;have u:=Kq g.ok y6;obtain⟨l,k,B⟩:=mi hel;ac_rfl;calc⟨_,.inl ⟨_,aO.of L,rfl⟩,(),_,_,.inl (aO.of L),by rw[afn];calc aA (cD BS),?_⟩;rw[k];calc rF (bF.of B) ?_;right;calc⟨F,d,m,a,r,ad,v,i,rfl,y,N.fr (R.fr.trans (c.trans jw.fr)) x.cH.uB,g.ok,u,(),λt I G l _=>?_⟩;obtain⟨a,i⟩:=g.pick o u;exact⟨⟨_,_,_,_,rfl,rfl,rfl,rfl⟩,(c.trans jw.fr).trans G,_,l,a,by rw[i];simp;lia⟩
 ·intro σ H' fP;obtain⟨⟨W,X,Y,Z,rfl⟩,c,r,x,g,p6⟩:=fP;right;rw[M']at p6;calc q d ad r H' (λb o e=>c.at (R _ _ e) λz=>by rw[S _ z]at e;cases e) S fd x g ()
theorem bV.wk2{F:Addr->Prop}{d:Addr}{c:V}{nt:NT}(h:bV F H d c nt r ad){w:Nat}(g:w<nt.ws.length)(k:Nat):∃f b,H (ad 6 w)=some (.dK f)/\jj H (ad 6 w) (.int (k:Nat)) b/\((r.ww w).cF.getD k none=none->b=none)/\∀e,(r.ww w).cF.getD k none=some e->∃a,b=some (.ref a)/\H a=some (.tup [.int e.1,.int e.2]):=by
 obtain⟨c,f,j⟩:=h.cH.dct (t:=6) (i:=w) g rfl;have b:=j.2 (k:Int);have g:i8 (r.ww w).cF (k:Int)=((r.ww w).cF.getD k none).map pairD:=by unfold i8;rw[if_pos (),aao]
 rw[g]at b;refine⟨c,gi c (.inl (k:Int)),f,jj.k (k:=.inl (k:Int)) f,λz=>?_,λe z=>?_⟩
 ·rw[z]at b;exact b
 ·rw[z] at b;obtain⟨v,l,m⟩:=(show ∃v,gi c (.inl (k:Int))=some v/\HD _ 4 v (pairD e) from b)
  obtain⟨a,rfl,b⟩:=pS (e:=e) (m.cv dD);calc⟨a,l,b⟩
theorem Oz{xs ys:List (Nat×Nat)}:eX r cut (xs++ys)=eX r cut xs++eX r cut ys:=by
 unfold eX r6;rw[aaR,aaR]
theorem OA{r:RS}{cut:List Int}{p:Nat×Nat}:eX r cut [p]=if ((wJ r p).isSome&&ku r cut p)=true then[p] else[]:=by
 unfold eX r6;rw[List.filter_cons,List.filter_nil]
 cases(wJ r p).isSome with
 |true=>rw[if_pos rfl,List.filter_cons,List.filter_nil,Bool.true_and]
 |false=>rw[if_neg ∅,List.filter_nil,Bool.false_and,if_neg ∅]
theorem T5{nt:NT}(a:r.Iv nt){w:Nat}(b:w<nt.ws.length):(iG r w (r.ww w).cF.length).length<=r.picks.length:=by
 rw[zw,<-a.cnt];have:=zl (r:=r) (W:=nt.ws.length) (V:=w+1) b;rw[uf]at this;lia
theorem Gj{K:W.Frag}{xs:List V}{c:List DV}(j:H a=some (.lst xs))(k:H b=some (.lst ys))(d:eO H 1 xs c)(e:eO H 1 ys c):j5 K H 20 (.ref a) (.ref b):=by
 calc .inr ⟨_,_,_,_,rfl,rfl,.inr ⟨aO.of j,aO.of k⟩,d.1.trans e.1.symm,λi u v g l=>?_⟩;have j:i<c.length:=by rw[<-d.1];exact(List.getElem?_eq_some_iff.mp g).1
 calc Nl (d.2 i u _ g (cD j)) (e.2 i v _ l (cD j)) ∅
theorem uR{m:Int}(a:0<=m)(b:m<(cut.length:Nat)):ia (cut.map V.int) m=some (.int (cut.getD m.toNat 0)):=by
 have:=aA (xs:=cut.map V.int) (j:=m.toNat) (v:=.int (cut.getD m.toNat 0)) (by rw[A',aS (d:=0) ()];rfl);rw[show((m.toNat:Nat):Int)=m by lia]at this;calc this
abbrev jI:Stmt:=top 80
inductive KS(vs:List V)(H:Hp)(Q:VK):Prop
 |mk (F:Addr->Prop) (d:Addr) (tn:V) (nt:NT) (r:RS) (ad:Nat->Nat->Addr) (t:Addr) (cut:List Int) (h0:vs=[.ref d,.ref t]) (h1:bV F H d tn nt r ad) (h2:r.Ok nt) (h3:r.Iv nt) (h4:r.picks.length<=40) (h5:CutAt H t cut) (h6:cut.length=nt.ms.length) (q:∀l zs H',av H H'->H' l=some (.lst zs)->eO H' 1 zs ((eX r cut (dw r nt.ws.length)).map λp=>pairD (pI p))->Q (.ref l) H'):KS vs H Q
def Eo:Sp:=λvs H Q _=>KS vs H Q
theorem vH(D:cw K mg "_law_orphans" "_law_orphans" jI ["_law_run","_law_cut"])(T:Tx K mg C CN CR F FD):Def P w K mg base "_law_orphans" 1 ["_law_run","_law_cut"] Eo:=by
 have sc:aD ["_law_run","_law_cut","_law_some","_law_way","_law_number","_law_m","_law_c","_law_sender"] ["_law_run","_law_cut"] (az jI):=by walk_at "s"
 symm;obtain⟨F,d,g,nt,r,ad,t,cut,rfl,R,cm,hI,i9,ht,hC,q⟩:=h;have g:=hr.units;have FA:=lt1 g;refine⟨_,(ag (aZ (i:=2) sc.nd rfl Sort (bx aa))
  (ag (dC PassesOwn.never rfl (cy rfl T.dG (af (aX aN rfl T.bO S' (af (ao g (au 0) aE) aa)) aa)) (aR (i:=3) sc.nd rfl Sort)
  (aj (dC PassesOwn.never rfl (bI (aX (wg rfl) rfl T.ui PyProof.Rows.boot_sorted (af (ao g (ao g (au 0) aE) (au 3)) aa))) (aR (i:=4) sc.nd rfl Sort)
  (ag (dy (MT FA (ao g (ao g (au 0) aE) (au 3)) (au 4) (y9 rfl)) (dW (i:=5) (j:=6) rfl sc.nd rfl rfl Sort Sort))
  (ag (aZ (i:=7) sc.nd rfl Sort (ao g (ao g (ao g (au 0) aE) (au 3)) (au 4)))
  (aj (aU (PW.pt (pw_and (aC tM (au 6) (ao g (au 1) (au 5)) (aG _)) (pw_and (aC nh (au 7) gm (aG _)) (pw_and1 (aC lO (ao g (au 7) ai) (ao g (au 1) (ao g (au 7) ai)) (aG _)))))) (aj (bN (dB o7 rB rC bW (au 2) (af (bG (af (au 3) (af (au 4) aa))) aa)))) aK)))))))
  (aj (aH (au 2))))),?_⟩
 obtain⟨T,hd,nF,nP,g⟩:=R.dk;have l4:=(g 4 ∅ ∅).1;have l5:=(g 5 ∅ ∅).1;have l6:=(g 6 ∅ ∅).1;have T:=R.ok;have g:=T.Fo;have g:=hC;right;calc⟨aaj _,λl qm=>?_⟩;have s1:=av.new (.lst []) qm;have Tr:upd H l (.lst []) l=some (.lst []):=ab;generalize hG1:upd H l (.lst [])=G1 at *;right;calc⟨_,Kl (s1 _ _ hd),_,.inl ⟨_,aO.of (s1 _ _ l4),rfl⟩,?_⟩;rw[l9,show nt.n 4=nt.ws.length from rfl];refine⟨_,rfl,(),(),iu (n:=nt.ws.length) (λi σ H'=>(∃z3 z B I J,σ=[some (V.ref d),some (V.ref t),some (V.ref l),z3,z,B,I,J])/\av H H'/\∃ys:List V,H' l=some (.lst ys)/\ys.length<=40*i/\eO H' 1 ys ((eX r cut (dw r i)).map λp=>pairD (pI p))) ?_ ?_ ?_⟩
 ·exact⟨⟨_,_,_,_,_,rfl⟩,s1,[],Tr,aaj _,eO.nil⟩
 ·intro i σ H' u fO;obtain⟨⟨z3,z,B,I,J,rfl⟩,L,ys,v,U,x⟩:=fO;rw[Int.zero_add];have g:=cm.ls i u;have Vp:=cm.lk i u;have g:=T5 hI u;nofun;obtain⟨Ol,e6,d6⟩:=(R.same L).cH.dct (t:=6) (i:=i) u rfl;obtain⟨g,Mp,WZ⟩:=Jf d6;ac_rfl;have BS:g.length<=r.picks.length:=by have:=WZ.length_eq;rw[M'] at this;lia
  calc⟨_,Oi (L _ _ hd),bC (L _ _ l6) (bo u) ⟨ad 6 i,rfl,.inr (.inl ⟨Ol,g,e6,Mp,(),λlk ns Vp NA Yp=>?_⟩)⟩⟩;obtain rfl:=zx (NA.trans WZ) Yp;have s2:=av.new (.lst (((iG r i (r.ww i).cF.length).map λk:Nat=>(k:Int)).map V.int)) Vp;have o:upd H' lk (.lst (((iG r i (r.ww i).cF.length).map λk:Nat=>(k:Int)).map V.int)) lk=some (.lst (((iG r i (r.ww i).cF.length).map λk:Nat=>(k:Int)).map V.int)):=ab;have nlk:lk≠l:=Ne.symm (aq v Vp);have Zy:=s2 _ _ v;have zY:=x.aJ s2.aP;have W:=L.trans s2;generalize Jy:upd H' lk (.lst (((iG r i (r.ww i).cF.length).map λk:Nat=>(k:Int)).map V.int))=G2 at *;clear Jy s2 NA Yp WZ Mp BS d6 e6 v x Vp L;refine .inl ⟨⟨_,aO.of o⟩,d9 (K:=K) (xs:=((iG r i (r.ww i).cF.length).map λk:Nat=>(k:Int)).map V.int) (λk σ G=>(∃z B I J,σ=[some (V.ref d),some (V.ref t),some (V.ref l),some (V.int i),z,B,I,J])/\av H G/\G lk=some (.lst (((iG r i (r.ww i).cF.length).map λk:Nat=>(k:Int)).map V.int))/\∃ys,G l=some (.lst ys)/\ys.length<=40*i+k/\eO G 1 ys ((eX r cut (dw r i++((iG r i (r.ww i).cF.length).take k).map λk=>(i,k))).map λp=>pairD (pI p))) ?_ ?_ ?_ ?_⟩
  ·calc⟨⟨_,_,_,_,rfl⟩,W,o,ys,Zy,U,?_⟩;rw[List.take_zero,List.map_nil,aam];exact zY
  ·rintro k σ G g ⟨_,_,e,_⟩;exact aO.of e
  ·intro k xx σ G hx fP;nofun;obtain⟨⟨z,B,I,J,rfl⟩,y,M,ys,v,U,x⟩:=fP;clear Zy zY W o;rw[List.map_map,A'] at hx;obtain⟨c,N,Xr⟩:=Option.map_eq_some_iff.mp hx;have Xr:xx=V.int (c:Nat):=Xr.symm;subst Xr;have g:=(List.getElem?_eq_some_iff.mp N).1;obtain⟨o,e,g⟩:=pM.mp (aan N);obtain⟨Ol,W,g1,o,g3,T⟩:=(R.same y).wk2 u c;have X:(r.ww i).cF.getD c none=some e:=by rw[L',g];rfl
   obtain⟨aw,ea,lD⟩:=T e X;obtain⟨m0,W,_⟩:=hI.ev i c e.1 e.2 u g;ac_rfl;rw[ea]at o;right;calc⟨_,Oi (y _ _ hd),bC (y _ _ l6) (bo u) ⟨ad 6 i,_,rfl,o,aw,_,rfl,bF.of lD,rfl,_,_,rfl,_,_,rfl,rfl,?_⟩⟩;nofun;obtain⟨v5,W,d5⟩:=(R.same y).cH.lst (t:=5) (i:=i) u rfl;obtain⟨Y,R,g⟩:=d5.get (i:=c) (d:=nj ((r.ww i).snd.getD c none)) (by rw[A',aS (d:=none) ()];rfl);ac_rfl;have JQ:=DZ (g.cv dD);calc L2.kd λN2 h2=>?_;right;calc bD _ (Km (y _ _ hd)) ?_;right;calc bC (y _ _ l5) (bo u) ?_;calc bC W (aA R) ?_;calc L2.bz h2 ?_;clear h2;have O:eX r cut (dw r i++((iG r i (r.ww i).cF.length).take (k+1)).map λk=>(i,k))=eX r cut (dw r i++((iG r i (r.ww i).cF.length).take k).map λk=>(i,k))++if ((wJ r (i,c)).isSome&&ku r cut (i,c))=true then[(i,c)] else[]:=by
    rw[aaH,N,<-OA,<-Oz,U',List.append_assoc];rfl
   have Z:=ht.same y;clear g1 o g3 T d5 g W;calc L2.jb λk U0 uQ wQ=>?_;have yes:((wJ r (i,c)).isSome&&ku r cut (i,c))=true->k [some (V.ref d),some (V.ref t),some (V.ref l),some (V.int i),some (V.int c),some (V.int e.1),some (V.int e.2),some Y] G:=λS=>by
    calc L2.bz uQ ?_;right;calc gp (.inl ⟨rfl,_,aO.of v⟩) cM (λtp g=>?_);have u1:=av.new (.tup [.int (i:Nat),.int (c:Nat)]) g;have Vm:upd G tp (.tup [.int (i:Nat),.int (c:Nat)]) tp=some (.tup [.int (i:Nat),.int (c:Nat)]):=ab;have Zz:=u1 _ _ v;have KU:=x.aJ u1.aP;have aft:=u1 _ _ M;have sG1:=y.trans u1;generalize hG1:upd G tp (.tup [.int (i:Nat),.int (c:Nat)])=G1 at *;have st:bX G1 (upd G1 l (.lst (ys++[.ref tp]))):=(bX.refl _).upd λg e=>by rw[Zz]at e;cases e
    calc⟨_,Zz,aB (),⟨_,_,_,_,rfl,rfl,rfl,rfl⟩,λb o e=>by rw[ay (aq e qm)];calc sG1 _ _ e,by rw[ay nlk];calc aft,_,ab,by simp;lia,?_⟩;rw[O,if_pos S,U'];exact(KU.snoc (cV (n:=0) Vm (.int _) (.int _))).aJ st
   have no:((wJ r (i,c)).isSome&&ku r cut (i,c))=false->U0 [some (V.ref d),some (V.ref t),some (V.ref l),some (V.int i),some (V.int c),some (V.int e.1),some (V.int e.2),some Y] G:=λS=>by
    calc L2.bz wQ ?_;calc⟨⟨_,_,_,_,rfl⟩,y,M,ys,v,(),?_⟩;rw[O,S,if_neg ∅,aam];exact x
   clear uQ wQ O;have g:ku r cut (i,c)=(decide (e.2<=cut.getD e.1.toNat 0) && !vC (wJ r (i,c)) cut):=by
    unfold ku;rw[show J6 r (i,c)=some e from X];rfl
   rw[g]at yes no;right;calc Ts Z (uR m0 ()) ?_;right
   cases AS:decide (e.2<=cut.getD e.1.toNat 0) with
   |false=>
    rw[if_neg ∅]
    try rw[if_neg ∅]
    calc no (by rw[AS];simp)
   |true=>
    rw[if_pos ∅]
    cases ZC:(r.ww i).snd.getD c none with
    |none=>
     rw[ZC]at JQ;have:Y=.bL:=by cases(show HT G 1 Y .bL from JQ);rfl
     subst this;right;rw[if_neg ∅]
     try rw[if_neg ∅]
     calc no (by rw[show wJ r (i,c)=none from ZC];rfl)
    |some m=>
     nofun;obtain⟨a,rfl,g⟩:=mi (show HT G 1 Y (pairD m) from by rw[ZC]at JQ;calc JQ);obtain⟨k,o,_⟩:=cm.sd i u m.1 m.2 (by rw[show(some (m.1,m.2):Option (Int×Int))=(r.ww i).snd.getD c none from ZC.symm];calc getD_mem ());ac_rfl;right;rw[if_pos nofun];calc dJ g (aA (j:=1) rfl) ?_;calc dJ g (aA (j:=0) rfl) ?_;calc Ts Z (uR k ()) ?_;right;have hz:((wJ r (i,c)).isSome&&(decide (e.2<=cut.getD e.1.toNat 0) && !vC (wJ r (i,c)) cut))=decide (cut.getD m.1.toNat 0<m.2):=by
      rw[show wJ r (i,c)=some m from ZC,AS];show(!decide (m.2<=cut.getD m.1.toNat 0))=_;rw[<-decide_not];exact decide_eq_decide.mpr ()
     cases S:decide (cut.getD m.1.toNat 0<m.2) with
     |true=>
      rw[if_pos rfl];calc yes (hz.trans S)
     |false=>
      rw[if_neg ∅];exact no (hz.trans S)
  ·intro σ G lg;obtain⟨⟨z,B,I,J,rfl⟩,y,M,ys,v,U,x⟩:=lg;simp only[List.length_map]at U x;rw[aat,<-ql]at x;exact⟨⟨_,_,_,_,_,rfl⟩,y,ys,v,(),x⟩
 ·intro σ H' pN;obtain⟨⟨z3,z,B,I,J,rfl⟩,L,ys,v,U,x⟩:=pN;right;calc q l ys H' L v x
theorem KW(h:ns≠[]):ia (ns.map V.int) (-1)=some (.int (ns.bf 0)):=by
 have a:1<=ns.length:=List.length_pos_iff.mpr h;calc nk (by rw[M'];calc a) ?_;rw[M',A',lR (d:=0) a];rfl
theorem OB{K:W.Frag}{R:VK}{nt:NT}{PT:List (List Int)}(p:ie H a PT)(k:eZ nt r PT)(x:nt.ms.length<=5)(m:H D=none)(q:∀H',av H H'->H' D=some (.lst ((PT.map λc=>c.bf 0).map V.int))->R (.ref D) H'):ni [none] (rD K a) (dE 0) fq (AK (LW K) (tV 0) (tUn (rU λi=>V.int (-i)) (tC (V.int 1)))) σ H R D IC.mk:=by
 obtain⟨as,h,x,s⟩:=p;have x:=k.len;refine aV (J:=rD K a) (n:=nt.ms.length) (λi ys H'=>av H H'/\ys=((PT.map λc=>c.bf 0).take i).map V.int) (J' (aB ())) ⟨av.new _ m,rfl⟩ ?_ ?_ ?_ ?_
 ·rintro i ys H' j ⟨f,_⟩;exact⟨_,_,aO.of (f _ _ h),by rw[A',cD ()];rfl⟩
 ·rintro ys H' ⟨f,_⟩;exact⟨_,aO.of (f _ _ h),by simp;lia⟩
 ·intro i ys H' j g t u z A v;obtain⟨f,rfl⟩:=u;obtain⟨rfl,y⟩:=v;have o:=y _ (aO.of (f _ _ h));rw[A'] at o;obtain⟨b,w,rfl⟩:=Option.map_eq_some_iff.mp o;walk_at "xf";right
  try rw[if_pos trivial]
  calc bC (f _ _ (s i b w)) (KW (k.ne i j)) ?_;calc bJ g t j (J' (aB ())) ⟨λc o e=>by rw[ay (aq e m)];calc f _ _ e,?_⟩;rw[aaH,A',aS (l:=PT) (d:=[]) (),U'];rfl
 rintro ys B g C ⟨f,rfl⟩;rw[aaG (by simp;lia)]at g;calc q _ f g
abbrev VB:=Int×Int×Int×(Nat×Nat)
def sW(r:RS)(p:Nat×Nat):Int×Int:=(J6 r p).getD (0,0)
def gC(PT:List (List Int))(e:Int×Int):Int:=(Jh ((PT.getD e.1.toNat []).filter λq=>decide (q<e.2))).getD 0
def nK(r:RS)(W:Nat)(PT:List (List Int))(cut:List Int):Option VB:=match eX r cut (dw r W) with
 | []=>none
 |p::_=>some ((sW r p).1,cut.getD (sW r p).1.toNat 0,gC PT (sW r p),p)
def ZD(cut:List Int)(f:VB):List Int:=cut.set f.1.toNat f.2.2.1
def kF(r:RS)(W:Nat)(PT:List (List Int)):Nat->List Int×List VB
 |0=>(PT.map λc=>c.bf 0,[])
 |n+1=>match nK r W PT (kF r W PT n).1 with
  |none=>kF r W PT n
  |some f=>(ZD (kF r W PT n).1 f,(kF r W PT n).2++[f])
theorem uS{r:RS}{W:Nat}{PT:List (List Int)}{n:Nat}(h:nK r W PT (kF r W PT n).1=none):∀k,kF r W PT (n+k)=kF r W PT n
 |0=>rfl
 |k+1=>by
  have a:=uS h k;show(match nK r W PT (kF r W PT (n+k)).1 with|none=>kF r W PT (n+k)|some f=>_)=_;rw[a,h]
theorem KY:∀(l:List Int) (b:Int),l.foldl zy b=b\/l.foldl zy b∈l
 | [],b=>.inl rfl
 |a::l,b=>by
  rw[List.foldl_cons];rcases KY l (zy b a) with h|h
  ·rw[h];unfold zy;split
   ·exact .inr aaa
   ·exact .inl rfl
  ·calc .inr (aai _ h)
theorem OC{l:List Int}(h:l≠[]):∃z,Jh l=some z/\z∈l:=by
 cases l with
 |nil=>calc absurd rfl h
 |cons b l=>
  calc bD _ rfl ?_;rcases KY l b with e|e
  ·rw[e];exact aaa
  ·calc aai _ e
structure lA(nt:NT)(PT:List (List Int))(cut:List Int):Prop where
 len:cut.length=nt.ms.length
 mem:∀m,m<nt.ms.length->cut.getD m 0∈PT.getD m []
structure ZE(nt:NT)(PT:List (List Int))(r:RS)(cut:List Int)(p:Nat×Nat)(e:Int×Int):Prop where
 hw:p.1<nt.ws.length
 hk:p.2<(r.ww p.1).say.length
 wk:J6 r p=some e
 m0:0<=e.1
 m1:e.1<nt.ms.length
 lo:Jh ((PT.getD e.1.toNat []).filter λq=>decide (q<e.2))=some (gC PT e)
 lm:gC PT e∈PT.getD e.1.toNat []
 l0:0<=gC PT e
 ll:gC PT e<cut.getD e.1.toNat 0
theorem Cw{nt:NT}{PT:List (List Int)}{p:Nat×Nat}{ps:List (Nat×Nat)}(i:r.Ok nt)(f:r.Iv nt)(g:RS.Ps nt r)(j:eZ nt r PT)(k:∀m,m<nt.ms.length->(0:Int)∈PT.getD m [])(h:eX r cut (dw r nt.ws.length)=p::ps):ZE nt PT r cut p (sW r p):=by
 have a:p∈eX r cut (dw r nt.ws.length):=by rw[h];exact aaa
 unfold eX r6 at a;rw[aaY,aaY]at a;obtain⟨b,e,c⟩:=gb.mp a.1.1;have h:p.2<(r.ww p.1).cF.length:=(List.getElem?_eq_some_iff.mp c).1;have d:J6 r p=some e:=by unfold J6;rw[L',c];rfl
 have l:sW r p=e:=by unfold sW;rw[d];rfl
 obtain⟨n,o,_⟩:=f.ev p.1 p.2 e.1 e.2 b c;have q:=g p.1 p.2 e.1 e.2 b c;have f:=a.2;unfold ku at f;rw[d,aa1]at f;have c:e.2<=cut.getD e.1.toNat 0:=aav f.1;rw[l];have g:(PT.getD e.1.toNat []).filter (λq=>decide (q<e.2))≠[]:=List.ne_nil_of_mem (List.mem_filter.mpr ⟨k e.1.toNat (),aar ()⟩);obtain⟨z,c,l⟩:=OC g;have a:gC PT e=z:=by unfold gC;rw[c];rfl
 obtain⟨f,g⟩:=List.mem_filter.mp l;have g:=aav g;calc⟨b,by rw[i.lk _ b];calc h,d,n,o,by rw[a];calc c,by rw[a];calc f,by rw[a];calc(j.bd e.1.toNat () z f).1,by rw[a];lia⟩
theorem lA.next{nt:NT}{PT:List (List Int)}(h:lA nt PT cut){m:Nat}{z:Int}(b:m<nt.ms.length)(a:z∈PT.getD m []):lA nt PT (cut.set m z):=by
 calc⟨by rw[List.length_set];calc h.len,λj b=>?_⟩;have c:=h.len;have c:(cut.set m z).getD j 0=((cut.set m z)[j]?).getD 0:=L';rw[c,List.getElem?_set];by_cases e:m=j
 ·rw[if_pos e,if_pos (),<-e];exact a
 ·rw[if_neg e];have:=h.mem j b;rwa [L' (l:=cut)]at this
def KZ(cut:List Int):Nat:=(cut.map Int.toNat).sum
theorem K0:∀{cut:List Int}{m:Nat}{z:Int},m<cut.length->0<=z->z<cut.getD m 0->KZ (cut.set m z)<KZ cut
 |c::cut,0,z,_,a,h=>by
  have h:z<c:=h;simp only[KZ,List.set_cons_zero,List.map_cons,List.sum_cons];lia
 |c::cut,m+1,z,b,a,h=>by
  have:=K0 (cut:=cut) (m:=m) (z:=z) (by simpa using b) a h;simp only[KZ,List.set_cons_succ,List.map_cons,List.sum_cons]at *;lia
theorem Ep{nt:NT}{PT:List (List Int)}(a:eZ nt r PT):lA nt PT (PT.map λc=>c.bf 0):=by
 calc⟨by rw[M'];calc a.len,λm b=>?_⟩;have e:(PT.map λc=>c.bf 0).getD m 0=(PT.getD m []).bf 0:=by
  rw[L',A',L',cD (by rw[a.len];calc b)];rfl
 rw[e];calc fH (List.length_pos_iff.mpr (a.ne m b))
theorem K1{B:Nat}:∀{cut:List Int},(∀c∈cut,c<=B)->KZ cut<=cut.length*B
 | [],_=>aaj _
 |c::cut,h=>by
  have:=K1 (cut:=cut) λd a=>h d (aai _ a);have:=h c aaa;simp only[KZ,List.map_cons,List.sum_cons,List.length_cons,Nat.succ_mul]at *;lia
theorem lA.mu{nt:NT}{PT:List (List Int)}(h:lA nt PT cut)(f:eZ nt r PT)(g:r.Ok nt)(d:r.picks.length<=40)(i:nt.ms.length<=5):KZ cut<=200:=by
 have d:=h.len;have:=K1 (B:=40) (cut:=cut) λc j=>by
  obtain⟨i,d⟩:=List.mem_iff_getElem?.mp j;have k:=(List.getElem?_eq_some_iff.mp d).1;have e:cut.getD i 0=c:=by rw[L',d];rfl
  have a:=f.bd i () _ (h.mem i ());have b:=g.bp i ();lia
 have:cut.length*40<=5*40:=Nat.mul_le_mul_right _ ();lia
def T6(f:VB):DV:=.tup [.int f.1,.int f.2.1,.int f.2.2.1,pairD (pI f.2.2.2)]
inductive T7(H:Hp)(x a lp D lf:Addr)(yp:List V)(nt:NT)(r:RS)(PT:List (List Int))(μ:Nat)(σ:St)(H':Hp):Prop
 |mk (n:Nat) (lo:Addr) (zo fv:List V) (z6 z7 z8 z9 DT:Option V) (e:σ=[some (V.ref x),some (V.ref a),some (V.ref lp),some (V.ref D),some (V.ref lf),some (V.ref lo),z6,z7,z8,z9,DT]) (s:av H H') (h1:H' lp=some (.lst yp)) (h2:eO H' 2 yp ((r6 r (dw r nt.ws.length)).map (J7 r))) (h3:H' D=some (.lst ((kF r nt.ws.length PT n).1.map V.int))) (h4:H' lf=some (.lst fv)) (h5:fv.length<=n) (h6:n+KZ (kF r nt.ws.length PT n).1<=300) (h7:eO H' 2 fv ((kF r nt.ws.length PT n).2.map T6)) (h8:lo≠D/\lo≠lf) (h9:H' lo=some (.lst zo)) (L8:eO H' 1 zo ((eX r (kF r nt.ws.length PT n).1 (dw r nt.ws.length)).map λp=>pairD (pI p))) (h11:lA nt PT (kF r nt.ws.length PT n).1) (h12:KZ (kF r nt.ws.length PT n).1<=μ):T7 H x a lp D lf yp nt r PT μ σ H'
abbrev jJ:Stmt:=top 27
inductive K2(C CN CR:Addr)(vs:List V)(H:Hp)(Q:VK):Prop
 |mk (F:Addr->Prop) (x bg:Addr) (nt:NT) (r:RS) (ad:Nat->Nat->Addr) (a:Addr) (PT:List (List Int)) (h0:vs=[.ref x,.ref a]) (h1:bU C CN CR F H x bg nt r ad) (h2:r.Ok nt) (h3:r.Iv nt) (h4:r.Pk nt) (h5:RS.Ps nt r) (h6:r.picks.length<=40) (h7:ie H a PT) (h8:eZ nt r PT) (h9:∀m,m<nt.ms.length->(0:Int)∈PT.getD m []) (q:∀t ct fl fv n H',av H H'->H' t=some (.tup [.ref ct,.ref fl])->H' ct=some (.tup ((kF r nt.ws.length PT n).1.map V.int))->H fl=none->H' fl=some (.lst fv)->eO H' 2 fv ((kF r nt.ws.length PT n).2.map T6)->nK r nt.ws.length PT (kF r nt.ws.length PT n).1=none->Q (.ref t) H'):K2 C CN CR vs H Q
def Er(C CN CR:Addr):Sp:=λvs H Q _=>K2 C CN CR vs H Q
theorem vI(D:cw K mg "latest_line" "latest_line" jJ ["run","points"])(T:Tx K mg C CN CR F FD)(de:Def P w K mg base "letters_passed" 6 ["run"] (yb C CN CR))(eE:Def P w K mg base "need_points" 5 ["run","points"] (Cn C CN CR))(cQ:Def P w K mg base "orphans_among" 2 ["passed","cut"] yd)(jK:Def P w K mg base "point_ahead" 1 ["counts","c"] Ke)(dA:cn P w K mg base CR "worked_by" 5 ["self","way","number"] (x6 C CN CR)):Def P w K mg base "latest_line" 7 ["run","points"] (Er C CN CR):=by
 have sc:aD ["run","points","passed","cut","falls","orphans","way","number","m","c","low"] ["run","points"] (az jJ):=by walk_at "s"
 symm;obtain⟨F,x,bg,g,r,ad,a,PT,rfl,hR,R,hI,hP,om,i9,r9,L,hz,q⟩:=h;have t:=hr.units;refine⟨_,(ag (bN (aI eE hr (af (au 0) (af (au 1) aa))))
  (ag (aZ (i:=2) sc.nd rfl Sort (aI de hr (af (au 0) aa)))
  (ag (ee (i:=3) sc.nd rfl Sort (N':=["counts"]) (ix:=[none]) (bI (pv 1)) (λ_ _ _ _=>(aR (i:=0) (show(["counts"]:List Str).Nodup by decide +kernel) rfl Sort)) kj (λ_ _ _ _=>(cj (K:=K) rfl t (au 0) (kY gR ai))))
  (ag (aZ (i:=4) sc.nd rfl Sort (bx aa))
  (ag (aZ (i:=5) sc.nd rfl Sort (aI cQ hr (af (au 2) (af (au 3) aa))))
  (ag (yP PassesOwn.never (xb (HL t) (pv 5) (bx aa) (aG _))
  (ag (dy (ao t (au 5) ai) (dW (i:=6) (j:=7) rfl sc.nd rfl rfl Sort Sort))
  (ag (dy (eS dA T.a0 hr (au 0) (af (au 6) (af (au 7) aa))) (dW (i:=8) (j:=9) rfl sc.nd rfl rfl Sort Sort))
  (ag (aZ (i:=10) sc.nd rfl Sort (aI jK hr (af (ao t (au 1) (au 8)) (af (au 9) aa))))
  (ag (aU (aC tO (au 10) gm (aG _)) (aj cq) aK)
  (ag (bN (dB o7 rB rC bW (au 4) (af (bG (af (au 8) (af (ao t (au 3) (au 8)) (af (au 10) (af (ao t (au 5) ai) aa))))) aa)))
  (ag (dy (au 10) (iC (au 3) (au 8) dH))
  (aj (aZ (i:=5) sc.nd rfl Sort (aI cQ hr (af (au 2) (af (au 3) aa))))))))))))
  (aj (aH (bG (af (cR cg rfl T.cf sC (af (au 3) aa)) (af (au 4) aa))))))))))),?_⟩
 nofun;obtain⟨dx,o,hx,T⟩:=hR.ins;have T:=uh hI hP;obtain⟨⟨ms,wv,lv,hf,nQ,xX,FU⟩,T⟩:=hR.FT;ac_rfl;have h5:=T.II;have p6:=L.len;walk_at "xg";right;refine⟨F,x,bg,g,r,ad,a,PT,rfl,hR,r9,L,R,i9,λH1 l=>?_⟩;refine L2.bz h1 ?_;clear h1;walk_at "xg";right;refine⟨F,x,bg,g,r,ad,rfl,hR.same l,R,hI,hP,i9,λM yp H2 s2 Vn u hyp=>?_⟩;refine L2.bz h1 ?_;clear h1;have jw:=l.trans s2;have T:H M=none:=l.free Vn;walk_at "xg";right;refine bt ?_;right;have T:=r9.same jw;obtain⟨as,p7,_⟩:=id T;refine .inl ⟨⟨_,aO.of p7⟩,λD hD=>OB T L h5 hD λH3 U aW=>?_⟩;refine L2.bz h1 ?_;clear h1;have lx:=jw.trans U;have hHD:H D=none:=jw.free hD;have T8:=U _ _ u;have ZF:=hyp.aJ U.aP;have Qo:D≠M:=Ne.symm (aq u hD);clear p7 T l s2 jw Vn u hyp;right;refine⟨aaj _,λd ZG=>?_⟩;have s4:=av.new (.lst []) ZG;have TJ:upd H3 d (.lst []) d=some (.lst []):=ab;have nfD:d≠D:=Ne.symm (aq aW ZG);have nfp:d≠M:=Ne.symm (aq T8 ZG);have ZH:H d=none:=lx.free ZG;have T9:=s4 _ _ T8;have Ua:=ZF.aJ s4.aP;have F0:=s4 _ _ aW;have zW:=lx.trans s4;generalize hG4:upd H3 d (.lst [])=H4 at *;clear hG4 s4 ZG lx T8 ZF aW U;have Yt:∀cut:List Int,cut.length=g.ms.length->∀p∈r6 r (dw r g.ws.length),(∀e,wJ r p=some e->0<=e.1/\e.1<(cut.length:Nat))/\∀e,J6 r p=some e->0<=e.1/\e.1<(cut.length:Nat):=λcut hc p u=>Cm R hI hc (List.mem_filter.mp u).1;have ZI:(r6 r (dw r g.ws.length)).length<=40:=aaq (List.length_filter_le _ _) ();have c0:=Ep L;refine⟨M,D,yp,r,_,_,rfl,T9,Ua,ZI,.inr F0,Yt _ c0.len,λlo zo u W nE UY hzo=>?_⟩;have afv:=(r9.same zW).same W;have s15:=zW.trans W;have ndo:lo≠D:=Ne.symm (aq F0 nE);have nfo:lo≠d:=Ne.symm (aq TJ nE);refine⟨T7 H x a M D d yp g r PT,⟨_,.mk 0 lo zo [] _ _ _ _ _ rfl s15 (W _ _ T9) (Ua.aJ W.aP) (W _ _ F0) (W _ _ TJ) (F' _) (by have:=c0.mu L R i9 h5;show 0+KZ (PT.map λc=>c.bf 0)<=300;lia) eO.nil ⟨ndo,nfo⟩ UY hzo c0 (F' _)⟩,?_⟩;clear s15 zW T9 Ua F0 TJ afv hzo UY nE ndo nfo W hf xX FU;intro μ σ H' lg;obtain⟨n,lo,zo,I,z6,z7,z8,z9,DT,rfl,si,ZJ,ZK,Vw,ZL,u,T,hfv,⟨nlD,nlf⟩,JW,ZM,uT,hμ⟩:=lg;clear c0;right;refine⟨aaj _,λp0 AV=>?_⟩;have l:=av.new (.lst []) AV;have J1:upd H' p0 (.lst []) p0=some (.lst []):=ab;have sj:=si.trans l;have ZN:=l _ _ ZJ;have ZO:=ZK.aJ l.aP;have X:=l _ _ Vw;have Ub:=l _ _ ZL;have Uc:=hfv.aJ l.aP;have K4:=l _ _ JW;have Gk:=ZM.aJ l.aP;generalize hGj:upd H' p0 (.lst [])=G at *;clear hGj l si ZJ ZK Vw ZL hfv JW ZM AV;generalize Y:(kF r g.ws.length PT n).1=cut at *
 cases hO:eX r cut (dw r g.ws.length) with
 |nil=>
  rw[hO]at Gk;have YS:zo=[]:=List.length_eq_zero_iff.mp Gk.1;subst YS;calc .inl ⟨.inr ⟨_,_,[],[],rfl,rfl,.inr ⟨aO.of K4,aO.of J1⟩,rfl,λj u v t=>by simp at t⟩,?_⟩;rw[if_neg ∅];right;calc .inl ⟨_,aO.of X,λl hc=>⟨cM,λt T=>?_⟩⟩;have s2:=av.new (.tup (cut.map V.int)) hc;have ec:upd G l (.tup (cut.map V.int)) l=some (.tup (cut.map V.int)):=ab;have U:=av.new (.tup [.ref l,.ref d]) T;have u:=s2.trans U;calc q t l d I n _ (sj.trans u) ab (by rw[Y];calc U _ _ ec) ZH (u _ _ Ub) (Uc.aJ u.aP) ?_;unfold nK;rw[Y,hO]
 |cons p ps=>
  rw[hO]at Gk;have q:zo.length=ps.length+1:=by have:=Gk.1;simpa using this
  calc .inr ⟨⟨zo,[],λh=>by rw[h]at q;simp at q,.inl ⟨aO.of K4,aO.of J1⟩⟩,?_⟩;rw[if_pos trivial];calc⟨λl H'=>∃q,q<μ/\T7 H x a M D d yp g r PT q l H',λ_ _ h=>h,?_⟩;have N:=Cw R hI om L hz hO;have l:=uT.len;have hRj:=hR.same sj;have hxj:=sj _ _ hx;nofun;obtain⟨v0,Qp⟩:∃v0,zo[0]?=some v0:=⟨_,cD ()⟩
  obtain⟨b,rfl,hb⟩:=mi (Gk.2 0 v0 _ Qp rfl);have l:nK r g.ws.length PT cut=some ((sW r p).1,cut.getD (sW r p).1.toNat 0,gC PT (sW r p),p):=by unfold nK;rw[hO]
  have B:kF r g.ws.length PT (n+1)=(cut.set (sW r p).1.toNat (gC PT (sW r p)),(kF r g.ws.length PT n).2++[((sW r p).1,cut.getD (sW r p).1.toNat 0,gC PT (sW r p),p)]):=by
   show(match nK r g.ws.length PT (kF r g.ws.length PT n).1 with|none=>_|some f=>_)=_;rw[Y,l];rfl
  generalize sW r p=e at *;ac_rfl;have hm0:=N.m0;have l:=N.m1;right;refine bC K4 (aA (j:=0) Qp) ?_;refine rF (bF.of hb) ?_;walk_at "xg";right;refine⟨x,dx,_,rfl,hxj,eY ⋯,F,x,bg,g,r,ad,p.1,p.2,rfl,hRj,R,N.hw,N.hk,λv hv=>?_⟩;nofun;obtain⟨aw,rfl,lD⟩:=mi (show HT G 1 v (pairD e) from by have:=hv;rw[show(r.ww p.1).cF.getD p.2 none=some e from N.wk]at this;exact this);ac_rfl;refine rF (bF.of lD) ?_;refine L2.bz h1 ?_;clear h1;walk_at "xg";nofun;obtain⟨as,p7,u,t⟩:=id (r9.same sj);obtain⟨g,l⟩:∃g,as[e.1.toNat]?=some g:=⟨_,cD ()⟩
  ac_rfl;right;refine bC p7 (show ia (as.map V.ref) e.1=some (.ref g) from by
   have:=aA (xs:=as.map V.ref) (j:=e.1.toNat) (v:=.ref g) (by rw[A',l];rfl);rwa [show((e.1.toNat:Nat):Int)=e.1 by lia] at this) ?_
  have q:(PT.getD e.1.toNat []).length<=100:=by
   have a:=pw_len (lo:=0) (n:=(r.mm e.1.toNat).eB.length) (L.ri e.1.toNat ()) λc hc=>by have:=L.bd e.1.toNat () c hc;lia
   have b:=R.bp e.1.toNat ()
   lia
  calc R8 g _ e.2 rfl (t _ _ l) q (λH6 O=>?_);rw[N.lo];calc L2.bz h1 ?_;clear h1;have sk:=sj.trans O;have ZP:=O _ _ ZN;have ZQ:=ZO.aJ O.aP;have Mi:=O _ _ X;have Ud:=O _ _ Ub;have ZR:=Uc.aJ O.aP;have ZS:=O _ _ K4;have hb6:=O _ _ hb;clear p7 u t l lD hv Gk hb K4 Uc Ub X ZO ZN J1;show A7 _ _ _ [some (V.ref x),some (V.ref a),some (V.ref M),some (V.ref D),some (V.ref d),some (V.ref lo),some (V.int (p.1:Nat)),some (V.int (p.2:Nat)),some (V.int e.1),some (V.int e.2),some (V.int (gC PT e))] H6;right;right;calc⟨.inl ⟨rfl,_,aO.of Ud⟩,?_⟩;calc bC Mi (uR hm0 ()) ?_;calc bC ZS (aA (j:=0) Qp) ?_;calc⟨by rw[aax];lia,λy zX=>?_⟩;have S:=av.new (.tup [.int e.1,.int (cut.getD e.1.toNat 0),.int (gC PT e),.ref b]) zX;have Vm:upd H6 y (.tup [.int e.1,.int (cut.getD e.1.toNat 0),.int (gC PT e),.ref b]) y=some (.tup [.int e.1,.int (cut.getD e.1.toNat 0),.int (gC PT e),.ref b]):=ab;have ZT:=S _ _ ZP;have ZU:=ZQ.aJ S.aP;have eD7:=S _ _ Mi;have Ue:=S _ _ Ud;have ZV:=ZR.aJ S.aP;have hb7:=S _ _ hb6;have sl:=sk.trans S;generalize UW:upd H6 y (.tup [.int e.1,.int (cut.getD e.1.toNat 0),.int (gC PT e),.ref b])=J at *;clear UW S sk O ZP ZQ Mi Ud ZR ZS hb6 zX Qp hRj hxj sj;have ZW:=ZV.snoc (e:=T6 (e.1,cut.getD e.1.toNat 0,gC PT e,p)) (Kg (n:=1) Vm (.int _) (.int _) (.int _) (cV (n:=0) hb7 (.int _) (.int _)));have zG:bX J (upd J d (.lst (I++[.ref y]))):=(bX.refl _).upd λzs e=>by rw[Ue]at e;cases e
  have Z:upd J d (.lst (I++[.ref y])) D=some (.lst (cut.map V.int)):=by rw[ay (Ne.symm nfD)];exact eD7
  have pd:bX (upd J d (.lst (I++[.ref y]))) (upd (upd J d (.lst (I++[.ref y]))) D (.lst ((cut.map V.int).set e.1.toNat (.int (gC PT e))))):=(bX.refl _).upd λzs e=>by rw[Z]at e;cases e
  refine⟨_,Ue,aB (),_,e.1.toNat,Z,?_,?_⟩
  ·have:=l7 (n:=(cut.map V.int).length) (k:=e.1.toNat) (by simp;lia);rwa [show((e.1.toNat:Nat):Int)=e.1 by lia]at this
  have sm:av H (upd (upd J d (.lst (I++[.ref y]))) D (.lst ((cut.map V.int).set e.1.toNat (.int (gC PT e))))):=λc o ec=>by
   rw[ay (aq ec hHD),ay (aq ec ZH)];exact sl _ _ ec
  have ZX:upd (upd J d (.lst (I++[.ref y]))) D (.lst ((cut.map V.int).set e.1.toNat (.int (gC PT e)))) M=some (.lst yp):=by rw[ay (Ne.symm Qo),ay (Ne.symm nfp)];exact ZT
  have ZY:upd (upd J d (.lst (I++[.ref y]))) D (.lst ((cut.map V.int).set e.1.toNat (.int (gC PT e)))) d=some (.lst (I++[.ref y])):=by rw[ay nfD];exact ab
  have eD9:upd (upd J d (.lst (I++[.ref y]))) D (.lst ((cut.map V.int).set e.1.toNat (.int (gC PT e)))) D=some (.lst ((cut.set e.1.toNat (gC PT e)).map V.int)):=by rw[List.map_set];exact ab
  have ZZ:=(ZU.aJ zG).aJ pd;have afC:=(ZW.aJ zG).aJ pd;generalize hG9:upd (upd J d (.lst (I++[.ref y]))) D (.lst ((cut.map V.int).set e.1.toNat (.int (gC PT e))))=H9 at *;clear hG9 zG pd Z ZW ZV ZU Ue eD7 ZT hb7 Vm sl;have u:=uT.next (m:=e.1.toNat) () N.lm;have g:=K0 (cut:=cut) (m:=e.1.toNat) (z:=gC PT e) () N.l0 N.ll;calc⟨M,D,yp,r,_,_,rfl,ZX,ZZ,ZI,.inr eD9,Yt _ u.len,λl o v d vB q t=>?_⟩;refine⟨_,X' g hμ,.mk (n+1) l o (I++[.ref y]) _ _ _ _ _ rfl (sm.trans d) (d _ _ ZX) (ZZ.aJ d.aP) (by rw[B];calc d _ _ eD9) (d _ _ ZY) (by simp;lia) (by rw[B];show n+1+KZ (cut.set e.1.toNat (gC PT e))<=300;lia) ?_ ⟨λz=>?_,λz=>?_⟩ q (by rw[B];calc t) (by rw[B];calc u) (by rw[B];calc F' _)⟩
  ·rw[B,U'];exact afC.aJ d.aP
  ·rw[z,eD9]at vB;cases vB
  ·rw[z,ZY]at vB;cases vB
theorem Es{nt:NT}(f:nt.Ok){ls:List (Int×Int)}(g:ls.length<=20){s:List (Int×Int)}(h:qO nt (RS.begin nt ls) s):∀i,i<=s.length->uP nt ls (fb nt (RS.begin nt ls) (s.take i))/\(fb nt (RS.begin nt ls) (s.take i)).picks=s.take i
 |0,_=>⟨uP.begin f g,(pU f g).2⟩
 |i+1,j=>by
  obtain⟨a,b⟩:=Es f g h i ();obtain⟨w,k,e,j⟩:=h i _ (cD (show i<s.length by lia));rw[aaU,cD (show i<s.length by lia),e];show uP nt ls (fb nt _ (_++[_]))/\(fb nt _ (_++[_])).picks=_;rw[gA];obtain⟨c,d⟩:=a.pick f j;calc⟨c,by rw[d,b];rfl⟩
abbrev kG:Stmt:=top 78
inductive K5(vs:List V)(H:Hp)(Q:VK):Prop
 |mk (F:Addr->Prop) (tn:V) (nt:NT) (ls:List (Int×Int)) (l:Addr) (ys:List V) (s:List (Int×Int)) (h0:vs=[tn,.ref l]) (h1:ToldN (jZ F H) tn nt.ms nt.ws ls) (h2:FS F H) (h3:nt.Ok) (h4:ls.length<=20) (h5:∀l∈ls,0<=l.1/\l.1<nt.ws.length) (h7:H l=some (.lst ys)) (h8:eO H 1 ys (s.map pairD)) (h9:s.length<=40) (L8:qO nt (RS.begin nt ls) s) (q:∀d ad H',av H H'->(∀b,FP nt.n ad b->H b=none)->H d=none->bV F H' d tn nt (fb nt (RS.begin nt ls) s) ad->Q (.ref d) H'):K5 vs H Q
def Et:Sp:=λvs H Q _=>K5 vs H Q
theorem yr(D:cw K mg "_law_played" "_law_played" kG ["_law_net_here","_law_schedule"])(T:Tx K mg C CN CR F FD)(W:Def P w K mg base "_law_begun" 1 ["_law_net_here"] yo)(X:Def P w K mg base "_law_pick" 3 ["_law_run","_law_way","_law_number"] yn):Def P w K mg base "_law_played" 4 ["_law_net_here","_law_schedule"] Et:=by
 have sc:aD ["_law_net_here","_law_schedule","_law_run","_law_way","_law_number"] ["_law_net_here","_law_schedule"] (az kG):=by walk_at "s"
 symm;obtain⟨F,g,a,ls,l,ys,s,rfl,N,u,t,v,O,o,x,y,B,q⟩:=h;have y:=hr.units;refine⟨_,(ag (aZ (i:=2) sc.nd rfl Sort (aI W hr (af (au 0) aa)))
  (ag (dC PassesOwn.never rfl (bI (pv 1)) (dW (i:=3) (j:=4) rfl sc.nd rfl rfl Sort Sort)
  (aj (bN (aI X hr (af (au 2) (af (au 3) (af (au 4) aa)))))))
  (aj (aH (au 2))))),?_⟩
 walk_at "xg";right;refine⟨F,g,a,ls,rfl,N,u,t,v,O,λd ad H1 p G Y Z=>?_⟩;refine L2.bz h1 ?_;clear h1;have R:=p _ _ o;have nl:¬FP a.n ad l:=λz=>by rw[G _ z]at o;cases o
 have I:=Es t v B;have S:ys.length=s.length:=by simpa using x.1
 right;refine⟨_,rfl,.inl ⟨⟨_,aO.of R⟩,d9 (K:=K) (xs:=ys) (λi σ H'=>(∃J L,σ=[some g,some (V.ref l),some (V.ref d),J,L])/\Fr (FP a.n ad) H1 H'/\bV F H' d g a (fb a (RS.begin a ls) (s.take i)) ad) ?_ ?_ ?_ ?_⟩⟩
 ·exact⟨⟨_,_,rfl⟩,Fr.refl,Z⟩
 ·rintro i σ H' r ⟨_,c,_⟩;exact aO.of (c.at R nl)
 ·intro i z σ H' U fO;nofun;obtain⟨⟨J,L,rfl⟩,c,m⟩:=fO;have r:i < s.length:=by rw[<-S];exact(List.getElem?_eq_some_iff.mp U).1
  obtain⟨w,k,e,hc⟩:=B i _ (cD r);obtain⟨hI,M⟩:=I i ();obtain⟨ta,rfl,l⟩:=mi (e:=((w:Int),(k:Int))) (x.2 i z _ U (by rw[A',cD r,e];rfl));ac_rfl;have o:=c.k8 (p _ _ l) id;calc rF (bF.of o) ?_;right;calc⟨F,d,g,a,_,ad,w,k,rfl,m,u.fr (p.fr.trans c) m.cH.uB,hI.ok,hc,by rw[M];simp;lia,λt v x i _=>?_⟩;calc gp ⟨_,_,rfl,rfl⟩ (c.trans x) ?_;rw[aaU,cD r,e];show bV F v d g a (fb a _ (_++[_])) ad;rw[gA];exact i
 ·intro σ H' fP;obtain⟨⟨J,L,rfl⟩,c,m⟩:=fP;right;rw[S,aat]at m;calc q d ad H' (λb o e=>c.at (p _ _ e) λz=>by rw[G _ z]at e;cases e) G Y m
abbrev mC:Stmt:=top 83
def Cy:Sp:=λvs H Q _=>∃(i:Int),vs=[.int i]/\Q (.bl true) H
theorem Aw(D:cw K mg "_law_plain" "_law_plain" mC ["_law_found"])(T:Tx K mg C CN CR F FD):Def P w K mg base "_law_plain" 1 ["_law_found"] Cy:=by
 have sc:aD ["_law_found"] ["_law_found"] (az mC):=by walk_at "s"
 symm;obtain⟨i,rfl,q⟩:=h;have a:=hr.units;refine⟨_,(aj (aH (fR (aX cS rfl T.bq yD (af (au 0) (af (cU (v:=.ty "int") rfl T.zz zA2 rfl) aa))) (iz (GR (aX cS rfl T.bq yD (af (au 0) (af (cU (v:=.ty "bool") rfl T.BU PyProof.Rows.boot_bool rfl) aa)))))))),?_⟩;right;refine cW _ true (.int _) rfl ?_;rw[if_pos rfl];exact⟨_,false,.int _,rfl,q⟩
theorem K6:1<=sizeLine:=by rw[aax];lia
theorem K7{n:Nat->Nat}{t i:Nat}(h:i<n t):(kb n ad t)[i]?=some (.ref (ad t i)):=by simp[kb,h]
structure Eu(n:Nat)(ns:List Int):Prop where
 ri:ns.Pairwise (· < ·)
 bd:∀c∈ns,0<=c/\c<(n:Int)
 z:(0:Int)∈ns
structure Ax(p l:Addr)(G:Hp)(r:RS)(as:List Addr)(PT:List (List Int))(i:Nat):Prop where
 la:as.length=i
 lp:PT.length=i
 at':∀(m:Nat) b,as[m]?=some b->G b=some (.lst ((PT.getD m []).map V.int))/\b≠p/\b≠l
 ok:∀m,m<i->Eu (r.mm m).eB.length (PT.getD m [])
theorem getD_snoc{α:Type}{l:List α}{x d:α}(h:m<l.length):(l++[x]).getD m d=l.getD m d:=by
 rw[L',W' h,<-L']
theorem getD_last{α:Type}{l:List α}{x d:α}(h:m=l.length):(l++[x]).getD m d=x:=by
 rw[L',V' (),h,Nat.sub_self];rfl
theorem Ax.snoc{l:Addr}{a:Hp}{PT:List (List Int)}{i:Nat}(h:Ax p l G r as PT i)(j:∀c o,c≠p->c≠l->G c=some o->a c=some o)(k:a b=some (.lst (ns.map V.int)))(n:b≠p)(q:b≠l)(s:Eu (r.mm i).eB.length ns):Ax p l a r (as++[b]) (PT++[ns]) (i+1):=by
 refine⟨by simp[h.la],by simp[h.lp],λm c e=>?_,λm a=>?_⟩
 ·have f:=h.la;have t:=h.lp;by_cases a:m < as.length
  ·rw[W' a]at e;obtain⟨l,f,g⟩:=h.at' m c e;rw[getD_snoc ()];exact⟨j _ _ f g l,f,g⟩
  ·have d:=(List.getElem?_eq_some_iff.mp e).1;rw[aas,aa3] at d;obtain rfl:m=as.length:=by lia
   rw[V' (F' _),Nat.sub_self]at e;obtain rfl:=Option.some.inj e;rw[getD_last ()];exact⟨k,n,q⟩
 ·have t:=h.lp;by_cases d:m < i
  ·rw[getD_snoc ()];exact h.ok m d
  ·rw[getD_last (),show m=i by lia];calc s
theorem Ax.done{l:Addr}{nt:NT}{PT:List (List Int)}(h:Ax p l G r as PT nt.ms.length):eZ nt r PT/\∀m,m<nt.ms.length->(0:Int)∈PT.getD m []:=
 ⟨⟨h.lp,λm a=>List.ne_nil_of_mem (h.ok m a).z,λm a=>(h.ok m a).ri,λm a=>(h.ok m a).bd⟩,λm a=>(h.ok m a).z⟩
theorem Ax.pts{l:Addr}{a:Hp}{PT:List (List Int)}{n:Nat}(h:Ax p l G r as PT n)(c:l≠p)(d:G l=some (.lst (as.map V.ref)))(st:Step p G a):ie a l PT:=
 ⟨as,st.rest _ _ d c,by rw[h.la,h.lp],λm b e=>let ⟨a,c,_⟩:=h.at' m b e;st.rest _ _ a c⟩
abbrev kH:Stmt:=top 82
inductive K8(vs:List V)(H:Hp)(Q:VK):Prop
 |mk (F:Addr->Prop) (d:Addr) (tn:V) (nt:NT) (r:RS) (ad:Nat->Nat->Addr) (p:Addr) (H0:Hp) (h0:vs=[.ref d,.ref p,.bl true]) (h1:bV F H0 d tn nt r ad) (h2:av H0 H) (h3:H0 p=none) (h4:fg H p) (h5:r.Ok nt) (h7:r.picks.length<=40) (q:∀a PT H',Step p H H'->(∀G,Step p H' G->ie G a PT)->eZ nt r PT->(∀m,m<nt.ms.length->(0:Int)∈PT.getD m [])->Q (.ref a) H'):K8 vs H Q
def Ew:Sp:=λvs H Q _=>K8 vs H Q
theorem yt(D:cw K mg "_law_points" "_law_points" kH ["_law_run","_law_pot_here","_law_zero"])(T:Tx K mg C CN CR F FD)(aM:Def P w K mg base "_law_digit" 1 ["_law_pot_here","_law_many"] iH):Def P w K mg base "_law_points" 2 ["_law_run","_law_pot_here","_law_zero"] Ew:=by
 have sc:aD ["_law_run","_law_pot_here","_law_zero","_law_points_here","_law_states","_law_row"] ["_law_run","_law_pot_here","_law_zero"] (az kH):=by walk_at "s"
 symm;obtain⟨F,d,tn,nt,r,ad,p,H0,rfl,hT,s0,AV,hp,cm,i9,q⟩:=h;have M:=hr.units;refine⟨_,(ag (aZ (i:=3) sc.nd rfl Sort (bx aa))
  (ag (dC PassesOwn.never rfl (bI (ao M (au 0) aE)) (aR (i:=4) sc.nd rfl Sort)
  (ag (ee (i:=5) sc.nd rfl Sort (N':=["_law_c","_law_pot_here"]) (ix:=[none,some 1]) (cy rfl T.dG (af (aX aN rfl T.bO S' (af (au 4) aa)) aa)) (λ_ _ _ _=>(aR (i:=0) (show(["_law_c","_law_pot_here"]:List Str).Nodup by decide +kernel) rfl Sort)) (λ_ _ _ _=>(fT (aC (lT (K:=K) rfl M) (aI aM hr (af (au 1) (af ai aa))) ai (aG _)))) (λ_ _ _ _=>(au 0)))
  (ag (aU (PW.pt (pw_or (aC (aY M) (au 5) (bx aa) (aG _)) (pw_or1 (PW.pt (pw_and (bu (au 2)) (pw_and1 (aC lO (ao M (au 5) ai) ai (aG _)))))))) (aj (aZ (i:=5) sc.nd rfl Sort (bc cB (bx (af (ao M (bx (af (aI aM hr (af (au 1) (af (aX aN rfl T.bO S' (af (au 4) aa)) aa))) (af ai aa))) (cR vO rfl T.zz zA2 (af (au 2) aa))) aa)) (au 5)))) aK)
  (aj (bN (dB o7 rB rC bW (au 3) (af (au 5) aa)))))))
  (aj (aH (au 3))))),?_⟩
 obtain⟨o',hd,nF,nP,T⟩:=hT.dk;have l1:=(T 1 ∅ ∅).1;have ba:=hT.ok;have T:=ba.II;right;calc⟨aaj _,λl hl=>?_⟩;have Sn:=(Step.refl hp).new (o:=.lst []) hl;have Y:upd H l (.lst []) l=some (.lst []):=ab;have Z0:l≠p:=Step.ne hp hl;generalize hG:upd H l (.lst [])=G0 at *;right;refine⟨_,Kn (Sn.over s0 AV _ _ hd),.inl ⟨⟨_,aO.of (Sn.over s0 AV _ _ l1)⟩,d9 (K:=K) (xs:=kb nt.n ad 1) (λi σ G=>(∃z4 z5,σ=[some (V.ref d),some (V.ref p),some (V.bl true),some (V.ref l),z4,z5])/\Step p H G/\∃as PT,G l=some (.lst (as.map V.ref))/\Ax p l G r as PT i) ?_ ?_ ?_ ?_⟩⟩
 ·exact⟨⟨_,_,rfl⟩,Sn,[],[],Y,rfl,rfl,λm b e=>by simp at e,λm T=>absurd T (aaX _)⟩
 ·rintro i σ G hi ⟨_,st,_⟩;exact aO.of (st.over s0 AV _ _ l1)
 ·intro i xx σ G hx fO;nofun;obtain⟨⟨z4,z5,rfl⟩,st,as,PT,Y,N⟩:=fO;clear Sn hG;have hi:i < nt.ms.length:=by have:=(List.getElem?_eq_some_iff.mp hx).1;rw[l9] at this;exact this
  rw[K7 (show i<nt.n 1 from hi)]at hx;obtain rfl:=Option.some.inj hx;ac_rfl;have T:=cm.lh i hi;have T:=cm.bp i hi;have T:=N.la;have hle:∀g,Step p H g->∃O,g (ad 1 i)=some (.lst O)/\O.length=(r.mm i).eB.length:=λg rM=>by
   obtain⟨O,Z,T⟩:=(hT.same (rM.over s0 AV)).cH.lst (t:=1) (i:=i) hi rfl;exact⟨O,Z,by simpa using T.1⟩
  walk_at "xg";right;refine bt ?_;right;obtain⟨O,Z,z1⟩:=hle _ st;refine bD _ (.inl ⟨_,aO.of Z,rfl⟩) ?_;rw[z1];refine gp () () (λD hD=>?_);rw[aao];have Qo:D≠p:=Step.ne st.fB hD;have nDl:D≠l:=Ne.symm (aq Y hD);refine aV (J:=Bc 0 (r.mm i).eB.length) (n:=(r.mm i).eB.length) (λj ys g=>Step p G g/\∃B:List Int,ys=B.map V.int/\B.Pairwise (· < ·)/\∀c∈B,0<=c/\c<(j:Int)) (J' (aB ())) ⟨(Step.refl st.fB).new hD,[],rfl,.nil,λc y=>by cases y⟩ (λj ys g hj _=>hj) (λys g _=>F' _) ?_ ?_
  ·intro j ys g hj aW je fP x G2 lg;nofun;obtain⟨R,B,rfl,S,U⟩:=fP;obtain⟨rfl,rfl⟩:=lg;ac_rfl;walk_at "xf";right;rw[Int.zero_add];refine lS p _ rfl R.fB ∅ (Ak ∅ ∅) (λdg G3 rW YK nB=>?_);right;have ya:=nB.rest _ _ aW Qo;have Ui:=R.trans nB;by_cases hdg:dg=1
   ·rw[if_pos (aar hdg)];calc bJ ya je hj (J' (aB ())) ⟨⟨Ui.fB.upd (Ne.symm Qo),λc o e n=>by rw[ay (aq e hD)];calc Ui.rest c o e n⟩,B++[(j:Int)],by rw[U'];rfl,List.pairwise_append.mpr ⟨S,List.pairwise_singleton _ _,λa x b hb=>by rw[List.mem_singleton.mp hb];calc(U a x).2⟩,λc y=>?_⟩;rcases List.mem_append.mp y with y | y
    ·have:=U c y;lia
    ·rw[List.mem_singleton.mp y];lia
   ·rw[if_neg (by simpa using hdg)];exact⟨_,ya,(),Ui,B,rfl,S,λc y=>by have:=U c y;lia⟩
  intro ys G1 aW o9 pN;obtain⟨R,B,rfl,S,U⟩:=pN;calc L2.bz h1 ?_;clear h1 Z z1 O;have GG:=st.trans R;have Qq:=R.rest _ _ Y Z0;calc L2.kd λx h2=>?_;have W:∀g b us,Step p G1 g->g b=some (.lst (us.map V.int))->b≠p->b≠l->Eu (r.mm i).eB.length us->x [some (V.ref d),some (V.ref p),some (V.bl true),some (V.ref l),some (V.ref (ad 1 i)),some (V.ref b)] g:=λg b us u hb nbp x Pm=>by
   calc L2.bz h2 ?_;right;have GD:=u.rest _ _ Qq Z0;have T:=GG.trans u;refine⟨.inl ⟨rfl,_,aO.of GD⟩,_,GD,aB (by simp;lia),⟨_,_,rfl,rfl⟩,⟨T.fB.upd (Ne.symm Z0),λc o e n=>by rw[ay (aq e hl)];calc T.rest c o e n⟩,as++[b],PT++[us],by rw[U'];calc ab,N.snoc (λc o n1 n2 e=>by rw[ay n2];calc u.rest c o (R.rest c o e n1) n1) (by rw[ay x];calc hb) nbp x Pm⟩
  clear h2;calc L2.jb λn U0 uQ wQ=>?_;have yes:∀g,Step p G1 g->(∀c,c∈B->0<c)->n [some (V.ref d),some (V.ref p),some (V.bl true),some (V.ref l),some (V.ref (ad 1 i)),some (V.ref D)] g:=λg u X=>by
   calc L2.bz uQ ?_;right;obtain⟨O,Z,z1⟩:=hle _ (GG.trans u);calc bD _ (.inl ⟨_,aO.of Z,rfl⟩) ?_;rw[z1];calc lS p _ rfl u.fB () (Ak () ()) (λdg G3 rW YK nB=>?_);right;calc⟨cM,λx n=>.inr ?_⟩;right;rw[if_pos trivial];calc bC ab (aA (j:=1) rfl) ⟨K6,λO x=>.inl ?_⟩;have v:=((u.trans nB).new n).new (o:=.lst [.int 0]) x;rw[M']at o9;calc ue _ _ ab (v.rest _ _ aW Qo) (by rw[M',aax];simp;lia) (λn I=>?_);calc W _ n (0::B) (v.new I) ab (Step.ne v.fB I) (λz=>by rw[z,v.rest _ _ Qq Z0]at I;cases I) ⟨List.pairwise_cons.mpr ⟨X,S⟩,λc y=>?_,aaa⟩;rcases List.mem_cons.mp y with rfl|y
   ·lia
   ·exact U c y
  have no:∀g,Step p G1 g->(0:Int)∈B->U0 [some (V.ref d),some (V.ref p),some (V.bl true),some (V.ref l),some (V.ref (ad 1 i)),some (V.ref D)] g:=λg u X=>by
   calc L2.bz wQ ?_;exact W g D B u (u.rest _ _ aW Qo) Qo nDl ⟨S,U,X⟩
  clear uQ wQ W;right;calc⟨aaj _,λp1 i=>?_⟩;have L:=(Step.refl R.fB).new (o:=.lst []) i;have Z2:upd G1 p1 (.lst []) p1=some (.lst []):=ab;have KU:=L.rest _ _ aW Qo;generalize hGp:upd G1 p1 (.lst [])=G2 at *
  cases B with
  |nil=>
   calc .inl ⟨.inr ⟨_,_,[],[],rfl,rfl,.inr ⟨aO.of KU,aO.of Z2⟩,rfl,λj u v M=>by simp at M⟩,?_⟩;rw[if_pos trivial,if_pos trivial];exact yes _ L λc y=>by cases y
  |cons k B=>
   calc .inr ⟨⟨_,[],λh=>by simp at h,.inl ⟨aO.of KU,aO.of Z2⟩⟩,?_⟩;rw[if_neg ∅,if_pos trivial];calc bC KU (aA (j:=0) rfl) ?_;right;rw[List.pairwise_cons]at S;have i:=U k aaa;by_cases X:0<k
   ·rw[if_pos (aar X)];calc yes _ L λc y=>?_;rcases List.mem_cons.mp y with rfl | y
    ·exact X
    ·have:=S.1 c y;lia
   ·rw[if_neg (by simpa using X)];exact no _ L (by rw[show k=0 by lia];calc aaa)
 ·intro σ G rT;obtain⟨⟨z4,z5,rfl⟩,st,as,PT,Y,N⟩:=rT;right;rw[l9]at N;calc q l PT G st (λg rM=>N.pts Z0 Y rM) N.done.1 N.done.2
theorem lA.ok{nt:NT}{PT:List (List Int)}(h:lA nt PT cut)(b:eZ nt r PT):Eb nt r cut:=⟨h.len,λm a=>(b.bd m a _ (h.mem m a)).1,λm a=>(b.bd m a _ (h.mem m a)).2⟩
abbrev mD:Stmt:=top 29
inductive K9(C CN CR:Addr)(vs:List V)(H:Hp)(Q:VK):Prop
 |mk (F:Addr->Prop) (x bg:Addr) (nt:NT) (r:RS) (ad:Nat->Nat->Addr) (a:Addr) (PT:List (List Int)) (t:Addr) (cut:List Int) (h0:vs=[.ref x,.ref a,.ref t]) (h1:bU C CN CR F H x bg nt r ad) (h2:r.Ok nt) (h3:r.Iv nt) (h4:r.Pk nt) (h5:r.picks.length<=40) (h6:ie H a PT) (h7:eZ nt r PT) (h8:H t=some (.tup (cut.map V.int))) (h9:lA nt PT cut) (q:∀v H',av H H'->HT H' 1 v (nj ((eX r cut (dw r nt.ws.length)).head?.map pI))->Q v H'):K9 C CN CR vs H Q
def Ex(C CN CR:Addr):Sp:=λvs H Q _=>K9 C CN CR vs H Q
theorem Ay(D:cw K mg "orphan_of" "orphan_of" mD ["run","points","choice"])(T:Tx K mg C CN CR F FD)(l:Def P w K mg base "need_points" 5 ["run","points"] (Cn C CN CR))(kI:Def P w K mg base "orphans_of" 7 ["run","cut"] (Ed C CN CR)):Def P w K mg base "orphan_of" 8 ["run","points","choice"] (Ex C CN CR):=by
 have sc:aD ["run","points","choice","orphans"] ["run","points","choice"] (az mD):=by walk_at "s"
 symm;obtain⟨F,x,U,k,r,ad,a,PT,t,cut,rfl,o,W,hI,hP,X,B,G,I,L,q⟩:=h;have M:=hr.units;refine⟨_,(ag (bN (aI l hr (af (au 0) (af (au 1) aa))))
  (ag (aZ (i:=3) sc.nd rfl Sort (aI kI hr (af (au 0) (af (au 2) aa))))
  (ag (aU (bR (bu (aX (dI rfl) rfl T.k6 GJ (af (cu (N':=["c","counts"]) (ix:=[none,none]) (xF rfl T.zA (af (au 2) (af (au 1) aa))) (λ_ _ _ _=>(fX (K:=K) rfl (i:=0) (j:=1) rfl (show(["c","counts"]:List Str).Nodup by decide +kernel) rfl rfl Sort Sort)) kj (λ_ _ _ _=>(fm (Ng (K:=K) rfl) (au 0) (au 1) (by with_unfolding_all rfl)))) aa)))) (aj cq) aK)
  (aj (aH (yN (aC (aY M) (au 3) (bx aa) (aG _)) gm (ao M (au 3) ai))))))),?_⟩
 have l:=L.len;have l:=G.len;walk_at "xg";right;refine⟨F,x,U,k,r,ad,a,PT,rfl,o,B,G,W,X,λH1 N=>?_⟩;refine L2.bz h1 ?_;clear h1;walk_at "xg";right;refine⟨F,x,U,k,r,ad,t,cut,rfl,o.same N,W,hI,hP,X,N _ _ I,L.ok G,λl O H2 g _ el hz=>?_⟩;refine L2.bz h1 ?_;clear h1;have R:=N.trans g;have u:=R _ _ I;have K3:=B.same R;have l:k.ms.length<=5:=o.FT.2.II;clear N g B I o;obtain⟨as,v,Cu,AY⟩:=K3;walk_at "xg";refine bt ?_;right;refine fz false true _ _ (Sq.t u) (Sq.l v) (λD hD=>?_);refine aV (J:=UK false true K t a) (n:=k.ms.length) (λi ys H'=>av H2 H'/\ys=(List.replicate i true).map V.bl) (J' (aB ())) ⟨av.new _ hD,rfl⟩ ?_ ?_ ?_ ?_
 ·rintro i ys H' Y ⟨g,_⟩;exact⟨_,_,_,_,Sq.t (g _ _ u),Sq.l (g _ _ v),by rw[A',aS (d:=0) ()];rfl,by rw[A',cD ()];rfl⟩
 ·rintro ys H' ⟨g,_⟩;exact⟨_,_,Sq.t (g _ _ u),Sq.l (g _ _ v),.inl (by simp;lia)⟩
 ·intro i ys H' Y S je fO xx H4 fP;nofun;obtain⟨g,rfl⟩:=fO;obtain⟨t',AX,rfl,y⟩:=fP;obtain⟨x1,x2,Qb,Qc,rfl⟩:=y _ _ (Sq.t (g _ _ u)) (Sq.l (g _ _ v));rw[A',aS (d:=0) ()] at Qb;rw[A'] at Qc;obtain⟨b,hb,rfl⟩:=Option.map_eq_some_iff.mp Qc;obtain rfl:=Option.some.inj Qb;ac_rfl;have m:=av.new (.tup [.int (cut.getD i 0),.ref b]) AX;have l:upd H' t' (.tup [.int (cut.getD i 0),.ref b]) t'=some (.tup [.int (cut.getD i 0),.ref b]):=ab;calc rF (bF.of l) ⟨Ext.set (Ext.set (Ext.refl _) rfl) rfl,?_⟩;right;calc Nv _ (.inl (aO.of (m _ _ (g _ _ (AY i b hb))))) rfl Fv ?_;rw[NH (L.mem i Y)]
  try rw[if_pos trivial]
  calc bJ (m _ _ S) je Y (J' (aB ())) ⟨λc o e=>by rw[ay (aq e hD)];calc m _ _ (g _ _ e),?_⟩;rw[aaT,U'];rfl
 rintro ys H3 S o9 ⟨m,rfl⟩;calc⟨_,aO.of S,pL ?_⟩;rw[show(List.replicate k.ms.length true).all id=true by simp[List.all_replicate],if_neg ∅];have lx:=R.trans m;have g:=m _ _ el;have i:=hz.aJ m.aP;clear R m el hz S v u Cu AY;calc L2.bz h1 ?_;right;calc⟨aaj _,λZ l=>?_⟩;have s4:=av.new (.lst []) l;have J1:upd H3 Z (.lst []) Z=some (.lst []):=ab;have XA:=s4 _ _ g;have O8:=i.aJ s4.aP;have zW:=lx.trans s4;generalize upd H3 Z (.lst [])=H4 at *;have z:O.length=(eX r cut (dw r k.ws.length)).length:=by simpa using O8.1
 cases ho:eX r cut (dw r k.ws.length) with
 |nil=>
  rw[ho]at q z;obtain rfl:O=[]:=List.length_eq_zero_iff.mp z;refine .inl ⟨.inr ⟨_,_,[],[],rfl,rfl,.inr ⟨aO.of XA,aO.of J1⟩,rfl,λj u v M=>by simp at M⟩,?_⟩
  try rw[if_pos rfl]
  calc q _ _ zW .bL
 |cons p ps=>
  rw[ho]at q z O8;obtain⟨u,g⟩:∃u,O[0]?=some u:=⟨_,cD (by simp[z])⟩
  calc .inr ⟨⟨O,[],by simp[z],.inl ⟨aO.of XA,aO.of J1⟩⟩,?_⟩;rw[if_neg ∅];calc bC XA (aA (j:=0) g) ?_;calc q _ _ zW (O8.2 0 u _ g rfl)
theorem Ey:∀(l:List Int) (b:Int),(b::l).Pairwise (· < ·)->l.foldl zy b=(b::l).bf 0
 | [],b,_=>rfl
 |a::l,b,h=>by
  rw[List.pairwise_cons]at h;have c:=h.1 a aaa;rw[List.foldl_cons,show zy b a=a from if_pos c,Ey l a h.2];rfl
theorem La{l:List Int}(h:l.Pairwise (· < ·))(a:l≠[]):Jh l=some (l.bf 0):=by
 cases l with
 |nil=>calc absurd rfl a
 |cons b l=>calc congrArg some (Ey l b h)
theorem Az{W:Nat}{PT:List (List Int)}{n:Nat}{f:VB}(h:nK r W PT (kF r W PT n).1=some f):kF r W PT (n+1)=(ZD (kF r W PT n).1 f,(kF r W PT n).2++[f]):=by
 show(match nK r W PT (kF r W PT n).1 with|none=>_|some f=>_)=_;rw[h]
theorem Ez{r:RS}{W:Nat}{PT:List (List Int)}{cut:List Int}{f:VB}(h:nK r W PT cut=some f):∃p ps,eX r cut (dw r W)=p::ps/\f=((sW r p).1,cut.getD (sW r p).1.toNat 0,gC PT (sW r p),p):=by
 unfold nK at h
 cases e:eX r cut (dw r W) with
 |nil=>rw[e]at h;cases h
 |cons p ps=>rw[e]at h;calc⟨p,ps,rfl,(Option.some.inj h).symm⟩
theorem yu{nt:NT}{PT:List (List Int)}{r:RS}(c:r.Ok nt)(d:r.Iv nt)(g:RS.Ps nt r)(a:eZ nt r PT)(h:∀m,m<nt.ms.length->(0:Int)∈PT.getD m []):∀n,lA nt PT (kF r nt.ws.length PT n).1
 |0=>Ep a
 |n+1=>by
  have i:=yu c d g a h n
  cases e:nK r nt.ws.length PT (kF r nt.ws.length PT n).1 with
  |none=>rw[uS e 1];calc i
  |some f=>
   obtain⟨p,ps,j,rfl⟩:=Ez e;have b:=Cw c d g a h j;rw[Az e];calc i.next (by have:=b.m0;have:=b.m1;show(sW r p).1.toNat<_;lia) b.lm
theorem Lb{r:RS}{W:Nat}{PT:List (List Int)}{cut:List Int}(h:nK r W PT cut=none):eX r cut (dw r W)=[]:=by
 unfold nK at h
 cases e:eX r cut (dw r W) with
 |nil=>rfl
 |cons p ps=>rw[e]at h;cases h
theorem Lc:∀(l:List Int) (b:Int),b<=l.foldl zy b/\∀c∈l,c<=l.foldl zy b
 | [],b=>⟨Int.le_refl _,λc h=>nomatch h⟩
 |a::l,b=>by
  rw[List.foldl_cons];obtain⟨f,e⟩:=Lc l (zy b a);have f:b<=zy b a/\a<=zy b a:=by unfold zy;split<;>lia
  calc⟨(),λc d=>?_⟩;rcases List.mem_cons.mp d with rfl|d
  ·lia
  ·calc e c d
theorem Ld{l:List Int}{z c:Int}(h:Jh l=some z)(a:c∈l):c<=z:=by
 cases l with
 |nil=>cases a
 |cons b l=>
  obtain rfl:l.foldl zy b=z:=Option.some.inj h;rcases List.mem_cons.mp a with rfl|a
  ·exact(Lc l c).1
  ·calc(Lc l b).2 c a
theorem EA{nt:NT}{PT:List (List Int)}(a:eZ nt r PT){m:Nat}(b:m<nt.ms.length){c:Int}(d:c∈PT.getD m []):c<=(PT.getD m []).bf 0:=Ld (La (a.ri m b) (a.ne m b)) d
theorem AB{l:List Int}{i:Nat}{z:Int}(h:i<l.length):(l.set i z).getD j 0=if i=j then z else l.getD j 0:=by
 rw[L',List.getElem?_set,L'];by_cases e:i=j
 ·rw[if_pos e,if_pos e,if_pos h];rfl
 ·rw[if_neg e,if_neg e]
theorem Le{nt:NT}{PT:List (List Int)}(a:eZ nt r PT){m:Nat}(b:m<nt.ms.length):(PT.map λc=>c.bf 0).getD m 0=(PT.getD m []).bf 0:=by
 rw[L',A',L',cD (by rw[a.len];calc b)];rfl
theorem qQ{nt:NT}{PT:List (List Int)}{r:RS}{z:List Int}(g:r.Ok nt)(i:r.Iv nt)(l:RS.Ps nt r)(b:eZ nt r PT)(o:∀m,m<nt.ms.length->(0:Int)∈PT.getD m [])(q:lA nt PT z)(y:eX r z (dw r nt.ws.length)=[]):∀n m,m<nt.ms.length->z.getD m 0<=(kF r nt.ws.length PT n).1.getD m 0
 |0,m,a=>by
  show _<=(PT.map λc=>c.bf 0).getD m 0;rw[Le b a];calc EA b a (q.mem m a)
 |n+1,m,a=>by
  have t:=qQ g i l b o q y n
  cases e:nK r nt.ws.length PT (kF r nt.ws.length PT n).1 with
  |none=>rw[uS e 1];calc t m a
  |some f=>
   obtain⟨p,ps,d,rfl⟩:=Ez e;have j:=Cw g i l b o d;have u:=yu g i l b o n;rw[Az e];generalize (kF r nt.ws.length PT n).1=cut at *;have D:(sW r p).1.toNat<nt.ms.length:=by have:=j.m0;have:=j.m1;lia
   show _<=(cut.set (sW r p).1.toNat (gC PT (sW r p))).getD m 0;rw[AB (by rw[u.len];calc D)];split
   ·next em=>
    subst em;calc Ld j.lo (List.mem_filter.mpr ⟨q.mem _ a,aar ?_⟩);have A:p∈eX r cut (dw r nt.ws.length):=by rw[d];exact aaa
    unfold eX at A;obtain⟨B,v⟩:=List.mem_filter.mp A;have k:ku r z p=false:=Bool.eq_false_iff.mpr λh=>by
     have:p∈eX r z (dw r nt.ws.length):=List.mem_filter.mpr ⟨B,h⟩;rw[y]at this;cases this
    obtain⟨w,E⟩:=List.mem_filter.mp B;obtain⟨s,C⟩:=Option.isSome_iff_exists.mp E;obtain⟨F,x⟩:=(Cm g i u.len w).1 s C;have G:=t s.1.toNat (by rw[u.len]at x;lia)
    unfold ku at v k;rw[j.wk,C]at v k;simp only[vC,Bool.and_eq_true,Bool.not_eq_true',decide_eq_true_eq,decide_eq_false_iff_not]at v;rw[show vC (some s) z=false from aay ()]at k;have:¬(sW r p).2<=z.getD (sW r p).1.toNat 0:=by simpa[vC] using k
    lia
   ·calc t m a
theorem Lf{nt:NT}{PT:List (List Int)}{z:List Int}{n:Nat}(a:r.Ok nt)(b:r.Iv nt)(c:RS.Ps nt r)(d:eZ nt r PT)(e:∀m,m<nt.ms.length->(0:Int)∈PT.getD m [])(f:lA nt PT z)(g:m<nt.ms.length)(h:(kF r nt.ws.length PT n).1.getD m 0<z.getD m 0):0<(eX r z (dw r nt.ws.length)).length:=
 List.length_pos_iff.mpr λh=>by have:=qQ a b c d e f h n m g;lia
theorem Gm{nt:NT}{PT:List (List Int)}{z:List Int}{n:Nat}(g:r.Ok nt)(i:r.Iv nt)(j:RS.Ps nt r)(d:eZ nt r PT)(k:∀m,m<nt.ms.length->(0:Int)∈PT.getD m [])(e:lA nt PT z)(h:∀m,m<nt.ms.length->z.getD m 0=(kF r nt.ws.length PT n).1.getD m 0\/z.getD m 0=(PT.getD m []).bf 0)(l:z≠(kF r nt.ws.length PT n).1):0<(eX r z (dw r nt.ws.length)).length:=
 List.length_pos_iff.mpr λp=>l <| by
  have l:=yu g i j d k n;calc List.ext_getElem (e.len.trans l.len.symm) λm o q=>?_;have c:m<nt.ms.length:=by rw[<-e.len];exact o
  have a:=qQ g i j d k e p n m c;have b:=EA d c (l.mem m c);have t:z.getD m 0=z[m]:=by simp[o]
  have u:(kF r nt.ws.length PT n).1.getD m 0=(kF r nt.ws.length PT n).1[m]:=by simp[q]
  rw[<-t,<-u];rcases h m c with h|h<;>lia
theorem Lg{K:W.Frag}{t:Addr}(f:H t=some (.tup (ns.map V.int)))(o:ns.length<=10)(h:H D=none)(q:∀H',av H H'->Q (.bl true) H'):ni [none] (Q5 K t) (dE 0) fq (vQ Cy [] E0 (tj (tV 0) yR)) σ H (λx H1=>RU K [x] H1 Q) D IC.mk:=by
 refine aV (J:=Q5 K t) (n:=ns.length) (λi ys H'=>av H H'/\ys=(List.replicate i true).map V.bl) (J' (aB ())) ⟨av.new _ h,rfl⟩ ?_ ?_ ?_ ?_
 ·rintro i ys H' b ⟨a,_⟩;exact⟨_,_,bF.of (a _ _ f),by rw[A',aS (d:=0) b];rfl⟩
 ·rintro ys H' ⟨a,_⟩;exact⟨_,bF.of (a _ _ f),nofun⟩
 ·intro i ys H' b g k l p r m;obtain⟨a,rfl⟩:=l;obtain⟨rfl,y⟩:=m;have j:=y _ (bF.of (a _ _ f));rw[A',aS (d:=0) b] at j;obtain rfl:=Option.some.inj j;walk_at "xf";right;refine bD _ rfl ?_
  try rw[if_pos trivial]
  calc bJ g k b (J' (aB ())) ⟨λc o e=>by rw[ay (aq e h)];calc a _ _ e,?_⟩;rw[aaT,U'];rfl
 rintro ys H1 g s ⟨a,rfl⟩;calc bD _ (aO.of g) ?_;rw[show(List.replicate ns.length true).all id=true by simp[List.all_replicate]];calc q _ a
theorem Gn{K:W.Frag}{k:Nat}(e:aO K H a (ns.map V.int)/\aO K H b (ns.map V.int)\/bF K H a (ns.map V.int)/\bF K H b (ns.map V.int)):j5 K H (k+2) (.ref a) (.ref b):=by
 calc .inr ⟨_,_,_,_,rfl,rfl,e.symm,rfl,λi u v c d=>?_⟩;rw[c]at d;obtain rfl:=Option.some.inj d;rw[A']at c;obtain⟨j,_,rfl⟩:=Option.map_eq_some_iff.mp c;calc .inl ⟨rfl,rfl⟩
theorem wR{bs:List Addr}{l:Addr}{f:Nat->List Int}{i:Nat}(d:bs.length=i)(h:∀(m:Nat) b,bs[m]?=some b->H b=some (.lst ((f m).map V.int))/\b≠D)(g:∀c o,c≠D->H c=some o->H' c=some o)(j:H' l=some (.lst ((f i).map V.int)))(k:l≠D)(m:Nat)(c:Addr)(e:(bs++[l])[m]?=some c):H' c=some (.lst ((f m).map V.int))/\c≠D:=by
 by_cases i:m<bs.length
 ·rw[W' i]at e;obtain⟨l,a⟩:=h m c e;exact⟨g _ _ a l,a⟩
 ·have n:=(List.getElem?_eq_some_iff.mp e).1;rw[aas,aa3] at n;obtain rfl:m=bs.length:=by lia
  rw[V' (F' _),Nat.sub_self]at e;obtain rfl:=Option.some.inj e;rw[d];calc⟨j,k⟩
theorem EB{K:W.Frag}{R:VK}{PT:List (List Int)}(o:ie H a PT)(G:PT.length<=5)(t:H D=none)(q:∀H',av H H'->ie H' D PT->R (.ref D) H'):ni [none] (rD K a) (dE 0) fq (OX (Df K) (tj (tV 0) yR)) σ H R D IC.mk:=by
 obtain⟨as,j,G,u⟩:=o;refine aV (J:=rD K a) (n:=PT.length) (λi ys H'=>av H H'/\∃d:List Addr,ys=d.map V.ref/\d.length=i/\∀(m:Nat) b,d[m]?=some b->H' b=some (.lst ((PT.getD m []).map V.int))/\b≠D) (J' (aB ())) ⟨av.new _ t,[],rfl,rfl,λm b e=>by simp at e⟩ ?_ ?_ ?_ ?_
 ·rintro i ys H' v ⟨g,_⟩;exact⟨_,_,aO.of (g _ _ j),by rw[A',cD ()];rfl⟩
 ·rintro ys H' ⟨g,_⟩;exact⟨_,aO.of (g _ _ j),by simp;lia⟩
 ·intro i ys H' v k x w I L z;obtain⟨g,d,rfl,p,r⟩:=w;obtain⟨rfl,y⟩:=z;have l:=y _ (aO.of (g _ _ j));rw[A'] at l;obtain⟨b,B,rfl⟩:=Option.map_eq_some_iff.mp l;walk_at "xf";walk_at "rd"
  try rw[if_pos trivial]
  have j:=g _ _ (u i b B);calc bD _ (.inl (aO.of j)) (λl w=>?_);have u:=av.new (.lst ((PT.getD i []).map V.int)) w;have j:l≠D:=Ne.symm (aq k w);refine bJ (u _ _ k) (by simpa using x) v (J' (aB ())) ⟨λc o e=>by rw[ay (aq e t)];calc u _ _ (g _ _ e),d++[l],by rw[U'];rfl,by simp[p],wR (f:=λm=>PT.getD m []) p r (λc o n e=>by rw[ay n];calc u _ _ e) (by rw[ay j];calc ab) j⟩
 intro ys H2 k M C;obtain⟨F,d,rfl,p,r⟩:=C;calc q H2 F ⟨d,k,p,λm b e=>(r m b e).1⟩
abbrev iT:Stmt:=top 84
inductive Lh(vs:List V)(H:Hp)(Q:VK):Prop
 |mk (v:V) (l:Addr) (zs:List V) (ps:List (Nat×Nat)) (h0:vs=[v,.ref l]) (h1:H l=some (.lst zs)) (h2:eO H 1 zs (ps.map λp=>pairD (pI p))) (h3:HT H 1 v (nj (ps.head?.map pI))) (q:∀H',av H H'->Q (.bl true) H'):Lh vs H Q
def EC:Sp:=λvs H Q _=>Lh vs H Q
theorem uU(D:cw K mg "_law_is_least" "_law_is_least" iT ["_law_found","_law_lone"])(T:Tx K mg C CN CR F FD)(J:Def P w K mg base "_law_plain" 1 ["_law_found"] Cy):Def P w K mg base "_law_is_least" 2 ["_law_found","_law_lone"] EC:=by
 have sc:aD ["_law_found","_law_lone"] ["_law_found","_law_lone"] (az iT):=by walk_at "s"
 symm;obtain⟨v,l,c,ps,rfl,x,n,y,q⟩:=h;have a:=hr.units;refine⟨_,(ag (aU (aC (aY a) (au 1) (bx aa) (aG _)) (aj (aH (fm tO (au 0) gm (aG _)))) aK)
  (aj (aH (fR (aX cS rfl T.bq yD (af (au 0) (af (cU (v:=.ty "tuple") rfl T.cf sC rfl) aa))) (fR (fm (aY a) (aX aN rfl T.bO S' (af (au 0) aa)) ai (aG _)) (fR (aX (dI rfl) rfl T.k6 GJ (af (cu (N':=["_law_one"]) (ix:=[none]) (bI (pv 0)) (λ_ _ _ _=>(aR (i:=0) (show(["_law_one"]:List Str).Nodup by decide +kernel) rfl Sort)) kj (λ_ _ _ _=>(aI J hr (af (au 0) aa)))) aa)) (iz (fm (aY a) (au 0) (ao a (au 1) ai) (aG _))))))))),?_⟩
 have o:c.length=ps.length:=by simpa using n.1
 right;calc⟨aaj _,λr l=>?_⟩;have d:=av.new (.lst []) l;have z:upd H r (.lst []) r=some (.lst []):=ab;have t:=d _ _ x;have B:=y.aJ d.aP;have L:=n.aJ d.aP;generalize upd H r (.lst [])=G at *
 cases ps with
 |nil=>
  have M:c=[]:=List.length_eq_zero_iff.mp o;nofun;subst M;have:v=.bL:=by cases(show HT G 1 v .bL from B);rfl
  subst this;ac_rfl;refine .inl ⟨.inr ⟨_,_,[],[],rfl,rfl,.inr ⟨aO.of t,aO.of z⟩,rfl,λj u v a=>by simp at a⟩,?_⟩
  try rw[if_pos rfl]
  right;calc q _ d
 |cons p ps=>
  obtain⟨N,rfl,a⟩:=mi (show HT G 1 v (pairD (pI p)) from B);calc .inr ⟨⟨c,[],by simp[o],.inl ⟨aO.of t,aO.of z⟩⟩,?_⟩;rw[if_neg ∅];right;calc cW _ true (.tup a) rfl ?_;rw[if_pos rfl];calc bD _ (.inr ⟨_,bF.of a,rfl⟩) ?_;rw[if_pos nofun];calc bt ?_;right;have g:G N=some (.tup (([((p.1:Nat):Int),((p.2:Nat):Int)]:List Int).map V.int)):=a;calc .inr ⟨⟨_,bF.of a⟩,λD l=>Lg g nofun l λa m=>⟨_,rfl,?_⟩⟩;rw[if_pos rfl];nofun;obtain⟨u,I⟩:∃u,c[0]?=some u:=⟨_,cD (by simp[o])⟩
  obtain⟨b,rfl,a⟩:=mi (e:=pI p) (L.2 0 u _ I rfl);ac_rfl;have c:G b=some (.tup (([((p.1:Nat):Int),((p.2:Nat):Int)]:List Int).map V.int)):=a;calc bC (m _ _ t) (aA (j:=0) I) ?_;calc .inl ⟨Gn (k:=18) (.inr ⟨bF.of (m _ _ g),bF.of (m _ _ c)⟩),q _ (d.trans m)⟩
abbrev mF:Stmt:=top 85
inductive Li(C CN CR:Addr)(vs:List V)(H:Hp)(Q:VK):Prop
 |mk (F G:Addr->Prop) (x bg d:Addr) (tn:V) (nt:NT) (r:RS) (ad bd:Nat->Nat->Addr) (a:Addr) (PT:List (List Int)) (t:Addr) (cut:List Int) (h0:vs=[.ref d,.ref x,.ref a,.ref t]) (h1:bU C CN CR F H x bg nt r ad) (h2:r.Ok nt) (h3:r.Iv nt) (h4:r.Pk nt) (h5:r.picks.length<=40) (h6:ie H a PT) (h7:eZ nt r PT) (h8:H t=some (.tup (cut.map V.int))) (h9:lA nt PT cut) (L8:bV G H d tn nt r bd) (q:∀p l zs H',av H H'->H' p=some (.tup [.ref l,.bl true])->H' l=some (.lst zs)->zs.length=(eX r cut (dw r nt.ws.length)).length->Q (.ref p) H'):Li C CN CR vs H Q
def yw(C CN CR:Addr):Sp:=λvs H Q _=>Li C CN CR vs H Q
theorem AD(D:cw K mg "_law_asked" "_law_asked" mF ["_law_run","_law_told","_law_points_here","_law_choice"])(T:Tx K mg C CN CR F FD)(l:Def P w K mg base "_law_is_least" 2 ["_law_found","_law_lone"] EC)(o:Def P w K mg base "_law_orphans" 1 ["_law_run","_law_cut"] Eo)(J:Def P w K mg base "orphan_of" 8 ["run","points","choice"] (Ex C CN CR)):Def P w K mg base "_law_asked" 9 ["_law_run","_law_told","_law_points_here","_law_choice"] (yw C CN CR):=by
 have sc:aD ["_law_run","_law_told","_law_points_here","_law_choice","_law_lone"] ["_law_run","_law_told","_law_points_here","_law_choice"] (az mF):=by walk_at "s"
 symm;obtain⟨F,G,x,z,d,u,b,r,ad,v,a,PT,t,cut,rfl,B,e,g,I,j,y,k,m,n,c,q⟩:=h;have L:=hr.units;refine⟨_,(ag (aZ (i:=4) sc.nd rfl Sort (aI o hr (af (au 0) (af (au 3) aa))))
  (aj (aH (bG (af (au 4) (af (aI l hr (af (aI J hr (af (au 1) (af (cu (N':=["_law_row"]) (ix:=[none]) (bI (pv 2)) (λ_ _ _ _=>(aR (i:=0) (show(["_law_row"]:List Str).Nodup by decide +kernel) rfl Sort)) kj (λ_ _ _ _=>(cR (gN (K:=K) rfl) rfl T.dN wV (af (au 0) aa)))) (af (au 3) aa)))) (af (au 4) aa))) aa)))))),?_⟩
 have N:PT.length<=5:=by have:=k.len;have:=c.ok.II;lia
 right;calc⟨G,d,u,b,r,v,t,cut,rfl,c,e,g,j,.inl m,n.len,λl J H1 o L M=>?_⟩;calc bt ?_;right;have v:=y.same o;obtain⟨as,c,_⟩:=id v;calc .inl ⟨⟨_,aO.of c⟩,λD y=>EB v N y λH2 c u=>?_⟩;have N:=o.trans c;calc⟨F,x,z,b,r,ad,D,PT,t,cut,rfl,B.same N,e,g,I,j,u,k,N _ _ m,n,λv R y O=>?_⟩;calc⟨v,l,J,_,rfl,y _ _ (c _ _ L),M.aJ (c.trans y).aP,O,λb e=>⟨cM,λp g=>?_⟩⟩;have b:=(c.trans y).trans (e.trans (av.new (.tup [.ref l,.bl true]) g));calc q p l J _ (o.trans b) ab (b _ _ L) (by simpa using M.1)
theorem pY {vs:List V}(h:fw H 4 vs (ps.map pairD)):eO H 1 vs (ps.map pairD):=⟨h.1,λi u e b a=>by
 have c:=h.2 i u e b a;rw[A'] at a;obtain⟨p,_,rfl⟩:=Option.map_eq_some_iff.mp a;calc DZ (e:=some p) c⟩
theorem ED(xs:List V)(k:Nat):dS xs none (some (k:Int))=xs.take k:=by
 unfold dS;rw[HT.sE,HT.yS,List.drop_zero,Nat.sub_zero];by_cases h:k<=xs.length
 ·rw[Nat.min_eq_left h]
 ·rw[Nat.min_eq_right (),aaG (F' _),aaG ()]
theorem OD {K:W.Frag}{H:Hp}{p q l m:Addr}(c:H p=some (.tup [.ref l,.bl true]))(d:H q=some (.tup [.ref m,.bl true]))(e:H l=some (.lst []))(f:H m=some (.lst [])):j5 K H 20 (.ref p) (.ref q):=.inr ⟨_,_,_,_,rfl,rfl,.inl ⟨bF.of c,bF.of d⟩,rfl,λi u v a b=>by
 match i with
 |0=>cases a;cases b;calc .inr ⟨_,_,[],[],rfl,rfl,.inr ⟨aO.of e,aO.of f⟩,rfl,λj u v a=>by simp at a⟩
 |1=>cases a;cases b;calc .inl ⟨rfl,rfl⟩
 | i + 2=>simp at a⟩
abbrev mH:Stmt:=top 86
inductive Lj(C CN CR:Addr)(vs:List V)(H:Hp)(Q:VK):Prop
 |mk (F G:Addr->Prop) (x bg d:Addr) (tn:V) (nt:NT) (r:RS) (ad bd:Nat->Nat->Addr) (a:Addr) (PT:List (List Int)) (h0:vs=[.ref x,.ref d,.ref a]) (h1:bU C CN CR F H x bg nt r ad) (h2:bV G H d tn nt r bd) (h3:r.Ok nt) (h4:r.Iv nt) (h5:r.Pk nt) (h6:RS.Ps nt r) (h7:r.picks.length<=40) (h8:ie H a PT) (h9:eZ nt r PT) (L8:∀m,m<nt.ms.length->(0:Int)∈PT.getD m []) (q:∀H',av H H'->Q (.bl true) H'):Lj C CN CR vs H Q
def yx(C CN CR:Addr):Sp:=λvs H Q _=>Lj C CN CR vs H Q
theorem AE(D:cw K mg "_law_right" "_law_right" mH ["_law_told","_law_run","_law_points_here"])(T:Tx K mg C CN CR F FD)(gP:Def P w K mg base "_law_asked" 9 ["_law_run","_law_told","_law_points_here","_law_choice"] (yw C CN CR))(jM:Def P w K mg base "latest_line" 7 ["run","points"] (Er C CN CR))(dR:cn P w K mg base CR "schedule" 1 ["self"] (Cc C CN CR)):Def P w K mg base "_law_right" 10 ["_law_told","_law_run","_law_points_here"] (yx C CN CR):=by
 have sc:aD ["_law_told","_law_run","_law_points_here","_law_line","_law_m","_law_c","_law_lone","_law_right_here","_law_bits","_law_choice"] ["_law_told","_law_run","_law_points_here"] (az mH):=by walk_at "s"
 symm;obtain⟨F,G,x,bg,d,tn,y,r,ad,bd,a,PT,rfl,hR,hT,cm,hI,hP,om,i9,r9,R,hz,q⟩:=h;have I:=hr.units;refine⟨_,(ag (aZ (i:=3) sc.nd rfl Sort (ao I (aI jM hr (af (au 0) (af (cu (N':=["_law_row"]) (ix:=[none]) (bI (pv 2)) (λ_ _ _ _=>(aR (i:=0) (show(["_law_row"]:List Str).Nodup by decide +kernel) rfl Sort)) kj (λ_ _ _ _=>(cR (gN (K:=K) rfl) rfl T.dN wV (af (au 0) aa)))) aa))) ai))
  (ag (aU (aC (ip I) (aI gP hr (af (au 1) (af (au 0) (af (au 2) (af (au 3) aa))))) (bG (af (bx aa) (af hX aa))) (aG _)) (aj (aH hX)) aK)
  (ag (dC PassesOwn.never rfl (cy rfl T.dG (af (aX aN rfl T.bO S' (af (au 2) aa)) aa)) (aR (i:=4) sc.nd rfl Sort)
  (aj (dC PassesOwn.never rfl (bI (ao I (au 2) (au 4))) (aR (i:=5) sc.nd rfl Sort)
  (ag (dy (aI gP hr (af (au 1) (af (au 0) (af (au 2) (af (bc Dw (bc Dw (Jj (au 3) ig (eW (au 4))) (bG (af (au 5) aa))) (Jj (au 3) (eW (bc cB (au 4) ai)) ig)) aa))))) (dW (i:=6) (j:=7) rfl sc.nd rfl rfl Sort Sort))
  (aj (aU (PW.pt (pw_or (bR (bu (au 7))) (pw_or1 (PW.pt (pw_and (aC lO (au 5) (ao I (au 3) (au 4)) (aG _)) (pw_and1 (aC (aY I) (au 6) (bx aa) (aG _)))))))) (aj (aH hX)) aK))))))
  (ag (dC PassesOwn.never rfl (cy rfl T.dG (af (bc ND ai (aX aN rfl T.bO S' (af (au 2) aa))) aa)) (aR (i:=8) sc.nd rfl Sort)
  (ag (aZ (i:=9) sc.nd rfl Sort (cR cg rfl T.cf sC (af (cu (N':=["_law_m","_law_line","_law_bits","_law_points_here"]) (ix:=[none,some 3,some 8,some 2]) (cy rfl T.dG (af (aX aN rfl T.bO S' (af (au 2) aa)) aa)) (λ_ _ _ _=>(aR (i:=0) (show(["_law_m","_law_line","_law_bits","_law_points_here"]:List Str).Nodup by decide +kernel) rfl Sort)) kj (λ_ _ _ _=>(cj (K:=K) rfl I (bx (af (cj (K:=K) rfl I (au 1) (au 0)) (af (cj (K:=K) rfl I (cj (K:=K) rfl I (au 3) (au 0)) (kY gR ai)) aa))) (bc NG (bc NF (au 2) (au 0)) ai)))) aa)))
  (ag (dy (aI gP hr (af (au 1) (af (au 0) (af (au 2) (af (au 9) aa))))) (dW (i:=6) (j:=7) rfl sc.nd rfl rfl Sort Sort))
  (aj (aU (PW.pt (pw_or (bR (bu (au 7))) (pw_or1 (PW.pt (pw_and (aC (Nm I) (au 9) (au 3) (aG _)) (pw_and1 (aC (aY I) (au 6) (bx aa) (aG _)))))))) (aj (aH hX)) aK)))))
  (aj (aH (fm (aY I) (eU dR T.a0 hr (au 0)) (ao I (au 1) aE) (aG _)))))))),?_⟩
 nofun;obtain⟨dx,o,hx,ho⟩:=hR.ins;obtain⟨o',hd,nF,nP,nz⟩:=hT.dk;have ba:=hT.ok;have h5:=ba.II;have p6:=R.len;obtain⟨as0,Gq,Cu,AY⟩:=id r9;ac_rfl;walk_at "xg";right;refine bt ?_;right;refine .inl ⟨⟨_,aO.of Gq⟩,λD hD=>EB r9 () hD λH1 s1 hPD=>?_⟩;refine⟨F,x,bg,y,r,ad,D,PT,rfl,hR.same s1,cm,hI,hP,om,i9,hPD,R,hz,λtl ct fl fv n H2 s2 etl ect _ _ _ Z5=>?_⟩;refine dJ etl (aA (j:=0) rfl) ?_;refine L2.bz h1 ?_;clear h1 hPD;have jw:=s1.trans s2;have LS:=Lb Z5;have uT:=yu cm hI om R hz n;have afJ:∀{z:List Int} {m:Nat},lA y PT z->m<y.ms.length->(kF r y.ws.length PT n).1.getD m 0<z.getD m 0->0<(eX r z (dw r y.ws.length)).length:=λhc hm h=>Lf cm hI om R hz hc hm h;have Z6:=λz hc h lP=>Gm (z:=z) (n:=n) cm hI om R hz hc h lP;generalize (kF r y.ws.length PT n).1=cut at *;have Gu:=uT.len;have ak:∀{G':Hp} {Q':VK} {t':Addr} {z:List Int},av H G'->G' t'=some (.tup (z.map V.int))->lA y PT z->(∀p l g G2,av G' G2->G2 p=some (.tup [.ref l,.bl true])->G2 l=some (.lst g)->g.length=(eX r z (dw r y.ws.length)).length->Q' (.ref p) G2)->yw C CN CR [.ref d,.ref x,.ref a,.ref t'] G' Q' E0:=λs e hc k=>⟨F,G,x,bg,d,tn,y,r,ad,bd,a,PT,_,_,rfl,hR.same s,cm,hI,hP,i9,r9.same s,R,e,hc,hT.same s,k⟩
 clear om Z5 s1 s2 etl hD;walk_at "xg";refine L2.jb λT0 U0 uQ wQ=>?_;right;refine ak jw ect uT λp1 l1 g H3 s3 Z2 Qq S=>?_;obtain rfl:g=[]:=List.length_eq_zero_iff.mp (by rw[S,LS];rfl);refine⟨aaj _,λO VC=>⟨cM,λq2 Z1=>.inl ?_⟩⟩;have s4:=(av.new (.lst []) VC).trans (av.new (.tup [.ref O,.bl true]) Z1);have eq1:upd (upd H3 O (.lst [])) q2 (.tup [.ref O,.bl true]) O=some (.lst []):=av.new _ Z1 _ _ ab;have eq2:upd (upd H3 O (.lst [])) q2 (.tup [.ref O,.bl true]) q2=some (.tup [.ref O,.bl true]):=ab;generalize upd (upd H3 O (.lst [])) q2 (.tup [.ref O,.bl true])=H4 at *;refine⟨OD (s4 _ _ Z2) eq2 (s4 _ _ Qq) eq1,pL ?_⟩;rw[if_neg ∅];refine L2.bz wQ ?_;show N1 _ _;refine L2.bz h1 ?_;have s24:=s3.trans s4;clear h1 uQ wQ S Z2 Qq VC Z1 eq1 eq2 s3 s4;have vb:as0.length=y.ms.length:=by lia
 have Sy:=jw.trans s24;have Uj:=s24 _ _ ect;clear ect jw s24;walk_at "xg";right;refine bD _ (.inl ⟨_,aO.of (Sy _ _ Gq),rfl⟩) ?_;rw[M',vb];refine⟨_,rfl,(),(),iu (n:=y.ms.length) (λi σ H'=>(∃z4 L M N,σ=[some (V.ref x),some (V.ref d),some (V.ref a),some (V.ref ct),z4,L,M,N,none,none])/\av H4 H') ?_ ?_ ?_⟩
 ·exact⟨⟨_,_,_,_,rfl⟩,av.refl _⟩
 ·intro i σ H5 hi fO;obtain⟨⟨z4,L,M,N,rfl⟩,D8⟩:=fO;clear h1;rw[Int.zero_add];have JC:=Sy.trans D8;have Uk:=D8 _ _ Uj;obtain⟨b,hb⟩:∃b,as0[i]?=some b:=⟨_,cD ()⟩
  have UT:=JC _ _ (AY i b hb);refine⟨_,.ref b,.inl (aO.of (JC _ _ Gq)),aA (by rw[A',hb];rfl),.inl ⟨⟨_,aO.of UT⟩,d9 (K:=K) (xs:=(PT.getD i []).map V.int) (λk σ G=>(∃L M N,σ=[some (V.ref x),some (V.ref d),some (V.ref a),some (V.ref ct),some (V.int i),L,M,N,none,none])/\av H5 G) ?_ ?_ ?_ ?_⟩⟩
  ·exact⟨⟨_,_,_,rfl⟩,av.refl _⟩
  ·rintro k σ G hk ⟨_,e⟩;exact aO.of (e _ _ UT)
  ·intro k xx σ H6 hx fP;nofun;obtain⟨⟨L,M,N,rfl⟩,U⟩:=fP;rw[A']at hx;obtain⟨c,hc,rfl⟩:=Option.map_eq_some_iff.mp hx;ac_rfl;have HE:=aan hc;have X:=JC.trans U;have Gr:=U _ _ Uk;clear UT hx;calc L2.kd λN2 h2=>?_;right;calc⟨_,_,rfl,Gr,λq3 G8 u8 eq3=>⟨K6,λq4 hq4=>?_⟩⟩;have u9:=av.new (.tup [.int c]) hq4;calc BN _ _ _ _ rfl rfl (u9 _ _ eq3) ab (by rw[aax];have:=gM (cut.map V.int) none (some (i:Int));simp at this ⊢;lia) (λq5 G10 u10 eq5=>?_);have Ul:=u8.trans (u9.trans u10);have Qr:=Ul _ _ Gr;calc⟨_,_,rfl,Qr,λq6 G11 u11 eq6=>⟨_,_,_,_,rfl,rfl,u11 _ _ eq5,eq6,by rw[aax];have:=gM (cut.map V.int) none (some (i:Int));have:=gM (cut.map V.int) (some ((i:Int)+1)) none;simp at *;lia,λq7 G12 u12 Y=>?_⟩⟩;have OF:=Ul.trans (u11.trans u12);have Y:G12 q7=some (.tup ((cut.set i c).map V.int)):=by
    rw[Y,ED,show((i:Int)+1)=((i+1:Nat):Int) by lia,qL,List.set_eq_take_append_cons_drop,if_pos (),U',List.map_take,aaN,List.map_drop,List.append_assoc];rfl
   have Hh:=uT.next hi HE;calc ak (X.trans OF) Y Hh λp l g G13 u13 ep el S=>?_;have Z7:=(OF.trans u13) _ _ Gr;have Gs:=OF.trans u13;clear u8 u9 u10 u11 u12 OF u13 Ul eq3 eq5 eq6 Y Qr hq4;calc rF (bF.of ep) ?_;calc L2.bz h2 ?_;clear h2;calc L2.jb λT0 U0 uQ wQ=>?_;right;have hU:∀{Z8:Hp},av G13 Z8->U0 [some (V.ref x),some (V.ref d),some (V.ref a),some (V.ref ct),some (V.int ↑i),some (V.int c),some (V.ref l),some (V.bl true),none,none] Z8:=λs=>by
    calc L2.bz wQ ?_;exact⟨⟨_,_,_,rfl⟩,U.trans (Gs.trans s)⟩
   clear uQ wQ;rw[if_neg ∅];calc dJ Z7 (uR (m:=(i:Int)) () ()) ?_;rw[aao];right
   cases hd:decide (cut.getD i 0<c) with
   |false=>
    rw[if_neg ∅];calc hU (av.refl _)
   |true=>
    rw[if_pos rfl];have hl:=afJ Hh hi (by rw[AB (),if_pos rfl];calc aav hd);refine⟨aaj _,λq8 Z9=>.inr ⟨⟨g,[],by rw[S];calc aaA hl,.inl ⟨aO.of (av.new _ Z9 _ _ el),aO.of ab⟩⟩,hU (av.new _ Z9)⟩⟩
  ·intro σ H7 lg;obtain⟨⟨L,M,N,rfl⟩,Pz⟩:=lg;exact⟨⟨_,_,_,_,rfl⟩,D8.trans Pz⟩
 intro σ H5 pN;obtain⟨⟨z4,L,M,N,rfl⟩,D8⟩:=pN;show N1 _ _;calc L2.bz h1 ?_;clear h1;have JC:=Sy.trans D8;have Uk:=D8 _ _ Uj;clear Sy D8 Uj;walk_at "xg";obtain⟨W,hW⟩:∃W,2^y.ms.length=W:=⟨_,rfl⟩
 have hB:W<=32:=by rw[<-hW];exact Nat.pow_le_pow_right (n:=2) ∅ h5
 refine⟨_,.inl ⟨_,aO.of (JC _ _ Gq),rfl⟩,⟨(),by rw[M'];lia,∅⟩,(W:Int),by rw[<-hW];simp[vb],(),(),iu (n:=W) (λi σ H'=>(∃z4 L M N z8 z9,σ=[some (V.ref x),some (V.ref d),some (V.ref a),some (V.ref ct),z4,L,M,N,z8,z9])/\av H5 H') ?_ ?_ ?_⟩
 ·exact⟨⟨_,_,_,_,_,_,rfl⟩,av.refl _⟩
 ·intro B σ H6 hBi rT;obtain⟨⟨z4,L,M,N,z8,z9,rfl⟩,U⟩:=rT;clear h1 hB;rw[Int.zero_add];have X:=JC.trans U;have Gr:=U _ _ Uk;calc L2.kd λN2 h2=>?_;calc bt ?_;right;calc bD _ (.inl ⟨_,aO.of (X _ _ Gq),rfl⟩) ?_;rw[M',vb,aao];calc gp () () (λD hD=>?_);refine aV (J:=Bc 0 y.ms.length) (n:=y.ms.length) (λi ys H'=>av H6 H'/\∃g:List Int,ys=g.map V.int/\g.length=i/\∀m,m < i->g.getD m 0=cut.getD m 0\/g.getD m 0=(PT.getD m []).bf 0) (J' (aB ())) ⟨av.new _ hD,[],rfl,rfl,λm h=>absurd h (aaX _)⟩ (λi ys H' hi _=>hi) (λys H' _=>F' _) ?_ ?_
  ·intro i ys H7 hi aW je xT x G2 Co;nofun;obtain⟨rJ,g,rfl,S,Z⟩:=xT;obtain⟨rfl,rfl⟩:=Co;ac_rfl;walk_at "xf";right
   try rw[if_pos trivial]
   rw[Int.zero_add];have VD:=X.trans rJ;obtain⟨b,hb⟩:∃b,as0[i]?=some b:=⟨_,cD ()⟩
   calc dJ (rJ _ _ Gr) (uR (m:=(i:Int)) () ()) ?_;calc bC (VD _ _ Gq) (aA (v:=.ref b) (by rw[A',hb];rfl)) ?_;calc bC (VD _ _ (AY i b hb)) (KW (R.ne i hi)) ?_;calc⟨cM,λO VC=>⟨(),?_⟩⟩;obtain⟨v,hv,hvv⟩:∃v:Int,ia [V.int (cut.getD i 0),V.int ((PT.getD i []).bf 0)] (Builtin.bitAnd ((B:Int)/2^((i:Nat):Int).toNat) 1)=some (.int v)/\(v=cut.getD i 0\/v=(PT.getD i []).bf 0):=by
    rcases acU (x:=(B:Int)/2^((i:Nat):Int).toNat) (Int.ediv_nonneg (Int.natCast_nonneg _) (sY _)) with e|e<;>rw[e]
    ·exact⟨_,rfl,.inl rfl⟩
    ·exact⟨_,rfl,.inr rfl⟩
   have u:=av.new (.lst [V.int (cut.getD i 0),V.int ((PT.getD i []).bf 0)]) VC;calc bC ab hv ?_;calc bJ (u _ _ aW) je hi (J' (aB ())) ⟨λc o e=>by rw[ay (aq e hD)];calc u _ _ (rJ _ _ e),g++[v],by rw[U'];rfl,by rw[aas,S];rfl,λm hm=>?_⟩;by_cases e:m<i
   ·rw[L',W' (),<-L'];exact Z m e
   ·obtain rfl:m=i:=by lia
    rw[L',V' (),S,Nat.sub_self];exact hvv
  intro ys H7 aW o9 Kf;obtain⟨rJ,g,rfl,S,Z⟩:=Kf;calc .inl ⟨_,aO.of aW,λc2 Rp=>?_⟩;have Vt:=av.new (.tup (g.map V.int)) Rp;have ec8:upd H7 c2 (.tup (g.map V.int)) c2=some (.tup (g.map V.int)):=ab;have s08:=X.trans (rJ.trans Vt);have VE:=rJ.trans Vt;generalize upd H7 c2 (.tup (g.map V.int))=H8 at *;calc L2.bz h2 ?_;clear h2 aW o9 rJ Vt;have hcz:lA y PT g:=⟨S,λm hm=>by
   rcases Z m hm with e|e<;>rw[e]
   ·exact uT.mem m hm
   ·calc fH (List.length_pos_iff.mpr (R.ne m hm))⟩
  calc L2.kd λN2 h2=>?_;right;calc ak s08 ec8 hcz λp l ws H9 Vu ep el kg=>?_;calc rF (bF.of ep) ?_;calc L2.bz h2 ?_;clear h2;have s69:=VE.trans Vu;calc L2.jb λT0 U0 uQ wQ=>?_;right;have hU:∀{Z8:Hp},av H9 Z8->U0 [some (V.ref x),some (V.ref d),some (V.ref a),some (V.ref ct),z4,L,some (V.ref l),some (V.bl true),some (V.int ↑B),some (V.ref c2)] Z8:=λs=>by
   calc L2.bz wQ ?_;exact⟨⟨_,_,_,_,_,_,rfl⟩,U.trans (s69.trans s)⟩
  clear uQ wQ;rw[if_neg ∅];obtain⟨b,hb,lP⟩:=Jl (K:=K) (Vu _ _ ec8) (s69 _ _ Gr);refine R8 _ _ b rfl rfl hb ?_
  cases b with
  |true=>
   rw[if_neg ∅];calc hU (av.refl _)
  |false=>
   rw[if_pos (show(!false)=true from rfl)];have hl:=Z6 g hcz Z (lP rfl);refine⟨aaj _,λq8 Z9=>.inr ⟨⟨ws,[],by rw[kg];calc aaA hl,.inl ⟨aO.of (av.new _ Z9 _ _ el),aO.of ab⟩⟩,hU (av.new _ Z9)⟩⟩
 intro σ H6 Oe;obtain⟨⟨z4,L,M,N,z8,z9,rfl⟩,U⟩:=Oe;show N1 _ _;calc L2.bz h1 ?_;clear h1;have X:=JC.trans U;right;calc⟨x,dx,_,rfl,X _ _ hx,eY ⋯,F,x,bg,y,r,ad,rfl,hR.same X,λl vs hl Yo=>?_⟩;have s7:=av.new (.lst vs) hl;have el:upd H6 l (.lst vs) l=some (.lst vs):=ab;have afN:=Yo.cv s7.cv;have VD:=X.trans s7;generalize upd H6 l (.lst vs)=H7 at *;obtain⟨v0,e0,d0⟩:=(hT.same VD).cH.lst (t:=0) (i:=0) (by show 0<1;decide) rfl;calc bD _ (An (VD _ _ hd)) ?_;calc .inl ⟨Gj el e0 (pY afN) (pY (d0.cv dD)),q _ VD⟩
theorem of_map{α:Type}{f:α->V}{a:List α}:∀(xs:List V),(∀x∈xs,x∈a.map f)->∃us:List α,xs=us.map f/\∀u∈us,u∈a
 | [],_=>⟨[],rfl,λu h=>by simp at h⟩
 |x::xs,h=>by
  obtain⟨us,e,b⟩:=of_map xs λy c=>h y (aai _ c);obtain⟨t,d,rfl⟩:=List.mem_map.mp (h x aaa);exact⟨t::us,by rw[e];rfl,λu g=>by
   rcases List.mem_cons.mp g with rfl|a
   ·exact d
   ·calc b u a⟩
theorem OG(s:av H0 H)(f:Fr Z H H')(a:∀b,Z b->H0 b=none):av H0 H':=λb o e=>f.at (s _ _ e) λz=>by rw[a b z]at e;cases e
theorem ints_of{xs:List V}(h:∀x∈xs,x∈ns.map V.int):∃us:List Int,xs=us.map V.int:=let ⟨us,e,_⟩:=of_map xs h;⟨us,e⟩
theorem Lk {n k:Nat}{vs:List V}{c:List DV}(h:eO H n vs c):eO H n (vs.take k) (c.take k):=⟨by rw[aaB,aaB,h.1],λi u e a b=>by
 rw[List.getElem?_take]at a b;split at a
 ·next z=>rw[if_pos z]at b;exact h.2 i u e a b
 ·cases a⟩
theorem Ll {n k:Nat}{vs:List V}{a:List DV}(h:eO H n vs a):eO H n (vs.drop k) (a.drop k):=⟨by rw[aba,aba,h.1],λi u e a b=>by
 rw[List.getElem?_drop] at a b;calc h.2 _ u e a b⟩
def nR(r:RS)(PT:List (List Int)):List (List Int):=(List.range PT.length).map λm=>(PT.getD m []).filter λc:Int=>decide (c<((r.mm m).eB.length:Nat))
theorem AF{PT:List (List Int)}(h:m<PT.length):(nR r PT).getD m []=(PT.getD m []).filter (λc:Int=>decide (c<((r.mm m).eB.length:Nat))):=by
 unfold nR;rw[L',A',List.getElem?_range h];rfl
theorem Um{nt:NT}{PT:List (List Int)}(b:PT.length=nt.ms.length)(h:∀m,m<nt.ms.length->Eu (r.mm m).eB.length (PT.getD m [])):eZ nt r PT/\∀m,m<nt.ms.length->(0:Int)∈PT.getD m []:=
 ⟨⟨b,λm a=>List.ne_nil_of_mem (h m a).z,λm a=>(h m a).ri,λm a=>(h m a).bd⟩,λm a=>(h m a).z⟩
theorem AG{nt:NT}{PT:List (List Int)}(f:r.Ok nt)(e:eZ nt r' PT)(g:∀m,m<nt.ms.length->(0:Int)∈PT.getD m []):eZ nt r (nR r PT)/\∀m,m<nt.ms.length->(0:Int)∈(nR r PT).getD m []:=by
 calc Um (by unfold nR;rw[M',List.length_range];calc e.len) λm d=>?_;have h:=f.xH d;rw[AF (by rw[e.len];calc d)];calc⟨(e.ri m d).filter _,λc h=>?_,List.mem_filter.mpr ⟨g m d,aar ()⟩⟩;obtain⟨a,b⟩:=List.mem_filter.mp h;calc⟨(e.bd m d c a).1,aav b⟩
theorem EE{K:W.Frag}{F:Addr->Prop}{R:VK}{d:Addr}{tn:V}{nt:NT}{bd:Nat->Nat->Addr}{PT:List (List Int)}(M:tJ [none,none,some j] σ=[none,none,some (.ref d)])(N:bV F H d tn nt r bd)(hP:ie H a PT)(hl:PT.length=nt.ms.length)(hb:∀m,m<nt.ms.length->(PT.getD m []).length<=100)(hD:H D=none)(q:∀H',av H H'->ie H' D (nR r PT)->R (.ref D) H'):ni [none,none,some j] (Ig true K a) (Ba K 2 (iA (dE 0) (iA (dE 1) A9))) fq (WJ [none,some 0,some 2] (HM K (tV 1)) (dE 0) (tT (AK (LV λi j=>V.bl (decide (i<j))) (tV 0) (OX (M5 K) (tj (AK (LW K) (AK (LW K) (tV 2) (tC (V.str "states"))) (tV 1)) yR)))) (tV 0) IC.mk) σ H R D IC.mk:=by
 obtain⟨o',hd,_,_,nz⟩:=N.dk;have l1:=(nz 1 ∅ ∅).1;have h5:=N.ok.II;obtain⟨as,O,Cu,AY⟩:=hP;refine aV (J:=Ig true K a) (n:=nt.ms.length) (λi ys H'=>av H H'/\∃u:List Addr,ys=u.map V.ref/\u.length=i/\∀(m:Nat) b,u[m]?=some b->H' b=some (.lst (((nR r PT).getD m []).map V.int))/\b≠D) (J' (aB ())) ⟨av.new _ hD,[],rfl,rfl,λm b e=>by simp at e⟩ ?_ ?_ ?_ ?_
 ·rintro i ys H' w ⟨v,_⟩;exact⟨_,_,Sq.l (v _ _ O),by rw[A',cD ()];rfl⟩
 ·rintro ys H' ⟨v,_⟩;exact⟨_,Sq.l (v _ _ O),by simp;lia⟩
 ·intro i ys H' w P je fO xx H4 fP;obtain⟨v,u,rfl,S,T⟩:=fO;obtain⟨U,AX,rfl,y⟩:=fP;obtain⟨z,ez,rfl⟩:=y _ (Sq.l (v _ _ O));rw[A'] at ez;obtain⟨b,X,rfl⟩:=Option.map_eq_some_iff.mp ez;have Y:=av.new (.tup [.int (i:Nat),.ref b]) AX;have L:upd H' U (.tup [.int (i:Nat),.ref b]) U=some (.tup [.int (i:Nat),.ref b]):=ab;rw[M];calc rF (bF.of L) ⟨Ext.set (Ext.set (Ext.refl _) rfl) rfl,?_⟩;have ya:=Y _ _ P;have Z:=v.trans Y;generalize upd H' U (.tup [.int (i:Nat),.ref b])=G3 at *;left
  try rw[if_pos trivial]
  calc bt ?_;left;have p:=Z _ _ (AY i b X);have v:=hb i w;have hca:(nR r PT).getD i []=_:=AF (r:=r) (PT:=PT) (m:=i) ();generalize PT.getD i []=ns at *;calc .inl ⟨⟨_,aO.of p⟩,λE hE=>?_⟩;have x:E≠D:=Ne.symm (aq ya hE);refine aV (J:=rD K b) (n:=ns.length) (λk B G=>av G3 G/\B=((ns.take k).filter λc:Int=>decide (c<((r.mm i).eB.length:Nat))).map V.int) (J' (aB ())) ⟨av.new _ hE,rfl⟩ ?_ ?_ ?_ ?_
  ·rintro k B G C ⟨g,_⟩;exact⟨_,_,aO.of (g _ _ p),by rw[A',aS (d:=0) C];rfl⟩
  ·rintro B G ⟨g,_⟩;exact⟨_,aO.of (g _ _ p),nofun⟩
  ·intro k B G C I nr lg xx G2 pN;obtain⟨g,rfl⟩:=lg;obtain⟨rfl,y⟩:=pN;have ex:=y _ (aO.of (g _ _ p));rw[A',aS (d:=0) C] at ex;obtain rfl:=Option.some.inj ex;have sG:=Z.trans g;walk_at "xf";left;refine bD _ (Kn (sG _ _ hd)) ?_;refine bC (sG _ _ l1) (bo (show i < nt.n 1 from w)) ?_;obtain⟨p,v,y⟩:=(N.same sG).cH.lst (t:=1) (i:=i) w rfl;have z:p.length=(r.mm i).eB.length:=by simpa using y.1
   calc bD _ (.inl ⟨_,aO.of v,rfl⟩) ?_;rw[z];have L:(ns.take (k+1)).filter (λc:Int=>decide (c<((r.mm i).eB.length:Nat)))=(ns.take k).filter (λc:Int=>decide (c<((r.mm i).eB.length:Nat)))++if decide (ns.getD k 0<((r.mm i).eB.length:Nat))=true then[ns.getD k 0] else[]:=by
    rw[aaH,aS (d:=0) C,aaR];congr 1;show List.filter _ [_]=_;rw[List.filter_cons,List.filter_nil]
   cases p:decide (ns.getD k 0<((r.mm i).eB.length:Nat)) with
   |true=>
    rw[if_pos rfl];calc bJ I nr C (J' (aB ())) ⟨λc o e=>by rw[ay (aq e hE)];calc g _ _ e,?_⟩;rw[L,p,if_pos rfl,U'];rfl
   |false=>
    rw[if_neg ∅];exact⟨_,I,(),g,by rw[L,p,if_neg ∅,aam]⟩
  rintro B G4 I _ ⟨s5,rfl⟩;rw[aat]at I;have i:=Z.trans s5;have k:=Y.trans s5;refine bJ (s5 _ _ ya) je w (J' (aB ())) ⟨λc o e=>by rw[ay (aq e hD)];calc i _ _ e,u++[E],by rw[U'];rfl,by simp[S],wR (f:=λm=>(nR r PT).getD m []) S T (λc o n e=>by rw[ay n];calc k _ _ e) (by rw[ay x,hca];calc I) x⟩
 intro ys H2 P o9 rT;obtain⟨g,u,rfl,S,T⟩:=rT;calc q _ g ⟨u,P,by unfold nR;rw[M',List.length_range];lia,λm b e=>(T m b e).1⟩
abbrev wU:Stmt:=top 87
def yy(K:W.Frag):Sp:=λvs H Q _=>∃(a:Addr) (ns:List Int),vs=[.ref a]/\aO K H a (ns.map V.int)/\ns.length<=63/\∀H',Q (.bl true) H'
theorem Uo{f:Addr}{A:FuncData}(D:MY K "law" "law" wU f A)(T:Tx K mg C CN CR F FD)(gg:Def P w K mg base "_law_at" 1 ["_law_script","_law_k"] (Jt K))(qR:Def P w K mg base "_law_net" 5 ["_law_script"] (Ei K))(iV:Def P w K mg base "_law_net_made" 9 ["_law_net_here"] (wN C CN))(kJ:Def P w K mg base "_law_played" 4 ["_law_net_here","_law_schedule"] Et)(kK:Def P w K mg base "_law_points" 2 ["_law_run","_law_pot_here","_law_zero"] Ew)(fK:Def P w K mg base "_law_pot" 1 ["_law_cell"] BX)(nv:Def P w K mg base "_law_ran" 4 ["_law_net_here","_law_cells"] En)(fM:Def P w K mg base "_law_right" 10 ["_law_told","_law_run","_law_points_here"] (yx C CN CR))(iq:Def P w K mg base "played_run" 7 ["net","schedule"] (Em C CN CR))(oN:cn P w K mg base CR "pick" 7 ["self","way","number"] (JY C CN CR)):nC P w K mg base E8 11 f A ["_law_script"] (yy K):=by
 have M:aD ["_law_script","_law_run","_law_points_here","_law_amid","_law_made","_law_told","_law_early","_law_way","_law_number","_law_again","_law_there"] ["_law_script"] (az wU):=by walk_at "s"
 refine D.ok M (λvs H Q E h=>?_) (λgQ A outer s H vs Q E l h=>?_)
 ·obtain⟨a,ns,rfl,hS,h63,q⟩:=h;rfl
 ·obtain⟨a,ns,rfl,hS,h63,q⟩:=h;have A:=l.units;refine⟨_,(ag (aZ (i:=1) M.nd rfl Sort (aI nv l (af (aI qR l (af (au 0) aa)) (af (IJ (au 0) (eW ai) (eW ai)) aa))))
   (ag (aZ (i:=2) M.nd rfl Sort (aI kK l (af (au 1) (af (aI fK l (af (aI gg l (af (au 0) (af ai aa))) aa)) (af hX aa)))))
   (ag (aZ (i:=3) M.nd rfl Sort (aI kJ l (af (ao A (au 1) aE) (af (nX (ao A (au 1) aE) ig (eW (bc lN (aX aN rfl T.bO S' (af (ao A (au 1) aE) aa)) ai))) aa))))
   (ag (aZ (i:=4) M.nd rfl Sort (aI iV l (af (ao A (au 1) aE) aa)))
   (ag (aZ (i:=5) M.nd rfl Sort (aI iq l (af (au 4) (af (cR cA rfl T.dN wV (af (ao A (au 3) aE) aa)) aa))))
   (ag (ee (i:=6) M.nd rfl Sort (N':=["_law_m","_law_row","_law_amid"]) (ix:=[none,none,some 3]) (gK rfl T.cK (af (au 2) aa)) (λ_ _ _ _=>(fX (K:=K) rfl (i:=0) (j:=1) rfl (show(["_law_m","_law_row","_law_amid"]:List Str).Nodup by decide +kernel) rfl rfl Sort Sort)) kj (λ_ _ _ _=>(cu (N':=["_law_c","_law_m","_law_amid"]) (ix:=[none,some 0,some 2]) (Dv (K:=K) rfl (au 1)) (λ_ _ _ _=>(aR (i:=0) (show(["_law_c","_law_m","_law_amid"]:List Str).Nodup by decide +kernel) rfl Sort)) (λ_ _ _ _=>(fT (aC fc (au 0) (aX (kh (K:=K) rfl) rfl T.bO S' (af (cj (K:=K) rfl A (cj (K:=K) rfl A (au 2) aE) (au 1)) aa)) (aG _)))) (λ_ _ _ _=>(au 0)))))
   (ag (aU (bR (bu (aI fM l (af (au 5) (af (au 3) (af (au 6) aa)))))) (aj (aH hX)) aK)
   (ag (dC PassesOwn.never rfl (bI (nX (ao A (au 1) aE) (eW (aX aN rfl T.bO S' (af (ao A (au 3) aE) aa))) ig)) (dW (i:=7) (j:=8) rfl M.nd rfl rfl Sort Sort)
   (aj (bN (eS oN T.a0 l (au 5) (af (au 7) (af (au 8) aa))))))
   (ag (aZ (i:=9) M.nd rfl Sort (aI nv l (af (ao A (au 1) aE) (af (Sk (IJ (au 0) (eW ai) (eW ai)) (kY gR ai)) aa))))
   (ag (ee (i:=10) M.nd rfl Sort (N':=["_law_m","_law_row","_law_again"]) (ix:=[none,none,some 9]) (gK rfl T.cK (af (au 2) aa)) (λ_ _ _ _=>(fX (K:=K) rfl (i:=0) (j:=1) rfl (show(["_law_m","_law_row","_law_again"]:List Str).Nodup by decide +kernel) rfl rfl Sort Sort)) kj (λ_ _ _ _=>(cu (N':=["_law_c","_law_m","_law_again"]) (ix:=[none,some 0,some 2]) (Dv (K:=K) rfl (au 1)) (λ_ _ _ _=>(aR (i:=0) (show(["_law_c","_law_m","_law_again"]:List Str).Nodup by decide +kernel) rfl Sort)) (λ_ _ _ _=>(fT (aC fc (au 0) (aX (kh (K:=K) rfl) rfl T.bO S' (af (cj (K:=K) rfl A (cj (K:=K) rfl A (au 2) aE) (au 1)) aa)) (aG _)))) (λ_ _ _ _=>(au 0)))))
   (ag (aU (PW.pt (pw_or (bR (bu (aI fM l (af (au 5) (af (au 1) (af (au 2) aa)))))) (pw_or1 (bR (bu (aI fM l (af (aI iq l (af (au 4) (af (cR cA rfl T.dN wV (af (ao A (au 9) aE) aa)) aa))) (af (au 9) (af (au 10) aa))))))))) (aj (aH hX)) aK)
   (aj (aH (aI fM l (af (au 5) (af (au 1) (af (au 2) aa))))))))))))))))),?_⟩
  walk_at "xg";left;refine ue a ns rfl hS h63 (λt am aw al mv wv lv ib ws ls H1 s1 h l A M T g6 g7 g=>?_);have Ox:ToldN H1 (.ref t) ib ws ls:=⟨t,am,aw,al,mv,wv,lv,rfl,h,l,A,M,T,g6,g7⟩
  clear h l A M T g6 g7;obtain⟨d,I⟩:∃d:NT,d=⟨ib,ws⟩:=⟨_,rfl⟩
  have P0:∀l∈ls,0<=l.1/\l.1<d.ws.length:=λl h=>by rw[I];exact⟨(g.lo l h).1,(g.lo l h).2.1⟩
  have yI:d.Ok:=by rw[I];exact g.nt
  generalize V.ref t=v at *;have W:=s1.seq hS;calc bD _ W (λlc hlc=>?_);obtain⟨O,LZ⟩:=ints_of (ns:=ns) λx (hx:x∈dS (ns.map V.int) (some 9) (some 39))=>Nu hx;have h:O.length<=30:=by
   have:=Nt (xs:=ns.map V.int) (i:=9) (j:=39);rw[show dS (ns.map V.int) (some ((9:Nat):Int)) (some ((39:Nat):Int))=O.map V.int from LZ,M']at this;exact this
  have s2:=av.new (.lst (dS (ns.map V.int) (some 9) (some 39))) hlc;have elc:upd H1 lc (.lst (dS (ns.map V.int) (some 9) (some 39))) lc=some (.lst (O.map V.int)):=by rw[<-LZ];exact ab
  generalize Jy:upd H1 lc (.lst (dS (ns.map V.int) (some 9) (some 39)))=H2 at *;refine⟨λ_=>False,v,d,ls,lc,O,rfl,?_,λb B=>B.elim,yI,g.Qg,P0,elc,(),λd0 b0 y H3 A h l X J aab=>?_⟩
  ·rw[I];exact Ox.cv λb o e n'=>by rw[gU (λz=>z)];exact s2 _ _ e
  refine L2.bz h1 ?_;clear h1 hlc elc Jy hS;have Y:=s2.trans A;have sq3:=Y.seq W;have aac:ToldN H3 v ib ws ls:=Ox.cv Y.cv;clear s2 A h l W Ox Y s1;have hPk:=J.pk;have hPs:=J.ps;walk_at "xg";left;refine R8 a ns 8 rfl sq3 ∅ (λc=>?_);refine bD c rfl (λp zs R sL=>?_);have Cp:=av.new (.lst (zs.map V.int)) R;have aad:fg (upd H3 p (.lst (zs.map V.int))) p:=⟨zs,ab,sL⟩
  generalize upd H3 p (.lst (zs.map V.int))=H4 at *;calc⟨λ_=>False,d0,v,d,y,b0,p,H3,rfl,X,Cp,R,aad,J.ok,aab,λa1 PT1 H6 l M S sL=>?_⟩;calc L2.bz h1 ?_;clear h1;have h:=l.over Cp R;have VF:=M H6 (Step.refl l.fB);have hT6:=X.same h;have sq6:=h.seq sq3;have aae:ToldN H6 v ib ws ls:=aac.cv h.cv;have A:ToldN H6 v d.ms d.ws ls:=by rw[I];exact aae
  clear Cp h l M aad R X sq3 aac;have tnf:∀{G:Hp},av H6 G->ToldN (jZ (λ_=>False) G) v d.ms d.ws ls:=λs=>A.cv λb o e n'=>by rw[gU (λz=>z)];exact s _ _ e
  nofun;obtain⟨h,hd,l,A,M⟩:=hT6.dk;obtain⟨u,e0,d0'⟩:=hT6.cH.lst (t:=0) (i:=0) (by show 0<1;decide) rfl;ac_rfl;have Qp:=pY (d0'.cv dD);have h:u.length=y.picks.length:=by simpa using d0'.1
  clear d0';walk_at "xg";left;refine⟨_,yj hd,_,An hd,_,An hd,_,.inl ⟨_,aO.of e0,rfl⟩,⟨∅,⋯⟩,.inl ⟨_,e0,λl1 uo=>?_⟩⟩;obtain⟨r,h⟩:∃r:Nat,((u.length:Nat):Int)/2=(r:Nat):=⟨u.length/2,()⟩
  have Yv:r<=y.picks.length:=by lia
  rw[h,show dS u none (some ((r:Nat):Int))=u.take r from ED _ _];have s7:=av.new (.lst (u.take r)) uo;have Qq:upd H6 l1 (.lst (u.take r)) l1=some (.lst (u.take r)):=ab;have hv7:=(Lk (k:=r) Qp).aJ s7.aP;rw[<-List.map_take]at hv7;generalize upd H6 l1 (.lst (u.take r))=H7 at *;obtain⟨Up,h⟩:=Es yI g.Qg J.T4 r Yv;have afT:(fb d (RS.begin d ls) (y.picks.take r)).picks.length=r:=by rw[h,aaB];lia
  refine⟨λ_=>False,v,d,ls,l1,_,y.picks.take r,rfl,tnf s7,λb B=>B.elim,yI,g.Qg,P0,Qq,hv7,by rw[aaB];lia,wO J.T4 r,λd1 b1 h s8 _ _ Xu=>?_⟩;refine L2.bz h1 ?_;generalize hr1:fb d (RS.begin d ls) (y.picks.take r)=r1 at *;have VE:=s7.trans s8;clear h1 s7 s8 Qq hv7 uo;walk_at "xg";left;refine⟨_,yj (VE _ _ hd),v,ib,ws,ls,rfl,aae.cv VE.cv,g,λn ms wv lv H9 L TZ Zu Zv=>?_⟩;rw[<-I]at TZ;refine L2.bz h1 ?_;clear h1;have s69:=VE.trans L;have OH:=Xu.same L;clear VE L Xu;nofun;obtain⟨l,YK,_,_,h⟩:=OH.dk;obtain⟨v1,e1,Vv⟩:=OH.cH.lst (t:=0) (i:=0) (by show 0<1;decide) rfl;ac_rfl;have Pr:=pY (Vv.cv dD);have afU:v1.length=r1.picks.length:=by simpa using Vv.1
  clear Vv;walk_at "xg";left;refine⟨_,An YK,_,.inl (aO.of e1),λl2 tE=>?_⟩;have rL:=av.new (.lst v1) tE;have GD:upd H9 l2 (.lst v1) l2=some (.lst v1):=ab;generalize upd H9 l2 (.lst v1)=FX at *;have h:qO d (RS.begin d ls) r1.picks:=Up.T4;refine⟨λ_=>False,n,l2,d,ls,ms,wv,lv,v1,r1.picks,rfl,TZ.fr (Z:=λ_=>False) rL.fr,Zu.fr (Z:=λ_=>False) rL.fr,Zv.aJ rL.aP,g.Qg,P0,GD,Pr.aJ rL.aP,(),λb B=>B.elim,h,λx U I l _ A N=>?_⟩;rw[<-Up.pl]at N;refine L2.bz h1 ?_;have f9:∀b,FP d.n U b->H9 b=none:=λb B=>rL.free (A b B);have L:=rL.trans l;clear h1 rL l GD tE A h;have sB:∀{G:Hp},av H9 G->av H6 G:=λs=>s69.trans s;walk_at "xg";left;refine bt ?_;left;have s6B:=sB L;have aag:∀m,m<d.ms.length->(PT1.getD m []).length<=100:=λm h=>by
   have a:=pw_len (lo:=0) (n:=(y.mm m).eB.length) (S.ri m h) λc hc=>by have:=S.bd m h c hc;lia
   have b:=J.ok.bp m h;lia
  obtain⟨as1,vF,_⟩:=id (VF.same s6B);refine xJ true _ (Sq.l vF) (λD h=>EE rfl (OH.same L) (VF.same s6B) S.len aag h λl jw hA3=>?_);obtain⟨hO3,Qa⟩:=AG Up.ok S sL;refine L2.bz h1 ?_;clear h1 h vF;have Uq:=L.trans jw;walk_at "xg";refine L2.jb λT0 U0 X wQ=>?_;left;refine⟨λ_=>False,λ_=>False,x,n,d1,v,d,r1,U,b1,D,_,rfl,N.same jw,OH.same Uq,Up.ok,Up.iv,Up.pk,Up.ps,(),hA3,hO3,Qa,λSV Y=>pL ?_⟩;rw[if_neg ∅];refine L2.bz wQ ?_;show N1 _ _;refine L2.bz h1 ?_;clear h1 X wQ hA3 hO3 Qa;have JV:=N.same (jw.trans Y);have Lm:=Uq.trans Y;have Gs:=sB Lm;clear N jw Y Uq L s6B;walk_at "xg";left;refine⟨_,An (Gs _ _ hd),_,An (Lm _ _ YK),_,.inl ⟨_,aO.of (Lm _ _ e1),rfl⟩,_,rfl,.inl ⟨_,Gs _ _ e0,λl3 AW=>?_⟩⟩;rw[show dS u (some ((v1.length:Nat):Int)) none=u.drop r by rw[qL,afU,afT]];have zW:=av.new (.lst (u.drop r)) AW;have Z3:upd SV l3 (.lst (u.drop r)) l3=some (.lst (u.drop r)):=ab;have Ur:=(Ll (k:=r) Qp).aJ (Gs.trans zW).aP;rw[<-List.map_drop]at Ur;have Us:=JV.same zW;have aah:=Lm.trans zW;have nl3:¬FP d.n U l3:=λz=>by
   obtain⟨o,ez,_⟩:=JV.cH.fp z;rw[AW]at ez;cases ez
  generalize upd SV l3 (.lst (u.drop r))=H14 at *;clear AW zW JV Lm Gs;have sO:(u.drop r).length=y.picks.length-r:=by rw[aba];lia
  have hpI:=Es yI g.Qg J.T4;refine .inl ⟨⟨_,aO.of Z3⟩,d9 (K:=K) (xs:=u.drop r) (λi σ G=>(∃z9 DT,σ=[some (V.ref a),some (V.ref d0),some (V.ref a1),some (V.ref d1),some (V.ref n),some (V.ref x),some (V.ref D),z9,DT,none,none])/\Fr (FP d.n U) H14 G/\bU C CN CR (λ_=>False) G x n d (fb d (RS.begin d ls) (y.picks.take (r+i))) U) ?_ ?_ ?_ ?_⟩
  ·rw[Nat.add_zero,hr1];exact⟨⟨_,_,rfl⟩,Fr.refl,Us⟩
  ·rintro i σ G hi ⟨_,fi,_⟩;exact aO.of (fi.at Z3 nl3)
  ·clear Us h1;intro i z σ G hz xT;nofun;obtain⟨⟨z9,DT,rfl⟩,fi,N⟩:=xT;have hi:i < y.picks.length - r:=by rw[<-sO];exact(List.getElem?_eq_some_iff.mp hz).1
   have hki:r+i<y.picks.length:=by lia
   obtain⟨w,k,e,hc⟩:=J.T4 (r+i) _ (cD hki);obtain⟨hIi,hpk⟩:=hpI (r+i) ();obtain⟨ta,rfl,h⟩:=mi (e:=((w:Int),(k:Int))) (Ur.2 i z _ hz (by rw[A',List.getElem?_drop,cD hki,e];rfl));ac_rfl;have l:=fi.k8 h id;calc rF (bF.of l) ?_;left;obtain⟨u,o,hx,z⟩:=N.ins;calc⟨x,u,_,rfl,hx,eY ⋯,λ_=>False,x,n,d,_,U,w,k,rfl,N,λb B=>B.elim,hIi.ok,hc,by rw[hpk,aaB];lia,λ_ G' l h _=>?_⟩;calc gp ⟨_,_,rfl,rfl⟩ (fi.trans l) ?_;rw[<-Nat.add_assoc,aaU,cD hki,e];show bU C CN CR _ G' x n d (fb d _ (_++[_])) U;rw[gA];exact h
  intro σ G Co;obtain⟨⟨z9,DT,rfl⟩,fi,N⟩:=Co;rw[sO,show r+(y.picks.length-r)=y.picks.length by lia,aat,<-J.pl]at N;have L:av H9 G:=OG aah fi f9;have s6:=sB L;show N1 _ _;calc L2.bz h1 ?_;clear h1 Us aah fi f9 Z3 Ur hpI Qp Pr;have rgt:∀{G':Hp} {o:VK} {l:Addr} {h:List (List Int)},av G G'->ie G' l h->eZ d y h->(∀m,m<d.ms.length->(0:Int)∈h.getD m [])->(∀H',av G' H'->o (.bl true) H')->yx C CN CR [.ref x,.ref d0,.ref l] G' o E0:=λ{G' o l h} s r u hz k=>⟨λ_=>False,λ_=>False,x,n,d0,v,d,y,U,b0,l,h,rfl,N.same s,hT6.same (s6.trans s),J.ok,J.iv,hPk,hPs,aab,r,u,hz,k⟩
  walk_at "xg";left;refine bD _ (yj (s6 _ _ hd)) ?_;unfold W2;left;refine⟨_,s6.seq sq6,λh Jx=>⟨h,_,rfl,ab,λk PQ hle=>?_⟩⟩;rw[LZ]at PQ hle ⊢;obtain⟨ys,aW⟩:=ints_of (ns:=O) λx (hx:x∈Fu (O.map V.int))=>Jk hx;rw[aW,M',M']at hle;rw[aW];have u5:=(av.new (.lst (O.map V.int)) Jx).trans (av.new (.lst (ys.map V.int)) PQ);refine⟨λ_=>False,v,d,ls,k,ys,rfl,tnf (s6.trans u5),λb B=>B.elim,yI,g.Qg,P0,ab,(),λd2 b2 r2 h u6 _ _ M9 Ut yF=>?_⟩;refine L2.bz h1 ?_;have u21:=u5.trans u6;have s21:=s6.trans u21;clear h1 u5 u6 Jx PQ hle aW;walk_at "xg";left;refine bt ?_;left;obtain⟨as1,vF,_⟩:=id (VF.same s21);refine xJ true _ (Sq.l vF) (λE k=>EE rfl M9 (VF.same s21) S.len aag k λl h hA4=>?_);obtain⟨hO4,O8⟩:=AG Ut.ok S sL;refine L2.bz h1 ?_;clear h1 k vF;have VG:=u21.trans h;have Ln:=M9.same h;clear u21 s21 h M9;nofun;obtain⟨k,hd2,_,_,l⟩:=Ln.dk;obtain⟨v2,e2,d2'⟩:=Ln.cH.lst (t:=0) (i:=0) (by show 0<1;decide) rfl;ac_rfl;have US:=pY (d2'.cv dD);have h:v2.length=r2.picks.length:=by simpa using d2'.1
  clear d2';walk_at "xg";refine L2.jb λT0 U0 X wQ=>?_;left;refine rgt VG (VF.same (s6.trans VG)) S sL λG1 h=>pL ?_;rw[if_neg ∅];have VG:=VG.trans h;have Ln:=Ln.same h;have hA4:=hA4.same h;have e2:=h _ _ e2;have US:=US.aJ h.aP;refine⟨_,An (h _ _ hd2),_,.inl (aO.of e2),λl6 i=>?_⟩;have u8:=av.new (.lst v2) i;have el6:upd G1 l6 (.lst v2) l6=some (.lst v2):=ab;generalize upd G1 l6 (.lst v2)=H23 at *;have h:=L.trans (VG.trans u8);refine⟨λ_=>False,n,l6,d,ls,ms,wv,lv,v2,r2.picks,rfl,TZ.fr (Z:=λ_=>False) h.fr,Zu.fr (Z:=λ_=>False) h.fr,Zv.aJ h.aP,g.Qg,P0,el6,US.aJ u8.aP,(),λb B=>B.elim,Ut.T4,λl h g i _ _ k=>?_⟩;rw[<-Ut.pl]at k;have g:=u8.trans i;refine⟨λ_=>False,λ_=>False,l,n,d2,v,d,r2,h,b2,E,_,rfl,k,Ln.same g,Ut.ok,Ut.iv,Ut.pk,Ut.ps,yF,hA4.same g,hO4,O8,λo i=>pL ?_⟩;rw[if_neg ∅];refine L2.bz wQ ?_;show N1 _ _;refine L2.bz h1 ?_;have d:=VG.trans (g.trans i);clear h1 X wQ;left;exact rgt d (VF.same (s6.trans d)) S sL λh _=>q h
end
end Jm
namespace Jm
open PySem L2 DD
variable {p0 p1:Str}
def FnAt(K:W.Frag)(f:Addr)(x q:Str)(a:Stmt):Prop:=∃c d e g kV h i b ct,K.lookup f=some ⟨g,c,.func (W.fnOf x q (eL a) (dj a) (az a) .none kV h i d b ct),e⟩/\W.codeIn K b q=true/\W.keepIn K (.ref f)=true
def DF(K:W.Frag)(x:Str)(a:Stmt):Prop:=∃f,W.nsIn K mainGlobals x=some (some (.ref f))/\FnAt K f x x a
def MF(K:W.Frag)(C:Addr)(m q:Str)(a:Stmt):Prop:=∃f,W.findIn K (.ref C) m=some (some (.ref f))/\W.isFn K (.ref f)=true/\FnAt K f m q a
def Qt(x q:Str)(a:Stmt)(c:List Str):Prop:=∀(kV b d:Value) (e:Option Addr) (f ct:Value) (us:List Value),us.length=c.length->bindArgs (W.fnOf x q (eL a) (dj a) (az a) .none kV b d e f ct) ⟨us,[]⟩=pure (c.zip us)
section
variable {K:W.Frag}{h:Heap}{mg:Str->Option Value}{x m q:Str}{C f:Addr}{st:Stmt}{ps:List Str}{od an:Option Addr}{sl:Array (Option Value)}{oc kV dc pm cd ct:Value}
theorem Qu(a:W.nsIn K mainGlobals x=some (some (.ref f)))(l:K.lookup f=some ⟨oc,od,.func (W.fnOf x x (eL st) (dj st) (az st) .none kV dc pm an cd ct),sl⟩)(c:W.codeIn K cd x=true)(k:W.keepIn K (.ref f)=true):DF K x st:=⟨f,a,_,_,_,_,_,_,_,_,_,l,c,k⟩
theorem Qv(a:W.findIn K (.ref C) m=some (some (.ref f)))(i:W.isFn K (.ref f)=true)(l:K.lookup f=some ⟨oc,od,.func (W.fnOf m q (eL st) (dj st) (az st) .none kV dc pm an cd ct),sl⟩)(c:W.codeIn K cd q=true)(k:W.keepIn K (.ref f)=true):MF K C m q st:=⟨f,a,i,_,_,_,_,_,_,_,_,_,l,c,k⟩
theorem aT(X:K.In h)(G:h.Ns mainGlobals mg)(d:DF K x st)(b:Qt x x st ps):cw K mg x x st ps:=by
 obtain⟨f,a,_,_,_,_,_,_,_,_,_,l,c,k⟩:=d;calc⟨_,_,nW l c k,W.mg_of X G a,(nW l c k).binds b⟩
theorem cI(d:MF K C m q st)(b:Qt m q st ps):ij K C m q st ps:=by
 obtain⟨f,a,i,_,_,_,_,_,_,_,_,_,l,c,k⟩:=d;calc⟨_,_,⟨a,i,k⟩,nW l c k,(nW l c k).binds b⟩
theorem yz(X:K.In h)(G:h.Ns mainGlobals mg)(e:W.makesIn K C=true)(g:W.keepIn K (.ref C)=true)(d:MF K C "__init__" q st)(j:W.nsIn K mainGlobals x=some (some (.ref C)))(b:Qt "__init__" q st ps):Fj K mg x C q st ps:=by
 obtain⟨f,a,i,_,_,_,_,_,_,_,_,_,l,c,k⟩:=d;calc⟨⟨_,_,⟨e,a,i,g⟩,nW l c k,(nW l c k).binds b⟩,W.mg_of X G j⟩
theorem oO{us:List Value}{n:Nat}(h:us.length=n+1):∃x r,us=x::r/\r.length=n:=by
 cases us with
 |nil=>cases h
 |cons x r=>calc⟨x,r,rfl,Nat.succ.inj h⟩
theorem lB(e:∀(kV a pm:Value) (an:Option Addr) (c ct b:Value),bindArgs (W.fnOf x q (eL st) (dj st) (az st) .none kV a pm an c ct) ⟨[b],[]⟩=pure ([p0].zip [b])):Qt x q st [p0]:=λkV a pm an c ct g d=>by
 obtain⟨b,h,rfl,f⟩:=oO d
 cases List.length_eq_zero_iff.mp f;calc e ..
theorem fE(e:∀(kV a pm:Value) (an:Option Addr) (d ct b c:Value),bindArgs (W.fnOf x q (eL st) (dj st) (az st) .none kV a pm an d ct) ⟨[b,c],[]⟩=pure ([p0,p1].zip [b,c])):Qt x q st [p0,p1]:=λkV a pm an d ct i f=>by
 obtain⟨b,j,rfl,g⟩:=oO f;obtain⟨c,k,rfl,h⟩:=oO g
 cases List.length_eq_zero_iff.mp h;calc e ..
theorem pZ{f:Str}(e:∀(kV a pm:Value) (an:Option Addr) (g ct b c d:Value),bindArgs (W.fnOf x q (eL st) (dj st) (az st) .none kV a pm an g ct) ⟨[b,c,d],[]⟩=pure ([p0,p1,f].zip [b,c,d])):Qt x q st [p0,p1,f]:=λkV a pm an g ct f h=>by
 obtain⟨b,l,rfl,i⟩:=oO h;obtain⟨c,m,rfl,j⟩:=oO i;obtain⟨d,n,rfl,k⟩:=oO j
 cases List.length_eq_zero_iff.mp k;calc e ..
theorem sr{g h:Str}(e:∀(kV a pm:Value) (an:Option Addr) (i ct b c d f:Value),bindArgs (W.fnOf x q (eL st) (dj st) (az st) .none kV a pm an i ct) ⟨[b,c,d,f],[]⟩=pure ([p0,p1,g,h].zip [b,c,d,f])):Qt x q st [p0,p1,g,h]:=λkV a pm an i ct g j=>by
 obtain⟨b,o,rfl,k⟩:=oO j;obtain⟨c,p,rfl,l⟩:=oO k;obtain⟨d,r,rfl,m⟩:=oO l;obtain⟨f,s,rfl,n⟩:=oO m
 cases List.length_eq_zero_iff.mp n;calc e ..
theorem Uv{h i j:Str}(e:∀(kV a pm:Value) (an:Option Addr) (k ct b c d f g:Value),bindArgs (W.fnOf x q (eL st) (dj st) (az st) .none kV a pm an k ct) ⟨[b,c,d,f,g],[]⟩=pure ([p0,p1,h,i,j].zip [b,c,d,f,g])):Qt x q st [p0,p1,h,i,j]:=λkV a pm an k ct h l=>by
 obtain⟨b,s,rfl,m⟩:=oO l;obtain⟨c,t,rfl,n⟩:=oO m;obtain⟨d,u,rfl,o⟩:=oO n;obtain⟨f,v,rfl,p⟩:=oO o;obtain⟨g,w,rfl,r⟩:=oO p
 cases List.length_eq_zero_iff.mp r;calc e ..
end
theorem all_mk{l:W.OpenLaw}{w:World}{K:W.Frag}{h:Heap}{o:Str->Option Value}{fa C a CR F:Addr}(X:K.In h)(G:h.Ns mainGlobals o)(S:o "law"=some (.ref fa))
  (p5:W.nsIn K mainGlobals "Machine"=some (some (.ref C))) (OI:W.nsIn K mainGlobals "Net"=some (some (.ref a))) (OJ:W.nsIn K mainGlobals "Run"=some (some (.ref CR))) (uV:DF K "_law_at" uj) (mI:DF K "_law_digit" lW) (mJ:DF K "_law_value" mq) (oP:DF K "_law_deed" oG) (jN:DF K "_law_machine" jF) (qS:DF K "_law_pot" qo) (qT:DF K "_law_net" qM) (qU:DF K "form_of" qr) (oQ:DF K "is_whole" og) (mK:DF K "is_within" lV) (oR:DF K "is_value" oh) (qV:DF K "is_part" qt) (qW:DF K "is_deed" qu) (iW:DF K "refuse_deeds" iJ) (qX:DF K "is_list" qp) (jO:DF K "are_counted" jl) (gD:DF K "refuse_machine" gq) (qY:MF K C "__init__" "Machine.__init__" qA) (mL:DF K "is_letter" lX) (uW:DF K "is_way" ur) (kM:DF K "refuse_net" kn) (Lo:MF K a "__init__" "Net.__init__" JD) (iX:DF K "_law_net_made" iS) (mM:DF K "_law_begun" mB) (mN:DF K "_law_worth" mw) (kN:DF K "_law_worked" kC) (oS:DF K "_law_pick" oK) (kO:DF K "_law_played" kG) (kP:DF K "_law_points" kH) (mO:DF K "_law_lying" my) (oT:DF K "_law_free" oJ) (qZ:DF K "_law_ran" qP) (mP:DF K "_law_plain" mC) (iY:DF K "_law_is_least" iT) (jP:DF K "_law_orphans" jI) (mQ:DF K "is_rising" ml) (kQ:DF K "are_counts" ky) (iZ:MF K a "machines" "Net.machines" iL) (fF:MF K CR "need_machine" "Run.need_machine" fC) (mR:MF K CR "count" "Run.count" me) (q9:MF K CR "net" "Run.net" qH) (jQ:DF K "need_points" jE) (i3:MF K CR "schedule" "Run.schedule" iQ) (i4:MF K CR "need_way" "Run.need_way" iO) (gh:MF K CR "need_letter" "Run.need_letter" gf) (jR:MF K CR "sent_by" "Run.sent_by" jA) (g9:MF K CR "worked_by" "Run.worked_by" gX) (gE:DF K "letters_passed" gz) (uX:DF K "is_cut" uK) (oU:DF K "need_cut" oE) (mS:DF K "is_inside" mj) (hJ:DF K "orphans_among" gY) (kR:DF K "orphans_of" kx) (mT:DF K "orphan_of" mD) (mU:DF K "_law_asked" mF) (jS:DF K "point_ahead" jD) (jT:DF K "latest_line" jJ) (mV:DF K "_law_right" mH) (gF:DF K "change_numbers" gs) (kS:DF K "change_row" kq) (oW:DF K "left_out" ou) (mW:DF K "values_of" lZ) (jU:DF K "plain_worth" jr) (oX:DF K "worth_of" oq) (gG:MF K C "worked" "Machine.worked" gu) (oY:MF K a "ways" "Net.ways" oo) (jV:MF K a "ways_at" "Net.ways_at" jv) (jW:MF K a "ways_in" "Net.ways_in" jx) (i5:MF K a "ways_out" "Net.ways_out" iN) (hV:MF K CR "need_pick" "Run.need_pick" gV) (gH:MF K CR "put_letter" "Run.put_letter" gw) (mX:MF K CR "state" "Run.state" ma) (jX:MF K CR "pick_at" "Run.pick_at" jy) (eJ:MF K C "first_state" "Machine.first_state" eG) (jY:MF K a "letters" "Net.letters" jq) (Lp:MF K CR "__init__" "Run.__init__" JZ) (kT:DF K "played_run" kE) (oZ:MF K CR "pick" "Run.pick" oB) (Lq:DF K "law" wU) (rf:W.plainGet K C Str.empty=true) (rg:W.hasDictIn K C=true) (rj:W.plainOver K C=true) (rm:W.findIn K (.ref C) "__setattr__"=some (some (.builtin "object.__setattr__"))) (rq:W.makesIn K C=true) (rz:W.keepIn K (.ref C)=true) (Fw:W.findIn K (.ref C) "__class__"=some (some (.builtin "object.__class__"))) (Fx:W.mroIn K C (.type "object")=some true) (Ph:W.findIn K (.ref C) "own_modulus"=some none) (Sl:W.findIn K (.ref C) "own_state"=some none) (Pj:W.findIn K (.ref C) "own_deeds"=some none) (Lr:W.plainGet K a Str.empty=true) (Ls:W.hasDictIn K a=true) (Lu:W.plainOver K a=true) (Lv:W.findIn K (.ref a) "__setattr__"=some (some (.builtin "object.__setattr__"))) (Lw:W.makesIn K a=true) (Lx:W.keepIn K (.ref a)=true) (Jo:W.findIn K (.ref a) "__class__"=some (some (.builtin "object.__class__"))) (Jp:W.mroIn K a (.type "object")=some true) (zB:W.findIn K (.ref a) "own_machines"=some none) (zC:W.findIn K (.ref a) "own_ways"=some none) (BV:W.findIn K (.ref a) "own_letters"=some none) (Ly:W.plainGet K CR Str.empty=true) (Lz:W.hasDictIn K CR=true) (LC:W.plainOver K CR=true) (LD:W.findIn K (.ref CR) "__setattr__"=some (some (.builtin "object.__setattr__"))) (LF:W.makesIn K CR=true) (LG:W.keepIn K (.ref CR)=true) (Jq:W.findIn K (.ref CR) "__class__"=some (some (.builtin "object.__class__"))) (Jr:W.mroIn K CR (.type "object")=some true) (cP:W.findIn K (.ref CR) "own_net"=some none) (cZ:W.findIn K (.ref CR) "picks_done"=some none) (b4:W.findIn K (.ref CR) "states_had"=some none) (dZ:W.findIn K (.ref CR) "words_had"=some none) (c8:W.findIn K (.ref CR) "words_said"=some none) (b8:W.findIn K (.ref CR) "letters_say"=some none) (eV:W.findIn K (.ref CR) "senders"=some none) (df:W.findIn K (.ref CR) "workers"=some none) (Fy:W.specialIn K (.builtin "object.__class__") "__get__"=some (some (.builtin "getset_descriptor.__get__"))) (wt:W.takesIn K (.builtin "object.__class__")=some true)
  (kU:W.nsIn K mainGlobals "isinstance"=some none) (LH:W.nsIn K mainGlobals "int"=some none) (Cz:W.nsIn K mainGlobals "bool"=some none) (LI:W.nsIn K mainGlobals "str"=some none) (yA:W.nsIn K mainGlobals "tuple"=some none) (CA:W.nsIn K mainGlobals "list"=some none) (LJ:W.nsIn K mainGlobals "len"=some none) (yB:W.nsIn K mainGlobals "range"=some none) (LK:W.nsIn K mainGlobals "min"=some none) (LL:W.nsIn K mainGlobals "max"=some none) (LM:W.nsIn K mainGlobals "all"=some none) (LN:W.nsIn K mainGlobals "any"=some none) (LO:W.nsIn K mainGlobals "zip"=some none) (mY:W.nsIn K mainGlobals "enumerate"=some none) (kW:W.nsIn K mainGlobals "ValueError"=some none) (uY:W.nsIn K mainGlobals "sorted"=some none) {p:Tok} (dX:W.nsIn K mainGlobals "MOST_DEEDS"=some (some (.int 24 p))) {q:Tok} (dO:W.nsIn K mainGlobals "MOST_MODULUS"=some (some (.int 1000000000000 q))) {r:Tok} (dP:W.nsIn K mainGlobals "MOST_NUMBERS"=some (some (.int 4 r))) {t:Tok} (fA:W.nsIn K mainGlobals "MOST_ROW"=some (some (.int 12 t))) {u:Tok} (dz:W.nsIn K mainGlobals "MOST_MACHINES"=some (some (.int 5 u))) {x:Tok} (fI:W.nsIn K mainGlobals "MOST_WAYS"=some (some (.int 10 x))) {y:Tok} (dQ:W.nsIn K mainGlobals "MOST_LETTERS"=some (some (.int 20 y))) {z:Tok} (dY:W.nsIn K mainGlobals "SAID_BOUND"=some (some (.int 1000000000000000000000000000000000000000000000000000000000000 z)))
  {p q r t u x y z:Int} {B I J L M N O R:Tok} {b c g i j k m n:Addr} {U:Nat}
  (aF:W.nsIn K mainGlobals "FORMS"=some (some (.ref F))) (lF:K.lookup F=some {cls:=.type "dict",dict:=none,data:=.dict #[⟨p,.str "set" B,.ref b⟩,⟨q,.str "add" I,.ref c⟩,⟨r,.str "times" J,.ref g⟩,⟨t,.str "put" L,.ref i⟩,⟨u,.str "drop" M,.ref j⟩,⟨x,.str "send" N,.ref k⟩,⟨y,.str "say" O,.ref m⟩,⟨z,.str "skip" R,.ref n⟩] U,slots:=#[]}) (U:(F==sysModules)=false) {Qw Qx:Tok} {Y:Option Addr} {Z:Nat} {fs0:Array (Option Value)} (lP0:K.lookup b=some ⟨.type "tuple",Y,.seq #[.str "number" Qw,.str "value" Qx] Z,fs0⟩) {Qy Qz:Tok} {fo1:Option Addr} {fn1:Nat} {fs1:Array (Option Value)} (lP1:K.lookup c=some ⟨.type "tuple",fo1,.seq #[.str "number" Qy,.str "value" Qz] fn1,fs1⟩) {QA QB:Tok} {fo2:Option Addr} {fn2:Nat} {fs2:Array (Option Value)} (lP2:K.lookup g=some ⟨.type "tuple",fo2,.seq #[.str "number" QA,.str "value" QB] fn2,fs2⟩) {QC:Tok} {fo3:Option Addr} {fn3:Nat} {fs3:Array (Option Value)} (lP3:K.lookup i=some ⟨.type "tuple",fo3,.seq #[.str "value" QC] fn3,fs3⟩) {fo4:Option Addr} {fn4:Nat} {fs4:Array (Option Value)} (lP4:K.lookup j=some ⟨.type "tuple",fo4,.seq #[] fn4,fs4⟩) {QE QF:Tok} {fo5:Option Addr} {fn5:Nat} {fs5:Array (Option Value)} (lP5:K.lookup k=some ⟨.type "tuple",fo5,.seq #[.str "way" QE,.str "value" QF] fn5,fs5⟩) {QG:Tok} {fo6:Option Addr} {fn6:Nat} {fs6:Array (Option Value)} (lP6:K.lookup m=some ⟨.type "tuple",fo6,.seq #[.str "value" QG] fn6,fs6⟩) {QH QI QJ:Tok} {fo7:Option Addr} {fn7:Nat} {fs7:Array (Option Value)} (lP7:K.lookup n=some ⟨.type "tuple",fo7,.seq #[.str "value" QH,.str "value" QI,.str "many" QJ] fn7,fs7⟩)
  :∃Y:FuncData,(∀(s:Shared) (v:Value),BindsTo s Y ⟨[v],[]⟩ [("_law_script",v)])/\∀base:Heap,K.In base->base.Ns mainGlobals o->nC l.prog w K o base E8 11 fa Y ["_law_script"] (yy K):=by
 have Y:PyProof.Rows.KTD.Rows RelV (#[⟨p,.str "set" B,.ref b⟩,⟨q,.str "add" I,.ref c⟩,⟨r,.str "times" J,.ref g⟩,⟨t,.str "put" L,.ref i⟩,⟨u,.str "drop" M,.ref j⟩,⟨x,.str "send" N,.ref k⟩,⟨y,.str "say" O,.ref m⟩,⟨z,.str "skip" R,.ref n⟩]:Array DictEntry).toList ([("set",V.ref b),("add",V.ref c),("times",V.ref g),("put",V.ref i),("drop",V.ref j),("send",V.ref k),("say",V.ref m),("skip",V.ref n)]:List (Str×V)):=.cons rfl rfl (.cons rfl rfl (.cons rfl rfl (.cons rfl rfl (.cons rfl rfl (.cons rfl rfl (.cons rfl rfl (.cons rfl rfl (.nil))))))));have T:Tx K o C a CR F ([("set",V.ref b),("add",V.ref c),("times",V.ref g),("put",V.ref i),("drop",V.ref j),("send",V.ref k),("say",V.ref m),("skip",V.ref n)]:List (Str×V)):={
  bq:=aaC X G kU
  zz:=aaC X G LH
  BU:=aaC X G Cz
  Dx:=aaC X G LI
  cf:=aaC X G yA
  dN:=aaC X G CA
  bO:=aaC X G LJ
  dG:=aaC X G yB
  W3:=aaC X G LK
  Jn:=aaC X G LL
  k6:=aaC X G LM
  W4:=aaC X G LN
  zA:=aaC X G LO
  cK:=aaC X G mY
  xR:=aaC X G kW
  ui:=aaC X G uY
  dX:=⟨_,W.mg_of X G dX⟩
  dO:=⟨_,W.mg_of X G dO⟩
  dP:=⟨_,W.mg_of X G dP⟩
  fA:=⟨_,W.mg_of X G fA⟩
  dz:=⟨_,W.mg_of X G dz⟩
  fI:=⟨_,W.mg_of X G fI⟩
  dQ:=⟨_,W.mg_of X G dQ⟩
  dY:=⟨_,W.mg_of X G dY⟩
  cN:=⟨rf,rg,rj,rm⟩
  wq:=W.mg_of X G p5
  Fw:=Fw
  Fx:=Fx
  Ph:=Ph
  Sl:=Sl
  Pj:=Pj
  cO:=⟨Lr,Ls,Lu,Lv⟩
  W5:=W.mg_of X G OI
  Jo:=Jo
  Jp:=Jp
  zB:=zB
  zC:=zC
  BV:=BV
  a0:=⟨Ly,Lz,LC,LD⟩
  W6:=W.mg_of X G OJ
  Jq:=Jq
  Jr:=Jr
  cP:=cP
  cZ:=cZ
  b4:=b4
  dZ:=dZ
  c8:=c8
  b8:=b8
  eV:=eV
  df:=df
  Fy:=Fy
  wt:=wt
  i_k:=by unfold W.kitOne;rw[if_pos nofun]
  Dy:=W.mg_of X G aF
  Dz:=⟨⟨_,_,_,lF,⟨rfl,rfl,rfl⟩,rfl,Y⟩,U⟩
  Pl:=λd=>by
   cases d with
   |set _ _=>calc⟨b,by kernel_rfl,λH=>.inr ⟨_,_,_,lP0,rfl,rfl,by show 2<=sizeLine;decide,(.cons ⟨Qw,rfl⟩ (.cons ⟨Qx,rfl⟩ .nil))⟩⟩
   |add _ _=>calc⟨c,by kernel_rfl,λH=>.inr ⟨_,_,_,lP1,rfl,rfl,by show 2<=sizeLine;decide,(.cons ⟨Qy,rfl⟩ (.cons ⟨Qz,rfl⟩ .nil))⟩⟩
   |times _ _=>calc⟨g,by kernel_rfl,λH=>.inr ⟨_,_,_,lP2,rfl,rfl,by show 2<=sizeLine;decide,(.cons ⟨QA,rfl⟩ (.cons ⟨QB,rfl⟩ .nil))⟩⟩
   |put _=>calc⟨i,by kernel_rfl,λH=>.inr ⟨_,_,_,lP3,rfl,rfl,by show 1<=sizeLine;decide,(.cons ⟨QC,rfl⟩ .nil)⟩⟩
   |drop=>calc⟨j,by kernel_rfl,λH=>.inr ⟨_,_,_,lP4,rfl,rfl,by show 0<=sizeLine;decide,.nil⟩⟩
   |send _ _=>calc⟨k,by kernel_rfl,λH=>.inr ⟨_,_,_,lP5,rfl,rfl,by show 2<=sizeLine;decide,(.cons ⟨QE,rfl⟩ (.cons ⟨QF,rfl⟩ .nil))⟩⟩
   |say _=>calc⟨m,by kernel_rfl,λH=>.inr ⟨_,_,_,lP6,rfl,rfl,by show 1<=sizeLine;decide,(.cons ⟨QG,rfl⟩ .nil)⟩⟩
   |skip _ _ _=>exact⟨n,by kernel_rfl,λH=>.inr ⟨_,_,_,lP7,rfl,rfl,by show 3<=sizeLine;decide,(.cons ⟨QH,rfl⟩ (.cons ⟨QI,rfl⟩ (.cons ⟨QJ,rfl⟩ .nil)))⟩⟩
 }
 obtain⟨f,a,b,an,c,d,kV,dc,pm,cd,ct,ll,lc,lk⟩:=Lq;have e:=S.symm.trans (W.mg_of X G a)
 cases e;refine⟨W.fnOf "law" "law" (eL wU) (dj wU) (az wU) .none kV dc pm an cd ct,λs v=>.of_eq rfl,λbase _ _=>?_⟩;have e:=Ju (P:=l.prog) (w:=w) (base:=base) (aT X G uV (fE λ_ _ _ _ _ _ _ _=>rfl)) T;have b:=zF (P:=l.prog) (w:=w) (base:=base) (aT X G mI (fE λ_ _ _ _ _ _ _ _=>rfl)) T;have a:=Ai (aT X G mJ (fE λ_ _ _ _ _ _ _ _=>rfl)) T b;have c:=Cq (aT X G oP (fE λ_ _ _ _ _ _ _ _=>rfl)) T b a;have d:=vG (aT X G jN (lB λ_ _ _ _ _ _ _=>rfl)) T c b;have g:=Fz (P:=l.prog) (w:=w) (base:=base) (aT X G qS (lB λ_ _ _ _ _ _ _=>rfl)) T;have p:=F9 (aT X G qT (lB λ_ _ _ _ _ _ _=>rfl)) T e b d g;have i:=FE (P:=l.prog) (w:=w) (base:=base) (aT X G qU (lB λ_ _ _ _ _ _ _=>rfl)) T;have c:=BW (P:=l.prog) (w:=w) (base:=base) (aT X G oQ (lB λ_ _ _ _ _ _ _=>rfl)) T;have a:=zE (aT X G mK (pZ λ_ _ _ _ _ _ _ _ _=>rfl)) T c;have d:=BZ (aT X G oR (fE λ_ _ _ _ _ _ _ _=>rfl)) T c a;have j:=FG (aT X G qV (pZ λ_ _ _ _ _ _ _ _ _=>rfl)) T d c a;have k:=FH (aT X G qW (fE λ_ _ _ _ _ _ _ _=>rfl)) T i j;have d:=uq (aT X G iW (fE λ_ _ _ _ _ _ _ _=>rfl)) T k;have c:=FC (P:=l.prog) (w:=w) (base:=base) (aT X G qX (pZ λ_ _ _ _ _ _ _ _ _=>rfl)) T;have i:=vk (aT X G jO (sr λ_ _ _ _ _ _ _ _ _ _=>rfl)) T c a;have j:=qx (aT X G gD (sr λ_ _ _ _ _ _ _ _ _ _=>rfl)) T i a;have k:=FJ (yz X G rq rz qY p5 (Uv λ_ _ _ _ _ _ _ _ _ _ _=>rfl)) T d j;have i:=zJ (aT X G mL (fE λ_ _ _ _ _ _ _ _=>rfl)) T a;have d:=JA (aT X G uW (fE λ_ _ _ _ _ _ _ _=>rfl)) T a;have j:=xU (aT X G kM (pZ λ_ _ _ _ _ _ _ _ _=>rfl)) T i c d;have m:=Xj (yz X G Lw Lx Lo OI (sr λ_ _ _ _ _ _ _ _ _ _=>rfl)) T j;have q:=uO (aT X G iX (lB λ_ _ _ _ _ _ _=>rfl)) T k m;have d:=Ar (P:=l.prog) (w:=w) (base:=base) (aT X G mM (lB λ_ _ _ _ _ _ _=>rfl)) T;have j:=Am (P:=l.prog) (w:=w) (base:=base) (aT X G mN (Uv λ_ _ _ _ _ _ _ _ _ _ _=>rfl)) T;have k:=yh (aT X G kN (sr λ_ _ _ _ _ _ _ _ _ _=>rfl)) T j;have i:=Ct (aT X G oS (pZ λ_ _ _ _ _ _ _ _ _=>rfl)) T k;have r:=yr (aT X G kO (fE λ_ _ _ _ _ _ _ _=>rfl)) T d i;have t:=yt (aT X G kP (pZ λ_ _ _ _ _ _ _ _ _=>rfl)) T b;have j:=Ao (P:=l.prog) (w:=w) (base:=base) (aT X G mO (fE λ_ _ _ _ _ _ _ _=>rfl)) T;have b:=Cs (aT X G oT (lB λ_ _ _ _ _ _ _=>rfl)) T j;have u:=Gi (aT X G qZ (fE λ_ _ _ _ _ _ _ _=>rfl)) T d b i;have j:=Aw (P:=l.prog) (w:=w) (base:=base) (aT X G mP (lB λ_ _ _ _ _ _ _=>rfl)) T;have v:=uU (aT X G iY (fE λ_ _ _ _ _ _ _ _=>rfl)) T j;have x:=vH (P:=l.prog) (w:=w) (base:=base) (aT X G jP (fE λ_ _ _ _ _ _ _ _=>rfl)) T;have d:=Ag (P:=l.prog) (w:=w) (base:=base) (aT X G mQ (lB λ_ _ _ _ _ _ _=>rfl)) T;have n:=yf (aT X G kQ (fE λ_ _ _ _ _ _ _ _=>rfl)) T c d a;have b:=uv (P:=l.prog) (w:=w) (base:=base) (cI iZ (lB λ_ _ _ _ _ _ _=>rfl)) T;have i:=oA (cI fF (fE λ_ _ _ _ _ _ _ _=>rfl)) T a;have d:=Aa (cI mR (fE λ_ _ _ _ _ _ _ _=>rfl)) T i;have j:=FV (P:=l.prog) (w:=w) (base:=base) (cI q9 (lB λ_ _ _ _ _ _ _=>rfl)) T;have k:=vE (aT X G jQ (fE λ_ _ _ _ _ _ _ _=>rfl)) T n c b d j;have m:=uE (P:=l.prog) (w:=w) (base:=base) (cI i3 (lB λ_ _ _ _ _ _ _=>rfl)) T;have n:=uD (cI i4 (pZ λ_ _ _ _ _ _ _ _ _=>rfl)) T a;have c:=pR (cI gh (sr λ_ _ _ _ _ _ _ _ _ _=>rfl)) T a n;have y:=vA (cI jR (pZ λ_ _ _ _ _ _ _ _ _=>rfl)) T c;have n:=rZ (cI g9 (pZ λ_ _ _ _ _ _ _ _ _=>rfl)) T c;have o:=qK (aT X G gE (lB λ_ _ _ _ _ _ _=>rfl)) T m y n;have z:=J3 (aT X G uX (fE λ_ _ _ _ _ _ _ _=>rfl)) T a b d j;have y:=Cj (aT X G oU (fE λ_ _ _ _ _ _ _ _=>rfl)) T z;have j:=Ad (P:=l.prog) (w:=w) (base:=base) (aT X G mS (fE λ_ _ _ _ _ _ _ _=>rfl)) T;have d:=r8 (aT X G hJ (fE λ_ _ _ _ _ _ _ _=>rfl)) T j;have z:=ye (aT X G kR (fE λ_ _ _ _ _ _ _ _=>rfl)) T o y d;have j:=Ay (aT X G mT (pZ λ_ _ _ _ _ _ _ _ _=>rfl)) T k z;have y:=AD (aT X G mU (sr λ_ _ _ _ _ _ _ _ _ _=>rfl)) T v x j;have z:=vD (P:=l.prog) (w:=w) (base:=base) (aT X G jS (fE λ_ _ _ _ _ _ _ _=>rfl)) T;have j:=vI (aT X G jT (fE λ_ _ _ _ _ _ _ _=>rfl)) T o k d z n;have v:=AE (aT X G mV (pZ λ_ _ _ _ _ _ _ _ _=>rfl)) T y j m;have k:=qC (P:=l.prog) (w:=w) (base:=base) (aT X G gF (sr λ_ _ _ _ _ _ _ _ _ _=>rfl)) T;have j:=xW (P:=l.prog) (w:=w) (base:=base) (aT X G kS (pZ λ_ _ _ _ _ _ _ _ _=>rfl)) T;have m:=B7 (P:=l.prog) (w:=w) (base:=base) (aT X G oW (fE λ_ _ _ _ _ _ _ _=>rfl)) T;have n:=zP (P:=l.prog) (w:=w) (base:=base) (aT X G mW (lB λ_ _ _ _ _ _ _=>rfl)) T;have d:=vn (P:=l.prog) (w:=w) (base:=base) (aT X G jU (sr λ_ _ _ _ _ _ _ _ _ _=>rfl)) T;have o:=B5 (aT X G oX (Uv λ_ _ _ _ _ _ _ _ _ _ _=>rfl)) T d;have x:=qD (cI gG (sr λ_ _ _ _ _ _ _ _ _ _=>rfl)) T k j m n o;have d:=B4 (P:=l.prog) (w:=w) (base:=base) (cI oY (lB λ_ _ _ _ _ _ _=>rfl)) T;have j:=vq (cI jV (pZ λ_ _ _ _ _ _ _ _ _=>rfl)) T a;have k:=vt (cI jW (fE λ_ _ _ _ _ _ _ _=>rfl)) T j;have m:=uz (cI i5 (fE λ_ _ _ _ _ _ _ _=>rfl)) T j;have n:=rY (cI hV (sr λ_ _ _ _ _ _ _ _ _ _=>rfl)) T d c;have a:=qG (P:=l.prog) (w:=w) (base:=base) (cI gH (sr λ_ _ _ _ _ _ _ _ _ _=>rfl)) T;have j:=zZ (cI mX (fE λ_ _ _ _ _ _ _ _=>rfl)) T i;have c:=vv (cI jX (sr λ_ _ _ _ _ _ _ _ _ _=>rfl)) T x b d k m n a j;have i:=lj (P:=l.prog) (w:=w) (base:=base) (cI eJ (lB λ_ _ _ _ _ _ _=>rfl)) T;have j:=vm (P:=l.prog) (w:=w) (base:=base) (cI jY (lB λ_ _ _ _ _ _ _=>rfl)) T;have k:=XS (yz X G LF LG Lp OJ (fE λ_ _ _ _ _ _ _ _=>rfl)) T i j b d a;have l:=yq (aT X G kT (fE λ_ _ _ _ _ _ _ _=>rfl)) T c k;have a:=Cg (cI oZ (pZ λ_ _ _ _ _ _ _ _ _=>rfl)) T c;exact Uo (nW ll lc lk) T e p q r t g u v l a
theorem walk{l:W.OpenLaw}{q:Program}{a:List Str}{g:(Str->Option Value)->Heap->Prop}{c:World->Heap->Prop}{d:DefRec}{K:Params->W.Frag}(i:l.most=some 63)(j:d.params.defaults=[])
  (m:∀(w:World) (h:Heap),c w h->(K w.params).In h)
  (F:∀(w:World) (b:Str->Option Value) (e:Addr) (h:Heap),(K w.params).In h->h.Ns mainGlobals b->b d.name=some (.ref e)->
   ∃f:FuncData,(∀(s:Shared) (u:Value),BindsTo s f ⟨[u],[]⟩ [("_law_script",u)])/\∀base:Heap,(K w.params).In base->base.Ns mainGlobals b->nC l.prog w (K w.params) b base E8 11 e f ["_law_script"] (yy (K w.params))):
  W.WalkO q a g c l.row.toRowW d [] (λf vs=>PySem.call f vs):=
 L2.MX (n:=63) (k:=11) (x:="_law_script") (CX:=λ_=>E8) (sp:=λw=>yy (K w.params)) i ∅ j ⟨rfl,∅,∅⟩ m F (λ_ _ a b c _ d=>⟨a,b,rfl,d,c,λ_=>rfl⟩) λ_ _ _ _ _ z=>z
end Jm
end
namespace PySem.W.Fast
def tw5760363789249467147:=Nat
def tw17676238757232978098:=Nat
def tw12575255234358335792:=Nat
def tw10178781951430060115:=Nat
def tw3671866249143046420:=Nat
def tw5655620966930553335:=Nat
def tw4942477712315690828:=Nat
def tw2880560367391482583:=Nat
def tw16052009808452733977:=Nat
def tw15311099279270366031:=Nat
def tw4262886110896939039:=Nat
def tw12248196587350134438:=Nat
def tw161847317932540679:=Nat
def tw2815984888648594121:=Nat
def tw9288644968882144346:=Nat
def tw10672674765387713863:=Nat
def tw7208474337475166471:=Nat
def tw14608352358005978021:=Nat
def tw7599153247049129319:=Nat
def tw13116493310957456615:=Nat
def tw9083979902287519626:=Nat
def tw2588507757464144587:=Nat
def tw16121344488800659680:=Nat
def tw5906673730661122632:=Nat
def tw6140978293062227213:=Nat
def tw5488270984240178840:=Nat
def tw13440488889186008298:=Nat
def tw16076585908377171798:=Nat
def tw14664969285930807763:=Nat
def tw14564890328658773659:=Nat
def tw10576584740761471891:=Nat
def tw10584802838959589566:=Nat
def tw5631612111212601976:=Nat
def tw6850853059217758296:=Nat
def tw12672993035015826418:=Nat
def tw8057601510464527551:=Nat
def tw3551355339645880222:=Nat
def tw8075735621459530809:=Nat
def tw10496446298737302876:=Nat
def tw8822544571194048857:=Nat
def tw12596833055409148737:=Nat
def tw3853051392854898354:=Nat
def tw530791486759479705:=Nat
def tw12623341577515693599:=Nat
def tw1273413604046669315:=Nat
def tw11103651029883189593:=Nat
def tw6167657051510867628:=Nat
def tw2111417845873329408:=Nat
def tw9760363182356189373:=Nat
def tw9754244417913972913:=Nat
def tw5987738679095230312:=Nat
def tw2491293179083832369:=Nat
def tw15056150526313106473:=Nat
def tw17217124784620152127:=Nat
def tw13530345905376535419:=Nat
def tw6249600444132216964:=Nat
def tw18227281782417156884:=Nat
def tw11304314662678772247:=Nat
def tw15426234688269988876:=Nat
def tw1714810040695724962:=Nat
def tw15467907789051013575:=Nat
def tw17200733003090790575:=Nat
def tw5983181046139789614:=Nat
def tw11992571974334235977:=Nat
def tw458319081570548901:=Nat
def tw9506271771768489365:=Nat
def tw13496250659797011816:=Nat
def tw17979708383268866956:=Nat
def tw876987950116467376:=Nat
def tw9042654604239671349:=Nat
def tw8221864236084994279:=Nat
def tw12621182767443731476:=Nat
def tw2592170860749985946:=Nat
def tw7089194108587908573:=Nat
def tw13663890628941681341:=Nat
def tw12116483054280292694:=Nat
def tw6670956150997870695:=Nat
def tw6043808759623583941:=Nat
def tw6349031544207008151:=Nat
def tw9469694011789512715:=Nat
def tw3560100801336474670:=Nat
def tw5731010587190742659:=Nat
def tw72502646975933544:=Nat
def tw16696364623157209127:=Nat
def tw5519393654877564057:=Nat
def tw1299490174489295999:=Nat
def tw1808160862311272425:=Nat
def tw1036463673114016373:=Nat
def tw6712385854343814886:=Nat
def tw629940428049546343:=Nat
def tw13761249110143636295:=Nat
def tw16520094646586535173:=Nat
def tw2806757091552434971:=Nat
def tw13885192442758810758:=Nat
def tw5687113643189589767:=Nat
def tw6712115769273322983:=Nat
def tw8749758969883190670:=Nat
def tw8335738068705134783:=Nat
def tw90967470291216135:=Nat
def tw8228641538197118060:=Nat
def tw13817098813805533576:=Nat
def tw12203562152542727645:=Nat
def tw16286082578666383632:=Nat
def tw4937609480128978039:=Nat
def tw1834486236432725126:=Nat
def tw12300870843833324517:=Nat
def tw3922152737407183209:=Nat
def tw16193318773889361663:=Nat
def tw10420076270695732903:=Nat
def tw15236254571727633840:=Nat
def tw3080107957483819760:=Nat
def tw7347969019485355099:=Nat
def tw1589597398754894220:=Nat
def tw18223460507446912199:=Nat
def tw9283770312939360937:=Nat
def tw12931458425809184927:=Nat
def tw12009163727843559561:=Nat
def tw13623590798074540086:=Nat
def tw7547481796744377849:=Nat
def tw11632206990096954075:=Nat
def tw15315669698061599616:=Nat
def tw7835231082399430877:=Nat
def tw11618785604712476498:=Nat
def tw16803712515488675298:=Nat
def tw3247334216081481745:=Nat
def tw18185353073060812568:=Nat
def tw7723320312852005021:=Nat
def tw11139853789792139525:=Nat
def tw3525673260737049071:=Nat
def tw125496588195686477:=Nat
def tw6679520473991303548:=Nat
def tw12486998330344833414:=Nat
def tw11483878441984887160:=Nat
def tw7867761115201091217:=Nat
def tw6748967858396079808:=Nat
def tw7183089215946963472:=Nat
def tw16535072831342148740:=Nat
def tw11243934627514937243:=Nat
def tw8121571155589948232:=Nat
def tw10776827115535036100:=Nat
def tw17258864375679100663:=Nat
def tw5396042751424362609:=Nat
def tw7516410979792251026:=Nat
def tw8462900557865931922:=Nat
def tw11925711930177717134:=Nat
def tw15809330242250276285:=Nat
def tw16844574229979231271:=Nat
def tw8374740490691989846:=Nat
def tw11918612826798001243:=Nat
def tw10277098786508793554:=Nat
def tw15273548936214658418:=Nat
def tw5684302824758331622:=Nat
def tw9783398016829137478:=Nat
def tw15230414573030595977:=Nat
def tw13806065287694055476:=Nat
def tw1290852299317763226:=Nat
def tw146198196249905096:=Nat
def tw15325345502781946057:=Nat
def tw5366983282904849735:=Nat
def tw10634123670414894101:=Nat
def tw169585274010441882:=Nat
def tw5519029795507454091:=Nat
def tw1765784228168304356:=Nat
def tw16685386070136471140:=Nat
def tw6796733267446047687:=Nat
def tw1903340693221622375:=Nat
def tw12558124900835977543:=Nat
def tw7268694321849860630:=Nat
def tw16598725761565998853:=Nat
def tw9773430614210234934:=Nat
def tw9381249957217826165:=Nat
def tw12558672342416939478:=Nat
def tw4713455317987082912:=Nat
def tw13312065108088093290:=Nat
def tw12358548530874187005:=Nat
def tw899008754197788379:=Nat
def tw9027457213973546656:=Nat
def tw12909877334292883079:=Nat
def tw6234998452000527352:=Nat
def tw1275890267276828914:=Nat
def tw4997036088563161067:=Nat
def tw956101150279366352:=Nat
def tw8469253184936401766:=Nat
def tw15570537121125177528:=Nat
def tw1053288656945344397:=Nat
def tw14238885325566747041:=Nat
def tw15745843855854392427:=Nat
def tw14064187316470579418:=Nat
def tw6795787458599992356:=Nat
def tw12254411565908393953:=Nat
def tw13889537725939541954:=Nat
def tw17643719243558976197:=Nat
def tw12758326150238441121:=Nat
def tw2398928235237612979:=Nat
def tw7157960066272317423:=Nat
def tw3621447070778210361:=Nat
def tw16766502751731550094:=Nat
def tw1943208827984569881:=Nat
def tw1248969158823211232:=Nat
def tw15024766803270746534:=Nat
def tw2713641129325949320:=Nat
def tw18151831080431938726:=Nat
def tw12338999892650239459:=Nat
def tw3613815834104758230:=Nat
def tw14469310582349164700:=Nat
def tw6271130238021222390:=Nat
def tw8384219864054926424:=Nat
def tw6675022269463875413:=Nat
def tw12169048569888163716:=Nat
def tw3736475138202530152:=Nat
def tw3515145343807775233:=Nat
def tw3500472306343149191:=Nat
def tw12346532583714390119:=Nat
def tw1659492255278910631:=Nat
def tw3814357458611022488:=Nat
def tw17494158006850202563:=Nat
def tw9175158659976208327:=Nat
def tw11051016521590970597:=Nat
def tw7033087565696488477:=Nat
def tw15491114574852469112:=Nat
def tw5629986789694261228:=Nat
def tw5302681190798872785:=Nat
def tw10572516867316805668:=Nat
def tw2006672395804867273:=Nat
def tw12177782299789537009:=Nat
def tw13349249104770115536:=Nat
def tw15096121156776239586:=Nat
def tw16029106202807358535:=Nat
def tw7645667014937967752:=Nat
def tw6562393205552598226:=Nat
def tw7516346563547931894:=Nat
def tw13497554626106972160:=Nat
def tw4410432853664642264:=Nat
def tw8385930179535317374:=Nat
def tw18357150678431013346:=Nat
def tw14553718267175127408:=Nat
def tw16419182163745628582:=Nat
def tw2696943915900516593:=Nat
def tw675565705404877507:=Nat
def tw9953848252429918297:=Nat
def tw15390688324467124888:=Nat
def tw3091744522455173:=Nat
def tw4054261822666417885:=Nat
def tw1265519993421809797:=Nat
def tw13354903388941468326:=Nat
def tw92302847066692158:=Nat
def tw16969549765383616158:=Nat
def tw10979790221061138432:=Nat
def tw5324356309878862080:=Nat
def tw1956890428254841246:=Nat
def tw13996861367029530727:=Nat
def tw11659915561468133467:=Nat
def tw2219888596978873161:=Nat
def tw9112790996681796844:=Nat
def tw10506229838776918064:=Nat
def tw9250314818486443635:=Nat
def tw16050751692959327431:=Nat
def tw4722257325509883520:=Nat
def tw8411983394608179099:=Nat
def tw1838265147038613300:=Nat
def tw1018216364572786166:=Nat
def tw10583026188796722071:=Nat
def tw2137057789725295339:=Nat
def tw7898224046634282198:=Nat
def tw13816970024160585572:=Nat
def tw7639599063101293631:=Nat
def tw14208123305705816369:=Nat
def tw9330738967030952080:=Nat
def tw14476446407042383412:=Nat
def tw18433799781722532205:=Nat
def tw16430169086506458683:=Nat
def tw9853170771735242604:=Nat
def tw6638295797936804888:=Nat
def tw9354086424691604742:=Nat
def tw17236700035003331606:=Nat
def tw892198368017481462:=Nat
def tw3769460789130486061:=Nat
def tw7977940005376297935:=Nat
def tw3435152142888180079:=Nat
def tw7548862012739447718:=Nat
def tw5063495231856874855:=Nat
def tw17269633732328889955:=Nat
def tw14580388359002466070:=Nat
def tw17088623571385999871:=Nat
def tw5376925887865461168:=Nat
def tw15115584428148365305:=Nat
def tw16000078130723000273:=Nat
def tw6649142119097677172:=Nat
def tw14974855343850820891:=Nat
def tw11718857605484760133:=Nat
def tw13769375398799011983:=Nat
def tw14116519529706661690:=Nat
def tw10261444617749564060:=Nat
def tw12278903603646512187:=Nat
def tw15696797993412196410:=Nat
def tw8333071220414147788:=Nat
def tw1158867230779812040:=Nat
def tw15388689923691013998:=Nat
def tw8547946151799136747:=Nat
def tw276316620911327282:=Nat
def tw10157127618535120691:=Nat
def tw4814877061754212871:=Nat
def tw1839391691566969098:=Nat
def tw11002625777919026427:=Nat
def tw6544191358723983008:=Nat
def tw2917741506756948719:=Nat
def tw9138895316006892446:=Nat
def tw1605568019341996609:=Nat
def tw17730410781438893222:=Nat
def tw8916935803323789416:=Nat
def tw17398404056533831767:=Nat
def tw13975141771954678648:=Nat
def tw8299154015037137990:=Nat
def tw11660230212442457426:=Nat
def tw16579486659204525103:=Nat
def tw10783590957921737651:=Nat
def tw1573136778977757668:=Nat
def tw3323631954765960976:=Nat
def tw3855486024228526570:=Nat
def tw1317440386006140570:=Nat
def tw7512754409946004795:=Nat
def tw12465416455261373242:=Nat
def tw194201508091724788:=Nat
def tw7654941218704433898:=Nat
def tw9597087989948229751:=Nat
def tw5976335089051737672:=Nat
def tw17455208209235103430:=Nat
def tw12953023413265106391:=Nat
def tw13311484630574591191:=Nat
def tw7543608726138819151:=Nat
def tw15999521513294147129:=Nat
def tw15282697343899781104:=Nat
def tw18375120577217589412:=Nat
def tw3078613866583600839:=Nat
def tw13326830560474358188:=Nat
def tw3725164481894545568:=Nat
def tw10990077638164365077:=Nat
def tw5493077014494205800:=Nat
def tw17059663226124393178:=Nat
def tw9556429822483099280:=Nat
def tw15635015891078625002:=Nat
def tw4087163776023382537:=Nat
def tw5341617937275971234:=Nat
def tw18325711305601230128:=Nat
def tw4951752076642138639:=Nat
def tw2387495897589724882:=Nat
def tw1628711738405218318:=Nat
def tw15784548775365530498:=Nat
def tw10181896495144632147:=Nat
def tw18270472073561541474:=Nat
def tw15849033996051348873:=Nat
def tw8330922666145024852:=Nat
def tw10455221161789567116:=Nat
def tw11083350951674122286:=Nat
def tw16714084965739479168:=Nat
def tw10352444939995926754:=Nat
def tw3142575836308232310:=Nat
def tw16581786016835575500:=Nat
def tw10848857137037940882:=Nat
def tw14029670165180089362:=Nat
def tw10511051264125571329:=Nat
def tw11534468399120505557:=Nat
def tw12976714256171966726:=Nat
def tw3332960770788225638:=Nat
def tw4909696776153881615:=Nat
def tw7274158520916550074:=Nat
def tw16793274099606576281:=Nat
def tw1620922174300535602:=Nat
def tw13498031451315290534:=Nat
def tw14694617007164540963:=Nat
def tw11288402466470950456:=Nat
def tw15784428301114434083:=Nat
def tw15784139864708575805:=Nat
def tw9241421706867412212:=Nat
def tw3184206594663893889:=Nat
def tw4944549867738042992:=Nat
def tw18202526824941975698:=Nat
def tw10297032401526285403:=Nat
def tw17595014898581959968:=Nat
def tw9957835904488018854:=Nat
def tw8157339676609236626:=Nat
def tw8743673216145817063:=Nat
def tw12824354435116171904:=Nat
def tw11036176120101562545:=Nat
def tw3458603356096495461:=Nat
def tw11738744724198854835:=Nat
def tw7954017369923763322:=Nat
def tw4766380754237544777:=Nat
def tw14923848548204482120:=Nat
def tw8139906105070620766:=Nat
def tw8919501723546712719:=Nat
def tw11703673083219834814:=Nat
def tw10391953057730724593:=Nat
def tw8008697249510601046:=Nat
def tw18214584162448812355:=Nat
def tw6048949634414820:=Nat
def tw15204557474671856390:=Nat
def tw13202875284712341210:=Nat
def tw18273059912053032322:=Nat
def tw2215624346523479804:=Nat
def tw14314438080369345893:=Nat
def tw5910600788664001243:=Nat
def tw9911946035913953706:=Nat
def tw360840030258729554:=Nat
def tw4840476559875746419:=Nat
def tw1369233755250205227:=Nat
def tw5194819960382140474:=Nat
def tw9053102872183026523:=Nat
def tw14564772890236093377:=Nat
def tw4872212622804656785:=Nat
def tw7308563304684809135:=Nat
def tw8099648832974012031:=Nat
def tw6868695484633224918:=Nat
def tw4650255686324320193:=Nat
def tw10604651247014493535:=Nat
def tw15570976592248706723:=Nat
def tw7377951210084017556:=Nat
def tw13120069731888996206:=Nat
def tw14146241660415791580:=Nat
def tw15549226991438791029:=Nat
def tw13699386676942604356:=Nat
def tw17312274251904684231:=Nat
def tw6118571011838202213:=Nat
def tw9780554237165468876:=Nat
def tw14470285237562129973:=Nat
def tw15377530638393924481:=Nat
def tw15582708079191977158:=Nat
def tw9466796585989039013:=Nat
def tw7387007072411800515:=Nat
def tw14147330445114075249:=Nat
def tw1878309709382399064:=Nat
def tw90222417368156149:=Nat
def tw14997355650406274015:=Nat
def tw14127448592827726360:=Nat
def tw7000128414286309285:=Nat
def tw2000311234917758869:=Nat
def tw17273252855556130589:=Nat
def tw2998440031281741599:=Nat
def tw5747738314595745377:=Nat
def tw17289867844127872638:=Nat
def tw11885637126401582703:=Nat
def tw17971304094596630762:=Nat
def tw4331995465617717069:=Nat
def tw3662426752410400505:=Nat
def tw4708340253470635877:=Nat
def tw47193068277928314:=Nat
def tw14099555269529294991:=Nat
def tw7494290052337834620:=Nat
def tw2182681136395966018:=Nat
def tw6848547682108054314:=Nat
def tw17450716370059701740:=Nat
def tw2782110972539887457:=Nat
def tw8818611206347350220:=Nat
def tw13220976936607035526:=Nat
def tw7490417695408229310:=Nat
def tw14544881749406554570:=Nat
def tw17480910308465831301:=Nat
def tw5404057319933772147:=Nat
def tw12116518402487430961:=Nat
def tw13975393193181126140:=Nat
def tw8767235795784720137:=Nat
def tw1039948255003461337:=Nat
def tw14810440922158125295:=Nat
def tw914581835872885249:=Nat
def tw10334946781520379917:=Nat
def tw5096651181855236882:=Nat
def tw13923898121595095283:=Nat
def tw12810306321036625219:=Nat
def tw17195234363984774016:=Nat
def tw16981807353068554448:=Nat
def tw18350430062300888602:=Nat
def tw7340309206820754281:=Nat
def tw14305682242330590876:=Nat
def tw828886555109324247:=Nat
def tw2586010522108253802:=Nat
def tw1684713661444815540:=Nat
def tw10021517323296919583:=Nat
def tw10070762616407161171:=Nat
def tw7607365105909338722:=Nat
def tw10609399274467839579:=Nat
def tw16306681528825086481:=Nat
def tw13193757020048353490:=Nat
def tw10238851812585722507:=Nat
def tw5114667551912094222:=Nat
def tw1988712729051442779:=Nat
def tw2639264339961800668:=Nat
def tw6274743699884660501:=Nat
def tw9407452975720587057:=Nat
def tw14441424954831360002:=Nat
def tw6559139168274119895:=Nat
def tw2277683831786929450:=Nat
def tw16525390423865517268:=Nat
def tw16293570156729972481:=Nat
def tw13042846913345549724:=Nat
def tw5327230027613926532:=Nat
def tw9849509300982484673:=Nat
def tw7063926059931642069:=Nat
def tw14658408212210153899:=Nat
def tw16324561200816438430:=Nat
def tw18413114359898626890:=Nat
def tw13776139648620166914:=Nat
def tw15197559797422184174:=Nat
def tw6838091077503604754:=Nat
def tw1073253307090652596:=Nat
def tw4678374021183765312:=Nat
def tw12780779856304723104:=Nat
def tw5984717814826947894:=Nat
def tw11927329386831273778:=Nat
def tw1099752031339340355:=Nat
def tw9899114714019050649:=Nat
def tw9715842827225570857:=Nat
def tw3446618732689926754:=Nat
def tw1574658845506406438:=Nat
def tw13555285233062559475:=Nat
def tw7788889069482376400:=Nat
def tw3578058589429748030:=Nat
def tw8518683927890871261:=Nat
def tw8247893908495648623:=Nat
def tw6779542154612467050:=Nat
def tw5517875890055309275:=Nat
def tw3720320671197704907:=Nat
def tw15050258530641537944:=Nat
def tw12863301062131038817:=Nat
def tw10666127052682727298:=Nat
def tw8691686215300036274:=Nat
def tw5075561005012504878:=Nat
def tw11868351176297653288:=Nat
def tw17025368039447513016:=Nat
def tw16424789756182953111:=Nat
def tw13965139484736425379:=Nat
def tw7568050623160476980:=Nat
def tw5401023434806464973:=Nat
def tw3233916808328162538:=Nat
def tw2177933544416300689:=Nat
def tw15359720535561518162:=Nat
def tw14252122612759051767:=Nat
def tw13445398648101014209:=Nat
def tw12993306273718119824:=Nat
def tw10884591323766620609:=Nat
def tw10355447900386243:=Nat
def tw17957560182003624985:=Nat
def tw17541802010097646143:=Nat
def tw13426384137792441297:=Nat
def tw8910378544485835398:=Nat
def tw13892060559858086292:=Nat
def tw7021237674728064456:=Nat
def tw665156985211003871:=Nat
def tw5742698416716612318:=Nat
def tw4881084490376281951:=Nat
def tw2874926295073671945:=Nat
def tw179194170551678720:=Nat
def tw17908518155692355263:=Nat
def tw16556048258488893569:=Nat
def tw15802003390158168418:=Nat
def tw15701632768701068273:=Nat
def tw1556641587870435453:=Nat
def tw15148680760767665562:=Nat
def tw13459464860076023913:=Nat
def tw8653642504635182478:=Nat
def tw8653243187488780590:=Nat
end PySem.W.Fast
open PySem PySem.W PyProof.Rows
local macro_rules | `(tactic| walk_at "d") => `(tactic| first | exact Jm.Qu (by k_is) (by k_is) (by k_is) (by k_is) | (refine' Jm.Qu ?a ?l ?c ?k; (case a => k_is); (case l => k_is); (case c => k_is); (case k => k_is)))
local macro_rules | `(tactic| walk_at "m") => `(tactic| first | exact Jm.Qv (by k_is) (by k_is) (by k_is) (by k_is) (by k_is) | (refine' Jm.Qv ?a ?i ?l ?c ?k; (case a => k_is); (case i => k_is); (case l => k_is); (case c => k_is); (case k => k_is)))
set_option maxRecDepth 100000 in
set_option maxHeartbeats 0 in
theorem PySem.Challenge.cw_cutrestore_k53_whole_each_later_choice_holds : PySem.Challenge.rw_cutrestore_k53_whole_each_later_choice.Holds := by
 w_on;o_law;k_head;(case hw=>w_witness2)
 k_fill
 refine Jm.walk (l:=PySem.Challenge.rw_cutrestore_k53_whole_each_later_choice) rfl rfl (λw h Y=>W.kIn_of Y) ?F
 case F=>
  intro w mg fa h KX G Wo;refine' Jm.all_mk KX G Wo ?p5 ?OI ?OJ ?uV ?mI ?mJ ?oP ?jN ?qS ?qT ?qU ?oQ ?mK ?oR ?qV ?qW ?iW ?qX ?jO ?gD ?qY ?mL ?uW ?kM ?Lo ?iX ?mM ?mN ?kN ?oS ?kO ?kP ?mO ?oT ?qZ ?mP ?iY ?jP ?mQ ?kQ ?iZ ?fF ?mR ?q9 ?jQ ?i3 ?i4 ?gh ?jR ?g9 ?gE ?uX ?oU ?mS ?hJ ?kR ?mT ?mU ?jS ?jT ?mV ?gF ?kS ?oW ?mW ?jU ?oX ?gG ?oY ?jV ?jW ?i5 ?hV ?gH ?mX ?jX ?eJ ?jY ?Lp ?kT ?oZ ?Lq ?rf ?rg ?rj ?rm ?rq ?rz ?Fw ?Fx ?Ph ?Sl ?Pj ?Lr ?Ls ?Lu ?Lv ?Lw ?Lx ?Jo ?Jp ?zB ?zC ?BV ?Ly ?Lz ?LC ?LD ?LF ?LG ?Jq ?Jr ?cP ?cZ ?b4 ?dZ ?c8 ?b8 ?eV ?df ?Fy ?wt ?kU ?LH ?Cz ?LI ?yA ?CA ?LJ ?yB ?LK ?LL ?LM ?LN ?LO ?mY ?kW ?uY ?dX ?dO ?dP ?fA ?dz ?fI ?dQ ?dY ?aF ?lF ?neF ?lP0 ?lP1 ?lP2 ?lP3 ?lP4 ?lP5 ?lP6 ?lP7
  (case p5|OI|OJ=>k_is)
  (case uV|mI|mJ|oP|jN|qS|qT|qU|oQ|mK|oR|qV|qW|iW|qX|jO|gD=>walk_at "d")
  (case qY=>walk_at "m")
  (case mL|uW|kM=>walk_at "d")
  (case Lo=>walk_at "m")
  (case iX|mM|mN|kN|oS|kO|kP|mO|oT|qZ|mP|iY|jP|mQ|kQ=>walk_at "d")
  (case iZ|fF|mR|q9=>walk_at "m")
  (case jQ=>walk_at "d")
  (case i3|i4|gh|jR|g9=>walk_at "m")
  (case gE|uX|oU|mS|hJ|kR|mT|mU|jS|jT|mV|gF|kS|oW|mW|jU|oX=>walk_at "d")
  (case gG|oY|jV|jW|i5|hV|gH|mX|jX|eJ|jY|Lp=>walk_at "m")
  (case kT=>walk_at "d")
  (case oZ=>walk_at "m")
  (case Lq=>walk_at "d")
  (case rf|rg|rj|rm|rq|rz|Fw|Fx|Ph|Sl|Pj|Lr|Ls|Lu|Lv|Lw|Lx|Jo|Jp|zB|zC|BV|Ly|Lz|LC|LD|LF|LG|Jq|Jr|cP|cZ|b4|dZ|c8|b8|eV|df|Fy|wt|kU|LH|Cz|LI|yA|CA|LJ|yB|LK|LL|LM|LN|LO|mY|kW|uY|dX|dO|dP|fA|dz|fI|dQ|dY|aF|lF=>k_is)
  (case neF=>first|rfl|decide)
  (case lP0|lP1|lP2|lP3|lP4|lP5|lP6|lP7=>k_is)
