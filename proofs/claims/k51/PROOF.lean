import PyProof.Rows.All
import Wide.All
import OpenK.AllK
import Wide.FinOn
import Lean
import PyProof.EqAt
import PyProof.EqKinds
import PyProof.TupleCall
import PyProof.NeKinds
import PyProof.Rows.Range3
import KE.KIsAll
import PyProof.ExcClass3
import PyProof.InstStoreFacts
import PyProof.ExcArgsOwn
import PyProof.ExcBaseAll.ValueError
import PyProof.ExcAttrAll.ValueError
import PyProof.Draws
import PyProof.ZipIter
import PyProof.SumWalk
import PyProof.Rows.FactsT2
import PyProof.EnumMake
import PyProof.Rows.EnumRows
import KE.KTab
import PyProof.StationsW
import PyProof.RulesAs
import PyProof.NsDelKeeps
import PyProof.PassesOwn
import PyProof.Rows.ListMulArg
import PyProof.StrWalks
import PyProof.MeetsStr
import PyProof.MeetsStr2
import PyProof.StrBlockL
import PyProof.SliceStr2
import PyProof.StrLawsIdx
import PyProof.FitsStr
import PyProof.StrLaws
import PyProof.Rows.FStr
import KE.KIntText
import PyProof.StrLawsTight
import PyProof.Rows.StrIntSpec
import PyProof.Rows.CountFlat
import PyProof.Rows.SeqMore2
import PyProof.SeqRoads
import PyProof.StrLawsAffix
import PyProof.InstEq
import KE.KSortTup
import PyProof.DictUpdate
import PyProof.DictWalks
import KE.KDictList
import PyProof.FactsAll.NoneType_1
import Wide.Seal
import PyProof.WalkInts
import PyProof.Rows.CallKwBuiltin
import KE.KMinKey
import PyProof.ListRange
import PySem.Challenge.RW_cutrestore_k51_whole_falls_walked
set_option compiler.extract_closed false
set_option Elab.async false
set_option linter.all false
set_option maxRecDepth 100000
theorem L2.fo{p:Prop}(h:∀g:Prop,(p->g)->g):p:=h p id
theorem L2.yo1{A:Sort _}{p:A->Prop}{z:Prop}(h:∃a,p a)(y:∀a,p a->z):z:=h.elim λa x=>y a x
theorem L2.yo2{A B:Sort _}{p:A->B->Prop}{z:Prop}(h:∃a b,p a b)(y:∀a b,p a b->z):z:=h.elim λa x=>x.elim λb x=>y a b x
theorem L2.yo3{A B C:Sort _}{p:A->B->C->Prop}{z:Prop}(h:∃a b c,p a b c)(y:∀a b c,p a b c->z):z:=h.elim λa x=>x.elim λb x=>x.elim λc x=>y a b c x
theorem L2.yo4{A B C D:Sort _}{p:A->B->C->D->Prop}{z:Prop}(h:∃a b c d,p a b c d)(y:∀a b c d,p a b c d->z):z:=h.elim λa x=>x.elim λb x=>x.elim λc x=>x.elim λd x=>y a b c d x
theorem L2.yo5{A B C D E:Sort _}{p:A->B->C->D->E->Prop}{z:Prop}(h:∃a b c d e,p a b c d e)(y:∀a b c d e,p a b c d e->z):z:=h.elim λa x=>x.elim λb x=>x.elim λc x=>x.elim λd x=>x.elim λe x=>y a b c d e x
theorem L2.yo6{A B C D E F:Sort _}{p:A->B->C->D->E->F->Prop}{z:Prop}(h:∃a b c d e f,p a b c d e f)(y:∀a b c d e f,p a b c d e f->z):z:=h.elim λa x=>x.elim λb x=>x.elim λc x=>x.elim λd x=>x.elim λe x=>x.elim λf x=>y a b c d e f x
theorem L2.yo7{A B C D E F G:Sort _}{p:A->B->C->D->E->F->G->Prop}{z:Prop}(h:∃a b c d e f g,p a b c d e f g)(y:∀a b c d e f g,p a b c d e f g->z):z:=h.elim λa x=>x.elim λb x=>x.elim λc x=>x.elim λd x=>x.elim λe x=>x.elim λf x=>x.elim λg x=>y a b c d e f g x
theorem L2.yo8{A B C D E F G H:Sort _}{p:A->B->C->D->E->F->G->H->Prop}{z:Prop}(h:∃a b c d e f g h,p a b c d e f g h)(y:∀a b c d e f g h,p a b c d e f g h->z):z:=h.elim λa x=>x.elim λb x=>x.elim λc x=>x.elim λd x=>x.elim λe x=>x.elim λf x=>x.elim λg x=>x.elim λh x=>y a b c d e f g h x
theorem L2.ya2{A B y:Prop}(h:A/\B)(x:A->B->y):y:=x h.1 h.2
theorem L2.ya3{A B C y:Prop}(h:A/\B/\C)(x:A->B->C->y):y:=x h.1 h.2.1 h.2.2
theorem L2.ya4{A B C D y:Prop}(h:A/\B/\C/\D)(x:A->B->C->D->y):y:=x h.1 h.2.1 h.2.2.1 h.2.2.2
theorem L2.ya5{A B C D E y:Prop}(h:A/\B/\C/\D/\E)(x:A->B->C->D->E->y):y:=x h.1 h.2.1 h.2.2.1 h.2.2.2.1 h.2.2.2.2
theorem L2.ya6{A B C D E F y:Prop}(h:A/\B/\C/\D/\E/\F)(x:A->B->C->D->E->F->y):y:=x h.1 h.2.1 h.2.2.1 h.2.2.2.1 h.2.2.2.2.1 h.2.2.2.2.2
theorem L2.ya7{A B C D E F G y:Prop}(h:A/\B/\C/\D/\E/\F/\G)(x:A->B->C->D->E->F->G->y):y:=x h.1 h.2.1 h.2.2.1 h.2.2.2.1 h.2.2.2.2.1 h.2.2.2.2.2.1 h.2.2.2.2.2.2
theorem L2.ya8{A B C D E F G H y:Prop}(h:A/\B/\C/\D/\E/\F/\G/\H)(x:A->B->C->D->E->F->G->H->y):y:=x h.1 h.2.1 h.2.2.1 h.2.2.2.1 h.2.2.2.2.1 h.2.2.2.2.2.1 h.2.2.2.2.2.2.1 h.2.2.2.2.2.2.2
theorem L2.ya9{A B C D E F G H I y:Prop}(h:A/\B/\C/\D/\E/\F/\G/\H/\I)(x:A->B->C->D->E->F->G->H->I->y):y:=x h.1 h.2.1 h.2.2.1 h.2.2.2.1 h.2.2.2.2.1 h.2.2.2.2.2.1 h.2.2.2.2.2.2.1 h.2.2.2.2.2.2.2.1 h.2.2.2.2.2.2.2.2
section
set_option hygiene false
local macro_rules | `(tactic| calc $e:term) => `(tactic| refine $e)
local macro_rules | `(tactic| lia) => `(tactic| first | with_reducible assumption | exact Nat.zero_le _ | exact Nat.le_refl _ | (refine Nat.le_of_lt ?_; with_reducible assumption) | (refine Nat.lt_succ_of_le ?_; with_reducible assumption) | (refine Int.ofNat_lt.mpr ?_; with_reducible assumption) | (refine Eq.symm ?_; with_reducible assumption) | omega)
local macro_rules | `(tactic| obtain $p:rcasesPatMed := $e:term) => `(tactic| (refine L2.fo λgZ hZ => ?_; rcases $e:term with $p:rcasesPatMed) <;> (refine hZ ?_; clear hZ gZ))
local macro_rules
 | `(tactic| obtain ⟨$ps,*⟩ := $e:term) => do
  let q := ps.getElems
  let n := q.size
  let k0 ← `(tactic| skip)
  let i : Lean.Ident := ⟨e.raw⟩
  let ce ← if e.raw.isIdent then `(tactic| try clear $i:ident) else pure k0
  let mut xs := #[]
  let mut re := #[]
  for p in q do
    let a := p.raw[0][0]
    let x := a[0][0]
    let z := Lean.mkIdent (.num `z_ xs.size)
    let b := x.isIdent && a.getNumArgs == 1 && x.getId != `rfl
    let r ← `(tactic| rcases $z:ident with $p:rcasesPatLo)
    xs := xs.push (if b then ⟨x⟩ else z)
    re := re.push (if b then k0 else r)
  let mut t ← `(tactic| rcases $e:term with ⟨$q,*⟩)
  for m in [2:n+n] do
    let c := if m ≤ n then m - 1 else m - n
    let l := Lean.mkIdent (.str `L2 (if m ≤ n then s!"ya{m}" else s!"yo{c}"))
    let w := q[c:].toArray
    let w ← `(tactic| obtain ⟨$w,*⟩ := zH)
    let f := n ≤ c + 1
    let y := if f then xs else xs[:c].toArray.push (Lean.mkIdent `zH)
    let r := if f then re else re[:c].toArray.push w
    t ← `(tactic| first | (refine $l $e ?_; ($ce:tactic); intro $y*; $[$r]*) | $t:tactic)
  if e.raw.getId == `zH then return t
  `(tactic| (refine L2.fo λgZ hZ => ?_; $t:tactic) <;> (refine hZ ?_; clear hZ gZ))
local macro_rules | `(tactic| nofun) => `(tactic| refine L2.fo λgZ hZ => ?_)
local macro_rules | `(tactic| ac_rfl) => `(tactic| (refine hZ ?_; clear hZ gZ))
local macro_rules | `(()) => `(by lia)
local macro_rules | `(∅) => `(by decide)
local macro_rules | `(⋯) => `(by decide +kernel)
local macro_rules | `(nofun) => `(by simp)
local macro_rules | `(Sort) => `(by grind)
set_option hygiene true
set_option hygiene false
local macro_rules | `(tactic| grind) => `(tactic| first | exact Or.inl rfl | exact Or.inr rfl | assumption)
local macro_rules | `(tactic| symm) => `(tactic| (refine D.ok sc (λvs H Q E h => ?_) (λf gP A outer s H vs Q E hr h => ?_); (first | (cases h; subst_vars; rfl) | ((repeat rcases h with ⟨_, h⟩) <;> subst_vars <;> rfl))))
local macro_rules
 | `(tactic| walk_at "xc") => `(tactic| (refine ⟨?_⟩; intro pins s σ H Q I h))
 | `(tactic| walk_at "xd") => `(tactic| (refine ⟨?_⟩; intro pins s σ H D I h))
 | `(tactic| walk_at "xf") => `(tactic| refine ⟨Ext.set (Ext.refl _) rfl, ?_⟩)
 | `(tactic| walk_at "xg") => `(tactic| refine L2.ig λN1 h1 => ?_)
set_option hygiene true
abbrev uU:= @PyProof.Rows.boot_isinstance
abbrev ZU:= @PyProof.Rows.boot_int
abbrev nM:= @PySem.F.plainAttrs_list
abbrev p6:= @PySem.F.slot_list_append
abbrev p7:= @PySem.F.type_list_append
abbrev p8:= @PyProof.Rows.boot_tuple
abbrev vE:= @PyProof.Rows.boot_list
abbrev Ll:= @PyProof.Rows.boot_all
section
open PySem
abbrev A':= @wpAny_bind
abbrev E':= @Nat.le_refl
abbrev F':= @Heap.get?_push_of_some
abbrev J':= @Nat.le_of_lt
abbrev K':= @wpAny_pure
abbrev L':= @PySem.boot_len
abbrev M':= @Heap.lt_size
abbrev P':= @Heap.get?_push_size
abbrev R':= @Nat.lt_of_lt_of_le
abbrev S':= @List.mem_cons_self
abbrev T':= @Bool.false_ne_true
abbrev U':= @Nat.zero_le
abbrev V':= @List.mem_cons_of_mem
abbrev W':= @List.mem_of_getElem?
abbrev X':= @PySem.mem_of_lookup
abbrev Y':= @Nat.ne_of_lt
abbrev aaa:= @Nat.le_trans
abbrev aab:= @List.mem_append_right
abbrev aac:= @List.getElem_mem
abbrev aad:= @W.mg_none_of
abbrev aae:= @wpAny_mono
abbrev aaf:= @True.intro
abbrev aag:= @wpAny_field
abbrev aah:= @Int.eq_ofNat_of_zero_le
abbrev aai:= @False.elim
abbrev aaj:= @Nat.lt_irrefl
abbrev aak:= @wpAny_seqItems
abbrev aal:= @Nat.ne_of_gt
abbrev aam:= @wpAny_pyIter_tuple
abbrev aan:= @Int.emod_lt_of_pos
abbrev aao:= @wpAny_holding
abbrev aap:= @List.getElem?_of_mem
abbrev aaq:= @wpAny_callSpecial?_slot
abbrev aar:= @wpAny_truthy_bool
abbrev aas:= @Nat.not_lt_zero
abbrev aat:= @wpAny_call_entry
abbrev aau:= @Nat.le_add_right
abbrev aav:= @Nat.lt_of_le_of_lt
abbrev aaw:= @PyProof.Rows.slot_tuple_getitem
abbrev aax:= @Int.emod_nonneg
abbrev aay:= @wpAny_newObj_type
abbrev aaz:= @wpAny_pyIter_list
abbrev aaA:= @Int.toNat_of_nonneg
abbrev aaB:= @List.getElem?_map
abbrev aaC:= @List.length_map
abbrev aaD:= @List.map_append
abbrev aaE:= @List.getD_eq_getElem?_getD
abbrev aaF:= @List.size_toArray
abbrev aaG:= @List.getElem?_append_right
abbrev aaH:= @List.getElem?_append_left
end
namespace L2
open PySem PySem.Spec PyProof.Rows
section
theorem cF{α:Type _}{l:List α}{i:Nat}(h:i<l.length):l[i]?=some l[i]:=List.getElem?_eq_getElem h
abbrev Key:=Sum Int Str
def sV:Key->Value->Bool
 | .inl k,v=>Value.isInt k v
 | .inr x,v=>Value.isStrOf x v
def abd(w:World):Key->Int
 | .inl k=>hashInt k
 | .inr x=>hashStr w x
theorem cV:∀{k:Key}{v:Value},sV k v=true->(∃i t,k=Sum.inl i/\v=Value.int i t)\/(∃x t,k=Sum.inr x/\v=Value.str x t)
 | .inl i,v,h=>by
  obtain⟨t,e⟩:=Value.isInt_shape (k:=i) (v:=v) h;calc .inl ⟨i,t,rfl,e⟩
 | .inr x,v,h=>by
  obtain⟨t,e⟩:=Value.isStrOf_shape (x:=x) (v:=v) h;calc .inr ⟨x,t,rfl,e⟩
theorem Ew(i:Int)(t:Tok):sV (.inl i) (.int i t)=true:=by simp[sV,Value.isInt]
theorem Ex(x:Str)(t:Tok):sV (.inr x) (.str x t)=true:=by simp[sV,Value.isStrOf]
theorem Qj(a b:Int):decide ((Sum.inl a:Key)=Sum.inl b)=(a==b):=by
 by_cases e:a=b
 ·subst e;simp
 ·have h:¬(Sum.inl a:Key)=Sum.inl b:=λq=>e (Sum.inl.inj q);rw[decide_eq_false h];calc(beq_eq_false_iff_ne.mpr e).symm
theorem Qk(a b:Str):decide ((Sum.inr a:Key)=Sum.inr b)=decide (a=b):=by
 by_cases e:a=b
 ·subst e;simp
 ·have h:¬(Sum.inr a:Key)=Sum.inr b:=λq=>e (Sum.inr.inj q);rw[decide_eq_false h,decide_eq_false e]
theorem Ql(a:Int)(b:Str):decide ((Sum.inl a:Key)=Sum.inr b)=false:=decide_eq_false (λq=>nomatch q)
theorem Qm(a:Str)(b:Int):decide ((Sum.inr a:Key)=Sum.inl b)=false:=decide_eq_false (λq=>nomatch q)
def dH(prog:Program)(w:World):PySem.KeyKind prog w Key where
 is:=sV
 hash:=abd w
 inj:=λv a b f d=>by
  rcases cV f with⟨i,t,rfl,rfl⟩|⟨x,t,rfl,rfl⟩
  ·rcases cV d with⟨j,u,rfl,e⟩ | ⟨y,u,rfl,e⟩
   ·injection e with e1 _;rw[e1]
   ·exact nomatch e
  ·rcases cV d with⟨j,u,rfl,e⟩ | ⟨y,u,rfl,e⟩
   ·exact nomatch e
   ·injection e with e1 _;rw[e1]
 byValue:=λk v h=>by
  rcases cV h with⟨i,t,rfl,rfl⟩|⟨x,t,rfl,rfl⟩<;>rfl
 pyHash:=λc h=>by
  rcases cV c with⟨i,t,rfl,rfl⟩|⟨x,t,rfl,rfl⟩
  ·exact wpAny_pyHash_int h
  ·exact wpAny_pyHash_str h
 eqBool:=λg c h=>by
  rcases cV g with⟨i,t,rfl,rfl⟩|⟨x,t,rfl,rfl⟩
  ·rcases cV c with⟨j,u,rfl,rfl⟩ | ⟨y,u,rfl,rfl⟩
   ·rw[Qj]at h;exact wpAny_eqBool_int h
   ·rw[Ql]at h;exact SeqAt.EqAt.int_str i t y u _ _ _ _ h
  ·rcases cV c with⟨j,u,rfl,rfl⟩ | ⟨y,u,rfl,rfl⟩
   ·rw[Qm]at h;exact SeqAt.EqAt.str_int x t j u _ _ _ _ h
   ·rw[Qk]at h;exact wpAny_eqBool_str h
 «strs»:=λk x t v h=>by
  rcases cV h with⟨i,u,rfl,e⟩|⟨y,u,rfl,e⟩
  ·exact nomatch e
  ·injection e with e1 _
   subst e1
   cases v<;>rfl
theorem AU(prog:Program)(w:World)(k:Key)(v:Value):(dH prog w).is k v=sV k v:=rfl
theorem yF(prog:Program)(w:World)(i:Int)(t:Tok):(dH prog w).is (.inl i) (.int i t)=true:=Ew i t
theorem yG(prog:Program)(w:World)(x:Str)(t:Tok):(dH prog w).is (.inr x) (.str x t)=true:=Ex x t
end
section
variable {a b:Addr}{H:Hp}
inductive V where
 |bM|bl (b:Bool)|int (i:Int)|str (x:Str)|Cq (b:Array UInt8)|Ol (b:UInt64)|ref (a:Addr)|ty (n:String)
 deriving DecidableEq
def RelV:V->Value->Prop
 | .bM,u=>u=Value.none
 | .bl b,u=>u=Value.bool b
 | .int i,u=>∃t,u=Value.int i t
 | .str x,u=>∃t,u=Value.str x t
 | .Cq b,u=>∃t,u=Value.bytes b t
 | .Ol b,u=>∃t,u=Value.float b t
 | .ref a,u=>u=Value.ref a
 | .ty n,u=>u=Value.type n
abbrev Vals:List V->List Value->Prop:=Paired RelV
theorem Vals.length{xs:List V}{us:List Value}(r:Vals xs us):xs.length=us.length:=Paired.length r
theorem Vals.get:∀{xs:List V}{us:List Value}{i:Nat}{x:V},Vals xs us->xs[i]?=some x->∃u,us[i]?=some u/\RelV x u
 |_,_,_,_,.nil,e=>by simp at e
 |_,_,0,_,.cons r _,e=>by simp at e;subst e;calc⟨_,rfl,r⟩
 |_,_,i+1,x,.cons _ t,e=>by
  obtain⟨u,a,b⟩:=Vals.get (i:=i) (x:=x) t (by simpa using e);calc⟨u,by simpa using a,b⟩
theorem Vals.set{x:V}{u:Value}(r:RelV x u):∀{xs:List V}{us:List Value}(i:Nat),Vals xs us->Vals (xs.set i x) (us.set i u)
 |_,_,_,.nil=>.nil
 |_,_,0,.cons _ t=>.cons r t
 |_,_,i+1,.cons q t=>.cons q (Vals.set r i t)
theorem Vals.append:∀{xs a:List V}{us ws:List Value},Vals xs us->Vals a ws->Vals (xs++a) (us++ws)
 |_,_,_,_,.nil,s=>s
 |_,_,_,_,.cons r t,s=>.cons r (Vals.append t s)
theorem Vals.take:∀{xs:List V}{us:List Value}(n:Nat),Vals xs us->Vals (xs.take n) (us.take n)
 |_,_,0,_=>.nil
 |_,_,_+1,.nil=>.nil
 |_,_,n+1,.cons r t=>.cons r (Vals.take n t)
theorem Vals.drop:∀{xs:List V}{us:List Value}(n:Nat),Vals xs us->Vals (xs.drop n) (us.drop n)
 |_,_,0,r=>r
 |_,_,_+1,.nil=>.nil
 |_,_,n+1,.cons _ t=>Vals.drop n t
theorem Vals.none_of:∀{xs:List V}{us:List Value}{i:Nat},Vals xs us->xs[i]?=none->us[i]?=none:=λ{xs us i} r e=>by
 have a:=r.length;have a:xs.length<=i:=List.getElem?_eq_none_iff.mp e;calc List.getElem?_eq_none_iff.mpr ()
def nj:Option V->Option Value->Prop
 |some v,some u=>RelV v u
 |none,none=>True
 |_,_=>False
def KV{κ:Type}:List (κ×V)->List (κ×Value)->Prop:=Paired λ(p:κ×V) (q:κ×Value)=>p.1=q.1/\RelV p.2 q.2
def kV:Key->V
 | .inl i=>.int i
 | .inr x=>.str x
inductive HO where
 |lst (xs:List V)
 |tup (xs:List V)
 |dK (bf:List (Key×V))|dT (bf:List (List Key×V))
 |set (S:Int->Bool) (n:Nat)
 |ins (C dx:Addr) (fs:List (Str×V))
 |own (x:Addr)
 |xd (fs:List (Str×V))
 |met (f x:Addr)
 |Qn (lo hi:Int)
 |AG (o:Obj) (u:HO)
 |Qo (ps:Array Value)
 |ext (φ:Heap->Prop)
abbrev Hp:=Addr->Option HO
def upd(H:Hp)(a:Addr)(o:HO):Hp:=λb=>if b=a then some o else H b
theorem ab{o:HO}:upd H a o a=some o:=by unfold upd;rw[if_pos rfl]
theorem av{o:HO}(h:b≠a):upd H a o b=H b:=by unfold upd;rw[if_neg h]
theorem Cr{o u:HO}(h:H a=some o)(h':H b=some u)(d:o≠u):a≠b:=by
 intro e;subst e;rw[h]at h';calc d (Option.some.inj h')
theorem ao{o:HO}(h:H a=some o)(h':H b=none):a≠b:=by
 intro e;subst e;rw[h]at h';cases h'
section
variable (P:Program)(w:World)
def cC(H:Hp)(h:Heap)(a:Addr):HO->Prop
 | .lst xs=>xs.length<=sizeLine/\∃(b:List Value) (n:Nat),Vals xs b/\h.get? a=some {cls:=.type "list",data:=.seq b.toArray n}
 | .tup xs=>xs.length<=sizeLine/\∃b:List Value,Vals xs b/\IsTup h a b.toArray
 | .dK b=>b.length<=sizeLine/\(a==sysModules)=false/\∃vs,KV b vs/\h.DictOf (dH P w) a vs
 | .dT b=>b.length<=sizeLine/\(a == sysModules)=false/\∃xs:List (List Key×Addr×Value),
   Paired (λ(p:List Key×V) (q:List Key×Addr×Value)=>p.1=q.1/\H q.2.1=some (.tup (p.1.map kV))/\RelV p.2 q.2.2) b xs/\
   ∃o es ep,h.get? a=some o/\o.ExactDict/\o.data=.dict es ep/\es.toList=xs.map (entryOfKey (tupleKind (dH P w)))/\(xs.map (·.1)).Nodup
 | .set S n=>h.SetOf (intKind P w) a S n
 | .ins C d c=>H d=some (.own a)/\c.length<=1000/\d≠a/\h.get? a=some (W.instObj C d)/\
   ∃b,h.Ns1 d b/\(∀f,nj (c.lookup f) (b f))/\PySem.Within b (c.map (·.1))
 | .own _=>∃o,h.get? a=some o
 | .xd c=>∃b,h.Ns1 a b/\∀f,nj (c.lookup f) (b f)
 | .Qn lo b=>∃t u v,h.get? a=some {cls:=.type "range",data:=.fields #[.int lo t,.int b u,.int 1 v]}
 | .AG o u=>h.get? a=some o/\cC H h a u
 | .Qo b=>h.get? a=some {cls:=.none,data:=.fields b}
 | .met f x=>h.get? a=some (W.methodObj (.ref f) (.ref x))
 | .ext φ=>φ h/\(∃o,h.get? a=some o)/\∀b c:Heap,φ b->(∀o,b.get? a=some o->c.get? a=some o)->φ c
def nN(H:Hp)(h:Heap):Prop:=∀a o,H a=some o->cC P w H h a o
end
section
variable {P:Program}{w:World}{H H':Hp}{h h':Heap}{a:Addr}{o:HO}
theorem cC.lt(x:cC P w H h a o):a<h.objs.size:=by
 cases o with
 |lst b=>obtain⟨_,_,_,_,e⟩:=x;calc M' e
 |tup b=>obtain⟨_,_,_,p⟩:=x;calc p.lt
 |dK b=>obtain⟨_,_,_,_,o,_,_,e,_⟩:=x;calc M' e
 |dT b=>obtain⟨_,_,_,_,o,_,_,e,_⟩:=x;calc M' e
 |set S n=>obtain⟨o,_,_,_,e,_⟩:=x;calc M' e
 |ins C c b=>obtain⟨_,_,_,e,_⟩:=x;calc M' e
 |own y=>obtain⟨_,e⟩:=x;calc M' e
 |xd b=>obtain⟨_,⟨_,_,_,e,_⟩,_⟩:=x;calc M' e
 |Qn b c=>obtain⟨_,_,_,e⟩:=x;calc M' e
 |AG b u=>obtain⟨e,_⟩:=x;calc M' e
 |Qo b=>calc M' (show h.get? a=some _ from x)
 |met f y=>calc M' (show h.get? a=some _ from x)
 |ext φ=>obtain⟨_,⟨_,e⟩,_⟩:=x;calc M' e
theorem Paired.Qp{α β:Type}{F G:α->β->Prop}:∀{c:List α}{d:List β},Paired F c d->(∀a b,F a b->G a b)->Paired G c d
 |_,_,.nil,_=>.nil
 |_,_,.cons r t,f=>.cons (f _ _ r) (Paired.Qp t f)
theorem cC.aI(x:cC P w H h a o)(k:∀b u,(b=a\/H b=some (.own a))->h.get? b=some u->h'.get? b=some u)
  (m:∀b,H b=some (.own a)->H' b=some (.own a)) (j:∀b xs,H b=some (.tup xs)->H' b=some (.tup xs)):cC P w H' h' a o:=by
 induction o with
 |lst xs=>obtain⟨z,d,n,r,e⟩:=x;calc⟨z,d,n,r,k _ _ (.inl rfl) e⟩
 |tup xs=>obtain⟨z,d,r,f,e,c⟩:=x;calc⟨z,d,r,f,k _ _ (.inl rfl) e,c⟩
 |dK d=>obtain⟨z,y,l,r,f,g,i,e,c⟩:=x;calc⟨z,y,l,r,f,g,i,k _ _ (.inl rfl) e,c⟩
 |dT d=>
  obtain⟨z,y,xs,r,f,g,i,e,c⟩:=x;calc⟨z,y,xs,Paired.Qp r λp q z=>⟨z.1,j _ _ z.2.1,z.2.2⟩,f,g,i,k _ _ (.inl rfl) e,c⟩
 |set S n=>obtain⟨f,g,i,t,e,c⟩:=x;calc⟨f,g,i,t,k _ _ (.inl rfl) e,c⟩
 |ins C d n=>
  obtain⟨d,z,s,e,j,⟨l,g,i,v,c⟩,r⟩:=x;calc⟨m _ d,z,s,k _ _ (.inl rfl) e,j,⟨l,g,i,k _ _ (.inr d) v,c⟩,r⟩
 |own y=>obtain⟨f,e⟩:=x;calc⟨f,k _ _ (.inl rfl) e⟩
 |xd n=>obtain⟨j,⟨l,g,i,e,c⟩,r⟩:=x;calc⟨j,⟨l,g,i,k _ _ (.inl rfl) e,c⟩,r⟩
 |Qn c d=>obtain⟨t,u,v,e⟩:=x;calc⟨t,u,v,k _ _ (.inl rfl) e⟩
 |AG f u c=>obtain⟨e,q⟩:=x;calc⟨k _ _ (.inl rfl) e,c q⟩
 |Qo c=>
  have e:h.get? a=some {cls:=.none,data:=.fields c}:=x;show h'.get? a=some {cls:=.none,data:=.fields c};calc k a _ (.inl rfl) e
 |met f y=>
  have e:h.get? a=some (W.methodObj (.ref f) (.ref y)):=x;show h'.get? a=some (W.methodObj (.ref f) (.ref y));calc k a _ (.inl rfl) e
 |ext φ=>obtain⟨p,⟨o,e⟩,c⟩:=x;calc⟨c _ _ p λo q=>k _ _ (.inl rfl) q,⟨o,k _ _ (.inl rfl) e⟩,c⟩
theorem nN.lt(x:nN P w H h)(e:H a=some o):a<h.objs.size:=(x a o e).lt
theorem nN.fresh(x:nN P w H h)(e:h.objs.size<=a):H a=none:=by
 cases q:H a with
 |none=>rfl
 |some u=>calc absurd (R' (x.lt q) e) (aaj _)
theorem nN.kept(x:nN P w H h)(k:∀b u,h.get? b=some u->h'.get? b=some u):nN P w H h':=λa o e=>
 (x a o e).aI (λb u _ q=>k b u q) (λ_ q=>q) λ_ _ q=>q
theorem nN.laid(x:nN P w H h)(k:∀b u,h.get? b=some u->h'.get? b=some u)(g:h.objs.size<=a)(c:cC P w (upd H a o) h' a o):nN P w (upd H a o) h':=λb u e=>by
 have d:=x.fresh g;by_cases f:b=a
 ·subst f;rw[ab]at e;cases e;exact c
 ·rw[av f]at e;exact(x b u e).aI (λc v _ q=>k c v q) (λc q=>by rw[av (ao q d)];calc q) λc e q=>by rw[av (ao q d)];calc q
end
def Rd(H:Hp)(a:Addr)(u:HO):Prop:=H a=some u\/∃o,H a=some (.AG o u)
theorem Rd.ok{P:Program}{w:World}{h:Heap}{u:HO}(r:Rd H a u)(x:nN P w H h):cC P w H h a u:=by
 rcases r with r|⟨o,r⟩
 ·exact x a u r
 ·obtain⟨_,q⟩:=x a _ r;calc q
def Vl:Option HO->Prop
 |some (.lst _)=>True
 |some (.dK _)=>True
 |some (.dT _)=>True
 |some (.set _ _)=>True
 |some (.ins _ _ _)=>True
 |some (.ext _)=>True
 |_=>False
section
variable {P:Program}{w:World}{H:Hp}{h h':Heap}{x e:Addr}{o':HO}
theorem nN.write(n:nN P w H h)(a:Vl (H x))(he:e=x\/H e=some (.own x))(k:∀b u,b≠e->h.get? b=some u->h'.get? b=some u)(o:∃u,h'.get? e=some u)
  (j:cC P w (upd H x o') h' x o'):nN P w (upd H x o') h':=λb u q=>by
 have l:∀c y,H c=some (.own y)->c≠x:=λc y r z=>by subst z;rw[r]at a;exact a
 have p:∀c d,H c=some (.tup d)->c≠x:=λc d r z=>by subst z;rw[r]at a;exact a
 by_cases f:b=x
 ·subst f;rw[ab]at q;cases q;exact j
 ·rw[av f] at q;by_cases g:b=e
  ·have m:H b=some (.own x):=by
    rcases he with z|z
    ·exact absurd (g.trans z) f
    ·rw[g];exact z
   rw[q]at m;cases m;obtain⟨v,a⟩:=o;exact⟨v,by rw[g];calc a⟩
  ·refine(n b u q).aI (λc v i r=>k c v ?_ r) (λc r=>by rw[av (l c b r)];calc r) λc d r=>by rw[av (p c d r)];exact r
   rcases i with rfl|i
   ·exact g
   ·rintro rfl;rcases he with z | z
    ·exact l c b i z
    ·rw[i]at z;cases z;calc f rfl
end
structure Un(fs ex:List Addr)(H H':Hp)(h h':Heap):Prop where
 keep:∀b o,h.get? b=some o->H b=none->b∉fs->b∉ex->h'.get? b=some o
 slot:∀b o,h.get? b=some o->H b=none->b∈fs->b∉ex->∃sl,h'.get? b=some {o with slots:=sl}
 free:∀b o,h.get? b=some o->H b=none->b∉ex->H' b=none
 there:∀b o,h.get? b=some o->b∉ex->∃o',h'.get? b=some o'
 aN:∀b xs,H b=some (.tup xs)->H' b=some (.tup xs)
 wM:∀b o u,H b=some (.AG o u)->H' b=some (.AG o u)
 yH:∀b ps,H b=some (.Qo ps)->∃more,H' b=some (.Qo (ps++more))
section
variable {fs vF ex ex':List Addr}{H H1 H2:Hp}{h h1 h2 h':Heap}{a x e:Addr}{o:HO}
theorem Un.any(u:Un fs ex H H1 h h1){b:Addr}{a:Obj}(q:h.get? b=some a)(n:H b=none)(c:b∉ex):∃d,h1.get? b=some {a with slots:=d}:=by
 by_cases d:b∈fs
 ·exact u.slot b a q n d c
 ·calc⟨a.slots,u.keep b a q n d c⟩
theorem Un.kept(k:∀b u,h.get? b=some u->h'.get? b=some u):Un fs ex H H h h':=
 ⟨λb a q _ _ _=>k b a q,λb a q _ _ _=>⟨a.slots,k b a q⟩,λ_ _ _ n _=>n,λb a q _=>⟨a,k b a q⟩,λ_ _ q=>q,λ_ _ _ q=>q,λ_ a q=>⟨#[],by rw[q];simp⟩⟩
theorem Un.refl:Un fs ex H H h h:=Un.kept λ_ _ q=>q
theorem Un.laid(k:∀b u,h.get? b=some u->h'.get? b=some u)(d:h.objs.size<=a)(c:H a=none):Un fs ex H (upd H a o) h h' where
 keep:=λb u q _ _ _=>k b u q
 slot:=λb u q _ _ _=>⟨u.slots,k b u q⟩
 free:=λb u q n _=>by rw[av (Y' (R' (M' q) d))];exact n
 there:=λb u q _=>⟨u,k b u q⟩
 aN:=λb d q=>by rw[av (ao q c)];exact q
 wM:=λb u d q=>by rw[av (ao q c)];exact q
 yH:=λb d q=>⟨#[],by rw[av (ao q c),q];simp⟩
theorem Un.write(a:Vl (H x))(he:e=x\/H e=some (.own x))(k:∀b u,b≠e->h.get? b=some u->h'.get? b=some u)(i:∃u,h'.get? e=some u):Un fs ex H (upd H x o) h h':=by
 have d:∀b,H b=none->b≠x:=λb n z=>by subst z;rw[n]at a;exact a
 have f:∀b,H b=none->b≠e:=λb n z=>by
  subst z;rcases he with r|r
  ·exact d b n r
  ·rw[n]at r;cases r
 have c:∀b u,H b=some u->¬Vl (some u)->b≠x:=λb u q j z=>by subst z;rw[q]at a;exact j a
 refine⟨λb u q n _ _=>k b u (f b n) q,λb u q n _ _=>⟨u.slots,k b u (f b n) q⟩,λb u q n _=>by rw[av (d b n)];exact n,λb u q _=>?_,
  λb a q=>by rw[av (c b _ q λz=>z)];calc q,λb u a q=>by rw[av (c b _ q λz=>z)];calc q,λb a q=>⟨#[],by rw[av (c b _ q λz=>z),q];simp⟩⟩
 by_cases g:b=e
 ·subst g;exact i
 ·calc⟨u,k b u g q⟩
end
def ZV(h:Heap)(H:Hp):List Addr:=(List.range h.objs.size).filter λa=>(H a).isSome
def wN(h:Heap)(H:Hp):Heap:=W.hideAll h (ZV h H)
theorem Ey(h:Heap)(H:Hp):(wN h H).objs.size=h.objs.size:=W.hideAll_size _ _
theorem Gv{h:Heap}{o:Obj}(e:h.get? b=some o)(n:H b=none):(wN h H).get? b=some o:=
 W.hideAll_get _ e λa=>by
  have q:(H b).isSome=true:=(List.mem_filter.mp a).2;rw[n]at q;simp at q
theorem L0{h:Heap}{H:Hp}{b:Addr}{o:Obj}(e:(wN h H).get? b=some o):h.get? b=some o/\H b=none:=by
 have a:h.get? b=some o:=W.of_hideAll (ZV h H) e;refine⟨a,?_⟩
 cases q:H b with
 |none=>rfl
 |some x=>
  have c:b∈ZV h H:=List.mem_filter.mpr ⟨List.mem_range.mpr (M' a),by simp[q]⟩;have z:(wN h H).get? b=none:=W.hideAll_none (ZV h H) c;rw[z]at e;cases e
end
section
variable {A:Around}{ch:List Addr}{t':Nat}{E:Value->Shared->Prop}
structure Mod(K:W.Frag)(mg:Str->Option Value)(base:Heap):Prop where
 T6:K.In base
 glob:base.Ns mainGlobals mg
 blt:∃mb,base.Ns builtinsNs mb/\∀x:Str,x≠"__name__"->mb x=bootBuiltins x
 nolimit:base.NoLimit
structure Cx where
 prog:Program
 w:World
 K:W.Frag
 mg:Str->Option Value
 base:Heap
 A:Around
 N:List Str
 s₀:Shared
 H₀:Hp
 env:Env
 outer:List Env
 stack:List Env
 ex:List Addr
 fn:Str->Bool
 calm:Bool
 pn:List (Addr×Obj)
 xe:Value->Shared->Prop
def Ez(l:List Env):List Addr:=l.filterMap (·.frame)
abbrev Cx.fs(X:Cx):List Addr:=Ez X.outer
def Vn(sc:Scope)(x:Str):Prop:=sc.names.lookup x=some .local\/sc.names.lookup x=some .cell\/sc.names.lookup x=some .free
def Loc(sc:Scope)(x:Str):Prop:=sc.names.lookup x=some .local\/sc.names.lookup x=some .cell
def Look(env:Env)(h:Heap)(m:Str->Option Value)(x:Str)(u:Value):Prop:=
 (env.kindOf x=some .local/\m x=some u)\/((env.kindOf x=some .cell\/env.kindOf x=some .free)/\∃c,env.cells.lookup x=some c/\h.IsCell c (some u))
structure Cx.Ok(X:Cx):Prop where
 mod:Mod X.K X.mg X.base
 kind:X.env.scope.kind=.function
 glob:X.env.globals=mainGlobals
 blt:X.env.builtins=builtinsNs
 above:X.s₀.heap.objs.size<=X.env.locals
 inj:∀x y c,X.env.cells.lookup x=some c->X.env.cells.lookup y=some c->x=y
 has:∀x,(X.env.kindOf x=some .cell\/X.env.kindOf x=some .free)->∃c,X.env.cells.lookup x=some c
 T7:∀x c,X.fn x=true->X.env.cells.lookup x=some c->X.s₀.heap.objs.size<=c
 hd:X.calm=true->X.A.handled=none
 frames:X.A.frames=some X.stack
 Vo:X.stack=X.outer\/(X.stack=X.env::X.outer/\X.env.frame=some X.env.locals)
 ZW:∀b∈X.ex,b≠X.env.locals/\∀x c,X.env.cells.lookup x=some c->c≠b
 bs:∀b o,X.base.get? b=some o->X.s₀.heap.get? b=some o/\X.H₀ b=none
 Gw:X.base.objs.size<=X.s₀.heap.objs.size
 AV:∀b o,X.base.get? b=some o->b∉X.ex
 EA:∀b∈X.ex,b∉X.fs
 p9:X.s₀.heap.FunFrames X.base X.outer
 Om:∀b∈X.fs,X.H₀ b=none
structure Inv(X:Cx)(pins:List (Addr×Obj))(σ:List (Option V))(H:Hp)(s:Shared):Prop where
 ok:X.Ok
 os:s.os=X.s₀.os
 bare:AllBare s.gens
 base:Un X.fs X.ex X.H₀ H X.s₀.heap s.heap
 loc:∃m,s.heap.Ns X.env.locals m/\∀(i:Nat) (x:Str) (v:V),X.N[i]?=some x->σ[i]?=some (some v)->Vn X.env.scope x->∃u,RelV v u/\Look X.env s.heap m x u
 cell:∀x c,X.env.cells.lookup x=some c->∃v,s.heap.IsCell c v
 free:H X.env.locals=none
 lI:∀x c,X.env.cells.lookup x=some c->H c=none
 pin:∀p∈X.pn++pins,s.heap.get? p.1=some p.2/\H p.1=none/\p.1≠X.env.locals/\p.1∉X.fs/\∀v,p.2.data≠.cell v
 aY:nN X.prog X.w H s.heap
 len:σ.length=X.N.length
section
variable {X:Cx}{pins:List (Addr×Obj)}{σ:List (Option V)}{H H':Hp}{s:Shared}{h':Heap}
theorem Cx.Ok.Qr(a:X.Ok){b:Addr}{o:Obj}(e:X.base.get? b=some o):b∉X.fs:=λc=>by
 have:=(a.p9.mem c).1;rw[e]at this;cases this
theorem Inv.bs(I:Inv X pins σ H s):∀b o,X.base.get? b=some o->s.heap.get? b=some o/\H b=none:=λb o e=>
 ⟨I.base.keep b o (I.ok.bs b o e).1 (I.ok.bs b o e).2 (I.ok.Qr e) (I.ok.AV b o e),I.base.free b o (I.ok.bs b o e).1 (I.ok.bs b o e).2 (I.ok.AV b o e)⟩
theorem Inv.bk(I:Inv X pins σ H s):∀b o,X.base.get? b=some o->s.heap.get? b=some o:=λb o e=>(I.bs b o e).1
theorem Inv.mod(I:Inv X pins σ H s):Mod X.K X.mg X.base:=I.ok.mod
theorem Inv.k7(I:Inv X pins σ H s):X.K.In s.heap:=I.ok.mod.T6.keeps I.bk
theorem Inv.lt(I:Inv X pins σ H s):X.env.locals<s.heap.objs.size:=let ⟨_,a,_⟩:=I.loc;a.lt
theorem Inv.sz(I:Inv X pins σ H s):X.s₀.heap.objs.size<=s.heap.objs.size:=aaa I.ok.above (J' I.lt)
theorem Inv.Qs(I:Inv X pins σ H s){a:Addr}(h:s.heap.objs.size<=a):a∉X.fs:=λa=>by
 obtain⟨_,o,b,_⟩:=I.ok.p9.mem a;calc absurd (R' (M' b) (aaa I.sz h)) (aaj _)
theorem Inv.Qt(I:Inv X pins σ H s):∀x c,X.env.cells.lookup x=some c->c≠X.env.locals:=λx c e z=>by
 obtain⟨v,o,a,b⟩:=I.cell x c e;obtain⟨m,⟨g,h,i,d,f,_⟩,_⟩:=I.loc;rw[z,d]at a;cases a;rw[f]at b;cases b
theorem Inv.p9(I:Inv X pins σ H s):s.heap.FunFrames X.base X.outer:=by
 have a:∀(l:List Env),(∀b∈Ez l,b∈X.fs)->X.s₀.heap.FunFrames X.base l->s.heap.FunFrames X.base l:=by
  intro l;induction l with
  |nil=>intro _ _;trivial
  |cons c r h=>
   intro g e;obtain⟨i,⟨L,o,c,j,f,k⟩,l⟩:=e;have d:L∈X.fs:=g L (by unfold Ez;rw[List.filterMap_cons,c];calc S');obtain⟨m,e⟩:=I.base.slot L o f (I.ok.Om L d) d λz=>I.ok.EA L z d;exact⟨i,⟨L,_,c,j,e,k⟩,h (λb f=>g b (by unfold Ez;rw[List.filterMap_cons,c];calc V' _ f)) l⟩
 calc a X.outer (λ_ f=>f) I.ok.p9
theorem Inv.stack(I:Inv X pins σ H s):s.heap.FunFrames X.base X.stack:=by
 rcases I.ok.Vo with e|⟨e,a⟩
 ·rw[e];exact I.p9
 ·rw[e];obtain⟨m,b,_⟩:=I.loc;calc .cons (by rw[I.ok.kind];decide) a b ?_ I.p9;calc Heap.get?_none_of_le (aaa I.ok.Gw I.ok.above)
theorem Inv.wO(I:Inv X pins σ H s):∀b∈Ez X.stack,b∈X.env.locals::X.fs:=λb a=>by
 rcases I.ok.Vo with e|⟨e,b⟩
 ·rw[e]at a;exact V' _ a
 ·rw[e]at a;unfold Ez at a;rw[List.filterMap_cons,b]at a;calc a
theorem Inv.Cs(I:Inv X pins σ H s):∀b∈Ez X.stack,H b=none:=λb a=>by
 rcases List.mem_cons.mp (I.wO b a) with e|a
 ·rw[e];exact I.free
 ·obtain⟨_,o,c,_⟩:=I.ok.p9.mem a;calc I.base.free b o c (I.ok.Om b a) λz=>I.ok.EA b z a
theorem Inv.step{g':Array GenState}{t':Nat}{d':Drawn}(I:Inv X pins σ H s)
  (j:∀b∈ch,(b∈X.ex\/X.s₀.heap.objs.size<=b)/\b≠X.env.locals/\(∀x c,X.env.cells.lookup x=some c->c≠b)/\∀p∈X.pn++pins,p.1≠b)
  (keep:∀b o,b≠X.env.locals->b∉X.fs->b∉ch->s.heap.get? b=some o->H b=none->h'.get? b=some o)
  (slot:∀b o,b≠X.env.locals->b∈X.fs->b∉ch->s.heap.get? b=some o->H b=none->∃D,h'.get? b=some {o with slots:=D}) (free:∀b o,b∉ch->s.heap.get? b=some o->H b=none->H' b=none)
  (there:∀b o,b∉ch->s.heap.get? b=some o->∃k,h'.get? b=some k)
  (J:∀b xs,H b=some (.tup xs)->H' b=some (.tup xs)) (K:∀b o u,H b=some (.AG o u)->H' b=some (.AG o u)) (L:∀b B,H b=some (.Qo B)->∃q,H' b=some (.Qo (B++q)))
  (ns:∀m,s.heap.Ns X.env.locals m->h'.Ns X.env.locals m) (M:nN X.prog X.w H' h') (N:AllBare g'):
  Inv X pins σ H' {s with heap:=h',gens:=g',drawn:=d',toks:=t'}:=by
 have t:∀b o,X.s₀.heap.get? b=some o->b≠X.env.locals:=λb o e=>Y' (R' (M' e) I.ok.above);have C:∀b o,X.s₀.heap.get? b=some o->b∉X.ex->b∉ch:=λb o e a g=>by
  rcases(j b g).1 with z|z
  ·exact a z
  ·exact absurd (R' (M' e) z) (aaj _)
 have d:∀x c,X.env.cells.lookup x=some c->∀v,s.heap.IsCell c v->h'.IsCell c v:=λx c e v ⟨o,h,E⟩=>by
  have y:c∉ch:=λz=>(j c z).2.2.1 x c e rfl;by_cases F:c∈X.fs
  ·obtain⟨D,q⟩:=slot c o (I.Qt x c e) F y h (I.lI x c e);exact⟨_,q,E⟩
  ·exact⟨o,keep c o (I.Qt x c e) F y h (I.lI x c e),E⟩
 refine⟨I.ok,I.os,N,⟨λb o e n g a=>?_,λb o e n g a=>?_,λb o e n a=>?_,λb o e a=>?_,λb xs e=>J b xs (I.base.aN b xs e),λb o xs e=>K b o xs (I.base.wM b o xs e),λb B e=>?_⟩,?_,λx c e=>?_,?_,λx c e=>?_,λp G=>?_,M,I.len⟩
 ·exact keep b o (t b o e) g (C b o e a) (I.base.keep b o e n g a) (I.base.free b o e n a)
 ·obtain⟨D,f⟩:=I.base.slot b o e n g a;obtain⟨q,A⟩:=slot b _ (t b o e) g (C b o e a) f (I.base.free b o e n a);exact⟨q,A⟩
 ·obtain⟨k,f⟩:=I.base.there b o e a;exact free b k (C b o e a) f (I.base.free b o e n a)
 ·obtain⟨k,f⟩:=I.base.there b o e a;exact there b k (C b o e a) f
 ·obtain⟨a,f⟩:=I.base.yH b B e;obtain⟨g,A⟩:=L b _ f;exact⟨a++g,by rw[A,Array.append_assoc]⟩
 ·obtain⟨m,a,O⟩:=I.loc;calc⟨m,ns m a,λi x v f A P=>?_⟩;obtain⟨u,r,l⟩:=O i x v f A P;calc⟨u,r,?_⟩;rcases l with l | ⟨k,c,e,z⟩
  ·exact .inl l
  ·exact .inr ⟨k,c,e,d x c e _ z⟩
 ·obtain⟨v,z⟩:=I.cell x c e;exact⟨v,d x c e v z⟩
 ·obtain⟨m,⟨o,_,_,h,_⟩,_⟩:=I.loc;exact free _ o (λz=>(j _ z).2.1 rfl) h I.free
 ·obtain⟨v,o,h,E⟩:=I.cell x c e;exact free c o (λz=>(j c z).2.2.1 x c e rfl) h (I.lI x c e)
 ·obtain⟨e,n,a,b,d⟩:=I.pin p G;have y:p.1∉ch:=λz=>(j p.1 z).2.2.2 p G rfl;calc⟨keep p.1 p.2 a b y e n,free p.1 p.2 y e n,a,b,d⟩
theorem Inv.un(I:Inv X pins σ H s)(u:Un X.fs [] H H' s.heap h')(h:nN X.prog X.w H' h'):Inv X pins σ H' {s with heap:=h',toks:=t'}:=by
 obtain⟨m,⟨o,a,b,f,r⟩,_⟩:=id I.loc;obtain⟨a,i⟩:=u.any f I.free nofun;exact I.step (g':=s.gens) (d':=s.drawn) (ch:=[]) (λ_ z=>nomatch z) (λb o _ a _ e n=>u.keep b o e n a nofun) (λb o _ a _ e n=>u.slot b o e n a nofun) (λb o _ e n=>u.free b o e n nofun) (λb o _ e=>u.there b o e nofun) u.aN u.wM u.yH (λa j=>by
  obtain⟨a,c,d,g,k⟩:=j;rw[f] at g;cases g;calc⟨_,c,d,i,k⟩) h I.bare
theorem Inv.call{g':Array GenState}{d':Drawn}(I:Inv X pins σ H s)(u:Un (Ez X.stack) ch H H' s.heap h')(k:nN X.prog X.w H' h')(l:AllBare g')
  (h:∀b∈ch,(b∈X.ex\/X.s₀.heap.objs.size<=b)/\b≠X.env.locals/\(∀x c,X.env.cells.lookup x=some c->c≠b)/\∀p∈X.pn++pins,p.1≠b):
  Inv X pins σ H' {s with heap:=h',gens:=g',drawn:=d',toks:=t'}:=by
 obtain⟨m,⟨o,a,c,i,r⟩,_⟩:=id I.loc;obtain⟨a,d⟩:=u.any i I.free λz=>(h _ z).2.1 rfl;exact I.step (ch:=ch) h (λb o d c a e n=>u.keep b o e n (λz=>(List.mem_cons.mp (I.wO b z)).elim d c) a) (λb o _ _ a e n=>u.any e n a) (λb o a e n=>u.free b o e n a) (λb o a e=>u.there b o e a) u.aN u.wM u.yH (λc q=>by
  obtain⟨a,f,g,j,t⟩:=q;rw[i] at j;cases j;calc⟨_,f,g,d,t⟩) k l
theorem Inv.turned{a:Addr}(I:Inv X pins σ H s)(k:∀b o,b≠a->s.heap.get? b=some o->h'.get? b=some o)(j:H a=none)(g:a≠X.env.locals)
  (l:a∈X.ex\/X.s₀.heap.objs.size<=a) (r:∀x c,X.env.cells.lookup x=some c->c≠a) (t:∀p∈X.pn++pins,p.1≠a):Inv X pins σ H {s with heap:=h',toks:=t'}:=by
 have i:∀b u,H b=some u->b≠a:=λb u e z=>by rw[z,j]at e;cases e
 refine I.step (g':=s.gens) (d':=s.drawn) (ch:=[a]) (λb j=>?_) (λb o _ _ d e _=>k b o (λz=>d (by simp[z])) e) (λb o _ _ d e _=>⟨o.slots,k b o (λz=>d (by simp[z])) e⟩) (λ_ _ _ _ n=>n)
  (λb o d e=>⟨o,k b o (λz=>d (by simp[z])) e⟩) (λ_ _ e=>e) (λ_ _ _ e=>e) (λb m e=>⟨#[],by rw[e];simp⟩) (λm v=>?_) (λb u e=>?_) I.bare
 ·have e:b=a:=by simpa using j
  subst e;exact⟨l,g,r,t⟩
 ·obtain⟨o,a,j,l,r⟩:=v;exact⟨o,a,j,k _ o (Ne.symm g) l,r⟩
 ·calc(I.aY b u e).aI (λc v d q=>k c v ?_ q) (λ_ q=>q) λ_ _ q=>q;rcases d with z | z
  ·rw[z];exact i b u e
  ·calc i c _ z
theorem Inv.tok(I:Inv X pins σ H s)(t:Nat):Inv X pins σ H {s with toks:=t}:=I.un (h':=s.heap) (t':=t) Un.refl I.aY
theorem Inv.kept(I:Inv X pins σ H s)(k:∀b u,s.heap.get? b=some u->h'.get? b=some u):Inv X pins σ H {s with heap:=h',toks:=t'}:=I.un (Un.kept k) (I.aY.kept k)
theorem Inv.laid{a:Addr}{o:HO}(I:Inv X pins σ H s)(k:∀b u,s.heap.get? b=some u->h'.get? b=some u)(c:s.heap.objs.size<=a)(d:cC X.prog X.w (upd H a o) h' a o):
  Inv X pins σ (upd H a o) {s with heap:=h',toks:=t'}:=I.un (Un.laid k c (I.aY.fresh c)) (I.aY.laid k c d)
theorem Inv.write{x e:Addr}{o:HO}(I:Inv X pins σ H s)(c:Vl (H x))(he:e=x\/H e=some (.own x))(k:∀b u,b≠e->s.heap.get? b=some u->h'.get? b=some u)(d:∃u,h'.get? e=some u)
  (a:cC X.prog X.w (upd H x o) h' x o):Inv X pins σ (upd H x o) {s with heap:=h',toks:=t'}:=I.un (Un.write c he k d) (I.aY.write c he k d a)
theorem Inv.wQ{a:List (Addr×Obj)}(I:Inv X pins σ H s)(h:∀p∈a,s.heap.get? p.1=some p.2/\H p.1=none/\p.1≠X.env.locals/\p.1∉X.fs/\∀v,p.2.data≠.cell v):Inv X a σ H s:=
 ⟨I.ok,I.os,I.bare,I.base,I.loc,I.cell,I.free,I.lI,λp a=>(List.mem_append.mp a).elim (λz=>I.pin p (List.mem_append_left _ z)) (h p),I.aY,I.len⟩
theorem yI{N:List Str}(c:N.Nodup){i j:Nat}{x:Str}(a:N[i]?=some x)(b:N[j]?=some x):i=j:=by
 obtain⟨e,d⟩:=List.getElem?_eq_some_iff.mp a;obtain⟨g,e⟩:=List.getElem?_eq_some_iff.mp b;calc(List.getElem_inj c).mp (d.trans e.symm)
theorem EB{M:Model}{i:Nat}{x:Str}{v:V}{u:Value}{Q:Unit->Shared->Prop}(I:Inv X pins σ H s)(hN:X.N.Nodup)(L:X.N[i]?=some x)(C:Loc X.env.scope x)(r:RelV v u)
  (h:∀s',Inv X pins (σ.set i (some v)) H s'->(∃a,Heap.SameBut a s.heap s'.heap/\(a=X.env.locals\/X.env.cells.lookup x=some a))->Q ⟨⟩ s') (hf:X.fn x=true\/X.env.scope.names.lookup x=some .local:=by grind):wpAny M A (storeName X.env x u) Q E s:=by
 obtain⟨m,T,hl⟩:=id I.loc;have U:(X.env.scope.kind == .class||(X.env.scope.kind == .module&&X.env.locals !=X.env.globals))=false:=by rw[I.ok.kind];rfl
 have G:i<σ.length:=by rw[I.len];exact(List.getElem?_eq_some_iff.mp L).1
 have W:=I.Qt;have l:∀{a:Addr} {h':Heap},(∃o,s.heap.get? a=some o/\H a=none)->Heap.SameBut a s.heap h'->nN X.prog X.w H h':=λ{a h'} v g b M e=>by
  obtain⟨_,_,Ot⟩:=v;calc(I.aY b M e).aI (λc P B q=>(g.2 c ?_).trans q) (λ_ q=>q) λ_ _ q=>q;rintro rfl;rcases B with rfl|B
  ·rw[Ot]at e;cases e
  ·rw[Ot]at B;cases B
 rcases C with hk|hk
 ·calc wpAny_storeName_local hk T (λh' a g=>?_) U;obtain⟨v,_,_,M,_⟩:=id T;refine h _ ⟨I.ok,I.os,I.bare,⟨λb o e n J C=>?_,λb o e n J C=>?_,I.base.free,λb o e C=>?_,I.base.aN,I.base.wM,I.base.yH⟩,⟨_,a,λj y Y t F Z=>?_⟩,λy c e=>?_,I.free,I.lI,λp hp=>?_,l ⟨v,M,I.free⟩ g,by simpa using I.len⟩ ⟨_,g,.inl rfl⟩
  ·exact(g.2 b (Y' (R' (M' e) I.ok.above))).trans (I.base.keep b o e n J C)
  ·obtain⟨sl,t⟩:=I.base.slot b o e n J C;exact⟨sl,(g.2 b (Y' (R' (M' e) I.ok.above))).trans t⟩
  ·obtain⟨o',t⟩:=I.base.there b o e C;exact⟨o',(g.2 b (Y' (R' (M' e) I.ok.above))).trans t⟩
  ·by_cases K:j=i
   ·subst K;rw[L] at t;cases t;rw[List.getElem?_set_self G] at F
    cases F;exact⟨u,r,.inl ⟨hk,nofun⟩⟩
   ·rw[List.getElem?_set_ne (Ne.symm K)] at F;obtain⟨u',r',q⟩:=hl j y Y t F Z;calc⟨u',r',?_⟩;rcases q with⟨k,e⟩ | ⟨k,c,e,z⟩
    ·calc .inl ⟨k,?_⟩;have:y≠x:=λe=>K (yI hN t (e▸L));simp[this,e]
    ·exact .inr ⟨k,c,e,z.sameBut g (W y c e)⟩
  ·obtain⟨P,z⟩:=I.cell y c e;exact⟨P,z.sameBut g (W y c e)⟩
  ·obtain⟨e,n,R,nf,d⟩:=I.pin p hp;exact⟨(g.2 p.1 R).trans e,n,R,nf,d⟩
 ·have L3:X.fn x=true:=by
   rcases hf with z|z
   ·exact z
   ·rw[z]at hk;cases hk
  obtain⟨c,B⟩:=I.ok.has x (.inl hk);obtain⟨P,z⟩:=I.cell x c B;calc wpAny_storeName_cell I.ok.kind hk B z (λh' Ov g=>?_);obtain⟨oc,ZY,abh⟩:=id z;refine h {s with heap:=h'} ⟨I.ok,I.os,I.bare,⟨λb o e n J C=>?_,λb o e n J C=>?_,I.base.free,λb o e C=>?_,I.base.aN,I.base.wM,I.base.yH⟩,⟨m,T.sameBut g (Ne.symm (W x c B)),λj y Y t F Z=>?_⟩,λy S e=>?_,I.free,I.lI,λp hp=>?_,l ⟨oc,ZY,I.lI x c B⟩ g,by simpa using I.len⟩ ⟨c,g,.inr B⟩
  ·exact(g.2 b (Y' (R' (M' e) (I.ok.T7 x c L3 B)))).trans (I.base.keep b o e n J C)
  ·obtain⟨sl,t⟩:=I.base.slot b o e n J C;exact⟨sl,(g.2 b (Y' (R' (M' e) (I.ok.T7 x c L3 B)))).trans t⟩
  ·obtain⟨o',t⟩:=I.base.there b o e C;exact⟨o',(g.2 b (Y' (R' (M' e) (I.ok.T7 x c L3 B)))).trans t⟩
  ·by_cases K:j=i
   ·subst K;rw[L] at t;cases t;rw[List.getElem?_set_self G] at F
    cases F;exact⟨u,r,.inr ⟨.inl hk,c,B,Ov⟩⟩
   ·rw[List.getElem?_set_ne (Ne.symm K)] at F;obtain⟨u',r',q⟩:=hl j y Y t F Z;calc⟨u',r',?_⟩;rcases q with q | ⟨k,S,e,z'⟩
    ·exact .inl q
    ·calc .inr ⟨k,S,e,z'.sameBut g ?_⟩;rintro rfl;exact K (yI hN t (I.ok.inj _ _ _ e B▸L))
  ·by_cases O:S=c
   ·subst O;exact⟨_,Ov⟩
   ·obtain⟨a,b⟩:=I.cell y S e;exact⟨a,b.sameBut g O⟩
  ·obtain⟨e,n,R,nf,d⟩:=I.pin p hp;calc⟨(g.2 p.1 ?_).trans e,n,R,nf,d⟩;intro q;rw[q,ZY]at e;have a:oc=p.2:=Option.some.inj e;calc d P (by rw[<-a];calc abh)
theorem oX{M:Model}{i:Nat}{x:Str}{v:V}{u:Value}{Q:Unit->Shared->Prop}(I:Inv X pins σ H s)(a:X.N.Nodup)(b:X.N[i]?=some x)(c:Loc X.env.scope x)(r:RelV v u)
  (h:∀s',Inv X pins (σ.set i (some v)) H s'->Q ⟨⟩ s') (d:X.fn x=true\/X.env.scope.names.lookup x=some .local:=by grind):wpAny M A (storeName X.env x u) Q E s:=
 EB I a b c r (λs' e _=>h s' e) d
theorem Inv.Vq{s':Shared}(I:Inv X pins σ H s)(f:s'.os=s.os)(u:Un (Ez X.stack) ch H H' s.heap s'.heap)(g:nN X.prog X.w H' s'.heap)(h:AllBare s'.gens)
  (i:∀b∈ch,(b∈X.ex\/X.s₀.heap.objs.size<=b)/\b≠X.env.locals/\(∀x c,X.env.cells.lookup x=some c->c≠b)/\∀p∈X.pn++pins,p.1≠b):Inv X pins σ H' s':=by
 obtain⟨h',a,d,t',b⟩:=s';have e:b=s.os:=f;subst e;calc I.call (g':=a) (t':=t') (d':=d) u g h i
end
abbrev XK:=Value->Option Addr->Hp->Prop
abbrev St:=List (Option V)
abbrev VK:=V->Hp->Prop
abbrev TE:=St->Hp->VK->Prop
abbrev TT:=St->Hp->(Bool->Hp->Prop)->Prop
abbrev TA:=St->Hp->(List V->Hp->Prop)->Prop
structure Ends where
 nx:St->Hp->Prop
 rt:VK
 bk:St->Hp->Prop:=λ_ _=>False
 ct:St->Hp->Prop:=λ_ _=>False
abbrev TS:=Ends->St->Hp->Prop
def EP(X:Cx)(pins:List (Addr×Obj))(σ:St)(Q:VK)(u:Value)(s':Shared):Prop:=∃v a,Inv X pins σ a s'/\RelV v u/\Q v a
def TP(X:Cx)(pins:List (Addr×Obj))(σ:St)(Q:Bool->Hp->Prop)(b:Bool)(s':Shared):Prop:=∃a,Inv X pins σ a s'/\Q b a
def AP(X:Cx)(pins:List (Addr×Obj))(σ:St)(Q:List V->Hp->Prop)(us:List Value)(s':Shared):Prop:=∃vs a,Inv X pins σ a s'/\Vals vs us/\Q vs a
def SP(X:Cx)(pins:List (Addr×Obj))(D:Ends)(f:Flow)(s':Shared):Prop:=
 match f with
 | .next=>∃a b,Inv X pins a b s'/\D.nx a b
 | .brk=>∃a b,Inv X pins a b s'/\D.bk a b
 | .cont=>∃a b,Inv X pins a b s'/\D.ct a b
 | .ret u=>∃v a b,Inv X pins a b s'/\RelV v u/\D.rt v b
structure PE(X:Cx)(e:Expr)(t:TE):Prop where
 out:
  ∀(pins:List (Addr×Obj)) (s:Shared) (σ:St) (H:Hp) (Q:VK),Inv X pins σ H s->t σ H Q->wpAny (model X.prog X.w) X.A (eval e X.env) (EP X pins σ Q) X.xe s
instance {X:Cx}{e:Expr}{t:TE}:CoeFun (PE X e t) λ_=>
 ∀(pins:List (Addr×Obj)) (s:Shared) (σ:St) (H:Hp) (Q:VK),Inv X pins σ H s->t σ H Q->wpAny (model X.prog X.w) X.A (eval e X.env) (EP X pins σ Q) X.xe s:=⟨PE.out⟩
structure PT(X:Cx)(e:Expr)(t:TT):Prop where
 out:
  ∀(pins:List (Addr×Obj)) (s:Shared) (σ:St) (H:Hp) (Q:Bool->Hp->Prop),Inv X pins σ H s->t σ H Q->wpAny (model X.prog X.w) X.A (isTrue e X.env (eval e X.env)) (TP X pins σ Q) X.xe s
instance {X:Cx}{e:Expr}{t:TT}:CoeFun (PT X e t) λ_=>
 ∀(pins:List (Addr×Obj)) (s:Shared) (σ:St) (H:Hp) (Q:Bool->Hp->Prop),Inv X pins σ H s->t σ H Q->wpAny (model X.prog X.w) X.A (isTrue e X.env (eval e X.env)) (TP X pins σ Q) X.xe s:=⟨PT.out⟩
structure PW(X:Cx)(e:Expr)(t:TT):Prop where
 out:
  ∀(whole:Sem Value) (pins:List (Addr×Obj)) (s:Shared) (σ:St) (H:Hp) (Q:Bool->Hp->Prop),Inv X pins σ H s->t σ H Q->wpAny (model X.prog X.w) X.A (isTrue e X.env whole) (TP X pins σ Q) X.xe s
instance {X:Cx}{e:Expr}{t:TT}:CoeFun (PW X e t) λ_=>
 ∀(a:Sem Value) (pins:List (Addr×Obj)) (s:Shared) (σ:St) (H:Hp) (Q:Bool->Hp->Prop),Inv X pins σ H s->t σ H Q->wpAny (model X.prog X.w) X.A (isTrue e X.env a) (TP X pins σ Q) X.xe s:=⟨PW.out⟩
theorem PW.pt{X:Cx}{e:Expr}{t:TT}(h:PW X e t):PT X e t:=⟨h.out _⟩
structure PA(X:Cx)(es:List Expr)(t:TA):Prop where
 out:
  ∀(pos:Pos) (pins:List (Addr×Obj)) (s:Shared) (σ:St) (H:Hp) (Q:List V->Hp->Prop),Inv X pins σ H s->t σ H Q->wpAny (model X.prog X.w) X.A (spliced (backTo pos (starEach es X.env))) (AP X pins σ Q) X.xe s
instance {X:Cx}{es:List Expr}{t:TA}:CoeFun (PA X es t) λ_=>
 ∀(a:Pos) (pins:List (Addr×Obj)) (s:Shared) (σ:St) (H:Hp) (Q:List V->Hp->Prop),Inv X pins σ H s->t σ H Q->wpAny (model X.prog X.w) X.A (spliced (backTo a (starEach es X.env))) (AP X pins σ Q) X.xe s:=⟨PA.out⟩
structure PS(X:Cx)(st:Stmt)(t:TS):Prop where
 out:
  ∀(pins:List (Addr×Obj)) (s:Shared) (σ:St) (H:Hp) (D:Ends),Inv X pins σ H s->t D σ H->wpAny (model X.prog X.w) X.A (exec st X.env) (SP X pins D) X.xe s
instance {X:Cx}{a:Stmt}{t:TS}:CoeFun (PS X a t) λ_=>
 ∀(pins:List (Addr×Obj)) (s:Shared) (σ:St) (H:Hp) (D:Ends),Inv X pins σ H s->t D σ H->wpAny (model X.prog X.w) X.A (exec a X.env) (SP X pins D) X.xe s:=⟨PS.out⟩
structure yy(X:Cx)(st:List Stmt)(t:TS):Prop where
 out:
  ∀(pins:List (Addr×Obj)) (s:Shared) (σ:St) (H:Hp) (D:Ends),Inv X pins σ H s->t D σ H->wpAny (model X.prog X.w) X.A (execs st X.env) (SP X pins D) X.xe s
instance {X:Cx}{a:List Stmt}{t:TS}:CoeFun (yy X a t) λ_=>
 ∀(pins:List (Addr×Obj)) (s:Shared) (σ:St) (H:Hp) (D:Ends),Inv X pins σ H s->t D σ H->wpAny (model X.prog X.w) X.A (execs a X.env) (SP X pins D) X.xe s:=⟨yy.out⟩
theorem dy{α:Type}{t:Sem α}{Q b:α->Shared->Prop}{M:Model}{s:Shared}(h:wpAny M A t Q E s)(c:∀a s,Q a s->b a s):wpAny M A t b E s:=aae h c λ_ _ x=>x
end
section
variable {pins:List (Addr×Obj)}{pos:Pos}{σ:St}{x:Str}{u:Value}{E Q:Value->Shared->Prop}
section
variable {X:Cx}
def Gx(i:Nat):TE:=λσ H Q=>∃v,σ[i]?=some (some v)/\Q v H
def tC(v:V):TE:=λ_ H Q=>Q v H
theorem Gy{i:Nat}(c:X.N[i]?=some x)(g:Vn X.env.scope x)(b:(x==("__debug__":Str))=false:=by decide)(j:(x==("__classdict__":Str))=false:=by decide):PE X (.Name x pos) (Gx i):=by
 walk_at "xc";obtain⟨v,e,h⟩:=h;obtain⟨m,k,n⟩:=I.loc;obtain⟨u,r,l⟩:=n i x v c e g;have a:EP X pins σ Q u s:=⟨v,H,I,r,h⟩
 rcases l with⟨hk,e⟩|⟨hk,c,d,f⟩
 ·exact wpAny_Name (wpAny_loadName_local I.ok.kind hk k e a) b
 ·rcases hk with hk | hk
  ·exact wpAny_Name (wpAny_loadName_cell I.ok.kind hk d f a) b
  ·calc wpAny_Name (wpAny_loadName_free I.ok.kind hk d f a j) b
theorem ai{i j pos}:PE X (.Constant (.int i) j pos) (tC (.int i)):=.mk λ_ _ _ H _ I h=>wpAny_Constant_int ⟨.int i,H,I.tok _,⟨_,rfl⟩,h⟩
theorem ia{b j pos}:PE X (.Constant (.bool b) j pos) (tC (.bl b)):=.mk λ_ _ _ H _ I h=>Constant_bool ⟨.bl b,H,I,rfl,h⟩
theorem fu{j pos}:PE X (.Constant .none j pos) (tC .bM):=.mk λ_ _ _ H _ I h=>Constant_none ⟨.bM,H,I,rfl,h⟩
theorem aC{x j pos}:PE X (.Constant (.str x) j pos) (tC (.str x)):=.mk λ_ _ _ H _ I h=>Calls.Constant_str ⟨.str x,H,I.tok _,⟨_,rfl⟩,h⟩
def Gl(X:Cx)(x:Str):Prop:=X.env.kindOf x=some .globalImplicit
theorem sr{s:Shared}{H:Hp}(I:Inv X pins σ H s)(a:Gl X x)(b:X.mg x=some u)(h:Q u s)
  (c:(x==("__debug__":Str))=false:=by decide):wpAny (model X.prog X.w) X.A (eval (.Name x pos) X.env) Q E s:=
 Calls.Name_function_global I.ok.kind a (Calls.loadGlobal_global (by rw[I.ok.glob];calc I.mod.glob.keeps I.bk) b h) c
theorem nO{s:Shared}{H:Hp}(I:Inv X pins σ H s)(a:Gl X x)(b:X.mg x=none)(c:bootBuiltins x=some u)(h:Q u s)
  (d:x≠"__name__":=by decide) (e:(x==("__debug__":Str))=false:=by decide):wpAny (model X.prog X.w) X.A (eval (.Name x pos) X.env) Q E s:=by
 obtain⟨i,f,g⟩:=I.mod.blt;calc Calls.Name_function_global I.ok.kind a (Calls.loadGlobal_builtin (by rw[I.ok.glob];calc I.mod.glob.keeps I.bk) b (by rw[I.ok.blt];calc f.keeps I.bk) ((g x d).trans c) h) e
theorem Cu{v:V}(a:Gl X x)(b:X.mg x=some u)(r:RelV v u)(c:(x==("__debug__":Str))=false:=by decide):PE X (.Name x pos) (tC v):=
 .mk λ_ _ _ H _ I h=>sr I a b ⟨v,H,I,r,h⟩ c
theorem cq{v:V}(a:Gl X x)(b:X.mg x=none)(c:bootBuiltins x=some u)(r:RelV v u)(d:x≠"__name__":=by decide)(e:(x==("__debug__":Str))=false:=by decide):PE X (.Name x pos) (tC v):=
 .mk λ_ _ _ H _ I h=>nO I a b c ⟨v,H,I,r,h⟩ d e
variable {a b:Expr}{ta tb:TE}{pos:Pos}
structure PC(X:Cx)(op:CmpOp)(a b:Expr)(t:TE):Prop where
 out:
  ∀(pins:List (Addr×Obj)) (s:Shared) (σ:St) (H:Hp) (Q:VK),Inv X pins σ H s->t σ H Q->
   wpAny (model X.prog X.w) X.A (eval a X.env) (λv s₁=>wpAny (model X.prog X.w) X.A (eval b X.env) (λu s₂=>wpAny (model X.prog X.w) X.A (compareOp op v u) (EP X pins σ Q) X.xe s₂) X.xe s₁) X.xe s
instance {X:Cx}{e:CmpOp}{a b:Expr}{t:TE}:CoeFun (PC X e a b t) λ_=>
 ∀(pins:List (Addr×Obj)) (s:Shared) (σ:St) (H:Hp) (Q:VK),Inv X pins σ H s->t σ H Q->
  wpAny (model X.prog X.w) X.A (eval a X.env) (λv c=>wpAny (model X.prog X.w) X.A (eval b X.env) (λu d=>wpAny (model X.prog X.w) X.A (compareOp e v u) (EP X pins σ Q) X.xe d) X.xe c) X.xe s:=⟨PC.out⟩
def tB(t:TE):TT:=λσ H Q=>t σ H λx a=>∃c,x=.bl c/\Q c a
theorem Qu{c:CmpOp}{t:TE}(h:PC X c a b t)(e:behindInMarks c b=false:=by first|calc f _ ∅ ∅|rfl):PT X (.Compare a [c] [b] pos) (tB t):=by
 calc⟨?_⟩;intro pins s σ H Q I c;calc wpAny_isTrue_Compare1 (dy (h pins s σ H _ I c) λv f e=>dy e λu c f=>dy f λc h g=>?_) e;obtain⟨x,i,j,k,l⟩:=g;obtain⟨d,rfl,q⟩:=l
 cases k;calc aar ⟨i,j,q⟩
theorem Qv{e:Expr}{t:TE}(h:PE X e t)(he:∀a,isTrue e X.env a=(do let v <-a;standAt e.pos;holding [v] (truthy v)):=by intro _;rfl):PT X e (tB t):=by
 calc⟨?_⟩;intro pins s σ H Q I a;calc isTrue_plain (dy (h pins s σ H _ I a) λv e b=>?_) (he _);obtain⟨x,c,f,g,i⟩:=b;obtain⟨d,rfl,q⟩:=i
 cases g;calc aar ⟨c,f,q⟩
variable {tA ZZ:TT}{rest:List Expr}
def Qw(t u:TT):TT:=λσ H Q=>t σ H λc a=>if c=true then u σ a Q else Q false a
def tOr(t u:TT):TT:=λσ H Q=>t σ H λc a=>if c=true then Q true a else u σ a Q
def Qx(t:TT):TT:=λσ H Q=>t σ H λc a=>Q (!c) a
theorem pw_and1(b:PT X a tA):PW X (.BoolOp .And [a] pos) tA:=by
 calc⟨?_⟩;intro d pins s σ H Q I h;refine isTrue_and (dy (b pins s σ H Q I h) λc f e=>?_)
 cases c with
 |true=>calc isTrue_and_nil e
 |false=>calc e
theorem pw_or1(b:PT X a tA):PW X (.BoolOp .Or [a] pos) tA:=by
 calc⟨?_⟩;intro d pins s σ H Q I h;refine isTrue_or (dy (b pins s σ H Q I h) λc f e=>?_)
 cases c with
 |false=>calc isTrue_or_nil e
 |true=>calc e
theorem pw_and(g:PT X a tA)(i:PW X (.BoolOp .And (b::rest) pos) ZZ):PW X (.BoolOp .And (a::b::rest) pos) (Qw tA ZZ):=by
 calc⟨?_⟩;intro j pins s σ H Q I h;calc isTrue_and (dy (g pins s σ H _ I h) λc k l=>?_);obtain⟨d,e,f⟩:=l
 cases c with
 |true=>calc i j pins k σ d Q e f
 |false=>calc⟨d,e,f⟩
theorem pw_or(g:PT X a tA)(i:PW X (.BoolOp .Or (b::rest) pos) ZZ):PW X (.BoolOp .Or (a::b::rest) pos) (tOr tA ZZ):=by
 calc⟨?_⟩;intro j pins s σ H Q I h;calc isTrue_or (dy (g pins s σ H _ I h) λc k l=>?_);obtain⟨d,e,f⟩:=l
 cases c with
 |true=>calc⟨d,e,f⟩
 |false=>calc i j pins k σ d Q e f
theorem bI(b:PT X a tA):PT X (.UnaryOp .Not a pos) (Qx tA):=by
 walk_at "xc";exact isTrue_not (b pins s σ H (λc d=>Q (!c) d) I h)
def Gz(ta tb:TE):TE:=λσ H Q=>ta σ H λx a=>∃c,x=.bl c/\if c=true then tb σ a Q else Q (.bl false) a
def GB(ta:TE):TE:=λσ H Q=>ta σ H λx a=>∃c,x=.bl c/\Q (.bl (!c)) a
theorem gQ{op}{t:TE}(h:PE X a t):PE X (.BoolOp op [a] pos) t:=.mk λpins s σ H Q I b=>BoolOp_one (h pins s σ H Q I b)
theorem gj(g:PE X a ta)(i:PE X (.BoolOp .And (b::rest) pos) tb):PE X (.BoolOp .And (a::b::rest) pos) (Gz ta tb):=by
 walk_at "xc";refine BoolOp_and (dy (g pins s σ H _ I h) λv j k=>?_);obtain⟨x,e,f,l,d⟩:=k;obtain⟨c,rfl,d⟩:=d
 cases l;refine aar ?_
 cases c with
 |true=>calc i pins j σ e Q f d
 |false=>calc⟨.bl false,e,f,rfl,d⟩
theorem GC(d:PE X a ta):PE X (.UnaryOp .Not a pos) (GB ta):=by
 walk_at "xc";refine UnaryOp_ (dy (d pins s σ H _ I h) λv j e=>?_);obtain⟨x,f,g,i,b⟩:=e;obtain⟨c,rfl,b⟩:=b
 cases i;calc not_of (aar ⟨.bl (!c),f,g,rfl,b⟩)
def tIf(t:TT)(ta tb:TE):TE:=λσ H Q=>t σ H λc a=>if c=true then ta σ a Q else tb σ a Q
theorem GD{c:Expr}(j:PT X c tA)(k:PE X a ta)(l:PE X b tb):PE X (.IfExp c a b pos) (tIf tA ta tb):=by
 walk_at "xc";refine wpAny_IfExp (dy (j pins s σ H _ I h) λd e c=>?_);obtain⟨f,g,i⟩:=c
 cases d with
 |true=>calc k pins e σ f Q g i
 |false=>calc l pins e σ f Q g i
end
end
section
variable {X:Cx}{e tg:Expr}{pins:List (Addr×Obj)}{i:Nat}{σ:St}{x:Str}{te:TE}{K:W.Frag}
def aM(K:W.Frag)(H:Hp)(a:Addr)(xs:List V):Prop:=
 Rd H a (.lst xs)\/
  ∃(o:Obj) (b:Array Value) (n:Nat),K.lookup a=some o/\o.cls=.type "list"/\o.dict=none/\o.data=.seq b n/\b.size<=sizeLine/\Vals xs b.toList
def bG(K:W.Frag)(H:Hp)(a:Addr)(xs:List V):Prop:=
 Rd H a (.tup xs)\/
  ∃(o:Obj) (b:Array Value) (n:Nat),K.lookup a=some o/\o.cls=.type "tuple"/\o.data=.seq b n/\b.size<=sizeLine/\Vals xs b.toList
def abk:Value->Option V
 | .none=>some .bM
 | .bool b=>some (.bl b)
 | .int i _=>some (.int i)
 | .str x _=>some (.str x)
 | .bytes b _=>some (.Cq b)
 | .float b _=>some (.Ol b)
 | .ref a=>some (.ref a)
 | .type n=>some (.ty n)
 |_=>none
theorem RelV.abs{x:V}{u:Value}(r:RelV x u):abk u=some x:=by
 cases x with
 |bM=>cases r;rfl
 |bl _=>cases r;rfl
 |int _=>obtain⟨t,rfl⟩:=r;rfl
 |str _=>obtain⟨t,rfl⟩:=r;rfl
 |Cq _=>obtain⟨t,rfl⟩:=r;rfl
 |Ol _=>obtain⟨t,rfl⟩:=r;rfl
 |ref _=>cases r;rfl
 |ty _=>cases r;rfl
theorem RelV.inj{x y:V}{u:Value}(r:RelV x u)(q:RelV y u):x=y:=Option.some.inj (r.abs.symm.trans q.abs)
theorem Vals.inj:∀{xs a:List V}{us:List Value},Vals xs us->Vals a us->xs=a
 |_,_,_,.nil,.nil=>rfl
 |_,_,_,.cons r t,.cons a b=>by rw[r.inj a,Vals.inj t b]
section
variable {X:Cx}{pins:List (Addr×Obj)}{σ:St}{H:Hp}{s:Shared}{a:Addr}{xs ys:List V}
theorem aM.of(h:H a=some (.lst xs)):aM K H a xs:=.inl (.inl h)
theorem bG.of(h:H a=some (.tup xs)):bG K H a xs:=.inl (.inl h)
theorem Inv.list(I:Inv X pins σ H s)(h:aM X.K H a xs):∃b:List Value,Vals xs b/\PlainL s.heap a b.toArray/\xs.length<=sizeLine:=by
 rcases h with h|⟨o,b,n,c,d,f,g,i,r⟩
 ·obtain⟨z,b,n,r,e⟩:=h.ok I.aY;exact⟨b,r,⟨_,n,e,rfl,rfl,rfl⟩,z⟩
 ·calc⟨b.toList,r,⟨o,n,I.k7 a o c,d,f,by simpa using g⟩,?_⟩;have e:=r.length;simp only[Array.length_toList]at e;lia
theorem Inv.tuple(I:Inv X pins σ H s)(h:bG X.K H a xs):∃b:List Value,Vals xs b/\IsTup s.heap a b.toArray/\xs.length<=sizeLine:=by
 rcases h with h|⟨o,b,n,c,d,f,g,r⟩
 ·obtain⟨z,b,r,p⟩:=h.ok I.aY;exact⟨b,r,p,z⟩
 ·calc⟨b.toList,r,⟨o,I.k7 a o c,d,n,by simpa using f⟩,?_⟩;have e:=r.length;simp only[Array.length_toList]at e;lia
theorem Inv.yJ(I:Inv X pins σ H s)(h:aM X.K H a xs)(h':aM X.K H a ys):xs=ys:=by
 obtain⟨f,r,⟨o,n,e,_,_,d⟩,_⟩:=I.list h;obtain⟨g,i,⟨j,k,b,_,_,c⟩,_⟩:=I.list h';rw[e]at b;cases b;rw[d]at c;injection c with h _
 have:f=g:=by simpa using congrArg Array.toList h
 subst this;calc r.inj i
theorem Inv.vG(I:Inv X pins σ H s)(h:bG X.K H a xs)(h':bG X.K H a ys):xs=ys:=by
 obtain⟨f,r,⟨o,e,_,n,d⟩,_⟩:=I.tuple h;obtain⟨g,i,⟨j,b,_,k,c⟩,_⟩:=I.tuple h';rw[e]at b;cases b;rw[d]at c;injection c with h _
 have:f=g:=by simpa using congrArg Array.toList h
 subst this;calc r.inj i
end
abbrev Cx.uV(X:Cx)(E:Value->Shared->Prop):Cx:={X with xe:=E}
abbrev Cx.L4(X:Cx):Cx:=X.uV λ_ _=>False
theorem Cx.Ok.uV(a:X.Ok)(E:Value->Shared->Prop):(X.uV E).Ok:=
 ⟨a.mod,a.kind,a.glob,a.blt,a.above,a.inj,a.has,a.T7,a.hd,a.frames,a.Vo,a.ZW,a.bs,a.Gw,a.AV,a.EA,a.p9,a.Om⟩
theorem Cx.Ok.lK{E:Value->Shared->Prop}(a:(X.uV E).Ok):X.Ok:=
 ⟨a.mod,a.kind,a.glob,a.blt,a.above,a.inj,a.has,a.T7,a.hd,a.frames,a.Vo,a.ZW,a.bs,a.Gw,a.AV,a.EA,a.p9,a.Om⟩
section
variable {X:Cx}{pins:List (Addr×Obj)}{σ:St}{H:Hp}{s:Shared}{E:Value->Shared->Prop}
theorem Inv.uV(I:Inv X pins σ H s)(E:Value->Shared->Prop):Inv (X.uV E) pins σ H s:=⟨I.ok.uV E,I.os,I.bare,I.base,I.loc,I.cell,I.free,I.lI,I.pin,I.aY,I.len⟩
theorem Inv.lK(I:Inv (X.uV E) pins σ H s):Inv X pins σ H s:=⟨I.ok.lK,I.os,I.bare,I.base,I.loc,I.cell,I.free,I.lI,I.pin,I.aY,I.len⟩
theorem SP.lK{D:Ends}{f:Flow}{s':Shared}(h:SP (X.uV E) pins D f s'):SP X pins D f s':=by
 cases f with
 |next=>obtain⟨a,b,I,q⟩:=h;calc⟨a,b,I.lK,q⟩
 |brk=>obtain⟨a,b,I,q⟩:=h;calc⟨a,b,I.lK,q⟩
 |cont=>obtain⟨a,b,I,q⟩:=h;calc⟨a,b,I.lK,q⟩
 |ret u=>obtain⟨v,a,b,I,r,q⟩:=h;calc⟨v,a,b,I.lK,r,q⟩
theorem yy.L4{a:List Stmt}{t:TS}(h:yy X.L4 a t):yy X a t:=.mk λpins s σ H D I a=>
 aae (h pins s σ H D (I.uV _) a) (λ_ _ q=>q.lK) λ_ _ z=>aai z
end
section
variable {X:Cx}{st:Stmt}{rest:List Stmt}{t u:TS}{e:Expr}{te:TE}{pos:Pos}
def GG:TS:=λD σ H=>D.nx σ H
def wR(t u:TS):TS:=λD σ H=>t {D with nx:=u D} σ H
theorem aJ:yy X [] GG:=.mk λ_ _ σ H _ I h=>wpAny_execs_nil ⟨σ,H,I,h⟩
theorem af(a:PS X st t)(b:yy X rest u):yy X (st::rest) (wR t u):=by
 walk_at "xd";refine wpAny_execs_cons (dy (a pins s σ H {D with nx:=u D} I h) λf c q=>?_)
 cases f with
 |next=>
  obtain⟨a,d,e,q⟩:=q;calc b pins c a d D e q
 |ret v=>calc q
 |brk=>calc q
 |cont=>calc q
theorem ak(a:PS X st t):yy X [st] t:=by
 walk_at "xd";refine wpAny_execs_cons (dy (a pins s σ H D I h) λf b q=>?_)
 cases f with
 |next=>calc wpAny_execs_nil q
 |ret v=>calc q
 |brk=>calc q
 |cont=>calc q
theorem Inv.quiet{H:Hp}{s:Shared}(I:Inv X pins σ H s):interactive X.env=false:=by simp[interactive,I.ok.kind]
def Cw(te:TE):TS:=λD σ H=>te σ H λ_ a=>D.nx σ a
theorem L5(he:PE X e te)(a:swapsWith e none pos.line X.env=pure false:=by rfl):PS X (.Expr e pos) (Cw te):=by
 walk_at "xd";exact wpAny_Expr_any (dy (he pins s σ H _ I h) λv f ⟨x,b,c,g,d⟩=>⟨σ,b,c,d⟩) I.quiet a
def Qy(te:TE):TS:=λD σ H=>te σ H D.rt
theorem aG(he:PE X e te):PS X (.Return (some e) pos) (Qy te):=by
 walk_at "xd";exact wpAny_Return_some (dy (he pins s σ H _ I h) λv f ⟨x,a,b,c,d⟩=>⟨x,σ,a,b,c,d⟩)
def ED(c:TT)(t u:TS):TS:=λD σ H=>c σ H λb a=>if b=true then t D σ a else u D σ a
theorem aR{c:Expr}{a b:List Stmt}{e:TT}(k:PT X c e)(l:yy X a t)(m:yy X b u):PS X (.If c a b pos) (ED e t u):=by
 walk_at "xd";refine wpAny_If (dy (k pins s σ H _ I h) λd f a=>?_);obtain⟨g,i,j⟩:=a
 cases d with
 |true=>calc l pins f σ g D i j
 |false=>calc m pins f σ g D i j
def AW:TS:=λ_ _ _=>False
theorem cG:PS X st AW:=.mk λ_ _ _ _ _ _ h=>h.elim
end
abbrev TG:=V->St->Hp->(St->Hp->Prop)->Prop
abbrev Ow:=List V->St->Hp->(St->Hp->Prop)->Prop
structure PG(X:Cx)(target:Expr)(t:TG):Prop where
 out:
  ∀(pins:List (Addr×Obj)) (s:Shared) (σ:St) (H:Hp) (v:V) (u:Value) (Q:St->Hp->Prop),Inv X pins σ H s->RelV v u->t v σ H Q->
   wpAny (model X.prog X.w) X.A (assign target X.env u) (λ_ s'=>∃σ' H',Inv X pins σ' H' s'/\Q σ' H') X.xe s
instance {X:Cx}{a:Expr}{t:TG}:CoeFun (PG X a t) λ_=>
 ∀(pins:List (Addr×Obj)) (s:Shared) (σ:St) (H:Hp) (v:V) (u:Value) (Q:St->Hp->Prop),Inv X pins σ H s->RelV v u->t v σ H Q->
  wpAny (model X.prog X.w) X.A (assign a X.env u) (λ_ s'=>∃a b,Inv X pins a b s'/\Q a b) X.xe s:=⟨PG.out⟩
structure T8(X:Cx)(ts:List Expr)(t:Ow):Prop where
 out:
  ∀(pins:List (Addr×Obj)) (s:Shared) (σ:St) (H:Hp) (vs:List V) (us:List Value) (Q:St->Hp->Prop),Inv X pins σ H s->Vals vs us->t vs σ H Q->
   wpAny (model X.prog X.w) X.A (assignInOrder ((assignEach ts X.env).map (·.2)) us) (λ_ s'=>∃σ' H',Inv X pins σ' H' s'/\Q σ' H') X.xe s
instance {X:Cx}{a:List Expr}{t:Ow}:CoeFun (T8 X a t) λ_=>
 ∀(pins:List (Addr×Obj)) (s:Shared) (σ:St) (H:Hp) (vs:List V) (us:List Value) (Q:St->Hp->Prop),Inv X pins σ H s->Vals vs us->t vs σ H Q->
  wpAny (model X.prog X.w) X.A (assignInOrder ((assignEach a X.env).map (·.2)) us) (λ_ s'=>∃a b,Inv X pins a b s'/\Q a b) X.xe s:=⟨T8.out⟩
abbrev Qz:=V->V->V->Hp->(Hp->Prop)->Prop
def QA(X:Cx)(t:Qz):Prop:=
 ∀(pins:List (Addr×Obj)) (s:Shared) (σ:St) (H:Hp) (o i v:V) (a b u:Value) (Q:Hp->Prop),Inv X pins σ H s->RelV o a->RelV i b->RelV v u->t o i v H Q->
  wpAny (model X.prog X.w) X.A (setItem a b u) (λ_ s'=>∃a,Inv X pins σ a s'/\Q a) X.xe s
abbrev Z0:=V->V->Hp->VK->Prop
def PIp(X:Cx)(a:Operator)(t:Z0):Prop:=
 ∀(pins:List (Addr×Obj)) (s:Shared) (σ:St) (H:Hp) (x y:V) (v u:Value) (Q:VK),Inv X pins σ H s->RelV x v->RelV y u->t x y H Q->
  wpAny (model X.prog X.w) X.A (inplaceOp a v u) (EP X pins σ Q) X.xe s
section
variable {X:Cx}{pos:Pos}
def dI(i:Nat):TG:=λv σ H Q=>Q (σ.set i (some v)) H
theorem aO(a:X.N.Nodup)(b:X.N[i]?=some x)(c:Loc X.env.scope x)(d:X.fn x=true\/X.env.scope.names.lookup x=some .local:=by grind):PG X (.Name x pos) (dI i):=by
 calc⟨?_⟩;intro pins s σ H v u Q I r h;calc wpAny_assign_Name (oX I a b c r (λf e=>⟨_,H,e,h⟩) d)
def AX:Ow:=λvs σ H Q=>vs=[]/\Q σ H
def iC(t:TG)(u:Ow):Ow:=λvs σ H Q=>∃v r,vs=v::r/\t v σ H λa b=>u r a b Q
theorem wU:T8 X [] AX:=by
 calc⟨?_⟩;intro pins s σ H a b Q I r h;obtain⟨e,h⟩:=h;subst e
 cases r;calc assignInOrder_nil ⟨σ,H,I,h⟩
theorem iD{es:List Expr}{t:TG}{u:Ow}(a:PG X e t)(b:T8 X es u)
  (c:(assignEach (e::es) X.env).map (·.2)=assign e X.env::(assignEach es X.env).map (·.2):=by rfl):T8 X (e::es) (iC t u):=by
 calc⟨?_⟩;intro pins s σ H f g Q I r h;obtain⟨v,i,d,h⟩:=h;subst d
 cases r with
 |cons r d=>
  rw[c];calc assignInOrder_cons (dy (a pins s σ H _ _ _ I r h) λ_ f g=>?_);obtain⟨a,c,h,i⟩:=g;calc b pins f a c _ _ Q h d i
def AY(K:W.Frag)(n:Nat)(t:Ow):TG:=λv σ H Q=>∃a xs,v=.ref a/\bG K H a xs/\xs.length=n/\t xs σ H Q
theorem AZ{es:List Expr}{k:Nat}{t:Ow}{n:Nat}(b:X.calm=true)(h:T8 X es t)
  (d:(assignEach es X.env).length=n:=by rfl) (f:(assignEach es X.env).findIdx? (·.1)=none:=by rfl):PG X (.Tuple es k pos) (AY X.K n t):=by
 calc⟨?_⟩;intro pins s σ H v u Q I r c;obtain⟨a,g,i,j,l,c⟩:=c;subst i
 cases r;obtain⟨k,a,i,m⟩:=I.tuple j;calc assign_Tuple_tuple (I.ok.hd b) i (by simp[d,<-l,a.length]) f λk m=>?_;have d:Inv X pins σ H {s with heap:=k}:=I.kept (t':=s.toks) λb o e=>m b o (Y' (M' e)) e;calc h pins _ σ H g _ Q d (by simpa using a) c
def QB(a b:TE)(t:Qz):TG:=λv σ H Q=>a σ H λo c=>b σ c λi a=>t o i v a λb=>Q σ b
theorem gR{o i:Expr}{c d:TE}{t:Qz}(e:PE X o c)(f:PE X i d)(g:QA X t)
  (j:∀v,assign (.Subscript o i pos) X.env v=(do
   let a <-holding [v] (eval o X.env)
   let b <-holding [v,a] (eval i X.env)
   standAt pos
   holding [v,a,b] (setItem a b v)
   release [v,a,b] []):=by intro _;rfl):PG X (.Subscript o i pos) (QB c d t):=by
 calc⟨?_⟩;intro pins s σ H v u Q I r h;rw[j];calc A' (aao (dy (e pins s σ H _ I h) λa d c=>?_));obtain⟨x,e,h,j,k⟩:=c;calc A' (aao (dy (f pins d σ e _ h k) λb l c=>?_));obtain⟨y,d,e,f,h⟩:=c;calc A' (wpAny_standAt (A' (aao (dy (g pins l σ d x y v a b u _ e j f r h) λ_ k c=>?_))));obtain⟨a,b,d⟩:=c;calc wpAny_release ⟨σ,a,b,d⟩
def EE(te:TE)(g:TG):TS:=λD σ H=>te σ H λx a=>g x σ a D.nx
theorem de{g:TG}(he:PE X e te)(a:PG X tg g)(b:swapsWithSole [tg] e pos.line X.env=pure false:=by rfl)(c:swappedStores [tg] e X.env=pure none:=by rfl)
  (d:(assignEach [tg] X.env).map (·.2)=[assign tg X.env]:=by rfl):PS X (.Assign [tg] e pos) (EE te g):=by
 walk_at "xd";refine wpAny_Assign_stores (dy (he pins s σ H _ I h) λv f g=>?_) b c;obtain⟨x,i,j,k,l⟩:=g;rw[d];exact dy (a pins f σ i x v _ j k l) λ_ b q=>q
theorem GH{a:Pos}(b:X.N.Nodup)(c:X.N[i]?=some x)(d:Loc X.env.scope x)(he:PE X e te)(f:swapsWith e (some (.Name x a)) pos.line X.env=pure false:=by rfl)(g:X.fn x=true\/X.env.scope.names.lookup x=some .local:=by grind):
  PS X (.Assign [.Name x a] e pos) (EE te (dI i)):=by
 walk_at "xd";refine wpAny_Assign_Name (dy (he pins s σ H _ I h) λv j a=>?_) f;obtain⟨y,j,k,l,m⟩:=a;exact oX k b c d l (λn f=>⟨_,j,f,m⟩) g
def QC(i:Nat)(te:TE)(a:Z0):TS:=λD σ H=>∃x,σ[i]?=some (some x)/\te σ H λy b=>a x y b λz c=>D.nx (σ.set i (some z)) c
theorem QE{c:Operator}{f:Z0}{a:Pos}(n:X.N.Nodup)(g:X.N[i]?=some x)(d:Loc X.env.scope x)(he:PE X e te)(o:PIp X c f)(p:X.fn x=true\/X.env.scope.names.lookup x=some .local:=by grind):
  PS X (.AugAssign (.Name x a) c e pos) (QC i te f):=by
 walk_at "xd";obtain⟨v,q,h⟩:=h;obtain⟨m,t,y⟩:=I.loc;have b:Vn X.env.scope x:=by rcases d with k|k;exact .inl k;exact .inr (.inl k)
 obtain⟨u,r,l⟩:=y i x v g q b;calc wpAny_AugAssign_Name ?_;have j:wpAny (model X.prog X.w) X.A (eval e X.env) (λw a=>wpAny (model X.prog X.w) X.A (inplaceOp c u w) (λr b=>wpAny (model X.prog X.w) X.A (storeName X.env x r) (λ_=>SP X pins D .next) X.xe b) X.xe a) X.xe s:=by
  calc dy (he pins s σ H _ I h) λw b a=>?_;obtain⟨y,c,f,m,q⟩:=a;calc dy (o pins b σ c v y u w _ f r m q) λz E a=>?_;obtain⟨o,b,c,f,m⟩:=a;exact oX c n g d f (λq o=>⟨_,b,o,m⟩) p
 rcases l with⟨hk,a⟩|⟨hk,c,B,C⟩
 ·exact wpAny_loadName_local I.ok.kind hk t a j
 ·rcases hk with hk | hk
  ·exact wpAny_loadName_cell I.ok.kind hk B C j
  ·rcases d with k | k
   ·have:X.env.scope.names.lookup x=some .free:=hk;rw[k]at this;cases this
   ·have:X.env.scope.names.lookup x=some .free:=hk;rw[k]at this;cases this
def ipI(f:Int->Int->Int):Z0:=λx y H Q=>∃i j,x=.int i/\y=.int j/\Q (.int (f i j)) H
theorem QF:PIp X .Add (ipI λi j=>i+j):=by
 intro pins s σ H x y v u Q I a b h;obtain⟨i,j,c,d,q⟩:=h;subst c;subst d;obtain⟨t,rfl⟩:=a;obtain⟨e,rfl⟩:=b;calc iadd_int ⟨.int _,H,I.tok _,⟨_,rfl⟩,q⟩
end
section
variable {X:Cx}{pos:Pos}
def wV(c:TT)(f:TS):TS:=λD σ H=>∃W:Nat->St->Hp->Prop,(∃m,W m σ H)/\∀m σ H,W m σ H->
 c σ H λb d=>if b=true then ∃N:St->Hp->Prop,(∀a c,N a c->∃e,e<m/\W e a c)/\f {D with nx:=N,ct:=N,bk:=D.nx} σ d else D.nx σ d
theorem sW{c:Expr}{a:List Stmt}{i:TT}{j:TS}(k:PassesOwn (model X.prog X.w) X.A X.env X.xe)(p:PT X c i)(q:yy X a j):PS X (.While c a [] pos) (wV i j):=by
 walk_at "xd";obtain⟨W,⟨r,t⟩,a⟩:=h;refine wpAny_While (codeAny_whileLoop (λn u=>∃c i,Inv X pins c i u/\W n c i) ?_ r ⟨σ,H,I,t⟩);rintro n v ⟨d,j,x,y⟩;refine wpAny_passesOwn k (dy (p pins v d j _ x (a n d j y)) λb z B=>?_);obtain⟨l,m,e⟩:=B
 cases b with
 |true=>
  obtain⟨N,o,e⟩:=e;rw[if_pos rfl];refine wpAny_passesOwn k (dy (q pins z d l _ m e) λf a g=>?_)
  cases f with
  |next=>
   obtain⟨a,b,c,f⟩:=g;obtain⟨i,j,k⟩:=o a b f;calc⟨i,j,a,b,c,k⟩
  |cont=>
   obtain⟨a,b,c,f⟩:=g;obtain⟨i,j,k⟩:=o a b f;calc⟨i,j,a,b,c,k⟩
  |brk=>calc g
  |ret v=>calc g
 |false=>
  rw[if_neg T'];calc wpAny_execs_nil ⟨d,l,m,e⟩
end
structure It where
 go:Nat->Hp->Prop
 Ox:Nat->Hp->V->Hp->Prop
 stop:Nat->Hp->Prop
def qa(X:Cx)(pins:List (Addr×Obj))(H:Hp)(b:Addr):Prop:=
 H b=none/\b≠X.env.locals/\b∉X.fs/\(b∈X.ex\/X.s₀.heap.objs.size<=b)/\(∀x c,X.env.cells.lookup x=some c->c≠b)/\∀p∈X.pn++pins,p.1≠b
theorem Inv.GI{H c:Hp}{s:Shared}{b:Addr}(I:Inv X pins σ H s)(a:s.heap.objs.size<=b)(d:c b=none):qa X pins c b:=by
 refine⟨d,aal (R' I.lt a),I.Qs a,.inr (aaa I.sz a),λx c e z=>?_,λp b z=>?_⟩
 ·obtain⟨v,q⟩:=I.cell x c e;exact absurd (R' q.lt (by rw[z];calc a)) (aaj _)
 ·calc absurd (R' (M' (I.pin p b).1) (by rw[z];calc a)) (aaj _)
structure Turn(P:Program)(w:World)(K:W.Frag)(tg:Expr)(J:It)(fp:List Addr)(it:Addr)(tn:Nat->Heap->Prop):Prop where
 mem:it∈fp
 obj:∀i h,tn i h->∀b∈fp,∃o,h.get? b=some o/\∀v,o.data≠.cell v
 keep:∀i h h',tn i h->(∀b∈fp,∀o,h.get? b=some o->h'.get? b=some o)->tn i h'
 item:∀(X:Cx),X.prog=P->X.w=w->X.K=K->X.calm=true->∀(i:Nat) (pins:List (Addr×Obj)) (s:Shared) (σ:St) (H:Hp) (E:Value->Shared->Prop),Inv X pins σ H s->(∀b ∈ fp,qa X pins H b)->tn i s.heap->J.go i H->
  wpAny (model P w) X.A (pyNext (.ref it)) (λr s1=>∃u,r=some u/\
   wpAny (model P w) X.A (letOwnedTupleGo tg (.ref it) u) (λ_ s2=>∃x H',Inv X pins σ H' s2/\RelV x u/\J.Ox i H x H'/\tn (i + 1) s2.heap/\∀b ∈ fp,H' b=none) E s1) E s
 done:∀(X:Cx),X.prog=P->X.w=w->X.K=K->X.calm=true->∀(i:Nat) (pins:List (Addr×Obj)) (s:Shared) (σ:St) (H:Hp) (E:Value->Shared->Prop),Inv X pins σ H s->(∀b ∈ fp,qa X pins H b)->tn i s.heap->J.stop i H->
  wpAny (model P w) X.A (pyNext (.ref it)) (λr s1=>r=none/\Inv X pins σ H s1) E s
 self:∀(A:Around) (i:Nat) (s:Shared) (Q:Value->Shared->Prop) (E:Value->Shared->Prop),tn i s.heap->Q (.ref it) s->wpAny (model P w) A (pyIter (.ref it)) Q E s
abbrev TI:=St->Hp->(It->Hp->Prop)->Prop
def PIE(X:Cx)(pins:List (Addr×Obj))(σ:St)(tg:Expr)(R:It->Hp->Prop)(g:Value)(c:Shared):Prop:=
 ∃(d:Addr) (e:List Addr) (f:Nat->Heap->Prop) (J:It) (a:Hp),g=.ref d/\Inv X pins σ a c/\Turn X.prog X.w X.K tg J e d f/\f 0 c.heap/\(∀b∈e,qa X pins a b)/\R J a
structure PI(X:Cx)(tg iter:Expr)(wi:TI):Prop where
 out:
  ∀(pins:List (Addr×Obj)) (s:Shared) (σ:St) (H:Hp) (R:It->Hp->Prop),Inv X pins σ H s->wi σ H R->
   wpAny (model X.prog X.w) X.A (eval iter X.env) (λv s1=>wpAny (model X.prog X.w) X.A (pyIter v) (PIE X pins σ tg R) X.xe s1) X.xe s
instance {X:Cx}{tg a:Expr}{b:TI}:CoeFun (PI X tg a b) λ_=>
 ∀(pins:List (Addr×Obj)) (s:Shared) (σ:St) (H:Hp) (R:It->Hp->Prop),Inv X pins σ H s->b σ H R->
  wpAny (model X.prog X.w) X.A (eval a X.env) (λv b=>wpAny (model X.prog X.w) X.A (pyIter v) (PIE X pins σ tg R) X.xe b) X.xe s:=⟨PI.out⟩
theorem GJ{M:Model}{A:Around}{E:Value->Shared->Prop}{s:Shared}{tg:Expr}{b:Addr}{u:Value}{o:Obj}{n:String}{vs:Array Value}{Q:Unit->Shared->Prop}(c:s.heap.get? b=some o)(d:o.cls=.type n)(e:o.data=.fields vs)
    (f:["enumerate","zip","dict_itemiterator","dict_reverseitemiterator","odict_iterator","itertools.zip_longest","itertools.pairwise"].contains n=false) (a:Q ⟨⟩ s):wpAny M A (letOwnedTupleGo tg (.ref b) u) Q E s:=by
  unfold letOwnedTupleGo
  cases tg<;>first
    |calc K' a
    | (cases u <;> first
        |calc K' a
        | (refine A' (wpAny_load c ?_)
           rw[d,e];show wpAny M A (if (["enumerate","zip","dict_itemiterator","dict_reverseitemiterator","odict_iterator","itertools.zip_longest","itertools.pairwise"].contains n && vs[0]? == some (rawInt _))=true then _ else _) Q E s;rw[if_neg (by intro h;rw[f,Bool.false_and] at h;cases h)];exact K' a))
def rD(K:W.Frag)(a:Addr):It:=
 ⟨λi H=>∃xs x,aM K H a xs/\xs[i]?=some x,λi H x b=>b=H/\∀xs,aM K H a xs->xs[i]?=some x,λi H=>∃xs,aM K H a xs/\xs.length<=i⟩
def QG(K:W.Frag)(a:Addr):It:=
 ⟨λi H=>∃xs x,bG K H a xs/\xs[i]?=some x,λi H x b=>b=H/\∀xs,bG K H a xs->xs[i]?=some x,λi H=>∃xs,bG K H a xs/\xs.length<=i⟩
def Cy(lo:Int)(n:Nat):It:=⟨λi _=>i<n,λi H x a=>a=H/\x=.int (lo+i),λi _=>n<=i⟩
theorem EF{P:Program}{w:World}(a g:Addr):Turn P w K tg (rD K a) [g] g (λi h=>h.IsListIter g a i) where
 mem:=by simp
 obj:=λi h f b j=>by
  have e:b=g:=by simpa using j
  subst e;obtain⟨o,e,c,d⟩:=f;exact⟨o,e,λv z=>by rw[d]at z;cases z⟩
 keep:=λi h l f k=>f.at λo e=>k g nofun o e
 item:=by
  intro X q r t L i pins s σ H E I m f y;subst q r t;obtain⟨M,x,n,A⟩:=y;obtain⟨N,B,p,O⟩:=I.list n;obtain⟨u,k,v⟩:=B.get A;obtain⟨C,D,Q,F,G,J⟩:=m g nofun;calc wpAny_pyNext_list_item f p.isList (x:=u) (by simpa using k) λl a w=>?_;have k:Inv X pins σ H {s with heap:=l}:=I.turned (t':=s.toks) (λb o j e=>(w.2 b j).trans e) C D F G J;obtain⟨o,e,c,d⟩:=id a;exact⟨u,rfl,GJ (s:={s with heap:=l}) e c d ∅ ⟨x,H,k,v,⟨rfl,λw u=>by rw[I.yJ u n];calc A⟩,a,λb j=>(m b j).1⟩⟩
 done:=by
  intro X q r t L i pins s σ H E I m f y;subst q r t;obtain⟨M,n,A⟩:=y;obtain⟨N,B,p,O⟩:=I.list n;obtain⟨C,D,Q,F,G,J⟩:=m g nofun;have a:=B.length;exact wpAny_pyNext_list_end (I.ok.hd L) f p.isList (by simp;lia) λl a=>⟨rfl,I.turned (t':=s.toks) (λb o j e=>a b o j e) C D F G J⟩
 self:=λ_ _ _ _ _ f h=>wpAny_pyIter_listiter f h
theorem A0{P:Program}{w:World}(a g:Addr):Turn P w K tg (QG K a) [g] g (λi h=>h.IsTupleIter g a i) where
 mem:=by simp
 obj:=λi h f b j=>by
  have e:b=g:=by simpa using j
  subst e;obtain⟨o,e,c,d⟩:=f;exact⟨o,e,λv z=>by rw[d]at z;cases z⟩
 keep:=λi h l f k=>f.at λo e=>k g nofun o e
 item:=by
  intro X q r t M i pins s σ H E I m f y;subst q r t;obtain⟨N,x,n,A⟩:=y;obtain⟨B,C,p,O⟩:=I.tuple n;obtain⟨u,v,w⟩:=C.get A;obtain⟨D,F,Q,G,J,L⟩:=m g nofun;calc wpAny_pyNext_tuple_item f (show s.heap.IsTuple a B.toArray from p) (x:=u) (by simpa using v) λl k z=>?_;have v:Inv X pins σ H {s with heap:=l}:=I.turned (t':=s.toks) (λb o j e=>(z.2 b j).trans e) D F G J L;obtain⟨o,e,c,d⟩:=id k;exact⟨u,rfl,GJ (s:={s with heap:=l}) e c d ∅ ⟨x,H,v,w,⟨rfl,λz u=>by rw[I.vG u n];calc A⟩,k,λb j=>(m b j).1⟩⟩
 done:=by
  intro X q r t M i pins s σ H E I m f y;subst q r t;obtain⟨N,n,A⟩:=y;obtain⟨B,C,p,O⟩:=I.tuple n;obtain⟨D,F,Q,G,J,L⟩:=m g nofun;have c:=C.length;exact wpAny_pyNext_tuple_end (I.ok.hd M) f (show s.heap.IsTuple a B.toArray from p) (by simp;lia) λl c=>⟨rfl,I.turned (t':=s.toks) (λb o j e=>c b o j e) D F G J L⟩
 self:=λ_ _ _ _ _ f h=>wpAny_pyIter_tupleiter f h
theorem A7{P:Program}{w:World}(c:Addr)(lo:Int)(n:Nat):Turn P w K tg (Cy lo n) [c] c (λi h=>IsRangeIter h c (lo+(i:Nat)*1) ((n:Int)-(i:Nat)) 1) where
 mem:=by simp
 obj:=λi h a b d=>by
  have e:b=c:=by simpa using d
  subst e;exact⟨_,a,λv z=>by
   have k:Data.fields _=Data.cell v:=z
   cases k⟩
 keep:=λi h f a k=>k c nofun _ a
 item:=by
  intro X j l m p i pins s σ H E I g a q;subst j l m;obtain⟨r,u,D,x,y,A⟩:=g c nofun;have W:=Walks.range (prog:=X.prog) (w:=X.w) (I.ok.hd p) c lo 1 n;calc W.item i s _ _ q a λv f B F C G=>?_;obtain⟨t,rfl⟩:=F;have k:Inv X pins σ H {s with heap:=f,toks:=B}:=I.turned (λb o d e=>G b o (by simpa using d) e) r u x y A;calc⟨_,rfl,GJ (s:={s with heap:=f,toks:=B}) (n:="range_iterator") C rfl rfl ∅ ⟨.int (lo+i),H,k,⟨t,?_⟩,⟨rfl,rfl⟩,C,λb d=>(g b d).1⟩⟩;rw[Int.mul_one]
 done:=by
  intro X j l m p i pins s σ H E I g a q;subst j l m;obtain⟨r,u,D,x,y,A⟩:=g c nofun;exact wpAny_pyNext_range_end (I.ok.hd p) a (by have:n<=i:=q;lia) λf c=>⟨rfl,I.turned (t':=s.toks) (λb o d e=>c b o d e) r u x y A⟩
 self:=λ_ _ _ _ _ a h=>wpAny_pyIter_rangeiter a h
end
section
variable {H:Hp}{pins:List (Addr×Obj)}{s:Shared}{σ:St}{g:TG}{tb:TS}
section
variable {X:Cx}{tg:Expr}
theorem GK{R:It->Hp->Prop}{E:Value->Shared->Prop}{lo a:Int}{t u v:Tok}{c:Nat}(I:Inv X pins σ H s)(f:-(2^62)<=lo)(g:lo<2^62)(h:-(2^62)<=a)(i:a<2^62)
  (q:R (Cy lo (a-lo).toNat) H):wpAny (model X.prog X.w) X.A (pyIter (.ref s.heap.objs.size)) (PIE X pins σ tg R) E {s with heap:=s.heap.push {cls:=.type "range",data:=.fields #[.int lo t,.int a u,.int 1 v]},toks:=c}:=by
 refine wpAny_pyIter_range (IsRange.new ..) (small_one f g h i) ?_;have d:Inv X pins σ H {s with heap:=s.heap.push {cls:=.type "range",data:=.fields #[.int lo t,.int a u,.int 1 v]},toks:=c}:=I.kept λb o e=>F' _ e;refine⟨(s.heap.push {cls:=.type "range",data:=.fields #[.int lo t,.int a u,.int 1 v]}).objs.size,[(s.heap.push {cls:=.type "range",data:=.fields #[.int lo t,.int a u,.int 1 v]}).objs.size],_,_,H,rfl,
  d.kept (t':=c) λb o e=>F' _ e,A7 _ lo (a - lo).toNat,?_,λb j=>?_,q⟩
 ·have k:lo + ((0:Nat):Int) * 1=lo:=by simp
  have l:(((a-lo).toNat:Nat):Int)-((0:Nat):Int)=Builtin.Range.rangeSize lo a 1:=by rw[rangeSize_one];split<;>lia
  show IsRangeIter _ _ (lo+((0:Nat):Int)*1) ((((a-lo).toNat:Nat):Int)-((0:Nat):Int)) 1;rw[k,l];exact P' _ rfl
 ·have e:b=(s.heap.push {cls:=.type "range",data:=.fields #[.int lo t,.int a u,.int 1 v]}).objs.size:=by simpa using j
  subst e;calc d.GI (E' _) (d.aY.fresh (E' _))
def GL(a:TA):TI:=λσ H R=>a σ H λvs b=>∃j:Int,vs=[.int j]/\-(2^62)<=j/\j<2^62/\R (Cy 0 j.toNat) b
theorem cZ{a:Expr}{d:TA}{p b:Pos}(f:Gl X "range")(g:X.mg "range"=none)(i:PA X [a] d)(j:starEach [a] X.env=[(false,eval a X.env)]:=by rfl):PI X tg (.Call (.Name "range" p) [a] [] b) (GL d):=by
 calc⟨?_⟩;intro pins s σ H R I h;calc Call_ (nO I f g boot_range (PyProof.Rows.callWith_type1 (dy (i b pins s σ H _ I h) λd o a=>?_) j rfl));obtain⟨b,d,k,l,c⟩:=a;obtain⟨j,e,c,m,q⟩:=c;subst e
 cases l with
 |cons r n=>
  cases n;obtain⟨t,rfl⟩:=r;calc call_range_1 (GK k () () c m (by simpa using q))
def QH(a:TI)(g:TG)(tb:TS):TS:=λD σ H=>a σ H λJ b=>∃W:Nat->Nat->St->Hp->Prop,(∃m,W 0 m σ b)/\∀i m σ H,W i m σ H->
 (J.stop i H/\D.nx σ H)\/(J.go i H/\∃N:St->Hp->Prop,(∀a b,N a b->∃d,d<m/\W (i+1) d a b)/\∀x b,J.Ox i H x b->g x σ b λc e=>tb {D with nx:=N,ct:=N,bk:=D.nx} c e)
def qb(a:List Addr)(h:Heap):List (Addr×Obj):=a.filterMap λb=>(h.get? b).map λo=>(b,o)
theorem km{a:List Addr}{h:Heap}{b:Addr}{o:Obj}(c:b∈a)(e:h.get? b=some o):(b,o)∈qb a h:=List.mem_filterMap.mpr ⟨b,c,by rw[e];rfl⟩
theorem EG{a:List Addr}{h:Heap}{p:Addr×Obj}(c:p∈qb a h):p.1∈a/\h.get? p.1=some p.2:=by
 obtain⟨b,d,e⟩:=List.mem_filterMap.mp c
 cases q:h.get? b with
 |none=>rw[q]at e;cases e
 |some o=>
  rw[q]at e;have f:(b,o)=p:=Option.some.inj e;subst f;calc⟨d,q⟩
theorem Inv.pinned{a:List Addr}(I:Inv X pins σ H s)(g:∀b∈a,qa X pins H b)(h:∀b∈a,∃o,s.heap.get? b=some o/\∀v,o.data≠.cell v):Inv X (pins++qb a s.heap) σ H s:=
 I.wQ λp a=>(List.mem_append.mp a).elim (λz=>I.pin p (aab _ z)) λz=>by
  obtain⟨c,e⟩:=EG z;obtain⟨i,j,k,_⟩:=g p.1 c;obtain⟨o,f,d⟩:=h p.1 c;rw[e]at f;cases f;calc⟨e,i,j,k,d⟩
theorem Inv.lL{pl:List (Addr×Obj)}(I:Inv X (pins++pl) σ H s):Inv X pins σ H s:=I.wQ λp a=>I.pin p (aab _ (List.mem_append_left _ a))
theorem dJ{c:Expr}{m:List Stmt}{M:TI}{J:Pos}(z:PassesOwn (model X.prog X.w) X.A X.env X.xe)(O:X.calm=true)(Z:PI X tg c M)(hg:PG X tg g)(j:yy X m tb)
  (hs:∀x,foldedSetIterable c X.env x=pure x:=by intro _;rfl):PS X (.For tg c m [] J) (QH M g tb):=by
 walk_at "xd";refine wpAny_For (dy (Z pins s σ H _ I h) λv m c=>dy c λm J h2=>?_) hs;obtain⟨c,B,P,J,H2,e,I2,T,oY,Q,W,⟨m0,w0⟩,C⟩:=h2;subst e;have K:∀{o:Hp},(∀b∈B,o b=none)->∀b∈B,qa X pins o b:=λc b j=>⟨c b j,(Q b j).2⟩
 calc codeAny_forLoop_any (λn c=>∃i d o,Inv X pins d o c/\P i c.heap/\(∀b∈B,o b=none)/\W i n d o) ?_ m0 ⟨0,σ,H2,I2,oY,λb j=>(Q b j).1,w0⟩;rintro n R ⟨i,k,G,S,U,Y,w3⟩;rcases C i n k G w3 with⟨c,qn⟩|⟨go,N,hN,E⟩
 ·calc wpAny_passesOwn z (dy (T.done X rfl rfl rfl O i pins R k G X.xe S (K Y) U c) λr s4 y=>?_);obtain⟨L,I4⟩:=y;subst L;exact wpAny_execs_nil ⟨k,G,I4,qn⟩
 ·calc wpAny_passesOwn z (dy (T.item X rfl rfl rfl O i pins R k G X.xe S (K Y) U go) λr s4 y=>?_);obtain⟨u,L,h4⟩:=y;subst L;calc wpAny_passesOwn z (dy h4 λ_ C y=>?_);obtain⟨x,G,J,L,M,c,m⟩:=y;have r:=J.pinned (K m) (T.obj _ _ c);calc wpAny_passesOwn z (dy (hg _ C k G x u _ r L (E x G M)) λ_ O y=>?_);obtain⟨k,m,u,x⟩:=y;calc wpAny_passesOwn z (dy (j _ O k m _ u x) λf r t=>?_);have l:∀{a:St} {p:Hp},Inv X (pins++qb B C.heap) a p r->N a p->∃m,m<n/\∃i d o,Inv X pins d o r/\P i r.heap/\(∀b∈B,o b=none)/\W i m d o:=λ{a p} q F=>by
   obtain⟨d,k,m⟩:=hN a p F;calc⟨d,k,i+1,a,p,q.lL,T.keep _ _ _ c λb j o e=>(q.pin (b,o) (aab _ (aab _ (km j e)))).1,λb j=>?_,m⟩;obtain⟨o,e,d⟩:=T.obj _ _ c b j;exact(q.pin (b,o) (aab _ (aab _ (km j e)))).2.1
  cases f with
  |next=>obtain⟨a,p,q,F⟩:=t;calc l q F
  |cont=>obtain⟨a,p,q,F⟩:=t;calc l q F
  |brk=>obtain⟨a,p,q,t⟩:=t;calc⟨a,p,q.lL,t⟩
  |ret v=>obtain⟨b,a,p,q,c,t⟩:=t;calc⟨b,a,p,q.lL,c,t⟩
end
theorem ee{K:W.Frag}{a:Addr}{xs:List V}{D:Ends}(b:Nat->St->Hp->Prop)(k:b 0 σ H)(l:∀i σ H,i<=xs.length->b i σ H->aM K H a xs)
  (n:∀i x σ H,xs[i]?=some x->b i σ H->g x σ H λc h=>tb {D with nx:=b (i+1),ct:=b (i+1),bk:=D.nx} c h) (o:∀σ H,b xs.length σ H->D.nx σ H):
  ∃W:Nat->Nat->St->Hp->Prop,(∃m,W 0 m σ H)/\∀i m σ H,W i m σ H->
   ((rD K a).stop i H/\D.nx σ H)\/((rD K a).go i H/\∃N:St->Hp->Prop,(∀d f,N d f->∃j,j<m/\W (i+1) j d f)/\∀x f,(rD K a).Ox i H x f->g x σ f λc h=>tb {D with nx:=N,ct:=N,bk:=D.nx} c h):=by
 calc⟨λi m σ H=>m=xs.length-i/\i<=xs.length/\b i σ H,⟨xs.length,nofun,U' _,k⟩,?_⟩;rintro i m σ H ⟨rfl,c,p⟩;have q:=l i σ H c p;by_cases a:i<xs.length
 ·calc .inr ⟨⟨xs,xs[i],q,by simp[a]⟩,b (i+1),λd f c=>⟨xs.length-(i+1),(),rfl,a,c⟩,λx f y=>?_⟩;obtain⟨e,y⟩:=y;subst e;exact n i x σ _ (y xs q) p
 ·have e:i=xs.length:=by lia
  subst e;calc .inl ⟨⟨xs,q,E' _⟩,o σ H p⟩
theorem j4{lo:Int}{n:Nat}{D:Ends}(a:Nat->St->Hp->Prop)(k:a 0 σ H)
  (l:∀i σ H,i<n->a i σ H->g (.int (lo+i)) σ H λb f=>tb {D with nx:=a (i+1),ct:=a (i+1),bk:=D.nx} b f) (o:∀σ H,a n σ H->D.nx σ H):
  ∃W:Nat->Nat->St->Hp->Prop,(∃m,W 0 m σ H)/\∀i m σ H,W i m σ H->
   ((Cy lo n).stop i H/\D.nx σ H)\/((Cy lo n).go i H/\∃N:St->Hp->Prop,(∀c d,N c d->∃j,j<m/\W (i+1) j c d)/\∀x d,(Cy lo n).Ox i H x d->g x σ d λb f=>tb {D with nx:=N,ct:=N,bk:=D.nx} b f):=by
 calc⟨λi m σ H=>m=n-i/\i<=n/\a i σ H,⟨n,nofun,U' _,k⟩,?_⟩;rintro i m σ H ⟨rfl,b,p⟩;by_cases h:i<n
 ·calc .inr ⟨h,a (i+1),λc d b=>⟨n-(i+1),(),rfl,h,b⟩,λx d y=>?_⟩;obtain⟨e,y⟩:=y;subst e y;exact l i σ _ h p
 ·have e:i=n:=by lia
  subst e;calc .inl ⟨E' _,o σ H p⟩
end
section
variable {op:CmpOp}{g:Int->Int->Int}
abbrev R2:=V->V->Hp->VK->Prop
def gK(X:Cx)(f:Value->Value->Sem Value)(r:R2):Prop:=
 ∀(pins:List (Addr×Obj)) (s:Shared) (σ:St) (H:Hp) (x y:V) (v u:Value) (Q:VK),Inv X pins σ H s->RelV x v->RelV y u->r x y H Q->
  wpAny (model X.prog X.w) X.A (f v u) (EP X pins σ Q) X.xe s
def UnR(X:Cx)(f:Value->Sem Value)(r:V->Hp->VK->Prop):Prop:=
 ∀(pins:List (Addr×Obj)) (s:Shared) (σ:St) (H:Hp) (x:V) (v:Value) (Q:VK),Inv X pins σ H s->RelV x v->r x H Q->
  wpAny (model X.prog X.w) X.A (f v) (EP X pins σ Q) X.xe s
def eQ(X:Cx)(f:Value)(r:List V->Hp->VK->Prop):Prop:=
 ∀(pins:List (Addr×Obj)) (s:Shared) (σ:St) (H:Hp) (xs:List V) (us:List Value) (Q:VK),Inv X pins σ H s->Vals xs us->r xs H Q->
  wpAny (model X.prog X.w) X.A (call f us) (EP X pins σ Q) X.xe s
def AI(r:R2)(a b:TE):TE:=λσ H Q=>a σ H λx c=>b σ c λy a=>r x y a Q
def Z2(r:V->Hp->VK->Prop)(a:TE):TE:=λσ H Q=>a σ H λx b=>r x b Q
def rI(C:Int->Int->Prop)(g:Int->Int->V):R2:=λx y H Q=>∃i j,x=.int i/\y=.int j/\C i j/\Q (g i j) H
def L6(g:Int->Int->V):R2:=λx y H Q=>∃i j,x=.int i/\y=.int j/\Q (g i j) H
def rU(g:Int->V):V->Hp->VK->Prop:=λx H Q=>∃i,x=.int i/\Q (g i) H
section
variable {X:Cx}{a b c:Expr}{ta tb tc:TE}{pos:Pos}
theorem QI(j:PE X a ta)(k:PE X b tb){pins:List (Addr×Obj)}{s:Shared}{σ:St}{H:Hp}{R:V->V->Hp->Prop}(I:Inv X pins σ H s)
  (h:ta σ H λx i=>tb σ i λy c=>R x y c) {Q:Value->Shared->Prop} {f:Value->Value->Sem Value}
  (l:∀v u g x y c,Inv X pins σ c g->RelV x v->RelV y u->R x y c->wpAny (model X.prog X.w) X.A (f v u) Q X.xe g):
  wpAny (model X.prog X.w) X.A (eval a X.env) (λv d=>wpAny (model X.prog X.w) X.A (eval b X.env) (λu e=>wpAny (model X.prog X.w) X.A (f v u) Q X.xe e) X.xe d) X.xe s:=by
 calc dy (j pins s σ H _ I h) λv e d=>?_;obtain⟨x,i,f,h,j⟩:=d;calc dy (k pins e σ i _ f j) λu g d=>?_;obtain⟨y,c,e,f,i⟩:=d;calc l v u g x y c e h f i
theorem bq{op:Operator}{r:R2}(c:gK X (binaryOp op) r)(d:PE X a ta)(e:PE X b tb):PE X (.BinOp a op b pos) (AI r ta tb):=by
 walk_at "xc";exact wpAny_BinOp (QI d e I h λv u f x y g i j k q=>c pins f σ g x y v u Q i j k q)
theorem ib{op:UnaryOp}{r:V->Hp->VK->Prop}(b:UnR X (unaryOp op) r)(c:PE X a ta):PE X (.UnaryOp op a pos) (Z2 r ta):=by
 walk_at "xc";exact UnaryOp_ (dy (c pins s σ H _ I h) λv d ⟨x,e,f,g,i⟩=>b pins d σ e x v Q f g i)
theorem Z3{f:Value->Value->Sem Value}{C:Int->Int->Prop}
  (a:∀(i j:Int) (t u:Tok) (s:Shared) (Q:Value->Shared->Prop) (E:Value->Shared->Prop),C i j->Q (.int (g i j) s.toks) {s with toks:=s.toks+1}->wpAny (model X.prog X.w) X.A (f (.int i t) (.int j u)) Q E s):
  gK X f (rI C λi j=>.int (g i j)):=by
 intro b s σ H x y v u Q I c d h;obtain⟨i,j,rfl,rfl,e,q⟩:=h;obtain⟨t,rfl⟩:=c;obtain⟨k,rfl⟩:=d;calc a i j t k s _ _ e ⟨.int (g i j),H,I.tok _,⟨_,rfl⟩,q⟩
theorem Vt{f:Value->Value->Sem Value}
  (a:∀(i j:Int) (t u:Tok) (s:Shared) (Q:Value->Shared->Prop) (E:Value->Shared->Prop),Q (.int (g i j) s.toks) {s with toks:=s.toks+1}->wpAny (model X.prog X.w) X.A (f (.int i t) (.int j u)) Q E s):
  gK X f (L6 λi j=>.int (g i j)):=by
 intro b s σ H x y v u Q I c d h;obtain⟨i,j,rfl,rfl,q⟩:=h;obtain⟨t,rfl⟩:=c;obtain⟨e,rfl⟩:=d;calc a i j t e s _ _ ⟨.int (g i j),H,I.tok _,⟨_,rfl⟩,q⟩
theorem L7{f:Value->Value->Sem Value}{g:Int->Int->Bool}
  (a:∀(i j:Int) (t u:Tok) (s:Shared) (Q:Value->Shared->Prop) (E:Value->Shared->Prop),Q (.bool (g i j)) s->wpAny (model X.prog X.w) X.A (f (.int i t) (.int j u)) Q E s):
  gK X f (L6 λi j=>.bl (g i j)):=by
 intro b s σ H x y v u Q I c d h;obtain⟨i,j,rfl,rfl,q⟩:=h;obtain⟨t,rfl⟩:=c;obtain⟨e,rfl⟩:=d;calc a i j t e s _ _ ⟨.bl (g i j),H,I,rfl,q⟩
def L8(i j:Int):Prop:=0<=j/\j<=1000000/\i.natAbs<2^64
def GN(i j:Int):Prop:=(-(2^64)<i/\i<2^64)\/(-(2^64)<j/\j<2^64)
theorem GN.ok{i j:Int}(h:GN i j):IntMulOk i j:=by
 rcases h with⟨a,b⟩|⟨a,b⟩
 ·exact .of_left (intBits_le_64 a b)
 ·calc .of_right (intBits_le_64 a b)
theorem QJ:gK X (binaryOp .Add) (L6 λi j=>.int (i+j)):=Vt λ_ _ _ _ _ _ _ q=>add_int q
theorem QK:gK X (binaryOp .Sub) (L6 λi j=>.int (i-j)):=Vt λ_ _ _ _ _ _ _ q=>sub_int q
theorem QL:gK X (binaryOp .Mult) (rI GN λi j=>.int (i*j)):=Z3 λ_ _ _ _ _ _ _ a q=>mul_int q a.ok
theorem QM:gK X (binaryOp .Mod) (rI (λ_ j=>0<j) λi j=>.int (i%j)):=Z3 λi j _ _ _ _ _ a q=>by
 have b:(0:Int)<j:=a;calc mod_int' () (by rw[Int.fmod_eq_emod_of_nonneg i ()];calc q)
theorem QN:gK X (binaryOp .Pow) (rI L8 λi j=>.int (i^j.toNat)):=Z3 λ_ _ _ _ _ _ _ a q=>pow_int_small a.1 a.2.1 a.2.2 q
theorem unI{f:Value->Sem Value}{g:Int->Int}
  (a:∀(i:Int) (t:Tok) (s:Shared) (Q:Value->Shared->Prop) (E:Value->Shared->Prop),Q (.int (g i) s.toks) {s with toks:=s.toks+1}->wpAny (model X.prog X.w) X.A (f (.int i t)) Q E s):
  UnR X f (rU λi=>.int (g i)):=by
 intro b s σ H x v Q I c h;obtain⟨i,rfl,q⟩:=h;obtain⟨t,rfl⟩:=c;calc a i t s _ _ ⟨.int (g i),H,I.tok _,⟨_,rfl⟩,q⟩
theorem fc:UnR X (unaryOp .USub) (rU λi=>.int (-i)):=unI λ_ _ _ _ _ q=>neg_int q
end
def L9:V->V->Bool
 | .bM,.bM=>true | .bM,.int _=>true | .int _,.bM=>true | .bM,.bl _=>true | .bl _,.bM=>true | .bM,.str _=>true | .str _,.bM=>true
 | .int _,.int _=>true | .bl _,.bl _=>true | .str _,.str _=>true | .Cq _,.Cq _=>true
 | .int _,.str _=>true | .str _,.int _=>true | .bl _,.str _=>true | .str _,.bl _=>true
 |_,_=>false
def rEq:R2:=λx y H Q=>L9 x y=true/\Q (.bl (decide (x=y))) H
def rNe:R2:=λx y H Q=>L9 x y=true/\Q (.bl (!decide (x=y))) H
theorem Cz{i j:Int}:decide (V.int i=V.int j)=(i==j):=by
 rw[Bool.eq_iff_iff];simp
theorem GO{i j:Bool}:decide (V.bl i=V.bl j)=(i==j):=by
 rw[Bool.eq_iff_iff];simp
theorem CA{i j:Str}:decide (V.str i=V.str j)=(i==j):=by
 rw[Bool.eq_iff_iff];simp
theorem CB{i j:Array UInt8}:decide (V.Cq i=V.Cq j)=(i.toList==j.toList):=by
 rw[Bool.eq_iff_iff]
 cases i
 cases j;simp
section
variable {X:Cx}{a b c:Expr}{ta tb tc:TE}{pos:Pos}
theorem bX{pins:List (Addr×Obj)}{σ:St}{H:Hp}{s:Shared}{Q:VK}{k a:Bool}(I:Inv X pins σ H s)(q:Q (.bl k) H)(e:k=a):EP X pins σ Q (.bool a) s:=by
 subst e;calc⟨.bl k,H,I,rfl,q⟩
theorem Vu:gK X (compareOp .Eq) rEq:=by
 intro e s σ H x y v u Q I d a h;obtain⟨c,q⟩:=h
 cases x with
 |bM=>
  cases d
  cases y with
  |bM=>cases a;calc PySem.EqNone.eq_none_none (bX I q nofun)
  |bl j=>cases a;calc PySem.EqNone.eq_none_bool (bX I q nofun)
  |int j=>obtain⟨b,rfl⟩:=a;calc PySem.EqNone.eq_none_int (bX I q nofun)
  |str j=>obtain⟨b,rfl⟩:=a;calc PySem.EqNone.eq_none_str (bX I q nofun)
  |_=>calc absurd (show false=true from c) T'
 |bl i=>
  cases d
  cases y with
  |bM=>cases a;calc PySem.EqNone.eq_bool_none (bX I q nofun)
  |bl j=>cases a;calc eq_bool (bX I q GO)
  |str j=>obtain⟨b,rfl⟩:=a;calc PySem.EqMixed.eq_bool_str (bX I q nofun)
  |_=>calc absurd (show false=true from c) T'
 |int i=>
  obtain⟨t,rfl⟩:=d
  cases y with
  |bM=>cases a;calc PySem.EqNone.eq_int_none (bX I q nofun)
  |int j=>obtain⟨b,rfl⟩:=a;calc eq_int (bX I q Cz)
  |str j=>obtain⟨b,rfl⟩:=a;calc PySem.EqMixed.eq_int_str (bX I q nofun)
  |_=>calc absurd (show false=true from c) T'
 |str i=>
  obtain⟨t,rfl⟩:=d
  cases y with
  |bM=>cases a;calc PySem.EqNone.eq_str_none (bX I q nofun)
  |bl j=>cases a;calc PySem.EqMixed.eq_str_bool (bX I q nofun)
  |int j=>obtain⟨b,rfl⟩:=a;calc PySem.EqMixed.eq_str_int (bX I q nofun)
  |str j=>obtain⟨b,rfl⟩:=a;calc eq_str (bX I q CA)
  |_=>calc absurd (show false=true from c) T'
 |Cq i=>
  obtain⟨t,rfl⟩:=d
  cases y with
  |Cq j=>obtain⟨b,rfl⟩:=a;calc W.eq_bytes (bX I q CB)
  |_=>calc absurd (show false=true from c) T'
 |_=>cases y<;>calc absurd (show false=true from c) T'
theorem Vv:gK X (compareOp .NotEq) rNe:=by
 intro e s σ H x y v u Q I d a h;obtain⟨c,q⟩:=h
 cases x with
 |bM=>
  cases d
  cases y with
  |bM=>cases a;calc PySem.EqNone.ne_none_none (bX I q nofun)
  |bl j=>cases a;calc PySem.EqNone.ne_none_bool (bX I q nofun)
  |int j=>obtain⟨b,rfl⟩:=a;calc PySem.EqNone.ne_none_int (bX I q nofun)
  |str j=>obtain⟨b,rfl⟩:=a;calc PySem.EqNone.ne_none_str (bX I q nofun)
  |_=>calc absurd (show false=true from c) T'
 |bl i=>
  cases d
  cases y with
  |bM=>cases a;calc PySem.EqNone.ne_bool_none (bX I q nofun)
  |bl j=>cases a;calc ne_bool (bX I q (congrArg not GO))
  |str j=>obtain⟨b,rfl⟩:=a;calc PySem.EqMixed.ne_bool_str (bX I q nofun)
  |_=>calc absurd (show false=true from c) T'
 |int i=>
  obtain⟨t,rfl⟩:=d
  cases y with
  |bM=>cases a;calc PySem.EqNone.ne_int_none (bX I q nofun)
  |int j=>obtain⟨b,rfl⟩:=a;calc ne_int (bX I q (congrArg not Cz))
  |str j=>obtain⟨b,rfl⟩:=a;calc PySem.EqMixed.ne_int_str (bX I q nofun)
  |_=>calc absurd (show false=true from c) T'
 |str i=>
  obtain⟨t,rfl⟩:=d
  cases y with
  |bM=>cases a;calc PySem.EqNone.ne_str_none (bX I q nofun)
  |bl j=>cases a;calc PySem.EqMixed.ne_str_bool (bX I q nofun)
  |int j=>obtain⟨b,rfl⟩:=a;calc PySem.EqMixed.ne_str_int (bX I q nofun)
  |str j=>obtain⟨b,rfl⟩:=a;calc ne_str (bX I q (congrArg not CA))
  |_=>calc absurd (show false=true from c) T'
 |Cq i=>
  obtain⟨t,rfl⟩:=d
  cases y with
  |Cq j=>obtain⟨b,rfl⟩:=a;calc W.ne_bytes (bX I q (congrArg not CB))
  |_=>calc absurd (show false=true from c) T'
 |_=>cases y<;>calc absurd (show false=true from c) T'
theorem Vw:gK X (compareOp .Lt) (L6 λi j=>.bl (decide (i<j))):=L7 λ_ _ _ _ _ _ _ q=>lt_int q
theorem Vx:gK X (compareOp .LtE) (L6 λi j=>.bl (decide (i<=j))):=L7 λ_ _ _ _ _ _ _ q=>le_int q
theorem Vy:gK X (compareOp .Gt) (L6 λi j=>.bl (decide (j<i))):=L7 λ_ _ _ _ _ _ _ q=>gt_int q
theorem Vz:gK X (compareOp .GtE) (L6 λi j=>.bl (decide (j<=i))):=L7 λ_ _ _ _ _ _ _ q=>ge_int q
theorem QO:gK X (compareOp .Is) (λx y H Q=>y=.bM/\Q (.bl (decide (x=.bM))) H):=by
 intro a s σ H x y v u Q I b c h;obtain⟨rfl,q⟩:=h
 cases c;refine is_none_gen (bX I q ?_)
 cases x<;>first
  |(cases b;rfl)
  |(obtain⟨t,rfl⟩:=b;rfl)
theorem Ma:gK X (compareOp .IsNot) (λx y H Q=>y=.bM/\Q (.bl (!decide (x=.bM))) H):=by
 intro a s σ H x y v u Q I b c h;obtain⟨rfl,q⟩:=h
 cases c;refine isnot_none_gen (bX I q ?_)
 cases x<;>first
  |(cases b;rfl)
  |(obtain⟨t,rfl⟩:=b;rfl)
theorem aE(b:Expr){op:CmpOp}(h:op≠.In:=by decide)(a:op≠.NotIn:=by decide):behindInMarks op b=false:=by
 have c:(op==CmpOp.In)=false:=by cases op<;>first|rfl|exact absurd rfl h
 have d:(op==CmpOp.NotIn)=false:=by cases op<;>first|rfl|exact absurd rfl a
 cases b<;>simp[behindInMarks,c,d]
theorem ij{r:R2}(c:gK X (compareOp op) r)(d:PE X a ta)(e:PE X b tb)(f:behindInMarks op b=false):PE X (.Compare a [op] [b] pos) (AI r ta tb):=by
 walk_at "xc";exact wpAny_Compare1 (QI d e I h λv u g x y i j k l q=>c pins g σ i x y v u Q j k l q) f
def CC(t:TE):TT:=λσ H Q=>t σ H λx a=>∃k,x=.bl k/\Q k a
theorem su{r:R2}(d:gK X (compareOp op) r)(f:PE X a ta)(g:PE X b tb)(i:behindInMarks op b=false):PT X (.Compare a [op] [b] pos) (CC (AI r ta tb)):=by
 walk_at "xc";refine wpAny_isTrue_Compare1 (dy (f pins s σ H _ I h) λv j ⟨x,k,l,m,n⟩=>dy (g pins j σ k _ l n) λu f ⟨y,o,p,q,r⟩=>
  dy (d pins f σ o x y v u _ p m q r) λc g ⟨z,t,w,A,k,e,B⟩=>?_) i
 subst e
 cases A;calc aar ⟨t,w,B⟩
def A9(r b:R2)(ta tb tc:TE):TE:=λσ H Q=>ta σ H λx a=>tb σ a λy c=>r x y c λz a=>∃k,z=.bl k/\
 (if k=true then tc σ a λw' c=>b y w' c Q else Q (.bl false) a)
theorem yK{d:CmpOp}{r f:R2}(m:gK X (compareOp op) r)(n:gK X (compareOp d) f)(o:PE X a ta)(p:PE X b tb)(q:PE X c tc)
  (t:lastMarks [op,d] [b,c]=false:=by with_unfolding_all rfl):PE X (.Compare a [op,d] [b,c] pos) (A9 r f ta tb tc):=by
 walk_at "xc";refine Compare_chain (dy (o pins s σ H _ I h) λv d ⟨x,f,r,w,z⟩=>chain_link (dy (p pins d σ f _ r z) λu o ⟨y,A,B,g,C⟩=>
  dy (m pins o σ A x y v u _ B w g C) λd D ⟨z,i,j,E,k,e,l⟩=>?_)) t
 subst e
 cases E;refine aar ?_
 cases k with
 |false=>calc ite_ff ⟨.bl false,i,j,rfl,l⟩
 |true=>calc ite_tt (chain_last (dy (q pins D σ i _ j l) λd e ⟨f,k,m,o,p⟩=>n pins e σ k y f u d Q m g o p))
theorem sX:(sizeLine:Nat)<2^63:=by rw[sizeLine_eq];decide
theorem Ba:gK X (binaryOp .Add) (λx y H Q=>∃i j,x=.str i/\y=.str j/\i.length+j.length<=sizeLine/\Q (.str (i++j)) H):=by
 intro a s σ H x y v u Q I b c h;obtain⟨i,j,rfl,rfl,d,q⟩:=h;obtain⟨t,rfl⟩:=b;obtain⟨e,rfl⟩:=c;calc add_str (λe a=>⟨.str (i++j),H,I.tok _,⟨_,rfl⟩,q⟩) d
theorem vals1{x:V}{us:List Value}(r:Vals [x] us):∃u,us=[u]/\RelV x u:=by
 cases r with
 |cons a b=>cases b;calc⟨_,rfl,a⟩
theorem vals2{x y:V}{us:List Value}(r:Vals [x,y] us):∃u w',us=[u,w']/\RelV x u/\RelV y w':=by
 cases r with
 |cons a b=>
  cases b with
  |cons c d=>cases d;calc⟨_,_,rfl,a,c⟩
theorem EH(b:X.calm=true):eQ X (.builtin "max") (λxs H Q=>∃i j,xs=[.int i,.int j]/\Q (.int (if j > i then j else i)) H):=by
 intro a s σ H xs c Q I r h;obtain⟨i,j,rfl,q⟩:=h;obtain⟨u,d,rfl,⟨t,rfl⟩,⟨e,rfl⟩⟩:=vals2 r;refine max_two_ints (I.ok.hd b) λa c k=>⟨_,H,I.kept k,?_,q⟩
 by_cases a:j > i
 ·rw[if_pos a,if_pos a];exact⟨_,rfl⟩
 ·rw[if_neg a,if_neg a];calc⟨_,rfl⟩
theorem vI:eQ X (.type "int") (λxs H Q=>(∃i,xs=[.int i]/\Q (.int i) H)\/∃k,xs=[.bl k]/\Q (.int (if k then 1 else 0)) H):=by
 intro a s σ H xs c Q I r h;rcases h with⟨i,rfl,q⟩|⟨k,rfl,q⟩
 ·obtain⟨u,rfl,t,rfl⟩:=vals1 r;exact call_int_int ⟨.int i,H,I,⟨_,rfl⟩,q⟩
 ·obtain⟨u,rfl,b⟩:=vals1 r
  cases b;calc call_int_bool ⟨.int (if k then 1 else 0),H,I.tok _,⟨_,rfl⟩,q⟩
def GP(K:W.Frag)(x:V)(H:Hp)(n:Nat):Prop:=
 match x with
 | .str y=>y.length<=sizeLine/\n=y.length
 | .Cq y=>y.size<=sizeLine/\n=y.size
 | .ref p=>(∃xs,aM K H p xs/\n=xs.length)\/∃xs,bG K H p xs/\n=xs.length
 |_=>False
theorem GQ:eQ X (.builtin "len") (λxs H Q=>∃x n,xs=[x]/\GP X.K x H n/\Q (.int n) H):=by
 intro i s σ H xs m Q I r h;obtain⟨x,n,rfl,e,q⟩:=h;obtain⟨u,rfl,c⟩:=vals1 r;have h:=sX;have h:sizeLine=16777216:=sizeLine_eq
 cases x with
 |str y=>
  obtain⟨t,rfl⟩:=c;obtain⟨j,b⟩:y.length<=sizeLine/\n=y.length:=e;subst b;calc len_str () ⟨.int _,H,I.tok _,⟨_,rfl⟩,q⟩
 |Cq y=>
  obtain⟨t,rfl⟩:=c;obtain⟨j,b⟩:y.size<=sizeLine/\n=y.size:=e;subst b;calc W.len_bytes () ⟨.int _,H,I.tok _,⟨_,rfl⟩,q⟩
 |ref p=>
  cases c;have b:(∃xs,aM X.K H p xs/\n=xs.length)\/∃xs,bG X.K H p xs/\n=xs.length:=e;rcases b with⟨xs,d,b⟩|⟨xs,d,b⟩
  ·subst b;obtain⟨k,f,g,l⟩:=I.list d;have a:=f.length;exact Calls.call_len_list g.isList (by simp only[List.size_toArray];lia) ⟨.int xs.length,H,I.tok _,⟨_,by simp only[List.size_toArray];rw[a]⟩,q⟩
  ·subst b;obtain⟨k,f,g,l⟩:=I.tuple d;have a:=f.length;calc len_tuple g (by simp only[List.size_toArray];lia) ⟨.int xs.length,H,I.tok _,⟨_,by simp only[List.size_toArray];rw[a]⟩,q⟩
 |_=>calc(show False from e).elim
end
end
section
variable {C:Addr}{mA:Str->Option Value}{Q:Value->Shared->Prop}
structure Bb(h:Heap)(x dx C:Addr)(mA:Str->Option Value):Prop where
 obj:h.get? x=some (W.instObj C dx)
 ns:h.Ns1 dx mA
 ne:dx≠x
theorem EI{h:Heap}{c:Addr}(n:h.Ns1 c mA):∃d,h.get? c=some d/\∀name,W.lookIn name d=some (mA name):=by
 obtain⟨o,f,p,g,i,j,_,k⟩:=n;calc⟨o,g,λname=>?_⟩;have e:=k name;unfold nsFind findBy at e;rw[<-Array.find?_toList]at e;unfold W.lookIn;rw[i];dsimp only;split
 ·rename_i y q;rw[q]at e;exact congrArg some e
 ·rename_i q;rw[q]at e;have a:f.toList.any (·.refKey)=false:=by
   rw[List.any_eq_false];intro y l;obtain⟨z,t,b⟩:=j y (Array.mem_toList_iff.mp l);simp[DictEntry.refKey,b]
  have m:¬f.toList.any (·.refKey)=true:=by rw[a];exact T'
  rw[if_neg m];calc congrArg some e
theorem Bb.look{h:Heap}{x b:Addr}(I:Bb h x b C mA):∃a,W.InstAt h x (W.instObj C b) C (some a)/\∀name,W.lookIn name a=some (mA name):=
 let ⟨a,b,c⟩:=EI I.ns
 ⟨a,⟨I.obj,rfl,rfl,b⟩,c⟩
section
variable {prog:Program}{w:World}{A:Around}{E:Value->Shared->Prop}{s:Shared}{K:W.Frag}{x dx C f:Addr}{mA:Str->Option Value}{name:Str}{v:Value}
theorem get_map{a:Bool}(X:K.In s.heap)(I:Bb s.heap x dx C mA)(c:W.plainGet K C name=true)(d:W.hasDictIn K C=true)
  (e:W.findIn K (.ref C) name=some none) (f:mA name=some v) (b:W.handedIn v=true) (h:Q v {s with toks:=s.toks+1}):
  wpAny (model prog w) A (getAttr (.ref x) name a) Q E s:=by
 obtain⟨g,J,a⟩:=I.look;calc W.get_value X J (W.plainGet_of c).1 (W.findObj_own d e rfl (by rw[a,f])) b h
theorem GR{pl:Sem Bool}{Q:Value×List Value->Shared->Prop}(X:K.In s.heap)(I:Bb s.heap x dx C mA)(a:W.plainGet K C name=true)
  (b:W.findIn K (.ref C) name=some (some (.ref f))) (c:W.isFn K (.ref f)=true) (d:mA name=none) (h:Q (.ref f,[.ref x]) s):
  wpAny (model prog w) A (getMethod (.ref x) name pl) Q E s:=by
 obtain⟨e,J,g⟩:=I.look;calc W.method_fn X J (W.plainGet_of a).1 (W.plainGet_of a).2 b (beq_iff_eq.mp c) (by show(W.lookIn name e).map (·.isSome)=some false;rw[g,d];rfl) h
theorem Mb{ns:List Str}{Q:Unit->Shared->Prop}(X:K.In s.heap)(I:Bb s.heap x dx C mA)
  (b:W.findIn K (.ref C) "__setattr__"=some (some (.builtin "object.__setattr__"))) (c:W.plainOver K C=true) (d:W.takerIn K C name=some none) (e:W.hasDictIn K C=true)
  (i:PySem.Within mA ns) (hsz:ns.length<=sizeLine)
  (h:∀h',Bb h' x dx C (λy=>if y=name then some v else mA y)->Heap.SameBut dx s.heap h'->Q ⟨⟩ {s with heap:=h',toks:=s.toks+2}):
  wpAny (model prog w) A (setAttr (.ref x) name v) Q E s:=by
 obtain⟨g,J,j⟩:=I.look;calc W.set_plain X J b (W.osa_open (s:={s with toks:=s.toks+1}) (r:=none) X J c d λb=>?_);obtain⟨d,b,c⟩:=W.any_some e;have d:s.heap.get? x=some ⟨.ref C,some dx,.plain,#[]⟩:=I.obj;calc A' (K' (A' (A' (wpAny_loadPart d (A' (W.Looks.here (s:={s with toks:=s.toks+1}) (W.looks_clsIn X b) ?_))))));rw[c];calc K' (a:=some dx) (A' (K' (A' ?_)));calc wpAny_nsSet1 (s:={s with toks:=s.toks+1}) I.ns λh' e g=>?_;obtain⟨l,j,k,b,c,d⟩:=e.count (PySem.Within.cons name v i);calc A' (wpAny_lookBehind b (by rw[c];calc pastItsLine_dict (aaa d (by rw[List.length_cons];lia))) ?_);calc K' (h _ ⟨(g.2 _ (Ne.symm I.ne)).trans I.obj,e,I.ne⟩ g)
theorem GS{R:Result->Shared->Prop}{vs:List Value}{a:List (Str×Value)}(X:K.In s.heap)(b:W.makesIn K C=true)
  (c:W.findIn K (.ref C) "__init__"=some (some (.ref f))) (e:W.typeIn K (.ref f)=some (.type "function"))
  (h:codeAny (model prog w) (A.under (.builtin "type.__call__" ⟨.ref C::vs,a⟩)) (.call (.ref f) ⟨.ref (s.heap.objs.size + 1)::vs,a⟩) (W.InitBack (s.heap.objs.size + 1) R)
   {s with heap:=(s.heap.push W.emptyDict).push (W.instObj C s.heap.objs.size)}):
  codeAny (model prog w) A (.call (.ref C) ⟨vs,a⟩) R s:=by
 obtain⟨a,g,d,t,i⟩:=s;calc W.make_core (W.makes_of X b) (W.looks_findIn X c) (λa=>W.bind_fn X a e) (.inl rfl) h
end
def bO(f:Str)(v:V):List (Str×V)->List (Str×V)
 | []=>[(f,v)]
 |(g,x)::r=>if g=f then(g,v)::r else(g,x)::bO f v r
theorem bx(f g:Str)(v:V):∀a:List (Str×V),(bO f v a).lookup g=if g=f then some v else a.lookup g
 | []=>by
  show List.lookup g [(f,v)]=_;by_cases h:g=f
  ·have a:(g==f)=true:=beq_iff_eq.mpr h;simp only[List.lookup,a,if_pos h]
  ·have a:(g==f)=false:=beq_eq_false_iff_ne.mpr h;simp only[List.lookup,a,if_neg h]
 |(k,x)::r=>by
  have c:=bx f g v r;rw[show bO f v ((k,x)::r)=(if k=f then(k,v)::r else(k,x)::bO f v r) from rfl];by_cases b:k=f
  ·rw[if_pos b];by_cases h:g=k
   ·have a:(g==k)=true:=beq_iff_eq.mpr h;simp only[List.lookup,a,if_pos (h.trans b)]
   ·have a:(g==k)=false:=beq_eq_false_iff_ne.mpr h;simp only[List.lookup,a,if_neg (λe:g=f=>h (e.trans b.symm))]
  ·rw[if_neg b];by_cases h:g=k
   ·have a:(g==k)=true:=beq_iff_eq.mpr h;simp only[List.lookup,a,if_neg (λe:g=f=>b (h.symm.trans e))]
   ·have a:(g==k)=false:=beq_eq_false_iff_ne.mpr h;simp only[List.lookup,a];calc c
theorem qc(f:Str)(v:V):∀a:List (Str×V),f∈(bO f v a).map (·.1)/\∀g,g∈a.map (·.1)->g∈(bO f v a).map (·.1)
 | []=>⟨by simp[bO],λg h=>by simp at h⟩
 |(k,x)::r=>by
  obtain⟨c,d⟩:=qc f v r;rw[show bO f v ((k,x)::r)=(if k=f then(k,v)::r else(k,x)::bO f v r) from rfl];by_cases b:k=f
  ·rw[if_pos b];subst b;exact⟨nofun,λg h=>by simpa using h⟩
  ·rw[if_neg b];refine⟨?_,λg h=>?_⟩
   ·rw[List.map_cons];exact V' _ c
   ·rw[List.map_cons] at h ⊢;rcases List.mem_cons.mp h with e | e
    ·exact List.mem_cons.mpr (.inl e)
    ·calc V' _ (d g e)
theorem lM(f:Str)(v:V):∀a:List (Str×V),(bO f v a).length<=a.length+1
 | []=>by simp[bO]
 |(k,x)::r=>by
  have a:=lM f v r;rw[show bO f v ((k,x)::r)=(if k=f then(k,v)::r else(k,x)::bO f v r) from rfl];by_cases a:k=f
  ·rw[if_pos a,List.length_cons,List.length_cons];lia
  ·rw[if_neg a,List.length_cons,List.length_cons];lia
theorem nj.some_of{v:V}{o:Option Value}(r:nj (some v) o):∃u,o=some u/\RelV v u:=by
 cases o with
 |none=>calc(show False from r).elim
 |some u=>calc⟨u,rfl,r⟩
theorem nj.none_of{o:Option Value}(r:nj none o):o=none:=by
 cases o with
 |none=>rfl
 |some u=>calc(show False from r).elim
theorem EJ{v:V}{u:Value}(r:RelV v u):W.handedIn u=true:=by
 cases v with
 |bM=>cases(show u=Value.none from r);rfl
 |bl b=>cases(show u=Value.bool b from r);rfl
 |int i=>obtain⟨t,e⟩:=(show ∃t,u=Value.int i t from r);cases e;rfl
 |str x=>obtain⟨t,e⟩:=(show ∃t,u=Value.str x t from r);cases e;rfl
 |Cq b=>obtain⟨t,e⟩:=(show ∃t,u=Value.bytes b t from r);cases e;rfl
 |Ol b=>obtain⟨t,e⟩:=(show ∃t,u=Value.float b t from r);cases e;rfl
 |ref a=>cases(show u=Value.ref a from r);rfl
 |ty n=>cases(show u=Value.type n from r);rfl
section
variable {P:Program}{w:World}{H H':Hp}{h h':Heap}{a C dx:Addr}{fs vF:List (Str×V)}
theorem oZ(b:nN P w H h)(e:H a=some (.ins C dx fs)):∃mA,Bb h a dx C mA/\(∀f,nj (fs.lookup f) (mA f))/\PySem.Within mA (fs.map (·.1))/\fs.length<=1000/\H dx=some (.own a):=by
 obtain⟨d,z,c,f,mA,n,r,q⟩:=(show cC P w H h a (.ins C dx fs) from b a _ e)
 calc⟨mA,⟨f,n,c⟩,r,q,z,d⟩
end
structure uW(K:W.Frag)(C:Addr):Prop where
 pg:W.plainGet K C Str.empty=true
 hd:W.hasDictIn K C=true
 po:W.plainOver K C=true
 sa:W.findIn K (.ref C) "__setattr__"=some (some (.builtin "object.__setattr__"))
theorem uW.get{K:W.Frag}(c:uW K C)(f:Str):W.plainGet K C f=true:=c.pg
def cH(K:W.Frag)(C:Addr)(f:Str):Prop:=W.findIn K (.ref C) f=some none
theorem cH.VA{K:W.Frag}{f:Str}(n:cH K C f):W.takerIn K C f=some none:=by
 unfold W.takerIn;rw[show W.findIn K (.ref C) f=some none from n];rfl
structure Meth(K:W.Frag)(C:Addr)(m:Str)(f:Addr):Prop where
 at_:W.findIn K (.ref C) m=some (some (.ref f))
 fn:W.isFn K (.ref f)=true
 kp:W.keepIn K (.ref f)=true
section
variable {X:Cx}{pins:List (Addr×Obj)}{σ:St}{H:Hp}{s:Shared}{a C dx:Addr}{fs:List (Str×V)}{f:Str}{v:V}{A:Around}{E:Value->Shared->Prop}
theorem Bc{b:Bool}(I:Inv X pins σ H s)(e:H a=some (.ins C dx fs))(c:uW X.K C)(n:cH X.K C f)(l:fs.lookup f=some v)
  (h:∀u s',Inv X pins σ H s'->RelV v u->Q u s'):wpAny (model X.prog X.w) A (getAttr (.ref a) f b) Q E s:=by
 obtain⟨mA,O,r,_,_,_⟩:=oZ I.aY e;obtain⟨u,d,b⟩:=nj.some_of (v:=v) (o:=mA f) (by rw[<-l];calc r f);calc get_map I.k7 O (c.get f) c.hd n d (EJ b) (h u _ (I.tok _) b)
theorem sY{m:Str}{g:Addr}{pl:Sem Bool}{Q:Value×List Value->Shared->Prop}(I:Inv X pins σ H s)(e:H a=some (.ins C dx fs))(c:uW X.K C)(k:Meth X.K C m g)(l:fs.lookup m=none)
  (h:Q (.ref g,[.ref a]) s):wpAny (model X.prog X.w) A (getMethod (.ref a) m pl) Q E s:=by
 obtain⟨mA,O,r,_,_,_⟩:=oZ I.aY e;have b:mA m=none:=nj.none_of (by rw[<-l];calc r m);calc GR I.k7 O (c.get m) k.at_ k.fn b h
theorem Bd{y:V}{u:Value}{Q:Unit->Shared->Prop}(I:Inv X pins σ H s)(e:H a=some (.ins C dx fs))(c:uW X.K C)(n:cH X.K C f)(b:fs.length<1000)(k:RelV y u)
  (h:∀s',Inv X pins σ (upd H a (.ins C dx (bO f y fs))) s'->Q ⟨⟩ s'):wpAny (model X.prog X.w) A (setAttr (.ref a) f u) Q E s:=by
 obtain⟨mA,O,r,i,_,j⟩:=oZ I.aY e;have b:(fs.map (·.1)).length<=sizeLine:=by rw[aaC,sizeLine_eq];lia
 calc Mb I.k7 O c.sa c.po n.VA c.hd i b λg d l=>h _ ?_;have hd:∃o,g.get? dx=some o:=let ⟨o,_,_,b,_⟩:=d.ns;⟨o,b⟩
 calc I.write (x:=a) (e:=dx) (by rw[e];calc aaf) (.inr j) (λb q c z=>(l.2 b c).trans z) hd ?_;refine⟨by rw[av O.ne];calc j,?_,O.ne,d.obj,_,d.ns,λg=>?_,λg b=>?_⟩
 ·have:=lM f y fs;lia
 ·show nj ((bO f y fs).lookup g) (if g=f then some u else mA g);rw[bx];by_cases q:g=f
  ·rw[if_pos q,if_pos q];exact k
  ·rw[if_neg q,if_neg q];exact r g
 ·by_cases q:g=f
  ·rw[q];exact(qc f y fs).1
  ·calc(qc f y fs).2 g (i g λz=>b ?_);show(if g=f then some u else mA g)=none;rw[if_neg q];calc z
theorem Inv.made(I:Inv X pins σ H s):Inv X pins σ (upd (upd H s.heap.objs.size (.own (s.heap.objs.size+1))) (s.heap.objs.size+1) (.ins C s.heap.objs.size []))
  {s with heap:=(s.heap.push W.emptyDict).push (W.instObj C s.heap.objs.size)}:=by
 have c:(s.heap.push W.emptyDict).get? s.heap.objs.size=some W.emptyDict:=P' s.heap rfl;have d:((s.heap.push W.emptyDict).push (W.instObj C s.heap.objs.size)).get? (s.heap.objs.size+1)=some (W.instObj C s.heap.objs.size):=by
  have:=P' (s.heap.push W.emptyDict) (o:=W.instObj C s.heap.objs.size) rfl;rwa [Heap.size_push]at this
 have f:(s.heap.push W.emptyDict).Ns s.heap.objs.size (λ_=>none):=⟨W.emptyDict,#[],_,c,rfl,(λe b=>absurd b nofun),λ_=>rfl⟩
 have e:=I.laid (a:=s.heap.objs.size) (o:=.own (s.heap.objs.size+1)) (h':=s.heap.push W.emptyDict) (t':=s.toks) (λb u q=>F' _ q) (E' _) ⟨_,c⟩;calc e.laid (a:=s.heap.objs.size+1) (o:=.ins C s.heap.objs.size []) (t':=s.toks) (λb u q=>F' _ q) (Nat.le_of_eq (Heap.size_push _ _)) ?_;have b:s.heap.objs.size≠s.heap.objs.size+1:=Y' (Nat.lt_succ_self _);calc⟨by rw[av b,ab],U' _,b,d,λ_=>none,(Heap.Ns1.of_empty f).at λo q=>F' _ q,λ_=>aaf,λy b=>absurd rfl b⟩
theorem Mc{prog:Program}{w:World}{env:Env}{e:Expr}{f:Str}{b:Pos}{s:Shared}(c:attributeBase e f env (eval e env)=eval e env)
  (h:wpAny (model prog w) A (eval e env) (λo a=>wpAny (model prog w) A (getAttr o f true) Q E a) E s):wpAny (model prog w) A (eval (.Attribute e f b) env) Q E s:=
 Attribute_any_ h (by rw[arm_eval_Attribute,c])
end
def Md(K:W.Frag)(a:TE)(f:Str):TE:=λσ H Q=>a σ H λx b=>∃a C d c v,x=.ref a/\b a=some (.ins C d c)/\uW K C/\cH K C f/\c.lookup f=some v/\Q v b
def QP(K:W.Frag)(a b:TE)(f:Str):TS:=λD σ H=>b σ H λy d=>a σ d λx c=>∃a C d b,x=.ref a/\c a=some (.ins C d b)/\uW K C/\cH K C f/\b.length<1000/\
 D.nx σ (upd c a (.ins C d (bO f y b)))
section
variable {X:Cx}{o e value:Expr}{f:Str}{pos pos' QQ:Pos}{ta tv:TE}
theorem bJ(he:PE X e ta)(b:attributeBase e f X.env (eval e X.env)=eval e X.env):PE X (.Attribute e f pos) (Md X.K ta f):=by
 walk_at "xc";refine Mc b (dy (he pins s σ H _ I h) λu o d=>?_);obtain⟨x,g,i,j,a,C,b,o,v,k,m,c,n,l,q⟩:=d;subst k;obtain rfl:u=Value.ref a:=j;exact Bc i m c n l λd k a b=>⟨v,g,a,b,q⟩
theorem fN(b:PE X o ta)(d:PE X value tv)(e:swapsWith value (some (.Attribute o f pos')) pos.line X.env=pure false):PS X (.Assign [.Attribute o f pos'] value pos) (QP X.K ta tv f):=by
 walk_at "xd";refine plainObj_wpAny_Assign_Attribute (dy (d pins s σ H _ I h) λu g ⟨y,i,j,k,q⟩=>dy (b pins g σ i _ j q) λm d p=>?_) e;obtain⟨x,b,r,t,a,C,d,g,v,w,c,n,l,z⟩:=p;subst v;obtain rfl:m=Value.ref a:=t;exact Bd r w c n l k λb a=>⟨σ,_,a,z⟩
end
section
variable {X:Cx}{pins:List (Addr×Obj)}{σ:St}{H:Hp}{s:Shared}{A:Around}{E:Value->Shared->Prop}{Q:Value->Shared->Prop}{c:Value}{b:Bool}
inductive gT(K:W.Frag)(H:Hp):V->Value->Prop where
  |bM:gT K H .bM (.type "NoneType")
  |bl (x:Bool):gT K H (.bl x) (.type "bool")
  |int (i:Int):gT K H (.int i) (.type "int")
  |str (x:Str):gT K H (.str x) (.type "str")
  |Ol (x:UInt64):gT K H (.Ol x) (.type "float")
  |lst {a:Addr} {xs:List V} (e:H a=some (.lst xs)):gT K H (.ref a) (.type "list")
  |AG {a:Addr} {o:Obj} {xs:List V} (e:H a=some (.AG o (.lst xs))):gT K H (.ref a) (.type "list")
  |tup {a:Addr} {xs:List V} (e:H a=some (.tup xs)):gT K H (.ref a) (.type "tuple")
  |dK {a:Addr} {bf:List (Key×V)} (e:H a=some (.dK bf)):gT K H (.ref a) (.type "dict")
  |dT {a:Addr} {bf:List (List Key×V)} (e:H a=some (.dT bf)):gT K H (.ref a) (.type "dict")
  | ins {a C dx:Addr} {fs:List (Str×V)} (e:H a=some (.ins C dx fs)) (cl:uW K C) (ha:W.findIn K (.ref C) "__class__"=some (some (.builtin "object.__class__")))
      (hn:W.specialIn K (.builtin "object.__class__") "__get__"=some (some (.builtin "getset_descriptor.__get__"))) (Z5:W.takesIn K (.builtin "object.__class__")=some true)
      (hm:W.mroIn K C (.type "object")=some true):gT K H (.ref a) (.ref C)
theorem vJ{x:V}{u t:Value}(I:Inv X pins σ H s)(d:RelV x u)(r:gT X.K H x t)(e:W.kitOne X.K t c=some b)(h:∀v,Q (.bool b) {s with toks:=v}):
  wpAny (model X.prog X.w) A (call (.builtin "isinstance") [u,c]) Q E s:=by
 cases r with
 |bM=>cases(show u=Value.none from d);calc W.kia_one W.kitx_none I.k7 aaf e (λz=>nomatch z) h
 |bl y=>cases(show u=Value.bool y from d);calc W.kia_one W.kitx_bool I.k7 aaf e (λz=>nomatch z) h
 |int i=>obtain⟨t,q⟩:=(show ∃t,u=Value.int i t from d);cases q;calc W.kia_one W.kitx_int I.k7 aaf e (λz=>nomatch z) h
 |str y=>obtain⟨t,q⟩:=(show ∃t,u=Value.str y t from d);cases q;calc W.kia_one W.kitx_str I.k7 aaf e (λz=>nomatch z) h
 |Ol y=>obtain⟨t,q⟩:=(show ∃t,u=Value.float y t from d);cases q;calc W.kia_one W.kitx_float I.k7 aaf e (λz=>nomatch z) h
 | @lst a j f=>
  cases(show u=Value.ref a from d);obtain⟨_,_,n,_,g⟩:=(show cC X.prog X.w H s.heap a (.lst j) from I.aY a _ f)
  calc W.kia_one W.kitx_list I.k7 ⟨_,g,rfl⟩ e (λz=>nomatch z) h
 | @AG a B j f=>
  cases(show u=Value.ref a from d);obtain⟨_,_,_,n,_,g⟩:=(show cC X.prog X.w H s.heap a (.AG B (.lst j)) from I.aY a _ f)
  calc W.kia_one W.kitx_list I.k7 ⟨_,g,rfl⟩ e (λz=>nomatch z) h
 | @tup a j f=>
  cases(show u=Value.ref a from d);obtain⟨_,_,_,p⟩:=(show cC X.prog X.w H s.heap a (.tup j) from I.aY a _ f)
  obtain⟨o,g,k,_⟩:=p;calc W.kia_one W.kitx_tuple I.k7 ⟨o,g,k⟩ e (λz=>nomatch z) h
 | @dK a l f=>
  cases(show u=Value.ref a from d);obtain⟨_,_,i,_,p⟩:=(show cC X.prog X.w H s.heap a (.dK l) from I.aY a _ f)
  obtain⟨o,D,F,g,k,_⟩:=p;calc W.kia_one W.kitx_dict I.k7 ⟨o,g,k.1⟩ e (λz=>nomatch z) h
 | @dT a l f=>
  cases(show u=Value.ref a from d);obtain⟨_,_,j,_,o,D,F,g,k,_⟩:=(show cC X.prog X.w H s.heap a (.dT l) from I.aY a _ f)
  calc W.kia_one W.kitx_dict I.k7 ⟨o,g,k.1⟩ e (λz=>nomatch z) h
 | @ins a C g i f m G L M N=>
  cases(show u=Value.ref a from d);obtain⟨mA,O,_⟩:=oZ I.aY f;obtain⟨a,J,_⟩:=O.look;calc W.kia_one (W.kitx_own (m.get _) m.hd G L M N) I.k7 J e (λz=>nomatch z) h
end
end
section
variable {A:Around}{base:Heap}{H:Hp}{kw:List (Str×Value)}{us:List Value}{s:Shared}{mg:Str->Option Value}{K:W.Frag}
structure fe(k:Nat)(A:Around):Prop where
 hd:A.handled=none
 dp:A.depth+3*k+5<recursionLimit
 un:A.units+16*k+200<cLine
theorem fe.mono{j k:Nat}(r:fe k A)(h:j<=k):fe j A:=⟨r.hd,by have:=r.dp;lia,by have:=r.un;lia⟩
theorem fe.deeper{k:Nat}(r:fe (k+1) A)(env:Env):fe k (A.deeper env):=
 ⟨r.hd,by have:=r.dp;show A.depth+1+3*k+5<_;lia,by have:=r.un;show A.units+3+16*k+200<_;lia⟩
theorem Be{C:Addr}:(A.under (.builtin "type.__call__" ⟨.ref C::us,kw⟩)).depth=A.depth+1:=by
 first|rfl|simp[Around.under,Code.weight,Code.isCreation,Code.isGuard,Code.isCaller,Code.frames,Code.isFrame,guardIds]
theorem Bf{C:Addr}:(A.under (.builtin "type.__call__" ⟨.ref C::us,kw⟩)).units=A.units+1:=by
 first|rfl|simp[Around.under,Code.cUnits,Code.frames,Code.isFrame]
theorem fe.make{k:Nat}(r:fe (k+1) A)(C:Addr)(us:List Value)(kw:List (Str×Value)):fe k (A.under (.builtin "type.__call__" ⟨.ref C::us,kw⟩)):=
 ⟨r.hd,by have:=r.dp;rw[Be];lia,by have:=r.un;rw[Bf];lia⟩
theorem fe.depth{k:Nat}(r:fe k A):A.depth<recursionLimit:=by have:=r.dp;lia
theorem fe.units{k:Nat}(r:fe k A):A.units+64<cLine:=by have:=r.un;lia
def Bg:TA:=λ_ H Q=>Q [] H
def vK(a:TE)(b:TA):TA:=λσ H Q=>a σ H λx c=>b σ c λxs a=>Q (x::xs) a
section
variable {X:Cx}{e:Expr}{es:List Expr}{te:TE}{t:TA}{pos:Pos}
theorem aa:PA X [] Bg:=.mk λ_ _ _ _ H Q I h=>Calls.spliced_nil ⟨[],H,I,.nil,h⟩
theorem Me(b:PE X e te)(c:PA X es t)(d:starEach (e::es) X.env=(false,eval e X.env)::starEach es X.env:=by rfl):PA X (e::es) (vK te t):=by
 calc⟨?_⟩;intro pos a s σ H Q I h;rw[d];show wpAny _ _ (spliced ((false,eval e X.env)::backTo pos (starEach es X.env))) _ _ s;calc Calls.spliced_cons (dy (b a s σ H _ I h) λu f g=>?_);obtain⟨x,b,d,h,i⟩:=g;calc dy (c pos a f σ b _ d i) λus o ⟨j,k,l,m,n⟩=>⟨x::j,k,l,.cons h m,n⟩
def QR(t:TA):TE:=λσ H Q=>t σ H λxs a=>xs.length<=sizeLine/\∀p,a p=none->Q (.ref p) (upd a p (.tup xs))
def QS(t:TA):TE:=λσ H Q=>t σ H λxs a=>xs.length<=sizeLine/\∀p,a p=none->Q (.ref p) (upd a p (.lst xs))
theorem bD{a}(h:PA X es t):PE X (.Tuple es a pos) (QR t):=by
 calc⟨?_⟩;intro a s σ H Q I f;calc wpAny_Tuple_spliced (dy (h pos a s σ H _ I f) λus c ⟨g,b,d,r,z,q⟩=>⟨by rw[<-r.length];calc z,?_⟩);have a:b c.heap.objs.size=none:=d.aY.fresh (E' _);calc⟨.ref c.heap.objs.size,upd b c.heap.objs.size (.tup g),d.laid (t':=c.toks) (λb u e=>F' _ e) (E' _) ?_,rfl,q _ a⟩;calc⟨z,us,r,⟨_,P' _ rfl,rfl,_,rfl⟩⟩
theorem bA(h:PA X es t):PE X (.List es pos) (QS t):=by
 calc⟨?_⟩;intro a s σ H Q I f;calc wpAny_List_spliced (dy (h pos a s σ H _ I f) λus c ⟨g,b,d,r,z,q⟩=>⟨by rw[<-r.length];calc z,?_⟩);have a:b c.heap.objs.size=none:=d.aY.fresh (E' _);calc⟨.ref c.heap.objs.size,upd b c.heap.objs.size (.lst g),d.laid (t':=c.toks) (λb u e=>F' _ e) (E' _) ?_,rfl,q _ a⟩;calc⟨z,us,0,r,P' _ rfl⟩
end
abbrev Sp:=List V->Hp->VK->XK->Prop
abbrev Ln:=List Env->Hp->Shared->XK->Value->Shared->Prop
structure Bh(P:Program)(w:World)(K:W.Frag)(mg:Str->Option Value)(base:Heap)(A:Around)(outer:List Env)(s:Shared)(H:Hp):Prop where
 frames:A.frames=some outer
 mod:Mod K mg base
 bs:∀b o,base.get? b=some o->s.heap.get? b=some o/\H b=none
 Gw:base.objs.size<=s.heap.objs.size
 p9:s.heap.FunFrames base outer
 Om:∀b∈Ez outer,H b=none
 aY:nN P w H s.heap
 bare:AllBare s.gens
def CE(outer:List Env)(P:Program)(w:World)(H:Hp)(s:Shared)(Q:VK)(u:Value)(s':Shared):Prop:=
 ∃v a,s'.os=s.os/\AllBare s'.gens/\Un (Ez outer) [] H a s.heap s'.heap/\nN P w a s'.heap/\RelV v u/\Q v a
def CR(CX:Ln)(outer:List Env)(P:Program)(w:World)(H:Hp)(s:Shared)(Q:VK)(E:XK)(r:Result)(s':Shared):Prop:=
 match r with
 | .ok (.ret u)=>CE outer P w H s Q u s'
 | .ok _=>False
 | .error e=>CX outer H s E e s'
structure nr(P:Program)(w:World)(K:W.Frag)(mg:Str->Option Value)(base:Heap)(CX:Ln)(k:Nat)(f:Addr)(fd:FuncData)(ps:List Str)(sp:Sp):Prop where
 len:∀vs H Q E,sp vs H Q E->vs.length=ps.length
 run:∀(A:Around) (outer:List Env) (s:Shared) (H:Hp) (args:Args) (us:List Value) (vs:List V) (Q:VK) (E:XK),fe k A->Bh P w K mg base A outer s H->BindsTo s fd args (ps.zip us)->Vals vs us->sp vs H Q E->
  codeAny (model P w) A (.call (.ref f) args) (CR CX outer P w H s Q E) s
theorem Bh.make{P:Program}{w:World}{outer:List Env}(e:Bh P w K mg base A outer s H)(C:Addr)(us:List Value)(kw:List (Str×Value)):
  Bh P w K mg base (A.under (.builtin "type.__call__" ⟨.ref C::us,kw⟩)) outer s H:=⟨by first|exact e.frames|(simpa[Around.under,Code.envs,Code.isFrame,pushEnvs] using e.frames),e.mod,e.bs,e.Gw,e.p9,e.Om,e.aY,e.bare⟩
section
variable {X:Cx}{pins:List (Addr×Obj)}{σ:St}{H:Hp}{s s':Shared}
theorem Inv.VB(I:Inv X pins σ H s):Bh X.prog X.w X.K X.mg X.base X.A X.stack s H:=
 ⟨I.ok.frames,I.ok.mod,I.bs,aaa I.ok.Gw I.sz,I.stack,I.Cs,I.aY,I.bare⟩
theorem Inv.after{Q:VK}{u:Value}(I:Inv X pins σ H s)(h:CE X.stack X.prog X.w H s Q u s'):EP X pins σ Q u s':=by
 obtain⟨v,c,os,a,e,f,r,q⟩:=h;obtain⟨i,g,d,t,b⟩:=s';obtain rfl:b=s.os:=os;calc⟨v,c,I.call (h':=i) (g':=g) (d':=d) (t':=t) (ch:=[]) e f a (λb z=>absurd z nofun),r,q⟩
end
def vL(sp:Sp)(a:List V)(E:XK)(t:TA):TE:=λσ H Q=>t σ H λvs b=>sp (vs++a) b Q E
def vM(C:Addr)(m:Str)(sp:Sp)(d:List V)(E:XK)(a:TE)(t:TA):TE:=λσ H Q=>a σ H λx b=>∃a e c,x=.ref a/\b a=some (.ins C e c)/\c.lookup m=none/\
 t σ b λvs a=>sp (x::(vs++d)) a Q E
def CF(C:Addr)(sp:Sp)(c:List V)(E:XK)(t:TA):TE:=λσ H Q=>t σ H λvs b=>∀x a,b x=none->b a=none->a≠x->
 sp (.ref x::(vs++c)) (upd (upd b a (.own x)) x (.ins C a [])) (λv d=>v=.bM/\Q (.ref x) d) E
def Binds(K:W.Frag)(c:FuncData)(a:List Str)(b:List Value):Prop:=
 ∀(s:Shared) (us:List Value),K.In s.heap->(us++b).length=a.length->BindsTo s c ⟨us,[]⟩ (a.zip (us++b))
theorem Binds.all{b:FuncData}{a:List Str}(h:∀us:List Value,us.length=a.length->bindArgs b ⟨us,[]⟩=pure (a.zip us)):Binds K b a []:=λs us _ a=>by
 rw[List.append_nil]at a ⊢;calc .of_eq (h us a)
def Passes(CX:Ln)(X:Cx)(E:XK):Prop:=∀(pins:List (Addr×Obj)) (σ:St) (H:Hp) (s:Shared) (e:Value) (s':Shared),Inv X pins σ H s->CX X.stack H s E e s'->X.xe e s'
section
variable {X:Cx}{CX:Ln}{k:Nat}{f C:Addr}{fd:FuncData}{ps:List Str}{sp:Sp}{uX:List V}{ds:List Value}{E:XK}{x m:Str}{p pos apos:Pos}{e o:Expr}{es:List Expr}{ta:TE}{t:TA}
theorem Bi{pins:List (Addr×Obj)}{σ:St}{H:Hp}{s:Shared}{Q:VK}{us:List Value}{vs:List V}(F:nr X.prog X.w X.K X.mg X.base CX k f fd ps sp)(c:fe k X.A)(d:Binds X.K fd ps ds)(g:Vals uX ds)(i:Passes CX X E)
  (I:Inv X pins σ H s) (r:Vals vs us) (h:sp (vs++uX) H Q E):wpAny (model X.prog X.w) X.A (call (.ref f) us) (EP X pins σ Q) X.xe s:=by
 have b:Vals (vs++uX) (us++ds):=r.append g;have j:(us++ds).length=ps.length:=by rw[<-b.length];exact F.len _ _ _ _ h
 refine wpAny_call (codeAny_mono (F.run X.A X.stack s H ⟨us,[]⟩ (us++ds) (vs++uX) Q E c I.VB (d s us I.k7 j) b h) λr l a=>?_)
 cases r with
 |error e=>calc i pins σ H s e l I a
 |ok m=>
  cases m with
  |ret u=>calc I.after a
  |next=>calc aai a
  |brk=>calc aai a
  |cont=>calc aai a
theorem Mf(F:nr X.prog X.w X.K X.mg X.base CX k f fd ps sp)(b:fe k X.A)(a:Gl X x)(c:X.mg x=some (.ref f))(d:W.keepIn X.K (.ref f)=true)(g:Binds X.K fd ps ds)(i:Vals uX ds)(j:Passes CX X E)
  (l:PA X (e::es) t) (m:(x==("__debug__":Str))=false:=by decide) (he:starEach (e::es) X.env=(false,eval e X.env)::starEach es X.env:=by rfl) (n:(backTo pos (starEach es X.env)).any (·.1)=false:=by rfl):
  PE X (.Call (.Name x p) (e::es) [] pos) (vL sp uX E t):=by
 walk_at "xc";refine wpAny_Call_Name_kw (sr I a c ?_ m);refine W.callWith_K (h₀:=X.base) I.ok.mod.T6 d (dy (l pos pins s σ H _ I h) λus c ⟨m,o,a,r,q⟩=>⟨a.k7,?_⟩) he n;exact Bi F b g i j a r q
theorem Mg{pl:Sem Bool}(he:PE X o ta)(c:uW X.K C)(b:Meth X.K C m f)(F:nr X.prog X.w X.K X.mg X.base CX k f fd ps sp)(i:fe k X.A)(j:Binds X.K fd ps ds)(n:Vals uX ds)(p:Passes CX X E)(v:PA X (e::es) t)
  (y:starEach (e::es) X.env=(false,eval e X.env)::starEach es X.env:=by rfl) (z:(backTo pos (starEach es X.env)).any (·.1)=false:=by rfl)
  (r:eval (.Call (.Attribute o m apos) (e::es) [] pos) X.env=(do
   let d <-eval o X.env
   standAt apos.atName
   let (f,first) <-holding [d] (getMethod d m pl)
   callWith pos f first (backTo pos (starEach (e::es) X.env)) (backToKw pos (keywordEach [] X.env))):=by rfl):
  PE X (.Call (.Attribute o m apos) (e::es) [] pos) (vM C m sp uX E ta t):=by
 walk_at "xc";refine W.methodCall_KW (pl:=pl) (dy (he pins s σ H _ I h) λu B D=>?_) r;obtain⟨x,G,g,J,a,d,N,L,M,l,q⟩:=D;subst L;obtain rfl:u=Value.ref a:=J;refine sY g M c b l ?_;refine W.callWith_K (first:=[.ref a]) (h₀:=X.base) I.ok.mod.T6 b.kp (dy (v pos pins B σ G _ g q) λus u ⟨c,D,d,r,l⟩=>⟨d.k7,?_⟩) y z;exact Bi (us:=.ref a::us) (vs:=.ref a::c) F i j n p d (.cons rfl r) l
theorem GU{pl:Sem Bool}(he:PE X o ta)(c:uW X.K C)(d:Meth X.K C m f)(F:nr X.prog X.w X.K X.mg X.base CX k f fd ps sp)(g:fe k X.A)(i:Binds X.K fd ps ds)(j:Vals uX ds)(n:Passes CX X E)
  (p:eval (.Call (.Attribute o m apos) [] [] pos) X.env=(do
   let e <-eval o X.env
   standAt apos.atName
   let (f,first) <-holding [e] (getMethod e m pl)
   callWith pos f first (backTo pos (starEach [] X.env)) (backToKw pos (keywordEach [] X.env))):=by rfl):
  PE X (.Call (.Attribute o m apos) [] [] pos) (vM C m sp uX E ta Bg):=by
 walk_at "xc";refine W.methodCall_KW (pl:=pl) (dy (he pins s σ H _ I h) λu e r=>?_) p;obtain⟨x,e,b,t,a,z,B,v,y,l,q⟩:=r;subst v;obtain rfl:u=Value.ref a:=t;refine sY b y c d l ?_;exact W.callWith_K0 (first:=[.ref a]) b.k7 d.kp (Bi (us:=[.ref a]) (vs:=[.ref a]) F g i j n b (.cons rfl .nil) q)
structure Mk(K:W.Frag)(C f:Addr):Prop where
 makes:W.makesIn K C=true
 init:W.findIn K (.ref C) "__init__"=some (some (.ref f))
 fn:W.isFn K (.ref f)=true
 kp:W.keepIn K (.ref C)=true
theorem GV{pins:List (Addr×Obj)}{σ:St}{Q:VK}{vs:List V}(M:Mk X.K C f)(F:nr X.prog X.w X.K X.mg X.base CX k f fd ps sp)(hr:fe (k+1) X.A)(g:Binds X.K fd ps ds)(i:Vals uX ds)
  (j:Passes CX X E) (I:Inv X pins σ H s) (r:Vals vs us)
  (h:∀x b,H x=none->H b=none->b≠x->sp (.ref x::(vs++uX)) (upd (upd H b (.own x)) x (.ins C b [])) (λv d=>v=.bM/\Q (.ref x) d) E):
  wpAny (model X.prog X.w) X.A (call (.ref C) us) (EP X pins σ Q) X.xe s:=by
 have b:=h (s.heap.objs.size+1) s.heap.objs.size (I.aY.fresh (Nat.le_succ _)) (I.aY.fresh (E' _)) (Y' (Nat.lt_succ_self _));have c:=Inv.made (C:=C) I;have d:Vals (V.ref (s.heap.objs.size+1)::(vs++uX)) (Value.ref (s.heap.objs.size+1)::(us++ds)):=.cons rfl (r.append i);have l:(Value.ref (s.heap.objs.size+1)::us++ds).length=ps.length:=by
  have e:=d.length;rw[F.len _ _ _ _ b]at e;exact e.symm
 refine wpAny_call (GS (f:=f) I.k7 M.makes M.init (beq_iff_eq.mp M.fn) (codeAny_mono (F.run _ X.stack _ _ ⟨Value.ref (s.heap.objs.size + 1)::us,[]⟩ (Value.ref (s.heap.objs.size + 1)::(us++ds)) _ _ E (hr.make C us [])
  (c.VB.make C us []) (g _ (Value.ref (s.heap.objs.size + 1)::us) c.k7 l) d b) λr m a=>?_))
 cases r with
 |error e=>calc j pins σ _ _ e m c a
 |ok n=>
  cases n with
  |ret u=>
   obtain⟨v,o,p,q,t,y⟩:=c.after a;subst t;calc⟨q,⟨V.ref (s.heap.objs.size+1),o,p,rfl,y⟩⟩
  |next=>calc aai a
  |brk=>calc aai a
  |cont=>calc aai a
theorem Mh(M:Mk X.K C f)(F:nr X.prog X.w X.K X.mg X.base CX k f fd ps sp)(b:fe (k+1) X.A)(a:Gl X x)(c:X.mg x=some (.ref C))(d:Binds X.K fd ps ds)(g:Vals uX ds)(i:Passes CX X E)
  (j:PA X (e::es) t) (l:(x==("__debug__":Str))=false:=by decide) (he:starEach (e::es) X.env=(false,eval e X.env)::starEach es X.env:=by rfl) (m:(backTo pos (starEach es X.env)).any (·.1)=false:=by rfl):
  PE X (.Call (.Name x p) (e::es) [] pos) (CF C sp uX E t):=by
 walk_at "xc";refine wpAny_Call_Name_kw (sr I a c ?_ l);refine W.callWith_K (h₀:=X.base) I.ok.mod.T6 M.kp (dy (j pos pins s σ H _ I h) λus c ⟨l,n,a,r,q⟩=>⟨a.k7,?_⟩) he m;exact GV M F b d g i a r q
end
structure aD(N P:List Str)(sc:Scope):Prop where
 kind:sc.kind=.function
 co:sc.isCoroutine=false
 gen:sc.isGenerator=false
 nd:N.Nodup
 pre:N.take P.length=P
 par:∀x∈P,sc.names.lookup x=some .local\/sc.names.lookup x=some .cell
 QT:∀y∈sc.names,y.2≠.free
theorem vN{b:Str->Option NameKind}{x:Str}:∀{a:List (Str×Value)}{m:Str->Option Value},(∀v,(x,v)∉a)->bindL b a m x=m x
 | [],_,_=>rfl
 |(n,v)::r,m,h=>by
  unfold bindL;rw[vN λw c=>h w (V' _ c)];split
  ·have:x≠n:=by rintro rfl;exact h v S'
   simp[this]
  ·rfl
theorem vO{b:Str->Option NameKind}{x:Str}:∀{a:List (Str×Value)}{m:Str->Option Value},(∀v,(x,v)∉a)->bindC b a m x=m x
 | [],_,_=>rfl
 |(n,v)::r,m,h=>by
  unfold bindC;rw[vO λw c=>h w (V' _ c)];split
  ·rfl
  ·have:x≠n:=by rintro rfl;exact h v S'
   simp[this]
theorem vP{a:Str->Option NameKind}{x:Str}{v:Value}:∀{P:List Str}{vs:List Value}{i:Nat}{m:Str->Option Value},P.Nodup->P[i]?=some x->vs[i]?=some v->a x=some .local->
  bindL a (P.zip vs) m x=some v
 | [],_,_,_,_,h,_,_=>by simp at h
 |_::_,[],_,_,_,_,h,_=>by simp at h
 |p::P,w::vs,0,m,d,b,c,e=>by
  simp at b c;subst b;subst c;show bindL a ((p,w)::P.zip vs) m p=_;unfold bindL;rw[vN λv f=>(List.nodup_cons.mp d).1 (List.of_mem_zip f).1,if_pos e];simp
 |p::P,w::vs,i+1,m,d,b,c,e=>by
  show bindL a ((p,w)::P.zip vs) m x=_;unfold bindL;calc vP (i:=i) (List.nodup_cons.mp d).2 (by simpa using b) (by simpa using c) e
theorem vQ{a:Str->Option NameKind}{x:Str}{v:Value}:∀{P:List Str}{vs:List Value}{i:Nat}{m:Str->Option Value},P.Nodup->P[i]?=some x->vs[i]?=some v->a x≠some .local->
  bindC a (P.zip vs) m x=some v
 | [],_,_,_,_,h,_,_=>by simp at h
 |_::_,[],_,_,_,_,h,_=>by simp at h
 |p::P,w::vs,0,m,d,b,c,e=>by
  simp at b c;subst b;subst c;show bindC a ((p,w)::P.zip vs) m p=_;unfold bindC;rw[vO λv f=>(List.nodup_cons.mp d).1 (List.of_mem_zip f).1,if_neg e];simp
 |p::P,w::vs,i+1,m,d,b,c,e=>by
  show bindC a ((p,w)::P.zip vs) m x=_;unfold bindC;calc vQ (i:=i) (List.nodup_cons.mp d).2 (by simpa using b) (by simpa using c) e
def start(N:List Str)(vs:List V):St:=vs.map some++List.replicate (N.length-vs.length) none
def sZ(CX:Ln)(P:Program)(w:World)(K:W.Frag)(mg:Str->Option Value)(base:Heap)(N:List Str)(qual:Str)(scope:Scope)(f:Addr)(b:Value)(A:Around)(outer:List Env)(s:Shared)(H:Hp)(E:XK):Cx where
 prog:=P
 w:=w
 K:=K
 mg:=mg
 base:=base
 A:=A.deeper (envOfC qual scope s.heap.objs.size f b)
 N:=N
 s₀:=s
 H₀:=H
 env:=envOfC qual scope s.heap.objs.size f b
 outer:=outer
 stack:=envOfC qual scope s.heap.objs.size f b::outer
 ex:=[]
 calm:=true
 fn:=λ_=>true
 pn:=[]
 xe:=λe s'=>wpAny (model P w) (A.deeper (envOfC qual scope s.heap.objs.size f b)) (leaving (envOfC qual scope s.heap.objs.size f b) e) (λ_ a=>CX outer H s E e a) (λb a=>CX outer H s E b a) s'
theorem tf{sc:Scope}{n:Nat}{x:Str}(h:sc.names.lookup x=some .cell):∃c,(cellsFrom n sc.names []).lookup x=some c:=by
 have q:=W.cellsFrom_some sc.names n [] (.inl h);calc Option.isSome_iff_exists.mp q
theorem EK{CX:Ln}{P:Program}{w:World}{N j:List Str}{qual:Str}{scope:Scope}{f:Addr}{k:Value}{outer:List Env}{b:Shared}{E:XK}{vs:List V}
  (S:aD N j scope) (C:A.handled=none) (g:Bh P w K mg base A outer s H) (p:vs.length=j.length) (r:Vals vs us)
  (x:InCallC s s.heap.objs.size (bindL (envOfC qual scope s.heap.objs.size f k).kindOf (j.zip us) λ_=>none) (cellsFrom (s.heap.objs.size+1) scope.names []) (bindC (envOfC qual scope s.heap.objs.size f k).kindOf (j.zip us) λ_=>none) b):
  Inv (sZ CX P w K mg base N qual scope f k A outer s H E) [] (start N vs) H b:=by
 have b:j.length<=N.length:=by have:=congrArg List.length S.pre;rw[List.length_take]at this;lia
 obtain⟨o,z,rfl,t⟩:=x.done;have p:∀b:Addr,b ∉ (sZ CX P w K mg base N qual scope f k A outer s H E).ex:=λb z=>absurd (show b ∈ ([]:List Addr) from z) nofun;refine⟨⟨g.mod,S.kind,rfl,rfl,E' _,λy z c o d=>?_,λy a=>?_,λy c _ h=>?_,λ_=>C,Around.frames_deeper g.frames,.inr ⟨rfl,rfl⟩,λb z=>absurd z (p b),g.bs,g.Gw,λb _ _=>p b,λb z=>absurd z (p b),g.p9,g.Om⟩,
  rfl,g.bare,Un.kept t,⟨_,x.toInCall.ns,λi y v o d b=>?_⟩,λy c h=>⟨_,x.cell y c h⟩,g.aY.fresh (E' _),λy c h=>?_,λp l=>absurd (show p ∈ ([]:List (Addr×Obj)) from l) nofun,g.aY.kept t,?_⟩
 ·exact name_of_addr x.apart (X' o) (X' d)
 ·have a:scope.names.lookup y=some .cell\/scope.names.lookup y=some .free:=a;rcases a with a | a
  ·exact tf a
  ·exact absurd rfl (S.QT _ (X' a))
 ·exact J' (x.above y c (X' h))
 ·have q:i<vs.length:=by
   unfold start at d;by_cases q:i<vs.length
   ·exact q
   ·rw[aaG (by simpa using q)]at d;rw[List.getElem?_replicate]at d;split at d<;>cases d
  have D:vs[i]?=some v:=by
   unfold start at d;rw[aaH (by simpa using q),aaB]at d
   cases e:vs[i]? with
   |none=>rw[e]at d;cases d
   |some a=>rw[e]at d;cases d;rfl
  obtain⟨u,B,F⟩:=r.get D;have l:j[i]?=some y:=by
   rw[<-S.pre,List.getElem?_take_of_lt ()];exact o
  have m:j.Nodup:=by rw[<-S.pre];exact S.nd.sublist (List.take_sublist _ _)
  calc⟨u,F,?_⟩;rcases S.par y (W' l) with k|k
  ·exact .inl ⟨k,vP m l B k⟩
  ·obtain⟨c,e⟩:=tf (n:=s.heap.objs.size+1) k;calc .inr ⟨.inl k,c,e,?_⟩;have q:=x.cell y c e;rw[vQ m l B (by show scope.names.lookup y≠_;rw[k];decide)]at q;exact q
 ·exact g.aY.fresh (J' (x.above y c (X' h)))
 ·unfold start;show _=N.length;rw[List.length_append,aaC,List.length_replicate];lia
theorem VE{CX:Ln}{P:Program}{w:World}{k:Nat}{f:Addr}{name qual:Str}{a:Arguments}{b:List Stmt}{scope:Scope}{o kV i y g ct j:Value}{D I:Option Addr}
  {M:Array (Option Value)} {N p:List Str} {sp:Sp} (O:K.lookup f=some ⟨j,I,.func (W.fnOf name qual a b scope o kV i y D g ct),M⟩) (R:W.codeIn K g qual=true) (S:aD N p scope)
  (j:∀vs H Q E,sp vs H Q E->vs.length=p.length)
  (T:∀(A:Around) (outer:List Env) (s:Shared) (H:Hp) (vs:List V) (Q:VK) (E:XK),fe k (A.deeper (envOfC qual scope s.heap.objs.size f g))->sp vs H Q E->
   ∃t,yy (sZ CX P w K mg base N qual scope f g A outer s H E) b t/\t {nx:=λ_ d=>Q .bM d,rt:=Q} (start N vs) H):
  nr P w K mg base CX (k+1) f (W.fnOf name qual a b scope o kV i y D g ct) p sp:=by
 calc⟨j,λA outer s H a us vs Q E z l U r F=>?_⟩;have X:=j _ _ _ _ F;have G:K.In s.heap:=l.mod.T6.keeps λb o e=>(l.bs b o e).1;have B:s.heap.NoLimit:=l.mod.nolimit.keeps λb o e=>(l.bs b o e).1;have Y:∀y∈p.zip us,scope.names.lookup y.1=some .local\/(scope.names.lookup y.1=some .cell/\((cellsFrom (s.heap.objs.size+1) scope.names []).lookup y.1).isSome=true):=λ⟨n,v⟩ Z=>by
  rcases S.par n (List.of_mem_zip Z).1 with q|q
  ·exact .inl q
  ·exact .inr ⟨q,W.cellsFrom_some _ _ _ (.inl q)⟩
 calc codeAny_call_function z.depth (G _ _ O) rfl S.co S.gen rfl (W.codeRec_of G R) (U _ _ _ _ ?_);calc wpAny_newFunctionEnv_cells S.kind Y λa he L x=>?_;subst he;calc⟨B.keeps x.toInCall.keep,codeAny_func ?_⟩;obtain⟨t,b,i⟩:=T A outer s H vs Q E (z.deeper _) F;have I:Inv (sZ CX P w K mg base N qual scope f g A outer s H E) [] (start N vs) H L:=EK S z.hd l X r x;calc aae (b [] L (start N vs) H _ I i) (λfl a h=>?_) λe a h=>h;have m:∀{c:St} {d:Hp} {v:V} {u:Value},Inv (sZ CX P w K mg base N qual scope f g A outer s H E) [] c d a->RelV v u->Q v d->CE outer P w H s Q u a:=
  λ{c d v u} J C q=>⟨v,d,J.os,J.bare,J.base,J.aY,C,q⟩
 cases fl with
 |ret u=>
  obtain⟨v,c,d,J,C,q⟩:=h;calc m J C q
 |next=>
  obtain⟨c,d,J,q⟩:=h;calc m (v:=V.bM) (u:=Value.none) J rfl q
 |brk=>
  obtain⟨_,_,_,q⟩:=h;calc aai q
 |cont=>
  obtain⟨_,_,_,q⟩:=h;calc aai q
end
section
section
variable {X:Cx}{x:Str}{p pos:Pos}{e:Expr}{es:List Expr}{t:TA}{id T:String}{r:List V->Hp->VK->Prop}
def QU(r:List V->Hp->VK->Prop)(t:TA):TE:=λσ H Q=>t σ H λvs a=>r vs a Q
theorem GW(a:eQ X (.builtin id) r)(b:Gl X x)(c:X.mg x=none)(d:bootBuiltins x=some (.builtin id))(f:PA X (e::es) t)(g:x≠"__name__":=by decide)(i:(x==("__debug__":Str))=false:=by decide)
  (he:starEach (e::es) X.env=(false,eval e X.env)::starEach es X.env:=by rfl) (j:(backTo pos (starEach es X.env)).any (·.1)=false:=by rfl):PE X (.Call (.Name x p) (e::es) [] pos) (QU r t):=by
 walk_at "xc";refine wpAny_Call_Name_kw (nO I b c d ?_ g i);exact PyProof.Rows.callWith_builtin1 (dy (f pos pins s σ H _ I h) λk l ⟨m,n,o,q,u⟩=>a pins l σ n m k Q o q u) he j
theorem EL(a:eQ X (.type T) r)(b:Gl X x)(c:X.mg x=none)(d:bootBuiltins x=some (.type T))(f:PA X (e::es) t)(g:x≠"__name__":=by decide)(i:(x==("__debug__":Str))=false:=by decide)
  (he:starEach (e::es) X.env=(false,eval e X.env)::starEach es X.env:=by rfl) (j:(backTo pos (starEach es X.env)).any (·.1)=false:=by rfl):PE X (.Call (.Name x p) (e::es) [] pos) (QU r t):=by
 walk_at "xc";refine wpAny_Call_Name_kw (nO I b c d ?_ g i);exact PyProof.Rows.callWith_type1 (dy (f pos pins s σ H _ I h) λk l ⟨m,n,o,q,u⟩=>a pins l σ n m k Q o q u) he j
end
end
end L2
namespace HT
open PySem PyProof.Rows
variable {Q:Value->Shared->Prop}
section
open PySem.SeqAt
open PySem.AutoSeq1 (wpAny_loadPart')
open PySem.MeetsSeq PySem.MeetsSeq2 PySem.MeetsSeq3
end
section
variable {prog:Program}{w:World}{A:Around}{E:Value->Shared->Prop}{s:Shared}
theorem Mi{t b:Addr}{vs ws:List Value}(p:IsTup s.heap t vs.toArray)(q:IsTup s.heap b ws.toArray)(f:vs≠[])
  (r:ws=[]->Q (.ref t) s) (u:ws≠[]->Q (.ref s.heap.objs.size) {s with heap:=s.heap.push {cls:=.type "tuple",data:=.seq (vs++ws).toArray}})
  (hsz:vs.length+ws.length<=sizeLine):wpAny (model prog w) A (binaryOp .Add (.ref t) (.ref b)) Q E s:=by
 obtain⟨⟨cls,g,data,h⟩,c,i,n,j⟩:=id p;obtain⟨⟨v,k,e,l⟩,d,m,o,a⟩:=id q;simp only at i j m a;subst i j m a;have e:vs.toArray++ws.toArray=(vs++ws).toArray:=by simp
 by_cases a:ws=[]
 ·exact concat_meets ⟨_,c,rfl⟩ ⟨_,d,rfl⟩ noFill_tuple_add seq_tuple_add PySem.F.slot_tuple_add PySem.F.entry_tuple_add (PySem.F.args_tuple_add_2 _ _)
   (tuple_addW1 t b vs.toArray ws.toArray n o g k h l (by simpa using f) (by simp[a])) ⟨c,d,r a⟩
 ·refine concat_meets ⟨_,c,rfl⟩ ⟨_,d,rfl⟩ noFill_tuple_add seq_tuple_add PySem.F.slot_tuple_add PySem.F.entry_tuple_add (PySem.F.args_tuple_add_2 _ _)
   (tuple_addW2 t b vs.toArray ws.toArray n o g k h l (by simpa using f) (by simpa using a) (by rw[aaF,aaF];calc hsz)) ⟨c,d,?_⟩
  rw[e];calc u a
def eE(n d:Nat):Option Int->Nat
 |none=>d
 |some v=>if v<0 then(v+(n:Int)).toNat else min v.toNat n
theorem yL(n d:Nat):eE n d none=d:=rfl
theorem sx(n d k:Nat):eE n d (some (k:Int))=min k n:=by
 show(if (k:Int)<0 then((k:Int)+(n:Int)).toNat else min (k:Int).toNat n)=min k n;rw[if_neg (),Int.toNat_natCast]
theorem QV(n d:Nat)(a:d<=n)(o:Option Int):eE n d o<=n:=by
 cases o with
 |none=>calc a
 |some v=>
  show(if v<0 then(v+(n:Int)).toNat else min v.toNat n)<=n;by_cases a:v<0
  ·rw[if_pos a];lia
  ·rw[if_neg a];calc Nat.min_le_right _ _
theorem CH(v:Int)(n d:Nat):(if v<0 then max (v+(n:Int)) 0 else min v (n:Int))=((eE n d (some v):Nat):Int):=by
 show(if v<0 then max (v+(n:Int)) 0 else min v (n:Int))=(((if v<0 then(v+(n:Int)).toNat else min v.toNat n):Nat):Int)
 by_cases a:v<0
 ·simp only[if_pos a];lia
 ·simp only[if_neg a];lia
theorem Bj(lo a:Option Int)(n:Nat):Builtin.Slice.sliceAdjust lo a 1 (n:Int)=(((eE n 0 lo:Nat):Int),((eE n n a:Nat):Int)):=by
 have b:¬((1:Int)<0):=by lia
 unfold Builtin.Slice.sliceAdjust;simp only[b,if_false];refine Prod.ext ?_ ?_
 ·cases lo with
  |none=>rfl
  |some v=>exact CH v n 0
 ·cases a with
  |none=>rfl
  |some v=>calc CH v n n
theorem Bk(i j:Nat):Builtin.Slice.slicePlaces (i:Int) (j:Int) 1=j-i:=by
 unfold Builtin.Slice.slicePlaces;have a:(1:Int) > 0:=by lia
 simp only[a,if_true,Int.ediv_one];split<;>lia
theorem tj{v:Value}{o:Option Int}{Q:Option Int->Shared->Prop}(p:IsPart v o)(h:Q o s):wpAny (model prog w) A (Builtin.Slice.slicePartIndex v) Q E s:=by
 cases p with
 |none=>calc slicePart_none h
 |int i t=>calc slicePart_int h
theorem j5{d:Addr}{b c:Value}{lo a:Option Int}{n:Nat}{Q:Int×Int×Nat->Shared->Prop}(f:s.heap.IsSliceOf d b c .none)(pl:IsPart b lo)(g:IsPart c a)
  (h:Q (((eE n 0 lo:Nat):Int),1,eE n n a-eE n 0 lo) s):wpAny (model prog w) A (Builtin.Slice.sliceApplied (.ref d) (pure (n:Int))) Q E s:=by
 obtain⟨i,d,j,e⟩:=id f;unfold Builtin.Slice.sliceApplied Builtin.Slice.sliceFields;calc A' (A' (aag d e (x:=b) rfl (A' (aag d e (x:=c) rfl (A' (aag d e (x:=.none) rfl (K' ?_)))))));calc A' (slicePart_none ?_);show wpAny _ _ (if ((1:Int)==0)=true then _ else _) _ _ s;rw[if_neg ∅];calc A' (tj pl (A' (tj g (A' (K' ?_)))));show wpAny _ _ (match Builtin.Slice.sliceAdjust lo a 1 (n:Int) with|(lo,a)=>pure (lo,(1:Int),Builtin.Slice.slicePlaces lo a 1)) _ _ s;rw[Bj lo a n];show wpAny _ _ (pure (((eE n 0 lo:Nat):Int),(1:Int),Builtin.Slice.slicePlaces ((eE n 0 lo:Nat):Int) ((eE n n a:Nat):Int) 1)) _ _ s;rw[Bk];calc K' h
theorem GX(xs:Array Value)(i k:Nat):((List.range k).filterMap λ(m:Nat)=>xs[((i:Int)+(m:Int)*1).toNat]?).toArray=((xs.toList.drop i).take k).toArray:=by
 have e:(λ(m:Nat)=>xs[((i:Int)+(m:Int)*1).toNat]?)=λm=>xs[i+m]?:=by
  funext m;have:((i:Int)+(m:Int)*1).toNat=i+m:=by lia
  rw[this]
 rw[e];have:=pick_run xs i k;rw[List.filterMap_map]at this;have a:((λx=>xs[x]?) ∘ λx=>i+x)=λm=>xs[i+m]?:=rfl;rw[a]at this;rw[this]
theorem o9{t e:Addr}{a:Array Value}{d f:Value}{lo b:Option Int}(c:IsTup s.heap t a)(g:s.heap.IsSliceOf e d f .none)(pl:IsPart d lo)(i:IsPart f b)
  (j:¬(eE a.size 0 lo=0/\eE a.size a.size b=a.size))
  (h:Q (.ref s.heap.objs.size) {s with heap:=s.heap.push {cls:=.type "tuple",data:=.seq ((a.toList.drop (eE a.size 0 lo)).take (eE a.size a.size b-eE a.size 0 lo)).toArray}})
  (hsz:a.size<=sizeLine):wpAny (model prog w) A (getItem (.ref t) (.ref e)) Q E s:=by
 have d:sizeOk (.seq ((a.toList.drop (eE a.size 0 lo)).take (eE a.size a.size b-eE a.size 0 lo)).toArray):=by
  show((a.toList.drop (eE a.size 0 lo)).take (eE a.size a.size b-eE a.size 0 lo)).toArray.size<=sizeLine;rw[aaF,List.length_take,List.length_drop,Array.length_toList];lia
 have f:eE a.size a.size b<=a.size:=QV _ _ (E' _) b;obtain⟨k,l,n,f⟩:=id g;have f:s.TypeIs (.ref e) "slice":=⟨k,l,n⟩
 unfold getItem
 try with_reducible refine aao ?_
 first|calc A' (K' ?_)|skip
 calc A' (wpAny_sequenceKey c.typeIs ∅ ?_);refine A' (aaq (name:=Str.ofString "__getitem__") c.typeIs aaw
  (aat aaw c.typeIs entry_tuple_getitem ?_ (args_tuple_getitem _ _)))
 show wpAny _ _ (Builtin.Tuple.tupleItemsOf (.ref t) >>= _) _ _ s;calc A' (tupleItemsOf_ c ?_);calc A' (wpAny_typeOf f ?_);rw[if_pos ∅];calc A' (j5 g pl i ?_);have e:¬((((eE a.size 0 lo:Nat):Int)==0&&(1:Int)==1&&(eE a.size a.size b-eE a.size 0 lo)==a.size)=true):=by
  intro q;rw[Bool.and_eq_true,Bool.and_eq_true]at q;have c:((eE a.size 0 lo:Nat):Int)=0:=eq_of_beq q.1.1;have c:eE a.size a.size b-eE a.size 0 lo=a.size:=eq_of_beq q.2;exact j ⟨(),()⟩
 show wpAny _ _ (if (((eE a.size 0 lo:Nat):Int)==0&&(1:Int)==1&&(eE a.size a.size b-eE a.size 0 lo)==a.size)=true then _ else _) _ _ s;rw[if_neg e,GX]
 first
  |calc A' (m:=Builtin.Tuple.tupleExact _) (aay (K' ⟨_,rfl,K' h⟩) d)
  |calc A' (m:=Builtin.Tuple.tupleExact _) (aay (A' (K' (K' ⟨_,rfl,K' h⟩))) d)
  |calc A' (A' (m:=Builtin.Tuple.tupleExact _) (aay (K' (K' ⟨_,rfl,K' h⟩)) d))
  |calc A' (A' (m:=Builtin.Tuple.tupleExact _) (aay (K' ⟨_,rfl,K' h⟩) d))
end
end HT
namespace L2
open PySem PySem.Spec PyProof.Rows
section
abbrev TO:=St->Hp->(Option Int->Hp->Prop)->Prop
def PO(X:Cx)(e:Option Expr)(t:TO):Prop:=
 ∀(pins:List (Addr×Obj)) (s:Shared) (σ:St) (H:Hp) (Q:Option Int->Hp->Prop),Inv X pins σ H s->t σ H Q->
  wpAny (model X.prog X.w) X.A (evalPart e X.env) (λu s'=>∃o a,Inv X pins σ a s'/\IsPart u o/\Q o a) X.xe s
def wX:TO:=λ_ H Q=>Q none H
def GY(t:TE):TO:=λσ H Q=>t σ H λx a=>∃i,x=.int i/\Q (some i) a
section
variable {X:Cx}{e:Expr}{te:TE}{lo hi:Option Expr}{tl th:TO}{pos p2:Pos}
theorem fO:PO X none wX:=by
 intro a s σ H Q I h;rw[evalPart_none];calc K' ⟨none,H,I,.none,h⟩
theorem dU(h:PE X e te):PO X (some e) (GY te):=by
 intro a s σ H Q I b;rw[evalPart_some];calc dy (h a s σ H _ I b) λu k c=>?_;obtain⟨x,d,f,g,j⟩:=c;obtain⟨i,rfl,q⟩:=j;obtain⟨t,rfl⟩:=g;calc⟨some i,d,f,.int i t,q⟩
def VH(X:Cx)(r:V->Option Int->Option Int->Hp->VK->Prop):Prop:=
 ∀(pins:List (Addr×Obj)) (s:Shared) (σ:St) (H:Hp) (x:V) (v a b:Value) (lo hi:Option Int) (c:Addr) (Q:VK),Inv X pins σ H s->RelV x v->s.heap.IsSliceOf c a b .none->IsPart a lo->IsPart b hi->r x lo hi H Q->
  ∃T a,typeLookup (.type T) "__getitem__"=pure (some (.builtin a))/\s.TypeIs v T/\wpAny (model X.prog X.w) X.A (getItem v (.ref c)) (EP X pins σ Q) X.xe s
def T9(r:V->Option Int->Option Int->Hp->VK->Prop)(te:TE)(tl th:TO):TE:=λσ H Q=>te σ H λx a=>tl σ a λl b=>th σ b λu a=>r x l u a Q
theorem tm{r:V->Option Int->Option Int->Hp->VK->Prop}(g:VH X r)(he:PE X e te)(a:PO X lo tl)(f:PO X hi th):PE X (.Subscript e (.Slice lo hi none p2) pos) (T9 r te tl th):=by
 walk_at "xc";refine Subscript_ (dy (he pins s σ H _ I h) λv d b=>?_);obtain⟨x,i,j,k,m⟩:=b;refine wpAny_Slice (dy (a pins d σ i _ j m) λc n ⟨l,o,p,r,q⟩=>dy (f pins n σ o _ p q) λd a b=>?_);obtain⟨u,f,i,j,m⟩:=b;rw[evalPart_none];refine K' ?_;have n:Inv X pins σ f {a with heap:=a.heap.push {cls:=.type "slice",data:=.fields #[c,d,.none]}}:=i.kept (t':=a.toks) λb i q=>F' _ q;obtain⟨T,p,b,i,o⟩:=g pins {a with heap:=a.heap.push {cls:=.type "slice",data:=.fields #[c,d,.none]}} σ f x v c d l u a.heap.objs.size Q n k (Heap.IsSliceOf.new ..) r j m;show wpAny (model X.prog X.w) X.A (subscriptTail e (.Slice lo hi none p2) v (.ref a.heap.objs.size)) (EP X pins σ Q) X.xe {a with heap:=a.heap.push {cls:=.type "slice",data:=.fields #[c,d,.none]}};exact tail_any (ops:=[.ref a.heap.objs.size,v]) i b o (by with_unfolding_all rfl)
def dG(xs:List V)(lo hi:Option Int):List V:=(xs.drop (HT.eE xs.length 0 lo)).take (HT.eE xs.length xs.length hi-HT.eE xs.length 0 lo)
theorem gL(xs:List V)(lo hi:Option Int):(dG xs lo hi).length<=xs.length:=by
 unfold dG;rw[List.length_take,List.length_drop];lia
def aby(K:W.Frag):V->Option Int->Option Int->Hp->VK->Prop:=λx lo hi H Q=>∃a xs,x=.ref a/\bG K H a xs/\
 ¬(HT.eE xs.length 0 lo=0/\HT.eE xs.length xs.length hi=xs.length)/\∀p,H p=none->Q (.ref p) (upd H p (.tup (dG xs lo hi)))
theorem QX:VH X (aby X.K):=by
 intro b s σ H x v d m lo hi n Q I e g i j h;obtain⟨a,c,rfl,k,l,q⟩:=h
 cases e;obtain⟨m,r,b,d⟩:=I.tuple k;have a:m.toArray.size=c.length:=by rw[aaF];exact r.length.symm
 refine⟨"tuple",_,PyProof.Rows.slot_tuple_getitem.lookup,b.typeIs,?_⟩;refine HT.o9 b g i j (by rw[a];exact l) ?_ (by rw[a];exact d);rw[a];refine⟨.ref s.heap.objs.size,_,I.laid (t':=s.toks) (o:=.tup (dG c lo hi)) (λb a q=>F' _ q) (E' _) ?_,rfl,q _ (I.aY.fresh (E' _))⟩;exact⟨aaa (gL c lo hi) d,_,(r.drop (HT.eE c.length 0 lo)).take (HT.eE c.length c.length hi-HT.eE c.length 0 lo),IsTup.new _ _⟩
def VI(K:W.Frag):R2:=λx y H Q=>∃a b xs c,x=.ref a/\y=.ref b/\bG K H a xs/\bG K H b c/\xs≠[]/\xs.length+c.length<=sizeLine/\
 (c=[]->Q (.ref a) H)/\(c≠[]->∀p,H p=none->Q (.ref p) (upd H p (.tup (xs++c))))
theorem Vals.wY{xs:List V}{us:List Value}(r:Vals xs us):us=[]↔xs=[]:=by
 cases r with
 |nil=>simp
 |cons _ _=>simp
theorem Ml:gK X (binaryOp .Add) (VI X.K):=by
 intro c s σ H x y v u Q I d f h;obtain⟨a,b,g,i,rfl,rfl,j,k,l,e,m,n⟩:=h
 cases d
 cases f;obtain⟨c,d,h,_⟩:=I.tuple j;obtain⟨f,c,p2,_⟩:=I.tuple k;calc HT.Mi h p2 (λz=>l (d.wY.mp z)) (λz=>⟨.ref a,H,I,rfl,m (c.wY.mp z)⟩) (λz=>?_) (by rw[<-d.length,<-c.length];calc e);calc⟨.ref s.heap.objs.size,_,I.laid (t':=s.toks) (o:=.tup (g++i)) (λb a q=>F' _ q) (E' _) ?_,rfl,n (λw=>z (c.wY.mpr w)) _ (I.aY.fresh (E' _))⟩;calc⟨by rw[List.length_append];calc e,_,d.append c,IsTup.new _ _⟩
end
end
section
def Bl(n:Nat)(i:Int):Option Nat:=if 0<=i then(if i<n then some i.toNat else none) else if -(n:Int)<=i then some (i+n).toNat else none
def gU{α:Type}(xs:List α)(i:Int):Option α:=(Bl xs.length i).bind λj=>xs[j]?
theorem CJ{n:Nat}{i:Int}{j:Nat}(h:Bl n i=some j):seqIndex? i n=some j/\j<n/\-(n:Int)<=i/\i<n:=by
 unfold Bl at h;by_cases b:0<=i
 ·rw[if_pos b] at h;by_cases a:i < n
  ·rw[if_pos a]at h;have e:i.toNat=j:=Option.some.inj h;exact⟨by rw[seqIndex_of b a,e],(),(),a⟩
  ·rw[if_neg a]at h;cases h
 ·rw[if_neg b] at h;by_cases a:-(n:Int)<=i
  ·rw[if_pos a]at h;have e:(i+n).toNat=j:=Option.some.inj h;exact⟨by rw[seqIndex_neg () a,e],(),a,()⟩
  ·rw[if_neg a]at h;cases h
theorem wZ{α:Type}{xs:List α}{i:Int}{v:α}(h:gU xs i=some v):∃j,seqIndex? i xs.length=some j/\xs[j]?=some v/\j<xs.length/\-(xs.length:Int)<=i/\i<xs.length:=by
 unfold gU at h
 cases e:Bl xs.length i with
 |none=>rw[e]at h;cases h
 |some j=>
  rw[e]at h;obtain⟨a,b,c,d⟩:=CJ e;calc⟨j,a,h,b,c,d⟩
theorem ay{α:Type}{xs:List α}{j:Nat}{v:α}(h:xs[j]?=some v):gU xs (j:Int)=some v:=by
 have a:j<xs.length:=(List.getElem?_eq_some_iff.mp h).1;have e:Bl xs.length (j:Int)=some j:=by
  unfold Bl;rw[if_pos (),if_pos ()];simp
 unfold gU;rw[e];calc h
def CK(b:Expr):Prop:=∀o i,subscripted b false o i=operate [o,i] (getItem o i)
def VJ(X:Cx)(r:R2):Prop:=
 ∀(b a:Expr) (pins:List (Addr×Obj)) (s:Shared) (σ:St) (H:Hp) (x y:V) (v u:Value) (Q:VK),Inv X pins σ H s->RelV x v->RelV y u->r x y H Q->
  subscripted a false v u=operate [v,u] (getItem v u)->wpAny (model X.prog X.w) X.A (subscriptTail b a v u) (EP X pins σ Q) X.xe s
def VM(X:Cx)(a:String)(r:V->List V->Hp->VK->Prop):Prop:=
 ∀(pins:List (Addr×Obj)) (s:Shared) (σ:St) (H:Hp) (x:V) (xs:List V) (v:Value) (us:List Value) (Q:VK),Inv X pins σ H s->RelV x v->Vals xs us->r x xs H Q->
  wpAny (model X.prog X.w) X.A (call (.builtin a) (v::us)) (EP X pins σ Q) X.xe s
section
variable {X:Cx}{a b:Expr}{ta tb:TE}{pos:Pos}
theorem VN{r:R2}(c:VJ X r)(d:PE X a ta)(e:PE X b tb)(f:CK b):PE X (.Subscript a b pos) (AI r ta tb):=by
 walk_at "xc";exact Subscript_ (QI d e I h λv u g x y i j k l q=>c a b pins g σ i x y v u Q j k l q (f _ _))
def abz(K:W.Frag):R2:=λx y H Q=>∃p xs i v,x=.ref p/\y=.int i/\aM K H p xs/\gU xs i=some v/\Q v H
def abA(K:W.Frag):R2:=λx y H Q=>∃p xs i v,x=.ref p/\y=.int i/\bG K H p xs/\gU xs i=some v/\Q v H
def abB:R2:=λx y H Q=>∃z i c,x=.str z/\y=.int i/\z.length<=sizeLine/\gU z.cps.toList i=some c/\Q (.str ⟨#[c]⟩) H
theorem Mm:VJ X (abz X.K):=by
 intro b c a s σ H x y v u Q I d e h f;obtain⟨p,j,i,z,rfl,rfl,g,k,q⟩:=h
 cases d;obtain⟨t,rfl⟩:=e;obtain⟨l,r,d,b⟩:=I.list g;obtain⟨j,c,b,e,m,n⟩:=wZ k;obtain⟨w,g,e⟩:=r.get b;have k:=r.length;have b:=sX;have b:EP X a σ Q w s:=⟨z,H,I,e,q⟩
 by_cases h:0<=i
 ·have e:i.toNat=j:=by
   rw[seqIndex_of h n]at c;exact Option.some.inj c
  exact item_listR d.isList h () (by rw[e];simpa using g) b f
 ·have e:(i+(l.toArray.size:Int)).toNat=j:=by
   rw[seqIndex_neg () m]at c;rw[aaF,<-k];exact Option.some.inj c
  exact subscriptTail_builtinR (x:=w) d.isList.typeIs slot_list_getitem.lookup
   (wpAny_getItem_list_neg (Q:=λr c=>r=w/\EP X a σ Q r c) d.isList () (by rw[aaF]<;>lia) () (by rw[e];simpa using g) ⟨rfl,b⟩) f
theorem QY:VJ X (abA X.K):=by
 intro b c a s σ H x y v u Q I d e h f;obtain⟨p,j,i,z,rfl,rfl,g,k,q⟩:=h
 cases d;obtain⟨t,rfl⟩:=e;obtain⟨b,r,c,d⟩:=I.tuple g;obtain⟨j,d,b,e,h,i⟩:=wZ k;obtain⟨w,e,g⟩:=r.get b;have h:=r.length;have b:=sX;have b:EP X a σ Q w s:=⟨z,H,I,g,q⟩
 exact subscriptTail_builtinR (x:=w) c.typeIs slot_tuple_getitem.lookup
  (getItem_tuple (j:=j) (Q:=λr g=>r=w/\EP X a σ Q r g) c () () (by rw[aaF,<-h];calc d) (by simpa using e) ⟨rfl,b⟩) f
theorem QZ:VJ X abB:=by
 intro a b d s σ H x y v u Q I e f h g;obtain⟨z,i,c,rfl,rfl,j,k,q⟩:=h;obtain⟨t,rfl⟩:=e;obtain⟨l,rfl⟩:=f;obtain⟨j,a,b,h,d,e⟩:=wZ k;have f:z.cps.toList.length=z.length:=by simp[Str.length]
 rw[f] at a d e;have h:=sX;exact tail_any (typeIs_str s z t) slot_str_getitem.lookup (getItem_str (c:=c) (by
  have d:decide (i < -(2 ^ 63:Int))=false:=decide_eq_false ();have e:decide (i >= 2 ^ 63)=false:=decide_eq_false ();rw[d,e,Bool.or_false]) (by rw[a];simpa using b) ⟨.str ⟨#[c]⟩,H,I.tok _,⟨_,rfl⟩,q⟩) g
theorem Bm(a:List Value)(n j:Nat)(u:Value):Obj.mapSeq (·.setIfInBounds j u) {cls:=.type "list",data:=.seq a.toArray n}={cls:=.type "list",data:=.seq (a.set j u).toArray n}:=by
 simp[Obj.mapSeq]
theorem Inv.lst{pins:List (Addr×Obj)}{σ:St}{H:Hp}{s:Shared}{p:Addr}{xs:List V}(I:Inv X pins σ H s)(h:H p=some (.lst xs)):
  ∃(a:List Value) (n:Nat),Vals xs a/\s.heap.get? p=some {cls:=.type "list",data:=.seq a.toArray n}/\xs.length<=sizeLine:=by
 obtain⟨z,a,n,r,e⟩:=I.aY p _ h;calc⟨a,n,r,e,z⟩
theorem Inv.Q0{pins:List (Addr×Obj)}{σ:St}{H:Hp}{s:Shared}{p:Addr}{xs a:List V}{d lJ:List Value}{n c:Nat}{f:Obj->Obj}(I:Inv X pins σ H s)(h:H p=some (.lst xs))
  (i:s.heap.get? p=some {cls:=.type "list",data:=.seq d.toArray n}) (g:f {cls:=.type "list",data:=.seq d.toArray n}={cls:=.type "list",data:=.seq lJ.toArray c}) (r:Vals a lJ) (d:a.length<=sizeLine) (t:Nat):
  Inv X pins σ (upd H p (.lst a)) {s with heap:=s.heap.update p f,toks:=t}:=by
 have e:(s.heap.update p f).get? p=some {cls:=.type "list",data:=.seq lJ.toArray c}:=by
  rw[Heap.get?_update_self f i (by rw[g]<;>rfl),g]
 calc I.write (x:=p) (e:=p) (by rw[h];trivial) (.inl rfl) (λb u a q=>(Heap.get?_update_other _ _ (Ne.symm a)).trans q) ⟨_,e⟩ ?_;calc⟨d,lJ,c,r,e⟩
def VO:V->V->V->Hp->(Hp->Prop)->Prop:=λo i v H Q=>∃p xs k j,o=.ref p/\i=.int k/\H p=some (.lst xs)/\Bl xs.length k=some j/\Q (upd H p (.lst (xs.set j v)))
theorem set_list:QA X VO:=by
 intro a s σ H o i v c f u Q I b d l h;obtain⟨p,m,k,j,rfl,rfl,e,w,q⟩:=h
 cases b;obtain⟨t,rfl⟩:=d;obtain⟨f,n,r,c,o⟩:=I.lst e;obtain⟨b,d,g,h⟩:=CJ w;have d:=r.length;have i:=sX;have i:Inv X a σ (upd H p (.lst (m.set j v))) {s with heap:=s.heap.update p (Obj.mapSeq (·.setIfInBounds j u))}:=
  I.Q0 e c (Bm f n j u) (r.set l j) (by rw[List.length_set];calc o) s.toks
 by_cases e:0<=k
 ·have a:k.toNat=j:=by
   rw[seqIndex_of e h]at b;exact Option.some.inj b
  exact W.ki_setAt c e () (by rw[aaF,<-d];calc h) (by rw[a];calc⟨_,i,q⟩)
 ·have a:(k+(f.toArray.size:Int)).toNat=j:=by
   rw[seqIndex_neg () g]at b;rw[aaF,<-d];exact Option.some.inj b
  calc W.ki_setBack c () (by rw[aaF,<-d];calc g) () (by rw[a];calc⟨_,i,q⟩)
theorem w6(lo a:Option Int)(n:Nat):(sliceBounds lo a none n).1=((HT.eE n 0 lo:Nat):Int)/\(sliceBounds lo a none n).2.1=((HT.eE n n a:Nat):Int)/\(sliceBounds lo a none n).2.2=1:=by
 refine⟨?_,?_,rfl⟩
 ·cases lo with
  |none=>simp[sliceBounds,HT.eE]
  |some i=>
   simp only[sliceBounds,HT.eE,Option.getD_none,show(1:Int) > 0 by decide,if_true];by_cases h:i<0
   ·simp only[h,if_true]<;>lia
   ·simp only[h,if_false]<;>lia
 ·cases a with
  |none=>simp[sliceBounds,HT.eE]
  |some i=>
   simp only[sliceBounds,HT.eE,Option.getD_none,show(1:Int) > 0 by decide,if_true];by_cases h:i<0
   ·simp only[h,if_true]<;>lia
   ·simp only[h,if_false]<;>lia
theorem uY(a:List Value)(lo b:Option Int):slicePick a.toArray lo b none=((a.drop (HT.eE a.length 0 lo)).take (HT.eE a.length a.length b-HT.eE a.length 0 lo)).toArray:=by
 obtain⟨c,d,e⟩:=w6 lo b a.toArray.size;unfold slicePick;rw[c,d,e];simp only[sliceRange_one,pick_run,List.size_toArray]<;>rfl
def abC(K:W.Frag):V->Option Int->Option Int->Hp->VK->Prop:=λx lo b H Q=>∃a xs,x=.ref a/\aM K H a xs/\∀p,H p=none->Q (.ref p) (upd H p (.lst (dG xs lo b)))
theorem CL:VH X (abC X.K):=by
 intro d s σ H x v g n e f p Q I i j k l h;obtain⟨a,c,rfl,m,q⟩:=h
 cases i;obtain⟨d,r,g,h⟩:=I.list m;have d:=r.length;refine⟨"list",_,slot_list_getitem.lookup,g.isList.typeIs,?_⟩;refine wpAny_getItem_list_slice g.isList j k l .none nofun ?_ (by rw[aaF]<;>lia);rw[uY,<-d];refine⟨.ref s.heap.objs.size,_,I.laid (t':=s.toks) (o:=.lst (dG c e f)) (λb d q=>F' _ q) (E' _) ?_,rfl,q _ (I.aY.fresh (E' _))⟩;exact⟨aaa (gL c e f) h,_,0,(r.drop (HT.eE c.length 0 e)).take (HT.eE c.length c.length f-HT.eE c.length 0 e),P' _ rfl⟩
def j6:V->Bool
 | .bM=>true
 | .bl _=>true
 | .int _=>true
 | .str _=>true
 |_=>false
def Lo:V->V->Bool
 | .bM,.bM=>true
 | .bl a,.bl b=>a==b
 | .bl a,.int b=>(if a then 1 else 0)==b
 | .int a,.bl b=>a==(if b then 1 else 0)
 | .int a,.int b=>a==b
 | .str a,.str b=>a==b
 |_,_=>false
theorem GZ{A:Around}{s:Shared}{y x:V}{u v:Value}(e:RelV y u)(c:RelV x v)(g:j6 y=true)(f:j6 x=true):SeqAt.EqAt A s u v (Lo y x):=by
 cases y with
 |bM=>
  cases e
  cases x with
  |bM=>cases c;calc SeqAt.EqAt.same _
  |bl b=>cases c;calc SeqAt.EqAt.none_bool b
  |int b=>obtain⟨t,rfl⟩:=c;calc SeqAt.EqAt.none_int b t
  |str b=>obtain⟨t,rfl⟩:=c;calc SeqAt.EqAt.none_str b t
  |_=>calc absurd (show false=true from f) T'
 |bl a=>
  cases e
  cases x with
  |bM=>cases c;calc SeqAt.EqAt.bool_none a
  |bl b=>cases c;calc SeqAt.EqAt.bool_bool a b
  |int b=>obtain⟨t,rfl⟩:=c;calc SeqAt.EqAt.bool_int a b t
  |str b=>obtain⟨t,rfl⟩:=c;calc SeqAt.EqAt.bool_str a b t
  |_=>calc absurd (show false=true from f) T'
 |int a=>
  obtain⟨d,rfl⟩:=e
  cases x with
  |bM=>cases c;calc SeqAt.EqAt.int_none a d
  |bl b=>cases c;calc SeqAt.EqAt.int_bool a d b
  |int b=>obtain⟨t,rfl⟩:=c;calc SeqAt.EqAt.int_int a d b t
  |str b=>obtain⟨t,rfl⟩:=c;calc SeqAt.EqAt.int_str a d b t
  |_=>calc absurd (show false=true from f) T'
 |str a=>
  obtain⟨d,rfl⟩:=e
  cases x with
  |bM=>cases c;calc SeqAt.EqAt.str_none a d
  |bl b=>cases c;calc SeqAt.EqAt.str_bool a d b
  |int b=>obtain⟨t,rfl⟩:=c;calc SeqAt.EqAt.str_int a d b t
  |str b=>obtain⟨t,rfl⟩:=c;calc SeqAt.EqAt.str_str a d b t
  |_=>calc absurd (show false=true from f) T'
 |_=>calc absurd (show false=true from g) T'
def Mn(x:V)(u:Value):Bool:=match u with
 | .none=>Lo .bM x
 | .bool b=>Lo (.bl b) x
 | .int i _=>Lo (.int i) x
 | .str z _=>Lo (.str z) x
 |_=>false
theorem G9{x y:V}{u:Value}(r:RelV y u)(f:j6 y=true):Mn x u=Lo y x:=by
 cases y with
 |bM=>cases r;rfl
 |bl b=>cases r;rfl
 |int i=>obtain⟨t,rfl⟩:=r;rfl
 |str z=>obtain⟨t,rfl⟩:=r;rfl
 |_=>calc absurd (show false=true from f) T'
theorem xa{x:V}:∀{xs:List V}{us:List Value},Vals xs us->xs.all j6=true->us.any (Mn x)=xs.any λy=>Lo y x
 |_,_,.nil,_=>rfl
 |y::xs,u::us,.cons r t,f=>by
  rw[List.all_cons,Bool.and_eq_true]at f;rw[List.any_cons,List.any_cons,G9 r f.1,xa t f.2]
theorem tq{A:Around}{s:Shared}{x:V}{v:Value}(b:RelV x v)(c:j6 x=true):∀{xs:List V}{us:List Value},Vals xs us->xs.all j6=true->∀u∈us,SeqAt.EqAt A s u v (Mn x u)
 |_,_,.nil,_=>λu a=>by cases a
 |y::xs,u::us,.cons r t,f=>λd a=>by
  rw[List.all_cons,Bool.and_eq_true]at f;rcases List.mem_cons.mp a with rfl|a
  ·rw[G9 r f.1];exact GZ r b f.1 c
  ·calc tq b c t f.2 d a
def CM(x:V)(xs:List V):Bool:=xs.any λy=>Lo y x
def rIn(K:W.Frag)(a:Bool):R2:=λx y H Q=>∃p xs,y=.ref p/\(aM K H p xs\/bG K H p xs)/\j6 x=true/\xs.all j6=true/\Q (.bl (if a then !CM x xs else CM x xs)) H
theorem EN:gK X (compareOp .In) (rIn X.K false):=by
 intro b s σ H x y v u Q I f d h;obtain⟨p,e,rfl,a,g,c,q⟩:=h
 cases d;rcases a with a|a
 ·obtain⟨b,r,d,h⟩:=I.list a;calc SeqAt.in_listAt (Mn x) d.isList (λw e=>tq f g r c w (by simpa using e)) ⟨.bl _,H,I,rfl,?_⟩;rw[show b.toArray.any (Mn x)=b.any (Mn x) by simp,xa r c];exact q
 ·obtain⟨b,r,d,h⟩:=I.tuple a;calc SeqAt.in_tupleAt (Mn x) d (λw e=>tq f g r c w (by simpa using e)) ⟨.bl _,H,I,rfl,?_⟩;rw[show b.toArray.any (Mn x)=b.any (Mn x) by simp,xa r c];calc q
theorem xb:eQ X (.type "list") (λxs H Q=>∃p d,xs=[.ref p]/\(aM X.K H p d\/bG X.K H p d)/\∀l,H l=none->Q (.ref l) (upd H l (.lst d))):=by
 intro i s σ H xs o Q I r h;obtain⟨p,d,rfl,j,q⟩:=h;obtain⟨u,rfl,n⟩:=vals1 r
 cases n;have k:∀(c:List Value),Vals d c->d.length<=sizeLine->∀(a:Heap) (f:Nat),(∀b h,s.heap.get? b=some h->a.get? b=some h)->
   a.get? s.heap.objs.size=some {cls:=.type "list",dict:=none,data:=.seq c.toArray f,slots:=#[]}->EP X i σ Q (.ref s.heap.objs.size) {s with heap:=a}:=λc g m a f t e=>
  ⟨.ref s.heap.objs.size,_,I.laid (t':=s.toks) t (E' _) (show cC X.prog X.w _ a _ (.lst d) from⟨m,c,f,g,e⟩),rfl,q _ (I.aY.fresh (E' _))⟩
 rcases j with j|j
 ·obtain⟨c,g,h,m⟩:=I.list j;have d:=g.length;obtain⟨o,i,l,n,q⟩:=h.isList;exact call_list_seq p (.inl rfl) i l q (λa f t e=>k c g m a f t e) (by simp only[List.size_toArray]<;>lia)
 ·obtain⟨c,g,h,m⟩:=I.tuple j;have d:=g.length;obtain⟨o,i,l,n,q⟩:=h;calc call_list_seq p (.inr rfl) i l q (λa f t e=>k c g m a f t e) (by simp only[List.size_toArray]<;>lia)
theorem nB:eQ X (.type "tuple") (λxs H Q=>∃p c,xs=[.ref p]/\((aM X.K H p c/\∀l,H l=none->Q (.ref l) (upd H l (.tup c)))\/(bG X.K H p c/\Q (.ref p) H))):=by
 intro a s σ H xs e Q I r h;obtain⟨p,c,rfl,h⟩:=h;obtain⟨u,rfl,d⟩:=vals1 r
 cases d;rcases h with⟨f,q⟩|⟨f,q⟩
 ·obtain⟨g,h,i,j⟩:=I.list f;have d:=h.length;calc call_tuple_list i.isList (λd e=>?_) (by simp only[List.size_toArray]<;>lia);have k:Inv X a σ H {s with heap:=d}:=I.kept (t':=s.toks) e;have m:Inv X a σ (upd H d.objs.size (.tup c)) {s with heap:=d.push {cls:=.type "tuple",data:=.seq g.toArray}}:=
   k.laid (t':=s.toks) (λb o e=>F' _ e) (E' _) (show cC X.prog X.w _ _ _ (.tup c) from⟨j,g,h,IsTup.new _ _⟩)
  exact⟨.ref d.objs.size,_,m,rfl,q _ (k.aY.fresh (E' _))⟩
 ·obtain⟨g,h,i,j⟩:=I.tuple f;calc call_tuple_same i ⟨.ref p,H,I,rfl,q⟩
def tyV(K:W.Frag)(T:String)(x:V)(H:Hp):Prop:=match x with
 | .str _=>T="str"
 | .int _=>T="int"
 | .ref p=>(T="list"/\∃xs,aM K H p xs)\/(T="tuple"/\∃o,K.lookup p=some o/\o.cls=.type "tuple"/\o.dict=none)\/
   (T="dict"/\((∃a,H p=some (.dK a))\/∃a,H p=some (.dT a)))\/(T="set"/\∃S n,H p=some (.set S n))
 |_=>False
theorem Ha{pins:List (Addr×Obj)}{σ:St}{H:Hp}{s:Shared}{T:String}{x:V}{v:Value}(I:Inv X pins σ H s)(r:RelV x v)(f:tyV X.K T x H):
  s.TypeIs v T/\∀a,v=.ref a->∃c,s.heap.get? a=some c/\c.dict=none:=by
 cases x with
 |str z=>
  obtain⟨t,rfl⟩:=r
  cases(show T="str" from f);exact⟨typeIs_str s z t,λ_ e=>nomatch e⟩
 |int i=>
  obtain⟨t,rfl⟩:=r
  cases(show T="int" from f);exact⟨typeIs_int s i t,λ_ e=>nomatch e⟩
 |ref p=>
  cases r;rcases f with⟨rfl,m,k⟩|⟨rfl,o,b,l,g⟩|⟨rfl,b⟩|⟨rfl,S,n,b⟩
  ·obtain⟨c,_,j,_⟩:=I.list k;refine⟨j.isList.typeIs,λa e=>?_⟩
   cases e;obtain⟨o,n,e,c,g,_⟩:=j;exact⟨o,e,g⟩
  ·refine⟨⟨o,I.k7 p o b,l⟩,λa e=>?_⟩
   cases e;exact⟨o,I.k7 _ o b,g⟩
  ·have z:∃o,s.heap.get? p=some o/\o.ExactDict:=by
    rcases b with⟨c,b⟩|⟨c,b⟩
    ·obtain⟨_,_,_,_,o,_,_,e,d,_⟩:=I.aY p _ b;exact⟨o,e,d⟩
    ·obtain⟨_,_,_,_,o,_,_,e,d,_⟩:=I.aY p _ b;exact⟨o,e,d⟩
   obtain⟨o,e,d⟩:=z;refine⟨⟨o,e,d.1⟩,λa h=>?_⟩
   cases h;exact⟨o,e,d.2.1⟩
  ·obtain⟨o,_,_,_,e,d,_⟩:=I.aY p _ b;refine⟨⟨o,e,d.1⟩,λa h=>?_⟩
   cases h;calc⟨o,e,d.2.1⟩
 |_=>calc aai f
def Q1(K:W.Frag)(T:String)(r:V->List V->Hp->VK->Prop)(b:TE):TE:=λσ H Q=>b σ H λx a=>tyV K T x a/\r x [] a Q
def tBM(K:W.Frag)(T:String)(r:V->List V->Hp->VK->Prop)(b:TE)(t:TA):TE:=λσ H Q=>b σ H λx a=>tyV K T x a/\t σ a λxs b=>r x xs b Q
variable {o e:Expr}{es:List Expr}{to:TE}{t:TA}{name:Str}{apos qd:Pos}{T id:String}{r:V->List V->Hp->VK->Prop}
theorem Q2(d:PlainAttrs T)(a:Slot T name id)(e:typeOf (.builtin id)=pure (.type "method_descriptor"))(f:VM X id r)(b:PE X o to)
  (c:attributeBase o name X.env (eval o X.env)=eval o X.env:=by rfl) (g:(apos.endLine==qd.line)=true:=by rfl):PE X (.Call (.Attribute o name apos) [] [] qd) (Q1 X.K T r to):=by
 walk_at "xc";refine wpAny_Call_method0_late c g (dy (b pins s σ H _ I h) λv i j=>?_);obtain⟨x,g,b,c,k,l⟩:=j;obtain⟨m,n⟩:=Ha b c k;exact⟨T,id,d,a,e,m,n,Calls.callWith_builtin rfl (PySem.evalArgs_none (f pins i σ g x [] v [] Q b c .nil l))⟩
theorem dz(f:PlainAttrs T)(a:Slot T name id)(g:typeOf (.builtin id)=pure (.type "method_descriptor"))(i:VM X id r)(b:PE X o to)(j:PA X (e::es) t)
  (c:attributeBase o name X.env (eval o X.env)=eval o X.env:=by rfl)
  (d:((backTo qd (starEach (e::es) X.env)).all (λx=> !x.1) && (backToKw qd (keywordEach [] X.env)).all (λx=>x.1.isSome)
   && decide ((e::es).length + ([]:List Keyword).length + (if ([]:List Keyword).isEmpty then 0 else 1) < 30))=true:=by rfl)
  (k:(apos.endLine==qd.line)=true:=by rfl) (l:starEach (e::es) X.env=(false,eval e X.env)::starEach es X.env:=by rfl) (hplain:(backTo qd (starEach es X.env)).any (·.1)=false:=by rfl):
  PE X (.Call (.Attribute o name apos) (e::es) [] qd) (tBM X.K T r to t):=by
 walk_at "xc";refine wpAny_Call_method_late c d k rfl (dy (b pins s σ H _ I h) λv m n=>?_);obtain⟨x,k,b,c,p,q⟩:=n;obtain⟨u,w⟩:=Ha b c p;refine⟨T,id,f,a,g,u,w,?_⟩;have d:=j qd pins m σ k _ b q;rw[l]at d ⊢;refine Calls.callWith_builtin (by show(false||(backTo qd (starEach es X.env)).any (·.1))=false;rw[hplain]<;>rfl) (Calls.evalArgs_plain ?_);exact dy d λa f ⟨g,n,p,u,w⟩=>i pins f σ n x g v a Q p c u w
end
end
section
def MtM(X:Cx)(a:String)(r:V->List V->Hp->VK->Prop):Prop:=
 ∀(pins:List (Addr×Obj)) (s:Shared) (σ:St) (H:Hp) (x:V) (xs:List V) (v:Value) (us:List Value) (Q:VK),Inv X pins σ H s->RelV x v->Vals xs us->r x xs H Q->
  wpAny (model X.prog X.w) X.A (call (.builtin a) (v::us)) (EP X pins σ Q) X.xe s
theorem Vals.one:∀{x:V}{us:List Value},Vals [x] us->∃u,us=[u]/\RelV x u
 |_,_,.cons r .nil=>⟨_,rfl,r⟩
theorem Vals.two:∀{x y:V}{us:List Value},Vals [x,y] us->∃u v,us=[u,v]/\RelV x u/\RelV y v
 |_,_,_,.cons r (.cons q .nil)=>⟨_,_,rfl,r,q⟩
theorem Vals.zero:∀{us:List Value},Vals [] us->us=[]
 |_,.nil=>rfl
theorem Vals.dropLast{xs:List V}{us:List Value}(h:Vals xs us):Vals xs.dropLast us.dropLast:=by
 induction h with
 |nil=>calc .nil
 |cons r t a=>
  cases t with
  |nil=>calc .nil
  |cons q b=>calc .cons r a
theorem Vals.eraseIdx:∀{xs:List V}{us:List Value}(i:Nat),Vals xs us->Vals (xs.eraseIdx i) (us.eraseIdx i)
 |_,_,_,.nil=>.nil
 |_,_,0,.cons _ t=>t
 |_,_,i+1,.cons r t=>.cons r (Vals.eraseIdx i t)
theorem Bn{α:Type}(l:List α):l.eraseIdx (l.length-1)=l.dropLast:=by
 induction l with
 |nil=>rfl
 |cons a r c=>
  cases r with
  |nil=>rfl
  |cons b r=>
   have e:(a::b::r).length-1=((b::r).length-1)+1:=by
    have d:(a::b::r).length=r.length+2:=rfl;have a:(b::r).length=r.length+1:=rfl;lia
   rw[e,List.eraseIdx_cons_succ,c]
   all_goals rfl
theorem vR{α:Type}:∀(l:List α) (i:Nat),(l.eraseIdx i).length<=l.length
 | [],_=>E' _
 |_::_,0=>Nat.le_succ _
 |_::r,i+1=>Nat.succ_le_succ (vR r i)
section
variable {X:Cx}{pins:List (Addr×Obj)}{σ:St}{H:Hp}{s:Shared}{l b:Addr}{xs ys zs:List V}
theorem Inv.Mp{a lJ:List Value}{n:Nat}{f:Array Value->Array Value}{t':Nat}(I:Inv X pins σ H s)(b:H l=some (.lst xs))
  (e:s.heap.get? l=some {cls:=.type "list",data:=.seq a.toArray n}) (c:f a.toArray=lJ.toArray) (d:Vals ys lJ) (g:ys.length<=sizeLine):
  Inv X pins σ (upd H l (.lst ys)) {s with heap:=s.heap.update l (Obj.mapSeq f),toks:=t'}:=by
 have q:=PySem.IsL.update e f;rw[c]at q;calc I.write (x:=l) (e:=l) (by rw[b];calc trivial) (.inl rfl) (λe u a c=>(Heap.get?_update_other s.heap (Obj.mapSeq f) (Ne.symm a)).trans c) ⟨_,q⟩ ?_;calc⟨g,lJ,_,d,q⟩
theorem Inv.abG{a:List Value}{t':Nat}(I:Inv X pins σ H s)(b:Vals ys a)(c:ys.length<=sizeLine):
  Inv X pins σ (upd H s.heap.objs.size (.lst ys)) {s with heap:=s.heap.push {cls:=.type "list",data:=.seq a.toArray},toks:=t'}:=
 I.laid (λ_ _ q=>F' _ q) (E' _) ⟨c,a,0,b,P' _ rfl⟩
theorem Inv.fresh(I:Inv X pins σ H s):H s.heap.objs.size=none:=I.aY.fresh (E' _)
theorem Inv.Bo(I:Inv X pins σ H s)(b:H l=some (.lst xs)):xs.length<=sizeLine/\∃(a:List Value) (n:Nat),Vals xs a/\xs.length=a.length/\s.heap.get? l=some {cls:=.type "list",data:=.seq a.toArray n}:=by
 obtain⟨z,a,n,r,e⟩:=I.aY l _ b;calc⟨z,a,n,r,r.length,e⟩
theorem Hb{n:Nat}(h:n<=sizeLine):Builtin.List.listTooLong n=false:=by
 unfold Builtin.List.listTooLong;calc decide_eq_false ()
end
section
variable {X:Cx}
def Mq:V->List V->Hp->VK->Prop:=λx vs H Q=>∃l xs y,x=.ref l/\vs=[y]/\H l=some (.lst xs)/\xs.length<sizeLine/\Q .bM (upd H l (.lst (xs++[y])))
theorem vS:MtM X "list.append" Mq:=by
 intro a s σ H x e v f Q I c d h;obtain⟨l,g,y,rfl,rfl,b,i,q⟩:=h
 cases c;obtain⟨u,rfl,f⟩:=d.one;obtain⟨z,a,n,r,c,e⟩:=I.Bo b;calc call_meets F.slot_list_append ⟨_,e,rfl⟩ F.entry_list_append (F.args_list_append_2 _ _) (PySem.list_append l a.toArray n u (by rw[aaF];lia)) ⟨e,?_⟩;calc⟨.bM,_,I.Mp (lJ:=a++[u]) b e nofun (r.append (.cons f .nil)) ?_,rfl,q⟩;rw[List.length_append,List.length_singleton];lia
def Mr:V->List V->Hp->VK->Prop:=λx vs H Q=>∃l b xs a,x=.ref l/\vs=[.ref b]/\H l=some (.lst xs)/\H b=some (.lst a)/\xs.length+a.length<=sizeLine/\Q .bM (upd H l (.lst (xs++a)))
theorem EO:MtM X "list.extend" Mr:=by
 intro a s σ H x e v j Q I c d h;obtain⟨l,b,k,m,rfl,rfl,f,g,n,q⟩:=h
 cases c;obtain⟨u,rfl,i⟩:=d.one
 cases i;obtain⟨z,a,n,r,c,e⟩:=I.Bo f;obtain⟨d,c,h,i,k,j⟩:=I.Bo g;have d:a.toArray.size+c.toArray.size<=sizeLine:=by rw[aaF,aaF];lia
 have g:¬(!a.toArray.isEmpty&&Builtin.List.listTooLong (a.toArray.size+c.toArray.size))=true:=by
  rw[Hb d,Bool.and_false];exact T'
 refine call_meets F.slot_list_extend ⟨_,e,rfl⟩ F.entry_list_extend (F.args_list_extend_2 _ _)
  (AutoSeq1.list_extend_list_list_0 l a.toArray n b c.toArray h g (by rw[aaF];lia) ()) ⟨e,j,?_⟩
 calc⟨.bM,_,I.Mp (lJ:=a++c) f e nofun (r.append i) ?_,rfl,q⟩;rw[List.length_append];lia
def abH:V->List V->Hp->VK->Prop:=λx vs H Q=>∃l xs y,x=.ref l/\vs=[]/\H l=some (.lst xs)/\xs[xs.length-1]?=some y/\Q y (upd H l (.lst xs.dropLast))
theorem Q3:MtM X "list.pop" abH:=by
 intro a s σ H x e v i Q I d f h;obtain⟨l,j,y,rfl,rfl,c,g,q⟩:=h
 cases d;have b:=f.zero;subst b;obtain⟨z,a,n,r,d,e⟩:=I.Bo c;obtain⟨u,b,f⟩:=r.get g;have h:a.toArray[a.toArray.size-1]?=some u:=by
  show a.toArray[a.length-1]?=some u;rw[<-Array.getElem?_toList,<-d];exact b
 calc call_meets F.slot_list_pop ⟨_,e,rfl⟩ F.entry_list_pop (F.args_list_pop_1 _) (MeetsSeq.list_pop_last l a.toArray n u h (by rw[aaF];lia)) ⟨e,?_⟩;refine⟨y,_,I.Mp (lJ:=a.dropLast) c e ?_ r.dropLast ?_,f,q⟩
 ·show a.toArray.eraseIdxIfInBounds (a.toArray.size-1)=a.dropLast.toArray;rw[aaF,List.eraseIdxIfInBounds_toArray,Bn]
 ·rw[List.length_dropLast];lia
def abI:R2:=λx y H Q=>∃l b xs a,x=.ref l/\y=.ref b/\H l=some (.lst xs)/\H b=some (.lst a)/\xs.length+a.length<=sizeLine/\∀p,H p=none->Q (.ref p) (upd H p (.lst (xs++a)))
theorem Q4:gK X (binaryOp .Add) abI:=by
 intro a s σ H x y v u Q I c d h;obtain⟨l,b,e,i,rfl,rfl,f,g,j,q⟩:=h
 cases c
 cases d;obtain⟨z,a,n,r,b,e⟩:=I.Bo f;obtain⟨h,b,i,c,j,d⟩:=I.Bo g;calc PySem.P.add_list e d ?_ (by rw[aaF,aaF];lia);have f:a.toArray++b.toArray=(a++b).toArray:=by simp
 rw[f];calc⟨.ref _,_,I.abG (t':=s.toks) (r.append c) (by rw[List.length_append];lia),rfl,q _ I.fresh⟩
theorem Hc{pins:List (Addr×Obj)}{s:Shared}{σ:St}{H:Hp}{l:Addr}{xs:List V}{i:Int}{t:Tok}{k:Nat}{Q:Unit->Shared->Prop}(I:Inv X pins σ H s)(b:H l=some (.lst xs))
  (c:-(2^63)<=i) (d:i<2^63) (f:seqIndex? i xs.length=some k) (h:∀s',Inv X pins σ (upd H l (.lst (xs.eraseIdx k))) s'->Q ⟨⟩ s'):
  wpAny (model X.prog X.w) X.A (delItem (.ref l) (.int i t)) Q X.xe s:=by
 obtain⟨z,a,n,r,g,e⟩:=I.Bo b;calc PySem.P.delItem_list (k:=k) e (fitsIndex_both c d) (by rw[aaF,<-g];calc f) (h _ ?_) (by rw[aaF];lia);refine I.Mp (lJ:=a.eraseIdx k) (t':=s.toks) b e ?_ (r.eraseIdx k) ?_
 ·show a.toArray.eraseIdxIfInBounds k=(a.eraseIdx k).toArray;rw[List.eraseIdxIfInBounds_toArray]
 ·have:=vR xs k;lia
end
section
variable {prog:Program}{w:World}{A:Around}{E:Value->Shared->Prop}{s:Shared}
set_option maxRecDepth 100000 in
end
section
variable {X:Cx}
end
end
section
variable {a:Addr}{X:Cx}{H H':Hp}{bf:List (Key×V)}{xs:List (List Key×Addr×Value)}{AK:List (TE×TE)}{pos:Pos}{Q:Value->Shared->Prop}
section
variable {κ:Type} [DecidableEq κ]
def gb(bf:List (κ×V))(k:κ):Option V:=(bf.find? λa=>decide (a.1=k)).map (·.2)
def putK(bf:List (κ×V))(k:κ)(v:V):List (κ×V):=
 if (bf.any λa=>decide (a.1=k))=true then bf.map (λa=>if a.1=k then(a.1,v) else a) else bf++[(k,v)]
theorem Hd{k:κ}:gb ([]:List (κ×V)) k=none:=rfl
theorem eR{p:κ×V}{r:List (κ×V)}{k:κ}(e:p.1=k):gb (p::r) k=some p.2:=by simp[gb,List.find?_cons,e]
theorem eS{p:κ×V}{r:List (κ×V)}{k:κ}(e:¬p.1=k):gb (p::r) k=gb r k:=by simp[gb,List.find?_cons,e]
theorem j7(k:κ):∀bf:List (κ×V),(bf.any λa=>decide (a.1=k))=(gb bf k).isSome
 | []=>rfl
 |p::r=>by
  rw[List.any_cons];by_cases e:p.1=k
  ·simp only[eR e,decide_eq_true e,Bool.true_or,Option.isSome_some]
  ·rw[eS e,decide_eq_false e,Bool.false_or];calc j7 k r
theorem yO(k j:κ)(y:V):∀bf:List (κ×V),gb (bf.map λa=>if a.1=k then(a.1,y) else a) j=(gb bf j).map λx=>if j=k then y else x
 | []=>rfl
 |p::r=>by
  have a:=yO k j y r;rw[List.map_cons];by_cases h:p.1=k
  ·rw[if_pos h];by_cases e:p.1=j
   ·rw[eR (p:=(p.1,y)) e,eR e,Option.map_some,if_pos (e.symm.trans h)]
   ·rw[eS (p:=(p.1,y)) e,eS e,a]
  ·rw[if_neg h];by_cases e:p.1=j
   ·rw[eR (p:=p) e,eR e,Option.map_some,if_neg (λz=>h (e.trans z))]
   ·rw[eS (p:=p) e,eS e,a]
theorem vT(k j:κ)(y:V):∀bf:List (κ×V),gb bf k=none->gb (bf++[(k,y)]) j=if j=k then some y else gb bf j
 | [],_=>by
  by_cases e:k=j
  ·rw[if_pos e.symm];exact eR (p:=(k,y)) e
  ·rw[if_neg (λz=>e z.symm)];calc eS (p:=(k,y)) e
 |p::r,a=>by
  rw[List.cons_append];have b:¬p.1=k:=λz=>by rw[eR z]at a;cases a
  rw[eS b]at a;have c:=vT k j y r a;by_cases e:p.1=j
  ·rw[eR e,eR e,if_neg (λz=>b (e.trans z))]
  ·rw[eS e,eS e,c]
theorem He(bf:List (κ×V))(k j:κ)(y:V):gb (putK bf k y) j=if j=k then some y else gb bf j:=by
 unfold putK;by_cases a:(bf.any λb=>decide (b.1=k))=true
 ·rw[if_pos a,yO];rw[j7] at a;by_cases e:j=k
  ·obtain⟨x,b⟩:=Option.isSome_iff_exists.mp a;rw[if_pos e,e,b,Option.map_some,if_pos rfl]
  ·rw[if_neg e]
   cases gb bf j with
   |none=>rfl
   |some x=>rw[Option.map_some,if_neg e]
 ·rw[if_neg a];calc vT k j y bf ?_;rw[j7] at a
  cases q:gb bf k with
  |none=>rfl
  |some x=>rw[q]at a;calc(a rfl).elim
theorem lN(bf:List (κ×V))(k:κ)(v:V):(putK bf k v).length<=bf.length+1:=by
 unfold putK;split
 ·rw[aaC];lia
 ·rw[List.length_append,List.length_cons,List.length_nil];lia
theorem Hf{bf:List (κ×V)}{k:κ}(v:V)(h:gb bf k=none):putK bf k v=bf++[(k,v)]:=by
 unfold putK;rw[j7,h];calc if_neg ∅
theorem nj.qe{o:Option V}{u:Option Value}(r:nj o u):o.isSome=u.isSome:=by
 cases o with
 |none=>cases u with
  |none=>rfl
  |some _=>calc(show False from r).elim
 |some _=>cases u with
  |none=>calc(show False from r).elim
  |some _=>rfl
theorem KV.val{bf:List (κ×V)}{vs:List (κ×Value)}(r:KV bf vs)(k:κ):nj (gb bf k) (valueAt vs k):=by
 unfold KV at r;induction r with
 |nil=>calc aaf
 | @cons p q b a h t g=>
  obtain⟨d,i⟩:=h;by_cases e:p.1=k
  ·have c:q.1=k:=d.symm.trans e;have b:valueAt (q::a) k=some q.2:=by simp[valueAt,List.find?_cons,c]
   rw[eR e,b];exact i
  ·have c:¬q.1=k:=λz=>e (d.trans z);have b:valueAt (q::a) k=valueAt a k:=by simp[valueAt,List.find?_cons,c]
   rw[eS e,b];calc g
theorem KV.any{bf:List (κ×V)}{vs:List (κ×Value)}(r:KV bf vs)(k:κ):(bf.any λa=>decide (a.1=k))=vs.any λa=>decide (a.1=k):=by
 unfold KV at r;induction r with
 |nil=>rfl
 |cons h t a=>rw[List.any_cons,List.any_cons,a,h.1]
theorem KV.Q5{bf:List (κ×V)}{vs:List (κ×Value)}(r:KV bf vs)(k:κ){y:V}{u:Value}(b:RelV y u):
  KV (bf.map λa=>if a.1=k then(a.1,y) else a) (vs.map λa=>if a.1=k then(a.1,u) else a):=by
 unfold KV at r ⊢;induction r with
 |nil=>calc .nil
 | @cons p q a d h t c=>
  rw[List.map_cons,List.map_cons];calc .cons ?_ c;obtain⟨a,d⟩:=h;by_cases e:p.1=k
  ·rw[if_pos e,if_pos (a.symm.trans e)];exact⟨a,b⟩
  ·rw[if_neg e,if_neg (λz=>e (a.trans z))];calc⟨a,d⟩
theorem KV.put{bf:List (κ×V)}{vs:List (κ×Value)}(r:KV bf vs)(k:κ){y:V}{u:Value}(a:RelV y u):KV (putK bf k y) (stored vs k u):=by
 unfold putK stored;rw[r.any k];by_cases e:(vs.any λb=>decide (b.1=k))=true
 ·rw[if_pos e,if_pos e];exact r.Q5 k a
 ·rw[if_neg e,if_neg e];calc Paired.snoc r ⟨rfl,a⟩
theorem KV.length{bf:List (κ×V)}{vs:List (κ×Value)}(r:KV bf vs):bf.length=vs.length:=Paired.length r
end
theorem yP{P:Program}{w:World}{k:Key}{u:Value}(r:RelV (kV k) u):(dH P w).is k u=true:=by
 cases k with
 |inl i=>obtain⟨t,e⟩:=(show ∃t,u=Value.int i t from r);subst e;calc yF P w i t
 |inr x=>obtain⟨t,e⟩:=(show ∃t,u=Value.str x t from r);subst e;calc yG P w x t
theorem vU{P:Program}{w:World}:∀{ks:List Key}{us:List Value},Vals (ks.map kV) us->ItemsAre (dH P w) ks us
 | [],_,r=>by rw[List.map_nil]at r;cases r;calc .nil
 |k::ks,_,r=>by
  rw[List.map_cons]at r
  cases r with
  |cons h t=>calc .cons (yP h) (vU t)
abbrev KT(H:Hp):List (List Key×V)->List (List Key×Addr×Value)->Prop:=Paired λp q=>p.1=q.1/\H q.2.1=some (.tup (p.1.map kV))/\RelV p.2 q.2.2
theorem KT.val{H:Hp}{bf:List (List Key×V)}{xs:List (List Key×Addr×Value)}(r:KT H bf xs)(k:List Key):nj (gb bf k) ((atKey xs k).map (·.2)):=by
 induction r with
 |nil=>calc aaf
 | @cons p q b a h t g=>
  obtain⟨d,_,i⟩:=h;by_cases e:p.1=k
  ·have c:q.1=k:=d.symm.trans e;have b:atKey (q::a) k=some q.2:=by simp[atKey,List.find?_cons,c]
   rw[eR e,b];exact i
  ·have c:¬q.1=k:=λz=>e (d.trans z);have b:atKey (q::a) k=atKey a k:=by simp[atKey,List.find?_cons,c]
   rw[eS e,b];calc g
theorem KT.Q5{H:Hp}{bf:List (List Key×V)}{xs:List (List Key×Addr×Value)}(r:KT H bf xs)(k:List Key){y:V}{u:Value}(c:RelV y u):
  KT H (bf.map λa=>if a.1=k then(a.1,y) else a) (xs.map (putAt k u)):=by
 induction r with
 |nil=>calc .nil
 | @cons p q a b h t d=>
  rw[List.map_cons,List.map_cons];calc .cons ?_ d;obtain⟨a,b,g⟩:=h;unfold putAt;by_cases e:p.1=k
  ·rw[if_pos e,if_pos (a.symm.trans e)];exact⟨a,b,c⟩
  ·rw[if_neg e,if_neg (λz=>e (a.trans z))];calc⟨a,b,g⟩
theorem KT.put{bf:List (List Key×V)}(r:KT H bf xs)(k:List Key){b:Addr}{y:V}{u:Value}(c:H b=some (.tup (k.map kV)))(a:RelV y u):
  KT H (putK bf k y) (storedH xs k b u):=by
 have e:(bf.any λb=>decide (b.1=k))=(atKey xs k).isSome:=by
  rw[j7,(r.val k).qe,Option.isSome_map]
 unfold putK storedH;rw[e];by_cases q:(atKey xs k).isSome=true
 ·rw[if_pos q,if_pos q];exact r.Q5 k a
 ·rw[if_neg q,if_neg q];calc Paired.snoc r ⟨rfl,c,a⟩
theorem KT.keeps{bf:List (List Key×V)}(r:KT H bf xs)(c:∀b a,H b=some (.tup a)->H' b=some (.tup a)):KT H' bf xs:=
 Paired.Qp r λ_ _ z=>⟨z.1,c _ _ z.2.1,z.2.2⟩
section
variable {P:Program}{w:World}{H:Hp}{h:Heap}{a:Addr}
theorem OB{u:HO}(ok:nN P w H h)(e:Rd H a u):cC P w H h a u:=e.ok ok
theorem CP(b:nN P w H h)(e:Rd H a (.dK bf)):bf.length<=sizeLine/\(a==sysModules)=false/\∃vs,KV bf vs/\h.DictOf (dH P w) a vs:=
 show cC P w H h a (.dK bf) from OB b e
theorem Hg(b:nN P w H h)(e:H a=some (.dK bf)):bf.length<=sizeLine/\(a==sysModules)=false/\∃vs,KV bf vs/\h.DictOf (dH P w) a vs:=CP b (.inl e)
theorem xc{ks:List Key}(b:nN P w H h)(e:H a=some (.tup (ks.map kV))):(tupleKind (dH P w)).is h ks a:=by
 obtain⟨_,c,r,o,d,f,n,g⟩:=(show cC P w H h a (.tup (ks.map kV)) from b a _ e)
 calc⟨o,c.toArray,n,d,f,g,by simpa using vU r⟩
theorem CQ{bf:List (List Key×V)}(d:nN P w H h)(e:Rd H a (.dT bf)):bf.length<=sizeLine/\(a==sysModules)=false/\
  ∃xs,KT H bf xs/\h.DictOfH (tupleKind (dH P w)) a xs:=by
 obtain⟨z,y,xs,r,o,g,i,j,k,n,p,s⟩:=(show cC P w H h a (.dT bf) from OB d e)
 calc⟨z,y,xs,r,o,g,i,j,k,n,p,λx b=>?_,s⟩;have c:∀{l:List (List Key×V)} {m:List (List Key×Addr×Value)},KT H l m->∀x∈m,(tupleKind (dH P w)).is h x.1 x.2.1:=by
  intro l m q;induction q with
  |nil=>intro x b;calc nomatch b
  | @cons p q g i f t u=>
   intro x b;rcases List.mem_cons.mp b with e|b
   ·subst e;exact xc d (by rw[<-f.1];calc f.2.1)
   ·exact u x b
 calc c r x b
theorem VS{bf:List (List Key×V)}(b:nN P w H h)(e:H a=some (.dT bf)):bf.length<=sizeLine/\(a==sysModules)=false/\
  ∃xs,KT H bf xs/\h.DictOfH (tupleKind (dH P w)) a xs:=CQ b (.inl e)
end
def ji(H:Hp)(a:Addr)(y:V)(r:Option V):Prop:=
 (∃bf k,Rd H a (.dK bf)/\y=kV k/\r=gb bf k)\/∃bf k b,Rd H a (.dT bf)/\y=.ref b/\H b=some (.tup (k.map kV))/\r=gb bf k
def Bp(H:Hp)(a:Addr)(y v:V)(H':Hp):Prop:=
 (∃bf k,H a=some (.dK bf)/\y=kV k/\bf.length<sizeLine/\H'=upd H a (.dK (putK bf k v)))\/
 ∃bf k b,H a=some (.dT bf)/\y=.ref b/\H b=some (.tup (k.map kV))/\bf.length<sizeLine/\H'=upd H a (.dT (putK bf k v))
theorem ji.k{k:Key}(e:H a=some (.dK bf)):ji H a (kV k) (gb bf k):=.inl ⟨bf,k,.inl e,rfl,rfl⟩
theorem Bp.k{k:Key}{v:V}(e:H a=some (.dK bf))(b:bf.length<sizeLine):Bp H a (kV k) v (upd H a (.dK (putK bf k v))):=.inl ⟨bf,k,e,rfl,b,rfl⟩
section
variable {X:Cx}{pins:List (Addr×Obj)}{σ:St}{H:Hp}{s:Shared}{a:Addr}{y v:V}{u r:Value}{o:Option V}{A:Around}{E:Value->Shared->Prop}
theorem Inv.big(I:Inv X pins σ H s):sysModules<s.heap.objs.size:=by
 have h:mainGlobals<s.heap.objs.size:=(I.mod.glob.keeps I.bk).lt;calc Nat.lt_trans ∅ h
theorem vV(n:A.units+1<cLine)(I:Inv X pins σ H s)(g:ji H a y (some v))(m:RelV y u)(h:∀w' s',Inv X pins σ H s'->RelV v w'->Q w' s'):
  wpAny (model X.prog X.w) A (getItem (.ref a) u) Q E s:=by
 rcases g with⟨bf,k,e,d,l⟩|⟨bf,k,b,e,d,q,l⟩
 ·subst d;obtain⟨z,p,g,c,f⟩:=CP I.aY e;obtain⟨w',i,j⟩:=nj.some_of (v:=v) (o:=valueAt g k) (by rw[l];calc c.val k);exact wpAny_getItem_of (yP m) f.mapOf i (h w' _ (I.tok _) j)
 ·subst d
  cases(show u=Value.ref b from m);obtain⟨z,p,xs,c,f⟩:=CQ I.aY e;obtain⟨w',i,j⟩:=nj.some_of (v:=v) (o:=(atKey xs k).map (·.2)) (by rw[l];calc c.val k);obtain⟨p,b,d⟩:=Option.map_eq_some_iff.mp i;calc wpAny_getItem_heap (tupleKind_room_in1 n) (xc I.aY q) f b ?_;rw[d];calc h w' _ (I.tok _) j
theorem Ms(m:A.units+1<cLine)(I:Inv X pins σ H s)(g:ji H a y o)(j:RelV y u)(h:∀s',Inv X pins σ H s'->Q (.bool (!o.isSome)) s'):
  wpAny (model X.prog X.w) A (compareOp .NotIn u (.ref a)) Q E s:=by
 rcases g with⟨bf,k,e,d,l⟩|⟨bf,k,b,e,d,n,l⟩
 ·subst d;obtain⟨z,f,g,c,i⟩:=CP I.aY e;calc wpAny_notIn_of (yP j) f i.mapOf ?_;rw[<-(c.val k).qe,<-l];exact h _ (I.tok _)
 ·subst d
  cases(show u=Value.ref b from j);obtain⟨z,f,xs,c,i⟩:=CQ I.aY e;calc wpAny_notIn_heap (tupleKind_room_in1 m) (xc I.aY n) f i ?_;have q:=(c.val k).qe;rw[Option.isSome_map]at q;rw[<-q,<-l];calc h _ (I.tok _)
theorem xf{h':Heap}{t':Nat}{b:HO}(I:Inv X pins σ H s)(d:Vl (H a))(f:Heap.SameBut a s.heap h')(he:∃q,h'.get? a=some q)(c:cC X.prog X.w (upd H a b) h' a b):
  Inv X pins σ (upd H a b) {s with heap:=h',toks:=t'}:=
 I.write (x:=a) (e:=a) d (.inl rfl) (λb q g z=>(f.2 b g).trans z) he c
theorem Hh{P:Program}{w:World}{h':Heap}{vs:List (Key×Value)}(z:bf.length<=sizeLine)(c:(a==sysModules)=false)(b:KV bf vs)(d:h'.DictOf (dH P w) a vs):
  cC P w H' h' a (.dK bf):=⟨z,c,vs,b,d⟩
theorem ER{Q:Unit->Shared->Prop}(G:A.units+1<cLine)(I:Inv X pins σ H s)(g:Bp H a y v H')(B:RelV y u)(C:RelV v r)(h:∀s',Inv X pins σ H' s'->Q ⟨⟩ s'):
  wpAny (model X.prog X.w) A (setItem (.ref a) u r) Q E s:=by
 rcases g with⟨bf,k,e,c,l,j⟩|⟨bf,k,b,e,c,D,l,j⟩
 ·subst c j;obtain⟨z,m,g,d,n⟩:=Hg I.aY e;have o:g.length<=sizeLine:=by rw[<-d.length];exact z
  have p:(putK bf k v).length<=sizeLine:=by have:=lN bf k v;lia
  calc wpAny_setItem_pairs (hsz:=o) (yP B) n λF f x=>h _ ?_;have g:∃q,F.get? a=some q:=let ⟨q,_,_,i,_⟩:=f;⟨q,i⟩
  exact xf I (by rw[e];calc aaf) x g (Hh p m (d.put k C) f)
 ·subst c j
  cases(show u=Value.ref b from B);obtain⟨z,m,xs,d,n⟩:=VS I.aY e;have o:xs.length<=sizeLine:=by rw[<-Paired.length d];exact z
  have p:(putK bf k v).length<=sizeLine:=by have:=lN bf k v;lia
  calc wpAny_setItem_heap (hsz:=o) (tupleKind_room_in1 G) (xc I.aY D) n λF f x=>h _ ?_;obtain⟨q,g,j,i,l,n,o,_,t⟩:=f;calc xf I (by rw[e];calc aaf) x ⟨q,i⟩ ⟨p,m,_,(d.put k D C).keeps λc h b=>?_,q,g,j,i,l,n,o,t⟩;rw[av (Cr b e (λz=>nomatch z))];calc b
end
section
variable {X:Cx}{pins:List (Addr×Obj)}{σ:St}{H:Hp}{s:Shared}{a:Addr}{bf:List (Key×V)}{k:Key}{u:Value}{A:Around}{E:Value->Shared->Prop}
end
def VT(i:Expr):Prop:=∀a b,subscripted i false a b=operate [a,b] (getItem a b)
theorem Mt{prog:Program}{w:World}{A:Around}{E:Value->Shared->Prop}{s:Shared}{env:Env}{b a:Expr}{T c:String}
  (j:typeLookup (.type T) "__getitem__"=pure (some (.builtin c))) (k:VT a)
  (h:wpAny (model prog w) A (eval b env) (λo d=>wpAny (model prog w) A (eval a env) (λi c=>c.TypeIs o T/\wpAny (model prog w) A (getItem o i) Q E c) E d) E s):
  wpAny (model prog w) A (eval (.Subscript b a pos) env) Q E s:=by
 calc Subscript_ (aae h (λo d e=>aae e (λi c d=>?_) λ_ _ x=>x) λ_ _ x=>x);obtain⟨g,d⟩:=d;unfold subscriptTail;calc A' ?_;rw[getitemInPython_of_ne g.not_modules];calc A' (wpAny_specialOf g j ?_);have f:wpAny (model prog w) A (subscripted a false o i) (λr e=>wpAny (model prog w) A (letTemporaryGo b o r >>= λ_=>pure r) Q E e) E c:=by
  rw[k o i];exact wpAny_operating (aae d (λr e a=>A' (wpAny_letTemporaryGo (K' a))) λ_ _ x=>x)
 first
  |calc K' (A' f)
  |calc A' (K' (A' f))
  |calc A' f
theorem rE{pins:List (Addr×Obj)}{σ:St}{s:Shared}{y:V}{o:Option V}(I:Inv X pins σ H s)(g:ji H a y o):s.TypeIs (.ref a) "dict":=by
 rcases g with⟨bf,k,e,_,_⟩|⟨bf,k,b,e,_,_,_⟩
 ·obtain⟨_,_,c,_,b⟩:=CP I.aY e;exact b.typeIs
 ·obtain⟨_,_,xs,_,b⟩:=CQ I.aY e;calc b.typeIs
def Hi(b c:TE):TE:=λσ H Q=>b σ H λx d=>c σ d λy b=>∃a v,x=.ref a/\ji b a y (some v)/\Q v b
def xg(b c:TE):TE:=λσ H Q=>b σ H λy d=>c σ d λx b=>∃a o,x=.ref a/\ji b a y o/\Q (.bl (!o.isSome)) b
def Hk(b c d:TE):TS:=λD σ H=>d σ H λv e=>b σ e λx d=>c σ d λy e=>∃a b,x=.ref a/\Bp e a y v b/\D.nx σ b
section
variable {X:Cx}{o i e value:Expr}{pos pos' QQ:Pos}{td ty tv:TE}
theorem xh(c:X.A.units+1<cLine)(d:PE X o td)(e:PE X i ty)(f:VT i):PE X (.Subscript o i pos) (Hi td ty):=by
 walk_at "xc";refine Mt PySem.F.slot_dict_getitem.lookup f (dy (d pins s σ H _ I h) λu j ⟨x,k,l,m,n⟩=>dy (e pins j σ k _ l n) λd f p=>?_);obtain⟨y,q,b,r,a,v,t,g,w⟩:=p;subst t;obtain rfl:u=Value.ref a:=m;exact⟨rE b g,vV c b g r λf j d e=>⟨v,q,d,e,w⟩⟩
theorem ES(b:X.A.units+1<cLine)(c:PE X i ty)(d:PE X o td):PC X .NotIn i o (xg ty td):=by
 walk_at "xc";refine dy (c pins s σ H _ I h) λw e ⟨y,f,j,k,l⟩=>dy (d pins e σ f _ j l) λu c m=>?_;obtain⟨x,n,p,q,a,r,t,g,v⟩:=m;subst t;obtain rfl:u=Value.ref a:=q;exact Ms b p g k λd c=>⟨.bl (!r.isSome),n,c,rfl,v⟩
theorem mV(b:X.A.units+1<cLine)(c:PE X o td)(d:PE X i ty)(e:PE X value tv)(f:swapsWith value (some (.Subscript o i pos')) pos.line X.env=pure false):
  PS X (.Assign [.Subscript o i pos'] value pos) (Hk td ty tv):=by
 walk_at "xd";refine wpAny_Assign_Subscript (dy (e pins s σ H _ I h) λr j ⟨v,k,l,m,n⟩=>dy (c pins j σ k _ l n) λu e ⟨x,p,q,t,r⟩=>dy (d pins e σ p _ q r) λc j w=>?_) f;obtain⟨y,c,z,B,a,C,E,g,F⟩:=w;subst E;obtain rfl:u=Value.ref a:=t;exact ER b z g B m λd c=>⟨σ,C,c,F⟩
end
theorem yQ{P:Program}{w:World}(h:Heap)(a:sysModules<h.objs.size):cC P w H (h.push {cls:=.type "dict",data:=.dict #[]}) h.objs.size (.dK []):=
 ⟨U' _,beq_eq_false_iff_ne.mpr (Ne.symm (Y' a)),[],.nil,Heap.DictOf.new h⟩
def Bq:TE:=λ_ H Q=>∀p,H p=none->Q (.ref p) (upd H p (.dK []))
section
variable {X:Cx}{pos:Pos}
theorem Hl:PE X (.Dict [] [] pos) Bq:=.mk λb s σ H Q I h=>
 wpAny_Dict_empty ⟨.ref s.heap.objs.size,_,I.laid (a:=s.heap.objs.size) (o:=.dK []) (t':=s.toks) (λ_ _ q=>F' _ q) (E' _) (yQ s.heap I.big),rfl,h _ (I.aY.fresh (E' _))⟩
end
def qf:List (TE×TE)->St->Hp->(List (V×V)->Hp->Prop)->Prop
 | [],_,H,Q=>Q [] H
 |(a,b)::r,σ,H,Q=>a σ H λx c=>b σ c λy a=>qf r σ a λb c=>Q ((x,y)::b) c
abbrev VV:List (V×V)->List (Value×Value)->Prop:=Paired λp q=>RelV p.1 q.1/\RelV p.2 q.2
def Z8(X:Cx)(pos:Pos)(b:List (Option Expr))(a:List Expr)(AK:List (TE×TE)):Prop:=
 ∀(pins:List (Addr×Obj)) (s:Shared) (σ:St) (H:Hp) (Q:List (V×V)->Hp->Prop),Inv X pins σ H s->qf AK σ H Q->
  wpAny (model X.prog X.w) X.A (evalPairs (pairTrees b a X.env pos)) (λvs s'=>∃a H',Inv X pins σ H' s'/\VV a vs/\Q a H') X.xe s
theorem Mu:Z8 X pos [] [] []:=λa s σ H Q I h=>pairTrees_nil_walk ⟨[],H,I,.nil,h⟩
theorem tx{k v:Expr}{ks:List (Option Expr)}{vs:List Expr}{a b:TE}(c:PE X k a)(d:PE X v b)(e:Z8 X pos ks vs AK):
  Z8 X pos (some k::ks) (v::vs) ((a,b)::AK):=λa s σ H Q I h=>
 pairTrees_cons_walk (dy (c a s σ H _ I h) λu b ⟨x,f,g,i,j⟩=>dy (d a b σ f _ g j) λn c ⟨y,h,k,l,m⟩=>
  dy (e a c σ h _ k m) λn o ⟨d,f,g,b,j⟩=>⟨(x,y)::d,f,g,.cons ⟨i,l⟩ b,j⟩)
def nQ(bf a:List (Key×V)):List (Key×V):=a.foldl (λb c=>putK b c.1 c.2) bf
theorem KV.merge:∀{a:List (Key×V)}{b:List (Key×Value)}{bf:List (Key×V)}{vs:List (Key×Value)},KV a b->KV bf vs->KV (nQ bf a) (merged vs b):=by
 intro a b bf vs r;unfold KV at r;induction r generalizing bf vs with
 |nil=>intro q;calc q
 | @cons p q b c h t a=>
  intro b;have e:KV (putK bf p.1 p.2) (stored vs q.1 q.2):=by
   have:=b.put p.1 h.2;rw[<-h.1];exact this
  calc a e
theorem nC:∀(a bf:List (Key×V)),(nQ bf a).length<=bf.length+a.length
 | [],bf=>by show bf.length<=bf.length+0;lia
 |p::r,bf=>by
  have a:=nC r (putK bf p.1 p.2);have a:=lN bf p.1 p.2;show(nQ (putK bf p.1 p.2) r).length<=_;rw[List.length_cons];lia
theorem tD{P:Program}{w:World}:∀{bf:List (Key×V)}{ws:List (Value×Value)},VV (bf.map λb=>(kV b.1,b.2)) ws->∃d,Carries (dH P w) ws d/\KV bf d
 | [],_,r=>by rw[List.map_nil]at r;cases r;calc⟨[],aaf,.nil⟩
 |p::bf,_,r=>by
  rw[List.map_cons]at r
  cases r with
  | @cons a b c e h t=>
   obtain⟨d,c,q⟩:=tD (P:=P) (w:=w) t;obtain⟨f,e⟩:=b;calc⟨(p.1,e)::d,⟨yP h.1,rfl,c⟩,.cons ⟨rfl,h.2⟩ q⟩
def CS(AK:List (TE×TE)):TE:=λσ H Q=>∀p,H p=none->qf AK σ (upd H p (.dK [])) λc a=>a p=some (.dK [])/\∃bf:List (Key×V),c=bf.map (λb=>(kV b.1,b.2))/\bf.length<=15/\Q (.ref p) (upd a p (.dK (nQ [] bf)))
theorem Mv{b:List (Option Expr)}{d:List Expr}(h:Z8 X pos b d AK)(k:b.all (·.isSome)=true)(l:b.length=d.length)(m:b≠[])
  (f:b.length<=15):PE X (.Dict b d pos) (CS AK):=by
 refine⟨?_⟩;intro b s σ H Q I q;have d:=I.aY.fresh (E' s.heap.objs.size);have n:=I.laid (a:=s.heap.objs.size) (o:=.dK []) (h':=s.heap.push {cls:=.type "dict",data:=.dict #[]}) (t':=s.toks) (λ_ _ q=>F' _ q) (E' _) (yQ s.heap I.big);refine wpAny_Dict_walk (knd:=dH X.prog X.w) k l m f (dy (h b _ σ _ _ n (q _ d)) λz B p=>?_);obtain⟨b,d,j,g,e,bf,r,f,t⟩:=p;subst r;obtain⟨u,c,v⟩:=tD (P:=X.prog) (w:=X.w) g;obtain⟨z,x,b,y,A⟩:=Hg j.aY e
 cases y;calc⟨u,c,A,λi b d=>⟨.ref s.heap.objs.size,_,?_,rfl,t⟩⟩;have c:(nQ [] bf).length<=sizeLine:=by
  have f:=nC bf [];rw[List.length_nil]at f;rw[sizeLine_eq];lia
 have f:∃q,i.get? s.heap.objs.size=some q:=let ⟨q,_,_,g,_⟩:=b;⟨q,g⟩
 calc xf j (by rw[e];calc aaf) d f (Hh c x (v.merge .nil) b)
section
variable {X:Cx}{pins:List (Addr×Obj)}{σ:St}{H:Hp}{s:Shared}{a:Addr}{y d:V}{u r:Value}{o:Option V}{A:Around}{E:Value->Shared->Prop}
end
section
variable {X:Cx}{pins:List (Addr×Obj)}{σ:St}{H:Hp}{s:Shared}{a:Addr}{y:V}{u:Value}{A:Around}{E:Value->Shared->Prop}
end
end
end L2
namespace Att
open PySem PySem.W PySem.Calls PyProof.Rows
theorem rN{P:Params}{h:Heap}:∀(ns:List Int) (vs:List Value),WellAll P h vs (ns.map WData.int)->IntsAre vs ns:=by
 intro ns;induction ns with
 |nil=>
  intro vs w;rw[List.map_nil]at w
  cases w;calc .nil
 |cons n ns c=>
  intro vs w;rw[List.map_cons]at w
  cases w with
  |cons a b=>
   cases a;calc .cons _ _ (c _ b)
theorem ET{l:OpenLaw}{n:Nat}(i:l.most=some n){P:Params}{h:Heap}{args:List WData}{b:List Value}
  (f:l.row.toRowW.claim.pre args=true) (j:WellAll P h b args):
  ∃a vs ns,b=[Value.ref a]/\args=[WData.list (ns.map WData.int)]/\h.get? a=some {cls:=.type "list",data:=.seq vs.toArray}/\IntsAre vs ns/\ns.length<=n:=by
 have e:WShape.hasAll [] args [.list .int]=true:=(pre_splitW f).1;have g:l.pre.holds [] {args:=args}=true:=(pre_splitW f).2;obtain⟨d,r,rfl,k,m⟩:=hasAllW_cons e;obtain rfl:=hasAllW_nil m;obtain⟨q,rfl,o⟩:=hasW_list k;obtain⟨ns,rfl⟩:=items_int o;have c:ns.length<=n:=by
  unfold OpenLaw.pre at g;have a:(WTm.not (.lt (.lit (.int (n:Int))) (.len (.arg 0)))).holds [] {args:=[.list (ns.map .int)]}=true:=by
   have a:=(holds_andW g).1;rw[i]at a;exact a
  have b:=condW_of a (w_not (w_lt w_lit (w_len_list (w_arg rfl))));rw[aaC]at b;calc Nat.le_of_not_lt λq=>?_;have a:(n:Int)<((ns.length:Nat):Int):=by lia
  first
   |(rw[decide_eq_true a]at b;calc absurd b ∅)
   |(simp at b;lia)
 cases j with
 |cons p s=>
  cases s
  cases p with
  |list a b=>calc⟨_,_,ns,rfl,rfl,a,rN ns _ b,c⟩
theorem EU(l:OpenLaw)(args:List WData):l.row.toRowW.claim.post args (.bool true) args=true:=
 postW_of (r:=l.row.toRowW) (X:=(true == true))
  (show WShape.has [] (.bool true) .bool=true by first|rfl|decide|simp[WShape.has,WShape.arms,WShape.armsAll])
  (show(WTm.eq .res (.lit (.bool true))).value [] {args:=args,res:=some (.bool true),after:=args}=some (.bool (true==true)) from w_eq_bool (w_res rfl) w_lit) rfl
theorem yR{l:OpenLaw}{n:Nat}{q:Program}{c:List Str}{m:(Str->Option Value)->Heap->Prop}{p:World->Heap->Prop}{d:DefRec}
  (v:l.most=some n) (x:d.params.defaults=[])
  (call:∀(w:World) (s₀ b:Shared) (h j:Str->Option Value) (g:Addr) (o:Obj) (k i e:Value) (a:Addr) (vs:List Value) (ns:List Int),
   Ground q c [] m w s₀ h j b.heap->p w b.heap->
   b.heap.get? g=some o->o.data=.func (docDef d.name d.params d.body d.scope k i e)->b.heap.CodeRec i d.name->h d.name=some (.ref g)->
   b.heap.get? a=some {cls:=.type "list",data:=.seq vs.toArray}->IntsAre vs ns->ns.length<=n->b.gens=#[]->
   codeAny (model l.prog w) callerA (.call (.ref g) ⟨[.ref a],[]⟩) (λr s'=>r=.ok (.ret (.bool true))/\OldK b.heap s'.heap/\s'.os=b.os/\AllBare s'.gens) b):
  WalkO q c m p l.row.toRowW d [] (λf vs=>PySem.call f vs):=by
 intro w s₀ b h j G Y g o k i e y kV z A B s C D t u K E F H I L;obtain rfl:y=.none:=Dflts.none s x;obtain rfl:kV=.none:=Dflts.noKw s;obtain⟨a,vs,ns,rfl,rfl,f,c,d⟩:=ET v E I;calc enter_call (codeAny_mono (call w s₀ b h j g o k i e a vs ns G Y z (fd_plain A) B C f c d D) λr s' J=>?_);obtain⟨rfl,a,b,c⟩:=J;calc⟨.inl ⟨.bool true,.bool true,[],rfl,λ_=>rfl,.bool true,EU l _,λ_=>⟨List.Pairwise.nil,λ_ d=>(nomatch d)⟩⟩,a,b,c⟩
section
variable {prog:Program}{w:World}{A:Around}{E:Value->Shared->Prop}{s:Shared}{K:Frag}
end
end Att
namespace L2
open PySem PySem.Spec PyProof.Rows
section
theorem mW:∀{vs:List Value}{ns:List Int},IntsAre vs ns->Vals (ns.map V.int) vs
 |_,_,.nil=>.nil
 |_,_,.cons n t h=>.cons ⟨t,rfl⟩ (mW h)
def Q8(H:Hp):Prop:=∀b,H b=none\/∃o xs,H b=some (.AG o (.lst xs))
theorem Hm{P:Program}{w:World}{K:W.Frag}{j J:Str->Option Value}{CX:Ln}{k:Nat}{m a:Addr}{n:FuncData}{x:Str}{sp:Sp}{c:Shared}{vs:List Value}{ns:List Int}
  (U:K.In c.heap) (l:c.heap.Ns mainGlobals j) (g:c.heap.Ns builtinsNs J) (L:∀x:Str,x≠"__name__"->J x=bootBuiltins x) (M:c.heap.NoLimit) (hg:c.gens=#[])
  (G:c.heap.get? a=some {cls:=.type "list",data:=.seq vs.toArray}) (X:IntsAre vs ns) (Y:ns.length<=sizeLine) (hr:fe k callerA)
  (F:∀base:Heap,K.In base->base.Ns mainGlobals j->nr P w K j base CX k m n [x] sp) (VX:∀(s:Shared) (u:Value),BindsTo s n ⟨[u],[]⟩ [(x,u)])
  (Oz:∀H:Hp,Q8 H->aM K H a (ns.map V.int)->sp [.ref a] H (λv _=>v=.bl true) λ_ _ _=>False)
  (N:∀H e s',CX [] H c (λ_ _ _=>False) e s'->False):
  codeAny (model P w) callerA (.call (.ref m) ⟨[.ref a],[]⟩) (λr s'=>r=.ok (.ret (.bool true))/\OldK c.heap s'.heap/\s'.os=c.os/\AllBare s'.gens) c:=by
 have Z:=mW X;have O:=X.length;have i:∀H:Hp,Q8 H->aM K H a (ns.map V.int)->nN P w H c.heap->(∀b,H b≠none->b=a)->(H a≠none->K.lookup a=none)->
   codeAny (model P w) callerA (.call (.ref m) ⟨[.ref a],[]⟩) (λr s'=>r=.ok (.ret (.bool true))/\OldK c.heap s'.heap/\s'.os=c.os/\AllBare s'.gens) c:=by
  intro H hO hS aY hA hK;have CT:∀{b:Addr} {o:Obj},c.heap.get? b=some o->H b=none->(wN c.heap H).get? b=some o:=λe n=>Gv e n;have VD:∀{b:Addr} {o:Obj} {p:Array DictEntry} {t:Nat},c.heap.get? b=some o->o.data=.dict p t->H b=none:=λ{b o p t} e d=>by
   cases q:H b with
   |none=>rfl
   |some u=>
    have R:b=a:=hA b (by rw[q];simp);subst R;rw[G]at e;cases e;have d':Data.seq vs.toArray _=Data.dict p t:=d
    cases d'
  have I:∀{b:Addr} {m:Str->Option Value},c.heap.Ns b m->(wN c.heap H).Ns b m:=λ{b m} ⟨o,p,t,e,d,r⟩=>⟨o,p,t,CT e (VD e d),d,r⟩
  have y:K.In (wN c.heap H):=λb o e=>CT (U b o e) (by
   cases q:H b with
   |none=>rfl
   |some u=>
    have R:b=a:=hA b (by rw[q];simp);subst R;rw[hK (by rw[q];simp)] at e;cases e)
  have d:Mod K j (wN c.heap H):=⟨y,I l,⟨J,I g,L⟩,let ⟨k,m,n⟩:=M;⟨k,I m,n⟩⟩
  have k:Bh P w K j (wN c.heap H) callerA [] c H:=⟨rfl,d,λb o e=>L0 e,Nat.le_of_eq (Ey _ _),trivial,λb g=>absurd (show b∈([]:List Addr) from g) nofun,aY,.of_eq hg⟩
  refine codeAny_mono ((F _ y (I l)).run callerA [] c H ⟨[.ref a],[]⟩ [.ref a] [.ref a] _ _ hr k (VX c (.ref a)) (.cons rfl .nil) (Oz H hO hS)) λr s' h=>?_
  cases r with
  |error e=>calc(N H e s' h).elim
  |ok fl=>
   cases fl with
   |next=>calc aai h
   |brk=>calc aai h
   |cont=>calc aai h
   |ret u=>
    obtain⟨v,c,os,B,un,S,r',q⟩:=h;have q':v=.bl true:=q;subst q';obtain rfl:u=Value.bool true:=r';refine⟨rfl,OldK.of_keep λb o e=>?_,os,B⟩
    cases q:H b with
    |none=>calc un.keep b o e q (by intro z;calc absurd (show b∈([]:List Addr) from z) nofun) nofun
    |some u=>
     rcases hO b with z|⟨ob,c,z⟩
     ·rw[q]at z;cases z
     ·have z2:=un.wM b ob _ z;obtain⟨e1,_⟩:=aY b _ z;obtain⟨e2,_⟩:=S b _ z2;rw[e]at e1;cases e1;exact e2
 cases T:K.lookup a with
 |some o=>
  have e:=U a o T;rw[G]at e
  cases e;calc i (λ_=>none) (λ_=>.inl rfl) (.inr ⟨_,vs.toArray,_,T,rfl,rfl,rfl,by rw[aaF,O];calc Y,by simpa using Z⟩) (λb u z=>by have C:(none:Option HO)=some u:=z;cases C) (λb z=>absurd rfl z) λz=>absurd rfl z
 |none=>
  refine i (λb=>if b=a then some (.AG {cls:=.type "list",data:=.seq vs.toArray} (.lst (ns.map V.int))) else none) (λb=>?_) (.inl (.inr ⟨{cls:=.type "list",data:=.seq vs.toArray},if_pos rfl⟩)) (λb u z=>?_) (λb z=>?_) λ_=>T
  ·by_cases g:b=a
   ·exact .inr ⟨_,_,if_pos g⟩
   ·exact .inl (if_neg g)
  ·by_cases g:b=a
   ·have C:=(if_pos g).symm.trans z
    cases C;subst g;exact⟨G,by rw[aaC];calc Y,vs,_,Z,G⟩
   ·have C:=(if_neg g).symm.trans z
    cases C
  ·by_cases g:b=a
   ·exact g
   ·calc absurd (if_neg g) z
end
section
theorem Mx{l:W.OpenLaw}{n k:Nat}{q:Program}{c:List Str}{o:(Str->Option Value)->Heap->Prop}{m:World->Heap->Prop}{d:DefRec}{K:Params->W.Frag}{CX:World->Ln}{sp:World->Sp}{x:Str}
  (p:l.most=some n) (r:n<=sizeLine) (t:d.params.defaults=[]) (y:fe k callerA)
  (z:∀(w:World) (h:Heap),m w h->(K w.params).In h)
  (F:∀(w:World) (i:Str->Option Value) (j:Addr) (h:Heap),(K w.params).In h->h.Ns mainGlobals i->i d.name=some (.ref j)->
   ∃h:FuncData,(∀(s:Shared) (u:Value),BindsTo s h ⟨[u],[]⟩ [(x,u)])/\
    ∀base:Heap,(K w.params).In base->base.Ns mainGlobals i->nr l.prog w (K w.params) i base (CX w) k j h [x] (sp w))
  (u:∀(w:World) (H:Hp) (a:Addr) (ns:List Int),ns.length<=n->Q8 H->aM (K w.params) H a (ns.map V.int)->sp w [.ref a] H (λv _=>v=.bl true) λ_ _ _=>False)
  (k:∀(w:World) (H:Hp) (s:Shared) (e:Value) (s':Shared),CX w [] H s (λ_ _ _=>False) e s'->False):
  W.WalkO q c o m l.row.toRowW d [] (λf vs=>PySem.call f vs):=by
 calc Att.yR p t λw l f i v j o x A m a vs ns G Y B C D n q d c s=>?_;have l:=z w _ Y;obtain⟨h,m,o⟩:=F w i j _ l G.T.g n;calc Hm l G.T.g G.T.b G.T.builtins G.T.nolimit s q d (aaa c r) y o m (λH h p=>u w H a ns c h p) λH e s'=>k w H f e s'
end
section
variable {f:Addr}{st:Stmt}{qual:Str}
def eL(s:Stmt):Arguments:=match s with
 | .FunctionDef _ a _ _ _ _ _ _ _ _=>a
 |_=>{posonlyargs:=[],args:=[],vararg:=none,kwonlyargs:=[],kw_defaults:=[],kwarg:=none,defaults:=[]}
def dw(s:Stmt):List Stmt:=match s with
 | .FunctionDef _ _ b _ _ _ _ _ _ _=>b
 |_=>[]
def az(s:Stmt):Scope:=match s with
 | .FunctionDef _ _ _ _ _ _ sc _ _ _=>sc
 |_=>{kind:=.function,names:=[],isGenerator:=false,isCoroutine:=false}
abbrev EV:Ln:=λ_ _ _ _ _ _=>False
abbrev E0:XK:=λ_ _ _=>False
theorem CU{X:Cx}:Passes EV X E0:=λ_ _ _ _ _ _ _ h=>h.elim
structure My(K:W.Frag)(x qual:Str)(st:Stmt)(f:Addr)(fd:FuncData):Prop where
 ex:∃(oc:Value) (od:Option Addr) (kV doc pm:Value) (an:Option Addr) (gP ct:Value) (Oy:Array (Option Value)),
  fd=W.fnOf x qual (eL st) (dw st) (az st) .none kV doc pm an gP ct/\K.lookup f=some ⟨oc,od,.func fd,Oy⟩/\W.codeIn K gP qual=true
 kp:W.keepIn K (.ref f)=true
section
variable {P:Program}{w:World}{K:W.Frag}{mg:Str->Option Value}{base:Heap}
theorem My.ok{x:Str}{d:FuncData}{N b:List Str}{k:Nat}{sp:Sp}(F:My K x qual st f d)(S:aD N b (az st))(c:∀vs H Q E,sp vs H Q E->vs.length=b.length)
  (e:∀(a:Value) (A:Around) (outer:List Env) (s:Shared) (H:Hp) (vs:List V) (Q:VK) (E:XK),fe k (A.deeper (envOfC qual (az st) s.heap.objs.size f a))->sp vs H Q E->
   ∃t,yy (sZ EV P w K mg base N qual (az st) f a A outer s H E).L4 (dw st) t/\t {nx:=λ_ g=>Q .bM g,rt:=Q} (start N vs) H):nr P w K mg base EV (k + 1) f d b sp:=by
 obtain⟨i,j,kV,h,l,m,a,n,o,rfl,b,d⟩:=F.ex;calc VE b d S c λA outer s H vs Q E g i=>?_;obtain⟨t,h,q⟩:=e a A outer s H vs Q E g i;calc⟨t,h.L4,q⟩
theorem My.binds{x:Str}{g:FuncData}{b:List Str}(F:My K x qual st f g)
  (h:∀(kV a c:Value) (d:Option Addr) (e ct:Value) (us:List Value),us.length=b.length->bindArgs (W.fnOf x qual (eL st) (dw st) (az st) .none kV a c d e ct) ⟨us,[]⟩=pure (b.zip us)):Binds K g b []:=by
 obtain⟨i,j,kV,a,c,d,e,ct,k,rfl,b,g⟩:=F.ex;calc .all (h kV a c d e ct)
theorem nR{x:Str}{g:Value}{h d:Option Addr}{i:Array (Option Value)}{kV a e b ct:Value}(l:K.lookup f=some ⟨g,h,.func (W.fnOf x qual (eL st) (dw st) (az st) .none kV a e d b ct),i⟩)
  (c:W.codeIn K b qual=true) (k:W.keepIn K (.ref f)=true):My K x qual st f (W.fnOf x qual (eL st) (dw st) (az st) .none kV a e d b ct):=⟨⟨g,h,kV,a,e,d,b,ct,i,rfl,l,c⟩,k⟩
end
theorem aA{n:Nat}(h:n<=1000):n<sizeLine:=aav h ∅
section
variable {X:Cx}
theorem pv(i:Nat){x:Str}{a:Pos}(b:X.N[i]?=some x:=by rfl)(c:Vn X.env.scope x:=by first|calc Or.inl rfl|calc Or.inr (Or.inl rfl)|calc Or.inr (Or.inr rfl))(d:(x==("__debug__":Str))=false:=by decide)
  (e:(x==("__classdict__":Str))=false:=by decide):PE X (.Name x a) (Gx i):=Gy b c d e
end
def au(H a:Hp):Prop:=∀b o,H b=some o->a b=some o
theorem au.refl(H:Hp):au H H:=λ_ _ h=>h
theorem au.trans{H c d:Hp}(a:au H c)(b:au c d):au H d:=λc o h=>b c o (a c o h)
theorem au.free{H a:Hp}(e:au H a){l:Addr}(h:a l=Option.none):H l=Option.none:=by
 cases q:H l with
 |none=>rfl
 |some o=>
  rw[e l o q]at h
  cases h
theorem au.seq{K:W.Frag}{H b:Hp}{a:Addr}{xs:List V}(e:au H b)(h:aM K H a xs):aM K b a xs:=by
 rcases h with(h|⟨o,h⟩)|h
 ·exact .inl (.inl (e _ _ h))
 ·exact .inl (.inr ⟨o,e _ _ h⟩)
 ·calc .inr h
section
variable {κ:Type} [DecidableEq κ]
theorem Mz{a:List (κ×V)}{k:κ}{v:V}(h:gb a k=some v):k∈a.map (·.1):=by
 have q:(a.any λb=>decide (b.1=k))=true:=by
  rw[j7,h]
  all_goals rfl
 obtain⟨p,a,e⟩:=List.any_eq_true.mp q;calc List.mem_map.mpr ⟨p,a,of_decide_eq_true e⟩
end
end
end L2
set_option maxHeartbeats 4000000
namespace L2
open PySem PySem.Spec PyProof.Rows
section
variable {X:Cx}{H H₂:Hp}{pins:List (Addr×Obj)}{s:Shared}{σ:St}
def lO(env:Env):List (Str×NameKind)->List (Str×Addr)->List (Str×Addr)
 | [],cs=>cs
 |(n,k)::r,cs=>lO env r (if k == .free then(n,(env.cells.lookup n).getD 0)::cs else cs)
theorem yS{env:Env}{x:Str}{c:Addr}:∀{l:List (Str×NameKind)}{cs:List (Str×Addr)},(x,c)∈lO env l cs->(x,c)∈cs\/((x,NameKind.free)∈l/\c=(env.cells.lookup x).getD 0)
 | [],cs,h=>.inl h
 |(n,k)::r,cs,h=>by
  unfold lO at h;rcases yS h with a|⟨a,g⟩
  ·by_cases b:(k == NameKind.free)=true
   ·rw[if_pos b] at a;have i:k=.free:=by simpa using b
    rcases List.mem_cons.mp a with e|e
    ·have d:=congrArg Prod.fst e;have f:=congrArg Prod.snd e;simp only at d f;subst d i;exact .inr ⟨S',f⟩
    ·exact .inl e
   ·rw[if_neg b]at a;exact .inl a
  ·calc .inr ⟨V' _ a,g⟩
theorem vW{env:Env}{p:Str×Addr}:∀{l:List (Str×NameKind)}{cs:List (Str×Addr)},p∈cs->p∈lO env l cs
 | [],_,h=>h
 |(n,k)::r,cs,h=>by
  unfold lO;calc vW ?_;split
  ·exact V' _ h
  ·calc h
theorem tE{env:Env}{x:Str}:∀{l:List (Str×NameKind)}{cs:List (Str×Addr)},(x,NameKind.free)∈l->(x,(env.cells.lookup x).getD 0)∈lO env l cs
 | [],_,h=>by simp at h
 |(n,k)::r,cs,h=>by
  unfold lO;rcases List.mem_cons.mp h with e|e
  ·have a:=congrArg Prod.fst e;have b:=congrArg Prod.snd e;simp only at a b;subst a b;calc vW ?_;rw[if_pos nofun];exact S'
  ·calc tE e
theorem fw{β:Type}:∀{l:List (Str×β)}{x:Str}{c:β},(x,c)∈l->∃d,l.lookup x=some d
 | [],_,_,h=>by simp at h
 |(n,b)::r,x,c,h=>by
  by_cases e:x=n
  ·subst e;exact⟨b,nofun⟩
  ·have a:(x == n)=false:=beq_eq_false_iff_ne.mpr e;rcases List.mem_cons.mp h with q | q
   ·exact absurd (congrArg Prod.fst q) e
   ·obtain⟨d,b⟩:=fw q;calc⟨d,by simp only[List.lookup_cons,a];calc b⟩
theorem nE{scope:Scope}{env:Env}(h:∀x∈scope.names,x.2=.free->∃c,env.cells.lookup x.1=some c):closureFor scope env=pure (lO env scope.names []):=by
 unfold closureFor;have b:∀(l:List (Str×NameKind)) (a:List (Str×Addr)),(∀x ∈ l,x.2=.free->∃c,env.cells.lookup x.1=some c)->
   ((forIn l a λ(x:Str×NameKind) (r:List (Str×Addr))=>if (x.2==NameKind.free)=true then do let y <-cellOf env x.1;pure (ForInStep.yield ((x.1,y)::r)) else pure (ForInStep.yield r)):Sem (List (Str×Addr)))=pure (lO env l a):=by
  intro l;induction l with
  |nil=>intro a _;rfl
  |cons p r f=>
   intro a d;obtain⟨n,k⟩:=p;rw[List.forIn_cons];dsimp only;by_cases a:(k==NameKind.free)=true
   ·obtain⟨c,g⟩:=d (n,k) S' (by simpa using a);have e:cellOf env n=pure c:=by unfold cellOf;rw[g]
    rw[if_pos a,e,pure_bind,pure_bind];dsimp only;rw[f _ λx c=>d x (V' _ c)];show _=pure (lO env r _);rw[if_pos a,g];rfl
   ·rw[if_neg a,pure_bind];dsimp only;rw[f _ λx c=>d x (V' _ c)];show _=pure (lO env r _);rw[if_neg a]
 have:=b scope.names [] h;simp only at this ⊢;rw[this,pure_bind]
def CV(a:List Expr)(env:Env):Sem Bool:=forIn a true λc r=>if r=true then do let ok <-isTrue c env (eval c env);pure (ForInStep.yield ok) else pure (ForInStep.yield r)
def Ua(X:Cx)(a:List Expr)(t:TT):Prop:=
 ∀(pins:List (Addr×Obj)) (s:Shared) (σ:St) (H:Hp) (Q:Bool->Hp->Prop),Inv X pins σ H s->t σ H Q->wpAny (model X.prog X.w) X.A (CV a X.env) (TP X pins σ Q) X.xe s
def fP:TT:=λ_ H Q=>Q true H
theorem MA:Ua X [] fP:=λ_ _ _ H _ I h=>K' ⟨H,I,h⟩
theorem eW{c:Expr}{t:TT}(h:PT X c t):Ua X [c] t:=λpins s σ H Q I a=>wpAny_tests_one (h pins s σ H Q I a)
section
variable {prog:Program}{w:World}{A:Around}{R:Result->Shared->Prop}{s:Shared}
theorem xi{o a e:Expr}{p:List Expr}{scope:Scope}{t:Pos}{y q:Value}{env:Env}(I:Nat->Shared->Prop)
  (u:∀n s,I n s->wpAny (model prog w) A (pyNext y) (λr b=>match r with
   |none=>R (.ok .next) b
   | some v=>wpAny (model prog w) A (letOwnedTupleGo a y v) (λ_ f=>wpAny (model prog w) A (assign a env v) (λ_ g=>
     wpAny (model prog w) A (CV p env) (λok c=>
      if ok=true then wpAny (model prog w) A (eval o env) (λx i=>
       wpAny (model prog w) A (call (.builtin "list.append") [q,x]) (λ_ j=>∃m,m < n/\I m j) (λ_ _=>False) i) (λ_ _=>False) c
      else ∃m,m < n/\I m c) (λ_ _=>False) g) (λ_ _=>False) f) (λ_ _=>False) b) (λ_ _=>False) s)
  (n:Nat) (h:I n s):
  codeAny (model prog w) A (.compLoop (.ListComp o [⟨a,e,p,0⟩] scope t) 0 y q env) R s:=by
 calc codeAny_loop rfl I (λn s m=>?_) n h;show wpAny _ A ((compTurn (.ListComp o [⟨a,e,p,0⟩] scope t) 0 y q env).onRaise (λx=>do noteFrame x env;theTreesLotGoes x)) _ _ s;calc wpAny_noted ?_;rw[compTurn_list];refine A' (wpAny_standAt (A' (aae (u n s m) (λr b k=>?_) λ_ _ d=>d.elim)))
 cases r with
 |none=>calc K' k
 |some v=>
  calc A' (aae k (λ_ f a=>?_) λ_ _ d=>d.elim);refine A' (aae a (λ_ g b=>A' (aae b (λok c l=>?_) λ_ _ d=>d.elim)) λ_ _ d=>d.elim)
  cases ok with
  |false=>calc K' ⟨rfl,l⟩
  |true=>
   calc A' (A' (aae l (λx i a=>A' (aae a (λ_ j b=>K' (K' ⟨rfl,b⟩)) λ_ _ d=>d.elim)) λ_ _ d=>d.elim))
end
def EW(N N':List Str)(ix:List (Option Nat))(scope:Scope):Bool:=
 N'.length==ix.length&&(N'.zip ix).all λp=>match p.2 with|none=>true|some j=>N[j]? == some p.1&&scope.names.lookup p.1==some .free
def tF(ix:List (Option Nat))(σ:St):St:=ix.map λo=>match o with|none=>none|some j=>(σ[j]?).join
def freeOk(scope:Scope)(outer:Scope):Bool:=
 scope.names.all λx=>(x.2 != .cell||scope.names.lookup x.1==some .cell)&&(x.2 != .free||(outer.names.lookup x.1==some .cell||outer.names.lookup x.1==some .free))&&(x.2 != .local||scope.names.lookup x.1==some .local)&&(x.2 != .free||scope.names.lookup x.1==some .free)
def Ub(env:Env)(names:List (Str×NameKind))(C:Addr):List (Str×Addr):=cellsFrom (C+1) names (lO env names [])
theorem mX:∀(names:List (Str×NameKind)) (n:Nat) (a:List (Str×Addr)),cellsFrom n names a=cellsFrom n names []++a
 | [],_,_=>rfl
 |(x,k)::r,n,a=>by
  unfold cellsFrom;split
  ·rw[mX r (n+1) ((x,n)::a),mX r (n+1) [(x,n)],List.append_assoc];rfl
  ·calc mX r n a
theorem tH{x:Str}{c:Addr}:∀{names:List (Str×NameKind)}{n:Nat}{a:List (Str×Addr)},(x,c)∈cellsFrom n names a->(x,c)∈a\/(x,NameKind.cell)∈names
 | [],_,_,h=>.inl h
 |(y,k)::r,n,a,h=>by
  unfold cellsFrom at h;split at h
  ·next hk=>
   rcases tH h with h|h
   ·rcases List.mem_cons.mp h with e | e
    ·cases e;exact .inr (by rw[show k=.cell by simpa using hk];calc S')
    ·exact .inl e
   ·exact .inr (V' _ h)
  ·rcases tH h with h | h
   ·exact .inl h
   ·calc .inr (V' _ h)
theorem tI{β:Type}{x:Str}{a:List (Str×β)}:∀{l:List (Str×β)},(l++a).lookup x=(l.lookup x).or (a.lookup x)
 | []=>rfl
 |(n,b)::r=>by
  rw[List.cons_append,List.lookup_cons,List.lookup_cons]
  cases x==n with
  |true=>rfl
  |false=>calc tI
theorem Hn{env:Env}{names:List (Str×NameKind)}{C:Addr}{x:Str}:(Ub env names C).lookup x=((cellsFrom (C+1) names []).lookup x).or ((lO env names []).lookup x):=by
 unfold Ub;rw[mX,tI]
def Uc(X:Cx)(scope:Scope)(C:Addr)(N':List Str)(a:Shared)(H₂:Hp)(b:List Addr):Cx:=
 {X with N:=N',s₀:=a,H₀:=H₂,env:=compEnvC scope (Ub X.env scope.names C) C X.env,outer:=X.stack,stack:=X.stack,ex:=b,fn:=λx=>scope.names.lookup x==some .cell,pn:=[],xe:=λ_ _=>False}
theorem freeOk.at{scope outer:Scope}(h:freeOk scope outer=true){x:Str×NameKind}(e:x∈scope.names):(x.2=.cell->scope.names.lookup x.1=some .cell)/\(x.2=.free->outer.names.lookup x.1=some .cell\/outer.names.lookup x.1=some .free)/\(x.2=.local->scope.names.lookup x.1=some .local)/\(x.2=.free->scope.names.lookup x.1=some .free):=by
 have f:=List.all_eq_true.mp h x e;simp only[Bool.and_eq_true,Bool.or_eq_true,bne_iff_ne,ne_eq,beq_iff_eq]at f;obtain⟨⟨⟨a,b⟩,c⟩,d⟩:=f;calc⟨λe=>a.resolve_left λz=>z e,λe=>b.resolve_left λz=>z e,λe=>c.resolve_left λz=>z e,λe=>d.resolve_left λz=>z e⟩
theorem eU{scope:Scope}{env:Env}:∀{names:List (Str×NameKind)}{x:Str}{k:NameKind},
  (names.map λ(n,k)=>if (k==NameKind.free&&env.scope.kind == .function&&env.kindOf n==some .cell) then(n,NameKind.cell) else(n,k)).lookup x=some k->∃a,(x,a)∈names/\(k=a\/(k=.cell/\a=.free))
 | [],_,_,h=>by simp at h
 |(n,c)::r,x,k,h=>by
  rw[List.map_cons]at h;by_cases d:(c==NameKind.free&&env.scope.kind == .function&&env.kindOf n==some .cell)=true
  ·simp only[d,if_true] at h
   cases b:x==n with
   |true=>
    simp only[List.lookup_cons,b]at h;have e:x=n:=by simpa using b
    subst e;have g:c=.free:=by
     simp only[Bool.and_eq_true,beq_iff_eq]at d;exact d.1.1
    calc⟨c,S',.inr ⟨(Option.some.inj h).symm,g⟩⟩
   |false=>
    simp only[List.lookup_cons,b]at h;obtain⟨a,m,q⟩:=eU (scope:=scope) (env:=env) h;exact⟨a,V' _ m,q⟩
  ·dsimp only at h;rw[if_neg d] at h
   cases b:x==n with
   |true=>
    simp only[List.lookup_cons,b]at h;have e:x=n:=by simpa using b
    subst e;calc⟨c,S',.inl (Option.some.inj h).symm⟩
   |false=>
    simp only[List.lookup_cons,b]at h;obtain⟨a,m,q⟩:=eU (scope:=scope) (env:=env) h;calc⟨a,V' _ m,q⟩
section
variable {X:Cx}{scope:Scope}{C:Addr}{N':List Str}{s₂:Shared}{H₂:Hp}{fp:List Addr}{pins:List (Addr×Obj)}{σ:St}
theorem yT(I:Inv X pins σ H₂ s₂)(d:freeOk scope X.env.scope=true){x:Str}{c:Addr}(h:(lO X.env scope.names []).lookup x=some c):X.env.cells.lookup x=some c/\(x,NameKind.free)∈scope.names:=by
 rcases yS (X' h) with z|⟨a,b⟩
 ·simp at z
 ·have q:=(d |> λh=>freeOk.at h a).2.1 rfl;obtain⟨c,e⟩:=I.ok.has x q;rw[e]at b;calc⟨by rw[e,b];rfl,a⟩
theorem Ho(a:freeOk scope X.env.scope=true){x:Str}(h:scope.names.lookup x=some .free){n:Nat}:(cellsFrom n scope.names []).lookup x=none:=by
 cases e:(cellsFrom n scope.names []).lookup x with
 |none=>rfl
 |some c=>
  rcases tH (X' e) with z|z
  ·cases z
  ·have:=(freeOk.at a z).1 rfl;rw[h]at this;cases this
theorem mY(I:Inv X pins σ H₂ s₂)(a:freeOk scope X.env.scope=true){x:Str}{c:Addr}(h:(Ub X.env scope.names C).lookup x=some c):(X.env.cells.lookup x=some c/\ @LT.lt Nat _ c s₂.heap.objs.size/\(cellsFrom (C+1) scope.names []).lookup x=none)\/(cellsFrom (C+1) scope.names []).lookup x=some c:=by
 rw[Hn]at h
 cases e:(cellsFrom (C+1) scope.names []).lookup x with
 |some d=>rw[e]at h;calc .inr h
 |none=>
  rw[e]at h;have q:=(yT I a h).1;calc .inl ⟨q,let ⟨_,z⟩:=I.cell x c q;z.lt,rfl⟩
theorem Q9{g:Heap}(i:CellsOk g (C+1) (cellsFrom (C+1) scope.names []))(I:Inv X pins σ H₂ s₂)(j:freeOk scope X.env.scope=true)(E:scope.kind=.function)(v:s₂.heap.objs.size<=C)(k:∀b∈fp,qa X pins H₂ b)(F:∀b∈fp,∃o,s₂.heap.get? b=some o):(Uc X scope C N' s₂ H₂ fp).Ok where
 mod:=I.ok.mod
 kind:=E
 glob:=I.ok.glob
 blt:=I.ok.blt
 above:=v
 inj:=λx y c l p=>by
  rcases mY I j l with⟨a,H,_⟩|a<;>rcases mY I j p with⟨b,g,_⟩|b
  ·exact I.ok.inj x y c a b
  ·have:=(i.empty y c (X' b)).2;lia
  ·have:=(i.empty x c (X' a)).2;lia
  ·exact PySem.name_of_addr i.apart (X' a) (X' b)
 has:=λx h=>by
  have h:(relabel scope X.env).names.lookup x=some .cell\/(relabel scope X.env).names.lookup x=some .free:=h;have w:(x,NameKind.free)∈scope.names->((lO X.env scope.names []).lookup x).isSome=true:=λm=>let ⟨d,e⟩:=fw (tE (env:=X.env) (cs:=[]) m);by rw[e];rfl
  calc Option.isSome_iff_exists.mp (W.cellsFrom_some scope.names (C+1) (lO X.env scope.names []) ?_);rcases h with h|h
  ·obtain⟨G,m,q⟩:=eU (scope:=scope) h;rcases q with q | ⟨_,q⟩
   ·subst q;exact .inl ((freeOk.at j m).1 rfl)
   ·subst q;exact .inr (w m)
  ·obtain⟨G,m,q⟩:=eU (scope:=scope) h;rcases q with q | ⟨q,_⟩
   ·subst q;exact .inr (w m)
   ·cases q
 T7:=λx c l p=>by
  rcases mY I j p with⟨_,_,a⟩|a
  ·obtain⟨d,e⟩:=tf (sc:=scope) (n:=C+1) (x:=x) (by simpa[Uc] using l);rw[e]at a;cases a
  ·have:=(i.empty x c (X' a)).2;show s₂.heap.objs.size<=c;lia
 hd:=I.ok.hd
 frames:=I.ok.frames
 Vo:=.inl rfl
 ZW:=λb f=>by
  obtain⟨o,A⟩:=F b f;obtain⟨B,r,s,t,u,D⟩:=k b f;calc⟨Y' (R' (M' A) v),λx c h=>?_⟩;rcases mY I j h with⟨a,_⟩|a
  ·exact u x c a
  ·have:=(i.empty x c (X' a)).2;have: @LT.lt Nat _ b _:=M' A;exact aal ()
 bs:=I.bs
 Gw:=aaa I.ok.Gw I.sz
 AV:=λb o e f=>by
  obtain⟨B,r,s,t,u,D⟩:=k b f;rcases t with z|z
  ·exact I.ok.AV b o e z
  ·exact absurd (R' (R' (M' e) I.ok.Gw) z) (aaj _)
 EA:=λb f z=>by
  obtain⟨B,r,s,t,u,D⟩:=k b f;rcases List.mem_cons.mp (I.wO b z) with e|e
  ·exact r e
  ·exact s e
 p9:=I.stack
 Om:=I.Cs
end
theorem Inv.less{a:St}(I:Inv X pins σ H s)(b:a.length=σ.length)(h:∀(i:Nat) (v:V),a[i]?=some (some v)->σ[i]?=some (some v)):Inv X pins a H s:=
 ⟨I.ok,I.os,I.bare,I.base,(let ⟨m,a,c⟩:=I.loc;⟨m,a,λi x v d e f=>c i x v d (h i v e) f⟩),I.cell,I.free,I.lI,I.pin,I.aY,b.trans I.len⟩
def Ext(σ a:St):Prop:=a.length=σ.length/\∀(i:Nat) (v:V),σ[i]?=some (some v)->a[i]?=some (some v)
theorem Ext.refl(σ:St):Ext σ σ:=⟨rfl,λ_ _ h=>h⟩
theorem Ext.set{a:St}(h:Ext σ a){j:Nat}{w:Option V}(b:σ[j]?=some none):Ext σ (a.set j w):=by
 calc⟨by rw[List.length_set];calc h.1,λi v e=>?_⟩;have c:j≠i:=by rintro rfl;rw[b]at e;cases e
 rw[List.getElem?_set_ne c];calc h.2 i v e
theorem MB(ix:List (Option Nat))(σ:St):(tF ix σ).length=ix.length:=by unfold tF;rw[aaC]
section
variable {X:Cx}{scope:Scope}{N':List Str}{ix:List (Option Nat)}{s₂ s₄:Shared}{H₂:Hp}{fp:List Addr}{pins:List (Addr×Obj)}{σ:St}{C D:Addr}{h₄:Heap}
theorem abO(I:Inv X pins σ H₂ s₂)(k:freeOk scope X.env.scope=true)(p:scope.kind=.function)(M:EW X.N N' ix scope=true)(y:∀b∈fp,qa X pins H₂ b)(T:∀b∈fp,∃o,s₂.heap.get? b=some o)
  (n:s₂.heap.objs.size<=D) (F: @LT.lt Nat _ D C) (G:CellsOk h₄ (C+1) (cellsFrom (C+1) scope.names [])) (U:h₄.Ns C (λ_=>none)) (t:∀b o,s₂.heap.get? b=some o->h₄.get? b=some o)
  (W:h₄.get? D=some {cls:=.type "list",data:=.seq ([]:List Value).toArray 0}) (t':Nat):
  Inv (Uc X scope C N' s₂ H₂ fp) [] (tF ix σ) (upd H₂ D (.lst [])) {s₂ with heap:=h₄,toks:=t'}:=by
 have b:H₂ D=none:=I.aY.fresh n;have J:s₂.heap.objs.size<=C:=aaa n (J' F);have Y:H₂ C=none:=I.aY.fresh J;have Z:nN X.prog X.w (upd H₂ D (.lst [])) h₄:=I.aY.laid t n ⟨U' _,[],0,.nil,W⟩;refine⟨Q9 G I k p J y T,rfl,I.bare,Un.laid t n b,⟨_,U,λi x v m l e3=>?_⟩,λx c e=>?_,?_,λx c e=>?_,λp b=>absurd (show p∈([]:List (Addr×Obj)) from b) nofun,Z,?_⟩
 ·have g:=M;unfold EW at g;rw[Bool.and_eq_true] at g;have b:N'.length=ix.length:=by simpa using g.1
  have b:i<N'.length:=(List.getElem?_eq_some_iff.mp m).1;unfold tF at l;rw[aaB]at l
  cases q:ix[i]? with
  |none=>rw[q]at l;cases l
  |some o=>
   rw[q]at l
   cases o with
   |none=>cases l
   |some j=>
    have o:(x,some j)∈N'.zip ix:=by
     calc W' (i:=i) ?_;rw[List.getElem?_zip_eq_some];exact⟨m,q⟩
    have b:=List.all_eq_true.mp g.2 _ o;simp only[Bool.and_eq_true,beq_iff_eq]at b;obtain⟨K,L⟩:=b;have d:(σ[j]?).join=some v:=by simpa using l
    have e4:σ[j]?=some (some v):=by
     cases z:σ[j]? with
     |none=>rw[z]at d;cases d
     |some y=>rw[z]at d;exact congrArg some d
    have O:(x,NameKind.free)∈scope.names:=X' L;have P:=(freeOk.at k O).2.1 rfl;obtain⟨m,b,hv⟩:=I.loc;obtain⟨u,ru,lk⟩:=hv j x v K e4 (by rcases P with z|z;calc .inr (.inl z);calc .inr (.inr z));refine⟨u,ru,.inr ⟨?_,?_⟩⟩
    ·rcases e3 with z | z | z
     ·obtain⟨b,m',r⟩:=eU (scope:=scope) (env:=X.env) (show(relabel scope X.env).names.lookup x=some .local from z);rcases r with r | ⟨r,_⟩
      ·subst r;have:=(freeOk.at k m').2.2.1 rfl;rw[L]at this;cases this
      ·cases r
     ·exact .inl z
     ·exact .inr z
    ·rcases lk with⟨B,_⟩ | ⟨_,c,l2,l3⟩
     ·have B:X.env.scope.names.lookup x=some .local:=B;rcases P with z | z
      ·rw[B]at z;cases z
      ·rw[B]at z;cases z
     ·obtain⟨b,R⟩:=fw (tE (env:=X.env) (cs:=[]) O);have S:=(yT I k R).1;rw[l2]at S;have e7:c=b:=Option.some.inj S;subst e7;exact⟨c,by show(Ub X.env scope.names C).lookup x=some c;rw[Hn,Ho k L];calc R,l3.keeps t⟩
 ·rcases mY I k e with⟨a,_⟩ | a
  ·obtain⟨v,z⟩:=I.cell x c a;exact⟨v,z.keeps t⟩
  ·exact⟨_,(G.empty x c (X' a)).1⟩
 ·show upd H₂ D (.lst []) C=none;rw[av (aal F)];exact Y
 ·show upd H₂ D (.lst []) c=none;rcases mY I k e with⟨a,z,_⟩ | a
  ·rw[av (Y' (R' z n))];exact I.lI x c a
  ·have b: @LT.lt Nat _ C c:=(G.empty x c (X' a)).2;rw[av (aal (Nat.lt_trans F b))];exact I.aY.fresh (aaa J (J' b))
 ·rw[MB];have g:=M;unfold EW at g;rw[Bool.and_eq_true] at g;have:N'.length=ix.length:=by simpa using g.1
  calc this.symm
end
theorem Br{M:Model}{A:Around}{E:Value->Shared->Prop}{scope:Scope}{g:Addr}{d:List (Str×Addr)}{qual:Str}{env:Env}{Q:Env->Shared->Prop}
  (f:∀a,a.Ns s.heap.objs.size (λ_=>none)->(∀b o,s.heap.get? b=some o->a.get? b=some o)->CellsOk a (s.heap.objs.size + 1) (cellsFrom (s.heap.objs.size + 1) scope.names [])->
   Q {scope:=scope,locals:=s.heap.objs.size,globals:=g,cells:=cellsFrom (s.heap.objs.size + 1) scope.names d,qual:=qual,func:=none,code:=env.code,frame:=env.frame,builtins:=env.builtins} {s with heap:=a}):
  wpAny M A (newFunctionEnv scope g d [] qual none .none (some env)) Q E s:=by
 simp only[newFunctionEnv,Option.isSome_some,if_true];refine A' (wpAny_alloc ?_);refine A' (wpAny_layCells _ (λa c cells=>by cases a:c==NameKind.cell<;>simp[a]) _ _ _ _ ?_);have d:=cellsFrom_ok scope.names (s.heap.push {cls:=.type "dict",data:=.dict #[]}) (s.heap.objs.size+1) [] ⟨λ_ _ a=>(nomatch a),List.Pairwise.nil⟩ (by rw[Heap.size_push];exact E' _);rw[Heap.size_push]at d;rw[show({s with heap:=s.heap.push {cls:=.type "dict",data:=.dict #[]}}:Shared).heap.objs.size=s.heap.objs.size+1 from Heap.size_push ..];rw[List.forIn_nil];exact A' (K' (K' (f _ ((Heap.Ns.new s.heap (.type "dict")).keeps (pushCells_keeps _ _)) (λb o e=>pushCells_keeps _ _ b o (F' _ e)) d)))
def lP(ix:List (Option Nat))(J:It)(g:TG)(d:TT)(e:TE)(σ:St)(a:Hp)(Q:VK)(D:Addr):Prop:=
 ∃W:Nat->Nat->Hp->Prop,(∃m,W 0 m (upd a D (.lst [])))/\∀i m H,W i m H->
  (J.stop i H/\Q (.ref D) H)\/(J.go i H/\∃N:Hp->Prop,(∀b,N b->∃c,c < m/\W (i + 1) c b)/\∀x b,J.Ox i H x b->g x (tF ix σ) b λa f=>Ext (tF ix σ) a/\d a f λb c=>
   if b=true then e a c λy d=>∃a,d D=some (.lst a)/\a.length < sizeLine/\N (upd d D (.lst (a++[y]))) else N c)
def V0(ix:List (Option Nat))(b:TI)(g:TG)(c:TT)(d:TE):TE:=λσ H Q=>b σ H λJ a=>∀D,a D=none->lP ix J g c d σ a Q D
abbrev uZ(X:Cx)(scope:Scope)(N':List Str)(F:Cx->Prop):Prop:=∀(C:Addr) (a:Shared) (H₂:Hp) (b:List Addr),F (Uc X scope C N' a H₂ b)
section
variable {X:Cx}{elt target iter:Expr}{ifs:List Expr}{scope:Scope}{pos:Pos}{N':List Str}{ix:List (Option Nat)}{wi:TI}{g:TG}{tt:TT}{te:TE}
theorem yV{a:Shared}{it:Addr}{l:List Addr}{R:Nat->Heap->Prop}{J:It}{QD:Addr->Hp->Prop}{RR:Value->Addr->Result->Shared->Prop}{E:Value->Shared->Prop}
  (ME:X.calm=true) (hf:freeOk scope X.env.scope=true) (hk:scope.kind=.function) (hx:EW X.N N' ix scope=true)
  (hg:uZ X scope N' λY=>PG Y target g) (ht:uZ X scope N' λY=>Ua Y ifs tt) (he:uZ X scope N' λY=>PE Y elt te)
  (I:Inv X pins σ H₂ a) (T:Turn X.prog X.w X.K target J l it R) (st:R 0 a.heap) (Lp:∀b∈l,qa X pins H₂ b)
  (hw:∀D,H₂ D=none->∃W:Nat->Nat->Hp->Prop,(∃m,W 0 m (upd H₂ D (.lst [])))/\∀i m H,W i m H->
   (J.stop i H/\QD D H)\/(J.go i H/\∃N:Hp->Prop,(∀d,N d->∃B,B < m/\W (i + 1) B d)/\∀x d,J.Ox i H x d->g x (tF ix σ) d λp C=>Ext (tF ix σ) p/\tt p C λb L=>
    if b=true then te p L λy C=>∃S,C D=some (.lst S)/\S.length < sizeLine/\N (upd C D (.lst (S++[y]))) else N L))
  (hRR:∀(D C:Addr) (s':Shared) (d:Hp) (m:Str->Option Value),a.heap.objs.size<=C->d C=none->C∉Ez X.stack->s'.heap.Ns C m->(∃o,s'.heap.get? C=some o/\∀v,o.data≠.cell v)->Inv X pins σ d s'->QD D d->RR (.ref D) C (.ok .next) s'):
  wpAny (model X.prog X.w) X.A (newList []) (λp j=>wpAny (model X.prog X.w) X.A (newFunctionEnv scope X.env.globals (lO X.env scope.names []) [] X.env.qual none .none (some X.env)) (λJ C=>
   codeAny (model X.prog X.w) X.A (.compStart (.ListComp elt [⟨target,iter,ifs,0⟩] scope pos) 0 (.ref it) p {J with scope:=relabel scope X.env}) (RR p J.locals) C) E j) E a:=by
 calc aay (Br λk Rb MG EX=>?_);dsimp only at Rb MG EX ⊢;generalize p:a.heap.push {cls:=.type "list",dict:=none,data:=.seq ([]:List Value).toArray}=P2 at Rb MG EX ⊢;have C:P2.objs.size=a.heap.objs.size+1:=by rw[<-p,Heap.size_push]
 have J:a.heap.objs.size<P2.objs.size:=by rw[C];exact Nat.lt_succ_self _
 have U:a.heap.objs.size<=P2.objs.size:=by rw[C];exact Nat.le_succ _
 have Z:∀b o,a.heap.get? b=some o->k.get? b=some o:=λb o e=>MG b o (p▸F' _ e);have N:k.get? a.heap.objs.size=some {cls:=.type "list",data:=.seq ([]:List Value).toArray 0}:=MG _ _ (p▸P' _ rfl);have C:∀b∈l,∃o,a.heap.get? b=some o:=λb c=>let ⟨o,e,_⟩:=T.obj _ _ st b c;⟨o,e⟩
 have p:a.heap.get? P2.objs.size=none:=Heap.get?_none_of_le U;have p:H₂ a.heap.objs.size=none:=I.aY.fresh (E' _);obtain⟨W,⟨m0,w0⟩,turn⟩:=hw a.heap.objs.size p;have fpD:∀b∈l,b≠a.heap.objs.size:=λb c=>let ⟨o,e⟩:=C b c;Y' (M' e)
 have fpC:∀b∈l,b≠P2.objs.size:=λb c=>let ⟨o,e⟩:=C b c;Y' (R' (M' e) U)
 let Y:=Uc X scope P2.objs.size N' a H₂ l
 have hcY:Y.calm=true:=ME;have I0:Inv Y [] (tF ix σ) (upd H₂ a.heap.objs.size (.lst [])) {a with heap:=k}:=
  abO I hf hk hx Lp C (E' _) J EX (by simpa using Rb) Z N _
 have Qr:P2.objs.size∉Ez X.stack:=λz=>by
  rcases List.mem_cons.mp (I.wO _ z) with e|e
  ·exact absurd I.lt (by rw[<-e];calc Nat.not_lt.mpr U)
  ·exact I.Qs U e
 have A8:∀{d:Hp},(∀b∈l,d b=none)->∀b∈l,qa Y [] d b:=λhn b c=>by
  obtain⟨f0,f1,f2,f3,f4,f5⟩:=Lp b c;refine⟨hn b c,fpC b c,I0.ok.EA b c,.inl c,(I0.ok.ZW b c).2,λp C=>absurd (show p∈([]:List (Addr×Obj)) from C) nofun⟩
 have V2:R 0 k:=T.keep _ _ _ st λb _ o e=>Z b o e;have G:∀j:Shared,j={a with heap:=k}->
   codeAny (model X.prog X.w) X.A (.compLoop (.ListComp elt [⟨target,iter,ifs,0⟩] scope pos) 0 (.ref it) (.ref a.heap.objs.size) (compEnvC scope (Ub X.env scope.names P2.objs.size) P2.objs.size X.env))
    (RR (.ref a.heap.objs.size) P2.objs.size) j:=by
  rintro j rfl;calc xi (λn s'=>∃i d,Inv Y [] (tF ix σ) d s'/\R i s'.heap/\(∀b∈l,d b=none)/\W i n d) ?_ m0 ⟨0,_,I0,V2,λb c=>by rw[av (fpD b c)];calc(Lp b c).1,w0⟩;rintro n s3 ⟨i,L,I3,nk,Vs,w3⟩;rcases turn i n L w3 with⟨stop,qn⟩|⟨go,Nn,hNn,step⟩
  ·calc dy (T.done Y rfl rfl rfl hcY i [] s3 _ L _ I3 (A8 Vs) nk stop) λr s4 q=>?_;obtain⟨hr,M⟩:=q;subst hr;obtain⟨m,hn,_⟩:=M.loc;refine hRR _ _ s4 L m U M.free Qr hn ?_ ?_ qn
   ·obtain⟨o,k,p,j,hd,_⟩:=hn;exact⟨o,j,λv z=>by rw[hd]at z;cases z⟩
   ·refine I.Vq (s':=s4) (ch:=l) M.os ?_ M.aY M.bare λb c=>?_
    ·exact M.base
    ·obtain⟨f0,f1,f2,f3,f4,f5⟩:=Lp b c;exact⟨f3,f1,f4,f5⟩
  ·calc dy (T.item Y rfl rfl rfl hcY i [] s3 _ L _ I3 (A8 Vs) nk go) λr s4 q=>?_;obtain⟨u,hr,h4⟩:=q;subst hr;calc dy h4 λ_ s5 q=>?_;obtain⟨x,r,v,z,C,k,j⟩:=q;have p:=v.pinned (A8 j) (T.obj _ _ k);calc dy (hg _ _ _ _ _ s5 _ r x u _ p z (step x r C)) λ_ I q=>?_;obtain⟨F,p,r,j,u⟩:=q;calc dy (ht _ _ _ _ _ I F p _ r u) λok s7 q=>?_;obtain⟨H7,I7,q7⟩:=q;have t:∀{O:Shared} {P:Hp} {B:Nat},Inv Y ([]++qb l s5.heap) F P O->B<n->W (i+1) B P->∃m,m<n/\∃i d,Inv Y [] (tF ix σ) d O/\R i O.heap/\(∀b∈l,d b=none)/\W i m d:=λ{O P B} I8 hm w8=>by
    calc⟨B,hm,i+1,P,(I8.lL).less j.1.symm j.2,T.keep _ _ _ k λb c o e=>(I8.pin (b,o) (aab _ (aab _ (km c e)))).1,λb c=>?_,w8⟩;obtain⟨o,e,d⟩:=T.obj _ _ k b c;exact(I8.pin (b,o) (aab _ (aab _ (km c e)))).2.1
   cases ok with
   |false=>
    rw[if_neg T']at q7 ⊢;obtain⟨B,hm,w8⟩:=hNn _ q7;calc t I7 hm w8
   |true=>
    rw[if_pos rfl] at q7 ⊢;calc dy (he _ _ _ _ _ s7 F H7 _ I7 q7) λy O q=>?_;obtain⟨b,P,I8,d,S,e,i,j⟩:=q;have k:=(vS (X:=Y)) (pins:=[]++qb l s5.heap) O F P (.ref a.heap.objs.size) [b] (.ref a.heap.objs.size) [y] (λ_ c=>Nn c) I8 rfl (.cons d .nil)
     ⟨_,S,b,rfl,rfl,e,i,j⟩
    exact dy k λ_ d ⟨_,c,a,_,b⟩=>let ⟨B,hm,c⟩:=hNn _ b;t a hm c
 calc codeAny_compStart_list (G _ rfl) (T.self _ 0 _ _ _ V2 (G _ rfl))
theorem Inv.abS{b:Shared}{C:Addr}{h':Heap}(a:Inv X pins σ H₂ b)(I:Inv X pins σ H s)(d:b.heap.objs.size<=C)(f:H C=none)(g:Heap.SameBut C s.heap h'):Inv X pins σ H {s with heap:=h'}:=by
 refine I.turned (t':=s.toks) (λb o h e=>(g.2 b h).trans e) f (aal (R' a.lt d)) (.inr (aaa a.sz d)) (λx c e z=>?_) λp b z=>?_
 ·obtain⟨v,q⟩:=a.cell x c e;exact absurd (R' q.lt (by rw[z];calc d)) (aaj _)
 ·calc absurd (R' (M' (a.pin p b).1) (by rw[z];calc d)) (aaj _)
theorem cI
  (k:PI X target iter wi) (l:uZ X scope N' λY=>PG Y target g) (n:uZ X scope N' λY=>Ua Y ifs tt) (he:uZ X scope N' λY=>PE Y elt te)
  (o:X.calm=true:=by rfl) (f:freeOk scope X.env.scope=true:=by kernel_rfl) (i:scope.kind=.function:=by rfl) (a:EW X.N N' ix scope=true:=by kernel_rfl) (b:∀x,foldedSetIterable iter X.env x=pure x:=by intro _;rfl):PE X (.ListComp elt [⟨target,iter,ifs,0⟩] scope pos) (V0 ix wi g tt te):=by
 walk_at "xc";rw[eval_ListComp];have m:∀x∈scope.names,x.2=.free->∃c,X.env.cells.lookup x.1=some c:=λx a he=>I.ok.has x.1 ((freeOk.at f a).2.1 he);refine wpAny_comprehension_free (use:=none) rfl b (nE m) i (λx a he=>(freeOk.at f a).2.2.1 he) (aae (k pins s σ H _ I h) (λm c b=>aae b (λk c d=>?_) λ_ _ e=>e) λ_ _ e=>e);obtain⟨b,c,k,J,m,e,j,T,p,r,t⟩:=d;subst e;refine yV (RR:=λb C=>compPost (model X.prog X.w) X.A X.xe none (EP X pins σ Q) b C) (QD:=λD b=>Q (.ref D) b) o f i a l n he j T p r t ?_;intro D C v b m c d x e y k q;exact⟨m,e,λz u=>⟨.ref D,b,j.abS k c d u,rfl,q⟩⟩
theorem cJ{i:Nat}{y:Str}{d R:Pos}(hN:X.N.Nodup)(E:X.N[i]?=some y)(hy:Loc X.env.scope y)
  (hi:PI X target iter wi) (hg:uZ X scope N' λY=>PG Y target g) (ht:uZ X scope N' λY=>Ua Y ifs tt) (he:uZ X scope N' λY=>PE Y elt te)
  (F:swapsWith (.ListComp elt [⟨target,iter,ifs,0⟩] scope pos) (some (.Name y d)) R.line X.env=pure true:=by rfl)
  (ME:X.calm=true:=by rfl) (G:freeOk scope X.env.scope=true:=by kernel_rfl) (S:scope.kind=.function:=by rfl) (j:EW X.N N' ix scope=true:=by kernel_rfl) (hs:∀x,foldedSetIterable iter X.env x=pure x:=by intro _;rfl) (L3:X.fn y=true\/X.env.scope.names.lookup y=some .local:=by grind):
  PS X (.Assign [.Name y d] (.ListComp elt [⟨target,iter,ifs,0⟩] scope pos) R) (EE (V0 ix wi g tt te) (dI i)):=by
 walk_at "xd";rw[exec_Assign_Name_used _ _ _ _ F];refine A' (wpAny_standAt (A' ?_));show wpAny _ X.A (do let _ <-comprehension (.ListComp elt [⟨target,iter,ifs,0⟩] scope pos) scope X.env _ (newList []) false (eval iter X.env) (some (assign (.Name y d) X.env))) _ _ s;have Lr:∀x ∈ scope.names,x.2=.free->∃c,X.env.cells.lookup x.1=some c:=λx j he=>I.ok.has x.1 ((freeOk.at G j).2.1 he);refine A' (aae (wpAny_comprehension_free (use:=some (assign (.Name y d) X.env)) (Q:=λ_ a=>SP X pins D .next a) rfl hs (nE Lr) S (λx j he=>(freeOk.at G j).2.2.1 he)
  (aae (hi pins s σ H _ I h) (λxv U k=>aae k (λZ1 W l=>?_) λ_ _ e=>e) λ_ _ e=>e)) (λ_ a hq=>K' (K' hq)) λ_ _ e=>e)
 obtain⟨it,fp,tn,J,H2,e,f,T,oY,f2,hw⟩:=l;subst e;calc yV (RR:=λK C=>compPost (model X.prog X.w) X.A X.xe (some (assign (.Name y d) X.env)) (λ_ a=>SP X pins D .next a) K C) (QD:=λn r=>D.nx (σ.set i (some (.ref n))) r) ME G S j hg ht he f T oY f2 hw ?_;intro n C a r m t VY Ra hn B Z q;obtain⟨o,B,ZY⟩:=B;show wpAny _ X.A (assign (.Name y d) X.env (.ref n)) _ _ a;have u:C≠X.env.locals:=aal (R' f.lt t);have L:C∉X.fs:=f.Qs t;have M:Inv X (pins++[(C,o)]) σ r a:=Z.wQ λp O=>(List.mem_append.mp O).elim (λz=>Z.pin p (aab _ z)) λz=>by
  have z':p=(C,o):=by simpa using z
  subst z';exact⟨B,VY,u,L,ZY⟩
 calc wpAny_assign_Name (oX M hN E hy (v:=.ref n) rfl (λs3 I3=>?_) L3);obtain⟨e3,n3,_⟩:=I3.pin (C,o) (aab _ (aab _ nofun));obtain⟨o',es,ep,lu,r'⟩:=hn;rw[B]at lu;cases lu;have P:Inv X pins (σ.set i (some (.ref n))) r s3:=I3.lL;calc⟨m,⟨o,es,ep,e3,r'⟩,λh' V3=>⟨_,r,?_,q⟩⟩;refine P.turned (t':=s3.toks) (λb o hb e=>(V3.2 b hb).trans e) n3 u (.inr (aaa f.sz t)) (λx c e z=>?_) λp O z=>?_
 ·obtain⟨v,q⟩:=f.cell x c e;exact absurd (R' q.lt (by rw[z];calc t)) (aaj _)
 ·calc absurd (R' (M' (f.pin p O).1) (by rw[z];calc t)) (aaj _)
end
def Ue(b:Nat->List V->Hp->Prop)(D:Addr)(i:Nat)(H:Hp):Prop:=∃a,H D=some (.lst a)/\a.length<=i+1/\b (i+1) a H
theorem bH{c:Nat->List V->Hp->Prop}{D:Addr}{i n:Nat}{a:List V}{y:V}(d:H D=some (.lst a))(b:a.length<=i)(e:i<n)(f:n<=sizeLine)(h:c (i+1) (a++[y]) (upd H D (.lst (a++[y])))):
  ∃b,H D=some (.lst b)/\b.length<sizeLine/\Ue c D i (upd H D (.lst (b++[y]))):=
 ⟨a,d,(),a++[y],ab,by rw[List.length_append,List.length_singleton];lia,h⟩
theorem aZ{ix:List (Option Nat)}{J:It}{n:Nat}{g:TG}{c:TT}{k:TE}{l:Hp}{Q:VK}{D:Addr}(f:Nat->List V->Hp->Prop)(a:n<=sizeLine)(t:f 0 [] (upd l D (.lst [])))
  (u:∀i d H,i<n->f i d H->J.go i H) (v:∀d H,f n d H->J.stop n H)
  (w:∀i d H,i < n->H D=some (.lst d)->d.length<=i->f i d H->∀x h,J.Ox i H x h->g x (tF ix σ) h λa q=>Ext (tF ix σ) a/\c a q λb o=>
   if b=true then k a o λy q=>∃j,q D=some (.lst j)/\j.length < sizeLine/\Ue f D i (upd q D (.lst (j++[y]))) else Ue f D i o)
  (z:∀d H,H D=some (.lst d)->d.length<=n->f n d H->Q (.ref D) H):
  lP ix J g c k σ l Q D:=by
 calc⟨λi m H=>m=n-i/\i<=n/\∃d,H D=some (.lst d)/\d.length<=i/\f i d H,⟨n,nofun,U' _,[],ab,E' _,t⟩,?_⟩;rintro i m H ⟨rfl,a,d,r,s,p⟩;by_cases g:i<n
 ·exact .inr ⟨u i d H g p,Ue f D i,λh ⟨j,a,b,c⟩=>⟨n-(i+1),(),rfl,g,j,a,b,c⟩,λx h y=>w i d H g r s p x h y⟩
 ·have e:i=n:=by lia
  subst e;calc .inl ⟨v d H p,z d H r s p⟩
end
section
section
variable {X:Cx}
def Ht(i j:Int):Prop:=0<j/\j.natAbs.log2<9000
theorem Hu:gK X (binaryOp .FloorDiv) (rI Ht λi j=>.int (i/j)):=Z3 λi j _ _ _ _ _ a q=>by
 have b:(0:Int)<j:=a.1;calc floordiv_int () (by rw[Int.fdiv_eq_ediv_of_nonneg i ()];calc q) (.inl (PyProof.noPylong_of_log2 a.2))
def uI(C:Int->Int->Prop)(g:Int->Int->V):R2:=λx y H Q=>match x,y with
 | .int i,.int j=>C i j/\Q (g i j) H
 |_,_=>False
def MH(g:Int->Int->V):R2:=λx y H Q=>match x,y with
 | .int i,.int j=>Q (g i j) H
 |_,_=>False
theorem opU{f:Value->Value->Sem Value}{C:Int->Int->Prop}{g:Int->Int->V}(h:gK X f (rI C g)):gK X f (uI C g):=by
 intro a s σ H x y v u Q I b c q
 cases x<;>cases y<;>first
  |calc(show False from q).elim
  |calc h a s σ H _ _ v u Q I b c ⟨_,_,rfl,rfl,q.1,q.2⟩
theorem Hv{f:Value->Value->Sem Value}{g:Int->Int->V}(h:gK X f (L6 g)):gK X f (MH g):=by
 intro a s σ H x y v u Q I b c q
 cases x<;>cases y<;>first
  |calc(show False from q).elim
  |calc h a s σ H _ _ v u Q I b c ⟨_,_,rfl,rfl,q⟩
theorem fQ:gK X (binaryOp .Sub) (MH λi j=>.int (i-j)):=Hv QK
theorem mZ:gK X (binaryOp .Mult) (uI GN λi j=>.int (i*j)):=opU QL
theorem fg:gK X (binaryOp .Mod) (uI (λ_ j=>0<j) λi j=>.int (i%j)):=opU QM
theorem lQ:gK X (binaryOp .FloorDiv) (uI Ht λi j=>.int (i/j)):=opU Hu
theorem sC:gK X (binaryOp .Pow) (uI L8 λi j=>.int (i^j.toNat)):=opU QN
theorem eF:gK X (compareOp .Lt) (MH λi j=>.bl (decide (i<j))):=Hv Vw
theorem tJ:gK X (compareOp .LtE) (MH λi j=>.bl (decide (i<=j))):=Hv Vx
theorem nS:gK X (compareOp .Gt) (MH λi j=>.bl (decide (j<i))):=Hv Vy
theorem Rc:gK X (compareOp .GtE) (MH λi j=>.bl (decide (j<=i))):=Hv Vz
def j8(K:W.Frag)(H:Hp):Nat->V->V->Prop
 |0,_,_=>False
 |n+1,x,y=>(x=y/\j6 x=true)\/∃a b xs c,x=.ref a/\y=.ref b/\((bG K H a xs/\bG K H b c)\/(aM K H a xs/\aM K H b c))/\xs.length=c.length/\∀(i:Nat) u v,xs[i]?=some u->c[i]?=some v->j8 K H n u v
theorem in1_units(A:Around):A.in1.units=A.units+1:=rfl
theorem pd{pins:List (Addr×Obj)}{σ:St}{H:Hp}{s:Shared}(I:Inv X pins σ H s):∀(n:Nat) (A:Around) {x y:V}{u v:Value},j8 X.K H n x y->A.units+n<cLine->RelV x u->RelV y v->SeqAt.EqAt A s u v true
 |0,_,_,_,_,_,h,_,_,_=>h.elim
 |n+1,A,x,y,u,v,h,o,c,d=>by
  rcases h with⟨e,f⟩|⟨a,b,J,L,j,k,l,o,M⟩
  ·subst e;have q:=GZ (A:=A) (s:=s) c d f f;have g:Lo x x=true:=by cases x <;> first | rfl | calc absurd (show false=true from f) T' | simp[Lo]
   rw[g]at q;exact q
  ·subst j k
   cases c
   cases d;by_cases m:a=b
   ·subst m;exact SeqAt.EqAt.same _
   rcases l with⟨o,p⟩|⟨o,p⟩
   ·obtain⟨c,h,q,H⟩:=I.tuple o;obtain⟨f,k,r,N⟩:=I.tuple p;have O:=h.length;have P:=k.length;have t:c.toArray.size=f.toArray.size:=by simp;lia
    have d:=SeqAt.RcAt.tuples (A:=A) (e:=λ_=>true) (show s.heap.IsTuple a c.toArray from q) (show s.heap.IsTuple b f.toArray from r) () λj u v=>by
     have w:j<c.length:=by simpa using u
     have y:j<f.length:=by simpa using v
     obtain⟨z,l,B⟩:=h.get (i:=j) (x:=J[j]'()) nofun;obtain⟨C,g,D⟩:=k.get (i:=j) (x:=L[j]'()) nofun;have E:c.toArray[j]=z:=by
      have:=cF w;rw[this]at l;simpa using Option.some.inj l
     have F:f.toArray[j]=C:=by
      have:=cF y;rw[this]at g;simpa using Option.some.inj g
     rw[E,F];exact pd I n A.in1 (M j _ _ nofun nofun) (by rw[in1_units];lia) B D
    have G:SeqAt.RcAt A s (.ref a) (.ref b) true:=by
     have:((List.range (min c.toArray.size f.toArray.size)).all (λ_=>true)&&c.toArray.size==f.toArray.size)=true:=by
      rw[t];simp
     rw[this]at d;exact d
    exact SeqAt.EqAt.of_refs m G
   ·obtain⟨c,h,q,H⟩:=I.list o;obtain⟨f,k,r,N⟩:=I.list p;have O:=h.length;have P:=k.length;have t:c.toArray.size=f.toArray.size:=by simp;lia
    have d:=SeqAt.RcAt.lists (A:=A) (e:=λ_=>true) q.isList r.isList t () λj u v=>by
     have w:j<c.length:=by simpa using u
     have y:j<f.length:=by simpa using v
     obtain⟨z,l,B⟩:=h.get (i:=j) (x:=J[j]'()) nofun;obtain⟨C,g,D⟩:=k.get (i:=j) (x:=L[j]'()) nofun;have E:c.toArray[j]=z:=by
      have:=cF w;rw[this]at l;simpa using Option.some.inj l
     have F:f.toArray[j]=C:=by
      have:=cF y;rw[this]at g;simpa using Option.some.inj g
     rw[E,F];exact pd I n A.in1 (M j _ _ nofun nofun) (by rw[in1_units];lia) B D
    have G:SeqAt.RcAt A s (.ref a) (.ref b) true:=by
     have:((List.range c.toArray.size).all (λ_=>true))=true:=by simp
     rw[this]at d;exact d
    calc SeqAt.EqAt.of_refs m G
end
end
section
variable {pins:List (Addr×Obj)}{σ:St}
section
variable {X:Cx}
theorem Hw{H:Hp}{s:Shared}(I:Inv X pins σ H s){A:Around}{n:Nat}{a b:Addr}(h:j8 X.K H (n+1) (.ref a) (.ref b))(f:A.units+n+1<cLine):
  SeqAt.RcAt A s (.ref a) (.ref b) true/\SeqAt.RcNeAt A s (.ref a) (.ref b) false:=by
 rcases h with⟨e,f⟩|⟨g,k,J,L,c,d,j,l,M⟩
 ·exact absurd (show false=true from f) T'
 ·cases c
  cases d;rcases j with⟨g,h⟩|⟨g,h⟩
  ·obtain⟨d,k,l,H⟩:=I.tuple g;obtain⟨f,m,o,N⟩:=I.tuple h;have O:=k.length;have P:=m.length;have u:d.toArray.size=f.toArray.size:=by simp;lia
   have c:∀j (g:j<d.toArray.size) (h:j<f.toArray.size),SeqAt.EqAt A.in1 s d.toArray[j] f.toArray[j] ((λ_=>true) j):=λj v w=>by
    have y:j<d.length:=by simpa using v
    have z:j<f.length:=by simpa using w
    obtain⟨B,p,C⟩:=k.get (i:=j) (x:=J[j]'()) nofun;obtain⟨D,q,E⟩:=m.get (i:=j) (x:=L[j]'()) nofun;have F:d.toArray[j]=B:=by
     have:=cF y;rw[this]at p;simpa using Option.some.inj p
    have G:f.toArray[j]=D:=by
     have:=cF z;rw[this]at q;simpa using Option.some.inj q
    rw[F,G];exact pd I n A.in1 (M j _ _ nofun nofun) (by rw[in1_units];lia) C E
   have e:((List.range (min d.toArray.size f.toArray.size)).all (λ_=>true)&&d.toArray.size==f.toArray.size)=true:=by
    rw[u];simp
   have r:=SeqAt.RcAt.tuples (A:=A) (show s.heap.IsTuple a d.toArray from l) (show s.heap.IsTuple b f.toArray from o) () c;have t:=SeqAt.RcNeAt.tuples (A:=A) (show s.heap.IsTuple a d.toArray from l) (show s.heap.IsTuple b f.toArray from o) () c;rw[e]at r t;exact⟨r,t⟩
  ·obtain⟨d,k,l,H⟩:=I.list g;obtain⟨f,m,o,N⟩:=I.list h;have O:=k.length;have P:=m.length;have u:d.toArray.size=f.toArray.size:=by simp;lia
   have c:∀j (g:j<d.toArray.size) (h:j<f.toArray.size),SeqAt.EqAt A.in1 s d.toArray[j] f.toArray[j] ((λ_=>true) j):=λj v w=>by
    have y:j<d.length:=by simpa using v
    have z:j<f.length:=by simpa using w
    obtain⟨B,p,C⟩:=k.get (i:=j) (x:=J[j]'()) nofun;obtain⟨D,q,E⟩:=m.get (i:=j) (x:=L[j]'()) nofun;have F:d.toArray[j]=B:=by
     have:=cF y;rw[this]at p;simpa using Option.some.inj p
    have G:f.toArray[j]=D:=by
     have:=cF z;rw[this]at q;simpa using Option.some.inj q
    rw[F,G];exact pd I n A.in1 (M j _ _ nofun nofun) (by rw[in1_units];lia) C E
   have e:(List.range d.toArray.size).all (λ_=>true)=true:=by simp
   have r:=SeqAt.RcAt.lists (A:=A) l.isList o.isList u () c;have t:=SeqAt.RcNeAt.lists (A:=A) l.isList o.isList u () c;rw[e]at r t;calc⟨r,t⟩
def tK(K:W.Frag)(H:Hp)(a b:Addr):Prop:=∃xs c,xs.length≠c.length/\((aM K H a xs/\aM K H b c)\/(bG K H a xs/\bG K H b c/\(xs=[]\/c=[])))
theorem CW{H:Hp}{s:Shared}(I:Inv X pins σ H s){A:Around}{a b:Addr}(h:tK X.K H a b)(k:A.units<cLine):
  SeqAt.RcAt A s (.ref a) (.ref b) false/\SeqAt.RcNeAt A s (.ref a) (.ref b) true:=by
 obtain⟨j,n,r,⟨l,m⟩|⟨l,m,q⟩⟩:=h
 ·obtain⟨d,h,g,r⟩:=I.list l;obtain⟨f,n,i,t⟩:=I.list m;have o:=h.length;have p:=n.length;have j:(d.toArray.size != f.toArray.size)=true:=by simp;lia
  exact⟨SeqAt.RcAt.lists_lengths g.isList i.isList j k,SeqAt.RcNeAt.lists_lengths g.isList i.isList j k⟩
 ·obtain⟨d,h,g,r⟩:=I.tuple l;obtain⟨f,n,i,t⟩:=I.tuple m;have o:=h.length;have p:=n.length;have c:∀j (l:j<d.toArray.size) (m:j<f.toArray.size),SeqAt.EqAt A.in1 s d.toArray[j] f.toArray[j] ((λ_=>true) j):=λj h l=>by
   exfalso;have m:j<d.length:=by simpa using h
   have h:j<f.length:=by simpa using l
   rcases q with e|e
   ·subst e;simp at o;lia
   ·subst e;simp at p;lia
  have e:((List.range (min d.toArray.size f.toArray.size)).all (λ_=>true)&&d.toArray.size==f.toArray.size)=false:=by
   have:d.toArray.size≠f.toArray.size:=by simp;lia
   rw[Bool.and_eq_false_iff];exact .inr (beq_eq_false_iff_ne.mpr this)
  have h:=SeqAt.RcAt.tuples (A:=A) (show s.heap.IsTuple a d.toArray from g) (show s.heap.IsTuple b f.toArray from i) k c;have j:=SeqAt.RcNeAt.tuples (A:=A) (show s.heap.IsTuple a d.toArray from g) (show s.heap.IsTuple b f.toArray from i) k c;rw[e]at h j;calc⟨h,j⟩
def Rg(K:W.Frag):R2:=λx y H Q=>match x,y with
 | .ref a,.ref b=>(j8 K H 20 (.ref a) (.ref b)/\Q (.bl true) H)\/(tK K H a b/\Q (.bl false) H)
 |x,y=>L9 x y=true/\Q (.bl (decide (x=y))) H
def Ug(K:W.Frag):R2:=λx y H Q=>match x,y with
 | .ref a,.ref b=>(j8 K H 20 (.ref a) (.ref b)/\Q (.bl false) H)\/(tK K H a b/\Q (.bl true) H)
 |x,y=>L9 x y=true/\Q (.bl (!decide (x=y))) H
theorem Hx(c:X.A.units+64<cLine):gK X (compareOp .Eq) (Rg X.K):=by
  intro pins s σ H x y v u Q I a b h
  cases x<;>cases y<;>first
    |calc Vu pins s σ H _ _ v u Q I a b h
    | (cases a;cases b
       rcases h with⟨a,q⟩|⟨a,q⟩
       · exact(Hw I (A:=X.A) a ()).1 X.prog X.w X.xe _ ⟨.bl true,H,I,rfl,q⟩
       · calc(CW I (A:=X.A) a ()).1 X.prog X.w X.xe _ ⟨.bl false,H,I,rfl,q⟩)
theorem Bs(c:X.A.units+64<cLine):gK X (compareOp .NotEq) (Ug X.K):=by
  intro pins s σ H x y v u Q I a b h
  cases x<;>cases y<;>first
    |calc Vv pins s σ H _ _ v u Q I a b h
    | (cases a;cases b
       rcases h with⟨a,q⟩|⟨a,q⟩
       · exact(Hw I (A:=X.A) a ()).2 X.prog X.w X.xe _ ⟨.bl false,H,I,rfl,q⟩
       · calc(CW I (A:=X.A) a ()).2 X.prog X.w X.xe _ ⟨.bl true,H,I,rfl,q⟩)
def V7(g:Bool->Bool):R2:=λx y H Q=>match x,y with
 | .bl c,.bl d=>Q (.bl (g (c==d))) H
 |x,.bM=>Q (.bl (g (decide (x=.bM)))) H
 |_,_=>False
theorem xj:gK X (compareOp .Is) (V7 id):=by
 intro pins s σ H x y v u Q I a b h
 cases x<;>cases y<;>first
  |calc(show False from h).elim
  |calc QO pins s σ H _ _ v u Q I a b ⟨rfl,h⟩
  |(cases a;cases b;calc is_bool ⟨.bl _,H,I,rfl,h⟩)
theorem m7:gK X (compareOp .IsNot) (V7 not):=by
 intro pins s σ H x y v u Q I a b h
 cases x<;>cases y<;>first
  |calc(show False from h).elim
  |calc Ma pins s σ H _ _ v u Q I a b ⟨rfl,h⟩
  |(cases a;cases b;calc isnot_bool ⟨.bl _,H,I,rfl,h⟩)
def uIn(K:W.Frag)(a:Bool):R2:=λx y H Q=>match y with
 | .ref p=>∃xs,(aM K H p xs\/bG K H p xs)/\j6 x=true/\xs.all j6=true/\Q (.bl (if a then !CM x xs else CM x xs)) H
 |_=>False
theorem Hy:gK X (compareOp .In) (uIn X.K false):=by
 intro pins s σ H x y v u Q I a b h
 cases y<;>first
  |calc(show False from h).elim
  |(obtain⟨c,d,e,f,g⟩:=h;calc EN pins s σ H _ _ v u Q I a b ⟨_,c,rfl,d,e,f,g⟩)
def Hz(K:W.Frag)(a:TE):TI:=λσ H R=>a σ H λx b=>match x with
 | .ref a=>((∃xs,aM K b a xs)/\R (rD K a) b)\/((∃xs,bG K b a xs)/\R (QG K a) b)
 |_=>False
theorem bz{n l:Expr}{i:TE}(r:PE X l i):PI X n l (Hz X.K i):=by
  calc⟨?_⟩;intro pins s σ H R I h;calc dy (r pins s σ H _ I h) λv c t=>?_;obtain⟨x,j,d,u,k⟩:=t
  cases x<;>first
    |calc(show False from k).elim
    | (rename_i a;cases u
       rcases k with⟨⟨w,f⟩,q⟩|⟨⟨w,f⟩,q⟩
       · obtain⟨m,y,p,z⟩:=d.list f;calc aaz p.isList ?_;calc⟨c.heap.objs.size,[c.heap.objs.size],_,_,j,rfl,d.kept (t':=c.toks) λb o e=>F' _ e,EF a _,⟨_,P' _ rfl,rfl,rfl⟩,λb g=>?_,q⟩;have e:b=c.heap.objs.size:=by simpa using g
         subst e;exact d.GI (E' _) (d.aY.fresh (E' _))
       · obtain⟨m,y,p,z⟩:=d.tuple f;calc aam (show c.heap.IsTuple a m.toArray from p) ?_;calc⟨c.heap.objs.size,[c.heap.objs.size],_,_,j,rfl,d.kept (t':=c.toks) λb o e=>F' _ e,A0 a _,⟨_,P' _ rfl,rfl,rfl⟩,λb g=>?_,q⟩;have e:b=c.heap.objs.size:=by simpa using g
         subst e;calc d.GI (E' _) (d.aY.fresh (E' _)))
end
structure Def(P:Program)(w:World)(K:W.Frag)(mg:Str->Option Value)(base:Heap)(x:Str)(k:Nat)(ps:List Str)(sp:Sp):Prop where
 ex:∃f fd,nr P w K mg base EV k f fd ps sp/\mg x=some (.ref f)/\W.keepIn K (.ref f)=true/\Binds K fd ps []
structure cK(K:W.Frag)(mg:Str->Option Value)(x qual:Str)(st:Stmt)(ps:List Str):Prop where
 ex:∃f fd,My K x qual st f fd/\mg x=some (.ref f)/\Binds K fd ps []
section
variable {P:Program}{w:World}{K:W.Frag}{mg:Str->Option Value}{base:Heap}
theorem cK.ok{x qual:Str}{a:Stmt}{N b:List Str}{k:Nat}{sp:Sp}(T:cK K mg x qual a b)(S:aD N b (az a))(c:∀vs H Q E,sp vs H Q E->vs.length=b.length)
  (e:∀(f:Addr) (d:Value) (A:Around) (outer:List Env) (s:Shared) (H:Hp) (vs:List V) (Q:VK) (E:XK),fe k (A.deeper (envOfC qual (az a) s.heap.objs.size f d))->sp vs H Q E->
   ∃t,yy (sZ EV P w K mg base N qual (az a) f d A outer s H E).L4 (dw a) t/\t {nx:=λ_ a=>Q .bM a,rt:=Q} (start N vs) H):Def P w K mg base x (k + 1) b sp:=by
 obtain⟨f,a,F,b,d⟩:=T.ex;calc⟨f,a,F.ok S c (e f),b,F.kp,d⟩
end
theorem V8{X:Cx}{k j:Nat}{b:List Str}{sp:Sp}{x:Str}{p a:Pos}{e:Expr}{es:List Expr}{t:TA}(D:Def X.prog X.w X.K X.mg X.base x k b sp)(c:fe j X.A)(d:PA X (e::es) t)(g:Gl X x:=by rfl)(b:k<=j:=by decide)
  (h:(x==("__debug__":Str))=false:=by decide) (he:starEach (e::es) X.env=(false,eval e X.env)::starEach es X.env:=by rfl) (i:(backTo a (starEach es X.env)).any (·.1)=false:=by rfl):
  PE X (.Call (.Name x p) (e::es) [] a) (vL sp [] E0 t):=by
 obtain⟨f,k,F,a,e,j⟩:=D.ex;calc Mf F (c.mono b) g a e j .nil CU d h he i
end
section
variable {H:Hp}
section
variable {X:Cx}
def Ls(K:W.Frag):R2:=λx y H Q=>match x,y with
 | .str z,.int i=>∃c,z.length<=sizeLine/\gU z.cps.toList i=some c/\Q (.str ⟨#[c]⟩) H
 | .ref p,.int i=>∃xs v,(aM K H p xs\/bG K H p xs)/\gU xs i=some v/\Q v H
 | .ref p,.str k=>∃v,ji H p (.str k) (some v)/\Q v H
 |_,_=>False
theorem abT(c:X.A.units+64<cLine):VJ X (Ls X.K):=by
  intro a b d s σ H x y v u Q I i j h k
  cases x<;>cases y<;>first
    |calc(show False from h).elim
    |(obtain⟨c,f,l,e⟩:=h;calc QZ a b d s σ H _ _ v u Q I i j ⟨_,_,c,rfl,rfl,f,l,e⟩ k)
    | (obtain⟨c,m,f | f,l,e⟩:=h
       · exact Mm a b d s σ H _ _ v u Q I i j ⟨_,c,_,m,rfl,rfl,f,l,e⟩ k
       · calc QY a b d s σ H _ _ v u Q I i j ⟨_,c,_,m,rfl,rfl,f,l,e⟩ k)
    | (obtain⟨m,g,e⟩:=h
       cases i;calc tail_any (rE I g) PySem.F.slot_dict_getitem.lookup (vV () I g j λc d a b=>⟨m,H,a,b,e⟩) k)
end
inductive DV where
 |bM|bl (b:Bool)|int (i:Int)|str (x:Str)|tup (ds:List DV)|lst (ds:List DV)|dict
inductive HD(H:Hp):Nat->V->DV->Prop
 |bM {n}:HD H n .bM .bM
 |bl {n} (b:Bool):HD H n (.bl b) (.bl b)
 |int {n} (i:Int):HD H n (.int i) (.int i)
 |str {n} (x:Str):HD H n (.str x) (.str x)
 |tup {n a xs ds}:H a=some (.tup xs)->xs.length=ds.length->(∀(i:Nat) u e,xs[i]?=some u->ds[i]?=some e->HD H n u e)->HD H (n+1) (.ref a) (.tup ds)
 |lst {n a xs ds}:H a=some (.lst xs)->xs.length=ds.length->(∀(i:Nat) u e,xs[i]?=some u->ds[i]?=some e->HD H n u e)->HD H (n+1) (.ref a) (.lst ds)
 |dict {n a bf}:H a=some (.dK bf)->HD H n (.ref a) .dict
theorem HD.same{H a:Hp}(s:au H a){n:Nat}{x:V}{d:DV}(h:HD H n x d):HD a n x d:=by
 induction h with
 |bM=>calc .bM
 |bl b=>calc .bl b
 |int i=>calc .int i
 |str x=>calc .str x
 |tup a b c d=>calc .tup (s _ _ a) b d
 |lst a b c d=>calc .lst (s _ _ a) b d
 |dict a=>calc .dict (s _ _ a)
theorem HD.mono{H:Hp}{n:Nat}{x:V}{d:DV}(h:HD H n x d):∀{m:Nat},n<=m->HD H m x d:=by
 induction h with
 |bM=>intro m _;calc .bM
 |bl b=>intro m _;calc .bl b
 |int i=>intro m _;calc .int i
 |str x=>intro m _;calc .str x
 |tup a b c f=>
  intro m g;obtain⟨k,rfl⟩:∃k,m=k+1:=⟨m-1,()⟩
  calc .tup a b λi u e p q=>f i u e p q ()
 |lst a b c f=>
  intro m g;obtain⟨k,rfl⟩:∃k,m=k+1:=⟨m-1,()⟩
  calc .lst a b λi u e p q=>f i u e p q ()
 |dict a=>intro m _;calc .dict a
inductive HT(H:Hp):Nat->V->DV->Prop
 |bM {n}:HT H n .bM .bM
 |bl {n} (b:Bool):HT H n (.bl b) (.bl b)
 |int {n} (i:Int):HT H n (.int i) (.int i)
 |str {n} (x:Str):HT H n (.str x) (.str x)
 |tup {n a xs ds}:H a=some (.tup xs)->xs.length=ds.length->(∀(i:Nat) u e,xs[i]?=some u->ds[i]?=some e->HT H n u e)->HT H (n+1) (.ref a) (.tup ds)
theorem HT.hd{H:Hp}{n:Nat}{x:V}{d:DV}(h:HT H n x d):HD H n x d:=by
 induction h with
 |bM=>calc .bM
 |bl b=>calc .bl b
 |int i=>calc .int i
 |str x=>calc .str x
 |tup a b c d=>calc .tup a b d
def bW(H a:Hp):Prop:=∀b xs,H b=some (.tup xs)->a b=some (.tup xs)
theorem au.aN{a:Hp}(h:au H a):bW H a:=λb a e=>h b _ e
theorem bW.refl(H:Hp):bW H H:=λ_ _ h=>h
theorem bW.trans{c d:Hp}(a:bW H c)(b:bW c d):bW H d:=λc o h=>b c o (a c o h)
theorem bW.upd{a:Hp}(h:bW H a){p:Addr}{o:HO}(d:∀xs,a p≠some (.tup xs)):bW H (upd a p o):=λb xs e=>by
 have c:=h b xs e;have:b≠p:=λz=>by subst z;exact d xs c
 rw[av this];calc c
theorem HT.aI{H a:Hp}(s:bW H a){n:Nat}{x:V}{d:DV}(h:HT H n x d):HT a n x d:=by
 induction h with
 |bM=>calc .bM
 |bl b=>calc .bl b
 |int i=>calc .int i
 |str x=>calc .str x
 |tup a b c d=>calc .tup (s _ _ a) b d
theorem au.new{p:Addr}(o:HO)(a:H p=none):au H (upd H p o):=λb u e=>by rw[av (ao e a)];calc e
end
section
section
variable {X:Cx}
def MJ(K:W.Frag):List V->Hp->VK->Prop:=λxs H Q=>match xs with
 | [x]=>∃n,GP K x H n/\Q (.int (n:Nat)) H
 |_=>False
theorem aP:eQ X (.builtin "len") (MJ X.K):=by
 intro a s σ H b c Q I r h
 match b,r,h with
 | [x],r,h=>
  obtain⟨n,b,d⟩:=h;calc GQ a s σ H _ c Q I r ⟨x,n,rfl,b,d⟩
def uII(g:Int->Int->Int):List V->Hp->VK->Prop:=λxs H Q=>match xs with
 | [.int i,.int j]=>Q (.int (g i j)) H
 |_=>False
theorem EY(b:X.calm=true):eQ X (.builtin "max") (uII λi j=>if j > i then j else i):=by
 intro a s σ H c d Q I r h
 match c,r,h with
 | [.int i,.int j],r,h=>calc EH b a s σ H _ d Q I r ⟨i,j,rfl,h⟩
def xk(K:W.Frag):List V->Hp->VK->Prop:=λxs H Q=>match xs with
 | [.ref p]=>(∃a,aM K H p a/\∀l,H l=none->Q (.ref l) (upd H l (.tup a)))\/(∃a,bG K H p a/\Q (.ref p) H)
 |_=>False
theorem bV:eQ X (.type "tuple") (xk X.K):=by
 intro a s σ H b e Q I r h
 match b,r,h with
 | [.ref p],r,h=>
  rcases h with⟨b,c,d⟩|⟨b,c,d⟩
  ·exact nB a s σ H _ e Q I r ⟨p,b,rfl,.inl ⟨c,d⟩⟩
  ·calc nB a s σ H _ e Q I r ⟨p,b,rfl,.inr ⟨c,d⟩⟩
def HB(K:W.Frag):List V->Hp->VK->Prop:=λxs H Q=>match xs with
 | [.ref p]=>∃a,(aM K H p a\/bG K H p a)/\∀l,H l=none->Q (.ref l) (upd H l (.lst a))
 |_=>False
theorem cw:eQ X (.type "list") (HB X.K):=by
 intro a s σ H b c Q I r h
 match b,r,h with
 | [.ref p],r,h=>
  obtain⟨b,d,e⟩:=h;calc xb a s σ H _ c Q I r ⟨p,b,rfl,d,e⟩
def OD:V->V->V->Hp->(Hp->Prop)->Prop:=λo i v H Q=>match o,i with
 | .ref p,.int k=>∃xs j,H p=some (.lst xs)/\Bl xs.length k=some j/\Q (upd H p (.lst (xs.set j v)))
 |_,_=>False
theorem dA:QA X OD:=by
 intro a s σ H o i v b c u Q I d e f h
 cases o<;>cases i<;>first
  |calc(show False from h).elim
  |(obtain⟨g,j,i,k,l⟩:=h;calc set_list a s σ H _ _ v b c u Q I d e f ⟨_,g,_,j,rfl,rfl,i,k,l⟩)
end
theorem V9{CX P w K mg base N qual scope f cd A outer s H E}:(sZ CX P w K mg base N qual scope f cd A outer s H E).L4.K=K:=rfl
theorem OE{X:Cx}:X.L4.K=X.K:=rfl
theorem HC{CX P w K mg base N qual scope f cd A outer s H E}:(sZ CX P w K mg base N qual scope f cd A outer s H E).K=K:=rfl
theorem OF{X:Cx}{scope C N' a b fp}:(Uc X scope C N' a b fp).K=X.K:=rfl
theorem df:2<=sizeLine:=by decide
end
section
variable {g:Int->Int->V}
section
variable {K:W.Frag}{H:Hp}{Q:VK}{i j:Int}{a b:Addr}{x y:V}{s t:Str}
theorem OG{C:Int->Int->Prop}:uI C g (.int i) (.int j) H Q=(C i j/\Q (g i j) H):=rfl
theorem HE:MH g (.int i) (.int j) H Q=Q (g i j) H:=rfl
theorem HF:decide (V.int i=V.int j)=decide (i=j):=by simp
theorem HG:decide (V.str s=V.str t)=decide (s=t):=by simp
theorem xl:Rg K (.int i) (.int j) H Q=Q (.bl (decide (i=j))) H:=by
 show(true=true/\Q (.bl (decide (V.int i=V.int j))) H)=_;rw[HF];simp
theorem xm:Rg K (.str s) (.str t) H Q=Q (.bl (decide (s=t))) H:=by
 show(true=true/\Q (.bl (decide (V.str s=V.str t))) H)=_;rw[HG];simp
theorem xn:Ug K (.int i) (.int j) H Q=Q (.bl (!decide (i=j))) H:=by
 show(true=true/\Q (.bl (!decide (V.int i=V.int j))) H)=_;rw[HF];simp
theorem xo:Ug K (.str s) (.str t) H Q=Q (.bl (!decide (s=t))) H:=by
 show(true=true/\Q (.bl (!decide (V.str s=V.str t))) H)=_;rw[HG];simp
theorem HH:Rg K (.ref a) (.ref b) H Q=((j8 K H 20 (.ref a) (.ref b)/\Q (.bl true) H)\/(tK K H a b/\Q (.bl false) H)):=rfl
theorem HI:Ug K (.ref a) (.ref b) H Q=((j8 K H 20 (.ref a) (.ref b)/\Q (.bl false) H)\/(tK K H a b/\Q (.bl true) H)):=rfl
theorem HJ{g:Bool->Bool}{c d:Bool}:V7 g (.bl c) (.bl d) H Q=Q (.bl (g (c==d))) H:=rfl
theorem OH{b:Bool}:uIn K b x (.ref a) H Q=∃xs,(aM K H a xs\/bG K H a xs)/\j6 x=true/\xs.all j6=true/\Q (.bl (if b then !CM x xs else CM x xs)) H:=rfl
theorem HK:Ls K (.ref a) (.int i) H Q=∃xs v,(aM K H a xs\/bG K H a xs)/\gU xs i=some v/\Q v H:=rfl
theorem HL:Ls K (.ref a) (.str s) H Q=∃v,ji H a (.str s) (some v)/\Q v H:=rfl
theorem HM:Ls K (.str s) (.int i) H Q=∃c,s.length<=sizeLine/\gU s.cps.toList i=some c/\Q (.str ⟨#[c]⟩) H:=rfl
theorem HN:MJ K [x] H Q=∃n,GP K x H n/\Q (.int (n:Nat)) H:=rfl
theorem OI{g:Int->Int->Int}:uII g [.int i,.int j] H Q=Q (.int (g i j)) H:=rfl
theorem pf:xk K [.ref a] H Q=((∃b,aM K H a b/\∀l,H l=none->Q (.ref l) (upd H l (.tup b)))\/(∃b,bG K H a b/\Q (.ref a) H)):=rfl
theorem CY:HB K [.ref a] H Q=∃b,(aM K H a b\/bG K H a b)/\∀l,H l=none->Q (.ref l) (upd H l (.lst b)):=rfl
theorem yY{R:Hp->Prop}:OD (.ref a) (.int i) x H R=∃xs j,H a=some (.lst xs)/\Bl xs.length i=some j/\R (upd H a (.lst (xs.set j x))):=rfl
theorem vY{α:Type}{o:Option α}:(some o).join=o:=rfl
end
end
section
variable {r:List V->Hp->VK->Prop}
def fR:Expr->Bool
 | .Starred ..=>false
 |_=>true
theorem fF{e:Expr}{es:List Expr}{env:Env}(h:fR e=true):starEach (e::es) env=(false,eval e env)::starEach es env:=by
 cases e<;>first|rfl|calc absurd h T'
theorem j9{a:Pos}{env:Env}:∀{es:List Expr},es.all fR=true->(backTo a (starEach es env)).any (·.1)=false
 | [],_=>rfl
 |e::es,h=>by
  rw[List.all_cons,Bool.and_eq_true]at h;rw[fF h.1];show(false||(backTo a (starEach es env)).any (·.1))=false;rw[j9 h.2];rfl
def Bt:Expr->Bool
 | .ListComp ..=>false
 | .SetComp ..=>false
 | .DictComp ..=>false
 |_=>true
theorem gH{e:Expr}{t:Option Expr}{l:Nat}{env:Env}(h:Bt e=true):swapsWith e t l env=pure false:=by
 cases e<;>first|rfl|calc absurd h T'
section
variable {X:Cx}{e:Expr}{es:List Expr}{te:TE}{t:TA}{pos p:Pos}{x:Str}
theorem ag(a:PE X e te)(b:PA X es t)(h:fR e=true:=by rfl):PA X (e::es) (vK te t):=Me a b (fF h)
theorem aH{k j:Nat}{a:List Str}{sp:Sp}(D:Def X.prog X.w X.K X.mg X.base x k a sp)(b:fe j X.A)(c:PA X (e::es) t)(d:Gl X x:=by rfl)(a:k<=j:=by decide)
  (f:(x==("__debug__":Str))=false:=by decide) (g:fR e=true:=by rfl) (h:es.all fR=true:=by rfl):
  PE X (.Call (.Name x p) (e::es) [] pos) (vL sp [] E0 t):=V8 D b c d a f (fF g) (j9 h)
theorem aW{a:String}(b:eQ X (.builtin a) r)(c:Gl X x)(d:X.mg x=none)(f:bootBuiltins x=some (.builtin a))(g:PA X (e::es) t)(h:x≠"__name__":=by decide)(a:(x==("__debug__":Str))=false:=by decide)
  (i:fR e=true:=by rfl) (j:es.all fR=true:=by rfl):PE X (.Call (.Name x p) (e::es) [] pos) (QU r t):=GW b c d f g h a (fF i) (j9 j)
theorem cL{T:String}(a:eQ X (.type T) r)(b:Gl X x)(c:X.mg x=none)(d:bootBuiltins x=some (.type T))(f:PA X (e::es) t)(g:x≠"__name__":=by decide)(h:(x==("__debug__":Str))=false:=by decide)
  (i:fR e=true:=by rfl) (j:es.all fR=true:=by rfl):PE X (.Call (.Name x p) (e::es) [] pos) (QU r t):=EL a b c d f g h (fF i) (j9 j)
theorem aU{i:Nat}{a:Pos}(b:X.N.Nodup)(c:X.N[i]?=some x)(d:Loc X.env.scope x)(he:PE X e te)(h:Bt e=true:=by rfl)(f:X.fn x=true\/X.env.scope.names.lookup x=some .local:=by grind):
  PS X (.Assign [.Name x a] e pos) (EE te (dI i)):=GH b c d he (gH h) f
theorem bN(he:PE X e te)(h:Bt e=true:=by rfl):PS X (.Expr e pos) (Cw te):=L5 he (gH h)
end
end
section
def xq:Expr->Bool
 | .Slice ..=>false
 |_=>true
theorem ph{b:Expr}(h:xq b=true):CK b:=λo i=>by
 cases b<;>first|rfl|calc absurd h T'
theorem aj{X:Cx}{a b:Expr}{d e:TE}{c:Pos}(f:X.A.units+64<cLine)(g:PE X a d)(i:PE X b e)(h:xq b=true:=by rfl):PE X (.Subscript a b c) (AI (Ls X.K) d e):=VN (abT f) g i (ph h)
end
end L2
set_option maxHeartbeats 400000
namespace L2
open PySem PySem.Spec PyProof.Rows
section
section
variable {prog:Program}{w:World}{A:Around}{E:Value->Shared->Prop}{s:Shared}{K:W.Frag}{x C B:Addr}{ox:Obj}{od:Option Obj}{name:Str}
open PySem.W in
open PySem.W in
end
end
section
end
end L2
namespace L2
open PySem PySem.Spec PyProof.Rows
end L2
set_option maxHeartbeats 4000000
namespace PySem
variable {a j:Addr}{Q:Value->Shared->Prop}
section
variable {prog:Program}{w:World}{A:Around}{E:Value->Shared->Prop}{s:Shared}
theorem rP{n:Nat}{c:Array Value}{v:Value}(b:s.heap.IsTupleIter j a n)(f:s.heap.IsTuple a c)(h:c[n]?=some v)
  (q:∀g,g.IsTupleIter j a (n+1)->Heap.SameBut j s.heap g->Q v {s with heap:=g}):wpAny (model prog w) A (Builtin.SmallTypes.nextOf (.ref j)) Q E s:=by
 obtain⟨g,e,c,d⟩:=id b;obtain⟨k,g,_,l,i⟩:=f;unfold Builtin.SmallTypes.nextOf;refine A' (aaq (name:=Str.ofString "__next__") b.typeIs F.slot_tuple_iterator_next (aat F.slot_tuple_iterator_next b.typeIs F.entry_tuple_iterator_next ?_ (F.args_tuple_iterator_next_1 _)));refine A' (m:=field (.ref j) 0) (aag e d (x:=.ref a) rfl ?_);show wpAny _ _ (if (Value.ref a==Value.none)=true then _ else _) _ _ _;rw[if_neg (by exact T')];refine A' (m:=field (.ref j) 1) (aag e d (x:=.int n 0) rfl ?_);refine A' (m:=seqItems? (.ref a)) (aak g i ?_);simp only[Int.toNat_natCast,h];refine A' (wpAny_setField e d nofun (K' ⟨v,rfl,K' (q _ ⟨_,Heap.get?_update_self _ e (Obj.isFreed_of_fields (Obj.data_mapFields d _)),(Obj.cls_mapFields ..).trans c,?_⟩ (Heap.SameBut.update ..))⟩));rw[Obj.data_mapFields d];simp[rawInt]
theorem tL{n:Nat}{c:Array Value}(f:A.handled=none)(b:s.heap.IsTupleIter j a n)(h:s.heap.IsTuple a c)(i:c[n]?=none)
  (q:∀g e,Heap.ExtBut j s.heap g->(∃o,g.get? e=some o/\o.cls=.type "StopIteration")->E (.ref e) {s with heap:=g}):wpAny (model prog w) A (Builtin.SmallTypes.nextOf (.ref j)) Q E s:=by
 obtain⟨g,e,c,d⟩:=id b;obtain⟨k,c,_,l,g⟩:=h;unfold Builtin.SmallTypes.nextOf;refine A' (aaq (name:=Str.ofString "__next__") b.typeIs F.slot_tuple_iterator_next (aat F.slot_tuple_iterator_next b.typeIs F.entry_tuple_iterator_next ?_ (F.args_tuple_iterator_next_1 _)));refine A' (m:=field (.ref j) 0) (aag e d (x:=.ref a) rfl ?_);show wpAny _ _ (if (Value.ref a==Value.none)=true then _ else _) _ _ _;rw[if_neg (by exact T')];refine A' (m:=field (.ref j) 1) (aag e d (x:=.int n 0) rfl ?_);refine A' (m:=seqItems? (.ref a)) (aak c g ?_);simp only[Int.toNat_natCast,i];refine A' (wpAny_rule (A' (wpAny_setField e d nofun (A' (m:=newExc (.type "StopIteration") []) ?_))));simp only[newExc,newTuple];refine A' (aay (A' (m:=firstArgMember _ _) (wpAny_of_eq (a:=Value.none) (by first|rfl|(simp only[firstArgMember];rfl)) (aay ?_ (by size_fits)))) (by size_fits));simp only[raiseNew];refine A' (wpAny_handled ?_)
 first|rw[show A.in1.handled=none from f]|rw[f]
 calc A' (K' (wpAny_throw (q _ _ (((Heap.SameBut.update ..).extBut.push _).push _) ⟨_,P' _ rfl,rfl⟩)))
end
theorem Draws.tup{prog:Program}{w:World}{A:Around}(f:A.handled=none)(j a:Addr)(l:a≠j)(c:Array Value):
  Draws prog w A j [j,a] c.size (λi v=>c[i]?=some v) (λi h=>h.IsTupleIter j a i/\h.IsTuple a c) where
 live:=λ_ _ b=>let ⟨o,d,_⟩:=b.1;⟨o,d⟩
 frame:=λ_ _ _ b k=>⟨b.1.at λo e=>k j nofun o e,b.2.at λo e=>k a nofun o e⟩
 item:=λi s Q E d b q=>rP b.1 b.2 (v:=c[i]) (by simp[d]) λg h e=>q _ g s.toks (by simp[d]) ⟨h,b.2.extBut e.extBut l⟩ e
 done:=λs Q E b q=>tL f b.1 b.2 nofun q
def Bu(b:Bool)(h:Heap)(a:Addr)(c:Array Value):Prop:=if b=true then h.IsList a c else h.IsTuple a c
def qg(b:Bool)(h:Heap)(j a:Addr)(n:Nat):Prop:=if b=true then h.IsListIter j a n else h.IsTupleIter j a n
theorem qg.at{b:Bool}{h h':Heap}{n:Nat}(x:qg b h j a n)(k:∀o,h.get? j=some o->h'.get? j=some o):qg b h' j a n:=by
 cases b
 ·exact Heap.IsTupleIter.at x k
 ·calc Heap.IsListIter.at x k
theorem qg.obj{b:Bool}{h:Heap}{n:Nat}(x:qg b h j a n):∃o,h.get? j=some o/\∀v,o.data≠.cell v:=by
 cases b<;>(obtain⟨o,e,c,d⟩:=x;calc⟨o,e,λv z=>by rw[d]at z;cases z⟩)
theorem Draws.sq{prog:Program}{w:World}{A:Around}(d:A.handled=none)(b:Bool)(j a:Addr)(e:a≠j)(c:Array Value):
  Draws prog w A j [j,a] c.size (λi v=>c[i]?=some v) (λi h=>qg b h j a i/\Bu b h a c):=by
 cases b
 ·exact Draws.tup d j a e c
 ·calc Draws.list d j a e c
end PySem
namespace PySem
variable {Q:Option Value->Shared->Prop}
structure ZA(z ti to i1 i2:Addr)(f1 f2:List Addr):Prop where
 a1:ti≠z
 a2:to≠z
 a3:i1≠z
 a4:i2≠z
 a5:ti≠to
 a6:ti≠i1
 a7:ti≠i2
 a8:to≠i1
 a9:to≠i2
 a10:i1≠i2
 b1:z∉f1
 b2:to∉f1
 b3:i2∉f1
 c1:z∉f2
 c2:to∉f2
 c3:i1∉f2
section
variable {prog:Program}{w:World}{A:Around}{E:Value->Shared->Prop}{s:Shared}{z ti to i1 i2:Addr}{f1 f2:List Addr}{n1 n2 k:Nat}{P1 P2:Nat->Value->Prop}{S1 S2:Nat->Heap->Prop}{a b:Value}
theorem EZ{Q:Value->Shared->Prop}(Z:ZA z ti to i1 i2 f1 f2)(B:Draws prog w A i1 f1 n1 P1 S1)(C:Draws prog w A i2 f2 n2 P2 S2)(d:IsZip s.heap z ti to .none)(i:IsPair s.heap ti (.ref i1) (.ref i2))(u:IsPair s.heap to a b)
  (l:S1 k s.heap) (F:S2 k s.heap) (n:k<n1) (G:k<n2)
  (q:∀x y g e,P1 k x->P2 k y->IsZip g z ti to (rawInt s.heap.objs.size)->IsPair g to x y->S1 (k + 1) g->S2 (k + 1) g->IsPair g s.heap.objs.size x y->g.objs.size=s.heap.objs.size + 1->
   (∀c o,c≠z->c≠to->c≠i1->c≠i2->s.heap.get? c=some o->g.get? c=some o)->Q (.ref s.heap.objs.size) {s with heap:=g,toks:=e}):
  wpAny (model prog w) A (Builtin.«zip.__next__» ⟨[.ref z],[]⟩) (λe s'=>∃v,e=.done (.ret v)/\Q v s') E s:=by
 calc A' (m:=field (.ref z) 2) (aag d rfl (x:=.bool false) rfl (A' (m:=field (.ref z) 3) (aag d rfl (x:=.ref ti) rfl ?_)));calc A' (aak i rfl (A' (m:=Builtin.SmallTypes.ownedTupleIsFree (.ref z)) ?_));unfold Builtin.SmallTypes.ownedTupleIsFree;calc A' (aag d rfl (x:=.none) rfl (K' ?_));simp only[if_true];refine A' (wpAny_rule (A' (aag d rfl (x:=.ref to) rfl (A' (wpAny_setField_rec d nofun λj p r=>?_)))))
 replace p:IsZip j z ti to .ellipsis:=p
 calc A' ?_;simp only[List.zipIdx_cons,List.zipIdx_nil,List.forIn_cons,List.forIn_nil];calc A' (A' (wpAny_onRaise (A' (m:=Builtin.SmallTypes.nextOf (.ref i1)) ?_)));refine B.item k _ _ _ n (B.frame _ _ _ l λc g o e=>r.extBut c o (λh=>Z.b1 (h▸g)) e) λx d l L J i=>K' ?_
 replace i:Heap.SameBut i1 j d:=i
 have l:IsPair d to a b:=i.extBut _ _ Z.a8 (r.extBut _ _ Z.a2 u);refine A' (aak l rfl (A' (wpAny_updateSeq_pair l λn t j=>A' (wpAny_letGo (K' ?_)))))
 replace t:IsPair n to x b:=t
 replace j:Heap.SameBut to d n:=j
 calc A' (A' (wpAny_onRaise (A' (m:=Builtin.SmallTypes.nextOf (.ref i2)) ?_)));refine C.item k _ _ _ G (C.frame _ _ _ F λc g o e=>j.extBut c o (λh=>Z.c2 (h▸g)) (i.extBut c o (λh=>Z.c3 (h▸g)) (r.extBut c o (λh=>Z.c1 (h▸g)) e))) λy u d M K l=>K' ?_
 replace l:Heap.SameBut i2 n u:=l
 have F:IsPair u to x b:=l.extBut _ _ Z.a9 t;refine A' (aak F rfl (A' (wpAny_updateSeq_pair F λd v n=>A' (wpAny_letGo (K' (K' ?_))))))
 replace v:IsPair d to x y:=v
 replace n:Heap.SameBut to u d:=n
 calc A' (aak v rfl (A' (wpAny_newTuple ?_)));have t:d.objs.size=s.heap.objs.size:=by rw[n.1,l.1,j.1,i.1,r.1]
 have u:IsZip d z ti to .ellipsis:=n.extBut _ _ Z.a2.symm (l.extBut _ _ Z.a4.symm (j.extBut _ _ Z.a2.symm (i.extBut _ _ Z.a3.symm p)));have N:∀c o,c≠z->c≠to->c≠i1->c≠i2->s.heap.get? c=some o->d.get? c=some o:=λc o p F G I e=>n.extBut _ _ F (l.extBut _ _ I (j.extBut _ _ F (i.extBut _ _ G (r.extBut _ _ p e))));have O:S1 (k+1) d:=B.frame _ _ _ J λc g o e=>n.extBut c o (λh=>Z.b2 (h▸g)) (l.extBut c o (λh=>Z.b3 (h▸g)) (j.extBut c o (λh=>Z.b2 (h▸g)) e));have P:S2 (k+1) d:=C.frame _ _ _ K λc g o e=>n.extBut c o (λh=>Z.c2 (h▸g)) e;have l:z<d.objs.size:=M' u;refine A' (m:=Builtin.SmallTypes.ownedTupleHandOut (.ref z) (.ref d.objs.size)) ?_;unfold Builtin.SmallTypes.ownedTupleHandOut;have i:IsZip (d.push {cls:=.type "tuple",data:=.seq #[x,y]}) z ti to .ellipsis:=F' _ u;refine A' (wpAny_setField_rec i nofun λn j J=>?_)
 replace j:IsZip n z ti to (rawInt d.objs.size):=j
 refine wpAny_setField_rec j nofun λn i u=>?_
 replace i:IsZip n z ti to (rawInt d.objs.size):=i
 have r:∀c o,c≠z->d.get? c=some o->n.get? c=some o:=λc o p e=>u.extBut _ _ p (J.extBut _ _ p (F' _ e));have K:IsPair n d.objs.size x y:=u.extBut _ _ (aal l) (J.extBut _ _ (aal l) (P' _ rfl));have j:n.objs.size=d.objs.size+1:=by rw[u.1,J.1,Heap.size_push]
 rw[t]at i K j;calc K' ⟨_,rfl,?_⟩;show Q (.ref d.objs.size) _;rw[t];calc q x y n _ L M i (r _ _ Z.a2 v) (B.frame _ _ _ O λc g o e=>r c o (λh=>Z.b1 (h▸g)) e) (C.frame _ _ _ P λc g o e=>r c o (λh=>Z.c1 (h▸g)) e) K j λc o p F G I e=>r c o p (N c o p F G I e)
theorem HR{Q:Fin->Shared->Prop}(Z:ZA z ti to i1 i2 f1 f2)(J:Draws prog w A i1 f1 n1 P1 S1)(O:Draws prog w A i2 f2 n2 P2 S2)(r:IsZip s.heap z ti to .none)(S:IsPair s.heap ti (.ref i1) (.ref i2))(T:IsPair s.heap to a b)
  (U:S1 k s.heap) (W:S2 k s.heap) (l:k=n1\/(k<n1/\k=n2))
  (q:∀g e X,(∀c o,c≠z->c≠to->c≠i1->c≠i2->s.heap.get? c=some o->g.get? c=some o)->(∃o,g.get? e=some o/\o.cls=.type "StopIteration")->E (.ref e) {s with heap:=g,toks:=X}):
  wpAny (model prog w) A (Builtin.«zip.__next__» ⟨[.ref z],[]⟩) Q E s:=by
 calc A' (m:=field (.ref z) 2) (aag r rfl (x:=.bool false) rfl (A' (m:=field (.ref z) 3) (aag r rfl (x:=.ref ti) rfl ?_)));calc A' (aak S rfl (A' (m:=Builtin.SmallTypes.ownedTupleIsFree (.ref z)) ?_));unfold Builtin.SmallTypes.ownedTupleIsFree;calc A' (aag r rfl (x:=.none) rfl (K' ?_));simp only[if_true];refine A' (wpAny_rule (A' (aag r rfl (x:=.ref to) rfl (A' (wpAny_setField_rec r nofun λK F t=>?_)))))
 replace F:IsZip K z ti to .ellipsis:=F
 calc A' ?_;simp only[List.zipIdx_cons,List.zipIdx_nil,List.forIn_cons,List.forIn_nil];calc A' (A' (wpAny_onRaise (A' (m:=Builtin.SmallTypes.nextOf (.ref i1)) ?_)));have u:=J.frame _ _ _ U λc v o e=>t.extBut c o (λh=>Z.b1 (h▸v)) e;rcases l with l|⟨Y,l2⟩
 ·subst l;calc J.done _ _ _ u λp x d L=>?_;obtain⟨M,j,B⟩:=L
  replace d:Heap.ExtBut i1 K p:=d
  have P:IsZip p z ti to .ellipsis:=d _ _ Z.a3.symm F;have n:x≠z:=λy=>by subst y;rw[P]at j;cases j;simp at B
  exact wpAny_setField_rec P nofun λG _ i=>q G x s.toks (λc o C _ N _ y=>i.extBut _ _ C (d _ _ N (t.extBut _ _ C y))) ⟨M,i.extBut _ _ n j,B⟩
 ·subst l2;refine J.item k _ _ _ Y u λx p OJ g l d=>K' ?_
  replace d:Heap.SameBut i1 K p:=d
  have g:IsPair p to a b:=d.extBut _ _ Z.a8 (t.extBut _ _ Z.a2 T);refine A' (aak g rfl (A' (wpAny_updateSeq_pair g λG l i=>A' (wpAny_letGo (K' ?_)))))
  replace i:Heap.SameBut to p G:=i
  calc A' (A' (wpAny_onRaise (A' (m:=Builtin.SmallTypes.nextOf (.ref i2)) ?_)));calc O.done _ _ _ (O.frame _ _ _ W λc v o e=>i.extBut c o (λh=>Z.c2 (h▸v)) (d.extBut c o (λh=>Z.c3 (h▸v)) (t.extBut c o (λh=>Z.c1 (h▸v)) e))) λg x I L=>?_;obtain⟨M,j,B⟩:=L
  replace I:Heap.ExtBut i2 G g:=I
  have R:IsZip g z ti to .ellipsis:=I _ _ Z.a4.symm (i.extBut _ _ Z.a2.symm (d.extBut _ _ Z.a3.symm F));have n:x≠z:=λy=>by subst y;rw[R]at j;cases j;simp at B
  calc wpAny_setField_rec R nofun λg _ e=>q g x OJ (λc o C l N p y=>e.extBut _ _ C (I _ _ p (i.extBut _ _ l (d.extBut _ _ N (t.extBut _ _ C y))))) ⟨M,e.extBut _ _ n j,B⟩
end
section
variable {prog:Program}{w:World}{A:Around}{E:Value->Shared->Prop}{s:Shared}{z ti to i1 i2:Addr}{f1 f2:List Addr}{n1 n2 k:Nat}{P1 P2:Nat->Value->Prop}{S1 S2:Nat->Heap->Prop}{a b:Value}
theorem va(Z:ZA z ti to i1 i2 f1 f2)(f:Draws prog w A.in1 i1 f1 n1 P1 S1)(h:Draws prog w A.in1 i2 f2 n2 P2 S2)(e:IsZip s.heap z ti to .none)(i:IsPair s.heap ti (.ref i1) (.ref i2))(j:IsPair s.heap to a b)
  (l:S1 k s.heap) (m:S2 k s.heap) (n:k<n1) (p:k<n2)
  (q:∀x y g d,P1 k x->P2 k y->IsZip g z ti to (rawInt s.heap.objs.size)->IsPair g to x y->S1 (k + 1) g->S2 (k + 1) g->IsPair g s.heap.objs.size x y->g.objs.size=s.heap.objs.size + 1->
   (∀c o,c≠z->c≠to->c≠i1->c≠i2->s.heap.get? c=some o->g.get? c=some o)->Q (some (.ref s.heap.objs.size)) {s with heap:=g,toks:=d}):
  wpAny (model prog w) A (pyNext (.ref z)) Q E s:=by
 have c:s.TypeIs (.ref z) "zip":=⟨_,e,rfl⟩
 unfold pyNext;exact A' (wpAny_attempt (aaq (name:=Str.ofString "__next__") c F.slot_zip_next (aat F.slot_zip_next c F.entry_zip_next
  (EZ Z f h e i j l m n p λx y g d c o r t u v B C D=>K' (q x y g d c o r t u v B C D)) (F.args_zip_next_1 _))))
theorem xt(Z:ZA z ti to i1 i2 f1 f2)(h:Draws prog w A.in1 i1 f1 n1 P1 S1)(i:Draws prog w A.in1 i2 f2 n2 P2 S2)(d:IsZip s.heap z ti to .none)(j:IsPair s.heap ti (.ref i1) (.ref i2))(m:IsPair s.heap to a b)
  (n:S1 k s.heap) (p:S2 k s.heap) (l:k=n1\/(k<n1/\k=n2))
  (q:∀g f,(∀c o,c≠z->c≠to->c≠i1->c≠i2->s.heap.get? c=some o->g.get? c=some o)->Q none {s with heap:=g,toks:=f}):wpAny (model prog w) A (pyNext (.ref z)) Q E s:=by
 have c:s.TypeIs (.ref z) "zip":=⟨_,d,rfl⟩
 unfold pyNext;refine A' (wpAny_attempt (aaq (name:=Str.ofString "__next__") c F.slot_zip_next (aat F.slot_zip_next c F.entry_zip_next
  (HR Z h i d j m n p l λg e f c ⟨o,r,t⟩=>?_) (F.args_zip_next_1 _))))
 calc A' (wpAny_isInstance (T:="StopIteration") (b:=true) ⟨o,r,t⟩ isSubtype_stop (K' (q _ _ c)))
end
def Lu(b:Bool)(a:Addr):Obj:=if b=true then {cls:=.type "list_iterator",data:=.fields #[.ref a,.int 0 0]} else {cls:=.type "tuple_iterator",data:=.fields #[.ref a,.int 0 0]}
abbrev zz1(h:Heap)(b:Bool)(l:Addr):Heap:=h.push (Lu b l)
abbrev zz2(h:Heap)(b c:Bool)(l m:Addr):Heap:=(zz1 h b l).push (Lu c m)
abbrev zz3(h:Heap)(b c:Bool)(l m:Addr):Heap:=(zz2 h b c l m).push {cls:=.type "tuple",data:=.seq #[.ref h.objs.size,.ref (zz1 h b l).objs.size]}
abbrev zz4(h:Heap)(b c:Bool)(l m:Addr):Heap:=(zz3 h b c l m).push {cls:=.type "tuple",data:=.seq #[.none,.none]}
abbrev Rj(h:Heap)(b c:Bool)(l m:Addr):Heap:=(zz4 h b c l m).push {cls:=.type "zip",data:=.fields #[.none,.bool false,.bool false,.ref (zz2 h b c l m).objs.size,.ref (zz3 h b c l m).objs.size]}
theorem E2(b c:Bool)(l m:Addr)(xs i:Array Value):
  Meets (Builtin.«zip.__new__» ⟨[.type "zip",.ref l,.ref m],[]⟩) (λ_ R s=>Bu b s.heap l xs/\Bu c s.heap m i/\R (.ok (.ret (.ref (zz4 s.heap b c l m).objs.size))) {s with heap:=Rj s.heap b c l m}):=
 .of_wp λn w A R s h=>by
  obtain⟨a,g,d,e,f⟩:=s;obtain⟨j,k,h⟩:=h;have n:=sub_zip
  cases b<;>cases c
  ·have b:Heap.IsTuple (Shared.heap ⟨a,g,d,e,f⟩) l xs:=j;have L2:Heap.IsTuple (Shared.heap ⟨a.push {cls:=.type "tuple_iterator",data:=.fields #[.ref l,.int 0 0]},g,d,e,f⟩) m i:=Heap.IsTuple.push k _;wp_walk using aam b,aam L2;exact⟨_,rfl,h⟩
  ·have b:Heap.IsTuple (Shared.heap ⟨a,g,d,e,f⟩) l xs:=j;have L2:Heap.IsList (Shared.heap ⟨a.push {cls:=.type "tuple_iterator",data:=.fields #[.ref l,.int 0 0]},g,d,e,f⟩) m i:=Heap.IsList.push k _;wp_walk using aam b,aaz L2;exact⟨_,rfl,h⟩
  ·have b:Heap.IsList (Shared.heap ⟨a,g,d,e,f⟩) l xs:=j;have L2:Heap.IsTuple (Shared.heap ⟨a.push {cls:=.type "list_iterator",data:=.fields #[.ref l,.int 0 0]},g,d,e,f⟩) m i:=Heap.IsTuple.push k _;wp_walk using aaz b,aam L2;exact⟨_,rfl,h⟩
  ·have b:Heap.IsList (Shared.heap ⟨a,g,d,e,f⟩) l xs:=j;have L2:Heap.IsList (Shared.heap ⟨a.push {cls:=.type "list_iterator",data:=.fields #[.ref l,.int 0 0]},g,d,e,f⟩) m i:=Heap.IsList.push k _;wp_walk using aaz b,aaz L2;exact⟨_,rfl,h⟩
theorem tM(b:Bool)(a:Addr):(Lu b a).isFreed=false:=by cases b<;>rfl
theorem Bv{b:Bool}{h:Heap}{j a:Addr}(e:h.get? j=some (Lu b a)):qg b h j a 0:=by
 cases b
 ·exact⟨_,e,rfl,rfl⟩
 ·calc⟨_,e,rfl,rfl⟩
theorem HS{prog:Program}{w:World}{A:Around}{E:Value->Shared->Prop}{s:Shared}{b c:Bool}{l m:Addr}{xs f:Array Value}{Q:Value->Shared->Prop}(h:Bu b s.heap l xs)(i:Bu c s.heap m f)
  (q:∀g,IsZip g (s.heap.objs.size + 4) (s.heap.objs.size + 2) (s.heap.objs.size + 3) .none->IsPair g (s.heap.objs.size + 2) (.ref s.heap.objs.size) (.ref (s.heap.objs.size + 1))->
   IsPair g (s.heap.objs.size+3) .none .none->qg b g s.heap.objs.size l 0->qg c g (s.heap.objs.size+1) m 0->g.objs.size=s.heap.objs.size+5->
   (∀d o,s.heap.get? d=some o->g.get? d=some o)->Q (.ref (s.heap.objs.size + 4)) {s with heap:=g}):
  wpAny (model prog w) A (call (.type "zip") [.ref l,.ref m]) Q E s:=by
 calc callType_new F.called_zip ∅ (F.typeCall_zip_2 _ _) (F.newCall_zip_2 _ _) (λa=>F.args_object_init_3 a _ _) F.entry_zip_new (E2 b c l m xs f) ⟨h,i,?_⟩;have e:(zz1 s.heap b l).objs.size=s.heap.objs.size+1:=Heap.size_push ..;have a:(zz2 s.heap b c l m).objs.size=s.heap.objs.size+2:=by rw[Heap.size_push,e]
 have f:(zz3 s.heap b c l m).objs.size=s.heap.objs.size+3:=by rw[Heap.size_push,a]
 have g:(zz4 s.heap b c l m).objs.size=s.heap.objs.size+4:=by rw[Heap.size_push,f]
 have n:(Rj s.heap b c l m).objs.size=s.heap.objs.size+5:=by rw[Heap.size_push,g]
 have h:(Rj s.heap b c l m).get? (zz4 s.heap b c l m).objs.size=some _:=P' _ rfl;have i:(Rj s.heap b c l m).get? (zz3 s.heap b c l m).objs.size=some _:=F' _ (P' _ rfl);have j:(Rj s.heap b c l m).get? (zz2 s.heap b c l m).objs.size=some _:=F' _ (F' _ (P' _ rfl));have k:(Rj s.heap b c l m).get? (zz1 s.heap b l).objs.size=some (Lu c m):=F' _ (F' _ (F' _ (P' _ (tM ..))));have p:(Rj s.heap b c l m).get? s.heap.objs.size=some (Lu b l):=F' _ (F' _ (F' _ (F' _ (P' _ (tM ..)))));show _/\_;rw[a,f,g]at h;rw[e,a]at j;rw[f]at i;rw[e]at k;rw[g];calc⟨⟨_,h,rfl⟩,q _ h j i (Bv p) (Bv k) n λd o x=>F' _ (F' _ (F' _ (F' _ (F' _ x))))⟩
theorem tN(l:Addr)(e:Array Value):
  Meets (Builtin.«enumerate.__new__» ⟨[.type "enumerate",.ref l],[]⟩) (λ_ R s=>s.heap.IsTuple l e/\
   R (.ok (.ret (.ref (s.heap.push (Lu false l)).objs.size))) {s with heap:=(s.heap.push (Lu false l)).push {cls:=.type "enumerate",data:=.fields #[.none,.bool false,.ref s.heap.objs.size,rawInt 0,.none,.none]}}):=
 .of_wp λf w A R s h=>by
  obtain⟨i,g,d,k,m⟩:=s;obtain⟨j,h⟩:=h;have p:=sub_enumerate;have b:Heap.IsTuple (Shared.heap ⟨i,g,d,k,m⟩) l e:=j;obtain⟨n,a,q,r,o⟩:=id j
  replace a:i.get? l=some n:=a
  wp_walk using AutoSeq1.wpAny_loadPart' a;calc wpAny_stack_any λt=>K' ?_;split
  ·rename_i c _ _ _ _ _
   cases(c==Value.type "enumerate")
   ·wp_walk using AutoSeq1.wpAny_loadPart' a,aam b;exact⟨_,rfl,h⟩
   ·wp_walk using AutoSeq1.wpAny_loadPart' a,aam b;exact⟨_,rfl,h⟩
  ·wp_walk using AutoSeq1.wpAny_loadPart' a,aam b;calc⟨_,rfl,h⟩
end PySem
namespace L2
open PySem PySem.Spec PyProof.Rows
section
variable {a:Addr}{xs:List V}
section
variable {X:Cx}{pins:List (Addr×Obj)}{σ:St}{H:Hp}{s:Shared}
theorem Inv.CZ{t':Nat}{ch:List Addr}{h':Heap}(I:Inv X pins σ H s)(d:∀b∈ch,qa X pins H b)(k:∀b o,b∉ch->s.heap.get? b=some o->h'.get? b=some o):Inv X pins σ H {s with heap:=h',toks:=t'}:=by
 have f:∀b u,H b=some u->b∉ch:=λb u e z=>by rw[(d b z).1]at e;cases e
 refine I.step (g':=s.gens) (d':=s.drawn) (ch:=ch) (λb g=>?_) (λb o _ _ a e _=>k b o a e) (λb o _ _ a e _=>⟨o.slots,k b o a e⟩) (λ_ _ _ _ n=>n) (λb o a e=>⟨o,k b o a e⟩) (λ_ _ e=>e) (λ_ _ _ e=>e) (λb h e=>⟨#[],by rw[e];simp⟩) (λm h=>?_) (λb u e=>?_) I.bare
 ·obtain⟨n,i,p,j,l,m⟩:=d b g;exact⟨j,i,l,m⟩
 ·obtain⟨o,g,i,j,r⟩:=h;exact⟨o,g,i,k _ o (λz=>(d _ z).2.1 rfl) j,r⟩
 ·calc(I.aY b u e).aI (λc v a q=>k c v ?_ q) (λ_ q=>q) λ_ _ q=>q;rcases a with z | z
  ·rw[z];exact f b u e
  ·calc f c _ z
theorem Inv.C0{t':Nat}{ch:List Addr}{h':Heap}{T:Addr}{g:List Value}(I:Inv X pins σ H s)(h:∀b∈ch,qa X pins H b)(k:∀b o,b∉ch->s.heap.get? b=some o->h'.get? b=some o)
  (i:s.heap.objs.size<=T) (l:Vals xs g) (p:xs.length<=sizeLine) (q:IsTup h' T g.toArray):Inv X pins σ (upd H T (.tup xs)) {s with heap:=h',toks:=t'}:=by
 have j:∀b u,H b=some u->b∉ch:=λb u e z=>by rw[(h b z).1]at e;cases e
 have d:H T=none:=I.aY.fresh i;have m:∀b o,s.heap.get? b=some o->b≠T:=λb o e=>Y' (R' (M' e) i);refine I.step (g':=s.gens) (d':=s.drawn) (ch:=ch) (λb f=>?_) (λb o _ _ a e _=>k b o a e) (λb o _ _ a e _=>⟨o.slots,k b o a e⟩) (λb o _ e n=>by rw[av (m b o e)];calc n) (λb o a e=>⟨o,k b o a e⟩)
  (λb t e=>by rw[av (ao e d)];calc e) (λb o u e=>by rw[av (ao e d)];calc e) (λb i e=>⟨#[],by rw[av (ao e d),e];simp⟩) (λm i=>?_) (λb u e=>?_) I.bare
 ·obtain⟨w,m,x,n,r,v⟩:=h b f;exact⟨n,m,r,v⟩
 ·obtain⟨o,m,n,v,r⟩:=i;exact⟨o,m,n,k _ o (λz=>(h _ z).2.1 rfl) v,r⟩
 ·by_cases f:b=T
  ·subst f;rw[ab] at e
   cases e;exact⟨p,g,l,q⟩
  ·rw[av f] at e;refine(I.aY b u e).aI (λc v a q=>k c v ?_ q) (λc q=>by rw[av (ao q d)];calc q) λc t q=>by rw[av (ao q d)];exact q
   rcases a with z|z
   ·rw[z];exact j b u e
   ·calc j c _ z
def Sq(b:Bool)(K:W.Frag)(H:Hp)(a:Addr)(xs:List V):Prop:=if b=true then aM K H a xs else bG K H a xs
theorem Sq.l{K:W.Frag}(h:H a=some (.lst xs)):Sq true K H a xs:=aM.of h
theorem Sq.t{K:W.Frag}(h:H a=some (.tup xs)):Sq false K H a xs:=bG.of h
theorem Inv.sq(I:Inv X pins σ H s){b:Bool}{a:Addr}{xs:List V}(h:Sq b X.K H a xs):∃c:List Value,Vals xs c/\Bu b s.heap a c.toArray/\xs.length<=sizeLine:=by
 cases b
 ·exact I.tuple h
 ·obtain⟨c,r,p,z⟩:=I.list h;calc⟨c,r,p.isList,z⟩
theorem Inv.Bw(I:Inv X pins σ H s){b:Bool}{a:Addr}{xs c:List V}(h:Sq b X.K H a xs)(h':Sq b X.K H a c):xs=c:=by
 cases b
 ·exact I.vG h h'
 ·calc I.yJ h h'
theorem OL{u:HO}{b:Addr}(h:Rd H a u)(c:H b=none):a≠b:=λz=>by
 subst z;rcases h with h|⟨o,h⟩<;>(rw[c]at h;cases h)
theorem Inv.tO(I:Inv X pins σ H s){b:Bool}{a c:Addr}{xs:List V}(h:Sq b X.K H a xs)(f:qa X pins H c):a≠c:=by
 have d:∀o,X.K.lookup a=some o->a≠c:=λo e z=>by
  subst z;have i:=I.ok.mod.T6 a o e;rcases f.2.2.2.1 with y|y
  ·exact I.ok.AV a o i y
  ·exact absurd (R' (R' (M' i) I.ok.Gw) y) (aaj _)
 cases b
 ·rcases h with h | ⟨o,j,n,g,_⟩
  ·exact OL h f.1
  ·exact d o g
 ·rcases h with h | ⟨o,j,n,g,_⟩
  ·exact OL h f.1
  ·calc d o g
end
end
section
def Lv(b:Bool)(K:W.Frag)(a:Addr):It:=
 ⟨λi H=>∃xs x,Sq b K H a xs/\xs[i]?=some x,λi H y c=>∃T,H T=none/\y=.ref T/\∀xs,Sq b K H a xs->∃x,xs[i]?=some x/\c=upd H T (.tup [.int i,x]),λi H=>∃xs,Sq b K H a xs/\xs.length=i⟩
def Wc(b c:Bool)(K:W.Frag)(a d:Addr):It:=
  ⟨λi H=>∃xs e x y,Sq b K H a xs/\Sq c K H d e/\xs[i]?=some x/\e[i]?=some y,λi H v f=>∃T,H T=none/\v=.ref T/\∀xs e,Sq b K H a xs->Sq c K H d e->∃x y,xs[i]?=some x/\e[i]?=some y/\f=upd H T (.tup [x,y]),
   λi H=>∃xs e,Sq b K H a xs/\Sq c K H d e/\(i=xs.length\/(i < xs.length/\i=e.length))⟩
theorem y6{a b:V}:([a,b]:List V).length<=sizeLine:=by show 2<=sizeLine;decide
theorem xu{a:List Value}{i:Nat}{u:Value}(h:a[i]?=some u):i<a.toArray.size:=by
 have:=(List.getElem?_eq_some_iff.mp h).1;simpa using this
theorem E3{P:Program}{w:World}{K:W.Frag}{es:List Expr}{k:Nat}{u:Pos}(b:Bool)(e j a:Addr)(n:e≠j):
  Turn P w K (.Tuple es k u) (Lv b K a) [e,j] e (λi h=>(∃d,IsEnum h e j i d)/\qg b h j a i) where
 mem:=by simp
 obj:=λi h l c C=>by
  obtain⟨⟨d,g⟩,m⟩:=l;simp only[List.mem_cons,List.not_mem_nil,or_false]at C;rcases C with rfl|rfl
  ·exact⟨_,g,λv z=>by
    have z':Data.fields _=Data.cell v:=z
    cases z'⟩
  ·exact m.obj
 keep:=λi h h' l k=>by
  obtain⟨⟨d,g⟩,m⟩:=l;exact⟨⟨d,k e nofun _ g⟩,m.at λo q=>k j nofun o q⟩
 item:=by
  intro X M N O C i F s σ H E I r l R;subst M N O;obtain⟨⟨d,g⟩,m⟩:=l;obtain⟨xs,x,t,S⟩:=R;obtain⟨G,T,p,hz⟩:=I.sq t;obtain⟨u,v,ru⟩:=T.get S;have k:a≠e:=I.tO t (r e nofun);have B:a≠j:=I.tO t (r j nofun);have D:=Draws.sq (prog:=X.prog) (w:=X.w) (A:=X.A.in1) (show X.A.in1.handled=none from I.ok.hd C) b j a B G.toArray;calc wpAny_pyNext_enum_itemD D g ⟨m,p⟩ (xu v) n (by simp[n,Ne.symm k]) λy P Z K ho s1 hT sz U=>?_;have ey:y=u:=by
   have:G.toArray[i]?=some u:=by simpa using v
   exact Option.some.inj (K.symm.trans this)
  subst ey;calc⟨_,rfl,wpAny_letOwnedTupleGo_enum ho λv k u=>?_⟩;have K:∀c o,c ∉ [e,j]->s.heap.get? c=some o->v.get? c=some o:=λc o J q=>(u.2 c λz=>J (by simp[z])).trans (U c o (λz=>J (by simp[z])) (λz=>J (by simp[z])) q);have L:s.heap.objs.size≠e:=aal (M' g);have e:IsTup v s.heap.objs.size ([.int i Z,y]:List Value).toArray:=⟨_,(u.2 _ L).trans hT,rfl,_,rfl⟩
  have v:H s.heap.objs.size=none:=I.aY.fresh (E' _);refine⟨.ref s.heap.objs.size,upd H s.heap.objs.size (.tup [.int i,x]),I.C0 r K (E' _) (.cons ⟨Z,rfl⟩ (.cons ru .nil)) y6 e,rfl,⟨_,v,rfl,λys P=>⟨x,by rw[I.Bw P t];calc S,rfl⟩⟩,⟨⟨y,?_⟩,?_⟩,λc Y=>?_⟩
  ·simpa using k
  ·exact s1.1.at λo q=>(u.2 j (Ne.symm n)).trans q
  ·have lH:c≠s.heap.objs.size:=by
    simp only[List.mem_cons,List.not_mem_nil,or_false]at Y;rcases Y with rfl|rfl
    ·exact Ne.symm L
    ·obtain⟨o,e,_⟩:=m.obj;exact Y' (M' e)
   rw[av lH];exact(r c Y).1
 done:=by
  intro X M N O C i F s σ H E I r l R;subst M N O;obtain⟨⟨d,g⟩,m⟩:=l;obtain⟨xs,t,S⟩:=R;obtain⟨G,T,p,hz⟩:=I.sq t;have B:a≠j:=I.tO t (r j nofun);have D:=Draws.sq (prog:=X.prog) (w:=X.w) (A:=X.A.in1) (show X.A.in1.handled=none from I.ok.hd C) b j a B G.toArray;have e:G.toArray.size=i:=by have:=T.length;simp;lia
  refine wpAny_pyNext_enum_endD D g (by rw[e];calc⟨m,p⟩) λh' U=>⟨rfl,I.CZ (t':=s.toks) r λc o J q=>U c o (λz=>J (by simp[z])) q⟩
 self:=λ_ _ _ _ _ l h=>by
  obtain⟨⟨d,g⟩,m⟩:=l;calc wpAny_pyIter_enum g h
theorem E4{prog:Program}{w:World}{A:Around}{E:Value->Shared->Prop}{s:Shared}{b:Bool}{l:Addr}{d:Array Value}{Q:Value->Shared->Prop}(e:Bu b s.heap l d)
  (q:∀g,IsEnum g (s.heap.objs.size+1) s.heap.objs.size 0 .none->qg b g s.heap.objs.size l 0->g.objs.size=s.heap.objs.size+2->(∀c o,s.heap.get? c=some o->g.get? c=some o)->Q (.ref (s.heap.objs.size+1)) {s with heap:=g}):
  wpAny (model prog w) A (call (.type "enumerate") [.ref l]) Q E s:=by
 cases b
 ·refine callType_new F.called_enumerate ∅ (F.typeCall_enumerate_1 _) (F.newCall_enumerate_1 _) (λa=>F.args_object_init_2 a _) F.entry_enumerate_new (tN l d) ⟨e,?_⟩;have b:(s.heap.push (Lu false l)).objs.size=s.heap.objs.size+1:=Heap.size_push ..;show _/\_;rw[b];have a:=P' (s.heap.push (Lu false l)) (o:={cls:=.type "enumerate",data:=.fields #[.none,.bool false,.ref s.heap.objs.size,rawInt 0,.none,.none]}) rfl;rw[b]at a;refine⟨⟨_,a,rfl⟩,q _ a (Bv (F' _ (P' _ (tM ..)))) (by rw[Heap.size_push,b]) λc o x=>F' _ (F' _ x)⟩
 ·calc call_enumerate_list e q
theorem m5{z a b c d:Addr}:z ∈ [z,a,b,c,d]/\a ∈ [z,a,b,c,d]/\b ∈ [z,a,b,c,d]/\c ∈ [z,a,b,c,d]/\d ∈ [z,a,b,c,d]:=⟨.head _,.tail _ (.head _),.tail _ (.tail _ (.head _)),.tail _ (.tail _ (.tail _ (.head _))),.tail _ (.tail _ (.tail _ (.tail _ (.head _))))⟩
theorem in5{z a b c d e:Addr}{P:Addr->Prop}(he:e ∈ [z,a,b,c,d])(f:P z)(g:P a)(h:P b)(i:P c)(j:P d):P e:=by
 simp only[List.mem_cons,List.not_mem_nil,or_false]at he;rcases he with rfl|rfl|rfl|rfl|rfl<;>assumption
theorem no5{z a b c d e:Addr}(he:e ∉ [z,a,b,c,d]):e≠z/\e≠a/\e≠b/\e≠c/\e≠d:=by
 simpa only[List.mem_cons,List.not_mem_nil,or_false,not_or] using he
theorem nd5{z a b c d:Addr}(N:[z,a,b,c,d].Nodup):(z≠a/\z≠b/\z≠c/\z≠d)/\(a≠b/\a≠c/\a≠d)/\(b≠c/\b≠d)/\c≠d:=by
 simpa only[List.nodup_cons,List.mem_cons,List.not_mem_nil,or_false,not_or,List.nodup_nil,not_false_eq_true,and_true] using N
theorem Ge{x i a:Addr}(b:x≠i)(c:x≠a):x ∉ [i,a]:=by simp[b,c]
theorem HV{l:List Value}{i:Nat}{u x:Value}(h:l[i]?=some u)(g:l.toArray[i]?=some x):x=u:=by
 have:l.toArray[i]?=some u:=by simpa using h
 calc Option.some.inj (g.symm.trans this)
theorem HW{P:Program}{w:World}{K:W.Frag}{es:List Expr}{kt:Nat}{tp:Pos}(b c:Bool)(z r m g j a d:Addr)(N:[z,r,m,g,j].Nodup):
  Turn P w K (.Tuple es kt tp) (Wc b c K a d) [z,r,m,g,j] z (λi h=>IsZip h z r m .none/\IsPair h r (.ref g) (.ref j)/\(∃u v,IsPair h m u v)/\qg b h g a i/\qg c h j d i) where
 mem:=m5.1
 obj:=λi h t e l=>by
  obtain⟨G,B,⟨u,v,J⟩,L,M⟩:=t;refine in5 (P:=λe=>∃o,h.get? e=some o/\∀v,o.data≠.cell v) l ⟨_,G,λv z=>?_⟩ ⟨_,B,λv z=>?_⟩ ⟨_,J,λv z=>?_⟩ L.obj M.obj
  ·have k:Data.fields _=Data.cell v:=z
   cases k
  ·have k:Data.seq _ _=Data.cell v:=z
   cases k
  ·have k:Data.seq _ _=Data.cell v:=z
   cases k
 keep:=λi h h' t k=>by
  obtain⟨G,B,⟨u,v,J⟩,L,M⟩:=t;exact⟨k z m5.1 _ G,k r m5.2.1 _ B,⟨u,v,k m m5.2.2.1 _ J⟩,L.at λo q=>k g m5.2.2.2.1 o q,M.at λo q=>k j m5.2.2.2.2 o q⟩
 item:=by
  intro X hP hw hK hc i pins s σ H E I O t hg;subst hP hw hK;obtain⟨G,B,⟨u0,v0,J⟩,L,M⟩:=t;obtain⟨xs,ys,x,y,T,hr,hx,hy⟩:=hg;obtain⟨aQ,rv,p,hz⟩:=I.sq T;obtain⟨R,rt,pt,hzt⟩:=I.sq hr;obtain⟨u,k,ru⟩:=rv.get hx;obtain⟨v,n,rv'⟩:=rt.get hy;have C:∀e ∈ [z,r,m,g,j],e≠a:=λe l=>Ne.symm (I.tO T (O e l));have F:∀e ∈ [z,r,m,g,j],e≠d:=λe l=>Ne.symm (I.tO hr (O e l));obtain⟨⟨n1,n2,U,Y⟩,⟨n5,n6,n7⟩,⟨n8,n9⟩,S⟩:=nd5 N;have hh:X.A.in1.handled=none:=I.ok.hd hc;have D1:=Draws.sq (prog:=X.prog) (w:=X.w) (A:=X.A.in1) hh b g a (Ne.symm (C g m5.2.2.2.1)) aQ.toArray;have D2:=Draws.sq (prog:=X.prog) (w:=X.w) (A:=X.A.in1) hh c j d (Ne.symm (F j m5.2.2.2.2)) R.toArray;have Z:ZA z r m g j [g,a] [j,d]:=⟨Ne.symm n1,Ne.symm n2,Ne.symm U,Ne.symm Y,n5,n6,n7,n8,n9,S,Ge U (C z m5.1),Ge n8 (C m m5.2.2.1),Ge (Ne.symm S) (C j m5.2.2.2.2),Ge Y (F z m5.1),Ge n9 (F m m5.2.2.1),Ge S (F g m5.2.2.2.1)⟩
  calc va Z D1 D2 G B J ⟨L,p⟩ ⟨M,pt⟩ (xu k) (xu n) λx' y' h1 tk K py uQ abY s1 s2 hT sz kk=>?_;have ex:x'=u:=HV k K;have ey:y'=v:=HV n py;subst ex ey;calc⟨_,rfl,wpAny_letOwnedTupleGo_zip uQ λu v k=>?_⟩;have K:∀e o,e ∉ [z,r,m,g,j]->s.heap.get? e=some o->u.get? e=some o:=λe o l q=>
   have n:=no5 l;(k.2 e n.1).trans (kk e o n.1 n.2.2.1 n.2.2.2.1 n.2.2.2.2 q)
  have n:s.heap.objs.size≠z:=aal (M' G);have MN:IsTup u s.heap.objs.size ([x',y']:List Value).toArray:=⟨_,(k.2 _ n).trans hT,rfl,_,rfl⟩
  have u:H s.heap.objs.size=none:=I.aY.fresh (E' _);refine⟨.ref s.heap.objs.size,upd H s.heap.objs.size (.tup [x,y]),I.C0 O K (E' _) (.cons ru (.cons rv' .nil)) y6 MN,rfl,
   ⟨_,u,rfl,λK OM MO VR=>⟨x,y,by rw[I.Bw MO T];calc hx,by rw[I.Bw VR hr];calc hy,rfl⟩⟩,⟨v,?_,⟨_,_,(k.2 m (Ne.symm n2)).trans abY⟩,s1.1.at λo q=>(k.2 g (Ne.symm U)).trans q,s2.1.at λo q=>(k.2 j (Ne.symm Y)).trans q⟩,λe l=>?_⟩
  ·exact(k.2 r (Ne.symm n1)).trans (kk r _ (Ne.symm n1) n5 n6 n7 B)
  ·have u:e≠s.heap.objs.size:=in5 (P:=λe=>e≠s.heap.objs.size) l (Ne.symm n) (Y' (M' B)) (Y' (M' J)) (let ⟨_,k,_⟩:=L.obj;Y' (M' k)) (let ⟨_,k,_⟩:=M.obj;Y' (M' k));rw[av u];exact(O e l).1
 done:=by
  intro X hP hw hK hc i pins s σ H E I O t hg;subst hP hw hK;obtain⟨G,B,⟨u0,v0,J⟩,L,M⟩:=t;obtain⟨xs,ys,T,hr,hx⟩:=hg;obtain⟨aQ,rv,p,hz⟩:=I.sq T;obtain⟨R,rt,pt,hzt⟩:=I.sq hr;have C:∀e ∈ [z,r,m,g,j],e≠a:=λe l=>Ne.symm (I.tO T (O e l));have F:∀e ∈ [z,r,m,g,j],e≠d:=λe l=>Ne.symm (I.tO hr (O e l));obtain⟨⟨n1,n2,U,Y⟩,⟨n5,n6,n7⟩,⟨n8,n9⟩,S⟩:=nd5 N;have hh:X.A.in1.handled=none:=I.ok.hd hc;have D1:=Draws.sq (prog:=X.prog) (w:=X.w) (A:=X.A.in1) hh b g a (Ne.symm (C g m5.2.2.2.1)) aQ.toArray;have D2:=Draws.sq (prog:=X.prog) (w:=X.w) (A:=X.A.in1) hh c j d (Ne.symm (F j m5.2.2.2.2)) R.toArray;have Z:ZA z r m g j [g,a] [j,d]:=⟨Ne.symm n1,Ne.symm n2,Ne.symm U,Ne.symm Y,n5,n6,n7,n8,n9,S,Ge U (C z m5.1),Ge n8 (C m m5.2.2.1),Ge (Ne.symm S) (C j m5.2.2.2.2),Ge Y (F z m5.1),Ge n9 (F m m5.2.2.1),Ge S (F g m5.2.2.2.1)⟩
  have a:=rv.length;have a:=rt.length;exact xt Z D1 D2 G B J ⟨L,p⟩ ⟨M,pt⟩ (by simp only[List.size_toArray];lia) λh' tk kk=>⟨rfl,I.CZ O λe o l q=>kk e o (λw=>l (by simp[w])) (λw=>l (by simp[w])) (λw=>l (by simp[w])) (λw=>l (by simp[w])) q⟩
 self:=λ_ _ _ _ _ t h=>wpAny_pyIter_zip t.1 h
section
variable {X:Cx}
def HX(K:W.Frag)(a:TA):TI:=λσ H R=>a σ H λvs c=>match vs with
 | [.ref a]=>∃b xs,Sq b K c a xs/\R (Lv b K a) c
 |_=>False
def Rm(K:W.Frag)(a:TA):TI:=λσ H R=>a σ H λvs e=>match vs with
 | [.ref a,.ref d]=>∃b c xs f,Sq b K e a xs/\Sq c K e d f/\R (Wc b c K a d) e
 |_=>False
theorem ik{es:List Expr}{l:Nat}{m:Pos}{a:Expr}{h:TA}{p d:Pos}(n:Gl X "enumerate")(o:X.mg "enumerate"=none)(t:PA X [a] h)(u:starEach [a] X.env=[(false,eval a X.env)]:=by rfl):
  PI X (.Tuple es l m) (.Call (.Name "enumerate" p) [a] [] d) (HX X.K h):=by
 calc⟨?_⟩;intro c s σ H R I h;calc Call_ (nO I n o boot_enumerate (PyProof.Rows.callWith_type1 (dy (t d c s σ H _ I h) λm e l=>?_) (by rw[u];rfl) rfl));obtain⟨h,i,f,g,d⟩:=l
 match h,g,d with
 | [.ref a],g,d=>
  obtain⟨b,h,v,q⟩:=d
  cases g with
  |cons r w=>
   cases w
   cases r;obtain⟨d,g,p,h⟩:=f.sq v;calc E4 p λg d h m l=>wpAny_pyIter_enum d ?_;have m:Inv X c σ i {e with heap:=g}:=f.kept (t':=e.toks) l;calc⟨_,[e.heap.objs.size+1,e.heap.objs.size],_,_,i,rfl,m,E3 b _ _ a (Nat.succ_ne_self _),⟨⟨_,d⟩,h⟩,λc j=>?_,q⟩;have k:e.heap.objs.size<=c:=by
    simp only[List.mem_cons,List.not_mem_nil,or_false]at j;rcases j with rfl|rfl
    ·exact Nat.le_succ _
    ·exact E' _
   calc f.GI k (f.aY.fresh k)
theorem Bx{es:List Expr}{s:Nat}{t:Pos}{a b:Expr}{h:TA}{p g:Pos}(u:Gl X "zip")(v:X.mg "zip"=none)(w:PA X [a,b] h)(x:starEach [a,b] X.env=[(false,eval a X.env),(false,eval b X.env)]:=by rfl)(l:starEach [b] X.env=[(false,eval b X.env)]:=by rfl):
  PI X (.Tuple es s t) (.Call (.Name "zip" p) [a,b] [] g) (Rm X.K h):=by
 calc⟨?_⟩;intro e s σ H R I h;calc Call_ (nO I u v boot_zip (PyProof.Rows.callWith_type1 (dy (w g e s σ H _ I h) λt f p=>?_) (by rw[x,l]) (by rw[l];rfl)));obtain⟨h,m,i,j,g⟩:=p
 match h,j,g with
 | [.ref a,.ref d],j,g=>
  obtain⟨b,c,h,l,y,z,q⟩:=g
  cases j with
  |cons r k=>
   cases k with
   |cons A k=>
    cases k
    cases r
    cases A;obtain⟨g,h,j,k⟩:=i.sq y;obtain⟨g,l,k,h⟩:=i.sq z;calc HS j k λg h l p r s u t=>wpAny_pyIter_zip h ?_;have j:Inv X e σ m {f with heap:=g}:=i.kept (t':=f.toks) t;refine⟨_,[f.heap.objs.size+4,f.heap.objs.size+2,f.heap.objs.size+3,f.heap.objs.size,f.heap.objs.size+1],_,_,m,rfl,j,HW b c _ _ _ _ _ a d ?_,⟨h,l,⟨_,_,p⟩,r,s⟩,λe n=>?_,q⟩
    ·simp
    ·have o:f.heap.objs.size<=e:=by
      simp only[List.mem_cons,List.not_mem_nil,or_false]at n;rcases n with rfl|rfl|rfl|rfl|rfl
      ·exact aau _ _
      ·exact aau _ _
      ·exact aau _ _
      ·exact E' _
      ·exact aau _ _
     calc i.GI o (i.aY.fresh o)
end
end
end L2
namespace HT
open PySem PyProof.Rows
section
variable {prog:Program}{w:World}{A:Around}{E:Value->Shared->Prop}{s:Shared}
theorem pq{t d:Addr}{a:Array Value}{e f:Value}{lo c:Option Int}{Q:Value->Shared->Prop}(b:IsTup s.heap t a)(g:s.heap.IsSliceOf d e f .none)(pl:IsPart e lo)(i:IsPart f c)
  (f:eE a.size 0 lo=0/\eE a.size a.size c=a.size) (h:Q (.ref t) s):wpAny (model prog w) A (getItem (.ref t) (.ref d)) Q E s:=by
 obtain⟨j,k,l,e⟩:=id g;have e:s.TypeIs (.ref d) "slice":=⟨j,k,l⟩
 unfold getItem
 try with_reducible refine aao ?_
 first|calc A' (K' ?_)|skip
 refine A' (wpAny_sequenceKey b.typeIs ∅ (A' (aaq (name:=Str.ofString "__getitem__") b.typeIs aaw
  (aat aaw b.typeIs entry_tuple_getitem ?_ (args_tuple_getitem _ _)))))
 calc A' (m:=Builtin.Tuple.tupleItemsOf (.ref t)) (tupleItemsOf_ b (A' (wpAny_typeOf e ?_)));rw[if_pos ∅];calc A' (j5 g pl i ?_);have d:(((eE a.size 0 lo:Nat):Int)==0&&(1:Int)==1&&(eE a.size a.size c-eE a.size 0 lo)==a.size)=true:=by
  rw[f.1,f.2];simp
 show wpAny _ _ (if (((eE a.size 0 lo:Nat):Int)==0&&(1:Int)==1&&(eE a.size a.size c-eE a.size 0 lo)==a.size)=true then _ else _) _ _ s;rw[if_pos d];calc A' (m:=Builtin.Tuple.tupleIsExact (.ref t)) ?_;unfold Builtin.Tuple.tupleIsExact;calc A' (wpAny_typeOf b.typeIs (K' ?_));rw[if_pos ∅];calc A' (wpAny_rule (K' ⟨_,rfl,K' h⟩))
end
end HT
namespace L2
open PySem PySem.Spec PyProof.Rows
section
variable {H:Hp}{Q:VK}{K:W.Frag}
section
variable {X:Cx}
def uSl:V->Option Int->Option Int->Hp->VK->Prop:=λx lo c H Q=>match x with
 | .ref a=>(∃xs,H a=some (.lst xs)/\∀p,H p=none->Q (.ref p) (upd H p (.lst (dG xs lo c))))\/(∃xs,H a=some (.tup xs)/\∀p b,au H b->b p=some (.tup (dG xs lo c))->Q (.ref p) b)
 |_=>False
theorem ON{a:Addr}{lo b:Option Int}:uSl (.ref a) lo b H Q=((∃xs,H a=some (.lst xs)/\∀p,H p=none->Q (.ref p) (upd H p (.lst (dG xs lo b))))\/(∃xs,H a=some (.tup xs)/\∀p c,au H c->c p=some (.tup (dG xs lo b))->Q (.ref p) c)):=rfl
theorem Wd:VH X uSl:=by
 intro c s σ H x v t u i j w Q I l m n o h
 cases x<;>first
  |calc(show False from h).elim
  |skip
 rename_i a;rcases h with⟨b,d,q⟩|⟨b,d,q⟩
 ·exact CL c s σ H _ v t u i j w Q I l m n o ⟨a,b,rfl,aM.of d,q⟩
 ·by_cases k:HT.eE b.length 0 i=0/\HT.eE b.length b.length j=b.length
  ·cases l;obtain⟨z,r,y,C⟩:=I.tuple (bG.of d);have g:z.toArray.size=b.length:=by rw[aaF];exact r.length.symm
   refine⟨"tuple",_,PyProof.Rows.slot_tuple_getitem.lookup,y.typeIs,HT.pq y m n o (by rw[g];exact k) ⟨.ref a,H,I,rfl,q a H (au.refl H) ?_⟩⟩;have e:dG b i j=b:=by
    unfold dG;rw[k.1,k.2];simp
   rw[e];exact d
  ·calc QX c s σ H _ v t u i j w Q I l m n o ⟨a,b,rfl,bG.of d,k,λp B=>q p _ (au.new _ B) ab⟩
theorem nU{e:Expr}{b:TE}{lo c:Option Expr}{d f:TO}{a g:Pos}(he:PE X e b)(h:PO X lo d)(i:PO X c f):PE X (.Subscript e (.Slice lo c none g) a) (T9 uSl b d f):=tm Wd he h i
def uAd:R2:=λx y H Q=>match x,y with
 | .int i,.int j=>Q (.int (i+j)) H
 | .str i,.str j=>i.length+j.length<=sizeLine/\Q (.str (i++j)) H
 | .ref a,.ref b=>(∃xs c,H a=some (.lst xs)/\H b=some (.lst c)/\xs.length + c.length<=sizeLine/\∀p,H p=none->Q (.ref p) (upd H p (.lst (xs++c))))\/
   (∃xs c,H a=some (.tup xs)/\H b=some (.tup c)/\xs.length+c.length<=sizeLine/\∀p d,au H d->d p=some (.tup (xs++c))->Q (.ref p) d)
 |_,_=>False
theorem HY{i j:Int}:uAd (.int i) (.int j) H Q=Q (.int (i+j)) H:=rfl
theorem HZ{i j:Str}:uAd (.str i) (.str j) H Q=(i.length+j.length<=sizeLine/\Q (.str (i++j)) H):=rfl
theorem Ia {a b:Addr}:uAd (.ref a) (.ref b) H Q=((∃xs c,H a=some (.lst xs)/\H b=some (.lst c)/\xs.length + c.length<=sizeLine/\∀p,H p=none->Q (.ref p) (upd H p (.lst (xs++c))))\/
      (∃xs c,H a=some (.tup xs)/\H b=some (.tup c)/\xs.length + c.length<=sizeLine/\∀p d,au H d->d p=some (.tup (xs++c))->Q (.ref p) d)):=rfl
theorem cM:gK X (binaryOp .Add) uAd:=by
 intro c s σ H x y v u Q I d e h
 cases x<;>cases y<;>first
  |calc(show False from h).elim
  |calc QJ c s σ H _ _ v u Q I d e ⟨_,_,rfl,rfl,h⟩
  |calc Ba c s σ H _ _ v u Q I d e ⟨_,_,rfl,rfl,h.1,h.2⟩
  |skip
 rename_i a b;rcases h with⟨k,l,f,g,m,i⟩|⟨k,l,f,g,m,i⟩
 ·exact Q4 c s σ H _ _ v u Q I d e ⟨_,_,k,l,rfl,rfl,f,g,m,i⟩
 ·by_cases q:k=[]
  ·subst q
   cases d
   cases e;obtain⟨S,D,E,_⟩:=I.tuple (bG.of f);obtain⟨T,U,G,_⟩:=I.tuple (bG.of g)
   cases D;obtain⟨⟨J,K,r,L⟩,t,w,n,A⟩:=id E;obtain⟨⟨M,N,o,O⟩,B,C,P,j⟩:=id G;simp only at w A C j;subst w A C j;exact concat_meets ⟨_,t,rfl⟩ ⟨_,B,rfl⟩ noFill_tuple_add seq_tuple_add PySem.F.slot_tuple_add PySem.F.entry_tuple_add (PySem.F.args_tuple_add_2 _ _)
    (tuple_addW0 a b _ _ n P K N L O nofun) ⟨t,B,⟨.ref b,H,I,rfl,i b H (au.refl H) (by simpa using g)⟩⟩
  ·calc Ml c s σ H _ _ v u Q I d e ⟨_,_,k,l,rfl,rfl,bG.of f,bG.of g,q,m,λz=>?_,λ_ p R=>i p _ (au.new _ R) ab⟩;subst z;calc i a H (au.refl H) (by simpa using f)
def Rn(K:W.Frag):List V->Hp->VK->Prop:=λxs H Q=>match xs with
 | [.ref p]=>∃bs:List Bool,aM K H p (bs.map V.bl)/\Q (.bl (bs.all id)) H
 |_=>False
theorem Ib{p:Addr}:Rn K [.ref p] H Q=∃bs:List Bool,aM K H p (bs.map V.bl)/\Q (.bl (bs.all id)) H:=rfl
theorem C8:∀{bs:List Bool}{us:List Value},Vals (bs.map V.bl) us->us=bs.map Value.bool
 | [],_,.nil=>rfl
 |b::bs,_,.cons r t=>by
  cases r;rw[C8 t];rfl
theorem all_range:∀(bs:List Bool),((List.range bs.length).all λi=>bs.getD i false)=bs.all id:=by
 intro bs;induction bs with
 |nil=>rfl
 |cons b r a=>
  rw[List.length_cons,List.range_succ_eq_map,List.all_cons,List.all_map,List.all_cons];have:((λi=>(b::r).getD i false) ∘ Nat.succ)=λi=>r.getD i false:=by funext i;simp
  rw[this,a];rfl
theorem Ic{prog:Program}{w:World}{A:Around}{bs:List Bool}:TruthOf prog w A (λi v=>(bs.map Value.bool).toArray[i]?=some v) (λi=>bs.getD i false):=by
 intro i v s Q E e c;have a:(bs.map Value.bool)[i]?=some v:=by simpa using e
 rw[aaB]at a
 cases d:bs[i]? with
 |none=>rw[d]at a;cases a
 |some b=>
  rw[d]at a
  cases a;have:bs.getD i false=b:=by rw[aaE,d];rfl
  replace c:Q (bs.getD i false) s:=c
  rw[this]at c;calc aar c
theorem eB(d:X.calm=true):eQ X (.builtin "all") (Rn X.K):=by
 intro c s σ H f k Q I r h
 match f,r,h with
 | [.ref p],r,h=>
  obtain⟨a,g,q⟩:=h;obtain⟨u,rfl,i⟩:=Vals.one r
  cases i;obtain⟨c,j,b,f⟩:=I.list g;have e:=C8 j;subst e;refine call_all_walk (aaz b.isList ⟨s.heap.objs.size,_,_,_,_,_,λi=>a.getD i false,rfl,Walks.list (show X.A.in1.handled=none from I.ok.hd d) _ p ?_ (a.map Value.bool).toArray,⟨⟨_,P' _ rfl,rfl,rfl⟩,b.isList.push _⟩,Ic,λf g c=>?_⟩)
  ·obtain⟨o,e,_⟩:=b.isList;exact Y' (M' e)
  ·have:(a.map Value.bool).toArray.size=a.length:=by simp
   rw[this,all_range];calc⟨.bl _,H,I.kept λb o e=>c b o (by simp[Nat.ne_of_lt (Heap.lt_size e)]) (F' _ e),rfl,q⟩
def y7:List V->Option (List Value)
 | []=>some []
 | .ty n::r=>(y7 r).map (.type n::·)
 |_=>none
theorem y8:∀{xs:List V}{us a:List Value},Vals xs us->y7 xs=some a->us=a
  | [],_,_,.nil,h=>by cases h;rfl
  |x::xs,_,a,.cons r t,h=>by
    cases x<;>first
      |cases h
      | (rename_i n
         unfold y7 at h;obtain⟨b,c,d⟩:=Option.map_eq_some_iff.mp h
         cases r;rw[<-d,y8 t c])
def MP(K:W.Frag):List V->Hp->VK->Prop:=λxs H Q=>match xs with
 | [x,.ty n]=>∃t b,gT K H x t/\W.kitOne K t (.type n)=some b/\Q (.bl b) H
 | [x,.ref p]=>∃t b a c,gT K H x t/\H p=some (.tup a)/\y7 a=some c/\W.kitAny K t c=some b/\Q (.bl b) H
 |_=>False
theorem Ie{x:V}{n:String}:MP K [x,.ty n] H Q=∃t b,gT K H x t/\W.kitOne K t (.type n)=some b/\Q (.bl b) H:=rfl
theorem Ig{x:V}{p:Addr}:MP K [x,.ref p] H Q=∃t b a c,gT K H x t/\H p=some (.tup a)/\y7 a=some c/\W.kitAny K t c=some b/\Q (.bl b) H:=rfl
theorem By{x:V}{u t:Value}{pins:List (Addr×Obj)}{σ:St}{H:Hp}{s:Shared}{A:Around}{E:Value->Shared->Prop}{Q:Value->Shared->Prop}{b:Bool}{m:Addr}{r:List Value}(I:Inv X pins σ H s)(c:RelV x u)(C:gT X.K H x t)
  (D:IsTup s.heap m r.toArray) (e:W.kitAny X.K t r=some b) (h:∀x,Q (.bool b) {s with toks:=x}):wpAny (model X.prog X.w) A (call (.builtin "isinstance") [u,.ref m]) Q E s:=by
 obtain⟨⟨m,r,b,x⟩,d,v,n,hd⟩:=id D;simp only at v hd;subst v hd
 cases C with
 |bM=>cases(show u=Value.none from c);calc W.kia_tup W.kitx_none I.k7 aaf d e (λz=>nomatch z) h
 |bl y=>cases(show u=Value.bool y from c);calc W.kia_tup W.kitx_bool I.k7 aaf d e (λz=>nomatch z) h
 |int i=>obtain⟨t,q⟩:=(show ∃t,u=Value.int i t from c);cases q;calc W.kia_tup W.kitx_int I.k7 aaf d e (λz=>nomatch z) h
 |str y=>obtain⟨t,q⟩:=(show ∃t,u=Value.str y t from c);cases q;calc W.kia_tup W.kitx_str I.k7 aaf d e (λz=>nomatch z) h
 |Ol y=>obtain⟨t,q⟩:=(show ∃t,u=Value.float y t from c);cases q;calc W.kia_tup W.kitx_float I.k7 aaf d e (λz=>nomatch z) h
 | @lst a j f=>
  cases(show u=Value.ref a from c);obtain⟨_,_,n,_,g⟩:=(show cC X.prog X.w H s.heap a (.lst j) from I.aY a _ f)
  calc W.kia_tup W.kitx_list I.k7 ⟨_,g,rfl⟩ d e (λz=>nomatch z) h
 | @AG a F j f=>
  cases(show u=Value.ref a from c);obtain⟨_,_,_,n,_,g⟩:=(show cC X.prog X.w H s.heap a (.AG F (.lst j)) from I.aY a _ f)
  calc W.kia_tup W.kitx_list I.k7 ⟨_,g,rfl⟩ d e (λz=>nomatch z) h
 | @tup a j f=>
  cases(show u=Value.ref a from c);obtain⟨_,_,_,p⟩:=(show cC X.prog X.w H s.heap a (.tup j) from I.aY a _ f)
  obtain⟨o,g,k,_⟩:=p;calc W.kia_tup W.kitx_tuple I.k7 ⟨o,g,k⟩ d e (λz=>nomatch z) h
 | @dK a l f=>
  cases(show u=Value.ref a from c);obtain⟨_,_,b,_,p⟩:=(show cC X.prog X.w H s.heap a (.dK l) from I.aY a _ f)
  obtain⟨o,G,J,g,k,_⟩:=p;calc W.kia_tup W.kitx_dict I.k7 ⟨o,g,k.1⟩ d e (λz=>nomatch z) h
 | @dT a l f=>
  cases(show u=Value.ref a from c);obtain⟨_,_,j,_,o,G,J,g,k,_⟩:=(show cC X.prog X.w H s.heap a (.dT l) from I.aY a _ f)
  calc W.kia_tup W.kitx_dict I.k7 ⟨o,g,k.1⟩ d e (λz=>nomatch z) h
 | @ins a C b g f B L M N P=>
  cases(show u=Value.ref a from c);obtain⟨b,O,_⟩:=oZ I.aY f;obtain⟨a,J,_⟩:=O.look;calc W.kia_tup (W.kitx_own (B.get _) B.hd L M N P) I.k7 J d e (λz=>nomatch z) h
theorem cj:eQ X (.builtin "isinstance") (MP X.K):=by
 intro f s σ H g n Q I r h
 match g,r,h with
 | [x,.ty n],r,h=>
  obtain⟨t,b,ty,e,q⟩:=h;obtain⟨u,i,rfl,a,c⟩:=vals2 r
  cases c;calc vJ I a ty e λj=>⟨.bl b,H,I.tok _,rfl,q⟩
 | [x,.ref p],r,h=>
  obtain⟨t,b,f,g,ty,k,d,e,q⟩:=h;obtain⟨u,i,rfl,a,c⟩:=vals2 r
  cases c;obtain⟨f,l,m,g⟩:=I.tuple (bG.of k);have o:=y8 l d;subst o;calc By I a ty m e λj=>⟨.bl b,H,I.tok _,rfl,q⟩
end
end
section
variable {a:Addr}{D:List (Str×V)}
section
variable {X:Cx}
def We:V->List V->Hp->VK->Prop:=λx vs H Q=>match x,vs with
 | .ref l,[y]=>∃xs,H l=some (.lst xs)/\xs.length<sizeLine/\Q .bM (upd H l (.lst (xs++[y])))
 |_,_=>False
theorem Ih{l:Addr}{y:V}{H:Hp}{Q:VK}:We (.ref l) [y] H Q=∃xs,H l=some (.lst xs)/\xs.length<sizeLine/\Q .bM (upd H l (.lst (xs++[y]))):=rfl
theorem bS:VM X "list.append" We:=by
 intro a s σ H x c v d Q I e b h
 match x,c,b,h with
 | .ref l,[y],b,⟨c,f,g,h⟩=>calc vS a s σ H _ _ v d Q I e b ⟨l,c,y,rfl,rfl,f,g,h⟩
def Wf:V->List V->Hp->VK->Prop:=λx vs H Q=>match x,vs with
 | .ref l,[.ref b]=>∃xs a,H l=some (.lst xs)/\H b=some (.lst a)/\xs.length+a.length<=sizeLine/\Q .bM (upd H l (.lst (xs++a)))
 |_,_=>False
theorem Ii{l b:Addr}{H:Hp}{Q:VK}:Wf (.ref l) [.ref b] H Q=∃xs a,H l=some (.lst xs)/\H b=some (.lst a)/\xs.length+a.length<=sizeLine/\Q .bM (upd H l (.lst (xs++a))):=rfl
theorem MQ:VM X "list.extend" Wf:=by
 intro a s σ H x b v d Q I e c h
 match x,b,c,h with
 | .ref l,[.ref b],c,⟨f,g,h,i,j,k⟩=>calc EO a s σ H _ _ v d Q I e c ⟨l,b,f,g,rfl,rfl,h,i,j,k⟩
def Ij(a b:TE):TS:=λD σ H=>a σ H λx c=>b σ c λy a=>∃l i xs k,x=.ref l/\y=.int i/\a l=some (.lst xs)/\-(2^63)<=i/\i<2^63/\seqIndex? i xs.length=some k/\D.nx σ (upd a l (.lst (xs.eraseIdx k)))
theorem MR{o i:Expr}{b c:TE}{d a:Pos}(e:PE X o b)(f:PE X i c):PS X (.Delete [.Subscript o i d] a) (Ij b c):=by
 walk_at "xd";refine wpAny_Delete (wpAny_deleteEach_cons (wpAny_delete_Subscript (dy (e pins s σ H _ I h) λu a ⟨x,b,c,g,d⟩=>dy (f pins a σ b _ c d) λe k j=>?_)));obtain⟨y,a,m,n,l,i,b,k,p,q,r,v,w,z,A⟩:=j;subst p q;obtain rfl:u=Value.ref l:=g;obtain⟨t,rfl⟩:=n;exact Hc m r v w z λb a=>wpAny_deleteEach_nil ⟨σ,_,a,A⟩
structure CD(K:W.Frag)(a:Addr)(D:List (Str×V)):Prop where
 ex:∃o es ep,K.lookup a=some o/\o.ExactDict/\o.data=.dict es ep/\KTD.Rows RelV es.toList D
 ne:(a==sysModules)=false
theorem Ro{prog:Program}{w:World}{A:Around}{E:Value->Shared->Prop}{s:Shared}{o:Obj}{es:Array DictEntry}{ep:Nat}{k:Str}{c:Tok}{Q:Option Value->Shared->Prop}(g:s.heap.get? a=some o)(h:o.data=.dict es ep)(f:KTD.Rows RelV es.toList D)
  (i:∀d v,KTD.datumAt k D=some d->RelV d v->Q (some v) {s with toks:=s.toks+1}) (j:KTD.datumAt k D=none->Q none {s with toks:=s.toks+1}):wpAny (model prog w) A (dictGet a (.str k c)) Q E s:=by
 unfold dictGet
 try with_reducible refine aao ?_
 calc A' (wpAny_pyHash_str (A' (KTD.kt_dictFind_strs (s:={s with toks:=s.toks+1}) g h (by obtain⟨l⟩:=es;simpa using f.exact) ?_)));have b:Q (findBy (λk v=>v.isStr k) es k) {s with toks:=s.toks+1}:=by
  have c:findBy (λk v=>v.isStr k) es k=(es.toList.find? λe=>e.key.isStr k).map (·.val):=by
   obtain⟨l⟩:=es;simp[findBy]
  rw[c]
  cases c:KTD.datumAt k D with
  |some d=>
   obtain⟨v,l,m⟩:=f.find_some c;rw[l];calc i d v c m
  |none=>rw[f.find_none c];exact j c
 rw[findBy_of_findIdx?]at b
 cases c:es.findIdx? λe=>e.key.isStr k with
 |none=>rw[c]at b;calc K' b
 |some i=>rw[c]at b;calc A' (wpAny_dictEntries (s:={s with toks:=s.toks+1}) g h (K' b))
theorem Bz{prog:Program}{w:World}{o:Obj}{es:Array DictEntry}{ep:Nat}{k:Str}{b:Tok}(c:o.data=.dict es ep)(e:KTD.Rows RelV es.toList D)(f:(a==sysModules)=false):
  MeetsIn prog w (Builtin.«dict.get» ⟨[.ref a,.str k b],[]⟩) (λ_ R s=>s.heap.get? a=some o/\(∀d v,KTD.datumAt k D=some d->RelV d v->R (.ok (.ret v)) {s with toks:=s.toks+1})/\(KTD.datumAt k D=none->R (.ok (.ret .none)) {s with toks:=s.toks+1})):=
 .of_wp λA R s ⟨T,g,h⟩=>by
  show wpAny _ _ (dictGet a (.str k b) >>= _) _ _ s;calc A' (Ro T c e (λd v i j=>K' ⟨v,rfl,g d v i j⟩) λc=>?_);show wpAny _ _ (Builtin.Dict.missed a (.str k b) >>= _) _ _ _;calc A' (wpAny_missed_other f (K' ⟨.none,rfl,h c⟩))
def Ik(D:List (Str×V))(t:TA):TE:=λσ H Q=>t σ H λxs a=>match xs with
 | [.str k]=>Q ((KTD.datumAt k D).getD .bM) a
 |_=>False
theorem MT{n:Str}{e:Expr}{t:TA}{p b d:Pos}(C:CD X.K a D)(r:Gl X n)(v:X.mg n=some (.ref a))(w:PA X [e] t)
  (x:(n==("__debug__":Str))=false:=by decide) (y:attributeBase (.Name n p) "get" X.env (eval (.Name n p) X.env)=eval (.Name n p) X.env:=by rfl)
  (z:(b.endLine==d.line)=true:=by rfl) (l:starEach [e] X.env=[(false,eval e X.env)]:=by rfl):PE X (.Call (.Attribute (.Name n p) "get" b) [e] [] d) (Ik D t):=by
 walk_at "xc";obtain⟨o,b,n,m,f,A,B⟩:=C.ex;refine wpAny_Call_method_late y (by rw[l];rfl) z rfl (sr I r v ?_ x);have q:s.heap.get? a=some o:=I.k7 a o m;refine⟨"dict","dict.get",PySem.F.plainAttrs_dict,PySem.F.slot_dict_get,PySem.F.type_dict_get,⟨o,q,f.1⟩,λb e=>?_,?_⟩
 ·cases e;exact⟨o,q,f.2.1⟩
 have b:=w d pins s σ H _ I h;rw[l]at b ⊢;calc Calls.callWith_builtin rfl (Calls.evalArgs_plain (dy b λn E e=>?_));obtain⟨b,g,i,j,c⟩:=e
 match b,j,c with
 | [.str k],j,c=>
  obtain⟨u,rfl,G⟩:=Vals.one j;obtain⟨J,rfl⟩:=G;have e:E.heap.get? a=some o:=i.k7 a o m
  replace c:Q ((KTD.datumAt k D).getD .bM) g:=c
  refine call_meetsIn PySem.F.slot_dict_get ⟨o,e,f.1⟩ PySem.F.entry_dict_get (PySem.F.args_dict_get_2 _ _) (Bz A B C.ne) ⟨e,λd v b j=>?_,λe=>?_⟩
  ·exact⟨d,g,i.tok _,j,by have:=c;rw[b]at this;calc this⟩
  ·calc⟨.bM,g,i.tok _,rfl,by have:=c;rw[e]at this;calc this⟩
end
end
section
variable {x:Str}
section
variable {X:Cx}
theorem fS{n:Int}{a:Pos}(b:∃t,X.mg x=some (.int n t))(c:Gl X x)(d:(x==("__debug__":Str))=false:=by decide):PE X (.Name x a) (tC (.int n)):=by
 obtain⟨t,b⟩:=b;calc Cu c b ⟨t,rfl⟩ d
end
structure cn(P:Program)(w:World)(K:W.Frag)(mg:Str->Option Value)(base:Heap)(C:Addr)(m:Str)(k:Nat)(ps:List Str)(sp:Sp):Prop where
 ex:∃f fd,Meth K C m f/\nr P w K mg base EV k f fd ps sp/\Binds K fd ps []
structure il(K:W.Frag)(C:Addr)(m qual:Str)(st:Stmt)(ps:List Str):Prop where
 ex:∃f fd,Meth K C m f/\My K m qual st f fd/\Binds K fd ps []
structure y9(P:Program)(w:World)(K:W.Frag)(mg:Str->Option Value)(base:Heap)(x:Str)(C:Addr)(k:Nat)(ps:List Str)(sp:Sp):Prop where
 ex:∃f fd,Mk K C f/\nr P w K mg base EV k f fd ps sp/\Binds K fd ps []
 mg:mg x=some (.ref C)
structure E5(K:W.Frag)(mg:Str->Option Value)(x:Str)(C:Addr)(qual:Str)(st:Stmt)(ps:List Str):Prop where
 ex:∃f fd,Mk K C f/\My K "__init__" qual st f fd/\Binds K fd ps []
 mg:mg x=some (.ref C)
section
variable {P:Program}{w:World}{K:W.Frag}{mg:Str->Option Value}{base:Heap}
theorem il.ok{C:Addr}{m qual:Str}{a:Stmt}{N b:List Str}{k:Nat}{sp:Sp}(T:il K C m qual a b)(S:aD N b (az a))(c:∀vs H Q E,sp vs H Q E->vs.length=b.length)
  (e:∀(f:Addr) (d:Value) (A:Around) (outer:List Env) (s:Shared) (H:Hp) (vs:List V) (Q:VK) (E:XK),fe k (A.deeper (envOfC qual (az a) s.heap.objs.size f d))->sp vs H Q E->
   ∃t,yy (sZ EV P w K mg base N qual (az a) f d A outer s H E).L4 (dw a) t/\t {nx:=λ_ a=>Q .bM a,rt:=Q} (start N vs) H):cn P w K mg base C m (k + 1) b sp:=by
 obtain⟨f,a,M,F,b⟩:=T.ex;calc⟨f,a,M,F.ok S c (e f),b⟩
theorem E5.ok{C:Addr}{qual:Str}{a:Stmt}{N b:List Str}{k:Nat}{sp:Sp}(T:E5 K mg x C qual a b)(S:aD N b (az a))(c:∀vs H Q E,sp vs H Q E->vs.length=b.length)
  (e:∀(f:Addr) (d:Value) (A:Around) (outer:List Env) (s:Shared) (H:Hp) (vs:List V) (Q:VK) (E:XK),fe k (A.deeper (envOfC qual (az a) s.heap.objs.size f d))->sp vs H Q E->
   ∃t,yy (sZ EV P w K mg base N qual (az a) f d A outer s H E).L4 (dw a) t/\t {nx:=λ_ a=>Q .bM a,rt:=Q} (start N vs) H):y9 P w K mg base x C (k + 1) b sp:=by
 obtain⟨f,a,M,F,b⟩:=T.ex;calc⟨⟨f,a,M,F.ok S c (e f),b⟩,T.mg⟩
end
section
variable {X:Cx}{o e:Expr}{es:List Expr}{to:TE}{t:TA}{apos p pos:Pos}{C:Addr}{m x:Str}{k j:Nat}{ps:List Str}{sp:Sp}
theorem eZ{pl:Sem Bool}(D:cn X.prog X.w X.K X.mg X.base C m k ps sp)(c:uW X.K C)(b:fe j X.A)(d:PE X o to)(g:PA X (e::es) t)(h:k<=j:=by decide)(i:fR e=true:=by rfl)(l:es.all fR=true:=by rfl)
  (n:eval (.Call (.Attribute o m apos) (e::es) [] pos) X.env=(do
   let a <-eval o X.env
   standAt apos.atName
   let (f,first) <-holding [a] (getMethod a m pl)
   callWith pos f first (backTo pos (starEach (e::es) X.env)) (backToKw pos (keywordEach [] X.env))):=by rfl):
  PE X (.Call (.Attribute o m apos) (e::es) [] pos) (vM C m sp [] E0 to t):=by
 obtain⟨f,p,M,F,a⟩:=D.ex;calc Mg d c M F (b.mono h) a .nil CU g (fF i) (j9 l) n
theorem fz{pl:Sem Bool}(D:cn X.prog X.w X.K X.mg X.base C m k ps sp)(c:uW X.K C)(b:fe j X.A)(d:PE X o to)(e:k<=j:=by decide)
  (g:eval (.Call (.Attribute o m apos) [] [] pos) X.env=(do
   let a <-eval o X.env
   standAt apos.atName
   let (f,first) <-holding [a] (getMethod a m pl)
   callWith pos f first (backTo pos (starEach [] X.env)) (backToKw pos (keywordEach [] X.env))):=by rfl):
  PE X (.Call (.Attribute o m apos) [] [] pos) (vM C m sp [] E0 to Bg):=by
 obtain⟨f,h,M,F,a⟩:=D.ex;calc GU d c M F (b.mono e) a .nil CU g
theorem Il(D:y9 X.prog X.w X.K X.mg X.base x C k ps sp)(a:fe j X.A)(b:PA X (e::es) t)(c:Gl X x:=by rfl)(d:k+1<=j:=by decide)(g:(x==("__debug__":Str))=false:=by decide)
  (h:fR e=true:=by rfl) (i:es.all fR=true:=by rfl):PE X (.Call (.Name x p) (e::es) [] pos) (CF C sp [] E0 t):=by
 obtain⟨f,m,M,F,l⟩:=D.ex;calc Mh M F (a.mono d) c D.mg l .nil CU b g (fF h) (j9 i)
end
theorem pw{K:W.Frag}{b:Bool}{a:Addr}{xs:List V}{g:TG}{l:TS}{D:Ends}{σ:St}{H:Hp}(c:Nat->St->Hp->Prop)(o:c 0 σ H)(j:∀i σ H,c i σ H->Sq b K H a xs)
  (q:∀i x σ H T,xs[i]?=some x->c i σ H->H T=none->g (.ref T) σ (upd H T (.tup [.int i,x])) λd k=>l {D with nx:=c (i+1),ct:=c (i+1),bk:=D.nx} d k) (r:∀σ H,c xs.length σ H->D.nx σ H):
  ∃W:Nat->Nat->St->Hp->Prop,(∃m,W 0 m σ H)/\∀i m σ H,W i m σ H->
   ((Lv b K a).stop i H/\D.nx σ H)\/((Lv b K a).go i H/\∃N:St->Hp->Prop,(∀f h,N f h->∃n,n<m/\W (i+1) n f h)/\∀x h,(Lv b K a).Ox i H x h->g x σ h λd k=>l {D with nx:=N,ct:=N,bk:=D.nx} d k):=by
 calc⟨λi m σ H=>m=xs.length-i/\i<=xs.length/\c i σ H,⟨xs.length,nofun,U' _,o⟩,?_⟩;rintro i m σ H ⟨rfl,b,p⟩;by_cases a:i<xs.length
 ·calc .inr ⟨⟨xs,xs[i],j i σ H p,cF a⟩,c (i+1),λf h b=>⟨xs.length-(i+1),(),rfl,a,b⟩,λx h y=>?_⟩;obtain⟨T,s,rfl,y⟩:=y;obtain⟨x,t,rfl⟩:=y xs (j i σ H p);exact q i x σ H T t p s
 ·have e:i=xs.length:=by lia
  subst e;calc .inl ⟨⟨xs,j _ σ H p,rfl⟩,r σ H p⟩
theorem dW{X:Cx}{i j:Nat}{y:Str}{c d a:Pos}{k:Nat}(e:X.calm=true)(b:X.N.Nodup)(f:X.N[i]?=some x)(g:X.N[j]?=some y)(h:Loc X.env.scope x)(l:Loc X.env.scope y)
  (m:X.fn x=true\/X.env.scope.names.lookup x=some .local:=by grind) (n:X.fn y=true\/X.env.scope.names.lookup y=some .local:=by grind):
  PG X (.Tuple [.Name x c,.Name y d] k a) (AY X.K 2 (iC (dI i) (iC (dI j) AX))):=AZ e (iD (aO b f h m) (iD (aO b g l n) wU))
end
end L2
set_option maxHeartbeats 400000
namespace L2
open PySem PySem.Spec PyProof.Rows
end L2
set_option maxHeartbeats 4000000
namespace L2
open PySem PySem.Spec PyProof.Rows
variable {a:Addr}{g:Bool->Bool}{H:Hp}{ix:List (Option Nat)}{AK:List (TE×TE)}{σ:St}{te:TE}{wi:TI}{tt:TT}{Q:VK}{K:W.Frag}
section
variable {X:Cx}{K:W.Frag}
theorem vZ(a:X.K=K):eQ X (.builtin "isinstance") (MP K):=a▸cj
theorem iE(a:X.K=K):eQ X (.builtin "len") (MJ K):=a▸aP
theorem pA(a:X.K=K):eQ X (.type "tuple") (xk K):=a▸bV
theorem ja(a:X.K=K):eQ X (.type "list") (HB K):=a▸cw
theorem MU(a:X.K=K)(b:X.A.units+64<cLine):gK X (compareOp .Eq) (Rg K):=a▸Hx b
theorem cu{a b:Expr}{d e:TE}{c:Pos}(f:X.K=K)(g:X.A.units+64<cLine)(i:PE X a d)(j:PE X b e)(h:xq b=true:=by rfl):PE X (.Subscript a b c) (AI (Ls K) d e):=f▸aj g i j h
theorem MV{e:Expr}{b:TE}{f:Str}{a:Pos}(c:X.K=K)(he:PE X e b)(d:attributeBase e f X.env (eval e X.env)=eval e X.env):PE X (.Attribute e f a) (Md K b f):=c▸bJ he d
theorem ip{i j:Nat}{x y:Str}{b c a:Pos}{k:Nat}(d:X.K=K)(e:X.calm=true)(f:X.N.Nodup)(g:X.N[i]?=some x)(h:X.N[j]?=some y)(l:Loc X.env.scope x)(m:Loc X.env.scope y)
  (n:X.fn x=true\/X.env.scope.names.lookup x=some .local:=by grind) (o:X.fn y=true\/X.env.scope.names.lookup y=some .local:=by grind):
  PG X (.Tuple [.Name x b,.Name y c] k a) (AY K 2 (iC (dI i) (iC (dI j) AX))):=d▸dW e f g h l m n o
end
inductive Lw{α:Sort _}(x:α):Type
 |mk
def Wh(ix:List (Option Nat))(wi:TI)(g:TG)(tt:TT)(te:TE)(_:Lw (ix,wi,g,tt,te)):TE:=V0 ix wi g tt te
theorem C9{g:TG}:V0 ix wi g tt te=Wh ix wi g tt te .mk:=rfl
def Wi(wi:TI)(g:TG)(a:TS)(_:Lw (wi,g,a)):TS:=QH wi g a
theorem za{g:TG}{a:TS}:QH wi g a=Wi wi g a .mk:=rfl
def MW(a:TT)(b:TS)(_:Lw (a,b)):TS:=wV a b
theorem tP{a:TT}{b:TS}:wV a b=MW a b .mk:=rfl
theorem bo{g:TG}(h:wi σ H λJ a=>∀D,a D=none->lP ix J g tt te σ a Q D):V0 ix wi g tt te σ H Q:=h
def pB(ix:List (Option Nat))(J:It)(g:TG)(tt:TT)(te:TE)(σ:St)(H:Hp)(Q:VK)(D:Addr)(_:Lw (ix,J,g,tt,te,σ,H,Q,D)):Prop:=lP ix J g tt te σ H Q D
theorem tQ{J:It}{g:TG}{D:Addr}:lP ix J g tt te σ H Q D=pB ix J g tt te σ H Q D .mk:=rfl
theorem BA:V7 g (.ref a) .bM H Q=Q (.bl (g false)) H:=by
 show Q (.bl (g (decide (V.ref a=.bM)))) H=_;simp
theorem BB:V7 g .bM .bM H Q=Q (.bl (g true)) H:=by
 show Q (.bl (g (decide (V.bM=.bM)))) H=_;simp
theorem au.Uh{b:Hp}(s:au H b){a:Addr}{xs:List V}(h:bG K H a xs):bG K b a xs:=by
 rcases h with(h|⟨o,h⟩)|h
 ·exact .inl (.inl (s _ _ h))
 ·exact .inl (.inr ⟨o,s _ _ h⟩)
 ·calc .inr h
theorem kb{α:Type}(x:α)(n:Nat):List.replicate n x++[x]=List.replicate (n+1) x:=by
 rw[List.replicate_succ',]
theorem qh(n:Nat):List.replicate n (V.bl true)=(List.replicate n true).map V.bl:=by simp
theorem cN{xs:List V}{i:Int}{v:V}{P:V->Prop}(h:H a=some (.tup xs))(e:gU xs i=some v)(k:P v):∃xs v,(aM K H a xs\/bG K H a xs)/\gU xs i=some v/\P v:=⟨xs,v,.inr (bG.of h),e,k⟩
theorem bu{xs:List V}{i:Int}{v:V}{P:V->Prop}(h:H a=some (.lst xs))(e:gU xs i=some v)(k:P v):∃xs v,(aM K H a xs\/bG K H a xs)/\gU xs i=some v/\P v:=⟨xs,v,.inl (aM.of h),e,k⟩
def Rt(AK:List (TE×TE))(_:Lw AK):TE:=CS AK
theorem v7:CS AK=Rt AK .mk:=rfl
theorem MX(h:∀p,H p=none->qf AK σ (upd H p (.dK [])) λd b=>b p=some (.dK [])/\∃a:List (Key×V),d=a.map (λc=>(kV c.1,c.2))/\a.length<=15/\Q (.ref p) (upd b p (.dK (nQ [] a)))):CS AK σ H Q:=h
end L2
set_option maxHeartbeats 400000
namespace L2
open PySem PySem.Spec PyProof.Rows
section
section
variable {X:Cx}{K:W.Frag}
end
end
section
section
variable {X:Cx}{pins:List (Addr×Obj)}{σ:St}{H:Hp}{s:Shared}{e C:Addr}{d:Option Addr}{fl:Bool}{T:Option Addr}{h':Heap}
end
section
variable {X:Cx}{pins:List (Addr×Obj)}{σ:St}{H:Hp}{s:Shared}{a C:Addr}{d:Option Addr}{fl:Bool}{T:Option Addr}{h':Heap}{E:XK}{E1:Value->Shared->Prop}
end
end
section
section
variable {X:Cx}{o e:Expr}{es:List Expr}{to:TE}{t:TA}{apos p pos:Pos}{C:Addr}{m x:Str}{k j:Nat}{ps:List Str}{sp:Sp}{E:XK}
end
end
section
end
end L2
namespace L2
open PySem PySem.Spec PyProof.Rows
end L2
set_option maxHeartbeats 4000000
namespace DD
open PySem L2
variable {H:Hp}{x:V}
inductive Kd(H:Hp):V->Value->Prop
 |bM:Kd H .bM (.type "NoneType")
 |bl (b:Bool):Kd H (.bl b) (.type "bool")
 |int (i:Int):Kd H (.int i) (.type "int")
 |str (x:Str):Kd H (.str x) (.type "str")
 |lst {a xs}:H a=some (.lst xs)->Kd H (.ref a) (.type "list")
 |tup {a xs}:H a=some (.tup xs)->Kd H (.ref a) (.type "tuple")
 |dK {a bf}:H a=some (.dK bf)->Kd H (.ref a) (.type "dict")
theorem Kd.ty{K:W.Frag}{H:Hp}{x:V}{t:Value}(h:Kd H x t):gT K H x t:=by
 cases h with
 |bM=>calc .bM
 |bl b=>calc .bl b
 |int i=>calc .int i
 |str x=>calc .str x
 |lst e=>calc .lst e
 |tup e=>calc .tup e
 |dK e=>calc .dK e
def isI:V->Bool
 | .int _=>true
 |_=>false
theorem Ru{K:W.Frag}{H:Hp}{x:V}{t:Value}(h:Kd H x t):∃b c,W.kitOne K t (.type "int")=some b/\W.kitOne K t (.type "bool")=some c/\isI x=(b && !c):=by
 cases h with
 |bM=>calc⟨false,false,rfl,rfl,rfl⟩
 |bl b=>calc⟨true,true,rfl,rfl,rfl⟩
 |int i=>calc⟨true,false,rfl,rfl,rfl⟩
 |str x=>calc⟨false,false,rfl,rfl,rfl⟩
 |lst e=>calc⟨false,false,rfl,rfl,rfl⟩
 |tup e=>calc⟨false,false,rfl,rfl,rfl⟩
 |dK e=>calc⟨false,false,rfl,rfl,rfl⟩
def inR(lo a:Int):V->Bool
 | .int i=>decide (lo<=i)&&decide (i<a)
 |_=>false
theorem Wj{H:Hp}{n:Nat}{x:V}{d:DV}(h:HD H n x d):∃t,Kd H x t:=by
 cases h with
 |bM=>calc⟨_,.bM⟩
 |bl b=>calc⟨_,.bl b⟩
 |int i=>calc⟨_,.int i⟩
 |str x=>calc⟨_,.str x⟩
 |tup e=>calc⟨_,.tup e⟩
 |lst e=>calc⟨_,.lst e⟩
 |dict e=>calc⟨_,.dK e⟩
def Rv:DV->Bool
 | .int _=>true
 |_=>false
def Wk(lo a:Int):DV->Bool
 | .int i=>decide (lo<=i)&&decide (i<a)
 |_=>false
theorem Rw{n:Nat}{d:DV}(h:HD H n x d):isI x=Rv d:=by cases h<;>rfl
theorem Rx{n:Nat}{d:DV}(h:HD H n x d)(lo a:Int):inR lo a x=Wk lo a d:=by cases h<;>rfl
def tR:List V:=[.str "letter",.str "way",.str "first"]
def MY(w:Str)(m:Int):List DV->Bool
 | [z]=>if w="is" then Rv z else(decide (w="number")&&Wk 0 m z)
 |_=>false
def E6(m:Int):DV->Bool
 | .tup (.str w::r)=>if CM (.str w) tR=true then decide (r.length=0) else MY w m r
 |_=>false
inductive Val where
 |is (c:Int)|number (i:Int)|nV|way|first
def Val.dv:Val->DV
 | .is c=>.tup [.str "is",.int c]
 | .number i=>.tup [.str "number",.int i]
 | .nV=>.tup [.str "letter"]
 | .way=>.tup [.str "way"]
 | .first=>.tup [.str "first"]
def Val.ok(m:Int):Val->Prop
 | .number i=>0<=i/\i<m
 |_=>True
theorem Ry{m:Int}{v:Val}(h:v.ok m):E6 m v.dv=true:=by
 cases v with
 |is c=>calc rfl
 |number i=>
  obtain⟨a,b⟩:=h;show(if CM (.str "number") tR=true then decide (([DV.int i]:List DV).length=0) else if ("number":Str)="is" then Rv (.int i) else(decide (("number":Str)="number")&&(decide (0<=i)&&decide (i<m))))=true;rw[if_neg ⋯,if_neg ⋯];simp[a,b]
 |nV=>calc rfl
 |way=>calc rfl
 |first=>calc rfl
def tS(ns a:List Int)(way said:Int):Val->Int
 | .is c=>c
 | .number i=>ns.getD i.toNat 0
 | .nV=>said
 | .way=>way
 | .first=>a.headD 0
abbrev zb(ns a:List Int):DV:=.tup [.tup (ns.map .int),.tup (a.map .int)]
theorem ln1{l:List V}(h:l.length=1):∃a,l=[a]:=List.length_eq_one_iff.mp h
theorem ln2{l:List V}(h:l.length=2):∃a b,l=[a,b]:=by
 cases l with
 |nil=>cases h
 |cons a r=>
  obtain⟨b,rfl⟩:=ln1 (Nat.succ.inj h);calc⟨a,b,rfl⟩
theorem ln3{l:List V}(h:l.length=3):∃a b c,l=[a,b,c]:=by
 cases l with
 |nil=>cases h
 |cons a r=>
  obtain⟨b,c,rfl⟩:=ln2 (Nat.succ.inj h);calc⟨a,b,c,rfl⟩
theorem ln4{l:List V}(h:l.length=4):∃a b c d,l=[a,b,c,d]:=by
 cases l with
 |nil=>cases h
 |cons a r=>
  obtain⟨b,c,d,rfl⟩:=ln3 (Nat.succ.inj h);calc⟨a,b,c,d,rfl⟩
theorem jj{H:Hp}{n:Nat}{x:V}{d:DV}(h:HT H n x (.tup [d])):∃a u k,x=.ref a/\H a=some (.tup [u])/\HT H k u d:=by
 cases h with
 | @tup k a b _ e l i=>
  obtain⟨u,rfl⟩:=ln1 l;calc⟨a,u,k,rfl,e,i 0 u d rfl rfl⟩
theorem dD{H:Hp}{n:Nat}{x:V}{d d':DV}(h:HT H n x (.tup [d,d'])):∃a u v k,x=.ref a/\H a=some (.tup [u,v])/\HT H k u d/\HT H k v d':=by
 cases h with
 | @tup k a b _ e l i=>
  obtain⟨u,v,rfl⟩:=ln2 l;calc⟨a,u,v,k,rfl,e,i 0 u d rfl rfl,i 1 v d' rfl rfl⟩
theorem Dc{H:Hp}{n:Nat}{x:V}{ns:List Int}(h:HT H n x (.tup (ns.map .int))):∃a,x=.ref a/\H a=some (.tup (ns.map V.int)):=by
 cases h with
 | @tup k a b _ e l i=>
  calc⟨a,rfl,?_⟩;have:b=ns.map V.int:=by
   apply List.ext_getElem?;intro j;rw[aaB]
   cases c:ns[j]? with
   |none=>
    have a:ns.length<=j:=List.getElem?_eq_none_iff.mp c;rw[List.getElem?_eq_none_iff.mpr (by rw[l,aaC];calc a)];rfl
   |some z=>
    have a:j<ns.length:=(List.getElem?_eq_some_iff.mp c).1;have d:j<b.length:=by rw[l,aaC];exact a
    have f:=i j b[j] (.int z) (cF d) (by rw[aaB,c];rfl);rw[cF d];generalize b[j]=y at f
    cases f;rfl
  rw[<-this];calc e
theorem pC{H:Hp}{n:Nat}{a:Addr}{ns:List Int}(e:H a=some (.tup (ns.map V.int))):HT H (n+1) (.ref a) (.tup (ns.map .int)):=by
 calc .tup e nofun λi u d b c=>?_;rw[aaB]at b c
 cases f:ns[i]? with
 |none=>rw[f]at b;cases b
 |some z=>rw[f]at b c;cases b;cases c;calc .int z
theorem tU{H:Hp}{n:Nat}{a:Addr}{u:V}{d:DV}(e:H a=some (.tup [u]))(h:HT H n u d):HT H (n+1) (.ref a) (.tup [d]):=by
 refine .tup e rfl λi x y b c=>?_
 cases i with
 |zero=>simp at b c;subst b c;calc h
 |succ i=>simp at b
theorem cS{H:Hp}{n:Nat}{a:Addr}{u v:V}{d d':DV}(e:H a=some (.tup [u,v]))(h:HT H n u d)(h':HT H n v d'):HT H (n+1) (.ref a) (.tup [d,d']):=by
 refine .tup e rfl λi x y b c=>?_
 match i,b,c with
 |0,b,c=>simp at b c;subst b c;calc h
 |1,b,c=>simp at b c;subst b c;calc h'
theorem _root_.L2.HT.mono{H:Hp}{n:Nat}{x:V}{d:DV}(h:HT H n x d):∀{m:Nat},n<=m->HT H m x d:=by
 induction h with
 |bM=>intro m _;calc .bM
 |bl b=>intro m _;calc .bl b
 |int i=>intro m _;calc .int i
 |str x=>intro m _;calc .str x
 |tup a b c f=>
  intro m e;obtain⟨k,rfl⟩:∃k,m=k+1:=⟨m-1,()⟩
  calc .tup a b λi u e p q=>f i u e p q ()
theorem MZ{K:W.Frag}{H:Hp}{n:Nat}{x:V}{d:DV}(h:HT H n x d):∀{m:Nat}{y:V}{k:Nat},HT H m y d->n<k->j8 K H k x y:=by
 induction h with
 |bM=>intro m y k h c;cases h;obtain⟨j,rfl⟩:∃j,k=j+1:=⟨k-1,()⟩;calc .inl ⟨rfl,rfl⟩
 |bl b=>intro m y k h c;cases h;obtain⟨j,rfl⟩:∃j,k=j+1:=⟨k-1,()⟩;calc .inl ⟨rfl,rfl⟩
 |int i=>intro m y k h c;cases h;obtain⟨j,rfl⟩:∃j,k=j+1:=⟨k-1,()⟩;calc .inl ⟨rfl,rfl⟩
 |str i=>intro m y k h c;cases h;obtain⟨j,rfl⟩:∃j,k=j+1:=⟨k-1,()⟩;calc .inl ⟨rfl,rfl⟩
 | @tup n a o g e l i q=>
  intro m y k h c;obtain⟨j,rfl⟩:∃j,k=j+1:=⟨k-1,()⟩
  cases h with
  | @tup m b d _ i j k=>
   calc .inr ⟨a,b,o,d,rfl,rfl,.inl ⟨bG.of e,bG.of i⟩,l.trans j.symm,λp u v c m=>?_⟩;have a:p<g.length:=by rw[<-l];exact(List.getElem?_eq_some_iff.mp c).1
   calc q p u g[p] c (cF a) (k p v g[p] m (cF a)) ()
inductive bF where
 |set (i:Int) (v:Val)|add (i:Int) (v:Val)|times (i:Int) (v:Val)|put (v:Val)|drop|send (j:Int) (v:Val)|say (v:Val)|skip (v w:Val) (k:Int)
def bF.dv:bF->DV
 | .set i v=>.tup [.str "set",.int i,v.dv]
 | .add i v=>.tup [.str "add",.int i,v.dv]
 | .times i v=>.tup [.str "times",.int i,v.dv]
 | .put v=>.tup [.str "put",v.dv]
 | .drop=>.tup [.str "drop"]
 | .send j v=>.tup [.str "send",.int j,v.dv]
 | .say v=>.tup [.str "say",v.dv]
 | .skip v w k=>.tup [.str "skip",v.dv,w.dv,.int k]
def bF.ok(m:Int):bF->Prop
 | .set i v=>0<=i/\i<m/\v.ok m
 | .add i v=>0<=i/\i<m/\v.ok m
 | .times i v=>0<=i/\i<m/\v.ok m
 | .put v=>v.ok m
 | .drop=>True
 | .send j v=>0<=j/\v.ok m
 | .say v=>v.ok m
 | .skip v w k=>v.ok m/\w.ok m/\1<=k/\k<25
def bF.vals:bF->List Val
 | .set _ v=>[v]
 | .add _ v=>[v]
 | .times _ v=>[v]
 | .put v=>[v]
 | .drop=>[]
 | .send _ v=>[v]
 | .say v=>[v]
 | .skip v w _=>[v,w]
def bF.word:bF->Str
 | .set _ _=>"set"
 | .add _ _=>"add"
 | .times _ _=>"times"
 | .put _=>"put"
 | .drop=>"drop"
 | .send _ _=>"send"
 | .say _=>"say"
 | .skip _ _ _=>"skip"
def bF.vb:bF->List Str
 | .set _ _=>["number","value"]
 | .add _ _=>["number","value"]
 | .times _ _=>["number","value"]
 | .put _=>["value"]
 | .drop=>[]
 | .send _ _=>["way","value"]
 | .say _=>["value"]
 | .skip _ _ _=>["value","value","many"]
structure WS where
 ns:List Int
 row:List Int
 cR:List (Int×Int)
 words:List Int
def fT(M way said:Int)(ns a:List Int)(v:Val):Int:=tS ns a way said v%M
def kd(M:Int)(ns:List Int)(x:Int):bF->List Int
 | .set i _=>ns.set i.toNat x
 | .add i _=>ns.set i.toNat ((ns.getD i.toNat 0+x)%M)
 | .times i _=>ns.set i.toNat ((ns.getD i.toNat 0*x)%M)
 |_=>ns
def pD(a:List Int)(x:Int):bF->List Int
 | .put _=>if a.length<12 then a++[x] else a
 | .drop=>a.tail
 |_=>a
def iF(x:Int):bF->List (Int×Int)
 | .send j _=>[(j,x)]
 |_=>[]
def gm(x:Int):bF->List Int
 | .say _=>[x]
 |_=>[]
def pE(x y:Int):bF->Int
 | .skip _ _ k=>if x<y then k else 0
 |_=>0
def k8(M way said:Int)(d:bF)(s:WS):WS:=
 let ws:=d.vals.map (fT M way said s.ns s.row)
 ⟨kd M s.ns (ws.getD 0 0) d,pD s.row (ws.getD 0 0) d,s.cR++iF (ws.getD 0 0) d,s.words++gm (ws.getD 0 0) d⟩
def nH(M way said:Int)(d:bF)(s:WS):Int:=
 let ws:=d.vals.map (fT M way said s.ns s.row)
 pE (ws.getD 0 0) (ws.getD 1 0) d
def zc(M way said:Int):Nat->List bF->WS->WS
 |0,_,s=>s
 |_,[],s=>s
 |f+1,d::r,s=>zc M way said f (r.drop (nH M way said d s).toNat) (k8 M way said d s)
theorem Dd{M way said:Int}{f:Nat}{s:WS}:zc M way said f [] s=s:=by cases f<;>rfl
def pF(M way said:Int)(b:List bF)(ns a:List Int):WS:=zc M way said b.length b ⟨ns,a,[],[]⟩
theorem qi{M x:Int}{ns:List Int}{d:bF}:(kd M ns x d).length=ns.length:=by cases d<;>simp[kd]
def zd(K:W.Frag)(H:Hp)(e:V)(ns d:List Int):Prop:=∃a b c,e=.ref a/\H a=some (.tup [.ref b,.ref c])/\(aM K H b (ns.map V.int)\/bG K H b (ns.map V.int))/\(aM K H c (d.map V.int)\/bG K H c (d.map V.int))
theorem zd.of{K:W.Frag}{n:Nat}{f:V}{ns d:List Int}(h:HT H n f (zb ns d)):zd K H f ns d:=by
 obtain⟨a,u,v,k,rfl,e,g,i⟩:=dD h;obtain⟨b,rfl,j⟩:=Dc g;obtain⟨c,rfl,d⟩:=Dc i;calc⟨a,b,c,rfl,e,.inr (bG.of j),.inr (bG.of d)⟩
def b8:Stmt->List Stmt
 | .ClassDef _ _ _ a _ _ _ _ _ _ _=>a
 |_=>[]
theorem bU{H:Hp}{n:Nat}{x:V}{d d' b:DV}(h:HT H n x (.tup [d,d',b])):∃a u v w k,x=.ref a/\H a=some (.tup [u,v,w])/\HT H k u d/\HT H k v d'/\HT H k w b:=by
 cases h with
 | @tup k a c _ e l i=>
  obtain⟨u,v,w,rfl⟩:=ln3 l;calc⟨a,u,v,w,k,rfl,e,i 0 u d rfl rfl,i 1 v d' rfl rfl,i 2 w b rfl rfl⟩
theorem pG{H:Hp}{n:Nat}{x:V}{d d' b c:DV}(h:HT H n x (.tup [d,d',b,c])):∃a u v w z k,x=.ref a/\H a=some (.tup [u,v,w,z])/\HT H k u d/\HT H k v d'/\HT H k w b/\HT H k z c:=by
 cases h with
 | @tup k a f _ e l i=>
  obtain⟨u,v,w,z,rfl⟩:=ln4 l;calc⟨a,u,v,w,z,k,rfl,e,i 0 u d rfl rfl,i 1 v d' rfl rfl,i 2 w b rfl rfl,i 3 z c rfl rfl⟩
theorem lR{H:Hp}{n:Nat}{a:Addr}{u v w:V}{d d' g:DV}(e:H a=some (.tup [u,v,w]))(h:HT H n u d)(h':HT H n v d')(f:HT H n w g):HT H (n+1) (.ref a) (.tup [d,d',g]):=by
 refine .tup e rfl λi x y b c=>?_
 match i,b,c with
 |0,b,c=>simp at b c;subst b c;calc h
 |1,b,c=>simp at b c;subst b c;calc h'
 |2,b,c=>simp at b c;subst b c;calc f
theorem De{n:Nat}{v:Val}(h:HT H n x v.dv):∃a xs,x=.ref a/\H a=some (.tup xs):=by
 cases v<;>(cases h;rename_i a xs e l i;calc⟨_,_,rfl,by assumption⟩)
end DD
set_option maxHeartbeats 400000
namespace L2
open PySem PySem.Spec PyProof.Rows
def Wl:R2:=λx y H Q=>match x,y with
 | .ref a,.int n=>∃v,H a=some (.lst [v])/\-1000<=n/\n<=1000/\∀p,H p=none->Q (.ref p) (upd H p (.lst (List.replicate n.toNat v)))
 |_,_=>False
theorem Im{α:Type}(n:Nat)(v:α):(List.replicate n [v]).flatten=List.replicate n v:=by
 induction n with
 |zero=>rfl
 |succ n a=>rw[List.replicate_succ,List.flatten_cons,a];rfl
theorem ze{v:V}{u:Value}(r:RelV v u):∀n:Nat,Vals (List.replicate n v) (List.replicate n u)
 |0=>.nil
 |n+1=>.cons r (ze r n)
section
variable {X:Cx}
theorem Io:gK X (binaryOp .Mult) Wl:=by
 intro g s σ H x y v u Q I i j h
 cases x<;>cases y<;>first
  |calc(show False from h).elim
  |skip
 rename_i a n;obtain⟨w,l,A,B,q⟩:=h;obtain rfl:v=Value.ref a:=i;obtain⟨c,rfl⟩:∃c,u=Value.int n c:=j;obtain⟨_,C,k,m,d⟩:=I.aY a _ l;obtain⟨f,rfl,p⟩:=m.one;have r:([f]:List Value).toArray.size*n.toNat<=1000:=by simp;lia
 refine wpAny_binaryOp_repeat_ref (T:="list") (U:="int") ∅ ⟨_,d,rfl⟩ (λt=>typeIs_int t n c) noFill_list_mul F.fills_int_mul F.slot_int_rmul repeat_list F.slot_int_index.lookup
  (call_meets F.slot_int_rmul (typeIs_int s n c) F.entry_int_rmul (F.args_int_rmul_2 _ _) (lm_int_rmul_list_any n c a ([f]:List Value).toArray k none #[])
   ⟨d,rfl,⟨_,d,rfl⟩,call_meets F.slot_list_mul ⟨_,d,rfl⟩ F.entry_list_mul (F.args_list_mul_2 _ _)
    (lm_list_mul_any a ([f]:List Value).toArray k none #[] n c (by simp[Builtin.List.listFitsIndex];lia) () (by simp[Builtin.List.listTooLong,sizeLine];lia))
    ⟨d,?_⟩⟩)
 rw[listMul_foldl_if,Im];have z:H s.heap.objs.size=none:=I.aY.fresh (E' _);calc⟨V.ref s.heap.objs.size,_,I.laid (o:=.lst (List.replicate n.toNat w)) (a:=s.heap.objs.size) (λb o e=>F' _ e) (E' _) (show _/\_ from⟨?_,_,0,ze p _,P' _ rfl⟩),rfl,q _ z⟩;rw[List.length_replicate,sizeLine_eq];lia
end
end L2
namespace L2
open PySem PySem.Spec PyProof.Rows Builtin.Str
end L2
namespace L2
open PySem PySem.Spec PyProof.Rows Builtin.Str
end L2
set_option maxHeartbeats 4000000
namespace L2
open PySem
section
variable {X:Cx}
def ab3(K:W.Frag):List V->Hp->VK->Prop:=λxs H Q=>∃(x:V) (C:Addr) (t:Value) (b:Bool),xs=[x,.ref C]/\gT K H x t/\W.kitOne K t (.ref C)=some b/\Q (.bl b) H
theorem Ip{K:W.Frag}(c:X.K=K):eQ X (.builtin "isinstance") (ab3 K):=by
 subst c;intro a s σ H i j Q I r h;obtain⟨x,C,t,b,rfl,d,e,q⟩:=h;obtain⟨u,k,rfl,f,g⟩:=vals2 r
 cases g;calc vJ I f d e λa=>⟨.bl b,H,I.tok _,rfl,q⟩
end
end L2
namespace L2
open PySem PySem.Spec PyProof.Rows
end L2
namespace L2
open PySem
variable {H:Hp}{σ:St}
theorem ig{t u:TS}{D:Ends}(h:∀N:St->Hp->Prop,N=u D->t {D with nx:=N} σ H):wR t u D σ H:=h _ rfl
theorem fm{c:TT}{t u:TS}{D:Ends}(h:∀T U:St->Hp->Prop,T=t D->U=u D->c σ H λb a=>if b=true then T σ a else U σ a):ED c t u D σ H:=h _ _ rfl rfl
theorem Rz{i:Nat}{v:V}{Q:St->Hp->Prop}(h:Q (σ.set i (some v)) H):dI i v σ H Q:=h
theorem aX{N M:St->Hp->Prop}(e:N=M)(h:M σ H):N σ H:=e▸h
end L2
namespace DD
open PySem L2
variable {x:Addr}{Z:Addr->Prop}{H H':Hp}{vs:List V}
structure MD where
 M:Int
 ns:List Int
 row:List Int
 ds:List bF
structure Good(M:Int)(ns row:List Int)(ds:List bF):Prop where
 m2:2<=M
 m12:M<=1000000000000
 l1:1<=ns.length
 l4:ns.length<=4
 r12:row.length<=12
 bn:∀z∈ns,0<=z/\z<M
 br:∀z∈row,0<=z/\z<M
 d24:ds.length<=24
 ok:∀d∈ds,d.ok ns.length
abbrev MD.good(d:MD):Prop:=Good d.M d.ns d.row d.ds
instance:Inhabited MD:=⟨⟨0,[],[],[]⟩⟩
noncomputable def jY (Z:Addr->Prop) (H:Hp):Hp:=λx=> @ite _ (Z x) (Classical.propDecidable _) (some (.own 0)) (H x)
theorem gV(h:¬Z x):jY Z H x=H x:=by unfold jY;rw[if_neg h]
theorem BC(h:Z x):jY Z H x=some (.own 0):=by unfold jY;rw[if_pos h]
theorem ei{o:HO}(h:jY Z H x=some o)(b:∀k,o≠.own k):¬Z x/\H x=some o:=by
 by_cases a:Z x
 ·rw[BC a]at h;cases h;exact absurd rfl (b 0)
 ·rw[gV a]at h;calc⟨a,h⟩
theorem M0{o:HO}(h:Z x):jY Z (upd H x o)=jY Z H:=by
 funext b;by_cases a:Z b
 ·rw[BC a,BC a]
 ·rw[gV a,gV a,av (λe:b=x=>a (e▸h))]
def Cv(H H':Hp):Prop:=∀b o,H b=some o->(∀k,o≠.own k)->H' b=some o
theorem _root_.L2.au.cv(s:au H H'):Cv H H':=λb o e _=>s b o e
def soft:HO->Prop
 | .lst _=>True
 | .dK _=>True
 |_=>False
def Fr(Z:Addr->Prop)(H H':Hp):Prop:=∀b o,H b=some o->(Z b->¬soft o)->H' b=some o
theorem Fr.refl:Fr Z H H:=λ_ _ e _=>e
theorem Fr.trans{c d:Hp}(a:Fr Z H c)(b:Fr Z c d):Fr Z H d:=λc o e n=>b c o (a c o e n) n
theorem _root_.L2.au.fr(s:au H H'):Fr Z H H':=λb o e _=>s b o e
theorem Fr.at(a:Fr Z H H'){b:Addr}{o:HO}(e:H b=some o)(h:¬Z b):H' b=some o:=a b o e λz=>absurd z h
theorem Fr.ly(a:Fr Z H H'){b:Addr}{o:HO}(e:H b=some o)(h:¬soft o):H' b=some o:=a b o e λ_=>h
theorem Fr.upd{b:Hp}(a:Fr Z H b){x:Addr}{o u:HO}(h:Z x)(f:b x=some u)(g:soft u):Fr Z H (upd b x o):=λc v e n=>by
 by_cases z:c=x
 ·subst z;have d:=a c v e n;rw[f] at d
  cases d;exact absurd g (n h)
 ·rw[av z];calc a c v e n
theorem Fr.mono{c:Addr->Prop}{d:Hp}(a:Fr Z H d)(h:∀b,Z b->c b):Fr c H d:=λc o e n=>a c o e λz=>n (h c z)
theorem Fr.aN(h:Fr Z H H'):bW H H':=λb a e=>h b _ e λ_=>id
theorem Fr.jY(h:Fr Z H H'):Cv (jY Z H) (jY Z H'):=λb o e n=>by
 obtain⟨a,b⟩:=ei e n;rw[gV a];calc h.at b a
theorem dE:Cv (jY Z H) H:=λb o e n=>(ei e n).2
theorem Cv.aN(h:Cv H H'):bW H H':=λb a e=>h b _ e (λk z=>by cases z)
theorem _root_.L2.HD.cv{H H':Hp}(s:Cv H H'){n:Nat}{x:V}{d:DV}(h:HD H n x d):HD H' n x d:=by
 induction h with
 |bM=>calc .bM
 |bl b=>calc .bl b
 |int i=>calc .int i
 |str x=>calc .str x
 |tup e l i a=>calc .tup (s _ _ e (λk z=>by cases z)) l a
 |lst e l i a=>calc .lst (s _ _ e (λk z=>by cases z)) l a
 |dict e=>calc .dict (s _ _ e (λk z=>by cases z))
def fA(H:Hp)(n:Nat)(vs:List V)(a:List DV):Prop:=vs.length=a.length/\∀(i:Nat) v d,vs[i]?=some v->a[i]?=some d->HD H n v d
theorem fA.cv(s:Cv H H'){n:Nat}{vs:List V}{a:List DV}(h:fA H n vs a):fA H' n vs a:=⟨h.1,λi v d a b=>(h.2 i v d a b).cv s⟩
theorem fA.nil{n:Nat}:fA H n [] []:=⟨rfl,λi v d a=>by simp at a⟩
theorem fA.app{n:Nat}{us:List V}{a es:List DV}(h:fA H n vs a)(g:fA H n us es):fA H n (vs++us) (a++es):=by
 calc⟨by simp[h.1,g.1],λi v d a b=>?_⟩;by_cases c:i<vs.length
 ·rw[aaH c]at a;rw[aaH (by rw[<-h.1];calc c)]at b;exact h.2 i _ _ a b
 ·rw[aaG ()]at a;rw[aaG (by rw[<-h.1];lia),<-h.1]at b;calc g.2 _ _ _ a b
theorem fA.one{H:Hp}{n:Nat}{v:V}{d:DV}(h:HD H n v d):fA H n [v] [d]:=by
 refine⟨rfl,λi u e a b=>?_⟩
 cases i with
 |zero=>simp at a b;subst a b;calc h
 |succ i=>simp at a
theorem fA.set{n:Nat}{c:List DV}{v:V}{d:DV}(h:fA H n vs c)(g:HD H n v d)(k:Nat):fA H n (vs.set k v) (c.set k d):=by
 calc⟨by simp[h.1],λi u e a b=>?_⟩;rw[List.getElem?_set]at a b;by_cases f:k=i
 ·rw[if_pos f] at a b;split at a
  ·rw[if_pos (by rw[<-h.1];assumption)]at b;cases a;cases b;exact g
  ·cases a
 ·rw[if_neg f]at a b;calc h.2 i u e a b
theorem fA.ints{H:Hp}{n:Nat}(ns:List Int):fA H n (ns.map V.int) (ns.map DV.int):=by
 calc⟨nofun,λi v d a b=>?_⟩;rw[aaB]at a b
 cases c:ns[i]? with
 |none=>rw[c]at a;cases a
 |some z=>rw[c]at a b;cases a;cases b;calc .int z
theorem fA.tW{n:Nat}{ns:List Int}(h:fA H n vs (ns.map DV.int)):vs=ns.map V.int:=by
 apply List.ext_getElem (by simpa using h.1);intro j c a;have b:j<ns.length:=by simpa using a
 have:=h.2 j vs[j] (.int ns[j]) nofun (by simp[b]);simp only[List.getElem_map];generalize vs[j]=y at this
 cases this;rfl
theorem fA.get{n:Nat}{a:List DV}(h:fA H n vs a){i:Nat}{d:DV}(e:a[i]?=some d):∃v,vs[i]?=some v/\HD H n v d:=by
 have b:i<a.length:=(List.getElem?_eq_some_iff.mp e).1;have a:i<vs.length:=by rw[h.1];exact b
 calc⟨vs[i],nofun,h.2 i _ _ nofun e⟩
inductive CO where
 |l (ds:List DV)|d (g:Int->Option DV) (n:Nat)
def OR(H:Hp):CO->HO->Prop
 | .l a,.lst vs=>fA H 4 vs a
 | .d g n,.dK a=>a.length<=n/\∀k:Int,match g k with
  |none=>gb a (Sum.inl k)=none
  |some d=>∃v,gb a (Sum.inl k)=some v/\HD H 4 v d
 |_,_=>False
theorem OR.cv{H H':Hp}(s:Cv H H'){c:CO}{o:HO}(h:OR H c o):OR H' c o:=by
 cases c with
 |l a=>
  cases o with
  |lst vs=>calc fA.cv s h
  |_=>calc aai h
 |d g n=>
  cases o with
  |dK a=>
   calc⟨h.1,λk=>?_⟩;have:=h.2 k;revert this
   cases g k with
   |none=>calc id
   |some d=>calc λ⟨v,e,a⟩=>⟨v,e,a.cv s⟩
  |_=>calc aai h
def FP(n:Nat->Nat)(ad:Nat->Nat->Addr)(b:Addr):Prop:=∃t i,i<n t/\b=ad t i
structure eA(F:Addr->Prop)(H:Hp)(n:Nat->Nat)(ad:Nat->Nat->Addr)(ct:Nat->Nat->CO):Prop where
 inj:∀t i t' i',i<n t->i'<n t'->ad t i=ad t' i'->t=t'/\i=i'
 out:∀t i,i<n t->¬F (ad t i)
 OP:∀t i,i<n t->∃o,H (ad t i)=some o/\OR (jY (λb=>F b\/FP n ad b) H) (ct t i) o
def setC(ct:Nat->Nat->CO)(t i:Nat)(c:CO):Nat->Nat->CO:=λt' a=>if t'=t/\a=i then c else ct t' a
section
variable {F:Addr->Prop}{H H':Hp}{n:Nat->Nat}{ad:Nat->Nat->Addr}{ct ct':Nat->Nat->CO}
theorem eA.keep(h:eA F H n ad ct)(a:Fr F H H'):eA F H' n ad ct:=
 ⟨h.inj,h.out,λt i c=>by
  obtain⟨o,e,r⟩:=h.OP t i c;calc⟨o,a.at e (h.out t i c),r.cv (a.mono λb z=>.inl z).jY⟩⟩
theorem eA.same(h:eA F H n ad ct)(s:au H H'):eA F H' n ad ct:=h.keep s.fr
theorem eA.congr(h:eA F H n ad ct)(e:∀t i,i<n t->ct t i=ct' t i):eA F H n ad ct':=
 ⟨h.inj,h.out,λt i a=>by rw[<-e t i a];calc h.OP t i a⟩
theorem eA.upd(h:eA F H n ad ct){t i:Nat}(a:i<n t){c:CO}{o:HO}(r:OR (jY (λb=>F b\/FP n ad b) H) c o):eA F (upd H (ad t i) o) n ad (setC ct t i c):=by
 have c:(λb=>F b\/FP n ad b) (ad t i):=.inr ⟨t,i,a,rfl⟩;calc⟨h.inj,h.out,λd f g=>?_⟩;rw[M0 c];by_cases e:d=t/\f=i
 ·obtain⟨rfl,rfl⟩:=e;exact⟨o,ab,by unfold setC;rw[if_pos ⟨rfl,rfl⟩];calc r⟩
 ·obtain⟨b,c,i⟩:=h.OP d f g;calc⟨b,?_,by unfold setC;rw[if_neg e];calc i⟩;rw[av (λz=>e (h.inj _ _ _ _ g a z))];calc c
theorem eA.lst(h:eA F H n ad ct){t i:Nat}(c:i<n t){a:List DV}(e:ct t i=.l a):∃vs,H (ad t i)=some (.lst vs)/\fA (jY (λb=>F b\/FP n ad b) H) 4 vs a:=by
 obtain⟨o,d,r⟩:=h.OP t i c;rw[e]at r
 cases o with
 |lst vs=>calc⟨vs,d,r⟩
 |_=>calc r.elim
theorem eA.dct(h:eA F H n ad ct){t i:Nat}(c:i<n t){g:Int->Option DV}{N:Nat}(e:ct t i=.d g N):∃a,H (ad t i)=some (.dK a)/\OR (jY (λb=>F b\/FP n ad b) H) (.d g N) (.dK a):=by
 obtain⟨o,f,r⟩:=h.OP t i c;rw[e]at r
 cases o with
 |dK vs=>calc⟨vs,f,r⟩
 |_=>calc r.elim
theorem eA.app(h:eA F H n ad ct){t i:Nat}(a:i<n t){c:List DV}(e:ct t i=.l c){vs:List V}(f:H (ad t i)=some (.lst vs)){us:List V}{es:List DV}(g:fA (jY (λb=>F b\/FP n ad b) H) 4 us es):
  eA F (L2.upd H (ad t i) (.lst (vs++us))) n ad (setC ct t i (.l (c++es))):=by
 obtain⟨b,d,r⟩:=h.lst a e;rw[f]at d
 cases d;calc h.upd a (show fA _ 4 _ _ from r.app g)
theorem eA.set(h:eA F H n ad ct){t i:Nat}(a:i<n t){c:List DV}(e:ct t i=.l c){vs:List V}(j:H (ad t i)=some (.lst vs)){k:Nat}{v:V}{d:DV}(g:HD (jY (λb=>F b\/FP n ad b) H) 4 v d):
  eA F (L2.upd H (ad t i) (.lst (vs.set k v))) n ad (setC ct t i (.l (c.set k d))):=by
 obtain⟨b,f,r⟩:=h.lst a e;rw[j]at f
 cases f;calc h.upd a (show fA _ 4 _ _ from r.set g k)
theorem OR.soft{c:CO}{o:HO}(h:OR H c o):soft o:=by
 cases c<;>cases o<;>first|trivial|calc aai h
theorem eA.soft(h:eA F H n ad ct){t i:Nat}(a:i<n t):∃o,H (ad t i)=some o/\DD.soft o:=by
 obtain⟨o,e,r⟩:=h.OP t i a;calc⟨o,e,r.soft⟩
theorem eA.fp(h:eA F H n ad ct){b:Addr}(a:FP n ad b):∃o,H b=some o/\DD.soft o:=by
 obtain⟨t,i,c,rfl⟩:=a;calc h.soft c
theorem eA.ne(h:eA F H n ad ct){b:Addr}{o:HO}(e:H b=some o)(c:¬DD.soft o):¬FP n ad b:=λz=>by
 obtain⟨u,a,d⟩:=h.fp z;rw[e]at a;cases a;calc c d
theorem eA.ht(h:eA F H n ad ct)(c:∀b,F b->∃o,H b=some o/\DD.soft o){m:Nat}{x:V}{d:DV}(g:HT H m x d):HD (DD.jY (λb=>F b\/FP n ad b) H) m x d:=by
 calc HT.hd (g.aI λb d e=>?_);rw[gV]
 ·exact e
 ·rintro(z | z)
  ·obtain⟨o,a,f⟩:=c b z;rw[e]at a;cases a;exact f
  ·calc h.ne e id z
end
end DD
namespace DD
open PySem L2
variable {B i:Nat}
def _root_.List.bt{α:Type}(l:List α)(d:α):α:=l.getD (l.length-1) d
theorem getD_at{α:Type}{l:List α}{x d:α}(h:l[i]?=some x):l.getD i d=x:=by rw[aaE,h];rfl
theorem aS{α:Type}{l:List α}{d:α}(h:i<l.length):l[i]?=some (l.getD i d):=by rw[aaE,cF h];rfl
theorem getD_mem{α:Type}{l:List α}{d:α}(h:i<l.length):l.getD i d∈l:=W' (aS h)
theorem tX{α:Type}{l:List α}{x d:α}:(l++[x]).bt d=x:=by
 unfold List.bt;calc getD_at nofun
theorem gn{α:Type}{l:List α}{d:α}(h:1<=l.length):l.bt d∈l:=getD_mem ()
theorem lS{α:Type}{l:List α}{d:α}(h:1<=l.length):l[l.length-1]?=some (l.bt d):=aS ()
structure MS where
 dQ:List (List Int×List Int)
 wp:List (List Int)
 hr:List (List Int)
structure WY where
 say:List Int
 snd:List (Option (Int×Int))
 cD:List (Option (Int×Int))
structure RS where
 picks:List (Int×Int)
 mm:Nat->MS
 ww:Nat->WY
structure NT where
 ms:List MD
 ws:List (Int×Int×Str)
def pairD(p:Int×Int):DV:=.tup [.int p.1,.int p.2]
def nI:Option (Int×Int)->DV
 |none=>.bM
 |some p=>pairD p
def tY(s:List Int×List Int):DV:=zb s.1 s.2
def NT.M(n:NT)(m:Nat):Int:=(n.ms.getD m default).M
def NT.nn(n:NT)(m:Nat):Nat:=(n.ms.getD m default).ns.length
def NT.ds(n:NT)(m:Nat):List bF:=(n.ms.getD m default).ds
def NT.w(n:NT)(w:Nat):Int×Int×Str:=n.ws.getD w (0,0,"")
def NT.outs(n:NT)(m:Int):List Nat:=(List.range n.ws.length).filter λi=>decide ((n.w i).1=m)
def NT.ins(n:NT)(m:Int):List Nat:=(List.range n.ws.length).filter λi=>decide ((n.w i).2.1=m)
def NT.goal(n:NT)(w:Nat):Nat:=(n.w w).2.1.toNat
def NT.place(n:NT)(w:Nat):Nat:=(n.ins (n.w w).2.1).idxOf w
def RS.put(r:RS)(w:Nat)(x:Int)(s:Option (Int×Int)):RS:=
 {r with ww:=λk=>if k=w then⟨(r.ww w).say++[x],(r.ww w).snd++[s],(r.ww w).cD++[none]⟩ else r.ww k}
def RS.send(r:RS)(outs:List Nat)(ev:Int×Int):List (Int×Int)->RS
 | []=>r
 |p::a=>(if p.1.toNat<outs.length then r.put (outs.getD p.1.toNat 0) p.2 (some ev) else r).send outs ev a
def NT.work(n:NT)(r:RS)(w k:Nat):WS:=
 pF (n.M (n.goal w)) (n.place w) ((r.ww w).say.getD k 0) (n.ds (n.goal w)) ((r.mm (n.goal w)).dQ.bt ([],[])).1 ((r.mm (n.goal w)).dQ.bt ([],[])).2
def NT.ev(n:NT)(r:RS)(w:Nat):Int×Int:=((n.goal w:Nat),((r.mm (n.goal w)).dQ.length:Nat))
def NT.iq(n:NT)(r:RS)(w k:Nat):List Int:=
 let m:=n.goal w
 let b:=(r.mm m).hr.bt (List.replicate n.ms.length 0)
 let a:=match (r.ww w).snd.getD k none with
  |none=>b
  |some (s,c)=>List.zipWith max b ((r.mm s.toNat).hr.getD (c-1).toNat [])
 a.set m (n.ev r w).2
def RS.step(n:NT)(r:RS)(w k:Nat):RS:=
 let m:=n.goal w
 let res:=n.work r w k
 {picks:=r.picks++[((w:Int),(k:Int))]
  mm:=λi=>if i=m then⟨(r.mm m).dQ++[(res.ns,res.row)],(r.mm m).wp++[(r.mm m).wp.bt []++res.words],(r.mm m).hr++[n.iq r w k]⟩ else r.mm i
  ww:=λi=>if i=w then {(r.ww w) with cD:=(r.ww w).cD.set k (some (n.ev r w))} else r.ww i}
def RS.pick(n:NT)(r:RS)(w k:Nat):RS:=(r.step n w k).send (n.outs (n.goal w)) (n.ev r w) (n.work r w k).cR
def RS.lA(r:RS):List (Int×Int)->RS
 | []=>r
 |p::a=>(r.put p.1.toNat p.2 none).lA a
def RS.new(n:NT):RS:=⟨[],λm=>⟨[((n.ms.getD m default).ns,(n.ms.getD m default).row)],[[]],[]⟩,λ_=>⟨[],[],[]⟩⟩
def RS.begin(n:NT)(a:List (Int×Int)):RS:=(RS.new n).lA a
def i5(l:List (Option (Int×Int)))(k:Int):Option DV:=if 0<=k then(l.getD k.toNat none).map pairD else none
def RS.ct(r:RS):Nat->Nat->CO
 |0,_=>.l (r.picks.map pairD)
 |1,m=>.l ((r.mm m).dQ.map tY)
 |2,m=>.l ((r.mm m).wp.map λw=>.int (w.length:Nat))
 |3,m=>.l (((r.mm m).wp.bt []).map .int)
 |4,w=>.l ((r.ww w).say.map .int)
 |5,w=>.l ((r.ww w).snd.map nI)
 |_,w=>.l ((r.ww w).cD.map nI)
def NT.n(n:NT):Nat->Nat
 |0=>1
 |1=>n.ms.length
 |2=>n.ms.length
 |3=>n.ms.length
 |4=>n.ws.length
 |5=>n.ws.length
 |6=>n.ws.length
 |_=>0
structure NT.Ok(n:NT):Prop where
 Gf:n.ms.length<=5
 ms1:1<=n.ms.length
 Fb:n.ws.length<=10
 good:∀d∈n.ms,d.good
 ab6:∀w∈n.ws,0<=w.1/\w.1<n.ms.length/\0<=w.2.1/\w.2.1<n.ms.length/\(w.2.2="row"\/w.2.2="heap")
structure M1(M:Int)(nn:Nat)(s:List Int×List Int):Prop where
 ln:s.1.length=nn
 bn:∀z∈s.1,0<=z/\z<M
 lr:s.2.length<=12
structure RS.Ok(n:NT)(r:RS):Prop where
 lw:∀m,m<n.ms.length->(r.mm m).dQ.length=(r.mm m).wp.length
 lh:∀m,m<n.ms.length->(r.mm m).dQ.length=(r.mm m).hr.length+1
 so:∀m,m<n.ms.length->∀s∈(r.mm m).dQ,M1 (n.M m) (n.nn m) s
 hl:∀m,m<n.ms.length->∀h∈(r.mm m).hr,h.length=n.ms.length
 ls:∀w,w<n.ws.length->(r.ww w).say.length=(r.ww w).snd.length
 lk:∀w,w<n.ws.length->(r.ww w).say.length=(r.ww w).cD.length
 sd:∀w,w<n.ws.length->∀s c,some (s,c)∈(r.ww w).snd->0<=s/\s<n.ms.length/\1<=c/\c<=(r.mm s.toNat).hr.length
 bp:∀m,m<n.ms.length->(r.mm m).dQ.length<=r.picks.length+1
 bw:∀m,m<n.ms.length->∀w∈(r.mm m).wp,w.length<=24*r.picks.length
 bs:∀w,w<n.ws.length->(r.ww w).say.length<=20+24*r.picks.length
 Wm:∀m,m<n.ms.length->∀u∈(r.mm m).wp,u <+:(r.mm m).wp.bt []
theorem zf{M way said:Int}{n:Int}:∀(f:Nat) (b:List bF) (s:WS),(∀d∈b,d.ok n)->(∀p∈s.cR,0<=p.1)->∀p∈(zc M way said f b s).cR,0<=p.1
 |0,_,s,_,h=>h
 |f+1,[],s,_,h=>h
 |f+1,d::r,s,c,h=>by
  calc zf f _ _ (λe b=>c e (V' _ (List.mem_of_mem_drop b))) ?_;intro p a;have a:p∈s.cR++iF ((d.vals.map (fT M way said s.ns s.row)).getD 0 0) d:=a;rcases List.mem_append.mp a with a|a
  ·exact h p a
  ·have g:=c d (S' ..)
   cases d with
   |send j v=>
    simp only[iF,List.mem_singleton]at a;subst a;calc g.1
   |_=>simp only[iF,List.not_mem_nil]at a
theorem Df{M way said:Int}:∀(f:Nat) (a:List bF) (s:WS),(zc M way said f a s).cR.length<=s.cR.length+a.length/\(zc M way said f a s).words.length<=s.words.length+a.length/\(zc M way said f a s).ns.length=s.ns.length
 |0,_,s=>⟨aau ..,aau ..,rfl⟩
 |f+1,[],s=>⟨E' _,E' _,rfl⟩
 |f+1,d::r,s=>by
  obtain⟨a,b,c⟩:=Df (M:=M) (way:=way) (said:=said) f (r.drop (nH M way said d s).toNat) (k8 M way said d s);have a:(k8 M way said d s).cR.length<=s.cR.length+1:=by
   show(s.cR++iF _ d).length<=_
   cases d<;>simp[iF]
  have a:(k8 M way said d s).words.length<=s.words.length+1:=by
   show(s.words++gm _ d).length<=_
   cases d<;>simp[gm]
  have a:(k8 M way said d s).ns.length=s.ns.length:=qi;have a:(r.drop (nH M way said d s).toNat).length<=r.length:=by simp
  refine⟨?_,?_,?_⟩
  ·show(zc M way said f _ _).cR.length<=_;simp only[List.length_cons];lia
  ·show(zc M way said f _ _).words.length<=_;simp only[List.length_cons];lia
  ·show(zc M way said f _ _).ns.length=_;lia
theorem Dg{M way said:Int}(c:0<M):∀(f:Nat) (e:List bF) (s:WS),(∀z∈s.ns,0<=z/\z<M)->s.row.length<=12->(∀z∈(zc M way said f e s).ns,0<=z/\z<M)/\(zc M way said f e s).row.length<=12
 |0,_,s,h,g=>⟨h,g⟩
 |f+1,[],s,h,g=>⟨h,g⟩
 |f+1,d::r,s,h,g=>by
  refine Dg c f _ _ ?_ ?_
  ·have b:∀y:Int,0<=y % M/\y % M < M:=λy=>⟨aax _ (),aan _ c⟩
   have a:∀(j:Nat) (y:Int),(0<=y/\y<M)->∀z∈s.ns.set j y,0<=z/\z<M:=λj y k z l=>by
    rcases List.mem_or_eq_of_mem_set l with c|c
    ·exact h z c
    ·rw[c];exact k
   show ∀z∈kd M s.ns ((d.vals.map (fT M way said s.ns s.row)).getD 0 0) d,0<=z/\z<M
   cases d with
   |set i v=>calc a _ _ (b _)
   |add i v=>calc a _ _ (b _)
   |times i v=>calc a _ _ (b _)
   |_=>exact h
  ·show(pD s.row ((d.vals.map (fT M way said s.ns s.row)).getD 0 0) d).length<=12
   cases d with
   |put v=>
    simp only[pD];split
    ·simp;lia
    ·calc g
   |drop=>simp only[pD,List.length_tail];lia
   |_=>calc g
section
variable {n:NT}{r:RS}
theorem NT.Ok.gd(h:n.Ok){m:Nat}(a:m<n.ms.length):(n.ms.getD m default).good:=by
 calc h.good _ (getD_mem a)
theorem NT.Ok.wy(h:n.Ok){w:Nat}(a:w<n.ws.length):0<=(n.w w).1/\(n.w w).1<n.ms.length/\0<=(n.w w).2.1/\(n.w w).2.1<n.ms.length/\((n.w w).2.2="row"\/(n.w w).2.2="heap"):=by
 calc h.ab6 _ (getD_mem a)
theorem NT.Ok.ir(h:n.Ok){w:Nat}(a:w<n.ws.length):n.goal w<n.ms.length:=by
 have:=h.wy a;unfold NT.goal;lia
theorem RS.Ok.vc(h:r.Ok n){m:Nat}(a:m<n.ms.length):1<=(r.mm m).dQ.length:=by rw[h.lh m a];lia
theorem RS.Ok.last(h:r.Ok n){m:Nat}(a:m<n.ms.length):M1 (n.M m) (n.nn m) ((r.mm m).dQ.bt ([],[])):=h.so m a _ (gn (h.vc a))
theorem sD(a:n.Ok)(h:r.Ok n){w:Nat}(c:w<n.ws.length)(k:Nat):M1 (n.M (n.goal w)) (n.nn (n.goal w)) ((n.work r w k).ns,(n.work r w k).row)/\(n.work r w k).cR.length<=24/\(n.work r w k).words.length<=24/\∀p∈(n.work r w k).cR,0<=p.1:=by
 have b:=a.ir c;have g:=a.gd b;have l:=h.last b;have a:(n.ds (n.goal w)).length<=24:=g.d24;have b:0<n.M (n.goal w):=by have:=g.m2;show 0<(n.ms.getD (n.goal w) default).M;lia
 obtain⟨d,e,f⟩:=Df (M:=n.M (n.goal w)) (way:=n.place w) (said:=(r.ww w).say.getD k 0) (n.ds (n.goal w)).length (n.ds (n.goal w)) ⟨((r.mm (n.goal w)).dQ.bt ([],[])).1,((r.mm (n.goal w)).dQ.bt ([],[])).2,[],[]⟩;obtain⟨h,i⟩:=Dg b (way:=n.place w) (said:=(r.ww w).say.getD k 0) (n.ds (n.goal w)).length (n.ds (n.goal w)) ⟨((r.mm (n.goal w)).dQ.bt ([],[])).1,((r.mm (n.goal w)).dQ.bt ([],[])).2,[],[]⟩ l.bn l.lr;have c:=zf (M:=n.M (n.goal w)) (way:=n.place w) (said:=(r.ww w).say.getD k 0) (n:=n.nn (n.goal w)) (n.ds (n.goal w)).length (n.ds (n.goal w)) ⟨((r.mm (n.goal w)).dQ.bt ([],[])).1,((r.mm (n.goal w)).dQ.bt ([],[])).2,[],[]⟩ g.ok (λp b=>by simp at b);refine⟨⟨?_,h,i⟩,?_,?_,c⟩
 ·exact f.trans l.ln
 ·exact aaa d (by simpa using a)
 ·calc aaa e (by simpa using a)
structure RS.uR(n:NT)(r:RS)(B:Nat):Prop where
 lw:∀m,m<n.ms.length->(r.mm m).dQ.length=(r.mm m).wp.length
 lh:∀m,m<n.ms.length->(r.mm m).dQ.length=(r.mm m).hr.length+1
 so:∀m,m<n.ms.length->∀s∈(r.mm m).dQ,M1 (n.M m) (n.nn m) s
 hl:∀m,m<n.ms.length->∀h∈(r.mm m).hr,h.length=n.ms.length
 ls:∀w,w<n.ws.length->(r.ww w).say.length=(r.ww w).snd.length
 lk:∀w,w<n.ws.length->(r.ww w).say.length=(r.ww w).cD.length
 sd:∀w,w<n.ws.length->∀s c,some (s,c)∈(r.ww w).snd->0<=s/\s<n.ms.length/\1<=c/\c<=(r.mm s.toNat).hr.length
 bp:∀m,m<n.ms.length->(r.mm m).dQ.length<=r.picks.length+1
 bw:∀m,m<n.ms.length->∀w∈(r.mm m).wp,w.length<=24*r.picks.length
 bs:∀w,w<n.ws.length->(r.ww w).say.length<=B
 Wm:∀m,m<n.ms.length->∀u∈(r.mm m).wp,u <+:(r.mm m).wp.bt []
theorem RS.uR.ok(h:r.uR n B)(a:B<=20+24*r.picks.length):r.Ok n:=⟨h.lw,h.lh,h.so,h.hl,h.ls,h.lk,h.sd,h.bp,h.bw,λw b=>aaa (h.bs w b) a,h.Wm⟩
theorem RS.uR.put(h:r.uR n B){w:Nat}{x:Int}{s:Option (Int×Int)}(g:∀a c,s=some (a,c)->0<=a/\a<n.ms.length/\1<=c/\c<=(r.mm a.toNat).hr.length):(r.put w x s).uR n (B+1):=by
 have e:∀k,(r.put w x s).ww k=if k=w then⟨(r.ww w).say++[x],(r.ww w).snd++[s],(r.ww w).cD++[none]⟩ else r.ww k:=λk=>rfl
 refine⟨h.lw,h.lh,h.so,h.hl,λv b=>?_,λv b=>?_,λv b a c d=>?_,h.bp,h.bw,λv b=>?_,h.Wm⟩
 ·rw[e];split
  ·next z=>subst z;simp[h.ls v b]
  ·exact h.ls v b
 ·rw[e];split
  ·next z=>subst z;simp[h.lk v b]
  ·exact h.lk v b
 ·rw[e] at d;split at d
  ·next z=>
   subst z;rcases List.mem_append.mp d with d|d
   ·exact h.sd v b a c d
   ·simp at d;exact g a c d.symm
  ·exact h.sd v b a c d
 ·rw[e];split
  ·next z=>subst z;have:=h.bs v b;simp;lia
  ·have:=h.bs v b;lia
theorem RS.uR.mono{a:Nat}(h:r.uR n B)(b:B<=a):r.uR n a:={h with bs:=λw a=>aaa (h.bs w a) b}
theorem RS.uR.send{outs:List Nat}{ev:Int×Int}:∀(b:List (Int×Int)) {r:RS}{B:Nat},r.uR n B->(∀a c,some ev=some (a,c)->0<=a/\a<n.ms.length/\1<=c/\c<=(r.mm a.toNat).hr.length)->(r.send outs ev b).uR n (B+b.length)
 | [],r,B,h,_=>h
 |p::b,r,B,h,d=>by
  show((if p.1.toNat<outs.length then r.put (outs.getD p.1.toNat 0) p.2 (some ev) else r).send outs ev b).uR n _;have e:B+(p::b).length=B+1+b.length:=by simp;lia
  rw[e];split
  ·exact RS.uR.send b (h.put d) d
  ·calc RS.uR.send b (h.mono ()) d
theorem RS.xA{outs:List Nat}{ev:Int×Int}:∀(a:List (Int×Int)) {r:RS},(r.send outs ev a).mm=r.mm/\(r.send outs ev a).picks=r.picks
 | [],r=>⟨rfl,rfl⟩
 |p::a,r=>by
  show((if p.1.toNat<outs.length then r.put (outs.getD p.1.toNat 0) p.2 (some ev) else r).send outs ev a).mm=_/\((if p.1.toNat<outs.length then r.put (outs.getD p.1.toNat 0) p.2 (some ev) else r).send outs ev a).picks=_;split
  ·exact RS.xA a
  ·calc RS.xA a
theorem BD{u v w:List Int}(h:u <+:v):u <+:v++w:=by
 obtain⟨t,rfl⟩:=h;calc⟨t++w,nofun⟩
theorem zg(o:n.Ok)(h:r.Ok n){w:Nat}(j:w<n.ws.length){k:Nat}:(n.iq r w k).length=n.ms.length:=by
 have p:=o.ir j;have m:((r.mm (n.goal w)).hr.bt (List.replicate n.ms.length 0)).length=n.ms.length:=by
  by_cases f:1<=(r.mm (n.goal w)).hr.length
  ·exact h.hl _ p _ (gn f)
  ·have e:(r.mm (n.goal w)).hr=[]:=by
    cases q:(r.mm (n.goal w)).hr with
    |nil=>rfl
    |cons a b=>rw[q]at f;simp at f
   rw[e];simp[List.bt]
 unfold NT.iq;simp only[List.length_set];split
 ·exact m
 ·next s c e=>
  have g:k<(r.ww w).snd.length:=by
   by_cases g:k<(r.ww w).snd.length
   ·exact g
   ·rw[aaE,List.getElem?_eq_none ()]at e;cases e
  have t:some (s,c)∈(r.ww w).snd:=by rw[<-e];exact getD_mem g
  obtain⟨u,v,x,y⟩:=h.sd w j s c t;have:=h.hl s.toNat () _ (getD_mem (l:=(r.mm s.toNat).hr) (i:=(c-1).toNat) (d:=[]) ());rw[List.length_zipWith,m,this];lia
theorem RS.Ok.step(t:n.Ok)(h:r.Ok n){w k:Nat}(p:w<n.ws.length):(r.step n w k).uR n (20+24*r.picks.length):=by
 have g:=t.ir p;obtain⟨A,F,G,H⟩:=sD t h p k;have j:∀i,(r.step n w k).mm i=if i=n.goal w then⟨(r.mm (n.goal w)).dQ++[((n.work r w k).ns,(n.work r w k).row)],(r.mm (n.goal w)).wp++[(r.mm (n.goal w)).wp.bt []++(n.work r w k).words],(r.mm (n.goal w)).hr++[n.iq r w k]⟩ else r.mm i:=λi=>rfl
 have q:∀i,(r.step n w k).ww i=if i=w then {(r.ww w) with cD:=(r.ww w).cD.set k (some (n.ev r w))} else r.ww i:=λi=>rfl
 have x:(r.step n w k).picks.length=r.picks.length+1:=by show(r.picks++[_]).length=_;simp
 refine⟨λm f=>?_,λm f=>?_,λm f s b=>?_,λm f s b=>?_,λv o=>?_,λv o=>?_,λv o a c b=>?_,λm f=>?_,λm f u e=>?_,λv o=>?_,λm f u e=>?_⟩
 ·rw[j];split
  ·simp[h.lw _ g]
  ·exact h.lw m f
 ·rw[j];split
  ·simp[h.lh _ g]
  ·exact h.lh m f
 ·rw[j] at b;split at b
  ·next z=>
   subst z;rcases List.mem_append.mp b with b|b
   ·exact h.so _ g s b
   ·simp at b;subst b;exact A
  ·exact h.so m f s b
 ·rw[j] at b;split at b
  ·rcases List.mem_append.mp b with b | b
   ·exact h.hl _ g s b
   ·simp at b;subst b;exact zg t h p
  ·exact h.hl m f s b
 ·rw[q];split
  ·exact h.ls w p
  ·exact h.ls v o
 ·rw[q];split
  ·simp[h.lk w p]
  ·exact h.lk v o
 ·have B:some (a,c)∈(r.ww v).snd:=by
   rw[q]at b;split at b
   ·next z=>subst z;exact b
   ·exact b
  obtain⟨C,D,E,y⟩:=h.sd v o a c B;calc⟨C,D,E,?_⟩;rw[j];split
  ·next z=>rw[z]at y;simp;lia
  ·exact y
 ·rw[j,x];split
  ·have:=h.bp _ g;simp;lia
  ·have:=h.bp _ f;lia
 ·rw[x];rw[j] at e;split at e
  ·rcases List.mem_append.mp e with e | e
   ·have:=h.bw _ g u e;lia
   ·simp at e;subst e;have:=h.bw _ g _ (gn (l:=(r.mm (n.goal w)).wp) (d:=[]) (by rw[<-h.lw _ g];calc h.vc g));simp;lia
  ·have:=h.bw _ f u e;lia
 ·rw[q];split
  ·exact h.bs w p
  ·exact h.bs v o
 ·rw[j] at e ⊢;split at e
  ·next z=>
   rw[if_pos z];show u <+:((r.mm (n.goal w)).wp++[_]).bt [];rw[tX];rcases List.mem_append.mp e with e|e
   ·exact BD (h.Wm _ g u e)
   ·simp at e;subst e;exact List.prefix_refl _
  ·next z=>rw[if_neg z];calc h.Wm m f u e
theorem RS.Ok.pick(a:n.Ok)(h:r.Ok n){w k:Nat}(b:w<n.ws.length):(r.pick n w k).Ok n/\(r.pick n w k).picks=r.picks++[((w:Int),(k:Int))]:=by
 have d:=a.ir b;obtain⟨c,f,g,i⟩:=sD a h b k;have s:=RS.uR.send (outs:=n.outs (n.goal w)) (ev:=n.ev r w) (n.work r w k).cR (h.step a b (k:=k)) (λa c e=>by
  cases e;refine⟨(),(),?_,?_⟩
  ·have:=h.vc d;lia
  ·have a:(r.step n w k).mm (n.goal w)=⟨(r.mm (n.goal w)).dQ++[((n.work r w k).ns,(n.work r w k).row)],(r.mm (n.goal w)).wp++[(r.mm (n.goal w)).wp.bt []++(n.work r w k).words],(r.mm (n.goal w)).hr++[n.iq r w k]⟩:=if_pos rfl;rw[show((n.goal w:Nat):Int).toNat=n.goal w from Int.toNat_natCast _,a,h.lh _ d];simp)
 have a:=(RS.xA (outs:=n.outs (n.goal w)) (ev:=n.ev r w) (n.work r w k).cR (r:=r.step n w k)).2;calc⟨s.ok ?_,a⟩;rw[a];show _<=20+24*(r.picks++[_]).length;simp;lia
end
end DD
namespace L2
open PySem PySem.Spec PyProof.Rows Builtin Builtin.Str
section
variable {X:Cx}
theorem tZ{i j l:Nat}{x y z:Str}{d e f a:Pos}{k:Nat}(g:X.calm=true)(b:X.N.Nodup)(h:X.N[i]?=some x)(m:X.N[j]?=some y)(n:X.N[l]?=some z)(o:Loc X.env.scope x)(p:Loc X.env.scope y)(q:Loc X.env.scope z)
  (r:X.fn x=true\/X.env.scope.names.lookup x=some .local:=by grind) (s:X.fn y=true\/X.env.scope.names.lookup y=some .local:=by grind) (c:X.fn z=true\/X.env.scope.names.lookup z=some .local:=by grind):
  PG X (.Tuple [.Name x d,.Name y e,.Name z f] k a) (AY X.K 3 (iC (dI i) (iC (dI j) (iC (dI l) AX)))):=AZ g (iD (aO b h o r) (iD (aO b m p s) (iD (aO b n q c) wU)))
theorem Fc{K:W.Frag}{i j l:Nat}{x y z:Str}{c d e a:Pos}{k:Nat}(f:X.K=K)(g:X.calm=true)(h:X.N.Nodup)(m:X.N[i]?=some x)(n:X.N[j]?=some y)(o:X.N[l]?=some z)(p:Loc X.env.scope x)(q:Loc X.env.scope y)(r:Loc X.env.scope z)
  (s:X.fn x=true\/X.env.scope.names.lookup x=some .local:=by grind) (t:X.fn y=true\/X.env.scope.names.lookup y=some .local:=by grind) (b:X.fn z=true\/X.env.scope.names.lookup z=some .local:=by grind):
  PG X (.Tuple [.Name x c,.Name y d,.Name z e] k a) (AY K 3 (iC (dI i) (iC (dI j) (iC (dI l) AX)))):=f▸tZ g h m n o p q r s t b
end
end L2
namespace L2
open PySem PyProof.Rows
theorem Ui{a b:Nat}(h:a+64<b):a+1<b:=by lia
section
variable {X:Cx}
def BE(z:Int):Value->Bool
 | .int i _=>i==z
 |_=>false
theorem t9:∀{ns:List Int}{us:List Value},Vals (ns.map V.int) us->us.length=ns.length/\∀(i:Nat) u z,us[i]?=some u->ns[i]?=some z->∃t,u=.int z t
 | [],_,.nil=>⟨rfl,λi u z h=>by simp at h⟩
 |n::ns,_,.cons r t=>by
  obtain⟨l,h⟩:=t9 t;refine⟨by simp[l],λi u z a b=>?_⟩
  cases i with
  |zero=>simp at a b;subst a b;calc r
  |succ i=>calc h i u z (by simpa using a) (by simpa using b)
def M3:V->List V->Hp->VK->Prop:=λx vs H Q=>∃(a:Addr) (ns:List Int) (j:Nat) (z:Int),x=.ref a/\vs=[.int z]/\H a=some (.lst (ns.map V.int))/\ns[j]?=some z/\(∀i y,i<j->ns[i]?=some y->y≠z)/\Q (.int j) H
theorem v8:VM X "list.index" M3:=by
 intro f s σ H x O v P Q I r D h;obtain⟨a,d,j,z,rfl,rfl,E,l,G,q⟩:=h
 cases r;obtain⟨u,rfl,o,rfl⟩:=D.one;obtain⟨b,r,J,h⟩:=I.list (aM.of E);obtain⟨f,K⟩:=t9 r;have f:j<d.length:=(List.getElem?_eq_some_iff.mp l).1;have p:(d.map V.int).length<=sizeLine:=h;rw[aaC]at p;obtain⟨⟨r,s,f,L⟩,n,w,A,B,e⟩:=id J;simp only at A B e;subst A B e;have f:j<b.length:=by lia
 have c:∀m (g:m<b.length),∃y t,d[m]?=some y/\b[m]=.int y t:=λm g=>by
  have C:m<d.length:=by lia
  obtain⟨t,e⟩:=K m b[m] d[m] nofun nofun;exact⟨d[m],t,nofun,e⟩
 refine call_meets PySem.F.slot_list_index ⟨_,w,rfl⟩ PySem.F.entry_list_index (PySem.F.args_list_index_2 _ _) (SeqAt.list_indexAt a b.toArray n none L (.int z o) (BE z) j (by simpa using f) (by rw[sizeLine_eq]at p;lia) ?_ ?_) ⟨w,λy M=>?_,?_⟩
 ·obtain⟨y,t,i,k⟩:=c j f;rw[l] at i
  cases i;simp[k,BE]
 ·intro m g a;have C:m < b.length:=by simpa using g
  obtain⟨y,t,i,k⟩:=c m C;have:=G m y a i;simp[k,BE,this]
 ·have N:y ∈ b:=by simpa using M
  obtain⟨m,g,rfl⟩:=List.getElem_of_mem N;obtain⟨y,t,i,k⟩:=c m g;rw[k];exact SeqAt.EqAt.int_int y t z o
 ·calc⟨.int _,H,I.tok _,⟨_,rfl⟩,q⟩
end
end L2
namespace L2
open PySem PySem.Spec PyProof.Rows
section
def Wn(K:W.Frag):V->Option Int->Option Int->Hp->VK->Prop:=λx lo b H Q=>match x with
 | .ref a=>∃xs,aM K H a xs/\∀p,H p=none->Q (.ref p) (upd H p (.lst (dG xs lo b)))
 |_=>False
theorem ab8{X:Cx}:VH X (Wn X.K):=by
 intro a s σ H x v b c d e f Q I g i j k h
 cases x<;>first
  |calc(show False from h).elim
  |skip
 obtain⟨l,m,q⟩:=h;calc CL a s σ H _ v b c d e f Q I g i j k ⟨_,l,rfl,m,q⟩
theorem Iq{X:Cx}{e:Expr}{b:TE}{lo c:Option Expr}{d f:TO}{a g:Pos}(he:PE X e b)(h:PO X lo d)(i:PO X c f):PE X (.Subscript e (.Slice lo c none g) a) (T9 (Wn X.K) b d f):=tm ab8 he h i
theorem M4{xs:List V}{i j:Nat}:(dG xs (some (i:Int)) (some (j:Int))).length<=j-i:=by
 unfold dG;rw[show HT.eE xs.length 0 (some (i:Int))=min i xs.length from HT.sx _ _ i,show HT.eE xs.length xs.length (some (j:Int))=min j xs.length from HT.sx _ _ j,List.length_take];calc aaa (Nat.min_le_left _ _) ?_;rcases Nat.le_total xs.length i with h|h
 ·rw[Nat.min_eq_right h,Nat.sub_eq_zero_of_le (Nat.min_le_right _ _)];exact U' _
 ·rw[Nat.min_eq_left h];calc Nat.sub_le_sub_right (Nat.min_le_left _ _) _
theorem M5{xs:List V}{lo a:Option Int}{v:V}(h:v∈dG xs lo a):v∈xs:=List.mem_of_mem_drop (List.mem_of_mem_take h)
end
section
variable {a dx:Addr}{Q:Bool->Hp->Prop}{X:Cx}{H:Hp}{f:Str}{v:V}{K:W.Frag}
theorem fld{C:Addr}{b:List (Str×V)}{Q:V->Prop}(h:H a=some (.ins C dx b))(c:uW K C)(n:cH K C f)(l:b.lookup f=some v)(q:Q v):∃e d j g i,V.ref a=.ref e/\H e=some (.ins d j g)/\uW K d/\cH K d f/\g.lookup f=some i/\Q i:=⟨a,C,dx,b,v,rfl,h,c,n,l,q⟩
theorem mth{C:Addr}{b:List (Str×V)}{Q:Addr->Prop}(h:H a=some (.ins C dx b))(l:b.lookup f=none)(q:Q a):∃c e d,V.ref a=.ref c/\H c=some (.ins C e d)/\d.lookup f=none/\Q c:=⟨a,dx,b,rfl,h,l,q⟩
theorem fL{C:Addr}{b:List (Str×V)}{Q:V->Prop}(h:H a=some (.ins C dx b))(c:uW K C)(n:cH K C f)(l:b.lookup f=some v)(q:Q v):∃e d j g i,a=e/\H e=some (.ins d j g)/\uW K d/\cH K d f/\g.lookup f=some i/\Q i:=⟨a,C,dx,b,v,rfl,h,c,n,l,q⟩
theorem gM{C:Addr}{b:List (Str×V)}{Q:Addr->Prop}(h:H a=some (.ins C dx b))(l:b.lookup f=none)(q:Q a):∃c e d,a=c/\H c=some (.ins C e d)/\d.lookup f=none/\Q c:=⟨a,dx,b,rfl,h,l,q⟩
theorem uS{x y:V}{P:V->V->Prop}(h:bG K H a [x,y])(q:P x y):∃b xs,V.ref a=.ref b/\bG K H b xs/\xs.length=2/\∃v r,xs=v::r/\∃c d,r=c::d/\d=[]/\P v c:=⟨a,_,rfl,h,rfl,_,_,rfl,_,_,rfl,rfl,q⟩
theorem un3{x y z:V}{P:V->V->V->Prop}(h:bG K H a [x,y,z])(q:P x y z):∃d xs,V.ref a=.ref d/\bG K H d xs/\xs.length=3/\∃v r,xs=v::r/\∃e f,r=e::f/\∃b c,f=b::c/\c=[]/\P v e b:=⟨a,_,rfl,h,rfl,_,_,rfl,_,_,rfl,_,_,rfl,rfl,q⟩
theorem gN{A B R:Prop}(a:A)(b:B)(r:R):A/\B/\R:=⟨a,b,r⟩
theorem bC{α:Type}{A R:α->Prop}(x:α)(a:A x)(r:R x):∃x,A x/\R x:=⟨x,a,r⟩
theorem iu{α:Type}{A B R:α->Prop}(x:α)(a:A x)(b:B x)(r:R x):∃x,A x/\B x/\R x:=⟨x,a,b,r⟩
theorem M6{α:Type}{A B C R:α->Prop}(x:α)(a:A x)(b:B x)(ch:C x)(r:R x):∃x,A x/\B x/\C x/\R x:=⟨x,a,b,ch,r⟩
theorem zh{α β:Type}{A R:α->β->Prop}(x:α)(y:β)(a:A x y)(r:R x y):∃x y,A x y/\R x y:=⟨x,y,a,r⟩
theorem cy{α β:Type}{A B R:α->β->Prop}(x:α)(y:β)(a:A x y)(b:B x y)(r:R x y):∃x y,A x y/\B x y/\R x y:=⟨x,y,a,b,r⟩
theorem ua{α β:Type}{A B C R:α->β->Prop}(x:α)(y:β)(a:A x y)(b:B x y)(ch:C x y)(r:R x y):∃x y,A x y/\B x y/\C x y/\R x y:=⟨x,y,a,b,ch,r⟩
theorem lT{α β:Type}{A B C D R:α->β->Prop}(x:α)(y:β)(a:A x y)(b:B x y)(ch:C x y)(c:D x y)(r:R x y):∃x y,A x y/\B x y/\C x y/\D x y/\R x y:=⟨x,y,a,b,ch,c,r⟩
theorem ab9{α β γ:Type}{A B R:α->β->γ->Prop}(x:α)(y:β)(z:γ)(a:A x y z)(b:B x y z)(r:R x y z):∃x y z,A x y z/\B x y z/\R x y z:=⟨x,y,z,a,b,r⟩
theorem Wo{α β γ:Type}{A B C R:α->β->γ->Prop}(x:α)(y:β)(z:γ)(a:A x y z)(b:B x y z)(ch:C x y z)(r:R x y z):∃x y z,A x y z/\B x y z/\C x y z/\R x y z:=⟨x,y,z,a,b,ch,r⟩
theorem fM{α β γ δ:Type}{A B R:α->β->γ->δ->Prop}(x:α)(y:β)(z:γ)(u:δ)(a:A x y z u)(b:B x y z u)(r:R x y z u):∃x y z u,A x y z u/\B x y z u/\R x y z u:=⟨x,y,z,u,a,b,r⟩
theorem aca{α β γ δ:Type}{A B C R:α->β->γ->δ->Prop}(x:α)(y:β)(z:γ)(u:δ)(a:A x y z u)(b:B x y z u)(ch:C x y z u)(r:R x y z u):∃x y z u,A x y z u/\B x y z u/\C x y z u/\R x y z u:=⟨x,y,z,u,a,b,ch,r⟩
theorem Wq{α β γ δ:Type}{A B C D R:α->β->γ->δ->Prop}(x:α)(y:β)(z:γ)(u:δ)(a:A x y z u)(b:B x y z u)(ch:C x y z u)(c:D x y z u)(r:R x y z u):∃x y z u,A x y z u/\B x y z u/\C x y z u/\D x y z u/\R x y z u:=⟨x,y,z,u,a,b,ch,c,r⟩
theorem BG{α β γ δ:Type}{A B C D E R:α->β->γ->δ->Prop}(x:α)(y:β)(z:γ)(u:δ)(a:A x y z u)(b:B x y z u)(ch:C x y z u)(c:D x y z u)(d:E x y z u)(r:R x y z u):∃x y z u,A x y z u/\B x y z u/\C x y z u/\D x y z u/\E x y z u/\R x y z u:=⟨x,y,z,u,a,b,ch,c,d,r⟩
theorem acb{α β γ δ:Type}{A B C D E F R:α->β->γ->δ->Prop}(x:α)(y:β)(z:γ)(u:δ)(a:A x y z u)(b:B x y z u)(ch:C x y z u)(c:D x y z u)(d:E x y z u)(e:F x y z u)(r:R x y z u):∃x y z u,A x y z u/\B x y z u/\C x y z u/\D x y z u/\E x y z u/\F x y z u/\R x y z u:=⟨x,y,z,u,a,b,ch,c,d,e,r⟩
theorem acd{α β γ δ ε:Type}{A B C D R:α->β->γ->δ->ε->Prop}(x:α)(y:β)(z:γ)(u:δ)(v:ε)(a:A x y z u v)(b:B x y z u v)(ch:C x y z u v)(c:D x y z u v)(r:R x y z u v):∃x y z u v,A x y z u v/\B x y z u v/\C x y z u v/\D x y z u v/\R x y z u v:=⟨x,y,z,u,v,a,b,ch,c,r⟩
theorem ace{α β γ δ ε:Type}{A B C D E R:α->β->γ->δ->ε->Prop}(x:α)(y:β)(z:γ)(u:δ)(v:ε)(a:A x y z u v)(b:B x y z u v)(ch:C x y z u v)(c:D x y z u v)(d:E x y z u v)(r:R x y z u v):∃x y z u v,A x y z u v/\B x y z u v/\C x y z u v/\D x y z u v/\E x y z u v/\R x y z u v:=⟨x,y,z,u,v,a,b,ch,c,d,r⟩
theorem Wr{α β γ δ ε:Type}{A B C D E F R:α->β->γ->δ->ε->Prop}(x:α)(y:β)(z:γ)(u:δ)(v:ε)(a:A x y z u v)(b:B x y z u v)(ch:C x y z u v)(c:D x y z u v)(d:E x y z u v)(e:F x y z u v)(r:R x y z u v):∃x y z u v,A x y z u v/\B x y z u v/\C x y z u v/\D x y z u v/\E x y z u v/\F x y z u v/\R x y z u v:=⟨x,y,z,u,v,a,b,ch,c,d,e,r⟩
theorem PE.imp{e:Expr}{t u:TE}(h:PE X e t)(i:∀σ H Q,u σ H Q->t σ H Q):PE X e u:=⟨λp s σ H Q I q=>h.out p s σ H Q I (i σ H Q q)⟩
def tV(i:Nat):TE:=λσ H Q=>match σ[i]? with
 |some (some v)=>Q v H
 |_=>False
theorem RA{i:Nat}(σ:St)(H:Hp)(Q:VK)(h:tV i σ H Q):Gx i σ H Q:=by
 unfold tV at h;split at h
 ·exact⟨_,by assumption,h⟩
 ·calc h.elim
def bB(Q:Bool->Hp->Prop):V->Hp->Prop
 | .bl k,H=>Q k H
 |_,_=>False
theorem RB{Q:Bool->Hp->Prop}{x:V}{H:Hp}(h:bB Q x H):∃k,x=.bl k/\Q k H:=by
 cases x with
 |bl k=>calc⟨k,rfl,h⟩
 |_=>calc h.elim
theorem Ws{k:Bool}:bB Q (.bl k) H=Q k H:=rfl
theorem ke{k:Bool}(h:Q k H):bB Q (.bl k) H:=h
def tT(t:TE):TT:=λσ H Q=>t σ H (bB Q)
theorem Wt:bB Q=λx H=>∃k,x=.bl k/\Q k H:=by
 funext x H;calc propext ⟨RB,?_⟩;rintro⟨k,rfl,h⟩;calc h
theorem OS:tT=CC:=by
 funext t σ H Q;show t σ H (bB Q)=_;rw[Wt];rfl
theorem RC:tT=tB:=OS
section
variable {X:Cx}{a b:Expr}{ta tb:TE}{pos:Pos}
theorem aB{c:CmpOp}{r:R2}(d:gK X (compareOp c) r)(e:PE X a ta)(f:PE X b tb)(g:behindInMarks c b=false):PT X (.Compare a [c] [b] pos) (tT (AI r ta tb)):=by
 rw[OS];calc su d e f g
theorem bg{e:Expr}{t:TE}(h:PE X e t)(he:∀a,PySem.isTrue e X.env a=(do let v <-a;standAt e.pos;holding [v] (truthy v)):=by intro _;rfl):PT X e (tT t):=by
 rw[RC];calc Qv h he
theorem aq(i:Nat){x:Str}{pos:Pos}(a:X.N[i]?=some x:=by rfl)(b:Vn X.env.scope x:=by first|calc Or.inl rfl|calc Or.inr (Or.inl rfl)|calc Or.inr (Or.inr rfl))(c:(x==("__debug__":Str))=false:=by decide)
  (d:(x==("__classdict__":Str))=false:=by decide):PE X (.Name x pos) (tV i):=(Gy a b c d).imp RA
end
section
variable {K:W.Frag}{H:Hp}{Q:VK}{i j:Int}{s t:Str}{a b:Addr}
def RD(K:W.Frag):R2:=λx y H Q=>match x,y with
 | .int i,.int j=>Q (.bl (decide (i=j))) H
 | .str s,.str t=>Q (.bl (decide (s=t))) H
 |x,y=>Rg K x y H Q
def Wu(K:W.Frag):R2:=λx y H Q=>match x,y with
 | .int i,.int j=>Q (.bl (!decide (i=j))) H
 | .str s,.str t=>Q (.bl (!decide (s=t))) H
 |x,y=>Ug K x y H Q
theorem Ir:RD K (.int i) (.int j) H Q=Q (.bl (decide (i=j))) H:=rfl
theorem Iu:RD K (.str s) (.str t) H Q=Q (.bl (decide (s=t))) H:=rfl
theorem Iw:RD K (.ref a) (.ref b) H Q=((j8 K H 20 (.ref a) (.ref b)/\Q (.bl true) H)\/(tK K H a b/\Q (.bl false) H)):=rfl
theorem Iy:Wu K (.int i) (.int j) H Q=Q (.bl (!decide (i=j))) H:=rfl
theorem Iz:Wu K (.str s) (.str t) H Q=Q (.bl (!decide (s=t))) H:=rfl
theorem IA:Wu K (.ref a) (.ref b) H Q=((j8 K H 20 (.ref a) (.ref b)/\Q (.bl false) H)\/(tK K H a b/\Q (.bl true) H)):=rfl
theorem IB:RD K=Rg K:=by
 funext x y H Q
 cases x<;>cases y<;>first|rfl|calc xl.symm|calc xm.symm
theorem RE:Wu K=Ug K:=by
 funext x y H Q
 cases x<;>cases y<;>first|rfl|calc xn.symm|calc xo.symm
theorem bb(a:X.A.units+64<cLine):gK X (compareOp .Eq) (RD X.K):=IB▸Hx a
theorem eX(a:X.A.units+64<cLine):gK X (compareOp .NotEq) (Wu X.K):=RE▸Bs a
theorem lU(a:X.K=K)(b:X.A.units+64<cLine):gK X (compareOp .Eq) (RD K):=IB▸MU a b
end
theorem HT.ck{n:Nat}{i:Int}(h:HT H n v (.int i)):v=.int i:=by
 cases h;rfl
theorem HT.cT{n:Nat}{s:Str}(h:HT H n v (.str s)):v=.str s:=by
 cases h;rfl
theorem HD.ck{n:Nat}{i:Int}(h:HD H n v (.int i)):v=.int i:=by
 cases h;rfl
theorem HD.cT{n:Nat}{s:Str}(h:HD H n v (.str s)):v=.str s:=by
 cases h;rfl
end
end L2
namespace DD
open PySem L2
variable {x:Int}{e:Int×Int}{u:Nat}{s:Option (Int×Int)}
def ub(r:RS):Nat->Nat
 |0=>0
 |W+1=>ub r W+(r.ww W).cD.countP Option.isSome
structure RS.Iv(n:NT)(r:RS):Prop where
 ev:∀(w k:Nat) (m c:Int),w<n.ws.length->(r.ww w).cD[k]?=some (some (m,c))->0<=m/\m<n.ms.length/\c<(r.mm m.toNat).dQ.length
 inj:∀(w k w' k':Nat) (e:Int×Int),w<n.ws.length->w'<n.ws.length->(r.ww w).cD[k]?=some (some e)->(r.ww w').cD[k']?=some (some e)->w=w'/\k=k'
 pk:∀p∈r.picks,∃w k:Nat,∃e,p=((w:Int),(k:Int))/\w<n.ws.length/\(r.ww w).cD[k]?=some (some e)
 cnt:ub r n.ws.length=r.picks.length
theorem qj{r a:RS}:∀{W:Nat},(∀w,w<W->(a.ww w).cD.countP Option.isSome=(r.ww w).cD.countP Option.isSome)->ub a W=ub r W
 |0,_=>rfl
 |W+1,h=>by rw[ub,ub,qj λw a=>h w (),h W ()]
theorem zi{r:RS}:∀{W V:Nat},V<=W->ub r V<=ub r W
 |0,V,h=>Nat.le_of_eq (by rw[Nat.le_zero.mp h])
 |W+1,V,h=>by
  by_cases e:V=W+1
  ·rw[e];exact E' _
  ·calc aaa (zi (W:=W) ()) (aau _ _)
theorem IC{r a:RS}{w:Nat}(c:(a.ww w).cD.countP Option.isSome=(r.ww w).cD.countP Option.isSome+1)(b:∀u,u≠w->a.ww u=r.ww u):∀{W:Nat},w<W->ub a W=ub r W+1
 |0,h=>absurd h (aas _)
 |W+1,h=>by
  by_cases e:w=W
  ·subst e;have d:ub a w=ub r w:=qj λu a=>by rw[b u ()]
   rw[ub,ub,c,d];lia
  ·rw[ub,ub,IC c b (W:=W) (),b W (λz=>e z.symm)];lia
theorem Fd{l:List (Option (Int×Int))}{k:Nat}:(l++[none])[k]?=some (some e)↔l[k]?=some (some e):=by
 by_cases h:k<l.length
 ·rw[aaH h]
 ·rw[aaG (),List.getElem?_eq_none (l:=l) ()];constructor
  ·intro z
   cases a:k-l.length with
   |zero=>rw[a]at z;simp at z
   |succ j=>rw[a]at z;simp at z
  ·intro z;cases z
section
variable {n:NT}{r:RS}
theorem ID{w:Nat}:((r.put w x s).ww u).cD=if u=w then(r.ww w).cD++[none] else(r.ww u).cD:=by
 show(if u=w then _ else _:WY).cD=_;split<;>rfl
theorem kn{w:Nat}{k:Nat}:((r.put w x s).ww u).cD[k]?=some (some e)↔(r.ww u).cD[k]?=some (some e):=by
 rw[ID];split
 ·next z=>subst z;exact Fd
 ·calc Iff.rfl
theorem M7{w:Nat}{W:Nat}:ub (r.put w x s) W=ub r W:=qj λu _=>by
 rw[ID];split
 ·next z=>subst z;simp
 ·rfl
theorem RS.Iv.put(h:r.Iv n){w:Nat}{x:Int}{s:Option (Int×Int)}:(r.put w x s).Iv n:=
  ⟨λu k m c a f=>h.ev u k m c a (kn.mp f),λu k g i e a j b d=>h.inj u k g i e a j (kn.mp b) (kn.mp d),
   λp a=>let ⟨u,k,e,b,d,c⟩:=h.pk p a;⟨u,k,e,b,d,kn.mpr c⟩,M7.trans h.cnt⟩
theorem RS.Iv.send{outs:List Nat}{ev:Int×Int}:∀(a:List (Int×Int)) {r:RS},r.Iv n->(r.send outs ev a).Iv n
 | [],r,h=>h
 |p::a,r,h=>by
  show((if p.1.toNat<outs.length then r.put (outs.getD p.1.toNat 0) p.2 (some ev) else r).send outs ev a).Iv n;split
  ·exact RS.Iv.send a h.put
  ·calc RS.Iv.send a h
theorem RS.Iv.lA:∀(a:List (Int×Int)) {r:RS},r.Iv n->(r.lA a).Iv n
 | [],r,h=>h
 |p::a,r,h=>RS.Iv.lA a h.put
theorem RS.Iv.begin{a:List (Int×Int)}:(RS.begin n a).Iv n:=
 RS.Iv.lA a ⟨λw k m c _ h=>by simp[RS.new] at h,λw k a b e _ _ h=>by simp[RS.new] at h,λp a=>absurd a List.not_mem_nil,by
  have:∀W,ub (RS.new n) W=0:=λW=>by
   induction W with
   |zero=>rfl
   |succ W a=>rw[ub,a];rfl
  calc this _⟩
theorem Dh:∀{l:List (Option (Int×Int))}{k:Nat}{e:Int×Int},l[k]?=some none->(l.set k (some e)).countP Option.isSome=l.countP Option.isSome+1
 | [],k,e,h=>by simp at h
 |a::l,0,e,h=>by
  simp at h;subst h;simp
 |a::l,k+1,e,h=>by
  have:=Dh (l:=l) (k:=k) (e:=e) (by simpa using h);rw[List.set_cons_succ,List.countP_cons,List.countP_cons,this];lia
theorem Di{w k:Nat}:((r.step n w k).ww u).cD=if u=w then(r.ww w).cD.set k (some (n.ev r w)) else(r.ww u).cD:=by
 show(if u=w then _ else _:WY).cD=_;split<;>rfl
theorem iG{w k j:Nat}(b:(r.ww w).cD[k]?=some none):((r.step n w k).ww u).cD[j]?=some (some e)↔(u=w/\j=k/\e=n.ev r w)\/(r.ww u).cD[j]?=some (some e):=by
 have c:k<(r.ww w).cD.length:=(List.getElem?_eq_some_iff.mp b).1;rw[Di];split
 ·next z=>
  subst z;by_cases a:j=k
  ·subst a;rw[List.getElem?_set_self c,b];constructor
   ·intro z;cases z;exact .inl ⟨rfl,rfl,rfl⟩
   ·rintro(⟨_,_,rfl⟩ | z)
    ·rfl
    ·cases z
  ·rw[List.getElem?_set_ne (λz=>a z.symm)];exact⟨.inr,λz=>z.elim (λq=>absurd q.2.1 a) id⟩
 ·next z=>calc⟨.inr,λq=>q.elim (λq=>absurd q.1 z) id⟩
theorem zj{w k:Nat}{m:Nat}:((r.step n w k).mm m).dQ.length=(r.mm m).dQ.length+if m=n.goal w then 1 else 0:=by
 show(if m=n.goal w then _ else _:MS).dQ.length=_;split
 ·next z=>subst z;simp
 ·simp
theorem RS.Iv.step(h:r.Iv n)(z:n.Ok){w k:Nat}(x:w<n.ws.length)(l:(r.ww w).cD[k]?=some none):(r.step n w k).Iv n:=by
 have K:=z.ir x;refine⟨λu j m c g t=>?_,λu j B C e g y o q=>?_,λp i=>?_,?_⟩
 ·rcases(iG l).mp t with⟨_,_,e⟩ | t
  ·cases e;calc⟨(),(),?_⟩;rw[Int.toNat_natCast,zj,if_pos rfl];lia
  ·obtain⟨a,b,d⟩:=h.ev u j m c g t;calc⟨a,b,?_⟩;rw[zj];split<;>lia
 ·have v:∀{u j:Nat},u<n.ws.length->(r.ww u).cD[j]?=some (some (n.ev r w))->False:=λ{u j} g t=>by
   obtain⟨_,_,d⟩:=h.ev u j _ _ g t;rw[Int.toNat_natCast]at d;lia
  rcases(iG l).mp o with⟨F,G,I⟩|o<;>rcases(iG l).mp q with⟨a,b,J⟩|q
  ·exact⟨F.trans a.symm,G.trans b.symm⟩
  ·subst I;exact(v y q).elim
  ·subst J;exact(v g o).elim
  ·exact h.inj u j B C e g y o q
 ·have i:p ∈ r.picks++[((w:Int),(k:Int))]:=i;rcases List.mem_append.mp i with i | i
  ·obtain⟨u,j,e,o,q,a⟩:=h.pk p i;exact⟨u,j,e,o,q,(iG l).mpr (.inr a)⟩
  ·simp at i;exact⟨w,k,_,i,x,(iG l).mpr (.inl ⟨rfl,rfl,rfl⟩)⟩
 ·have a:((r.step n w k).ww w).cD.countP Option.isSome=(r.ww w).cD.countP Option.isSome + 1:=by rw[Di,if_pos rfl,Dh l]
  have b:∀u,u≠w->(r.step n w k).ww u=r.ww u:=λu g=>if_neg g;rw[IC a b x,h.cnt];show _=(r.picks++[_]).length;simp
theorem RS.Iv.pick(h:r.Iv n)(a:n.Ok){w k:Nat}(b:w<n.ws.length)(c:(r.ww w).cD[k]?=some none):(r.pick n w k).Iv n:=RS.Iv.send _ (h.step a b c)
variable {H H':Hp}{bf:List (List Key×V)}{w k:Nat}
end
end DD
namespace DD
open PySem L2
end DD
set_option maxHeartbeats 400000
namespace L2
open PySem PySem.Spec PyProof.Rows
section
section
variable {X:Cx}{o e:Expr}{es:List Expr}{to:TE}{t:TA}{apos p pos:Pos}{C:Addr}{m x:Str}{k j:Nat}{ps:List Str}{sp:Sp}{E:XK}
end
end
section
end
end L2
namespace L2
open PySem PySem.Spec PyProof.Rows
end L2
set_option maxHeartbeats 4000000
namespace L2
open PySem PySem.W PyProof.Rows
variable {p:Array Nat}{i:Nat}
structure vd(n:Nat)(lt:Nat->Nat->Bool):Prop where
 as:∀i j,lt i j=true->lt j i=false
 tr:∀i j k,lt i j=true->lt j k=true->lt i k=true
 tot:∀i j,i<n->j<n->i≠j->lt i j=false->lt j i=true
def xB(n:Nat)(c:Nat->Nat->Bool){α:Type}(t:KasT α)(Q:α->Prop):Prop:=
 ∀(b:Nat->Nat->(Bool->Shared->Prop)->Shared->Prop) (G:α->Shared->Prop) (s:Shared),(∀i j C,i<n->j<n->C (c i j) s->b i j C s)->(∀a,Q a->G a s)->t.kasWp b G s
section
variable {n:Nat}{lt:Nat->Nat->Bool}{α β:Type}
theorem xB.ret{a:α}{Q:α->Prop}(h:Q a):xB n lt (.ret a) Q:=λ_ _ _ _ b=>b a h
theorem xB.ask{j:Nat}{k:Bool->KasT α}{Q:α->Prop}(c:i<n)(d:j<n)(h:xB n lt (k (lt i j)) Q):xB n lt (.ask i j k) Q:=λa G s b e=>b i j _ c d (h a G s b e)
theorem xB.bind{t:KasT α}{f:α->KasT β}{R:α->Prop}{Q:β->Prop}(h:xB n lt t R)(d:∀a,R a->xB n lt (f a) Q):xB n lt (t.bind f) Q:=λb G s c e=>by
 rw[KasT.kasWp_bind];calc h b _ s c λa f=>d a f b G s c e
theorem xB.mono{t:KasT α}{R Q:α->Prop}(h:xB n lt t R)(c:∀a,R a->Q a):xB n lt t Q:=λb G s d e=>h b G s d λa f=>e a (c a f)
def PP(n:Nat)(p:Array Nat):Prop:=p.Perm (List.range n).toArray
theorem PP.size(h:PP n p):p.size=n:=by have:=h.size_eq;simpa using this
theorem PP.get(h:PP n p){i:Nat}(a:i<n):p[i]?=some (p.getD i 0):=by
 have:=h.size;rw[Array.getD_eq_getD_getElem?,Array.getElem?_eq_getElem ()];rfl
theorem PP.AN(h:PP n p){i:Nat}(a:i<n):p.getD i 0<n:=by
 have e:=h.get a;have m:p.getD i 0∈p:=Array.mem_of_getElem? e;have:=h.mem_iff.mp m;simpa using this
theorem PP.inj(h:PP n p){i j:Nat}(b:i<n)(d:j<n)(f:i≠j):p.getD i 0≠p.getD j 0:=λe=>by
 have g:p.toList.Nodup:=(h.toList).nodup_iff.mpr (by simpa using List.nodup_range);have a:=h.get b;have c:=h.get d;rw[<-Array.getElem?_toList]at a c;rw[e,<-c]at a;calc f ((List.getElem?_inj (by have:=h.size;simpa[this] using b) g).mp a)
def SS(lt:Nat->Nat->Bool)(p:Array Nat)(k:Nat):Prop:=∀i j,i<j->j<k->lt (p.getD i 0) (p.getD j 0)=true
def SD(lt:Nat->Nat->Bool)(p:Array Nat)(k:Nat):Prop:=∀i j,i<j->j<k->lt (p.getD j 0) (p.getD i 0)=true
theorem SS.succ(a:vd n lt){p:Array Nat}{k:Nat}(h:SS lt p k)(b:1<=k)(e:lt (p.getD (k-1) 0) (p.getD k 0)=true):SS lt p (k+1):=λi j b c=>by
 by_cases z:j<k
 ·exact h i j b z
 ·obtain rfl:j=k:=by lia
  by_cases y:i=j-1
  ·rw[y];exact e
  ·calc a.tr _ _ _ (h i (j-1) () ()) e
theorem SD.succ(a:vd n lt){p:Array Nat}{k:Nat}(h:SD lt p k)(b:1<=k)(e:lt (p.getD k 0) (p.getD (k-1) 0)=true):SD lt p (k+1):=λi j b c=>by
 by_cases z:j<k
 ·exact h i j b z
 ·obtain rfl:j=k:=by lia
  by_cases y:i=j-1
  ·rw[y];exact e
  ·calc a.tr _ _ _ e (h i (j-1) () ())
theorem BH(l:vd n lt){p:Array Nat}(g:PP n p):∀(f k:Nat),1<=k->k+f<=n->SS lt p k->xB n lt (kas_asc p f k) λm=>k<=m/\m<=k+f/\SS lt p m/\(m<k+f->lt (p.getD m 0) (p.getD (m-1) 0)=true)
 |0,k,o,_,h=>.ret ⟨E' _,E' _,h,λz=>absurd z (aaj _)⟩
 |f+1,k,o,a,h=>by
  unfold kas_asc;refine .ask (g.AN ()) (g.AN ()) ?_
  cases e:lt (p.getD k 0) (p.getD (k-1) 0) with
  |true=>
   rw[if_pos rfl];calc .ret ⟨E' _,(),h,λ_=>e⟩
  |false=>
   rw[if_neg ∅];have q:=l.tot _ _ (g.AN ()) (g.AN ()) (g.inj (i:=k) (j:=k-1) () () ()) e;calc(BH l g f (k+1) () () (h.succ l o q)).mono λm ⟨a,b,c,d⟩=>⟨(),(),c,λz=>d ()⟩
theorem Dj(o:vd n lt){p:Array Nat}(l:PP n p):∀(f k:Nat),1<=k->k+f<=n->SD lt p k->xB n lt (kas_desc f p k 0) λr=>r.1=p/\k<=r.2.1/\r.2.1<=k+f/\r.2.2=0/\SD lt p r.2.1
 |0,k,q,_,h=>.ret ⟨rfl,E' _,E' _,rfl,h⟩
 |f+1,k,q,a,h=>by
  unfold kas_desc;refine .ask (l.AN ()) (l.AN ()) ?_
  cases e:lt (p.getD k 0) (p.getD (k-1) 0) with
  |true=>
   rw[if_pos rfl,if_neg ()];calc(Dj o l f (k+1) () () (h.succ o q e)).mono λm ⟨a,b,c,d,g⟩=>⟨a,(),(),d,g⟩
  |false=>
   rw[if_neg ∅];have a:=o.tot _ _ (l.AN ()) (l.AN ()) (l.inj (i:=k) (j:=k-1) () () ()) e;calc .ask (l.AN ()) (l.AN ()) ?_;rw[a,if_pos rfl];calc .ret ⟨rfl,E' _,aau _ _,rfl,h⟩
theorem IE{k:Nat}(a:PP n p)(c:k<=n)(b:i<k):(kas_rev p 0 k).getD i 0=p.getD (k-1-i) 0:=by
 have c:=a.size;unfold kas_rev;rw[Array.getD_eq_getD_getElem?,getElem?_mirror_all (),if_pos ⟨U' _,b⟩,Nat.zero_add,<-Array.getD_eq_getD_getElem?]
theorem IF{j:Nat}(a:PP n p):PP n (kas_rev p i j):=(mirror_perm _ _ _ _).trans a
theorem IG(a:vd n lt){p:Array Nat}(d:PP n p){k:Nat}(b:1<=k)(e:k<=n)(h:SD lt p k):xB n lt (kas_tail3 k n p) λr=>1<=r.1/\r.1<=n/\PP n r.2/\SS lt r.2 r.1:=by
 unfold kas_tail3;calc .bind (BH a (IF (i:=0) (j:=k) d) (n-k) k b () λi j a f=>?_) λm ⟨a,b,c,_⟩=>.ret ⟨(),(),IF d,c⟩;rw[IE d e (),IE d e f];calc h _ _ () ()
theorem IH(g:vd n lt){p:Array Nat}(f:PP n p)(a:1<=n):xB n lt (kas_count n p) λr=>1<=r.1/\r.1<=n/\PP n r.2/\SS lt r.2 r.1:=by
 unfold kas_count;calc .bind (BH g f (n-1) 1 (E' _) () λi j k l=>by lia) λm o=>?_;obtain⟨a,b,c,d⟩:=o;by_cases b:m=n
 ·rw[if_pos (by simpa using b)];exact .ret ⟨a,(),f,c⟩
 ·rw[if_neg (by simpa using b)];by_cases h:m > 1
  ·rw[if_pos h];calc .ask (f.AN ()) (f.AN ()) ?_;rw[c 0 (m-1) () (),if_pos rfl];exact .ret ⟨a,(),f,c⟩
  ·rw[if_neg h];obtain rfl:m=1:=by lia
   unfold kas_descPart;refine .bind (Dj g f (n-(1+1)) (1+1) () () λi j k l=>?_) λr ⟨e,a,b,c,q⟩=>?_
   ·obtain⟨rfl,rfl⟩:i=0/\j=1:=by lia
    exact d ()
   ·rw[if_neg (),e];calc IG g f () () q
theorem uc(b:vd n lt){p:Array Nat}(a:PP n p){k:Nat}(c:k<n)(d:SS lt p k):∀(f l r:Nat),l<=r->r<=k->r-l<=f->(∀i,i<l->lt (p.getD i 0) (p.getD k 0)=true)->(∀i,r<=i->i<k->lt (p.getD k 0) (p.getD i 0)=true)->xB n lt (kas_place p k f l r) λm=>m<=k/\(∀i,i<m->lt (p.getD i 0) (p.getD k 0)=true)/\(∀i,m<=i->i<k->lt (p.getD k 0) (p.getD i 0)=true)
 |0,l,r,e,g,q,h,o=>by
  obtain rfl:l=r:=by lia
  calc .ret ⟨g,h,o⟩
 |f+1,l,r,e,g,q,h,o=>by
  unfold kas_place;by_cases z:l >= r
  ·rw[if_pos z];obtain rfl:l=r:=by lia
   exact .ret ⟨g,h,o⟩
  ·rw[if_neg z];refine .ask (a.AN c) (a.AN ()) ?_
   cases e:lt (p.getD k 0) (p.getD ((l+r)/2) 0) with
   |true=>
    rw[if_pos rfl];calc uc b a c d f l _ () () () h λi m q=>?_;by_cases y:i=(l+r)/2
    ·rw[y];exact e
    ·calc b.tr _ _ _ e (d _ _ () q)
   |false=>
    rw[if_neg ∅];have h:=b.tot _ _ (a.AN c) (a.AN ()) (a.inj (i:=k) (j:=(l+r)/2) c () ()) e;calc uc b a c d f _ r () g () (λi m=>?_) o;by_cases y:i=(l+r)/2
    ·rw[y];exact h
    ·calc b.tr _ _ _ (d _ _ () ()) h
theorem II{k l:Nat}(b:PP n p)(a:k<n)(c:l<=k):(bubble p k (k-l)).getD i 0=if i=l then p.getD k 0 else if l<i/\i<=k then p.getD (i-1) 0 else p.getD i 0:=by
 have a:=b.size;rw[Array.getD_eq_getD_getElem?,getElem?_bubble () _ (),show k-(k-l)=l by lia];by_cases a:i=l
 ·rw[if_pos a,if_pos a,<-Array.getD_eq_getD_getElem?]
 ·rw[if_neg a,if_neg a];by_cases b:l < i/\i<=k
  ·rw[if_pos b,if_pos b,<-Array.getD_eq_getD_getElem?]
  ·rw[if_neg b,if_neg b,<-Array.getD_eq_getD_getElem?]
theorem IJ(e:vd n lt):∀(f:Nat) {p:Array Nat}(k:Nat),PP n p->1<=k->k+f=n->SS lt p k->xB n lt (kas_bin f p k) λq=>PP n q/\SS lt q n
 |0,p,k,d,_,a,h=>.ret ⟨d,by rw[show n=k by lia];calc h⟩
 |f+1,p,k,d,b,a,h=>by
  unfold kas_bin;calc .bind (uc e d () h k 0 k (U' _) (E' _) () (λi z=>absurd z (aas _)) λi a b=>by lia) λl g=>?_;obtain⟨a,b,c⟩:=g;calc IJ e f (k+1) ((bubble_perm _ _ _).trans d) () () λi j m o=>?_;rw[II d () a,II d () a];by_cases e:i=l
  ·rw[if_pos e,if_neg (),if_pos ()];exact c _ () ()
  ·rw[if_neg e];by_cases a:j=l
   ·rw[if_neg (),if_pos a];exact b _ ()
   ·rw[if_neg a];by_cases b:l < i/\i<=k
    ·rw[if_pos b,if_pos ()];exact h _ _ () ()
    ·rw[if_neg b];by_cases a:l < j/\j<=k
     ·rw[if_pos a];by_cases z:i=j - 1
      ·lia
      ·exact h _ _ () ()
     ·rw[if_neg a];calc h _ _ m ()
theorem M8(e:vd n lt)(a:1<=n):xB n lt (kas_sort n) λq=>PP n q/\SS lt q n:=by
 unfold kas_sort;calc .bind (IH e (Array.Perm.refl _) a) λr f=>?_;obtain⟨a,b,c,d⟩:=f;by_cases z:r.1<n
 ·rw[if_pos z,show max r.1 1=r.1 by lia];exact IJ e _ _ c a () d
 ·rw[if_neg z];obtain e:r.1=n:=by lia
  rw[e]at d;calc .ret ⟨c,d⟩
end
end L2
namespace L2
open PySem PySem.Spec PyProof.Rows
end L2
set_option maxHeartbeats 400000
namespace L2
open PySem PySem.Spec PyProof.Rows
section
def Wv(h:Heap)(d:Addr)(es:Array DictEntry)(ep:Nat):Prop:=∃o,h.get? d=some o/\o.ExactDict/\o.data=.dict es ep
theorem Wv.type{s:Shared}{d:Addr}{es:Array DictEntry}{ep:Nat}(x:Wv s.heap d es ep):s.TypeIs (.ref d) "dict":=let ⟨o,h,c,_⟩:=x;⟨o,h,c.1⟩
section
variable {P:Program}{w:World}{H:Hp}{h:Heap}{a:Addr}{bf:List (List Key×V)}
theorem Paired.get{α β:Type}{F:α->β->Prop}:∀{c:List α}{d:List β},Paired F c d->∀{i:Nat}{a:α},c[i]?=some a->∃b,d[i]?=some b/\F a b
 |_,_,.nil,i,a,e=>by simp at e
 |_,_,.cons r t,0,a,e=>by cases e;calc⟨_,rfl,r⟩
 |_,_,.cons r t,i+1,a,e=>Paired.get t (i:=i) e
end
end
section
section
variable {prog:Program}{w:World}{A:Around}{E:Value->Shared->Prop}{s:Shared}{d:Addr}{es:Array DictEntry}{ep:Nat}
end
section
variable {prog:Program}{w:World}{K:Type} [DecidableEq K]{knd:HeapKind prog w K}{A:Around}{E:Value->Shared->Prop}{s:Shared}
end
end
end L2
namespace L2
open PySem PySem.Spec PyProof.Rows DD
end L2
set_option maxHeartbeats 4000000
namespace DD
open PySem L2
end DD
namespace L2
open PySem PySem.W PySem.Spec PyProof.Rows
variable {vs:List Value}{f:Nat->Int×Int}
def xC(a b:Int×Int):Bool:=decide (a.1<b.1)||(decide (a.1=b.1)&&decide (a.2<b.2))
theorem fU{a b:Int×Int}:xC a b=true↔a.1<b.1\/(a.1=b.1/\a.2<b.2):=by simp[xC]
theorem BI{a b:Int×Int}:xC a b=false↔¬(a.1<b.1\/(a.1=b.1/\a.2<b.2)):=by rw[<-fU];simp
theorem RF{n:Nat}(c:∀i j,i<n->j<n->i≠j->f i≠f j):vd n λi j=>xC (f i) (f j):=by
 refine⟨λi j h=>?_,λi j k a b=>?_,λi j d g k h=>?_⟩
 ·have:=fU.mp h;exact BI.mpr ()
 ·have:=fU.mp a;have:=fU.mp b;exact fU.mpr ()
 ·have a:=BI.mp h;have b:=c i j d g k;calc fU.mpr ?_;by_cases e:(f i).1=(f j).1
  ·by_cases a:(f i).2=(f j).2
   ·exact absurd (Prod.ext e a) b
   ·lia
  ·lia
def nX(h:Heap)(v:Value)(p:Int×Int):Prop:=∃a o n t u,v=.ref a/\h.get? a=some o/\o.cls=.type "tuple"/\o.data=.seq #[.int p.1 t,.int p.2 u] n
section
variable {prog:Program}{w:World}{A:Around}{E:Value->Shared->Prop}{s:Shared}
theorem M9{x y:Value}{p q:Int×Int}{Q:Bool->Shared->Prop}(c:nX s.heap x p)(d:nX s.heap y q)(h:Q (xC p q) s):wpAny (model prog w) A (keyLt' (tuples' true) x y) Q E s:=by
 obtain⟨a,e,i,j,k,rfl,f,l,g⟩:=c;obtain⟨b,m,n,o,r,rfl,a,e,i⟩:=d;calc kat_lt f g a i ?_;calc kat_cons (wpAny_eqBool_int ?_);by_cases e:p.1=q.1
 ·rw[show(p.1 == q.1)=true by simpa using e];calc kat_yes (kat_cons (wpAny_eqBool_int ?_));by_cases a:p.2=q.2
  ·rw[show(p.2==q.2)=true by simpa using a];calc kat_yes (kat_nil ?_);have:xC p q=false:=BI.mpr ();rw[this]at h;exact h
  ·rw[show(p.2 == q.2)=false by simpa using a];calc kat_no ?_;calc kat_one _ _ (PyProof.Rows.lt_int ?_);have:xC p q=decide (p.2 < q.2):=by simp[xC,e]
   rw[this]at h;exact h
 ·rw[show(p.1 == q.1)=false by simpa using e];calc kat_no ?_;have:xC p q=decide (p.1 < q.1):=by simp[xC,e]
  rw[this]at h;calc oneLt_int h
theorem IK{h:Heap}:∀(vs:List Value) (f:Nat->Int×Int),(∀i v,vs[i]?=some v->nX h v (f i))->∃g,KatTups h vs g/\g.length=vs.length/\∀v∈g,∃n t,v=.int n t
 | [],_,_=>⟨[],KatTups.nil,rfl,λv d=>by simp at d⟩
 |x::vs,f,d=>by
  obtain⟨g,a,b,c⟩:=IK vs (λi=>f (i + 1)) λi v e=>d (i + 1) v e;obtain⟨y,o,n,t,u,rfl,h,j,k⟩:=d 0 x rfl;exact⟨_::g,KatTups.cons h j k rfl a,by simp[b],λv d=>by
   rcases List.mem_cons.mp d with rfl|d
   ·exact⟨_,_,rfl⟩
   ·calc c v d⟩
theorem Fe{Q:SortKind->Shared->Prop}(a:0<vs.length)(d:∀i v,vs[i]?=some v->nX s.heap v (f i))(h:Q (tuples' true) s):wpAny (model prog w) A (keyKind' vs.toArray) Q E s:=by
 obtain⟨e,a,b,c⟩:=IK vs f d;refine kat_kind (T:=Value.type "int") a () (λv d=>?_) ∅ ?_
 ·obtain⟨n,t,rfl⟩:=c v d;exact Looks.of_pure rfl
 ·have:(Value.type "int" != Value.type "tuple")=true:=by decide
  rw[this];calc h
theorem rQ{a:Addr}{n:Nat}{P:PySem.Fin->Shared->Prop}(r:s.heap.get? a=some (seqObj "list" vs.toArray n))(K:∀i v,vs[i]?=some v->nX s.heap v (f i))(L:∀i j,i<vs.length->j<vs.length->i≠j->f i≠f j)(M:vs.length<64)
  (h:∀p:List Nat,p.Perm (List.range vs.length)->p.Pairwise (λi j=>xC (f i) (f j)=true)->P (.done (.ret .none)) {s with heap:=sortedHeap s.heap a vs (p.map λi=>vs.getD i Value.none).toArray}):
  wpAny (model prog w) A (Builtin.«list.sort» ⟨[.ref a],[]⟩) P E s:=by
 rw[list_sort_plain];have z:a<s.heap.objs.size:=M' r;calc A' (listItems_at r rfl ?_);calc A' (listUpdate_at r rfl ?_);obtain⟨d,n⟩:∃d,(s.heap.update a (Obj.mapSeq λ_=>#[])).get? a=some (seqObj "list" #[] d):=⟨_,get?_update_seq r (λ_=>#[])⟩
 calc A' (seqEpoch_at n rfl ?_);calc A' (wpAny_newTuple ?_);calc A' (wpAny_newList ?_);calc aao ?_;have x:∀b o,b≠a->s.heap.get? b=some o->(((s.heap.update a (Obj.mapSeq λ_=>#[])).push (seqObj "tuple" vs.toArray 0)).push (seqObj "list" #[] 0)).get? b=some o:=λb o N q=>by
  have J:b<s.heap.objs.size:=M' q;rw[Heap.get?_push_ne _ _ _ (by rw[size_push',Heap.size_update];calc Y' (Nat.lt_succ_of_lt J)),Heap.get?_push_ne _ _ _ (by rw[Heap.size_update];calc Y' J),Heap.get?_update_ne _ _ _ _ N];exact q
 have c:(((s.heap.update a (Obj.mapSeq λ_=>#[])).push (seqObj "tuple" vs.toArray 0)).push (seqObj "list" #[] 0)).get? a=some (seqObj "list" #[] d):=by
  rw[Heap.get?_push_ne _ _ _ (by rw[size_push',Heap.size_update];calc Y' (Nat.lt_succ_of_lt z)),Heap.get?_push_ne _ _ _ (by rw[Heap.size_update];calc Y' z)];exact n
 have g:∀i v,vs[i]?=some v->nX (((s.heap.update a (Obj.mapSeq λ_=>#[])).push (seqObj "tuple" vs.toArray 0)).push (seqObj "list" #[] 0)) v (f i):=λi v e=>by
  obtain⟨b,o,m,t,u,rfl,d,C,n⟩:=K i v e;calc⟨b,o,m,t,u,rfl,x b o (λz=>?_) d,C,n⟩;rw[z,r]at d
  cases d;exact absurd C (show ¬(Value.type "list"=Value.type "tuple") by decide)
 have y:=h;show wpAny (model prog w) A _ P E {s with heap:=((s.heap.update a (Obj.mapSeq λ_=>#[])).push (seqObj "tuple" vs.toArray 0)).push (seqObj "list" #[] 0)};dsimp only;have k:vs.toArray.size=vs.length:=by simp
 by_cases b:vs.toArray.size<2
 ·rw[if_pos b,if_pos b];calc A' (K' ?_);rw[StateT.run_pure];calc A' (K' ?_);dsimp only;calc A' (seqEpoch_at c rfl ?_);calc A' (listUpdate_at c rfl ?_ (hsz2:=by rw[Array.size_map];show(pairsOf vs).size<=_;rw[pairsOf_size,sizeLine_eq];lia));simp only[bne_self_eq_false,Bool.false_eq_true,if_false];have e:=y (List.range vs.length) (List.Perm.refl _) (by
   match vs,k,b with
   | [],_,_=>calc .nil
   | [_],_,_=>calc List.pairwise_singleton _ _
   | _::_::_,d,b=>simp at b;lia)
  have C:((List.range vs.length).map λi=>vs.getD i Value.none).toArray=(vs.toArray.zip vs.toArray).map (·.2):=by
   apply Array.toList_inj.mp;apply List.ext_getElem?;intro i;by_cases l:i<vs.length
   ·simp[l]
   ·simp[l]
  rw[C]at e;exact K' e
 ·rw[if_neg b,if_neg b];have d:2<=vs.length:=by lia
  calc A' (Fe (f:=f) () g ?_);refine A' (aae (kat_run (E:=E) (κ:=tuples' true) (ks:=vs) (vs:=vs) (Q:=λI D=>D={s with heap:=((s.heap.update a (Obj.mapSeq λ_=>#[])).push (seqObj "tuple" vs.toArray 0)).push (seqObj "list" #[] 0)}/\∃p:Array Nat,arrOf I=p.map (kas_item (vs.toArray.zip vs.toArray))/\failedOf I=none/\PP vs.length p/\SS (λi j=>xC (f i) (f j)) p vs.length)
   (G:=λp D=>D={s with heap:=((s.heap.update a (Obj.mapSeq λ_=>#[])).push (seqObj "tuple" vs.toArray 0)).push (seqObj "list" #[] 0)}/\PP vs.length p/\SS (λi j=>xC (f i) (f j)) p vs.length)
   rfl d M (λp I D _ b h a=>⟨a.1,p,b,h,a.2.1,a.2.2⟩) (M8 (RF L) () _ _ _ (λi j C l F d=>?_) λp H=>⟨rfl,H⟩)) ?_ λ_ _ e=>e)
  ·refine M9 (g i _ ?_) (g j _ ?_) d
   ·rw[aaE,cF l];rfl
   ·rw[aaE,cF F];rfl
  rintro⟨⟨⟩,I⟩ D ⟨rfl,p,b,d,H,e⟩;dsimp only;have a:=kat_snds rfl b;rw[a];calc A' (seqEpoch_at c rfl ?_);calc A' (listUpdate_at c rfl ?_ (hsz2:=by rw[aaF,aaC,Array.length_toList,H.size,sizeLine_eq];lia));rw[d];simp only[bne_self_eq_false,Bool.false_eq_true,if_false];calc K' (y p.toList (by have:=Array.perm_iff_toList_perm.mp H;simpa using this) ?_);rw[List.pairwise_iff_getElem];intro i j l F a;have k:=H.size;have:=e i j a (by simpa[k] using F);rw[Array.length_toList]at l F;simpa[Array.getD,l,F] using this
theorem xD{l:Addr}{Q:Value->Shared->Prop}(d:s.heap.IsList l vs.toArray)(k:∀i v,vs[i]?=some v->nX s.heap v (f i))(n:∀i j,i<vs.length->j<vs.length->i≠j->f i≠f j)(r:vs.length<64)
  (h:∀p:List Nat,p.Perm (List.range vs.length)->p.Pairwise (λi j=>xC (f i) (f j)=true)->Q (.ref (s.heap.objs.size+1)) {s with heap:=sortedAll s.heap vs (p.map λi=>vs.getD i Value.none).toArray}):
  wpAny (model prog w) A (call (.builtin "sorted") [.ref l]) Q E s:=by
 refine Calls.call_function_entry kind_sorted plain_sorted entry_sorted (args_sorted1 _) ?_;unfold Builtin.«sorted»;refine A' (m:=checkCount "sorted" 1 1 _) (K' ?_);refine A' (collect_list d ?_);refine A' (wpAny_newList ?_);have a:((s.heap.push (seqObj "list" #[] 0)).update s.heap.objs.size (Obj.mapSeq (· ++vs.toArray))).objs.size=s.heap.objs.size+1:=by
  rw[Heap.size_update,size_push']
 have g:(((s.heap.push (seqObj "list" #[] 0)).update s.heap.objs.size (Obj.mapSeq (· ++vs.toArray))).push (seqObj "list" vs.toArray 0)).get? (s.heap.objs.size+1)=some (seqObj "list" vs.toArray 0):=by
  rw[<-a];exact P' _ rfl
 have c:∀b o,s.heap.get? b=some o->(((s.heap.push (seqObj "list" #[] 0)).update s.heap.objs.size (Obj.mapSeq (· ++vs.toArray))).push (seqObj "list" vs.toArray 0)).get? b=some o:=λb o q=>by
  have d:b<s.heap.objs.size:=M' q;rw[Heap.get?_push_ne _ _ _ (by rw[a];calc Y' (Nat.lt_succ_of_lt d)),Heap.get?_update_ne _ _ _ _ (Y' d),Heap.get?_push_ne _ _ _ (Y' d)];exact q
 show wpAny _ _ _ _ _ {s with heap:=((s.heap.push (seqObj "list" #[] 0)).update s.heap.objs.size (Obj.mapSeq (· ++vs.toArray))).push (seqObj "list" vs.toArray 0)};rw[a];refine A' (aao (aat slot_list_sort ⟨_,g,rfl⟩ entry_list_sort (rQ (f:=f) g (λi v e=>?_) n r λp x y=>⟨_,rfl,?_⟩) (args_list_sort _)))
 ·obtain⟨b,o,m,t,u,rfl,a,d,g⟩:=k i v e;exact⟨b,o,m,t,u,rfl,c _ _ a,d,g⟩
 calc K' ⟨_,rfl,h p x y⟩
end
end L2
namespace L2
open PySem PySem.W PySem.Spec PyProof.Rows
section
variable {prog:Program}{w:World}{A:Around}{E:Value->Shared->Prop}{s:Shared}{T:String}{r d:Addr}{n:Nat}{P:Nat->Value->Prop}{OK:Heap->Prop}
theorem zk{Q:List Value->Shared->Prop}(K:KdlSrc prog w T r d n P OK)(k:A.handled=none)(g:OK s.heap)(l:n<=sizeLine)
  (h:∀h' c f,(∀b o,s.heap.get? b=some o->h'.get? b=some o)->s.heap.objs.size<=h'.objs.size->ItemsOf P f n->Q f.toList {s with heap:=h',toks:=c}):wpAny (model prog w) A (collect (.ref r)) Q E s:=by
 unfold collect;refine A' (wpAny_runValue (codeAny_builtin entry_proto_collect' ?_));show wpAny _ _ (do again (.builtin "list.__iadd__" ⟨[<-newList [],.ref r],[]⟩)) _ _ s;refine A' (wpAny_newList (K' ⟨Code.quiet_builtin _ ⋯,codeAny_builtin entry_list_iadd' ?_⟩));show wpAny _ _ (Builtin.List.listExtendWith (.ref s.heap.objs.size) (.ref r) (.ref s.heap.objs.size)) _ _ {s with heap:=s.heap.push (seqObj "list" #[] 0)};have i:=K.there _ g;have m:(s.heap.push (seqObj "list" #[] 0)).get? s.heap.objs.size=some (seqObj "list" #[] 0):=P' _ rfl;rw[Around.under_plainId ⋯];refine kdl_extend (R:=λr j=>match r with
   | .ok (.ret v)=>wpAny (model prog w) A (match v with
    | .ref a=>(do
     let o <-load a
     match o.data with
     | .seq a _=>pure a.toList
     | _=>unsupported "internal:collect")
    | _=>unsupported "internal:collect") Q E j
   | .ok _=>False
   | .error e=>E e j) (s:={s with heap:=s.heap.push (seqObj "list" #[] 0)}) K k (K.keep _ _ g λb _ o e=>F' _ e) _ (aal i.1) (aal i.2) (.ref s.heap.objs.size) 0 m (λh' c f p j g k=>?_) l
 show wpAny (model prog w) A (do
   let o <-load s.heap.objs.size
   match o.data with
   | .seq a _=>pure a.toList
   | _=>unsupported "internal:collect") Q E {s with heap:=h',toks:=c}
 calc A' (wpAny_load g ?_);calc K' (h h' c f (λb o e=>j b o (Y' (M' e)) (F' _ e)) (J' (M' g)) k)
theorem BK{Q:Value->Shared->Prop}{ks:List Int}(K:KdlSrc prog w T r d n P OK)(i:A.handled=none)(j:OK s.heap)(a:n<64)(l:∀c:Array Value,ItemsOf P c n->IntsAre c.toList ks)
  (h:∀h' g (out:Array Value) f e a,(∀b o,s.heap.get? b=some o->h'.get? b=some o)->s.heap.objs.size<=a->h'.get? a=some (seqObj "list" out e)->IntsAre out.toList f->f.Perm ks->f.Pairwise (· <=·)->Q (.ref a) {s with heap:=h',toks:=g}):
  wpAny (model prog w) A (call (.builtin "sorted") [.ref r]) Q E s:=by
 refine Calls.call_function_entry kind_sorted plain_sorted entry_sorted (args_sorted1 _) ?_;unfold Builtin.«sorted»;refine A' (m:=checkCount "sorted" 1 1 _) (K' ?_);refine A' (zk K i j (by rw[sizeLine_eq];lia) λh' g c p a k=>?_);have i:c.toList.length=n:=by rw[Array.length_toList];exact k.1
 refine A' (wpAny_newList ?_ (by rw[i,sizeLine_eq];lia));have j:(h'.push (seqObj "list" c.toList.toArray 0)).get? h'.objs.size=some (seqObj "list" c.toList.toArray 0):=P' _ rfl;refine A' (aao (aat slot_list_sort ⟨_,j,rfl⟩ entry_list_sort (list_sort_tree j (l _ k) () λout f c i t=>⟨_,rfl,?_⟩) (args_list_sort _)));obtain⟨e,k⟩:=sortedHeap_at (out:=out) j;refine K' ⟨_,rfl,h _ g out f e _ (λb o q=>?_) ?_ k c i t⟩
 ·have e:=p b o q;have c:b<h'.objs.size:=M' e;show(sortedHeap (h'.push _) h'.objs.size _ out).get? b=some o;rw[sortedHeap_old (Y' c) (by rw[size_push'];calc Nat.lt_succ_of_lt c),Heap.get?_push_ne _ _ _ (Y' c)];exact e
 ·calc a
end
structure OT(H:Hp)(ys:List V)(ps:List (Int×Int)):Prop where
 len:ys.length=ps.length
 got:∀(i:Nat) p,ps[i]?=some p->∃b,ys[i]?=some (.ref b)/\H b=some (.tup [.int p.1,.int p.2])
theorem OT.mono{H a:Hp}{b:List V}{c:List (Int×Int)}(h:OT H b c)(s:bW H a):OT a b c:=⟨h.len,λi p e=>let ⟨b,a,c⟩:=h.got i p e;⟨b,a,s _ _ c⟩⟩
theorem qk:∀{ns:List Int}{us:List Value},Vals (ns.map V.int) us->IntsAre us ns
 | [],_,.nil=>.nil
 |n::ns,_,.cons r a=>by
  obtain⟨t,rfl⟩:=r;calc .cons n t (qk a)
theorem ints_get:∀{us:List Value}{ks:List Int},us.length=ks.length->(∀(i:Nat) u k,us[i]?=some u->ks[i]?=some k->∃t,u=.int k t)->IntsAre us ks
 | [],[],_,_=>.nil
 |u::us,k::ks,a,h=>by
  obtain⟨t,rfl⟩:=h 0 u k rfl rfl;calc .cons k t (ints_get (by simpa using a) λi u k b c=>h (i+1) u k b c)
theorem zl{a:List V}{us:List Value}(h:Vals a us):∀(p:List Nat),(∀i∈p,i<a.length)->Vals (p.map λi=>a.getD i .bM) (p.map λi=>us.getD i Value.none)
 | [],_=>.nil
 |i::p,b=>by
  have c:=b i S';obtain⟨u,e,r⟩:=h.get (cF c);calc .cons ?_ (zl h p λj d=>b j (V' _ d));show RelV (a.getD i .bM) (us.getD i Value.none);rw[aaE,aaE,cF c,e];calc r
def acj(K:W.Frag):List V->Hp->VK->Prop:=λvs H Q=>∃a,vs=[.ref a]/\
  ((∃(b:List V) (c:List (Int×Int)),aM K H a b/\b.length < 64/\OT H b c/\c.Nodup/\∀l (e:List V) (d:List (Int×Int)),H l=none->d.Perm c->d.Pairwise (λx y=>xC x y=true)->OT H e d->Q (.ref l) (upd H l (.lst e)))\/
   (∃(b:List (Key×V)) (ks:List Int),H a=some (.dK b)/\b.map (·.1)=ks.map Sum.inl/\ks.length<64/\∀l (ns:List Int),H l=none->ns.Perm ks->ns.Pairwise (· <=·)->Q (.ref l) (upd H l (.lst (ns.map V.int))))\/
   (∃ks:List Int,aM K H a (ks.map V.int)/\ks.length < 64/\∀l (ns:List Int),H l=none->ns.Perm ks->ns.Pairwise (· <=·)->Q (.ref l) (upd H l (.lst (ns.map V.int)))))
theorem v9{X:Cx}(O:X.calm=true):eQ X (.builtin "sorted") (acj X.K):=by
 intro v s σ H xs us Q I r h;obtain⟨a,rfl,h⟩:=h;obtain⟨u,rfl,ru⟩:=r.one
 cases ru;rcases h with⟨Z,c,P,r,l,z,q⟩|⟨R,L,e,F,r,q⟩|⟨L,P,r,q⟩
 ·obtain⟨M,B,S,hz⟩:=I.list P;have d:=B.length;have o7:=l.len;refine xD (f:=λi=>c.getD i (0,0)) S.isList (λi v e=>?_) (λi j m r AO e=>?_) () λp T AL=>?_
  ·have m:i < c.length:=by have:=(List.getElem?_eq_some_iff.mp e).1;lia
   obtain⟨b,C,G⟩:=l.got i _ (cF m);obtain⟨r,N,r3⟩:=B.get C;rw[e]at N
   cases N
   cases r3;obtain⟨_,r,rt,o,ho,O,n,hd⟩:=(show cC X.prog X.w H s.heap b (.tup [.int (c[i]).1,.int (c[i]).2]) from I.aY b _ G)
   obtain⟨v1,v2,rfl,⟨t1,rfl⟩,⟨t2,rfl⟩⟩:=rt.two;rw[show c.getD i (0,0)=c[i] by simp[m]];exact⟨b,o,n,t1,t2,rfl,ho,O,hd⟩
  ·rw[show c.getD i (0,0)=c[i]'() by simp[show i<c.length by lia],show c.getD j (0,0)=c[j]'() by simp[show j<c.length by lia]]at e;exact AO ((List.getElem_inj z).mp e)
  ·have iB:∀i ∈ p,i < Z.length:=λi m=>by have:=(T.mem_iff).mp m;rw[List.mem_range] at this;lia
   obtain⟨e,U⟩:=sortedAll_at s.heap M (p.map λi=>M.getD i Value.none).toArray;have n:p.length=c.length:=by rw[T.length_eq];simp;lia
   refine⟨.ref (s.heap.objs.size+1),_,I.laid (a:=s.heap.objs.size+1) (o:=.lst (p.map λi=>Z.getD i .bM)) (t':=s.toks) (λb o q=>sortedAll_old q) (Nat.le_succ _) (show cC X.prog X.w _ _ _ (.lst _) from⟨by rw[aaC];lia,_,e,zl B p iB,U⟩),rfl,q _ _ (p.map λi=>c.getD i (0,0)) (I.aY.fresh (Nat.le_succ _)) ?_ ?_ ⟨nofun,λi x e=>?_⟩⟩
   ·have n:c=(List.range c.length).map λi=>c.getD i (0,0):=by
     apply List.ext_getElem?;intro i;by_cases m:i<c.length
     ·simp[m]
     ·simp[m]
    have m:=T.map λi=>c.getD i (0,0);rw[<-d,o7,<-n]at m;exact m
   ·exact List.pairwise_map.mpr AL
   ·rw[aaB]at e;obtain⟨k,F,rfl⟩:=Option.map_eq_some_iff.mp e;have n:=iB k (W' F);obtain⟨b,C,G⟩:=l.got k _ (cF (show k<c.length by lia));calc⟨b,by rw[aaB,F];simp[List.getD_eq_getElem?_getD,C],?_⟩;rw[show c.getD k (0,0)=c[k]'() by simp[show k<c.length by lia]];exact G
 ·obtain⟨z,r,vs,c,hd⟩:=Hg I.aY e;obtain⟨o,v,m,z,T,Z,g4,g5⟩:=id hd;have IM:vs.length=R.length:=c.length.symm;have n:R.length=L.length:=by have:=congrArg List.length F;simpa using this
  refine BK (ks:=L) (kdl_dict (ep:=m) r) (I.ok.hd O) ⟨o,v,z,T,Z,g4,g5⟩ () (λL n=>?_) λm tk g W e a' Ww J ha hI l hs=>?_
  ·calc ints_get (by rw[Array.length_toList,n.1];lia) λi u k C G=>?_;rw[Array.getElem?_toList] at C;obtain⟨k',x,N,e4⟩:=n.2 i u C;have m:(R.map (·.1))[i]?=some (Sum.inl k):=by rw[F,aaB,G];rfl
   rw[aaB]at m;obtain⟨p,l,e6⟩:=Option.map_eq_some_iff.mp m;obtain⟨i,e7,e8,_⟩:=Paired.get c l;rw[N]at e7
   cases e7;rw[e6]at e8;rw[AU,show k'=Sum.inl k from e8.symm]at e4;rcases cV e4 with⟨j,t,Y,rfl⟩|⟨y,t,Y,rfl⟩
   ·cases Y;exact⟨t,rfl⟩
   ·cases Y
  ·exact⟨.ref a',_,I.laid (a:=a') (o:=.lst (W.map V.int)) (t':=tk) Ww J (show cC X.prog X.w _ _ _ (.lst _) from⟨by rw[aaC,l.length_eq];rw[sizeLine_eq];lia,g.toList,e,mW hI,by simpa using ha⟩),rfl,q _ _ (I.aY.fresh J) l hs⟩
 ·obtain⟨M,B,S,hz⟩:=I.list P;have d:=B.length;rw[aaC]at d;calc sorted_ints S.isList (qk B) () λg W i c j=>?_;obtain⟨e,U⟩:=sortedAll_at s.heap M g;calc⟨.ref (s.heap.objs.size+1),_,I.laid (a:=s.heap.objs.size+1) (o:=.lst (W.map V.int)) (t':=s.toks) (λb o q=>sortedAll_old q) (Nat.le_succ _) (show cC X.prog X.w _ _ _ (.lst _) from⟨by rw[aaC,c.length_eq];rw[sizeLine_eq];lia,g.toList,e,mW i,by simpa using U⟩),rfl,q _ _ (I.aY.fresh (Nat.le_succ _)) c j⟩
end L2
namespace DD
open PySem L2
variable {r:RS}
structure RS.Pk(n:NT)(r:RS):Prop where
 nd:r.picks.Nodup
 mem:∀(w k:Nat) e,w<n.ws.length->(r.ww w).cD[k]?=some (some e)->((w:Int),(k:Int))∈r.picks
section
variable {n:NT}{r:RS}
theorem RS.Pk.put(h:r.Pk n){w:Nat}{x:Int}{s:Option (Int×Int)}:(r.put w x s).Pk n:=⟨h.nd,λu k e a b=>h.mem u k e a (kn.mp b)⟩
theorem RS.Pk.send{outs:List Nat}{ev:Int×Int}:∀(a:List (Int×Int)) {r:RS},r.Pk n->(r.send outs ev a).Pk n
 | [],r,h=>h
 |p::a,r,h=>by
  show((if p.1.toNat<outs.length then r.put (outs.getD p.1.toNat 0) p.2 (some ev) else r).send outs ev a).Pk n;split
  ·exact RS.Pk.send a h.put
  ·calc RS.Pk.send a h
theorem RS.Pk.pick(h:r.Pk n)(f:r.Iv n){w k:Nat}(b:(r.ww w).cD[k]?=some none):(r.pick n w k).Pk n:=by
 refine RS.Pk.send _ ⟨?_,λu j e g a=>?_⟩
 ·show(r.picks++[((w:Int),(k:Int))]).Nodup;rw[List.nodup_append];calc⟨h.nd,nofun,λp i q c e=>?_⟩;rw[List.mem_singleton] at c;subst c;subst e;obtain⟨m,o,e,l,_,d⟩:=f.pk _ i
  cases l;rw[b]at d
  cases d
 ·show _ ∈ r.picks++[((w:Int),(k:Int))]
  rcases(iG b).mp a with⟨rfl,rfl,_⟩|a
  ·simp
  ·calc List.mem_append_left _ (h.mem u j e g a)
theorem zm:∀{W:Nat},ub r W=0->∀w,w<W->(r.ww w).cD.countP Option.isSome=0
 |W+1,h,w,a=>by
  rw[ub]at h;by_cases e:w=W
  ·subst e;lia
  ·calc zm (W:=W) () w ()
theorem RS.Pk.zero(b:r.Iv n)(e:r.picks=[]):r.Pk n:=by
 have a:=b.cnt;rw[e]at a;calc⟨by rw[e];calc .nil,λw k f c d=>?_⟩;have:=List.countP_eq_zero.mp (zm a w c) _ (W' d);simp at this
end
def iH(r:RS)(w n:Nat):List Nat:=(List.range n).filter λk=>((r.ww w).cD.getD k none).isSome
def eP(r:RS)(W:Nat):List (Nat×Nat):=(List.range W).flatMap λw=>(iH r w (r.ww w).cD.length).map λk=>(w,k)
def pI(p:Nat×Nat):Int×Int:=((p.1:Int),(p.2:Int))
theorem ql{W:Nat}:eP r (W+1)=eP r W++(iH r W (r.ww W).cD.length).map λk=>(W,k):=by
 unfold eP;rw[List.range_succ,List.flatMap_append];simp
theorem pH{r:RS}{w n k:Nat}:k∈iH r w n↔k<n/\∃e,(r.ww w).cD[k]?=some (some e):=by
 unfold iH;rw[List.mem_filter,List.mem_range,aaE];refine and_congr_right λ_=>?_
 cases(r.ww w).cD[k]? with
 |none=>simp
 |some o=>cases o<;>simp
theorem fV{r:RS}{p:Nat×Nat}:∀{W:Nat},p∈eP r W↔p.1<W/\∃e,(r.ww p.1).cD[p.2]?=some (some e)
 |0=>by simp[eP]
 |W+1=>by
  rw[ql,List.mem_append,fV (W:=W),List.mem_map];constructor
  ·rintro(⟨b,a⟩ | ⟨k,c,rfl⟩)
   ·exact⟨(),a⟩
   ·exact⟨Nat.lt_succ_self _,(pH.mp c).2⟩
  ·rintro⟨b,e,a⟩;by_cases z:p.1 < W
   ·exact .inl ⟨z,e,a⟩
   ·have b:p.1=W:=by lia
    calc .inr ⟨p.2,pH.mpr ⟨?_,e,by rw[<-b];calc a⟩,by rw[<-b]⟩;rw[<-b];calc(List.getElem?_eq_some_iff.mp a).1
theorem xE{w n:Nat}:(iH r w n).Pairwise (· < ·):=List.Pairwise.filter _ List.pairwise_lt_range
theorem xF{r:RS}:∀{W:Nat},((eP r W).map pI).Pairwise λx y=>xC x y=true
 |0=>.nil
 |W+1=>by
  rw[ql,aaD,List.pairwise_append];refine⟨xF,?_,λx c y d=>?_⟩
  ·rw[List.map_map,List.pairwise_map];calc xE.imp λ{a b} h=>?_;exact fU.mpr (.inr ⟨rfl,by show(a:Int)<b;lia⟩)
  ·obtain⟨p,e,rfl⟩:=List.mem_map.mp c;obtain⟨q,f,rfl⟩:=List.mem_map.mp d;obtain⟨k,_,rfl⟩:=List.mem_map.mp f;have:=(fV.mp e).1;calc fU.mpr (.inl (by show(p.1:Int)<W;lia))
theorem nY{α:Type}{R:α->α->Prop}(k:∀a b,R a b->¬R b a):∀{xs c:List α},xs.Pairwise R->c.Pairwise R->(∀p,p∈xs↔p∈c)->xs=c
 | [],[],_,_,_=>rfl
 | [],y::c,_,_,h=>absurd ((h y).mpr S') List.not_mem_nil
 |x::xs,[],_,_,h=>absurd ((h x).mp S') List.not_mem_nil
 |x::xs,y::c,i,j,h=>by
  rw[List.pairwise_cons]at i j;have e:x=y:=by
   rcases List.mem_cons.mp ((h x).mp S') with e|l
   ·exact e
   rcases List.mem_cons.mp ((h y).mpr S') with e|a
   ·exact e.symm
   exact absurd (i.1 y a) (k _ _ (j.1 x l))
  subst e;have d:¬R x x:=λz=>k _ _ z z;rw[nY k i.2 j.2 λp=>⟨λg=>?_,λg=>?_⟩]
  ·rcases List.mem_cons.mp ((h p).mp (V' _ g)) with rfl | q
   ·exact absurd (i.1 _ g) d
   ·exact q
  ·rcases List.mem_cons.mp ((h p).mpr (V' _ g)) with rfl | q
   ·exact absurd (j.1 _ g) d
   ·calc q
theorem RH(a b:Int×Int)(h:xC a b=true):¬xC b a=true:=λa=>by
 have:=fU.mp h;have:=fU.mp a;lia
theorem zp{α:Type} [DecidableEq α]:∀(L M:List α),L.Nodup->(∀x∈L,x∈M)->M.length<=L.length->M.Perm L
 | [],M,_,_,h=>by rw[List.length_eq_zero_iff.mp (Nat.le_zero.mp h)]
 |x::L,M,c,a,h=>by
  have d:=a x S';have b:=List.nodup_cons.mp c;have p:=List.perm_cons_erase d;have e:=p.length_eq;simp only[List.length_cons]at h e;calc p.trans ((zp L (M.erase x) b.2 (λy c=>(List.mem_erase_of_ne (λe=>b.1 (by rw[<-e];calc c))).mpr (a y (V' _ c))) ()).cons x)
theorem zr{r:RS}{w:Nat}:(iH r w (r.ww w).cD.length).length=(r.ww w).cD.countP Option.isSome:=by
 unfold iH;have:∀l:List (Option (Int×Int)),((List.range l.length).filter λk=>(l.getD k none).isSome).length=l.countP Option.isSome:=λl=>by
  rw[<-List.countP_eq_length_filter];induction l with
  |nil=>rfl
  |cons a l b=>rw[List.length_cons,List.range_succ_eq_map,List.countP_cons,List.countP_cons,List.countP_map,<-b];congr 1
 calc this _
theorem IP{H:Hp}{w:Nat}{c:List (Key×V)}(h:OR H (.d (i5 (r.ww w).cD) ((r.ww w).cD.countP Option.isSome)) (.dK c)):∃ks:List Int,c.map (·.1)=ks.map Sum.inl/\ks.Perm ((iH r w (r.ww w).cD.length).map λk:Nat=>(k:Int)):=by
 have j:((iH r w (r.ww w).cD.length).map λk:Nat=>(Sum.inl (k:Int):Key)).Nodup:=List.pairwise_map.mpr (xE.imp λ{a b} h e=>by cases e;lia);have p:=zp _ (c.map (·.1)) j (λx g=>by
  obtain⟨k,m,rfl⟩:=List.mem_map.mp g;obtain⟨_,e,b⟩:=pH.mp m;have a:=h.2 (k:Int);rw[show i5 (r.ww w).cD (k:Int)=some (pairD e) by unfold i5;rw[if_pos (),Int.toNat_natCast,aaE,b];rfl] at a;obtain⟨v,j,_⟩:=a;calc Mz j) (by rw[aaC,aaC,zr];calc h.1)
 refine⟨(c.map (·.1)).map λx:Key=>match x with | .inl i=>i | .inr _=>0,?_,?_⟩
 ·rw[List.map_map];calc(List.map_id _).symm.trans (List.map_congr_left λx g=>?_);obtain⟨k,_,rfl⟩:=List.mem_map.mp (p.mem_iff.mp g);rfl
 ·have:=p.map λx:Key=>match x with | .inl i=>i | .inr _=>0
  rw[List.map_map (l:=iH r w _)]at this;calc this
theorem zt{w n:Nat}{ns:List Int}(h:ns.Perm ((iH r w n).map λk:Nat=>(k:Int)))(d:ns.Pairwise (· <=·)):ns=(iH r w n).map λk:Nat=>(k:Int):=by
 have c:((iH r w n).map λk:Nat=>(k:Int)).Pairwise (· < ·):=List.pairwise_map.mpr (xE.imp λ{a b} h=>by lia);have f:ns.Nodup:=h.nodup_iff.mpr (c.imp λ{a b} h e=>by lia);calc nY (R:=(· < ·)) (λa b h=>by lia) ((List.Pairwise.and d f).imp λ{a b} h=>by have:=h.1;have:=h.2;lia) c λp=>h.mem_iff
theorem xG{n:NT}(d:r.Iv n)(f:r.Pk n){a:List (Int×Int)}(g:a.Perm r.picks)(i:a.Pairwise λx y=>xC x y=true):a=(eP r n.ws.length).map pI:=by
 calc nY RH i xF λp=>?_;rw[g.mem_iff,List.mem_map];constructor
 ·intro h;obtain⟨w,k,e,rfl,b,c⟩:=d.pk p h;exact⟨(w,k),fV.mpr ⟨b,e,c⟩,rfl⟩
 ·rintro⟨q,j,rfl⟩;obtain⟨b,e,c⟩:=fV.mp j;calc f.mem _ _ _ b c
theorem zu{n:NT}(g:r.Iv n)(f:r.Pk n):(eP r n.ws.length).length=r.picks.length:=by
 have i:((eP r n.ws.length).map pI).Nodup:=xF.imp λ{a b} h e=>by subst e;have:=fU.mp h;lia
 have j:((eP r n.ws.length).map pI).Perm r.picks:=(List.perm_ext_iff_of_nodup i f.nd).mpr λp=>by
  rw[List.mem_map];constructor
  ·rintro⟨q,l,rfl⟩;obtain⟨c,e,d⟩:=fV.mp l;exact f.mem _ _ _ c d
  ·intro h;obtain⟨w,k,e,rfl,c,d⟩:=g.pk p h;exact⟨(w,k),fV.mpr ⟨c,e,d⟩,rfl⟩
 have:=j.length_eq;rwa [aaC]at this
end DD
namespace L2
open PySem PySem.W PySem.Spec PyProof.Rows
def Lx(b a:Int):Int:=if a > b then a else b
section
variable {prog:Program}{w:World}{A:Around}{E:Value->Shared->Prop}{R:Result->Shared->Prop}{l I S:Addr}{vs:List Value}{ns:List Int}{kw:List (Str×Value)}
theorem Nc(hh:A.handled=none)(G:l≠I)(J:S≠I)(K:S≠l)(Z:IntsAre vs ns):
  ∀(k i:Nat) (s:Shared) (b:Int) (t:Tok) (c:Nat),vs.length-i=k->i<=vs.length->s.heap.IsListIter I l i/\s.heap.IsList l vs.toArray->s.heap.get? S=some (seqObj "list" #[.int b t,.int b t] c)->
  (∀h' C t',(∀x o,x≠S->x≠I->s.heap.get? x=some o->h'.get? x=some o)->R (.ok (.ret (.int ((ns.drop i).foldl Lx b) t'))) {s with heap:=h',toks:=C})->
  codeAny (model prog w) A (.builtin "max.loop" ⟨[.ref I,.none,.ref S],kw⟩) R s:=by
 have W:=Walks.list (prog:=prog) (w:=w) (A:=A.in1) hh I l G vs.toArray;have hsz:vs.toArray.size=vs.length:=by simp
 have hnl:=IntsAre.length Z;have Ud:(toString "max"++toString ".loop":String)="max.loop":=by decide
 have p:∀{x:Addr},x≠S->x≠I->x ∉ [I]:=λ_ d h=>d (List.mem_singleton.mp h);have fp:∀{x:Addr},x ∈ [I,l]->x≠S:=λh z=>by
  rcases List.mem_cons.mp h with e|h
  ·exact J (z▸e)
  ·exact K (z▸List.mem_singleton.mp h)
 intro k;induction k with
 |zero=>
  intro i s b t c hk L M r y;have N:i=vs.toArray.size:=by lia
  calc codeAny_builtin F.entry_max_loop ?_;rw[Around.under_plainId F.plain_max_loop _];calc A' (m:=seqItems? (.ref S)) (aak r rfl ?_);calc A' (wpAny_tryCatch (W.done s _ _ (N▸M) λh' C q=>?_));have B:=q S _ (λh=>J (List.mem_singleton.mp h)) r;show wpAny _ A.in1 (updateSeq S (λ_=>#[]) >>= _) _ _ _;calc A' (wpAny_updateSeq B rfl (A' (wpAny_letGo (K' ?_))));have e:ns.drop i=[]:=List.drop_eq_nil_of_le ();have:=y (h'.update S (Obj.mapSeq λ_=>#[])) C t λx o g d e=>(Heap.get?_update_other _ _ (Ne.symm g)).trans (q x o (p g d) e);rw[e]at this;calc this
 |succ k ih=>
  intro i s b t c hk L M r y;calc codeAny_builtin F.entry_max_loop ?_;rw[Around.under_plainId F.plain_max_loop _];calc A' (m:=seqItems? (.ref S)) (aak r rfl ?_);calc A' (wpAny_tryCatch (W.item i s _ _ () M λv h' C hP rM q=>?_));have B:=q S _ (λh=>J (List.mem_singleton.mp h)) r;obtain⟨a,u,rfl,ha⟩:=IntsAre.at Z i v (by simpa using hP);have ed:ns.drop i=a::ns.drop (i+1):=by
   obtain⟨g,d⟩:=List.getElem?_eq_some_iff.mp ha;rw[List.drop_eq_getElem_cons g,d]
  rw[ed]at y;show wpAny _ A.in1 (tryCatch (holding [.int a u,.int a u] (richCompare .Gt (.int a u) (.int b t) >>= _)) _ >>= _) _ _ _;calc A' (wpAny_tryCatch (aao (A' (CmpOf.ints_gt (P:=λ(j:Nat) (v:Value)=>∃t,v=.int (if j=0 then a else b) t) (λj=>if j=0 then a else b) (λ_ _ h=>h) 0 1 _ _ _ _ _ ⟨u,rfl⟩ ⟨t,rfl⟩ ?_))));calc A' (aao (aar ?_));calc A' (wpAny_letGo (K' ?_));split
  ·rename_i O;have T:a > b:=of_decide_eq_true O;calc A' (wpAny_updateSeq B rfl (A' (wpAny_letGo ?_)));rw[Ud];have n:∀x o,x≠S->h'.get? x=some o->(h'.update S (Obj.mapSeq λ_=>#[.int a u,.int a u])).get? x=some o:=λx o g e=>(Heap.get?_update_other _ _ (Ne.symm g)).trans e;calc K' ⟨plainId_quiet F.plain_max_loop _,ih (i+1) _ a u _ () () (W.frame _ _ _ rM λx hx o e=>n x o (fp hx) e) (Heap.get?_update_self _ B rfl) λd U X Y=>?_⟩;have:=y d U X λx o g d e=>Y x o g d (n x o g (q x o (p g d) e));rw[List.foldl_cons,show Lx b a=a from if_pos T]at this;exact this
  ·rename_i O;have T:¬a > b:=λz=>O (decide_eq_true z);calc A' (wpAny_letGo ?_);rw[Ud];calc K' ⟨plainId_quiet F.plain_max_loop _,ih (i+1) _ b t c () () rM B λd U X Y=>?_⟩;have:=y d U X λx o g d e=>Y x o g d (q x o (p g d) e);rw[List.foldl_cons,show Lx b a=b from if_neg T]at this;calc this
def Ly:List Int->Option Int
 | []=>none
 |b::r=>some (r.foldl Lx b)
def oI(o:Option Int)(v:Value):Prop:=match o with
 |none=>v=.none
 |some i=>∃t,v=.int i t
theorem Ff(a v:Value):argsOk "max" ⟨[a],[(Str.ofString "default",v)]⟩:=by unfold argsOk;kernel_rfl
theorem IS{s:Shared}{Q:Value->Shared->Prop}(C:A.handled=none)(q:s.heap.IsList l vs.toArray)(L:IntsAre vs ns)
  (h:∀v h' k,oI (Ly ns) v->(∀b o,s.heap.get? b=some o->h'.get? b=some o)->Q v {s with heap:=h',toks:=k}):
  wpAny (model prog w) A (call (.builtin "max") [.ref l] [(Str.ofString "default",.none)]) Q E s:=by
 have G:(toString "max"++toString ".loop":String)="max.loop":=by decide
 obtain⟨r,g,_⟩:=id q;have I:l<s.heap.objs.size:=M' g;refine kmk_tree F.kind_max F.plain_max F.entry_max (Ff _ _) ?_;show wpAny _ A.in1 (Builtin.Builtins.bindParams "max" ["key","default"] 0 ⟨[],[(Str.ofString "default",.none)]⟩ >>= _) _ _ s;refine A' (m:=Builtin.Builtins.bindParams "max" ["key","default"] 0 ⟨[],[(Str.ofString "default",.none)]⟩) (wpAny_of_eq (show Builtin.Builtins.bindParams "max" ["key","default"] 0 ⟨[],[(Str.ofString "default",.none)]⟩=pure [none,some .none] from rfl) ?_);refine A' (K' ?_);refine A' (aaz q ?_);refine A' (wpAny_newList ?_ (U' _));rw[G];generalize g:s.heap.push {cls:=.type "list_iterator",data:=.fields #[.ref l,.int 0 0]}=a;have r:a.objs.size=s.heap.objs.size+1:=by rw[<-g];exact size_push' ..
 have M:(a.push (seqObj "list" #[] 0)).get? s.heap.objs.size=some {cls:=.type "list_iterator",data:=.fields #[.ref l,.int 0 0]}:=by
  rw[<-g];exact F' _ (P' _ rfl)
 have J:(a.push (seqObj "list" #[] 0)).get? a.objs.size=some (seqObj "list" #[] 0):=P' _ rfl;have u:∀b o,s.heap.get? b=some o->(a.push (seqObj "list" #[] 0)).get? b=some o:=λb o e=>by
  rw[<-g];exact F' _ (F' _ e)
 have i:l≠s.heap.objs.size:=Y' I;have y:a.objs.size≠s.heap.objs.size:=aal (by rw[r];calc Nat.lt_succ_self _);have j:a.objs.size≠l:=aal (by rw[r];calc Nat.lt_succ_of_lt I);have K:(a.push (seqObj "list" #[] 0)).IsListIter s.heap.objs.size l 0/\(a.push (seqObj "list" #[] 0)).IsList l vs.toArray:=⟨⟨_,M,rfl,rfl⟩,q.at λo e=>u _ _ e⟩
 have c:∀x o,s.heap.get? x=some o->x≠a.objs.size/\x≠s.heap.objs.size:=λx o e=>by
  have:=M' e;exact⟨Y' (by rw[r];calc Nat.lt_succ_of_lt this),Y' this⟩
 have W:=Walks.list (prog:=prog) (w:=w) (A:=A.in1) C s.heap.objs.size l i vs.toArray;calc K' ⟨plainId_quiet F.plain_max_loop _,?_⟩;calc codeAny_builtin F.entry_max_loop ?_;rw[Around.under_plainId F.plain_max_loop _];show wpAny _ A.in1 (seqItems? (.ref a.objs.size) >>= _) _ _ _;refine A' (aak J rfl ?_)
 cases L with
 |nil=>
  calc A' (wpAny_tryCatch (W.done _ _ _ K λh' k p=>?_));show wpAny _ A.in1 (rule _ >>= _) _ _ _;calc A' (wpAny_rule (K' ?_));calc h _ h' k rfl λb o e=>p b o (λz=>(c b o e).2 (List.mem_singleton.mp z)) (u b o e)
 |cons n t hr=>
  calc A' (wpAny_tryCatch (W.item 0 _ _ _ nofun K λv h' k g N p=>?_));have O:v=.int n t:=by simpa using g.symm
  subst O;have g:=p _ _ (λz=>y (List.mem_singleton.mp z)) J;show wpAny _ A.in1 (updateSeq a.objs.size (λ_=>#[.int n t,.int n t]) >>= _) _ _ _;calc A' (wpAny_updateSeq g rfl ?_);rw[G];have d:∀x o,x≠a.objs.size->h'.get? x=some o->(h'.update a.objs.size (Obj.mapSeq λ_=>#[.int n t,.int n t])).get? x=some o:=λx o a e=>(Heap.get?_update_other _ _ (Ne.symm a)).trans e;refine K' ⟨plainId_quiet F.plain_max_loop _,Nc C i y j (.cons n t hr) _ 1 _ n t _ rfl nofun (W.frame _ _ _ N λx B o e=>d x o (λz=>?_) e) (Heap.get?_update_self _ g rfl) λP R S T=>?_⟩
  ·rcases List.mem_cons.mp B with e | B
   ·exact y (z▸e)
   ·exact j (z▸List.mem_singleton.mp B)
  ·calc h _ P R ⟨S,rfl⟩ λb o e=>T b o (c b o e).1 (c b o e).2 (d b o (c b o e).1 (p b o (λz=>(c b o e).2 (List.mem_singleton.mp z)) (u b o e)))
end
def oV:Option Int->V
 |none=>.bM
 |some i=>.int i
def Wx(K:W.Frag)(t:TE):TE:=λσ H Q=>t σ H λv b=>∃(a:Addr) (ns:List Int),v=.ref a/\aM K b a (ns.map V.int)/\Q (oV (Ly ns)) b
theorem Nd{X:Cx}{e:Expr}{t:TE}{p d o:Pos}{j:Nat}{r:Pos}(w:X.calm=true)(x:Gl X "max")(f:X.mg "max"=none)(he:PE X e t)(m:fR e=true:=by rfl):PE X (.Call (.Name "max" p) [e] [⟨some "default",.Constant .none j r,o⟩] d) (Wx X.K t):=by
 walk_at "xc";refine wpAny_Call_Name_kw (nO I x f PyProof.Rows.boot_max ?_);have n:=fF (es:=[]) (env:=X.env) m;refine callWith_kw ?_ (he:=?_) (hplain:=?_)
 ·calc dy ((ag he aa m).out d pins s σ H (λg c=>match g with | [v]=>∃(a:Addr) (b:List Int),v=.ref a/\aM X.K c a (b.map V.int)/\Q (oV (Ly b)) c|_=>False) I h) λd e y=>?_;obtain⟨g,c,i,z,l⟩:=y;obtain⟨v,rfl,a,b,rfl,A,q⟩:∃v,g=[v]/\∃(a:Addr) (b:List Int),v=.ref a/\aM X.K c a (b.map V.int)/\Q (oV (Ly b)) c:=by
   match g,l with
   | [v],l=>exact⟨v,rfl,l⟩
  obtain⟨u,rfl,B⟩:=z.one
  cases B;calc kws_cons (Constant_none (kws_nil ?_));obtain⟨e,a,d,g⟩:=i.list A;calc IS (i.ok.hd w) d.isList (qk a) λv g j k e=>?_;refine⟨_,c,i.kept e,?_,q⟩
  cases f:Ly b with
  |none=>rw[f]at k;calc k
  |some i=>rw[f]at k;exact k
 ·rw[n];rfl
 ·rw[n];rfl
end L2
namespace L2
open PySem PySem.W PySem.Spec PyProof.Rows
theorem Dk:∀{xs:List V}{us:List Value},xs.length=us.length->(∀(i:Nat) x u,xs[i]?=some x->us[i]?=some u->RelV x u)->Vals xs us
 | [],[],_,_=>.nil
 | [],_::_,h,_=>nomatch h
 |_::_,[],h,_=>nomatch h
 |x::xs,u::us,h,k=>.cons (k 0 x u rfl rfl) (Dk (by simpa using h) λi y v e f=>k (i+1) y v e f)
theorem wa{xs:List V}{us:List Value}(r:Vals xs us):∀a:List Nat,Vals (a.filterMap (xs[·]?)) (a.filterMap (us[·]?))
 | []=>.nil
 |i::a=>by
  have b:=wa r a
  cases e:xs[i]? with
  |none=>rw[List.filterMap_cons_none e,List.filterMap_cons_none (r.none_of e)];calc b
  |some x=>
   obtain⟨u,a,c⟩:=r.get e;rw[List.filterMap_cons_some e,List.filterMap_cons_some a];calc .cons c b
section
variable {X:Cx}
theorem Dl{K:W.Frag}{b l:Expr}{a:TE}(c:X.K=K)(d:PE X l a):PI X b l (Hz K a):=c▸bz d
def acm:V->Option Int->Option Int->Hp->VK->Prop:=λx lo c H Q=>∃a xs,x=.ref a/\H a=some (.tup xs)/\∀p b,au H b->b p=some (.tup (dG xs lo c))->Q (.ref p) b
theorem xH{e:Expr}{d:TE}{lo c:Option Expr}{f g:TO}{a h:Pos}(he:PE X e d)(i:PO X lo f)(j:PO X c g):PE X (.Subscript e (.Slice lo c none h) a) (T9 acm d f g):=tm (λb s σ H x v k l lo c m Q I n o p q ⟨a,r,e,t,u⟩=>by subst e;calc Wd b s σ H _ v k l lo c m Q I n o p q (.inr ⟨r,t,u⟩)) he i j
def acn:R2:=λx y H Q=>∃a b xs c,x=.ref a/\y=.ref b/\H a=some (.tup xs)/\H b=some (.tup c)/\xs.length+c.length<=sizeLine/\∀p d,au H d->d p=some (.tup (xs++c))->Q (.ref p) d
theorem Dm:gK X (binaryOp .Add) acn:=λc s σ H x y v u Q I d e ⟨a,b,f,g,i,j,h⟩=>by subst i j;calc cM c s σ H _ _ v u Q I d e (.inr ⟨f,g,h⟩)
def aco:List V->Hp->VK->Prop:=λxs H Q=>match xs with
 | [.int j]=>∀r,H r=none->Q (.ref r) (upd H r (.Qn 0 j))
 |_=>False
theorem Fg:eQ X (.type "range") aco:=by
 intro a s σ H b c Q I r h
 match b,r,h with
 | [.int j],r,h=>
  obtain⟨u,rfl,t,rfl⟩:=r.one;calc call_range_1 ⟨.ref s.heap.objs.size,_,I.laid (o:=.Qn 0 j) (t':=s.toks+1+1) (λb a q=>F' _ q) (E' _) ⟨_,_,_,P' _ rfl⟩,rfl,h _ (I.aY.fresh (E' _))⟩
def Fh(n:Nat):List V:=(List.range n).map λk=>V.int (k:Nat)
def acp:List V->Hp->VK->Prop:=λxs H Q=>match xs with
 | [.ref r]=>∃n:Nat,H r=some (.Qn 0 n)/\n<=1000/\∀l,H l=none->Q (.ref l) (upd H l (.lst (Fh n)))
 |_=>False
theorem Fi(l:X.calm=true):eQ X (.type "list") acp:=by
 intro b s σ H c x Q I r h
 match c,r,h with
 | [.ref p],r,h=>
  obtain⟨u,rfl,m⟩:=r.one
  cases m;obtain⟨n,b,c,q⟩:=h;obtain⟨t,u,v,e⟩:=I.aY _ _ b;calc call_list_range (n:=n) (I.ok.hd l) (show IsRange s.heap p 0 n 1 t u v from e) (small_one () () () ()) (by rw[rangeSize_one];split<;>lia) () λm a b c d h g=>?_;refine⟨.ref s.heap.objs.size,_,I.laid (o:=.lst (Fh n)) (t':=a) d (E' _) ⟨?_,b.toList,c,Dk ?_ λi x v f w=>?_,by simpa using h⟩,rfl,q _ (I.aY.fresh (E' _))⟩
  ·unfold Fh;rw[aaC,List.length_range,sizeLine_eq];lia
  ·unfold Fh;rw[aaC,List.length_range,Array.length_toList,g.1]
  ·obtain⟨a,rfl⟩:=g.2 i v (by simpa using w);unfold Fh at f;rw[aaB]at f;obtain⟨k,d,rfl⟩:=Option.map_eq_some_iff.mp f;obtain⟨b,j⟩:=List.getElem?_eq_some_iff.mp d;rw[List.getElem_range]at j;subst j;calc⟨a,nofun⟩
def Fj(xs:List V):List V:=(sliceRange (sliceBounds none none (some (-1)) xs.length).1 (sliceBounds none none (some (-1)) xs.length).2.1 (sliceBounds none none (some (-1)) xs.length).2.2).filterMap (xs[·]?)
theorem IT{xs:List V}{x:V}(h:x∈Fj xs):x∈xs:=by
 obtain⟨i,_,e⟩:=List.mem_filterMap.mp h;calc W' e
def Wy(a c:TE):TE:=λσ H Q=>a σ H λx d=>c σ d λy b=>y=.int (-1)/\∃a xs,x=.ref a/\b a=some (.lst xs)/\∀p,b p=none->(Fj xs).length<=xs.length->Q (.ref p) (upd b p (.lst (Fj xs)))
theorem RJ{e i:Expr}{j k:TE}{m b:Pos}(he:PE X e j)(n:PE X i k):PE X (.Subscript e (.Slice none none (some i) m) b) (Wy j k):=by
 walk_at "xc";refine Subscript_ (dy (he.out pins s σ H _ I h) λv b c=>?_);obtain⟨x,e,i,p,j⟩:=c;refine wpAny_Slice ?_;rw[evalPart_none];refine K' (K' ?_);rw[evalPart_some];refine dy (n.out pins b σ e _ i j) λvs g c=>?_;obtain⟨y,r,t,u,w⟩:=c;obtain⟨rfl,a,d,rfl,z,q⟩:=w;obtain⟨l,rfl⟩:=u
 cases p;have i:Inv X pins σ r {g with heap:=g.heap.push {cls:=.type "slice",data:=.fields #[.none,.none,.int (-1) l]}}:=t.kept (t':=g.toks) λb t q=>F' _ q;obtain⟨e,j,k,m⟩:=i.list (aM.of z);have c:e.toArray.size=d.length:=by rw[aaF];exact j.length.symm
 have n:=wa j (sliceRange (sliceBounds none none (some (-1)) d.length).1 (sliceBounds none none (some (-1)) d.length).2.1 (sliceBounds none none (some (-1)) d.length).2.2);have p:=slicePick_size_le e.toArray none none (some (-1));have j:slicePick e.toArray none none (some (-1))=((sliceRange (sliceBounds none none (some (-1)) d.length).1 (sliceBounds none none (some (-1)) d.length).2.1 (sliceBounds none none (some (-1)) d.length).2.2).filterMap (e[·]?)).toArray:=by
  unfold slicePick;rw[c];simp
 have e:(Fj d).length<=d.length:=by
  have:=n.length;rw[j,aaF,c]at p;exact aaa (Nat.le_of_eq this) p
 calc tail_any (ops:=[.ref a,.ref g.heap.objs.size]) k.isList.typeIs list_getitem_lookup (wpAny_getItem_list_slice k.isList (Heap.IsSliceOf.new ..) .none .none (.int (-1) l) ∅ ?_ (by rw[c];calc m)) (by with_unfolding_all rfl);calc⟨.ref _,_,i.laid (t':=g.toks) (o:=.lst (Fj d)) (λb t q=>F' _ q) (E' _) ⟨aaa e m,_,0,n,?_⟩,rfl,q _ (i.aY.fresh (E' _)) e⟩;rw[j];calc P' _ rfl
end
end L2
namespace L2
open PySem PySem.Spec PyProof.Rows
section
variable {X:Cx}
theorem Nf{pins:List (Addr×Obj)}{σ:St}{H:Hp}{s:Shared}(I:Inv X pins σ H s){A:Around}{a c:Addr}{p q:Int×Int}(f:H a=some (.tup [.int p.1,.int p.2]))(b:H c=some (.tup [.int q.1,.int q.2]))(t:A.units+2<cLine):SeqAt.EqAt A s (.ref a) (.ref c) (decide (p=q)):=by
 by_cases e:a=c
 ·subst e;rw[f]at b;simp only[Option.some.injEq,HO.tup.injEq,List.cons.injEq,V.int.injEq,and_true]at b;rw[decide_eq_true (Prod.ext b.1 b.2)];exact SeqAt.EqAt.same _
 ·obtain⟨t,j,n,_⟩:=I.tuple (bG.of f);obtain⟨t,o,r,_⟩:=I.tuple (bG.of b);obtain⟨_,_,rfl,⟨g,rfl⟩,⟨i,rfl⟩⟩:=j.two;obtain⟨_,_,rfl,⟨k,rfl⟩,⟨l,rfl⟩⟩:=o.two;have:=SeqAt.RcAt.tuples (e:=λj=>if j=0 then p.1==q.1 else p.2==q.2) (show s.heap.IsTuple a _ from n) (show s.heap.IsTuple c _ from r) (A:=A) () λj d m=>by
   match j,d with
   |0,_=>calc SeqAt.EqAt.int_int _ _ _ _
   |1,_=>exact SeqAt.EqAt.int_int _ _ _ _
  rw[show((List.range (min ([Value.int p.1 g,Value.int p.2 i].toArray).size ([Value.int q.1 k,Value.int q.2 l].toArray).size)).all (λj=>if j=0 then p.1 == q.1 else p.2 == q.2) && ([Value.int p.1 g,Value.int p.2 i].toArray).size == ([Value.int q.1 k,Value.int q.2 l].toArray).size)=decide (p=q) from by
   show((p.1==q.1&&(p.2==q.2&&true))&&true)=_;rw[Bool.and_true,Bool.and_true];by_cases h:p=q
   ·subst h;simp
   ·rw[decide_eq_false h];by_cases d:p.1=q.1
    ·have m:p.2≠q.2:=λz=>h (Prod.ext d z);simp[m]
    ·simp[d]] at this
  calc SeqAt.EqAt.of_refs e this
def OV:R2:=λx y H Q=>∃l a xs b,∃p:Int×Int,x=.ref a/\y=.ref l/\H l=some (.lst xs)/\OT H xs b/\H a=some (.tup [.int p.1,.int p.2])/\p∈b/\Q (.bl false) H
theorem IU(M:X.A.units+64<cLine):gK X (compareOp .NotIn) OV:=by
 classical
 intro n s σ H x y v u Q I C D h;obtain⟨l,a,N,o,p,rfl,rfl,E,k,F,G,q⟩:=h
 cases C
 cases D;obtain⟨d,r,J,m⟩:=I.list (aM.of E);have f:∀(i:Nat) w,d[i]?=some w->∃b z,w=.ref b/\H b=some (.tup [.int z.1,.int z.2])/\o[i]?=some z:=λi w j=>by
  have c:i<o.length:=by rw[<-k.1,r.length];exact(List.getElem?_eq_some_iff.mp j).1
  obtain⟨b,a,K⟩:=k.2 i _ (cF c);obtain⟨h,t,L⟩:=r.get a;rw[j]at t
  cases t;exact⟨b,_,L,K,cF c⟩
 refine SeqAt.notIn_listAt (λw=>match w with | .ref b=>decide (H b=some (.tup [.int p.1,.int p.2]))|_=>false) J.isList (λw j=>?_) ⟨.bl _,H,I,rfl,?_⟩
 ·obtain⟨i,c⟩:=aap (show w ∈ d by simpa using j);obtain⟨b,z,rfl,g,_⟩:=f i w c;have:=Nf I (A:=X.A.in1) g F (show X.A.units + 1 + 2 < cLine by lia);rwa [show decide (z=p)=decide (H b=some (.tup [.int p.1,.int p.2])) from decide_eq_decide.mpr ⟨λe=>by rw[g,e],λe=>by
   rw[g] at e;simp only[Option.some.injEq,HO.tup.injEq,List.cons.injEq,V.int.injEq,and_true] at e;calc Prod.ext e.1 e.2⟩] at this
 ·obtain⟨i,c⟩:=aap G;have B:i < d.length:=by rw[<-r.length,k.1];exact(List.getElem?_eq_some_iff.mp c).1
  obtain⟨b,z,e,g,m⟩:=f i _ (cF B);rw[c]at m
  cases m;rw[show d.toArray.any (λw=>match w with | .ref b=>decide (H b=some (.tup [.int p.1,.int p.2])) | _=>false)=true from by
   rw[List.any_toArray,List.any_eq_true];calc⟨d[i],aac B,by rw[e];calc decide_eq_true g⟩]
  calc q
end
end L2
namespace IV
open PySem L2 DD
def top(i:Nat):Stmt:=PySem.Challenge.pw_cutrestore_k51_whole_falls_walked.main.body.getD i (.Pass ⟨0,0,0,0⟩)
structure Tx(K:W.Frag)(mg:Str->Option Value)(C CN CR F:Addr)(FD:List (Str×V)):Prop where
 a0:mg "isinstance"=none
 zw:mg "int"=none
 BN:mg "bool"=none
 Dn:mg "str"=none
 bP:mg "tuple"=none
 dF:mg "list"=none
 bR:mg "len"=none
 dX:mg "range"=none
 Wz:mg "min"=none
 IW:mg "max"=none
 lV:mg "all"=none
 WA:mg "any"=none
 Dp:mg "zip"=none
 cW:mg "enumerate"=none
 xI:mg "ValueError"=none
 ud:mg "sorted"=none
 dY:∃t,mg "MOST_DEEDS"=some (.int 24 t)
 dM:∃t,mg "MOST_MODULUS"=some (.int 1000000000000 t)
 dN:∃t,mg "MOST_NUMBERS"=some (.int 4 t)
 fB:∃t,mg "MOST_ROW"=some (.int 12 t)
 dB:∃t,mg "MOST_MACHINES"=some (.int 5 t)
 fG:∃t,mg "MOST_WAYS"=some (.int 10 t)
 dO:∃t,mg "MOST_LETTERS"=some (.int 20 t)
 dZ:∃t,mg "SAID_BOUND"=some (.int 1000000000000000000000000000000000000000000000000000000000000 t)
 cP:uW K C
 wd:mg "Machine"=some (.ref C)
 OW:cH K C "own_modulus"
 RK:cH K C "own_state"
 OX:cH K C "own_deeds"
 Fl:W.findIn K (.ref C) "__class__"=some (some (.builtin "object.__class__"))
 Fm:W.mroIn K C (.type "object")=some true
 cU:uW K CN
 WB:mg "Net"=some (.ref CN)
 zx:cH K CN "own_machines"
 zy:cH K CN "own_ways"
 BO:cH K CN "own_letters"
 IX:W.findIn K (.ref CN) "__class__"=some (some (.builtin "object.__class__"))
 IY:W.mroIn K CN (.type "object")=some true
 ba:uW K CR
 WC:mg "Run"=some (.ref CR)
 cQ:cH K CR "own_net"
 cX:cH K CR "picks_done"
 bY:cH K CR "states_had"
 d7:cH K CR "words_had"
 cY:cH K CR "words_said"
 bZ:cH K CR "letters_say"
 eV:cH K CR "senders"
 di:cH K CR "workers"
 IZ:W.findIn K (.ref CR) "__class__"=some (some (.builtin "object.__class__"))
 Ja:W.mroIn K CR (.type "object")=some true
 Fn:W.specialIn K (.builtin "object.__class__") "__get__"=some (some (.builtin "getset_descriptor.__get__"))
 we:W.takesIn K (.builtin "object.__class__")=some true
 i_k:W.kitOne K (.ref C) (.ref C)=some true
 Dq:mg "FORMS"=some (.ref F)
 Dr:CD K F FD
 OY:∀d:bF,∃p,PyProof.Rows.KTD.datumAt d.word FD=some (.ref p)/\∀H,bG K H p (d.vb.map V.str)
end IV
namespace IV
open PySem L2 DD
variable {D a b p:Addr}{Z:Addr->Prop}{d:bF}{G H H' H0 H1 H2:Hp}{R:Hp->Prop}{e:Int×Int}{ws:List (Int×Int×Str)}{ls ps s:List (Int×Int)}{as ms:List Addr}{es:List DV}{cut ns row:List Int}{ic:List MD}{mv wv ys:List V}{j m:Nat}{ad:Nat->Nat->Addr}{r r':RS}{σ:St}{f:Str}{dd st z:V}{Q:VK}
theorem ko{X:Cx}{c:Scope}{N:List Str}:uZ X c N λY=>Ua Y [] fP:=λ_ _ _ _=>MA
section
variable {P:Program}{w:World}{K:W.Frag}{mg:Str->Option Value}{base:Heap}{C CN CR F B:Addr}{c:Nat->Addr}{FD:List (Str×V)}
local macro_rules | `(tactic| walk_at "s") => `(tactic| exact ⟨rfl, rfl, rfl, by decide +kernel, rfl, by decide +kernel, by decide +kernel⟩)
def zqI(s:String):Array Lean.Ident:=(s.splitOn " ").toArray.map (Lean.mkIdent ·.toName)
def zqK:=zqI "tV tT Ws Ir Iu Iw Iy Iz IA Gx tC AI Z2 rU CC tB Qx GB Qw tOr Gz tIf GG Qy EE dI QB vL QU vK Bg QR QS Cw Hi xg Hk Bq A9 HY HZ Ia ON Ib Ie Ig Ih Ii T9 wX GY Md QP vM CF tBM Q1 Ik Ij QC ipI AW id_eq Rm HX Hz GL qf OG HE HH HI HJ OH HK HL HM HN OI CY yY fP tF vY V9 HC OE OF L2.start List.map_cons List.map_nil List.cons_append List.nil_append List.replicate List.getElem?_cons_zero List.getElem?_cons_succ List.set_cons_zero List.set_cons_succ"
def zqL:=zqI "BA BB xl xm xn xo List.length_cons List.length_nil List.append_nil Option.some.injEq exists_eq_left' exists_eq_left V.int.injEq V.bl.injEq V.str.injEq V.ref.injEq List.cons.injEq and_true true_and Nat.reduceSub Nat.reduceAdd"
local macro_rules | `(tactic| simp_arith only [$xs,*]) => let l:=zqK; `(tactic| simp only [$[$l:ident],*, ↓C9, ↓za, ↓tP, ↓v7, ↓tQ, $xs,*])
local macro_rules | `(tactic| simp_arith! only [$xs:simpLemma,*]) => let l:=zqK; `(tactic| dsimp only [$[$l:ident],*, ↓C9, ↓za, ↓tP, ↓v7, ↓tQ, $xs:simpLemma,*])
local macro_rules | `(tactic| walk_at "l0") => `(tactic| simp_arith! only [ED, wR, pf])
local macro_rules | `(tactic| walk_at "l1") => let l:=zqL; `(tactic| simp_arith only [ED, wR, pf, $[$l:ident],*])
local macro_rules | `(tactic| walk_at "l2") => `(tactic| simp_arith! only [ED, wR])
local macro_rules | `(tactic| walk_at "l3") => let l:=zqL; `(tactic| simp_arith only [ED, wR, $[$l:ident],*])
local macro_rules | `(tactic| walk_at "l4") => `(tactic| simp_arith! only [pf])
local macro_rules | `(tactic| walk_at "l5") => let l:=zqL; `(tactic| simp_arith only [pf, $[$l:ident],*])
local macro_rules | `(tactic| walk_at "rd") => `(tactic| first | (walk_at "l0"; try walk_at "l1") | walk_at "l1")
local macro_rules | `(tactic| right) => `(tactic| try walk_at "rd")
local macro_rules | `(tactic| walk_at "rt") => `(tactic| first | (walk_at "l2"; try walk_at "l3") | walk_at "l3")
local macro_rules | `(tactic| walk_at "gj") => `(tactic| first
  |refine cN (by assumption) (by first|rfl|exact ay (j := 0) rfl|exact ay (j := 1) rfl|exact ay (j := 2) rfl|exact ay (j := 3) rfl) ?_
  |refine bu (by assumption) (by first|rfl|exact ay (j := 0) rfl|exact ay (j := 1) rfl|assumption) ?_
  |rw [if_pos (by decide +kernel)]
  | rw [if_neg (by decide +kernel)])
local macro_rules | `(tactic| walk_at "go") => `(tactic| repeat (first|walk_at "rd"|walk_at "gj"))
local macro_rules | `(tactic| walk_at "r0") => `(tactic| first | (walk_at "l4"; try walk_at "l5") | walk_at "l5")
local macro_rules | `(tactic| walk_at "rh") => `(tactic| first | with_reducible refine L2.Rz ?_ | (with_reducible refine L2.ig ?_; intro N hN) | (with_reducible refine L2.fm ?_; intro T U hT hU))
local macro_rules | `(tactic| walk_at "rn") => `(tactic| (refine L2.aX (by assumption) ?_; (repeat walk_at "rh"); try walk_at "r0"))
local macro_rules | `(tactic| walk_at "jd") => `(tactic| first
  |(walk_at "rh"; (repeat walk_at "rh"); (try walk_at "r0"); repeat walk_at "rn")
  |(walk_at "rn"; repeat walk_at "rn")
  | (walk_at "r0"; repeat walk_at "rn"))
local macro_rules | `(tactic| left) => `(tactic| try walk_at "jd")
local macro_rules | `(tactic| walk_at "jt") => `(tactic| first | (walk_at "l2"; try walk_at "l3") | walk_at "l3")
local macro_rules | `(tactic| walk_at "jg") => `(tactic| repeat (first|walk_at "jd"|walk_at "gj"))
theorem zz:Bl (ys++[z]).length (-1)=some ys.length:=by
 unfold Bl;rw[if_neg ∅,if_pos (by simp;lia)];congr 1;simp;lia
theorem lW:gU (ys++[z]) (-1)=some z:=by
 unfold gU;rw[zz];simp
theorem Jb{α:Type}{ys:List α}{z y:α}:(ys++[z]).set ys.length y=ys++[y]:=by simp
theorem xJ{o c:HO}:upd (upd H a o) a c=upd H a c:=by
 funext b;by_cases h:b=a
 ·subst h;rw[ab,ab]
 ·rw[av h,av h,av h]
def ff(H:Hp)(p:Addr):Prop:=∃xs:List Int,H p=some (.lst (xs.map V.int))/\1<=xs.length
structure Step(p:Addr)(H H':Hp):Prop where
 fq:ff H' p
 rest:∀b o,H b=some o->b≠p->H' b=some o
theorem Step.refl(h:ff H p):Step p H H:=⟨h,λ_ _ e _=>e⟩
theorem Step.trans(a:Step p H H1)(b:Step p H1 H2):Step p H H2:=⟨b.fq,λc o e n=>b.rest c o (a.rest c o e n) n⟩
theorem ff.same(s:au H H')(h:ff H p):ff H' p:=by
 obtain⟨a,e,h⟩:=h;calc⟨a,s _ _ e,h⟩
theorem Step.same(a:Step p H H1)(b:au H1 H2):Step p H H2:=⟨a.fq.same b,λc o e n=>b _ _ (a.rest c o e n)⟩
theorem Step.set(a:Step p H H1)(xs:List Int)(h:1<=xs.length):Step p H (upd H1 p (.lst (xs.map V.int))):=
 ⟨⟨xs,ab,h⟩,λc o e n=>by rw[av n];calc a.rest c o e n⟩
theorem Step.new{q:Addr}(a:Step p H H1){o:HO}(b:H1 q=none):Step p H (upd H1 q o):=a.same (au.new o b)
theorem Step.aN(a:Step p H H1)(c:ff H p):bW H H1:=λb d e=>a.rest b _ e λz=>by
 subst z;obtain⟨a,h,_⟩:=c;rw[h]at e;cases e
theorem Step.ne{q:Addr}(c:ff H p)(b:H q=none):q≠p:=λz=>by
 subst z;obtain⟨a,h,_⟩:=c;rw[h]at b;cases b
theorem Step.over(s:au H0 H1)(a:H0 p=none)(st:Step p H1 H2):au H0 H2:=λb o e=>st.rest b o (s b o e) (ao e a)
theorem ff.upd{q:Addr}{o:HO}(h:ff H p)(b:p≠q):ff (upd H q o) p:=by
 obtain⟨a,e,h⟩:=h;calc⟨a,by rw[av b];calc e,h⟩
abbrev nZ:Stmt:=top 12
def jb:Sp:=λvs H Q _=>∃x t,vs=[x]/\Kd H x t/\Q (.bl (isI x)) H
theorem BP(D:cK K mg "is_whole" "is_whole" nZ ["thing"])(T:Tx K mg C CN CR F FD):Def P w K mg base "is_whole" 1 ["thing"] jb:=by
 have sc:aD ["thing"] ["thing"] (az nZ):=by walk_at "s"
 symm;obtain⟨x,t,rfl,a,q⟩:=h;have d:=hr.units;refine⟨_,(ak (aG (gj (aW cj rfl T.a0 uU (ag (aq 0) (ag (cq (v:=.ty "int") rfl T.zw ZU rfl) aa))) (gQ (GC (aW cj rfl T.a0 uU (ag (aq 0) (ag (cq (v:=.ty "bool") rfl T.BN PyProof.Rows.boot_bool rfl) aa)))))))),?_⟩;walk_at "rd";obtain⟨b,c,d,e,g⟩:=Ru (K:=K) a;refine cy t b a.ty d ?_;rw[g] at q
 cases b
 ·rw[if_neg T'];exact q
 ·rw[if_pos rfl];calc⟨t,c,a.ty,e,q⟩
abbrev lX:Stmt:=top 13
def b4:Sp:=λvs H Q _=>∃x t lo a,vs=[x,.int lo,.int a]/\Kd H x t/\Q (.bl (inR lo a x)) H
theorem zA(D:cK K mg "is_within" "is_within" lX ["thing","low","beyond"])(T:Tx K mg C CN CR F FD)(j:Def P w K mg base "is_whole" 1 ["thing"] jb):Def P w K mg base "is_within" 2 ["thing","low","beyond"] b4:=by
  have sc:aD ["thing","low","beyond"] ["thing","low","beyond"] (az lX):=by walk_at "s"
  symm;obtain⟨x,t,a,b,rfl,g,q⟩:=h;have k:=hr.units;refine⟨_,(ak (aG (gj (aH j hr (ag (aq 0) aa)) (gQ (yK tJ eF (aq 1) (aq 0) (aq 2)))))),?_⟩;walk_at "rd";refine cy x t rfl g ?_
  cases g<;>first
    | (rename_i i
       show ∃c,V.bl true=.bl c/\_;calc⟨true,rfl,?_⟩;rw[if_pos rfl];walk_at "rd";by_cases d:a<=i
       · rw[if_pos (by simpa using d)];have e:inR a b (.int i)=decide (i < b):=by simp[inR,d]
         rw[e]at q;exact q
       · rw[if_neg (by simpa using d)];have e:inR a b (.int i)=false:=by simp[inR,d]
         rw[e] at q;calc q)
    | (show ∃c,V.bl false=.bl c/\_
       calc⟨false,rfl,?_⟩;rw[if_neg T'];calc q)
abbrev ue:Stmt:=top 60
def Jc(K:W.Frag):Sp:=λvs H Q _=>∃(a:Addr) (ns:List Int) (k:Int),vs=[.ref a,.int k]/\aM K H a (ns.map V.int)/\0<=k/\∀c,Q (.int c) H
theorem Jd(D:cK K mg "_law_at" "_law_at" ue ["_law_script","_law_k"])(T:Tx K mg C CN CR F FD):Def P w K mg base "_law_at" 1 ["_law_script","_law_k"] (Jc K):=by
 have sc:aD ["_law_script","_law_k"] ["_law_script","_law_k"] (az ue):=by walk_at "s"
 symm;obtain⟨a,ns,k,rfl,b,c,q⟩:=h;have e:=hr.units;refine⟨_,(af (aR (aB eF (aq 1) (aW aP rfl T.bR L' (ag (aq 0) aa)) (aE _)) (ak (aG (aj e (aq 0) (aq 1)))) aJ)
  (ak (aG ai))),?_⟩
 walk_at "rd";refine bC _ (.inl ⟨_,b,rfl⟩) ?_;rw[aaC];by_cases d:k<(ns.length:Int)
 ·rw[if_pos (by simpa using d)];obtain⟨n,rfl⟩:=aah c;have e:n < ns.length:=by lia
  exact⟨_,.int ns[n],.inl b,ay (by rw[aaB,cF e];rfl),q _⟩
 ·rw[if_neg (by simpa using d)];calc q _
abbrev qo:Stmt:=top 61
def BQ:Sp:=λvs H Q _=>∃n:Int,vs=[.int n]/\∀(p:Addr) (xs:List Int),H p=none->1<=xs.length->Q (.ref p) (upd H p (.lst (xs.map V.int)))
theorem Fo(D:cK K mg "_law_pot" "_law_pot" qo ["_law_cell"])(T:Tx K mg C CN CR F FD):Def P w K mg base "_law_pot" 1 ["_law_cell"] BQ:=by
 have sc:aD ["_law_cell","_law_number","_law_pot_here","_law_k"] ["_law_cell"] (az qo):=by walk_at "s"
 symm;obtain⟨n,rfl,q⟩:=h;have c:=hr.units;refine⟨_,(af (aU (i:=1) sc.nd rfl Sort (bq cM (bq fg (bq lQ (aq 0) ai) ai) ai))
  (af (aU (i:=2) sc.nd rfl Sort (bA (ag ai aa)))
  (af (dJ PassesOwn.never rfl (cZ rfl T.dX (ag ai aa)) (aO (i:=3) sc.nd rfl Sort)
  (af (aU (i:=1) sc.nd rfl Sort (bq fg (bq cM (bq cM (bq mZ (aq 1) (aq 1)) (bq mZ ai (aq 1))) (aq 3)) ai))
  (ak (de (bq cM (bq mZ (aj c (aq 2) ai) ai) (aq 1)) (gR (aq 2) ai dA)))))
  (af (aR (PW.pt (pw_and (aB (bb c) (bq fg (aq 0) ai) ai (aE _)) (pw_and1 (aB (eX c) (bq lQ (aq 0) ai) ai (aE _))))) (ak (bN (dz nM p6 p7 bS (aq 2) (ag (bq lQ (aq 0) ai) aa)))) aJ)
  (ak (aG (aq 2))))))),?_⟩
 right;have d:Ht n 2:=⟨∅,∅⟩
 calc gN d ∅ ?_;right;calc⟨by show 1<=sizeLine;decide,λp e=>?_⟩;have c:=aax (n/2) (b:=2147483629) ∅;have c:=aan (n/2) (b:=2147483629) ∅;refine⟨40,rfl,∅,∅,j4 (n:=40) (λi σ H'=>∃(u a:Int) (z:Option V),0<=u/\u<2147483648/\σ=[some (.int n),some (.int u),some (.ref p),z]/\H'=upd H p (.lst [.int a])) ?_ ?_ ?_⟩
 ·exact⟨_,0,none,(),(),rfl,rfl⟩
 ·intro i σ H' o k;obtain⟨u,a,z,g,l,rfl,rfl⟩:=k;right;calc⟨.inl ⟨(),()⟩,?_⟩;right;calc gN (.inl ⟨(),()⟩) ∅ ?_;right;calc bu ab (ay (j:=0) rfl) ?_;right;calc⟨.inr ⟨∅,∅⟩,?_⟩;right;calc cy _ 0 ab rfl ?_;right;have c:=aax (u*u+48271*u+(0+(i:Int))) (b:=2147483647) ∅;have k:=aan (u*u+48271*u+(0+(i:Int))) (b:=2147483647) ∅;exact⟨_,_,_,c,(),⟨rfl,rfl⟩,xJ⟩
 ·intro σ H' m;obtain⟨u,a,z,g,l,rfl,rfl⟩:=m;right;calc⟨∅,?_⟩;right;split
  ·calc⟨d,?_⟩;right;split
   ·calc gN (.inl ⟨rfl,_,aM.of ab⟩) d ?_;right;calc iu _ ab (aA nofun) ?_;right;rw[xJ];exact q p [a,n/2] e nofun
   ·right;exact q p [a] e nofun
  ·right;calc q p [a] e nofun
abbrev lY:Stmt:=top 62
def iI:Sp:=λvs H Q _=>∃(p:Addr) (m:Int),vs=[.ref p,.int m]/\ff H p/\0<m/\m.natAbs.log2<9000/\∀d H',0<=d->d<m->Step p H H'->Q (.int d) H'
theorem zC(D:cK K mg "_law_digit" "_law_digit" lY ["_law_pot_here","_law_many"])(T:Tx K mg C CN CR F FD):Def P w K mg base "_law_digit" 1 ["_law_pot_here","_law_many"] iI:=by
 have sc:aD ["_law_pot_here","_law_many","_law_digit_here"] ["_law_pot_here","_law_many"] (az lY):=by walk_at "s"
 symm;obtain⟨p,m,rfl,j,d,o,q⟩:=h;have g:=hr.units;refine⟨_,(af (aU (i:=2) sc.nd rfl Sort (bq fg (aj g (aq 0) (ib fc ai)) (aq 1)))
  (af (de (bq lQ (aj g (aq 0) (ib fc ai)) (aq 1)) (gR (aq 0) (ib fc ai) dA))
  (af (aR (PW.pt (pw_and (aB (bb g) (aj g (aq 0) (ib fc ai)) ai (aE _)) (pw_and1 (aB nS (aW aP rfl T.bR L' (ag (aq 0) aa)) ai (aE _))))) (ak (bN (Q2 nM PySem.F.slot_list_pop PySem.F.type_list_pop Q3 (aq 0)))) aJ)
  (ak (aG (aq 2)))))),?_⟩
 nofun;obtain⟨k,c,r⟩:=id j;obtain⟨ys,z,rfl⟩:∃ys z,k=ys++[z]:=⟨k.dropLast,k.getLast (by intro e;rw[e]at r;simp at r),(List.dropLast_concat_getLast _).symm⟩
 rw[aaD]at c
 replace c:H p=some (.lst (ys.map V.int++[.int z])):=c
 ac_rfl;have t:Step p H H:=Step.refl j;right;calc cy _ _ (.inl (aM.of c)) lW ?_;right;calc⟨d,?_⟩;right;calc cy _ _ (.inl (aM.of c)) lW ?_;right;calc⟨⟨d,o⟩,?_⟩;right;calc cy _ _ c zz ?_;rw[Jb];calc cy _ _ (.inl (aM.of ab)) lW ?_;have l:=aax z (b:=m) ();have n:=aan z d;have u:Step p H (upd H p (.lst (ys.map V.int++[.int (z/m)]))):=by
  have:=t.set (ys++[z/m]) nofun;rw[aaD]at this;exact this
 right;split
 ·calc bC _ (.inl ⟨_,aM.of ab,rfl⟩) ?_;right;split
  ·rename_i a;have a:1<=ys.length:=by
    simp at a;lia
   calc⟨.inl ⟨rfl,_,aM.of ab⟩,?_⟩;calc⟨p,_,.int (z/m),rfl,rfl,ab,nofun,?_⟩;right;rw[List.dropLast_concat,xJ];exact q _ _ l n (t.set ys a)
  ·right;exact q _ _ l n u
 ·right;calc q _ _ l n u
theorem BR:L8 10 60:=⟨∅,∅,⋯⟩
theorem RM:L8 10 12:=⟨∅,∅,⋯⟩
theorem RN:GN 2 (10^Int.toNat 60):=.inl ⟨⋯,⋯⟩
theorem WD:(0:Int)<2*10^Int.toNat 60-1:=by decide +kernel
theorem WE:(2*10^Int.toNat 60-1:Int).natAbs.log2<9000:=by decide +kernel
theorem RO:(0:Int)<10^Int.toNat 60:=by decide +kernel
theorem RP:(10^Int.toNat 60:Int).natAbs.log2<9000:=by decide +kernel
theorem WG:(0:Int)<10^Int.toNat 12-1:=by decide +kernel
theorem RQ:(10^Int.toNat 12-1:Int).natAbs.log2<9000:=by decide +kernel
theorem dig{m:Int}{E:XK}(a:ff H p)(b:0<m)(c:m.natAbs.log2<9000)(q:∀d H',0<=d->d<m->Step p H H'->Q (.int d) H'):iI [.ref p,.int m] H Q E:=⟨p,m,rfl,a,b,c,q⟩
theorem Ng{H:Hp}{n:Nat}{x:V}{d:List DV}(h:HD H n x (.tup d)):∃k a xs,x=.ref a/\H a=some (.tup xs)/\xs.length=d.length/\∀(i:Nat) u e,xs[i]?=some u->d[i]?=some e->HD H k u e:=by
 cases h with
 |tup a b c=>calc⟨_,_,_,rfl,a,b,c⟩
abbrev oe:Stmt:=top 26
def Je:Sp:=λvs H Q _=>∃x m n d,vs=[x,.int m]/\HD H n x d/\∀H',au H H'->Q (.bl (E6 m d)) H'
theorem Nh{K:W.Frag}{H:Hp}{n:Nat}{x:V}{d:DV}(h:HD H n x d)(a:∀c,d≠.tup c):∃t,gT K H x t/\W.kitOne K t (.type "tuple")=some false:=by
 cases h with
 |bM=>calc⟨_,.bM,rfl⟩
 |bl b=>calc⟨_,.bl b,rfl⟩
 |int i=>calc⟨_,.int i,rfl⟩
 |str x=>calc⟨_,.str x,rfl⟩
 |tup e=>calc absurd rfl (a _)
 |lst e=>calc⟨_,.lst e,rfl⟩
 |dict e=>calc⟨_,.dK e,rfl⟩
theorem Ni{K:W.Frag}{H:Hp}{n:Nat}{x:V}{d:DV}(h:HD H n x d)(a:∀s,d≠.str s):∃t,gT K H x t/\W.kitOne K t (.type "str")=some false:=by
 cases h with
 |bM=>calc⟨_,.bM,rfl⟩
 |bl b=>calc⟨_,.bl b,rfl⟩
 |int i=>calc⟨_,.int i,rfl⟩
 |str x=>calc absurd rfl (a _)
 |tup e=>calc⟨_,.tup e,rfl⟩
 |lst e=>calc⟨_,.lst e,rfl⟩
 |dict e=>calc⟨_,.dK e,rfl⟩
theorem Nj{m:Int}{d:DV}(b:∀a,d≠.tup a):E6 m d=false:=by
 cases d with
 |tup a=>calc absurd rfl (b a)
 |_=>rfl
theorem Jf{m:Int}{d:DV}{r:List DV}(a:∀s,d≠.str s):E6 m (.tup (d::r))=false:=by
 cases d with
 |str s=>calc absurd rfl (a s)
 |_=>rfl
theorem BS(D:cK K mg "is_value" "is_value" oe ["thing","many"])(T:Tx K mg C CN CR F FD)(X:Def P w K mg base "is_whole" 1 ["thing"] jb)(Y:Def P w K mg base "is_within" 2 ["thing","low","beyond"] b4):Def P w K mg base "is_value" 3 ["thing","many"] Je:=by
 have sc:aD ["thing","many","word"] ["thing","many"] (az oe):=by walk_at "s"
 symm;obtain⟨x,m,n,d,rfl,G,q⟩:=h;have k:=hr.units;refine⟨_,(af (aR (PW.pt (pw_or (bI (bg (aW cj rfl T.a0 uU (ag (aq 0) (ag (cq (v:=.ty "tuple") rfl T.bP p8 rfl) aa))))) (pw_or (aB (bb k) (aW aP rfl T.bR L' (ag (aq 0) aa)) ai (aE _)) (pw_or1 (bI (bg (aW cj rfl T.a0 uU (ag (aj k (aq 0) ai) (ag (cq (v:=.ty "str") rfl T.Dn PyProof.Rows.boot_str rfl) aa))))))))) (ak (aG ia)) aJ)
  (af (aU (i:=2) sc.nd rfl Sort (aj k (aq 0) ai))
  (af (aR (aB Hy (aq 2) (bD (ag aC (ag aC (ag aC aa)))) (by with_unfolding_all rfl)) (ak (aG (ij (bb k) (aW aP rfl T.bR L' (ag (aq 0) aa)) ai (aE _)))) aJ)
  (af (aR (aB (eX k) (aW aP rfl T.bR L' (ag (aq 0) aa)) ai (aE _)) (ak (aG ia)) aJ)
  (af (aR (aB (bb k) (aq 2) aC (aE _)) (ak (aG (aH X hr (ag (aj k (aq 0) ai) aa)))) aJ)
  (ak (aG (gj (ij (bb k) (aq 2) aC (aE _)) (gQ (aH Y hr (ag (aj k (aq 0) ai) (ag ai (ag (aq 1) aa))))))))))))),?_⟩
 walk_at "rd";by_cases I:∀l,d≠.tup l
 ·obtain⟨t,o,N⟩:=Nh (K:=K) G I;calc cy t false o N ?_;rw[Nj I]at q;exact q H (au.refl H)
 ·have:∃l,d=.tup l:=Classical.byContradiction λz=>I λl e=>z ⟨l,e⟩;nofun;obtain⟨l,rfl⟩:=this;obtain⟨n,a,Z,rfl,B,O,U⟩:=Ng G;calc hZ ?_;clear hZ gZ G I
  ·skip
   refine⟨.type "tuple",true,.tup B,rfl,?_⟩;simp only[Bool.not_true,Bool.false_eq_true,if_false];refine bC _ (.inr ⟨_,bG.of B,rfl⟩) ?_;right;rcases l with _|⟨R,b⟩<;>rcases Z with _|⟨x0,J⟩
   ·exact q H (au.refl H)
   ·cases O
   ·cases O
   ·skip
    rw[if_neg (by simp;lia)];calc cy _ _ (.inr (bG.of B)) (ay (j:=0) rfl) ?_;have W:=U 0 x0 R rfl rfl;by_cases k:∀s,R≠.str s
    ·obtain⟨t,o,N⟩:=Ni (K:=K) W k;calc cy t false o N ?_;rw[Jf k]at q;exact q H (au.refl H)
    ·have:∃s,R=.str s:=Classical.byContradiction λz=>k λl e=>z ⟨l,e⟩;nofun;obtain⟨g,rfl⟩:=this;obtain rfl:=W.cT;ac_rfl;refine⟨.type "str",true,.str _,rfl,?_⟩;simp only[Bool.not_true,Bool.false_eq_true,if_false];refine cy _ _ (.inr (bG.of B)) (ay (j:=0) rfl) ?_;right;refine⟨∅,λp k=>?_⟩;have r:au H (upd H p (.tup [.str "letter",.str "way",.str "first"])):=au.new _ k;have L:=r _ _ B;refine M6 _ (.inr (bG.of ab)) rfl rfl ?_;right;have u:J.length=b.length:=by simpa using O
     by_cases M:CM (.str g) tR=true
     ·have S:E6 m (.tup (.str g::b))=decide (b.length=0):=by
       show(if CM (.str g) tR=true then decide (b.length=0) else _)=_;rw[if_pos M]
      rw[if_pos (show CM (.str g) [.str "letter",.str "way",.str "first"]=true from M)];refine bC _ (.inr ⟨_,bG.of L,rfl⟩) ?_;right;have e:decide (((J.length+1:Nat):Int)=1)=decide (b.length=0):=by
       rw[u];by_cases z:b.length=0
       ·rw[decide_eq_true z,decide_eq_true ()]
       ·rw[decide_eq_false z,decide_eq_false ()]
      rw[S]at q;have c:=q _ r;rw[<-e]at c;exact c
     ·have S:E6 m (.tup (.str g::b))=MY g m b:=by
       show(if CM (.str g) tR=true then decide (b.length=0) else _)=_;rw[if_neg M]
      rw[if_neg (show ¬CM (.str g) [.str "letter",.str "way",.str "first"]=true from M)];refine bC _ (.inr ⟨_,bG.of L,rfl⟩) ?_;right;rw[S]at q;rcases b with _|⟨z,_|⟨z',b⟩⟩<;>rcases J with _|⟨y,_|⟨k,J⟩⟩
      ·rw[if_pos nofun];exact q _ r
      ·cases u
      ·cases u
      ·cases u
      ·skip
       rw[if_neg nofun];have o:=(U 1 y z rfl rfl).same r;obtain⟨t,l⟩:=Wj o;by_cases b:g="is"
       ·rw[if_pos (by simpa using b)];calc⟨_,_,.inr (bG.of L),rfl,y,t,rfl,l,?_⟩;have c:=q _ r;simp only[MY,if_pos b]at c;rw[Rw o];exact c
       ·rw[if_neg (by simpa using b)];have c:=q _ r;simp only[MY,if_neg b] at c;by_cases k:g="number"
        ·rw[if_pos (by simpa using k)];calc⟨_,_,.inr (bG.of L),rfl,y,t,0,m,rfl,l,?_⟩;rw[decide_eq_true k,Bool.true_and]at c;rw[Rx o];exact c
        ·rw[if_neg (by simpa using k)];rw[decide_eq_false k,Bool.false_and]at c;exact c
      ·simp at u
      ·cases u
      ·simp at u
      ·rw[if_pos (by simp;lia)];calc q _ r
abbrev qp:Stmt:=top 14
def iJ:Sp:=λvs H Q _=>∃(a:Addr) (xs:List V) (lo b:Int),vs=[.ref a,.int lo,.int b]/\(H a=some (.lst xs)\/H a=some (.tup xs))/\∀H',au H H'->Q (.bl (decide (lo<=(xs.length:Int))&&decide ((xs.length:Int)<=b))) H'
theorem Fp(D:cK K mg "is_list" "is_list" qp ["things","least","most"])(T:Tx K mg C CN CR F FD):Def P w K mg base "is_list" 1 ["things","least","most"] iJ:=by
 have sc:aD ["things","least","most"] ["things","least","most"] (az qp):=by walk_at "s"
 symm;obtain⟨a,d,g,i,rfl,b,q⟩:=h;have i:=hr.units;refine⟨_,(ak (aG (gj (aW cj rfl T.a0 uU (ag (aq 0) (ag (bD (ag (cq (v:=.ty "list") rfl T.dF vE rfl) (ag (cq (v:=.ty "tuple") rfl T.bP p8 rfl) aa))) aa))) (gQ (yK tJ tJ (aq 1) (aW aP rfl T.bR L' (ag (aq 0) aa)) (aq 2)))))),?_⟩;right;refine⟨df,λp i=>?_⟩;have c:au H (upd H p (.tup [.ty "list",.ty "tuple"])):=au.new _ i;have e:∃t,gT K (upd H p (.tup [.ty "list",.ty "tuple"])) (.ref a) t/\W.kitAny K t [.type "list",.type "tuple"]=some true/\GP K (.ref a) (upd H p (.tup [.ty "list",.ty "tuple"])) d.length:=by
  rcases b with b|b
  ·exact⟨_,.lst (c _ _ b),rfl,.inl ⟨_,aM.of (c _ _ b),rfl⟩⟩
  ·exact⟨_,.tup (c _ _ b),rfl,.inr ⟨_,bG.of (c _ _ b),rfl⟩⟩
 obtain⟨t,i,j,k⟩:=e;calc Wq t true _ _ i ab rfl j ?_;rw[if_pos rfl];calc bC _ k ?_;have b:=q _ c;by_cases h:g<=(d.length:Int)
 ·rw[if_pos (by simpa using h)];rw[decide_eq_true h,Bool.true_and]at b;exact b
 ·rw[if_neg (by simpa using h)];rw[decide_eq_false h,Bool.false_and]at b;calc b
abbrev qr:Stmt:=top 32
def Ds(K:W.Frag):Sp:=λvs H Q _=>∃d:bF,vs=[.str d.word]/\∀p,bG K H p (d.vb.map V.str)->Q (.ref p) H
theorem Fq(D:cK K mg "form_of" "form_of" qr ["word"])(T:Tx K mg C CN CR F FD):Def P w K mg base "form_of" 1 ["word"] (Ds K):=by
 have sc:aD ["word"] ["word"] (az qr):=by walk_at "s"
 symm;obtain⟨d,rfl,q⟩:=h;have a:=hr.units;calc⟨_,(ak (aG (MT T.Dr rfl T.Dq (ag (aq 0) aa)))),?_⟩;obtain⟨p,a,b⟩:=T.OY d;show Q ((PyProof.Rows.KTD.datumAt d.word FD).getD .bM) H;rw[a];calc q p (b H)
abbrev qt:Stmt:=top 33
inductive kq(H:Hp)(m:Int):V->Str->Prop
 |value {n x v}:HT H n x (Val.dv v)->v.ok m->kq H m x "value"
 |number {i}:0<=i->i<m->kq H m (.int i) "number"
 |many {i}:1<=i->i<25->kq H m (.int i) "many"
 |way {i}:0<=i->kq H m (.int i) "way"
theorem kq.same{H H':Hp}{m:Int}{x:V}{w:Str}(s:au H H')(h:kq H m x w):kq H' m x w:=by
 cases h with
 |value a b=>calc .value (a.aI s.aN) b
 |number a b=>calc .number a b
 |many a b=>calc .many a b
 |way a=>calc .way a
def Dt:Sp:=λvs H Q _=>∃x w m,vs=[x,.str w,.int m]/\kq H m x w/\∀H',au H H'->Q (.bl true) H'
theorem Fs(D:cK K mg "is_part" "is_part" qt ["thing","sort","many"])(T:Tx K mg C CN CR F FD)(d:Def P w K mg base "is_value" 3 ["thing","many"] Je)(g:Def P w K mg base "is_whole" 1 ["thing"] jb)(b:Def P w K mg base "is_within" 2 ["thing","low","beyond"] b4):Def P w K mg base "is_part" 4 ["thing","sort","many"] Dt:=by
 have sc:aD ["thing","sort","many"] ["thing","sort","many"] (az qt):=by walk_at "s"
 symm;obtain⟨x,w,m,rfl,c,q⟩:=h;have a:=hr.units;refine⟨_,(af (aR (aB (bb a) (aq 1) aC (aE _)) (ak (aG (aH d hr (ag (aq 0) (ag (aq 2) aa))))) aJ)
  (af (aR (aB (bb a) (aq 1) aC (aE _)) (ak (aG (aH b hr (ag (aq 0) (ag ai (ag (aq 2) aa)))))) aJ)
  (af (aR (aB (bb a) (aq 1) aC (aE _)) (ak (aG (aH b hr (ag (aq 0) (ag ai (ag (bq cM (fS T.dY rfl) ai) aa)))))) aJ)
  (ak (aG (gj (aH g hr (ag (aq 0) aa)) (gQ (ij Rc (aq 0) ai (aE _))))))))),?_⟩
 right
 cases c with
 | @value n x v a b=>
  rw[if_pos ⋯];calc fM x m n _ rfl a.hd (λH' s=>?_);rw[Ry b];calc q H' s
 | @number i a b=>
  rw[if_neg ⋯,if_pos ⋯];calc fM (.int i) _ 0 m rfl (.int i) ?_;have e:inR 0 m (.int i)=true:=by simp[inR,a,b]
  rw[e];calc q H (au.refl H)
 | @many i a b=>
  rw[if_neg ⋯,if_neg ⋯,if_pos ⋯];calc fM (.int i) _ 1 _ rfl (.int i) ?_;have e:inR 1 (24+1) (.int i)=true:=by simp[inR,a];lia
  rw[e];calc q H (au.refl H)
 | @way i a=>
  rw[if_neg ⋯,if_neg ⋯,if_neg ⋯];calc⟨.int i,_,rfl,.int i,true,rfl,?_⟩;rw[if_pos rfl];have e:decide ((0:Int)<=i)=true:=decide_eq_true a;right;rw[e];calc q H (au.refl H)
abbrev qu:Stmt:=top 34
theorem acq{x:V}{ps:List V}:dG (x::ps) (some 1) none=ps:=by
 unfold dG;have e:HT.eE (x::ps).length 0 (some 1)=1:=by
  show(if (1:Int)<0 then((1:Int)+((x::ps).length:Int)).toNat else min (1:Int).toNat (x::ps).length)=1;rw[if_neg ∅];show min 1 (ps.length+1)=1;lia
 rw[e];show List.take ((x::ps).length-1) ps=ps;simp
theorem uf{H:Hp}{n:Nat}{x:V}{d:bF}{m:Int}(h:HT H n x d.dv)(f:d.ok m):∃a ps,x=.ref a/\H a=some (.tup (.str d.word::ps))/\ps.length=d.vb.length/\∀(i:Nat) p s,ps[i]?=some p->d.vb[i]?=some s->kq H m p s:=by
 cases d with
 |set i v=>
  nofun;obtain⟨a,u,y,z,k,rfl,e,g,l,o⟩:=bU h;obtain rfl:=g.cT;obtain rfl:=l.ck;ac_rfl;refine ua a _ rfl e rfl (λj p s b c=>?_)
  match j,b,c with
  |0,b,c=>cases b;cases c;calc .number f.1 f.2.1
  |1,b,c=>cases b;cases c;calc .value o f.2.2
 |add i v=>
  nofun;obtain⟨a,u,y,z,k,rfl,e,g,l,o⟩:=bU h;obtain rfl:=g.cT;obtain rfl:=l.ck;ac_rfl;refine ua a _ rfl e rfl (λj p s b c=>?_)
  match j,b,c with
  |0,b,c=>cases b;cases c;calc .number f.1 f.2.1
  |1,b,c=>cases b;cases c;calc .value o f.2.2
 |times i v=>
  nofun;obtain⟨a,u,y,z,k,rfl,e,g,l,o⟩:=bU h;obtain rfl:=g.cT;obtain rfl:=l.ck;ac_rfl;refine ua a _ rfl e rfl (λj p s b c=>?_)
  match j,b,c with
  |0,b,c=>cases b;cases c;calc .number f.1 f.2.1
  |1,b,c=>cases b;cases c;calc .value o f.2.2
 |put v=>
  nofun;obtain⟨a,u,y,k,rfl,e,g,l⟩:=dD h;obtain rfl:=g.cT;ac_rfl;refine ua a _ rfl e rfl (λj p s b c=>?_)
  match j,b,c with
  |0,b,c=>cases b;cases c;calc .value l f
 |drop=>
  nofun;obtain⟨a,u,k,rfl,e,g⟩:=jj h;obtain rfl:=g.cT;ac_rfl;calc⟨a,_,rfl,e,rfl,λj p s b c=>by simp at b⟩
 |send j v=>
  nofun;obtain⟨a,u,y,z,k,rfl,e,g,l,o⟩:=bU h;obtain rfl:=g.cT;obtain rfl:=l.ck;ac_rfl;refine ua a _ rfl e rfl (λj p s b c=>?_)
  match j,b,c with
  |0,b,c=>cases b;cases c;calc .way f.1
  |1,b,c=>cases b;cases c;calc .value o f.2
 |say v=>
  nofun;obtain⟨a,u,y,k,rfl,e,g,l⟩:=dD h;obtain rfl:=g.cT;ac_rfl;refine ua a _ rfl e rfl (λj p s b c=>?_)
  match j,b,c with
  |0,b,c=>cases b;cases c;calc .value l f
 |skip v w i=>
  nofun;obtain⟨a,u,y,z,t,k,rfl,e,g,l,o,q⟩:=pG h;obtain rfl:=g.cT;obtain rfl:=q.ck;ac_rfl;refine ua a _ rfl e rfl (λj p s b c=>?_)
  match j,b,c with
  |0,b,c=>cases b;cases c;calc .value l f.1
  |1,b,c=>cases b;cases c;calc .value o f.2.1
  |2,b,c=>cases b;cases c;calc .many f.2.2.1 f.2.2.2
theorem BV:d.vb.length<=3:=by cases d<;>simp[bF.vb]
def wg:Sp:=λvs H Q _=>∃x m n d,vs=[x,.int m]/\HT H n x (bF.dv d)/\d.ok m/\∀H',au H H'->Q (.bl true) H'
theorem Ft(D:cK K mg "is_deed" "is_deed" qu ["thing","many"])(T:Tx K mg C CN CR F FD)(k:Def P w K mg base "form_of" 1 ["word"] (Ds K))(O:Def P w K mg base "is_part" 4 ["thing","sort","many"] Dt):Def P w K mg base "is_deed" 5 ["thing","many"] wg:=by
 have sc:aD ["thing","many","form"] ["thing","many"] (az qu):=by walk_at "s"
 symm;obtain⟨x,m,n,d,rfl,G,I,q⟩:=h;have g:=hr.units;refine⟨_,(af (aR (PW.pt (pw_or (bI (bg (aW cj rfl T.a0 uU (ag (aq 0) (ag (cq (v:=.ty "tuple") rfl T.bP p8 rfl) aa))))) (pw_or (aB (bb g) (aW aP rfl T.bR L' (ag (aq 0) aa)) ai (aE _)) (pw_or1 (bI (bg (aW cj rfl T.a0 uU (ag (aj g (aq 0) ai) (ag (cq (v:=.ty "str") rfl T.Dn PyProof.Rows.boot_str rfl) aa))))))))) (ak (aG ia)) aJ)
  (af (aU (i:=2) sc.nd rfl Sort (aH k hr (ag (aj g (aq 0) ai) aa)))
  (af (aR (PW.pt (pw_or (aB xj (aq 2) fu (aE _)) (pw_or1 (aB (eX g) (aW aP rfl T.bR L' (ag (aq 0) aa)) (bq cM (aW aP rfl T.bR L' (ag (aq 2) aa)) ai) (aE _))))) (ak (aG ia)) aJ)
  (ak (aG (aW (eB rfl) rfl T.lV Ll (ag (cI (N':=["part","sort","many"]) (ix:=[none,none,some 1]) (Bx rfl T.Dp (ag (nU (aq 0) (dU ai) fO) (ag (aq 2) aa))) (λ_ _ _ _=>(ip (K:=K) rfl (i:=0) (j:=1) rfl (show(["part","sort","many"]:List Str).Nodup by decide +kernel) rfl rfl Sort Sort)) ko (λ_ _ _ _=>(aH O hr (ag (aq 0) (ag (aq 1) (ag (aq 2) aa)))))) aa))))))),?_⟩
 obtain⟨a,ps,rfl,g,k,R⟩:=uf G I;have O:=BV (d:=d);right;calc cy _ true (.tup g) rfl ?_;simp only[Bool.not_true,Bool.false_eq_true,if_false];calc bC _ (.inr ⟨_,bG.of g,rfl⟩) ?_;rw[if_neg (by simp;lia)];calc⟨_,.str d.word,.inr (bG.of g),ay (j:=0) rfl,_,true,.str _,rfl,?_⟩;simp only[Bool.not_true,Bool.false_eq_true,if_false];calc⟨_,.str d.word,.inr (bG.of g),ay (j:=0) rfl,d,rfl,λp G=>?_⟩;right;rw[if_neg T'];calc⟨_,.inr ⟨_,bG.of g,rfl⟩,_,.inr ⟨_,G,rfl⟩,?_⟩;rw[if_neg (by simp[k])];calc bo ?_;right;calc .inr ⟨_,g,λI H2 y l=>?_⟩;rw[acq]at l;have o:=y.Uh G;calc fM false false _ _ (Sq.t l) o (λD L=>?_);refine aZ (J:=Wc false false K I p) (n:=ps.length) (λi ys H'=>ys=List.replicate i (V.bl true)/\au H2 H') (J' (aA ())) ⟨rfl,au.new _ L⟩ ?_ ?_ ?_ ?_
 ·rintro i ys H' B ⟨_,c⟩;exact⟨ps,d.vb.map V.str,ps[i],.str (d.vb[i]'()),Sq.t (c _ _ l),c.Uh o,cF B,by rw[aaB,cF ()];rfl⟩
 ·rintro ys H' ⟨_,c⟩;exact⟨ps,d.vb.map V.str,Sq.t (c _ _ l),c.Uh o,.inl rfl⟩
 ·intro i ys H' B r M S x H4 U;nofun;obtain⟨rfl,c⟩:=S;obtain⟨T,W,rfl,X⟩:=U;obtain⟨u,v,Y,N,rfl⟩:=X ps (d.vb.map V.str) (Sq.t (c _ _ l)) (c.Uh o);rw[aaB]at N;obtain⟨z,Z,rfl⟩:=Option.map_eq_some_iff.mp N;ac_rfl;have g:au H' (upd H' T (.tup [u,.str z])):=au.new _ W;calc uS (bG.of ab) ⟨Ext.set (Ext.set (Ext.refl _) rfl) rfl,?_⟩;right;rw[if_pos trivial];calc ab9 u z m rfl ((R i u z Y Z).same (y.trans (c.trans g))) (λl k=>?_);have n:l D=some (.lst (List.replicate i (V.bl true))):=k _ _ (g _ _ r);calc bH n M B (J' (aA ())) ⟨kb _ _,λb o e=>?_⟩;rw[av (ao e L)];exact k _ _ (g _ _ (c _ _ e))
 ·rintro ys H' r M ⟨rfl,c⟩;right;rw[qh] at r;calc bC _ (aM.of r) ?_;have e:(List.replicate ps.length true).all id=true:=by simp
  rw[e];calc q _ (y.trans c)
abbrev jk:Stmt:=top 40
def LT(H:Hp)(a:Addr)(xs:List V):Prop:=H a=some (.lst xs)\/H a=some (.tup xs)
theorem LT.same{xs:List V}(s:au H H')(h:LT H a xs):LT H' a xs:=h.elim (λz=>.inl (s _ _ z)) (λz=>.inr (s _ _ z))
theorem kg{K:W.Frag}(h:LT H a ys)(q:∀p H',au H H'->H' p=some (.tup ys)->Q (.ref p) H'):xk K [.ref a] H Q:=by
 rcases h with h|h
 ·exact .inl ⟨_,aM.of h,λl b=>q l _ (au.new _ b) ab⟩
 ·calc .inr ⟨_,bG.of h,q a H (au.refl H) h⟩
def ug:Sp:=λvs H Q _=>∃(a:Addr) (ns:List Int) (lo b M:Int),vs=[.ref a,.int lo,.int b,.int M]/\LT H a (ns.map V.int)/\lo<=(ns.length:Int)/\(ns.length:Int)<=b/\b<=100/\(∀z∈ns,0<=z/\z<M)/\∀H',au H H'->Q (.bl true) H'
theorem ve(D:cK K mg "are_counted" "are_counted" jk ["things","least","most","modulus"])(T:Tx K mg C CN CR F FD)(L:Def P w K mg base "is_list" 1 ["things","least","most"] iJ)(N:Def P w K mg base "is_within" 2 ["thing","low","beyond"] b4):Def P w K mg base "are_counted" 3 ["things","least","most","modulus"] ug:=by
 have sc:aD ["things","least","most","modulus"] ["things","least","most","modulus"] (az jk):=by walk_at "s"
 symm;obtain⟨a,ns,B,G,M,rfl,g,I,m,v,y,q⟩:=h;have v:=hr.units;refine⟨_,(ak (aG (gj (aH L hr (ag (aq 0) (ag (aq 1) (ag (aq 2) aa)))) (gQ (aW (eB rfl) rfl T.lV Ll (ag (cI (N':=["thing","modulus"]) (ix:=[none,some 3]) (bz (pv 0)) (λ_ _ _ _=>(aO (i:=0) (show(["thing","modulus"]:List Str).Nodup by decide +kernel) rfl Sort)) ko (λ_ _ _ _=>(aH N hr (ag (aq 0) (ag ai (ag (aq 1) aa)))))) aa)))))),?_⟩;right;refine fM a _ B G rfl g (λH1 k=>?_);rw[aaC,decide_eq_true I,decide_eq_true m];show ∃c,V.bl true=.bl c/\_;refine bC true rfl ?_;rw[if_pos rfl];refine bo ?_;right;rcases g with g | g
 ·calc .inl ⟨⟨_,aM.of (k _ _ g)⟩,λD p=>?_⟩;refine aZ (J:=rD K a) (n:=ns.length) (λi ys H'=>ys=List.replicate i (V.bl true)/\au H1 H') (J' (aA ())) ⟨rfl,au.new _ p⟩ ?_ ?_ ?_ ?_
  ·rintro i ys H' j ⟨_,d⟩;exact⟨_,.int ns[i],aM.of (d _ _ (k _ _ g)),by rw[aaB,cF j];rfl⟩
  ·rintro ys H' ⟨_,d⟩;exact⟨_,aM.of (d _ _ (k _ _ g)),nofun⟩
  ·intro i ys H' j l r O x R S;nofun;obtain⟨rfl,d⟩:=O;obtain⟨rfl,z⟩:=S;have t:=z _ (aM.of (d _ _ (k _ _ g)));rw[aaB,cF j] at t;obtain rfl:=Option.some.inj t;ac_rfl;walk_at "xf";right;rw[if_pos trivial];refine fM (.int ns[i]) _ 0 M rfl (.int _) ?_;have u:=y ns[i] (aac j);have e:inR 0 M (.int ns[i])=true:=by simp[inR,u.1,u.2]
   rw[e];calc bH l r j (J' (aA ())) ⟨kb _ _,λb o e=>?_⟩;rw[av (ao e p)];exact d _ _ e
  ·rintro ys H' l r ⟨rfl,d⟩;right;rw[qh] at l;calc bC _ (aM.of l) ?_;have e:(List.replicate ns.length true).all id=true:=by simp
   rw[e];exact q _ (k.trans d)
 ·calc .inr ⟨⟨_,bG.of (k _ _ g)⟩,λD p=>?_⟩;refine aZ (J:=QG K a) (n:=ns.length) (λi ys H'=>ys=List.replicate i (V.bl true)/\au H1 H') (J' (aA ())) ⟨rfl,au.new _ p⟩ ?_ ?_ ?_ ?_
  ·rintro i ys H' j ⟨_,d⟩;exact⟨_,.int ns[i],bG.of (d _ _ (k _ _ g)),by rw[aaB,cF j];rfl⟩
  ·rintro ys H' ⟨_,d⟩;exact⟨_,bG.of (d _ _ (k _ _ g)),nofun⟩
  ·intro i ys H' j l r U x R W;nofun;obtain⟨rfl,d⟩:=U;obtain⟨rfl,z⟩:=W;have t:=z _ (bG.of (d _ _ (k _ _ g)));rw[aaB,cF j] at t;obtain rfl:=Option.some.inj t;ac_rfl;walk_at "xf";right;rw[if_pos trivial];refine fM (.int ns[i]) _ 0 M rfl (.int _) ?_;have u:=y ns[i] (aac j);have e:inR 0 M (.int ns[i])=true:=by simp[inR,u.1,u.2]
   rw[e];calc bH l r j (J' (aA ())) ⟨kb _ _,λb o e=>?_⟩;rw[av (ao e p)];exact d _ _ e
  ·rintro ys H' l r ⟨rfl,d⟩;right;rw[qh] at l;calc bC _ (aM.of l) ?_;have e:(List.replicate ns.length true).all id=true:=by simp
   rw[e];calc q _ (k.trans d)
abbrev gp:Stmt:=top 41
def Dv:Sp:=λvs H Q _=>∃(M:Int) (a b ad:Addr) (ns row:List Int) (xs:List V),vs=[.int M,.ref a,.ref b,.ref ad]/\2<=M/\M<=1000000000000/\LT H a (ns.map V.int)/\LT H b (row.map V.int)/\LT H ad xs/\1<=ns.length/\ns.length<=4/\row.length<=12/\(∀z∈ns,0<=z/\z<M)/\(∀z∈row,0<=z/\z<M)/\∀H',au H H'->Q .bM H'
theorem qx(D:cK K mg "refuse_machine" "refuse_machine" gp ["modulus","numbers","row","deeds"])(T:Tx K mg C CN CR F FD)(b:Def P w K mg base "are_counted" 3 ["things","least","most","modulus"] ug)(r:Def P w K mg base "is_within" 2 ["thing","low","beyond"] b4):Def P w K mg base "refuse_machine" 4 ["modulus","numbers","row","deeds"] Dv:=by
 have sc:aD ["modulus","numbers","row","deeds"] ["modulus","numbers","row","deeds"] (az gp):=by walk_at "s"
 symm;obtain⟨M,c,d,ad,ns,row,u,rfl,g,x,i,j,k,y,B,G,l,m,q⟩:=h;have u:=hr.units;refine⟨_,(af (aR (bI (bg (aH r hr (ag (aq 0) (ag ai (ag (bq cM (fS T.dM rfl) ai) aa)))))) (ak cG) aJ)
  (af (aR (bI (bg (aH b hr (ag (aq 1) (ag ai (ag (fS T.dN rfl) (ag (aq 0) aa))))))) (ak cG) aJ)
  (af (aR (bI (bg (aH b hr (ag (aq 2) (ag ai (ag (fS T.fB rfl) (ag (aq 0) aa))))))) (ak cG) aJ)
  (ak (aR (bI (bg (aW cj rfl T.a0 uU (ag (aq 3) (ag (bD (ag (cq (v:=.ty "list") rfl T.dF vE rfl) (ag (cq (v:=.ty "tuple") rfl T.bP p8 rfl) aa))) aa))))) (ak cG) aJ))))),?_⟩
 right;calc fM (.int M) _ 2 _ rfl (.int M) ?_;have e:inR 2 (1000000000000+1) (.int M)=true:=by simp[inR,g];lia
 rw[e];right;rw[if_neg ∅];calc Wr c ns 1 4 M rfl i () () ∅ l (λH1 a=>?_);right;rw[if_neg ∅];calc Wr d row 0 12 M rfl (j.same a) () () ∅ m (λH2 n=>?_);right;rw[if_neg ∅];calc⟨df,λp b=>?_⟩;have o:au H2 (upd H2 p (.tup [.ty "list",.ty "tuple"])):=au.new _ b;have I:∃t,gT K (upd H2 p (.tup [.ty "list",.ty "tuple"])) (.ref ad) t/\W.kitAny K t [.type "list",.type "tuple"]=some true:=by
  rcases k.same (a.trans (n.trans o)) with z|z
  ·exact⟨_,.lst z,rfl⟩
  ·exact⟨_,.tup z,rfl⟩
 obtain⟨t,b,c⟩:=I;calc Wq t true _ _ b ab rfl c ?_;right;rw[if_neg ∅];calc q _ (a.trans (n.trans o))
abbrev iK:Stmt:=top 42
def DL(H:Hp)(n:Nat)(xs:List V)(a:List bF):Prop:=xs.length=a.length/\∀(i:Nat) x d,xs[i]?=some x->a[i]?=some d->HT H n x (bF.dv d)
theorem DL.aI{n:Nat}{xs:List V}{a:List bF}(s:bW H H')(h:DL H n xs a):DL H' n xs a:=⟨h.1,λi x d a b=>(h.2 i x d a b).aI s⟩
theorem DL.ht{n:Nat}{xs:List V}{b:List bF}(h:DL H n xs b)(e:H a=some (.tup xs)):HT H (n+1) (.ref a) (.tup (b.map bF.dv)):=by
 calc .tup e (by rw[aaC];calc h.1) λi u d f c=>?_;rw[aaB]at c;obtain⟨dd,g,rfl⟩:=Option.map_eq_some_iff.mp c;calc h.2 i u dd f g
def Dw:Sp:=λvs H Q _=>∃(a:Addr) (xs:List V) (b:List bF) (m:Int) (n:Nat),vs=[.ref a,.int m]/\LT H a xs/\DL H n xs b/\b.length<=24/\(∀d∈b,d.ok m)/\∀H',au H H'->Q .bM H'
theorem uh(D:cK K mg "refuse_deeds" "refuse_deeds" iK ["deeds","many"])(T:Tx K mg C CN CR F FD)(B:Def P w K mg base "is_deed" 5 ["thing","many"] wg):Def P w K mg base "refuse_deeds" 6 ["deeds","many"] Dw:=by
 have sc:aD ["deeds","many","at","deed"] ["deeds","many"] (az iK):=by walk_at "s"
 symm;obtain⟨a,c,e,m,n,rfl,d,g,G,u,q⟩:=h;have G:=hr.units;refine⟨_,(ak (dJ PassesOwn.never rfl (ik rfl T.cW (ag (aq 0) aa)) (dW (i:=2) (j:=3) rfl sc.nd rfl rfl Sort Sort)
  (ak (aR (PW.pt (pw_or (aB (bb G) (aq 2) (fS T.dY rfl) (aE _)) (pw_or1 (bI (bg (aH B hr (ag (aq 3) (ag (aq 1) aa)))))))) (ak cG) aJ)))),?_⟩
 rcases d with d|d
 ·calc zh true c (Sq.l d) ?_;refine pw (xs:=c) (λi σ H'=>au H H'/\∃k o,σ=[some (.ref a),some (.int m),k,o]) ⟨au.refl H,none,none,rfl⟩ (λi σ H' ⟨b,_⟩=>Sq.l (b _ _ d)) ?_ ?_
  ·intro i x σ H1 T p I v;obtain⟨b,k,o,rfl⟩:=I;have y:i < c.length:=(List.getElem?_eq_some_iff.mp p).1;have jY:i < e.length:=by rw[<-g.1];exact y
   have r:au H1 (upd H1 T (.tup [.int i,x])):=au.new _ v;calc uS (bG.of ab) ?_;right;rw[if_neg (by simp;lia)];calc⟨x,m,n,e[i],rfl,(g.2 i x e[i] p (cF jY)).aI (b.trans r).aN,u _ (aac jY),λJ z=>?_⟩;right
   first|rw[if_neg ∅]|skip
   exact⟨b.trans (r.trans z),_,_,rfl,rfl⟩
  ·rintro σ H1 ⟨b,_⟩;exact q _ b
 ·calc zh false c (Sq.t d) ?_;refine pw (xs:=c) (λi σ H'=>au H H'/\∃k o,σ=[some (.ref a),some (.int m),k,o]) ⟨au.refl H,none,none,rfl⟩ (λi σ H' ⟨b,_⟩=>Sq.t (b _ _ d)) ?_ ?_
  ·intro i x σ H1 T p L v;obtain⟨b,k,o,rfl⟩:=L;have y:i < c.length:=(List.getElem?_eq_some_iff.mp p).1;have jY:i < e.length:=by rw[<-g.1];exact y
   have r:au H1 (upd H1 T (.tup [.int i,x])):=au.new _ v;calc uS (bG.of ab) ?_;right;rw[if_neg (by simp;lia)];calc⟨x,m,n,e[i],rfl,(g.2 i x e[i] p (cF jY)).aI (b.trans r).aN,u _ (aac jY),λJ z=>?_⟩;right
   first|rw[if_neg ∅]|skip
   exact⟨b.trans (r.trans z),_,_,rfl,rfl⟩
  ·rintro σ H1 ⟨b,_⟩;calc q _ b
abbrev qA:Stmt:=(b8 (top 46)).getD 0 (.Pass ⟨0,0,0,0⟩)
def LC(M:Int)(st dd:V):List (Str×V):=bO "own_deeds" dd (bO "own_state" st (bO "own_modulus" (.int M) []))
theorem WH{M:Int}:(LC M st dd).lookup ("own_modulus":Str)=some (.int M):=by
 unfold LC;rw[bx,if_neg ⋯,bx,if_neg ⋯,bx,if_pos rfl]
theorem acs{M:Int}:(LC M st dd).lookup ("own_state":Str)=some st:=by
 unfold LC;rw[bx,if_neg ⋯,bx,if_pos rfl]
theorem WI{M:Int}:(LC M st dd).lookup ("own_deeds":Str)=some dd:=by
 unfold LC;rw[bx,if_pos rfl]
theorem Dx{M:Int}(a:f≠"own_modulus")(b:f≠"own_state")(c:f≠"own_deeds"):(LC M st dd).lookup f=none:=by
 unfold LC;rw[bx,if_neg c,bx,if_neg b,bx,if_neg a];rfl
theorem jl{v:V}{a:List (Str×V)}{n:Nat}(h:a.length<n):(bO f v a).length<n+1:=by
 have:=lM f v a;lia
def kr(C:Addr)(H:Hp)(m:Addr)(M:Int)(ns row:List Int)(a:List bF):Prop:=∃b st dd,H m=some (.ins C b (LC M st dd))/\HT H 2 st (zb ns row)/\HT H 4 dd (.tup (a.map bF.dv))
theorem kr.same{C:Addr}{m:Addr}{M:Int}{a:List bF}(s:au H H')(h:kr C H m M ns row a):kr C H' m M ns row a:=by
 obtain⟨a,st,dd,b,c,d⟩:=h;calc⟨a,st,dd,s _ _ b,c.aI s.aN,d.aI s.aN⟩
def Dy(C:Addr):Sp:=λvs H Q _=>∃(x f:Addr) (M:Int) (c e ad:Addr) (ns row:List Int) (xs:List V) (a:List bF) (n:Nat),vs=[.ref x,.int M,.ref c,.ref e,.ref ad]/\H x=some (.ins C f [])/\2<=M/\M<=1000000000000/\LT H c (ns.map V.int)/\LT H e (row.map V.int)/\LT H ad xs/\1<=ns.length/\ns.length<=4/\row.length<=12/\
 (∀z∈ns,0<=z/\z<M)/\(∀z∈row,0<=z/\z<M)/\DL H n xs a/\n<=3/\a.length<=24/\(∀d∈a,d.ok ns.length)/\∀H',kr C H' x M ns row a->(∀b o,b≠x->H b=some o->H' b=some o)->Q .bM H'
theorem Fv(D:E5 K mg "Machine" C "Machine.__init__" qA ["self","modulus","numbers","row","deeds"])(T:Tx K mg C CN CR F FD)(iL:Def P w K mg base "refuse_deeds" 6 ["deeds","many"] Dw)(gq:Def P w K mg base "refuse_machine" 4 ["modulus","numbers","row","deeds"] Dv):y9 P w K mg base "Machine" C 7 ["self","modulus","numbers","row","deeds"] (Dy C):=by
 have sc:aD ["self","modulus","numbers","row","deeds"] ["self","modulus","numbers","row","deeds"] (az qA):=by walk_at "s"
 symm;obtain⟨x,a,M,L,ar,ad,ns,row,t,ds,n,rfl,u,Fu,qy,v,N,k,xK,Jg,pK,hb,RU,O,l,O0,aY,q⟩:=h;have l:=hr.units;refine⟨_,(af (bN (aH gq hr (ag (aq 1) (ag (aq 2) (ag (aq 3) (ag (aq 4) aa))))))
  (af (bN (aH iL hr (ag (aq 4) (ag (aW aP rfl T.bR L' (ag (aq 2) aa)) aa))))
  (af (fN (aq 0) (aq 1) (gH rfl))
  (af (fN (aq 0) (bD (ag (cL bV rfl T.bP p8 (ag (aq 2) aa)) (ag (cL bV rfl T.bP p8 (ag (aq 3) aa)) aa))) (gH rfl))
  (ak (fN (aq 0) (cL bV rfl T.bP p8 (ag (aq 4) aa)) (gH rfl))))))),?_⟩
 try walk_at "rt"
 refine⟨M,L,ar,ad,ns,row,t,rfl,Fu,qy,v,N,k,xK,Jg,pK,hb,RU,λH1 y=>?_⟩
 try walk_at "rt"
 have l:GP K (.ref L) H1 (ns.map V.int).length:=(v.same y).elim (λz=>.inl ⟨_,aM.of z,rfl⟩) (λz=>.inr ⟨_,bG.of z,rfl⟩);calc bC _ l ?_;calc ace ad t ds _ n rfl (k.same y) (O.aI y.aN) O0 (by rw[aaC];calc aY) (λH2 L=>?_);have LD:=y.trans L
 try walk_at "rt"
 have l:=LD _ _ u;calc⟨x,C,a,[],rfl,l,T.cP,T.OW,∅,?_⟩;have m:∀{b:Addr} {ys:List V},LT H b ys->b≠x:=λh z=>by
  subst z;rcases h with h|h<;>(rw[u]at h;cases h)
 have R:∀b o,b≠x->H b=some o->upd H2 x (.ins C a (bO "own_modulus" (.int M) [])) b=some o:=λb o d e=>by rw[av d];exact LD _ _ e
 have p:∀{b:Addr} {ys:List V},LT H b ys->LT (upd H2 x (.ins C a (bO "own_modulus" (.int M) []))) b ys:=λh=>by
  have g:=m h;exact h.elim (λz=>.inl (R _ _ g z)) (λz=>.inr (R _ _ g z))
 have r:upd H2 x (.ins C a (bO "own_modulus" (.int M) [])) x=some (.ins C a (bO "own_modulus" (.int M) [])):=ab;generalize Jh:upd H2 x (.ins C a (bO "own_modulus" (.int M) []))=G2 at *
 try walk_at "rt"
 refine kg (p v) λB l s3 BW=>?_
 try walk_at "rt"
 refine kg ((p N).same s3) λI S s4 sE=>?_
 try walk_at "rt"
 calc⟨df,λc l=>?_⟩;have U:=au.new (.tup [.ref B,.ref I]) l;have W:=s3.trans (s4.trans U)
 try walk_at "rt"
 calc BG x C a _ rfl (W _ _ r) T.cP T.RK (jl (n:=999) ∅) ?_;have X:HT (upd S c (.tup [.ref B,.ref I])) 2 (.ref c) (zb ns row):=cS ab (pC (U _ _ (s4 _ _ BW))) (pC (U _ _ sE));have Y:=W _ _ r;have J:∀b o,b≠x->H b=some o->upd S c (.tup [.ref B,.ref I]) b=some o:=λb o d e=>W _ _ (R b o d e);generalize hG:upd S c (.tup [.ref B,.ref I])=G at *;have tG:bW H G:=λb ys e=>J b _ (λz=>by subst z;rw[u]at e;cases e) e;have t6:bW G (upd G x (.ins C a (bO "own_state" (.ref c) (bO "own_modulus" (.int M) [])))):=(bW.refl G).upd λys e=>by rw[Y]at e;cases e
 have e6:LT (upd G x (.ins C a (bO "own_state" (.ref c) (bO "own_modulus" (.int M) [])))) ad t:=by
  have g:=m k;exact k.elim (λz=>.inl (by rw[av g];calc J _ _ g z)) (λz=>.inr (by rw[av g];calc J _ _ g z))
 have n6:∀b o,b≠x->H b=some o->upd G x (.ins C a (bO "own_state" (.ref c) (bO "own_modulus" (.int M) []))) b=some o:=λb o d e=>by rw[av d];exact J b o d e
 have i:upd G x (.ins C a (bO "own_state" (.ref c) (bO "own_modulus" (.int M) []))) x=some (.ins C a (bO "own_state" (.ref c) (bO "own_modulus" (.int M) []))):=ab;generalize hG6:upd G x (.ins C a (bO "own_state" (.ref c) (bO "own_modulus" (.int M) [])))=G6 at *
 try walk_at "rt"
 refine kg e6 λZ H7 j BY=>?_
 try walk_at "rt"
 calc BG x C a _ rfl (j _ _ i) T.cP T.OX (jl (n:=999) (jl (n:=998) ∅)) ?_;have ne4:Z≠x:=λz=>by subst z;rw[j _ _ i]at BY;cases BY
 have t8:bW H7 (upd H7 x (.ins C a (LC M (.ref c) (.ref Z)))):=(bW.refl _).upd λys e=>by rw[j _ _ i]at e;cases e
 refine q _ ⟨a,.ref c,.ref Z,ab,(X.aI t6).aI (j.aN.trans t8),?_⟩ λb o d e=>?_
 ·calc HT.mono (n:=n+1) ?_ ();calc DL.ht (O.aI (tG.trans (t6.trans (j.aN.trans t8)))) ?_;rw[av ne4];exact BY
 ·rw[av d];calc j _ _ (n6 b o d e)
abbrev eG:Stmt:=(b8 (top 46)).getD 2 (.Pass ⟨0,0,0,0⟩)
def Ji(C:Addr):Sp:=λvs H Q _=>∃(m:Addr) (M:Int) (ns row:List Int) (a:List bF),vs=[.ref m]/\kr C H m M ns row a/\∀st,HT H 2 st (zb ns row)->Q st H
theorem lC(D:il K C "first_state" "Machine.first_state" eG ["self"])(T:Tx K mg C CN CR F FD):cn P w K mg base C "first_state" 1 ["self"] (Ji C):=by
 have sc:aD ["self"] ["self"] (az eG):=by walk_at "s"
 symm;obtain⟨m,M,ns,row,d,rfl,⟨a,st,dd,b,c,e⟩,q⟩:=h;have d:=hr.units;calc⟨_,(ak (aG (bJ (aq 0) rfl))),?_⟩;calc⟨m,C,a,_,_,rfl,b,T.cP,T.RK,acs,q _ c⟩
theorem WJ{H:Hp}{n:Nat}{x:V}{b:List bF}(h:HT H (n+1) x (.tup (b.map bF.dv))):∃a xs,x=.ref a/\H a=some (.tup xs)/\DL H n xs b:=by
 cases h with
 | @tup _ a xs _ e l i=>
  calc⟨a,xs,rfl,e,by simpa using l,λj x d b c=>i j x _ b ?_⟩;rw[aaB,c];rfl
def eN(H:Hp)(n:Nat)(ys:List V)(es:List DV):Prop:=ys.length=es.length/\∀(i:Nat) y e,ys[i]?=some y->es[i]?=some e->HT H n y e
theorem eN.nil{n:Nat}:eN H n [] []:=⟨rfl,λi y e h=>by simp at h⟩
theorem eN.aI{n:Nat}(h:eN H n ys es)(t:bW H H'):eN H' n ys es:=⟨h.1,λi y e a b=>(h.2 i y e a b).aI t⟩
theorem eN.snoc{n:Nat}{y:V}{e:DV}(h:eN H n ys es)(g:HT H n y e):eN H n (ys++[y]) (es++[e]):=by
 calc⟨by simp[h.1],λi c f a b=>?_⟩;by_cases c:i<ys.length
 ·rw[aaH c]at a;rw[aaH (by rw[<-h.1];calc c)]at b;exact h.2 i _ _ a b
 ·rw[aaG ()] at a;rw[aaG (by rw[<-h.1];lia),<-h.1] at b
  cases d:i-ys.length with
  |zero=>rw[d]at a b;cases a;cases b;calc g
  |succ k=>rw[d]at a;simp at a
theorem eN.dl{n:Nat}{xs:List V}{a:List bF}(h:eN H n xs (a.map bF.dv)):DL H n xs a:=⟨by simpa using h.1,λi x d a b=>h.2 i x _ a (by rw[aaB,b];rfl)⟩
abbrev uj:Stmt:=top 52
abbrev Uk(C:Addr)(H:Hp)(m:Addr)(d:MD):Prop:=kr C H m d.M d.ns d.row d.ds
def ny(w:Int×Int×Str):DV:=.tup [.int w.1,.int w.2.1,.str w.2.2]
def qB(l:Int×Int):DV:=.tup [.int l.1,.int l.2]
def wj(m:Int)(w:Int×Int×Str):Prop:=0<=w.1/\w.1<m/\0<=w.2.1/\w.2.1<m/\(w.2.2="row"\/w.2.2="heap")
def wm(m:Int)(l:Int×Int):Prop:=0<=l.1/\l.1<m/\1-1000000000000000000000000000000000000000000000000000000000000<=l.2/\l.2<1000000000000000000000000000000000000000000000000000000000000
def zF:Sp:=λvs H Q _=>∃(x:V) (n:Nat) (a b:Int) (c:Str) (m:Int),vs=[x,.int m]/\HT H n x (ny (a,b,c))/\wj m (a,b,c)/\∀H',au H H'->Q (.bl true) H'
theorem Jj(D:cK K mg "is_way" "is_way" uj ["thing","many"])(T:Tx K mg C CN CR F FD)(l:Def P w K mg base "is_within" 2 ["thing","low","beyond"] b4):Def P w K mg base "is_way" 3 ["thing","many"] zF:=by
 have sc:aD ["thing","many"] ["thing","many"] (az uj):=by walk_at "s"
 symm;obtain⟨x,n,c,d,g,m,rfl,o,r,q⟩:=h;have i:=hr.units;refine⟨_,(af (aR (PW.pt (pw_or (bI (bg (aW cj rfl T.a0 uU (ag (aq 0) (ag (cq (v:=.ty "tuple") rfl T.bP p8 rfl) aa))))) (pw_or (aB (eX i) (aW aP rfl T.bR L' (ag (aq 0) aa)) ai (aE _)) (pw_or1 (bI (bg (aW cj rfl T.a0 uU (ag (aj i (aq 0) ai) (ag (cq (v:=.ty "str") rfl T.Dn PyProof.Rows.boot_str rfl) aa))))))))) (ak (aG ia)) aJ)
  (ak (aG (gj (aH l hr (ag (aj i (aq 0) ai) (ag ai (ag (aq 1) aa)))) (gj (aH l hr (ag (aj i (aq 0) ai) (ag ai (ag (aq 1) aa)))) (gQ (ij Hy (aj i (aq 0) ai) (bD (ag aC (ag aC aa))) (by with_unfolding_all rfl)))))))),?_⟩
 nofun;obtain⟨a,G,I,J,k,rfl,b,t,u,y⟩:=bU o;obtain rfl:=t.ck;obtain rfl:=u.ck;obtain rfl:=y.cT
 replace b:H a=some (.tup [.int c,.int d,.str g]):=b
 obtain⟨i,k,l,n,z⟩:0<=c/\c<m/\0<=d/\d<m/\(g="row"\/g="heap"):=r;ac_rfl;left;refine cy _ true (.tup b) rfl ?_;simp only[Bool.not_true,Bool.false_eq_true,if_false];refine bC _ (.inr ⟨_,bG.of b,rfl⟩) ?_;rw[if_neg nofun];refine⟨_,_,.inr (bG.of b),ay (j:=2) rfl,_,true,.str _,rfl,?_⟩;simp only[Bool.not_true,Bool.false_eq_true,if_false];left;refine cy _ _ (.inr (bG.of b)) (ay (j:=0) rfl) ?_;refine fM (.int c) _ 0 m rfl (.int c) ?_;rw[show inR 0 m (.int c)=true by simp[inR,i,k]];left;rw[if_pos trivial];refine cy _ _ (.inr (bG.of b)) (ay (j:=1) rfl) ?_;refine fM (.int d) _ 0 m rfl (.int d) ?_;rw[show inR 0 m (.int d)=true by simp[inR,l,n]];left;rw[if_pos trivial];refine ua _ _ (.inr (bG.of b)) (ay (j:=2) rfl) df (λp B=>?_);refine M6 _ (.inr (bG.of ab)) rfl rfl ?_;have e:CM (.str g) [.str "row",.str "heap"]=true:=by
  rcases z with rfl|rfl<;>decide +kernel
 rw[e];calc q _ (au.new _ B)
abbrev lZ:Stmt:=top 53
def zG:Sp:=λvs H Q _=>∃(x:V) (n:Nat) (a b:Int) (m:Int),vs=[x,.int m]/\HT H n x (qB (a,b))/\wm m (a,b)/\Q (.bl true) H
theorem zH(D:cK K mg "is_letter" "is_letter" lZ ["thing","many"])(T:Tx K mg C CN CR F FD)(g:Def P w K mg base "is_within" 2 ["thing","low","beyond"] b4):Def P w K mg base "is_letter" 3 ["thing","many"] zG:=by
 have sc:aD ["thing","many"] ["thing","many"] (az lZ):=by walk_at "s"
 symm;obtain⟨x,n,b,c,m,rfl,i,l,q⟩:=h;have e:=hr.units;refine⟨_,(af (aR (PW.pt (pw_or (bI (bg (aW cj rfl T.a0 uU (ag (aq 0) (ag (cq (v:=.ty "tuple") rfl T.bP p8 rfl) aa))))) (pw_or1 (aB (eX e) (aW aP rfl T.bR L' (ag (aq 0) aa)) ai (aE _))))) (ak (aG ia)) aJ)
  (ak (aG (gj (aH g hr (ag (aj e (aq 0) ai) (ag ai (ag (aq 1) aa)))) (gQ (aH g hr (ag (aj e (aq 0) ai) (ag (bq fQ ai (fS T.dZ rfl)) (ag (fS T.dZ rfl) aa))))))))),?_⟩
 nofun;obtain⟨a,r,t,k,rfl,d,o,p⟩:=dD i;obtain rfl:=o.ck;obtain rfl:=p.ck
 replace d:H a=some (.tup [.int b,.int c]):=d
 obtain⟨e,g,i,k⟩:0<=b/\b<m/\1-1000000000000000000000000000000000000000000000000000000000000<=c/\c<1000000000000000000000000000000000000000000000000000000000000:=l;ac_rfl;left;calc cy _ true (.tup d) rfl ?_;simp only[Bool.not_true,Bool.false_eq_true,if_false];calc bC _ (.inr ⟨_,bG.of d,rfl⟩) ?_;rw[if_neg nofun];left;calc cy _ _ (.inr (bG.of d)) (ay (j:=0) rfl) ?_;calc fM (.int b) _ 0 m rfl (.int b) ?_;rw[show inR 0 m (.int b)=true by simp[inR,e,g]];left;rw[if_pos trivial];calc cy _ _ (.inr (bG.of d)) (ay (j:=1) rfl) ?_;calc fM (.int c) _ _ _ rfl (.int c) ?_;rw[show inR (1-1000000000000000000000000000000000000000000000000000000000000) 1000000000000000000000000000000000000000000000000000000000000 (.int c)=true by simp only[inR,decide_eq_true i,decide_eq_true k,Bool.and_self]];calc q
abbrev ku:Stmt:=top 54
def Dz(C:Addr):Sp:=λvs H Q _=>∃(b c d:Addr) (ms:List Addr) (wv a:List V) (ws:List (Int×Int×Str)) (ls:List (Int×Int)),vs=[.ref b,.ref c,.ref d]/\H b=some (.lst (ms.map V.ref))/\H c=some (.lst wv)/\H d=some (.lst a)/\1<=ms.length/\ms.length<=5/\wv.length<=10/\a.length<=20/\(∀m∈ms,∃e f,H m=some (.ins C e f))/\eN H 1 wv (ws.map ny)/\eN H 1 a (ls.map qB)/\(∀w∈ws,wj ms.length w)/\(∀l∈ls,wm wv.length l)/\∀H',au H H'->Q .bM H'
theorem xM(D:cK K mg "refuse_net" "refuse_net" ku ["machines","ways","letters"])(T:Tx K mg C CN CR F FD)(l7:Def P w K mg base "is_letter" 3 ["thing","many"] zG)(O:Def P w K mg base "is_list" 1 ["things","least","most"] iJ)(uk:Def P w K mg base "is_way" 3 ["thing","many"] zF):Def P w K mg base "refuse_net" 4 ["machines","ways","letters"] (Dz C):=by
 have sc:aD ["machines","ways","letters"] ["machines","ways","letters"] (az ku):=by walk_at "s"
 symm;obtain⟨R,S,U,ms,wv,z,ws,ls,rfl,I,W,zI,Gh,Jk,rS,jm,WK,X,Y,Nl,i9,q⟩:=h;have hu:=hr.units;refine⟨_,(af (aR (PW.pt (pw_or (bI (bg (aH O hr (ag (aq 0) (ag ai (ag (fS T.dB rfl) aa)))))) (pw_or1 (bI (bg (aW (eB rfl) rfl T.lV Ll (ag (cI (N':=["one"]) (ix:=[none]) (bz (pv 0)) (λ_ _ _ _=>(aO (i:=0) (show(["one"]:List Str).Nodup by decide +kernel) rfl Sort)) ko (λ_ _ _ _=>(aW (Ip (K:=K) rfl) rfl T.a0 uU (ag (aq 0) (ag (Cu (v:=.ref C) rfl T.wd rfl) aa))))) aa))))))) (ak cG) aJ)
  (af (aR (PW.pt (pw_or (bI (bg (aH O hr (ag (aq 1) (ag ai (ag (fS T.fG rfl) aa)))))) (pw_or1 (bI (bg (aW (eB rfl) rfl T.lV Ll (ag (cI (N':=["way","machines"]) (ix:=[none,some 0]) (bz (pv 1)) (λ_ _ _ _=>(aO (i:=0) (show(["way","machines"]:List Str).Nodup by decide +kernel) rfl Sort)) ko (λ_ _ _ _=>(aH uk hr (ag (aq 0) (ag (aW (iE (K:=K) rfl) rfl T.bR L' (ag (aq 1) aa)) aa))))) aa))))))) (ak cG) aJ)
  (ak (aR (PW.pt (pw_or (bI (bg (aH O hr (ag (aq 2) (ag ai (ag (fS T.dO rfl) aa)))))) (pw_or1 (bI (bg (aW (eB rfl) rfl T.lV Ll (ag (cI (N':=["letter","ways"]) (ix:=[none,some 1]) (bz (pv 2)) (λ_ _ _ _=>(aO (i:=0) (show(["letter","ways"]:List Str).Nodup by decide +kernel) rfl Sort)) ko (λ_ _ _ _=>(aH l7 hr (ag (aq 0) (ag (aW (iE (K:=K) rfl) rfl T.bR L' (ag (aq 1) aa)) aa))))) aa))))))) (ak cG) aJ)))),?_⟩
 have O:(ms.map V.ref).length<=5:=by simpa using Jk
 left;calc fM R _ 1 _ rfl (.inl I) (λH1 Z=>?_);rw[show(decide ((1:Int)<=((ms.map V.ref).length:Int))&&decide (((ms.map V.ref).length:Int)<=5))=true by simp;lia];left
 try simp only[Bool.not_true,Bool.false_eq_true,if_false]
 have L:=Z _ _ I;calc bo ?_;left;calc .inl ⟨⟨_,aM.of L⟩,λD r=>?_⟩;refine aZ (J:=rD K R) (n:=(ms.map V.ref).length) (λi a H'=>a=List.replicate i (V.bl true)/\au H1 H') (J' (aA ())) ⟨rfl,au.new _ r⟩ ?_ ?_ ?_ ?_
 ·rintro i a H' d ⟨_,l⟩;exact⟨_,(ms.map V.ref)[i],aM.of (l _ _ L),cF d⟩
 ·rintro a H' ⟨_,l⟩;exact⟨_,aM.of (l _ _ L),E' _⟩
 ·intro i a H' d c g fW x p gc;nofun;obtain⟨rfl,l⟩:=fW;obtain⟨rfl,B⟩:=gc;ac_rfl;have G:=B _ (aM.of (l _ _ L));walk_at "xf";left;rw[if_pos trivial];have hxm:∃m,x=.ref m/\m∈ms:=by
   have:=W' G;obtain⟨m,hm,rfl⟩:=List.mem_map.mp this;exact⟨m,rfl,hm⟩
  nofun;obtain⟨m,rfl,L⟩:=hxm;obtain⟨R,fs,O⟩:=WK m L;ac_rfl;calc aca _ C _ true rfl (.ins (l _ _ (Z _ _ O)) T.cP T.Fl T.Fn T.we T.Fm) T.i_k ?_;have t:=au.refl p;calc bH (t _ _ c) g d (J' (aA ())) ⟨kb _ _,λb o e=>?_⟩;rw[av (ao e r)];exact t _ _ (l _ _ e)
 rintro a H2 c g ⟨rfl,l⟩;left;rw[qh]at c;calc bC _ (aM.of c) ?_;have e:(List.replicate (ms.map V.ref).length true).all id=true:=by simp
 rw[e];clear e c g;left
 try simp only[Bool.not_true,Bool.false_eq_true,if_false]
 have L:=Z.trans l;have O:=L _ _ W;left;calc fM S _ 0 _ rfl (.inl O) (λR l=>?_);rw[show(decide ((0:Int)<=(wv.length:Int))&&decide ((wv.length:Int)<=10))=true by simp;lia];left
 try simp only[Bool.not_true,Bool.false_eq_true,if_false]
 have M:=l _ _ O;have u:=L.trans l;calc bo ?_;left;calc .inl ⟨⟨_,aM.of M⟩,λD r=>?_⟩;refine aZ (J:=rD K S) (n:=wv.length) (λi a H'=>a=List.replicate i (V.bl true)/\au R H') (J' (aA ())) ⟨rfl,au.new _ r⟩ ?_ ?_ ?_ ?_
 ·rintro i a H' d ⟨_,j⟩;exact⟨_,wv[i],aM.of (j _ _ M),cF d⟩
 ·rintro a H' ⟨_,j⟩;exact⟨_,aM.of (j _ _ M),E' _⟩
 ·intro i a H' d c g lB x p pJ;nofun;obtain⟨rfl,j⟩:=lB;obtain⟨rfl,B⟩:=pJ;ac_rfl;have G:=B _ (aM.of (j _ _ M));walk_at "xf";left;rw[if_pos trivial];have l:i < ws.length:=by have:=X.1;rw[aaC] at this;lia
  have hw:=(X.2 i x (ny ws[i]) G (by rw[aaB,cF l];rfl)).aI (u.trans j).aN;calc bC _ (.inl ⟨_,aM.of (j _ _ (u _ _ I)),rfl⟩) ?_;refine⟨x,1,ws[i].1,ws[i].2.1,ws[i].2.2,_,rfl,hw,?_,λL t=>?_⟩
  ·have:=Nl ws[i] (aac l);simpa[wj] using this
  calc bH (t _ _ c) g d (J' (aA ())) ⟨kb _ _,λb o e=>?_⟩;rw[av (ao e r)];exact t _ _ (j _ _ e)
 rintro a H4 c g ⟨rfl,j⟩;left;rw[qh]at c;calc bC _ (aM.of c) ?_;have e:(List.replicate wv.length true).all id=true:=by simp
 rw[e];clear e c g;left
 try simp only[Bool.not_true,Bool.false_eq_true,if_false]
 have l:=u.trans j;have I:=l _ _ zI;left;calc fM U _ 0 _ rfl (.inl I) (λu j=>?_);rw[show(decide ((0:Int)<=(z.length:Int))&&decide ((z.length:Int)<=20))=true by simp;lia];left
 try simp only[Bool.not_true,Bool.false_eq_true,if_false]
 have N:=j _ _ I;have y:=l.trans j;calc bo ?_;left;calc .inl ⟨⟨_,aM.of N⟩,λD r=>?_⟩;refine aZ (J:=rD K U) (n:=z.length) (λi a H'=>a=List.replicate i (V.bl true)/\au u H') (J' (aA ())) ⟨rfl,au.new _ r⟩ ?_ ?_ ?_ ?_
 ·rintro i a H' d ⟨_,k⟩;exact⟨_,z[i],aM.of (k _ _ N),cF d⟩
 ·rintro a H' ⟨_,k⟩;exact⟨_,aM.of (k _ _ N),E' _⟩
 ·intro i a H' d c g ui x p zE;nofun;obtain⟨rfl,k⟩:=ui;obtain⟨rfl,B⟩:=zE;ac_rfl;have G:=B _ (aM.of (k _ _ N));walk_at "xf";left;rw[if_pos trivial];have j:i < ls.length:=by have:=Y.1;rw[aaC] at this;lia
  have hw:=(Y.2 i x (qB ls[i]) G (by rw[aaB,cF j];rfl)).aI (y.trans k).aN;calc bC _ (.inl ⟨_,aM.of (k _ _ (y _ _ W)),rfl⟩) ?_;refine⟨x,1,ls[i].1,ls[i].2,_,rfl,hw,?_,?_⟩
  ·have:=i9 ls[i] (aac j);simpa[wm] using this
  have t:=au.refl p;calc bH (t _ _ c) g d (J' (aA ())) ⟨kb _ _,λb o e=>?_⟩;rw[av (ao e r)];exact t _ _ (k _ _ e)
 rintro a H6 c g ⟨rfl,k⟩;left;rw[qh]at c;calc bC _ (aM.of c) ?_;have e:(List.replicate z.length true).all id=true:=by simp
 rw[e];clear e c g;left
 try simp only[Bool.not_true,Bool.false_eq_true,if_false]
 calc q _ (y.trans k)
abbrev Jm:Stmt:=(b8 (top 55)).getD 0 (.Pass ⟨0,0,0,0⟩)
def Np(a b c:V):List (Str×V):=bO "own_letters" c (bO "own_ways" b (bO "own_machines" a []))
theorem WN{a b c:V}:(Np a b c).lookup ("own_machines":Str)=some a:=by
 unfold Np;rw[bx,if_neg ⋯,bx,if_neg ⋯,bx,if_pos rfl]
theorem WO{a b c:V}:(Np a b c).lookup ("own_ways":Str)=some b:=by
 unfold Np;rw[bx,if_neg ⋯,bx,if_pos rfl]
theorem acy{a b c:V}:(Np a b c).lookup ("own_letters":Str)=some c:=by
 unfold Np;rw[bx,if_pos rfl]
theorem eO{a b c:V}(d:f≠"own_machines")(e:f≠"own_ways")(g:f≠"own_letters"):(Np a b c).lookup f=none:=by
 unfold Np;rw[bx,if_neg g,bx,if_neg e,bx,if_neg d];rfl
def nz(CN:Addr)(H:Hp)(x:Addr)(ms:List Addr)(wv d:List V):Prop:=∃e a b c,H x=some (.ins CN e (Np (.ref a) (.ref b) (.ref c)))/\H a=some (.tup (ms.map V.ref))/\H b=some (.tup wv)/\H c=some (.tup d)
theorem nz.same{CN:Addr}{x:Addr}{d:List V}(s:au H H')(h:nz CN H x ms wv d):nz CN H' x ms wv d:=by
 obtain⟨d,a,b,c,e,f,g,i⟩:=h;calc⟨d,a,b,c,s _ _ e,s _ _ f,s _ _ g,s _ _ i⟩
def zJ(C CN:Addr):Sp:=λvs H Q _=>∃(x c d e f:Addr) (ms:List Addr) (wv a:List V) (ws:List (Int×Int×Str)) (ls:List (Int×Int)),vs=[.ref x,.ref d,.ref e,.ref f]/\H x=some (.ins CN c [])/\H d=some (.lst (ms.map V.ref))/\H e=some (.lst wv)/\H f=some (.lst a)/\1<=ms.length/\ms.length<=5/\wv.length<=10/\a.length<=20/\(∀m∈ms,∃c g,H m=some (.ins C c g))/\eN H 1 wv (ws.map ny)/\eN H 1 a (ls.map qB)/\(∀w∈ws,wj ms.length w)/\(∀l∈ls,wm wv.length l)/\∀H',nz CN H' x ms wv a->(∀b o,b≠x->H b=some o->H' b=some o)->Q .bM H'
theorem WQ(D:E5 K mg "Net" CN "Net.__init__" Jm ["self","machines","ways","letters"])(T:Tx K mg C CN CR F FD)(kx:Def P w K mg base "refuse_net" 4 ["machines","ways","letters"] (Dz C)):y9 P w K mg base "Net" CN 7 ["self","machines","ways","letters"] (zJ C CN):=by
 have sc:aD ["self","machines","ways","letters"] ["self","machines","ways","letters"] (az Jm):=by walk_at "s"
 symm;obtain⟨x,a,y,B,G,ms,wv,W,ws,ls,rfl,g,j,k,l,X,Y,Z,jm,WK,sJ,Jl,Nl,i9,q⟩:=h;have hu:=hr.units;refine⟨_,(af (bN (aH kx hr (ag (aq 1) (ag (aq 2) (ag (aq 3) aa)))))
  (af (fN (aq 0) (cL bV rfl T.bP p8 (ag (aq 1) aa)) (gH rfl))
  (af (fN (aq 0) (cL bV rfl T.bP p8 (ag (aq 2) aa)) (gH rfl))
  (ak (fN (aq 0) (cL bV rfl T.bP p8 (ag (aq 3) aa)) (gH rfl)))))),?_⟩
 try walk_at "rt"
 calc⟨y,B,G,ms,wv,W,ws,ls,rfl,j,k,l,X,Y,Z,jm,WK,sJ,Jl,Nl,i9,λH1 I=>?_⟩;have W:=I _ _ g;have W:y≠x:=λz=>by subst z;rw[g]at j;cases j
 have WR:B≠x:=λz=>by subst z;rw[g]at k;cases k
 have RW:G≠x:=λz=>by subst z;rw[g]at l;cases l
 try walk_at "rt"
 refine kg (.inl (I _ _ j)) λc H2 s2 J=>?_
 try walk_at "rt"
 have m:=I.trans s2;have Fw:=m _ _ g;calc⟨x,CN,a,[],rfl,Fw,T.cU,T.zx,∅,?_⟩;have L:c≠x:=λz=>by subst z;rw[Fw]at J;cases J
 have p:∀b o,b≠x->H2 b=some o->upd H2 x (.ins CN a (bO "own_machines" (.ref c) [])) b=some o:=λb o d e=>by rw[av d];exact e
 have LH:upd H2 x (.ins CN a (bO "own_machines" (.ref c) [])) x=some (.ins CN a (bO "own_machines" (.ref c) [])):=ab;generalize hG3:upd H2 x (.ins CN a (bO "own_machines" (.ref c) []))=G3 at *;have M:=p _ _ L J;have Fx:=p _ _ WR (m _ _ k);have N:=p _ _ RW (m _ _ l)
 try walk_at "rt"
 refine kg (.inl Fx) λi r t O=>?_
 try walk_at "rt"
 have RX:=t _ _ LH;calc BG x CN a _ rfl RX T.cU T.zy (jl (n:=999) ∅) ?_;have n2:i≠x:=λz=>by subst z;rw[RX]at O;cases O
 have u:∀b o,b≠x->r b=some o->upd r x (.ins CN a (bO "own_ways" (.ref i) (bO "own_machines" (.ref c) []))) b=some o:=λb o d e=>by rw[av d];exact e
 have Gi:upd r x (.ins CN a (bO "own_ways" (.ref i) (bO "own_machines" (.ref c) []))) x=some (.ins CN a (bO "own_ways" (.ref i) (bO "own_machines" (.ref c) []))):=ab;generalize hG5:upd r x (.ins CN a (bO "own_ways" (.ref i) (bO "own_machines" (.ref c) [])))=G5 at *;have R:=u _ _ L (t _ _ M);have S:=u _ _ n2 O;have Fy:=u _ _ RW (t _ _ N)
 try walk_at "rt"
 refine kg (.inl Fy) λt3 g v U=>?_
 try walk_at "rt"
 have WT:=v _ _ Gi;calc BG x CN a _ rfl WT T.cU T.BO (jl (n:=999) (jl (n:=998) ∅)) ?_;have n3:t3≠x:=λz=>by subst z;rw[WT]at U;cases U
 refine q _ ⟨a,c,i,t3,ab,?_,?_,?_⟩ λb o d e=>?_
 ·rw[av L];exact v _ _ R
 ·rw[av n2];exact v _ _ S
 ·rw[av n3];exact U
 ·rw[av d];calc v _ _ (u _ _ d (t _ _ (p _ _ d (m _ _ e))))
abbrev iM:Stmt:=(b8 (top 55)).getD 1 (.Pass ⟨0,0,0,0⟩)
def iy(CN:Addr):Sp:=λvs H Q _=>∃(x:Addr) (ms:List Addr) (wv a:List V),vs=[.ref x]/\nz CN H x ms wv a/\∀l,H l=none->Q (.ref l) (upd H l (.lst (ms.map V.ref)))
theorem um(D:il K CN "machines" "Net.machines" iM ["self"])(T:Tx K mg C CN CR F FD):cn P w K mg base CN "machines" 1 ["self"] (iy CN):=by
 have sc:aD ["self"] ["self"] (az iM):=by walk_at "s"
 symm;obtain⟨x,ms,wv,e,rfl,⟨g,a,b,i,c,d,j,k⟩,q⟩:=h;have e:=hr.units;calc⟨_,(ak (aG (cL cw rfl T.dF vE (ag (bJ (aq 0) rfl) aa)))),?_⟩;calc fld c T.cU T.zx WN ?_;right;calc⟨_,.inr (bG.of d),λl e=>q l e⟩
abbrev oh:Stmt:=(b8 (top 55)).getD 2 (.Pass ⟨0,0,0,0⟩)
def pL(CN:Addr):Sp:=λvs H Q _=>∃(x:Addr) (ms:List Addr) (wv a:List V),vs=[.ref x]/\nz CN H x ms wv a/\∀l,H l=none->Q (.ref l) (upd H l (.lst wv))
theorem BZ(D:il K CN "ways" "Net.ways" oh ["self"])(T:Tx K mg C CN CR F FD):cn P w K mg base CN "ways" 1 ["self"] (pL CN):=by
 have sc:aD ["self"] ["self"] (az oh):=by walk_at "s"
 symm;obtain⟨x,ms,wv,e,rfl,⟨g,a,b,i,c,j,d,k⟩,q⟩:=h;have e:=hr.units;calc⟨_,(ak (aG (cL cw rfl T.dF vE (ag (bJ (aq 0) rfl) aa)))),?_⟩;calc fld c T.cU T.zy WO ?_;right;calc⟨_,.inr (bG.of d),λl e=>q l e⟩
abbrev jo:Stmt:=(b8 (top 55)).getD 3 (.Pass ⟨0,0,0,0⟩)
def rF(CN:Addr):Sp:=λvs H Q _=>∃(x:Addr) (ms:List Addr) (wv a:List V),vs=[.ref x]/\nz CN H x ms wv a/\∀l,H l=none->Q (.ref l) (upd H l (.lst a))
theorem vf(D:il K CN "letters" "Net.letters" jo ["self"])(T:Tx K mg C CN CR F FD):cn P w K mg base CN "letters" 1 ["self"] (rF CN):=by
 have sc:aD ["self"] ["self"] (az jo):=by walk_at "s"
 symm;obtain⟨x,ms,wv,e,rfl,⟨g,a,b,i,c,j,k,d⟩,q⟩:=h;have e:=hr.units;calc⟨_,(ak (aG (cL cw rfl T.dF vE (ag (bJ (aq 0) rfl) aa)))),?_⟩;calc fld c T.cU T.BO acy ?_;right;calc⟨_,.inr (bG.of d),λl e=>q l e⟩
theorem acE{l:List Int}(h:l.length=1):∃a,l=[a]:=List.length_eq_one_iff.mp h
abbrev jq:Stmt:=top 27
inductive wq(K:W.Frag)(vs:List V)(H:Hp)(Q:VK):Prop
 |mk (x:_) (st:_) (way:_) (said:_) (v:_) (ns:_) (row:_) (n:_) (h0:vs=[x,st,.int way,.int said]) (h1:HT H n x (Val.dv v)) (h2:zd K H st ns row) (h3:v.ok ns.length) (h4:Q (.int (tS ns row way said v)) H):wq K vs H Q
def zK(K:W.Frag):Sp:=λvs H Q _=>wq K vs H Q
theorem vg(D:cK K mg "plain_worth" "plain_worth" jq ["value","state","way","said"])(T:Tx K mg C CN CR F FD):Def P w K mg base "plain_worth" 1 ["value","state","way","said"] (zK K):=by
 have sc:aD ["value","state","way","said","word"] ["value","state","way","said"] (az jq):=by walk_at "s"
 symm;obtain⟨x,st,way,g,v,ns,row,n,rfl,k,B,o,q⟩:=h;have b:=hr.units;refine⟨_,(af (aU (i:=4) sc.nd rfl Sort (aj b (aq 0) ai))
  (af (aR (aB (bb b) (aq 4) aC (aE _)) (ak (aG (aj b (aq 0) ai))) aJ)
  (af (aR (aB (bb b) (aq 4) aC (aE _)) (ak (aG (aj b (aj b (aq 1) ai) (aj b (aq 0) ai)))) aJ)
  (af (aR (aB (bb b) (aq 4) aC (aE _)) (ak (aG (aq 3))) aJ)
  (af (aR (aB (bb b) (aq 4) aC (aE _)) (ak (aG (aq 2))) aJ)
  (ak (aG (GD (aB nS (aW aP rfl T.bR L' (ag (aj b (aq 1) ai) aa)) ai (aE _)) (aj b (aj b (aq 1) ai) ai) ai)))))))),?_⟩
 obtain⟨a,L,M,rfl,t,u,G⟩:=B
 cases v with
 |is z=>
  nofun;obtain⟨p,l,J,m,rfl,c,d,y⟩:=dD k;obtain rfl:=d.cT;obtain rfl:=y.ck;ac_rfl;walk_at "jd";refine cy _ _ (.inr (bG.of c)) rfl ?_;walk_at "jd"
  try rw[if_pos ⋯]
  calc⟨_,_,.inr (bG.of c),rfl,q⟩
 |number i=>
  nofun;obtain⟨p,l,J,m,rfl,c,d,y⟩:=dD k;obtain rfl:=d.cT;obtain rfl:=y.ck;obtain⟨j,rfl⟩:=aah o.1;ac_rfl;have I:j<ns.length:=by have:=o.2;lia
  walk_at "jd";refine cy _ _ (.inr (bG.of c)) rfl ?_;walk_at "jd"
  try rw[if_neg ⋯]
  left
  try rw[if_pos ⋯]
  calc⟨_,_,.inr (bG.of t),rfl,_,_,.inr (bG.of c),rfl,?_⟩;calc⟨_,.int ns[j],u,ay (by rw[aaB,cF I];rfl),?_⟩;have e:tS ns row way g (.number j)=ns[j]:=by
   show ns.getD (j:Int).toNat 0=ns[j];simp[List.getD_eq_getElem?_getD,cF I]
  rw[e]at q;calc q
 |nV=>
  nofun;obtain⟨p,l,m,rfl,c,d⟩:=jj k;obtain rfl:=d.cT;ac_rfl;walk_at "jd";refine cy _ _ (.inr (bG.of c)) rfl ?_;walk_at "jd"
  try rw[if_neg ⋯]
  left
  try rw[if_neg ⋯]
  left
  try rw[if_pos ⋯]
  calc q
 |way=>
  nofun;obtain⟨p,l,m,rfl,c,d⟩:=jj k;obtain rfl:=d.cT;ac_rfl;walk_at "jd";refine cy _ _ (.inr (bG.of c)) rfl ?_;walk_at "jd"
  try rw[if_neg ⋯]
  left
  try rw[if_neg ⋯]
  left
  try rw[if_neg ⋯]
  left
  try rw[if_pos ⋯]
  calc q
 |first=>
  nofun;obtain⟨p,l,m,rfl,c,d⟩:=jj k;obtain rfl:=d.cT;ac_rfl;walk_at "jd";refine cy _ _ (.inr (bG.of c)) rfl ?_;walk_at "jd"
  try rw[if_neg ⋯]
  left
  try rw[if_neg ⋯]
  left
  try rw[if_neg ⋯]
  left
  try rw[if_neg ⋯]
  calc cy _ _ (.inr (bG.of t)) rfl ?_;refine bC _ (G.elim (λz=>.inl ⟨_,z,rfl⟩) (λz=>.inr ⟨_,z,rfl⟩)) ?_
  cases row with
  |nil=>
   left;rw[if_neg nofun];calc q
  |cons r b=>
   left;rw[if_pos nofun];calc⟨_,_,.inr (bG.of t),rfl,_,_,G,ay (j:=0) rfl,q⟩
abbrev oj:Stmt:=top 28
inductive wt(K:W.Frag)(vs:List V)(H:Hp)(Q:VK):Prop
 |mk (x:_) (st:_) (way:_) (said:_) (m:_) (v:_) (ns:_) (row:_) (n:_) (h0:vs=[x,st,.int way,.int said,.int m]) (h1:HT H n x (Val.dv v)) (h2:zd K H st ns row) (h3:v.ok ns.length) (h4:0<m) (h5:Q (.int (tS ns row way said v%m)) H):wt K vs H Q
def zL(K:W.Frag):Sp:=λvs H Q _=>wt K vs H Q
theorem B0(D:cK K mg "worth_of" "worth_of" oj ["value","state","way","said","modulus"])(T:Tx K mg C CN CR F FD)(i:Def P w K mg base "plain_worth" 1 ["value","state","way","said"] (zK K)):Def P w K mg base "worth_of" 2 ["value","state","way","said","modulus"] (zL K):=by
 have sc:aD ["value","state","way","said","modulus"] ["value","state","way","said","modulus"] (az oj):=by walk_at "s"
 symm;obtain⟨x,st,b,a,m,v,ns,row,n,rfl,c,d,e,g,q⟩:=h;have j:=hr.units;refine⟨_,(ak (aG (bq fg (aH i hr (ag (aq 0) (ag (aq 1) (ag (aq 2) (ag (aq 3) aa))))) (aq 4)))),?_⟩;walk_at "jd";exact⟨x,st,b,a,v,ns,row,n,rfl,c,d,e,g,q⟩
abbrev l8:Stmt:=top 35
inductive VL(H:Hp)(n:Nat):List V->List Val->Prop
 |nil:VL H n [] []
 |cons {x v xs vs}:HT H n x (Val.dv v)->VL H n xs vs->VL H n (x::xs) (v::vs)
theorem VL.same{H H':Hp}{n:Nat}(s:bW H H'){xs:List V}{vs:List Val}(h:VL H n xs vs):VL H' n xs vs:=by
 induction h with
 |nil=>calc .nil
 |cons a _ b=>calc .cons (a.aI s) b
theorem VL.snoc{H:Hp}{n:Nat}{xs:List V}{vs:List Val}{x:V}{v:Val}(h:VL H n xs vs)(a:HT H n x v.dv):VL H n (xs++[x]) (vs++[v]):=by
 induction h with
 |nil=>calc .cons a .nil
 |cons a _ b=>calc .cons a b
theorem VL.len{H:Hp}{n:Nat}{xs:List V}{vs:List Val}(h:VL H n xs vs):xs.length=vs.length:=by
 induction h with
 |nil=>rfl
 |cons _ _ a=>simp[a]
inductive PL(H:Hp)(n:Nat):List V->List (Option Val)->Prop
 |nil:PL H n [] []
 |str {w xs os}:PL H n xs os->PL H n (.str w::xs) (none::os)
 |int {i xs os}:PL H n xs os->PL H n (.int i::xs) (none::os)
 |val {x v xs os}:HT H n x (Val.dv v)->PL H n xs os->PL H n (x::xs) (some v::os)
theorem PL.get{H:Hp}{n:Nat}{xs:List V}{b:List (Option Val)}(h:PL H n xs b):∀{i:Nat}{x:V},xs[i]?=some x->∃o,b[i]?=some o/\((o=none/\((∃w,x=.str w)\/∃j,x=.int j))\/∃v,o=some v/\HT H n x (Val.dv v)):=by
 induction h with
 |nil=>intro i x h;simp at h
 |str _ a=>
  intro i x h
  cases i with
  |zero=>cases h;calc⟨none,rfl,.inl ⟨rfl,.inl ⟨_,rfl⟩⟩⟩
  |succ i=>calc a h
 |int _ a=>
  intro i x h
  cases i with
  |zero=>cases h;calc⟨none,rfl,.inl ⟨rfl,.inr ⟨_,rfl⟩⟩⟩
  |succ i=>calc a h
 |val c _ a=>
  intro i x h
  cases i with
  |zero=>cases h;calc⟨some _,rfl,.inr ⟨_,rfl,c⟩⟩
  |succ i=>calc a h
theorem PL.len{H:Hp}{n:Nat}{xs:List V}{a:List (Option Val)}(h:PL H n xs a):xs.length=a.length:=by
 induction h with
 |nil=>rfl
 |str _ a=>simp[a]
 |int _ a=>simp[a]
 |val _ _ a=>simp[a]
theorem DB{H:Hp}{n:Nat}{x:V}{d:bF}(h:HT H n x d.dv):∃a xs o b,x=.ref a/\H a=some (.tup xs)/\PL H b xs o/\o.filterMap id=d.vals/\xs.length<=4:=by
 cases d with
 |set i v=>
  nofun;obtain⟨a,k,l,m,b,rfl,c,e,f,g⟩:=bU h;obtain rfl:=e.cT;obtain rfl:=f.ck;ac_rfl;calc⟨a,_,_,b,rfl,c,.str (.int (.val g .nil)),rfl,nofun⟩
 |add i v=>
  nofun;obtain⟨a,k,l,m,b,rfl,c,e,f,g⟩:=bU h;obtain rfl:=e.cT;obtain rfl:=f.ck;ac_rfl;calc⟨a,_,_,b,rfl,c,.str (.int (.val g .nil)),rfl,nofun⟩
 |times i v=>
  nofun;obtain⟨a,k,l,m,b,rfl,c,e,f,g⟩:=bU h;obtain rfl:=e.cT;obtain rfl:=f.ck;ac_rfl;calc⟨a,_,_,b,rfl,c,.str (.int (.val g .nil)),rfl,nofun⟩
 |put v=>
  nofun;obtain⟨a,k,l,b,rfl,c,e,f⟩:=dD h;obtain rfl:=e.cT;ac_rfl;calc⟨a,_,_,b,rfl,c,.str (.val f .nil),rfl,nofun⟩
 |drop=>
  nofun;obtain⟨a,k,b,rfl,c,e⟩:=jj h;obtain rfl:=e.cT;ac_rfl;calc⟨a,_,_,b,rfl,c,.str (.nil),rfl,nofun⟩
 |send j v=>
  nofun;obtain⟨a,k,l,m,b,rfl,c,e,f,g⟩:=bU h;obtain rfl:=e.cT;obtain rfl:=f.ck;ac_rfl;calc⟨a,_,_,b,rfl,c,.str (.int (.val g .nil)),rfl,nofun⟩
 |say v=>
  nofun;obtain⟨a,k,l,b,rfl,c,e,f⟩:=dD h;obtain rfl:=e.cT;ac_rfl;calc⟨a,_,_,b,rfl,c,.str (.val f .nil),rfl,nofun⟩
 |skip v i n=>
  nofun;obtain⟨a,k,l,m,q,b,rfl,c,e,f,g,p⟩:=pG h;obtain rfl:=e.cT;obtain rfl:=p.ck;ac_rfl;calc⟨a,_,_,b,rfl,c,.str (.val f (.val g (.int .nil))),rfl,nofun⟩
inductive zM(vs:List V)(H:Hp)(Q:VK):Prop
 |mk (x:_) (n:_) (d:_) (h0:vs=[x]) (h1:HT H n x (bF.dv d)) (h2:∀l zs k0 H',au H H'->H l=none->H' l=some (.lst zs)->VL H' k0 zs d.vals->Q (.ref l) H'):zM vs H Q
def DC:Sp:=λvs H Q _=>zM vs H Q
theorem zN(D:cK K mg "values_of" "values_of" l8 ["deed"])(T:Tx K mg C CN CR F FD):Def P w K mg base "values_of" 1 ["deed"] DC:=by
 have sc:aD ["deed"] ["deed"] (az l8):=by walk_at "s"
 symm;obtain⟨x,n,d,rfl,I,q⟩:=h;have hu:=hr.units;refine⟨_,(ak (aG (cI (N':=["part"]) (ix:=[none]) (bz (pv 0)) (λ_ _ _ _=>(aO (i:=0) (show(["part"]:List Str).Nodup by decide +kernel) rfl Sort)) (λ_ _ _ _=>(eW (bg (aW (vZ (K:=K) rfl) rfl T.a0 uU (ag (aq 0) (ag (cq (v:=.ty "tuple") rfl T.bP p8 rfl) aa)))))) (λ_ _ _ _=>(aq 0))))),?_⟩;obtain⟨a,k,u,L,rfl,p,M,U,T⟩:=DB I;left;refine bo ?_;left;refine .inr ⟨⟨_,bG.of p⟩,λD y=>?_⟩;refine aZ (J:=QG K a) (n:=k.length) (λi ys H'=>au H H'/\VL H' L ys ((u.take i).filterMap id)) (J' (aA ())) ⟨au.new _ y,.nil⟩ ?_ ?_ ?_ ?_
 ·rintro i ys H' z ⟨g,_⟩;exact⟨k,k[i],bG.of (g _ _ p),cF z⟩
 ·rintro ys H' ⟨g,_⟩;exact⟨k,bG.of (g _ _ p),E' _⟩
 ·intro i ys H' z l N X x r Y;nofun;obtain⟨g,m⟩:=X;obtain⟨rfl,n⟩:=Y;have I:=n k (bG.of (g _ _ p));obtain⟨o,T,Z⟩:=M.get I;ac_rfl;have O:u.take (i+1)=u.take i++[o]:=by
   rw[List.take_add_one,T];rfl
  walk_at "xf";left;rcases Z with⟨rfl,hc⟩|⟨v,rfl,B⟩
  ·have G:∃t,gT K r x t/\W.kitOne K t (.type "tuple")=some false:=by
    rcases hc with⟨w,rfl⟩|⟨j,rfl⟩
    ·exact⟨_,.str w,rfl⟩
    ·exact⟨_,.int j,rfl⟩
   obtain⟨t,i,k⟩:=G;refine cy t false i k ?_
   first|calc⟨false,rfl,?_⟩|skip
   left
   try rw[if_neg T']
   exact⟨ys,l,(),g,by rw[O];simpa using m⟩
  ·have R:=B.aI g.aN;obtain⟨b,zs,rfl,i⟩:=De R;refine cy _ true (.tup i) rfl ?_
   first|calc⟨true,rfl,?_⟩|skip
   left
   try first|rw[if_pos rfl]|rw[if_pos trivial]
   calc bH l N z (J' (aA ())) ⟨λc o e=>by rw[av (ao e y)];calc g _ _ e,?_⟩;rw[O,List.filterMap_append];have S:bW r (upd r D (.lst (ys++[.ref b]))):=(bW.refl r).upd λzs e=>by rw[l]at e;cases e
   exact(m.same S).snoc (R.aI S)
 ·rintro ys H' l N ⟨g,m⟩;rw[M.len,List.take_length,U]at m;calc q _ ys L _ g y l m
theorem xN{H:Hp}{n:Nat}{x:V}{d:bF}(f:HT H n x d.dv):∃a ps,x=.ref a/\H a=some (.tup (.str d.word::ps)):=by
  cases d with
  |drop=>
    obtain⟨g,h,i,b,c,e⟩:=jj f;obtain rfl:=e.cT;calc⟨_,_,b,c⟩
  |skip v n o=>
    obtain⟨g,h,j,l,n,i,b,c,e,k,m,o⟩:=pG f;obtain rfl:=e.cT;calc⟨_,_,b,c⟩
  |_=>
    first
    | (obtain⟨g,h,j,l,i,b,c,e,k,m⟩:=bU f
       obtain rfl:=e.cT;calc⟨_,_,b,c⟩)
    | (obtain⟨g,h,j,i,b,c,e,k⟩:=dD f
       obtain rfl:=e.cT;calc⟨_,_,b,c⟩)
theorem Jp(e:d.word="put"):d.vals.length=1/\∀row x,pD row x d=if row.length<12 then row++[x] else row:=by
 cases d<;>first|calc absurd e (by simp only[bF.word];decide)|calc⟨rfl,λ_ _=>rfl⟩
theorem Fz(e:d.word="drop"):∀row x,pD row x d=row.tail:=by
 cases d<;>first|calc absurd e (by simp only[bF.word];decide)|calc λ_ _=>rfl
theorem Jq(e:¬d.word="put")(a:¬d.word="drop"):∀row x,pD row x d=row:=by
 cases d<;>first|calc λ_ _=>rfl|calc absurd rfl e|calc absurd rfl a
theorem FA{n:Nat}(b:HT H n (.ref a) d.dv)(e:d.word="skip"):∃u v k,H a=some (.tup [.str "skip",u,v,.int k])/\d.vals.length=2/\∀x y,pE x y d=if x<y then k else 0:=by
 cases d<;>first|calc absurd e (by simp only[bF.word];decide)|skip
 obtain⟨i,j,k,l,m,n,c,f,g,o,p,h⟩:=pG b;obtain rfl:=V.ref.inj c;obtain rfl:=g.cT;obtain rfl:=h.ck;calc⟨_,_,_,f,rfl,λ_ _=>rfl⟩
theorem zP(e:¬d.word="skip"):∀x y,pE x y d=0:=by
 cases d<;>first|calc λ_ _=>rfl|calc absurd rfl e
theorem kh{n k:Nat}(h:k<n):Bl n (k:Int)=some k:=by
 unfold Bl;rw[if_pos (),if_pos ()];simp
theorem iN{ws:List Int}(h:j<ws.length):gU (ws.map V.int) ((j:Nat):Int)=some (.int (ws.getD j 0)):=ay (by rw[aaB,aS (d:=0) h];rfl)
theorem DE{M:Int}{l:List Int}(h:∀z∈l,0<=z/\z<M){j:Nat}(a:j<l.length):0<=l.getD j 0/\l.getD j 0<M:=h _ (DD.getD_mem a)
def uo(M:Int)(ns row:List Int)(x y:Int)(d:bF):List Int×List Int×List (Int×Int)×List Int×Int:=(kd M ns x d,pD row x d,iF x d,gm x d,pE x y d)
inductive WU(H:Hp)(a:Addr)(m:Int)(d:bF):Prop
 |set (j:Nat) (u:V) (hj:(j:Int)<m) (h:H a=some (.tup [.str "set",.int j,u])) (hl:d.vals.length=1) (e:∀M ns row x y,uo M ns row x y d=(ns.set j x,row,[],[],0))
 |add (j:Nat) (u:V) (hj:(j:Int)<m) (h:H a=some (.tup [.str "add",.int j,u])) (hl:d.vals.length=1) (e:∀M ns row x y,uo M ns row x y d=(ns.set j ((ns.getD j 0+x)%M),row,[],[],0))
 |times (j:Nat) (u:V) (hj:(j:Int)<m) (h:H a=some (.tup [.str "times",.int j,u])) (hl:d.vals.length=1) (e:∀M ns row x y,uo M ns row x y d=(ns.set j ((ns.getD j 0*x)%M),row,[],[],0))
 |put (u:V) (h:H a=some (.tup [.str "put",u])) (hl:d.vals.length=1) (e:∀M ns row x y,uo M ns row x y d=(ns,if row.length<12 then row++[x] else row,[],[],0))
 |drop (h:H a=some (.tup [.str "drop"])) (e:∀M ns row x y,uo M ns row x y d=(ns,row.tail,[],[],0))
 |send (j:Int) (u:V) (h:H a=some (.tup [.str "send",.int j,u])) (hl:d.vals.length=1) (e:∀M ns row x y,uo M ns row x y d=(ns,row,[(j,x)],[],0))
 |say (u:V) (h:H a=some (.tup [.str "say",u])) (hl:d.vals.length=1) (e:∀M ns row x y,uo M ns row x y d=(ns,row,[],[x],0))
 |skip (u v:V) (k:Nat) (h:H a=some (.tup [.str "skip",u,v,.int k])) (hl:d.vals.length=2) (e:∀M ns row x y,uo M ns row x y d=(ns,row,[],[],if x<y then(k:Int) else 0))
theorem wu{H:Hp}{n:Nat}{a:Addr}{d:bF}{m:Int}(k:HT H n (.ref a) d.dv)(l:d.ok m):WU H a m d:=by
 cases d with
 |set i v=>
  obtain⟨o,p,g,h,q,b,c,e,f,s⟩:=bU k;obtain rfl:=V.ref.inj b;obtain rfl:=e.cT;obtain rfl:=f.ck;obtain⟨r,rfl⟩:=aah l.1;calc .set r h l.2.1 c rfl λ_ _ _ _ _=>rfl
 |add i v=>
  obtain⟨o,p,g,h,q,b,c,e,f,s⟩:=bU k;obtain rfl:=V.ref.inj b;obtain rfl:=e.cT;obtain rfl:=f.ck;obtain⟨r,rfl⟩:=aah l.1;calc .add r h l.2.1 c rfl λ_ _ _ _ _=>rfl
 |times i v=>
  obtain⟨o,p,g,h,q,b,c,e,f,s⟩:=bU k;obtain rfl:=V.ref.inj b;obtain rfl:=e.cT;obtain rfl:=f.ck;obtain⟨r,rfl⟩:=aah l.1;calc .times r h l.2.1 c rfl λ_ _ _ _ _=>rfl
 |put v=>
  obtain⟨o,p,g,q,b,c,e,f⟩:=dD k;obtain rfl:=V.ref.inj b;obtain rfl:=e.cT;calc .put g c rfl λ_ _ _ _ _=>rfl
 |drop=>
  obtain⟨o,p,q,b,c,e⟩:=jj k;obtain rfl:=V.ref.inj b;obtain rfl:=e.cT;calc .drop c λ_ _ _ _ _=>rfl
 |send j v=>
  obtain⟨o,p,g,h,q,b,c,e,f,s⟩:=bU k;obtain rfl:=V.ref.inj b;obtain rfl:=e.cT;obtain rfl:=f.ck;calc .send j h c rfl λ_ _ _ _ _=>rfl
 |say v=>
  obtain⟨o,p,g,q,b,c,e,f⟩:=dD k;obtain rfl:=V.ref.inj b;obtain rfl:=e.cT;calc .say g c rfl λ_ _ _ _ _=>rfl
 |skip v i n=>
  obtain⟨o,p,g,h,i,q,b,c,e,f,s,t⟩:=pG k;obtain rfl:=V.ref.inj b;obtain rfl:=e.cT;obtain rfl:=t.ck;obtain⟨r,rfl⟩:=aah (Int.le_trans ∅ l.2.2.1);calc .skip g h r c rfl λ_ _ _ _ _=>rfl
abbrev gr:Stmt:=top 43
inductive DG(vs:List V)(H:Hp)(Q:VK):Prop
 |mk (an:Addr) (x:V) (l:Addr) (ns ws:List Int) (M:Int) (n:Nat) (d:bF) (h0:vs=[.ref an,x,.ref l,.int M]) (h1:H an=some (.lst (ns.map V.int))) (h2:HT H n x d.dv) (h3:H l=some (.lst (ws.map V.int))) (h4:ws.length=d.vals.length) (h5:d.ok ns.length) (h6:0<M) (h7:M<=1000000000000) (h8:(∀z∈ns,0<=z/\z<M)) (h9:∀H',H' an=some (.lst ((kd M ns (ws.getD 0 0) d).map V.int))->(∀b o,b≠an->H b=some o->H' b=some o)->Q .bM H'):DG vs H Q
def Jr:Sp:=λvs H Q _=>DG vs H Q
theorem qC(D:cK K mg "change_numbers" "change_numbers" gr ["numbers","deed","worths","modulus"])(T:Tx K mg C CN CR F FD):Def P w K mg base "change_numbers" 1 ["numbers","deed","worths","modulus"] Jr:=by
 have sc:aD ["numbers","deed","worths","modulus"] ["numbers","deed","worths","modulus"] (az gr):=by walk_at "s"
 symm;obtain⟨o,x,l,ns,ws,M,n,d,rfl,p,v,y,R,z,B,S,G,q⟩:=h;have g:=hr.units;calc⟨_,(ak (aR (aB (bb g) (aj g (aq 1) ai) aC (aE _)) (ak (de (aj g (aq 2) ai) (gR (aq 0) (aj g (aq 1) ai) dA))) (ak (aR (aB (bb g) (aj g (aq 1) ai) aC (aE _)) (ak (de (bq fg (bq cM (aj g (aq 0) (aj g (aq 1) ai)) (aj g (aq 2) ai)) (aq 3)) (gR (aq 0) (aj g (aq 1) ai) dA))) (ak (aR (aB (bb g) (aj g (aq 1) ai) aC (aE _)) (ak (de (bq fg (bq mZ (aj g (aq 0) (aj g (aq 1) ai)) (aj g (aq 2) ai)) (aq 3)) (gR (aq 0) (aj g (aq 1) ai) dA))) aJ)))))),?_⟩;nofun;obtain⟨a,ps,rfl,i⟩:=xN v;have U:=wu v z;have I:∀c:Nat,((c:Nat):Int) < ns.length->Bl (ns.map V.int).length ((c:Nat):Int)=some c/\gU (ns.map V.int) ((c:Nat):Int)=some (.int (ns.getD c 0))/\0<=ns.getD c 0/\ns.getD c 0 < M:=λc k=>⟨kh (by rw[aaC];lia),iN (),DE G ()⟩
 have J:∀c y,kd M ns (ws.getD 0 0) d=ns.set c y->Q .bM (upd H o (.lst ((ns.map V.int).set c (.int y)))):=λc y E=>q _ (by rw[ab,E,List.map_set]) λb o g e=>by rw[av g];exact e
 have r:kd M ns (ws.getD 0 0) d=ns->Q .bM H:=λE=>q H (by rw[E];calc p) λ_ _ _ e=>e;calc hZ ?_;clear hZ gZ v z i G q
 cases U with
 |set c u k i m E=>
  have L:=iN (ws:=ws) (j:=0) ();obtain⟨t,N,O⟩:=I c k;walk_at "jg";exact cy _ c p t (J _ _ (congrArg Prod.fst (E M ns [] (ws.getD 0 0) 0)))
 |add c u k i m E=>
  have L:=iN (ws:=ws) (j:=0) ();obtain⟨t,N,O⟩:=I c k;walk_at "jg";refine⟨B,?_⟩;walk_at "jg";exact cy _ c p t (J _ _ (congrArg Prod.fst (E M ns [] (ws.getD 0 0) 0)))
 |times c u k i m E=>
  have L:=iN (ws:=ws) (j:=0) ();obtain⟨t,N,O⟩:=I c k;walk_at "jg";refine gN (.inl ⟨(),()⟩) B ?_;walk_at "jg";exact cy _ c p t (J _ _ (congrArg Prod.fst (E M ns [] (ws.getD 0 0) 0)))
 |put u i m E=>walk_at "jg";exact r (congrArg Prod.fst (E M ns [] (ws.getD 0 0) 0))
 |drop i E=>walk_at "jg";exact r (congrArg Prod.fst (E M ns [] (ws.getD 0 0) 0))
 |send j u i m E=>walk_at "jg";exact r (congrArg Prod.fst (E M ns [] (ws.getD 0 0) 0))
 |say u i m E=>walk_at "jg";exact r (congrArg Prod.fst (E M ns [] (ws.getD 0 0) 0))
 |skip u v k i m E=>walk_at "jg";exact r (congrArg Prod.fst (E M ns [] (ws.getD 0 0) 0))
abbrev ky:Stmt:=top 44
inductive DI(vs:List V)(H:Hp)(Q:VK):Prop
 |mk (an:Addr) (x:V) (l:Addr) (row ws:List Int) (n:Nat) (d:bF) (h0:vs=[.ref an,x,.ref l]) (h1:H an=some (.lst (row.map V.int))) (h2:HT H n x d.dv) (h3:H l=some (.lst (ws.map V.int))) (h4:ws.length=d.vals.length) (h5:row.length<=12) (h6:∀H',H' an=some (.lst ((pD row (ws.getD 0 0) d).map V.int))->(∀b o,b≠an->H b=some o->H' b=some o)->Q .bM H'):DI vs H Q
def Js:Sp:=λvs H Q _=>DI vs H Q
theorem xO(D:cK K mg "change_row" "change_row" ky ["row","deed","worths"])(T:Tx K mg C CN CR F FD):Def P w K mg base "change_row" 1 ["row","deed","worths"] Js:=by
 have sc:aD ["row","deed","worths"] ["row","deed","worths"] (az ky):=by walk_at "s"
 symm;obtain⟨G,x,l,row,ws,n,d,rfl,c,t,I,y,g,q⟩:=h;have i:=hr.units;calc⟨_,(ak (aR (PW.pt (pw_and (aB (bb i) (aj i (aq 1) ai) aC (aE _)) (pw_and1 (aB eF (aW aP rfl T.bR L' (ag (aq 0) aa)) (fS T.fB rfl) (aE _))))) (ak (bN (dz nM p6 p7 bS (aq 0) (ag (aj i (aq 2) ai) aa)))) (ak (aR (PW.pt (pw_and (aB (bb i) (aj i (aq 1) ai) aC (aE _)) (pw_and1 (aB nS (aW aP rfl T.bR L' (ag (aq 0) aa)) ai (aE _))))) (ak (MR (aq 0) ai)) aJ)))),?_⟩;obtain⟨a,ps,rfl,p⟩:=xN t;by_cases k:d.word="put"
 ·obtain⟨g,u⟩:=Jp k;rw[k] at p;have g:=iN (ws:=ws) (j:=0) ();rw[u] at q;walk_at "jg";refine bC _ (.inl ⟨_,aM.of c,rfl⟩) ?_;rw[aaC];by_cases B:row.length < 12
  ·rw[if_pos B]at q;left;rw[if_pos (by simp;lia)];walk_at "jg";refine⟨.inl ⟨rfl,_,aM.of c⟩,?_⟩;walk_at "jg";refine iu _ c (aav (by simp;lia) (aA (n:=100) ())) ?_;exact q _ (by rw[ab,aaD];rfl) λb o v e=>by rw[av v];exact e
  ·rw[if_neg B]at q;left;rw[if_neg (by simp;lia)];walk_at "jg";exact q H c λ_ _ _ e=>e
 by_cases m:d.word="drop"
 ·rw[m] at p;rw[Fz m] at q;walk_at "jg";refine bC _ (.inl ⟨_,aM.of c,rfl⟩) ?_;clear k m t y
  cases row with
  |nil=>
   left
   try rw[if_neg nofun]
   calc q H c λ_ _ _ e=>e
  |cons r g=>
   left;rw[if_pos nofun];walk_at "jg";refine acb _ _ _ 0 rfl rfl c ∅ ∅ (by simp[seqIndex?]) ?_;exact q _ ab λb o v e=>by rw[av v];exact e
 ·rw[Jq k m]at q;left;calc cN p (ay (j:=0) rfl) ?_;left;rw[if_neg λz=>k (of_decide_eq_true z)];left;calc cN p (ay (j:=0) rfl) ?_;left;rw[if_neg λz=>m (of_decide_eq_true z)];left;calc q H c λ_ _ _ e=>e
abbrev om:Stmt:=top 45
inductive zQ(vs:List V)(H:Hp)(Q:VK):Prop
 |mk (x:V) (l:Addr) (ws:List Int) (n:Nat) (d:bF) (h0:vs=[x,.ref l]) (h1:HT H n x d.dv) (h2:H l=some (.lst (ws.map V.int))) (h3:ws.length=d.vals.length) (h4:Q (.int (pE (ws.getD 0 0) (ws.getD 1 0) d)) H):zQ vs H Q
def DJ:Sp:=λvs H Q _=>zQ vs H Q
theorem B2(D:cK K mg "left_out" "left_out" om ["deed","worths"])(T:Tx K mg C CN CR F FD):Def P w K mg base "left_out" 1 ["deed","worths"] DJ:=by
 have sc:aD ["deed","worths"] ["deed","worths"] (az om):=by walk_at "s"
 symm;obtain⟨x,l,ws,n,d,rfl,c,b,i,q⟩:=h;have b:=hr.units;refine⟨_,(af (aR (PW.pt (pw_and (aB (bb b) (aj b (aq 0) ai) aC (aE _)) (pw_and1 (aB eF (aj b (aq 1) ai) (aj b (aq 1) ai) (aE _))))) (ak (aG (aj b (aq 0) ai))) aJ)
  (ak (aG ai))),?_⟩
 obtain⟨a,ps,rfl,k⟩:=xN c;by_cases e:d.word="skip"
 ·obtain⟨u,v,b,k,l,m⟩:=FA c e;rw[m] at q;have b:=iN (ws:=ws) (j:=0) ();have b:=iN (ws:=ws) (j:=1) ();clear c i m e;walk_at "jg";by_cases g:ws.getD 0 0 < ws.getD 1 0
  ·rw[if_pos g]at q;left;rw[if_pos (decide_eq_true g)];walk_at "jg";exact q
  ·rw[if_neg g]at q;left;rw[if_neg λz=>g (of_decide_eq_true z)];left;exact q
 ·rw[zP e]at q;left;calc cN k (ay (j:=0) rfl) ?_;left;rw[if_neg λz=>e (of_decide_eq_true z)];left;calc q
theorem Jt{d:TT}{f:TS}{D:Ends}(e:St->Hp->Prop)(μ:St->Nat)(h:e σ H)
  (i:∀σ H,e σ H->d σ H λb H1=>if b=true then ∃N:St->Hp->Prop,(∀a H',N a H'->e a H'/\μ a<μ σ)/\f {D with nx:=N,ct:=N,bk:=D.nx} σ H1 else D.nx σ H1)
  (c:∀σ H (Q g:Bool->Hp->Prop),(∀b H1,Q b H1->g b H1)->d σ H Q->d σ H g):wV d f D σ H:=by
 calc⟨λm σ H=>m=μ σ/\e σ H,⟨_,rfl,h⟩,?_⟩;rintro m σ H ⟨rfl,p⟩;refine c σ H _ _ (λb H1 q=>?_) (i σ H p)
 cases b with
 |true=>
  obtain⟨N,c,d⟩:=q;calc⟨N,λa H' n=>⟨_,(c a H' n).2,rfl,(c a H' n).1⟩,d⟩
 |false=>calc q
def SL(H:Hp)(a:List V)(ps:List (Int×Int)):Prop:=a.length=ps.length/\∀(i:Nat) z p,a[i]?=some z->ps[i]?=some p->HT H 1 z (.tup [.int p.1,.int p.2])
theorem SL.aI(s:bW H H'){a:List V}{ps:List (Int×Int)}(h:SL H a ps):SL H' a ps:=⟨h.1,λi z p a b=>(h.2 i z p a b).aI s⟩
theorem SL.snoc{c:List V}{j w:Int}(h:SL H c ps)(f:HT H 1 z (.tup [.int j,.int w])):SL H (c++[z]) (ps++[(j,w)]):=by
 calc⟨by simp[h.1],λi g p a b=>?_⟩;by_cases d:i<c.length
 ·rw[aaH d]at a;rw[aaH (by rw[<-h.1];calc d)]at b;exact h.2 i g p a b
 ·rw[aaG ()] at a;rw[aaG (by rw[<-h.1];lia)] at b;rw[h.1] at a
  cases e:i-ps.length with
  |zero=>rw[e]at a b;cases a;cases b;calc f
  |succ k=>rw[e]at a;simp at a
structure Res(H H':Hp)(x:V)(s:WS):Prop where
 ex:∃p st l1 l2 zs,x=.ref p/\H' p=some (.tup [st,.ref l1,.ref l2])/\HT H' 2 st (zb s.ns s.row)/\H' l1=some (.lst zs)/\SL H' zs s.cR/\H' l2=some (.lst (s.words.map V.int))/\H l1=none/\H l2=none/\l1≠l2
theorem DK{M w:Int}(e:0<M)(b:∀z∈ns,0<=z/\z<M)(f:0<=w/\w<M):∀z∈kd M ns w d,0<=z/\z<M:=by
 have a:∀(j:Nat) (y:Int),(0<=y/\y<M)->∀z∈ns.set j y,0<=z/\z<M:=λj y g z i=>by
  rcases List.mem_or_eq_of_mem_set i with h|h
  ·exact b z h
  ·rw[h];exact g
 have c:∀y:Int,0<=y%M/\y%M<M:=λy=>⟨aax _ (),aan _ e⟩
 cases d with
 |set i v=>calc a _ _ f
 |add i v=>calc a _ _ (c _)
 |times i v=>calc a _ _ (c _)
 |_=>calc b
theorem Ju{w:Int}{row:List Int}{d:bF}(h:row.length<=12):(pD row w d).length<=12:=by
 cases d with
 |put v=>
  show(if row.length<12 then row++[w] else row).length<=12;split
  ·simp;lia
  ·calc h
 |drop=>show row.tail.length<=12;simp;lia
 |_=>calc h
theorem Jv{m w w':Int}{d:bF}(h:d.ok m):0<=pE w w' d:=by
 cases d with
 |skip v u k=>
  show 0<=(if w<w' then k else 0)
  split
  ·exact Int.le_trans ∅ h.2.2.1
  ·calc Int.le_refl _
 |_=>calc Int.le_refl _
theorem pM{m:Int}(h:d.ok m):∀v∈d.vals,v.ok m:=by
 intro v a
 cases d<;>simp only[bF.vals,List.mem_cons,List.not_mem_nil,or_false]at a
 case set=>subst a;exact h.2.2
 case add=>subst a;exact h.2.2
 case times=>subst a;exact h.2.2
 case put=>subst a;exact h
 case send=>subst a;exact h.2
 case say=>subst a;exact h
 case skip=>rcases a with rfl|rfl;calc h.1;calc h.2.1
theorem VL.get{H:Hp}{n:Nat}{xs:List V}{vs:List Val}(h:VL H n xs vs):∀{i:Nat}{x:V},xs[i]?=some x->∃v,vs[i]?=some v/\HT H n x (Val.dv v):=by
 induction h with
 |nil=>intro i x h;simp at h
 |cons a _ b=>
  intro i x h
  cases i with
  |zero=>cases h;calc⟨_,rfl,a⟩
  |succ i=>calc b h
theorem zR:d.vals.length<=2:=by cases d<;>simp[bF.vals]
theorem wx{M way said:Int}{ns row:List Int}{vs:List Val}{i:Nat}(a:0<M):0<=(vs.map (fT M way said ns row)).getD i 0/\(vs.map (fT M way said ns row)).getD i 0<M:=by
 rw[aaE,aaB]
 cases vs[i]? with
 |none=>calc⟨Int.le_refl _,a⟩
 |some v=>calc⟨aax _ (),aan _ a⟩
theorem sk1{a:Nat}{k:Int}(h:0<=k):(a:Int)+(1+k)=((a+1+k.toNat:Nat):Int):=by lia
theorem sk2{α:Type}{x:α}{xs:List α}{a k f:Nat}(h:(x::xs.drop (a+1)).length<=f+1):(xs.drop (a+1+k)).length<=f:=by
 rw[List.length_drop];rw[List.length_cons,List.length_drop]at h;lia
theorem sk3{n a:Nat}{k:Int}(b:a<n)(h:0<=k):n-((a:Int)+(1+k)).toNat<n-a:=by lia
theorem Nq{n:Nat}{w:Int}(h:HT H n (.ref a) d.dv)(e:d.word="send"):∃j u,H a=some (.tup [.str "send",.int j,u])/\iF w d=[(j,w)]/\gm w d=[]/\d.vals.length=1:=by
 cases d<;>first|calc absurd e (by simp only[bF.word];decide)|skip
 obtain⟨g,i,k,l,m,z,b,c,f,n⟩:=bU h;obtain rfl:=L2.V.ref.inj z;obtain rfl:=f.ck;obtain rfl:=c.cT;calc⟨_,_,b,rfl,rfl,rfl⟩
theorem RY{w:Int}(e:d.word="say"):gm w d=[w]/\d.vals.length=1:=by
 cases d<;>first|calc absurd e (by simp only[bF.word];decide)|calc⟨rfl,rfl⟩
theorem zS{w:Int}:(iF w d).length<=1/\(gm w d).length<=1:=by cases d<;>simp[iF,gm]
theorem Nr{w:Int}(e:¬d.word="send"):iF w d=[]:=by cases d<;>first|rfl|exact absurd rfl e
theorem Jw{w:Int}(e:¬d.word="say"):gm w d=[]:=by cases d<;>first|rfl|exact absurd rfl e
theorem zT{l:List Int}(h:0<l.length):l[0]?=some (l.getD 0 0):=by
 cases l with
 |nil=>simp at h
 |cons a r=>rfl
abbrev gs:Stmt:=(b8 (top 46)).getD 4 (.Pass ⟨0,0,0,0⟩)
def muW(n:Nat)(σ:St):Nat:=match σ[8]? with
 |some (some (V.int i))=>n-i.toNat
 |_=>0
inductive uq(K:W.Frag)(C:Addr)(vs:List V)(H:Hp)(Q:VK):Prop
 |mk (m:Addr) (st:V) (way said M:Int) (ns0 E9:List Int) (ds:List bF) (ns row:List Int) (h0:vs=[.ref m,st,.int way,.int said]) (h1:kr C H m M ns0 E9 ds) (h2:zd K H st ns row) (h3:2<=M) (h4:M<=1000000000000) (h5:(∀z∈ns,0<=z/\z<M)) (h6:row.length<=12) (h7:ds.length<=24) (h8:(∀d∈ds,d.ok ns.length)) (h9:∀x H',au H H'->Res H H' x (pF M way said ds ns row)->Q x H'):uq K C vs H Q
def wz(K:W.Frag)(C:Addr):Sp:=λvs H Q _=>uq K C vs H Q
inductive RZ(H:Hp)(m:Addr)(st:V)(way said M:Int)(ds:List bF)(ns row:List Int)(σ:St)(H':Hp):Prop
 |mk (an ar ie aw:Addr) (zs:List V) (z9 DM:Option V) (at_:Nat) (s:WS) (f:Nat) (h0:σ=[some (.ref m),some st,some (.int way),some (.int said),some (.ref an),some (.ref ar),some (.ref ie),some (.ref aw),some (.int at_),z9,DM]) (h1:au H H') (h2:H an=none) (h3:H ar=none) (h4:H ie=none) (h5:H aw=none) (h6:an≠ar) (h7:an≠ie) (h8:an≠aw) (h9:ar≠ie) (Jx:ar≠aw) (Ul:ie≠aw) (WV:H' an=some (.lst (s.ns.map V.int))) (h13:H' ar=some (.lst (s.row.map V.int))) (h14:H' ie=some (.lst zs)) (h15:SL H' zs s.cR) (h16:H' aw=some (.lst (s.words.map V.int))) (h17:s.ns.length=ns.length) (h18:(∀z∈s.ns,0<=z/\z<M)) (h19:s.row.length<=12) (h20:s.cR.length<=at_) (h21:s.words.length<=at_) (h22:zc M way said f (ds.drop at_) s=pF M way said ds ns row) (h23:(ds.drop at_).length<=f):RZ H m st way said M ds ns row σ H'
theorem qD(D:il K C "worked" "Machine.worked" gs ["self","state","way","said"])(T:Tx K mg C CN CR F FD)(gu:Def P w K mg base "change_numbers" 1 ["numbers","deed","worths","modulus"] Jr)(kB:Def P w K mg base "change_row" 1 ["row","deed","worths"] Js)(oo:Def P w K mg base "left_out" 1 ["deed","worths"] DJ)(l9:Def P w K mg base "values_of" 1 ["deed"] DC)(oq:Def P w K mg base "worth_of" 2 ["value","state","way","said","modulus"] (zL K)):cn P w K mg base C "worked" 3 ["self","state","way","said"] (wz K C):=by
  have sc:aD ["self","state","way","said","numbers","row","sent","words","at","deed","worths"] ["self","state","way","said"] (az gs):=by walk_at "s"
  symm;obtain⟨m,st,k,c,M,ns0,E9,t,ns,row,rfl,hm,vH,Fu,qy,hb,pK,O0,aY,q⟩:=h;have O:=hr.units;refine⟨_,(af (aU (i:=4) sc.nd rfl Sort (cL cw rfl T.dF vE (ag (aj O (aq 1) ai) aa)))
    (af (aU (i:=5) sc.nd rfl Sort (cL cw rfl T.dF vE (ag (aj O (aq 1) ai) aa)))
    (af (aU (i:=6) sc.nd rfl Sort (bA aa))
    (af (aU (i:=7) sc.nd rfl Sort (bA aa))
    (af (aU (i:=8) sc.nd rfl Sort ai)
    (af (sW PassesOwn.never (su eF (pv 8) (aW aP rfl T.bR L' (ag (bJ (pv 0) rfl) aa)) (aE _))
    (af (aU (i:=9) sc.nd rfl Sort (aj O (bJ (aq 0) rfl) (aq 8)))
    (af (cJ (i:=10) sc.nd rfl Sort (N':=["value","way","said","numbers","row","self"]) (ix:=[none,some 2,some 3,some 4,some 5,some 0]) (bz (aH l9 hr (ag (aq 9) aa))) (λ_ _ _ _=>(aO (i:=0) (show(["value","way","said","numbers","row","self"]:List Str).Nodup by decide +kernel) rfl Sort)) ko (λ_ _ _ _=>(aH oq hr (ag (aq 0) (ag (bD (ag (aq 3) (ag (aq 4) aa))) (ag (aq 1) (ag (aq 2) (ag (MV (K:=K) rfl (aq 5) rfl) aa))))))))
    (af (bN (aH gu hr (ag (aq 4) (ag (aq 9) (ag (aq 10) (ag (bJ (aq 0) rfl) aa))))))
    (af (bN (aH kB hr (ag (aq 5) (ag (aq 9) (ag (aq 10) aa)))))
    (af (aR (aB (bb O) (aj O (aq 9) ai) aC (aE _)) (ak (bN (dz nM p6 p7 bS (aq 6) (ag (bD (ag (aj O (aq 9) ai) (ag (aj O (aq 10) ai) aa))) aa)))) (ak (aR (aB (bb O) (aj O (aq 9) ai) aC (aE _)) (ak (bN (dz nM p6 p7 bS (aq 7) (ag (aj O (aq 10) ai) aa)))) aJ)))
    (ak (QE (i:=8) sc.nd rfl Sort (bq cM ai (aH oo hr (ag (aq 9) (ag (aq 10) aa)))) QF))))))))
    (ak (aG (bD (ag (bD (ag (cL bV rfl T.bP p8 (ag (aq 4) aa)) (ag (cL bV rfl T.bP p8 (ag (aq 5) aa)) aa))) (ag (aq 6) (ag (aq 7) aa)))))))))))),?_⟩
  nofun;obtain⟨dx,stm,dd,Gh,R0,hm3⟩:=hm;obtain⟨ad,xs,rfl,WW,sF⟩:=WJ hm3;obtain⟨sa,sb,WX,rfl,WZ,hsb,hsc⟩:=vH;ac_rfl;left;calc cy _ _ (.inr (bG.of WZ)) rfl ?_;left;calc bC _ hsb (λB R1=>?_);have Z:=au.new (.lst (ns.map V.int)) R1;left;calc cy _ _ (.inr (bG.of (Z _ _ WZ))) rfl ?_;left;have R3:aM K (upd H B (.lst (ns.map V.int))) WX (row.map V.int)\/bG K (upd H B (.lst (ns.map V.int))) WX (row.map V.int):=hsc.elim (λz=>.inl (Z.seq z)) (λz=>.inr (Z.Uh z));calc bC _ R3 (λI BJ=>?_);have R:=au.new (.lst (row.map V.int)) BJ;left;calc⟨U' _,λu qE=>?_⟩;have r:=au.new (.lst []) qE;left;calc⟨U' _,λG Y=>?_⟩;have W:=au.new (.lst []) Y;left;have nra:I≠B:=λz=>by subst z;rw[ab]at BJ;cases BJ
  have hrH:H I=none:=Z.free BJ;have hsH:H u=none:=(Z.trans R).free qE;have hwH:H G=none:=(Z.trans (R.trans r)).free Y;have nsa:u≠B:=λz=>by subst z;rw[R _ _ ab]at qE;cases qE
  have nsr:u≠I:=λz=>by subst z;rw[ab]at qE;cases qE
  have nwa:G≠B:=λz=>by subst z;rw[r _ _ (R _ _ ab)]at Y;cases Y
  have nwr:G≠I:=λz=>by subst z;rw[r _ _ ab]at Y;cases Y
  have nws:G≠u:=λz=>by subst z;rw[ab]at Y;cases Y
  have B3:=Z.trans (R.trans (r.trans W));have LI:0<M:=by lia
  refine Jt (RZ H m (.ref sa) k c M t ns row) (muW t.length) ?_ ?_ ?_
  · refine⟨B,I,u,G,[],none,none,0,⟨ns,row,[],[]⟩,t.length,rfl,B3,R1,hrH,hsH,hwH,Ne.symm nra,Ne.symm nsa,Ne.symm nwa,Ne.symm nsr,Ne.symm nwr,Ne.symm nws,W _ _ (r _ _ (R _ _ ab)),W _ _ (r _ _ ab),W _ _ ab,⟨rfl,λi z p e=>by simp at e⟩,ab,rfl,hb,pK,E' _,E' _,rfl,E' _⟩
  · intro σ H1 fW;obtain⟨B,I,u,G,zs,z9,DM,g,s,f,rfl,sH,a1,a2,a3,a4,n1,n2,n3,n4,n5,n6,e1,e2,e3,Gg,e5,LJ,LK,wb,LL,hwn,S,O2⟩:=fW;have Nt:=sH _ _ Gh;have W0:=sH _ _ WW;have acU:=sF.aI sH.aN;left;calc fL Nt T.cP T.OX WI ?_;left;calc bC _ (.inr ⟨_,bG.of W0,rfl⟩) ?_;by_cases iB:g < t.length
    · have Um:g < xs.length:=by rw[sF.1];exact iB
      left;rw[if_pos (by simpa using Um)];calc⟨λσ' H'=>RZ H m (.ref sa) k c M t ns row σ' H'/\muW t.length σ'<t.length-g,λσ' H' h=>h,?_⟩;have rT:=aY t[g] (aac iB);have hx:=acU.2 g xs[g] t[g] (cF Um) (cF iB);have Uo:t.drop g=t[g]::t.drop (g+1):=List.drop_eq_getElem_cons iB;nofun;generalize hdd:t[g]=d at rT hx Uo;generalize hxx:xs[g]=x at hx;have W2:xs[g]?=some x:=by rw[cF Um,hxx]
      obtain⟨f',rfl⟩:∃f',f=f'+1:=⟨f-1,by rw[Uo]at O2;simp at O2;lia⟩
      rw[Uo]at S O2
      replace S:zc M k c f' ((t.drop (g+1)).drop (nH M k c d s).toNat) (k8 M k c d s)=pF M k c t ns row:=S
      ac_rfl;rw[List.drop_drop]at S;left;calc fL Nt T.cP T.OX WI ?_;left;calc cy _ x (.inr (bG.of W0)) (ay W2) ?_;left;calc bo ?_;left;calc⟨x,3,d,rfl,hx,λl zv k0 H2 R R4 hl IM=>?_⟩;calc .inl ⟨⟨_,aM.of hl⟩,λD hD=>?_⟩;have LM:=IM.len;have Mo:=zR (d:=d);refine aZ (J:=rD K l) (n:=zv.length) (λi ys H'=>ys=((d.vals.take i).map (fT M k c s.ns s.row)).map V.int/\au H2 H') (J' (aA ())) ⟨rfl,au.new _ hD⟩ ?_ ?_ ?_ ?_
      · rintro i ys H' hi ⟨_,r⟩;exact⟨_,zv[i],aM.of (r _ _ hl),cF hi⟩
      · rintro ys H' ⟨_,r⟩;exact⟨_,aM.of (r _ _ hl),E' _⟩
      · intro i ys H3 hi aV qm gc y H4 lB;nofun;obtain⟨rfl,r⟩:=gc;obtain⟨rfl,hy⟩:=lB;have ey:=hy _ (aM.of (r _ _ hl));obtain⟨v,ev,hv⟩:=IM.get ey;ac_rfl;have js:=pM rT v (W' ev);walk_at "xf";left;rw[if_pos trivial];refine⟨df,λp hp=>?_⟩;have W:=au.new (.tup [.ref B,.ref I]) hp;have wA:=R.trans (r.trans W);refine fL (wA _ _ Nt) T.cP T.OW WH ?_;refine⟨y,.ref p,k,c,M,v,s.ns,s.row,k0,rfl,(hv.aI (r.trans W).aN),⟨p,B,I,rfl,ab,.inl (aM.of (wA _ _ e1)),.inl (aM.of (wA _ _ e2))⟩,by rw[LJ];exact js,LI,?_⟩;refine bH (W _ _ aV) qm hi (J' (aA ())) ⟨?_,λb o e=>?_⟩
        · rw[List.take_add_one,ev];simp[fT]
        · rw[av (ao e hD)];exact W _ _ (r _ _ e)
      rintro ys H3 aV qm ⟨rfl,r⟩;rw[LM,List.take_length]at aV;have X:=R.trans r;have Gj:H1 D=none:=R.free hD;generalize sJ:d.vals.map (fT M k c s.ns s.row)=ws at aV;have lx:ws.length=d.vals.length:=by rw[<-sJ];simp
      have W3:0<=ws.getD 0 0/\ws.getD 0 0<M:=by rw[<-sJ];exact wx LI
      have DN:k8 M k c d s=⟨kd M s.ns (ws.getD 0 0) d,pD s.row (ws.getD 0 0) d,s.cR++iF (ws.getD 0 0) d,s.words++gm (ws.getD 0 0) d⟩:=by rw[<-sJ];rfl
      have DO:nH M k c d s=pE (ws.getD 0 0) (ws.getD 1 0) d:=by rw[<-sJ];rfl
      rw[DN,DO]at S;have LN:∀{b:Addr} {o:HO},H1 b=some o->b≠D:=λe=>ao e Gj;left;calc fL (X _ _ Nt) T.cP T.OW WH ?_;calc⟨B,x,D,s.ns,ws,M,3,d,rfl,X _ _ e1,hx.aI X.aN,aV,lx,by rw[LJ];calc rT,LI,qy,LK,λH4 e14 k4=>?_⟩;have t4:bW H3 H4:=λb ys e=>k4 b _ (λz=>by subst z;rw[X _ _ e1]at e;cases e) e;left;calc⟨I,x,D,s.row,ws,3,d,rfl,k4 _ _ (Ne.symm n1) (X _ _ e2),hx.aI (X.aN.trans t4),k4 _ _ (Ne.symm (LN e1)) aV,lx,wb,λL e25 k5=>?_⟩;have t5:bW H4 L:=λb ys e=>k5 b _ (λz=>by subst z;rw[k4 _ _ (Ne.symm n1) (X _ _ e2)]at e;cases e) e;have t15:bW H1 L:=X.aN.trans (t4.trans t5);have kk:∀b o,b≠B->b≠I->H1 b=some o->L b=some o:=λb o ne1 ne2 e=>k5 b o ne2 (k4 b o ne1 (X _ _ e));have e15:=k5 _ _ n1 e14;have Up:=kk _ _ (Ne.symm n2) (Ne.symm n4) e3;have W4:=kk _ _ (Ne.symm n3) (Ne.symm n5) e5;have Du:L D=some (.lst (ws.map V.int)):=k5 _ _ (Ne.symm (LN e2)) (k4 _ _ (Ne.symm (LN e1)) aV);have R5:=Gg.aI t15;have R6:au H L:=λb o e=>kk b o (ao e a1) (ao e a2) (sH _ _ e);have Gi:=hx.aI t15;have O3:=Jv (w:=ws.getD 0 0) (w':=ws.getD 1 0) rT;obtain⟨a,us,rfl,ha,-⟩:=uf Gi rT;left;rename_i N1 hN1 T1 U1 W5 hU1;have fin:∀U LO,au H U->U B=some (.lst ((kd M s.ns (ws.getD 0 0) d).map V.int))->U I=some (.lst ((pD s.row (ws.getD 0 0) d).map V.int))->U u=some (.lst LO)->SL U LO (s.cR++iF (ws.getD 0 0) d)->U G=some (.lst ((s.words++gm (ws.getD 0 0) d).map V.int))->HT U 3 (.ref a) d.dv->U D=some (.lst (ws.map V.int))->N1 [some (V.ref m),some (V.ref sa),some (V.int k),some (V.int c),some (V.ref B),some (V.ref I),some (V.ref u),some (V.ref G),some (V.int (g:Nat)),some (V.ref a),some (V.ref D)] U:=by
        intro U LO f0 f1 f2 f3 f4 f5 f6 f7;left;calc⟨.ref a,D,ws,_,_,rfl,f6,f7,lx,?_⟩;left;calc cy _ _ rfl rfl ?_;have l1:=zS (w:=ws.getD 0 0) (d:=d);refine⟨⟨B,I,u,G,LO,some (.ref a),some (.ref D),g+1+(pE (ws.getD 0 0) (ws.getD 1 0) d).toNat,⟨kd M s.ns (ws.getD 0 0) d,pD s.row (ws.getD 0 0) d,s.cR++iF (ws.getD 0 0) d,s.words++gm (ws.getD 0 0) d⟩,f',?_,f0,a1,a2,a3,a4,n1,n2,n3,n4,n5,n6,f1,f2,f3,f4,f5,by rw[qi];calc LJ,DK (d:=d) LI LK W3,Ju (w:=ws.getD 0 0) (d:=d) wb,(by rw[List.length_append];lia),(by rw[List.length_append];lia),S,?_⟩,?_⟩
        · first|rfl|rw[sk1 O3]
        · exact sk2 O2
        · exact sk3 iB O3
      calc cN ha (ay (j:=0) rfl) ?_;left;by_cases k1:d.word="send"
      · rw[if_pos (decide_eq_true k1)];obtain⟨j,u2,ha',es,W6,W7⟩:=Nq (w:=ws.getD 0 0) Gi k1;have DH:gU (ws.map V.int) 0=some (.int (ws.getD 0 0)):=ay (j:=0) (by rw[aaB,zT ()];rfl);generalize ws.getD 0 0=w0 at *
        · skip
          left;calc⟨.inl ⟨rfl,_,aM.of Up⟩,?_⟩;calc cN ha' (ay (j:=1) rfl) ?_;left;calc bu Du DH ?_;calc⟨df,λtp lg=>?_⟩;have s6:=au.new (.tup [.int j,.int w0]) lg;calc iu _ (s6 _ _ Up) (aav (by have:=Gg.1;lia) (aA (n:=100) ())) ?_;have htn:tp≠u:=λz=>by subst z;rw[Up]at lg;cases lg
          have t6:bW (upd L tp (.tup [.int j,.int w0])) (upd (upd L tp (.tup [.int j,.int w0])) u (.lst (zs++[.ref tp]))):=(bW.refl _).upd λys e=>by rw[s6 _ _ Up]at e;cases e
          have N:∀b o,b≠u->L b=some o->upd (upd L tp (.tup [.int j,.int w0])) u (.lst (zs++[.ref tp])) b=some o:=λb o ne e=>by rw[av ne];exact s6 _ _ e
          exact fin _ _ (λb o e=>N b o (ao e a3) (R6 _ _ e)) (N _ _ n2 e15) (N _ _ n4 e25) ab (by rw[es];calc(R5.aI (s6.aN.trans t6)).snoc (cS (n:=0) (by rw[av htn];calc ab) (.int _) (.int _))) (by rw[W6,List.append_nil];calc N _ _ (Ne.symm n6) W4) (Gi.aI (s6.aN.trans t6)) (N _ _ (Ne.symm (LN e3)) Du)
      · rw[if_neg λz=>k1 (of_decide_eq_true z)];have es:=Nr (w:=ws.getD 0 0) k1;left;calc cN ha (ay (j:=0) rfl) ?_;left;by_cases k2:d.word="say"
        · rw[if_pos (decide_eq_true k2)];obtain⟨ew,W6⟩:=RY (w:=ws.getD 0 0) k2;have DH:gU (ws.map V.int) 0=some (.int (ws.getD 0 0)):=ay (j:=0) (by rw[aaB,zT ()];rfl);generalize ws.getD 0 0=w0 at *
          · skip
            left;calc⟨.inl ⟨rfl,_,aM.of W4⟩,?_⟩;left;calc bu Du DH ?_;calc iu _ W4 (aav (by simp;lia) (aA (n:=100) ())) ?_;have t6:bW L (upd L G (.lst (s.words.map V.int++[.int w0]))):=(bW.refl _).upd λys e=>by rw[W4]at e;cases e
            have N:∀b o,b≠G->L b=some o->upd L G (.lst (s.words.map V.int++[.int w0])) b=some o:=λb o ne e=>by rw[av ne];exact e
            exact fin _ zs (λb o e=>N b o (ao e a4) (R6 _ _ e)) (N _ _ n3 e15) (N _ _ n5 e25) (N _ _ n6 Up) (by rw[es,List.append_nil];calc R5.aI t6) (by rw[ab,ew,aaD];rfl) (Gi.aI t6) (N _ _ (Ne.symm (LN e5)) Du)
        · rw[if_neg λz=>k2 (of_decide_eq_true z)];have ew:=Jw (w:=ws.getD 0 0) k2;calc L2.aX (by assumption) ?_;exact fin _ _ R6 e15 e25 Up (by rw[es,List.append_nil];calc R5) (by rw[ew,List.append_nil];calc W4) Gi Du
    · have Um:¬g < xs.length:=by rw[sF.1];exact iB
      left;rw[if_neg (by simpa using Um)];rw[List.drop_eq_nil_of_le (),Dd]at S;left;calc .inl ⟨_,aM.of e1,λt1 BW=>?_⟩;have r1:=au.new (.tup (s.ns.map V.int)) BW;left;calc .inl ⟨_,aM.of (r1 _ _ e2),λt2 sE=>?_⟩;have r2:=au.new (.tup (s.row.map V.int)) sE;left;calc⟨df,λt3 BX=>?_⟩;have r3:=au.new (.tup [.ref t1,.ref t2]) BX;left;calc⟨by show 3<=sizeLine;decide,λt4 BY=>?_⟩;have r4:=au.new (.tup [.ref t3,.ref u,.ref G]) BY;have Nu:=r1.trans (r2.trans (r3.trans r4));refine q _ _ (sH.trans Nu) ⟨_,_,u,G,zs,rfl,ab,?_,Nu _ _ e3,?_,?_,a3,a4,n6⟩
      · rw[<-S];exact(cS ab (pC (r3 _ _ (r2 _ _ ab))) (pC (r3 _ _ ab))).aI r4.aN
      · rw[<-S];exact Gg.aI Nu.aN
      · rw[<-S];exact Nu _ _ e5
  · intro σ H1 Q Q' hq hc;obtain⟨x,h1,x0,h0,a,C',yz,fs,v,h2,h3,h4,h5,h6,n,h7,h8⟩:=hc;refine⟨x,h1,x0,h0,a,C',yz,fs,v,h2,h3,h4,h5,h6,n,h7,?_⟩
    cases x<;>first
      |calc(show False from h8).elim
      | (obtain⟨k',h9,Jx⟩:=h8
         calc⟨k',h9,hq _ _ Jx⟩)
def ki(n:Nat->Nat)(ad:Nat->Nat->Addr)(t:Nat):List V:=(List.range (n t)).map λi=>V.ref (ad t i)
theorem kj{n:Nat->Nat}{t:Nat}:(ki n ad t).length=n t:=by simp[ki]
theorem bc{n:Nat->Nat}{t i:Nat}(h:i<n t):gU (ki n ad t) (i:Int)=some (.ref (ad t i)):=ay (by simp[ki,h])
def Gk(a:V)(p:Addr)(o:Nat->Addr):List (Str×V):=[("own_net",a),("picks_done",.ref p),("states_had",.ref (o 1)),("words_had",.ref (o 2)),("words_said",.ref (o 3)),("letters_say",.ref (o 4)),("senders",.ref (o 5)),("workers",.ref (o 6))]
section
variable {bE:V}{p:Addr}{o:Nat->Addr}
theorem qF:(Gk bE p o).lookup ("own_net":Str)=some bE:=by kernel_rfl
theorem W8:(Gk bE p o).lookup ("picks_done":Str)=some (.ref p):=by kernel_rfl
theorem Jy:(Gk bE p o).lookup ("states_had":Str)=some (.ref (o 1)):=by kernel_rfl
theorem acX:(Gk bE p o).lookup ("words_had":Str)=some (.ref (o 2)):=by kernel_rfl
theorem W9:(Gk bE p o).lookup ("words_said":Str)=some (.ref (o 3)):=by kernel_rfl
theorem Nv:(Gk bE p o).lookup ("letters_say":Str)=some (.ref (o 4)):=by kernel_rfl
theorem Xa:(Gk bE p o).lookup ("senders":Str)=some (.ref (o 5)):=by kernel_rfl
theorem Jz:(Gk bE p o).lookup ("workers":Str)=some (.ref (o 6)):=by kernel_rfl
end
structure vh(C CN:Addr)(H:Hp)(bE:Addr)(nt:NT):Prop where
 ex:∃ms wv lv,nz CN H bE ms wv lv/\ms.length=nt.ms.length/\(∀(i:Nat) m d,ms[i]?=some m->nt.ms[i]?=some d->Uk C H m d)/\eN H 1 wv (nt.ws.map ny)
 ok:nt.Ok
theorem Uk.fr{C:Addr}{m:Addr}{d:MD}(f:Fr Z H H')(h:Uk C H m d):Uk C H' m d:=by
 obtain⟨a,st,dd,b,c,e⟩:=h;calc⟨a,st,dd,f.ly b id,c.aI f.aN,e.aI f.aN⟩
theorem nz.fr{CN:Addr}{x:Addr}{d:List V}(f:Fr Z H H')(h:nz CN H x ms wv d):nz CN H' x ms wv d:=by
 obtain⟨d,a,b,c,e,g,i,j⟩:=h;calc⟨d,a,b,c,f.ly e id,f.ly g id,f.ly i id,f.ly j id⟩
theorem vh.fr{C CN:Addr}{c:Addr}{nt:NT}(f:Fr Z H H')(h:vh C CN H c nt):vh C CN H' c nt:=by
 obtain⟨⟨ms,wv,c,e,g,j,k⟩,l⟩:=h;calc⟨⟨ms,wv,c,e.fr f,g,λi m d a b=>(j i m d a b).fr f,k.aI f.aN⟩,l⟩
structure cf(C CN CR:Addr)(F:Addr->Prop)(H:Hp)(x bE:Addr)(nt:NT)(r:RS)(ad:Nat->Nat->Addr):Prop where
 ins:∃dx o,H x=some (.ins CR dx (Gk (.ref bE) (ad 0 0) o))/\∀t,1<=t->t<=6->H (o t)=some (.lst (ki nt.n ad t))/\¬F (o t)/\¬FP nt.n ad (o t)
 cA:eA F H nt.n ad r.ct
 Nw:vh C CN H bE nt
section
variable {C CN CR:Addr}{F:Addr->Prop}{H H':Hp}{x bE:Addr}{nt:NT}{r:RS}{ad:Nat->Nat->Addr}
theorem cf.keep(h:cf C CN CR F H x bE nt r ad)(f:Fr F H H'):cf C CN CR F H' x bE nt r ad:=by
 obtain⟨⟨d,o,e,c⟩,g,i⟩:=h;calc⟨⟨d,o,f.ly e id,λt a b=>⟨f.at (c t a b).1 (c t a b).2.1,(c t a b).2⟩⟩,g.keep f,i.fr f⟩
theorem cf.same(h:cf C CN CR F H x bE nt r ad)(s:au H H'):cf C CN CR F H' x bE nt r ad:=h.keep s.fr
theorem cf.own(h:cf C CN CR F H x bE nt r ad)(f:Fr (FP nt.n ad) H H')(b:eA F H' nt.n ad r'.ct):cf C CN CR F H' x bE nt r' ad:=by
 obtain⟨⟨d,o,e,c⟩,i,g⟩:=h;calc⟨⟨d,o,f.ly e id,λt a b=>⟨f.at (c t a b).1 (c t a b).2.2,(c t a b).2⟩⟩,b,g.fr f⟩
end
abbrev jv:Stmt:=(b8 (top 55)).getD 6 (.Pass ⟨0,0,0,0⟩)
def ur(nt:NT)(e j:Nat):Int:=if e=0 then(nt.w j).1 else(nt.w j).2.1
def vi(nt:NT)(e m:Nat):List Nat:=(List.range nt.ws.length).filter λj=>decide (ur nt e j=m)
def B4(C CN:Addr):Sp:=λvs H Q _=>∃(x:Addr) (nt:NT) (m e:Nat),vs=[.ref x,.int m,.int e]/\vh C CN H x nt/\m<nt.ms.length/\e<2/\∀l H',au H H'->H l=none->H' l=some (.lst ((vi nt e m).map λi=>.int (i:Nat)))->Q (.ref l) H'
theorem vj(D:il K CN "ways_at" "Net.ways_at" jv ["self","m","end"])(T:Tx K mg C CN CR F FD)(S:Def P w K mg base "is_within" 2 ["thing","low","beyond"] b4):cn P w K mg base CN "ways_at" 3 ["self","m","end"] (B4 C CN):=by
 have sc:aD ["self","m","end"] ["self","m","end"] (az jv):=by walk_at "s"
 symm;obtain⟨x,d,m,e,rfl,B,I,L,q⟩:=h;have L:=hr.units;refine⟨_,(af (aR (bI (bg (aH S hr (ag (aq 1) (ag ai (ag (aW aP rfl T.bR L' (ag (bJ (aq 0) rfl) aa)) aa)))))) (ak cG) aJ)
  (ak (aG (cI (N':=["number","way","m","end"]) (ix:=[none,none,some 1,some 2]) (ik rfl T.cW (ag (bJ (aq 0) rfl) aa)) (λ_ _ _ _=>(ip (K:=K) rfl (i:=0) (j:=1) rfl (show(["number","way","m","end"]:List Str).Nodup by decide +kernel) rfl rfl Sort Sort)) (λ_ _ _ _=>(eW (aB (lU (K:=K) rfl L) (cu (K:=K) rfl L (aq 1) (aq 3)) (aq 2) (aE _)))) (λ_ _ _ _=>(aq 0)))))),?_⟩
 nofun;obtain⟨⟨ms,wv,L,S,U,X,M⟩,W⟩:=id B;obtain⟨X,a,b,cc,L,Y,l,h4⟩:=id S;ac_rfl;left;calc⟨x,CN,X,_,_,rfl,L,T.cU,T.zx,WN,_,.inr ⟨_,bG.of Y,rfl⟩,?_⟩;calc fM (.int m) _ 0 _ rfl (.int _) ?_;rw[show inR 0 (((ms.map V.ref).length:Nat):Int) (.int (m:Int))=true by simp[inR,U,I]];calc ke ?_;rw[if_neg ∅];left;calc bo ?_;left;calc fL L T.cU T.zy WO ?_;left;calc zh false wv (Sq.t l) (λD r=>?_);have Z:wv.length=d.ws.length:=by simpa using M.1
 have x:=W.Fb;refine aZ (J:=Lv false K b) (n:=wv.length) (λi ys H'=>au H H'/\ys=((List.range i).filter λj=>decide (ur d e j=m)).map λj=>V.int (j:Nat)) (J' (aA ())) ⟨au.new _ r,rfl⟩ ?_ ?_ ?_ ?_
 ·rintro i ys H' u ⟨g,_⟩;exact⟨wv,wv[i],Sq.t (g _ _ l),cF u⟩
 ·rintro ys H' ⟨g,_⟩;exact⟨wv,Sq.t (g _ _ l),rfl⟩
 ·intro i ys H' u p N fW xx H4 gc;nofun;obtain⟨g,rfl⟩:=fW;obtain⟨t,ht,rfl,y⟩:=gc;obtain⟨k,ex,rfl⟩:=y wv (Sq.t (g _ _ l));have x:i < d.ws.length:=by lia
  have o:=(M.2 i k (ny (d.w i)) ex (by rw[aaB,show d.ws[i]?=some (d.w i) from aS x];rfl)).aI g.aN;have v:=au.new (.tup [.int (i:Nat),k]) ht
  replace o:=o.aI v.aN
  have sE:upd H' t (.tup [.int (i:Nat),k]) t=some (.tup [.int (i:Nat),k]):=ab;have O:=v _ _ p;have R:=g.trans v;generalize hG:upd H' t (.tup [.int (i:Nat),k])=G at *;obtain⟨ta,u1,u2,u3,kk,rfl,rV,g1,g2,g3⟩:=bU o;obtain rfl:=g1.ck;obtain rfl:=g2.ck;obtain rfl:=g3.cT;ac_rfl;calc uS (bG.of sE) ⟨Ext.set (Ext.set (Ext.refl _) rfl) rfl,?_⟩;left;have Xb:gU [V.int (d.w i).1,V.int (d.w i).2.1,V.str (d.w i).2.2] (e:Int)=some (.int (ur d e i)):=by
   have:e=0\/e=1:=by lia
   rcases this with rfl|rfl
   ·exact ay (j:=0) rfl
   ·exact ay (j:=1) rfl
  calc cN rV Xb ?_;left;have k:(List.range (i+1)).filter (λj=>decide (ur d e j=m))=(List.range i).filter (λj=>decide (ur d e j=m))++(if ur d e i=m then[i] else[]):=by
   rw[List.range_succ,List.filter_append];congr 1;by_cases z:ur d e i=m<;>simp[z]
  by_cases z:ur d e i=m
  ·rw[if_pos (by simp[z])];calc bH O N u (J' (aA ())) ⟨λc o e=>by rw[av (ao e r)];calc R _ _ e,?_⟩;rw[k,if_pos z,aaD];rfl
  ·rw[if_neg (by simp[z])];exact⟨_,O,(),R,by rw[k,if_neg z,List.append_nil]⟩
 ·rintro ys H' p N ⟨g,rfl⟩;rw[Z]at p;calc q _ _ g r p
abbrev iO:Stmt:=(b8 (top 55)).getD 4 (.Pass ⟨0,0,0,0⟩)
def rG(C CN:Addr):Sp:=λvs H Q _=>∃(x:Addr) (nt:NT) (m:Nat),vs=[.ref x,.int m]/\vh C CN H x nt/\m<nt.ms.length/\∀l H',au H H'->H l=none->H' l=some (.lst ((vi nt 0 m).map λi=>.int (i:Nat)))->Q (.ref l) H'
theorem uu(D:il K CN "ways_out" "Net.ways_out" iO ["self","m"])(T:Tx K mg C CN CR F FD)(g:cn P w K mg base CN "ways_at" 3 ["self","m","end"] (B4 C CN)):cn P w K mg base CN "ways_out" 4 ["self","m"] (rG C CN):=by
 have sc:aD ["self","m"] ["self","m"] (az iO):=by walk_at "s"
 symm;obtain⟨x,d,m,rfl,c,e,q⟩:=h;have i:=hr.units;calc⟨_,(ak (aG (eZ g T.cU hr (aq 0) (ag (aq 1) (ag ai aa))))),?_⟩;nofun;obtain⟨⟨ms,wv,j,i,k,l,n⟩,o⟩:=id c;obtain⟨j,a,b,k,g,l,n,o⟩:=id i;ac_rfl;left;calc gM g (eO ⋯ ⋯ ⋯) ?_;calc⟨x,d,m,0,rfl,c,e,∅,q⟩
abbrev jw:Stmt:=(b8 (top 55)).getD 5 (.Pass ⟨0,0,0,0⟩)
def uv(C CN:Addr):Sp:=λvs H Q _=>∃(x:Addr) (nt:NT) (m:Nat),vs=[.ref x,.int m]/\vh C CN H x nt/\m<nt.ms.length/\∀l H',au H H'->H l=none->H' l=some (.lst ((vi nt 1 m).map λi=>.int (i:Nat)))->Q (.ref l) H'
theorem vk(D:il K CN "ways_in" "Net.ways_in" jw ["self","m"])(T:Tx K mg C CN CR F FD)(g:cn P w K mg base CN "ways_at" 3 ["self","m","end"] (B4 C CN)):cn P w K mg base CN "ways_in" 4 ["self","m"] (uv C CN):=by
 have sc:aD ["self","m"] ["self","m"] (az jw):=by walk_at "s"
 symm;obtain⟨x,d,m,rfl,c,e,q⟩:=h;have i:=hr.units;calc⟨_,(ak (aG (eZ g T.cU hr (aq 0) (ag (aq 1) (ag ai aa))))),?_⟩;nofun;obtain⟨⟨ms,wv,j,i,k,l,n⟩,o⟩:=id c;obtain⟨j,a,b,k,g,l,n,o⟩:=id i;ac_rfl;left;calc gM g (eO ⋯ ⋯ ⋯) ?_;calc⟨x,d,m,1,rfl,c,e,∅,q⟩
def FS(F:Addr->Prop)(H:Hp):Prop:=∀b,F b->∃o,H b=some o/\soft o
theorem FS.fr{F:Addr->Prop}(h:FS F H)(f:Fr Z H H')(c:∀b,F b->¬Z b):FS F H':=λb a=>by
 obtain⟨o,e,s⟩:=h b a;calc⟨o,f.at e (c b a),s⟩
theorem _root_.DD.eA.uw{F:Addr->Prop}{n:Nat->Nat}{ct:Nat->Nat->CO}(h:eA F H n ad ct):∀b,F b->¬FP n ad b:=λb a ⟨t,i,c,e⟩=>h.out t i c (e▸a)
theorem small{n:Nat}(h:n<=20000):n<sizeLine:=by rw[sizeLine_eq];lia
theorem R7{r:RS}{n:NT}{w:Nat}{x:Int}{s:Option (Int×Int)}:∀t i,i<n.n t->setC (setC (setC r.ct 4 w (.l ((r.ww w).say.map .int++[.int x]))) 5 w (.l ((r.ww w).snd.map nI++[nI s]))) 6 w (.l ((r.ww w).cD.map nI++[.bM])) t i=(r.put w x s).ct t i:=by
 intro t i a;unfold setC
 match t,a with
 |0,_=>simp[RS.ct,RS.put]
 |1,_=>simp[RS.ct,RS.put]
 |2,_=>simp[RS.ct,RS.put]
 |3,_=>simp[RS.ct,RS.put]
 |4,_=>by_cases e:i=w<;>simp[RS.ct,RS.put,e]
 |5,_=>by_cases e:i=w<;>simp[RS.ct,RS.put,e]
 |6,_=>by_cases e:i=w<;>simp[RS.ct,RS.put,e,nI]
 |(t+7),a=>calc absurd a (aas i)
abbrev gv:Stmt:=(b8 (top 57)).getD 1 (.Pass ⟨0,0,0,0⟩)
inductive DP(C CN CR:Addr)(vs:List V)(H:Hp)(Q:VK):Prop
 |mk (F:Addr->Prop) (x bE:Addr) (nt:NT) (r:RS) (ad:Nat->Nat->Addr) (wy:Nat) (said:Int) (sv:V) (s:Option (Int×Int)) (h0:vs=[.ref x,.int (wy:Nat),.int said,sv]) (h1:cf C CN CR F H x bE nt r ad) (h2:FS F H) (h3:wy<nt.ws.length) (h4:HT H 4 sv (nI s)) (h5:r.uR nt 19999) (h6:∀H',Fr (FP nt.n ad) H H'->cf C CN CR F H' x bE nt (r.put wy said s) ad->Q .bM H'):DP C CN CR vs H Q
def ux(C CN CR:Addr):Sp:=λvs H Q _=>DP C CN CR vs H Q
theorem qG(D:il K CR "put_letter" "Run.put_letter" gv ["self","way","said","sender"])(T:Tx K mg C CN CR F FD):cn P w K mg base CR "put_letter" 1 ["self","way","said","sender"] (ux C CN CR):=by
 have sc:aD ["self","way","said","sender"] ["self","way","said","sender"] (az gv):=by walk_at "s"
 symm;obtain⟨F,x,o,g,r,ad,a,c,v,s,rfl,j,I,b,J,k,q⟩:=h;have o:=hr.units;refine⟨_,(af (bN (dz nM p6 p7 bS (aj o (bJ (aq 0) rfl) (aq 1)) (ag (aq 2) aa)))
  (af (bN (dz nM p6 p7 bS (aj o (bJ (aq 0) rfl) (aq 1)) (ag (aq 3) aa)))
  (ak (bN (dz nM p6 p7 bS (aj o (bJ (aq 0) rfl) (aq 1)) (ag fu aa)))))),?_⟩
 nofun;obtain⟨x,o,y,d⟩:=j.ins;have z:=j.cA;have o:=(d 4 ∅ ∅).1;have N:=(d 5 ∅ ∅).2.2;have O:=(d 6 ∅ ∅).2.2;have x:=k.bs a b;have x:=k.ls a b;have x:=k.lk a b;obtain⟨l,m,x⟩:=z.lst (t:=4) (i:=a) b rfl;ac_rfl;have k:l.length=(r.ww a).say.length:=by simpa using x.1
 left;calc fL y T.ba T.bZ Nv ?_;left;calc bu o (bc b) ?_;calc⟨.inl ⟨rfl,_,aM.of m⟩,?_⟩;left;calc iu l m (small ()) ?_;have B:=z.app (t:=4) (i:=a) b rfl m (fA.one (.int c));have e:Fr (FP g.n ad) H (upd H (ad 4 a) (.lst (l++[.int c]))):=Fr.refl.upd ⟨4,a,b,rfl⟩ m trivial;generalize R:upd H (ad 4 a) (.lst (l++[.int c]))=L at *;left;have o:=e.ly y id;have c:=e.at (d 5 ∅ ∅).1 N;obtain⟨p,u,k⟩:=B.lst (t:=5) (i:=a) b rfl;have l:p.length=(r.ww a).snd.length:=by simpa using k.1
 have k:=I.fr e z.uw;left;calc fL o T.ba T.eV Xa ?_;left;calc bu c (bc b) ?_;calc⟨.inl ⟨rfl,_,aM.of u⟩,?_⟩;left;calc iu p u (small ()) ?_;have M:=B.app (t:=5) (i:=a) b rfl u (fA.one (B.ht k (J.aI e.aN)));have G:Fr (FP g.n ad) H (upd L (ad 5 a) (.lst (p++[v]))):=e.upd ⟨5,a,b,rfl⟩ u trivial;generalize U:upd L (ad 5 a) (.lst (p++[v]))=S at *;left;have l:=G.ly y id;have e:=G.at (d 6 ∅ ∅).1 O;obtain⟨k,c,m⟩:=M.lst (t:=6) (i:=a) b rfl;have d:k.length=(r.ww a).cD.length:=by simpa using m.1
 left;calc fL l T.ba T.di Jz ?_;left;calc bu e (bc b) ?_;calc⟨.inl ⟨rfl,_,aM.of c⟩,?_⟩;left;calc iu k c (small ()) ?_;have m:=M.app (t:=6) (i:=a) b rfl c (fA.one (.bM));have d:Fr (FP g.n ad) H (upd S (ad 6 a) (.lst (k++[.bM]))):=G.upd ⟨6,a,b,rfl⟩ c trivial;calc q _ d (j.own d (m.congr R7))
abbrev fC:Stmt:=(b8 (top 57)).getD 2 (.Pass ⟨0,0,0,0⟩)
def JB(C CN CR:Addr):Sp:=λvs H Q _=>∃(F:Addr->Prop) (x a:Addr) (nt:NT) (r:RS) (ad:Nat->Nat->Addr) (m:Nat),vs=[.ref x,.int m]/\cf C CN CR F H x a nt r ad/\m<nt.ms.length/\Q .bM H
theorem ou(D:il K CR "need_machine" "Run.need_machine" fC ["self","m"])(T:Tx K mg C CN CR F FD)(d:Def P w K mg base "is_within" 2 ["thing","low","beyond"] b4):cn P w K mg base CR "need_machine" 3 ["self","m"] (JB C CN CR):=by
 have sc:aD ["self","m"] ["self","m"] (az fC):=by walk_at "s"
 symm;obtain⟨F,x,e,a,r,ad,m,rfl,b,c,q⟩:=h;have e:=hr.units;calc⟨_,(ak (aR (bI (bg (aH d hr (ag (aq 1) (ag ai (ag (aW aP rfl T.bR L' (ag (bJ (aq 0) rfl) aa)) aa)))))) (ak cG) aJ)),?_⟩;obtain⟨e,o,g,i⟩:=b.ins;have d:=(i 1 ∅ ∅).1;left;calc⟨x,CR,e,_,_,rfl,g,T.ba,T.bY,Jy,_,.inl ⟨_,aM.of d,rfl⟩,?_⟩;calc fM (.int m) _ 0 _ rfl (.int _) ?_;rw[kj];rw[show inR 0 ((a.n 1:Nat):Int) (.int (m:Int))=true by simp[inR];calc c];calc ke ?_;rw[if_neg ∅];left;calc q
abbrev iP:Stmt:=(b8 (top 57)).getD 4 (.Pass ⟨0,0,0,0⟩)
def O4(C CN CR:Addr):Sp:=λvs H Q _=>∃(F:Addr->Prop) (x b:Addr) (nt:NT) (r:RS) (ad:Nat->Nat->Addr) (m:Nat) (a:V),vs=[.ref x,.int m,a]/\cf C CN CR F H x b nt r ad/\m<nt.ws.length/\Q .bM H
theorem uy(D:il K CR "need_way" "Run.need_way" iP ["self","way","at"])(T:Tx K mg C CN CR F FD)(e:Def P w K mg base "is_within" 2 ["thing","low","beyond"] b4):cn P w K mg base CR "need_way" 3 ["self","way","at"] (O4 C CN CR):=by
 have sc:aD ["self","way","at"] ["self","way","at"] (az iP):=by walk_at "s"
 symm;obtain⟨F,x,g,b,r,ad,m,a,rfl,c,d,q⟩:=h;have g:=hr.units;calc⟨_,(ak (aR (bI (bg (aH e hr (ag (aq 1) (ag ai (ag (aW aP rfl T.bR L' (ag (bJ (aq 0) rfl) aa)) aa)))))) (ak cG) aJ)),?_⟩;obtain⟨g,o,i,j⟩:=c.ins;have e:=(j 4 ∅ ∅).1;left;calc⟨x,CR,g,_,_,rfl,i,T.ba,T.bZ,Nv,_,.inl ⟨_,aM.of e,rfl⟩,?_⟩;calc fM (.int m) _ 0 _ rfl (.int _) ?_;rw[kj];rw[show inR 0 ((b.n 4:Nat):Int) (.int (m:Int))=true by simp[inR];calc d];calc ke ?_;rw[if_neg ∅];left;calc q
abbrev fX:Stmt:=(b8 (top 57)).getD 5 (.Pass ⟨0,0,0,0⟩)
theorem fH{a:V}{o:Nat->Addr}(h:f∉(["own_net","picks_done","states_had","words_had","words_said","letters_say","senders","workers"]:List Str)):(Gk a p o).lookup f=none:=by
 simp only[List.mem_cons,List.not_mem_nil,or_false,not_or]at h;unfold Gk;simp[List.lookup,beq_eq_false_iff_ne.mpr h.1,beq_eq_false_iff_ne.mpr h.2.1,beq_eq_false_iff_ne.mpr h.2.2.1,beq_eq_false_iff_ne.mpr h.2.2.2.1,beq_eq_false_iff_ne.mpr h.2.2.2.2.1,beq_eq_false_iff_ne.mpr h.2.2.2.2.2.1,beq_eq_false_iff_ne.mpr h.2.2.2.2.2.2.1,beq_eq_false_iff_ne.mpr h.2.2.2.2.2.2.2]
def DQ(C CN CR:Addr):Sp:=λvs H Q _=>∃(F:Addr->Prop) (x b:Addr) (nt:NT) (r:RS) (ad:Nat->Nat->Addr) (m k:Nat) (a:V),vs=[.ref x,.int m,.int k,a]/\cf C CN CR F H x b nt r ad/\m<nt.ws.length/\k<(r.ww m).say.length/\Q .bM H
theorem pN(D:il K CR "need_letter" "Run.need_letter" fX ["self","way","number","at"])(T:Tx K mg C CN CR F FD)(g:Def P w K mg base "is_within" 2 ["thing","low","beyond"] b4)(j:cn P w K mg base CR "need_way" 3 ["self","way","at"] (O4 C CN CR)):cn P w K mg base CR "need_letter" 4 ["self","way","number","at"] (DQ C CN CR):=by
 have sc:aD ["self","way","number","at"] ["self","way","number","at"] (az fX):=by walk_at "s"
 symm;obtain⟨F,x,d,e,r,ad,m,k,a,rfl,b,c,l,q⟩:=h;have l:=hr.units;refine⟨_,(af (bN (eZ j T.ba hr (aq 0) (ag (aq 1) (ag (aq 3) aa))))
  (ak (aR (bI (bg (aH g hr (ag (aq 2) (ag ai (ag (aW aP rfl T.bR L' (ag (aj l (bJ (aq 0) rfl) (aq 1)) aa)) aa)))))) (ak cG) aJ))),?_⟩
 nofun;obtain⟨j,o,g,l⟩:=b.ins;have n:=(l 4 ∅ ∅).1;obtain⟨j,o,p⟩:=b.cA.lst (t:=4) (i:=m) c rfl;ac_rfl;have l:j.length=(r.ww m).say.length:=by simpa using p.1
 left;calc gM g (fH ⋯) ?_;calc⟨_,x,d,e,r,ad,m,_,rfl,b,c,?_⟩;left;calc fL g T.ba T.bZ Nv ?_;left;calc bu n (bc c) ?_;calc bC _ (.inl ⟨_,aM.of o,rfl⟩) ?_;calc fM (.int k) _ 0 _ rfl (.int _) ?_;rw[show inR 0 ((j.length:Nat):Int) (.int (k:Int))=true by simp[inR];lia];calc ke ?_;rw[if_neg ∅];left;calc q
structure _root_.DD.RS.Nx(nt:NT)(r:RS)(w k:Nat):Prop where
 lt:w<nt.ws.length
 lies:(r.ww w).cD[k]?=some none
 row:(nt.w w).2.2="row"->0<k->∃e,(r.ww w).cD[k-1]?=some (some e)
theorem B5{n:Nat}{v:V}(h:HD H n v (nI none)):v=.bM:=by
 have h:HD H n v .bM:=h
 cases h;rfl
theorem pO{H:Hp}{n:Nat}{v:V}{e:Int×Int}(h:HD H n v (nI (some e))):∃a,v=.ref a/\H a=some (.tup [.int e.1,.int e.2]):=by
 have h:HD H n v (.tup [.int e.1,.int e.2]):=h
 cases h with
 | @tup n a b _ e l i=>
  match b,l,e,i with
  | [u,v],_,e,i=>
   have c:=i 0 u _ rfl rfl;have d:=i 1 v _ rfl rfl;obtain rfl:=c.ck;obtain rfl:=d.ck;calc⟨a,rfl,e⟩
theorem DR{H:Hp}{n:Nat}{v:V}{e:Option (Int×Int)}(h:HD H n v (nI e)):HT H 1 v (nI e):=by
 cases e with
 |none=>rw[B5 h];calc .bM
 |some e=>obtain⟨a,rfl,b⟩:=pO h;calc cS b (.int _) (.int _)
theorem m9{vs:List V}{v:V}(h:1<=vs.length)(e:vs[vs.length-1]?=some v):gU vs (-1)=some v:=by
 obtain⟨ys,z,rfl⟩:∃ys z,vs=ys++[z]:=⟨vs.dropLast,vs.getLast (by intro a;rw[a]at h;simp at h),(List.dropLast_concat_getLast _).symm⟩
 rw[lW];simpa using e
abbrev gW:Stmt:=(b8 (top 57)).getD 6 (.Pass ⟨0,0,0,0⟩)
def O5(C CN CR:Addr):Sp:=λvs H Q _=>∃(F:Addr->Prop) (x b:Addr) (nt:NT) (r:RS) (ad:Nat->Nat->Addr) (m k:Nat) (a:V),vs=[.ref x,.int m,.int k,a]/\cf C CN CR F H x b nt r ad/\r.Ok nt/\r.Nx nt m k/\∀H',au H H'->Q .bM H'
theorem rW(D:il K CR "need_pick" "Run.need_pick" gW ["self","way","number","at"])(T:Tx K mg C CN CR F FD)(o:cn P w K mg base CN "ways" 1 ["self"] (pL CN))(Z:cn P w K mg base CR "need_letter" 4 ["self","way","number","at"] (DQ C CN CR)):cn P w K mg base CR "need_pick" 5 ["self","way","number","at"] (O5 C CN CR):=by
 have sc:aD ["self","way","number","at","sort"] ["self","way","number","at"] (az gW):=by walk_at "s"
 symm;obtain⟨F,x,B,c,r,ad,m,k,a,rfl,n,R,u,q⟩:=h;have b:=hr.units;refine⟨_,(af (bN (eZ Z T.ba hr (aq 0) (ag (aq 1) (ag (aq 2) (ag (aq 3) aa)))))
  (af (aR (aB m7 (aj b (aj b (bJ (aq 0) rfl) (aq 1)) (aq 2)) fu (aE _)) (ak cG) aJ)
  (af (aU (i:=4) sc.nd rfl Sort (aj b (aj b (fz o T.cU hr (bJ (aq 0) rfl)) (aq 1)) ai))
  (ak (aR (PW.pt (pw_and (aB (bb b) (aq 4) aC (aE _)) (pw_and (aB nS (aq 2) ai (aE _)) (pw_and1 (aB xj (aj b (aj b (bJ (aq 0) rfl) (aq 1)) (bq fQ (aq 2) ai)) fu (aE _)))))) (ak cG) aJ))))),?_⟩
 nofun;obtain⟨Z,o,y,b⟩:=n.ins;obtain⟨⟨ms,wv,lv,S,o,Z,U⟩,aY⟩:=n.Nw;have W:=(b 6 ∅ ∅).1;have g:=u.lt;obtain⟨v6,X,Y⟩:=n.cA.lst (t:=6) (i:=m) g rfl;have b:=u.lies;have BM:k<(r.ww m).cD.length:=(List.getElem?_eq_some_iff.mp b).1;obtain⟨v,ev,dv⟩:=Y.get (i:=k) (d:=nI none) (by rw[aaB,b];rfl);have:=B5 dv;subst this;ac_rfl;left;calc gM y (fH ⋯) ?_;calc⟨_,x,B,c,r,ad,m,k,a,rfl,n,g,by rw[R.lk m g];calc BM,?_⟩;left;calc fL y T.ba T.di Jz ?_;left;calc bu W (bc g) ?_;calc bu X (ay ev) ?_;left
 try rw[if_neg ∅]
 left;calc fL y T.ba T.cQ qF ?_;obtain⟨n,o,x,R,b,Z,g3,g4⟩:=id S;left;calc gM b (eO ⋯ ⋯ ⋯) ?_;calc fM B ms wv lv rfl S (λl n=>?_);have p:=au.new (.lst wv) n;have el:upd H l (.lst wv) l=some (.lst wv):=ab;generalize hG:upd H l (.lst wv)=G at *;left;have b:c.ws[m]?=some (c.w m):=aS g;have l:m<wv.length:=by have:=U.1;simp at this;lia
 have AQ:=(U.2 m wv[m] (ny (c.w m)) nofun (by rw[aaB,b];rfl)).aI p.aN;nofun;obtain⟨ta,l,n,o,x,I,rV,q1,q2,q3⟩:=bU AQ;obtain rfl:=q1.ck;obtain rfl:=q2.ck;obtain rfl:=q3.cT;ac_rfl;calc bu el (ay (j:=m) (v:=.ref ta) (by rw[<-I];simp)) ?_;calc cN rV (ay (j:=2) rfl) ?_;left;have Fw:=p _ _ y;have J:=p _ _ W;have L:=p _ _ X;have M:=q _ p;have b:=u.row;by_cases z:(c.w m).2.2="row"
 ·by_cases c:0 < k
  ·nofun;obtain⟨e,he⟩:=b z c;obtain⟨l,N,O⟩:=Y.get (i:=k - 1) (d:=nI (some e)) (by rw[aaB,he];rfl);obtain⟨ae,rfl,b⟩:=pO O;ac_rfl;rw[if_pos (by simp[z]),if_pos (by simp;lia)];calc fL Fw T.ba T.di Jz ?_;left;calc bu J (bc g) ?_;calc bu L (show gU v6 ((k:Int) - 1)=some (.ref ae) from by rw[show(k:Int) - 1=((k - 1:Nat):Int) by lia];calc ay N) ?_;left
   try rw[if_neg ∅]
   left;exact M
  ·rw[if_pos (by simp[z]),if_neg (by simp;lia),if_neg ∅];left;exact M
 ·rw[if_neg (by simp[z]),if_neg ∅];left;calc M
abbrev ma:Stmt:=(b8 (top 57)).getD 11 (.Pass ⟨0,0,0,0⟩)
theorem O6{H:Hp}{n:Nat}{v:V}{s:List Int×List Int}(h:HD H n v (tY s)):HT H 2 v (zb s.1 s.2):=by
 have h:HD H n v (.tup [.tup (s.1.map .int),.tup (s.2.map .int)]):=h
 cases h with
 | @tup n a c _ e l i=>
  match c,l,e,i with
  | [u,v],_,e,i=>
   have d:=i 0 u _ rfl rfl;have f:=i 1 v _ rfl rfl;have b:∀{n:Nat} {u:V} {ns:List Int},HD H n u (.tup (ns.map .int))->HT H 1 u (.tup (ns.map .int)):=λ{n u ns} h=>by
    cases h with
    | @tup n a c _ e l i=>exact pC (n:=0) (by rw[e,show c=ns.map V.int from fA.tW ⟨l,i⟩])
   calc cS e (b d) (b f)
def O7(C CN CR:Addr):Sp:=λvs H Q _=>∃(F:Addr->Prop) (x a:Addr) (nt:NT) (r:RS) (ad:Nat->Nat->Addr) (m:Nat),vs=[.ref x,.int m]/\cf C CN CR F H x a nt r ad/\r.Ok nt/\m<nt.ms.length/\∀v,HT H 2 v (zb ((r.mm m).dQ.bt ([],[])).1 ((r.mm m).dQ.bt ([],[])).2)->Q v H
theorem zV(D:il K CR "state" "Run.state" ma ["self","m"])(T:Tx K mg C CN CR F FD)(k:cn P w K mg base CR "need_machine" 3 ["self","m"] (JB C CN CR)):cn P w K mg base CR "state" 4 ["self","m"] (O7 C CN CR):=by
 have sc:aD ["self","m"] ["self","m"] (az ma):=by walk_at "s"
 symm;obtain⟨F,x,c,e,r,ad,m,rfl,b,g,a,q⟩:=h;have j:=hr.units;refine⟨_,(af (bN (eZ k T.ba hr (aq 0) (ag (aq 1) aa)))
  (ak (aG (aj j (aj j (bJ (aq 0) rfl) (aq 1)) (ib fc ai))))),?_⟩
 nofun;obtain⟨k,o,j,l⟩:=b.ins;have n:=(l 1 ∅ ∅).1;obtain⟨o,p,k⟩:=b.cA.lst (t:=1) (i:=m) a rfl;have l:o.length=(r.mm m).dQ.length:=by simpa using k.1
 have o:=g.vc a;obtain⟨v,u,y⟩:=k.get (i:=(r.mm m).dQ.length-1) (d:=tY ((r.mm m).dQ.bt ([],[]))) (by rw[aaB,lS (d:=([],[])) o];rfl);ac_rfl;left;calc gM j (fH ⋯) ?_;calc⟨_,x,c,e,r,ad,m,rfl,b,a,?_⟩;left;calc fL j T.ba T.bY Jy ?_;left;calc bu n (bc a) ?_;calc bu p (m9 () (by rw[l];calc u)) ?_;calc q _ (O6 (y.cv dE))
abbrev me:Stmt:=(b8 (top 57)).getD 10 (.Pass ⟨0,0,0,0⟩)
def JC(C CN CR:Addr):Sp:=λvs H Q _=>∃(F:Addr->Prop) (x a:Addr) (nt:NT) (r:RS) (ad:Nat->Nat->Addr) (m:Nat),vs=[.ref x,.int m]/\cf C CN CR F H x a nt r ad/\m<nt.ms.length/\Q (.int (((r.mm m).dQ.length:Nat)-1)) H
theorem zW(D:il K CR "count" "Run.count" me ["self","m"])(T:Tx K mg C CN CR F FD)(e:cn P w K mg base CR "need_machine" 3 ["self","m"] (JB C CN CR)):cn P w K mg base CR "count" 4 ["self","m"] (JC C CN CR):=by
 have sc:aD ["self","m"] ["self","m"] (az me):=by walk_at "s"
 symm;obtain⟨F,x,c,d,r,ad,m,rfl,a,b,q⟩:=h;have g:=hr.units;refine⟨_,(af (bN (eZ e T.ba hr (aq 0) (ag (aq 1) aa)))
  (ak (aG (bq fQ (aW aP rfl T.bR L' (ag (aj g (bJ (aq 0) rfl) (aq 1)) aa)) ai)))),?_⟩
 nofun;obtain⟨j,o,e,g⟩:=a.ins;have j:=(g 1 ∅ ∅).1;obtain⟨k,l,n⟩:=a.cA.lst (t:=1) (i:=m) b rfl;ac_rfl;have g:k.length=(r.mm m).dQ.length:=by simpa using n.1
 left;calc gM e (fH ⋯) ?_;calc⟨_,x,c,d,r,ad,m,rfl,a,b,?_⟩;left;calc fL e T.ba T.bY Jy ?_;left;calc bu j (bc b) ?_;calc bC _ (.inl ⟨_,aM.of l,rfl⟩) ?_;left;rw[g];calc q
abbrev iR:Stmt:=(b8 (top 57)).getD 15 (.Pass ⟨0,0,0,0⟩)
def B6(C CN CR:Addr):Sp:=λvs H Q _=>∃(F:Addr->Prop) (x b:Addr) (nt:NT) (r:RS) (ad:Nat->Nat->Addr),vs=[.ref x]/\cf C CN CR F H x b nt r ad/\∀l a,H l=none->fA H 4 a (r.picks.map pairD)->Q (.ref l) (upd H l (.lst a))
theorem uz(D:il K CR "schedule" "Run.schedule" iR ["self"])(T:Tx K mg C CN CR F FD):cn P w K mg base CR "schedule" 1 ["self"] (B6 C CN CR):=by
 have sc:aD ["self"] ["self"] (az iR):=by walk_at "s"
 symm;obtain⟨F,x,b,c,r,ad,rfl,a,q⟩:=h;have b:=hr.units;calc⟨_,(ak (aG (cL cw rfl T.dF vE (ag (bJ (aq 0) rfl) aa)))),?_⟩;nofun;obtain⟨c,o,b,d⟩:=a.ins;obtain⟨e,c,d⟩:=a.cA.lst (t:=0) (i:=0) (by show 0<1;decide) rfl;ac_rfl;left;calc fL b T.ba T.cX W8 ?_;left;calc bC _ (.inl (aM.of c)) (λl a=>?_);calc q l _ a (d.cv dE)
abbrev qH:Stmt:=(b8 (top 57)).getD 8 (.Pass ⟨0,0,0,0⟩)
def DS(C CN CR:Addr):Sp:=λvs H Q _=>∃(F:Addr->Prop) (x a:Addr) (nt:NT) (r:RS) (ad:Nat->Nat->Addr),vs=[.ref x]/\cf C CN CR F H x a nt r ad/\Q (.ref a) H
theorem FC(D:il K CR "net" "Run.net" qH ["self"])(T:Tx K mg C CN CR F FD):cn P w K mg base CR "net" 1 ["self"] (DS C CN CR):=by
 have sc:aD ["self"] ["self"] (az qH):=by walk_at "s"
 symm;obtain⟨F,x,b,c,r,ad,rfl,a,q⟩:=h;have b:=hr.units;calc⟨_,(ak (aG (bJ (aq 0) rfl))),?_⟩;obtain⟨c,o,b,d⟩:=a.ins;left;calc fL b T.ba T.cQ qF ?_;calc q
theorem uA{w:Nat}:∀{l:List Nat},w∈l->l[l.idxOf w]?=some w/\∀i y,i<l.idxOf w->l[i]?=some y->y≠w
 | [],h=>by simp at h
 |a::r,h=>by
  by_cases e:a=w
  ·subst e;rw[List.idxOf_cons_self];exact⟨rfl,λi y c=>absurd c (aas i)⟩
  ·have hr:w∈r:=by
    rcases List.mem_cons.mp h with h|h
    ·exact absurd h.symm e
    ·exact h
   obtain⟨d,g⟩:=uA hr;have j:(a::r).idxOf w=r.idxOf w+1:=by rw[List.idxOf_cons,beq_eq_false_iff_ne.mpr e];rfl
   rw[j];refine⟨by simpa using d,λi y c b=>?_⟩
   cases i with
   |zero=>simp at b;subst b;calc e
   |succ i=>calc g i y () (by simpa using b)
theorem sL{nt:NT}(h:nt.Ok){w:Nat}(a:w<nt.ws.length):(nt.w w).2.1=((nt.goal w:Nat):Int):=by
 have:=h.wy a;unfold NT.goal;lia
theorem JD{nt:NT}(h:nt.Ok){w:Nat}(a:w<nt.ws.length):w∈vi nt 1 (nt.goal w):=by
 unfold vi;rw[List.mem_filter];calc⟨List.mem_range.mpr a,?_⟩;rw[decide_eq_true_eq];calc sL h a
theorem pP{nt:NT}(h:nt.Ok){w:Nat}(a:w<nt.ws.length):(vi nt 1 (nt.goal w)).idxOf w=nt.place w:=by
 unfold NT.place;rw[sL h a];rfl
theorem wB{l:List Nat}:(l.map λi=>V.int (i:Nat))=(l.map λi=>((i:Nat):Int)).map V.int:=by simp[List.map_map]
theorem Ny{r:RS}{n:NT}{w k:Nat}:∀t i,i<n.n t->setC (setC (setC (setC (setC r.ct 0 0 (.l (r.picks.map pairD++[pairD ((w:Int),(k:Int))]))) 6 w (.l (((r.ww w).cD.map nI).set k (nI (some (n.ev r w)))))) 1 (n.goal w) (.l ((r.mm (n.goal w)).dQ.map tY++[tY ((n.work r w k).ns,(n.work r w k).row)]))) 3 (n.goal w) (.l (((r.mm (n.goal w)).wp.bt []).map .int++(n.work r w k).words.map .int))) 2 (n.goal w) (.l (((r.mm (n.goal w)).wp.map λu=>DV.int (u.length:Nat))++[.int ((((r.mm (n.goal w)).wp.bt []++(n.work r w k).words).length:Nat))])) t i=(r.step n w k).ct t i:=by
 intro t i a;unfold setC
 match t,a with
 |0,a=>
  have:i=0:=by have:i<1:=a;lia
  subst this;simp[RS.ct,RS.step]
 |1,_=>by_cases e:i=n.goal w<;>simp[RS.ct,RS.step,e]
 |2,_=>by_cases e:i=n.goal w<;>simp[RS.ct,RS.step,e]
 |3,_=>by_cases e:i=n.goal w<;>simp[RS.ct,RS.step,e,tX]
 |4,_=>by_cases e:i=w<;>simp[RS.ct,RS.step,e]
 |5,_=>by_cases e:i=w<;>simp[RS.ct,RS.step,e]
 |6,_=>by_cases e:i=w<;>simp[RS.ct,RS.step,e,List.map_set]
 |(t+7),a=>calc absurd a (aas i)
theorem DT{nt:NT}(d:nt.Ok)(h:r.Ok nt){w k:Nat}(f:w<nt.ws.length):∀a c,some (nt.ev r w)=some (a,c)->0<=a/\a<nt.ms.length/\1<=c/\c<=((r.step nt w k).mm a.toNat).hr.length:=by
 have b:=d.ir f;intro a c e
 cases e;refine⟨(),(),?_,?_⟩
 ·have:=h.vc b;lia
 ·have d:(r.step nt w k).mm (nt.goal w)=⟨(r.mm (nt.goal w)).dQ++[((nt.work r w k).ns,(nt.work r w k).row)],(r.mm (nt.goal w)).wp++[(r.mm (nt.goal w)).wp.bt []++(nt.work r w k).words],(r.mm (nt.goal w)).hr++[nt.iq r w k]⟩:=if_pos rfl;rw[show((nt.goal w:Nat):Int).toNat=nt.goal w from Int.toNat_natCast _,d,h.lh _ b];simp
theorem qI{outs:List Nat}{ev:Int×Int}:∀(ps:List (Int×Int)) {r:RS}{p:Int×Int},r.send outs ev (ps++[p])=(r.send outs ev ps).send outs ev [p]
 | [],r,p=>rfl
 |q::ps,r,p=>qI ps
structure BF(F:Addr->Prop)(n:Nat->Nat)(ad:Nat->Nat->Addr)(A B H:Hp)(ct:Nat->Nat->CO):Prop where
 b:eA F H n ad ct
 f:Fr (FP n ad) A H
 g:Fr (FP n ad) B H
section
variable {F:Addr->Prop}{n:Nat->Nat}{ad:Nat->Nat->Addr}{A B H H':Hp}{ct:Nat->Nat->CO}
theorem BF.same(h:BF F n ad A B H ct)(s:au H H'):BF F n ad A B H' ct:=⟨h.b.same s,h.f.trans s.fr,h.g.trans s.fr⟩
theorem BF.app(h:BF F n ad A B H ct){t i:Nat}(a:i<n t){d:List DV}(e:ct t i=.l d){vs:List V}(c:H (ad t i)=some (.lst vs)){us:List V}{es:List DV}(g:fA (jY (λb=>F b\/FP n ad b) H) 4 us es):BF F n ad A B (upd H (ad t i) (.lst (vs++us))) (setC ct t i (.l (d++es))):=⟨h.b.app a e c g,h.f.upd ⟨t,i,a,rfl⟩ c trivial,h.g.upd ⟨t,i,a,rfl⟩ c trivial⟩
end
abbrev jx:Stmt:=(b8 (top 57)).getD 7 (.Pass ⟨0,0,0,0⟩)
inductive JE(C CN CR:Addr)(vs:List V)(H:Hp)(Q:VK):Prop
 |mk (F:Addr->Prop) (x bE:Addr) (nt:NT) (r:RS) (ad:Nat->Nat->Addr) (wy k:Nat) (a:V) (h0:vs=[.ref x,.int (wy:Nat),.int (k:Nat),a]) (h1:cf C CN CR F H x bE nt r ad) (h2:FS F H) (h3:r.Ok nt) (h4:r.Nx nt wy k) (h5:r.picks.length<=400) (h6:∀t H',Fr (FP nt.n ad) H H'->cf C CN CR F H' x bE nt (r.pick nt wy k) ad->HT H' 1 t (pairD (nt.ev r wy))->Q t H'):JE C CN CR vs H Q
def xP(C CN CR:Addr):Sp:=λvs H Q _=>JE C CN CR vs H Q
theorem vm(D:il K CR "pick_at" "Run.pick_at" jx ["self","way","number","at"])(T:Tx K mg C CN CR F FD)(gw:cn P w K mg base C "worked" 3 ["self","state","way","said"] (wz K C))(bQ:cn P w K mg base CN "machines" 1 ["self"] (iy CN))(dj:cn P w K mg base CN "ways" 1 ["self"] (pL CN))(jy:cn P w K mg base CN "ways_in" 4 ["self","m"] (uv C CN))(iS:cn P w K mg base CN "ways_out" 4 ["self","m"] (rG C CN))(gX:cn P w K mg base CR "need_pick" 5 ["self","way","number","at"] (O5 C CN CR))(c9:cn P w K mg base CR "put_letter" 1 ["self","way","said","sender"] (ux C CN CR))(mf:cn P w K mg base CR "state" 4 ["self","m"] (O7 C CN CR)):cn P w K mg base CR "pick_at" 6 ["self","way","number","at"] (xP C CN CR):=by
 have sc:aD ["self","way","number","at","m","place","machine","state","sent","words","event","ways_out","j","said"] ["self","way","number","at"] (az jx):=by walk_at "s"
 symm;obtain⟨F,x,N,m,r,ad,B,k,a,rfl,J,j0,L,hc,o,q⟩:=h;have o:=hr.units;refine⟨_,(af (bN (eZ gX T.ba hr (aq 0) (ag (aq 1) (ag (aq 2) (ag (aq 3) aa)))))
  (af (aU (i:=4) sc.nd rfl Sort (aj o (aj o (fz dj T.cU hr (bJ (aq 0) rfl)) (aq 1)) ai))
  (af (aU (i:=5) sc.nd rfl Sort (dz nM PySem.F.slot_list_index PySem.F.type_list_index v8 (eZ jy T.cU hr (bJ (aq 0) rfl) (ag (aq 4) aa)) (ag (aq 1) aa)))
  (af (aU (i:=6) sc.nd rfl Sort (aj o (fz bQ T.cU hr (bJ (aq 0) rfl)) (aq 4)))
  (af (de (eZ gw T.cP hr (aq 6) (ag (eZ mf T.ba hr (aq 0) (ag (aq 4) aa)) (ag (aq 5) (ag (aj o (aj o (bJ (aq 0) rfl) (aq 1)) (aq 2)) aa)))) (tZ (i:=7) (j:=8) (l:=9) rfl sc.nd rfl rfl rfl Sort Sort Sort))
  (af (aU (i:=10) sc.nd rfl Sort (bD (ag (aq 4) (ag (aW aP rfl T.bR L' (ag (aj o (bJ (aq 0) rfl) (aq 4)) aa)) aa))))
  (af (bN (dz nM p6 p7 bS (bJ (aq 0) rfl) (ag (bD (ag (aq 1) (ag (aq 2) aa))) aa)))
  (af (de (aq 10) (gR (aj o (bJ (aq 0) rfl) (aq 1)) (aq 2) dA))
  (af (bN (dz nM p6 p7 bS (aj o (bJ (aq 0) rfl) (aq 4)) (ag (aq 7) aa)))
  (af (bN (dz nM PySem.F.slot_list_extend PySem.F.type_list_extend MQ (aj o (bJ (aq 0) rfl) (aq 4)) (ag (aq 9) aa)))
  (af (bN (dz nM p6 p7 bS (aj o (bJ (aq 0) rfl) (aq 4)) (ag (aW aP rfl T.bR L' (ag (aj o (bJ (aq 0) rfl) (aq 4)) aa)) aa)))
  (af (aU (i:=11) sc.nd rfl Sort (eZ iS T.cU hr (bJ (aq 0) rfl) (ag (aq 4) aa)))
  (af (dJ PassesOwn.never rfl (bz (pv 8)) (dW (i:=12) (j:=13) rfl sc.nd rfl rfl Sort Sort)
  (ak (aR (aB eF (aq 12) (aW aP rfl T.bR L' (ag (aq 11) aa)) (aE _)) (ak (bN (eZ c9 T.ba hr (aq 0) (ag (aj o (aq 11) (aq 12)) (ag (aq 13) (ag (aq 10) aa)))))) aJ)))
  (ak (aG (aq 10)))))))))))))))),?_⟩
 nofun;obtain⟨dx,o,M,ho⟩:=J.ins;have hn:=J.Nw;have U:=hn.ok;obtain⟨⟨ms,wv,lv,hf,o,yA,Gm⟩,_⟩:=id hn;obtain⟨o,a1,b1,c1,g1,g2,g3,g4⟩:=id hf;ac_rfl;left;calc gM M (fH ⋯) ?_;calc⟨_,x,N,m,r,ad,B,k,a,rfl,J,L,hc,λH1 o=>?_⟩;nofun;have I:=hc.lt;have G:=U.ir I;obtain⟨wk1,Xd,wk3,wk4⟩:=sD U L I k;ac_rfl;left;calc fL (o _ _ M) T.ba T.cQ qF ?_;left;calc gM (o _ _ g1) (eO ⋯ ⋯ ⋯) ?_;calc fM N ms wv lv rfl (hf.same o) (λl hl=>?_);have s2:au H (upd H1 l (.lst wv)):=o.trans (au.new _ hl);have el:upd H1 l (.lst wv) l=some (.lst wv):=ab;nofun;generalize Jh:upd H1 l (.lst wv)=H2 at *;have o:m.ws[B]?=some (m.w B):=aS I;have lx:B<wv.length:=by have:=Gm.1;simp at this;lia
 have AQ:=(Gm.2 B wv[B] (ny (m.w B)) nofun (by rw[aaB,o];rfl)).aI s2.aN;obtain⟨ta,u1,u2,u3,kk,eta,rV,q1,q2,q3⟩:=bU AQ;obtain rfl:=q1.ck;obtain rfl:=q2.ck;obtain rfl:=q3.cT;ac_rfl;left;calc bu el (ay (j:=B) (v:=.ref ta) (by rw[<-eta];simp)) ?_;calc cN rV (show gU _ 1=some (.int ((m.goal B:Nat):Int)) from by rw[<-sL U I];calc ay (j:=1) rfl) ?_;left;calc fL (s2 _ _ M) T.ba T.cQ qF ?_;left;calc gM (s2 _ _ g1) (eO ⋯ ⋯ ⋯) ?_;calc⟨N,m,m.goal B,rfl,hn.fr (Z:=λ_=>False) s2.fr,G,λl2 H3 O8 o Gn=>?_⟩;have s3:=s2.trans O8;calc⟨.inl ⟨rfl,_,aM.of Gn⟩,?_⟩;obtain⟨o,ix2⟩:=uA (JD U I);refine⟨l2,_,m.place B,B,rfl,rfl,by rw[Gn,wB],?_,?_,?_⟩
 ·rw[aaB,<-pP U I,o];rfl
 ·intro i y hi hy;rw[aaB]at hy;obtain⟨z,hz,rfl⟩:=Option.map_eq_some_iff.mp hy;have:=ix2 i z (by rw[pP U I];calc hi) hz;lia
 left;calc fL (s3 _ _ M) T.ba T.cQ qF ?_;left;calc gM (s3 _ _ g1) (eO ⋯ ⋯ ⋯) ?_;calc fM N ms wv lv rfl (hf.same s3) (λl4 o=>?_);have W:au H (upd H3 l4 (.lst (ms.map V.ref))):=s3.trans (au.new _ o);have el4:upd H3 l4 (.lst (ms.map V.ref)) l4=some (.lst (ms.map V.ref)):=ab;generalize hG4:upd H3 l4 (.lst (ms.map V.ref))=H4 at *;have O2:m.goal B<ms.length:=by lia
 have o:m.ms[m.goal B]?=some (m.ms.getD (m.goal B) default):=aS G;have DU:=(yA (m.goal B) ms[m.goal B] _ (cF O2) o).same W;have Nz:=U.gd G;left;calc bu el4 (ay (j:=m.goal B) (v:=.ref ms[m.goal B]) (by rw[aaB,cF O2];rfl)) ?_;left;nofun;generalize ms[m.goal B]=mch at *;obtain⟨dm,o,y,Gh,R0,hm3⟩:=id DU;ac_rfl;calc gM Gh (Dx ⋯ ⋯ ⋯) ?_;calc gM (W _ _ M) (fH ⋯) ?_;calc⟨_,x,N,m,r,ad,m.goal B,rfl,J.same W,L,G,λsv JA=>?_⟩;have l4':=W _ _ (ho 4 ∅ ∅).1;nofun;obtain⟨o,e4,d4⟩:=(J.cA.same W).lst (t:=4) (i:=B) I rfl;have z4:=d4.tW;subst z4;ac_rfl;have BM:k<(r.ww B).say.length:=by rw[L.lk B I];exact(List.getElem?_eq_some_iff.mp hc.lies).1
 left;calc fL (W _ _ M) T.ba T.bZ Nv ?_;left;calc bu l4' (bc I) ?_;calc bu e4 (ay (j:=k) (v:=.int ((r.ww B).say.getD k 0)) (by rw[aaB,aS (d:=0) BM];rfl)) ?_;have o:=L.last G;calc⟨mch,sv,_,_,_,_,_,_,_,_,rfl,DU,zd.of JA,Nz.m2,Nz.m12,o.bn,o.lr,Nz.d24,by rw[o.ln];calc Nz.ok,λy Y Uq R8=>?_⟩;have s5:=W.trans Uq;nofun;obtain⟨rp,LP,Ur,O9,zs,rfl,o,B7,R9,lD,B8,fl1,ac9,y⟩:=R8.ex
 replace B7:HT Y 2 LP (zb (m.work r B k).ns (m.work r B k).row):=B7
 replace lD:SL Y zs (m.work r B k).cR:=lD
 replace B8:Y O9=some (.lst ((m.work r B k).words.map V.int)):=B8
 ac_rfl;calc un3 (bG.of o) ?_;left;calc fL (s5 _ _ M) T.ba T.bY Jy ?_;have b5:=J.cA.same s5;have i0:0<m.n 0:=by show 0<1;decide
 obtain⟨o,y,d1⟩:=b5.lst (t:=1) (i:=m.goal B) G rfl;have z1:o.length=(r.mm (m.goal B)).dQ.length:=by simpa using d1.1
 left;calc bu (s5 _ _ (ho 1 ∅ ∅).1) (bc G) ?_;calc iu _ (.inl ⟨_,aM.of y,rfl⟩) df (λev o=>?_);rw[z1];have s6:au H (upd Y ev (.tup [.int ((m.goal B:Nat):Int),.int (((r.mm (m.goal B)).dQ.length:Nat):Int)])):=s5.trans (au.new _ o);have s56:au Y (upd Y ev (.tup [.int ((m.goal B:Nat):Int),.int (((r.mm (m.goal B)).dQ.length:Nat):Int)])):=au.new _ o;have ade:HT (upd Y ev (.tup [.int ((m.goal B:Nat):Int),.int (((r.mm (m.goal B)).dQ.length:Nat):Int)])) 1 (.ref ev) (pairD (m.ev r B)):=cS (n:=0) ab (.int _) (.int _);generalize hG6:upd Y ev (.tup [.int ((m.goal B:Nat):Int),.int (((r.mm (m.goal B)).dQ.length:Nat):Int)])=H6 at *;have b6:=J.cA.same s6;left;calc fL (s6 _ _ M) T.ba T.cX W8 ?_;obtain⟨v0,e0,d0⟩:=b6.lst (t:=0) (i:=0) i0 rfl;have o:v0.length=r.picks.length:=by simpa using d0.1
 left;calc gN (.inl ⟨rfl,_,aM.of e0⟩) df (λtp o=>?_);left;have s7:au H (upd H6 tp (.tup [.int ((B:Nat):Int),.int ((k:Nat):Int)])):=s6.trans (au.new _ o);have yB:au H6 (upd H6 tp (.tup [.int ((B:Nat):Int),.int ((k:Nat):Int)])):=au.new _ o;have adf:HT (upd H6 tp (.tup [.int ((B:Nat):Int),.int ((k:Nat):Int)])) 1 (.ref tp) (pairD ((B:Int),(k:Int))):=cS (n:=0) ab (.int _) (.int _);generalize Pa:upd H6 tp (.tup [.int ((B:Nat):Int),.int ((k:Nat):Int)])=H7 at *;have b7:=J.cA.same s7;have FS7:FS F H7:=j0.fr (Z:=λ_=>False) s7.fr (λ_ _ h=>h);have e07:=yB _ _ e0;have Us:=s56.trans yB;calc iu v0 e07 (small ()) ?_;have S:=(BF.mk b7 s7.fr (Fr.refl:Fr (FP m.n ad) H7 H7)).app (t:=0) (i:=0) i0 rfl e07 (fA.one ((b7.ht FS7 adf).mono ∅));generalize hG8:upd H7 (ad 0 0) (.lst (v0++[.ref tp]))=H8 at *;have y:=ho 6 ∅ ∅;have o1:=ho 1 ∅ ∅;have o2:=ho 2 ∅ ∅;have o3:=ho 3 ∅ ∅;left;calc fL (S.f.ly M id) T.ba T.di Jz ?_;obtain⟨v6,e6,d6⟩:=S.b.lst (t:=6) (i:=B) I rfl;have Y:v6.length=(r.ww B).cD.length:=by simpa using d6.1
 have o:k<v6.length:=by rw[Y,<-L.lk B I];exact BM
 left;calc bu (S.f.at y.1 y.2.2) (bc I) ?_;left;calc cy v6 k e6 (kh o) ?_;have Xe:=ade.aI yB.aN;have w9:=BF.mk (S.b.set (t:=6) (i:=B) I rfl e6 (k:=k) ((S.b.ht (j0.fr S.f J.cA.uw) (Xe.aI S.g.aN)).mono ∅)) (S.f.upd ⟨6,B,I,rfl⟩ e6 trivial) (S.g.upd ⟨6,B,I,rfl⟩ e6 trivial);generalize Xf:upd H8 (ad 6 B) (.lst (v6.set k (.ref ev)))=H9 at *;left;calc fL (w9.f.ly M id) T.ba T.bY Jy ?_;obtain⟨v19,o,d19⟩:=w9.b.lst (t:=1) (i:=m.goal B) G rfl;have y:v19.length=(r.mm (m.goal B)).dQ.length:=by simpa using d19.1
 have y:=L.bp _ G;left;calc bu (w9.f.at o1.1 o1.2.2) (bc G) ?_;calc⟨.inl ⟨rfl,_,aM.of o⟩,?_⟩;left;calc iu v19 o (small ()) ?_;have Hr:=w9.app (t:=1) (i:=m.goal B) G rfl o (fA.one (show HD _ 4 LP (tY ((m.work r B k).ns,(m.work r B k).row)) from(w9.b.ht (j0.fr w9.f J.cA.uw) ((B7.aI Us.aN).aI w9.g.aN)).mono ∅));have JF:¬FP m.n ad Ur:=λz=>by
  obtain⟨u,e,_⟩:=(J.cA.same W).fp z;rw[fl1]at e;cases e
 have Sa:¬FP m.n ad O9:=λz=>by
  obtain⟨u,e,_⟩:=(J.cA.same W).fp z;rw[ac9]at e;cases e
 generalize Xh:upd H9 (ad 1 (m.goal B)) (.lst (v19++[LP]))=FE at *;left;calc fL (Hr.f.ly M id) T.ba T.cY W9 ?_;obtain⟨v3,o,d3⟩:=Hr.b.lst (t:=3) (i:=m.goal B) G rfl;have y:=d3.tW;have W:=L.bw _ G _ (gn (l:=(r.mm (m.goal B)).wp) (d:=[]) (by rw[<-L.lw _ G];calc L.vc G));have l:v3.length=((r.mm (m.goal B)).wp.bt []).length:=by rw[y];simp
 left;calc bu (Hr.f.at o3.1 o3.2.2) (bc G) ?_;calc⟨.inl ⟨rfl,_,aM.of o⟩,?_⟩;left;calc ua v3 _ o (Hr.g.at (Us _ _ B8) Sa) (J' (small (by simp;lia))) ?_;have vX:=Hr.app (t:=3) (i:=m.goal B) G rfl o (fA.ints (m.work r B k).words);have adi:upd FE (ad 3 (m.goal B)) (.lst (v3++(m.work r B k).words.map V.int)) (ad 3 (m.goal B))=some (.lst (v3++(m.work r B k).words.map V.int)):=ab;generalize Xi:upd FE (ad 3 (m.goal B)) (.lst (v3++(m.work r B k).words.map V.int))=Xj at *;left;calc fL (vX.f.ly M id) T.ba T.d7 acX ?_;obtain⟨v2,e2,d2⟩:=vX.b.lst (t:=2) (i:=m.goal B) G rfl;have l:v2.length=(r.mm (m.goal B)).wp.length:=by simpa using d2.1
 have l:=L.lw _ G;left;calc bu (vX.f.at o2.1 o2.2.2) (bc G) ?_;calc⟨.inl ⟨rfl,_,aM.of e2⟩,?_⟩;left;calc fL (vX.f.ly M id) T.ba T.cY W9 ?_;left;calc bu (vX.f.at o3.1 o3.2.2) (bc G) ?_;calc bC _ (.inl ⟨_,aM.of adi,rfl⟩) ?_;left;calc iu v2 e2 (small ()) ?_;rw[show(v3++(m.work r B k).words.map V.int).length=((r.mm (m.goal B)).wp.bt []++(m.work r B k).words).length by simp;lia];have AR:=vX.app (t:=2) (i:=m.goal B) G rfl e2 (fA.one (.int (((r.mm (m.goal B)).wp.bt []++(m.work r B k).words).length:Nat)));generalize Xk:upd Xj (ad 2 (m.goal B)) (.lst (v2++[.int (((r.mm (m.goal B)).wp.bt []++(m.work r B k).words).length:Nat)]))=Ut at *;have Xl:cf C CN CR F Ut x N m (r.step m B k) ad:=J.own AR.f (AR.b.congr Ny);have Xm:SL Ut zs (m.work r B k).cR:=(lD.aI Us.aN).aI AR.g.aN;have pK:=AR.g.at (Us _ _ R9) JF;have Xn:=Xe.aI AR.g.aN;have X:=AR.f;clear b5 b6 b7 S w9 Hr vX AR d0 d1 d2 d3 d4 d6 d19 hG8 Xf Xh Xi Xk;left;calc fL (X.ly M id) T.ba T.cQ qF ?_;left;calc gM (X.ly g1 id) (eO ⋯ ⋯ ⋯) ?_;calc⟨N,m,m.goal B,rfl,hn.fr X,G,λlo Sb ju flo DW=>?_⟩;have nlo:¬FP m.n ad lo:=λz=>by
  obtain⟨u,e,_⟩:=Xl.cA.fp z;rw[flo]at e;cases e
 left;have o:=Xl.same ju;have l:=ju _ _ pK;have Pb:=Xn.aI ju.aN;have Pc:=Xm.aI ju.aN;have zX:zs.length=(m.work r B k).cR.length:=Pc.1;have f13:=X.trans ju.fr;have Sd:=L.step U I (k:=k);have Se:∀a c,some (m.ev r B)=some (a,c)->0<=a/\a<m.ms.length/\1<=c/\c<=((r.step m B k).mm a.toNat).hr.length:=DT U L I;refine⟨_,rfl,.inl ⟨⟨_,aM.of l⟩,ee (K:=K) (xs:=zs) (λi σ H'=>(∃Sf Sg,σ=[some (V.ref x),some (V.int ((B:Nat):Int)),some (V.int ((k:Nat):Int)),some a,some (V.int ((m.goal B:Nat):Int)),some (V.int ((m.place B:Nat):Int)),some (V.ref mch),some LP,some (V.ref Ur),some (V.ref O9),some (V.ref ev),some (V.ref lo),Sf,Sg])/\Fr (FP m.n ad) Sb H'/\cf C CN CR F H' x N m ((r.step m B k).send (m.outs (m.goal B)) (m.ev r B) ((m.work r B k).cR.take i)) ad) ?_ ?_ ?_ ?_⟩⟩
 ·exact⟨⟨_,_,rfl⟩,Fr.refl,o⟩
 ·rintro i σ H' hi ⟨_,O,_⟩;exact aM.of (O.at l JF)
 ·intro i z σ H' hz fW;nofun;obtain⟨⟨Sf,Sg,rfl⟩,O,vn⟩:=fW;have l:i < zs.length:=(List.getElem?_eq_some_iff.mp hz).1;have l:i < (m.work r B k).cR.length:=by lia
  have o:(m.work r B k).cR[i]?=some (m.work r B k).cR[i]:=cF l;have B9:=wk4 _ (aac l);have Sh:=(Pc.2 i z _ hz o).aI O.aN;have NA:(r.step m B k).send (m.outs (m.goal B)) (m.ev r B) ((m.work r B k).cR.take (i+1))=((r.step m B k).send (m.outs (m.goal B)) (m.ev r B) ((m.work r B k).cR.take i)).send (m.outs (m.goal B)) (m.ev r B) [(m.work r B k).cR[i]]:=by
   rw[List.take_succ,o];exact qI _
  generalize (m.work r B k).cR[i]=p at *;obtain⟨R,px⟩:=p;obtain⟨tz,u1,u2,kz,rfl,yZ,y1,y2⟩:=dD Sh;obtain rfl:=y1.ck;obtain rfl:=y2.ck;ac_rfl;calc uS (bG.of yZ) ?_;have o:=O.at DW nlo;left;calc bC _ (.inl ⟨_,aM.of o,rfl⟩) ?_;left;have l:((vi m 0 (m.goal B)).map λi=>V.int ((i:Nat):Int)).length=(m.outs (m.goal B)).length:=by rw[aaC];rfl
  rw[l];have u:R.toNat=R.toNat:=rfl;have y:((R.toNat:Nat):Int)=R:=aaA B9;by_cases u:R<((m.outs (m.goal B)).length:Nat)
  ·rw[if_pos (by simpa using u)];have l:R.toNat < (m.outs (m.goal B)).length:=by lia
   have G:(m.outs (m.goal B)).getD R.toNat 0<m.ws.length:=by
    have:=getD_mem (d:=0) l;unfold NT.outs at this ⊢;rw[List.mem_filter,List.mem_range]at this;exact this.1
   left;obtain⟨L,M,I,S⟩:=vn.ins;calc gM I (fH ⋯) ?_;refine bu o (show gU _ R=some (.int (((m.outs (m.goal B)).getD R.toNat 0:Nat):Int)) from by
    rw[<-y];calc ay ?_;rw[aaB];show Option.map _ (m.outs (m.goal B))[_]?=_;rw[Int.toNat_natCast,aS (d:=0) l];rfl) ?_
   have y:=(RS.uR.send (outs:=m.outs (m.goal B)) (ev:=m.ev r B) ((m.work r B k).cR.take i) Sd Se).mono (show _<=19999 by simp;lia);calc⟨F,x,N,m,_,ad,_,px,.ref ev,some (m.ev r B),rfl,vn,j0.fr (f13.trans O) J.cA.uw,G,(Pb.aI O.aN).mono ∅,y,λo I L=>?_⟩;left;calc gN ⟨_,_,rfl,rfl⟩ (O.trans I) ?_;rw[NA];show cf C CN CR F o x N m (if R.toNat<_ then _ else _) ad;rw[if_pos l];exact L
  ·rw[if_neg (by simpa using u)];left;calc gN ⟨_,_,rfl,rfl⟩ O ?_;rw[NA];show cf C CN CR F H' x N m (if R.toNat<_ then _ else _) ad;rw[if_neg ()];exact vn
 ·intro σ H' gc;obtain⟨⟨Sf,Sg,rfl⟩,O,vn⟩:=gc;left;rw[zX,List.take_length]at vn;calc q _ _ (f13.trans O) vn (Pb.aI O.aN)
def _root_.DD.RS.LQ(r:RS)(w:Nat):List Nat:=(List.range (r.ww w).say.length).filter λk=>((r.ww w).cD.getD k none).isNone
theorem jc{p:Nat->Bool}{i:Nat}:(List.range (i+1)).filter p=(List.range i).filter p++(if p i=true then[i] else[]):=by
 rw[List.range_succ,List.filter_append];congr 1
 cases h:p i<;>simp[h]
theorem JH(c:∀b,Z b->∃o,H b=some o/\soft o){m:Nat}{x:V}{d:DV}(g:HT H m x d):HD (jY Z H) m x d:=by
 calc HT.hd (g.aI λb h e=>?_);rw[gV (λz=>by
  obtain⟨o,a,f⟩:=c b z;rw[e] at a;cases a;calc f)]
 calc e
structure uC(H0 H':Hp)(D:Addr)(as:List Addr)(n:Nat)(ct:Nat->Hp->List V->Prop):Prop where
 len:as.length=n
 nd:as.Nodup
 new:∀a∈as,H0 a=none/\a≠D
 ins:∀(j:Nat) a,as[j]?=some a->∃vs,H' a=some (.lst vs)/\ct j H' vs
theorem uC.nil{ct:Nat->Hp->List V->Prop}:uC H0 H' D [] 0 ct:=⟨rfl,List.nodup_nil,λa h=>by simp at h,λj a h=>by simp at h⟩
theorem uC.snoc{n:Nat}{ct:Nat->Hp->List V->Prop}(h:uC H0 H1 D as n ct)(p:au H0 H1)(q:H1 D≠none)(g:H1 a=none){vs:List V}(e:H' a=some (.lst vs))(c:ct n H' vs)(s:∀b o,b≠D->H1 b=some o->H' b=some o)(f:∀j vs,ct j H1 vs->ct j H' vs):uC H0 H' D (as++[a]) (n+1) ct:=by
 refine⟨by simp[h.len],?_,λb d=>?_,λj b d=>?_⟩
 ·rw[List.nodup_append];calc gN h.nd nofun (λb d c l=>?_);simp at l;subst l;intro z;subst z;obtain⟨j,k⟩:=aap d;obtain⟨vs,i,_⟩:=h.ins j b k;rw[g]at i;cases i
 ·rcases List.mem_append.mp d with d | d
  ·exact h.new b d
  ·simp at d;subst d;refine⟨?_,λz=>q (z ▸ g)⟩
   cases r:H0 b with
   |none=>rfl
   |some o=>rw[p _ _ r]at g;cases g
 ·by_cases k:j < as.length
  ·rw[aaH k]at d;obtain⟨vs,i,g⟩:=h.ins j b d;exact⟨vs,s _ _ (h.new b (W' d)).2 i,f _ _ g⟩
  ·rw[aaG ()] at d
   cases m:j-as.length with
   |zero=>
    rw[m]at d;simp at d;subst d;have:j=n:=by have:=h.len;lia
    subst this;calc⟨vs,e,c⟩
   |succ k=>rw[m]at d;simp at d
theorem uC.keep{n:Nat}{ct:Nat->Hp->List V->Prop}(h:uC H0 H1 D as n ct)(s:∀(b:Addr) (vs:List V),H1 b=some (.lst vs)->H' b=some (.lst vs))(c:∀j vs,ct j H1 vs->ct j H' vs):uC H0 H' D as n ct:=
 ⟨h.len,h.nd,h.new,λj a e=>by
  obtain⟨vs,d,f⟩:=h.ins j a e;calc⟨vs,s _ _ d,c _ _ f⟩⟩
theorem mh{K:W.Frag}{ix:List (Option Nat)}{o:TE}{l:Addr}{xs vs:List V}(t:H l=some (.lst xs))(u:H D=none)(F:xs.length<=10)(w:∀x,Ext (tF ix σ) ((tF ix σ).set 0 (some x)))(d:∀g k (R:VK),(∀p,k p=none->R (.ref p) (upd k p (.lst vs)))->o g k R)(q:∀as H1,H1 D=some (.lst (as.map V.ref))->au H H1->uC H H1 D as xs.length (λ_ _ ws=>ws=vs)->Q (.ref D) H1):lP ix (rD K l) (dI 0) fP o σ H Q D:=by
 refine aZ (n:=xs.length) (λi ys H'=>∃as:List Addr,ys=as.map V.ref/\au H H'/\uC H H' D as i (λ_ _ ws=>ws=vs)) (J' (small ())) ⟨[],rfl,au.new _ u,uC.nil⟩ ?_ ?_ ?_ ?_
 ·rintro i ys H' m ⟨_,_,a,_⟩;exact⟨_,xs[i],aM.of (a _ _ t),cF m⟩
 ·rintro ys H' ⟨_,_,a,_⟩;exact⟨_,aM.of (a _ _ t),E' _⟩
 ·intro i ys H' m c v y z G B;obtain⟨as,rfl,a,r⟩:=y;obtain⟨rfl,g⟩:=B;calc⟨w z,?_⟩;simp only[fP,if_true];calc d _ _ _ λp g=>?_;have d:=au.new (.lst vs) g;have i:p≠D:=Ne.symm (ao c g);refine bH (d _ _ c) v m (J' (small ())) ⟨as++[p],nofun,λb o e=>?_,?_⟩
  ·rw[av (ao e u)];exact d _ _ (a _ _ e)
  ·refine r.snoc a (by rw[c];simp) g (vs:=vs) ?_ rfl (λb o a e=>?_) (λj vs e=>e)
   ·rw[av i];exact ab
   ·rw[av a];exact d _ _ e
 ·intro ys H1 c v C;obtain⟨as,rfl,a,r⟩:=C;calc q as H1 c a r
abbrev oy:Stmt:=(b8 (top 57)).getD 9 (.Pass ⟨0,0,0,0⟩)
inductive Pd(C CN CR:Addr)(vs:List V)(H:Hp)(Q:VK):Prop
 |mk (F:Addr->Prop) (x bE:Addr) (nt:NT) (r:RS) (ad:Nat->Nat->Addr) (wy k:Nat) (h0:vs=[.ref x,.int (wy:Nat),.int (k:Nat)]) (h1:cf C CN CR F H x bE nt r ad) (h2:FS F H) (h3:r.Ok nt) (h4:r.Nx nt wy k) (h5:r.picks.length<=400) (h6:∀t H',Fr (FP nt.n ad) H H'->cf C CN CR F H' x bE nt (r.pick nt wy k) ad->HT H' 1 t (pairD (nt.ev r wy))->Q t H'):Pd C CN CR vs H Q
def JI(C CN CR:Addr):Sp:=λvs H Q _=>Pd C CN CR vs H Q
theorem Cb(D:il K CR "pick" "Run.pick" oy ["self","way","number"])(T:Tx K mg C CN CR F FD)(l:cn P w K mg base CR "pick_at" 6 ["self","way","number","at"] (xP C CN CR)):cn P w K mg base CR "pick" 7 ["self","way","number"] (JI C CN CR):=by
 have sc:aD ["self","way","number"] ["self","way","number"] (az oy):=by walk_at "s"
 symm;obtain⟨F,x,b,c,r,ad,d,k,rfl,a,e,g,i,j,q⟩:=h;have m:=hr.units;calc⟨_,(ak (aG (eZ l T.ba hr (aq 0) (ag (aq 1) (ag (aq 2) (ag ai aa)))))),?_⟩;obtain⟨n,o,m,p⟩:=a.ins;left;calc gM m (fH ⋯) ?_;calc⟨F,x,b,c,r,ad,d,k,_,rfl,a,e,g,i,j,q⟩
abbrev jz:Stmt:=(b8 (top 57)).getD 17 (.Pass ⟨0,0,0,0⟩)
def zZ(C CN CR:Addr):Sp:=λvs H Q _=>∃(F:Addr->Prop) (x b:Addr) (nt:NT) (r:RS) (ad:Nat->Nat->Addr) (a i:Nat),vs=[.ref x,.int a,.int i]/\cf C CN CR F H x b nt r ad/\r.Ok nt/\a<nt.ws.length/\i<(r.ww a).say.length/\∀v,HT H 1 v (nI ((r.ww a).snd.getD i none))->Q v H
theorem vo(D:il K CR "sent_by" "Run.sent_by" jz ["self","way","number"])(T:Tx K mg C CN CR F FD)(n:cn P w K mg base CR "need_letter" 4 ["self","way","number","at"] (DQ C CN CR)):cn P w K mg base CR "sent_by" 5 ["self","way","number"] (zZ C CN CR):=by
 have sc:aD ["self","way","number"] ["self","way","number"] (az jz):=by walk_at "s"
 symm;obtain⟨F,x,j,k,r,ad,a,i,rfl,c,m,b,g,q⟩:=h;have l:=hr.units;refine⟨_,(af (bN (eZ n T.ba hr (aq 0) (ag (aq 1) (ag (aq 2) (ag ai aa)))))
  (ak (aG (aj l (aj l (bJ (aq 0) rfl) (aq 1)) (aq 2))))),?_⟩
 obtain⟨l,o,n,p⟩:=c.ins;left;calc gM n (fH ⋯) ?_;calc⟨_,x,j,k,r,ad,a,i,_,rfl,c,b,g,?_⟩;left;have l:=(p 5 ∅ ∅).1;nofun;obtain⟨v,e,d⟩:=c.cA.lst (t:=5) (i:=a) b rfl;have c:i<(r.ww a).snd.length:=by rw[<-m.ls a b];exact g
 obtain⟨u,g,j⟩:=d.get (i:=i) (d:=nI ((r.ww a).snd.getD i none)) (by rw[aaB,aS (d:=none) c];rfl);ac_rfl;calc fL n T.ba T.eV Xa ?_;left;calc bu l (bc b) ?_;calc bu e (ay g) ?_;calc q _ (DR (j.cv dE))
abbrev gY:Stmt:=(b8 (top 57)).getD 18 (.Pass ⟨0,0,0,0⟩)
def xQ(C CN CR:Addr):Sp:=λvs H Q _=>∃(F:Addr->Prop) (x b:Addr) (nt:NT) (r:RS) (ad:Nat->Nat->Addr) (a i:Nat),vs=[.ref x,.int a,.int i]/\cf C CN CR F H x b nt r ad/\r.Ok nt/\a<nt.ws.length/\i<(r.ww a).say.length/\∀v,HT H 1 v (nI ((r.ww a).cD.getD i none))->Q v H
theorem rX(D:il K CR "worked_by" "Run.worked_by" gY ["self","way","number"])(T:Tx K mg C CN CR F FD)(n:cn P w K mg base CR "need_letter" 4 ["self","way","number","at"] (DQ C CN CR)):cn P w K mg base CR "worked_by" 5 ["self","way","number"] (xQ C CN CR):=by
 have sc:aD ["self","way","number"] ["self","way","number"] (az gY):=by walk_at "s"
 symm;obtain⟨F,x,j,k,r,ad,a,i,rfl,c,m,b,g,q⟩:=h;have l:=hr.units;refine⟨_,(af (bN (eZ n T.ba hr (aq 0) (ag (aq 1) (ag (aq 2) (ag ai aa)))))
  (ak (aG (aj l (aj l (bJ (aq 0) rfl) (aq 1)) (aq 2))))),?_⟩
 obtain⟨l,o,n,p⟩:=c.ins;left;calc gM n (fH ⋯) ?_;calc⟨_,x,j,k,r,ad,a,i,_,rfl,c,b,g,?_⟩;left;have l:=(p 6 ∅ ∅).1;nofun;obtain⟨v,e,d⟩:=c.cA.lst (t:=6) (i:=a) b rfl;have c:i<(r.ww a).cD.length:=by rw[<-m.lk a b];exact g
 obtain⟨u,g,j⟩:=d.get (i:=i) (d:=nI ((r.ww a).cD.getD i none)) (by rw[aaB,aS (d:=none) c];rfl);ac_rfl;calc fL n T.ba T.di Jz ?_;left;calc bu l (bc b) ?_;calc bu e (ay g) ?_;calc q _ (DR (j.cv dE))
theorem Xr{CR x a:Addr}{C:Hp}{f:List (Str×V)}(c:List (Str×V))(s:au C H)(d:H x=some (.ins CR a f)):∃G,upd H x (.ins CR a c)=G/\G x=some (.ins CR a c)/\(∀b o,b≠x->C b=some o->G b=some o)/\(∀b vs,H b=some (.lst vs)->G b=some (.lst vs))/\bW H G:=⟨_,rfl,ab,λb o n e=>by rw[av n];calc s _ _ e,λb vs e=>by rw[av (λz=>by rw[z,d]at e;cases e)];calc e,λb vs e=>by rw[av (λz=>by rw[z,d]at e;cases e)];calc e⟩
theorem Xs{C:Hp}{d:Addr}(a:List (Key×V))(s:au C H):∃G,upd H d (.dK a)=G/\G d=some (.dK a)/\(∀b o,b≠d->C b=some o->G b=some o)/\(∀b o,b≠d->H b=some o->G b=some o):=⟨_,rfl,ab,λb o n e=>by rw[av n];calc s _ _ e,λb o n e=>by rw[av n];calc e⟩
theorem qJ:∀(ps:List (Int×Int)) {r:RS}{p:Int×Int},r.lA (ps++[p])=(r.lA ps).put p.1.toNat p.2 none
 | [],r,p=>rfl
 |q::ps,r,p=>qJ ps
theorem Cc{nt:NT}(j:nt.Ok):(RS.new nt).uR nt 0:=by
 refine⟨λm e=>rfl,λm e=>rfl,λm e s d=>?_,λm e h f=>?_,λv i=>rfl,λv i=>rfl,λv i a c d=>?_,λm e=>E' _,λm e u b=>?_,λv i=>E' _,λm e u b=>?_⟩
 ·have g:=j.gd e;have d:s ∈ [((nt.ms.getD m default).ns,(nt.ms.getD m default).row)]:=d;simp at d;subst d;exact⟨rfl,g.bn,g.r12⟩
 ·have f:h∈([]:List (List Int)):=f;simp at f
 ·have d:some (a,c)∈([]:List (Option (Int×Int))):=d;simp at d
 ·have b:u∈([[]]:List (List Int)):=b;simp at b;subst b;exact E' _
 ·have b:u∈([[]]:List (List Int)):=b;simp at b;subst b;calc List.nil_prefix
theorem sO{nt:NT}:∀(ps:List (Int×Int)) {r:RS}{B:Nat},r.uR nt B->(r.lA ps).uR nt (B+ps.length)
 | [],r,B,h=>h
 |p::ps,r,B,h=>by
  have e:B+(p::ps).length=B+1+ps.length:=by simp;lia
  rw[e];calc sO ps (h.put (λa c z=>by cases z))
theorem uD:∀(ps:List (Int×Int)) {r:RS},(r.lA ps).picks=r.picks
 | [],r=>rfl
 |p::ps,r=>uD ps
theorem pQ{nt:NT}(a:nt.Ok){ls:List (Int×Int)}(h:ls.length<=20):(RS.begin nt ls).Ok nt/\(RS.begin nt ls).picks=[]:=by
 have e:(RS.begin nt ls).picks=[]:=uD ls;calc⟨(sO ls (Cc a)).ok ?_,e⟩;show 0+ls.length<=20+24*(RS.begin nt ls).picks.length;rw[e];simp;lia
structure rH(H0 H':Hp)(D:Addr)(as:List Addr)(n:Nat)(ct:Nat->Hp->HO->Prop):Prop where
 len:as.length=n
 nd:as.Nodup
 new:∀a∈as,H0 a=none/\a≠D
 ins:∀(j:Nat) a,as[j]?=some a->∃o,H' a=some o/\ct j H' o
theorem uC.o{n:Nat}{ct:Nat->Hp->List V->Prop}(h:uC H0 H' D as n ct):rH H0 H' D as n (λj H u=>∃vs,u=.lst vs/\ct j H vs):=⟨h.len,h.nd,h.new,λj a e=>by
 obtain⟨vs,a,b⟩:=h.ins j a e;calc⟨_,a,_,rfl,b⟩⟩
theorem uC.some{n:Nat}{ct:Nat->Hp->List V->Prop}(h:uC H0 H1 D as n ct)(s:au H1 H2):∀a∈as,H2 a≠none:=λa m=>by
 obtain⟨j,e⟩:=aap m;obtain⟨b,e,_⟩:=h.ins j a e;rw[s _ _ e];calc λz=>nomatch z
theorem DX{F:Addr->Prop}{n:Nat->Nat}{c:Nat->Nat->CO}(g:Nat->Hp)(p:Nat->Nat)(q:Nat->List Addr)(o:Nat->Addr)(ct:Nat->Nat->Hp->HO->Prop)(X:∀t i,ad t i=(q t).getD i 0)(Y:∀t,n (t+7)=0)(L:∀t t',t<=6->t'<=6->p t=p t'->t=t')(C:∀t b,g t b≠none->g (t+1) b≠none)(I:∀b,F b->g 0 b≠none/\∃u,G b=some u/\soft u)
  (r:∀t,t<=6->rH (g (p t)) G (o t) (q t) (n t) (ct t)/\(∀a∈q t,g (p t+1) a≠none)/\(1<=t->g (p t) (o t)=none/\g (p t+1) (o t)≠none)) (Z:∀t i u,t<=6->ct t i G u->soft u)
  (OP:(∀b,F b\/FP n ad b->∃u,G b=some u/\soft u)->(∀s D,g s D=none->g (s+1) D≠none->(∀t,t<=6->p t=s->¬D∈q t)->¬(F D\/FP n ad D))->∀t i u,t<=6->i<n t->G (ad t i)=some u->ct t i G u->OR (jY (λb=>F b\/FP n ad b) G) (c t i) u):
  eA F G n ad c/\(∀b,FP n ad b->g 0 b=none/\∃u,G b=some u/\soft u)/\∀t,1<=t->t<=6->¬F (o t)/\¬FP n ad (o t)/\(q t).map V.ref=ki n ad t:=by
 have v:∀t i,i<n t->t<=6:=λt i h=>Classical.byContradiction λz=>by
  have:=Y (t-7);rw[show t-7+7=t by lia]at this;lia
 have up:∀(d t:Nat) (b:Addr),g t b≠none->g (t+d) b≠none:=λd=>by
  induction d with
  |zero=>calc λt b h=>h
  |succ d o=>exact λt b h=>C _ _ (o t b h)
 have w:∀s o b,s<=o->g s b≠none->g o b≠none:=λs o b h e=>by
  have:=up (o-s) s b e;rwa [show s+(o-s)=o by lia]at this
 have x:∀t i,i<n t->(q t)[i]?=some (ad t i)/\g (p t) (ad t i)=none/\g (p t+1) (ad t i)≠none/\∃u,G (ad t i)=some u/\ct t i G u:=λt i k=>by
  obtain⟨h,y,_⟩:=r t (v t i k);have e:(q t)[i]?=some (ad t i):=by rw[X];exact aS (by rw[h.len];calc k)
  have m:=W' e;exact⟨e,(h.new _ m).1,y _ m,h.ins _ _ e⟩
 have M:∀s D,g s D=none->g (s+1) D≠none->(∀t,t<=6->p t=s->¬D∈q t)->¬(F D\/FP n ad D):=λs D N y hn z=>by
  rcases z with z|⟨t,i,k,rfl⟩
  ·exact w 0 s D (U' _) (I D z).1 N
  ·obtain⟨e,J,B,_⟩:=x t i k;rcases Nat.lt_trichotomy s (p t) with l | l | l
   ·exact w _ _ _ l y J
   ·exact hn t (v t i k) l.symm (W' e)
   ·exact w _ _ _ l B N
 have O:∀b,FP n ad b->g 0 b=none/\∃u,G b=some u/\soft u:=λb ⟨t,i,k,e⟩=>by
  subst e;obtain⟨_,J,_,u,B,K⟩:=x t i k;exact⟨Classical.byContradiction λz=>w 0 _ _ (U' _) z J,u,B,Z t i u (v t i k) K⟩
 refine⟨⟨λt i t' P k R e=>?_,λt i k z=>?_,λt i k=>?_⟩,O,λt y S=>?_⟩
 ·obtain⟨a1,a2,a3,_⟩:=x t i k;obtain⟨T,U,W,_⟩:=x t' P R;rw[<-e]at T U W;have es:p t=p t':=by
   rcases Nat.lt_trichotomy (p t) (p t') with l|l|l
   ·exact absurd U (w _ _ _ l a3)
   ·exact l
   ·exact absurd a2 (w _ _ _ l W)
  have:=L t t' (v t i k) (v t' P R) es;subst this;have h:=(r t (v t i k)).1;exact⟨rfl,(List.getElem?_inj (by rw[h.len];calc k) h.nd).mp (a1.trans T.symm)⟩
 ·exact w 0 _ _ (U' _) (I _ z).1 (x t i k).2.1
 ·obtain⟨_,_,_,u,B,K⟩:=x t i k;exact⟨u,B,OP (λb z=>z.elim (λh=>(I b h).2) λh=>(O b h).2) M t i u (v t i k) k B K⟩
 ·obtain⟨h,_,g⟩:=r t S;have:=M _ _ (g y).1 (g y).2 (λt' h' e m=>by
   have:=L t' t h' S e;subst this;calc(h.new _ m).2 rfl)
  calc⟨λz=>this (.inl z),λz=>this (.inr z),?_⟩;unfold ki;apply List.ext_getElem (by simp[h.len]);intro j k g;have i:j<n t:=by simpa using g
  simp only[List.getElem_map,List.getElem_range];congr 1;calc(List.getElem_eq_iff _).mpr (x t j i).1
theorem NB{CN e:Addr}{f:List V}{c:List Addr}{d g:List V}(h:nz CN H e ms wv f)(h':nz CN H e c d g):f=g:=by
 obtain⟨d,e,f,g,c,j,k,i⟩:=h;obtain⟨d,e,f,g,a,j,k,b⟩:=h';rw[c]at a
 cases a;rw[i]at b
 cases b;rfl
theorem xR{C c:Addr}{p:Str×V}{l:List (Str×V)}(h:some (HO.ins C a [])=some (HO.ins c b (p::l))):False:=by cases h
theorem nc{K:W.Frag}{C:Hp}{x CR h:Addr}{c:List (Str×V)}{v:V}{n:Nat}(s:au C H)(d:C x=some (.ins CR h c))(k:uW K CR)(l:cH K CR f)(m:c.length<n)(q:∀G,G x=some (.ins CR h (bO f v c))->(∀b o,b≠x->C b=some o->G b=some o)->(∀b vs,H b=some (.lst vs)->G b=some (.lst vs))->bW H G->(bO f v c).length<n+1->R G)(g:n<=1000:=by decide):∃a g j i,x=a/\H a=some (.ins g j i)/\uW K g/\cH K g f/\i.length<1000/\R (upd H a (.ins g j (bO f v i))):=by
 have d:=s _ _ d;obtain⟨G,e,g,i,j,n⟩:=Xr (bO f v c) s d;calc⟨x,CR,h,c,rfl,d,k,l,(),e▸q G g i j n (jl m)⟩
abbrev JJ:Stmt:=(b8 (top 57)).getD 0 (.Pass ⟨0,0,0,0⟩)
inductive JK(C CN CR:Addr)(vs:List V)(H:Hp)(Q:VK):Prop
 |mk (F:Addr->Prop) (x dx bE:Addr) (nt:NT) (ls:List (Int×Int)) (ms:List Addr) (wv lv:List V) (h0:vs=[.ref x,.ref bE]) (h1:H x=some (.ins CR dx [])) (h2:vh C CN H bE nt) (h3:nz CN H bE ms wv lv) (h4:eN H 1 lv (ls.map qB)) (h5:ls.length<=20) (h6:∀l∈ls,0<=l.1/\l.1<nt.ws.length) (j0:FS F H) (h7:∀ad H',(∀b o,b≠x->H b=some o->H' b=some o)->(∀b,FP nt.n ad b->H b=none)->cf C CN CR F H' x bE nt (RS.begin nt ls) ad->Q .bM H'):JK C CN CR vs H Q
def DY(C CN CR:Addr):Sp:=λvs H Q _=>JK C CN CR vs H Q
theorem Xu(D:E5 K mg "Run" CR "Run.__init__" JJ ["self","net"])(T:Tx K mg C CN CR F FD)(eI:cn P w K mg base C "first_state" 1 ["self"] (Ji C))(jA:cn P w K mg base CN "letters" 1 ["self"] (rF CN))(bQ:cn P w K mg base CN "machines" 1 ["self"] (iy CN))(dj:cn P w K mg base CN "ways" 1 ["self"] (pL CN))(c9:cn P w K mg base CR "put_letter" 1 ["self","way","said","sender"] (ux C CN CR)):y9 P w K mg base "Run" CR 2 ["self","net"] (DY C CN CR):=by
 have sc:aD ["self","net","way","said"] ["self","net"] (az JJ):=by walk_at "s"
 symm;obtain⟨FF,x,S,k,l,ls,ms0,wv0,lv,rfl,U,hn,hf0,LM,jm,i9,j0,q⟩:=h;have hu:=hr.units;refine⟨_,(af (fN (aq 0) (aq 1) (gH rfl))
  (af (fN (aq 0) (bA aa) (gH rfl))
  (af (fN (aq 0) (cI (N':=["machine"]) (ix:=[none]) (bz (fz bQ T.cU hr (aq 1))) (λ_ _ _ _=>(aO (i:=0) (show(["machine"]:List Str).Nodup by decide +kernel) rfl Sort)) ko (λ_ _ _ _=>(bA (ag (fz eI T.cP hr (aq 0)) aa)))) rfl)
  (af (fN (aq 0) (cI (N':=["machine"]) (ix:=[none]) (bz (fz bQ T.cU hr (aq 1))) (λ_ _ _ _=>(aO (i:=0) (show(["machine"]:List Str).Nodup by decide +kernel) rfl Sort)) ko (λ_ _ _ _=>(bA (ag ai aa)))) rfl)
  (af (fN (aq 0) (cI (N':=["machine"]) (ix:=[none]) (bz (fz bQ T.cU hr (aq 1))) (λ_ _ _ _=>(aO (i:=0) (show(["machine"]:List Str).Nodup by decide +kernel) rfl Sort)) ko (λ_ _ _ _=>(bA aa))) rfl)
  (af (fN (aq 0) (cI (N':=["way"]) (ix:=[none]) (bz (fz dj T.cU hr (aq 1))) (λ_ _ _ _=>(aO (i:=0) (show(["way"]:List Str).Nodup by decide +kernel) rfl Sort)) ko (λ_ _ _ _=>(bA aa))) rfl)
  (af (fN (aq 0) (cI (N':=["way"]) (ix:=[none]) (bz (fz dj T.cU hr (aq 1))) (λ_ _ _ _=>(aO (i:=0) (show(["way"]:List Str).Nodup by decide +kernel) rfl Sort)) ko (λ_ _ _ _=>(bA aa))) rfl)
  (af (fN (aq 0) (cI (N':=["way"]) (ix:=[none]) (bz (fz dj T.cU hr (aq 1))) (λ_ _ _ _=>(aO (i:=0) (show(["way"]:List Str).Nodup by decide +kernel) rfl Sort)) ko (λ_ _ _ _=>(bA aa))) rfl)
  (ak (dJ PassesOwn.never rfl (bz (fz jA T.cU hr (aq 1))) (dW (i:=2) (j:=3) rfl sc.nd rfl rfl Sort Sort)
  (ak (bN (eZ c9 T.ba hr (aq 0) (ag (aq 2) (ag (aq 3) (ag fu aa)))))))))))))))),?_⟩
 have aY:=hn.ok;nofun;obtain⟨⟨ms,wv,N,hf,oT,yA,Gm⟩,_⟩:=id hn;obtain⟨Z,a1,b1,c1,I,g2,g3,g4⟩:=id hf;have Rk:N=lv:=NB hf hf0;subst Rk;ac_rfl;have Jk:(ms.map V.ref).length<=5:=by simp[oT];exact aY.Gf
 have lx:wv.length=l.ws.length:=by simpa using Gm.1
 have rS:wv.length<=10:=by rw[lx];exact aY.Fb
 have O:k≠x:=λz=>by rw[z,U]at I;exact xR I
 have Pf:a1≠x:=Cr g2 U (λz=>nomatch z);have Pg:b1≠x:=Cr g3 U (λz=>nomatch z);have Ph:c1≠x:=Cr g4 U (λz=>nomatch z);left;refine BG x CR S _ rfl U T.ba T.cQ ∅ ?_;have hxa:upd H x (.ins CR S (bO "own_net" (.ref k) [])) x=some (.ins CR S (bO "own_net" (.ref k) [])):=ab;have nxa:∀b o,b≠x->H b=some o->upd H x (.ins CR S (bO "own_net" (.ref k) [])) b=some o:=λb o n e=>by rw[av n];exact e
 generalize hGa:upd H x (.ins CR S (bO "own_net" (.ref k) []))=Ga at *;left;refine⟨U' _,λp hp=>?_⟩;have sp0:=au.new (.lst []) hp;have NC:upd Ga p (.lst []) p=some (.lst []):=ab;generalize hGb:upd Ga p (.lst [])=Gb at *;left;refine BG x CR S _ rfl (sp0 _ _ hxa) T.ba T.cX (jl (n:=999) ∅) ?_;have Sl:upd Gb x (.ins CR S (bO "picks_done" (.ref p) (bO "own_net" (.ref k) []))) x=some (.ins CR S (bO "picks_done" (.ref p) (bO "own_net" (.ref k) []))):=ab;have ka:∀b o,b≠x->Ga b=some o->upd Gb x (.ins CR S (bO "picks_done" (.ref p) (bO "own_net" (.ref k) []))) b=some o:=λb o n e=>by rw[av n];exact sp0 _ _ e
 have npx:p≠x:=Ne.symm (ao hxa hp);have ep:upd Gb x (.ins CR S (bO "picks_done" (.ref p) (bO "own_net" (.ref k) []))) p=some (.lst []):=by rw[av npx];exact NC
 generalize hG0:upd Gb x (.ins CR S (bO "picks_done" (.ref p) (bO "own_net" (.ref k) [])))=G0 at *;have R4:(bO "picks_done" (.ref p) (bO "own_net" (.ref k) [])).length<3:=jl (jl (Nat.zero_lt_succ _));have Pj:∀b o,b≠x->H b=some o->G0 b=some o:=λb o n e=>ka b o n (nxa b o n e);left;refine bo ?_;left;refine gM (Pj _ _ O I) (eO ⋯ ⋯ ⋯) ?_;refine fM k ms wv N rfl ⟨Z,a1,b1,c1,Pj _ _ O I,Pj _ _ Pf g2,Pj _ _ Pg g3,Pj _ _ Ph g4⟩ (λlm1 ado=>?_);have Sm:=au.new (.lst (ms.map V.ref)) ado;have ND:upd G0 lm1 (.lst (ms.map V.ref)) lm1=some (.lst (ms.map V.ref)):=ab;generalize ajg:upd G0 lm1 (.lst (ms.map V.ref))=Xv at *;left;refine .inl ⟨⟨_,aM.of ND⟩,λD1 Gj=>?_⟩;refine aZ (J:=rD K lm1) (n:=(ms.map V.ref).length) (λi ys H'=>∃as:List Addr,ys=as.map V.ref/\au Xv H'/\uC Xv H' D1 as i (λj H' vs=>∃v,vs=[v]/\HT H' 2 v (zb (l.ms.getD j default).ns (l.ms.getD j default).row))) (J' (small ())) ⟨[],rfl,au.new _ Gj,uC.nil⟩ ?_ ?_ ?_ ?_
 ·rintro i ys H' hi ⟨_,_,s3,_⟩;exact⟨_,(ms.map V.ref)[i],aM.of (s3 _ _ ND),cF hi⟩
 ·rintro ys H' ⟨_,_,s3,_⟩;exact⟨_,aM.of (s3 _ _ ND),E' _⟩
 ·intro i ys H' hi y hl fW xx H4 gc;nofun;obtain⟨as,rfl,s3,hL⟩:=fW;obtain⟨rfl,hy⟩:=gc;ac_rfl;have ex:=hy _ (aM.of (s3 _ _ ND));walk_at "xf";left
  try rw[if_pos trivial]
  have him:i<ms.length:=by simpa using hi
  have exm:xx=.ref ms[i]:=by
   rw[aaB,cF him]at ex
   cases ex;rfl
  nofun;subst exm;have NF:i<l.ms.length:=by lia
  have nmx:ms[i]≠x:=λz=>by
   obtain⟨d1,s1,d2,X,_⟩:=yA i ms[i] _ (cF him) (aS (d:=default) NF);rw[z,U]at X;exact xR X
  have Xw:Uk C H4 ms[i] (l.ms.getD i default):=by
   obtain⟨d1,s1,d2,X,w2,w3⟩:=yA i ms[i] _ (cF him) (aS (d:=default) NF);have tt:bW H H4:=λb xs e=>s3 _ _ (Sm _ _ (Pj b _ (λz=>by rw[z,U]at e;cases e) e));exact⟨d1,s1,d2,s3 _ _ (Sm _ _ (Pj _ _ nmx X)),w2.aI tt,w3.aI tt⟩
  obtain⟨d1,s1,d2,X,w2,w3⟩:=id Xw;ac_rfl;calc mth X (Dx ⋯ ⋯ ⋯) ?_;calc⟨ms[i],_,_,_,_,rfl,Xw,λst vH=>?_⟩;left;calc⟨J' (small nofun),λp hp=>?_⟩;have sN:=au.new (.lst [st]) hp;have nD:p≠D1:=Ne.symm (ao y hp);refine bH (sN _ _ y) hl hi (J' (small ())) ⟨as++[p],nofun,λb o e=>?_,?_⟩
  ·rw[av (ao e Gj)];exact sN _ _ (s3 _ _ e)
  ·refine hL.snoc s3 (by rw[y];simp) hp (vs:=[st]) ?_ ⟨st,rfl,vH.aI (λb xs e=>by rw[av (λz=>by rw[z,y] at e;cases e)];calc sN _ _ e)⟩ (λb o nb e=>?_) (λj vs ⟨v,e,h⟩=>⟨v,e,h.aI (λb xs e=>by rw[av (λz=>by rw[z,y] at e;cases e)];calc sN _ _ e)⟩)
   ·rw[av nD];exact ab
   ·rw[av nb];exact sN _ _ e
 intro ys H1 y hl lB;obtain⟨A1,rfl,Xx,hL1⟩:=lB;left;calc nc Xx (Sm _ _ Sl) T.ba T.bY R4 λG1 sy kd1 Xy adq xK=>?_;have Xz:=Xy _ _ y;have kg1:∀b o,b≠x->G0 b=some o->G1 b=some o:=λb o n e=>kd1 b o n (Sm _ _ e);have Uu:∀b o,b≠x->H b=some o->G1 b=some o:=λb o n e=>kg1 b o n (Pj b o n e);have fD1:Xv D1=none:=Gj;clear y;left;calc bo ?_;left;calc gM (Uu _ _ O I) (eO ⋯ ⋯ ⋯) ?_;calc fM k ms wv N rfl ⟨Z,a1,b1,c1,Uu _ _ O I,Uu _ _ Pf g2,Uu _ _ Pg g3,Uu _ _ Ph g4⟩ (λlm2 adu=>?_);have Uv:=au.new (.lst (ms.map V.ref)) adu;have XA:upd G1 lm2 (.lst (ms.map V.ref)) lm2=some (.lst (ms.map V.ref)):=ab;generalize ajj:upd G1 lm2 (.lst (ms.map V.ref))=Gd2 at *;left;calc .inl ⟨⟨_,aM.of XA⟩,λD2 FG=>?_⟩;calc mh (vs:=[V.int 0]) XA FG () (λ_=>Ext.set (Ext.refl _) rfl) (λ_ _ _ r=>And.intro ∅ r) ?_;intro A2 H2 y Uw hL2;left;calc nc Uw (Uv _ _ sy) T.ba T.d7 xK λG2 Fw Ux XB ajk tw=>?_;have Uy:=XB _ _ y;have kg2:∀b o,b≠x->G1 b=some o->G2 b=some o:=λb o n e=>Ux b o n (Uv _ _ e);have Uz:∀b o,b≠x->H b=some o->G2 b=some o:=λb o n e=>kg2 b o n (Uu b o n e);have XC:Gd2 D2=none:=FG;clear y;left;calc bo ?_;left;calc gM (Uz _ _ O I) (eO ⋯ ⋯ ⋯) ?_;calc fM k ms wv N rfl ⟨Z,a1,b1,c1,Uz _ _ O I,Uz _ _ Pf g2,Uz _ _ Pg g3,Uz _ _ Ph g4⟩ (λlm3 adx=>?_);have UA:=au.new (.lst (ms.map V.ref)) adx;have XD:upd G2 lm3 (.lst (ms.map V.ref)) lm3=some (.lst (ms.map V.ref)):=ab;generalize ajl:upd G2 lm3 (.lst (ms.map V.ref))=Gd3 at *;left;calc .inl ⟨⟨_,aM.of XD⟩,λD3 FH=>?_⟩;calc mh (vs:=[]) XD FH () (λ_=>Ext.set (Ext.refl _) rfl) (λ_ _ _ r=>And.intro ∅ r) ?_;intro A3 H3 y XE hL3;left;calc nc XE (UA _ _ Fw) T.ba T.cY tw λG3 LH XF XG ajm AS=>?_;have UB:=XG _ _ y;have kg3:∀b o,b≠x->G2 b=some o->G3 b=some o:=λb o n e=>XF b o n (UA _ _ e);have UC:∀b o,b≠x->H b=some o->G3 b=some o:=λb o n e=>kg3 b o n (Uz b o n e);have XH:Gd3 D3=none:=FH;clear y;left;calc bo ?_;left;calc gM (UC _ _ O I) (eO ⋯ ⋯ ⋯) ?_;calc fM k ms wv N rfl ⟨Z,a1,b1,c1,UC _ _ O I,UC _ _ Pf g2,UC _ _ Pg g3,UC _ _ Ph g4⟩ (λlm4 adA=>?_);have UD:=au.new (.lst wv) adA;have XI:upd G3 lm4 (.lst wv) lm4=some (.lst wv):=ab;generalize ajn:upd G3 lm4 (.lst wv)=Gd4 at *;left;calc .inl ⟨⟨_,aM.of XI⟩,λD4 UE=>?_⟩;calc mh (vs:=[]) XI UE () (λ_=>Ext.set (Ext.refl _) rfl) (λ_ _ _ r=>And.intro ∅ r) ?_;intro A4 H4 y UG hL4;left;calc nc UG (UD _ _ LH) T.ba T.bZ AS λG4 RX XJ XM ajo Jg=>?_;have UH:=XM _ _ y;have kg4:∀b o,b≠x->G3 b=some o->G4 b=some o:=λb o n e=>XJ b o n (UD _ _ e);have UI:∀b o,b≠x->H b=some o->G4 b=some o:=λb o n e=>kg4 b o n (UC b o n e);have fD4:Gd4 D4=none:=UE;clear y;left;calc bo ?_;left;calc gM (UI _ _ O I) (eO ⋯ ⋯ ⋯) ?_;calc fM k ms wv N rfl ⟨Z,a1,b1,c1,UI _ _ O I,UI _ _ Pf g2,UI _ _ Pg g3,UI _ _ Ph g4⟩ (λlm5 adE=>?_);have UJ:=au.new (.lst wv) adE;have XN:upd G4 lm5 (.lst wv) lm5=some (.lst wv):=ab;generalize ajp:upd G4 lm5 (.lst wv)=Gd5 at *;left;calc .inl ⟨⟨_,aM.of XN⟩,λD5 Du=>?_⟩;calc mh (vs:=[]) XN Du () (λ_=>Ext.set (Ext.refl _) rfl) (λ_ _ _ r=>And.intro ∅ r) ?_;intro A5 H5 y UK hL5;left;calc nc UK (UJ _ _ RX) T.ba T.eV Jg λG5 Gi XO XQ ajq UL=>?_;have UM:=XQ _ _ y;have kg5:∀b o,b≠x->G4 b=some o->G5 b=some o:=λb o n e=>XO b o n (UJ _ _ e);have UN:∀b o,b≠x->H b=some o->G5 b=some o:=λb o n e=>kg5 b o n (UI b o n e);have fD5:Gd5 D5=none:=Du;clear y;left;calc bo ?_;left;calc gM (UN _ _ O I) (eO ⋯ ⋯ ⋯) ?_;calc fM k ms wv N rfl ⟨Z,a1,b1,c1,UN _ _ O I,UN _ _ Pf g2,UN _ _ Pg g3,UN _ _ Ph g4⟩ (λlm6 adI=>?_);have UO:=au.new (.lst wv) adI;have XR:upd G5 lm6 (.lst wv) lm6=some (.lst wv):=ab;generalize ajr:upd G5 lm6 (.lst wv)=Gd6 at *;left;calc .inl ⟨⟨_,aM.of XR⟩,λD6 XS=>?_⟩;calc mh (vs:=[]) XR XS () (λ_=>Ext.set (Ext.refl _) rfl) (λ_ _ _ r=>And.intro ∅ r) ?_;intro A6 H6 y XT hL6;left;calc nc XT (UO _ _ Gi) T.ba T.di UL λW WT XU XW ajs hl6=>?_;have FI:=XW _ _ y;have kg6:∀b o,b≠x->G5 b=some o->W b=some o:=λb o n e=>XU b o n (UO _ _ e);have L:∀b o,b≠x->H b=some o->W b=some o:=λb o n e=>kg6 b o n (UN b o n e);have fD6:Gd6 D6=none:=XS;clear y;have g:∀(G T:Hp),(∀b o,b≠x->G b=some o->T b=some o)->(∃fs,G x=some (.ins CR S fs))->(∀b vs,G b=some (.lst vs)->T b=some (.lst vs))/\bW G T:=λG T h ⟨fs,e⟩=>⟨λb vs M=>h b _ (λz=>by rw[z,e]at M;cases M) M,λb vs M=>h b _ (λz=>by rw[z,e]at M;cases M) M⟩
 have NG:=kg6;have Pl:∀b o,b≠x->G4 b=some o->W b=some o:=λb o n e=>NG b o n (kg5 b o n e);have Pm:∀b o,b≠x->G3 b=some o->W b=some o:=λb o n e=>Pl b o n (kg4 b o n e);have Sn:∀b o,b≠x->G2 b=some o->W b=some o:=λb o n e=>Pm b o n (kg3 b o n e);have XX:∀b o,b≠x->G1 b=some o->W b=some o:=λb o n e=>Sn b o n (kg2 b o n e);have kc0:∀b o,b≠x->G0 b=some o->W b=some o:=λb o n e=>XX b o n (kg1 b o n e);have So:uC Xv G1 D1 A1 (ms.map V.ref).length (λj H' vs=>∃v,vs=[v]/\HT H' 2 v (zb (l.ms.getD j default).ns (l.ms.getD j default).row)):=hL1.keep Xy (λj vs ⟨v,e,h⟩=>⟨v,e,h.aI adq⟩);have Sr:=So.keep (g _ _ XX ⟨_,sy⟩).1 (λj vs ⟨v,e,h⟩=>⟨v,e,h.aI (g _ _ XX ⟨_,sy⟩).2⟩);have Pn:=(g _ _ XX ⟨_,sy⟩).1 _ _ Xz;have Ss:uC Gd2 G2 D2 A2 (ms.map V.ref).length (λ_ _ vs=>vs=[V.int 0]):=hL2.keep XB (λj vs e=>e);have Su:=Ss.keep (g _ _ Sn ⟨_,Fw⟩).1 (λj vs e=>e);have Po:=(g _ _ Sn ⟨_,Fw⟩).1 _ _ Uy;have Sv:uC Gd3 G3 D3 A3 (ms.map V.ref).length (λ_ _ vs=>vs=[]):=hL3.keep XG (λj vs e=>e);have Sw:=Sv.keep (g _ _ Pm ⟨_,LH⟩).1 (λj vs e=>e);have Pp:=(g _ _ Pm ⟨_,LH⟩).1 _ _ UB;have Sx:uC Gd4 G4 D4 A4 wv.length (λ_ _ vs=>vs=[]):=hL4.keep XM (λj vs e=>e);have Sy:=Sx.keep (g _ _ Pl ⟨_,RX⟩).1 (λj vs e=>e);have Pq:=(g _ _ Pl ⟨_,RX⟩).1 _ _ UH;have Sz:uC Gd5 G5 D5 A5 wv.length (λ_ _ vs=>vs=[]):=hL5.keep XQ (λj vs e=>e);have xS:=Sz.keep (g _ _ NG ⟨_,Gi⟩).1 (λj vs e=>e);have wC:=(g _ _ NG ⟨_,Gi⟩).1 _ _ UM;have NH:uC Gd6 W D6 A6 wv.length (λ_ _ vs=>vs=[]):=hL6.keep XW (λj vs e=>e);have XY:=(g _ _ kc0 ⟨_,Sl⟩).1 _ _ ep;have y:(ms.map V.ref).length=l.ms.length:=by simp[oT]
 rw[y]at Sr;rw[y]at Su;rw[y]at Sw;rw[lx]at Sy;rw[lx]at xS;rw[lx]at NH;obtain⟨ad,Sj⟩:∃ad:Nat->Nat->Addr,∀t i,ad t i=([[p],A1,A2,A3,A4,A5,A6].getD t []).getD i 0:=⟨_,λ_ _=>rfl⟩
 have pz:∀{A B:Hp},(∀b o,b≠x->A b=some o->B b=some o)->∀{o},B x=some o->∀b,A b≠none->B b≠none:=λ{A B} h {o} e b hb=>by
  by_cases z:b=x
  ·rw[z,e];exact λz=>nomatch z
  ·cases e1:A b with
   |none=>calc absurd e1 hb
   |some u=>rw[h b u z e1];exact λz=>nomatch z
 have Y:∀{A:Hp} {b:Addr} {o:HO},A b=some o->A b≠none:=λe z=>by rw[e]at z;cases z
 have nFx:∀b,FF b->b≠x:=λb h z=>by
  obtain⟨o,e,so⟩:=j0 b h;rw[z,U]at e;cases e;exact so
 obtain⟨cA,Pe,hDo⟩:=DX (F:=FF) (G:=W) (n:=l.n) (c:=(RS.new l).ct) (λt=>[Ga,Xv,Gd2,Gd3,Gd4,Gd5,Gd6].getD t W) (λt=>t) _ (λt=>[x,D1,D2,D3,D4,D5,D6].getD t x) (λt=>[λ_ _ u=>u=.lst [],λj H u=>∃vs,u=.lst vs/\∃v,vs=[v]/\HT H 2 v (zb (l.ms.getD j default).ns (l.ms.getD j default).row),λ_ _ u=>∃vs,u=.lst vs/\vs=[V.int 0]].getD t λ_ _ u=>∃vs,u=.lst vs/\vs=[]) Sj (λ_=>rfl) (λ_ _ _ _ h=>h)
  (λt=>match t with
   |0=>pz (λb o n e=>Sm _ _ (ka b o n e)) (Sm _ _ Sl)
   |1=>pz (λb o n e=>Uv _ _ (kd1 b o n e)) (Uv _ _ sy)
   |2=>pz (λb o n e=>UA _ _ (Ux b o n e)) (UA _ _ Fw)
   |3=>pz (λb o n e=>UD _ _ (XF b o n e)) (UD _ _ LH)
   |4=>pz (λb o n e=>UJ _ _ (XJ b o n e)) (UJ _ _ RX)
   |5=>pz (λb o n e=>UO _ _ (XO b o n e)) (UO _ _ Gi)
   |6=>pz XU WT
   | (t + 7)=>λb h=>h)
  (λb h=>by
   obtain⟨o,e,so⟩:=j0 b h;calc⟨Y (nxa b o (nFx b h) e),o,L b o (nFx b h) e,so⟩)
  (λt ht=>match t,ht with
   | 0,_=>⟨⟨rfl,nofun,λa m=>by rw[List.mem_singleton.mp m];exact⟨hp,npx⟩,λj a e=>by cases j with
    |zero=>cases e;calc⟨_,XY,rfl⟩
    | succ j=>cases e⟩,λa m=>by rw[List.mem_singleton.mp m];calc Y (Sm _ _ ep),λh=>absurd h ∅⟩
   |1,_=>⟨Sr.o,So.some Uv,λ_=>⟨fD1,Y (Uv _ _ Xz)⟩⟩
   |2,_=>⟨Su.o,Ss.some UA,λ_=>⟨XC,Y (UA _ _ Uy)⟩⟩
   |3,_=>⟨Sw.o,Sv.some UD,λ_=>⟨XH,Y (UD _ _ UB)⟩⟩
   |4,_=>⟨Sy.o,Sx.some UJ,λ_=>⟨fD4,Y (UJ _ _ UH)⟩⟩
   |5,_=>⟨xS.o,Sz.some UO,λ_=>⟨fD5,Y (UO _ _ UM)⟩⟩
   |6,_=>⟨NH.o,NH.some (au.refl _),λ_=>⟨fD6,Y FI⟩⟩
   | (t + 7),h=>absurd h ())
  (λt i u ht h=>by
   match t,ht,h with
   |0,_,h=>cases h;trivial
   |1,_,⟨_,e,_⟩|2,_,⟨_,e,_⟩|3,_,⟨_,e,_⟩|4,_,⟨_,e,_⟩|5,_,⟨_,e,_⟩|6,_,⟨_,e,_⟩=>cases e;trivial
   | (t + 7),h,_=>calc absurd h ())
  (λhz _ t i u ht hi e h=>by
   match t,ht,h with
   |0,_,h=>cases h;calc(fA.nil:fA _ 4 [] [])
   |1,_,⟨_,e,v,M,hv⟩=>cases e;cases M;calc(fA.one ((JH hz hv).mono ∅):fA _ 4 [v] [_])
   |2,_,⟨_,e,M⟩=>cases e;cases M;calc(fA.one (.int 0):fA _ 4 [.int 0] [.int 0])
   |3,_,⟨_,e,M⟩|4,_,⟨_,e,M⟩|5,_,⟨_,e,M⟩|6,_,⟨_,e,M⟩=>cases e;cases M;calc(fA.nil:fA _ 4 [] [])
   | (t + 7),h,_=>calc absurd h ())
 have R:∀b,FP l.n ad b->H b=none:=λb hb=>by
  cases v:H b with
  |none=>rfl
  |some o=>
   have e:=(Pe b hb).1;have:b≠x:=λz=>by rw[z]at e;exact Y hxa e
   exact absurd e (Y (nxa b o this v))
 have hR:cf C CN CR FF W x k l (RS.new l) ad:=by
  refine⟨⟨S,λt=>[x,D1,D2,D3,D4,D5,D6].getD t x,?_,λt v y=>?_⟩,cA,?_⟩
  ·rw[WT,Gk,Sj];rfl
  ·obtain⟨X,w2,w3⟩:=hDo t v y;calc⟨?_,X,w2⟩;rw[<-w3]
   match t,v,y with
   |1,_,_=>calc Pn
   |2,_,_=>calc Po
   |3,_,_=>calc Pp
   |4,_,_=>calc Pq
   |5,_,_=>calc wC
   |6,_,_=>calc FI
   |(t+7),_,h=>exact absurd h ()
  ·calc⟨⟨ms,wv,N,⟨Z,a1,b1,c1,L _ _ O I,L _ _ Pf g2,L _ _ Pg g3,L _ _ Ph g4⟩,oT,λi m d e1 t=>?_,Gm.aI (g _ _ L ⟨_,U⟩).2⟩,aY⟩;obtain⟨d1,s1,d2,X,w2,w3⟩:=yA i m d e1 t;have v:m≠x:=λz=>by rw[z,U] at X;exact xR X
   exact⟨d1,s1,d2,L _ _ v X,w2.aI (g _ _ L ⟨_,U⟩).2,w3.aI (g _ _ L ⟨_,U⟩).2⟩
 have adO:=LM.aI (g _ _ L ⟨_,U⟩).2;clear So Sr Ss Su Sv Sw Sx Sy Sz xS NH Pn Po Pp Pq wC Xz hL1 Uy hL2 UB hL3 UH hL4 UM hL5 FI hL6 XY kc0 XX Sn Pm Pl NG;left;calc⟨k,Z,_,rfl,L _ _ O I,eO ⋯ ⋯ ⋯,k,ms,wv,N,rfl,⟨Z,a1,b1,c1,L _ _ O I,L _ _ Pf g2,L _ _ Pg g3,L _ _ Ph g4⟩,λll qm=>?_⟩;have s7:=au.new (.lst N) qm;have SE:upd W ll (.lst N) ll=some (.lst N):=ab;generalize Pa:upd W ll (.lst N)=G7 at *;have nll:¬FP l.n ad ll:=λz=>by
  obtain⟨_,u,e,_⟩:=Pe ll z;rw[qm]at e;cases e
 have g:=hR.same s7;have XZ:=adO.aI s7.aN;have X0:N.length=ls.length:=by simpa using XZ.1
 refine .inl ⟨⟨_,aM.of SE⟩,ee (K:=K) (xs:=N) (λi σ H'=>(∃z2 z3,σ=[some (V.ref x),some (V.ref k),z2,z3])/\Fr (FP l.n ad) G7 H'/\cf C CN CR FF H' x k l ((RS.new l).lA (ls.take i)) ad) ?_ ?_ ?_ ?_⟩
 ·exact⟨⟨_,_,rfl⟩,Fr.refl,g⟩
 ·rintro i σ H' hi ⟨_,fi,_⟩;exact aM.of (fi.at SE nll)
 ·intro i z σ H' hz zE;nofun;obtain⟨⟨z2,z3,rfl⟩,fi,vn⟩:=zE;have g:i < ls.length:=by rw[<-X0];exact(List.getElem?_eq_some_iff.mp hz).1
  have t:ls[i]?=some ls[i]:=cF g;have Sh:=(XZ.2 i z (qB ls[i]) hz (by rw[aaB,t];rfl)).aI fi.aN;have vp:=i9 _ (aac g);have NA:(RS.new l).lA (ls.take (i+1))=((RS.new l).lA (ls.take i)).put ls[i].1.toNat ls[i].2 none:=by
   rw[List.take_succ,t];exact qJ _
  generalize ls[i]=p at *;obtain⟨pj,px⟩:=p;obtain⟨tz,u1,u2,kz,rfl,yZ,y1,y2⟩:=dD Sh;obtain rfl:=y1.ck;obtain rfl:=y2.ck;ac_rfl;calc uS (bG.of yZ) ?_;left;obtain⟨t,u,g,v⟩:=vn.ins;calc gM g (fH ⋯) ?_;have t:((pj.toNat:Nat):Int)=pj:=aaA vp.1;refine⟨FF,x,k,l,_,ad,pj.toNat,px,.bM,none,by rw[t],vn,λb h=>by
   obtain⟨o,e,so⟩:=j0 b h;calc⟨o,fi.at (s7 _ _ (L b o (nFx b h) e)) (λz=>by rw[R b z] at e;cases e),so⟩,by have:=vp.2;show pj.toNat < _;simp at this;lia,.bM,(sO (ls.take i) (Cc aY)).mono (by simp;lia),λg k l=>?_⟩
  left;calc gN ⟨_,_,rfl,rfl⟩ (fi.trans k) ?_;rw[NA];exact l
 ·rintro σ H' ⟨_,fi,vn⟩;rw[X0,List.take_length]at vn;calc q ad _ (λb o n e=>?_) R vn;calc fi.at (s7 _ _ (L b o n e)) λz=>?_;rw[R b z]at e;cases e
def CutAt(H:Hp)(t:Addr)(cut:List Int):Prop:=H t=some (.tup (cut.map V.int))\/H t=some (.lst (cut.map V.int))
theorem CutAt.same{t:Addr}(h:CutAt H t cut)(s:au H H'):CutAt H' t cut:=h.imp (s _ _) (s _ _)
theorem SG{K:W.Frag}{i:Int}{v:V}{P:V->Prop}(h:CutAt H a cut)(e:gU (cut.map V.int) i=some v)(k:P v):∃xs v,(aM K H a xs\/bG K H a xs)/\gU xs i=some v/\P v:=h.elim (λh=>cN h e k) λh=>bu h e k
theorem mi{v:V}(h:HT H 1 v (pairD e)):∃a,v=.ref a/\H a=some (.tup [.int e.1,.int e.2]):=by
 obtain⟨b,g,i,j,rfl,c,d,f⟩:=dD h;obtain rfl:=d.ck;obtain rfl:=f.ck;calc⟨b,rfl,c⟩
def Cd:Option (Int×Int)->List Int->Bool
 |none,_=>false
 |some e,cut=>decide (e.2<=cut.getD e.1.toNat 0)
abbrev mj:Stmt:=top 16
def JL:Sp:=λvs H Q _=>∃(v:V) (e:Option (Int×Int)) (t:Addr) (cut:List Int),vs=[v,.ref t]/\HT H 1 v (nI e)/\CutAt H t cut/\(∀p,e=some p->0<=p.1/\p.1<(cut.length:Nat))/\Q (.bl (Cd e cut)) H
theorem Ab(D:cK K mg "is_inside" "is_inside" mj ["event","cut"])(T:Tx K mg C CN CR F FD):Def P w K mg base "is_inside" 1 ["event","cut"] JL:=by
 have sc:aD ["event","cut","m","c"] ["event","cut"] (az mj):=by walk_at "s"
 symm;obtain⟨v,e,t,cut,rfl,b,c,g,q⟩:=h;have k:=hr.units;refine⟨_,(af (aR (aB xj (aq 0) fu (aE _)) (ak (aG ia)) aJ)
  (af (de (aq 0) (dW (i:=2) (j:=3) rfl sc.nd rfl rfl Sort Sort))
  (ak (aG (ij tJ (aq 3) (aj k (aq 1) (aq 2)) (aE _)))))),?_⟩
 cases e with
 |none=>
  have:v=.bM:=by cases(show HT H 1 v .bM from b);rfl
  subst this;right
  try rw[if_pos ∅]
  right;calc q
 |some e=>
  nofun;obtain⟨a,rfl,k⟩:=mi b;obtain⟨l,m⟩:=g e rfl;ac_rfl;right
  try rw[if_neg ∅]
  calc uS (bG.of k) ?_;right;refine SG c (show gU _ e.1=some (.int (cut.getD e.1.toNat 0)) from by
   have:=ay (xs:=cut.map V.int) (j:=e.1.toNat) (v:=.int (cut.getD e.1.toNat 0)) (by rw[aaB,aS (d:=0) ()];rfl);rw[show((e.1.toNat:Nat):Int)=e.1 by lia] at this;calc this) ?_
  right;calc q
def wD(r:RS)(p:Nat×Nat):Option (Int×Int):=(r.ww p.1).snd.getD p.2 none
def JM(r:RS)(p:Nat×Nat):Option (Int×Int):=(r.ww p.1).cD.getD p.2 none
def JN(r:RS)(p:Nat×Nat):DV:=.tup [pairD (pI p),nI (wD r p),nI (JM r p)]
def rY(r:RS)(ps:List (Nat×Nat)):List (Nat×Nat):=ps.filter λp=>(wD r p).isSome
def ml(r:RS)(cut:List Int)(p:Nat×Nat):Bool:=Cd (JM r p) cut && !Cd (wD r p) cut
def iT(r:RS)(cut:List Int)(ps:List (Nat×Nat)):List (Nat×Nat):=(rY r ps).filter (ml r cut)
theorem Ce{H:Hp}{n:Nat}{v:V}{e:Option (Int×Int)}(h:HT H n v (nI e)):HT H 1 v (nI e):=by
 cases e with
 |none=>cases(show HT H n v .bM from h);calc .bM
 |some p=>
  obtain⟨d,f,g,i,rfl,a,b,c⟩:=dD (show HT H n v (.tup [.int p.1,.int p.2]) from h);obtain rfl:=b.ck;obtain rfl:=c.ck;calc cS (n:=0) a (.int _) (.int _)
theorem Ac{ps:List (Nat×Nat)}{i:Nat}{p:Nat×Nat}(h:ps[i]?=some p):rY r (ps.take (i+1))=rY r (ps.take i)++if (wD r p).isSome=true then[p] else[]:=by
 unfold rY;rw[List.take_add_one,h,List.filter_append];congr 1;show List.filter _ [p]=_;rw[List.filter_cons,List.filter_nil]
theorem Ad{f:Nat×Nat->Bool}{ps:List (Nat×Nat)}{i:Nat}{p:Nat×Nat}(h:ps[i]?=some p):(ps.take (i+1)).filter f=(ps.take i).filter f++if f p=true then[p] else[]:=by
 rw[List.take_add_one,h,List.filter_append];congr 1;show List.filter _ [p]=_;rw[List.filter_cons,List.filter_nil]
theorem SH{nt:NT}(g:r.Ok nt)(k:r.Iv nt)(j:cut.length=nt.ms.length){p:Nat×Nat}(i:p∈eP r nt.ws.length):(∀e,wD r p=some e->0<=e.1/\e.1<(cut.length:Nat))/\∀e,JM r p=some e->0<=e.1/\e.1<(cut.length:Nat):=by
 obtain⟨c,m,l⟩:=fV.mp i;have m:p.2<(r.ww p.1).cD.length:=(List.getElem?_eq_some_iff.mp l).1;have i:=g.ls _ c;have i:=g.lk _ c;refine⟨λe i=>?_,λe i=>?_⟩
 ·obtain⟨a,b,_⟩:=g.sd _ c e.1 e.2 (by rw[show(some (e.1,e.2):Option (Int×Int))=(r.ww p.1).snd.getD p.2 none from i.symm];calc getD_mem ());rw[j];exact⟨a,b⟩
 ·obtain⟨a,b,_⟩:=k.ev _ p.2 e.1 e.2 c (by rw[aS (d:=none) m,show(r.ww p.1).cD.getD p.2 none=some e from i]);rw[j];calc⟨a,b⟩
theorem SI {vs:List V}(h:fA H 4 vs (ps.map pairD)):OT H vs ps:=⟨by have:=h.1;rwa [aaC] at this,λi p e=>by
 have b:i<vs.length:=by have:=h.1;rw[aaC]at this;rw[this];exact(List.getElem?_eq_some_iff.mp e).1
 obtain⟨a,c,d⟩:=pO (e:=p) (h.2 i vs[i] _ (cF b) (by rw[aaB,e];rfl));calc⟨a,by rw[cF b,c],d⟩⟩
abbrev gy:Stmt:=top 17
inductive JO(C CN CR:Addr)(vs:List V)(H:Hp)(Q:VK):Prop
 |mk (F:Addr->Prop) (x bE:Addr) (nt:NT) (r:RS) (ad:Nat->Nat->Addr) (h0:vs=[.ref x]) (h1:cf C CN CR F H x bE nt r ad) (h2:r.Ok nt) (h3:r.Iv nt) (h4:r.Pk nt) (h5:r.picks.length<=40) (q:∀l ys H',au H H'->H l=none->H' l=some (.lst ys)->eN H' 2 ys ((rY r (eP r nt.ws.length)).map (JN r))->Q (.ref l) H'):JO C CN CR vs H Q
def D0(C CN CR:Addr):Sp:=λvs H Q _=>JO C CN CR vs H Q
theorem qK(D:cK K mg "letters_passed" "letters_passed" gy ["run"])(T:Tx K mg C CN CR F FD)(dP:cn P w K mg base CR "schedule" 1 ["self"] (B6 C CN CR))(jB:cn P w K mg base CR "sent_by" 5 ["self","way","number"] (zZ C CN CR))(dC:cn P w K mg base CR "worked_by" 5 ["self","way","number"] (xQ C CN CR)):Def P w K mg base "letters_passed" 6 ["run"] (D0 C CN CR):=by
 have sc:aD ["run","passed","letter","way","number","sender"] ["run"] (az gy):=by walk_at "s"
 symm;obtain⟨F,x,I,d,r,ad,rfl,J,L,Z,M,j3,q⟩:=h;have hu:=hr.units;refine⟨_,(af (aU (i:=1) sc.nd rfl Sort (bA aa))
  (af (dJ PassesOwn.never rfl (bz (aW (v9 rfl) rfl T.ud PyProof.Rows.boot_sorted (ag (fz dP T.ba hr (aq 0)) aa))) (aO (i:=2) sc.nd rfl Sort)
  (af (de (aq 2) (dW (i:=3) (j:=4) rfl sc.nd rfl rfl Sort Sort))
  (af (aU (i:=5) sc.nd rfl Sort (eZ jB T.ba hr (aq 0) (ag (aq 3) (ag (aq 4) aa))))
  (ak (aR (aB m7 (aq 5) fu (aE _)) (ak (bN (dz nM p6 p7 bS (aq 1) (ag (bD (ag (aq 2) (ag (aq 5) (ag (eZ dC T.ba hr (aq 0) (ag (aq 3) (ag (aq 4) aa))) aa)))) aa)))) aJ)))))
  (ak (aG (aq 1))))),?_⟩
 obtain⟨dx,o,hx,T⟩:=J.ins;have T:=zu Z M;right;calc⟨U' _,λl qm=>?_⟩;have N:=au.new (.lst []) qm;have SE:upd H l (.lst []) l=some (.lst []):=ab;generalize hG1:upd H l (.lst [])=G1 at *;right;calc⟨x,dx,_,rfl,N _ _ hx,fH ⋯,F,x,I,d,r,ad,rfl,J.same N,λls vs Jl X1=>?_⟩;have O:=au.new (.lst vs) Jl;have Pr:upd G1 ls (.lst vs) ls=some (.lst vs):=ab;have IM:vs.length=r.picks.length:=by have:=X1.1;rwa [aaC]at this
 have nv:=(SI X1).mono O.aN;have oU:=N.trans O;have SJ:=O _ _ SE;generalize Jh:upd G1 ls (.lst vs)=G2 at *;calc⟨ls,rfl,.inl ⟨vs,r.picks,aM.of Pr,(),nv,M.nd,λy g T tw Nb X2 hz=>?_⟩⟩;obtain rfl:=xG Z M Nb X2;clear nv Nb X2 X1 Pr Jl IM Jh hG1 O SE;have R:=au.new (.lst g) tw;have Gn:upd G2 y (.lst g) y=some (.lst g):=ab;have UP:=hz.mono R.aN;have X3:=R _ _ SJ;have ju:=oU.trans R;have nl:y≠l:=Ne.symm (ao SJ tw);generalize hG3:upd G2 y (.lst g)=G3 at *;clear hz tw hG3 R SJ oU N;have zX:g.length=(eP r d.ws.length).length:=by have:=UP.len;rwa [aaC]at this
 refine .inl ⟨⟨_,aM.of Gn⟩,ee (K:=K) (xs:=g) (λi σ H'=>(∃z2 z3 z4 z5,σ=[some (V.ref x),some (V.ref l),z2,z3,z4,z5])/\au H H'/\H' y=some (.lst g)/\OT H' g ((eP r d.ws.length).map pI)/\∃ys,H' l=some (.lst ys)/\ys.length<=i/\eN H' 2 ys ((rY r ((eP r d.ws.length).take i)).map (JN r))) ?_ ?_ ?_ ?_⟩
 ·exact⟨⟨_,_,_,_,rfl⟩,ju,Gn,UP,[],X3,E' _,eN.nil⟩
 ·rintro i σ H' hi ⟨_,_,e,_⟩;exact aM.of e
 ·intro i xx σ H' z fW;nofun;obtain⟨⟨z2,z3,z4,z5,rfl⟩,u,t,k,ys,B,pZ,G⟩:=fW;clear ju Gn UP X3;have hi:i < (eP r d.ws.length).length:=by rw[<-zX];exact(List.getElem?_eq_some_iff.mp z).1
  obtain⟨p,S⟩:∃p,(eP r d.ws.length)[i]?=some p:=⟨_,cF hi⟩
  obtain⟨hw,e,y⟩:=fV.mp (W' S);have hk:p.2<(r.ww p.1).say.length:=by rw[L.lk _ hw];exact(List.getElem?_eq_some_iff.mp y).1
  obtain⟨b,e1,hb⟩:=k.got i (pI p) (by rw[aaB,S];rfl);rw[z]at e1;obtain rfl:=Option.some.inj e1;ac_rfl;clear e1;have vn:=J.same u;have X4:=u _ _ hx;right;refine uS (bG.of hb) ?_;walk_at "xg";right;refine⟨x,dx,_,rfl,X4,fH ⋯,F,x,I,d,r,ad,p.1,p.2,rfl,vn,L,hw,hk,λv U=>?_⟩;refine L2.aX h1 ?_;clear h1
  cases W:(r.ww p.1).snd.getD p.2 none with
  |none=>
   rw[W]at U;have:v=.bM:=by cases(show HT H' 1 v .bM from U);rfl
   subst this;right
   try rw[if_neg ∅]
   calc⟨⟨_,_,_,_,rfl,rfl,rfl,rfl⟩,u,t,k,ys,B,(),?_⟩;rw[Ac S,show wD r p=none from W];simpa using G
  |some q0=>
   nofun;obtain⟨a,rfl,i⟩:=mi (show HT H' 1 v (pairD q0) from by have:=U;rw[W]at this;calc this);ac_rfl;right
   try rw[if_pos ∅]
   calc⟨.inl ⟨rfl,_,aM.of B⟩,?_⟩;calc⟨x,dx,_,rfl,X4,fH ⋯,F,x,I,d,r,ad,p.1,p.2,rfl,vn,L,hw,hk,λX i=>?_⟩;calc⟨by rw[sizeLine_eq];lia,λY d=>?_⟩;have m:=au.new (.tup [.ref b,.ref a,X]) d;have UQ:upd H' Y (.tup [.ref b,.ref a,X]) Y=some (.tup [.ref b,.ref a,X]):=ab;have X5:=m _ _ B;have FJ:=G.aI m.aN;have adQ:=m _ _ t;have adR:=k.mono m.aN;have hv4:=U.aI m.aN;have adS:=i.aI m.aN;have hb4:=m _ _ hb;have sI:=u.trans m;generalize hG4:upd H' Y (.tup [.ref b,.ref a,X])=G4 at *;calc iu _ X5 (aA ()) ?_;have st:bW G4 (upd G4 l (.lst (ys++[.ref Y]))):=(bW.refl _).upd λg e=>by rw[X5]at e;cases e
   calc⟨⟨_,_,_,_,rfl,rfl,rfl,rfl⟩,λc o e=>by rw[av (ao e qm)];calc sI _ _ e,by rw[av nl];calc adQ,adR.mono st,_,ab,by simp;lia,?_⟩;have:=((FJ.snoc (e:=JN r p) (lR (n:=1) UQ (cS (n:=0) hb4 (.int _) (.int _)) hv4 adS)).aI st)
   rw[Ac S,show wD r p=some q0 from W,if_pos (show(some q0).isSome=true from rfl),aaD];exact this
 ·intro σ H' gc;obtain⟨⟨z2,z3,z4,z5,rfl⟩,u,t,k,ys,B,pZ,G⟩:=gc;right;rw[zX,List.take_length]at G;calc q l ys H' u qm B G
abbrev g9:Stmt:=top 18
inductive JP(vs:List V)(H:Hp)(Q:VK):Prop
 |mk (l t:Addr) (ys:List V) (r:RS) (ps:List (Nat×Nat)) (cut:List Int) (h0:vs=[.ref l,.ref t]) (h1:H l=some (.lst ys)) (h2:eN H 2 ys (ps.map (JN r))) (h3:ps.length<=40) (h4:CutAt H t cut) (h5:∀p∈ps,(∀e,wD r p=some e->0<=e.1/\e.1<(cut.length:Nat))/\∀e,JM r p=some e->0<=e.1/\e.1<(cut.length:Nat)) (q:∀l' zs H',au H H'->H l'=none->H' l'=some (.lst zs)->eN H' 1 zs ((ps.filter (ml r cut)).map λp=>pairD (pI p))->Q (.ref l') H'):JP vs H Q
def D7:Sp:=λvs H Q _=>JP vs H Q
theorem rZ(D:cK K mg "orphans_among" "orphans_among" g9 ["passed","cut"])(T:Tx K mg C CN CR F FD)(y:Def P w K mg base "is_inside" 1 ["event","cut"] JL):Def P w K mg base "orphans_among" 2 ["passed","cut"] D7:=by
 have sc:aD ["passed","cut"] ["passed","cut"] (az g9):=by walk_at "s"
 symm;obtain⟨l,t,ys,r,ps,cut,rfl,g,o,W,M,N,q⟩:=h;have T:=hr.units;calc⟨_,(ak (aG (cI (N':=["letter","sender","worker","cut"]) (ix:=[none,none,none,some 1]) (bz (pv 0)) (λ_ _ _ _=>(Fc (K:=K) rfl (i:=0) (j:=1) (l:=2) rfl (show(["letter","sender","worker","cut"]:List Str).Nodup by decide +kernel) rfl rfl rfl Sort Sort Sort)) (λ_ _ _ _=>(eW (PW.pt (pw_and (bg (aH y hr (ag (aq 2) (ag (aq 3) aa)))) (pw_and1 (bI (bg (aH y hr (ag (aq 1) (ag (aq 3) aa)))))))))) (λ_ _ _ _=>(aq 0))))),?_⟩;have X:ys.length=ps.length:=by have:=o.1;rwa [aaC] at this
 right;calc bo ?_;right;calc .inl ⟨⟨_,aM.of g⟩,λD z=>?_⟩;refine aZ (J:=rD K l) (n:=ys.length) (λi a H'=>au H H'/\eN H' 1 a (((ps.take i).filter (ml r cut)).map λp=>pairD (pI p))) (J' (aA ())) ⟨au.new _ z,eN.nil⟩ ?_ ?_ ?_ ?_
 ·rintro i a H' B ⟨s,_⟩;exact⟨_,_,aM.of (s _ _ g),cF B⟩
 ·rintro a H' ⟨s,_⟩;exact⟨_,aM.of (s _ _ g),E' _⟩
 ·intro i a H' B k O Y l d Z;nofun;obtain⟨s,m⟩:=Y;obtain⟨rfl,y⟩:=Z;have ex:=y _ (aM.of (s _ _ g));obtain⟨p,x⟩:∃p,ps[i]?=some p:=⟨_,cF ()⟩
  obtain⟨ta,u,v,w0,kk,rfl,rV,y1,y2,y3⟩:=bU ((o.aI s.aN).2 i _ _ ex (by rw[aaB,x];rfl));have R:=N p (W' x);have S:=M.same s;obtain⟨b,rfl,hb⟩:=mi (show HT d 1 u (nI (some (pI p))) from Ce (e:=some (pI p)) y1);ac_rfl;calc⟨ta,_,rfl,bG.of rV,rfl,_,_,rfl,_,_,rfl,_,_,rfl,rfl,Ext.set (Ext.set (Ext.set (Ext.refl _) rfl) rfl) rfl,?_⟩;right;calc⟨_,_,t,cut,rfl,Ce y3,S,R.2,?_⟩;calc ke ?_;have G:ml r cut p=true->∃g,d D=some (HO.lst g)/\g.length<sizeLine/\Ue (λi a H'=>au H H'/\eN H' 1 a (List.map (λp=>pairD (pI p)) (List.filter (ml r cut) (List.take i ps)))) D i (upd d D (HO.lst (g++[V.ref b]))):=λI=>by
   have st:bW d (upd d D (.lst (a++[.ref b]))):=(bW.refl _).upd λa e=>by rw[k]at e;cases e
   calc bH k O B (J' (aA ())) ⟨λc o e=>by rw[av (ao e z)];calc s _ _ e,?_⟩;rw[Ad x,I,if_pos rfl,aaD];exact(m.snoc (cS (n:=0) hb (.int _) (.int _))).aI st
  have U:ml r cut p=false->Ue (λi a H'=>au H H'/\eN H' 1 a (List.map (λp=>pairD (pI p)) (List.filter (ml r cut) (List.take i ps)))) D i d:=λI=>⟨_,k,(),s,by rw[Ad x,I,if_neg ∅,List.append_nil];calc m⟩
  cases L:Cd (JM r p) cut with
  |false=>
   rw[if_neg ∅,if_neg ∅];calc U (by unfold ml;rw[L];rfl)
  |true=>
   rw[if_pos rfl];calc⟨_,_,t,cut,rfl,Ce y2,S,R.1,?_⟩;refine ke ?_
   cases d:Cd (wD r p) cut with
   |false=>
    rw[if_pos ∅];calc G (by unfold ml;rw[L,d];rfl)
   |true=>
    rw[if_neg ∅];exact U (by unfold ml;rw[L,d];rfl)
 rintro a H' k O ⟨s,m⟩;rw[X,List.take_length]at m;calc q D a H' s z k m
theorem Cf{K:W.Frag}{R:VK}{c:Int}(o:tF [none,some j] σ=[none,some (.int c)])(f:H b=some (.lst (ns.map V.int)))(v:ns.length<=100)(k:H D=none)(q:∀H',au H H'->H' D=some (.lst ((ns.filter λp=>decide (p<c)).map V.int))->R (.ref D) H'):pB [none,some j] (rD K b) (dI 0) (tT (AI (MH λi j=>V.bl (decide (i<j))) (tV 0) (tV 1))) (tV 0) σ H R D Lw.mk:=by
 refine aZ (J:=rD K b) (n:=ns.length) (λi ys H'=>au H H'/\ys=((ns.take i).filter λp=>decide (p<c)).map V.int) (J' (aA ())) ⟨au.new _ k,rfl⟩ ?_ ?_ ?_ ?_
 ·rintro i ys H' g ⟨a,_⟩;exact⟨_,_,aM.of (a _ _ f),by rw[aaB,aS (d:=0) g];rfl⟩
 ·rintro ys H' ⟨a,_⟩;exact⟨_,aM.of (a _ _ f),nofun⟩
 ·intro i ys H' g h r s w x t;obtain⟨a,rfl⟩:=s;obtain⟨rfl,y⟩:=t;have l:=y _ (aM.of (a _ _ f));rw[aaB,aS (d:=0) g]at l;obtain rfl:=Option.some.inj l;rw[o];walk_at "xf";right;have m:(ns.take (i+1)).filter (λp=>decide (p<c))=(ns.take i).filter (λp=>decide (p<c))++if decide (ns.getD i 0<c)=true then[ns.getD i 0] else[]:=by
   rw[List.take_add_one,aS (d:=0) g,List.filter_append];congr 1;show List.filter _ [_]=_;rw[List.filter_cons,List.filter_nil]
  cases f:decide (ns.getD i 0<c) with
  |true=>
   rw[if_pos rfl];calc bH h r g (J' (aA ())) ⟨λc o e=>by rw[av (ao e k)];calc a _ _ e,?_⟩;rw[m,f,if_pos rfl,aaD];rfl
  |false=>
   rw[if_neg ∅];exact⟨_,h,(),a,by rw[m,f,if_neg ∅,List.append_nil]⟩
 rintro ys z h A ⟨u,rfl⟩;rw[List.take_length]at h;calc q _ u h
theorem qL(xs:List V)(k:Nat):dG xs (some (k:Int)) none=xs.drop k:=by
 unfold dG;rw[HT.sx,HT.yL];by_cases h:k<=xs.length
 ·rw[Nat.min_eq_left h,List.take_of_length_le nofun]
 ·rw[Nat.min_eq_right (),List.drop_eq_nil_of_le (E' _),List.drop_eq_nil_of_le (),List.take_nil]
def gh(H:Hp)(a:Addr)(PT:List (List Int)):Prop:=∃as:List Addr,H a=some (.lst (as.map V.ref))/\as.length=PT.length/\∀(m:Nat) b,as[m]?=some b->H b=some (.lst ((PT.getD m []).map V.int))
theorem gh.same{PT:List (List Int)}(h:gh H a PT)(s:au H H'):gh H' a PT:=by
 obtain⟨as,c,d,f⟩:=h;calc⟨as,s _ _ c,d,λm b e=>s _ _ (f m b e)⟩
structure gi(nt:NT)(r:RS)(PT:List (List Int)):Prop where
 len:PT.length=nt.ms.length
 ne:∀m,m<nt.ms.length->PT.getD m []≠[]
 ri:∀m,m<nt.ms.length->(PT.getD m []).Pairwise (· < ·)
 bd:∀m,m<nt.ms.length->∀c∈PT.getD m [],0<=c/\c<((r.mm m).dQ.length:Nat)
theorem pw_len:∀{ns:List Int}{lo:Int}{n:Nat},ns.Pairwise (· < ·)->(∀c∈ns,lo<=c/\c<lo+n)->ns.length<=n
 | [],_,_,_,_=>U' _
 |c::ns,lo,n,h,a=>by
  rw[List.pairwise_cons]at h;have b:=a c S';have:=pw_len (lo:=c+1) (n:=(lo+n-(c+1)).toNat) h.2 λd e=>by
   have:=h.1 d e;have:=a d (V' _ e);lia
  simp only[List.length_cons];lia
theorem NI(h:ns.Pairwise (· < ·)){i:Nat}(a:i+1<ns.length):ns.getD i 0<ns.getD (i+1) 0:=by
 rw[List.pairwise_iff_getElem]at h;have:=h i (i+1) () a ();simpa[List.getD_eq_getElem?_getD,cF a,cF (show i<ns.length by lia)] using this
abbrev mn:Stmt:=top 20
def JQ:Sp:=λvs H Q _=>∃(a:Addr) (ns:List Int),vs=[.ref a]/\H a=some (.lst (ns.map V.int))/\ns.length<=100/\ns.Pairwise (· < ·)/\∀H',au H H'->Q (.bl true) H'
theorem Ae(D:cK K mg "is_rising" "is_rising" mn ["counts"])(T:Tx K mg C CN CR F FD):Def P w K mg base "is_rising" 1 ["counts"] JQ:=by
 have sc:aD ["counts"] ["counts"] (az mn):=by walk_at "s"
 symm;obtain⟨a,ns,rfl,m,I,o,q⟩:=h;have I:=hr.units;refine⟨_,(ak (aG (aW (eB rfl) rfl T.lV Ll (ag (cI (N':=["low","high"]) (ix:=[none,none]) (Bx rfl T.Dp (ag (aq 0) (ag (nU (aq 0) (dU ai) fO) aa))) (λ_ _ _ _=>(ip (K:=K) rfl (i:=0) (j:=1) rfl (show(["low","high"]:List Str).Nodup by decide +kernel) rfl rfl Sort Sort)) ko (λ_ _ _ _=>(ij eF (aq 0) (aq 1) (aE _)))) aa)))),?_⟩;right;refine bo ?_;right;refine .inl ⟨_,m,λp I=>?_⟩;rw[show dG (ns.map V.int) (some 1) none=(ns.map V.int).drop 1 from qL _ 1];have t:=au.new (.lst ((ns.map V.int).drop 1)) I;have g:upd H p (.lst ((ns.map V.int).drop 1)) p=some (.lst ((ns.map V.int).drop 1)):=ab;have k:=t _ _ m;generalize R:upd H p (.lst ((ns.map V.int).drop 1))=G at *;refine fM true true _ _ (Sq.l k) (Sq.l g) (λD u=>?_);refine aZ (J:=Wc true true K a p) (n:=ns.length - 1) (λi ys H'=>au G H'/\ys=(List.replicate i true).map V.bl) (J' (aA ())) ⟨au.new _ u,rfl⟩ ?_ ?_ ?_ ?_
 ·rintro i ys H' v ⟨b,_⟩;exact⟨_,_,_,_,Sq.l (b _ _ k),Sq.l (b _ _ g),by rw[aaB,aS (d:=0) ()];rfl,by rw[List.getElem?_drop,aaB,aS (d:=0) ()];rfl⟩
 ·rintro ys H' ⟨b,_⟩;calc cy _ _ (Sq.l (b _ _ k)) (Sq.l (b _ _ g)) ?_;by_cases m:0 < ns.length
  ·exact .inr (by simp;lia)
  ·exact .inl (by simp;lia)
 ·intro i ys H' v r L M S U N;nofun;obtain⟨b,rfl⟩:=M;obtain⟨x,O,rfl,y⟩:=N;obtain⟨W,X,z,B,rfl⟩:=y _ _ (Sq.l (b _ _ k)) (Sq.l (b _ _ g));rw[aaB,aS (d:=0) ()] at z;rw[List.getElem?_drop,aaB,aS (d:=0) ()] at B;obtain rfl:=Option.some.inj z;obtain rfl:=Option.some.inj B;ac_rfl;have g:=au.new (.tup [.int (ns.getD i 0),.int (ns.getD (1 + i) 0)]) O;have k:upd H' x (.tup [.int (ns.getD i 0),.int (ns.getD (1 + i) 0)]) x=some (.tup [.int (ns.getD i 0),.int (ns.getD (1 + i) 0)]):=ab;calc uS (bG.of k) ⟨Ext.set (Ext.set (Ext.refl _) rfl) rfl,?_⟩;right;rw[show decide (ns.getD i 0 < ns.getD (1 + i) 0)=true from decide_eq_true (by rw[Nat.add_comm];calc NI o ())]
  try rw[if_pos trivial]
  calc bH (g _ _ r) L v (J' (aA ())) ⟨λc o e=>by rw[av (ao e u)];calc g _ _ (b _ _ e),?_⟩;rw[List.replicate_succ',aaD];rfl
 rintro ys H1 r Y ⟨b,rfl⟩;calc bC _ (aM.of r) ?_;rw[show(List.replicate (ns.length-1) true).all id=true by simp[List.all_replicate]];calc q _ (t.trans b)
abbrev kC:Stmt:=top 21
def JR:Sp:=λvs H Q _=>∃(a:Addr) (ns:List Int) (b:Nat),vs=[.ref a,.int b]/\H a=some (.lst (ns.map V.int))/\b<=60/\ns≠[]/\ns.Pairwise (· < ·)/\(∀c∈ns,0<=c/\c<=b)/\∀H',au H H'->Q (.bl true) H'
theorem xU(D:cK K mg "are_counts" "are_counts" kC ["things","most"])(T:Tx K mg C CN CR F FD)(y:Def P w K mg base "is_list" 1 ["things","least","most"] iJ)(z:Def P w K mg base "is_rising" 1 ["counts"] JQ)(B:Def P w K mg base "is_within" 2 ["thing","low","beyond"] b4):Def P w K mg base "are_counts" 3 ["things","most"] JR:=by
 have sc:aD ["things","most"] ["things","most"] (az kC):=by walk_at "s"
 symm;obtain⟨a,ns,b,rfl,l,G,r,m,o,q⟩:=h;have G:=hr.units;refine⟨_,(af (aR (bI (bg (aH y hr (ag (aq 0) (ag ai (ag (bq cM (aq 1) ai) aa)))))) (ak (aG ia)) aJ)
  (ak (aG (gj (aW (eB rfl) rfl T.lV Ll (ag (cI (N':=["c","most"]) (ix:=[none,some 1]) (bz (pv 0)) (λ_ _ _ _=>(aO (i:=0) (show(["c","most"]:List Str).Nodup by decide +kernel) rfl Sort)) ko (λ_ _ _ _=>(aH B hr (ag (aq 0) (ag ai (ag (bq cM (aq 1) ai) aa)))))) aa)) (gQ (aH z hr (ag (aq 0) aa))))))),?_⟩
 have y:ns.length<=b+1:=pw_len (lo:=0) (n:=b+1) m λc t=>by have:=o c t;lia
 have y:1<=ns.length:=List.length_pos_iff.mpr r;right;calc⟨a,_,_,_,rfl,.inl l,λH1 u=>ke ?_⟩;rw[aaC,show(decide ((1:Int)<=(ns.length:Int))&&decide ((ns.length:Int)<=(b:Int)+1))=true by simp;lia];rw[if_neg ∅];have j:=u _ _ l;calc bo ?_;right;calc .inl ⟨⟨_,aM.of j⟩,λD v=>?_⟩;refine aZ (J:=rD K a) (n:=ns.length) (λi ys H'=>au H1 H'/\ys=(List.replicate i true).map V.bl) (J' (aA ())) ⟨au.new _ v,rfl⟩ ?_ ?_ ?_ ?_
 ·rintro i ys H' k ⟨g,_⟩;exact⟨_,_,aM.of (g _ _ j),by rw[aaB,aS (d:=0) k];rfl⟩
 ·rintro ys H' ⟨g,_⟩;exact⟨_,aM.of (g _ _ j),nofun⟩
 ·intro i ys H' k p I L N O M;nofun;obtain⟨g,rfl⟩:=L;obtain⟨rfl,y⟩:=M;have x:=y _ (aM.of (g _ _ j));rw[aaB,aS (d:=0) k] at x;obtain rfl:=Option.some.inj x;ac_rfl;walk_at "xf";right;refine⟨.int (ns.getD i 0),_,0,_,rfl,.int _,?_⟩;have t:=o _ (getD_mem (d:=0) k);rw[show inR 0 _ (.int (ns.getD i 0))=true by simp only[inR,Bool.and_eq_true,decide_eq_true_eq];lia]
  try rw[if_pos trivial]
  calc bH p I k (J' (aA ())) ⟨λc o e=>by rw[av (ao e v)];calc g _ _ e,?_⟩;rw[List.replicate_succ',aaD];rfl
 rintro ys H2 p R ⟨g,rfl⟩;calc⟨_,aM.of p,_,rfl,?_⟩;rw[show(List.replicate ns.length true).all id=true by simp[List.all_replicate],if_pos rfl];calc⟨a,ns,rfl,g _ _ j,(),m,λi b=>q _ ((u.trans g).trans b)⟩
abbrev jC:Stmt:=top 23
def JS:Sp:=λvs H Q _=>∃(a:Addr) (ns:List Int) (c:Int),vs=[.ref a,.int c]/\H a=some (.lst (ns.map V.int))/\ns.length<=100/\∀H',au H H'->Q (oV (Ly (ns.filter λp=>decide (p<c)))) H'
theorem vq(D:cK K mg "point_ahead" "point_ahead" jC ["counts","c"])(T:Tx K mg C CN CR F FD):Def P w K mg base "point_ahead" 1 ["counts","c"] JS:=by
 have sc:aD ["counts","c"] ["counts","c"] (az jC):=by walk_at "s"
 symm;obtain⟨a,ns,c,rfl,b,d,q⟩:=h;have e:=hr.units;refine⟨_,(ak (aG (Nd rfl rfl T.IW (cI (N':=["point","c"]) (ix:=[none,some 1]) (bz (pv 0)) (λ_ _ _ _=>(aO (i:=0) (show(["point","c"]:List Str).Nodup by decide +kernel) rfl Sort)) (λ_ _ _ _=>(eW (aB eF (aq 0) (aq 1) (aE _)))) (λ_ _ _ _=>(aq 0)))))),?_⟩;right;unfold Wx;refine bo ?_;right;exact .inl ⟨⟨_,aM.of b⟩,λD e=>Cf (c:=c) rfl b d e λH2 g j=>⟨D,_,rfl,aM.of j,q _ g⟩⟩
abbrev jD:Stmt:=top 22
def JT(C CN CR:Addr):Sp:=λvs H Q _=>∃(F:Addr->Prop) (x b:Addr) (nt:NT) (r:RS) (ad:Nat->Nat->Addr) (a:Addr) (PT:List (List Int)),vs=[.ref x,.ref a]/\cf C CN CR F H x b nt r ad/\gh H a PT/\gi nt r PT/\r.Ok nt/\r.picks.length<=40/\∀H',au H H'->Q .bM H'
theorem vt(D:cK K mg "need_points" "need_points" jD ["run","points"])(T:Tx K mg C CN CR F FD)(kD:Def P w K mg base "are_counts" 3 ["things","most"] JR)(cO:Def P w K mg base "is_list" 1 ["things","least","most"] iJ)(bQ:cn P w K mg base CN "machines" 1 ["self"] (iy CN))(mr:cn P w K mg base CR "count" 4 ["self","m"] (JC C CN CR))(qM:cn P w K mg base CR "net" 1 ["self"] (DS C CN CR)):Def P w K mg base "need_points" 5 ["run","points"] (JT C CN CR):=by
 have sc:aD ["run","points","many"] ["run","points"] (az jD):=by walk_at "s"
 symm;obtain⟨F,x,p,d,r,ad,a,PT,rfl,m,O,t,M,j3,q⟩:=h;have hu:=hr.units;refine⟨_,(af (aU (i:=2) sc.nd rfl Sort (aW aP rfl T.bR L' (ag (fz bQ T.cU hr (fz qM T.ba hr (aq 0))) aa)))
  (af (aR (bI (bg (aH cO hr (ag (aq 1) (ag (aq 2) (ag (aq 2) aa)))))) (ak cG) aJ)
  (ak (aR (bI (bg (aW (eB rfl) rfl T.lV Ll (ag (cI (N':=["m","counts","run"]) (ix:=[none,none,some 0]) (ik rfl T.cW (ag (aq 1) aa)) (λ_ _ _ _=>(ip (K:=K) rfl (i:=0) (j:=1) rfl (show(["m","counts","run"]:List Str).Nodup by decide +kernel) rfl rfl Sort Sort)) ko (λ_ _ _ _=>(aH kD hr (ag (aq 1) (ag (eZ mr T.ba hr (aq 2) (ag (aq 0) aa)) aa))))) aa)))) (ak cG) aJ)))),?_⟩
 nofun;obtain⟨dx,o,X,ho⟩:=m.ins;obtain⟨⟨ms,wv,lv,N,oT,yA,Gm⟩,T⟩:=m.Nw;have h5:=T.Gf;obtain⟨as,Y,zI,Af⟩:=O;ac_rfl;have o7:=t.len;walk_at "xg";right;refine⟨x,dx,_,rfl,X,fH ⋯,F,x,p,d,r,ad,rfl,m,?_⟩;have T:=N;obtain⟨O,_,_,_,u,_⟩:=T;refine⟨p,O,_,rfl,u,by rfl,p,ms,wv,lv,rfl,N,λl B=>?_⟩;have Z:=au.new (.lst (ms.map V.ref)) B;have el:upd H l (.lst (ms.map V.ref)) l=some (.lst (ms.map V.ref)):=ab;generalize hG:upd H l (.lst (ms.map V.ref))=G at *;refine bC _ (.inl ⟨_,aM.of el,rfl⟩) ?_;rw[aaC,oT];refine L2.aX h1 ?_;clear h1;right;refine⟨a,_,_,_,rfl,.inl (Z _ _ Y),λH1 O=>ke ?_⟩;rw[aaC,zI,o7,show(decide ((d.ms.length:Int)<=(d.ms.length:Int))&&decide ((d.ms.length:Int)<=(d.ms.length:Int)))=true by simp];rw[if_neg ∅];right;have I:=Z.trans O;have L:=I _ _ Y;have R:=m.same I;clear m X ho N u el B hG yA Gm;refine bo ?_;right;refine zh true _ (Sq.l L) (λD hD=>?_);refine aZ (J:=Lv true K a) (n:=d.ms.length) (λi ys H'=>au H1 H'/\ys=(List.replicate i true).map V.bl) (J' (aA ())) ⟨au.new _ hD,rfl⟩ ?_ ?_ ?_ ?_
 ·rintro i ys H' k ⟨g,_⟩;exact⟨_,_,Sq.l (g _ _ L),by rw[aaB,cF ()];rfl⟩
 ·rintro ys H' ⟨g,_⟩;exact⟨_,Sq.l (g _ _ L),by simp;lia⟩
 ·intro i ys H' k S B FK xx H4 JU;nofun;obtain⟨g,rfl⟩:=FK;obtain⟨U,Gq,rfl,y⟩:=JU;obtain⟨z,ez,rfl⟩:=y _ (Sq.l (g _ _ L));rw[aaB] at ez;obtain⟨b,hb,rfl⟩:=Option.map_eq_some_iff.mp ez;ac_rfl;have W:=au.new (.tup [.int (i:Nat),.ref b]) Gq;have l:upd H' U (.tup [.int (i:Nat),.ref b]) U=some (.tup [.int (i:Nat),.ref b]):=ab;calc uS (bG.of l) ⟨Ext.set (Ext.set (Ext.refl _) rfl) rfl,?_⟩;have Cg:=W _ _ S;have v:=(R.same g).same W;have yE:=g.trans W;generalize hGt:upd H' U (.tup [.int (i:Nat),.ref b])=G3 at *;right;obtain⟨l,u,m,y⟩:=v.ins;calc⟨x,l,_,rfl,m,fH ⋯,F,x,p,d,r,ad,i,rfl,v,k,?_⟩;have h1:=M.lh i k;have l:=M.bp i k;have l:(((r.mm i).dQ.length:Nat):Int) - 1=(((r.mm i).dQ.length - 1:Nat):Int):=by lia
  refine⟨b,_,(r.mm i).dQ.length-1,by rw[l],I _ _ (Af i b hb) |> yE _ _,(),t.ne i k,t.ri i k,λc m=>by have:=t.bd i k c m;lia,λp l=>?_⟩
  try rw[if_pos trivial]
  calc bH (l _ _ Cg) B k (J' (aA ())) ⟨λc o e=>by rw[av (ao e hD)];calc l _ _ (yE _ _ e),?_⟩;rw[List.replicate_succ',aaD];rfl
 rintro ys H2 S pZ ⟨g,rfl⟩;calc⟨_,aM.of S,ke ?_⟩;rw[show(List.replicate d.ms.length true).all id=true by simp[List.all_replicate],if_neg ∅];right;calc q _ (I.trans g)
abbrev mw:Stmt:=top 63
def Ag:Sp:=λvs H Q _=>∃p m,vs=[.ref p,.int m]/\ff H p/\0<m/\m<=4/\∀x v H',Step p H H'->HT H' 1 x (Val.dv v)->v.ok m->Q x H'
theorem Ah(D:cK K mg "_law_value" "_law_value" mw ["_law_pot_here","_law_many"])(T:Tx K mg C CN CR F FD)(u:Def P w K mg base "_law_digit" 1 ["_law_pot_here","_law_many"] iI):Def P w K mg base "_law_value" 2 ["_law_pot_here","_law_many"] Ag:=by
 have sc:aD ["_law_pot_here","_law_many","_law_kind"] ["_law_pot_here","_law_many"] (az mw):=by walk_at "s"
 symm;obtain⟨p,m,rfl,G,I,J,q⟩:=h;have L:=hr.units;refine⟨_,(af (aU (i:=2) sc.nd rfl Sort (aH u hr (ag (aq 0) (ag ai aa))))
  (af (aR (aB eF (aq 2) ai (aE _)) (ak (aG (bD (ag aC (ag (aj L (bA (ag (bq fQ (aH u hr (ag (aq 0) (ag ai aa))) ai) (ag (bq fQ (aH u hr (ag (aq 0) (ag (bq fQ (bq mZ ai (bq sC ai ai)) ai) aa))) (bq fQ (bq sC ai ai) ai)) aa))) (aq 2)) aa))))) aJ)
  (af (aR (aB eF (aq 2) ai (aE _)) (ak (aG (bD (ag aC (ag (aH u hr (ag (aq 0) (ag (aq 1) aa))) aa))))) aJ)
  (ak (aG (aj L (bA (ag (bD (ag aC aa)) (ag (bD (ag aC aa)) (ag (bD (ag aC aa)) (ag (bD (ag aC aa)) aa))))) (bq fQ (aq 2) ai))))))),?_⟩
 right;calc lT p 8 rfl G ⋯ ⋯ (λd H1 h1 h2 st=>?_);right;split
 ·rename_i j;have j:d < 2:=by simpa using j
  calc lT p 9 rfl st.fq ⋯ ⋯ (λR H2 M J k=>?_);right;calc⟨BR,RN,dig k.fq WD WE λd2 H3 h5 h6 N=>?_⟩;right;calc gN BR ∅ (λl c=>?_);have y:d=0\/d=1:=by lia
  rcases y with rfl|rfl
  ·exact⟨_,_,.inl (aM.of ab),rfl,∅,λt n=>q _ (.is _) _ ((((st.trans k).trans N).new c).new n) (cS ab (.str _) (.int _)) trivial⟩
  ·exact⟨_,_,.inl (aM.of ab),rfl,∅,λt n=>q _ (.is _) _ ((((st.trans k).trans N).new c).new n) (cS ab (.str _) (.int _)) trivial⟩
 ·rename_i j;have j:¬d < 2:=by simpa using j
  split
  ·refine⟨p,m,rfl,st.fq,I,?_,λR H2 M z k=>?_⟩
   ·have:m=1\/m=2\/m=3\/m=4:=by lia
    rcases this with rfl|rfl|rfl|rfl<;>decide +kernel
   right;exact⟨∅,λt n=>q _ (.number _) _ ((st.trans k).new n) (cS ab (.str _) (.int _)) ⟨M,z⟩⟩
  ·rename_i r;have r:¬d < 4:=by simpa using r
   calc⟨∅,λa S=>⟨∅,λb O=>⟨∅,λe B=>⟨∅,λg v=>⟨∅,λl c=>?_⟩⟩⟩⟩⟩;have x:=((((st.new S (o:=.tup [.str "letter"])).new O (o:=.tup [.str "letter"])).new B (o:=.tup [.str "way"])).new v (o:=.tup [.str "first"])).new c (o:=.lst [.ref a,.ref b,.ref e,.ref g]);have y:d=4\/d=5\/d=6\/d=7:=by lia
   have U:=(au.new (H:=upd H1 a (.tup [.str "letter"])) (.tup [.str "letter"]) O) a _ ab;have W:=(au.new (.tup [.str "way"]) B) _ _ U;have X:=(au.new (.tup [.str "first"]) v) _ _ W;have Y:=(au.new (.lst [.ref a,.ref b,.ref e,.ref g]) c) _ _ X;have Z:=(au.new (H:=upd (upd H1 a (.tup [.str "letter"])) b (.tup [.str "letter"])) (.tup [.str "way"]) B) b _ ab;have k3:=(au.new (.tup [.str "first"]) v) _ _ Z;have k4:=(au.new (.lst [.ref a,.ref b,.ref e,.ref g]) c) _ _ k3;have l3:=(au.new (H:=upd (upd (upd H1 a (.tup [.str "letter"])) b (.tup [.str "letter"])) e (.tup [.str "way"])) (.tup [.str "first"]) v) e _ ab;have l4:=(au.new (.lst [.ref a,.ref b,.ref e,.ref g]) c) _ _ l3;have m4:=(au.new (H:=upd (upd (upd (upd H1 a (.tup [.str "letter"])) b (.tup [.str "letter"])) e (.tup [.str "way"])) g (.tup [.str "first"])) (.lst [.ref a,.ref b,.ref e,.ref g]) c) g _ ab;rcases y with rfl|rfl|rfl|rfl
   ·exact⟨_,_,.inl (aM.of ab),rfl,q _ .nV _ x (tU Y (.str _)) trivial⟩
   ·exact⟨_,_,.inl (aM.of ab),rfl,q _ .nV _ x (tU k4 (.str _)) trivial⟩
   ·exact⟨_,_,.inl (aM.of ab),rfl,q _ .way _ x (tU l4 (.str _)) trivial⟩
   ·calc⟨_,_,.inl (aM.of ab),rfl,q _ .first _ x (tU m4 (.str _)) trivial⟩
theorem adT{d:Int}(a:0<=d)(h:d<10):d=0\/d=1\/d=2\/d=3\/d=4\/d=5\/d=6\/d=7\/d=8\/d=9:=by
 have:∀n:Fin 10,((n.1:Nat):Int)=0\/((n.1:Nat):Int)=1\/((n.1:Nat):Int)=2\/((n.1:Nat):Int)=3\/((n.1:Nat):Int)=4\/((n.1:Nat):Int)=5\/((n.1:Nat):Int)=6\/((n.1:Nat):Int)=7\/((n.1:Nat):Int)=8\/((n.1:Nat):Int)=9:=by decide
 rw[<-aaA a];calc this ⟨d.toNat,()⟩
abbrev oA:Stmt:=top 64
theorem JV{H:Hp}{n:Nat}{a:Addr}{u v w z:V}{d d' g i:DV}(e:H a=some (.tup [u,v,w,z]))(h:HT H n u d)(h':HT H n v d')(f:HT H n w g)(j:HT H n z i):HT H (n+1) (.ref a) (.tup [d,d',g,i]):=by
 refine .tup e rfl λi x y b c=>?_
 match i,b,c with
 |0,b,c=>simp at b c;subst b c;calc h
 |1,b,c=>simp at b c;subst b c;calc h'
 |2,b,c=>simp at b c;subst b c;calc f
 |3,b,c=>simp at b c;subst b c;calc j
def Ai:Sp:=λvs H Q _=>∃p m,vs=[.ref p,.int m]/\ff H p/\0<m/\m<=4/\∀x d H',Step p H H'->HT H' 2 x (bF.dv d)->d.ok m->Q x H'
theorem Ci(D:cK K mg "_law_deed" "_law_deed" oA ["_law_pot_here","_law_many"])(T:Tx K mg C CN CR F FD)(M:Def P w K mg base "_law_digit" 1 ["_law_pot_here","_law_many"] iI)(I:Def P w K mg base "_law_value" 2 ["_law_pot_here","_law_many"] Ag):Def P w K mg base "_law_deed" 3 ["_law_pot_here","_law_many"] Ai:=by
 have sc:aD ["_law_pot_here","_law_many","_law_kind"] ["_law_pot_here","_law_many"] (az oA):=by walk_at "s"
 symm;obtain⟨p,m,rfl,U,k,u,q⟩:=h;have N:=hr.units;refine⟨_,(af (aU (i:=2) sc.nd rfl Sort (aH M hr (ag (aq 0) (ag ai aa))))
  (af (aR (aB eF (aq 2) ai (aE _)) (ak (aG (bD (ag (aj N (bA (ag aC (ag aC (ag aC aa)))) (aq 2)) (ag (aH M hr (ag (aq 0) (ag (aq 1) aa))) (ag (aH I hr (ag (aq 0) (ag (aq 1) aa))) aa)))))) aJ)
  (af (aR (aB eF (aq 2) ai (aE _)) (ak (aG (bD (ag aC (ag (aH M hr (ag (aq 0) (ag ai aa))) (ag (aH I hr (ag (aq 0) (ag (aq 1) aa))) aa)))))) aJ)
  (af (aR (aB (bb N) (aq 2) ai (aE _)) (ak (aG (bD (ag aC (ag (aH I hr (ag (aq 0) (ag (aq 1) aa))) aa))))) aJ)
  (af (aR (aB (bb N) (aq 2) ai (aE _)) (ak (aG (bD (ag aC (ag (aH I hr (ag (aq 0) (ag (aq 1) aa))) aa))))) aJ)
  (af (aR (aB (bb N) (aq 2) ai (aE _)) (ak (aG (bD (ag aC aa)))) aJ)
  (ak (aG (bD (ag aC (ag (aH I hr (ag (aq 0) (ag (aq 1) aa))) (ag (aH I hr (ag (aq 0) (ag (aq 1) aa))) (ag (bq cM ai (aH M hr (ag (aq 0) (ag ai aa)))) aa))))))))))))),?_⟩
 right;calc lT p 10 rfl U ⋯ ⋯ (λd H1 I M st=>?_);have O:m.natAbs.log2<9000:=by
  have:m=1\/m=2\/m=3\/m=4:=by lia
  rcases this with rfl|rfl|rfl|rfl<;>decide +kernel
 have Y:d=0\/d=1\/d=2\/d=3\/d=4\/d=5\/d=6\/d=7\/d=8\/d=9:=adT (by assumption) (by assumption);rcases Y with rfl|rfl|rfl|rfl|rfl|rfl|rfl|rfl|rfl|rfl
 ·walk_at "go";refine⟨∅,λl J=>?_⟩;have B:=st.new (o:=.lst [.str "set",.str "add",.str "times"]) J;refine bu ab rfl ?_;refine dig B.fq k O λe L r y x=>?_;have b:=B.trans x;walk_at "go";refine lT p m rfl b.fq k u (λz v G c g j=>?_);walk_at "go";exact⟨∅,λt a=>q _ (.set e v) _ ((b.trans c).new a) (lR ab (.str _) (.int _) (g.aI (au.new _ a).aN)) ⟨r,y,j⟩⟩
 ·walk_at "go";refine⟨∅,λl J=>?_⟩;have B:=st.new (o:=.lst [.str "set",.str "add",.str "times"]) J;refine bu ab rfl ?_;refine dig B.fq k O λe L r y x=>?_;have b:=B.trans x;walk_at "go";refine lT p m rfl b.fq k u (λz v G c g j=>?_);walk_at "go";exact⟨∅,λt a=>q _ (.add e v) _ ((b.trans c).new a) (lR ab (.str _) (.int _) (g.aI (au.new _ a).aN)) ⟨r,y,j⟩⟩
 ·walk_at "go";refine⟨∅,λl J=>?_⟩;have B:=st.new (o:=.lst [.str "set",.str "add",.str "times"]) J;refine bu ab rfl ?_;refine dig B.fq k O λe L r y x=>?_;have b:=B.trans x;walk_at "go";refine lT p m rfl b.fq k u (λz v G c g j=>?_);walk_at "go";exact⟨∅,λt a=>q _ (.times e v) _ ((b.trans c).new a) (lR ab (.str _) (.int _) (g.aI (au.new _ a).aN)) ⟨r,y,j⟩⟩
 ·walk_at "go";refine dig st.fq ∅ ⋯ λe L r y x=>?_;have b:=st.trans x;right;refine lT p m rfl b.fq k u (λz v G c g j=>?_);right;exact⟨∅,λt a=>q _ (.send e v) _ ((b.trans c).new a) (lR ab (.str _) (.int _) (g.aI (au.new _ a).aN)) ⟨r,j⟩⟩
 ·walk_at "go";refine dig st.fq ∅ ⋯ λe L r y x=>?_;have b:=st.trans x;right;refine lT p m rfl b.fq k u (λz v G c g j=>?_);right;exact⟨∅,λt a=>q _ (.send e v) _ ((b.trans c).new a) (lR ab (.str _) (.int _) (g.aI (au.new _ a).aN)) ⟨r,j⟩⟩
 ·walk_at "go";refine dig st.fq ∅ ⋯ λe L r y x=>?_;have b:=st.trans x;right;refine lT p m rfl b.fq k u (λz v G c g j=>?_);right;exact⟨∅,λt a=>q _ (.send e v) _ ((b.trans c).new a) (lR ab (.str _) (.int _) (g.aI (au.new _ a).aN)) ⟨r,j⟩⟩
 ·walk_at "go";refine lT p m rfl st.fq k u (λz v G c g j=>?_);walk_at "go";exact⟨∅,λt a=>q _ (.say v) _ ((st.trans c).new a) (cS ab (.str _) (g.aI (au.new _ a).aN)) j⟩
 ·walk_at "go";refine lT p m rfl st.fq k u (λz v G c g j=>?_);walk_at "go";exact⟨∅,λt a=>q _ (.put v) _ ((st.trans c).new a) (cS ab (.str _) (g.aI (au.new _ a).aN)) j⟩
 ·walk_at "go";exact⟨∅,λt a=>q _ .drop _ (st.new a) (tU (n:=1) ab (.str _)) trivial⟩
 ·walk_at "go";refine lT p m rfl st.fq k u (λz v G c g j=>?_);walk_at "go";have R:=st.trans c;refine lT p m rfl R.fq k u (λZ v2 b W W7 X9=>?_);have S:=R.trans W;walk_at "go";refine dig S.fq ∅ ⋯ λe b r y X=>?_;walk_at "go";refine⟨∅,λt a=>q _ (.skip v v2 (1+e)) _ ((S.trans X).new a) ?_ ⟨j,X9,(),()⟩⟩;have b:=(X.aN S.fq).trans (au.new (.tup [.str "skip",z,Z,.int (1+e)]) a).aN;exact JV ab (.str _) (g.aI ((W.aN R.fq).trans b)) (W7.aI b) (.int _)
abbrev jE:Stmt:=top 65
theorem Step.free{p b:Addr}{H H':Hp}(st:Step p H H')(h:H' b=none):H b=none:=by
 cases e:H b with
 |none=>rfl
 |some o=>
  by_cases a:b=p
  ·subst a;obtain⟨x,c,_⟩:=st.fq;rw[h]at c;cases c
  ·rw[st.rest b o e a]at h;cases h
theorem Aj{m:Int}(a:0<m)(h:m<=1000000000000):m.natAbs.log2<9000:=(Nat.log2_lt ()).mpr (aav (show m.natAbs<=1000000000000 by lia) ⋯)
def mods(d:Int):List V:=[.int 2,.int 3,.int 7,.int 10,.int 97,.int (2+d)]
theorem NK{d k:Int}(b:0<=d)(a:d<10^Int.toNat 12-1)(c:0<=k)(f:k<6):∃z:Int,gU (mods d) k=some (.int z)/\2<=z/\z<=1000000000000:=by
 have e:(10:Int)^Int.toNat 12=1000000000000:=by decide +kernel
 rw[e]at a;have:k=0\/k=1\/k=2\/k=3\/k=4\/k=5:=by lia
 rcases this with rfl|rfl|rfl|rfl|rfl|rfl
 ·exact⟨_,ay (j:=0) rfl,∅,∅⟩
 ·exact⟨_,ay (j:=1) rfl,∅,∅⟩
 ·exact⟨_,ay (j:=2) rfl,∅,∅⟩
 ·exact⟨_,ay (j:=3) rfl,∅,∅⟩
 ·exact⟨_,ay (j:=4) rfl,∅,∅⟩
 ·calc⟨_,ay (j:=5) rfl,(),()⟩
def Ak:Sp:=λvs H Q _=>∃p,vs=[.ref p]/\ff H p/\∀t a b c xs M ns row d H',Step p H H'->H' t=some (.tup [.int M,.ref a,.ref b,.ref c])->H' a=some (.lst (ns.map V.int))->H' b=some (.lst (row.map V.int))->H' c=some (.lst xs)->eN H' 2 xs (d.map bF.dv)->H a=none->H b=none->H c=none->Good M ns row d->Q (.ref t) H'
theorem vz(D:cK K mg "_law_machine" "_law_machine" jE ["_law_pot_here"])(T:Tx K mg C CN CR F FD)(oB:Def P w K mg base "_law_deed" 3 ["_law_pot_here","_law_many"] Ai)(j:Def P w K mg base "_law_digit" 1 ["_law_pot_here","_law_many"] iI):Def P w K mg base "_law_machine" 4 ["_law_pot_here"] Ak:=by
 have sc:aD ["_law_pot_here","_law_modulus","_law_many","_law_numbers","_law_row","_law_deeds"] ["_law_pot_here"] (az jE):=by walk_at "s"
 symm;obtain⟨p,rfl,k,q⟩:=h;have l:=hr.units;refine⟨_,(af (aU (i:=1) sc.nd rfl Sort (aj l (bA (ag ai (ag ai (ag ai (ag ai (ag ai (ag (bq cM ai (aH j hr (ag (aq 0) (ag (bq fQ (bq sC ai ai) ai) aa)))) aa))))))) (aH j hr (ag (aq 0) (ag ai aa)))))
  (af (aU (i:=2) sc.nd rfl Sort (bq cM ai (aH j hr (ag (aq 0) (ag ai aa)))))
  (af (cJ (i:=3) sc.nd rfl Sort (N':=["_law_k","_law_pot_here","_law_modulus"]) (ix:=[none,some 0,some 1]) (cZ rfl T.dX (ag (aq 2) aa)) (λ_ _ _ _=>(aO (i:=0) (show(["_law_k","_law_pot_here","_law_modulus"]:List Str).Nodup by decide +kernel) rfl Sort)) ko (λ_ _ _ _=>(aH j hr (ag (aq 1) (ag (aq 2) aa)))))
  (af (cJ (i:=4) sc.nd rfl Sort (N':=["_law_k","_law_pot_here","_law_modulus"]) (ix:=[none,some 0,some 1]) (cZ rfl T.dX (ag (aH j hr (ag (aq 0) (ag ai aa))) aa)) (λ_ _ _ _=>(aO (i:=0) (show(["_law_k","_law_pot_here","_law_modulus"]:List Str).Nodup by decide +kernel) rfl Sort)) ko (λ_ _ _ _=>(aH j hr (ag (aq 1) (ag (aq 2) aa)))))
  (af (cJ (i:=5) sc.nd rfl Sort (N':=["_law_k","_law_pot_here","_law_many"]) (ix:=[none,some 0,some 2]) (cZ rfl T.dX (ag (aH j hr (ag (aq 0) (ag ai aa))) aa)) (λ_ _ _ _=>(aO (i:=0) (show(["_law_k","_law_pot_here","_law_many"]:List Str).Nodup by decide +kernel) rfl Sort)) ko (λ_ _ _ _=>(aH oB hr (ag (aq 1) (ag (aq 2) aa)))))
  (ak (aG (bD (ag (aq 1) (ag (aq 3) (ag (aq 4) (ag (aq 5) aa)))))))))))),?_⟩
 right;calc⟨RM,?_⟩;calc dig k WG RQ λd0 H1 Jx Ul j=>?_;right;calc⟨∅,λl t=>?_⟩;have T:=j.new (o:=.lst (mods d0)) t;have UR:l≠p:=Step.ne j.fq t;calc dig T.fq ∅ ⋯ λk H3 l Ya c=>?_;have j:=T.trans c;obtain⟨M,k,Fu,qy⟩:=NK Jx Ul l Ya;right;calc bu (c.rest _ _ ab UR) k ?_;right;calc dig j.fq ∅ ⋯ λm T RV Gh sQ=>?_;have N:=j.trans sQ;right;calc bo ?_;right;calc gN () () (λD O=>?_);have y:D≠p:=Step.ne N.fq O;refine aZ (J:=Cy 0 (1+m).toNat) (n:=(1+m).toNat) (λi ys H'=>∃ns:List Int,ys=ns.map V.int/\ns.length=i/\Step p T H'/\(∀z∈ns,0<=z/\z<M)) (J' (aA ())) ⟨[],rfl,rfl,(Step.refl N.fq).new O,λz r=>by simp at r⟩ (λi ys H' a _=>a) (λys H' _=>E' _) ?_ ?_
 ·intro i ys H' a B t fW x H2 gc;nofun;obtain⟨ns,rfl,G,st,hb⟩:=fW;obtain⟨rfl,rfl⟩:=gc;ac_rfl;walk_at "xf";right;rw[if_pos trivial];refine dig st.fq () (Aj () qy) λd H3 h3 h4 c=>?_;refine bH (c.rest _ _ B y) t a (J' (aA ())) ⟨ns++[d],nofun,by simp[G],?_,λz r=>?_⟩
  ·exact⟨c.fq.upd (Ne.symm y),λb o e ne=>by rw[av (ao e O)];calc c.rest _ _ (st.rest _ _ e ne) ne⟩
  ·rcases List.mem_append.mp r with g | g
   ·exact hb z g
   ·simp at g;subst g;exact⟨h3,h4⟩
 intro ys H5 en UL lB;obtain⟨ns,rfl,G,T,LK⟩:=lB;have fD:H D=none:=N.free O;have j:=N.trans T;calc bo ?_;right;calc dig j.fq ∅ ⋯ λk O h60 h61 l=>?_;have R:=j.trans l;have en6:=l.rest _ _ en y;right;calc gN () () (λS U=>?_);have W:S≠p:=Step.ne R.fq U;refine aZ (J:=Cy 0 k.toNat) (n:=k.toNat) (λi ys H'=>∃ns:List Int,ys=ns.map V.int/\ns.length=i/\Step p O H'/\(∀z∈ns,0<=z/\z<M)) (J' (aA ())) ⟨[],rfl,rfl,(Step.refl R.fq).new U,λz r=>by simp at r⟩ (λi ys H' a _=>a) (λys H' _=>E' _) ?_ ?_
 ·intro i ys H' a B t pJ x H2 ui;nofun;obtain⟨ns,rfl,G,st,hb⟩:=pJ;obtain⟨rfl,rfl⟩:=ui;ac_rfl;walk_at "xf";right;rw[if_pos trivial];refine dig st.fq () (Aj () qy) λd H3 h3 h4 c=>?_;refine bH (c.rest _ _ B W) t a (J' (aA ())) ⟨ns++[d],nofun,by simp[G],?_,λz r=>?_⟩
  ·exact⟨c.fq.upd (Ne.symm W),λb o e ne=>by rw[av (ao e U)];calc c.rest _ _ (st.rest _ _ e ne) ne⟩
  ·rcases List.mem_append.mp r with g | g
   ·exact hb z g
   ·simp at g;subst g;exact⟨h3,h4⟩
 intro ys H7 er hl7 zE;obtain⟨row,rfl,c,j,RU⟩:=zE;have XC:H S=none:=R.free U;have k:=R.trans j;have c:=j.rest _ _ en6 y;calc bo ?_;right;calc dig k.fq ∅ ⋯ λl r t N g=>?_;have X:=k.trans g;have en8:=g.rest _ _ c y;have er8:=g.rest _ _ er W;right;calc gN () () (λI Y=>?_);have Ye:I≠p:=Step.ne X.fq Y;have XH:H I=none:=X.free Y;refine aZ (J:=Cy 0 l.toNat) (n:=l.toNat) (λi ys H'=>∃u:List bF,eN H' 2 ys (u.map bF.dv)/\u.length=i/\(∀Z∈u,Z.ok (1+m))/\Step p r H') (J' (aA ())) ⟨[],eN.nil,rfl,λZ AH=>by simp at AH,(Step.refl X.fq).new Y⟩ (λi ys H' a _=>a) (λys H' _=>E' _) ?_ ?_
 ·intro i ys H' a B qm FK x H9 JU;nofun;obtain⟨u,sF,L,SN,v⟩:=FK;obtain⟨rfl,rfl⟩:=JU;ac_rfl;walk_at "xf";right;rw[if_pos trivial];refine⟨p,1 + m,rfl,v.fq,(),(),λg dd c NP Yf Yg=>?_⟩;have Yh:=NP.rest _ _ B Ye;have t10:bW c (upd c I (.lst (ys++[g]))):=(bW.refl _).upd λc e=>by rw[Yh] at e;cases e
  refine bH Yh qm a (J' (aA ())) ⟨u++[dd],?_,by simp[L],?_,?_⟩
  ·rw[aaD];exact((sF.aI (NP.aN v.fq)).snoc Yf).aI t10
  ·intro Z AH;rcases List.mem_append.mp AH with z | z
   ·exact SN Z z
   ·simp at z;subst z;exact Yg
  ·exact⟨NP.fq.upd (Ne.symm Ye),λb o e ne=>by rw[av (ao e Y)];calc NP.rest _ _ (v.rest _ _ e ne) ne⟩
 intro ys H9 i a g;obtain⟨u,sF,L,SN,v⟩:=g;have c:=X.trans v;right;calc⟨by show 4<=sizeLine;decide,λt g=>?_⟩;have a:=au.new (.tup [.int M,.ref D,.ref S,.ref I]) g;calc q t D S I ys M ns row u _ (c.new g) ab (a _ _ (v.rest _ _ en8 y)) (a _ _ (v.rest _ _ er8 W)) (a _ _ i) (sF.aI a.aN) fD XC XH ⟨Fu,qy,(),(),(),LK,RU,(),λd j=>?_⟩;rw[G];have e:(((1+m).toNat:Nat):Int)=1+m:=by lia
 rw[e];calc SN d j
abbrev my:Stmt:=top 67
inductive JX(vs:List V)(H:Hp)(Q:VK):Prop
 |mk (x:V) (st an ar:Addr) (way said M:Int) (v:Val) (ns row:List Int) (n:Nat) (h0:vs=[x,.ref st,.int way,.int said,.int M]) (h1:HT H n x (Val.dv v)) (h2:H st=some (.tup [.ref an,.ref ar])) (h3:H an=some (.lst (ns.map V.int))) (h4:H ar=some (.lst (row.map V.int))) (h5:v.ok ns.length) (h6:0<M) (h7:row.length<=12) (h8:∀H',au H H'->Q (.int (fT M way said ns row v)) H'):JX vs H Q
def D8:Sp:=λvs H Q _=>JX vs H Q
theorem Al(D:cK K mg "_law_worth" "_law_worth" my ["_law_value_here","_law_state","_law_way","_law_said","_law_modulus"])(T:Tx K mg C CN CR F FD):Def P w K mg base "_law_worth" 1 ["_law_value_here","_law_state","_law_way","_law_said","_law_modulus"] D8:=by
 have sc:aD ["_law_value_here","_law_state","_law_way","_law_said","_law_modulus","_law_worth_here"] ["_law_value_here","_law_state","_law_way","_law_said","_law_modulus"] (az my):=by walk_at "s"
 symm;obtain⟨x,st,a,Y,way,c,M,v,ns,row,n,rfl,g,R,Z,o,S,k,pK,q⟩:=h;have a:=hr.units;refine⟨_,(af (aU (i:=5) sc.nd rfl Sort (aq 2))
  (af (aR (aB (bb a) (aj a (aq 0) ai) aC (aE _)) (ak (aU (i:=5) sc.nd rfl Sort (aj a (aq 0) ai))) aJ)
  (af (aR (aB (bb a) (aj a (aq 0) ai) aC (aE _)) (ak (aU (i:=5) sc.nd rfl Sort (aj a (aj a (aq 1) ai) (aj a (aq 0) ai)))) aJ)
  (af (aR (aB (bb a) (aj a (aq 0) ai) aC (aE _)) (ak (aU (i:=5) sc.nd rfl Sort (aq 3))) aJ)
  (af (aR (aB (bb a) (aj a (aq 0) ai) aC (aE _)) (ak (aU (i:=5) sc.nd rfl Sort (aj a (bq cM (cI (N':=["_law_k","_law_state"]) (ix:=[none,some 1]) (cZ rfl T.dX (ag (aW aP rfl T.bR L' (ag (aj a (aq 1) ai) aa)) aa)) (λ_ _ _ _=>(aO (i:=0) (show(["_law_k","_law_state"]:List Str).Nodup by decide +kernel) rfl Sort)) ko (λ_ _ _ _=>(cu (K:=K) rfl a (cu (K:=K) rfl a (aq 1) ai) (aq 0)))) (bA (ag ai aa))) ai))) aJ)
  (ak (aG (bq fg (aq 5) (aq 4))))))))),?_⟩
 left
 cases v with
 |is z=>
  nofun;obtain⟨p,t,w2,u,rfl,y,d,I⟩:=dD g;obtain rfl:=d.cT;obtain rfl:=I.ck;ac_rfl;walk_at "jg";exact⟨k,q H (au.refl H)⟩
 |number i=>
  nofun;obtain⟨p,t,w2,u,rfl,y,d,I⟩:=dD g;obtain rfl:=d.cT;obtain rfl:=I.ck;obtain⟨L,a⟩:=S;obtain⟨j,rfl⟩:=aah L;ac_rfl;have U:j<ns.length:=by lia
  have a:gU (ns.map V.int) (j:Int)=some (.int ns[j]):=ay (by rw[aaB,cF U];rfl);walk_at "jg";have a:=q H (au.refl H);have N:fT M way c ns row (.number j)=ns[j]%M:=by
   show ns.getD (j:Int).toNat 0%M=_;simp[List.getD_eq_getElem?_getD,cF U]
  rw[N]at a;calc⟨k,a⟩
 |first=>
  nofun;obtain⟨p,t,u,rfl,y,d⟩:=jj g;obtain rfl:=d.cT;ac_rfl;walk_at "jg"
  skip
  walk_at "jg";refine bC _ (.inl ⟨_,aM.of o,rfl⟩) ?_;left;have a:(row.map V.int).length=row.length:=by simp
  rw[a];calc gN () () (λD W=>?_);refine aZ (J:=Cy 0 row.length) (n:=row.length) (λi ys H'=>ys=(row.take i).map V.int/\au H H') (J' (aA ())) ⟨rfl,au.new _ W⟩ (λi ys H' l _=>l) (λys H' _=>E' _) ?_ ?_
  ·intro i ys H' l B G fW x H2 gc;nofun;obtain⟨rfl,m⟩:=fW;obtain⟨rfl,rfl⟩:=gc;ac_rfl;walk_at "xf";have a:=m _ _ R;have O:=m _ _ o;walk_at "jg"
   try rw[if_pos trivial]
   calc bu O (show gU (row.map V.int) (0+(i:Int))=some (.int row[i]) from by rw[Int.zero_add];calc ay (by rw[aaB,cF l];rfl)) ?_;calc bH B G l (J' (aA ())) ⟨?_,λb o e=>by rw[av (ao e W)];calc m _ _ e⟩;rw[List.take_succ,cF l,aaD];rfl
  rintro ys H1 B G ⟨rfl,m⟩;rw[List.take_length]at B;walk_at "jg";refine⟨∅,λl G=>?_⟩;have X:=au.new (.lst [.int 0]) G;walk_at "jg";refine .inl ⟨_,_,X _ _ B,ab,J' (aA (by simp;lia)),λi a=>?_⟩;have s3:=au.new (.lst (row.map V.int++[.int 0])) a;have N:gU (row.map V.int++[.int 0]) 0=some (.int (tS ns row way c .first)):=by
   cases row with
   |nil=>calc ay (j:=0) rfl
   |cons r a=>exact ay (j:=0) rfl
  left;refine bu ab N ?_;walk_at "jg";exact⟨k,q _ (m.trans (X.trans s3))⟩
 |nV=>
  nofun;obtain⟨p,t,u,rfl,y,d⟩:=jj g;obtain rfl:=d.cT;ac_rfl;walk_at "jg";exact⟨k,q _ (au.refl H)⟩
 |way=>
  nofun;obtain⟨p,t,u,rfl,y,d⟩:=jj g;obtain rfl:=d.cT;ac_rfl;walk_at "jg";exact⟨k,q _ (au.refl H)⟩
def Pt(M way said:Int):Nat->List bF->WS->WS
 |_,[],s=>s
 |l+1,_::r,s=>Pt M way said l r s
 |0,d::r,s=>Pt M way said (nH M way said d s).toNat r (k8 M way said d s)
theorem xV{M way said:Int}:∀(b:List bF) (l:Nat) (s:WS) (f:Nat),b.length<=f->Pt M way said l b s=zc M way said f (b.drop l) s
 | [],l,s,f,_=>by rw[List.drop_nil,Dd];cases l<;>rfl
 |d::r,l+1,s,f,h=>by
  show Pt M way said l r s=zc M way said f (r.drop l) s;calc xV r l s f (by simp at h;lia)
 |d::r,0,s,f,h=>by
  obtain⟨a,rfl⟩:∃a,f=a+1:=⟨f-1,by simp at h;lia⟩
  show Pt M way said (nH M way said d s).toNat r (k8 M way said d s)=zc M way said a (r.drop (nH M way said d s).toNat) (k8 M way said d s);calc xV r _ _ a (by simp at h;lia)
theorem JY{M way said:Int}{a:List bF}:Pt M way said 0 a ⟨ns,row,[],[]⟩=pF M way said a ns row:=xV a 0 _ _ (E' _)
inductive NR(H:Hp)(mt:Addr)(st:V)(way said M:Int)(ds:List bF)(ns row:List Int)(i:Nat)(σ:St)(H':Hp):Prop
 |mk (an ar ie aw:Addr) (zs:List V) (z9 DM:Option V) (l:Nat) (s:WS) (h0:σ=[some (.ref mt),some st,some (.int way),some (.int said),some (.ref an),some (.ref ar),some (.ref ie),some (.ref aw),some (.int ((l:Nat):Int)),z9,DM]) (h1:au H H') (a1:H an=none) (a2:H ar=none) (a3:H ie=none) (a4:H aw=none) (n1:an≠ar) (n2:an≠ie) (n3:an≠aw) (n4:ar≠ie) (n5:ar≠aw) (n6:ie≠aw) (e1:H' an=some (.lst (s.ns.map V.int))) (e2:H' ar=some (.lst (s.row.map V.int))) (e3:H' ie=some (.lst zs)) (Gg:SL H' zs s.cR) (e5:H' aw=some (.lst (s.words.map V.int))) (LJ:s.ns.length=ns.length) (LK:∀z∈s.ns,0<=z/\z<M) (wb:s.row.length<=12) (LL:s.cR.length<=i) (hwn:s.words.length<=i) (pb:Pt M way said l (ds.drop i) s=pF M way said ds ns row):NR H mt st way said M ds ns row i σ H'
inductive JZ(K:W.Frag)(vs:List V)(H:Hp)(Q:VK):Prop
 |mk (mt ln lr ld:Addr) (st:V) (way said M:Int) (xs:List V) (ds:List bF) (ns row:List Int) (h0:vs=[.ref mt,st,.int way,.int said]) (Yj:H mt=some (.tup [.int M,.ref ln,.ref lr,.ref ld])) (h1:H ld=some (.lst xs)) (h2:eN H 2 xs (ds.map bF.dv)) (h3:zd K H st ns row) (h5:2<=M) (h6:M<=1000000000000) (h7:∀z∈ns,0<=z/\z<M) (h9:row.length<=12) (Jx:ds.length<=24) (Ul:∀d∈ds,d.ok ns.length) (h13:∀x H',au H H'->Res H H' x (pF M way said ds ns row)->Q x H'):JZ K vs H Q
theorem SO{xs:List V}:dG xs none (some 12)=xs.take 12:=by
 unfold dG;have a:HT.eE xs.length 0 none=0:=rfl;rw[a];have b:HT.eE xs.length xs.length (some 12)=min 12 xs.length:=by
  unfold HT.eE;simp
 rw[b,List.drop_zero,Nat.sub_zero];by_cases h:xs.length<=12
 ·rw[Nat.min_eq_right h,List.take_length,List.take_of_length_le h]
 ·rw[Nat.min_eq_left ()]
theorem Yk{xs:List V}:dG xs (some 1) none=xs.tail:=by
 unfold dG;have b:HT.eE xs.length xs.length none=xs.length:=rfl;rw[b]
 cases xs with
 |nil=>simp
 |cons a r=>
  have b:HT.eE (a::r).length 0 (some 1)=1:=by
   unfold HT.eE;simp
  rw[b];simp
theorem D9{α:Type}{l m:List α}{i:Nat}(h:l.length<=i)(h':m.length<=1):(l++m).length<=i+1:=by rw[List.length_append];lia
theorem NS{x:Int}(h:row.length<=12):dG (row.map V.int++[x].map V.int) none (some 12)=(if row.length<12 then row++[x] else row).map V.int:=by
 rw[SO,<-aaD,<-List.map_take];split
 ·rw[List.take_of_length_le (by simp;lia)]
 ·rw[List.take_append_of_le_length (),List.take_of_length_le h]
abbrev kE:Stmt:=top 68
def Ea(K:W.Frag):Sp:=λvs H Q _=>JZ K vs H Q
theorem xW(D:cK K mg "_law_worked" "_law_worked" kE ["_law_machine_here","_law_state","_law_way","_law_said"])(T:Tx K mg C CN CR F FD)(mz:Def P w K mg base "_law_worth" 1 ["_law_value_here","_law_state","_law_way","_law_said","_law_modulus"] D8):Def P w K mg base "_law_worked" 2 ["_law_machine_here","_law_state","_law_way","_law_said"] (Ea K):=by
 have sc:aD ["_law_machine_here","_law_state","_law_way","_law_said","_law_numbers","_law_row","_law_sent","_law_words","_law_left","_law_deed_here","_law_worths"] ["_law_machine_here","_law_state","_law_way","_law_said"] (az kE):=by walk_at "s"
 symm;obtain⟨mt,g,lr,ld,st,k,a,M,xs,U,ns,row,rfl,Yj,WW,sF,vH,Fu,qy,hb,pK,O0,aY,q⟩:=h;have g:=hr.units;refine⟨_,(af (aU (i:=4) sc.nd rfl Sort (cL cw rfl T.dF vE (ag (aj g (aq 1) ai) aa)))
  (af (aU (i:=5) sc.nd rfl Sort (cL cw rfl T.dF vE (ag (aj g (aq 1) ai) aa)))
  (af (aU (i:=6) sc.nd rfl Sort (bA aa))
  (af (aU (i:=7) sc.nd rfl Sort (bA aa))
  (af (aU (i:=8) sc.nd rfl Sort ai)
  (af (dJ PassesOwn.never rfl (bz (aj g (aq 0) ai)) (aO (i:=9) sc.nd rfl Sort)
  (af (cJ (i:=10) sc.nd rfl Sort (N':=["_law_one","_law_way","_law_said","_law_numbers","_law_row","_law_machine_here"]) (ix:=[none,some 2,some 3,some 4,some 5,some 0]) (bz (pv 9)) (λ_ _ _ _=>(aO (i:=0) (show(["_law_one","_law_way","_law_said","_law_numbers","_law_row","_law_machine_here"]:List Str).Nodup by decide +kernel) rfl Sort)) (λ_ _ _ _=>(eW (bg (aW (vZ (K:=K) rfl) rfl T.a0 uU (ag (aq 0) (ag (cq (v:=.ty "tuple") rfl T.bP p8 rfl) aa)))))) (λ_ _ _ _=>(aH mz hr (ag (aq 0) (ag (bD (ag (aq 3) (ag (aq 4) aa))) (ag (aq 1) (ag (aq 2) (ag (cu (K:=K) rfl g (aq 5) ai) aa))))))))
  (ak (aR (aB nS (aq 8) ai (aE _)) (ak (aU (i:=8) sc.nd rfl Sort (bq fQ (aq 8) ai))) (ak (aR (aB (bb g) (aj g (aq 9) ai) aC (aE _)) (ak (de (aj g (aq 10) ai) (gR (aq 4) (aj g (aq 9) ai) dA))) (ak (aR (aB (bb g) (aj g (aq 9) ai) aC (aE _)) (ak (de (bq fg (bq cM (aj g (aq 4) (aj g (aq 9) ai)) (aj g (aq 10) ai)) (aj g (aq 0) ai)) (gR (aq 4) (aj g (aq 9) ai) dA))) (ak (aR (aB (bb g) (aj g (aq 9) ai) aC (aE _)) (ak (de (bq fg (bq mZ (aj g (aq 4) (aj g (aq 9) ai)) (aj g (aq 10) ai)) (aj g (aq 0) ai)) (gR (aq 4) (aj g (aq 9) ai) dA))) (ak (aR (aB (bb g) (aj g (aq 9) ai) aC (aE _)) (ak (aU (i:=5) sc.nd rfl Sort (nU (bq cM (aq 5) (aq 10)) fO (dU ai)))) (ak (aR (aB (bb g) (aj g (aq 9) ai) aC (aE _)) (ak (aU (i:=5) sc.nd rfl Sort (nU (aq 5) (dU ai) fO))) (ak (aR (aB (bb g) (aj g (aq 9) ai) aC (aE _)) (ak (bN (dz nM p6 p7 bS (aq 6) (ag (bD (ag (aj g (aq 9) ai) (ag (aj g (aq 10) ai) aa))) aa)))) (ak (aR (aB (bb g) (aj g (aq 9) ai) aC (aE _)) (ak (bN (dz nM p6 p7 bS (aq 7) (ag (aj g (aq 10) ai) aa)))) (ak (aR (aB eF (aj g (aq 10) ai) (aj g (aq 10) ai) (aE _)) (ak (aU (i:=8) sc.nd rfl Sort (aj g (aq 9) ai))) aJ))))))))))))))))))))
  (ak (aG (bD (ag (bD (ag (cL bV rfl T.bP p8 (ag (aq 4) aa)) (ag (cL bV rfl T.bP p8 (ag (aq 5) aa)) aa))) (ag (aq 6) (ag (aq 7) aa)))))))))))),?_⟩
 obtain⟨sa,sb,WX,rfl,WZ,g,T⟩:=vH;have LI:0<M:=by lia
 left;calc cN WZ rfl ?_;left;calc bC _ g (λB R1=>?_);have s1:=au.new (.lst (ns.map V.int)) R1;left;calc cN (s1 _ _ WZ) rfl ?_;left;have g:aM K (upd H B (.lst (ns.map V.int))) WX (row.map V.int)\/bG K (upd H B (.lst (ns.map V.int))) WX (row.map V.int):=T.elim (λz=>.inl (s1.seq z)) (λz=>.inr (s1.Uh z));calc bC _ g (λN BJ=>?_);have s2:=au.new (.lst (row.map V.int)) BJ;left;calc⟨U' _,λG qE=>?_⟩;have m:=au.new (.lst []) qE;left;calc⟨U' _,λI jZ=>?_⟩;have s4:=au.new (.lst []) jZ;left;have nra:N≠B:=λz=>by subst z;rw[ab]at BJ;cases BJ
 have hrH:H N=none:=s1.free BJ;have hsH:H G=none:=(s1.trans s2).free qE;have hwH:H I=none:=(s1.trans (s2.trans m)).free jZ;have nsa:G≠B:=λz=>by subst z;rw[s2 _ _ ab]at qE;cases qE
 have nsr:G≠N:=λz=>by subst z;rw[ab]at qE;cases qE
 have nwa:I≠B:=λz=>by subst z;rw[m _ _ (s2 _ _ ab)]at jZ;cases jZ
 have nwr:I≠N:=λz=>by subst z;rw[m _ _ ab]at jZ;cases jZ
 have nws:I≠G:=λz=>by subst z;rw[ab]at jZ;cases jZ
 have g:=s1.trans (s2.trans (m.trans s4));have exs:xs.length=U.length:=by simpa using sF.1
 refine cN (g _ _ Yj) (ay (j:=3) rfl) (.inl ⟨⟨_,aM.of (g _ _ WW)⟩,ee (K:=K) (xs:=xs) (NR H mt (.ref sa) k a M U ns row) ?_ ?_ ?_ ?_⟩)
 ·refine⟨B,N,G,I,[],none,none,0,⟨ns,row,[],[]⟩,rfl,g,R1,hrH,hsH,hwH,Ne.symm nra,Ne.symm nsa,Ne.symm nwa,Ne.symm nsr,Ne.symm nwr,Ne.symm nws,s4 _ _ (m _ _ (s2 _ _ ab)),s4 _ _ (m _ _ ab),s4 _ _ ab,⟨rfl,λi z p e=>by simp at e⟩,ab,rfl,hb,pK,E' _,E' _,JY⟩
 ·intro i σ H1 hi fW;obtain⟨B,N,G,I,zs,z9,DM,l,s,rfl,sH,_⟩:=fW;exact aM.of (sH _ _ WW)
 ·intro i x σ H1 X4 gc;nofun;obtain⟨B,N,G,I,zs,z9,DM,l,s,rfl,sH,a1,a2,a3,a4,n1,n2,n3,n4,n5,n6,L,X,O,Gg,R,LJ,LK,wb,LL,hwn,Y⟩:=gc;have wc:i < U.length:=by rw[<-exs];exact(List.getElem?_eq_some_iff.mp X4).1
  have rT:=aY U[i] (aac wc);have hx:=(sF.2 i x (bF.dv U[i]) X4 (by rw[aaB,cF wc];rfl)).aI sH.aN;have Uo:U.drop i=U[i]::U.drop (i+1):=List.drop_eq_getElem_cons wc;generalize hdd:U[i]=d at rT hx Uo;rw[Uo]at Y;obtain⟨pa,xp,os,k0,rfl,hpa,o7,SQ,j3⟩:=DB hx;ac_rfl;left;calc bo ?_;left;calc .inr ⟨⟨_,bG.of hpa⟩,λD hD=>?_⟩;have Mo:=zR (d:=d);refine aZ (J:=QG K pa) (n:=xp.length) (λi ys H'=>ys=(((os.take i).filterMap id).map (fT M k a s.ns s.row)).map V.int/\au H1 H') (J' (aA ())) ⟨rfl,au.new _ hD⟩ ?_ ?_ ?_ ?_
  ·rintro i ys H' hi ⟨_,m⟩;exact⟨_,xp[i],bG.of (m _ _ hpa),cF hi⟩
  ·rintro ys H' ⟨_,m⟩;exact⟨_,bG.of (m _ _ hpa),E' _⟩
  ·intro i ys S hi aV qm lB y H4 pJ;nofun;obtain⟨rfl,m⟩:=lB;obtain⟨rfl,g⟩:=pJ;have T:=g _ (bG.of (m _ _ hpa));obtain⟨o,ho,Jn⟩:=o7.get T;ac_rfl;have zO:os.take (i+1)=os.take i++[o]:=by
    rw[List.take_add_one,ho];rfl
   walk_at "xf";left;rcases Jn with⟨rfl,hc⟩|⟨v,rfl,hvx⟩
   ·have ety:∃t,gT K H4 y t/\W.kitOne K t (.type "tuple")=some false:=by
     rcases hc with⟨w,rfl⟩|⟨j,rfl⟩
     ·exact⟨_,.str w,rfl⟩
     ·exact⟨_,.int j,rfl⟩
    obtain⟨t,h1,h2⟩:=ety;refine cy t false h1 h2 ?_
    first|calc⟨false,rfl,?_⟩|skip
    left
    try rw[if_neg T']
    exact⟨_,aV,(),by rw[zO];simp,m⟩
   ·have Jo:=hvx.aI m.aN;obtain⟨b,LO,rfl,gx⟩:=De Jo;refine cy _ true (.tup gx) rfl ?_
    first|calc⟨true,rfl,?_⟩|skip
    left
    try first|rw[if_pos rfl]|rw[if_pos trivial]
    have y:v.ok ns.length:=pM rT v (by rw[<-SQ];calc List.mem_filterMap.mpr ⟨some v,W' ho,rfl⟩);left;calc⟨df,λT t=>?_⟩;have g:=au.new (.tup [.ref B,.ref N]) t;calc cN (g _ _ (m _ _ (sH _ _ Yj))) (ay (j:=0) rfl) ?_;calc⟨.ref b,T,B,N,k,a,M,v,s.ns,s.row,k0,rfl,Jo.aI g.aN,ab,g _ _ (m _ _ L),g _ _ (m _ _ X),by rw[LJ];calc y,LI,wb,λH5 t=>?_⟩;calc bH (t _ _ (g _ _ aV)) qm hi (J' (aA ())) ⟨?_,λc o e=>by rw[av (ao e hD)];calc t _ _ (g _ _ (m _ _ e))⟩;rw[zO,List.filterMap_append,aaD,aaD];rfl
  rintro ys S aV qm ⟨rfl,m⟩;rw[o7.len,List.take_length,SQ]at aV;have Gj:H1 D=none:=hD;nofun;generalize g:d.vals.map (fT M k a s.ns s.row)=ws at aV;have lx:ws.length=d.vals.length:=by rw[<-g];simp
  have W3:0<=ws.getD 0 0/\ws.getD 0 0<M:=by rw[<-g];exact wx LI
  have DN:k8 M k a d s=⟨kd M s.ns (ws.getD 0 0) d,pD s.row (ws.getD 0 0) d,s.cR++iF (ws.getD 0 0) d,s.words++gm (ws.getD 0 0) d⟩:=by rw[<-g];rfl
  have DO:nH M k a d s=pE (ws.getD 0 0) (ws.getD 1 0) d:=by rw[<-g];rfl
  have g:∀{b:Addr} {o:HO},H1 b=some o->b≠D:=λe=>ao e Gj;have p5:au H S:=sH.trans m;have LH:=hx.aI m.aN;have xX:=Gg.aI m.aN;have t:B≠D:=g L;have t:N≠D:=g X;have t:G≠D:=g O;have t:I≠D:=g R;have nPs:∀{b:Addr} {ys zs:List V},S b=some (.tup ys)->∀{c:Addr},S c=some (.lst zs)->b≠c:=λh1 _ h2 z=>by subst z;rw[h1]at h2;cases h2
  have adX:=p5 _ _ Yj
  replace L:=m _ _ L
  replace X:=m _ _ X
  replace O:=m _ _ O
  replace R:=m _ _ R
  ac_rfl;clear o7 SQ j3 Mo qm hx
  cases l with
  |succ l=>
   left;rw[if_pos nofun];left;calc⟨B,N,G,I,zs,some (.ref pa),some (.ref D),l,s,?_,p5,a1,a2,a3,a4,n1,n2,n3,n4,n5,n6,L,X,O,xX,R,LJ,LK,wb,(),(),Y⟩;have:((l+1:Nat):Int)-1=((l:Nat):Int):=by lia
   rw[this]
  |zero=>
  replace Y:Pt M k a (nH M k a d s).toNat (U.drop (i+1)) (k8 M k a d s)=pF M k a U ns row:=Y
  rw[DN,DO]at Y;left
  try rw[if_neg nofun]
  have g:((ns.length:Nat):Int)=s.ns.length:=by rw[LJ]
  have Z:∀H6 Pu LO n' r' sn' w' (k':Nat),uo M s.ns s.row (ws.getD 0 0) (ws.getD 1 0) d=(n',r',sn',w',((k':Nat):Int))->au H H6->H Pu=none->B≠Pu->Pu≠G->Pu≠I->H6 B=some (.lst (n'.map V.int))->H6 Pu=some (.lst (r'.map V.int))->H6 G=some (.lst LO)->SL H6 LO (s.cR++sn')->H6 I=some (.lst ((s.words++w').map V.int))->NR H mt (.ref sa) k a M U ns row (i+1) [some (.ref mt),some (.ref sa),some (.int k),some (.int a),some (.ref B),some (.ref Pu),some (.ref G),some (.ref I),some (.int ((k':Nat):Int)),some (.ref pa),some (.ref D)] H6:=by
   clear aV LH xX L X O R adX nPs;intro H6 Pu LO n' r' sn' w' k' E f0 f1 f2 f3 f4 f5 f6 f7 f8 f9;simp only[uo,Prod.mk.injEq]at E;obtain⟨rfl,rfl,rfl,rfl,E⟩:=E;rw[E,Int.toNat_natCast]at Y;have g:=zS (w:=ws.getD 0 0) (d:=d);exact⟨B,Pu,G,I,LO,_,_,k',⟨_,_,_,_⟩,rfl,f0,a1,f1,a3,a4,f2,n2,n3,f3,f4,n6,f5,f6,f7,f8,f9,qi.trans LJ,DK (d:=d) LI LK W3,Ju (d:=d) wb,D9 LL g.1,D9 hwn g.2,Y⟩
  have B1:∀r x,uo M s.ns s.row (ws.getD 0 0) (ws.getD 1 0) d=(s.ns.set r x,s.row,[],[],0)->NR H mt (.ref sa) k a M U ns row (i+1) [some (.ref mt),some (.ref sa),some (.int k),some (.int a),some (.ref B),some (.ref N),some (.ref G),some (.ref I),some (.int 0),some (.ref pa),some (.ref D)] (upd S B (.lst ((s.ns.map V.int).set r (.int x)))):=λr x E=>by
   have t6:bW S (upd S B (.lst ((s.ns.map V.int).set r (.int x)))):=(bW.refl _).upd λys e=>by rw[L]at e;cases e
   exact Z _ N zs _ _ _ _ 0 E (λb o e=>by rw[av (ao e a1)];calc p5 _ _ e) a2 n1 n4 n5 (by rw[ab,List.map_set]) (by rw[av (Ne.symm n1)];calc X) (by rw[av (Ne.symm n2)];calc O) (by rw[List.append_nil];calc xX.aI t6) (by rw[av (Ne.symm n3),List.append_nil];calc R)
  have MC:=wu LH rT;clear LH rT Y DN DO;have O1:∀r:Nat,((r:Nat):Int)<ns.length->Bl (s.ns.map V.int).length ((r:Nat):Int)=some r/\gU (s.ns.map V.int) ((r:Nat):Int)=some (.int (s.ns.getD r 0)):=λr hj=>⟨kh (by rw[aaC];lia),iN ()⟩
  cases MC with
  |set r u hj ha hl E=>
   have DH:=iN (ws:=ws) (j:=0) ();obtain⟨x1,x2⟩:=O1 r hj;walk_at "jg";refine cy _ r L x1 ?_;exact B1 _ _ (E _ _ _ _ _)
  |add r u hj ha hl E=>
   have DH:=iN (ws:=ws) (j:=0) ();obtain⟨x1,x2⟩:=O1 r hj;walk_at "jg";refine⟨LI,?_⟩;walk_at "jg";refine cy _ r L x1 ?_;exact B1 _ _ (E _ _ _ _ _)
  |times r u hj ha hl E=>
   have DH:=iN (ws:=ws) (j:=0) ();obtain⟨x1,x2⟩:=O1 r hj;walk_at "jg";have g:=DE LK (j:=r) ();refine⟨.inl ⟨(),()⟩,?_⟩;walk_at "jg";refine⟨LI,?_⟩;walk_at "jg";refine cy _ r L x1 ?_;exact B1 _ _ (E _ _ _ _ _)
  |put u ha hl E=>
   obtain⟨g,adZ⟩:=acE (lx.trans hl);walk_at "jg";refine .inl ⟨_,_,X,aV,J' (aA (by simp;lia)),λg tw=>?_⟩;have s6:=au.new (.lst (s.row.map V.int++ws.map V.int)) tw;walk_at "jg";refine .inl ⟨_,ab,λl3 AS=>?_⟩;have s7:=au.new (.lst (dG (s.row.map V.int++ws.map V.int) none (some 12))) AS;have g:=s6.trans s7;have f3:S l3=none:=s6.free AS;exact Z _ l3 zs _ _ _ _ 0 (E _ _ _ _ _) (p5.trans g) (p5.free f3) (ao L f3) (Ne.symm (ao O f3)) (Ne.symm (ao R f3)) (g _ _ L) (by rw[ab,adZ];exact congrArg (λz=>some (HO.lst z)) (NS wb)) (g _ _ O) (by rw[List.append_nil];exact xX.aI g.aN) (by rw[List.append_nil];exact g _ _ R)
  |drop ha E=>
   walk_at "jg";refine .inl ⟨_,X,λl3 AS=>?_⟩;have s7:=au.new (.lst (dG (s.row.map V.int) (some 1) none)) AS;exact Z _ l3 zs _ _ _ _ 0 (E _ _ _ _ _) (p5.trans s7) (p5.free AS) (ao L AS) (Ne.symm (ao O AS)) (Ne.symm (ao R AS)) (s7 _ _ L) (by rw[ab,Yk,List.map_tail]) (s7 _ _ O) (by rw[List.append_nil];exact xX.aI s7.aN) (by rw[List.append_nil];exact s7 _ _ R)
  |send j u ha hl E=>
   have DH:=iN (ws:=ws) (j:=0) ();walk_at "jg";refine⟨.inl ⟨rfl,_,aM.of O⟩,?_⟩;walk_at "jg";refine⟨df,λtp lg=>?_⟩;have s6:=au.new (.tup [.int j,.int (ws.getD 0 0)]) lg;walk_at "jg";refine iu _ (s6 _ _ O) (aav (by have:=Gg.1;lia) (aA (n:=100) ())) ?_;have t6:bW (upd S tp (.tup [.int j,.int (ws.getD 0 0)])) (upd (upd S tp (.tup [.int j,.int (ws.getD 0 0)])) G (.lst (zs++[.ref tp]))):=(bW.refl _).upd λys e=>by rw[s6 _ _ O]at e;cases e
   have q6:∀b o,b≠G->S b=some o->upd (upd S tp (.tup [.int j,.int (ws.getD 0 0)])) G (.lst (zs++[.ref tp])) b=some o:=λb o ne e=>by rw[av ne];exact s6 _ _ e
   calc Z _ N _ _ _ _ _ 0 (E _ _ _ _ _) (λb o e=>q6 b o (ao e a3) (p5 _ _ e)) a2 n1 n4 n5 (q6 _ _ n2 L) (q6 _ _ n4 X) ab ((xX.aI (s6.aN.trans t6)).snoc (cS (n:=0) (t6 _ _ ab) (.int _) (.int _))) (by rw[List.append_nil];calc q6 _ _ (Ne.symm n6) R)
  |say u ha hl E=>
   have DH:=iN (ws:=ws) (j:=0) ();walk_at "jg";refine⟨.inl ⟨rfl,_,aM.of R⟩,?_⟩;walk_at "jg";refine iu _ R (aav (by simp;lia) (aA (n:=100) ())) ?_;have t6:bW S (upd S I (.lst (s.words.map V.int++[.int (ws.getD 0 0)]))):=(bW.refl _).upd λys e=>by rw[R]at e;cases e
   have q6:∀b o,b≠I->S b=some o->upd S I (.lst (s.words.map V.int++[.int (ws.getD 0 0)])) b=some o:=λb o ne e=>by rw[av ne];exact e
   calc Z _ N zs _ _ _ _ 0 (E _ _ _ _ _) (λb o e=>q6 b o (ao e a4) (p5 _ _ e)) a2 n1 n4 n5 (q6 _ _ n3 L) (q6 _ _ n5 X) (q6 _ _ n6 O) (by rw[List.append_nil];calc xX.aI t6) (by rw[ab,aaD];rfl)
  |skip u v kk ha hl E=>
   have DH:=iN (ws:=ws) (j:=0) ();have g:=iN (ws:=ws) (j:=1) ();have E:=E M s.ns s.row (ws.getD 0 0) (ws.getD 1 0);walk_at "jg";by_cases NU:ws.getD 0 0<ws.getD 1 0
   ·rw[if_pos NU]at E;left;rw[if_pos (decide_eq_true NU)];walk_at "jg";exact Z _ N zs _ _ _ _ kk E p5 a2 n1 n4 n5 L X O (by rw[List.append_nil];exact xX) (by rw[List.append_nil];exact R)
   ·rw[if_neg NU]at E;left;rw[if_neg λz=>NU (of_decide_eq_true z)];walk_at "jg";exact Z _ N zs _ _ _ _ 0 E p5 a2 n1 n4 n5 L X O (by rw[List.append_nil];exact xX) (by rw[List.append_nil];exact R)
 ·intro σ H1 ui;obtain⟨B,N,G,I,zs,z9,DM,l,s,rfl,sH,a1,a2,a3,a4,n1,n2,n3,n4,n5,n6,L,X,O,Gg,R,LJ,LK,wb,LL,hwn,Y⟩:=ui;rw[exs,List.drop_length] at Y;have Y:s=pF M k a U ns row:=by rw[<-Y];cases l <;> rfl
  left;calc .inl ⟨_,aM.of L,λa g=>?_⟩;have i:=au.new (.tup (s.ns.map V.int)) g;left;calc .inl ⟨_,aM.of (i _ _ X),λl m=>?_⟩;have k:=au.new (.tup (s.row.map V.int)) m;left;calc⟨df,λo r=>?_⟩;have g:=au.new (.tup [.ref a,.ref l]) r;left;calc⟨by show 3<=sizeLine;decide,λt m=>?_⟩;have l:=au.new (.tup [.ref o,.ref G,.ref I]) m;have a:=i.trans (k.trans (g.trans l));refine q _ _ (sH.trans a) ⟨_,_,G,I,zs,rfl,ab,?_,a _ _ O,?_,?_,a3,a4,n6⟩
  ·rw[<-Y];exact(cS ab (pC (g _ _ (k _ _ ab))) (pC (g _ _ ab))).aI l.aN
  ·rw[<-Y];exact Gg.aI a.aN
  ·rw[<-Y];calc a _ _ R
def jF(H:Hp)(x:V)(M:Int)(ns row:List Int)(d:List bF):Prop:=∃t a b c xs,x=.ref t/\H t=some (.tup [.int M,.ref a,.ref b,.ref c])/\H a=some (.lst (ns.map V.int))/\H b=some (.lst (row.map V.int))/\H c=some (.lst xs)/\eN H 2 xs (d.map bF.dv)
theorem jF.cv{x:V}{M:Int}{a:List bF}(s:Cv H H')(h:jF H x M ns row a):jF H' x M ns row a:=by
 obtain⟨t,a,b,c,d,e,f,g,i,j,l⟩:=h;calc⟨t,a,b,c,d,e,s _ _ f (λk z=>by cases z),s _ _ g (λk z=>by cases z),s _ _ i (λk z=>by cases z),s _ _ j (λk z=>by cases z),l.aI s.aN⟩
def Cj(H:Hp)(mv:List V)(ic:List MD):Prop:=mv.length=ic.length/\∀(i:Nat) v d,mv[i]?=some v->ic[i]?=some d->jF H v d.M d.ns d.row d.ds
theorem Cj.cv(s:Cv H H')(h:Cj H mv ic):Cj H' mv ic:=⟨h.1,λi v d a b=>(h.2 i v d a b).cv s⟩
def ToldN(H:Hp)(x:V)(ic:List MD)(ws:List (Int×Int×Str))(ls:List (Int×Int)):Prop:=∃t a b c mv wv d,x=.ref t/\H t=some (.tup [.ref a,.ref b,.ref c])/\H a=some (.lst mv)/\H b=some (.lst wv)/\H c=some (.lst d)/\Cj H mv ic/\eN H 1 wv (ws.map ny)/\eN H 1 d (ls.map qB)
theorem ToldN.cv{x:V}(s:Cv H H')(h:ToldN H x ic ws ls):ToldN H' x ic ws ls:=by
 obtain⟨t,a,b,c,mv,wv,d,e,f,g,i,j,l,m,n⟩:=h;calc⟨t,a,b,c,mv,wv,d,e,s _ _ f (λk z=>by cases z),s _ _ g (λk z=>by cases z),s _ _ i (λk z=>by cases z),s _ _ j (λk z=>by cases z),l.cv s,m.aI s.aN,n.aI s.aN⟩
def LU(a:V)(ev:Addr)(o:Nat->Addr):List (Key×V):=[(.inr "net",a),(.inr "put",.ref (o 4)),(.inr "sender",.ref (o 5)),(.inr "worker",.ref (o 6)),(.inr "states",.ref (o 1)),(.inr "words",.ref (o 2)),(.inr "heard",.ref (o 3)),(.inr "events",.ref ev)]
section
variable {H:Hp}{d:Addr}{tn:V}{ev:Addr}{o:Nat->Addr}
theorem xY(h:H d=some (.dK (LU tn ev o))):ji H d (.str "net") (some tn):=.inl ⟨_,.inr "net",.inl h,rfl,by kernel_rfl⟩
theorem J0(h:H d=some (.dK (LU tn ev o))):ji H d (.str "put") (some (.ref (o 4))):=.inl ⟨_,.inr "put",.inl h,rfl,by kernel_rfl⟩
theorem J1(h:H d=some (.dK (LU tn ev o))):ji H d (.str "sender") (some (.ref (o 5))):=.inl ⟨_,.inr "sender",.inl h,rfl,by kernel_rfl⟩
theorem FQ(h:H d=some (.dK (LU tn ev o))):ji H d (.str "worker") (some (.ref (o 6))):=.inl ⟨_,.inr "worker",.inl h,rfl,by kernel_rfl⟩
theorem FT(h:H d=some (.dK (LU tn ev o))):ji H d (.str "states") (some (.ref (o 1))):=.inl ⟨_,.inr "states",.inl h,rfl,by kernel_rfl⟩
theorem Ym(h:H d=some (.dK (LU tn ev o))):ji H d (.str "words") (some (.ref (o 2))):=.inl ⟨_,.inr "words",.inl h,rfl,by kernel_rfl⟩
theorem NV(h:H d=some (.dK (LU tn ev o))):ji H d (.str "heard") (some (.ref (o 3))):=.inl ⟨_,.inr "heard",.inl h,rfl,by kernel_rfl⟩
theorem Am(h:H d=some (.dK (LU tn ev o))):ji H d (.str "events") (some (.ref ev)):=.inl ⟨_,.inr "events",.inl h,rfl,by kernel_rfl⟩
end
def _root_.DD.RS.tv(r:RS):Nat->Nat->CO
 |0,_=>.l (r.picks.map pairD)
 |1,m=>.l ((r.mm m).dQ.map tY)
 |2,m=>.l ((r.mm m).wp.map λw=>.lst (w.map .int))
 |3,m=>.l ((r.mm m).hr.map λw=>.lst (w.map .int))
 |4,w=>.l ((r.ww w).say.map .int)
 |5,w=>.l ((r.ww w).snd.map nI)
 |_,w=>.d (i5 (r.ww w).cD) ((r.ww w).cD.countP Option.isSome)
theorem count_set{e:Int×Int}:∀{l:List (Option (Int×Int))}{k:Nat},l[k]?=some none->(l.set k (some e)).countP Option.isSome=l.countP Option.isSome+1
 | [],k,h=>by simp at h
 |a::r,0,h=>by simp at h;subst h;simp
 |a::r,k+1,h=>by
  have b:=count_set (e:=e) (l:=r) (k:=k) (by simpa using h);simp only[List.set_cons_succ,List.countP_cons];rw[b];lia
theorem J2{l:List (Option (Int×Int))}{k:Nat}(h:k<l.length)(j:Int):i5 (l.set k (some e)) j=if j=((k:Nat):Int) then some (pairD e) else i5 l j:=by
 unfold i5;by_cases a:0<=j
 ·rw[if_pos a,if_pos a];by_cases z:j=((k:Nat):Int)
  ·subst z;rw[if_pos rfl,Int.toNat_natCast,aaE,List.getElem?_set];simp[h]
  ·rw[if_neg z,aaE,List.getElem?_set,if_neg (),<-aaE]
 ·rw[if_neg a,if_neg a,if_neg ()]
theorem FU{l:List (Option (Int×Int))}:i5 (l++[none])=i5 l:=by
 funext j;unfold i5;split
 ·congr 1;rw[aaE,aaE,List.getElem?_append];split
  ·rfl
  ·next z=>
   rw[List.getElem?_eq_none (l:=l) ()]
   cases a:j.toNat-l.length with
   |zero=>rfl
   |succ n=>rfl
 ·rfl
structure bT(F:Addr->Prop)(H:Hp)(d:Addr)(tn:V)(nt:NT)(r:RS)(ad:Nat->Nat->Addr):Prop where
 dk:∃o,H d=some (.dK (LU tn (ad 0 0) o))/\¬F d/\¬FP nt.n ad d/\∀t,1<=t->t<=6->H (o t)=some (.lst (ki nt.n ad t))/\¬F (o t)/\¬FP nt.n ad (o t)
 cA:eA F H nt.n ad r.tv
 told:∃ls,ToldN (jY (λb=>F b\/FP nt.n ad b) H) tn nt.ms nt.ws ls
 ok:nt.Ok
section
variable {F:Addr->Prop}{H H':Hp}{d:Addr}{tn:V}{nt:NT}{r:RS}{ad:Nat->Nat->Addr}
theorem bT.keep(h:bT F H d tn nt r ad)(f:Fr F H H'):bT F H' d tn nt r ad:=by
 obtain⟨⟨o,g,e,i,c⟩,j,⟨ls,k⟩,l⟩:=h;calc⟨⟨o,f.at g e,e,i,λt a b=>⟨f.at (c t a b).1 (c t a b).2.1,(c t a b).2⟩⟩,j.keep f,⟨ls,k.cv (f.mono λb z=>.inl z).jY⟩,l⟩
theorem bT.same(h:bT F H d tn nt r ad)(s:au H H'):bT F H' d tn nt r ad:=h.keep s.fr
theorem bT.own(h:bT F H d tn nt r ad)(f:Fr (FP nt.n ad) H H')(b:eA F H' nt.n ad r'.tv):bT F H' d tn nt r' ad:=by
 obtain⟨⟨o,g,i,e,c⟩,l,⟨ls,j⟩,k⟩:=h;calc⟨⟨o,f.at g e,i,e,λt a b=>⟨f.at (c t a b).1 (c t a b).2.2,(c t a b).2⟩⟩,b,⟨ls,j.cv (f.mono λb z=>.inr z).jY⟩,k⟩
end
theorem FV{l:List (Option (Int×Int))}{k:Nat}:(i5 l ((k:Nat):Int)).isSome= !(l.getD k none).isNone:=by
 unfold i5;rw[if_pos (),Int.toNat_natCast]
 cases l.getD k none<;>rfl
theorem FW{H0 H:Hp}{a:Addr}{b:List (Key×V)}{g:Int->Option DV}{N:Nat}(e:H a=some (.dK b))(h:OR H0 (.d g N) (.dK b))(k:Int):∃o,ji H a (.int k) o/\o.isSome=(g k).isSome:=by
 calc bC _ (ji.k (k:=Sum.inl k) e) ?_;have:=h.2 k;revert this
 cases g k with
 |none=>intro h;rw[h];rfl
 |some d=>intro⟨v,h,_⟩;rw[h];rfl
abbrev mB:Stmt:=top 70
def J3:Sp:=λvs H Q _=>∃(F:Addr->Prop) (d:Addr) (a:V) (nt:NT) (r:RS) (ad:Nat->Nat->Addr) (m:Nat),vs=[.ref d,.int m]/\bT F H d a nt r ad/\r.Ok nt/\r.picks.length<=400/\m<nt.ws.length/\∀l H',au H H'->H l=none->H' l=some (.lst ((r.LQ m).map λk=>.int (k:Nat)))->Q (.ref l) H'
theorem An(D:cK K mg "_law_lying" "_law_lying" mB ["_law_run","_law_way"])(T:Tx K mg C CN CR F FD):Def P w K mg base "_law_lying" 1 ["_law_run","_law_way"] J3:=by
 have sc:aD ["_law_run","_law_way"] ["_law_run","_law_way"] (az mB):=by walk_at "s"
 symm;obtain⟨F,d,g,B,r,ad,m,rfl,j,k,G,b,q⟩:=h;have g:=hr.units;have B:=Ui g;calc⟨_,(ak (aG (cI (N':=["_law_k","_law_way","_law_run"]) (ix:=[none,some 1,some 0]) (cZ rfl T.dX (ag (aW aP rfl T.bR L' (ag (aj g (aj g (aq 0) aC) (aq 1)) aa)) aa)) (λ_ _ _ _=>(aO (i:=0) (show(["_law_k","_law_way","_law_run"]:List Str).Nodup by decide +kernel) rfl Sort)) (λ_ _ _ _=>(eW (Qu (ES B (aq 0) (cu (K:=K) rfl g (cu (K:=K) rfl g (aq 2) aC) (aq 1)))))) (λ_ _ _ _=>(aq 0))))),?_⟩;nofun;obtain⟨o,v,B,G,g⟩:=j.dk;have B:=(g 4 ∅ ∅).1;have I:=(g 6 ∅ ∅).1;obtain⟨G,L,M⟩:=j.cA.lst (t:=4) (i:=m) b rfl;obtain⟨g,N,O⟩:=j.cA.dct (t:=6) (i:=m) b rfl;ac_rfl;have g:G.length=(r.ww m).say.length:=by simpa using M.1
 have j:=k.bs m b;left;calc bo ?_;left;calc bC _ (J0 v) ?_;left;calc bu B (bc b) ?_;calc bC _ (.inl ⟨_,aM.of L,rfl⟩) ?_;left;rw[g];calc gN () () (λD p=>?_);rw[Int.toNat_natCast];refine aZ (J:=Cy 0 (r.ww m).say.length) (n:=(r.ww m).say.length) (λi ys H'=>au H H'/\ys=((List.range i).filter λk=>((r.ww m).cD.getD k none).isNone).map λk=>V.int (k:Nat)) (J' (small ())) ⟨au.new _ p,rfl⟩ (λi ys H' u _=>u) (λys H' _=>E' _) ?_ ?_
 ·intro i ys H' u l y R x H2 S;nofun;obtain⟨a,rfl⟩:=R;obtain⟨rfl,rfl⟩:=S;ac_rfl;walk_at "xf";left;refine bC _ (FQ (a _ _ v)) ?_;left;refine bu (a _ _ I) (bc b) ?_;rw[Int.zero_add];obtain⟨g,j,k⟩:=FW (a _ _ N) O ((i:Nat):Int);refine⟨ad 6 m,g,rfl,j,?_⟩;rw[k,FV,Bool.not_not];left;by_cases z:((r.ww m).cD.getD i none).isNone=true
  ·rw[z]
   try rw[if_pos rfl]
   calc bH l y u (J' (small ())) ⟨λc o e=>by rw[av (ao e p)];calc a _ _ e,?_⟩;rw[jc,if_pos z,aaD];rfl
  ·rw[Bool.not_eq_true] at z;rw[z]
   try rw[if_neg ∅]
   exact⟨_,l,(),a,by rw[jc,if_neg (by rw[z];decide),List.append_nil]⟩
 ·rintro ys H' l y ⟨a,rfl⟩;calc q _ _ a p l
def jh(nt:NT)(r:RS)(w:Nat):List Nat:=if (nt.w w).2.2="row" then(r.LQ w).take 1 else r.LQ w
def lj(nt:NT)(r:RS)(n:Nat):List (Nat×Nat):=(List.range n).flatMap λw=>(jh nt r w).map λk=>(w,k)
theorem uE{nt:NT}{n:Nat}:lj nt r (n+1)=lj nt r n++(jh nt r n).map λk=>(n,k):=by
 unfold lj;rw[List.range_succ,List.flatMap_append];simp
theorem eN.app{n:Nat}{vs us:List V}{c:List DV}(h:eN H n vs c)(g:eN H n us es):eN H n (vs++us) (c++es):=by
 calc⟨by simp[h.1,g.1],λi v d a b=>?_⟩;by_cases c:i<vs.length
 ·rw[aaH c]at a;rw[aaH (by rw[<-h.1];calc c)]at b;exact h.2 i _ _ a b
 ·rw[aaG ()]at a;rw[aaG (by rw[<-h.1];lia),<-h.1]at b;calc g.2 _ _ _ a b
theorem xZ{w:Nat}:(r.LQ w).length<=(r.ww w).say.length:=by
 unfold RS.LQ;calc aaa (List.length_filter_le _ _) nofun
theorem wF{nt:NT}{w:Nat}:(jh nt r w).length<=(r.ww w).say.length:=by
 unfold jh;split
 ·rw[List.length_take];have:=xZ (r:=r) (w:=w);lia
 ·calc xZ
theorem wG{nt:NT}{r:RS}{B:Nat}:∀n,(∀w,w<n->(r.ww w).say.length<=B)->(lj nt r n).length<=n*B
 |0,_=>by simp[lj]
 |n+1,h=>by
  rw[uE,List.length_append,aaC];have a:=wG (nt:=nt) n (λw a=>h w ());have a:=h n ();have a:=wF (nt:=nt) (r:=r) (w:=n);rw[Nat.succ_mul];lia
def pkD(p:Nat×Nat):DV:=pairD (((p.1:Nat):Int),((p.2:Nat):Int))
theorem FX{r:RS}{w k:Nat}(h:k∈(r.LQ w).take 1):∀j,j<k->((r.ww w).cD.getD j none).isNone=false:=by
 unfold RS.LQ at h;generalize b:(List.range (r.ww w).say.length).filter (λk=>((r.ww w).cD.getD k none).isNone)=l at h
 cases l with
 |nil=>simp at h
 |cons a t=>
  simp at h;subst h;intro j g;have f:(List.range (r.ww w).say.length).Pairwise (· < ·):=List.pairwise_lt_range;have c:=f.filter (λk=>((r.ww w).cD.getD k none).isNone);rw[b]at c;have f:k∈(List.range (r.ww w).say.length).filter (λk=>((r.ww w).cD.getD k none).isNone):=by rw[b];simp
  rw[List.mem_filter,List.mem_range]at f
  cases z:((r.ww w).cD.getD j none).isNone with
  |false=>rfl
  |true=>
   exfalso;have d:j∈(List.range (r.ww w).say.length).filter (λk=>((r.ww w).cD.getD k none).isNone):=by
    rw[List.mem_filter,List.mem_range];exact⟨(),z⟩
   rw[b]at d;rcases List.mem_cons.mp d with e|e
   ·lia
   ·have:=(List.pairwise_cons.mp c).1 j e;lia
theorem J5{nt:NT}(h:r.Ok nt){w k:Nat}(c:(w,k)∈lj nt r nt.ws.length):r.Nx nt w k:=by
 unfold lj at c;rw[List.mem_flatMap]at c;obtain⟨j,a,c⟩:=c;rw[List.mem_range]at a;rw[List.mem_map]at c;obtain⟨j,b,e⟩:=c
 cases e;have f:k∈r.LQ w:=by
  unfold jh at b;split at b
  ·exact List.mem_of_mem_take b
  ·exact b
 have g:k<(r.ww w).say.length/\((r.ww w).cD.getD k none).isNone=true:=by
  unfold RS.LQ at f;rw[List.mem_filter,List.mem_range]at f;exact f
 have c:=h.lk w a;refine⟨a,?_,λi c=>?_⟩
 ·rw[aS (d:=none) ()]
  cases z:(r.ww w).cD.getD k none with
  |none=>rfl
  |some e=>rw[z]at g;simp at g
 ·unfold jh at b;rw[if_pos i] at b;have:=FX b (k - 1) ();rw[aS (d:=none) (show k - 1 < (r.ww w).cD.length by lia)]
  cases z:(r.ww w).cD.getD (k-1) none with
  |none=>rw[z]at this;simp at this
  |some e=>calc⟨e,rfl⟩
theorem SR{xs:List V}:dG xs none (some 1)=xs.take 1:=by
 unfold dG;have b:HT.eE xs.length 0 none=0:=rfl;rw[b]
 cases xs with
 |nil=>simp
 |cons a r=>
  have b:HT.eE (a::r).length (a::r).length (some 1)=1:=by
   unfold HT.eE;simp
  rw[b];simp
abbrev oC:Stmt:=top 71
def J6:Sp:=λvs H Q _=>∃(F:Addr->Prop) (d:Addr) (a:V) (nt:NT) (r:RS) (ad:Nat->Nat->Addr),vs=[.ref d]/\bT F H d a nt r ad/\r.Ok nt/\r.picks.length<=400/\∀l ys H',au H H'->H l=none->H' l=some (.lst ys)->eN H' 1 ys ((lj nt r nt.ws.length).map pkD)->Q (.ref l) H'
theorem Ck(D:cK K mg "_law_free" "_law_free" oC ["_law_run"])(T:Tx K mg C CN CR F FD)(mC:Def P w K mg base "_law_lying" 1 ["_law_run","_law_way"] J3):Def P w K mg base "_law_free" 2 ["_law_run"] J6:=by
 have sc:aD ["_law_run","_law_free_here","_law_way","_law_told","_law_numbers"] ["_law_run"] (az oC):=by walk_at "s"
 symm;obtain⟨F,d,tn,a,r,ad,rfl,G,Z,j3,q⟩:=h;have R:=hr.units;refine⟨_,(af (aU (i:=1) sc.nd rfl Sort (bA aa))
  (af (dJ PassesOwn.never rfl (ik rfl T.cW (ag (aj R (aj R (aq 0) aC) ai) aa)) (dW (i:=2) (j:=3) rfl sc.nd rfl rfl Sort Sort)
  (af (aU (i:=4) sc.nd rfl Sort (aH mC hr (ag (aq 0) (ag (aq 2) aa))))
  (af (aR (aB (bb R) (aj R (aq 3) ai) aC (aE _)) (ak (aU (i:=4) sc.nd rfl Sort (nU (aq 4) fO (dU ai)))) aJ)
  (ak (aU (i:=1) sc.nd rfl Sort (bq cM (aq 1) (cI (N':=["_law_number","_law_way"]) (ix:=[none,some 2]) (bz (pv 4)) (λ_ _ _ _=>(aO (i:=0) (show(["_law_number","_law_way"]:List Str).Nodup by decide +kernel) rfl Sort)) ko (λ_ _ _ _=>(bD (ag (aq 1) (ag (aq 0) aa)))))))))))
  (ak (aG (aq 1))))),?_⟩
 nofun;obtain⟨o,hd,nF,nP,ho⟩:=G.dk;obtain⟨ls,t,am,aw,al,mv,wv,lv,rfl,h1,h2,h3,h4,h5,S,h7⟩:=G.told;have g1:=(ei h1 (λk z=>by cases z)).2;have g3:=(ei h3 (λk z=>by cases z)).2
 replace S:=S.aI dE.aN
 ac_rfl;have lx:wv.length=a.ws.length:=by simpa using S.1
 have rS:wv.length<=10:=by rw[lx];exact G.ok.Fb
 have hB:∀w,w<a.ws.length->(r.ww w).say.length<=9620:=λw hw=>by have:=Z.bs w hw;lia
 left;calc⟨U' _,λU R4=>?_⟩;have W:=au.new (.lst []) R4;have el0:upd H U (.lst []) U=some (.lst []):=ab;generalize hG0:upd H U (.lst [])=G0 at *;left;refine xY (W _ _ hd) |> λh=>⟨_,h,?_⟩
 refine cN (W _ _ g1) (ay (j:=1) rfl) ⟨true,wv,Sq.l (W _ _ g3),pw (xs:=wv) (λi σ H'=>∃z2 z3 z4 v ys,σ=[some (V.ref d),some (V.ref v),z2,z3,z4]/\au H H'/\H v=none/\H' v=some (.lst ys)/\eN H' 1 ys ((lj a r i).map pkD)) ?_ ?_ ?_ ?_⟩
 ·exact⟨_,_,_,U,[],rfl,W,R4,el0,show eN _ 1 [] [] from eN.nil⟩
 ·intro i σ H' lB;obtain⟨_,_,_,_,_,_,b,_⟩:=lB;exact Sq.l (b _ _ g3)
 ·intro i x σ H' tt hx pJ Yl;nofun;obtain⟨z2,z3,z4,v,ys,rfl,b,I,SU,L⟩:=pJ;have LG:i < a.ws.length:=by rw[<-lx];exact(List.getElem?_eq_some_iff.mp hx).1
  have s2:=au.new (.tup [.int (i:Nat),x]) Yl;have ett:upd H' tt (.tup [.int (i:Nat),x]) tt=some (.tup [.int (i:Nat),x]):=ab;have AQ:=(S.2 i x (ny (a.w i)) hx (by rw[aaB,show a.ws[i]?=some (a.w i) from aS LG];rfl)).aI (b.trans s2).aN;generalize Jh:upd H' tt (.tup [.int (i:Nat),x])=G2 at *;obtain⟨ta,u1,u2,u3,kk,rfl,rV,y1,y2,y3⟩:=bU AQ;obtain rfl:=y1.ck;obtain rfl:=y2.ck;obtain rfl:=y3.cT;ac_rfl;calc uS (bG.of ett) ?_;left;calc⟨F,d,_,a,r,ad,i,rfl,(G.same b).same s2,Z,j3,LG,λln H3 s3 fln p=>?_⟩;have ju:au H' H3:=s2.trans s3;have hly:=xZ (r:=r) (w:=i);have hfw:=wF (nt:=a) (r:=r) (w:=i);have hBi:=hB i LG;left;calc cN (s3 _ _ rV) (ay (j:=2) rfl) ?_;left;rename_i N1 hN1 T1 U1 W5 hU1;have g:∀M y,au H' M->M y=some (.lst ((jh a r i).map λk=>V.int ((k:Nat):Int)))->N1 [some (V.ref d),some (V.ref v),some (V.int ((i:Nat):Int)),some (V.ref ta),some (V.ref y)] M:=by
   intro M y wA p;clear W5 hU1;left;calc bo ?_;left;calc .inl ⟨⟨_,aM.of p⟩,λD hD=>?_⟩;refine aZ (J:=rD K y) (n:=(jh a r i).length) (λj u H'=>au M H'/\eN H' 1 u (((jh a r i).take j).map λk=>pkD (i,k))) (J' (small ())) ⟨au.new _ hD,show eN _ 1 [] [] from eN.nil⟩ ?_ ?_ ?_ ?_
   ·rintro j u H' N ⟨m,_⟩;exact⟨_,_,aM.of (m _ _ p),by rw[aaB,cF N];rfl⟩
   ·rintro u H' ⟨m,_⟩;exact⟨_,aM.of (m _ _ p),nofun⟩
   ·intro j u H' N SW k9 FK xx H4 JU;nofun;obtain⟨m,O⟩:=FK;obtain⟨rfl,hy⟩:=JU;have ex:=hy _ (aM.of (m _ _ p));rw[aaB,cF N] at ex;obtain rfl:=Option.some.inj ex;ac_rfl;walk_at "xf";left
    try rw[if_pos trivial]
    calc⟨df,λt2 sE=>?_⟩;have s6:=au.new (.tup [.int ((i:Nat):Int),.int (((jh a r i)[j]:Nat):Int)]) sE;have FY:=s6 _ _ SW;calc bH FY k9 N (J' (small ())) ⟨λc o e=>by rw[av (ao e hD)];calc s6 _ _ (m _ _ e),?_⟩;have tu:bW (upd H4 t2 (.tup [.int ((i:Nat):Int),.int (((jh a r i)[j]:Nat):Int)])) (upd (upd H4 t2 (.tup [.int ((i:Nat):Int),.int (((jh a r i)[j]:Nat):Int)])) D (.lst (u++[.ref t2]))):=(bW.refl _).upd λzs e=>by rw[FY]at e;cases e
    rw[List.take_succ,cF N,aaD];exact((O.aI s6.aN).snoc (cS (n:=0) ab (.int _) (.int _))).aI tu
   rintro u H6 SW k9 ⟨m,O⟩;rw[List.take_length]at O;have X:au H' H6:=wA.trans m;left;refine .inl ⟨_,_,X _ _ SU,SW,?_,λlf' Yo=>?_⟩
   ·have a1:=L.1;have a2:=O.1;have a3:=wG (nt:=a) (r:=r) (B:=9620) i (λw hw=>hB w ());simp at a1 a2;rw[sizeLine_eq];have a5:i<=9:=by lia
    have a4:i*9620<=9*9620:=Nat.mul_le_mul_right _ a5;lia
   have s7:=au.new (.lst (ys++u)) Yo;left;calc acd _ _ _ lf' _ ⟨rfl,rfl,rfl,rfl⟩ (b.trans (X.trans s7)) ((b.trans X).free Yo) ab ?_;rw[uE,aaD];calc((L.aI X.aN).app ?_).aI s7.aN;rw[List.map_map];exact O
  by_cases Y:(a.w i).2.2="row"
  ·rw[if_pos (by simp[Y])];left;calc .inl ⟨_,p,λy tw=>?_⟩;rw[SR];have s4:=au.new (.lst (((r.LQ i).map λk=>V.int ((k:Nat):Int)).take 1)) tw;exact g _ y (ju.trans s4) (by unfold jh;rw[ab,if_pos Y,List.map_take])
  ·rw[if_neg (by simp[Y])];calc L2.aX (by assumption) ?_;exact g _ ln ju (by unfold jh;rw[if_neg Y];calc p)
 ·intro σ H' NQ;obtain⟨z2,z3,z4,v,ys,rfl,b,I,SU,L⟩:=NQ;rw[lx]at L;left;calc q _ _ _ b I SU L
def NW(H H':Hp):Prop:=∀b o,H b=some o->(∀k,o≠.own k)->H' b=some o
theorem NW.aN(h:NW H H'):bW H H':=λb a e=>h b _ e (λk z=>by cases z)
theorem _root_.L2.au.LV(s:au H H'):NW H H':=λb o e _=>s b o e
theorem jF.LV{x:V}{M:Int}{a:List bF}(s:NW H H')(h:jF H x M ns row a):jF H' x M ns row a:=by
 obtain⟨t,a,b,c,d,e,f,g,i,j,l⟩:=h;calc⟨t,a,b,c,d,e,s _ _ f (λk z=>by cases z),s _ _ g (λk z=>by cases z),s _ _ i (λk z=>by cases z),s _ _ j (λk z=>by cases z),l.aI s.aN⟩
theorem Cj.LV(s:NW H H')(h:Cj H mv ic):Cj H' mv ic:=⟨h.1,λi v d a b=>(h.2 i v d a b).LV s⟩
theorem Cj.nil:Cj H [] []:=⟨rfl,λi v d a=>by simp at a⟩
theorem Cj.snoc{v:V}{d:MD}(h:Cj H mv ic)(g:jF H v d.M d.ns d.row d.ds):Cj H (mv++[v]) (ic++[d]):=by
 calc⟨by simp[h.1],λi y e a b=>?_⟩;by_cases c:i<mv.length
 ·rw[aaH c]at a;rw[aaH (by rw[<-h.1];calc c)]at b;exact h.2 i _ _ a b
 ·rw[aaG ()] at a;rw[aaG (by rw[<-h.1];lia),<-h.1] at b
  cases f:i-mv.length with
  |zero=>rw[f]at a b;cases a;cases b;calc g
  |succ k=>rw[f]at a;simp at a
def mask(a b c:Addr)(H:Hp):Hp:=λx=>if x=a\/x=b\/x=c then some (.own 0) else H x
theorem pR{c x:Addr}(d:x≠a)(e:x≠b)(f:x≠c):mask a b c H x=H x:=by unfold mask;rw[if_neg (by simp[d,e,f])]
theorem wH{c x:Addr}{o:HO}(h:mask a b c H x=some o)(d:∀k,o≠.own k):x≠a/\x≠b/\x≠c/\H x=some o:=by
 unfold mask at h;split at h
 ·cases h;exact absurd rfl (d 0)
 ·rename_i hn;simp only[not_or]at hn;calc⟨hn.1,hn.2.1,hn.2.2,h⟩
theorem J7{c:Addr}:NW (mask a b c H) H:=λx o e n=>(wH e n).2.2.2
theorem Ao{c:Addr}(h:∀x o,x≠a->x≠b->x≠c->H x=some o->H' x=some o):NW (mask a b c H) (mask a b c H'):=λx o e n=>by
 obtain⟨d,f,g,i⟩:=wH e n;rw[pR d f g];calc h x o d f g i
theorem FZ{c t d f g:Addr}{xs:List V}{M:Int}{n:List bF}(p:H t=some (.tup [.int M,.ref d,.ref f,.ref g]))(q:H d=some (.lst (ns.map V.int)))(r:H f=some (.lst (row.map V.int)))(s:H g=some (.lst xs))(u:eN H 2 xs (n.map bF.dv))
  (h:∃ys,H a=some (.lst ys)) (i:∃ys,H b=some (.lst ys)) (j:∃ys,H c=some (.lst ys)) (k:d≠a/\d≠b/\d≠c) (l:f≠a/\f≠b/\f≠c) (m:g≠a/\g≠b/\g≠c):jF (mask a b c H) (.ref t) M ns row n:=by
 obtain⟨n,h⟩:=h;obtain⟨n,i⟩:=i;obtain⟨n,j⟩:=j;have o:bW H (mask a b c H):=λx ys e=>by
  rw[pR (λz=>by rw[z,h]at e;cases e) (λz=>by rw[z,i]at e;cases e) (λz=>by rw[z,j]at e;cases e)];exact e
 calc⟨t,d,f,g,xs,rfl,o _ _ p,by rw[pR k.1 k.2.1 k.2.2];calc q,by rw[pR l.1 l.2.1 l.2.2];calc r,by rw[pR m.1 m.2.1 m.2.2];calc s,u.aI o⟩
structure Ec(ic:List MD)(ws:List (Int×Int×Str))(ls:List (Int×Int)):Prop where
 m1:1<=ic.length
 m5:ic.length<=5
 Hr:ws.length<=10
 Pw:ls.length<=20
 mg:∀d∈ic,d.good
 wo:∀w∈ws,wj ic.length w
 lo:∀l∈ls,wm ws.length l
theorem Ec.nt(h:Ec ic ws ls):(NT.mk ic ws).Ok:=⟨h.m5,h.m1,h.Hr,h.mg,h.wo⟩
abbrev qN:Stmt:=top 66
def Ed(K:W.Frag):Sp:=λvs H Q _=>∃(a:Addr) (ns:List Int),vs=[.ref a]/\aM K H a (ns.map V.int)/\ns.length<=63/\∀t b c d mv wv e ic ws ls H',au H H'->H' t=some (.tup [.ref b,.ref c,.ref d])->H' b=some (.lst mv)->H' c=some (.lst wv)->H' d=some (.lst e)->Cj H' mv ic->eN H' 1 wv (ws.map ny)->eN H' 1 e (ls.map qB)->Ec ic ws ls->Q (.ref t) H'
theorem F0(D:cK K mg "_law_net" "_law_net" qN ["_law_script"])(T:Tx K mg C CN CR F FD)(x:Def P w K mg base "_law_at" 1 ["_law_script","_law_k"] (Jc K))(v:Def P w K mg base "_law_digit" 1 ["_law_pot_here","_law_many"] iI)(jG:Def P w K mg base "_law_machine" 4 ["_law_pot_here"] Ak)(M:Def P w K mg base "_law_pot" 1 ["_law_cell"] BQ):Def P w K mg base "_law_net" 5 ["_law_script"] (Ed K):=by
 have sc:aD ["_law_script","_law_many","_law_machines","_law_pot_here","_law_ways","_law_k","_law_letters","_law_said"] ["_law_script"] (az qN):=by walk_at "s"
 symm;obtain⟨a,ns,rfl,hS,h63,q⟩:=h;have hu:=hr.units;refine⟨_,(af (aU (i:=1) sc.nd rfl Sort (bq cM ai (bq fg (aH x hr (ag (aq 0) (ag ai aa))) ai)))
  (af (cJ (i:=2) sc.nd rfl Sort (N':=["_law_k","_law_script"]) (ix:=[none,some 0]) (cZ rfl T.dX (ag (aq 1) aa)) (λ_ _ _ _=>(aO (i:=0) (show(["_law_k","_law_script"]:List Str).Nodup by decide +kernel) rfl Sort)) ko (λ_ _ _ _=>(aH jG hr (ag (aH M hr (ag (aH x hr (ag (aq 1) (ag (bq cM ai (aq 0)) aa))) aa)) aa))))
  (af (aU (i:=3) sc.nd rfl Sort (aH M hr (ag (aH x hr (ag (aq 0) (ag ai aa))) aa)))
  (af (aU (i:=4) sc.nd rfl Sort (bA aa))
  (af (dJ PassesOwn.never rfl (cZ rfl T.dX (ag (aH v hr (ag (aq 3) (ag ai aa))) aa)) (aO (i:=5) sc.nd rfl Sort)
  (ak (bN (dz nM p6 p7 bS (aq 4) (ag (bD (ag (aH v hr (ag (aq 3) (ag (aq 1) aa))) (ag (aH v hr (ag (aq 3) (ag (aq 1) aa))) (ag (aj hu (bA (ag aC (ag aC aa))) (aH v hr (ag (aq 3) (ag ai aa)))) aa)))) aa)))))
  (af (aU (i:=3) sc.nd rfl Sort (aH M hr (ag (aH x hr (ag (aq 0) (ag ai aa))) aa)))
  (af (aU (i:=6) sc.nd rfl Sort (bA aa))
  (af (dJ PassesOwn.never rfl (cZ rfl T.dX (ag (aH v hr (ag (aq 3) (ag ai aa))) aa)) (aO (i:=5) sc.nd rfl Sort)
  (ak (aR (aB (eX hu) (aq 4) (bA aa) (aE _)) (af (aU (i:=7) sc.nd rfl Sort (aj hu (bA (ag (aH v hr (ag (aq 3) (ag ai aa))) (ag (aH v hr (ag (aq 3) (ag (bq sC ai ai) aa))) aa))) (aH v hr (ag (aq 3) (ag ai aa)))))
  (ak (bN (dz nM p6 p7 bS (aq 6) (ag (bD (ag (aH v hr (ag (aq 3) (ag (aW aP rfl T.bR L' (ag (aq 4) aa)) aa))) (ag (aq 7) aa))) aa))))) aJ)))
  (ak (aG (bD (ag (aq 2) (ag (aq 4) (ag (aq 6) aa)))))))))))))),?_⟩
 left;calc⟨a,ns,_,rfl,hS,(),λg=>⟨(by decide:(0:Int)<5),?_⟩⟩;have v:=aax g (b:=5) ∅;have v:=aan g (b:=5) ∅;left;calc bo ?_;left;calc gN () () (λD hD=>?_);refine aZ (J:=Cy 0 (1+g%5).toNat) (n:=(1+g%5).toNat) (λi ys H'=>au H H'/\∃ic,ic.length=i/\Cj (mask D D D H') ys ic/\∀d∈ic,d.good) (J' (aA ())) ⟨au.new _ hD,[],rfl,Cj.nil,λd hd=>by simp at hd⟩ (λi ys H' hi _=>hi) (λys H' _=>E' _) ?_ ?_
 ·intro i ys H1 hi aV hl fW x H2 gc;nofun;obtain⟨s1,ic,oT,hM,O⟩:=fW;obtain⟨rfl,rfl⟩:=gc;ac_rfl;walk_at "xf";left;rw[if_pos trivial];refine⟨a,ns,_,rfl,s1.seq hS,(),λv=>⟨v,rfl,λp UW R sy=>⟨p,rfl,⟨_,ab,sy⟩,λt v x ld xs M mns row ds T st h1 h2 h3 h4 h5 f1 f2 f3 hg=>?_⟩⟩⟩;have q3:∀b o,H2 b=some o->T b=some o:=λb o e=>st.rest b o ((au.new _ R) _ _ e) (ao e R);have v:=q3 _ _ aV;have p1:=(au.new (.lst (UW.map V.int)) R) _ _ aV;have x:∀{b:Addr},upd H2 p (.lst (UW.map V.int)) b=none->b≠D:=λf=>Ne.symm (ao p1 f);refine bH v hl hi (J' (aA ())) ⟨λb o e=>by rw[av (ao e hD)];exact q3 _ _ (s1 _ _ e),ic++[⟨M,mns,row,ds⟩],by simp[oT],?_,λd hd=>?_⟩
  ·have c4:NW (mask D D D H2) (mask D D D (upd T D (.lst (ys++[.ref t])))):=Ao λb o M b2 b3 e=>by rw[av M];exact q3 _ _ e
   have c5:NW (mask D D D T) (mask D D D (upd T D (.lst (ys++[.ref t])))):=Ao λb o M b2 b3 e=>by rw[av M];exact e
   exact(hM.LV c4).snoc (jF.LV c5 (FZ h1 h2 h3 h4 h5 ⟨_,v⟩ ⟨_,v⟩ ⟨_,v⟩ ⟨x f1,x f1,x f1⟩ ⟨x f2,x f2,x f2⟩ ⟨x f3,x f3,x f3⟩))
  ·rcases List.mem_append.mp hd with hd | hd
   ·exact O d hd
   ·simp only[List.mem_singleton]at hd;subst hd;exact hg
 intro mv H1 UX hl v;nofun;obtain⟨s1,ic,oT,hM0,O⟩:=v;have hM:=hM0.LV J7;generalize hDa:D=am at *;ac_rfl;left;calc⟨a,ns,_,rfl,s1.seq hS,(),λv=>⟨v,rfl,λp UW R sy=>?_⟩⟩;have s2:=au.new (.lst (UW.map V.int)) R;have AL:ff (upd H1 p (.lst (UW.map V.int))) p:=⟨_,ab,sy⟩
 generalize Jh:upd H1 p (.lst (UW.map V.int))=G2 at *;left;calc⟨U' _,λr v=>?_⟩;have s3:=au.new (.lst []) v;have WR:r≠p:=Step.ne AL v;have hp3:=AL.same s3;have eaw:upd G2 r (.lst []) r=some (.lst []):=ab;have faw:H1 r=none:=s2.free v;have ju:=s2.trans s3;generalize hG3:upd G2 r (.lst [])=G3 at *;left;calc lT p 11 rfl hp3 ∅ ⋯ (λx M T Yp v=>?_);refine⟨x,rfl,(),(),j4 (n:=x.toNat) (λi σ H'=>(∃S,σ=[some (.ref a),some (.int (1+g%5)),some (.ref am),some (.ref p),some (.ref r),S,none,none])/\ff H' p/\au H1 H'/\∃(wv:List V) (ws:List (Int×Int×Str)),H' r=some (.lst wv)/\eN H' 1 wv (ws.map ny)/\ws.length=i/\∀w∈ws,wj (1+g%5) w) ?_ ?_ ?_⟩
 ·exact⟨⟨_,rfl⟩,v.fq,v.over ju R,[],[],v.rest _ _ eaw WR,eN.nil,rfl,λw hw=>by simp at hw⟩
 ·intro i σ H5 hi pJ;obtain⟨⟨S,rfl⟩,U,s5,wv,ws,W,hW,lx,Nl⟩:=pJ;have J8:wv.length=i:=by have:=hW.1;simp at this;lia
  left;calc⟨.inl ⟨rfl,_,aM.of W⟩,?_⟩;have l5:(1+g%5).natAbs.log2<9000:=by
   have:1+g%5=1\/1+g%5=2\/1+g%5=3\/1+g%5=4\/1+g%5=5:=by lia
   rcases this with e|e|e|e|e<;>(rw[e];decide +kernel)
  refine dig U () l5 λc x h60 h61 v=>?_;left;refine dig v.fq () l5 λy x h70 h71 M=>?_;have x:=v.trans M;left;refine⟨df,λl hl=>?_⟩;have LR:=x.new (o:=.lst [.str "row",.str "heap"]) hl;have UR:l≠p:=Step.ne x.fq hl;refine dig LR.fq ∅ ⋯ λk X FO Ya LS=>?_;have ad7:=LR.trans LS;obtain⟨u,ew3,hw3⟩:∃u:Str,gU [V.str "row",V.str "heap"] k=some (.str u)/\(u="row"\/u="heap"):=by
   have:k=0\/k=1:=by lia
   rcases this with rfl|rfl
   ·exact⟨_,ay (j:=0) rfl,.inl rfl⟩
   ·exact⟨_,ay (j:=1) rfl,.inr rfl⟩
  left;calc bu (LS.rest _ _ ab UR) ew3 ?_;left;calc⟨by show 3<=sizeLine;decide,λt ht=>?_⟩;have G:=ad7.new (o:=.tup [.int c,.int y,.str u]) ht;have Yr:=G.rest _ _ W WR;have eT:upd X t (.tup [.int c,.int y,.str u]) t=some (.tup [.int c,.int y,.str u]):=ab;have Y:=G.fq;have tA:=G.aN U;have sA:au H1 (upd X t (.tup [.int c,.int y,.str u])):=G.over s5 R;generalize hGA:upd X t (.tup [.int c,.int y,.str u])=GA at *;have tB:bW GA (upd GA r (.lst (wv++[.ref t]))):=(bW.refl _).upd λys e=>by rw[Yr]at e;cases e
  refine⟨_,Yr,aA (),⟨_,rfl⟩,Y.upd (Ne.symm WR),λb o e=>by rw[av (ao e faw)];calc sA _ _ e,wv++[.ref t],ws++[(c,y,u)],ab,?_,by simp[lx],λw hw=>?_⟩
  ·have h6:=((hW.aI tA).snoc (lR (n:=0) eT (.int c) (.int y) (.str u))).aI tB;simpa[ny] using h6
  ·rcases List.mem_append.mp hw with hw | hw
   ·exact Nl w hw
   ·simp only[List.mem_singleton]at hw;subst hw;exact⟨h60,h61,h70,h71,hw3⟩
 intro σ H5 ui;obtain⟨⟨S,rfl⟩,U,s5,wv,ws,W,hW,lx,Nl⟩:=ui;have J8:wv.length=ws.length:=by have:=hW.1;simpa using this
 have Jk:=s5 _ _ UX;have hM5:=hM.LV s5.LV;left;calc⟨a,ns,_,rfl,(s1.trans s5).seq hS,(),λv=>⟨v,rfl,λL Z xy u=>?_⟩⟩;have s6:=au.new (.lst (Z.map V.int)) xy;have hp6:ff (upd H5 L (.lst (Z.map V.int))) L:=⟨_,ab,u⟩
 generalize hG6:upd H5 L (.lst (Z.map V.int))=G6 at *;left;calc⟨U' _,λB u=>?_⟩;have s7:=au.new (.lst []) u;have RW:B≠L:=Step.ne hp6 u;have hp7:=hp6.same s7;have eal:upd G6 B (.lst []) B=some (.lst []):=ab;have fal:H5 B=none:=s6.free u;have Us:=s6.trans s7;generalize Pa:upd G6 B (.lst [])=G7 at *;left;calc lT L 13 rfl hp7 ∅ ⋯ (λu M v x LR=>?_);refine⟨u,rfl,(),(),j4 (n:=u.toNat) (λi σ H'=>(∃S z8,σ=[some (.ref a),some (.int (1+g%5)),some (.ref am),some (.ref L),some (.ref r),S,some (.ref B),z8])/\ff H' L/\au H5 H'/\∃(I:List V) (ls:List (Int×Int)),H' B=some (.lst I)/\eN H' 1 I (ls.map qB)/\ls.length<=i/\∀l∈ls,wm ws.length l) ?_ ?_ ?_⟩
 ·exact⟨⟨_,_,rfl⟩,LR.fq,LR.over Us xy,[],[],LR.rest _ _ eal RW,eN.nil,E' _,λw hw=>by simp at hw⟩
 ·intro i σ X hi zE;obtain⟨⟨S,z8,rfl⟩,hp9,N,I,ls,LM,hL,qm,i9⟩:=zE;have i:I.length=ls.length:=by have:=hL.1;simpa using this
  have i:=N _ _ W;left;calc⟨U' _,λl0 u=>?_⟩;have m:=au.new (.lst []) u;have J9:=m _ _ i;have el0:upd X l0 (.lst []) l0=some (.lst []):=ab;have Ka:=m _ _ LM;have SX:=hp9.same m;have F1:=N.trans m;have Ys:=hL.aI m.aN;generalize Xh:upd X l0 (.lst [])=G10 at *
  cases ws with
  |nil=>
   have W3:wv=[]:=by simpa using J8
   subst W3;calc .inl ⟨.inr ⟨_,_,_,_,rfl,rfl,.inr ⟨aM.of J9,aM.of el0⟩,rfl,λj u v hu=>by simp at hu⟩,?_⟩;left
   try rw[if_neg T']
   calc⟨⟨_,_,rfl,rfl⟩,SX,F1,I,ls,Ka,Ys,(),i9⟩
  |cons i u=>
   have hwp:0<(wv.length:Int):=by rw[J8];simp
   have i:wv.length<=10:=by lia
   calc .inr ⟨⟨_,_,by simp[J8],.inl ⟨aM.of J9,aM.of el0⟩⟩,?_⟩;left
   try rw[if_pos trivial]
   have lw:((wv.length:Nat):Int).natAbs.log2<9000:=Aj hwp ();calc dig SX ∅ ⋯ λy v i u x=>?_;left;calc⟨BR,dig x.fq RO RP λM R v i u=>?_⟩;have R:=x.trans u;left;calc⟨df,λv T=>?_⟩;have x:=R.new (o:=.lst [.int y,.int M]) T;have aee:v≠L:=Step.ne R.fq T;calc dig x.fq ∅ ⋯ λk u FO Ya FL=>?_;have x6:=x.trans FL;have u:(10:Int)^Int.toNat 60=1000000000000000000000000000000000000000000000000000000000000:=by decide +kernel
   rw[u]at i;obtain⟨z,ez,SY,uQ⟩:∃z:Int,gU [V.int y,V.int M] k=some (.int z)/\1-1000000000000000000000000000000000000000000000000000000000000<=z/\z<1000000000000000000000000000000000000000000000000000000000000:=by
    have:k=0\/k=1:=by lia
    rcases this with rfl|rfl
    ·exact⟨_,ay (j:=0) rfl,(),()⟩
    ·exact⟨_,ay (j:=1) rfl,(),()⟩
   left;calc bu (FL.rest _ _ ab aee) ez ?_;left;have Yw:=x6.rest _ _ Ka RW;have Yx:=x6.rest _ _ J9 (λz=>by rw[z,xy]at W;cases W);calc⟨.inl ⟨rfl,_,aM.of Yw⟩,?_⟩;calc bC _ (.inl ⟨_,aM.of Yx,rfl⟩) ?_;calc dig x6.fq hwp lw λc Yy aeg aeh i=>?_;have k:=x6.trans i;left;calc⟨df,λt ht=>?_⟩;have G:=k.new (o:=.tup [.int c,.int z]) ht;have Yz:=G.rest _ _ Ka RW;have eT:upd Yy t (.tup [.int c,.int z]) t=some (.tup [.int c,.int z]):=ab;have Y:=G.fq;have tA:=G.aN SX;have sA:au H5 (upd Yy t (.tup [.int c,.int z])):=G.over F1 xy;generalize hGA:upd Yy t (.tup [.int c,.int z])=GA at *;have tB:bW GA (upd GA B (.lst (I++[.ref t]))):=(bW.refl _).upd λys e=>by rw[Yz]at e;cases e
   refine⟨_,Yz,aA (),⟨_,_,rfl,rfl⟩,Y.upd (Ne.symm RW),λb o e=>by rw[av (ao e fal)];calc sA _ _ e,I++[.ref t],ls++[(c,z)],ab,?_,by simp;lia,λl hl=>?_⟩
   ·have h6:=((Ys.aI tA).snoc (cS (n:=0) eT (.int c) (.int z))).aI tB;simpa[qB] using h6
   ·rcases List.mem_append.mp hl with hl | hl
    ·exact i9 l hl
    ·simp only[List.mem_singleton]at hl;subst hl;exact⟨aeg,by have:=aeh;rw[J8]at this;calc this,SY,uQ⟩
 intro σ X FK;obtain⟨⟨S,z8,rfl⟩,hp9,N,I,ls,LM,hL,qm,i9⟩:=FK;left;calc⟨by show 3<=sizeLine;decide,λt ht=>?_⟩;have m:=au.new (.tup [.ref am,.ref r,.ref B]) ht;calc q t am r B mv wv I ic ws ls _ (s1.trans (s5.trans (N.trans m))) ab (m _ _ (N _ _ Jk)) (m _ _ (N _ _ W)) (m _ _ LM) (hM5.LV (N.trans m).LV) (hW.aI (N.trans m).aN) (hL.aI m.aN) ⟨(),(),(),(),O,λw hw=>?_,i9⟩;have e:((ic.length:Nat):Int)=1+g%5:=by lia
 rw[e];calc Nl w hw
theorem uF{C:Addr}{m:Addr}{M:Int}{a:List bF}(t:bW H H')(i:∀b c d e,H b=some (.ins c d e)->H' b=some (.ins c d e))(h:kr C H m M ns row a):kr C H' m M ns row a:=by
 obtain⟨a,st,dd,f,g,j⟩:=h;calc⟨a,st,dd,i _ _ _ _ f,g.aI t,j.aI t⟩
abbrev iU:Stmt:=top 77
inductive Ap(C CN:Addr)(vs:List V)(H:Hp)(Q:VK):Prop
 |mk (x:V) (ic:List MD) (ws:List (Int×Int×Str)) (ls:List (Int×Int)) (h0:vs=[x]) (h1:ToldN H x ic ws ls) (h2:Ec ic ws ls) (h3:∀n ms wv lv H',au H H'->vh C CN H' n ⟨ic,ws⟩->nz CN H' n ms wv lv->eN H' 1 lv (ls.map qB)->Q (.ref n) H'):Ap C CN vs H Q
def wI(C CN:Addr):Sp:=λvs H Q _=>Ap C CN vs H Q
theorem uG(D:cK K mg "_law_net_made" "_law_net_made" iU ["_law_net_here"])(T:Tx K mg C CN CR F FD)(qO:y9 P w K mg base "Machine" C 7 ["self","modulus","numbers","row","deeds"] (Dy C))(Kc:y9 P w K mg base "Net" CN 7 ["self","machines","ways","letters"] (zJ C CN)):Def P w K mg base "_law_net_made" 9 ["_law_net_here"] (wI C CN):=by
 have sc:aD ["_law_net_here","_law_machines"] ["_law_net_here"] (az iU):=by walk_at "s"
 symm;obtain⟨x,ic,ws,ls,rfl,hT,g,q⟩:=h;have B:=hr.units;refine⟨_,(af (cJ (i:=1) sc.nd rfl Sort (N':=["_law_one"]) (ix:=[none]) (bz (aj B (aq 0) ai)) (λ_ _ _ _=>(aO (i:=0) (show(["_law_one"]:List Str).Nodup by decide +kernel) rfl Sort)) ko (λ_ _ _ _=>(Il qO hr (ag (cu (K:=K) rfl B (aq 0) ai) (ag (cL (ja (K:=K) rfl) rfl T.dF vE (ag (cu (K:=K) rfl B (aq 0) ai) aa)) (ag (cL (ja (K:=K) rfl) rfl T.dF vE (ag (cu (K:=K) rfl B (aq 0) ai) aa)) (ag (cL (ja (K:=K) rfl) rfl T.dF vE (ag (cu (K:=K) rfl B (aq 0) ai) aa)) aa)))))))
  (ak (aG (Il Kc hr (ag (aq 1) (ag (cL cw rfl T.dF vE (ag (aj B (aq 0) ai) aa)) (ag (cL cw rfl T.dF vE (ag (aj B (aq 0) ai) aa)) aa))))))),?_⟩
 obtain⟨t,am,aw,al,mv,wv,y,rfl,ht,UX,NX,LM,hM,hW,hL⟩:=id hT;have t:mv.length<=5:=by have:=hM.1;have:=g.m5;lia
 right;calc bo ?_;right;calc cN ht (ay (j:=0) rfl) ?_;right;calc .inl ⟨⟨_,aM.of UX⟩,λD hD=>?_⟩;refine aZ (J:=rD K am) (n:=mv.length) (λi ys H'=>∃ms:List Addr,ys=ms.map V.ref/\ms.length=i/\(∀(j:Nat) m d,ms[j]?=some m->ic[j]?=some d->Uk C H' m d)/\au H H') (J' (aA ())) ⟨[],rfl,rfl,λj m d e=>by simp at e,au.new _ hD⟩ ?_ ?_ ?_ ?_
 ·intro i ys H' nu t;obtain⟨_,_,_,_,p⟩:=t;exact⟨_,mv[i],aM.of (p _ _ UX),cF nu⟩
 ·intro ys H' t;obtain⟨_,_,_,_,p⟩:=t;exact⟨_,aM.of (p _ _ UX),E' _⟩
 ·intro i ys H' nu aV hl lB x U pJ;nofun;obtain⟨ms,rfl,Xw,yA,p⟩:=lB;obtain⟨rfl,t⟩:=pJ;have ex:=t _ (aM.of (p _ _ UX));have jY:i < ic.length:=by have:=hM.1;lia
  have u:=g.mg _ (aac jY);obtain⟨tt,ln,lr,ld,W,rfl,R,h2,h3,h4,h5⟩:=(hM.2 i x ic[i] ex (cF jY)).cv p.cv;generalize hmd:ic[i]=k at *;ac_rfl;walk_at "xf";right;rw[if_pos trivial];refine cy _ _ (.inr (bG.of R)) (ay (j:=0) rfl) ?_;refine cy _ _ (.inr (bG.of R)) (ay (j:=1) rfl) ?_;right;refine bC _ (.inl (aM.of h2)) (λr xK=>?_);have B:=au.new (.lst (k.ns.map V.int)) xK;refine cy _ _ (.inr (bG.of (B _ _ R))) (ay (j:=2) rfl) ?_;right;refine bC _ (.inl (aM.of (B _ _ h3))) (λv tw=>?_);have t:=au.new (.lst (k.row.map V.int)) tw;refine cy _ _ (.inr (bG.of (t _ _ (B _ _ R)))) (ay (j:=3) rfl) ?_;right;refine bC _ (.inl (aM.of (t _ _ (B _ _ h4)))) (λl3 T=>?_);have G:=au.new (.lst W) T;have X:=B.trans (t.trans G);have l:=G _ _ (t _ _ (ab (H:=U) (a:=r) (o:=.lst (k.ns.map V.int))));have I:=G _ _ (ab (H:=upd U r (.lst (k.ns.map V.int))) (a:=v) (o:=.lst (k.row.map V.int)));have e3:upd (upd (upd U r (.lst (k.ns.map V.int))) v (.lst (k.row.map V.int))) l3 (.lst W) l3=some (.lst W):=ab;generalize hG6:upd (upd (upd U r (.lst (k.ns.map V.int))) v (.lst (k.row.map V.int))) l3 (.lst W)=G6 at *;intro m L Y Yf aei;have N:au G6 (upd (upd G6 L (.own m)) m (.ins C L [])):=λb o e=>by rw[av (ao e Y),av (ao e Yf)];exact e
  have t:=X.trans N;calc⟨m,L,k.M,r,v,l3,k.ns,k.row,W,k.ds,2,rfl,ab,u.m2,u.m12,.inl (N _ _ l),.inl (N _ _ I),.inl (N _ _ e3),u.l1,u.l4,u.r12,u.bn,u.br,(h5.aI t.aN).dl,∅,u.d24,u.ok,λZ DU B=>⟨rfl,?_⟩⟩;have O:au U Z:=λb o e=>B b o (ao (X _ _ e) Y) (t _ _ e);have FY:=O _ _ aV;have t7:bW Z (upd Z D (.lst (ms.map V.ref++[.ref m]))):=(bW.refl _).upd λk e=>by rw[FY]at e;cases e
  have i7:∀b c d e,Z b=some (.ins c d e)->upd Z D (.lst (ms.map V.ref++[.ref m])) b=some (.ins c d e):=λb c d e h=>by
   rw[av (λz=>by subst z;rw[FY]at h;cases h)];exact h
  refine bH FY hl nu (J' (aA ())) ⟨ms++[m],nofun,by simp[Xw],λj k d l I=>?_,λb o e=>?_⟩
  ·by_cases hj:j < ms.length
   ·rw[aaH hj]at l;exact uF t7 i7 ((yA j k d l I).same O)
   ·rw[aaG ()] at l
    cases uT:j-ms.length with
    |succ k=>rw[uT]at l;simp at l
    |zero=>
     rw[uT]at l;nofun;obtain rfl:=Option.some.inj l;have hji:j=i:=by lia
     subst hji;rw[cF jY,hmd]at I;obtain rfl:=Option.some.inj I;ac_rfl;exact uF t7 i7 DU
  ·rw[av (ao e hD)];exact O _ _ (p _ _ e)
 intro ys H4 aV hl ui;obtain⟨ms,rfl,Xw,yA,p⟩:=ui;have oT:ms.length=ic.length:=by have:=hM.1;lia
 have i:=p _ _ ht;right;calc cy _ _ (.inr (bG.of i)) (ay (j:=1) rfl) ?_;right;calc bC _ (.inl (aM.of (p _ _ NX))) (λr xK=>?_);have G:=au.new (.lst wv) xK;calc cy _ _ (.inr (bG.of (G _ _ i))) (ay (j:=2) rfl) ?_;right;calc bC _ (.inl (aM.of (G _ _ (p _ _ LM)))) (λv tw=>?_);have N:=au.new (.lst y) tw;have l:=N _ _ (ab (H:=H4) (a:=r) (o:=.lst wv));have I:upd (upd H4 r (.lst wv)) v (.lst y) v=some (.lst y):=ab;have yB:=G.trans N;generalize Pa:upd (upd H4 r (.lst wv)) v (.lst y)=G7 at *;have k:wv.length=ws.length:=by have:=hW.1;simpa using this
 have i:y.length=ls.length:=by have:=hL.1;simpa using this
 intro x L Y Yf aei;have S:au G7 (upd (upd G7 L (.own x)) x (.ins CN L [])):=λb o e=>by rw[av (ao e Y),av (ao e Yf)];exact e
 have i:=p.trans (yB.trans S);have t:=g.m1;have t:=g.m5;have t:=g.Hr;have t:=g.Pw;refine⟨x,L,D,r,v,ms,wv,y,ws,ls,rfl,ab,S _ _ (yB _ _ aV),S _ _ l,S _ _ I,(),(),(),(),λm hm=>?_,hW.aI i.aN,hL.aI i.aN,λw r=>by rw[oT];calc g.wo w r,λl hl=>by rw[k];calc g.lo l hl,λH9 hn9 hk9=>⟨rfl,?_⟩⟩
 ·nofun;obtain⟨j,hj,rfl⟩:=List.getElem_of_mem hm;obtain⟨i,k,l,R,_,_⟩:=(yA j _ ic[j] (cF hj) (cF ())).same (yB.trans S);ac_rfl;exact⟨_,_,R⟩
 ·have k:au H4 H9:=λb o e=>hk9 b o (ao (yB _ _ e) Y) (S _ _ (yB _ _ e));have i:=p.trans k;calc q x ms wv y H9 i ⟨⟨ms,wv,y,hn9,oT,λj m d a b=>(yA j m d a b).same k,hW.aI i.aN⟩,g.nt⟩ hn9 (hL.aI i.aN)
def pS(n:NT)(r:RS)(w k:Nat):List Int:=match (r.ww w).snd.getD k none with
 |none=>(r.mm (n.goal w)).hr.bt (List.replicate n.ms.length 0)
 |some (s,c)=>List.zipWith max ((r.mm (n.goal w)).hr.bt (List.replicate n.ms.length 0)) ((r.mm s.toNat).hr.getD (c-1).toNat [])
theorem NY{n:NT}{w k:Nat}:n.iq r w k=(pS n r w k).set (n.goal w) (n.ev r w).2:=rfl
theorem NZ{l:List Int}{c:Int}{n:Nat}(a:l.length=n)(b:m<n):((List.range n).map λj=>V.int (l.getD j 0+(if decide (((j:Nat):Int)=((m:Nat):Int))=true then 1 else 0))).set m (.int c)=(l.set m c).map V.int:=by
 apply List.ext_getElem (by simp[a]);intro j b d;have e:j<n:=by simpa using b
 simp only[List.getElem_map,List.getElem_set,List.getElem_range];by_cases z:m=j
 ·rw[if_pos z,if_pos z]
 ·rw[if_neg z,if_neg z,if_neg (by simp;lia),getD_at (cF ()),Int.add_zero]
theorem S9{l:List (Option (Int×Int))}{k:Nat}{a:List (Key×V)}{v:V}(h:OR H0 (.d (i5 l) (l.countP Option.isSome)) (.dK a))(b:l[k]?=some none)(f:HD H0 4 v (pairD e)):OR H0 (.d (i5 (l.set k (some e))) ((l.set k (some e)).countP Option.isSome)) (.dK (putK a (Sum.inl ((k:Nat):Int)) v)):=by
 have g:k<l.length:=(List.getElem?_eq_some_iff.mp b).1;have c:gb a (Sum.inl ((k:Nat):Int))=none:=by
  have:=h.2 ((k:Nat):Int);have a:i5 l ((k:Nat):Int)=none:=by
   unfold i5;rw[if_pos (),Int.toNat_natCast,getD_at b];rfl
  rw[a]at this;exact this
 refine⟨?_,λj=>?_⟩
 ·rw[Hf v c,count_set b,List.length_append,List.length_singleton];have:=h.1;lia
 ·rw[J2 g,He];by_cases z:j=((k:Nat):Int)
  ·rw[if_pos z,if_pos (by rw[z])];exact⟨v,rfl,f⟩
  ·rw[if_neg z,if_neg (λq=>z (Sum.inl.inj q))];calc h.2 j
theorem N0{r:RS}{n:NT}{w k:Nat}:∀t i,i<n.n t->setC (setC (setC (setC (setC r.tv 3 (n.goal w) (.l (((r.mm (n.goal w)).hr.map λu=>DV.lst (u.map .int))++[.lst ((n.iq r w k).map .int)]))) 6 w (.d (i5 ((r.ww w).cD.set k (some (n.ev r w)))) (((r.ww w).cD.set k (some (n.ev r w))).countP Option.isSome))) 1 (n.goal w) (.l ((r.mm (n.goal w)).dQ.map tY++[tY ((n.work r w k).ns,(n.work r w k).row)]))) 2 (n.goal w) (.l (((r.mm (n.goal w)).wp.map λu=>DV.lst (u.map .int))++[.lst (((r.mm (n.goal w)).wp.bt []++(n.work r w k).words).map .int)]))) 0 0 (.l (r.picks.map pairD++[pairD ((w:Int),(k:Int))])) t i=(r.step n w k).tv t i:=by
 intro t i a;unfold setC
 match t,a with
 |0,a=>
  have:i=0:=by have:i<1:=a;lia
  subst this;simp[RS.tv,RS.step]
 |1,_=>by_cases e:i=n.goal w<;>simp[RS.tv,RS.step,e]
 |2,_=>by_cases e:i=n.goal w<;>simp[RS.tv,RS.step,e]
 |3,_=>by_cases e:i=n.goal w<;>simp[RS.tv,RS.step,e]
 |4,_=>by_cases e:i=w<;>simp[RS.tv,RS.step,e]
 |5,_=>by_cases e:i=w<;>simp[RS.tv,RS.step,e]
 |6,_=>by_cases e:i=w<;>simp[RS.tv,RS.step,e]
 |(t+7),a=>calc absurd a (aas i)
theorem Ke{r:RS}{n:NT}{w:Nat}{x:Int}{s:Option (Int×Int)}:∀t i,i<n.n t->setC (setC r.tv 4 w (.l ((r.ww w).say.map .int++[.int x]))) 5 w (.l ((r.ww w).snd.map nI++[nI s])) t i=(r.put w x s).tv t i:=by
 intro t i a;unfold setC
 match t,a with
 |0,_=>simp[RS.tv,RS.put]
 |1,_=>simp[RS.tv,RS.put]
 |2,_=>simp[RS.tv,RS.put]
 |3,_=>simp[RS.tv,RS.put]
 |4,_=>by_cases e:i=w<;>simp[RS.tv,RS.put,e]
 |5,_=>by_cases e:i=w<;>simp[RS.tv,RS.put,e]
 |6,_=>by_cases e:i=w<;>simp[RS.tv,RS.put,e,FU]
 |(t+7),a=>calc absurd a (aas i)
theorem x8{H:Hp}{n:Nat}{v:V}{ns:List Int}(h:HD H n v (.lst (ns.map .int))):∃a,v=.ref a/\H a=some (.lst (ns.map V.int)):=by
 cases h with
 | @lst n a b _ e l i=>calc⟨a,rfl,by rw[e,show b=ns.map V.int from fA.tW ⟨l,i⟩]⟩
theorem Kf{x y:HO}(h:a≠b):upd (upd H a x) b y=upd (upd H b y) a x:=by
 funext c;by_cases d:c=a
 ·subst d;rw[av h,ab,ab]
 ·by_cases e:c=b
  ·subst e;rw[ab,av d,ab]
  ·rw[av e,av d,av d,av e]
theorem Ee{K:W.Frag}{o:Addr}{nt:NT}{g:Nat}{e:Nat}(he:e<2)(f:H o=some (.lst wv))(p:eN H 1 wv (nt.ws.map ny))(P:wv.length<=10)(v:σ[3]?=some (some (.int ((g:Nat):Int))))(r:H D=none)(q:∀H1,au H H1->H1 D=some (.lst ((vi nt e g).map λi=>V.int ((i:Nat):Int)))->Q (.ref D) H1):lP [none,none,some 3] (Lv true K o) (AY K 2 (iC (dI 0) (iC (dI 1) AX))) (tT (AI (RD K) (AI (Ls K) (tV 1) (tC (V.int ((e:Nat):Int)))) (tV 2))) (tV 0) σ H Q D:=by
 have x:wv.length=nt.ws.length:=by simpa using p.1
 have A:tF [none,none,some 3] σ=[none,none,some (.int ((g:Nat):Int))]:=by simp[tF,v]
 refine aZ (n:=wv.length) (λi ys H'=>au H H'/\ys=((List.range i).filter λj=>decide (ur nt e j=((g:Nat):Int))).map λj=>V.int (j:Nat)) (J' (aA ())) ⟨au.new _ r,rfl⟩ ?_ ?_ ?_ ?_
 ·rintro i ys H' h ⟨a,_⟩;exact⟨wv,wv[i],Sq.l (a _ _ f),cF h⟩
 ·rintro ys H' ⟨a,_⟩;exact⟨wv,Sq.l (a _ _ f),rfl⟩
 ·intro i ys H' h d s B R S C;rw[A];obtain⟨a,rfl⟩:=B;obtain⟨k,E,rfl,y⟩:=C;obtain⟨b,F,rfl⟩:=y wv (Sq.l (a _ _ f));have o:i < nt.ws.length:=by lia
  have m:=au.new (.tup [.int (i:Nat),b]) E;have I:=(p.2 i b (ny (nt.w i)) F (by rw[aaB,show nt.ws[i]?=some (nt.w i) from aS o];rfl)).aI (a.trans m).aN;have J:upd H' k (.tup [.int (i:Nat),b]) k=some (.tup [.int (i:Nat),b]):=ab;have t:=m _ _ d;have u:=a.trans m;generalize T:upd H' k (.tup [.int (i:Nat),b])=G at *;obtain⟨U,X,Y,Z,kk,rfl,L,M,N,O⟩:=bU I;obtain rfl:=M.ck;obtain rfl:=N.ck;obtain rfl:=O.cT;calc uS (bG.of J) ⟨Ext.set (Ext.set (Ext.refl _) rfl) rfl,?_⟩;left;refine cN L (show gU _ ((e:Nat):Int)=some (.int (ur nt e i)) from ay (by match e,he with
   |0,_=>rfl
   | 1,_=>rfl)) ?_
  left;by_cases z:ur nt e i=((g:Nat):Int)
  ·rw[if_pos (decide_eq_true z)];calc bH t s h (J' (aA ())) ⟨λc o e=>by rw[av (ao e r)];calc u _ _ e,?_⟩;rw[jc,if_pos (decide_eq_true z),aaD];rfl
  ·rw[if_neg λh=>z (of_decide_eq_true h)];exact⟨_,t,(),u,by rw[jc,if_neg λh=>z (of_decide_eq_true h),List.append_nil]⟩
 ·rintro ys H1 d s ⟨a,rfl⟩;rw[x]at d;calc q H1 a d
abbrev oE:Stmt:=top 72
inductive Kg(vs:List V)(H:Hp)(Q:VK):Prop
 |mk (F:Addr->Prop) (d:Addr) (tn:V) (nt:NT) (r:RS) (ad:Nat->Nat->Addr) (wy k:Nat) (h0:vs=[.ref d,.int (wy:Nat),.int (k:Nat)]) (h1:bT F H d tn nt r ad) (h2:FS F H) (h3:r.Ok nt) (h4:r.Nx nt wy k) (h5:r.picks.length<=400) (h6:∀t H',Fr (FP nt.n ad) H H'->bT F H' d tn nt (r.pick nt wy k) ad->HT H' 1 t (pairD (nt.ev r wy))->Q t H'):Kg vs H Q
def x9:Sp:=λvs H Q _=>Kg vs H Q
theorem Cm(D:cK K mg "_law_pick" "_law_pick" oE ["_law_run","_law_way","_law_number"])(T:Tx K mg C CN CR F FD)(kF:Def P w K mg base "_law_worked" 2 ["_law_machine_here","_law_state","_law_way","_law_said"] (Ea K)):Def P w K mg base "_law_pick" 3 ["_law_run","_law_way","_law_number"] x9:=by
 have sc:aD ["_law_run","_law_way","_law_number","_law_m","_law_place","_law_outs","_law_event","_law_state","_law_sent","_law_words","_law_row","_law_source","_law_c","_law_j","_law_said"] ["_law_run","_law_way","_law_number"] (az oE):=by walk_at "s"
 symm;obtain⟨F,d,tn,m,r,ad,B,k,rfl,M,j0,O,hc,j3,q⟩:=h;have G:=hr.units;have zB:=Ui G;refine⟨_,(af (aU (i:=3) sc.nd rfl Sort (aj G (aj G (aj G (aj G (aq 0) aC) ai) (aq 1)) ai))
  (af (aU (i:=4) sc.nd rfl Sort (dz nM PySem.F.slot_list_index PySem.F.type_list_index v8 (cI (N':=["_law_k","_law_told","_law_m"]) (ix:=[none,none,some 3]) (ik rfl T.cW (ag (aj G (aj G (aq 0) aC) ai) aa)) (λ_ _ _ _=>(ip (K:=K) rfl (i:=0) (j:=1) rfl (show(["_law_k","_law_told","_law_m"]:List Str).Nodup by decide +kernel) rfl rfl Sort Sort)) (λ_ _ _ _=>(eW (aB (lU (K:=K) rfl G) (cu (K:=K) rfl G (aq 1) ai) (aq 2) (aE _)))) (λ_ _ _ _=>(aq 0))) (ag (aq 1) aa)))
  (af (cJ (i:=5) sc.nd rfl Sort (N':=["_law_k","_law_told","_law_m"]) (ix:=[none,none,some 3]) (ik rfl T.cW (ag (aj G (aj G (aq 0) aC) ai) aa)) (λ_ _ _ _=>(ip (K:=K) rfl (i:=0) (j:=1) rfl (show(["_law_k","_law_told","_law_m"]:List Str).Nodup by decide +kernel) rfl rfl Sort Sort)) (λ_ _ _ _=>(eW (aB (lU (K:=K) rfl G) (cu (K:=K) rfl G (aq 1) ai) (aq 2) (aE _)))) (λ_ _ _ _=>(aq 0)))
  (af (aU (i:=6) sc.nd rfl Sort (bD (ag (aq 3) (ag (aW aP rfl T.bR L' (ag (aj G (aj G (aq 0) aC) (aq 3)) aa)) aa))))
  (af (de (aH kF hr (ag (aj G (aj G (aj G (aq 0) aC) ai) (aq 3)) (ag (aj G (aj G (aj G (aq 0) aC) (aq 3)) (ib fc ai)) (ag (aq 4) (ag (aj G (aj G (aj G (aq 0) aC) (aq 1)) (aq 2)) aa))))) (tZ (i:=7) (j:=8) (l:=9) rfl sc.nd rfl rfl rfl Sort Sort Sort))
  (af (aU (i:=10) sc.nd rfl Sort (aj G (bq cM (bA (ag (bq Io (bA (ag ai aa)) (aW aP rfl T.bR L' (ag (aj G (aj G (aq 0) aC) ai) aa))) aa)) (aj G (aj G (aq 0) aC) (aq 3))) (ib fc ai)))
  (af (aR (aB m7 (aj G (aj G (aj G (aq 0) aC) (aq 1)) (aq 2)) fu (aE _)) (af (de (aj G (aj G (aj G (aq 0) aC) (aq 1)) (aq 2)) (dW (i:=11) (j:=12) rfl sc.nd rfl rfl Sort Sort))
  (ak (GH (i:=10) sc.nd rfl Sort (cI (N':=["_law_one","_law_other"]) (ix:=[none,none]) (Bx rfl T.Dp (ag (aq 10) (ag (aj G (aj G (aj G (aq 0) aC) (aq 11)) (bq fQ (aq 12) ai)) aa))) (λ_ _ _ _=>(ip (K:=K) rfl (i:=0) (j:=1) rfl (show(["_law_one","_law_other"]:List Str).Nodup by decide +kernel) rfl rfl Sort Sort)) ko (λ_ _ _ _=>(aW (EY rfl) rfl T.IW PyProof.Rows.boot_max (ag (aq 0) (ag (aq 1) aa))))) rfl))) aJ)
  (af (bN (dz nM p6 p7 bS (aj G (aj G (aq 0) aC) (aq 3)) (ag (cI (N':=["_law_k","_law_row","_law_m"]) (ix:=[none,some 10,some 3]) (cZ rfl T.dX (ag (aW aP rfl T.bR L' (ag (aq 10) aa)) aa)) (λ_ _ _ _=>(aO (i:=0) (show(["_law_k","_law_row","_law_m"]:List Str).Nodup by decide +kernel) rfl Sort)) ko (λ_ _ _ _=>(bq cM (cu (K:=K) rfl G (aq 1) (aq 0)) (cL vI rfl T.zw ZU (ag (ij (lU (K:=K) rfl G) (aq 0) (aq 2) (aE _)) aa))))) aa)))
  (af (de (aj G (aq 6) ai) (gR (aj G (aj G (aj G (aq 0) aC) (aq 3)) (ib fc ai)) (aq 3) dA))
  (af (mV zB (aj G (aj G (aq 0) aC) (aq 1)) (aq 2) (aq 6) rfl)
  (af (bN (dz nM p6 p7 bS (aj G (aj G (aq 0) aC) (aq 3)) (ag (aq 7) aa)))
  (af (bN (dz nM p6 p7 bS (aj G (aj G (aq 0) aC) (aq 3)) (ag (bq cM (aj G (aj G (aj G (aq 0) aC) (aq 3)) (ib fc ai)) (aq 9)) aa)))
  (af (bN (dz nM p6 p7 bS (aj G (aq 0) aC) (ag (bD (ag (aq 1) (ag (aq 2) aa))) aa)))
  (af (dJ PassesOwn.never rfl (bz (pv 8)) (dW (i:=13) (j:=14) rfl sc.nd rfl rfl Sort Sort)
  (ak (aR (aB eF (aq 13) (aW aP rfl T.bR L' (ag (aq 5) aa)) (aE _)) (af (bN (dz nM p6 p7 bS (aj G (aj G (aq 0) aC) (aj G (aq 5) (aq 13))) (ag (aq 14) aa)))
  (ak (bN (dz nM p6 p7 bS (aj G (aj G (aq 0) aC) (aj G (aq 5) (aq 13))) (ag (aq 6) aa))))) aJ)))
  (ak (aG (aq 6))))))))))))))))),?_⟩
 nofun;obtain⟨o,N,nF,nP,ho⟩:=M.dk;obtain⟨ls,tt,am,aw,al,mv,wv,lv,rfl,h1,h2,h3,h4,h5,h6,h7⟩:=M.told;have g1:=(ei h1 (λk z=>by cases z)).2;have g2:=(ei h2 (λk z=>by cases z)).2;have g3:=(ei h3 (λk z=>by cases z)).2
 replace h5:=h5.cv dE
 replace h6:=h6.aI dE.aN
 have W:=M.ok;have L:=hc.lt;have I:=W.ir L;have lx:wv.length=m.ws.length:=by simpa using h6.1
 have oT:mv.length=m.ms.length:=h5.1;have rS:wv.length<=10:=by rw[lx];exact W.Fb
 have Jk:m.ms.length<=5:=W.Gf;obtain⟨wk1,Xd,wk3,wk4⟩:=sD W O L k;ac_rfl;have BM:k<(r.ww B).say.length:=by rw[O.lk B L];exact(List.getElem?_eq_some_iff.mp hc.lies).1
 left;calc bC _ (xY N) ?_;left;calc cN g1 (ay (j:=1) rfl) ?_;have Xc:m.ws[B]?=some (m.w B):=aS L;have aj8:B<wv.length:=by lia
 have AQ:=h6.2 B wv[B] (ny (m.w B)) nofun (by rw[aaB,Xc];rfl);nofun;obtain⟨ta,u1,u2,u3,kk,eta,rV,q1,q2,q3⟩:=bU AQ;obtain rfl:=q1.ck;obtain rfl:=q2.ck;obtain rfl:=q3.cT;ac_rfl;calc bu g3 (ay (j:=B) (v:=.ref ta) (by rw[<-eta];simp)) ?_;calc cN rV (show gU _ 1=some (.int ((m.goal B:Nat):Int)) from by rw[<-sL W L];calc ay (j:=1) rfl) ?_;left;calc bo ?_;left;calc bC _ (xY ((au.refl H) _ _ N)) ?_;left;calc cN ((au.refl H) _ _ g1) (ay (j:=1) rfl) ?_;left;calc zh true wv (Sq.l ((au.refl H) _ _ g3)) (λD1 Gj=>?_);calc Ee ∅ g3 h6 rS rfl Gj (λH1 s1x H1e=>?_);have Ta:au H H1:=s1x;left;calc⟨.inl ⟨rfl,_,aM.of H1e⟩,?_⟩;obtain⟨ix1,ix2⟩:=uA (JD W L);refine⟨D1,_,m.place B,B,rfl,rfl,by rw[H1e,wB],?_,?_,?_⟩
 ·rw[aaB,<-pP W L,ix1];rfl
 ·intro i y hi hy;rw[aaB]at hy;obtain⟨z,hz,rfl⟩:=Option.map_eq_some_iff.mp hy;have:=ix2 i z (by rw[pP W L];calc hi) hz;lia
 left;calc bo ?_;left;calc bC _ (xY (Ta _ _ N)) ?_;left;calc cN (Ta _ _ g1) (ay (j:=1) rfl) ?_;left;calc zh true wv (Sq.l (Ta _ _ g3)) (λD2 FG=>?_);calc Ee ∅ (Ta _ _ g3) (h6.aI Ta.aN) rS rfl FG (λH2 s2x H2e=>?_);have sH2:au H H2:=Ta.trans s2x;left;calc bC _ (FT (sH2 _ _ N)) ?_;have o1:=ho 1 ∅ ∅;have o2:=ho 2 ∅ ∅;have o3:=ho 3 ∅ ∅;have o4:=ho 4 ∅ ∅;have o5:=ho 5 ∅ ∅;have o6:=ho 6 ∅ ∅;have i0:0<m.n 0:=by show 0<1;decide
 obtain⟨v1,e1,d1⟩:=M.cA.lst (t:=1) (i:=m.goal B) I rfl;have z1:v1.length=(r.mm (m.goal B)).dQ.length:=by simpa using d1.1
 have Yi:=O.vc I;left;calc bu (sH2 _ _ o1.1) (bc I) ?_;calc iu _ (.inl ⟨_,aM.of (sH2 _ _ e1),rfl⟩) df (λev hev=>?_);rw[z1];have O8:=au.new (.tup [.int ((m.goal B:Nat):Int),.int (((r.mm (m.goal B)).dQ.length:Nat):Int)]) hev;have R:=sH2.trans O8;have aek:HT (upd H2 ev (.tup [.int ((m.goal B:Nat):Int),.int (((r.mm (m.goal B)).dQ.length:Nat):Int)])) 1 (.ref ev) (pairD (m.ev r B)):=cS (n:=0) ab (.int _) (.int _);have ael:upd H2 ev (.tup [.int ((m.goal B:Nat):Int),.int (((r.mm (m.goal B)).dQ.length:Nat):Int)]) ev=some (.tup [.int ((m.goal B:Nat):Int),.int (((r.mm (m.goal B)).dQ.length:Nat):Int)]):=ab;generalize hG3:upd H2 ev (.tup [.int ((m.goal B:Nat):Int),.int (((r.mm (m.goal B)).dQ.length:Nat):Int)])=H3 at *;have H3o:=O8 _ _ H2e;left;calc bC _ (xY (R _ _ N)) ?_;left;calc cN (R _ _ g1) (ay (j:=0) rfl) ?_;have akd:m.goal B<mv.length:=by lia
 have emd:m.ms[m.goal B]?=some (m.ms.getD (m.goal B) default):=aS I;obtain⟨mt,ln,lr,ld,xsd,emt,t1,t2,t3,t4,t5⟩:=h5.2 (m.goal B) mv[m.goal B] _ nofun emd;have Nz:=W.gd I;calc bu (R _ _ g2) (ay (j:=m.goal B) (v:=.ref mt) (by rw[<-emt];simp)) ?_;calc bC _ (FT (R _ _ N)) ?_;left;calc bu (R _ _ o1.1) (bc I) ?_;obtain⟨sv,esv,dsv⟩:=d1.get (i:=(r.mm (m.goal B)).dQ.length-1) (d:=tY ((r.mm (m.goal B)).dQ.bt ([],[]))) (by rw[aaB,lS (d:=([],[])) Yi];rfl);have JA:=(O6 (dsv.cv dE)).aI R.aN;calc bu (R _ _ e1) (m9 () (by rw[z1];calc esv)) ?_;left;calc bC _ (J0 (R _ _ N)) ?_;nofun;obtain⟨v4,e4,d4⟩:=M.cA.lst (t:=4) (i:=B) L rfl;have z4:=d4.tW;subst z4;ac_rfl;left;calc bu (R _ _ o4.1) (bc L) ?_;calc bu (R _ _ e4) (ay (j:=k) (v:=.int ((r.ww B).say.getD k 0)) (by rw[aaB,aS (d:=0) BM];rfl)) ?_;have uB:=O.last I;calc⟨mt,ln,lr,ld,sv,_,_,_,xsd,_,_,_,rfl,R _ _ t1,R _ _ t4,t5.aI R.aN,zd.of JA,Nz.m2,Nz.m12,uB.bn,uB.lr,Nz.d24,by rw[uB.ln];calc Nz.ok,λrx H4 yE R8=>?_⟩;have sH4:=R.trans yE;nofun;obtain⟨rp,LP,Ur,O9,zs,rfl,hrp,B7,R9,lD,B8,fl1,fl2,ada⟩:=R8.ex
 replace B7:HT H4 2 LP (zb (m.work r B k).ns (m.work r B k).row):=B7
 replace lD:SL H4 zs (m.work r B k).cR:=lD
 replace B8:H4 O9=some (.lst ((m.work r B k).words.map V.int)):=B8
 ac_rfl;have YB:=aek.aI yE.aN;have aem:=yE _ _ ael;have H4o:=yE _ _ H3o;calc un3 (bG.of hrp) ?_;left;calc⟨∅,λlz hlz=>?_⟩;have Uq:=au.new (.lst [.int 0]) hlz;have elz:upd H4 lz (.lst [.int 0]) lz=some (.lst [.int 0]):=ab;generalize hG5:upd H4 lz (.lst [.int 0])=H5 at *;have R6:=sH4.trans Uq;calc bC _ (xY (R6 _ _ N)) ?_;left;calc cN (R6 _ _ g1) (ay (j:=0) rfl) ?_;calc bC _ (.inl ⟨_,aM.of (R6 _ _ g2),rfl⟩) ?_;calc M6 _ elz () () (λS hlq=>?_);rw[Int.toNat_natCast,oT];have s56:=au.new (.lst (List.replicate m.ms.length (V.int 0))) hlq;have elq:upd H5 S (.lst (List.replicate m.ms.length (V.int 0))) S=some (.lst ((List.replicate m.ms.length 0).map V.int)):=by rw[ab,List.map_replicate]
 generalize hG6:upd H5 S (.lst (List.replicate m.ms.length (V.int 0)))=H6 at *;calc⟨∅,λla hla=>?_⟩;have yB:=au.new (.lst [.ref S]) hla;have ela:upd H6 la (.lst [.ref S]) la=some (.lst [.ref S]):=ab;generalize Pa:upd H6 la (.lst [.ref S])=H7 at *;have YA:=Uq.trans (s56.trans yB);have sH7:=sH4.trans YA;calc bC _ (NV (sH7 _ _ N)) ?_;obtain⟨v3,e3,d3⟩:=M.cA.lst (t:=3) (i:=m.goal B) I rfl;have z3:v3.length=(r.mm (m.goal B)).hr.length:=by simpa using d3.1
 have hlh:=O.lh _ I;have Xg:=O.bp _ I;left;calc bu (sH7 _ _ o3.1) (bc I) ?_;calc .inl ⟨_,_,ela,sH7 _ _ e3,J' (small (by simp;lia)),λlb hlb=>?_⟩;have s78:=au.new (.lst ([.ref S]++v3)) hlb;have elb:upd H7 lb (.lst ([.ref S]++v3)) lb=some (.lst ([.ref S]++v3)):=ab;generalize hG8:upd H7 lb (.lst ([.ref S]++v3))=H8 at *;have s48:=YA.trans s78;have X:=sH4.trans s48;have YC:∃rl,gU ([V.ref S]++v3) (-1)=some (.ref rl)/\H8 rl=some (.lst (((r.mm (m.goal B)).hr.bt (List.replicate m.ms.length 0)).map V.int)):=by
  by_cases h1:1<=(r.mm (m.goal B)).hr.length
  ·nofun;obtain⟨v,ev',dv⟩:=d3.get (i:=(r.mm (m.goal B)).hr.length-1) (d:=.lst (((r.mm (m.goal B)).hr.bt (List.replicate m.ms.length 0)).map .int)) (by rw[aaB,lS (d:=List.replicate m.ms.length 0) h1];rfl);obtain⟨a,rfl,ea⟩:=x8 (dv.cv dE);ac_rfl;calc⟨a,m9 nofun ?_,X _ _ ea⟩;rw[List.length_append,List.length_singleton,aaG (by simp;lia)];rw[show 1+v3.length-1 - [V.ref S].length=(r.mm (m.goal B)).hr.length-1 by simp;lia];exact ev'
  ·have ez:(r.mm (m.goal B)).hr=[]:=List.length_eq_zero_iff.mp ();have ev3:v3=[]:=List.length_eq_zero_iff.mp ();refine⟨S,?_,?_⟩
   ·rw[ev3];exact m9 nofun rfl
   ·rw[ez];show H8 S=some (.lst (List.map V.int (List.getD ([]:List (List Int)) _ _)));exact s78 _ _ (yB _ _ elq)
 obtain⟨rl,erl,wb⟩:=YC;calc bu elb erl ?_;left;calc bC _ (J1 (X _ _ N)) ?_;obtain⟨v5,e5,d5⟩:=M.cA.lst (t:=5) (i:=B) L rfl;have Jl:=O.ls B L;left;calc bu (X _ _ o5.1) (bc L) ?_;obtain⟨v5k,ev5,dv5⟩:=d5.get (i:=k) (d:=nI ((r.ww B).snd.getD k none)) (by rw[aaB,aS (d:=none) ()];rfl);calc bu (X _ _ e5) (ay ev5) ?_;left;rename_i N2 hN2 T2 U2 MN hU2;have YD:(pS m r B k).length=m.ms.length:=by
  have:=zg W O L (k:=k);rw[NY,List.length_set]at this;exact this
 have rest:∀(rl':Addr) (z11 Sf:Option V) (H9:Hp),au H8 H9->H9 rl'=some (.lst ((pS m r B k).map V.int))->N2 [some (V.ref d),some (V.int ((B:Nat):Int)),some (V.int ((k:Nat):Int)),some (V.int ((m.goal B:Nat):Int)),some (V.int ((m.place B:Nat):Int)),some (V.ref D2),some (V.ref ev),some LP,some (V.ref Ur),some (V.ref O9),some (V.ref rl'),z11,Sf,none,none] H9:=by
  clear MN hU2 T2 U2;intro rl' z11 Sf H9 s89 YE;have UY:=s48.trans s89;have Px:=sH4.trans UY;have b9:=M.cA.same Px;left;calc bC _ (NV (Px _ _ N)) ?_;left;calc bu (Px _ _ o3.1) (bc I) ?_;calc⟨.inl ⟨rfl,_,aM.of (Px _ _ e3)⟩,?_⟩;calc bo ?_;left;calc bC _ (.inl ⟨_,aM.of YE,rfl⟩) ?_;left;rw[aaC,YD];calc gN () () (λhl YF=>?_);rw[Int.toNat_natCast];refine aZ (J:=Cy 0 m.ms.length) (n:=m.ms.length) (λi ys H'=>au H9 H'/\ys=(List.range i).map λj=>V.int ((pS m r B k).getD j 0+(if decide (((j:Nat):Int)=((m.goal B:Nat):Int))=true then 1 else 0))) (J' (aA ())) ⟨au.new _ YF,rfl⟩ (λi ys H' hi _=>hi) (λys H' _=>E' _) ?_ ?_
  ·intro i ys H' hi aV k9 ui x H2' zE;nofun;obtain⟨Y,rfl⟩:=ui;obtain⟨rfl,rfl⟩:=zE;ac_rfl;walk_at "xf";left
   try rw[if_pos trivial]
   calc bu (Y _ _ YE) (show gU _ (0+(i:Int))=some (.int ((pS m r B k).getD i 0)) from by rw[Int.zero_add];calc ay (by rw[aaB,aS (d:=0) ()];rfl)) ?_;refine .inr ?_
   try rw[Int.zero_add]
   calc bH aV k9 hi (J' (aA ())) ⟨λc o e=>by rw[av (ao e YF)];calc Y _ _ e,?_⟩;rw[List.range_succ,aaD];rfl
  rintro ys FE aV k9 ⟨F1,rfl⟩;clear k9;have F2:=Px.trans F1;left;calc iu v3 (F2 _ _ e3) (small ()) ?_;left;have nA:ad 3 (m.goal B)≠hl:=λz=>by have:=Px _ _ e3;rw[z,YF]at this;cases this
  have kA:∀b o,b≠ad 3 (m.goal B)->FE b=some o->upd FE (ad 3 (m.goal B)) (.lst (v3++[.ref hl])) b=some o:=λb o n e=>by rw[av n];exact e
  have Kh:∀{b:Addr} {o:HO},FE b=some o->¬FP m.n ad b->b≠ad 3 (m.goal B):=λ{b o} _ h z=>h ⟨3,m.goal B,I,z⟩;have Py:=F1 _ _ (UY _ _ aem);have nev:ev≠ad 3 (m.goal B):=λz=>by have:=F2 _ _ e3;rw[<-z,Py]at this;cases this
  calc cN (kA _ _ nev Py) (ay (j:=1) rfl) ?_;calc bC _ (NV (kA _ _ (Kh (F2 _ _ N) nP) (F2 _ _ N))) ?_;left;calc bu (kA _ _ (Kh (F2 _ _ o3.1) o3.2.2) (F2 _ _ o3.1)) (bc I) ?_;calc bu ab lW ?_;left;calc⟨_,m.goal B,kA _ _ (Ne.symm nA) aV,kh (by simp;lia),?_⟩;rw[NZ YD I,show(pS m r B k).set (m.goal B) (((r.mm (m.goal B)).dQ.length:Nat):Int)=m.iq r B k from rfl,Kf nA];have sK:au H9 (upd FE hl (.lst ((m.iq r B k).map V.int))):=λb o e=>by rw[av (ao e YF)];exact F1 _ _ e
  have eK:upd FE hl (.lst ((m.iq r B k).map V.int)) hl=some (.lst ((m.iq r B k).map V.int)):=ab;generalize hGK:upd FE hl (.lst ((m.iq r B k).map V.int))=K10 at *;have sHK:=Px.trans sK;have bK:=M.cA.same sHK;have FSK:FS F K10:=j0.fr (Z:=λ_=>False) sHK.fr (λ_ _ h=>h);have fresh:∀{b:Addr},H9 b=none->¬(F b\/FP m.n ad b):=λ{b} hb z=>by
   rcases z with z|z
   ·obtain⟨o,e,_⟩:=j0 b z;rw[Px _ _ e]at hb;cases hb
   ·obtain⟨o,e,_⟩:=b9.fp z;rw[e]at hb;cases hb
  have e3K:=sHK _ _ e3;have vX:=(BF.mk bK sHK.fr (UY.trans sK).fr).app (t:=3) (i:=m.goal B) I rfl e3K (fA.one (show HD _ 4 (.ref hl) (.lst ((m.iq r B k).map .int)) from .lst (by rw[gV (fresh YF)];calc eK) nofun (λi u e G he=>(fA.ints (H:=jY (λb=>F b\/FP m.n ad b) K10) (n:=3) (m.iq r B k)).2 i u e G he)));generalize Xi:upd K10 (ad 3 (m.goal B)) (.lst (v3++[.ref hl]))=Xj at *;clear kA Kh;left;calc bC _ (FQ (vX.f.at N nP)) ?_;obtain⟨J4,e6,d6⟩:=vX.b.dct (t:=6) (i:=B) L rfl;have UT:=O.lk B L;have Eb:=O.bs B L;left;calc bu (vX.f.at o6.1 o6.2.2) (bc L) ?_;have Lr:((r.ww B).cD.countP Option.isSome)<=(r.ww B).cD.length:=List.countP_le_length;have h6l:=d6.1;calc⟨ad 6 B,_,rfl,Bp.k (k:=Sum.inl ((k:Nat):Int)) e6 (small ()),?_⟩;have AR:=BF.mk (vX.b.upd (t:=6) (i:=B) L (S9 d6 hc.lies ((vX.b.ht (j0.fr vX.f M.cA.uw) (YB.aI vX.g.aN)).mono ∅))) (vX.f.upd ⟨6,B,L,rfl⟩ e6 trivial) (vX.g.upd ⟨6,B,L,rfl⟩ e6 trivial);generalize Xk:upd Xj (ad 6 B) (.dK (putK J4 (Sum.inl ((k:Nat):Int)) (.ref ev)))=Ut at *;left;calc bC _ (FT (AR.f.at N nP)) ?_;obtain⟨v1',e1',UZ⟩:=AR.b.lst (t:=1) (i:=m.goal B) I rfl;have z1':v1'.length=(r.mm (m.goal B)).dQ.length:=by simpa using UZ.1
  left;calc bu (AR.f.at o1.1 o1.2.2) (bc I) ?_;calc⟨.inl ⟨rfl,_,aM.of e1'⟩,?_⟩;left;calc iu v1' e1' (small ()) ?_;have LW:=AR.app (t:=1) (i:=m.goal B) I rfl e1' (fA.one (show HD _ 4 LP (tY ((m.work r B k).ns,(m.work r B k).row)) from(AR.b.ht (j0.fr AR.f M.cA.uw) (B7.aI AR.g.aN)).mono ∅));generalize akx:upd Ut (ad 1 (m.goal B)) (.lst (v1'++[LP]))=Sb at *;left;calc bC _ (Ym (LW.f.at N nP)) ?_;obtain⟨v2,e2,d2⟩:=LW.b.lst (t:=2) (i:=m.goal B) I rfl;have z2:v2.length=(r.mm (m.goal B)).wp.length:=by simpa using d2.1
  have YG:=O.lw _ I;left;calc bu (LW.f.at o2.1 o2.2.2) (bc I) ?_;calc⟨.inl ⟨rfl,_,aM.of e2⟩,?_⟩;calc bC _ (Ym (LW.f.at N nP)) ?_;left;calc bu (LW.f.at o2.1 o2.2.2) (bc I) ?_;nofun;obtain⟨vw,evw,dvw⟩:=d2.get (i:=(r.mm (m.goal B)).wp.length-1) (d:=.lst (((r.mm (m.goal B)).wp.bt []).map .int)) (by rw[aaB,lS (d:=[]) ()];rfl);obtain⟨lw,rfl,elw⟩:=x8 (dvw.cv dE);ac_rfl;calc bu e2 (m9 () (by rw[z2];calc evw)) ?_;have JF:¬FP m.n ad Ur:=λz=>by
   obtain⟨u,e,_⟩:=(M.cA.same R).fp z;rw[fl1]at e;cases e
  have Sa:¬FP m.n ad O9:=λz=>by
   obtain⟨u,e,_⟩:=(M.cA.same R).fp z;rw[fl2]at e;cases e
  have hbw:=O.bw _ I _ (gn (l:=(r.mm (m.goal B)).wp) (d:=[]) ());calc .inl ⟨_,_,elw,LW.g.at B8 Sa,J' (small (by simp;lia)),λnw hnw=>?_⟩;have Ki:=au.new (.lst (((r.mm (m.goal B)).wp.bt []).map V.int++(m.work r B k).words.map V.int)) hnw;have enw:upd Sb nw (.lst (((r.mm (m.goal B)).wp.bt []).map V.int++(m.work r B k).words.map V.int)) nw=some (.lst (((r.mm (m.goal B)).wp.bt []++(m.work r B k).words).map V.int)):=by rw[ab,aaD]
  generalize akC:upd Sb nw (.lst (((r.mm (m.goal B)).wp.bt []).map V.int++(m.work r B k).words.map V.int))=H14 at *;have w14:=LW.same Ki;have nnw:¬(F nw\/FP m.n ad nw):=λz=>by
   rcases z with z|z
   ·obtain⟨o,e,_⟩:=(j0.fr LW.f M.cA.uw) nw z;rw[hnw]at e;cases e
   ·obtain⟨o,e,_⟩:=LW.b.fp z;rw[hnw]at e;cases e
  left;calc iu v2 (Ki _ _ e2) (small ()) ?_;have w15:=w14.app (t:=2) (i:=m.goal B) I rfl (Ki _ _ e2) (fA.one (show HD _ 4 (.ref nw) (.lst (((r.mm (m.goal B)).wp.bt []++(m.work r B k).words).map .int)) from .lst (by rw[gV nnw];calc enw) nofun (λi u e G he=>(fA.ints (H:=jY (λb=>F b\/FP m.n ad b) H14) (n:=3) ((r.mm (m.goal B)).wp.bt []++(m.work r B k).words)).2 i u e G he)));generalize akE:upd H14 (ad 2 (m.goal B)) (.lst (v2++[.ref nw]))=H15 at *;left;calc bC _ (Am (w15.f.at N nP)) ?_;obtain⟨v0,e0,d0⟩:=w15.b.lst (t:=0) (i:=0) i0 rfl;have z0:v0.length=r.picks.length:=by simpa using d0.1
  left;calc gN (.inl ⟨rfl,_,aM.of e0⟩) df (λtp lg=>?_);have Pz:=au.new (.tup [.int ((B:Nat):Int),.int ((k:Nat):Int)]) lg;have YH:HT (upd H15 tp (.tup [.int ((B:Nat):Int),.int ((k:Nat):Int)])) 1 (.ref tp) (pairD ((B:Int),(k:Int))):=cS (n:=0) ab (.int _) (.int _);generalize akF:upd H15 tp (.tup [.int ((B:Nat):Int),.int ((k:Nat):Int)])=Yy at *;have w16:=w15.same Pz;have YI:=Pz _ _ e0;left;calc iu v0 YI (small ()) ?_;have PB:=w16.app (t:=0) (i:=0) i0 rfl YI (fA.one ((w16.b.ht (j0.fr w16.f M.cA.uw) YH).mono ∅));generalize akG:upd Yy (ad 0 0) (.lst (v0++[.ref tp]))=H17 at *;have aev:bT F H17 d (.ref tt) m (r.step m B k) ad:=M.own PB.f (PB.b.congr N0);have PD:SL H17 zs (m.work r B k).cR:=lD.aI PB.g.aN;have YJ:=PB.g.at R9 JF;have PF:=YB.aI PB.g.aN;have nD2:¬FP m.n ad D2:=λz=>by
   obtain⟨u,e,_⟩:=(M.cA.same Ta).fp z;rw[FG]at e;cases e
  have aex:=PB.g.at H4o nD2;clear b9 bK vX AR LW w14 w15 w16 d0 UZ d2 d6;left;have zX:zs.length=(m.work r B k).cR.length:=PD.1;have Sd:=O.step W L (k:=k);have Se:∀a c,some (m.ev r B)=some (a,c)->0<=a/\a<m.ms.length/\1<=c/\c<=((r.step m B k).mm a.toNat).hr.length:=DT W O L;refine⟨_,rfl,.inl ⟨⟨_,aM.of YJ⟩,ee (K:=K) (xs:=zs) (λi σ H'=>(∃Sg z14,σ=[some (V.ref d),some (V.int ((B:Nat):Int)),some (V.int ((k:Nat):Int)),some (V.int ((m.goal B:Nat):Int)),some (V.int ((m.place B:Nat):Int)),some (V.ref D2),some (V.ref ev),some LP,some (V.ref Ur),some (V.ref O9),some (V.ref rl'),z11,Sf,Sg,z14])/\Fr (FP m.n ad) H17 H'/\bT F H' d (.ref tt) m ((r.step m B k).send (m.outs (m.goal B)) (m.ev r B) ((m.work r B k).cR.take i)) ad) ?_ ?_ ?_ ?_⟩⟩
  ·exact⟨⟨_,_,rfl⟩,Fr.refl,aev⟩
  ·rintro i σ H' hi ⟨_,fi,_⟩;exact aM.of (fi.at YJ JF)
  ·intro i z σ H' hz FK;nofun;obtain⟨⟨Sg,z14,rfl⟩,fi,Ef⟩:=FK;have wc:i < zs.length:=(List.getElem?_eq_some_iff.mp hz).1;have Xp:i < (m.work r B k).cR.length:=by lia
   have yC:(m.work r B k).cR[i]?=some (m.work r B k).cR[i]:=cF Xp;have B9:=wk4 _ (aac Xp);have Sh:=(PD.2 i z _ hz yC).aI fi.aN;have NA:(r.step m B k).send (m.outs (m.goal B)) (m.ev r B) ((m.work r B k).cR.take (i+1))=((r.step m B k).send (m.outs (m.goal B)) (m.ev r B) ((m.work r B k).cR.take i)).send (m.outs (m.goal B)) (m.ev r B) [(m.work r B k).cR[i]]:=by
    rw[List.take_succ,yC];exact qI _
   have Ca:=(RS.uR.send (outs:=m.outs (m.goal B)) (ev:=m.ev r B) ((m.work r B k).cR.take i) Sd Se).mono (show _<=19998 by simp;lia);generalize (m.work r B k).cR[i]=p at *;obtain⟨pj,px⟩:=p;obtain⟨tz,u1,u2,kz,rfl,yZ,y1,y2⟩:=dD Sh;obtain rfl:=y1.ck;obtain rfl:=y2.ck;ac_rfl;calc uS (bG.of yZ) ?_;have N3:=fi.at aex nD2;left;calc bC _ (.inl ⟨_,aM.of N3,rfl⟩) ?_;left;have hlen:((vi m 0 (m.goal B)).map λi=>V.int ((i:Nat):Int)).length=(m.outs (m.goal B)).length:=by rw[aaC];rfl
   rw[hlen];have ej:((pj.toNat:Nat):Int)=pj:=aaA B9;by_cases iB:pj<((m.outs (m.goal B)).length:Nat)
   ·rw[if_pos (by simpa using iB)];have OQ:pj.toNat < (m.outs (m.goal B)).length:=by lia
    have sM:(m.outs (m.goal B)).getD pj.toNat 0<m.ws.length:=by
     have:=getD_mem (d:=0) OQ;unfold NT.outs at this ⊢;rw[List.mem_filter,List.mem_range]at this;exact this.1
    have Xb:gU ((vi m 0 (m.goal B)).map λi=>V.int ((i:Nat):Int)) pj=some (.int (((m.outs (m.goal B)).getD pj.toNat 0:Nat):Int)):=by
     rw[<-ej];calc ay ?_;rw[aaB];show Option.map _ (m.outs (m.goal B))[_]?=_;rw[Int.toNat_natCast,aS (d:=0) OQ];rfl
    nofun;obtain⟨U,how⟩:∃U,U=(m.outs (m.goal B)).getD pj.toNat 0:=⟨_,rfl⟩
    rw[<-how]at sM Xb;generalize U3:(r.step m B k).send (m.outs (m.goal B)) (m.ev r B) ((m.work r B k).cR.take i)=ri at *;obtain⟨oi,YK,nFi,nPi,YL⟩:=Ef.dk;have oi4:=YL 4 ∅ ∅;have YM:=YL 5 ∅ ∅;have bi:=Ef.cA;obtain⟨w4,x4,y4⟩:=bi.lst (t:=4) (i:=U) sM rfl;ac_rfl;have l4:w4.length=(ri.ww U).say.length:=by simpa using y4.1
    have hb4:=Ca.bs U sM;have hb5:=Ca.ls U sM;left;calc bC _ (J0 YK) ?_;left;calc bu N3 Xb ?_;calc bu oi4.1 (bc sM) ?_;calc⟨.inl ⟨rfl,_,aM.of x4⟩,?_⟩;left;calc iu w4 x4 (small ()) ?_;have bj:=bi.app (t:=4) (i:=U) sM rfl x4 (fA.one (.int px));have fj:Fr (FP m.n ad) H' (upd H' (ad 4 U) (.lst (w4++[.int px]))):=Fr.refl.upd ⟨4,U,sM,rfl⟩ x4 trivial;generalize YN:upd H' (ad 4 U) (.lst (w4++[.int px]))=Hj at *;obtain⟨w5,x5,y5⟩:=bj.lst (t:=5) (i:=U) sM rfl;have l5:w5.length=(ri.ww U).snd.length:=by simpa using y5.1
    left;calc bC _ (J1 (fj.at YK nPi)) ?_;left;calc bu (fj.at N3 nD2) Xb ?_;calc bu (fj.at YM.1 YM.2.2) (bc sM) ?_;calc⟨.inl ⟨rfl,_,aM.of x5⟩,?_⟩;left;calc iu w5 x5 (small ()) ?_;have FSj:FS F Hj:=j0.fr ((PB.f.trans fi).trans fj) M.cA.uw;have bk:=bj.app (t:=5) (i:=U) sM rfl x5 (fA.one (show HD _ 4 (.ref ev) (nI (some (m.ev r B))) from(bj.ht FSj ((PF.aI fi.aN).aI fj.aN)).mono ∅));have fk:Fr (FP m.n ad) H' (upd Hj (ad 5 U) (.lst (w5++[.ref ev]))):=fj.upd ⟨5,U,sM,rfl⟩ x5 trivial;left;calc gN ⟨_,_,rfl,rfl⟩ (fi.trans fk) ?_;rw[NA];show bT F _ d _ m (if pj.toNat<_ then _ else _) ad;rw[if_pos OQ];show bT F _ d _ m (ri.put ((m.outs (m.goal B)).getD pj.toNat 0) px (some (m.ev r B))) ad;rw[<-how];exact Ef.own fk (bk.congr Ke)
   ·rw[if_neg (by simpa using iB)];left;calc gN ⟨_,_,rfl,rfl⟩ fi ?_;rw[NA];show bT F H' d _ m (if pj.toNat<_ then _ else _) ad;rw[if_neg ()];exact Ef
  ·intro σ H' JU;obtain⟨⟨Sg,z14,rfl⟩,fi,Ef⟩:=JU;left;rw[zX,List.take_length]at Ef;exact q _ _ (PB.f.trans fi) Ef (PF.aI fi.aN)
 clear hN2
 cases LL:(r.ww B).snd.getD k none with
 |none=>
  rw[LL]at dv5;have:=B5 dv5;subst this;left
  try rw[if_neg ∅]
  left;calc rest rl _ _ H8 (au.refl _) ?_;unfold pS;rw[LL];calc wb
 |some sc=>
  nofun;obtain⟨s0,c0⟩:=sc;rw[LL]at dv5;obtain⟨ae,rfl,hae⟩:=pO (dv5.cv dE);have aeB:=X _ _ hae;have yU:some (s0,c0)∈(r.ww B).snd:=by rw[<-LL];exact getD_mem ()
  obtain⟨q1,q2,q3,q4⟩:=O.sd B L s0 c0 yU;ac_rfl;left
  try rw[if_pos ∅]
  left;calc bC _ (J1 (X _ _ N)) ?_;left;calc bu (X _ _ o5.1) (bc L) ?_;calc bu (X _ _ e5) (ay ev5) ?_;calc uS (bG.of aeB) ?_;left;calc bo ?_;left;calc bC _ (NV (X _ _ N)) ?_;have hsm:s0.toNat<m.ms.length:=by lia
  have es0:((s0.toNat:Nat):Int)=s0:=aaA q1;have ec0:(((c0-1).toNat:Nat):Int)=c0-1:=aaA ();left;calc bu (X _ _ o3.1) (show gU _ s0=some (.ref (ad 3 s0.toNat)) from by have:=bc (n:=m.n) (ad:=ad) (t:=3) hsm;rw[es0]at this;calc this) ?_;nofun;obtain⟨vs3,es3,ds3⟩:=M.cA.lst (t:=3) (i:=s0.toNat) hsm rfl;obtain⟨vr,evr,dvr⟩:=ds3.get (i:=(c0-1).toNat) (d:=.lst (((r.mm s0.toNat).hr.getD (c0-1).toNat []).map .int)) (by rw[aaB,aS (d:=[]) ()];rfl);obtain⟨lo,rfl,DW⟩:=x8 (dvr.cv dE);ac_rfl;calc bu (X _ _ es3) (show gU _ (c0-1)=some (.ref lo) from by rw[<-ec0];calc ay evr) ?_;have N4:=X _ _ DW;left;calc fM true true _ _ (Sq.l wb) (Sq.l N4) (λD3 FH=>?_);have agX:((r.mm (m.goal B)).hr.bt (List.replicate m.ms.length 0)).length=m.ms.length:=by
   by_cases h1:1<=(r.mm (m.goal B)).hr.length
   ·exact O.hl _ I _ (gn h1)
   ·have ez:(r.mm (m.goal B)).hr=[]:=List.length_eq_zero_iff.mp ();rw[ez];simp[List.bt]
  have agY:((r.mm s0.toNat).hr.getD (c0-1).toNat []).length=m.ms.length:=O.hl _ hsm _ (getD_mem ());have ehr:pS m r B k=List.zipWith max ((r.mm (m.goal B)).hr.bt (List.replicate m.ms.length 0)) ((r.mm s0.toNat).hr.getD (c0-1).toNat []):=by
   unfold pS;rw[LL]
  generalize hA:(r.mm (m.goal B)).hr.bt (List.replicate m.ms.length 0)=LA at *;generalize hB:(r.mm s0.toNat).hr.getD (c0-1).toNat []=LB at *;refine aZ (J:=Wc true true K rl lo) (n:=m.ms.length) (λi ys H'=>au H8 H'/\ys=((List.zipWith max LA LB).take i).map V.int) (J' (aA ())) ⟨au.new _ FH,rfl⟩ ?_ ?_ ?_ ?_
  ·rintro i ys H' hi ⟨Y,_⟩;exact⟨_,_,_,_,Sq.l (Y _ _ wb),Sq.l (Y _ _ N4),by rw[aaB,aS (d:=0) ()];rfl,by rw[aaB,aS (d:=0) ()];rfl⟩
  ·rintro ys H' ⟨Y,_⟩;exact⟨_,_,Sq.l (Y _ _ wb),Sq.l (Y _ _ N4),.inl (by simp;lia)⟩
  ·intro i ys H' hi aV hl NQ xx H4' zq9;nofun;obtain⟨Y,rfl⟩:=NQ;obtain⟨t',Gq,rfl,y⟩:=zq9;obtain⟨x1,x2,X7,X8,rfl⟩:=y _ _ (Sq.l (Y _ _ wb)) (Sq.l (Y _ _ N4));rw[aaB,aS (d:=0) ()] at X7 X8;obtain rfl:=Option.some.inj X7;obtain rfl:=Option.some.inj X8;ac_rfl;have s2:=au.new (.tup [.int (LA.getD i 0),.int (LB.getD i 0)]) Gq;have sE:upd H' t' (.tup [.int (LA.getD i 0),.int (LB.getD i 0)]) t'=some (.tup [.int (LA.getD i 0),.int (LB.getD i 0)]):=ab;calc uS (bG.of sE) ⟨Ext.set (Ext.set (Ext.refl _) rfl) rfl,?_⟩;left
   try rw[if_pos trivial]
   calc bH (s2 _ _ aV) hl hi (J' (aA ())) ⟨λc o e=>by rw[av (ao e FH)];calc s2 _ _ (Y _ _ e),?_⟩;rw[List.take_succ,List.getElem?_zipWith,aS (l:=LA) (d:=0) (),aS (l:=LB) (d:=0) (),aaD];show _++[V.int (if LB.getD i 0 > LA.getD i 0 then LB.getD i 0 else LA.getD i 0)]=_++[V.int (max (LA.getD i 0) (LB.getD i 0))]
   congr 3;split<;>lia
  rintro ys H9 aV hl ⟨s89,rfl⟩;rw[List.take_of_length_le (by simp;lia),<-ehr]at aV;left;calc rest D3 _ _ H9 s89 aV
theorem rH.nil{ct:Nat->Hp->HO->Prop}:rH H0 H' D [] 0 ct:=⟨rfl,List.nodup_nil,λa h=>by simp at h,λj a h=>by simp at h⟩
theorem rH.snoc{n:Nat}{ct:Nat->Hp->HO->Prop}(h:rH H0 H1 D as n ct)(q:au H0 H1)(r:H1 D≠none)(g:H1 a=none){o:HO}(e:H' a=some o)(c:ct n H' o)(s:∀b o,b≠D->H1 b=some o->H' b=some o)(f:∀j o,ct j H1 o->ct j H' o):rH H0 H' D (as++[a]) (n+1) ct:=by
 refine⟨by simp[h.len],?_,λb d=>?_,λj b d=>?_⟩
 ·rw[List.nodup_append];calc gN h.nd nofun (λb d c l=>?_);simp at l;subst l;intro z;subst z;obtain⟨j,k⟩:=aap d;obtain⟨m,i,_⟩:=h.ins j b k;rw[g]at i;cases i
 ·rcases List.mem_append.mp d with d | d
  ·exact h.new b d
  ·simp at d;subst d;refine⟨?_,λz=>r (z ▸ g)⟩
   cases t:H0 b with
   |none=>rfl
   |some o=>rw[q _ _ t]at g;cases g
 ·by_cases k:j < as.length
  ·rw[aaH k]at d;obtain⟨m,i,g⟩:=h.ins j b d;exact⟨m,s _ _ (h.new b (W' d)).2 i,f _ _ g⟩
  ·rw[aaG ()] at d
   cases p:j-as.length with
   |zero=>
    rw[p]at d;simp at d;subst d;have:j=n:=by have:=h.len;lia
    subst this;calc⟨o,e,c⟩
   |succ k=>rw[p]at d;simp at d
theorem rH.keep{n:Nat}{ct:Nat->Hp->HO->Prop}(h:rH H0 H1 D as n ct)(s:∀(j:Nat) (b:Addr) (o:HO),H1 b=some o->ct j H1 o->H' b=some o/\ct j H' o):rH H0 H' D as n ct:=
 ⟨h.len,h.nd,h.new,λj a e=>by
  obtain⟨c,d,f⟩:=h.ins j a e;calc⟨c,s _ _ _ d f⟩⟩
theorem sR{K:W.Frag}{ix:List (Option Nat)}{t:TE}{l:Addr}{xs:List V}{o:HO}(v:H l=some (.lst xs))(w:H D=none)(I:xs.length<=10)(z:∀x,Ext (tF ix σ) ((tF ix σ).set 0 (some x)))(d:∀g k (R:VK),(∀p,k p=none->R (.ref p) (upd k p o))->t g k R)(q:∀as H1,H1 D=some (.lst (as.map V.ref))->au H H1->rH H H1 D as xs.length (λ_ _ u=>u=o)->Q (.ref D) H1):lP ix (rD K l) (dI 0) fP t σ H Q D:=by
 refine aZ (n:=xs.length) (λi ys H'=>∃as:List Addr,ys=as.map V.ref/\au H H'/\rH H H' D as i (λ_ _ u=>u=o)) (J' (small ())) ⟨[],rfl,au.new _ w,rH.nil⟩ ?_ ?_ ?_ ?_
 ·rintro i ys H' m ⟨_,_,a,_⟩;exact⟨_,xs[i],aM.of (a _ _ v),cF m⟩
 ·rintro ys H' ⟨_,_,a,_⟩;exact⟨_,aM.of (a _ _ v),E' _⟩
 ·intro i ys H' m c y B C J F;obtain⟨as,rfl,a,r⟩:=B;obtain⟨rfl,g⟩:=F;calc⟨z C,?_⟩;simp only[fP,if_true];calc d _ _ _ λp g=>?_;have d:=au.new o g;have i:p≠D:=Ne.symm (ao c g);refine bH (d _ _ c) y m (J' (small ())) ⟨as++[p],nofun,λb o e=>?_,?_⟩
  ·rw[av (ao e w)];exact d _ _ (a _ _ e)
  ·refine r.snoc a (by rw[c];simp) g (o:=o) ?_ rfl (λb o a e=>?_) (λj u e=>e)
   ·rw[av i];exact ab
   ·rw[av a];exact d _ _ e
 ·intro ys H1 c y G;obtain⟨as,rfl,a,r⟩:=G;calc q as H1 c a r
theorem rH.some{n:Nat}{ct:Nat->Hp->HO->Prop}(h:rH H0 H1 D as n ct):∀a∈as,H1 a≠none:=λa m=>by
 obtain⟨j,e⟩:=aap m;obtain⟨b,e,_⟩:=h.ins j a e;rw[e];calc λz=>nomatch z
def kL(l:List Addr):List (Key×V):=List.zipWith (λk a=>(Sum.inr k,V.ref a)) ["net","put","sender","worker","states","words","heard","events"] l
theorem pT{C:Hp}{d:Addr}{l:List Addr}{k:Key}(c:H d=none)(S:au H C)(f:C d=some (.dK (kL l)))(a:au C H')(g:putK (kL l) k (V.ref D)=kL (l++[D]))(h:l.length<=8)(q:∀G,G d=some (.dK (kL (l++[D])))->(∀b o,b≠d->C b=some o->G b=some o)->(∀b o,b≠d->H' b=some o->G b=some o)->au H G->R G):∃d' G,d=d'/\Bp H' d' (kV k) (V.ref D) G/\R G:=by
 calc⟨d,_,rfl,Bp.k (a _ _ f) (small (by unfold kL;rw[List.length_zipWith];lia)),?_⟩;rw[g];calc q _ ab (λb o n e=>by rw[av n];calc a _ _ e) (λb o n e=>by rw[av n];calc e) (λb o e=>by rw[av (ao e c)];calc a _ _ (S _ _ e))
abbrev mD:Stmt:=top 69
inductive Kj(vs:List V)(H:Hp)(Q:VK):Prop
 |mk (F:Addr->Prop) (tn:V) (nt:NT) (ls:List (Int×Int)) (h0:vs=[tn]) (h1:ToldN (jY F H) tn nt.ms nt.ws ls) (h2:FS F H) (h3:nt.Ok) (h4:ls.length<=20) (h5:∀l∈ls,0<=l.1/\l.1<nt.ws.length) (h6:∀d ad H',au H H'->(∀b,FP nt.n ad b->H b=none)->H d=none->bT F H' d tn nt (RS.begin nt ls) ad->Q (.ref d) H'):Kj vs H Q
def ya:Sp:=λvs H Q _=>Kj vs H Q
theorem Aq(D:cK K mg "_law_begun" "_law_begun" mD ["_law_net_here"])(T:Tx K mg C CN CR F FD):Def P w K mg base "_law_begun" 1 ["_law_net_here"] ya:=by
 have sc:aD ["_law_net_here","_law_run","_law_way","_law_said"] ["_law_net_here"] (az mD):=by walk_at "s"
 symm;obtain⟨F,tn,g,ls,rfl,hN,j0,aY,jm,i9,q⟩:=h;have N:=hr.units;have zB:=Ui N;refine⟨_,(af (aU (i:=1) sc.nd rfl Sort (Mv (tx aC (aq 0) (tx aC (cI (N':=["_law_way"]) (ix:=[none]) (bz (aj N (aq 0) ai)) (λ_ _ _ _=>(aO (i:=0) (show(["_law_way"]:List Str).Nodup by decide +kernel) rfl Sort)) ko (λ_ _ _ _=>(bA aa))) (tx aC (cI (N':=["_law_way"]) (ix:=[none]) (bz (aj N (aq 0) ai)) (λ_ _ _ _=>(aO (i:=0) (show(["_law_way"]:List Str).Nodup by decide +kernel) rfl Sort)) ko (λ_ _ _ _=>(bA aa))) Mu))) rfl rfl ∅ ∅))
  (af (mV zB (aq 1) aC (cI (N':=["_law_way"]) (ix:=[none]) (bz (aj N (aq 0) ai)) (λ_ _ _ _=>(aO (i:=0) (show(["_law_way"]:List Str).Nodup by decide +kernel) rfl Sort)) ko (λ_ _ _ _=>Hl)) rfl)
  (af (mV zB (aq 1) aC (cI (N':=["_law_one"]) (ix:=[none]) (bz (aj N (aq 0) ai)) (λ_ _ _ _=>(aO (i:=0) (show(["_law_one"]:List Str).Nodup by decide +kernel) rfl Sort)) ko (λ_ _ _ _=>(bA (ag (bD (ag (cL (pA (K:=K) rfl) rfl T.bP p8 (ag (cu (K:=K) rfl N (aq 0) ai) aa)) (ag (cL (pA (K:=K) rfl) rfl T.bP p8 (ag (cu (K:=K) rfl N (aq 0) ai) aa)) aa))) aa)))) rfl)
  (af (mV zB (aq 1) aC (cI (N':=["_law_one"]) (ix:=[none]) (bz (aj N (aq 0) ai)) (λ_ _ _ _=>(aO (i:=0) (show(["_law_one"]:List Str).Nodup by decide +kernel) rfl Sort)) ko (λ_ _ _ _=>(bA (ag (bA aa) aa)))) rfl)
  (af (mV zB (aq 1) aC (cI (N':=["_law_one"]) (ix:=[none]) (bz (aj N (aq 0) ai)) (λ_ _ _ _=>(aO (i:=0) (show(["_law_one"]:List Str).Nodup by decide +kernel) rfl Sort)) ko (λ_ _ _ _=>(bA aa))) rfl)
  (af (mV zB (aq 1) aC (bA aa) rfl)
  (af (dJ PassesOwn.never rfl (bz (aj N (aq 0) ai)) (dW (i:=2) (j:=3) rfl sc.nd rfl rfl Sort Sort)
  (af (bN (dz nM p6 p7 bS (aj N (aj N (aq 1) aC) (aq 2)) (ag (aq 3) aa)))
  (ak (bN (dz nM p6 p7 bS (aj N (aj N (aq 1) aC) (aq 2)) (ag fu aa))))))
  (ak (aG (aq 1)))))))))),?_⟩
 nofun;obtain⟨tt,am,aw,al,mv,wv,lv,rfl,h1,h2,h3,h4,h5,h6,h7⟩:=id hN;have g1:=(ei h1 (λk z=>by cases z)).2;have X:=(ei h2 (λk z=>by cases z)).2;have g3:=(ei h3 (λk z=>by cases z)).2;have g4:=(ei h4 (λk z=>by cases z)).2
 replace h5:=h5.cv dE
 replace h6:=h6.aI dE.aN
 replace h7:=h7.aI dE.aN
 ac_rfl;have lx:wv.length=g.ws.length:=by simpa using h6.1
 have oT:mv.length=g.ms.length:=h5.1;have qm:lv.length=ls.length:=by simpa using h7.1
 have T:wv.length<=10:=by rw[lx];exact aY.Fb
 have T:mv.length<=5:=by rw[oT];exact aY.Gf
 left;refine MX λd rT=>?_;have U4:=au.new (.dK []) rT;have ed0:upd H d (.dK []) d=some (.dK []):=ab;generalize hGd:upd H d (.dK [])=C1 at *;left;refine bo ?_;left;refine cN (U4 _ _ g1) (ay (j:=1) rfl) ?_;left;refine .inl ⟨⟨_,aM.of (U4 _ _ g3)⟩,λD1 Gj=>?_⟩;refine sR (o:=.lst []) (U4 _ _ g3) Gj () (λ_=>Ext.set (Ext.refl _) rfl) (λ_ _ _ r=>And.intro ∅ r) ?_;intro A1 H1 l Xx hL1;have Xz:=l;clear l;have fD1:C1 D1=none:=Gj;left;generalize hC2:H1=C2 at *;have S2:=U4.trans Xx;have U5:=Xx _ _ ed0;have kd1:∀b o,b≠d->C1 b=some o->C2 b=some o:=λb o _ e=>Xx _ _ e;refine bo ?_;left;refine cN (S2 _ _ g1) (ay (j:=1) rfl) ?_;left;refine .inl ⟨⟨_,aM.of (S2 _ _ g3)⟩,λD2 FG=>?_⟩;refine sR (o:=.lst []) (S2 _ _ g3) FG () (λ_=>Ext.set (Ext.refl _) rfl) (λ_ _ _ r=>And.intro ∅ r) ?_;intro A2 H2 l Uw hL2;have Uy:=l;clear l;have XC:C2 D2=none:=FG;left;have T:H2 d=some (.dK []):=Uw _ _ U5;refine⟨T,kL [tt,D1,D2],rfl,by simp[kL,List.zipWith],?_⟩;rw[show nQ [] (kL [tt,D1,D2])=kL [tt,D1,D2] by kernel_rfl];obtain⟨C3,hC3,U6,Ux,ke2⟩:=Xs (d:=d) (kL [tt,D1,D2]) Uw;rw[hC3];have S3:au H C3:=λb o e=>Ux b o (ao e rT) (S2 _ _ e);clear hC3;clear T;left;refine bo ?_;left;refine cN (S3 _ _ g1) (ay (j:=1) rfl) ?_;left;refine .inl ⟨⟨_,aM.of (S3 _ _ g3)⟩,λD3 T=>?_⟩;refine sR (o:=.dK []) (S3 _ _ g3) T () (λ_=>Ext.set (Ext.refl _) rfl) (λ_ _ _ r=>r) ?_;intro A3 H3 l XE hL3;have UB:=l;clear l;have XH:C3 D3=none:=T;left;refine pT (k:=Sum.inr "worker") rT S3 U6 XE (by kernel_rfl) nofun λC4 Tb XF ke3 S4=>?_;left;refine bo ?_;left;refine cN (S4 _ _ g1) (ay (j:=0) rfl) ?_;left;refine .inl ⟨⟨_,aM.of (S4 _ _ X)⟩,λD4 UE=>?_⟩;refine aZ (J:=rD K am) (n:=mv.length) (λi ys H'=>∃as:List Addr,ys=as.map V.ref/\au C4 H'/\rH C4 H' D4 as i (λj H' o=>∃v,o=.lst [v]/\HT H' 2 v (zb (g.ms.getD j default).ns (g.ms.getD j default).row))) (J' (small ())) ⟨[],rfl,au.new _ UE,rH.nil⟩ ?_ ?_ ?_ ?_
 ·rintro i ys H' hi ⟨_,_,M,_⟩;exact⟨_,mv[i],aM.of (M _ _ (S4 _ _ X)),cF hi⟩
 ·rintro ys H' ⟨_,_,M,_⟩;exact⟨_,aM.of (M _ _ (S4 _ _ X)),E' _⟩
 ·intro i ys H' hi l hl pJ xx H4 ui;nofun;obtain⟨as,rfl,M,hL⟩:=pJ;obtain⟨rfl,hy⟩:=ui;ac_rfl;have ex:=hy _ (aM.of (M _ _ (S4 _ _ X)));walk_at "xf";left
  try rw[if_pos trivial]
  have NF:i<g.ms.length:=by lia
  obtain⟨mt,ln,lr,ld,xsd,rfl,m1,m2,m3,T,m5⟩:=h5.2 i xx _ ex (aS (d:=default) NF);have T:=(S4.trans M)
  calc cN (T _ _ m1) (ay (j:=1) rfl) ?_;left;calc .inl ⟨_,aM.of (T _ _ m2),λt1 BW=>?_⟩;have r1:=au.new (.tup ((g.ms.getD i default).ns.map V.int)) BW;calc cN (r1 _ _ (T _ _ m1)) (ay (j:=2) rfl) ?_;left;calc .inl ⟨_,aM.of (r1 _ _ (T _ _ m3)),λt2 sE=>?_⟩;have r2:=au.new (.tup ((g.ms.getD i default).row.map V.int)) sE;calc⟨df,λt3 T=>?_⟩;have r3:=au.new (.tup [.ref t1,.ref t2]) T;have S:=r1.trans (r2.trans r3);have O:HT (upd (upd (upd H4 t1 (.tup ((g.ms.getD i default).ns.map V.int))) t2 (.tup ((g.ms.getD i default).row.map V.int))) t3 (.tup [.ref t1,.ref t2])) 2 (.ref t3) (zb (g.ms.getD i default).ns (g.ms.getD i default).row):=cS ab (pC (r3 _ _ (r2 _ _ ab))) (pC (r3 _ _ ab));generalize hGP:upd (upd (upd H4 t1 (.tup ((g.ms.getD i default).ns.map V.int))) t2 (.tup ((g.ms.getD i default).row.map V.int))) t3 (.tup [.ref t1,.ref t2])=HP at *;have F3:=S _ _ l;left;calc⟨∅,λp hp=>?_⟩;have U:=au.new (.lst [.ref t3]) hp;have Tc:=U _ _ F3;have nD:p≠D4:=Ne.symm (ao F3 hp);refine bH Tc hl hi (J' (small ())) ⟨as++[p],nofun,λb o e=>?_,?_⟩
  ·rw[av (ao e UE)];exact U _ _ (S _ _ (M _ _ e))
  ·refine hL.snoc M (by rw[l];simp) (S.free hp) (o:=.lst [.ref t3]) ?_ ⟨_,rfl,O.aI (λb xs e=>by rw[av (λz=>by rw[z,F3] at e;cases e)];calc U _ _ e)⟩ (λb o nb e=>?_) (λj o ⟨v,e,h⟩=>⟨v,e,h.aI (λb xs e=>by rw[av (λz=>by rw[z,l] at e;cases e)];calc U _ _ (S _ _ e))⟩)
   ·rw[av nD];exact ab
   ·rw[av nb];exact U _ _ (S _ _ e)
 intro ys H4 l hl zE;obtain⟨A4,rfl,UG,hL4⟩:=zE;have UH:=l;clear l hl;have fD4:C4 D4=none:=UE;left;refine pT (k:=Sum.inr "states") rT S4 Tb UG (by kernel_rfl) nofun λR PH XJ ke4 S5=>?_;left;refine bo ?_;left;refine cN (S5 _ _ g1) (ay (j:=0) rfl) ?_;left;refine .inl ⟨⟨_,aM.of (S5 _ _ X)⟩,λY Du=>?_⟩;refine aZ (J:=rD K am) (n:=mv.length) (λi ys H'=>∃as:List Addr,ys=as.map V.ref/\au R H'/\rH R H' Y as i (λ_ H' o=>∃q,o=.lst [.ref q]/\H' q=some (.lst [])/\R q=none/\q≠Y)) (J' (small ())) ⟨[],rfl,au.new _ Du,rH.nil⟩ ?_ ?_ ?_ ?_
 ·rintro i ys H' hi ⟨_,_,M,_⟩;exact⟨_,mv[i],aM.of (M _ _ (S5 _ _ X)),cF hi⟩
 ·rintro ys H' ⟨_,_,M,_⟩;exact⟨_,aM.of (M _ _ (S5 _ _ X)),E' _⟩
 ·intro i ys H' hi l hl FK xx H4 JU;nofun;obtain⟨as,rfl,M,hL⟩:=FK;obtain⟨rfl,hy⟩:=JU;ac_rfl;have ex:=hy _ (aM.of (M _ _ (S5 _ _ X)));walk_at "xf";left
  try rw[if_pos trivial]
  calc⟨U' _,λqq hqq=>?_⟩;have S:=au.new (.lst []) hqq;have eqq:upd H4 qq (.lst []) qq=some (.lst []):=ab;have nqD:qq≠Y:=Ne.symm (ao l hqq);generalize hGP:upd H4 qq (.lst [])=HP at *;have F3:=S _ _ l;left;calc⟨∅,λp hp=>?_⟩;have U:=au.new (.lst [.ref qq]) hp;have Tc:=U _ _ F3;have nD:p≠Y:=Ne.symm (ao F3 hp);refine bH Tc hl hi (J' (small ())) ⟨as++[p],nofun,λb o e=>?_,?_⟩
  ·rw[av (ao e Du)];exact U _ _ (S _ _ (M _ _ e))
  ·refine hL.snoc M (by rw[l];simp) (S.free hp) (o:=.lst [.ref qq]) ?_ ⟨qq,rfl,by rw[av nqD];calc U _ _ eqq,M.free hqq,nqD⟩ (λb o nb e=>?_) (λj o ⟨M,e,h,h',h2⟩=>⟨M,e,by rw[av h2];calc U _ _ (S _ _ h),h',h2⟩)
   ·rw[av nD];exact ab
   ·rw[av nb];exact U _ _ (S _ _ e)
 intro ys H5 l hl NQ;obtain⟨A5,rfl,UK,hL5⟩:=NQ;have UM:=l;clear l hl;have fD5:R Y=none:=Du;left;refine pT (k:=Sum.inr "words") rT S5 PH UK (by kernel_rfl) nofun λC6 Td XO ke5 M=>?_;left;refine bo ?_;left;refine cN (M _ _ g1) (ay (j:=0) rfl) ?_;left;refine .inl ⟨⟨_,aM.of (M _ _ X)⟩,λD6 S=>?_⟩;refine sR (o:=.lst []) (M _ _ X) S () (λ_=>Ext.set (Ext.refl _) rfl) (λ_ _ _ r=>And.intro ∅ r) ?_;intro A6 T l XT hL6;have FI:=l;clear l;have fD6:C6 D6=none:=S;left;refine pT (k:=Sum.inr "heard") rT M Td XT (by kernel_rfl) nofun λC7 U7 XU ke6 S7=>?_;left;refine⟨U' _,λpe yC=>?_⟩;have sE7:=au.new (.lst []) yC;have aeH:upd C7 pe (.lst []) pe=some (.lst []):=ab;have npe:pe≠d:=Ne.symm (ao U7 yC);generalize akU:upd C7 pe (.lst [])=E7 at *;refine pT (k:=Sum.inr "events") rT S7 U7 sE7 (by kernel_rfl) nofun λZ edF kd7 l SF=>?_;have epe:=l _ _ npe aeH;have x:∀(A:Hp) (kv:List (Key×V)) (b:Addr) (vs:List V),A d=some (.dK kv)->A b=some (.lst vs)->b≠d:=λA kv b vs I W z=>by rw[z,I]at W;cases W
 have ndk:∀(A:Hp) (p:Key×V) (kv:List (Key×V)) (b:Addr),A d=some (.dK (p::kv))->A b=some (.dK [])->b≠d:=λA p kv b I W z=>by rw[z,I]at W;cases W
 have LZ:∀(A:Hp) (kv:List (Key×V)) (b:Addr) (vs:List V),A d=some (.dK kv)->A b=some (.tup vs)->b≠d:=λA kv b vs I W z=>by rw[z,I]at W;cases W
 have kc7:=kd7;have kc6:∀b o,b≠d->C6 b=some o->Z b=some o:=λb o n e=>kc7 b o n (XU b o n e);have NG:∀b o,b≠d->R b=some o->Z b=some o:=λb o n e=>kc6 b o n (XO b o n e);have Pl:∀b o,b≠d->C4 b=some o->Z b=some o:=λb o n e=>NG b o n (XJ b o n e);have Pm:∀b o,b≠d->C3 b=some o->Z b=some o:=λb o n e=>Pl b o n (XF b o n e);have Sn:∀b o,b≠d->C2 b=some o->Z b=some o:=λb o n e=>Pm b o n (Ux b o n e);have YO:rH C1 C2 D1 A1 wv.length (λ_ _ o=>o=.lst []):=hL1;have Kk:=Xz;have YQ:=YO.keep (λj b o e c=>by subst c;calc⟨Sn b _ (x _ _ _ _ U5 e) e,rfl⟩);have YR:=Sn _ _ (x _ _ _ _ U5 Kk) Kk;have YS:rH C2 C3 D2 A2 wv.length (λ_ _ o=>o=.lst []):=hL2.keep (λj b o e c=>by subst c;calc⟨ke2 b _ (x _ _ _ _ (Uw _ _ U5) e) e,rfl⟩);have Kl:=ke2 _ _ (x _ _ _ _ (Uw _ _ U5) Uy) Uy;have YT:=YS.keep (λj b o e c=>by subst c;calc⟨Pm b _ (x _ _ _ _ U6 e) e,rfl⟩);have YU:=Pm _ _ (x _ _ _ _ U6 Kl) Kl;have YV:rH C3 C4 D3 A3 wv.length (λ_ _ o=>o=.dK []):=hL3.keep (λj b o e c=>by subst c;calc⟨ke3 b _ (ndk _ _ _ _ (XE _ _ U6) e) e,rfl⟩);have Km:=ke3 _ _ (x _ _ _ _ (XE _ _ U6) UB) UB;have YW:=YV.keep (λj b o e c=>by subst c;calc⟨Pl b _ (ndk _ _ _ _ Tb e) e,rfl⟩);have YX:=Pl _ _ (x _ _ _ _ Tb Km) Km;have YY:rH C4 R D4 A4 mv.length (λj H' o=>∃v,o=.lst [v]/\HT H' 2 v (zb (g.ms.getD j default).ns (g.ms.getD j default).row)):=hL4.keep (λj b o e c=>by
  obtain⟨v,rfl,O⟩:=c;calc⟨ke4 b _ (x _ _ _ _ (UG _ _ Tb) e) e,v,rfl,O.aI (λb' xs e'=>ke4 b' _ (LZ _ _ _ _ (UG _ _ Tb) e') e')⟩)
 have Kn:=ke4 _ _ (x _ _ _ _ (UG _ _ Tb) UH) UH;have YZ:=YY.keep (λj b o e c=>by
  obtain⟨v,rfl,O⟩:=c;calc⟨NG b _ (x _ _ _ _ PH e) e,v,rfl,O.aI (λb' xs e'=>NG b' _ (LZ _ _ _ _ PH e') e')⟩)
 have Y0:=NG _ _ (x _ _ _ _ PH Kn) Kn;have xS:rH R C6 Y A5 mv.length (λ_ H' o=>∃q,o=.lst [.ref q]/\H' q=some (.lst [])/\R q=none/\q≠Y):=hL5.keep (λj b o e c=>by
  obtain⟨v,rfl,O,Y1,Y2⟩:=c;calc⟨ke5 b _ (x _ _ _ _ (UK _ _ PH) e) e,v,rfl,ke5 v _ (x _ _ _ _ (UK _ _ PH) O) O,Y1,Y2⟩)
 have wC:=ke5 _ _ (x _ _ _ _ (UK _ _ PH) UM) UM;have nn:∀{A:Hp} {b:Addr} {o:HO},A b=some o->A b≠none:=λe z=>by rw[e]at z;cases z
 have Y3:rH R C6 Y A5 mv.length (λ_ H' o=>∃q,o=.lst [.ref q]/\H' q=some (.lst [])/\R q=none/\C6 q≠none):=⟨xS.len,xS.nd,xS.new,λj a e=>by
  obtain⟨o,I,q,rfl,W,l,_⟩:=xS.ins j a e;calc⟨_,I,q,rfl,W,l,nn W⟩⟩
 have Te:=Y3.keep (λj b o e c=>by
  obtain⟨v,rfl,O,Y1,Y2⟩:=c;calc⟨kc6 b _ (x _ _ _ _ Td e) e,v,rfl,kc6 v _ (x _ _ _ _ Td O) O,Y1,Y2⟩)
 have Y4:=kc6 _ _ (x _ _ _ _ Td wC) wC;have Y5:rH C6 C7 D6 A6 mv.length (λ_ _ o=>o=.lst []):=hL6.keep (λj b o e c=>by subst c;calc⟨ke6 b _ (x _ _ _ _ (XT _ _ Td) e) e,rfl⟩);have Ko:=ke6 _ _ (x _ _ _ _ (XT _ _ Td) FI) FI;have Y6:=Y5.keep (λj b o e c=>by subst c;calc⟨kc7 b _ (x _ _ _ _ U7 e) e,rfl⟩);have Y7:=kc7 _ _ (x _ _ _ _ U7 Ko) Ko;rw[lx]at YQ;rw[lx]at YT;rw[lx]at YW;rw[oT]at YZ;rw[oT]at Te;rw[oT]at Y6;obtain⟨ad,Sj⟩:∃ad:Nat->Nat->Addr,∀t i,ad t i=([[pe],A4,A5,A6,A1,A2,A3].getD t []).getD i 0:=⟨_,λ_ _=>rfl⟩
 have pz:∀{A B:Hp},(∀b o,b≠d->A b=some o->B b=some o)->∀{o},B d=some o->∀b,A b≠none->B b≠none:=λ{A B} h {o} e b hb=>by
  by_cases z:b=d
  ·rw[z,e];exact λz=>nomatch z
  ·cases I:A b with
   |none=>calc absurd I hb
   |some u=>rw[h b u z I];exact λz=>nomatch z
 have Xt:∀a<7,∀b<7,[6,3,4,5,0,1,2].getD a 7=[6,3,4,5,0,1,2].getD b 7->a=b:=by decide
 obtain⟨cA,Pe,hDo⟩:=DX (F:=F) (G:=Z) (n:=g.n) (c:=(RS.new g).tv) (λt=>[C1,C2,C3,C4,R,C6,C7].getD t Z) (λt=>[6,3,4,5,0,1,2].getD t 7) _ (λt=>[d,D4,Y,D6,D1,D2,D3].getD t d) (λt=>[λ_ _ u=>u=.lst [],λj H' o=>∃v,o=.lst [v]/\HT H' 2 v (zb (g.ms.getD j default).ns (g.ms.getD j default).row),λ_ H' o=>∃q,o=.lst [.ref q]/\H' q=some (.lst [])/\R q=none/\C6 q≠none,λ_ _ o=>o=.lst [],λ_ _ o=>o=.lst [],λ_ _ o=>o=.lst []].getD t λ_ _ o=>o=.dK []) Sj (λ_=>rfl) (λt l h h'=>Xt t () l ())
  (λt=>match t with
   |0=>pz kd1 U5
   |1=>pz Ux U6
   |2=>pz XF Tb
   |3=>pz XJ PH
   |4=>pz XO Td
   |5=>pz XU U7
   |6=>pz kd7 edF
   | (t + 7)=>λb h=>h)
  (λb h=>by
   obtain⟨o,e,l⟩:=j0 b h;calc⟨nn (U4 _ _ e),o,SF _ _ e,l⟩)
  (λt ht=>match t,ht with
   | 0,_=>⟨⟨rfl,nofun,λa m=>by rw[List.mem_singleton.mp m];exact⟨yC,Ne.symm (ao U7 yC)⟩,λj a e=>by cases j with
    |zero=>cases e;calc⟨_,epe,rfl⟩
    | succ j=>cases e⟩,λa m=>by rw[List.mem_singleton.mp m];calc nn epe,λh=>absurd h ∅⟩
   |1,_=>⟨YZ,YY.some,λ_=>⟨fD4,nn Kn⟩⟩
   |2,_=>⟨Te,xS.some,λ_=>⟨fD5,nn wC⟩⟩
   |3,_=>⟨Y6,Y5.some,λ_=>⟨fD6,nn Ko⟩⟩
   |4,_=>⟨YQ,YO.some,λ_=>⟨fD1,nn Kk⟩⟩
   |5,_=>⟨YT,YS.some,λ_=>⟨XC,nn Kl⟩⟩
   |6,_=>⟨YW,YV.some,λ_=>⟨XH,nn Km⟩⟩
   | (t + 7),h=>absurd h ())
  (λt i u ht h=>by
   match t,ht,h with
   |0,_,h|3,_,h|4,_,h|5,_,h|6,_,h=>cases h;trivial
   |1,_,⟨_,e,_⟩|2,_,⟨_,e,_⟩=>cases e;trivial
   | (t + 7),h,_=>calc absurd h ())
  (λhz fo t i u ht hi e h=>by
   match t,ht,h with
   |0,_,h|3,_,h|4,_,h|5,_,h=>cases h;calc(fA.nil:fA _ 4 [] [])
   |1,_,⟨v,e,O⟩=>cases e;calc(fA.one ((JH hz O).mono ∅):fA _ 4 [v] [_])
   |2,_,⟨v,e,O,Y1,Y2⟩=>
    cases e;have nq:=fo 4 v Y1 Y2 (λt ht es m=>by
     have:=Xt t () 2 () es;subst this;obtain⟨j,e⟩:=aap m;obtain⟨_,I,q,rfl,_⟩:=Te.ins j _ e;rw[O] at I;cases I)
    show fA (jY (λb=>F b\/FP g.n ad b) Z) 4 [.ref v] [.lst []];calc fA.one (.lst (by rw[gV nq];calc O) rfl (λi u e N=>by simp at N))
   |6,_,h=>
    cases h;exact⟨U' _,λk=>by
     have I:i5 ((RS.new g).ww i).cD k=none:=by
      show i5 [] k=none;unfold i5;split<;>rfl
     rw[I];calc Hd⟩
   | (t + 7),h,_=>calc absurd h ())
 have y:∀b,FP g.n ad b->H b=none:=λb hb=>U4.free (Pe b hb).1;have nF:∀b,H b=none->¬F b:=λb e z=>by
  obtain⟨o,I,_⟩:=j0 b z;rw[e]at I;cases I
 have hT:bT F Z d (.ref tt) g (RS.new g) ad:=by
  refine⟨⟨λt=>[d,D4,Y,D6,D1,D2,D3].getD t d,?_,nF d rT,λz=>nn ed0 (Pe d z).1,λt h1 h6=>?_⟩,cA,⟨ls,hN.cv ?_⟩,aY⟩
  ·rw[edF,LU,Sj];rfl
  ·obtain⟨k,l,u⟩:=hDo t h1 h6;calc⟨?_,k,l⟩;rw[<-u]
   match t,h1,h6 with
   |1,_,_=>calc Y0
   |2,_,_=>calc Y4
   |3,_,_=>calc Y7
   |4,_,_=>calc YR
   |5,_,_=>calc YU
   |6,_,_=>calc YX
   |(t+7),_,h=>exact absurd h ()
  ·intro b l e n;obtain⟨k,z2⟩:=ei e n;rw[gV]
   ·exact SF _ _ z2
   ·rintro(z | z)
    ·exact k z
    ·rw[y b z]at z2;cases z2
 have h7F:=h7.aI SF.aN;left;refine cN (SF _ _ g1) (ay (j:=2) rfl) (.inl ⟨⟨_,aM.of (SF _ _ g4)⟩,ee (K:=K) (xs:=lv) (λi σ H'=>(∃z2 z3,σ=[some (V.ref tt),some (V.ref d),z2,z3])/\Fr (FP g.n ad) Z H'/\bT F H' d (.ref tt) g ((RS.new g).lA (ls.take i)) ad) ?_ ?_ ?_ ?_⟩)
 ·exact⟨⟨_,_,rfl⟩,Fr.refl,hT⟩
 ·rintro i σ H' hi ⟨_,fi,_⟩;exact aM.of (fi.at (SF _ _ g4) (λz=>by rw[y _ z]at g4;cases g4))
 ·intro i z σ H' hzz aeJ;nofun;obtain⟨⟨z2,z3,rfl⟩,fi,Ef⟩:=aeJ;have k:i < ls.length:=by rw[<-qm];exact(List.getElem?_eq_some_iff.mp hzz).1
  have l:ls[i]?=some ls[i]:=cF k;have Sh:=(h7F.2 i z (qB ls[i]) hzz (by rw[aaB,l];rfl)).aI fi.aN;have vp:=i9 _ (aac k);have NA:(RS.new g).lA (ls.take (i+1))=((RS.new g).lA (ls.take i)).put ls[i].1.toNat ls[i].2 none:=by
   rw[List.take_succ,l];exact qJ _
  have Ca:=(sO (ls.take i) (Cc aY)).mono (show _<=19998 by simp;lia);generalize ls[i]=p at *;obtain⟨L,px⟩:=p;obtain⟨tz,u1,u2,kz,rfl,yZ,y1,y2⟩:=dD Sh;obtain rfl:=y1.ck;obtain rfl:=y2.ck;have l:=vp.1;have k:=vp.2;simp only at l k;have ej:((L.toNat:Nat):Int)=L:=aaA l;have sM:L.toNat<g.ws.length:=by lia
  generalize U3:(RS.new g).lA (ls.take i)=ri at *;ac_rfl;calc uS (bG.of yZ) ?_;nofun;obtain⟨u,YK,k,nPi,l⟩:=Ef.dk;have k:=l 4 ∅ ∅;have YM:=l 5 ∅ ∅;have u:=Ef.cA;obtain⟨w4,x4,l⟩:=u.lst (t:=4) (i:=L.toNat) sM rfl;ac_rfl;have v:w4.length=(ri.ww L.toNat).say.length:=by simpa using l.1
  have l:=Ca.bs _ sM;have l:=Ca.ls _ sM;left;calc bC _ (J0 YK) ?_;left;have l:gU (ki g.n ad 4) L=some (.ref (ad 4 L.toNat)):=by have:=bc (n:=g.n) (ad:=ad) (t:=4) sM;rw[ej]at this;exact this
  have rb:gU (ki g.n ad 5) L=some (.ref (ad 5 L.toNat)):=by have:=bc (n:=g.n) (ad:=ad) (t:=5) sM;rw[ej]at this;exact this
  calc bu k.1 l ?_;calc⟨.inl ⟨rfl,_,aM.of x4⟩,?_⟩;left;calc iu w4 x4 (small ()) ?_;have bj:=u.app (t:=4) (i:=L.toNat) sM rfl x4 (fA.one (.int px));have fj:Fr (FP g.n ad) H' (upd H' (ad 4 L.toNat) (.lst (w4++[.int px]))):=Fr.refl.upd ⟨4,L.toNat,sM,rfl⟩ x4 trivial;generalize YN:upd H' (ad 4 L.toNat) (.lst (w4++[.int px]))=Hj at *;obtain⟨l,k,n⟩:=bj.lst (t:=5) (i:=L.toNat) sM rfl;have u:l.length=(ri.ww L.toNat).snd.length:=by simpa using n.1
  left;calc bC _ (J1 (fj.at YK nPi)) ?_;left;calc bu (fj.at YM.1 YM.2.2) rb ?_;calc⟨.inl ⟨rfl,_,aM.of k⟩,?_⟩;left;calc iu l k (small ()) ?_;have n:=bj.app (t:=5) (i:=L.toNat) sM rfl k (fA.one (show HD _ 4 .bM (nI none) from .bM));have i:Fr (FP g.n ad) H' (upd Hj (ad 5 L.toNat) (.lst (l++[.bM]))):=fj.upd ⟨5,L.toNat,sM,rfl⟩ k trivial;left;calc gN ⟨_,_,rfl,rfl⟩ (fi.trans i) ?_;rw[NA];exact Ef.own i (n.congr Ke)
 ·intro σ H' aeL;obtain⟨⟨z2,z3,rfl⟩,fi,Ef⟩:=aeL;left;rw[qm,List.take_length]at Ef;calc q d ad H' (λb o e=>?_) y rT Ef;calc fi.at (SF _ _ e) (λz=>by rw[y b z]at e;cases e)
def fb(nt:NT)(r:RS)(s:List (Int×Int)):RS:=s.foldl (λr p=>r.pick nt p.1.toNat p.2.toNat) r
def qP(nt:NT)(r:RS)(s:List (Int×Int)):Prop:=∀(i:Nat) p,s[i]?=some p->∃w k:Nat,p=((w:Int),(k:Int))/\(fb nt r (s.take i)).Nx nt w k
theorem gz{nt:NT}{w k:Nat}:fb nt r (s++[((w:Int),(k:Int))])=(fb nt r s).pick nt w k:=by
 unfold fb;rw[List.foldl_append];rfl
theorem Kp{nt:NT}:qP nt r []:=λi p e=>by simp at e
theorem F4{nt:NT}{w k:Nat}(h:qP nt r s)(a:(fb nt r s).Nx nt w k):qP nt r (s++[((w:Int),(k:Int))]):=λi p e=>by
 by_cases b:i<s.length
 ·rw[aaH b]at e;rw[List.take_append_of_le_length ()];exact h i p e
 ·have c:i=s.length:=by
   have:=(List.getElem?_eq_some_iff.mp e).1;simp at this;lia
  subst c;rw[aaG (E' _),Nat.sub_self]at e;obtain rfl:=Option.some.inj e;calc⟨w,k,rfl,by rw[List.take_left];calc a⟩
theorem F5{nt:NT}{p:Int×Int}(h:qP nt r (s++[p])):qP nt r s/\∃w k:Nat,p=((w:Int),(k:Int))/\(fb nt r s).Nx nt w k:=by
 refine⟨λi q e=>?_,?_⟩
 ·have a:=(List.getElem?_eq_some_iff.mp e).1;have:=h i q (by rw[aaH a];calc e);rw[List.take_append_of_le_length ()]at this;exact this
 ·have:=h s.length p (by rw[aaG (E' _),Nat.sub_self];rfl);rw[List.take_left]at this;calc this
theorem Eg{nt:NT}(d:nt.Ok){r:RS}(h:r.Ok nt)(e:r.picks=[]):∀n (s:List (Int×Int)),s.length=n->qP nt r s->(fb nt r s).Ok nt/\(fb nt r s).picks=s
 |0,s,c,_=>by
  have:s=[]:=List.length_eq_zero_iff.mp c;subst this;calc⟨h,e⟩
 |n+1,s,c,g=>by
  rcases List.eq_nil_or_concat s with rfl|⟨i,p,f⟩
  ·simp at c
  rw[List.concat_eq_append]at f;subst f;obtain⟨j,w,k,rfl,l⟩:=F5 g;obtain⟨a,b⟩:=Eg d h e n i (by simpa using c) j;rw[gz];have:=RS.Ok.pick d a (k:=k) l.lt;rw[b]at this;calc this
theorem take_snoc{i:Nat}{p:Int×Int}(e:s[i]?=some p):s.take (i+1)=s.take i++[p]:=by rw[List.take_add_one,e];rfl
abbrev kG:Stmt:=top 58
inductive Kq(C CN CR:Addr)(vs:List V)(H:Hp)(Q:VK):Prop
 |mk (F:Addr->Prop) (bE l:Addr) (nt:NT) (ls:List (Int×Int)) (ms:List Addr) (wv lv ys:List V) (s:List (Int×Int)) (h0:vs=[.ref bE,.ref l]) (h2:vh C CN H bE nt) (h3:nz CN H bE ms wv lv) (h4:eN H 1 lv (ls.map qB)) (h5:ls.length<=20) (h6:∀l∈ls,0<=l.1/\l.1<nt.ws.length) (hl:H l=some (.lst ys)) (hs:eN H 1 ys (s.map pairD)) (hn:s.length<=100) (hF:FS F H) (hc:qP nt (RS.begin nt ls) s) (q:∀x ad H',au H H'->H x=none->(∀b,FP nt.n ad b->H b=none)->cf C CN CR F H' x bE nt (fb nt (RS.begin nt ls) s) ad->Q (.ref x) H'):Kq C CN CR vs H Q
def Eh(C CN CR:Addr):Sp:=λvs H Q _=>Kq C CN CR vs H Q
theorem wJ{nt:NT}(h:qP nt r s)(n:Nat):qP nt r (s.take n):=λi p e=>by
 have a:=(List.getElem?_eq_some_iff.mp e).1;rw[List.length_take]at a;rw[List.getElem?_take,if_pos ()]at e;rw[List.take_take,Nat.min_eq_left ()];calc h i p e
theorem yb(D:cK K mg "played_run" "played_run" kG ["net","schedule"])(T:Tx K mg C CN CR F FD)(c:cn P w K mg base CR "pick_at" 6 ["self","way","number","at"] (xP C CN CR))(Kr:y9 P w K mg base "Run" CR 2 ["self","net"] (DY C CN CR)):Def P w K mg base "played_run" 7 ["net","schedule"] (Eh C CN CR):=by
 have sc:aD ["net","schedule","run","at","way","number"] ["net","schedule"] (az kG):=by walk_at "s"
 symm;obtain⟨F,p,l,a,ls,ms,wv,lv,ys,s,rfl,L,Za,Zb,M,i9,r,N,Zc,O,R,q⟩:=h;have hu:=hr.units;refine⟨_,(af (aU (i:=2) sc.nd rfl Sort (Il Kr hr (ag (aq 0) aa)))
  (af (dJ PassesOwn.never rfl (ik rfl T.cW (ag (aq 1) aa)) (AZ rfl (iD (aO (i:=3) sc.nd rfl Sort) (iD (dW (i:=4) (j:=5) rfl sc.nd rfl rfl Sort Sort) wU)))
  (ak (bN (eZ c T.ba hr (aq 2) (ag (aq 4) (ag (aq 5) (ag (aq 3) aa)))))))
  (ak (aG (aq 2))))),?_⟩
 have wK:=L.ok;obtain⟨S,Xg⟩:=pQ wK M;walk_at "xg";left;intro m c U T akX;have d:au H (upd (upd H c (.own m)) m (.ins CR c [])):=λb o e=>by rw[av (ao e U),av (ao e T)];exact e
 calc⟨F,m,c,p,a,ls,ms,wv,lv,rfl,ab,L.fr (Z:=λ_=>False) d.fr,Za.same d,Zb.aI d.aN,M,i9,O.fr (Z:=λ_=>False) d.fr (λ_ _ h=>h),λad H3 k0 f0 W=>?_⟩;have u:au H H3:=λb o e=>k0 b o (ao e U) (d _ _ e);have B:∀b,FP a.n ad b->H b=none:=λb hb=>by
  cases e:H b with
  |none=>rfl
  |some o=>
   have:=f0 b hb;rw[d _ _ e]at this;cases this
 clear k0 f0 d;calc⟨rfl,L2.aX h1 ?_⟩;clear h1;left;have pZ:ys.length=s.length:=by simpa using N.1
 refine⟨true,ys,Sq.l (u _ _ r),pw (xs:=ys) (λi σ H'=>(∃X Y z5,σ=[some (V.ref p),some (V.ref l),some (V.ref m),X,Y,z5])/\Fr (FP a.n ad) H3 H'/\cf C CN CR F H' m p a (fb a (RS.begin a ls) (s.take i)) ad) ?_ ?_ ?_ ?_⟩
 ·exact⟨⟨_,_,_,rfl⟩,Fr.refl,W⟩
 ·rintro i σ H' ⟨_,g,_⟩;exact Sq.l (g.at (u _ _ r) (λz=>by rw[B _ z]at r;cases r))
 ·intro i t σ H' I hx fW Yl;nofun;obtain⟨⟨X,Y,z5,rfl⟩,g,v⟩:=fW;have c:i < s.length:=by rw[<-pZ];exact(List.getElem?_eq_some_iff.mp hx).1
  have J:s[i]?=some s[i]:=cF c;have x:=au.new (.tup [.int (i:Nat),t]) Yl;have ett:upd H' I (.tup [.int (i:Nat),t]) I=some (.tup [.int (i:Nat),t]):=ab;have y:=(((N.2 i t (pairD s[i]) hx (by rw[aaB,J];rfl)).aI u.aN).aI g.aN).aI x.aN;generalize Jh:upd H' I (.tup [.int (i:Nat),t])=G2 at *;obtain⟨wy,k,ep,hc⟩:=R i _ J;rw[ep]at y J;obtain⟨ta,u1,u2,kk,rfl,rV,y1,y2⟩:=dD y;obtain rfl:=y1.ck;obtain rfl:=y2.ck;ac_rfl;calc⟨I,_,rfl,bG.of ett,rfl,_,_,rfl,_,_,rfl,⟨ta,_,rfl,bG.of rV,rfl,_,_,rfl,_,_,rfl,rfl,rfl,?_⟩⟩;left;nofun;obtain⟨c,d,MO,l⟩:=v.ins;obtain⟨aeP,aeQ⟩:=Eg wK S Xg _ _ rfl (wJ R i);ac_rfl;have B3:∀{G:Hp},au G2 G->au H G:=λc b o e=>c _ _ (x _ _ (g.at (u _ _ e) (λz=>by rw[B _ z]at e;cases e)));calc gM (x _ _ MO) (fH ⋯) ?_;calc⟨F,m,p,a,_,ad,wy,k,.int (i:Nat),rfl,v.same x,O.fr (Z:=λ_=>False) (B3 (au.refl _)).fr (λ_ _ h=>h),aeP,hc,by rw[aeQ,List.length_take];lia,λt c f a d=>?_⟩;calc⟨⟨_,_,_,rfl,rfl,rfl⟩,(g.trans x.fr).trans f,?_⟩;rw[take_snoc J,gz];exact a
 ·intro σ H' gc;obtain⟨⟨X,Y,z5,rfl⟩,g,v⟩:=gc;rw[pZ,List.take_length]at v;left;calc q _ _ _ (λb o e=>g.at (u _ _ e) (λz=>by rw[B _ z]at e;cases e)) U B v
def RS.Ps(nt:NT)(r:RS):Prop:=∀(w k:Nat) (m c:Int),w<nt.ws.length->(r.ww w).cD[k]?=some (some (m,c))->1<=c
theorem As{outs:List Nat}{ev:Int×Int}{u k:Nat}{e:Int×Int}:∀(ps:List (Int×Int)) {r:RS},((r.send outs ev ps).ww u).cD[k]?=some (some e)->(r.ww u).cD[k]?=some (some e)
 | [],r,h=>h
 |p::ps,r,h=>by
  have h:(((if p.1.toNat<outs.length then r.put (outs.getD p.1.toNat 0) p.2 (some ev) else r).send outs ev ps).ww u).cD[k]?=some (some e):=h;have h:=As ps h;split at h
  ·exact kn.mp h
  ·calc h
theorem Au{u k:Nat}{e:Int×Int}:∀(ps:List (Int×Int)) {r:RS},((r.lA ps).ww u).cD[k]?=some (some e)->(r.ww u).cD[k]?=some (some e)
 | [],r,h=>h
 |p::ps,r,h=>kn.mp (Au ps h)
structure uH(nt:NT)(ls:List (Int×Int))(r:RS):Prop where
 ok:r.Ok nt
 iv:r.Iv nt
 pk:r.Pk nt
 ps:RS.Ps nt r
 pl:r=fb nt (RS.begin nt ls) r.picks
 Th:qP nt (RS.begin nt ls) r.picks
theorem uH.pick{nt:NT}(h:uH nt ls r)(d:nt.Ok){w k:Nat}(b:r.Nx nt w k):uH nt ls (r.pick nt w k)/\(r.pick nt w k).picks=r.picks++[((w:Int),(k:Int))]:=by
 have a:=RS.Ok.pick d h.ok (k:=k) b.lt;exact⟨⟨a.1,h.iv.pick d b.lt b.lies,h.pk.pick h.iv b.lies,λu j m c f e=>by
  rcases(iG b.lies).mp (As _ e) with⟨_,_,z⟩|e
  ·cases z;have:=h.ok.vc (d.ir b.lt);lia
  ·calc h.ps u j m c f e,by rw[a.2,gz,<-h.pl],by rw[a.2];calc F4 h.Th (by rw[<-h.pl];calc b)⟩,a.2⟩
theorem uH.begin{nt:NT}(d:nt.Ok){ls:List (Int×Int)}(h:ls.length<=20):uH nt ls (RS.begin nt ls):=by
 obtain⟨a,b⟩:=pQ d h;exact⟨a,RS.Iv.begin,RS.Pk.zero RS.Iv.begin b,λu j m c f e=>by
  have:=Au ls (r:=RS.new nt) e;simp[RS.new] at this,by rw[b];rfl,by rw[b];calc Kp⟩
abbrev qQ:Stmt:=top 74
inductive Ks(vs:List V)(H:Hp)(Q:VK):Prop
 |mk (F:Addr->Prop) (tn:V) (nt:NT) (ls:List (Int×Int)) (l:Addr) (xs:List Int) (h0:vs=[tn,.ref l]) (h1:ToldN (jY F H) tn nt.ms nt.ws ls) (h2:FS F H) (h3:nt.Ok) (h4:ls.length<=20) (h5:∀l∈ls,0<=l.1/\l.1<nt.ws.length) (h7:H l=some (.lst (xs.map V.int))) (h8:xs.length<=40) (q:∀d ad r H',au H H'->(∀b,FP nt.n ad b->H b=none)->H d=none->bT F H' d tn nt r ad->uH nt ls r->r.picks.length<=40->Q (.ref d) H'):Ks vs H Q
def Ei:Sp:=λvs H Q _=>Ks vs H Q
theorem F6(D:cK K mg "_law_ran" "_law_ran" qQ ["_law_net_here","_law_cells"])(T:Tx K mg C CN CR F FD)(fJ:Def P w K mg base "_law_begun" 1 ["_law_net_here"] ya)(oF:Def P w K mg base "_law_free" 2 ["_law_run"] J6)(gA:Def P w K mg base "_law_pick" 3 ["_law_run","_law_way","_law_number"] x9):Def P w K mg base "_law_ran" 4 ["_law_net_here","_law_cells"] Ei:=by
 have sc:aD ["_law_net_here","_law_cells","_law_run","_law_cell","_law_free_here","_law_way","_law_number"] ["_law_net_here","_law_cells"] (az qQ):=by walk_at "s"
 symm;obtain⟨F,m,a,ls,l,M,rfl,N5,N,o,u,i9,v,O,q⟩:=h;have G:=hr.units;refine⟨_,(af (aU (i:=2) sc.nd rfl Sort (aH fJ hr (ag (aq 0) aa)))
  (af (dJ PassesOwn.never rfl (bz (pv 1)) (aO (i:=3) sc.nd rfl Sort)
  (af (aU (i:=4) sc.nd rfl Sort (aH oF hr (ag (aq 2) aa)))
  (ak (aR (aB (eX G) (aq 4) (bA aa) (aE _)) (af (de (aj G (aq 4) (bq fg (aq 3) (aW aP rfl T.bR L' (ag (aq 4) aa)))) (dW (i:=5) (j:=6) rfl sc.nd rfl rfl Sort Sort))
  (ak (bN (aH gA hr (ag (aq 2) (ag (aq 5) (ag (aq 6) aa))))))) aJ))))
  (ak (aG (aq 2))))),?_⟩
 walk_at "xg";right;refine⟨F,m,a,ls,rfl,N5,N,o,u,i9,λd ad H1 R S fd nJ=>?_⟩;refine L2.aX h1 ?_;clear h1;have U:=uH.begin o u;have xK:=R _ _ v;have nl:¬FP a.n ad l:=λz=>by rw[S _ z]at v;cases v
 right;refine⟨_,rfl,.inl ⟨⟨_,aM.of xK⟩,ee (K:=K) (xs:=M.map V.int) (λi σ H'=>(∃W X Y Z,σ=[some m,some (V.ref l),some (V.ref d),W,X,Y,Z])/\Fr (FP a.n ad) H1 H'/\∃r,bT F H' d m a r ad/\uH a ls r/\r.picks.length<=i) ?_ ?_ ?_ ?_⟩⟩
 ·exact⟨⟨_,_,_,_,rfl⟩,Fr.refl,_,nJ,U,by rw[(pQ o u).2];calc E' _⟩
 ·rintro i σ H' l ⟨_,c,_⟩;exact aM.of (c.at xK nl)
 ·intro i z σ H' hz fW;nofun;obtain⟨⟨W,X,Y,Z,rfl⟩,c,r,x,g,o7⟩:=fW;have l:i<40:=by
   have:=(List.getElem?_eq_some_iff.mp hz).1;rw[aaC]at this;lia
  rw[aaB]at hz;obtain⟨I,_,rfl⟩:=Option.map_eq_some_iff.mp hz;ac_rfl;right;calc⟨F,d,m,a,r,ad,rfl,x,g.ok,(),λv ys H2 s2 i l u=>?_⟩;right;calc⟨U' _,λp i=>?_⟩;have J:=au.new (.lst []) i;have L:=J _ _ l;have Zd:=u.aI J.aN;have t:upd H2 p (.lst []) p=some (.lst []):=ab;have y:=(x.same s2).same J;have oU:=s2.trans J;generalize hGp:upd H2 p (.lst [])=Gp at *;by_cases hy:ys=[]
  ·subst hy;calc .inl ⟨.inr ⟨_,_,[],[],rfl,rfl,.inr ⟨aM.of L,aM.of t⟩,rfl,λj u v G=>by simp at G⟩,?_⟩;rw[if_neg ∅];right;exact⟨⟨_,_,_,_,rfl,rfl,rfl,rfl⟩,c.trans oU.fr,r,y,g,()⟩
  calc .inr ⟨⟨ys,[],λh=>hy (List.length_eq_zero_iff.mp h),.inl ⟨aM.of L,aM.of t⟩⟩,?_⟩;rw[if_pos trivial];right;have i:0<ys.length:=List.length_pos_iff.mpr hy;nofun;obtain⟨k,aeT⟩:∃k:Nat,I%(ys.length:Int)=k:=⟨(I%(ys.length:Int)).toNat,by have:=aax I (show(ys.length:Int)≠0 by lia);lia⟩
  have BM:k<ys.length:=by have:=aan I (show(0:Int)<ys.length by lia);lia
  have i:ys.length=(lj a r a.ws.length).length:=by simpa using Zd.1
  have B:k<(lj a r a.ws.length).length:=by lia
  have hel:=Zd.2 k ys[k] _ (cF BM) (by rw[aaB,cF B];rfl);have yU:=aac B;generalize (lj a r a.ws.length)[k]=pr at *;obtain⟨v,i⟩:=pr;have u:=J5 g.ok yU;obtain⟨l,k,B⟩:=mi hel;ac_rfl;calc⟨_,.inl ⟨_,aM.of L,rfl⟩,(),_,_,.inl (aM.of L),by rw[aeT];calc ay (cF BM),?_⟩;rw[k];calc uS (bG.of B) ?_;right;calc⟨F,d,m,a,r,ad,v,i,rfl,y,N.fr (R.fr.trans (c.trans oU.fr)) x.cA.uw,g.ok,u,(),λt I G l _=>?_⟩;obtain⟨a,i⟩:=g.pick o u;exact⟨⟨_,_,_,_,rfl,rfl,rfl,rfl⟩,(c.trans oU.fr).trans G,_,l,a,by rw[i];simp;lia⟩
 ·intro σ H' gc;obtain⟨⟨W,X,Y,Z,rfl⟩,c,r,x,g,o7⟩:=gc;right;rw[aaC]at o7;calc q d ad r H' (λb o e=>c.at (R _ _ e) λz=>by rw[S _ z]at e;cases e) S fd x g ()
theorem bT.Xd{F:Addr->Prop}{d:Addr}{c:V}{nt:NT}(h:bT F H d c nt r ad){w:Nat}(g:w<nt.ws.length)(k:Nat):∃f b,H (ad 6 w)=some (.dK f)/\ji H (ad 6 w) (.int (k:Nat)) b/\((r.ww w).cD.getD k none=none->b=none)/\∀e,(r.ww w).cD.getD k none=some e->∃a,b=some (.ref a)/\H a=some (.tup [.int e.1,.int e.2]):=by
 obtain⟨c,f,j⟩:=h.cA.dct (t:=6) (i:=w) g rfl;have b:=j.2 (k:Int);have g:i5 (r.ww w).cD (k:Int)=((r.ww w).cD.getD k none).map pairD:=by unfold i5;rw[if_pos (),Int.toNat_natCast]
 rw[g]at b;refine⟨c,gb c (.inl (k:Int)),f,ji.k (k:=.inl (k:Int)) f,λz=>?_,λe z=>?_⟩
 ·rw[z]at b;exact b
 ·rw[z] at b;obtain⟨v,l,m⟩:=(show ∃v,gb c (.inl (k:Int))=some v/\HD _ 4 v (pairD e) from b)
  obtain⟨a,rfl,b⟩:=pO (e:=e) (m.cv dE);calc⟨a,l,b⟩
theorem N7{xs ys:List (Nat×Nat)}:iT r cut (xs++ys)=iT r cut xs++iT r cut ys:=by
 unfold iT rY;rw[List.filter_append,List.filter_append]
theorem N8{r:RS}{cut:List Int}{p:Nat×Nat}:iT r cut [p]=if ((wD r p).isSome&&ml r cut p)=true then[p] else[]:=by
 unfold iT rY;rw[List.filter_cons,List.filter_nil]
 cases(wD r p).isSome with
 |true=>rw[if_pos rfl,List.filter_cons,List.filter_nil,Bool.true_and]
 |false=>rw[if_neg ∅,List.filter_nil,Bool.false_and,if_neg ∅]
theorem Ti{nt:NT}(a:r.Iv nt){w:Nat}(b:w<nt.ws.length):(iH r w (r.ww w).cD.length).length<=r.picks.length:=by
 rw[zr,<-a.cnt];have:=zi (r:=r) (W:=nt.ws.length) (V:=w+1) b;rw[ub]at this;lia
theorem F7{K:W.Frag}{xs:List V}{c:List DV}(j:H a=some (.lst xs))(k:H b=some (.lst ys))(d:eN H 1 xs c)(e:eN H 1 ys c):j8 K H 20 (.ref a) (.ref b):=by
 calc .inr ⟨_,_,_,_,rfl,rfl,.inr ⟨aM.of j,aM.of k⟩,d.1.trans e.1.symm,λi u v g l=>?_⟩;have j:i<c.length:=by rw[<-d.1];exact(List.getElem?_eq_some_iff.mp g).1
 calc MZ (d.2 i u _ g (cF j)) (e.2 i v _ l (cF j)) ∅
theorem yc{m:Int}(a:0<=m)(b:m<(cut.length:Nat)):gU (cut.map V.int) m=some (.int (cut.getD m.toNat 0)):=by
 have:=ay (xs:=cut.map V.int) (j:=m.toNat) (v:=.int (cut.getD m.toNat 0)) (by rw[aaB,aS (d:=0) ()];rfl);rw[show((m.toNat:Nat):Int)=m by lia]at this;calc this
abbrev jH:Stmt:=top 75
inductive Kt(vs:List V)(H:Hp)(Q:VK):Prop
 |mk (F:Addr->Prop) (d:Addr) (tn:V) (nt:NT) (r:RS) (ad:Nat->Nat->Addr) (t:Addr) (cut:List Int) (h0:vs=[.ref d,.ref t]) (h1:bT F H d tn nt r ad) (h2:r.Ok nt) (h3:r.Iv nt) (h4:r.picks.length<=40) (h5:CutAt H t cut) (h6:cut.length=nt.ms.length) (q:∀l zs H',au H H'->H' l=some (.lst zs)->eN H' 1 zs ((iT r cut (eP r nt.ws.length)).map λp=>pairD (pI p))->Q (.ref l) H'):Kt vs H Q
def sS:Sp:=λvs H Q _=>Kt vs H Q
theorem vA(D:cK K mg "_law_orphans" "_law_orphans" jH ["_law_run","_law_cut"])(T:Tx K mg C CN CR F FD):Def P w K mg base "_law_orphans" 1 ["_law_run","_law_cut"] sS:=by
 have sc:aD ["_law_run","_law_cut","_law_some","_law_way","_law_number","_law_m","_law_c","_law_sender"] ["_law_run","_law_cut"] (az jH):=by walk_at "s"
 symm;obtain⟨F,d,g,nt,r,ad,t,cut,rfl,R,cm,hI,j3,ht,hC,q⟩:=h;have g:=hr.units;have zB:=Ui g;refine⟨_,(af (aU (i:=2) sc.nd rfl Sort (bA aa))
  (af (dJ PassesOwn.never rfl (cZ rfl T.dX (ag (aW aP rfl T.bR L' (ag (aj g (aq 0) aC) aa)) aa)) (aO (i:=3) sc.nd rfl Sort)
  (ak (dJ PassesOwn.never rfl (bz (aW (v9 rfl) rfl T.ud PyProof.Rows.boot_sorted (ag (aj g (aj g (aq 0) aC) (aq 3)) aa))) (aO (i:=4) sc.nd rfl Sort)
  (af (de (xh zB (aj g (aj g (aq 0) aC) (aq 3)) (aq 4) (ph rfl)) (dW (i:=5) (j:=6) rfl sc.nd rfl rfl Sort Sort))
  (af (aU (i:=7) sc.nd rfl Sort (aj g (aj g (aj g (aq 0) aC) (aq 3)) (aq 4)))
  (ak (aR (PW.pt (pw_and (aB tJ (aq 6) (aj g (aq 1) (aq 5)) (aE _)) (pw_and (aB m7 (aq 7) fu (aE _)) (pw_and1 (aB nS (aj g (aq 7) ai) (aj g (aq 1) (aj g (aq 7) ai)) (aE _)))))) (ak (bN (dz nM p6 p7 bS (aq 2) (ag (bD (ag (aq 3) (ag (aq 4) aa))) aa)))) aJ)))))))
  (ak (aG (aq 2))))),?_⟩
 obtain⟨T,hd,nF,nP,g⟩:=R.dk;have l4:=(g 4 ∅ ∅).1;have l5:=(g 5 ∅ ∅).1;have l6:=(g 6 ∅ ∅).1;have T:=R.ok;have g:=T.Fb;have g:=hC;right;calc⟨U' _,λl qm=>?_⟩;have s1:=au.new (.lst []) qm;have SE:upd H l (.lst []) l=some (.lst []):=ab;generalize hG1:upd H l (.lst [])=G1 at *;right;calc⟨_,J0 (s1 _ _ hd),_,.inl ⟨_,aM.of (s1 _ _ l4),rfl⟩,?_⟩;rw[kj,show nt.n 4=nt.ws.length from rfl];refine⟨_,rfl,(),(),j4 (n:=nt.ws.length) (λi σ H'=>(∃z3 z B I J,σ=[some (V.ref d),some (V.ref t),some (V.ref l),z3,z,B,I,J])/\au H H'/\∃ys:List V,H' l=some (.lst ys)/\ys.length<=40*i/\eN H' 1 ys ((iT r cut (eP r i)).map λp=>pairD (pI p))) ?_ ?_ ?_⟩
 ·exact⟨⟨_,_,_,_,_,rfl⟩,s1,[],SE,U' _,eN.nil⟩
 ·intro i σ H' u fW;obtain⟨⟨z3,z,B,I,J,rfl⟩,L,ys,v,U,x⟩:=fW;rw[Int.zero_add];have g:=cm.ls i u;have UT:=cm.lk i u;have g:=Ti hI u;nofun;obtain⟨J4,e6,d6⟩:=(R.same L).cA.dct (t:=6) (i:=i) u rfl;obtain⟨g,LX,Ww⟩:=IP d6;ac_rfl;have BM:g.length<=r.picks.length:=by have:=Ww.length_eq;rw[aaC] at this;lia
  calc⟨_,FQ (L _ _ hd),bu (L _ _ l6) (bc u) ⟨ad 6 i,rfl,.inr (.inl ⟨J4,g,e6,LX,(),λlk ns UT Nb X2=>?_⟩)⟩⟩;obtain rfl:=zt (Nb.trans Ww) X2;have s2:=au.new (.lst (((iH r i (r.ww i).cD.length).map λk:Nat=>(k:Int)).map V.int)) UT;have o:upd H' lk (.lst (((iH r i (r.ww i).cD.length).map λk:Nat=>(k:Int)).map V.int)) lk=some (.lst (((iH r i (r.ww i).cD.length).map λk:Nat=>(k:Int)).map V.int)):=ab;have nlk:lk≠l:=Ne.symm (ao v UT);have Ze:=s2 _ _ v;have zU:=x.aI s2.aN;have W:=L.trans s2;generalize Jh:upd H' lk (.lst (((iH r i (r.ww i).cD.length).map λk:Nat=>(k:Int)).map V.int))=G2 at *;clear Jh s2 Nb X2 Ww LX BM d6 e6 v x UT L;refine .inl ⟨⟨_,aM.of o⟩,ee (K:=K) (xs:=((iH r i (r.ww i).cD.length).map λk:Nat=>(k:Int)).map V.int) (λk σ G=>(∃z B I J,σ=[some (V.ref d),some (V.ref t),some (V.ref l),some (V.int i),z,B,I,J])/\au H G/\G lk=some (.lst (((iH r i (r.ww i).cD.length).map λk:Nat=>(k:Int)).map V.int))/\∃ys,G l=some (.lst ys)/\ys.length<=40*i+k/\eN G 1 ys ((iT r cut (eP r i++((iH r i (r.ww i).cD.length).take k).map λk=>(i,k))).map λp=>pairD (pI p))) ?_ ?_ ?_ ?_⟩
  ·calc⟨⟨_,_,_,_,rfl⟩,W,o,ys,Ze,U,?_⟩;rw[List.take_zero,List.map_nil,List.append_nil];exact zU
  ·rintro k σ G g ⟨_,_,e,_⟩;exact aM.of e
  ·intro k xx σ G hx gc;nofun;obtain⟨⟨z,B,I,J,rfl⟩,y,M,ys,v,U,x⟩:=gc;clear Ze zU W o;rw[List.map_map,aaB] at hx;obtain⟨c,N,W2⟩:=Option.map_eq_some_iff.mp hx;have W2:xx=V.int (c:Nat):=W2.symm;subst W2;have g:=(List.getElem?_eq_some_iff.mp N).1;obtain⟨o,e,g⟩:=pH.mp (W' N);obtain⟨J4,W,g1,o,g3,T⟩:=(R.same y).Xd u c;have X:(r.ww i).cD.getD c none=some e:=by rw[aaE,g];rfl
   obtain⟨aw,ea,jZ⟩:=T e X;obtain⟨m0,W,_⟩:=hI.ev i c e.1 e.2 u g;ac_rfl;rw[ea]at o;right;calc⟨_,FQ (y _ _ hd),bu (y _ _ l6) (bc u) ⟨ad 6 i,_,rfl,o,aw,_,rfl,bG.of jZ,rfl,_,_,rfl,_,_,rfl,rfl,?_⟩⟩;nofun;obtain⟨v5,W,d5⟩:=(R.same y).cA.lst (t:=5) (i:=i) u rfl;obtain⟨Y,R,g⟩:=d5.get (i:=c) (d:=nI ((r.ww i).snd.getD c none)) (by rw[aaB,aS (d:=none) ()];rfl);ac_rfl;have JA:=DR (g.cv dE);calc L2.ig λN2 h2=>?_;right;calc bC _ (J1 (y _ _ hd)) ?_;right;calc bu (y _ _ l5) (bc u) ?_;calc bu W (ay R) ?_;calc L2.aX h2 ?_;clear h2;have O:iT r cut (eP r i++((iH r i (r.ww i).cD.length).take (k+1)).map λk=>(i,k))=iT r cut (eP r i++((iH r i (r.ww i).cD.length).take k).map λk=>(i,k))++if ((wD r (i,c)).isSome&&ml r cut (i,c))=true then[(i,c)] else[]:=by
    rw[List.take_add_one,N,<-N8,<-N7,aaD,List.append_assoc];rfl
   have Z:=ht.same y;clear g1 o g3 T d5 g W;calc L2.fm λk U0 nJ nK=>?_;have yes:((wD r (i,c)).isSome&&ml r cut (i,c))=true->k [some (V.ref d),some (V.ref t),some (V.ref l),some (V.int i),some (V.int c),some (V.int e.1),some (V.int e.2),some Y] G:=λS=>by
    calc L2.aX nJ ?_;right;calc gN (.inl ⟨rfl,_,aM.of v⟩) df (λtp g=>?_);have u1:=au.new (.tup [.int (i:Nat),.int (c:Nat)]) g;have UQ:upd G tp (.tup [.int (i:Nat),.int (c:Nat)]) tp=some (.tup [.int (i:Nat),.int (c:Nat)]):=ab;have Zf:=u1 _ _ v;have Ku:=x.aI u1.aN;have aeZ:=u1 _ _ M;have sG1:=y.trans u1;generalize hG1:upd G tp (.tup [.int (i:Nat),.int (c:Nat)])=G1 at *;have st:bW G1 (upd G1 l (.lst (ys++[.ref tp]))):=(bW.refl _).upd λg e=>by rw[Zf]at e;cases e
    calc⟨_,Zf,aA (),⟨_,_,_,_,rfl,rfl,rfl,rfl⟩,λb o e=>by rw[av (ao e qm)];calc sG1 _ _ e,by rw[av nlk];calc aeZ,_,ab,by simp;lia,?_⟩;rw[O,if_pos S,aaD];exact(Ku.snoc (cS (n:=0) UQ (.int _) (.int _))).aI st
   have no:((wD r (i,c)).isSome&&ml r cut (i,c))=false->U0 [some (V.ref d),some (V.ref t),some (V.ref l),some (V.int i),some (V.int c),some (V.int e.1),some (V.int e.2),some Y] G:=λS=>by
    calc L2.aX nK ?_;calc⟨⟨_,_,_,_,rfl⟩,y,M,ys,v,(),?_⟩;rw[O,S,if_neg ∅,List.append_nil];exact x
   clear nJ nK O;have g:ml r cut (i,c)=(decide (e.2<=cut.getD e.1.toNat 0) && !Cd (wD r (i,c)) cut):=by
    unfold ml;rw[show JM r (i,c)=some e from X];rfl
   rw[g]at yes no;right;calc SG Z (yc m0 ()) ?_;right
   cases AQ:decide (e.2<=cut.getD e.1.toNat 0) with
   |false=>
    rw[if_neg ∅]
    try rw[if_neg ∅]
    calc no (by rw[AQ];simp)
   |true=>
    rw[if_pos ∅]
    cases Zg:(r.ww i).snd.getD c none with
    |none=>
     rw[Zg]at JA;have:Y=.bM:=by cases(show HT G 1 Y .bM from JA);rfl
     subst this;right;rw[if_neg ∅]
     try rw[if_neg ∅]
     calc no (by rw[show wD r (i,c)=none from Zg];rfl)
    |some m=>
     nofun;obtain⟨a,rfl,g⟩:=mi (show HT G 1 Y (pairD m) from by rw[Zg]at JA;calc JA);obtain⟨k,o,_⟩:=cm.sd i u m.1 m.2 (by rw[show(some (m.1,m.2):Option (Int×Int))=(r.ww i).snd.getD c none from Zg.symm];calc getD_mem ());ac_rfl;right;rw[if_pos nofun];calc cN g (ay (j:=1) rfl) ?_;calc cN g (ay (j:=0) rfl) ?_;calc SG Z (yc k ()) ?_;right;have hz:((wD r (i,c)).isSome&&(decide (e.2<=cut.getD e.1.toNat 0) && !Cd (wD r (i,c)) cut))=decide (cut.getD m.1.toNat 0<m.2):=by
      rw[show wD r (i,c)=some m from Zg,AQ];show(!decide (m.2<=cut.getD m.1.toNat 0))=_;rw[<-decide_not];exact decide_eq_decide.mpr ()
     cases S:decide (cut.getD m.1.toNat 0<m.2) with
     |true=>
      rw[if_pos rfl];calc yes (hz.trans S)
     |false=>
      rw[if_neg ∅];exact no (hz.trans S)
  ·intro σ G lB;obtain⟨⟨z,B,I,J,rfl⟩,y,M,ys,v,U,x⟩:=lB;simp only[List.length_map]at U x;rw[List.take_length,<-ql]at x;exact⟨⟨_,_,_,_,_,rfl⟩,y,ys,v,(),x⟩
 ·intro σ H' pJ;obtain⟨⟨z3,z,B,I,J,rfl⟩,L,ys,v,U,x⟩:=pJ;right;calc q l ys H' L v x
theorem yd(h:ns≠[]):gU (ns.map V.int) (-1)=some (.int (ns.bt 0)):=by
 have a:1<=ns.length:=List.length_pos_iff.mpr h;calc m9 (by rw[aaC];calc a) ?_;rw[aaC,aaB,lS (d:=0) a];rfl
theorem ye{K:W.Frag}{R:VK}{nt:NT}{PT:List (List Int)}(p:gh H a PT)(k:gi nt r PT)(x:nt.ms.length<=5)(m:H D=none)(q:∀H',au H H'->H' D=some (.lst ((PT.map λc=>c.bt 0).map V.int))->R (.ref D) H'):pB [none] (rD K a) (dI 0) fP (AI (Ls K) (tV 0) (Z2 (rU λi=>V.int (-i)) (tC (V.int 1)))) σ H R D Lw.mk:=by
 obtain⟨as,h,x,s⟩:=p;have x:=k.len;refine aZ (J:=rD K a) (n:=nt.ms.length) (λi ys H'=>au H H'/\ys=((PT.map λc=>c.bt 0).take i).map V.int) (J' (aA ())) ⟨au.new _ m,rfl⟩ ?_ ?_ ?_ ?_
 ·rintro i ys H' j ⟨f,_⟩;exact⟨_,_,aM.of (f _ _ h),by rw[aaB,cF ()];rfl⟩
 ·rintro ys H' ⟨f,_⟩;exact⟨_,aM.of (f _ _ h),by simp;lia⟩
 ·intro i ys H' j g t u z A v;obtain⟨f,rfl⟩:=u;obtain⟨rfl,y⟩:=v;have o:=y _ (aM.of (f _ _ h));rw[aaB] at o;obtain⟨b,w,rfl⟩:=Option.map_eq_some_iff.mp o;walk_at "xf";right
  try rw[if_pos trivial]
  calc bu (f _ _ (s i b w)) (yd (k.ne i j)) ?_;calc bH g t j (J' (aA ())) ⟨λc o e=>by rw[av (ao e m)];calc f _ _ e,?_⟩;rw[List.take_add_one,aaB,aS (l:=PT) (d:=[]) (),aaD];rfl
 rintro ys B g C ⟨f,rfl⟩;rw[List.take_of_length_le (by simp;lia)]at g;calc q _ f g
abbrev PJ:=Int×Int×Int×(Nat×Nat)
def oW(r:RS)(p:Nat×Nat):Int×Int:=(JM r p).getD (0,0)
def dq(PT:List (List Int))(e:Int×Int):Int:=(Ly ((PT.getD e.1.toNat []).filter λq=>decide (q<e.2))).getD 0
def gf(r:RS)(W:Nat)(PT:List (List Int))(cut:List Int):Option PJ:=match iT r cut (eP r W) with
 | []=>none
 |p::_=>some ((oW r p).1,cut.getD (oW r p).1.toNat 0,dq PT (oW r p),p)
def Zh(cut:List Int)(f:PJ):List Int:=cut.set f.1.toNat f.2.2.1
def eY(r:RS)(W:Nat)(PT:List (List Int)):Nat->List Int×List PJ
 |0=>(PT.map λc=>c.bt 0,[])
 |n+1=>match gf r W PT (eY r W PT n).1 with
  |none=>eY r W PT n
  |some f=>(Zh (eY r W PT n).1 f,(eY r W PT n).2++[f])
theorem gO{r:RS}{W:Nat}{PT:List (List Int)}{n:Nat}(h:gf r W PT (eY r W PT n).1=none):∀k,eY r W PT (n+k)=eY r W PT n
 |0=>rfl
 |k+1=>by
  have a:=gO h k;show(match gf r W PT (eY r W PT (n+k)).1 with|none=>eY r W PT (n+k)|some f=>_)=_;rw[a,h]
theorem N9{W:Nat}{PT:List (List Int)}{n:Nat}(h:gf r W PT (eY r W PT n).1=none)(h':gf r W PT (eY r W PT m).1=none):eY r W PT n=eY r W PT m:=by
 by_cases e:n<=m
 ·rw[<-gO h (m-n),show n+(m-n)=m by lia]
 ·rw[<-gO h' (n-m),show m+(n-m)=n by lia]
theorem Kv:∀(l:List Int) (b:Int),l.foldl Lx b=b\/l.foldl Lx b∈l
 | [],b=>.inl rfl
 |a::l,b=>by
  rw[List.foldl_cons];rcases Kv l (Lx b a) with h|h
  ·rw[h];unfold Lx;split
   ·exact .inr S'
   ·exact .inl rfl
  ·calc .inr (V' _ h)
theorem Oa{l:List Int}(h:l≠[]):∃z,Ly l=some z/\z∈l:=by
 cases l with
 |nil=>calc absurd rfl h
 |cons b l=>
  calc bC _ rfl ?_;rcases Kv l b with e|e
  ·rw[e];exact S'
  ·calc V' _ e
structure yg(nt:NT)(PT:List (List Int))(cut:List Int):Prop where
 len:cut.length=nt.ms.length
 mem:∀m,m<nt.ms.length->cut.getD m 0∈PT.getD m []
structure Zi(nt:NT)(PT:List (List Int))(r:RS)(cut:List Int)(p:Nat×Nat)(e:Int×Int):Prop where
 hw:p.1<nt.ws.length
 hk:p.2<(r.ww p.1).say.length
 wk:JM r p=some e
 m0:0<=e.1
 m1:e.1<nt.ms.length
 lo:Ly ((PT.getD e.1.toNat []).filter λq=>decide (q<e.2))=some (dq PT e)
 lm:dq PT e∈PT.getD e.1.toNat []
 l0:0<=dq PT e
 ll:dq PT e<cut.getD e.1.toNat 0
theorem uJ{nt:NT}{PT:List (List Int)}{p:Nat×Nat}{ps:List (Nat×Nat)}(i:r.Ok nt)(f:r.Iv nt)(g:RS.Ps nt r)(j:gi nt r PT)(k:∀m,m<nt.ms.length->(0:Int)∈PT.getD m [])(h:iT r cut (eP r nt.ws.length)=p::ps):Zi nt PT r cut p (oW r p):=by
 have a:p∈iT r cut (eP r nt.ws.length):=by rw[h];exact S'
 unfold iT rY at a;rw[List.mem_filter,List.mem_filter]at a;obtain⟨b,e,c⟩:=fV.mp a.1.1;have h:p.2<(r.ww p.1).cD.length:=(List.getElem?_eq_some_iff.mp c).1;have d:JM r p=some e:=by unfold JM;rw[aaE,c];rfl
 have l:oW r p=e:=by unfold oW;rw[d];rfl
 obtain⟨n,o,_⟩:=f.ev p.1 p.2 e.1 e.2 b c;have q:=g p.1 p.2 e.1 e.2 b c;have f:=a.2;unfold ml at f;rw[d,Bool.and_eq_true]at f;have c:e.2<=cut.getD e.1.toNat 0:=of_decide_eq_true f.1;rw[l];have g:(PT.getD e.1.toNat []).filter (λq=>decide (q<e.2))≠[]:=List.ne_nil_of_mem (List.mem_filter.mpr ⟨k e.1.toNat (),decide_eq_true ()⟩);obtain⟨z,c,l⟩:=Oa g;have a:dq PT e=z:=by unfold dq;rw[c];rfl
 obtain⟨f,g⟩:=List.mem_filter.mp l;have g:=of_decide_eq_true g;calc⟨b,by rw[i.lk _ b];calc h,d,n,o,by rw[a];calc c,by rw[a];calc f,by rw[a];calc(j.bd e.1.toNat () z f).1,by rw[a];lia⟩
theorem yg.next{nt:NT}{PT:List (List Int)}(h:yg nt PT cut){m:Nat}{z:Int}(b:m<nt.ms.length)(a:z∈PT.getD m []):yg nt PT (cut.set m z):=by
 calc⟨by rw[List.length_set];calc h.len,λj b=>?_⟩;have c:=h.len;have c:(cut.set m z).getD j 0=((cut.set m z)[j]?).getD 0:=aaE;rw[c,List.getElem?_set];by_cases e:m=j
 ·rw[if_pos e,if_pos (),<-e];exact a
 ·rw[if_neg e];have:=h.mem j b;rwa [aaE (l:=cut)]at this
def Cn(cut:List Int):Nat:=(cut.map Int.toNat).sum
theorem yh:∀{cut:List Int}{m:Nat}{z:Int},m<cut.length->0<=z->z<cut.getD m 0->Cn (cut.set m z)<Cn cut
 |c::cut,0,z,_,a,h=>by
  have h:z<c:=h;simp only[Cn,List.set_cons_zero,List.map_cons,List.sum_cons];lia
 |c::cut,m+1,z,b,a,h=>by
  have:=yh (cut:=cut) (m:=m) (z:=z) (by simpa using b) a h;simp only[Cn,List.set_cons_succ,List.map_cons,List.sum_cons]at *;lia
theorem sT{nt:NT}{PT:List (List Int)}(a:gi nt r PT):yg nt PT (PT.map λc=>c.bt 0):=by
 calc⟨by rw[aaC];calc a.len,λm b=>?_⟩;have e:(PT.map λc=>c.bt 0).getD m 0=(PT.getD m []).bt 0:=by
  rw[aaE,aaB,aaE,cF (by rw[a.len];calc b)];rfl
 rw[e];calc gn (List.length_pos_iff.mpr (a.ne m b))
theorem Kw{B:Nat}:∀{cut:List Int},(∀c∈cut,c<=B)->Cn cut<=cut.length*B
 | [],_=>U' _
 |c::cut,h=>by
  have:=Kw (cut:=cut) λd a=>h d (V' _ a);have:=h c S';simp only[Cn,List.map_cons,List.sum_cons,List.length_cons,Nat.succ_mul]at *;lia
theorem yg.mu{nt:NT}{PT:List (List Int)}(h:yg nt PT cut)(f:gi nt r PT)(g:r.Ok nt)(d:r.picks.length<=40)(i:nt.ms.length<=5):Cn cut<=200:=by
 have d:=h.len;have:=Kw (B:=40) (cut:=cut) λc j=>by
  obtain⟨i,d⟩:=List.mem_iff_getElem?.mp j;have k:=(List.getElem?_eq_some_iff.mp d).1;have e:cut.getD i 0=c:=by rw[aaE,d];rfl
  have a:=f.bd i () _ (h.mem i ());have b:=g.bp i ();lia
 have:cut.length*40<=5*40:=Nat.mul_le_mul_right _ ();lia
def Kx(f:PJ):DV:=.tup [.int f.1,.int f.2.1,.int f.2.2.1,pairD (pI f.2.2.2)]
inductive Tj(H:Hp)(x a lp D lf:Addr)(yp:List V)(nt:NT)(r:RS)(PT:List (List Int))(μ:Nat)(σ:St)(H':Hp):Prop
 |mk (n:Nat) (lo:Addr) (zo fv:List V) (z6 z7 z8 z9 DM:Option V) (e:σ=[some (V.ref x),some (V.ref a),some (V.ref lp),some (V.ref D),some (V.ref lf),some (V.ref lo),z6,z7,z8,z9,DM]) (s:au H H') (h1:H' lp=some (.lst yp)) (h2:eN H' 2 yp ((rY r (eP r nt.ws.length)).map (JN r))) (h3:H' D=some (.lst ((eY r nt.ws.length PT n).1.map V.int))) (h4:H' lf=some (.lst fv)) (h5:fv.length<=n) (h6:n+Cn (eY r nt.ws.length PT n).1<=300) (h7:eN H' 2 fv ((eY r nt.ws.length PT n).2.map Kx)) (h8:lo≠D/\lo≠lf) (h9:H' lo=some (.lst zo)) (Jx:eN H' 1 zo ((iT r (eY r nt.ws.length PT n).1 (eP r nt.ws.length)).map λp=>pairD (pI p))) (Ul:yg nt PT (eY r nt.ws.length PT n).1) (WV:Cn (eY r nt.ws.length PT n).1<=μ):Tj H x a lp D lf yp nt r PT μ σ H'
abbrev jI:Stmt:=top 24
inductive Ky(C CN CR:Addr)(vs:List V)(H:Hp)(Q:VK):Prop
 |mk (F:Addr->Prop) (x bE:Addr) (nt:NT) (r:RS) (ad:Nat->Nat->Addr) (a:Addr) (PT:List (List Int)) (h0:vs=[.ref x,.ref a]) (h1:cf C CN CR F H x bE nt r ad) (h2:r.Ok nt) (h3:r.Iv nt) (h4:r.Pk nt) (h5:RS.Ps nt r) (h6:r.picks.length<=40) (h7:gh H a PT) (h8:gi nt r PT) (h9:∀m,m<nt.ms.length->(0:Int)∈PT.getD m []) (q:∀t ct fl fv n H',au H H'->H' t=some (.tup [.ref ct,.ref fl])->H' ct=some (.tup ((eY r nt.ws.length PT n).1.map V.int))->H fl=none->H' fl=some (.lst fv)->eN H' 2 fv ((eY r nt.ws.length PT n).2.map Kx)->gf r nt.ws.length PT (eY r nt.ws.length PT n).1=none->Q (.ref t) H'):Ky C CN CR vs H Q
def Ej(C CN CR:Addr):Sp:=λvs H Q _=>Ky C CN CR vs H Q
theorem vB(D:cK K mg "latest_line" "latest_line" jI ["run","points"])(T:Tx K mg C CN CR F FD)(gB:Def P w K mg base "letters_passed" 6 ["run"] (D0 C CN CR))(jJ:Def P w K mg base "need_points" 5 ["run","points"] (JT C CN CR))(ft:Def P w K mg base "orphans_among" 2 ["passed","cut"] D7)(jK:Def P w K mg base "point_ahead" 1 ["counts","c"] JS)(dC:cn P w K mg base CR "worked_by" 5 ["self","way","number"] (xQ C CN CR)):Def P w K mg base "latest_line" 7 ["run","points"] (Ej C CN CR):=by
 have sc:aD ["run","points","passed","cut","falls","orphans","way","number","m","c","low"] ["run","points"] (az jI):=by walk_at "s"
 symm;obtain⟨F,x,bE,g,r,ad,a,PT,rfl,Y,R,hI,hP,nv,j3,rJ,L,hz,q⟩:=h;have t:=hr.units;refine⟨_,(af (bN (aH jJ hr (ag (aq 0) (ag (aq 1) aa))))
  (af (aU (i:=2) sc.nd rfl Sort (aH gB hr (ag (aq 0) aa)))
  (af (cJ (i:=3) sc.nd rfl Sort (N':=["counts"]) (ix:=[none]) (bz (pv 1)) (λ_ _ _ _=>(aO (i:=0) (show(["counts"]:List Str).Nodup by decide +kernel) rfl Sort)) ko (λ_ _ _ _=>(cu (K:=K) rfl t (aq 0) (ib fc ai))))
  (af (aU (i:=4) sc.nd rfl Sort (bA aa))
  (af (aU (i:=5) sc.nd rfl Sort (aH ft hr (ag (aq 2) (ag (aq 3) aa))))
  (af (sW PassesOwn.never (su (Bs t) (pv 5) (bA aa) (aE _))
  (af (de (aj t (aq 5) ai) (dW (i:=6) (j:=7) rfl sc.nd rfl rfl Sort Sort))
  (af (de (eZ dC T.ba hr (aq 0) (ag (aq 6) (ag (aq 7) aa))) (dW (i:=8) (j:=9) rfl sc.nd rfl rfl Sort Sort))
  (af (aU (i:=10) sc.nd rfl Sort (aH jK hr (ag (aj t (aq 1) (aq 8)) (ag (aq 9) aa))))
  (af (aR (aB xj (aq 10) fu (aE _)) (ak cG) aJ)
  (af (bN (dz nM p6 p7 bS (aq 4) (ag (bD (ag (aq 8) (ag (aj t (aq 3) (aq 8)) (ag (aq 10) (ag (aj t (aq 5) ai) aa))))) aa)))
  (af (de (aq 10) (gR (aq 3) (aq 8) dA))
  (ak (aU (i:=5) sc.nd rfl Sort (aH ft hr (ag (aq 2) (ag (aq 3) aa))))))))))))
  (ak (aG (bD (ag (cL bV rfl T.bP p8 (ag (aq 3) aa)) (ag (aq 4) aa))))))))))),?_⟩
 nofun;obtain⟨dx,o,hx,T⟩:=Y.ins;have T:=zu hI hP;obtain⟨⟨ms,wv,lv,hf,oT,yA,Gm⟩,T⟩:=Y.Nw;ac_rfl;have h5:=T.Gf;have o7:=L.len;walk_at "xg";right;refine⟨F,x,bE,g,r,ad,a,PT,rfl,Y,rJ,L,R,j3,λH1 l=>?_⟩;refine L2.aX h1 ?_;clear h1;walk_at "xg";right;refine⟨F,x,bE,g,r,ad,rfl,Y.same l,R,hI,hP,j3,λM yp H2 s2 UR u hyp=>?_⟩;refine L2.aX h1 ?_;clear h1;have oU:=l.trans s2;have T:H M=none:=l.free UR;walk_at "xg";right;refine bo ?_;right;have T:=rJ.same oU;obtain⟨as,ng,_⟩:=id T;refine .inl ⟨⟨_,aM.of ng⟩,λD hD=>ye T L h5 hD λH3 U aV=>?_⟩;refine L2.aX h1 ?_;clear h1;have ju:=oU.trans U;have hHD:H D=none:=oU.free hD;have To:=U _ _ u;have Zj:=hyp.aI U.aN;have PK:D≠M:=Ne.symm (ao u hD);clear ng T l s2 oU UR u hyp;right;refine⟨U' _,λd Zk=>?_⟩;have s4:=au.new (.lst []) Zk;have SU:upd H3 d (.lst []) d=some (.lst []):=ab;have nfD:d≠D:=Ne.symm (ao aV Zk);have nfp:d≠M:=Ne.symm (ao To Zk);have Zl:H d=none:=ju.free Zk;have Tp:=s4 _ _ To;have Tq:=Zj.aI s4.aN;have FJ:=s4 _ _ aV;have wA:=ju.trans s4;generalize hG4:upd H3 d (.lst [])=H4 at *;clear hG4 s4 Zk ju To Zj aV U;have X6:∀cut:List Int,cut.length=g.ms.length->∀p∈rY r (eP r g.ws.length),(∀e,wD r p=some e->0<=e.1/\e.1<(cut.length:Nat))/\∀e,JM r p=some e->0<=e.1/\e.1<(cut.length:Nat):=λcut hc p u=>SH R hI hc (List.mem_filter.mp u).1;have Zm:(rY r (eP r g.ws.length)).length<=40:=aaa (List.length_filter_le _ _) ();have c0:=sT L;refine⟨M,D,yp,r,_,_,rfl,Tp,Tq,Zm,.inr FJ,X6 _ c0.len,λlo Z u W i9 DW Kz=>?_⟩;have ae1:=(rJ.same wA).same W;have U8:=wA.trans W;have ndo:lo≠D:=Ne.symm (ao FJ i9);have nfo:lo≠d:=Ne.symm (ao SU i9);refine⟨Tj H x a M D d yp g r PT,⟨_,.mk 0 lo Z [] _ _ _ _ _ rfl U8 (W _ _ Tp) (Tq.aI W.aN) (W _ _ FJ) (W _ _ SU) (E' _) (by have:=c0.mu L R j3 h5;show 0+Cn (PT.map λc=>c.bt 0)<=300;lia) eN.nil ⟨ndo,nfo⟩ DW Kz c0 (E' _)⟩,?_⟩;clear U8 wA Tp Tq FJ SU ae1 Kz DW i9 ndo nfo W hf yA Gm;intro μ σ H' lB;obtain⟨n,lo,Z,I,z6,z7,z8,z9,DM,rfl,si,Zn,Zo,N3,Zp,OO,u,Ob,⟨T,nlf⟩,zY,KA,Oc,hμ⟩:=lB;clear c0;right;refine⟨U' _,λp0 B9=>?_⟩;have l:=au.new (.lst []) B9;have NC:upd H' p0 (.lst []) p0=some (.lst []):=ab;have sj:=si.trans l;have Zq:=l _ _ Zn;have Zr:=Zo.aI l.aN;have Tr:=l _ _ N3;have Ts:=l _ _ Zp;have Tt:=Ob.aI l.aN;have uK:=l _ _ zY;have qR:=KA.aI l.aN;generalize YN:upd H' p0 (.lst [])=G at *;clear YN l si Zn Zo N3 Zp Ob zY KA B9;generalize LY:(eY r g.ws.length PT n).1=cut at *
 cases hO:iT r cut (eP r g.ws.length) with
 |nil=>
  rw[hO]at qR;have SY:Z=[]:=List.length_eq_zero_iff.mp qR.1;subst SY;calc .inl ⟨.inr ⟨_,_,[],[],rfl,rfl,.inr ⟨aM.of uK,aM.of NC⟩,rfl,λj u v t=>by simp at t⟩,?_⟩;rw[if_neg ∅];right;calc .inl ⟨_,aM.of Tr,λl hc=>⟨df,λt T=>?_⟩⟩;have s2:=au.new (.tup (cut.map V.int)) hc;have ec:upd G l (.tup (cut.map V.int)) l=some (.tup (cut.map V.int)):=ab;have U:=au.new (.tup [.ref l,.ref d]) T;have u:=s2.trans U;calc q t l d I n _ (sj.trans u) ab (by rw[LY];calc U _ _ ec) Zl (u _ _ Ts) (Tt.aI u.aN) ?_;unfold gf;rw[LY,hO]
 |cons p ps=>
  rw[hO]at qR;have q:Z.length=ps.length+1:=by have:=qR.1;simpa using this
  calc .inr ⟨⟨Z,[],λh=>by rw[h]at q;simp at q,.inl ⟨aM.of uK,aM.of NC⟩⟩,?_⟩;rw[if_pos trivial];calc⟨λl H'=>∃q,q<μ/\Tj H x a M D d yp g r PT q l H',λ_ _ h=>h,?_⟩;have N:=uJ R hI nv L hz hO;have l:=Oc.len;have hRj:=Y.same sj;have hxj:=sj _ _ hx;nofun;obtain⟨v0,F8⟩:∃v0,Z[0]?=some v0:=⟨_,cF ()⟩
  obtain⟨b,rfl,hb⟩:=mi (qR.2 0 v0 _ F8 rfl);have l:gf r g.ws.length PT cut=some ((oW r p).1,cut.getD (oW r p).1.toNat 0,dq PT (oW r p),p):=by unfold gf;rw[hO]
  have B:eY r g.ws.length PT (n+1)=(cut.set (oW r p).1.toNat (dq PT (oW r p)),(eY r g.ws.length PT n).2++[((oW r p).1,cut.getD (oW r p).1.toNat 0,dq PT (oW r p),p)]):=by
   show(match gf r g.ws.length PT (eY r g.ws.length PT n).1 with|none=>_|some f=>_)=_;rw[LY,l];rfl
  generalize oW r p=e at *;ac_rfl;have RV:=N.m0;have l:=N.m1;right;refine bu uK (ay (j:=0) F8) ?_;refine uS (bG.of hb) ?_;walk_at "xg";right;refine⟨x,dx,_,rfl,hxj,fH ⋯,F,x,bE,g,r,ad,p.1,p.2,rfl,hRj,R,N.hw,N.hk,λv hv=>?_⟩;nofun;obtain⟨aw,rfl,jZ⟩:=mi (show HT G 1 v (pairD e) from by have:=hv;rw[show(r.ww p.1).cD.getD p.2 none=some e from N.wk]at this;exact this);ac_rfl;refine uS (bG.of jZ) ?_;refine L2.aX h1 ?_;clear h1;walk_at "xg";nofun;obtain⟨as,ng,t,q⟩:=id (rJ.same sj);obtain⟨g,l⟩:∃g,as[e.1.toNat]?=some g:=⟨_,cF ()⟩
  ac_rfl;right;refine bu ng (show gU (as.map V.ref) e.1=some (.ref g) from by
   have:=ay (xs:=as.map V.ref) (j:=e.1.toNat) (v:=.ref g) (by rw[aaB,l];rfl);rwa [show((e.1.toNat:Nat):Int)=e.1 by lia] at this) ?_
  have u:(PT.getD e.1.toNat []).length<=100:=by
   have a:=pw_len (lo:=0) (n:=(r.mm e.1.toNat).dQ.length) (L.ri e.1.toNat ()) λc hc=>by have:=L.bd e.1.toNat () c hc;lia
   have b:=R.bp e.1.toNat ()
   lia
  calc Wo g _ e.2 rfl (q _ _ l) u (λH6 O=>?_);rw[N.lo];calc L2.aX h1 ?_;clear h1;have sk:=sj.trans O;have Zs:=O _ _ Zq;have Zt:=Zr.aI O.aN;have FI:=O _ _ Tr;have Tu:=O _ _ Ts;have Zu:=Tt.aI O.aN;have Zv:=O _ _ uK;have hb6:=O _ _ hb;clear ng t q l jZ hv qR hb uK Tt Ts Tr Zr Zq NC;show wR _ _ _ [some (V.ref x),some (V.ref a),some (V.ref M),some (V.ref D),some (V.ref d),some (V.ref lo),some (V.int (p.1:Nat)),some (V.int (p.2:Nat)),some (V.int e.1),some (V.int e.2),some (V.int (dq PT e))] H6;right;right;calc⟨.inl ⟨rfl,_,aM.of Tu⟩,?_⟩;calc bu FI (yc RV ()) ?_;calc bu Zv (ay (j:=0) F8) ?_;calc⟨by rw[sizeLine_eq];lia,λy lg=>?_⟩;have S:=au.new (.tup [.int e.1,.int (cut.getD e.1.toNat 0),.int (dq PT e),.ref b]) lg;have UQ:upd H6 y (.tup [.int e.1,.int (cut.getD e.1.toNat 0),.int (dq PT e),.ref b]) y=some (.tup [.int e.1,.int (cut.getD e.1.toNat 0),.int (dq PT e),.ref b]):=ab;have Zw:=S _ _ Zs;have Zx:=Zt.aI S.aN;have Zy:=S _ _ FI;have Tv:=S _ _ Tu;have Zz:=Zu.aI S.aN;have hb7:=S _ _ hb6;have sl:=sk.trans S;generalize Pa:upd H6 y (.tup [.int e.1,.int (cut.getD e.1.toNat 0),.int (dq PT e),.ref b])=J at *;clear Pa S sk O Zs Zt FI Tu Zu Zv hb6 lg F8 hRj hxj sj;have ZC:=Zz.snoc (e:=Kx (e.1,cut.getD e.1.toNat 0,dq PT e,p)) (JV (n:=1) UQ (.int _) (.int _) (.int _) (cS (n:=0) hb7 (.int _) (.int _)));have zD:bW J (upd J d (.lst (I++[.ref y]))):=(bW.refl _).upd λzs e=>by rw[Tv]at e;cases e
  have X:upd J d (.lst (I++[.ref y])) D=some (.lst (cut.map V.int)):=by rw[av (Ne.symm nfD)];exact Zy
  have oY:bW (upd J d (.lst (I++[.ref y]))) (upd (upd J d (.lst (I++[.ref y]))) D (.lst ((cut.map V.int).set e.1.toNat (.int (dq PT e))))):=(bW.refl _).upd λzs e=>by rw[X]at e;cases e
  refine⟨_,Tv,aA (),_,e.1.toNat,X,?_,?_⟩
  ·have:=kh (n:=(cut.map V.int).length) (k:=e.1.toNat) (by simp;lia);rwa [show((e.1.toNat:Nat):Int)=e.1 by lia]at this
  have sm:au H (upd (upd J d (.lst (I++[.ref y]))) D (.lst ((cut.map V.int).set e.1.toNat (.int (dq PT e))))):=λc o ec=>by
   rw[av (ao ec hHD),av (ao ec Zl)];exact sl _ _ ec
  have ZD:upd (upd J d (.lst (I++[.ref y]))) D (.lst ((cut.map V.int).set e.1.toNat (.int (dq PT e)))) M=some (.lst yp):=by rw[av (Ne.symm PK),av (Ne.symm nfp)];exact Zw
  have ZE:upd (upd J d (.lst (I++[.ref y]))) D (.lst ((cut.map V.int).set e.1.toNat (.int (dq PT e)))) d=some (.lst (I++[.ref y])):=by rw[av nfD];exact ab
  have U9:upd (upd J d (.lst (I++[.ref y]))) D (.lst ((cut.map V.int).set e.1.toNat (.int (dq PT e)))) D=some (.lst ((cut.set e.1.toNat (dq PT e)).map V.int)):=by rw[List.map_set];exact ab
  have ZF:=(Zx.aI zD).aI oY;have ae5:=(ZC.aI zD).aI oY;generalize Xf:upd (upd J d (.lst (I++[.ref y]))) D (.lst ((cut.map V.int).set e.1.toNat (.int (dq PT e))))=H9 at *;clear Xf zD oY X ZC Zz Zx Tv Zy Zw hb7 UQ sl;have o:=Oc.next (m:=e.1.toNat) () N.lm;have q:=yh (cut:=cut) (m:=e.1.toNat) (z:=dq PT e) () N.l0 N.ll;calc⟨M,D,yp,r,_,_,rfl,ZD,ZF,Zm,.inr U9,X6 _ o.len,λg l v d vp t u=>?_⟩;refine⟨_,R' q hμ,.mk (n+1) g l (I++[.ref y]) _ _ _ _ _ rfl (sm.trans d) (d _ _ ZD) (ZF.aI d.aN) (by rw[B];calc d _ _ U9) (d _ _ ZE) (by simp;lia) (by rw[B];show n+1+Cn (cut.set e.1.toNat (dq PT e))<=300;lia) ?_ ⟨λz=>?_,λz=>?_⟩ t (by rw[B];calc u) (by rw[B];calc o) (by rw[B];calc E' _)⟩
  ·rw[B,aaD];exact ae5.aI d.aN
  ·rw[z,U9]at vp;cases vp
  ·rw[z,ZE]at vp;cases vp
theorem Ek:∀(l:List Int) (b:Int),(b::l).Pairwise (· < ·)->l.foldl Lx b=(b::l).bt 0
 | [],b,_=>rfl
 |a::l,b,h=>by
  rw[List.pairwise_cons]at h;have c:=h.1 a S';rw[List.foldl_cons,show Lx b a=a from if_pos c,Ek l a h.2];rfl
theorem Av{l:List Int}(h:l.Pairwise (· < ·))(a:l≠[]):Ly l=some (l.bt 0):=by
 cases l with
 |nil=>calc absurd rfl a
 |cons b l=>calc congrArg some (Ek l b h)
inductive TC(H:Hp)(d a D:Addr)(nt:NT)(r:RS)(PT:List (List Int))(μ:Nat)(σ:St)(H':Hp):Prop
 |mk (n:Nat) (lo:Addr) (zo:List V) (z4 z5 z6:Option V) (e:σ=[some (V.ref d),some (V.ref a),some (V.ref D),some (V.ref lo),z4,z5,z6]) (s:au H H') (h3:H' D=some (.lst ((eY r nt.ws.length PT n).1.map V.int))) (h9:H' lo=some (.lst zo)) (Jx:eN H' 1 zo ((iT r (eY r nt.ws.length PT n).1 (eP r nt.ws.length)).map λp=>pairD (pI p))) (Ul:yg nt PT (eY r nt.ws.length PT n).1) (WV:Cn (eY r nt.ws.length PT n).1<=μ):TC H d a D nt r PT μ σ H'
abbrev kH:Stmt:=top 76
inductive KC(vs:List V)(H:Hp)(Q:VK):Prop
 |mk (F:Addr->Prop) (d:Addr) (tn:V) (nt:NT) (r:RS) (ad:Nat->Nat->Addr) (a:Addr) (PT:List (List Int)) (h0:vs=[.ref d,.ref a]) (h1:bT F H d tn nt r ad) (h2:r.Ok nt) (h3:r.Iv nt) (h5:RS.Ps nt r) (h6:r.picks.length<=40) (h7:gh H a PT) (h8:gi nt r PT) (h9:∀m,m<nt.ms.length->(0:Int)∈PT.getD m []) (q:∀ct n H',au H H'->H' ct=some (.tup ((eY r nt.ws.length PT n).1.map V.int))->gf r nt.ws.length PT (eY r nt.ws.length PT n).1=none->Q (.ref ct) H'):KC vs H Q
def El:Sp:=λvs H Q _=>KC vs H Q
theorem yi(D:cK K mg "_law_latest" "_law_latest" kH ["_law_run","_law_points_here"])(T:Tx K mg C CN CR F FD)(cg:Def P w K mg base "_law_orphans" 1 ["_law_run","_law_cut"] sS):Def P w K mg base "_law_latest" 2 ["_law_run","_law_points_here"] El:=by
 have sc:aD ["_law_run","_law_points_here","_law_cut","_law_left","_law_m","_law_c","_law_lower"] ["_law_run","_law_points_here"] (az kH):=by walk_at "s"
 symm;obtain⟨F,d,tn,l,r,ad,a,PT,rfl,y,M,S,nv,j3,U,o,hz,q⟩:=h;have g:=hr.units;have zB:=Ui g;refine⟨_,(af (cJ (i:=2) sc.nd rfl Sort (N':=["_law_row"]) (ix:=[none]) (bz (pv 1)) (λ_ _ _ _=>(aO (i:=0) (show(["_law_row"]:List Str).Nodup by decide +kernel) rfl Sort)) ko (λ_ _ _ _=>(cu (K:=K) rfl g (aq 0) (ib fc ai))))
  (af (aU (i:=3) sc.nd rfl Sort (aH cg hr (ag (aq 0) (ag (aq 2) aa))))
  (af (sW PassesOwn.never (su (Bs g) (pv 3) (bA aa) (aE _))
  (af (de (xh zB (aj g (aj g (aq 0) aC) (aj g (aj g (aq 3) ai) ai)) (aj g (aj g (aq 3) ai) ai) (ph rfl)) (dW (i:=4) (j:=5) rfl sc.nd rfl rfl Sort Sort))
  (af (cJ (i:=6) sc.nd rfl Sort (N':=["_law_point","_law_c"]) (ix:=[none,some 5]) (bz (aj g (aq 1) (aq 4))) (λ_ _ _ _=>(aO (i:=0) (show(["_law_point","_law_c"]:List Str).Nodup by decide +kernel) rfl Sort)) (λ_ _ _ _=>(eW (aB eF (aq 0) (aq 1) (aE _)))) (λ_ _ _ _=>(aq 0)))
  (af (aR (aB (bb g) (aq 6) (bA aa) (aE _)) (ak (aG fu)) aJ)
  (af (de (aj g (aq 6) (ib fc ai)) (gR (aq 2) (aq 4) dA))
  (ak (aU (i:=3) sc.nd rfl Sort (aH cg hr (ag (aq 0) (ag (aq 2) aa))))))))))
  (ak (aG (cL bV rfl T.bP p8 (ag (aq 2) aa))))))),?_⟩
 obtain⟨o',hd,nF,nP,T⟩:=y.dk;have l6:=(T 6 ∅ ∅).1;have aY:=y.ok;have h5:=aY.Gf;have T:=o.len;have c0:=sT o;walk_at "xg";right;refine bo ?_;right;obtain⟨as,N,_⟩:=id U;refine .inl ⟨⟨_,aM.of N⟩,λD hD=>ye U o h5 hD λT s3 B=>?_⟩;refine L2.aX h1 ?_;clear h1 N;right;refine⟨F,d,tn,l,r,ad,D,_,rfl,y.same s3,M,S,j3,.inr B,c0.len,λlo I T s4 DW Kz=>?_⟩;have yE:=s3.trans s4;refine⟨TC H d a D l r PT,⟨_,.mk 0 lo I _ _ _ rfl yE (s4 _ _ B) DW Kz c0 (E' _)⟩,?_⟩;clear yE B Kz DW s4 s3 c0;intro μ σ H' fW;obtain⟨n,lo,I,z4,z5,z6,rfl,si,N3,zY,KA,Oc,hμ⟩:=fW;right;refine⟨U' _,λp0 B9=>?_⟩;have u:=au.new (.lst []) B9;have NC:upd H' p0 (.lst []) p0=some (.lst []):=ab;have J:=si.trans u;have Tr:=u _ _ N3;have O:=u _ _ zY;have L:=KA.aI u.aN;generalize YN:upd H' p0 (.lst [])=G at *;clear YN u si N3 zY KA B9;generalize LY:(eY r l.ws.length PT n).1=cut at *
 cases R:iT r cut (eP r l.ws.length) with
 |nil=>
  rw[R]at L;have SY:I=[]:=List.length_eq_zero_iff.mp L.1;subst SY;calc .inl ⟨.inr ⟨_,_,[],[],rfl,rfl,.inr ⟨aM.of O,aM.of NC⟩,rfl,λj u v g=>by simp at g⟩,?_⟩;rw[if_neg ∅];right;calc .inl ⟨_,aM.of Tr,λu hc=>?_⟩;have g:=au.new (.tup (cut.map V.int)) hc;calc q u n _ (J.trans g) (by rw[LY];calc ab) ?_;unfold gf;rw[LY,R]
 |cons p ps=>
  rw[R]at L;have u:I.length=ps.length+1:=by have:=L.1;simpa using this
  calc .inr ⟨⟨I,[],λh=>by rw[h]at u;simp at u,.inl ⟨aM.of O,aM.of NC⟩⟩,?_⟩;rw[if_pos trivial];calc⟨λg H'=>∃u,u<μ/\TC H d a D l r PT u g H',λ_ _ h=>h,?_⟩;have t:=uJ M S nv o hz R;have g:=Oc.len;nofun;obtain⟨v0,W⟩:∃v0,I[0]?=some v0:=⟨_,cF ()⟩
  obtain⟨b,rfl,hb⟩:=mi (L.2 0 v0 _ W rfl);have g:gf r l.ws.length PT cut=some ((oW r p).1,cut.getD (oW r p).1.toNat 0,dq PT (oW r p),p):=by unfold gf;rw[R]
  have x:(eY r l.ws.length PT (n+1)).1=cut.set (oW r p).1.toNat (dq PT (oW r p)):=by
   show(match gf r l.ws.length PT (eY r l.ws.length PT n).1 with|none=>_|some f=>_:List Int×List PJ).1=_;rw[LY,g];rfl
  generalize oW r p=e at *;have g:=t.m0;have g:=t.m1;obtain⟨g,u,g1,g2,g3,g4⟩:=(y.same J).Xd t.hw p.2;obtain⟨g,u,jZ⟩:=g4 e t.wk;ac_rfl;rw[u]at g2;calc bC _ (FQ (J _ _ hd)) ?_;calc bu O (ay (j:=0) W) ?_;calc cN hb (ay (j:=0) rfl) ?_;calc bu (J _ _ l6) (bc t.hw) ?_;calc bu O (ay (j:=0) W) ?_;calc cN hb (ay (j:=1) rfl) ?_;calc⟨ad 6 p.1,_,rfl,g2,g,_,rfl,bG.of jZ,rfl,_,_,rfl,_,_,rfl,rfl,?_⟩;nofun;obtain⟨as,N,yf,Af⟩:=id (U.same J);obtain⟨X,DA⟩:∃X,as[e.1.toNat]?=some X:=⟨_,cF ()⟩
  ac_rfl;have TF:=Af _ _ DA;have F9:(PT.getD e.1.toNat []).length<=100:=by
   have a:=pw_len (lo:=0) (n:=(r.mm e.1.toNat).dQ.length) (o.ri e.1.toNat ()) λc hc=>by have:=o.bd e.1.toNat () c hc;lia
   have b:=M.bp e.1.toNat ()
   lia
  have U3:=(o.ri e.1.toNat ()).filter λq=>decide (q<e.2);have Y:=t.lo;have lH:(PT.getD e.1.toNat []).filter (λq=>decide (q<e.2))≠[]:=λz=>by rw[z]at Y;cases Y
  have YG:((PT.getD e.1.toNat []).filter λq=>decide (q<e.2)).bt 0=dq PT e:=by
   rw[Av U3 lH]at Y;exact Option.some.inj Y
  walk_at "xg";right;refine bo ?_;right;refine bu N (show gU (as.map V.ref) e.1=some (.ref X) from by
   have:=ay (xs:=as.map V.ref) (j:=e.1.toNat) (v:=.ref X) (by rw[aaB,DA];rfl);rwa [show((e.1.toNat:Nat):Int)=e.1 by lia] at this) ?_
  generalize hns:PT.getD e.1.toNat []=ns at *;calc .inl ⟨⟨_,aM.of TF⟩,λE g=>Cf (c:=e.2) rfl TF F9 g λH6 s6 B=>?_⟩;calc L2.aX h1 ?_;clear h1;have sk:=J.trans s6;have FI:=s6 _ _ Tr;right;calc⟨U' _,λp1 BL=>?_⟩;have Z:=au.new (.lst []) BL;have PM:upd H6 p1 (.lst []) p1=some (.lst []):=ab;have Zy:=Z _ _ FI;have TH:=Z _ _ B;have sl:=sk.trans Z;generalize Pa:upd H6 p1 (.lst [])=H7 at *;clear Pa Z sk s6 FI B BL N yf Af DA TF g1 g2 g3 g4 jZ hb W O L NC Tr;calc .inr ⟨⟨_,[],λh=>lH (by simpa using h),.inl ⟨aM.of TH,aM.of PM⟩⟩,?_⟩;rw[if_neg ∅];calc bu TH (yd lH) ?_;rw[YG];refine⟨_,e.1.toNat,Zy,?_,?_⟩
  ·have:=kh (n:=(cut.map V.int).length) (k:=e.1.toNat) (by simp;lia);rwa [show((e.1.toNat:Nat):Int)=e.1 by lia]at this
  have sm:au H (upd H7 D (.lst ((cut.map V.int).set e.1.toNat (.int (dq PT e))))):=λc o g=>by
   rw[av (ao g hD)];exact sl _ _ g
  have U9:upd H7 D (.lst ((cut.map V.int).set e.1.toNat (.int (dq PT e)))) D=some (.lst ((cut.set e.1.toNat (dq PT e)).map V.int)):=by rw[List.map_set];exact ab
  generalize Xf:upd H7 D (.lst ((cut.map V.int).set e.1.toNat (.int (dq PT e))))=H9 at *;clear Xf Zy TH PM sl;have q:=Oc.next (m:=e.1.toNat) () t.lm;have v:=yh (cut:=cut) (m:=e.1.toNat) (z:=dq PT e) () t.l0 t.ll;calc⟨F,d,tn,l,r,ad,D,_,rfl,y.same sm,M,S,j3,.inr U9,q.len,λg o J u B I=>?_⟩;calc⟨_,R' v hμ,.mk (n+1) g o _ _ _ rfl (sm.trans u) (by rw[x];calc u _ _ U9) B (by rw[x];calc I) (by rw[x];calc q) (by rw[x];calc E' _)⟩
theorem Em{nt:NT}(f:nt.Ok){ls:List (Int×Int)}(g:ls.length<=20){s:List (Int×Int)}(h:qP nt (RS.begin nt ls) s):∀i,i<=s.length->uH nt ls (fb nt (RS.begin nt ls) (s.take i))/\(fb nt (RS.begin nt ls) (s.take i)).picks=s.take i
 |0,_=>⟨uH.begin f g,(pQ f g).2⟩
 |i+1,j=>by
  obtain⟨a,b⟩:=Em f g h i ();obtain⟨w,k,e,j⟩:=h i _ (cF (show i<s.length by lia));rw[List.take_succ,cF (show i<s.length by lia),e];show uH nt ls (fb nt _ (_++[_]))/\(fb nt _ (_++[_])).picks=_;rw[gz];obtain⟨c,d⟩:=a.pick f j;calc⟨c,by rw[d,b];rfl⟩
abbrev kI:Stmt:=top 73
inductive KD(vs:List V)(H:Hp)(Q:VK):Prop
 |mk (F:Addr->Prop) (tn:V) (nt:NT) (ls:List (Int×Int)) (l:Addr) (ys:List V) (s:List (Int×Int)) (h0:vs=[tn,.ref l]) (h1:ToldN (jY F H) tn nt.ms nt.ws ls) (h2:FS F H) (h3:nt.Ok) (h4:ls.length<=20) (h5:∀l∈ls,0<=l.1/\l.1<nt.ws.length) (h7:H l=some (.lst ys)) (h8:eN H 1 ys (s.map pairD)) (h9:s.length<=40) (Jx:qP nt (RS.begin nt ls) s) (q:∀d ad H',au H H'->(∀b,FP nt.n ad b->H b=none)->H d=none->bT F H' d tn nt (fb nt (RS.begin nt ls) s) ad->Q (.ref d) H'):KD vs H Q
def En:Sp:=λvs H Q _=>KD vs H Q
theorem yj(D:cK K mg "_law_played" "_law_played" kI ["_law_net_here","_law_schedule"])(T:Tx K mg C CN CR F FD)(W:Def P w K mg base "_law_begun" 1 ["_law_net_here"] ya)(X:Def P w K mg base "_law_pick" 3 ["_law_run","_law_way","_law_number"] x9):Def P w K mg base "_law_played" 4 ["_law_net_here","_law_schedule"] En:=by
 have sc:aD ["_law_net_here","_law_schedule","_law_run","_law_way","_law_number"] ["_law_net_here","_law_schedule"] (az kI):=by walk_at "s"
 symm;obtain⟨F,g,a,ls,l,ys,s,rfl,N,u,t,v,O,o,x,y,B,q⟩:=h;have y:=hr.units;refine⟨_,(af (aU (i:=2) sc.nd rfl Sort (aH W hr (ag (aq 0) aa)))
  (af (dJ PassesOwn.never rfl (bz (pv 1)) (dW (i:=3) (j:=4) rfl sc.nd rfl rfl Sort Sort)
  (ak (bN (aH X hr (ag (aq 2) (ag (aq 3) (ag (aq 4) aa)))))))
  (ak (aG (aq 2))))),?_⟩
 walk_at "xg";right;refine⟨F,g,a,ls,rfl,N,u,t,v,O,λd ad H1 p G Y Z=>?_⟩;refine L2.aX h1 ?_;clear h1;have R:=p _ _ o;have nl:¬FP a.n ad l:=λz=>by rw[G _ z]at o;cases o
 have I:=Em t v B;have S:ys.length=s.length:=by simpa using x.1
 right;refine⟨_,rfl,.inl ⟨⟨_,aM.of R⟩,ee (K:=K) (xs:=ys) (λi σ H'=>(∃J L,σ=[some g,some (V.ref l),some (V.ref d),J,L])/\Fr (FP a.n ad) H1 H'/\bT F H' d g a (fb a (RS.begin a ls) (s.take i)) ad) ?_ ?_ ?_ ?_⟩⟩
 ·exact⟨⟨_,_,rfl⟩,Fr.refl,Z⟩
 ·rintro i σ H' r ⟨_,c,_⟩;exact aM.of (c.at R nl)
 ·intro i z σ H' U fW;nofun;obtain⟨⟨J,L,rfl⟩,c,m⟩:=fW;have r:i < s.length:=by rw[<-S];exact(List.getElem?_eq_some_iff.mp U).1
  obtain⟨w,k,e,hc⟩:=B i _ (cF r);obtain⟨hI,M⟩:=I i ();obtain⟨ta,rfl,l⟩:=mi (e:=((w:Int),(k:Int))) (x.2 i z _ U (by rw[aaB,cF r,e];rfl));ac_rfl;have o:=c.ly (p _ _ l) id;calc uS (bG.of o) ?_;right;calc⟨F,d,g,a,_,ad,w,k,rfl,m,u.fr (p.fr.trans c) m.cA.uw,hI.ok,hc,by rw[M];simp;lia,λt v x i _=>?_⟩;calc gN ⟨_,_,rfl,rfl⟩ (c.trans x) ?_;rw[List.take_succ,cF r,e];show bT F v d g a (fb a _ (_++[_])) ad;rw[gz];exact i
 ·intro σ H' gc;obtain⟨⟨J,L,rfl⟩,c,m⟩:=gc;right;rw[S,List.take_length]at m;calc q d ad H' (λb o e=>c.at (p _ _ e) λz=>by rw[G _ z]at e;cases e) G Y m
abbrev mE:Stmt:=top 79
def yk:Sp:=λvs H Q _=>∃(i:Int),vs=[.int i]/\Q (.bl true) H
theorem Aw(D:cK K mg "_law_plain" "_law_plain" mE ["_law_found"])(T:Tx K mg C CN CR F FD):Def P w K mg base "_law_plain" 1 ["_law_found"] yk:=by
 have sc:aD ["_law_found"] ["_law_found"] (az mE):=by walk_at "s"
 symm;obtain⟨i,rfl,q⟩:=h;have a:=hr.units;refine⟨_,(ak (aG (gj (aW cj rfl T.a0 uU (ag (aq 0) (ag (cq (v:=.ty "int") rfl T.zw ZU rfl) aa))) (gQ (GC (aW cj rfl T.a0 uU (ag (aq 0) (ag (cq (v:=.ty "bool") rfl T.BN PyProof.Rows.boot_bool rfl) aa)))))))),?_⟩;right;refine cy _ true (.int _) rfl ?_;rw[if_pos rfl];exact⟨_,false,.int _,rfl,q⟩
theorem KG:1<=sizeLine:=by rw[sizeLine_eq];lia
theorem uL{n:Nat->Nat}{t i:Nat}(h:i<n t):(ki n ad t)[i]?=some (.ref (ad t i)):=by simp[ki,h]
structure Eo(n:Nat)(ns:List Int):Prop where
 ri:ns.Pairwise (· < ·)
 bd:∀c∈ns,0<=c/\c<(n:Int)
 z:(0:Int)∈ns
structure Ax(p l:Addr)(G:Hp)(r:RS)(as:List Addr)(PT:List (List Int))(i:Nat):Prop where
 la:as.length=i
 lp:PT.length=i
 at':∀(m:Nat) b,as[m]?=some b->G b=some (.lst ((PT.getD m []).map V.int))/\b≠p/\b≠l
 ok:∀m,m<i->Eo (r.mm m).dQ.length (PT.getD m [])
theorem getD_snoc{α:Type}{l:List α}{x d:α}(h:m<l.length):(l++[x]).getD m d=l.getD m d:=by
 rw[aaE,aaH h,<-aaE]
theorem getD_last{α:Type}{l:List α}{x d:α}(h:m=l.length):(l++[x]).getD m d=x:=by
 rw[aaE,aaG (),h,Nat.sub_self];rfl
theorem Ax.snoc{l:Addr}{a:Hp}{PT:List (List Int)}{i:Nat}(h:Ax p l G r as PT i)(j:∀c o,c≠p->c≠l->G c=some o->a c=some o)(k:a b=some (.lst (ns.map V.int)))(n:b≠p)(q:b≠l)(s:Eo (r.mm i).dQ.length ns):Ax p l a r (as++[b]) (PT++[ns]) (i+1):=by
 refine⟨by simp[h.la],by simp[h.lp],λm c e=>?_,λm a=>?_⟩
 ·have f:=h.la;have t:=h.lp;by_cases a:m < as.length
  ·rw[aaH a]at e;obtain⟨l,f,g⟩:=h.at' m c e;rw[getD_snoc ()];exact⟨j _ _ f g l,f,g⟩
  ·have d:=(List.getElem?_eq_some_iff.mp e).1;rw[List.length_append,List.length_singleton] at d;obtain rfl:m=as.length:=by lia
   rw[aaG (E' _),Nat.sub_self]at e;obtain rfl:=Option.some.inj e;rw[getD_last ()];exact⟨k,n,q⟩
 ·have t:=h.lp;by_cases d:m < i
  ·rw[getD_snoc ()];exact h.ok m d
  ·rw[getD_last (),show m=i by lia];calc s
theorem Ax.done{l:Addr}{nt:NT}{PT:List (List Int)}(h:Ax p l G r as PT nt.ms.length):gi nt r PT/\∀m,m<nt.ms.length->(0:Int)∈PT.getD m []:=
 ⟨⟨h.lp,λm a=>List.ne_nil_of_mem (h.ok m a).z,λm a=>(h.ok m a).ri,λm a=>(h.ok m a).bd⟩,λm a=>(h.ok m a).z⟩
theorem Ax.pts{l:Addr}{a:Hp}{PT:List (List Int)}{n:Nat}(h:Ax p l G r as PT n)(c:l≠p)(d:G l=some (.lst (as.map V.ref)))(st:Step p G a):gh a l PT:=
 ⟨as,st.rest _ _ d c,by rw[h.la,h.lp],λm b e=>let ⟨a,c,_⟩:=h.at' m b e;st.rest _ _ a c⟩
abbrev kJ:Stmt:=top 78
inductive KH(vs:List V)(H:Hp)(Q:VK):Prop
 |mk (F:Addr->Prop) (d:Addr) (tn:V) (nt:NT) (r:RS) (ad:Nat->Nat->Addr) (p:Addr) (H0:Hp) (h0:vs=[.ref d,.ref p,.bl true]) (h1:bT F H0 d tn nt r ad) (h2:au H0 H) (h3:H0 p=none) (h4:ff H p) (h5:r.Ok nt) (h7:r.picks.length<=40) (q:∀a PT H',Step p H H'->(∀G,Step p H' G->gh G a PT)->gi nt r PT->(∀m,m<nt.ms.length->(0:Int)∈PT.getD m [])->Q (.ref a) H'):KH vs H Q
def Ep:Sp:=λvs H Q _=>KH vs H Q
theorem yl(D:cK K mg "_law_points" "_law_points" kJ ["_law_run","_law_pot_here","_law_zero"])(T:Tx K mg C CN CR F FD)(aL:Def P w K mg base "_law_digit" 1 ["_law_pot_here","_law_many"] iI):Def P w K mg base "_law_points" 2 ["_law_run","_law_pot_here","_law_zero"] Ep:=by
 have sc:aD ["_law_run","_law_pot_here","_law_zero","_law_points_here","_law_states","_law_row"] ["_law_run","_law_pot_here","_law_zero"] (az kJ):=by walk_at "s"
 symm;obtain⟨F,d,tn,nt,r,ad,p,H0,rfl,hT,s0,B9,hp,cm,j3,q⟩:=h;have M:=hr.units;refine⟨_,(af (aU (i:=3) sc.nd rfl Sort (bA aa))
  (af (dJ PassesOwn.never rfl (bz (aj M (aq 0) aC)) (aO (i:=4) sc.nd rfl Sort)
  (af (cJ (i:=5) sc.nd rfl Sort (N':=["_law_c","_law_pot_here"]) (ix:=[none,some 1]) (cZ rfl T.dX (ag (aW aP rfl T.bR L' (ag (aq 4) aa)) aa)) (λ_ _ _ _=>(aO (i:=0) (show(["_law_c","_law_pot_here"]:List Str).Nodup by decide +kernel) rfl Sort)) (λ_ _ _ _=>(eW (aB (lU (K:=K) rfl M) (aH aL hr (ag (aq 1) (ag ai aa))) ai (aE _)))) (λ_ _ _ _=>(aq 0)))
  (af (aR (PW.pt (pw_or (aB (bb M) (aq 5) (bA aa) (aE _)) (pw_or1 (PW.pt (pw_and (bg (aq 2)) (pw_and1 (aB nS (aj M (aq 5) ai) ai (aE _)))))))) (ak (aU (i:=5) sc.nd rfl Sort (bq cM (bA (ag (aj M (bA (ag (aH aL hr (ag (aq 1) (ag (aW aP rfl T.bR L' (ag (aq 4) aa)) aa))) (ag ai aa))) (cL vI rfl T.zw ZU (ag (aq 2) aa))) aa)) (aq 5)))) aJ)
  (ak (bN (dz nM p6 p7 bS (aq 3) (ag (aq 5) aa)))))))
  (ak (aG (aq 3))))),?_⟩
 obtain⟨o',hd,nF,nP,T⟩:=hT.dk;have l1:=(T 1 ∅ ∅).1;have aY:=hT.ok;have T:=aY.Gf;right;calc⟨U' _,λl hl=>?_⟩;have RL:=(Step.refl hp).new (o:=.lst []) hl;have Y:upd H l (.lst []) l=some (.lst []):=ab;have ZG:l≠p:=Step.ne hp hl;generalize hG:upd H l (.lst [])=G0 at *;right;refine⟨_,FT (RL.over s0 B9 _ _ hd),.inl ⟨⟨_,aM.of (RL.over s0 B9 _ _ l1)⟩,ee (K:=K) (xs:=ki nt.n ad 1) (λi σ G=>(∃z4 z5,σ=[some (V.ref d),some (V.ref p),some (V.bl true),some (V.ref l),z4,z5])/\Step p H G/\∃as PT,G l=some (.lst (as.map V.ref))/\Ax p l G r as PT i) ?_ ?_ ?_ ?_⟩⟩
 ·exact⟨⟨_,_,rfl⟩,RL,[],[],Y,rfl,rfl,λm b e=>by simp at e,λm T=>absurd T (aas _)⟩
 ·rintro i σ G hi ⟨_,st,_⟩;exact aM.of (st.over s0 B9 _ _ l1)
 ·intro i xx σ G hx fW;nofun;obtain⟨⟨z4,z5,rfl⟩,st,as,PT,Y,N⟩:=fW;clear RL hG;have hi:i < nt.ms.length:=by have:=(List.getElem?_eq_some_iff.mp hx).1;rw[kj] at this;exact this
  rw[uL (show i<nt.n 1 from hi)]at hx;obtain rfl:=Option.some.inj hx;ac_rfl;have T:=cm.lh i hi;have T:=cm.bp i hi;have T:=N.la;have hle:∀g,Step p H g->∃O,g (ad 1 i)=some (.lst O)/\O.length=(r.mm i).dQ.length:=λg rM=>by
   obtain⟨O,Z,T⟩:=(hT.same (rM.over s0 B9)).cA.lst (t:=1) (i:=i) hi rfl;exact⟨O,Z,by simpa using T.1⟩
  walk_at "xg";right;refine bo ?_;right;obtain⟨O,Z,z1⟩:=hle _ st;refine bC _ (.inl ⟨_,aM.of Z,rfl⟩) ?_;rw[z1];refine gN () () (λD hD=>?_);rw[Int.toNat_natCast];have PK:D≠p:=Step.ne st.fq hD;have nDl:D≠l:=Ne.symm (ao Y hD);refine aZ (J:=Cy 0 (r.mm i).dQ.length) (n:=(r.mm i).dQ.length) (λj ys g=>Step p G g/\∃B:List Int,ys=B.map V.int/\B.Pairwise (· < ·)/\∀c∈B,0<=c/\c<(j:Int)) (J' (aA ())) ⟨(Step.refl st.fq).new hD,[],rfl,.nil,λc y=>by cases y⟩ (λj ys g hj _=>hj) (λys g _=>E' _) ?_ ?_
  ·intro j ys g hj aV k9 gc x G2 lB;nofun;obtain⟨R,B,rfl,S,U⟩:=gc;obtain⟨rfl,rfl⟩:=lB;ac_rfl;walk_at "xf";right;rw[Int.zero_add];refine lT p _ rfl R.fq ∅ (Aj ∅ ∅) (λdg G3 rT Yp nk=>?_);right;have Cg:=nk.rest _ _ aV PK;have TL:=R.trans nk;by_cases hdg:dg=1
   ·rw[if_pos (decide_eq_true hdg)];calc bH Cg k9 hj (J' (aA ())) ⟨⟨TL.fq.upd (Ne.symm PK),λc o e n=>by rw[av (ao e hD)];calc TL.rest c o e n⟩,B++[(j:Int)],by rw[aaD];rfl,List.pairwise_append.mpr ⟨S,List.pairwise_singleton _ _,λa x b hb=>by rw[List.mem_singleton.mp hb];calc(U a x).2⟩,λc y=>?_⟩;rcases List.mem_append.mp y with y | y
    ·have:=U c y;lia
    ·rw[List.mem_singleton.mp y];lia
   ·rw[if_neg (by simpa using hdg)];exact⟨_,Cg,(),TL,B,rfl,S,λc y=>by have:=U c y;lia⟩
  intro ys G1 aV pZ pJ;obtain⟨R,B,rfl,S,U⟩:=pJ;calc L2.aX h1 ?_;clear h1 Z z1 O;have Gr:=st.trans R;have ZH:=R.rest _ _ Y ZG;calc L2.ig λx h2=>?_;have W:∀g b us,Step p G1 g->g b=some (.lst (us.map V.int))->b≠p->b≠l->Eo (r.mm i).dQ.length us->x [some (V.ref d),some (V.ref p),some (V.bl true),some (V.ref l),some (V.ref (ad 1 i)),some (V.ref b)] g:=λg b us u hb nbp x OZ=>by
   calc L2.aX h2 ?_;right;have Gn:=u.rest _ _ ZH ZG;have T:=Gr.trans u;refine⟨.inl ⟨rfl,_,aM.of Gn⟩,_,Gn,aA (by simp;lia),⟨_,_,rfl,rfl⟩,⟨T.fq.upd (Ne.symm ZG),λc o e n=>by rw[av (ao e hl)];calc T.rest c o e n⟩,as++[b],PT++[us],by rw[aaD];calc ab,N.snoc (λc o n1 n2 e=>by rw[av n2];calc u.rest c o (R.rest c o e n1) n1) (by rw[av x];calc hb) nbp x OZ⟩
  clear h2;calc L2.fm λn U0 nJ nK=>?_;have yes:∀g,Step p G1 g->(∀c,c∈B->0<c)->n [some (V.ref d),some (V.ref p),some (V.bl true),some (V.ref l),some (V.ref (ad 1 i)),some (V.ref D)] g:=λg u X=>by
   calc L2.aX nJ ?_;right;obtain⟨O,Z,z1⟩:=hle _ (Gr.trans u);calc bC _ (.inl ⟨_,aM.of Z,rfl⟩) ?_;rw[z1];calc lT p _ rfl u.fq () (Aj () ()) (λdg G3 rT Yp nk=>?_);right;calc⟨df,λx n=>.inr ?_⟩;right;rw[if_pos trivial];calc bu ab (ay (j:=1) rfl) ⟨KG,λO x=>.inl ?_⟩;have v:=((u.trans nk).new n).new (o:=.lst [.int 0]) x;rw[aaC]at pZ;calc ua _ _ ab (v.rest _ _ aV PK) (by rw[aaC,sizeLine_eq];simp;lia) (λn I=>?_);calc W _ n (0::B) (v.new I) ab (Step.ne v.fq I) (λz=>by rw[z,v.rest _ _ ZH ZG]at I;cases I) ⟨List.pairwise_cons.mpr ⟨X,S⟩,λc y=>?_,S'⟩;rcases List.mem_cons.mp y with rfl|y
   ·lia
   ·exact U c y
  have no:∀g,Step p G1 g->(0:Int)∈B->U0 [some (V.ref d),some (V.ref p),some (V.bl true),some (V.ref l),some (V.ref (ad 1 i)),some (V.ref D)] g:=λg u X=>by
   calc L2.aX nK ?_;exact W g D B u (u.rest _ _ aV PK) PK nDl ⟨S,U,X⟩
  clear nJ nK W;right;calc⟨U' _,λp1 i=>?_⟩;have L:=(Step.refl R.fq).new (o:=.lst []) i;have PM:upd G1 p1 (.lst []) p1=some (.lst []):=ab;have Ku:=L.rest _ _ aV PK;generalize hGp:upd G1 p1 (.lst [])=G2 at *
  cases B with
  |nil=>
   calc .inl ⟨.inr ⟨_,_,[],[],rfl,rfl,.inr ⟨aM.of Ku,aM.of PM⟩,rfl,λj u v M=>by simp at M⟩,?_⟩;rw[if_pos trivial,if_pos trivial];exact yes _ L λc y=>by cases y
  |cons k B=>
   calc .inr ⟨⟨_,[],λh=>by simp at h,.inl ⟨aM.of Ku,aM.of PM⟩⟩,?_⟩;rw[if_neg ∅,if_pos trivial];calc bu Ku (ay (j:=0) rfl) ?_;right;rw[List.pairwise_cons]at S;have i:=U k S';by_cases X:0<k
   ·rw[if_pos (decide_eq_true X)];calc yes _ L λc y=>?_;rcases List.mem_cons.mp y with rfl | y
    ·exact X
    ·have:=S.1 c y;lia
   ·rw[if_neg (by simpa using X)];exact no _ L (by rw[show k=0 by lia];calc S')
 ·intro σ G ui;obtain⟨⟨z4,z5,rfl⟩,st,as,PT,Y,N⟩:=ui;right;rw[kj]at N;calc q l PT G st (λg rM=>N.pts ZG Y rM) N.done.1 N.done.2
theorem kl{W:Nat}{PT:List (List Int)}{n:Nat}{f:PJ}(h:gf r W PT (eY r W PT n).1=some f):eY r W PT (n+1)=(Zh (eY r W PT n).1 f,(eY r W PT n).2++[f]):=by
 show(match gf r W PT (eY r W PT n).1 with|none=>_|some f=>_)=_;rw[h]
theorem pU{r:RS}{W:Nat}{PT:List (List Int)}:∀n,(eY r W PT n).2.length=n\/gf r W PT (eY r W PT n).1=none
 |0=>.inl rfl
 |n+1=>by
  cases e:gf r W PT (eY r W PT n).1 with
  |none=>rw[gO e 1];calc .inr e
  |some f=>
   rcases pU (r:=r) (W:=W) (PT:=PT) n with h|h
   ·rw[kl e];exact .inl (by rw[List.length_append,h];rfl)
   ·rw[e]at h;cases h
theorem qS{r:RS}{W:Nat}{PT:List (List Int)}{k:Nat}:∀{n:Nat},k<(eY r W PT n).2.length->∃f,(eY r W PT n).2[k]?=some f/\gf r W PT (eY r W PT k).1=some f
 |0,h=>absurd h (aas _)
 |n+1,h=>by
  cases e:gf r W PT (eY r W PT n).1 with
  |none=>rw[gO e 1]at h ⊢;calc qS h
  |some f=>
   have d:(eY r W PT n).2.length=n:=by
    rcases pU (r:=r) (W:=W) (PT:=PT) n with h|h
    ·exact h
    ·rw[e]at h;cases h
   rw[kl e]at h ⊢;by_cases c:k<(eY r W PT n).2.length
   ·obtain⟨g,a,b⟩:=qS c;exact⟨g,by rw[aaH c];calc a,b⟩
   ·rw[List.length_append,List.length_singleton] at h;obtain rfl:k=n:=by lia
    calc⟨f,?_,e⟩;show((eY r W PT k).2++[f])[k]?=some f;rw[aaG (),d,Nat.sub_self];rfl
theorem Er{r:RS}{W:Nat}{PT:List (List Int)}:∀n,eY r W PT (eY r W PT n).2.length=eY r W PT n
 |0=>rfl
 |n+1=>by
  cases e:gf r W PT (eY r W PT n).1 with
  |none=>rw[gO e 1];calc Er n
  |some f=>
   rcases pU (r:=r) (W:=W) (PT:=PT) (n+1) with h|h
   ·rw[h]
   ·rcases pU (r:=r) (W:=W) (PT:=PT) n with a | a
    ·rw[show(eY r W PT (n+1)).2.length=n+1 by rw[kl e,List.length_append,a];rfl]
    ·rw[e]at a;cases a
theorem ym{r:RS}{W:Nat}{PT:List (List Int)}{cut:List Int}{f:PJ}(h:gf r W PT cut=some f):∃p ps,iT r cut (eP r W)=p::ps/\f=((oW r p).1,cut.getD (oW r p).1.toNat 0,dq PT (oW r p),p):=by
 unfold gf at h
 cases e:iT r cut (eP r W) with
 |nil=>rw[e]at h;cases h
 |cons p ps=>rw[e]at h;calc⟨p,ps,rfl,(Option.some.inj h).symm⟩
theorem yn{nt:NT}{PT:List (List Int)}{r:RS}(c:r.Ok nt)(d:r.Iv nt)(g:RS.Ps nt r)(a:gi nt r PT)(h:∀m,m<nt.ms.length->(0:Int)∈PT.getD m []):∀n,yg nt PT (eY r nt.ws.length PT n).1
 |0=>sT a
 |n+1=>by
  have i:=yn c d g a h n
  cases e:gf r nt.ws.length PT (eY r nt.ws.length PT n).1 with
  |none=>rw[gO e 1];calc i
  |some f=>
   obtain⟨p,ps,j,rfl⟩:=ym e;have b:=uJ c d g a h j;rw[kl e];calc i.next (by have:=b.m0;have:=b.m1;show(oW r p).1.toNat<_;lia) b.lm
theorem TM{H:Hp}{n:Nat}{x:V}{f:PJ}(h:HT H n x (Kx f)):∃a b,x=.ref a/\H a=some (.tup [.int f.1,.int f.2.1,.int f.2.2.1,.ref b])/\H b=some (.tup [.int (f.2.2.2.1:Nat),.int (f.2.2.2.2:Nat)]):=by
 cases h with
 | @tup k a h _ e l i=>
  obtain⟨c,d,g,j,rfl⟩:=ln4 l;obtain rfl:=L2.HT.ck (i 0 c _ rfl rfl);obtain rfl:=L2.HT.ck (i 1 d _ rfl rfl);obtain rfl:=L2.HT.ck (i 2 g _ rfl rfl);obtain⟨b,q,r,s,rfl,m,o,p⟩:=dD (i 3 j (.tup [.int (f.2.2.2.1:Nat),.int (f.2.2.2.2:Nat)]) rfl rfl);obtain rfl:=o.ck;obtain rfl:=p.ck;calc⟨a,b,rfl,e,m⟩
theorem Od{t l:Addr}{c:List (Nat×Nat)}{p:Nat×Nat}(h:H l=some (.lst ys))(d:eN H 1 ys (c.map λp=>pairD (pI p)))(j:H t=some (.tup [.int (p.1:Nat),.int (p.2:Nat)]))(k:p∈c)(q:Q (.bl false) H):OV (.ref t) (.ref l) H Q:=by
 have a:ys.length=c.length:=by simpa using d.1
 calc⟨l,t,ys,c.map pI,pI p,rfl,rfl,h,⟨by rw[aaC];calc a,λi z e=>?_⟩,j,List.mem_map.mpr ⟨p,k,rfl⟩,q⟩;rw[aaB]at e;obtain⟨f,g,rfl⟩:=Option.map_eq_some_iff.mp e;have c:i<ys.length:=by rw[a];exact(List.getElem?_eq_some_iff.mp g).1
 obtain⟨b,a,h⟩:=mi (d.2 i _ _ (cF c) (by rw[aaB,g];rfl));calc⟨b,by rw[cF c,a],h⟩
theorem Ay{K:W.Frag}{t:Addr}(f:H t=some (.tup (ns.map V.int)))(o:ns.length<=10)(h:H D=none)(q:∀H',au H H'->Q (.bl true) H'):pB [none] (QG K t) (dI 0) fP (vL yk [] E0 (vK (tV 0) Bg)) σ H (λx H1=>Rn K [x] H1 Q) D Lw.mk:=by
 refine aZ (J:=QG K t) (n:=ns.length) (λi ys H'=>au H H'/\ys=(List.replicate i true).map V.bl) (J' (aA ())) ⟨au.new _ h,rfl⟩ ?_ ?_ ?_ ?_
 ·rintro i ys H' b ⟨a,_⟩;exact⟨_,_,bG.of (a _ _ f),by rw[aaB,aS (d:=0) b];rfl⟩
 ·rintro ys H' ⟨a,_⟩;exact⟨_,bG.of (a _ _ f),nofun⟩
 ·intro i ys H' b g k l p r m;obtain⟨a,rfl⟩:=l;obtain⟨rfl,y⟩:=m;have j:=y _ (bG.of (a _ _ f));rw[aaB,aS (d:=0) b] at j;obtain rfl:=Option.some.inj j;walk_at "xf";right;refine bC _ rfl ?_
  try rw[if_pos trivial]
  calc bH g k b (J' (aA ())) ⟨λc o e=>by rw[av (ao e h)];calc a _ _ e,?_⟩;rw[List.replicate_succ',aaD];rfl
 rintro ys H1 g s ⟨a,rfl⟩;calc bC _ (aM.of g) ?_;rw[show(List.replicate ns.length true).all id=true by simp[List.all_replicate]];calc q _ a
theorem nh{K:W.Frag}{k:Nat}(e:aM K H a (ns.map V.int)/\aM K H b (ns.map V.int)\/bG K H a (ns.map V.int)/\bG K H b (ns.map V.int)):j8 K H (k+2) (.ref a) (.ref b):=by
 calc .inr ⟨_,_,_,_,rfl,rfl,e.symm,rfl,λi u v c d=>?_⟩;rw[c]at d;obtain rfl:=Option.some.inj d;rw[aaB]at c;obtain⟨j,_,rfl⟩:=Option.map_eq_some_iff.mp c;calc .inl ⟨rfl,rfl⟩
theorem sU(xs:List V)(k:Nat):dG xs none (some (k:Int))=xs.take k:=by
 unfold dG;rw[HT.sx,HT.yL,List.drop_zero,Nat.sub_zero];by_cases h:k<=xs.length
 ·rw[Nat.min_eq_left h]
 ·rw[Nat.min_eq_right (),List.take_of_length_le (E' _),List.take_of_length_le ()]
abbrev kK:Stmt:=top 80
inductive KI(vs:List V)(H:Hp)(Q:VK):Prop
 |mk (F:Addr->Prop) (d:Addr) (tn:V) (nt:NT) (r:RS) (ad:Nat->Nat->Addr) (a:Addr) (PT:List (List Int)) (fl:Addr) (fv:List V) (n:Nat) (h0:vs=[.ref d,.ref a,.ref fl]) (h1:bT F H d tn nt r ad) (h2:r.Ok nt) (h3:r.Iv nt) (h5:RS.Ps nt r) (h6:r.picks.length<=40) (h7:gh H a PT) (h8:gi nt r PT) (h9:∀m,m<nt.ms.length->(0:Int)∈PT.getD m []) (Jx:H fl=some (.lst fv)) (Ul:eN H 2 fv ((eY r nt.ws.length PT n).2.map Kx)) (q:∀ct H',au H H'->H' ct=some (.tup ((eY r nt.ws.length PT n).1.map V.int))->Q (.ref ct) H'):KI vs H Q
def Es:Sp:=λvs H Q _=>KI vs H Q
theorem yo(D:cK K mg "_law_fallen" "_law_fallen" kK ["_law_run","_law_points_here","_law_falls"])(T:Tx K mg C CN CR F FD)(cg:Def P w K mg base "_law_orphans" 1 ["_law_run","_law_cut"] sS)(fK:Def P w K mg base "_law_plain" 1 ["_law_found"] yk):Def P w K mg base "_law_fallen" 2 ["_law_run","_law_points_here","_law_falls"] Es:=by
 have sc:aD ["_law_run","_law_points_here","_law_falls","_law_cut","_law_fall","_law_m","_law_c","_law_lower"] ["_law_run","_law_points_here","_law_falls"] (az kK):=by walk_at "s"
 symm;obtain⟨F,d,tn,L,r,ad,a,PT,fl,fv,n,rfl,U,X,hI,nv,j3,rJ,I,hz,OO,Ob,q⟩:=h;have o:=hr.units;have zB:=Ui o;refine⟨_,(af (aU (i:=3) sc.nd rfl Sort (cL bV rfl T.bP p8 (ag (cI (N':=["_law_row"]) (ix:=[none]) (bz (pv 1)) (λ_ _ _ _=>(aO (i:=0) (show(["_law_row"]:List Str).Nodup by decide +kernel) rfl Sort)) ko (λ_ _ _ _=>(cu (K:=K) rfl o (aq 0) (ib fc ai)))) aa)))
  (af (dJ PassesOwn.never rfl (bz (pv 2)) (aO (i:=4) sc.nd rfl Sort)
  (af (aR (PW.pt (pw_or (bI (bg (aW cj rfl T.a0 uU (ag (aq 4) (ag (cq (v:=.ty "tuple") rfl T.bP p8 rfl) aa))))) (pw_or (aB (eX o) (aW aP rfl T.bR L' (ag (aq 4) aa)) ai (aE _)) (pw_or1 (bI (bg (aW (eB rfl) rfl T.lV Ll (ag (cI (N':=["_law_one"]) (ix:=[none]) (bz (xH (aq 4) fO (dU ai))) (λ_ _ _ _=>(aO (i:=0) (show(["_law_one"]:List Str).Nodup by decide +kernel) rfl Sort)) ko (λ_ _ _ _=>(aH fK hr (ag (aq 0) aa)))) aa)))))))) (ak (aG fu)) aJ)
  (af (aR (PW.pt (pw_or (bI (bg (aW cj rfl T.a0 uU (ag (aj o (aq 4) ai) (ag (cq (v:=.ty "tuple") rfl T.bP p8 rfl) aa))))) (pw_or1 (aB (IU o) (aj o (aq 4) ai) (aH cg hr (ag (aq 0) (ag (aq 3) aa))) (by with_unfolding_all rfl))))) (ak (aG fu)) aJ)
  (af (de (xh zB (aj o (aj o (aq 0) aC) (aj o (aj o (aq 4) ai) ai)) (aj o (aj o (aq 4) ai) ai) (ph rfl)) (dW (i:=5) (j:=6) rfl sc.nd rfl rfl Sort Sort))
  (af (cJ (i:=7) sc.nd rfl Sort (N':=["_law_point","_law_c"]) (ix:=[none,some 6]) (bz (aj o (aq 1) (aq 5))) (λ_ _ _ _=>(aO (i:=0) (show(["_law_point","_law_c"]:List Str).Nodup by decide +kernel) rfl Sort)) (λ_ _ _ _=>(eW (aB eF (aq 0) (aq 1) (aE _)))) (λ_ _ _ _=>(aq 0)))
  (af (aR (PW.pt (pw_or (aB (bb o) (aq 7) (bA aa) (aE _)) (pw_or1 (aB (eX o) (xH (aq 4) fO (dU ai)) (bD (ag (aq 5) (ag (aj o (aq 3) (aq 5)) (ag (aj o (aq 7) (ib fc ai)) aa)))) (aE _))))) (ak (aG fu)) aJ)
  (ak (aU (i:=3) sc.nd rfl Sort (bq Dm (bq Dm (xH (aq 3) fO (dU (aq 5))) (bD (ag (aj o (aq 7) (ib fc ai)) aa))) (xH (aq 3) (dU (bq cM (aq 5) ai)) fO))))))))))
  (ak (aG (aq 3))))),?_⟩
 obtain⟨T,hd,nF,nP,o⟩:=U.dk;have l6:=(o 6 ∅ ∅).1;have T:=U.ok;have h5:=T.Gf;have o:=I.len;have Oc:=yn X hI nv I hz;have L3:fv.length=(eY r L.ws.length PT n).2.length:=by have:=Ob.1;rwa [aaC]at this
 walk_at "xg";right;refine bo ?_;right;obtain⟨as,Y,_⟩:=id rJ;refine .inl ⟨⟨_,aM.of Y⟩,λD Z=>ye rJ I h5 Z λH3 s3 aV=>?_⟩;refine .inl ⟨_,aM.of aV,λG LY=>?_⟩;have s4:=s3.trans (au.new (.tup ((PT.map λc=>c.bt 0).map V.int)) LY);have g:upd H3 G (.tup ((PT.map λc=>c.bt 0).map V.int)) G=some (.tup ((eY r L.ws.length PT 0).1.map V.int)):=ab;generalize hG:upd H3 G (.tup ((PT.map λc=>c.bt 0).map V.int))=H4 at *;refine L2.aX h1 ?_;clear h1 Y aV s3 hG LY Z;right;refine⟨_,rfl,.inl ⟨⟨_,aM.of (s4 _ _ OO)⟩,ee (K:=K) (xs:=fv) (λi σ H'=>(∃G z4 z5 z6 z7,σ=[some (V.ref d),some (V.ref a),some (V.ref fl),some (V.ref G),z4,z5,z6,z7]/\H' G=some (.tup ((eY r L.ws.length PT i).1.map V.int)))/\au H H') ?_ ?_ ?_ ?_⟩⟩
 ·exact⟨⟨_,_,_,_,_,rfl,g⟩,s4⟩
 ·rintro i σ H' hi ⟨_,s⟩;exact aM.of (s _ _ OO)
 ·intro i x σ H' hx lB;nofun;obtain⟨⟨G,z4,z5,z6,z7,rfl,g⟩,R⟩:=lB;clear s4;have hi:=(List.getElem?_eq_some_iff.mp hx).1;obtain⟨f,hf,Lq⟩:=qS (r:=r) (W:=L.ws.length) (PT:=PT) (k:=i) (n:=n) ();obtain⟨tp,b,rfl,l,B⟩:=TM (Ob.2 i x _ hx (by rw[aaB,hf];rfl));have l:=R _ _ l;have B:=R _ _ B;have hnx:=congrArg Prod.fst (kl Lq);obtain⟨p,ps,hop,rfl⟩:=ym Lq;ac_rfl;have S:=uJ X hI nv I hz hop;have Lr:=(Oc i).len;rw[hnx];generalize (eY r L.ws.length PT i).1=cut at *;generalize oW r p=e at *;have RV:=S.m0;have i:=S.m1;show wR _ _ _ [some (V.ref d),some (V.ref a),some (V.ref fl),some (V.ref G),some (V.ref tp),z5,z6,z7] H';calc L2.ig λM u=>?_;calc L2.fm λT0 U0 nJ J=>?_;right;dsimp only at l B;calc cy _ true (.tup l) rfl ?_;rw[if_neg ∅];calc bC _ (.inr ⟨_,bG.of l,rfl⟩) ?_;rw[if_neg nofun];calc bo ?_;right;calc cy _ _ rfl l (λq1 o i t=>?_);rw[show dG [V.int e.1,V.int (cut.getD e.1.toNat 0),V.int (dq PT e),V.ref b] none (some 3)=([e.1,cut.getD e.1.toNat 0,dq PT e]:List Int).map V.int from sU _ 3] at t;calc .inr ⟨⟨_,bG.of t⟩,λD Z=>Ay t nofun Z λx o=>ke ?_⟩;rw[if_neg ∅];calc L2.aX J ?_;show M _ _;calc L2.aX u ?_;have y:=R.trans (i.trans o);have l:=(i.trans o) _ _ l;have B:=(i.trans o) _ _ B;have g:=(i.trans o) _ _ g;clear u nJ J Z t i o R;calc L2.ig λM u=>?_;calc L2.fm λT0 U0 nJ J=>?_;right;calc cN l (ay (j:=3) rfl) ?_;calc cy _ true (.tup B) rfl ?_;rw[if_neg ∅];calc cN l (ay (j:=3) rfl) ?_;calc⟨F,d,tn,L,r,ad,G,cut,rfl,U.same y,X,hI,j3,.inl g,Lr,λlo T Z i o x=>?_⟩;calc Od (p:=p) o x (i _ _ B) (by rw[hop];calc S') (ke ?_);rw[if_neg ∅];calc L2.aX J ?_;show M _ _;calc L2.aX u ?_;have y:=y.trans i;have l:=i _ _ l;have B:=i _ _ B;have g:=i _ _ g;clear u nJ J x o i;calc L2.ig λM u=>?_;right;nofun;obtain⟨x,L,T,i,Z,o⟩:=(U.same y).Xd S.hw p.2;obtain⟨aw,x,L⟩:=o e S.wk;ac_rfl;rw[x] at i;calc bC _ (FQ (y _ _ hd)) ?_;calc cN l (ay (j:=3) rfl) ?_;calc cN B (ay (j:=0) rfl) ?_;calc bu (y _ _ l6) (bc S.hw) ?_;calc cN l (ay (j:=3) rfl) ?_;calc cN B (ay (j:=1) rfl) ?_;calc⟨ad 6 p.1,_,rfl,i,aw,_,rfl,bG.of L,rfl,_,_,rfl,_,_,rfl,rfl,?_⟩;calc L2.aX u ?_;clear u T i Z o L x;nofun;obtain⟨as,Y,yf,Af⟩:=id (rJ.same y);obtain⟨i,DA⟩:∃i,as[e.1.toNat]?=some i:=⟨_,cF ()⟩
  ac_rfl;have TF:=Af _ _ DA;calc L2.ig λM u=>?_;right;calc bo ?_;right;refine bu Y (show gU (as.map V.ref) e.1=some (.ref i) from by
   have:=ay (xs:=as.map V.ref) (j:=e.1.toNat) (v:=.ref i) (by rw[aaB,DA];rfl);rwa [show((e.1.toNat:Nat):Int)=e.1 by lia] at this) ?_
  have F9:(PT.getD e.1.toNat []).length<=100:=by
   have a:=pw_len (lo:=0) (n:=(r.mm e.1.toNat).dQ.length) (I.ri e.1.toNat ()) λc i=>by have:=I.bd e.1.toNat () c i;lia
   have b:=X.bp e.1.toNat ()
   lia
  have U3:=(I.ri e.1.toNat ()).filter λq=>decide (q<e.2);have i9:=S.lo;have lH:(PT.getD e.1.toNat []).filter (λq=>decide (q<e.2))≠[]:=λz=>by rw[z]at i9;cases i9
  have YG:((PT.getD e.1.toNat []).filter λq=>decide (q<e.2)).bt 0=dq PT e:=by
   rw[Av U3 lH]at i9;exact Option.some.inj i9
  calc .inl ⟨⟨_,aM.of TF⟩,λE n=>Cf (c:=e.2) rfl TF F9 n λG4 i hE4=>?_⟩;calc L2.aX u ?_;have y:=y.trans i;have l:=i _ _ l;have g:=i _ _ g;clear u n i B Y yf Af DA TF i9 U3 F9;calc L2.ig λM u=>?_;calc L2.fm λT0 U0 nJ J=>?_;right;calc⟨U' _,λp1 BL=>?_⟩;have u5:=au.new (.lst []) BL;have PM:upd G4 p1 (.lst []) p1=some (.lst []):=ab;have l:=u5 _ _ l;have g:=u5 _ _ g;have N:=u5 _ _ hE4;have y:=y.trans u5;generalize hG5:upd G4 p1 (.lst [])=G5 at *;calc .inr ⟨⟨_,[],λh=>lH (by simpa using h),.inl ⟨aM.of N,aM.of PM⟩⟩,?_⟩;rw[if_neg ∅];right;calc cy _ _ rfl l (λq1 G6 u6 t=>?_);rw[show dG [V.int e.1,V.int (cut.getD e.1.toNat 0),V.int (dq PT e),V.ref b] none (some 3)=([e.1,cut.getD e.1.toNat 0,dq PT e]:List Int).map V.int from sU _ 3]at t;have g:=u6 _ _ g;have O:=u6 _ _ N;calc cN g (yc RV ()) ?_;calc bu O (yd lH) ?_;rw[YG];calc⟨by rw[sizeLine_eq];lia,λq2 PN=>?_⟩;have u7:=au.new (.tup [.int e.1,.int (cut.getD e.1.toNat 0),.int (dq PT e)]) PN;have eq2:upd G6 q2 (.tup [.int e.1,.int (cut.getD e.1.toNat 0),.int (dq PT e)]) q2=some (.tup (([e.1,cut.getD e.1.toNat 0,dq PT e]:List Int).map V.int)):=ab;calc .inl ⟨nh (k:=18) (.inr ⟨bG.of (u7 _ _ t),bG.of eq2⟩),ke ?_⟩;rw[if_neg ∅];calc L2.aX J ?_;show M _ _;calc L2.aX u ?_;have g:=u7 _ _ g;have hE7:=u7 _ _ O;have y:=y.trans (u6.trans u7);generalize upd G6 q2 (.tup [.int e.1,.int (cut.getD e.1.toNat 0),.int (dq PT e)])=G7 at *;clear u nJ J t eq2 u6 u7 PN O N u5 PM hE4 l hG5 BL;right;calc cy _ _ rfl g (λn o u8 i=>?_);calc bu (u8 _ _ hE7) (yd lH) ?_;rw[YG];calc⟨KG,λn l=>?_⟩;have u9:=au.new (.tup [.int (dq PT e)]) l;calc BG _ _ _ _ rfl rfl (u9 _ _ i) ab (by rw[sizeLine_eq];have:=gL (cut.map V.int) none (some e.1);simp at this ⊢;lia) (λn l ZI i=>?_);have g:=(u8.trans (u9.trans ZI)) _ _ g;calc⟨_,_,rfl,g,λo n u11 l=>⟨_,_,_,_,rfl,rfl,u11 _ _ i,l,by rw[sizeLine_eq];have:=gL (cut.map V.int) none (some e.1);have:=gL (cut.map V.int) (some (e.1+1)) none;simp at *;lia,λn o i l=>?_⟩⟩;calc⟨⟨n,_,_,_,_,⟨rfl,rfl,rfl,rfl,rfl⟩,?_⟩,((y.trans (u8.trans (u9.trans ZI))).trans u11).trans i⟩;obtain⟨m,o⟩:∃m:Nat,e.1=m:=⟨e.1.toNat,()⟩
  rw[l,o,sU,show((m:Int)+1)=((m+1:Nat):Int) by lia,qL];show _=some (HO.tup ((cut.set (m:Int).toNat (dq PT e)).map V.int));rw[Int.toNat_natCast,List.set_eq_take_append_cons_drop,if_pos (),aaD,List.map_take,List.map_cons,List.map_drop,List.append_assoc];rfl
 ·intro σ H' pJ;obtain⟨⟨G,z4,z5,z6,z7,rfl,g⟩,R⟩:=pJ;right;rw[L3,Er]at g;calc q G H' R g
theorem KJ{r:RS}{W:Nat}{PT:List (List Int)}{cut:List Int}(h:gf r W PT cut=none):iT r cut (eP r W)=[]:=by
 unfold gf at h
 cases e:iT r cut (eP r W) with
 |nil=>rfl
 |cons p ps=>rw[e]at h;cases h
theorem KL{nt:NT}{PT:List (List Int)}{r:RS}(b:r.Ok nt)(g:r.Iv nt)(h:RS.Ps nt r)(a:gi nt r PT)(i:∀m,m<nt.ms.length->(0:Int)∈PT.getD m [])(d:r.picks.length<=40)(j:nt.ms.length<=5):∀n,(eY r nt.ws.length PT n).2.length+Cn (eY r nt.ws.length PT n).1<=200
 |0=>by
  have:=(sT a).mu a b d j;show 0+Cn (PT.map λc=>c.bt 0)<=200;lia
 |n+1=>by
  have k:=KL b g h a i d j n
  cases e:gf r nt.ws.length PT (eY r nt.ws.length PT n).1 with
  |none=>rw[gO e 1];calc k
  |some f=>
   obtain⟨p,ps,l,rfl⟩:=ym e;have d:=uJ b g h a i l;have j:=(yn b g h a i n).len;have j:=d.m0;have a:=d.m1;have:=yh (cut:=(eY r nt.ws.length PT n).1) (m:=(oW r p).1.toNat) (z:=dq PT (oW r p)) () d.l0 d.ll;rw[kl e];show(_++[_]).length+Cn (List.set _ (oW r p).1.toNat (dq PT (oW r p)))<=200;rw[List.length_append,List.length_singleton];lia
theorem qT{bs:List Addr}{l:Addr}{f:Nat->List Int}{i:Nat}(d:bs.length=i)(h:∀(m:Nat) b,bs[m]?=some b->H b=some (.lst ((f m).map V.int))/\b≠D)(g:∀c o,c≠D->H c=some o->H' c=some o)(j:H' l=some (.lst ((f i).map V.int)))(k:l≠D)(m:Nat)(c:Addr)(e:(bs++[l])[m]?=some c):H' c=some (.lst ((f m).map V.int))/\c≠D:=by
 by_cases i:m<bs.length
 ·rw[aaH i]at e;obtain⟨l,a⟩:=h m c e;exact⟨g _ _ a l,a⟩
 ·have n:=(List.getElem?_eq_some_iff.mp e).1;rw[List.length_append,List.length_singleton] at n;obtain rfl:m=bs.length:=by lia
  rw[aaG (E' _),Nat.sub_self]at e;obtain rfl:=Option.some.inj e;rw[d];calc⟨j,k⟩
theorem pV {vs:List V}(h:fA H 4 vs (ps.map pairD)):eN H 1 vs (ps.map pairD):=⟨h.1,λi u e b a=>by
 have c:=h.2 i u e b a;rw[aaB] at a;obtain⟨p,_,rfl⟩:=Option.map_eq_some_iff.mp a;calc DR (e:=some p) c⟩
theorem KN{K:W.Frag}{PT:List (List Int)}(e:gh H a PT)(f:gh H b PT):j8 K H 20 (.ref a) (.ref b):=by
 obtain⟨as,g,h,j⟩:=e;obtain⟨q,l,m,n⟩:=f;calc .inr ⟨_,_,_,_,rfl,rfl,.inr ⟨aM.of g,aM.of l⟩,by rw[aaC,aaC,h,m],λi u v c d=>?_⟩;rw[aaB]at c d;obtain⟨x,o,rfl⟩:=Option.map_eq_some_iff.mp c;obtain⟨y,p,rfl⟩:=Option.map_eq_some_iff.mp d;calc nh (k:=17) (.inl ⟨aM.of (j i x o),aM.of (n i y p)⟩)
abbrev mF:Stmt:=top 81
inductive KO(C CN CR:Addr)(vs:List V)(H:Hp)(Q:VK):Prop
 |mk (F G:Addr->Prop) (x bE d:Addr) (tn:V) (nt:NT) (r:RS) (ad bd:Nat->Nat->Addr) (a:Addr) (PT:List (List Int)) (h0:vs=[.ref x,.ref d,.ref a]) (h1:cf C CN CR F H x bE nt r ad) (h2:bT G H d tn nt r bd) (h3:r.Ok nt) (h4:r.Iv nt) (h5:r.Pk nt) (h6:RS.Ps nt r) (h7:r.picks.length<=40) (h8:gh H a PT) (h9:gi nt r PT) (Jx:∀m,m<nt.ms.length->(0:Int)∈PT.getD m []) (q:∀H',au H H'->Q (.bl true) H'):KO C CN CR vs H Q
def yq(C CN CR:Addr):Sp:=λvs H Q _=>KO C CN CR vs H Q
theorem Az(D:cK K mg "_law_right" "_law_right" mF ["_law_told","_law_run","_law_points_here"])(T:Tx K mg C CN CR F FD)(kM:Def P w K mg base "_law_fallen" 2 ["_law_run","_law_points_here","_law_falls"] Es)(kN:Def P w K mg base "_law_latest" 2 ["_law_run","_law_points_here"] El)(cg:Def P w K mg base "_law_orphans" 1 ["_law_run","_law_cut"] sS)(fK:Def P w K mg base "_law_plain" 1 ["_law_found"] yk)(jL:Def P w K mg base "latest_line" 7 ["run","points"] (Ej C CN CR))(dP:cn P w K mg base CR "schedule" 1 ["self"] (B6 C CN CR)):Def P w K mg base "_law_right" 8 ["_law_told","_law_run","_law_points_here"] (yq C CN CR):=by
 have sc:aD ["_law_told","_law_run","_law_points_here","_law_due","_law_handed","_law_k","_law_found"] ["_law_told","_law_run","_law_points_here"] (az mF):=by walk_at "s"
 symm;obtain⟨F,G,x,bE,d,tn,z,r,ad,bd,a,PT,rfl,hR,L,M,N,hP,Y,Z,rJ,O,hz,q⟩:=h;have p:=hr.units;refine⟨_,(af (aU (i:=3) sc.nd rfl Sort (aH kN hr (ag (aq 1) (ag (aq 2) aa))))
  (af (cJ (i:=4) sc.nd rfl Sort (N':=["_law_row"]) (ix:=[none]) (bz (pv 2)) (λ_ _ _ _=>(aO (i:=0) (show(["_law_row"]:List Str).Nodup by decide +kernel) rfl Sort)) ko (λ_ _ _ _=>(cL (ja (K:=K) rfl) rfl T.dF vE (ag (aq 0) aa))))
  (af (dJ PassesOwn.never rfl (cZ rfl T.dX (ag ai aa)) (aO (i:=5) sc.nd rfl Sort)
  (af (aU (i:=6) sc.nd rfl Sort (aH jL hr (ag (aq 0) (ag (aq 4) aa))))
  (af (aR (PW.pt (pw_or (bI (bg (aW cj rfl T.a0 uU (ag (aq 6) (ag (cq (v:=.ty "tuple") rfl T.bP p8 rfl) aa))))) (pw_or (aB (eX p) (aW aP rfl T.bR L' (ag (aq 6) aa)) ai (aE _)) (pw_or1 (bI (bg (aW cj rfl T.a0 uU (ag (aj p (aq 6) ai) (ag (cq (v:=.ty "list") rfl T.dF vE rfl) aa))))))))) (ak (aG ia)) aJ)
  (af (aR (PW.pt (pw_or (bI (bg (aW cj rfl T.a0 uU (ag (aj p (aq 6) ai) (ag (cq (v:=.ty "tuple") rfl T.bP p8 rfl) aa))))) (pw_or (bI (bg (aW (eB rfl) rfl T.lV Ll (ag (cI (N':=["_law_c"]) (ix:=[none]) (bz (aj p (aq 6) ai)) (λ_ _ _ _=>(aO (i:=0) (show(["_law_c"]:List Str).Nodup by decide +kernel) rfl Sort)) ko (λ_ _ _ _=>(aH fK hr (ag (aq 0) aa)))) aa)))) (pw_or1 (aB (eX p) (aj p (aq 6) ai) (aq 3) (aE _)))))) (ak (aG ia)) aJ)
  (af (aR (PW.pt (pw_or (aB (eX p) (aH kM hr (ag (aq 1) (ag (aq 2) (ag (aj p (aq 6) ai) aa)))) (aq 3) (aE _)) (pw_or1 (aB (eX p) (aH cg hr (ag (aq 1) (ag (aq 3) aa))) (bA aa) (aE _))))) (ak (aG ia)) aJ)
  (ak (bN (dz nM p6 p7 bS (aj p (aq 6) ai) (ag (bD (ag ai (ag ai (ag ai (ag (bD (ag ai (ag ai aa))) aa))))) aa)))))))))
  (ak (aG (gj (ij (bb p) (aq 4) (aq 2) (aE _)) (gQ (ij (bb p) (fz dP T.ba hr (aq 0)) (aj p (aq 1) aC) (aE _))))))))),?_⟩
 nofun;obtain⟨dx,o,hx,T⟩:=hR.ins;obtain⟨T,hd,nF,nP,lu⟩:=L.dk;ac_rfl;have T:=L.ok;have h5:=T.Gf;have o7:=O.len;walk_at "xg";right;refine⟨G,d,tn,z,r,bd,a,PT,rfl,L,M,N,Y,Z,rJ,O,hz,λct n H1 s1 rL ZJ=>?_⟩;refine L2.aX h1 ?_;clear h1;walk_at "xg";right;refine bo ?_;right;obtain⟨as,ng,yf,Af⟩:=id (rJ.same s1);refine .inl ⟨⟨_,aM.of ng⟩,λD hD=>?_⟩;refine aZ (J:=rD K a) (n:=z.ms.length) (λi ys H'=>au H1 H'/\∃R:List Addr,ys=R.map V.ref/\R.length=i/\∀(m:Nat) b,R[m]?=some b->H' b=some (.lst ((PT.getD m []).map V.int))/\b≠D) (J' (aA ())) ⟨au.new _ hD,[],rfl,rfl,λm b e=>by simp at e⟩ ?_ ?_ ?_ ?_
 ·rintro i ys H' hi ⟨g,_⟩;exact⟨_,_,aM.of (g _ _ ng),by rw[aaB,cF ()];rfl⟩
 ·rintro ys H' ⟨g,_⟩;exact⟨_,aM.of (g _ _ ng),by simp;lia⟩
 ·intro i ys H' hi aV hl fW xx G2 gc;nofun;obtain⟨g,R,rfl,Et,Eb⟩:=fW;obtain⟨rfl,y⟩:=gc;have ex:=y _ (aM.of (g _ _ ng));rw[aaB] at ex;obtain⟨b,hb,rfl⟩:=Option.map_eq_some_iff.mp ex;ac_rfl;walk_at "xf";right
  try rw[if_pos trivial]
  have y:=g _ _ (Af i b hb);calc bC _ (.inl (aM.of y)) (λl T=>?_);have u:=au.new (.lst ((PT.getD i []).map V.int)) T;have y:l≠D:=Ne.symm (ao aV T);refine bH (u _ _ aV) (by simpa using hl) hi (J' (aA ())) ⟨λc o e=>by rw[av (ao e hD)];calc u _ _ (g _ _ e),R++[l],by rw[aaD];rfl,by simp[Et],qT (f:=λm=>PT.getD m []) Et Eb (λc o n e=>by rw[av n];calc u _ _ e) (by rw[av y];calc ab) y⟩
 intro ys H2 aV pZ lB;obtain⟨s2,R,rfl,Et,Eb⟩:=lB;have hPD:gh H2 D PT:=⟨R,aV,(),λm b e=>(Eb m b e).1⟩
 refine L2.aX h1 ?_;clear h1 ng yf Af pZ aV hD Et Eb;have oU:=s1.trans s2;have afc:=s2 _ _ rL;clear s1 s2 rL;walk_at "xg";refine⟨_,rfl,∅,∅,j4 (n:=2) (λk σ H'=>(∃z5 z6,σ=[some (V.ref x),some (V.ref d),some (V.ref a),some (V.ref ct),some (V.ref D),z5,z6])/\au H2 H') ?_ ?_ ?_⟩
 ·exact⟨⟨_,_,rfl⟩,au.refl _⟩
 ·intro k σ H3 hk pJ;obtain⟨⟨z5,z6,rfl⟩,g⟩:=pJ;clear h1;rw[Int.zero_add];have S:=oU.trans g;show wR _ _ _ _ _;walk_at "xg";right;refine⟨F,x,bE,z,r,ad,D,PT,rfl,hR.same S,M,N,hP,Y,Z,hPD.same g,O,hz,λt y fl fv n2 H4 U et KP OO W Ob R=>?_⟩;refine L2.aX h1 ?_;clear h1;have wA:=S.trans U;have eit:eY r z.ws.length PT n2=eY r z.ws.length PT n:=N9 R ZJ;have Oc:=(yn M N Y O hz n).len;have afe:=U _ _ (g _ _ afc);rw[eit]at KP;walk_at "xg";refine L2.fm λT0 U0 nJ I=>?_;right;refine cy _ true (.tup et) rfl ?_;rw[if_neg ∅];refine bC _ (.inr ⟨_,bG.of et,rfl⟩) ?_;rw[if_neg nofun];refine cN et (ay (j:=1) rfl) ?_;refine cy _ true (.lst W) rfl ?_;rw[if_neg ∅];refine L2.aX I ?_;show N1 _ _;refine L2.aX h1 ?_;clear h1 nJ I;walk_at "xg";refine L2.fm λT0 U0 nJ I=>?_;right;refine cN et (ay (j:=0) rfl) ?_;refine cy _ true (.tup KP) rfl ?_;rw[if_neg ∅];refine bo ?_;right;refine cN et (ay (j:=0) rfl) ?_;refine .inr ⟨⟨_,bG.of KP⟩,λE y=>Ay KP () y λR B=>ke ?_⟩;rw[if_neg ∅];have X:=B _ _ et;have TN:=B _ _ afe;refine cN X (ay (j:=0) rfl) ?_;refine .inl ⟨nh (k:=18) (.inr ⟨bG.of (B _ _ KP),bG.of TN⟩),ke ?_⟩;rw[if_neg ∅];refine L2.aX I ?_;show N1 _ _;refine L2.aX h1 ?_;clear h1 nJ I;walk_at "xg";refine L2.fm λT0 U0 nJ I=>?_;right;have y:=wA.trans B;refine cN X (ay (j:=1) rfl) ?_;refine⟨G,d,tn,z,r,bd,a,PT,fl,fv,n,rfl,L.same y,M,N,Y,Z,rJ.same y,O,hz,B _ _ W,by rw[<-eit];exact Ob.aI B.aN,λT H6 s6 R=>?_⟩;refine .inl ⟨nh (k:=18) (.inr ⟨bG.of R,bG.of (s6 _ _ TN)⟩),ke ?_⟩;rw[if_neg ∅];have k:=y.trans s6;refine⟨G,d,tn,z,r,bd,ct,_,rfl,L.same k,M,N,Z,.inl (s6 _ _ TN),Oc,λR n H7 s7 DW Kz=>?_⟩;refine⟨U' _,λp1 BL=>?_⟩;rw[KJ ZJ]at Kz;have SY:n=[]:=List.length_eq_zero_iff.mp Kz.1;subst SY;have k:=au.new (.lst []) BL;refine .inl ⟨.inr ⟨_,_,[],[],rfl,rfl,.inr ⟨aM.of (k _ _ DW),aM.of ab⟩,rfl,λj u v p=>by simp at p⟩,ke ?_⟩;rw[if_neg ∅];refine L2.aX I ?_;show N1 _ _;refine L2.aX h1 ?_;clear h1 nJ I;have S8:=(s6.trans s7).trans k;have et8:=S8 _ _ X;have ZL:=S8 _ _ (B _ _ W);have s28:au H2 (upd H7 p1 (.lst [])):=g.trans ((U.trans B).trans S8);have k:au H3 (upd H7 p1 (.lst [])):=(U.trans B).trans S8;generalize upd H7 p1 (.lst [])=H8 at *;right;refine cN et8 (ay (j:=1) rfl) ?_;refine⟨.inl ⟨rfl,_,aM.of ZL⟩,df,λu v=>⟨by rw[sizeLine_eq];lia,λn k=>?_⟩⟩;have p:=(au.new _ v).trans (au.new (.tup [.int 0,.int 0,.int 0,.ref u]) k);have n:=Ob.1;rw[aaC]at n;have k:=KL M N Y O hz Z h5 n2;refine M6 _ (p _ _ ZL) (aA ()) ⟨_,_,rfl,rfl⟩ (λc o e=>?_);rw[av (ao (g _ _ e) OO)];exact p _ _ (s28 _ _ e)
 intro σ H3 ui;obtain⟨⟨z5,z6,rfl⟩,g⟩:=ui;show N1 _ _;calc L2.aX h1 ?_;clear h1;right;have S:=oU.trans g;calc .inl ⟨KN (hPD.same g) (rJ.same S),?_⟩;rw[if_pos trivial];calc⟨x,dx,_,rfl,S _ _ hx,fH ⋯,F,x,bE,z,r,ad,rfl,hR.same S,λl vs hl k=>?_⟩;have U:=au.new (.lst vs) hl;have el:upd H3 l (.lst vs) l=some (.lst vs):=ab;have afi:=k.cv U.cv;have wA:=S.trans U;generalize upd H3 l (.lst vs)=H4 at *;obtain⟨n,g,k⟩:=(L.same wA).cA.lst (t:=0) (i:=0) (by show 0<1;decide) rfl;calc bC _ (Am (wA _ _ hd)) ?_;calc .inl ⟨F7 el g (pV afi) (pV (k.cv dE)),q _ wA⟩
theorem of_map{α:Type}{f:α->V}{a:List α}:∀(xs:List V),(∀x∈xs,x∈a.map f)->∃us:List α,xs=us.map f/\∀u∈us,u∈a
 | [],_=>⟨[],rfl,λu h=>by simp at h⟩
 |x::xs,h=>by
  obtain⟨us,e,b⟩:=of_map xs λy c=>h y (V' _ c);obtain⟨t,d,rfl⟩:=List.mem_map.mp (h x S');exact⟨t::us,by rw[e];rfl,λu g=>by
   rcases List.mem_cons.mp g with rfl|a
   ·exact d
   ·calc b u a⟩
theorem Oe(s:au H0 H)(f:Fr Z H H')(a:∀b,Z b->H0 b=none):au H0 H':=λb o e=>f.at (s _ _ e) λz=>by rw[a b z]at e;cases e
theorem ints_of{xs:List V}(h:∀x∈xs,x∈ns.map V.int):∃us:List Int,xs=us.map V.int:=let ⟨us,e,_⟩:=of_map xs h;⟨us,e⟩
theorem KQ {n k:Nat}{vs:List V}{c:List DV}(h:eN H n vs c):eN H n (vs.take k) (c.take k):=⟨by rw[List.length_take,List.length_take,h.1],λi u e a b=>by
 rw[List.getElem?_take]at a b;split at a
 ·next z=>rw[if_pos z]at b;exact h.2 i u e a b
 ·cases a⟩
theorem KR {n k:Nat}{vs:List V}{a:List DV}(h:eN H n vs a):eN H n (vs.drop k) (a.drop k):=⟨by rw[List.length_drop,List.length_drop,h.1],λi u e a b=>by
 rw[List.getElem?_drop] at a b;calc h.2 _ u e a b⟩
def nL(r:RS)(PT:List (List Int)):List (List Int):=(List.range PT.length).map λm=>(PT.getD m []).filter λc:Int=>decide (c<((r.mm m).dQ.length:Nat))
theorem AB{PT:List (List Int)}(h:m<PT.length):(nL r PT).getD m []=(PT.getD m []).filter (λc:Int=>decide (c<((r.mm m).dQ.length:Nat))):=by
 unfold nL;rw[aaE,aaB,List.getElem?_range h];rfl
theorem KS{nt:NT}{PT:List (List Int)}(b:PT.length=nt.ms.length)(h:∀m,m<nt.ms.length->Eo (r.mm m).dQ.length (PT.getD m [])):gi nt r PT/\∀m,m<nt.ms.length->(0:Int)∈PT.getD m []:=
 ⟨⟨b,λm a=>List.ne_nil_of_mem (h m a).z,λm a=>(h m a).ri,λm a=>(h m a).bd⟩,λm a=>(h m a).z⟩
theorem AD{nt:NT}{PT:List (List Int)}(f:r.Ok nt)(e:gi nt r' PT)(g:∀m,m<nt.ms.length->(0:Int)∈PT.getD m []):gi nt r (nL r PT)/\∀m,m<nt.ms.length->(0:Int)∈(nL r PT).getD m []:=by
 calc KS (by unfold nL;rw[aaC,List.length_range];calc e.len) λm d=>?_;have h:=f.vc d;rw[AB (by rw[e.len];calc d)];calc⟨(e.ri m d).filter _,λc h=>?_,List.mem_filter.mpr ⟨g m d,decide_eq_true ()⟩⟩;obtain⟨a,b⟩:=List.mem_filter.mp h;calc⟨(e.bd m d c a).1,of_decide_eq_true b⟩
def pW(nt:NT)(r:RS):List (List Int):=(List.range nt.ms.length).map λm=>(List.range (r.mm m).dQ.length).map λk=>((k:Nat):Int)
theorem AE{nt:NT}(h:m<nt.ms.length):(pW nt r).getD m []=(List.range (r.mm m).dQ.length).map λk=>((k:Nat):Int):=by
 unfold pW;rw[aaE,aaB,List.getElem?_range h];rfl
theorem KU{nt:NT}(b:r.Ok nt):gi nt r (pW nt r)/\∀m,m<nt.ms.length->(0:Int)∈(pW nt r).getD m []:=by
 calc KS (by unfold pW;rw[aaC,List.length_range]) λm a=>?_;have f:=b.vc a;rw[AE a];calc⟨List.pairwise_map.mpr (List.pairwise_lt_range.imp λh=>by lia),λc d=>?_,List.mem_map.mpr ⟨0,List.mem_range.mpr (),rfl⟩⟩;obtain⟨k,e,rfl⟩:=List.mem_map.mp d;have:=List.mem_range.mp e;lia
theorem Eu{K:W.Frag}{F:Addr->Prop}{R:VK}{d:Addr}{tn:V}{nt:NT}{bd:Nat->Nat->Addr}{PT:List (List Int)}(M:tF [none,none,some j] σ=[none,none,some (.ref d)])(N:bT F H d tn nt r bd)(hP:gh H a PT)(hl:PT.length=nt.ms.length)(hb:∀m,m<nt.ms.length->(PT.getD m []).length<=100)(hD:H D=none)(q:∀H',au H H'->gh H' D (nL r PT)->R (.ref D) H'):pB [none,none,some j] (Lv true K a) (AY K 2 (iC (dI 0) (iC (dI 1) AX))) fP (Wh [none,some 0,some 2] (Hz K (tV 1)) (dI 0) (tT (AI (MH λi j=>V.bl (decide (i<j))) (tV 0) (QU (MJ K) (vK (AI (Ls K) (AI (Ls K) (tV 2) (tC (V.str "states"))) (tV 1)) Bg)))) (tV 0) Lw.mk) σ H R D Lw.mk:=by
 obtain⟨o',hd,_,_,lu⟩:=N.dk;have l1:=(lu 1 ∅ ∅).1;have h5:=N.ok.Gf;obtain⟨as,O,yf,Af⟩:=hP;refine aZ (J:=Lv true K a) (n:=nt.ms.length) (λi ys H'=>au H H'/\∃u:List Addr,ys=u.map V.ref/\u.length=i/\∀(m:Nat) b,u[m]?=some b->H' b=some (.lst (((nL r PT).getD m []).map V.int))/\b≠D) (J' (aA ())) ⟨au.new _ hD,[],rfl,rfl,λm b e=>by simp at e⟩ ?_ ?_ ?_ ?_
 ·rintro i ys H' w ⟨v,_⟩;exact⟨_,_,Sq.l (v _ _ O),by rw[aaB,cF ()];rfl⟩
 ·rintro ys H' ⟨v,_⟩;exact⟨_,Sq.l (v _ _ O),by simp;lia⟩
 ·intro i ys H' w P k9 fW xx H4 gc;obtain⟨v,u,rfl,S,T⟩:=fW;obtain⟨U,Gq,rfl,y⟩:=gc;obtain⟨z,ez,rfl⟩:=y _ (Sq.l (v _ _ O));rw[aaB] at ez;obtain⟨b,X,rfl⟩:=Option.map_eq_some_iff.mp ez;have Y:=au.new (.tup [.int (i:Nat),.ref b]) Gq;have L:upd H' U (.tup [.int (i:Nat),.ref b]) U=some (.tup [.int (i:Nat),.ref b]):=ab;rw[M];calc uS (bG.of L) ⟨Ext.set (Ext.set (Ext.refl _) rfl) rfl,?_⟩;have Cg:=Y _ _ P;have Z:=v.trans Y;generalize upd H' U (.tup [.int (i:Nat),.ref b])=G3 at *;left
  try rw[if_pos trivial]
  calc bo ?_;left;have p:=Z _ _ (Af i b X);have v:=hb i w;have hca:(nL r PT).getD i []=_:=AB (r:=r) (PT:=PT) (m:=i) ();generalize PT.getD i []=ns at *;calc .inl ⟨⟨_,aM.of p⟩,λE hE=>?_⟩;have x:E≠D:=Ne.symm (ao Cg hE);refine aZ (J:=rD K b) (n:=ns.length) (λk B G=>au G3 G/\B=((ns.take k).filter λc:Int=>decide (c<((r.mm i).dQ.length:Nat))).map V.int) (J' (aA ())) ⟨au.new _ hE,rfl⟩ ?_ ?_ ?_ ?_
  ·rintro k B G C ⟨g,_⟩;exact⟨_,_,aM.of (g _ _ p),by rw[aaB,aS (d:=0) C];rfl⟩
  ·rintro B G ⟨g,_⟩;exact⟨_,aM.of (g _ _ p),nofun⟩
  ·intro k B G C I zX lB xx G2 pJ;obtain⟨g,rfl⟩:=lB;obtain⟨rfl,y⟩:=pJ;have ex:=y _ (aM.of (g _ _ p));rw[aaB,aS (d:=0) C] at ex;obtain rfl:=Option.some.inj ex;have sG:=Z.trans g;walk_at "xf";left;refine bC _ (FT (sG _ _ hd)) ?_;refine bu (sG _ _ l1) (bc (show i < nt.n 1 from w)) ?_;obtain⟨p,v,y⟩:=(N.same sG).cA.lst (t:=1) (i:=i) w rfl;have M:p.length=(r.mm i).dQ.length:=by simpa using y.1
   calc bC _ (.inl ⟨_,aM.of v,rfl⟩) ?_;rw[M];have L:(ns.take (k+1)).filter (λc:Int=>decide (c<((r.mm i).dQ.length:Nat)))=(ns.take k).filter (λc:Int=>decide (c<((r.mm i).dQ.length:Nat)))++if decide (ns.getD k 0<((r.mm i).dQ.length:Nat))=true then[ns.getD k 0] else[]:=by
    rw[List.take_add_one,aS (d:=0) C,List.filter_append];congr 1;show List.filter _ [_]=_;rw[List.filter_cons,List.filter_nil]
   cases p:decide (ns.getD k 0<((r.mm i).dQ.length:Nat)) with
   |true=>
    rw[if_pos rfl];calc bH I zX C (J' (aA ())) ⟨λc o e=>by rw[av (ao e hE)];calc g _ _ e,?_⟩;rw[L,p,if_pos rfl,aaD];rfl
   |false=>
    rw[if_neg ∅];exact⟨_,I,(),g,by rw[L,p,if_neg ∅,List.append_nil]⟩
  rintro B G4 I _ ⟨s5,rfl⟩;rw[List.take_length]at I;have i:=Z.trans s5;have k:=Y.trans s5;refine bH (s5 _ _ Cg) k9 w (J' (aA ())) ⟨λc o e=>by rw[av (ao e hD)];calc i _ _ e,u++[E],by rw[aaD];rfl,by simp[S],qT (f:=λm=>(nL r PT).getD m []) S T (λc o n e=>by rw[av n];calc k _ _ e) (by rw[av x,hca];calc I) x⟩
 intro ys H2 P pZ ui;obtain⟨g,u,rfl,S,T⟩:=ui;calc q _ g ⟨u,P,by unfold nL;rw[aaC,List.length_range];lia,λm b e=>(T m b e).1⟩
abbrev wL:Stmt:=top 82
def yr(K:W.Frag):Sp:=λvs H Q _=>∃(a:Addr) (ns:List Int),vs=[.ref a]/\aM K H a (ns.map V.int)/\ns.length<=63/\∀H',Q (.bl true) H'
theorem TQ{f:Addr}{A:FuncData}(D:My K "law" "law" wL f A)(T:Tx K mg C CN CR F FD)(fY:Def P w K mg base "_law_at" 1 ["_law_script","_law_k"] (Jc K))(qU:Def P w K mg base "_law_net" 5 ["_law_script"] (Ed K))(iV:Def P w K mg base "_law_net_made" 9 ["_law_net_here"] (wI C CN))(kO:Def P w K mg base "_law_played" 4 ["_law_net_here","_law_schedule"] En)(iz:Def P w K mg base "_law_points" 2 ["_law_run","_law_pot_here","_law_zero"] Ep)(fI:Def P w K mg base "_law_pot" 1 ["_law_cell"] BQ)(ni:Def P w K mg base "_law_ran" 4 ["_law_net_here","_law_cells"] Ei)(dS:Def P w K mg base "_law_right" 8 ["_law_told","_law_run","_law_points_here"] (yq C CN CR))(iA:Def P w K mg base "played_run" 7 ["net","schedule"] (Eh C CN CR))(oG:cn P w K mg base CR "pick" 7 ["self","way","number"] (JI C CN CR)):nr P w K mg base EV 10 f A ["_law_script"] (yr K):=by
 have L:aD ["_law_script","_law_run","_law_pot_here","_law_points_here","_law_other","_law_amid","_law_made","_law_told","_law_early","_law_way","_law_number","_law_again","_law_there","_law_every"] ["_law_script"] (az wL):=by walk_at "s"
 refine D.ok L (λvs H Q E h=>?_) (λgP A outer s H vs Q E l h=>?_)
 ·obtain⟨a,ns,rfl,hS,h63,q⟩:=h;rfl
 ·obtain⟨a,ns,rfl,hS,h63,q⟩:=h;have A:=l.units;refine⟨_,(af (aU (i:=1) L.nd rfl Sort (aH ni l (ag (aH qU l (ag (aq 0) aa)) (ag (Iq (aq 0) (dU ai) (dU ai)) aa))))
   (af (aU (i:=2) L.nd rfl Sort (aH fI l (ag (aH fY l (ag (aq 0) (ag ai aa))) aa)))
   (af (aU (i:=3) L.nd rfl Sort (aH iz l (ag (aq 1) (ag (aq 2) (ag ia aa)))))
   (af (aU (i:=4) L.nd rfl Sort (aH iz l (ag (aq 1) (ag (aq 2) (ag ia aa)))))
   (af (aU (i:=5) L.nd rfl Sort (aH kO l (ag (aj A (aq 1) aC) (ag (nU (aj A (aq 1) aC) fO (dU (bq lQ (aW aP rfl T.bR L' (ag (aj A (aq 1) aC) aa)) ai))) aa))))
   (af (aU (i:=6) L.nd rfl Sort (aH iV l (ag (aj A (aq 1) aC) aa)))
   (af (aU (i:=7) L.nd rfl Sort (aH iA l (ag (aq 6) (ag (cL cw rfl T.dF vE (ag (aj A (aq 5) aC) aa)) aa))))
   (af (cJ (i:=8) L.nd rfl Sort (N':=["_law_m","_law_row","_law_amid"]) (ix:=[none,none,some 5]) (ik rfl T.cW (ag (aq 3) aa)) (λ_ _ _ _=>(ip (K:=K) rfl (i:=0) (j:=1) rfl (show(["_law_m","_law_row","_law_amid"]:List Str).Nodup by decide +kernel) rfl rfl Sort Sort)) ko (λ_ _ _ _=>(cI (N':=["_law_c","_law_m","_law_amid"]) (ix:=[none,some 0,some 2]) (Dl (K:=K) rfl (aq 1)) (λ_ _ _ _=>(aO (i:=0) (show(["_law_c","_law_m","_law_amid"]:List Str).Nodup by decide +kernel) rfl Sort)) (λ_ _ _ _=>(eW (aB eF (aq 0) (aW (iE (K:=K) rfl) rfl T.bR L' (ag (cu (K:=K) rfl A (cu (K:=K) rfl A (aq 2) aC) (aq 1)) aa)) (aE _)))) (λ_ _ _ _=>(aq 0)))))
   (af (aR (bI (bg (aH dS l (ag (aq 7) (ag (aq 5) (ag (aq 8) aa)))))) (ak (aG ia)) aJ)
   (af (dJ PassesOwn.never rfl (bz (nU (aj A (aq 1) aC) (dU (aW aP rfl T.bR L' (ag (aj A (aq 5) aC) aa))) fO)) (dW (i:=9) (j:=10) rfl L.nd rfl rfl Sort Sort)
   (ak (bN (eZ oG T.ba l (aq 7) (ag (aq 9) (ag (aq 10) aa))))))
   (af (aR (PW.pt (pw_or (bI (bg (aH dS l (ag (aq 7) (ag (aq 1) (ag (aq 3) aa)))))) (pw_or1 (bI (bg (aH dS l (ag (aq 7) (ag (aq 1) (ag (aq 4) aa))))))))) (ak (aG ia)) aJ)
   (af (aU (i:=11) L.nd rfl Sort (aH ni l (ag (aj A (aq 1) aC) (ag (RJ (Iq (aq 0) (dU ai) (dU ai)) (ib fc ai)) aa))))
   (af (cJ (i:=12) L.nd rfl Sort (N':=["_law_m","_law_row","_law_again"]) (ix:=[none,none,some 11]) (ik rfl T.cW (ag (aq 3) aa)) (λ_ _ _ _=>(ip (K:=K) rfl (i:=0) (j:=1) rfl (show(["_law_m","_law_row","_law_again"]:List Str).Nodup by decide +kernel) rfl rfl Sort Sort)) ko (λ_ _ _ _=>(cI (N':=["_law_c","_law_m","_law_again"]) (ix:=[none,some 0,some 2]) (Dl (K:=K) rfl (aq 1)) (λ_ _ _ _=>(aO (i:=0) (show(["_law_c","_law_m","_law_again"]:List Str).Nodup by decide +kernel) rfl Sort)) (λ_ _ _ _=>(eW (aB eF (aq 0) (aW (iE (K:=K) rfl) rfl T.bR L' (ag (cu (K:=K) rfl A (cu (K:=K) rfl A (aq 2) aC) (aq 1)) aa)) (aE _)))) (λ_ _ _ _=>(aq 0)))))
   (af (aR (bI (bg (aH dS l (ag (aH iA l (ag (aq 6) (ag (cL cw rfl T.dF vE (ag (aj A (aq 11) aC) aa)) aa))) (ag (aq 11) (ag (aq 12) aa)))))) (ak (aG ia)) aJ)
   (af (cJ (i:=13) L.nd rfl Sort (N':=["_law_states"]) (ix:=[none]) (bz (aj A (aq 1) aC)) (λ_ _ _ _=>(aO (i:=0) (show(["_law_states"]:List Str).Nodup by decide +kernel) rfl Sort)) ko (λ_ _ _ _=>(cL (Fi rfl) rfl T.dF vE (ag (cL Fg rfl T.dX PyProof.Rows.boot_range (ag (aW (iE (K:=K) rfl) rfl T.bR L' (ag (aq 0) aa)) aa)) aa))))
   (ak (aG (gj (aH dS l (ag (aq 7) (ag (aq 1) (ag (aq 3) aa)))) (gQ (aH dS l (ag (aq 7) (ag (aq 1) (ag (aq 13) aa))))))))))))))))))))))),?_⟩
  walk_at "xg";left;refine ua a ns rfl hS h63 (λt am aw al mv wv lv ic ws ls H1 s1 h l A L T g6 g7 g=>?_);have N5:ToldN H1 (.ref t) ic ws ls:=⟨t,am,aw,al,mv,wv,lv,rfl,h,l,A,L,T,g6,g7⟩
  clear h l A L T g6 g7;obtain⟨d,ZM⟩:∃d:NT,d=⟨ic,ws⟩:=⟨_,rfl⟩
  have Pr:∀l∈ls,0<=l.1/\l.1<d.ws.length:=λl hl=>by rw[ZM];exact⟨(g.lo l hl).1,(g.lo l hl).2.1⟩
  have wK:d.Ok:=by rw[ZM];exact g.nt
  generalize V.ref t=v at *;have sq1:=s1.seq hS;calc bC _ sq1 (λlc hlc=>?_);obtain⟨U,Lz⟩:=ints_of (ns:=ns) λx (hx:x∈dG (ns.map V.int) (some 9) (some 39))=>M5 hx;have h:U.length<=30:=by
   have:=M4 (xs:=ns.map V.int) (i:=9) (j:=39);rw[show dG (ns.map V.int) (some ((9:Nat):Int)) (some ((39:Nat):Int))=U.map V.int from Lz,aaC]at this;exact this
  have s2:=au.new (.lst (dG (ns.map V.int) (some 9) (some 39))) hlc;have elc:upd H1 lc (.lst (dG (ns.map V.int) (some 9) (some 39))) lc=some (.lst (U.map V.int)):=by rw[<-Lz];exact ab
  generalize Jh:upd H1 lc (.lst (dG (ns.map V.int) (some 9) (some 39)))=H2 at *;refine⟨λ_=>False,v,d,ls,lc,U,rfl,?_,λb M=>M.elim,wK,g.Pw,Pr,elc,(),λd0 b0 u H3 O h l R I TR=>?_⟩
  ·rw[ZM];exact N5.cv λb o e n'=>by rw[gV (λz=>z)];exact s2 _ _ e
  refine L2.aX h1 ?_;clear h1 hlc elc Jh hS;have ju:=s2.trans O;have sq3:=ju.seq sq1;have ZN:ToldN H3 v ic ws ls:=N5.cv ju.cv;clear s2 O h l sq1 N5 ju s1;have hPk:=I.pk;have hPs:=I.ps;walk_at "xg";left;refine Wo a ns 8 rfl sq3 ∅ (λc=>?_);refine bC c rfl (λp zs Va uQ=>?_);have yE:=au.new (.lst (zs.map V.int)) Va;have ZO:ff (upd H3 p (.lst (zs.map V.int))) p:=⟨zs,ab,uQ⟩
  generalize upd H3 p (.lst (zs.map V.int))=H4 at *;refine L2.aX h1 ?_;clear h1;walk_at "xg";left;refine⟨λ_=>False,d0,v,d,u,b0,p,H3,rfl,R,yE,Va,ZO,I.ok,TR,λa1 PT1 h lG hP1 PQ uQ=>?_⟩;refine L2.aX h1 ?_;clear h1;have Nk:=lG.over yE Va;walk_at "xg";left;refine⟨λ_=>False,d0,v,d,u,b0,p,H3,rfl,R,Nk,Va,lG.fq,I.ok,TR,λa2 h H6 A l hO2 yZ=>?_⟩;refine L2.aX h1 ?_;clear h1;have h:=A.over Nk Va;have Vb:=hP1 H6 A;have hA2:=l H6 (Step.refl A.fq);have X:=R.same h;have sq6:=h.seq sq3;have ZP:ToldN H6 v ic ws ls:=ZN.cv h.cv;have L:ToldN H6 v d.ms d.ws ls:=by rw[ZM];exact ZP
  clear yE Nk h lG A hP1 l ZO Va R sq3 ZN;have tnf:∀{G:Hp},au H6 G->ToldN (jY (λ_=>False) G) v d.ms d.ws ls:=λs=>L.cv λb o e n'=>by rw[gV (λz=>z)];exact s _ _ e
  nofun;obtain⟨o',hd,h,l,lu⟩:=X.dk;obtain⟨B,e0,d0'⟩:=X.cA.lst (t:=0) (i:=0) (by show 0<1;decide) rfl;ac_rfl;have F8:=pV (d0'.cv dE);have h:B.length=u.picks.length:=by simpa using d0'.1
  clear d0';walk_at "xg";left;refine⟨_,xY hd,_,Am hd,_,Am hd,_,.inl ⟨_,aM.of e0,rfl⟩,⟨∅,⋯⟩,.inl ⟨_,e0,λY xK=>?_⟩⟩;obtain⟨r,h⟩:∃r:Nat,((B.length:Nat):Int)/2=(r:Nat):=⟨B.length/2,()⟩
  have Ya:r<=u.picks.length:=by lia
  rw[h,show dG B none (some ((r:Nat):Int))=B.take r from sU _ _];have s7:=au.new (.lst (B.take r)) xK;have ZH:upd H6 Y (.lst (B.take r)) Y=some (.lst (B.take r)):=ab;have hv7:=(KQ (k:=r) F8).aI s7.aN;rw[<-List.map_take]at hv7;generalize upd H6 Y (.lst (B.take r))=H7 at *;obtain⟨TU,h⟩:=Em wK g.Pw I.Th r Ya;have afn:(fb d (RS.begin d ls) (u.picks.take r)).picks.length=r:=by rw[h,List.length_take];lia
  refine⟨λ_=>False,v,d,ls,Y,_,u.picks.take r,rfl,tnf s7,λb M=>M.elim,wK,g.Pw,Pr,ZH,hv7,by rw[List.length_take];lia,wJ I.Th r,λd1 b1 h s8 _ _ W5=>?_⟩;refine L2.aX h1 ?_;generalize hr1:fb d (RS.begin d ls) (u.picks.take r)=r1 at *;have s68:=s7.trans s8;clear h1 s7 s8 ZH hv7 xK;walk_at "xg";left;refine⟨_,xY (s68 _ _ hd),v,ic,ws,ls,rfl,ZP.cv s68.cv,g,λn ms wv lv H9 N Tf Za Zb=>?_⟩;rw[<-ZM]at Tf;refine L2.aX h1 ?_;clear h1;have s69:=s68.trans N;have Of:=W5.same N;clear s68 N W5;nofun;obtain⟨l,Yp,_,_,h⟩:=Of.dk;obtain⟨v1,e1,UZ⟩:=Of.cA.lst (t:=0) (i:=0) (by show 0<1;decide) rfl;ac_rfl;have W6:=pV (UZ.cv dE);have afo:v1.length=r1.picks.length:=by simpa using UZ.1
  clear UZ;walk_at "xg";left;refine⟨_,Am Yp,_,.inl (aM.of e1),λl2 tw=>?_⟩;have rK:=au.new (.lst v1) tw;have Gn:upd H9 l2 (.lst v1) l2=some (.lst v1):=ab;generalize upd H9 l2 (.lst v1)=FE at *;have h:qP d (RS.begin d ls) r1.picks:=TU.Th;refine⟨λ_=>False,n,l2,d,ls,ms,wv,lv,v1,r1.picks,rfl,Tf.fr (Z:=λ_=>False) rK.fr,Za.fr (Z:=λ_=>False) rK.fr,Zb.aI rK.aN,g.Pw,Pr,Gn,W6.aI rK.aN,(),λb M=>M.elim,h,λx ax L l _ A S=>?_⟩;rw[<-TU.pl]at S;refine L2.aX h1 ?_;have f9:∀b,FP d.n ax b->H9 b=none:=λb M=>rK.free (A b M);have N:=rK.trans l;clear h1 rK l Gn tw A h;have sB:∀{G:Hp},au H9 G->au H6 G:=λs=>s69.trans s;walk_at "xg";left;refine bo ?_;left;have s6B:=sB N;have ZR:∀m,m<d.ms.length->(PT1.getD m []).length<=100:=λm h=>by
   have a:=pw_len (lo:=0) (n:=(u.mm m).dQ.length) (PQ.ri m h) λc hc=>by have:=PQ.bd m h c hc;lia
   have b:=I.ok.bp m h;lia
  obtain⟨as1,vv,_⟩:=id (Vb.same s6B);refine zh true _ (Sq.l vv) (λD h=>Eu rfl (Of.same N) (Vb.same s6B) PQ.len ZR h λl oU hA3=>?_);obtain⟨hO3,UP⟩:=AD TU.ok PQ uQ;refine L2.aX h1 ?_;clear h1 h vv;have TV:=N.trans oU;walk_at "xg";refine L2.fm λT0 U0 R nK=>?_;left;refine⟨λ_=>False,λ_=>False,x,n,d1,v,d,r1,ax,b1,D,_,rfl,S.same oU,Of.same TV,TU.ok,TU.iv,TU.pk,TU.ps,(),hA3,hO3,UP,λSb ju=>ke ?_⟩;rw[if_neg ∅];refine L2.aX nK ?_;show N1 _ _;refine L2.aX h1 ?_;clear h1 R nK hA3 hO3 UP;have JG:=S.same (oU.trans ju);have KW:=TV.trans ju;have Og:=sB KW;clear S oU ju TV N s6B;walk_at "xg";left;refine⟨_,Am (Og _ _ hd),_,Am (KW _ _ Yp),_,.inl ⟨_,aM.of (KW _ _ e1),rfl⟩,_,rfl,.inl ⟨_,Og _ _ e0,λl3 AS=>?_⟩⟩;rw[show dG B (some ((v1.length:Nat):Int)) none=B.drop r by rw[qL,afo,afn]];have wA:=au.new (.lst (B.drop r)) AS;have el3:upd Sb l3 (.lst (B.drop r)) l3=some (.lst (B.drop r)):=ab;have TX:=(KR (k:=r) F8).aI (Og.trans wA).aN;rw[<-List.map_drop]at TX;have TY:=JG.same wA;have ZS:=KW.trans wA;have nl3:¬FP d.n ax l3:=λz=>by
   obtain⟨o,ez,_⟩:=JG.cA.fp z;rw[AS]at ez;cases ez
  generalize upd Sb l3 (.lst (B.drop r))=H14 at *;clear AS wA JG KW Og;have sF:(B.drop r).length=u.picks.length-r:=by rw[List.length_drop];lia
  have hpI:=Em wK g.Pw I.Th;refine .inl ⟨⟨_,aM.of el3⟩,ee (K:=K) (xs:=B.drop r) (λi σ G=>(∃z9 DM,σ=[some (V.ref a),some (V.ref d0),some (V.ref p),some (V.ref a1),some (V.ref a2),some (V.ref d1),some (V.ref n),some (V.ref x),some (V.ref D),z9,DM,none,none,none])/\Fr (FP d.n ax) H14 G/\cf C CN CR (λ_=>False) G x n d (fb d (RS.begin d ls) (u.picks.take (r+i))) ax) ?_ ?_ ?_ ?_⟩
  ·rw[Nat.add_zero,hr1];exact⟨⟨_,_,rfl⟩,Fr.refl,TY⟩
  ·rintro i σ G hi ⟨_,fi,_⟩;exact aM.of (fi.at el3 nl3)
  ·clear TY h1;intro i z σ G hz zE;nofun;obtain⟨⟨z9,DM,rfl⟩,fi,S⟩:=zE;have hi:i < u.picks.length - r:=by rw[<-sF];exact(List.getElem?_eq_some_iff.mp hz).1
   have hki:r+i<u.picks.length:=by lia
   obtain⟨w,k,e,hc⟩:=I.Th (r+i) _ (cF hki);obtain⟨hIi,hpk⟩:=hpI (r+i) ();obtain⟨ta,rfl,h⟩:=mi (e:=((w:Int),(k:Int))) (TX.2 i z _ hz (by rw[aaB,List.getElem?_drop,cF hki,e];rfl));ac_rfl;have l:=fi.ly h id;calc uS (bG.of l) ?_;left;obtain⟨A,o,hx,B⟩:=S.ins;calc⟨x,A,_,rfl,hx,fH ⋯,λ_=>False,x,n,d,_,ax,w,k,rfl,S,λb M=>M.elim,hIi.ok,hc,by rw[hpk,List.length_take];lia,λ_ G' l h _=>?_⟩;calc gN ⟨_,_,rfl,rfl⟩ (fi.trans l) ?_;rw[<-Nat.add_assoc,List.take_succ,cF hki,e];show cf C CN CR _ G' x n d (fb d _ (_++[_])) ax;rw[gz];exact h
  intro σ G FK;obtain⟨⟨z9,DM,rfl⟩,fi,S⟩:=FK;rw[sF,show r+(u.picks.length-r)=u.picks.length by lia,List.take_length,<-I.pl]at S;have N:au H9 G:=Oe ZS fi f9;have s6:=sB N;show N1 _ _;calc L2.aX h1 ?_;clear h1 TY ZS fi f9 el3 TX hpI F8 W6;have rgt:∀{G':Hp} {r:VK} {l:Addr} {h:List (List Int)},au G G'->gh G' l h->gi d u h->(∀m,m<d.ms.length->(0:Int)∈h.getD m [])->(∀H',au G' H'->r (.bl true) H')->yq C CN CR [.ref x,.ref d0,.ref l] G' r E0:=λ{G' r l h} s A B hz k=>⟨λ_=>False,λ_=>False,x,n,d0,v,d,u,ax,b0,l,h,rfl,S.same s,X.same (s6.trans s),I.ok,I.iv,hPk,hPs,TR,A,B,hz,k⟩
  walk_at "xg";refine L2.fm λT0 U0 R nK=>?_;left;refine rgt (au.refl _) (Vb.same s6) PQ uQ λh u1=>ke ?_;rw[if_neg ∅];refine rgt u1 (hA2.same (s6.trans u1)) hO2 yZ λG2 h=>ke ?_;rw[if_neg ∅];have u2:=u1.trans h;refine L2.aX nK ?_;show N1 _ _;refine L2.aX h1 ?_;clear h1 R nK u1 h hA2 hO2 yZ;have s62:=s6.trans u2;walk_at "xg";left;refine bC _ (xY (s62 _ _ hd)) ?_;unfold Wy;left;refine⟨_,s62.seq sq6,λh Jg=>⟨h,_,rfl,ab,λk UL hle=>?_⟩⟩;rw[Lz]at UL hle ⊢;obtain⟨ys,aV⟩:=ints_of (ns:=U) λx (hx:x∈Fj (U.map V.int))=>IT hx;rw[aV,aaC,aaC]at hle;rw[aV];have u5:=(au.new (.lst (U.map V.int)) Jg).trans (au.new (.lst (ys.map V.int)) UL);refine⟨λ_=>False,v,d,ls,k,ys,rfl,tnf (s62.trans u5),λb M=>M.elim,wK,g.Pw,Pr,ab,(),λd2 b2 r2 h u6 _ _ MN TZ AL=>?_⟩;refine L2.aX h1 ?_;have u21:=(u2.trans u5).trans u6;have s21:=s6.trans u21;clear h1 u2 u5 u6 Jg UL hle aV s62;walk_at "xg";left;refine bo ?_;left;obtain⟨as1,vv,_⟩:=id (Vb.same s21);refine zh true _ (Sq.l vv) (λE k=>Eu rfl MN (Vb.same s21) PQ.len ZR k λH22 h hA4=>?_);obtain⟨hO4,Wb⟩:=AD TZ.ok PQ uQ;refine L2.aX h1 ?_;clear h1 k vv;have u22:=u21.trans h;have Oh:=MN.same h;clear u21 s21 h MN;nofun;obtain⟨k,hd2,_,_,Mj⟩:=Oh.dk;obtain⟨v2,e2,d2'⟩:=Oh.cA.lst (t:=0) (i:=0) (by show 0<1;decide) rfl;ac_rfl;have W7:=pV (d2'.cv dE);have h:v2.length=r2.picks.length:=by simpa using d2'.1
  clear d2';walk_at "xg";refine L2.fm λT0 U0 R nK=>?_;left;refine⟨_,Am hd2,_,.inl (aM.of e2),λl6 hl6=>?_⟩;have u8:=au.new (.lst v2) hl6;have el6:upd H22 l6 (.lst v2) l6=some (.lst v2):=ab;generalize upd H22 l6 (.lst v2)=H23 at *;have h:=N.trans (u22.trans u8);refine⟨λ_=>False,n,l6,d,ls,ms,wv,lv,v2,r2.picks,rfl,Tf.fr (Z:=λ_=>False) h.fr,Za.fr (Z:=λ_=>False) h.fr,Zb.aI h.aN,g.Pw,Pr,el6,W7.aI u8.aN,(),λb M=>M.elim,TZ.Th,λx h g l _ _ k=>?_⟩;rw[<-TZ.pl]at k;have g:=u8.trans l;refine⟨λ_=>False,λ_=>False,x,n,d2,v,d,r2,h,b2,E,_,rfl,k,Oh.same g,TZ.ok,TZ.iv,TZ.pk,TZ.ps,AL,hA4.same g,hO4,Wb,λH25 r=>ke ?_⟩;rw[if_neg ∅];refine L2.aX nK ?_;show N1 _ _;refine L2.aX h1 ?_;have u25:=u22.trans (g.trans r);clear h1 R nK u22 g r u8 l k Oh hA4 hO4 Wb W7 e2 el6 hl6 hd2 Mj;have Vc:=s6.trans u25;have afw:=X.same Vc;have Y:=(lu 1 ∅ ∅).1;walk_at "xg";left;refine bo ?_;left;refine⟨_,FT (Vc _ _ hd),.inl ⟨⟨_,aM.of (Vc _ _ Y)⟩,λW hW=>?_⟩⟩;refine aZ (J:=rD K (o' 1)) (n:=d.ms.length) (λi ys H'=>au H25 H'/\∃bs:List Addr,ys=bs.map V.ref/\bs.length=i/\∀(m:Nat) b,bs[m]?=some b->H' b=some (.lst (((pW d u).getD m []).map V.int))/\b≠W) (J' (aA (by have:=wK.Gf;lia))) ⟨au.new _ hW,[],rfl,rfl,λm b e=>by simp at e⟩ ?_ ?_ ?_ ?_
  ·rintro i ys H' hi ⟨O,_⟩;exact⟨_,_,aM.of (O _ _ (Vc _ _ Y)),uL (show i<d.n 1 from hi)⟩
  ·rintro ys H' ⟨O,_⟩;exact⟨_,aM.of (O _ _ (Vc _ _ Y)),Nat.le_of_eq kj⟩
  ·clear h1;intro i ys H' hi aV hl JU xx G2 NQ;nofun;obtain⟨O,bs,rfl,Et,Eb⟩:=JU;obtain⟨rfl,y⟩:=NQ;have ex:=y _ (aM.of (O _ _ (Vc _ _ Y)));rw[uL (show i < d.n 1 from hi)] at ex;obtain rfl:=Option.some.inj ex;ac_rfl;walk_at "xf";left
   try rw[if_pos trivial]
   obtain⟨g,e1,d1⟩:=(afw.same O).cA.lst (t:=1) (i:=i) hi rfl;have h:g.length=(u.mm i).dQ.length:=by simpa using d1.1
   have g:=I.ok.bp i hi;calc bC _ (.inl ⟨_,aM.of e1,rfl⟩) ?_;rw[h];intro k g;have u1:=au.new (.Qn 0 ((u.mm i).dQ.length:Nat)) g;calc iu _ ab () (λq2 PN=>?_);have u2:=u1.trans (au.new (.lst (Fh (u.mm i).dQ.length)) PN);have nW:q2≠W:=λz=>by rw[z,u1 _ _ aV]at PN;cases PN
   have g:=wK.Gf;refine bH (u2 _ _ aV) hl hi (J' (aA ())) ⟨λc o e=>by rw[av (ao e hW)];calc u2 _ _ (O _ _ e),bs++[q2],by rw[aaD];rfl,by simp[Et],qT (f:=λm=>(pW d u).getD m []) Et Eb (λc o n e=>by rw[av n];calc u2 _ _ e) (by rw[av nW,AE hi,List.map_map];calc ab) nW⟩
  intro ys H26 aV pZ zq9;nofun;obtain⟨u11,bs,rfl,Et,Eb⟩:=zq9;have h:gh H26 W (pW d u):=⟨bs,aV,by unfold pW;rw[aaC,List.length_range];lia,λm b e=>(Eb m b e).1⟩
  obtain⟨i,k⟩:=KU (nt:=d) I.ok;ac_rfl;have g:=u25.trans u11;calc L2.aX h1 ?_;left;refine rgt g (Vb.same (s6.trans g)) PQ uQ λl d=>⟨_,rfl,?_⟩
  rw[if_pos rfl];calc rgt (g.trans d) (h.same d) i k λl _=>q l
end
end IV
namespace IV
open PySem L2 DD
variable {p0 p1:Str}
def FnAt(K:W.Frag)(f:Addr)(x q:Str)(a:Stmt):Prop:=∃c d e g kV h i b ct,K.lookup f=some ⟨g,c,.func (W.fnOf x q (eL a) (dw a) (az a) .none kV h i d b ct),e⟩/\W.codeIn K b q=true/\W.keepIn K (.ref f)=true
def DF(K:W.Frag)(x:Str)(a:Stmt):Prop:=∃f,W.nsIn K mainGlobals x=some (some (.ref f))/\FnAt K f x x a
def MF(K:W.Frag)(C:Addr)(m q:Str)(a:Stmt):Prop:=∃f,W.findIn K (.ref C) m=some (some (.ref f))/\W.isFn K (.ref f)=true/\FnAt K f m q a
def PR(x q:Str)(a:Stmt)(c:List Str):Prop:=∀(kV b d:Value) (e:Option Addr) (f ct:Value) (us:List Value),us.length=c.length->bindArgs (W.fnOf x q (eL a) (dw a) (az a) .none kV b d e f ct) ⟨us,[]⟩=pure (c.zip us)
section
variable {K:W.Frag}{h:Heap}{mg:Str->Option Value}{x m q:Str}{C f:Addr}{st:Stmt}{ps:List Str}{od an:Option Addr}{sl:Array (Option Value)}{oc kV dc pm cd ct:Value}
theorem PU(a:W.nsIn K mainGlobals x=some (some (.ref f)))(l:K.lookup f=some ⟨oc,od,.func (W.fnOf x x (eL st) (dw st) (az st) .none kV dc pm an cd ct),sl⟩)(c:W.codeIn K cd x=true)(k:W.keepIn K (.ref f)=true):DF K x st:=⟨f,a,_,_,_,_,_,_,_,_,_,l,c,k⟩
theorem PV(a:W.findIn K (.ref C) m=some (some (.ref f)))(i:W.isFn K (.ref f)=true)(l:K.lookup f=some ⟨oc,od,.func (W.fnOf m q (eL st) (dw st) (az st) .none kV dc pm an cd ct),sl⟩)(c:W.codeIn K cd q=true)(k:W.keepIn K (.ref f)=true):MF K C m q st:=⟨f,a,i,_,_,_,_,_,_,_,_,_,l,c,k⟩
theorem aT(X:K.In h)(G:h.Ns mainGlobals mg)(d:DF K x st)(b:PR x x st ps):cK K mg x x st ps:=by
 obtain⟨f,a,_,_,_,_,_,_,_,_,_,l,c,k⟩:=d;calc⟨_,_,nR l c k,W.mg_of X G a,(nR l c k).binds b⟩
theorem cE(d:MF K C m q st)(b:PR m q st ps):il K C m q st ps:=by
 obtain⟨f,a,i,_,_,_,_,_,_,_,_,_,l,c,k⟩:=d;calc⟨_,_,⟨a,i,k⟩,nR l c k,(nR l c k).binds b⟩
theorem yt(X:K.In h)(G:h.Ns mainGlobals mg)(e:W.makesIn K C=true)(g:W.keepIn K (.ref C)=true)(d:MF K C "__init__" q st)(j:W.nsIn K mainGlobals x=some (some (.ref C)))(b:PR "__init__" q st ps):E5 K mg x C q st ps:=by
 obtain⟨f,a,i,_,_,_,_,_,_,_,_,_,l,c,k⟩:=d;calc⟨⟨_,_,⟨e,a,i,g⟩,nR l c k,(nR l c k).binds b⟩,W.mg_of X G j⟩
theorem oH{us:List Value}{n:Nat}(h:us.length=n+1):∃x r,us=x::r/\r.length=n:=by
 cases us with
 |nil=>cases h
 |cons x r=>calc⟨x,r,rfl,Nat.succ.inj h⟩
theorem lE(e:∀(kV a pm:Value) (an:Option Addr) (c ct b:Value),bindArgs (W.fnOf x q (eL st) (dw st) (az st) .none kV a pm an c ct) ⟨[b],[]⟩=pure ([p0].zip [b]):=by intros;rfl):PR x q st [p0]:=λkV a pm an c ct g d=>by
 obtain⟨b,h,rfl,f⟩:=oH d
 cases List.length_eq_zero_iff.mp f;calc e ..
theorem gg(e:∀(kV a pm:Value) (an:Option Addr) (d ct b c:Value),bindArgs (W.fnOf x q (eL st) (dw st) (az st) .none kV a pm an d ct) ⟨[b,c],[]⟩=pure ([p0,p1].zip [b,c]):=by intros;rfl):PR x q st [p0,p1]:=λkV a pm an d ct i f=>by
 obtain⟨b,j,rfl,g⟩:=oH f;obtain⟨c,k,rfl,h⟩:=oH g
 cases List.length_eq_zero_iff.mp h;calc e ..
theorem pX{f:Str}(e:∀(kV a pm:Value) (an:Option Addr) (g ct b c d:Value),bindArgs (W.fnOf x q (eL st) (dw st) (az st) .none kV a pm an g ct) ⟨[b,c,d],[]⟩=pure ([p0,p1,f].zip [b,c,d]):=by intros;rfl):PR x q st [p0,p1,f]:=λkV a pm an g ct f h=>by
 obtain⟨b,l,rfl,i⟩:=oH h;obtain⟨c,m,rfl,j⟩:=oH i;obtain⟨d,n,rfl,k⟩:=oH j
 cases List.length_eq_zero_iff.mp k;calc e ..
theorem uM{g h:Str}(e:∀(kV a pm:Value) (an:Option Addr) (i ct b c d f:Value),bindArgs (W.fnOf x q (eL st) (dw st) (az st) .none kV a pm an i ct) ⟨[b,c,d,f],[]⟩=pure ([p0,p1,g,h].zip [b,c,d,f]):=by intros;rfl):PR x q st [p0,p1,g,h]:=λkV a pm an i ct g j=>by
 obtain⟨b,o,rfl,k⟩:=oH j;obtain⟨c,p,rfl,l⟩:=oH k;obtain⟨d,r,rfl,m⟩:=oH l;obtain⟨f,s,rfl,n⟩:=oH m
 cases List.length_eq_zero_iff.mp n;calc e ..
theorem T4{h i j:Str}(e:∀(kV a pm:Value) (an:Option Addr) (k ct b c d f g:Value),bindArgs (W.fnOf x q (eL st) (dw st) (az st) .none kV a pm an k ct) ⟨[b,c,d,f,g],[]⟩=pure ([p0,p1,h,i,j].zip [b,c,d,f,g]):=by intros;rfl):PR x q st [p0,p1,h,i,j]:=λkV a pm an k ct h l=>by
 obtain⟨b,s,rfl,m⟩:=oH l;obtain⟨c,t,rfl,n⟩:=oH m;obtain⟨d,u,rfl,o⟩:=oH n;obtain⟨f,v,rfl,p⟩:=oH o;obtain⟨g,w,rfl,r⟩:=oH p
 cases List.length_eq_zero_iff.mp r;calc e ..
end
theorem all_mk{l:W.OpenLaw}{w:World}{K:W.Frag}{h:Heap}{o:Str->Option Value}{fa C a CR F:Addr}(X:K.In h)(G:h.Ns mainGlobals o)(S:o "law"=some (.ref fa))
  (pY:W.nsIn K mainGlobals "Machine"=some (some (.ref C))) (Oi:W.nsIn K mainGlobals "Net"=some (some (.ref a))) (Oj:W.nsIn K mainGlobals "Run"=some (some (.ref CR))) (uN:DF K "_law_at" ue) (mG:DF K "_law_digit" lY) (mH:DF K "_law_value" mw) (oJ:DF K "_law_deed" oA) (jM:DF K "_law_machine" jE) (qV:DF K "_law_pot" qo) (qW:DF K "_law_net" qN) (qX:DF K "form_of" qr) (oK:DF K "is_whole" nZ) (mI:DF K "is_within" lX) (oM:DF K "is_value" oe) (qY:DF K "is_part" qt) (qZ:DF K "is_deed" qu) (iW:DF K "refuse_deeds" iK) (q8:DF K "is_list" qp) (jN:DF K "are_counted" jk) (gC:DF K "refuse_machine" gp) (q9:MF K C "__init__" "Machine.__init__" qA) (mJ:DF K "is_letter" lZ) (uO:DF K "is_way" uj) (kP:DF K "refuse_net" ku) (KY:MF K a "__init__" "Net.__init__" Jm) (iX:DF K "_law_net_made" iU) (mK:DF K "_law_begun" mD) (mL:DF K "_law_worth" my) (kQ:DF K "_law_worked" kE) (oN:DF K "_law_pick" oE) (kR:DF K "_law_played" kI) (kS:DF K "_law_points" kJ) (mM:DF K "_law_lying" mB) (oO:DF K "_law_free" oC) (rf:DF K "_law_ran" qQ) (jO:DF K "_law_orphans" jH) (mN:DF K "_law_plain" mE) (kT:DF K "_law_fallen" kK) (kU:DF K "_law_latest" kH) (iY:MF K CR "schedule" "Run.schedule" iR) (iZ:MF K CR "need_way" "Run.need_way" iP) (fZ:MF K CR "need_letter" "Run.need_letter" fX) (jP:MF K CR "sent_by" "Run.sent_by" jz) (hJ:MF K CR "worked_by" "Run.worked_by" gY) (gD:DF K "letters_passed" gy) (mO:DF K "is_rising" mn) (kW:DF K "are_counts" kC) (i3:MF K a "machines" "Net.machines" iM) (fE:MF K CR "need_machine" "Run.need_machine" fC) (mP:MF K CR "count" "Run.count" me) (rg:MF K CR "net" "Run.net" qH) (jQ:DF K "need_points" jD) (mQ:DF K "is_inside" mj) (hV:DF K "orphans_among" g9) (jR:DF K "point_ahead" jC) (jS:DF K "latest_line" jI) (mR:DF K "_law_right" mF) (gE:DF K "change_numbers" gr) (kX:DF K "change_row" ky) (oP:DF K "left_out" om) (mS:DF K "values_of" l8) (jT:DF K "plain_worth" jq) (oQ:DF K "worth_of" oj) (gF:MF K C "worked" "Machine.worked" gs) (oR:MF K a "ways" "Net.ways" oh) (jU:MF K a "ways_at" "Net.ways_at" jv) (jV:MF K a "ways_in" "Net.ways_in" jw) (i4:MF K a "ways_out" "Net.ways_out" iO) (hX:MF K CR "need_pick" "Run.need_pick" gW) (gG:MF K CR "put_letter" "Run.put_letter" gv) (mT:MF K CR "state" "Run.state" ma) (jW:MF K CR "pick_at" "Run.pick_at" jx) (eJ:MF K C "first_state" "Machine.first_state" eG) (jX:MF K a "letters" "Net.letters" jo) (KZ:MF K CR "__init__" "Run.__init__" JJ) (kY:DF K "played_run" kG) (oS:MF K CR "pick" "Run.pick" oy) (K0:DF K "law" wL) (rj:W.plainGet K C Str.empty=true) (rm:W.hasDictIn K C=true) (rq:W.plainOver K C=true) (rz:W.findIn K (.ref C) "__setattr__"=some (some (.builtin "object.__setattr__"))) (rA:W.makesIn K C=true) (rB:W.keepIn K (.ref C)=true) (Fl:W.findIn K (.ref C) "__class__"=some (some (.builtin "object.__class__"))) (Fm:W.mroIn K C (.type "object")=some true) (OW:W.findIn K (.ref C) "own_modulus"=some none) (RK:W.findIn K (.ref C) "own_state"=some none) (OX:W.findIn K (.ref C) "own_deeds"=some none) (K1:W.plainGet K a Str.empty=true) (K2:W.hasDictIn K a=true) (K3:W.plainOver K a=true) (K4:W.findIn K (.ref a) "__setattr__"=some (some (.builtin "object.__setattr__"))) (K5:W.makesIn K a=true) (K6:W.keepIn K (.ref a)=true) (IX:W.findIn K (.ref a) "__class__"=some (some (.builtin "object.__class__"))) (IY:W.mroIn K a (.type "object")=some true) (zx:W.findIn K (.ref a) "own_machines"=some none) (zy:W.findIn K (.ref a) "own_ways"=some none) (BO:W.findIn K (.ref a) "own_letters"=some none) (K7:W.plainGet K CR Str.empty=true) (K8:W.hasDictIn K CR=true) (K9:W.plainOver K CR=true) (La:W.findIn K (.ref CR) "__setattr__"=some (some (.builtin "object.__setattr__"))) (Lb:W.makesIn K CR=true) (Lc:W.keepIn K (.ref CR)=true) (IZ:W.findIn K (.ref CR) "__class__"=some (some (.builtin "object.__class__"))) (Ja:W.mroIn K CR (.type "object")=some true) (cQ:W.findIn K (.ref CR) "own_net"=some none) (cX:W.findIn K (.ref CR) "picks_done"=some none) (bY:W.findIn K (.ref CR) "states_had"=some none) (d7:W.findIn K (.ref CR) "words_had"=some none) (cY:W.findIn K (.ref CR) "words_said"=some none) (bZ:W.findIn K (.ref CR) "letters_say"=some none) (eV:W.findIn K (.ref CR) "senders"=some none) (di:W.findIn K (.ref CR) "workers"=some none) (Fn:W.specialIn K (.builtin "object.__class__") "__get__"=some (some (.builtin "getset_descriptor.__get__"))) (we:W.takesIn K (.builtin "object.__class__")=some true)
  (kZ:W.nsIn K mainGlobals "isinstance"=some none) (Ld:W.nsIn K mainGlobals "int"=some none) (Co:W.nsIn K mainGlobals "bool"=some none) (Le:W.nsIn K mainGlobals "str"=some none) (yu:W.nsIn K mainGlobals "tuple"=some none) (Cp:W.nsIn K mainGlobals "list"=some none) (Lf:W.nsIn K mainGlobals "len"=some none) (yw:W.nsIn K mainGlobals "range"=some none) (Lg:W.nsIn K mainGlobals "min"=some none) (Lh:W.nsIn K mainGlobals "max"=some none) (Li:W.nsIn K mainGlobals "all"=some none) (Lj:W.nsIn K mainGlobals "any"=some none) (Lk:W.nsIn K mainGlobals "zip"=some none) (mU:W.nsIn K mainGlobals "enumerate"=some none) (k6:W.nsIn K mainGlobals "ValueError"=some none) (uP:W.nsIn K mainGlobals "sorted"=some none) {p:Tok} (dY:W.nsIn K mainGlobals "MOST_DEEDS"=some (some (.int 24 p))) {q:Tok} (dM:W.nsIn K mainGlobals "MOST_MODULUS"=some (some (.int 1000000000000 q))) {r:Tok} (dN:W.nsIn K mainGlobals "MOST_NUMBERS"=some (some (.int 4 r))) {t:Tok} (fB:W.nsIn K mainGlobals "MOST_ROW"=some (some (.int 12 t))) {u:Tok} (dB:W.nsIn K mainGlobals "MOST_MACHINES"=some (some (.int 5 u))) {x:Tok} (fG:W.nsIn K mainGlobals "MOST_WAYS"=some (some (.int 10 x))) {y:Tok} (dO:W.nsIn K mainGlobals "MOST_LETTERS"=some (some (.int 20 y))) {z:Tok} (dZ:W.nsIn K mainGlobals "SAID_BOUND"=some (some (.int 1000000000000000000000000000000000000000000000000000000000000 z)))
  {p q r t u x y z:Int} {B I J L M N O R:Tok} {b c g i j k m n:Addr} {U:Nat}
  (aF:W.nsIn K mainGlobals "FORMS"=some (some (.ref F))) (lF:K.lookup F=some {cls:=.type "dict",dict:=none,data:=.dict #[⟨p,.str "set" B,.ref b⟩,⟨q,.str "add" I,.ref c⟩,⟨r,.str "times" J,.ref g⟩,⟨t,.str "put" L,.ref i⟩,⟨u,.str "drop" M,.ref j⟩,⟨x,.str "send" N,.ref k⟩,⟨y,.str "say" O,.ref m⟩,⟨z,.str "skip" R,.ref n⟩] U,slots:=#[]}) (U:(F==sysModules)=false) {PX PY:Tok} {Y:Option Addr} {Z:Nat} {fs0:Array (Option Value)} (lP0:K.lookup b=some ⟨.type "tuple",Y,.seq #[.str "number" PX,.str "value" PY] Z,fs0⟩) {PZ P0:Tok} {fo1:Option Addr} {fn1:Nat} {fs1:Array (Option Value)} (lP1:K.lookup c=some ⟨.type "tuple",fo1,.seq #[.str "number" PZ,.str "value" P0] fn1,fs1⟩) {Qa Qb:Tok} {fo2:Option Addr} {fn2:Nat} {fs2:Array (Option Value)} (lP2:K.lookup g=some ⟨.type "tuple",fo2,.seq #[.str "number" Qa,.str "value" Qb] fn2,fs2⟩) {Qc:Tok} {fo3:Option Addr} {fn3:Nat} {fs3:Array (Option Value)} (lP3:K.lookup i=some ⟨.type "tuple",fo3,.seq #[.str "value" Qc] fn3,fs3⟩) {fo4:Option Addr} {fn4:Nat} {fs4:Array (Option Value)} (lP4:K.lookup j=some ⟨.type "tuple",fo4,.seq #[] fn4,fs4⟩) {Qd Qe:Tok} {fo5:Option Addr} {fn5:Nat} {fs5:Array (Option Value)} (lP5:K.lookup k=some ⟨.type "tuple",fo5,.seq #[.str "way" Qd,.str "value" Qe] fn5,fs5⟩) {Qf:Tok} {fo6:Option Addr} {fn6:Nat} {fs6:Array (Option Value)} (lP6:K.lookup m=some ⟨.type "tuple",fo6,.seq #[.str "value" Qf] fn6,fs6⟩) {Qg Qh Qi:Tok} {fo7:Option Addr} {fn7:Nat} {fs7:Array (Option Value)} (lP7:K.lookup n=some ⟨.type "tuple",fo7,.seq #[.str "value" Qg,.str "value" Qh,.str "many" Qi] fn7,fs7⟩)
  :∃Y:FuncData,(∀(s:Shared) (v:Value),BindsTo s Y ⟨[v],[]⟩ [("_law_script",v)])/\∀base:Heap,K.In base->base.Ns mainGlobals o->nr l.prog w K o base EV 10 fa Y ["_law_script"] (yr K):=by
 have Y:PyProof.Rows.KTD.Rows RelV (#[⟨p,.str "set" B,.ref b⟩,⟨q,.str "add" I,.ref c⟩,⟨r,.str "times" J,.ref g⟩,⟨t,.str "put" L,.ref i⟩,⟨u,.str "drop" M,.ref j⟩,⟨x,.str "send" N,.ref k⟩,⟨y,.str "say" O,.ref m⟩,⟨z,.str "skip" R,.ref n⟩]:Array DictEntry).toList ([("set",V.ref b),("add",V.ref c),("times",V.ref g),("put",V.ref i),("drop",V.ref j),("send",V.ref k),("say",V.ref m),("skip",V.ref n)]:List (Str×V)):=.cons rfl rfl (.cons rfl rfl (.cons rfl rfl (.cons rfl rfl (.cons rfl rfl (.cons rfl rfl (.cons rfl rfl (.cons rfl rfl (.nil))))))));have T:Tx K o C a CR F ([("set",V.ref b),("add",V.ref c),("times",V.ref g),("put",V.ref i),("drop",V.ref j),("send",V.ref k),("say",V.ref m),("skip",V.ref n)]:List (Str×V)):={
  a0:=aad X G kZ
  zw:=aad X G Ld
  BN:=aad X G Co
  Dn:=aad X G Le
  bP:=aad X G yu
  dF:=aad X G Cp
  bR:=aad X G Lf
  dX:=aad X G yw
  Wz:=aad X G Lg
  IW:=aad X G Lh
  lV:=aad X G Li
  WA:=aad X G Lj
  Dp:=aad X G Lk
  cW:=aad X G mU
  xI:=aad X G k6
  ud:=aad X G uP
  dY:=⟨_,W.mg_of X G dY⟩
  dM:=⟨_,W.mg_of X G dM⟩
  dN:=⟨_,W.mg_of X G dN⟩
  fB:=⟨_,W.mg_of X G fB⟩
  dB:=⟨_,W.mg_of X G dB⟩
  fG:=⟨_,W.mg_of X G fG⟩
  dO:=⟨_,W.mg_of X G dO⟩
  dZ:=⟨_,W.mg_of X G dZ⟩
  cP:=⟨rj,rm,rq,rz⟩
  wd:=W.mg_of X G pY
  Fl:=Fl
  Fm:=Fm
  OW:=OW
  RK:=RK
  OX:=OX
  cU:=⟨K1,K2,K3,K4⟩
  WB:=W.mg_of X G Oi
  IX:=IX
  IY:=IY
  zx:=zx
  zy:=zy
  BO:=BO
  ba:=⟨K7,K8,K9,La⟩
  WC:=W.mg_of X G Oj
  IZ:=IZ
  Ja:=Ja
  cQ:=cQ
  cX:=cX
  bY:=bY
  d7:=d7
  cY:=cY
  bZ:=bZ
  eV:=eV
  di:=di
  Fn:=Fn
  we:=we
  i_k:=by unfold W.kitOne;rw[if_pos nofun]
  Dq:=W.mg_of X G aF
  Dr:=⟨⟨_,_,_,lF,⟨rfl,rfl,rfl⟩,rfl,Y⟩,U⟩
  OY:=λd=>by
   cases d with
   |set _ _=>calc⟨b,by kernel_rfl,λH=>.inr ⟨_,_,_,lP0,rfl,rfl,by show 2<=sizeLine;decide,(.cons ⟨PX,rfl⟩ (.cons ⟨PY,rfl⟩ .nil))⟩⟩
   |add _ _=>calc⟨c,by kernel_rfl,λH=>.inr ⟨_,_,_,lP1,rfl,rfl,by show 2<=sizeLine;decide,(.cons ⟨PZ,rfl⟩ (.cons ⟨P0,rfl⟩ .nil))⟩⟩
   |times _ _=>calc⟨g,by kernel_rfl,λH=>.inr ⟨_,_,_,lP2,rfl,rfl,by show 2<=sizeLine;decide,(.cons ⟨Qa,rfl⟩ (.cons ⟨Qb,rfl⟩ .nil))⟩⟩
   |put _=>calc⟨i,by kernel_rfl,λH=>.inr ⟨_,_,_,lP3,rfl,rfl,by show 1<=sizeLine;decide,(.cons ⟨Qc,rfl⟩ .nil)⟩⟩
   |drop=>calc⟨j,by kernel_rfl,λH=>.inr ⟨_,_,_,lP4,rfl,rfl,by show 0<=sizeLine;decide,.nil⟩⟩
   |send _ _=>calc⟨k,by kernel_rfl,λH=>.inr ⟨_,_,_,lP5,rfl,rfl,by show 2<=sizeLine;decide,(.cons ⟨Qd,rfl⟩ (.cons ⟨Qe,rfl⟩ .nil))⟩⟩
   |say _=>calc⟨m,by kernel_rfl,λH=>.inr ⟨_,_,_,lP6,rfl,rfl,by show 1<=sizeLine;decide,(.cons ⟨Qf,rfl⟩ .nil)⟩⟩
   |skip _ _ _=>exact⟨n,by kernel_rfl,λH=>.inr ⟨_,_,_,lP7,rfl,rfl,by show 3<=sizeLine;decide,(.cons ⟨Qg,rfl⟩ (.cons ⟨Qh,rfl⟩ (.cons ⟨Qi,rfl⟩ .nil)))⟩⟩
 }
 obtain⟨f,a,b,an,c,d,kV,dc,pm,cd,ct,ll,lc,lk⟩:=K0;have e:=S.symm.trans (W.mg_of X G a)
 cases e;refine⟨W.fnOf "law" "law" (eL wL) (dw wL) (az wL) .none kV dc pm an cd ct,λs v=>.of_eq rfl,λbase _ _=>?_⟩;have g:=Jd (P:=l.prog) (w:=w) (base:=base) (aT X G uN gg) T;have b:=zC (P:=l.prog) (w:=w) (base:=base) (aT X G mG gg) T;have a:=Ah (aT X G mH gg) T b;have c:=Ci (aT X G oJ gg) T b a;have d:=vz (aT X G jM lE) T c b;have i:=Fo (P:=l.prog) (w:=w) (base:=base) (aT X G qV lE) T;have o:=F0 (aT X G qW lE) T g b d i;have e:=Fq (P:=l.prog) (w:=w) (base:=base) (aT X G qX lE) T;have c:=BP (P:=l.prog) (w:=w) (base:=base) (aT X G oK lE) T;have a:=zA (aT X G mI pX) T c;have d:=BS (aT X G oM gg) T c a;have j:=Fs (aT X G qY pX) T d c a;have k:=Ft (aT X G qZ gg) T e j;have d:=uh (aT X G iW gg) T k;have c:=Fp (P:=l.prog) (w:=w) (base:=base) (aT X G q8 pX) T;have e:=ve (aT X G jN uM) T c a;have j:=qx (aT X G gC uM) T e a;have k:=Fv (yt X G rA rB q9 pY T4) T d j;have e:=zH (aT X G mJ gg) T a;have d:=Jj (aT X G uO gg) T a;have j:=xM (aT X G kP pX) T e c d;have m:=WQ (yt X G K5 K6 KY Oi uM) T j;have p:=uG (aT X G iX lE) T k m;have d:=Aq (P:=l.prog) (w:=w) (base:=base) (aT X G mK lE) T;have j:=Al (P:=l.prog) (w:=w) (base:=base) (aT X G mL T4) T;have k:=xW (aT X G kQ uM) T j;have e:=Cm (aT X G oN pX) T k;have q:=yj (aT X G kR gg) T d e;have r:=yl (aT X G kS pX) T b;have j:=An (P:=l.prog) (w:=w) (base:=base) (aT X G mM gg) T;have k:=Ck (aT X G oO lE) T j;have t:=F6 (aT X G rf gg) T d k e;have b:=vA (P:=l.prog) (w:=w) (base:=base) (aT X G jO gg) T;have j:=Aw (P:=l.prog) (w:=w) (base:=base) (aT X G mN lE) T;have u:=yo (aT X G kT pX) T b j;have v:=yi (aT X G kU gg) T b;have k:=uz (P:=l.prog) (w:=w) (base:=base) (cE iY lE) T;have e:=uy (cE iZ pX) T a;have d:=pN (cE fZ uM) T a e;have n:=vo (cE jP pX) T d;have m:=rX (cE hJ pX) T d;have x:=qK (aT X G gD lE) T k n m;have y:=Ae (P:=l.prog) (w:=w) (base:=base) (aT X G mO lE) T;have z:=xU (aT X G kW gg) T c y a;have e:=um (P:=l.prog) (w:=w) (base:=base) (cE i3 lE) T;have n:=ou (cE fE gg) T a;have y:=zW (cE mP gg) T n;have B:=FC (P:=l.prog) (w:=w) (base:=base) (cE rg lE) T;have C:=vt (aT X G jQ gg) T z c e y B;have F:=Ab (P:=l.prog) (w:=w) (base:=base) (aT X G mQ gg) T;have c:=rZ (aT X G hV gg) T F;have y:=vq (P:=l.prog) (w:=w) (base:=base) (aT X G jR gg) T;have z:=vB (aT X G jS gg) T x C c y m;have B:=Az (aT X G mR pX) T u v b j z k;have c:=qC (P:=l.prog) (w:=w) (base:=base) (aT X G gE uM) T;have j:=xO (P:=l.prog) (w:=w) (base:=base) (aT X G kX pX) T;have k:=B2 (P:=l.prog) (w:=w) (base:=base) (aT X G oP gg) T;have m:=zN (P:=l.prog) (w:=w) (base:=base) (aT X G mS lE) T;have b:=vg (P:=l.prog) (w:=w) (base:=base) (aT X G jT uM) T;have u:=B0 (aT X G oQ T4) T b;have v:=qD (cE gF uM) T c j k m u;have b:=BZ (P:=l.prog) (w:=w) (base:=base) (cE oR lE) T;have c:=vj (cE jU pX) T a;have j:=vk (cE jV gg) T c;have k:=uu (cE i4 gg) T c;have m:=rW (cE hX uM) T b d;have a:=qG (P:=l.prog) (w:=w) (base:=base) (cE gG uM) T;have d:=zV (cE mT gg) T n;have c:=vm (cE jW uM) T v e b j k m a d;have n:=lC (P:=l.prog) (w:=w) (base:=base) (cE eJ lE) T;have d:=vf (P:=l.prog) (w:=w) (base:=base) (cE jX lE) T;have j:=Xu (yt X G Lb Lc KZ Oj gg) T n d e b a;have k:=yb (aT X G kY gg) T c j;have a:=Cb (cE oS pX) T c;exact TQ (nR ll lc lk) T g o p q r i t B k a
theorem walk{l:W.OpenLaw}{q:Program}{a:List Str}{g:(Str->Option Value)->Heap->Prop}{c:World->Heap->Prop}{d:DefRec}{K:Params->W.Frag}(i:l.most=some 63)(j:d.params.defaults=[])
  (m:∀(w:World) (h:Heap),c w h->(K w.params).In h)
  (F:∀(w:World) (b:Str->Option Value) (e:Addr) (h:Heap),(K w.params).In h->h.Ns mainGlobals b->b d.name=some (.ref e)->
   ∃f:FuncData,(∀(s:Shared) (u:Value),BindsTo s f ⟨[u],[]⟩ [("_law_script",u)])/\∀base:Heap,(K w.params).In base->base.Ns mainGlobals b->nr l.prog w (K w.params) b base EV 10 e f ["_law_script"] (yr (K w.params))):
  W.WalkO q a g c l.row.toRowW d [] (λf vs=>PySem.call f vs):=
 L2.Mx (n:=63) (k:=10) (x:="_law_script") (CX:=λ_=>EV) (sp:=λw=>yr (K w.params)) i ∅ j ⟨rfl,∅,∅⟩ m F (λ_ _ a b c _ d=>⟨a,b,rfl,d,c,λ_=>rfl⟩) λ_ _ _ _ _ z=>z
end IV
end
namespace PySem.W.Fast
def tw4054998185832450795:=Nat
def tw5491455289557122612:=Nat
def tw8950780460831667911:=Nat
def tw8033478394505509464:=Nat
def tw845115136743516449:=Nat
def tw3527694532164354425:=Nat
def tw8291545168296643402:=Nat
def tw16824370460993788439:=Nat
def tw11710702092797843760:=Nat
def tw6914273203606499441:=Nat
def tw609238547871719987:=Nat
def tw16066030197591123475:=Nat
def tw10998910230798095963:=Nat
def tw17771303311306088964:=Nat
def tw7284200766526350649:=Nat
def tw6597710424913393697:=Nat
def tw10432140867176488132:=Nat
def tw3545903560689641430:=Nat
def tw2416019605202142704:=Nat
def tw5417689289428546482:=Nat
def tw9357650922208018983:=Nat
def tw10675781914259154341:=Nat
def tw15763985020847136680:=Nat
def tw4608087546986040274:=Nat
def tw3143144010886204958:=Nat
def tw4190080191231214644:=Nat
def tw2628784047765786044:=Nat
def tw7230325248227917646:=Nat
def tw12740231454822866264:=Nat
def tw14531578744002399545:=Nat
def tw15550088512042259994:=Nat
def tw15044747479432719535:=Nat
def tw11044504812294143036:=Nat
def tw756071758369668500:=Nat
def tw4004976955989959151:=Nat
def tw9244892647096971621:=Nat
def tw11398895592967707831:=Nat
def tw1833774899923459968:=Nat
def tw9958428006783918524:=Nat
def tw12376415828563147789:=Nat
def tw16154866467505149880:=Nat
def tw3365347176381710266:=Nat
def tw15347704762708744973:=Nat
def tw1518314547557171006:=Nat
def tw1529882696182879154:=Nat
def tw14991733698302613256:=Nat
def tw17752633103461175817:=Nat
def tw7452250467376472118:=Nat
def tw8272498430587776659:=Nat
def tw3730578951979440107:=Nat
def tw8829396864720019630:=Nat
def tw11778624159673098522:=Nat
def tw2380254599914880258:=Nat
def tw2537198145392446993:=Nat
def tw4669086691137249634:=Nat
def tw2138683404279845739:=Nat
def tw1267073487018274932:=Nat
def tw6614485937011036175:=Nat
def tw5766206800399499573:=Nat
def tw18303344739313229039:=Nat
def tw8835012866550526524:=Nat
def tw18230943143190258830:=Nat
def tw396188480717192650:=Nat
def tw10380868195314922124:=Nat
def tw5505679611490972329:=Nat
def tw16104432720897242059:=Nat
def tw1896329779160785142:=Nat
def tw17157209100775705231:=Nat
def tw2249881002897011421:=Nat
def tw13949396203562502371:=Nat
def tw355748917416096442:=Nat
def tw7332507580085681869:=Nat
def tw12421879348828233096:=Nat
def tw6808338575654653705:=Nat
def tw5214998790080111830:=Nat
def tw14134598138583180525:=Nat
def tw8522349737379066915:=Nat
def tw15492018779224049815:=Nat
def tw8289267123919748155:=Nat
def tw9370344607297897832:=Nat
def tw12225725055667578017:=Nat
def tw16579564780702806616:=Nat
def tw16896497515552710187:=Nat
def tw6001276759217180899:=Nat
def tw3864307949531722031:=Nat
def tw17788284110473427319:=Nat
def tw13935747435301653502:=Nat
def tw8754483774868504330:=Nat
def tw16088237575403812648:=Nat
def tw6012705542131693168:=Nat
def tw9831544065318106391:=Nat
def tw8511731085344006043:=Nat
def tw8437135677793138490:=Nat
def tw3316903601574943770:=Nat
def tw2171651246958582640:=Nat
def tw10206287461134742594:=Nat
def tw17615778707543360531:=Nat
def tw7884258524464982656:=Nat
def tw77224931505876981:=Nat
def tw17067365633721720469:=Nat
def tw7108989226005088975:=Nat
def tw16165876551983010198:=Nat
def tw6073201405668963131:=Nat
def tw9801151085824649482:=Nat
def tw16529290679829642826:=Nat
def tw14278375918762227152:=Nat
def tw11635836298779485083:=Nat
def tw15170225323160768534:=Nat
def tw7921050045869762357:=Nat
def tw2433616224911694529:=Nat
def tw10781403350343131576:=Nat
def tw5412091499225850978:=Nat
def tw1359550034934611765:=Nat
def tw4647081004013648647:=Nat
def tw5278827722565849872:=Nat
def tw3176363407984027632:=Nat
def tw8685303033183307640:=Nat
def tw14371690012332335794:=Nat
def tw14214390596780602212:=Nat
def tw2827013925760426432:=Nat
def tw592190431607316811:=Nat
def tw2152201126122739757:=Nat
def tw10625739574330735162:=Nat
def tw8293703068671593293:=Nat
def tw4095592717604317511:=Nat
def tw4410808757911599234:=Nat
def tw13851448568517831407:=Nat
def tw2375364546965281782:=Nat
def tw16634367725687475041:=Nat
def tw6334951517243803583:=Nat
def tw4116483482766689678:=Nat
def tw5650355168340937828:=Nat
def tw4989158993113463238:=Nat
def tw17020469214091960110:=Nat
def tw4318223116808642506:=Nat
def tw9259722215824637904:=Nat
def tw8166965780218070361:=Nat
def tw3711080008035079216:=Nat
def tw10209319181064139603:=Nat
def tw9458660294511299591:=Nat
def tw5771440252117326623:=Nat
def tw13276494678315324904:=Nat
def tw9738601455135066537:=Nat
def tw5324526619186557648:=Nat
def tw11505569837828073960:=Nat
def tw3551357478276318980:=Nat
def tw4941122365575535061:=Nat
def tw8952281838522661321:=Nat
def tw11109676625889796896:=Nat
def tw8725857379558991694:=Nat
def tw17739052823251492295:=Nat
def tw11680661761985760038:=Nat
def tw8656146251376111935:=Nat
def tw9730099562249588893:=Nat
def tw7069814244432225163:=Nat
def tw12286700183751106552:=Nat
def tw4315493118138783908:=Nat
def tw4036424781385692585:=Nat
def tw11297922198711107316:=Nat
def tw11258207346014973841:=Nat
def tw13299178913426648147:=Nat
def tw6425680746329057257:=Nat
def tw6037217417855209673:=Nat
def tw18189453006516324937:=Nat
def tw1248385047364518068:=Nat
def tw1726577723739210248:=Nat
def tw13906160602528538284:=Nat
def tw532492494144615600:=Nat
def tw4341765742506400954:=Nat
def tw9849174073041218352:=Nat
def tw8350345120042419304:=Nat
def tw2933109769290294846:=Nat
def tw3086964830795289593:=Nat
def tw14049202105959147467:=Nat
def tw10894607156215412221:=Nat
def tw17544111521766926508:=Nat
def tw15224026984850114757:=Nat
def tw15244137634183927827:=Nat
def tw14306289992167097920:=Nat
def tw3835634958206014555:=Nat
def tw8762652924189491391:=Nat
def tw13978648493759226286:=Nat
def tw8472057563728063752:=Nat
def tw6932376079874120145:=Nat
def tw11359881475965443640:=Nat
def tw16850360124870995366:=Nat
def tw14462961965364898706:=Nat
def tw9086280882529171955:=Nat
def tw16231659701403932683:=Nat
def tw16850837631459673903:=Nat
def tw11311945164870011454:=Nat
def tw12102665962158777230:=Nat
def tw10397798595146442391:=Nat
def tw2087622759463520654:=Nat
def tw14309483371439909250:=Nat
def tw13245656376857746612:=Nat
def tw1733732176684507587:=Nat
def tw7995449406261641904:=Nat
def tw2857813633870477352:=Nat
def tw12481305376362645604:=Nat
def tw3666486524075495717:=Nat
def tw16645536687308677041:=Nat
def tw9338803259378875987:=Nat
def tw7462937943151371582:=Nat
def tw3789709785030592815:=Nat
def tw12120570754743788665:=Nat
def tw8317769228177338751:=Nat
def tw3266993003072827906:=Nat
def tw6759916875919303715:=Nat
def tw13574781617427199490:=Nat
def tw11177315714451697282:=Nat
def tw4212325917016492822:=Nat
def tw5888364271919767579:=Nat
def tw8781615738669021183:=Nat
def tw8173543424604306643:=Nat
def tw14270247050175813630:=Nat
def tw2390602258349207604:=Nat
def tw69228401458844740:=Nat
def tw2116362478585087844:=Nat
def tw15483764642418079680:=Nat
def tw4757318343424109910:=Nat
def tw13052103189277243676:=Nat
def tw510388068420386753:=Nat
def tw8366777322200333658:=Nat
def tw15681886182987405486:=Nat
def tw11005997314722971473:=Nat
def tw4783031159412150301:=Nat
def tw11218115872862313238:=Nat
def tw10420083644128928809:=Nat
def tw5983339572100152272:=Nat
def tw4767065575798258458:=Nat
def tw3801455987641311555:=Nat
def tw10849834182139007815:=Nat
def tw7114518033558365442:=Nat
def tw4608039106041317916:=Nat
def tw3836205313660158575:=Nat
def tw14115477062656539337:=Nat
def tw7549576787669351528:=Nat
def tw9824133147803024072:=Nat
def tw6900801280805261094:=Nat
def tw2668071527558645286:=Nat
def tw7763419802303486920:=Nat
def tw13242736018081824233:=Nat
def tw15938340806484198197:=Nat
def tw1062335454505072442:=Nat
def tw12415218982498932552:=Nat
def tw2084259717567006057:=Nat
def tw8219673771833704461:=Nat
def tw3602854551828715703:=Nat
def tw8834817440586164865:=Nat
def tw7604366054730863221:=Nat
def tw6598007194267245599:=Nat
def tw2267512159389634841:=Nat
def tw5079611228694053072:=Nat
def tw10397957365306908101:=Nat
def tw18056302414646293936:=Nat
def tw16426162048155531804:=Nat
def tw4586561966061177843:=Nat
def tw5195501936293790303:=Nat
def tw11104534652080314294:=Nat
def tw12322540952538245298:=Nat
def tw15139755638726850371:=Nat
def tw15001627661973168405:=Nat
def tw17185616790550024346:=Nat
def tw608453803106205152:=Nat
def tw2547628761290854382:=Nat
def tw1501130484721122990:=Nat
def tw12794211616552402620:=Nat
def tw3852794315214181635:=Nat
def tw4250584401826576181:=Nat
def tw14077686213238425316:=Nat
def tw7815581991734688283:=Nat
def tw4156066584613588556:=Nat
def tw13774390826226082833:=Nat
def tw8624630027161864879:=Nat
def tw12284114335238730449:=Nat
def tw12513271808373762262:=Nat
def tw2005150811856926975:=Nat
def tw8250658899345119351:=Nat
def tw10283616943008813042:=Nat
def tw6422631343691951605:=Nat
def tw16575022811415824747:=Nat
def tw18249000045065257313:=Nat
def tw10115837491250091532:=Nat
def tw1190322284674150858:=Nat
def tw3454865790415050517:=Nat
def tw12662447123248288012:=Nat
def tw3359179564605523450:=Nat
def tw11721862894515592350:=Nat
def tw15125408551149869976:=Nat
def tw12054216497841353766:=Nat
def tw1708859139804786069:=Nat
def tw8395110214098073949:=Nat
def tw9859727545245323657:=Nat
def tw306583566716373468:=Nat
def tw11176972943229013973:=Nat
def tw7661517292152396225:=Nat
def tw15519911902537536966:=Nat
def tw10865077281663843784:=Nat
def tw14167044760960287599:=Nat
def tw12273507796162301824:=Nat
def tw8013520950796532921:=Nat
def tw18357441581189975999:=Nat
def tw17328706751902871787:=Nat
def tw8624131774446153038:=Nat
def tw8434568839712019606:=Nat
def tw16840647377477069569:=Nat
def tw7547849964332601537:=Nat
def tw5450038741107477917:=Nat
def tw895891200643049014:=Nat
def tw17099084776389013692:=Nat
def tw17781613747914787412:=Nat
def tw534296229179954610:=Nat
def tw11918807555485585345:=Nat
def tw9872877532556894984:=Nat
def tw8342695960875751109:=Nat
def tw6143364781157502066:=Nat
def tw16975209096399699891:=Nat
def tw17661970944966946369:=Nat
def tw5452770252639212276:=Nat
def tw5313572348162332066:=Nat
def tw15860077103716877092:=Nat
def tw8835158365644057575:=Nat
def tw3084938434207208521:=Nat
def tw6114895701026094908:=Nat
def tw2961424939366899439:=Nat
def tw5957930660123753142:=Nat
def tw13260706788181352217:=Nat
def tw6301347576078610613:=Nat
def tw1927727546877098598:=Nat
def tw8895912683953468332:=Nat
def tw9031356789543271801:=Nat
def tw16975397244788100394:=Nat
def tw397415728522169161:=Nat
def tw17516723304686173922:=Nat
def tw1461819731123510836:=Nat
def tw3751359964667248066:=Nat
def tw2258828594463422793:=Nat
def tw10248772043962446451:=Nat
def tw5077754100640865668:=Nat
def tw860679826660284974:=Nat
def tw6046364900946121119:=Nat
def tw2850974640437515766:=Nat
def tw8556684968305272998:=Nat
def tw1226710600419572180:=Nat
def tw3362200123094056557:=Nat
def tw8462919789016266147:=Nat
def tw16847384715434188548:=Nat
def tw18222518548226853775:=Nat
def tw12954472491462953422:=Nat
def tw12154741834178630109:=Nat
def tw17060446445120265637:=Nat
def tw17306311791693555035:=Nat
def tw16135292222687548922:=Nat
def tw16111384410147720471:=Nat
def tw7486280929197924753:=Nat
def tw14139733736625321393:=Nat
def tw17259070886700416194:=Nat
def tw11000750873512082055:=Nat
def tw6559932421609174102:=Nat
def tw14924922494815725175:=Nat
def tw3230512581853667218:=Nat
def tw14181768428704345435:=Nat
def tw6687974251981908226:=Nat
def tw6013224304507586:=Nat
def tw702630517127496222:=Nat
def tw7834887219580690571:=Nat
def tw17578365054183156134:=Nat
def tw7614291831851538939:=Nat
def tw17679943482521447552:=Nat
def tw13281728882703967898:=Nat
def tw16722250390613871411:=Nat
def tw16495403784595942431:=Nat
def tw14041440318887448472:=Nat
def tw16767500380819856253:=Nat
def tw17584215690585908697:=Nat
def tw4491810710097547231:=Nat
def tw14971703878458462479:=Nat
def tw15682703215169773562:=Nat
def tw6786877107596706696:=Nat
def tw8025779800864289067:=Nat
def tw17462048691692844393:=Nat
def tw10846085296558398862:=Nat
def tw3587145301730209965:=Nat
def tw6895710355023677489:=Nat
def tw10415554169179566038:=Nat
def tw4133387564117309464:=Nat
def tw12649716135894628428:=Nat
def tw17208398380611961348:=Nat
def tw9911758837292910634:=Nat
def tw6724962731692401689:=Nat
def tw3997465424585832720:=Nat
def tw9455267486173443103:=Nat
def tw4252274226419510055:=Nat
def tw9525696434301650950:=Nat
def tw2658832284277615856:=Nat
def tw4308913903436014446:=Nat
def tw459657672848072793:=Nat
def tw2001228038502497285:=Nat
def tw12817023828650960469:=Nat
def tw404358674147963306:=Nat
def tw13895686293379505769:=Nat
def tw7108587278763847625:=Nat
def tw6489416180702398080:=Nat
def tw11824615171071173911:=Nat
def tw11315777601450451924:=Nat
def tw5742425516015966990:=Nat
def tw17032836233589739487:=Nat
def tw6337436041624265013:=Nat
def tw7509664871846618948:=Nat
def tw924592743244602953:=Nat
def tw11234445707471154800:=Nat
def tw1150541551970330040:=Nat
def tw14692719889686094227:=Nat
def tw1728475027356736175:=Nat
def tw4958162754177540116:=Nat
def tw11787482650105542859:=Nat
def tw3368704584414293485:=Nat
def tw15338581293352766050:=Nat
def tw8363948007266487339:=Nat
def tw15790873494853018801:=Nat
def tw14495937485144966843:=Nat
def tw11915057738838013131:=Nat
def tw5451574907829018094:=Nat
def tw3610483125837419251:=Nat
def tw1745282782389622094:=Nat
def tw3327776384866887567:=Nat
def tw9637713616557608945:=Nat
def tw14692686373171058515:=Nat
def tw11756636902630927573:=Nat
def tw14793978572776933698:=Nat
def tw5000476270638315630:=Nat
def tw10093112704058437259:=Nat
def tw15296114181329710969:=Nat
def tw16038383443869830637:=Nat
def tw7046895551295059892:=Nat
def tw10356510104027652228:=Nat
def tw12147101166500412359:=Nat
def tw15633871321616743001:=Nat
def tw5510657863146809899:=Nat
def tw8931235957357772220:=Nat
def tw7388976477975016576:=Nat
def tw17830461307371777349:=Nat
def tw53630172856959644:=Nat
def tw14351438180426978475:=Nat
def tw16103166961040077291:=Nat
def tw17026031391561726944:=Nat
def tw15890326415845191524:=Nat
def tw746241545677483670:=Nat
def tw4443743056573746803:=Nat
def tw8317057001272380654:=Nat
def tw11226401571200039862:=Nat
def tw13250681330900379107:=Nat
def tw6503032669814007392:=Nat
def tw1731481304087966356:=Nat
def tw8291534058818463597:=Nat
def tw1165072756831443329:=Nat
def tw9047040302051847512:=Nat
def tw3886051132045485292:=Nat
def tw13762892956104212262:=Nat
def tw6341821042037238720:=Nat
def tw9032265409577731446:=Nat
def tw78735350490565987:=Nat
def tw7725545987781039410:=Nat
def tw2672538718645042929:=Nat
def tw9616545488426318215:=Nat
def tw13207396683561859333:=Nat
def tw2438480576662668807:=Nat
def tw1293917219122077036:=Nat
def tw10941715188528990848:=Nat
def tw5511196280630193106:=Nat
def tw11311343543800423284:=Nat
def tw3528073881380687703:=Nat
def tw17496270985334618627:=Nat
def tw16231447563625409993:=Nat
def tw16441577234275439027:=Nat
def tw15996308936836352585:=Nat
def tw10787677799976553980:=Nat
def tw7583255160642104784:=Nat
def tw2600005615267981138:=Nat
def tw12559198855151581610:=Nat
def tw9583851171952114821:=Nat
def tw12002107263509865910:=Nat
def tw2259436660757356539:=Nat
def tw8674263114310700676:=Nat
def tw5086546040995799087:=Nat
def tw56034822310116847:=Nat
def tw4518749301219494615:=Nat
def tw14454451861788001994:=Nat
def tw15665258020832413896:=Nat
def tw6319482722129081766:=Nat
def tw2588603957585415730:=Nat
def tw13694447191991647174:=Nat
def tw2073543929818569485:=Nat
def tw5994087025215293983:=Nat
def tw8321940994142897005:=Nat
def tw16973968135246823852:=Nat
def tw12333324894998613627:=Nat
def tw3445323738774497764:=Nat
def tw2839081775165627165:=Nat
def tw12324302197915411200:=Nat
def tw8456562569349166274:=Nat
def tw12612102122302321402:=Nat
def tw15758331773099069238:=Nat
def tw5730558391979912329:=Nat
def tw1722976149740481960:=Nat
def tw17094585489974349869:=Nat
def tw5672908251597360880:=Nat
def tw6080306769774841696:=Nat
def tw14285137711138554932:=Nat
def tw17373223103643179567:=Nat
def tw13554884610232963292:=Nat
def tw5148316028107912983:=Nat
def tw13097486579065099662:=Nat
def tw13910918227386956391:=Nat
def tw3791214548337266260:=Nat
def tw13813051931894489368:=Nat
def tw12322586106313464635:=Nat
def tw1361424703769905217:=Nat
def tw13583680351485708928:=Nat
def tw569959387636495481:=Nat
def tw10247947969936104649:=Nat
def tw16061679499000151591:=Nat
def tw125247828238082752:=Nat
def tw4165733078918631818:=Nat
def tw9700406348594415614:=Nat
def tw12756459712227843327:=Nat
def tw6001253406750095633:=Nat
def tw12509756353705948311:=Nat
def tw9698660714640051552:=Nat
def tw5260522475518583826:=Nat
def tw12373918883100947633:=Nat
def tw7390308841240651402:=Nat
def tw3394716753409502110:=Nat
def tw4269598320412760863:=Nat
def tw1503473260600179407:=Nat
def tw2385434077731214135:=Nat
def tw14874837480390487660:=Nat
def tw4536215703356015023:=Nat
def tw1340978695243713927:=Nat
def tw13552542499966079025:=Nat
def tw8176177047173663976:=Nat
def tw7160684034113278695:=Nat
def tw10105420733830106376:=Nat
def tw5492813667806642886:=Nat
def tw16472598992686271610:=Nat
def tw5662290313292303289:=Nat
def tw2831248071919678649:=Nat
def tw3810735627718575123:=Nat
def tw14508778104985889547:=Nat
def tw1309789581600722872:=Nat
def tw16091517855838830945:=Nat
def tw14792553746577906049:=Nat
def tw16163523910570933592:=Nat
def tw1584920546161066181:=Nat
def tw3327076637493763954:=Nat
def tw1567140851970859444:=Nat
end PySem.W.Fast
open PySem PySem.W PyProof.Rows
local macro_rules | `(tactic| walk_at "d") => `(tactic| first | exact IV.PU (by k_is) (by k_is) (by k_is) (by k_is) | (refine' IV.PU ?a ?l ?c ?k; (case a => k_is); (case l => k_is); (case c => k_is); (case k => k_is)))
local macro_rules | `(tactic| walk_at "m") => `(tactic| first | exact IV.PV (by k_is) (by k_is) (by k_is) (by k_is) (by k_is) | (refine' IV.PV ?a ?i ?l ?c ?k; (case a => k_is); (case i => k_is); (case l => k_is); (case c => k_is); (case k => k_is)))
set_option maxRecDepth 100000 in
set_option maxHeartbeats 0 in
theorem PySem.Challenge.cw_cutrestore_k51_whole_falls_walked_holds : PySem.Challenge.rw_cutrestore_k51_whole_falls_walked.Holds := by
 w_on;o_law;k_head;(case hw=>w_witness2)
 k_fill
 refine IV.walk (l:=PySem.Challenge.rw_cutrestore_k51_whole_falls_walked) rfl rfl (λw h Y=>W.kIn_of Y) ?F
 case F=>
  intro w mg fa h KX G VW;refine' IV.all_mk KX G VW ?pY ?Oi ?Oj ?uN ?mG ?mH ?oJ ?jM ?qV ?qW ?qX ?oK ?mI ?oM ?qY ?qZ ?iW ?q8 ?jN ?gC ?q9 ?mJ ?uO ?kP ?KY ?iX ?mK ?mL ?kQ ?oN ?kR ?kS ?mM ?oO ?rf ?jO ?mN ?kT ?kU ?iY ?iZ ?fZ ?jP ?hJ ?gD ?mO ?kW ?i3 ?fE ?mP ?rg ?jQ ?mQ ?hV ?jR ?jS ?mR ?gE ?kX ?oP ?mS ?jT ?oQ ?gF ?oR ?jU ?jV ?i4 ?hX ?gG ?mT ?jW ?eJ ?jX ?KZ ?kY ?oS ?K0 ?rj ?rm ?rq ?rz ?rA ?rB ?Fl ?Fm ?OW ?RK ?OX ?K1 ?K2 ?K3 ?K4 ?K5 ?K6 ?IX ?IY ?zx ?zy ?BO ?K7 ?K8 ?K9 ?La ?Lb ?Lc ?IZ ?Ja ?cQ ?cX ?bY ?d7 ?cY ?bZ ?eV ?di ?Fn ?we ?kZ ?Ld ?Co ?Le ?yu ?Cp ?Lf ?yw ?Lg ?Lh ?Li ?Lj ?Lk ?mU ?k6 ?uP ?dY ?dM ?dN ?fB ?dB ?fG ?dO ?dZ ?aF ?lF ?neF ?lP0 ?lP1 ?lP2 ?lP3 ?lP4 ?lP5 ?lP6 ?lP7
  (case pY|Oi|Oj=>k_is)
  (case uN|mG|mH|oJ|jM|qV|qW|qX|oK|mI|oM|qY|qZ|iW|q8|jN|gC=>walk_at "d")
  (case q9=>walk_at "m")
  (case mJ|uO|kP=>walk_at "d")
  (case KY=>walk_at "m")
  (case iX|mK|mL|kQ|oN|kR|kS|mM|oO|rf|jO|mN|kT|kU=>walk_at "d")
  (case iY|iZ|fZ|jP|hJ=>walk_at "m")
  (case gD|mO|kW=>walk_at "d")
  (case i3|fE|mP|rg=>walk_at "m")
  (case jQ|mQ|hV|jR|jS|mR|gE|kX|oP|mS|jT|oQ=>walk_at "d")
  (case gF|oR|jU|jV|i4|hX|gG|mT|jW|eJ|jX|KZ=>walk_at "m")
  (case kY=>walk_at "d")
  (case oS=>walk_at "m")
  (case K0=>walk_at "d")
  (case rj|rm|rq|rz|rA|rB|Fl|Fm|OW|RK|OX|K1|K2|K3|K4|K5|K6|IX|IY|zx|zy|BO|K7|K8|K9|La|Lb|Lc|IZ|Ja|cQ|cX|bY|d7|cY|bZ|eV|di|Fn|we|kZ|Ld|Co|Le|yu|Cp|Lf|yw|Lg|Lh|Li|Lj|Lk|mU|k6|uP|dY|dM|dN|fB|dB|fG|dO|dZ|aF|lF=>k_is)
  (case neF=>first|rfl|decide)
  (case lP0|lP1|lP2|lP3|lP4|lP5|lP6|lP7=>k_is)
