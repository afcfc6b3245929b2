import PyProof.Rows.All
import Wide.All
import OpenK.AllK
import Wide.FinOn
import Lean
import PyProof.EqAt
import PyProof.EqKinds
import PyProof.TupleCall
import PyProof.NeKinds
import PyProof.Rows.Range3
import KE.KIsAll
import PyProof.ExcClass3
import PyProof.InstStoreFacts
import PyProof.ExcArgsOwn
import PyProof.ExcBaseAll.ValueError
import PyProof.ExcAttrAll.ValueError
import PyProof.Draws
import PyProof.ZipIter
import PyProof.SumWalk
import PyProof.Rows.FactsT2
import PyProof.EnumMake
import PyProof.Rows.EnumRows
import KE.KTab
import PyProof.StationsW
import PyProof.RulesAs
import PyProof.NsDelKeeps
import PyProof.PassesOwn
import PyProof.Rows.ListMulArg
import PyProof.StrWalks
import PyProof.MeetsStr
import PyProof.MeetsStr2
import PyProof.StrBlockL
import PyProof.SliceStr2
import PyProof.StrLawsIdx
import PyProof.FitsStr
import PyProof.StrLaws
import PyProof.Rows.FStr
import KE.KIntText
import PyProof.StrLawsTight
import PyProof.Rows.StrIntSpec
import PyProof.Rows.CountFlat
import PyProof.Rows.SeqMore2
import PyProof.SeqRoads
import PyProof.StrLawsAffix
import PyProof.InstEq
import KE.KSortTup
import PyProof.DictUpdate
import PyProof.DictWalks
import KE.KDictList
import PyProof.FactsAll.NoneType_1
import Wide.Seal
import PySem.Challenge.RW_cutrestore_k41_orphans
set_option compiler.extract_closed false
set_option Elab.async false
set_option linter.all false
set_option maxRecDepth 100000
theorem L2.fo{p:Prop}(h:∀g:Prop,(p->g)->g):p:=h p id
theorem L2.yo1{A:Sort _}{p:A->Prop}{z:Prop}(h:∃a,p a)(y:∀a,p a->z):z:=h.elim λa x=>y a x
theorem L2.yo2{A B:Sort _}{p:A->B->Prop}{z:Prop}(h:∃a b,p a b)(y:∀a b,p a b->z):z:=h.elim λa x=>x.elim λb x=>y a b x
theorem L2.yo3{A B C:Sort _}{p:A->B->C->Prop}{z:Prop}(h:∃a b c,p a b c)(y:∀a b c,p a b c->z):z:=h.elim λa x=>x.elim λb x=>x.elim λc x=>y a b c x
theorem L2.yo4{A B C D:Sort _}{p:A->B->C->D->Prop}{z:Prop}(h:∃a b c d,p a b c d)(y:∀a b c d,p a b c d->z):z:=h.elim λa x=>x.elim λb x=>x.elim λc x=>x.elim λd x=>y a b c d x
theorem L2.yo5{A B C D E:Sort _}{p:A->B->C->D->E->Prop}{z:Prop}(h:∃a b c d e,p a b c d e)(y:∀a b c d e,p a b c d e->z):z:=h.elim λa x=>x.elim λb x=>x.elim λc x=>x.elim λd x=>x.elim λe x=>y a b c d e x
theorem L2.yo6{A B C D E F:Sort _}{p:A->B->C->D->E->F->Prop}{z:Prop}(h:∃a b c d e f,p a b c d e f)(y:∀a b c d e f,p a b c d e f->z):z:=h.elim λa x=>x.elim λb x=>x.elim λc x=>x.elim λd x=>x.elim λe x=>x.elim λf x=>y a b c d e f x
theorem L2.yo7{A B C D E F G:Sort _}{p:A->B->C->D->E->F->G->Prop}{z:Prop}(h:∃a b c d e f g,p a b c d e f g)(y:∀a b c d e f g,p a b c d e f g->z):z:=h.elim λa x=>x.elim λb x=>x.elim λc x=>x.elim λd x=>x.elim λe x=>x.elim λf x=>x.elim λg x=>y a b c d e f g x
theorem L2.yo8{A B C D E F G H:Sort _}{p:A->B->C->D->E->F->G->H->Prop}{z:Prop}(h:∃a b c d e f g h,p a b c d e f g h)(y:∀a b c d e f g h,p a b c d e f g h->z):z:=h.elim λa x=>x.elim λb x=>x.elim λc x=>x.elim λd x=>x.elim λe x=>x.elim λf x=>x.elim λg x=>x.elim λh x=>y a b c d e f g h x
theorem L2.ya2{A B y:Prop}(h:A/\B)(x:A->B->y):y:=x h.1 h.2
theorem L2.ya3{A B C y:Prop}(h:A/\B/\C)(x:A->B->C->y):y:=x h.1 h.2.1 h.2.2
theorem L2.ya4{A B C D y:Prop}(h:A/\B/\C/\D)(x:A->B->C->D->y):y:=x h.1 h.2.1 h.2.2.1 h.2.2.2
theorem L2.ya5{A B C D E y:Prop}(h:A/\B/\C/\D/\E)(x:A->B->C->D->E->y):y:=x h.1 h.2.1 h.2.2.1 h.2.2.2.1 h.2.2.2.2
theorem L2.ya6{A B C D E F y:Prop}(h:A/\B/\C/\D/\E/\F)(x:A->B->C->D->E->F->y):y:=x h.1 h.2.1 h.2.2.1 h.2.2.2.1 h.2.2.2.2.1 h.2.2.2.2.2
theorem L2.ya7{A B C D E F G y:Prop}(h:A/\B/\C/\D/\E/\F/\G)(x:A->B->C->D->E->F->G->y):y:=x h.1 h.2.1 h.2.2.1 h.2.2.2.1 h.2.2.2.2.1 h.2.2.2.2.2.1 h.2.2.2.2.2.2
theorem L2.ya8{A B C D E F G H y:Prop}(h:A/\B/\C/\D/\E/\F/\G/\H)(x:A->B->C->D->E->F->G->H->y):y:=x h.1 h.2.1 h.2.2.1 h.2.2.2.1 h.2.2.2.2.1 h.2.2.2.2.2.1 h.2.2.2.2.2.2.1 h.2.2.2.2.2.2.2
theorem L2.ya9{A B C D E F G H I y:Prop}(h:A/\B/\C/\D/\E/\F/\G/\H/\I)(x:A->B->C->D->E->F->G->H->I->y):y:=x h.1 h.2.1 h.2.2.1 h.2.2.2.1 h.2.2.2.2.1 h.2.2.2.2.2.1 h.2.2.2.2.2.2.1 h.2.2.2.2.2.2.2.1 h.2.2.2.2.2.2.2.2
section
set_option hygiene false
local macro_rules | `(tactic| calc $e:term) => `(tactic| refine $e)
local macro_rules | `(tactic| lia) => `(tactic| first | with_reducible assumption | exact Nat.zero_le _ | exact Nat.le_refl _ | (refine Nat.le_of_lt ?_; with_reducible assumption) | (refine Nat.lt_succ_of_le ?_; with_reducible assumption) | (refine Int.ofNat_lt.mpr ?_; with_reducible assumption) | (refine Eq.symm ?_; with_reducible assumption) | omega)
local macro_rules | `(tactic| obtain $p:rcasesPatMed := $e:term) => `(tactic| (refine L2.fo λgZ hZ => ?_; rcases $e:term with $p:rcasesPatMed) <;> (refine hZ ?_; clear hZ gZ))
local macro_rules
 | `(tactic| obtain ⟨$ps,*⟩ := $e:term) => do
  let q := ps.getElems
  let n := q.size
  let k0 ← `(tactic| skip)
  let i : Lean.Ident := ⟨e.raw⟩
  let ce ← if e.raw.isIdent then `(tactic| try clear $i:ident) else pure k0
  let mut xs := #[]
  let mut re := #[]
  for p in q do
    let a := p.raw[0][0]
    let x := a[0][0]
    let z := Lean.mkIdent (.num `z_ xs.size)
    let b := x.isIdent && a.getNumArgs == 1 && x.getId != `rfl
    let r ← `(tactic| rcases $z:ident with $p:rcasesPatLo)
    xs := xs.push (if b then ⟨x⟩ else z)
    re := re.push (if b then k0 else r)
  let mut t ← `(tactic| rcases $e:term with ⟨$q,*⟩)
  for m in [2:n+n] do
    let c := if m ≤ n then m - 1 else m - n
    let l := Lean.mkIdent (.str `L2 (if m ≤ n then s!"ya{m}" else s!"yo{c}"))
    let w := q[c:].toArray
    let w ← `(tactic| obtain ⟨$w,*⟩ := zH)
    let f := n ≤ c + 1
    let y := if f then xs else xs[:c].toArray.push (Lean.mkIdent `zH)
    let r := if f then re else re[:c].toArray.push w
    t ← `(tactic| first | (refine $l $e ?_; ($ce:tactic); intro $y*; $[$r]*) | $t:tactic)
  if e.raw.getId == `zH then return t
  `(tactic| (refine L2.fo λgZ hZ => ?_; $t:tactic) <;> (refine hZ ?_; clear hZ gZ))
local macro_rules | `(tactic| nofun) => `(tactic| refine L2.fo λgZ hZ => ?_)
local macro_rules | `(tactic| ac_rfl) => `(tactic| (refine hZ ?_; clear hZ gZ))
local macro_rules | `(()) => `(by lia)
local macro_rules | `(∅) => `(by decide)
local macro_rules | `(⋯) => `(by decide +kernel)
local macro_rules | `(nofun) => `(by simp)
local macro_rules | `(Sort) => `(by grind)
set_option hygiene true
set_option hygiene false
local macro_rules | `(tactic| grind) => `(tactic| first | exact Or.inl rfl | exact Or.inr rfl | assumption)
local macro_rules | `(tactic| symm) => `(tactic| (refine D.ok sc (λvs H Q E h => ?_) (λf gE A outer s H vs Q E hr h => ?_); (first | (cases h; subst_vars; rfl) | ((repeat rcases h with ⟨_, h⟩) <;> subst_vars <;> rfl))))
local macro_rules
 | `(tactic| walk_at "xc") => `(tactic| (refine ⟨?_⟩; intro pins s σ H Q I h))
 | `(tactic| walk_at "xd") => `(tactic| (refine ⟨?_⟩; intro pins s σ H D I h))
 | `(tactic| walk_at "xf") => `(tactic| refine ⟨Ext.set (Ext.refl _) rfl, ?_⟩)
set_option hygiene true
abbrev vz:= @PyProof.Rows.boot_isinstance
abbrev mH:= @PySem.F.plainAttrs_list
abbrev qr:= @PySem.F.slot_list_append
abbrev qt:= @PySem.F.type_list_append
abbrev qu:= @PyProof.Rows.boot_tuple
abbrev xc:= @PyProof.Rows.boot_list
abbrev Rj:= @PyProof.Rows.boot_all
section
open PySem
abbrev A':= @wpAny_bind
abbrev E':= @Nat.le_refl
abbrev J':= @Heap.get?_push_of_some
abbrev K':= @Nat.le_of_lt
abbrev L':= @wpAny_pure
abbrev M':= @PySem.boot_len
abbrev P':= @Heap.lt_size
abbrev R':= @Nat.lt_of_lt_of_le
abbrev S':= @Bool.false_ne_true
abbrev T':= @Heap.get?_push_size
abbrev U':= @List.mem_of_getElem?
abbrev V':= @Nat.zero_le
abbrev W':= @Nat.ne_of_lt
abbrev X':= @List.mem_cons_self
abbrev Y':= @List.mem_cons_of_mem
abbrev aaa:= @List.mem_append_right
abbrev aab:= @List.getElem_mem
abbrev aac:= @Nat.le_trans
abbrev aad:= @W.mg_none_of
abbrev aae:= @wpAny_mono
abbrev aaf:= @True.intro
abbrev aah:= @wpAny_field
abbrev aaj:= @Int.eq_ofNat_of_zero_le
abbrev aak:= @False.elim
abbrev aam:= @Nat.lt_irrefl
abbrev aan:= @wpAny_pyIter_tuple
abbrev aap:= @Int.emod_lt_of_pos
abbrev aaq:= @wpAny_callSpecial?_slot
abbrev aas:= @PySem.mem_of_lookup
abbrev aat:= @wpAny_call_entry
abbrev aau:= @Nat.le_add_right
abbrev aaw:= @Nat.lt_of_le_of_lt
abbrev aax:= @PyProof.Rows.slot_tuple_getitem
abbrev aay:= @Int.emod_nonneg
abbrev aaA:= @Nat.not_lt_zero
abbrev aaB:= @wpAny_truthy_bool
abbrev aaC:= @wpAny_newObj_type
abbrev aaD:= @wpAny_holding
abbrev aaG:= @Int.toNat_of_nonneg
abbrev aaH:= @wpAny_seqItems
end
namespace L2
open PySem PySem.Spec PyProof.Rows
section
theorem cN{α:Type _}{l:List α}{i:Nat}(h:i<l.length):l[i]?=some l[i]:=List.getElem?_eq_getElem h
abbrev Key:=Sum Int Str
def rB:Key->Value->Bool
 | .inl k,v=>Value.isInt k v
 | .inr x,v=>Value.isStrOf x v
def X6(w:World):Key->Int
 | .inl k=>hashInt k
 | .inr x=>hashStr w x
theorem cR:∀{k:Key}{v:Value},rB k v=true->(∃i t,k=Sum.inl i/\v=Value.int i t)\/(∃x t,k=Sum.inr x/\v=Value.str x t)
 | .inl i,v,h=>by
  obtain⟨t,e⟩:=Value.isInt_shape (k:=i) (v:=v) h;calc .inl ⟨i,t,rfl,e⟩
 | .inr x,v,h=>by
  obtain⟨t,e⟩:=Value.isStrOf_shape (x:=x) (v:=v) h;calc .inr ⟨x,t,rfl,e⟩
theorem CQ(i:Int)(t:Tok):rB (.inl i) (.int i t)=true:=by simp[rB,Value.isInt]
theorem CS(x:Str)(t:Tok):rB (.inr x) (.str x t)=true:=by simp[rB,Value.isStrOf]
theorem NO(a b:Int):decide ((Sum.inl a:Key)=Sum.inl b)=(a==b):=by
 by_cases e:a=b
 ·subst e;simp
 ·have h:¬(Sum.inl a:Key)=Sum.inl b:=λq=>e (Sum.inl.inj q);rw[decide_eq_false h];calc(beq_eq_false_iff_ne.mpr e).symm
theorem NP(a b:Str):decide ((Sum.inr a:Key)=Sum.inr b)=decide (a=b):=by
 by_cases e:a=b
 ·subst e;simp
 ·have h:¬(Sum.inr a:Key)=Sum.inr b:=λq=>e (Sum.inr.inj q);rw[decide_eq_false h,decide_eq_false e]
theorem NQ(a:Int)(b:Str):decide ((Sum.inl a:Key)=Sum.inr b)=false:=decide_eq_false (λq=>nomatch q)
theorem NR(a:Str)(b:Int):decide ((Sum.inr a:Key)=Sum.inl b)=false:=decide_eq_false (λq=>nomatch q)
def dB(prog:Program)(w:World):PySem.KeyKind prog w Key where
 is:=rB
 hash:=X6 w
 inj:=λv a b f d=>by
  rcases cR f with⟨i,t,rfl,rfl⟩|⟨x,t,rfl,rfl⟩
  ·rcases cR d with⟨j,u,rfl,e⟩ | ⟨y,u,rfl,e⟩
   ·injection e with e1 _;rw[e1]
   ·exact nomatch e
  ·rcases cR d with⟨j,u,rfl,e⟩ | ⟨y,u,rfl,e⟩
   ·exact nomatch e
   ·injection e with e1 _;rw[e1]
 byValue:=λk v h=>by
  rcases cR h with⟨i,t,rfl,rfl⟩|⟨x,t,rfl,rfl⟩<;>rfl
 pyHash:=λc h=>by
  rcases cR c with⟨i,t,rfl,rfl⟩|⟨x,t,rfl,rfl⟩
  ·exact wpAny_pyHash_int h
  ·exact wpAny_pyHash_str h
 eqBool:=λg c h=>by
  rcases cR g with⟨i,t,rfl,rfl⟩|⟨x,t,rfl,rfl⟩
  ·rcases cR c with⟨j,u,rfl,rfl⟩ | ⟨y,u,rfl,rfl⟩
   ·rw[NO]at h;exact wpAny_eqBool_int h
   ·rw[NQ]at h;exact SeqAt.EqAt.int_str i t y u _ _ _ _ h
  ·rcases cR c with⟨j,u,rfl,rfl⟩ | ⟨y,u,rfl,rfl⟩
   ·rw[NR]at h;exact SeqAt.EqAt.str_int x t j u _ _ _ _ h
   ·rw[NP]at h;exact wpAny_eqBool_str h
 «strs»:=λk x t v h=>by
  rcases cR h with⟨i,u,rfl,e⟩|⟨y,u,rfl,e⟩
  ·exact nomatch e
  ·injection e with e1 _
   subst e1
   cases v<;>rfl
theorem zm(prog:Program)(w:World)(k:Key)(v:Value):(dB prog w).is k v=rB k v:=rfl
theorem xf(prog:Program)(w:World)(i:Int)(t:Tok):(dB prog w).is (.inl i) (.int i t)=true:=CQ i t
theorem xg(prog:Program)(w:World)(x:Str)(t:Tok):(dB prog w).is (.inr x) (.str x t)=true:=CS x t
end
section
variable {a b:Addr}{H:Hp}
inductive V where
 |bH|bl (b:Bool)|int (i:Int)|str (x:Str)|AU (b:Array UInt8)|L9 (b:UInt64)|ref (a:Addr)|ty (n:String)
 deriving DecidableEq
def RelV:V->Value->Prop
 | .bH,u=>u=Value.none
 | .bl b,u=>u=Value.bool b
 | .int i,u=>∃t,u=Value.int i t
 | .str x,u=>∃t,u=Value.str x t
 | .AU b,u=>∃t,u=Value.bytes b t
 | .L9 b,u=>∃t,u=Value.float b t
 | .ref a,u=>u=Value.ref a
 | .ty n,u=>u=Value.type n
abbrev Vals:List V->List Value->Prop:=Paired RelV
theorem Vals.length{xs:List V}{us:List Value}(r:Vals xs us):xs.length=us.length:=Paired.length r
theorem Vals.get:∀{xs:List V}{us:List Value}{i:Nat}{x:V},Vals xs us->xs[i]?=some x->∃u,us[i]?=some u/\RelV x u
 |_,_,_,_,.nil,e=>by simp at e
 |_,_,0,_,.cons r _,e=>by simp at e;subst e;calc⟨_,rfl,r⟩
 |_,_,i+1,x,.cons _ t,e=>by
  obtain⟨u,a,b⟩:=Vals.get (i:=i) (x:=x) t (by simpa using e);calc⟨u,by simpa using a,b⟩
theorem Vals.set{x:V}{u:Value}(r:RelV x u):∀{xs:List V}{us:List Value}(i:Nat),Vals xs us->Vals (xs.set i x) (us.set i u)
 |_,_,_,.nil=>.nil
 |_,_,0,.cons _ t=>.cons r t
 |_,_,i+1,.cons q t=>.cons q (Vals.set r i t)
theorem Vals.append:∀{xs ys:List V}{us ws:List Value},Vals xs us->Vals ys ws->Vals (xs++ys) (us++ws)
 |_,_,_,_,.nil,s=>s
 |_,_,_,_,.cons r t,s=>.cons r (Vals.append t s)
theorem Vals.take:∀{xs:List V}{us:List Value}(n:Nat),Vals xs us->Vals (xs.take n) (us.take n)
 |_,_,0,_=>.nil
 |_,_,_+1,.nil=>.nil
 |_,_,n+1,.cons r t=>.cons r (Vals.take n t)
theorem Vals.drop:∀{xs:List V}{us:List Value}(n:Nat),Vals xs us->Vals (xs.drop n) (us.drop n)
 |_,_,0,r=>r
 |_,_,_+1,.nil=>.nil
 |_,_,n+1,.cons _ t=>Vals.drop n t
def mf:Option V->Option Value->Prop
 |some v,some u=>RelV v u
 |none,none=>True
 |_,_=>False
def KV{κ:Type}:List (κ×V)->List (κ×Value)->Prop:=Paired λ(p:κ×V) (q:κ×Value)=>p.1=q.1/\RelV p.2 q.2
def kV:Key->V
 | .inl i=>.int i
 | .inr x=>.str x
inductive HO where
 |lst (xs:List V)
 |tup (xs:List V)
 |dK (aX:List (Key×V))|dT (aX:List (List Key×V))
 |set (S:Int->Bool) (n:Nat)
 |ins (C dx:Addr) (fs:List (Str×V))
 |own (x:Addr)
 |xd (fs:List (Str×V))
 |met (f x:Addr)
 |X7 (lo hi:Int)
 |y6 (o:Obj) (u:HO)
 |NS (ps:Array Value)
 |ext (φ:Heap->Prop)
abbrev Hp:=Addr->Option HO
def upd(H:Hp)(a:Addr)(o:HO):Hp:=λb=>if b=a then some o else H b
theorem ab{o:HO}:upd H a o a=some o:=by unfold upd;rw[if_pos rfl]
theorem ax{o:HO}(h:b≠a):upd H a o b=H b:=by unfold upd;rw[if_neg h]
theorem uA{o u:HO}(h:H a=some o)(h':H b=some u)(d:o≠u):a≠b:=by
 intro e;subst e;rw[h]at h';calc d (Option.some.inj h')
theorem ao{o:HO}(h:H a=some o)(h':H b=none):a≠b:=by
 intro e;subst e;rw[h]at h';cases h'
section
variable (P:Program)(w:World)
def cy(H:Hp)(h:Heap)(a:Addr):HO->Prop
 | .lst xs=>xs.length<=sizeLine/\∃(b:List Value) (n:Nat),Vals xs b/\h.get? a=some {cls:=.type "list",data:=.seq b.toArray n}
 | .tup xs=>xs.length<=sizeLine/\∃b:List Value,Vals xs b/\IsTup h a b.toArray
 | .dK b=>b.length<=sizeLine/\(a==sysModules)=false/\∃vs,KV b vs/\h.DictOf (dB P w) a vs
 | .dT b=>b.length<=sizeLine/\(a == sysModules)=false/\∃xs:List (List Key×Addr×Value),
   Paired (λ(p:List Key×V) (q:List Key×Addr×Value)=>p.1=q.1/\H q.2.1=some (.tup (p.1.map kV))/\RelV p.2 q.2.2) b xs/\
   ∃o b ep,h.get? a=some o/\o.ExactDict/\o.data=.dict b ep/\b.toList=xs.map (entryOfKey (tupleKind (dB P w)))/\(xs.map (·.1)).Nodup
 | .set S n=>h.SetOf (intKind P w) a S n
 | .ins C d c=>H d=some (.own a)/\c.length<=1000/\d≠a/\h.get? a=some (W.instObj C d)/\
   ∃b,h.Ns1 d b/\(∀f,mf (c.lookup f) (b f))/\PySem.Within b (c.map (·.1))
 | .own _=>∃o,h.get? a=some o
 | .xd c=>∃b,h.Ns1 a b/\∀f,mf (c.lookup f) (b f)
 | .X7 b c=>∃t u v,h.get? a=some {cls:=.type "range",data:=.fields #[.int b t,.int c u,.int 1 v]}
 | .y6 o u=>h.get? a=some o/\cy H h a u
 | .NS b=>h.get? a=some {cls:=.none,data:=.fields b}
 | .met f x=>h.get? a=some (W.methodObj (.ref f) (.ref x))
 | .ext φ=>φ h/\(∃o,h.get? a=some o)/\∀b c:Heap,φ b->(∀o,b.get? a=some o->c.get? a=some o)->φ c
def mI(H:Hp)(h:Heap):Prop:=∀a o,H a=some o->cy P w H h a o
end
section
variable {P:Program}{w:World}{H H':Hp}{h h':Heap}{a:Addr}{o:HO}
theorem cy.lt(x:cy P w H h a o):a<h.objs.size:=by
 cases o with
 |lst b=>obtain⟨_,_,_,_,e⟩:=x;calc P' e
 |tup b=>obtain⟨_,_,_,p⟩:=x;calc p.lt
 |dK b=>obtain⟨_,_,_,_,o,_,_,e,_⟩:=x;calc P' e
 |dT b=>obtain⟨_,_,_,_,o,_,_,e,_⟩:=x;calc P' e
 |set S n=>obtain⟨o,_,_,_,e,_⟩:=x;calc P' e
 |ins C c b=>obtain⟨_,_,_,e,_⟩:=x;calc P' e
 |own y=>obtain⟨_,e⟩:=x;calc P' e
 |xd b=>obtain⟨_,⟨_,_,_,e,_⟩,_⟩:=x;calc P' e
 |X7 b c=>obtain⟨_,_,_,e⟩:=x;calc P' e
 |y6 b u=>obtain⟨e,_⟩:=x;calc P' e
 |NS b=>calc P' (show h.get? a=some _ from x)
 |met f y=>calc P' (show h.get? a=some _ from x)
 |ext φ=>obtain⟨_,⟨_,e⟩,_⟩:=x;calc P' e
theorem Paired.NU{α β:Type}{F G:α->β->Prop}:∀{l₁:List α}{c:List β},Paired F l₁ c->(∀a b,F a b->G a b)->Paired G l₁ c
 |_,_,.nil,_=>.nil
 |_,_,.cons r t,f=>.cons (f _ _ r) (Paired.NU t f)
theorem cy.aK(x:cy P w H h a o)(k:∀b u,(b=a\/H b=some (.own a))->h.get? b=some u->h'.get? b=some u)
  (m:∀b,H b=some (.own a)->H' b=some (.own a)) (j:∀b xs,H b=some (.tup xs)->H' b=some (.tup xs)):cy P w H' h' a o:=by
 induction o with
 |lst xs=>obtain⟨z,d,n,r,e⟩:=x;calc⟨z,d,n,r,k _ _ (.inl rfl) e⟩
 |tup xs=>obtain⟨z,d,r,f,e,c⟩:=x;calc⟨z,d,r,f,k _ _ (.inl rfl) e,c⟩
 |dK d=>obtain⟨z,y,l,r,f,g,i,e,c⟩:=x;calc⟨z,y,l,r,f,g,i,k _ _ (.inl rfl) e,c⟩
 |dT d=>
  obtain⟨z,y,xs,r,f,g,i,e,c⟩:=x;calc⟨z,y,xs,Paired.NU r λp q z=>⟨z.1,j _ _ z.2.1,z.2.2⟩,f,g,i,k _ _ (.inl rfl) e,c⟩
 |set S n=>obtain⟨f,g,i,t,e,c⟩:=x;calc⟨f,g,i,t,k _ _ (.inl rfl) e,c⟩
 |ins C d n=>
  obtain⟨d,z,s,e,j,⟨l,g,i,v,c⟩,r⟩:=x;calc⟨m _ d,z,s,k _ _ (.inl rfl) e,j,⟨l,g,i,k _ _ (.inr d) v,c⟩,r⟩
 |own y=>obtain⟨f,e⟩:=x;calc⟨f,k _ _ (.inl rfl) e⟩
 |xd n=>obtain⟨j,⟨l,g,i,e,c⟩,r⟩:=x;calc⟨j,⟨l,g,i,k _ _ (.inl rfl) e,c⟩,r⟩
 |X7 c d=>obtain⟨t,u,v,e⟩:=x;calc⟨t,u,v,k _ _ (.inl rfl) e⟩
 |y6 f u c=>obtain⟨e,q⟩:=x;calc⟨k _ _ (.inl rfl) e,c q⟩
 |NS c=>
  have e:h.get? a=some {cls:=.none,data:=.fields c}:=x;show h'.get? a=some {cls:=.none,data:=.fields c};calc k a _ (.inl rfl) e
 |met f y=>
  have e:h.get? a=some (W.methodObj (.ref f) (.ref y)):=x;show h'.get? a=some (W.methodObj (.ref f) (.ref y));calc k a _ (.inl rfl) e
 |ext φ=>obtain⟨p,⟨o,e⟩,c⟩:=x;calc⟨c _ _ p λo q=>k _ _ (.inl rfl) q,⟨o,k _ _ (.inl rfl) e⟩,c⟩
theorem mI.lt(x:mI P w H h)(e:H a=some o):a<h.objs.size:=(x a o e).lt
theorem mI.fresh(x:mI P w H h)(e:h.objs.size<=a):H a=none:=by
 cases q:H a with
 |none=>rfl
 |some u=>calc absurd (R' (x.lt q) e) (aam _)
theorem mI.kept(x:mI P w H h)(k:∀b u,h.get? b=some u->h'.get? b=some u):mI P w H h':=λa o e=>
 (x a o e).aK (λb u _ q=>k b u q) (λ_ q=>q) λ_ _ q=>q
theorem mI.laid(x:mI P w H h)(k:∀b u,h.get? b=some u->h'.get? b=some u)(g:h.objs.size<=a)(c:cy P w (upd H a o) h' a o):mI P w (upd H a o) h':=λb u e=>by
 have d:=x.fresh g;by_cases f:b=a
 ·subst f;rw[ab]at e;cases e;exact c
 ·rw[ax f]at e;exact(x b u e).aK (λc v _ q=>k c v q) (λc q=>by rw[ax (ao q d)];calc q) λc e q=>by rw[ax (ao q d)];calc q
end
def Rd(H:Hp)(a:Addr)(u:HO):Prop:=H a=some u\/∃o,H a=some (.y6 o u)
theorem Rd.ok{P:Program}{w:World}{h:Heap}{u:HO}(r:Rd H a u)(x:mI P w H h):cy P w H h a u:=by
 rcases r with r|⟨o,r⟩
 ·exact x a u r
 ·obtain⟨_,q⟩:=x a _ r;calc q
def SE:Option HO->Prop
 |some (.lst _)=>True
 |some (.dK _)=>True
 |some (.dT _)=>True
 |some (.set _ _)=>True
 |some (.ins _ _ _)=>True
 |some (.ext _)=>True
 |_=>False
section
variable {P:Program}{w:World}{H:Hp}{h h':Heap}{x e:Addr}{o':HO}
theorem mI.write(o:mI P w H h)(a:SE (H x))(l:e=x\/H e=some (.own x))(k:∀b u,b≠e->h.get? b=some u->h'.get? b=some u)(p:∃u,h'.get? e=some u)
  (j:cy P w (upd H x o') h' x o'):mI P w (upd H x o') h':=λb u q=>by
 have m:∀c y,H c=some (.own y)->c≠x:=λc y r z=>by subst z;rw[r]at a;exact a
 have s:∀c d,H c=some (.tup d)->c≠x:=λc d r z=>by subst z;rw[r]at a;exact a
 by_cases f:b=x
 ·subst f;rw[ab]at q;cases q;exact j
 ·rw[ax f] at q;by_cases g:b=e
  ·have n:H b=some (.own x):=by
    rcases l with z|z
    ·exact absurd (g.trans z) f
    ·rw[g];exact z
   rw[q]at n;cases n;obtain⟨v,a⟩:=p;exact⟨v,by rw[g];calc a⟩
  ·refine(o b u q).aK (λc v i r=>k c v ?_ r) (λc r=>by rw[ax (m c b r)];calc r) λc d r=>by rw[ax (s c d r)];exact r
   rcases i with rfl|i
   ·exact g
   ·rintro rfl;rcases l with z | z
    ·exact m c b i z
    ·rw[i]at z;cases z;calc f rfl
end
structure Un(fs ex:List Addr)(H H':Hp)(h h':Heap):Prop where
 keep:∀b o,h.get? b=some o->H b=none->b∉fs->b∉ex->h'.get? b=some o
 slot:∀b o,h.get? b=some o->H b=none->b∈fs->b∉ex->∃sl,h'.get? b=some {o with slots:=sl}
 free:∀b o,h.get? b=some o->H b=none->b∉ex->H' b=none
 there:∀b o,h.get? b=some o->b∉ex->∃o',h'.get? b=some o'
 aM:∀b xs,H b=some (.tup xs)->H' b=some (.tup xs)
 vA:∀b o u,H b=some (.y6 o u)->H' b=some (.y6 o u)
 xh:∀b ps,H b=some (.NS ps)->∃more,H' b=some (.NS (ps++more))
section
variable {fs y7 ex ex':List Addr}{H H1 H2:Hp}{h h1 h2 h':Heap}{a x e:Addr}{o:HO}
theorem Un.any(u:Un fs ex H H1 h h1){b:Addr}{a:Obj}(q:h.get? b=some a)(n:H b=none)(c:b∉ex):∃d,h1.get? b=some {a with slots:=d}:=by
 by_cases d:b∈fs
 ·exact u.slot b a q n d c
 ·calc⟨a.slots,u.keep b a q n d c⟩
theorem Un.kept(k:∀b u,h.get? b=some u->h'.get? b=some u):Un fs ex H H h h':=
 ⟨λb a q _ _ _=>k b a q,λb a q _ _ _=>⟨a.slots,k b a q⟩,λ_ _ _ n _=>n,λb a q _=>⟨a,k b a q⟩,λ_ _ q=>q,λ_ _ _ q=>q,λ_ a q=>⟨#[],by rw[q];simp⟩⟩
theorem Un.refl:Un fs ex H H h h:=Un.kept λ_ _ q=>q
theorem Un.laid(k:∀b u,h.get? b=some u->h'.get? b=some u)(d:h.objs.size<=a)(c:H a=none):Un fs ex H (upd H a o) h h' where
 keep:=λb u q _ _ _=>k b u q
 slot:=λb u q _ _ _=>⟨u.slots,k b u q⟩
 free:=λb u q n _=>by rw[ax (Nat.ne_of_lt (Nat.lt_of_lt_of_le (Heap.lt_size q) d))];exact n
 there:=λb u q _=>⟨u,k b u q⟩
 aM:=λb d q=>by rw[ax (ao q c)];exact q
 vA:=λb u d q=>by rw[ax (ao q c)];exact q
 xh:=λb d q=>⟨#[],by rw[ax (ao q c),q];simp⟩
theorem Un.write(a:SE (H x))(i:e=x\/H e=some (.own x))(k:∀b u,b≠e->h.get? b=some u->h'.get? b=some u)(j:∃u,h'.get? e=some u):Un fs ex H (upd H x o) h h':=by
 have d:∀b,H b=none->b≠x:=λb n z=>by subst z;rw[n]at a;exact a
 have f:∀b,H b=none->b≠e:=λb n z=>by
  subst z;rcases i with r|r
  ·exact d b n r
  ·rw[n]at r;cases r
 have c:∀b u,H b=some u->¬SE (some u)->b≠x:=λb u q l z=>by subst z;rw[q]at a;exact l a
 refine⟨λb u q n _ _=>k b u (f b n) q,λb u q n _ _=>⟨u.slots,k b u (f b n) q⟩,λb u q n _=>by rw[ax (d b n)];exact n,λb u q _=>?_,
  λb a q=>by rw[ax (c b _ q λz=>z)];calc q,λb u a q=>by rw[ax (c b _ q λz=>z)];calc q,λb a q=>⟨#[],by rw[ax (c b _ q λz=>z),q];simp⟩⟩
 by_cases g:b=e
 ·subst g;exact j
 ·calc⟨u,k b u g q⟩
end
def WM(h:Heap)(H:Hp):List Addr:=(List.range h.objs.size).filter λa=>(H a).isSome
def vB(h:Heap)(H:Hp):Heap:=W.hideAll h (WM h H)
theorem CT(h:Heap)(H:Hp):(vB h H).objs.size=h.objs.size:=W.hideAll_size _ _
theorem EF{h:Heap}{o:Obj}(e:h.get? b=some o)(n:H b=none):(vB h H).get? b=some o:=
 W.hideAll_get _ e λa=>by
  have q:(H b).isSome=true:=(List.mem_filter.mp a).2;rw[n]at q;simp at q
theorem J2{h:Heap}{H:Hp}{b:Addr}{o:Obj}(e:(vB h H).get? b=some o):h.get? b=some o/\H b=none:=by
 have a:h.get? b=some o:=W.of_hideAll (WM h H) e;refine⟨a,?_⟩
 cases q:H b with
 |none=>rfl
 |some x=>
  have c:b∈WM h H:=List.mem_filter.mpr ⟨List.mem_range.mpr (P' a),by simp[q]⟩;have z:(vB h H).get? b=none:=W.hideAll_none (WM h H) c;rw[z]at e;cases e
end
section
variable {A:Around}{ch:List Addr}{t':Nat}{E:Value->Shared->Prop}
structure Mod(K:W.Frag)(mg:Str->Option Value)(base:Heap):Prop where
 Rl:K.In base
 glob:base.Ns mainGlobals mg
 blt:∃mb,base.Ns builtinsNs mb/\∀x:Str,x≠"__name__"->mb x=bootBuiltins x
 nolimit:base.NoLimit
structure Cx where
 prog:Program
 w:World
 K:W.Frag
 mg:Str->Option Value
 base:Heap
 A:Around
 N:List Str
 s₀:Shared
 H₀:Hp
 env:Env
 outer:List Env
 stack:List Env
 ex:List Addr
 fn:Str->Bool
 calm:Bool
 pn:List (Addr×Obj)
 xe:Value->Shared->Prop
def CU(l:List Env):List Addr:=l.filterMap (·.frame)
abbrev Cx.fs(X:Cx):List Addr:=CU X.outer
def SH(a:Scope)(x:Str):Prop:=a.names.lookup x=some .local\/a.names.lookup x=some .cell\/a.names.lookup x=some .free
def Loc(a:Scope)(x:Str):Prop:=a.names.lookup x=some .local\/a.names.lookup x=some .cell
def Look(env:Env)(h:Heap)(m:Str->Option Value)(x:Str)(u:Value):Prop:=
 (env.kindOf x=some .local/\m x=some u)\/((env.kindOf x=some .cell\/env.kindOf x=some .free)/\∃c,env.cells.lookup x=some c/\h.IsCell c (some u))
structure Cx.Ok(X:Cx):Prop where
 mod:Mod X.K X.mg X.base
 kind:X.env.scope.kind=.function
 glob:X.env.globals=mainGlobals
 blt:X.env.builtins=builtinsNs
 above:X.s₀.heap.objs.size<=X.env.locals
 inj:∀x y c,X.env.cells.lookup x=some c->X.env.cells.lookup y=some c->x=y
 has:∀x,(X.env.kindOf x=some .cell\/X.env.kindOf x=some .free)->∃c,X.env.cells.lookup x=some c
 Rm:∀x c,X.fn x=true->X.env.cells.lookup x=some c->X.s₀.heap.objs.size<=c
 hd:X.calm=true->X.A.handled=none
 frames:X.A.frames=some X.stack
 SI:X.stack=X.outer\/(X.stack=X.env::X.outer/\X.env.frame=some X.env.locals)
 WN:∀b∈X.ex,b≠X.env.locals/\∀x c,X.env.cells.lookup x=some c->c≠b
 bs:∀b o,X.base.get? b=some o->X.s₀.heap.get? b=some o/\X.H₀ b=none
 EG:X.base.objs.size<=X.s₀.heap.objs.size
 zo:∀b o,X.base.get? b=some o->b∉X.ex
 CV:∀b∈X.ex,b∉X.fs
 oS:X.s₀.heap.FunFrames X.base X.outer
 Ma:∀b∈X.fs,X.H₀ b=none
structure Inv(X:Cx)(pins:List (Addr×Obj))(σ:List (Option V))(H:Hp)(s:Shared):Prop where
 ok:X.Ok
 os:s.os=X.s₀.os
 bare:AllBare s.gens
 base:Un X.fs X.ex X.H₀ H X.s₀.heap s.heap
 loc:∃m,s.heap.Ns X.env.locals m/\∀(i:Nat) (x:Str) (v:V),X.N[i]?=some x->σ[i]?=some (some v)->SH X.env.scope x->∃u,RelV v u/\Look X.env s.heap m x u
 cell:∀x c,X.env.cells.lookup x=some c->∃v,s.heap.IsCell c v
 free:H X.env.locals=none
 kB:∀x c,X.env.cells.lookup x=some c->H c=none
 pin:∀p∈X.pn++pins,s.heap.get? p.1=some p.2/\H p.1=none/\p.1≠X.env.locals/\p.1∉X.fs/\∀v,p.2.data≠.cell v
 aU:mI X.prog X.w H s.heap
 len:σ.length=X.N.length
section
variable {X:Cx}{pins:List (Addr×Obj)}{σ:List (Option V)}{H H':Hp}{s:Shared}{h':Heap}
theorem Cx.Ok.NW(a:X.Ok){b:Addr}{o:Obj}(e:X.base.get? b=some o):b∉X.fs:=λc=>by
 have:=(a.oS.mem c).1;rw[e]at this;cases this
theorem Inv.bs(I:Inv X pins σ H s):∀b o,X.base.get? b=some o->s.heap.get? b=some o/\H b=none:=λb o e=>
 ⟨I.base.keep b o (I.ok.bs b o e).1 (I.ok.bs b o e).2 (I.ok.NW e) (I.ok.zo b o e),I.base.free b o (I.ok.bs b o e).1 (I.ok.bs b o e).2 (I.ok.zo b o e)⟩
theorem Inv.bk(I:Inv X pins σ H s):∀b o,X.base.get? b=some o->s.heap.get? b=some o:=λb o e=>(I.bs b o e).1
theorem Inv.mod(I:Inv X pins σ H s):Mod X.K X.mg X.base:=I.ok.mod
theorem Inv.kj(I:Inv X pins σ H s):X.K.In s.heap:=I.ok.mod.Rl.keeps I.bk
theorem Inv.lt(I:Inv X pins σ H s):X.env.locals<s.heap.objs.size:=let ⟨_,a,_⟩:=I.loc;a.lt
theorem Inv.sz(I:Inv X pins σ H s):X.s₀.heap.objs.size<=s.heap.objs.size:=aac I.ok.above (K' I.lt)
theorem Inv.NX(I:Inv X pins σ H s){a:Addr}(h:s.heap.objs.size<=a):a∉X.fs:=λa=>by
 obtain⟨_,o,b,_⟩:=I.ok.oS.mem a;calc absurd (R' (P' b) (aac I.sz h)) (aam _)
theorem Inv.NY(I:Inv X pins σ H s):∀x c,X.env.cells.lookup x=some c->c≠X.env.locals:=λx c e z=>by
 obtain⟨v,o,a,b⟩:=I.cell x c e;obtain⟨m,⟨g,h,i,d,f,_⟩,_⟩:=I.loc;rw[z,d]at a;cases a;rw[f]at b;cases b
theorem Inv.oS(I:Inv X pins σ H s):s.heap.FunFrames X.base X.outer:=by
 have a:∀(l:List Env),(∀b∈CU l,b∈X.fs)->X.s₀.heap.FunFrames X.base l->s.heap.FunFrames X.base l:=by
  intro l;induction l with
  |nil=>intro _ _;trivial
  |cons c r h=>
   intro g e;obtain⟨i,⟨L,o,c,j,f,k⟩,l⟩:=e;have d:L∈X.fs:=g L (by unfold CU;rw[List.filterMap_cons,c];calc X');obtain⟨m,e⟩:=I.base.slot L o f (I.ok.Ma L d) d λz=>I.ok.CV L z d;exact⟨i,⟨L,_,c,j,e,k⟩,h (λb f=>g b (by unfold CU;rw[List.filterMap_cons,c];calc Y' _ f)) l⟩
 calc a X.outer (λ_ f=>f) I.ok.oS
theorem Inv.stack(I:Inv X pins σ H s):s.heap.FunFrames X.base X.stack:=by
 rcases I.ok.SI with e|⟨e,a⟩
 ·rw[e];exact I.oS
 ·rw[e];obtain⟨m,b,_⟩:=I.loc;calc .cons (by rw[I.ok.kind];decide) a b ?_ I.oS;calc Heap.get?_none_of_le (aac I.ok.EG I.ok.above)
theorem Inv.vC(I:Inv X pins σ H s):∀b∈CU X.stack,b∈X.env.locals::X.fs:=λb a=>by
 rcases I.ok.SI with e|⟨e,b⟩
 ·rw[e]at a;exact Y' _ a
 ·rw[e]at a;unfold CU at a;rw[List.filterMap_cons,b]at a;calc a
theorem Inv.AV(I:Inv X pins σ H s):∀b∈CU X.stack,H b=none:=λb hb=>by
 rcases List.mem_cons.mp (I.vC b hb) with e|hb
 ·rw[e];exact I.free
 ·obtain⟨_,o,a,_⟩:=I.ok.oS.mem hb;calc I.base.free b o a (I.ok.Ma b hb) λz=>I.ok.CV b z hb
theorem Inv.step{g':Array GenState}{t':Nat}{d':Drawn}(I:Inv X pins σ H s)
  (j:∀b∈ch,(b∈X.ex\/X.s₀.heap.objs.size<=b)/\b≠X.env.locals/\(∀x c,X.env.cells.lookup x=some c->c≠b)/\∀p∈X.pn++pins,p.1≠b)
  (keep:∀b o,b≠X.env.locals->b∉X.fs->b∉ch->s.heap.get? b=some o->H b=none->h'.get? b=some o)
  (slot:∀b o,b≠X.env.locals->b∈X.fs->b∉ch->s.heap.get? b=some o->H b=none->∃D,h'.get? b=some {o with slots:=D}) (free:∀b o,b∉ch->s.heap.get? b=some o->H b=none->H' b=none)
  (there:∀b o,b∉ch->s.heap.get? b=some o->∃k,h'.get? b=some k)
  (J:∀b xs,H b=some (.tup xs)->H' b=some (.tup xs)) (K:∀b o u,H b=some (.y6 o u)->H' b=some (.y6 o u)) (L:∀b B,H b=some (.NS B)->∃q,H' b=some (.NS (B++q)))
  (ns:∀m,s.heap.Ns X.env.locals m->h'.Ns X.env.locals m) (M:mI X.prog X.w H' h') (N:AllBare g'):
  Inv X pins σ H' {s with heap:=h',gens:=g',drawn:=d',toks:=t'}:=by
 have t:∀b o,X.s₀.heap.get? b=some o->b≠X.env.locals:=λb o e=>W' (R' (P' e) I.ok.above);have C:∀b o,X.s₀.heap.get? b=some o->b∉X.ex->b∉ch:=λb o e a g=>by
  rcases(j b g).1 with z|z
  ·exact a z
  ·exact absurd (R' (P' e) z) (aam _)
 have d:∀x c,X.env.cells.lookup x=some c->∀v,s.heap.IsCell c v->h'.IsCell c v:=λx c e v ⟨o,h,E⟩=>by
  have y:c∉ch:=λz=>(j c z).2.2.1 x c e rfl;by_cases F:c∈X.fs
  ·obtain⟨D,q⟩:=slot c o (I.NY x c e) F y h (I.kB x c e);exact⟨_,q,E⟩
  ·exact⟨o,keep c o (I.NY x c e) F y h (I.kB x c e),E⟩
 refine⟨I.ok,I.os,N,⟨λb o e n g a=>?_,λb o e n g a=>?_,λb o e n a=>?_,λb o e a=>?_,λb xs e=>J b xs (I.base.aM b xs e),λb o xs e=>K b o xs (I.base.vA b o xs e),λb B e=>?_⟩,?_,λx c e=>?_,?_,λx c e=>?_,λp G=>?_,M,I.len⟩
 ·exact keep b o (t b o e) g (C b o e a) (I.base.keep b o e n g a) (I.base.free b o e n a)
 ·obtain⟨D,f⟩:=I.base.slot b o e n g a;obtain⟨q,A⟩:=slot b _ (t b o e) g (C b o e a) f (I.base.free b o e n a);exact⟨q,A⟩
 ·obtain⟨k,f⟩:=I.base.there b o e a;exact free b k (C b o e a) f (I.base.free b o e n a)
 ·obtain⟨k,f⟩:=I.base.there b o e a;exact there b k (C b o e a) f
 ·obtain⟨a,f⟩:=I.base.xh b B e;obtain⟨g,A⟩:=L b _ f;exact⟨a++g,by rw[A,Array.append_assoc]⟩
 ·obtain⟨m,a,O⟩:=I.loc;calc⟨m,ns m a,λi x v f A P=>?_⟩;obtain⟨u,r,l⟩:=O i x v f A P;calc⟨u,r,?_⟩;rcases l with l | ⟨k,c,e,z⟩
  ·exact .inl l
  ·exact .inr ⟨k,c,e,d x c e _ z⟩
 ·obtain⟨v,z⟩:=I.cell x c e;exact⟨v,d x c e v z⟩
 ·obtain⟨m,⟨o,_,_,h,_⟩,_⟩:=I.loc;exact free _ o (λz=>(j _ z).2.1 rfl) h I.free
 ·obtain⟨v,o,h,E⟩:=I.cell x c e;exact free c o (λz=>(j c z).2.2.1 x c e rfl) h (I.kB x c e)
 ·obtain⟨e,n,a,b,d⟩:=I.pin p G;have y:p.1∉ch:=λz=>(j p.1 z).2.2.2 p G rfl;calc⟨keep p.1 p.2 a b y e n,free p.1 p.2 y e n,a,b,d⟩
theorem Inv.un(I:Inv X pins σ H s)(u:Un X.fs [] H H' s.heap h')(f:mI X.prog X.w H' h'):Inv X pins σ H' {s with heap:=h',toks:=t'}:=by
 obtain⟨m,⟨o,a,b,c,r⟩,_⟩:=id I.loc;obtain⟨a,g⟩:=u.any c I.free nofun;exact I.step (g':=s.gens) (d':=s.drawn) (ch:=[]) (λ_ z=>nomatch z) (λb o _ a _ e n=>u.keep b o e n a nofun) (λb o _ a _ e n=>u.slot b o e n a nofun) (λb o _ e n=>u.free b o e n nofun) (λb o _ e=>u.there b o e nofun) u.aM u.vA u.xh (λa h=>by
  obtain⟨a,i,j,d,k⟩:=h;rw[c] at d;cases d;calc⟨_,i,j,g,k⟩) f I.bare
theorem Inv.call{g':Array GenState}{d':Drawn}(I:Inv X pins σ H s)(u:Un (CU X.stack) ch H H' s.heap h')(i:mI X.prog X.w H' h')(j:AllBare g')
  (f:∀b∈ch,(b∈X.ex\/X.s₀.heap.objs.size<=b)/\b≠X.env.locals/\(∀x c,X.env.cells.lookup x=some c->c≠b)/\∀p∈X.pn++pins,p.1≠b):
  Inv X pins σ H' {s with heap:=h',gens:=g',drawn:=d',toks:=t'}:=by
 obtain⟨m,⟨o,a,c,g,r⟩,_⟩:=id I.loc;obtain⟨a,d⟩:=u.any g I.free λz=>(f _ z).2.1 rfl;exact I.step (ch:=ch) f (λb o d c a e n=>u.keep b o e n (λz=>(List.mem_cons.mp (I.vC b z)).elim d c) a) (λb o _ _ a e n=>u.any e n a) (λb o a e n=>u.free b o e n a) (λb o a e=>u.there b o e a) u.aM u.vA u.xh (λc k=>by
  obtain⟨a,l,q,h,t⟩:=k;rw[g] at h;cases h;calc⟨_,l,q,d,t⟩) i j
theorem Inv.turned{a:Addr}(I:Inv X pins σ H s)(k:∀b o,b≠a->s.heap.get? b=some o->h'.get? b=some o)(j:H a=none)(g:a≠X.env.locals)
  (l:a∈X.ex\/X.s₀.heap.objs.size<=a) (r:∀x c,X.env.cells.lookup x=some c->c≠a) (t:∀p∈X.pn++pins,p.1≠a):Inv X pins σ H {s with heap:=h',toks:=t'}:=by
 have i:∀b u,H b=some u->b≠a:=λb u e z=>by rw[z,j]at e;cases e
 refine I.step (g':=s.gens) (d':=s.drawn) (ch:=[a]) (λb j=>?_) (λb o _ _ d e _=>k b o (λz=>d (by simp[z])) e) (λb o _ _ d e _=>⟨o.slots,k b o (λz=>d (by simp[z])) e⟩) (λ_ _ _ _ n=>n)
  (λb o d e=>⟨o,k b o (λz=>d (by simp[z])) e⟩) (λ_ _ e=>e) (λ_ _ _ e=>e) (λb m e=>⟨#[],by rw[e];simp⟩) (λm v=>?_) (λb u e=>?_) I.bare
 ·have e:b=a:=by simpa using j
  subst e;exact⟨l,g,r,t⟩
 ·obtain⟨o,a,j,l,r⟩:=v;exact⟨o,a,j,k _ o (Ne.symm g) l,r⟩
 ·calc(I.aU b u e).aK (λc v d q=>k c v ?_ q) (λ_ q=>q) λ_ _ q=>q;rcases d with z | z
  ·rw[z];exact i b u e
  ·calc i c _ z
theorem Inv.tok(I:Inv X pins σ H s)(t:Nat):Inv X pins σ H {s with toks:=t}:=I.un (h':=s.heap) (t':=t) Un.refl I.aU
theorem Inv.kept(I:Inv X pins σ H s)(k:∀b u,s.heap.get? b=some u->h'.get? b=some u):Inv X pins σ H {s with heap:=h',toks:=t'}:=I.un (Un.kept k) (I.aU.kept k)
theorem Inv.laid{a:Addr}{o:HO}(I:Inv X pins σ H s)(k:∀b u,s.heap.get? b=some u->h'.get? b=some u)(c:s.heap.objs.size<=a)(d:cy X.prog X.w (upd H a o) h' a o):
  Inv X pins σ (upd H a o) {s with heap:=h',toks:=t'}:=I.un (Un.laid k c (I.aU.fresh c)) (I.aU.laid k c d)
theorem Inv.write{x e:Addr}{o:HO}(I:Inv X pins σ H s)(c:SE (H x))(d:e=x\/H e=some (.own x))(k:∀b u,b≠e->s.heap.get? b=some u->h'.get? b=some u)(f:∃u,h'.get? e=some u)
  (a:cy X.prog X.w (upd H x o) h' x o):Inv X pins σ (upd H x o) {s with heap:=h',toks:=t'}:=I.un (Un.write c d k f) (I.aU.write c d k f a)
theorem Inv.vD{a:List (Addr×Obj)}(I:Inv X pins σ H s)(h:∀p∈a,s.heap.get? p.1=some p.2/\H p.1=none/\p.1≠X.env.locals/\p.1∉X.fs/\∀v,p.2.data≠.cell v):Inv X a σ H s:=
 ⟨I.ok,I.os,I.bare,I.base,I.loc,I.cell,I.free,I.kB,λp a=>(List.mem_append.mp a).elim (λz=>I.pin p (List.mem_append_left _ z)) (h p),I.aU,I.len⟩
theorem xi{N:List Str}(c:N.Nodup){i j:Nat}{x:Str}(a:N[i]?=some x)(b:N[j]?=some x):i=j:=by
 obtain⟨e,d⟩:=List.getElem?_eq_some_iff.mp a;obtain⟨g,e⟩:=List.getElem?_eq_some_iff.mp b;calc(List.getElem_inj c).mp (d.trans e.symm)
theorem CW{M:Model}{i:Nat}{x:Str}{v:V}{u:Value}{Q:Unit->Shared->Prop}(I:Inv X pins σ H s)(hN:X.N.Nodup)(O:X.N[i]?=some x)(C:Loc X.env.scope x)(r:RelV v u)
  (h:∀s',Inv X pins (σ.set i (some v)) H s'->(∃a,Heap.SameBut a s.heap s'.heap/\(a=X.env.locals\/X.env.cells.lookup x=some a))->Q ⟨⟩ s') (hf:X.fn x=true\/X.env.scope.names.lookup x=some .local:=by grind):wpAny M A (storeName X.env x u) Q E s:=by
 obtain⟨m,U,hl⟩:=id I.loc;have Ya:(X.env.scope.kind == .class||(X.env.scope.kind == .module&&X.env.locals !=X.env.globals))=false:=by rw[I.ok.kind];rfl
 have G:i<σ.length:=by rw[I.len];exact(List.getElem?_eq_some_iff.mp O).1
 have W:=I.NY;have l:∀{a:Addr} {h':Heap},(∃o,s.heap.get? a=some o/\H a=none)->Heap.SameBut a s.heap h'->mI X.prog X.w H h':=λ{a h'} v g b M e=>by
  obtain⟨_,_,Md⟩:=v;calc(I.aU b M e).aK (λc R B q=>(g.2 c ?_).trans q) (λ_ q=>q) λ_ _ q=>q;rintro rfl;rcases B with rfl|B
  ·rw[Md]at e;cases e
  ·rw[Md]at B;cases B
 rcases C with J|J
 ·calc wpAny_storeName_local J U (λh' a g=>?_) Ya;obtain⟨v,_,_,M,_⟩:=id U;refine h _ ⟨I.ok,I.os,I.bare,⟨λb o e n K C=>?_,λb o e n K C=>?_,I.base.free,λb o e C=>?_,I.base.aM,I.base.vA,I.base.xh⟩,⟨_,a,λj y Y t F Z=>?_⟩,λy c e=>?_,I.free,I.kB,λp hp=>?_,l ⟨v,M,I.free⟩ g,by simpa using I.len⟩ ⟨_,g,.inl rfl⟩
  ·exact(g.2 b (W' (R' (P' e) I.ok.above))).trans (I.base.keep b o e n K C)
  ·obtain⟨sl,t⟩:=I.base.slot b o e n K C;exact⟨sl,(g.2 b (W' (R' (P' e) I.ok.above))).trans t⟩
  ·obtain⟨o',t⟩:=I.base.there b o e C;exact⟨o',(g.2 b (W' (R' (P' e) I.ok.above))).trans t⟩
  ·by_cases L:j=i
   ·subst L;rw[O] at t;cases t;rw[List.getElem?_set_self G] at F
    cases F;exact⟨u,r,.inl ⟨J,nofun⟩⟩
   ·rw[List.getElem?_set_ne (Ne.symm L)] at F;obtain⟨u',r',q⟩:=hl j y Y t F Z;calc⟨u',r',?_⟩;rcases q with⟨k,e⟩ | ⟨k,c,e,z⟩
    ·calc .inl ⟨k,?_⟩;have:y≠x:=λe=>L (xi hN t (e▸O));simp[this,e]
    ·exact .inr ⟨k,c,e,z.sameBut g (W y c e)⟩
  ·obtain⟨R,z⟩:=I.cell y c e;exact⟨R,z.sameBut g (W y c e)⟩
  ·obtain⟨e,n,S,nf,d⟩:=I.pin p hp;exact⟨(g.2 p.1 S).trans e,n,S,nf,d⟩
 ·have NZ:X.fn x=true:=by
   rcases hf with z|z
   ·exact z
   ·rw[z]at J;cases J
  obtain⟨c,B⟩:=I.ok.has x (.inl J);obtain⟨R,z⟩:=I.cell x c B;calc wpAny_storeName_cell I.ok.kind J B z (λh' Mf g=>?_);obtain⟨oc,WQ,Yb⟩:=id z;refine h {s with heap:=h'} ⟨I.ok,I.os,I.bare,⟨λb o e n K C=>?_,λb o e n K C=>?_,I.base.free,λb o e C=>?_,I.base.aM,I.base.vA,I.base.xh⟩,⟨m,U.sameBut g (Ne.symm (W x c B)),λj y Y t F Z=>?_⟩,λy T e=>?_,I.free,I.kB,λp hp=>?_,l ⟨oc,WQ,I.kB x c B⟩ g,by simpa using I.len⟩ ⟨c,g,.inr B⟩
  ·exact(g.2 b (W' (R' (P' e) (I.ok.Rm x c NZ B)))).trans (I.base.keep b o e n K C)
  ·obtain⟨sl,t⟩:=I.base.slot b o e n K C;exact⟨sl,(g.2 b (W' (R' (P' e) (I.ok.Rm x c NZ B)))).trans t⟩
  ·obtain⟨o',t⟩:=I.base.there b o e C;exact⟨o',(g.2 b (W' (R' (P' e) (I.ok.Rm x c NZ B)))).trans t⟩
  ·by_cases L:j=i
   ·subst L;rw[O] at t;cases t;rw[List.getElem?_set_self G] at F
    cases F;exact⟨u,r,.inr ⟨.inl J,c,B,Mf⟩⟩
   ·rw[List.getElem?_set_ne (Ne.symm L)] at F;obtain⟨u',r',q⟩:=hl j y Y t F Z;calc⟨u',r',?_⟩;rcases q with q | ⟨k,T,e,z'⟩
    ·exact .inl q
    ·calc .inr ⟨k,T,e,z'.sameBut g ?_⟩;rintro rfl;exact L (xi hN t (I.ok.inj _ _ _ e B▸O))
  ·by_cases P:T=c
   ·subst P;exact⟨_,Mf⟩
   ·obtain⟨a,b⟩:=I.cell y T e;exact⟨a,b.sameBut g P⟩
  ·obtain⟨e,n,S,nf,d⟩:=I.pin p hp;calc⟨(g.2 p.1 ?_).trans e,n,S,nf,d⟩;intro q;rw[q,WQ]at e;have a:oc=p.2:=Option.some.inj e;calc d R (by rw[<-a];calc Yb)
theorem nU{M:Model}{i:Nat}{x:Str}{v:V}{u:Value}{Q:Unit->Shared->Prop}(I:Inv X pins σ H s)(a:X.N.Nodup)(b:X.N[i]?=some x)(c:Loc X.env.scope x)(r:RelV v u)
  (h:∀s',Inv X pins (σ.set i (some v)) H s'->Q ⟨⟩ s') (d:X.fn x=true\/X.env.scope.names.lookup x=some .local:=by grind):wpAny M A (storeName X.env x u) Q E s:=
 CW I a b c r (λs' e _=>h s' e) d
theorem Inv.SK{s':Shared}(I:Inv X pins σ H s)(f:s'.os=s.os)(u:Un (CU X.stack) ch H H' s.heap s'.heap)(g:mI X.prog X.w H' s'.heap)(h:AllBare s'.gens)
  (i:∀b∈ch,(b∈X.ex\/X.s₀.heap.objs.size<=b)/\b≠X.env.locals/\(∀x c,X.env.cells.lookup x=some c->c≠b)/\∀p∈X.pn++pins,p.1≠b):Inv X pins σ H' s':=by
 obtain⟨h',a,d,t',b⟩:=s';have e:b=s.os:=f;subst e;calc I.call (g':=a) (t':=t') (d':=d) u g h i
end
abbrev XK:=Value->Option Addr->Hp->Prop
abbrev St:=List (Option V)
abbrev VK:=V->Hp->Prop
abbrev TE:=St->Hp->VK->Prop
abbrev TT:=St->Hp->(Bool->Hp->Prop)->Prop
abbrev TA:=St->Hp->(List V->Hp->Prop)->Prop
structure Ends where
 nx:St->Hp->Prop
 rt:VK
 bk:St->Hp->Prop:=λ_ _=>False
 ct:St->Hp->Prop:=λ_ _=>False
abbrev TS:=Ends->St->Hp->Prop
def EP(X:Cx)(pins:List (Addr×Obj))(σ:St)(Q:VK)(u:Value)(s':Shared):Prop:=∃v a,Inv X pins σ a s'/\RelV v u/\Q v a
def TP(X:Cx)(pins:List (Addr×Obj))(σ:St)(Q:Bool->Hp->Prop)(b:Bool)(s':Shared):Prop:=∃a,Inv X pins σ a s'/\Q b a
def AP(X:Cx)(pins:List (Addr×Obj))(σ:St)(Q:List V->Hp->Prop)(us:List Value)(s':Shared):Prop:=∃vs a,Inv X pins σ a s'/\Vals vs us/\Q vs a
def SP(X:Cx)(pins:List (Addr×Obj))(D:Ends)(f:Flow)(s':Shared):Prop:=
 match f with
 | .next=>∃a b,Inv X pins a b s'/\D.nx a b
 | .brk=>∃a b,Inv X pins a b s'/\D.bk a b
 | .cont=>∃a b,Inv X pins a b s'/\D.ct a b
 | .ret u=>∃v a b,Inv X pins a b s'/\RelV v u/\D.rt v b
structure PE(X:Cx)(e:Expr)(t:TE):Prop where
 out:
  ∀(pins:List (Addr×Obj)) (s:Shared) (σ:St) (H:Hp) (Q:VK),Inv X pins σ H s->t σ H Q->wpAny (model X.prog X.w) X.A (eval e X.env) (EP X pins σ Q) X.xe s
instance {X:Cx}{e:Expr}{t:TE}:CoeFun (PE X e t) λ_=>
 ∀(pins:List (Addr×Obj)) (s:Shared) (σ:St) (H:Hp) (Q:VK),Inv X pins σ H s->t σ H Q->wpAny (model X.prog X.w) X.A (eval e X.env) (EP X pins σ Q) X.xe s:=⟨PE.out⟩
structure PT(X:Cx)(e:Expr)(t:TT):Prop where
 out:
  ∀(pins:List (Addr×Obj)) (s:Shared) (σ:St) (H:Hp) (Q:Bool->Hp->Prop),Inv X pins σ H s->t σ H Q->wpAny (model X.prog X.w) X.A (isTrue e X.env (eval e X.env)) (TP X pins σ Q) X.xe s
instance {X:Cx}{e:Expr}{t:TT}:CoeFun (PT X e t) λ_=>
 ∀(pins:List (Addr×Obj)) (s:Shared) (σ:St) (H:Hp) (Q:Bool->Hp->Prop),Inv X pins σ H s->t σ H Q->wpAny (model X.prog X.w) X.A (isTrue e X.env (eval e X.env)) (TP X pins σ Q) X.xe s:=⟨PT.out⟩
structure PW(X:Cx)(e:Expr)(t:TT):Prop where
 out:
  ∀(whole:Sem Value) (pins:List (Addr×Obj)) (s:Shared) (σ:St) (H:Hp) (Q:Bool->Hp->Prop),Inv X pins σ H s->t σ H Q->wpAny (model X.prog X.w) X.A (isTrue e X.env whole) (TP X pins σ Q) X.xe s
instance {X:Cx}{e:Expr}{t:TT}:CoeFun (PW X e t) λ_=>
 ∀(a:Sem Value) (pins:List (Addr×Obj)) (s:Shared) (σ:St) (H:Hp) (Q:Bool->Hp->Prop),Inv X pins σ H s->t σ H Q->wpAny (model X.prog X.w) X.A (isTrue e X.env a) (TP X pins σ Q) X.xe s:=⟨PW.out⟩
theorem PW.pt{X:Cx}{e:Expr}{t:TT}(h:PW X e t):PT X e t:=⟨h.out _⟩
structure PA(X:Cx)(es:List Expr)(t:TA):Prop where
 out:
  ∀(pos:Pos) (pins:List (Addr×Obj)) (s:Shared) (σ:St) (H:Hp) (Q:List V->Hp->Prop),Inv X pins σ H s->t σ H Q->wpAny (model X.prog X.w) X.A (spliced (backTo pos (starEach es X.env))) (AP X pins σ Q) X.xe s
instance {X:Cx}{b:List Expr}{t:TA}:CoeFun (PA X b t) λ_=>
 ∀(a:Pos) (pins:List (Addr×Obj)) (s:Shared) (σ:St) (H:Hp) (Q:List V->Hp->Prop),Inv X pins σ H s->t σ H Q->wpAny (model X.prog X.w) X.A (spliced (backTo a (starEach b X.env))) (AP X pins σ Q) X.xe s:=⟨PA.out⟩
structure PS(X:Cx)(st:Stmt)(t:TS):Prop where
 out:
  ∀(pins:List (Addr×Obj)) (s:Shared) (σ:St) (H:Hp) (D:Ends),Inv X pins σ H s->t D σ H->wpAny (model X.prog X.w) X.A (exec st X.env) (SP X pins D) X.xe s
instance {X:Cx}{a:Stmt}{t:TS}:CoeFun (PS X a t) λ_=>
 ∀(pins:List (Addr×Obj)) (s:Shared) (σ:St) (H:Hp) (D:Ends),Inv X pins σ H s->t D σ H->wpAny (model X.prog X.w) X.A (exec a X.env) (SP X pins D) X.xe s:=⟨PS.out⟩
structure wX(X:Cx)(st:List Stmt)(t:TS):Prop where
 out:
  ∀(pins:List (Addr×Obj)) (s:Shared) (σ:St) (H:Hp) (D:Ends),Inv X pins σ H s->t D σ H->wpAny (model X.prog X.w) X.A (execs st X.env) (SP X pins D) X.xe s
instance {X:Cx}{a:List Stmt}{t:TS}:CoeFun (wX X a t) λ_=>
 ∀(pins:List (Addr×Obj)) (s:Shared) (σ:St) (H:Hp) (D:Ends),Inv X pins σ H s->t D σ H->wpAny (model X.prog X.w) X.A (execs a X.env) (SP X pins D) X.xe s:=⟨wX.out⟩
theorem dq{α:Type}{t:Sem α}{Q b:α->Shared->Prop}{M:Model}{s:Shared}(h:wpAny M A t Q E s)(c:∀a s,Q a s->b a s):wpAny M A t b E s:=aae h c λ_ _ x=>x
end
section
variable {pins:List (Addr×Obj)}{pos:Pos}{σ:St}{x:Str}{u:Value}{E Q:Value->Shared->Prop}
section
variable {X:Cx}
def EH(i:Nat):TE:=λσ H Q=>∃v,σ[i]?=some (some v)/\Q v H
def tC(v:V):TE:=λ_ H Q=>Q v H
theorem EI{i:Nat}(c:X.N[i]?=some x)(j:SH X.env.scope x)(d:(x==("__debug__":Str))=false:=by decide)(k:(x==("__classdict__":Str))=false:=by decide):PE X (.Name x pos) (EH i):=by
 walk_at "xc";obtain⟨v,e,h⟩:=h;obtain⟨m,n,o⟩:=I.loc;obtain⟨u,r,l⟩:=o i x v c e j;have a:EP X pins σ Q u s:=⟨v,H,I,r,h⟩
 rcases l with⟨b,e⟩|⟨b,c,f,g⟩
 ·exact wpAny_Name (wpAny_loadName_local I.ok.kind b n e a) d
 ·rcases b with b | b
  ·exact wpAny_Name (wpAny_loadName_cell I.ok.kind b f g a) d
  ·calc wpAny_Name (wpAny_loadName_free I.ok.kind b f g a k) d
theorem ai{i j pos}:PE X (.Constant (.int i) j pos) (tC (.int i)):=.mk λ_ _ _ H _ I h=>wpAny_Constant_int ⟨.int i,H,I.tok _,⟨_,rfl⟩,h⟩
theorem fV{b j pos}:PE X (.Constant (.bool b) j pos) (tC (.bl b)):=.mk λ_ _ _ H _ I h=>Constant_bool ⟨.bl b,H,I,rfl,h⟩
theorem hX{j pos}:PE X (.Constant .none j pos) (tC .bH):=.mk λ_ _ _ H _ I h=>Constant_none ⟨.bH,H,I,rfl,h⟩
theorem aC{x j pos}:PE X (.Constant (.str x) j pos) (tC (.str x)):=.mk λ_ _ _ H _ I h=>Calls.Constant_str ⟨.str x,H,I.tok _,⟨_,rfl⟩,h⟩
def Gl(X:Cx)(x:Str):Prop:=X.env.kindOf x=some .globalImplicit
theorem qS{s:Shared}{H:Hp}(I:Inv X pins σ H s)(a:Gl X x)(b:X.mg x=some u)(h:Q u s)
  (c:(x==("__debug__":Str))=false:=by decide):wpAny (model X.prog X.w) X.A (eval (.Name x pos) X.env) Q E s:=
 Calls.Name_function_global I.ok.kind a (Calls.loadGlobal_global (by rw[I.ok.glob];calc I.mod.glob.keeps I.bk) b h) c
theorem oT{s:Shared}{H:Hp}(I:Inv X pins σ H s)(a:Gl X x)(b:X.mg x=none)(c:bootBuiltins x=some u)(h:Q u s)
  (d:x≠"__name__":=by decide) (e:(x==("__debug__":Str))=false:=by decide):wpAny (model X.prog X.w) X.A (eval (.Name x pos) X.env) Q E s:=by
 obtain⟨i,f,g⟩:=I.mod.blt;calc Calls.Name_function_global I.ok.kind a (Calls.loadGlobal_builtin (by rw[I.ok.glob];calc I.mod.glob.keeps I.bk) b (by rw[I.ok.blt];calc f.keeps I.bk) ((g x d).trans c) h) e
theorem AX{v:V}(a:Gl X x)(b:X.mg x=some u)(r:RelV v u)(c:(x==("__debug__":Str))=false:=by decide):PE X (.Name x pos) (tC v):=
 .mk λ_ _ _ H _ I h=>qS I a b ⟨v,H,I,r,h⟩ c
theorem cF{v:V}(a:Gl X x)(b:X.mg x=none)(c:bootBuiltins x=some u)(r:RelV v u)(d:x≠"__name__":=by decide)(e:(x==("__debug__":Str))=false:=by decide):PE X (.Name x pos) (tC v):=
 .mk λ_ _ _ H _ I h=>oT I a b c ⟨v,H,I,r,h⟩ d e
variable {a b:Expr}{ta tb:TE}{pos:Pos}
structure PC(X:Cx)(op:CmpOp)(a b:Expr)(t:TE):Prop where
 out:
  ∀(pins:List (Addr×Obj)) (s:Shared) (σ:St) (H:Hp) (Q:VK),Inv X pins σ H s->t σ H Q->
   wpAny (model X.prog X.w) X.A (eval a X.env) (λv s₁=>wpAny (model X.prog X.w) X.A (eval b X.env) (λu s₂=>wpAny (model X.prog X.w) X.A (compareOp op v u) (EP X pins σ Q) X.xe s₂) X.xe s₁) X.xe s
instance {X:Cx}{e:CmpOp}{a b:Expr}{t:TE}:CoeFun (PC X e a b t) λ_=>
 ∀(pins:List (Addr×Obj)) (s:Shared) (σ:St) (H:Hp) (Q:VK),Inv X pins σ H s->t σ H Q->
  wpAny (model X.prog X.w) X.A (eval a X.env) (λv c=>wpAny (model X.prog X.w) X.A (eval b X.env) (λu d=>wpAny (model X.prog X.w) X.A (compareOp e v u) (EP X pins σ Q) X.xe d) X.xe c) X.xe s:=⟨PC.out⟩
theorem EJ(b:Expr){a:CmpOp}(h:a≠.In)(c:a≠.NotIn):behindInMarks a b=false:=by
 have d:(a==CmpOp.In)=false:=by cases a<;>first|rfl|exact absurd rfl h
 have e:(a==CmpOp.NotIn)=false:=by cases a<;>first|rfl|exact absurd rfl c
 cases b<;>simp[behindInMarks,d,e]
def tB(t:TE):TT:=λσ H Q=>t σ H λx a=>∃c,x=.bl c/\Q c a
theorem N0{c:CmpOp}{t:TE}(h:PC X c a b t)(e:behindInMarks c b=false:=by first|calc EJ _ ∅ ∅|rfl):PT X (.Compare a [c] [b] pos) (tB t):=by
 calc⟨?_⟩;intro pins s σ H Q I c;calc wpAny_isTrue_Compare1 (dq (h pins s σ H _ I c) λv f e=>dq e λu c f=>dq f λc h g=>?_) e;obtain⟨x,i,j,k,l⟩:=g;obtain⟨d,rfl,q⟩:=l
 cases k;calc aaB ⟨i,j,q⟩
theorem N8{e:Expr}{t:TE}(h:PE X e t)(b:∀a,isTrue e X.env a=(do let v <-a;standAt e.pos;holding [v] (truthy v)):=by intro _;rfl):PT X e (tB t):=by
 calc⟨?_⟩;intro pins s σ H Q I a;calc isTrue_plain (dq (h pins s σ H _ I a) λv e c=>?_) (b _);obtain⟨x,f,g,i,j⟩:=c;obtain⟨d,rfl,q⟩:=j
 cases i;calc aaB ⟨f,g,q⟩
variable {tA WR:TT}{rest:List Expr}
def N9(t u:TT):TT:=λσ H Q=>t σ H λc a=>if c=true then u σ a Q else Q false a
def Yc(t u:TT):TT:=λσ H Q=>t σ H λc a=>if c=true then Q true a else u σ a Q
def Oa(t:TT):TT:=λσ H Q=>t σ H λc a=>Q (!c) a
theorem pw_and1(b:PT X a tA):PW X (.BoolOp .And [a] pos) tA:=by
 calc⟨?_⟩;intro d pins s σ H Q I h;refine isTrue_and (dq (b pins s σ H Q I h) λc f e=>?_)
 cases c with
 |true=>calc isTrue_and_nil e
 |false=>calc e
theorem pw_or1(b:PT X a tA):PW X (.BoolOp .Or [a] pos) tA:=by
 calc⟨?_⟩;intro d pins s σ H Q I h;refine isTrue_or (dq (b pins s σ H Q I h) λc f e=>?_)
 cases c with
 |false=>calc isTrue_or_nil e
 |true=>calc e
theorem pw_and(g:PT X a tA)(i:PW X (.BoolOp .And (b::rest) pos) WR):PW X (.BoolOp .And (a::b::rest) pos) (N9 tA WR):=by
 calc⟨?_⟩;intro j pins s σ H Q I h;calc isTrue_and (dq (g pins s σ H _ I h) λc k l=>?_);obtain⟨d,e,f⟩:=l
 cases c with
 |true=>calc i j pins k σ d Q e f
 |false=>calc⟨d,e,f⟩
theorem pw_or(g:PT X a tA)(i:PW X (.BoolOp .Or (b::rest) pos) WR):PW X (.BoolOp .Or (a::b::rest) pos) (Yc tA WR):=by
 calc⟨?_⟩;intro j pins s σ H Q I h;calc isTrue_or (dq (g pins s σ H _ I h) λc k l=>?_);obtain⟨d,e,f⟩:=l
 cases c with
 |true=>calc⟨d,e,f⟩
 |false=>calc i j pins k σ d Q e f
theorem cp(b:PT X a tA):PT X (.UnaryOp .Not a pos) (Oa tA):=by
 walk_at "xc";exact isTrue_not (b pins s σ H (λc d=>Q (!c) d) I h)
def EK(ta tb:TE):TE:=λσ H Q=>ta σ H λx a=>∃c,x=.bl c/\if c=true then tb σ a Q else Q (.bl false) a
def EL(ta:TE):TE:=λσ H Q=>ta σ H λx a=>∃c,x=.bl c/\Q (.bl (!c)) a
theorem jO{op}{t:TE}(h:PE X a t):PE X (.BoolOp op [a] pos) t:=.mk λpins s σ H Q I b=>BoolOp_one (h pins s σ H Q I b)
theorem iU(g:PE X a ta)(i:PE X (.BoolOp .And (b::rest) pos) tb):PE X (.BoolOp .And (a::b::rest) pos) (EK ta tb):=by
 walk_at "xc";refine BoolOp_and (dq (g pins s σ H _ I h) λv j k=>?_);obtain⟨x,e,f,l,d⟩:=k;obtain⟨c,rfl,d⟩:=d
 cases l;refine aaB ?_
 cases c with
 |true=>calc i pins j σ e Q f d
 |false=>calc⟨.bl false,e,f,rfl,d⟩
theorem Ob(d:PE X a ta):PE X (.UnaryOp .Not a pos) (EL ta):=by
 walk_at "xc";refine UnaryOp_ (dq (d pins s σ H _ I h) λv j e=>?_);obtain⟨x,f,g,i,b⟩:=e;obtain⟨c,rfl,b⟩:=b
 cases i;calc not_of (aaB ⟨.bl (!c),f,g,rfl,b⟩)
def Yd(t:TT)(ta tb:TE):TE:=λσ H Q=>t σ H λc a=>if c=true then ta σ a Q else tb σ a Q
theorem EM{c:Expr}(j:PT X c tA)(k:PE X a ta)(l:PE X b tb):PE X (.IfExp c a b pos) (Yd tA ta tb):=by
 walk_at "xc";refine wpAny_IfExp (dq (j pins s σ H _ I h) λd e c=>?_);obtain⟨f,g,i⟩:=c
 cases d with
 |true=>calc k pins e σ f Q g i
 |false=>calc l pins e σ f Q g i
end
end
section
variable {X:Cx}{e tg:Expr}{pins:List (Addr×Obj)}{i:Nat}{σ:St}{x:Str}{te:TE}{K:W.Frag}
def aN(K:W.Frag)(H:Hp)(a:Addr)(xs:List V):Prop:=
 Rd H a (.lst xs)\/
  ∃(o:Obj) (b:Array Value) (n:Nat),K.lookup a=some o/\o.cls=.type "list"/\o.dict=none/\o.data=.seq b n/\b.size<=sizeLine/\Vals xs b.toList
def bL(K:W.Frag)(H:Hp)(a:Addr)(xs:List V):Prop:=
 Rd H a (.tup xs)\/
  ∃(o:Obj) (b:Array Value) (n:Nat),K.lookup a=some o/\o.cls=.type "tuple"/\o.data=.seq b n/\b.size<=sizeLine/\Vals xs b.toList
def Ye:Value->Option V
 | .none=>some .bH
 | .bool b=>some (.bl b)
 | .int i _=>some (.int i)
 | .str x _=>some (.str x)
 | .bytes b _=>some (.AU b)
 | .float b _=>some (.L9 b)
 | .ref a=>some (.ref a)
 | .type n=>some (.ty n)
 |_=>none
theorem RelV.abs{x:V}{u:Value}(r:RelV x u):Ye u=some x:=by
 cases x with
 |bH=>cases r;rfl
 |bl _=>cases r;rfl
 |int _=>obtain⟨t,rfl⟩:=r;rfl
 |str _=>obtain⟨t,rfl⟩:=r;rfl
 |AU _=>obtain⟨t,rfl⟩:=r;rfl
 |L9 _=>obtain⟨t,rfl⟩:=r;rfl
 |ref _=>cases r;rfl
 |ty _=>cases r;rfl
theorem RelV.inj{x y:V}{u:Value}(r:RelV x u)(q:RelV y u):x=y:=Option.some.inj (r.abs.symm.trans q.abs)
theorem Vals.inj:∀{xs ys:List V}{us:List Value},Vals xs us->Vals ys us->xs=ys
 |_,_,_,.nil,.nil=>rfl
 |_,_,_,.cons r t,.cons a b=>by rw[r.inj a,Vals.inj t b]
section
variable {X:Cx}{pins:List (Addr×Obj)}{σ:St}{H:Hp}{s:Shared}{a:Addr}{xs ys:List V}
theorem aN.of(h:H a=some (.lst xs)):aN K H a xs:=.inl (.inl h)
theorem bL.of(h:H a=some (.tup xs)):bL K H a xs:=.inl (.inl h)
theorem Inv.list(I:Inv X pins σ H s)(h:aN X.K H a xs):∃b:List Value,Vals xs b/\PlainL s.heap a b.toArray/\xs.length<=sizeLine:=by
 rcases h with h|⟨o,b,n,c,d,f,g,i,r⟩
 ·obtain⟨z,b,n,r,e⟩:=h.ok I.aU;exact⟨b,r,⟨_,n,e,rfl,rfl,rfl⟩,z⟩
 ·calc⟨b.toList,r,⟨o,n,I.kj a o c,d,f,by simpa using g⟩,?_⟩;have e:=r.length;simp only[Array.length_toList]at e;lia
theorem Inv.tuple(I:Inv X pins σ H s)(h:bL X.K H a xs):∃b:List Value,Vals xs b/\IsTup s.heap a b.toArray/\xs.length<=sizeLine:=by
 rcases h with h|⟨o,b,n,c,d,f,g,r⟩
 ·obtain⟨z,b,r,p⟩:=h.ok I.aU;exact⟨b,r,p,z⟩
 ·calc⟨b.toList,r,⟨o,I.kj a o c,d,n,by simpa using f⟩,?_⟩;have e:=r.length;simp only[Array.length_toList]at e;lia
theorem Inv.xj(I:Inv X pins σ H s)(h:aN X.K H a xs)(h':aN X.K H a ys):xs=ys:=by
 obtain⟨f,r,⟨o,n,e,_,_,d⟩,_⟩:=I.list h;obtain⟨g,i,⟨j,k,b,_,_,c⟩,_⟩:=I.list h';rw[e]at b;cases b;rw[d]at c;injection c with h _
 have:f=g:=by simpa using congrArg Array.toList h
 subst this;calc r.inj i
theorem Inv.uB(I:Inv X pins σ H s)(h:bL X.K H a xs)(h':bL X.K H a ys):xs=ys:=by
 obtain⟨f,r,⟨o,e,_,n,d⟩,_⟩:=I.tuple h;obtain⟨g,i,⟨j,b,_,k,c⟩,_⟩:=I.tuple h';rw[e]at b;cases b;rw[d]at c;injection c with h _
 have:f=g:=by simpa using congrArg Array.toList h
 subst this;calc r.inj i
end
abbrev Cx.tR(X:Cx)(E:Value->Shared->Prop):Cx:={X with xe:=E}
abbrev Cx.J3(X:Cx):Cx:=X.tR λ_ _=>False
theorem Cx.Ok.tR(a:X.Ok)(E:Value->Shared->Prop):(X.tR E).Ok:=
 ⟨a.mod,a.kind,a.glob,a.blt,a.above,a.inj,a.has,a.Rm,a.hd,a.frames,a.SI,a.WN,a.bs,a.EG,a.zo,a.CV,a.oS,a.Ma⟩
theorem Cx.Ok.kC{E:Value->Shared->Prop}(a:(X.tR E).Ok):X.Ok:=
 ⟨a.mod,a.kind,a.glob,a.blt,a.above,a.inj,a.has,a.Rm,a.hd,a.frames,a.SI,a.WN,a.bs,a.EG,a.zo,a.CV,a.oS,a.Ma⟩
section
variable {X:Cx}{pins:List (Addr×Obj)}{σ:St}{H:Hp}{s:Shared}{E:Value->Shared->Prop}
theorem Inv.tR(I:Inv X pins σ H s)(E:Value->Shared->Prop):Inv (X.tR E) pins σ H s:=⟨I.ok.tR E,I.os,I.bare,I.base,I.loc,I.cell,I.free,I.kB,I.pin,I.aU,I.len⟩
theorem Inv.kC(I:Inv (X.tR E) pins σ H s):Inv X pins σ H s:=⟨I.ok.kC,I.os,I.bare,I.base,I.loc,I.cell,I.free,I.kB,I.pin,I.aU,I.len⟩
theorem SP.kC{D:Ends}{f:Flow}{s':Shared}(h:SP (X.tR E) pins D f s'):SP X pins D f s':=by
 cases f with
 |next=>obtain⟨a,b,I,q⟩:=h;calc⟨a,b,I.kC,q⟩
 |brk=>obtain⟨a,b,I,q⟩:=h;calc⟨a,b,I.kC,q⟩
 |cont=>obtain⟨a,b,I,q⟩:=h;calc⟨a,b,I.kC,q⟩
 |ret u=>obtain⟨v,a,b,I,r,q⟩:=h;calc⟨v,a,b,I.kC,r,q⟩
theorem wX.J3{a:List Stmt}{t:TS}(h:wX X.J3 a t):wX X a t:=.mk λpins s σ H D I a=>
 aae (h pins s σ H D (I.tR _) a) (λ_ _ q=>q.kC) λ_ _ z=>aak z
end
section
variable {X:Cx}{st:Stmt}{rest:List Stmt}{t u:TS}{e:Expr}{te:TE}{pos:Pos}
def EN:TS:=λD σ H=>D.nx σ H
def tS(t u:TS):TS:=λD σ H=>t {D with nx:=u D} σ H
theorem aH:wX X [] EN:=.mk λ_ _ σ H _ I h=>wpAny_execs_nil ⟨σ,H,I,h⟩
theorem ag(a:PS X st t)(b:wX X rest u):wX X (st::rest) (tS t u):=by
 walk_at "xd";refine wpAny_execs_cons (dq (a pins s σ H {D with nx:=u D} I h) λf c q=>?_)
 cases f with
 |next=>
  obtain⟨a,d,e,q⟩:=q;calc b pins c a d D e q
 |ret v=>calc q
 |brk=>calc q
 |cont=>calc q
theorem ak(a:PS X st t):wX X [st] t:=by
 walk_at "xd";refine wpAny_execs_cons (dq (a pins s σ H D I h) λf b q=>?_)
 cases f with
 |next=>calc wpAny_execs_nil q
 |ret v=>calc q
 |brk=>calc q
 |cont=>calc q
theorem Inv.quiet{H:Hp}{s:Shared}(I:Inv X pins σ H s):interactive X.env=false:=by simp[interactive,I.ok.kind]
def AY(te:TE):TS:=λD σ H=>te σ H λ_ a=>D.nx σ a
theorem J4(a:PE X e te)(b:swapsWith e none pos.line X.env=pure false:=by rfl):PS X (.Expr e pos) (AY te):=by
 walk_at "xd";exact wpAny_Expr_any (dq (a pins s σ H _ I h) λv g ⟨x,c,d,i,f⟩=>⟨σ,c,d,f⟩) I.quiet b
def Oc(te:TE):TS:=λD σ H=>te σ H D.rt
theorem aD(a:PE X e te):PS X (.Return (some e) pos) (Oc te):=by
 walk_at "xd";exact wpAny_Return_some (dq (a pins s σ H _ I h) λv g ⟨x,b,c,d,f⟩=>⟨x,σ,b,c,d,f⟩)
def CZ(c:TT)(t u:TS):TS:=λD σ H=>c σ H λb a=>if b=true then t D σ a else u D σ a
theorem aR{c:Expr}{a b:List Stmt}{e:TT}(k:PT X c e)(l:wX X a t)(m:wX X b u):PS X (.If c a b pos) (CZ e t u):=by
 walk_at "xd";refine wpAny_If (dq (k pins s σ H _ I h) λd f a=>?_);obtain⟨g,i,j⟩:=a
 cases d with
 |true=>calc l pins f σ g D i j
 |false=>calc m pins f σ g D i j
def zp:TS:=λ_ _ _=>False
theorem cV:PS X st zp:=.mk λ_ _ _ _ _ _ h=>h.elim
end
abbrev TG:=V->St->Hp->(St->Hp->Prop)->Prop
abbrev Mg:=List V->St->Hp->(St->Hp->Prop)->Prop
structure PG(X:Cx)(target:Expr)(t:TG):Prop where
 out:
  ∀(pins:List (Addr×Obj)) (s:Shared) (σ:St) (H:Hp) (v:V) (u:Value) (Q:St->Hp->Prop),Inv X pins σ H s->RelV v u->t v σ H Q->
   wpAny (model X.prog X.w) X.A (assign target X.env u) (λ_ s'=>∃σ' H',Inv X pins σ' H' s'/\Q σ' H') X.xe s
instance {X:Cx}{a:Expr}{t:TG}:CoeFun (PG X a t) λ_=>
 ∀(pins:List (Addr×Obj)) (s:Shared) (σ:St) (H:Hp) (v:V) (u:Value) (Q:St->Hp->Prop),Inv X pins σ H s->RelV v u->t v σ H Q->
  wpAny (model X.prog X.w) X.A (assign a X.env u) (λ_ s'=>∃a b,Inv X pins a b s'/\Q a b) X.xe s:=⟨PG.out⟩
structure Rn(X:Cx)(ts:List Expr)(t:Mg):Prop where
 out:
  ∀(pins:List (Addr×Obj)) (s:Shared) (σ:St) (H:Hp) (vs:List V) (us:List Value) (Q:St->Hp->Prop),Inv X pins σ H s->Vals vs us->t vs σ H Q->
   wpAny (model X.prog X.w) X.A (assignInOrder ((assignEach ts X.env).map (·.2)) us) (λ_ s'=>∃σ' H',Inv X pins σ' H' s'/\Q σ' H') X.xe s
instance {X:Cx}{ts:List Expr}{t:Mg}:CoeFun (Rn X ts t) λ_=>
 ∀(pins:List (Addr×Obj)) (s:Shared) (σ:St) (H:Hp) (vs:List V) (us:List Value) (Q:St->Hp->Prop),Inv X pins σ H s->Vals vs us->t vs σ H Q->
  wpAny (model X.prog X.w) X.A (assignInOrder ((assignEach ts X.env).map (·.2)) us) (λ_ s'=>∃a b,Inv X pins a b s'/\Q a b) X.xe s:=⟨Rn.out⟩
abbrev Od:=V->V->V->Hp->(Hp->Prop)->Prop
def Oe(X:Cx)(t:Od):Prop:=
 ∀(pins:List (Addr×Obj)) (s:Shared) (σ:St) (H:Hp) (o i v:V) (a b u:Value) (Q:Hp->Prop),Inv X pins σ H s->RelV o a->RelV i b->RelV v u->t o i v H Q->
  wpAny (model X.prog X.w) X.A (setItem a b u) (λ_ s'=>∃a,Inv X pins σ a s'/\Q a) X.xe s
abbrev WT:=V->V->Hp->VK->Prop
def PIp(X:Cx)(a:Operator)(t:WT):Prop:=
 ∀(pins:List (Addr×Obj)) (s:Shared) (σ:St) (H:Hp) (x y:V) (v u:Value) (Q:VK),Inv X pins σ H s->RelV x v->RelV y u->t x y H Q->
  wpAny (model X.prog X.w) X.A (inplaceOp a v u) (EP X pins σ Q) X.xe s
section
variable {X:Cx}{pos:Pos}
def eU(i:Nat):TG:=λv σ H Q=>Q (σ.set i (some v)) H
theorem aQ(a:X.N.Nodup)(b:X.N[i]?=some x)(c:Loc X.env.scope x)(d:X.fn x=true\/X.env.scope.names.lookup x=some .local:=by grind):PG X (.Name x pos) (eU i):=by
 calc⟨?_⟩;intro pins s σ H v u Q I r h;calc wpAny_assign_Name (nU I a b c r (λf e=>⟨_,H,e,h⟩) d)
def C0:Mg:=λvs σ H Q=>vs=[]/\Q σ H
def jC(t:TG)(u:Mg):Mg:=λvs σ H Q=>∃v r,vs=v::r/\t v σ H λa b=>u r a b Q
theorem AZ:Rn X [] C0:=by
 calc⟨?_⟩;intro pins s σ H a b Q I r h;obtain⟨e,h⟩:=h;subst e
 cases r;calc assignInOrder_nil ⟨σ,H,I,h⟩
theorem kD{a:List Expr}{t:TG}{u:Mg}(b:PG X e t)(c:Rn X a u)
  (d:(assignEach (e::a) X.env).map (·.2)=assign e X.env::(assignEach a X.env).map (·.2):=by rfl):Rn X (e::a) (jC t u):=by
 calc⟨?_⟩;intro pins s σ H a g Q I r h;obtain⟨v,i,f,h⟩:=h;subst f
 cases r with
 |cons r f=>
  rw[d];calc assignInOrder_cons (dq (b pins s σ H _ _ _ I r h) λ_ g i=>?_);obtain⟨a,b,d,h⟩:=i;calc c pins g a b _ _ Q d f h
def C8(K:W.Frag)(n:Nat)(t:Mg):TG:=λv σ H Q=>∃a xs,v=.ref a/\bL K H a xs/\xs.length=n/\t xs σ H Q
theorem EO{a:List Expr}{k:Nat}{t:Mg}{n:Nat}(b:X.calm=true)(h:Rn X a t)
  (d:(assignEach a X.env).length=n:=by rfl) (f:(assignEach a X.env).findIdx? (·.1)=none:=by rfl):PG X (.Tuple a k pos) (C8 X.K n t):=by
 calc⟨?_⟩;intro pins s σ H v u Q I r c;obtain⟨a,g,i,j,l,c⟩:=c;subst i
 cases r;obtain⟨k,a,i,m⟩:=I.tuple j;calc assign_Tuple_tuple (I.ok.hd b) i (by simp[d,<-l,a.length]) f λk m=>?_;have d:Inv X pins σ H {s with heap:=k}:=I.kept (t':=s.toks) λb o e=>m b o (W' (P' e)) e;calc h pins _ σ H g _ Q d (by simpa using a) c
def Of(a b:TE)(t:Od):TG:=λv σ H Q=>a σ H λo c=>b σ c λi a=>t o i v a λb=>Q σ b
theorem iV{o i:Expr}{c d:TE}{t:Od}(e:PE X o c)(f:PE X i d)(g:Oe X t)
  (j:∀v,assign (.Subscript o i pos) X.env v=(do
   let a <-holding [v] (eval o X.env)
   let b <-holding [v,a] (eval i X.env)
   standAt pos
   holding [v,a,b] (setItem a b v)
   release [v,a,b] []):=by intro _;rfl):PG X (.Subscript o i pos) (Of c d t):=by
 calc⟨?_⟩;intro pins s σ H v u Q I r h;rw[j];calc A' (aaD (dq (e pins s σ H _ I h) λa d c=>?_));obtain⟨x,e,h,j,k⟩:=c;calc A' (aaD (dq (f pins d σ e _ h k) λb l c=>?_));obtain⟨y,d,e,f,h⟩:=c;calc A' (wpAny_standAt (A' (aaD (dq (g pins l σ d x y v a b u _ e j f r h) λ_ k c=>?_))));obtain⟨a,b,d⟩:=c;calc wpAny_release ⟨σ,a,b,d⟩
def C9(te:TE)(g:TG):TS:=λD σ H=>te σ H λx a=>g x σ a D.nx
theorem eD{g:TG}(a:PE X e te)(b:PG X tg g)(c:swapsWithSole [tg] e pos.line X.env=pure false:=by rfl)(d:swappedStores [tg] e X.env=pure none:=by rfl)
  (f:(assignEach [tg] X.env).map (·.2)=[assign tg X.env]:=by rfl):PS X (.Assign [tg] e pos) (C9 te g):=by
 walk_at "xd";refine wpAny_Assign_stores (dq (a pins s σ H _ I h) λv g i=>?_) c d;obtain⟨x,a,j,k,l⟩:=i;rw[f];exact dq (b pins g σ a x v _ j k l) λ_ c q=>q
theorem ER{a:Pos}(b:X.N.Nodup)(c:X.N[i]?=some x)(d:Loc X.env.scope x)(f:PE X e te)(g:swapsWith e (some (.Name x a)) pos.line X.env=pure false:=by rfl)(j:X.fn x=true\/X.env.scope.names.lookup x=some .local:=by grind):
  PS X (.Assign [.Name x a] e pos) (C9 te (eU i)):=by
 walk_at "xd";refine wpAny_Assign_Name (dq (f pins s σ H _ I h) λv k a=>?_) g;obtain⟨y,f,k,l,m⟩:=a;exact nU k b c d l (λn g=>⟨_,f,g,m⟩) j
def Og(i:Nat)(te:TE)(a:WT):TS:=λD σ H=>∃x,σ[i]?=some (some x)/\te σ H λy b=>a x y b λz c=>D.nx (σ.set i (some z)) c
theorem Oh{d:Operator}{g:WT}{b:Pos}(o:X.N.Nodup)(j:X.N[i]?=some x)(f:Loc X.env.scope x)(p:PE X e te)(q:PIp X d g)(t:X.fn x=true\/X.env.scope.names.lookup x=some .local:=by grind):
  PS X (.AugAssign (.Name x b) d e pos) (Og i te g):=by
 walk_at "xd";obtain⟨v,y,h⟩:=h;obtain⟨m,B,z⟩:=I.loc;have c:SH X.env.scope x:=by rcases f with k|k;exact .inl k;exact .inr (.inl k)
 obtain⟨u,r,l⟩:=z i x v j y c;calc wpAny_AugAssign_Name ?_;have n:wpAny (model X.prog X.w) X.A (eval e X.env) (λw b=>wpAny (model X.prog X.w) X.A (inplaceOp d u w) (λr c=>wpAny (model X.prog X.w) X.A (storeName X.env x r) (λ_=>SP X pins D .next) X.xe c) X.xe b) X.xe s:=by
  calc dq (p pins s σ H _ I h) λw c b=>?_;obtain⟨y,d,g,m,p⟩:=b;calc dq (q pins c σ d v y u w _ g r m p) λz F b=>?_;obtain⟨p,c,d,g,m⟩:=b;exact nU d o j f g (λq p=>⟨_,c,p,m⟩) t
 rcases l with⟨a,b⟩|⟨a,c,C,E⟩
 ·exact wpAny_loadName_local I.ok.kind a B b n
 ·rcases a with a | a
  ·exact wpAny_loadName_cell I.ok.kind a C E n
  ·rcases f with k | k
   ·have:X.env.scope.names.lookup x=some .free:=a;rw[k]at this;cases this
   ·have:X.env.scope.names.lookup x=some .free:=a;rw[k]at this;cases this
def Yf(f:Int->Int->Int):WT:=λx y H Q=>∃i j,x=.int i/\y=.int j/\Q (.int (f i j)) H
theorem Oi:PIp X .Add (Yf λi j=>i+j):=by
 intro pins s σ H x y v u Q I a b h;obtain⟨i,j,c,d,q⟩:=h;subst c;subst d;obtain⟨t,rfl⟩:=a;obtain⟨e,rfl⟩:=b;calc iadd_int ⟨.int _,H,I.tok _,⟨_,rfl⟩,q⟩
end
section
variable {X:Cx}{pos:Pos}
def vE(c:TT)(f:TS):TS:=λD σ H=>∃W:Nat->St->Hp->Prop,(∃m,W m σ H)/\∀m σ H,W m σ H->
 c σ H λb d=>if b=true then ∃N:St->Hp->Prop,(∀a c,N a c->∃e,e<m/\W e a c)/\f {D with nx:=N,ct:=N,bk:=D.nx} σ d else D.nx σ d
theorem ES{c:Expr}{a:List Stmt}{i:TT}{j:TS}(k:PassesOwn (model X.prog X.w) X.A X.env X.xe)(p:PT X c i)(q:wX X a j):PS X (.While c a [] pos) (vE i j):=by
 walk_at "xd";obtain⟨W,⟨r,t⟩,a⟩:=h;refine wpAny_While (codeAny_whileLoop (λn u=>∃c i,Inv X pins c i u/\W n c i) ?_ r ⟨σ,H,I,t⟩);rintro n v ⟨d,j,x,y⟩;refine wpAny_passesOwn k (dq (p pins v d j _ x (a n d j y)) λb z B=>?_);obtain⟨l,m,e⟩:=B
 cases b with
 |true=>
  obtain⟨N,o,e⟩:=e;rw[if_pos rfl];refine wpAny_passesOwn k (dq (q pins z d l _ m e) λf a g=>?_)
  cases f with
  |next=>
   obtain⟨a,b,c,f⟩:=g;obtain⟨i,j,k⟩:=o a b f;calc⟨i,j,a,b,c,k⟩
  |cont=>
   obtain⟨a,b,c,f⟩:=g;obtain⟨i,j,k⟩:=o a b f;calc⟨i,j,a,b,c,k⟩
  |brk=>calc g
  |ret v=>calc g
 |false=>
  rw[if_neg Bool.false_ne_true];calc wpAny_execs_nil ⟨d,l,m,e⟩
end
structure It where
 go:Nat->Hp->Prop
 Mh:Nat->Hp->V->Hp->Prop
 stop:Nat->Hp->Prop
def oU(X:Cx)(pins:List (Addr×Obj))(H:Hp)(b:Addr):Prop:=
 H b=none/\b≠X.env.locals/\b∉X.fs/\(b∈X.ex\/X.s₀.heap.objs.size<=b)/\(∀x c,X.env.cells.lookup x=some c->c≠b)/\∀p∈X.pn++pins,p.1≠b
theorem Inv.ET{H c:Hp}{s:Shared}{b:Addr}(I:Inv X pins σ H s)(a:s.heap.objs.size<=b)(d:c b=none):oU X pins c b:=by
 refine⟨d,Nat.ne_of_gt (R' I.lt a),I.NX a,.inr (aac I.sz a),λx c e z=>?_,λp b z=>?_⟩
 ·obtain⟨v,q⟩:=I.cell x c e;exact absurd (R' q.lt (by rw[z];calc a)) (aam _)
 ·calc absurd (R' (P' (I.pin p b).1) (by rw[z];calc a)) (aam _)
structure Turn(P:Program)(w:World)(K:W.Frag)(tg:Expr)(J:It)(fp:List Addr)(it:Addr)(tn:Nat->Heap->Prop):Prop where
 mem:it∈fp
 obj:∀i h,tn i h->∀b∈fp,∃o,h.get? b=some o/\∀v,o.data≠.cell v
 keep:∀i h h',tn i h->(∀b∈fp,∀o,h.get? b=some o->h'.get? b=some o)->tn i h'
 item:∀(X:Cx),X.prog=P->X.w=w->X.K=K->X.calm=true->∀(i:Nat) (pins:List (Addr×Obj)) (s:Shared) (σ:St) (H:Hp) (E:Value->Shared->Prop),Inv X pins σ H s->(∀b ∈ fp,oU X pins H b)->tn i s.heap->J.go i H->
  wpAny (model P w) X.A (pyNext (.ref it)) (λr s1=>∃u,r=some u/\
   wpAny (model P w) X.A (letOwnedTupleGo tg (.ref it) u) (λ_ s2=>∃x H',Inv X pins σ H' s2/\RelV x u/\J.Mh i H x H'/\tn (i + 1) s2.heap/\∀b ∈ fp,H' b=none) E s1) E s
 done:∀(X:Cx),X.prog=P->X.w=w->X.K=K->X.calm=true->∀(i:Nat) (pins:List (Addr×Obj)) (s:Shared) (σ:St) (H:Hp) (E:Value->Shared->Prop),Inv X pins σ H s->(∀b ∈ fp,oU X pins H b)->tn i s.heap->J.stop i H->
  wpAny (model P w) X.A (pyNext (.ref it)) (λr s1=>r=none/\Inv X pins σ H s1) E s
 self:∀(A:Around) (i:Nat) (s:Shared) (Q:Value->Shared->Prop) (E:Value->Shared->Prop),tn i s.heap->Q (.ref it) s->wpAny (model P w) A (pyIter (.ref it)) Q E s
abbrev TI:=St->Hp->(It->Hp->Prop)->Prop
def Yg(X:Cx)(pins:List (Addr×Obj))(σ:St)(tg:Expr)(R:It->Hp->Prop)(g:Value)(c:Shared):Prop:=
 ∃(d:Addr) (e:List Addr) (f:Nat->Heap->Prop) (J:It) (a:Hp),g=.ref d/\Inv X pins σ a c/\Turn X.prog X.w X.K tg J e d f/\f 0 c.heap/\(∀b∈e,oU X pins a b)/\R J a
structure PI(X:Cx)(tg iter:Expr)(wi:TI):Prop where
 out:
  ∀(pins:List (Addr×Obj)) (s:Shared) (σ:St) (H:Hp) (R:It->Hp->Prop),Inv X pins σ H s->wi σ H R->
   wpAny (model X.prog X.w) X.A (eval iter X.env) (λv s1=>wpAny (model X.prog X.w) X.A (pyIter v) (Yg X pins σ tg R) X.xe s1) X.xe s
instance {X:Cx}{tg a:Expr}{b:TI}:CoeFun (PI X tg a b) λ_=>
 ∀(pins:List (Addr×Obj)) (s:Shared) (σ:St) (H:Hp) (R:It->Hp->Prop),Inv X pins σ H s->b σ H R->
  wpAny (model X.prog X.w) X.A (eval a X.env) (λv b=>wpAny (model X.prog X.w) X.A (pyIter v) (Yg X pins σ tg R) X.xe b) X.xe s:=⟨PI.out⟩
theorem EU{M:Model}{A:Around}{E:Value->Shared->Prop}{s:Shared}{tg:Expr}{b:Addr}{u:Value}{o:Obj}{n:String}{vs:Array Value}{Q:Unit->Shared->Prop}(c:s.heap.get? b=some o)(d:o.cls=.type n)(e:o.data=.fields vs)
    (f:["enumerate","zip","dict_itemiterator","dict_reverseitemiterator","odict_iterator","itertools.zip_longest","itertools.pairwise"].contains n=false) (a:Q ⟨⟩ s):wpAny M A (letOwnedTupleGo tg (.ref b) u) Q E s:=by
  unfold letOwnedTupleGo
  cases tg<;>first
    |calc L' a
    | (cases u <;> first
        |calc L' a
        | (refine A' (wpAny_load c ?_)
           rw[d,e];show wpAny M A (if (["enumerate","zip","dict_itemiterator","dict_reverseitemiterator","odict_iterator","itertools.zip_longest","itertools.pairwise"].contains n && vs[0]? == some (rawInt _))=true then _ else _) Q E s;rw[if_neg (by intro h;rw[f,Bool.false_and] at h;cases h)];exact L' a))
def tU(K:W.Frag)(a:Addr):It:=
 ⟨λi H=>∃xs x,aN K H a xs/\xs[i]?=some x,λi H x b=>b=H/\∀xs,aN K H a xs->xs[i]?=some x,λi H=>∃xs,aN K H a xs/\xs.length<=i⟩
def SM(K:W.Frag)(a:Addr):It:=
 ⟨λi H=>∃xs x,bL K H a xs/\xs[i]?=some x,λi H x b=>b=H/\∀xs,bL K H a xs->xs[i]?=some x,λi H=>∃xs,bL K H a xs/\xs.length<=i⟩
def Dc(a:Int)(n:Nat):It:=⟨λi _=>i<n,λi H x b=>b=H/\x=.int (a+i),λi _=>n<=i⟩
theorem Dd{P:Program}{w:World}(a g:Addr):Turn P w K tg (tU K a) [g] g (λi h=>h.IsListIter g a i) where
 mem:=by simp
 obj:=λi h f b j=>by
  have e:b=g:=by simpa using j
  subst e;obtain⟨o,e,c,d⟩:=f;exact⟨o,e,λv z=>by rw[d]at z;cases z⟩
 keep:=λi h l f k=>f.at λo e=>k g nofun o e
 item:=by
  intro X q r t L i pins s σ H E I m f y;subst q r t;obtain⟨M,x,n,A⟩:=y;obtain⟨N,B,p,O⟩:=I.list n;obtain⟨u,k,v⟩:=B.get A;obtain⟨C,D,Q,F,G,J⟩:=m g nofun;calc wpAny_pyNext_list_item f p.isList (x:=u) (by simpa using k) λl a w=>?_;have k:Inv X pins σ H {s with heap:=l}:=I.turned (t':=s.toks) (λb o j e=>(w.2 b j).trans e) C D F G J;obtain⟨o,e,c,d⟩:=id a;exact⟨u,rfl,EU (s:={s with heap:=l}) e c d ∅ ⟨x,H,k,v,⟨rfl,λw u=>by rw[I.xj u n];calc A⟩,a,λb j=>(m b j).1⟩⟩
 done:=by
  intro X q r t L i pins s σ H E I m f y;subst q r t;obtain⟨M,n,A⟩:=y;obtain⟨N,B,p,O⟩:=I.list n;obtain⟨C,D,Q,F,G,J⟩:=m g nofun;have a:=B.length;exact wpAny_pyNext_list_end (I.ok.hd L) f p.isList (by simp;lia) λl a=>⟨rfl,I.turned (t':=s.toks) (λb o j e=>a b o j e) C D F G J⟩
 self:=λ_ _ _ _ _ f h=>wpAny_pyIter_listiter f h
theorem zr{P:Program}{w:World}(a g:Addr):Turn P w K tg (SM K a) [g] g (λi h=>h.IsTupleIter g a i) where
 mem:=by simp
 obj:=λi h f b j=>by
  have e:b=g:=by simpa using j
  subst e;obtain⟨o,e,c,d⟩:=f;exact⟨o,e,λv z=>by rw[d]at z;cases z⟩
 keep:=λi h l f k=>f.at λo e=>k g nofun o e
 item:=by
  intro X q r t M i pins s σ H E I m f y;subst q r t;obtain⟨N,x,n,A⟩:=y;obtain⟨B,C,p,O⟩:=I.tuple n;obtain⟨u,v,w⟩:=C.get A;obtain⟨D,F,Q,G,J,L⟩:=m g nofun;calc wpAny_pyNext_tuple_item f (show s.heap.IsTuple a B.toArray from p) (x:=u) (by simpa using v) λl k z=>?_;have v:Inv X pins σ H {s with heap:=l}:=I.turned (t':=s.toks) (λb o j e=>(z.2 b j).trans e) D F G J L;obtain⟨o,e,c,d⟩:=id k;exact⟨u,rfl,EU (s:={s with heap:=l}) e c d ∅ ⟨x,H,v,w,⟨rfl,λz u=>by rw[I.uB u n];calc A⟩,k,λb j=>(m b j).1⟩⟩
 done:=by
  intro X q r t M i pins s σ H E I m f y;subst q r t;obtain⟨N,n,A⟩:=y;obtain⟨B,C,p,O⟩:=I.tuple n;obtain⟨D,F,Q,G,J,L⟩:=m g nofun;have c:=C.length;exact wpAny_pyNext_tuple_end (I.ok.hd M) f (show s.heap.IsTuple a B.toArray from p) (by simp;lia) λl c=>⟨rfl,I.turned (t':=s.toks) (λb o j e=>c b o j e) D F G J L⟩
 self:=λ_ _ _ _ _ f h=>wpAny_pyIter_tupleiter f h
theorem zu{P:Program}{w:World}(c:Addr)(f:Int)(n:Nat):Turn P w K tg (Dc f n) [c] c (λi h=>IsRangeIter h c (f+(i:Nat)*1) ((n:Int)-(i:Nat)) 1) where
 mem:=by simp
 obj:=λi h a b d=>by
  have e:b=c:=by simpa using d
  subst e;exact⟨_,a,λv z=>by
   have k:Data.fields _=Data.cell v:=z
   cases k⟩
 keep:=λi h g a k=>k c nofun _ a
 item:=by
  intro X l m p q i pins s σ H E I j a r;subst l m p;obtain⟨u,x,F,y,A,B⟩:=j c nofun;have W:=Walks.range (prog:=X.prog) (w:=X.w) (I.ok.hd q) c f 1 n;calc W.item i s _ _ r a λv g C G D J=>?_;obtain⟨t,rfl⟩:=G;have k:Inv X pins σ H {s with heap:=g,toks:=C}:=I.turned (λb o d e=>J b o (by simpa using d) e) u x y A B;calc⟨_,rfl,EU (s:={s with heap:=g,toks:=C}) (n:="range_iterator") D rfl rfl ∅ ⟨.int (f+i),H,k,⟨t,?_⟩,⟨rfl,rfl⟩,D,λb d=>(j b d).1⟩⟩;rw[Int.mul_one]
 done:=by
  intro X l m p q i pins s σ H E I j a r;subst l m p;obtain⟨u,x,F,y,A,B⟩:=j c nofun;exact wpAny_pyNext_range_end (I.ok.hd q) a (by have:n<=i:=r;lia) λg c=>⟨rfl,I.turned (t':=s.toks) (λb o d e=>c b o d e) u x y A B⟩
 self:=λ_ _ _ _ _ a h=>wpAny_pyIter_rangeiter a h
end
section
variable {H:Hp}{pins:List (Addr×Obj)}{s:Shared}{σ:St}{g:TG}{tb:TS}
section
variable {X:Cx}{tg:Expr}
theorem EV{R:It->Hp->Prop}{E:Value->Shared->Prop}{a c:Int}{t u v:Tok}{d:Nat}(I:Inv X pins σ H s)(g:-(2^62)<=a)(h:a<2^62)(i:-(2^62)<=c)(j:c<2^62)
  (q:R (Dc a (c-a).toNat) H):wpAny (model X.prog X.w) X.A (pyIter (.ref s.heap.objs.size)) (Yg X pins σ tg R) E {s with heap:=s.heap.push {cls:=.type "range",data:=.fields #[.int a t,.int c u,.int 1 v]},toks:=d}:=by
 refine wpAny_pyIter_range (IsRange.new ..) (small_one g h i j) ?_;have f:Inv X pins σ H {s with heap:=s.heap.push {cls:=.type "range",data:=.fields #[.int a t,.int c u,.int 1 v]},toks:=d}:=I.kept λb o e=>J' _ e;refine⟨(s.heap.push {cls:=.type "range",data:=.fields #[.int a t,.int c u,.int 1 v]}).objs.size,[(s.heap.push {cls:=.type "range",data:=.fields #[.int a t,.int c u,.int 1 v]}).objs.size],_,_,H,rfl,
  f.kept (t':=d) λb o e=>J' _ e,zu _ a (c - a).toNat,?_,λb k=>?_,q⟩
 ·have l:a + ((0:Nat):Int) * 1=a:=by simp
  have m:(((c-a).toNat:Nat):Int)-((0:Nat):Int)=Builtin.Range.rangeSize a c 1:=by rw[rangeSize_one];split<;>lia
  show IsRangeIter _ _ (a+((0:Nat):Int)*1) ((((c-a).toNat:Nat):Int)-((0:Nat):Int)) 1;rw[l,m];exact T' _ rfl
 ·have e:b=(s.heap.push {cls:=.type "range",data:=.fields #[.int a t,.int c u,.int 1 v]}).objs.size:=by simpa using k
  subst e;calc f.ET (E' _) (f.aU.fresh (E' _))
def EW(a:TA):TI:=λσ H R=>a σ H λvs b=>∃j:Int,vs=[.int j]/\-(2^62)<=j/\j<2^62/\R (Dc 0 j.toNat) b
theorem cT{a:Expr}{d:TA}{p b:Pos}(f:Gl X "range")(g:X.mg "range"=none)(i:PA X [a] d)(j:starEach [a] X.env=[(false,eval a X.env)]:=by rfl):PI X tg (.Call (.Name "range" p) [a] [] b) (EW d):=by
 calc⟨?_⟩;intro pins s σ H R I h;calc Call_ (oT I f g boot_range (PyProof.Rows.callWith_type1 (dq (i b pins s σ H _ I h) λd o a=>?_) j rfl));obtain⟨b,d,k,l,c⟩:=a;obtain⟨j,e,c,m,q⟩:=c;subst e
 cases l with
 |cons r n=>
  cases n;obtain⟨t,rfl⟩:=r;calc call_range_1 (EV k () () c m (by simpa using q))
def Oj(a:TI)(g:TG)(tb:TS):TS:=λD σ H=>a σ H λJ b=>∃W:Nat->Nat->St->Hp->Prop,(∃m,W 0 m σ b)/\∀i m σ H,W i m σ H->
 (J.stop i H/\D.nx σ H)\/(J.go i H/\∃N:St->Hp->Prop,(∀a b,N a b->∃d,d<m/\W (i+1) d a b)/\∀x b,J.Mh i H x b->g x σ b λc e=>tb {D with nx:=N,ct:=N,bk:=D.nx} c e)
def oV(a:List Addr)(h:Heap):List (Addr×Obj):=a.filterMap λb=>(h.get? b).map λo=>(b,o)
theorem jP{a:List Addr}{h:Heap}{b:Addr}{o:Obj}(c:b∈a)(e:h.get? b=some o):(b,o)∈oV a h:=List.mem_filterMap.mpr ⟨b,c,by rw[e];rfl⟩
theorem De{a:List Addr}{h:Heap}{p:Addr×Obj}(c:p∈oV a h):p.1∈a/\h.get? p.1=some p.2:=by
 obtain⟨b,d,e⟩:=List.mem_filterMap.mp c
 cases q:h.get? b with
 |none=>rw[q]at e;cases e
 |some o=>
  rw[q]at e;have f:(b,o)=p:=Option.some.inj e;subst f;calc⟨d,q⟩
theorem Inv.pinned{a:List Addr}(I:Inv X pins σ H s)(g:∀b∈a,oU X pins H b)(h:∀b∈a,∃o,s.heap.get? b=some o/\∀v,o.data≠.cell v):Inv X (pins++oV a s.heap) σ H s:=
 I.vD λp a=>(List.mem_append.mp a).elim (λz=>I.pin p (aaa _ z)) λz=>by
  obtain⟨c,e⟩:=De z;obtain⟨i,j,k,_⟩:=g p.1 c;obtain⟨o,f,d⟩:=h p.1 c;rw[e]at f;cases f;calc⟨e,i,j,k,d⟩
theorem Inv.kE{pl:List (Addr×Obj)}(I:Inv X (pins++pl) σ H s):Inv X pins σ H s:=I.vD λp a=>I.pin p (aaa _ (List.mem_append_left _ a))
theorem dj{c:Expr}{m:List Stmt}{M:TI}{J:Pos}(z:PassesOwn (model X.prog X.w) X.A X.env X.xe)(O:X.calm=true)(Z:PI X tg c M)(hg:PG X tg g)(j:wX X m tb)
  (hs:∀x,foldedSetIterable c X.env x=pure x:=by intro _;rfl):PS X (.For tg c m [] J) (Oj M g tb):=by
 walk_at "xd";refine wpAny_For (dq (Z pins s σ H _ I h) λv m c=>dq c λm J h2=>?_) hs;obtain⟨c,B,P,J,H2,e,I2,T,rC,Q,W,⟨m0,w0⟩,C⟩:=h2;subst e;have K:∀{o:Hp},(∀b∈B,o b=none)->∀b∈B,oU X pins o b:=λc b j=>⟨c b j,(Q b j).2⟩
 calc codeAny_forLoop_any (λn c=>∃i d o,Inv X pins d o c/\P i c.heap/\(∀b∈B,o b=none)/\W i n d o) ?_ m0 ⟨0,σ,H2,I2,rC,λb j=>(Q b j).1,w0⟩;rintro n R ⟨i,k,G,S,U,Y,w3⟩;rcases C i n k G w3 with⟨c,qn⟩|⟨go,N,hN,E⟩
 ·calc wpAny_passesOwn z (dq (T.done X rfl rfl rfl O i pins R k G X.xe S (K Y) U c) λr s4 y=>?_);obtain⟨L,I4⟩:=y;subst L;exact wpAny_execs_nil ⟨k,G,I4,qn⟩
 ·calc wpAny_passesOwn z (dq (T.item X rfl rfl rfl O i pins R k G X.xe S (K Y) U go) λr s4 y=>?_);obtain⟨u,L,h4⟩:=y;subst L;calc wpAny_passesOwn z (dq h4 λ_ C y=>?_);obtain⟨x,m,r,G,J,c,L⟩:=y;have M:=r.pinned (K L) (T.obj _ _ c);calc wpAny_passesOwn z (dq (hg _ C k m x u _ M G (E x m J)) λ_ O y=>?_);obtain⟨k,m,u,x⟩:=y;calc wpAny_passesOwn z (dq (j _ O k m _ u x) λf r t=>?_);have l:∀{a:St} {p:Hp},Inv X (pins++oV B C.heap) a p r->N a p->∃m,m<n/\∃i d o,Inv X pins d o r/\P i r.heap/\(∀b∈B,o b=none)/\W i m d o:=λ{a p} q F=>by
   obtain⟨d,k,m⟩:=hN a p F;calc⟨d,k,i+1,a,p,q.kE,T.keep _ _ _ c λb j o e=>(q.pin (b,o) (aaa _ (aaa _ (jP j e)))).1,λb j=>?_,m⟩;obtain⟨o,e,d⟩:=T.obj _ _ c b j;exact(q.pin (b,o) (aaa _ (aaa _ (jP j e)))).2.1
  cases f with
  |next=>obtain⟨a,p,q,F⟩:=t;calc l q F
  |cont=>obtain⟨a,p,q,F⟩:=t;calc l q F
  |brk=>obtain⟨a,p,q,t⟩:=t;calc⟨a,p,q.kE,t⟩
  |ret v=>obtain⟨b,a,p,q,c,t⟩:=t;calc⟨b,a,p,q.kE,c,t⟩
end
theorem eV{K:W.Frag}{a:Addr}{xs:List V}{D:Ends}(b:Nat->St->Hp->Prop)(k:b 0 σ H)(l:∀i σ H,i<=xs.length->b i σ H->aN K H a xs)
  (n:∀i x σ H,xs[i]?=some x->b i σ H->g x σ H λc h=>tb {D with nx:=b (i+1),ct:=b (i+1),bk:=D.nx} c h) (o:∀σ H,b xs.length σ H->D.nx σ H):
  ∃W:Nat->Nat->St->Hp->Prop,(∃m,W 0 m σ H)/\∀i m σ H,W i m σ H->
   ((tU K a).stop i H/\D.nx σ H)\/((tU K a).go i H/\∃N:St->Hp->Prop,(∀d f,N d f->∃j,j<m/\W (i+1) j d f)/\∀x f,(tU K a).Mh i H x f->g x σ f λc h=>tb {D with nx:=N,ct:=N,bk:=D.nx} c h):=by
 calc⟨λi m σ H=>m=xs.length-i/\i<=xs.length/\b i σ H,⟨xs.length,nofun,V' _,k⟩,?_⟩;rintro i m σ H ⟨rfl,c,p⟩;have q:=l i σ H c p;by_cases a:i<xs.length
 ·calc .inr ⟨⟨xs,xs[i],q,by simp[a]⟩,b (i+1),λd f c=>⟨xs.length-(i+1),(),rfl,a,c⟩,λx f y=>?_⟩;obtain⟨e,y⟩:=y;subst e;exact n i x σ _ (y xs q) p
 ·have e:i=xs.length:=by lia
  subst e;calc .inl ⟨⟨xs,q,E' _⟩,o σ H p⟩
theorem hJ{f:Int}{n:Nat}{D:Ends}(a:Nat->St->Hp->Prop)(l:a 0 σ H)
  (o:∀i σ H,i<n->a i σ H->g (.int (f+i)) σ H λb h=>tb {D with nx:=a (i+1),ct:=a (i+1),bk:=D.nx} b h) (q:∀σ H,a n σ H->D.nx σ H):
  ∃W:Nat->Nat->St->Hp->Prop,(∃m,W 0 m σ H)/\∀i m σ H,W i m σ H->
   ((Dc f n).stop i H/\D.nx σ H)\/((Dc f n).go i H/\∃N:St->Hp->Prop,(∀c d,N c d->∃k,k<m/\W (i+1) k c d)/\∀x d,(Dc f n).Mh i H x d->g x σ d λb h=>tb {D with nx:=N,ct:=N,bk:=D.nx} b h):=by
 calc⟨λi m σ H=>m=n-i/\i<=n/\a i σ H,⟨n,nofun,V' _,l⟩,?_⟩;rintro i m σ H ⟨rfl,b,p⟩;by_cases j:i<n
 ·calc .inr ⟨j,a (i+1),λc d b=>⟨n-(i+1),(),rfl,j,b⟩,λx d y=>?_⟩;obtain⟨e,y⟩:=y;subst e y;exact o i σ _ j p
 ·have e:i=n:=by lia
  subst e;calc .inl ⟨E' _,q σ H p⟩
end
section
variable {op:CmpOp}{g:Int->Int->Int}{r:R2}
abbrev R2:=V->V->Hp->VK->Prop
def fX(X:Cx)(f:Value->Value->Sem Value)(r:R2):Prop:=
 ∀(pins:List (Addr×Obj)) (s:Shared) (σ:St) (H:Hp) (x y:V) (v u:Value) (Q:VK),Inv X pins σ H s->RelV x v->RelV y u->r x y H Q->
  wpAny (model X.prog X.w) X.A (f v u) (EP X pins σ Q) X.xe s
def Yj(X:Cx)(f:Value->Sem Value)(r:V->Hp->VK->Prop):Prop:=
 ∀(pins:List (Addr×Obj)) (s:Shared) (σ:St) (H:Hp) (x:V) (v:Value) (Q:VK),Inv X pins σ H s->RelV x v->r x H Q->
  wpAny (model X.prog X.w) X.A (f v) (EP X pins σ Q) X.xe s
def dR(X:Cx)(f:Value)(r:List V->Hp->VK->Prop):Prop:=
 ∀(pins:List (Addr×Obj)) (s:Shared) (σ:St) (H:Hp) (xs:List V) (us:List Value) (Q:VK),Inv X pins σ H s->Vals xs us->r xs H Q->
  wpAny (model X.prog X.w) X.A (call f us) (EP X pins σ Q) X.xe s
def EX(r:R2)(a b:TE):TE:=λσ H Q=>a σ H λx c=>b σ c λy a=>r x y a Q
def Yk(r:V->Hp->VK->Prop)(a:TE):TE:=λσ H Q=>a σ H λx b=>r x b Q
def rI(C:Int->Int->Prop)(g:Int->Int->V):R2:=λx y H Q=>∃i j,x=.int i/\y=.int j/\C i j/\Q (g i j) H
def J5(g:Int->Int->V):R2:=λx y H Q=>∃i j,x=.int i/\y=.int j/\Q (g i j) H
def rU(g:Int->V):V->Hp->VK->Prop:=λx H Q=>∃i,x=.int i/\Q (g i) H
section
variable {X:Cx}{a b c:Expr}{ta tb tc:TE}{pos:Pos}
theorem Ol(j:PE X a ta)(k:PE X b tb){pins:List (Addr×Obj)}{s:Shared}{σ:St}{H:Hp}{R:V->V->Hp->Prop}(I:Inv X pins σ H s)
  (h:ta σ H λx i=>tb σ i λy c=>R x y c) {Q:Value->Shared->Prop} {f:Value->Value->Sem Value}
  (l:∀v u g x y c,Inv X pins σ c g->RelV x v->RelV y u->R x y c->wpAny (model X.prog X.w) X.A (f v u) Q X.xe g):
  wpAny (model X.prog X.w) X.A (eval a X.env) (λv d=>wpAny (model X.prog X.w) X.A (eval b X.env) (λu e=>wpAny (model X.prog X.w) X.A (f v u) Q X.xe e) X.xe d) X.xe s:=by
 calc dq (j pins s σ H _ I h) λv e d=>?_;obtain⟨x,i,f,h,j⟩:=d;calc dq (k pins e σ i _ f j) λu g d=>?_;obtain⟨y,c,e,f,i⟩:=d;calc l v u g x y c e h f i
theorem bc{op:Operator}(c:fX X (binaryOp op) r)(d:PE X a ta)(e:PE X b tb):PE X (.BinOp a op b pos) (EX r ta tb):=by
 walk_at "xc";exact wpAny_BinOp (Ol d e I h λv u f x y g i j k q=>c pins f σ g x y v u Q i j k q)
theorem kG{op:UnaryOp}{r:V->Hp->VK->Prop}(b:Yj X (unaryOp op) r)(c:PE X a ta):PE X (.UnaryOp op a pos) (Yk r ta):=by
 walk_at "xc";exact UnaryOp_ (dq (c pins s σ H _ I h) λv d ⟨x,e,f,g,i⟩=>b pins d σ e x v Q f g i)
theorem WV{f:Value->Value->Sem Value}{C:Int->Int->Prop}
  (a:∀(i j:Int) (t u:Tok) (s:Shared) (Q:Value->Shared->Prop) (E:Value->Shared->Prop),C i j->Q (.int (g i j) s.toks) {s with toks:=s.toks+1}->wpAny (model X.prog X.w) X.A (f (.int i t) (.int j u)) Q E s):
  fX X f (rI C λi j=>.int (g i j)):=by
 intro b s σ H x y v u Q I c d h;obtain⟨i,j,rfl,rfl,e,q⟩:=h;obtain⟨t,rfl⟩:=c;obtain⟨k,rfl⟩:=d;calc a i j t k s _ _ e ⟨.int (g i j),H,I.tok _,⟨_,rfl⟩,q⟩
theorem SO{f:Value->Value->Sem Value}
  (a:∀(i j:Int) (t u:Tok) (s:Shared) (Q:Value->Shared->Prop) (E:Value->Shared->Prop),Q (.int (g i j) s.toks) {s with toks:=s.toks+1}->wpAny (model X.prog X.w) X.A (f (.int i t) (.int j u)) Q E s):
  fX X f (J5 λi j=>.int (g i j)):=by
 intro b s σ H x y v u Q I c d h;obtain⟨i,j,rfl,rfl,q⟩:=h;obtain⟨t,rfl⟩:=c;obtain⟨e,rfl⟩:=d;calc a i j t e s _ _ ⟨.int (g i j),H,I.tok _,⟨_,rfl⟩,q⟩
theorem J6{f:Value->Value->Sem Value}{g:Int->Int->Bool}
  (a:∀(i j:Int) (t u:Tok) (s:Shared) (Q:Value->Shared->Prop) (E:Value->Shared->Prop),Q (.bool (g i j)) s->wpAny (model X.prog X.w) X.A (f (.int i t) (.int j u)) Q E s):
  fX X f (J5 λi j=>.bl (g i j)):=by
 intro b s σ H x y v u Q I c d h;obtain⟨i,j,rfl,rfl,q⟩:=h;obtain⟨t,rfl⟩:=c;obtain⟨e,rfl⟩:=d;calc a i j t e s _ _ ⟨.bl (g i j),H,I,rfl,q⟩
def J7(i j:Int):Prop:=0<=j/\j<=1000000/\i.natAbs<2^64
def EY(i j:Int):Prop:=(-(2^64)<i/\i<2^64)\/(-(2^64)<j/\j<2^64)
theorem EY.ok{i j:Int}(h:EY i j):IntMulOk i j:=by
 rcases h with⟨a,b⟩|⟨a,b⟩
 ·exact .of_left (intBits_le_64 a b)
 ·calc .of_right (intBits_le_64 a b)
theorem Om:fX X (binaryOp .Add) (J5 λi j=>.int (i+j)):=SO λ_ _ _ _ _ _ _ q=>add_int q
theorem Oo:fX X (binaryOp .Sub) (J5 λi j=>.int (i-j)):=SO λ_ _ _ _ _ _ _ q=>sub_int q
theorem Oq:fX X (binaryOp .Mult) (rI EY λi j=>.int (i*j)):=WV λ_ _ _ _ _ _ _ a q=>mul_int q a.ok
theorem Ot:fX X (binaryOp .Mod) (rI (λ_ j=>0<j) λi j=>.int (i%j)):=WV λi j _ _ _ _ _ a q=>by
 have b:(0:Int)<j:=a;calc mod_int' () (by rw[Int.fmod_eq_emod_of_nonneg i ()];calc q)
theorem Ou:fX X (binaryOp .Pow) (rI J7 λi j=>.int (i^j.toNat)):=WV λ_ _ _ _ _ _ _ a q=>pow_int_small a.1 a.2.1 a.2.2 q
theorem unI{f:Value->Sem Value}{g:Int->Int}
  (a:∀(i:Int) (t:Tok) (s:Shared) (Q:Value->Shared->Prop) (E:Value->Shared->Prop),Q (.int (g i) s.toks) {s with toks:=s.toks+1}->wpAny (model X.prog X.w) X.A (f (.int i t)) Q E s):
  Yj X f (rU λi=>.int (g i)):=by
 intro b s σ H x v Q I c h;obtain⟨i,rfl,q⟩:=h;obtain⟨t,rfl⟩:=c;calc a i t s _ _ ⟨.int (g i),H,I.tok _,⟨_,rfl⟩,q⟩
theorem ia:Yj X (unaryOp .USub) (rU λi=>.int (-i)):=unI λ_ _ _ _ _ q=>neg_int q
end
def J8:V->V->Bool
 | .bH,.bH=>true | .bH,.int _=>true | .int _,.bH=>true | .bH,.bl _=>true | .bl _,.bH=>true | .bH,.str _=>true | .str _,.bH=>true
 | .int _,.int _=>true | .bl _,.bl _=>true | .str _,.str _=>true | .AU _,.AU _=>true
 | .int _,.str _=>true | .str _,.int _=>true | .bl _,.str _=>true | .str _,.bl _=>true
 |_,_=>false
def rEq:R2:=λx y H Q=>J8 x y=true/\Q (.bl (decide (x=y))) H
def rNe:R2:=λx y H Q=>J8 x y=true/\Q (.bl (!decide (x=y))) H
theorem A0{i j:Int}:decide (V.int i=V.int j)=(i==j):=by
 rw[Bool.eq_iff_iff];simp
theorem EZ{i j:Bool}:decide (V.bl i=V.bl j)=(i==j):=by
 rw[Bool.eq_iff_iff];simp
theorem A7{i j:Str}:decide (V.str i=V.str j)=(i==j):=by
 rw[Bool.eq_iff_iff];simp
theorem A8{i j:Array UInt8}:decide (V.AU i=V.AU j)=(i.toList==j.toList):=by
 rw[Bool.eq_iff_iff]
 cases i
 cases j;simp
section
variable {X:Cx}{a b c:Expr}{ta tb tc:TE}{pos:Pos}
theorem bY{pins:List (Addr×Obj)}{σ:St}{H:Hp}{s:Shared}{Q:VK}{k a:Bool}(I:Inv X pins σ H s)(q:Q (.bl k) H)(e:k=a):EP X pins σ Q (.bool a) s:=by
 subst e;calc⟨.bl k,H,I,rfl,q⟩
theorem SQ:fX X (compareOp .Eq) rEq:=by
 intro e s σ H x y v u Q I d a h;obtain⟨c,q⟩:=h
 cases x with
 |bH=>
  cases d
  cases y with
  |bH=>cases a;calc PySem.EqNone.eq_none_none (bY I q nofun)
  |bl j=>cases a;calc PySem.EqNone.eq_none_bool (bY I q nofun)
  |int j=>obtain⟨b,rfl⟩:=a;calc PySem.EqNone.eq_none_int (bY I q nofun)
  |str j=>obtain⟨b,rfl⟩:=a;calc PySem.EqNone.eq_none_str (bY I q nofun)
  |_=>calc absurd (show false=true from c) S'
 |bl i=>
  cases d
  cases y with
  |bH=>cases a;calc PySem.EqNone.eq_bool_none (bY I q nofun)
  |bl j=>cases a;calc eq_bool (bY I q EZ)
  |str j=>obtain⟨b,rfl⟩:=a;calc PySem.EqMixed.eq_bool_str (bY I q nofun)
  |_=>calc absurd (show false=true from c) S'
 |int i=>
  obtain⟨t,rfl⟩:=d
  cases y with
  |bH=>cases a;calc PySem.EqNone.eq_int_none (bY I q nofun)
  |int j=>obtain⟨b,rfl⟩:=a;calc eq_int (bY I q A0)
  |str j=>obtain⟨b,rfl⟩:=a;calc PySem.EqMixed.eq_int_str (bY I q nofun)
  |_=>calc absurd (show false=true from c) S'
 |str i=>
  obtain⟨t,rfl⟩:=d
  cases y with
  |bH=>cases a;calc PySem.EqNone.eq_str_none (bY I q nofun)
  |bl j=>cases a;calc PySem.EqMixed.eq_str_bool (bY I q nofun)
  |int j=>obtain⟨b,rfl⟩:=a;calc PySem.EqMixed.eq_str_int (bY I q nofun)
  |str j=>obtain⟨b,rfl⟩:=a;calc eq_str (bY I q A7)
  |_=>calc absurd (show false=true from c) S'
 |AU i=>
  obtain⟨t,rfl⟩:=d
  cases y with
  |AU j=>obtain⟨b,rfl⟩:=a;calc W.eq_bytes (bY I q A8)
  |_=>calc absurd (show false=true from c) S'
 |_=>cases y<;>calc absurd (show false=true from c) S'
theorem SR:fX X (compareOp .NotEq) rNe:=by
 intro e s σ H x y v u Q I d a h;obtain⟨c,q⟩:=h
 cases x with
 |bH=>
  cases d
  cases y with
  |bH=>cases a;calc PySem.EqNone.ne_none_none (bY I q nofun)
  |bl j=>cases a;calc PySem.EqNone.ne_none_bool (bY I q nofun)
  |int j=>obtain⟨b,rfl⟩:=a;calc PySem.EqNone.ne_none_int (bY I q nofun)
  |str j=>obtain⟨b,rfl⟩:=a;calc PySem.EqNone.ne_none_str (bY I q nofun)
  |_=>calc absurd (show false=true from c) S'
 |bl i=>
  cases d
  cases y with
  |bH=>cases a;calc PySem.EqNone.ne_bool_none (bY I q nofun)
  |bl j=>cases a;calc ne_bool (bY I q (congrArg not EZ))
  |str j=>obtain⟨b,rfl⟩:=a;calc PySem.EqMixed.ne_bool_str (bY I q nofun)
  |_=>calc absurd (show false=true from c) S'
 |int i=>
  obtain⟨t,rfl⟩:=d
  cases y with
  |bH=>cases a;calc PySem.EqNone.ne_int_none (bY I q nofun)
  |int j=>obtain⟨b,rfl⟩:=a;calc ne_int (bY I q (congrArg not A0))
  |str j=>obtain⟨b,rfl⟩:=a;calc PySem.EqMixed.ne_int_str (bY I q nofun)
  |_=>calc absurd (show false=true from c) S'
 |str i=>
  obtain⟨t,rfl⟩:=d
  cases y with
  |bH=>cases a;calc PySem.EqNone.ne_str_none (bY I q nofun)
  |bl j=>cases a;calc PySem.EqMixed.ne_str_bool (bY I q nofun)
  |int j=>obtain⟨b,rfl⟩:=a;calc PySem.EqMixed.ne_str_int (bY I q nofun)
  |str j=>obtain⟨b,rfl⟩:=a;calc ne_str (bY I q (congrArg not A7))
  |_=>calc absurd (show false=true from c) S'
 |AU i=>
  obtain⟨t,rfl⟩:=d
  cases y with
  |AU j=>obtain⟨b,rfl⟩:=a;calc W.ne_bytes (bY I q (congrArg not A8))
  |_=>calc absurd (show false=true from c) S'
 |_=>cases y<;>calc absurd (show false=true from c) S'
theorem SU:fX X (compareOp .Lt) (J5 λi j=>.bl (decide (i<j))):=J6 λ_ _ _ _ _ _ _ q=>lt_int q
theorem SV:fX X (compareOp .LtE) (J5 λi j=>.bl (decide (i<=j))):=J6 λ_ _ _ _ _ _ _ q=>le_int q
theorem SW:fX X (compareOp .Gt) (J5 λi j=>.bl (decide (j<i))):=J6 λ_ _ _ _ _ _ _ q=>gt_int q
theorem SX:fX X (compareOp .GtE) (J5 λi j=>.bl (decide (j<=i))):=J6 λ_ _ _ _ _ _ _ q=>ge_int q
theorem Ov:fX X (compareOp .Is) (λx y H Q=>y=.bH/\Q (.bl (decide (x=.bH))) H):=by
 intro a s σ H x y v u Q I b c h;obtain⟨rfl,q⟩:=h
 cases c;refine is_none_gen (bY I q ?_)
 cases x<;>first
  |(cases b;rfl)
  |(obtain⟨t,rfl⟩:=b;rfl)
theorem J9:fX X (compareOp .IsNot) (λx y H Q=>y=.bH/\Q (.bl (!decide (x=.bH))) H):=by
 intro a s σ H x y v u Q I b c h;obtain⟨rfl,q⟩:=h
 cases c;refine isnot_none_gen (bY I q ?_)
 cases x<;>first
  |(cases b;rfl)
  |(obtain⟨t,rfl⟩:=b;rfl)
theorem fX.or{f:Value->Value->Sem Value}{b:R2}(h:fX X f r)(h':fX X f b):fX X f (λx y H Q=>r x y H Q\/b x y H Q):=by
 intro a s σ H x y v u Q I c d q;rcases q with q|q
 ·exact h a s σ H x y v u Q I c d q
 ·calc h' a s σ H x y v u Q I c d q
theorem aE(b:Expr){op:CmpOp}(h:op≠.In:=by decide)(a:op≠.NotIn:=by decide):behindInMarks op b=false:=by
 have c:(op==CmpOp.In)=false:=by cases op<;>first|rfl|exact absurd rfl h
 have d:(op==CmpOp.NotIn)=false:=by cases op<;>first|rfl|exact absurd rfl a
 cases b<;>simp[behindInMarks,c,d]
theorem lV(c:fX X (compareOp op) r)(d:PE X a ta)(e:PE X b tb)(f:behindInMarks op b=false):PE X (.Compare a [op] [b] pos) (EX r ta tb):=by
 walk_at "xc";exact wpAny_Compare1 (Ol d e I h λv u g x y i j k l q=>c pins g σ i x y v u Q j k l q) f
def A9(t:TE):TT:=λσ H Q=>t σ H λx a=>∃k,x=.bl k/\Q k a
theorem Ba(d:fX X (compareOp op) r)(f:PE X a ta)(g:PE X b tb)(i:behindInMarks op b=false):PT X (.Compare a [op] [b] pos) (A9 (EX r ta tb)):=by
 walk_at "xc";refine wpAny_isTrue_Compare1 (dq (f pins s σ H _ I h) λv j ⟨x,k,l,m,n⟩=>dq (g pins j σ k _ l n) λu f ⟨y,o,p,q,t⟩=>
  dq (d pins f σ o x y v u _ p m q t) λc g ⟨z,w,A,B,k,e,C⟩=>?_) i
 subst e
 cases B;calc aaB ⟨w,A,C⟩
def zx(r b:R2)(ta tb tc:TE):TE:=λσ H Q=>ta σ H λx a=>tb σ a λy c=>r x y c λz a=>∃k,z=.bl k/\
 (if k=true then tc σ a λw' c=>b y w' c Q else Q (.bl false) a)
theorem xk{d:CmpOp}{f:R2}(m:fX X (compareOp op) r)(n:fX X (compareOp d) f)(o:PE X a ta)(p:PE X b tb)(q:PE X c tc)
  (t:lastMarks [op,d] [b,c]=false:=by with_unfolding_all rfl):PE X (.Compare a [op,d] [b,c] pos) (zx r f ta tb tc):=by
 walk_at "xc";refine Compare_chain (dq (o pins s σ H _ I h) λv d ⟨x,f,w,A,z⟩=>chain_link (dq (p pins d σ f _ w z) λu o ⟨y,B,C,g,D⟩=>
  dq (m pins o σ B x y v u _ C A g D) λd E ⟨z,i,j,F,k,e,l⟩=>?_)) t
 subst e
 cases F;refine aaB ?_
 cases k with
 |false=>calc ite_ff ⟨.bl false,i,j,rfl,l⟩
 |true=>calc ite_tt (chain_last (dq (q pins E σ i _ j l) λd e ⟨f,k,m,o,p⟩=>n pins e σ k y f u d Q m g o p))
theorem rD:(sizeLine:Nat)<2^63:=by rw[sizeLine_eq];decide
theorem zy:fX X (binaryOp .Add) (λx y H Q=>∃i j,x=.str i/\y=.str j/\i.length+j.length<=sizeLine/\Q (.str (i++j)) H):=by
 intro a s σ H x y v u Q I b c h;obtain⟨i,j,rfl,rfl,d,q⟩:=h;obtain⟨t,rfl⟩:=b;obtain⟨e,rfl⟩:=c;calc add_str (λe a=>⟨.str (i++j),H,I.tok _,⟨_,rfl⟩,q⟩) d
theorem vals1{x:V}{us:List Value}(r:Vals [x] us):∃u,us=[u]/\RelV x u:=by
 cases r with
 |cons a b=>cases b;calc⟨_,rfl,a⟩
theorem vals2{x y:V}{us:List Value}(r:Vals [x,y] us):∃u w',us=[u,w']/\RelV x u/\RelV y w':=by
 cases r with
 |cons a b=>
  cases b with
  |cons c d=>cases d;calc⟨_,_,rfl,a,c⟩
theorem Df(b:X.calm=true):dR X (.builtin "max") (λxs H Q=>∃i j,xs=[.int i,.int j]/\Q (.int (if j > i then j else i)) H):=by
 intro a s σ H xs c Q I r h;obtain⟨i,j,rfl,q⟩:=h;obtain⟨u,d,rfl,⟨t,rfl⟩,⟨e,rfl⟩⟩:=vals2 r;refine max_two_ints (I.ok.hd b) λa c k=>⟨_,H,I.kept k,?_,q⟩
 by_cases a:j > i
 ·rw[if_pos a,if_pos a];exact⟨_,rfl⟩
 ·rw[if_neg a,if_neg a];calc⟨_,rfl⟩
theorem Dg:dR X (.type "int") (λxs H Q=>(∃i,xs=[.int i]/\Q (.int i) H)\/∃k,xs=[.bl k]/\Q (.int (if k then 1 else 0)) H):=by
 intro a s σ H xs c Q I r h;rcases h with⟨i,rfl,q⟩|⟨k,rfl,q⟩
 ·obtain⟨u,rfl,t,rfl⟩:=vals1 r;exact call_int_int ⟨.int i,H,I,⟨_,rfl⟩,q⟩
 ·obtain⟨u,rfl,b⟩:=vals1 r
  cases b;calc call_int_bool ⟨.int (if k then 1 else 0),H,I.tok _,⟨_,rfl⟩,q⟩
def E2(K:W.Frag)(x:V)(H:Hp)(n:Nat):Prop:=
 match x with
 | .str y=>y.length<=sizeLine/\n=y.length
 | .AU y=>y.size<=sizeLine/\n=y.size
 | .ref p=>(∃xs,aN K H p xs/\n=xs.length)\/∃xs,bL K H p xs/\n=xs.length
 |_=>False
theorem E3:dR X (.builtin "len") (λxs H Q=>∃x n,xs=[x]/\E2 X.K x H n/\Q (.int n) H):=by
 intro i s σ H xs m Q I r h;obtain⟨x,n,rfl,e,q⟩:=h;obtain⟨u,rfl,c⟩:=vals1 r;have h:=rD;have h:sizeLine=16777216:=sizeLine_eq
 cases x with
 |str y=>
  obtain⟨t,rfl⟩:=c;obtain⟨j,b⟩:y.length<=sizeLine/\n=y.length:=e;subst b;calc len_str () ⟨.int _,H,I.tok _,⟨_,rfl⟩,q⟩
 |AU y=>
  obtain⟨t,rfl⟩:=c;obtain⟨j,b⟩:y.size<=sizeLine/\n=y.size:=e;subst b;calc W.len_bytes () ⟨.int _,H,I.tok _,⟨_,rfl⟩,q⟩
 |ref p=>
  cases c;have b:(∃xs,aN X.K H p xs/\n=xs.length)\/∃xs,bL X.K H p xs/\n=xs.length:=e;rcases b with⟨xs,d,b⟩|⟨xs,d,b⟩
  ·subst b;obtain⟨k,f,g,l⟩:=I.list d;have a:=f.length;exact Calls.call_len_list g.isList (by simp only[List.size_toArray];lia) ⟨.int xs.length,H,I.tok _,⟨_,by simp only[List.size_toArray];rw[a]⟩,q⟩
  ·subst b;obtain⟨k,f,g,l⟩:=I.tuple d;have a:=f.length;calc len_tuple g (by simp only[List.size_toArray];lia) ⟨.int xs.length,H,I.tok _,⟨_,by simp only[List.size_toArray];rw[a]⟩,q⟩
 |_=>calc(show False from e).elim
end
end
section
variable {C:Addr}{mA:Str->Option Value}{Q:Value->Shared->Prop}
structure zz(h:Heap)(x dx C:Addr)(mA:Str->Option Value):Prop where
 obj:h.get? x=some (W.instObj C dx)
 ns:h.Ns1 dx mA
 ne:dx≠x
theorem Dh{h:Heap}{b:Addr}(n:h.Ns1 b mA):∃c,h.get? b=some c/\∀name,W.lookIn name c=some (mA name):=by
 obtain⟨o,d,p,f,g,i,_,j⟩:=n;calc⟨o,f,λname=>?_⟩;have e:=j name;unfold nsFind findBy at e;rw[<-Array.find?_toList]at e;unfold W.lookIn;rw[g];dsimp only;split
 ·rename_i y q;rw[q]at e;exact congrArg some e
 ·rename_i q;rw[q]at e;have a:d.toList.any (·.refKey)=false:=by
   rw[List.any_eq_false];intro y k;obtain⟨z,t,l⟩:=i y (Array.mem_toList_iff.mp k);simp[DictEntry.refKey,l]
  have m:¬d.toList.any (·.refKey)=true:=by rw[a];exact S'
  rw[if_neg m];calc congrArg some e
theorem zz.look{h:Heap}{x b:Addr}(I:zz h x b C mA):∃a,W.InstAt h x (W.instObj C b) C (some a)/\∀name,W.lookIn name a=some (mA name):=
 let ⟨a,b,c⟩:=Dh I.ns
 ⟨a,⟨I.obj,rfl,rfl,b⟩,c⟩
section
variable {prog:Program}{w:World}{A:Around}{E:Value->Shared->Prop}{s:Shared}{K:W.Frag}{x dx C f:Addr}{mA:Str->Option Value}{name:Str}{v:Value}
theorem get_map{a:Bool}(X:K.In s.heap)(I:zz s.heap x dx C mA)(b:W.plainGet K C name=true)(c:W.hasDictIn K C=true)
  (d:W.findIn K (.ref C) name=some none) (e:mA name=some v) (f:W.handedIn v=true) (h:Q v {s with toks:=s.toks+1}):
  wpAny (model prog w) A (getAttr (.ref x) name a) Q E s:=by
 obtain⟨g,J,a⟩:=I.look;calc W.get_value X J (W.plainGet_of b).1 (W.findObj_own c d rfl (by rw[a,e])) f h
theorem E4{pl:Sem Bool}{Q:Value×List Value->Shared->Prop}(X:K.In s.heap)(I:zz s.heap x dx C mA)(a:W.plainGet K C name=true)
  (b:W.findIn K (.ref C) name=some (some (.ref f))) (c:W.isFn K (.ref f)=true) (d:mA name=none) (h:Q (.ref f,[.ref x]) s):
  wpAny (model prog w) A (getMethod (.ref x) name pl) Q E s:=by
 obtain⟨e,J,g⟩:=I.look;calc W.method_fn X J (W.plainGet_of a).1 (W.plainGet_of a).2 b (beq_iff_eq.mp c) (by show(W.lookIn name e).map (·.isSome)=some false;rw[g,d];rfl) h
theorem Ka{ns:List Str}{Q:Unit->Shared->Prop}(X:K.In s.heap)(I:zz s.heap x dx C mA)
  (b:W.findIn K (.ref C) "__setattr__"=some (some (.builtin "object.__setattr__"))) (c:W.plainOver K C=true) (d:W.takerIn K C name=some none) (e:W.hasDictIn K C=true)
  (i:PySem.Within mA ns) (hsz:ns.length<=sizeLine)
  (h:∀h',zz h' x dx C (λy=>if y=name then some v else mA y)->Heap.SameBut dx s.heap h'->Q ⟨⟩ {s with heap:=h',toks:=s.toks+2}):
  wpAny (model prog w) A (setAttr (.ref x) name v) Q E s:=by
 obtain⟨g,J,j⟩:=I.look;calc W.set_plain X J b (W.osa_open (s:={s with toks:=s.toks+1}) (r:=none) X J c d λb=>?_);obtain⟨d,b,c⟩:=W.any_some e;have d:s.heap.get? x=some ⟨.ref C,some dx,.plain,#[]⟩:=I.obj;calc A' (L' (A' (A' (wpAny_loadPart d (A' (W.Looks.here (s:={s with toks:=s.toks+1}) (W.looks_clsIn X b) ?_))))));rw[c];calc L' (a:=some dx) (A' (L' (A' ?_)));calc wpAny_nsSet1 (s:={s with toks:=s.toks+1}) I.ns λh' e g=>?_;obtain⟨l,j,k,b,c,d⟩:=e.count (PySem.Within.cons name v i);calc A' (wpAny_lookBehind b (by rw[c];calc pastItsLine_dict (aac d (by rw[List.length_cons];lia))) ?_);calc L' (h _ ⟨(g.2 _ (Ne.symm I.ne)).trans I.obj,e,I.ne⟩ g)
theorem E5{R:Result->Shared->Prop}{vs:List Value}{a:List (Str×Value)}(X:K.In s.heap)(b:W.makesIn K C=true)
  (c:W.findIn K (.ref C) "__init__"=some (some (.ref f))) (e:W.typeIn K (.ref f)=some (.type "function"))
  (h:codeAny (model prog w) (A.under (.builtin "type.__call__" ⟨.ref C::vs,a⟩)) (.call (.ref f) ⟨.ref (s.heap.objs.size + 1)::vs,a⟩) (W.InitBack (s.heap.objs.size + 1) R)
   {s with heap:=(s.heap.push W.emptyDict).push (W.instObj C s.heap.objs.size)}):
  codeAny (model prog w) A (.call (.ref C) ⟨vs,a⟩) R s:=by
 obtain⟨a,g,d,t,i⟩:=s;calc W.make_core (W.makes_of X b) (W.looks_findIn X c) (λa=>W.bind_fn X a e) (.inl rfl) h
end
def bf(f:Str)(v:V):List (Str×V)->List (Str×V)
 | []=>[(f,v)]
 |(g,x)::r=>if g=f then(g,v)::r else(g,x)::bf f v r
theorem bt(f g:Str)(v:V):∀a:List (Str×V),(bf f v a).lookup g=if g=f then some v else a.lookup g
 | []=>by
  show List.lookup g [(f,v)]=_;by_cases h:g=f
  ·have a:(g==f)=true:=beq_iff_eq.mpr h;simp only[List.lookup,a,if_pos h]
  ·have a:(g==f)=false:=beq_eq_false_iff_ne.mpr h;simp only[List.lookup,a,if_neg h]
 |(k,x)::r=>by
  have c:=bt f g v r;rw[show bf f v ((k,x)::r)=(if k=f then(k,v)::r else(k,x)::bf f v r) from rfl];by_cases b:k=f
  ·rw[if_pos b];by_cases h:g=k
   ·have a:(g==k)=true:=beq_iff_eq.mpr h;simp only[List.lookup,a,if_pos (h.trans b)]
   ·have a:(g==k)=false:=beq_eq_false_iff_ne.mpr h;simp only[List.lookup,a,if_neg (λe:g=f=>h (e.trans b.symm))]
  ·rw[if_neg b];by_cases h:g=k
   ·have a:(g==k)=true:=beq_iff_eq.mpr h;simp only[List.lookup,a,if_neg (λe:g=f=>b (h.symm.trans e))]
   ·have a:(g==k)=false:=beq_eq_false_iff_ne.mpr h;simp only[List.lookup,a];calc c
theorem oW(f:Str)(v:V):∀a:List (Str×V),f∈(bf f v a).map (·.1)/\∀g,g∈a.map (·.1)->g∈(bf f v a).map (·.1)
 | []=>⟨by simp[bf],λg h=>by simp at h⟩
 |(k,x)::r=>by
  obtain⟨c,d⟩:=oW f v r;rw[show bf f v ((k,x)::r)=(if k=f then(k,v)::r else(k,x)::bf f v r) from rfl];by_cases b:k=f
  ·rw[if_pos b];subst b;exact⟨nofun,λg h=>by simpa using h⟩
  ·rw[if_neg b];refine⟨?_,λg h=>?_⟩
   ·rw[List.map_cons];exact Y' _ c
   ·rw[List.map_cons] at h ⊢;rcases List.mem_cons.mp h with e | e
    ·exact List.mem_cons.mpr (.inl e)
    ·calc Y' _ (d g e)
theorem kH(f:Str)(v:V):∀a:List (Str×V),(bf f v a).length<=a.length+1
 | []=>by simp[bf]
 |(k,x)::r=>by
  have a:=kH f v r;rw[show bf f v ((k,x)::r)=(if k=f then(k,v)::r else(k,x)::bf f v r) from rfl];by_cases a:k=f
  ·rw[if_pos a,List.length_cons,List.length_cons];lia
  ·rw[if_neg a,List.length_cons,List.length_cons];lia
theorem mf.some_of{v:V}{o:Option Value}(r:mf (some v) o):∃u,o=some u/\RelV v u:=by
 cases o with
 |none=>calc(show False from r).elim
 |some u=>calc⟨u,rfl,r⟩
theorem mf.none_of{o:Option Value}(r:mf none o):o=none:=by
 cases o with
 |none=>rfl
 |some u=>calc(show False from r).elim
theorem Di{v:V}{u:Value}(r:RelV v u):W.handedIn u=true:=by
 cases v with
 |bH=>cases(show u=Value.none from r);rfl
 |bl b=>cases(show u=Value.bool b from r);rfl
 |int i=>obtain⟨t,e⟩:=(show ∃t,u=Value.int i t from r);cases e;rfl
 |str x=>obtain⟨t,e⟩:=(show ∃t,u=Value.str x t from r);cases e;rfl
 |AU b=>obtain⟨t,e⟩:=(show ∃t,u=Value.bytes b t from r);cases e;rfl
 |L9 b=>obtain⟨t,e⟩:=(show ∃t,u=Value.float b t from r);cases e;rfl
 |ref a=>cases(show u=Value.ref a from r);rfl
 |ty n=>cases(show u=Value.type n from r);rfl
section
variable {P:Program}{w:World}{H H':Hp}{h h':Heap}{a C dx:Addr}{fs y7:List (Str×V)}
theorem nV(b:mI P w H h)(e:H a=some (.ins C dx fs)):∃mA,zz h a dx C mA/\(∀f,mf (fs.lookup f) (mA f))/\PySem.Within mA (fs.map (·.1))/\fs.length<=1000/\H dx=some (.own a):=by
 obtain⟨d,z,c,f,mA,n,r,q⟩:=(show cy P w H h a (.ins C dx fs) from b a _ e)
 calc⟨mA,⟨f,n,c⟩,r,q,z,d⟩
end
structure vF(K:W.Frag)(C:Addr):Prop where
 pg:W.plainGet K C Str.empty=true
 hd:W.hasDictIn K C=true
 po:W.plainOver K C=true
 sa:W.findIn K (.ref C) "__setattr__"=some (some (.builtin "object.__setattr__"))
theorem vF.get{K:W.Frag}(c:vF K C)(f:Str):W.plainGet K C f=true:=c.pg
def cO(K:W.Frag)(C:Addr)(f:Str):Prop:=W.findIn K (.ref C) f=some none
theorem cO.SY{K:W.Frag}{f:Str}(n:cO K C f):W.takerIn K C f=some none:=by
 unfold W.takerIn;rw[show W.findIn K (.ref C) f=some none from n];rfl
structure Meth(K:W.Frag)(C:Addr)(m:Str)(f:Addr):Prop where
 at_:W.findIn K (.ref C) m=some (some (.ref f))
 fn:W.isFn K (.ref f)=true
 kp:W.keepIn K (.ref f)=true
section
variable {X:Cx}{pins:List (Addr×Obj)}{σ:St}{H:Hp}{s:Shared}{a C dx:Addr}{fs:List (Str×V)}{f:Str}{v:V}{A:Around}{E:Value->Shared->Prop}
theorem zA{b:Bool}(I:Inv X pins σ H s)(e:H a=some (.ins C dx fs))(c:vF X.K C)(n:cO X.K C f)(l:fs.lookup f=some v)
  (h:∀u s',Inv X pins σ H s'->RelV v u->Q u s'):wpAny (model X.prog X.w) A (getAttr (.ref a) f b) Q E s:=by
 obtain⟨mA,O,r,_,_,_⟩:=nV I.aU e;obtain⟨u,d,b⟩:=mf.some_of (v:=v) (o:=mA f) (by rw[<-l];calc r f);calc get_map I.kj O (c.get f) c.hd n d (Di b) (h u _ (I.tok _) b)
theorem rE{m:Str}{g:Addr}{pl:Sem Bool}{Q:Value×List Value->Shared->Prop}(I:Inv X pins σ H s)(e:H a=some (.ins C dx fs))(c:vF X.K C)(k:Meth X.K C m g)(l:fs.lookup m=none)
  (h:Q (.ref g,[.ref a]) s):wpAny (model X.prog X.w) A (getMethod (.ref a) m pl) Q E s:=by
 obtain⟨mA,O,r,_,_,_⟩:=nV I.aU e;have b:mA m=none:=mf.none_of (by rw[<-l];calc r m);calc E4 I.kj O (c.get m) k.at_ k.fn b h
theorem zB{y:V}{u:Value}{Q:Unit->Shared->Prop}(I:Inv X pins σ H s)(e:H a=some (.ins C dx fs))(c:vF X.K C)(n:cO X.K C f)(b:fs.length<1000)(k:RelV y u)
  (h:∀s',Inv X pins σ (upd H a (.ins C dx (bf f y fs))) s'->Q ⟨⟩ s'):wpAny (model X.prog X.w) A (setAttr (.ref a) f u) Q E s:=by
 obtain⟨mA,O,r,i,_,j⟩:=nV I.aU e;have b:(fs.map (·.1)).length<=sizeLine:=by rw[List.length_map,sizeLine_eq];lia
 calc Ka I.kj O c.sa c.po n.SY c.hd i b λg d l=>h _ ?_;have hd:∃o,g.get? dx=some o:=let ⟨o,_,_,b,_⟩:=d.ns;⟨o,b⟩
 calc I.write (x:=a) (e:=dx) (by rw[e];calc aaf) (.inr j) (λb q c z=>(l.2 b c).trans z) hd ?_;refine⟨by rw[ax O.ne];calc j,?_,O.ne,d.obj,_,d.ns,λg=>?_,λg b=>?_⟩
 ·have:=kH f y fs;lia
 ·show mf ((bf f y fs).lookup g) (if g=f then some u else mA g);rw[bt];by_cases q:g=f
  ·rw[if_pos q,if_pos q];exact k
  ·rw[if_neg q,if_neg q];exact r g
 ·by_cases q:g=f
  ·rw[q];exact(oW f y fs).1
  ·calc(oW f y fs).2 g (i g λz=>b ?_);show(if g=f then some u else mA g)=none;rw[if_neg q];calc z
theorem Inv.made(I:Inv X pins σ H s):Inv X pins σ (upd (upd H s.heap.objs.size (.own (s.heap.objs.size+1))) (s.heap.objs.size+1) (.ins C s.heap.objs.size []))
  {s with heap:=(s.heap.push W.emptyDict).push (W.instObj C s.heap.objs.size)}:=by
 have c:(s.heap.push W.emptyDict).get? s.heap.objs.size=some W.emptyDict:=T' s.heap rfl;have d:((s.heap.push W.emptyDict).push (W.instObj C s.heap.objs.size)).get? (s.heap.objs.size+1)=some (W.instObj C s.heap.objs.size):=by
  have:=T' (s.heap.push W.emptyDict) (o:=W.instObj C s.heap.objs.size) rfl;rwa [Heap.size_push]at this
 have f:(s.heap.push W.emptyDict).Ns s.heap.objs.size (λ_=>none):=⟨W.emptyDict,#[],_,c,rfl,(λe b=>absurd b nofun),λ_=>rfl⟩
 have e:=I.laid (a:=s.heap.objs.size) (o:=.own (s.heap.objs.size+1)) (h':=s.heap.push W.emptyDict) (t':=s.toks) (λb u q=>J' _ q) (E' _) ⟨_,c⟩;calc e.laid (a:=s.heap.objs.size+1) (o:=.ins C s.heap.objs.size []) (t':=s.toks) (λb u q=>J' _ q) (Nat.le_of_eq (Heap.size_push _ _)) ?_;have b:s.heap.objs.size≠s.heap.objs.size+1:=W' (Nat.lt_succ_self _);calc⟨by rw[ax b,ab],V' _,b,d,λ_=>none,(Heap.Ns1.of_empty f).at λo q=>J' _ q,λ_=>aaf,λy b=>absurd rfl b⟩
theorem Kb{prog:Program}{w:World}{env:Env}{e:Expr}{f:Str}{b:Pos}{s:Shared}(c:attributeBase e f env (eval e env)=eval e env)
  (h:wpAny (model prog w) A (eval e env) (λo a=>wpAny (model prog w) A (getAttr o f true) Q E a) E s):wpAny (model prog w) A (eval (.Attribute e f b) env) Q E s:=
 Attribute_any_ h (by rw[arm_eval_Attribute,c])
end
def Kc(K:W.Frag)(a:TE)(f:Str):TE:=λσ H Q=>a σ H λx b=>∃a C d c v,x=.ref a/\b a=some (.ins C d c)/\vF K C/\cO K C f/\c.lookup f=some v/\Q v b
def Ow(K:W.Frag)(a b:TE)(f:Str):TS:=λD σ H=>b σ H λy d=>a σ d λx c=>∃a C d b,x=.ref a/\c a=some (.ins C d b)/\vF K C/\cO K C f/\b.length<1000/\
 D.nx σ (upd c a (.ins C d (bf f y b)))
section
variable {X:Cx}{o e value:Expr}{f:Str}{pos pos' Ox:Pos}{ta tv:TE}
theorem bC(b:PE X e ta)(d:attributeBase e f X.env (eval e X.env)=eval e X.env):PE X (.Attribute e f pos) (Kc X.K ta f):=by
 walk_at "xc";refine Kb d (dq (b pins s σ H _ I h) λu p g=>?_);obtain⟨x,i,j,k,a,C,b,d,v,m,o,c,n,l,q⟩:=g;subst m;obtain rfl:u=Value.ref a:=k;exact zA j o c n l λd g a b=>⟨v,i,a,b,q⟩
theorem fE(b:PE X o ta)(d:PE X value tv)(e:swapsWith value (some (.Attribute o f pos')) pos.line X.env=pure false):PS X (.Assign [.Attribute o f pos'] value pos) (Ow X.K ta tv f):=by
 walk_at "xd";refine plainObj_wpAny_Assign_Attribute (dq (d pins s σ H _ I h) λu g ⟨y,i,j,k,q⟩=>dq (b pins g σ i _ j q) λm d p=>?_) e;obtain⟨x,b,r,t,a,C,d,g,v,w,c,n,l,z⟩:=p;subst v;obtain rfl:m=Value.ref a:=t;exact zB r w c n l k λb a=>⟨σ,_,a,z⟩
end
section
variable {X:Cx}{pins:List (Addr×Obj)}{σ:St}{H:Hp}{s:Shared}{A:Around}{E:Value->Shared->Prop}{Q:Value->Shared->Prop}{c:Value}{b:Bool}
inductive gF(K:W.Frag)(H:Hp):V->Value->Prop where
  |bH:gF K H .bH (.type "NoneType")
  |bl (x:Bool):gF K H (.bl x) (.type "bool")
  |int (i:Int):gF K H (.int i) (.type "int")
  |str (x:Str):gF K H (.str x) (.type "str")
  |L9 (x:UInt64):gF K H (.L9 x) (.type "float")
  |lst {a:Addr} {xs:List V} (e:H a=some (.lst xs)):gF K H (.ref a) (.type "list")
  |y6 {a:Addr} {o:Obj} {xs:List V} (e:H a=some (.y6 o (.lst xs))):gF K H (.ref a) (.type "list")
  |tup {a:Addr} {xs:List V} (e:H a=some (.tup xs)):gF K H (.ref a) (.type "tuple")
  |dK {a:Addr} {aX:List (Key×V)} (e:H a=some (.dK aX)):gF K H (.ref a) (.type "dict")
  |dT {a:Addr} {aX:List (List Key×V)} (e:H a=some (.dT aX)):gF K H (.ref a) (.type "dict")
  | ins {a C dx:Addr} {fs:List (Str×V)} (e:H a=some (.ins C dx fs)) (cl:vF K C) (ha:W.findIn K (.ref C) "__class__"=some (some (.builtin "object.__class__")))
      (hn:W.specialIn K (.builtin "object.__class__") "__get__"=some (some (.builtin "getset_descriptor.__get__"))) (WX:W.takesIn K (.builtin "object.__class__")=some true)
      (hm:W.mroIn K C (.type "object")=some true):gF K H (.ref a) (.ref C)
theorem uD{x:V}{u t:Value}(I:Inv X pins σ H s)(d:RelV x u)(r:gF X.K H x t)(e:W.kitOne X.K t c=some b)(h:∀v,Q (.bool b) {s with toks:=v}):
  wpAny (model X.prog X.w) A (call (.builtin "isinstance") [u,c]) Q E s:=by
 cases r with
 |bH=>cases(show u=Value.none from d);calc W.kia_one W.kitx_none I.kj aaf e (λz=>nomatch z) h
 |bl y=>cases(show u=Value.bool y from d);calc W.kia_one W.kitx_bool I.kj aaf e (λz=>nomatch z) h
 |int i=>obtain⟨t,q⟩:=(show ∃t,u=Value.int i t from d);cases q;calc W.kia_one W.kitx_int I.kj aaf e (λz=>nomatch z) h
 |str y=>obtain⟨t,q⟩:=(show ∃t,u=Value.str y t from d);cases q;calc W.kia_one W.kitx_str I.kj aaf e (λz=>nomatch z) h
 |L9 y=>obtain⟨t,q⟩:=(show ∃t,u=Value.float y t from d);cases q;calc W.kia_one W.kitx_float I.kj aaf e (λz=>nomatch z) h
 | @lst a j f=>
  cases(show u=Value.ref a from d);obtain⟨_,_,n,_,g⟩:=(show cy X.prog X.w H s.heap a (.lst j) from I.aU a _ f)
  calc W.kia_one W.kitx_list I.kj ⟨_,g,rfl⟩ e (λz=>nomatch z) h
 | @y6 a B j f=>
  cases(show u=Value.ref a from d);obtain⟨_,_,_,n,_,g⟩:=(show cy X.prog X.w H s.heap a (.y6 B (.lst j)) from I.aU a _ f)
  calc W.kia_one W.kitx_list I.kj ⟨_,g,rfl⟩ e (λz=>nomatch z) h
 | @tup a j f=>
  cases(show u=Value.ref a from d);obtain⟨_,_,_,p⟩:=(show cy X.prog X.w H s.heap a (.tup j) from I.aU a _ f)
  obtain⟨o,g,k,_⟩:=p;calc W.kia_one W.kitx_tuple I.kj ⟨o,g,k⟩ e (λz=>nomatch z) h
 | @dK a l f=>
  cases(show u=Value.ref a from d);obtain⟨_,_,i,_,p⟩:=(show cy X.prog X.w H s.heap a (.dK l) from I.aU a _ f)
  obtain⟨o,D,F,g,k,_⟩:=p;calc W.kia_one W.kitx_dict I.kj ⟨o,g,k.1⟩ e (λz=>nomatch z) h
 | @dT a l f=>
  cases(show u=Value.ref a from d);obtain⟨_,_,j,_,o,D,F,g,k,_⟩:=(show cy X.prog X.w H s.heap a (.dT l) from I.aU a _ f)
  calc W.kia_one W.kitx_dict I.kj ⟨o,g,k.1⟩ e (λz=>nomatch z) h
 | @ins a C g i f m G L M N=>
  cases(show u=Value.ref a from d);obtain⟨mA,O,_⟩:=nV I.aU f;obtain⟨a,J,_⟩:=O.look;calc W.kia_one (W.kitx_own (m.get _) m.hd G L M N) I.kj J e (λz=>nomatch z) h
end
end
section
variable {A:Around}{base:Heap}{H:Hp}{kw:List (Str×Value)}{us:List Value}{s:Shared}{mg:Str->Option Value}{K:W.Frag}
structure eW(k:Nat)(A:Around):Prop where
 hd:A.handled=none
 dp:A.depth+3*k+5<recursionLimit
 un:A.units+16*k+200<cLine
theorem eW.mono{j k:Nat}(r:eW k A)(h:j<=k):eW j A:=⟨r.hd,by have:=r.dp;lia,by have:=r.un;lia⟩
theorem eW.deeper{k:Nat}(r:eW (k+1) A)(env:Env):eW k (A.deeper env):=
 ⟨r.hd,by have:=r.dp;show A.depth+1+3*k+5<_;lia,by have:=r.un;show A.units+3+16*k+200<_;lia⟩
theorem zC{C:Addr}:(A.under (.builtin "type.__call__" ⟨.ref C::us,kw⟩)).depth=A.depth+1:=by
 first|rfl|simp[Around.under,Code.weight,Code.isCreation,Code.isGuard,Code.isCaller,Code.frames,Code.isFrame,guardIds]
theorem zD{C:Addr}:(A.under (.builtin "type.__call__" ⟨.ref C::us,kw⟩)).units=A.units+1:=by
 first|rfl|simp[Around.under,Code.cUnits,Code.frames,Code.isFrame]
theorem eW.make{k:Nat}(r:eW (k+1) A)(C:Addr)(us:List Value)(kw:List (Str×Value)):eW k (A.under (.builtin "type.__call__" ⟨.ref C::us,kw⟩)):=
 ⟨r.hd,by have:=r.dp;rw[zC];lia,by have:=r.un;rw[zD];lia⟩
theorem eW.depth{k:Nat}(r:eW k A):A.depth<recursionLimit:=by have:=r.dp;lia
theorem eW.units{k:Nat}(r:eW k A):A.units+64<cLine:=by have:=r.un;lia
def E6:TA:=λ_ H Q=>Q [] H
def Bb(a:TE)(b:TA):TA:=λσ H Q=>a σ H λx c=>b σ c λxs a=>Q (x::xs) a
section
variable {X:Cx}{e:Expr}{es:List Expr}{te:TE}{t:TA}{pos:Pos}
theorem aa:PA X [] E6:=.mk λ_ _ _ _ H Q I h=>Calls.spliced_nil ⟨[],H,I,.nil,h⟩
theorem Ke(b:PE X e te)(c:PA X es t)(d:starEach (e::es) X.env=(false,eval e X.env)::starEach es X.env:=by rfl):PA X (e::es) (Bb te t):=by
 calc⟨?_⟩;intro pos a s σ H Q I h;rw[d];show wpAny _ _ (spliced ((false,eval e X.env)::backTo pos (starEach es X.env))) _ _ s;calc Calls.spliced_cons (dq (b a s σ H _ I h) λu f g=>?_);obtain⟨x,b,d,h,i⟩:=g;calc dq (c pos a f σ b _ d i) λus o ⟨j,k,l,m,n⟩=>⟨x::j,k,l,.cons h m,n⟩
def Oy(t:TA):TE:=λσ H Q=>t σ H λxs a=>xs.length<=sizeLine/\∀p,a p=none->Q (.ref p) (upd a p (.tup xs))
def Oz(t:TA):TE:=λσ H Q=>t σ H λxs a=>xs.length<=sizeLine/\∀p,a p=none->Q (.ref p) (upd a p (.lst xs))
theorem bD{a}(h:PA X es t):PE X (.Tuple es a pos) (Oy t):=by
 calc⟨?_⟩;intro a s σ H Q I f;calc wpAny_Tuple_spliced (dq (h pos a s σ H _ I f) λus c ⟨g,b,d,r,z,q⟩=>⟨by rw[<-r.length];calc z,?_⟩);have a:b c.heap.objs.size=none:=d.aU.fresh (E' _);calc⟨.ref c.heap.objs.size,upd b c.heap.objs.size (.tup g),d.laid (t':=c.toks) (λb u e=>J' _ e) (E' _) ?_,rfl,q _ a⟩;calc⟨z,us,r,⟨_,T' _ rfl,rfl,_,rfl⟩⟩
theorem bG(h:PA X es t):PE X (.List es pos) (Oz t):=by
 calc⟨?_⟩;intro a s σ H Q I f;calc wpAny_List_spliced (dq (h pos a s σ H _ I f) λus c ⟨g,b,d,r,z,q⟩=>⟨by rw[<-r.length];calc z,?_⟩);have a:b c.heap.objs.size=none:=d.aU.fresh (E' _);calc⟨.ref c.heap.objs.size,upd b c.heap.objs.size (.lst g),d.laid (t':=c.toks) (λb u e=>J' _ e) (E' _) ?_,rfl,q _ a⟩;calc⟨z,us,0,r,T' _ rfl⟩
end
abbrev Sp:=List V->Hp->VK->XK->Prop
abbrev Ju:=List Env->Hp->Shared->XK->Value->Shared->Prop
structure zE(P:Program)(w:World)(K:W.Frag)(mg:Str->Option Value)(base:Heap)(A:Around)(outer:List Env)(s:Shared)(H:Hp):Prop where
 frames:A.frames=some outer
 mod:Mod K mg base
 bs:∀b o,base.get? b=some o->s.heap.get? b=some o/\H b=none
 EG:base.objs.size<=s.heap.objs.size
 oS:s.heap.FunFrames base outer
 Ma:∀b∈CU outer,H b=none
 aU:mI P w H s.heap
 bare:AllBare s.gens
def CE(outer:List Env)(P:Program)(w:World)(H:Hp)(s:Shared)(Q:VK)(u:Value)(s':Shared):Prop:=
 ∃v a,s'.os=s.os/\AllBare s'.gens/\Un (CU outer) [] H a s.heap s'.heap/\mI P w a s'.heap/\RelV v u/\Q v a
def CR(CX:Ju)(outer:List Env)(P:Program)(w:World)(H:Hp)(s:Shared)(Q:VK)(E:XK)(r:Result)(s':Shared):Prop:=
 match r with
 | .ok (.ret u)=>CE outer P w H s Q u s'
 | .ok _=>False
 | .error e=>CX outer H s E e s'
structure mh(P:Program)(w:World)(K:W.Frag)(mg:Str->Option Value)(base:Heap)(CX:Ju)(k:Nat)(f:Addr)(fd:FuncData)(ps:List Str)(sp:Sp):Prop where
 len:∀vs H Q E,sp vs H Q E->vs.length=ps.length
 run:∀(A:Around) (outer:List Env) (s:Shared) (H:Hp) (args:Args) (us:List Value) (vs:List V) (Q:VK) (E:XK),eW k A->zE P w K mg base A outer s H->BindsTo s fd args (ps.zip us)->Vals vs us->sp vs H Q E->
  codeAny (model P w) A (.call (.ref f) args) (CR CX outer P w H s Q E) s
theorem zE.make{P:Program}{w:World}{outer:List Env}(e:zE P w K mg base A outer s H)(C:Addr)(us:List Value)(kw:List (Str×Value)):
  zE P w K mg base (A.under (.builtin "type.__call__" ⟨.ref C::us,kw⟩)) outer s H:=⟨by first|exact e.frames|(simpa[Around.under,Code.envs,Code.isFrame,pushEnvs] using e.frames),e.mod,e.bs,e.EG,e.oS,e.Ma,e.aU,e.bare⟩
section
variable {X:Cx}{pins:List (Addr×Obj)}{σ:St}{H:Hp}{s s':Shared}
theorem Inv.S8(I:Inv X pins σ H s):zE X.prog X.w X.K X.mg X.base X.A X.stack s H:=
 ⟨I.ok.frames,I.ok.mod,I.bs,aac I.ok.EG I.sz,I.stack,I.AV,I.aU,I.bare⟩
theorem Inv.after{Q:VK}{u:Value}(I:Inv X pins σ H s)(h:CE X.stack X.prog X.w H s Q u s'):EP X pins σ Q u s':=by
 obtain⟨v,c,os,a,e,f,r,q⟩:=h;obtain⟨i,g,d,t,b⟩:=s';obtain rfl:b=s.os:=os;calc⟨v,c,I.call (h':=i) (g':=g) (d':=d) (t':=t) (ch:=[]) e f a (λb z=>absurd z nofun),r,q⟩
end
def xl(sp:Sp)(a:List V)(E:XK)(t:TA):TE:=λσ H Q=>t σ H λvs b=>sp (vs++a) b Q E
def uE(C:Addr)(m:Str)(sp:Sp)(d:List V)(E:XK)(a:TE)(t:TA):TE:=λσ H Q=>a σ H λx b=>∃a e c,x=.ref a/\b a=some (.ins C e c)/\c.lookup m=none/\
 t σ b λvs a=>sp (x::(vs++d)) a Q E
def Bc(C:Addr)(sp:Sp)(c:List V)(E:XK)(t:TA):TE:=λσ H Q=>t σ H λvs b=>∀x a,b x=none->b a=none->a≠x->
 sp (.ref x::(vs++c)) (upd (upd b a (.own x)) x (.ins C a [])) (λv d=>v=.bH/\Q (.ref x) d) E
def Binds(K:W.Frag)(c:FuncData)(a:List Str)(b:List Value):Prop:=
 ∀(s:Shared) (us:List Value),K.In s.heap->(us++b).length=a.length->BindsTo s c ⟨us,[]⟩ (a.zip (us++b))
theorem Binds.all{b:FuncData}{a:List Str}(h:∀us:List Value,us.length=a.length->bindArgs b ⟨us,[]⟩=pure (a.zip us)):Binds K b a []:=λs us _ a=>by
 rw[List.append_nil]at a ⊢;calc .of_eq (h us a)
def Passes(CX:Ju)(X:Cx)(E:XK):Prop:=∀(pins:List (Addr×Obj)) (σ:St) (H:Hp) (s:Shared) (e:Value) (s':Shared),Inv X pins σ H s->CX X.stack H s E e s'->X.xe e s'
section
variable {X:Cx}{CX:Ju}{k:Nat}{f C:Addr}{fd:FuncData}{ps:List Str}{sp:Sp}{tW:List V}{ds:List Value}{E:XK}{x m:Str}{p pos apos:Pos}{e o:Expr}{es:List Expr}{ta:TE}{t:TA}
theorem zF{pins:List (Addr×Obj)}{σ:St}{H:Hp}{s:Shared}{Q:VK}{us:List Value}{vs:List V}(F:mh X.prog X.w X.K X.mg X.base CX k f fd ps sp)(c:eW k X.A)(d:Binds X.K fd ps ds)(g:Vals tW ds)(i:Passes CX X E)
  (I:Inv X pins σ H s) (r:Vals vs us) (h:sp (vs++tW) H Q E):wpAny (model X.prog X.w) X.A (call (.ref f) us) (EP X pins σ Q) X.xe s:=by
 have b:Vals (vs++tW) (us++ds):=r.append g;have j:(us++ds).length=ps.length:=by rw[<-b.length];exact F.len _ _ _ _ h
 refine wpAny_call (codeAny_mono (F.run X.A X.stack s H ⟨us,[]⟩ (us++ds) (vs++tW) Q E c I.S8 (d s us I.kj j) b h) λr l a=>?_)
 cases r with
 |error e=>calc i pins σ H s e l I a
 |ok m=>
  cases m with
  |ret u=>calc I.after a
  |next=>calc aak a
  |brk=>calc aak a
  |cont=>calc aak a
theorem Kf(F:mh X.prog X.w X.K X.mg X.base CX k f fd ps sp)(b:eW k X.A)(a:Gl X x)(c:X.mg x=some (.ref f))(d:W.keepIn X.K (.ref f)=true)(g:Binds X.K fd ps ds)(i:Vals tW ds)(j:Passes CX X E)
  (l:PA X (e::es) t) (m:(x==("__debug__":Str))=false:=by decide) (n:starEach (e::es) X.env=(false,eval e X.env)::starEach es X.env:=by rfl) (o:(backTo pos (starEach es X.env)).any (·.1)=false:=by rfl):
  PE X (.Call (.Name x p) (e::es) [] pos) (xl sp tW E t):=by
 walk_at "xc";refine wpAny_Call_Name_kw (qS I a c ?_ m);refine W.callWith_K (h₀:=X.base) I.ok.mod.Rl d (dq (l pos pins s σ H _ I h) λus c ⟨m,u,a,r,q⟩=>⟨a.kj,?_⟩) n o;exact zF F b g i j a r q
theorem Kg{pl:Sem Bool}(i:PE X o ta)(c:vF X.K C)(b:Meth X.K C m f)(F:mh X.prog X.w X.K X.mg X.base CX k f fd ps sp)(j:eW k X.A)(n:Binds X.K fd ps ds)(p:Vals tW ds)(v:Passes CX X E)(y:PA X (e::es) t)
  (z:starEach (e::es) X.env=(false,eval e X.env)::starEach es X.env:=by rfl) (B:(backTo pos (starEach es X.env)).any (·.1)=false:=by rfl)
  (r:eval (.Call (.Attribute o m apos) (e::es) [] pos) X.env=(do
   let d <-eval o X.env
   standAt apos.atName
   let (f,first) <-holding [d] (getMethod d m pl)
   callWith pos f first (backTo pos (starEach (e::es) X.env)) (backToKw pos (keywordEach [] X.env))):=by rfl):
  PE X (.Call (.Attribute o m apos) (e::es) [] pos) (uE C m sp tW E ta t):=by
 walk_at "xc";refine W.methodCall_KW (pl:=pl) (dq (i pins s σ H _ I h) λu D G=>?_) r;obtain⟨x,J,g,L,a,d,i,M,N,l,q⟩:=G;subst M;obtain rfl:u=Value.ref a:=L;refine rE g N c b l ?_;refine W.callWith_K (first:=[.ref a]) (h₀:=X.base) I.ok.mod.Rl b.kp (dq (y pos pins D σ J _ g q) λus l ⟨c,u,d,r,i⟩=>⟨d.kj,?_⟩) z B;exact zF (us:=.ref a::us) (vs:=.ref a::c) F j n p v d (.cons rfl r) i
theorem E8{pl:Sem Bool}(g:PE X o ta)(c:vF X.K C)(d:Meth X.K C m f)(F:mh X.prog X.w X.K X.mg X.base CX k f fd ps sp)(i:eW k X.A)(j:Binds X.K fd ps ds)(n:Vals tW ds)(p:Passes CX X E)
  (r:eval (.Call (.Attribute o m apos) [] [] pos) X.env=(do
   let e <-eval o X.env
   standAt apos.atName
   let (f,first) <-holding [e] (getMethod e m pl)
   callWith pos f first (backTo pos (starEach [] X.env)) (backToKw pos (keywordEach [] X.env))):=by rfl):
  PE X (.Call (.Attribute o m apos) [] [] pos) (uE C m sp tW E ta E6):=by
 walk_at "xc";refine W.methodCall_KW (pl:=pl) (dq (g pins s σ H _ I h) λu e t=>?_) r;obtain⟨x,e,b,v,a,g,B,y,z,l,q⟩:=t;subst y;obtain rfl:u=Value.ref a:=v;refine rE b z c d l ?_;exact W.callWith_K0 (first:=[.ref a]) b.kj d.kp (zF (us:=[.ref a]) (vs:=[.ref a]) F i j n p b (.cons rfl .nil) q)
structure Mk(K:W.Frag)(C f:Addr):Prop where
 makes:W.makesIn K C=true
 init:W.findIn K (.ref C) "__init__"=some (some (.ref f))
 fn:W.isFn K (.ref f)=true
 kp:W.keepIn K (.ref C)=true
theorem E9{pins:List (Addr×Obj)}{σ:St}{Q:VK}{vs:List V}(M:Mk X.K C f)(F:mh X.prog X.w X.K X.mg X.base CX k f fd ps sp)(hr:eW (k+1) X.A)(g:Binds X.K fd ps ds)(i:Vals tW ds)
  (j:Passes CX X E) (I:Inv X pins σ H s) (r:Vals vs us)
  (h:∀x b,H x=none->H b=none->b≠x->sp (.ref x::(vs++tW)) (upd (upd H b (.own x)) x (.ins C b [])) (λv d=>v=.bH/\Q (.ref x) d) E):
  wpAny (model X.prog X.w) X.A (call (.ref C) us) (EP X pins σ Q) X.xe s:=by
 have b:=h (s.heap.objs.size+1) s.heap.objs.size (I.aU.fresh (Nat.le_succ _)) (I.aU.fresh (E' _)) (W' (Nat.lt_succ_self _));have c:=Inv.made (C:=C) I;have d:Vals (V.ref (s.heap.objs.size+1)::(vs++tW)) (Value.ref (s.heap.objs.size+1)::(us++ds)):=.cons rfl (r.append i);have l:(Value.ref (s.heap.objs.size+1)::us++ds).length=ps.length:=by
  have e:=d.length;rw[F.len _ _ _ _ b]at e;exact e.symm
 refine wpAny_call (E5 (f:=f) I.kj M.makes M.init (beq_iff_eq.mp M.fn) (codeAny_mono (F.run _ X.stack _ _ ⟨Value.ref (s.heap.objs.size + 1)::us,[]⟩ (Value.ref (s.heap.objs.size + 1)::(us++ds)) _ _ E (hr.make C us [])
  (c.S8.make C us []) (g _ (Value.ref (s.heap.objs.size + 1)::us) c.kj l) d b) λr m a=>?_))
 cases r with
 |error e=>calc j pins σ _ _ e m c a
 |ok n=>
  cases n with
  |ret u=>
   obtain⟨v,o,p,q,t,y⟩:=c.after a;subst t;calc⟨q,⟨V.ref (s.heap.objs.size+1),o,p,rfl,y⟩⟩
  |next=>calc aak a
  |brk=>calc aak a
  |cont=>calc aak a
theorem Kh(M:Mk X.K C f)(F:mh X.prog X.w X.K X.mg X.base CX k f fd ps sp)(b:eW (k+1) X.A)(a:Gl X x)(c:X.mg x=some (.ref C))(d:Binds X.K fd ps ds)(g:Vals tW ds)(i:Passes CX X E)
  (j:PA X (e::es) t) (l:(x==("__debug__":Str))=false:=by decide) (m:starEach (e::es) X.env=(false,eval e X.env)::starEach es X.env:=by rfl) (n:(backTo pos (starEach es X.env)).any (·.1)=false:=by rfl):
  PE X (.Call (.Name x p) (e::es) [] pos) (Bc C sp tW E t):=by
 walk_at "xc";refine wpAny_Call_Name_kw (qS I a c ?_ l);refine W.callWith_K (h₀:=X.base) I.ok.mod.Rl M.kp (dq (j pos pins s σ H _ I h) λus c ⟨l,o,a,r,q⟩=>⟨a.kj,?_⟩) m n;exact E9 M F b d g i a r q
end
structure aB(N P:List Str)(sc:Scope):Prop where
 kind:sc.kind=.function
 co:sc.isCoroutine=false
 gen:sc.isGenerator=false
 nd:N.Nodup
 pre:N.take P.length=P
 par:∀x∈P,sc.names.lookup x=some .local\/sc.names.lookup x=some .cell
 OA:∀y∈sc.names,y.2≠.free
theorem uF{b:Str->Option NameKind}{x:Str}:∀{a:List (Str×Value)}{m:Str->Option Value},(∀v,(x,v)∉a)->bindL b a m x=m x
 | [],_,_=>rfl
 |(n,v)::r,m,h=>by
  unfold bindL;rw[uF λw c=>h w (List.mem_cons_of_mem _ c)];split
  ·have:x≠n:=by rintro rfl;exact h v X'
   simp[this]
  ·rfl
theorem uG{b:Str->Option NameKind}{x:Str}:∀{a:List (Str×Value)}{m:Str->Option Value},(∀v,(x,v)∉a)->bindC b a m x=m x
 | [],_,_=>rfl
 |(n,v)::r,m,h=>by
  unfold bindC;rw[uG λw c=>h w (List.mem_cons_of_mem _ c)];split
  ·rfl
  ·have:x≠n:=by rintro rfl;exact h v X'
   simp[this]
theorem uH{a:Str->Option NameKind}{x:Str}{v:Value}:∀{P:List Str}{vs:List Value}{i:Nat}{m:Str->Option Value},P.Nodup->P[i]?=some x->vs[i]?=some v->a x=some .local->
  bindL a (P.zip vs) m x=some v
 | [],_,_,_,_,h,_,_=>by simp at h
 |_::_,[],_,_,_,_,h,_=>by simp at h
 |p::P,w::vs,0,m,d,b,c,e=>by
  simp at b c;subst b;subst c;show bindL a ((p,w)::P.zip vs) m p=_;unfold bindL;rw[uF λv f=>(List.nodup_cons.mp d).1 (List.of_mem_zip f).1,if_pos e];simp
 |p::P,w::vs,i+1,m,d,b,c,e=>by
  show bindL a ((p,w)::P.zip vs) m x=_;unfold bindL;calc uH (i:=i) (List.nodup_cons.mp d).2 (by simpa using b) (by simpa using c) e
theorem uJ{a:Str->Option NameKind}{x:Str}{v:Value}:∀{P:List Str}{vs:List Value}{i:Nat}{m:Str->Option Value},P.Nodup->P[i]?=some x->vs[i]?=some v->a x≠some .local->
  bindC a (P.zip vs) m x=some v
 | [],_,_,_,_,h,_,_=>by simp at h
 |_::_,[],_,_,_,_,h,_=>by simp at h
 |p::P,w::vs,0,m,d,b,c,e=>by
  simp at b c;subst b;subst c;show bindC a ((p,w)::P.zip vs) m p=_;unfold bindC;rw[uG λv f=>(List.nodup_cons.mp d).1 (List.of_mem_zip f).1,if_neg e];simp
 |p::P,w::vs,i+1,m,d,b,c,e=>by
  show bindC a ((p,w)::P.zip vs) m x=_;unfold bindC;calc uJ (i:=i) (List.nodup_cons.mp d).2 (by simpa using b) (by simpa using c) e
def start(N:List Str)(vs:List V):St:=vs.map some++List.replicate (N.length-vs.length) none
def rF(CX:Ju)(P:Program)(w:World)(K:W.Frag)(mg:Str->Option Value)(base:Heap)(N:List Str)(a:Str)(scope:Scope)(f:Addr)(b:Value)(A:Around)(outer:List Env)(s:Shared)(H:Hp)(E:XK):Cx where
 prog:=P
 w:=w
 K:=K
 mg:=mg
 base:=base
 A:=A.deeper (envOfC a scope s.heap.objs.size f b)
 N:=N
 s₀:=s
 H₀:=H
 env:=envOfC a scope s.heap.objs.size f b
 outer:=outer
 stack:=envOfC a scope s.heap.objs.size f b::outer
 ex:=[]
 calm:=true
 fn:=λ_=>true
 pn:=[]
 xe:=λe s'=>wpAny (model P w) (A.deeper (envOfC a scope s.heap.objs.size f b)) (leaving (envOfC a scope s.heap.objs.size f b) e) (λ_ c=>CX outer H s E e c) (λa c=>CX outer H s E a c) s'
theorem xm{a:Scope}{n:Nat}{x:Str}(h:a.names.lookup x=some .cell):∃c,(cellsFrom n a.names []).lookup x=some c:=by
 have q:=W.cellsFrom_some a.names n [] (.inl h);calc Option.isSome_iff_exists.mp q
theorem Dj{CX:Ju}{P:Program}{w:World}{N j:List Str}{a:Str}{scope:Scope}{f:Addr}{o:Value}{outer:List Env}{b:Shared}{E:XK}{vs:List V}
  (S:aB N j scope) (D:A.handled=none) (g:zE P w K mg base A outer s H) (p:vs.length=j.length) (r:Vals vs us)
  (x:InCallC s s.heap.objs.size (bindL (envOfC a scope s.heap.objs.size f o).kindOf (j.zip us) λ_=>none) (cellsFrom (s.heap.objs.size+1) scope.names []) (bindC (envOfC a scope s.heap.objs.size f o).kindOf (j.zip us) λ_=>none) b):
  Inv (rF CX P w K mg base N a scope f o A outer s H E) [] (start N vs) H b:=by
 have b:j.length<=N.length:=by have:=congrArg List.length S.pre;rw[List.length_take]at this;lia
 obtain⟨q,z,rfl,B⟩:=x.done;have p:∀b:Addr,b ∉ (rF CX P w K mg base N a scope f o A outer s H E).ex:=λb z=>absurd (show b ∈ ([]:List Addr) from z) nofun;refine⟨⟨g.mod,S.kind,rfl,rfl,E' _,λy z c q d=>?_,λy k=>?_,λy c _ h=>?_,λ_=>D,Around.frames_deeper g.frames,.inr ⟨rfl,rfl⟩,λb z=>absurd z (p b),g.bs,g.EG,λb _ _=>p b,λb z=>absurd z (p b),g.oS,g.Ma⟩,
  rfl,g.bare,Un.kept B,⟨_,x.toInCall.ns,λi y v q d a=>?_⟩,λy c h=>⟨_,x.cell y c h⟩,g.aU.fresh (E' _),λy c h=>?_,λp l=>absurd (show p ∈ ([]:List (Addr×Obj)) from l) nofun,g.aU.kept B,?_⟩
 ·exact name_of_addr x.apart (aas q) (aas d)
 ·have k:scope.names.lookup y=some .cell\/scope.names.lookup y=some .free:=k;rcases k with k | k
  ·exact xm k
  ·exact absurd rfl (S.OA _ (aas k))
 ·exact K' (x.above y c (aas h))
 ·have t:i<vs.length:=by
   unfold start at d;by_cases t:i<vs.length
   ·exact t
   ·rw[List.getElem?_append_right (by simpa using t)]at d;rw[List.getElem?_replicate]at d;split at d<;>cases d
  have F:vs[i]?=some v:=by
   unfold start at d;rw[List.getElem?_append_left (by simpa using t),List.getElem?_map]at d
   cases e:vs[i]? with
   |none=>rw[e]at d;cases d
   |some a=>rw[e]at d;cases d;rfl
  obtain⟨u,C,G⟩:=r.get F;have l:j[i]?=some y:=by
   rw[<-S.pre,List.getElem?_take_of_lt ()];exact q
  have m:j.Nodup:=by rw[<-S.pre];exact S.nd.sublist (List.take_sublist _ _)
  calc⟨u,G,?_⟩;rcases S.par y (U' l) with k|k
  ·exact .inl ⟨k,uH m l C k⟩
  ·obtain⟨c,e⟩:=xm (n:=s.heap.objs.size+1) k;calc .inr ⟨.inl k,c,e,?_⟩;have q:=x.cell y c e;rw[uJ m l C (by show scope.names.lookup y≠_;rw[k];decide)]at q;exact q
 ·exact g.aU.fresh (K' (x.above y c (aas h)))
 ·unfold start;show _=N.length;rw[List.length_append,List.length_map,List.length_replicate];lia
theorem Tb{CX:Ju}{P:Program}{w:World}{k:Nat}{f:Addr}{name a:Str}{b:Arguments}{c:List Stmt}{scope:Scope}{o kV j y h ct l:Value}{F M:Option Addr}
  {O:Array (Option Value)} {N z:List Str} {sp:Sp} (R:K.lookup f=some ⟨l,M,.func (W.fnOf name a b c scope o kV j y F h ct),O⟩) (T:W.codeIn K h a=true) (S:aB N z scope)
  (l:∀vs H Q E,sp vs H Q E->vs.length=z.length)
  (U:∀(A:Around) (outer:List Env) (s:Shared) (H:Hp) (vs:List V) (Q:VK) (E:XK),eW k (A.deeper (envOfC a scope s.heap.objs.size f h))->sp vs H Q E->
   ∃t,wX (rF CX P w K mg base N a scope f h A outer s H E) c t/\t {nx:=λ_ g=>Q .bH g,rt:=Q} (start N vs) H):
  mh P w K mg base CX (k+1) f (W.fnOf name a b c scope o kV j y F h ct) z sp:=by
 calc⟨l,λA outer s H b us vs Q E B m X r G=>?_⟩;have Y:=l _ _ _ _ G;have I:K.In s.heap:=m.mod.Rl.keeps λb o e=>(m.bs b o e).1;have C:s.heap.NoLimit:=m.mod.nolimit.keeps λb o e=>(m.bs b o e).1;have Z:∀y∈z.zip us,scope.names.lookup y.1=some .local\/(scope.names.lookup y.1=some .cell/\((cellsFrom (s.heap.objs.size+1) scope.names []).lookup y.1).isSome=true):=λ⟨n,v⟩ hy=>by
  rcases S.par n (List.of_mem_zip hy).1 with q|q
  ·exact .inl q
  ·exact .inr ⟨q,W.cellsFrom_some _ _ _ (.inl q)⟩
 calc codeAny_call_function B.depth (I _ _ R) rfl S.co S.gen rfl (W.codeRec_of I T) (X _ _ _ _ ?_);calc wpAny_newFunctionEnv_cells S.kind Z λb he L x=>?_;subst he;calc⟨C.keeps x.toInCall.keep,codeAny_func ?_⟩;obtain⟨t,c,j⟩:=U A outer s H vs Q E (B.deeper _) G;have I:Inv (rF CX P w K mg base N a scope f h A outer s H E) [] (start N vs) H L:=Dj S B.hd m Y r x;calc aae (c [] L (start N vs) H _ I j) (λfl b i=>?_) λe b i=>i;have p:∀{d:St} {g:Hp} {v:V} {u:Value},Inv (rF CX P w K mg base N a scope f h A outer s H E) [] d g b->RelV v u->Q v g->CE outer P w H s Q u b:=
  λ{d g v u} J D q=>⟨v,g,J.os,J.bare,J.base,J.aU,D,q⟩
 cases fl with
 |ret u=>
  obtain⟨v,d,g,J,D,q⟩:=i;calc p J D q
 |next=>
  obtain⟨d,g,J,q⟩:=i;calc p (v:=V.bH) (u:=Value.none) J rfl q
 |brk=>
  obtain⟨_,_,_,q⟩:=i;calc aak q
 |cont=>
  obtain⟨_,_,_,q⟩:=i;calc aak q
end
section
section
variable {X:Cx}{x:Str}{p pos:Pos}{e:Expr}{es:List Expr}{t:TA}{id T:String}{r:List V->Hp->VK->Prop}
def Ro(r:List V->Hp->VK->Prop)(t:TA):TE:=λσ H Q=>t σ H λvs a=>r vs a Q
theorem Fb(a:dR X (.builtin id) r)(b:Gl X x)(c:X.mg x=none)(d:bootBuiltins x=some (.builtin id))(f:PA X (e::es) t)(g:x≠"__name__":=by decide)(i:(x==("__debug__":Str))=false:=by decide)
  (j:starEach (e::es) X.env=(false,eval e X.env)::starEach es X.env:=by rfl) (k:(backTo pos (starEach es X.env)).any (·.1)=false:=by rfl):PE X (.Call (.Name x p) (e::es) [] pos) (Ro r t):=by
 walk_at "xc";refine wpAny_Call_Name_kw (oT I b c d ?_ g i);exact PyProof.Rows.callWith_builtin1 (dq (f pos pins s σ H _ I h) λl m ⟨n,o,q,u,v⟩=>a pins m σ o n l Q q u v) j k
theorem Dk(a:dR X (.type T) r)(b:Gl X x)(c:X.mg x=none)(d:bootBuiltins x=some (.type T))(f:PA X (e::es) t)(g:x≠"__name__":=by decide)(i:(x==("__debug__":Str))=false:=by decide)
  (j:starEach (e::es) X.env=(false,eval e X.env)::starEach es X.env:=by rfl) (k:(backTo pos (starEach es X.env)).any (·.1)=false:=by rfl):PE X (.Call (.Name x p) (e::es) [] pos) (Ro r t):=by
 walk_at "xc";refine wpAny_Call_Name_kw (oT I b c d ?_ g i);exact PyProof.Rows.callWith_type1 (dq (f pos pins s σ H _ I h) λl m ⟨n,o,q,u,v⟩=>a pins m σ o n l Q q u v) j k
end
end
end L2
namespace HT
open PySem PyProof.Rows
variable {Q:Value->Shared->Prop}
section
open PySem.SeqAt
open PySem.AutoSeq1 (wpAny_loadPart')
open PySem.MeetsSeq PySem.MeetsSeq2 PySem.MeetsSeq3
end
section
variable {prog:Program}{w:World}{A:Around}{E:Value->Shared->Prop}{s:Shared}
theorem Ki{t b:Addr}{vs ws:List Value}(p:IsTup s.heap t vs.toArray)(q:IsTup s.heap b ws.toArray)(f:vs≠[])
  (r:ws=[]->Q (.ref t) s) (u:ws≠[]->Q (.ref s.heap.objs.size) {s with heap:=s.heap.push {cls:=.type "tuple",data:=.seq (vs++ws).toArray}})
  (hsz:vs.length+ws.length<=sizeLine):wpAny (model prog w) A (binaryOp .Add (.ref t) (.ref b)) Q E s:=by
 obtain⟨⟨cls,g,data,h⟩,c,i,n,j⟩:=id p;obtain⟨⟨v,k,e,l⟩,d,m,o,a⟩:=id q;simp only at i j m a;subst i j m a;have e:vs.toArray++ws.toArray=(vs++ws).toArray:=by simp
 by_cases a:ws=[]
 ·exact concat_meets ⟨_,c,rfl⟩ ⟨_,d,rfl⟩ noFill_tuple_add seq_tuple_add PySem.F.slot_tuple_add PySem.F.entry_tuple_add (PySem.F.args_tuple_add_2 _ _)
   (tuple_addW1 t b vs.toArray ws.toArray n o g k h l (by simpa using f) (by simp[a])) ⟨c,d,r a⟩
 ·refine concat_meets ⟨_,c,rfl⟩ ⟨_,d,rfl⟩ noFill_tuple_add seq_tuple_add PySem.F.slot_tuple_add PySem.F.entry_tuple_add (PySem.F.args_tuple_add_2 _ _)
   (tuple_addW2 t b vs.toArray ws.toArray n o g k h l (by simpa using f) (by simpa using a) (by rw[List.size_toArray,List.size_toArray];calc hsz)) ⟨c,d,?_⟩
  rw[e];calc u a
def d9(n d:Nat):Option Int->Nat
 |none=>d
 |some v=>if v<0 then(v+(n:Int)).toNat else min v.toNat n
theorem Be(n d k:Nat):d9 n d (some (k:Int))=min k n:=by
 show(if (k:Int)<0 then((k:Int)+(n:Int)).toNat else min (k:Int).toNat n)=min k n;rw[if_neg (),Int.toNat_natCast]
theorem OC(n d:Nat)(a:d<=n)(o:Option Int):d9 n d o<=n:=by
 cases o with
 |none=>calc a
 |some v=>
  show(if v<0 then(v+(n:Int)).toNat else min v.toNat n)<=n;by_cases a:v<0
  ·rw[if_pos a];lia
  ·rw[if_neg a];calc Nat.min_le_right _ _
theorem Bf(v:Int)(n d:Nat):(if v<0 then max (v+(n:Int)) 0 else min v (n:Int))=((d9 n d (some v):Nat):Int):=by
 show(if v<0 then max (v+(n:Int)) 0 else min v (n:Int))=(((if v<0 then(v+(n:Int)).toNat else min v.toNat n):Nat):Int)
 by_cases a:v<0
 ·simp only[if_pos a];lia
 ·simp only[if_neg a];lia
theorem zG(a b:Option Int)(n:Nat):Builtin.Slice.sliceAdjust a b 1 (n:Int)=(((d9 n 0 a:Nat):Int),((d9 n n b:Nat):Int)):=by
 have c:¬((1:Int)<0):=by lia
 unfold Builtin.Slice.sliceAdjust;simp only[c,if_false];refine Prod.ext ?_ ?_
 ·cases a with
  |none=>rfl
  |some v=>exact Bf v n 0
 ·cases b with
  |none=>rfl
  |some v=>calc Bf v n n
theorem zH(i j:Nat):Builtin.Slice.slicePlaces (i:Int) (j:Int) 1=j-i:=by
 unfold Builtin.Slice.slicePlaces;have a:(1:Int) > 0:=by lia
 simp only[a,if_true,Int.ediv_one];split<;>lia
theorem rG{v:Value}{o:Option Int}{Q:Option Int->Shared->Prop}(p:IsPart v o)(h:Q o s):wpAny (model prog w) A (Builtin.Slice.slicePartIndex v) Q E s:=by
 cases p with
 |none=>calc slicePart_none h
 |int i t=>calc slicePart_int h
theorem jD{e:Addr}{c d:Value}{a b:Option Int}{n:Nat}{Q:Int×Int×Nat->Shared->Prop}(g:s.heap.IsSliceOf e c d .none)(pl:IsPart c a)(i:IsPart d b)
  (h:Q (((d9 n 0 a:Nat):Int),1,d9 n n b-d9 n 0 a) s):wpAny (model prog w) A (Builtin.Slice.sliceApplied (.ref e) (pure (n:Int))) Q E s:=by
 obtain⟨j,e,k,f⟩:=id g;unfold Builtin.Slice.sliceApplied Builtin.Slice.sliceFields;calc A' (A' (aah e f (x:=c) rfl (A' (aah e f (x:=d) rfl (A' (aah e f (x:=.none) rfl (L' ?_)))))));calc A' (slicePart_none ?_);show wpAny _ _ (if ((1:Int)==0)=true then _ else _) _ _ s;rw[if_neg ∅];calc A' (rG pl (A' (rG i (A' (L' ?_)))));show wpAny _ _ (match Builtin.Slice.sliceAdjust a b 1 (n:Int) with|(a,b)=>pure (a,(1:Int),Builtin.Slice.slicePlaces a b 1)) _ _ s;rw[zG a b n];show wpAny _ _ (pure (((d9 n 0 a:Nat):Int),(1:Int),Builtin.Slice.slicePlaces ((d9 n 0 a:Nat):Int) ((d9 n n b:Nat):Int) 1)) _ _ s;rw[zH];calc L' h
theorem Fc(xs:Array Value)(i k:Nat):((List.range k).filterMap λ(m:Nat)=>xs[((i:Int)+(m:Int)*1).toNat]?).toArray=((xs.toList.drop i).take k).toArray:=by
 have e:(λ(m:Nat)=>xs[((i:Int)+(m:Int)*1).toNat]?)=λm=>xs[i+m]?:=by
  funext m;have:((i:Int)+(m:Int)*1).toNat=i+m:=by lia
  rw[this]
 rw[e];have:=pick_run xs i k;rw[List.filterMap_map]at this;have a:((λx=>xs[x]?) ∘ λx=>i+x)=λm=>xs[i+m]?:=rfl;rw[a]at this;rw[this]
theorem nX{t f:Addr}{a:Array Value}{e g:Value}{b c:Option Int}(d:IsTup s.heap t a)(i:s.heap.IsSliceOf f e g .none)(pl:IsPart e b)(j:IsPart g c)
  (g:¬(d9 a.size 0 b=0/\d9 a.size a.size c=a.size))
  (h:Q (.ref s.heap.objs.size) {s with heap:=s.heap.push {cls:=.type "tuple",data:=.seq ((a.toList.drop (d9 a.size 0 b)).take (d9 a.size a.size c-d9 a.size 0 b)).toArray}})
  (hsz:a.size<=sizeLine):wpAny (model prog w) A (getItem (.ref t) (.ref f)) Q E s:=by
 have e:sizeOk (.seq ((a.toList.drop (d9 a.size 0 b)).take (d9 a.size a.size c-d9 a.size 0 b)).toArray):=by
  show((a.toList.drop (d9 a.size 0 b)).take (d9 a.size a.size c-d9 a.size 0 b)).toArray.size<=sizeLine;rw[List.size_toArray,List.length_take,List.length_drop,Array.length_toList];lia
 have k:d9 a.size a.size c<=a.size:=OC _ _ (E' _) c;obtain⟨k,l,n,o⟩:=id i;have o:s.TypeIs (.ref f) "slice":=⟨k,l,n⟩
 unfold getItem
 try with_reducible refine aaD ?_
 first|calc A' (L' ?_)|skip
 calc A' (wpAny_sequenceKey d.typeIs ∅ ?_);refine A' (aaq (name:=Str.ofString "__getitem__") d.typeIs aax
  (aat aax d.typeIs entry_tuple_getitem ?_ (args_tuple_getitem _ _)))
 show wpAny _ _ (Builtin.Tuple.tupleItemsOf (.ref t) >>= _) _ _ s;calc A' (tupleItemsOf_ d ?_);calc A' (wpAny_typeOf o ?_);rw[if_pos ∅];calc A' (jD i pl j ?_);have f:¬((((d9 a.size 0 b:Nat):Int)==0&&(1:Int)==1&&(d9 a.size a.size c-d9 a.size 0 b)==a.size)=true):=by
  intro q;rw[Bool.and_eq_true,Bool.and_eq_true]at q;have d:((d9 a.size 0 b:Nat):Int)=0:=eq_of_beq q.1.1;have d:d9 a.size a.size c-d9 a.size 0 b=a.size:=eq_of_beq q.2;exact g ⟨(),()⟩
 show wpAny _ _ (if (((d9 a.size 0 b:Nat):Int)==0&&(1:Int)==1&&(d9 a.size a.size c-d9 a.size 0 b)==a.size)=true then _ else _) _ _ s;rw[if_neg f,Fc]
 first
  |calc A' (m:=Builtin.Tuple.tupleExact _) (aaC (L' ⟨_,rfl,L' h⟩) e)
  |calc A' (m:=Builtin.Tuple.tupleExact _) (aaC (A' (L' (L' ⟨_,rfl,L' h⟩))) e)
  |calc A' (A' (m:=Builtin.Tuple.tupleExact _) (aaC (L' (L' ⟨_,rfl,L' h⟩)) e))
  |calc A' (A' (m:=Builtin.Tuple.tupleExact _) (aaC (L' ⟨_,rfl,L' h⟩) e))
end
end HT
namespace L2
open PySem PySem.Spec PyProof.Rows
section
abbrev TO:=St->Hp->(Option Int->Hp->Prop)->Prop
def PO(X:Cx)(e:Option Expr)(t:TO):Prop:=
 ∀(pins:List (Addr×Obj)) (s:Shared) (σ:St) (H:Hp) (Q:Option Int->Hp->Prop),Inv X pins σ H s->t σ H Q->
  wpAny (model X.prog X.w) X.A (evalPart e X.env) (λu s'=>∃o a,Inv X pins σ a s'/\IsPart u o/\Q o a) X.xe s
def vH:TO:=λ_ H Q=>Q none H
def Fd(t:TE):TO:=λσ H Q=>t σ H λx a=>∃i,x=.int i/\Q (some i) a
section
variable {X:Cx}{e:Expr}{te:TE}{lo hi:Option Expr}{tl th:TO}{pos p2:Pos}
theorem qT:PO X none vH:=by
 intro a s σ H Q I h;rw[evalPart_none];calc L' ⟨none,H,I,.none,h⟩
theorem iM(h:PE X e te):PO X (some e) (Fd te):=by
 intro a s σ H Q I b;rw[evalPart_some];calc dq (h a s σ H _ I b) λu k c=>?_;obtain⟨x,d,f,g,j⟩:=c;obtain⟨i,rfl,q⟩:=j;obtain⟨t,rfl⟩:=g;calc⟨some i,d,f,.int i t,q⟩
def Kj(X:Cx)(r:V->Option Int->Option Int->Hp->VK->Prop):Prop:=
 ∀(pins:List (Addr×Obj)) (s:Shared) (σ:St) (H:Hp) (x:V) (v a b:Value) (lo hi:Option Int) (c:Addr) (Q:VK),Inv X pins σ H s->RelV x v->s.heap.IsSliceOf c a b .none->IsPart a lo->IsPart b hi->r x lo hi H Q->
  ∃T a,typeLookup (.type T) "__getitem__"=pure (some (.builtin a))/\s.TypeIs v T/\wpAny (model X.prog X.w) X.A (getItem v (.ref c)) (EP X pins σ Q) X.xe s
theorem Kj.or{r b:V->Option Int->Option Int->Hp->VK->Prop}(h:Kj X r)(h':Kj X b):Kj X (λx lo hi H Q=>r x lo hi H Q\/b x lo hi H Q):=by
 intro a s σ H x v c d lo hi e Q I f g i j q;rcases q with q|q
 ·exact h a s σ H x v c d lo hi e Q I f g i j q
 ·calc h' a s σ H x v c d lo hi e Q I f g i j q
def Td(r:V->Option Int->Option Int->Hp->VK->Prop)(te:TE)(tl th:TO):TE:=λσ H Q=>te σ H λx a=>tl σ a λl b=>th σ b λu a=>r x l u a Q
theorem xn{r:V->Option Int->Option Int->Hp->VK->Prop}(g:Kj X r)(a:PE X e te)(d:PO X lo tl)(f:PO X hi th):PE X (.Subscript e (.Slice lo hi none p2) pos) (Td r te tl th):=by
 walk_at "xc";refine Subscript_ (dq (a pins s σ H _ I h) λv i b=>?_);obtain⟨x,a,j,k,m⟩:=b;refine wpAny_Slice (dq (d pins i σ a _ j m) λc n ⟨l,o,p,r,q⟩=>dq (f pins n σ o _ p q) λd a b=>?_);obtain⟨u,f,i,j,m⟩:=b;rw[evalPart_none];refine L' ?_;have n:Inv X pins σ f {a with heap:=a.heap.push {cls:=.type "slice",data:=.fields #[c,d,.none]}}:=i.kept (t':=a.toks) λb i q=>J' _ q;obtain⟨T,p,b,i,o⟩:=g pins {a with heap:=a.heap.push {cls:=.type "slice",data:=.fields #[c,d,.none]}} σ f x v c d l u a.heap.objs.size Q n k (Heap.IsSliceOf.new ..) r j m;show wpAny (model X.prog X.w) X.A (subscriptTail e (.Slice lo hi none p2) v (.ref a.heap.objs.size)) (EP X pins σ Q) X.xe {a with heap:=a.heap.push {cls:=.type "slice",data:=.fields #[c,d,.none]}};exact tail_any (ops:=[.ref a.heap.objs.size,v]) i b o (by with_unfolding_all rfl)
def eC(xs:List V)(lo hi:Option Int):List V:=(xs.drop (HT.d9 xs.length 0 lo)).take (HT.d9 xs.length xs.length hi-HT.d9 xs.length 0 lo)
theorem qv(xs:List V)(lo hi:Option Int):(eC xs lo hi).length<=xs.length:=by
 unfold eC;rw[List.length_take,List.length_drop];lia
def Ys(K:W.Frag):V->Option Int->Option Int->Hp->VK->Prop:=λx lo hi H Q=>∃a xs,x=.ref a/\bL K H a xs/\
 ¬(HT.d9 xs.length 0 lo=0/\HT.d9 xs.length xs.length hi=xs.length)/\∀p,H p=none->Q (.ref p) (upd H p (.tup (eC xs lo hi)))
theorem OE:Kj X (Ys X.K):=by
 intro b s σ H x v d m lo hi n Q I e g i j h;obtain⟨a,c,rfl,k,l,q⟩:=h
 cases e;obtain⟨m,r,b,d⟩:=I.tuple k;have a:m.toArray.size=c.length:=by rw[List.size_toArray];exact r.length.symm
 refine⟨"tuple",_,PyProof.Rows.slot_tuple_getitem.lookup,b.typeIs,?_⟩;refine HT.nX b g i j (by rw[a];exact l) ?_ (by rw[a];exact d);rw[a];refine⟨.ref s.heap.objs.size,_,I.laid (t':=s.toks) (o:=.tup (eC c lo hi)) (λb a q=>J' _ q) (E' _) ?_,rfl,q _ (I.aU.fresh (E' _))⟩;exact⟨aac (qv c lo hi) d,_,(r.drop (HT.d9 c.length 0 lo)).take (HT.d9 c.length c.length hi-HT.d9 c.length 0 lo),IsTup.new _ _⟩
def Te(K:W.Frag):R2:=λx y H Q=>∃a b xs ys,x=.ref a/\y=.ref b/\bL K H a xs/\bL K H b ys/\xs≠[]/\xs.length+ys.length<=sizeLine/\
 (ys=[]->Q (.ref a) H)/\(ys≠[]->∀p,H p=none->Q (.ref p) (upd H p (.tup (xs++ys))))
theorem Vals.vI{xs:List V}{us:List Value}(r:Vals xs us):us=[]↔xs=[]:=by
 cases r with
 |nil=>simp
 |cons _ _=>simp
theorem Kk:fX X (binaryOp .Add) (Te X.K):=by
 intro c s σ H x y v u Q I d f h;obtain⟨a,b,g,i,rfl,rfl,j,k,l,e,m,n⟩:=h
 cases d
 cases f;obtain⟨c,d,h,_⟩:=I.tuple j;obtain⟨f,c,p2,_⟩:=I.tuple k;calc HT.Ki h p2 (λz=>l (d.vI.mp z)) (λz=>⟨.ref a,H,I,rfl,m (c.vI.mp z)⟩) (λz=>?_) (by rw[<-d.length,<-c.length];calc e);calc⟨.ref s.heap.objs.size,_,I.laid (t':=s.toks) (o:=.tup (g++i)) (λb a q=>J' _ q) (E' _) ?_,rfl,n (λw=>z (c.vI.mpr w)) _ (I.aU.fresh (E' _))⟩;calc⟨by rw[List.length_append];calc e,_,d.append c,IsTup.new _ _⟩
end
end
section
def zI(n:Nat)(i:Int):Option Nat:=if 0<=i then(if i<n then some i.toNat else none) else if -(n:Int)<=i then some (i+n).toNat else none
def iJ{α:Type}(xs:List α)(i:Int):Option α:=(zI xs.length i).bind λj=>xs[j]?
theorem Bi{n:Nat}{i:Int}{j:Nat}(h:zI n i=some j):seqIndex? i n=some j/\j<n/\-(n:Int)<=i/\i<n:=by
 unfold zI at h;by_cases b:0<=i
 ·rw[if_pos b] at h;by_cases a:i < n
  ·rw[if_pos a]at h;have e:i.toNat=j:=Option.some.inj h;exact⟨by rw[seqIndex_of b a,e],(),(),a⟩
  ·rw[if_neg a]at h;cases h
 ·rw[if_neg b] at h;by_cases a:-(n:Int)<=i
  ·rw[if_pos a]at h;have e:(i+n).toNat=j:=Option.some.inj h;exact⟨by rw[seqIndex_neg () a,e],(),a,()⟩
  ·rw[if_neg a]at h;cases h
theorem vJ{α:Type}{xs:List α}{i:Int}{v:α}(h:iJ xs i=some v):∃j,seqIndex? i xs.length=some j/\xs[j]?=some v/\j<xs.length/\-(xs.length:Int)<=i/\i<xs.length:=by
 unfold iJ at h
 cases e:zI xs.length i with
 |none=>rw[e]at h;cases h
 |some j=>
  rw[e]at h;obtain⟨a,b,c,d⟩:=Bi e;calc⟨j,a,h,b,c,d⟩
theorem ay{α:Type}{xs:List α}{j:Nat}{v:α}(h:xs[j]?=some v):iJ xs (j:Int)=some v:=by
 have a:j<xs.length:=(List.getElem?_eq_some_iff.mp h).1;have e:zI xs.length (j:Int)=some j:=by
  unfold zI;rw[if_pos (),if_pos ()];simp
 unfold iJ;rw[e];calc h
def Bj(b:Expr):Prop:=∀o i,subscripted b false o i=operate [o,i] (getItem o i)
def Kl(X:Cx)(r:R2):Prop:=
 ∀(b a:Expr) (pins:List (Addr×Obj)) (s:Shared) (σ:St) (H:Hp) (x y:V) (v u:Value) (Q:VK),Inv X pins σ H s->RelV x v->RelV y u->r x y H Q->
  subscripted a false v u=operate [v,u] (getItem v u)->wpAny (model X.prog X.w) X.A (subscriptTail b a v u) (EP X pins σ Q) X.xe s
def Jv(X:Cx)(a:String)(r:V->List V->Hp->VK->Prop):Prop:=
 ∀(pins:List (Addr×Obj)) (s:Shared) (σ:St) (H:Hp) (x:V) (xs:List V) (v:Value) (us:List Value) (Q:VK),Inv X pins σ H s->RelV x v->Vals xs us->r x xs H Q->
  wpAny (model X.prog X.w) X.A (call (.builtin a) (v::us)) (EP X pins σ Q) X.xe s
section
variable {X:Cx}{a b:Expr}{ta tb:TE}{pos:Pos}
theorem Kl.or{r d:R2}(h:Kl X r)(h':Kl X d):Kl X (λx y H Q=>r x y H Q\/d x y H Q):=by
 intro a b c s σ H x y v u Q I e f q g;rcases q with q|q
 ·exact h a b c s σ H x y v u Q I e f q g
 ·calc h' a b c s σ H x y v u Q I e f q g
theorem Jv.or{b:String}{r c:V->List V->Hp->VK->Prop}(h:Jv X b r)(h':Jv X b c):Jv X b (λx xs H Q=>r x xs H Q\/c x xs H Q):=by
 intro a s σ H x xs v d Q I e f q;rcases q with q|q
 ·exact h a s σ H x xs v d Q I e f q
 ·calc h' a s σ H x xs v d Q I e f q
theorem Tf{r:R2}(c:Kl X r)(d:PE X a ta)(e:PE X b tb)(f:Bj b):PE X (.Subscript a b pos) (EX r ta tb):=by
 walk_at "xc";exact Subscript_ (Ol d e I h λv u g x y i j k l q=>c a b pins g σ i x y v u Q j k l q (f _ _))
def Yt(K:W.Frag):R2:=λx y H Q=>∃p xs i v,x=.ref p/\y=.int i/\aN K H p xs/\iJ xs i=some v/\Q v H
def Yu(K:W.Frag):R2:=λx y H Q=>∃p xs i v,x=.ref p/\y=.int i/\bL K H p xs/\iJ xs i=some v/\Q v H
def Yv:R2:=λx y H Q=>∃z i c,x=.str z/\y=.int i/\z.length<=sizeLine/\iJ z.cps.toList i=some c/\Q (.str ⟨#[c]⟩) H
theorem Km:Kl X (Yt X.K):=by
 intro b c a s σ H x y v u Q I d e h f;obtain⟨p,j,i,z,rfl,rfl,g,k,q⟩:=h
 cases d;obtain⟨t,rfl⟩:=e;obtain⟨l,r,d,b⟩:=I.list g;obtain⟨j,c,b,e,m,n⟩:=vJ k;obtain⟨w,g,e⟩:=r.get b;have k:=r.length;have b:=rD;have b:EP X a σ Q w s:=⟨z,H,I,e,q⟩
 by_cases h:0<=i
 ·have e:i.toNat=j:=by
   rw[seqIndex_of h n]at c;exact Option.some.inj c
  exact item_listR d.isList h () (by rw[e];simpa using g) b f
 ·have e:(i+(l.toArray.size:Int)).toNat=j:=by
   rw[seqIndex_neg () m]at c;rw[List.size_toArray,<-k];exact Option.some.inj c
  exact subscriptTail_builtinR (x:=w) d.isList.typeIs slot_list_getitem.lookup
   (wpAny_getItem_list_neg (Q:=λr c=>r=w/\EP X a σ Q r c) d.isList () (by rw[List.size_toArray]<;>lia) () (by rw[e];simpa using g) ⟨rfl,b⟩) f
theorem OF:Kl X (Yu X.K):=by
 intro b c a s σ H x y v u Q I d e h f;obtain⟨p,j,i,z,rfl,rfl,g,k,q⟩:=h
 cases d;obtain⟨t,rfl⟩:=e;obtain⟨b,r,c,d⟩:=I.tuple g;obtain⟨j,d,b,e,h,i⟩:=vJ k;obtain⟨w,e,g⟩:=r.get b;have h:=r.length;have b:=rD;have b:EP X a σ Q w s:=⟨z,H,I,g,q⟩
 exact subscriptTail_builtinR (x:=w) c.typeIs slot_tuple_getitem.lookup
  (getItem_tuple (j:=j) (Q:=λr g=>r=w/\EP X a σ Q r g) c () () (by rw[List.size_toArray,<-h];calc d) (by simpa using e) ⟨rfl,b⟩) f
theorem OG:Kl X Yv:=by
 intro a b d s σ H x y v u Q I e f h g;obtain⟨z,i,c,rfl,rfl,j,k,q⟩:=h;obtain⟨t,rfl⟩:=e;obtain⟨l,rfl⟩:=f;obtain⟨j,a,b,h,d,e⟩:=vJ k;have f:z.cps.toList.length=z.length:=by simp[Str.length]
 rw[f] at a d e;have h:=rD;exact tail_any (typeIs_str s z t) slot_str_getitem.lookup (getItem_str (c:=c) (by
  have d:decide (i < -(2 ^ 63:Int))=false:=decide_eq_false ();have e:decide (i >= 2 ^ 63)=false:=decide_eq_false ();rw[d,e,Bool.or_false]) (by rw[a];simpa using b) ⟨.str ⟨#[c]⟩,H,I.tok _,⟨_,rfl⟩,q⟩) g
theorem zJ(a:List Value)(n j:Nat)(u:Value):Obj.mapSeq (·.setIfInBounds j u) {cls:=.type "list",data:=.seq a.toArray n}={cls:=.type "list",data:=.seq (a.set j u).toArray n}:=by
 simp[Obj.mapSeq]
theorem Inv.lst{pins:List (Addr×Obj)}{σ:St}{H:Hp}{s:Shared}{p:Addr}{xs:List V}(I:Inv X pins σ H s)(h:H p=some (.lst xs)):
  ∃(a:List Value) (n:Nat),Vals xs a/\s.heap.get? p=some {cls:=.type "list",data:=.seq a.toArray n}/\xs.length<=sizeLine:=by
 obtain⟨z,a,n,r,e⟩:=I.aU p _ h;calc⟨a,n,r,e,z⟩
theorem Inv.OH{pins:List (Addr×Obj)}{σ:St}{H:Hp}{s:Shared}{p:Addr}{xs ys:List V}{c kq:List Value}{n a:Nat}{f:Obj->Obj}(I:Inv X pins σ H s)(h:H p=some (.lst xs))
  (g:s.heap.get? p=some {cls:=.type "list",data:=.seq c.toArray n}) (d:f {cls:=.type "list",data:=.seq c.toArray n}={cls:=.type "list",data:=.seq kq.toArray a}) (r:Vals ys kq) (c:ys.length<=sizeLine) (t:Nat):
  Inv X pins σ (upd H p (.lst ys)) {s with heap:=s.heap.update p f,toks:=t}:=by
 have e:(s.heap.update p f).get? p=some {cls:=.type "list",data:=.seq kq.toArray a}:=by
  rw[Heap.get?_update_self f g (by rw[d]<;>rfl),d]
 calc I.write (x:=p) (e:=p) (by rw[h];trivial) (.inl rfl) (λb u d q=>(Heap.get?_update_other _ _ (Ne.symm d)).trans q) ⟨_,e⟩ ?_;calc⟨c,kq,a,r,e⟩
def Tg:V->V->V->Hp->(Hp->Prop)->Prop:=λo i v H Q=>∃p xs k j,o=.ref p/\i=.int k/\H p=some (.lst xs)/\zI xs.length k=some j/\Q (upd H p (.lst (xs.set j v)))
theorem set_list:Oe X Tg:=by
 intro a s σ H o i v c f u Q I b d l h;obtain⟨p,m,k,j,rfl,rfl,e,w,q⟩:=h
 cases b;obtain⟨t,rfl⟩:=d;obtain⟨f,n,r,c,o⟩:=I.lst e;obtain⟨b,d,g,h⟩:=Bi w;have d:=r.length;have i:=rD;have i:Inv X a σ (upd H p (.lst (m.set j v))) {s with heap:=s.heap.update p (Obj.mapSeq (·.setIfInBounds j u))}:=
  I.OH e c (zJ f n j u) (r.set l j) (by rw[List.length_set];calc o) s.toks
 by_cases e:0<=k
 ·have a:k.toNat=j:=by
   rw[seqIndex_of e h]at b;exact Option.some.inj b
  exact W.ki_setAt c e () (by rw[List.size_toArray,<-d];calc h) (by rw[a];calc⟨_,i,q⟩)
 ·have a:(k+(f.toArray.size:Int)).toNat=j:=by
   rw[seqIndex_neg () g]at b;rw[List.size_toArray,<-d];exact Option.some.inj b
  calc W.ki_setBack c () (by rw[List.size_toArray,<-d];calc g) () (by rw[a];calc⟨_,i,q⟩)
theorem vK(a b:Option Int)(n:Nat):(sliceBounds a b none n).1=((HT.d9 n 0 a:Nat):Int)/\(sliceBounds a b none n).2.1=((HT.d9 n n b:Nat):Int)/\(sliceBounds a b none n).2.2=1:=by
 refine⟨?_,?_,rfl⟩
 ·cases a with
  |none=>simp[sliceBounds,HT.d9]
  |some i=>
   simp only[sliceBounds,HT.d9,Option.getD_none,show(1:Int) > 0 by decide,if_true];by_cases h:i<0
   ·simp only[h,if_true]<;>lia
   ·simp only[h,if_false]<;>lia
 ·cases b with
  |none=>simp[sliceBounds,HT.d9]
  |some i=>
   simp only[sliceBounds,HT.d9,Option.getD_none,show(1:Int) > 0 by decide,if_true];by_cases h:i<0
   ·simp only[h,if_true]<;>lia
   ·simp only[h,if_false]<;>lia
theorem tY(a:List Value)(b c:Option Int):slicePick a.toArray b c none=((a.drop (HT.d9 a.length 0 b)).take (HT.d9 a.length a.length c-HT.d9 a.length 0 b)).toArray:=by
 obtain⟨d,e,f⟩:=vK b c a.toArray.size;unfold slicePick;rw[d,e,f];simp only[sliceRange_one,pick_run,List.size_toArray]<;>rfl
def Yw(K:W.Frag):V->Option Int->Option Int->Hp->VK->Prop:=λx b c H Q=>∃a xs,x=.ref a/\aN K H a xs/\∀p,H p=none->Q (.ref p) (upd H p (.lst (eC xs b c)))
theorem Bk:Kj X (Yw X.K):=by
 intro d s σ H x v g n e f p Q I i j k l h;obtain⟨a,c,rfl,m,q⟩:=h
 cases i;obtain⟨d,r,g,h⟩:=I.list m;have d:=r.length;refine⟨"list",_,slot_list_getitem.lookup,g.isList.typeIs,?_⟩;refine wpAny_getItem_list_slice g.isList j k l .none nofun ?_ (by rw[List.size_toArray]<;>lia);rw[tY,<-d];refine⟨.ref s.heap.objs.size,_,I.laid (t':=s.toks) (o:=.lst (eC c e f)) (λb d q=>J' _ q) (E' _) ?_,rfl,q _ (I.aU.fresh (E' _))⟩;exact⟨aac (qv c e f) h,_,0,(r.drop (HT.d9 c.length 0 e)).take (HT.d9 c.length c.length f-HT.d9 c.length 0 e),T' _ rfl⟩
def jE:V->Bool
 | .bH=>true
 | .bl _=>true
 | .int _=>true
 | .str _=>true
 |_=>false
def Jw:V->V->Bool
 | .bH,.bH=>true
 | .bl a,.bl b=>a==b
 | .bl a,.int b=>(if a then 1 else 0)==b
 | .int a,.bl b=>a==(if b then 1 else 0)
 | .int a,.int b=>a==b
 | .str a,.str b=>a==b
 |_,_=>false
theorem Fe{A:Around}{s:Shared}{y x:V}{u v:Value}(e:RelV y u)(c:RelV x v)(g:jE y=true)(f:jE x=true):SeqAt.EqAt A s u v (Jw y x):=by
 cases y with
 |bH=>
  cases e
  cases x with
  |bH=>cases c;calc SeqAt.EqAt.same _
  |bl b=>cases c;calc SeqAt.EqAt.none_bool b
  |int b=>obtain⟨t,rfl⟩:=c;calc SeqAt.EqAt.none_int b t
  |str b=>obtain⟨t,rfl⟩:=c;calc SeqAt.EqAt.none_str b t
  |_=>calc absurd (show false=true from f) S'
 |bl a=>
  cases e
  cases x with
  |bH=>cases c;calc SeqAt.EqAt.bool_none a
  |bl b=>cases c;calc SeqAt.EqAt.bool_bool a b
  |int b=>obtain⟨t,rfl⟩:=c;calc SeqAt.EqAt.bool_int a b t
  |str b=>obtain⟨t,rfl⟩:=c;calc SeqAt.EqAt.bool_str a b t
  |_=>calc absurd (show false=true from f) S'
 |int a=>
  obtain⟨d,rfl⟩:=e
  cases x with
  |bH=>cases c;calc SeqAt.EqAt.int_none a d
  |bl b=>cases c;calc SeqAt.EqAt.int_bool a d b
  |int b=>obtain⟨t,rfl⟩:=c;calc SeqAt.EqAt.int_int a d b t
  |str b=>obtain⟨t,rfl⟩:=c;calc SeqAt.EqAt.int_str a d b t
  |_=>calc absurd (show false=true from f) S'
 |str a=>
  obtain⟨d,rfl⟩:=e
  cases x with
  |bH=>cases c;calc SeqAt.EqAt.str_none a d
  |bl b=>cases c;calc SeqAt.EqAt.str_bool a d b
  |int b=>obtain⟨t,rfl⟩:=c;calc SeqAt.EqAt.str_int a d b t
  |str b=>obtain⟨t,rfl⟩:=c;calc SeqAt.EqAt.str_str a d b t
  |_=>calc absurd (show false=true from f) S'
 |_=>calc absurd (show false=true from g) S'
def Kn(x:V)(u:Value):Bool:=match u with
 | .none=>Jw .bH x
 | .bool b=>Jw (.bl b) x
 | .int i _=>Jw (.int i) x
 | .str z _=>Jw (.str z) x
 |_=>false
theorem Ff{x y:V}{u:Value}(r:RelV y u)(f:jE y=true):Kn x u=Jw y x:=by
 cases y with
 |bH=>cases r;rfl
 |bl b=>cases r;rfl
 |int i=>obtain⟨t,rfl⟩:=r;rfl
 |str z=>obtain⟨t,rfl⟩:=r;rfl
 |_=>calc absurd (show false=true from f) S'
theorem vL{x:V}:∀{xs:List V}{us:List Value},Vals xs us->xs.all jE=true->us.any (Kn x)=xs.any λy=>Jw y x
 |_,_,.nil,_=>rfl
 |y::xs,u::us,.cons r t,f=>by
  rw[List.all_cons,Bool.and_eq_true]at f;rw[List.any_cons,List.any_cons,Ff r f.1,vL t f.2]
theorem rH{A:Around}{s:Shared}{x:V}{v:Value}(b:RelV x v)(c:jE x=true):∀{xs:List V}{us:List Value},Vals xs us->xs.all jE=true->∀u∈us,SeqAt.EqAt A s u v (Kn x u)
 |_,_,.nil,_=>λu a=>by cases a
 |y::xs,u::us,.cons r t,f=>λd a=>by
  rw[List.all_cons,Bool.and_eq_true]at f;rcases List.mem_cons.mp a with rfl|a
  ·rw[Ff r f.1];exact Fe r b f.1 c
  ·calc rH b c t f.2 d a
def Bl(x:V)(xs:List V):Bool:=xs.any λy=>Jw y x
def rIn(K:W.Frag)(a:Bool):R2:=λx y H Q=>∃p xs,y=.ref p/\(aN K H p xs\/bL K H p xs)/\jE x=true/\xs.all jE=true/\Q (.bl (if a then !Bl x xs else Bl x xs)) H
theorem Dm:fX X (compareOp .In) (rIn X.K false):=by
 intro b s σ H x y v u Q I f d h;obtain⟨p,e,rfl,a,g,c,q⟩:=h
 cases d;rcases a with a|a
 ·obtain⟨b,r,d,h⟩:=I.list a;calc SeqAt.in_listAt (Kn x) d.isList (λw e=>rH f g r c w (by simpa using e)) ⟨.bl _,H,I,rfl,?_⟩;rw[show b.toArray.any (Kn x)=b.any (Kn x) by simp,vL r c];exact q
 ·obtain⟨b,r,d,h⟩:=I.tuple a;calc SeqAt.in_tupleAt (Kn x) d (λw e=>rH f g r c w (by simpa using e)) ⟨.bl _,H,I,rfl,?_⟩;rw[show b.toArray.any (Kn x)=b.any (Kn x) by simp,vL r c];calc q
theorem dR.or{f:Value}{r b:List V->Hp->VK->Prop}(h:dR X f r)(h':dR X f b):dR X f (λxs H Q=>r xs H Q\/b xs H Q):=by
 intro a s σ H xs c Q I d q;rcases q with q|q
 ·exact h a s σ H xs c Q I d q
 ·calc h' a s σ H xs c Q I d q
theorem vM:dR X (.type "list") (λxs H Q=>∃p ys,xs=[.ref p]/\(aN X.K H p ys\/bL X.K H p ys)/\∀l,H l=none->Q (.ref l) (upd H l (.lst ys))):=by
 intro g s σ H xs o Q I r h;obtain⟨p,ys,rfl,i,q⟩:=h;obtain⟨u,rfl,n⟩:=vals1 r
 cases n;have j:∀(c:List Value),Vals ys c->ys.length<=sizeLine->∀(a:Heap) (d:Nat),(∀b h,s.heap.get? b=some h->a.get? b=some h)->
   a.get? s.heap.objs.size=some {cls:=.type "list",dict:=none,data:=.seq c.toArray d,slots:=#[]}->EP X g σ Q (.ref s.heap.objs.size) {s with heap:=a}:=λc f k a d m e=>
  ⟨.ref s.heap.objs.size,_,I.laid (t':=s.toks) m (E' _) (show cy X.prog X.w _ a _ (.lst ys) from⟨k,c,d,f,e⟩),rfl,q _ (I.aU.fresh (E' _))⟩
 rcases i with i|i
 ·obtain⟨c,f,h,k⟩:=I.list i;have g:=f.length;obtain⟨o,l,q,n,r⟩:=h.isList;exact call_list_seq p (.inl rfl) l q r (λa d m e=>j c f k a d m e) (by simp only[List.size_toArray]<;>lia)
 ·obtain⟨c,f,h,k⟩:=I.tuple i;have g:=f.length;obtain⟨o,l,q,n,r⟩:=h;calc call_list_seq p (.inr rfl) l q r (λa d m e=>j c f k a d m e) (by simp only[List.size_toArray]<;>lia)
theorem mz:dR X (.type "tuple") (λxs H Q=>∃p ys,xs=[.ref p]/\((aN X.K H p ys/\∀l,H l=none->Q (.ref l) (upd H l (.tup ys)))\/(bL X.K H p ys/\Q (.ref p) H))):=by
 intro a s σ H xs d Q I r h;obtain⟨p,ys,rfl,h⟩:=h;obtain⟨u,rfl,c⟩:=vals1 r
 cases c;rcases h with⟨d,q⟩|⟨d,q⟩
 ·obtain⟨f,g,h,i⟩:=I.list d;have c:=g.length;calc call_tuple_list h.isList (λc e=>?_) (by simp only[List.size_toArray]<;>lia);have j:Inv X a σ H {s with heap:=c}:=I.kept (t':=s.toks) e;have l:Inv X a σ (upd H c.objs.size (.tup ys)) {s with heap:=c.push {cls:=.type "tuple",data:=.seq f.toArray}}:=
   j.laid (t':=s.toks) (λb o e=>J' _ e) (E' _) (show cy X.prog X.w _ _ _ (.tup ys) from⟨i,f,g,IsTup.new _ _⟩)
  exact⟨.ref c.objs.size,_,l,rfl,q _ (j.aU.fresh (E' _))⟩
 ·obtain⟨f,g,h,i⟩:=I.tuple d;calc call_tuple_same h ⟨.ref p,H,I,rfl,q⟩
def Yx(K:W.Frag)(T:String)(x:V)(H:Hp):Prop:=match x with
 | .str _=>T="str"
 | .int _=>T="int"
 | .ref p=>(T="list"/\∃xs,aN K H p xs)\/(T="tuple"/\∃o,K.lookup p=some o/\o.cls=.type "tuple"/\o.dict=none)\/
   (T="dict"/\((∃a,H p=some (.dK a))\/∃a,H p=some (.dT a)))\/(T="set"/\∃S n,H p=some (.set S n))
 |_=>False
theorem Fg{pins:List (Addr×Obj)}{σ:St}{H:Hp}{s:Shared}{T:String}{x:V}{v:Value}(I:Inv X pins σ H s)(r:RelV x v)(f:Yx X.K T x H):
  s.TypeIs v T/\∀a,v=.ref a->∃c,s.heap.get? a=some c/\c.dict=none:=by
 cases x with
 |str z=>
  obtain⟨t,rfl⟩:=r
  cases(show T="str" from f);exact⟨typeIs_str s z t,λ_ e=>nomatch e⟩
 |int i=>
  obtain⟨t,rfl⟩:=r
  cases(show T="int" from f);exact⟨typeIs_int s i t,λ_ e=>nomatch e⟩
 |ref p=>
  cases r;rcases f with⟨rfl,m,k⟩|⟨rfl,o,b,l,g⟩|⟨rfl,b⟩|⟨rfl,S,n,b⟩
  ·obtain⟨c,_,j,_⟩:=I.list k;refine⟨j.isList.typeIs,λa e=>?_⟩
   cases e;obtain⟨o,n,e,c,g,_⟩:=j;exact⟨o,e,g⟩
  ·refine⟨⟨o,I.kj p o b,l⟩,λa e=>?_⟩
   cases e;exact⟨o,I.kj _ o b,g⟩
  ·have z:∃o,s.heap.get? p=some o/\o.ExactDict:=by
    rcases b with⟨c,b⟩|⟨c,b⟩
    ·obtain⟨_,_,_,_,o,_,_,e,d,_⟩:=I.aU p _ b;exact⟨o,e,d⟩
    ·obtain⟨_,_,_,_,o,_,_,e,d,_⟩:=I.aU p _ b;exact⟨o,e,d⟩
   obtain⟨o,e,d⟩:=z;refine⟨⟨o,e,d.1⟩,λa h=>?_⟩
   cases h;exact⟨o,e,d.2.1⟩
  ·obtain⟨o,_,_,_,e,d,_⟩:=I.aU p _ b;refine⟨⟨o,e,d.1⟩,λa h=>?_⟩
   cases h;calc⟨o,e,d.2.1⟩
 |_=>calc aak f
def OI(K:W.Frag)(T:String)(r:V->List V->Hp->VK->Prop)(b:TE):TE:=λσ H Q=>b σ H λx a=>Yx K T x a/\r x [] a Q
def Yy(K:W.Frag)(T:String)(r:V->List V->Hp->VK->Prop)(b:TE)(t:TA):TE:=λσ H Q=>b σ H λx a=>Yx K T x a/\t σ a λxs b=>r x xs b Q
variable {o e:Expr}{es:List Expr}{to:TE}{t:TA}{name:Str}{apos oX:Pos}{T id:String}{r:V->List V->Hp->VK->Prop}
theorem Fh(d:PlainAttrs T)(a:Slot T name id)(e:typeOf (.builtin id)=pure (.type "method_descriptor"))(f:Jv X id r)(b:PE X o to)
  (c:attributeBase o name X.env (eval o X.env)=eval o X.env:=by rfl) (g:(apos.endLine==oX.line)=true:=by rfl):PE X (.Call (.Attribute o name apos) [] [] oX) (OI X.K T r to):=by
 walk_at "xc";refine wpAny_Call_method0_late c g (dq (b pins s σ H _ I h) λv i j=>?_);obtain⟨x,g,b,c,k,l⟩:=j;obtain⟨m,n⟩:=Fg b c k;exact⟨T,id,d,a,e,m,n,Calls.callWith_builtin rfl (PySem.evalArgs_none (f pins i σ g x [] v [] Q b c .nil l))⟩
theorem dy(f:PlainAttrs T)(a:Slot T name id)(g:typeOf (.builtin id)=pure (.type "method_descriptor"))(i:Jv X id r)(b:PE X o to)(j:PA X (e::es) t)
  (c:attributeBase o name X.env (eval o X.env)=eval o X.env:=by rfl)
  (d:((backTo oX (starEach (e::es) X.env)).all (λx=> !x.1) && (backToKw oX (keywordEach [] X.env)).all (λx=>x.1.isSome)
   && decide ((e::es).length + ([]:List Keyword).length + (if ([]:List Keyword).isEmpty then 0 else 1) < 30))=true:=by rfl)
  (k:(apos.endLine==oX.line)=true:=by rfl) (l:starEach (e::es) X.env=(false,eval e X.env)::starEach es X.env:=by rfl) (m:(backTo oX (starEach es X.env)).any (·.1)=false:=by rfl):
  PE X (.Call (.Attribute o name apos) (e::es) [] oX) (Yy X.K T r to t):=by
 walk_at "xc";refine wpAny_Call_method_late c d k rfl (dq (b pins s σ H _ I h) λv n p=>?_);obtain⟨x,k,b,c,q,u⟩:=p;obtain⟨w,y⟩:=Fg b c q;refine⟨T,id,f,a,g,w,y,?_⟩;have d:=j oX pins n σ k _ b u;rw[l]at d ⊢;refine Calls.callWith_builtin (by show(false||(backTo oX (starEach es X.env)).any (·.1))=false;rw[m]<;>rfl) (Calls.evalArgs_plain ?_);exact dq d λa f ⟨g,p,q,w,y⟩=>i pins f σ p x g v a Q q c w y
end
end
section
def W3(X:Cx)(a:String)(r:V->List V->Hp->VK->Prop):Prop:=
 ∀(pins:List (Addr×Obj)) (s:Shared) (σ:St) (H:Hp) (x:V) (xs:List V) (v:Value) (us:List Value) (Q:VK),Inv X pins σ H s->RelV x v->Vals xs us->r x xs H Q->
  wpAny (model X.prog X.w) X.A (call (.builtin a) (v::us)) (EP X pins σ Q) X.xe s
theorem Vals.one:∀{x:V}{us:List Value},Vals [x] us->∃u,us=[u]/\RelV x u
 |_,_,.cons r .nil=>⟨_,rfl,r⟩
theorem Vals.two:∀{x y:V}{us:List Value},Vals [x,y] us->∃u v,us=[u,v]/\RelV x u/\RelV y v
 |_,_,_,.cons r (.cons q .nil)=>⟨_,_,rfl,r,q⟩
theorem Vals.zero:∀{us:List Value},Vals [] us->us=[]
 |_,.nil=>rfl
theorem Vals.dropLast{xs:List V}{us:List Value}(h:Vals xs us):Vals xs.dropLast us.dropLast:=by
 induction h with
 |nil=>calc .nil
 |cons r t a=>
  cases t with
  |nil=>calc .nil
  |cons q b=>calc .cons r a
theorem Vals.eraseIdx:∀{xs:List V}{us:List Value}(i:Nat),Vals xs us->Vals (xs.eraseIdx i) (us.eraseIdx i)
 |_,_,_,.nil=>.nil
 |_,_,0,.cons _ t=>t
 |_,_,i+1,.cons r t=>.cons r (Vals.eraseIdx i t)
theorem zK{α:Type}(l:List α):l.eraseIdx (l.length-1)=l.dropLast:=by
 induction l with
 |nil=>rfl
 |cons a r c=>
  cases r with
  |nil=>rfl
  |cons b r=>
   have e:(a::b::r).length-1=((b::r).length-1)+1:=by
    have d:(a::b::r).length=r.length+2:=rfl;have a:(b::r).length=r.length+1:=rfl;lia
   rw[e,List.eraseIdx_cons_succ,c]
   all_goals rfl
theorem uK{α:Type}:∀(l:List α) (i:Nat),(l.eraseIdx i).length<=l.length
 | [],_=>E' _
 |_::_,0=>Nat.le_succ _
 |_::r,i+1=>Nat.succ_le_succ (uK r i)
section
variable {X:Cx}{pins:List (Addr×Obj)}{σ:St}{H:Hp}{s:Shared}{l b:Addr}{xs ys zs:List V}
theorem Inv.Fi{a kq:List Value}{n:Nat}{f:Array Value->Array Value}{t':Nat}(I:Inv X pins σ H s)(b:H l=some (.lst xs))
  (e:s.heap.get? l=some {cls:=.type "list",data:=.seq a.toArray n}) (c:f a.toArray=kq.toArray) (d:Vals ys kq) (g:ys.length<=sizeLine):
  Inv X pins σ (upd H l (.lst ys)) {s with heap:=s.heap.update l (Obj.mapSeq f),toks:=t'}:=by
 have q:=PySem.IsL.update e f;rw[c]at q;calc I.write (x:=l) (e:=l) (by rw[b];calc trivial) (.inl rfl) (λe u a c=>(Heap.get?_update_other s.heap (Obj.mapSeq f) (Ne.symm a)).trans c) ⟨_,q⟩ ?_;calc⟨g,kq,_,d,q⟩
theorem Inv.Yz{a:List Value}{t':Nat}(I:Inv X pins σ H s)(b:Vals ys a)(c:ys.length<=sizeLine):
  Inv X pins σ (upd H s.heap.objs.size (.lst ys)) {s with heap:=s.heap.push {cls:=.type "list",data:=.seq a.toArray},toks:=t'}:=
 I.laid (λ_ _ q=>J' _ q) (E' _) ⟨c,a,0,b,T' _ rfl⟩
theorem Inv.fresh(I:Inv X pins σ H s):H s.heap.objs.size=none:=I.aU.fresh (E' _)
theorem Inv.xt(I:Inv X pins σ H s)(b:H l=some (.lst xs)):xs.length<=sizeLine/\∃(a:List Value) (n:Nat),Vals xs a/\xs.length=a.length/\s.heap.get? l=some {cls:=.type "list",data:=.seq a.toArray n}:=by
 obtain⟨z,a,n,r,e⟩:=I.aU l _ b;calc⟨z,a,n,r,r.length,e⟩
theorem Fj{n:Nat}(h:n<=sizeLine):Builtin.List.listTooLong n=false:=by
 unfold Builtin.List.listTooLong;calc decide_eq_false ()
end
section
variable {X:Cx}
def Kp:V->List V->Hp->VK->Prop:=λx vs H Q=>∃l xs y,x=.ref l/\vs=[y]/\H l=some (.lst xs)/\xs.length<sizeLine/\Q .bH (upd H l (.lst (xs++[y])))
theorem uL:W3 X "list.append" Kp:=by
 intro a s σ H x e v f Q I c d h;obtain⟨l,g,y,rfl,rfl,b,i,q⟩:=h
 cases c;obtain⟨u,rfl,f⟩:=d.one;obtain⟨z,a,n,r,c,e⟩:=I.xt b;calc call_meets F.slot_list_append ⟨_,e,rfl⟩ F.entry_list_append (F.args_list_append_2 _ _) (PySem.list_append l a.toArray n u (by rw[List.size_toArray];lia)) ⟨e,?_⟩;calc⟨.bH,_,I.Fi (kq:=a++[u]) b e nofun (r.append (.cons f .nil)) ?_,rfl,q⟩;rw[List.length_append,List.length_singleton];lia
def Kq:V->List V->Hp->VK->Prop:=λx vs H Q=>∃l b xs a,x=.ref l/\vs=[.ref b]/\H l=some (.lst xs)/\H b=some (.lst a)/\xs.length+a.length<=sizeLine/\Q .bH (upd H l (.lst (xs++a)))
theorem Dn:W3 X "list.extend" Kq:=by
 intro a s σ H x e v j Q I c d h;obtain⟨l,b,k,m,rfl,rfl,f,g,n,q⟩:=h
 cases c;obtain⟨u,rfl,i⟩:=d.one
 cases i;obtain⟨z,a,n,r,c,e⟩:=I.xt f;obtain⟨d,c,h,i,k,j⟩:=I.xt g;have d:a.toArray.size+c.toArray.size<=sizeLine:=by rw[List.size_toArray,List.size_toArray];lia
 have g:¬(!a.toArray.isEmpty&&Builtin.List.listTooLong (a.toArray.size+c.toArray.size))=true:=by
  rw[Fj d,Bool.and_false];exact S'
 refine call_meets F.slot_list_extend ⟨_,e,rfl⟩ F.entry_list_extend (F.args_list_extend_2 _ _)
  (AutoSeq1.list_extend_list_list_0 l a.toArray n b c.toArray h g (by rw[List.size_toArray];lia) ()) ⟨e,j,?_⟩
 calc⟨.bH,_,I.Fi (kq:=a++c) f e nofun (r.append i) ?_,rfl,q⟩;rw[List.length_append];lia
def YA:V->List V->Hp->VK->Prop:=λx vs H Q=>∃l xs y,x=.ref l/\vs=[]/\H l=some (.lst xs)/\xs[xs.length-1]?=some y/\Q y (upd H l (.lst xs.dropLast))
theorem OL:W3 X "list.pop" YA:=by
 intro a s σ H x e v i Q I c d h;obtain⟨l,j,y,rfl,rfl,b,f,q⟩:=h
 cases c;have g:=d.zero;subst g;obtain⟨z,a,n,r,c,e⟩:=I.xt b;obtain⟨u,d,g⟩:=r.get f;have h:a.toArray[a.toArray.size-1]?=some u:=by
  show a.toArray[a.length-1]?=some u;rw[<-Array.getElem?_toList,<-c];exact d
 calc call_meets F.slot_list_pop ⟨_,e,rfl⟩ F.entry_list_pop (F.args_list_pop_1 _) (MeetsSeq.list_pop_last l a.toArray n u h (by rw[List.size_toArray];lia)) ⟨e,?_⟩;refine⟨y,_,I.Fi (kq:=a.dropLast) b e ?_ r.dropLast ?_,g,q⟩
 ·show a.toArray.eraseIdxIfInBounds (a.toArray.size-1)=a.dropLast.toArray;rw[List.size_toArray,List.eraseIdxIfInBounds_toArray,zK]
 ·rw[List.length_dropLast];lia
def OM:V->List V->Hp->VK->Prop:=λx vs H Q=>∃l xs,x=.ref l/\vs=[]/\H l=some (.lst xs)/\Q .bH (upd H l (.lst []))
theorem Fl:W3 X "list.clear" OM:=by
 intro a s σ H x e v g Q I c d h;obtain⟨l,i,rfl,rfl,b,q⟩:=h
 cases c;have f:=d.zero;subst f;obtain⟨z,a,n,r,c,e⟩:=I.xt b;calc call_meets F.slot_list_clear ⟨_,e,rfl⟩ F.entry_list_clear (F.args_list_clear_1 _) (AutoSeq1.list_clear_list_0 l a.toArray n (by rw[List.size_toArray];lia)) ⟨e,?_⟩;calc⟨.bH,_,I.Fi (kq:=[]) (ys:=[]) b e rfl .nil (V' _),rfl,q⟩
def YB:R2:=λx y H Q=>∃l b xs a,x=.ref l/\y=.ref b/\H l=some (.lst xs)/\H b=some (.lst a)/\xs.length+a.length<=sizeLine/\∀p,H p=none->Q (.ref p) (upd H p (.lst (xs++a)))
theorem ON:fX X (binaryOp .Add) YB:=by
 intro a s σ H x y v u Q I c d h;obtain⟨l,b,e,i,rfl,rfl,f,g,j,q⟩:=h
 cases c
 cases d;obtain⟨z,a,n,r,b,e⟩:=I.xt f;obtain⟨h,b,i,c,j,d⟩:=I.xt g;calc PySem.P.add_list e d ?_ (by rw[List.size_toArray,List.size_toArray];lia);have f:a.toArray++b.toArray=(a++b).toArray:=by simp
 rw[f];calc⟨.ref _,_,I.Yz (t':=s.toks) (r.append c) (by rw[List.length_append];lia),rfl,q _ I.fresh⟩
theorem Fm{pins:List (Addr×Obj)}{s:Shared}{σ:St}{H:Hp}{l:Addr}{xs:List V}{i:Int}{t:Tok}{k:Nat}{Q:Unit->Shared->Prop}(I:Inv X pins σ H s)(b:H l=some (.lst xs))
  (c:-(2^63)<=i) (d:i<2^63) (f:seqIndex? i xs.length=some k) (h:∀s',Inv X pins σ (upd H l (.lst (xs.eraseIdx k))) s'->Q ⟨⟩ s'):
  wpAny (model X.prog X.w) X.A (delItem (.ref l) (.int i t)) Q X.xe s:=by
 obtain⟨z,a,n,r,g,e⟩:=I.xt b;calc PySem.P.delItem_list (k:=k) e (fitsIndex_both c d) (by rw[List.size_toArray,<-g];calc f) (h _ ?_) (by rw[List.size_toArray];lia);refine I.Fi (kq:=a.eraseIdx k) (t':=s.toks) b e ?_ (r.eraseIdx k) ?_
 ·show a.toArray.eraseIdxIfInBounds k=(a.eraseIdx k).toArray;rw[List.eraseIdxIfInBounds_toArray]
 ·have:=uK xs k;lia
end
section
variable {prog:Program}{w:World}{A:Around}{E:Value->Shared->Prop}{s:Shared}
set_option maxRecDepth 100000 in
end
section
variable {X:Cx}
end
end
section
variable {a:Addr}{X:Cx}{H H':Hp}{aX:List (Key×V)}{xs:List (List Key×Addr×Value)}{zb:List (TE×TE)}{pos:Pos}{Q:Value->Shared->Prop}
section
variable {κ:Type} [DecidableEq κ]
def fU(aX:List (κ×V))(k:κ):Option V:=(aX.find? λa=>decide (a.1=k)).map (·.2)
def putK(aX:List (κ×V))(k:κ)(v:V):List (κ×V):=
 if (aX.any λa=>decide (a.1=k))=true then aX.map (λa=>if a.1=k then(a.1,v) else a) else aX++[(k,v)]
theorem Fn{k:κ}:fU ([]:List (κ×V)) k=none:=rfl
theorem eE{p:κ×V}{r:List (κ×V)}{k:κ}(e:p.1=k):fU (p::r) k=some p.2:=by simp[fU,List.find?_cons,e]
theorem eF{p:κ×V}{r:List (κ×V)}{k:κ}(e:¬p.1=k):fU (p::r) k=fU r k:=by simp[fU,List.find?_cons,e]
theorem jF(k:κ):∀aX:List (κ×V),(aX.any λa=>decide (a.1=k))=(fU aX k).isSome
 | []=>rfl
 |p::r=>by
  rw[List.any_cons];by_cases e:p.1=k
  ·simp only[eE e,decide_eq_true e,Bool.true_or,Option.isSome_some]
  ·rw[eF e,decide_eq_false e,Bool.false_or];calc jF k r
theorem xu(k j:κ)(y:V):∀aX:List (κ×V),fU (aX.map λa=>if a.1=k then(a.1,y) else a) j=(fU aX j).map λx=>if j=k then y else x
 | []=>rfl
 |p::r=>by
  have a:=xu k j y r;rw[List.map_cons];by_cases h:p.1=k
  ·rw[if_pos h];by_cases e:p.1=j
   ·rw[eE (p:=(p.1,y)) e,eE e,Option.map_some,if_pos (e.symm.trans h)]
   ·rw[eF (p:=(p.1,y)) e,eF e,a]
  ·rw[if_neg h];by_cases e:p.1=j
   ·rw[eE (p:=p) e,eE e,Option.map_some,if_neg (λz=>h (e.trans z))]
   ·rw[eF (p:=p) e,eF e,a]
theorem uN(k j:κ)(y:V):∀aX:List (κ×V),fU aX k=none->fU (aX++[(k,y)]) j=if j=k then some y else fU aX j
 | [],_=>by
  by_cases e:k=j
  ·rw[if_pos e.symm];exact eE (p:=(k,y)) e
  ·rw[if_neg (λz=>e z.symm)];calc eF (p:=(k,y)) e
 |p::r,a=>by
  rw[List.cons_append];have b:¬p.1=k:=λz=>by rw[eE z]at a;cases a
  rw[eF b]at a;have c:=uN k j y r a;by_cases e:p.1=j
  ·rw[eE e,eE e,if_neg (λz=>b (e.trans z))]
  ·rw[eF e,eF e,c]
theorem Fo(aX:List (κ×V))(k j:κ)(y:V):fU (putK aX k y) j=if j=k then some y else fU aX j:=by
 unfold putK;by_cases a:(aX.any λb=>decide (b.1=k))=true
 ·rw[if_pos a,xu];rw[jF] at a;by_cases e:j=k
  ·obtain⟨x,b⟩:=Option.isSome_iff_exists.mp a;rw[if_pos e,e,b,Option.map_some,if_pos rfl]
  ·rw[if_neg e]
   cases fU aX j with
   |none=>rfl
   |some x=>rw[Option.map_some,if_neg e]
 ·rw[if_neg a];calc uN k j y aX ?_;rw[jF] at a
  cases q:fU aX k with
  |none=>rfl
  |some x=>rw[q]at a;calc(a rfl).elim
theorem kI(aX:List (κ×V))(k:κ)(v:V):(putK aX k v).length<=aX.length+1:=by
 unfold putK;split
 ·rw[List.length_map];lia
 ·rw[List.length_append,List.length_cons,List.length_nil];lia
theorem Fp{aX:List (κ×V)}{k:κ}(v:V)(h:fU aX k=none):putK aX k v=aX++[(k,v)]:=by
 unfold putK;rw[jF,h];calc if_neg ∅
theorem mf.oY{o:Option V}{u:Option Value}(r:mf o u):o.isSome=u.isSome:=by
 cases o with
 |none=>cases u with
  |none=>rfl
  |some _=>calc(show False from r).elim
 |some _=>cases u with
  |none=>calc(show False from r).elim
  |some _=>rfl
theorem KV.val{aX:List (κ×V)}{vs:List (κ×Value)}(r:KV aX vs)(k:κ):mf (fU aX k) (valueAt vs k):=by
 unfold KV at r;induction r with
 |nil=>calc aaf
 | @cons p q b a h t g=>
  obtain⟨d,i⟩:=h;by_cases e:p.1=k
  ·have c:q.1=k:=d.symm.trans e;have b:valueAt (q::a) k=some q.2:=by simp[valueAt,List.find?_cons,c]
   rw[eE e,b];exact i
  ·have c:¬q.1=k:=λz=>e (d.trans z);have b:valueAt (q::a) k=valueAt a k:=by simp[valueAt,List.find?_cons,c]
   rw[eF e,b];calc g
theorem KV.any{aX:List (κ×V)}{vs:List (κ×Value)}(r:KV aX vs)(k:κ):(aX.any λa=>decide (a.1=k))=vs.any λa=>decide (a.1=k):=by
 unfold KV at r;induction r with
 |nil=>rfl
 |cons h t a=>rw[List.any_cons,List.any_cons,a,h.1]
theorem KV.OO{aX:List (κ×V)}{vs:List (κ×Value)}(r:KV aX vs)(k:κ){y:V}{u:Value}(b:RelV y u):
  KV (aX.map λa=>if a.1=k then(a.1,y) else a) (vs.map λa=>if a.1=k then(a.1,u) else a):=by
 unfold KV at r ⊢;induction r with
 |nil=>calc .nil
 | @cons p q a d h t c=>
  rw[List.map_cons,List.map_cons];calc .cons ?_ c;obtain⟨a,d⟩:=h;by_cases e:p.1=k
  ·rw[if_pos e,if_pos (a.symm.trans e)];exact⟨a,b⟩
  ·rw[if_neg e,if_neg (λz=>e (a.trans z))];calc⟨a,d⟩
theorem KV.put{aX:List (κ×V)}{vs:List (κ×Value)}(r:KV aX vs)(k:κ){y:V}{u:Value}(a:RelV y u):KV (putK aX k y) (stored vs k u):=by
 unfold putK stored;rw[r.any k];by_cases e:(vs.any λb=>decide (b.1=k))=true
 ·rw[if_pos e,if_pos e];exact r.OO k a
 ·rw[if_neg e,if_neg e];calc Paired.snoc r ⟨rfl,a⟩
theorem KV.length{aX:List (κ×V)}{vs:List (κ×Value)}(r:KV aX vs):aX.length=vs.length:=Paired.length r
end
theorem xy{P:Program}{w:World}{k:Key}{u:Value}(r:RelV (kV k) u):(dB P w).is k u=true:=by
 cases k with
 |inl i=>obtain⟨t,e⟩:=(show ∃t,u=Value.int i t from r);subst e;calc xf P w i t
 |inr x=>obtain⟨t,e⟩:=(show ∃t,u=Value.str x t from r);subst e;calc xg P w x t
theorem uO{P:Program}{w:World}:∀{ks:List Key}{us:List Value},Vals (ks.map kV) us->ItemsAre (dB P w) ks us
 | [],_,r=>by rw[List.map_nil]at r;cases r;calc .nil
 |k::ks,_,r=>by
  rw[List.map_cons]at r
  cases r with
  |cons h t=>calc .cons (xy h) (uO t)
abbrev KT(H:Hp):List (List Key×V)->List (List Key×Addr×Value)->Prop:=Paired λp q=>p.1=q.1/\H q.2.1=some (.tup (p.1.map kV))/\RelV p.2 q.2.2
theorem KT.val{H:Hp}{aX:List (List Key×V)}{xs:List (List Key×Addr×Value)}(r:KT H aX xs)(k:List Key):mf (fU aX k) ((atKey xs k).map (·.2)):=by
 induction r with
 |nil=>calc aaf
 | @cons p q b a h t g=>
  obtain⟨d,_,i⟩:=h;by_cases e:p.1=k
  ·have c:q.1=k:=d.symm.trans e;have b:atKey (q::a) k=some q.2:=by simp[atKey,List.find?_cons,c]
   rw[eE e,b];exact i
  ·have c:¬q.1=k:=λz=>e (d.trans z);have b:atKey (q::a) k=atKey a k:=by simp[atKey,List.find?_cons,c]
   rw[eF e,b];calc g
theorem KT.OO{H:Hp}{aX:List (List Key×V)}{xs:List (List Key×Addr×Value)}(r:KT H aX xs)(k:List Key){y:V}{u:Value}(c:RelV y u):
  KT H (aX.map λa=>if a.1=k then(a.1,y) else a) (xs.map (putAt k u)):=by
 induction r with
 |nil=>calc .nil
 | @cons p q a b h t d=>
  rw[List.map_cons,List.map_cons];calc .cons ?_ d;obtain⟨a,b,g⟩:=h;unfold putAt;by_cases e:p.1=k
  ·rw[if_pos e,if_pos (a.symm.trans e)];exact⟨a,b,c⟩
  ·rw[if_neg e,if_neg (λz=>e (a.trans z))];calc⟨a,b,g⟩
theorem KT.put{aX:List (List Key×V)}(r:KT H aX xs)(k:List Key){b:Addr}{y:V}{u:Value}(c:H b=some (.tup (k.map kV)))(a:RelV y u):
  KT H (putK aX k y) (storedH xs k b u):=by
 have e:(aX.any λb=>decide (b.1=k))=(atKey xs k).isSome:=by
  rw[jF,(r.val k).oY,Option.isSome_map]
 unfold putK storedH;rw[e];by_cases q:(atKey xs k).isSome=true
 ·rw[if_pos q,if_pos q];exact r.OO k a
 ·rw[if_neg q,if_neg q];calc Paired.snoc r ⟨rfl,c,a⟩
theorem KT.keeps{aX:List (List Key×V)}(r:KT H aX xs)(a:∀b ys,H b=some (.tup ys)->H' b=some (.tup ys)):KT H' aX xs:=
 Paired.NU r λ_ _ z=>⟨z.1,a _ _ z.2.1,z.2.2⟩
section
variable {P:Program}{w:World}{H:Hp}{h:Heap}{a:Addr}
theorem Ml{u:HO}(ok:mI P w H h)(e:Rd H a u):cy P w H h a u:=e.ok ok
theorem Bm(b:mI P w H h)(e:Rd H a (.dK aX)):aX.length<=sizeLine/\(a==sysModules)=false/\∃vs,KV aX vs/\h.DictOf (dB P w) a vs:=
 show cy P w H h a (.dK aX) from Ml b e
theorem Fq(b:mI P w H h)(e:H a=some (.dK aX)):aX.length<=sizeLine/\(a==sysModules)=false/\∃vs,KV aX vs/\h.DictOf (dB P w) a vs:=Bm b (.inl e)
theorem vN{ks:List Key}(b:mI P w H h)(e:H a=some (.tup (ks.map kV))):(tupleKind (dB P w)).is h ks a:=by
 obtain⟨_,c,r,o,d,f,n,g⟩:=(show cy P w H h a (.tup (ks.map kV)) from b a _ e)
 calc⟨o,c.toArray,n,d,f,g,by simpa using uO r⟩
theorem Bn{aX:List (List Key×V)}(d:mI P w H h)(e:Rd H a (.dT aX)):aX.length<=sizeLine/\(a==sysModules)=false/\
  ∃xs,KT H aX xs/\h.DictOfH (tupleKind (dB P w)) a xs:=by
 obtain⟨z,y,xs,r,o,g,i,j,k,n,p,s⟩:=(show cy P w H h a (.dT aX) from Ml d e)
 calc⟨z,y,xs,r,o,g,i,j,k,n,p,λx b=>?_,s⟩;have c:∀{l:List (List Key×V)} {m:List (List Key×Addr×Value)},KT H l m->∀x∈m,(tupleKind (dB P w)).is h x.1 x.2.1:=by
  intro l m q;induction q with
  |nil=>intro x b;calc nomatch b
  | @cons p q g i f t u=>
   intro x b;rcases List.mem_cons.mp b with e|b
   ·subst e;exact vN d (by rw[<-f.1];calc f.2.1)
   ·exact u x b
 calc c r x b
theorem To{aX:List (List Key×V)}(b:mI P w H h)(e:H a=some (.dT aX)):aX.length<=sizeLine/\(a==sysModules)=false/\
  ∃xs,KT H aX xs/\h.DictOfH (tupleKind (dB P w)) a xs:=Bn b (.inl e)
end
def iW(H:Hp)(a:Addr)(y:V)(r:Option V):Prop:=
 (∃aX k,Rd H a (.dK aX)/\y=kV k/\r=fU aX k)\/∃aX k b,Rd H a (.dT aX)/\y=.ref b/\H b=some (.tup (k.map kV))/\r=fU aX k
def tZ(H:Hp)(a:Addr)(y v:V)(H':Hp):Prop:=
 (∃aX k,H a=some (.dK aX)/\y=kV k/\aX.length<sizeLine/\H'=upd H a (.dK (putK aX k v)))\/
 ∃aX k b,H a=some (.dT aX)/\y=.ref b/\H b=some (.tup (k.map kV))/\aX.length<sizeLine/\H'=upd H a (.dT (putK aX k v))
theorem iW.k{k:Key}(e:H a=some (.dK aX)):iW H a (kV k) (fU aX k):=.inl ⟨aX,k,.inl e,rfl,rfl⟩
theorem tZ.k{k:Key}{v:V}(e:H a=some (.dK aX))(b:aX.length<sizeLine):tZ H a (kV k) v (upd H a (.dK (putK aX k v))):=.inl ⟨aX,k,e,rfl,b,rfl⟩
section
variable {X:Cx}{pins:List (Addr×Obj)}{σ:St}{H:Hp}{s:Shared}{a:Addr}{y v:V}{u r:Value}{o:Option V}{A:Around}{E:Value->Shared->Prop}
theorem Inv.big(I:Inv X pins σ H s):sysModules<s.heap.objs.size:=by
 have h:mainGlobals<s.heap.objs.size:=(I.mod.glob.keeps I.bk).lt;calc Nat.lt_trans ∅ h
theorem uP(n:A.units+1<cLine)(I:Inv X pins σ H s)(g:iW H a y (some v))(m:RelV y u)(h:∀w' s',Inv X pins σ H s'->RelV v w'->Q w' s'):
  wpAny (model X.prog X.w) A (getItem (.ref a) u) Q E s:=by
 rcases g with⟨aX,k,e,d,l⟩|⟨aX,k,b,e,d,q,l⟩
 ·subst d;obtain⟨z,p,g,c,f⟩:=Bm I.aU e;obtain⟨w',i,j⟩:=mf.some_of (v:=v) (o:=valueAt g k) (by rw[l];calc c.val k);exact wpAny_getItem_of (xy m) f.mapOf i (h w' _ (I.tok _) j)
 ·subst d
  cases(show u=Value.ref b from m);obtain⟨z,p,xs,c,f⟩:=Bn I.aU e;obtain⟨w',i,j⟩:=mf.some_of (v:=v) (o:=(atKey xs k).map (·.2)) (by rw[l];calc c.val k);obtain⟨p,b,d⟩:=Option.map_eq_some_iff.mp i;calc wpAny_getItem_heap (tupleKind_room_in1 n) (vN I.aU q) f b ?_;rw[d];calc h w' _ (I.tok _) j
theorem Kr(m:A.units+1<cLine)(I:Inv X pins σ H s)(g:iW H a y o)(j:RelV y u)(h:∀s',Inv X pins σ H s'->Q (.bool (!o.isSome)) s'):
  wpAny (model X.prog X.w) A (compareOp .NotIn u (.ref a)) Q E s:=by
 rcases g with⟨aX,k,e,d,l⟩|⟨aX,k,b,e,d,n,l⟩
 ·subst d;obtain⟨z,f,g,c,i⟩:=Bm I.aU e;calc wpAny_notIn_of (xy j) f i.mapOf ?_;rw[<-(c.val k).oY,<-l];exact h _ (I.tok _)
 ·subst d
  cases(show u=Value.ref b from j);obtain⟨z,f,xs,c,i⟩:=Bn I.aU e;calc wpAny_notIn_heap (tupleKind_room_in1 m) (vN I.aU n) f i ?_;have q:=(c.val k).oY;rw[Option.isSome_map]at q;rw[<-q,<-l];calc h _ (I.tok _)
theorem vO{h':Heap}{t':Nat}{b:HO}(I:Inv X pins σ H s)(d:SE (H a))(f:Heap.SameBut a s.heap h')(g:∃q,h'.get? a=some q)(c:cy X.prog X.w (upd H a b) h' a b):
  Inv X pins σ (upd H a b) {s with heap:=h',toks:=t'}:=
 I.write (x:=a) (e:=a) d (.inl rfl) (λb q h z=>(f.2 b h).trans z) g c
theorem Fs{P:Program}{w:World}{h':Heap}{vs:List (Key×Value)}(z:aX.length<=sizeLine)(c:(a==sysModules)=false)(b:KV aX vs)(d:h'.DictOf (dB P w) a vs):
  cy P w H' h' a (.dK aX):=⟨z,c,vs,b,d⟩
theorem Dp{Q:Unit->Shared->Prop}(G:A.units+1<cLine)(I:Inv X pins σ H s)(g:tZ H a y v H')(B:RelV y u)(C:RelV v r)(h:∀s',Inv X pins σ H' s'->Q ⟨⟩ s'):
  wpAny (model X.prog X.w) A (setItem (.ref a) u r) Q E s:=by
 rcases g with⟨aX,k,e,c,l,j⟩|⟨aX,k,b,e,c,D,l,j⟩
 ·subst c j;obtain⟨z,m,g,d,n⟩:=Fq I.aU e;have o:g.length<=sizeLine:=by rw[<-d.length];exact z
  have p:(putK aX k v).length<=sizeLine:=by have:=kI aX k v;lia
  calc wpAny_setItem_pairs (hsz:=o) (xy B) n λF f x=>h _ ?_;have g:∃q,F.get? a=some q:=let ⟨q,_,_,i,_⟩:=f;⟨q,i⟩
  exact vO I (by rw[e];calc aaf) x g (Fs p m (d.put k C) f)
 ·subst c j
  cases(show u=Value.ref b from B);obtain⟨z,m,xs,d,n⟩:=To I.aU e;have o:xs.length<=sizeLine:=by rw[<-Paired.length d];exact z
  have p:(putK aX k v).length<=sizeLine:=by have:=kI aX k v;lia
  calc wpAny_setItem_heap (hsz:=o) (tupleKind_room_in1 G) (vN I.aU D) n λF f x=>h _ ?_;obtain⟨q,g,j,i,l,n,o,_,t⟩:=f;calc vO I (by rw[e];calc aaf) x ⟨q,i⟩ ⟨p,m,_,(d.put k D C).keeps λc h b=>?_,q,g,j,i,l,n,o,t⟩;rw[ax (uA b e (λz=>nomatch z))];calc b
end
section
variable {X:Cx}{pins:List (Addr×Obj)}{σ:St}{H:Hp}{s:Shared}{a:Addr}{aX:List (Key×V)}{k:Key}{u:Value}{A:Around}{E:Value->Shared->Prop}
end
def Tp(i:Expr):Prop:=∀a b,subscripted i false a b=operate [a,b] (getItem a b)
theorem Ks{prog:Program}{w:World}{A:Around}{E:Value->Shared->Prop}{s:Shared}{env:Env}{b a:Expr}{T c:String}
  (j:typeLookup (.type T) "__getitem__"=pure (some (.builtin c))) (k:Tp a)
  (h:wpAny (model prog w) A (eval b env) (λo d=>wpAny (model prog w) A (eval a env) (λi c=>c.TypeIs o T/\wpAny (model prog w) A (getItem o i) Q E c) E d) E s):
  wpAny (model prog w) A (eval (.Subscript b a pos) env) Q E s:=by
 calc Subscript_ (aae h (λo d e=>aae e (λi c d=>?_) λ_ _ x=>x) λ_ _ x=>x);obtain⟨g,d⟩:=d;unfold subscriptTail;calc A' ?_;rw[getitemInPython_of_ne g.not_modules];calc A' (wpAny_specialOf g j ?_);have f:wpAny (model prog w) A (subscripted a false o i) (λr e=>wpAny (model prog w) A (letTemporaryGo b o r >>= λ_=>pure r) Q E e) E c:=by
  rw[k o i];exact wpAny_operating (aae d (λr e a=>A' (wpAny_letTemporaryGo (L' a))) λ_ _ x=>x)
 first
  |calc L' (A' f)
  |calc A' (L' (A' f))
  |calc A' f
theorem qw{pins:List (Addr×Obj)}{σ:St}{s:Shared}{y:V}{o:Option V}(I:Inv X pins σ H s)(g:iW H a y o):s.TypeIs (.ref a) "dict":=by
 rcases g with⟨aX,k,e,_,_⟩|⟨aX,k,b,e,_,_,_⟩
 ·obtain⟨_,_,c,_,b⟩:=Bm I.aU e;exact b.typeIs
 ·obtain⟨_,_,xs,_,b⟩:=Bn I.aU e;calc b.typeIs
def Ft(b c:TE):TE:=λσ H Q=>b σ H λx d=>c σ d λy b=>∃a v,x=.ref a/\iW b a y (some v)/\Q v b
def vP(b c:TE):TE:=λσ H Q=>b σ H λy d=>c σ d λx b=>∃a o,x=.ref a/\iW b a y o/\Q (.bl (!o.isSome)) b
def Fu(b c d:TE):TS:=λD σ H=>d σ H λv e=>b σ e λx d=>c σ d λy e=>∃a b,x=.ref a/\tZ e a y v b/\D.nx σ b
section
variable {X:Cx}{o i e value:Expr}{pos pos' Ox:Pos}{td ty tv:TE}
theorem Kt(c:X.A.units+1<cLine)(d:PE X o td)(e:PE X i ty)(f:Tp i):PE X (.Subscript o i pos) (Ft td ty):=by
 walk_at "xc";refine Ks PySem.F.slot_dict_getitem.lookup f (dq (d pins s σ H _ I h) λu j ⟨x,k,l,m,n⟩=>dq (e pins j σ k _ l n) λd f p=>?_);obtain⟨y,q,b,r,a,v,t,g,w⟩:=p;subst t;obtain rfl:u=Value.ref a:=m;exact⟨qw b g,uP c b g r λf j d e=>⟨v,q,d,e,w⟩⟩
theorem Dq(b:X.A.units+1<cLine)(c:PE X i ty)(d:PE X o td):PC X .NotIn i o (vP ty td):=by
 walk_at "xc";refine dq (c pins s σ H _ I h) λw e ⟨y,f,j,k,l⟩=>dq (d pins e σ f _ j l) λu c m=>?_;obtain⟨x,n,p,q,a,r,t,g,v⟩:=m;subst t;obtain rfl:u=Value.ref a:=q;exact Kr b p g k λd c=>⟨.bl (!r.isSome),n,c,rfl,v⟩
theorem lW(b:X.A.units+1<cLine)(c:PE X o td)(d:PE X i ty)(e:PE X value tv)(f:swapsWith value (some (.Subscript o i pos')) pos.line X.env=pure false):
  PS X (.Assign [.Subscript o i pos'] value pos) (Fu td ty tv):=by
 walk_at "xd";refine wpAny_Assign_Subscript (dq (e pins s σ H _ I h) λr j ⟨v,k,l,m,n⟩=>dq (c pins j σ k _ l n) λu e ⟨x,p,q,t,r⟩=>dq (d pins e σ p _ q r) λc j w=>?_) f;obtain⟨y,c,z,B,a,C,E,g,F⟩:=w;subst E;obtain rfl:u=Value.ref a:=t;exact Dp b z g B m λd c=>⟨σ,C,c,F⟩
end
theorem xB{P:Program}{w:World}(h:Heap)(a:sysModules<h.objs.size):cy P w H (h.push {cls:=.type "dict",data:=.dict #[]}) h.objs.size (.dK []):=
 ⟨V' _,beq_eq_false_iff_ne.mpr (Ne.symm (W' a)),[],.nil,Heap.DictOf.new h⟩
def zL:TE:=λ_ H Q=>∀p,H p=none->Q (.ref p) (upd H p (.dK []))
section
variable {X:Cx}{pos:Pos}
theorem Fv:PE X (.Dict [] [] pos) zL:=.mk λb s σ H Q I h=>
 wpAny_Dict_empty ⟨.ref s.heap.objs.size,_,I.laid (a:=s.heap.objs.size) (o:=.dK []) (t':=s.toks) (λ_ _ q=>J' _ q) (E' _) (xB s.heap I.big),rfl,h _ (I.aU.fresh (E' _))⟩
end
def oZ:List (TE×TE)->St->Hp->(List (V×V)->Hp->Prop)->Prop
 | [],_,H,Q=>Q [] H
 |(a,b)::r,σ,H,Q=>a σ H λx c=>b σ c λy a=>oZ r σ a λb c=>Q ((x,y)::b) c
abbrev VV:List (V×V)->List (Value×Value)->Prop:=Paired λp q=>RelV p.1 q.1/\RelV p.2 q.2
def W4(X:Cx)(pos:Pos)(b:List (Option Expr))(a:List Expr)(zb:List (TE×TE)):Prop:=
 ∀(pins:List (Addr×Obj)) (s:Shared) (σ:St) (H:Hp) (Q:List (V×V)->Hp->Prop),Inv X pins σ H s->oZ zb σ H Q->
  wpAny (model X.prog X.w) X.A (evalPairs (pairTrees b a X.env pos)) (λvs s'=>∃a H',Inv X pins σ H' s'/\VV a vs/\Q a H') X.xe s
theorem Ku:W4 X pos [] [] []:=λa s σ H Q I h=>pairTrees_nil_walk ⟨[],H,I,.nil,h⟩
theorem rJ{k v:Expr}{ks:List (Option Expr)}{vs:List Expr}{a b:TE}(c:PE X k a)(d:PE X v b)(e:W4 X pos ks vs zb):
  W4 X pos (some k::ks) (v::vs) ((a,b)::zb):=λa s σ H Q I h=>
 pairTrees_cons_walk (dq (c a s σ H _ I h) λu b ⟨x,f,g,i,j⟩=>dq (d a b σ f _ g j) λn c ⟨y,h,k,l,m⟩=>
  dq (e a c σ h _ k m) λn o ⟨d,f,g,b,j⟩=>⟨(x,y)::d,f,g,.cons ⟨i,l⟩ b,j⟩)
def mJ(aX a:List (Key×V)):List (Key×V):=a.foldl (λb c=>putK b c.1 c.2) aX
theorem KV.merge:∀{a:List (Key×V)}{b:List (Key×Value)}{aX:List (Key×V)}{vs:List (Key×Value)},KV a b->KV aX vs->KV (mJ aX a) (merged vs b):=by
 intro a b aX vs r;unfold KV at r;induction r generalizing aX vs with
 |nil=>intro q;calc q
 | @cons p q b c h t a=>
  intro b;have e:KV (putK aX p.1 p.2) (stored vs q.1 q.2):=by
   have:=b.put p.1 h.2;rw[<-h.1];exact this
  calc a e
theorem mB:∀(a aX:List (Key×V)),(mJ aX a).length<=aX.length+a.length
 | [],aX=>by show aX.length<=aX.length+0;lia
 |p::r,aX=>by
  have a:=mB r (putK aX p.1 p.2);have a:=kI aX p.1 p.2;show(mJ (putK aX p.1 p.2) r).length<=_;rw[List.length_cons];lia
theorem rK{P:Program}{w:World}:∀{aX:List (Key×V)}{ws:List (Value×Value)},VV (aX.map λb=>(kV b.1,b.2)) ws->∃d,Carries (dB P w) ws d/\KV aX d
 | [],_,r=>by rw[List.map_nil]at r;cases r;calc⟨[],aaf,.nil⟩
 |p::aX,_,r=>by
  rw[List.map_cons]at r
  cases r with
  | @cons a b c e h t=>
   obtain⟨d,c,q⟩:=rK (P:=P) (w:=w) t;obtain⟨f,e⟩:=b;calc⟨(p.1,e)::d,⟨xy h.1,rfl,c⟩,.cons ⟨rfl,h.2⟩ q⟩
def Bo(zb:List (TE×TE)):TE:=λσ H Q=>∀p,H p=none->oZ zb σ (upd H p (.dK [])) λc a=>a p=some (.dK [])/\∃aX:List (Key×V),c=aX.map (λb=>(kV b.1,b.2))/\aX.length<=15/\Q (.ref p) (upd a p (.dK (mJ [] aX)))
theorem Kv{b:List (Option Expr)}{d:List Expr}(h:W4 X pos b d zb)(k:b.all (·.isSome)=true)(l:b.length=d.length)(m:b≠[])
  (f:b.length<=15):PE X (.Dict b d pos) (Bo zb):=by
 refine⟨?_⟩;intro b s σ H Q I q;have d:=I.aU.fresh (E' s.heap.objs.size);have n:=I.laid (a:=s.heap.objs.size) (o:=.dK []) (h':=s.heap.push {cls:=.type "dict",data:=.dict #[]}) (t':=s.toks) (λ_ _ q=>J' _ q) (E' _) (xB s.heap I.big);refine wpAny_Dict_walk (knd:=dB X.prog X.w) k l m f (dq (h b _ σ _ _ n (q _ d)) λz B p=>?_);obtain⟨b,d,j,g,e,aX,r,f,t⟩:=p;subst r;obtain⟨u,c,v⟩:=rK (P:=X.prog) (w:=X.w) g;obtain⟨z,x,b,y,A⟩:=Fq j.aU e
 cases y;calc⟨u,c,A,λi b d=>⟨.ref s.heap.objs.size,_,?_,rfl,t⟩⟩;have c:(mJ [] aX).length<=sizeLine:=by
  have f:=mB aX [];rw[List.length_nil]at f;rw[sizeLine_eq];lia
 have f:∃q,i.get? s.heap.objs.size=some q:=let ⟨q,_,_,g,_⟩:=b;⟨q,g⟩
 calc vO j (by rw[e];calc aaf) d f (Fs c x (v.merge .nil) b)
section
variable {X:Cx}{pins:List (Addr×Obj)}{σ:St}{H:Hp}{s:Shared}{a:Addr}{y d:V}{u r:Value}{o:Option V}{A:Around}{E:Value->Shared->Prop}
end
section
variable {X:Cx}{pins:List (Addr×Obj)}{σ:St}{H:Hp}{s:Shared}{a:Addr}{y:V}{u:Value}{A:Around}{E:Value->Shared->Prop}
end
end
end L2
namespace Att
open PySem PySem.W PySem.Calls PyProof.Rows
theorem qC{P:Params}{h:Heap}:∀(ns:List Int) (vs:List Value),WellAll P h vs (ns.map WData.int)->IntsAre vs ns:=by
 intro ns;induction ns with
 |nil=>
  intro vs w;rw[List.map_nil]at w
  cases w;calc .nil
 |cons n ns c=>
  intro vs w;rw[List.map_cons]at w
  cases w with
  |cons a b=>
   cases a;calc .cons _ _ (c _ b)
theorem Dr{l:OpenLaw}{n:Nat}(i:l.most=some n){P:Params}{h:Heap}{args:List WData}{b:List Value}
  (f:l.row.toRowW.claim.pre args=true) (j:WellAll P h b args):
  ∃a vs ns,b=[Value.ref a]/\args=[WData.list (ns.map WData.int)]/\h.get? a=some {cls:=.type "list",data:=.seq vs.toArray}/\IntsAre vs ns/\ns.length<=n:=by
 have e:WShape.hasAll [] args [.list .int]=true:=(pre_splitW f).1;have g:l.pre.holds [] {args:=args}=true:=(pre_splitW f).2;obtain⟨d,r,rfl,k,m⟩:=hasAllW_cons e;obtain rfl:=hasAllW_nil m;obtain⟨q,rfl,o⟩:=hasW_list k;obtain⟨ns,rfl⟩:=items_int o;have c:ns.length<=n:=by
  unfold OpenLaw.pre at g;have a:(WTm.not (.lt (.lit (.int (n:Int))) (.len (.arg 0)))).holds [] {args:=[.list (ns.map .int)]}=true:=by
   have a:=(holds_andW g).1;rw[i]at a;exact a
  have b:=condW_of a (w_not (w_lt w_lit (w_len_list (w_arg rfl))));rw[List.length_map]at b;calc Nat.le_of_not_lt λq=>?_;have a:(n:Int)<((ns.length:Nat):Int):=by lia
  first
   |(rw[decide_eq_true a]at b;calc absurd b ∅)
   |(simp at b;lia)
 cases j with
 |cons p s=>
  cases s
  cases p with
  |list a b=>calc⟨_,_,ns,rfl,rfl,a,qC ns _ b,c⟩
theorem Ds(l:OpenLaw)(args:List WData):l.row.toRowW.claim.post args (.bool true) args=true:=
 postW_of (r:=l.row.toRowW) (X:=(true == true))
  (show WShape.has [] (.bool true) .bool=true by first|rfl|decide|simp[WShape.has,WShape.arms,WShape.armsAll])
  (show(WTm.eq .res (.lit (.bool true))).value [] {args:=args,res:=some (.bool true),after:=args}=some (.bool (true==true)) from w_eq_bool (w_res rfl) w_lit) rfl
theorem xC{l:OpenLaw}{n:Nat}{q:Program}{c:List Str}{m:(Str->Option Value)->Heap->Prop}{p:World->Heap->Prop}{d:DefRec}
  (v:l.most=some n) (x:d.params.defaults=[])
  (call:∀(w:World) (s₀ b:Shared) (h j:Str->Option Value) (g:Addr) (o:Obj) (k i e:Value) (a:Addr) (vs:List Value) (ns:List Int),
   Ground q c [] m w s₀ h j b.heap->p w b.heap->
   b.heap.get? g=some o->o.data=.func (docDef d.name d.params d.body d.scope k i e)->b.heap.CodeRec i d.name->h d.name=some (.ref g)->
   b.heap.get? a=some {cls:=.type "list",data:=.seq vs.toArray}->IntsAre vs ns->ns.length<=n->b.gens=#[]->
   codeAny (model l.prog w) callerA (.call (.ref g) ⟨[.ref a],[]⟩) (λr s'=>r=.ok (.ret (.bool true))/\OldK b.heap s'.heap/\s'.os=b.os/\AllBare s'.gens) b):
  WalkO q c m p l.row.toRowW d [] (λf vs=>PySem.call f vs):=by
 intro w s₀ b h j G Y g o k i e y kV z A B s C D t u K E F H I L;obtain rfl:y=.none:=Dflts.none s x;obtain rfl:kV=.none:=Dflts.noKw s;obtain⟨a,vs,ns,rfl,rfl,f,c,d⟩:=Dr v E I;calc enter_call (codeAny_mono (call w s₀ b h j g o k i e a vs ns G Y z (fd_plain A) B C f c d D) λr s' J=>?_);obtain⟨rfl,a,b,c⟩:=J;calc⟨.inl ⟨.bool true,.bool true,[],rfl,λ_=>rfl,.bool true,Ds l _,λ_=>⟨List.Pairwise.nil,λ_ d=>(nomatch d)⟩⟩,a,b,c⟩
section
variable {prog:Program}{w:World}{A:Around}{E:Value->Shared->Prop}{s:Shared}{K:Frag}
end
end Att
namespace L2
open PySem PySem.Spec PyProof.Rows
section
theorem lX:∀{vs:List Value}{ns:List Int},IntsAre vs ns->Vals (ns.map V.int) vs
 |_,_,.nil=>.nil
 |_,_,.cons n t h=>.cons ⟨t,rfl⟩ (lX h)
def OS(H:Hp):Prop:=∀b,H b=none\/∃o xs,H b=some (.y6 o (.lst xs))
theorem Fw{P:Program}{w:World}{K:W.Frag}{j J:Str->Option Value}{CX:Ju}{k:Nat}{m a:Addr}{n:FuncData}{x:Str}{sp:Sp}{c:Shared}{vs:List Value}{ns:List Int}
  (O:K.In c.heap) (l:c.heap.Ns mainGlobals j) (g:c.heap.Ns builtinsNs J) (L:∀x:Str,x≠"__name__"->J x=bootBuiltins x) (YC:c.heap.NoLimit) (hg:c.gens=#[])
  (G:c.heap.get? a=some {cls:=.type "list",data:=.seq vs.toArray}) (R:IntsAre vs ns) (S:ns.length<=sizeLine) (hr:eW k callerA)
  (F:∀base:Heap,K.In base->base.Ns mainGlobals j->mh P w K j base CX k m n [x] sp) (Ts:∀(s:Shared) (u:Value),BindsTo s n ⟨[u],[]⟩ [(x,u)])
  (Mj:∀H:Hp,OS H->aN K H a (ns.map V.int)->sp [.ref a] H (λv _=>v=.bl true) λ_ _ _=>False)
  (YD:∀H e s',CX [] H c (λ_ _ _=>False) e s'->False):
  codeAny (model P w) callerA (.call (.ref m) ⟨[.ref a],[]⟩) (λr s'=>r=.ok (.ret (.bool true))/\OldK c.heap s'.heap/\s'.os=c.os/\AllBare s'.gens) c:=by
 have T:=lX R;have YE:=R.length;have i:∀H:Hp,OS H->aN K H a (ns.map V.int)->mI P w H c.heap->(∀b,H b≠none->b=a)->(H a≠none->K.lookup a=none)->
   codeAny (model P w) callerA (.call (.ref m) ⟨[.ref a],[]⟩) (λr s'=>r=.ok (.ret (.bool true))/\OldK c.heap s'.heap/\s'.os=c.os/\AllBare s'.gens) c:=by
  intro H U hS X Y hK;have Z:∀{b:Addr} {o:Obj},c.heap.get? b=some o->H b=none->(vB c.heap H).get? b=some o:=λe n=>EF e n;have Ta:∀{b:Addr} {o:Obj} {p:Array DictEntry} {t:Nat},c.heap.get? b=some o->o.data=.dict p t->H b=none:=λ{b o p t} e d=>by
   cases q:H b with
   |none=>rfl
   |some u=>
    have M:b=a:=Y b (by rw[q];simp);subst M;rw[G]at e;cases e;have d':Data.seq vs.toArray _=Data.dict p t:=d
    cases d'
  have I:∀{b:Addr} {m:Str->Option Value},c.heap.Ns b m->(vB c.heap H).Ns b m:=λ{b m} ⟨o,p,t,e,d,r⟩=>⟨o,p,t,Z e (Ta e d),d,r⟩
  have y:K.In (vB c.heap H):=λb o e=>Z (O b o e) (by
   cases q:H b with
   |none=>rfl
   |some u=>
    have M:b=a:=Y b (by rw[q];simp);subst M;rw[hK (by rw[q];simp)] at e;cases e)
  have d:Mod K j (vB c.heap H):=⟨y,I l,⟨J,I g,L⟩,let ⟨k,m,n⟩:=YC;⟨k,I m,n⟩⟩
  have k:zE P w K j (vB c.heap H) callerA [] c H:=⟨rfl,d,λb o e=>J2 e,Nat.le_of_eq (CT _ _),trivial,λb g=>absurd (show b∈([]:List Addr) from g) nofun,X,.of_eq hg⟩
  refine codeAny_mono ((F _ y (I l)).run callerA [] c H ⟨[.ref a],[]⟩ [.ref a] [.ref a] _ _ hr k (Ts c (.ref a)) (.cons rfl .nil) (Mj H U hS)) λr s' h=>?_
  cases r with
  |error e=>calc(YD H e s' h).elim
  |ok fl=>
   cases fl with
   |next=>calc aak h
   |brk=>calc aak h
   |cont=>calc aak h
   |ret u=>
    obtain⟨v,c,os,B,un,YF,r',q⟩:=h;have q':v=.bl true:=q;subst q';obtain rfl:u=Value.bool true:=r';refine⟨rfl,OldK.of_keep λb o e=>?_,os,B⟩
    cases q:H b with
    |none=>calc un.keep b o e q (by intro z;calc absurd (show b∈([]:List Addr) from z) nofun) nofun
    |some u=>
     rcases U b with z|⟨ob,c,z⟩
     ·rw[q]at z;cases z
     ·have z2:=un.vA b ob _ z;obtain⟨e1,_⟩:=X b _ z;obtain⟨e2,_⟩:=YF b _ z2;rw[e]at e1;cases e1;exact e2
 cases N:K.lookup a with
 |some o=>
  have e:=O a o N;rw[G]at e
  cases e;calc i (λ_=>none) (λ_=>.inl rfl) (.inr ⟨_,vs.toArray,_,N,rfl,rfl,rfl,by rw[List.size_toArray,YE];calc S,by simpa using T⟩) (λb u z=>by have C:(none:Option HO)=some u:=z;cases C) (λb z=>absurd rfl z) λz=>absurd rfl z
 |none=>
  refine i (λb=>if b=a then some (.y6 {cls:=.type "list",data:=.seq vs.toArray} (.lst (ns.map V.int))) else none) (λb=>?_) (.inl (.inr ⟨{cls:=.type "list",data:=.seq vs.toArray},if_pos rfl⟩)) (λb u z=>?_) (λb z=>?_) λ_=>N
  ·by_cases g:b=a
   ·exact .inr ⟨_,_,if_pos g⟩
   ·exact .inl (if_neg g)
  ·by_cases g:b=a
   ·have C:=(if_pos g).symm.trans z
    cases C;subst g;exact⟨G,by rw[List.length_map];calc S,vs,_,T,G⟩
   ·have C:=(if_neg g).symm.trans z
    cases C
  ·by_cases g:b=a
   ·exact g
   ·calc absurd (if_neg g) z
end
section
theorem Kx{l:W.OpenLaw}{n k:Nat}{q:Program}{c:List Str}{o:(Str->Option Value)->Heap->Prop}{m:World->Heap->Prop}{d:DefRec}{K:Params->W.Frag}{CX:World->Ju}{sp:World->Sp}{x:Str}
  (p:l.most=some n) (r:n<=sizeLine) (t:d.params.defaults=[]) (y:eW k callerA)
  (z:∀(w:World) (h:Heap),m w h->(K w.params).In h)
  (F:∀(w:World) (i:Str->Option Value) (j:Addr) (h:Heap),(K w.params).In h->h.Ns mainGlobals i->i d.name=some (.ref j)->
   ∃h:FuncData,(∀(s:Shared) (u:Value),BindsTo s h ⟨[u],[]⟩ [(x,u)])/\
    ∀base:Heap,(K w.params).In base->base.Ns mainGlobals i->mh l.prog w (K w.params) i base (CX w) k j h [x] (sp w))
  (u:∀(w:World) (H:Hp) (a:Addr) (ns:List Int),ns.length<=n->OS H->aN (K w.params) H a (ns.map V.int)->sp w [.ref a] H (λv _=>v=.bl true) λ_ _ _=>False)
  (n:∀(w:World) (H:Hp) (s:Shared) (e:Value) (s':Shared),CX w [] H s (λ_ _ _=>False) e s'->False):
  W.WalkO q c o m l.row.toRowW d [] (λf vs=>PySem.call f vs):=by
 calc Att.xC p t λw k f i v j o x A l a vs ns G Y B C D m q d c s=>?_;have k:=z w _ Y;obtain⟨h,l,o⟩:=F w i j _ k G.T.g m;calc Fw k G.T.g G.T.b G.T.builtins G.T.nolimit s q d (aac c r) y o l (λH h p=>u w H a ns c h p) λH e s'=>n w H f e s'
end
section
variable {f:Addr}{st:Stmt}{qual:Str}
def ee(s:Stmt):Arguments:=match s with
 | .FunctionDef _ a _ _ _ _ _ _ _ _=>a
 |_=>{posonlyargs:=[],args:=[],vararg:=none,kwonlyargs:=[],kw_defaults:=[],kwarg:=none,defaults:=[]}
def df(s:Stmt):List Stmt:=match s with
 | .FunctionDef _ _ b _ _ _ _ _ _ _=>b
 |_=>[]
def av(s:Stmt):Scope:=match s with
 | .FunctionDef _ _ _ _ _ _ a _ _ _=>a
 |_=>{kind:=.function,names:=[],isGenerator:=false,isCoroutine:=false}
abbrev Dt:Ju:=λ_ _ _ _ _ _=>False
abbrev E0:XK:=λ_ _ _=>False
theorem Bq{X:Cx}:Passes Dt X E0:=λ_ _ _ _ _ _ _ h=>h.elim
structure Ky(K:W.Frag)(x qual:Str)(st:Stmt)(f:Addr)(fd:FuncData):Prop where
 ex:∃(oc:Value) (od:Option Addr) (kV doc pm:Value) (an:Option Addr) (gE ct:Value) (Mi:Array (Option Value)),
  fd=W.fnOf x qual (ee st) (df st) (av st) .none kV doc pm an gE ct/\K.lookup f=some ⟨oc,od,.func fd,Mi⟩/\W.codeIn K gE qual=true
 kp:W.keepIn K (.ref f)=true
section
variable {P:Program}{w:World}{K:W.Frag}{mg:Str->Option Value}{base:Heap}
theorem Ky.ok{x:Str}{d:FuncData}{N b:List Str}{k:Nat}{sp:Sp}(F:Ky K x qual st f d)(S:aB N b (av st))(c:∀vs H Q E,sp vs H Q E->vs.length=b.length)
  (e:∀(a:Value) (A:Around) (outer:List Env) (s:Shared) (H:Hp) (vs:List V) (Q:VK) (E:XK),eW k (A.deeper (envOfC qual (av st) s.heap.objs.size f a))->sp vs H Q E->
   ∃t,wX (rF Dt P w K mg base N qual (av st) f a A outer s H E).J3 (df st) t/\t {nx:=λ_ g=>Q .bH g,rt:=Q} (start N vs) H):mh P w K mg base Dt (k + 1) f d b sp:=by
 obtain⟨i,j,kV,h,l,m,a,n,o,rfl,b,d⟩:=F.ex;calc Tb b d S c λA outer s H vs Q E g i=>?_;obtain⟨t,h,q⟩:=e a A outer s H vs Q E g i;calc⟨t,h.J3,q⟩
theorem Ky.binds{x:Str}{g:FuncData}{b:List Str}(F:Ky K x qual st f g)
  (h:∀(kV a c:Value) (d:Option Addr) (e ct:Value) (us:List Value),us.length=b.length->bindArgs (W.fnOf x qual (ee st) (df st) (av st) .none kV a c d e ct) ⟨us,[]⟩=pure (b.zip us)):Binds K g b []:=by
 obtain⟨i,j,kV,a,c,d,e,ct,k,rfl,b,g⟩:=F.ex;calc .all (h kV a c d e ct)
theorem mK{x:Str}{g:Value}{h d:Option Addr}{i:Array (Option Value)}{kV a e b ct:Value}(l:K.lookup f=some ⟨g,h,.func (W.fnOf x qual (ee st) (df st) (av st) .none kV a e d b ct),i⟩)
  (c:W.codeIn K b qual=true) (k:W.keepIn K (.ref f)=true):Ky K x qual st f (W.fnOf x qual (ee st) (df st) (av st) .none kV a e d b ct):=⟨⟨g,h,kV,a,e,d,b,ct,i,rfl,l,c⟩,k⟩
end
theorem aA{n:Nat}(h:n<=1000):n<sizeLine:=aaw h ∅
section
variable {X:Cx}
theorem pv(i:Nat){x:Str}{a:Pos}(b:X.N[i]?=some x:=by rfl)(c:SH X.env.scope x:=by first|calc Or.inl rfl|calc Or.inr (Or.inl rfl)|calc Or.inr (Or.inr rfl))(d:(x==("__debug__":Str))=false:=by decide)
  (e:(x==("__classdict__":Str))=false:=by decide):PE X (.Name x a) (EH i):=EI b c d e
end
def au(H a:Hp):Prop:=∀b o,H b=some o->a b=some o
theorem au.refl(H:Hp):au H H:=λ_ _ h=>h
theorem au.trans{H c d:Hp}(a:au H c)(b:au c d):au H d:=λc o h=>b c o (a c o h)
theorem au.free{H a:Hp}(e:au H a){l:Addr}(h:a l=Option.none):H l=Option.none:=by
 cases q:H l with
 |none=>rfl
 |some o=>
  rw[e l o q]at h
  cases h
theorem au.seq{K:W.Frag}{H b:Hp}{a:Addr}{xs:List V}(e:au H b)(h:aN K H a xs):aN K b a xs:=by
 rcases h with(h|⟨o,h⟩)|h
 ·exact .inl (.inl (e _ _ h))
 ·exact .inl (.inr ⟨o,e _ _ h⟩)
 ·calc .inr h
section
variable {κ:Type} [DecidableEq κ]
theorem Kz{a:List (κ×V)}{k:κ}{v:V}(h:fU a k=some v):k∈a.map (·.1):=by
 have q:(a.any λb=>decide (b.1=k))=true:=by
  rw[jF,h]
  all_goals rfl
 obtain⟨p,a,e⟩:=List.any_eq_true.mp q;calc List.mem_map.mpr ⟨p,a,of_decide_eq_true e⟩
end
end
end L2
set_option maxHeartbeats 4000000
namespace L2
open PySem PySem.Spec PyProof.Rows
section
variable {X:Cx}{H H₂:Hp}{pins:List (Addr×Obj)}{σ:St}
def mL(env:Env):List (Str×NameKind)->List (Str×Addr)->List (Str×Addr)
 | [],cs=>cs
 |(n,k)::r,cs=>mL env r (if k == .free then(n,(env.cells.lookup n).getD 0)::cs else cs)
theorem xD{env:Env}{x:Str}{c:Addr}:∀{l:List (Str×NameKind)}{cs:List (Str×Addr)},(x,c)∈mL env l cs->(x,c)∈cs\/((x,NameKind.free)∈l/\c=(env.cells.lookup x).getD 0)
 | [],cs,h=>.inl h
 |(n,k)::r,cs,h=>by
  unfold mL at h;rcases xD h with a|⟨a,g⟩
  ·by_cases b:(k == NameKind.free)=true
   ·rw[if_pos b] at a;have i:k=.free:=by simpa using b
    rcases List.mem_cons.mp a with e|e
    ·have d:=congrArg Prod.fst e;have f:=congrArg Prod.snd e;simp only at d f;subst d i;exact .inr ⟨X',f⟩
    ·exact .inl e
   ·rw[if_neg b]at a;exact .inl a
  ·calc .inr ⟨Y' _ a,g⟩
theorem uQ{env:Env}{p:Str×Addr}:∀{l:List (Str×NameKind)}{cs:List (Str×Addr)},p∈cs->p∈mL env l cs
 | [],_,h=>h
 |(n,k)::r,cs,h=>by
  unfold mL;calc uQ ?_;split
  ·exact Y' _ h
  ·calc h
theorem rL{env:Env}{x:Str}:∀{l:List (Str×NameKind)}{cs:List (Str×Addr)},(x,NameKind.free)∈l->(x,(env.cells.lookup x).getD 0)∈mL env l cs
 | [],_,h=>by simp at h
 |(n,k)::r,cs,h=>by
  unfold mL;rcases List.mem_cons.mp h with e|e
  ·have a:=congrArg Prod.fst e;have b:=congrArg Prod.snd e;simp only at a b;subst a b;calc uQ ?_;rw[if_pos nofun];exact X'
  ·calc rL e
theorem fb{β:Type}:∀{l:List (Str×β)}{x:Str}{c:β},(x,c)∈l->∃d,l.lookup x=some d
 | [],_,_,h=>by simp at h
 |(n,b)::r,x,c,h=>by
  by_cases e:x=n
  ·subst e;exact⟨b,nofun⟩
  ·have a:(x == n)=false:=beq_eq_false_iff_ne.mpr e;rcases List.mem_cons.mp h with q | q
   ·exact absurd (congrArg Prod.fst q) e
   ·obtain⟨d,b⟩:=fb q;calc⟨d,by simp only[List.lookup_cons,a];calc b⟩
theorem mC{scope:Scope}{env:Env}(h:∀x∈scope.names,x.2=.free->∃c,env.cells.lookup x.1=some c):closureFor scope env=pure (mL env scope.names []):=by
 unfold closureFor;have b:∀(l:List (Str×NameKind)) (a:List (Str×Addr)),(∀x ∈ l,x.2=.free->∃c,env.cells.lookup x.1=some c)->
   ((forIn l a λ(x:Str×NameKind) (r:List (Str×Addr))=>if (x.2==NameKind.free)=true then do let y <-cellOf env x.1;pure (ForInStep.yield ((x.1,y)::r)) else pure (ForInStep.yield r)):Sem (List (Str×Addr)))=pure (mL env l a):=by
  intro l;induction l with
  |nil=>intro a _;rfl
  |cons p r f=>
   intro a d;obtain⟨n,k⟩:=p;rw[List.forIn_cons];dsimp only;by_cases a:(k==NameKind.free)=true
   ·obtain⟨c,g⟩:=d (n,k) X' (by simpa using a);have e:cellOf env n=pure c:=by unfold cellOf;rw[g]
    rw[if_pos a,e,pure_bind,pure_bind];dsimp only;rw[f _ λx c=>d x (List.mem_cons_of_mem _ c)];show _=pure (mL env r _);rw[if_pos a,g];rfl
   ·rw[if_neg a,pure_bind];dsimp only;rw[f _ λx c=>d x (List.mem_cons_of_mem _ c)];show _=pure (mL env r _);rw[if_neg a]
 have:=b scope.names [] h;simp only at this ⊢;rw[this,pure_bind]
def Br(a:List Expr)(env:Env):Sem Bool:=forIn a true λc r=>if r=true then do let ok <-isTrue c env (eval c env);pure (ForInStep.yield ok) else pure (ForInStep.yield r)
def Rp(X:Cx)(a:List Expr)(t:TT):Prop:=
 ∀(pins:List (Addr×Obj)) (s:Shared) (σ:St) (H:Hp) (Q:Bool->Hp->Prop),Inv X pins σ H s->t σ H Q->wpAny (model X.prog X.w) X.A (Br a X.env) (TP X pins σ Q) X.xe s
def iN:TT:=λ_ H Q=>Q true H
theorem KA:Rp X [] iN:=λ_ _ _ H _ I h=>L' ⟨H,I,h⟩
theorem iO{c:Expr}{t:TT}(h:PT X c t):Rp X [c] t:=λpins s σ H Q I a=>wpAny_tests_one (h pins s σ H Q I a)
section
variable {prog:Program}{w:World}{A:Around}{R:Result->Shared->Prop}{s:Shared}
theorem vQ{o a e:Expr}{p:List Expr}{scope:Scope}{t:Pos}{y q:Value}{env:Env}(I:Nat->Shared->Prop)
  (u:∀n s,I n s->wpAny (model prog w) A (pyNext y) (λr b=>match r with
   |none=>R (.ok .next) b
   | some v=>wpAny (model prog w) A (letOwnedTupleGo a y v) (λ_ f=>wpAny (model prog w) A (assign a env v) (λ_ g=>
     wpAny (model prog w) A (Br p env) (λok c=>
      if ok=true then wpAny (model prog w) A (eval o env) (λx i=>
       wpAny (model prog w) A (call (.builtin "list.append") [q,x]) (λ_ j=>∃m,m < n/\I m j) (λ_ _=>False) i) (λ_ _=>False) c
      else ∃m,m < n/\I m c) (λ_ _=>False) g) (λ_ _=>False) f) (λ_ _=>False) b) (λ_ _=>False) s)
  (n:Nat) (h:I n s):
  codeAny (model prog w) A (.compLoop (.ListComp o [⟨a,e,p,0⟩] scope t) 0 y q env) R s:=by
 calc codeAny_loop rfl I (λn s m=>?_) n h;show wpAny _ A ((compTurn (.ListComp o [⟨a,e,p,0⟩] scope t) 0 y q env).onRaise (λx=>do noteFrame x env;theTreesLotGoes x)) _ _ s;calc wpAny_noted ?_;rw[compTurn_list];refine A' (wpAny_standAt (A' (aae (u n s m) (λr b k=>?_) λ_ _ d=>d.elim)))
 cases r with
 |none=>calc L' k
 |some v=>
  calc A' (aae k (λ_ f a=>?_) λ_ _ d=>d.elim);refine A' (aae a (λ_ g b=>A' (aae b (λok c l=>?_) λ_ _ d=>d.elim)) λ_ _ d=>d.elim)
  cases ok with
  |false=>calc L' ⟨rfl,l⟩
  |true=>
   calc A' (A' (aae l (λx i a=>A' (aae a (λ_ j b=>L' (L' ⟨rfl,b⟩)) λ_ _ d=>d.elim)) λ_ _ d=>d.elim))
end
def Du(N N':List Str)(ix:List (Option Nat))(scope:Scope):Bool:=
 N'.length==ix.length&&(N'.zip ix).all λp=>match p.2 with|none=>true|some j=>N[j]? == some p.1&&scope.names.lookup p.1==some .free
def t9(ix:List (Option Nat))(σ:St):St:=ix.map λo=>match o with|none=>none|some j=>(σ[j]?).join
def freeOk(scope:Scope)(outer:Scope):Bool:=
 scope.names.all λx=>(x.2 != .cell)&&(x.2 != .free||(outer.names.lookup x.1==some .cell||outer.names.lookup x.1==some .free))&&(x.2 != .local||scope.names.lookup x.1==some .local)&&(x.2 != .free||scope.names.lookup x.1==some .free)
def Tt(X:Cx)(scope:Scope)(C:Addr)(N':List Str)(a:Shared)(H₂:Hp)(b:List Addr):Cx:=
 {X with N:=N',s₀:=a,H₀:=H₂,env:=compEnvC scope (mL X.env scope.names []) C X.env,outer:=X.stack,stack:=X.stack,ex:=b,fn:=λ_=>false,pn:=[],xe:=λ_ _=>False}
theorem freeOk.at{scope outer:Scope}(h:freeOk scope outer=true){x:Str×NameKind}(e:x∈scope.names):x.2≠.cell/\(x.2=.free->outer.names.lookup x.1=some .cell\/outer.names.lookup x.1=some .free)/\(x.2=.local->scope.names.lookup x.1=some .local)/\(x.2=.free->scope.names.lookup x.1=some .free):=by
 have f:=List.all_eq_true.mp h x e;simp only[Bool.and_eq_true,Bool.or_eq_true,bne_iff_ne,ne_eq,beq_iff_eq]at f;obtain⟨⟨⟨a,b⟩,c⟩,d⟩:=f;calc⟨a,λe=>b.resolve_left λz=>z e,λe=>c.resolve_left λz=>z e,λe=>d.resolve_left λz=>z e⟩
theorem eG{scope:Scope}{env:Env}:∀{names:List (Str×NameKind)}{x:Str}{k:NameKind},
  (names.map λ(n,k)=>if (k==NameKind.free&&env.scope.kind == .function&&env.kindOf n==some .cell) then(n,NameKind.cell) else(n,k)).lookup x=some k->∃a,(x,a)∈names/\(k=a\/(k=.cell/\a=.free))
 | [],_,_,h=>by simp at h
 |(n,c)::r,x,k,h=>by
  rw[List.map_cons]at h;by_cases d:(c==NameKind.free&&env.scope.kind == .function&&env.kindOf n==some .cell)=true
  ·simp only[d,if_true] at h
   cases b:x==n with
   |true=>
    simp only[List.lookup_cons,b]at h;have e:x=n:=by simpa using b
    subst e;have g:c=.free:=by
     simp only[Bool.and_eq_true,beq_iff_eq]at d;exact d.1.1
    calc⟨c,X',.inr ⟨(Option.some.inj h).symm,g⟩⟩
   |false=>
    simp only[List.lookup_cons,b]at h;obtain⟨a,m,q⟩:=eG (scope:=scope) (env:=env) h;exact⟨a,Y' _ m,q⟩
  ·dsimp only at h;rw[if_neg d] at h
   cases b:x==n with
   |true=>
    simp only[List.lookup_cons,b]at h;have e:x=n:=by simpa using b
    subst e;calc⟨c,X',.inl (Option.some.inj h).symm⟩
   |false=>
    simp only[List.lookup_cons,b]at h;obtain⟨a,m,q⟩:=eG (scope:=scope) (env:=env) h;calc⟨a,Y' _ m,q⟩
section
variable {X:Cx}{scope:Scope}{C:Addr}{N':List Str}{s₂:Shared}{H₂:Hp}{fp:List Addr}{pins:List (Addr×Obj)}{σ:St}
theorem lY(I:Inv X pins σ H₂ s₂)(d:freeOk scope X.env.scope=true){x:Str}{c:Addr}(h:(mL X.env scope.names []).lookup x=some c):X.env.cells.lookup x=some c/\(x,NameKind.free)∈scope.names:=by
 rcases xD (aas h) with z|⟨a,b⟩
 ·simp at z
 ·have q:=(d |> λh=>freeOk.at h a).2.1 rfl;obtain⟨c,e⟩:=I.ok.has x q;rw[e]at b;calc⟨by rw[e,b];rfl,a⟩
theorem OT(I:Inv X pins σ H₂ s₂)(d:freeOk scope X.env.scope=true)(s:scope.kind=.function)(n:s₂.heap.objs.size<=C)(f:∀b∈fp,oU X pins H₂ b)(t:∀b∈fp,∃o,s₂.heap.get? b=some o):(Tt X scope C N' s₂ H₂ fp).Ok where
 mod:=I.ok.mod
 kind:=s
 glob:=I.ok.glob
 blt:=I.ok.blt
 above:=n
 inj:=λx y c s u=>I.ok.inj x y c (lY I d s).1 (lY I d u).1
 has:=λx h=>by
  have h:(relabel scope X.env).names.lookup x=some .cell\/(relabel scope X.env).names.lookup x=some .free:=h;have g:(x,NameKind.free)∈scope.names:=by
   rcases h with h|h
   ·obtain⟨v,m,q⟩:=eG (scope:=scope) h;rcases q with q | ⟨_,q⟩
    ·subst q;exact absurd rfl (freeOk.at d m).1
    ·subst q;exact m
   ·obtain⟨v,m,q⟩:=eG (scope:=scope) h;rcases q with q | ⟨q,_⟩
    ·subst q;exact m
    ·cases q
  exact fb (rL g)
 Rm:=λ_ _ h _=>absurd (show false=true from h) S'
 hd:=I.ok.hd
 frames:=I.ok.frames
 SI:=.inl rfl
 WN:=λb a=>by
  obtain⟨o,g⟩:=t b a;obtain⟨p,i,j,k,l,r⟩:=f b a;calc⟨W' (R' (P' g) n),λx c h=>?_⟩;exact l x c (lY I d h).1
 bs:=I.bs
 EG:=aac I.ok.EG I.sz
 zo:=λb o e a=>by
  obtain⟨p,i,j,k,l,r⟩:=f b a;rcases k with z|z
  ·exact I.ok.zo b o e z
  ·exact absurd (R' (R' (P' e) I.ok.EG) z) (aam _)
 CV:=λb a z=>by
  obtain⟨p,i,j,k,l,r⟩:=f b a;rcases List.mem_cons.mp (I.vC b z) with e|e
  ·exact i e
  ·exact j e
 oS:=I.stack
 Ma:=I.AV
end
theorem Inv.less{a:St}{s:Shared}(I:Inv X pins σ H s)(b:a.length=σ.length)(h:∀(i:Nat) (v:V),a[i]?=some (some v)->σ[i]?=some (some v)):Inv X pins a H s:=
 ⟨I.ok,I.os,I.bare,I.base,(let ⟨m,a,c⟩:=I.loc;⟨m,a,λi x v d e f=>c i x v d (h i v e) f⟩),I.cell,I.free,I.kB,I.pin,I.aU,b.trans I.len⟩
def Ext(σ a:St):Prop:=a.length=σ.length/\∀(i:Nat) (v:V),σ[i]?=some (some v)->a[i]?=some (some v)
theorem Ext.refl(σ:St):Ext σ σ:=⟨rfl,λ_ _ h=>h⟩
theorem Ext.set{a:St}(h:Ext σ a){j:Nat}{w:Option V}(b:σ[j]?=some none):Ext σ (a.set j w):=by
 calc⟨by rw[List.length_set];calc h.1,λi v e=>?_⟩;have c:j≠i:=by rintro rfl;rw[b]at e;cases e
 rw[List.getElem?_set_ne c];calc h.2 i v e
theorem KC(ix:List (Option Nat))(σ:St):(t9 ix σ).length=ix.length:=by unfold t9;rw[List.length_map]
section
variable {X:Cx}{scope:Scope}{N':List Str}{ix:List (Option Nat)}{s₂ s₄:Shared}{H₂:Hp}{fp:List Addr}{pins:List (Addr×Obj)}{σ:St}{C D:Addr}{h₄:Heap}
theorem YG(I:Inv X pins σ H₂ s₂)(g:freeOk scope X.env.scope=true)(M:scope.kind=.function)(B:Du X.N N' ix scope=true)(O:∀b∈fp,oU X pins H₂ b)(P:∀b∈fp,∃o,s₂.heap.get? b=some o)
  (l:s₂.heap.objs.size<=D) (p:s₂.heap.objs.size<=C) (R:D≠C) (S:h₄.Ns C (λ_=>none)) (n:∀b o,s₂.heap.get? b=some o->h₄.get? b=some o)
  (b:h₄.get? D=some {cls:=.type "list",data:=.seq ([]:List Value).toArray 0}) (t':Nat):
  Inv (Tt X scope C N' s₂ H₂ fp) [] (t9 ix σ) (upd H₂ D (.lst [])) {s₂ with heap:=h₄,toks:=t'}:=by
 have T:H₂ D=none:=I.aU.fresh l;have U:H₂ C=none:=I.aU.fresh p;have W:mI X.prog X.w (upd H₂ D (.lst [])) h₄:=I.aU.laid n l ⟨V' _,[],0,.nil,b⟩;refine⟨OT I g M p O P,rfl,I.bare,Un.laid n l T,⟨_,S,λi x v y d Y=>?_⟩,λx c e=>?_,?_,λx c e=>?_,λp b=>absurd (show p∈([]:List (Addr×Obj)) from b) nofun,W,?_⟩
 ·have a:=B;unfold Du at a;rw[Bool.and_eq_true] at a;have b:N'.length=ix.length:=by simpa using a.1
  have b:i<N'.length:=(List.getElem?_eq_some_iff.mp y).1;unfold t9 at d;rw[List.getElem?_map]at d
  cases q:ix[i]? with
  |none=>rw[q]at d;cases d
  |some o=>
   rw[q]at d
   cases o with
   |none=>cases d
   |some j=>
    have o:(x,some j)∈N'.zip ix:=by
     calc U' (i:=i) ?_;rw[List.getElem?_zip_eq_some];exact⟨y,q⟩
    have b:=List.all_eq_true.mp a.2 _ o;simp only[Bool.and_eq_true,beq_iff_eq]at b;obtain⟨t,F⟩:=b;have m:(σ[j]?).join=some v:=by simpa using d
    have Z:σ[j]?=some (some v):=by
     cases z:σ[j]? with
     |none=>rw[z]at m;cases m
     |some y=>rw[z]at m;exact congrArg some m
    have G:(x,NameKind.free)∈scope.names:=aas F;have J:=(freeOk.at g G).2.1 rfl;obtain⟨m,b,hv⟩:=I.loc;obtain⟨u,ru,lk⟩:=hv j x v t Z (by rcases J with z|z;calc .inr (.inl z);calc .inr (.inr z));refine⟨u,ru,.inr ⟨?_,?_⟩⟩
    ·rcases Y with z | z | z
     ·obtain⟨b,m',k⟩:=eG (scope:=scope) (env:=X.env) (show(relabel scope X.env).names.lookup x=some .local from z);rcases k with k | ⟨k,_⟩
      ·subst k;have:=(freeOk.at g m').2.2.1 rfl;rw[F]at this;cases this
      ·cases k
     ·exact .inl z
     ·exact .inr z
    ·rcases lk with⟨r,_⟩ | ⟨_,c,l2,l3⟩
     ·have r:X.env.scope.names.lookup x=some .local:=r;rcases J with z | z
      ·rw[r]at z;cases z
      ·rw[r]at z;cases z
     ·obtain⟨b,K⟩:=fb (rL (env:=X.env) (cs:=[]) G);have L:=(lY I g K).1;rw[l2]at L;have e7:c=b:=Option.some.inj L;subst e7;exact⟨c,K,l3.keeps n⟩
 ·obtain⟨v,z⟩:=I.cell x c (lY I g e).1;exact⟨v,z.keeps n⟩
 ·show upd H₂ D (.lst []) C=none;rw[ax (Ne.symm R)];exact U
 ·show upd H₂ D (.lst []) c=none;have b:=(lY I g e).1;obtain⟨v,z⟩:=I.cell x c b;have:c≠D:=W' (R' z.lt l);rw[ax this];exact I.kB x c b
 ·rw[KC];have a:=B;unfold Du at a;rw[Bool.and_eq_true] at a;have:N'.length=ix.length:=by simpa using a.1
  calc this.symm
end
def kJ(ix:List (Option Nat))(J:It)(g:TG)(d:TT)(e:TE)(σ:St)(a:Hp)(Q:VK)(D:Addr):Prop:=
 ∃W:Nat->Nat->Hp->Prop,(∃m,W 0 m (upd a D (.lst [])))/\∀i m H,W i m H->
  (J.stop i H/\Q (.ref D) H)\/(J.go i H/\∃N:Hp->Prop,(∀b,N b->∃c,c < m/\W (i + 1) c b)/\∀x b,J.Mh i H x b->g x (t9 ix σ) b λa f=>Ext (t9 ix σ) a/\d a f λb c=>
   if b=true then e a c λy d=>∃ys,d D=some (.lst ys)/\ys.length < sizeLine/\N (upd d D (.lst (ys++[y]))) else N c)
def Tw(ix:List (Option Nat))(b:TI)(g:TG)(c:TT)(d:TE):TE:=λσ H Q=>b σ H λJ a=>∀D,a D=none->kJ ix J g c d σ a Q D
abbrev ua(X:Cx)(scope:Scope)(N':List Str)(F:Cx->Prop):Prop:=∀(C:Addr) (a:Shared) (H₂:Hp) (b:List Addr),F (Tt X scope C N' a H₂ b)
section
variable {X:Cx}{elt target iter:Expr}{ifs:List Expr}{scope:Scope}{pos:Pos}{N':List Str}{ix:List (Option Nat)}{wi:TI}{g:TG}{tt:TT}{te:TE}
theorem xF{a:Shared}{it:Addr}{l:List Addr}{S:Nat->Heap->Prop}{J:It}{QD:Addr->Hp->Prop}{RR:Value->Addr->Result->Shared->Prop}{E:Value->Shared->Prop}
  (KD:X.calm=true) (hf:freeOk scope X.env.scope=true) (hk:scope.kind=.function) (hx:Du X.N N' ix scope=true)
  (hg:ua X scope N' λY=>PG Y target g) (ht:ua X scope N' λY=>Rp Y ifs tt) (he:ua X scope N' λY=>PE Y elt te)
  (I:Inv X pins σ H₂ a) (T:Turn X.prog X.w X.K target J l it S) (st:S 0 a.heap) (Jx:∀b∈l,oU X pins H₂ b)
  (hw:∀D,H₂ D=none->∃W:Nat->Nat->Hp->Prop,(∃m,W 0 m (upd H₂ D (.lst [])))/\∀i m H,W i m H->
   (J.stop i H/\QD D H)\/(J.go i H/\∃N:Hp->Prop,(∀d,N d->∃B,B < m/\W (i + 1) B d)/\∀x d,J.Mh i H x d->g x (t9 ix σ) d λp C=>Ext (t9 ix σ) p/\tt p C λb L=>
    if b=true then te p L λy C=>∃ys,C D=some (.lst ys)/\ys.length < sizeLine/\N (upd C D (.lst (ys++[y]))) else N L))
  (hRR:∀(D C:Addr) (s':Shared) (d:Hp) (m:Str->Option Value),a.heap.objs.size<=C->d C=none->C∉CU X.stack->s'.heap.Ns C m->(∃o,s'.heap.get? C=some o/\∀v,o.data≠.cell v)->Inv X pins σ d s'->QD D d->RR (.ref D) C (.ok .next) s'):
  wpAny (model X.prog X.w) X.A (newList []) (λp j=>wpAny (model X.prog X.w) X.A (newFunctionEnv scope X.env.globals (mL X.env scope.names []) [] X.env.qual none .none (some X.env)) (λJ C=>
   codeAny (model X.prog X.w) X.A (.compStart (.ListComp elt [⟨target,iter,ifs,0⟩] scope pos) 0 (.ref it) p {J with scope:=relabel scope X.env}) (RR p J.locals) C) E j) E a:=by
 calc aaC (wpAny_newFunctionEnv (λx hx=>(freeOk.at hf hx).1) (by intro y p;simp at p) (λk OV KG=>?_) hk);dsimp only at OV KG ⊢;generalize C:a.heap.push {cls:=.type "list",dict:=none,data:=.seq ([]:List Value).toArray}=P2 at OV KG ⊢;have p:P2.objs.size=a.heap.objs.size+1:=by rw[<-C,Heap.size_push]
 have J:a.heap.objs.size≠P2.objs.size:=by rw[p];exact W' (Nat.lt_succ_self _)
 have M:a.heap.objs.size<=P2.objs.size:=by rw[p];exact Nat.le_succ _
 have U:∀b o,a.heap.get? b=some o->k.get? b=some o:=λb o e=>KG.extBut b o (W' (R' (P' e) M)) (J' _ (C▸J' _ e));have N:k.get? a.heap.objs.size=some {cls:=.type "list",data:=.seq ([]:List Value).toArray 0}:=KG.extBut _ _ J (J' _ (C▸T' _ rfl));have p:∀b∈l,∃o,a.heap.get? b=some o:=λb c=>let ⟨o,e,_⟩:=T.obj _ _ st b c;⟨o,e⟩
 have C:a.heap.get? P2.objs.size=none:=Heap.get?_none_of_le M;have C:H₂ a.heap.objs.size=none:=I.aU.fresh (E' _);obtain⟨W,⟨m0,w0⟩,Z⟩:=hw a.heap.objs.size C;have fpD:∀b∈l,b≠a.heap.objs.size:=λb c=>let ⟨o,e⟩:=p b c;W' (P' e)
 have fpC:∀b∈l,b≠P2.objs.size:=λb c=>let ⟨o,e⟩:=p b c;W' (R' (P' e) M)
 let Y:=Tt X scope P2.objs.size N' a H₂ l
 have hcY:Y.calm=true:=KD;have I0:Inv Y [] (t9 ix σ) (upd H₂ a.heap.objs.size (.lst [])) {a with heap:=k,toks:=a.toks+([]:List (Str×Value)).length}:=
  YG I hf hk hx Jx p (E' _) M J (by simpa using OV) U N _
 have NW:P2.objs.size∉CU X.stack:=λz=>by
  rcases List.mem_cons.mp (I.vC _ z) with e|e
  ·exact absurd I.lt (by rw[<-e];calc Nat.not_lt.mpr M)
  ·exact I.NX M e
 have zw:∀{d:Hp},(∀b∈l,d b=none)->∀b∈l,oU Y [] d b:=λhn b c=>by
  obtain⟨f0,f1,f2,f3,f4,f5⟩:=Jx b c;refine⟨hn b c,fpC b c,I0.ok.CV b c,.inl c,(I0.ok.WN b c).2,λp C=>absurd (show p∈([]:List (Addr×Obj)) from C) nofun⟩
 have TB:S 0 k:=T.keep _ _ _ st λb _ o e=>U b o e;have G:∀j:Shared,j={a with heap:=k,toks:=a.toks + ([]:List (Str×Value)).length}->
   codeAny (model X.prog X.w) X.A (.compLoop (.ListComp elt [⟨target,iter,ifs,0⟩] scope pos) 0 (.ref it) (.ref a.heap.objs.size) (compEnvC scope (mL X.env scope.names []) P2.objs.size X.env))
    (RR (.ref a.heap.objs.size) P2.objs.size) j:=by
  rintro j rfl;calc vQ (λn s'=>∃i d,Inv Y [] (t9 ix σ) d s'/\S i s'.heap/\(∀b∈l,d b=none)/\W i n d) ?_ m0 ⟨0,_,I0,TB,λb c=>by rw[ax (fpD b c)];calc(Jx b c).1,w0⟩;rintro n s3 ⟨i,L,I3,kF,SN,w3⟩;rcases Z i n L w3 with⟨stop,qn⟩|⟨go,Nn,hNn,step⟩
  ·calc dq (T.done Y rfl rfl rfl hcY i [] s3 _ L _ I3 (zw SN) kF stop) λr s4 q=>?_;obtain⟨hr,O⟩:=q;subst hr;obtain⟨m,hn,_⟩:=O.loc;refine hRR _ _ s4 L m M O.free NW hn ?_ ?_ qn
   ·obtain⟨o,k,p,j,hd,_⟩:=hn;exact⟨o,j,λv z=>by rw[hd]at z;cases z⟩
   ·refine I.SK (s':=s4) (ch:=l) O.os ?_ O.aU O.bare λb c=>?_
    ·exact O.base
    ·obtain⟨f0,f1,f2,f3,f4,f5⟩:=Jx b c;exact⟨f3,f1,f4,f5⟩
  ·calc dq (T.item Y rfl rfl rfl hcY i [] s3 _ L _ I3 (zw SN) kF go) λr s4 q=>?_;obtain⟨u,hr,h4⟩:=q;subst hr;calc dq h4 λ_ s5 q=>?_;obtain⟨x,j,p,r,v,k,z⟩:=q;have C:=p.pinned (zw z) (T.obj _ _ k);calc dq (hg _ _ _ _ _ s5 _ j x u _ C r (step x j v)) λ_ I q=>?_;obtain⟨F,p,r,j,u⟩:=q;calc dq (ht _ _ _ _ _ I F p _ r u) λok s7 q=>?_;obtain⟨H7,I7,q7⟩:=q;have t:∀{P:Shared} {R:Hp} {B:Nat},Inv Y ([]++oV l s5.heap) F R P->B<n->W (i+1) B R->∃m,m<n/\∃i d,Inv Y [] (t9 ix σ) d P/\S i P.heap/\(∀b∈l,d b=none)/\W i m d:=λ{P R B} I8 hm w8=>by
    calc⟨B,hm,i+1,R,(I8.kE).less j.1.symm j.2,T.keep _ _ _ k λb c o e=>(I8.pin (b,o) (aaa _ (aaa _ (jP c e)))).1,λb c=>?_,w8⟩;obtain⟨o,e,d⟩:=T.obj _ _ k b c;exact(I8.pin (b,o) (aaa _ (aaa _ (jP c e)))).2.1
   cases ok with
   |false=>
    rw[if_neg Bool.false_ne_true]at q7 ⊢;obtain⟨B,hm,w8⟩:=hNn _ q7;calc t I7 hm w8
   |true=>
    rw[if_pos rfl] at q7 ⊢;calc dq (he _ _ _ _ _ s7 F H7 _ I7 q7) λy P q=>?_;obtain⟨b,R,I8,d,ys,e,i,j⟩:=q;have k:=(uL (X:=Y)) (pins:=[]++oV l s5.heap) P F R (.ref a.heap.objs.size) [b] (.ref a.heap.objs.size) [y] (λ_ c=>Nn c) I8 rfl (.cons d .nil)
     ⟨_,ys,b,rfl,rfl,e,i,j⟩
    exact dq k λ_ d ⟨_,c,a,_,b⟩=>let ⟨B,hm,c⟩:=hNn _ b;t a hm c
 calc codeAny_compStart_list (G _ rfl) (T.self _ 0 _ _ _ TB (G _ rfl))
theorem Inv.YK{s b:Shared}{C:Addr}{h':Heap}(a:Inv X pins σ H₂ b)(I:Inv X pins σ H s)(d:b.heap.objs.size<=C)(f:H C=none)(g:Heap.SameBut C s.heap h'):Inv X pins σ H {s with heap:=h'}:=by
 refine I.turned (t':=s.toks) (λb o h e=>(g.2 b h).trans e) f (Nat.ne_of_gt (R' a.lt d)) (.inr (aac a.sz d)) (λx c e z=>?_) λp b z=>?_
 ·obtain⟨v,q⟩:=a.cell x c e;exact absurd (R' q.lt (by rw[z];calc d)) (aam _)
 ·calc absurd (R' (P' (a.pin p b).1) (by rw[z];calc d)) (aam _)
theorem cX
  (l:PI X target iter wi) (n:ua X scope N' λY=>PG Y target g) (o:ua X scope N' λY=>Rp Y ifs tt) (a:ua X scope N' λY=>PE Y elt te)
  (p:X.calm=true:=by rfl) (f:freeOk scope X.env.scope=true:=by kernel_rfl) (i:scope.kind=.function:=by rfl) (b:Du X.N N' ix scope=true:=by kernel_rfl) (j:∀x,foldedSetIterable iter X.env x=pure x:=by intro _;rfl):PE X (.ListComp elt [⟨target,iter,ifs,0⟩] scope pos) (Tw ix wi g tt te):=by
 walk_at "xc";rw[eval_ListComp];have m:∀x∈scope.names,x.2=.free->∃c,X.env.cells.lookup x.1=some c:=λx b a=>I.ok.has x.1 ((freeOk.at f b).2.1 a);refine wpAny_comprehension_free (use:=none) rfl j (mC m) i (λx b a=>(freeOk.at f b).2.2.1 a) (aae (l pins s σ H _ I h) (λm j c=>aae c (λl j d=>?_) λ_ _ e=>e) λ_ _ e=>e);obtain⟨c,j,l,J,m,e,k,T,r,t,u⟩:=d;subst e;refine xF (RR:=λc C=>compPost (model X.prog X.w) X.A X.xe none (EP X pins σ Q) c C) (QD:=λD c=>Q (.ref D) c) p f i b n o a k T r t u ?_;intro D C x c m d e y j z l q;exact⟨m,j,λB v=>⟨.ref D,c,k.YK l d e v,rfl,q⟩⟩
theorem fF{i:Nat}{y:Str}{d S:Pos}(hN:X.N.Nodup)(F:X.N[i]?=some y)(hy:Loc X.env.scope y)
  (hi:PI X target iter wi) (hg:ua X scope N' λY=>PG Y target g) (ht:ua X scope N' λY=>Rp Y ifs tt) (j:ua X scope N' λY=>PE Y elt te)
  (G:swapsWith (.ListComp elt [⟨target,iter,ifs,0⟩] scope pos) (some (.Name y d)) S.line X.env=pure true:=by rfl)
  (KD:X.calm=true:=by rfl) (K:freeOk scope X.env.scope=true:=by kernel_rfl) (U:scope.kind=.function:=by rfl) (k:Du X.N N' ix scope=true:=by kernel_rfl) (hs:∀x,foldedSetIterable iter X.env x=pure x:=by intro _;rfl) (NZ:X.fn y=true\/X.env.scope.names.lookup y=some .local:=by grind):
  PS X (.Assign [.Name y d] (.ListComp elt [⟨target,iter,ifs,0⟩] scope pos) S) (C9 (Tw ix wi g tt te) (eU i)):=by
 walk_at "xd";rw[exec_Assign_Name_used _ _ _ _ G];refine A' (wpAny_standAt (A' ?_));show wpAny _ X.A (do let _ <-comprehension (.ListComp elt [⟨target,iter,ifs,0⟩] scope pos) scope X.env _ (newList []) false (eval iter X.env) (some (assign (.Name y d) X.env))) _ _ s;have zc:∀x ∈ scope.names,x.2=.free->∃c,X.env.cells.lookup x.1=some c:=λx k j=>I.ok.has x.1 ((freeOk.at K k).2.1 j);refine A' (aae (wpAny_comprehension_free (use:=some (assign (.Name y d) X.env)) (Q:=λ_ a=>SP X pins D .next a) rfl hs (mC zc) U (λx k j=>(freeOk.at K k).2.2.1 j)
  (aae (hi pins s σ H _ I h) (λxv W l=>aae l (λWU Z n=>?_) λ_ _ e=>e) λ_ _ e=>e)) (λ_ a hq=>L' (L' hq)) λ_ _ e=>e)
 obtain⟨it,fp,tn,J,H2,e,f,T,rC,f2,hw⟩:=n;subst e;calc xF (RR:=λL C=>compPost (model X.prog X.w) X.A X.xe (some (assign (.Name y d) X.env)) (λ_ a=>SP X pins D .next a) L C) (QD:=λr t=>D.nx (σ.set i (some (.ref r))) t) KD K U k hg ht j f T rC f2 hw ?_;intro r C a t m u Tu Rq hn E I' q;obtain⟨o,E,WQ⟩:=E;show wpAny _ X.A (assign (.Name y d) X.env (.ref r)) _ _ a;have B:C≠X.env.locals:=Nat.ne_of_gt (R' f.lt u);have M:C∉X.fs:=f.NX u;have O:Inv X (pins++[(C,o)]) σ t a:=I'.vD λp P=>(List.mem_append.mp P).elim (λz=>I'.pin p (aaa _ z)) λz=>by
  have z':p=(C,o):=by simpa using z
  subst z';exact⟨E,Tu,B,M,WQ⟩
 calc wpAny_assign_Name (nU O hN F hy (v:=.ref r) rfl (λs3 I3=>?_) NZ);obtain⟨e3,n3,_⟩:=I3.pin (C,o) (aaa _ (aaa _ nofun));obtain⟨o',es,ep,ky,r'⟩:=hn;rw[E]at ky;cases ky;have R:Inv X pins (σ.set i (some (.ref r))) t s3:=I3.kE;calc⟨m,⟨o,es,ep,e3,r'⟩,λh' TC=>⟨_,t,?_,q⟩⟩;refine R.turned (t':=s3.toks) (λb o hb e=>(TC.2 b hb).trans e) n3 B (.inr (aac f.sz u)) (λx c e z=>?_) λp P z=>?_
 ·obtain⟨v,q⟩:=f.cell x c e;exact absurd (R' q.lt (by rw[z];calc u)) (aam _)
 ·calc absurd (R' (P' (f.pin p P).1) (by rw[z];calc u)) (aam _)
end
def Rr(b:Nat->List V->Hp->Prop)(D:Addr)(i:Nat)(H:Hp):Prop:=∃a,H D=some (.lst a)/\a.length<=i+1/\b (i+1) a H
theorem bT{b:Nat->List V->Hp->Prop}{D:Addr}{i n:Nat}{ys:List V}{y:V}(c:H D=some (.lst ys))(a:ys.length<=i)(d:i<n)(e:n<=sizeLine)(h:b (i+1) (ys++[y]) (upd H D (.lst (ys++[y])))):
  ∃a,H D=some (.lst a)/\a.length<sizeLine/\Rr b D i (upd H D (.lst (a++[y]))):=
 ⟨ys,c,(),ys++[y],ab,by rw[List.length_append,List.length_singleton];lia,h⟩
theorem bb{ix:List (Option Nat)}{J:It}{n:Nat}{g:TG}{c:TT}{j:TE}{k:Hp}{Q:VK}{D:Addr}(d:Nat->List V->Hp->Prop)(a:n<=sizeLine)(s:d 0 [] (upd k D (.lst [])))
  (t:∀i ys H,i<n->d i ys H->J.go i H) (u:∀ys H,d n ys H->J.stop n H)
  (v:∀i ys H,i < n->H D=some (.lst ys)->ys.length<=i->d i ys H->∀x f,J.Mh i H x f->g x (t9 ix σ) f λa o=>Ext (t9 ix σ) a/\c a o λb l=>
   if b=true then j a l λy o=>∃h,o D=some (.lst h)/\h.length < sizeLine/\Rr d D i (upd o D (.lst (h++[y]))) else Rr d D i l)
  (w:∀ys H,H D=some (.lst ys)->ys.length<=n->d n ys H->Q (.ref D) H):
  kJ ix J g c j σ k Q D:=by
 calc⟨λi m H=>m=n-i/\i<=n/\∃ys,H D=some (.lst ys)/\ys.length<=i/\d i ys H,⟨n,nofun,V' _,[],ab,E' _,s⟩,?_⟩;rintro i m H ⟨rfl,a,ys,q,r,p⟩;by_cases g:i<n
 ·exact .inr ⟨t i ys H g p,Rr d D i,λf ⟨h,a,b,c⟩=>⟨n-(i+1),(),rfl,g,h,a,b,c⟩,λx f y=>v i ys H g q r p x f y⟩
 ·have e:i=n:=by lia
  subst e;calc .inl ⟨u ys H p,w ys H q r p⟩
end
section
section
variable {X:Cx}
def Fy(i j:Int):Prop:=0<j/\j.natAbs.log2<9000
theorem Fz:fX X (binaryOp .FloorDiv) (rI Fy λi j=>.int (i/j)):=WV λi j _ _ _ _ _ a q=>by
 have b:(0:Int)<j:=a.1;calc floordiv_int () (by rw[Int.fdiv_eq_ediv_of_nonneg i ()];calc q) (.inl (PyProof.noPylong_of_log2 a.2))
def uI(C:Int->Int->Prop)(g:Int->Int->V):R2:=λx y H Q=>match x,y with
 | .int i,.int j=>C i j/\Q (g i j) H
 |_,_=>False
def OW(g:Int->Int->V):R2:=λx y H Q=>match x,y with
 | .int i,.int j=>Q (g i j) H
 |_,_=>False
theorem W8{f:Value->Value->Sem Value}{C:Int->Int->Prop}{g:Int->Int->V}(h:fX X f (rI C g)):fX X f (uI C g):=by
 intro a s σ H x y v u Q I b c q
 cases x<;>cases y<;>first
  |calc(show False from q).elim
  |calc h a s σ H _ _ v u Q I b c ⟨_,_,rfl,rfl,q.1,q.2⟩
theorem FA{f:Value->Value->Sem Value}{g:Int->Int->V}(h:fX X f (J5 g)):fX X f (OW g):=by
 intro a s σ H x y v u Q I b c q
 cases x<;>cases y<;>first
  |calc(show False from q).elim
  |calc h a s σ H _ _ v u Q I b c ⟨_,_,rfl,rfl,q⟩
theorem eN:fX X (binaryOp .Sub) (OW λi j=>.int (i-j)):=FA Oo
theorem lZ:fX X (binaryOp .Mult) (uI EY λi j=>.int (i*j)):=W8 Oq
theorem eO:fX X (binaryOp .Mod) (uI (λ_ j=>0<j) λi j=>.int (i%j)):=W8 Ot
theorem nZ:fX X (binaryOp .FloorDiv) (uI Fy λi j=>.int (i/j)):=W8 Fz
theorem qV:fX X (binaryOp .Pow) (uI J7 λi j=>.int (i^j.toNat)):=W8 Ou
theorem gG:fX X (compareOp .Lt) (OW λi j=>.bl (decide (i<j))):=FA SU
theorem rM:fX X (compareOp .LtE) (OW λi j=>.bl (decide (i<=j))):=FA SV
theorem mM:fX X (compareOp .Gt) (OW λi j=>.bl (decide (j<i))):=FA SW
theorem OX:fX X (compareOp .GtE) (OW λi j=>.bl (decide (j<=i))):=FA SX
def kl(K:W.Frag)(H:Hp):Nat->V->V->Prop
 |0,_,_=>False
 |n+1,x,y=>(x=y/\jE x=true)\/∃a b xs ys,x=.ref a/\y=.ref b/\((bL K H a xs/\bL K H b ys)\/(aN K H a xs/\aN K H b ys))/\xs.length=ys.length/\∀(i:Nat) u v,xs[i]?=some u->ys[i]?=some v->kl K H n u v
theorem in1_units(A:Around):A.in1.units=A.units+1:=rfl
theorem oe{pins:List (Addr×Obj)}{σ:St}{H:Hp}{s:Shared}(I:Inv X pins σ H s):∀(n:Nat) (A:Around) {x y:V}{u v:Value},kl X.K H n x y->A.units+n<cLine->RelV x u->RelV y v->SeqAt.EqAt A s u v true
 |0,_,_,_,_,_,h,_,_,_=>h.elim
 |n+1,A,x,y,u,v,h,o,c,d=>by
  rcases h with⟨e,f⟩|⟨a,b,J,L,j,k,l,o,M⟩
  ·subst e;have q:=Fe (A:=A) (s:=s) c d f f;have g:Jw x x=true:=by cases x <;> first | rfl | calc absurd (show false=true from f) S' | simp[Jw]
   rw[g]at q;exact q
  ·subst j k
   cases c
   cases d;by_cases m:a=b
   ·subst m;exact SeqAt.EqAt.same _
   rcases l with⟨o,p⟩|⟨o,p⟩
   ·obtain⟨c,h,q,H⟩:=I.tuple o;obtain⟨f,k,r,N⟩:=I.tuple p;have O:=h.length;have P:=k.length;have t:c.toArray.size=f.toArray.size:=by simp;lia
    have d:=SeqAt.RcAt.tuples (A:=A) (e:=λ_=>true) (show s.heap.IsTuple a c.toArray from q) (show s.heap.IsTuple b f.toArray from r) () λj u v=>by
     have w:j<c.length:=by simpa using u
     have y:j<f.length:=by simpa using v
     obtain⟨z,l,B⟩:=h.get (i:=j) (x:=J[j]'()) nofun;obtain⟨C,g,D⟩:=k.get (i:=j) (x:=L[j]'()) nofun;have E:c.toArray[j]=z:=by
      have:=cN w;rw[this]at l;simpa using Option.some.inj l
     have F:f.toArray[j]=C:=by
      have:=cN y;rw[this]at g;simpa using Option.some.inj g
     rw[E,F];exact oe I n A.in1 (M j _ _ nofun nofun) (by rw[in1_units];lia) B D
    have G:SeqAt.RcAt A s (.ref a) (.ref b) true:=by
     have:((List.range (min c.toArray.size f.toArray.size)).all (λ_=>true)&&c.toArray.size==f.toArray.size)=true:=by
      rw[t];simp
     rw[this]at d;exact d
    exact SeqAt.EqAt.of_refs m G
   ·obtain⟨c,h,q,H⟩:=I.list o;obtain⟨f,k,r,N⟩:=I.list p;have O:=h.length;have P:=k.length;have t:c.toArray.size=f.toArray.size:=by simp;lia
    have d:=SeqAt.RcAt.lists (A:=A) (e:=λ_=>true) q.isList r.isList t () λj u v=>by
     have w:j<c.length:=by simpa using u
     have y:j<f.length:=by simpa using v
     obtain⟨z,l,B⟩:=h.get (i:=j) (x:=J[j]'()) nofun;obtain⟨C,g,D⟩:=k.get (i:=j) (x:=L[j]'()) nofun;have E:c.toArray[j]=z:=by
      have:=cN w;rw[this]at l;simpa using Option.some.inj l
     have F:f.toArray[j]=C:=by
      have:=cN y;rw[this]at g;simpa using Option.some.inj g
     rw[E,F];exact oe I n A.in1 (M j _ _ nofun nofun) (by rw[in1_units];lia) B D
    have G:SeqAt.RcAt A s (.ref a) (.ref b) true:=by
     have:((List.range c.toArray.size).all (λ_=>true))=true:=by simp
     rw[this]at d;exact d
    calc SeqAt.EqAt.of_refs m G
end
end
section
variable {pins:List (Addr×Obj)}{σ:St}
section
variable {X:Cx}
theorem FC{H:Hp}{s:Shared}(I:Inv X pins σ H s){A:Around}{n:Nat}{a b:Addr}(h:kl X.K H (n+1) (.ref a) (.ref b))(f:A.units+n+1<cLine):
  SeqAt.RcAt A s (.ref a) (.ref b) true/\SeqAt.RcNeAt A s (.ref a) (.ref b) false:=by
 rcases h with⟨e,f⟩|⟨g,k,J,L,c,d,j,l,M⟩
 ·exact absurd (show false=true from f) S'
 ·cases c
  cases d;rcases j with⟨g,h⟩|⟨g,h⟩
  ·obtain⟨d,k,l,H⟩:=I.tuple g;obtain⟨f,m,o,N⟩:=I.tuple h;have O:=k.length;have P:=m.length;have u:d.toArray.size=f.toArray.size:=by simp;lia
   have c:∀j (g:j<d.toArray.size) (h:j<f.toArray.size),SeqAt.EqAt A.in1 s d.toArray[j] f.toArray[j] ((λ_=>true) j):=λj v w=>by
    have y:j<d.length:=by simpa using v
    have z:j<f.length:=by simpa using w
    obtain⟨B,p,C⟩:=k.get (i:=j) (x:=J[j]'()) nofun;obtain⟨D,q,E⟩:=m.get (i:=j) (x:=L[j]'()) nofun;have F:d.toArray[j]=B:=by
     have:=cN y;rw[this]at p;simpa using Option.some.inj p
    have G:f.toArray[j]=D:=by
     have:=cN z;rw[this]at q;simpa using Option.some.inj q
    rw[F,G];exact oe I n A.in1 (M j _ _ nofun nofun) (by rw[in1_units];lia) C E
   have e:((List.range (min d.toArray.size f.toArray.size)).all (λ_=>true)&&d.toArray.size==f.toArray.size)=true:=by
    rw[u];simp
   have r:=SeqAt.RcAt.tuples (A:=A) (show s.heap.IsTuple a d.toArray from l) (show s.heap.IsTuple b f.toArray from o) () c;have t:=SeqAt.RcNeAt.tuples (A:=A) (show s.heap.IsTuple a d.toArray from l) (show s.heap.IsTuple b f.toArray from o) () c;rw[e]at r t;exact⟨r,t⟩
  ·obtain⟨d,k,l,H⟩:=I.list g;obtain⟨f,m,o,N⟩:=I.list h;have O:=k.length;have P:=m.length;have u:d.toArray.size=f.toArray.size:=by simp;lia
   have c:∀j (g:j<d.toArray.size) (h:j<f.toArray.size),SeqAt.EqAt A.in1 s d.toArray[j] f.toArray[j] ((λ_=>true) j):=λj v w=>by
    have y:j<d.length:=by simpa using v
    have z:j<f.length:=by simpa using w
    obtain⟨B,p,C⟩:=k.get (i:=j) (x:=J[j]'()) nofun;obtain⟨D,q,E⟩:=m.get (i:=j) (x:=L[j]'()) nofun;have F:d.toArray[j]=B:=by
     have:=cN y;rw[this]at p;simpa using Option.some.inj p
    have G:f.toArray[j]=D:=by
     have:=cN z;rw[this]at q;simpa using Option.some.inj q
    rw[F,G];exact oe I n A.in1 (M j _ _ nofun nofun) (by rw[in1_units];lia) C E
   have e:(List.range d.toArray.size).all (λ_=>true)=true:=by simp
   have r:=SeqAt.RcAt.lists (A:=A) l.isList o.isList u () c;have t:=SeqAt.RcNeAt.lists (A:=A) l.isList o.isList u () c;rw[e]at r t;calc⟨r,t⟩
def rN(K:W.Frag)(H:Hp)(a b:Addr):Prop:=∃xs ys,xs.length≠ys.length/\((aN K H a xs/\aN K H b ys)\/(bL K H a xs/\bL K H b ys/\(xs=[]\/ys=[])))
theorem Bs{H:Hp}{s:Shared}(I:Inv X pins σ H s){A:Around}{a b:Addr}(h:rN X.K H a b)(k:A.units<cLine):
  SeqAt.RcAt A s (.ref a) (.ref b) false/\SeqAt.RcNeAt A s (.ref a) (.ref b) true:=by
 obtain⟨j,n,r,⟨l,m⟩|⟨l,m,q⟩⟩:=h
 ·obtain⟨d,h,g,r⟩:=I.list l;obtain⟨f,n,i,t⟩:=I.list m;have o:=h.length;have p:=n.length;have j:(d.toArray.size != f.toArray.size)=true:=by simp;lia
  exact⟨SeqAt.RcAt.lists_lengths g.isList i.isList j k,SeqAt.RcNeAt.lists_lengths g.isList i.isList j k⟩
 ·obtain⟨d,h,g,r⟩:=I.tuple l;obtain⟨f,n,i,t⟩:=I.tuple m;have o:=h.length;have p:=n.length;have c:∀j (l:j<d.toArray.size) (m:j<f.toArray.size),SeqAt.EqAt A.in1 s d.toArray[j] f.toArray[j] ((λ_=>true) j):=λj h l=>by
   exfalso;have m:j<d.length:=by simpa using h
   have h:j<f.length:=by simpa using l
   rcases q with e|e
   ·subst e;simp at o;lia
   ·subst e;simp at p;lia
  have e:((List.range (min d.toArray.size f.toArray.size)).all (λ_=>true)&&d.toArray.size==f.toArray.size)=false:=by
   have:d.toArray.size≠f.toArray.size:=by simp;lia
   rw[Bool.and_eq_false_iff];exact .inr (beq_eq_false_iff_ne.mpr this)
  have h:=SeqAt.RcAt.tuples (A:=A) (show s.heap.IsTuple a d.toArray from g) (show s.heap.IsTuple b f.toArray from i) k c;have j:=SeqAt.RcNeAt.tuples (A:=A) (show s.heap.IsTuple a d.toArray from g) (show s.heap.IsTuple b f.toArray from i) k c;rw[e]at h j;calc⟨h,j⟩
def OZ(K:W.Frag):R2:=λx y H Q=>match x,y with
 | .ref a,.ref b=>(kl K H 20 (.ref a) (.ref b)/\Q (.bl true) H)\/(rN K H a b/\Q (.bl false) H)
 |x,y=>J8 x y=true/\Q (.bl (decide (x=y))) H
def Rt(K:W.Frag):R2:=λx y H Q=>match x,y with
 | .ref a,.ref b=>(kl K H 20 (.ref a) (.ref b)/\Q (.bl false) H)\/(rN K H a b/\Q (.bl true) H)
 |x,y=>J8 x y=true/\Q (.bl (!decide (x=y))) H
theorem FE(c:X.A.units+64<cLine):fX X (compareOp .Eq) (OZ X.K):=by
  intro pins s σ H x y v u Q I a b h
  cases x<;>cases y<;>first
    |calc SQ pins s σ H _ _ v u Q I a b h
    | (cases a;cases b
       rcases h with⟨a,q⟩|⟨a,q⟩
       · exact(FC I (A:=X.A) a ()).1 X.prog X.w X.xe _ ⟨.bl true,H,I,rfl,q⟩
       · calc(Bs I (A:=X.A) a ()).1 X.prog X.w X.xe _ ⟨.bl false,H,I,rfl,q⟩)
theorem O0(c:X.A.units+64<cLine):fX X (compareOp .NotEq) (Rt X.K):=by
  intro pins s σ H x y v u Q I a b h
  cases x<;>cases y<;>first
    |calc SR pins s σ H _ _ v u Q I a b h
    | (cases a;cases b
       rcases h with⟨a,q⟩|⟨a,q⟩
       · exact(FC I (A:=X.A) a ()).2 X.prog X.w X.xe _ ⟨.bl false,H,I,rfl,q⟩
       · calc(Bs I (A:=X.A) a ()).2 X.prog X.w X.xe _ ⟨.bl true,H,I,rfl,q⟩)
def TJ(g:Bool->Bool):R2:=λx y H Q=>match x,y with
 | .bl c,.bl d=>Q (.bl (g (c==d))) H
 |x,.bH=>Q (.bl (g (decide (x=.bH)))) H
 |_,_=>False
theorem vS:fX X (compareOp .Is) (TJ id):=by
 intro pins s σ H x y v u Q I a b h
 cases x<;>cases y<;>first
  |calc(show False from h).elim
  |calc Ov pins s σ H _ _ v u Q I a b ⟨rfl,h⟩
  |(cases a;cases b;calc is_bool ⟨.bl _,H,I,rfl,h⟩)
theorem l7:fX X (compareOp .IsNot) (TJ not):=by
 intro pins s σ H x y v u Q I a b h
 cases x<;>cases y<;>first
  |calc(show False from h).elim
  |calc J9 pins s σ H _ _ v u Q I a b ⟨rfl,h⟩
  |(cases a;cases b;calc isnot_bool ⟨.bl _,H,I,rfl,h⟩)
def uIn(K:W.Frag)(a:Bool):R2:=λx y H Q=>match y with
 | .ref p=>∃xs,(aN K H p xs\/bL K H p xs)/\jE x=true/\xs.all jE=true/\Q (.bl (if a then !Bl x xs else Bl x xs)) H
 |_=>False
theorem FG:fX X (compareOp .In) (uIn X.K false):=by
 intro pins s σ H x y v u Q I a b h
 cases y<;>first
  |calc(show False from h).elim
  |(obtain⟨c,d,e,f,g⟩:=h;calc Dm pins s σ H _ _ v u Q I a b ⟨_,c,rfl,d,e,f,g⟩)
def O1(K:W.Frag)(a:TE):TI:=λσ H R=>a σ H λx b=>match x with
 | .ref a=>((∃xs,aN K b a xs)/\R (tU K a) b)\/((∃xs,bL K b a xs)/\R (SM K a) b)
 |_=>False
theorem bM{n l:Expr}{i:TE}(r:PE X l i):PI X n l (O1 X.K i):=by
  calc⟨?_⟩;intro pins s σ H R I h;calc dq (r pins s σ H _ I h) λv c t=>?_;obtain⟨x,j,d,u,k⟩:=t
  cases x<;>first
    |calc(show False from k).elim
    | (rename_i a;cases u
       rcases k with⟨⟨w,f⟩,q⟩|⟨⟨w,f⟩,q⟩
       · obtain⟨m,y,p,z⟩:=d.list f;calc wpAny_pyIter_list p.isList ?_;calc⟨c.heap.objs.size,[c.heap.objs.size],_,_,j,rfl,d.kept (t':=c.toks) λb o e=>J' _ e,Dd a _,⟨_,T' _ rfl,rfl,rfl⟩,λb g=>?_,q⟩;have e:b=c.heap.objs.size:=by simpa using g
         subst e;exact d.ET (E' _) (d.aU.fresh (E' _))
       · obtain⟨m,y,p,z⟩:=d.tuple f;calc aan (show c.heap.IsTuple a m.toArray from p) ?_;calc⟨c.heap.objs.size,[c.heap.objs.size],_,_,j,rfl,d.kept (t':=c.toks) λb o e=>J' _ e,zr a _,⟨_,T' _ rfl,rfl,rfl⟩,λb g=>?_,q⟩;have e:b=c.heap.objs.size:=by simpa using g
         subst e;calc d.ET (E' _) (d.aU.fresh (E' _)))
end
structure Def(P:Program)(w:World)(K:W.Frag)(mg:Str->Option Value)(base:Heap)(x:Str)(k:Nat)(ps:List Str)(sp:Sp):Prop where
 ex:∃f fd,mh P w K mg base Dt k f fd ps sp/\mg x=some (.ref f)/\W.keepIn K (.ref f)=true/\Binds K fd ps []
structure cM(K:W.Frag)(mg:Str->Option Value)(x qual:Str)(st:Stmt)(ps:List Str):Prop where
 ex:∃f fd,Ky K x qual st f fd/\mg x=some (.ref f)/\Binds K fd ps []
section
variable {P:Program}{w:World}{K:W.Frag}{mg:Str->Option Value}{base:Heap}
theorem cM.ok{x a:Str}{b:Stmt}{N c:List Str}{k:Nat}{sp:Sp}(T:cM K mg x a b c)(S:aB N c (av b))(d:∀vs H Q E,sp vs H Q E->vs.length=c.length)
  (g:∀(f:Addr) (e:Value) (A:Around) (outer:List Env) (s:Shared) (H:Hp) (vs:List V) (Q:VK) (E:XK),eW k (A.deeper (envOfC a (av b) s.heap.objs.size f e))->sp vs H Q E->
   ∃t,wX (rF Dt P w K mg base N a (av b) f e A outer s H E).J3 (df b) t/\t {nx:=λ_ a=>Q .bH a,rt:=Q} (start N vs) H):Def P w K mg base x (k + 1) c sp:=by
 obtain⟨f,a,F,b,c⟩:=T.ex;calc⟨f,a,F.ok S d (g f),b,F.kp,c⟩
end
theorem TK{X:Cx}{k j:Nat}{c:List Str}{sp:Sp}{x:Str}{p a:Pos}{e:Expr}{b:List Expr}{t:TA}(D:Def X.prog X.w X.K X.mg X.base x k c sp)(d:eW j X.A)(g:PA X (e::b) t)(h:Gl X x:=by rfl)(c:k<=j:=by decide)
  (i:(x==("__debug__":Str))=false:=by decide) (j:starEach (e::b) X.env=(false,eval e X.env)::starEach b X.env:=by rfl) (k:(backTo a (starEach b X.env)).any (·.1)=false:=by rfl):
  PE X (.Call (.Name x p) (e::b) [] a) (xl sp [] E0 t):=by
 obtain⟨f,l,F,a,b,e⟩:=D.ex;calc Kf F (d.mono c) h a b e .nil Bq g i j k
end
section
variable {H:Hp}
section
variable {X:Cx}
def O2(K:W.Frag):R2:=λx y H Q=>match x,y with
 | .str z,.int i=>∃c,z.length<=sizeLine/\iJ z.cps.toList i=some c/\Q (.str ⟨#[c]⟩) H
 | .ref p,.int i=>∃xs v,(aN K H p xs\/bL K H p xs)/\iJ xs i=some v/\Q v H
 | .ref p,.str k=>∃v,iW H p (.str k) (some v)/\Q v H
 |_,_=>False
theorem YM(c:X.A.units+64<cLine):Kl X (O2 X.K):=by
  intro a b d s σ H x y v u Q I i j h k
  cases x<;>cases y<;>first
    |calc(show False from h).elim
    |(obtain⟨c,f,l,e⟩:=h;calc OG a b d s σ H _ _ v u Q I i j ⟨_,_,c,rfl,rfl,f,l,e⟩ k)
    | (obtain⟨c,m,f | f,l,e⟩:=h
       · exact Km a b d s σ H _ _ v u Q I i j ⟨_,c,_,m,rfl,rfl,f,l,e⟩ k
       · calc OF a b d s σ H _ _ v u Q I i j ⟨_,c,_,m,rfl,rfl,f,l,e⟩ k)
    | (obtain⟨m,g,e⟩:=h
       cases i;calc tail_any (qw I g) PySem.F.slot_dict_getitem.lookup (uP () I g j λc d a b=>⟨m,H,a,b,e⟩) k)
end
inductive DV where
 |bH|bl (b:Bool)|int (i:Int)|str (x:Str)|tup (ds:List DV)|lst (ds:List DV)|dict
inductive HD(H:Hp):Nat->V->DV->Prop
 |bH {n}:HD H n .bH .bH
 |bl {n} (b:Bool):HD H n (.bl b) (.bl b)
 |int {n} (i:Int):HD H n (.int i) (.int i)
 |str {n} (x:Str):HD H n (.str x) (.str x)
 |tup {n a xs ds}:H a=some (.tup xs)->xs.length=ds.length->(∀(i:Nat) u e,xs[i]?=some u->ds[i]?=some e->HD H n u e)->HD H (n+1) (.ref a) (.tup ds)
 |lst {n a xs ds}:H a=some (.lst xs)->xs.length=ds.length->(∀(i:Nat) u e,xs[i]?=some u->ds[i]?=some e->HD H n u e)->HD H (n+1) (.ref a) (.lst ds)
 |dict {n a aX}:H a=some (.dK aX)->HD H n (.ref a) .dict
theorem HD.same{H a:Hp}(s:au H a){n:Nat}{x:V}{d:DV}(h:HD H n x d):HD a n x d:=by
 induction h with
 |bH=>calc .bH
 |bl b=>calc .bl b
 |int i=>calc .int i
 |str x=>calc .str x
 |tup a b c d=>calc .tup (s _ _ a) b d
 |lst a b c d=>calc .lst (s _ _ a) b d
 |dict a=>calc .dict (s _ _ a)
theorem HD.mono{H:Hp}{n:Nat}{x:V}{d:DV}(h:HD H n x d):∀{m:Nat},n<=m->HD H m x d:=by
 induction h with
 |bH=>intro m _;calc .bH
 |bl b=>intro m _;calc .bl b
 |int i=>intro m _;calc .int i
 |str x=>intro m _;calc .str x
 |tup a b c f=>
  intro m g;obtain⟨k,rfl⟩:∃k,m=k+1:=⟨m-1,()⟩
  calc .tup a b λi u e p q=>f i u e p q ()
 |lst a b c f=>
  intro m g;obtain⟨k,rfl⟩:∃k,m=k+1:=⟨m-1,()⟩
  calc .lst a b λi u e p q=>f i u e p q ()
 |dict a=>intro m _;calc .dict a
inductive HT(H:Hp):Nat->V->DV->Prop
 |bH {n}:HT H n .bH .bH
 |bl {n} (b:Bool):HT H n (.bl b) (.bl b)
 |int {n} (i:Int):HT H n (.int i) (.int i)
 |str {n} (x:Str):HT H n (.str x) (.str x)
 |tup {n a xs ds}:H a=some (.tup xs)->xs.length=ds.length->(∀(i:Nat) u e,xs[i]?=some u->ds[i]?=some e->HT H n u e)->HT H (n+1) (.ref a) (.tup ds)
theorem HT.hd{H:Hp}{n:Nat}{x:V}{d:DV}(h:HT H n x d):HD H n x d:=by
 induction h with
 |bH=>calc .bH
 |bl b=>calc .bl b
 |int i=>calc .int i
 |str x=>calc .str x
 |tup a b c d=>calc .tup a b d
def cg(H a:Hp):Prop:=∀b xs,H b=some (.tup xs)->a b=some (.tup xs)
theorem au.aM{a:Hp}(h:au H a):cg H a:=λb a e=>h b _ e
theorem cg.refl(H:Hp):cg H H:=λ_ _ h=>h
theorem cg.trans{c d:Hp}(a:cg H c)(b:cg c d):cg H d:=λc o h=>b c o (a c o h)
theorem cg.upd{a:Hp}(h:cg H a){p:Addr}{o:HO}(d:∀xs,a p≠some (.tup xs)):cg H (upd a p o):=λb xs e=>by
 have c:=h b xs e;have:b≠p:=λz=>by subst z;exact d xs c
 rw[ax this];calc c
theorem HT.aK{H a:Hp}(s:cg H a){n:Nat}{x:V}{d:DV}(h:HT H n x d):HT a n x d:=by
 induction h with
 |bH=>calc .bH
 |bl b=>calc .bl b
 |int i=>calc .int i
 |str x=>calc .str x
 |tup a b c d=>calc .tup (s _ _ a) b d
theorem au.new{p:Addr}(o:HO)(a:H p=none):au H (upd H p o):=λb u e=>by rw[ax (ao e a)];calc e
end
section
section
variable {X:Cx}
def O3(K:W.Frag):List V->Hp->VK->Prop:=λxs H Q=>match xs with
 | [x]=>∃n,E2 K x H n/\Q (.int (n:Nat)) H
 |_=>False
theorem aL:dR X (.builtin "len") (O3 X.K):=by
 intro a s σ H b c Q I r h
 match b,r,h with
 | [x],r,h=>
  obtain⟨n,b,d⟩:=h;calc E3 a s σ H _ c Q I r ⟨x,n,rfl,b,d⟩
def uII(g:Int->Int->Int):List V->Hp->VK->Prop:=λxs H Q=>match xs with
 | [.int i,.int j]=>Q (.int (g i j)) H
 |_=>False
theorem uS(b:X.calm=true):dR X (.builtin "max") (uII λi j=>if j > i then j else i):=by
 intro a s σ H c d Q I r h
 match c,r,h with
 | [.int i,.int j],r,h=>calc Df b a s σ H _ d Q I r ⟨i,j,rfl,h⟩
def vT(K:W.Frag):List V->Hp->VK->Prop:=λxs H Q=>match xs with
 | [.ref p]=>(∃ys,aN K H p ys/\∀l,H l=none->Q (.ref l) (upd H l (.tup ys)))\/(∃ys,bL K H p ys/\Q (.ref p) H)
 |_=>False
theorem bN:dR X (.type "tuple") (vT X.K):=by
 intro a s σ H b e Q I r h
 match b,r,h with
 | [.ref p],r,h=>
  rcases h with⟨b,c,d⟩|⟨b,c,d⟩
  ·exact mz a s σ H _ e Q I r ⟨p,b,rfl,.inl ⟨c,d⟩⟩
  ·calc mz a s σ H _ e Q I r ⟨p,b,rfl,.inr ⟨c,d⟩⟩
def FH(K:W.Frag):List V->Hp->VK->Prop:=λxs H Q=>match xs with
 | [.ref p]=>∃ys,(aN K H p ys\/bL K H p ys)/\∀l,H l=none->Q (.ref l) (upd H l (.lst ys))
 |_=>False
theorem cG:dR X (.type "list") (FH X.K):=by
 intro a s σ H b c Q I r h
 match b,r,h with
 | [.ref p],r,h=>
  obtain⟨b,d,e⟩:=h;calc vM a s σ H _ c Q I r ⟨p,b,rfl,d,e⟩
def Mo:V->V->V->Hp->(Hp->Prop)->Prop:=λo i v H Q=>match o,i with
 | .ref p,.int k=>∃xs j,H p=some (.lst xs)/\zI xs.length k=some j/\Q (upd H p (.lst (xs.set j v)))
 |_,_=>False
theorem dU:Oe X Mo:=by
 intro a s σ H o i v b c u Q I d e f h
 cases o<;>cases i<;>first
  |calc(show False from h).elim
  |(obtain⟨g,j,i,k,l⟩:=h;calc set_list a s σ H _ _ v b c u Q I d e f ⟨_,g,_,j,rfl,rfl,i,k,l⟩)
end
theorem TL{CX P w K mg base N qual scope f cd A outer s H E}:(rF CX P w K mg base N qual scope f cd A outer s H E).J3.K=K:=rfl
theorem Mp{X:Cx}:X.J3.K=X.K:=rfl
theorem FI{CX P w K mg base N qual scope f cd A outer s H E}:(rF CX P w K mg base N qual scope f cd A outer s H E).K=K:=rfl
theorem Mq{X:Cx}{scope C N' a b fp}:(Tt X scope C N' a b fp).K=X.K:=rfl
theorem cY:2<=sizeLine:=by decide
end
section
variable {g:Int->Int->V}
section
variable {K:W.Frag}{H:Hp}{Q:VK}{i j:Int}{a b:Addr}{x y:V}{s t:Str}
theorem Mr{C:Int->Int->Prop}:uI C g (.int i) (.int j) H Q=(C i j/\Q (g i j) H):=rfl
theorem FJ:OW g (.int i) (.int j) H Q=Q (g i j) H:=rfl
theorem FK:decide (V.int i=V.int j)=decide (i=j):=by simp
theorem FL:decide (V.str s=V.str t)=decide (s=t):=by simp
theorem vU:OZ K (.int i) (.int j) H Q=Q (.bl (decide (i=j))) H:=by
 show(true=true/\Q (.bl (decide (V.int i=V.int j))) H)=_;rw[FK];simp
theorem vV:OZ K (.str s) (.str t) H Q=Q (.bl (decide (s=t))) H:=by
 show(true=true/\Q (.bl (decide (V.str s=V.str t))) H)=_;rw[FL];simp
theorem vW:Rt K (.int i) (.int j) H Q=Q (.bl (!decide (i=j))) H:=by
 show(true=true/\Q (.bl (!decide (V.int i=V.int j))) H)=_;rw[FK];simp
theorem vX:Rt K (.str s) (.str t) H Q=Q (.bl (!decide (s=t))) H:=by
 show(true=true/\Q (.bl (!decide (V.str s=V.str t))) H)=_;rw[FL];simp
theorem FN:OZ K (.ref a) (.ref b) H Q=((kl K H 20 (.ref a) (.ref b)/\Q (.bl true) H)\/(rN K H a b/\Q (.bl false) H)):=rfl
theorem FO:Rt K (.ref a) (.ref b) H Q=((kl K H 20 (.ref a) (.ref b)/\Q (.bl false) H)\/(rN K H a b/\Q (.bl true) H)):=rfl
theorem FQ{g:Bool->Bool}{c d:Bool}:TJ g (.bl c) (.bl d) H Q=Q (.bl (g (c==d))) H:=rfl
theorem Ms{b:Bool}:uIn K b x (.ref a) H Q=∃xs,(aN K H a xs\/bL K H a xs)/\jE x=true/\xs.all jE=true/\Q (.bl (if b then !Bl x xs else Bl x xs)) H:=rfl
theorem FT:O2 K (.ref a) (.int i) H Q=∃xs v,(aN K H a xs\/bL K H a xs)/\iJ xs i=some v/\Q v H:=rfl
theorem FU:O2 K (.ref a) (.str s) H Q=∃v,iW H a (.str s) (some v)/\Q v H:=rfl
theorem FV:O2 K (.str s) (.int i) H Q=∃c,s.length<=sizeLine/\iJ s.cps.toList i=some c/\Q (.str ⟨#[c]⟩) H:=rfl
theorem FW:O3 K [x] H Q=∃n,E2 K x H n/\Q (.int (n:Nat)) H:=rfl
theorem Mt{g:Int->Int->Int}:uII g [.int i,.int j] H Q=Q (.int (g i j)) H:=rfl
theorem og:vT K [.ref a] H Q=((∃ys,aN K H a ys/\∀l,H l=none->Q (.ref l) (upd H l (.tup ys)))\/(∃ys,bL K H a ys/\Q (.ref a) H)):=rfl
theorem Bt:FH K [.ref a] H Q=∃ys,(aN K H a ys\/bL K H a ys)/\∀l,H l=none->Q (.ref l) (upd H l (.lst ys)):=rfl
theorem xI{R:Hp->Prop}:Mo (.ref a) (.int i) x H R=∃xs j,H a=some (.lst xs)/\zI xs.length i=some j/\R (upd H a (.lst (xs.set j x))):=rfl
theorem uT{α:Type}{o:Option α}:(some o).join=o:=rfl
end
end
section
variable {r:List V->Hp->VK->Prop}
def fY:Expr->Bool
 | .Starred ..=>false
 |_=>true
theorem fZ{e:Expr}{a:List Expr}{env:Env}(h:fY e=true):starEach (e::a) env=(false,eval e env)::starEach a env:=by
 cases e<;>first|rfl|calc absurd h S'
theorem jG{a:Pos}{env:Env}:∀{b:List Expr},b.all fY=true->(backTo a (starEach b env)).any (·.1)=false
 | [],_=>rfl
 |e::b,h=>by
  rw[List.all_cons,Bool.and_eq_true]at h;rw[fZ h.1];show(false||(backTo a (starEach b env)).any (·.1))=false;rw[jG h.2];rfl
def zN:Expr->Bool
 | .ListComp ..=>false
 | .SetComp ..=>false
 | .DictComp ..=>false
 |_=>true
theorem gy{e:Expr}{t:Option Expr}{l:Nat}{env:Env}(h:zN e=true):swapsWith e t l env=pure false:=by
 cases e<;>first|rfl|calc absurd h S'
section
variable {X:Cx}{e:Expr}{es:List Expr}{te:TE}{t:TA}{pos p:Pos}{x:Str}
theorem af(a:PE X e te)(b:PA X es t)(h:fY e=true:=by rfl):PA X (e::es) (Bb te t):=Ke a b (fZ h)
theorem aJ{k j:Nat}{a:List Str}{sp:Sp}(D:Def X.prog X.w X.K X.mg X.base x k a sp)(b:eW j X.A)(c:PA X (e::es) t)(d:Gl X x:=by rfl)(a:k<=j:=by decide)
  (f:(x==("__debug__":Str))=false:=by decide) (g:fY e=true:=by rfl) (h:es.all fY=true:=by rfl):
  PE X (.Call (.Name x p) (e::es) [] pos) (xl sp [] E0 t):=TK D b c d a f (fZ g) (jG h)
theorem aW{a:String}(b:dR X (.builtin a) r)(c:Gl X x)(d:X.mg x=none)(f:bootBuiltins x=some (.builtin a))(g:PA X (e::es) t)(h:x≠"__name__":=by decide)(a:(x==("__debug__":Str))=false:=by decide)
  (i:fY e=true:=by rfl) (j:es.all fY=true:=by rfl):PE X (.Call (.Name x p) (e::es) [] pos) (Ro r t):=Fb b c d f g h a (fZ i) (jG j)
theorem cZ{T:String}(a:dR X (.type T) r)(b:Gl X x)(c:X.mg x=none)(d:bootBuiltins x=some (.type T))(f:PA X (e::es) t)(g:x≠"__name__":=by decide)(h:(x==("__debug__":Str))=false:=by decide)
  (i:fY e=true:=by rfl) (j:es.all fY=true:=by rfl):PE X (.Call (.Name x p) (e::es) [] pos) (Ro r t):=Dk a b c d f g h (fZ i) (jG j)
theorem aY{i:Nat}{a:Pos}(b:X.N.Nodup)(c:X.N[i]?=some x)(d:Loc X.env.scope x)(f:PE X e te)(h:zN e=true:=by rfl)(g:X.fn x=true\/X.env.scope.names.lookup x=some .local:=by grind):
  PS X (.Assign [.Name x a] e pos) (C9 te (eU i)):=ER b c d f (gy h) g
theorem bI(a:PE X e te)(h:zN e=true:=by rfl):PS X (.Expr e pos) (AY te):=J4 a (gy h)
end
end
section
def vY:Expr->Bool
 | .Slice ..=>false
 |_=>true
theorem xJ{b:Expr}(h:vY b=true):Bj b:=λo i=>by
 cases b<;>first|rfl|calc absurd h S'
theorem aj{X:Cx}{a b:Expr}{d e:TE}{c:Pos}(f:X.A.units+64<cLine)(g:PE X a d)(i:PE X b e)(h:vY b=true:=by rfl):PE X (.Subscript a b c) (EX (O2 X.K) d e):=Tf (YM f) g i (xJ h)
end
end L2
set_option maxHeartbeats 400000
namespace L2
open PySem PySem.Spec PyProof.Rows
section
section
variable {prog:Program}{w:World}{A:Around}{E:Value->Shared->Prop}{s:Shared}{K:W.Frag}{x C B:Addr}{ox:Obj}{od:Option Obj}{name:Str}
open PySem.W in
open PySem.W in
end
end
section
end
end L2
namespace L2
open PySem PySem.Spec PyProof.Rows
end L2
set_option maxHeartbeats 4000000
namespace PySem
variable {a j:Addr}{Q:Value->Shared->Prop}
section
variable {prog:Program}{w:World}{A:Around}{E:Value->Shared->Prop}{s:Shared}
theorem qD{n:Nat}{c:Array Value}{v:Value}(b:s.heap.IsTupleIter j a n)(f:s.heap.IsTuple a c)(h:c[n]?=some v)
  (q:∀g,g.IsTupleIter j a (n+1)->Heap.SameBut j s.heap g->Q v {s with heap:=g}):wpAny (model prog w) A (Builtin.SmallTypes.nextOf (.ref j)) Q E s:=by
 obtain⟨g,e,c,d⟩:=id b;obtain⟨k,g,_,l,i⟩:=f;unfold Builtin.SmallTypes.nextOf;refine A' (aaq (name:=Str.ofString "__next__") b.typeIs F.slot_tuple_iterator_next (aat F.slot_tuple_iterator_next b.typeIs F.entry_tuple_iterator_next ?_ (F.args_tuple_iterator_next_1 _)));refine A' (m:=field (.ref j) 0) (aah e d (x:=.ref a) rfl ?_);show wpAny _ _ (if (Value.ref a==Value.none)=true then _ else _) _ _ _;rw[if_neg (by exact Bool.false_ne_true)];refine A' (m:=field (.ref j) 1) (aah e d (x:=.int n 0) rfl ?_);refine A' (m:=seqItems? (.ref a)) (aaH g i ?_);simp only[Int.toNat_natCast,h];refine A' (wpAny_setField e d nofun (L' ⟨v,rfl,L' (q _ ⟨_,Heap.get?_update_self _ e (Obj.isFreed_of_fields (Obj.data_mapFields d _)),(Obj.cls_mapFields ..).trans c,?_⟩ (Heap.SameBut.update ..))⟩));rw[Obj.data_mapFields d];simp[rawInt]
theorem rO{n:Nat}{c:Array Value}(f:A.handled=none)(b:s.heap.IsTupleIter j a n)(h:s.heap.IsTuple a c)(i:c[n]?=none)
  (q:∀g e,Heap.ExtBut j s.heap g->(∃o,g.get? e=some o/\o.cls=.type "StopIteration")->E (.ref e) {s with heap:=g}):wpAny (model prog w) A (Builtin.SmallTypes.nextOf (.ref j)) Q E s:=by
 obtain⟨g,e,c,d⟩:=id b;obtain⟨k,c,_,l,g⟩:=h;unfold Builtin.SmallTypes.nextOf;refine A' (aaq (name:=Str.ofString "__next__") b.typeIs F.slot_tuple_iterator_next (aat F.slot_tuple_iterator_next b.typeIs F.entry_tuple_iterator_next ?_ (F.args_tuple_iterator_next_1 _)));refine A' (m:=field (.ref j) 0) (aah e d (x:=.ref a) rfl ?_);show wpAny _ _ (if (Value.ref a==Value.none)=true then _ else _) _ _ _;rw[if_neg (by exact Bool.false_ne_true)];refine A' (m:=field (.ref j) 1) (aah e d (x:=.int n 0) rfl ?_);refine A' (m:=seqItems? (.ref a)) (aaH c g ?_);simp only[Int.toNat_natCast,i];refine A' (wpAny_rule (A' (wpAny_setField e d nofun (A' (m:=newExc (.type "StopIteration") []) ?_))));simp only[newExc,newTuple];refine A' (aaC (A' (m:=firstArgMember _ _) (wpAny_of_eq (a:=Value.none) (by first|rfl|(simp only[firstArgMember];rfl)) (aaC ?_ (by size_fits)))) (by size_fits));simp only[raiseNew];refine A' (wpAny_handled ?_)
 first|rw[show A.in1.handled=none from f]|rw[f]
 calc A' (L' (wpAny_throw (q _ _ (((Heap.SameBut.update ..).extBut.push _).push _) ⟨_,T' _ rfl,rfl⟩)))
end
theorem Draws.tup{prog:Program}{w:World}{A:Around}(f:A.handled=none)(j a:Addr)(l:a≠j)(c:Array Value):
  Draws prog w A j [j,a] c.size (λi v=>c[i]?=some v) (λi h=>h.IsTupleIter j a i/\h.IsTuple a c) where
 live:=λ_ _ b=>let ⟨o,d,_⟩:=b.1;⟨o,d⟩
 frame:=λ_ _ _ b k=>⟨b.1.at λo e=>k j nofun o e,b.2.at λo e=>k a nofun o e⟩
 item:=λi s Q E d b q=>qD b.1 b.2 (v:=c[i]) (by simp[d]) λg h e=>q _ g s.toks (by simp[d]) ⟨h,b.2.extBut e.extBut l⟩ e
 done:=λs Q E b q=>rO f b.1 b.2 nofun q
def zO(b:Bool)(h:Heap)(a:Addr)(c:Array Value):Prop:=if b=true then h.IsList a c else h.IsTuple a c
def o7(b:Bool)(h:Heap)(j a:Addr)(n:Nat):Prop:=if b=true then h.IsListIter j a n else h.IsTupleIter j a n
theorem o7.at{b:Bool}{h h':Heap}{n:Nat}(x:o7 b h j a n)(k:∀o,h.get? j=some o->h'.get? j=some o):o7 b h' j a n:=by
 cases b
 ·exact Heap.IsTupleIter.at x k
 ·calc Heap.IsListIter.at x k
theorem o7.obj{b:Bool}{h:Heap}{n:Nat}(x:o7 b h j a n):∃o,h.get? j=some o/\∀v,o.data≠.cell v:=by
 cases b<;>(obtain⟨o,e,c,d⟩:=x;calc⟨o,e,λv z=>by rw[d]at z;cases z⟩)
theorem Draws.sq{prog:Program}{w:World}{A:Around}(d:A.handled=none)(b:Bool)(j a:Addr)(e:a≠j)(c:Array Value):
  Draws prog w A j [j,a] c.size (λi v=>c[i]?=some v) (λi h=>o7 b h j a i/\zO b h a c):=by
 cases b
 ·exact Draws.tup d j a e c
 ·calc Draws.list d j a e c
end PySem
namespace PySem
variable {Q:Option Value->Shared->Prop}
structure ZA(z ti to i1 i2:Addr)(f1 f2:List Addr):Prop where
 a1:ti≠z
 a2:to≠z
 a3:i1≠z
 a4:i2≠z
 a5:ti≠to
 a6:ti≠i1
 a7:ti≠i2
 a8:to≠i1
 a9:to≠i2
 a10:i1≠i2
 b1:z∉f1
 b2:to∉f1
 b3:i2∉f1
 c1:z∉f2
 c2:to∉f2
 c3:i1∉f2
section
variable {prog:Program}{w:World}{A:Around}{E:Value->Shared->Prop}{s:Shared}{z ti to i1 i2:Addr}{f1 f2:List Addr}{n1 n2 k:Nat}{P1 P2:Nat->Value->Prop}{S1 S2:Nat->Heap->Prop}{a b:Value}
theorem Dv{Q:Value->Shared->Prop}(Z:ZA z ti to i1 i2 f1 f2)(B:Draws prog w A i1 f1 n1 P1 S1)(C:Draws prog w A i2 f2 n2 P2 S2)(d:IsZip s.heap z ti to .none)(i:IsPair s.heap ti (.ref i1) (.ref i2))(u:IsPair s.heap to a b)
  (l:S1 k s.heap) (F:S2 k s.heap) (n:k<n1) (G:k<n2)
  (q:∀x y g e,P1 k x->P2 k y->IsZip g z ti to (rawInt s.heap.objs.size)->IsPair g to x y->S1 (k + 1) g->S2 (k + 1) g->IsPair g s.heap.objs.size x y->g.objs.size=s.heap.objs.size + 1->
   (∀c o,c≠z->c≠to->c≠i1->c≠i2->s.heap.get? c=some o->g.get? c=some o)->Q (.ref s.heap.objs.size) {s with heap:=g,toks:=e}):
  wpAny (model prog w) A (Builtin.«zip.__next__» ⟨[.ref z],[]⟩) (λe s'=>∃v,e=.done (.ret v)/\Q v s') E s:=by
 calc A' (m:=field (.ref z) 2) (aah d rfl (x:=.bool false) rfl (A' (m:=field (.ref z) 3) (aah d rfl (x:=.ref ti) rfl ?_)));calc A' (aaH i rfl (A' (m:=Builtin.SmallTypes.ownedTupleIsFree (.ref z)) ?_));unfold Builtin.SmallTypes.ownedTupleIsFree;calc A' (aah d rfl (x:=.none) rfl (L' ?_));simp only[if_true];refine A' (wpAny_rule (A' (aah d rfl (x:=.ref to) rfl (A' (wpAny_setField_rec d nofun λj p r=>?_)))))
 replace p:IsZip j z ti to .ellipsis:=p
 calc A' ?_;simp only[List.zipIdx_cons,List.zipIdx_nil,List.forIn_cons,List.forIn_nil];calc A' (A' (wpAny_onRaise (A' (m:=Builtin.SmallTypes.nextOf (.ref i1)) ?_)));refine B.item k _ _ _ n (B.frame _ _ _ l λc g o e=>r.extBut c o (λh=>Z.b1 (h▸g)) e) λx d l L J i=>L' ?_
 replace i:Heap.SameBut i1 j d:=i
 have l:IsPair d to a b:=i.extBut _ _ Z.a8 (r.extBut _ _ Z.a2 u);refine A' (aaH l rfl (A' (wpAny_updateSeq_pair l λn t j=>A' (wpAny_letGo (L' ?_)))))
 replace t:IsPair n to x b:=t
 replace j:Heap.SameBut to d n:=j
 calc A' (A' (wpAny_onRaise (A' (m:=Builtin.SmallTypes.nextOf (.ref i2)) ?_)));refine C.item k _ _ _ G (C.frame _ _ _ F λc g o e=>j.extBut c o (λh=>Z.c2 (h▸g)) (i.extBut c o (λh=>Z.c3 (h▸g)) (r.extBut c o (λh=>Z.c1 (h▸g)) e))) λy u d M K l=>L' ?_
 replace l:Heap.SameBut i2 n u:=l
 have F:IsPair u to x b:=l.extBut _ _ Z.a9 t;refine A' (aaH F rfl (A' (wpAny_updateSeq_pair F λd v n=>A' (wpAny_letGo (L' (L' ?_))))))
 replace v:IsPair d to x y:=v
 replace n:Heap.SameBut to u d:=n
 calc A' (aaH v rfl (A' (wpAny_newTuple ?_)));have t:d.objs.size=s.heap.objs.size:=by rw[n.1,l.1,j.1,i.1,r.1]
 have u:IsZip d z ti to .ellipsis:=n.extBut _ _ Z.a2.symm (l.extBut _ _ Z.a4.symm (j.extBut _ _ Z.a2.symm (i.extBut _ _ Z.a3.symm p)));have N:∀c o,c≠z->c≠to->c≠i1->c≠i2->s.heap.get? c=some o->d.get? c=some o:=λc o p F G I e=>n.extBut _ _ F (l.extBut _ _ I (j.extBut _ _ F (i.extBut _ _ G (r.extBut _ _ p e))));have O:S1 (k+1) d:=B.frame _ _ _ J λc g o e=>n.extBut c o (λh=>Z.b2 (h▸g)) (l.extBut c o (λh=>Z.b3 (h▸g)) (j.extBut c o (λh=>Z.b2 (h▸g)) e));have P:S2 (k+1) d:=C.frame _ _ _ K λc g o e=>n.extBut c o (λh=>Z.c2 (h▸g)) e;have i:z<d.objs.size:=P' u;refine A' (m:=Builtin.SmallTypes.ownedTupleHandOut (.ref z) (.ref d.objs.size)) ?_;unfold Builtin.SmallTypes.ownedTupleHandOut;have j:IsZip (d.push {cls:=.type "tuple",data:=.seq #[x,y]}) z ti to .ellipsis:=J' _ u;refine A' (wpAny_setField_rec j nofun λn l J=>?_)
 replace l:IsZip n z ti to (rawInt d.objs.size):=l
 refine wpAny_setField_rec l nofun λj n u=>?_
 replace n:IsZip j z ti to (rawInt d.objs.size):=n
 have r:∀c o,c≠z->d.get? c=some o->j.get? c=some o:=λc o p e=>u.extBut _ _ p (J.extBut _ _ p (J' _ e));have K:IsPair j d.objs.size x y:=u.extBut _ _ (Nat.ne_of_gt i) (J.extBut _ _ (Nat.ne_of_gt i) (T' _ rfl));have l:j.objs.size=d.objs.size+1:=by rw[u.1,J.1,Heap.size_push]
 rw[t]at n K l;calc L' ⟨_,rfl,?_⟩;show Q (.ref d.objs.size) _;rw[t];calc q x y j _ L M n (r _ _ Z.a2 v) (B.frame _ _ _ O λc g o e=>r c o (λh=>Z.b1 (h▸g)) e) (C.frame _ _ _ P λc g o e=>r c o (λh=>Z.c1 (h▸g)) e) K l λc o p F G I e=>r c o p (N c o p F G I e)
theorem FZ{Q:Fin->Shared->Prop}(Z:ZA z ti to i1 i2 f1 f2)(I:Draws prog w A i1 f1 n1 P1 S1)(P:Draws prog w A i2 f2 n2 P2 S2)(p:IsZip s.heap z ti to .none)(T:IsPair s.heap ti (.ref i1) (.ref i2))(U:IsPair s.heap to a b)
  (W:S1 k s.heap) (X:S2 k s.heap) (l:k=n1\/(k<n1/\k=n2))
  (q:∀g e Y,(∀c o,c≠z->c≠to->c≠i1->c≠i2->s.heap.get? c=some o->g.get? c=some o)->(∃o,g.get? e=some o/\o.cls=.type "StopIteration")->E (.ref e) {s with heap:=g,toks:=Y}):
  wpAny (model prog w) A (Builtin.«zip.__next__» ⟨[.ref z],[]⟩) Q E s:=by
 calc A' (m:=field (.ref z) 2) (aah p rfl (x:=.bool false) rfl (A' (m:=field (.ref z) 3) (aah p rfl (x:=.ref ti) rfl ?_)));calc A' (aaH T rfl (A' (m:=Builtin.SmallTypes.ownedTupleIsFree (.ref z)) ?_));unfold Builtin.SmallTypes.ownedTupleIsFree;calc A' (aah p rfl (x:=.none) rfl (L' ?_));simp only[if_true];refine A' (wpAny_rule (A' (aah p rfl (x:=.ref to) rfl (A' (wpAny_setField_rec p nofun λJ C r=>?_)))))
 replace C:IsZip J z ti to .ellipsis:=C
 calc A' ?_;simp only[List.zipIdx_cons,List.zipIdx_nil,List.forIn_cons,List.forIn_nil];calc A' (A' (wpAny_onRaise (A' (m:=Builtin.SmallTypes.nextOf (.ref i1)) ?_)));have R:=I.frame _ _ _ W λc t o e=>r.extBut c o (λh=>Z.b1 (h▸t)) e;rcases l with l|⟨l1,l2⟩
 ·subst l;calc I.done _ _ _ R λn x d K=>?_;obtain⟨L,j,u⟩:=K
  replace d:Heap.ExtBut i1 J n:=d
  have S:IsZip n z ti to .ellipsis:=d _ _ Z.a3.symm C;have M:x≠z:=λy=>by subst y;rw[S]at j;cases j;simp at u
  exact wpAny_setField_rec S nofun λF _ i=>q F x s.toks (λc o v _ N _ y=>i.extBut _ _ v (d _ _ N (r.extBut _ _ v y))) ⟨L,i.extBut _ _ M j,u⟩
 ·subst l2;refine I.item k _ _ _ l1 R λx n O g l d=>L' ?_
  replace d:Heap.SameBut i1 J n:=d
  have g:IsPair n to a b:=d.extBut _ _ Z.a8 (r.extBut _ _ Z.a2 U);refine A' (aaH g rfl (A' (wpAny_updateSeq_pair g λF l i=>A' (wpAny_letGo (L' ?_)))))
  replace i:Heap.SameBut to n F:=i
  calc A' (A' (wpAny_onRaise (A' (m:=Builtin.SmallTypes.nextOf (.ref i2)) ?_)));calc P.done _ _ _ (P.frame _ _ _ X λc t o e=>i.extBut c o (λh=>Z.c2 (h▸t)) (d.extBut c o (λh=>Z.c3 (h▸t)) (r.extBut c o (λh=>Z.c1 (h▸t)) e))) λg x G K=>?_;obtain⟨L,j,u⟩:=K
  replace G:Heap.ExtBut i2 F g:=G
  have B:IsZip g z ti to .ellipsis:=G _ _ Z.a4.symm (i.extBut _ _ Z.a2.symm (d.extBut _ _ Z.a3.symm C));have M:x≠z:=λy=>by subst y;rw[B]at j;cases j;simp at u
  calc wpAny_setField_rec B nofun λg _ e=>q g x O (λc o v l N n y=>e.extBut _ _ v (G _ _ n (i.extBut _ _ l (d.extBut _ _ N (r.extBut _ _ v y))))) ⟨L,e.extBut _ _ M j,u⟩
end
section
variable {prog:Program}{w:World}{A:Around}{E:Value->Shared->Prop}{s:Shared}{z ti to i1 i2:Addr}{f1 f2:List Addr}{n1 n2 k:Nat}{P1 P2:Nat->Value->Prop}{S1 S2:Nat->Heap->Prop}{a b:Value}
theorem ub(Z:ZA z ti to i1 i2 f1 f2)(f:Draws prog w A.in1 i1 f1 n1 P1 S1)(h:Draws prog w A.in1 i2 f2 n2 P2 S2)(e:IsZip s.heap z ti to .none)(i:IsPair s.heap ti (.ref i1) (.ref i2))(j:IsPair s.heap to a b)
  (l:S1 k s.heap) (m:S2 k s.heap) (n:k<n1) (p:k<n2)
  (q:∀x y g d,P1 k x->P2 k y->IsZip g z ti to (rawInt s.heap.objs.size)->IsPair g to x y->S1 (k + 1) g->S2 (k + 1) g->IsPair g s.heap.objs.size x y->g.objs.size=s.heap.objs.size + 1->
   (∀c o,c≠z->c≠to->c≠i1->c≠i2->s.heap.get? c=some o->g.get? c=some o)->Q (some (.ref s.heap.objs.size)) {s with heap:=g,toks:=d}):
  wpAny (model prog w) A (pyNext (.ref z)) Q E s:=by
 have c:s.TypeIs (.ref z) "zip":=⟨_,e,rfl⟩
 unfold pyNext;exact A' (wpAny_attempt (aaq (name:=Str.ofString "__next__") c F.slot_zip_next (aat F.slot_zip_next c F.entry_zip_next
  (Dv Z f h e i j l m n p λx y g d c o r t u v B C D=>L' (q x y g d c o r t u v B C D)) (F.args_zip_next_1 _))))
theorem vZ(Z:ZA z ti to i1 i2 f1 f2)(h:Draws prog w A.in1 i1 f1 n1 P1 S1)(i:Draws prog w A.in1 i2 f2 n2 P2 S2)(d:IsZip s.heap z ti to .none)(j:IsPair s.heap ti (.ref i1) (.ref i2))(m:IsPair s.heap to a b)
  (n:S1 k s.heap) (p:S2 k s.heap) (l:k=n1\/(k<n1/\k=n2))
  (q:∀g f,(∀c o,c≠z->c≠to->c≠i1->c≠i2->s.heap.get? c=some o->g.get? c=some o)->Q none {s with heap:=g,toks:=f}):wpAny (model prog w) A (pyNext (.ref z)) Q E s:=by
 have c:s.TypeIs (.ref z) "zip":=⟨_,d,rfl⟩
 unfold pyNext;refine A' (wpAny_attempt (aaq (name:=Str.ofString "__next__") c F.slot_zip_next (aat F.slot_zip_next c F.entry_zip_next
  (FZ Z h i d j m n p l λg e f c ⟨o,r,t⟩=>?_) (F.args_zip_next_1 _))))
 calc A' (wpAny_isInstance (T:="StopIteration") (b:=true) ⟨o,r,t⟩ isSubtype_stop (L' (q _ _ c)))
end
def Jy(b:Bool)(a:Addr):Obj:=if b=true then {cls:=.type "list_iterator",data:=.fields #[.ref a,.int 0 0]} else {cls:=.type "tuple_iterator",data:=.fields #[.ref a,.int 0 0]}
abbrev Xa(h:Heap)(b:Bool)(l:Addr):Heap:=h.push (Jy b l)
abbrev Xb(h:Heap)(b c:Bool)(l m:Addr):Heap:=(Xa h b l).push (Jy c m)
abbrev Xc(h:Heap)(b c:Bool)(l m:Addr):Heap:=(Xb h b c l m).push {cls:=.type "tuple",data:=.seq #[.ref h.objs.size,.ref (Xa h b l).objs.size]}
abbrev Xd(h:Heap)(b c:Bool)(l m:Addr):Heap:=(Xc h b c l m).push {cls:=.type "tuple",data:=.seq #[.none,.none]}
abbrev O6(h:Heap)(b c:Bool)(l m:Addr):Heap:=(Xd h b c l m).push {cls:=.type "zip",data:=.fields #[.none,.bool false,.bool false,.ref (Xb h b c l m).objs.size,.ref (Xc h b c l m).objs.size]}
theorem Dw(b c:Bool)(l m:Addr)(xs ys:Array Value):
  Meets (Builtin.«zip.__new__» ⟨[.type "zip",.ref l,.ref m],[]⟩) (λ_ R s=>zO b s.heap l xs/\zO c s.heap m ys/\R (.ok (.ret (.ref (Xd s.heap b c l m).objs.size))) {s with heap:=O6 s.heap b c l m}):=
 .of_wp λk w A R s h=>by
  obtain⟨a,g,d,e,f⟩:=s;obtain⟨i,j,h⟩:=h;have k:=sub_zip
  cases b<;>cases c
  ·have b:Heap.IsTuple (Shared.heap ⟨a,g,d,e,f⟩) l xs:=i;have L2:Heap.IsTuple (Shared.heap ⟨a.push {cls:=.type "tuple_iterator",data:=.fields #[.ref l,.int 0 0]},g,d,e,f⟩) m ys:=Heap.IsTuple.push j _;wp_walk using aan b,aan L2;exact⟨_,rfl,h⟩
  ·have b:Heap.IsTuple (Shared.heap ⟨a,g,d,e,f⟩) l xs:=i;have L2:Heap.IsList (Shared.heap ⟨a.push {cls:=.type "tuple_iterator",data:=.fields #[.ref l,.int 0 0]},g,d,e,f⟩) m ys:=Heap.IsList.push j _;wp_walk using aan b,wpAny_pyIter_list L2;exact⟨_,rfl,h⟩
  ·have b:Heap.IsList (Shared.heap ⟨a,g,d,e,f⟩) l xs:=i;have L2:Heap.IsTuple (Shared.heap ⟨a.push {cls:=.type "list_iterator",data:=.fields #[.ref l,.int 0 0]},g,d,e,f⟩) m ys:=Heap.IsTuple.push j _;wp_walk using wpAny_pyIter_list b,aan L2;exact⟨_,rfl,h⟩
  ·have b:Heap.IsList (Shared.heap ⟨a,g,d,e,f⟩) l xs:=i;have L2:Heap.IsList (Shared.heap ⟨a.push {cls:=.type "list_iterator",data:=.fields #[.ref l,.int 0 0]},g,d,e,f⟩) m ys:=Heap.IsList.push j _;wp_walk using wpAny_pyIter_list b,wpAny_pyIter_list L2;exact⟨_,rfl,h⟩
theorem rP(b:Bool)(a:Addr):(Jy b a).isFreed=false:=by cases b<;>rfl
theorem zP{b:Bool}{h:Heap}{j a:Addr}(e:h.get? j=some (Jy b a)):o7 b h j a 0:=by
 cases b
 ·exact⟨_,e,rfl,rfl⟩
 ·calc⟨_,e,rfl,rfl⟩
theorem F0{prog:Program}{w:World}{A:Around}{E:Value->Shared->Prop}{s:Shared}{b c:Bool}{l m:Addr}{xs ys:Array Value}{Q:Value->Shared->Prop}(f:zO b s.heap l xs)(h:zO c s.heap m ys)
  (q:∀g,IsZip g (s.heap.objs.size + 4) (s.heap.objs.size + 2) (s.heap.objs.size + 3) .none->IsPair g (s.heap.objs.size + 2) (.ref s.heap.objs.size) (.ref (s.heap.objs.size + 1))->
   IsPair g (s.heap.objs.size+3) .none .none->o7 b g s.heap.objs.size l 0->o7 c g (s.heap.objs.size+1) m 0->g.objs.size=s.heap.objs.size+5->
   (∀d o,s.heap.get? d=some o->g.get? d=some o)->Q (.ref (s.heap.objs.size + 4)) {s with heap:=g}):
  wpAny (model prog w) A (call (.type "zip") [.ref l,.ref m]) Q E s:=by
 calc callType_new F.called_zip ∅ (F.typeCall_zip_2 _ _) (F.newCall_zip_2 _ _) (λa=>F.args_object_init_3 a _ _) F.entry_zip_new (Dw b c l m xs ys) ⟨f,h,?_⟩;have e:(Xa s.heap b l).objs.size=s.heap.objs.size+1:=Heap.size_push ..;have a:(Xb s.heap b c l m).objs.size=s.heap.objs.size+2:=by rw[Heap.size_push,e]
 have f:(Xc s.heap b c l m).objs.size=s.heap.objs.size+3:=by rw[Heap.size_push,a]
 have g:(Xd s.heap b c l m).objs.size=s.heap.objs.size+4:=by rw[Heap.size_push,f]
 have n:(O6 s.heap b c l m).objs.size=s.heap.objs.size+5:=by rw[Heap.size_push,g]
 have h:(O6 s.heap b c l m).get? (Xd s.heap b c l m).objs.size=some _:=T' _ rfl;have i:(O6 s.heap b c l m).get? (Xc s.heap b c l m).objs.size=some _:=J' _ (T' _ rfl);have j:(O6 s.heap b c l m).get? (Xb s.heap b c l m).objs.size=some _:=J' _ (J' _ (T' _ rfl));have k:(O6 s.heap b c l m).get? (Xa s.heap b l).objs.size=some (Jy c m):=J' _ (J' _ (J' _ (T' _ (rP ..))));have p:(O6 s.heap b c l m).get? s.heap.objs.size=some (Jy b l):=J' _ (J' _ (J' _ (J' _ (T' _ (rP ..)))));show _/\_;rw[a,f,g]at h;rw[e,a]at j;rw[f]at i;rw[e]at k;rw[g];calc⟨⟨_,h,rfl⟩,q _ h j i (zP p) (zP k) n λd o x=>J' _ (J' _ (J' _ (J' _ (J' _ x))))⟩
theorem rQ(l:Addr)(e:Array Value):
  Meets (Builtin.«enumerate.__new__» ⟨[.type "enumerate",.ref l],[]⟩) (λ_ R s=>s.heap.IsTuple l e/\
   R (.ok (.ret (.ref (s.heap.push (Jy false l)).objs.size))) {s with heap:=(s.heap.push (Jy false l)).push {cls:=.type "enumerate",data:=.fields #[.none,.bool false,.ref s.heap.objs.size,rawInt 0,.none,.none]}}):=
 .of_wp λf w A R s h=>by
  obtain⟨i,g,d,k,m⟩:=s;obtain⟨j,h⟩:=h;have p:=sub_enumerate;have b:Heap.IsTuple (Shared.heap ⟨i,g,d,k,m⟩) l e:=j;obtain⟨n,a,q,r,o⟩:=id j
  replace a:i.get? l=some n:=a
  wp_walk using AutoSeq1.wpAny_loadPart' a;calc wpAny_stack_any λt=>L' ?_;split
  ·rename_i c _ _ _ _ _
   cases(c==Value.type "enumerate")
   ·wp_walk using AutoSeq1.wpAny_loadPart' a,aan b;exact⟨_,rfl,h⟩
   ·wp_walk using AutoSeq1.wpAny_loadPart' a,aan b;exact⟨_,rfl,h⟩
  ·wp_walk using AutoSeq1.wpAny_loadPart' a,aan b;calc⟨_,rfl,h⟩
end PySem
namespace L2
open PySem PySem.Spec PyProof.Rows
section
variable {a:Addr}{xs:List V}
section
variable {X:Cx}{pins:List (Addr×Obj)}{σ:St}{H:Hp}{s:Shared}
theorem Inv.Bu{t':Nat}{ch:List Addr}{h':Heap}(I:Inv X pins σ H s)(d:∀b∈ch,oU X pins H b)(k:∀b o,b∉ch->s.heap.get? b=some o->h'.get? b=some o):Inv X pins σ H {s with heap:=h',toks:=t'}:=by
 have f:∀b u,H b=some u->b∉ch:=λb u e z=>by rw[(d b z).1]at e;cases e
 refine I.step (g':=s.gens) (d':=s.drawn) (ch:=ch) (λb g=>?_) (λb o _ _ a e _=>k b o a e) (λb o _ _ a e _=>⟨o.slots,k b o a e⟩) (λ_ _ _ _ n=>n) (λb o a e=>⟨o,k b o a e⟩) (λ_ _ e=>e) (λ_ _ _ e=>e) (λb h e=>⟨#[],by rw[e];simp⟩) (λm h=>?_) (λb u e=>?_) I.bare
 ·obtain⟨n,i,p,j,l,m⟩:=d b g;exact⟨j,i,l,m⟩
 ·obtain⟨o,g,i,j,r⟩:=h;exact⟨o,g,i,k _ o (λz=>(d _ z).2.1 rfl) j,r⟩
 ·calc(I.aU b u e).aK (λc v a q=>k c v ?_ q) (λ_ q=>q) λ_ _ q=>q;rcases a with z | z
  ·rw[z];exact f b u e
  ·calc f c _ z
theorem Inv.Bv{t':Nat}{ch:List Addr}{h':Heap}{T:Addr}{g:List Value}(I:Inv X pins σ H s)(h:∀b∈ch,oU X pins H b)(k:∀b o,b∉ch->s.heap.get? b=some o->h'.get? b=some o)
  (i:s.heap.objs.size<=T) (l:Vals xs g) (p:xs.length<=sizeLine) (q:IsTup h' T g.toArray):Inv X pins σ (upd H T (.tup xs)) {s with heap:=h',toks:=t'}:=by
 have j:∀b u,H b=some u->b∉ch:=λb u e z=>by rw[(h b z).1]at e;cases e
 have d:H T=none:=I.aU.fresh i;have m:∀b o,s.heap.get? b=some o->b≠T:=λb o e=>W' (R' (P' e) i);refine I.step (g':=s.gens) (d':=s.drawn) (ch:=ch) (λb f=>?_) (λb o _ _ a e _=>k b o a e) (λb o _ _ a e _=>⟨o.slots,k b o a e⟩) (λb o _ e n=>by rw[ax (m b o e)];calc n) (λb o a e=>⟨o,k b o a e⟩)
  (λb t e=>by rw[ax (ao e d)];calc e) (λb o u e=>by rw[ax (ao e d)];calc e) (λb i e=>⟨#[],by rw[ax (ao e d),e];simp⟩) (λm i=>?_) (λb u e=>?_) I.bare
 ·obtain⟨w,m,x,n,r,v⟩:=h b f;exact⟨n,m,r,v⟩
 ·obtain⟨o,m,n,v,r⟩:=i;exact⟨o,m,n,k _ o (λz=>(h _ z).2.1 rfl) v,r⟩
 ·by_cases f:b=T
  ·subst f;rw[ab] at e
   cases e;exact⟨p,g,l,q⟩
  ·rw[ax f] at e;refine(I.aU b u e).aK (λc v a q=>k c v ?_ q) (λc q=>by rw[ax (ao q d)];calc q) λc t q=>by rw[ax (ao q d)];exact q
   rcases a with z|z
   ·rw[z];exact j b u e
   ·calc j c _ z
def Sq(b:Bool)(K:W.Frag)(H:Hp)(a:Addr)(xs:List V):Prop:=if b=true then aN K H a xs else bL K H a xs
theorem Sq.l{K:W.Frag}(h:H a=some (.lst xs)):Sq true K H a xs:=aN.of h
theorem Sq.t{K:W.Frag}(h:H a=some (.tup xs)):Sq false K H a xs:=bL.of h
theorem Inv.sq(I:Inv X pins σ H s){b:Bool}{a:Addr}{xs:List V}(h:Sq b X.K H a xs):∃c:List Value,Vals xs c/\zO b s.heap a c.toArray/\xs.length<=sizeLine:=by
 cases b
 ·exact I.tuple h
 ·obtain⟨c,r,p,z⟩:=I.list h;calc⟨c,r,p.isList,z⟩
theorem Inv.zQ(I:Inv X pins σ H s){b:Bool}{a:Addr}{xs ys:List V}(h:Sq b X.K H a xs)(h':Sq b X.K H a ys):xs=ys:=by
 cases b
 ·exact I.uB h h'
 ·calc I.xj h h'
theorem Mu{u:HO}{b:Addr}(h:Rd H a u)(c:H b=none):a≠b:=λz=>by
 subst z;rcases h with h|⟨o,h⟩<;>(rw[c]at h;cases h)
theorem Inv.rR(I:Inv X pins σ H s){b:Bool}{a c:Addr}{xs:List V}(h:Sq b X.K H a xs)(f:oU X pins H c):a≠c:=by
 have d:∀o,X.K.lookup a=some o->a≠c:=λo e z=>by
  subst z;have i:=I.ok.mod.Rl a o e;rcases f.2.2.2.1 with y|y
  ·exact I.ok.zo a o i y
  ·exact absurd (R' (R' (P' i) I.ok.EG) y) (aam _)
 cases b
 ·rcases h with h | ⟨o,j,n,g,_⟩
  ·exact Mu h f.1
  ·exact d o g
 ·rcases h with h | ⟨o,j,n,g,_⟩
  ·exact Mu h f.1
  ·calc d o g
end
end
section
def KN(b:Bool)(K:W.Frag)(a:Addr):It:=
 ⟨λi H=>∃xs x,Sq b K H a xs/\xs[i]?=some x,λi H y c=>∃T,H T=none/\y=.ref T/\∀xs,Sq b K H a xs->∃x,xs[i]?=some x/\c=upd H T (.tup [.int i,x]),λi H=>∃xs,Sq b K H a xs/\xs.length=i⟩
def TN(b c:Bool)(K:W.Frag)(a d:Addr):It:=
  ⟨λi H=>∃xs ys x y,Sq b K H a xs/\Sq c K H d ys/\xs[i]?=some x/\ys[i]?=some y,λi H v e=>∃T,H T=none/\v=.ref T/\∀xs ys,Sq b K H a xs->Sq c K H d ys->∃x y,xs[i]?=some x/\ys[i]?=some y/\e=upd H T (.tup [x,y]),
   λi H=>∃xs ys,Sq b K H a xs/\Sq c K H d ys/\(i=xs.length\/(i < xs.length/\i=ys.length))⟩
theorem xK{a b:V}:([a,b]:List V).length<=sizeLine:=by show 2<=sizeLine;decide
theorem v7{a:List Value}{i:Nat}{u:Value}(h:a[i]?=some u):i<a.toArray.size:=by
 have:=(List.getElem?_eq_some_iff.mp h).1;simpa using this
theorem Dx{P:Program}{w:World}{K:W.Frag}{k:List Expr}{u:Nat}{v:Pos}(b:Bool)(e j a:Addr)(J:e≠j):
  Turn P w K (.Tuple k u v) (KN b K a) [e,j] e (λi h=>(∃d,IsEnum h e j i d)/\o7 b h j a i) where
 mem:=by simp
 obj:=λi h l c t=>by
  obtain⟨⟨d,g⟩,m⟩:=l;simp only[List.mem_cons,List.not_mem_nil,or_false]at t;rcases t with rfl|rfl
  ·exact⟨_,g,λv z=>by
    have z':Data.fields _=Data.cell v:=z
    cases z'⟩
  ·exact m.obj
 keep:=λi h h' l k=>by
  obtain⟨⟨d,g⟩,m⟩:=l;exact⟨⟨d,k e nofun _ g⟩,m.at λo q=>k j nofun o q⟩
 item:=by
  intro X L M N t i B s σ H E I n l O;subst L M N;obtain⟨⟨d,g⟩,m⟩:=l;obtain⟨xs,x,r,R⟩:=O;obtain⟨C,S,p,hz⟩:=I.sq r;obtain⟨u,k,ru⟩:=S.get R;have v:a≠e:=I.rR r (n e nofun);have T:a≠j:=I.rR r (n j nofun);have D:=Draws.sq (prog:=X.prog) (w:=X.w) (A:=X.A.in1) (show X.A.in1.handled=none from I.ok.hd t) b j a T C.toArray;calc wpAny_pyNext_enum_itemD D g ⟨m,p⟩ (v7 k) J (by simp[J,Ne.symm v]) λy P Z K ho s1 hT sz U=>?_;have ey:y=u:=by
   have:C.toArray[i]?=some u:=by simpa using k
   exact Option.some.inj (K.symm.trans this)
  subst ey;calc⟨_,rfl,wpAny_letOwnedTupleGo_enum ho λv k u=>?_⟩;have K:∀c o,c ∉ [e,j]->s.heap.get? c=some o->v.get? c=some o:=λc o F q=>(u.2 c λz=>F (by simp[z])).trans (U c o (λz=>F (by simp[z])) (λz=>F (by simp[z])) q);have G:s.heap.objs.size≠e:=Nat.ne_of_gt (P' g);have e:IsTup v s.heap.objs.size ([.int i Z,y]:List Value).toArray:=⟨_,(u.2 _ G).trans hT,rfl,_,rfl⟩
  have v:H s.heap.objs.size=none:=I.aU.fresh (E' _);refine⟨.ref s.heap.objs.size,upd H s.heap.objs.size (.tup [.int i,x]),I.Bv n K (E' _) (.cons ⟨Z,rfl⟩ (.cons ru .nil)) xK e,rfl,⟨_,v,rfl,λys P=>⟨x,by rw[I.zQ P r];calc R,rfl⟩⟩,⟨⟨y,?_⟩,?_⟩,λc Y=>?_⟩
  ·simpa using k
  ·exact s1.1.at λo q=>(u.2 j (Ne.symm J)).trans q
  ·have tN:c≠s.heap.objs.size:=by
    simp only[List.mem_cons,List.not_mem_nil,or_false]at Y;rcases Y with rfl|rfl
    ·exact Ne.symm G
    ·obtain⟨o,e,_⟩:=m.obj;exact W' (P' e)
   rw[ax tN];exact(n c Y).1
 done:=by
  intro X L M N t i B s σ H E I n l O;subst L M N;obtain⟨⟨d,g⟩,m⟩:=l;obtain⟨xs,r,R⟩:=O;obtain⟨C,S,p,hz⟩:=I.sq r;have T:a≠j:=I.rR r (n j nofun);have D:=Draws.sq (prog:=X.prog) (w:=X.w) (A:=X.A.in1) (show X.A.in1.handled=none from I.ok.hd t) b j a T C.toArray;have e:C.toArray.size=i:=by have:=S.length;simp;lia
  refine wpAny_pyNext_enum_endD D g (by rw[e];calc⟨m,p⟩) λh' U=>⟨rfl,I.Bu (t':=s.toks) n λc o F q=>U c o (λz=>F (by simp[z])) q⟩
 self:=λ_ _ _ _ _ l h=>by
  obtain⟨⟨d,g⟩,m⟩:=l;calc wpAny_pyIter_enum g h
theorem Dy{prog:Program}{w:World}{A:Around}{E:Value->Shared->Prop}{s:Shared}{b:Bool}{l:Addr}{d:Array Value}{Q:Value->Shared->Prop}(e:zO b s.heap l d)
  (q:∀g,IsEnum g (s.heap.objs.size+1) s.heap.objs.size 0 .none->o7 b g s.heap.objs.size l 0->g.objs.size=s.heap.objs.size+2->(∀c o,s.heap.get? c=some o->g.get? c=some o)->Q (.ref (s.heap.objs.size+1)) {s with heap:=g}):
  wpAny (model prog w) A (call (.type "enumerate") [.ref l]) Q E s:=by
 cases b
 ·refine callType_new F.called_enumerate ∅ (F.typeCall_enumerate_1 _) (F.newCall_enumerate_1 _) (λa=>F.args_object_init_2 a _) F.entry_enumerate_new (rQ l d) ⟨e,?_⟩;have b:(s.heap.push (Jy false l)).objs.size=s.heap.objs.size+1:=Heap.size_push ..;show _/\_;rw[b];have a:=T' (s.heap.push (Jy false l)) (o:={cls:=.type "enumerate",data:=.fields #[.none,.bool false,.ref s.heap.objs.size,rawInt 0,.none,.none]}) rfl;rw[b]at a;refine⟨⟨_,a,rfl⟩,q _ a (zP (J' _ (T' _ (rP ..)))) (by rw[Heap.size_push,b]) λc o x=>J' _ (J' _ x)⟩
 ·calc call_enumerate_list e q
theorem m5{z a b c d:Addr}:z ∈ [z,a,b,c,d]/\a ∈ [z,a,b,c,d]/\b ∈ [z,a,b,c,d]/\c ∈ [z,a,b,c,d]/\d ∈ [z,a,b,c,d]:=⟨.head _,.tail _ (.head _),.tail _ (.tail _ (.head _)),.tail _ (.tail _ (.tail _ (.head _))),.tail _ (.tail _ (.tail _ (.tail _ (.head _))))⟩
theorem in5{z a b c d e:Addr}{P:Addr->Prop}(f:e ∈ [z,a,b,c,d])(g:P z)(h:P a)(i:P b)(j:P c)(k:P d):P e:=by
 simp only[List.mem_cons,List.not_mem_nil,or_false]at f;rcases f with rfl|rfl|rfl|rfl|rfl<;>assumption
theorem no5{z a b c d e:Addr}(f:e ∉ [z,a,b,c,d]):e≠z/\e≠a/\e≠b/\e≠c/\e≠d:=by
 simpa only[List.mem_cons,List.not_mem_nil,or_false,not_or] using f
theorem nd5{z a b c d:Addr}(N:[z,a,b,c,d].Nodup):(z≠a/\z≠b/\z≠c/\z≠d)/\(a≠b/\a≠c/\a≠d)/\(b≠c/\b≠d)/\c≠d:=by
 simpa only[List.nodup_cons,List.mem_cons,List.not_mem_nil,or_false,not_or,List.nodup_nil,not_false_eq_true,and_true] using N
theorem Eu{x i a:Addr}(b:x≠i)(c:x≠a):x ∉ [i,a]:=by simp[b,c]
theorem F1{l:List Value}{i:Nat}{u x:Value}(h:l[i]?=some u)(g:l.toArray[i]?=some x):x=u:=by
 have:l.toArray[i]?=some u:=by simpa using h
 calc Option.some.inj (g.symm.trans this)
theorem F2{P:Program}{w:World}{K:W.Frag}{es:List Expr}{kt:Nat}{tp:Pos}(b c:Bool)(z r m g j a d:Addr)(N:[z,r,m,g,j].Nodup):
  Turn P w K (.Tuple es kt tp) (TN b c K a d) [z,r,m,g,j] z (λi h=>IsZip h z r m .none/\IsPair h r (.ref g) (.ref j)/\(∃u v,IsPair h m u v)/\o7 b h g a i/\o7 c h j d i) where
 mem:=m5.1
 obj:=λi h t e l=>by
  obtain⟨G,B,⟨u,v,J⟩,L,M⟩:=t;refine in5 (P:=λe=>∃o,h.get? e=some o/\∀v,o.data≠.cell v) l ⟨_,G,λv z=>?_⟩ ⟨_,B,λv z=>?_⟩ ⟨_,J,λv z=>?_⟩ L.obj M.obj
  ·have k:Data.fields _=Data.cell v:=z
   cases k
  ·have k:Data.seq _ _=Data.cell v:=z
   cases k
  ·have k:Data.seq _ _=Data.cell v:=z
   cases k
 keep:=λi h h' t k=>by
  obtain⟨G,B,⟨u,v,J⟩,L,M⟩:=t;exact⟨k z m5.1 _ G,k r m5.2.1 _ B,⟨u,v,k m m5.2.2.1 _ J⟩,L.at λo q=>k g m5.2.2.2.1 o q,M.at λo q=>k j m5.2.2.2.2 o q⟩
 item:=by
  intro X hP hw hK hc i Y s σ H E I O t hg;subst hP hw hK;obtain⟨G,B,⟨u0,v0,J⟩,L,M⟩:=t;obtain⟨xs,ys,x,y,S,hr,hx,hy⟩:=hg;obtain⟨aP,rv,p,hz⟩:=I.sq S;obtain⟨Xe,rt,pt,Xf⟩:=I.sq hr;obtain⟨u,k,ru⟩:=rv.get hx;obtain⟨v,n,rv'⟩:=rt.get hy;have C:∀e ∈ [z,r,m,g,j],e≠a:=λe l=>Ne.symm (I.rR S (O e l));have F:∀e ∈ [z,r,m,g,j],e≠d:=λe l=>Ne.symm (I.rR hr (O e l));obtain⟨⟨n1,n2,T,U⟩,⟨n5,n6,n7⟩,⟨n8,n9⟩,R⟩:=nd5 N;have hh:X.A.in1.handled=none:=I.ok.hd hc;have D1:=Draws.sq (prog:=X.prog) (w:=X.w) (A:=X.A.in1) hh b g a (Ne.symm (C g m5.2.2.2.1)) aP.toArray;have D2:=Draws.sq (prog:=X.prog) (w:=X.w) (A:=X.A.in1) hh c j d (Ne.symm (F j m5.2.2.2.2)) Xe.toArray;have Z:ZA z r m g j [g,a] [j,d]:=⟨Ne.symm n1,Ne.symm n2,Ne.symm T,Ne.symm U,n5,n6,n7,n8,n9,R,Eu T (C z m5.1),Eu n8 (C m m5.2.2.1),Eu (Ne.symm R) (C j m5.2.2.2.2),Eu U (F z m5.1),Eu n9 (F m m5.2.2.1),Eu R (F g m5.2.2.2.1)⟩
  calc ub Z D1 D2 G B J ⟨L,p⟩ ⟨M,pt⟩ (v7 k) (v7 n) λx' y' h1 tk K py FX YS s1 s2 hT sz kk=>?_;have ex:x'=u:=F1 k K;have ey:y'=v:=F1 n py;subst ex ey;calc⟨_,rfl,wpAny_letOwnedTupleGo_zip FX λu v k=>?_⟩;have K:∀e o,e ∉ [z,r,m,g,j]->s.heap.get? e=some o->u.get? e=some o:=λe o l q=>
   have n:=no5 l;(k.2 e n.1).trans (kk e o n.1 n.2.2.1 n.2.2.2.1 n.2.2.2.2 q)
  have n:s.heap.objs.size≠z:=Nat.ne_of_gt (P' G);have Mv:IsTup u s.heap.objs.size ([x',y']:List Value).toArray:=⟨_,(k.2 _ n).trans hT,rfl,_,rfl⟩
  have u:H s.heap.objs.size=none:=I.aU.fresh (E' _);refine⟨.ref s.heap.objs.size,upd H s.heap.objs.size (.tup [x,y]),I.Bv O K (E' _) (.cons ru (.cons rv' .nil)) xK Mv,rfl,
   ⟨_,u,rfl,λK Mw O9 Tn=>⟨x,y,by rw[I.zQ O9 S];calc hx,by rw[I.zQ Tn hr];calc hy,rfl⟩⟩,⟨v,?_,⟨_,_,(k.2 m (Ne.symm n2)).trans YS⟩,s1.1.at λo q=>(k.2 g (Ne.symm T)).trans q,s2.1.at λo q=>(k.2 j (Ne.symm U)).trans q⟩,λe l=>?_⟩
  ·exact(k.2 r (Ne.symm n1)).trans (kk r _ (Ne.symm n1) n5 n6 n7 B)
  ·have u:e≠s.heap.objs.size:=in5 (P:=λe=>e≠s.heap.objs.size) l (Ne.symm n) (W' (P' B)) (W' (P' J)) (let ⟨_,k,_⟩:=L.obj;W' (P' k)) (let ⟨_,k,_⟩:=M.obj;W' (P' k));rw[ax u];exact(O e l).1
 done:=by
  intro X hP hw hK hc i Y s σ H E I O t hg;subst hP hw hK;obtain⟨G,B,⟨u0,v0,J⟩,L,M⟩:=t;obtain⟨xs,ys,S,hr,hx⟩:=hg;obtain⟨aP,rv,p,hz⟩:=I.sq S;obtain⟨Xe,rt,pt,Xf⟩:=I.sq hr;have C:∀e ∈ [z,r,m,g,j],e≠a:=λe l=>Ne.symm (I.rR S (O e l));have F:∀e ∈ [z,r,m,g,j],e≠d:=λe l=>Ne.symm (I.rR hr (O e l));obtain⟨⟨n1,n2,T,U⟩,⟨n5,n6,n7⟩,⟨n8,n9⟩,R⟩:=nd5 N;have hh:X.A.in1.handled=none:=I.ok.hd hc;have D1:=Draws.sq (prog:=X.prog) (w:=X.w) (A:=X.A.in1) hh b g a (Ne.symm (C g m5.2.2.2.1)) aP.toArray;have D2:=Draws.sq (prog:=X.prog) (w:=X.w) (A:=X.A.in1) hh c j d (Ne.symm (F j m5.2.2.2.2)) Xe.toArray;have Z:ZA z r m g j [g,a] [j,d]:=⟨Ne.symm n1,Ne.symm n2,Ne.symm T,Ne.symm U,n5,n6,n7,n8,n9,R,Eu T (C z m5.1),Eu n8 (C m m5.2.2.1),Eu (Ne.symm R) (C j m5.2.2.2.2),Eu U (F z m5.1),Eu n9 (F m m5.2.2.1),Eu R (F g m5.2.2.2.1)⟩
  have a:=rv.length;have a:=rt.length;exact vZ Z D1 D2 G B J ⟨L,p⟩ ⟨M,pt⟩ (by simp only[List.size_toArray];lia) λh' tk kk=>⟨rfl,I.Bu O λe o l q=>kk e o (λw=>l (by simp[w])) (λw=>l (by simp[w])) (λw=>l (by simp[w])) (λw=>l (by simp[w])) q⟩
 self:=λ_ _ _ _ _ t h=>wpAny_pyIter_zip t.1 h
section
variable {X:Cx}
def F3(K:W.Frag)(a:TA):TI:=λσ H R=>a σ H λvs c=>match vs with
 | [.ref a]=>∃b xs,Sq b K c a xs/\R (KN b K a) c
 |_=>False
def Pa(K:W.Frag)(a:TA):TI:=λσ H R=>a σ H λvs e=>match vs with
 | [.ref a,.ref d]=>∃b c xs ys,Sq b K e a xs/\Sq c K e d ys/\R (TN b c K a d) e
 |_=>False
theorem fG{l:List Expr}{m:Nat}{n:Pos}{a:Expr}{h:TA}{p d:Pos}(o:Gl X "enumerate")(t:X.mg "enumerate"=none)(u:PA X [a] h)(v:starEach [a] X.env=[(false,eval a X.env)]:=by rfl):
  PI X (.Tuple l m n) (.Call (.Name "enumerate" p) [a] [] d) (F3 X.K h):=by
 calc⟨?_⟩;intro c s σ H R I h;calc Call_ (oT I o t boot_enumerate (PyProof.Rows.callWith_type1 (dq (u d c s σ H _ I h) λm e l=>?_) (by rw[v];rfl) rfl));obtain⟨h,i,f,g,d⟩:=l
 match h,g,d with
 | [.ref a],g,d=>
  obtain⟨b,h,w,q⟩:=d
  cases g with
  |cons r x=>
   cases x
   cases r;obtain⟨d,g,p,h⟩:=f.sq w;calc Dy p λg d h m l=>wpAny_pyIter_enum d ?_;have m:Inv X c σ i {e with heap:=g}:=f.kept (t':=e.toks) l;calc⟨_,[e.heap.objs.size+1,e.heap.objs.size],_,_,i,rfl,m,Dx b _ _ a (Nat.succ_ne_self _),⟨⟨_,d⟩,h⟩,λc j=>?_,q⟩;have k:e.heap.objs.size<=c:=by
    simp only[List.mem_cons,List.not_mem_nil,or_false]at j;rcases j with rfl|rfl
    ·exact Nat.le_succ _
    ·exact E' _
   calc f.ET k (f.aU.fresh k)
theorem zR{s:List Expr}{t:Nat}{u:Pos}{a b:Expr}{h:TA}{p g:Pos}(v:Gl X "zip")(w:X.mg "zip"=none)(x:PA X [a,b] h)(y:starEach [a,b] X.env=[(false,eval a X.env),(false,eval b X.env)]:=by rfl)(l:starEach [b] X.env=[(false,eval b X.env)]:=by rfl):
  PI X (.Tuple s t u) (.Call (.Name "zip" p) [a,b] [] g) (Pa X.K h):=by
 calc⟨?_⟩;intro e s σ H R I h;calc Call_ (oT I v w boot_zip (PyProof.Rows.callWith_type1 (dq (x g e s σ H _ I h) λt f p=>?_) (by rw[y,l]) (by rw[l];rfl)));obtain⟨h,m,i,j,g⟩:=p
 match h,j,g with
 | [.ref a,.ref d],j,g=>
  obtain⟨b,c,h,l,z,A,q⟩:=g
  cases j with
  |cons r k=>
   cases k with
   |cons B k=>
    cases k
    cases r
    cases B;obtain⟨g,h,j,k⟩:=i.sq z;obtain⟨g,h,k,l⟩:=i.sq A;calc F0 j k λg h l p r s u t=>wpAny_pyIter_zip h ?_;have j:Inv X e σ m {f with heap:=g}:=i.kept (t':=f.toks) t;refine⟨_,[f.heap.objs.size+4,f.heap.objs.size+2,f.heap.objs.size+3,f.heap.objs.size,f.heap.objs.size+1],_,_,m,rfl,j,F2 b c _ _ _ _ _ a d ?_,⟨h,l,⟨_,_,p⟩,r,s⟩,λe n=>?_,q⟩
    ·simp
    ·have o:f.heap.objs.size<=e:=by
      simp only[List.mem_cons,List.not_mem_nil,or_false]at n;rcases n with rfl|rfl|rfl|rfl|rfl
      ·exact aau _ _
      ·exact aau _ _
      ·exact aau _ _
      ·exact E' _
      ·exact aau _ _
     calc i.ET o (i.aU.fresh o)
end
end
end L2
namespace HT
open PySem PyProof.Rows
section
variable {prog:Program}{w:World}{A:Around}{E:Value->Shared->Prop}{s:Shared}
theorem oh{t e:Addr}{a:Array Value}{f g:Value}{b d:Option Int}{Q:Value->Shared->Prop}(c:IsTup s.heap t a)(i:s.heap.IsSliceOf e f g .none)(pl:IsPart f b)(j:IsPart g d)
  (f:d9 a.size 0 b=0/\d9 a.size a.size d=a.size) (h:Q (.ref t) s):wpAny (model prog w) A (getItem (.ref t) (.ref e)) Q E s:=by
 obtain⟨g,k,l,n⟩:=id i;have n:s.TypeIs (.ref e) "slice":=⟨g,k,l⟩
 unfold getItem
 try with_reducible refine aaD ?_
 first|calc A' (L' ?_)|skip
 refine A' (wpAny_sequenceKey c.typeIs ∅ (A' (aaq (name:=Str.ofString "__getitem__") c.typeIs aax
  (aat aax c.typeIs entry_tuple_getitem ?_ (args_tuple_getitem _ _)))))
 calc A' (m:=Builtin.Tuple.tupleItemsOf (.ref t)) (tupleItemsOf_ c (A' (wpAny_typeOf n ?_)));rw[if_pos ∅];calc A' (jD i pl j ?_);have e:(((d9 a.size 0 b:Nat):Int)==0&&(1:Int)==1&&(d9 a.size a.size d-d9 a.size 0 b)==a.size)=true:=by
  rw[f.1,f.2];simp
 show wpAny _ _ (if (((d9 a.size 0 b:Nat):Int)==0&&(1:Int)==1&&(d9 a.size a.size d-d9 a.size 0 b)==a.size)=true then _ else _) _ _ s;rw[if_pos e];calc A' (m:=Builtin.Tuple.tupleIsExact (.ref t)) ?_;unfold Builtin.Tuple.tupleIsExact;calc A' (wpAny_typeOf c.typeIs (L' ?_));rw[if_pos ∅];calc A' (wpAny_rule (L' ⟨_,rfl,L' h⟩))
end
end HT
namespace L2
open PySem PySem.Spec PyProof.Rows
section
variable {H:Hp}{Q:VK}{K:W.Frag}
section
variable {X:Cx}
def YU:V->Option Int->Option Int->Hp->VK->Prop:=λx c d H Q=>match x with
 | .ref a=>(∃xs,H a=some (.lst xs)/\∀p,H p=none->Q (.ref p) (upd H p (.lst (eC xs c d))))\/(∃xs,H a=some (.tup xs)/\∀p b,au H b->b p=some (.tup (eC xs c d))->Q (.ref p) b)
 |_=>False
theorem Mx{a:Addr}{b c:Option Int}:YU (.ref a) b c H Q=((∃xs,H a=some (.lst xs)/\∀p,H p=none->Q (.ref p) (upd H p (.lst (eC xs b c))))\/(∃xs,H a=some (.tup xs)/\∀p d,au H d->d p=some (.tup (eC xs b c))->Q (.ref p) d)):=rfl
theorem YV:Kj X YU:=by
 intro c s σ H x v t u i j w Q I l m n o h
 cases x<;>first
  |calc(show False from h).elim
  |skip
 rename_i a;rcases h with⟨b,d,q⟩|⟨b,d,q⟩
 ·exact Bk c s σ H _ v t u i j w Q I l m n o ⟨a,b,rfl,aN.of d,q⟩
 ·by_cases k:HT.d9 b.length 0 i=0/\HT.d9 b.length b.length j=b.length
  ·cases l;obtain⟨z,r,y,C⟩:=I.tuple (bL.of d);have g:z.toArray.size=b.length:=by rw[List.size_toArray];exact r.length.symm
   refine⟨"tuple",_,PyProof.Rows.slot_tuple_getitem.lookup,y.typeIs,HT.oh y m n o (by rw[g];exact k) ⟨.ref a,H,I,rfl,q a H (au.refl H) ?_⟩⟩;have e:eC b i j=b:=by
    unfold eC;rw[k.1,k.2];simp
   rw[e];exact d
  ·calc OE c s σ H _ v t u i j w Q I l m n o ⟨a,b,rfl,bL.of d,k,λp B=>q p _ (au.new _ B) ab⟩
theorem rS{e:Expr}{b:TE}{c d:Option Expr}{f g:TO}{a h:Pos}(i:PE X e b)(j:PO X c f)(k:PO X d g):PE X (.Subscript e (.Slice c d none h) a) (Td YU b f g):=xn YV i j k
def Xg:R2:=λx y H Q=>match x,y with
 | .int i,.int j=>Q (.int (i+j)) H
 | .str i,.str j=>i.length+j.length<=sizeLine/\Q (.str (i++j)) H
 | .ref a,.ref b=>(∃xs c,H a=some (.lst xs)/\H b=some (.lst c)/\xs.length + c.length<=sizeLine/\∀p,H p=none->Q (.ref p) (upd H p (.lst (xs++c))))\/
   (∃xs c,H a=some (.tup xs)/\H b=some (.tup c)/\xs.length+c.length<=sizeLine/\∀p d,au H d->d p=some (.tup (xs++c))->Q (.ref p) d)
 |_,_=>False
theorem F4{i j:Int}:Xg (.int i) (.int j) H Q=Q (.int (i+j)) H:=rfl
theorem F5{i j:Str}:Xg (.str i) (.str j) H Q=(i.length+j.length<=sizeLine/\Q (.str (i++j)) H):=rfl
theorem F6 {a b:Addr}:Xg (.ref a) (.ref b) H Q=((∃xs c,H a=some (.lst xs)/\H b=some (.lst c)/\xs.length + c.length<=sizeLine/\∀p,H p=none->Q (.ref p) (upd H p (.lst (xs++c))))\/
      (∃xs c,H a=some (.tup xs)/\H b=some (.tup c)/\xs.length + c.length<=sizeLine/\∀p d,au H d->d p=some (.tup (xs++c))->Q (.ref p) d)):=rfl
theorem c8:fX X (binaryOp .Add) Xg:=by
 intro c s σ H x y v u Q I d e h
 cases x<;>cases y<;>first
  |calc(show False from h).elim
  |calc Om c s σ H _ _ v u Q I d e ⟨_,_,rfl,rfl,h⟩
  |calc zy c s σ H _ _ v u Q I d e ⟨_,_,rfl,rfl,h.1,h.2⟩
  |skip
 rename_i a b;rcases h with⟨k,l,f,g,m,i⟩|⟨k,l,f,g,m,i⟩
 ·exact ON c s σ H _ _ v u Q I d e ⟨_,_,k,l,rfl,rfl,f,g,m,i⟩
 ·by_cases q:k=[]
  ·subst q
   cases d
   cases e;obtain⟨R,D,E,_⟩:=I.tuple (bL.of f);obtain⟨S,T,G,_⟩:=I.tuple (bL.of g)
   cases D;obtain⟨⟨J,K,r,L⟩,t,w,n,A⟩:=id E;obtain⟨⟨U,M,o,N⟩,B,C,O,j⟩:=id G;simp only at w A C j;subst w A C j;exact concat_meets ⟨_,t,rfl⟩ ⟨_,B,rfl⟩ noFill_tuple_add seq_tuple_add PySem.F.slot_tuple_add PySem.F.entry_tuple_add (PySem.F.args_tuple_add_2 _ _)
    (tuple_addW0 a b _ _ n O K M L N nofun) ⟨t,B,⟨.ref b,H,I,rfl,i b H (au.refl H) (by simpa using g)⟩⟩
  ·calc Kk c s σ H _ _ v u Q I d e ⟨_,_,k,l,rfl,rfl,bL.of f,bL.of g,q,m,λz=>?_,λ_ p P=>i p _ (au.new _ P) ab⟩;subst z;calc i a H (au.refl H) (by simpa using f)
def TU(K:W.Frag):List V->Hp->VK->Prop:=λxs H Q=>match xs with
 | [.ref p]=>∃bs:List Bool,aN K H p (bs.map V.bl)/\Q (.bl (bs.all id)) H
 |_=>False
theorem F7{p:Addr}:TU K [.ref p] H Q=∃bs:List Bool,aN K H p (bs.map V.bl)/\Q (.bl (bs.all id)) H:=rfl
theorem Bw:∀{bs:List Bool}{us:List Value},Vals (bs.map V.bl) us->us=bs.map Value.bool
 | [],_,.nil=>rfl
 |b::bs,_,.cons r t=>by
  cases r;rw[Bw t];rfl
theorem all_range:∀(bs:List Bool),((List.range bs.length).all λi=>bs.getD i false)=bs.all id:=by
 intro bs;induction bs with
 |nil=>rfl
 |cons b r a=>
  rw[List.length_cons,List.range_succ_eq_map,List.all_cons,List.all_map,List.all_cons];have:((λi=>(b::r).getD i false) ∘ Nat.succ)=λi=>r.getD i false:=by funext i;simp
  rw[this,a];rfl
theorem F8{prog:Program}{w:World}{A:Around}{bs:List Bool}:TruthOf prog w A (λi v=>(bs.map Value.bool).toArray[i]?=some v) (λi=>bs.getD i false):=by
 intro i v s Q E e c;have a:(bs.map Value.bool)[i]?=some v:=by simpa using e
 rw[List.getElem?_map]at a
 cases d:bs[i]? with
 |none=>rw[d]at a;cases a
 |some b=>
  rw[d]at a
  cases a;have:bs.getD i false=b:=by rw[List.getD_eq_getElem?_getD,d];rfl
  replace c:Q (bs.getD i false) s:=c
  rw[this]at c;calc aaB c
theorem hV(d:X.calm=true):dR X (.builtin "all") (TU X.K):=by
 intro c s σ H f k Q I r h
 match f,r,h with
 | [.ref p],r,h=>
  obtain⟨a,g,q⟩:=h;obtain⟨u,rfl,i⟩:=Vals.one r
  cases i;obtain⟨c,j,b,f⟩:=I.list g;have e:=Bw j;subst e;refine call_all_walk (wpAny_pyIter_list b.isList ⟨s.heap.objs.size,_,_,_,_,_,λi=>a.getD i false,rfl,Walks.list (show X.A.in1.handled=none from I.ok.hd d) _ p ?_ (a.map Value.bool).toArray,⟨⟨_,T' _ rfl,rfl,rfl⟩,b.isList.push _⟩,F8,λf g c=>?_⟩)
  ·obtain⟨o,e,_⟩:=b.isList;exact W' (P' e)
  ·have:(a.map Value.bool).toArray.size=a.length:=by simp
   rw[this,all_range];calc⟨.bl _,H,I.kept λb o e=>c b o (by simp[Nat.ne_of_lt (Heap.lt_size e)]) (J' _ e),rfl,q⟩
def xM:List V->Option (List Value)
 | []=>some []
 | .ty n::r=>(xM r).map (.type n::·)
 |_=>none
theorem xN:∀{xs:List V}{us ts:List Value},Vals xs us->xM xs=some ts->us=ts
  | [],_,_,.nil,h=>by cases h;rfl
  |x::xs,_,ts,.cons r t,h=>by
    cases x<;>first
      |cases h
      | (rename_i n
         unfold xM at h;obtain⟨a,b,c⟩:=Option.map_eq_some_iff.mp h
         cases r;rw[<-c,xN t b])
def KO(K:W.Frag):List V->Hp->VK->Prop:=λxs H Q=>match xs with
 | [x,.ty n]=>∃t b,gF K H x t/\W.kitOne K t (.type n)=some b/\Q (.bl b) H
 | [x,.ref p]=>∃t b a ts,gF K H x t/\H p=some (.tup a)/\xM a=some ts/\W.kitAny K t ts=some b/\Q (.bl b) H
 |_=>False
theorem Gd{x:V}{n:String}:KO K [x,.ty n] H Q=∃t b,gF K H x t/\W.kitOne K t (.type n)=some b/\Q (.bl b) H:=rfl
theorem Ge{x:V}{p:Addr}:KO K [x,.ref p] H Q=∃t b a ts,gF K H x t/\H p=some (.tup a)/\xM a=some ts/\W.kitAny K t ts=some b/\Q (.bl b) H:=rfl
theorem zS{x:V}{u t:Value}{pins:List (Addr×Obj)}{σ:St}{H:Hp}{s:Shared}{A:Around}{E:Value->Shared->Prop}{Q:Value->Shared->Prop}{b:Bool}{m:Addr}{ts:List Value}(I:Inv X pins σ H s)(c:RelV x u)(B:gF X.K H x t)
  (C:IsTup s.heap m ts.toArray) (e:W.kitAny X.K t ts=some b) (h:∀x,Q (.bool b) {s with toks:=x}):wpAny (model X.prog X.w) A (call (.builtin "isinstance") [u,.ref m]) Q E s:=by
 obtain⟨⟨m,x,b,A⟩,d,r,n,hd⟩:=id C;simp only at r hd;subst r hd
 cases B with
 |bH=>cases(show u=Value.none from c);calc W.kia_tup W.kitx_none I.kj aaf d e (λz=>nomatch z) h
 |bl y=>cases(show u=Value.bool y from c);calc W.kia_tup W.kitx_bool I.kj aaf d e (λz=>nomatch z) h
 |int i=>obtain⟨t,q⟩:=(show ∃t,u=Value.int i t from c);cases q;calc W.kia_tup W.kitx_int I.kj aaf d e (λz=>nomatch z) h
 |str y=>obtain⟨t,q⟩:=(show ∃t,u=Value.str y t from c);cases q;calc W.kia_tup W.kitx_str I.kj aaf d e (λz=>nomatch z) h
 |L9 y=>obtain⟨t,q⟩:=(show ∃t,u=Value.float y t from c);cases q;calc W.kia_tup W.kitx_float I.kj aaf d e (λz=>nomatch z) h
 | @lst a j f=>
  cases(show u=Value.ref a from c);obtain⟨_,_,n,_,g⟩:=(show cy X.prog X.w H s.heap a (.lst j) from I.aU a _ f)
  calc W.kia_tup W.kitx_list I.kj ⟨_,g,rfl⟩ d e (λz=>nomatch z) h
 | @y6 a D j f=>
  cases(show u=Value.ref a from c);obtain⟨_,_,_,n,_,g⟩:=(show cy X.prog X.w H s.heap a (.y6 D (.lst j)) from I.aU a _ f)
  calc W.kia_tup W.kitx_list I.kj ⟨_,g,rfl⟩ d e (λz=>nomatch z) h
 | @tup a j f=>
  cases(show u=Value.ref a from c);obtain⟨_,_,_,p⟩:=(show cy X.prog X.w H s.heap a (.tup j) from I.aU a _ f)
  obtain⟨o,g,k,_⟩:=p;calc W.kia_tup W.kitx_tuple I.kj ⟨o,g,k⟩ d e (λz=>nomatch z) h
 | @dK a l f=>
  cases(show u=Value.ref a from c);obtain⟨_,_,b,_,p⟩:=(show cy X.prog X.w H s.heap a (.dK l) from I.aU a _ f)
  obtain⟨o,F,G,g,k,_⟩:=p;calc W.kia_tup W.kitx_dict I.kj ⟨o,g,k.1⟩ d e (λz=>nomatch z) h
 | @dT a l f=>
  cases(show u=Value.ref a from c);obtain⟨_,_,j,_,o,F,G,g,k,_⟩:=(show cy X.prog X.w H s.heap a (.dT l) from I.aU a _ f)
  calc W.kia_tup W.kitx_dict I.kj ⟨o,g,k.1⟩ d e (λz=>nomatch z) h
 | @ins a C b g f v L M N P=>
  cases(show u=Value.ref a from c);obtain⟨b,O,_⟩:=nV I.aU f;obtain⟨a,J,_⟩:=O.look;calc W.kia_tup (W.kitx_own (v.get _) v.hd L M N P) I.kj J d e (λz=>nomatch z) h
theorem cB:dR X (.builtin "isinstance") (KO X.K):=by
 intro d s σ H f n Q I r h
 match f,r,h with
 | [x,.ty n],r,h=>
  obtain⟨t,b,ty,e,q⟩:=h;obtain⟨u,g,rfl,a,c⟩:=vals2 r
  cases c;calc uD I a ty e λi=>⟨.bl b,H,I.tok _,rfl,q⟩
 | [x,.ref p],r,h=>
  obtain⟨t,b,d,f,ty,j,k,e,q⟩:=h;obtain⟨u,g,rfl,a,c⟩:=vals2 r
  cases c;obtain⟨d,l,m,f⟩:=I.tuple (bL.of j);have o:=xN l k;subst o;calc zS I a ty m e λi=>⟨.bl b,H,I.tok _,rfl,q⟩
end
end
section
variable {a:Addr}{H:Hp}{D:List (Str×V)}
section
variable {X:Cx}
def TV:V->List V->Hp->VK->Prop:=λx vs H Q=>match x,vs with
 | .ref l,[y]=>∃xs,H l=some (.lst xs)/\xs.length<sizeLine/\Q .bH (upd H l (.lst (xs++[y])))
 |_,_=>False
theorem Gf{l:Addr}{y:V}{Q:VK}:TV (.ref l) [y] H Q=∃xs,H l=some (.lst xs)/\xs.length<sizeLine/\Q .bH (upd H l (.lst (xs++[y]))):=rfl
theorem bV:Jv X "list.append" TV:=by
 intro a s σ H x c v d Q I e b h
 match x,c,b,h with
 | .ref l,[y],b,⟨c,f,g,h⟩=>calc uL a s σ H _ _ v d Q I e b ⟨l,c,y,rfl,rfl,f,g,h⟩
def TX:V->List V->Hp->VK->Prop:=λx vs H Q=>match x,vs with
 | .ref l,[.ref b]=>∃xs a,H l=some (.lst xs)/\H b=some (.lst a)/\xs.length+a.length<=sizeLine/\Q .bH (upd H l (.lst (xs++a)))
 |_,_=>False
theorem Gg{l b:Addr}{Q:VK}:TX (.ref l) [.ref b] H Q=∃xs a,H l=some (.lst xs)/\H b=some (.lst a)/\xs.length+a.length<=sizeLine/\Q .bH (upd H l (.lst (xs++a))):=rfl
theorem KP:Jv X "list.extend" TX:=by
 intro a s σ H x b v d Q I e c h
 match x,b,c,h with
 | .ref l,[.ref b],c,⟨f,g,h,i,j,k⟩=>calc Dn a s σ H _ _ v d Q I e c ⟨l,b,f,g,rfl,rfl,h,i,j,k⟩
def TY:V->List V->Hp->VK->Prop:=λx vs H Q=>match x,vs with
 | .ref l,[]=>∃xs,H l=some (.lst xs)/\Q .bH (upd H l (.lst []))
 |_,_=>False
theorem Gh{l:Addr}{Q:VK}:TY (.ref l) [] H Q=∃xs,H l=some (.lst xs)/\Q .bH (upd H l (.lst [])):=rfl
theorem KQ:Jv X "list.clear" TY:=by
 intro a s σ H x c v d Q I e b h
 match x,c,b,h with
 | .ref l,[],b,⟨c,f,g⟩=>calc Fl a s σ H _ _ v d Q I e b ⟨l,c,rfl,rfl,f,g⟩
def Gi(a b:TE):TS:=λD σ H=>a σ H λx c=>b σ c λy a=>∃l i xs k,x=.ref l/\y=.int i/\a l=some (.lst xs)/\-(2^63)<=i/\i<2^63/\seqIndex? i xs.length=some k/\D.nx σ (upd a l (.lst (xs.eraseIdx k)))
theorem KR{o i:Expr}{b c:TE}{d a:Pos}(e:PE X o b)(f:PE X i c):PS X (.Delete [.Subscript o i d] a) (Gi b c):=by
 walk_at "xd";refine wpAny_Delete (wpAny_deleteEach_cons (wpAny_delete_Subscript (dq (e pins s σ H _ I h) λu a ⟨x,b,c,g,d⟩=>dq (f pins a σ b _ c d) λe k j=>?_)));obtain⟨y,a,m,n,l,i,b,k,p,q,r,v,w,z,A⟩:=j;subst p q;obtain rfl:u=Value.ref l:=g;obtain⟨t,rfl⟩:=n;exact Fm m r v w z λb a=>wpAny_deleteEach_nil ⟨σ,_,a,A⟩
structure CD(K:W.Frag)(a:Addr)(D:List (Str×V)):Prop where
 ex:∃o es ep,K.lookup a=some o/\o.ExactDict/\o.data=.dict es ep/\KTD.Rows RelV es.toList D
 ne:(a==sysModules)=false
theorem Pb{prog:Program}{w:World}{A:Around}{E:Value->Shared->Prop}{s:Shared}{o:Obj}{b:Array DictEntry}{ep:Nat}{k:Str}{f:Tok}{Q:Option Value->Shared->Prop}(j:s.heap.get? a=some o)(m:o.data=.dict b ep)(g:KTD.Rows RelV b.toList D)
  (i:∀d v,KTD.datumAt k D=some d->RelV d v->Q (some v) {s with toks:=s.toks+1}) (n:KTD.datumAt k D=none->Q none {s with toks:=s.toks+1}):wpAny (model prog w) A (dictGet a (.str k f)) Q E s:=by
 unfold dictGet
 try with_reducible refine aaD ?_
 calc A' (wpAny_pyHash_str (A' (KTD.kt_dictFind_strs (s:={s with toks:=s.toks+1}) j m (by obtain⟨l⟩:=b;simpa using g.exact) ?_)));have c:Q (findBy (λk v=>v.isStr k) b k) {s with toks:=s.toks+1}:=by
  have f:findBy (λk v=>v.isStr k) b k=(b.toList.find? λe=>e.key.isStr k).map (·.val):=by
   obtain⟨l⟩:=b;simp[findBy]
  rw[f]
  cases f:KTD.datumAt k D with
  |some d=>
   obtain⟨v,l,h⟩:=g.find_some f;rw[l];calc i d v f h
  |none=>rw[g.find_none f];exact n f
 rw[findBy_of_findIdx?]at c
 cases d:b.findIdx? λe=>e.key.isStr k with
 |none=>rw[d]at c;calc L' c
 |some i=>rw[d]at c;calc A' (wpAny_dictEntries (s:={s with toks:=s.toks+1}) j m (L' c))
theorem zT{prog:Program}{w:World}{o:Obj}{c:Array DictEntry}{ep:Nat}{k:Str}{b:Tok}(e:o.data=.dict c ep)(f:KTD.Rows RelV c.toList D)(g:(a==sysModules)=false):
  MeetsIn prog w (Builtin.«dict.get» ⟨[.ref a,.str k b],[]⟩) (λ_ R s=>s.heap.get? a=some o/\(∀d v,KTD.datumAt k D=some d->RelV d v->R (.ok (.ret v)) {s with toks:=s.toks+1})/\(KTD.datumAt k D=none->R (.ok (.ret .none)) {s with toks:=s.toks+1})):=
 .of_wp λA R s ⟨T,c,h⟩=>by
  show wpAny _ _ (dictGet a (.str k b) >>= _) _ _ s;calc A' (Pb T e f (λd v i j=>L' ⟨v,rfl,c d v i j⟩) λe=>?_);show wpAny _ _ (Builtin.Dict.missed a (.str k b) >>= _) _ _ _;calc A' (wpAny_missed_other g (L' ⟨.none,rfl,h e⟩))
def Gj(D:List (Str×V))(t:TA):TE:=λσ H Q=>t σ H λxs a=>match xs with
 | [.str k]=>Q ((KTD.datumAt k D).getD .bH) a
 |_=>False
theorem KS{n:Str}{e:Expr}{t:TA}{p b d:Pos}(C:CD X.K a D)(r:Gl X n)(v:X.mg n=some (.ref a))(w:PA X [e] t)
  (x:(n==("__debug__":Str))=false:=by decide) (y:attributeBase (.Name n p) "get" X.env (eval (.Name n p) X.env)=eval (.Name n p) X.env:=by rfl)
  (z:(b.endLine==d.line)=true:=by rfl) (l:starEach [e] X.env=[(false,eval e X.env)]:=by rfl):PE X (.Call (.Attribute (.Name n p) "get" b) [e] [] d) (Gj D t):=by
 walk_at "xc";obtain⟨o,b,n,m,f,A,B⟩:=C.ex;refine wpAny_Call_method_late y (by rw[l];rfl) z rfl (qS I r v ?_ x);have q:s.heap.get? a=some o:=I.kj a o m;refine⟨"dict","dict.get",PySem.F.plainAttrs_dict,PySem.F.slot_dict_get,PySem.F.type_dict_get,⟨o,q,f.1⟩,λb e=>?_,?_⟩
 ·cases e;exact⟨o,q,f.2.1⟩
 have b:=w d pins s σ H _ I h;rw[l]at b ⊢;calc Calls.callWith_builtin rfl (Calls.evalArgs_plain (dq b λn E e=>?_));obtain⟨b,g,i,j,c⟩:=e
 match b,j,c with
 | [.str k],j,c=>
  obtain⟨u,rfl,G⟩:=Vals.one j;obtain⟨J,rfl⟩:=G;have e:E.heap.get? a=some o:=i.kj a o m
  replace c:Q ((KTD.datumAt k D).getD .bH) g:=c
  refine call_meetsIn PySem.F.slot_dict_get ⟨o,e,f.1⟩ PySem.F.entry_dict_get (PySem.F.args_dict_get_2 _ _) (zT A B C.ne) ⟨e,λd v b j=>?_,λe=>?_⟩
  ·exact⟨d,g,i.tok _,j,by have:=c;rw[b]at this;calc this⟩
  ·calc⟨.bH,g,i.tok _,rfl,by have:=c;rw[e]at this;calc this⟩
end
end
section
variable {x:Str}
section
variable {X:Cx}
theorem fH{n:Int}{a:Pos}(b:∃t,X.mg x=some (.int n t))(c:Gl X x)(d:(x==("__debug__":Str))=false:=by decide):PE X (.Name x a) (tC (.int n)):=by
 obtain⟨t,b⟩:=b;calc AX c b ⟨t,rfl⟩ d
end
structure cj(P:Program)(w:World)(K:W.Frag)(mg:Str->Option Value)(base:Heap)(C:Addr)(m:Str)(k:Nat)(ps:List Str)(sp:Sp):Prop where
 ex:∃f fd,Meth K C m f/\mh P w K mg base Dt k f fd ps sp/\Binds K fd ps []
structure gA(K:W.Frag)(C:Addr)(m qual:Str)(st:Stmt)(ps:List Str):Prop where
 ex:∃f fd,Meth K C m f/\Ky K m qual st f fd/\Binds K fd ps []
structure xO(P:Program)(w:World)(K:W.Frag)(mg:Str->Option Value)(base:Heap)(x:Str)(C:Addr)(k:Nat)(ps:List Str)(sp:Sp):Prop where
 ex:∃f fd,Mk K C f/\mh P w K mg base Dt k f fd ps sp/\Binds K fd ps []
 mg:mg x=some (.ref C)
structure Dz(K:W.Frag)(mg:Str->Option Value)(x:Str)(C:Addr)(qual:Str)(st:Stmt)(ps:List Str):Prop where
 ex:∃f fd,Mk K C f/\Ky K "__init__" qual st f fd/\Binds K fd ps []
 mg:mg x=some (.ref C)
section
variable {P:Program}{w:World}{K:W.Frag}{mg:Str->Option Value}{base:Heap}
theorem gA.ok{C:Addr}{m a:Str}{b:Stmt}{N c:List Str}{k:Nat}{sp:Sp}(T:gA K C m a b c)(S:aB N c (av b))(d:∀vs H Q E,sp vs H Q E->vs.length=c.length)
  (g:∀(f:Addr) (e:Value) (A:Around) (outer:List Env) (s:Shared) (H:Hp) (vs:List V) (Q:VK) (E:XK),eW k (A.deeper (envOfC a (av b) s.heap.objs.size f e))->sp vs H Q E->
   ∃t,wX (rF Dt P w K mg base N a (av b) f e A outer s H E).J3 (df b) t/\t {nx:=λ_ a=>Q .bH a,rt:=Q} (start N vs) H):cj P w K mg base C m (k + 1) c sp:=by
 obtain⟨f,a,M,F,b⟩:=T.ex;calc⟨f,a,M,F.ok S d (g f),b⟩
theorem Dz.ok{C:Addr}{a:Str}{b:Stmt}{N c:List Str}{k:Nat}{sp:Sp}(T:Dz K mg x C a b c)(S:aB N c (av b))(d:∀vs H Q E,sp vs H Q E->vs.length=c.length)
  (g:∀(f:Addr) (e:Value) (A:Around) (outer:List Env) (s:Shared) (H:Hp) (vs:List V) (Q:VK) (E:XK),eW k (A.deeper (envOfC a (av b) s.heap.objs.size f e))->sp vs H Q E->
   ∃t,wX (rF Dt P w K mg base N a (av b) f e A outer s H E).J3 (df b) t/\t {nx:=λ_ a=>Q .bH a,rt:=Q} (start N vs) H):xO P w K mg base x C (k + 1) c sp:=by
 obtain⟨f,a,M,F,b⟩:=T.ex;calc⟨⟨f,a,M,F.ok S d (g f),b⟩,T.mg⟩
end
section
variable {X:Cx}{o e:Expr}{es:List Expr}{to:TE}{t:TA}{apos p pos:Pos}{C:Addr}{m x:Str}{k j:Nat}{ps:List Str}{sp:Sp}
theorem dS{pl:Sem Bool}(D:cj X.prog X.w X.K X.mg X.base C m k ps sp)(c:vF X.K C)(b:eW j X.A)(d:PE X o to)(g:PA X (e::es) t)(h:k<=j:=by decide)(i:fY e=true:=by rfl)(l:es.all fY=true:=by rfl)
  (n:eval (.Call (.Attribute o m apos) (e::es) [] pos) X.env=(do
   let a <-eval o X.env
   standAt apos.atName
   let (f,first) <-holding [a] (getMethod a m pl)
   callWith pos f first (backTo pos (starEach (e::es) X.env)) (backToKw pos (keywordEach [] X.env))):=by rfl):
  PE X (.Call (.Attribute o m apos) (e::es) [] pos) (uE C m sp [] E0 to t):=by
 obtain⟨f,p,M,F,a⟩:=D.ex;calc Kg d c M F (b.mono h) a .nil Bq g (fZ i) (jG l) n
theorem fc{pl:Sem Bool}(D:cj X.prog X.w X.K X.mg X.base C m k ps sp)(c:vF X.K C)(b:eW j X.A)(d:PE X o to)(e:k<=j:=by decide)
  (g:eval (.Call (.Attribute o m apos) [] [] pos) X.env=(do
   let a <-eval o X.env
   standAt apos.atName
   let (f,first) <-holding [a] (getMethod a m pl)
   callWith pos f first (backTo pos (starEach [] X.env)) (backToKw pos (keywordEach [] X.env))):=by rfl):
  PE X (.Call (.Attribute o m apos) [] [] pos) (uE C m sp [] E0 to E6):=by
 obtain⟨f,h,M,F,a⟩:=D.ex;calc E8 d c M F (b.mono e) a .nil Bq g
theorem Gk(D:xO X.prog X.w X.K X.mg X.base x C k ps sp)(a:eW j X.A)(b:PA X (e::es) t)(c:Gl X x:=by rfl)(d:k+1<=j:=by decide)(g:(x==("__debug__":Str))=false:=by decide)
  (h:fY e=true:=by rfl) (i:es.all fY=true:=by rfl):PE X (.Call (.Name x p) (e::es) [] pos) (Bc C sp [] E0 t):=by
 obtain⟨f,m,M,F,l⟩:=D.ex;calc Kh M F (a.mono d) c D.mg l .nil Bq b g (fZ h) (jG i)
end
theorem ib{K:W.Frag}{b:Bool}{a:Addr}{xs:List V}{g:TG}{l:TS}{D:Ends}{σ:St}{H:Hp}(c:Nat->St->Hp->Prop)(o:c 0 σ H)(j:∀i σ H,c i σ H->Sq b K H a xs)
  (q:∀i x σ H T,xs[i]?=some x->c i σ H->H T=none->g (.ref T) σ (upd H T (.tup [.int i,x])) λd k=>l {D with nx:=c (i+1),ct:=c (i+1),bk:=D.nx} d k) (r:∀σ H,c xs.length σ H->D.nx σ H):
  ∃W:Nat->Nat->St->Hp->Prop,(∃m,W 0 m σ H)/\∀i m σ H,W i m σ H->
   ((KN b K a).stop i H/\D.nx σ H)\/((KN b K a).go i H/\∃N:St->Hp->Prop,(∀f h,N f h->∃n,n<m/\W (i+1) n f h)/\∀x h,(KN b K a).Mh i H x h->g x σ h λd k=>l {D with nx:=N,ct:=N,bk:=D.nx} d k):=by
 calc⟨λi m σ H=>m=xs.length-i/\i<=xs.length/\c i σ H,⟨xs.length,nofun,V' _,o⟩,?_⟩;rintro i m σ H ⟨rfl,b,p⟩;by_cases a:i<xs.length
 ·calc .inr ⟨⟨xs,xs[i],j i σ H p,cN a⟩,c (i+1),λf h b=>⟨xs.length-(i+1),(),rfl,a,b⟩,λx h y=>?_⟩;obtain⟨T,s,rfl,y⟩:=y;obtain⟨x,t,rfl⟩:=y xs (j i σ H p);exact q i x σ H T t p s
 ·have e:i=xs.length:=by lia
  subst e;calc .inl ⟨⟨xs,j _ σ H p,rfl⟩,r σ H p⟩
theorem eQ{X:Cx}{i j:Nat}{y:Str}{c d a:Pos}{k:Nat}(e:X.calm=true)(b:X.N.Nodup)(f:X.N[i]?=some x)(g:X.N[j]?=some y)(h:Loc X.env.scope x)(l:Loc X.env.scope y)
  (m:X.fn x=true\/X.env.scope.names.lookup x=some .local:=by grind) (n:X.fn y=true\/X.env.scope.names.lookup y=some .local:=by grind):
  PG X (.Tuple [.Name x c,.Name y d] k a) (C8 X.K 2 (jC (eU i) (jC (eU j) C0))):=EO e (kD (aQ b f h m) (kD (aQ b g l n) AZ))
end
end L2
set_option maxHeartbeats 400000
namespace L2
open PySem PySem.Spec PyProof.Rows
end L2
set_option maxHeartbeats 4000000
namespace L2
open PySem PySem.Spec PyProof.Rows
variable {a:Addr}{g:Bool->Bool}{H:Hp}{ix:List (Option Nat)}{zb:List (TE×TE)}{σ:St}{te:TE}{wi:TI}{tt:TT}{Q:VK}{K:W.Frag}
section
variable {X:Cx}{K:W.Frag}
theorem uU(a:X.K=K):dR X (.builtin "isinstance") (KO K):=a▸cB
theorem jQ(a:X.K=K):dR X (.builtin "len") (O3 K):=a▸aL
theorem oj(a:X.K=K):dR X (.type "tuple") (vT K):=a▸bN
theorem kK(a:X.K=K):dR X (.type "list") (FH K):=a▸cG
theorem KU(a:X.K=K)(b:X.A.units+64<cLine):fX X (compareOp .Eq) (OZ K):=a▸FE b
theorem dz{a b:Expr}{d e:TE}{c:Pos}(f:X.K=K)(g:X.A.units+64<cLine)(i:PE X a d)(j:PE X b e)(h:vY b=true:=by rfl):PE X (.Subscript a b c) (EX (O2 K) d e):=f▸aj g i j h
theorem KW{e:Expr}{b:TE}{f:Str}{a:Pos}(c:X.K=K)(d:PE X e b)(g:attributeBase e f X.env (eval e X.env)=eval e X.env):PE X (.Attribute e f a) (Kc K b f):=c▸bC d g
theorem iP{i j:Nat}{x y:Str}{b c a:Pos}{k:Nat}(d:X.K=K)(e:X.calm=true)(f:X.N.Nodup)(g:X.N[i]?=some x)(h:X.N[j]?=some y)(l:Loc X.env.scope x)(m:Loc X.env.scope y)
  (n:X.fn x=true\/X.env.scope.names.lookup x=some .local:=by grind) (o:X.fn y=true\/X.env.scope.names.lookup y=some .local:=by grind):
  PG X (.Tuple [.Name x b,.Name y c] k a) (C8 K 2 (jC (eU i) (jC (eU j) C0))):=d▸eQ e f g h l m n o
end
inductive T3{α:Sort _}(x:α):Type
 |mk
def YW(ix:List (Option Nat))(wi:TI)(g:TG)(tt:TT)(te:TE)(_:T3 (ix,wi,g,tt,te)):TE:=Tw ix wi g tt te
theorem Bx{g:TG}:Tw ix wi g tt te=YW ix wi g tt te .mk:=rfl
def T4(wi:TI)(g:TG)(a:TS)(_:T3 (wi,g,a)):TS:=Oj wi g a
theorem xP{g:TG}{a:TS}:Oj wi g a=T4 wi g a .mk:=rfl
def KY(a:TT)(b:TS)(_:T3 (a,b)):TS:=vE a b
theorem rT{a:TT}{b:TS}:vE a b=KY a b .mk:=rfl
theorem bE{g:TG}(h:wi σ H λJ a=>∀D,a D=none->kJ ix J g tt te σ a Q D):Tw ix wi g tt te σ H Q:=h
def KZ(ix:List (Option Nat))(J:It)(g:TG)(tt:TT)(te:TE)(σ:St)(H:Hp)(Q:VK)(D:Addr)(_:T3 (ix,J,g,tt,te,σ,H,Q,D)):Prop:=kJ ix J g tt te σ H Q D
theorem rV{J:It}{g:TG}{D:Addr}:kJ ix J g tt te σ H Q D=KZ ix J g tt te σ H Q D .mk:=rfl
theorem zU:TJ g (.ref a) .bH H Q=Q (.bl (g false)) H:=by
 show Q (.bl (g (decide (V.ref a=.bH)))) H=_;simp
theorem zV:TJ g .bH .bH H Q=Q (.bl (g true)) H:=by
 show Q (.bl (g (decide (V.bH=.bH)))) H=_;simp
theorem au.Rv{b:Hp}(s:au H b){a:Addr}{xs:List V}(h:bL K H a xs):bL K b a xs:=by
 rcases h with(h|⟨o,h⟩)|h
 ·exact .inl (.inl (s _ _ h))
 ·exact .inl (.inr ⟨o,s _ _ h⟩)
 ·calc .inr h
theorem jH{α:Type}(x:α)(n:Nat):List.replicate n x++[x]=List.replicate (n+1) x:=by
 rw[List.replicate_succ',]
theorem o8(n:Nat):List.replicate n (V.bl true)=(List.replicate n true).map V.bl:=by simp
theorem di{xs:List V}{i:Int}{v:V}{P:V->Prop}(h:H a=some (.tup xs))(e:iJ xs i=some v)(k:P v):∃xs v,(aN K H a xs\/bL K H a xs)/\iJ xs i=some v/\P v:=⟨xs,v,.inr (bL.of h),e,k⟩
theorem bA{xs:List V}{i:Int}{v:V}{P:V->Prop}(h:H a=some (.lst xs))(e:iJ xs i=some v)(k:P v):∃xs v,(aN K H a xs\/bL K H a xs)/\iJ xs i=some v/\P v:=⟨xs,v,.inl (aN.of h),e,k⟩
def Pf(zb:List (TE×TE))(_:T3 zb):TE:=Bo zb
theorem uV:Bo zb=Pf zb .mk:=rfl
theorem K0(h:∀p,H p=none->oZ zb σ (upd H p (.dK [])) λd b=>b p=some (.dK [])/\∃a:List (Key×V),d=a.map (λc=>(kV c.1,c.2))/\a.length<=15/\Q (.ref p) (upd b p (.dK (mJ [] a)))):Bo zb σ H Q:=h
end L2
set_option maxHeartbeats 400000
namespace L2
open PySem PySem.Spec PyProof.Rows
section
section
variable {X:Cx}{K:W.Frag}
end
end
section
section
variable {X:Cx}{pins:List (Addr×Obj)}{σ:St}{H:Hp}{s:Shared}{e C:Addr}{d:Option Addr}{fl:Bool}{T:Option Addr}{h':Heap}
end
section
variable {X:Cx}{pins:List (Addr×Obj)}{σ:St}{H:Hp}{s:Shared}{a C:Addr}{d:Option Addr}{fl:Bool}{T:Option Addr}{h':Heap}{E:XK}{E1:Value->Shared->Prop}
end
end
section
section
variable {X:Cx}{o e:Expr}{es:List Expr}{to:TE}{t:TA}{apos p pos:Pos}{C:Addr}{m x:Str}{k j:Nat}{ps:List Str}{sp:Sp}{E:XK}
end
end
section
end
end L2
namespace L2
open PySem PySem.Spec PyProof.Rows
end L2
set_option maxHeartbeats 4000000
namespace DD
open PySem L2
variable {H:Hp}{x:V}
inductive Kd(H:Hp):V->Value->Prop
 |bH:Kd H .bH (.type "NoneType")
 |bl (b:Bool):Kd H (.bl b) (.type "bool")
 |int (i:Int):Kd H (.int i) (.type "int")
 |str (x:Str):Kd H (.str x) (.type "str")
 |lst {a xs}:H a=some (.lst xs)->Kd H (.ref a) (.type "list")
 |tup {a xs}:H a=some (.tup xs)->Kd H (.ref a) (.type "tuple")
 |dK {a aX}:H a=some (.dK aX)->Kd H (.ref a) (.type "dict")
theorem Kd.ty{K:W.Frag}{H:Hp}{x:V}{t:Value}(h:Kd H x t):gF K H x t:=by
 cases h with
 |bH=>calc .bH
 |bl b=>calc .bl b
 |int i=>calc .int i
 |str x=>calc .str x
 |lst e=>calc .lst e
 |tup e=>calc .tup e
 |dK e=>calc .dK e
def YX:V->Bool
 | .int _=>true
 |_=>false
theorem Pg{K:W.Frag}{H:Hp}{x:V}{t:Value}(h:Kd H x t):∃b c,W.kitOne K t (.type "int")=some b/\W.kitOne K t (.type "bool")=some c/\YX x=(b && !c):=by
 cases h with
 |bH=>calc⟨false,false,rfl,rfl,rfl⟩
 |bl b=>calc⟨true,true,rfl,rfl,rfl⟩
 |int i=>calc⟨true,false,rfl,rfl,rfl⟩
 |str x=>calc⟨false,false,rfl,rfl,rfl⟩
 |lst e=>calc⟨false,false,rfl,rfl,rfl⟩
 |tup e=>calc⟨false,false,rfl,rfl,rfl⟩
 |dK e=>calc⟨false,false,rfl,rfl,rfl⟩
def inR(a b:Int):V->Bool
 | .int i=>decide (a<=i)&&decide (i<b)
 |_=>false
theorem T5{H:Hp}{n:Nat}{x:V}{d:DV}(h:HD H n x d):∃t,Kd H x t:=by
 cases h with
 |bH=>calc⟨_,.bH⟩
 |bl b=>calc⟨_,.bl b⟩
 |int i=>calc⟨_,.int i⟩
 |str x=>calc⟨_,.str x⟩
 |tup e=>calc⟨_,.tup e⟩
 |lst e=>calc⟨_,.lst e⟩
 |dict e=>calc⟨_,.dK e⟩
def Ph:DV->Bool
 | .int _=>true
 |_=>false
def T6(a b:Int):DV->Bool
 | .int i=>decide (a<=i)&&decide (i<b)
 |_=>false
theorem Pj{n:Nat}{d:DV}(h:HD H n x d):YX x=Ph d:=by cases h<;>rfl
theorem Pl{n:Nat}{d:DV}(h:HD H n x d)(a b:Int):inR a b x=T6 a b d:=by cases h<;>rfl
def rW:List V:=[.str "letter",.str "way",.str "first"]
def K1(w:Str)(m:Int):List DV->Bool
 | [z]=>if w="is" then Ph z else(decide (w="number")&&T6 0 m z)
 |_=>false
def DA(m:Int):DV->Bool
 | .tup (.str w::r)=>if Bl (.str w) rW=true then decide (r.length=0) else K1 w m r
 |_=>false
inductive Val where
 |is (c:Int)|number (i:Int)|mN|way|first
def Val.dv:Val->DV
 | .is c=>.tup [.str "is",.int c]
 | .number i=>.tup [.str "number",.int i]
 | .mN=>.tup [.str "letter"]
 | .way=>.tup [.str "way"]
 | .first=>.tup [.str "first"]
def Val.ok(m:Int):Val->Prop
 | .number i=>0<=i/\i<m
 |_=>True
theorem Pm{m:Int}{v:Val}(h:v.ok m):DA m v.dv=true:=by
 cases v with
 |is c=>calc rfl
 |number i=>
  obtain⟨a,b⟩:=h;show(if Bl (.str "number") rW=true then decide (([DV.int i]:List DV).length=0) else if ("number":Str)="is" then Ph (.int i) else(decide (("number":Str)="number")&&(decide (0<=i)&&decide (i<m))))=true;rw[if_neg ⋯,if_neg ⋯];simp[a,b]
 |mN=>calc rfl
 |way=>calc rfl
 |first=>calc rfl
def rX(ns a:List Int)(way said:Int):Val->Int
 | .is c=>c
 | .number i=>ns.getD i.toNat 0
 | .mN=>said
 | .way=>way
 | .first=>a.headD 0
abbrev xQ(ns a:List Int):DV:=.tup [.tup (ns.map .int),.tup (a.map .int)]
theorem ln1{l:List V}(h:l.length=1):∃a,l=[a]:=List.length_eq_one_iff.mp h
theorem ln2{l:List V}(h:l.length=2):∃a b,l=[a,b]:=by
 cases l with
 |nil=>cases h
 |cons a r=>
  obtain⟨b,rfl⟩:=ln1 (Nat.succ.inj h);calc⟨a,b,rfl⟩
theorem ln3{l:List V}(h:l.length=3):∃a b c,l=[a,b,c]:=by
 cases l with
 |nil=>cases h
 |cons a r=>
  obtain⟨b,c,rfl⟩:=ln2 (Nat.succ.inj h);calc⟨a,b,c,rfl⟩
theorem ln4{l:List V}(h:l.length=4):∃a b c d,l=[a,b,c,d]:=by
 cases l with
 |nil=>cases h
 |cons a r=>
  obtain⟨b,c,d,rfl⟩:=ln3 (Nat.succ.inj h);calc⟨a,b,c,d,rfl⟩
theorem iX{H:Hp}{n:Nat}{x:V}{d:DV}(h:HT H n x (.tup [d])):∃a u k,x=.ref a/\H a=some (.tup [u])/\HT H k u d:=by
 cases h with
 | @tup k a b _ e l i=>
  obtain⟨u,rfl⟩:=ln1 l;calc⟨a,u,k,rfl,e,i 0 u d rfl rfl⟩
theorem dA{H:Hp}{n:Nat}{x:V}{d d':DV}(h:HT H n x (.tup [d,d'])):∃a u v k,x=.ref a/\H a=some (.tup [u,v])/\HT H k u d/\HT H k v d':=by
 cases h with
 | @tup k a b _ e l i=>
  obtain⟨u,v,rfl⟩:=ln2 l;calc⟨a,u,v,k,rfl,e,i 0 u d rfl rfl,i 1 v d' rfl rfl⟩
theorem By{H:Hp}{n:Nat}{x:V}{ns:List Int}(h:HT H n x (.tup (ns.map .int))):∃a,x=.ref a/\H a=some (.tup (ns.map V.int)):=by
 cases h with
 | @tup k a b _ e l i=>
  calc⟨a,rfl,?_⟩;have:b=ns.map V.int:=by
   apply List.ext_getElem?;intro j;rw[List.getElem?_map]
   cases c:ns[j]? with
   |none=>
    have a:ns.length<=j:=List.getElem?_eq_none_iff.mp c;rw[List.getElem?_eq_none_iff.mpr (by rw[l,List.length_map];calc a)];rfl
   |some z=>
    have a:j<ns.length:=(List.getElem?_eq_some_iff.mp c).1;have d:j<b.length:=by rw[l,List.length_map];exact a
    have f:=i j b[j] (.int z) (cN d) (by rw[List.getElem?_map,c];rfl);rw[cN d];generalize b[j]=y at f
    cases f;rfl
  rw[<-this];calc e
theorem om{H:Hp}{n:Nat}{a:Addr}{ns:List Int}(e:H a=some (.tup (ns.map V.int))):HT H (n+1) (.ref a) (.tup (ns.map .int)):=by
 calc .tup e nofun λi u d b c=>?_;rw[List.getElem?_map]at b c
 cases f:ns[i]? with
 |none=>rw[f]at b;cases b
 |some z=>rw[f]at b c;cases b;cases c;calc .int z
theorem rY{H:Hp}{n:Nat}{a:Addr}{u:V}{d:DV}(e:H a=some (.tup [u]))(h:HT H n u d):HT H (n+1) (.ref a) (.tup [d]):=by
 refine .tup e rfl λi x y b c=>?_
 cases i with
 |zero=>simp at b c;subst b c;calc h
 |succ i=>simp at b
theorem cH{H:Hp}{n:Nat}{a:Addr}{u v:V}{d d':DV}(e:H a=some (.tup [u,v]))(h:HT H n u d)(h':HT H n v d'):HT H (n+1) (.ref a) (.tup [d,d']):=by
 refine .tup e rfl λi x y b c=>?_
 match i,b,c with
 |0,b,c=>simp at b c;subst b c;calc h
 |1,b,c=>simp at b c;subst b c;calc h'
theorem _root_.L2.HT.mono{H:Hp}{n:Nat}{x:V}{d:DV}(h:HT H n x d):∀{m:Nat},n<=m->HT H m x d:=by
 induction h with
 |bH=>intro m _;calc .bH
 |bl b=>intro m _;calc .bl b
 |int i=>intro m _;calc .int i
 |str x=>intro m _;calc .str x
 |tup a b c f=>
  intro m e;obtain⟨k,rfl⟩:∃k,m=k+1:=⟨m-1,()⟩
  calc .tup a b λi u e p q=>f i u e p q ()
theorem Bz{K:W.Frag}{H:Hp}{n:Nat}{x:V}{d:DV}(h:HT H n x d):∀{m:Nat}{y:V}{k:Nat},HT H m y d->n<k->kl K H k x y:=by
 induction h with
 |bH=>intro m y k h c;cases h;obtain⟨j,rfl⟩:∃j,k=j+1:=⟨k-1,()⟩;calc .inl ⟨rfl,rfl⟩
 |bl b=>intro m y k h c;cases h;obtain⟨j,rfl⟩:∃j,k=j+1:=⟨k-1,()⟩;calc .inl ⟨rfl,rfl⟩
 |int i=>intro m y k h c;cases h;obtain⟨j,rfl⟩:∃j,k=j+1:=⟨k-1,()⟩;calc .inl ⟨rfl,rfl⟩
 |str i=>intro m y k h c;cases h;obtain⟨j,rfl⟩:∃j,k=j+1:=⟨k-1,()⟩;calc .inl ⟨rfl,rfl⟩
 | @tup n a o g e l i q=>
  intro m y k h c;obtain⟨j,rfl⟩:∃j,k=j+1:=⟨k-1,()⟩
  cases h with
  | @tup m b d _ i j k=>
   calc .inr ⟨a,b,o,d,rfl,rfl,.inl ⟨bL.of e,bL.of i⟩,l.trans j.symm,λp u v c m=>?_⟩;have a:p<g.length:=by rw[<-l];exact(List.getElem?_eq_some_iff.mp c).1
   calc q p u g[p] c (cN a) (k p v g[p] m (cN a)) ()
inductive bx where
 |set (i:Int) (v:Val)|add (i:Int) (v:Val)|times (i:Int) (v:Val)|put (v:Val)|drop|send (j:Int) (v:Val)|say (v:Val)|skip (v w:Val) (k:Int)
def bx.dv:bx->DV
 | .set i v=>.tup [.str "set",.int i,v.dv]
 | .add i v=>.tup [.str "add",.int i,v.dv]
 | .times i v=>.tup [.str "times",.int i,v.dv]
 | .put v=>.tup [.str "put",v.dv]
 | .drop=>.tup [.str "drop"]
 | .send j v=>.tup [.str "send",.int j,v.dv]
 | .say v=>.tup [.str "say",v.dv]
 | .skip v w k=>.tup [.str "skip",v.dv,w.dv,.int k]
def bx.ok(m:Int):bx->Prop
 | .set i v=>0<=i/\i<m/\v.ok m
 | .add i v=>0<=i/\i<m/\v.ok m
 | .times i v=>0<=i/\i<m/\v.ok m
 | .put v=>v.ok m
 | .drop=>True
 | .send j v=>0<=j/\v.ok m
 | .say v=>v.ok m
 | .skip v w k=>v.ok m/\w.ok m/\1<=k/\k<25
def bx.vals:bx->List Val
 | .set _ v=>[v]
 | .add _ v=>[v]
 | .times _ v=>[v]
 | .put v=>[v]
 | .drop=>[]
 | .send _ v=>[v]
 | .say v=>[v]
 | .skip v w _=>[v,w]
def bx.word:bx->Str
 | .set _ _=>"set"
 | .add _ _=>"add"
 | .times _ _=>"times"
 | .put _=>"put"
 | .drop=>"drop"
 | .send _ _=>"send"
 | .say _=>"say"
 | .skip _ _ _=>"skip"
def bx.uc:bx->List Str
 | .set _ _=>["number","value"]
 | .add _ _=>["number","value"]
 | .times _ _=>["number","value"]
 | .put _=>["value"]
 | .drop=>[]
 | .send _ _=>["way","value"]
 | .say _=>["value"]
 | .skip _ _ _=>["value","value","many"]
structure WS where
 ns:List Int
 row:List Int
 cI:List (Int×Int)
 words:List Int
def fI(M way said:Int)(ns a:List Int)(v:Val):Int:=rX ns a way said v%M
def jI(M:Int)(ns:List Int)(x:Int):bx->List Int
 | .set i _=>ns.set i.toNat x
 | .add i _=>ns.set i.toNat ((ns.getD i.toNat 0+x)%M)
 | .times i _=>ns.set i.toNat ((ns.getD i.toNat 0*x)%M)
 |_=>ns
def oo(a:List Int)(x:Int):bx->List Int
 | .put _=>if a.length<12 then a++[x] else a
 | .drop=>a.tail
 |_=>a
def ic(x:Int):bx->List (Int×Int)
 | .send j _=>[(j,x)]
 |_=>[]
def gb(x:Int):bx->List Int
 | .say _=>[x]
 |_=>[]
def oq(x y:Int):bx->Int
 | .skip _ _ k=>if x<y then k else 0
 |_=>0
def km(M way said:Int)(d:bx)(s:WS):WS:=
 let ws:=d.vals.map (fI M way said s.ns s.row)
 ⟨jI M s.ns (ws.getD 0 0) d,oo s.row (ws.getD 0 0) d,s.cI++ic (ws.getD 0 0) d,s.words++gb (ws.getD 0 0) d⟩
def mD(M way said:Int)(d:bx)(s:WS):Int:=
 let ws:=d.vals.map (fI M way said s.ns s.row)
 oq (ws.getD 0 0) (ws.getD 1 0) d
def xR(M way said:Int):Nat->List bx->WS->WS
 |0,_,s=>s
 |_,[],s=>s
 |f+1,d::r,s=>xR M way said f (r.drop (mD M way said d s).toNat) (km M way said d s)
theorem BA{M way said:Int}{f:Nat}{s:WS}:xR M way said f [] s=s:=by cases f<;>rfl
def ou(M way said:Int)(b:List bx)(ns a:List Int):WS:=xR M way said b.length b ⟨ns,a,[],[]⟩
theorem o9{M x:Int}{ns:List Int}{d:bx}:(jI M ns x d).length=ns.length:=by cases d<;>simp[jI]
def xS(K:W.Frag)(H:Hp)(e:V)(ns d:List Int):Prop:=∃a b c,e=.ref a/\H a=some (.tup [.ref b,.ref c])/\(aN K H b (ns.map V.int)\/bL K H b (ns.map V.int))/\(aN K H c (d.map V.int)\/bL K H c (d.map V.int))
theorem xS.of{K:W.Frag}{n:Nat}{f:V}{ns d:List Int}(h:HT H n f (xQ ns d)):xS K H f ns d:=by
 obtain⟨a,u,v,k,rfl,e,g,i⟩:=dA h;obtain⟨b,rfl,j⟩:=By g;obtain⟨c,rfl,d⟩:=By i;calc⟨a,b,c,rfl,e,.inr (bL.of j),.inr (bL.of d)⟩
def bW:Stmt->List Stmt
 | .ClassDef _ _ _ a _ _ _ _ _ _ _=>a
 |_=>[]
theorem bS{H:Hp}{n:Nat}{x:V}{d d' b:DV}(h:HT H n x (.tup [d,d',b])):∃a u v w k,x=.ref a/\H a=some (.tup [u,v,w])/\HT H k u d/\HT H k v d'/\HT H k w b:=by
 cases h with
 | @tup k a c _ e l i=>
  obtain⟨u,v,w,rfl⟩:=ln3 l;calc⟨a,u,v,w,k,rfl,e,i 0 u d rfl rfl,i 1 v d' rfl rfl,i 2 w b rfl rfl⟩
theorem oy{H:Hp}{n:Nat}{x:V}{d d' b c:DV}(h:HT H n x (.tup [d,d',b,c])):∃a u v w z k,x=.ref a/\H a=some (.tup [u,v,w,z])/\HT H k u d/\HT H k v d'/\HT H k w b/\HT H k z c:=by
 cases h with
 | @tup k a f _ e l i=>
  obtain⟨u,v,w,z,rfl⟩:=ln4 l;calc⟨a,u,v,w,z,k,rfl,e,i 0 u d rfl rfl,i 1 v d' rfl rfl,i 2 w b rfl rfl,i 3 z c rfl rfl⟩
theorem kL{H:Hp}{n:Nat}{a:Addr}{u v w:V}{d d' f:DV}(e:H a=some (.tup [u,v,w]))(h:HT H n u d)(h':HT H n v d')(g:HT H n w f):HT H (n+1) (.ref a) (.tup [d,d',f]):=by
 refine .tup e rfl λi x y b c=>?_
 match i,b,c with
 |0,b,c=>simp at b c;subst b c;calc h
 |1,b,c=>simp at b c;subst b c;calc h'
 |2,b,c=>simp at b c;subst b c;calc g
theorem BB{n:Nat}{v:Val}(h:HT H n x v.dv):∃a xs,x=.ref a/\H a=some (.tup xs):=by
 cases v<;>(cases h;rename_i a xs e l i;calc⟨_,_,rfl,by assumption⟩)
end DD
set_option maxHeartbeats 400000
namespace L2
open PySem PySem.Spec PyProof.Rows
def T7:R2:=λx y H Q=>match x,y with
 | .ref a,.int n=>∃v,H a=some (.lst [v])/\-1000<=n/\n<=1000/\∀p,H p=none->Q (.ref p) (upd H p (.lst (List.replicate n.toNat v)))
 |_,_=>False
theorem Gm{α:Type}(n:Nat)(v:α):(List.replicate n [v]).flatten=List.replicate n v:=by
 induction n with
 |zero=>rfl
 |succ n a=>rw[List.replicate_succ,List.flatten_cons,a];rfl
theorem xT{v:V}{u:Value}(r:RelV v u):∀n:Nat,Vals (List.replicate n v) (List.replicate n u)
 |0=>.nil
 |n+1=>.cons r (xT r n)
section
variable {X:Cx}
theorem rZ:fX X (binaryOp .Mult) T7:=by
 intro g s σ H x y v u Q I i j h
 cases x<;>cases y<;>first
  |calc(show False from h).elim
  |skip
 rename_i a n;obtain⟨w,l,A,B,q⟩:=h;obtain rfl:v=Value.ref a:=i;obtain⟨c,rfl⟩:∃c,u=Value.int n c:=j;obtain⟨_,C,k,m,d⟩:=I.aU a _ l;obtain⟨f,rfl,p⟩:=m.one;have r:([f]:List Value).toArray.size*n.toNat<=1000:=by simp;lia
 refine wpAny_binaryOp_repeat_ref (T:="list") (U:="int") ∅ ⟨_,d,rfl⟩ (λt=>typeIs_int t n c) noFill_list_mul F.fills_int_mul F.slot_int_rmul repeat_list F.slot_int_index.lookup
  (call_meets F.slot_int_rmul (typeIs_int s n c) F.entry_int_rmul (F.args_int_rmul_2 _ _) (lm_int_rmul_list_any n c a ([f]:List Value).toArray k none #[])
   ⟨d,rfl,⟨_,d,rfl⟩,call_meets F.slot_list_mul ⟨_,d,rfl⟩ F.entry_list_mul (F.args_list_mul_2 _ _)
    (lm_list_mul_any a ([f]:List Value).toArray k none #[] n c (by simp[Builtin.List.listFitsIndex];lia) () (by simp[Builtin.List.listTooLong,sizeLine];lia))
    ⟨d,?_⟩⟩)
 rw[listMul_foldl_if,Gm];have z:H s.heap.objs.size=none:=I.aU.fresh (E' _);calc⟨V.ref s.heap.objs.size,_,I.laid (o:=.lst (List.replicate n.toNat w)) (a:=s.heap.objs.size) (λb o e=>J' _ e) (E' _) (show _/\_ from⟨?_,_,0,xT p _,T' _ rfl⟩),rfl,q _ z⟩;rw[List.length_replicate,sizeLine_eq];lia
end
end L2
namespace L2
open PySem PySem.Spec PyProof.Rows Builtin.Str
end L2
namespace L2
open PySem PySem.Spec PyProof.Rows Builtin.Str
end L2
set_option maxHeartbeats 4000000
namespace L2
open PySem
section
variable {X:Cx}
def YZ(K:W.Frag):List V->Hp->VK->Prop:=λxs H Q=>∃(x:V) (C:Addr) (t:Value) (b:Bool),xs=[x,.ref C]/\gF K H x t/\W.kitOne K t (.ref C)=some b/\Q (.bl b) H
theorem Gn{K:W.Frag}(c:X.K=K):dR X (.builtin "isinstance") (YZ K):=by
 subst c;intro a s σ H i j Q I r h;obtain⟨x,C,t,b,rfl,d,e,q⟩:=h;obtain⟨u,k,rfl,f,g⟩:=vals2 r
 cases g;calc uD I f d e λa=>⟨.bl b,H,I.tok _,rfl,q⟩
end
end L2
namespace L2
open PySem PySem.Spec PyProof.Rows
inductive Gq:DV->Prop
 |bH:Gq .bH
 |int (i:Int):Gq (.int i)
 |str (x:Str):Gq (.str x)
 |tup {ds:List DV}:(∀e∈ds,Gq e)->Gq (.tup ds)
 |lst {ds:List DV}:(∀e∈ds,Gq e)->Gq (.lst ds)
end L2
namespace L2
open PySem
variable {H:Hp}{σ:St}
theorem ck{t u:TS}{D:Ends}(h:∀N:St->Hp->Prop,N=u D->t {D with nx:=N} σ H):tS t u D σ H:=h _ rfl
theorem qW{c:TT}{t u:TS}{D:Ends}(h:∀T U:St->Hp->Prop,T=t D->U=u D->c σ H λb a=>if b=true then T σ a else U σ a):CZ c t u D σ H:=h _ _ rfl rfl
theorem Pn{i:Nat}{v:V}{Q:St->Hp->Prop}(h:Q (σ.set i (some v)) H):eU i v σ H Q:=h
theorem cm{N M:St->Hp->Prop}(e:N=M)(h:M σ H):N σ H:=e▸h
end L2
namespace DD
open PySem L2
variable {x:Addr}{Z:Addr->Prop}{H H':Hp}{vs:List V}
structure MD where
 M:Int
 ns:List Int
 row:List Int
 ds:List bx
structure Good(M:Int)(ns row:List Int)(ds:List bx):Prop where
 m2:2<=M
 Y0:M<=1000000000000
 l1:1<=ns.length
 l4:ns.length<=4
 r12:row.length<=12
 bn:∀z∈ns,0<=z/\z<M
 br:∀z∈row,0<=z/\z<M
 Xh:ds.length<=24
 ok:∀d∈ds,d.ok ns.length
abbrev MD.good(d:MD):Prop:=Good d.M d.ns d.row d.ds
instance:Inhabited MD:=⟨⟨0,[],[],[]⟩⟩
noncomputable def ie (Z:Addr->Prop) (H:Hp):Hp:=λx=> @ite _ (Z x) (Classical.propDecidable _) (some (.own 0)) (H x)
theorem fJ(h:¬Z x):ie Z H x=H x:=by unfold ie;rw[if_neg h]
theorem zW(h:Z x):ie Z H x=some (.own 0):=by unfold ie;rw[if_pos h]
theorem dC{o:HO}(h:ie Z H x=some o)(b:∀k,o≠.own k):¬Z x/\H x=some o:=by
 by_cases a:Z x
 ·rw[zW a]at h;cases h;exact absurd rfl (b 0)
 ·rw[fJ a]at h;calc⟨a,h⟩
theorem BC{o:HO}(h:Z x):ie Z (upd H x o)=ie Z H:=by
 funext b;by_cases a:Z b
 ·rw[zW a,zW a]
 ·rw[fJ a,fJ a,ax (λe:b=x=>a (e▸h))]
def Cv(H H':Hp):Prop:=∀b o,H b=some o->(∀k,o≠.own k)->H' b=some o
theorem _root_.L2.au.cv(s:au H H'):Cv H H':=λb o e _=>s b o e
def soft:HO->Prop
 | .lst _=>True
 | .dK _=>True
 |_=>False
def Fr(Z:Addr->Prop)(H H':Hp):Prop:=∀b o,H b=some o->(Z b->¬soft o)->H' b=some o
theorem Fr.refl:Fr Z H H:=λ_ _ e _=>e
theorem Fr.trans{c d:Hp}(a:Fr Z H c)(b:Fr Z c d):Fr Z H d:=λc o e n=>b c o (a c o e n) n
theorem _root_.L2.au.fr(s:au H H'):Fr Z H H':=λb o e _=>s b o e
theorem Fr.at(a:Fr Z H H'){b:Addr}{o:HO}(e:H b=some o)(h:¬Z b):H' b=some o:=a b o e λz=>absurd z h
theorem Fr.mi(a:Fr Z H H'){b:Addr}{o:HO}(e:H b=some o)(h:¬soft o):H' b=some o:=a b o e λ_=>h
theorem Fr.upd{b:Hp}(a:Fr Z H b){x:Addr}{o u:HO}(h:Z x)(f:b x=some u)(g:soft u):Fr Z H (upd b x o):=λc v e n=>by
 by_cases z:c=x
 ·subst z;have d:=a c v e n;rw[f] at d
  cases d;exact absurd g (n h)
 ·rw[ax z];calc a c v e n
theorem Fr.mono{c:Addr->Prop}{d:Hp}(a:Fr Z H d)(h:∀b,Z b->c b):Fr c H d:=λc o e n=>a c o e λz=>n (h c z)
theorem Fr.aM(h:Fr Z H H'):cg H H':=λb a e=>h b _ e λ_=>id
theorem Fr.ie(h:Fr Z H H'):Cv (ie Z H) (ie Z H'):=λb o e n=>by
 obtain⟨a,b⟩:=dC e n;rw[fJ a];calc h.at b a
theorem c9:Cv (ie Z H) H:=λb o e n=>(dC e n).2
theorem Cv.aM(h:Cv H H'):cg H H':=λb a e=>h b _ e (λk z=>by cases z)
theorem _root_.L2.HD.cv{H H':Hp}(s:Cv H H'){n:Nat}{x:V}{d:DV}(h:HD H n x d):HD H' n x d:=by
 induction h with
 |bH=>calc .bH
 |bl b=>calc .bl b
 |int i=>calc .int i
 |str x=>calc .str x
 |tup e l i a=>calc .tup (s _ _ e (λk z=>by cases z)) l a
 |lst e l i a=>calc .lst (s _ _ e (λk z=>by cases z)) l a
 |dict e=>calc .dict (s _ _ e (λk z=>by cases z))
def ei(H:Hp)(n:Nat)(vs:List V)(a:List DV):Prop:=vs.length=a.length/\∀(i:Nat) v d,vs[i]?=some v->a[i]?=some d->HD H n v d
theorem ei.cv(s:Cv H H'){n:Nat}{vs:List V}{a:List DV}(h:ei H n vs a):ei H' n vs a:=⟨h.1,λi v d a b=>(h.2 i v d a b).cv s⟩
theorem ei.nil{n:Nat}:ei H n [] []:=⟨rfl,λi v d a=>by simp at a⟩
theorem ei.app{n:Nat}{us:List V}{a b:List DV}(h:ei H n vs a)(g:ei H n us b):ei H n (vs++us) (a++b):=by
 calc⟨by simp[h.1,g.1],λi v d a b=>?_⟩;by_cases c:i<vs.length
 ·rw[List.getElem?_append_left c]at a;rw[List.getElem?_append_left (by rw[<-h.1];calc c)]at b;exact h.2 i _ _ a b
 ·rw[List.getElem?_append_right ()]at a;rw[List.getElem?_append_right (by rw[<-h.1];lia),<-h.1]at b;calc g.2 _ _ _ a b
theorem ei.one{H:Hp}{n:Nat}{v:V}{d:DV}(h:HD H n v d):ei H n [v] [d]:=by
 refine⟨rfl,λi u e a b=>?_⟩
 cases i with
 |zero=>simp at a b;subst a b;calc h
 |succ i=>simp at a
theorem ei.snoc{H:Hp}{n:Nat}{vs:List V}{a:List DV}{v:V}{d:DV}(h:ei H n vs a)(g:HD H n v d):ei H n (vs++[v]) (a++[d]):=h.app (.one g)
theorem ei.set{n:Nat}{c:List DV}{v:V}{d:DV}(h:ei H n vs c)(g:HD H n v d)(k:Nat):ei H n (vs.set k v) (c.set k d):=by
 calc⟨by simp[h.1],λi u e a b=>?_⟩;rw[List.getElem?_set]at a b;by_cases f:k=i
 ·rw[if_pos f] at a b;split at a
  ·rw[if_pos (by rw[<-h.1];assumption)]at b;cases a;cases b;exact g
  ·cases a
 ·rw[if_neg f]at a b;calc h.2 i u e a b
theorem ei.ints{H:Hp}{n:Nat}(ns:List Int):ei H n (ns.map V.int) (ns.map DV.int):=by
 calc⟨nofun,λi v d a b=>?_⟩;rw[List.getElem?_map]at a b
 cases c:ns[i]? with
 |none=>rw[c]at a;cases a
 |some z=>rw[c]at a b;cases a;cases b;calc .int z
theorem ei.kM{n:Nat}{ns:List Int}(h:ei H n vs (ns.map DV.int)):vs=ns.map V.int:=by
 apply List.ext_getElem (by simpa using h.1);intro j c a;have b:j<ns.length:=by simpa using a
 have:=h.2 j vs[j] (.int ns[j]) nofun (by simp[b]);simp only[List.getElem_map];generalize vs[j]=y at this
 cases this;rfl
theorem ei.get{n:Nat}{a:List DV}(h:ei H n vs a){i:Nat}{d:DV}(e:a[i]?=some d):∃v,vs[i]?=some v/\HD H n v d:=by
 have b:i<a.length:=(List.getElem?_eq_some_iff.mp e).1;have a:i<vs.length:=by rw[h.1];exact b
 calc⟨vs[i],nofun,h.2 i _ _ nofun e⟩
inductive CO where
 |l (ds:List DV)|d (g:Int->Option DV) (n:Nat)
def OR(H:Hp):CO->HO->Prop
 | .l a,.lst vs=>ei H 4 vs a
 | .d g n,.dK a=>a.length<=n/\∀k:Int,match g k with
  |none=>fU a (Sum.inl k)=none
  |some d=>∃v,fU a (Sum.inl k)=some v/\HD H 4 v d
 |_,_=>False
theorem OR.cv{H H':Hp}(s:Cv H H'){c:CO}{o:HO}(h:OR H c o):OR H' c o:=by
 cases c with
 |l a=>
  cases o with
  |lst vs=>calc ei.cv s h
  |_=>calc aak h
 |d g n=>
  cases o with
  |dK a=>
   calc⟨h.1,λk=>?_⟩;have:=h.2 k;revert this
   cases g k with
   |none=>calc id
   |some d=>calc λ⟨v,e,a⟩=>⟨v,e,a.cv s⟩
  |_=>calc aak h
def FP(n:Nat->Nat)(ad:Nat->Nat->Addr)(b:Addr):Prop:=∃t i,i<n t/\b=ad t i
structure dD(F:Addr->Prop)(H:Hp)(n:Nat->Nat)(ad:Nat->Nat->Addr)(ct:Nat->Nat->CO):Prop where
 inj:∀t i t' i',i<n t->i'<n t'->ad t i=ad t' i'->t=t'/\i=i'
 out:∀t i,i<n t->¬F (ad t i)
 Jz:∀t i,i<n t->∃o,H (ad t i)=some o/\OR (ie (λb=>F b\/FP n ad b) H) (ct t i) o
def setC(ct:Nat->Nat->CO)(t i:Nat)(c:CO):Nat->Nat->CO:=λt' a=>if t'=t/\a=i then c else ct t' a
section
variable {F:Addr->Prop}{H H':Hp}{n:Nat->Nat}{ad:Nat->Nat->Addr}{ct ct':Nat->Nat->CO}
theorem dD.keep(h:dD F H n ad ct)(a:Fr F H H'):dD F H' n ad ct:=
 ⟨h.inj,h.out,λt i c=>by
  obtain⟨o,e,r⟩:=h.Jz t i c;calc⟨o,a.at e (h.out t i c),r.cv (a.mono λb z=>.inl z).ie⟩⟩
theorem dD.same(h:dD F H n ad ct)(s:au H H'):dD F H' n ad ct:=h.keep s.fr
theorem dD.congr(h:dD F H n ad ct)(e:∀t i,i<n t->ct t i=ct' t i):dD F H n ad ct':=
 ⟨h.inj,h.out,λt i a=>by rw[<-e t i a];calc h.Jz t i a⟩
theorem dD.upd(h:dD F H n ad ct){t i:Nat}(a:i<n t){c:CO}{o:HO}(r:OR (ie (λb=>F b\/FP n ad b) H) c o):dD F (upd H (ad t i) o) n ad (setC ct t i c):=by
 have c:(λb=>F b\/FP n ad b) (ad t i):=.inr ⟨t,i,a,rfl⟩;calc⟨h.inj,h.out,λd f g=>?_⟩;rw[BC c];by_cases e:d=t/\f=i
 ·obtain⟨rfl,rfl⟩:=e;exact⟨o,ab,by unfold setC;rw[if_pos ⟨rfl,rfl⟩];calc r⟩
 ·obtain⟨b,c,i⟩:=h.Jz d f g;calc⟨b,?_,by unfold setC;rw[if_neg e];calc i⟩;rw[ax (λz=>e (h.inj _ _ _ _ g a z))];calc c
theorem dD.lst(h:dD F H n ad ct){t i:Nat}(c:i<n t){a:List DV}(e:ct t i=.l a):∃vs,H (ad t i)=some (.lst vs)/\ei (ie (λb=>F b\/FP n ad b) H) 4 vs a:=by
 obtain⟨o,d,r⟩:=h.Jz t i c;rw[e]at r
 cases o with
 |lst vs=>calc⟨vs,d,r⟩
 |_=>calc r.elim
theorem dD.Xi(h:dD F H n ad ct){t i:Nat}(c:i<n t){g:Int->Option DV}{N:Nat}(e:ct t i=.d g N):∃a,H (ad t i)=some (.dK a)/\OR (ie (λb=>F b\/FP n ad b) H) (.d g N) (.dK a):=by
 obtain⟨o,f,r⟩:=h.Jz t i c;rw[e]at r
 cases o with
 |dK vs=>calc⟨vs,f,r⟩
 |_=>calc r.elim
theorem dD.app(h:dD F H n ad ct){t i:Nat}(a:i<n t){c:List DV}(e:ct t i=.l c){vs:List V}(j:H (ad t i)=some (.lst vs)){us:List V}{d:List DV}(g:ei (ie (λb=>F b\/FP n ad b) H) 4 us d):
  dD F (L2.upd H (ad t i) (.lst (vs++us))) n ad (setC ct t i (.l (c++d))):=by
 obtain⟨b,f,r⟩:=h.lst a e;rw[j]at f
 cases f;calc h.upd a (show ei _ 4 _ _ from r.app g)
theorem dD.set(h:dD F H n ad ct){t i:Nat}(a:i<n t){c:List DV}(e:ct t i=.l c){vs:List V}(j:H (ad t i)=some (.lst vs)){k:Nat}{v:V}{d:DV}(g:HD (ie (λb=>F b\/FP n ad b) H) 4 v d):
  dD F (L2.upd H (ad t i) (.lst (vs.set k v))) n ad (setC ct t i (.l (c.set k d))):=by
 obtain⟨b,f,r⟩:=h.lst a e;rw[j]at f
 cases f;calc h.upd a (show ei _ 4 _ _ from r.set g k)
theorem OR.soft{c:CO}{o:HO}(h:OR H c o):soft o:=by
 cases c<;>cases o<;>first|trivial|calc aak h
theorem dD.soft(h:dD F H n ad ct){t i:Nat}(a:i<n t):∃o,H (ad t i)=some o/\DD.soft o:=by
 obtain⟨o,e,r⟩:=h.Jz t i a;calc⟨o,e,r.soft⟩
theorem dD.fp(h:dD F H n ad ct){b:Addr}(a:FP n ad b):∃o,H b=some o/\DD.soft o:=by
 obtain⟨t,i,c,rfl⟩:=a;calc h.soft c
theorem dD.ne(h:dD F H n ad ct){b:Addr}{o:HO}(e:H b=some o)(c:¬DD.soft o):¬FP n ad b:=λz=>by
 obtain⟨u,a,d⟩:=h.fp z;rw[e]at a;cases a;calc c d
theorem dD.ht(h:dD F H n ad ct)(c:∀b,F b->∃o,H b=some o/\DD.soft o){m:Nat}{x:V}{d:DV}(g:HT H m x d):HD (DD.ie (λb=>F b\/FP n ad b) H) m x d:=by
 calc HT.hd (g.aK λb d e=>?_);rw[fJ]
 ·exact e
 ·rintro(z | z)
  ·obtain⟨o,a,f⟩:=c b z;rw[e]at a;cases a;exact f
  ·calc h.ne e id z
end
end DD
namespace DD
open PySem L2
variable {B i:Nat}
def _root_.List.bg{α:Type}(l:List α)(d:α):α:=l.getD (l.length-1) d
theorem getD_at{α:Type}{l:List α}{x d:α}(h:l[i]?=some x):l.getD i d=x:=by rw[List.getD_eq_getElem?_getD,h];rfl
theorem aS{α:Type}{l:List α}{d:α}(h:i<l.length):l[i]?=some (l.getD i d):=by rw[List.getD_eq_getElem?_getD,cN h];rfl
theorem getD_mem{α:Type}{l:List α}{d:α}(h:i<l.length):l.getD i d∈l:=U' (aS h)
theorem r6{α:Type}{l:List α}{x d:α}:(l++[x]).bg d=x:=by
 unfold List.bg;calc getD_at nofun
theorem fq{α:Type}{l:List α}{d:α}(h:1<=l.length):l.bg d∈l:=getD_mem ()
theorem jJ{α:Type}{l:List α}{d:α}(h:1<=l.length):l[l.length-1]?=some (l.bg d):=aS ()
structure MS where
 dQ:List (List Int×List Int)
 wp:List (List Int)
 hr:List (List Int)
structure WY where
 say:List Int
 snd:List (Option (Int×Int))
 cD:List (Option (Int×Int))
structure RS where
 picks:List (Int×Int)
 mm:Nat->MS
 ww:Nat->WY
structure NT where
 ms:List MD
 ws:List (Int×Int×Str)
def pairD(p:Int×Int):DV:=.tup [.int p.1,.int p.2]
def ml:Option (Int×Int)->DV
 |none=>.bH
 |some p=>pairD p
def qE(s:List Int×List Int):DV:=xQ s.1 s.2
def NT.M(n:NT)(m:Nat):Int:=(n.ms.getD m default).M
def NT.nn(n:NT)(m:Nat):Nat:=(n.ms.getD m default).ns.length
def NT.ds(n:NT)(m:Nat):List bx:=(n.ms.getD m default).ds
def NT.w(n:NT)(w:Nat):Int×Int×Str:=n.ws.getD w (0,0,"")
def NT.outs(n:NT)(m:Int):List Nat:=(List.range n.ws.length).filter λi=>decide ((n.w i).1=m)
def NT.ins(n:NT)(m:Int):List Nat:=(List.range n.ws.length).filter λi=>decide ((n.w i).2.1=m)
def NT.goal(n:NT)(w:Nat):Nat:=(n.w w).2.1.toNat
def NT.place(n:NT)(w:Nat):Nat:=(n.ins (n.w w).2.1).idxOf w
def RS.put(r:RS)(w:Nat)(x:Int)(s:Option (Int×Int)):RS:=
 {r with ww:=λk=>if k=w then⟨(r.ww w).say++[x],(r.ww w).snd++[s],(r.ww w).cD++[none]⟩ else r.ww k}
def RS.send(r:RS)(outs:List Nat)(ev:Int×Int):List (Int×Int)->RS
 | []=>r
 |p::a=>(if p.1.toNat<outs.length then r.put (outs.getD p.1.toNat 0) p.2 (some ev) else r).send outs ev a
def NT.work(n:NT)(r:RS)(w k:Nat):WS:=
 ou (n.M (n.goal w)) (n.place w) ((r.ww w).say.getD k 0) (n.ds (n.goal w)) ((r.mm (n.goal w)).dQ.bg ([],[])).1 ((r.mm (n.goal w)).dQ.bg ([],[])).2
def NT.ev(n:NT)(r:RS)(w:Nat):Int×Int:=((n.goal w:Nat),((r.mm (n.goal w)).dQ.length:Nat))
def NT.gc(n:NT)(r:RS)(w k:Nat):List Int:=
 let m:=n.goal w
 let a:=(r.mm m).hr.bg (List.replicate n.ms.length 0)
 let b:=match (r.ww w).snd.getD k none with
  |none=>a
  |some (s,c)=>List.zipWith max a ((r.mm s.toNat).hr.getD (c-1).toNat [])
 b.set m (n.ev r w).2
def RS.step(n:NT)(r:RS)(w k:Nat):RS:=
 let m:=n.goal w
 let res:=n.work r w k
 {picks:=r.picks++[((w:Int),(k:Int))]
  mm:=λi=>if i=m then⟨(r.mm m).dQ++[(res.ns,res.row)],(r.mm m).wp++[(r.mm m).wp.bg []++res.words],(r.mm m).hr++[n.gc r w k]⟩ else r.mm i
  ww:=λi=>if i=w then {(r.ww w) with cD:=(r.ww w).cD.set k (some (n.ev r w))} else r.ww i}
def RS.pick(n:NT)(r:RS)(w k:Nat):RS:=(r.step n w k).send (n.outs (n.goal w)) (n.ev r w) (n.work r w k).cI
def RS.ku(r:RS):List (Int×Int)->RS
 | []=>r
 |p::a=>(r.put p.1.toNat p.2 none).ku a
def RS.new(n:NT):RS:=⟨[],λm=>⟨[((n.ms.getD m default).ns,(n.ms.getD m default).row)],[[]],[]⟩,λ_=>⟨[],[],[]⟩⟩
def RS.begin(n:NT)(a:List (Int×Int)):RS:=(RS.new n).ku a
def iK(l:List (Option (Int×Int)))(k:Int):Option DV:=if 0<=k then(l.getD k.toNat none).map pairD else none
def RS.ct(r:RS):Nat->Nat->CO
 |0,_=>.l (r.picks.map pairD)
 |1,m=>.l ((r.mm m).dQ.map qE)
 |2,m=>.l ((r.mm m).wp.map λw=>.int (w.length:Nat))
 |3,m=>.l (((r.mm m).wp.bg []).map .int)
 |4,w=>.l ((r.ww w).say.map .int)
 |5,w=>.l ((r.ww w).snd.map ml)
 |_,w=>.l ((r.ww w).cD.map ml)
def NT.n(n:NT):Nat->Nat
 |0=>1
 |1=>n.ms.length
 |2=>n.ms.length
 |3=>n.ms.length
 |4=>n.ws.length
 |5=>n.ws.length
 |6=>n.ws.length
 |_=>0
structure NT.Ok(n:NT):Prop where
 My:n.ms.length<=5
 ms1:1<=n.ms.length
 zX:n.ws.length<=10
 good:∀d∈n.ms,d.good
 Y2:∀w∈n.ws,0<=w.1/\w.1<n.ms.length/\0<=w.2.1/\w.2.1<n.ms.length/\(w.2.2="row"\/w.2.2="heap")
structure K2(M:Int)(nn:Nat)(s:List Int×List Int):Prop where
 ln:s.1.length=nn
 bn:∀z∈s.1,0<=z/\z<M
 lr:s.2.length<=12
structure RS.Ok(n:NT)(r:RS):Prop where
 lw:∀m,m<n.ms.length->(r.mm m).dQ.length=(r.mm m).wp.length
 lh:∀m,m<n.ms.length->(r.mm m).dQ.length=(r.mm m).hr.length+1
 so:∀m,m<n.ms.length->∀s∈(r.mm m).dQ,K2 (n.M m) (n.nn m) s
 hl:∀m,m<n.ms.length->∀h∈(r.mm m).hr,h.length=n.ms.length
 ls:∀w,w<n.ws.length->(r.ww w).say.length=(r.ww w).snd.length
 lk:∀w,w<n.ws.length->(r.ww w).say.length=(r.ww w).cD.length
 sd:∀w,w<n.ws.length->∀s c,some (s,c)∈(r.ww w).snd->0<=s/\s<n.ms.length/\1<=c/\c<=(r.mm s.toNat).hr.length
 bp:∀m,m<n.ms.length->(r.mm m).dQ.length<=r.picks.length+1
 bw:∀m,m<n.ms.length->∀w∈(r.mm m).wp,w.length<=24*r.picks.length
 bs:∀w,w<n.ws.length->(r.ww w).say.length<=20+24*r.picks.length
 T8:∀m,m<n.ms.length->∀u∈(r.mm m).wp,u <+:(r.mm m).wp.bg []
theorem xU{M way said:Int}{n:Int}:∀(f:Nat) (b:List bx) (s:WS),(∀d∈b,d.ok n)->(∀p∈s.cI,0<=p.1)->∀p∈(xR M way said f b s).cI,0<=p.1
 |0,_,s,_,h=>h
 |f+1,[],s,_,h=>h
 |f+1,d::r,s,c,h=>by
  calc xU f _ _ (λe b=>c e (Y' _ (List.mem_of_mem_drop b))) ?_;intro p a;have a:p∈s.cI++ic ((d.vals.map (fI M way said s.ns s.row)).getD 0 0) d:=a;rcases List.mem_append.mp a with a|a
  ·exact h p a
  ·have g:=c d (X' ..)
   cases d with
   |send j v=>
    simp only[ic,List.mem_singleton]at a;subst a;calc g.1
   |_=>simp only[ic,List.not_mem_nil]at a
theorem BD{M way said:Int}:∀(f:Nat) (a:List bx) (s:WS),(xR M way said f a s).cI.length<=s.cI.length+a.length/\(xR M way said f a s).words.length<=s.words.length+a.length/\(xR M way said f a s).ns.length=s.ns.length
 |0,_,s=>⟨aau ..,aau ..,rfl⟩
 |f+1,[],s=>⟨E' _,E' _,rfl⟩
 |f+1,d::r,s=>by
  obtain⟨a,b,c⟩:=BD (M:=M) (way:=way) (said:=said) f (r.drop (mD M way said d s).toNat) (km M way said d s);have a:(km M way said d s).cI.length<=s.cI.length+1:=by
   show(s.cI++ic _ d).length<=_
   cases d<;>simp[ic]
  have a:(km M way said d s).words.length<=s.words.length+1:=by
   show(s.words++gb _ d).length<=_
   cases d<;>simp[gb]
  have a:(km M way said d s).ns.length=s.ns.length:=o9;have a:(r.drop (mD M way said d s).toNat).length<=r.length:=by simp
  refine⟨?_,?_,?_⟩
  ·show(xR M way said f _ _).cI.length<=_;simp only[List.length_cons];lia
  ·show(xR M way said f _ _).words.length<=_;simp only[List.length_cons];lia
  ·show(xR M way said f _ _).ns.length=_;lia
theorem BE{M way said:Int}(c:0<M):∀(f:Nat) (e:List bx) (s:WS),(∀z∈s.ns,0<=z/\z<M)->s.row.length<=12->(∀z∈(xR M way said f e s).ns,0<=z/\z<M)/\(xR M way said f e s).row.length<=12
 |0,_,s,h,g=>⟨h,g⟩
 |f+1,[],s,h,g=>⟨h,g⟩
 |f+1,d::r,s,h,g=>by
  refine BE c f _ _ ?_ ?_
  ·have b:∀y:Int,0<=y % M/\y % M < M:=λy=>⟨aay _ (),aap _ c⟩
   have a:∀(j:Nat) (y:Int),(0<=y/\y<M)->∀z∈s.ns.set j y,0<=z/\z<M:=λj y k z l=>by
    rcases List.mem_or_eq_of_mem_set l with c|c
    ·exact h z c
    ·rw[c];exact k
   show ∀z∈jI M s.ns ((d.vals.map (fI M way said s.ns s.row)).getD 0 0) d,0<=z/\z<M
   cases d with
   |set i v=>calc a _ _ (b _)
   |add i v=>calc a _ _ (b _)
   |times i v=>calc a _ _ (b _)
   |_=>exact h
  ·show(oo s.row ((d.vals.map (fI M way said s.ns s.row)).getD 0 0) d).length<=12
   cases d with
   |put v=>
    simp only[oo];split
    ·simp;lia
    ·calc g
   |drop=>simp only[oo,List.length_tail];lia
   |_=>calc g
section
variable {n:NT}{r:RS}
theorem NT.Ok.gd(h:n.Ok){m:Nat}(a:m<n.ms.length):(n.ms.getD m default).good:=by
 calc h.good _ (getD_mem a)
theorem NT.Ok.wy(h:n.Ok){w:Nat}(a:w<n.ws.length):0<=(n.w w).1/\(n.w w).1<n.ms.length/\0<=(n.w w).2.1/\(n.w w).2.1<n.ms.length/\((n.w w).2.2="row"\/(n.w w).2.2="heap"):=by
 calc h.Y2 _ (getD_mem a)
theorem NT.Ok.gX(h:n.Ok){w:Nat}(a:w<n.ws.length):n.goal w<n.ms.length:=by
 have:=h.wy a;unfold NT.goal;lia
theorem RS.Ok.v8(h:r.Ok n){m:Nat}(a:m<n.ms.length):1<=(r.mm m).dQ.length:=by rw[h.lh m a];lia
theorem RS.Ok.last(h:r.Ok n){m:Nat}(a:m<n.ms.length):K2 (n.M m) (n.nn m) ((r.mm m).dQ.bg ([],[])):=h.so m a _ (fq (h.v8 a))
theorem qX(a:n.Ok)(h:r.Ok n){w:Nat}(c:w<n.ws.length)(k:Nat):K2 (n.M (n.goal w)) (n.nn (n.goal w)) ((n.work r w k).ns,(n.work r w k).row)/\(n.work r w k).cI.length<=24/\(n.work r w k).words.length<=24/\∀p∈(n.work r w k).cI,0<=p.1:=by
 have b:=a.gX c;have g:=a.gd b;have l:=h.last b;have a:(n.ds (n.goal w)).length<=24:=g.Xh;have b:0<n.M (n.goal w):=by have:=g.m2;show 0<(n.ms.getD (n.goal w) default).M;lia
 obtain⟨d,e,f⟩:=BD (M:=n.M (n.goal w)) (way:=n.place w) (said:=(r.ww w).say.getD k 0) (n.ds (n.goal w)).length (n.ds (n.goal w)) ⟨((r.mm (n.goal w)).dQ.bg ([],[])).1,((r.mm (n.goal w)).dQ.bg ([],[])).2,[],[]⟩;obtain⟨h,i⟩:=BE b (way:=n.place w) (said:=(r.ww w).say.getD k 0) (n.ds (n.goal w)).length (n.ds (n.goal w)) ⟨((r.mm (n.goal w)).dQ.bg ([],[])).1,((r.mm (n.goal w)).dQ.bg ([],[])).2,[],[]⟩ l.bn l.lr;have c:=xU (M:=n.M (n.goal w)) (way:=n.place w) (said:=(r.ww w).say.getD k 0) (n:=n.nn (n.goal w)) (n.ds (n.goal w)).length (n.ds (n.goal w)) ⟨((r.mm (n.goal w)).dQ.bg ([],[])).1,((r.mm (n.goal w)).dQ.bg ([],[])).2,[],[]⟩ g.ok (λp b=>by simp at b);refine⟨⟨?_,h,i⟩,?_,?_,c⟩
 ·exact f.trans l.ln
 ·exact aac d (by simpa using a)
 ·calc aac e (by simpa using a)
structure RS.tO(n:NT)(r:RS)(B:Nat):Prop where
 lw:∀m,m<n.ms.length->(r.mm m).dQ.length=(r.mm m).wp.length
 lh:∀m,m<n.ms.length->(r.mm m).dQ.length=(r.mm m).hr.length+1
 so:∀m,m<n.ms.length->∀s∈(r.mm m).dQ,K2 (n.M m) (n.nn m) s
 hl:∀m,m<n.ms.length->∀h∈(r.mm m).hr,h.length=n.ms.length
 ls:∀w,w<n.ws.length->(r.ww w).say.length=(r.ww w).snd.length
 lk:∀w,w<n.ws.length->(r.ww w).say.length=(r.ww w).cD.length
 sd:∀w,w<n.ws.length->∀s c,some (s,c)∈(r.ww w).snd->0<=s/\s<n.ms.length/\1<=c/\c<=(r.mm s.toNat).hr.length
 bp:∀m,m<n.ms.length->(r.mm m).dQ.length<=r.picks.length+1
 bw:∀m,m<n.ms.length->∀w∈(r.mm m).wp,w.length<=24*r.picks.length
 bs:∀w,w<n.ws.length->(r.ww w).say.length<=B
 T8:∀m,m<n.ms.length->∀u∈(r.mm m).wp,u <+:(r.mm m).wp.bg []
theorem RS.tO.ok(h:r.tO n B)(a:B<=20+24*r.picks.length):r.Ok n:=⟨h.lw,h.lh,h.so,h.hl,h.ls,h.lk,h.sd,h.bp,h.bw,λw b=>aac (h.bs w b) a,h.T8⟩
theorem RS.tO.put(h:r.tO n B){w:Nat}{x:Int}{s:Option (Int×Int)}(g:∀a c,s=some (a,c)->0<=a/\a<n.ms.length/\1<=c/\c<=(r.mm a.toNat).hr.length):(r.put w x s).tO n (B+1):=by
 have e:∀k,(r.put w x s).ww k=if k=w then⟨(r.ww w).say++[x],(r.ww w).snd++[s],(r.ww w).cD++[none]⟩ else r.ww k:=λk=>rfl
 refine⟨h.lw,h.lh,h.so,h.hl,λv b=>?_,λv b=>?_,λv b a c d=>?_,h.bp,h.bw,λv b=>?_,h.T8⟩
 ·rw[e];split
  ·next z=>subst z;simp[h.ls v b]
  ·exact h.ls v b
 ·rw[e];split
  ·next z=>subst z;simp[h.lk v b]
  ·exact h.lk v b
 ·rw[e] at d;split at d
  ·next z=>
   subst z;rcases List.mem_append.mp d with d|d
   ·exact h.sd v b a c d
   ·simp at d;exact g a c d.symm
  ·exact h.sd v b a c d
 ·rw[e];split
  ·next z=>subst z;have:=h.bs v b;simp;lia
  ·have:=h.bs v b;lia
theorem RS.tO.mono{a:Nat}(h:r.tO n B)(b:B<=a):r.tO n a:={h with bs:=λw a=>aac (h.bs w a) b}
theorem RS.tO.send{outs:List Nat}{ev:Int×Int}:∀(b:List (Int×Int)) {r:RS}{B:Nat},r.tO n B->(∀a c,some ev=some (a,c)->0<=a/\a<n.ms.length/\1<=c/\c<=(r.mm a.toNat).hr.length)->(r.send outs ev b).tO n (B+b.length)
 | [],r,B,h,_=>h
 |p::b,r,B,h,d=>by
  show((if p.1.toNat<outs.length then r.put (outs.getD p.1.toNat 0) p.2 (some ev) else r).send outs ev b).tO n _;have e:B+(p::b).length=B+1+b.length:=by simp;lia
  rw[e];split
  ·exact RS.tO.send b (h.put d) d
  ·calc RS.tO.send b (h.mono ()) d
theorem RS.qY{outs:List Nat}{ev:Int×Int}:∀(a:List (Int×Int)) {r:RS},(r.send outs ev a).mm=r.mm/\(r.send outs ev a).picks=r.picks
 | [],r=>⟨rfl,rfl⟩
 |p::a,r=>by
  show((if p.1.toNat<outs.length then r.put (outs.getD p.1.toNat 0) p.2 (some ev) else r).send outs ev a).mm=_/\((if p.1.toNat<outs.length then r.put (outs.getD p.1.toNat 0) p.2 (some ev) else r).send outs ev a).picks=_;split
  ·exact RS.qY a
  ·calc RS.qY a
theorem zY{u v w:List Int}(h:u <+:v):u <+:v++w:=by
 obtain⟨t,rfl⟩:=h;calc⟨t++w,nofun⟩
theorem xV(o:n.Ok)(h:r.Ok n){w:Nat}(j:w<n.ws.length){k:Nat}:(n.gc r w k).length=n.ms.length:=by
 have p:=o.gX j;have m:((r.mm (n.goal w)).hr.bg (List.replicate n.ms.length 0)).length=n.ms.length:=by
  by_cases f:1<=(r.mm (n.goal w)).hr.length
  ·exact h.hl _ p _ (fq f)
  ·have e:(r.mm (n.goal w)).hr=[]:=by
    cases q:(r.mm (n.goal w)).hr with
    |nil=>rfl
    |cons a b=>rw[q]at f;simp at f
   rw[e];simp[List.bg]
 unfold NT.gc;simp only[List.length_set];split
 ·exact m
 ·next s c e=>
  have g:k<(r.ww w).snd.length:=by
   by_cases g:k<(r.ww w).snd.length
   ·exact g
   ·rw[List.getD_eq_getElem?_getD,List.getElem?_eq_none ()]at e;cases e
  have t:some (s,c)∈(r.ww w).snd:=by rw[<-e];exact getD_mem g
  obtain⟨u,v,x,y⟩:=h.sd w j s c t;have:=h.hl s.toNat () _ (getD_mem (l:=(r.mm s.toNat).hr) (i:=(c-1).toNat) (d:=[]) ());rw[List.length_zipWith,m,this];lia
theorem RS.Ok.step(t:n.Ok)(h:r.Ok n){w k:Nat}(p:w<n.ws.length):(r.step n w k).tO n (20+24*r.picks.length):=by
 have g:=t.gX p;obtain⟨A,F,G,H⟩:=qX t h p k;have j:∀i,(r.step n w k).mm i=if i=n.goal w then⟨(r.mm (n.goal w)).dQ++[((n.work r w k).ns,(n.work r w k).row)],(r.mm (n.goal w)).wp++[(r.mm (n.goal w)).wp.bg []++(n.work r w k).words],(r.mm (n.goal w)).hr++[n.gc r w k]⟩ else r.mm i:=λi=>rfl
 have q:∀i,(r.step n w k).ww i=if i=w then {(r.ww w) with cD:=(r.ww w).cD.set k (some (n.ev r w))} else r.ww i:=λi=>rfl
 have x:(r.step n w k).picks.length=r.picks.length+1:=by show(r.picks++[_]).length=_;simp
 refine⟨λm f=>?_,λm f=>?_,λm f s b=>?_,λm f s b=>?_,λv o=>?_,λv o=>?_,λv o a c b=>?_,λm f=>?_,λm f u e=>?_,λv o=>?_,λm f u e=>?_⟩
 ·rw[j];split
  ·simp[h.lw _ g]
  ·exact h.lw m f
 ·rw[j];split
  ·simp[h.lh _ g]
  ·exact h.lh m f
 ·rw[j] at b;split at b
  ·next z=>
   subst z;rcases List.mem_append.mp b with b|b
   ·exact h.so _ g s b
   ·simp at b;subst b;exact A
  ·exact h.so m f s b
 ·rw[j] at b;split at b
  ·rcases List.mem_append.mp b with b | b
   ·exact h.hl _ g s b
   ·simp at b;subst b;exact xV t h p
  ·exact h.hl m f s b
 ·rw[q];split
  ·exact h.ls w p
  ·exact h.ls v o
 ·rw[q];split
  ·simp[h.lk w p]
  ·exact h.lk v o
 ·have B:some (a,c)∈(r.ww v).snd:=by
   rw[q]at b;split at b
   ·next z=>subst z;exact b
   ·exact b
  obtain⟨C,D,E,y⟩:=h.sd v o a c B;calc⟨C,D,E,?_⟩;rw[j];split
  ·next z=>rw[z]at y;simp;lia
  ·exact y
 ·rw[j,x];split
  ·have:=h.bp _ g;simp;lia
  ·have:=h.bp _ f;lia
 ·rw[x];rw[j] at e;split at e
  ·rcases List.mem_append.mp e with e | e
   ·have:=h.bw _ g u e;lia
   ·simp at e;subst e;have:=h.bw _ g _ (fq (l:=(r.mm (n.goal w)).wp) (d:=[]) (by rw[<-h.lw _ g];calc h.v8 g));simp;lia
  ·have:=h.bw _ f u e;lia
 ·rw[q];split
  ·exact h.bs w p
  ·exact h.bs v o
 ·rw[j] at e ⊢;split at e
  ·next z=>
   rw[if_pos z];show u <+:((r.mm (n.goal w)).wp++[_]).bg [];rw[r6];rcases List.mem_append.mp e with e|e
   ·exact zY (h.T8 _ g u e)
   ·simp at e;subst e;exact List.prefix_refl _
  ·next z=>rw[if_neg z];calc h.T8 m f u e
theorem RS.Ok.pick(a:n.Ok)(h:r.Ok n){w k:Nat}(b:w<n.ws.length):(r.pick n w k).Ok n/\(r.pick n w k).picks=r.picks++[((w:Int),(k:Int))]:=by
 have d:=a.gX b;obtain⟨c,f,g,i⟩:=qX a h b k;have s:=RS.tO.send (outs:=n.outs (n.goal w)) (ev:=n.ev r w) (n.work r w k).cI (h.step a b (k:=k)) (λa c e=>by
  cases e;refine⟨(),(),?_,?_⟩
  ·have:=h.v8 d;lia
  ·have a:(r.step n w k).mm (n.goal w)=⟨(r.mm (n.goal w)).dQ++[((n.work r w k).ns,(n.work r w k).row)],(r.mm (n.goal w)).wp++[(r.mm (n.goal w)).wp.bg []++(n.work r w k).words],(r.mm (n.goal w)).hr++[n.gc r w k]⟩:=if_pos rfl;rw[show((n.goal w:Nat):Int).toNat=n.goal w from Int.toNat_natCast _,a,h.lh _ d];simp)
 have a:=(RS.qY (outs:=n.outs (n.goal w)) (ev:=n.ev r w) (n.work r w k).cI (r:=r.step n w k)).2;calc⟨s.ok ?_,a⟩;rw[a];show _<=20+24*(r.picks++[_]).length;simp;lia
end
end DD
namespace L2
open PySem PySem.Spec PyProof.Rows Builtin Builtin.Str
section
variable {X:Cx}
theorem r8{i j l:Nat}{x y z:Str}{c d e a:Pos}{k:Nat}(f:X.calm=true)(b:X.N.Nodup)(g:X.N[i]?=some x)(h:X.N[j]?=some y)(m:X.N[l]?=some z)(n:Loc X.env.scope x)(o:Loc X.env.scope y)(p:Loc X.env.scope z)
  (q:X.fn x=true\/X.env.scope.names.lookup x=some .local:=by grind) (r:X.fn y=true\/X.env.scope.names.lookup y=some .local:=by grind) (s:X.fn z=true\/X.env.scope.names.lookup z=some .local:=by grind):
  PG X (.Tuple [.Name x c,.Name y d,.Name z e] k a) (C8 X.K 3 (jC (eU i) (jC (eU j) (jC (eU l) C0)))):=EO f (kD (aQ b g n q) (kD (aQ b h o r) (kD (aQ b m p s) AZ)))
theorem DE{K:W.Frag}{i j l:Nat}{x y z:Str}{b c d a:Pos}{k:Nat}(e:X.K=K)(f:X.calm=true)(g:X.N.Nodup)(h:X.N[i]?=some x)(m:X.N[j]?=some y)(n:X.N[l]?=some z)(o:Loc X.env.scope x)(p:Loc X.env.scope y)(q:Loc X.env.scope z)
  (r:X.fn x=true\/X.env.scope.names.lookup x=some .local:=by grind) (s:X.fn y=true\/X.env.scope.names.lookup y=some .local:=by grind) (t:X.fn z=true\/X.env.scope.names.lookup z=some .local:=by grind):
  PG X (.Tuple [.Name x b,.Name y c,.Name z d] k a) (C8 K 3 (jC (eU i) (jC (eU j) (jC (eU l) C0)))):=e▸r8 f g h m n o p q r s t
end
end L2
namespace L2
open PySem PyProof.Rows
theorem Xk{a b:Nat}(h:a+64<b):a+1<b:=by lia
section
variable {X:Cx}
def zZ(z:Int):Value->Bool
 | .int i _=>i==z
 |_=>false
theorem r9:∀{ns:List Int}{us:List Value},Vals (ns.map V.int) us->us.length=ns.length/\∀(i:Nat) u z,us[i]?=some u->ns[i]?=some z->∃t,u=.int z t
 | [],_,.nil=>⟨rfl,λi u z h=>by simp at h⟩
 |n::ns,_,.cons r t=>by
  obtain⟨l,h⟩:=r9 t;refine⟨by simp[l],λi u z a b=>?_⟩
  cases i with
  |zero=>simp at a b;subst a b;calc r
  |succ i=>calc h i u z (by simpa using a) (by simpa using b)
def K3:V->List V->Hp->VK->Prop:=λx vs H Q=>∃(a:Addr) (ns:List Int) (j:Nat) (z:Int),x=.ref a/\vs=[.int z]/\H a=some (.lst (ns.map V.int))/\ns[j]?=some z/\(∀i y,i<j->ns[i]?=some y->y≠z)/\Q (.int j) H
theorem uW:Jv X "list.index" K3:=by
 intro k s σ H x O v P Q I r D h;obtain⟨a,d,j,z,rfl,rfl,E,l,G,q⟩:=h
 cases r;obtain⟨u,rfl,o,rfl⟩:=D.one;obtain⟨b,r,J,k⟩:=I.list (aN.of E);obtain⟨h,K⟩:=r9 r;have h:j<d.length:=(List.getElem?_eq_some_iff.mp l).1;have p:(d.map V.int).length<=sizeLine:=k;rw[List.length_map]at p;obtain⟨⟨r,s,h,L⟩,n,w,A,B,e⟩:=id J;simp only at A B e;subst A B e;have h:j<b.length:=by lia
 have c:∀m (f:m<b.length),∃y t,d[m]?=some y/\b[m]=.int y t:=λm f=>by
  have C:m<d.length:=by lia
  obtain⟨t,e⟩:=K m b[m] d[m] nofun nofun;exact⟨d[m],t,nofun,e⟩
 refine call_meets PySem.F.slot_list_index ⟨_,w,rfl⟩ PySem.F.entry_list_index (PySem.F.args_list_index_2 _ _) (SeqAt.list_indexAt a b.toArray n none L (.int z o) (zZ z) j (by simpa using h) (by rw[sizeLine_eq]at p;lia) ?_ ?_) ⟨w,λy M=>?_,?_⟩
 ·obtain⟨y,t,g,i⟩:=c j h;rw[l] at g
  cases g;simp[i,zZ]
 ·intro m f a;have C:m < b.length:=by simpa using f
  obtain⟨y,t,g,i⟩:=c m C;have:=G m y a g;simp[i,zZ,this]
 ·have N:y ∈ b:=by simpa using M
  obtain⟨m,f,rfl⟩:=List.getElem_of_mem N;obtain⟨y,t,g,i⟩:=c m f;rw[i];exact SeqAt.EqAt.int_int y t z o
 ·calc⟨.int _,H,I.tok _,⟨_,rfl⟩,q⟩
end
end L2
namespace L2
open PySem PySem.Spec PyProof.Rows
section
def T9(K:W.Frag):V->Option Int->Option Int->Hp->VK->Prop:=λx b c H Q=>match x with
 | .ref a=>∃xs,aN K H a xs/\∀p,H p=none->Q (.ref p) (upd H p (.lst (eC xs b c)))
 |_=>False
theorem Y4{X:Cx}:Kj X (T9 X.K):=by
 intro a s σ H x v b c d e f Q I g i j k h
 cases x<;>first
  |calc(show False from h).elim
  |skip
 obtain⟨l,m,q⟩:=h;calc Bk a s σ H _ v b c d e f Q I g i j k ⟨_,l,rfl,m,q⟩
theorem Po{X:Cx}{e:Expr}{b:TE}{c d:Option Expr}{f g:TO}{a h:Pos}(i:PE X e b)(j:PO X c f)(k:PO X d g):PE X (.Subscript e (.Slice c d none h) a) (Td (T9 X.K) b f g):=xn Y4 i j k
theorem K4{xs:List V}{i j:Nat}:(eC xs (some (i:Int)) (some (j:Int))).length<=j-i:=by
 unfold eC;rw[show HT.d9 xs.length 0 (some (i:Int))=min i xs.length from HT.Be _ _ i,show HT.d9 xs.length xs.length (some (j:Int))=min j xs.length from HT.Be _ _ j,List.length_take];calc aac (Nat.min_le_left _ _) ?_;rcases Nat.le_total xs.length i with h|h
 ·rw[Nat.min_eq_right h,Nat.sub_eq_zero_of_le (Nat.min_le_right _ _)];exact V' _
 ·rw[Nat.min_eq_left h];calc Nat.sub_le_sub_right (Nat.min_le_left _ _) _
theorem BG{xs:List V}{a b:Option Int}{v:V}(h:v∈eC xs a b):v∈xs:=List.mem_of_mem_drop (List.mem_of_mem_take h)
end
section
variable {a dx:Addr}{Q:Bool->Hp->Prop}{X:Cx}{H:Hp}{f:Str}{v:V}{K:W.Frag}
theorem fld{C:Addr}{b:List (Str×V)}{Q:V->Prop}(h:H a=some (.ins C dx b))(c:vF K C)(n:cO K C f)(l:b.lookup f=some v)(q:Q v):∃e d j g i,V.ref a=.ref e/\H e=some (.ins d j g)/\vF K d/\cO K d f/\g.lookup f=some i/\Q i:=⟨a,C,dx,b,v,rfl,h,c,n,l,q⟩
theorem mth{C:Addr}{b:List (Str×V)}{Q:Addr->Prop}(h:H a=some (.ins C dx b))(l:b.lookup f=none)(q:Q a):∃c e d,V.ref a=.ref c/\H c=some (.ins C e d)/\d.lookup f=none/\Q c:=⟨a,dx,b,rfl,h,l,q⟩
theorem eR{C:Addr}{b:List (Str×V)}{Q:V->Prop}(h:H a=some (.ins C dx b))(c:vF K C)(n:cO K C f)(l:b.lookup f=some v)(q:Q v):∃e d j g i,a=e/\H e=some (.ins d j g)/\vF K d/\cO K d f/\g.lookup f=some i/\Q i:=⟨a,C,dx,b,v,rfl,h,c,n,l,q⟩
theorem eX{C:Addr}{b:List (Str×V)}{Q:Addr->Prop}(h:H a=some (.ins C dx b))(l:b.lookup f=none)(q:Q a):∃c e d,a=c/\H c=some (.ins C e d)/\d.lookup f=none/\Q c:=⟨a,dx,b,rfl,h,l,q⟩
theorem tP{x y:V}{P:V->V->Prop}(h:bL K H a [x,y])(q:P x y):∃b xs,V.ref a=.ref b/\bL K H b xs/\xs.length=2/\∃v r,xs=v::r/\∃c d,r=c::d/\d=[]/\P v c:=⟨a,_,rfl,h,rfl,_,_,rfl,_,_,rfl,rfl,q⟩
theorem un3{x y z:V}{P:V->V->V->Prop}(h:bL K H a [x,y,z])(q:P x y z):∃d xs,V.ref a=.ref d/\bL K H d xs/\xs.length=3/\∃v r,xs=v::r/\∃e f,r=e::f/\∃b c,f=b::c/\c=[]/\P v e b:=⟨a,_,rfl,h,rfl,_,_,rfl,_,_,rfl,_,_,rfl,rfl,q⟩
theorem ig{A B R:Prop}(a:A)(b:B)(r:R):A/\B/\R:=⟨a,b,r⟩
theorem bz{α:Type}{A R:α->Prop}(x:α)(a:A x)(r:R x):∃x,A x/\R x:=⟨x,a,r⟩
theorem gB{α:Type}{A B R:α->Prop}(x:α)(a:A x)(b:B x)(r:R x):∃x,A x/\B x/\R x:=⟨x,a,b,r⟩
theorem Gr{α:Type}{A B C R:α->Prop}(x:α)(a:A x)(b:B x)(ch:C x)(r:R x):∃x,A x/\B x/\C x/\R x:=⟨x,a,b,ch,r⟩
theorem z8{α β:Type}{A R:α->β->Prop}(x:α)(y:β)(a:A x y)(r:R x y):∃x y,A x y/\R x y:=⟨x,y,a,r⟩
theorem cw{α β:Type}{A B R:α->β->Prop}(x:α)(y:β)(a:A x y)(b:B x y)(r:R x y):∃x y,A x y/\B x y/\R x y:=⟨x,y,a,b,r⟩
theorem ud{α β:Type}{A B C R:α->β->Prop}(x:α)(y:β)(a:A x y)(b:B x y)(ch:C x y)(r:R x y):∃x y,A x y/\B x y/\C x y/\R x y:=⟨x,y,a,b,ch,r⟩
theorem kN{α β:Type}{A B C D R:α->β->Prop}(x:α)(y:β)(a:A x y)(b:B x y)(ch:C x y)(c:D x y)(r:R x y):∃x y,A x y/\B x y/\C x y/\D x y/\R x y:=⟨x,y,a,b,ch,c,r⟩
theorem Y5{α β γ:Type}{A B R:α->β->γ->Prop}(x:α)(y:β)(z:γ)(a:A x y z)(b:B x y z)(r:R x y z):∃x y z,A x y z/\B x y z/\R x y z:=⟨x,y,z,a,b,r⟩
theorem Ua{α β γ:Type}{A B C R:α->β->γ->Prop}(x:α)(y:β)(z:γ)(a:A x y z)(b:B x y z)(ch:C x y z)(r:R x y z):∃x y z,A x y z/\B x y z/\C x y z/\R x y z:=⟨x,y,z,a,b,ch,r⟩
theorem fK{α β γ δ:Type}{A B R:α->β->γ->δ->Prop}(x:α)(y:β)(z:γ)(u:δ)(a:A x y z u)(b:B x y z u)(r:R x y z u):∃x y z u,A x y z u/\B x y z u/\R x y z u:=⟨x,y,z,u,a,b,r⟩
theorem Y6{α β γ δ:Type}{A B C R:α->β->γ->δ->Prop}(x:α)(y:β)(z:γ)(u:δ)(a:A x y z u)(b:B x y z u)(ch:C x y z u)(r:R x y z u):∃x y z u,A x y z u/\B x y z u/\C x y z u/\R x y z u:=⟨x,y,z,u,a,b,ch,r⟩
theorem Ub{α β γ δ:Type}{A B C D R:α->β->γ->δ->Prop}(x:α)(y:β)(z:γ)(u:δ)(a:A x y z u)(b:B x y z u)(ch:C x y z u)(c:D x y z u)(r:R x y z u):∃x y z u,A x y z u/\B x y z u/\C x y z u/\D x y z u/\R x y z u:=⟨x,y,z,u,a,b,ch,c,r⟩
theorem qF{α β γ δ:Type}{A B C D E R:α->β->γ->δ->Prop}(x:α)(y:β)(z:γ)(u:δ)(a:A x y z u)(b:B x y z u)(ch:C x y z u)(c:D x y z u)(d:E x y z u)(r:R x y z u):∃x y z u,A x y z u/\B x y z u/\C x y z u/\D x y z u/\E x y z u/\R x y z u:=⟨x,y,z,u,a,b,ch,c,d,r⟩
theorem Y7{α β γ δ:Type}{A B C D E F R:α->β->γ->δ->Prop}(x:α)(y:β)(z:γ)(u:δ)(a:A x y z u)(b:B x y z u)(ch:C x y z u)(c:D x y z u)(d:E x y z u)(e:F x y z u)(r:R x y z u):∃x y z u,A x y z u/\B x y z u/\C x y z u/\D x y z u/\E x y z u/\F x y z u/\R x y z u:=⟨x,y,z,u,a,b,ch,c,d,e,r⟩
theorem Y8{α β γ δ ε:Type}{A B C D R:α->β->γ->δ->ε->Prop}(x:α)(y:β)(z:γ)(u:δ)(v:ε)(a:A x y z u v)(b:B x y z u v)(ch:C x y z u v)(c:D x y z u v)(r:R x y z u v):∃x y z u v,A x y z u v/\B x y z u v/\C x y z u v/\D x y z u v/\R x y z u v:=⟨x,y,z,u,v,a,b,ch,c,r⟩
theorem Y9{α β γ δ ε:Type}{A B C D E R:α->β->γ->δ->ε->Prop}(x:α)(y:β)(z:γ)(u:δ)(v:ε)(a:A x y z u v)(b:B x y z u v)(ch:C x y z u v)(c:D x y z u v)(d:E x y z u v)(r:R x y z u v):∃x y z u v,A x y z u v/\B x y z u v/\C x y z u v/\D x y z u v/\E x y z u v/\R x y z u v:=⟨x,y,z,u,v,a,b,ch,c,d,r⟩
theorem Uc{α β γ δ ε:Type}{A B C D E F R:α->β->γ->δ->ε->Prop}(x:α)(y:β)(z:γ)(u:δ)(v:ε)(a:A x y z u v)(b:B x y z u v)(ch:C x y z u v)(c:D x y z u v)(d:E x y z u v)(e:F x y z u v)(r:R x y z u v):∃x y z u v,A x y z u v/\B x y z u v/\C x y z u v/\D x y z u v/\E x y z u v/\F x y z u v/\R x y z u v:=⟨x,y,z,u,v,a,b,ch,c,d,e,r⟩
theorem PE.imp{e:Expr}{t u:TE}(h:PE X e t)(i:∀σ H Q,u σ H Q->t σ H Q):PE X e u:=⟨λp s σ H Q I q=>h.out p s σ H Q I (i σ H Q q)⟩
def tV(i:Nat):TE:=λσ H Q=>match σ[i]? with
 |some (some v)=>Q v H
 |_=>False
theorem Pp{i:Nat}(σ:St)(H:Hp)(Q:VK)(h:tV i σ H Q):EH i σ H Q:=by
 unfold tV at h;split at h
 ·exact⟨_,by assumption,h⟩
 ·calc h.elim
def bB(Q:Bool->Hp->Prop):V->Hp->Prop
 | .bl k,H=>Q k H
 |_,_=>False
theorem Pq{Q:Bool->Hp->Prop}{x:V}{H:Hp}(h:bB Q x H):∃k,x=.bl k/\Q k H:=by
 cases x with
 |bl k=>calc⟨k,rfl,h⟩
 |_=>calc h.elim
theorem Ud{k:Bool}:bB Q (.bl k) H=Q k H:=rfl
theorem xW{k:Bool}(h:Q k H):bB Q (.bl k) H:=h
def tT(t:TE):TT:=λσ H Q=>t σ H (bB Q)
theorem Ue:bB Q=λx H=>∃k,x=.bl k/\Q k H:=by
 funext x H;calc propext ⟨Pq,?_⟩;rintro⟨k,rfl,h⟩;calc h
theorem MA:tT=A9:=by
 funext t σ H Q;show t σ H (bB Q)=_;rw[Ue];rfl
theorem Pr:tT=tB:=MA
section
variable {X:Cx}{a b:Expr}{ta tb:TE}{pos:Pos}
theorem az{c:CmpOp}{r:R2}(d:fX X (compareOp c) r)(e:PE X a ta)(f:PE X b tb)(g:behindInMarks c b=false):PT X (.Compare a [c] [b] pos) (tT (EX r ta tb)):=by
 rw[MA];calc Ba d e f g
theorem bu{e:Expr}{t:TE}(h:PE X e t)(b:∀a,PySem.isTrue e X.env a=(do let v <-a;standAt e.pos;holding [v] (truthy v)):=by intro _;rfl):PT X e (tT t):=by
 rw[Pr];calc N8 h b
theorem aq(i:Nat){x:Str}{pos:Pos}(a:X.N[i]?=some x:=by rfl)(b:SH X.env.scope x:=by first|calc Or.inl rfl|calc Or.inr (Or.inl rfl)|calc Or.inr (Or.inr rfl))(c:(x==("__debug__":Str))=false:=by decide)
  (d:(x==("__classdict__":Str))=false:=by decide):PE X (.Name x pos) (tV i):=(EI a b c d).imp Pp
end
section
variable {K:W.Frag}{H:Hp}{Q:VK}{i j:Int}{s t:Str}{a b:Addr}
def Pt(K:W.Frag):R2:=λx y H Q=>match x,y with
 | .int i,.int j=>Q (.bl (decide (i=j))) H
 | .str s,.str t=>Q (.bl (decide (s=t))) H
 |x,y=>OZ K x y H Q
def Ug(K:W.Frag):R2:=λx y H Q=>match x,y with
 | .int i,.int j=>Q (.bl (!decide (i=j))) H
 | .str s,.str t=>Q (.bl (!decide (s=t))) H
 |x,y=>Rt K x y H Q
theorem Gs:Pt K (.int i) (.int j) H Q=Q (.bl (decide (i=j))) H:=rfl
theorem Gu:Pt K (.str s) (.str t) H Q=Q (.bl (decide (s=t))) H:=rfl
theorem Gv:Pt K (.ref a) (.ref b) H Q=((kl K H 20 (.ref a) (.ref b)/\Q (.bl true) H)\/(rN K H a b/\Q (.bl false) H)):=rfl
theorem Gw:Ug K (.int i) (.int j) H Q=Q (.bl (!decide (i=j))) H:=rfl
theorem Gx:Ug K (.str s) (.str t) H Q=Q (.bl (!decide (s=t))) H:=rfl
theorem Gy:Ug K (.ref a) (.ref b) H Q=((kl K H 20 (.ref a) (.ref b)/\Q (.bl false) H)\/(rN K H a b/\Q (.bl true) H)):=rfl
theorem Gz:Pt K=OZ K:=by
 funext x y H Q
 cases x<;>cases y<;>first|rfl|calc vU.symm|calc vV.symm
theorem Pu:Ug K=Rt K:=by
 funext x y H Q
 cases x<;>cases y<;>first|rfl|calc vW.symm|calc vX.symm
theorem ba(a:X.A.units+64<cLine):fX X (compareOp .Eq) (Pt X.K):=Gz▸FE a
theorem eP(a:X.A.units+64<cLine):fX X (compareOp .NotEq) (Ug X.K):=Pu▸O0 a
theorem oz(a:X.K=K)(b:X.A.units+64<cLine):fX X (compareOp .Eq) (Pt K):=Gz▸KU a b
end
theorem HT.cE{n:Nat}{i:Int}(h:HT H n v (.int i)):v=.int i:=by
 cases h;rfl
theorem HT.cP{n:Nat}{s:Str}(h:HT H n v (.str s)):v=.str s:=by
 cases h;rfl
theorem HD.cE{n:Nat}{i:Int}(h:HD H n v (.int i)):v=.int i:=by
 cases h;rfl
theorem HD.cP{n:Nat}{s:Str}(h:HD H n v (.str s)):v=.str s:=by
 cases h;rfl
end
end L2
namespace DD
open PySem L2
variable {x:Int}{e:Int×Int}{u:Nat}{s:Option (Int×Int)}
def se(r:RS):Nat->Nat
 |0=>0
 |W+1=>se r W+(r.ww W).cD.countP Option.isSome
structure RS.Iv(n:NT)(r:RS):Prop where
 ev:∀(w k:Nat) (m c:Int),w<n.ws.length->(r.ww w).cD[k]?=some (some (m,c))->0<=m/\m<n.ms.length/\c<(r.mm m.toNat).dQ.length
 inj:∀(w k w' k':Nat) (e:Int×Int),w<n.ws.length->w'<n.ws.length->(r.ww w).cD[k]?=some (some e)->(r.ww w').cD[k']?=some (some e)->w=w'/\k=k'
 pk:∀p∈r.picks,∃w k:Nat,∃e,p=((w:Int),(k:Int))/\w<n.ws.length/\(r.ww w).cD[k]?=some (some e)
 cnt:se r n.ws.length=r.picks.length
theorem pb{r a:RS}:∀{W:Nat},(∀w,w<W->(a.ww w).cD.countP Option.isSome=(r.ww w).cD.countP Option.isSome)->se a W=se r W
 |0,_=>rfl
 |W+1,h=>by rw[se,se,pb λw a=>h w (),h W ()]
theorem xX{r:RS}:∀{W V:Nat},V<=W->se r V<=se r W
 |0,V,h=>Nat.le_of_eq (by rw[Nat.le_zero.mp h])
 |W+1,V,h=>by
  by_cases e:V=W+1
  ·rw[e];exact E' _
  ·calc aac (xX (W:=W) ()) (aau _ _)
theorem GB{r a:RS}{w:Nat}(c:(a.ww w).cD.countP Option.isSome=(r.ww w).cD.countP Option.isSome+1)(b:∀u,u≠w->a.ww u=r.ww u):∀{W:Nat},w<W->se a W=se r W+1
 |0,h=>absurd h (aaA _)
 |W+1,h=>by
  by_cases e:w=W
  ·subst e;have d:se a w=se r w:=pb λu a=>by rw[b u ()]
   rw[se,se,c,d];lia
  ·rw[se,se,GB c b (W:=W) (),b W (λz=>e z.symm)];lia
theorem DG{l:List (Option (Int×Int))}{k:Nat}:(l++[none])[k]?=some (some e)↔l[k]?=some (some e):=by
 by_cases h:k<l.length
 ·rw[List.getElem?_append_left h]
 ·rw[List.getElem?_append_right (),List.getElem?_eq_none (l:=l) ()];constructor
  ·intro z
   cases a:k-l.length with
   |zero=>rw[a]at z;simp at z
   |succ j=>rw[a]at z;simp at z
  ·intro z;cases z
section
variable {n:NT}{r:RS}
theorem GC{w:Nat}:((r.put w x s).ww u).cD=if u=w then(r.ww w).cD++[none] else(r.ww u).cD:=by
 show(if u=w then _ else _:WY).cD=_;split<;>rfl
theorem oA{w:Nat}{k:Nat}:((r.put w x s).ww u).cD[k]?=some (some e)↔(r.ww u).cD[k]?=some (some e):=by
 rw[GC];split
 ·next z=>subst z;exact DG
 ·calc Iff.rfl
theorem K5{w:Nat}{W:Nat}:se (r.put w x s) W=se r W:=pb λu _=>by
 rw[GC];split
 ·next z=>subst z;simp
 ·rfl
theorem RS.Iv.put(h:r.Iv n){w:Nat}{x:Int}{s:Option (Int×Int)}:(r.put w x s).Iv n:=
  ⟨λu k m c a f=>h.ev u k m c a (oA.mp f),λu k g i e a j b d=>h.inj u k g i e a j (oA.mp b) (oA.mp d),
   λp a=>let ⟨u,k,e,b,d,c⟩:=h.pk p a;⟨u,k,e,b,d,oA.mpr c⟩,K5.trans h.cnt⟩
theorem RS.Iv.send{outs:List Nat}{ev:Int×Int}:∀(a:List (Int×Int)) {r:RS},r.Iv n->(r.send outs ev a).Iv n
 | [],r,h=>h
 |p::a,r,h=>by
  show((if p.1.toNat<outs.length then r.put (outs.getD p.1.toNat 0) p.2 (some ev) else r).send outs ev a).Iv n;split
  ·exact RS.Iv.send a h.put
  ·calc RS.Iv.send a h
theorem RS.Iv.ku:∀(a:List (Int×Int)) {r:RS},r.Iv n->(r.ku a).Iv n
 | [],r,h=>h
 |p::a,r,h=>RS.Iv.ku a h.put
theorem RS.Iv.begin{a:List (Int×Int)}:(RS.begin n a).Iv n:=
 RS.Iv.ku a ⟨λw k m c _ h=>by simp[RS.new] at h,λw k a b e _ _ h=>by simp[RS.new] at h,λp a=>absurd a List.not_mem_nil,by
  have:∀W,se (RS.new n) W=0:=λW=>by
   induction W with
   |zero=>rfl
   |succ W a=>rw[se,a];rfl
  calc this _⟩
theorem BI:∀{l:List (Option (Int×Int))}{k:Nat}{e:Int×Int},l[k]?=some none->(l.set k (some e)).countP Option.isSome=l.countP Option.isSome+1
 | [],k,e,h=>by simp at h
 |a::l,0,e,h=>by
  simp at h;subst h;simp
 |a::l,k+1,e,h=>by
  have:=BI (l:=l) (k:=k) (e:=e) (by simpa using h);rw[List.set_cons_succ,List.countP_cons,List.countP_cons,this];lia
theorem BJ{w k:Nat}:((r.step n w k).ww u).cD=if u=w then(r.ww w).cD.set k (some (n.ev r w)) else(r.ww u).cD:=by
 show(if u=w then _ else _:WY).cD=_;split<;>rfl
theorem jK{w k j:Nat}(b:(r.ww w).cD[k]?=some none):((r.step n w k).ww u).cD[j]?=some (some e)↔(u=w/\j=k/\e=n.ev r w)\/(r.ww u).cD[j]?=some (some e):=by
 have c:k<(r.ww w).cD.length:=(List.getElem?_eq_some_iff.mp b).1;rw[BJ];split
 ·next z=>
  subst z;by_cases a:j=k
  ·subst a;rw[List.getElem?_set_self c,b];constructor
   ·intro z;cases z;exact .inl ⟨rfl,rfl,rfl⟩
   ·rintro(⟨_,_,rfl⟩ | z)
    ·rfl
    ·cases z
  ·rw[List.getElem?_set_ne (λz=>a z.symm)];exact⟨.inr,λz=>z.elim (λq=>absurd q.2.1 a) id⟩
 ·next z=>calc⟨.inr,λq=>q.elim (λq=>absurd q.1 z) id⟩
theorem xY{w k:Nat}{m:Nat}:((r.step n w k).mm m).dQ.length=(r.mm m).dQ.length+if m=n.goal w then 1 else 0:=by
 show(if m=n.goal w then _ else _:MS).dQ.length=_;split
 ·next z=>subst z;simp
 ·simp
theorem RS.Iv.step(h:r.Iv n)(z:n.Ok){w k:Nat}(x:w<n.ws.length)(l:(r.ww w).cD[k]?=some none):(r.step n w k).Iv n:=by
 have K:=z.gX x;refine⟨λu j m c g t=>?_,λu j B C e g y o q=>?_,λp i=>?_,?_⟩
 ·rcases(jK l).mp t with⟨_,_,e⟩ | t
  ·cases e;calc⟨(),(),?_⟩;rw[Int.toNat_natCast,xY,if_pos rfl];lia
  ·obtain⟨a,b,d⟩:=h.ev u j m c g t;calc⟨a,b,?_⟩;rw[xY];split<;>lia
 ·have v:∀{u j:Nat},u<n.ws.length->(r.ww u).cD[j]?=some (some (n.ev r w))->False:=λ{u j} g t=>by
   obtain⟨_,_,d⟩:=h.ev u j _ _ g t;rw[Int.toNat_natCast]at d;lia
  rcases(jK l).mp o with⟨F,G,I⟩|o<;>rcases(jK l).mp q with⟨a,b,J⟩|q
  ·exact⟨F.trans a.symm,G.trans b.symm⟩
  ·subst I;exact(v y q).elim
  ·subst J;exact(v g o).elim
  ·exact h.inj u j B C e g y o q
 ·have i:p ∈ r.picks++[((w:Int),(k:Int))]:=i;rcases List.mem_append.mp i with i | i
  ·obtain⟨u,j,e,o,q,a⟩:=h.pk p i;exact⟨u,j,e,o,q,(jK l).mpr (.inr a)⟩
  ·simp at i;exact⟨w,k,_,i,x,(jK l).mpr (.inl ⟨rfl,rfl,rfl⟩)⟩
 ·have a:((r.step n w k).ww w).cD.countP Option.isSome=(r.ww w).cD.countP Option.isSome + 1:=by rw[BJ,if_pos rfl,BI l]
  have b:∀u,u≠w->(r.step n w k).ww u=r.ww u:=λu g=>if_neg g;rw[GB a b x,h.cnt];show _=(r.picks++[_]).length;simp
theorem RS.Iv.pick(h:r.Iv n)(a:n.Ok){w k:Nat}(b:w<n.ws.length)(c:(r.ww w).cD[k]?=some none):(r.pick n w k).Iv n:=RS.Iv.send _ (h.step a b c)
variable {H H':Hp}{aX:List (List Key×V)}{w k:Nat}
end
end DD
namespace DD
open PySem L2
end DD
set_option maxHeartbeats 400000
namespace L2
open PySem PySem.Spec PyProof.Rows
section
section
variable {X:Cx}{o e:Expr}{es:List Expr}{to:TE}{t:TA}{apos p pos:Pos}{C:Addr}{m x:Str}{k j:Nat}{ps:List Str}{sp:Sp}{E:XK}
end
end
section
end
end L2
namespace L2
open PySem PySem.Spec PyProof.Rows
end L2
set_option maxHeartbeats 4000000
namespace L2
open PySem PySem.W PyProof.Rows
variable {p:Array Nat}{i:Nat}
structure ue(n:Nat)(lt:Nat->Nat->Bool):Prop where
 as:∀i j,lt i j=true->lt j i=false
 tr:∀i j k,lt i j=true->lt j k=true->lt i k=true
 Za:∀i j,i<n->j<n->i≠j->lt i j=false->lt j i=true
def v9(n:Nat)(c:Nat->Nat->Bool){α:Type}(t:KasT α)(Q:α->Prop):Prop:=
 ∀(b:Nat->Nat->(Bool->Shared->Prop)->Shared->Prop) (G:α->Shared->Prop) (s:Shared),(∀i j C,i<n->j<n->C (c i j) s->b i j C s)->(∀a,Q a->G a s)->t.kasWp b G s
section
variable {n:Nat}{lt:Nat->Nat->Bool}{α β:Type}
theorem v9.ret{a:α}{Q:α->Prop}(h:Q a):v9 n lt (.ret a) Q:=λ_ _ _ _ b=>b a h
theorem v9.ask{j:Nat}{k:Bool->KasT α}{Q:α->Prop}(c:i<n)(d:j<n)(h:v9 n lt (k (lt i j)) Q):v9 n lt (.ask i j k) Q:=λa G s b e=>b i j _ c d (h a G s b e)
theorem v9.bind{t:KasT α}{f:α->KasT β}{R:α->Prop}{Q:β->Prop}(h:v9 n lt t R)(d:∀a,R a->v9 n lt (f a) Q):v9 n lt (t.bind f) Q:=λb G s c e=>by
 rw[KasT.kasWp_bind];calc h b _ s c λa f=>d a f b G s c e
theorem v9.mono{t:KasT α}{R Q:α->Prop}(h:v9 n lt t R)(c:∀a,R a->Q a):v9 n lt t Q:=λb G s d e=>h b G s d λa f=>e a (c a f)
def PP(n:Nat)(p:Array Nat):Prop:=p.Perm (List.range n).toArray
theorem PP.size(h:PP n p):p.size=n:=by have:=h.size_eq;simpa using this
theorem PP.get(h:PP n p){i:Nat}(a:i<n):p[i]?=some (p.getD i 0):=by
 have:=h.size;rw[Array.getD_eq_getD_getElem?,Array.getElem?_eq_getElem ()];rfl
theorem PP.ze(h:PP n p){i:Nat}(a:i<n):p.getD i 0<n:=by
 have e:=h.get a;have m:p.getD i 0∈p:=Array.mem_of_getElem? e;have:=h.mem_iff.mp m;simpa using this
theorem PP.inj(h:PP n p){i j:Nat}(b:i<n)(d:j<n)(f:i≠j):p.getD i 0≠p.getD j 0:=λe=>by
 have g:p.toList.Nodup:=(h.toList).nodup_iff.mpr (by simpa using List.nodup_range);have a:=h.get b;have c:=h.get d;rw[<-Array.getElem?_toList]at a c;rw[e,<-c]at a;calc f ((List.getElem?_inj (by have:=h.size;simpa[this] using b) g).mp a)
def SS(lt:Nat->Nat->Bool)(p:Array Nat)(k:Nat):Prop:=∀i j,i<j->j<k->lt (p.getD i 0) (p.getD j 0)=true
def SD(lt:Nat->Nat->Bool)(p:Array Nat)(k:Nat):Prop:=∀i j,i<j->j<k->lt (p.getD j 0) (p.getD i 0)=true
theorem SS.succ(a:ue n lt){p:Array Nat}{k:Nat}(h:SS lt p k)(b:1<=k)(e:lt (p.getD (k-1) 0) (p.getD k 0)=true):SS lt p (k+1):=λi j b c=>by
 by_cases z:j<k
 ·exact h i j b z
 ·obtain rfl:j=k:=by lia
  by_cases y:i=j-1
  ·rw[y];exact e
  ·calc a.tr _ _ _ (h i (j-1) () ()) e
theorem SD.succ(a:ue n lt){p:Array Nat}{k:Nat}(h:SD lt p k)(b:1<=k)(e:lt (p.getD k 0) (p.getD (k-1) 0)=true):SD lt p (k+1):=λi j b c=>by
 by_cases z:j<k
 ·exact h i j b z
 ·obtain rfl:j=k:=by lia
  by_cases y:i=j-1
  ·rw[y];exact e
  ·calc a.tr _ _ _ e (h i (j-1) () ())
theorem Aa(l:ue n lt){p:Array Nat}(g:PP n p):∀(f k:Nat),1<=k->k+f<=n->SS lt p k->v9 n lt (kas_asc p f k) λm=>k<=m/\m<=k+f/\SS lt p m/\(m<k+f->lt (p.getD m 0) (p.getD (m-1) 0)=true)
 |0,k,o,_,h=>.ret ⟨E' _,E' _,h,λz=>absurd z (aam _)⟩
 |f+1,k,o,a,h=>by
  unfold kas_asc;refine .ask (g.ze ()) (g.ze ()) ?_
  cases e:lt (p.getD k 0) (p.getD (k-1) 0) with
  |true=>
   rw[if_pos rfl];calc .ret ⟨E' _,(),h,λ_=>e⟩
  |false=>
   rw[if_neg ∅];have q:=l.Za _ _ (g.ze ()) (g.ze ()) (g.inj (i:=k) (j:=k-1) () () ()) e;calc(Aa l g f (k+1) () () (h.succ l o q)).mono λm ⟨a,b,c,d⟩=>⟨(),(),c,λz=>d ()⟩
theorem BK(o:ue n lt){p:Array Nat}(l:PP n p):∀(f k:Nat),1<=k->k+f<=n->SD lt p k->v9 n lt (kas_desc f p k 0) λr=>r.1=p/\k<=r.2.1/\r.2.1<=k+f/\r.2.2=0/\SD lt p r.2.1
 |0,k,q,_,h=>.ret ⟨rfl,E' _,E' _,rfl,h⟩
 |f+1,k,q,a,h=>by
  unfold kas_desc;refine .ask (l.ze ()) (l.ze ()) ?_
  cases e:lt (p.getD k 0) (p.getD (k-1) 0) with
  |true=>
   rw[if_pos rfl,if_neg ()];calc(BK o l f (k+1) () () (h.succ o q e)).mono λm ⟨a,b,c,d,g⟩=>⟨a,(),(),d,g⟩
  |false=>
   rw[if_neg ∅];have a:=o.Za _ _ (l.ze ()) (l.ze ()) (l.inj (i:=k) (j:=k-1) () () ()) e;calc .ask (l.ze ()) (l.ze ()) ?_;rw[a,if_pos rfl];calc .ret ⟨rfl,E' _,aau _ _,rfl,h⟩
theorem GD{k:Nat}(a:PP n p)(c:k<=n)(b:i<k):(kas_rev p 0 k).getD i 0=p.getD (k-1-i) 0:=by
 have c:=a.size;unfold kas_rev;rw[Array.getD_eq_getD_getElem?,getElem?_mirror_all (),if_pos ⟨Nat.zero_le _,b⟩,Nat.zero_add,<-Array.getD_eq_getD_getElem?]
theorem GG{j:Nat}(a:PP n p):PP n (kas_rev p i j):=(mirror_perm _ _ _ _).trans a
theorem GH(a:ue n lt){p:Array Nat}(d:PP n p){k:Nat}(b:1<=k)(e:k<=n)(h:SD lt p k):v9 n lt (kas_tail3 k n p) λr=>1<=r.1/\r.1<=n/\PP n r.2/\SS lt r.2 r.1:=by
 unfold kas_tail3;calc .bind (Aa a (GG (i:=0) (j:=k) d) (n-k) k b () λi j a f=>?_) λm ⟨a,b,c,_⟩=>.ret ⟨(),(),GG d,c⟩;rw[GD d e (),GD d e f];calc h _ _ () ()
theorem GI(g:ue n lt){p:Array Nat}(f:PP n p)(a:1<=n):v9 n lt (kas_count n p) λr=>1<=r.1/\r.1<=n/\PP n r.2/\SS lt r.2 r.1:=by
 unfold kas_count;calc .bind (Aa g f (n-1) 1 (E' _) () λi j k l=>by lia) λm o=>?_;obtain⟨a,b,c,d⟩:=o;by_cases b:m=n
 ·rw[if_pos (by simpa using b)];exact .ret ⟨a,(),f,c⟩
 ·rw[if_neg (by simpa using b)];by_cases h:m > 1
  ·rw[if_pos h];calc .ask (f.ze ()) (f.ze ()) ?_;rw[c 0 (m-1) () (),if_pos rfl];exact .ret ⟨a,(),f,c⟩
  ·rw[if_neg h];obtain rfl:m=1:=by lia
   unfold kas_descPart;refine .bind (BK g f (n-(1+1)) (1+1) () () λi j k l=>?_) λr ⟨e,a,b,c,q⟩=>?_
   ·obtain⟨rfl,rfl⟩:i=0/\j=1:=by lia
    exact d ()
   ·rw[if_neg (),e];calc GH g f () () q
theorem sh(b:ue n lt){p:Array Nat}(a:PP n p){k:Nat}(c:k<n)(d:SS lt p k):∀(f l r:Nat),l<=r->r<=k->r-l<=f->(∀i,i<l->lt (p.getD i 0) (p.getD k 0)=true)->(∀i,r<=i->i<k->lt (p.getD k 0) (p.getD i 0)=true)->v9 n lt (kas_place p k f l r) λm=>m<=k/\(∀i,i<m->lt (p.getD i 0) (p.getD k 0)=true)/\(∀i,m<=i->i<k->lt (p.getD k 0) (p.getD i 0)=true)
 |0,l,r,e,g,q,h,o=>by
  obtain rfl:l=r:=by lia
  calc .ret ⟨g,h,o⟩
 |f+1,l,r,e,g,q,h,o=>by
  unfold kas_place;by_cases z:l >= r
  ·rw[if_pos z];obtain rfl:l=r:=by lia
   exact .ret ⟨g,h,o⟩
  ·rw[if_neg z];refine .ask (a.ze c) (a.ze ()) ?_
   cases e:lt (p.getD k 0) (p.getD ((l+r)/2) 0) with
   |true=>
    rw[if_pos rfl];calc sh b a c d f l _ () () () h λi m q=>?_;by_cases y:i=(l+r)/2
    ·rw[y];exact e
    ·calc b.tr _ _ _ e (d _ _ () q)
   |false=>
    rw[if_neg ∅];have h:=b.Za _ _ (a.ze c) (a.ze ()) (a.inj (i:=k) (j:=(l+r)/2) c () ()) e;calc sh b a c d f _ r () g () (λi m=>?_) o;by_cases y:i=(l+r)/2
    ·rw[y];exact h
    ·calc b.tr _ _ _ (d _ _ () ()) h
theorem GJ{k l:Nat}(b:PP n p)(a:k<n)(c:l<=k):(bubble p k (k-l)).getD i 0=if i=l then p.getD k 0 else if l<i/\i<=k then p.getD (i-1) 0 else p.getD i 0:=by
 have a:=b.size;rw[Array.getD_eq_getD_getElem?,getElem?_bubble () _ (),show k-(k-l)=l by lia];by_cases a:i=l
 ·rw[if_pos a,if_pos a,<-Array.getD_eq_getD_getElem?]
 ·rw[if_neg a,if_neg a];by_cases b:l < i/\i<=k
  ·rw[if_pos b,if_pos b,<-Array.getD_eq_getD_getElem?]
  ·rw[if_neg b,if_neg b,<-Array.getD_eq_getD_getElem?]
theorem GK(e:ue n lt):∀(f:Nat) {p:Array Nat}(k:Nat),PP n p->1<=k->k+f=n->SS lt p k->v9 n lt (kas_bin f p k) λq=>PP n q/\SS lt q n
 |0,p,k,d,_,a,h=>.ret ⟨d,by rw[show n=k by lia];calc h⟩
 |f+1,p,k,d,b,a,h=>by
  unfold kas_bin;calc .bind (sh e d () h k 0 k (V' _) (E' _) () (λi z=>absurd z (aaA _)) λi a b=>by lia) λl g=>?_;obtain⟨a,b,c⟩:=g;calc GK e f (k+1) ((bubble_perm _ _ _).trans d) () () λi j m o=>?_;rw[GJ d () a,GJ d () a];by_cases e:i=l
  ·rw[if_pos e,if_neg (),if_pos ()];exact c _ () ()
  ·rw[if_neg e];by_cases a:j=l
   ·rw[if_neg (),if_pos a];exact b _ ()
   ·rw[if_neg a];by_cases b:l < i/\i<=k
    ·rw[if_pos b,if_pos ()];exact h _ _ () ()
    ·rw[if_neg b];by_cases a:l < j/\j<=k
     ·rw[if_pos a];by_cases z:i=j - 1
      ·lia
      ·exact h _ _ () ()
     ·rw[if_neg a];calc h _ _ m ()
theorem K6(e:ue n lt)(a:1<=n):v9 n lt (kas_sort n) λq=>PP n q/\SS lt q n:=by
 unfold kas_sort;calc .bind (GI e (Array.Perm.refl _) a) λr f=>?_;obtain⟨a,b,c,d⟩:=f;by_cases z:r.1<n
 ·rw[if_pos z,show max r.1 1=r.1 by lia];exact GK e _ _ c a () d
 ·rw[if_neg z];obtain e:r.1=n:=by lia
  rw[e]at d;calc .ret ⟨c,d⟩
end
end L2
namespace L2
open PySem PySem.Spec PyProof.Rows
end L2
set_option maxHeartbeats 400000
namespace L2
open PySem PySem.Spec PyProof.Rows
section
def Uh(h:Heap)(d:Addr)(a:Array DictEntry)(ep:Nat):Prop:=∃o,h.get? d=some o/\o.ExactDict/\o.data=.dict a ep
theorem Uh.type{s:Shared}{d:Addr}{a:Array DictEntry}{ep:Nat}(x:Uh s.heap d a ep):s.TypeIs (.ref d) "dict":=let ⟨o,h,c,_⟩:=x;⟨o,h,c.1⟩
section
variable {P:Program}{w:World}{H:Hp}{h:Heap}{a:Addr}{aX:List (List Key×V)}
theorem Paired.get{α β:Type}{F:α->β->Prop}:∀{l₁:List α}{c:List β},Paired F l₁ c->∀{i:Nat}{a:α},l₁[i]?=some a->∃b,c[i]?=some b/\F a b
 |_,_,.nil,i,a,e=>by simp at e
 |_,_,.cons r t,0,a,e=>by cases e;calc⟨_,rfl,r⟩
 |_,_,.cons r t,i+1,a,e=>Paired.get t (i:=i) e
end
end
section
section
variable {prog:Program}{w:World}{A:Around}{E:Value->Shared->Prop}{s:Shared}{d:Addr}{es:Array DictEntry}{ep:Nat}
end
section
variable {prog:Program}{w:World}{K:Type} [DecidableEq K]{knd:HeapKind prog w K}{A:Around}{E:Value->Shared->Prop}{s:Shared}
end
end
end L2
namespace L2
open PySem PySem.Spec PyProof.Rows DD
abbrev Ev:=Int×Int
abbrev Lg:=List (Ev×Option Ev)
def sj(L:Lg)(m:Int):Nat:=(L.filter λx=>decide (x.1.1=m)).length
theorem pd{L:Lg}{x:Ev×Option Ev}{m:Int}:sj (L++[x]) m=sj L m+if x.1.1=m then 1 else 0:=by
 unfold sj;rw[List.filter_append,List.length_append];congr 1;by_cases h:x.1.1=m<;>simp[h]
inductive sk(n:Nat):Lg->Prop
 |nil:sk n []
 |snoc {L:Lg} {e:Ev} {s:Option Ev}:sk n L->0<=e.1->e.1<n->e.2=sj L e.1+1->(∀p,s=some p->p∈L.map (·.1))->sk n (L++[(e,s)])
theorem sk.mem{n:Nat}{L:Lg}(h:sk n L):∀j k:Int,(j,k)∈L.map (·.1)↔0<=j/\j<n/\1<=k/\k<=sj L j:=by
 induction h with
 |nil=>intro j k;simp[sj];lia
 | @snoc L e s a c d f b g=>
  intro j k;rw[List.map_append,List.mem_append,g,pd];obtain⟨a,b⟩:=e;simp only[List.map_cons,List.map_nil,List.mem_singleton,Prod.mk.injEq]at c d f ⊢;by_cases q:a=j
  ·subst q;rw[if_pos rfl];lia
  ·rw[if_neg q];lia
def mE{α:Type}(D:List (Ev×α))(p:Ev):Option α:=(D.find? λx=>decide (x.1=p)).map (·.2)
theorem jR{α:Type}{D:List (Ev×α)}{e p:Ev}{x:α}:mE (D++[(e,x)]) p=(mE D p).or (if e=p then some x else none):=by
 unfold mE;rw[List.find?_append]
 cases D.find? λx=>decide (x.1=p) with
 |some y=>rfl
 |none=>by_cases h:e=p<;>simp[h]
theorem mO{α:Type}{D:List (Ev×α)}{p:Ev}(h:p∉D.map (·.1)):mE D p=none:=by
 unfold mE;rw[List.find?_eq_none.mpr λx a q=>h (List.mem_map.mpr ⟨x,a,of_decide_eq_true q⟩)];rfl
def mF(e:Ev):Option Ev:=if e.2<=1 then none else some (e.1,e.2-1)
def kO(n:Nat)(D:List (Ev×List Int)):Option Ev->List Int
 |none=>List.replicate n 0
 |some p=>(mE D p).getD (List.replicate n 0)
def xZ(n:Nat)(D:List (Ev×List Int))(x:Ev×Option Ev):List Int:=(List.zipWith max (kO n D (some (x.1.1,x.1.2-1))) (kO n D x.2)).set x.1.1.toNat x.1.2
def fL(n:Nat)(L:Lg):List (Ev×List Int):=L.foldl (λD x=>D++[(x.1,xZ n D x)]) []
def uf(S:List Ev)(x:Ev):List Ev:=if x∈S then S else S++[x]
def qy(D:List (Ev×List Ev))(S:List Ev):Option Ev->List Ev
 |none=>S
 |some p=>uf (((mE D p).getD []).foldl uf S) p
def sm(D:List (Ev×List Ev))(x:Ev×Option Ev):List Ev:=qy D (qy D [] (mF x.1)) x.2
def fM(L:Lg):List (Ev×List Ev):=L.foldl (λD x=>D++[(x.1,sm D x)]) []
theorem Ab{n:Nat}{L:Lg}{x:Ev×Option Ev}:fL n (L++[x])=fL n L++[(x.1,xZ n (fL n L) x)]:=by unfold fL;rw[List.foldl_append];rfl
theorem x6{L:Lg}{x:Ev×Option Ev}:fM (L++[x])=fM L++[(x.1,sm (fM L) x)]:=by unfold fM;rw[List.foldl_append];rfl
theorem sr{S:List Ev}{x y:Ev}:y∈uf S x↔y∈S\/y=x:=by
 unfold uf;split
 ·exact⟨.inl,λh=>h.elim id λh=>by rw[h];assumption⟩
 ·simp
theorem BL{S:List Ev}{x:Ev}(h:S.Nodup):(uf S x).Nodup:=by
 unfold uf;split
 ·exact h
 ·rename_i d;rw[List.nodup_append];calc⟨h,nofun,λa f b c=>by simp at c;subst c;calc λe=>d (e▸f)⟩
theorem su{y:Ev}:∀{T S:List Ev},y∈T.foldl uf S↔y∈S\/y∈T
 | [],S=>by simp
 |x::T,S=>by rw[List.foldl_cons,su,sr,List.mem_cons];calc or_assoc
theorem uX:∀{T S:List Ev},S.Nodup->(T.foldl uf S).Nodup
 | [],S,h=>h
 |x::T,S,h=>uX (T:=T) (BL h)
structure KnE(n:Nat)(L:Lg)(e:Ev)(R:List Int)(S:List Ev):Prop where
 len:R.length=n
 nd:S.Nodup
 out:e∉S
 mem:∀j k:Int,((j,k)∈S\/(j,k)=e)↔0<=j/\j<n/\1<=k/\k<=R.getD j.toNat 0
 pos:∀j:Nat,j<n->0<=R.getD j 0/\R.getD j 0<=sj L j
 own:R.getD e.1.toNat 0=e.2
theorem l8{a b:List Int}{j:Nat}{n:Nat}(c:a.length=n)(d:b.length=n)(h:j<n):(List.zipWith max a b).getD j 0=max (a.getD j 0) (b.getD j 0):=by
 rw[List.getD_eq_getElem?_getD,List.getD_eq_getElem?_getD,List.getD_eq_getElem?_getD,List.getElem?_zipWith,cN (),cN ()];rfl
theorem sk.all{n:Nat}{L:Lg}(h:sk n L):(fL n L).map (·.1)=L.map (·.1)/\(fM L).map (·.1)=L.map (·.1)/\∀e∈L.map (·.1),∃R S,mE (fL n L) e=some R/\mE (fM L) e=some S/\KnE n L e R S:=by
 induction h with
 |nil=>calc⟨rfl,rfl,λe U=>by simp at U⟩
 | @snoc L e s l F G W X U=>
  obtain⟨m,I,J⟩:=U;have g:e∉L.map (·.1):=λz=>by have:=(l.mem e.1 e.2).mp z;lia
  rw[Ab,x6];calc⟨by rw[List.map_append,List.map_append,m];rfl,by rw[List.map_append,List.map_append,I];rfl,λp d=>?_⟩;have Y:∀j:Int,sj L j<=sj (L++[(e,s)]) j:=λj=>by rw[pd];lia
  by_cases K:p=e
  ·subst K;have i:∀o:Option Ev,(∀q,o=some q->q ∈ L.map (·.1))->(kO n (fL n L) o).length=n/\(∀a:List Ev,a.Nodup->(qy (fM L) a o).Nodup)/\
     (∀j:Nat,j<n->0<=(kO n (fL n L) o).getD j 0/\(kO n (fL n L) o).getD j 0<=sj L j)/\
     (∀(a:List Ev) (j k:Int),(j,k)∈qy (fM L) a o↔(j,k)∈a\/(0<=j/\j<n/\1<=k/\k<=(kO n (fL n L) o).getD j.toNat 0)):=by
    intro o Z
    cases o with
    |none=>
     calc⟨by simp[kO],λa h=>h,λj c=>by simp[kO,List.getD_eq_getElem?_getD,List.getElem?_replicate,c],λa j k=>?_⟩;show _∈a↔_;calc⟨.inl,λz=>z.elim id λz=>?_⟩;have:(kO n (fL n L) none).getD j.toNat 0=0:=by simp[kO,List.getD_eq_getElem?_getD,List.getElem?_replicate];split<;>rfl
     lia
    |some q=>
     obtain⟨R,S,t,w,b⟩:=J q (Z q rfl);have U:kO n (fL n L) (some q)=R:=by simp[kO,t]
     have o:∀a,qy (fM L) a (some q)=uf (S.foldl uf a) q:=λa=>by simp[qy,w]
     rw[U];calc⟨b.len,λa h=>by rw[o];calc BL (uX h),b.pos,λa j k=>?_⟩;rw[o,sr,su,<-b.mem j k,or_assoc]
   have MB:∀q,mF p=some q->q∈L.map (·.1):=λq e=>by
    unfold mF at e;split at e
    ·cases e
    ·cases e;exact(l.mem _ _).mpr ⟨F,G,(),()⟩
   have e1:kO n (fL n L) (some (p.1,p.2-1))=kO n (fL n L) (mF p):=by
    unfold mF;split
    ·have:mE (fL n L) (p.1,p.2-1)=none:=mO λz=>by
      rw[m]at z;have:=(l.mem _ _).mp z;lia
     simp[kO,this]
    ·rfl
   obtain⟨M,a2,N,O⟩:=i (mF p) MB;obtain⟨P,b2,T,b4⟩:=i s X;generalize kO n (fL n L) (mF p)=A at *;generalize hB:kO n (fL n L) s=B at *;have y:p.1.toNat<n:=by lia
   have hz:(List.zipWith max A B).length=n:=by rw[List.length_zipWith,M,P];lia
   have hR:xZ n (fL n L) (p,s)=(List.zipWith max A B).set p.1.toNat p.2:=by unfold xZ;simp only;rw[e1,hB]
   have hS:sm (fM L) (p,s)=qy (fM L) (qy (fM L) [] (mF p)) s:=rfl;have C:∀j:Nat,j<n->((List.zipWith max A B).set p.1.toNat p.2).getD j 0=if j=p.1.toNat then p.2 else max (A.getD j 0) (B.getD j 0):=λj c=>by
    rw[List.getD_eq_getElem?_getD,List.getElem?_set];by_cases q:p.1.toNat=j
    ·rw[if_pos q,if_pos q.symm,if_pos ()];rfl
    ·rw[if_neg q,if_neg (Ne.symm q),<-List.getD_eq_getElem?_getD,l8 M P c]
   have am:A.getD p.1.toNat 0=p.2-1:=by
    have u:=N p.1.toNat y;rw[show((p.1.toNat:Nat):Int)=p.1 by lia]at u;by_cases q:p.2<=1
    ·lia
    ·have v:=(O [] p.1 (p.2 - 1)).mp (by rw[show mF p=some (p.1,p.2 - 1) by unfold mF;rw[if_neg q]];calc sr.mpr (.inr rfl));rcases v with v | v
     ·simp at v
     ·lia
   have a:B.getD p.1.toNat 0<=p.2-1:=by
    have u:=T p.1.toNat y;rw[show((p.1.toNat:Nat):Int)=p.1 by lia]at u;lia
   calc⟨_,_,by rw[jR,mO (by rw[m];calc g),if_pos rfl];rfl,by rw[jR,mO (by rw[I];calc g),if_pos rfl];rfl,?_⟩;show KnE n _ p (xZ n (fL n L) (p,s)) (sm (fM L) (p,s));have a:∀j k:Int,(j,k)∈sm (fM L) (p,s)↔(0<=j/\j<n/\1<=k/\k<=A.getD j.toNat 0)\/(0<=j/\j<n/\1<=k/\k<=B.getD j.toNat 0):=λj k=>by
    rw[hS,b4,O];simp
   rw[hR];refine⟨by rw[List.length_set];calc hz,b2 _ (a2 [] List.nodup_nil),λz=>?_,λj k=>?_,λj c=>?_,by rw[C _ y,if_pos rfl]⟩
   ·have:=(a p.1 p.2).mp z;lia
   ·rw[a];by_cases q:0<=j/\j < n
    ·rw[C j.toNat ()];by_cases r:j=p.1
     ·subst r;rw[if_pos rfl,am];have:((p.1,k)=p)↔k=p.2:=⟨λz=>by rw[<-z],λz=>by rw[z]⟩
      rw[this];lia
     ·rw[if_neg ()];have:¬((j,k)=p):=λz=>r (by rw[<-z]);rw[or_iff_left this];generalize A.getD j.toNat 0=x;generalize B.getD j.toNat 0=y;lia
    ·have:¬((j,k)=p):=λz=>q (by rw[show j=p.1 by rw[<-z]];calc⟨F,G⟩);constructor
     ·rintro(z | z)
      ·lia
      ·exact absurd z this
     ·intro z;lia
   ·rw[C j c,pd];have u:=N j c;have v:=T j c;by_cases q:j=p.1.toNat
    ·subst q;have a:((p.1.toNat:Nat):Int)=p.1:=by lia
     rw[if_pos rfl,a,if_pos rfl];have e:0<=(sj L p.1:Int):=Int.natCast_nonneg _;exact⟨(),by rw[W];push_cast;lia⟩
    ·rw[if_neg q];lia
  ·have xA:p∈L.map (·.1):=by
    rw[List.map_append,List.mem_append]at d;rcases d with d|d
    ·exact d
    ·exact absurd (by simpa using d) K
   obtain⟨R,S,t,w,b⟩:=J p xA;calc⟨R,S,by rw[jR,t];rfl,by rw[jR,w];rfl,b.len,b.nd,b.out,b.mem,λj c=>⟨(b.pos j c).1,Int.le_trans (b.pos j c).2 (by have:=Y j;lia)⟩,b.own⟩
end L2
set_option maxHeartbeats 4000000
namespace DD
open PySem L2
end DD
namespace L2
open PySem PySem.W PySem.Spec PyProof.Rows
variable {vs:List Value}{f:Nat->Int×Int}
def wa(a b:Int×Int):Bool:=decide (a.1<b.1)||(decide (a.1=b.1)&&decide (a.2<b.2))
theorem fN{a b:Int×Int}:wa a b=true↔a.1<b.1\/(a.1=b.1/\a.2<b.2):=by simp[wa]
theorem Ac{a b:Int×Int}:wa a b=false↔¬(a.1<b.1\/(a.1=b.1/\a.2<b.2)):=by rw[<-fN];simp
theorem Pw{n:Nat}(c:∀i j,i<n->j<n->i≠j->f i≠f j):ue n λi j=>wa (f i) (f j):=by
 refine⟨λi j h=>?_,λi j k a b=>?_,λi j d g k h=>?_⟩
 ·have:=fN.mp h;exact Ac.mpr ()
 ·have:=fN.mp a;have:=fN.mp b;exact fN.mpr ()
 ·have a:=Ac.mp h;have b:=c i j d g k;calc fN.mpr ?_;by_cases e:(f i).1=(f j).1
  ·by_cases a:(f i).2=(f j).2
   ·exact absurd (Prod.ext e a) b
   ·lia
  ·lia
def mP(h:Heap)(v:Value)(p:Int×Int):Prop:=∃a o n t u,v=.ref a/\h.get? a=some o/\o.cls=.type "tuple"/\o.data=.seq #[.int p.1 t,.int p.2 u] n
section
variable {prog:Program}{w:World}{A:Around}{E:Value->Shared->Prop}{s:Shared}
theorem K7{x y:Value}{p q:Int×Int}{Q:Bool->Shared->Prop}(c:mP s.heap x p)(d:mP s.heap y q)(h:Q (wa p q) s):wpAny (model prog w) A (keyLt' (tuples' true) x y) Q E s:=by
 obtain⟨a,e,i,j,k,rfl,f,l,g⟩:=c;obtain⟨b,m,n,o,r,rfl,a,e,i⟩:=d;calc kat_lt f g a i ?_;calc kat_cons (wpAny_eqBool_int ?_);by_cases e:p.1=q.1
 ·rw[show(p.1 == q.1)=true by simpa using e];calc kat_yes (kat_cons (wpAny_eqBool_int ?_));by_cases a:p.2=q.2
  ·rw[show(p.2==q.2)=true by simpa using a];calc kat_yes (kat_nil ?_);have:wa p q=false:=Ac.mpr ();rw[this]at h;exact h
  ·rw[show(p.2 == q.2)=false by simpa using a];calc kat_no ?_;calc kat_one _ _ (PyProof.Rows.lt_int ?_);have:wa p q=decide (p.2 < q.2):=by simp[wa,e]
   rw[this]at h;exact h
 ·rw[show(p.1 == q.1)=false by simpa using e];calc kat_no ?_;have:wa p q=decide (p.1 < q.1):=by simp[wa,e]
  rw[this]at h;calc oneLt_int h
theorem GL{h:Heap}:∀(vs:List Value) (f:Nat->Int×Int),(∀i v,vs[i]?=some v->mP h v (f i))->∃g,KatTups h vs g/\g.length=vs.length/\∀v∈g,∃n t,v=.int n t
 | [],_,_=>⟨[],KatTups.nil,rfl,λv d=>by simp at d⟩
 |x::vs,f,d=>by
  obtain⟨g,a,b,c⟩:=GL vs (λi=>f (i + 1)) λi v e=>d (i + 1) v e;obtain⟨y,o,n,t,u,rfl,h,j,k⟩:=d 0 x rfl;exact⟨_::g,KatTups.cons h j k rfl a,by simp[b],λv d=>by
   rcases List.mem_cons.mp d with rfl|d
   ·exact⟨_,_,rfl⟩
   ·calc c v d⟩
theorem DH{Q:SortKind->Shared->Prop}(a:0<vs.length)(d:∀i v,vs[i]?=some v->mP s.heap v (f i))(h:Q (tuples' true) s):wpAny (model prog w) A (keyKind' vs.toArray) Q E s:=by
 obtain⟨e,a,b,c⟩:=GL vs f d;refine kat_kind (T:=Value.type "int") a () (λv d=>?_) ∅ ?_
 ·obtain⟨n,t,rfl⟩:=c v d;exact Looks.of_pure rfl
 ·have:(Value.type "int" != Value.type "tuple")=true:=by decide
  rw[this];calc h
theorem qG{a:Addr}{n:Nat}{P:PySem.Fin->Shared->Prop}(k:s.heap.get? a=some (seqObj "list" vs.toArray n))(K:∀i v,vs[i]?=some v->mP s.heap v (f i))(L:∀i j,i<vs.length->j<vs.length->i≠j->f i≠f j)(M:vs.length<64)
  (h:∀p:List Nat,p.Perm (List.range vs.length)->p.Pairwise (λi j=>wa (f i) (f j)=true)->P (.done (.ret .none)) {s with heap:=sortedHeap s.heap a vs (p.map λi=>vs.getD i Value.none).toArray}):
  wpAny (model prog w) A (Builtin.«list.sort» ⟨[.ref a],[]⟩) P E s:=by
 rw[list_sort_plain];have n:a<s.heap.objs.size:=P' k;calc A' (listItems_at k rfl ?_);calc A' (listUpdate_at k rfl ?_);obtain⟨c,l⟩:∃c,(s.heap.update a (Obj.mapSeq λ_=>#[])).get? a=some (seqObj "list" #[] c):=⟨_,get?_update_seq k (λ_=>#[])⟩
 calc A' (seqEpoch_at l rfl ?_);calc A' (wpAny_newTuple ?_);calc A' (wpAny_newList ?_);calc aaD ?_;have r:∀b o,b≠a->s.heap.get? b=some o->(((s.heap.update a (Obj.mapSeq λ_=>#[])).push (seqObj "tuple" vs.toArray 0)).push (seqObj "list" #[] 0)).get? b=some o:=λb o N q=>by
  have z:b<s.heap.objs.size:=P' q;rw[Heap.get?_push_ne _ _ _ (by rw[size_push',Heap.size_update];calc Nat.ne_of_lt (Nat.lt_succ_of_lt z)),Heap.get?_push_ne _ _ _ (by rw[Heap.size_update];calc Nat.ne_of_lt z),Heap.get?_update_ne _ _ _ _ N];exact q
 have H:(((s.heap.update a (Obj.mapSeq λ_=>#[])).push (seqObj "tuple" vs.toArray 0)).push (seqObj "list" #[] 0)).get? a=some (seqObj "list" #[] c):=by
  rw[Heap.get?_push_ne _ _ _ (by rw[size_push',Heap.size_update];calc Nat.ne_of_lt (Nat.lt_succ_of_lt n)),Heap.get?_push_ne _ _ _ (by rw[Heap.size_update];calc Nat.ne_of_lt n)];exact l
 have J:∀i v,vs[i]?=some v->mP (((s.heap.update a (Obj.mapSeq λ_=>#[])).push (seqObj "tuple" vs.toArray 0)).push (seqObj "list" #[] 0)) v (f i):=λi v e=>by
  obtain⟨b,o,m,t,u,rfl,c,C,l⟩:=K i v e;calc⟨b,o,m,t,u,rfl,r b o (λz=>?_) c,C,l⟩;rw[z,k]at c
  cases c;exact absurd C (show ¬(Value.type "list"=Value.type "tuple") by decide)
 have x:=h;show wpAny (model prog w) A _ P E {s with heap:=((s.heap.update a (Obj.mapSeq λ_=>#[])).push (seqObj "tuple" vs.toArray 0)).push (seqObj "list" #[] 0)};dsimp only;have d:vs.toArray.size=vs.length:=by simp
 by_cases b:vs.toArray.size<2
 ·rw[if_pos b,if_pos b];calc A' (L' ?_);rw[StateT.run_pure];calc A' (L' ?_);dsimp only;calc A' (seqEpoch_at H rfl ?_);calc A' (listUpdate_at H rfl ?_ (hsz2:=by rw[Array.size_map];show(pairsOf vs).size<=_;rw[pairsOf_size,sizeLine_eq];lia));simp only[bne_self_eq_false,Bool.false_eq_true,if_false];have e:=x (List.range vs.length) (List.Perm.refl _) (by
   match vs,d,b with
   | [],_,_=>calc .nil
   | [_],_,_=>calc List.pairwise_singleton _ _
   | _::_::_,c,b=>simp at b;lia)
  have C:((List.range vs.length).map λi=>vs.getD i Value.none).toArray=(vs.toArray.zip vs.toArray).map (·.2):=by
   apply Array.toList_inj.mp;apply List.ext_getElem?;intro i;by_cases g:i<vs.length
   ·simp[g]
   ·simp[g]
  rw[C]at e;exact L' e
 ·rw[if_neg b,if_neg b];have c:2<=vs.length:=by lia
  calc A' (DH (f:=f) () J ?_);refine A' (aae (kat_run (E:=E) (κ:=tuples' true) (ks:=vs) (vs:=vs) (Q:=λI B=>B={s with heap:=((s.heap.update a (Obj.mapSeq λ_=>#[])).push (seqObj "tuple" vs.toArray 0)).push (seqObj "list" #[] 0)}/\∃p:Array Nat,arrOf I=p.map (kas_item (vs.toArray.zip vs.toArray))/\failedOf I=none/\PP vs.length p/\SS (λi j=>wa (f i) (f j)) p vs.length)
   (G:=λp B=>B={s with heap:=((s.heap.update a (Obj.mapSeq λ_=>#[])).push (seqObj "tuple" vs.toArray 0)).push (seqObj "list" #[] 0)}/\PP vs.length p/\SS (λi j=>wa (f i) (f j)) p vs.length)
   rfl c M (λp I B _ b h a=>⟨a.1,p,b,h,a.2.1,a.2.2⟩) (K6 (Pw L) () _ _ _ (λi j C g D c=>?_) λp F=>⟨rfl,F⟩)) ?_ λ_ _ e=>e)
  ·refine K7 (J i _ ?_) (J j _ ?_) c
   ·rw[List.getD_eq_getElem?_getD,cN g];rfl
   ·rw[List.getD_eq_getElem?_getD,cN D];rfl
  rintro⟨⟨⟩,I⟩ B ⟨rfl,p,a,b,F,c⟩;dsimp only;have e:=kat_snds rfl a;rw[e];calc A' (seqEpoch_at H rfl ?_);calc A' (listUpdate_at H rfl ?_ (hsz2:=by rw[List.size_toArray,List.length_map,Array.length_toList,F.size,sizeLine_eq];lia));rw[b];simp only[bne_self_eq_false,Bool.false_eq_true,if_false];calc L' (x p.toList (by have:=Array.perm_iff_toList_perm.mp F;simpa using this) ?_);rw[List.pairwise_iff_getElem];intro i j g D a;have d:=F.size;have:=c i j a (by simpa[d] using D);rw[Array.length_toList]at g D;simpa[Array.getD,g,D] using this
theorem wb{l:Addr}{Q:Value->Shared->Prop}(d:s.heap.IsList l vs.toArray)(k:∀i v,vs[i]?=some v->mP s.heap v (f i))(n:∀i j,i<vs.length->j<vs.length->i≠j->f i≠f j)(r:vs.length<64)
  (h:∀p:List Nat,p.Perm (List.range vs.length)->p.Pairwise (λi j=>wa (f i) (f j)=true)->Q (.ref (s.heap.objs.size+1)) {s with heap:=sortedAll s.heap vs (p.map λi=>vs.getD i Value.none).toArray}):
  wpAny (model prog w) A (call (.builtin "sorted") [.ref l]) Q E s:=by
 refine Calls.call_function_entry kind_sorted plain_sorted entry_sorted (args_sorted1 _) ?_;unfold Builtin.«sorted»;refine A' (m:=checkCount "sorted" 1 1 _) (L' ?_);refine A' (collect_list d ?_);refine A' (wpAny_newList ?_);have a:((s.heap.push (seqObj "list" #[] 0)).update s.heap.objs.size (Obj.mapSeq (· ++vs.toArray))).objs.size=s.heap.objs.size+1:=by
  rw[Heap.size_update,size_push']
 have g:(((s.heap.push (seqObj "list" #[] 0)).update s.heap.objs.size (Obj.mapSeq (· ++vs.toArray))).push (seqObj "list" vs.toArray 0)).get? (s.heap.objs.size+1)=some (seqObj "list" vs.toArray 0):=by
  rw[<-a];exact T' _ rfl
 have c:∀b o,s.heap.get? b=some o->(((s.heap.push (seqObj "list" #[] 0)).update s.heap.objs.size (Obj.mapSeq (· ++vs.toArray))).push (seqObj "list" vs.toArray 0)).get? b=some o:=λb o q=>by
  have d:b<s.heap.objs.size:=P' q;rw[Heap.get?_push_ne _ _ _ (by rw[a];calc Nat.ne_of_lt (Nat.lt_succ_of_lt d)),Heap.get?_update_ne _ _ _ _ (Nat.ne_of_lt d),Heap.get?_push_ne _ _ _ (Nat.ne_of_lt d)];exact q
 show wpAny _ _ _ _ _ {s with heap:=((s.heap.push (seqObj "list" #[] 0)).update s.heap.objs.size (Obj.mapSeq (· ++vs.toArray))).push (seqObj "list" vs.toArray 0)};rw[a];refine A' (aaD (aat slot_list_sort ⟨_,g,rfl⟩ entry_list_sort (qG (f:=f) g (λi v e=>?_) n r λp x y=>⟨_,rfl,?_⟩) (args_list_sort _)))
 ·obtain⟨b,o,m,t,u,rfl,a,d,g⟩:=k i v e;exact⟨b,o,m,t,u,rfl,c _ _ a,d,g⟩
 calc L' ⟨_,rfl,h p x y⟩
end
end L2
namespace L2
open PySem PySem.W PySem.Spec PyProof.Rows
section
variable {prog:Program}{w:World}{A:Around}{E:Value->Shared->Prop}{s:Shared}{T:String}{r d:Addr}{n:Nat}{P:Nat->Value->Prop}{OK:Heap->Prop}
theorem x8{Q:List Value->Shared->Prop}(K:KdlSrc prog w T r d n P OK)(l:A.handled=none)(i:OK s.heap)(m:n<=sizeLine)
  (h:∀h' c f,(∀b o,s.heap.get? b=some o->h'.get? b=some o)->s.heap.objs.size<=h'.objs.size->ItemsOf P f n->Q f.toList {s with heap:=h',toks:=c}):wpAny (model prog w) A (collect (.ref r)) Q E s:=by
 unfold collect;refine A' (wpAny_runValue (codeAny_builtin entry_proto_collect' ?_));show wpAny _ _ (do again (.builtin "list.__iadd__" ⟨[<-newList [],.ref r],[]⟩)) _ _ s;refine A' (wpAny_newList (L' ⟨Code.quiet_builtin _ ⋯,codeAny_builtin entry_list_iadd' ?_⟩));show wpAny _ _ (Builtin.List.listExtendWith (.ref s.heap.objs.size) (.ref r) (.ref s.heap.objs.size)) _ _ {s with heap:=s.heap.push (seqObj "list" #[] 0)};have j:=K.there _ i;have p:(s.heap.push (seqObj "list" #[] 0)).get? s.heap.objs.size=some (seqObj "list" #[] 0):=T' _ rfl;rw[Around.under_plainId ⋯];refine kdl_extend (R:=λr k=>match r with
   | .ok (.ret v)=>wpAny (model prog w) A (match v with
    | .ref a=>(do
     let o <-load a
     match o.data with
     | .seq g _=>pure g.toList
     | _=>unsupported "internal:collect")
    | _=>unsupported "internal:collect") Q E k
   | .ok _=>False
   | .error e=>E e k) (s:={s with heap:=s.heap.push (seqObj "list" #[] 0)}) K l (K.keep _ _ i λb _ o e=>J' _ e) _ (Nat.ne_of_gt j.1) (Nat.ne_of_gt j.2) (.ref s.heap.objs.size) 0 p (λh' c f l i a k=>?_) m
 show wpAny (model prog w) A (do
   let o <-load s.heap.objs.size
   match o.data with
   | .seq g _=>pure g.toList
   | _=>unsupported "internal:collect") Q E {s with heap:=h',toks:=c}
 calc A' (wpAny_load a ?_);calc L' (h h' c f (λb o e=>i b o (W' (P' e)) (J' _ e)) (K' (P' a)) k)
theorem Ae{Q:Value->Shared->Prop}{ks:List Int}(K:KdlSrc prog w T r d n P OK)(i:A.handled=none)(j:OK s.heap)(a:n<64)(l:∀c:Array Value,ItemsOf P c n->IntsAre c.toList ks)
  (h:∀h' g (out:Array Value) f e a,(∀b o,s.heap.get? b=some o->h'.get? b=some o)->s.heap.objs.size<=a->h'.get? a=some (seqObj "list" out e)->IntsAre out.toList f->f.Perm ks->f.Pairwise (· <=·)->Q (.ref a) {s with heap:=h',toks:=g}):
  wpAny (model prog w) A (call (.builtin "sorted") [.ref r]) Q E s:=by
 refine Calls.call_function_entry kind_sorted plain_sorted entry_sorted (args_sorted1 _) ?_;unfold Builtin.«sorted»;refine A' (m:=checkCount "sorted" 1 1 _) (L' ?_);refine A' (x8 K i j (by rw[sizeLine_eq];lia) λh' g c p a k=>?_);have i:c.toList.length=n:=by rw[Array.length_toList];exact k.1
 refine A' (wpAny_newList ?_ (by rw[i,sizeLine_eq];lia));have j:(h'.push (seqObj "list" c.toList.toArray 0)).get? h'.objs.size=some (seqObj "list" c.toList.toArray 0):=T' _ rfl;refine A' (aaD (aat slot_list_sort ⟨_,j,rfl⟩ entry_list_sort (list_sort_tree j (l _ k) () λout f c i t=>⟨_,rfl,?_⟩) (args_list_sort _)));obtain⟨e,k⟩:=sortedHeap_at (out:=out) j;refine L' ⟨_,rfl,h _ g out f e _ (λb o q=>?_) ?_ k c i t⟩
 ·have e:=p b o q;have c:b<h'.objs.size:=P' e;show(sortedHeap (h'.push _) h'.objs.size _ out).get? b=some o;rw[sortedHeap_old (Nat.ne_of_lt c) (by rw[size_push'];calc Nat.lt_succ_of_lt c),Heap.get?_push_ne _ _ _ (Nat.ne_of_lt c)];exact e
 ·calc a
end
structure Py(H:Hp)(ys:List V)(ps:List (Int×Int)):Prop where
 len:ys.length=ps.length
 got:∀(i:Nat) p,ps[i]?=some p->∃b,ys[i]?=some (.ref b)/\H b=some (.tup [.int p.1,.int p.2])
theorem Py.mono{H a:Hp}{ys:List V}{b:List (Int×Int)}(h:Py H ys b)(s:cg H a):Py a ys b:=⟨h.len,λi p e=>let ⟨b,a,c⟩:=h.got i p e;⟨b,a,s _ _ c⟩⟩
theorem uY:∀{ns:List Int}{us:List Value},Vals (ns.map V.int) us->IntsAre us ns
 | [],_,.nil=>.nil
 |n::ns,_,.cons r a=>by
  obtain⟨t,rfl⟩:=r;calc .cons n t (uY a)
theorem ints_get:∀{us:List Value}{ks:List Int},us.length=ks.length->(∀(i:Nat) u k,us[i]?=some u->ks[i]?=some k->∃t,u=.int k t)->IntsAre us ks
 | [],[],_,_=>.nil
 |u::us,k::ks,a,h=>by
  obtain⟨t,rfl⟩:=h 0 u k rfl rfl;calc .cons k t (ints_get (by simpa using a) λi u k b c=>h (i+1) u k b c)
theorem x9{ys:List V}{us:List Value}(h:Vals ys us):∀(p:List Nat),(∀i∈p,i<ys.length)->Vals (p.map λi=>ys.getD i .bH) (p.map λi=>us.getD i Value.none)
 | [],_=>.nil
 |i::p,a=>by
  have b:=a i X';obtain⟨u,e,r⟩:=h.get (cN b);calc .cons ?_ (x9 h p λj c=>a j (Y' _ c));show RelV (ys.getD i .bH) (us.getD i Value.none);rw[List.getD_eq_getElem?_getD,List.getD_eq_getElem?_getD,cN b,e];calc r
def Ze(K:W.Frag):List V->Hp->VK->Prop:=λvs H Q=>∃a,vs=[.ref a]/\
  ((∃(ys:List V) (b:List (Int×Int)),aN K H a ys/\ys.length < 64/\Py H ys b/\b.Nodup/\∀l (d:List V) (c:List (Int×Int)),H l=none->c.Perm b->c.Pairwise (λx y=>wa x y=true)->Py H d c->Q (.ref l) (upd H l (.lst d)))\/
   (∃(b:List (Key×V)) (ks:List Int),H a=some (.dK b)/\b.map (·.1)=ks.map Sum.inl/\ks.length<64/\∀l (ns:List Int),H l=none->ns.Perm ks->ns.Pairwise (· <=·)->Q (.ref l) (upd H l (.lst (ns.map V.int))))\/
   (∃ks:List Int,aN K H a (ks.map V.int)/\ks.length < 64/\∀l (ns:List Int),H l=none->ns.Perm ks->ns.Pairwise (· <=·)->Q (.ref l) (upd H l (.lst (ns.map V.int)))))
theorem uZ{X:Cx}(O:X.calm=true):dR X (.builtin "sorted") (Ze X.K):=by
 intro v s σ H xs us Q I r h;obtain⟨a,rfl,h⟩:=h;obtain⟨u,rfl,ru⟩:=r.one
 cases ru;rcases h with⟨Z,c,P,r,l,z,q⟩|⟨R,L,e,F,r,q⟩|⟨L,P,r,q⟩
 ·obtain⟨M,B,S,hz⟩:=I.list P;have d:=B.length;have tX:=l.len;refine wb (f:=λi=>c.getD i (0,0)) S.isList (λi v e=>?_) (λi j m r zg e=>?_) () λp T xA=>?_
  ·have m:i < c.length:=by have:=(List.getElem?_eq_some_iff.mp e).1;lia
   obtain⟨b,C,G⟩:=l.got i _ (cN m);obtain⟨r,N,r3⟩:=B.get C;rw[e]at N
   cases N
   cases r3;obtain⟨_,r,rt,o,ho,O,n,hd⟩:=(show cy X.prog X.w H s.heap b (.tup [.int (c[i]).1,.int (c[i]).2]) from I.aU b _ G)
   obtain⟨v1,v2,rfl,⟨t1,rfl⟩,⟨t2,rfl⟩⟩:=rt.two;rw[show c.getD i (0,0)=c[i] by simp[m]];exact⟨b,o,n,t1,t2,rfl,ho,O,hd⟩
  ·rw[show c.getD i (0,0)=c[i]'() by simp[show i<c.length by lia],show c.getD j (0,0)=c[j]'() by simp[show j<c.length by lia]]at e;exact zg ((List.getElem_inj z).mp e)
  ·have hE:∀i ∈ p,i < Z.length:=λi m=>by have:=(T.mem_iff).mp m;rw[List.mem_range] at this;lia
   obtain⟨e,U⟩:=sortedAll_at s.heap M (p.map λi=>M.getD i Value.none).toArray;have n:p.length=c.length:=by rw[T.length_eq];simp;lia
   refine⟨.ref (s.heap.objs.size+1),_,I.laid (a:=s.heap.objs.size+1) (o:=.lst (p.map λi=>Z.getD i .bH)) (t':=s.toks) (λb o q=>sortedAll_old q) (Nat.le_succ _) (show cy X.prog X.w _ _ _ (.lst _) from⟨by rw[List.length_map];lia,_,e,x9 B p hE,U⟩),rfl,q _ _ (p.map λi=>c.getD i (0,0)) (I.aU.fresh (Nat.le_succ _)) ?_ ?_ ⟨nofun,λi x e=>?_⟩⟩
   ·have n:c=(List.range c.length).map λi=>c.getD i (0,0):=by
     apply List.ext_getElem?;intro i;by_cases m:i<c.length
     ·simp[m]
     ·simp[m]
    have m:=T.map λi=>c.getD i (0,0);rw[<-d,tX,<-n]at m;exact m
   ·exact List.pairwise_map.mpr xA
   ·rw[List.getElem?_map]at e;obtain⟨k,F,rfl⟩:=Option.map_eq_some_iff.mp e;have n:=hE k (U' F);obtain⟨b,C,G⟩:=l.got k _ (cN (show k<c.length by lia));calc⟨b,by rw[List.getElem?_map,F];simp[List.getD_eq_getElem?_getD,C],?_⟩;rw[show c.getD k (0,0)=c[k]'() by simp[show k<c.length by lia]];exact G
 ·obtain⟨z,r,vs,c,hd⟩:=Fq I.aU e;obtain⟨o,v,m,z,T,Z,g4,g5⟩:=id hd;have GN:vs.length=R.length:=c.length.symm;have n:R.length=L.length:=by have:=congrArg List.length F;simpa using this
  refine Ae (ks:=L) (kdl_dict (ep:=m) r) (I.ok.hd O) ⟨o,v,z,T,Z,g4,g5⟩ () (λL n=>?_) λm tk g W e a' Uj J ha hI l hs=>?_
  ·calc ints_get (by rw[Array.length_toList,n.1];lia) λi u k C G=>?_;rw[Array.getElem?_toList] at C;obtain⟨k',x,N,e4⟩:=n.2 i u C;have m:(R.map (·.1))[i]?=some (Sum.inl k):=by rw[F,List.getElem?_map,G];rfl
   rw[List.getElem?_map]at m;obtain⟨p,l,e6⟩:=Option.map_eq_some_iff.mp m;obtain⟨i,e7,e8,_⟩:=Paired.get c l;rw[N]at e7
   cases e7;rw[e6]at e8;rw[zm,show k'=Sum.inl k from e8.symm]at e4;rcases cR e4 with⟨j,t,Y,rfl⟩|⟨y,t,Y,rfl⟩
   ·cases Y;exact⟨t,rfl⟩
   ·cases Y
  ·exact⟨.ref a',_,I.laid (a:=a') (o:=.lst (W.map V.int)) (t':=tk) Uj J (show cy X.prog X.w _ _ _ (.lst _) from⟨by rw[List.length_map,l.length_eq];rw[sizeLine_eq];lia,g.toList,e,lX hI,by simpa using ha⟩),rfl,q _ _ (I.aU.fresh J) l hs⟩
 ·obtain⟨M,B,S,hz⟩:=I.list P;have d:=B.length;rw[List.length_map]at d;calc sorted_ints S.isList (uY B) () λg W i c j=>?_;obtain⟨e,U⟩:=sortedAll_at s.heap M g;calc⟨.ref (s.heap.objs.size+1),_,I.laid (a:=s.heap.objs.size+1) (o:=.lst (W.map V.int)) (t':=s.toks) (λb o q=>sortedAll_old q) (Nat.le_succ _) (show cy X.prog X.w _ _ _ (.lst _) from⟨by rw[List.length_map,c.length_eq];rw[sizeLine_eq];lia,g.toList,e,lX i,by simpa using U⟩),rfl,q _ _ (I.aU.fresh (Nat.le_succ _)) c j⟩
end L2
namespace DD
open PySem L2
variable {r:RS}
structure RS.Pk(n:NT)(r:RS):Prop where
 nd:r.picks.Nodup
 mem:∀(w k:Nat) e,w<n.ws.length->(r.ww w).cD[k]?=some (some e)->((w:Int),(k:Int))∈r.picks
section
variable {n:NT}{r:RS}
theorem RS.Pk.put(h:r.Pk n){w:Nat}{x:Int}{s:Option (Int×Int)}:(r.put w x s).Pk n:=⟨h.nd,λu k e a b=>h.mem u k e a (oA.mp b)⟩
theorem RS.Pk.send{outs:List Nat}{ev:Int×Int}:∀(a:List (Int×Int)) {r:RS},r.Pk n->(r.send outs ev a).Pk n
 | [],r,h=>h
 |p::a,r,h=>by
  show((if p.1.toNat<outs.length then r.put (outs.getD p.1.toNat 0) p.2 (some ev) else r).send outs ev a).Pk n;split
  ·exact RS.Pk.send a h.put
  ·calc RS.Pk.send a h
theorem RS.Pk.pick(h:r.Pk n)(f:r.Iv n){w k:Nat}(b:(r.ww w).cD[k]?=some none):(r.pick n w k).Pk n:=by
 refine RS.Pk.send _ ⟨?_,λu j e g a=>?_⟩
 ·show(r.picks++[((w:Int),(k:Int))]).Nodup;rw[List.nodup_append];calc⟨h.nd,nofun,λp i q c e=>?_⟩;rw[List.mem_singleton] at c;subst c;subst e;obtain⟨m,o,e,l,_,d⟩:=f.pk _ i
  cases l;rw[b]at d
  cases d
 ·show _ ∈ r.picks++[((w:Int),(k:Int))]
  rcases(jK b).mp a with⟨rfl,rfl,_⟩|a
  ·simp
  ·calc List.mem_append_left _ (h.mem u j e g a)
theorem ya:∀{W:Nat},se r W=0->∀w,w<W->(r.ww w).cD.countP Option.isSome=0
 |W+1,h,w,a=>by
  rw[se]at h;by_cases e:w=W
  ·subst e;lia
  ·calc ya (W:=W) () w ()
theorem RS.Pk.zero(b:r.Iv n)(e:r.picks=[]):r.Pk n:=by
 have a:=b.cnt;rw[e]at a;calc⟨by rw[e];calc .nil,λw k f c d=>?_⟩;have:=List.countP_eq_zero.mp (ya a w c) _ (U' d);simp at this
end
def ij(r:RS)(w n:Nat):List Nat:=(List.range n).filter λk=>((r.ww w).cD.getD k none).isSome
def gY(r:RS)(W:Nat):List (Nat×Nat):=(List.range W).flatMap λw=>(ij r w (r.ww w).cD.length).map λk=>(w,k)
def pI(p:Nat×Nat):Int×Int:=((p.1:Int),(p.2:Int))
theorem pf{W:Nat}:gY r (W+1)=gY r W++(ij r W (r.ww W).cD.length).map λk=>(W,k):=by
 unfold gY;rw[List.range_succ,List.flatMap_append];simp
theorem oB{r:RS}{w n k:Nat}:k∈ij r w n↔k<n/\∃e,(r.ww w).cD[k]?=some (some e):=by
 unfold ij;rw[List.mem_filter,List.mem_range,List.getD_eq_getElem?_getD];refine and_congr_right λ_=>?_
 cases(r.ww w).cD[k]? with
 |none=>simp
 |some o=>cases o<;>simp
theorem gC{r:RS}{p:Nat×Nat}:∀{W:Nat},p∈gY r W↔p.1<W/\∃e,(r.ww p.1).cD[p.2]?=some (some e)
 |0=>by simp[gY]
 |W+1=>by
  rw[pf,List.mem_append,gC (W:=W),List.mem_map];constructor
  ·rintro(⟨b,a⟩ | ⟨k,c,rfl⟩)
   ·exact⟨(),a⟩
   ·exact⟨Nat.lt_succ_self _,(oB.mp c).2⟩
  ·rintro⟨b,e,a⟩;by_cases z:p.1 < W
   ·exact .inl ⟨z,e,a⟩
   ·have b:p.1=W:=by lia
    calc .inr ⟨p.2,oB.mpr ⟨?_,e,by rw[<-b];calc a⟩,by rw[<-b]⟩;rw[<-b];calc(List.getElem?_eq_some_iff.mp a).1
theorem wd{w n:Nat}:(ij r w n).Pairwise (· < ·):=List.Pairwise.filter _ List.pairwise_lt_range
theorem we{r:RS}:∀{W:Nat},((gY r W).map pI).Pairwise λx y=>wa x y=true
 |0=>.nil
 |W+1=>by
  rw[pf,List.map_append,List.pairwise_append];refine⟨we,?_,λx c y d=>?_⟩
  ·rw[List.map_map,List.pairwise_map];calc wd.imp λ{a b} h=>?_;exact fN.mpr (.inr ⟨rfl,by show(a:Int)<b;lia⟩)
  ·obtain⟨p,e,rfl⟩:=List.mem_map.mp c;obtain⟨q,f,rfl⟩:=List.mem_map.mp d;obtain⟨k,_,rfl⟩:=List.mem_map.mp f;have:=(gC.mp e).1;calc fN.mpr (.inl (by show(p.1:Int)<W;lia))
theorem mQ{α:Type}{R:α->α->Prop}(j:∀a b,R a b->¬R b a):∀{xs ys:List α},xs.Pairwise R->ys.Pairwise R->(∀p,p∈xs↔p∈ys)->xs=ys
 | [],[],_,_,_=>rfl
 | [],y::ys,_,_,h=>absurd ((h y).mpr X') List.not_mem_nil
 |x::xs,[],_,_,h=>absurd ((h x).mp X') List.not_mem_nil
 |x::xs,y::ys,g,i,h=>by
  rw[List.pairwise_cons]at g i;have e:x=y:=by
   rcases List.mem_cons.mp ((h x).mp X') with e|k
   ·exact e
   rcases List.mem_cons.mp ((h y).mpr X') with e|a
   ·exact e.symm
   exact absurd (g.1 y a) (j _ _ (i.1 x k))
  subst e;have c:¬R x x:=λz=>j _ _ z z;rw[mQ j g.2 i.2 λp=>⟨λd=>?_,λd=>?_⟩]
  ·rcases List.mem_cons.mp ((h p).mp (Y' _ d)) with rfl | q
   ·exact absurd (g.1 _ d) c
   ·exact q
  ·rcases List.mem_cons.mp ((h p).mpr (Y' _ d)) with rfl | q
   ·exact absurd (i.1 _ d) c
   ·calc q
theorem Pz(a b:Int×Int)(h:wa a b=true):¬wa b a=true:=λa=>by
 have:=fN.mp h;have:=fN.mp a;lia
theorem yb{α:Type} [DecidableEq α]:∀(L M:List α),L.Nodup->(∀x∈L,x∈M)->M.length<=L.length->M.Perm L
 | [],M,_,_,h=>by rw[List.length_eq_zero_iff.mp (Nat.le_zero.mp h)]
 |x::L,M,c,a,h=>by
  have d:=a x X';have b:=List.nodup_cons.mp c;have p:=List.perm_cons_erase d;have e:=p.length_eq;simp only[List.length_cons]at h e;calc p.trans ((yb L (M.erase x) b.2 (λy c=>(List.mem_erase_of_ne (λe=>b.1 (by rw[<-e];calc c))).mpr (a y (Y' _ c))) ()).cons x)
theorem yc{r:RS}{w:Nat}:(ij r w (r.ww w).cD.length).length=(r.ww w).cD.countP Option.isSome:=by
 unfold ij;have:∀l:List (Option (Int×Int)),((List.range l.length).filter λk=>(l.getD k none).isSome).length=l.countP Option.isSome:=λl=>by
  rw[<-List.countP_eq_length_filter];induction l with
  |nil=>rfl
  |cons a l b=>rw[List.length_cons,List.range_succ_eq_map,List.countP_cons,List.countP_cons,List.countP_map,<-b];congr 1
 calc this _
theorem GO{H:Hp}{w:Nat}{c:List (Key×V)}(h:OR H (.d (iK (r.ww w).cD) ((r.ww w).cD.countP Option.isSome)) (.dK c)):∃ks:List Int,c.map (·.1)=ks.map Sum.inl/\ks.Perm ((ij r w (r.ww w).cD.length).map λk:Nat=>(k:Int)):=by
 have j:((ij r w (r.ww w).cD.length).map λk:Nat=>(Sum.inl (k:Int):Key)).Nodup:=List.pairwise_map.mpr (wd.imp λ{a b} h e=>by cases e;lia);have p:=yb _ (c.map (·.1)) j (λx g=>by
  obtain⟨k,m,rfl⟩:=List.mem_map.mp g;obtain⟨_,e,b⟩:=oB.mp m;have a:=h.2 (k:Int);rw[show iK (r.ww w).cD (k:Int)=some (pairD e) by unfold iK;rw[if_pos (),Int.toNat_natCast,List.getD_eq_getElem?_getD,b];rfl] at a;obtain⟨v,j,_⟩:=a;calc Kz j) (by rw[List.length_map,List.length_map,yc];calc h.1)
 refine⟨(c.map (·.1)).map λx:Key=>match x with | .inl i=>i | .inr _=>0,?_,?_⟩
 ·rw[List.map_map];calc(List.map_id _).symm.trans (List.map_congr_left λx g=>?_);obtain⟨k,_,rfl⟩:=List.mem_map.mp (p.mem_iff.mp g);rfl
 ·have:=p.map λx:Key=>match x with | .inl i=>i | .inr _=>0
  rw[List.map_map (l:=ij r w _)]at this;calc this
theorem yd{w n:Nat}{ns:List Int}(h:ns.Perm ((ij r w n).map λk:Nat=>(k:Int)))(d:ns.Pairwise (· <=·)):ns=(ij r w n).map λk:Nat=>(k:Int):=by
 have c:((ij r w n).map λk:Nat=>(k:Int)).Pairwise (· < ·):=List.pairwise_map.mpr (wd.imp λ{a b} h=>by lia);have f:ns.Nodup:=h.nodup_iff.mpr (c.imp λ{a b} h e=>by lia);calc mQ (R:=(· < ·)) (λa b h=>by lia) ((List.Pairwise.and d f).imp λ{a b} h=>by have:=h.1;have:=h.2;lia) c λp=>h.mem_iff
theorem wg{n:NT}(d:r.Iv n)(f:r.Pk n){a:List (Int×Int)}(g:a.Perm r.picks)(i:a.Pairwise λx y=>wa x y=true):a=(gY r n.ws.length).map pI:=by
 calc mQ Pz i we λp=>?_;rw[g.mem_iff,List.mem_map];constructor
 ·intro h;obtain⟨w,k,e,rfl,b,c⟩:=d.pk p h;exact⟨(w,k),gC.mpr ⟨b,e,c⟩,rfl⟩
 ·rintro⟨q,j,rfl⟩;obtain⟨b,e,c⟩:=gC.mp j;calc f.mem _ _ _ b c
theorem ye{n:NT}(g:r.Iv n)(f:r.Pk n):(gY r n.ws.length).length=r.picks.length:=by
 have i:((gY r n.ws.length).map pI).Nodup:=we.imp λ{a b} h e=>by subst e;have:=fN.mp h;lia
 have j:((gY r n.ws.length).map pI).Perm r.picks:=(List.perm_ext_iff_of_nodup i f.nd).mpr λp=>by
  rw[List.mem_map];constructor
  ·rintro⟨q,l,rfl⟩;obtain⟨c,e,d⟩:=gC.mp l;exact f.mem _ _ _ c d
  ·intro h;obtain⟨w,k,e,rfl,c,d⟩:=g.pk p h;exact⟨(w,k),gC.mpr ⟨c,e,d⟩,rfl⟩
 have:=j.length_eq;rwa [List.length_map]at this
end DD
namespace GP
open PySem L2 DD
def top(i:Nat):Stmt:=PySem.Challenge.pw_cutrestore_k41_orphans.main.body.getD i (.Pass ⟨0,0,0,0⟩)
structure Tx(K:W.Frag)(mg:Str->Option Value)(C CN CR F:Addr)(FD:List (Str×V)):Prop where
 aZ:mg "isinstance"=none
 GQ:mg "int"=none
 wj:mg "bool"=none
 BM:mg "str"=none
 bQ:mg "tuple"=none
 dX:mg "list"=none
 bZ:mg "len"=none
 eA:mg "range"=none
 Ul:mg "min"=none
 GR:mg "max"=none
 sy:mg "all"=none
 Um:mg "any"=none
 BN:mg "zip"=none
 cu:mg "enumerate"=none
 wk:mg "ValueError"=none
 sC:mg "sorted"=none
 dM:∃t,mg "MOST_DEEDS"=some (.int 24 t)
 dE:∃t,mg "MOST_MODULUS"=some (.int 1000000000000 t)
 dF:∃t,mg "MOST_NUMBERS"=some (.int 4 t)
 fe:∃t,mg "MOST_ROW"=some (.int 12 t)
 dw:∃t,mg "MOST_MACHINES"=some (.int 5 t)
 ft:∃t,mg "MOST_WAYS"=some (.int 10 t)
 dG:∃t,mg "MOST_LETTERS"=some (.int 20 t)
 dN:∃t,mg "SAID_BOUND"=some (.int 1000000000000000000000000000000000000000000000000000000000000 t)
 cJ:vF K C
 u6:mg "Machine"=some (.ref C)
 MC:cO K C "own_modulus"
 PB:cO K C "own_state"
 ME:cO K C "own_deeds"
 DI:W.findIn K (.ref C) "__class__"=some (some (.builtin "object.__class__"))
 DJ:W.mroIn K C (.type "object")=some true
 cQ:vF K CN
 Uo:mg "Net"=some (.ref CN)
 yf:cO K CN "own_machines"
 yg:cO K CN "own_ways"
 Af:cO K CN "own_letters"
 GS:W.findIn K (.ref CN) "__class__"=some (some (.builtin "object.__class__"))
 GU:W.mroIn K CN (.type "object")=some true
 aO:vF K CR
 Up:mg "Run"=some (.ref CR)
 cK:cO K CR "own_net"
 cS:cO K CR "picks_done"
 b8:cO K CR "states_had"
 dO:cO K CR "words_had"
 cA:cO K CR "words_said"
 bO:cO K CR "letters_say"
 eI:cO K CR "senders"
 cL:cO K CR "workers"
 GV:W.findIn K (.ref CR) "__class__"=some (some (.builtin "object.__class__"))
 GW:W.mroIn K CR (.type "object")=some true
 DK:W.specialIn K (.builtin "object.__class__") "__get__"=some (some (.builtin "getset_descriptor.__get__"))
 u7:W.takesIn K (.builtin "object.__class__")=some true
 i_k:W.kitOne K (.ref C) (.ref C)=some true
 BO:mg "FORMS"=some (.ref F)
 BP:CD K F FD
 MG:∀d:bx,∃p,PyProof.Rows.KTD.datumAt d.word FD=some (.ref p)/\∀H,bL K H p (d.uc.map V.str)
end GP
namespace GP
open PySem L2 DD
variable {D a b bq p:Addr}{Z:Addr->Prop}{d:bx}{H H' H0 H1 H2:Hp}{m:Int}{e:Int×Int}{ws:List (Int×Int×Str)}{ls s:List (Int×Int)}{ps:List (Nat×Nat)}{as ms:List Addr}{cut ns row:List Int}{gV:List MD}{wv ys:List V}{ad:Nat->Nat->Addr}{r:RS}{σ:St}{f:Str}{dd st:V}{Q:VK}
theorem mG{X:Cx}{c:Scope}{N:List Str}:ua X c N λY=>Rp Y [] iN:=λ_ _ _ _=>KA
section
variable {P:Program}{w:World}{K:W.Frag}{mg:Str->Option Value}{base:Heap}{C CN CR F B:Addr}{c:Nat->Addr}{FD:List (Str×V)}
local macro_rules | `(tactic| walk_at "s") => `(tactic| exact ⟨rfl, rfl, rfl, by decide +kernel, rfl, by decide +kernel, by decide +kernel⟩)
def zqI(s:String):Array Lean.Ident:=(s.splitOn " ").toArray.map (Lean.mkIdent ·.toName)
def zqK:=zqI "tV tT Ud Gs Gu Gv Gw Gx Gy EH tC EX Yk rU A9 tB Oa EL N9 Yc EK Yd EN Oc C9 eU Of xl Ro Bb E6 Oy Oz AY Ft vP Fu zL zx F4 F5 F6 Mx F7 Gd Ge Gf Gg Gh Td vH Fd Kc Ow uE Bc Yy OI Gj Gi Og Yf zp id_eq Pa F3 O1 EW oZ Mr FJ FN FO FQ Ms FT FU FV FW Mt Bt xI iN t9 uT TL FI Mp Mq L2.start List.map_cons List.map_nil List.cons_append List.nil_append List.replicate List.getElem?_cons_zero List.getElem?_cons_succ List.set_cons_zero List.set_cons_succ"
def zqL:=zqI "zU zV vU vV vW vX List.length_cons List.length_nil List.append_nil Option.some.injEq exists_eq_left' exists_eq_left V.int.injEq V.bl.injEq V.str.injEq V.ref.injEq List.cons.injEq and_true true_and Nat.reduceSub Nat.reduceAdd"
local macro_rules | `(tactic| simp_arith only [$xs,*]) => let l:=zqK; `(tactic| simp only [$[$l:ident],*, ↓Bx, ↓xP, ↓rT, ↓uV, ↓rV, $xs,*])
local macro_rules | `(tactic| simp_arith! only [$xs:simpLemma,*]) => let l:=zqK; `(tactic| dsimp only [$[$l:ident],*, ↓Bx, ↓xP, ↓rT, ↓uV, ↓rV, $xs:simpLemma,*])
local macro_rules | `(tactic| walk_at "l0") => `(tactic| simp_arith! only [CZ, tS, og])
local macro_rules | `(tactic| walk_at "l1") => let l:=zqL; `(tactic| simp_arith only [CZ, tS, og, $[$l:ident],*])
local macro_rules | `(tactic| walk_at "l2") => `(tactic| simp_arith! only [CZ, tS])
local macro_rules | `(tactic| walk_at "l3") => let l:=zqL; `(tactic| simp_arith only [CZ, tS, $[$l:ident],*])
local macro_rules | `(tactic| walk_at "l4") => `(tactic| simp_arith! only [og])
local macro_rules | `(tactic| walk_at "l5") => let l:=zqL; `(tactic| simp_arith only [og, $[$l:ident],*])
local macro_rules | `(tactic| walk_at "rd") => `(tactic| first | (walk_at "l0"; try walk_at "l1") | walk_at "l1")
local macro_rules | `(tactic| right) => `(tactic| try walk_at "rd")
local macro_rules | `(tactic| walk_at "rt") => `(tactic| first | (walk_at "l2"; try walk_at "l3") | walk_at "l3")
local macro_rules | `(tactic| walk_at "gj") => `(tactic| first
  |refine di (by assumption) (by first|rfl|exact ay (j := 0) rfl|exact ay (j := 1) rfl|exact ay (j := 2) rfl|exact ay (j := 3) rfl) ?_
  |refine bA (by assumption) (by first|rfl|exact ay (j := 0) rfl|exact ay (j := 1) rfl|assumption) ?_
  |rw [if_pos (by decide +kernel)]
  | rw [if_neg (by decide +kernel)])
local macro_rules | `(tactic| walk_at "go") => `(tactic| repeat (first|walk_at "rd"|walk_at "gj"))
local macro_rules | `(tactic| walk_at "r0") => `(tactic| first | (walk_at "l4"; try walk_at "l5") | walk_at "l5")
local macro_rules | `(tactic| walk_at "rh") => `(tactic| first | with_reducible refine L2.Pn ?_ | (with_reducible refine L2.ck ?_; intro N hN) | (with_reducible refine L2.qW ?_; intro T U hT hU))
local macro_rules | `(tactic| walk_at "rn") => `(tactic| (refine L2.cm (by assumption) ?_; (repeat walk_at "rh"); try walk_at "r0"))
local macro_rules | `(tactic| walk_at "jd") => `(tactic| first
  |(walk_at "rh"; (repeat walk_at "rh"); (try walk_at "r0"); repeat walk_at "rn")
  |(walk_at "rn"; repeat walk_at "rn")
  | (walk_at "r0"; repeat walk_at "rn"))
local macro_rules | `(tactic| left) => `(tactic| try walk_at "jd")
local macro_rules | `(tactic| walk_at "jt") => `(tactic| first | (walk_at "l2"; try walk_at "l3") | walk_at "l3")
local macro_rules | `(tactic| walk_at "jg") => `(tactic| repeat (first|walk_at "jd"|walk_at "gj"))
theorem yh{z:V}:zI (ys++[z]).length (-1)=some ys.length:=by
 unfold zI;rw[if_neg ∅,if_pos (by simp;lia)];congr 1;simp;lia
theorem kP{z:V}:iJ (ys++[z]) (-1)=some z:=by
 unfold iJ;rw[yh];simp
theorem GX{α:Type}{ys:List α}{z y:α}:(ys++[z]).set ys.length y=ys++[y]:=by simp
theorem wm{o c:HO}:upd (upd H a o) a c=upd H a c:=by
 funext b;by_cases h:b=a
 ·subst h;rw[ab,ab]
 ·rw[ax h,ax h,ax h]
def eJ(H:Hp)(p:Addr):Prop:=∃xs:List Int,H p=some (.lst (xs.map V.int))/\1<=xs.length
structure Step(p:Addr)(H H':Hp):Prop where
 fC:eJ H' p
 rest:∀b o,H b=some o->b≠p->H' b=some o
theorem Step.refl(h:eJ H p):Step p H H:=⟨h,λ_ _ e _=>e⟩
theorem Step.trans(a:Step p H H1)(b:Step p H1 H2):Step p H H2:=⟨b.fC,λc o e n=>b.rest c o (a.rest c o e n) n⟩
theorem eJ.same(s:au H H')(h:eJ H p):eJ H' p:=by
 obtain⟨a,e,h⟩:=h;calc⟨a,s _ _ e,h⟩
theorem Step.same(a:Step p H H1)(b:au H1 H2):Step p H H2:=⟨a.fC.same b,λc o e n=>b _ _ (a.rest c o e n)⟩
theorem Step.set(a:Step p H H1)(xs:List Int)(h:1<=xs.length):Step p H (upd H1 p (.lst (xs.map V.int))):=
 ⟨⟨xs,ab,h⟩,λc o e n=>by rw[ax n];calc a.rest c o e n⟩
theorem Step.new{q:Addr}(a:Step p H H1){o:HO}(b:H1 q=none):Step p H (upd H1 q o):=a.same (au.new o b)
theorem Step.aM(a:Step p H H1)(c:eJ H p):cg H H1:=λb d e=>a.rest b _ e λz=>by
 subst z;obtain⟨a,h,_⟩:=c;rw[h]at e;cases e
theorem Step.ne{q:Addr}(c:eJ H p)(b:H q=none):q≠p:=λz=>by
 subst z;obtain⟨a,h,_⟩:=c;rw[h]at b;cases b
theorem Step.over(s:au H0 H1)(a:H0 p=none)(st:Step p H1 H2):au H0 H2:=λb o e=>st.rest b o (s b o e) (ao e a)
theorem eJ.upd{q:Addr}{o:HO}(h:eJ H p)(b:p≠q):eJ (upd H q o) p:=by
 obtain⟨a,e,h⟩:=h;calc⟨a,by rw[ax b];calc e,h⟩
abbrev mR:Stmt:=top 11
def iQ:Sp:=λvs H Q _=>∃x t,vs=[x]/\Kd H x t/\Q (.bl (YX x)) H
theorem Ag(D:cM K mg "is_whole" "is_whole" mR ["thing"])(T:Tx K mg C CN CR F FD):Def P w K mg base "is_whole" 1 ["thing"] iQ:=by
 have sc:aB ["thing"] ["thing"] (av mR):=by walk_at "s"
 symm;obtain⟨x,t,rfl,a,q⟩:=h;have d:=hr.units;refine⟨_,(ak (aD (iU (aW cB rfl T.aZ vz (af (aq 0) (af (cF (v:=.ty "int") rfl T.GQ PyProof.Rows.boot_int rfl) aa))) (jO (Ob (aW cB rfl T.aZ vz (af (aq 0) (af (cF (v:=.ty "bool") rfl T.wj PyProof.Rows.boot_bool rfl) aa)))))))),?_⟩;walk_at "rd";obtain⟨b,c,d,e,g⟩:=Pg (K:=K) a;refine cw t b a.ty d ?_;rw[g] at q
 cases b
 ·rw[if_neg Bool.false_ne_true];exact q
 ·rw[if_pos rfl];calc⟨t,c,a.ty,e,q⟩
abbrev kQ:Stmt:=top 12
def cf:Sp:=λvs H Q _=>∃x t a b,vs=[x,.int a,.int b]/\Kd H x t/\Q (.bl (inR a b x)) H
theorem yi(D:cM K mg "is_within" "is_within" kQ ["thing","low","beyond"])(T:Tx K mg C CN CR F FD)(j:Def P w K mg base "is_whole" 1 ["thing"] iQ):Def P w K mg base "is_within" 2 ["thing","low","beyond"] cf:=by
  have sc:aB ["thing","low","beyond"] ["thing","low","beyond"] (av kQ):=by walk_at "s"
  symm;obtain⟨x,t,a,b,rfl,g,q⟩:=h;have k:=hr.units;refine⟨_,(ak (aD (iU (aJ j hr (af (aq 0) aa)) (jO (xk rM gG (aq 1) (aq 0) (aq 2)))))),?_⟩;walk_at "rd";refine cw x t rfl g ?_
  cases g<;>first
    | (rename_i i
       show ∃c,V.bl true=.bl c/\_;calc⟨true,rfl,?_⟩;rw[if_pos rfl];walk_at "rd";by_cases d:a<=i
       · rw[if_pos (by simpa using d)];have e:inR a b (.int i)=decide (i < b):=by simp[inR,d]
         rw[e]at q;exact q
       · rw[if_neg (by simpa using d)];have e:inR a b (.int i)=false:=by simp[inR,d]
         rw[e] at q;calc q)
    | (show ∃c,V.bl false=.bl c/\_
       calc⟨false,rfl,?_⟩;rw[if_neg Bool.false_ne_true];calc q)
abbrev sD:Stmt:=top 55
def GY(K:W.Frag):Sp:=λvs H Q _=>∃(a:Addr) (ns:List Int) (k:Int),vs=[.ref a,.int k]/\aN K H a (ns.map V.int)/\0<=k/\∀c,Q (.int c) H
theorem GZ(D:cM K mg "_law_at" "_law_at" sD ["_law_script","_law_k"])(T:Tx K mg C CN CR F FD):Def P w K mg base "_law_at" 1 ["_law_script","_law_k"] (GY K):=by
 have sc:aB ["_law_script","_law_k"] ["_law_script","_law_k"] (av sD):=by walk_at "s"
 symm;obtain⟨a,ns,k,rfl,b,c,q⟩:=h;have e:=hr.units;refine⟨_,(ag (aR (az gG (aq 1) (aW aL rfl T.bZ M' (af (aq 0) aa)) (aE _)) (ak (aD (aj e (aq 0) (aq 1)))) aH)
  (ak (aD ai))),?_⟩
 walk_at "rd";refine bz _ (.inl ⟨_,b,rfl⟩) ?_;rw[List.length_map];by_cases d:k<(ns.length:Int)
 ·rw[if_pos (by simpa using d)];obtain⟨n,rfl⟩:=aaj c;have e:n < ns.length:=by lia
  exact⟨_,.int ns[n],.inl b,ay (by rw[List.getElem?_map,cN e];rfl),q _⟩
 ·rw[if_neg (by simpa using d)];calc q _
abbrev ph:Stmt:=top 56
def Ah:Sp:=λvs H Q _=>∃n:Int,vs=[.int n]/\∀(p:Addr) (xs:List Int),H p=none->1<=xs.length->Q (.ref p) (upd H p (.lst (xs.map V.int)))
theorem DM(D:cM K mg "_law_pot" "_law_pot" ph ["_law_cell"])(T:Tx K mg C CN CR F FD):Def P w K mg base "_law_pot" 1 ["_law_cell"] Ah:=by
 have sc:aB ["_law_cell","_law_number","_law_pot_here","_law_k"] ["_law_cell"] (av ph):=by walk_at "s"
 symm;obtain⟨n,rfl,q⟩:=h;have c:=hr.units;refine⟨_,(ag (aY (i:=1) sc.nd rfl Sort (bc c8 (bc eO (bc nZ (aq 0) ai) ai) ai))
  (ag (aY (i:=2) sc.nd rfl Sort (bG (af ai aa)))
  (ag (dj PassesOwn.never rfl (cT rfl T.eA (af ai aa)) (aQ (i:=3) sc.nd rfl Sort)
  (ag (aY (i:=1) sc.nd rfl Sort (bc eO (bc c8 (bc c8 (bc lZ (aq 1) (aq 1)) (bc lZ ai (aq 1))) (aq 3)) ai))
  (ak (eD (bc c8 (bc lZ (aj c (aq 2) ai) ai) (aq 1)) (iV (aq 2) ai dU)))))
  (ag (aR (PW.pt (pw_and (az (ba c) (bc eO (aq 0) ai) ai (aE _)) (pw_and1 (az (eP c) (bc nZ (aq 0) ai) ai (aE _))))) (ak (bI (dy mH qr qt bV (aq 2) (af (bc nZ (aq 0) ai) aa)))) aH)
  (ak (aD (aq 2))))))),?_⟩
 right;have d:Fy n 2:=⟨∅,∅⟩
 calc ig d ∅ ?_;right;calc⟨by show 1<=sizeLine;decide,λp e=>?_⟩;have c:=aay (n/2) (b:=2147483629) ∅;have c:=aap (n/2) (b:=2147483629) ∅;refine⟨40,rfl,∅,∅,hJ (n:=40) (λi σ H'=>∃(u a:Int) (z:Option V),0<=u/\u<2147483648/\σ=[some (.int n),some (.int u),some (.ref p),z]/\H'=upd H p (.lst [.int a])) ?_ ?_ ?_⟩
 ·exact⟨_,0,none,(),(),rfl,rfl⟩
 ·intro i σ H' o k;obtain⟨u,a,z,g,l,rfl,rfl⟩:=k;right;calc⟨.inl ⟨(),()⟩,?_⟩;right;calc ig (.inl ⟨(),()⟩) ∅ ?_;right;calc bA ab (ay (j:=0) rfl) ?_;right;calc⟨.inr ⟨∅,∅⟩,?_⟩;right;calc cw _ 0 ab rfl ?_;right;have c:=aay (u*u+48271*u+(0+(i:Int))) (b:=2147483647) ∅;have k:=aap (u*u+48271*u+(0+(i:Int))) (b:=2147483647) ∅;exact⟨_,_,_,c,(),⟨rfl,rfl⟩,wm⟩
 ·intro σ H' m;obtain⟨u,a,z,g,l,rfl,rfl⟩:=m;right;calc⟨∅,?_⟩;right;split
  ·calc⟨d,?_⟩;right;split
   ·calc ig (.inl ⟨rfl,_,aN.of ab⟩) d ?_;right;calc gB _ ab (aA nofun) ?_;right;rw[wm];exact q p [a,n/2] e nofun
   ·right;exact q p [a] e nofun
  ·right;calc q p [a] e nofun
abbrev kR:Stmt:=top 57
def gD:Sp:=λvs H Q _=>∃(p:Addr) (m:Int),vs=[.ref p,.int m]/\eJ H p/\0<m/\m.natAbs.log2<9000/\∀d H',0<=d->d<m->Step p H H'->Q (.int d) H'
theorem yj(D:cM K mg "_law_digit" "_law_digit" kR ["_law_pot_here","_law_many"])(T:Tx K mg C CN CR F FD):Def P w K mg base "_law_digit" 1 ["_law_pot_here","_law_many"] gD:=by
 have sc:aB ["_law_pot_here","_law_many","_law_digit_here"] ["_law_pot_here","_law_many"] (av kR):=by walk_at "s"
 symm;obtain⟨p,m,rfl,j,d,o,q⟩:=h;have g:=hr.units;refine⟨_,(ag (aY (i:=2) sc.nd rfl Sort (bc eO (aj g (aq 0) (kG ia ai)) (aq 1)))
  (ag (eD (bc nZ (aj g (aq 0) (kG ia ai)) (aq 1)) (iV (aq 0) (kG ia ai) dU))
  (ag (aR (PW.pt (pw_and (az (ba g) (aj g (aq 0) (kG ia ai)) ai (aE _)) (pw_and1 (az mM (aW aL rfl T.bZ M' (af (aq 0) aa)) ai (aE _))))) (ak (bI (Fh mH PySem.F.slot_list_pop PySem.F.type_list_pop OL (aq 0)))) aH)
  (ak (aD (aq 2)))))),?_⟩
 nofun;obtain⟨k,c,r⟩:=id j;obtain⟨ys,z,rfl⟩:∃ys z,k=ys++[z]:=⟨k.dropLast,k.getLast (by intro e;rw[e]at r;simp at r),(List.dropLast_concat_getLast _).symm⟩
 rw[List.map_append]at c
 replace c:H p=some (.lst (ys.map V.int++[.int z])):=c
 ac_rfl;have t:Step p H H:=Step.refl j;right;calc cw _ _ (.inl (aN.of c)) kP ?_;right;calc⟨d,?_⟩;right;calc cw _ _ (.inl (aN.of c)) kP ?_;right;calc⟨⟨d,o⟩,?_⟩;right;calc cw _ _ c yh ?_;rw[GX];calc cw _ _ (.inl (aN.of ab)) kP ?_;have l:=aay z (b:=m) ();have n:=aap z d;have u:Step p H (upd H p (.lst (ys.map V.int++[.int (z/m)]))):=by
  have:=t.set (ys++[z/m]) nofun;rw[List.map_append]at this;exact this
 right;split
 ·calc bz _ (.inl ⟨_,aN.of ab,rfl⟩) ?_;right;split
  ·rename_i a;have a:1<=ys.length:=by
    simp at a;lia
   calc⟨.inl ⟨rfl,_,aN.of ab⟩,?_⟩;calc⟨p,_,.int (z/m),rfl,rfl,ab,nofun,?_⟩;right;rw[List.dropLast_concat,wm];exact q _ _ l n (t.set ys a)
  ·right;exact q _ _ l n u
 ·right;calc q _ _ l n u
theorem Aj:J7 10 60:=⟨∅,∅,⋯⟩
theorem PD:J7 10 12:=⟨∅,∅,⋯⟩
theorem PF:EY 2 (10^Int.toNat 60):=.inl ⟨⋯,⋯⟩
theorem Uq:(0:Int)<2*10^Int.toNat 60-1:=by decide +kernel
theorem Ur:(2*10^Int.toNat 60-1:Int).natAbs.log2<9000:=by decide +kernel
theorem Us:(0:Int)<10^Int.toNat 12-1:=by decide +kernel
theorem PH:(10^Int.toNat 12-1:Int).natAbs.log2<9000:=by decide +kernel
theorem dig{E:XK}(a:eJ H p)(b:0<m)(c:m.natAbs.log2<9000)(q:∀d H',0<=d->d<m->Step p H H'->Q (.int d) H'):gD [.ref p,.int m] H Q E:=⟨p,m,rfl,a,b,c,q⟩
theorem La{H:Hp}{n:Nat}{x:V}{d:List DV}(h:HD H n x (.tup d)):∃k a xs,x=.ref a/\H a=some (.tup xs)/\xs.length=d.length/\∀(i:Nat) u e,xs[i]?=some u->d[i]?=some e->HD H k u e:=by
 cases h with
 |tup a b c=>calc⟨_,_,_,rfl,a,b,c⟩
abbrev mS:Stmt:=top 22
def Ha:Sp:=λvs H Q _=>∃x m n d,vs=[x,.int m]/\HD H n x d/\∀H',au H H'->Q (.bl (DA m d)) H'
theorem Lb{K:W.Frag}{H:Hp}{n:Nat}{x:V}{d:DV}(h:HD H n x d)(a:∀c,d≠.tup c):∃t,gF K H x t/\W.kitOne K t (.type "tuple")=some false:=by
 cases h with
 |bH=>calc⟨_,.bH,rfl⟩
 |bl b=>calc⟨_,.bl b,rfl⟩
 |int i=>calc⟨_,.int i,rfl⟩
 |str x=>calc⟨_,.str x,rfl⟩
 |tup e=>calc absurd rfl (a _)
 |lst e=>calc⟨_,.lst e,rfl⟩
 |dict e=>calc⟨_,.dK e,rfl⟩
theorem Lc{K:W.Frag}{H:Hp}{n:Nat}{x:V}{d:DV}(h:HD H n x d)(a:∀s,d≠.str s):∃t,gF K H x t/\W.kitOne K t (.type "str")=some false:=by
 cases h with
 |bH=>calc⟨_,.bH,rfl⟩
 |bl b=>calc⟨_,.bl b,rfl⟩
 |int i=>calc⟨_,.int i,rfl⟩
 |str x=>calc absurd rfl (a _)
 |tup e=>calc⟨_,.tup e,rfl⟩
 |lst e=>calc⟨_,.lst e,rfl⟩
 |dict e=>calc⟨_,.dK e,rfl⟩
theorem Ld{m:Int}{d:DV}(b:∀a,d≠.tup a):DA m d=false:=by
 cases d with
 |tup a=>calc absurd rfl (b a)
 |_=>rfl
theorem Hc{m:Int}{d:DV}{r:List DV}(a:∀s,d≠.str s):DA m (.tup (d::r))=false:=by
 cases d with
 |str s=>calc absurd rfl (a s)
 |_=>rfl
theorem Ak(D:cM K mg "is_value" "is_value" mS ["thing","many"])(T:Tx K mg C CN CR F FD)(X:Def P w K mg base "is_whole" 1 ["thing"] iQ)(Y:Def P w K mg base "is_within" 2 ["thing","low","beyond"] cf):Def P w K mg base "is_value" 3 ["thing","many"] Ha:=by
 have sc:aB ["thing","many","word"] ["thing","many"] (av mS):=by walk_at "s"
 symm;obtain⟨x,m,n,d,rfl,G,q⟩:=h;have k:=hr.units;refine⟨_,(ag (aR (PW.pt (pw_or (cp (bu (aW cB rfl T.aZ vz (af (aq 0) (af (cF (v:=.ty "tuple") rfl T.bQ qu rfl) aa))))) (pw_or (az (ba k) (aW aL rfl T.bZ M' (af (aq 0) aa)) ai (aE _)) (pw_or1 (cp (bu (aW cB rfl T.aZ vz (af (aj k (aq 0) ai) (af (cF (v:=.ty "str") rfl T.BM PyProof.Rows.boot_str rfl) aa))))))))) (ak (aD fV)) aH)
  (ag (aY (i:=2) sc.nd rfl Sort (aj k (aq 0) ai))
  (ag (aR (az FG (aq 2) (bD (af aC (af aC (af aC aa)))) (by with_unfolding_all rfl)) (ak (aD (lV (ba k) (aW aL rfl T.bZ M' (af (aq 0) aa)) ai (aE _)))) aH)
  (ag (aR (az (eP k) (aW aL rfl T.bZ M' (af (aq 0) aa)) ai (aE _)) (ak (aD fV)) aH)
  (ag (aR (az (ba k) (aq 2) aC (aE _)) (ak (aD (aJ X hr (af (aj k (aq 0) ai) aa)))) aH)
  (ak (aD (iU (lV (ba k) (aq 2) aC (aE _)) (jO (aJ Y hr (af (aj k (aq 0) ai) (af ai (af (aq 1) aa))))))))))))),?_⟩
 walk_at "rd";by_cases I:∀l,d≠.tup l
 ·obtain⟨t,o,N⟩:=Lb (K:=K) G I;calc cw t false o N ?_;rw[Ld I]at q;exact q H (au.refl H)
 ·have:∃l,d=.tup l:=Classical.byContradiction λz=>I λl e=>z ⟨l,e⟩;nofun;obtain⟨l,rfl⟩:=this;obtain⟨n,a,Z,rfl,B,O,U⟩:=La G;calc hZ ?_;clear hZ gZ G I
  ·skip
   refine⟨.type "tuple",true,.tup B,rfl,?_⟩;simp only[Bool.not_true,Bool.false_eq_true,if_false];refine bz _ (.inr ⟨_,bL.of B,rfl⟩) ?_;right;rcases l with _|⟨R,b⟩<;>rcases Z with _|⟨x0,J⟩
   ·exact q H (au.refl H)
   ·cases O
   ·cases O
   ·skip
    rw[if_neg (by simp;lia)];calc cw _ _ (.inr (bL.of B)) (ay (j:=0) rfl) ?_;have W:=U 0 x0 R rfl rfl;by_cases k:∀s,R≠.str s
    ·obtain⟨t,o,N⟩:=Lc (K:=K) W k;calc cw t false o N ?_;rw[Hc k]at q;exact q H (au.refl H)
    ·have:∃s,R=.str s:=Classical.byContradiction λz=>k λl e=>z ⟨l,e⟩;nofun;obtain⟨g,rfl⟩:=this;obtain rfl:=W.cP;ac_rfl;refine⟨.type "str",true,.str _,rfl,?_⟩;simp only[Bool.not_true,Bool.false_eq_true,if_false];refine cw _ _ (.inr (bL.of B)) (ay (j:=0) rfl) ?_;right;refine⟨∅,λp k=>?_⟩;have r:au H (upd H p (.tup [.str "letter",.str "way",.str "first"])):=au.new _ k;have L:=r _ _ B;refine Gr _ (.inr (bL.of ab)) rfl rfl ?_;right;have u:J.length=b.length:=by simpa using O
     by_cases M:Bl (.str g) rW=true
     ·have S:DA m (.tup (.str g::b))=decide (b.length=0):=by
       show(if Bl (.str g) rW=true then decide (b.length=0) else _)=_;rw[if_pos M]
      rw[if_pos (show Bl (.str g) [.str "letter",.str "way",.str "first"]=true from M)];refine bz _ (.inr ⟨_,bL.of L,rfl⟩) ?_;right;have e:decide (((J.length+1:Nat):Int)=1)=decide (b.length=0):=by
       rw[u];by_cases z:b.length=0
       ·rw[decide_eq_true z,decide_eq_true ()]
       ·rw[decide_eq_false z,decide_eq_false ()]
      rw[S]at q;have c:=q _ r;rw[<-e]at c;exact c
     ·have S:DA m (.tup (.str g::b))=K1 g m b:=by
       show(if Bl (.str g) rW=true then decide (b.length=0) else _)=_;rw[if_neg M]
      rw[if_neg (show ¬Bl (.str g) [.str "letter",.str "way",.str "first"]=true from M)];refine bz _ (.inr ⟨_,bL.of L,rfl⟩) ?_;right;rw[S]at q;rcases b with _|⟨z,_|⟨z',b⟩⟩<;>rcases J with _|⟨y,_|⟨k,J⟩⟩
      ·rw[if_pos nofun];exact q _ r
      ·cases u
      ·cases u
      ·cases u
      ·skip
       rw[if_neg nofun];have o:=(U 1 y z rfl rfl).same r;obtain⟨t,l⟩:=T5 o;by_cases b:g="is"
       ·rw[if_pos (by simpa using b)];calc⟨_,_,.inr (bL.of L),rfl,y,t,rfl,l,?_⟩;have c:=q _ r;simp only[K1,if_pos b]at c;rw[Pj o];exact c
       ·rw[if_neg (by simpa using b)];have c:=q _ r;simp only[K1,if_neg b] at c;by_cases k:g="number"
        ·rw[if_pos (by simpa using k)];calc⟨_,_,.inr (bL.of L),rfl,y,t,0,m,rfl,l,?_⟩;rw[decide_eq_true k,Bool.true_and]at c;rw[Pl o];exact c
        ·rw[if_neg (by simpa using k)];rw[decide_eq_false k,Bool.false_and]at c;exact c
      ·simp at u
      ·cases u
      ·simp at u
      ·rw[if_pos (by simp;lia)];calc q _ r
abbrev pq:Stmt:=top 13
def mT:Sp:=λvs H Q _=>∃(a:Addr) (xs:List V) (b c:Int),vs=[.ref a,.int b,.int c]/\(H a=some (.lst xs)\/H a=some (.tup xs))/\∀H',au H H'->Q (.bl (decide (b<=(xs.length:Int))&&decide ((xs.length:Int)<=c))) H'
theorem DP(D:cM K mg "is_list" "is_list" pq ["things","least","most"])(T:Tx K mg C CN CR F FD):Def P w K mg base "is_list" 1 ["things","least","most"] mT:=by
 have sc:aB ["things","least","most"] ["things","least","most"] (av pq):=by walk_at "s"
 symm;obtain⟨a,d,g,i,rfl,b,q⟩:=h;have i:=hr.units;refine⟨_,(ak (aD (iU (aW cB rfl T.aZ vz (af (aq 0) (af (bD (af (cF (v:=.ty "list") rfl T.dX xc rfl) (af (cF (v:=.ty "tuple") rfl T.bQ qu rfl) aa))) aa))) (jO (xk rM rM (aq 1) (aW aL rfl T.bZ M' (af (aq 0) aa)) (aq 2)))))),?_⟩;right;refine⟨cY,λp i=>?_⟩;have c:au H (upd H p (.tup [.ty "list",.ty "tuple"])):=au.new _ i;have e:∃t,gF K (upd H p (.tup [.ty "list",.ty "tuple"])) (.ref a) t/\W.kitAny K t [.type "list",.type "tuple"]=some true/\E2 K (.ref a) (upd H p (.tup [.ty "list",.ty "tuple"])) d.length:=by
  rcases b with b|b
  ·exact⟨_,.lst (c _ _ b),rfl,.inl ⟨_,aN.of (c _ _ b),rfl⟩⟩
  ·exact⟨_,.tup (c _ _ b),rfl,.inr ⟨_,bL.of (c _ _ b),rfl⟩⟩
 obtain⟨t,i,j,k⟩:=e;calc Ub t true _ _ i ab rfl j ?_;rw[if_pos rfl];calc bz _ k ?_;have b:=q _ c;by_cases h:g<=(d.length:Int)
 ·rw[if_pos (by simpa using h)];rw[decide_eq_true h,Bool.true_and]at b;exact b
 ·rw[if_neg (by simpa using h)];rw[decide_eq_false h,Bool.false_and]at b;calc b
abbrev pw:Stmt:=top 28
def BQ(K:W.Frag):Sp:=λvs H Q _=>∃d:bx,vs=[.str d.word]/\∀p,bL K H p (d.uc.map V.str)->Q (.ref p) H
theorem DQ(D:cM K mg "form_of" "form_of" pw ["word"])(T:Tx K mg C CN CR F FD):Def P w K mg base "form_of" 1 ["word"] (BQ K):=by
 have sc:aB ["word"] ["word"] (av pw):=by walk_at "s"
 symm;obtain⟨d,rfl,q⟩:=h;have a:=hr.units;calc⟨_,(ak (aD (KS T.BP rfl T.BO (af (aq 0) aa)))),?_⟩;obtain⟨p,a,b⟩:=T.MG d;show Q ((PyProof.Rows.KTD.datumAt d.word FD).getD .bH) H;rw[a];calc q p (b H)
abbrev pA:Stmt:=top 29
inductive jS(H:Hp)(m:Int):V->Str->Prop
 |value {n x v}:HT H n x (Val.dv v)->v.ok m->jS H m x "value"
 |number {i}:0<=i->i<m->jS H m (.int i) "number"
 |many {i}:1<=i->i<25->jS H m (.int i) "many"
 |way {i}:0<=i->jS H m (.int i) "way"
theorem jS.same{H H':Hp}{m:Int}{x:V}{w:Str}(s:au H H')(h:jS H m x w):jS H' m x w:=by
 cases h with
 |value a b=>calc .value (a.aK s.aM) b
 |number a b=>calc .number a b
 |many a b=>calc .many a b
 |way a=>calc .way a
def BR:Sp:=λvs H Q _=>∃x w m,vs=[x,.str w,.int m]/\jS H m x w/\∀H',au H H'->Q (.bl true) H'
theorem DR(D:cM K mg "is_part" "is_part" pA ["thing","sort","many"])(T:Tx K mg C CN CR F FD)(d:Def P w K mg base "is_value" 3 ["thing","many"] Ha)(g:Def P w K mg base "is_whole" 1 ["thing"] iQ)(b:Def P w K mg base "is_within" 2 ["thing","low","beyond"] cf):Def P w K mg base "is_part" 4 ["thing","sort","many"] BR:=by
 have sc:aB ["thing","sort","many"] ["thing","sort","many"] (av pA):=by walk_at "s"
 symm;obtain⟨x,w,m,rfl,c,q⟩:=h;have a:=hr.units;refine⟨_,(ag (aR (az (ba a) (aq 1) aC (aE _)) (ak (aD (aJ d hr (af (aq 0) (af (aq 2) aa))))) aH)
  (ag (aR (az (ba a) (aq 1) aC (aE _)) (ak (aD (aJ b hr (af (aq 0) (af ai (af (aq 2) aa)))))) aH)
  (ag (aR (az (ba a) (aq 1) aC (aE _)) (ak (aD (aJ b hr (af (aq 0) (af ai (af (bc c8 (fH T.dM rfl) ai) aa)))))) aH)
  (ak (aD (iU (aJ g hr (af (aq 0) aa)) (jO (lV OX (aq 0) ai (aE _))))))))),?_⟩
 right
 cases c with
 | @value n x v a b=>
  rw[if_pos ⋯];calc fK x m n _ rfl a.hd (λH' s=>?_);rw[Pm b];calc q H' s
 | @number i a b=>
  rw[if_neg ⋯,if_pos ⋯];calc fK (.int i) _ 0 m rfl (.int i) ?_;have e:inR 0 m (.int i)=true:=by simp[inR,a,b]
  rw[e];calc q H (au.refl H)
 | @many i a b=>
  rw[if_neg ⋯,if_neg ⋯,if_pos ⋯];calc fK (.int i) _ 1 _ rfl (.int i) ?_;have e:inR 1 (24+1) (.int i)=true:=by simp[inR,a];lia
  rw[e];calc q H (au.refl H)
 | @way i a=>
  rw[if_neg ⋯,if_neg ⋯,if_neg ⋯];calc⟨.int i,_,rfl,.int i,true,rfl,?_⟩;rw[if_pos rfl];have e:decide ((0:Int)<=i)=true:=decide_eq_true a;right;rw[e];calc q H (au.refl H)
abbrev pB:Stmt:=top 30
theorem Ut{x:V}{ps:List V}:eC (x::ps) (some 1) none=ps:=by
 unfold eC;have e:HT.d9 (x::ps).length 0 (some 1)=1:=by
  show(if (1:Int)<0 then((1:Int)+((x::ps).length:Int)).toNat else min (1:Int).toNat (x::ps).length)=1;rw[if_neg ∅];show min 1 (ps.length+1)=1;lia
 rw[e];show List.take ((x::ps).length-1) ps=ps;simp
theorem sE{H:Hp}{n:Nat}{x:V}{d:bx}{m:Int}(h:HT H n x d.dv)(f:d.ok m):∃a ps,x=.ref a/\H a=some (.tup (.str d.word::ps))/\ps.length=d.uc.length/\∀(i:Nat) p s,ps[i]?=some p->d.uc[i]?=some s->jS H m p s:=by
 cases d with
 |set i v=>
  nofun;obtain⟨a,u,y,z,k,rfl,e,g,l,o⟩:=bS h;obtain rfl:=g.cP;obtain rfl:=l.cE;ac_rfl;refine ud a _ rfl e rfl (λj p s b c=>?_)
  match j,b,c with
  |0,b,c=>cases b;cases c;calc .number f.1 f.2.1
  |1,b,c=>cases b;cases c;calc .value o f.2.2
 |add i v=>
  nofun;obtain⟨a,u,y,z,k,rfl,e,g,l,o⟩:=bS h;obtain rfl:=g.cP;obtain rfl:=l.cE;ac_rfl;refine ud a _ rfl e rfl (λj p s b c=>?_)
  match j,b,c with
  |0,b,c=>cases b;cases c;calc .number f.1 f.2.1
  |1,b,c=>cases b;cases c;calc .value o f.2.2
 |times i v=>
  nofun;obtain⟨a,u,y,z,k,rfl,e,g,l,o⟩:=bS h;obtain rfl:=g.cP;obtain rfl:=l.cE;ac_rfl;refine ud a _ rfl e rfl (λj p s b c=>?_)
  match j,b,c with
  |0,b,c=>cases b;cases c;calc .number f.1 f.2.1
  |1,b,c=>cases b;cases c;calc .value o f.2.2
 |put v=>
  nofun;obtain⟨a,u,y,k,rfl,e,g,l⟩:=dA h;obtain rfl:=g.cP;ac_rfl;refine ud a _ rfl e rfl (λj p s b c=>?_)
  match j,b,c with
  |0,b,c=>cases b;cases c;calc .value l f
 |drop=>
  nofun;obtain⟨a,u,k,rfl,e,g⟩:=iX h;obtain rfl:=g.cP;ac_rfl;calc⟨a,_,rfl,e,rfl,λj p s b c=>by simp at b⟩
 |send j v=>
  nofun;obtain⟨a,u,y,z,k,rfl,e,g,l,o⟩:=bS h;obtain rfl:=g.cP;obtain rfl:=l.cE;ac_rfl;refine ud a _ rfl e rfl (λj p s b c=>?_)
  match j,b,c with
  |0,b,c=>cases b;cases c;calc .way f.1
  |1,b,c=>cases b;cases c;calc .value o f.2
 |say v=>
  nofun;obtain⟨a,u,y,k,rfl,e,g,l⟩:=dA h;obtain rfl:=g.cP;ac_rfl;refine ud a _ rfl e rfl (λj p s b c=>?_)
  match j,b,c with
  |0,b,c=>cases b;cases c;calc .value l f
 |skip v w i=>
  nofun;obtain⟨a,u,y,z,t,k,rfl,e,g,l,o,q⟩:=oy h;obtain rfl:=g.cP;obtain rfl:=q.cE;ac_rfl;refine ud a _ rfl e rfl (λj p s b c=>?_)
  match j,b,c with
  |0,b,c=>cases b;cases c;calc .value l f.1
  |1,b,c=>cases b;cases c;calc .value o f.2.1
  |2,b,c=>cases b;cases c;calc .many f.2.2.1 f.2.2.2
theorem Al:d.uc.length<=3:=by cases d<;>simp[bx.uc]
def u9:Sp:=λvs H Q _=>∃x m n d,vs=[x,.int m]/\HT H n x (bx.dv d)/\d.ok m/\∀H',au H H'->Q (.bl true) H'
theorem DS(D:cM K mg "is_deed" "is_deed" pB ["thing","many"])(T:Tx K mg C CN CR F FD)(k:Def P w K mg base "form_of" 1 ["word"] (BQ K))(O:Def P w K mg base "is_part" 4 ["thing","sort","many"] BR):Def P w K mg base "is_deed" 5 ["thing","many"] u9:=by
 have sc:aB ["thing","many","form"] ["thing","many"] (av pB):=by walk_at "s"
 symm;obtain⟨x,m,n,d,rfl,G,I,q⟩:=h;have g:=hr.units;refine⟨_,(ag (aR (PW.pt (pw_or (cp (bu (aW cB rfl T.aZ vz (af (aq 0) (af (cF (v:=.ty "tuple") rfl T.bQ qu rfl) aa))))) (pw_or (az (ba g) (aW aL rfl T.bZ M' (af (aq 0) aa)) ai (aE _)) (pw_or1 (cp (bu (aW cB rfl T.aZ vz (af (aj g (aq 0) ai) (af (cF (v:=.ty "str") rfl T.BM PyProof.Rows.boot_str rfl) aa))))))))) (ak (aD fV)) aH)
  (ag (aY (i:=2) sc.nd rfl Sort (aJ k hr (af (aj g (aq 0) ai) aa)))
  (ag (aR (PW.pt (pw_or (az vS (aq 2) hX (aE _)) (pw_or1 (az (eP g) (aW aL rfl T.bZ M' (af (aq 0) aa)) (bc c8 (aW aL rfl T.bZ M' (af (aq 2) aa)) ai) (aE _))))) (ak (aD fV)) aH)
  (ak (aD (aW (hV rfl) rfl T.sy Rj (af (cX (N':=["part","sort","many"]) (ix:=[none,none,some 1]) (zR rfl T.BN (af (rS (aq 0) (iM ai) qT) (af (aq 2) aa))) (λ_ _ _ _=>(iP (K:=K) rfl (i:=0) (j:=1) rfl (show(["part","sort","many"]:List Str).Nodup by decide +kernel) rfl rfl Sort Sort)) mG (λ_ _ _ _=>(aJ O hr (af (aq 0) (af (aq 1) (af (aq 2) aa)))))) aa))))))),?_⟩
 obtain⟨a,ps,rfl,g,k,R⟩:=sE G I;have O:=Al (d:=d);right;calc cw _ true (.tup g) rfl ?_;simp only[Bool.not_true,Bool.false_eq_true,if_false];calc bz _ (.inr ⟨_,bL.of g,rfl⟩) ?_;rw[if_neg (by simp;lia)];calc⟨_,.str d.word,.inr (bL.of g),ay (j:=0) rfl,_,true,.str _,rfl,?_⟩;simp only[Bool.not_true,Bool.false_eq_true,if_false];calc⟨_,.str d.word,.inr (bL.of g),ay (j:=0) rfl,d,rfl,λp G=>?_⟩;right;rw[if_neg Bool.false_ne_true];calc⟨_,.inr ⟨_,bL.of g,rfl⟩,_,.inr ⟨_,G,rfl⟩,?_⟩;rw[if_neg (by simp[k])];calc bE ?_;right;calc .inr ⟨_,g,λI H2 y l=>?_⟩;rw[Ut]at l;have o:=y.Rv G;calc fK false false _ _ (Sq.t l) o (λD L=>?_);refine bb (J:=TN false false K I p) (n:=ps.length) (λi ys H'=>ys=List.replicate i (V.bl true)/\au H2 H') (K' (aA ())) ⟨rfl,au.new _ L⟩ ?_ ?_ ?_ ?_
 ·rintro i ys H' B ⟨_,c⟩;exact⟨ps,d.uc.map V.str,ps[i],.str (d.uc[i]'()),Sq.t (c _ _ l),c.Rv o,cN B,by rw[List.getElem?_map,cN ()];rfl⟩
 ·rintro ys H' ⟨_,c⟩;exact⟨ps,d.uc.map V.str,Sq.t (c _ _ l),c.Rv o,.inl rfl⟩
 ·intro i ys H' B r M S x H4 U;nofun;obtain⟨rfl,c⟩:=S;obtain⟨T,W,rfl,X⟩:=U;obtain⟨u,v,Y,N,rfl⟩:=X ps (d.uc.map V.str) (Sq.t (c _ _ l)) (c.Rv o);rw[List.getElem?_map]at N;obtain⟨z,Z,rfl⟩:=Option.map_eq_some_iff.mp N;ac_rfl;have g:au H' (upd H' T (.tup [u,.str z])):=au.new _ W;calc tP (bL.of ab) ⟨Ext.set (Ext.set (Ext.refl _) rfl) rfl,?_⟩;right;rw[if_pos trivial];calc Y5 u z m rfl ((R i u z Y Z).same (y.trans (c.trans g))) (λl k=>?_);have n:l D=some (.lst (List.replicate i (V.bl true))):=k _ _ (g _ _ r);calc bT n M B (K' (aA ())) ⟨jH _ _,λb o e=>?_⟩;rw[ax (ao e L)];exact k _ _ (g _ _ (c _ _ e))
 ·rintro ys H' r M ⟨rfl,c⟩;right;rw[o8] at r;calc bz _ (aN.of r) ?_;have e:(List.replicate ps.length true).all id=true:=by simp
  rw[e];calc q _ (y.trans c)
abbrev iY:Stmt:=top 36
def LT(H:Hp)(a:Addr)(xs:List V):Prop:=H a=some (.lst xs)\/H a=some (.tup xs)
theorem LT.same{xs:List V}(s:au H H')(h:LT H a xs):LT H' a xs:=h.elim (λz=>.inl (s _ _ z)) (λz=>.inr (s _ _ z))
theorem jL{K:W.Frag}(h:LT H a ys)(q:∀p H',au H H'->H' p=some (.tup ys)->Q (.ref p) H'):vT K [.ref a] H Q:=by
 rcases h with h|h
 ·exact .inl ⟨_,aN.of h,λl b=>q l _ (au.new _ b) ab⟩
 ·calc .inr ⟨_,bL.of h,q a H (au.refl H) h⟩
def sF:Sp:=λvs H Q _=>∃(a:Addr) (ns:List Int) (c b M:Int),vs=[.ref a,.int c,.int b,.int M]/\LT H a (ns.map V.int)/\c<=(ns.length:Int)/\(ns.length:Int)<=b/\b<=100/\(∀z∈ns,0<=z/\z<M)/\∀H',au H H'->Q (.bl true) H'
theorem ug(D:cM K mg "are_counted" "are_counted" iY ["things","least","most","modulus"])(T:Tx K mg C CN CR F FD)(I:Def P w K mg base "is_list" 1 ["things","least","most"] mT)(L:Def P w K mg base "is_within" 2 ["thing","low","beyond"] cf):Def P w K mg base "are_counted" 3 ["things","least","most","modulus"] sF:=by
 have sc:aB ["things","least","most","modulus"] ["things","least","most","modulus"] (av iY):=by walk_at "s"
 symm;obtain⟨a,ns,z,B,M,rfl,g,G,m,N,v,q⟩:=h;have N:=hr.units;refine⟨_,(ak (aD (iU (aJ I hr (af (aq 0) (af (aq 1) (af (aq 2) aa)))) (jO (aW (hV rfl) rfl T.sy Rj (af (cX (N':=["thing","modulus"]) (ix:=[none,some 3]) (bM (pv 0)) (λ_ _ _ _=>(aQ (i:=0) (show(["thing","modulus"]:List Str).Nodup by decide +kernel) rfl Sort)) mG (λ_ _ _ _=>(aJ L hr (af (aq 0) (af ai (af (aq 1) aa)))))) aa)))))),?_⟩;right;refine fK a _ z B rfl g (λH1 k=>?_);rw[List.length_map,decide_eq_true G,decide_eq_true m];show ∃c,V.bl true=.bl c/\_;refine bz true rfl ?_;rw[if_pos rfl];refine bE ?_;right;rcases g with g | g
 ·calc .inl ⟨⟨_,aN.of (k _ _ g)⟩,λD p=>?_⟩;refine bb (J:=tU K a) (n:=ns.length) (λi ys H'=>ys=List.replicate i (V.bl true)/\au H1 H') (K' (aA ())) ⟨rfl,au.new _ p⟩ ?_ ?_ ?_ ?_
  ·rintro i ys H' j ⟨_,d⟩;exact⟨_,.int ns[i],aN.of (d _ _ (k _ _ g)),by rw[List.getElem?_map,cN j];rfl⟩
  ·rintro ys H' ⟨_,d⟩;exact⟨_,aN.of (d _ _ (k _ _ g)),nofun⟩
  ·intro i ys H' j l r O x R S;nofun;obtain⟨rfl,d⟩:=O;obtain⟨rfl,y⟩:=S;have t:=y _ (aN.of (d _ _ (k _ _ g)));rw[List.getElem?_map,cN j] at t;obtain rfl:=Option.some.inj t;ac_rfl;walk_at "xf";right;rw[if_pos trivial];refine fK (.int ns[i]) _ 0 M rfl (.int _) ?_;have u:=v ns[i] (aab j);have e:inR 0 M (.int ns[i])=true:=by simp[inR,u.1,u.2]
   rw[e];calc bT l r j (K' (aA ())) ⟨jH _ _,λb o e=>?_⟩;rw[ax (ao e p)];exact d _ _ e
  ·rintro ys H' l r ⟨rfl,d⟩;right;rw[o8] at l;calc bz _ (aN.of l) ?_;have e:(List.replicate ns.length true).all id=true:=by simp
   rw[e];exact q _ (k.trans d)
 ·calc .inr ⟨⟨_,bL.of (k _ _ g)⟩,λD p=>?_⟩;refine bb (J:=SM K a) (n:=ns.length) (λi ys H'=>ys=List.replicate i (V.bl true)/\au H1 H') (K' (aA ())) ⟨rfl,au.new _ p⟩ ?_ ?_ ?_ ?_
  ·rintro i ys H' j ⟨_,d⟩;exact⟨_,.int ns[i],bL.of (d _ _ (k _ _ g)),by rw[List.getElem?_map,cN j];rfl⟩
  ·rintro ys H' ⟨_,d⟩;exact⟨_,bL.of (d _ _ (k _ _ g)),nofun⟩
  ·intro i ys H' j l r U x R W;nofun;obtain⟨rfl,d⟩:=U;obtain⟨rfl,y⟩:=W;have t:=y _ (bL.of (d _ _ (k _ _ g)));rw[List.getElem?_map,cN j] at t;obtain rfl:=Option.some.inj t;ac_rfl;walk_at "xf";right;rw[if_pos trivial];refine fK (.int ns[i]) _ 0 M rfl (.int _) ?_;have u:=v ns[i] (aab j);have e:inR 0 M (.int ns[i])=true:=by simp[inR,u.1,u.2]
   rw[e];calc bT l r j (K' (aA ())) ⟨jH _ _,λb o e=>?_⟩;rw[ax (ao e p)];exact d _ _ e
  ·rintro ys H' l r ⟨rfl,d⟩;right;rw[o8] at l;calc bz _ (aN.of l) ?_;have e:(List.replicate ns.length true).all id=true:=by simp
   rw[e];calc q _ (k.trans d)
abbrev gf:Stmt:=top 37
def BU:Sp:=λvs H Q _=>∃(M:Int) (a b ad:Addr) (ns row:List Int) (xs:List V),vs=[.int M,.ref a,.ref b,.ref ad]/\2<=M/\M<=1000000000000/\LT H a (ns.map V.int)/\LT H b (row.map V.int)/\LT H ad xs/\1<=ns.length/\ns.length<=4/\row.length<=12/\(∀z∈ns,0<=z/\z<M)/\(∀z∈row,0<=z/\z<M)/\∀H',au H H'->Q .bH H'
theorem pF(D:cM K mg "refuse_machine" "refuse_machine" gf ["modulus","numbers","row","deeds"])(T:Tx K mg C CN CR F FD)(b:Def P w K mg base "are_counted" 3 ["things","least","most","modulus"] sF)(r:Def P w K mg base "is_within" 2 ["thing","low","beyond"] cf):Def P w K mg base "refuse_machine" 4 ["modulus","numbers","row","deeds"] BU:=by
 have sc:aB ["modulus","numbers","row","deeds"] ["modulus","numbers","row","deeds"] (av gf):=by walk_at "s"
 symm;obtain⟨M,c,d,ad,ns,row,u,rfl,g,x,i,j,k,y,z,B,l,m,q⟩:=h;have u:=hr.units;refine⟨_,(ag (aR (cp (bu (aJ r hr (af (aq 0) (af ai (af (bc c8 (fH T.dE rfl) ai) aa)))))) (ak cV) aH)
  (ag (aR (cp (bu (aJ b hr (af (aq 1) (af ai (af (fH T.dF rfl) (af (aq 0) aa))))))) (ak cV) aH)
  (ag (aR (cp (bu (aJ b hr (af (aq 2) (af ai (af (fH T.fe rfl) (af (aq 0) aa))))))) (ak cV) aH)
  (ak (aR (cp (bu (aW cB rfl T.aZ vz (af (aq 3) (af (bD (af (cF (v:=.ty "list") rfl T.dX xc rfl) (af (cF (v:=.ty "tuple") rfl T.bQ qu rfl) aa))) aa))))) (ak cV) aH))))),?_⟩
 right;calc fK (.int M) _ 2 _ rfl (.int M) ?_;have e:inR 2 (1000000000000+1) (.int M)=true:=by simp[inR,g];lia
 rw[e];right;rw[if_neg ∅];calc Uc c ns 1 4 M rfl i () () ∅ l (λH1 a=>?_);right;rw[if_neg ∅];calc Uc d row 0 12 M rfl (j.same a) () () ∅ m (λH2 n=>?_);right;rw[if_neg ∅];calc⟨cY,λp b=>?_⟩;have o:au H2 (upd H2 p (.tup [.ty "list",.ty "tuple"])):=au.new _ b;have G:∃t,gF K (upd H2 p (.tup [.ty "list",.ty "tuple"])) (.ref ad) t/\W.kitAny K t [.type "list",.type "tuple"]=some true:=by
  rcases k.same (a.trans (n.trans o)) with z|z
  ·exact⟨_,.lst z,rfl⟩
  ·exact⟨_,.tup z,rfl⟩
 obtain⟨t,b,c⟩:=G;calc Ub t true _ _ b ab rfl c ?_;right;rw[if_neg ∅];calc q _ (a.trans (n.trans o))
abbrev ik:Stmt:=top 38
def DL(H:Hp)(n:Nat)(xs:List V)(a:List bx):Prop:=xs.length=a.length/\∀(i:Nat) x d,xs[i]?=some x->a[i]?=some d->HT H n x (bx.dv d)
theorem DL.aK{n:Nat}{xs:List V}{a:List bx}(s:cg H H')(h:DL H n xs a):DL H' n xs a:=⟨h.1,λi x d a b=>(h.2 i x d a b).aK s⟩
theorem DL.ht{n:Nat}{xs:List V}{b:List bx}(h:DL H n xs b)(e:H a=some (.tup xs)):HT H (n+1) (.ref a) (.tup (b.map bx.dv)):=by
 calc .tup e (by rw[List.length_map];calc h.1) λi u d f c=>?_;rw[List.getElem?_map]at c;obtain⟨dd,g,rfl⟩:=Option.map_eq_some_iff.mp c;calc h.2 i u dd f g
def BW:Sp:=λvs H Q _=>∃(a:Addr) (xs:List V) (b:List bx) (m:Int) (n:Nat),vs=[.ref a,.int m]/\LT H a xs/\DL H n xs b/\b.length<=24/\(∀d∈b,d.ok m)/\∀H',au H H'->Q .bH H'
theorem sJ(D:cM K mg "refuse_deeds" "refuse_deeds" ik ["deeds","many"])(T:Tx K mg C CN CR F FD)(B:Def P w K mg base "is_deed" 5 ["thing","many"] u9):Def P w K mg base "refuse_deeds" 6 ["deeds","many"] BW:=by
 have sc:aB ["deeds","many","at","deed"] ["deeds","many"] (av ik):=by walk_at "s"
 symm;obtain⟨a,c,e,m,n,rfl,d,g,G,u,q⟩:=h;have G:=hr.units;refine⟨_,(ak (dj PassesOwn.never rfl (fG rfl T.cu (af (aq 0) aa)) (eQ (i:=2) (j:=3) rfl sc.nd rfl rfl Sort Sort)
  (ak (aR (PW.pt (pw_or (az (ba G) (aq 2) (fH T.dM rfl) (aE _)) (pw_or1 (cp (bu (aJ B hr (af (aq 3) (af (aq 1) aa)))))))) (ak cV) aH)))),?_⟩
 rcases d with d|d
 ·calc z8 true c (Sq.l d) ?_;refine ib (xs:=c) (λi σ H'=>au H H'/\∃k o,σ=[some (.ref a),some (.int m),k,o]) ⟨au.refl H,none,none,rfl⟩ (λi σ H' ⟨b,_⟩=>Sq.l (b _ _ d)) ?_ ?_
  ·intro i x σ H1 T p I v;obtain⟨b,k,o,rfl⟩:=I;have y:i < c.length:=(List.getElem?_eq_some_iff.mp p).1;have ie:i < e.length:=by rw[<-g.1];exact y
   have r:au H1 (upd H1 T (.tup [.int i,x])):=au.new _ v;calc tP (bL.of ab) ?_;right;rw[if_neg (by simp;lia)];calc⟨x,m,n,e[i],rfl,(g.2 i x e[i] p (cN ie)).aK (b.trans r).aM,u _ (aab ie),λJ z=>?_⟩;right
   first|rw[if_neg ∅]|skip
   exact⟨b.trans (r.trans z),_,_,rfl,rfl⟩
  ·rintro σ H1 ⟨b,_⟩;exact q _ b
 ·calc z8 false c (Sq.t d) ?_;refine ib (xs:=c) (λi σ H'=>au H H'/\∃k o,σ=[some (.ref a),some (.int m),k,o]) ⟨au.refl H,none,none,rfl⟩ (λi σ H' ⟨b,_⟩=>Sq.t (b _ _ d)) ?_ ?_
  ·intro i x σ H1 T p L v;obtain⟨b,k,o,rfl⟩:=L;have y:i < c.length:=(List.getElem?_eq_some_iff.mp p).1;have ie:i < e.length:=by rw[<-g.1];exact y
   have r:au H1 (upd H1 T (.tup [.int i,x])):=au.new _ v;calc tP (bL.of ab) ?_;right;rw[if_neg (by simp;lia)];calc⟨x,m,n,e[i],rfl,(g.2 i x e[i] p (cN ie)).aK (b.trans r).aM,u _ (aab ie),λJ z=>?_⟩;right
   first|rw[if_neg ∅]|skip
   exact⟨b.trans (r.trans z),_,_,rfl,rfl⟩
  ·rintro σ H1 ⟨b,_⟩;calc q _ b
abbrev pJ:Stmt:=(bW (top 42)).getD 0 (.Pass ⟨0,0,0,0⟩)
def JA(M:Int)(st dd:V):List (Str×V):=bf "own_deeds" dd (bf "own_state" st (bf "own_modulus" (.int M) []))
theorem Uu{M:Int}:(JA M st dd).lookup ("own_modulus":Str)=some (.int M):=by
 unfold JA;rw[bt,if_neg ⋯,bt,if_neg ⋯,bt,if_pos rfl]
theorem Zg{M:Int}:(JA M st dd).lookup ("own_state":Str)=some st:=by
 unfold JA;rw[bt,if_neg ⋯,bt,if_pos rfl]
theorem Uv{M:Int}:(JA M st dd).lookup ("own_deeds":Str)=some dd:=by
 unfold JA;rw[bt,if_pos rfl]
theorem BX{M:Int}(a:f≠"own_modulus")(b:f≠"own_state")(c:f≠"own_deeds"):(JA M st dd).lookup f=none:=by
 unfold JA;rw[bt,if_neg c,bt,if_neg b,bt,if_neg a];rfl
theorem bR{v:V}{a:List (Str×V)}{n:Nat}(h:a.length<n):(bf f v a).length<n+1:=by
 have:=kH f v a;lia
def jT(C:Addr)(H:Hp)(m:Addr)(M:Int)(ns row:List Int)(a:List bx):Prop:=∃b st dd,H m=some (.ins C b (JA M st dd))/\HT H 2 st (xQ ns row)/\HT H 4 dd (.tup (a.map bx.dv))
theorem jT.same{C:Addr}{m:Addr}{M:Int}{a:List bx}(s:au H H')(h:jT C H m M ns row a):jT C H' m M ns row a:=by
 obtain⟨a,st,dd,b,c,d⟩:=h;calc⟨a,st,dd,s _ _ b,c.aK s.aM,d.aK s.aM⟩
def BY(C:Addr):Sp:=λvs H Q _=>∃(x f:Addr) (M:Int) (c e ad:Addr) (ns row:List Int) (xs:List V) (a:List bx) (n:Nat),vs=[.ref x,.int M,.ref c,.ref e,.ref ad]/\H x=some (.ins C f [])/\2<=M/\M<=1000000000000/\LT H c (ns.map V.int)/\LT H e (row.map V.int)/\LT H ad xs/\1<=ns.length/\ns.length<=4/\row.length<=12/\
 (∀z∈ns,0<=z/\z<M)/\(∀z∈row,0<=z/\z<M)/\DL H n xs a/\n<=3/\a.length<=24/\(∀d∈a,d.ok ns.length)/\∀H',jT C H' x M ns row a->(∀b o,b≠x->H b=some o->H' b=some o)->Q .bH H'
theorem DU(D:Dz K mg "Machine" C "Machine.__init__" pJ ["self","modulus","numbers","row","deeds"])(T:Tx K mg C CN CR F FD)(il:Def P w K mg base "refuse_deeds" 6 ["deeds","many"] BW)(gg:Def P w K mg base "refuse_machine" 4 ["modulus","numbers","row","deeds"] BU):xO P w K mg base "Machine" C 7 ["self","modulus","numbers","row","deeds"] (BY C):=by
 have sc:aB ["self","modulus","numbers","row","deeds"] ["self","modulus","numbers","row","deeds"] (av pJ):=by walk_at "s"
 symm;obtain⟨x,a,M,J,ar,ad,ns,row,r,ds,n,rfl,t,DT,pG,u,L,j,BV,Rz,oC,hb,PM,N,k,MI,aU,q⟩:=h;have k:=hr.units;refine⟨_,(ag (bI (aJ gg hr (af (aq 1) (af (aq 2) (af (aq 3) (af (aq 4) aa))))))
  (ag (bI (aJ il hr (af (aq 4) (af (aW aL rfl T.bZ M' (af (aq 2) aa)) aa))))
  (ag (fE (aq 0) (aq 1) (gy rfl))
  (ag (fE (aq 0) (bD (af (cZ bN rfl T.bQ qu (af (aq 2) aa)) (af (cZ bN rfl T.bQ qu (af (aq 3) aa)) aa))) (gy rfl))
  (ak (fE (aq 0) (cZ bN rfl T.bQ qu (af (aq 4) aa)) (gy rfl))))))),?_⟩
 try walk_at "rt"
 refine⟨M,J,ar,ad,ns,row,r,rfl,DT,pG,u,L,j,BV,Rz,oC,hb,PM,λH1 v=>?_⟩
 try walk_at "rt"
 have k:E2 K (.ref J) H1 (ns.map V.int).length:=(u.same v).elim (λz=>.inl ⟨_,aN.of z,rfl⟩) (λz=>.inr ⟨_,bL.of z,rfl⟩);calc bz _ k ?_;calc Y9 ad r ds _ n rfl (j.same v) (N.aK v.aM) MI (by rw[List.length_map];calc aU) (λH2 J=>?_);have JB:=v.trans J
 try walk_at "rt"
 have k:=JB _ _ t;calc⟨x,C,a,[],rfl,k,T.cJ,T.MC,∅,?_⟩;have l:∀{b:Addr} {ys:List V},LT H b ys->b≠x:=λh z=>by
  subst z;rcases h with h|h<;>(rw[t]at h;cases h)
 have O:∀b o,b≠x->H b=some o->upd H2 x (.ins C a (bf "own_modulus" (.int M) [])) b=some o:=λb o d e=>by rw[ax d];exact JB _ _ e
 have m:∀{b:Addr} {ys:List V},LT H b ys->LT (upd H2 x (.ins C a (bf "own_modulus" (.int M) []))) b ys:=λh=>by
  have g:=l h;exact h.elim (λz=>.inl (O _ _ g z)) (λz=>.inr (O _ _ g z))
 have p:upd H2 x (.ins C a (bf "own_modulus" (.int M) [])) x=some (.ins C a (bf "own_modulus" (.int M) [])):=ab;generalize wY:upd H2 x (.ins C a (bf "own_modulus" (.int M) []))=G2 at *
 try walk_at "rt"
 refine jL (m u) λy k s3 qZ=>?_
 try walk_at "rt"
 refine jL ((m L).same s3) λB R s4 nS=>?_
 try walk_at "rt"
 calc⟨cY,λc k=>?_⟩;have S:=au.new (.tup [.ref y,.ref B]) k;have U:=s3.trans (s4.trans S)
 try walk_at "rt"
 calc qF x C a _ rfl (U _ _ p) T.cJ T.PB (bR (n:=999) ∅) ?_;have W:HT (upd R c (.tup [.ref y,.ref B])) 2 (.ref c) (xQ ns row):=cH ab (om (S _ _ (s4 _ _ qZ))) (om (S _ _ nS));have Zh:=U _ _ p;have I:∀b o,b≠x->H b=some o->upd R c (.tup [.ref y,.ref B]) b=some o:=λb o d e=>U _ _ (O b o d e);generalize hG:upd R c (.tup [.ref y,.ref B])=G at *;have tG:cg H G:=λb ys e=>I b _ (λz=>by subst z;rw[t]at e;cases e) e;have t6:cg G (upd G x (.ins C a (bf "own_state" (.ref c) (bf "own_modulus" (.int M) [])))):=(cg.refl G).upd λys e=>by rw[Zh]at e;cases e
 have e6:LT (upd G x (.ins C a (bf "own_state" (.ref c) (bf "own_modulus" (.int M) [])))) ad r:=by
  have g:=l j;exact j.elim (λz=>.inl (by rw[ax g];calc I _ _ g z)) (λz=>.inr (by rw[ax g];calc I _ _ g z))
 have n6:∀b o,b≠x->H b=some o->upd G x (.ins C a (bf "own_state" (.ref c) (bf "own_modulus" (.int M) []))) b=some o:=λb o d e=>by rw[ax d];exact I b o d e
 have X:upd G x (.ins C a (bf "own_state" (.ref c) (bf "own_modulus" (.int M) []))) x=some (.ins C a (bf "own_state" (.ref c) (bf "own_modulus" (.int M) []))):=ab;generalize Le:upd G x (.ins C a (bf "own_state" (.ref c) (bf "own_modulus" (.int M) [])))=G6 at *
 try walk_at "rt"
 refine jL e6 λY H7 i Z=>?_
 try walk_at "rt"
 calc qF x C a _ rfl (i _ _ X) T.cJ T.ME (bR (n:=999) (bR (n:=998) ∅)) ?_;have ne4:Y≠x:=λz=>by subst z;rw[i _ _ X]at Z;cases Z
 have t8:cg H7 (upd H7 x (.ins C a (JA M (.ref c) (.ref Y)))):=(cg.refl _).upd λys e=>by rw[i _ _ X]at e;cases e
 refine q _ ⟨a,.ref c,.ref Y,ab,(W.aK t6).aK (i.aM.trans t8),?_⟩ λb o d e=>?_
 ·calc HT.mono (n:=n+1) ?_ ();calc DL.ht (N.aK (tG.trans (t6.trans (i.aM.trans t8)))) ?_;rw[ax ne4];exact Z
 ·rw[ax d];calc i _ _ (n6 b o d e)
abbrev dY:Stmt:=(bW (top 42)).getD 2 (.Pass ⟨0,0,0,0⟩)
def Hd(C:Addr):Sp:=λvs H Q _=>∃(m:Addr) (M:Int) (ns row:List Int) (a:List bx),vs=[.ref m]/\jT C H m M ns row a/\∀st,HT H 2 st (xQ ns row)->Q st H
theorem kx(D:gA K C "first_state" "Machine.first_state" dY ["self"])(T:Tx K mg C CN CR F FD):cj P w K mg base C "first_state" 1 ["self"] (Hd C):=by
 have sc:aB ["self"] ["self"] (av dY):=by walk_at "s"
 symm;obtain⟨m,M,ns,row,d,rfl,⟨a,st,dd,b,c,e⟩,q⟩:=h;have d:=hr.units;calc⟨_,(ak (aD (bC (aq 0) rfl))),?_⟩;calc⟨m,C,a,_,_,rfl,b,T.cJ,T.PB,Zg,q _ c⟩
theorem Uw{H:Hp}{n:Nat}{x:V}{b:List bx}(h:HT H (n+1) x (.tup (b.map bx.dv))):∃a xs,x=.ref a/\H a=some (.tup xs)/\DL H n xs b:=by
 cases h with
 | @tup _ a xs _ e l i=>
  calc⟨a,xs,rfl,e,by simpa using l,λj x d b c=>i j x _ b ?_⟩;rw[List.getElem?_map,c];rfl
def eS(H:Hp)(n:Nat)(ys:List V)(a:List DV):Prop:=ys.length=a.length/\∀(i:Nat) y e,ys[i]?=some y->a[i]?=some e->HT H n y e
theorem eS.nil{n:Nat}:eS H n [] []:=⟨rfl,λi y e h=>by simp at h⟩
theorem eS.aK{n:Nat}{c:List DV}(h:eS H n ys c)(t:cg H H'):eS H' n ys c:=⟨h.1,λi y e a b=>(h.2 i y e a b).aK t⟩
theorem eS.snoc{H:Hp}{n:Nat}{ys:List V}{c:List DV}{y:V}{e:DV}(h:eS H n ys c)(g:HT H n y e):eS H n (ys++[y]) (c++[e]):=by
 calc⟨by simp[h.1],λi c f a b=>?_⟩;by_cases c:i<ys.length
 ·rw[List.getElem?_append_left c]at a;rw[List.getElem?_append_left (by rw[<-h.1];calc c)]at b;exact h.2 i _ _ a b
 ·rw[List.getElem?_append_right ()] at a;rw[List.getElem?_append_right (by rw[<-h.1];lia),<-h.1] at b
  cases d:i-ys.length with
  |zero=>rw[d]at a b;cases a;cases b;calc g
  |succ k=>rw[d]at a;simp at a
theorem eS.dl{n:Nat}{xs:List V}{a:List bx}(h:eS H n xs (a.map bx.dv)):DL H n xs a:=⟨by simpa using h.1,λi x d a b=>h.2 i x _ a (by rw[List.getElem?_map,b];rfl)⟩
abbrev sM:Stmt:=top 48
abbrev RA(C:Addr)(H:Hp)(m:Addr)(d:MD):Prop:=jT C H m d.M d.ns d.row d.ds
def mn(w:Int×Int×Str):DV:=.tup [.int w.1,.int w.2.1,.str w.2.2]
def qI(l:Int×Int):DV:=.tup [.int l.1,.int l.2]
def va(m:Int)(w:Int×Int×Str):Prop:=0<=w.1/\w.1<m/\0<=w.2.1/\w.2.1<m/\(w.2.2="row"\/w.2.2="heap")
def vb(m:Int)(l:Int×Int):Prop:=0<=l.1/\l.1<m/\1-1000000000000000000000000000000000000000000000000000000000000<=l.2/\l.2<1000000000000000000000000000000000000000000000000000000000000
def yk:Sp:=λvs H Q _=>∃(x:V) (n:Nat) (a b:Int) (c:Str) (m:Int),vs=[x,.int m]/\HT H n x (mn (a,b,c))/\va m (a,b,c)/\∀H',au H H'->Q (.bl true) H'
theorem He(D:cM K mg "is_way" "is_way" sM ["thing","many"])(T:Tx K mg C CN CR F FD)(l:Def P w K mg base "is_within" 2 ["thing","low","beyond"] cf):Def P w K mg base "is_way" 3 ["thing","many"] yk:=by
 have sc:aB ["thing","many"] ["thing","many"] (av sM):=by walk_at "s"
 symm;obtain⟨x,n,c,d,g,m,rfl,o,r,q⟩:=h;have i:=hr.units;refine⟨_,(ag (aR (PW.pt (pw_or (cp (bu (aW cB rfl T.aZ vz (af (aq 0) (af (cF (v:=.ty "tuple") rfl T.bQ qu rfl) aa))))) (pw_or (az (eP i) (aW aL rfl T.bZ M' (af (aq 0) aa)) ai (aE _)) (pw_or1 (cp (bu (aW cB rfl T.aZ vz (af (aj i (aq 0) ai) (af (cF (v:=.ty "str") rfl T.BM PyProof.Rows.boot_str rfl) aa))))))))) (ak (aD fV)) aH)
  (ak (aD (iU (aJ l hr (af (aj i (aq 0) ai) (af ai (af (aq 1) aa)))) (iU (aJ l hr (af (aj i (aq 0) ai) (af ai (af (aq 1) aa)))) (jO (lV FG (aj i (aq 0) ai) (bD (af aC (af aC aa))) (by with_unfolding_all rfl)))))))),?_⟩
 nofun;obtain⟨a,G,I,J,k,rfl,b,t,u,y⟩:=bS o;obtain rfl:=t.cE;obtain rfl:=u.cE;obtain rfl:=y.cP
 replace b:H a=some (.tup [.int c,.int d,.str g]):=b
 obtain⟨i,k,l,n,z⟩:0<=c/\c<m/\0<=d/\d<m/\(g="row"\/g="heap"):=r;ac_rfl;left;refine cw _ true (.tup b) rfl ?_;simp only[Bool.not_true,Bool.false_eq_true,if_false];refine bz _ (.inr ⟨_,bL.of b,rfl⟩) ?_;rw[if_neg nofun];refine⟨_,_,.inr (bL.of b),ay (j:=2) rfl,_,true,.str _,rfl,?_⟩;simp only[Bool.not_true,Bool.false_eq_true,if_false];left;refine cw _ _ (.inr (bL.of b)) (ay (j:=0) rfl) ?_;refine fK (.int c) _ 0 m rfl (.int c) ?_;rw[show inR 0 m (.int c)=true by simp[inR,i,k]];left;rw[if_pos trivial];refine cw _ _ (.inr (bL.of b)) (ay (j:=1) rfl) ?_;refine fK (.int d) _ 0 m rfl (.int d) ?_;rw[show inR 0 m (.int d)=true by simp[inR,l,n]];left;rw[if_pos trivial];refine ud _ _ (.inr (bL.of b)) (ay (j:=2) rfl) cY (λp B=>?_);refine Gr _ (.inr (bL.of ab)) rfl rfl ?_;have e:Bl (.str g) [.str "row",.str "heap"]=true:=by
  rcases z with rfl|rfl<;>decide +kernel
 rw[e];calc q _ (au.new _ B)
abbrev kS:Stmt:=top 49
def yl:Sp:=λvs H Q _=>∃(x:V) (n:Nat) (a b:Int) (m:Int),vs=[x,.int m]/\HT H n x (qI (a,b))/\vb m (a,b)/\Q (.bl true) H
theorem ym(D:cM K mg "is_letter" "is_letter" kS ["thing","many"])(T:Tx K mg C CN CR F FD)(g:Def P w K mg base "is_within" 2 ["thing","low","beyond"] cf):Def P w K mg base "is_letter" 3 ["thing","many"] yl:=by
 have sc:aB ["thing","many"] ["thing","many"] (av kS):=by walk_at "s"
 symm;obtain⟨x,n,b,c,m,rfl,i,l,q⟩:=h;have e:=hr.units;refine⟨_,(ag (aR (PW.pt (pw_or (cp (bu (aW cB rfl T.aZ vz (af (aq 0) (af (cF (v:=.ty "tuple") rfl T.bQ qu rfl) aa))))) (pw_or1 (az (eP e) (aW aL rfl T.bZ M' (af (aq 0) aa)) ai (aE _))))) (ak (aD fV)) aH)
  (ak (aD (iU (aJ g hr (af (aj e (aq 0) ai) (af ai (af (aq 1) aa)))) (jO (aJ g hr (af (aj e (aq 0) ai) (af (bc eN ai (fH T.dN rfl)) (af (fH T.dN rfl) aa))))))))),?_⟩
 nofun;obtain⟨a,r,t,k,rfl,d,o,p⟩:=dA i;obtain rfl:=o.cE;obtain rfl:=p.cE
 replace d:H a=some (.tup [.int b,.int c]):=d
 obtain⟨e,g,i,k⟩:0<=b/\b<m/\1-1000000000000000000000000000000000000000000000000000000000000<=c/\c<1000000000000000000000000000000000000000000000000000000000000:=l;ac_rfl;left;calc cw _ true (.tup d) rfl ?_;simp only[Bool.not_true,Bool.false_eq_true,if_false];calc bz _ (.inr ⟨_,bL.of d,rfl⟩) ?_;rw[if_neg nofun];left;calc cw _ _ (.inr (bL.of d)) (ay (j:=0) rfl) ?_;calc fK (.int b) _ 0 m rfl (.int b) ?_;rw[show inR 0 m (.int b)=true by simp[inR,e,g]];left;rw[if_pos trivial];calc cw _ _ (.inr (bL.of d)) (ay (j:=1) rfl) ?_;calc fK (.int c) _ _ _ rfl (.int c) ?_;rw[show inR (1-1000000000000000000000000000000000000000000000000000000000000) 1000000000000000000000000000000000000000000000000000000000000 (.int c)=true by simp only[inR,decide_eq_true i,decide_eq_true k,Bool.and_self]];calc q
abbrev jU:Stmt:=top 50
def BZ(C:Addr):Sp:=λvs H Q _=>∃(b c d:Addr) (ms:List Addr) (wv a:List V) (ws:List (Int×Int×Str)) (ls:List (Int×Int)),vs=[.ref b,.ref c,.ref d]/\H b=some (.lst (ms.map V.ref))/\H c=some (.lst wv)/\H d=some (.lst a)/\1<=ms.length/\ms.length<=5/\wv.length<=10/\a.length<=20/\(∀m∈ms,∃e f,H m=some (.ins C e f))/\eS H 1 wv (ws.map mn)/\eS H 1 a (ls.map qI)/\(∀w∈ws,va ms.length w)/\(∀l∈ls,vb wv.length l)/\∀H',au H H'->Q .bH H'
theorem wt(D:cM K mg "refuse_net" "refuse_net" jU ["machines","ways","letters"])(T:Tx K mg C CN CR F FD)(kT:Def P w K mg base "is_letter" 3 ["thing","many"] yl)(M:Def P w K mg base "is_list" 1 ["things","least","most"] mT)(sO:Def P w K mg base "is_way" 3 ["thing","many"] yk):Def P w K mg base "refuse_net" 4 ["machines","ways","letters"] (BZ C):=by
 have sc:aB ["machines","ways","letters"] ["machines","ways","letters"] (av jU):=by walk_at "s"
 symm;obtain⟨N,O,R,ms,wv,t,ws,ls,rfl,z,S,B0,Ex,Hf,pK,pL,Ux,U,W,Lf,qU,q⟩:=h;have hu:=hr.units;refine⟨_,(ag (aR (PW.pt (pw_or (cp (bu (aJ M hr (af (aq 0) (af ai (af (fH T.dw rfl) aa)))))) (pw_or1 (cp (bu (aW (hV rfl) rfl T.sy Rj (af (cX (N':=["one"]) (ix:=[none]) (bM (pv 0)) (λ_ _ _ _=>(aQ (i:=0) (show(["one"]:List Str).Nodup by decide +kernel) rfl Sort)) mG (λ_ _ _ _=>(aW (Gn (K:=K) rfl) rfl T.aZ vz (af (aq 0) (af (AX (v:=.ref C) rfl T.u6 rfl) aa))))) aa))))))) (ak cV) aH)
  (ag (aR (PW.pt (pw_or (cp (bu (aJ M hr (af (aq 1) (af ai (af (fH T.ft rfl) aa)))))) (pw_or1 (cp (bu (aW (hV rfl) rfl T.sy Rj (af (cX (N':=["way","machines"]) (ix:=[none,some 0]) (bM (pv 1)) (λ_ _ _ _=>(aQ (i:=0) (show(["way","machines"]:List Str).Nodup by decide +kernel) rfl Sort)) mG (λ_ _ _ _=>(aJ sO hr (af (aq 0) (af (aW (jQ (K:=K) rfl) rfl T.bZ M' (af (aq 1) aa)) aa))))) aa))))))) (ak cV) aH)
  (ak (aR (PW.pt (pw_or (cp (bu (aJ M hr (af (aq 2) (af ai (af (fH T.dG rfl) aa)))))) (pw_or1 (cp (bu (aW (hV rfl) rfl T.sy Rj (af (cX (N':=["letter","ways"]) (ix:=[none,some 1]) (bM (pv 2)) (λ_ _ _ _=>(aQ (i:=0) (show(["letter","ways"]:List Str).Nodup by decide +kernel) rfl Sort)) mG (λ_ _ _ _=>(aJ kT hr (af (aq 0) (af (aW (jQ (K:=K) rfl) rfl T.bZ M' (af (aq 1) aa)) aa))))) aa))))))) (ak cV) aH)))),?_⟩
 have M:(ms.map V.ref).length<=5:=by simpa using Hf
 left;calc fK N _ 1 _ rfl (.inl z) (λH1 X=>?_);rw[show(decide ((1:Int)<=((ms.map V.ref).length:Int))&&decide (((ms.map V.ref).length:Int)<=5))=true by simp;lia];left
 try simp only[Bool.not_true,Bool.false_eq_true,if_false]
 have B:=X _ _ z;calc bE ?_;left;calc .inl ⟨⟨_,aN.of B⟩,λD p=>?_⟩;refine bb (J:=tU K N) (n:=(ms.map V.ref).length) (λi a H'=>a=List.replicate i (V.bl true)/\au H1 H') (K' (aA ())) ⟨rfl,au.new _ p⟩ ?_ ?_ ?_ ?_
 ·rintro i a H' d ⟨_,l⟩;exact⟨_,(ms.map V.ref)[i],aN.of (l _ _ B),cN d⟩
 ·rintro a H' ⟨_,l⟩;exact⟨_,aN.of (l _ _ B),E' _⟩
 ·intro i a H' d c g gH x G gI;nofun;obtain⟨rfl,l⟩:=gH;obtain⟨rfl,u⟩:=gI;ac_rfl;have y:=u _ (aN.of (l _ _ B));walk_at "xf";left;rw[if_pos trivial];have Y:∃m,x=.ref m/\m∈ms:=by
   have:=U' y;obtain⟨m,hm,rfl⟩:=List.mem_map.mp this;exact⟨m,rfl,hm⟩
  nofun;obtain⟨m,rfl,B⟩:=Y;obtain⟨N,fs,M⟩:=Ux m B;ac_rfl;calc Y6 _ C _ true rfl (.ins (l _ _ (X _ _ M)) T.cJ T.DI T.DK T.u7 T.DJ) T.i_k ?_;have r:=au.refl G;calc bT (r _ _ c) g d (K' (aA ())) ⟨jH _ _,λb o e=>?_⟩;rw[ax (ao e p)];exact r _ _ (l _ _ e)
 rintro a H2 c g ⟨rfl,l⟩;left;rw[o8]at c;calc bz _ (aN.of c) ?_;have e:(List.replicate (ms.map V.ref).length true).all id=true:=by simp
 rw[e];clear e c g;left
 try simp only[Bool.not_true,Bool.false_eq_true,if_false]
 have B:=X.trans l;have M:=B _ _ S;left;calc fK O _ 0 _ rfl (.inl M) (λN l=>?_);rw[show(decide ((0:Int)<=(wv.length:Int))&&decide ((wv.length:Int)<=10))=true by simp;lia];left
 try simp only[Bool.not_true,Bool.false_eq_true,if_false]
 have I:=l _ _ M;have Z:=B.trans l;calc bE ?_;left;calc .inl ⟨⟨_,aN.of I⟩,λD p=>?_⟩;refine bb (J:=tU K O) (n:=wv.length) (λi a H'=>a=List.replicate i (V.bl true)/\au N H') (K' (aA ())) ⟨rfl,au.new _ p⟩ ?_ ?_ ?_ ?_
 ·rintro i a H' d ⟨_,j⟩;exact⟨_,wv[i],aN.of (j _ _ I),cN d⟩
 ·rintro a H' ⟨_,j⟩;exact⟨_,aN.of (j _ _ I),E' _⟩
 ·intro i a H' d c g mV x G pE;nofun;obtain⟨rfl,j⟩:=mV;obtain⟨rfl,u⟩:=pE;ac_rfl;have y:=u _ (aN.of (j _ _ I));walk_at "xf";left;rw[if_pos trivial];have l:i < ws.length:=by have:=U.1;rw[List.length_map] at this;lia
  have hw:=(U.2 i x (mn ws[i]) y (by rw[List.getElem?_map,cN l];rfl)).aK (Z.trans j).aM;calc bz _ (.inl ⟨_,aN.of (j _ _ (Z _ _ z)),rfl⟩) ?_;refine⟨x,1,ws[i].1,ws[i].2.1,ws[i].2.2,_,rfl,hw,?_,λB r=>?_⟩
  ·have:=Lf ws[i] (aab l);simpa[va] using this
  calc bT (r _ _ c) g d (K' (aA ())) ⟨jH _ _,λb o e=>?_⟩;rw[ax (ao e p)];exact r _ _ (j _ _ e)
 rintro a H4 c g ⟨rfl,j⟩;left;rw[o8]at c;calc bz _ (aN.of c) ?_;have e:(List.replicate wv.length true).all id=true:=by simp
 rw[e];clear e c g;left
 try simp only[Bool.not_true,Bool.false_eq_true,if_false]
 have l:=Z.trans j;have z:=l _ _ B0;left;calc fK R _ 0 _ rfl (.inl z) (λB j=>?_);rw[show(decide ((0:Int)<=(t.length:Int))&&decide ((t.length:Int)<=20))=true by simp;lia];left
 try simp only[Bool.not_true,Bool.false_eq_true,if_false]
 have L:=j _ _ z;have Zk:=l.trans j;calc bE ?_;left;calc .inl ⟨⟨_,aN.of L⟩,λD p=>?_⟩;refine bb (J:=tU K R) (n:=t.length) (λi a H'=>a=List.replicate i (V.bl true)/\au B H') (K' (aA ())) ⟨rfl,au.new _ p⟩ ?_ ?_ ?_ ?_
 ·rintro i a H' d ⟨_,k⟩;exact⟨_,t[i],aN.of (k _ _ L),cN d⟩
 ·rintro a H' ⟨_,k⟩;exact⟨_,aN.of (k _ _ L),E' _⟩
 ·intro i a H' d c g sL x G wq;nofun;obtain⟨rfl,k⟩:=sL;obtain⟨rfl,u⟩:=wq;ac_rfl;have y:=u _ (aN.of (k _ _ L));walk_at "xf";left;rw[if_pos trivial];have j:i < ls.length:=by have:=W.1;rw[List.length_map] at this;lia
  have hw:=(W.2 i x (qI ls[i]) y (by rw[List.getElem?_map,cN j];rfl)).aK (Zk.trans k).aM;calc bz _ (.inl ⟨_,aN.of (k _ _ (Zk _ _ S)),rfl⟩) ?_;refine⟨x,1,ls[i].1,ls[i].2,_,rfl,hw,?_,?_⟩
  ·have:=qU ls[i] (aab j);simpa[vb] using this
  have r:=au.refl G;calc bT (r _ _ c) g d (K' (aA ())) ⟨jH _ _,λb o e=>?_⟩;rw[ax (ao e p)];exact r _ _ (k _ _ e)
 rintro a H6 c g ⟨rfl,k⟩;left;rw[o8]at c;calc bz _ (aN.of c) ?_;have e:(List.replicate t.length true).all id=true:=by simp
 rw[e];clear e c g;left
 try simp only[Bool.not_true,Bool.false_eq_true,if_false]
 calc q _ (Zk.trans k)
abbrev Hh:Stmt:=(bW (top 51)).getD 0 (.Pass ⟨0,0,0,0⟩)
def Li(a b c:V):List (Str×V):=bf "own_letters" c (bf "own_ways" b (bf "own_machines" a []))
theorem UA{a b c:V}:(Li a b c).lookup ("own_machines":Str)=some a:=by
 unfold Li;rw[bt,if_neg ⋯,bt,if_neg ⋯,bt,if_pos rfl]
theorem UB{a b c:V}:(Li a b c).lookup ("own_ways":Str)=some b:=by
 unfold Li;rw[bt,if_neg ⋯,bt,if_pos rfl]
theorem Zl{a b c:V}:(Li a b c).lookup ("own_letters":Str)=some c:=by
 unfold Li;rw[bt,if_pos rfl]
theorem eB{a b c:V}(d:f≠"own_machines")(e:f≠"own_ways")(g:f≠"own_letters"):(Li a b c).lookup f=none:=by
 unfold Li;rw[bt,if_neg g,bt,if_neg e,bt,if_neg d];rfl
def mW(CN:Addr)(H:Hp)(x:Addr)(ms:List Addr)(wv d:List V):Prop:=∃e a b c,H x=some (.ins CN e (Li (.ref a) (.ref b) (.ref c)))/\H a=some (.tup (ms.map V.ref))/\H b=some (.tup wv)/\H c=some (.tup d)
theorem mW.same{CN:Addr}{x:Addr}{d:List V}(s:au H H')(h:mW CN H x ms wv d):mW CN H' x ms wv d:=by
 obtain⟨d,a,b,c,e,f,g,i⟩:=h;calc⟨d,a,b,c,s _ _ e,s _ _ f,s _ _ g,s _ _ i⟩
def yn(C CN:Addr):Sp:=λvs H Q _=>∃(x c d e f:Addr) (ms:List Addr) (wv a:List V) (ws:List (Int×Int×Str)) (ls:List (Int×Int)),vs=[.ref x,.ref d,.ref e,.ref f]/\H x=some (.ins CN c [])/\H d=some (.lst (ms.map V.ref))/\H e=some (.lst wv)/\H f=some (.lst a)/\1<=ms.length/\ms.length<=5/\wv.length<=10/\a.length<=20/\(∀m∈ms,∃c g,H m=some (.ins C c g))/\eS H 1 wv (ws.map mn)/\eS H 1 a (ls.map qI)/\(∀w∈ws,va ms.length w)/\(∀l∈ls,vb wv.length l)/\∀H',mW CN H' x ms wv a->(∀b o,b≠x->H b=some o->H' b=some o)->Q .bH H'
theorem UC(D:Dz K mg "Net" CN "Net.__init__" Hh ["self","machines","ways","letters"])(T:Tx K mg C CN CR F FD)(jV:Def P w K mg base "refuse_net" 4 ["machines","ways","letters"] (BZ C)):xO P w K mg base "Net" CN 7 ["self","machines","ways","letters"] (yn C CN):=by
 have sc:aB ["self","machines","ways","letters"] ["self","machines","ways","letters"] (av Hh):=by walk_at "s"
 symm;obtain⟨x,a,y,B,G,ms,wv,O,ws,ls,rfl,g,j,k,l,R,S,U,W,X,Y,Z,Lf,qU,q⟩:=h;have hu:=hr.units;refine⟨_,(ag (bI (aJ jV hr (af (aq 1) (af (aq 2) (af (aq 3) aa)))))
  (ag (fE (aq 0) (cZ bN rfl T.bQ qu (af (aq 1) aa)) (gy rfl))
  (ag (fE (aq 0) (cZ bN rfl T.bQ qu (af (aq 2) aa)) (gy rfl))
  (ak (fE (aq 0) (cZ bN rfl T.bQ qu (af (aq 3) aa)) (gy rfl)))))),?_⟩
 try walk_at "rt"
 calc⟨y,B,G,ms,wv,O,ws,ls,rfl,j,k,l,R,S,U,W,X,Y,Z,Lf,qU,λH1 I=>?_⟩;have O:=I _ _ g;have O:y≠x:=λz=>by subst z;rw[g]at j;cases j
 have UD:B≠x:=λz=>by subst z;rw[g]at k;cases k
 have PN:G≠x:=λz=>by subst z;rw[g]at l;cases l
 try walk_at "rt"
 refine jL (.inl (I _ _ j)) λc H2 s2 J=>?_
 try walk_at "rt"
 have m:=I.trans s2;have DW:=m _ _ g;calc⟨x,CN,a,[],rfl,DW,T.cQ,T.yf,∅,?_⟩;have L:c≠x:=λz=>by subst z;rw[DW]at J;cases J
 have p:∀b o,b≠x->H2 b=some o->upd H2 x (.ins CN a (bf "own_machines" (.ref c) [])) b=some o:=λb o d e=>by rw[ax d];exact e
 have JE:upd H2 x (.ins CN a (bf "own_machines" (.ref c) [])) x=some (.ins CN a (bf "own_machines" (.ref c) [])):=ab;generalize JF:upd H2 x (.ins CN a (bf "own_machines" (.ref c) []))=G3 at *;have Zm:=p _ _ L J;have DX:=p _ _ UD (m _ _ k);have Zn:=p _ _ PN (m _ _ l)
 try walk_at "rt"
 refine jL (.inl DX) λi r t M=>?_
 try walk_at "rt"
 have PQ:=t _ _ JE;calc qF x CN a _ rfl PQ T.cQ T.yg (bR (n:=999) ∅) ?_;have n2:i≠x:=λz=>by subst z;rw[PQ]at M;cases M
 have u:∀b o,b≠x->r b=some o->upd r x (.ins CN a (bf "own_ways" (.ref i) (bf "own_machines" (.ref c) []))) b=some o:=λb o d e=>by rw[ax d];exact e
 have Ey:upd r x (.ins CN a (bf "own_ways" (.ref i) (bf "own_machines" (.ref c) []))) x=some (.ins CN a (bf "own_ways" (.ref i) (bf "own_machines" (.ref c) []))):=ab;generalize RB:upd r x (.ins CN a (bf "own_ways" (.ref i) (bf "own_machines" (.ref c) [])))=G5 at *;have Zo:=u _ _ L (t _ _ Zm);have Zp:=u _ _ n2 M;have DY:=u _ _ PN (t _ _ Zn)
 try walk_at "rt"
 refine jL (.inl DY) λt3 g v N=>?_
 try walk_at "rt"
 have UE:=v _ _ Ey;calc qF x CN a _ rfl UE T.cQ T.Af (bR (n:=999) (bR (n:=998) ∅)) ?_;have n3:t3≠x:=λz=>by subst z;rw[UE]at N;cases N
 refine q _ ⟨a,c,i,t3,ab,?_,?_,?_⟩ λb o d e=>?_
 ·rw[ax L];exact v _ _ Zo
 ·rw[ax n2];exact v _ _ Zp
 ·rw[ax n3];exact N
 ·rw[ax d];calc v _ _ (u _ _ d (t _ _ (p _ _ d (m _ _ e))))
abbrev ip:Stmt:=(bW (top 51)).getD 1 (.Pass ⟨0,0,0,0⟩)
def g9(CN:Addr):Sp:=λvs H Q _=>∃(x:Addr) (ms:List Addr) (wv a:List V),vs=[.ref x]/\mW CN H x ms wv a/\∀l,H l=none->Q (.ref l) (upd H l (.lst (ms.map V.ref)))
theorem sQ(D:gA K CN "machines" "Net.machines" ip ["self"])(T:Tx K mg C CN CR F FD):cj P w K mg base CN "machines" 1 ["self"] (g9 CN):=by
 have sc:aB ["self"] ["self"] (av ip):=by walk_at "s"
 symm;obtain⟨x,ms,wv,e,rfl,⟨g,a,b,i,c,d,j,k⟩,q⟩:=h;have e:=hr.units;calc⟨_,(ak (aD (cZ cG rfl T.dX xc (af (bC (aq 0) rfl) aa)))),?_⟩;calc fld c T.cQ T.yf UA ?_;right;calc⟨_,.inr (bL.of d),λl e=>q l e⟩
abbrev mX:Stmt:=(bW (top 51)).getD 2 (.Pass ⟨0,0,0,0⟩)
def oE(CN:Addr):Sp:=λvs H Q _=>∃(x:Addr) (ms:List Addr) (wv a:List V),vs=[.ref x]/\mW CN H x ms wv a/\∀l,H l=none->Q (.ref l) (upd H l (.lst wv))
theorem An(D:gA K CN "ways" "Net.ways" mX ["self"])(T:Tx K mg C CN CR F FD):cj P w K mg base CN "ways" 1 ["self"] (oE CN):=by
 have sc:aB ["self"] ["self"] (av mX):=by walk_at "s"
 symm;obtain⟨x,ms,wv,e,rfl,⟨g,a,b,i,c,j,d,k⟩,q⟩:=h;have e:=hr.units;calc⟨_,(ak (aD (cZ cG rfl T.dX xc (af (bC (aq 0) rfl) aa)))),?_⟩;calc fld c T.cQ T.yg UB ?_;right;calc⟨_,.inr (bL.of d),λl e=>q l e⟩
abbrev iZ:Stmt:=(bW (top 51)).getD 3 (.Pass ⟨0,0,0,0⟩)
def qz(CN:Addr):Sp:=λvs H Q _=>∃(x:Addr) (ms:List Addr) (wv a:List V),vs=[.ref x]/\mW CN H x ms wv a/\∀l,H l=none->Q (.ref l) (upd H l (.lst a))
theorem ui(D:gA K CN "letters" "Net.letters" iZ ["self"])(T:Tx K mg C CN CR F FD):cj P w K mg base CN "letters" 1 ["self"] (qz CN):=by
 have sc:aB ["self"] ["self"] (av iZ):=by walk_at "s"
 symm;obtain⟨x,ms,wv,e,rfl,⟨g,a,b,i,c,j,k,d⟩,q⟩:=h;have e:=hr.units;calc⟨_,(ak (aD (cZ cG rfl T.dX xc (af (bC (aq 0) rfl) aa)))),?_⟩;calc fld c T.cQ T.Af Zl ?_;right;calc⟨_,.inr (bL.of d),λl e=>q l e⟩
theorem Zq{l:List Int}(h:l.length=1):∃a,l=[a]:=List.length_eq_one_iff.mp h
abbrev i3:Stmt:=top 23
inductive vc(K:W.Frag)(vs:List V)(H:Hp)(Q:VK):Prop
 |mk (x:_) (st:_) (way:_) (said:_) (v:_) (ns:_) (row:_) (n:_) (h0:vs=[x,st,.int way,.int said]) (h1:HT H n x (Val.dv v)) (h2:xS K H st ns row) (h3:v.ok ns.length) (h4:Q (.int (rX ns row way said v)) H):vc K vs H Q
def yo(K:W.Frag):Sp:=λvs H Q _=>vc K vs H Q
theorem uj(D:cM K mg "plain_worth" "plain_worth" i3 ["value","state","way","said"])(T:Tx K mg C CN CR F FD):Def P w K mg base "plain_worth" 1 ["value","state","way","said"] (yo K):=by
 have sc:aB ["value","state","way","said","word"] ["value","state","way","said"] (av i3):=by walk_at "s"
 symm;obtain⟨x,st,way,g,v,ns,row,n,rfl,k,G,t,q⟩:=h;have b:=hr.units;refine⟨_,(ag (aY (i:=4) sc.nd rfl Sort (aj b (aq 0) ai))
  (ag (aR (az (ba b) (aq 4) aC (aE _)) (ak (aD (aj b (aq 0) ai))) aH)
  (ag (aR (az (ba b) (aq 4) aC (aE _)) (ak (aD (aj b (aj b (aq 1) ai) (aj b (aq 0) ai)))) aH)
  (ag (aR (az (ba b) (aq 4) aC (aE _)) (ak (aD (aq 3))) aH)
  (ag (aR (az (ba b) (aq 4) aC (aE _)) (ak (aD (aq 2))) aH)
  (ak (aD (EM (az mM (aW aL rfl T.bZ M' (af (aj b (aq 1) ai) aa)) ai (aE _)) (aj b (aj b (aq 1) ai) ai) ai)))))))),?_⟩
 obtain⟨a,L,M,rfl,u,y,l⟩:=G
 cases v with
 |is z=>
  nofun;obtain⟨p,m,J,o,rfl,c,d,B⟩:=dA k;obtain rfl:=d.cP;obtain rfl:=B.cE;ac_rfl;walk_at "jd";refine cw _ _ (.inr (bL.of c)) rfl ?_;walk_at "jd"
  try rw[if_pos ⋯]
  calc⟨_,_,.inr (bL.of c),rfl,q⟩
 |number i=>
  nofun;obtain⟨p,m,J,o,rfl,c,d,B⟩:=dA k;obtain rfl:=d.cP;obtain rfl:=B.cE;obtain⟨j,rfl⟩:=aaj t.1;ac_rfl;have I:j<ns.length:=by have:=t.2;lia
  walk_at "jd";refine cw _ _ (.inr (bL.of c)) rfl ?_;walk_at "jd"
  try rw[if_neg ⋯]
  left
  try rw[if_pos ⋯]
  calc⟨_,_,.inr (bL.of u),rfl,_,_,.inr (bL.of c),rfl,?_⟩;calc⟨_,.int ns[j],y,ay (by rw[List.getElem?_map,cN I];rfl),?_⟩;have e:rX ns row way g (.number j)=ns[j]:=by
   show ns.getD (j:Int).toNat 0=ns[j];simp[List.getD_eq_getElem?_getD,cN I]
  rw[e]at q;calc q
 |mN=>
  nofun;obtain⟨p,m,o,rfl,c,d⟩:=iX k;obtain rfl:=d.cP;ac_rfl;walk_at "jd";refine cw _ _ (.inr (bL.of c)) rfl ?_;walk_at "jd"
  try rw[if_neg ⋯]
  left
  try rw[if_neg ⋯]
  left
  try rw[if_pos ⋯]
  calc q
 |way=>
  nofun;obtain⟨p,m,o,rfl,c,d⟩:=iX k;obtain rfl:=d.cP;ac_rfl;walk_at "jd";refine cw _ _ (.inr (bL.of c)) rfl ?_;walk_at "jd"
  try rw[if_neg ⋯]
  left
  try rw[if_neg ⋯]
  left
  try rw[if_neg ⋯]
  left
  try rw[if_pos ⋯]
  calc q
 |first=>
  nofun;obtain⟨p,m,o,rfl,c,d⟩:=iX k;obtain rfl:=d.cP;ac_rfl;walk_at "jd";refine cw _ _ (.inr (bL.of c)) rfl ?_;walk_at "jd"
  try rw[if_neg ⋯]
  left
  try rw[if_neg ⋯]
  left
  try rw[if_neg ⋯]
  left
  try rw[if_neg ⋯]
  calc cw _ _ (.inr (bL.of u)) rfl ?_;refine bz _ (l.elim (λz=>.inl ⟨_,z,rfl⟩) (λz=>.inr ⟨_,z,rfl⟩)) ?_
  cases row with
  |nil=>
   left;rw[if_neg nofun];calc q
  |cons r b=>
   left;rw[if_pos nofun];calc⟨_,_,.inr (bL.of u),rfl,_,_,l,ay (j:=0) rfl,q⟩
abbrev mY:Stmt:=top 24
inductive vd(K:W.Frag)(vs:List V)(H:Hp)(Q:VK):Prop
 |mk (x:_) (st:_) (way:_) (said:_) (m:_) (v:_) (ns:_) (row:_) (n:_) (h0:vs=[x,st,.int way,.int said,.int m]) (h1:HT H n x (Val.dv v)) (h2:xS K H st ns row) (h3:v.ok ns.length) (h4:0<m) (h5:Q (.int (rX ns row way said v%m)) H):vd K vs H Q
def yp(K:W.Frag):Sp:=λvs H Q _=>vd K vs H Q
theorem Ao(D:cM K mg "worth_of" "worth_of" mY ["value","state","way","said","modulus"])(T:Tx K mg C CN CR F FD)(i:Def P w K mg base "plain_worth" 1 ["value","state","way","said"] (yo K)):Def P w K mg base "worth_of" 2 ["value","state","way","said","modulus"] (yp K):=by
 have sc:aB ["value","state","way","said","modulus"] ["value","state","way","said","modulus"] (av mY):=by walk_at "s"
 symm;obtain⟨x,st,b,a,m,v,ns,row,n,rfl,c,d,e,g,q⟩:=h;have j:=hr.units;refine⟨_,(ak (aD (bc eO (aJ i hr (af (aq 0) (af (aq 1) (af (aq 2) (af (aq 3) aa))))) (aq 4)))),?_⟩;walk_at "jd";exact⟨x,st,b,a,v,ns,row,n,rfl,c,d,e,g,q⟩
abbrev kW:Stmt:=top 31
inductive VL(H:Hp)(n:Nat):List V->List Val->Prop
 |nil:VL H n [] []
 |cons {x v xs vs}:HT H n x (Val.dv v)->VL H n xs vs->VL H n (x::xs) (v::vs)
theorem VL.same{H H':Hp}{n:Nat}(s:cg H H'){xs:List V}{vs:List Val}(h:VL H n xs vs):VL H' n xs vs:=by
 induction h with
 |nil=>calc .nil
 |cons a _ b=>calc .cons (a.aK s) b
theorem VL.snoc{H:Hp}{n:Nat}{xs:List V}{vs:List Val}{x:V}{v:Val}(h:VL H n xs vs)(a:HT H n x v.dv):VL H n (xs++[x]) (vs++[v]):=by
 induction h with
 |nil=>calc .cons a .nil
 |cons a _ b=>calc .cons a b
theorem VL.len{H:Hp}{n:Nat}{xs:List V}{vs:List Val}(h:VL H n xs vs):xs.length=vs.length:=by
 induction h with
 |nil=>rfl
 |cons _ _ a=>simp[a]
inductive PL(H:Hp)(n:Nat):List V->List (Option Val)->Prop
 |nil:PL H n [] []
 |str {w xs os}:PL H n xs os->PL H n (.str w::xs) (none::os)
 |int {i xs os}:PL H n xs os->PL H n (.int i::xs) (none::os)
 |val {x v xs os}:HT H n x (Val.dv v)->PL H n xs os->PL H n (x::xs) (some v::os)
theorem PL.get{H:Hp}{n:Nat}{xs:List V}{b:List (Option Val)}(h:PL H n xs b):∀{i:Nat}{x:V},xs[i]?=some x->∃o,b[i]?=some o/\((o=none/\((∃w,x=.str w)\/∃j,x=.int j))\/∃v,o=some v/\HT H n x (Val.dv v)):=by
 induction h with
 |nil=>intro i x h;simp at h
 |str _ a=>
  intro i x h
  cases i with
  |zero=>cases h;calc⟨none,rfl,.inl ⟨rfl,.inl ⟨_,rfl⟩⟩⟩
  |succ i=>calc a h
 |int _ a=>
  intro i x h
  cases i with
  |zero=>cases h;calc⟨none,rfl,.inl ⟨rfl,.inr ⟨_,rfl⟩⟩⟩
  |succ i=>calc a h
 |val c _ a=>
  intro i x h
  cases i with
  |zero=>cases h;calc⟨some _,rfl,.inr ⟨_,rfl,c⟩⟩
  |succ i=>calc a h
theorem PL.len{H:Hp}{n:Nat}{xs:List V}{a:List (Option Val)}(h:PL H n xs a):xs.length=a.length:=by
 induction h with
 |nil=>rfl
 |str _ a=>simp[a]
 |int _ a=>simp[a]
 |val _ _ a=>simp[a]
theorem B2{H:Hp}{n:Nat}{x:V}{d:bx}(h:HT H n x d.dv):∃a xs j b,x=.ref a/\H a=some (.tup xs)/\PL H b xs j/\j.filterMap id=d.vals/\xs.length<=4:=by
 cases d with
 |set i v=>
  nofun;obtain⟨a,k,l,m,b,rfl,c,e,f,g⟩:=bS h;obtain rfl:=e.cP;obtain rfl:=f.cE;ac_rfl;calc⟨a,_,_,b,rfl,c,.str (.int (.val g .nil)),rfl,nofun⟩
 |add i v=>
  nofun;obtain⟨a,k,l,m,b,rfl,c,e,f,g⟩:=bS h;obtain rfl:=e.cP;obtain rfl:=f.cE;ac_rfl;calc⟨a,_,_,b,rfl,c,.str (.int (.val g .nil)),rfl,nofun⟩
 |times i v=>
  nofun;obtain⟨a,k,l,m,b,rfl,c,e,f,g⟩:=bS h;obtain rfl:=e.cP;obtain rfl:=f.cE;ac_rfl;calc⟨a,_,_,b,rfl,c,.str (.int (.val g .nil)),rfl,nofun⟩
 |put v=>
  nofun;obtain⟨a,k,l,b,rfl,c,e,f⟩:=dA h;obtain rfl:=e.cP;ac_rfl;calc⟨a,_,_,b,rfl,c,.str (.val f .nil),rfl,nofun⟩
 |drop=>
  nofun;obtain⟨a,k,b,rfl,c,e⟩:=iX h;obtain rfl:=e.cP;ac_rfl;calc⟨a,_,_,b,rfl,c,.str (.nil),rfl,nofun⟩
 |send j v=>
  nofun;obtain⟨a,k,l,m,b,rfl,c,e,f,g⟩:=bS h;obtain rfl:=e.cP;obtain rfl:=f.cE;ac_rfl;calc⟨a,_,_,b,rfl,c,.str (.int (.val g .nil)),rfl,nofun⟩
 |say v=>
  nofun;obtain⟨a,k,l,b,rfl,c,e,f⟩:=dA h;obtain rfl:=e.cP;ac_rfl;calc⟨a,_,_,b,rfl,c,.str (.val f .nil),rfl,nofun⟩
 |skip v i j=>
  nofun;obtain⟨a,k,l,m,p,b,rfl,c,e,f,g,o⟩:=oy h;obtain rfl:=e.cP;obtain rfl:=o.cE;ac_rfl;calc⟨a,_,_,b,rfl,c,.str (.val f (.val g (.int .nil))),rfl,nofun⟩
inductive yq(vs:List V)(H:Hp)(Q:VK):Prop
 |mk (x:_) (n:_) (d:_) (h0:vs=[x]) (h1:HT H n x (bx.dv d)) (h2:∀l zs k0 H',au H H'->H l=none->H' l=some (.lst zs)->VL H' k0 zs d.vals->Q (.ref l) H'):yq vs H Q
def B3:Sp:=λvs H Q _=>yq vs H Q
theorem yr(D:cM K mg "values_of" "values_of" kW ["deed"])(T:Tx K mg C CN CR F FD):Def P w K mg base "values_of" 1 ["deed"] B3:=by
 have sc:aB ["deed"] ["deed"] (av kW):=by walk_at "s"
 symm;obtain⟨x,n,d,rfl,B,q⟩:=h;have hu:=hr.units;refine⟨_,(ak (aD (cX (N':=["part"]) (ix:=[none]) (bM (pv 0)) (λ_ _ _ _=>(aQ (i:=0) (show(["part"]:List Str).Nodup by decide +kernel) rfl Sort)) (λ_ _ _ _=>(iO (bu (aW (uU (K:=K) rfl) rfl T.aZ vz (af (aq 0) (af (cF (v:=.ty "tuple") rfl T.bQ qu rfl) aa)))))) (λ_ _ _ _=>(aq 0))))),?_⟩;obtain⟨a,k,u,G,rfl,p,I,R,T⟩:=B2 B;left;refine bE ?_;left;refine .inr ⟨⟨_,bL.of p⟩,λD y=>?_⟩;refine bb (J:=SM K a) (n:=k.length) (λi ys H'=>au H H'/\VL H' G ys ((u.take i).filterMap id)) (K' (aA ())) ⟨au.new _ y,.nil⟩ ?_ ?_ ?_ ?_
 ·rintro i ys H' z ⟨g,_⟩;exact⟨k,k[i],bL.of (g _ _ p),cN z⟩
 ·rintro ys H' ⟨g,_⟩;exact⟨k,bL.of (g _ _ p),E' _⟩
 ·intro i ys H' z l L S x r U;nofun;obtain⟨g,m⟩:=S;obtain⟨rfl,n⟩:=U;have B:=n k (bL.of (g _ _ p));obtain⟨o,S,X⟩:=I.get B;ac_rfl;have M:u.take (i+1)=u.take i++[o]:=by
   rw[List.take_add_one,S];rfl
  walk_at "xf";left;rcases X with⟨rfl,Y⟩|⟨v,rfl,Z⟩
  ·have Zs:∃t,gF K r x t/\W.kitOne K t (.type "tuple")=some false:=by
    rcases Y with⟨w,rfl⟩|⟨j,rfl⟩
    ·exact⟨_,.str w,rfl⟩
    ·exact⟨_,.int j,rfl⟩
   obtain⟨t,i,j⟩:=Zs;refine cw t false i j ?_
   first|calc⟨false,rfl,?_⟩|skip
   left
   try rw[if_neg Bool.false_ne_true]
   exact⟨ys,l,(),g,by rw[M];simpa using m⟩
  ·have N:=Z.aK g.aM;obtain⟨b,zs,rfl,i⟩:=BB N;refine cw _ true (.tup i) rfl ?_
   first|calc⟨true,rfl,?_⟩|skip
   left
   try first|rw[if_pos rfl]|rw[if_pos trivial]
   calc bT l L z (K' (aA ())) ⟨λc o e=>by rw[ax (ao e y)];calc g _ _ e,?_⟩;rw[M,List.filterMap_append];have O:cg r (upd r D (.lst (ys++[.ref b]))):=(cg.refl r).upd λzs e=>by rw[l]at e;cases e
   exact(m.same O).snoc (N.aK O)
 ·rintro ys H' l L ⟨g,m⟩;rw[I.len,List.take_length,R]at m;calc q _ ys G _ g y l m
theorem wu{H:Hp}{n:Nat}{x:V}{d:bx}(f:HT H n x d.dv):∃a ps,x=.ref a/\H a=some (.tup (.str d.word::ps)):=by
  cases d with
  |drop=>
    obtain⟨g,h,i,b,c,e⟩:=iX f;obtain rfl:=e.cP;calc⟨_,_,b,c⟩
  |skip v n o=>
    obtain⟨g,h,j,l,n,i,b,c,e,k,m,o⟩:=oy f;obtain rfl:=e.cP;calc⟨_,_,b,c⟩
  |_=>
    first
    | (obtain⟨g,h,j,l,i,b,c,e,k,m⟩:=bS f
       obtain rfl:=e.cP;calc⟨_,_,b,c⟩)
    | (obtain⟨g,h,j,i,b,c,e,k⟩:=dA f
       obtain rfl:=e.cP;calc⟨_,_,b,c⟩)
theorem Hl(e:d.word="put"):d.vals.length=1/\∀row x,oo row x d=if row.length<12 then row++[x] else row:=by
 cases d<;>first|calc absurd e (by simp only[bx.word];decide)|calc⟨rfl,λ_ _=>rfl⟩
theorem DZ(e:d.word="drop"):∀row x,oo row x d=row.tail:=by
 cases d<;>first|calc absurd e (by simp only[bx.word];decide)|calc λ_ _=>rfl
theorem Hm(e:¬d.word="put")(a:¬d.word="drop"):∀row x,oo row x d=row:=by
 cases d<;>first|calc λ_ _=>rfl|calc absurd rfl e|calc absurd rfl a
theorem D0{n:Nat}(b:HT H n (.ref a) d.dv)(e:d.word="skip"):∃u v k,H a=some (.tup [.str "skip",u,v,.int k])/\d.vals.length=2/\∀x y,oq x y d=if x<y then k else 0:=by
 cases d<;>first|calc absurd e (by simp only[bx.word];decide)|skip
 obtain⟨i,j,k,l,m,n,c,f,g,o,p,h⟩:=oy b;obtain rfl:=V.ref.inj c;obtain rfl:=g.cP;obtain rfl:=h.cE;calc⟨_,_,_,f,rfl,λ_ _=>rfl⟩
theorem yu(e:¬d.word="skip"):∀x y,oq x y d=0:=by
 cases d<;>first|calc λ_ _=>rfl|calc absurd rfl e
theorem oF{n k:Nat}(h:k<n):zI n (k:Int)=some k:=by
 unfold zI;rw[if_pos (),if_pos ()];simp
theorem iq{ws:List Int}{j:Nat}(h:j<ws.length):iJ (ws.map V.int) ((j:Nat):Int)=some (.int (ws.getD j 0)):=ay (by rw[List.getElem?_map,aS (d:=0) h];rfl)
theorem B4{M:Int}{l:List Int}(h:∀z∈l,0<=z/\z<M){j:Nat}(a:j<l.length):0<=l.getD j 0/\l.getD j 0<M:=h _ (DD.getD_mem a)
def sR(M:Int)(ns row:List Int)(x y:Int)(d:bx):List Int×List Int×List (Int×Int)×List Int×Int:=(jI M ns x d,oo row x d,ic x d,gb x d,oq x y d)
inductive UG(H:Hp)(a:Addr)(m:Int)(d:bx):Prop
 |set (j:Nat) (u:V) (hj:(j:Int)<m) (h:H a=some (.tup [.str "set",.int j,u])) (hl:d.vals.length=1) (e:∀M ns row x y,sR M ns row x y d=(ns.set j x,row,[],[],0))
 |add (j:Nat) (u:V) (hj:(j:Int)<m) (h:H a=some (.tup [.str "add",.int j,u])) (hl:d.vals.length=1) (e:∀M ns row x y,sR M ns row x y d=(ns.set j ((ns.getD j 0+x)%M),row,[],[],0))
 |times (j:Nat) (u:V) (hj:(j:Int)<m) (h:H a=some (.tup [.str "times",.int j,u])) (hl:d.vals.length=1) (e:∀M ns row x y,sR M ns row x y d=(ns.set j ((ns.getD j 0*x)%M),row,[],[],0))
 |put (u:V) (h:H a=some (.tup [.str "put",u])) (hl:d.vals.length=1) (e:∀M ns row x y,sR M ns row x y d=(ns,if row.length<12 then row++[x] else row,[],[],0))
 |drop (h:H a=some (.tup [.str "drop"])) (e:∀M ns row x y,sR M ns row x y d=(ns,row.tail,[],[],0))
 |send (j:Int) (u:V) (h:H a=some (.tup [.str "send",.int j,u])) (hl:d.vals.length=1) (e:∀M ns row x y,sR M ns row x y d=(ns,row,[(j,x)],[],0))
 |say (u:V) (h:H a=some (.tup [.str "say",u])) (hl:d.vals.length=1) (e:∀M ns row x y,sR M ns row x y d=(ns,row,[],[x],0))
 |skip (u v:V) (k:Nat) (h:H a=some (.tup [.str "skip",u,v,.int k])) (hl:d.vals.length=2) (e:∀M ns row x y,sR M ns row x y d=(ns,row,[],[],if x<y then(k:Int) else 0))
theorem ve{H:Hp}{n:Nat}{a:Addr}{d:bx}{m:Int}(k:HT H n (.ref a) d.dv)(l:d.ok m):UG H a m d:=by
 cases d with
 |set i v=>
  obtain⟨o,p,g,h,q,b,c,e,f,s⟩:=bS k;obtain rfl:=V.ref.inj b;obtain rfl:=e.cP;obtain rfl:=f.cE;obtain⟨r,rfl⟩:=aaj l.1;calc .set r h l.2.1 c rfl λ_ _ _ _ _=>rfl
 |add i v=>
  obtain⟨o,p,g,h,q,b,c,e,f,s⟩:=bS k;obtain rfl:=V.ref.inj b;obtain rfl:=e.cP;obtain rfl:=f.cE;obtain⟨r,rfl⟩:=aaj l.1;calc .add r h l.2.1 c rfl λ_ _ _ _ _=>rfl
 |times i v=>
  obtain⟨o,p,g,h,q,b,c,e,f,s⟩:=bS k;obtain rfl:=V.ref.inj b;obtain rfl:=e.cP;obtain rfl:=f.cE;obtain⟨r,rfl⟩:=aaj l.1;calc .times r h l.2.1 c rfl λ_ _ _ _ _=>rfl
 |put v=>
  obtain⟨o,p,g,q,b,c,e,f⟩:=dA k;obtain rfl:=V.ref.inj b;obtain rfl:=e.cP;calc .put g c rfl λ_ _ _ _ _=>rfl
 |drop=>
  obtain⟨o,p,q,b,c,e⟩:=iX k;obtain rfl:=V.ref.inj b;obtain rfl:=e.cP;calc .drop c λ_ _ _ _ _=>rfl
 |send j v=>
  obtain⟨o,p,g,h,q,b,c,e,f,s⟩:=bS k;obtain rfl:=V.ref.inj b;obtain rfl:=e.cP;obtain rfl:=f.cE;calc .send j h c rfl λ_ _ _ _ _=>rfl
 |say v=>
  obtain⟨o,p,g,q,b,c,e,f⟩:=dA k;obtain rfl:=V.ref.inj b;obtain rfl:=e.cP;calc .say g c rfl λ_ _ _ _ _=>rfl
 |skip v i j=>
  obtain⟨o,p,g,h,i,q,b,c,e,f,s,t⟩:=oy k;obtain rfl:=V.ref.inj b;obtain rfl:=e.cP;obtain rfl:=t.cE;obtain⟨r,rfl⟩:=aaj (Int.le_trans ∅ l.2.2.1);calc .skip g h r c rfl λ_ _ _ _ _=>rfl
abbrev gh:Stmt:=top 39
inductive B5(vs:List V)(H:Hp)(Q:VK):Prop
 |mk (an:Addr) (x:V) (l:Addr) (ns ws:List Int) (M:Int) (n:Nat) (d:bx) (h0:vs=[.ref an,x,.ref l,.int M]) (h1:H an=some (.lst (ns.map V.int))) (h2:HT H n x d.dv) (h3:H l=some (.lst (ws.map V.int))) (h4:ws.length=d.vals.length) (h5:d.ok ns.length) (h6:0<M) (h7:M<=1000000000000) (h8:(∀z∈ns,0<=z/\z<M)) (h9:∀H',H' an=some (.lst ((jI M ns (ws.getD 0 0) d).map V.int))->(∀b o,b≠an->H b=some o->H' b=some o)->Q .bH H'):B5 vs H Q
def Hn:Sp:=λvs H Q _=>B5 vs H Q
theorem pM(D:cM K mg "change_numbers" "change_numbers" gh ["numbers","deed","worths","modulus"])(T:Tx K mg C CN CR F FD):Def P w K mg base "change_numbers" 1 ["numbers","deed","worths","modulus"] Hn:=by
 have sc:aB ["numbers","deed","worths","modulus"] ["numbers","deed","worths","modulus"] (av gh):=by walk_at "s"
 symm;obtain⟨o,x,l,ns,ws,M,n,d,rfl,p,v,y,R,z,B,S,G,q⟩:=h;have g:=hr.units;calc⟨_,(ak (aR (az (ba g) (aj g (aq 1) ai) aC (aE _)) (ak (eD (aj g (aq 2) ai) (iV (aq 0) (aj g (aq 1) ai) dU))) (ak (aR (az (ba g) (aj g (aq 1) ai) aC (aE _)) (ak (eD (bc eO (bc c8 (aj g (aq 0) (aj g (aq 1) ai)) (aj g (aq 2) ai)) (aq 3)) (iV (aq 0) (aj g (aq 1) ai) dU))) (ak (aR (az (ba g) (aj g (aq 1) ai) aC (aE _)) (ak (eD (bc eO (bc lZ (aj g (aq 0) (aj g (aq 1) ai)) (aj g (aq 2) ai)) (aq 3)) (iV (aq 0) (aj g (aq 1) ai) dU))) aH)))))),?_⟩;nofun;obtain⟨a,ps,rfl,i⟩:=wu v;have U:=ve v z;have I:∀c:Nat,((c:Nat):Int) < ns.length->zI (ns.map V.int).length ((c:Nat):Int)=some c/\iJ (ns.map V.int) ((c:Nat):Int)=some (.int (ns.getD c 0))/\0<=ns.getD c 0/\ns.getD c 0 < M:=λc k=>⟨oF (by rw[List.length_map];lia),iq (),B4 G ()⟩
 have J:∀c y,jI M ns (ws.getD 0 0) d=ns.set c y->Q .bH (upd H o (.lst ((ns.map V.int).set c (.int y)))):=λc y E=>q _ (by rw[ab,E,List.map_set]) λb o g e=>by rw[ax g];exact e
 have r:jI M ns (ws.getD 0 0) d=ns->Q .bH H:=λE=>q H (by rw[E];calc p) λ_ _ _ e=>e;calc hZ ?_;clear hZ gZ v z i G q
 cases U with
 |set c u k i m E=>
  have L:=iq (ws:=ws) (j:=0) ();obtain⟨t,N,O⟩:=I c k;walk_at "jg";exact cw _ c p t (J _ _ (congrArg Prod.fst (E M ns [] (ws.getD 0 0) 0)))
 |add c u k i m E=>
  have L:=iq (ws:=ws) (j:=0) ();obtain⟨t,N,O⟩:=I c k;walk_at "jg";refine⟨B,?_⟩;walk_at "jg";exact cw _ c p t (J _ _ (congrArg Prod.fst (E M ns [] (ws.getD 0 0) 0)))
 |times c u k i m E=>
  have L:=iq (ws:=ws) (j:=0) ();obtain⟨t,N,O⟩:=I c k;walk_at "jg";refine ig (.inl ⟨(),()⟩) B ?_;walk_at "jg";exact cw _ c p t (J _ _ (congrArg Prod.fst (E M ns [] (ws.getD 0 0) 0)))
 |put u i m E=>walk_at "jg";exact r (congrArg Prod.fst (E M ns [] (ws.getD 0 0) 0))
 |drop i E=>walk_at "jg";exact r (congrArg Prod.fst (E M ns [] (ws.getD 0 0) 0))
 |send j u i m E=>walk_at "jg";exact r (congrArg Prod.fst (E M ns [] (ws.getD 0 0) 0))
 |say u i m E=>walk_at "jg";exact r (congrArg Prod.fst (E M ns [] (ws.getD 0 0) 0))
 |skip u v k i m E=>walk_at "jg";exact r (congrArg Prod.fst (E M ns [] (ws.getD 0 0) 0))
abbrev jW:Stmt:=top 40
inductive B7(vs:List V)(H:Hp)(Q:VK):Prop
 |mk (an:Addr) (x:V) (l:Addr) (row ws:List Int) (n:Nat) (d:bx) (h0:vs=[.ref an,x,.ref l]) (h1:H an=some (.lst (row.map V.int))) (h2:HT H n x d.dv) (h3:H l=some (.lst (ws.map V.int))) (h4:ws.length=d.vals.length) (h5:row.length<=12) (h6:∀H',H' an=some (.lst ((oo row (ws.getD 0 0) d).map V.int))->(∀b o,b≠an->H b=some o->H' b=some o)->Q .bH H'):B7 vs H Q
def Ho:Sp:=λvs H Q _=>B7 vs H Q
theorem wx(D:cM K mg "change_row" "change_row" jW ["row","deed","worths"])(T:Tx K mg C CN CR F FD):Def P w K mg base "change_row" 1 ["row","deed","worths"] Ho:=by
 have sc:aB ["row","deed","worths"] ["row","deed","worths"] (av jW):=by walk_at "s"
 symm;obtain⟨B,x,l,row,ws,n,d,rfl,c,t,G,y,g,q⟩:=h;have i:=hr.units;calc⟨_,(ak (aR (PW.pt (pw_and (az (ba i) (aj i (aq 1) ai) aC (aE _)) (pw_and1 (az gG (aW aL rfl T.bZ M' (af (aq 0) aa)) (fH T.fe rfl) (aE _))))) (ak (bI (dy mH qr qt bV (aq 0) (af (aj i (aq 2) ai) aa)))) (ak (aR (PW.pt (pw_and (az (ba i) (aj i (aq 1) ai) aC (aE _)) (pw_and1 (az mM (aW aL rfl T.bZ M' (af (aq 0) aa)) ai (aE _))))) (ak (KR (aq 0) ai)) aH)))),?_⟩;obtain⟨a,ps,rfl,p⟩:=wu t;by_cases k:d.word="put"
 ·obtain⟨g,u⟩:=Hl k;rw[k] at p;have g:=iq (ws:=ws) (j:=0) ();rw[u] at q;walk_at "jg";refine bz _ (.inl ⟨_,aN.of c,rfl⟩) ?_;rw[List.length_map];by_cases z:row.length < 12
  ·rw[if_pos z]at q;left;rw[if_pos (by simp;lia)];walk_at "jg";refine⟨.inl ⟨rfl,_,aN.of c⟩,?_⟩;walk_at "jg";refine gB _ c (aaw (by simp;lia) (aA (n:=100) ())) ?_;exact q _ (by rw[ab,List.map_append];rfl) λb o v e=>by rw[ax v];exact e
  ·rw[if_neg z]at q;left;rw[if_neg (by simp;lia)];walk_at "jg";exact q H c λ_ _ _ e=>e
 by_cases m:d.word="drop"
 ·rw[m] at p;rw[DZ m] at q;walk_at "jg";refine bz _ (.inl ⟨_,aN.of c,rfl⟩) ?_;clear k m t y
  cases row with
  |nil=>
   left
   try rw[if_neg nofun]
   calc q H c λ_ _ _ e=>e
  |cons r g=>
   left;rw[if_pos nofun];walk_at "jg";refine Y7 _ _ _ 0 rfl rfl c ∅ ∅ (by simp[seqIndex?]) ?_;exact q _ ab λb o v e=>by rw[ax v];exact e
 ·rw[Hm k m]at q;left;calc di p (ay (j:=0) rfl) ?_;left;rw[if_neg λz=>k (of_decide_eq_true z)];left;calc di p (ay (j:=0) rfl) ?_;left;rw[if_neg λz=>m (of_decide_eq_true z)];left;calc q H c λ_ _ _ e=>e
abbrev mZ:Stmt:=top 41
inductive yw(vs:List V)(H:Hp)(Q:VK):Prop
 |mk (x:V) (l:Addr) (ws:List Int) (n:Nat) (d:bx) (h0:vs=[x,.ref l]) (h1:HT H n x d.dv) (h2:H l=some (.lst (ws.map V.int))) (h3:ws.length=d.vals.length) (h4:Q (.int (oq (ws.getD 0 0) (ws.getD 1 0) d)) H):yw vs H Q
def B8:Sp:=λvs H Q _=>yw vs H Q
theorem Aq(D:cM K mg "left_out" "left_out" mZ ["deed","worths"])(T:Tx K mg C CN CR F FD):Def P w K mg base "left_out" 1 ["deed","worths"] B8:=by
 have sc:aB ["deed","worths"] ["deed","worths"] (av mZ):=by walk_at "s"
 symm;obtain⟨x,l,ws,n,d,rfl,c,b,i,q⟩:=h;have b:=hr.units;refine⟨_,(ag (aR (PW.pt (pw_and (az (ba b) (aj b (aq 0) ai) aC (aE _)) (pw_and1 (az gG (aj b (aq 1) ai) (aj b (aq 1) ai) (aE _))))) (ak (aD (aj b (aq 0) ai))) aH)
  (ak (aD ai))),?_⟩
 obtain⟨a,ps,rfl,k⟩:=wu c;by_cases e:d.word="skip"
 ·obtain⟨u,v,b,k,l,m⟩:=D0 c e;rw[m] at q;have b:=iq (ws:=ws) (j:=0) ();have b:=iq (ws:=ws) (j:=1) ();clear c i m e;walk_at "jg";by_cases g:ws.getD 0 0 < ws.getD 1 0
  ·rw[if_pos g]at q;left;rw[if_pos (decide_eq_true g)];walk_at "jg";exact q
  ·rw[if_neg g]at q;left;rw[if_neg λz=>g (of_decide_eq_true z)];left;exact q
 ·rw[yu e]at q;left;calc di k (ay (j:=0) rfl) ?_;left;rw[if_neg λz=>e (of_decide_eq_true z)];left;calc q
theorem Hq{d:TT}{f:TS}{D:Ends}(e:St->Hp->Prop)(μ:St->Nat)(h:e σ H)
  (i:∀σ H,e σ H->d σ H λb H1=>if b=true then ∃N:St->Hp->Prop,(∀a H',N a H'->e a H'/\μ a<μ σ)/\f {D with nx:=N,ct:=N,bk:=D.nx} σ H1 else D.nx σ H1)
  (c:∀σ H (Q g:Bool->Hp->Prop),(∀b H1,Q b H1->g b H1)->d σ H Q->d σ H g):vE d f D σ H:=by
 calc⟨λm σ H=>m=μ σ/\e σ H,⟨_,rfl,h⟩,?_⟩;rintro m σ H ⟨rfl,p⟩;refine c σ H _ _ (λb H1 q=>?_) (i σ H p)
 cases b with
 |true=>
  obtain⟨N,c,d⟩:=q;calc⟨N,λa H' n=>⟨_,(c a H' n).2,rfl,(c a H' n).1⟩,d⟩
 |false=>calc q
def SL(H:Hp)(a:List V)(ps:List (Int×Int)):Prop:=a.length=ps.length/\∀(i:Nat) z p,a[i]?=some z->ps[i]?=some p->HT H 1 z (.tup [.int p.1,.int p.2])
theorem SL.aK(s:cg H H'){a:List V}{ps:List (Int×Int)}(h:SL H a ps):SL H' a ps:=⟨h.1,λi z p a b=>(h.2 i z p a b).aK s⟩
theorem SL.snoc{H:Hp}{c:List V}{ps:List (Int×Int)}{z:V}{j w:Int}(h:SL H c ps)(f:HT H 1 z (.tup [.int j,.int w])):SL H (c++[z]) (ps++[(j,w)]):=by
 calc⟨by simp[h.1],λi g p a b=>?_⟩;by_cases d:i<c.length
 ·rw[List.getElem?_append_left d]at a;rw[List.getElem?_append_left (by rw[<-h.1];calc d)]at b;exact h.2 i g p a b
 ·rw[List.getElem?_append_right ()] at a;rw[List.getElem?_append_right (by rw[<-h.1];lia)] at b;rw[h.1] at a
  cases e:i-ps.length with
  |zero=>rw[e]at a b;cases a;cases b;calc f
  |succ k=>rw[e]at a;simp at a
structure Res(H H':Hp)(x:V)(s:WS):Prop where
 ex:∃p st l1 l2 zs,x=.ref p/\H' p=some (.tup [st,.ref l1,.ref l2])/\HT H' 2 st (xQ s.ns s.row)/\H' l1=some (.lst zs)/\SL H' zs s.cI/\H' l2=some (.lst (s.words.map V.int))/\H l1=none/\H l2=none/\l1≠l2
theorem B9{M w:Int}(e:0<M)(b:∀z∈ns,0<=z/\z<M)(f:0<=w/\w<M):∀z∈jI M ns w d,0<=z/\z<M:=by
 have a:∀(j:Nat) (y:Int),(0<=y/\y<M)->∀z∈ns.set j y,0<=z/\z<M:=λj y g z i=>by
  rcases List.mem_or_eq_of_mem_set i with h|h
  ·exact b z h
  ·rw[h];exact g
 have c:∀y:Int,0<=y%M/\y%M<M:=λy=>⟨aay _ (),aap _ e⟩
 cases d with
 |set i v=>calc a _ _ f
 |add i v=>calc a _ _ (c _)
 |times i v=>calc a _ _ (c _)
 |_=>calc b
theorem Hr{w:Int}{row:List Int}{d:bx}(h:row.length<=12):(oo row w d).length<=12:=by
 cases d with
 |put v=>
  show(if row.length<12 then row++[w] else row).length<=12;split
  ·simp;lia
  ·calc h
 |drop=>show row.tail.length<=12;simp;lia
 |_=>calc h
theorem Ht{m w w':Int}{d:bx}(h:d.ok m):0<=oq w w' d:=by
 cases d with
 |skip v u k=>
  show 0<=(if w<w' then k else 0)
  split
  ·exact Int.le_trans ∅ h.2.2.1
  ·calc Int.le_refl _
 |_=>calc Int.le_refl _
theorem oG(h:d.ok m):∀v∈d.vals,v.ok m:=by
 intro v a
 cases d<;>simp only[bx.vals,List.mem_cons,List.not_mem_nil,or_false]at a
 case set=>subst a;exact h.2.2
 case add=>subst a;exact h.2.2
 case times=>subst a;exact h.2.2
 case put=>subst a;exact h
 case send=>subst a;exact h.2
 case say=>subst a;exact h
 case skip=>rcases a with rfl|rfl;calc h.1;calc h.2.1
theorem VL.get{H:Hp}{n:Nat}{xs:List V}{vs:List Val}(h:VL H n xs vs):∀{i:Nat}{x:V},xs[i]?=some x->∃v,vs[i]?=some v/\HT H n x (Val.dv v):=by
 induction h with
 |nil=>intro i x h;simp at h
 |cons a _ b=>
  intro i x h
  cases i with
  |zero=>cases h;calc⟨_,rfl,a⟩
  |succ i=>calc b h
theorem yx:d.vals.length<=2:=by cases d<;>simp[bx.vals]
theorem vf{M way said:Int}{ns row:List Int}{vs:List Val}{i:Nat}(a:0<M):0<=(vs.map (fI M way said ns row)).getD i 0/\(vs.map (fI M way said ns row)).getD i 0<M:=by
 rw[List.getD_eq_getElem?_getD,List.getElem?_map]
 cases vs[i]? with
 |none=>calc⟨Int.le_refl _,a⟩
 |some v=>calc⟨aay _ (),aap _ a⟩
theorem sk1{a:Nat}{k:Int}(h:0<=k):(a:Int)+(1+k)=((a+1+k.toNat:Nat):Int):=by lia
theorem sk2{α:Type}{x:α}{xs:List α}{a k f:Nat}(h:(x::xs.drop (a+1)).length<=f+1):(xs.drop (a+1+k)).length<=f:=by
 rw[List.length_drop];rw[List.length_cons,List.length_drop]at h;lia
theorem sk3{n a:Nat}{k:Int}(b:a<n)(h:0<=k):n-((a:Int)+(1+k)).toNat<n-a:=by lia
theorem Lj{n:Nat}{w:Int}(h:HT H n (.ref a) d.dv)(e:d.word="send"):∃j u,H a=some (.tup [.str "send",.int j,u])/\ic w d=[(j,w)]/\gb w d=[]/\d.vals.length=1:=by
 cases d<;>first|calc absurd e (by simp only[bx.word];decide)|skip
 obtain⟨g,i,j,k,l,z,b,c,f,m⟩:=bS h;obtain rfl:=L2.V.ref.inj z;obtain rfl:=f.cE;obtain rfl:=c.cP;calc⟨_,_,b,rfl,rfl,rfl⟩
theorem PR{w:Int}(e:d.word="say"):gb w d=[w]/\d.vals.length=1:=by
 cases d<;>first|calc absurd e (by simp only[bx.word];decide)|calc⟨rfl,rfl⟩
theorem yy{w:Int}:(ic w d).length<=1/\(gb w d).length<=1:=by cases d<;>simp[ic,gb]
theorem Lk{w:Int}(e:¬d.word="send"):ic w d=[]:=by cases d<;>first|rfl|exact absurd rfl e
theorem Hu{w:Int}(e:¬d.word="say"):gb w d=[]:=by cases d<;>first|rfl|exact absurd rfl e
theorem yz{l:List Int}(h:0<l.length):l[0]?=some (l.getD 0 0):=by
 cases l with
 |nil=>simp at h
 |cons a r=>rfl
abbrev gi:Stmt:=(bW (top 42)).getD 4 (.Pass ⟨0,0,0,0⟩)
def muW(n:Nat)(σ:St):Nat:=match σ[8]? with
 |some (some (V.int i))=>n-i.toNat
 |_=>0
inductive sS(K:W.Frag)(C:Addr)(vs:List V)(H:Hp)(Q:VK):Prop
 |mk (m:Addr) (st:V) (way said M:Int) (Zv DC:List Int) (ds:List bx) (ns row:List Int) (h0:vs=[.ref m,st,.int way,.int said]) (h1:jT C H m M Zv DC ds) (h2:xS K H st ns row) (h3:2<=M) (h4:M<=1000000000000) (h5:(∀z∈ns,0<=z/\z<M)) (h6:row.length<=12) (h7:ds.length<=24) (h8:(∀d∈ds,d.ok ns.length)) (h9:∀x H',au H H'->Res H H' x (ou M way said ds ns row)->Q x H'):sS K C vs H Q
def vg(K:W.Frag)(C:Addr):Sp:=λvs H Q _=>sS K C vs H Q
inductive PU(H:Hp)(m:Addr)(st:V)(way said M:Int)(ds:List bx)(ns row:List Int)(σ:St)(H':Hp):Prop
 |mk (an ar gW aw:Addr) (zs:List V) (z9 PV:Option V) (at_:Nat) (s:WS) (f:Nat) (h0:σ=[some (.ref m),some st,some (.int way),some (.int said),some (.ref an),some (.ref ar),some (.ref gW),some (.ref aw),some (.int at_),z9,PV]) (h1:au H H') (h2:H an=none) (h3:H ar=none) (h4:H gW=none) (h5:H aw=none) (h6:an≠ar) (h7:an≠gW) (h8:an≠aw) (h9:ar≠gW) (RC:ar≠aw) (Zw:gW≠aw) (Zt:H' an=some (.lst (s.ns.map V.int))) (h13:H' ar=some (.lst (s.row.map V.int))) (h14:H' gW=some (.lst zs)) (h15:SL H' zs s.cI) (h16:H' aw=some (.lst (s.words.map V.int))) (h17:s.ns.length=ns.length) (h18:(∀z∈s.ns,0<=z/\z<M)) (h19:s.row.length<=12) (h20:s.cI.length<=at_) (h21:s.words.length<=at_) (h22:xR M way said f (ds.drop at_) s=ou M way said ds ns row) (h23:(ds.drop at_).length<=f):PU H m st way said M ds ns row σ H'
theorem pN(D:gA K C "worked" "Machine.worked" gi ["self","state","way","said"])(T:Tx K mg C CN CR F FD)(gj:Def P w K mg base "change_numbers" 1 ["numbers","deed","worths","modulus"] Hn)(jX:Def P w K mg base "change_row" 1 ["row","deed","worths"] Ho)(m7:Def P w K mg base "left_out" 1 ["deed","worths"] B8)(kX:Def P w K mg base "values_of" 1 ["deed"] B3)(m9:Def P w K mg base "worth_of" 2 ["value","state","way","said","modulus"] (yp K)):cj P w K mg base C "worked" 3 ["self","state","way","said"] (vg K C):=by
  have sc:aB ["self","state","way","said","numbers","row","sent","words","at","deed","worths"] ["self","state","way","said"] (av gi):=by walk_at "s"
  symm;obtain⟨m,st,k,c,M,Zv,DC,t,ns,row,rfl,hm,uC,DT,pG,hb,oC,MI,aU,q⟩:=h;have O:=hr.units;refine⟨_,(ag (aY (i:=4) sc.nd rfl Sort (cZ cG rfl T.dX xc (af (aj O (aq 1) ai) aa)))
    (ag (aY (i:=5) sc.nd rfl Sort (cZ cG rfl T.dX xc (af (aj O (aq 1) ai) aa)))
    (ag (aY (i:=6) sc.nd rfl Sort (bG aa))
    (ag (aY (i:=7) sc.nd rfl Sort (bG aa))
    (ag (aY (i:=8) sc.nd rfl Sort ai)
    (ag (ES PassesOwn.never (Ba gG (pv 8) (aW aL rfl T.bZ M' (af (bC (pv 0) rfl) aa)) (aE _))
    (ag (aY (i:=9) sc.nd rfl Sort (aj O (bC (aq 0) rfl) (aq 8)))
    (ag (fF (i:=10) sc.nd rfl Sort (N':=["value","way","said","numbers","row","self"]) (ix:=[none,some 2,some 3,some 4,some 5,some 0]) (bM (aJ kX hr (af (aq 9) aa))) (λ_ _ _ _=>(aQ (i:=0) (show(["value","way","said","numbers","row","self"]:List Str).Nodup by decide +kernel) rfl Sort)) mG (λ_ _ _ _=>(aJ m9 hr (af (aq 0) (af (bD (af (aq 3) (af (aq 4) aa))) (af (aq 1) (af (aq 2) (af (KW (K:=K) rfl (aq 5) rfl) aa))))))))
    (ag (bI (aJ gj hr (af (aq 4) (af (aq 9) (af (aq 10) (af (bC (aq 0) rfl) aa))))))
    (ag (bI (aJ jX hr (af (aq 5) (af (aq 9) (af (aq 10) aa)))))
    (ag (aR (az (ba O) (aj O (aq 9) ai) aC (aE _)) (ak (bI (dy mH qr qt bV (aq 6) (af (bD (af (aj O (aq 9) ai) (af (aj O (aq 10) ai) aa))) aa)))) (ak (aR (az (ba O) (aj O (aq 9) ai) aC (aE _)) (ak (bI (dy mH qr qt bV (aq 7) (af (aj O (aq 10) ai) aa)))) aH)))
    (ak (Oh (i:=8) sc.nd rfl Sort (bc c8 ai (aJ m7 hr (af (aq 9) (af (aq 10) aa)))) Oi))))))))
    (ak (aD (bD (af (bD (af (cZ bN rfl T.bQ qu (af (aq 4) aa)) (af (cZ bN rfl T.bQ qu (af (aq 5) aa)) aa))) (af (aq 6) (af (aq 7) aa)))))))))))),?_⟩
  nofun;obtain⟨dx,stm,dd,Ex,hm2,hm3⟩:=hm;obtain⟨ad,xs,rfl,UH,uh⟩:=Uw hm3;obtain⟨sa,sb,UI,rfl,UJ,Zx,Zy⟩:=uC;ac_rfl;left;calc cw _ _ (.inr (bL.of UJ)) rfl ?_;left;calc bz _ Zx (λB PX=>?_);have Z:=au.new (.lst (ns.map V.int)) PX;left;calc cw _ _ (.inr (bL.of (Z _ _ UJ))) rfl ?_;left;have PY:aN K (upd H B (.lst (ns.map V.int))) UI (row.map V.int)\/bL K (upd H B (.lst (ns.map V.int))) UI (row.map V.int):=Zy.elim (λz=>.inl (Z.seq z)) (λz=>.inr (Z.Rv z));calc bz _ PY (λI Ad=>?_);have R:=au.new (.lst (row.map V.int)) Ad;left;calc⟨V' _,λu pO=>?_⟩;have r:=au.new (.lst []) pO;left;calc⟨V' _,λG Y=>?_⟩;have W:=au.new (.lst []) Y;left;have Zz:I≠B:=λz=>by subst z;rw[ab]at Ad;cases Ad
  have ZC:H I=none:=Z.free Ad;have ZD:H u=none:=(Z.trans R).free pO;have ZE:H G=none:=(Z.trans (R.trans r)).free Y;have ZF:u≠B:=λz=>by subst z;rw[R _ _ ab]at pO;cases pO
  have ZG:u≠I:=λz=>by subst z;rw[ab]at pO;cases pO
  have ZH:G≠B:=λz=>by subst z;rw[r _ _ (R _ _ ab)]at Y;cases Y
  have ZI:G≠I:=λz=>by subst z;rw[r _ _ ab]at Y;cases Y
  have ZJ:G≠u:=λz=>by subst z;rw[ab]at Y;cases Y
  have Hv:=Z.trans (R.trans (r.trans W));have JG:0<M:=by lia
  refine Hq (PU H m (.ref sa) k c M t ns row) (muW t.length) ?_ ?_ ?_
  · refine⟨B,I,u,G,[],none,none,0,⟨ns,row,[],[]⟩,t.length,rfl,Hv,PX,ZC,ZD,ZE,Ne.symm Zz,Ne.symm ZF,Ne.symm ZH,Ne.symm ZG,Ne.symm ZI,Ne.symm ZJ,W _ _ (r _ _ (R _ _ ab)),W _ _ (r _ _ ab),W _ _ ab,⟨rfl,λi z p e=>by simp at e⟩,ab,rfl,hb,oC,E' _,E' _,rfl,E' _⟩
  · intro σ H1 gH;obtain⟨B,I,u,G,zs,z9,PV,g,s,f,rfl,sH,a1,a2,a3,a4,n1,n2,n3,n4,n5,n6,e1,e2,e3,Hw,e5,JH,JI,yA,JJ,Xo,S,ML⟩:=gH;have Ll:=sH _ _ Ex;have UK:=sH _ _ UH;have ZK:=uh.aK sH.aM;left;calc eR Ll T.cJ T.ME Uv ?_;left;calc bz _ (.inr ⟨_,bL.of UK,rfl⟩) ?_;by_cases hE:g < t.length
    · have MM:g < xs.length:=by rw[uh.1];exact hE
      left;rw[if_pos (by simpa using MM)];calc⟨λσ' H'=>PU H m (.ref sa) k c M t ns row σ' H'/\muW t.length σ'<t.length-g,λσ' H' h=>h,?_⟩;have q8:=aU t[g] (aab hE);have hx:=ZK.2 g xs[g] t[g] (cN MM) (cN hE);have RD:t.drop g=t[g]::t.drop (g+1):=List.drop_eq_getElem_cons hE;nofun;generalize hdd:t[g]=d at q8 hx RD;generalize Ar:xs[g]=x at hx;have UL:xs[g]?=some x:=by rw[cN MM,Ar]
      obtain⟨f',rfl⟩:∃f',f=f'+1:=⟨f-1,by rw[RD]at ML;simp at ML;lia⟩
      rw[RD]at S ML
      replace S:xR M k c f' ((t.drop (g+1)).drop (mD M k c d s).toNat) (km M k c d s)=ou M k c t ns row:=S
      ac_rfl;rw[List.drop_drop]at S;left;calc eR Ll T.cJ T.ME Uv ?_;left;calc cw _ x (.inr (bL.of UK)) (ay UL) ?_;left;calc bE ?_;left;calc⟨x,3,d,rfl,hx,λl zv k0 H2 R JK hl GN=>?_⟩;calc .inl ⟨⟨_,aN.of hl⟩,λD hD=>?_⟩;have JL:=GN.len;have Ko:=yx (d:=d);refine bb (J:=tU K l) (n:=zv.length) (λi ys H'=>ys=((d.vals.take i).map (fI M k c s.ns s.row)).map V.int/\au H2 H') (K' (aA ())) ⟨rfl,au.new _ hD⟩ ?_ ?_ ?_ ?_
      · rintro i ys H' hi ⟨_,r⟩;exact⟨_,zv[i],aN.of (r _ _ hl),cN hi⟩
      · rintro ys H' ⟨_,r⟩;exact⟨_,aN.of (r _ _ hl),E' _⟩
      · intro i ys H3 hi bo q9 gI y H4 mV;nofun;obtain⟨rfl,r⟩:=gI;obtain⟨rfl,hy⟩:=mV;have ey:=hy _ (aN.of (r _ _ hl));obtain⟨v,ev,hv⟩:=GN.get ey;ac_rfl;have i5:=oG q8 v (U' ev);walk_at "xf";left;rw[if_pos trivial];refine⟨cY,λp hp=>?_⟩;have W:=au.new (.tup [.ref B,.ref I]) hp;have UM:=R.trans (r.trans W);refine eR (UM _ _ Ll) T.cJ T.MC Uu ?_;refine⟨y,.ref p,k,c,M,v,s.ns,s.row,k0,rfl,(hv.aK (r.trans W).aM),⟨p,B,I,rfl,ab,.inl (aN.of (UM _ _ e1)),.inl (aN.of (UM _ _ e2))⟩,by rw[JH];exact i5,JG,?_⟩;refine bT (W _ _ bo) q9 hi (K' (aA ())) ⟨?_,λb o e=>?_⟩
        · rw[List.take_add_one,ev];simp[fI]
        · rw[ax (ao e hD)];exact W _ _ (r _ _ e)
      rintro ys H3 bo q9 ⟨rfl,r⟩;rw[JL,List.take_length]at bo;have X:=R.trans r;have Ez:H1 D=none:=R.free hD;generalize q5:d.vals.map (fI M k c s.ns s.row)=ws at bo;have kr:ws.length=d.vals.length:=by rw[<-q5];simp
      have UN:0<=ws.getD 0 0/\ws.getD 0 0<M:=by rw[<-q5];exact vf JG
      have Ca:km M k c d s=⟨jI M s.ns (ws.getD 0 0) d,oo s.row (ws.getD 0 0) d,s.cI++ic (ws.getD 0 0) d,s.words++gb (ws.getD 0 0) d⟩:=by rw[<-q5];rfl
      have Cb:mD M k c d s=oq (ws.getD 0 0) (ws.getD 1 0) d:=by rw[<-q5];rfl
      rw[Ca,Cb]at S;have JM:∀{b:Addr} {o:HO},H1 b=some o->b≠D:=λe=>ao e Ez;left;calc eR (X _ _ Ll) T.cJ T.MC Uu ?_;calc⟨B,x,D,s.ns,ws,M,3,d,rfl,X _ _ e1,hx.aK X.aM,bo,kr,by rw[JH];calc q8,JG,pG,JI,λH4 e14 k4=>?_⟩;have t4:cg H3 H4:=λb ys e=>k4 b _ (λz=>by subst z;rw[X _ _ e1]at e;cases e) e;left;calc⟨I,x,D,s.row,ws,3,d,rfl,k4 _ _ (Ne.symm n1) (X _ _ e2),hx.aK (X.aM.trans t4),k4 _ _ (Ne.symm (JM e1)) bo,kr,yA,λL ZL k5=>?_⟩;have t5:cg H4 L:=λb ys e=>k5 b _ (λz=>by subst z;rw[k4 _ _ (Ne.symm n1) (X _ _ e2)]at e;cases e) e;have t15:cg H1 L:=X.aM.trans (t4.trans t5);have kk:∀b o,b≠B->b≠I->H1 b=some o->L b=some o:=λb o ne1 ne2 e=>k5 b o ne2 (k4 b o ne1 (X _ _ e));have ZM:=k5 _ _ n1 e14;have RE:=kk _ _ (Ne.symm n2) (Ne.symm n4) e3;have UO:=kk _ _ (Ne.symm n3) (Ne.symm n5) e5;have BS:L D=some (.lst (ws.map V.int)):=k5 _ _ (Ne.symm (JM e2)) (k4 _ _ (Ne.symm (JM e1)) bo);have PZ:=Hw.aK t15;have P0:au H L:=λb o e=>kk b o (ao e a1) (ao e a2) (sH _ _ e);have Ey:=hx.aK t15;have MN:=Ht (w:=ws.getD 0 0) (w':=ws.getD 1 0) q8;obtain⟨a,us,rfl,ha,-⟩:=sE Ey q8;left;rename_i N1 hN1 T1 U1 Lm hU1;have fin:∀U JN,au H U->U B=some (.lst ((jI M s.ns (ws.getD 0 0) d).map V.int))->U I=some (.lst ((oo s.row (ws.getD 0 0) d).map V.int))->U u=some (.lst JN)->SL U JN (s.cI++ic (ws.getD 0 0) d)->U G=some (.lst ((s.words++gb (ws.getD 0 0) d).map V.int))->HT U 3 (.ref a) d.dv->U D=some (.lst (ws.map V.int))->N1 [some (V.ref m),some (V.ref sa),some (V.int k),some (V.int c),some (V.ref B),some (V.ref I),some (V.ref u),some (V.ref G),some (V.int (g:Nat)),some (V.ref a),some (V.ref D)] U:=by
        intro U JN f0 f1 f2 f3 f4 f5 f6 f7;left;calc⟨.ref a,D,ws,_,_,rfl,f6,f7,kr,?_⟩;left;calc cw _ _ rfl rfl ?_;have l1:=yy (w:=ws.getD 0 0) (d:=d);refine⟨⟨B,I,u,G,JN,some (.ref a),some (.ref D),g+1+(oq (ws.getD 0 0) (ws.getD 1 0) d).toNat,⟨jI M s.ns (ws.getD 0 0) d,oo s.row (ws.getD 0 0) d,s.cI++ic (ws.getD 0 0) d,s.words++gb (ws.getD 0 0) d⟩,f',?_,f0,a1,a2,a3,a4,n1,n2,n3,n4,n5,n6,f1,f2,f3,f4,f5,by rw[o9];calc JH,B9 (d:=d) JG JI UN,Hr (w:=ws.getD 0 0) (d:=d) yA,(by rw[List.length_append];lia),(by rw[List.length_append];lia),S,?_⟩,?_⟩
        · first|rfl|rw[sk1 MN]
        · exact sk2 ML
        · exact sk3 hE MN
      calc di ha (ay (j:=0) rfl) ?_;left;by_cases k1:d.word="send"
      · rw[if_pos (decide_eq_true k1)];obtain⟨j,u2,Zu,es,hv1,hv2⟩:=Lj (w:=ws.getD 0 0) Ey k1;have B6:iJ (ws.map V.int) 0=some (.int (ws.getD 0 0)):=ay (j:=0) (by rw[List.getElem?_map,yz ()];rfl);generalize ws.getD 0 0=w0 at *
        · skip
          left;calc⟨.inl ⟨rfl,_,aN.of RE⟩,?_⟩;calc di Zu (ay (j:=1) rfl) ?_;left;calc bA BS B6 ?_;calc⟨cY,λtp Cc=>?_⟩;have s6:=au.new (.tup [.int j,.int w0]) Cc;calc gB _ (s6 _ _ RE) (aaw (by have:=Hw.1;lia) (aA (n:=100) ())) ?_;have htn:tp≠u:=λz=>by subst z;rw[RE]at Cc;cases Cc
          have t6:cg (upd L tp (.tup [.int j,.int w0])) (upd (upd L tp (.tup [.int j,.int w0])) u (.lst (zs++[.ref tp]))):=(cg.refl _).upd λys e=>by rw[s6 _ _ RE]at e;cases e
          have N:∀b o,b≠u->L b=some o->upd (upd L tp (.tup [.int j,.int w0])) u (.lst (zs++[.ref tp])) b=some o:=λb o ne e=>by rw[ax ne];exact s6 _ _ e
          exact fin _ _ (λb o e=>N b o (ao e a3) (P0 _ _ e)) (N _ _ n2 ZM) (N _ _ n4 ZL) ab (by rw[es];calc(PZ.aK (s6.aM.trans t6)).snoc (cH (n:=0) (by rw[ax htn];calc ab) (.int _) (.int _))) (by rw[hv1,List.append_nil];calc N _ _ (Ne.symm n6) UO) (Ey.aK (s6.aM.trans t6)) (N _ _ (Ne.symm (JM e3)) BS)
      · rw[if_neg λz=>k1 (of_decide_eq_true z)];have es:=Lk (w:=ws.getD 0 0) k1;left;calc di ha (ay (j:=0) rfl) ?_;left;by_cases k2:d.word="say"
        · rw[if_pos (decide_eq_true k2)];obtain⟨ew,hv1⟩:=PR (w:=ws.getD 0 0) k2;have B6:iJ (ws.map V.int) 0=some (.int (ws.getD 0 0)):=ay (j:=0) (by rw[List.getElem?_map,yz ()];rfl);generalize ws.getD 0 0=w0 at *
          · skip
            left;calc⟨.inl ⟨rfl,_,aN.of UO⟩,?_⟩;left;calc bA BS B6 ?_;calc gB _ UO (aaw (by simp;lia) (aA (n:=100) ())) ?_;have t6:cg L (upd L G (.lst (s.words.map V.int++[.int w0]))):=(cg.refl _).upd λys e=>by rw[UO]at e;cases e
            have N:∀b o,b≠G->L b=some o->upd L G (.lst (s.words.map V.int++[.int w0])) b=some o:=λb o ne e=>by rw[ax ne];exact e
            exact fin _ zs (λb o e=>N b o (ao e a4) (P0 _ _ e)) (N _ _ n3 ZM) (N _ _ n5 ZL) (N _ _ n6 RE) (by rw[es,List.append_nil];calc PZ.aK t6) (by rw[ab,ew,List.map_append];rfl) (Ey.aK t6) (N _ _ (Ne.symm (JM e5)) BS)
        · rw[if_neg λz=>k2 (of_decide_eq_true z)];have ew:=Hu (w:=ws.getD 0 0) k2;calc L2.cm (by assumption) ?_;exact fin _ _ P0 ZM ZL RE (by rw[es,List.append_nil];calc PZ) (by rw[ew,List.append_nil];calc UO) Ey BS
    · have MM:¬g < xs.length:=by rw[uh.1];exact hE
      left;rw[if_neg (by simpa using MM)];rw[List.drop_eq_nil_of_le (),BA]at S;left;calc .inl ⟨_,aN.of e1,λt1 qZ=>?_⟩;have r1:=au.new (.tup (s.ns.map V.int)) qZ;left;calc .inl ⟨_,aN.of (r1 _ _ e2),λt2 nS=>?_⟩;have r2:=au.new (.tup (s.row.map V.int)) nS;left;calc⟨cY,λt3 Am=>?_⟩;have r3:=au.new (.tup [.ref t1,.ref t2]) Am;left;calc⟨by show 3<=sizeLine;decide,λt4 wZ=>?_⟩;have r4:=au.new (.tup [.ref t3,.ref u,.ref G]) wZ;have Ln:=r1.trans (r2.trans (r3.trans r4));refine q _ _ (sH.trans Ln) ⟨_,_,u,G,zs,rfl,ab,?_,Ln _ _ e3,?_,?_,a3,a4,n6⟩
      · rw[<-S];exact(cH ab (om (r3 _ _ (r2 _ _ ab))) (om (r3 _ _ ab))).aK r4.aM
      · rw[<-S];exact Hw.aK Ln.aM
      · rw[<-S];exact Ln _ _ e5
  · intro σ H1 Q Q' hq hc;obtain⟨x,h1,x0,h0,a,C',BH,fs,v,h2,h3,h4,h5,h6,n,h7,h8⟩:=hc;refine⟨x,h1,x0,h0,a,C',BH,fs,v,h2,h3,h4,h5,h6,n,h7,?_⟩
    cases x<;>first
      |calc(show False from h8).elim
      | (obtain⟨k',h9,RC⟩:=h8
         calc⟨k',h9,hq _ _ RC⟩)
def fW(n:Nat->Nat)(ad:Nat->Nat->Addr)(t:Nat):List V:=(List.range (n t)).map λi=>V.ref (ad t i)
theorem eY{n:Nat->Nat}{t:Nat}:(fW n ad t).length=n t:=by simp[fW]
theorem aV{n:Nat->Nat}{t i:Nat}(h:i<n t):iJ (fW n ad t) (i:Int)=some (.ref (ad t i)):=ay (by simp[fW,h])
def EA(bq:V)(p:Addr)(o:Nat->Addr):List (Str×V):=[("own_net",bq),("picks_done",.ref p),("states_had",.ref (o 1)),("words_had",.ref (o 2)),("words_said",.ref (o 3)),("letters_say",.ref (o 4)),("senders",.ref (o 5)),("workers",.ref (o 6))]
section
variable {bq:V}{p:Addr}{o:Nat->Addr}
theorem pQ:(EA bq p o).lookup ("own_net":Str)=some bq:=by kernel_rfl
theorem UP:(EA bq p o).lookup ("picks_done":Str)=some (.ref p):=by kernel_rfl
theorem Hx:(EA bq p o).lookup ("states_had":Str)=some (.ref (o 1)):=by kernel_rfl
theorem ZN:(EA bq p o).lookup ("words_had":Str)=some (.ref (o 2)):=by kernel_rfl
theorem Qa:(EA bq p o).lookup ("words_said":Str)=some (.ref (o 3)):=by kernel_rfl
theorem Hy:(EA bq p o).lookup ("letters_say":Str)=some (.ref (o 4)):=by kernel_rfl
theorem UQ:(EA bq p o).lookup ("senders":Str)=some (.ref (o 5)):=by kernel_rfl
theorem D7:(EA bq p o).lookup ("workers":Str)=some (.ref (o 6)):=by kernel_rfl
end
structure wz(C CN:Addr)(H:Hp)(bq:Addr)(nt:NT):Prop where
 ex:∃ms wv lv,mW CN H bq ms wv lv/\ms.length=nt.ms.length/\(∀(i:Nat) m d,ms[i]?=some m->nt.ms[i]?=some d->RA C H m d)/\eS H 1 wv (nt.ws.map mn)
 ok:nt.Ok
theorem RA.fr{C:Addr}{m:Addr}{d:MD}(f:Fr Z H H')(h:RA C H m d):RA C H' m d:=by
 obtain⟨a,st,dd,b,c,e⟩:=h;calc⟨a,st,dd,f.mi b id,c.aK f.aM,e.aK f.aM⟩
theorem mW.fr{CN:Addr}{x:Addr}{d:List V}(f:Fr Z H H')(h:mW CN H x ms wv d):mW CN H' x ms wv d:=by
 obtain⟨d,a,b,c,e,g,i,j⟩:=h;calc⟨d,a,b,c,f.mi e id,f.mi g id,f.mi i id,f.mi j id⟩
theorem wz.fr{C CN:Addr}{nt:NT}(f:Fr Z H H')(h:wz C CN H bq nt):wz C CN H' bq nt:=by
 obtain⟨⟨ms,wv,c,e,g,j,k⟩,l⟩:=h;calc⟨⟨ms,wv,c,e.fr f,g,λi m d a b=>(j i m d a b).fr f,k.aK f.aM⟩,l⟩
structure bX(C CN CR:Addr)(F:Addr->Prop)(H:Hp)(x bq:Addr)(nt:NT)(r:RS)(ad:Nat->Nat->Addr):Prop where
 ins:∃dx o,H x=some (.ins CR dx (EA (.ref bq) (ad 0 0) o))/\∀t,1<=t->t<=6->H (o t)=some (.lst (fW nt.n ad t))/\¬F (o t)/\¬FP nt.n ad (o t)
 cn:dD F H nt.n ad r.ct
 Qb:wz C CN H bq nt
section
variable {C CN CR:Addr}{F:Addr->Prop}{H H':Hp}{x bq:Addr}{nt:NT}{r:RS}{ad:Nat->Nat->Addr}
theorem bX.keep(h:bX C CN CR F H x bq nt r ad)(f:Fr F H H'):bX C CN CR F H' x bq nt r ad:=by
 obtain⟨⟨d,o,e,c⟩,g,i⟩:=h;calc⟨⟨d,o,f.mi e id,λt a b=>⟨f.at (c t a b).1 (c t a b).2.1,(c t a b).2⟩⟩,g.keep f,i.fr f⟩
theorem bX.same(h:bX C CN CR F H x bq nt r ad)(s:au H H'):bX C CN CR F H' x bq nt r ad:=h.keep s.fr
theorem bX.own{c:RS}(h:bX C CN CR F H x bq nt r ad)(f:Fr (FP nt.n ad) H H')(b:dD F H' nt.n ad c.ct):bX C CN CR F H' x bq nt c ad:=by
 obtain⟨⟨d,o,e,c⟩,i,g⟩:=h;calc⟨⟨d,o,f.mi e id,λt a b=>⟨f.at (c t a b).1 (c t a b).2.2,(c t a b).2⟩⟩,b,g.fr f⟩
end
abbrev i8:Stmt:=(bW (top 51)).getD 6 (.Pass ⟨0,0,0,0⟩)
def sT(nt:NT)(e j:Nat):Int:=if e=0 then(nt.w j).1 else(nt.w j).2.1
def uk(nt:NT)(e m:Nat):List Nat:=(List.range nt.ws.length).filter λj=>decide (sT nt e j=m)
def As(C CN:Addr):Sp:=λvs H Q _=>∃(x:Addr) (nt:NT) (m e:Nat),vs=[.ref x,.int m,.int e]/\wz C CN H x nt/\m<nt.ms.length/\e<2/\∀l H',au H H'->H l=none->H' l=some (.lst ((uk nt e m).map λi=>.int (i:Nat)))->Q (.ref l) H'
theorem um(D:gA K CN "ways_at" "Net.ways_at" i8 ["self","m","end"])(T:Tx K mg C CN CR F FD)(R:Def P w K mg base "is_within" 2 ["thing","low","beyond"] cf):cj P w K mg base CN "ways_at" 3 ["self","m","end"] (As C CN):=by
 have sc:aB ["self","m","end"] ["self","m","end"] (av i8):=by walk_at "s"
 symm;obtain⟨x,d,m,e,rfl,z,B,I,q⟩:=h;have I:=hr.units;refine⟨_,(ag (aR (cp (bu (aJ R hr (af (aq 1) (af ai (af (aW aL rfl T.bZ M' (af (bC (aq 0) rfl) aa)) aa)))))) (ak cV) aH)
  (ak (aD (cX (N':=["number","way","m","end"]) (ix:=[none,none,some 1,some 2]) (fG rfl T.cu (af (bC (aq 0) rfl) aa)) (λ_ _ _ _=>(iP (K:=K) rfl (i:=0) (j:=1) rfl (show(["number","way","m","end"]:List Str).Nodup by decide +kernel) rfl rfl Sort Sort)) (λ_ _ _ _=>(iO (az (oz (K:=K) rfl I) (dz (K:=K) rfl I (aq 1) (aq 3)) (aq 2) (aE _)))) (λ_ _ _ _=>(aq 0)))))),?_⟩
 nofun;obtain⟨⟨ms,wv,I,R,S,W,L⟩,U⟩:=id z;obtain⟨W,a,b,cc,I,X,l,h4⟩:=id R;ac_rfl;left;calc⟨x,CN,W,_,_,rfl,I,T.cQ,T.yf,UA,_,.inr ⟨_,bL.of X,rfl⟩,?_⟩;calc fK (.int m) _ 0 _ rfl (.int _) ?_;rw[show inR 0 (((ms.map V.ref).length:Nat):Int) (.int (m:Int))=true by simp[inR,S,B]];calc xW ?_;rw[if_neg ∅];left;calc bE ?_;left;calc eR I T.cQ T.yg UB ?_;left;calc z8 false wv (Sq.t l) (λD r=>?_);have Y:wv.length=d.ws.length:=by simpa using L.1
 have x:=U.zX;refine bb (J:=KN false K b) (n:=wv.length) (λi ys H'=>au H H'/\ys=((List.range i).filter λj=>decide (sT d e j=m)).map λj=>V.int (j:Nat)) (K' (aA ())) ⟨au.new _ r,rfl⟩ ?_ ?_ ?_ ?_
 ·rintro i ys H' u ⟨g,_⟩;exact⟨wv,wv[i],Sq.t (g _ _ l),cN u⟩
 ·rintro ys H' ⟨g,_⟩;exact⟨wv,Sq.t (g _ _ l),rfl⟩
 ·intro i ys H' u p M Z xx H4 gI;nofun;obtain⟨g,rfl⟩:=Z;obtain⟨t,ht,rfl,y⟩:=gI;obtain⟨k,ex,rfl⟩:=y wv (Sq.t (g _ _ l));have x:i < d.ws.length:=by lia
  have o:=(L.2 i k (mn (d.w i)) ex (by rw[List.getElem?_map,show d.ws[i]?=some (d.w i) from aS x];rfl)).aK g.aM;have v:=au.new (.tup [.int (i:Nat),k]) ht
  replace o:=o.aK v.aM
  have nS:upd H' t (.tup [.int (i:Nat),k]) t=some (.tup [.int (i:Nat),k]):=ab;have N:=v _ _ p;have O:=g.trans v;generalize hG:upd H' t (.tup [.int (i:Nat),k])=G at *;obtain⟨ta,u1,u2,u3,kk,rfl,wA,g1,g2,g3⟩:=bS o;obtain rfl:=g1.cE;obtain rfl:=g2.cE;obtain rfl:=g3.cP;ac_rfl;calc tP (bL.of nS) ⟨Ext.set (Ext.set (Ext.refl _) rfl) rfl,?_⟩;left;have UR:iJ [V.int (d.w i).1,V.int (d.w i).2.1,V.str (d.w i).2.2] (e:Int)=some (.int (sT d e i)):=by
   have:e=0\/e=1:=by lia
   rcases this with rfl|rfl
   ·exact ay (j:=0) rfl
   ·exact ay (j:=1) rfl
  calc di wA UR ?_;left;have k:(List.range (i+1)).filter (λj=>decide (sT d e j=m))=(List.range i).filter (λj=>decide (sT d e j=m))++(if sT d e i=m then[i] else[]):=by
   rw[List.range_succ,List.filter_append];congr 1;by_cases z:sT d e i=m<;>simp[z]
  by_cases z:sT d e i=m
  ·rw[if_pos (by simp[z])];calc bT N M u (K' (aA ())) ⟨λc o e=>by rw[ax (ao e r)];calc O _ _ e,?_⟩;rw[k,if_pos z,List.map_append];rfl
  ·rw[if_neg (by simp[z])];exact⟨_,N,(),O,by rw[k,if_neg z,List.append_nil]⟩
 ·rintro ys H' p M ⟨g,rfl⟩;rw[Y]at p;calc q _ _ g r p
abbrev ir:Stmt:=(bW (top 51)).getD 4 (.Pass ⟨0,0,0,0⟩)
def qA(C CN:Addr):Sp:=λvs H Q _=>∃(x:Addr) (nt:NT) (m:Nat),vs=[.ref x,.int m]/\wz C CN H x nt/\m<nt.ms.length/\∀l H',au H H'->H l=none->H' l=some (.lst ((uk nt 0 m).map λi=>.int (i:Nat)))->Q (.ref l) H'
theorem sU(D:gA K CN "ways_out" "Net.ways_out" ir ["self","m"])(T:Tx K mg C CN CR F FD)(g:cj P w K mg base CN "ways_at" 3 ["self","m","end"] (As C CN)):cj P w K mg base CN "ways_out" 4 ["self","m"] (qA C CN):=by
 have sc:aB ["self","m"] ["self","m"] (av ir):=by walk_at "s"
 symm;obtain⟨x,d,m,rfl,c,e,q⟩:=h;have i:=hr.units;calc⟨_,(ak (aD (dS g T.cQ hr (aq 0) (af (aq 1) (af ai aa))))),?_⟩;nofun;obtain⟨⟨ms,wv,j,i,k,l,n⟩,o⟩:=id c;obtain⟨j,a,b,k,g,l,n,o⟩:=id i;ac_rfl;left;calc eX g (eB ⋯ ⋯ ⋯) ?_;calc⟨x,d,m,0,rfl,c,e,∅,q⟩
abbrev i9:Stmt:=(bW (top 51)).getD 5 (.Pass ⟨0,0,0,0⟩)
def sV(C CN:Addr):Sp:=λvs H Q _=>∃(x:Addr) (nt:NT) (m:Nat),vs=[.ref x,.int m]/\wz C CN H x nt/\m<nt.ms.length/\∀l H',au H H'->H l=none->H' l=some (.lst ((uk nt 1 m).map λi=>.int (i:Nat)))->Q (.ref l) H'
theorem uo(D:gA K CN "ways_in" "Net.ways_in" i9 ["self","m"])(T:Tx K mg C CN CR F FD)(g:cj P w K mg base CN "ways_at" 3 ["self","m","end"] (As C CN)):cj P w K mg base CN "ways_in" 4 ["self","m"] (sV C CN):=by
 have sc:aB ["self","m"] ["self","m"] (av i9):=by walk_at "s"
 symm;obtain⟨x,d,m,rfl,c,e,q⟩:=h;have i:=hr.units;calc⟨_,(ak (aD (dS g T.cQ hr (aq 0) (af (aq 1) (af ai aa))))),?_⟩;nofun;obtain⟨⟨ms,wv,j,i,k,l,n⟩,o⟩:=id c;obtain⟨j,a,b,k,g,l,n,o⟩:=id i;ac_rfl;left;calc eX g (eB ⋯ ⋯ ⋯) ?_;calc⟨x,d,m,1,rfl,c,e,∅,q⟩
def FS(F:Addr->Prop)(H:Hp):Prop:=∀b,F b->∃o,H b=some o/\soft o
theorem FS.fr{F:Addr->Prop}(h:FS F H)(f:Fr Z H H')(c:∀b,F b->¬Z b):FS F H':=λb a=>by
 obtain⟨o,e,s⟩:=h b a;calc⟨o,f.at e (c b a),s⟩
theorem _root_.DD.dD.uq{F:Addr->Prop}{n:Nat->Nat}{ct:Nat->Nat->CO}(h:dD F H n ad ct):∀b,F b->¬FP n ad b:=λb a ⟨t,i,c,e⟩=>h.out t i c (e▸a)
theorem small{n:Nat}(h:n<=20000):n<sizeLine:=by rw[sizeLine_eq];lia
theorem Qc{r:RS}{n:NT}{w:Nat}{x:Int}{s:Option (Int×Int)}:∀t i,i<n.n t->setC (setC (setC r.ct 4 w (.l ((r.ww w).say.map .int++[.int x]))) 5 w (.l ((r.ww w).snd.map ml++[ml s]))) 6 w (.l ((r.ww w).cD.map ml++[.bH])) t i=(r.put w x s).ct t i:=by
 intro t i a;unfold setC
 match t,a with
 |0,_=>simp[RS.ct,RS.put]
 |1,_=>simp[RS.ct,RS.put]
 |2,_=>simp[RS.ct,RS.put]
 |3,_=>simp[RS.ct,RS.put]
 |4,_=>by_cases e:i=w<;>simp[RS.ct,RS.put,e]
 |5,_=>by_cases e:i=w<;>simp[RS.ct,RS.put,e]
 |6,_=>by_cases e:i=w<;>simp[RS.ct,RS.put,e,ml]
 |(t+7),a=>calc absurd a (aaA i)
abbrev gk:Stmt:=(bW (top 53)).getD 1 (.Pass ⟨0,0,0,0⟩)
inductive Cd(C CN CR:Addr)(vs:List V)(H:Hp)(Q:VK):Prop
 |mk (F:Addr->Prop) (x bq:Addr) (nt:NT) (r:RS) (ad:Nat->Nat->Addr) (wy:Nat) (said:Int) (sv:V) (s:Option (Int×Int)) (h0:vs=[.ref x,.int (wy:Nat),.int said,sv]) (h1:bX C CN CR F H x bq nt r ad) (h2:FS F H) (h3:wy<nt.ws.length) (h4:HT H 4 sv (ml s)) (h5:r.tO nt 19999) (h6:∀H',Fr (FP nt.n ad) H H'->bX C CN CR F H' x bq nt (r.put wy said s) ad->Q .bH H'):Cd C CN CR vs H Q
def sW(C CN CR:Addr):Sp:=λvs H Q _=>Cd C CN CR vs H Q
theorem pR(D:gA K CR "put_letter" "Run.put_letter" gk ["self","way","said","sender"])(T:Tx K mg C CN CR F FD):cj P w K mg base CR "put_letter" 1 ["self","way","said","sender"] (sW C CN CR):=by
 have sc:aB ["self","way","said","sender"] ["self","way","said","sender"] (av gk):=by walk_at "s"
 symm;obtain⟨F,x,bq,g,r,ad,a,c,v,s,rfl,j,I,b,J,k,q⟩:=h;have o:=hr.units;refine⟨_,(ag (bI (dy mH qr qt bV (aj o (bC (aq 0) rfl) (aq 1)) (af (aq 2) aa)))
  (ag (bI (dy mH qr qt bV (aj o (bC (aq 0) rfl) (aq 1)) (af (aq 3) aa)))
  (ak (bI (dy mH qr qt bV (aj o (bC (aq 0) rfl) (aq 1)) (af hX aa)))))),?_⟩
 nofun;obtain⟨x,o,y,d⟩:=j.ins;have z:=j.cn;have o:=(d 4 ∅ ∅).1;have N:=(d 5 ∅ ∅).2.2;have O:=(d 6 ∅ ∅).2.2;have x:=k.bs a b;have x:=k.ls a b;have x:=k.lk a b;obtain⟨l,m,x⟩:=z.lst (t:=4) (i:=a) b rfl;ac_rfl;have k:l.length=(r.ww a).say.length:=by simpa using x.1
 left;calc eR y T.aO T.bO Hy ?_;left;calc bA o (aV b) ?_;calc⟨.inl ⟨rfl,_,aN.of m⟩,?_⟩;left;calc gB l m (small ()) ?_;have B:=z.app (t:=4) (i:=a) b rfl m (ei.one (.int c));have e:Fr (FP g.n ad) H (upd H (ad 4 a) (.lst (l++[.int c]))):=Fr.refl.upd ⟨4,a,b,rfl⟩ m trivial;generalize S:upd H (ad 4 a) (.lst (l++[.int c]))=L at *;left;have k:=e.mi y id;have c:=e.at (d 5 ∅ ∅).1 N;obtain⟨p,u,l⟩:=B.lst (t:=5) (i:=a) b rfl;have m:p.length=(r.ww a).snd.length:=by simpa using l.1
 have l:=I.fr e z.uq;left;calc eR k T.aO T.eI UQ ?_;left;calc bA c (aV b) ?_;calc⟨.inl ⟨rfl,_,aN.of u⟩,?_⟩;left;calc gB p u (small ()) ?_;have M:=B.app (t:=5) (i:=a) b rfl u (ei.one (B.ht l (J.aK e.aM)));have G:Fr (FP g.n ad) H (upd L (ad 5 a) (.lst (p++[v]))):=e.upd ⟨5,a,b,rfl⟩ u trivial;generalize U:upd L (ad 5 a) (.lst (p++[v]))=R at *;left;have k:=G.mi y id;have l:=G.at (d 6 ∅ ∅).1 O;obtain⟨e,c,m⟩:=M.lst (t:=6) (i:=a) b rfl;have d:e.length=(r.ww a).cD.length:=by simpa using m.1
 left;calc eR k T.aO T.cL D7 ?_;left;calc bA l (aV b) ?_;calc⟨.inl ⟨rfl,_,aN.of c⟩,?_⟩;left;calc gB e c (small ()) ?_;have m:=M.app (t:=6) (i:=a) b rfl c (ei.one (.bH));have d:Fr (FP g.n ad) H (upd R (ad 6 a) (.lst (e++[.bH]))):=G.upd ⟨6,a,b,rfl⟩ c trivial;calc q _ d (j.own d (m.congr Qc))
abbrev ff:Stmt:=(bW (top 53)).getD 2 (.Pass ⟨0,0,0,0⟩)
def Cf(C CN CR:Addr):Sp:=λvs H Q _=>∃(F:Addr->Prop) (x bq:Addr) (nt:NT) (r:RS) (ad:Nat->Nat->Addr) (m:Nat),vs=[.ref x,.int m]/\bX C CN CR F H x bq nt r ad/\m<nt.ms.length/\Q .bH H
theorem nc(D:gA K CR "need_machine" "Run.need_machine" ff ["self","m"])(T:Tx K mg C CN CR F FD)(d:Def P w K mg base "is_within" 2 ["thing","low","beyond"] cf):cj P w K mg base CR "need_machine" 3 ["self","m"] (Cf C CN CR):=by
 have sc:aB ["self","m"] ["self","m"] (av ff):=by walk_at "s"
 symm;obtain⟨F,x,bq,a,r,ad,m,rfl,b,c,q⟩:=h;have e:=hr.units;calc⟨_,(ak (aR (cp (bu (aJ d hr (af (aq 1) (af ai (af (aW aL rfl T.bZ M' (af (bC (aq 0) rfl) aa)) aa)))))) (ak cV) aH)),?_⟩;obtain⟨e,o,g,i⟩:=b.ins;have d:=(i 1 ∅ ∅).1;left;calc⟨x,CR,e,_,_,rfl,g,T.aO,T.b8,Hx,_,.inl ⟨_,aN.of d,rfl⟩,?_⟩;calc fK (.int m) _ 0 _ rfl (.int _) ?_;rw[eY];rw[show inR 0 ((a.n 1:Nat):Int) (.int (m:Int))=true by simp[inR];calc c];calc xW ?_;rw[if_neg ∅];left;calc q
abbrev iu:Stmt:=(bW (top 53)).getD 4 (.Pass ⟨0,0,0,0⟩)
def Hz(C CN CR:Addr):Sp:=λvs H Q _=>∃(F:Addr->Prop) (x bq:Addr) (nt:NT) (r:RS) (ad:Nat->Nat->Addr) (m:Nat) (a:V),vs=[.ref x,.int m,a]/\bX C CN CR F H x bq nt r ad/\m<nt.ws.length/\Q .bH H
theorem sX(D:gA K CR "need_way" "Run.need_way" iu ["self","way","at"])(T:Tx K mg C CN CR F FD)(e:Def P w K mg base "is_within" 2 ["thing","low","beyond"] cf):cj P w K mg base CR "need_way" 3 ["self","way","at"] (Hz C CN CR):=by
 have sc:aB ["self","way","at"] ["self","way","at"] (av iu):=by walk_at "s"
 symm;obtain⟨F,x,bq,b,r,ad,m,a,rfl,c,d,q⟩:=h;have g:=hr.units;calc⟨_,(ak (aR (cp (bu (aJ e hr (af (aq 1) (af ai (af (aW aL rfl T.bZ M' (af (bC (aq 0) rfl) aa)) aa)))))) (ak cV) aH)),?_⟩;obtain⟨g,o,i,j⟩:=c.ins;have e:=(j 4 ∅ ∅).1;left;calc⟨x,CR,g,_,_,rfl,i,T.aO,T.bO,Hy,_,.inl ⟨_,aN.of e,rfl⟩,?_⟩;calc fK (.int m) _ 0 _ rfl (.int _) ?_;rw[eY];rw[show inR 0 ((b.n 4:Nat):Int) (.int (m:Int))=true by simp[inR];calc d];calc xW ?_;rw[if_neg ∅];left;calc q
abbrev fO:Stmt:=(bW (top 53)).getD 5 (.Pass ⟨0,0,0,0⟩)
theorem eL{bq:V}{o:Nat->Addr}(h:f∉(["own_net","picks_done","states_had","words_had","words_said","letters_say","senders","workers"]:List Str)):(EA bq p o).lookup f=none:=by
 simp only[List.mem_cons,List.not_mem_nil,or_false,not_or]at h;unfold EA;simp[List.lookup,beq_eq_false_iff_ne.mpr h.1,beq_eq_false_iff_ne.mpr h.2.1,beq_eq_false_iff_ne.mpr h.2.2.1,beq_eq_false_iff_ne.mpr h.2.2.2.1,beq_eq_false_iff_ne.mpr h.2.2.2.2.1,beq_eq_false_iff_ne.mpr h.2.2.2.2.2.1,beq_eq_false_iff_ne.mpr h.2.2.2.2.2.2.1,beq_eq_false_iff_ne.mpr h.2.2.2.2.2.2.2]
def Cg(C CN CR:Addr):Sp:=λvs H Q _=>∃(F:Addr->Prop) (x bq:Addr) (nt:NT) (r:RS) (ad:Nat->Nat->Addr) (m k:Nat) (a:V),vs=[.ref x,.int m,.int k,a]/\bX C CN CR F H x bq nt r ad/\m<nt.ws.length/\k<(r.ww m).say.length/\Q .bH H
theorem oH(D:gA K CR "need_letter" "Run.need_letter" fO ["self","way","number","at"])(T:Tx K mg C CN CR F FD)(e:Def P w K mg base "is_within" 2 ["thing","low","beyond"] cf)(g:cj P w K mg base CR "need_way" 3 ["self","way","at"] (Hz C CN CR)):cj P w K mg base CR "need_letter" 4 ["self","way","number","at"] (Cg C CN CR):=by
 have sc:aB ["self","way","number","at"] ["self","way","number","at"] (av fO):=by walk_at "s"
 symm;obtain⟨F,x,bq,d,r,ad,m,k,a,rfl,b,c,j,q⟩:=h;have j:=hr.units;refine⟨_,(ag (bI (dS g T.aO hr (aq 0) (af (aq 1) (af (aq 3) aa))))
  (ak (aR (cp (bu (aJ e hr (af (aq 2) (af ai (af (aW aL rfl T.bZ M' (af (aj j (bC (aq 0) rfl) (aq 1)) aa)) aa)))))) (ak cV) aH))),?_⟩
 nofun;obtain⟨g,o,e,j⟩:=b.ins;have l:=(j 4 ∅ ∅).1;obtain⟨g,n,o⟩:=b.cn.lst (t:=4) (i:=m) c rfl;ac_rfl;have j:g.length=(r.ww m).say.length:=by simpa using o.1
 left;calc eX e (eL ⋯) ?_;calc⟨_,x,bq,d,r,ad,m,_,rfl,b,c,?_⟩;left;calc eR e T.aO T.bO Hy ?_;left;calc bA l (aV c) ?_;calc bz _ (.inl ⟨_,aN.of n,rfl⟩) ?_;calc fK (.int k) _ 0 _ rfl (.int _) ?_;rw[show inR 0 ((g.length:Nat):Int) (.int (k:Int))=true by simp[inR];lia];calc xW ?_;rw[if_neg ∅];left;calc q
structure _root_.DD.RS.JO(nt:NT)(r:RS)(w k:Nat):Prop where
 lt:w<nt.ws.length
 lies:(r.ww w).cD[k]?=some none
 row:(nt.w w).2.2="row"->0<k->∃e,(r.ww w).cD[k-1]?=some (some e)
theorem wB{n:Nat}{v:V}(h:HD H n v (ml none)):v=.bH:=by
 have h:HD H n v .bH:=h
 cases h;rfl
theorem me{H:Hp}{n:Nat}{v:V}{e:Int×Int}(h:HD H n v (ml (some e))):∃a,v=.ref a/\H a=some (.tup [.int e.1,.int e.2]):=by
 have h:HD H n v (.tup [.int e.1,.int e.2]):=h
 cases h with
 | @tup n a b _ e l i=>
  match b,l,e,i with
  | [u,v],_,e,i=>
   have c:=i 0 u _ rfl rfl;have d:=i 1 v _ rfl rfl;obtain rfl:=c.cE;obtain rfl:=d.cE;calc⟨a,rfl,e⟩
theorem Ci{H:Hp}{n:Nat}{v:V}{e:Option (Int×Int)}(h:HD H n v (ml e)):HT H 1 v (ml e):=by
 cases e with
 |none=>rw[wB h];calc .bH
 |some e=>obtain⟨a,rfl,b⟩:=me h;calc cH b (.int _) (.int _)
theorem jY{vs:List V}{v:V}(h:1<=vs.length)(e:vs[vs.length-1]?=some v):iJ vs (-1)=some v:=by
 obtain⟨ys,z,rfl⟩:∃ys z,vs=ys++[z]:=⟨vs.dropLast,vs.getLast (by intro a;rw[a]at h;simp at h),(List.dropLast_concat_getLast _).symm⟩
 rw[kP];simpa using e
abbrev gJ:Stmt:=(bW (top 53)).getD 6 (.Pass ⟨0,0,0,0⟩)
def MO(C CN CR:Addr):Sp:=λvs H Q _=>∃(F:Addr->Prop) (x bq:Addr) (nt:NT) (r:RS) (ad:Nat->Nat->Addr) (m k:Nat) (a:V),vs=[.ref x,.int m,.int k,a]/\bX C CN CR F H x bq nt r ad/\r.Ok nt/\r.JO nt m k/\∀H',au H H'->Q .bH H'
theorem qK(D:gA K CR "need_pick" "Run.need_pick" gJ ["self","way","number","at"])(T:Tx K mg C CN CR F FD)(o:cj P w K mg base CN "ways" 1 ["self"] (oE CN))(W:cj P w K mg base CR "need_letter" 4 ["self","way","number","at"] (Cg C CN CR)):cj P w K mg base CR "need_pick" 5 ["self","way","number","at"] (MO C CN CR):=by
 have sc:aB ["self","way","number","at","sort"] ["self","way","number","at"] (av gJ):=by walk_at "s"
 symm;obtain⟨F,x,bq,c,r,ad,m,k,a,rfl,n,M,u,q⟩:=h;have b:=hr.units;refine⟨_,(ag (bI (dS W T.aO hr (aq 0) (af (aq 1) (af (aq 2) (af (aq 3) aa)))))
  (ag (aR (az l7 (aj b (aj b (bC (aq 0) rfl) (aq 1)) (aq 2)) hX (aE _)) (ak cV) aH)
  (ag (aY (i:=4) sc.nd rfl Sort (aj b (aj b (fc o T.cQ hr (bC (aq 0) rfl)) (aq 1)) ai))
  (ak (aR (PW.pt (pw_and (az (ba b) (aq 4) aC (aE _)) (pw_and (az mM (aq 2) ai (aE _)) (pw_and1 (az vS (aj b (aj b (bC (aq 0) rfl) (aq 1)) (bc eN (aq 2) ai)) hX (aE _)))))) (ak cV) aH))))),?_⟩
 nofun;obtain⟨W,o,y,b⟩:=n.ins;obtain⟨⟨ms,wv,X,N,o,W,O⟩,aU⟩:=n.Qb;have R:=(b 6 ∅ ∅).1;have g:=u.lt;obtain⟨Y,S,U⟩:=n.cn.lst (t:=6) (i:=m) g rfl;have b:=u.lies;have Z:k<(r.ww m).cD.length:=(List.getElem?_eq_some_iff.mp b).1;obtain⟨v,ev,dv⟩:=U.get (i:=k) (d:=ml none) (by rw[List.getElem?_map,b];rfl);have:=wB dv;subst this;ac_rfl;left;calc eX y (eL ⋯) ?_;calc⟨_,x,bq,c,r,ad,m,k,a,rfl,n,g,by rw[M.lk m g];calc Z,?_⟩;left;calc eR y T.aO T.cL D7 ?_;left;calc bA R (aV g) ?_;calc bA S (ay ev) ?_;left
 try rw[if_neg ∅]
 left;calc eR y T.aO T.cK pQ ?_;obtain⟨n,o,x,M,b,W,Z,g4⟩:=id N;left;calc eX b (eB ⋯ ⋯ ⋯) ?_;calc fK bq ms wv X rfl N (λl n=>?_);have p:=au.new (.lst wv) n;have el:upd H l (.lst wv) l=some (.lst wv):=ab;generalize hG:upd H l (.lst wv)=G at *;left;have b:c.ws[m]?=some (c.w m):=aS g;have l:m<wv.length:=by have:=O.1;simp at this;lia
 have zi:=(O.2 m wv[m] (mn (c.w m)) nofun (by rw[List.getElem?_map,b];rfl)).aK p.aM;nofun;obtain⟨ta,l,n,o,x,B,wA,q1,q2,q3⟩:=bS zi;obtain rfl:=q1.cE;obtain rfl:=q2.cE;obtain rfl:=q3.cP;ac_rfl;calc bA el (ay (j:=m) (v:=.ref ta) (by rw[<-B];simp)) ?_;calc di wA (ay (j:=2) rfl) ?_;left;have DW:=p _ _ y;have ZP:=p _ _ R;have I:=p _ _ S;have J:=q _ p;have b:=u.row;by_cases z:(c.w m).2.2="row"
 ·by_cases c:0 < k
  ·nofun;obtain⟨e,he⟩:=b z c;obtain⟨l,ZQ,L⟩:=U.get (i:=k - 1) (d:=ml (some e)) (by rw[List.getElem?_map,he];rfl);obtain⟨ae,rfl,b⟩:=me L;ac_rfl;rw[if_pos (by simp[z]),if_pos (by simp;lia)];calc eR DW T.aO T.cL D7 ?_;left;calc bA ZP (aV g) ?_;calc bA I (show iJ Y ((k:Int) - 1)=some (.ref ae) from by rw[show(k:Int) - 1=((k - 1:Nat):Int) by lia];calc ay ZQ) ?_;left
   try rw[if_neg ∅]
   left;exact J
  ·rw[if_pos (by simp[z]),if_neg (by simp;lia),if_neg ∅];left;exact J
 ·rw[if_neg (by simp[z]),if_neg ∅];left;calc J
abbrev kY:Stmt:=(bW (top 53)).getD 11 (.Pass ⟨0,0,0,0⟩)
theorem HA{H:Hp}{n:Nat}{v:V}{s:List Int×List Int}(h:HD H n v (qE s)):HT H 2 v (xQ s.1 s.2):=by
 have h:HD H n v (.tup [.tup (s.1.map .int),.tup (s.2.map .int)]):=h
 cases h with
 | @tup n a c _ e l i=>
  match c,l,e,i with
  | [u,v],_,e,i=>
   have d:=i 0 u _ rfl rfl;have f:=i 1 v _ rfl rfl;have b:∀{n:Nat} {u:V} {ns:List Int},HD H n u (.tup (ns.map .int))->HT H 1 u (.tup (ns.map .int)):=λ{n u ns} h=>by
    cases h with
    | @tup n a c _ e l i=>exact om (n:=0) (by rw[e,show c=ns.map V.int from ei.kM ⟨l,i⟩])
   calc cH e (b d) (b f)
def HB(C CN CR:Addr):Sp:=λvs H Q _=>∃(F:Addr->Prop) (x bq:Addr) (nt:NT) (r:RS) (ad:Nat->Nat->Addr) (m:Nat),vs=[.ref x,.int m]/\bX C CN CR F H x bq nt r ad/\r.Ok nt/\m<nt.ms.length/\∀v,HT H 2 v (xQ ((r.mm m).dQ.bg ([],[])).1 ((r.mm m).dQ.bg ([],[])).2)->Q v H
theorem yB(D:gA K CR "state" "Run.state" kY ["self","m"])(T:Tx K mg C CN CR F FD)(j:cj P w K mg base CR "need_machine" 3 ["self","m"] (Cf C CN CR)):cj P w K mg base CR "state" 4 ["self","m"] (HB C CN CR):=by
 have sc:aB ["self","m"] ["self","m"] (av kY):=by walk_at "s"
 symm;obtain⟨F,x,bq,c,r,ad,m,rfl,b,e,a,q⟩:=h;have g:=hr.units;refine⟨_,(ag (bI (dS j T.aO hr (aq 0) (af (aq 1) aa)))
  (ak (aD (aj g (aj g (bC (aq 0) rfl) (aq 1)) (kG ia ai))))),?_⟩
 nofun;obtain⟨j,o,g,k⟩:=b.ins;have l:=(k 1 ∅ ∅).1;obtain⟨n,o,j⟩:=b.cn.lst (t:=1) (i:=m) a rfl;have k:n.length=(r.mm m).dQ.length:=by simpa using j.1
 have n:=e.v8 a;obtain⟨v,p,u⟩:=j.get (i:=(r.mm m).dQ.length-1) (d:=qE ((r.mm m).dQ.bg ([],[]))) (by rw[List.getElem?_map,jJ (d:=([],[])) n];rfl);ac_rfl;left;calc eX g (eL ⋯) ?_;calc⟨_,x,bq,c,r,ad,m,rfl,b,a,?_⟩;left;calc eR g T.aO T.b8 Hx ?_;left;calc bA l (aV a) ?_;calc bA o (jY () (by rw[k];calc p)) ?_;calc q _ (HA (u.cv c9))
abbrev kZ:Stmt:=(bW (top 53)).getD 10 (.Pass ⟨0,0,0,0⟩)
def HC(C CN CR:Addr):Sp:=λvs H Q _=>∃(F:Addr->Prop) (x bq:Addr) (nt:NT) (r:RS) (ad:Nat->Nat->Addr) (m:Nat),vs=[.ref x,.int m]/\bX C CN CR F H x bq nt r ad/\m<nt.ms.length/\Q (.int (((r.mm m).dQ.length:Nat)-1)) H
theorem yC(D:gA K CR "count" "Run.count" kZ ["self","m"])(T:Tx K mg C CN CR F FD)(d:cj P w K mg base CR "need_machine" 3 ["self","m"] (Cf C CN CR)):cj P w K mg base CR "count" 4 ["self","m"] (HC C CN CR):=by
 have sc:aB ["self","m"] ["self","m"] (av kZ):=by walk_at "s"
 symm;obtain⟨F,x,bq,c,r,ad,m,rfl,a,b,q⟩:=h;have e:=hr.units;refine⟨_,(ag (bI (dS d T.aO hr (aq 0) (af (aq 1) aa)))
  (ak (aD (bc eN (aW aL rfl T.bZ M' (af (aj e (bC (aq 0) rfl) (aq 1)) aa)) ai)))),?_⟩
 nofun;obtain⟨g,o,d,e⟩:=a.ins;have g:=(e 1 ∅ ∅).1;obtain⟨j,k,l⟩:=a.cn.lst (t:=1) (i:=m) b rfl;ac_rfl;have e:j.length=(r.mm m).dQ.length:=by simpa using l.1
 left;calc eX d (eL ⋯) ?_;calc⟨_,x,bq,c,r,ad,m,rfl,a,b,?_⟩;left;calc eR d T.aO T.b8 Hx ?_;left;calc bA g (aV b) ?_;calc bz _ (.inl ⟨_,aN.of k,rfl⟩) ?_;left;rw[e];calc q
abbrev k6:Stmt:=(bW (top 53)).getD 12 (.Pass ⟨0,0,0,0⟩)
def HE(C CN CR:Addr):Sp:=λvs H Q _=>∃(F:Addr->Prop) (x bq:Addr) (nt:NT) (r:RS) (ad:Nat->Nat->Addr) (m:Nat),vs=[.ref x,.int m]/\bX C CN CR F H x bq nt r ad/\m<nt.ms.length/\∀l,H l=none->Q (.ref l) (upd H l (.lst (((r.mm m).wp.bg []).map V.int)))
theorem yD(D:gA K CR "words" "Run.words" k6 ["self","m"])(T:Tx K mg C CN CR F FD)(d:cj P w K mg base CR "need_machine" 3 ["self","m"] (Cf C CN CR)):cj P w K mg base CR "words" 4 ["self","m"] (HE C CN CR):=by
 have sc:aB ["self","m"] ["self","m"] (av k6):=by walk_at "s"
 symm;obtain⟨F,x,bq,c,r,ad,m,rfl,a,b,q⟩:=h;have e:=hr.units;refine⟨_,(ag (bI (dS d T.aO hr (aq 0) (af (aq 1) aa)))
  (ak (aD (cZ cG rfl T.dX xc (af (aj e (bC (aq 0) rfl) (aq 1)) aa))))),?_⟩
 nofun;obtain⟨g,o,d,e⟩:=a.ins;have g:=(e 3 ∅ ∅).1;obtain⟨l,j,k⟩:=a.cn.lst (t:=3) (i:=m) b rfl;ac_rfl;have e:=k.kM;left;calc eX d (eL ⋯) ?_;calc⟨_,x,bq,c,r,ad,m,rfl,a,b,?_⟩;left;calc eR d T.aO T.cA Qa ?_;left;calc bA g (aV b) ?_;calc bz _ (.inl (aN.of j)) (λl n=>?_);rw[e];calc q l n
abbrev iy:Stmt:=(bW (top 53)).getD 15 (.Pass ⟨0,0,0,0⟩)
def Av(C CN CR:Addr):Sp:=λvs H Q _=>∃(F:Addr->Prop) (x bq:Addr) (nt:NT) (r:RS) (ad:Nat->Nat->Addr),vs=[.ref x]/\bX C CN CR F H x bq nt r ad/\∀l a,H l=none->ei H 4 a (r.picks.map pairD)->Q (.ref l) (upd H l (.lst a))
theorem sY(D:gA K CR "schedule" "Run.schedule" iy ["self"])(T:Tx K mg C CN CR F FD):cj P w K mg base CR "schedule" 1 ["self"] (Av C CN CR):=by
 have sc:aB ["self"] ["self"] (av iy):=by walk_at "s"
 symm;obtain⟨F,x,bq,b,r,ad,rfl,a,q⟩:=h;have b:=hr.units;calc⟨_,(ak (aD (cZ cG rfl T.dX xc (af (bC (aq 0) rfl) aa)))),?_⟩;nofun;obtain⟨c,o,b,d⟩:=a.ins;obtain⟨e,c,d⟩:=a.cn.lst (t:=0) (i:=0) (by show 0<1;decide) rfl;ac_rfl;left;calc eR b T.aO T.cS UP ?_;left;calc bz _ (.inl (aN.of c)) (λl a=>?_);calc q l _ a (d.cv c9)
abbrev pS:Stmt:=(bW (top 53)).getD 8 (.Pass ⟨0,0,0,0⟩)
def Cj(C CN CR:Addr):Sp:=λvs H Q _=>∃(F:Addr->Prop) (x bq:Addr) (nt:NT) (r:RS) (ad:Nat->Nat->Addr),vs=[.ref x]/\bX C CN CR F H x bq nt r ad/\Q (.ref bq) H
theorem D8(D:gA K CR "net" "Run.net" pS ["self"])(T:Tx K mg C CN CR F FD):cj P w K mg base CR "net" 1 ["self"] (Cj C CN CR):=by
 have sc:aB ["self"] ["self"] (av pS):=by walk_at "s"
 symm;obtain⟨F,x,bq,b,r,ad,rfl,a,q⟩:=h;have b:=hr.units;calc⟨_,(ak (aD (bC (aq 0) rfl))),?_⟩;obtain⟨c,o,b,d⟩:=a.ins;left;calc eR b T.aO T.cK pQ ?_;calc q
theorem sZ{w:Nat}:∀{l:List Nat},w∈l->l[l.idxOf w]?=some w/\∀i y,i<l.idxOf w->l[i]?=some y->y≠w
 | [],h=>by simp at h
 |a::r,h=>by
  by_cases e:a=w
  ·subst e;rw[List.idxOf_cons_self];exact⟨rfl,λi y c=>absurd c (aaA i)⟩
  ·have hr:w∈r:=by
    rcases List.mem_cons.mp h with h|h
    ·exact absurd h.symm e
    ·exact h
   obtain⟨d,g⟩:=sZ hr;have j:(a::r).idxOf w=r.idxOf w+1:=by rw[List.idxOf_cons,beq_eq_false_iff_ne.mpr e];rfl
   rw[j];refine⟨by simpa using d,λi y c b=>?_⟩
   cases i with
   |zero=>simp at b;subst b;calc e
   |succ i=>calc g i y () (by simpa using b)
theorem rf{nt:NT}(h:nt.Ok){w:Nat}(a:w<nt.ws.length):(nt.w w).2.1=((nt.goal w:Nat):Int):=by
 have:=h.wy a;unfold NT.goal;lia
theorem HF{nt:NT}(h:nt.Ok){w:Nat}(a:w<nt.ws.length):w∈uk nt 1 (nt.goal w):=by
 unfold uk;rw[List.mem_filter];calc⟨List.mem_range.mpr a,?_⟩;rw[decide_eq_true_eq];calc rf h a
theorem oI{nt:NT}(h:nt.Ok){w:Nat}(a:w<nt.ws.length):(uk nt 1 (nt.goal w)).idxOf w=nt.place w:=by
 unfold NT.place;rw[rf h a];rfl
theorem vh{l:List Nat}:(l.map λi=>V.int (i:Nat))=(l.map λi=>((i:Nat):Int)).map V.int:=by simp[List.map_map]
theorem Lp{r:RS}{n:NT}{w k:Nat}:∀t i,i<n.n t->setC (setC (setC (setC (setC r.ct 0 0 (.l (r.picks.map pairD++[pairD ((w:Int),(k:Int))]))) 6 w (.l (((r.ww w).cD.map ml).set k (ml (some (n.ev r w)))))) 1 (n.goal w) (.l ((r.mm (n.goal w)).dQ.map qE++[qE ((n.work r w k).ns,(n.work r w k).row)]))) 3 (n.goal w) (.l (((r.mm (n.goal w)).wp.bg []).map .int++(n.work r w k).words.map .int))) 2 (n.goal w) (.l (((r.mm (n.goal w)).wp.map λu=>DV.int (u.length:Nat))++[.int ((((r.mm (n.goal w)).wp.bg []++(n.work r w k).words).length:Nat))])) t i=(r.step n w k).ct t i:=by
 intro t i a;unfold setC
 match t,a with
 |0,a=>
  have:i=0:=by have:i<1:=a;lia
  subst this;simp[RS.ct,RS.step]
 |1,_=>by_cases e:i=n.goal w<;>simp[RS.ct,RS.step,e]
 |2,_=>by_cases e:i=n.goal w<;>simp[RS.ct,RS.step,e]
 |3,_=>by_cases e:i=n.goal w<;>simp[RS.ct,RS.step,e,r6]
 |4,_=>by_cases e:i=w<;>simp[RS.ct,RS.step,e]
 |5,_=>by_cases e:i=w<;>simp[RS.ct,RS.step,e]
 |6,_=>by_cases e:i=w<;>simp[RS.ct,RS.step,e,List.map_set]
 |(t+7),a=>calc absurd a (aaA i)
theorem Ck{nt:NT}(d:nt.Ok)(h:r.Ok nt){w k:Nat}(f:w<nt.ws.length):∀a c,some (nt.ev r w)=some (a,c)->0<=a/\a<nt.ms.length/\1<=c/\c<=((r.step nt w k).mm a.toNat).hr.length:=by
 have b:=d.gX f;intro a c e
 cases e;refine⟨(),(),?_,?_⟩
 ·have:=h.v8 b;lia
 ·have d:(r.step nt w k).mm (nt.goal w)=⟨(r.mm (nt.goal w)).dQ++[((nt.work r w k).ns,(nt.work r w k).row)],(r.mm (nt.goal w)).wp++[(r.mm (nt.goal w)).wp.bg []++(nt.work r w k).words],(r.mm (nt.goal w)).hr++[nt.gc r w k]⟩:=if_pos rfl;rw[show((nt.goal w:Nat):Int).toNat=nt.goal w from Int.toNat_natCast _,d,h.lh _ b];simp
theorem pT{outs:List Nat}{ev:Int×Int}:∀(ps:List (Int×Int)) {r:RS}{p:Int×Int},r.send outs ev (ps++[p])=(r.send outs ev ps).send outs ev [p]
 | [],r,p=>rfl
 |q::ps,r,p=>pT ps
structure BF(F:Addr->Prop)(n:Nat->Nat)(ad:Nat->Nat->Addr)(A B H:Hp)(ct:Nat->Nat->CO):Prop where
 b:dD F H n ad ct
 f:Fr (FP n ad) A H
 g:Fr (FP n ad) B H
section
variable {F:Addr->Prop}{n:Nat->Nat}{ad:Nat->Nat->Addr}{A B H H':Hp}{ct:Nat->Nat->CO}
theorem BF.same(h:BF F n ad A B H ct)(s:au H H'):BF F n ad A B H' ct:=⟨h.b.same s,h.f.trans s.fr,h.g.trans s.fr⟩
theorem BF.app(h:BF F n ad A B H ct){t i:Nat}(a:i<n t){d:List DV}(e:ct t i=.l d){vs:List V}(c:H (ad t i)=some (.lst vs)){us:List V}{j:List DV}(g:ei (ie (λb=>F b\/FP n ad b) H) 4 us j):BF F n ad A B (upd H (ad t i) (.lst (vs++us))) (setC ct t i (.l (d++j))):=⟨h.b.app a e c g,h.f.upd ⟨t,i,a,rfl⟩ c trivial,h.g.upd ⟨t,i,a,rfl⟩ c trivial⟩
end
abbrev ja:Stmt:=(bW (top 53)).getD 7 (.Pass ⟨0,0,0,0⟩)
inductive HG(C CN CR:Addr)(vs:List V)(H:Hp)(Q:VK):Prop
 |mk (F:Addr->Prop) (x bq:Addr) (nt:NT) (r:RS) (ad:Nat->Nat->Addr) (wy k:Nat) (a:V) (h0:vs=[.ref x,.int (wy:Nat),.int (k:Nat),a]) (h1:bX C CN CR F H x bq nt r ad) (h2:FS F H) (h3:r.Ok nt) (h4:r.JO nt wy k) (h5:r.picks.length<=400) (h6:∀t H',Fr (FP nt.n ad) H H'->bX C CN CR F H' x bq nt (r.pick nt wy k) ad->HT H' 1 t (pairD (nt.ev r wy))->Q t H'):HG C CN CR vs H Q
def Cm(C CN CR:Addr):Sp:=λvs H Q _=>HG C CN CR vs H Q
theorem ur(D:gA K CR "pick_at" "Run.pick_at" ja ["self","way","number","at"])(T:Tx K mg C CN CR F FD)(gm:cj P w K mg base C "worked" 3 ["self","state","way","said"] (vg K C))(bP:cj P w K mg base CN "machines" 1 ["self"] (g9 CN))(de:cj P w K mg base CN "ways" 1 ["self"] (oE CN))(jb:cj P w K mg base CN "ways_in" 4 ["self","m"] (sV C CN))(iz:cj P w K mg base CN "ways_out" 4 ["self","m"] (qA C CN))(gK:cj P w K mg base CR "need_pick" 5 ["self","way","number","at"] (MO C CN CR))(cU:cj P w K mg base CR "put_letter" 1 ["self","way","said","sender"] (sW C CN CR))(fv:cj P w K mg base CR "state" 4 ["self","m"] (HB C CN CR)):cj P w K mg base CR "pick_at" 6 ["self","way","number","at"] (Cm C CN CR):=by
 have sc:aB ["self","way","number","at","m","place","machine","state","sent","words","event","ways_out","j","said"] ["self","way","number","at"] (av ja):=by walk_at "s"
 symm;obtain⟨F,x,bq,m,r,ad,B,k,a,rfl,J,ma,L,hc,o,q⟩:=h;have o:=hr.units;refine⟨_,(ag (bI (dS gK T.aO hr (aq 0) (af (aq 1) (af (aq 2) (af (aq 3) aa)))))
  (ag (aY (i:=4) sc.nd rfl Sort (aj o (aj o (fc de T.cQ hr (bC (aq 0) rfl)) (aq 1)) ai))
  (ag (aY (i:=5) sc.nd rfl Sort (dy mH PySem.F.slot_list_index PySem.F.type_list_index uW (dS jb T.cQ hr (bC (aq 0) rfl) (af (aq 4) aa)) (af (aq 1) aa)))
  (ag (aY (i:=6) sc.nd rfl Sort (aj o (fc bP T.cQ hr (bC (aq 0) rfl)) (aq 4)))
  (ag (eD (dS gm T.cJ hr (aq 6) (af (dS fv T.aO hr (aq 0) (af (aq 4) aa)) (af (aq 5) (af (aj o (aj o (bC (aq 0) rfl) (aq 1)) (aq 2)) aa)))) (r8 (i:=7) (j:=8) (l:=9) rfl sc.nd rfl rfl rfl Sort Sort Sort))
  (ag (aY (i:=10) sc.nd rfl Sort (bD (af (aq 4) (af (aW aL rfl T.bZ M' (af (aj o (bC (aq 0) rfl) (aq 4)) aa)) aa))))
  (ag (bI (dy mH qr qt bV (bC (aq 0) rfl) (af (bD (af (aq 1) (af (aq 2) aa))) aa)))
  (ag (eD (aq 10) (iV (aj o (bC (aq 0) rfl) (aq 1)) (aq 2) dU))
  (ag (bI (dy mH qr qt bV (aj o (bC (aq 0) rfl) (aq 4)) (af (aq 7) aa)))
  (ag (bI (dy mH PySem.F.slot_list_extend PySem.F.type_list_extend KP (aj o (bC (aq 0) rfl) (aq 4)) (af (aq 9) aa)))
  (ag (bI (dy mH qr qt bV (aj o (bC (aq 0) rfl) (aq 4)) (af (aW aL rfl T.bZ M' (af (aj o (bC (aq 0) rfl) (aq 4)) aa)) aa)))
  (ag (aY (i:=11) sc.nd rfl Sort (dS iz T.cQ hr (bC (aq 0) rfl) (af (aq 4) aa)))
  (ag (dj PassesOwn.never rfl (bM (pv 8)) (eQ (i:=12) (j:=13) rfl sc.nd rfl rfl Sort Sort)
  (ak (aR (az gG (aq 12) (aW aL rfl T.bZ M' (af (aq 11) aa)) (aE _)) (ak (bI (dS cU T.aO hr (aq 0) (af (aj o (aq 11) (aq 12)) (af (aq 13) (af (aq 10) aa)))))) aH)))
  (ak (aD (aq 10)))))))))))))))),?_⟩
 nofun;obtain⟨dx,o,M,ho⟩:=J.ins;have hn:=J.Qb;have S:=hn.ok;obtain⟨⟨ms,wv,lv,hf,o,Au,Lo⟩,_⟩:=id hn;obtain⟨o,a1,b1,c1,g1,g2,g3,g4⟩:=id hf;ac_rfl;left;calc eX M (eL ⋯) ?_;calc⟨_,x,bq,m,r,ad,B,k,a,rfl,J,L,hc,λH1 o=>?_⟩;nofun;have I:=hc.lt;have G:=S.gX I;obtain⟨wk1,ZR,wk3,ZS⟩:=qX S L I k;ac_rfl;left;calc eR (o _ _ M) T.aO T.cK pQ ?_;left;calc eX (o _ _ g1) (eB ⋯ ⋯ ⋯) ?_;calc fK bq ms wv lv rfl (hf.same o) (λl hl=>?_);have s2:au H (upd H1 l (.lst wv)):=o.trans (au.new _ hl);have el:upd H1 l (.lst wv) l=some (.lst wv):=ab;nofun;generalize wY:upd H1 l (.lst wv)=H2 at *;have o:m.ws[B]?=some (m.w B):=aS I;have kr:B<wv.length:=by have:=Lo.1;simp at this;lia
 have zi:=(Lo.2 B wv[B] (mn (m.w B)) nofun (by rw[List.getElem?_map,o];rfl)).aK s2.aM;obtain⟨ta,u1,u2,u3,kk,eta,wA,q1,q2,q3⟩:=bS zi;obtain rfl:=q1.cE;obtain rfl:=q2.cE;obtain rfl:=q3.cP;ac_rfl;left;calc bA el (ay (j:=B) (v:=.ref ta) (by rw[<-eta];simp)) ?_;calc di wA (show iJ _ 1=some (.int ((m.goal B:Nat):Int)) from by rw[<-rf S I];calc ay (j:=1) rfl) ?_;left;calc eR (s2 _ _ M) T.aO T.cK pQ ?_;left;calc eX (s2 _ _ g1) (eB ⋯ ⋯ ⋯) ?_;calc⟨bq,m,m.goal B,rfl,hn.fr (Z:=λ_=>False) s2.fr,G,λl2 H3 MP fl2 o=>?_⟩;have s3:=s2.trans MP;calc⟨.inl ⟨rfl,_,aN.of o⟩,?_⟩;obtain⟨ZT,ZU⟩:=sZ (HF S I);refine⟨l2,_,m.place B,B,rfl,rfl,by rw[o,vh],?_,?_,?_⟩
 ·rw[List.getElem?_map,<-oI S I,ZT];rfl
 ·intro i y hi hy;rw[List.getElem?_map]at hy;obtain⟨z,hz,rfl⟩:=Option.map_eq_some_iff.mp hy;have:=ZU i z (by rw[oI S I];calc hi) hz;lia
 left;calc eR (s3 _ _ M) T.aO T.cK pQ ?_;left;calc eX (s3 _ _ g1) (eB ⋯ ⋯ ⋯) ?_;calc fK bq ms wv lv rfl (hf.same s3) (λl4 o=>?_);have U:au H (upd H3 l4 (.lst (ms.map V.ref))):=s3.trans (au.new _ o);have ZV:upd H3 l4 (.lst (ms.map V.ref)) l4=some (.lst (ms.map V.ref)):=ab;generalize Xq:upd H3 l4 (.lst (ms.map V.ref))=H4 at *;have ML:m.goal B<ms.length:=by lia
 have o:m.ms[m.goal B]?=some (m.ms.getD (m.goal B) default):=aS G;have Cn:=(Au (m.goal B) ms[m.goal B] _ (cN ML) o).same U;have Lq:=S.gd G;left;calc bA ZV (ay (j:=m.goal B) (v:=.ref ms[m.goal B]) (by rw[List.getElem?_map,cN ML];rfl)) ?_;left;nofun;generalize ms[m.goal B]=mch at *;obtain⟨dm,o,y,Ex,hm2,hm3⟩:=id Cn;ac_rfl;calc eX Ex (BX ⋯ ⋯ ⋯) ?_;calc eX (U _ _ M) (eL ⋯) ?_;calc⟨_,x,bq,m,r,ad,m.goal B,rfl,J.same U,L,G,λsv Ce=>?_⟩;have l4':=U _ _ (ho 4 ∅ ∅).1;nofun;obtain⟨o,e4,d4⟩:=(J.cn.same U).lst (t:=4) (i:=B) I rfl;have z4:=d4.kM;subst z4;ac_rfl;have wc:k<(r.ww B).say.length:=by rw[L.lk B I];exact(List.getElem?_eq_some_iff.mp hc.lies).1
 left;calc eR (U _ _ M) T.aO T.bO Hy ?_;left;calc bA l4' (aV I) ?_;calc bA e4 (ay (j:=k) (v:=.int ((r.ww B).say.getD k 0)) (by rw[List.getElem?_map,aS (d:=0) wc];rfl)) ?_;have o:=L.last G;calc⟨mch,sv,_,_,_,_,_,_,_,_,rfl,Cn,xS.of Ce,Lq.m2,Lq.Y0,o.bn,o.lr,Lq.Xh,by rw[o.ln];calc Lq.ok,λy W MR Qd=>?_⟩;have s5:=U.trans MR;nofun;obtain⟨rp,JP,RF,MT,zs,rfl,o,Aw,Qe,kU,Ax,ZY,ZZ,y⟩:=Qd.ex
 replace Aw:HT W 2 JP (xQ (m.work r B k).ns (m.work r B k).row):=Aw
 replace kU:SL W zs (m.work r B k).cI:=kU
 replace Ax:W MT=some (.lst ((m.work r B k).words.map V.int)):=Ax
 ac_rfl;calc un3 (bL.of o) ?_;left;calc eR (s5 _ _ M) T.aO T.b8 Hx ?_;have b5:=J.cn.same s5;have i0:0<m.n 0:=by show 0<1;decide
 obtain⟨o,y,d1⟩:=b5.lst (t:=1) (i:=m.goal B) G rfl;have z1:o.length=(r.mm (m.goal B)).dQ.length:=by simpa using d1.1
 left;calc bA (s5 _ _ (ho 1 ∅ ∅).1) (aV G) ?_;calc gB _ (.inl ⟨_,aN.of y,rfl⟩) cY (λev o=>?_);rw[z1];have s6:au H (upd W ev (.tup [.int ((m.goal B:Nat):Int),.int (((r.mm (m.goal B)).dQ.length:Nat):Int)])):=s5.trans (au.new _ o);have Z1:au W (upd W ev (.tup [.int ((m.goal B:Nat):Int),.int (((r.mm (m.goal B)).dQ.length:Nat):Int)])):=au.new _ o;have Z2:HT (upd W ev (.tup [.int ((m.goal B:Nat):Int),.int (((r.mm (m.goal B)).dQ.length:Nat):Int)])) 1 (.ref ev) (pairD (m.ev r B)):=cH (n:=0) ab (.int _) (.int _);generalize Le:upd W ev (.tup [.int ((m.goal B:Nat):Int),.int (((r.mm (m.goal B)).dQ.length:Nat):Int)])=H6 at *;have b6:=J.cn.same s6;left;calc eR (s6 _ _ M) T.aO T.cS UP ?_;obtain⟨v0,e0,d0⟩:=b6.lst (t:=0) (i:=0) i0 rfl;have o:v0.length=r.picks.length:=by simpa using d0.1
 left;calc ig (.inl ⟨rfl,_,aN.of e0⟩) cY (λtp o=>?_);left;have s7:au H (upd H6 tp (.tup [.int ((B:Nat):Int),.int ((k:Nat):Int)])):=s6.trans (au.new _ o);have w6:au H6 (upd H6 tp (.tup [.int ((B:Nat):Int),.int ((k:Nat):Int)])):=au.new _ o;have Z3:HT (upd H6 tp (.tup [.int ((B:Nat):Int),.int ((k:Nat):Int)])) 1 (.ref tp) (pairD ((B:Int),(k:Int))):=cH (n:=0) ab (.int _) (.int _);generalize Xs:upd H6 tp (.tup [.int ((B:Nat):Int),.int ((k:Nat):Int)])=H7 at *;have b7:=J.cn.same s7;have FS7:FS F H7:=ma.fr (Z:=λ_=>False) s7.fr (λ_ _ h=>h);have e07:=w6 _ _ e0;have RG:=Z1.trans w6;calc gB v0 e07 (small ()) ?_;have R:=(BF.mk b7 s7.fr (Fr.refl:Fr (FP m.n ad) H7 H7)).app (t:=0) (i:=0) i0 rfl e07 (ei.one ((b7.ht FS7 Z3).mono ∅));generalize Z4:upd H7 (ad 0 0) (.lst (v0++[.ref tp]))=H8 at *;have y:=ho 6 ∅ ∅;have o1:=ho 1 ∅ ∅;have o2:=ho 2 ∅ ∅;have o3:=ho 3 ∅ ∅;left;calc eR (R.f.mi M id) T.aO T.cL D7 ?_;obtain⟨v6,e6,d6⟩:=R.b.lst (t:=6) (i:=B) I rfl;have W:v6.length=(r.ww B).cD.length:=by simpa using d6.1
 have o:k<v6.length:=by rw[W,<-L.lk B I];exact wc
 left;calc bA (R.f.at y.1 y.2.2) (aV I) ?_;left;calc cw v6 k e6 (oF o) ?_;have UT:=Z2.aK w6.aM;have X:=BF.mk (R.b.set (t:=6) (i:=B) I rfl e6 (k:=k) ((R.b.ht (ma.fr R.f J.cn.uq) (UT.aK R.g.aM)).mono ∅)) (R.f.upd ⟨6,B,I,rfl⟩ e6 trivial) (R.g.upd ⟨6,B,I,rfl⟩ e6 trivial);generalize hG9:upd H8 (ad 6 B) (.lst (v6.set k (.ref ev)))=H9 at *;left;calc eR (X.f.mi M id) T.aO T.b8 Hx ?_;obtain⟨Z5,o,d19⟩:=X.b.lst (t:=1) (i:=m.goal B) G rfl;have y:Z5.length=(r.mm (m.goal B)).dQ.length:=by simpa using d19.1
 have y:=L.bp _ G;left;calc bA (X.f.at o1.1 o1.2.2) (aV G) ?_;calc⟨.inl ⟨rfl,_,aN.of o⟩,?_⟩;left;calc gB Z5 o (small ()) ?_;have Fx:=X.app (t:=1) (i:=m.goal B) G rfl o (ei.one (show HD _ 4 JP (qE ((m.work r B k).ns,(m.work r B k).row)) from(X.b.ht (ma.fr X.f J.cn.uq) ((Aw.aK RG.aM).aK X.g.aM)).mono ∅));have HH:¬FP m.n ad RF:=λz=>by
  obtain⟨u,e,_⟩:=(J.cn.same U).fp z;rw[ZY]at e;cases e
 have Qf:¬FP m.n ad MT:=λz=>by
  obtain⟨u,e,_⟩:=(J.cn.same U).fp z;rw[ZZ]at e;cases e
 generalize UU:upd H9 (ad 1 (m.goal B)) (.lst (Z5++[JP]))=EC at *;left;calc eR (Fx.f.mi M id) T.aO T.cA Qa ?_;obtain⟨v3,o,d3⟩:=Fx.b.lst (t:=3) (i:=m.goal B) G rfl;have y:=d3.kM;have U:=L.bw _ G _ (fq (l:=(r.mm (m.goal B)).wp) (d:=[]) (by rw[<-L.lw _ G];calc L.v8 G));have l:v3.length=((r.mm (m.goal B)).wp.bg []).length:=by rw[y];simp
 left;calc bA (Fx.f.at o3.1 o3.2.2) (aV G) ?_;calc⟨.inl ⟨rfl,_,aN.of o⟩,?_⟩;left;calc ud v3 _ o (Fx.g.at (RG _ _ Ax) Qf) (K' (small (by simp;lia))) ?_;have Y:=Fx.app (t:=3) (i:=m.goal B) G rfl o (ei.ints (m.work r B k).words);have Z8:upd EC (ad 3 (m.goal B)) (.lst (v3++(m.work r B k).words.map V.int)) (ad 3 (m.goal B))=some (.lst (v3++(m.work r B k).words.map V.int)):=ab;generalize UW:upd EC (ad 3 (m.goal B)) (.lst (v3++(m.work r B k).words.map V.int))=RH at *;left;calc eR (Y.f.mi M id) T.aO T.dO ZN ?_;obtain⟨v2,e2,d2⟩:=Y.b.lst (t:=2) (i:=m.goal B) G rfl;have l:v2.length=(r.mm (m.goal B)).wp.length:=by simpa using d2.1
 have l:=L.lw _ G;left;calc bA (Y.f.at o2.1 o2.2.2) (aV G) ?_;calc⟨.inl ⟨rfl,_,aN.of e2⟩,?_⟩;left;calc eR (Y.f.mi M id) T.aO T.cA Qa ?_;left;calc bA (Y.f.at o3.1 o3.2.2) (aV G) ?_;calc bz _ (.inl ⟨_,aN.of Z8,rfl⟩) ?_;left;calc gB v2 e2 (small ()) ?_;rw[show(v3++(m.work r B k).words.map V.int).length=((r.mm (m.goal B)).wp.bg []++(m.work r B k).words).length by simp;lia];have zj:=Y.app (t:=2) (i:=m.goal B) G rfl e2 (ei.one (.int (((r.mm (m.goal B)).wp.bg []++(m.work r B k).words).length:Nat)));generalize UX:upd RH (ad 2 (m.goal B)) (.lst (v2++[.int (((r.mm (m.goal B)).wp.bg []++(m.work r B k).words).length:Nat)]))=Xt at *;have UY:bX C CN CR F Xt x bq m (r.step m B k) ad:=J.own zj.f (zj.b.congr Lp);have UZ:SL Xt zs (m.work r B k).cI:=(kU.aK RG.aM).aK zj.g.aM;have oC:=zj.g.at (RG _ _ Qe) HH;have U3:=UT.aK zj.g.aM;have Xu:=zj.f;clear b5 b6 b7 R X Fx Y zj d0 d1 d2 d3 d4 d6 d19 Z4 hG9 UU UW UX;left;calc eR (Xu.mi M id) T.aO T.cK pQ ?_;left;calc eX (Xu.mi g1 id) (eB ⋯ ⋯ ⋯) ?_;calc⟨bq,m,m.goal B,rfl,hn.fr Xu,G,λlo Xv pP flo MU=>?_⟩;have nlo:¬FP m.n ad lo:=λz=>by
  obtain⟨u,e,_⟩:=UY.cn.fp z;rw[flo]at e;cases e
 left;have o:=UY.same pP;have l:=pP _ _ oC;have MV:=U3.aK pP.aM;have MW:=UZ.aK pP.aM;have Lr:zs.length=(m.work r B k).cI.length:=MW.1;have f13:=Xu.trans pP.fr;have Qg:=L.step S I (k:=k);have Qh:∀a c,some (m.ev r B)=some (a,c)->0<=a/\a<m.ms.length/\1<=c/\c<=((r.step m B k).mm a.toNat).hr.length:=Ck S L I;refine⟨_,rfl,.inl ⟨⟨_,aN.of l⟩,eV (K:=K) (xs:=zs) (λi σ H'=>(∃Qi Qj,σ=[some (V.ref x),some (V.int ((B:Nat):Int)),some (V.int ((k:Nat):Int)),some a,some (V.int ((m.goal B:Nat):Int)),some (V.int ((m.place B:Nat):Int)),some (V.ref mch),some JP,some (V.ref RF),some (V.ref MT),some (V.ref ev),some (V.ref lo),Qi,Qj])/\Fr (FP m.n ad) Xv H'/\bX C CN CR F H' x bq m ((r.step m B k).send (m.outs (m.goal B)) (m.ev r B) ((m.work r B k).cI.take i)) ad) ?_ ?_ ?_ ?_⟩⟩
 ·exact⟨⟨_,_,rfl⟩,Fr.refl,o⟩
 ·rintro i σ H' hi ⟨_,N,_⟩;exact aN.of (N.at l HH)
 ·intro i z σ H' hz gH;nofun;obtain⟨⟨Qi,Qj,rfl⟩,N,Ay⟩:=gH;have l:i < zs.length:=(List.getElem?_eq_some_iff.mp hz).1;have l:i < (m.work r B k).cI.length:=by lia
  have o:(m.work r B k).cI[i]?=some (m.work r B k).cI[i]:=cN l;have vi:=ZS _ (aab l);have Ql:=(MW.2 i z _ hz o).aK N.aM;have Ls:(r.step m B k).send (m.outs (m.goal B)) (m.ev r B) ((m.work r B k).cI.take (i+1))=((r.step m B k).send (m.outs (m.goal B)) (m.ev r B) ((m.work r B k).cI.take i)).send (m.outs (m.goal B)) (m.ev r B) [(m.work r B k).cI[i]]:=by
   rw[List.take_succ,o];exact pT _
  generalize (m.work r B k).cI[i]=p at *;obtain⟨O,px⟩:=p;obtain⟨tz,u1,u2,kz,rfl,Et,y1,y2⟩:=dA Ql;obtain rfl:=y1.cE;obtain rfl:=y2.cE;ac_rfl;calc tP (bL.of Et) ?_;have o:=N.at MU nlo;left;calc bz _ (.inl ⟨_,aN.of o,rfl⟩) ?_;left;have l:((uk m 0 (m.goal B)).map λi=>V.int ((i:Nat):Int)).length=(m.outs (m.goal B)).length:=by rw[List.length_map];rfl
  rw[l];have u:O.toNat=O.toNat:=rfl;have y:((O.toNat:Nat):Int)=O:=aaG vi;by_cases u:O<((m.outs (m.goal B)).length:Nat)
  ·rw[if_pos (by simpa using u)];have l:O.toNat < (m.outs (m.goal B)).length:=by lia
   have z:(m.outs (m.goal B)).getD O.toNat 0<m.ws.length:=by
    have:=getD_mem (d:=0) l;unfold NT.outs at this ⊢;rw[List.mem_filter,List.mem_range]at this;exact this.1
   left;obtain⟨I,L,G,M⟩:=Ay.ins;calc eX G (eL ⋯) ?_;refine bA o (show iJ _ O=some (.int (((m.outs (m.goal B)).getD O.toNat 0:Nat):Int)) from by
    rw[<-y];calc ay ?_;rw[List.getElem?_map];show Option.map _ (m.outs (m.goal B))[_]?=_;rw[Int.toNat_natCast,aS (d:=0) l];rfl) ?_
   have y:=(RS.tO.send (outs:=m.outs (m.goal B)) (ev:=m.ev r B) ((m.work r B k).cI.take i) Qg Qh).mono (show _<=19999 by simp;lia);calc⟨F,x,bq,m,_,ad,_,px,.ref ev,some (m.ev r B),rfl,Ay,ma.fr (f13.trans N) J.cn.uq,z,(MV.aK N.aM).mono ∅,y,λo G I=>?_⟩;left;calc ig ⟨_,_,rfl,rfl⟩ (N.trans G) ?_;rw[Ls];show bX C CN CR F o x bq m (if O.toNat<_ then _ else _) ad;rw[if_pos l];exact I
  ·rw[if_neg (by simpa using u)];left;calc ig ⟨_,_,rfl,rfl⟩ N ?_;rw[Ls];show bX C CN CR F H' x bq m (if O.toNat<_ then _ else _) ad;rw[if_neg ()];exact Ay
 ·intro σ H' gI;obtain⟨⟨Qi,Qj,rfl⟩,N,Ay⟩:=gI;left;rw[Lr,List.take_length]at Ay;calc q _ _ (f13.trans N) Ay (MV.aK N.aM)
def _root_.DD.RS.rj(r:RS)(w:Nat):List Nat:=(List.range (r.ww w).say.length).filter λk=>((r.ww w).cD.getD k none).isNone
def Qm(r:RS)(w:Nat)(ks:List Nat):List DV:=ks.map λ(k:Nat)=>pairD (((k:Nat):Int),(r.ww w).say.getD k 0)
theorem fw{p:Nat->Bool}{i:Nat}:(List.range (i+1)).filter p=(List.range i).filter p++(if p i=true then[i] else[]):=by
 rw[List.range_succ,List.filter_append];congr 1
 cases h:p i<;>simp[h]
theorem HI(c:∀b,Z b->∃o,H b=some o/\soft o){m:Nat}{x:V}{d:DV}(g:HT H m x d):HD (ie Z H) m x d:=by
 calc HT.hd (g.aK λb h e=>?_);rw[fJ (λz=>by
  obtain⟨o,a,f⟩:=c b z;rw[e] at a;cases a;calc f)]
 calc e
structure tj(H0 H':Hp)(D:Addr)(as:List Addr)(n:Nat)(ct:Nat->Hp->List V->Prop):Prop where
 len:as.length=n
 nd:as.Nodup
 new:∀a∈as,H0 a=none/\a≠D
 ins:∀(j:Nat) a,as[j]?=some a->∃vs,H' a=some (.lst vs)/\ct j H' vs
theorem tj.nil{ct:Nat->Hp->List V->Prop}:tj H0 H' D [] 0 ct:=⟨rfl,List.nodup_nil,λa h=>by simp at h,λj a h=>by simp at h⟩
theorem tj.snoc{H0 H1 H':Hp}{D a:Addr}{as:List Addr}{n:Nat}{ct:Nat->Hp->List V->Prop}(h:tj H0 H1 D as n ct)(m:au H0 H1)(p:H1 D≠none)(f:H1 a=none){vs:List V}(e:H' a=some (.lst vs))(c:ct n H' vs)(s:∀b o,b≠D->H1 b=some o->H' b=some o)(d:∀j vs,ct j H1 vs->ct j H' vs):tj H0 H' D (as++[a]) (n+1) ct:=by
 refine⟨by simp[h.len],?_,λb hb=>?_,λj b hb=>?_⟩
 ·rw[List.nodup_append];calc ig h.nd nofun (λb hb c k=>?_);simp at k;subst k;intro z;subst z;obtain⟨j,i⟩:=List.getElem?_of_mem hb;obtain⟨vs,g,_⟩:=h.ins j b i;rw[f]at g;cases g
 ·rcases List.mem_append.mp hb with hb | hb
  ·exact h.new b hb
  ·simp at hb;subst hb;refine⟨?_,λz=>p (z ▸ f)⟩
   cases q:H0 b with
   |none=>rfl
   |some o=>rw[m _ _ q]at f;cases f
 ·by_cases i:j < as.length
  ·rw[List.getElem?_append_left i]at hb;obtain⟨vs,g,f⟩:=h.ins j b hb;exact⟨vs,s _ _ (h.new b (U' hb)).2 g,d _ _ f⟩
  ·rw[List.getElem?_append_right ()] at hb
   cases l:j-as.length with
   |zero=>
    rw[l]at hb;simp at hb;subst hb;have:j=n:=by have:=h.len;lia
    subst this;calc⟨vs,e,c⟩
   |succ k=>rw[l]at hb;simp at hb
theorem tj.keep{n:Nat}{ct:Nat->Hp->List V->Prop}(h:tj H0 H1 D as n ct)(s:∀(b:Addr) (vs:List V),H1 b=some (.lst vs)->H' b=some (.lst vs))(c:∀j vs,ct j H1 vs->ct j H' vs):tj H0 H' D as n ct:=
 ⟨h.len,h.nd,h.new,λj a e=>by
  obtain⟨vs,d,f⟩:=h.ins j a e;calc⟨vs,s _ _ d,c _ _ f⟩⟩
theorem k7{K:W.Frag}{ix:List (Option Nat)}{o:TE}{l:Addr}{xs vs:List V}(r:H l=some (.lst xs))(t:H D=none)(C:xs.length<=10)(v:∀x,Ext (t9 ix σ) ((t9 ix σ).set 0 (some x)))(d:∀g j (R:VK),(∀p,j p=none->R (.ref p) (upd j p (.lst vs)))->o g j R)(q:∀as H1,H1 D=some (.lst (as.map V.ref))->au H H1->tj H H1 D as xs.length (λ_ _ ws=>ws=vs)->Q (.ref D) H1):kJ ix (tU K l) (eU 0) iN o σ H Q D:=by
 refine bb (n:=xs.length) (λi ys H'=>∃as:List Addr,ys=as.map V.ref/\au H H'/\tj H H' D as i (λ_ _ ws=>ws=vs)) (K' (small ())) ⟨[],rfl,au.new _ t,tj.nil⟩ ?_ ?_ ?_ ?_
 ·rintro i ys H' k ⟨_,_,a,_⟩;exact⟨_,xs[i],aN.of (a _ _ r),cN k⟩
 ·rintro ys H' ⟨_,_,a,_⟩;exact⟨_,aN.of (a _ _ r),E' _⟩
 ·intro i ys H' k c u w y F z;obtain⟨as,rfl,a,m⟩:=w;obtain⟨rfl,g⟩:=z;calc⟨v y,?_⟩;simp only[iN,if_true];calc d _ _ _ λp g=>?_;have d:=au.new (.lst vs) g;have i:p≠D:=Ne.symm (ao c g);refine bT (d _ _ c) u k (K' (small ())) ⟨as++[p],nofun,λb o e=>?_,?_⟩
  ·rw[ax (ao e t)];exact d _ _ (a _ _ e)
  ·refine m.snoc a (by rw[c];simp) g (vs:=vs) ?_ rfl (λb o a e=>?_) (λj vs e=>e)
   ·rw[ax i];exact ab
   ·rw[ax a];exact d _ _ e
 ·intro ys H1 c u B;obtain⟨as,rfl,a,m⟩:=B;calc q as H1 c a m
abbrev ng:Stmt:=(bW (top 53)).getD 9 (.Pass ⟨0,0,0,0⟩)
inductive MX(C CN CR:Addr)(vs:List V)(H:Hp)(Q:VK):Prop
 |mk (F:Addr->Prop) (x bq:Addr) (nt:NT) (r:RS) (ad:Nat->Nat->Addr) (wy k:Nat) (h0:vs=[.ref x,.int (wy:Nat),.int (k:Nat)]) (h1:bX C CN CR F H x bq nt r ad) (h2:FS F H) (h3:r.Ok nt) (h4:r.JO nt wy k) (h5:r.picks.length<=400) (h6:∀t H',Fr (FP nt.n ad) H H'->bX C CN CR F H' x bq nt (r.pick nt wy k) ad->HT H' 1 t (pairD (nt.ev r wy))->Q t H'):MX C CN CR vs H Q
def HJ(C CN CR:Addr):Sp:=λvs H Q _=>MX C CN CR vs H Q
theorem AB(D:gA K CR "pick" "Run.pick" ng ["self","way","number"])(T:Tx K mg C CN CR F FD)(j:cj P w K mg base CR "pick_at" 6 ["self","way","number","at"] (Cm C CN CR)):cj P w K mg base CR "pick" 7 ["self","way","number"] (HJ C CN CR):=by
 have sc:aB ["self","way","number"] ["self","way","number"] (av ng):=by walk_at "s"
 symm;obtain⟨F,x,bq,b,r,ad,c,k,rfl,a,d,e,g,i,q⟩:=h;have l:=hr.units;calc⟨_,(ak (aD (dS j T.aO hr (aq 0) (af (aq 1) (af (aq 2) (af ai aa)))))),?_⟩;obtain⟨m,o,l,n⟩:=a.ins;left;calc eX l (eL ⋯) ?_;calc⟨F,x,bq,b,r,ad,c,k,_,rfl,a,d,e,g,i,q⟩
abbrev k8:Stmt:=(bW (top 53)).getD 13 (.Pass ⟨0,0,0,0⟩)
def MY(C CN CR:Addr):Sp:=λvs H Q _=>∃(F:Addr->Prop) (x bq:Addr) (nt:NT) (r:RS) (ad:Nat->Nat->Addr) (m:Nat),vs=[.ref x,.int m]/\bX C CN CR F H x bq nt r ad/\r.Ok nt/\r.picks.length<=400/\m<nt.ws.length/\∀l ys H',au H H'->H l=none->H' l=some (.lst ys)->ei (ie (λb=>b=l) H') 1 ys (Qm r m (r.rj m))->Q (.ref l) H'
theorem yE(D:gA K CR "lying" "Run.lying" k8 ["self","way"])(T:Tx K mg C CN CR F FD)(dH:cj P w K mg base CR "need_way" 3 ["self","way","at"] (Hz C CN CR)):cj P w K mg base CR "lying" 4 ["self","way"] (MY C CN CR):=by
 have sc:aB ["self","way","workers"] ["self","way"] (av k8):=by walk_at "s"
 symm;obtain⟨F,x,bq,nt,r,ad,m,rfl,k,v,M,a,q⟩:=h;have M:=hr.units;refine⟨_,(ag (bI (dS dH T.aO hr (aq 0) (af (aq 1) (af ai aa))))
  (ag (aY (i:=2) sc.nd rfl Sort (aj M (bC (aq 0) rfl) (aq 1)))
  (ak (aD (cX (N':=["number","said","workers"]) (ix:=[none,none,some 2]) (fG rfl T.cu (af (aj M (bC (aq 0) rfl) (aq 1)) aa)) (λ_ _ _ _=>(iP (K:=K) rfl (i:=0) (j:=1) rfl (show(["number","said","workers"]:List Str).Nodup by decide +kernel) rfl rfl Sort Sort)) (λ_ _ _ _=>(iO (az vS (dz (K:=K) rfl M (aq 2) (aq 0)) hX (aE _)))) (λ_ _ _ _=>(bD (af (aq 0) (af (aq 1) aa))))))))),?_⟩
 nofun;obtain⟨dx,o,M,ho⟩:=k.ins;have l6:=(ho 6 ∅ ∅).1;have l4:=(ho 4 ∅ ∅).1;obtain⟨v6,e6,d6⟩:=k.cn.lst (t:=6) (i:=m) a rfl;obtain⟨p,u,d4⟩:=k.cn.lst (t:=4) (i:=m) a rfl;ac_rfl;have z4:=d4.kM;have MZ:=v.lk m a;have hbs:=v.bs m a;left;calc eX M (eL ⋯) ?_;calc⟨_,x,bq,nt,r,ad,m,_,rfl,k,a,?_⟩;left;calc eR M T.aO T.cL D7 ?_;left;calc bA l6 (aV a) ?_;left;calc bE ?_;left;calc eR M T.aO T.bO Hy ?_;left;calc bA l4 (aV a) ?_;left;calc z8 true p (Sq.l u) (λD N=>?_);have zl:p.length=(r.ww m).say.length:=by rw[z4];simp
 refine bb (J:=KN true K (ad 4 m)) (n:=p.length) (λi ys H'=>au H H'/\ei (ie (λb=>b=D) H') 1 ys (Qm r m ((List.range i).filter λk=>((r.ww m).cD.getD k none).isNone))) (K' (small ())) ⟨au.new _ N,show ei _ 1 [] [] from ei.nil⟩ ?_ ?_ ?_ ?_
 ·rintro i ys H' O ⟨g,_⟩;exact⟨p,p[i],Sq.l (g _ _ u),cN O⟩
 ·rintro ys H' ⟨g,_⟩;exact⟨p,Sq.l (g _ _ u),rfl⟩
 ·intro i ys H' O R hl pE a k sL;nofun;obtain⟨g,B⟩:=pE;obtain⟨t,ht,rfl,y⟩:=sL;obtain⟨xw,ex,rfl⟩:=y p (Sq.l (g _ _ u));have a:i < (r.ww m).say.length:=by lia
  have S:xw=.int ((r.ww m).say.getD i 0):=by
   rw[z4,List.getElem?_map,aS (d:=0) a]at ex
   cases ex;rfl
  subst S;have U:=au.new (.tup [.int (i:Nat),.int ((r.ww m).say.getD i 0)]) ht;have nS:upd H' t (.tup [.int (i:Nat),.int ((r.ww m).say.getD i 0)]) t=some (.tup [.int (i:Nat),.int ((r.ww m).say.getD i 0)]):=ab;have W:=U _ _ R;have X:=g.trans U;have U6:ei (ie (λb=>b=D) (upd H' t (.tup [.int (i:Nat),.int ((r.ww m).say.getD i 0)]))) 1 ys _:=B.cv (Fr.ie U.fr);generalize hG:upd H' t (.tup [.int (i:Nat),.int ((r.ww m).say.getD i 0)])=G at *;left;ac_rfl;calc tP (bL.of nS) ⟨Ext.set (Ext.set (Ext.refl _) rfl) rfl,?_⟩;left;obtain⟨v,a,I⟩:=d6.get (i:=i) (d:=ml ((r.ww m).cD.getD i none)) (by rw[List.getElem?_map,aS (d:=none) ()];rfl);calc bA (X _ _ e6) (ay a) ?_;left
  cases L:(r.ww m).cD.getD i none with
  |none=>
   rw[L]at I;have:=wB I;subst this;left
   try rw[if_pos rfl]
   calc⟨cY,λa Y=>?_⟩;have s3:=au.new (.tup [.int (i:Nat),.int ((r.ww m).say.getD i 0)]) Y;have nD:a≠D:=λz=>by rw[z,W]at Y;cases Y
   refine bT (s3 _ _ W) hl O (K' (small ())) ⟨λc o e=>?_,?_⟩
   ·rw[ax (ao e N)];exact s3 _ _ (X _ _ e)
   ·rw[BC (Z:=λb=>b=D) rfl,fw,if_pos (by rw[L];rfl)];unfold Qm;rw[List.map_append];calc(U6.cv (Fr.ie s3.fr)).snoc ?_;calc(cH (n:=0) ?_ (.int _) (.int _)).hd;rw[fJ (Z:=λb=>b=D) nD];calc ab
  |some e=>
   rw[L]at I;obtain⟨ae,rfl,a⟩:=me I;left
   try rw[if_neg ∅]
   exact⟨_,W,(),X,by rw[fw,if_neg (by rw[L];simp),List.append_nil];calc U6⟩
 ·rintro ys H' R hl ⟨g,B⟩;rw[zl]at B;calc q _ ys _ g N R B
abbrev je:Stmt:=(bW (top 53)).getD 17 (.Pass ⟨0,0,0,0⟩)
def yF(C CN CR:Addr):Sp:=λvs H Q _=>∃(F:Addr->Prop) (x bq:Addr) (nt:NT) (r:RS) (ad:Nat->Nat->Addr) (a i:Nat),vs=[.ref x,.int a,.int i]/\bX C CN CR F H x bq nt r ad/\r.Ok nt/\a<nt.ws.length/\i<(r.ww a).say.length/\∀v,HT H 1 v (ml ((r.ww a).snd.getD i none))->Q v H
theorem uu(D:gA K CR "sent_by" "Run.sent_by" je ["self","way","number"])(T:Tx K mg C CN CR F FD)(m:cj P w K mg base CR "need_letter" 4 ["self","way","number","at"] (Cg C CN CR)):cj P w K mg base CR "sent_by" 5 ["self","way","number"] (yF C CN CR):=by
 have sc:aB ["self","way","number"] ["self","way","number"] (av je):=by walk_at "s"
 symm;obtain⟨F,x,bq,j,r,ad,a,i,rfl,c,k,b,g,q⟩:=h;have l:=hr.units;refine⟨_,(ag (bI (dS m T.aO hr (aq 0) (af (aq 1) (af (aq 2) (af ai aa)))))
  (ak (aD (aj l (aj l (bC (aq 0) rfl) (aq 1)) (aq 2))))),?_⟩
 obtain⟨l,o,m,n⟩:=c.ins;left;calc eX m (eL ⋯) ?_;calc⟨_,x,bq,j,r,ad,a,i,_,rfl,c,b,g,?_⟩;left;have l:=(n 5 ∅ ∅).1;nofun;obtain⟨v,e,d⟩:=c.cn.lst (t:=5) (i:=a) b rfl;have c:i<(r.ww a).snd.length:=by rw[<-k.ls a b];exact g
 obtain⟨u,g,j⟩:=d.get (i:=i) (d:=ml ((r.ww a).snd.getD i none)) (by rw[List.getElem?_map,aS (d:=none) c];rfl);ac_rfl;calc eR m T.aO T.eI UQ ?_;left;calc bA l (aV b) ?_;calc bA e (ay g) ?_;calc q _ (Ci (j.cv c9))
abbrev gL:Stmt:=(bW (top 53)).getD 18 (.Pass ⟨0,0,0,0⟩)
def Co(C CN CR:Addr):Sp:=λvs H Q _=>∃(F:Addr->Prop) (x bq:Addr) (nt:NT) (r:RS) (ad:Nat->Nat->Addr) (a i:Nat),vs=[.ref x,.int a,.int i]/\bX C CN CR F H x bq nt r ad/\r.Ok nt/\a<nt.ws.length/\i<(r.ww a).say.length/\∀v,HT H 1 v (ml ((r.ww a).cD.getD i none))->Q v H
theorem qL(D:gA K CR "worked_by" "Run.worked_by" gL ["self","way","number"])(T:Tx K mg C CN CR F FD)(m:cj P w K mg base CR "need_letter" 4 ["self","way","number","at"] (Cg C CN CR)):cj P w K mg base CR "worked_by" 5 ["self","way","number"] (Co C CN CR):=by
 have sc:aB ["self","way","number"] ["self","way","number"] (av gL):=by walk_at "s"
 symm;obtain⟨F,x,bq,j,r,ad,a,i,rfl,c,k,b,g,q⟩:=h;have l:=hr.units;refine⟨_,(ag (bI (dS m T.aO hr (aq 0) (af (aq 1) (af (aq 2) (af ai aa)))))
  (ak (aD (aj l (aj l (bC (aq 0) rfl) (aq 1)) (aq 2))))),?_⟩
 obtain⟨l,o,m,n⟩:=c.ins;left;calc eX m (eL ⋯) ?_;calc⟨_,x,bq,j,r,ad,a,i,_,rfl,c,b,g,?_⟩;left;have l:=(n 6 ∅ ∅).1;nofun;obtain⟨v,e,d⟩:=c.cn.lst (t:=6) (i:=a) b rfl;have c:i<(r.ww a).cD.length:=by rw[<-k.lk a b];exact g
 obtain⟨u,g,j⟩:=d.get (i:=i) (d:=ml ((r.ww a).cD.getD i none)) (by rw[List.getElem?_map,aS (d:=none) c];rfl);ac_rfl;calc eR m T.aO T.cL D7 ?_;left;calc bA l (aV b) ?_;calc bA e (ay g) ?_;calc q _ (Ci (j.cv c9))
theorem vj{CR x a:Addr}{C:Hp}{f:List (Str×V)}(c:List (Str×V))(s:au C H)(d:H x=some (.ins CR a f)):∃G,upd H x (.ins CR a c)=G/\G x=some (.ins CR a c)/\(∀b o,b≠x->C b=some o->G b=some o)/\(∀b vs,H b=some (.lst vs)->G b=some (.lst vs))/\cg H G:=⟨_,rfl,ab,λb o n e=>by rw[ax n];calc s _ _ e,λb vs e=>by rw[ax (λz=>by rw[z,d]at e;cases e)];calc e,λb vs e=>by rw[ax (λz=>by rw[z,d]at e;cases e)];calc e⟩
theorem vk{C:Hp}{d:Addr}(a:List (Key×V))(s:au C H):∃G,upd H d (.dK a)=G/\G d=some (.dK a)/\(∀b o,b≠d->C b=some o->G b=some o)/\(∀b o,b≠d->H b=some o->G b=some o):=⟨_,rfl,ab,λb o n e=>by rw[ax n];calc s _ _ e,λb o n e=>by rw[ax n];calc e⟩
theorem pU:∀(ps:List (Int×Int)) {r:RS}{p:Int×Int},r.ku (ps++[p])=(r.ku ps).put p.1.toNat p.2 none
 | [],r,p=>rfl
 |q::ps,r,p=>pU ps
theorem AD{nt:NT}(j:nt.Ok):(RS.new nt).tO nt 0:=by
 refine⟨λm e=>rfl,λm e=>rfl,λm e s d=>?_,λm e h f=>?_,λv i=>rfl,λv i=>rfl,λv i a c d=>?_,λm e=>E' _,λm e u b=>?_,λv i=>E' _,λm e u b=>?_⟩
 ·have g:=j.gd e;have d:s ∈ [((nt.ms.getD m default).ns,(nt.ms.getD m default).row)]:=d;simp at d;subst d;exact⟨rfl,g.bn,g.r12⟩
 ·have f:h∈([]:List (List Int)):=f;simp at f
 ·have d:some (a,c)∈([]:List (Option (Int×Int))):=d;simp at d
 ·have b:u∈([[]]:List (List Int)):=b;simp at b;subst b;exact E' _
 ·have b:u∈([[]]:List (List Int)):=b;simp at b;subst b;calc List.nil_prefix
theorem rm{nt:NT}:∀(ps:List (Int×Int)) {r:RS}{B:Nat},r.tO nt B->(r.ku ps).tO nt (B+ps.length)
 | [],r,B,h=>h
 |p::ps,r,B,h=>by
  have e:B+(p::ps).length=B+1+ps.length:=by simp;lia
  rw[e];calc rm ps (h.put (λa c z=>by cases z))
theorem tm:∀(ps:List (Int×Int)) {r:RS},(r.ku ps).picks=r.picks
 | [],r=>rfl
 |p::ps,r=>tm ps
theorem oJ{nt:NT}(a:nt.Ok){ls:List (Int×Int)}(h:ls.length<=20):(RS.begin nt ls).Ok nt/\(RS.begin nt ls).picks=[]:=by
 have e:(RS.begin nt ls).picks=[]:=tm ls;calc⟨(rm ls (AD a)).ok ?_,e⟩;show 0+ls.length<=20+24*(RS.begin nt ls).picks.length;rw[e];simp;lia
structure qB(H0 H':Hp)(D:Addr)(as:List Addr)(n:Nat)(ct:Nat->Hp->HO->Prop):Prop where
 len:as.length=n
 nd:as.Nodup
 new:∀a∈as,H0 a=none/\a≠D
 ins:∀(j:Nat) a,as[j]?=some a->∃o,H' a=some o/\ct j H' o
theorem tj.o{n:Nat}{ct:Nat->Hp->List V->Prop}(h:tj H0 H' D as n ct):qB H0 H' D as n (λj H u=>∃vs,u=.lst vs/\ct j H vs):=⟨h.len,h.nd,h.new,λj a e=>by
 obtain⟨vs,a,b⟩:=h.ins j a e;calc⟨_,a,_,rfl,b⟩⟩
theorem tj.some{n:Nat}{ct:Nat->Hp->List V->Prop}(h:tj H0 H1 D as n ct)(s:au H1 H2):∀a∈as,H2 a≠none:=λa m=>by
 obtain⟨j,e⟩:=List.getElem?_of_mem m;obtain⟨b,e,_⟩:=h.ins j a e;rw[s _ _ e];calc λz=>nomatch z
theorem Cp{F:Addr->Prop}{G:Hp}{n:Nat->Nat}{c:Nat->Nat->CO}(g:Nat->Hp)(k:Nat->Nat)(p:Nat->List Addr)(o:Nat->Addr)(ct:Nat->Nat->Hp->HO->Prop)(W:∀t i,ad t i=(p t).getD i 0)(X:∀t,n (t+7)=0)(K:∀t t',t<=6->t'<=6->k t=k t'->t=t')(B:∀t b,g t b≠none->g (t+1) b≠none)(C:∀b,F b->g 0 b≠none/\∃u,G b=some u/\soft u)
  (q:∀t,t<=6->qB (g (k t)) G (o t) (p t) (n t) (ct t)/\(∀a∈p t,g (k t+1) a≠none)/\(1<=t->g (k t) (o t)=none/\g (k t+1) (o t)≠none)) (Y:∀t i u,t<=6->ct t i G u->soft u)
  (Z:(∀b,F b\/FP n ad b->∃u,G b=some u/\soft u)->(∀s D,g s D=none->g (s+1) D≠none->(∀t,t<=6->k t=s->¬D∈p t)->¬(F D\/FP n ad D))->∀t i u,t<=6->i<n t->G (ad t i)=some u->ct t i G u->OR (ie (λb=>F b\/FP n ad b) G) (c t i) u):
  dD F G n ad c/\(∀b,FP n ad b->g 0 b=none/\∃u,G b=some u/\soft u)/\∀t,1<=t->t<=6->¬F (o t)/\¬FP n ad (o t)/\(p t).map V.ref=fW n ad t:=by
 have r:∀t i,i<n t->t<=6:=λt i h=>Classical.byContradiction λz=>by
  have:=X (t-7);rw[show t-7+7=t by lia]at this;lia
 have up:∀(d t:Nat) (b:Addr),g t b≠none->g (t+d) b≠none:=λd=>by
  induction d with
  |zero=>calc λt b h=>h
  |succ d o=>exact λt b h=>B _ _ (o t b h)
 have v:∀s o b,s<=o->g s b≠none->g o b≠none:=λs o b h e=>by
  have:=up (o-s) s b e;rwa [show s+(o-s)=o by lia]at this
 have w:∀t i,i<n t->(p t)[i]?=some (ad t i)/\g (k t) (ad t i)=none/\g (k t+1) (ad t i)≠none/\∃u,G (ad t i)=some u/\ct t i G u:=λt i j=>by
  obtain⟨h,x,_⟩:=q t (r t i j);have e:(p t)[i]?=some (ad t i):=by rw[W];exact aS (by rw[h.len];calc j)
  have m:=U' e;exact⟨e,(h.new _ m).1,x _ m,h.ins _ _ e⟩
 have L:∀s D,g s D=none->g (s+1) D≠none->(∀t,t<=6->k t=s->¬D∈p t)->¬(F D\/FP n ad D):=λs D M x hn z=>by
  rcases z with z|⟨t,i,j,rfl⟩
  ·exact v 0 s D (V' _) (C D z).1 M
  ·obtain⟨e,I,y,_⟩:=w t i j;rcases Nat.lt_trichotomy s (k t) with l | l | l
   ·exact v _ _ _ l x I
   ·exact hn t (r t i j) l.symm (U' e)
   ·exact v _ _ _ l y M
 have N:∀b,FP n ad b->g 0 b=none/\∃u,G b=some u/\soft u:=λb ⟨t,i,j,e⟩=>by
  subst e;obtain⟨_,I,_,u,y,J⟩:=w t i j;exact⟨Classical.byContradiction λz=>v 0 _ _ (V' _) z I,u,y,Y t i u (r t i j) J⟩
 refine⟨⟨λt i t' O j P e=>?_,λt i j z=>?_,λt i j=>?_⟩,N,λt x R=>?_⟩
 ·obtain⟨a1,a2,a3,_⟩:=w t i j;obtain⟨S,T,U,_⟩:=w t' O P;rw[<-e]at S T U;have es:k t=k t':=by
   rcases Nat.lt_trichotomy (k t) (k t') with l|l|l
   ·exact absurd T (v _ _ _ l a3)
   ·exact l
   ·exact absurd a2 (v _ _ _ l U)
  have:=K t t' (r t i j) (r t' O P) es;subst this;have h:=(q t (r t i j)).1;exact⟨rfl,(List.getElem?_inj (by rw[h.len];calc j) h.nd).mp (a1.trans S.symm)⟩
 ·exact v 0 _ _ (V' _) (C _ z).1 (w t i j).2.1
 ·obtain⟨_,_,_,u,y,J⟩:=w t i j;exact⟨u,y,Z (λb z=>z.elim (λh=>(C b h).2) λh=>(N b h).2) L t i u (r t i j) j y J⟩
 ·obtain⟨h,_,g⟩:=q t R;have:=L _ _ (g x).1 (g x).2 (λt' h' e m=>by
   have:=K t' t h' R e;subst this;calc(h.new _ m).2 rfl)
  calc⟨λz=>this (.inl z),λz=>this (.inr z),?_⟩;unfold fW;apply List.ext_getElem (by simp[h.len]);intro j k g;have i:j<n t:=by simpa using g
  simp only[List.getElem_map,List.getElem_range];congr 1;calc(List.getElem_eq_iff _).mpr (w t j i).1
theorem Lu{CN:Addr}{e:List V}{c:List Addr}{d f:List V}(h:mW CN H bq ms wv e)(h':mW CN H bq c d f):e=f:=by
 obtain⟨d,e,f,i,c,j,k,g⟩:=h;obtain⟨d,e,f,i,a,j,k,b⟩:=h';rw[c]at a
 cases a;rw[g]at b
 cases b;rfl
theorem wC{C c:Addr}{p:Str×V}{l:List (Str×V)}(h:some (HO.ins C a [])=some (HO.ins c b (p::l))):False:=by cases h
abbrev HK:Stmt:=(bW (top 53)).getD 0 (.Pass ⟨0,0,0,0⟩)
inductive HL(C CN CR:Addr)(vs:List V)(H:Hp)(Q:VK):Prop
 |mk (F:Addr->Prop) (x dx bq:Addr) (nt:NT) (ls:List (Int×Int)) (ms:List Addr) (wv lv:List V) (h0:vs=[.ref x,.ref bq]) (h1:H x=some (.ins CR dx [])) (h2:wz C CN H bq nt) (h3:mW CN H bq ms wv lv) (h4:eS H 1 lv (ls.map qI)) (h5:ls.length<=20) (h6:∀l∈ls,0<=l.1/\l.1<nt.ws.length) (ma:FS F H) (h7:∀ad H',(∀b o,b≠x->H b=some o->H' b=some o)->(∀b,FP nt.n ad b->H b=none)->bX C CN CR F H' x bq nt (RS.begin nt ls) ad->Q .bH H'):HL C CN CR vs H Q
def Cq(C CN CR:Addr):Sp:=λvs H Q _=>HL C CN CR vs H Q
theorem U9(D:Dz K mg "Run" CR "Run.__init__" HK ["self","net"])(T:Tx K mg C CN CR F FD)(dZ:cj P w K mg base C "first_state" 1 ["self"] (Hd C))(jf:cj P w K mg base CN "letters" 1 ["self"] (qz CN))(bP:cj P w K mg base CN "machines" 1 ["self"] (g9 CN))(de:cj P w K mg base CN "ways" 1 ["self"] (oE CN))(cU:cj P w K mg base CR "put_letter" 1 ["self","way","said","sender"] (sW C CN CR)):xO P w K mg base "Run" CR 2 ["self","net"] (Cq C CN CR):=by
 have sc:aB ["self","net","way","said"] ["self","net"] (av HK):=by walk_at "s"
 symm;obtain⟨FF,x,y,bq,k,ls,ms0,wv0,lv,rfl,S,hn,hf0,JL,pL,qU,ma,q⟩:=h;have hu:=hr.units;refine⟨_,(ag (fE (aq 0) (aq 1) (gy rfl))
  (ag (fE (aq 0) (bG aa) (gy rfl))
  (ag (fE (aq 0) (cX (N':=["machine"]) (ix:=[none]) (bM (fc bP T.cQ hr (aq 1))) (λ_ _ _ _=>(aQ (i:=0) (show(["machine"]:List Str).Nodup by decide +kernel) rfl Sort)) mG (λ_ _ _ _=>(bG (af (fc dZ T.cJ hr (aq 0)) aa)))) rfl)
  (ag (fE (aq 0) (cX (N':=["machine"]) (ix:=[none]) (bM (fc bP T.cQ hr (aq 1))) (λ_ _ _ _=>(aQ (i:=0) (show(["machine"]:List Str).Nodup by decide +kernel) rfl Sort)) mG (λ_ _ _ _=>(bG (af ai aa)))) rfl)
  (ag (fE (aq 0) (cX (N':=["machine"]) (ix:=[none]) (bM (fc bP T.cQ hr (aq 1))) (λ_ _ _ _=>(aQ (i:=0) (show(["machine"]:List Str).Nodup by decide +kernel) rfl Sort)) mG (λ_ _ _ _=>(bG aa))) rfl)
  (ag (fE (aq 0) (cX (N':=["way"]) (ix:=[none]) (bM (fc de T.cQ hr (aq 1))) (λ_ _ _ _=>(aQ (i:=0) (show(["way"]:List Str).Nodup by decide +kernel) rfl Sort)) mG (λ_ _ _ _=>(bG aa))) rfl)
  (ag (fE (aq 0) (cX (N':=["way"]) (ix:=[none]) (bM (fc de T.cQ hr (aq 1))) (λ_ _ _ _=>(aQ (i:=0) (show(["way"]:List Str).Nodup by decide +kernel) rfl Sort)) mG (λ_ _ _ _=>(bG aa))) rfl)
  (ag (fE (aq 0) (cX (N':=["way"]) (ix:=[none]) (bM (fc de T.cQ hr (aq 1))) (λ_ _ _ _=>(aQ (i:=0) (show(["way"]:List Str).Nodup by decide +kernel) rfl Sort)) mG (λ_ _ _ _=>(bG aa))) rfl)
  (ak (dj PassesOwn.never rfl (bM (fc jf T.cQ hr (aq 1))) (eQ (i:=2) (j:=3) rfl sc.nd rfl rfl Sort Sort)
  (ak (bI (dS cU T.aO hr (aq 0) (af (aq 2) (af (aq 3) (af hX aa)))))))))))))))),?_⟩
 have aU:=hn.ok;nofun;obtain⟨⟨ms,wv,N,hf,mr,Au,Lo⟩,_⟩:=id hn;obtain⟨Z,a1,b1,c1,I,g2,g3,g4⟩:=id hf;have O7:N=lv:=Lu hf hf0;subst O7;ac_rfl;have Hf:(ms.map V.ref).length<=5:=by simp[mr];exact aU.My
 have kr:wv.length=k.ws.length:=by simpa using Lo.1
 have pK:wv.length<=10:=by rw[kr];exact aU.zX
 have O:bq≠x:=λz=>by rw[z,S]at I;exact wC I
 have M1:a1≠x:=uA g2 S (λz=>nomatch z);have M3:b1≠x:=uA g3 S (λz=>nomatch z);have M4:c1≠x:=uA g4 S (λz=>nomatch z);left;refine qF x CR y _ rfl S T.aO T.cK ∅ ?_;have hxa:upd H x (.ins CR y (bf "own_net" (.ref bq) [])) x=some (.ins CR y (bf "own_net" (.ref bq) [])):=ab;have nxa:∀b o,b≠x->H b=some o->upd H x (.ins CR y (bf "own_net" (.ref bq) [])) b=some o:=λb o n e=>by rw[ax n];exact e
 generalize hGa:upd H x (.ins CR y (bf "own_net" (.ref bq) []))=Ga at *;left;refine⟨V' _,λp hp=>?_⟩;have sp0:=au.new (.lst []) hp;have ep0:upd Ga p (.lst []) p=some (.lst []):=ab;generalize hGb:upd Ga p (.lst [])=Gb at *;left;refine qF x CR y _ rfl (sp0 _ _ hxa) T.aO T.cS (bR (n:=999) ∅) ?_;have hx0:upd Gb x (.ins CR y (bf "picks_done" (.ref p) (bf "own_net" (.ref bq) []))) x=some (.ins CR y (bf "picks_done" (.ref p) (bf "own_net" (.ref bq) []))):=ab;have ka:∀b o,b≠x->Ga b=some o->upd Gb x (.ins CR y (bf "picks_done" (.ref p) (bf "own_net" (.ref bq) []))) b=some o:=λb o n e=>by rw[ax n];exact sp0 _ _ e
 have npx:p≠x:=Ne.symm (ao hxa hp);have ep:upd Gb x (.ins CR y (bf "picks_done" (.ref p) (bf "own_net" (.ref bq) []))) p=some (.lst []):=by rw[ax npx];exact ep0
 generalize RJ:upd Gb x (.ins CR y (bf "picks_done" (.ref p) (bf "own_net" (.ref bq) [])))=G0 at *;have M5:∀b o,b≠x->H b=some o->G0 b=some o:=λb o n e=>ka b o n (nxa b o n e);left;refine bE ?_;left;refine eX (M5 _ _ O I) (eB ⋯ ⋯ ⋯) ?_;refine fK bq ms wv N rfl ⟨Z,a1,b1,c1,M5 _ _ O I,M5 _ _ M1 g2,M5 _ _ M3 g3,M5 _ _ M4 g4⟩ (λXw aag=>?_);have Qq:=au.new (.lst (ms.map V.ref)) aag;have Lv:upd G0 Xw (.lst (ms.map V.ref)) Xw=some (.lst (ms.map V.ref)):=ab;generalize afQ:upd G0 Xw (.lst (ms.map V.ref))=Va at *;left;refine .inl ⟨⟨_,aN.of Lv⟩,λW Ez=>?_⟩;refine bb (J:=tU K Xw) (n:=(ms.map V.ref).length) (λi ys H'=>∃as:List Addr,ys=as.map V.ref/\au Va H'/\tj Va H' W as i (λj H' vs=>∃v,vs=[v]/\HT H' 2 v (xQ (k.ms.getD j default).ns (k.ms.getD j default).row))) (K' (small ())) ⟨[],rfl,au.new _ Ez,tj.nil⟩ ?_ ?_ ?_ ?_
 ·rintro i ys H' hi ⟨_,_,s3,_⟩;exact⟨_,(ms.map V.ref)[i],aN.of (s3 _ _ Lv),cN hi⟩
 ·rintro ys H' ⟨_,_,s3,_⟩;exact⟨_,aN.of (s3 _ _ Lv),E' _⟩
 ·intro i ys H' hi l hl gH xx H4 gI;nofun;obtain⟨as,rfl,s3,hL⟩:=gH;obtain⟨rfl,hy⟩:=gI;ac_rfl;have ex:=hy _ (aN.of (s3 _ _ Lv));walk_at "xf";left
  try rw[if_pos trivial]
  have him:i<ms.length:=by simpa using hi
  have exm:xx=.ref ms[i]:=by
   rw[List.getElem?_map,cN him]at ex
   cases ex;rfl
  nofun;subst exm;have Lw:i<k.ms.length:=by lia
  have nmx:ms[i]≠x:=λz=>by
   obtain⟨d1,s1,d2,X,_⟩:=Au i ms[i] _ (cN him) (aS (d:=default) Lw);rw[z,S]at X;exact wC X
  have Vb:RA C H4 ms[i] (k.ms.getD i default):=by
   obtain⟨d1,s1,d2,X,w2,w3⟩:=Au i ms[i] _ (cN him) (aS (d:=default) Lw);have tt:cg H H4:=λb xs e=>s3 _ _ (Qq _ _ (M5 b _ (λz=>by rw[z,S]at e;cases e) e));exact⟨d1,s1,d2,s3 _ _ (Qq _ _ (M5 _ _ nmx X)),w2.aK tt,w3.aK tt⟩
  obtain⟨d1,s1,d2,X,w2,w3⟩:=id Vb;ac_rfl;calc mth X (BX ⋯ ⋯ ⋯) ?_;calc⟨ms[i],_,_,_,_,rfl,Vb,λst uC=>?_⟩;left;calc⟨K' (small nofun),λp hp=>?_⟩;have sN:=au.new (.lst [st]) hp;have nD:p≠W:=Ne.symm (ao l hp);refine bT (sN _ _ l) hl hi (K' (small ())) ⟨as++[p],nofun,λb o e=>?_,?_⟩
  ·rw[ax (ao e Ez)];exact sN _ _ (s3 _ _ e)
  ·refine hL.snoc s3 (by rw[l];simp) hp (vs:=[st]) ?_ ⟨st,rfl,uC.aK (λb xs e=>by rw[ax (λz=>by rw[z,l] at e;cases e)];calc sN _ _ e)⟩ (λb o nb e=>?_) (λj vs ⟨v,e,h⟩=>⟨v,e,h.aK (λb xs e=>by rw[ax (λz=>by rw[z,l] at e;cases e)];calc sN _ _ e)⟩)
   ·rw[ax nD];exact ab
   ·rw[ax nb];exact sN _ _ e
 intro ys H1 l hl mV;obtain⟨A1,rfl,RK,Xx⟩:=mV;have Vc:=RK _ _ (Qq _ _ hx0);left;refine qF x CR y _ rfl Vc T.aO T.b8 (bR (n:=999) (bR (n:=998) ∅)) ?_;obtain⟨G1,EB,qx,Xy,Vd,aai⟩:=vj (bf "states_had" (.ref W) (bf "picks_done" (.ref p) (bf "own_net" (.ref bq) []))) RK Vc;rw[EB];have Ve:=Vd _ _ l;clear EB;have kg1:∀b o,b≠x->G0 b=some o->G1 b=some o:=λb o n e=>Xy b o n (Qq _ _ e);have RL:∀b o,b≠x->H b=some o->G1 b=some o:=λb o n e=>kg1 b o n (M5 b o n e);have fD1:Va W=none:=Ez;clear l;left;refine bE ?_;left;refine eX (RL _ _ O I) (eB ⋯ ⋯ ⋯) ?_;refine fK bq ms wv N rfl ⟨Z,a1,b1,c1,RL _ _ O I,RL _ _ M1 g2,RL _ _ M3 g3,RL _ _ M4 g4⟩ (λlm2 aal=>?_);have RM:=au.new (.lst (ms.map V.ref)) aal;have Vf:upd G1 lm2 (.lst (ms.map V.ref)) lm2=some (.lst (ms.map V.ref)):=ab;generalize afT:upd G1 lm2 (.lst (ms.map V.ref))=Gd2 at *;left;refine .inl ⟨⟨_,aN.of Vf⟩,λD2 D9=>?_⟩;refine k7 (vs:=[V.int 0]) Vf D9 () (λ_=>Ext.set (Ext.refl _) rfl) (λ_ _ _ r=>And.intro ∅ r) ?_;intro A2 H2 l Qr Xz;have Vg:=Qr _ _ (RM _ _ qx);left;refine qF x CR y _ rfl Vg T.aO T.dO (bR (n:=999) (bR (n:=998) (bR (n:=997) ∅))) ?_;obtain⟨G2,wY,DW,RN,Vh,afU⟩:=vj (bf "words_had" (.ref D2) (bf "states_had" (.ref W) (bf "picks_done" (.ref p) (bf "own_net" (.ref bq) [])))) Qr Vg;rw[wY];have RO:=Vh _ _ l;clear wY;have kg2:∀b o,b≠x->G1 b=some o->G2 b=some o:=λb o n e=>RN b o n (RM _ _ e);have RP:∀b o,b≠x->H b=some o->G2 b=some o:=λb o n e=>kg2 b o n (RL b o n e);have Vi:Gd2 D2=none:=D9;clear l;left;refine bE ?_;left;refine eX (RP _ _ O I) (eB ⋯ ⋯ ⋯) ?_;refine fK bq ms wv N rfl ⟨Z,a1,b1,c1,RP _ _ O I,RP _ _ M1 g2,RP _ _ M3 g3,RP _ _ M4 g4⟩ (λlm3 aao=>?_);have RQ:=au.new (.lst (ms.map V.ref)) aao;have Vj:upd G2 lm3 (.lst (ms.map V.ref)) lm3=some (.lst (ms.map V.ref)):=ab;generalize afV:upd G2 lm3 (.lst (ms.map V.ref))=Gd3 at *;left;refine .inl ⟨⟨_,aN.of Vj⟩,λD3 yG=>?_⟩;refine k7 (vs:=[]) Vj yG () (λ_=>Ext.set (Ext.refl _) rfl) (λ_ _ _ r=>And.intro ∅ r) ?_;intro A3 H3 l Qs XA;have Vk:=Qs _ _ (RQ _ _ DW);left;refine qF x CR y _ rfl Vk T.aO T.cA (bR (n:=999) (bR (n:=998) (bR (n:=997) (bR (n:=996) ∅)))) ?_;obtain⟨G3,JF,JE,RT,Vl,afW⟩:=vj (bf "words_said" (.ref D3) (bf "words_had" (.ref D2) (bf "states_had" (.ref W) (bf "picks_done" (.ref p) (bf "own_net" (.ref bq) []))))) Qs Vk;rw[JF];have RU:=Vl _ _ l;clear JF;have kg3:∀b o,b≠x->G2 b=some o->G3 b=some o:=λb o n e=>RT b o n (RQ _ _ e);have RV:∀b o,b≠x->H b=some o->G3 b=some o:=λb o n e=>kg3 b o n (RP b o n e);have Vm:Gd3 D3=none:=yG;clear l;left;refine bE ?_;left;refine eX (RV _ _ O I) (eB ⋯ ⋯ ⋯) ?_;refine fK bq ms wv N rfl ⟨Z,a1,b1,c1,RV _ _ O I,RV _ _ M1 g2,RV _ _ M3 g3,RV _ _ M4 g4⟩ (λlm4 aar=>?_);have RW:=au.new (.lst wv) aar;have Vn:upd G3 lm4 (.lst wv) lm4=some (.lst wv):=ab;generalize afX:upd G3 lm4 (.lst wv)=Gd4 at *;left;refine .inl ⟨⟨_,aN.of Vn⟩,λD4 RX=>?_⟩;refine k7 (vs:=[]) Vn RX () (λ_=>Ext.set (Ext.refl _) rfl) (λ_ _ _ r=>And.intro ∅ r) ?_;intro A4 H4 l M6 XB;have Vo:=M6 _ _ (RW _ _ JE);left;refine qF x CR y _ rfl Vo T.aO T.bO (bR (n:=999) (bR (n:=998) (bR (n:=997) (bR (n:=996) (bR (n:=995) ∅))))) ?_;obtain⟨G4,Xq,PQ,RY,Vp,afY⟩:=vj (bf "letters_say" (.ref D4) (bf "words_said" (.ref D3) (bf "words_had" (.ref D2) (bf "states_had" (.ref W) (bf "picks_done" (.ref p) (bf "own_net" (.ref bq) [])))))) M6 Vo;rw[Xq];have RZ:=Vp _ _ l;clear Xq;have kg4:∀b o,b≠x->G3 b=some o->G4 b=some o:=λb o n e=>RY b o n (RW _ _ e);have R0:∀b o,b≠x->H b=some o->G4 b=some o:=λb o n e=>kg4 b o n (RV b o n e);have fD4:Gd4 D4=none:=RX;clear l;left;refine bE ?_;left;refine eX (R0 _ _ O I) (eB ⋯ ⋯ ⋯) ?_;refine fK bq ms wv N rfl ⟨Z,a1,b1,c1,R0 _ _ O I,R0 _ _ M1 g2,R0 _ _ M3 g3,R0 _ _ M4 g4⟩ (λlm5 aav=>?_);have R1:=au.new (.lst wv) aav;have Vq:upd G4 lm5 (.lst wv) lm5=some (.lst wv):=ab;generalize afZ:upd G4 lm5 (.lst wv)=Gd5 at *;left;refine .inl ⟨⟨_,aN.of Vq⟩,λD5 BS=>?_⟩;refine k7 (vs:=[]) Vq BS () (λ_=>Ext.set (Ext.refl _) rfl) (λ_ _ _ r=>And.intro ∅ r) ?_;intro A5 H5 l M7 XC;have Vr:=M7 _ _ (R1 _ _ PQ);left;refine qF x CR y _ rfl Vr T.aO T.eI (bR (n:=999) (bR (n:=998) (bR (n:=997) (bR (n:=996) (bR (n:=995) (bR (n:=994) ∅)))))) ?_;obtain⟨G5,RB,Ey,R3,Vs,af0⟩:=vj (bf "senders" (.ref D5) (bf "letters_say" (.ref D4) (bf "words_said" (.ref D3) (bf "words_had" (.ref D2) (bf "states_had" (.ref W) (bf "picks_done" (.ref p) (bf "own_net" (.ref bq) []))))))) M7 Vr;rw[RB];have R4:=Vs _ _ l;clear RB;have kg5:∀b o,b≠x->G4 b=some o->G5 b=some o:=λb o n e=>R3 b o n (R1 _ _ e);have R5:∀b o,b≠x->H b=some o->G5 b=some o:=λb o n e=>kg5 b o n (R0 b o n e);have fD5:Gd5 D5=none:=BS;clear l;left;refine bE ?_;left;refine eX (R5 _ _ O I) (eB ⋯ ⋯ ⋯) ?_;refine fK bq ms wv N rfl ⟨Z,a1,b1,c1,R5 _ _ O I,R5 _ _ M1 g2,R5 _ _ M3 g3,R5 _ _ M4 g4⟩ (λlm6 aaz=>?_);have R6:=au.new (.lst wv) aaz;have Vt:upd G5 lm6 (.lst wv) lm6=some (.lst wv):=ab;generalize af1:upd G5 lm6 (.lst wv)=Gd6 at *;left;refine .inl ⟨⟨_,aN.of Vt⟩,λD6 Vu=>?_⟩;refine k7 (vs:=[]) Vt Vu () (λ_=>Ext.set (Ext.refl _) rfl) (λ_ _ _ r=>And.intro ∅ r) ?_;intro A6 H6 l Qt XD;have Vv:=Qt _ _ (R6 _ _ Ey);left;refine qF x CR y _ rfl Vv T.aO T.cL (bR (n:=999) (bR (n:=998) (bR (n:=997) (bR (n:=996) (bR (n:=995) (bR (n:=994) (bR (n:=993) ∅))))))) ?_;obtain⟨U,T,UE,R7,Vw,af2⟩:=vj (bf "workers" (.ref D6) (bf "senders" (.ref D5) (bf "letters_say" (.ref D4) (bf "words_said" (.ref D3) (bf "words_had" (.ref D2) (bf "states_had" (.ref W) (bf "picks_done" (.ref p) (bf "own_net" (.ref bq) [])))))))) Qt Vv;rw[T];have R8:=Vw _ _ l;clear T;have kg6:∀b o,b≠x->G5 b=some o->U b=some o:=λb o n e=>R7 b o n (R6 _ _ e);have L:∀b o,b≠x->H b=some o->U b=some o:=λb o n e=>kg6 b o n (R5 b o n e);have fD6:Gd6 D6=none:=Vu;clear l;have g:∀(G T:Hp),(∀b o,b≠x->G b=some o->T b=some o)->(∃fs,G x=some (.ins CR y fs))->(∀b vs,G b=some (.lst vs)->T b=some (.lst vs))/\cg G T:=λG T h ⟨fs,e⟩=>⟨λb vs M=>h b _ (λz=>by rw[z,e]at M;cases M) M,λb vs M=>h b _ (λz=>by rw[z,e]at M;cases M) M⟩
 have Lx:=kg6;have M8:∀b o,b≠x->G4 b=some o->U b=some o:=λb o n e=>Lx b o n (kg5 b o n e);have M9:∀b o,b≠x->G3 b=some o->U b=some o:=λb o n e=>M8 b o n (kg4 b o n e);have Qu:∀b o,b≠x->G2 b=some o->U b=some o:=λb o n e=>M9 b o n (kg3 b o n e);have Vx:∀b o,b≠x->G1 b=some o->U b=some o:=λb o n e=>Qu b o n (kg2 b o n e);have kc0:∀b o,b≠x->G0 b=some o->U b=some o:=λb o n e=>Vx b o n (kg1 b o n e);have Qv:tj Va G1 W A1 (ms.map V.ref).length (λj H' vs=>∃v,vs=[v]/\HT H' 2 v (xQ (k.ms.getD j default).ns (k.ms.getD j default).row)):=Xx.keep Vd (λj vs ⟨v,e,h⟩=>⟨v,e,h.aK aai⟩);have Qw:=Qv.keep (g _ _ Vx ⟨_,qx⟩).1 (λj vs ⟨v,e,h⟩=>⟨v,e,h.aK (g _ _ Vx ⟨_,qx⟩).2⟩);have Na:=(g _ _ Vx ⟨_,qx⟩).1 _ _ Ve;have Qx:tj Gd2 G2 D2 A2 (ms.map V.ref).length (λ_ _ vs=>vs=[V.int 0]):=Xz.keep Vh (λj vs e=>e);have Qy:=Qx.keep (g _ _ Qu ⟨_,DW⟩).1 (λj vs e=>e);have Nb:=(g _ _ Qu ⟨_,DW⟩).1 _ _ RO;have Qz:tj Gd3 G3 D3 A3 (ms.map V.ref).length (λ_ _ vs=>vs=[]):=XA.keep Vl (λj vs e=>e);have QA:=Qz.keep (g _ _ M9 ⟨_,JE⟩).1 (λj vs e=>e);have Nc:=(g _ _ M9 ⟨_,JE⟩).1 _ _ RU;have QB:tj Gd4 G4 D4 A4 wv.length (λ_ _ vs=>vs=[]):=XB.keep Vp (λj vs e=>e);have QC:=QB.keep (g _ _ M8 ⟨_,PQ⟩).1 (λj vs e=>e);have Nd:=(g _ _ M8 ⟨_,PQ⟩).1 _ _ RZ;have QE:tj Gd5 G5 D5 A5 wv.length (λ_ _ vs=>vs=[]):=XC.keep Vs (λj vs e=>e);have wD:=QE.keep (g _ _ Lx ⟨_,Ey⟩).1 (λj vs e=>e);have vm:=(g _ _ Lx ⟨_,Ey⟩).1 _ _ R4;have Ly:tj Gd6 U D6 A6 wv.length (λ_ _ vs=>vs=[]):=XD.keep Vw (λj vs e=>e);have Vy:=(g _ _ kc0 ⟨_,hx0⟩).1 _ _ ep;have l:(ms.map V.ref).length=k.ms.length:=by simp[mr]
 rw[l]at Qw;rw[l]at Qy;rw[l]at QA;rw[kr]at QC;rw[kr]at wD;rw[kr]at Ly;obtain⟨ad,Qo⟩:∃ad:Nat->Nat->Addr,∀t i,ad t i=([[p],A1,A2,A3,A4,A5,A6].getD t []).getD i 0:=⟨_,λ_ _=>rfl⟩
 have pz:∀{A B:Hp},(∀b o,b≠x->A b=some o->B b=some o)->∀{o},B x=some o->∀b,A b≠none->B b≠none:=λ{A B} h {o} e b hb=>by
  by_cases z:b=x
  ·rw[z,e];exact λz=>nomatch z
  ·cases e1:A b with
   |none=>calc absurd e1 hb
   |some u=>rw[h b u z e1];exact λz=>nomatch z
 have Y:∀{A:Hp} {b:Addr} {o:HO},A b=some o->A b≠none:=λe z=>by rw[e]at z;cases z
 have nFx:∀b,FF b->b≠x:=λb h z=>by
  obtain⟨o,e,so⟩:=ma b h;rw[z,S]at e;cases e;exact so
 obtain⟨cn,M0,hDo⟩:=Cp (F:=FF) (G:=U) (n:=k.n) (c:=(RS.new k).ct) (λt=>[Ga,Va,Gd2,Gd3,Gd4,Gd5,Gd6].getD t U) (λt=>t) _ (λt=>[x,W,D2,D3,D4,D5,D6].getD t x) (λt=>[λ_ _ u=>u=.lst [],λj H u=>∃vs,u=.lst vs/\∃v,vs=[v]/\HT H 2 v (xQ (k.ms.getD j default).ns (k.ms.getD j default).row),λ_ _ u=>∃vs,u=.lst vs/\vs=[V.int 0]].getD t λ_ _ u=>∃vs,u=.lst vs/\vs=[]) Qo (λ_=>rfl) (λ_ _ _ _ h=>h)
  (λt=>match t with
   |0=>pz (λb o n e=>Qq _ _ (ka b o n e)) (Qq _ _ hx0)
   |1=>pz (λb o n e=>RM _ _ (Xy b o n e)) (RM _ _ qx)
   |2=>pz (λb o n e=>RQ _ _ (RN b o n e)) (RQ _ _ DW)
   |3=>pz (λb o n e=>RW _ _ (RT b o n e)) (RW _ _ JE)
   |4=>pz (λb o n e=>R1 _ _ (RY b o n e)) (R1 _ _ PQ)
   |5=>pz (λb o n e=>R6 _ _ (R3 b o n e)) (R6 _ _ Ey)
   |6=>pz R7 UE
   | (t + 7)=>λb h=>h)
  (λb h=>by
   obtain⟨o,e,so⟩:=ma b h;calc⟨Y (nxa b o (nFx b h) e),o,L b o (nFx b h) e,so⟩)
  (λt ht=>match t,ht with
   | 0,_=>⟨⟨rfl,nofun,λa m=>by rw[List.mem_singleton.mp m];exact⟨hp,npx⟩,λj a e=>by cases j with
    |zero=>cases e;calc⟨_,Vy,rfl⟩
    | succ j=>cases e⟩,λa m=>by rw[List.mem_singleton.mp m];calc Y (Qq _ _ ep),λh=>absurd h ∅⟩
   |1,_=>⟨Qw.o,Qv.some RM,λ_=>⟨fD1,Y (RM _ _ Ve)⟩⟩
   |2,_=>⟨Qy.o,Qx.some RQ,λ_=>⟨Vi,Y (RQ _ _ RO)⟩⟩
   |3,_=>⟨QA.o,Qz.some RW,λ_=>⟨Vm,Y (RW _ _ RU)⟩⟩
   |4,_=>⟨QC.o,QB.some R1,λ_=>⟨fD4,Y (R1 _ _ RZ)⟩⟩
   |5,_=>⟨wD.o,QE.some R6,λ_=>⟨fD5,Y (R6 _ _ R4)⟩⟩
   |6,_=>⟨Ly.o,Ly.some (au.refl _),λ_=>⟨fD6,Y R8⟩⟩
   | (t + 7),h=>absurd h ())
  (λt i u ht h=>by
   match t,ht,h with
   |0,_,h=>cases h;trivial
   |1,_,⟨_,e,_⟩|2,_,⟨_,e,_⟩|3,_,⟨_,e,_⟩|4,_,⟨_,e,_⟩|5,_,⟨_,e,_⟩|6,_,⟨_,e,_⟩=>cases e;trivial
   | (t + 7),h,_=>calc absurd h ())
  (λhz _ t i u ht hi e h=>by
   match t,ht,h with
   |0,_,h=>cases h;calc(ei.nil:ei _ 4 [] [])
   |1,_,⟨_,e,v,M,hv⟩=>cases e;cases M;calc(ei.one ((HI hz hv).mono ∅):ei _ 4 [v] [_])
   |2,_,⟨_,e,M⟩=>cases e;cases M;calc(ei.one (.int 0):ei _ 4 [.int 0] [.int 0])
   |3,_,⟨_,e,M⟩|4,_,⟨_,e,M⟩|5,_,⟨_,e,M⟩|6,_,⟨_,e,M⟩=>cases e;cases M;calc(ei.nil:ei _ 4 [] [])
   | (t + 7),h,_=>calc absurd h ())
 have R:∀b,FP k.n ad b->H b=none:=λb hb=>by
  cases j:H b with
  |none=>rfl
  |some o=>
   have e:=(M0 b hb).1;have:b≠x:=λz=>by rw[z]at e;exact Y hxa e
   exact absurd e (Y (nxa b o this j))
 have hR:bX C CN CR FF U x bq k (RS.new k) ad:=by
  refine⟨⟨y,λt=>[x,W,D2,D3,D4,D5,D6].getD t x,?_,λt j l=>?_⟩,cn,?_⟩
  ·rw[UE,EA,Qo];rfl
  ·obtain⟨X,w2,w3⟩:=hDo t j l;calc⟨?_,X,w2⟩;rw[<-w3]
   match t,j,l with
   |1,_,_=>calc Na
   |2,_,_=>calc Nb
   |3,_,_=>calc Nc
   |4,_,_=>calc Nd
   |5,_,_=>calc vm
   |6,_,_=>calc R8
   |(t+7),_,h=>exact absurd h ()
  ·calc⟨⟨ms,wv,N,⟨Z,a1,b1,c1,L _ _ O I,L _ _ M1 g2,L _ _ M3 g3,L _ _ M4 g4⟩,mr,λi m d e1 j=>?_,Lo.aK (g _ _ L ⟨_,S⟩).2⟩,aU⟩;obtain⟨d1,s1,d2,X,w2,w3⟩:=Au i m d e1 j;have l:m≠x:=λz=>by rw[z,S] at X;exact wC X
   exact⟨d1,s1,d2,L _ _ l X,w2.aK (g _ _ L ⟨_,S⟩).2,w3.aK (g _ _ L ⟨_,S⟩).2⟩
 have aaE:=JL.aK (g _ _ L ⟨_,S⟩).2;clear Qv Qw Qx Qy Qz QA QB QC QE wD Ly Na Nb Nc Nd vm Ve Xx RO Xz RU XA RZ XB R4 XC R8 XD Vy kc0 Vx Qu M9 M8 Lx;left;calc⟨bq,Z,_,rfl,L _ _ O I,eB ⋯ ⋯ ⋯,bq,ms,wv,N,rfl,⟨Z,a1,b1,c1,L _ _ O I,L _ _ M1 g2,L _ _ M3 g3,L _ _ M4 g4⟩,λll q9=>?_⟩;have s7:=au.new (.lst N) q9;have QG:upd U ll (.lst N) ll=some (.lst N):=ab;generalize Xs:upd U ll (.lst N)=G7 at *;have nll:¬FP k.n ad ll:=λz=>by
  obtain⟨_,u,e,_⟩:=M0 ll z;rw[q9]at e;cases e
 have g:=hR.same s7;have Vz:=aaE.aK s7.aM;have VA:N.length=ls.length:=by simpa using Vz.1
 refine .inl ⟨⟨_,aN.of QG⟩,eV (K:=K) (xs:=N) (λi σ H'=>(∃z2 z3,σ=[some (V.ref x),some (V.ref bq),z2,z3])/\Fr (FP k.n ad) G7 H'/\bX C CN CR FF H' x bq k ((RS.new k).ku (ls.take i)) ad) ?_ ?_ ?_ ?_⟩
 ·exact⟨⟨_,_,rfl⟩,Fr.refl,g⟩
 ·rintro i σ H' hi ⟨_,fi,_⟩;exact aN.of (fi.at QG nll)
 ·intro i z σ H' hz wq;nofun;obtain⟨⟨z2,z3,rfl⟩,fi,Ay⟩:=wq;have g:i < ls.length:=by rw[<-VA];exact(List.getElem?_eq_some_iff.mp hz).1
  have j:ls[i]?=some ls[i]:=cN g;have Ql:=(Vz.2 i z (qI ls[i]) hz (by rw[List.getElem?_map,j];rfl)).aK fi.aM;have HM:=qU _ (aab g);have Ls:(RS.new k).ku (ls.take (i+1))=((RS.new k).ku (ls.take i)).put ls[i].1.toNat ls[i].2 none:=by
   rw[List.take_succ,j];exact pU _
  generalize ls[i]=p at *;obtain⟨pj,px⟩:=p;obtain⟨tz,u1,u2,kz,rfl,Et,y1,y2⟩:=dA Ql;obtain rfl:=y1.cE;obtain rfl:=y2.cE;ac_rfl;calc tP (bL.of Et) ?_;left;obtain⟨j,l,g,t⟩:=Ay.ins;calc eX g (eL ⋯) ?_;have j:((pj.toNat:Nat):Int)=pj:=aaG HM.1;refine⟨FF,x,bq,k,_,ad,pj.toNat,px,.bH,none,by rw[j],Ay,λb h=>by
   obtain⟨o,e,so⟩:=ma b h;calc⟨o,fi.at (s7 _ _ (L b o (nFx b h) e)) (λz=>by rw[R b z] at e;cases e),so⟩,by have:=HM.2;show pj.toNat < _;simp at this;lia,.bH,(rm (ls.take i) (AD aU)).mono (by simp;lia),λg j k=>?_⟩
  left;calc ig ⟨_,_,rfl,rfl⟩ (fi.trans j) ?_;rw[Ls];exact k
 ·rintro σ H' ⟨_,fi,Ay⟩;rw[VA,List.take_length]at Ay;calc q ad _ (λb o n e=>?_) R Ay;calc fi.at (s7 _ _ (L b o n e)) λz=>?_;rw[R b z]at e;cases e
theorem tq{v:V}(h:HT H 1 v (pairD e)):∃a,v=.ref a/\H a=some (.tup [.int e.1,.int e.2]):=by
 obtain⟨b,g,i,j,rfl,c,d,f⟩:=dA h;obtain rfl:=d.cE;obtain rfl:=f.cE;calc⟨b,rfl,c⟩
structure jN(nt:NT)(r:RS)(cut:List Int):Prop where
 len:cut.length=nt.ms.length
 pos:∀m,m<nt.ms.length->0<=cut.getD m 0
 top:∀m,m<nt.ms.length->cut.getD m 0<((r.mm m).dQ.length:Nat)
def AE:Option (Int×Int)->List Int->Bool
 |none,_=>false
 |some e,cut=>decide (e.2<=cut.getD e.1.toNat 0)
abbrev tw:Stmt:=top 15
def HN(C CN CR:Addr):Sp:=λvs H Q _=>∃(F:Addr->Prop) (x bq:Addr) (nt:NT) (r:RS) (ad:Nat->Nat->Addr) (t:Addr) (cut:List Int),vs=[.ref x,.ref t]/\bX C CN CR F H x bq nt r ad/\H t=some (.tup (cut.map V.int))/\jN nt r cut/\∀H',au H H'->Q (.bl true) H'
theorem HQ(D:cM K mg "is_cut" "is_cut" tw ["run","thing"])(T:Tx K mg C CN CR F FD)(M:Def P w K mg base "is_within" 2 ["thing","low","beyond"] cf)(bP:cj P w K mg base CN "machines" 1 ["self"] (g9 CN))(k9:cj P w K mg base CR "count" 4 ["self","m"] (HC C CN CR))(pV:cj P w K mg base CR "net" 1 ["self"] (Cj C CN CR)):Def P w K mg base "is_cut" 5 ["run","thing"] (HN C CN CR):=by
 have sc:aB ["run","thing"] ["run","thing"] (av tw):=by walk_at "s"
 symm;obtain⟨F,x,bq,g,r,ad,t,cut,rfl,b,k,u,q⟩:=h;have hu:=hr.units;refine⟨_,(ag (aR (PW.pt (pw_or (cp (bu (aW cB rfl T.aZ vz (af (aq 1) (af (cF (v:=.ty "tuple") rfl T.bQ qu rfl) aa))))) (pw_or1 (az (eP hu) (aW aL rfl T.bZ M' (af (aq 1) aa)) (aW aL rfl T.bZ M' (af (fc bP T.cQ hr (fc pV T.aO hr (aq 0))) aa)) (aE _))))) (ak (aD fV)) aH)
  (ak (aD (aW (hV rfl) rfl T.sy Rj (af (cX (N':=["m","c","run"]) (ix:=[none,none,some 0]) (fG rfl T.cu (af (aq 1) aa)) (λ_ _ _ _=>(iP (K:=K) rfl (i:=0) (j:=1) rfl (show(["m","c","run"]:List Str).Nodup by decide +kernel) rfl rfl Sort Sort)) mG (λ_ _ _ _=>(aJ M hr (af (aq 1) (af ai (af (bc c8 (dS k9 T.aO hr (aq 2) (af (aq 0) aa)) ai) aa)))))) aa))))),?_⟩
 nofun;obtain⟨M,o,U,ho⟩:=b.ins;obtain⟨⟨ms,wv,T,L,mr,Au,Lo⟩,aU⟩:=b.Qb;ac_rfl;have h5:=aU.My;have W:=u.len;right;calc cw _ true (.tup k) rfl ?_;rw[if_neg ∅];calc bz _ (.inr ⟨_,bL.of k,rfl⟩) ?_;calc⟨x,M,_,rfl,U,eL ⋯,F,x,bq,g,r,ad,rfl,b,?_⟩;have NZ:=L;obtain⟨M,_,_,_,m,_⟩:=NZ;calc⟨bq,M,_,rfl,m,by rfl,bq,ms,wv,T,rfl,L,λl B=>?_⟩;have N:=au.new (.lst (ms.map V.ref)) B;have X:upd H l (.lst (ms.map V.ref)) l=some (.lst (ms.map V.ref)):=ab;generalize hG:upd H l (.lst (ms.map V.ref))=G at *;calc bz _ (.inl ⟨_,aN.of X,rfl⟩) ?_;rw[if_neg (by simp[W,mr])];have XE:=b.same N;have I:=N _ _ k;clear b U ho k L m X B hG;calc bE ?_;right;calc z8 false _ (Sq.t I) (λD Y=>?_);refine bb (J:=KN false K t) (n:=g.ms.length) (λi ys H'=>au G H'/\ys=(List.replicate i true).map V.bl) (K' (aA ())) ⟨au.new _ Y,rfl⟩ ?_ ?_ ?_ ?_
 ·rintro i ys H' p ⟨a,_⟩;exact⟨_,_,Sq.t (a _ _ I),by rw[List.getElem?_map,aS (d:=0) ()];rfl⟩
 ·rintro ys H' ⟨a,_⟩;exact⟨_,Sq.t (a _ _ I),by simp[W]⟩
 ·intro i ys H' p O B gH xx H4 gI;nofun;obtain⟨a,rfl⟩:=gH;obtain⟨R,JQ,rfl,y⟩:=gI;obtain⟨z,Z,rfl⟩:=y _ (Sq.t (a _ _ I));rw[List.getElem?_map,aS (d:=0) ()] at Z;obtain rfl:=Option.some.inj Z;ac_rfl;have S:=au.new (.tup [.int (i:Nat),.int (cut.getD i 0)]) JQ;have b:upd H' R (.tup [.int (i:Nat),.int (cut.getD i 0)]) R=some (.tup [.int (i:Nat),.int (cut.getD i 0)]):=ab;calc tP (bL.of b) ⟨Ext.set (Ext.set (Ext.refl _) rfl) rfl,?_⟩;have QH:=S _ _ O;have VB:=(XE.same a).same S;have MP:=a.trans S;generalize hGt:upd H' R (.tup [.int (i:Nat),.int (cut.getD i 0)])=G3 at *;right;obtain⟨b,l,k,m⟩:=VB.ins;calc⟨x,b,_,rfl,k,eL ⋯,F,x,bq,g,r,ad,i,rfl,VB,p,?_⟩;have l:=u.pos i p;have b:=u.top i p;calc⟨.int (cut.getD i 0),_,0,_,rfl,.int _,?_⟩;rw[show inR 0 _ (.int (cut.getD i 0))=true by simp only[inR,Bool.and_eq_true,decide_eq_true_eq];calc⟨l,()⟩]
  try rw[if_pos trivial]
  calc bT QH B p (K' (aA ())) ⟨λc o e=>by rw[ax (ao e Y)];calc MP _ _ e,?_⟩;rw[List.replicate_succ',List.map_append];rfl
 rintro ys H1 O yI ⟨a,rfl⟩;calc bz _ (aN.of O) ?_;rw[show(List.replicate g.ms.length true).all id=true by simp[List.all_replicate]];calc q _ (N.trans a)
abbrev ni:Stmt:=top 16
def HR(C CN CR:Addr):Sp:=λvs H Q _=>∃(F:Addr->Prop) (x bq:Addr) (nt:NT) (r:RS) (ad:Nat->Nat->Addr) (t:Addr) (cut:List Int),vs=[.ref x,.ref t]/\bX C CN CR F H x bq nt r ad/\H t=some (.tup (cut.map V.int))/\jN nt r cut/\∀H',au H H'->Q .bH H'
theorem AF(D:cM K mg "need_cut" "need_cut" ni ["run","cut"])(T:Tx K mg C CN CR F FD)(e:Def P w K mg base "is_cut" 5 ["run","thing"] (HN C CN CR)):Def P w K mg base "need_cut" 6 ["run","cut"] (HR C CN CR):=by
 have sc:aB ["run","cut"] ["run","cut"] (av ni):=by walk_at "s"
 symm;obtain⟨F,x,bq,a,r,ad,t,cut,rfl,b,c,d,q⟩:=h;have g:=hr.units;calc⟨_,(ak (aR (cp (bu (aJ e hr (af (aq 0) (af (aq 1) aa))))) (ak cV) aH)),?_⟩;right;calc⟨F,x,bq,a,r,ad,t,cut,rfl,b,c,d,λH1 g=>?_⟩;right;calc q H1 g
abbrev lg:Stmt:=top 17
def HS:Sp:=λvs H Q _=>∃(v:V) (e:Option (Int×Int)) (t:Addr) (cut:List Int),vs=[v,.ref t]/\HT H 1 v (ml e)/\H t=some (.tup (cut.map V.int))/\(∀p,e=some p->0<=p.1/\p.1<(cut.length:Nat))/\Q (.bl (AE e cut)) H
theorem yJ(D:cM K mg "is_inside" "is_inside" lg ["event","cut"])(T:Tx K mg C CN CR F FD):Def P w K mg base "is_inside" 1 ["event","cut"] HS:=by
 have sc:aB ["event","cut","m","c"] ["event","cut"] (av lg):=by walk_at "s"
 symm;obtain⟨v,e,t,cut,rfl,b,c,g,q⟩:=h;have k:=hr.units;refine⟨_,(ag (aR (az vS (aq 0) hX (aE _)) (ak (aD fV)) aH)
  (ag (eD (aq 0) (eQ (i:=2) (j:=3) rfl sc.nd rfl rfl Sort Sort))
  (ak (aD (lV rM (aq 3) (aj k (aq 1) (aq 2)) (aE _)))))),?_⟩
 cases e with
 |none=>
  have:v=.bH:=by cases(show HT H 1 v .bH from b);rfl
  subst this;right
  try rw[if_pos ∅]
  right;calc q
 |some e=>
  nofun;obtain⟨a,rfl,k⟩:=tq b;obtain⟨l,m⟩:=g e rfl;ac_rfl;right
  try rw[if_neg ∅]
  calc tP (bL.of k) ?_;right;refine di c (show iJ _ e.1=some (.int (cut.getD e.1.toNat 0)) from by
   have:=ay (xs:=cut.map V.int) (j:=e.1.toNat) (v:=.int (cut.getD e.1.toNat 0)) (by rw[List.getElem?_map,aS (d:=0) ()];rfl);rw[show((e.1.toNat:Nat):Int)=e.1 by lia] at this;calc this) ?_
  right;calc q
abbrev lj:Stmt:=top 58
def yK:Sp:=λvs H Q _=>∃p m,vs=[.ref p,.int m]/\eJ H p/\0<m/\m<=4/\∀x v H',Step p H H'->HT H' 1 x (Val.dv v)->v.ok m->Q x H'
theorem yL(D:cM K mg "_law_value" "_law_value" lj ["_law_pot_here","_law_many"])(T:Tx K mg C CN CR F FD)(u:Def P w K mg base "_law_digit" 1 ["_law_pot_here","_law_many"] gD):Def P w K mg base "_law_value" 2 ["_law_pot_here","_law_many"] yK:=by
 have sc:aB ["_law_pot_here","_law_many","_law_kind"] ["_law_pot_here","_law_many"] (av lj):=by walk_at "s"
 symm;obtain⟨p,m,rfl,G,I,J,q⟩:=h;have L:=hr.units;refine⟨_,(ag (aY (i:=2) sc.nd rfl Sort (aJ u hr (af (aq 0) (af ai aa))))
  (ag (aR (az gG (aq 2) ai (aE _)) (ak (aD (bD (af aC (af (aj L (bG (af (bc eN (aJ u hr (af (aq 0) (af ai aa))) ai) (af (bc eN (aJ u hr (af (aq 0) (af (bc eN (bc lZ ai (bc qV ai ai)) ai) aa))) (bc eN (bc qV ai ai) ai)) aa))) (aq 2)) aa))))) aH)
  (ag (aR (az gG (aq 2) ai (aE _)) (ak (aD (bD (af aC (af (aJ u hr (af (aq 0) (af (aq 1) aa))) aa))))) aH)
  (ak (aD (aj L (bG (af (bD (af aC aa)) (af (bD (af aC aa)) (af (bD (af aC aa)) (af (bD (af aC aa)) aa))))) (bc eN (aq 2) ai))))))),?_⟩
 right;calc kN p 8 rfl G ⋯ ⋯ (λd H1 h1 h2 st=>?_);right;split
 ·rename_i j;have j:d < 2:=by simpa using j
  calc kN p 9 rfl st.fC ⋯ ⋯ (λR H2 M J k=>?_);right;calc⟨Aj,PF,dig k.fC Uq Ur λd2 H3 h5 h6 N=>?_⟩;right;calc ig Aj ∅ (λl c=>?_);have y:d=0\/d=1:=by lia
  rcases y with rfl|rfl
  ·exact⟨_,_,.inl (aN.of ab),rfl,∅,λt n=>q _ (.is _) _ ((((st.trans k).trans N).new c).new n) (cH ab (.str _) (.int _)) trivial⟩
  ·exact⟨_,_,.inl (aN.of ab),rfl,∅,λt n=>q _ (.is _) _ ((((st.trans k).trans N).new c).new n) (cH ab (.str _) (.int _)) trivial⟩
 ·rename_i j;have j:¬d < 2:=by simpa using j
  split
  ·refine⟨p,m,rfl,st.fC,I,?_,λR H2 M z k=>?_⟩
   ·have:m=1\/m=2\/m=3\/m=4:=by lia
    rcases this with rfl|rfl|rfl|rfl<;>decide +kernel
   right;exact⟨∅,λt n=>q _ (.number _) _ ((st.trans k).new n) (cH ab (.str _) (.int _)) ⟨M,z⟩⟩
  ·rename_i r;have r:¬d < 4:=by simpa using r
   calc⟨∅,λa S=>⟨∅,λb O=>⟨∅,λe B=>⟨∅,λg v=>⟨∅,λl c=>?_⟩⟩⟩⟩⟩;have x:=((((st.new S (o:=.tup [.str "letter"])).new O (o:=.tup [.str "letter"])).new B (o:=.tup [.str "way"])).new v (o:=.tup [.str "first"])).new c (o:=.lst [.ref a,.ref b,.ref e,.ref g]);have y:d=4\/d=5\/d=6\/d=7:=by lia
   have U:=(au.new (H:=upd H1 a (.tup [.str "letter"])) (.tup [.str "letter"]) O) a _ ab;have W:=(au.new (.tup [.str "way"]) B) _ _ U;have X:=(au.new (.tup [.str "first"]) v) _ _ W;have Y:=(au.new (.lst [.ref a,.ref b,.ref e,.ref g]) c) _ _ X;have Z:=(au.new (H:=upd (upd H1 a (.tup [.str "letter"])) b (.tup [.str "letter"])) (.tup [.str "way"]) B) b _ ab;have k3:=(au.new (.tup [.str "first"]) v) _ _ Z;have k4:=(au.new (.lst [.ref a,.ref b,.ref e,.ref g]) c) _ _ k3;have l3:=(au.new (H:=upd (upd (upd H1 a (.tup [.str "letter"])) b (.tup [.str "letter"])) e (.tup [.str "way"])) (.tup [.str "first"]) v) e _ ab;have l4:=(au.new (.lst [.ref a,.ref b,.ref e,.ref g]) c) _ _ l3;have m4:=(au.new (H:=upd (upd (upd (upd H1 a (.tup [.str "letter"])) b (.tup [.str "letter"])) e (.tup [.str "way"])) g (.tup [.str "first"])) (.lst [.ref a,.ref b,.ref e,.ref g]) c) g _ ab;rcases y with rfl|rfl|rfl|rfl
   ·exact⟨_,_,.inl (aN.of ab),rfl,q _ .mN _ x (rY Y (.str _)) trivial⟩
   ·exact⟨_,_,.inl (aN.of ab),rfl,q _ .mN _ x (rY k4 (.str _)) trivial⟩
   ·exact⟨_,_,.inl (aN.of ab),rfl,q _ .way _ x (rY l4 (.str _)) trivial⟩
   ·calc⟨_,_,.inl (aN.of ab),rfl,q _ .first _ x (rY m4 (.str _)) trivial⟩
theorem aaF{d:Int}(a:0<=d)(h:d<10):d=0\/d=1\/d=2\/d=3\/d=4\/d=5\/d=6\/d=7\/d=8\/d=9:=by
 have:∀n:Fin 10,((n.1:Nat):Int)=0\/((n.1:Nat):Int)=1\/((n.1:Nat):Int)=2\/((n.1:Nat):Int)=3\/((n.1:Nat):Int)=4\/((n.1:Nat):Int)=5\/((n.1:Nat):Int)=6\/((n.1:Nat):Int)=7\/((n.1:Nat):Int)=8\/((n.1:Nat):Int)=9:=by decide
 rw[<-Int.toNat_of_nonneg a];calc this ⟨d.toNat,()⟩
abbrev nj:Stmt:=top 59
theorem QI{H:Hp}{n:Nat}{a:Addr}{u v w z:V}{d d' f g:DV}(e:H a=some (.tup [u,v,w,z]))(h:HT H n u d)(h':HT H n v d')(j:HT H n w f)(k:HT H n z g):HT H (n+1) (.ref a) (.tup [d,d',f,g]):=by
 refine .tup e rfl λi x y b c=>?_
 match i,b,c with
 |0,b,c=>simp at b c;subst b c;calc h
 |1,b,c=>simp at b c;subst b c;calc h'
 |2,b,c=>simp at b c;subst b c;calc j
 |3,b,c=>simp at b c;subst b c;calc k
def yM:Sp:=λvs H Q _=>∃p m,vs=[.ref p,.int m]/\eJ H p/\0<m/\m<=4/\∀x d H',Step p H H'->HT H' 2 x (bx.dv d)->d.ok m->Q x H'
theorem AG(D:cM K mg "_law_deed" "_law_deed" nj ["_law_pot_here","_law_many"])(T:Tx K mg C CN CR F FD)(M:Def P w K mg base "_law_digit" 1 ["_law_pot_here","_law_many"] gD)(I:Def P w K mg base "_law_value" 2 ["_law_pot_here","_law_many"] yK):Def P w K mg base "_law_deed" 3 ["_law_pot_here","_law_many"] yM:=by
 have sc:aB ["_law_pot_here","_law_many","_law_kind"] ["_law_pot_here","_law_many"] (av nj):=by walk_at "s"
 symm;obtain⟨p,m,rfl,W,k,u,q⟩:=h;have N:=hr.units;refine⟨_,(ag (aY (i:=2) sc.nd rfl Sort (aJ M hr (af (aq 0) (af ai aa))))
  (ag (aR (az gG (aq 2) ai (aE _)) (ak (aD (bD (af (aj N (bG (af aC (af aC (af aC aa)))) (aq 2)) (af (aJ M hr (af (aq 0) (af (aq 1) aa))) (af (aJ I hr (af (aq 0) (af (aq 1) aa))) aa)))))) aH)
  (ag (aR (az gG (aq 2) ai (aE _)) (ak (aD (bD (af aC (af (aJ M hr (af (aq 0) (af ai aa))) (af (aJ I hr (af (aq 0) (af (aq 1) aa))) aa)))))) aH)
  (ag (aR (az (ba N) (aq 2) ai (aE _)) (ak (aD (bD (af aC (af (aJ I hr (af (aq 0) (af (aq 1) aa))) aa))))) aH)
  (ag (aR (az (ba N) (aq 2) ai (aE _)) (ak (aD (bD (af aC (af (aJ I hr (af (aq 0) (af (aq 1) aa))) aa))))) aH)
  (ag (aR (az (ba N) (aq 2) ai (aE _)) (ak (aD (bD (af aC aa)))) aH)
  (ak (aD (bD (af aC (af (aJ I hr (af (aq 0) (af (aq 1) aa))) (af (aJ I hr (af (aq 0) (af (aq 1) aa))) (af (bc c8 ai (aJ M hr (af (aq 0) (af ai aa)))) aa))))))))))))),?_⟩
 right;calc kN p 10 rfl W ⋯ ⋯ (λd H1 I M st=>?_);have O:m.natAbs.log2<9000:=by
  have:m=1\/m=2\/m=3\/m=4:=by lia
  rcases this with rfl|rfl|rfl|rfl<;>decide +kernel
 have Z:d=0\/d=1\/d=2\/d=3\/d=4\/d=5\/d=6\/d=7\/d=8\/d=9:=aaF (by assumption) (by assumption);rcases Z with rfl|rfl|rfl|rfl|rfl|rfl|rfl|rfl|rfl|rfl
 ·walk_at "go";refine⟨∅,λl J=>?_⟩;have B:=st.new (o:=.lst [.str "set",.str "add",.str "times"]) J;refine bA ab rfl ?_;refine dig B.fC k O λe L r y x=>?_;have b:=B.trans x;walk_at "go";refine kN p m rfl b.fC k u (λz v G c g j=>?_);walk_at "go";exact⟨∅,λt a=>q _ (.set e v) _ ((b.trans c).new a) (kL ab (.str _) (.int _) (g.aK (au.new _ a).aM)) ⟨r,y,j⟩⟩
 ·walk_at "go";refine⟨∅,λl J=>?_⟩;have B:=st.new (o:=.lst [.str "set",.str "add",.str "times"]) J;refine bA ab rfl ?_;refine dig B.fC k O λe L r y x=>?_;have b:=B.trans x;walk_at "go";refine kN p m rfl b.fC k u (λz v G c g j=>?_);walk_at "go";exact⟨∅,λt a=>q _ (.add e v) _ ((b.trans c).new a) (kL ab (.str _) (.int _) (g.aK (au.new _ a).aM)) ⟨r,y,j⟩⟩
 ·walk_at "go";refine⟨∅,λl J=>?_⟩;have B:=st.new (o:=.lst [.str "set",.str "add",.str "times"]) J;refine bA ab rfl ?_;refine dig B.fC k O λe L r y x=>?_;have b:=B.trans x;walk_at "go";refine kN p m rfl b.fC k u (λz v G c g j=>?_);walk_at "go";exact⟨∅,λt a=>q _ (.times e v) _ ((b.trans c).new a) (kL ab (.str _) (.int _) (g.aK (au.new _ a).aM)) ⟨r,y,j⟩⟩
 ·walk_at "go";refine dig st.fC ∅ ⋯ λe L r y x=>?_;have b:=st.trans x;right;refine kN p m rfl b.fC k u (λz v G c g j=>?_);right;exact⟨∅,λt a=>q _ (.send e v) _ ((b.trans c).new a) (kL ab (.str _) (.int _) (g.aK (au.new _ a).aM)) ⟨r,j⟩⟩
 ·walk_at "go";refine dig st.fC ∅ ⋯ λe L r y x=>?_;have b:=st.trans x;right;refine kN p m rfl b.fC k u (λz v G c g j=>?_);right;exact⟨∅,λt a=>q _ (.send e v) _ ((b.trans c).new a) (kL ab (.str _) (.int _) (g.aK (au.new _ a).aM)) ⟨r,j⟩⟩
 ·walk_at "go";refine dig st.fC ∅ ⋯ λe L r y x=>?_;have b:=st.trans x;right;refine kN p m rfl b.fC k u (λz v G c g j=>?_);right;exact⟨∅,λt a=>q _ (.send e v) _ ((b.trans c).new a) (kL ab (.str _) (.int _) (g.aK (au.new _ a).aM)) ⟨r,j⟩⟩
 ·walk_at "go";refine kN p m rfl st.fC k u (λz v G c g j=>?_);walk_at "go";exact⟨∅,λt a=>q _ (.say v) _ ((st.trans c).new a) (cH ab (.str _) (g.aK (au.new _ a).aM)) j⟩
 ·walk_at "go";refine kN p m rfl st.fC k u (λz v G c g j=>?_);walk_at "go";exact⟨∅,λt a=>q _ (.put v) _ ((st.trans c).new a) (cH ab (.str _) (g.aK (au.new _ a).aM)) j⟩
 ·walk_at "go";exact⟨∅,λt a=>q _ .drop _ (st.new a) (rY (n:=1) ab (.str _)) trivial⟩
 ·walk_at "go";refine kN p m rfl st.fC k u (λz v G c g j=>?_);walk_at "go";have R:=st.trans c;refine kN p m rfl R.fC k u (λvy v2 b X S VC=>?_);have U:=R.trans X;walk_at "go";refine dig U.fC ∅ ⋯ λe b r y Y=>?_;walk_at "go";refine⟨∅,λt a=>q _ (.skip v v2 (1+e)) _ ((U.trans Y).new a) ?_ ⟨j,VC,(),()⟩⟩;have b:=(Y.aM U.fC).trans (au.new (.tup [.str "skip",z,vy,.int (1+e)]) a).aM;exact QI ab (.str _) (g.aK ((X.aM R.fC).trans b)) (S.aK b) (.int _)
abbrev jh:Stmt:=top 60
theorem Step.free{p b:Addr}{H H':Hp}(st:Step p H H')(h:H' b=none):H b=none:=by
 cases e:H b with
 |none=>rfl
 |some o=>
  by_cases a:b=p
  ·subst a;obtain⟨x,c,_⟩:=st.fC;rw[h]at c;cases c
  ·rw[st.rest b o e a]at h;cases h
theorem yN(a:0<m)(h:m<=1000000000000):m.natAbs.log2<9000:=(Nat.log2_lt ()).mpr (aaw (show m.natAbs<=1000000000000 by lia) ⋯)
def mods(d:Int):List V:=[.int 2,.int 3,.int 7,.int 10,.int 97,.int (2+d)]
theorem LC{d k:Int}(b:0<=d)(a:d<10^Int.toNat 12-1)(c:0<=k)(f:k<6):∃z:Int,iJ (mods d) k=some (.int z)/\2<=z/\z<=1000000000000:=by
 have e:(10:Int)^Int.toNat 12=1000000000000:=by decide +kernel
 rw[e]at a;have:k=0\/k=1\/k=2\/k=3\/k=4\/k=5:=by lia
 rcases this with rfl|rfl|rfl|rfl|rfl|rfl
 ·exact⟨_,ay (j:=0) rfl,∅,∅⟩
 ·exact⟨_,ay (j:=1) rfl,∅,∅⟩
 ·exact⟨_,ay (j:=2) rfl,∅,∅⟩
 ·exact⟨_,ay (j:=3) rfl,∅,∅⟩
 ·exact⟨_,ay (j:=4) rfl,∅,∅⟩
 ·calc⟨_,ay (j:=5) rfl,(),()⟩
def yO:Sp:=λvs H Q _=>∃p,vs=[.ref p]/\eJ H p/\∀t a b c xs M ns row d H',Step p H H'->H' t=some (.tup [.int M,.ref a,.ref b,.ref c])->H' a=some (.lst (ns.map V.int))->H' b=some (.lst (row.map V.int))->H' c=some (.lst xs)->eS H' 2 xs (d.map bx.dv)->H a=none->H b=none->H c=none->Good M ns row d->Q (.ref t) H'
theorem uv(D:cM K mg "_law_machine" "_law_machine" jh ["_law_pot_here"])(T:Tx K mg C CN CR F FD)(nk:Def P w K mg base "_law_deed" 3 ["_law_pot_here","_law_many"] yM)(j:Def P w K mg base "_law_digit" 1 ["_law_pot_here","_law_many"] gD):Def P w K mg base "_law_machine" 4 ["_law_pot_here"] yO:=by
 have sc:aB ["_law_pot_here","_law_modulus","_law_many","_law_numbers","_law_row","_law_deeds"] ["_law_pot_here"] (av jh):=by walk_at "s"
 symm;obtain⟨p,rfl,k,q⟩:=h;have l:=hr.units;refine⟨_,(ag (aY (i:=1) sc.nd rfl Sort (aj l (bG (af ai (af ai (af ai (af ai (af ai (af (bc c8 ai (aJ j hr (af (aq 0) (af (bc eN (bc qV ai ai) ai) aa)))) aa))))))) (aJ j hr (af (aq 0) (af ai aa)))))
  (ag (aY (i:=2) sc.nd rfl Sort (bc c8 ai (aJ j hr (af (aq 0) (af ai aa)))))
  (ag (fF (i:=3) sc.nd rfl Sort (N':=["_law_k","_law_pot_here","_law_modulus"]) (ix:=[none,some 0,some 1]) (cT rfl T.eA (af (aq 2) aa)) (λ_ _ _ _=>(aQ (i:=0) (show(["_law_k","_law_pot_here","_law_modulus"]:List Str).Nodup by decide +kernel) rfl Sort)) mG (λ_ _ _ _=>(aJ j hr (af (aq 1) (af (aq 2) aa)))))
  (ag (fF (i:=4) sc.nd rfl Sort (N':=["_law_k","_law_pot_here","_law_modulus"]) (ix:=[none,some 0,some 1]) (cT rfl T.eA (af (aJ j hr (af (aq 0) (af ai aa))) aa)) (λ_ _ _ _=>(aQ (i:=0) (show(["_law_k","_law_pot_here","_law_modulus"]:List Str).Nodup by decide +kernel) rfl Sort)) mG (λ_ _ _ _=>(aJ j hr (af (aq 1) (af (aq 2) aa)))))
  (ag (fF (i:=5) sc.nd rfl Sort (N':=["_law_k","_law_pot_here","_law_many"]) (ix:=[none,some 0,some 2]) (cT rfl T.eA (af (aJ j hr (af (aq 0) (af ai aa))) aa)) (λ_ _ _ _=>(aQ (i:=0) (show(["_law_k","_law_pot_here","_law_many"]:List Str).Nodup by decide +kernel) rfl Sort)) mG (λ_ _ _ _=>(aJ nk hr (af (aq 1) (af (aq 2) aa)))))
  (ak (aD (bD (af (aq 1) (af (aq 3) (af (aq 4) (af (aq 5) aa)))))))))))),?_⟩
 right;calc⟨PD,?_⟩;calc dig k Us PH λT H1 RC Zw DO=>?_;right;calc⟨∅,λl t=>?_⟩;have rC:=DO.new (o:=.lst (mods T)) t;have j:l≠p:=Step.ne DO.fC t;calc dig rC.fC ∅ ⋯ λk H3 l T c=>?_;have k:=rC.trans c;obtain⟨M,eM,DT,pG⟩:=LC RC Zw l T;right;calc bA (c.rest _ _ ab j) eM ?_;right;calc dig k.fC ∅ ⋯ λm H4 hm0 Ex oK=>?_;have N:=k.trans oK;right;calc bE ?_;right;calc ig () () (λD O=>?_);have y:D≠p:=Step.ne N.fC O;refine bb (J:=Dc 0 (1+m).toNat) (n:=(1+m).toNat) (λi ys H'=>∃ns:List Int,ys=ns.map V.int/\ns.length=i/\Step p H4 H'/\(∀z∈ns,0<=z/\z<M)) (K' (aA ())) ⟨[],rfl,rfl,(Step.refl N.fC).new O,λz r=>by simp at r⟩ (λi ys H' a _=>a) (λys H' _=>E' _) ?_ ?_
 ·intro i ys H' a B t gH x H2 gI;nofun;obtain⟨ns,rfl,G,st,hb⟩:=gH;obtain⟨rfl,rfl⟩:=gI;ac_rfl;walk_at "xf";right;rw[if_pos trivial];refine dig st.fC () (yN () pG) λd H3 h3 h4 c=>?_;refine bT (c.rest _ _ B y) t a (K' (aA ())) ⟨ns++[d],nofun,by simp[G],?_,λz r=>?_⟩
  ·exact⟨c.fC.upd (Ne.symm y),λb o e ne=>by rw[ax (ao e O)];calc c.rest _ _ (st.rest _ _ e ne) ne⟩
  ·rcases List.mem_append.mp r with g | g
   ·exact hb z g
   ·simp at g;subst g;exact⟨h3,h4⟩
 intro ys H5 en hl5 mV;obtain⟨ns,rfl,G,T,JI⟩:=mV;have fD:H D=none:=N.free O;have j:=N.trans T;calc bE ?_;right;calc dig j.fC ∅ ⋯ λk O h60 h61 l=>?_;have R:=j.trans l;have en6:=l.rest _ _ en y;right;calc ig () () (λS U=>?_);have W:S≠p:=Step.ne R.fC U;refine bb (J:=Dc 0 k.toNat) (n:=k.toNat) (λi ys H'=>∃ns:List Int,ys=ns.map V.int/\ns.length=i/\Step p O H'/\(∀z∈ns,0<=z/\z<M)) (K' (aA ())) ⟨[],rfl,rfl,(Step.refl R.fC).new U,λz r=>by simp at r⟩ (λi ys H' a _=>a) (λys H' _=>E' _) ?_ ?_
 ·intro i ys H' a B t pE x H2 sL;nofun;obtain⟨ns,rfl,G,st,hb⟩:=pE;obtain⟨rfl,rfl⟩:=sL;ac_rfl;walk_at "xf";right;rw[if_pos trivial];refine dig st.fC () (yN () pG) λd H3 h3 h4 c=>?_;refine bT (c.rest _ _ B W) t a (K' (aA ())) ⟨ns++[d],nofun,by simp[G],?_,λz r=>?_⟩
  ·exact⟨c.fC.upd (Ne.symm W),λb o e ne=>by rw[ax (ao e U)];calc c.rest _ _ (st.rest _ _ e ne) ne⟩
  ·rcases List.mem_append.mp r with g | g
   ·exact hb z g
   ·simp at g;subst g;exact⟨h3,h4⟩
 intro ys H7 er hl7 wq;obtain⟨row,rfl,c,j,PM⟩:=wq;have Vi:H S=none:=R.free U;have k:=R.trans j;have c:=j.rest _ _ en6 y;calc bE ?_;right;calc dig k.fC ∅ ⋯ λl r t N g=>?_;have X:=k.trans g;have en8:=g.rest _ _ c y;have er8:=g.rest _ _ er W;right;calc ig () () (λI Y=>?_);have VG:I≠p:=Step.ne X.fC Y;have Vm:H I=none:=X.free Y;refine bb (J:=Dc 0 l.toNat) (n:=l.toNat) (λi ys H'=>∃u:List bx,eS H' 2 ys (u.map bx.dv)/\u.length=i/\(∀Z∈u,Z.ok (1+m))/\Step p r H') (K' (aA ())) ⟨[],eS.nil,rfl,λZ y8=>by simp at y8,(Step.refl X.fC).new Y⟩ (λi ys H' a _=>a) (λys H' _=>E' _) ?_ ?_
 ·intro i ys H' a B q9 HV x H9 LI;nofun;obtain⟨u,uh,L,QK,v⟩:=HV;obtain⟨rfl,rfl⟩:=LI;ac_rfl;walk_at "xf";right;rw[if_pos trivial];refine⟨p,1 + m,rfl,v.fC,(),(),λg dd c LJ Ng VH=>?_⟩;have VI:=LJ.rest _ _ B VG;have t10:cg c (upd c I (.lst (ys++[g]))):=(cg.refl _).upd λc e=>by rw[VI] at e;cases e
  refine bT VI q9 a (K' (aA ())) ⟨u++[dd],?_,by simp[L],?_,?_⟩
  ·rw[List.map_append];exact((uh.aK (LJ.aM v.fC)).snoc Ng).aK t10
  ·intro Z y8;rcases List.mem_append.mp y8 with z | z
   ·exact QK Z z
   ·simp at z;subst z;exact VH
  ·exact⟨LJ.fC.upd (Ne.symm VG),λb o e ne=>by rw[ax (ao e Y)];calc LJ.rest _ _ (v.rest _ _ e ne) ne⟩
 intro ys H9 i a g;obtain⟨u,uh,L,QK,v⟩:=g;have c:=X.trans v;right;calc⟨by show 4<=sizeLine;decide,λt g=>?_⟩;have a:=au.new (.tup [.int M,.ref D,.ref S,.ref I]) g;calc q t D S I ys M ns row u _ (c.new g) ab (a _ _ (v.rest _ _ en8 y)) (a _ _ (v.rest _ _ er8 W)) (a _ _ i) (uh.aK a.aM) fD Vi Vm ⟨DT,pG,(),(),(),JI,PM,(),λd j=>?_⟩;rw[G];have e:(((1+m).toNat:Nat):Int)=1+m:=by lia
 rw[e];calc QK d j
abbrev lu:Stmt:=top 62
inductive HW(vs:List V)(H:Hp)(Q:VK):Prop
 |mk (x:V) (st an ar:Addr) (way said M:Int) (v:Val) (ns row:List Int) (n:Nat) (h0:vs=[x,.ref st,.int way,.int said,.int M]) (h1:HT H n x (Val.dv v)) (h2:H st=some (.tup [.ref an,.ref ar])) (h3:H an=some (.lst (ns.map V.int))) (h4:H ar=some (.lst (row.map V.int))) (h5:v.ok ns.length) (h6:0<M) (h7:row.length<=12) (h8:∀H',au H H'->Q (.int (fI M way said ns row v)) H'):HW vs H Q
def Cs:Sp:=λvs H Q _=>HW vs H Q
theorem yP(D:cM K mg "_law_worth" "_law_worth" lu ["_law_value_here","_law_state","_law_way","_law_said","_law_modulus"])(T:Tx K mg C CN CR F FD):Def P w K mg base "_law_worth" 1 ["_law_value_here","_law_state","_law_way","_law_said","_law_modulus"] Cs:=by
 have sc:aB ["_law_value_here","_law_state","_law_way","_law_said","_law_modulus","_law_worth_here"] ["_law_value_here","_law_state","_law_way","_law_said","_law_modulus"] (av lu):=by walk_at "s"
 symm;obtain⟨x,st,a,z,way,c,M,v,ns,row,n,rfl,g,R,Y,o,S,k,Z,q⟩:=h;have a:=hr.units;refine⟨_,(ag (aY (i:=5) sc.nd rfl Sort (aq 2))
  (ag (aR (az (ba a) (aj a (aq 0) ai) aC (aE _)) (ak (aY (i:=5) sc.nd rfl Sort (aj a (aq 0) ai))) aH)
  (ag (aR (az (ba a) (aj a (aq 0) ai) aC (aE _)) (ak (aY (i:=5) sc.nd rfl Sort (aj a (aj a (aq 1) ai) (aj a (aq 0) ai)))) aH)
  (ag (aR (az (ba a) (aj a (aq 0) ai) aC (aE _)) (ak (aY (i:=5) sc.nd rfl Sort (aq 3))) aH)
  (ag (aR (az (ba a) (aj a (aq 0) ai) aC (aE _)) (ak (aY (i:=5) sc.nd rfl Sort (aj a (bc c8 (cX (N':=["_law_k","_law_state"]) (ix:=[none,some 1]) (cT rfl T.eA (af (aW aL rfl T.bZ M' (af (aj a (aq 1) ai) aa)) aa)) (λ_ _ _ _=>(aQ (i:=0) (show(["_law_k","_law_state"]:List Str).Nodup by decide +kernel) rfl Sort)) mG (λ_ _ _ _=>(dz (K:=K) rfl a (dz (K:=K) rfl a (aq 1) ai) (aq 0)))) (bG (af ai aa))) ai))) aH)
  (ak (aD (bc eO (aq 5) (aq 4))))))))),?_⟩
 left
 cases v with
 |is z=>
  nofun;obtain⟨p,t,w2,u,rfl,y,d,I⟩:=dA g;obtain rfl:=d.cP;obtain rfl:=I.cE;ac_rfl;walk_at "jg";exact⟨k,q H (au.refl H)⟩
 |number i=>
  nofun;obtain⟨p,t,w2,u,rfl,y,d,I⟩:=dA g;obtain rfl:=d.cP;obtain rfl:=I.cE;obtain⟨L,a⟩:=S;obtain⟨j,rfl⟩:=aaj L;ac_rfl;have U:j<ns.length:=by lia
  have a:iJ (ns.map V.int) (j:Int)=some (.int ns[j]):=ay (by rw[List.getElem?_map,cN U];rfl);walk_at "jg";have a:=q H (au.refl H);have N:fI M way c ns row (.number j)=ns[j]%M:=by
   show ns.getD (j:Int).toNat 0%M=_;simp[List.getD_eq_getElem?_getD,cN U]
  rw[N]at a;calc⟨k,a⟩
 |first=>
  nofun;obtain⟨p,t,u,rfl,y,d⟩:=iX g;obtain rfl:=d.cP;ac_rfl;walk_at "jg"
  skip
  walk_at "jg";refine bz _ (.inl ⟨_,aN.of o,rfl⟩) ?_;left;have a:(row.map V.int).length=row.length:=by simp
  rw[a];calc ig () () (λD W=>?_);refine bb (J:=Dc 0 row.length) (n:=row.length) (λi ys H'=>ys=(row.take i).map V.int/\au H H') (K' (aA ())) ⟨rfl,au.new _ W⟩ (λi ys H' l _=>l) (λys H' _=>E' _) ?_ ?_
  ·intro i ys H' l B G gH x H2 gI;nofun;obtain⟨rfl,m⟩:=gH;obtain⟨rfl,rfl⟩:=gI;ac_rfl;walk_at "xf";have a:=m _ _ R;have O:=m _ _ o;walk_at "jg"
   try rw[if_pos trivial]
   calc bA O (show iJ (row.map V.int) (0+(i:Int))=some (.int row[i]) from by rw[Int.zero_add];calc ay (by rw[List.getElem?_map,cN l];rfl)) ?_;calc bT B G l (K' (aA ())) ⟨?_,λb o e=>by rw[ax (ao e W)];calc m _ _ e⟩;rw[List.take_succ,cN l,List.map_append];rfl
  rintro ys H1 B G ⟨rfl,m⟩;rw[List.take_length]at B;walk_at "jg";refine⟨∅,λl G=>?_⟩;have X:=au.new (.lst [.int 0]) G;walk_at "jg";refine .inl ⟨_,_,X _ _ B,ab,K' (aA (by simp;lia)),λi a=>?_⟩;have s3:=au.new (.lst (row.map V.int++[.int 0])) a;have N:iJ (row.map V.int++[.int 0]) 0=some (.int (rX ns row way c .first)):=by
   cases row with
   |nil=>calc ay (j:=0) rfl
   |cons r a=>exact ay (j:=0) rfl
  left;refine bA ab N ?_;walk_at "jg";exact⟨k,q _ (m.trans (X.trans s3))⟩
 |mN=>
  nofun;obtain⟨p,t,u,rfl,y,d⟩:=iX g;obtain rfl:=d.cP;ac_rfl;walk_at "jg";exact⟨k,q _ (au.refl H)⟩
 |way=>
  nofun;obtain⟨p,t,u,rfl,y,d⟩:=iX g;obtain rfl:=d.cP;ac_rfl;walk_at "jg";exact⟨k,q _ (au.refl H)⟩
def Nh(M way said:Int):Nat->List bx->WS->WS
 |_,[],s=>s
 |l+1,_::r,s=>Nh M way said l r s
 |0,d::r,s=>Nh M way said (mD M way said d s).toNat r (km M way said d s)
theorem wF{M way said:Int}:∀(b:List bx) (l:Nat) (s:WS) (f:Nat),b.length<=f->Nh M way said l b s=xR M way said f (b.drop l) s
 | [],l,s,f,_=>by rw[List.drop_nil,BA];cases l<;>rfl
 |d::r,l+1,s,f,h=>by
  show Nh M way said l r s=xR M way said f (r.drop l) s;calc wF r l s f (by simp at h;lia)
 |d::r,0,s,f,h=>by
  obtain⟨a,rfl⟩:∃a,f=a+1:=⟨f-1,by simp at h;lia⟩
  show Nh M way said (mD M way said d s).toNat r (km M way said d s)=xR M way said a (r.drop (mD M way said d s).toNat) (km M way said d s);calc wF r _ _ a (by simp at h;lia)
theorem HX{M way said:Int}{a:List bx}:Nh M way said 0 a ⟨ns,row,[],[]⟩=ou M way said a ns row:=wF a 0 _ _ (E' _)
inductive LL(H:Hp)(mt:Addr)(st:V)(way said M:Int)(ds:List bx)(ns row:List Int)(i:Nat)(σ:St)(H':Hp):Prop
 |mk (an ar gW aw:Addr) (zs:List V) (z9 PV:Option V) (l:Nat) (s:WS) (h0:σ=[some (.ref mt),some st,some (.int way),some (.int said),some (.ref an),some (.ref ar),some (.ref gW),some (.ref aw),some (.int ((l:Nat):Int)),z9,PV]) (h1:au H H') (a1:H an=none) (a2:H ar=none) (a3:H gW=none) (a4:H aw=none) (n1:an≠ar) (n2:an≠gW) (n3:an≠aw) (n4:ar≠gW) (n5:ar≠aw) (n6:gW≠aw) (e1:H' an=some (.lst (s.ns.map V.int))) (e2:H' ar=some (.lst (s.row.map V.int))) (e3:H' gW=some (.lst zs)) (Hw:SL H' zs s.cI) (e5:H' aw=some (.lst (s.words.map V.int))) (JH:s.ns.length=ns.length) (JI:∀z∈s.ns,0<=z/\z<M) (yA:s.row.length<=12) (JJ:s.cI.length<=i) (Xo:s.words.length<=i) (nY:Nh M way said l (ds.drop i) s=ou M way said ds ns row):LL H mt st way said M ds ns row i σ H'
inductive HY(K:W.Frag)(vs:List V)(H:Hp)(Q:VK):Prop
 |mk (mt ln lr ld:Addr) (st:V) (way said M:Int) (xs:List V) (ds:List bx) (ns row:List Int) (h0:vs=[.ref mt,st,.int way,.int said]) (VM:H mt=some (.tup [.int M,.ref ln,.ref lr,.ref ld])) (h1:H ld=some (.lst xs)) (h2:eS H 2 xs (ds.map bx.dv)) (h3:xS K H st ns row) (h5:2<=M) (h6:M<=1000000000000) (h7:∀z∈ns,0<=z/\z<M) (h9:row.length<=12) (RC:ds.length<=24) (Zw:∀d∈ds,d.ok ns.length) (h13:∀x H',au H H'->Res H H' x (ou M way said ds ns row)->Q x H'):HY K vs H Q
theorem QL{xs:List V}:eC xs none (some 12)=xs.take 12:=by
 unfold eC;have a:HT.d9 xs.length 0 none=0:=rfl;rw[a];have b:HT.d9 xs.length xs.length (some 12)=min 12 xs.length:=by
  unfold HT.d9;simp
 rw[b,List.drop_zero,Nat.sub_zero];by_cases h:xs.length<=12
 ·rw[Nat.min_eq_right h,List.take_length,List.take_of_length_le h]
 ·rw[Nat.min_eq_left ()]
theorem VN{xs:List V}:eC xs (some 1) none=xs.tail:=by
 unfold eC;have b:HT.d9 xs.length xs.length none=xs.length:=rfl;rw[b]
 cases xs with
 |nil=>simp
 |cons a r=>
  have b:HT.d9 (a::r).length 0 (some 1)=1:=by
   unfold HT.d9;simp
  rw[b];simp
theorem Ct{α:Type}{l m:List α}{i:Nat}(h:l.length<=i)(h':m.length<=1):(l++m).length<=i+1:=by rw[List.length_append];lia
theorem LM{x:Int}(h:row.length<=12):eC (row.map V.int++[x].map V.int) none (some 12)=(if row.length<12 then row++[x] else row).map V.int:=by
 rw[QL,<-List.map_append,<-List.map_take];split
 ·rw[List.take_of_length_le (by simp;lia)]
 ·rw[List.take_append_of_le_length (),List.take_of_length_le h]
abbrev jZ:Stmt:=top 63
def Cu(K:W.Frag):Sp:=λvs H Q _=>HY K vs H Q
theorem wG(D:cM K mg "_law_worked" "_law_worked" jZ ["_law_machine_here","_law_state","_law_way","_law_said"])(T:Tx K mg C CN CR F FD)(lx:Def P w K mg base "_law_worth" 1 ["_law_value_here","_law_state","_law_way","_law_said","_law_modulus"] Cs):Def P w K mg base "_law_worked" 2 ["_law_machine_here","_law_state","_law_way","_law_said"] (Cu K):=by
 have sc:aB ["_law_machine_here","_law_state","_law_way","_law_said","_law_numbers","_law_row","_law_sent","_law_words","_law_left","_law_deed_here","_law_worths"] ["_law_machine_here","_law_state","_law_way","_law_said"] (av jZ):=by walk_at "s"
 symm;obtain⟨mt,g,lr,ld,st,k,a,M,xs,U,ns,row,rfl,VM,UH,uh,uC,DT,pG,hb,oC,MI,aU,q⟩:=h;have g:=hr.units;refine⟨_,(ag (aY (i:=4) sc.nd rfl Sort (cZ cG rfl T.dX xc (af (aj g (aq 1) ai) aa)))
  (ag (aY (i:=5) sc.nd rfl Sort (cZ cG rfl T.dX xc (af (aj g (aq 1) ai) aa)))
  (ag (aY (i:=6) sc.nd rfl Sort (bG aa))
  (ag (aY (i:=7) sc.nd rfl Sort (bG aa))
  (ag (aY (i:=8) sc.nd rfl Sort ai)
  (ag (dj PassesOwn.never rfl (bM (aj g (aq 0) ai)) (aQ (i:=9) sc.nd rfl Sort)
  (ag (fF (i:=10) sc.nd rfl Sort (N':=["_law_one","_law_way","_law_said","_law_numbers","_law_row","_law_machine_here"]) (ix:=[none,some 2,some 3,some 4,some 5,some 0]) (bM (pv 9)) (λ_ _ _ _=>(aQ (i:=0) (show(["_law_one","_law_way","_law_said","_law_numbers","_law_row","_law_machine_here"]:List Str).Nodup by decide +kernel) rfl Sort)) (λ_ _ _ _=>(iO (bu (aW (uU (K:=K) rfl) rfl T.aZ vz (af (aq 0) (af (cF (v:=.ty "tuple") rfl T.bQ qu rfl) aa)))))) (λ_ _ _ _=>(aJ lx hr (af (aq 0) (af (bD (af (aq 3) (af (aq 4) aa))) (af (aq 1) (af (aq 2) (af (dz (K:=K) rfl g (aq 5) ai) aa))))))))
  (ak (aR (az mM (aq 8) ai (aE _)) (ak (aY (i:=8) sc.nd rfl Sort (bc eN (aq 8) ai))) (ak (aR (az (ba g) (aj g (aq 9) ai) aC (aE _)) (ak (eD (aj g (aq 10) ai) (iV (aq 4) (aj g (aq 9) ai) dU))) (ak (aR (az (ba g) (aj g (aq 9) ai) aC (aE _)) (ak (eD (bc eO (bc c8 (aj g (aq 4) (aj g (aq 9) ai)) (aj g (aq 10) ai)) (aj g (aq 0) ai)) (iV (aq 4) (aj g (aq 9) ai) dU))) (ak (aR (az (ba g) (aj g (aq 9) ai) aC (aE _)) (ak (eD (bc eO (bc lZ (aj g (aq 4) (aj g (aq 9) ai)) (aj g (aq 10) ai)) (aj g (aq 0) ai)) (iV (aq 4) (aj g (aq 9) ai) dU))) (ak (aR (az (ba g) (aj g (aq 9) ai) aC (aE _)) (ak (aY (i:=5) sc.nd rfl Sort (rS (bc c8 (aq 5) (aq 10)) qT (iM ai)))) (ak (aR (az (ba g) (aj g (aq 9) ai) aC (aE _)) (ak (aY (i:=5) sc.nd rfl Sort (rS (aq 5) (iM ai) qT))) (ak (aR (az (ba g) (aj g (aq 9) ai) aC (aE _)) (ak (bI (dy mH qr qt bV (aq 6) (af (bD (af (aj g (aq 9) ai) (af (aj g (aq 10) ai) aa))) aa)))) (ak (aR (az (ba g) (aj g (aq 9) ai) aC (aE _)) (ak (bI (dy mH qr qt bV (aq 7) (af (aj g (aq 10) ai) aa)))) (ak (aR (az gG (aj g (aq 10) ai) (aj g (aq 10) ai) (aE _)) (ak (aY (i:=8) sc.nd rfl Sort (aj g (aq 9) ai))) aH))))))))))))))))))))
  (ak (aD (bD (af (bD (af (cZ bN rfl T.bQ qu (af (aq 4) aa)) (af (cZ bN rfl T.bQ qu (af (aq 5) aa)) aa))) (af (aq 6) (af (aq 7) aa)))))))))))),?_⟩
 obtain⟨sa,sb,UI,rfl,g,T,Zy⟩:=uC;have JG:0<M:=by lia
 left;calc di g rfl ?_;left;calc bz _ T (λB PX=>?_);have s1:=au.new (.lst (ns.map V.int)) PX;left;calc di (s1 _ _ g) rfl ?_;left;have T:aN K (upd H B (.lst (ns.map V.int))) UI (row.map V.int)\/bL K (upd H B (.lst (ns.map V.int))) UI (row.map V.int):=Zy.elim (λz=>.inl (s1.seq z)) (λz=>.inr (s1.Rv z));calc bz _ T (λN Ad=>?_);have s2:=au.new (.lst (row.map V.int)) Ad;left;calc⟨V' _,λG pO=>?_⟩;have m:=au.new (.lst []) pO;left;calc⟨V' _,λI mq=>?_⟩;have s4:=au.new (.lst []) mq;left;have Zz:N≠B:=λz=>by subst z;rw[ab]at Ad;cases Ad
 have ZC:H N=none:=s1.free Ad;have ZD:H G=none:=(s1.trans s2).free pO;have ZE:H I=none:=(s1.trans (s2.trans m)).free mq;have ZF:G≠B:=λz=>by subst z;rw[s2 _ _ ab]at pO;cases pO
 have ZG:G≠N:=λz=>by subst z;rw[ab]at pO;cases pO
 have ZH:I≠B:=λz=>by subst z;rw[m _ _ (s2 _ _ ab)]at mq;cases mq
 have ZI:I≠N:=λz=>by subst z;rw[m _ _ ab]at mq;cases mq
 have ZJ:I≠G:=λz=>by subst z;rw[ab]at mq;cases mq
 have g:=s1.trans (s2.trans (m.trans s4));have exs:xs.length=U.length:=by simpa using uh.1
 refine di (g _ _ VM) (ay (j:=3) rfl) (.inl ⟨⟨_,aN.of (g _ _ UH)⟩,eV (K:=K) (xs:=xs) (LL H mt (.ref sa) k a M U ns row) ?_ ?_ ?_ ?_⟩)
 ·refine⟨B,N,G,I,[],none,none,0,⟨ns,row,[],[]⟩,rfl,g,PX,ZC,ZD,ZE,Ne.symm Zz,Ne.symm ZF,Ne.symm ZH,Ne.symm ZG,Ne.symm ZI,Ne.symm ZJ,s4 _ _ (m _ _ (s2 _ _ ab)),s4 _ _ (m _ _ ab),s4 _ _ ab,⟨rfl,λi z p e=>by simp at e⟩,ab,rfl,hb,oC,E' _,E' _,HX⟩
 ·intro i σ H1 hi gH;obtain⟨B,N,G,I,zs,z9,PV,l,s,rfl,sH,_⟩:=gH;exact aN.of (sH _ _ UH)
 ·intro i x σ H1 VO gI;nofun;obtain⟨B,N,G,I,zs,z9,PV,l,s,rfl,sH,a1,a2,a3,a4,n1,n2,n3,n4,n5,n6,L,X,O,Hw,R,JH,JI,yA,JJ,Xo,Y⟩:=gI;have B1:i < U.length:=by rw[<-exs];exact(List.getElem?_eq_some_iff.mp VO).1
  have q8:=aU U[i] (aab B1);have hx:=(uh.2 i x (bx.dv U[i]) VO (by rw[List.getElem?_map,cN B1];rfl)).aK sH.aM;have RD:U.drop i=U[i]::U.drop (i+1):=List.drop_eq_getElem_cons B1;generalize hdd:U[i]=d at q8 hx RD;rw[RD]at Y;obtain⟨pa,xp,os,k0,rfl,XF,tX,QM,jM⟩:=B2 hx;ac_rfl;left;calc bE ?_;left;calc .inr ⟨⟨_,bL.of XF⟩,λD hD=>?_⟩;have Ko:=yx (d:=d);refine bb (J:=SM K pa) (n:=xp.length) (λi ys H'=>ys=(((os.take i).filterMap id).map (fI M k a s.ns s.row)).map V.int/\au H1 H') (K' (aA ())) ⟨rfl,au.new _ hD⟩ ?_ ?_ ?_ ?_
  ·rintro i ys H' hi ⟨_,m⟩;exact⟨_,xp[i],bL.of (m _ _ XF),cN hi⟩
  ·rintro ys H' ⟨_,m⟩;exact⟨_,bL.of (m _ _ XF),E' _⟩
  ·intro i ys S hi bo q9 mV y H4 pE;nofun;obtain⟨rfl,m⟩:=mV;obtain⟨rfl,g⟩:=pE;have T:=g _ (bL.of (m _ _ XF));obtain⟨o,ho,Hi⟩:=tX.get T;ac_rfl;have yt:os.take (i+1)=os.take i++[o]:=by
    rw[List.take_add_one,ho];rfl
   walk_at "xf";left;rcases Hi with⟨rfl,hc⟩|⟨v,rfl,Zr⟩
   ·have Zs:∃t,gF K H4 y t/\W.kitOne K t (.type "tuple")=some false:=by
     rcases hc with⟨w,rfl⟩|⟨j,rfl⟩
     ·exact⟨_,.str w,rfl⟩
     ·exact⟨_,.int j,rfl⟩
    obtain⟨t,h1,h2⟩:=Zs;refine cw t false h1 h2 ?_
    first|calc⟨false,rfl,?_⟩|skip
    left
    try rw[if_neg Bool.false_ne_true]
    exact⟨_,bo,(),by rw[yt];simp,m⟩
   ·have Hk:=Zr.aK m.aM;obtain⟨b,JN,rfl,gq⟩:=BB Hk;refine cw _ true (.tup gq) rfl ?_
    first|calc⟨true,rfl,?_⟩|skip
    left
    try first|rw[if_pos rfl]|rw[if_pos trivial]
    have y:v.ok ns.length:=oG q8 v (by rw[<-QM];calc List.mem_filterMap.mpr ⟨some v,U' ho,rfl⟩);left;calc⟨cY,λT t=>?_⟩;have g:=au.new (.tup [.ref B,.ref N]) t;calc di (g _ _ (m _ _ (sH _ _ VM))) (ay (j:=0) rfl) ?_;calc⟨.ref b,T,B,N,k,a,M,v,s.ns,s.row,k0,rfl,Hk.aK g.aM,ab,g _ _ (m _ _ L),g _ _ (m _ _ X),by rw[JH];calc y,JG,yA,λH5 t=>?_⟩;calc bT (t _ _ (g _ _ bo)) q9 hi (K' (aA ())) ⟨?_,λc o e=>by rw[ax (ao e hD)];calc t _ _ (g _ _ (m _ _ e))⟩;rw[yt,List.filterMap_append,List.map_append,List.map_append];rfl
  rintro ys S bo q9 ⟨rfl,m⟩;rw[tX.len,List.take_length,QM]at bo;have Ez:H1 D=none:=hD;nofun;generalize g:d.vals.map (fI M k a s.ns s.row)=ws at bo;have kr:ws.length=d.vals.length:=by rw[<-g];simp
  have UN:0<=ws.getD 0 0/\ws.getD 0 0<M:=by rw[<-g];exact vf JG
  have Ca:km M k a d s=⟨jI M s.ns (ws.getD 0 0) d,oo s.row (ws.getD 0 0) d,s.cI++ic (ws.getD 0 0) d,s.words++gb (ws.getD 0 0) d⟩:=by rw[<-g];rfl
  have Cb:mD M k a d s=oq (ws.getD 0 0) (ws.getD 1 0) d:=by rw[<-g];rfl
  have g:∀{b:Addr} {o:HO},H1 b=some o->b≠D:=λe=>ao e Ez;have oR:au H S:=sH.trans m;have JE:=hx.aK m.aM;have wH:=Hw.aK m.aM;have t:B≠D:=g L;have t:N≠D:=g X;have t:G≠D:=g O;have t:I≠D:=g R;have nPs:∀{b:Addr} {ys zs:List V},S b=some (.tup ys)->∀{c:Addr},S c=some (.lst zs)->b≠c:=λh1 _ h2 z=>by subst z;rw[h1]at h2;cases h2
  have aaL:=oR _ _ VM
  replace L:=m _ _ L
  replace X:=m _ _ X
  replace O:=m _ _ O
  replace R:=m _ _ R
  ac_rfl;clear tX QM jM Ko q9 hx
  cases l with
  |succ l=>
   left;rw[if_pos nofun];left;calc⟨B,N,G,I,zs,some (.ref pa),some (.ref D),l,s,?_,oR,a1,a2,a3,a4,n1,n2,n3,n4,n5,n6,L,X,O,wH,R,JH,JI,yA,(),(),Y⟩;have:((l+1:Nat):Int)-1=((l:Nat):Int):=by lia
   rw[this]
  |zero=>
  replace Y:Nh M k a (mD M k a d s).toNat (U.drop (i+1)) (km M k a d s)=ou M k a U ns row:=Y
  rw[Ca,Cb]at Y;left
  try rw[if_neg nofun]
  have g:((ns.length:Nat):Int)=s.ns.length:=by rw[JH]
  have Z:∀H6 Ni JN n' r' sn' w' (k':Nat),sR M s.ns s.row (ws.getD 0 0) (ws.getD 1 0) d=(n',r',sn',w',((k':Nat):Int))->au H H6->H Ni=none->B≠Ni->Ni≠G->Ni≠I->H6 B=some (.lst (n'.map V.int))->H6 Ni=some (.lst (r'.map V.int))->H6 G=some (.lst JN)->SL H6 JN (s.cI++sn')->H6 I=some (.lst ((s.words++w').map V.int))->LL H mt (.ref sa) k a M U ns row (i+1) [some (.ref mt),some (.ref sa),some (.int k),some (.int a),some (.ref B),some (.ref Ni),some (.ref G),some (.ref I),some (.int ((k':Nat):Int)),some (.ref pa),some (.ref D)] H6:=by
   clear bo JE wH L X O R aaL nPs;intro H6 Ni JN n' r' sn' w' k' E f0 f1 f2 f3 f4 f5 f6 f7 f8 f9;simp only[sR,Prod.mk.injEq]at E;obtain⟨rfl,rfl,rfl,rfl,E⟩:=E;rw[E,Int.toNat_natCast]at Y;have g:=yy (w:=ws.getD 0 0) (d:=d);exact⟨B,Ni,G,I,JN,_,_,k',⟨_,_,_,_⟩,rfl,f0,a1,f1,a3,a4,f2,n2,n3,f3,f4,n6,f5,f6,f7,f8,f9,o9.trans JH,B9 (d:=d) JG JI UN,Hr (d:=d) yA,Ct JJ g.1,Ct Xo g.2,Y⟩
  have Ap:∀r x,sR M s.ns s.row (ws.getD 0 0) (ws.getD 1 0) d=(s.ns.set r x,s.row,[],[],0)->LL H mt (.ref sa) k a M U ns row (i+1) [some (.ref mt),some (.ref sa),some (.int k),some (.int a),some (.ref B),some (.ref N),some (.ref G),some (.ref I),some (.int 0),some (.ref pa),some (.ref D)] (upd S B (.lst ((s.ns.map V.int).set r (.int x)))):=λr x E=>by
   have t6:cg S (upd S B (.lst ((s.ns.map V.int).set r (.int x)))):=(cg.refl _).upd λys e=>by rw[L]at e;cases e
   exact Z _ N zs _ _ _ _ 0 E (λb o e=>by rw[ax (ao e a1)];calc oR _ _ e) a2 n1 n4 n5 (by rw[ab,List.map_set]) (by rw[ax (Ne.symm n1)];calc X) (by rw[ax (Ne.symm n2)];calc O) (by rw[List.append_nil];calc wH.aK t6) (by rw[ax (Ne.symm n3),List.append_nil];calc R)
  have Mn:=ve JE q8;clear JE q8 Y Ca Cb;have MK:∀r:Nat,((r:Nat):Int)<ns.length->zI (s.ns.map V.int).length ((r:Nat):Int)=some r/\iJ (s.ns.map V.int) ((r:Nat):Int)=some (.int (s.ns.getD r 0)):=λr hj=>⟨oF (by rw[List.length_map];lia),iq ()⟩
  cases Mn with
  |set r u hj ha hl E=>
   have B6:=iq (ws:=ws) (j:=0) ();obtain⟨x1,x2⟩:=MK r hj;walk_at "jg";refine cw _ r L x1 ?_;exact Ap _ _ (E _ _ _ _ _)
  |add r u hj ha hl E=>
   have B6:=iq (ws:=ws) (j:=0) ();obtain⟨x1,x2⟩:=MK r hj;walk_at "jg";refine⟨JG,?_⟩;walk_at "jg";refine cw _ r L x1 ?_;exact Ap _ _ (E _ _ _ _ _)
  |times r u hj ha hl E=>
   have B6:=iq (ws:=ws) (j:=0) ();obtain⟨x1,x2⟩:=MK r hj;walk_at "jg";have g:=B4 JI (j:=r) ();refine⟨.inl ⟨(),()⟩,?_⟩;walk_at "jg";refine⟨JG,?_⟩;walk_at "jg";refine cw _ r L x1 ?_;exact Ap _ _ (E _ _ _ _ _)
  |put u ha hl E=>
   obtain⟨g,aaN⟩:=Zq (kr.trans hl);walk_at "jg";refine .inl ⟨_,_,X,bo,K' (aA (by simp;lia)),λg uM=>?_⟩;have s6:=au.new (.lst (s.row.map V.int++ws.map V.int)) uM;walk_at "jg";refine .inl ⟨_,ab,λl3 JT=>?_⟩;have s7:=au.new (.lst (eC (s.row.map V.int++ws.map V.int) none (some 12))) JT;have g:=s6.trans s7;have f3:S l3=none:=s6.free JT;exact Z _ l3 zs _ _ _ _ 0 (E _ _ _ _ _) (oR.trans g) (oR.free f3) (ao L f3) (Ne.symm (ao O f3)) (Ne.symm (ao R f3)) (g _ _ L) (by rw[ab,aaN];exact congrArg (λz=>some (HO.lst z)) (LM yA)) (g _ _ O) (by rw[List.append_nil];exact wH.aK g.aM) (by rw[List.append_nil];exact g _ _ R)
  |drop ha E=>
   walk_at "jg";refine .inl ⟨_,X,λl3 JT=>?_⟩;have s7:=au.new (.lst (eC (s.row.map V.int) (some 1) none)) JT;exact Z _ l3 zs _ _ _ _ 0 (E _ _ _ _ _) (oR.trans s7) (oR.free JT) (ao L JT) (Ne.symm (ao O JT)) (Ne.symm (ao R JT)) (s7 _ _ L) (by rw[ab,VN,List.map_tail]) (s7 _ _ O) (by rw[List.append_nil];exact wH.aK s7.aM) (by rw[List.append_nil];exact s7 _ _ R)
  |send j u ha hl E=>
   have B6:=iq (ws:=ws) (j:=0) ();walk_at "jg";refine⟨.inl ⟨rfl,_,aN.of O⟩,?_⟩;walk_at "jg";refine⟨cY,λtp Cc=>?_⟩;have s6:=au.new (.tup [.int j,.int (ws.getD 0 0)]) Cc;walk_at "jg";refine gB _ (s6 _ _ O) (aaw (by have:=Hw.1;lia) (aA (n:=100) ())) ?_;have t6:cg (upd S tp (.tup [.int j,.int (ws.getD 0 0)])) (upd (upd S tp (.tup [.int j,.int (ws.getD 0 0)])) G (.lst (zs++[.ref tp]))):=(cg.refl _).upd λys e=>by rw[s6 _ _ O]at e;cases e
   have q6:∀b o,b≠G->S b=some o->upd (upd S tp (.tup [.int j,.int (ws.getD 0 0)])) G (.lst (zs++[.ref tp])) b=some o:=λb o ne e=>by rw[ax ne];exact s6 _ _ e
   calc Z _ N _ _ _ _ _ 0 (E _ _ _ _ _) (λb o e=>q6 b o (ao e a3) (oR _ _ e)) a2 n1 n4 n5 (q6 _ _ n2 L) (q6 _ _ n4 X) ab ((wH.aK (s6.aM.trans t6)).snoc (cH (n:=0) (t6 _ _ ab) (.int _) (.int _))) (by rw[List.append_nil];calc q6 _ _ (Ne.symm n6) R)
  |say u ha hl E=>
   have B6:=iq (ws:=ws) (j:=0) ();walk_at "jg";refine⟨.inl ⟨rfl,_,aN.of R⟩,?_⟩;walk_at "jg";refine gB _ R (aaw (by simp;lia) (aA (n:=100) ())) ?_;have t6:cg S (upd S I (.lst (s.words.map V.int++[.int (ws.getD 0 0)]))):=(cg.refl _).upd λys e=>by rw[R]at e;cases e
   have q6:∀b o,b≠I->S b=some o->upd S I (.lst (s.words.map V.int++[.int (ws.getD 0 0)])) b=some o:=λb o ne e=>by rw[ax ne];exact e
   calc Z _ N zs _ _ _ _ 0 (E _ _ _ _ _) (λb o e=>q6 b o (ao e a4) (oR _ _ e)) a2 n1 n4 n5 (q6 _ _ n3 L) (q6 _ _ n5 X) (q6 _ _ n6 O) (by rw[List.append_nil];calc wH.aK t6) (by rw[ab,List.map_append];rfl)
  |skip u v kk ha hl E=>
   have B6:=iq (ws:=ws) (j:=0) ();have g:=iq (ws:=ws) (j:=1) ();have E:=E M s.ns s.row (ws.getD 0 0) (ws.getD 1 0);walk_at "jg";by_cases LN:ws.getD 0 0<ws.getD 1 0
   ·rw[if_pos LN]at E;left;rw[if_pos (decide_eq_true LN)];walk_at "jg";exact Z _ N zs _ _ _ _ kk E oR a2 n1 n4 n5 L X O (by rw[List.append_nil];exact wH) (by rw[List.append_nil];exact R)
   ·rw[if_neg LN]at E;left;rw[if_neg λz=>LN (of_decide_eq_true z)];walk_at "jg";exact Z _ N zs _ _ _ _ 0 E oR a2 n1 n4 n5 L X O (by rw[List.append_nil];exact wH) (by rw[List.append_nil];exact R)
 ·intro σ H1 sL;obtain⟨B,N,G,I,zs,z9,PV,l,s,rfl,sH,a1,a2,a3,a4,n1,n2,n3,n4,n5,n6,L,X,O,Hw,R,JH,JI,yA,JJ,Xo,Y⟩:=sL;rw[exs,List.drop_length] at Y;have Y:s=ou M k a U ns row:=by rw[<-Y];cases l <;> rfl
  left;calc .inl ⟨_,aN.of L,λa g=>?_⟩;have i:=au.new (.tup (s.ns.map V.int)) g;left;calc .inl ⟨_,aN.of (i _ _ X),λk l=>?_⟩;have j:=au.new (.tup (s.row.map V.int)) l;left;calc⟨cY,λm o=>?_⟩;have g:=au.new (.tup [.ref a,.ref k]) o;left;calc⟨by show 3<=sizeLine;decide,λr l=>?_⟩;have k:=au.new (.tup [.ref m,.ref G,.ref I]) l;have a:=i.trans (j.trans (g.trans k));refine q _ _ (sH.trans a) ⟨_,_,G,I,zs,rfl,ab,?_,a _ _ O,?_,?_,a3,a4,n6⟩
  ·rw[<-Y];exact(cH ab (om (g _ _ (j _ _ ab))) (om (g _ _ ab))).aK k.aM
  ·rw[<-Y];exact Hw.aK a.aM
  ·rw[<-Y];calc a _ _ R
def ji(H:Hp)(x:V)(M:Int)(ns row:List Int)(d:List bx):Prop:=∃t a b c xs,x=.ref t/\H t=some (.tup [.int M,.ref a,.ref b,.ref c])/\H a=some (.lst (ns.map V.int))/\H b=some (.lst (row.map V.int))/\H c=some (.lst xs)/\eS H 2 xs (d.map bx.dv)
theorem ji.cv{x:V}{M:Int}{a:List bx}(s:Cv H H')(h:ji H x M ns row a):ji H' x M ns row a:=by
 obtain⟨t,a,b,c,d,e,f,g,i,j,l⟩:=h;calc⟨t,a,b,c,d,e,s _ _ f (λk z=>by cases z),s _ _ g (λk z=>by cases z),s _ _ i (λk z=>by cases z),s _ _ j (λk z=>by cases z),l.aK s.aM⟩
def AI(H:Hp)(a:List V)(gV:List MD):Prop:=a.length=gV.length/\∀(i:Nat) v d,a[i]?=some v->gV[i]?=some d->ji H v d.M d.ns d.row d.ds
theorem AI.cv{c:List V}(s:Cv H H')(h:AI H c gV):AI H' c gV:=⟨h.1,λi v d a b=>(h.2 i v d a b).cv s⟩
def ToldN(H:Hp)(x:V)(gV:List MD)(ws:List (Int×Int×Str))(ls:List (Int×Int)):Prop:=∃t a b c d wv e,x=.ref t/\H t=some (.tup [.ref a,.ref b,.ref c])/\H a=some (.lst d)/\H b=some (.lst wv)/\H c=some (.lst e)/\AI H d gV/\eS H 1 wv (ws.map mn)/\eS H 1 e (ls.map qI)
theorem ToldN.cv{x:V}(s:Cv H H')(h:ToldN H x gV ws ls):ToldN H' x gV ws ls:=by
 obtain⟨t,a,b,c,d,wv,f,e,g,i,j,l,m,n,o⟩:=h;calc⟨t,a,b,c,d,wv,f,e,s _ _ g (λk z=>by cases z),s _ _ i (λk z=>by cases z),s _ _ j (λk z=>by cases z),s _ _ l (λk z=>by cases z),m.cv s,n.aK s.aM,o.aK s.aM⟩
def JU(a:V)(ev:Addr)(o:Nat->Addr):List (Key×V):=[(.inr "net",a),(.inr "put",.ref (o 4)),(.inr "sender",.ref (o 5)),(.inr "worker",.ref (o 6)),(.inr "states",.ref (o 1)),(.inr "words",.ref (o 2)),(.inr "heard",.ref (o 3)),(.inr "events",.ref ev)]
section
variable {H:Hp}{d:Addr}{tn:V}{ev:Addr}{o:Nat->Addr}
theorem Ea(h:H d=some (.dK (JU tn ev o))):iW H d (.str "net") (some tn):=.inl ⟨_,.inr "net",.inl h,rfl,by kernel_rfl⟩
theorem Eb(h:H d=some (.dK (JU tn ev o))):iW H d (.str "put") (some (.ref (o 4))):=.inl ⟨_,.inr "put",.inl h,rfl,by kernel_rfl⟩
theorem HZ(h:H d=some (.dK (JU tn ev o))):iW H d (.str "sender") (some (.ref (o 5))):=.inl ⟨_,.inr "sender",.inl h,rfl,by kernel_rfl⟩
theorem LO(h:H d=some (.dK (JU tn ev o))):iW H d (.str "worker") (some (.ref (o 6))):=.inl ⟨_,.inr "worker",.inl h,rfl,by kernel_rfl⟩
theorem AJ(h:H d=some (.dK (JU tn ev o))):iW H d (.str "states") (some (.ref (o 1))):=.inl ⟨_,.inr "states",.inl h,rfl,by kernel_rfl⟩
theorem QN(h:H d=some (.dK (JU tn ev o))):iW H d (.str "words") (some (.ref (o 2))):=.inl ⟨_,.inr "words",.inl h,rfl,by kernel_rfl⟩
theorem Ec(h:H d=some (.dK (JU tn ev o))):iW H d (.str "heard") (some (.ref (o 3))):=.inl ⟨_,.inr "heard",.inl h,rfl,by kernel_rfl⟩
theorem QO(h:H d=some (.dK (JU tn ev o))):iW H d (.str "events") (some (.ref ev)):=.inl ⟨_,.inr "events",.inl h,rfl,by kernel_rfl⟩
end
def _root_.DD.RS.tv(r:RS):Nat->Nat->CO
 |0,_=>.l (r.picks.map pairD)
 |1,m=>.l ((r.mm m).dQ.map qE)
 |2,m=>.l ((r.mm m).wp.map λw=>.lst (w.map .int))
 |3,m=>.l ((r.mm m).hr.map λw=>.lst (w.map .int))
 |4,w=>.l ((r.ww w).say.map .int)
 |5,w=>.l ((r.ww w).snd.map ml)
 |_,w=>.d (iK (r.ww w).cD) ((r.ww w).cD.countP Option.isSome)
theorem count_set{e:Int×Int}:∀{l:List (Option (Int×Int))}{k:Nat},l[k]?=some none->(l.set k (some e)).countP Option.isSome=l.countP Option.isSome+1
 | [],k,h=>by simp at h
 |a::r,0,h=>by simp at h;subst h;simp
 |a::r,k+1,h=>by
  have b:=count_set (e:=e) (l:=r) (k:=k) (by simpa using h);simp only[List.set_cons_succ,List.countP_cons];rw[b];lia
theorem Ia{l:List (Option (Int×Int))}{k:Nat}(h:k<l.length)(j:Int):iK (l.set k (some e)) j=if j=((k:Nat):Int) then some (pairD e) else iK l j:=by
 unfold iK;by_cases a:0<=j
 ·rw[if_pos a,if_pos a];by_cases z:j=((k:Nat):Int)
  ·subst z;rw[if_pos rfl,Int.toNat_natCast,List.getD_eq_getElem?_getD,List.getElem?_set];simp[h]
  ·rw[if_neg z,List.getD_eq_getElem?_getD,List.getElem?_set,if_neg (),<-List.getD_eq_getElem?_getD]
 ·rw[if_neg a,if_neg a,if_neg ()]
theorem Ed{l:List (Option (Int×Int))}:iK (l++[none])=iK l:=by
 funext j;unfold iK;split
 ·congr 1;rw[List.getD_eq_getElem?_getD,List.getD_eq_getElem?_getD,List.getElem?_append];split
  ·rfl
  ·next z=>
   rw[List.getElem?_eq_none (l:=l) ()]
   cases a:j.toNat-l.length with
   |zero=>rfl
   |succ n=>rfl
 ·rfl
structure bU(F:Addr->Prop)(H:Hp)(d:Addr)(tn:V)(nt:NT)(r:RS)(ad:Nat->Nat->Addr):Prop where
 dk:∃o,H d=some (.dK (JU tn (ad 0 0) o))/\¬F d/\¬FP nt.n ad d/\∀t,1<=t->t<=6->H (o t)=some (.lst (fW nt.n ad t))/\¬F (o t)/\¬FP nt.n ad (o t)
 cn:dD F H nt.n ad r.tv
 told:∃ls,ToldN (ie (λb=>F b\/FP nt.n ad b) H) tn nt.ms nt.ws ls
 ok:nt.Ok
section
variable {F:Addr->Prop}{H H':Hp}{d:Addr}{tn:V}{nt:NT}{r:RS}{ad:Nat->Nat->Addr}
theorem bU.keep(h:bU F H d tn nt r ad)(f:Fr F H H'):bU F H' d tn nt r ad:=by
 obtain⟨⟨o,g,e,i,c⟩,j,⟨ls,k⟩,l⟩:=h;calc⟨⟨o,f.at g e,e,i,λt a b=>⟨f.at (c t a b).1 (c t a b).2.1,(c t a b).2⟩⟩,j.keep f,⟨ls,k.cv (f.mono λb z=>.inl z).ie⟩,l⟩
theorem bU.same(h:bU F H d tn nt r ad)(s:au H H'):bU F H' d tn nt r ad:=h.keep s.fr
theorem bU.own{c:RS}(h:bU F H d tn nt r ad)(f:Fr (FP nt.n ad) H H')(b:dD F H' nt.n ad c.tv):bU F H' d tn nt c ad:=by
 obtain⟨⟨o,g,i,e,c⟩,l,⟨ls,j⟩,k⟩:=h;calc⟨⟨o,f.at g e,i,e,λt a b=>⟨f.at (c t a b).1 (c t a b).2.2,(c t a b).2⟩⟩,b,⟨ls,j.cv (f.mono λb z=>.inr z).ie⟩,k⟩
end
theorem Ee{l:List (Option (Int×Int))}{k:Nat}:(iK l ((k:Nat):Int)).isSome= !(l.getD k none).isNone:=by
 unfold iK;rw[if_pos (),Int.toNat_natCast]
 cases l.getD k none<;>rfl
theorem Ef{H0 H:Hp}{a:Addr}{b:List (Key×V)}{g:Int->Option DV}{N:Nat}(e:H a=some (.dK b))(h:OR H0 (.d g N) (.dK b))(k:Int):∃o,iW H a (.int k) o/\o.isSome=(g k).isSome:=by
 calc bz _ (iW.k (k:=Sum.inl k) e) ?_;have:=h.2 k;revert this
 cases g k with
 |none=>intro h;rw[h];rfl
 |some d=>intro⟨v,h,_⟩;rw[h];rfl
abbrev ly:Stmt:=top 65
def AK:Sp:=λvs H Q _=>∃(F:Addr->Prop) (d:Addr) (a:V) (nt:NT) (r:RS) (ad:Nat->Nat->Addr) (m:Nat),vs=[.ref d,.int m]/\bU F H d a nt r ad/\r.Ok nt/\r.picks.length<=400/\m<nt.ws.length/\∀l H',au H H'->H l=none->H' l=some (.lst ((r.rj m).map λk=>.int (k:Nat)))->Q (.ref l) H'
theorem yQ(D:cM K mg "_law_lying" "_law_lying" ly ["_law_run","_law_way"])(T:Tx K mg C CN CR F FD):Def P w K mg base "_law_lying" 1 ["_law_run","_law_way"] AK:=by
 have sc:aB ["_law_run","_law_way"] ["_law_run","_law_way"] (av ly):=by walk_at "s"
 symm;obtain⟨F,d,g,z,r,ad,m,rfl,j,k,B,b,q⟩:=h;have g:=hr.units;have z:=Xk g;calc⟨_,(ak (aD (cX (N':=["_law_k","_law_way","_law_run"]) (ix:=[none,some 1,some 0]) (cT rfl T.eA (af (aW aL rfl T.bZ M' (af (aj g (aj g (aq 0) aC) (aq 1)) aa)) aa)) (λ_ _ _ _=>(aQ (i:=0) (show(["_law_k","_law_way","_law_run"]:List Str).Nodup by decide +kernel) rfl Sort)) (λ_ _ _ _=>(iO (N0 (Dq z (aq 0) (dz (K:=K) rfl g (dz (K:=K) rfl g (aq 2) aC) (aq 1)))))) (λ_ _ _ _=>(aq 0))))),?_⟩;nofun;obtain⟨o,v,z,B,g⟩:=j.dk;have z:=(g 4 ∅ ∅).1;have G:=(g 6 ∅ ∅).1;obtain⟨B,I,L⟩:=j.cn.lst (t:=4) (i:=m) b rfl;obtain⟨g,M,N⟩:=j.cn.Xi (t:=6) (i:=m) b rfl;ac_rfl;have g:B.length=(r.ww m).say.length:=by simpa using L.1
 have j:=k.bs m b;left;calc bE ?_;left;calc bz _ (Eb v) ?_;left;calc bA z (aV b) ?_;calc bz _ (.inl ⟨_,aN.of I,rfl⟩) ?_;left;rw[g];calc ig () () (λD p=>?_);rw[Int.toNat_natCast];refine bb (J:=Dc 0 (r.ww m).say.length) (n:=(r.ww m).say.length) (λi ys H'=>au H H'/\ys=((List.range i).filter λk=>((r.ww m).cD.getD k none).isNone).map λk=>V.int (k:Nat)) (K' (small ())) ⟨au.new _ p,rfl⟩ (λi ys H' u _=>u) (λys H' _=>E' _) ?_ ?_
 ·intro i ys H' u l y O x H2 R;nofun;obtain⟨a,rfl⟩:=O;obtain⟨rfl,rfl⟩:=R;ac_rfl;walk_at "xf";left;refine bz _ (LO (a _ _ v)) ?_;left;refine bA (a _ _ G) (aV b) ?_;rw[Int.zero_add];obtain⟨g,j,k⟩:=Ef (a _ _ M) N ((i:Nat):Int);refine⟨ad 6 m,g,rfl,j,?_⟩;rw[k,Ee,Bool.not_not];left;by_cases z:((r.ww m).cD.getD i none).isNone=true
  ·rw[z]
   try rw[if_pos rfl]
   calc bT l y u (K' (small ())) ⟨λc o e=>by rw[ax (ao e p)];calc a _ _ e,?_⟩;rw[fw,if_pos z,List.map_append];rfl
  ·rw[Bool.not_eq_true] at z;rw[z]
   try rw[if_neg ∅]
   exact⟨_,l,(),a,by rw[fw,if_neg (by rw[z];decide),List.append_nil]⟩
 ·rintro ys H' l y ⟨a,rfl⟩;calc q _ _ a p l
def iR(nt:NT)(r:RS)(w:Nat):List Nat:=if (nt.w w).2.2="row" then(r.rj w).take 1 else r.rj w
def ko(nt:NT)(r:RS)(n:Nat):List (Nat×Nat):=(List.range n).flatMap λw=>(iR nt r w).map λk=>(w,k)
theorem tD{nt:NT}{n:Nat}:ko nt r (n+1)=ko nt r n++(iR nt r n).map λk=>(n,k):=by
 unfold ko;rw[List.range_succ,List.flatMap_append];simp
theorem eS.app{n:Nat}{vs us:List V}{c e:List DV}(h:eS H n vs c)(g:eS H n us e):eS H n (vs++us) (c++e):=by
 calc⟨by simp[h.1,g.1],λi v d a b=>?_⟩;by_cases c:i<vs.length
 ·rw[List.getElem?_append_left c]at a;rw[List.getElem?_append_left (by rw[<-h.1];calc c)]at b;exact h.2 i _ _ a b
 ·rw[List.getElem?_append_right ()]at a;rw[List.getElem?_append_right (by rw[<-h.1];lia),<-h.1]at b;calc g.2 _ _ _ a b
theorem rq{w:Nat}:(r.rj w).length<=(r.ww w).say.length:=by
 unfold RS.rj;calc aac (List.length_filter_le _ _) nofun
theorem vn{nt:NT}{w:Nat}:(iR nt r w).length<=(r.ww w).say.length:=by
 unfold iR;split
 ·rw[List.length_take];have:=rq (r:=r) (w:=w);lia
 ·calc rq
theorem vo{nt:NT}{r:RS}{B:Nat}:∀n,(∀w,w<n->(r.ww w).say.length<=B)->(ko nt r n).length<=n*B
 |0,_=>by simp[ko]
 |n+1,h=>by
  rw[tD,List.length_append,List.length_map];have a:=vo (nt:=nt) n (λw a=>h w ());have a:=h n ();have a:=vn (nt:=nt) (r:=r) (w:=n);rw[Nat.succ_mul];lia
def pkD(p:Nat×Nat):DV:=pairD (((p.1:Nat):Int),((p.2:Nat):Int))
theorem Eg{r:RS}{w k:Nat}(h:k∈(r.rj w).take 1):∀j,j<k->((r.ww w).cD.getD j none).isNone=false:=by
 unfold RS.rj at h;generalize b:(List.range (r.ww w).say.length).filter (λk=>((r.ww w).cD.getD k none).isNone)=l at h
 cases l with
 |nil=>simp at h
 |cons a t=>
  simp at h;subst h;intro j g;have f:(List.range (r.ww w).say.length).Pairwise (· < ·):=List.pairwise_lt_range;have c:=f.filter (λk=>((r.ww w).cD.getD k none).isNone);rw[b]at c;have f:k∈(List.range (r.ww w).say.length).filter (λk=>((r.ww w).cD.getD k none).isNone):=by rw[b];simp
  rw[List.mem_filter,List.mem_range]at f
  cases z:((r.ww w).cD.getD j none).isNone with
  |false=>rfl
  |true=>
   exfalso;have d:j∈(List.range (r.ww w).say.length).filter (λk=>((r.ww w).cD.getD k none).isNone):=by
    rw[List.mem_filter,List.mem_range];exact⟨(),z⟩
   rw[b]at d;rcases List.mem_cons.mp d with e|e
   ·lia
   ·have:=(List.pairwise_cons.mp c).1 j e;lia
theorem Ib{nt:NT}(h:r.Ok nt){w k:Nat}(c:(w,k)∈ko nt r nt.ws.length):r.JO nt w k:=by
 unfold ko at c;rw[List.mem_flatMap]at c;obtain⟨j,a,c⟩:=c;rw[List.mem_range]at a;rw[List.mem_map]at c;obtain⟨j,b,e⟩:=c
 cases e;have f:k∈r.rj w:=by
  unfold iR at b;split at b
  ·exact List.mem_of_mem_take b
  ·exact b
 have g:k<(r.ww w).say.length/\((r.ww w).cD.getD k none).isNone=true:=by
  unfold RS.rj at f;rw[List.mem_filter,List.mem_range]at f;exact f
 have c:=h.lk w a;refine⟨a,?_,λi c=>?_⟩
 ·rw[aS (d:=none) ()]
  cases z:(r.ww w).cD.getD k none with
  |none=>rfl
  |some e=>rw[z]at g;simp at g
 ·unfold iR at b;rw[if_pos i] at b;have:=Eg b (k - 1) ();rw[aS (d:=none) (show k - 1 < (r.ww w).cD.length by lia)]
  cases z:(r.ww w).cD.getD (k-1) none with
  |none=>rw[z]at this;simp at this
  |some e=>calc⟨e,rfl⟩
theorem QP{xs:List V}:eC xs none (some 1)=xs.take 1:=by
 unfold eC;have b:HT.d9 xs.length 0 none=0:=rfl;rw[b]
 cases xs with
 |nil=>simp
 |cons a r=>
  have b:HT.d9 (a::r).length (a::r).length (some 1)=1:=by
   unfold HT.d9;simp
  rw[b];simp
abbrev nr:Stmt:=top 66
def Ic:Sp:=λvs H Q _=>∃(F:Addr->Prop) (d:Addr) (a:V) (nt:NT) (r:RS) (ad:Nat->Nat->Addr),vs=[.ref d]/\bU F H d a nt r ad/\r.Ok nt/\r.picks.length<=400/\∀l ys H',au H H'->H l=none->H' l=some (.lst ys)->eS H' 1 ys ((ko nt r nt.ws.length).map pkD)->Q (.ref l) H'
theorem AL(D:cM K mg "_law_free" "_law_free" nr ["_law_run"])(T:Tx K mg C CN CR F FD)(fz:Def P w K mg base "_law_lying" 1 ["_law_run","_law_way"] AK):Def P w K mg base "_law_free" 2 ["_law_run"] Ic:=by
 have sc:aB ["_law_run","_law_free_here","_law_way","_law_told","_law_numbers"] ["_law_run"] (av nr):=by walk_at "s"
 symm;obtain⟨F,d,tn,a,r,ad,rfl,G,Z,jM,q⟩:=h;have R:=hr.units;refine⟨_,(ag (aY (i:=1) sc.nd rfl Sort (bG aa))
  (ag (dj PassesOwn.never rfl (fG rfl T.cu (af (aj R (aj R (aq 0) aC) ai) aa)) (eQ (i:=2) (j:=3) rfl sc.nd rfl rfl Sort Sort)
  (ag (aY (i:=4) sc.nd rfl Sort (aJ fz hr (af (aq 0) (af (aq 2) aa))))
  (ag (aR (az (ba R) (aj R (aq 3) ai) aC (aE _)) (ak (aY (i:=4) sc.nd rfl Sort (rS (aq 4) qT (iM ai)))) aH)
  (ak (aY (i:=1) sc.nd rfl Sort (bc c8 (aq 1) (cX (N':=["_law_number","_law_way"]) (ix:=[none,some 2]) (bM (pv 4)) (λ_ _ _ _=>(aQ (i:=0) (show(["_law_number","_law_way"]:List Str).Nodup by decide +kernel) rfl Sort)) mG (λ_ _ _ _=>(bD (af (aq 1) (af (aq 0) aa)))))))))))
  (ak (aD (aq 1))))),?_⟩
 nofun;obtain⟨o,hd,nF,nP,ho⟩:=G.dk;obtain⟨ls,t,am,aw,al,mv,wv,lv,rfl,h1,h2,h3,h4,h5,S,h7⟩:=G.told;have g1:=(dC h1 (λk z=>by cases z)).2;have g3:=(dC h3 (λk z=>by cases z)).2
 replace S:=S.aK c9.aM
 ac_rfl;have kr:wv.length=a.ws.length:=by simpa using S.1
 have pK:wv.length<=10:=by rw[kr];exact G.ok.zX
 have hB:∀w,w<a.ws.length->(r.ww w).say.length<=9620:=λw hw=>by have:=Z.bs w hw;lia
 left;calc⟨V' _,λU JK=>?_⟩;have W:=au.new (.lst []) JK;have XG:upd H U (.lst []) U=some (.lst []):=ab;generalize RJ:upd H U (.lst [])=G0 at *;left;refine Ea (W _ _ hd) |> λh=>⟨_,h,?_⟩
 refine di (W _ _ g1) (ay (j:=1) rfl) ⟨true,wv,Sq.l (W _ _ g3),ib (xs:=wv) (λi σ H'=>∃z2 z3 z4 v ys,σ=[some (V.ref d),some (V.ref v),z2,z3,z4]/\au H H'/\H v=none/\H' v=some (.lst ys)/\eS H' 1 ys ((ko a r i).map pkD)) ?_ ?_ ?_ ?_⟩
 ·exact⟨_,_,_,U,[],rfl,W,JK,XG,show eS _ 1 [] [] from eS.nil⟩
 ·intro i σ H' mV;obtain⟨_,_,_,_,_,_,b,_⟩:=mV;exact Sq.l (b _ _ g3)
 ·intro i x σ H' tt hx pE zk;nofun;obtain⟨z2,z3,z4,v,ys,rfl,b,I,LQ,L⟩:=pE;have JD:i < a.ws.length:=by rw[<-kr];exact(List.getElem?_eq_some_iff.mp hx).1
  have s2:=au.new (.tup [.int (i:Nat),x]) zk;have JW:upd H' tt (.tup [.int (i:Nat),x]) tt=some (.tup [.int (i:Nat),x]):=ab;have zi:=(S.2 i x (mn (a.w i)) hx (by rw[List.getElem?_map,show a.ws[i]?=some (a.w i) from aS JD];rfl)).aK (b.trans s2).aM;generalize wY:upd H' tt (.tup [.int (i:Nat),x])=G2 at *;obtain⟨ta,u1,u2,u3,kk,rfl,wA,y1,y2,y3⟩:=bS zi;obtain rfl:=y1.cE;obtain rfl:=y2.cE;obtain rfl:=y3.cP;ac_rfl;calc tP (bL.of JW) ?_;left;calc⟨F,d,_,a,r,ad,i,rfl,(G.same b).same s2,Z,jM,JD,λln H3 s3 fln p=>?_⟩;have pP:au H' H3:=s2.trans s3;have hly:=rq (r:=r) (w:=i);have hfw:=vn (nt:=a) (r:=r) (w:=i);have hBi:=hB i JD;left;calc di (s3 _ _ wA) (ay (j:=2) rfl) ?_;left;rename_i N1 hN1 T1 U1 Lm hU1;have g:∀M y,au H' M->M y=some (.lst ((iR a r i).map λk=>V.int ((k:Nat):Int)))->N1 [some (V.ref d),some (V.ref v),some (V.int ((i:Nat):Int)),some (V.ref ta),some (V.ref y)] M:=by
   intro M y UM p;clear Lm hU1;left;calc bE ?_;left;calc .inl ⟨⟨_,aN.of p⟩,λD hD=>?_⟩;refine bb (J:=tU K y) (n:=(iR a r i).length) (λj u H'=>au M H'/\eS H' 1 u (((iR a r i).take j).map λk=>pkD (i,k))) (K' (small ())) ⟨au.new _ hD,show eS _ 1 [] [] from eS.nil⟩ ?_ ?_ ?_ ?_
   ·rintro j u H' N ⟨m,_⟩;exact⟨_,_,aN.of (m _ _ p),by rw[List.getElem?_map,cN N];rfl⟩
   ·rintro u H' ⟨m,_⟩;exact⟨_,aN.of (m _ _ p),nofun⟩
   ·intro j u H' N QR l9 HV xx H4 LI;nofun;obtain⟨m,O⟩:=HV;obtain⟨rfl,hy⟩:=LI;have ex:=hy _ (aN.of (m _ _ p));rw[List.getElem?_map,cN N] at ex;obtain rfl:=Option.some.inj ex;ac_rfl;walk_at "xf";left
    try rw[if_pos trivial]
    calc⟨cY,λt2 nS=>?_⟩;have s6:=au.new (.tup [.int ((i:Nat):Int),.int (((iR a r i)[j]:Nat):Int)]) nS;have wI:=s6 _ _ QR;calc bT wI l9 N (K' (small ())) ⟨λc o e=>by rw[ax (ao e hD)];calc s6 _ _ (m _ _ e),?_⟩;have tu:cg (upd H4 t2 (.tup [.int ((i:Nat):Int),.int (((iR a r i)[j]:Nat):Int)])) (upd (upd H4 t2 (.tup [.int ((i:Nat):Int),.int (((iR a r i)[j]:Nat):Int)])) D (.lst (u++[.ref t2]))):=(cg.refl _).upd λzs e=>by rw[wI]at e;cases e
    rw[List.take_succ,cN N,List.map_append];exact((O.aK s6.aM).snoc (cH (n:=0) ab (.int _) (.int _))).aK tu
   rintro u H6 QR l9 ⟨m,O⟩;rw[List.take_length]at O;have X:au H' H6:=UM.trans m;left;refine .inl ⟨_,_,X _ _ LQ,QR,?_,λlf' VP=>?_⟩
   ·have a1:=L.1;have a2:=O.1;have a3:=vo (nt:=a) (r:=r) (B:=9620) i (λw hw=>hB w ());simp at a1 a2;rw[sizeLine_eq];have a5:i<=9:=by lia
    have a4:i*9620<=9*9620:=Nat.mul_le_mul_right _ a5;lia
   have s7:=au.new (.lst (ys++u)) VP;left;calc Y8 _ _ _ lf' _ ⟨rfl,rfl,rfl,rfl⟩ (b.trans (X.trans s7)) ((b.trans X).free VP) ab ?_;rw[tD,List.map_append];calc((L.aK X.aM).app ?_).aK s7.aM;rw[List.map_map];exact O
  by_cases Y:(a.w i).2.2="row"
  ·rw[if_pos (by simp[Y])];left;calc .inl ⟨_,p,λy uM=>?_⟩;rw[QP];have s4:=au.new (.lst (((r.rj i).map λk=>V.int ((k:Nat):Int)).take 1)) uM;exact g _ y (pP.trans s4) (by unfold iR;rw[ab,if_pos Y,List.map_take])
  ·rw[if_neg (by simp[Y])];calc L2.cm (by assumption) ?_;exact g _ ln pP (by unfold iR;rw[if_neg Y];calc p)
 ·intro σ H' LK;obtain⟨z2,z3,z4,v,ys,rfl,b,I,LQ,L⟩:=LK;rw[kr]at L;left;calc q _ _ _ b I LQ L
def LR(H H':Hp):Prop:=∀b o,H b=some o->(∀k,o≠.own k)->H' b=some o
theorem LR.aM(h:LR H H'):cg H H':=λb a e=>h b _ e (λk z=>by cases z)
theorem _root_.L2.au.JX(s:au H H'):LR H H':=λb o e _=>s b o e
theorem ji.JX{x:V}{M:Int}{a:List bx}(s:LR H H')(h:ji H x M ns row a):ji H' x M ns row a:=by
 obtain⟨t,a,b,c,d,e,f,g,i,j,l⟩:=h;calc⟨t,a,b,c,d,e,s _ _ f (λk z=>by cases z),s _ _ g (λk z=>by cases z),s _ _ i (λk z=>by cases z),s _ _ j (λk z=>by cases z),l.aK s.aM⟩
theorem AI.JX{c:List V}(s:LR H H')(h:AI H c gV):AI H' c gV:=⟨h.1,λi v d a b=>(h.2 i v d a b).JX s⟩
theorem AI.nil:AI H [] []:=⟨rfl,λi v d a=>by simp at a⟩
theorem AI.snoc{H:Hp}{c:List V}{gV:List MD}{v:V}{d:MD}(h:AI H c gV)(g:ji H v d.M d.ns d.row d.ds):AI H (c++[v]) (gV++[d]):=by
 calc⟨by simp[h.1],λi y e a b=>?_⟩;by_cases f:i<c.length
 ·rw[List.getElem?_append_left f]at a;rw[List.getElem?_append_left (by rw[<-h.1];calc f)]at b;exact h.2 i _ _ a b
 ·rw[List.getElem?_append_right ()] at a;rw[List.getElem?_append_right (by rw[<-h.1];lia),<-h.1] at b
  cases j:i-c.length with
  |zero=>rw[j]at a b;cases a;cases b;calc g
  |succ k=>rw[j]at a;simp at a
def mask(a b c:Addr)(H:Hp):Hp:=λx=>if x=a\/x=b\/x=c then some (.own 0) else H x
theorem oM{c x:Addr}(d:x≠a)(e:x≠b)(f:x≠c):mask a b c H x=H x:=by unfold mask;rw[if_neg (by simp[d,e,f])]
theorem vp{c x:Addr}{o:HO}(h:mask a b c H x=some o)(d:∀k,o≠.own k):x≠a/\x≠b/\x≠c/\H x=some o:=by
 unfold mask at h;split at h
 ·cases h;exact absurd rfl (d 0)
 ·rename_i hn;simp only[not_or]at hn;calc⟨hn.1,hn.2.1,hn.2.2,h⟩
theorem Ie{c:Addr}:LR (mask a b c H) H:=λx o e n=>(vp e n).2.2.2
theorem yR{c:Addr}(h:∀x o,x≠a->x≠b->x≠c->H x=some o->H' x=some o):LR (mask a b c H) (mask a b c H'):=λx o e n=>by
 obtain⟨d,f,g,i⟩:=vp e n;rw[oM d f g];calc h x o d f g i
theorem Eh{c t d f g:Addr}{xs:List V}{M:Int}{n:List bx}(p:H t=some (.tup [.int M,.ref d,.ref f,.ref g]))(q:H d=some (.lst (ns.map V.int)))(r:H f=some (.lst (row.map V.int)))(s:H g=some (.lst xs))(u:eS H 2 xs (n.map bx.dv))
  (h:∃ys,H a=some (.lst ys)) (i:∃ys,H b=some (.lst ys)) (j:∃ys,H c=some (.lst ys)) (k:d≠a/\d≠b/\d≠c) (l:f≠a/\f≠b/\f≠c) (m:g≠a/\g≠b/\g≠c):ji (mask a b c H) (.ref t) M ns row n:=by
 obtain⟨n,h⟩:=h;obtain⟨n,i⟩:=i;obtain⟨n,j⟩:=j;have o:cg H (mask a b c H):=λx ys e=>by
  rw[oM (λz=>by rw[z,h]at e;cases e) (λz=>by rw[z,i]at e;cases e) (λz=>by rw[z,j]at e;cases e)];exact e
 calc⟨t,d,f,g,xs,rfl,o _ _ p,by rw[oM k.1 k.2.1 k.2.2];calc q,by rw[oM l.1 l.2.1 l.2.2];calc r,by rw[oM m.1 m.2.1 m.2.2];calc s,u.aK o⟩
structure Cw(gV:List MD)(ws:List (Int×Int×Str))(ls:List (Int×Int)):Prop where
 m1:1<=gV.length
 m5:gV.length<=5
 Fx:ws.length<=10
 QT:ls.length<=20
 mg:∀d∈gV,d.good
 wo:∀w∈ws,va gV.length w
 lo:∀l∈ls,vb ws.length l
theorem Cw.nt(h:Cw gV ws ls):(NT.mk gV ws).Ok:=⟨h.m5,h.m1,h.Fx,h.mg,h.wo⟩
abbrev pW:Stmt:=top 61
def Cy(K:W.Frag):Sp:=λvs H Q _=>∃(a:Addr) (ns:List Int),vs=[.ref a]/\aN K H a (ns.map V.int)/\ns.length<=63/\∀t b c d e wv f gV ws ls H',au H H'->H' t=some (.tup [.ref b,.ref c,.ref d])->H' b=some (.lst e)->H' c=some (.lst wv)->H' d=some (.lst f)->AI H' e gV->eS H' 1 wv (ws.map mn)->eS H' 1 f (ls.map qI)->Cw gV ws ls->Q (.ref t) H'
theorem Ei(D:cM K mg "_law_net" "_law_net" pW ["_law_script"])(T:Tx K mg C CN CR F FD)(x:Def P w K mg base "_law_at" 1 ["_law_script","_law_k"] (GY K))(v:Def P w K mg base "_law_digit" 1 ["_law_pot_here","_law_many"] gD)(jj:Def P w K mg base "_law_machine" 4 ["_law_pot_here"] yO)(M:Def P w K mg base "_law_pot" 1 ["_law_cell"] Ah):Def P w K mg base "_law_net" 5 ["_law_script"] (Cy K):=by
 have sc:aB ["_law_script","_law_many","_law_machines","_law_pot_here","_law_ways","_law_k","_law_letters","_law_way"] ["_law_script"] (av pW):=by walk_at "s"
 symm;obtain⟨a,ns,rfl,hS,XI,q⟩:=h;have hu:=hr.units;refine⟨_,(ag (aY (i:=1) sc.nd rfl Sort (bc c8 ai (bc eO (aJ x hr (af (aq 0) (af ai aa))) ai)))
  (ag (fF (i:=2) sc.nd rfl Sort (N':=["_law_k","_law_script"]) (ix:=[none,some 0]) (cT rfl T.eA (af (aq 1) aa)) (λ_ _ _ _=>(aQ (i:=0) (show(["_law_k","_law_script"]:List Str).Nodup by decide +kernel) rfl Sort)) mG (λ_ _ _ _=>(aJ jj hr (af (aJ M hr (af (aJ x hr (af (aq 1) (af (bc c8 ai (aq 0)) aa))) aa)) aa))))
  (ag (aY (i:=3) sc.nd rfl Sort (aJ M hr (af (aJ x hr (af (aq 0) (af ai aa))) aa)))
  (ag (aY (i:=4) sc.nd rfl Sort (bG aa))
  (ag (dj PassesOwn.never rfl (cT rfl T.eA (af (aJ v hr (af (aq 3) (af ai aa))) aa)) (aQ (i:=5) sc.nd rfl Sort)
  (ak (bI (dy mH qr qt bV (aq 4) (af (bD (af (aJ v hr (af (aq 3) (af (aq 1) aa))) (af (aJ v hr (af (aq 3) (af (aq 1) aa))) (af (aj hu (bG (af aC (af aC aa))) (aJ v hr (af (aq 3) (af ai aa)))) aa)))) aa)))))
  (ag (aY (i:=3) sc.nd rfl Sort (aJ M hr (af (aJ x hr (af (aq 0) (af ai aa))) aa)))
  (ag (aY (i:=6) sc.nd rfl Sort (bG aa))
  (ag (dj PassesOwn.never rfl (cT rfl T.eA (af (aJ v hr (af (aq 3) (af ai aa))) aa)) (aQ (i:=5) sc.nd rfl Sort)
  (ak (aR (az (eP hu) (aq 4) (bG aa) (aE _)) (ag (aY (i:=7) sc.nd rfl Sort (aJ v hr (af (aq 3) (af (aW aL rfl T.bZ M' (af (aq 4) aa)) aa))))
  (ak (bI (dy mH qr qt bV (aq 6) (af (bD (af (aq 7) (af (aJ v hr (af (aq 3) (af (aj hu (bG (af ai (af (bc qV ai ai) aa))) (aJ v hr (af (aq 3) (af ai aa)))) aa))) aa))) aa))))) aH)))
  (ak (aD (bD (af (aq 2) (af (aq 4) (af (aq 6) aa)))))))))))))),?_⟩
 left;calc⟨a,ns,_,rfl,hS,(),λg=>⟨(by decide:(0:Int)<5),?_⟩⟩;have v:=aay g (b:=5) ∅;have v:=aap g (b:=5) ∅;left;calc bE ?_;left;calc ig () () (λD hD=>?_);refine bb (J:=Dc 0 (1+g%5).toNat) (n:=(1+g%5).toNat) (λi ys H'=>au H H'/\∃gV,gV.length=i/\AI (mask D D D H') ys gV/\∀d∈gV,d.good) (K' (aA ())) ⟨au.new _ hD,[],rfl,AI.nil,λd hd=>by simp at hd⟩ (λi ys H' hi _=>hi) (λys H' _=>E' _) ?_ ?_
 ·intro i ys H1 hi bo hl gH x H2 gI;nofun;obtain⟨Z,gV,mr,hM,O⟩:=gH;obtain⟨rfl,rfl⟩:=gI;ac_rfl;walk_at "xf";left;rw[if_pos trivial];refine⟨a,ns,_,rfl,Z.seq hS,(),λv=>⟨v,rfl,λp Sa R qx=>⟨p,rfl,⟨_,ab,qx⟩,λt v T ld xs M mns row ds x st h1 h2 h3 h4 h5 f1 f2 f3 hg=>?_⟩⟩⟩;have q3:∀b o,H2 b=some o->x b=some o:=λb o e=>st.rest b o ((au.new _ R) _ _ e) (ao e R);have T:=q3 _ _ bo;have p1:=(au.new (.lst (Sa.map V.int)) R) _ _ bo;have v:∀{b:Addr},upd H2 p (.lst (Sa.map V.int)) b=none->b≠D:=λf=>Ne.symm (ao p1 f);refine bT T hl hi (K' (aA ())) ⟨λb o e=>by rw[ax (ao e hD)];exact q3 _ _ (Z _ _ e),gV++[⟨M,mns,row,ds⟩],by simp[mr],?_,λd hd=>?_⟩
  ·have c4:LR (mask D D D H2) (mask D D D (upd x D (.lst (ys++[.ref t])))):=yR λb o M b2 b3 e=>by rw[ax M];exact q3 _ _ e
   have c5:LR (mask D D D x) (mask D D D (upd x D (.lst (ys++[.ref t])))):=yR λb o M b2 b3 e=>by rw[ax M];exact e
   exact(hM.JX c4).snoc (ji.JX c5 (Eh h1 h2 h3 h4 h5 ⟨_,T⟩ ⟨_,T⟩ ⟨_,T⟩ ⟨v f1,v f1,v f1⟩ ⟨v f2,v f2,v f2⟩ ⟨v f3,v f3,v f3⟩))
  ·rcases List.mem_append.mp hd with hd | hd
   ·exact O d hd
   ·simp only[List.mem_singleton]at hd;subst hd;exact hg
 intro mv H1 Sb hl v;nofun;obtain⟨Z,gV,mr,hM0,O⟩:=v;have hM:=hM0.JX Ie;generalize hDa:D=am at *;ac_rfl;left;calc⟨a,ns,_,rfl,Z.seq hS,(),λv=>⟨v,rfl,λp Sa R qx=>?_⟩⟩;have s2:=au.new (.lst (Sa.map V.int)) R;have xA:eJ (upd H1 p (.lst (Sa.map V.int))) p:=⟨_,ab,qx⟩
 generalize wY:upd H1 p (.lst (Sa.map V.int))=G2 at *;left;calc⟨V' _,λB v=>?_⟩;have s3:=au.new (.lst []) v;have UD:B≠p:=Step.ne xA v;have XM:=xA.same s3;have eaw:upd G2 B (.lst []) B=some (.lst []):=ab;have faw:H1 B=none:=s2.free v;have pP:=s2.trans s3;generalize JF:upd G2 B (.lst [])=G3 at *;left;calc kN p 11 rfl XM ∅ ⋯ (λx T q8 M v=>?_);refine⟨x,rfl,(),(),hJ (n:=x.toNat) (λi σ H'=>(∃S,σ=[some (.ref a),some (.int (1+g%5)),some (.ref am),some (.ref p),some (.ref B),S,none,none])/\eJ H' p/\au H1 H'/\∃(wv:List V) (ws:List (Int×Int×Str)),H' B=some (.lst wv)/\eS H' 1 wv (ws.map mn)/\ws.length=i/\∀w∈ws,va (1+g%5) w) ?_ ?_ ?_⟩
 ·exact⟨⟨_,rfl⟩,v.fC,v.over pP R,[],[],v.rest _ _ eaw UD,eS.nil,rfl,λw r=>by simp at r⟩
 ·intro i σ H5 hi pE;obtain⟨⟨S,rfl⟩,QU,s5,wv,ws,QV,hW,kr,Lf⟩:=pE;have Ig:wv.length=i:=by have:=hW.1;simp at this;lia
  left;calc⟨.inl ⟨rfl,_,aN.of QV⟩,?_⟩;have l5:(1+g%5).natAbs.log2<9000:=by
   have:1+g%5=1\/1+g%5=2\/1+g%5=3\/1+g%5=4\/1+g%5=5:=by lia
   rcases this with e|e|e|e|e<;>(rw[e];decide +kernel)
  refine dig QU () l5 λc x h60 h61 v=>?_;left;refine dig v.fC () l5 λU x h70 h71 M=>?_;have x:=v.trans M;left;refine⟨cY,λl hl=>?_⟩;have JR:=x.new (o:=.lst [.str "row",.str "heap"]) hl;have hlp:l≠p:=Step.ne x.fC hl;refine dig JR.fC ∅ ⋯ λk W hk0 hk1 JS=>?_;have aaT:=JR.trans JS;obtain⟨u,ew3,hw3⟩:∃u:Str,iJ [V.str "row",V.str "heap"] k=some (.str u)/\(u="row"\/u="heap"):=by
   have:k=0\/k=1:=by lia
   rcases this with rfl|rfl
   ·exact⟨_,ay (j:=0) rfl,.inl rfl⟩
   ·exact⟨_,ay (j:=1) rfl,.inr rfl⟩
  left;calc bA (JS.rest _ _ ab hlp) ew3 ?_;left;calc⟨by show 3<=sizeLine;decide,λt ht=>?_⟩;have I:=aaT.new (o:=.tup [.int c,.int U,.str u]) ht;have VR:=I.rest _ _ QV UD;have eT:upd W t (.tup [.int c,.int U,.str u]) t=some (.tup [.int c,.int U,.str u]):=ab;have X:=I.fC;have tA:=I.aM QU;have sA:au H1 (upd W t (.tup [.int c,.int U,.str u])):=I.over s5 R;generalize hGA:upd W t (.tup [.int c,.int U,.str u])=GA at *;left;have tB:cg GA (upd GA B (.lst (wv++[.ref t]))):=(cg.refl _).upd λys e=>by rw[VR]at e;cases e
  refine⟨_,VR,aA (),⟨_,rfl⟩,X.upd (Ne.symm UD),λb o e=>by rw[ax (ao e faw)];calc sA _ _ e,wv++[.ref t],ws++[(c,U,u)],ab,?_,by simp[kr],λw r=>?_⟩
  ·have h6:=((hW.aK tA).snoc (kL (n:=0) eT (.int c) (.int U) (.str u))).aK tB;simpa[mn] using h6
  ·rcases List.mem_append.mp r with r | r
   ·exact Lf w r
   ·simp only[List.mem_singleton]at r;subst r;exact⟨h60,h61,h70,h71,hw3⟩
 intro σ H5 sL;obtain⟨⟨S,rfl⟩,QU,s5,wv,ws,QV,hW,kr,Lf⟩:=sL;have Ig:wv.length=ws.length:=by have:=hW.1;simpa using this
 have Hf:=s5 _ _ Sb;have hM5:=hM.JX s5.JX;left;calc⟨a,ns,_,rfl,(Z.trans s5).seq hS,(),λv=>⟨v,rfl,λy Y F9 u=>?_⟩⟩;have s6:=au.new (.lst (Y.map V.int)) F9;have XN:eJ (upd H5 y (.lst (Y.map V.int))) y:=⟨_,ab,u⟩
 generalize Le:upd H5 y (.lst (Y.map V.int))=G6 at *;left;calc⟨V' _,λG u=>?_⟩;have s7:=au.new (.lst []) u;have PN:G≠y:=Step.ne XN u;have hp7:=XN.same s7;have eal:upd G6 G (.lst []) G=some (.lst []):=ab;have fal:H5 G=none:=s6.free u;have RG:=s6.trans s7;generalize Xs:upd G6 G (.lst [])=G7 at *;left;calc kN y 13 rfl hp7 ∅ ⋯ (λu M v x JR=>?_);refine⟨u,rfl,(),(),hJ (n:=u.toNat) (λi σ H'=>(∃S z7,σ=[some (.ref a),some (.int (1+g%5)),some (.ref am),some (.ref y),some (.ref B),S,some (.ref G),z7])/\eJ H' y/\au H5 H'/\∃(L:List V) (ls:List (Int×Int)),H' G=some (.lst L)/\eS H' 1 L (ls.map qI)/\ls.length<=i/\∀l∈ls,vb ws.length l) ?_ ?_ ?_⟩
 ·exact⟨⟨_,_,rfl⟩,JR.fC,JR.over RG F9,[],[],JR.rest _ _ eal PN,eS.nil,E' _,λw r=>by simp at r⟩
 ·intro i σ W hi wq;obtain⟨⟨S,z7,rfl⟩,hp9,N,L,ls,JL,hL,q9,qU⟩:=wq;have i:L.length=ls.length:=by have:=hL.1;simpa using this
  have i:=N _ _ QV;left;calc⟨V' _,λl0 u=>?_⟩;have m:=au.new (.lst []) u;have Ih:=m _ _ i;have XG:upd W l0 (.lst []) l0=some (.lst []):=ab;have Ii:=m _ _ JL;have QW:=hp9.same m;have Ej:=N.trans m;have VS:=hL.aK m.aM;generalize UU:upd W l0 (.lst [])=G10 at *;left
  cases ws with
  |nil=>
   have UN:wv=[]:=by simpa using Ig
   subst UN;calc .inl ⟨.inr ⟨_,_,_,_,rfl,rfl,.inr ⟨aN.of Ih,aN.of XG⟩,rfl,λj u v hu=>by simp at hu⟩,?_⟩;left
   try rw[if_neg Bool.false_ne_true]
   calc⟨⟨_,_,rfl,rfl⟩,QW,Ej,L,ls,Ii,VS,(),qU⟩
  |cons i u=>
   have i:0<(wv.length:Int):=by rw[Ig];simp
   have u:wv.length<=10:=by lia
   calc .inr ⟨⟨_,_,by simp[Ig],.inl ⟨aN.of Ih,aN.of XG⟩⟩,?_⟩;left
   try rw[if_pos trivial]
   calc bz _ (.inl ⟨_,aN.of Ih,rfl⟩) ?_;have v:((wv.length:Nat):Int).natAbs.log2<9000:=yN i ();calc dig QW i v λc RH aaY aaZ u=>?_;left;have i:=u.rest _ _ Ii PN;calc⟨.inl ⟨rfl,_,aN.of i⟩,?_⟩;left;calc⟨Aj,cY,λXO v=>?_⟩;have i:(10:Int)^Int.toNat 60=1000000000000000000000000000000000000000000000000000000000000:=by decide +kernel
   rw[i];have QY:=u.new (o:=.lst [.int 3,.int 1000000000000000000000000000000000000000000000000000000000000]) v;have aa0:XO≠y:=Step.ne u.fC v;have aa1:upd RH XO (.lst [.int 3,.int 1000000000000000000000000000000000000000000000000000000000000]) XO=some (.lst [.int 3,.int 1000000000000000000000000000000000000000000000000000000000000]):=ab;generalize aa2:upd RH XO (.lst [.int 3,.int 1000000000000000000000000000000000000000000000000000000000000])=G14 at *;calc dig QY.fC ∅ ⋯ λk i hk0 hk1 AH=>?_;obtain⟨y,ey,hy0,i,yI⟩:∃y:Int,iJ [V.int 3,V.int 1000000000000000000000000000000000000000000000000000000000000] k=some (.int y)/\0<y/\y<=1000000000000000000000000000000000000000000000000000000000000/\y.natAbs.log2<9000:=by
    have:k=0\/k=1:=by lia
    rcases this with rfl|rfl
    ·exact⟨_,ay (j:=0) rfl,∅,∅,⋯⟩
    ·exact⟨_,ay (j:=1) rfl,∅,∅,⋯⟩
   calc bA (AH.rest _ _ aa1 aa0) ey ?_;calc dig (QY.trans AH).fC hy0 yI λz VW i k j=>?_;have i:=(QY.trans AH).trans j;left;calc⟨cY,λt ht=>?_⟩;have I:=i.new (o:=.tup [.int c,.int z]) ht;have VX:=I.rest _ _ Ii PN;have eT:upd VW t (.tup [.int c,.int z]) t=some (.tup [.int c,.int z]):=ab;have X:=I.fC;have tA:=I.aM QW;have sA:au H5 (upd VW t (.tup [.int c,.int z])):=I.over Ej F9;generalize hGA:upd VW t (.tup [.int c,.int z])=GA at *;left;have tB:cg GA (upd GA G (.lst (L++[.ref t]))):=(cg.refl _).upd λys e=>by rw[VX]at e;cases e
   refine⟨_,VX,aA (),⟨_,_,rfl,rfl⟩,X.upd (Ne.symm PN),λb o e=>by rw[ax (ao e fal)];calc sA _ _ e,L++[.ref t],ls++[(c,z)],ab,?_,by simp;lia,λl hl=>?_⟩
   ·have h6:=((VS.aK tA).snoc (cH (n:=0) eT (.int c) (.int z))).aK tB;simpa[qI] using h6
   ·rcases List.mem_append.mp hl with hl | hl
    ·exact qU l hl
    ·simp only[List.mem_singleton]at hl;subst hl;exact⟨aaY,by have:=aaZ;rw[Ig]at this;calc this,by show 1-1000000000000000000000000000000000000000000000000000000000000<=z;lia,by show z<1000000000000000000000000000000000000000000000000000000000000;lia⟩
 intro σ W HV;obtain⟨⟨S,z7,rfl⟩,hp9,N,L,ls,JL,hL,q9,qU⟩:=HV;left;calc⟨by show 3<=sizeLine;decide,λt ht=>?_⟩;have m:=au.new (.tup [.ref am,.ref B,.ref G]) ht;calc q t am B G mv wv L gV ws ls _ (Z.trans (s5.trans (N.trans m))) ab (m _ _ (N _ _ Hf)) (m _ _ (N _ _ QV)) (m _ _ JL) (hM5.JX (N.trans m).JX) (hW.aK (N.trans m).aM) (hL.aK m.aM) ⟨(),(),(),(),O,λw r=>?_,qU⟩;have e:((gV.length:Nat):Int)=1+g%5:=by lia
 rw[e];calc Lf w r
theorem tE{C:Addr}{m:Addr}{M:Int}{a:List bx}(t:cg H H')(i:∀b c d e,H b=some (.ins c d e)->H' b=some (.ins c d e))(h:jT C H m M ns row a):jT C H' m M ns row a:=by
 obtain⟨a,st,dd,f,g,j⟩:=h;calc⟨a,st,dd,i _ _ _ _ f,g.aK t,j.aK t⟩
abbrev iA:Stmt:=top 70
inductive yS(C CN:Addr)(vs:List V)(H:Hp)(Q:VK):Prop
 |mk (x:V) (gV:List MD) (ws:List (Int×Int×Str)) (ls:List (Int×Int)) (h0:vs=[x]) (h1:ToldN H x gV ws ls) (h2:Cw gV ws ls) (h3:∀n ms wv lv H',au H H'->wz C CN H' n ⟨gV,ws⟩->mW CN H' n ms wv lv->eS H' 1 lv (ls.map qI)->Q (.ref n) H'):yS C CN vs H Q
def vq(C CN:Addr):Sp:=λvs H Q _=>yS C CN vs H Q
theorem tF(D:cM K mg "_law_net_made" "_law_net_made" iA ["_law_net_here"])(T:Tx K mg C CN CR F FD)(pX:xO P w K mg base "Machine" C 7 ["self","modulus","numbers","row","deeds"] (BY C))(Ij:xO P w K mg base "Net" CN 7 ["self","machines","ways","letters"] (yn C CN)):Def P w K mg base "_law_net_made" 9 ["_law_net_here"] (vq C CN):=by
 have sc:aB ["_law_net_here","_law_machines"] ["_law_net_here"] (av iA):=by walk_at "s"
 symm;obtain⟨x,gV,ws,ls,rfl,hT,g,q⟩:=h;have B:=hr.units;refine⟨_,(ag (fF (i:=1) sc.nd rfl Sort (N':=["_law_one"]) (ix:=[none]) (bM (aj B (aq 0) ai)) (λ_ _ _ _=>(aQ (i:=0) (show(["_law_one"]:List Str).Nodup by decide +kernel) rfl Sort)) mG (λ_ _ _ _=>(Gk pX hr (af (dz (K:=K) rfl B (aq 0) ai) (af (cZ (kK (K:=K) rfl) rfl T.dX xc (af (dz (K:=K) rfl B (aq 0) ai) aa)) (af (cZ (kK (K:=K) rfl) rfl T.dX xc (af (dz (K:=K) rfl B (aq 0) ai) aa)) (af (cZ (kK (K:=K) rfl) rfl T.dX xc (af (dz (K:=K) rfl B (aq 0) ai) aa)) aa)))))))
  (ak (aD (Gk Ij hr (af (aq 1) (af (cZ cG rfl T.dX xc (af (aj B (aq 0) ai) aa)) (af (cZ cG rfl T.dX xc (af (aj B (aq 0) ai) aa)) aa))))))),?_⟩
 obtain⟨t,am,aw,al,mv,wv,y,rfl,ht,Sb,QV,JL,hM,hW,hL⟩:=id hT;have t:mv.length<=5:=by have:=hM.1;have:=g.m5;lia
 right;calc bE ?_;right;calc di ht (ay (j:=0) rfl) ?_;right;calc .inl ⟨⟨_,aN.of Sb⟩,λD hD=>?_⟩;refine bb (J:=tU K am) (n:=mv.length) (λi ys H'=>∃ms:List Addr,ys=ms.map V.ref/\ms.length=i/\(∀(j:Nat) m d,ms[j]?=some m->gV[j]?=some d->RA C H' m d)/\au H H') (K' (aA ())) ⟨[],rfl,rfl,λj m d e=>by simp at e,au.new _ hD⟩ ?_ ?_ ?_ ?_
 ·intro i ys H' mj t;obtain⟨_,_,_,_,p⟩:=t;exact⟨_,mv[i],aN.of (p _ _ Sb),cN mj⟩
 ·intro ys H' t;obtain⟨_,_,_,_,p⟩:=t;exact⟨_,aN.of (p _ _ Sb),E' _⟩
 ·intro i ys H' mj bo hl mV x U pE;nofun;obtain⟨ms,rfl,Vb,Au,p⟩:=mV;obtain⟨rfl,t⟩:=pE;have ex:=t _ (aN.of (p _ _ Sb));have ie:i < gV.length:=by have:=hM.1;lia
  have u:=g.mg _ (aab ie);obtain⟨tt,ln,lr,ld,W,rfl,R,h2,h3,h4,h5⟩:=(hM.2 i x gV[i] ex (cN ie)).cv p.cv;generalize hmd:gV[i]=k at *;ac_rfl;walk_at "xf";right;rw[if_pos trivial];refine cw _ _ (.inr (bL.of R)) (ay (j:=0) rfl) ?_;refine cw _ _ (.inr (bL.of R)) (ay (j:=1) rfl) ?_;right;refine bz _ (.inl (aN.of h2)) (λr BV=>?_);have t:=au.new (.lst (k.ns.map V.int)) BV;refine cw _ _ (.inr (bL.of (t _ _ R))) (ay (j:=2) rfl) ?_;right;refine bz _ (.inl (aN.of (t _ _ h3))) (λv uM=>?_);have B:=au.new (.lst (k.row.map V.int)) uM;refine cw _ _ (.inr (bL.of (B _ _ (t _ _ R)))) (ay (j:=3) rfl) ?_;right;refine bz _ (.inl (aN.of (B _ _ (t _ _ h4)))) (λl3 T=>?_);have G:=au.new (.lst W) T;have X:=t.trans (B.trans G);have l:=G _ _ (B _ _ (ab (H:=U) (a:=r) (o:=.lst (k.ns.map V.int))));have I:=G _ _ (ab (H:=upd U r (.lst (k.ns.map V.int))) (a:=v) (o:=.lst (k.row.map V.int)));have e3:upd (upd (upd U r (.lst (k.ns.map V.int))) v (.lst (k.row.map V.int))) l3 (.lst W) l3=some (.lst W):=ab;generalize Le:upd (upd (upd U r (.lst (k.ns.map V.int))) v (.lst (k.row.map V.int))) l3 (.lst W)=G6 at *;intro m L Y Ng aa4;have N:au G6 (upd (upd G6 L (.own m)) m (.ins C L [])):=λb o e=>by rw[ax (ao e Y),ax (ao e Ng)];exact e
  have t:=X.trans N;calc⟨m,L,k.M,r,v,l3,k.ns,k.row,W,k.ds,2,rfl,ab,u.m2,u.Y0,.inl (N _ _ l),.inl (N _ _ I),.inl (N _ _ e3),u.l1,u.l4,u.r12,u.bn,u.br,(h5.aK t.aM).dl,∅,u.Xh,u.ok,λZ Cn B=>⟨rfl,?_⟩⟩;have O:au U Z:=λb o e=>B b o (ao (X _ _ e) Y) (t _ _ e);have wI:=O _ _ bo;have t7:cg Z (upd Z D (.lst (ms.map V.ref++[.ref m]))):=(cg.refl _).upd λk e=>by rw[wI]at e;cases e
  have i7:∀b c d e,Z b=some (.ins c d e)->upd Z D (.lst (ms.map V.ref++[.ref m])) b=some (.ins c d e):=λb c d e h=>by
   rw[ax (λz=>by subst z;rw[wI]at h;cases h)];exact h
  refine bT wI hl mj (K' (aA ())) ⟨ms++[m],nofun,by simp[Vb],λj k d l I=>?_,λb o e=>?_⟩
  ·by_cases hj:j < ms.length
   ·rw[List.getElem?_append_left hj]at l;exact tE t7 i7 ((Au j k d l I).same O)
   ·rw[List.getElem?_append_right ()] at l
    cases JV:j-ms.length with
    |succ k=>rw[JV]at l;simp at l
    |zero=>
     rw[JV]at l;nofun;obtain rfl:=Option.some.inj l;have Rw:j=i:=by lia
     subst Rw;rw[cN ie,hmd]at I;obtain rfl:=Option.some.inj I;ac_rfl;exact tE t7 i7 Cn
  ·rw[ax (ao e hD)];exact O _ _ (p _ _ e)
 intro ys H4 bo hl sL;obtain⟨ms,rfl,Vb,Au,p⟩:=sL;have mr:ms.length=gV.length:=by have:=hM.1;lia
 have i:=p _ _ ht;right;calc cw _ _ (.inr (bL.of i)) (ay (j:=1) rfl) ?_;right;calc bz _ (.inl (aN.of (p _ _ QV))) (λr BV=>?_);have G:=au.new (.lst wv) BV;calc cw _ _ (.inr (bL.of (G _ _ i))) (ay (j:=2) rfl) ?_;right;calc bz _ (.inl (aN.of (G _ _ (p _ _ JL)))) (λv uM=>?_);have N:=au.new (.lst y) uM;have l:=N _ _ (ab (H:=H4) (a:=r) (o:=.lst wv));have I:upd (upd H4 r (.lst wv)) v (.lst y) v=some (.lst y):=ab;have w6:=G.trans N;generalize Xs:upd (upd H4 r (.lst wv)) v (.lst y)=G7 at *;have k:wv.length=ws.length:=by have:=hW.1;simpa using this
 have i:y.length=ls.length:=by have:=hL.1;simpa using this
 intro x L Y Ng aa4;have S:au G7 (upd (upd G7 L (.own x)) x (.ins CN L [])):=λb o e=>by rw[ax (ao e Y),ax (ao e Ng)];exact e
 have i:=p.trans (w6.trans S);have t:=g.m1;have t:=g.m5;have t:=g.Fx;have t:=g.QT;refine⟨x,L,D,r,v,ms,wv,y,ws,ls,rfl,ab,S _ _ (w6 _ _ bo),S _ _ l,S _ _ I,(),(),(),(),λm hm=>?_,hW.aK i.aM,hL.aK i.aM,λw r=>by rw[mr];calc g.wo w r,λl hl=>by rw[k];calc g.lo l hl,λH9 hn9 hk9=>⟨rfl,?_⟩⟩
 ·nofun;obtain⟨j,hj,rfl⟩:=List.getElem_of_mem hm;obtain⟨i,k,l,R,_,_⟩:=(Au j _ gV[j] (cN hj) (cN ())).same (w6.trans S);ac_rfl;exact⟨_,_,R⟩
 ·have k:au H4 H9:=λb o e=>hk9 b o (ao (w6 _ _ e) Y) (S _ _ (w6 _ _ e));have i:=p.trans k;calc q x ms wv y H9 i ⟨⟨ms,wv,y,hn9,mr,λj m d a b=>(Au j m d a b).same k,hW.aK i.aM⟩,g.nt⟩ hn9 (hL.aK i.aM)
def oN(n:NT)(r:RS)(w k:Nat):List Int:=match (r.ww w).snd.getD k none with
 |none=>(r.mm (n.goal w)).hr.bg (List.replicate n.ms.length 0)
 |some (s,c)=>List.zipWith max ((r.mm (n.goal w)).hr.bg (List.replicate n.ms.length 0)) ((r.mm s.toNat).hr.getD (c-1).toNat [])
theorem LU{n:NT}{w k:Nat}:n.gc r w k=(oN n r w k).set (n.goal w) (n.ev r w).2:=rfl
theorem LV{l:List Int}{m:Nat}{c:Int}{n:Nat}(a:l.length=n)(b:m<n):((List.range n).map λj=>V.int (l.getD j 0+(if decide (((j:Nat):Int)=((m:Nat):Int))=true then 1 else 0))).set m (.int c)=(l.set m c).map V.int:=by
 apply List.ext_getElem (by simp[a]);intro j b d;have e:j<n:=by simpa using b
 simp only[List.getElem_map,List.getElem_set,List.getElem_range];by_cases z:m=j
 ·rw[if_pos z,if_pos z]
 ·rw[if_neg z,if_neg z,if_neg (by simp;lia),getD_at (cN ()),Int.add_zero]
theorem Q0{l:List (Option (Int×Int))}{k:Nat}{a:List (Key×V)}{v:V}(h:OR H0 (.d (iK l) (l.countP Option.isSome)) (.dK a))(b:l[k]?=some none)(c:HD H0 4 v (pairD e)):OR H0 (.d (iK (l.set k (some e))) ((l.set k (some e)).countP Option.isSome)) (.dK (putK a (Sum.inl ((k:Nat):Int)) v)):=by
 have f:k<l.length:=(List.getElem?_eq_some_iff.mp b).1;have g:fU a (Sum.inl ((k:Nat):Int))=none:=by
  have:=h.2 ((k:Nat):Int);have a:iK l ((k:Nat):Int)=none:=by
   unfold iK;rw[if_pos (),Int.toNat_natCast,getD_at b];rfl
  rw[a]at this;exact this
 refine⟨?_,λj=>?_⟩
 ·rw[Fp v g,count_set b,List.length_append,List.length_singleton];have:=h.1;lia
 ·rw[Ia f,Fo];by_cases z:j=((k:Nat):Int)
  ·rw[if_pos z,if_pos (by rw[z])];exact⟨v,rfl,c⟩
  ·rw[if_neg z,if_neg (λq=>z (Sum.inl.inj q))];calc h.2 j
theorem LW{r:RS}{n:NT}{w k:Nat}:∀t i,i<n.n t->setC (setC (setC (setC (setC r.tv 3 (n.goal w) (.l (((r.mm (n.goal w)).hr.map λu=>DV.lst (u.map .int))++[.lst ((n.gc r w k).map .int)]))) 6 w (.d (iK ((r.ww w).cD.set k (some (n.ev r w)))) (((r.ww w).cD.set k (some (n.ev r w))).countP Option.isSome))) 1 (n.goal w) (.l ((r.mm (n.goal w)).dQ.map qE++[qE ((n.work r w k).ns,(n.work r w k).row)]))) 2 (n.goal w) (.l (((r.mm (n.goal w)).wp.map λu=>DV.lst (u.map .int))++[.lst (((r.mm (n.goal w)).wp.bg []++(n.work r w k).words).map .int)]))) 0 0 (.l (r.picks.map pairD++[pairD ((w:Int),(k:Int))])) t i=(r.step n w k).tv t i:=by
 intro t i a;unfold setC
 match t,a with
 |0,a=>
  have:i=0:=by have:i<1:=a;lia
  subst this;simp[RS.tv,RS.step]
 |1,_=>by_cases e:i=n.goal w<;>simp[RS.tv,RS.step,e]
 |2,_=>by_cases e:i=n.goal w<;>simp[RS.tv,RS.step,e]
 |3,_=>by_cases e:i=n.goal w<;>simp[RS.tv,RS.step,e]
 |4,_=>by_cases e:i=w<;>simp[RS.tv,RS.step,e]
 |5,_=>by_cases e:i=w<;>simp[RS.tv,RS.step,e]
 |6,_=>by_cases e:i=w<;>simp[RS.tv,RS.step,e]
 |(t+7),a=>calc absurd a (aaA i)
theorem Ik{r:RS}{n:NT}{w:Nat}{x:Int}{s:Option (Int×Int)}:∀t i,i<n.n t->setC (setC r.tv 4 w (.l ((r.ww w).say.map .int++[.int x]))) 5 w (.l ((r.ww w).snd.map ml++[ml s])) t i=(r.put w x s).tv t i:=by
 intro t i a;unfold setC
 match t,a with
 |0,_=>simp[RS.tv,RS.put]
 |1,_=>simp[RS.tv,RS.put]
 |2,_=>simp[RS.tv,RS.put]
 |3,_=>simp[RS.tv,RS.put]
 |4,_=>by_cases e:i=w<;>simp[RS.tv,RS.put,e]
 |5,_=>by_cases e:i=w<;>simp[RS.tv,RS.put,e]
 |6,_=>by_cases e:i=w<;>simp[RS.tv,RS.put,e,Ed]
 |(t+7),a=>calc absurd a (aaA i)
theorem oO{H:Hp}{n:Nat}{v:V}{ns:List Int}(h:HD H n v (.lst (ns.map .int))):∃a,v=.ref a/\H a=some (.lst (ns.map V.int)):=by
 cases h with
 | @lst n a b _ e l i=>calc⟨a,rfl,by rw[e,show b=ns.map V.int from ei.kM ⟨l,i⟩]⟩
theorem Il{x y:HO}(h:a≠b):upd (upd H a x) b y=upd (upd H b y) a x:=by
 funext c;by_cases d:c=a
 ·subst d;rw[ax h,ab,ab]
 ·by_cases e:c=b
  ·subst e;rw[ab,ax d,ab]
  ·rw[ax e,ax d,ax d,ax e]
theorem Cz{K:W.Frag}{j:Addr}{nt:NT}{g:Nat}{e:Nat}(u:e<2)(f:H j=some (.lst wv))(o:eS H 1 wv (nt.ws.map mn))(O:wv.length<=10)(v:σ[3]?=some (some (.int ((g:Nat):Int))))(p:H D=none)(q:∀H1,au H H1->H1 D=some (.lst ((uk nt e g).map λi=>V.int ((i:Nat):Int)))->Q (.ref D) H1):kJ [none,none,some 3] (KN true K j) (C8 K 2 (jC (eU 0) (jC (eU 1) C0))) (tT (EX (Pt K) (EX (O2 K) (tV 1) (tC (V.int ((e:Nat):Int)))) (tV 2))) (tV 0) σ H Q D:=by
 have x:wv.length=nt.ws.length:=by simpa using o.1
 have z:t9 [none,none,some 3] σ=[none,none,some (.int ((g:Nat):Int))]:=by simp[t9,v]
 refine bb (n:=wv.length) (λi ys H'=>au H H'/\ys=((List.range i).filter λj=>decide (sT nt e j=((g:Nat):Int))).map λj=>V.int (j:Nat)) (K' (aA ())) ⟨au.new _ p,rfl⟩ ?_ ?_ ?_ ?_
 ·rintro i ys H' h ⟨a,_⟩;exact⟨wv,wv[i],Sq.l (a _ _ f),cN h⟩
 ·rintro ys H' ⟨a,_⟩;exact⟨wv,Sq.l (a _ _ f),rfl⟩
 ·intro i ys H' h d r A P R B;rw[z];obtain⟨a,rfl⟩:=A;obtain⟨k,C,rfl,y⟩:=B;obtain⟨b,E,rfl⟩:=y wv (Sq.l (a _ _ f));have j:i < nt.ws.length:=by lia
  have m:=au.new (.tup [.int (i:Nat),b]) C;have F:=(o.2 i b (mn (nt.w i)) E (by rw[List.getElem?_map,show nt.ws[i]?=some (nt.w i) from aS j];rfl)).aK (a.trans m).aM;have I:upd H' k (.tup [.int (i:Nat),b]) k=some (.tup [.int (i:Nat),b]):=ab;have s:=m _ _ d;have t:=a.trans m;generalize S:upd H' k (.tup [.int (i:Nat),b])=G at *;obtain⟨T,U,X,Y,Z,rfl,J,L,M,N⟩:=bS F;obtain rfl:=L.cE;obtain rfl:=M.cE;obtain rfl:=N.cP;calc tP (bL.of I) ⟨Ext.set (Ext.set (Ext.refl _) rfl) rfl,?_⟩;left;refine di J (show iJ _ ((e:Nat):Int)=some (.int (sT nt e i)) from ay (by match e,u with
   |0,_=>rfl
   | 1,_=>rfl)) ?_
  left;by_cases z:sT nt e i=((g:Nat):Int)
  ·rw[if_pos (decide_eq_true z)];calc bT s r h (K' (aA ())) ⟨λc o e=>by rw[ax (ao e p)];calc t _ _ e,?_⟩;rw[fw,if_pos (decide_eq_true z),List.map_append];rfl
  ·rw[if_neg λh=>z (of_decide_eq_true h)];exact⟨_,s,(),t,by rw[fw,if_neg λh=>z (of_decide_eq_true h),List.append_nil]⟩
 ·rintro ys H1 d r ⟨a,rfl⟩;rw[x]at d;calc q H1 a d
abbrev nu:Stmt:=top 67
inductive Im(vs:List V)(H:Hp)(Q:VK):Prop
 |mk (F:Addr->Prop) (d:Addr) (tn:V) (nt:NT) (r:RS) (ad:Nat->Nat->Addr) (wy k:Nat) (h0:vs=[.ref d,.int (wy:Nat),.int (k:Nat)]) (h1:bU F H d tn nt r ad) (h2:FS F H) (h3:r.Ok nt) (h4:r.JO nt wy k) (h5:r.picks.length<=400) (h6:∀t H',Fr (FP nt.n ad) H H'->bU F H' d tn nt (r.pick nt wy k) ad->HT H' 1 t (pairD (nt.ev r wy))->Q t H'):Im vs H Q
def wJ:Sp:=λvs H Q _=>Im vs H Q
theorem AM(D:cM K mg "_law_pick" "_law_pick" nu ["_law_run","_law_way","_law_number"])(T:Tx K mg C CN CR F FD)(j0:Def P w K mg base "_law_worked" 2 ["_law_machine_here","_law_state","_law_way","_law_said"] (Cu K)):Def P w K mg base "_law_pick" 3 ["_law_run","_law_way","_law_number"] wJ:=by
 have sc:aB ["_law_run","_law_way","_law_number","_law_m","_law_place","_law_outs","_law_event","_law_state","_law_sent","_law_words","_law_row","_law_source","_law_c","_law_j","_law_said"] ["_law_run","_law_way","_law_number"] (av nu):=by walk_at "s"
 symm;obtain⟨F,d,tn,m,r,ad,B,k,rfl,M,ma,O,hc,jM,q⟩:=h;have G:=hr.units;have DN:=Xk G;refine⟨_,(ag (aY (i:=3) sc.nd rfl Sort (aj G (aj G (aj G (aj G (aq 0) aC) ai) (aq 1)) ai))
  (ag (aY (i:=4) sc.nd rfl Sort (dy mH PySem.F.slot_list_index PySem.F.type_list_index uW (cX (N':=["_law_k","_law_told","_law_m"]) (ix:=[none,none,some 3]) (fG rfl T.cu (af (aj G (aj G (aq 0) aC) ai) aa)) (λ_ _ _ _=>(iP (K:=K) rfl (i:=0) (j:=1) rfl (show(["_law_k","_law_told","_law_m"]:List Str).Nodup by decide +kernel) rfl rfl Sort Sort)) (λ_ _ _ _=>(iO (az (oz (K:=K) rfl G) (dz (K:=K) rfl G (aq 1) ai) (aq 2) (aE _)))) (λ_ _ _ _=>(aq 0))) (af (aq 1) aa)))
  (ag (fF (i:=5) sc.nd rfl Sort (N':=["_law_k","_law_told","_law_m"]) (ix:=[none,none,some 3]) (fG rfl T.cu (af (aj G (aj G (aq 0) aC) ai) aa)) (λ_ _ _ _=>(iP (K:=K) rfl (i:=0) (j:=1) rfl (show(["_law_k","_law_told","_law_m"]:List Str).Nodup by decide +kernel) rfl rfl Sort Sort)) (λ_ _ _ _=>(iO (az (oz (K:=K) rfl G) (dz (K:=K) rfl G (aq 1) ai) (aq 2) (aE _)))) (λ_ _ _ _=>(aq 0)))
  (ag (aY (i:=6) sc.nd rfl Sort (bD (af (aq 3) (af (aW aL rfl T.bZ M' (af (aj G (aj G (aq 0) aC) (aq 3)) aa)) aa))))
  (ag (eD (aJ j0 hr (af (aj G (aj G (aj G (aq 0) aC) ai) (aq 3)) (af (aj G (aj G (aj G (aq 0) aC) (aq 3)) (kG ia ai)) (af (aq 4) (af (aj G (aj G (aj G (aq 0) aC) (aq 1)) (aq 2)) aa))))) (r8 (i:=7) (j:=8) (l:=9) rfl sc.nd rfl rfl rfl Sort Sort Sort))
  (ag (aY (i:=10) sc.nd rfl Sort (aj G (bc c8 (bG (af (bc rZ (bG (af ai aa)) (aW aL rfl T.bZ M' (af (aj G (aj G (aq 0) aC) ai) aa))) aa)) (aj G (aj G (aq 0) aC) (aq 3))) (kG ia ai)))
  (ag (aR (az l7 (aj G (aj G (aj G (aq 0) aC) (aq 1)) (aq 2)) hX (aE _)) (ag (eD (aj G (aj G (aj G (aq 0) aC) (aq 1)) (aq 2)) (eQ (i:=11) (j:=12) rfl sc.nd rfl rfl Sort Sort))
  (ak (ER (i:=10) sc.nd rfl Sort (cX (N':=["_law_one","_law_other"]) (ix:=[none,none]) (zR rfl T.BN (af (aq 10) (af (aj G (aj G (aj G (aq 0) aC) (aq 11)) (bc eN (aq 12) ai)) aa))) (λ_ _ _ _=>(iP (K:=K) rfl (i:=0) (j:=1) rfl (show(["_law_one","_law_other"]:List Str).Nodup by decide +kernel) rfl rfl Sort Sort)) mG (λ_ _ _ _=>(aW (uS rfl) rfl T.GR PyProof.Rows.boot_max (af (aq 0) (af (aq 1) aa))))) rfl))) aH)
  (ag (bI (dy mH qr qt bV (aj G (aj G (aq 0) aC) (aq 3)) (af (cX (N':=["_law_k","_law_row","_law_m"]) (ix:=[none,some 10,some 3]) (cT rfl T.eA (af (aW aL rfl T.bZ M' (af (aq 10) aa)) aa)) (λ_ _ _ _=>(aQ (i:=0) (show(["_law_k","_law_row","_law_m"]:List Str).Nodup by decide +kernel) rfl Sort)) mG (λ_ _ _ _=>(bc c8 (dz (K:=K) rfl G (aq 1) (aq 0)) (cZ Dg rfl T.GQ PyProof.Rows.boot_int (af (lV (oz (K:=K) rfl G) (aq 0) (aq 2) (aE _)) aa))))) aa)))
  (ag (eD (aj G (aq 6) ai) (iV (aj G (aj G (aj G (aq 0) aC) (aq 3)) (kG ia ai)) (aq 3) dU))
  (ag (lW DN (aj G (aj G (aq 0) aC) (aq 1)) (aq 2) (aq 6) rfl)
  (ag (bI (dy mH qr qt bV (aj G (aj G (aq 0) aC) (aq 3)) (af (aq 7) aa)))
  (ag (bI (dy mH qr qt bV (aj G (aj G (aq 0) aC) (aq 3)) (af (bc c8 (aj G (aj G (aj G (aq 0) aC) (aq 3)) (kG ia ai)) (aq 9)) aa)))
  (ag (bI (dy mH qr qt bV (aj G (aq 0) aC) (af (bD (af (aq 1) (af (aq 2) aa))) aa)))
  (ag (dj PassesOwn.never rfl (bM (pv 8)) (eQ (i:=13) (j:=14) rfl sc.nd rfl rfl Sort Sort)
  (ak (aR (az gG (aq 13) (aW aL rfl T.bZ M' (af (aq 5) aa)) (aE _)) (ag (bI (dy mH qr qt bV (aj G (aj G (aq 0) aC) (aj G (aq 5) (aq 13))) (af (aq 14) aa)))
  (ak (bI (dy mH qr qt bV (aj G (aj G (aq 0) aC) (aj G (aq 5) (aq 13))) (af (aq 6) aa))))) aH)))
  (ak (aD (aq 6))))))))))))))))),?_⟩
 nofun;obtain⟨o,N,nF,nP,ho⟩:=M.dk;obtain⟨ls,tt,am,aw,al,mv,wv,lv,rfl,h1,h2,h3,h4,h5,h6,h7⟩:=M.told;have g1:=(dC h1 (λk z=>by cases z)).2;have g2:=(dC h2 (λk z=>by cases z)).2;have g3:=(dC h3 (λk z=>by cases z)).2
 replace h5:=h5.cv c9
 replace h6:=h6.aK c9.aM
 have W:=M.ok;have L:=hc.lt;have I:=W.gX L;have kr:wv.length=m.ws.length:=by simpa using h6.1
 have mr:mv.length=m.ms.length:=h5.1;have pK:wv.length<=10:=by rw[kr];exact W.zX
 have Hf:m.ms.length<=5:=W.My;obtain⟨wk1,ZR,wk3,ZS⟩:=qX W O L k;ac_rfl;have wc:k<(r.ww B).say.length:=by rw[O.lk B L];exact(List.getElem?_eq_some_iff.mp hc.lies).1
 left;calc bz _ (Ea N) ?_;left;calc di g1 (ay (j:=1) rfl) ?_;have US:m.ws[B]?=some (m.w B):=aS L;have agE:B<wv.length:=by lia
 have zi:=h6.2 B wv[B] (mn (m.w B)) nofun (by rw[List.getElem?_map,US];rfl);nofun;obtain⟨ta,u1,u2,u3,kk,eta,wA,q1,q2,q3⟩:=bS zi;obtain rfl:=q1.cE;obtain rfl:=q2.cE;obtain rfl:=q3.cP;ac_rfl;calc bA g3 (ay (j:=B) (v:=.ref ta) (by rw[<-eta];simp)) ?_;calc di wA (show iJ _ 1=some (.int ((m.goal B:Nat):Int)) from by rw[<-rf W L];calc ay (j:=1) rfl) ?_;left;calc bE ?_;left;calc bz _ (Ea ((au.refl H) _ _ N)) ?_;left;calc di ((au.refl H) _ _ g1) (ay (j:=1) rfl) ?_;left;calc z8 true wv (Sq.l ((au.refl H) _ _ g3)) (λD1 Ez=>?_);calc Cz ∅ g3 h6 pK rfl Ez (λH1 s1x H1e=>?_);have Q1:au H H1:=s1x;left;calc⟨.inl ⟨rfl,_,aN.of H1e⟩,?_⟩;obtain⟨ZT,ZU⟩:=sZ (HF W L);refine⟨D1,_,m.place B,B,rfl,rfl,by rw[H1e,vh],?_,?_,?_⟩
 ·rw[List.getElem?_map,<-oI W L,ZT];rfl
 ·intro i y hi hy;rw[List.getElem?_map]at hy;obtain⟨z,hz,rfl⟩:=Option.map_eq_some_iff.mp hy;have:=ZU i z (by rw[oI W L];calc hi) hz;lia
 left;calc bE ?_;left;calc bz _ (Ea (Q1 _ _ N)) ?_;left;calc di (Q1 _ _ g1) (ay (j:=1) rfl) ?_;left;calc z8 true wv (Sq.l (Q1 _ _ g3)) (λD2 D9=>?_);calc Cz ∅ (Q1 _ _ g3) (h6.aK Q1.aM) pK rfl D9 (λH2 s2x H2e=>?_);have XR:au H H2:=Q1.trans s2x;left;calc bz _ (AJ (XR _ _ N)) ?_;have o1:=ho 1 ∅ ∅;have o2:=ho 2 ∅ ∅;have o3:=ho 3 ∅ ∅;have o4:=ho 4 ∅ ∅;have o5:=ho 5 ∅ ∅;have o6:=ho 6 ∅ ∅;have i0:0<m.n 0:=by show 0<1;decide
 obtain⟨v1,e1,d1⟩:=M.cn.lst (t:=1) (i:=m.goal B) I rfl;have z1:v1.length=(r.mm (m.goal B)).dQ.length:=by simpa using d1.1
 have VJ:=O.v8 I;left;calc bA (XR _ _ o1.1) (aV I) ?_;calc gB _ (.inl ⟨_,aN.of (XR _ _ e1),rfl⟩) cY (λev Xr=>?_);rw[z1];have MP:=au.new (.tup [.int ((m.goal B:Nat):Int),.int (((r.mm (m.goal B)).dQ.length:Nat):Int)]) Xr;have R:=XR.trans MP;have aa7:HT (upd H2 ev (.tup [.int ((m.goal B:Nat):Int),.int (((r.mm (m.goal B)).dQ.length:Nat):Int)])) 1 (.ref ev) (pairD (m.ev r B)):=cH (n:=0) ab (.int _) (.int _);have aa8:upd H2 ev (.tup [.int ((m.goal B:Nat):Int),.int (((r.mm (m.goal B)).dQ.length:Nat):Int)]) ev=some (.tup [.int ((m.goal B:Nat):Int),.int (((r.mm (m.goal B)).dQ.length:Nat):Int)]):=ab;generalize JF:upd H2 ev (.tup [.int ((m.goal B:Nat):Int),.int (((r.mm (m.goal B)).dQ.length:Nat):Int)])=H3 at *;have H3o:=MP _ _ H2e;left;calc bz _ (Ea (R _ _ N)) ?_;left;calc di (R _ _ g1) (ay (j:=0) rfl) ?_;have agJ:m.goal B<mv.length:=by lia
 have ZW:m.ms[m.goal B]?=some (m.ms.getD (m.goal B) default):=aS I;obtain⟨mt,ln,lr,ld,xsd,emt,t1,t2,t3,t4,t5⟩:=h5.2 (m.goal B) mv[m.goal B] _ nofun ZW;have Lq:=W.gd I;calc bA (R _ _ g2) (ay (j:=m.goal B) (v:=.ref mt) (by rw[<-emt];simp)) ?_;calc bz _ (AJ (R _ _ N)) ?_;left;calc bA (R _ _ o1.1) (aV I) ?_;obtain⟨sv,esv,dsv⟩:=d1.get (i:=(r.mm (m.goal B)).dQ.length-1) (d:=qE ((r.mm (m.goal B)).dQ.bg ([],[]))) (by rw[List.getElem?_map,jJ (d:=([],[])) VJ];rfl);have Ce:=(HA (dsv.cv c9)).aK R.aM;calc bA (R _ _ e1) (jY () (by rw[z1];calc esv)) ?_;left;calc bz _ (Eb (R _ _ N)) ?_;nofun;obtain⟨v4,e4,d4⟩:=M.cn.lst (t:=4) (i:=B) L rfl;have z4:=d4.kM;subst z4;ac_rfl;left;calc bA (R _ _ o4.1) (aV L) ?_;calc bA (R _ _ e4) (ay (j:=k) (v:=.int ((r.ww B).say.getD k 0)) (by rw[List.getElem?_map,aS (d:=0) wc];rfl)) ?_;have tf:=O.last I;calc⟨mt,ln,lr,ld,sv,_,_,_,xsd,_,_,_,rfl,R _ _ t1,R _ _ t4,t5.aK R.aM,xS.of Ce,Lq.m2,Lq.Y0,tf.bn,tf.lr,Lq.Xh,by rw[tf.ln];calc Lq.ok,λrx H4 Nj Qd=>?_⟩;have XS:=R.trans Nj;nofun;obtain⟨rp,JP,RF,MT,zs,rfl,ZX,Aw,Qe,kU,Ax,ZY,fl2,Z0⟩:=Qd.ex
 replace Aw:HT H4 2 JP (xQ (m.work r B k).ns (m.work r B k).row):=Aw
 replace kU:SL H4 zs (m.work r B k).cI:=kU
 replace Ax:H4 MT=some (.lst ((m.work r B k).words.map V.int)):=Ax
 ac_rfl;have VZ:=aa7.aK Nj.aM;have aa9:=Nj _ _ aa8;have H4o:=Nj _ _ H3o;calc un3 (bL.of ZX) ?_;left;calc⟨∅,λlz hlz=>?_⟩;have MR:=au.new (.lst [.int 0]) hlz;have elz:upd H4 lz (.lst [.int 0]) lz=some (.lst [.int 0]):=ab;generalize RB:upd H4 lz (.lst [.int 0])=H5 at *;have P0:=XS.trans MR;calc bz _ (Ea (P0 _ _ N)) ?_;left;calc di (P0 _ _ g1) (ay (j:=0) rfl) ?_;calc bz _ (.inl ⟨_,aN.of (P0 _ _ g2),rfl⟩) ?_;calc Gr _ elz () () (λS hlq=>?_);rw[Int.toNat_natCast,mr];have Z1:=au.new (.lst (List.replicate m.ms.length (V.int 0))) hlq;have Se:upd H5 S (.lst (List.replicate m.ms.length (V.int 0))) S=some (.lst ((List.replicate m.ms.length 0).map V.int)):=by rw[ab,List.map_replicate]
 generalize Le:upd H5 S (.lst (List.replicate m.ms.length (V.int 0)))=H6 at *;calc⟨∅,λla hla=>?_⟩;have w6:=au.new (.lst [.ref S]) hla;have ela:upd H6 la (.lst [.ref S]) la=some (.lst [.ref S]):=ab;generalize Xs:upd H6 la (.lst [.ref S])=H7 at *;have VY:=MR.trans (Z1.trans w6);have sH7:=XS.trans VY;calc bz _ (Ec (sH7 _ _ N)) ?_;obtain⟨v3,e3,d3⟩:=M.cn.lst (t:=3) (i:=m.goal B) I rfl;have z3:v3.length=(r.mm (m.goal B)).hr.length:=by simpa using d3.1
 have hlh:=O.lh _ I;have Z7:=O.bp _ I;left;calc bA (sH7 _ _ o3.1) (aV I) ?_;calc .inl ⟨_,_,ela,sH7 _ _ e3,K' (small (by simp;lia)),λlb hlb=>?_⟩;have s78:=au.new (.lst ([.ref S]++v3)) hlb;have elb:upd H7 lb (.lst ([.ref S]++v3)) lb=some (.lst ([.ref S]++v3)):=ab;generalize Z4:upd H7 lb (.lst ([.ref S]++v3))=H8 at *;have s48:=VY.trans s78;have X:=XS.trans s48;have V0:∃rl,iJ ([V.ref S]++v3) (-1)=some (.ref rl)/\H8 rl=some (.lst (((r.mm (m.goal B)).hr.bg (List.replicate m.ms.length 0)).map V.int)):=by
  by_cases h1:1<=(r.mm (m.goal B)).hr.length
  ·nofun;obtain⟨v,ZQ,dv⟩:=d3.get (i:=(r.mm (m.goal B)).hr.length-1) (d:=.lst (((r.mm (m.goal B)).hr.bg (List.replicate m.ms.length 0)).map .int)) (by rw[List.getElem?_map,jJ (d:=List.replicate m.ms.length 0) h1];rfl);obtain⟨a,rfl,ea⟩:=oO (dv.cv c9);ac_rfl;calc⟨a,jY nofun ?_,X _ _ ea⟩;rw[List.length_append,List.length_singleton,List.getElem?_append_right (by simp;lia)];rw[show 1+v3.length-1 - [V.ref S].length=(r.mm (m.goal B)).hr.length-1 by simp;lia];exact ZQ
  ·have ez:(r.mm (m.goal B)).hr=[]:=List.length_eq_zero_iff.mp ();have ev3:v3=[]:=List.length_eq_zero_iff.mp ();refine⟨S,?_,?_⟩
   ·rw[ev3];exact jY nofun rfl
   ·rw[ez];show H8 S=some (.lst (List.map V.int (List.getD ([]:List (List Int)) _ _)));exact s78 _ _ (w6 _ _ Se)
 obtain⟨rl,erl,yA⟩:=V0;calc bA elb erl ?_;left;calc bz _ (HZ (X _ _ N)) ?_;obtain⟨v5,e5,d5⟩:=M.cn.lst (t:=5) (i:=B) L rfl;have Hg:=O.ls B L;left;calc bA (X _ _ o5.1) (aV L) ?_;obtain⟨v5k,ev5,XT⟩:=d5.get (i:=k) (d:=ml ((r.ww B).snd.getD k none)) (by rw[List.getElem?_map,aS (d:=none) ()];rfl);calc bA (X _ _ e5) (ay ev5) ?_;left;rename_i N2 hN2 T2 U2 Mv hU2;have V1:(oN m r B k).length=m.ms.length:=by
  have:=xV W O L (k:=k);rw[LU,List.length_set]at this;exact this
 have rest:∀(XU:Addr) (z11 Qi:Option V) (H9:Hp),au H8 H9->H9 XU=some (.lst ((oN m r B k).map V.int))->N2 [some (V.ref d),some (V.int ((B:Nat):Int)),some (V.int ((k:Nat):Int)),some (V.int ((m.goal B:Nat):Int)),some (V.int ((m.place B:Nat):Int)),some (V.ref D2),some (V.ref ev),some JP,some (V.ref RF),some (V.ref MT),some (V.ref XU),z11,Qi,none,none] H9:=by
  clear Mv hU2 T2 U2;intro XU z11 Qi H9 s89 V2;have Sd:=s48.trans s89;have Nk:=XS.trans Sd;have b9:=M.cn.same Nk;left;calc bz _ (Ec (Nk _ _ N)) ?_;left;calc bA (Nk _ _ o3.1) (aV I) ?_;calc⟨.inl ⟨rfl,_,aN.of (Nk _ _ e3)⟩,?_⟩;calc bE ?_;left;calc bz _ (.inl ⟨_,aN.of V2,rfl⟩) ?_;left;rw[List.length_map,V1];calc ig () () (λhl V3=>?_);rw[Int.toNat_natCast];refine bb (J:=Dc 0 m.ms.length) (n:=m.ms.length) (λi ys H'=>au H9 H'/\ys=(List.range i).map λj=>V.int ((oN m r B k).getD j 0+(if decide (((j:Nat):Int)=((m.goal B:Nat):Int))=true then 1 else 0))) (K' (aA ())) ⟨au.new _ V3,rfl⟩ (λi ys H' hi _=>hi) (λys H' _=>E' _) ?_ ?_
  ·intro i ys H' hi bo l9 sL x H2' wq;nofun;obtain⟨Y,rfl⟩:=sL;obtain⟨rfl,rfl⟩:=wq;ac_rfl;walk_at "xf";left
   try rw[if_pos trivial]
   calc bA (Y _ _ V2) (show iJ _ (0+(i:Int))=some (.int ((oN m r B k).getD i 0)) from by rw[Int.zero_add];calc ay (by rw[List.getElem?_map,aS (d:=0) ()];rfl)) ?_;refine .inr ?_
   try rw[Int.zero_add]
   calc bT bo l9 hi (K' (aA ())) ⟨λc o e=>by rw[ax (ao e V3)];calc Y _ _ e,?_⟩;rw[List.range_succ,List.map_append];rfl
  rintro ys EC bo l9 ⟨Ej,rfl⟩;clear l9;have Ek:=Nk.trans Ej;left;calc gB v3 (Ek _ _ e3) (small ()) ?_;left;have nA:ad 3 (m.goal B)≠hl:=λz=>by have:=Nk _ _ e3;rw[z,V3]at this;cases this
  have kA:∀b o,b≠ad 3 (m.goal B)->EC b=some o->upd EC (ad 3 (m.goal B)) (.lst (v3++[.ref hl])) b=some o:=λb o n e=>by rw[ax n];exact e
  have Io:∀{b:Addr} {o:HO},EC b=some o->¬FP m.n ad b->b≠ad 3 (m.goal B):=λ{b o} _ h z=>h ⟨3,m.goal B,I,z⟩;have Nl:=Ej _ _ (Sd _ _ aa9);have nev:ev≠ad 3 (m.goal B):=λz=>by have:=Ek _ _ e3;rw[<-z,Nl]at this;cases this
  calc di (kA _ _ nev Nl) (ay (j:=1) rfl) ?_;calc bz _ (Ec (kA _ _ (Io (Ek _ _ N) nP) (Ek _ _ N))) ?_;left;calc bA (kA _ _ (Io (Ek _ _ o3.1) o3.2.2) (Ek _ _ o3.1)) (aV I) ?_;calc bA ab kP ?_;left;calc⟨_,m.goal B,kA _ _ (Ne.symm nA) bo,oF (by simp;lia),?_⟩;rw[LV V1 I,show(oN m r B k).set (m.goal B) (((r.mm (m.goal B)).dQ.length:Nat):Int)=m.gc r B k from rfl,Il nA];have sK:au H9 (upd EC hl (.lst ((m.gc r B k).map V.int))):=λb o e=>by rw[ax (ao e V3)];exact Ej _ _ e
  have eK:upd EC hl (.lst ((m.gc r B k).map V.int)) hl=some (.lst ((m.gc r B k).map V.int)):=ab;generalize hGK:upd EC hl (.lst ((m.gc r B k).map V.int))=K10 at *;have XW:=Nk.trans sK;have bK:=M.cn.same XW;have FSK:FS F K10:=ma.fr (Z:=λ_=>False) XW.fr (λ_ _ h=>h);have fresh:∀{b:Addr},H9 b=none->¬(F b\/FP m.n ad b):=λ{b} hb z=>by
   rcases z with z|z
   ·obtain⟨o,e,_⟩:=ma b z;rw[Nk _ _ e]at hb;cases hb
   ·obtain⟨o,e,_⟩:=b9.fp z;rw[e]at hb;cases hb
  have e3K:=XW _ _ e3;have uR:=(BF.mk bK XW.fr (Sd.trans sK).fr).app (t:=3) (i:=m.goal B) I rfl e3K (ei.one (show HD _ 4 (.ref hl) (.lst ((m.gc r B k).map .int)) from .lst (by rw[fJ (fresh V3)];calc eK) nofun (λi u e G he=>(ei.ints (H:=ie (λb=>F b\/FP m.n ad b) K10) (n:=3) (m.gc r B k)).2 i u e G he)));generalize UW:upd K10 (ad 3 (m.goal B)) (.lst (v3++[.ref hl]))=RH at *;clear kA Io;left;calc bz _ (LO (uR.f.at N nP)) ?_;obtain⟨LP,e6,d6⟩:=uR.b.Xi (t:=6) (i:=B) L rfl;have MZ:=O.lk B L;have hbs:=O.bs B L;left;calc bA (uR.f.at o6.1 o6.2.2) (aV L) ?_;have zc:((r.ww B).cD.countP Option.isSome)<=(r.ww B).cD.length:=List.countP_le_length;have h6l:=d6.1;calc⟨ad 6 B,_,rfl,tZ.k (k:=Sum.inl ((k:Nat):Int)) e6 (small ()),?_⟩;have zj:=BF.mk (uR.b.upd (t:=6) (i:=B) L (Q0 d6 hc.lies ((uR.b.ht (ma.fr uR.f M.cn.uq) (VZ.aK uR.g.aM)).mono ∅))) (uR.f.upd ⟨6,B,L,rfl⟩ e6 trivial) (uR.g.upd ⟨6,B,L,rfl⟩ e6 trivial);generalize UX:upd RH (ad 6 B) (.dK (putK LP (Sum.inl ((k:Nat):Int)) (.ref ev)))=Xt at *;left;calc bz _ (AJ (zj.f.at N nP)) ?_;obtain⟨v1',e1',d1'⟩:=zj.b.lst (t:=1) (i:=m.goal B) I rfl;have z1':v1'.length=(r.mm (m.goal B)).dQ.length:=by simpa using d1'.1
  left;calc bA (zj.f.at o1.1 o1.2.2) (aV I) ?_;calc⟨.inl ⟨rfl,_,aN.of e1'⟩,?_⟩;left;calc gB v1' e1' (small ()) ?_;have JY:=zj.app (t:=1) (i:=m.goal B) I rfl e1' (ei.one (show HD _ 4 JP (qE ((m.work r B k).ns,(m.work r B k).row)) from(zj.b.ht (ma.fr zj.f M.cn.uq) (Aw.aK zj.g.aM)).mono ∅));generalize ag0:upd Xt (ad 1 (m.goal B)) (.lst (v1'++[JP]))=Xv at *;left;calc bz _ (QN (JY.f.at N nP)) ?_;obtain⟨v2,e2,d2⟩:=JY.b.lst (t:=2) (i:=m.goal B) I rfl;have z2:v2.length=(r.mm (m.goal B)).wp.length:=by simpa using d2.1
  have hlw:=O.lw _ I;left;calc bA (JY.f.at o2.1 o2.2.2) (aV I) ?_;calc⟨.inl ⟨rfl,_,aN.of e2⟩,?_⟩;calc bz _ (QN (JY.f.at N nP)) ?_;left;calc bA (JY.f.at o2.1 o2.2.2) (aV I) ?_;nofun;obtain⟨vw,evw,dvw⟩:=d2.get (i:=(r.mm (m.goal B)).wp.length-1) (d:=.lst (((r.mm (m.goal B)).wp.bg []).map .int)) (by rw[List.getElem?_map,jJ (d:=[]) ()];rfl);obtain⟨lw,rfl,elw⟩:=oO (dvw.cv c9);ac_rfl;calc bA e2 (jY () (by rw[z2];calc evw)) ?_;have HH:¬FP m.n ad RF:=λz=>by
   obtain⟨u,e,_⟩:=(M.cn.same R).fp z;rw[ZY]at e;cases e
  have Qf:¬FP m.n ad MT:=λz=>by
   obtain⟨u,e,_⟩:=(M.cn.same R).fp z;rw[fl2]at e;cases e
  have hbw:=O.bw _ I _ (fq (l:=(r.mm (m.goal B)).wp) (d:=[]) ());calc .inl ⟨_,_,elw,JY.g.at Ax Qf,K' (small (by simp;lia)),λnw hnw=>?_⟩;have Ip:=au.new (.lst (((r.mm (m.goal B)).wp.bg []).map V.int++(m.work r B k).words.map V.int)) hnw;have enw:upd Xv nw (.lst (((r.mm (m.goal B)).wp.bg []).map V.int++(m.work r B k).words.map V.int)) nw=some (.lst (((r.mm (m.goal B)).wp.bg []++(m.work r B k).words).map V.int)):=by rw[ab,List.map_append]
  generalize aa2:upd Xv nw (.lst (((r.mm (m.goal B)).wp.bg []).map V.int++(m.work r B k).words.map V.int))=H14 at *;have w14:=JY.same Ip;have nnw:¬(F nw\/FP m.n ad nw):=λz=>by
   rcases z with z|z
   ·obtain⟨o,e,_⟩:=(ma.fr JY.f M.cn.uq) nw z;rw[hnw]at e;cases e
   ·obtain⟨o,e,_⟩:=JY.b.fp z;rw[hnw]at e;cases e
  left;calc gB v2 (Ip _ _ e2) (small ()) ?_;have XX:=w14.app (t:=2) (i:=m.goal B) I rfl (Ip _ _ e2) (ei.one (show HD _ 4 (.ref nw) (.lst (((r.mm (m.goal B)).wp.bg []++(m.work r B k).words).map .int)) from .lst (by rw[fJ nnw];calc enw) nofun (λi u e G he=>(ei.ints (H:=ie (λb=>F b\/FP m.n ad b) H14) (n:=3) ((r.mm (m.goal B)).wp.bg []++(m.work r B k).words)).2 i u e G he)));generalize ag5:upd H14 (ad 2 (m.goal B)) (.lst (v2++[.ref nw]))=H15 at *;left;calc bz _ (QO (XX.f.at N nP)) ?_;obtain⟨v0,e0,d0⟩:=XX.b.lst (t:=0) (i:=0) i0 rfl;have z0:v0.length=r.picks.length:=by simpa using d0.1
  left;calc ig (.inl ⟨rfl,_,aN.of e0⟩) cY (λtp Cc=>?_);have Nm:=au.new (.tup [.int ((B:Nat):Int),.int ((k:Nat):Int)]) Cc;have V4:HT (upd H15 tp (.tup [.int ((B:Nat):Int),.int ((k:Nat):Int)])) 1 (.ref tp) (pairD ((B:Int),(k:Int))):=cH (n:=0) ab (.int _) (.int _);generalize ag6:upd H15 tp (.tup [.int ((B:Nat):Int),.int ((k:Nat):Int)])=VW at *;have XY:=XX.same Nm;have V5:=Nm _ _ e0;left;calc gB v0 V5 (small ()) ?_;have Np:=XY.app (t:=0) (i:=0) i0 rfl V5 (ei.one ((XY.b.ht (ma.fr XY.f M.cn.uq) V4).mono ∅));generalize ag7:upd VW (ad 0 0) (.lst (v0++[.ref tp]))=H17 at *;have abk:bU F H17 d (.ref tt) m (r.step m B k) ad:=M.own Np.f (Np.b.congr LW);have Nq:SL H17 zs (m.work r B k).cI:=kU.aK Np.g.aM;have V6:=Np.g.at Qe HH;have Nr:=VZ.aK Np.g.aM;have nD2:¬FP m.n ad D2:=λz=>by
   obtain⟨u,e,_⟩:=(M.cn.same Q1).fp z;rw[D9]at e;cases e
  have abm:=Np.g.at H4o nD2;clear b9 bK uR zj JY w14 XX XY d0 d1' d2 d6;left;have Lr:zs.length=(m.work r B k).cI.length:=Nq.1;have Qg:=O.step W L (k:=k);have Qh:∀a c,some (m.ev r B)=some (a,c)->0<=a/\a<m.ms.length/\1<=c/\c<=((r.step m B k).mm a.toNat).hr.length:=Ck W O L;refine⟨_,rfl,.inl ⟨⟨_,aN.of V6⟩,eV (K:=K) (xs:=zs) (λi σ H'=>(∃Qj z14,σ=[some (V.ref d),some (V.int ((B:Nat):Int)),some (V.int ((k:Nat):Int)),some (V.int ((m.goal B:Nat):Int)),some (V.int ((m.place B:Nat):Int)),some (V.ref D2),some (V.ref ev),some JP,some (V.ref RF),some (V.ref MT),some (V.ref XU),z11,Qi,Qj,z14])/\Fr (FP m.n ad) H17 H'/\bU F H' d (.ref tt) m ((r.step m B k).send (m.outs (m.goal B)) (m.ev r B) ((m.work r B k).cI.take i)) ad) ?_ ?_ ?_ ?_⟩⟩
  ·exact⟨⟨_,_,rfl⟩,Fr.refl,abk⟩
  ·rintro i σ H' hi ⟨_,fi,_⟩;exact aN.of (fi.at V6 HH)
  ·intro i z σ H' hz HV;nofun;obtain⟨⟨Qj,z14,rfl⟩,fi,CA⟩:=HV;have B1:i < zs.length:=(List.getElem?_eq_some_iff.mp hz).1;have Qk:i < (m.work r B k).cI.length:=by lia
   have zh:(m.work r B k).cI[i]?=some (m.work r B k).cI[i]:=cN Qk;have vi:=ZS _ (aab Qk);have Ql:=(Nq.2 i z _ hz zh).aK fi.aM;have Ls:(r.step m B k).send (m.outs (m.goal B)) (m.ev r B) ((m.work r B k).cI.take (i+1))=((r.step m B k).send (m.outs (m.goal B)) (m.ev r B) ((m.work r B k).cI.take i)).send (m.outs (m.goal B)) (m.ev r B) [(m.work r B k).cI[i]]:=by
    rw[List.take_succ,zh];exact pT _
   have Az:=(RS.tO.send (outs:=m.outs (m.goal B)) (ev:=m.ev r B) ((m.work r B k).cI.take i) Qg Qh).mono (show _<=19998 by simp;lia);generalize (m.work r B k).cI[i]=p at *;obtain⟨pj,px⟩:=p;obtain⟨tz,u1,u2,kz,rfl,Et,y1,y2⟩:=dA Ql;obtain rfl:=y1.cE;obtain rfl:=y2.cE;ac_rfl;calc tP (bL.of Et) ?_;have eDi:=fi.at abm nD2;left;calc bz _ (.inl ⟨_,aN.of eDi,rfl⟩) ?_;left;have hlen:((uk m 0 (m.goal B)).map λi=>V.int ((i:Nat):Int)).length=(m.outs (m.goal B)).length:=by rw[List.length_map];rfl
   rw[hlen];have ej:((pj.toNat:Nat):Int)=pj:=aaG vi;by_cases hE:pj<((m.outs (m.goal B)).length:Nat)
   ·rw[if_pos (by simpa using hE)];have Mz:pj.toNat < (m.outs (m.goal B)).length:=by lia
    have rg:(m.outs (m.goal B)).getD pj.toNat 0<m.ws.length:=by
     have:=getD_mem (d:=0) Mz;unfold NT.outs at this ⊢;rw[List.mem_filter,List.mem_range]at this;exact this.1
    have UR:iJ ((uk m 0 (m.goal B)).map λi=>V.int ((i:Nat):Int)) pj=some (.int (((m.outs (m.goal B)).getD pj.toNat 0:Nat):Int)):=by
     rw[<-ej];calc ay ?_;rw[List.getElem?_map];show Option.map _ (m.outs (m.goal B))[_]?=_;rw[Int.toNat_natCast,aS (d:=0) Mz];rfl
    nofun;obtain⟨U,how⟩:∃U,U=(m.outs (m.goal B)).getD pj.toNat 0:=⟨_,rfl⟩
    rw[<-how]at rg UR;generalize hri:(r.step m B k).send (m.outs (m.goal B)) (m.ev r B) ((m.work r B k).cI.take i)=ri at *;obtain⟨oi,V7,nFi,nPi,V8⟩:=CA.dk;have oi4:=V8 4 ∅ ∅;have V9:=V8 5 ∅ ∅;have bi:=CA.cn;obtain⟨w4,x4,y4⟩:=bi.lst (t:=4) (i:=U) rg rfl;ac_rfl;have l4:w4.length=(ri.ww U).say.length:=by simpa using y4.1
    have Xp:=Az.bs U rg;have hb5:=Az.ls U rg;left;calc bz _ (Eb V7) ?_;left;calc bA eDi UR ?_;calc bA oi4.1 (aV rg) ?_;calc⟨.inl ⟨rfl,_,aN.of x4⟩,?_⟩;left;calc gB w4 x4 (small ()) ?_;have bj:=bi.app (t:=4) (i:=U) rg rfl x4 (ei.one (.int px));have fj:Fr (FP m.n ad) H' (upd H' (ad 4 U) (.lst (w4++[.int px]))):=Fr.refl.upd ⟨4,U,rg,rfl⟩ x4 trivial;generalize hGj:upd H' (ad 4 U) (.lst (w4++[.int px]))=Hj at *;obtain⟨w5,x5,y5⟩:=bj.lst (t:=5) (i:=U) rg rfl;have l5:w5.length=(ri.ww U).snd.length:=by simpa using y5.1
    left;calc bz _ (HZ (fj.at V7 nPi)) ?_;left;calc bA (fj.at eDi nD2) UR ?_;calc bA (fj.at V9.1 V9.2.2) (aV rg) ?_;calc⟨.inl ⟨rfl,_,aN.of x5⟩,?_⟩;left;calc gB w5 x5 (small ()) ?_;have FSj:FS F Hj:=ma.fr ((Np.f.trans fi).trans fj) M.cn.uq;have bk:=bj.app (t:=5) (i:=U) rg rfl x5 (ei.one (show HD _ 4 (.ref ev) (ml (some (m.ev r B))) from(bj.ht FSj ((Nr.aK fi.aM).aK fj.aM)).mono ∅));have fk:Fr (FP m.n ad) H' (upd Hj (ad 5 U) (.lst (w5++[.ref ev]))):=fj.upd ⟨5,U,rg,rfl⟩ x5 trivial;left;calc ig ⟨_,_,rfl,rfl⟩ (fi.trans fk) ?_;rw[Ls];show bU F _ d _ m (if pj.toNat<_ then _ else _) ad;rw[if_pos Mz];show bU F _ d _ m (ri.put ((m.outs (m.goal B)).getD pj.toNat 0) px (some (m.ev r B))) ad;rw[<-how];exact CA.own fk (bk.congr Ik)
   ·rw[if_neg (by simpa using hE)];left;calc ig ⟨_,_,rfl,rfl⟩ fi ?_;rw[Ls];show bU F H' d _ m (if pj.toNat<_ then _ else _) ad;rw[if_neg ()];exact CA
  ·intro σ H' LI;obtain⟨⟨Qj,z14,rfl⟩,fi,CA⟩:=LI;left;rw[Lr,List.take_length]at CA;exact q _ _ (Np.f.trans fi) CA (Nr.aK fi.aM)
 clear hN2
 cases JJ:(r.ww B).snd.getD k none with
 |none=>
  rw[JJ]at XT;have:=wB XT;subst this;left
  try rw[if_neg ∅]
  left;calc rest rl _ _ H8 (au.refl _) ?_;unfold oN;rw[JJ];calc yA
 |some sc=>
  nofun;obtain⟨s0,c0⟩:=sc;rw[JJ]at XT;obtain⟨ae,rfl,TQ⟩:=me (XT.cv c9);have abr:=X _ _ TQ;have xE:some (s0,c0)∈(r.ww B).snd:=by rw[<-JJ];exact getD_mem ()
  obtain⟨q1,q2,q3,q4⟩:=O.sd B L s0 c0 xE;ac_rfl;left
  try rw[if_pos ∅]
  left;calc bz _ (HZ (X _ _ N)) ?_;left;calc bA (X _ _ o5.1) (aV L) ?_;calc bA (X _ _ e5) (ay ev5) ?_;calc tP (bL.of abr) ?_;left;calc bE ?_;left;calc bz _ (Ec (X _ _ N)) ?_;have hsm:s0.toNat<m.ms.length:=by lia
  have es0:((s0.toNat:Nat):Int)=s0:=aaG q1;have ec0:(((c0-1).toNat:Nat):Int)=c0-1:=aaG ();left;calc bA (X _ _ o3.1) (show iJ _ s0=some (.ref (ad 3 s0.toNat)) from by have:=aV (n:=m.n) (ad:=ad) (t:=3) hsm;rw[es0]at this;calc this) ?_;nofun;obtain⟨vs3,es3,ds3⟩:=M.cn.lst (t:=3) (i:=s0.toNat) hsm rfl;obtain⟨vr,evr,dvr⟩:=ds3.get (i:=(c0-1).toNat) (d:=.lst (((r.mm s0.toNat).hr.getD (c0-1).toNat []).map .int)) (by rw[List.getElem?_map,aS (d:=[]) ()];rfl);obtain⟨lo,rfl,MU⟩:=oO (dvr.cv c9);ac_rfl;calc bA (X _ _ es3) (show iJ _ (c0-1)=some (.ref lo) from by rw[<-ec0];calc ay evr) ?_;have LX:=X _ _ MU;left;calc fK true true _ _ (Sq.l yA) (Sq.l LX) (λD3 yG=>?_);have adL:((r.mm (m.goal B)).hr.bg (List.replicate m.ms.length 0)).length=m.ms.length:=by
   by_cases h1:1<=(r.mm (m.goal B)).hr.length
   ·exact O.hl _ I _ (fq h1)
   ·have ez:(r.mm (m.goal B)).hr=[]:=List.length_eq_zero_iff.mp ();rw[ez];simp[List.bg]
  have adM:((r.mm s0.toNat).hr.getD (c0-1).toNat []).length=m.ms.length:=O.hl _ hsm _ (getD_mem ());have ehr:oN m r B k=List.zipWith max ((r.mm (m.goal B)).hr.bg (List.replicate m.ms.length 0)) ((r.mm s0.toNat).hr.getD (c0-1).toNat []):=by
   unfold oN;rw[JJ]
  generalize hA:(r.mm (m.goal B)).hr.bg (List.replicate m.ms.length 0)=LA at *;generalize hB:(r.mm s0.toNat).hr.getD (c0-1).toNat []=LB at *;refine bb (J:=TN true true K rl lo) (n:=m.ms.length) (λi ys H'=>au H8 H'/\ys=((List.zipWith max LA LB).take i).map V.int) (K' (aA ())) ⟨au.new _ yG,rfl⟩ ?_ ?_ ?_ ?_
  ·rintro i ys H' hi ⟨Y,_⟩;exact⟨_,_,_,_,Sq.l (Y _ _ yA),Sq.l (Y _ _ LX),by rw[List.getElem?_map,aS (d:=0) ()];rfl,by rw[List.getElem?_map,aS (d:=0) ()];rfl⟩
  ·rintro ys H' ⟨Y,_⟩;exact⟨_,_,Sq.l (Y _ _ yA),Sq.l (Y _ _ LX),.inl (by simp;lia)⟩
  ·intro i ys H' hi bo hl LK xx H4' zq9;nofun;obtain⟨Y,rfl⟩:=LK;obtain⟨t',JQ,rfl,y⟩:=zq9;obtain⟨x1,x2,Wa,Wb,rfl⟩:=y _ _ (Sq.l (Y _ _ yA)) (Sq.l (Y _ _ LX));rw[List.getElem?_map,aS (d:=0) ()] at Wa Wb;obtain rfl:=Option.some.inj Wa;obtain rfl:=Option.some.inj Wb;ac_rfl;have s2:=au.new (.tup [.int (LA.getD i 0),.int (LB.getD i 0)]) JQ;have nS:upd H' t' (.tup [.int (LA.getD i 0),.int (LB.getD i 0)]) t'=some (.tup [.int (LA.getD i 0),.int (LB.getD i 0)]):=ab;calc tP (bL.of nS) ⟨Ext.set (Ext.set (Ext.refl _) rfl) rfl,?_⟩;left
   try rw[if_pos trivial]
   calc bT (s2 _ _ bo) hl hi (K' (aA ())) ⟨λc o e=>by rw[ax (ao e yG)];calc s2 _ _ (Y _ _ e),?_⟩;rw[List.take_succ,List.getElem?_zipWith,aS (l:=LA) (d:=0) (),aS (l:=LB) (d:=0) (),List.map_append];show _++[V.int (if LB.getD i 0 > LA.getD i 0 then LB.getD i 0 else LA.getD i 0)]=_++[V.int (max (LA.getD i 0) (LB.getD i 0))]
   congr 3;split<;>lia
  rintro ys H9 bo hl ⟨s89,rfl⟩;rw[List.take_of_length_le (by simp;lia),<-ehr]at bo;left;calc rest D3 _ _ H9 s89 bo
theorem qB.nil{ct:Nat->Hp->HO->Prop}:qB H0 H' D [] 0 ct:=⟨rfl,List.nodup_nil,λa h=>by simp at h,λj a h=>by simp at h⟩
theorem qB.snoc{H0 H1 H':Hp}{D a:Addr}{as:List Addr}{n:Nat}{ct:Nat->Hp->HO->Prop}(h:qB H0 H1 D as n ct)(p:au H0 H1)(q:H1 D≠none)(f:H1 a=none){o:HO}(e:H' a=some o)(c:ct n H' o)(s:∀b o,b≠D->H1 b=some o->H' b=some o)(d:∀j o,ct j H1 o->ct j H' o):qB H0 H' D (as++[a]) (n+1) ct:=by
 refine⟨by simp[h.len],?_,λb hb=>?_,λj b hb=>?_⟩
 ·rw[List.nodup_append];calc ig h.nd nofun (λb hb c k=>?_);simp at k;subst k;intro z;subst z;obtain⟨j,i⟩:=List.getElem?_of_mem hb;obtain⟨l,g,_⟩:=h.ins j b i;rw[f]at g;cases g
 ·rcases List.mem_append.mp hb with hb | hb
  ·exact h.new b hb
  ·simp at hb;subst hb;refine⟨?_,λz=>q (z ▸ f)⟩
   cases r:H0 b with
   |none=>rfl
   |some o=>rw[p _ _ r]at f;cases f
 ·by_cases i:j < as.length
  ·rw[List.getElem?_append_left i]at hb;obtain⟨l,g,f⟩:=h.ins j b hb;exact⟨l,s _ _ (h.new b (U' hb)).2 g,d _ _ f⟩
  ·rw[List.getElem?_append_right ()] at hb
   cases m:j-as.length with
   |zero=>
    rw[m]at hb;simp at hb;subst hb;have:j=n:=by have:=h.len;lia
    subst this;calc⟨o,e,c⟩
   |succ k=>rw[m]at hb;simp at hb
theorem qB.keep{n:Nat}{ct:Nat->Hp->HO->Prop}(h:qB H0 H1 D as n ct)(s:∀(j:Nat) (b:Addr) (o:HO),H1 b=some o->ct j H1 o->H' b=some o/\ct j H' o):qB H0 H' D as n ct:=
 ⟨h.len,h.nd,h.new,λj a e=>by
  obtain⟨c,d,f⟩:=h.ins j a e;calc⟨c,s _ _ _ d f⟩⟩
theorem rz{K:W.Frag}{ix:List (Option Nat)}{r:TE}{l:Addr}{xs:List V}{o:HO}(t:H l=some (.lst xs))(v:H D=none)(G:xs.length<=10)(y:∀x,Ext (t9 ix σ) ((t9 ix σ).set 0 (some x)))(d:∀g j (R:VK),(∀p,j p=none->R (.ref p) (upd j p o))->r g j R)(q:∀as H1,H1 D=some (.lst (as.map V.ref))->au H H1->qB H H1 D as xs.length (λ_ _ u=>u=o)->Q (.ref D) H1):kJ ix (tU K l) (eU 0) iN r σ H Q D:=by
 refine bb (n:=xs.length) (λi ys H'=>∃as:List Addr,ys=as.map V.ref/\au H H'/\qB H H' D as i (λ_ _ u=>u=o)) (K' (small ())) ⟨[],rfl,au.new _ v,qB.nil⟩ ?_ ?_ ?_ ?_
 ·rintro i ys H' k ⟨_,_,a,_⟩;exact⟨_,xs[i],aN.of (a _ _ t),cN k⟩
 ·rintro ys H' ⟨_,_,a,_⟩;exact⟨_,aN.of (a _ _ t),E' _⟩
 ·intro i ys H' k c w z B I C;obtain⟨as,rfl,a,m⟩:=z;obtain⟨rfl,g⟩:=C;calc⟨y B,?_⟩;simp only[iN,if_true];calc d _ _ _ λp g=>?_;have d:=au.new o g;have i:p≠D:=Ne.symm (ao c g);refine bT (d _ _ c) w k (K' (small ())) ⟨as++[p],nofun,λb o e=>?_,?_⟩
  ·rw[ax (ao e v)];exact d _ _ (a _ _ e)
  ·refine m.snoc a (by rw[c];simp) g (o:=o) ?_ rfl (λb o a e=>?_) (λj u e=>e)
   ·rw[ax i];exact ab
   ·rw[ax a];exact d _ _ e
 ·intro ys H1 c w F;obtain⟨as,rfl,a,m⟩:=F;calc q as H1 c a m
theorem qB.some{n:Nat}{ct:Nat->Hp->HO->Prop}(h:qB H0 H1 D as n ct):∀a∈as,H1 a≠none:=λa m=>by
 obtain⟨j,e⟩:=List.getElem?_of_mem m;obtain⟨b,e,_⟩:=h.ins j a e;rw[e];calc λz=>nomatch z
abbrev lA:Stmt:=top 64
inductive Iq(vs:List V)(H:Hp)(Q:VK):Prop
 |mk (F:Addr->Prop) (tn:V) (nt:NT) (ls:List (Int×Int)) (h0:vs=[tn]) (h1:ToldN (ie F H) tn nt.ms nt.ws ls) (h2:FS F H) (h3:nt.Ok) (h4:ls.length<=20) (h5:∀l∈ls,0<=l.1/\l.1<nt.ws.length) (h6:∀d ad H',au H H'->(∀b,FP nt.n ad b->H b=none)->H d=none->bU F H' d tn nt (RS.begin nt ls) ad->Q (.ref d) H'):Iq vs H Q
def wK:Sp:=λvs H Q _=>Iq vs H Q
theorem yT(D:cM K mg "_law_begun" "_law_begun" lA ["_law_net_here"])(T:Tx K mg C CN CR F FD):Def P w K mg base "_law_begun" 1 ["_law_net_here"] wK:=by
 have sc:aB ["_law_net_here","_law_run","_law_way","_law_said"] ["_law_net_here"] (av lA):=by walk_at "s"
 symm;obtain⟨F,tn,g,ls,rfl,hN,ma,aU,pL,qU,q⟩:=h;have Y:=hr.units;have DN:=Xk Y;refine⟨_,(ag (aY (i:=1) sc.nd rfl Sort (Kv (rJ aC (aq 0) (rJ aC (cX (N':=["_law_way"]) (ix:=[none]) (bM (aj Y (aq 0) ai)) (λ_ _ _ _=>(aQ (i:=0) (show(["_law_way"]:List Str).Nodup by decide +kernel) rfl Sort)) mG (λ_ _ _ _=>(bG aa))) (rJ aC (cX (N':=["_law_way"]) (ix:=[none]) (bM (aj Y (aq 0) ai)) (λ_ _ _ _=>(aQ (i:=0) (show(["_law_way"]:List Str).Nodup by decide +kernel) rfl Sort)) mG (λ_ _ _ _=>(bG aa))) Ku))) rfl rfl ∅ ∅))
  (ag (lW DN (aq 1) aC (cX (N':=["_law_way"]) (ix:=[none]) (bM (aj Y (aq 0) ai)) (λ_ _ _ _=>(aQ (i:=0) (show(["_law_way"]:List Str).Nodup by decide +kernel) rfl Sort)) mG (λ_ _ _ _=>Fv)) rfl)
  (ag (lW DN (aq 1) aC (cX (N':=["_law_one"]) (ix:=[none]) (bM (aj Y (aq 0) ai)) (λ_ _ _ _=>(aQ (i:=0) (show(["_law_one"]:List Str).Nodup by decide +kernel) rfl Sort)) mG (λ_ _ _ _=>(bG (af (bD (af (cZ (oj (K:=K) rfl) rfl T.bQ qu (af (dz (K:=K) rfl Y (aq 0) ai) aa)) (af (cZ (oj (K:=K) rfl) rfl T.bQ qu (af (dz (K:=K) rfl Y (aq 0) ai) aa)) aa))) aa)))) rfl)
  (ag (lW DN (aq 1) aC (cX (N':=["_law_one"]) (ix:=[none]) (bM (aj Y (aq 0) ai)) (λ_ _ _ _=>(aQ (i:=0) (show(["_law_one"]:List Str).Nodup by decide +kernel) rfl Sort)) mG (λ_ _ _ _=>(bG (af (bG aa) aa)))) rfl)
  (ag (lW DN (aq 1) aC (cX (N':=["_law_one"]) (ix:=[none]) (bM (aj Y (aq 0) ai)) (λ_ _ _ _=>(aQ (i:=0) (show(["_law_one"]:List Str).Nodup by decide +kernel) rfl Sort)) mG (λ_ _ _ _=>(bG aa))) rfl)
  (ag (lW DN (aq 1) aC (bG aa) rfl)
  (ag (dj PassesOwn.never rfl (bM (aj Y (aq 0) ai)) (eQ (i:=2) (j:=3) rfl sc.nd rfl rfl Sort Sort)
  (ag (bI (dy mH qr qt bV (aj Y (aj Y (aq 1) aC) (aq 2)) (af (aq 3) aa)))
  (ak (bI (dy mH qr qt bV (aj Y (aj Y (aq 1) aC) (aq 2)) (af hX aa))))))
  (ak (aD (aq 1)))))))))),?_⟩
 nofun;obtain⟨I,am,aw,al,mv,wv,lv,rfl,h1,h2,h3,h4,h5,h6,h7⟩:=id hN;have g1:=(dC h1 (λk z=>by cases z)).2;have g2:=(dC h2 (λk z=>by cases z)).2;have g3:=(dC h3 (λk z=>by cases z)).2;have g4:=(dC h4 (λk z=>by cases z)).2
 replace h5:=h5.cv c9
 replace h6:=h6.aK c9.aM
 replace h7:=h7.aK c9.aM
 ac_rfl;have kr:wv.length=g.ws.length:=by simpa using h6.1
 have mr:mv.length=g.ms.length:=h5.1;have q9:lv.length=ls.length:=by simpa using h7.1
 have T:wv.length<=10:=by rw[kr];exact aU.zX
 have T:mv.length<=5:=by rw[mr];exact aU.My
 left;calc K0 λd q8=>?_;have Sf:=au.new (.dK []) q8;have ed0:upd H d (.dK []) d=some (.dK []):=ab;generalize hGd:upd H d (.dK [])=C1 at *;left;calc bE ?_;left;calc di (Sf _ _ g1) (ay (j:=1) rfl) ?_;left;calc .inl ⟨⟨_,aN.of (Sf _ _ g3)⟩,λx Ez=>?_⟩;calc rz (o:=.lst []) (Sf _ _ g3) Ez () (λ_=>Ext.set (Ext.refl _) rfl) (λ_ _ _ r=>And.intro ∅ r) ?_;intro A1 H1 l RK Xx;have Ve:=l;clear l;have fD1:C1 x=none:=Ez;left;generalize hC2:H1=C2 at *;have S2:=Sf.trans RK;have Sg:=RK _ _ ed0;have Xy:∀b o,b≠d->C1 b=some o->C2 b=some o:=λb o _ e=>RK _ _ e;calc bE ?_;left;calc di (S2 _ _ g1) (ay (j:=1) rfl) ?_;left;calc .inl ⟨⟨_,aN.of (S2 _ _ g3)⟩,λy T=>?_⟩;calc rz (o:=.lst []) (S2 _ _ g3) T () (λ_=>Ext.set (Ext.refl _) rfl) (λ_ _ _ r=>And.intro ∅ r) ?_;intro A2 H2 l Qr Xz;have RO:=l;clear l;have Vi:C2 y=none:=T;left;have CB:H2 d=some (.dK []):=Qr _ _ Sg;calc⟨CB,[((Sum.inr "net":Key),V.ref I),((Sum.inr "put":Key),V.ref x),((Sum.inr "sender":Key),V.ref y)],rfl,nofun,?_⟩;have W:mJ [] ([((Sum.inr "net":Key),V.ref I),((Sum.inr "put":Key),V.ref x),((Sum.inr "sender":Key),V.ref y)]:List (Key×V))=[((Sum.inr "net":Key),V.ref I),((Sum.inr "put":Key),V.ref x),((Sum.inr "sender":Key),V.ref y)]:=by kernel_rfl
 rw[W];obtain⟨C3,T,Sh,RN,ke2⟩:=vk (d:=d) ([((Sum.inr "net":Key),V.ref I),((Sum.inr "put":Key),V.ref x),((Sum.inr "sender":Key),V.ref y)]) Qr;rw[T];have S3:au H C3:=λb o e=>RN b o (ao e q8) (S2 _ _ e);clear T;clear CB W;left;refine bE ?_;left;refine di (S3 _ _ g1) (ay (j:=1) rfl) ?_;left;refine .inl ⟨⟨_,aN.of (S3 _ _ g3)⟩,λM T=>?_⟩;refine rz (o:=.dK []) (S3 _ _ g3) T () (λ_=>Ext.set (Ext.refl _) rfl) (λ_ _ _ r=>r) ?_;intro A3 H3 l Qs XA;have RU:=l;clear l;have Vm:C3 M=none:=T;left;have CB:=Qs _ _ Sh;refine cw d _ rfl (tZ.k (k:=Sum.inr "worker") CB (small nofun)) ?_;have W:putK ([((Sum.inr "net":Key),V.ref I),((Sum.inr "put":Key),V.ref x),((Sum.inr "sender":Key),V.ref y)]:List (Key×V)) (Sum.inr "worker":Key) (V.ref M)=[((Sum.inr "net":Key),V.ref I),((Sum.inr "put":Key),V.ref x),((Sum.inr "sender":Key),V.ref y),((Sum.inr "worker":Key),V.ref M)]:=by kernel_rfl
 rw[W];obtain⟨C4,T,Q2,RT,ke3⟩:=vk (d:=d) ([((Sum.inr "net":Key),V.ref I),((Sum.inr "put":Key),V.ref x),((Sum.inr "sender":Key),V.ref y),((Sum.inr "worker":Key),V.ref M)]) Qs;rw[T];have S4:au H C4:=λb o e=>RT b o (ao e q8) (S3 _ _ e);clear T;clear CB W;left;refine bE ?_;left;refine di (S4 _ _ g1) (ay (j:=0) rfl) ?_;left;refine .inl ⟨⟨_,aN.of (S4 _ _ g2)⟩,λR RX=>?_⟩;refine bb (J:=tU K am) (n:=mv.length) (λi ys H'=>∃as:List Addr,ys=as.map V.ref/\au C4 H'/\qB C4 H' R as i (λj H' o=>∃v,o=.lst [v]/\HT H' 2 v (xQ (g.ms.getD j default).ns (g.ms.getD j default).row))) (K' (small ())) ⟨[],rfl,au.new _ RX,qB.nil⟩ ?_ ?_ ?_ ?_
 ·rintro i ys H' hi ⟨_,_,X,_⟩;exact⟨_,mv[i],aN.of (X _ _ (S4 _ _ g2)),cN hi⟩
 ·rintro ys H' ⟨_,_,X,_⟩;exact⟨_,aN.of (X _ _ (S4 _ _ g2)),E' _⟩
 ·intro i ys H' hi l hl pE xx H4 sL;nofun;obtain⟨as,rfl,X,hL⟩:=pE;obtain⟨rfl,hy⟩:=sL;ac_rfl;have ex:=hy _ (aN.of (X _ _ (S4 _ _ g2)));walk_at "xf";left
  try rw[if_pos trivial]
  have Lw:i<g.ms.length:=by lia
  obtain⟨mt,ln,lr,ld,xsd,rfl,m1,m2,m3,T,m5⟩:=h5.2 i xx _ ex (aS (d:=default) Lw);have T:=(S4.trans X)
  calc di (T _ _ m1) (ay (j:=1) rfl) ?_;left;calc .inl ⟨_,aN.of (T _ _ m2),λt1 qZ=>?_⟩;have r1:=au.new (.tup ((g.ms.getD i default).ns.map V.int)) qZ;calc di (r1 _ _ (T _ _ m1)) (ay (j:=2) rfl) ?_;left;calc .inl ⟨_,aN.of (r1 _ _ (T _ _ m3)),λt2 nS=>?_⟩;have r2:=au.new (.tup ((g.ms.getD i default).row.map V.int)) nS;calc⟨cY,λt3 T=>?_⟩;have r3:=au.new (.tup [.ref t1,.ref t2]) T;have sP:=r1.trans (r2.trans r3);have Z:HT (upd (upd (upd H4 t1 (.tup ((g.ms.getD i default).ns.map V.int))) t2 (.tup ((g.ms.getD i default).row.map V.int))) t3 (.tup [.ref t1,.ref t2])) 2 (.ref t3) (xQ (g.ms.getD i default).ns (g.ms.getD i default).row):=cH ab (om (r3 _ _ (r2 _ _ ab))) (om (r3 _ _ ab));generalize hGP:upd (upd (upd H4 t1 (.tup ((g.ms.getD i default).ns.map V.int))) t2 (.tup ((g.ms.getD i default).row.map V.int))) t3 (.tup [.ref t1,.ref t2])=HP at *;have El:=sP _ _ l;left;calc⟨∅,λp hp=>?_⟩;have sN:=au.new (.lst [.ref t3]) hp;have Q3:=sN _ _ El;have nD:p≠R:=Ne.symm (ao El hp);refine bT Q3 hl hi (K' (small ())) ⟨as++[p],nofun,λb o e=>?_,?_⟩
  ·rw[ax (ao e RX)];exact sN _ _ (sP _ _ (X _ _ e))
  ·refine hL.snoc X (by rw[l];simp) (sP.free hp) (o:=.lst [.ref t3]) ?_ ⟨_,rfl,Z.aK (λb xs e=>by rw[ax (λz=>by rw[z,El] at e;cases e)];calc sN _ _ e)⟩ (λb o nb e=>?_) (λj o ⟨v,e,h⟩=>⟨v,e,h.aK (λb xs e=>by rw[ax (λz=>by rw[z,l] at e;cases e)];calc sN _ _ (sP _ _ e))⟩)
   ·rw[ax nD];exact ab
   ·rw[ax nb];exact sN _ _ (sP _ _ e)
 intro ys H4 l hl wq;obtain⟨A4,rfl,M6,XB⟩:=wq;have RZ:=l;clear l hl;have fD4:C4 R=none:=RX;left;have CB:=M6 _ _ Q2;calc cw d _ rfl (tZ.k (k:=Sum.inr "states") CB (small nofun)) ?_;have W:putK ([((Sum.inr "net":Key),V.ref I),((Sum.inr "put":Key),V.ref x),((Sum.inr "sender":Key),V.ref y),((Sum.inr "worker":Key),V.ref M)]:List (Key×V)) (Sum.inr "states":Key) (V.ref R)=[((Sum.inr "net":Key),V.ref I),((Sum.inr "put":Key),V.ref x),((Sum.inr "sender":Key),V.ref y),((Sum.inr "worker":Key),V.ref M),((Sum.inr "states":Key),V.ref R)]:=by kernel_rfl
 rw[W];obtain⟨C5,T,Nt,RY,ke4⟩:=vk (d:=d) ([((Sum.inr "net":Key),V.ref I),((Sum.inr "put":Key),V.ref x),((Sum.inr "sender":Key),V.ref y),((Sum.inr "worker":Key),V.ref M),((Sum.inr "states":Key),V.ref R)]) M6;rw[T];have S5:au H C5:=λb o e=>RY b o (ao e q8) (S4 _ _ e);clear T;clear CB W;left;refine bE ?_;left;refine di (S5 _ _ g1) (ay (j:=0) rfl) ?_;left;refine .inl ⟨⟨_,aN.of (S5 _ _ g2)⟩,λN BS=>?_⟩;refine bb (J:=tU K am) (n:=mv.length) (λi ys H'=>∃as:List Addr,ys=as.map V.ref/\au C5 H'/\qB C5 H' N as i (λ_ H' o=>∃q,o=.lst [.ref q]/\H' q=some (.lst [])/\C5 q=none/\q≠N)) (K' (small ())) ⟨[],rfl,au.new _ BS,qB.nil⟩ ?_ ?_ ?_ ?_
 ·rintro i ys H' hi ⟨_,_,X,_⟩;exact⟨_,mv[i],aN.of (X _ _ (S5 _ _ g2)),cN hi⟩
 ·rintro ys H' ⟨_,_,X,_⟩;exact⟨_,aN.of (X _ _ (S5 _ _ g2)),E' _⟩
 ·intro i ys H' hi l hl HV xx H4 LI;nofun;obtain⟨as,rfl,X,hL⟩:=HV;obtain⟨rfl,hy⟩:=LI;ac_rfl;have ex:=hy _ (aN.of (X _ _ (S5 _ _ g2)));walk_at "xf";left
  try rw[if_pos trivial]
  calc⟨V' _,λqq hqq=>?_⟩;have sP:=au.new (.lst []) hqq;have eqq:upd H4 qq (.lst []) qq=some (.lst []):=ab;have nqD:qq≠N:=Ne.symm (ao l hqq);generalize hGP:upd H4 qq (.lst [])=HP at *;have El:=sP _ _ l;left;calc⟨∅,λp hp=>?_⟩;have sN:=au.new (.lst [.ref qq]) hp;have Q3:=sN _ _ El;have nD:p≠N:=Ne.symm (ao El hp);refine bT Q3 hl hi (K' (small ())) ⟨as++[p],nofun,λb o e=>?_,?_⟩
  ·rw[ax (ao e BS)];exact sN _ _ (sP _ _ (X _ _ e))
  ·refine hL.snoc X (by rw[l];simp) (sP.free hp) (o:=.lst [.ref qq]) ?_ ⟨qq,rfl,by rw[ax nqD];calc sN _ _ eqq,X.free hqq,nqD⟩ (λb o nb e=>?_) (λj o ⟨T,e,h,h',h2⟩=>⟨T,e,by rw[ax h2];calc sN _ _ (sP _ _ h),h',h2⟩)
   ·rw[ax nD];exact ab
   ·rw[ax nb];exact sN _ _ (sP _ _ e)
 intro ys H5 l hl LK;obtain⟨A5,rfl,M7,XC⟩:=LK;have R4:=l;clear l hl;have fD5:C5 N=none:=BS;left;have CB:=M7 _ _ Nt;calc cw d _ rfl (tZ.k (k:=Sum.inr "words") CB (small nofun)) ?_;have W:putK ([((Sum.inr "net":Key),V.ref I),((Sum.inr "put":Key),V.ref x),((Sum.inr "sender":Key),V.ref y),((Sum.inr "worker":Key),V.ref M),((Sum.inr "states":Key),V.ref R)]:List (Key×V)) (Sum.inr "words":Key) (V.ref N)=[((Sum.inr "net":Key),V.ref I),((Sum.inr "put":Key),V.ref x),((Sum.inr "sender":Key),V.ref y),((Sum.inr "worker":Key),V.ref M),((Sum.inr "states":Key),V.ref R),((Sum.inr "words":Key),V.ref N)]:=by kernel_rfl
 rw[W];obtain⟨C6,T,Q4,R3,ke5⟩:=vk (d:=d) ([((Sum.inr "net":Key),V.ref I),((Sum.inr "put":Key),V.ref x),((Sum.inr "sender":Key),V.ref y),((Sum.inr "worker":Key),V.ref M),((Sum.inr "states":Key),V.ref R),((Sum.inr "words":Key),V.ref N)]) M7;rw[T];have X:au H C6:=λb o e=>R3 b o (ao e q8) (S5 _ _ e);clear T;clear CB W;left;refine bE ?_;left;refine di (X _ _ g1) (ay (j:=0) rfl) ?_;left;refine .inl ⟨⟨_,aN.of (X _ _ g2)⟩,λD6 T=>?_⟩;refine rz (o:=.lst []) (X _ _ g2) T () (λ_=>Ext.set (Ext.refl _) rfl) (λ_ _ _ r=>And.intro ∅ r) ?_;intro A6 H6 l Qt XD;have R8:=l;clear l;have fD6:C6 D6=none:=T;left;have CB:=Qt _ _ Q4;refine cw d _ rfl (tZ.k (k:=Sum.inr "heard") CB (small nofun)) ?_;have W:putK ([((Sum.inr "net":Key),V.ref I),((Sum.inr "put":Key),V.ref x),((Sum.inr "sender":Key),V.ref y),((Sum.inr "worker":Key),V.ref M),((Sum.inr "states":Key),V.ref R),((Sum.inr "words":Key),V.ref N)]:List (Key×V)) (Sum.inr "heard":Key) (V.ref D6)=[((Sum.inr "net":Key),V.ref I),((Sum.inr "put":Key),V.ref x),((Sum.inr "sender":Key),V.ref y),((Sum.inr "worker":Key),V.ref M),((Sum.inr "states":Key),V.ref R),((Sum.inr "words":Key),V.ref N),((Sum.inr "heard":Key),V.ref D6)]:=by kernel_rfl
 rw[W];obtain⟨C7,l,Si,R7,ke6⟩:=vk (d:=d) ([((Sum.inr "net":Key),V.ref I),((Sum.inr "put":Key),V.ref x),((Sum.inr "sender":Key),V.ref y),((Sum.inr "worker":Key),V.ref M),((Sum.inr "states":Key),V.ref R),((Sum.inr "words":Key),V.ref N),((Sum.inr "heard":Key),V.ref D6)]) Qt;rw[l];have S7:au H C7:=λb o e=>R7 b o (ao e q8) (X _ _ e);clear l;clear CB W;left;refine⟨V' _,λpe zh=>?_⟩;have sE7:=au.new (.lst []) zh;have abA:upd C7 pe (.lst []) pe=some (.lst []):=ab;have npe:pe≠d:=Ne.symm (ao Si zh);generalize ahl:upd C7 pe (.lst [])=E7 at *;refine cw d _ rfl (tZ.k (k:=Sum.inr "events") (sE7 _ _ Si) (small nofun)) ?_;have W:putK ([((Sum.inr "net":Key),V.ref I),((Sum.inr "put":Key),V.ref x),((Sum.inr "sender":Key),V.ref y),((Sum.inr "worker":Key),V.ref M),((Sum.inr "states":Key),V.ref R),((Sum.inr "words":Key),V.ref N),((Sum.inr "heard":Key),V.ref D6)]:List (Key×V)) (Sum.inr "events":Key) (V.ref pe)=[((Sum.inr "net":Key),V.ref I),((Sum.inr "put":Key),V.ref x),((Sum.inr "sender":Key),V.ref y),((Sum.inr "worker":Key),V.ref M),((Sum.inr "states":Key),V.ref R),((Sum.inr "words":Key),V.ref N),((Sum.inr "heard":Key),V.ref D6),((Sum.inr "events":Key),V.ref pe)]:=by kernel_rfl
 rw[W];obtain⟨GF,l,edF,kd7,T⟩:=vk (d:=d) ([((Sum.inr "net":Key),V.ref I),((Sum.inr "put":Key),V.ref x),((Sum.inr "sender":Key),V.ref y),((Sum.inr "worker":Key),V.ref M),((Sum.inr "states":Key),V.ref R),((Sum.inr "words":Key),V.ref N),((Sum.inr "heard":Key),V.ref D6),((Sum.inr "events":Key),V.ref pe)]) sE7;rw[l];have epe:=T _ _ npe abA;have SF:au H GF:=λb o e=>kd7 b o (ao e q8) (S7 _ _ e);clear l T;clear W;have L:∀(A:Hp) (kv:List (Key×V)) (b:Addr) (vs:List V),A d=some (.dK kv)->A b=some (.lst vs)->b≠d:=λA kv b vs S e2 z=>by rw[z,S]at e2;cases e2
 have ndk:∀(A:Hp) (p:Key×V) (kv:List (Key×V)) (b:Addr),A d=some (.dK (p::kv))->A b=some (.dK [])->b≠d:=λA p kv b S e2 z=>by rw[z,S]at e2;cases e2
 have J1:∀(A:Hp) (kv:List (Key×V)) (b:Addr) (vs:List V),A d=some (.dK kv)->A b=some (.tup vs)->b≠d:=λA kv b vs S e2 z=>by rw[z,S]at e2;cases e2
 have kc7:=kd7;have X0:∀b o,b≠d->C6 b=some o->GF b=some o:=λb o n e=>kc7 b o n (R7 b o n e);have Lx:∀b o,b≠d->C5 b=some o->GF b=some o:=λb o n e=>X0 b o n (R3 b o n e);have M8:∀b o,b≠d->C4 b=some o->GF b=some o:=λb o n e=>Lx b o n (RY b o n e);have M9:∀b o,b≠d->C3 b=some o->GF b=some o:=λb o n e=>M8 b o n (RT b o n e);have Qu:∀b o,b≠d->C2 b=some o->GF b=some o:=λb o n e=>M9 b o n (RN b o n e);have Wc:qB C1 C2 x A1 wv.length (λ_ _ o=>o=.lst []):=Xx;have Ir:=Ve;have Wd:=Wc.keep (λj b o e c=>by subst c;calc⟨Qu b _ (L _ _ _ _ Sg e) e,rfl⟩);have We:=Qu _ _ (L _ _ _ _ Sg Ir) Ir;have Wf:qB C2 C3 y A2 wv.length (λ_ _ o=>o=.lst []):=Xz.keep (λj b o e c=>by subst c;calc⟨ke2 b _ (L _ _ _ _ (Qr _ _ Sg) e) e,rfl⟩);have Iu:=ke2 _ _ (L _ _ _ _ (Qr _ _ Sg) RO) RO;have Wg:=Wf.keep (λj b o e c=>by subst c;calc⟨M9 b _ (L _ _ _ _ Sh e) e,rfl⟩);have Wh:=M9 _ _ (L _ _ _ _ Sh Iu) Iu;have Wi:qB C3 C4 M A3 wv.length (λ_ _ o=>o=.dK []):=XA.keep (λj b o e c=>by subst c;calc⟨ke3 b _ (ndk _ _ _ _ (Qs _ _ Sh) e) e,rfl⟩);have Iw:=ke3 _ _ (L _ _ _ _ (Qs _ _ Sh) RU) RU;have Wj:=Wi.keep (λj b o e c=>by subst c;calc⟨M8 b _ (ndk _ _ _ _ Q2 e) e,rfl⟩);have Wk:=M8 _ _ (L _ _ _ _ Q2 Iw) Iw;have Wl:qB C4 C5 R A4 mv.length (λj H' o=>∃v,o=.lst [v]/\HT H' 2 v (xQ (g.ms.getD j default).ns (g.ms.getD j default).row)):=XB.keep (λj b o e c=>by
  obtain⟨v,rfl,Z⟩:=c;calc⟨ke4 b _ (L _ _ _ _ (M6 _ _ Q2) e) e,v,rfl,Z.aK (λb' xs e'=>ke4 b' _ (J1 _ _ _ _ (M6 _ _ Q2) e') e')⟩)
 have Iy:=ke4 _ _ (L _ _ _ _ (M6 _ _ Q2) RZ) RZ;have Wm:=Wl.keep (λj b o e c=>by
  obtain⟨v,rfl,Z⟩:=c;calc⟨Lx b _ (L _ _ _ _ Nt e) e,v,rfl,Z.aK (λb' xs e'=>Lx b' _ (J1 _ _ _ _ Nt e') e')⟩)
 have Wn:=Lx _ _ (L _ _ _ _ Nt Iy) Iy;have wD:qB C5 C6 N A5 mv.length (λ_ H' o=>∃q,o=.lst [.ref q]/\H' q=some (.lst [])/\C5 q=none/\q≠N):=XC.keep (λj b o e c=>by
  obtain⟨v,rfl,Z,Wo,Wq⟩:=c;calc⟨ke5 b _ (L _ _ _ _ (M7 _ _ Nt) e) e,v,rfl,ke5 v _ (L _ _ _ _ (M7 _ _ Nt) Z) Z,Wo,Wq⟩)
 have vm:=ke5 _ _ (L _ _ _ _ (M7 _ _ Nt) R4) R4;have nn:∀{A:Hp} {b:Addr} {o:HO},A b=some o->A b≠none:=λe z=>by rw[e]at z;cases z
 have Wr:qB C5 C6 N A5 mv.length (λ_ H' o=>∃q,o=.lst [.ref q]/\H' q=some (.lst [])/\C5 q=none/\C6 q≠none):=⟨wD.len,wD.nd,wD.new,λj a e=>by
  obtain⟨o,S,q,rfl,e2,l,_⟩:=wD.ins j a e;calc⟨_,S,q,rfl,e2,l,nn e2⟩⟩
 have Q5:=Wr.keep (λj b o e c=>by
  obtain⟨v,rfl,Z,Wo,Wq⟩:=c;calc⟨X0 b _ (L _ _ _ _ Q4 e) e,v,rfl,X0 v _ (L _ _ _ _ Q4 Z) Z,Wo,Wq⟩)
 have Ws:=X0 _ _ (L _ _ _ _ Q4 vm) vm;have Wt:qB C6 C7 D6 A6 mv.length (λ_ _ o=>o=.lst []):=XD.keep (λj b o e c=>by subst c;calc⟨ke6 b _ (L _ _ _ _ (Qt _ _ Q4) e) e,rfl⟩);have Iz:=ke6 _ _ (L _ _ _ _ (Qt _ _ Q4) R8) R8;have Wu:=Wt.keep (λj b o e c=>by subst c;calc⟨kc7 b _ (L _ _ _ _ Si e) e,rfl⟩);have Wv:=kc7 _ _ (L _ _ _ _ Si Iz) Iz;rw[kr]at Wd;rw[kr]at Wg;rw[kr]at Wj;rw[mr]at Wm;rw[mr]at Q5;rw[mr]at Wu;obtain⟨ad,Qo⟩:∃ad:Nat->Nat->Addr,∀t i,ad t i=([[pe],A4,A5,A6,A1,A2,A3].getD t []).getD i 0:=⟨_,λ_ _=>rfl⟩
 have pz:∀{A B:Hp},(∀b o,b≠d->A b=some o->B b=some o)->∀{o},B d=some o->∀b,A b≠none->B b≠none:=λ{A B} h {o} e b hb=>by
  by_cases z:b=d
  ·rw[z,e];exact λz=>nomatch z
  ·cases S:A b with
   |none=>calc absurd S hb
   |some u=>rw[h b u z S];exact λz=>nomatch z
 have U8:∀a<7,∀b<7,[6,3,4,5,0,1,2].getD a 7=[6,3,4,5,0,1,2].getD b 7->a=b:=by decide
 obtain⟨cn,M0,hDo⟩:=Cp (F:=F) (G:=GF) (n:=g.n) (c:=(RS.new g).tv) (λt=>[C1,C2,C3,C4,C5,C6,C7].getD t GF) (λt=>[6,3,4,5,0,1,2].getD t 7) _ (λt=>[d,R,N,D6,x,y,M].getD t d) (λt=>[λ_ _ u=>u=.lst [],λj H' o=>∃v,o=.lst [v]/\HT H' 2 v (xQ (g.ms.getD j default).ns (g.ms.getD j default).row),λ_ H' o=>∃q,o=.lst [.ref q]/\H' q=some (.lst [])/\C5 q=none/\C6 q≠none,λ_ _ o=>o=.lst [],λ_ _ o=>o=.lst [],λ_ _ o=>o=.lst []].getD t λ_ _ o=>o=.dK []) Qo (λ_=>rfl) (λt l h h'=>U8 t () l ())
  (λt=>match t with
   |0=>pz Xy Sg
   |1=>pz RN Sh
   |2=>pz RT Q2
   |3=>pz RY Nt
   |4=>pz R3 Q4
   |5=>pz R7 Si
   |6=>pz kd7 edF
   | (t + 7)=>λb h=>h)
  (λb h=>by
   obtain⟨o,e,l⟩:=ma b h;calc⟨nn (Sf _ _ e),o,SF _ _ e,l⟩)
  (λt ht=>match t,ht with
   | 0,_=>⟨⟨rfl,nofun,λa m=>by rw[List.mem_singleton.mp m];exact⟨zh,Ne.symm (ao Si zh)⟩,λj a e=>by cases j with
    |zero=>cases e;calc⟨_,epe,rfl⟩
    | succ j=>cases e⟩,λa m=>by rw[List.mem_singleton.mp m];calc nn epe,λh=>absurd h ∅⟩
   |1,_=>⟨Wm,Wl.some,λ_=>⟨fD4,nn Iy⟩⟩
   |2,_=>⟨Q5,wD.some,λ_=>⟨fD5,nn vm⟩⟩
   |3,_=>⟨Wu,Wt.some,λ_=>⟨fD6,nn Iz⟩⟩
   |4,_=>⟨Wd,Wc.some,λ_=>⟨fD1,nn Ir⟩⟩
   |5,_=>⟨Wg,Wf.some,λ_=>⟨Vi,nn Iu⟩⟩
   |6,_=>⟨Wj,Wi.some,λ_=>⟨Vm,nn Iw⟩⟩
   | (t + 7),h=>absurd h ())
  (λt i u ht h=>by
   match t,ht,h with
   |0,_,h|3,_,h|4,_,h|5,_,h|6,_,h=>cases h;trivial
   |1,_,⟨_,e,_⟩|2,_,⟨_,e,_⟩=>cases e;trivial
   | (t + 7),h,_=>calc absurd h ())
  (λhz fo t i u ht hi e h=>by
   match t,ht,h with
   |0,_,h|3,_,h|4,_,h|5,_,h=>cases h;calc(ei.nil:ei _ 4 [] [])
   |1,_,⟨v,e,Z⟩=>cases e;calc(ei.one ((HI hz Z).mono ∅):ei _ 4 [v] [_])
   |2,_,⟨v,e,Z,Wo,Wq⟩=>
    cases e;have nq:=fo 4 v Wo Wq (λt ht es m=>by
     have:=U8 t () 2 () es;subst this;obtain⟨j,e⟩:=List.getElem?_of_mem m;obtain⟨_,S,q,rfl,_⟩:=Q5.ins j _ e;rw[Z] at S;cases S)
    show ei (ie (λb=>F b\/FP g.n ad b) GF) 4 [.ref v] [.lst []];calc ei.one (.lst (by rw[fJ nq];calc Z) rfl (λi u e Y=>by simp at Y))
   |6,_,h=>
    cases h;exact⟨V' _,λk=>by
     have S:iK ((RS.new g).ww i).cD k=none:=by
      show iK [] k=none;unfold iK;split<;>rfl
     rw[S];calc Fn⟩
   | (t + 7),h,_=>calc absurd h ())
 have O:∀b,FP g.n ad b->H b=none:=λb hb=>Sf.free (M0 b hb).1;have nF:∀b,H b=none->¬F b:=λb e z=>by
  obtain⟨o,S,_⟩:=ma b z;rw[e]at S;cases S
 have hT:bU F GF d (.ref I) g (RS.new g) ad:=by
  refine⟨⟨λt=>[d,R,N,D6,x,y,M].getD t d,?_,nF d q8,λz=>nn ed0 (M0 d z).1,λt h1 h6=>?_⟩,cn,⟨ls,hN.cv ?_⟩,aU⟩
  ·rw[edF,JU,Qo];rfl
  ·obtain⟨k,l,u⟩:=hDo t h1 h6;calc⟨?_,k,l⟩;rw[<-u]
   match t,h1,h6 with
   |1,_,_=>calc Wn
   |2,_,_=>calc Ws
   |3,_,_=>calc Wv
   |4,_,_=>calc We
   |5,_,_=>calc Wh
   |6,_,_=>calc Wk
   |(t+7),_,h=>exact absurd h ()
  ·intro b l e n;obtain⟨k,z2⟩:=dC e n;rw[fJ]
   ·exact SF _ _ z2
   ·rintro(z | z)
    ·exact k z
    ·rw[O b z]at z2;cases z2
 have h7F:=h7.aK SF.aM;left;refine di (SF _ _ g1) (ay (j:=2) rfl) (.inl ⟨⟨_,aN.of (SF _ _ g4)⟩,eV (K:=K) (xs:=lv) (λi σ H'=>(∃z2 z3,σ=[some (V.ref I),some (V.ref d),z2,z3])/\Fr (FP g.n ad) GF H'/\bU F H' d (.ref I) g ((RS.new g).ku (ls.take i)) ad) ?_ ?_ ?_ ?_⟩)
 ·exact⟨⟨_,_,rfl⟩,Fr.refl,hT⟩
 ·rintro i σ H' hi ⟨_,fi,_⟩;exact aN.of (fi.at (SF _ _ g4) (λz=>by rw[O _ z]at g4;cases g4))
 ·intro i z σ H' hzz abD;nofun;obtain⟨⟨z2,z3,rfl⟩,fi,CA⟩:=abD;have j:i < ls.length:=by rw[<-q9];exact(List.getElem?_eq_some_iff.mp hzz).1
  have k:ls[i]?=some ls[i]:=cN j;have Ql:=(h7F.2 i z (qI ls[i]) hzz (by rw[List.getElem?_map,k];rfl)).aK fi.aM;have HM:=qU _ (aab j);have Ls:(RS.new g).ku (ls.take (i+1))=((RS.new g).ku (ls.take i)).put ls[i].1.toNat ls[i].2 none:=by
   rw[List.take_succ,k];exact pU _
  have Az:=(rm (ls.take i) (AD aU)).mono (show _<=19998 by simp;lia);generalize ls[i]=p at *;obtain⟨U,px⟩:=p;obtain⟨tz,u1,u2,kz,rfl,Et,y1,y2⟩:=dA Ql;obtain rfl:=y1.cE;obtain rfl:=y2.cE;have k:=HM.1;have j:=HM.2;simp only at k j;have ej:((U.toNat:Nat):Int)=U:=aaG k;have rg:U.toNat<g.ws.length:=by lia
  generalize hri:(RS.new g).ku (ls.take i)=ri at *;ac_rfl;calc tP (bL.of Et) ?_;nofun;obtain⟨l,V7,j,nPi,k⟩:=CA.dk;have j:=k 4 ∅ ∅;have V9:=k 5 ∅ ∅;have l:=CA.cn;obtain⟨w4,x4,k⟩:=l.lst (t:=4) (i:=U.toNat) rg rfl;ac_rfl;have u:w4.length=(ri.ww U.toNat).say.length:=by simpa using k.1
  have k:=Az.bs _ rg;have k:=Az.ls _ rg;left;calc bz _ (Eb V7) ?_;left;have k:iJ (fW g.n ad 4) U=some (.ref (ad 4 U.toNat)):=by have:=aV (n:=g.n) (ad:=ad) (t:=4) rg;rw[ej]at this;exact this
  have rb:iJ (fW g.n ad 5) U=some (.ref (ad 5 U.toNat)):=by have:=aV (n:=g.n) (ad:=ad) (t:=5) rg;rw[ej]at this;exact this
  calc bA j.1 k ?_;calc⟨.inl ⟨rfl,_,aN.of x4⟩,?_⟩;left;calc gB w4 x4 (small ()) ?_;have bj:=l.app (t:=4) (i:=U.toNat) rg rfl x4 (ei.one (.int px));have fj:Fr (FP g.n ad) H' (upd H' (ad 4 U.toNat) (.lst (w4++[.int px]))):=Fr.refl.upd ⟨4,U.toNat,rg,rfl⟩ x4 trivial;generalize hGj:upd H' (ad 4 U.toNat) (.lst (w4++[.int px]))=Hj at *;obtain⟨k,j,l⟩:=bj.lst (t:=5) (i:=U.toNat) rg rfl;have n:k.length=(ri.ww U.toNat).snd.length:=by simpa using l.1
  left;calc bz _ (HZ (fj.at V7 nPi)) ?_;left;calc bA (fj.at V9.1 V9.2.2) rb ?_;calc⟨.inl ⟨rfl,_,aN.of j⟩,?_⟩;left;calc gB k j (small ()) ?_;have l:=bj.app (t:=5) (i:=U.toNat) rg rfl j (ei.one (show HD _ 4 .bH (ml none) from .bH));have i:Fr (FP g.n ad) H' (upd Hj (ad 5 U.toNat) (.lst (k++[.bH]))):=fj.upd ⟨5,U.toNat,rg,rfl⟩ j trivial;left;calc ig ⟨_,_,rfl,rfl⟩ (fi.trans i) ?_;rw[Ls];exact CA.own i (l.congr Ik)
 ·intro σ H' abF;obtain⟨⟨z2,z3,rfl⟩,fi,CA⟩:=abF;left;rw[q9,List.take_length]at CA;calc q d ad H' (λb o e=>?_) O q8 CA;calc fi.at (SF _ _ e) (λz=>by rw[O b z]at e;cases e)
def fP(nt:NT)(r:RS)(s:List (Int×Int)):RS:=s.foldl (λr p=>r.pick nt p.1.toNat p.2.toNat) r
def AN(nt:NT)(r:RS)(s:List (Int×Int)):Prop:=∀(i:Nat) p,s[i]?=some p->∃w k:Nat,p=((w:Int),(k:Int))/\(fP nt r (s.take i)).JO nt w k
theorem j3{nt:NT}{w k:Nat}:fP nt r (s++[((w:Int),(k:Int))])=(fP nt r s).pick nt w k:=by
 unfold fP;rw[List.foldl_append];rfl
theorem IA{nt:NT}:AN nt r []:=λi p e=>by simp at e
theorem Em{nt:NT}{w k:Nat}(h:AN nt r s)(a:(fP nt r s).JO nt w k):AN nt r (s++[((w:Int),(k:Int))]):=λi p e=>by
 by_cases b:i<s.length
 ·rw[List.getElem?_append_left b]at e;rw[List.take_append_of_le_length ()];exact h i p e
 ·have c:i=s.length:=by
   have:=(List.getElem?_eq_some_iff.mp e).1;simp at this;lia
  subst c;rw[List.getElem?_append_right (Nat.le_refl _),Nat.sub_self]at e;obtain rfl:=Option.some.inj e;calc⟨w,k,rfl,by rw[List.take_left];calc a⟩
theorem En{nt:NT}{p:Int×Int}(h:AN nt r (s++[p])):AN nt r s/\∃w k:Nat,p=((w:Int),(k:Int))/\(fP nt r s).JO nt w k:=by
 refine⟨λi q e=>?_,?_⟩
 ·have a:=(List.getElem?_eq_some_iff.mp e).1;have:=h i q (by rw[List.getElem?_append_left a];calc e);rw[List.take_append_of_le_length ()]at this;exact this
 ·have:=h s.length p (by rw[List.getElem?_append_right (Nat.le_refl _),Nat.sub_self];rfl);rw[List.take_left]at this;calc this
structure _root_.DD.RS.Hb(n:NT)(r:RS):Prop where
 hb:∀m,m<n.ms.length->∀h∈(r.mm m).hr,∀j,j<n.ms.length->0<=h.getD j 0/\h.getD j 0<((r.mm j).dQ.length:Nat)
theorem l8{a b:List Int}{j:Nat}(c:j<a.length)(d:j<b.length):(List.zipWith max a b).getD j 0=max (a.getD j 0) (b.getD j 0):=by
 rw[List.getD_eq_getElem?_getD,List.getD_eq_getElem?_getD,List.getD_eq_getElem?_getD,List.getElem?_zipWith,cN c,cN d];rfl
theorem _root_.DD.RS.Hb.pick{n:NT}(h:r.Hb n)(ok:r.Ok n)(C:n.Ok){w k:Nat}(B:w<n.ws.length)(F:k<(r.ww w).snd.length):(r.pick n w k).Hb n:=by
 have o:=(RS.qY (outs:=n.outs (n.goal w)) (ev:=n.ev r w) (n.work r w k).cI (r:=r.step n w k)).1;have v:n.goal w<n.ms.length:=C.gX B;have x:∀j,j<n.ms.length->(r.mm j).dQ.length<=(((r.pick n w k).mm j).dQ).length/\(j=n.goal w->(((r.pick n w k).mm j).dQ).length=(r.mm j).dQ.length+1):=λj d=>by
  show _<=((((r.step n w k).send _ _ _).mm j).dQ).length/\_;unfold RS.pick;rw[o];show _<=(if j=n.goal w then _ else r.mm j:MS).dQ.length/\(_->(if j=n.goal w then _ else r.mm j:MS).dQ.length=_);by_cases q:j=n.goal w
  ·subst q;rw[if_pos rfl];simp
  ·rw[if_neg q];exact⟨E' _,λz=>absurd z q⟩
 have i:∀m,m<n.ms.length->∀l∈(r.mm m).hr,∀j,j<n.ms.length->0<=l.getD j 0/\l.getD j 0<(((r.pick n w k).mm j).dQ.length:Nat):=λm y l g j d=>by
  have a:=h.hb m y l g j d;have b:=(x j d).1;exact⟨a.1,()⟩
 calc⟨λm y l g j d=>?_⟩;have g:l∈(if m=n.goal w then(⟨(r.mm (n.goal w)).dQ++[((n.work r w k).ns,(n.work r w k).row)],(r.mm (n.goal w)).wp++[(r.mm (n.goal w)).wp.bg []++(n.work r w k).words],(r.mm (n.goal w)).hr++[n.gc r w k]⟩:MS) else r.mm m).hr:=by
  unfold RS.pick at g;rw[o]at g;exact g
 by_cases q:m=n.goal w
 ·rw[if_pos q] at g;rcases List.mem_append.mp g with g | g
  ·exact i _ v l g j d
  ·rw[List.mem_singleton.mp g];have u:((r.mm (n.goal w)).hr.bg (List.replicate n.ms.length 0)).length=n.ms.length/\∀j,j<n.ms.length->0<=((r.mm (n.goal w)).hr.bg (List.replicate n.ms.length 0)).getD j 0/\((r.mm (n.goal w)).hr.bg (List.replicate n.ms.length 0)).getD j 0<(((r.pick n w k).mm j).dQ.length:Nat):=by
    by_cases o:1<=(r.mm (n.goal w)).hr.length
    ·exact⟨ok.hl _ v _ (fq o),λj d=>i _ v _ (fq o) j d⟩
    ·have o:(r.mm (n.goal w)).hr=[]:=List.length_eq_zero_iff.mp ();rw[o];calc⟨by simp[List.bg],λj d=>?_⟩;have:=ok.lh j d;have:=(x j d).1;have e:(([]:List (List Int)).bg (List.replicate n.ms.length 0)).getD j 0=0:=by simp[List.bg,List.getD_eq_getElem?_getD,List.getElem?_replicate,d]
     rw[e];lia
   have G:∃t:List Int,n.gc r w k=t.set (n.goal w) (n.ev r w).2/\t.length=n.ms.length/\∀j,j<n.ms.length->0<=t.getD j 0/\t.getD j 0<(((r.pick n w k).mm j).dQ.length:Nat):=by
    unfold NT.gc
    cases o:(r.ww w).snd.getD k none with
    |none=>calc⟨_,rfl,u⟩
    |some p=>
     obtain⟨s,c⟩:=p;obtain⟨k,v,C,I⟩:=ok.sd w B s c (by rw[<-o];calc getD_mem F);have k:(r.mm s.toNat).hr.getD (c-1).toNat []∈(r.mm s.toNat).hr:=getD_mem ();have o:=ok.hl s.toNat () _ k;calc gB _ rfl (by rw[List.length_zipWith,u.1,o];lia) (λj d=>?_);rw[l8 (by rw[u.1];calc d) (by rw[o];calc d)];have a:=u.2 j d;have b:=i s.toNat () _ k j d;lia
   obtain⟨t,e,o,k⟩:=G;rw[e,List.getD_eq_getElem?_getD,List.getElem?_set];by_cases z:n.goal w=j
   ·rw[if_pos z,if_pos ()];have b:=(x j d).2 z.symm;show 0<=(n.ev r w).2/\(n.ev r w).2<_;have o:(n.ev r w).2=((r.mm (n.goal w)).dQ.length:Nat):=rfl;rw[o,b,z];lia
   ·rw[if_neg z,<-List.getD_eq_getElem?_getD];exact k j d
 ·rw[if_neg q]at g;calc i m y l g j d
structure lB(nt:NT)(ls:List (Int×Int))(r:RS):Prop where
 ok:r.Ok nt
 iv:r.Iv nt
 hb:r.Hb nt
 pl:r=fP nt (RS.begin nt ls) r.picks
 X1:AN nt (RS.begin nt ls) r.picks
theorem lB.pick{nt:NT}(h:lB nt ls r)(c:nt.Ok){w k:Nat}(a:r.JO nt w k):lB nt ls (r.pick nt w k)/\(r.pick nt w k).picks=r.picks++[((w:Int),(k:Int))]:=by
 have b:=RS.Ok.pick c h.ok (k:=k) a.lt;have d:k<(r.ww w).snd.length:=by rw[<-h.ok.ls w a.lt,h.ok.lk w a.lt];exact(List.getElem?_eq_some_iff.mp a.lies).1
 calc⟨⟨b.1,h.iv.pick c a.lt a.lies,h.hb.pick h.ok c a.lt d,by rw[b.2,j3,<-h.pl],by rw[b.2];calc Em h.X1 (by rw[<-h.pl];calc a)⟩,b.2⟩
theorem lB.begin{nt:NT}(d:nt.Ok){ls:List (Int×Int)}(h:ls.length<=20):lB nt ls (RS.begin nt ls):=by
 obtain⟨a,b⟩:=oJ d h;calc⟨a,RS.Iv.begin,⟨λm f g c=>?_⟩,by rw[b];rfl,by rw[b];calc IA⟩;have e:∀(ls:List (Int×Int)) (r:RS),(r.ku ls).mm=r.mm:=λls=>by
  induction ls with
  |nil=>intro r;rfl
  |cons p ps d=>intro r;exact d _
 unfold RS.begin at c;rw[e]at c;simp[RS.new]at c
abbrev pY:Stmt:=top 68
inductive IB(vs:List V)(H:Hp)(Q:VK):Prop
 |mk (F:Addr->Prop) (tn:V) (nt:NT) (ls:List (Int×Int)) (l:Addr) (xs:List Int) (h0:vs=[tn,.ref l]) (h1:ToldN (ie F H) tn nt.ms nt.ws ls) (h2:FS F H) (h3:nt.Ok) (h4:ls.length<=20) (h5:∀l∈ls,0<=l.1/\l.1<nt.ws.length) (h7:H l=some (.lst (xs.map V.int))) (h8:xs.length<=40) (q:∀d ad r H',au H H'->(∀b,FP nt.n ad b->H b=none)->H d=none->bU F H' d tn nt r ad->lB nt ls r->r.picks.length<=40->Q (.ref d) H'):IB vs H Q
def CC:Sp:=λvs H Q _=>IB vs H Q
theorem Eo(D:cM K mg "_law_ran" "_law_ran" pY ["_law_net_here","_law_cells"])(T:Tx K mg C CN CR F FD)(fB:Def P w K mg base "_law_begun" 1 ["_law_net_here"] wK)(nv:Def P w K mg base "_law_free" 2 ["_law_run"] Ic)(gn:Def P w K mg base "_law_pick" 3 ["_law_run","_law_way","_law_number"] wJ):Def P w K mg base "_law_ran" 4 ["_law_net_here","_law_cells"] CC:=by
 have sc:aB ["_law_net_here","_law_cells","_law_run","_law_cell","_law_free_here","_law_way","_law_number"] ["_law_net_here","_law_cells"] (av pY):=by walk_at "s"
 symm;obtain⟨F,o,a,ls,l,N,rfl,Sj,O,x,u,qU,v,R,q⟩:=h;have I:=hr.units;refine⟨_,(ag (aY (i:=2) sc.nd rfl Sort (aJ fB hr (af (aq 0) aa)))
  (ag (dj PassesOwn.never rfl (bM (pv 1)) (aQ (i:=3) sc.nd rfl Sort)
  (ag (aY (i:=4) sc.nd rfl Sort (aJ nv hr (af (aq 2) aa)))
  (ak (aR (az (eP I) (aq 4) (bG aa) (aE _)) (ag (eD (aj I (aq 4) (bc eO (aq 3) (aW aL rfl T.bZ M' (af (aq 4) aa)))) (eQ (i:=5) (j:=6) rfl sc.nd rfl rfl Sort Sort))
  (ak (bI (aJ gn hr (af (aq 2) (af (aq 5) (af (aq 6) aa))))))) aH))))
  (ak (aD (aq 2))))),?_⟩
 calc L2.ck λT R=>?_;right;calc⟨F,o,a,ls,rfl,Sj,O,x,u,qU,λd ad H1 S c fd EE=>?_⟩;calc L2.cm R ?_;clear R;have U:=lB.begin x u;have BV:=S _ _ v;have nl:¬FP a.n ad l:=λz=>by rw[c _ z]at v;cases v
 right;refine⟨_,rfl,.inl ⟨⟨_,aN.of BV⟩,eV (K:=K) (xs:=N.map V.int) (λi σ H'=>(∃W X Y Z,σ=[some o,some (V.ref l),some (V.ref d),W,X,Y,Z])/\Fr (FP a.n ad) H1 H'/\∃r,bU F H' d o a r ad/\lB a ls r/\r.picks.length<=i) ?_ ?_ ?_ ?_⟩⟩
 ·exact⟨⟨_,_,_,_,rfl⟩,Fr.refl,_,EE,U,by rw[(oJ x u).2];calc E' _⟩
 ·rintro i σ H' l ⟨_,g,_⟩;exact aN.of (g.at BV nl)
 ·intro i z σ H' hz gH;nofun;obtain⟨⟨W,X,Y,Z,rfl⟩,g,r,y,k,tX⟩:=gH;have l:i<40:=by
   have:=(List.getElem?_eq_some_iff.mp hz).1;rw[List.length_map]at this;lia
  rw[List.getElem?_map]at hz;obtain⟨J,_,rfl⟩:=Option.map_eq_some_iff.mp hz;ac_rfl;right;calc⟨F,d,o,a,r,ad,rfl,y,k.ok,(),λv ys H2 s2 i l u=>?_⟩;right;calc⟨V' _,λp i=>?_⟩;have L:=au.new (.lst []) i;have M:=L _ _ l;have Wy:=u.aK L.aM;have t:upd H2 p (.lst []) p=some (.lst []):=ab;have B:=(y.same s2).same L;have tQ:=s2.trans L;generalize hGp:upd H2 p (.lst [])=Gp at *;by_cases hy:ys=[]
  ·subst hy;calc .inl ⟨.inr ⟨_,_,[],[],rfl,rfl,.inr ⟨aN.of M,aN.of t⟩,rfl,λj u v I=>by simp at I⟩,?_⟩;rw[if_neg ∅];right;exact⟨⟨_,_,_,_,rfl,rfl,rfl,rfl⟩,g.trans tQ.fr,r,B,k,()⟩
  calc .inr ⟨⟨ys,[],λh=>hy (List.length_eq_zero_iff.mp h),.inl ⟨aN.of M,aN.of t⟩⟩,?_⟩;rw[if_pos trivial];right;have i:0<ys.length:=List.length_pos_iff.mpr hy;nofun;obtain⟨m,abH⟩:∃m:Nat,J%(ys.length:Int)=m:=⟨(J%(ys.length:Int)).toNat,by have:=aay J (show(ys.length:Int)≠0 by lia);lia⟩
  have wc:m<ys.length:=by have:=aap J (show(0:Int)<ys.length by lia);lia
  have i:ys.length=(ko a r a.ws.length).length:=by simpa using Wy.1
  have G:m<(ko a r a.ws.length).length:=by lia
  have hel:=Wy.2 m ys[m] _ (cN wc) (by rw[List.getElem?_map,cN G];rfl);have xE:=aab G;generalize (ko a r a.ws.length)[m]=pr at *;obtain⟨u,i⟩:=pr;have l:=Ib k.ok xE;obtain⟨t,j,m⟩:=tq hel;ac_rfl;calc⟨_,.inl ⟨_,aN.of M,rfl⟩,(),_,_,.inl (aN.of M),by rw[abH];calc ay (cN wc),?_⟩;rw[j];calc tP (bL.of m) ?_;right;calc⟨F,d,o,a,r,ad,u,i,rfl,B,O.fr (S.fr.trans (g.trans tQ.fr)) y.cn.uq,k.ok,l,(),λt I v G _=>?_⟩;obtain⟨a,i⟩:=k.pick x l;exact⟨⟨_,_,_,_,rfl,rfl,rfl,rfl⟩,(g.trans tQ.fr).trans v,_,G,a,by rw[i];simp;lia⟩
 ·intro σ H' gI;obtain⟨⟨W,X,Y,Z,rfl⟩,g,r,y,k,tX⟩:=gI;right;rw[List.length_map]at tX;calc q d ad r H' (λb o e=>g.at (S _ _ e) λz=>by rw[c _ z]at e;cases e) c fd y k ()
theorem ID:1<=sizeLine:=by rw[sizeLine_eq];lia
theorem iB{n:Nat->Nat}{t i:Nat}(h:i<n t):(fW n ad t)[i]?=some (.ref (ad t i)):=by simp[fW,h]
abbrev jk:Stmt:=top 71
inductive IE(vs:List V)(H:Hp)(Q:VK):Prop
 |mk (F:Addr->Prop) (d:Addr) (tn:V) (nt:NT) (r:RS) (ad:Nat->Nat->Addr) (p:Addr) (H0:Hp) (h0:vs=[.ref d,.ref p]) (h1:bU F H0 d tn nt r ad) (h2:au H0 H) (h3:H0 p=none) (h4:eJ H p) (h5:r.Ok nt) (h6:r.Hb nt) (h7:r.picks.length<=400) (q:∀t cut H',Step p H H'->H' t=some (.tup (cut.map V.int))->jN nt r cut->Q (.ref t) H'):IE vs H Q
def rA:Sp:=λvs H Q _=>IE vs H Q
theorem uw(D:cM K mg "_law_any_cut" "_law_any_cut" jk ["_law_run","_law_pot_here"])(T:Tx K mg C CN CR F FD)(U:Def P w K mg base "_law_digit" 1 ["_law_pot_here","_law_many"] gD):Def P w K mg base "_law_any_cut" 2 ["_law_run","_law_pot_here"] rA:=by
 have sc:aB ["_law_run","_law_pot_here"] ["_law_run","_law_pot_here"] (av jk):=by walk_at "s"
 symm;obtain⟨F,d,W,l,r,ad,p,H0,rfl,o,g,u,z,B,X,Y,q⟩:=h;have W:=hr.units;refine⟨_,(ak (aD (cZ bN rfl T.bQ qu (af (cX (N':=["_law_states","_law_pot_here"]) (ix:=[none,some 1]) (bM (aj W (aq 0) aC)) (λ_ _ _ _=>(aQ (i:=0) (show(["_law_states","_law_pot_here"]:List Str).Nodup by decide +kernel) rfl Sort)) mG (λ_ _ _ _=>(aJ U hr (af (aq 1) (af (aW (jQ (K:=K) rfl) rfl T.bZ M' (af (aq 0) aa)) aa))))) aa)))),?_⟩;obtain⟨U,W,Y,nP,X⟩:=o.dk;have v:=(X 1 ∅ ∅).1;have T:=o.ok;have X:=T.My;right;refine bE ?_;right;refine bz _ (AJ (g _ _ W)) ?_;right;refine .inl ⟨⟨_,aN.of (g _ _ v)⟩,λD I=>?_⟩;have k:D≠p:=Step.ne z I;refine bb (J:=tU K (U 1)) (n:=l.ms.length) (λi ys G=>Step p H G/\∃a:List Int,ys=a.map V.int/\a.length=i/\∀j,j < i->0<=a.getD j 0/\a.getD j 0 < ((r.mm j).dQ.length:Nat)) (K' (aA ())) ⟨(Step.refl z).new I,[],rfl,rfl,λj O=>absurd O (aaA _)⟩ ?_ ?_ ?_ ?_
 ·rintro i ys G b ⟨st,_⟩;exact⟨_,_,aN.of (st.over g u _ _ v),iB (show i<l.n 1 from b)⟩
 ·rintro ys G ⟨st,_⟩;exact⟨_,aN.of (st.over g u _ _ v),Nat.le_of_eq eY⟩
 ·intro i ys G b L Z gH xx G2 gI;nofun;obtain⟨st,a,rfl,M,x⟩:=gH;obtain⟨rfl,y⟩:=gI;have R:=st.over g u;have S:=y _ (aN.of (R _ _ v));rw[iB (show i < l.n 1 from b)] at S;obtain rfl:=Option.some.inj S;obtain⟨g,e1,l⟩:=(o.same R).cn.lst (t:=1) (i:=i) b rfl;ac_rfl;have z1:g.length=(r.mm i).dQ.length:=by simpa using l.1
  have g:=B.lh i b;have g:=B.bp i b;walk_at "xf";right;refine bz _ (.inl ⟨_,aN.of e1,rfl⟩) ?_;rw[z1];refine kN p _ rfl st.fC () (yN () ()) (λl o q8 N g=>?_)
  try rw[if_pos trivial]
  have u:=g.rest _ _ L k;calc bT u Z b (K' (aA ())) ⟨⟨(st.trans g).fC.upd (Ne.symm k),λc o e n=>by rw[ax (ao e I)];calc(st.trans g).rest c o e n⟩,a++[l],by rw[List.map_append];rfl,by simp[M],λj O=>?_⟩;rw[List.getD_eq_getElem?_getD];by_cases b:j<a.length
  ·rw[List.getElem?_append_left b,<-List.getD_eq_getElem?_getD];exact x j ()
  ·obtain rfl:j=i:=by lia
   rw[List.getElem?_append_right (),show j-a.length=0 by lia];exact⟨q8,N⟩
 intro ys G L yI mV;obtain⟨st,a,rfl,M,x⟩:=mV;calc .inl ⟨_,aN.of L,λg i=>?_⟩;calc q g a _ (st.new i) ab ⟨M,λm b=>(x m b).1,λm b=>(x m b).2⟩
abbrev gM:Stmt:=top 72
theorem qM(D:cM K mg "_law_heard_cut" "_law_heard_cut" gM ["_law_run","_law_pot_here"])(T:Tx K mg C CN CR F FD)(aG:Def P w K mg base "_law_digit" 1 ["_law_pot_here","_law_many"] gD):Def P w K mg base "_law_heard_cut" 2 ["_law_run","_law_pot_here"] rA:=by
 have sc:aB ["_law_run","_law_pot_here","_law_cut","_law_m","_law_rows","_law_c"] ["_law_run","_law_pot_here"] (av gM):=by walk_at "s"
 symm;obtain⟨F,d,tn,g,r,ad,p,H0,rfl,M,B,I,hp,N,Nu,jM,q⟩:=h;have hu:=hr.units;refine⟨_,(ag (aY (i:=2) sc.nd rfl Sort (bc rZ (bG (af ai aa)) (aW aL rfl T.bZ M' (af (aj hu (aq 0) aC) aa))))
  (ag (dj PassesOwn.never rfl (fG rfl T.cu (af (aj hu (aq 0) aC) aa)) (eQ (i:=3) (j:=4) rfl sc.nd rfl rfl Sort Sort)
  (ag (aY (i:=5) sc.nd rfl Sort (aJ aG hr (af (aq 1) (af (bc c8 (aW aL rfl T.bZ M' (af (aq 4) aa)) ai) aa))))
  (ak (aR (az mM (aq 5) ai (aE _)) (ak (fF (i:=2) sc.nd rfl Sort (N':=["_law_one","_law_other"]) (ix:=[none,none]) (zR rfl T.BN (af (aq 2) (af (aj hu (aq 4) (bc eN (aq 5) ai)) aa))) (λ_ _ _ _=>(iP (K:=K) rfl (i:=0) (j:=1) rfl (show(["_law_one","_law_other"]:List Str).Nodup by decide +kernel) rfl rfl Sort Sort)) mG (λ_ _ _ _=>(aW (uS rfl) rfl T.GR PyProof.Rows.boot_max (af (aq 0) (af (aq 1) aa)))))) aH))))
  (ak (aD (cZ bN rfl T.bQ qu (af (aq 2) aa)))))),?_⟩
 obtain⟨o',hd,nF,nP,T⟩:=M.dk;have l3:=(T 3 ∅ ∅).1;have aU:=M.ok;have T:=aU.My;calc L2.ck λT h1=>?_;right;calc⟨ID,λl0 T=>?_⟩;have O:=(Step.refl hp).new (o:=.lst [.int 0]) T;have e0:upd H l0 (.lst [.int 0]) l0=some (.lst [.int 0]):=ab;generalize RJ:upd H l0 (.lst [.int 0])=G0 at *;have z:=O.over B I;calc bz _ (Ec (z _ _ hd)) ?_;calc bz _ (.inl ⟨_,aN.of (z _ _ l3),rfl⟩) ?_;rw[eY,show g.n 3=g.ms.length from rfl];calc Gr (.int 0) e0 () () (λk Sk=>?_);rw[Int.toNat_natCast];have DO:=O.new (o:=.lst (List.replicate g.ms.length (.int 0))) Sk;have R:upd G0 k (.lst (List.replicate g.ms.length (.int 0))) k=some (.lst ((List.replicate g.ms.length 0).map V.int)):=by rw[List.map_replicate];exact ab
 have L:k≠p:=Step.ne O.fC Sk;have T:H k=none:=by
  cases e:H k with
  |none=>rfl
  |some o=>have:=O.rest _ _ e L;rw[Sk]at this;cases this
 generalize EB:upd G0 k (.lst (List.replicate g.ms.length (.int 0)))=G1 at *;calc L2.cm h1 ?_;clear h1 O e0 RJ z;have T:=DO.over B I;right;refine⟨_,Ec (T _ _ hd),true,fW g.n ad 3,Sq.l (T _ _ l3),ib (xs:=fW g.n ad 3) (λi σ G=>(∃k z3 z4 z5,σ=[some (V.ref d),some (V.ref p),some (V.ref k),z3,z4,z5]/\∃cut:List Int,G k=some (.lst (cut.map V.int))/\k≠p/\cut.length=g.ms.length/\∀j,j<g.ms.length->0<=cut.getD j 0/\cut.getD j 0<((r.mm j).dQ.length:Nat))/\Step p H G) ?_ ?_ ?_ ?_⟩
 ·calc⟨⟨k,_,_,_,rfl,_,R,L,List.length_replicate,λj S=>?_⟩,DO⟩;have:=N.lh j S;rw[show(List.replicate g.ms.length (0:Int)).getD j 0=0 by simp[List.getD_eq_getElem?_getD,List.getElem?_replicate,S]];lia
 ·rintro i σ G ⟨_,st⟩;exact Sq.l (st.over B I _ _ l3)
 ·intro i xx σ G U hx pE zk;nofun;obtain⟨⟨k,z3,z4,z5,rfl,cut,R,L,zc,W⟩,st⟩:=pE;have u:i < g.ms.length:=by have:=(List.getElem?_eq_some_iff.mp hx).1;rw[eY] at this;exact this
  rw[iB (show i<g.n 3 from u)]at hx;obtain rfl:=Option.some.inj hx;have u1:=au.new (.tup [.int (i:Nat),.ref (ad 3 i)]) zk;have JW:upd G U (.tup [.int (i:Nat),.ref (ad 3 i)]) U=some (.tup [.int (i:Nat),.ref (ad 3 i)]):=ab;have rC:=st.same u1;have abJ:=u1 _ _ R;generalize wY:upd G U (.tup [.int (i:Nat),.ref (ad 3 i)])=G2 at *;ac_rfl;calc tP (bL.of JW) ?_;have z:=rC.over B I;obtain⟨O,e3,Z⟩:=(M.same z).cn.lst (t:=3) (i:=i) u rfl;have z:O.length=(r.mm i).hr.length:=by simpa using Z.1
  have T:=N.lh i u;have T:=N.bp i u;calc L2.ck λN2 T=>?_;right;calc bz _ (.inl ⟨_,aN.of e3,rfl⟩) ?_;rw[z];calc kN p _ rfl rC.fC () (yN () ()) (λdg G3 q8 hd1 kF=>?_);calc L2.cm T ?_;clear T;have oK:=rC.trans kF;have X:=kF.rest _ _ abJ L;right;by_cases Y:dg > 0
  ·try rw[if_pos (by simpa using Y)]
   right;calc bE ?_;right;have T:=oK.over B I;nofun;obtain⟨O,e3,Z⟩:=(M.same T).cn.lst (t:=3) (i:=i) u rfl;have z:O.length=(r.mm i).hr.length:=by simpa using Z.1
   obtain⟨m,rfl⟩:∃m:Nat,dg=m+1:=⟨(dg-1).toNat,()⟩
   have mr:m<(r.mm i).hr.length:=by lia
   obtain⟨z,evr,dvr⟩:=Z.get (i:=m) (d:=.lst (((r.mm i).hr.getD m []).map .int)) (by rw[List.getElem?_map,aS (d:=[]) mr];rfl);obtain⟨lo,rfl,MU⟩:=oO (dvr.cv c9);have z:=N.hl i u _ (getD_mem (d:=[]) mr);have hlb:=Nu.hb i u _ (getD_mem (d:=[]) mr);generalize (r.mm i).hr.getD m []=x at *;ac_rfl;calc⟨_,.ref lo,.inl (aN.of e3),by rw[show((m:Int)+1-1)=(m:Nat) by lia];calc ay evr,true,true,_,_,Sq.l X,Sq.l MU,λD3 yG=>?_⟩;refine bb (J:=TN true true K k lo) (n:=g.ms.length) (λi ys G=>au G3 G/\ys=((List.zipWith max cut x).take i).map V.int) (K' (aA ())) ⟨au.new _ yG,rfl⟩ ?_ ?_ ?_ ?_
   ·rintro i ys G u ⟨v,_⟩;exact⟨_,_,_,_,Sq.l (v _ _ X),Sq.l (v _ _ MU),by rw[List.getElem?_map,aS (d:=0) ()];rfl,by rw[List.getElem?_map,aS (d:=0) ()];rfl⟩
   ·rintro ys G ⟨v,_⟩;exact⟨_,_,Sq.l (v _ _ X),Sq.l (v _ _ MU),.inl (by simp;lia)⟩
   ·intro i ys G u bo hl sL xx H4' wq;nofun;obtain⟨v,rfl⟩:=sL;obtain⟨t',JQ,rfl,y⟩:=wq;obtain⟨x1,x2,Wa,Wb,rfl⟩:=y _ _ (Sq.l (v _ _ X)) (Sq.l (v _ _ MU));rw[List.getElem?_map,aS (d:=0) ()] at Wa Wb;obtain rfl:=Option.some.inj Wa;obtain rfl:=Option.some.inj Wb;ac_rfl;have g:=au.new (.tup [.int (cut.getD i 0),.int (x.getD i 0)]) JQ;have y:upd G t' (.tup [.int (cut.getD i 0),.int (x.getD i 0)]) t'=some (.tup [.int (cut.getD i 0),.int (x.getD i 0)]):=ab;calc tP (bL.of y) ⟨Ext.set (Ext.set (Ext.refl _) rfl) rfl,?_⟩;right
    try rw[if_pos trivial]
    calc bT (g _ _ bo) hl u (K' (aA ())) ⟨λc o e=>by rw[ax (ao e yG)];calc g _ _ (v _ _ e),?_⟩;rw[List.take_succ,List.getElem?_zipWith,aS (l:=cut) (d:=0) (),aS (l:=x) (d:=0) (),List.map_append];show _++[V.int (if x.getD i 0 > cut.getD i 0 then x.getD i 0 else cut.getD i 0)]=_++[V.int (max (cut.getD i 0) (x.getD i 0))]
    congr 3;split<;>lia
   rintro ys G5 bo yI ⟨s5,rfl⟩;rw[List.take_of_length_le (by simp;lia)]at bo;calc⟨⟨D3,_,_,_,⟨rfl,rfl,rfl,rfl⟩,_,bo,Step.ne oK.fC yG,by rw[List.length_zipWith];lia,λj S=>?_⟩,oK.same s5⟩;rw[l8 () ()];have a:=W j S;have b:=hlb j S;lia
  ·try rw[if_neg (by simpa using Y)]
   right;exact⟨⟨k,_,_,_,⟨rfl,rfl,rfl,rfl⟩,cut,X,L,zc,W⟩,oK⟩
 ·intro σ G HV;obtain⟨⟨k,z3,z4,z5,rfl,cut,R,L,zc,W⟩,st⟩:=HV;right;calc .inl ⟨_,aN.of R,λU zk=>?_⟩;calc q U cut _ (st.new zk) ab ⟨zc,λm g=>(W m g).1,λm g=>(W m g).2⟩
abbrev ny:Stmt:=top 73
inductive CF(vs:List V)(H:Hp)(Q:VK):Prop
 |mk (F:Addr->Prop) (d:Addr) (tn:V) (nt:NT) (r:RS) (ad:Nat->Nat->Addr) (cell:Int) (h0:vs=[.ref d,.int cell]) (h1:bU F H d tn nt r ad) (h5:r.Ok nt) (h6:r.Hb nt) (h7:r.picks.length<=400) (q:∀l (ts:List Addr) H',au H H'->H' l=some (.lst (ts.map V.ref))->ts.length=10->(∀t∈ts,∃cut:List Int,H' t=some (.tup (cut.map V.int))/\jN nt r cut)->Q (.ref l) H'):CF vs H Q
def yV:Sp:=λvs H Q _=>CF vs H Q
theorem IG{nt:NT}(h:r.Ok nt):jN nt r (List.replicate nt.ms.length 0):=by
 have e:∀m,m<nt.ms.length->(List.replicate nt.ms.length (0:Int)).getD m 0=0:=λm a=>by simp[List.getD_eq_getElem?_getD,List.getElem?_replicate,a]
 calc⟨List.length_replicate,λm a=>by rw[e m a];calc Int.le_refl _,λm a=>by rw[e m a];have:=h.lh m a;lia⟩
def RS.all(nt:NT)(r:RS):List Int:=(List.range nt.ms.length).map λm=>((r.mm m).dQ.length:Int)-1
theorem IH{nt:NT}{m:Nat}(a:m<nt.ms.length):(RS.all nt r).getD m 0=((r.mm m).dQ.length:Int)-1:=by simp[RS.all,List.getD_eq_getElem?_getD,a]
theorem LZ{nt:NT}(h:r.Ok nt):jN nt r (RS.all nt r):=⟨by simp[RS.all],λm a=>by rw[IH a];have:=h.lh m a;lia,λm a=>by rw[IH a];lia⟩
theorem AO(D:cM K mg "_law_cuts" "_law_cuts" ny ["_law_run","_law_cell"])(T:Tx K mg C CN CR F FD)(jl:Def P w K mg base "_law_any_cut" 2 ["_law_run","_law_pot_here"] rA)(gN:Def P w K mg base "_law_heard_cut" 2 ["_law_run","_law_pot_here"] rA)(fA:Def P w K mg base "_law_pot" 1 ["_law_cell"] Ah):Def P w K mg base "_law_cuts" 3 ["_law_run","_law_cell"] yV:=by
 have sc:aB ["_law_run","_law_cell","_law_pot_here","_law_found","_law_k"] ["_law_run","_law_cell"] (av ny):=by walk_at "s"
 symm;obtain⟨F,d,tn,a,r,ad,v,rfl,R,Y,Nu,jM,q⟩:=h;have B:=hr.units;refine⟨_,(ag (aY (i:=2) sc.nd rfl Sort (aJ fA hr (af (aq 1) aa)))
  (ag (aY (i:=3) sc.nd rfl Sort (bG (af (cZ bN rfl T.bQ qu (af (bc rZ (bG (af ai aa)) (aW aL rfl T.bZ M' (af (aj B (aq 0) aC) aa))) aa)) (af (cZ bN rfl T.bQ qu (af (cX (N':=["_law_states"]) (ix:=[none]) (bM (aj B (aq 0) aC)) (λ_ _ _ _=>(aQ (i:=0) (show(["_law_states"]:List Str).Nodup by decide +kernel) rfl Sort)) mG (λ_ _ _ _=>(bc eN (aW (jQ (K:=K) rfl) rfl T.bZ M' (af (aq 0) aa)) ai))) aa)) aa))))
  (ag (dj PassesOwn.never rfl (cT rfl T.eA (af ai aa)) (aQ (i:=4) sc.nd rfl Sort)
  (ag (bI (dy mH qr qt bV (aq 3) (af (aJ jl hr (af (aq 0) (af (aq 2) aa))) aa)))
  (ak (bI (dy mH qr qt bV (aq 3) (af (aJ gN hr (af (aq 0) (af (aq 2) aa))) aa))))))
  (ak (aD (aq 3)))))),?_⟩
 obtain⟨o',hd,nF,nP,T⟩:=R.dk;have Z:=(T 1 ∅ ∅).1;have aU:=R.ok;have h5:=aU.My;calc L2.ck λT S=>?_;right;calc bz v rfl (λp xs vi T=>?_);have s0:=au.new (.lst (xs.map V.int)) vi;have hp:eJ (upd H p (.lst (xs.map V.int))) p:=⟨_,ab,T⟩
 generalize RJ:upd H p (.lst (xs.map V.int))=G0 at *;calc L2.cm S ?_;clear S;calc L2.ck λN2 h2=>?_;right;calc⟨ID,λl0 T=>?_⟩;have s1:=s0.trans (au.new (.lst [.int 0]) T);have MB:=hp.same (au.new (.lst [.int 0]) T);have e0:upd G0 l0 (.lst [.int 0]) l0=some (.lst [.int 0]):=ab;generalize EB:upd G0 l0 (.lst [.int 0])=G1 at *;calc⟨_,AJ (s1 _ _ hd),_,.inl ⟨_,aN.of (s1 _ _ Z),rfl⟩,?_⟩;rw[eY,show a.n 1=a.ms.length from rfl];calc Gr (.int 0) e0 () () (λl2 T=>?_);rw[Int.toNat_natCast];have s2:=s1.trans (au.new (.lst (List.replicate a.ms.length (.int 0))) T);have xA:=MB.same (au.new (.lst (List.replicate a.ms.length (.int 0))) T);have e2:upd G1 l2 (.lst (List.replicate a.ms.length (.int 0))) l2=some (.lst (List.replicate a.ms.length (.int 0))):=ab;generalize wY:upd G1 l2 (.lst (List.replicate a.ms.length (.int 0)))=G2 at *;calc .inl ⟨_,aN.of e2,λl T=>?_⟩;have z:=s2.trans (au.new (.tup (List.replicate a.ms.length (.int 0))) T);have XM:=xA.same (au.new (.tup (List.replicate a.ms.length (.int 0))) T);have et0:upd G2 l (.tup (List.replicate a.ms.length (.int 0))) l=some (.tup ((List.replicate a.ms.length 0).map V.int)):=by rw[List.map_replicate];exact ab
 generalize JF:upd G2 l (.tup (List.replicate a.ms.length (.int 0)))=G3 at *;calc bE ?_;right;calc bz _ (AJ (z _ _ hd)) ?_;right;calc .inl ⟨⟨_,aN.of (z _ _ Z)⟩,λD hD=>?_⟩;refine bb (J:=tU K (o' 1)) (n:=a.ms.length) (λi ys G=>au G3 G/\ys=((List.range i).map λm=>((r.mm m).dQ.length:Int)-1).map V.int) (K' (aA ())) ⟨au.new _ hD,rfl⟩ ?_ ?_ ?_ ?_
 ·rintro i ys G U ⟨M,_⟩;exact⟨_,_,aN.of (M _ _ (z _ _ Z)),iB (show i<a.n 1 from U)⟩
 ·rintro ys G ⟨M,_⟩;exact⟨_,aN.of (M _ _ (z _ _ Z)),Nat.le_of_eq eY⟩
 ·intro i ys G U bo hl LI xx G9 LK;nofun;obtain⟨M,rfl⟩:=LI;obtain⟨rfl,y⟩:=LK;have ex:=y _ (aN.of (M _ _ (z _ _ Z)));rw[iB (show i < a.n 1 from U)] at ex;obtain rfl:=Option.some.inj ex;obtain⟨y,e1,T⟩:=((R.same z).same M).cn.lst (t:=1) (i:=i) U rfl;ac_rfl;have z1:y.length=(r.mm i).dQ.length:=by simpa using T.1
  walk_at "xf";right;refine bz _ (.inl ⟨_,aN.of e1,rfl⟩) ?_;rw[z1]
  try rw[if_pos trivial]
  calc bT bo hl U (K' (aA ())) ⟨λc o e=>by rw[ax (ao e hD)];calc M _ _ e,?_⟩;rw[List.range_succ,List.map_append,List.map_append];rfl
 rintro ys G4 bo yI ⟨s4,rfl⟩;calc .inl ⟨_,aN.of bo,λk y=>?_⟩;have s5:=z.trans (s4.trans (au.new (.tup ((RS.all a r).map V.int)) y));have QU:=XM.same (s4.trans (au.new (.tup ((RS.all a r).map V.int)) y));have WB:=(s4.trans (au.new (.tup ((RS.all a r).map V.int)) y)) _ _ et0;have et1:upd G4 k (.tup ((RS.all a r).map V.int)) k=some (.tup ((RS.all a r).map V.int)):=ab;calc⟨cY,λj I=>?_⟩;change N2 _ (upd (upd G4 k (.tup ((RS.all a r).map V.int))) j (.lst [.ref l,.ref k]));change upd G4 k (.tup ((RS.all a r).map V.int)) j=none at I;generalize RB:upd G4 k (.tup ((RS.all a r).map V.int))=G5 at *;have s6:=s5.trans (au.new (.lst [.ref l,.ref k]) I);have XN:=QU.same (au.new (.lst [.ref l,.ref k]) I);have WC:j≠p:=Step.ne QU I;have abK:H j=none:=s5.free I;have abL:=(au.new (.lst [.ref l,.ref k]) I) _ _ WB;have abM:=(au.new (.lst [.ref l,.ref k]) I) _ _ et1;have LQ:upd G5 j (.lst [.ref l,.ref k]) j=some (.lst [.ref l,.ref k]):=ab;generalize Le:upd G5 j (.lst [.ref l,.ref k])=G6 at *;calc L2.cm h2 ?_;clear h2 bo yI s4 I RB Le JF wY EB RJ s1 s2 z s5 MB xA XM QU e0 e2 et0 WB et1;refine⟨_,rfl,∅,∅,hJ (n:=4) (λi σ G=>(∃z4,σ=[some (V.ref d),some (V.int v),some (V.ref p),some (V.ref j),z4])/\au H G/\eJ G p/\∃g:List Addr,G j=some (.lst (g.map V.ref))/\g.length=2+2*i/\∀t∈g,∃cut:List Int,G t=some (.tup (cut.map V.int))/\jN a r cut) ?_ ?_ ?_⟩
 ·calc⟨⟨_,rfl⟩,s6,XN,[l,k],LQ,rfl,λt ht=>?_⟩;simp only[List.mem_cons,List.not_mem_nil,or_false] at ht;rcases ht with rfl | rfl
  ·exact⟨_,abL,IG Y⟩
  ·exact⟨_,abM,LZ Y⟩
 ·intro i σ G U zq9;obtain⟨⟨z4,rfl⟩,sG,N,g,W,htl,Ew⟩:=zq9;have up:∀{x L:Hp} {g:List Addr} {t:Addr} {cut:List Int},(∀t∈g,∃cut:List Int,x t=some (.tup (cut.map V.int))/\jN a r cut)->x j=some (.lst (g.map V.ref))->eJ x p->Step p x L->L t=some (.tup (cut.map V.int))->jN a r cut->∀u∈g++[t],∃cut:List Int,upd L j (.lst (g.map V.ref++[.ref t])) u=some (.tup (cut.map V.int))/\jN a r cut:=λ{x L g t cut} S h2 X h4 h5 h6 u B=>by
   have e:=h4.rest _ _ h2 WC;rcases List.mem_append.mp B with B|B
   ·obtain⟨cut,k,l⟩:=S u B;have i:=h4.aM X _ _ k;exact⟨cut,by rw[ax (uA i e (λz=>nomatch z))];calc i,l⟩
   ·rw[List.mem_singleton.mp B];exact⟨cut,by rw[ax (uA h5 e (λz=>nomatch z))];calc h5,h6⟩
  have sw:∀{x L:Hp} {g:List Addr} {t:Addr},au H x->x j=some (.lst (g.map V.ref))->Step p x L->au H (upd L j (.lst (g.map V.ref++[.ref t]))):=λ{x L g t} S h2 X b o e=>by
   rw[ax (ao e abK)];exact X.over S vi _ _ e
  show tS _ _ _ _ _;calc L2.ck λi X=>?_;right;calc⟨.inl ⟨rfl,_,aN.of W⟩,F,d,tn,a,r,ad,p,H,rfl,R,sG,vi,N,Y,Nu,jM,λO Ut G1 i k l=>?_⟩;calc gB _ (i.rest _ _ W WC) (aA (by simp;lia)) ?_;calc L2.cm X ?_;clear X;have a1:=sw (t:=O) sG W i;have a2:=up Ew W N i k l;have a3:=(i.fC).upd (o:=.lst (g.map V.ref++[.ref O])) (Ne.symm WC);have a4:upd G1 j (.lst (g.map V.ref++[.ref O])) j=some (.lst ((g++[O]).map V.ref)):=by rw[List.map_append];exact ab
  generalize Z4:upd G1 j (.lst (g.map V.ref++[.ref O]))=G8 at *;right;calc⟨.inl ⟨rfl,_,aN.of a4⟩,F,d,tn,a,r,ad,p,H,rfl,R,a1,vi,a3,Y,Nu,jM,λo u G2 i k l=>?_⟩;calc gB _ (i.rest _ _ a4 WC) (aA (by simp;lia)) ?_;exact⟨⟨_,rfl⟩,sw (t:=o) a1 a4 i,(i.fC).upd (Ne.symm WC),g++[O]++[o],by rw[List.map_append (f:=V.ref) (l₁:=g++[O])];calc ab,by simp;lia,up a2 a4 a3 i k l⟩
 ·intro σ G abO;obtain⟨⟨z4,rfl⟩,sG,N,g,W,htl,Ew⟩:=abO;right;calc q j g G sG W htl Ew
theorem bU.ZR{F:Addr->Prop}{d:Addr}{c:V}{nt:NT}(h:bU F H d c nt r ad){w:Nat}(g:w<nt.ws.length)(k:Nat):∃f b,H (ad 6 w)=some (.dK f)/\iW H (ad 6 w) (.int (k:Nat)) b/\((r.ww w).cD.getD k none=none->b=none)/\∀e,(r.ww w).cD.getD k none=some e->∃a,b=some (.ref a)/\H a=some (.tup [.int e.1,.int e.2]):=by
 obtain⟨c,f,j⟩:=h.cn.Xi (t:=6) (i:=w) g rfl;have b:=j.2 (k:Int);have g:iK (r.ww w).cD (k:Int)=((r.ww w).cD.getD k none).map pairD:=by unfold iK;rw[if_pos (),Int.toNat_natCast]
 rw[g]at b;refine⟨c,fU c (.inl (k:Int)),f,iW.k (k:=.inl (k:Int)) f,λz=>?_,λe z=>?_⟩
 ·rw[z]at b;exact b
 ·rw[z] at b;obtain⟨v,l,m⟩:=(show ∃v,fU c (.inl (k:Int))=some v/\HD _ 4 v (pairD e) from b)
  obtain⟨a,rfl,b⟩:=me (e:=e) (m.cv c9);calc⟨a,l,b⟩
def wM(r:RS)(p:Nat×Nat):Option (Int×Int):=(r.ww p.1).snd.getD p.2 none
def Sn(r:RS)(p:Nat×Nat):Option (Int×Int):=(r.ww p.1).cD.getD p.2 none
def L0(r:RS)(p:Nat×Nat):DV:=.tup [pairD (pI p),ml (wM r p),ml (Sn r p)]
def yW(r:RS)(ps:List (Nat×Nat)):List (Nat×Nat):=ps.filter λp=>(wM r p).isSome
def mw(r:RS)(cut:List Int)(p:Nat×Nat):Bool:=AE (Sn r p) cut && !AE (wM r p) cut
def pZ(r:RS)(cut:List Int)(ps:List (Nat×Nat)):List (Nat×Nat):=(yW r ps).filter (mw r cut)
theorem AQ{H:Hp}{n:Nat}{v:V}{e:Option (Int×Int)}(h:HT H n v (ml e)):HT H 1 v (ml e):=by
 cases e with
 |none=>cases(show HT H n v .bH from h);calc .bH
 |some p=>
  obtain⟨d,f,g,i,rfl,a,b,c⟩:=dA (show HT H n v (.tup [.int p.1,.int p.2]) from h);obtain rfl:=b.cE;obtain rfl:=c.cE;calc cH (n:=0) a (.int _) (.int _)
theorem yX{i:Nat}{p:Nat×Nat}(h:ps[i]?=some p):yW r (ps.take (i+1))=yW r (ps.take i)++if (wM r p).isSome=true then[p] else[]:=by
 unfold yW;rw[List.take_add_one,h,List.filter_append];congr 1;show List.filter _ [p]=_;rw[List.filter_cons,List.filter_nil]
theorem yY{f:Nat×Nat->Bool}{i:Nat}{p:Nat×Nat}(h:ps[i]?=some p):(ps.take (i+1)).filter f=(ps.take i).filter f++if f p=true then[p] else[]:=by
 rw[List.take_add_one,h,List.filter_append];congr 1;show List.filter _ [p]=_;rw[List.filter_cons,List.filter_nil]
theorem Q8{nt:NT}(g:r.Ok nt)(k:r.Iv nt)(j:cut.length=nt.ms.length){p:Nat×Nat}(i:p∈gY r nt.ws.length):(∀e,wM r p=some e->0<=e.1/\e.1<(cut.length:Nat))/\∀e,Sn r p=some e->0<=e.1/\e.1<(cut.length:Nat):=by
 obtain⟨c,m,l⟩:=gC.mp i;have m:p.2<(r.ww p.1).cD.length:=(List.getElem?_eq_some_iff.mp l).1;have i:=g.ls _ c;have i:=g.lk _ c;refine⟨λe i=>?_,λe i=>?_⟩
 ·obtain⟨a,b,_⟩:=g.sd _ c e.1 e.2 (by rw[show(some (e.1,e.2):Option (Int×Int))=(r.ww p.1).snd.getD p.2 none from i.symm];calc getD_mem ());rw[j];exact⟨a,b⟩
 ·obtain⟨a,b,_⟩:=k.ev _ p.2 e.1 e.2 c (by rw[aS (d:=none) m,show(r.ww p.1).cD.getD p.2 none=some e from i]);rw[j];calc⟨a,b⟩
theorem Q9 {vs:List V}{ps:List (Int×Int)}(h:ei H 4 vs (ps.map pairD)):Py H vs ps:=⟨by have:=h.1;rwa [List.length_map] at this,λi p e=>by
 have b:i<vs.length:=by have:=h.1;rw[List.length_map]at this;rw[this];exact(List.getElem?_eq_some_iff.mp e).1
 obtain⟨a,c,d⟩:=me (e:=p) (h.2 i vs[i] _ (cN b) (by rw[List.getElem?_map,e];rfl));calc⟨a,by rw[cN b,c],d⟩⟩
abbrev gp:Stmt:=top 18
inductive II(C CN CR:Addr)(vs:List V)(H:Hp)(Q:VK):Prop
 |mk (F:Addr->Prop) (x bq:Addr) (nt:NT) (r:RS) (ad:Nat->Nat->Addr) (h0:vs=[.ref x]) (h1:bX C CN CR F H x bq nt r ad) (h2:r.Ok nt) (h3:r.Iv nt) (h4:r.Pk nt) (h5:r.picks.length<=40) (q:∀l ys H',au H H'->H l=none->H' l=some (.lst ys)->eS H' 2 ys ((yW r (gY r nt.ws.length)).map (L0 r))->Q (.ref l) H'):II C CN CR vs H Q
def CG(C CN CR:Addr):Sp:=λvs H Q _=>II C CN CR vs H Q
theorem p5(D:cM K mg "letters_passed" "letters_passed" gp ["run"])(T:Tx K mg C CN CR F FD)(dI:cj P w K mg base CR "schedule" 1 ["self"] (Av C CN CR))(jm:cj P w K mg base CR "sent_by" 5 ["self","way","number"] (yF C CN CR))(gO:cj P w K mg base CR "worked_by" 5 ["self","way","number"] (Co C CN CR)):Def P w K mg base "letters_passed" 6 ["run"] (CG C CN CR):=by
 have sc:aB ["run","passed","letter","way","number","sender"] ["run"] (av gp):=by walk_at "s"
 symm;obtain⟨F,x,bq,d,r,ad,rfl,G,I,Y,J,jM,q⟩:=h;have hu:=hr.units;refine⟨_,(ag (aY (i:=1) sc.nd rfl Sort (bG aa))
  (ag (dj PassesOwn.never rfl (bM (aW (uZ rfl) rfl T.sC PyProof.Rows.boot_sorted (af (fc dI T.aO hr (aq 0)) aa))) (aQ (i:=2) sc.nd rfl Sort)
  (ag (eD (aq 2) (eQ (i:=3) (j:=4) rfl sc.nd rfl rfl Sort Sort))
  (ag (aY (i:=5) sc.nd rfl Sort (dS jm T.aO hr (aq 0) (af (aq 3) (af (aq 4) aa))))
  (ak (aR (az l7 (aq 5) hX (aE _)) (ak (bI (dy mH qr qt bV (aq 1) (af (bD (af (aq 2) (af (aq 5) (af (dS gO T.aO hr (aq 0) (af (aq 3) (af (aq 4) aa))) aa)))) aa)))) aH)))))
  (ak (aD (aq 1))))),?_⟩
 obtain⟨Z,o,hx,T⟩:=G.ins;have T:=ye Y J;right;calc⟨V' _,λk q9=>?_⟩;have L:=au.new (.lst []) q9;have QG:upd H k (.lst []) k=some (.lst []):=ab;generalize EB:upd H k (.lst [])=G1 at *;right;calc⟨x,Z,_,rfl,L _ _ hx,eL ⋯,F,x,bq,d,r,ad,rfl,G.same L,λls vs Hg WD=>?_⟩;have M:=au.new (.lst vs) Hg;have So:upd G1 ls (.lst vs) ls=some (.lst vs):=ab;have GN:vs.length=r.picks.length:=by have:=WD.1;rwa [List.length_map]at this
 have PK:=(Q9 WD).mono M.aM;have tQ:=L.trans M;have Ra:=M _ _ QG;generalize wY:upd G1 ls (.lst vs)=G2 at *;calc⟨ls,rfl,.inl ⟨vs,r.picks,aN.of So,(),PK,J.nd,λy g T uM K9 WE hz=>?_⟩⟩;obtain rfl:=wg Y J K9 WE;clear PK K9 WE WD So Hg GN wY EB M QG;have N:=au.new (.lst g) uM;have MQ:upd G2 y (.lst g) y=some (.lst g):=ab;have m:=hz.mono N.aM;have WG:=N _ _ Ra;have pP:=tQ.trans N;have nl:y≠k:=Ne.symm (ao Ra uM);generalize JF:upd G2 y (.lst g)=G3 at *;clear hz uM JF N Ra tQ L;have Lr:g.length=(gY r d.ws.length).length:=by have:=m.len;rwa [List.length_map]at this
 refine .inl ⟨⟨_,aN.of MQ⟩,eV (K:=K) (xs:=g) (λi σ H'=>(∃z2 z3 z4 z5,σ=[some (V.ref x),some (V.ref k),z2,z3,z4,z5])/\au H H'/\H' y=some (.lst g)/\Py H' g ((gY r d.ws.length).map pI)/\∃ys,H' k=some (.lst ys)/\ys.length<=i/\eS H' 2 ys ((yW r ((gY r d.ws.length).take i)).map (L0 r))) ?_ ?_ ?_ ?_⟩
 ·exact⟨⟨_,_,_,_,rfl⟩,pP,MQ,m,[],WG,E' _,eS.nil⟩
 ·rintro i σ H' hi ⟨_,_,e,_⟩;exact aN.of e
 ·intro i xx σ H' Ar gH;nofun;obtain⟨⟨z2,z3,z4,z5,rfl⟩,u,t,O,ys,z,yI,B⟩:=gH;clear pP MQ m WG;have hi:i < (gY r d.ws.length).length:=by rw[<-Lr];exact(List.getElem?_eq_some_iff.mp Ar).1
  obtain⟨p,R⟩:∃p,(gY r d.ws.length)[i]?=some p:=⟨_,cN hi⟩
  obtain⟨hw,e,m⟩:=gC.mp (U' R);have hk:p.2<(r.ww p.1).say.length:=by rw[I.lk _ hw];exact(List.getElem?_eq_some_iff.mp m).1
  obtain⟨b,e1,hb⟩:=O.got i (pI p) (by rw[List.getElem?_map,R];rfl);rw[Ar]at e1;obtain rfl:=Option.some.inj e1;ac_rfl;clear e1;have Ay:=G.same u;have VO:=u _ _ hx;right;calc tP (bL.of hb) ?_;calc L2.ck λm i=>?_;right;calc⟨x,Z,_,rfl,VO,eL ⋯,F,x,bq,d,r,ad,p.1,p.2,rfl,Ay,I,hw,hk,λv S=>?_⟩;calc L2.cm i ?_;clear i
  cases U:(r.ww p.1).snd.getD p.2 none with
  |none=>
   rw[U]at S;have:v=.bH:=by cases(show HT H' 1 v .bH from S);rfl
   subst this;right
   try rw[if_neg ∅]
   calc⟨⟨_,_,_,_,rfl,rfl,rfl,rfl⟩,u,t,O,ys,z,(),?_⟩;rw[yX R,show wM r p=none from U];simpa using B
  |some q0=>
   nofun;obtain⟨a,rfl,i⟩:=tq (show HT H' 1 v (pairD q0) from by have:=S;rw[U]at this;calc this);ac_rfl;right
   try rw[if_pos ∅]
   calc⟨.inl ⟨rfl,_,aN.of z⟩,?_⟩;calc⟨x,Z,_,rfl,VO,eL ⋯,F,x,bq,d,r,ad,p.1,p.2,rfl,Ay,I,hw,hk,λW i=>?_⟩;calc⟨by rw[sizeLine_eq];lia,λX d=>?_⟩;have l:=au.new (.tup [.ref b,.ref a,W]) d;have Nw:upd H' X (.tup [.ref b,.ref a,W]) X=some (.tup [.ref b,.ref a,W]):=ab;have WH:=l _ _ z;have abR:=B.aK l.aM;have abS:=l _ _ t;have abT:=O.mono l.aM;have hv4:=S.aK l.aM;have abU:=i.aK l.aM;have Xp:=l _ _ hb;have sI:=u.trans l;generalize Xq:upd H' X (.tup [.ref b,.ref a,W])=G4 at *;calc gB _ WH (aA ()) ?_;have st:cg G4 (upd G4 k (.lst (ys++[.ref X]))):=(cg.refl _).upd λg e=>by rw[WH]at e;cases e
   calc⟨⟨_,_,_,_,rfl,rfl,rfl,rfl⟩,λc o e=>by rw[ax (ao e q9)];calc sI _ _ e,by rw[ax nl];calc abS,abT.mono st,_,ab,by simp;lia,?_⟩;have:=((abR.snoc (e:=L0 r p) (kL (n:=1) Nw (cH (n:=0) Xp (.int _) (.int _)) hv4 abU)).aK st)
   rw[yX R,show wM r p=some q0 from U,if_pos (show(some q0).isSome=true from rfl),List.map_append];exact this
 ·intro σ H' gI;obtain⟨⟨z2,z3,z4,z5,rfl⟩,u,t,O,ys,z,yI,B⟩:=gI;right;rw[Lr,List.take_length]at B;calc q k ys H' u q9 z B
abbrev gP:Stmt:=top 19
inductive IJ(vs:List V)(H:Hp)(Q:VK):Prop
 |mk (l t:Addr) (ys:List V) (r:RS) (ps:List (Nat×Nat)) (cut:List Int) (h0:vs=[.ref l,.ref t]) (h1:H l=some (.lst ys)) (h2:eS H 2 ys (ps.map (L0 r))) (h3:ps.length<=40) (h4:H t=some (.tup (cut.map V.int))) (h5:∀p∈ps,(∀e,wM r p=some e->0<=e.1/\e.1<(cut.length:Nat))/\∀e,Sn r p=some e->0<=e.1/\e.1<(cut.length:Nat)) (q:∀l' zs H',au H H'->H l'=none->H' l'=some (.lst zs)->eS H' 1 zs ((ps.filter (mw r cut)).map λp=>pairD (pI p))->Q (.ref l') H'):IJ vs H Q
def CH:Sp:=λvs H Q _=>IJ vs H Q
theorem qN(D:cM K mg "orphans_among" "orphans_among" gP ["passed","cut"])(T:Tx K mg C CN CR F FD)(y:Def P w K mg base "is_inside" 1 ["event","cut"] HS):Def P w K mg base "orphans_among" 2 ["passed","cut"] CH:=by
 have sc:aB ["passed","cut"] ["passed","cut"] (av gP):=by walk_at "s"
 symm;obtain⟨l,t,ys,r,ps,cut,rfl,g,o,W,N,k,q⟩:=h;have T:=hr.units;calc⟨_,(ak (aD (cX (N':=["letter","sender","worker","cut"]) (ix:=[none,none,none,some 1]) (bM (pv 0)) (λ_ _ _ _=>(DE (K:=K) rfl (i:=0) (j:=1) (l:=2) rfl (show(["letter","sender","worker","cut"]:List Str).Nodup by decide +kernel) rfl rfl rfl Sort Sort Sort)) (λ_ _ _ _=>(iO (PW.pt (pw_and (bu (aJ y hr (af (aq 2) (af (aq 3) aa)))) (pw_and1 (cp (bu (aJ y hr (af (aq 1) (af (aq 3) aa)))))))))) (λ_ _ _ _=>(aq 0))))),?_⟩;have X:ys.length=ps.length:=by have:=o.1;rwa [List.length_map] at this
 right;calc bE ?_;right;calc .inl ⟨⟨_,aN.of g⟩,λD B=>?_⟩;refine bb (J:=tU K l) (n:=ys.length) (λi a H'=>au H H'/\eS H' 1 a (((ps.take i).filter (mw r cut)).map λp=>pairD (pI p))) (K' (aA ())) ⟨au.new _ B,eS.nil⟩ ?_ ?_ ?_ ?_
 ·rintro i a H' G ⟨s,_⟩;exact⟨_,_,aN.of (s _ _ g),cN G⟩
 ·rintro a H' ⟨s,_⟩;exact⟨_,aN.of (s _ _ g),E' _⟩
 ·intro i a H' G m O Y l d Z;nofun;obtain⟨s,x⟩:=Y;obtain⟨rfl,y⟩:=Z;have ex:=y _ (aN.of (s _ _ g));obtain⟨p,z⟩:∃p,ps[i]?=some p:=⟨_,cN ()⟩
  obtain⟨ta,u,v,w0,kk,rfl,wA,y1,y2,y3⟩:=bS ((o.aK s.aM).2 i _ _ ex (by rw[List.getElem?_map,z];rfl));have R:=k p (U' z);have S:=s _ _ N;obtain⟨b,rfl,hb⟩:=tq (show HT d 1 u (ml (some (pI p))) from AQ (e:=some (pI p)) y1);ac_rfl;calc⟨ta,_,rfl,bL.of wA,rfl,_,_,rfl,_,_,rfl,_,_,rfl,rfl,Ext.set (Ext.set (Ext.set (Ext.refl _) rfl) rfl) rfl,?_⟩;right;calc⟨_,_,t,cut,rfl,AQ y3,S,R.2,?_⟩;calc xW ?_;have I:mw r cut p=true->∃g,d D=some (HO.lst g)/\g.length<sizeLine/\Rr (λi a H'=>au H H'/\eS H' 1 a (List.map (λp=>pairD (pI p)) (List.filter (mw r cut) (List.take i ps)))) D i (upd d D (HO.lst (g++[V.ref b]))):=λL=>by
   have st:cg d (upd d D (.lst (a++[.ref b]))):=(cg.refl _).upd λa e=>by rw[m]at e;cases e
   calc bT m O G (K' (aA ())) ⟨λc o e=>by rw[ax (ao e B)];calc s _ _ e,?_⟩;rw[yY z,L,if_pos rfl,List.map_append];exact(x.snoc (cH (n:=0) hb (.int _) (.int _))).aK st
  have U:mw r cut p=false->Rr (λi a H'=>au H H'/\eS H' 1 a (List.map (λp=>pairD (pI p)) (List.filter (mw r cut) (List.take i ps)))) D i d:=λL=>⟨_,m,(),s,by rw[yY z,L,if_neg ∅,List.append_nil];calc x⟩
  cases M:AE (Sn r p) cut with
  |false=>
   rw[if_neg ∅,if_neg ∅];calc U (by unfold mw;rw[M];rfl)
  |true=>
   rw[if_pos rfl];calc⟨_,_,t,cut,rfl,AQ y2,S,R.1,?_⟩;refine xW ?_
   cases d:AE (wM r p) cut with
   |false=>
    rw[if_pos ∅];calc I (by unfold mw;rw[M,d];rfl)
   |true=>
    rw[if_neg ∅];exact U (by unfold mw;rw[M,d];rfl)
 rintro a H' m O ⟨s,x⟩;rw[X,List.take_length]at x;calc q D a H' s B m x
abbrev j4:Stmt:=top 20
inductive IK(C CN CR:Addr)(vs:List V)(H:Hp)(Q:VK):Prop
 |mk (F:Addr->Prop) (x bq:Addr) (nt:NT) (r:RS) (ad:Nat->Nat->Addr) (t:Addr) (cut:List Int) (h0:vs=[.ref x,.ref t]) (h1:bX C CN CR F H x bq nt r ad) (h2:r.Ok nt) (h3:r.Iv nt) (h4:r.Pk nt) (h5:r.picks.length<=40) (h6:H t=some (.tup (cut.map V.int))) (h7:jN nt r cut) (q:∀l zs H',au H H'->H l=none->H' l=some (.lst zs)->eS H' 1 zs ((pZ r cut (gY r nt.ws.length)).map λp=>pairD (pI p))->Q (.ref l) H'):IK C CN CR vs H Q
def CI(C CN CR:Addr):Sp:=λvs H Q _=>IK C CN CR vs H Q
theorem wN(D:cM K mg "orphans_of" "orphans_of" j4 ["run","cut"])(T:Tx K mg C CN CR F FD)(k:Def P w K mg base "letters_passed" 6 ["run"] (CG C CN CR))(l:Def P w K mg base "need_cut" 6 ["run","cut"] (HR C CN CR))(m:Def P w K mg base "orphans_among" 2 ["passed","cut"] CH):Def P w K mg base "orphans_of" 7 ["run","cut"] (CI C CN CR):=by
 have sc:aB ["run","cut"] ["run","cut"] (av j4):=by walk_at "s"
 symm;obtain⟨F,x,bq,b,r,ad,t,cut,rfl,c,d,a,e,j,g,i,q⟩:=h;have n:=hr.units;refine⟨_,(ag (bI (aJ l hr (af (aq 0) (af (aq 1) aa))))
  (ak (aD (aJ m hr (af (aJ k hr (af (aq 0) aa)) (af (aq 1) aa)))))),?_⟩
 calc L2.ck λl k=>?_;right;calc⟨F,x,bq,b,r,ad,t,cut,rfl,c,g,i,λH1 m=>?_⟩;calc L2.cm k ?_;clear k;right;calc⟨F,x,bq,b,r,ad,rfl,c.same m,d,a,e,j,λl ys H2 n v o u=>?_⟩;have b:=m.trans n;have c:=ye a e;refine⟨l,t,ys,r,_,cut,rfl,o,u,aac (List.length_filter_le _ _) (),b _ _ g,λp j=>?_,λe g k l m c n=>?_⟩
 ·exact Q8 d a i.len (List.mem_filter.mp j).1
 ·calc q e g k (b.trans l) (b.free m) c n
theorem L3{xs ys:List (Nat×Nat)}:pZ r cut (xs++ys)=pZ r cut xs++pZ r cut ys:=by
 unfold pZ yW;rw[List.filter_append,List.filter_append]
theorem L4{r:RS}{cut:List Int}{p:Nat×Nat}:pZ r cut [p]=if ((wM r p).isSome&&mw r cut p)=true then[p] else[]:=by
 unfold pZ yW;rw[List.filter_cons,List.filter_nil]
 cases(wM r p).isSome with
 |true=>rw[if_pos rfl,List.filter_cons,List.filter_nil,Bool.true_and]
 |false=>rw[if_neg ∅,List.filter_nil,Bool.false_and,if_neg ∅]
theorem Rc{nt:NT}(a:r.Iv nt){w:Nat}(b:w<nt.ws.length):(ij r w (r.ww w).cD.length).length<=r.picks.length:=by
 rw[yc,<-a.cnt];have:=xX (r:=r) (W:=nt.ws.length) (V:=w+1) b;rw[se]at this;lia
theorem Er{K:W.Frag}{xs:List V}{c:List DV}(j:H a=some (.lst xs))(k:H b=some (.lst ys))(d:eS H 1 xs c)(e:eS H 1 ys c):kl K H 20 (.ref a) (.ref b):=by
 calc .inr ⟨_,_,_,_,rfl,rfl,.inr ⟨aN.of j,aN.of k⟩,d.1.trans e.1.symm,λi u v g l=>?_⟩;have j:i<c.length:=by rw[<-d.1];exact(List.getElem?_eq_some_iff.mp g).1
 calc Bz (d.2 i u _ g (cN j)) (e.2 i v _ l (cN j)) ∅
theorem IL{K:W.Frag}{t:Addr}(a:H t=some (.tup (cut.map V.int)))(b:0<=m)(c:m<(cut.length:Nat)):iJ (cut.map V.int) m=some (.int (cut.getD m.toNat 0)):=by
 have:=ay (xs:=cut.map V.int) (j:=m.toNat) (v:=.int (cut.getD m.toNat 0)) (by rw[List.getElem?_map,aS (d:=0) ()];rfl);rw[show((m.toNat:Nat):Int)=m by lia]at this;calc this
abbrev jo:Stmt:=top 69
inductive IM(vs:List V)(H:Hp)(Q:VK):Prop
 |mk (F:Addr->Prop) (d:Addr) (tn:V) (nt:NT) (r:RS) (ad:Nat->Nat->Addr) (t:Addr) (cut:List Int) (h0:vs=[.ref d,.ref t]) (h1:bU F H d tn nt r ad) (h2:r.Ok nt) (h3:r.Iv nt) (h4:r.picks.length<=40) (h5:H t=some (.tup (cut.map V.int))) (h6:jN nt r cut) (q:∀l zs H',au H H'->H' l=some (.lst zs)->eS H' 1 zs ((pZ r cut (gY r nt.ws.length)).map λp=>pairD (pI p))->Q (.ref l) H'):IM vs H Q
def CJ:Sp:=λvs H Q _=>IM vs H Q
theorem ux(D:cM K mg "_law_orphans" "_law_orphans" jo ["_law_run","_law_cut"])(T:Tx K mg C CN CR F FD):Def P w K mg base "_law_orphans" 1 ["_law_run","_law_cut"] CJ:=by
 have sc:aB ["_law_run","_law_cut","_law_some","_law_way","_law_number","_law_m","_law_c","_law_sender"] ["_law_run","_law_cut"] (av jo):=by walk_at "s"
 symm;obtain⟨F,d,g,nt,r,ad,t,cut,rfl,R,cC,hI,jM,ht,hC,q⟩:=h;have g:=hr.units;have DN:=Xk g;refine⟨_,(ag (aY (i:=2) sc.nd rfl Sort (bG aa))
  (ag (dj PassesOwn.never rfl (cT rfl T.eA (af (aW aL rfl T.bZ M' (af (aj g (aq 0) aC) aa)) aa)) (aQ (i:=3) sc.nd rfl Sort)
  (ak (dj PassesOwn.never rfl (bM (aW (uZ rfl) rfl T.sC PyProof.Rows.boot_sorted (af (aj g (aj g (aq 0) aC) (aq 3)) aa))) (aQ (i:=4) sc.nd rfl Sort)
  (ag (eD (Kt DN (aj g (aj g (aq 0) aC) (aq 3)) (aq 4) (xJ rfl)) (eQ (i:=5) (j:=6) rfl sc.nd rfl rfl Sort Sort))
  (ag (aY (i:=7) sc.nd rfl Sort (aj g (aj g (aj g (aq 0) aC) (aq 3)) (aq 4)))
  (ak (aR (PW.pt (pw_and (az rM (aq 6) (aj g (aq 1) (aq 5)) (aE _)) (pw_and (az l7 (aq 7) hX (aE _)) (pw_and1 (az mM (aj g (aq 7) ai) (aj g (aq 1) (aj g (aq 7) ai)) (aE _)))))) (ak (bI (dy mH qr qt bV (aq 2) (af (bD (af (aq 3) (af (aq 4) aa))) aa)))) aH)))))))
  (ak (aD (aq 2))))),?_⟩
 obtain⟨T,hd,nF,nP,g⟩:=R.dk;have l4:=(g 4 ∅ ∅).1;have l5:=(g 5 ∅ ∅).1;have l6:=(g 6 ∅ ∅).1;have T:=R.ok;have g:=T.zX;have g:=hC.len;right;calc⟨V' _,λl q9=>?_⟩;have s1:=au.new (.lst []) q9;have QG:upd H l (.lst []) l=some (.lst []):=ab;generalize EB:upd H l (.lst [])=G1 at *;right;calc⟨_,Eb (s1 _ _ hd),_,.inl ⟨_,aN.of (s1 _ _ l4),rfl⟩,?_⟩;rw[eY,show nt.n 4=nt.ws.length from rfl];refine⟨_,rfl,(),(),hJ (n:=nt.ws.length) (λi σ H'=>(∃z3 z B I J,σ=[some (V.ref d),some (V.ref t),some (V.ref l),z3,z,B,I,J])/\au H H'/\∃ys:List V,H' l=some (.lst ys)/\ys.length<=40*i/\eS H' 1 ys ((pZ r cut (gY r i)).map λp=>pairD (pI p))) ?_ ?_ ?_⟩
 ·exact⟨⟨_,_,_,_,_,rfl⟩,s1,[],QG,V' _,eS.nil⟩
 ·intro i σ H' u gH;obtain⟨⟨z3,z,B,I,J,rfl⟩,L,ys,v,U,x⟩:=gH;rw[Int.zero_add];have g:=cC.ls i u;have MZ:=cC.lk i u;have g:=Rc hI u;nofun;obtain⟨LP,e6,d6⟩:=(R.same L).cn.Xi (t:=6) (i:=i) u rfl;obtain⟨g,W,Uj⟩:=GO d6;ac_rfl;have wc:g.length<=r.picks.length:=by have:=Uj.length_eq;rw[List.length_map] at this;lia
  calc⟨_,LO (L _ _ hd),bA (L _ _ l6) (aV u) ⟨ad 6 i,rfl,.inr (.inl ⟨LP,g,e6,W,(),λlk ns MZ K9 WE=>?_⟩)⟩⟩;obtain rfl:=yd (K9.trans Uj) WE;have s2:=au.new (.lst (((ij r i (r.ww i).cD.length).map λk:Nat=>(k:Int)).map V.int)) MZ;have o:upd H' lk (.lst (((ij r i (r.ww i).cD.length).map λk:Nat=>(k:Int)).map V.int)) lk=some (.lst (((ij r i (r.ww i).cD.length).map λk:Nat=>(k:Int)).map V.int)):=ab;have nlk:lk≠l:=Ne.symm (ao v MZ);have WI:=s2 _ _ v;have qJ:=x.aK s2.aM;have X:=L.trans s2;generalize wY:upd H' lk (.lst (((ij r i (r.ww i).cD.length).map λk:Nat=>(k:Int)).map V.int))=G2 at *;clear wY s2 K9 WE Uj W wc d6 e6 v x MZ L;refine .inl ⟨⟨_,aN.of o⟩,eV (K:=K) (xs:=((ij r i (r.ww i).cD.length).map λk:Nat=>(k:Int)).map V.int) (λk σ G=>(∃z B I J,σ=[some (V.ref d),some (V.ref t),some (V.ref l),some (V.int i),z,B,I,J])/\au H G/\G lk=some (.lst (((ij r i (r.ww i).cD.length).map λk:Nat=>(k:Int)).map V.int))/\∃ys,G l=some (.lst ys)/\ys.length<=40*i+k/\eS G 1 ys ((pZ r cut (gY r i++((ij r i (r.ww i).cD.length).take k).map λk=>(i,k))).map λp=>pairD (pI p))) ?_ ?_ ?_ ?_⟩
  ·calc⟨⟨_,_,_,_,rfl⟩,X,o,ys,WI,U,?_⟩;rw[List.take_zero,List.map_nil,List.append_nil];exact qJ
  ·rintro k σ G g ⟨_,_,e,_⟩;exact aN.of e
  ·intro k xx σ G hx gI;nofun;obtain⟨⟨z,B,I,J,rfl⟩,y,M,ys,v,U,x⟩:=gI;clear WI qJ X o;rw[List.map_map,List.getElem?_map] at hx;obtain⟨c,N,UL⟩:=Option.map_eq_some_iff.mp hx;have UL:xx=V.int (c:Nat):=UL.symm;subst UL;have g:=(List.getElem?_eq_some_iff.mp N).1;obtain⟨o,e,g⟩:=oB.mp (U' N);obtain⟨LP,W,g1,o,g3,T⟩:=(R.same y).ZR u c;have Y:(r.ww i).cD.getD c none=some e:=by rw[List.getD_eq_getElem?_getD,g];rfl
   obtain⟨aw,ea,mq⟩:=T e Y;obtain⟨m0,W,_⟩:=hI.ev i c e.1 e.2 u g;ac_rfl;rw[ea]at o;right;calc⟨_,LO (y _ _ hd),bA (y _ _ l6) (aV u) ⟨ad 6 i,_,rfl,o,aw,_,rfl,bL.of mq,rfl,_,_,rfl,_,_,rfl,rfl,?_⟩⟩;nofun;obtain⟨v5,W,X⟩:=(R.same y).cn.lst (t:=5) (i:=i) u rfl;obtain⟨Z,R,g⟩:=X.get (i:=c) (d:=ml ((r.ww i).snd.getD c none)) (by rw[List.getElem?_map,aS (d:=none) ()];rfl);ac_rfl;have Ce:=Ci (g.cv c9);calc L2.ck λN2 h2=>?_;right;calc bz _ (HZ (y _ _ hd)) ?_;right;calc bA (y _ _ l5) (aV u) ?_;calc bA W (ay R) ?_;calc L2.cm h2 ?_;clear h2;have O:pZ r cut (gY r i++((ij r i (r.ww i).cD.length).take (k+1)).map λk=>(i,k))=pZ r cut (gY r i++((ij r i (r.ww i).cD.length).take k).map λk=>(i,k))++if ((wM r (i,c)).isSome&&mw r cut (i,c))=true then[(i,c)] else[]:=by
    rw[List.take_add_one,N,<-L4,<-L3,List.map_append,List.append_assoc];rfl
   have X4:=y _ _ ht;clear g1 o g3 T X g W;calc L2.qW λk U0 EE L5=>?_;have yes:((wM r (i,c)).isSome&&mw r cut (i,c))=true->k [some (V.ref d),some (V.ref t),some (V.ref l),some (V.int i),some (V.int c),some (V.int e.1),some (V.int e.2),some Z] G:=λS=>by
    calc L2.cm EE ?_;right;calc ig (.inl ⟨rfl,_,aN.of v⟩) cY (λtp g=>?_);have u1:=au.new (.tup [.int (i:Nat),.int (c:Nat)]) g;have Nw:upd G tp (.tup [.int (i:Nat),.int (c:Nat)]) tp=some (.tup [.int (i:Nat),.int (c:Nat)]):=ab;have WJ:=u1 _ _ v;have abZ:=x.aK u1.aM;have ab0:=u1 _ _ M;have Q7:=y.trans u1;generalize EB:upd G tp (.tup [.int (i:Nat),.int (c:Nat)])=G1 at *;have st:cg G1 (upd G1 l (.lst (ys++[.ref tp]))):=(cg.refl _).upd λg e=>by rw[WJ]at e;cases e
    calc⟨_,WJ,aA (),⟨_,_,_,_,rfl,rfl,rfl,rfl⟩,λb o e=>by rw[ax (ao e q9)];calc Q7 _ _ e,by rw[ax nlk];calc ab0,_,ab,by simp;lia,?_⟩;rw[O,if_pos S,List.map_append];exact(abZ.snoc (cH (n:=0) Nw (.int _) (.int _))).aK st
   have no:((wM r (i,c)).isSome&&mw r cut (i,c))=false->U0 [some (V.ref d),some (V.ref t),some (V.ref l),some (V.int i),some (V.int c),some (V.int e.1),some (V.int e.2),some Z] G:=λS=>by
    calc L2.cm L5 ?_;calc⟨⟨_,_,_,_,rfl⟩,y,M,ys,v,(),?_⟩;rw[O,S,if_neg ∅,List.append_nil];exact x
   clear EE L5 O;have g:mw r cut (i,c)=(decide (e.2<=cut.getD e.1.toNat 0) && !AE (wM r (i,c)) cut):=by
    unfold mw;rw[show Sn r (i,c)=some e from Y];rfl
   rw[g]at yes no;right;calc di X4 (IL (K:=K) X4 m0 ()) ?_;right
   cases zi:decide (e.2<=cut.getD e.1.toNat 0) with
   |false=>
    rw[if_neg ∅]
    try rw[if_neg ∅]
    calc no (by rw[zi];simp)
   |true=>
    rw[if_pos ∅]
    cases WK:(r.ww i).snd.getD c none with
    |none=>
     rw[WK]at Ce;have:Z=.bH:=by cases(show HT G 1 Z .bH from Ce);rfl
     subst this;right;rw[if_neg ∅]
     try rw[if_neg ∅]
     calc no (by rw[show wM r (i,c)=none from WK];rfl)
    |some m=>
     nofun;obtain⟨a,rfl,g⟩:=tq (show HT G 1 Z (pairD m) from by rw[WK]at Ce;calc Ce);obtain⟨k,o,_⟩:=cC.sd i u m.1 m.2 (by rw[show(some (m.1,m.2):Option (Int×Int))=(r.ww i).snd.getD c none from WK.symm];calc getD_mem ());ac_rfl;right;rw[if_pos nofun];calc di g (ay (j:=1) rfl) ?_;calc di g (ay (j:=0) rfl) ?_;calc di X4 (IL (K:=K) X4 k ()) ?_;right;have hz:((wM r (i,c)).isSome&&(decide (e.2<=cut.getD e.1.toNat 0) && !AE (wM r (i,c)) cut))=decide (cut.getD m.1.toNat 0<m.2):=by
      rw[show wM r (i,c)=some m from WK,zi];show(!decide (m.2<=cut.getD m.1.toNat 0))=_;rw[<-decide_not];exact decide_eq_decide.mpr ()
     cases S:decide (cut.getD m.1.toNat 0<m.2) with
     |true=>
      rw[if_pos rfl];calc yes (hz.trans S)
     |false=>
      rw[if_neg ∅];exact no (hz.trans S)
  ·intro σ G mV;obtain⟨⟨z,B,I,J,rfl⟩,y,M,ys,v,U,x⟩:=mV;simp only[List.length_map]at U x;rw[List.take_length,<-pf]at x;exact⟨⟨_,_,_,_,_,rfl⟩,y,ys,v,(),x⟩
 ·intro σ H' pE;obtain⟨⟨z3,z,B,I,J,rfl⟩,L,ys,v,U,x⟩:=pE;right;calc q l ys H' L v x
abbrev fQ:Stmt:=top 74
inductive IP(vs:List V)(H:Hp)(Q:VK):Prop
 |mk (l l':Addr) (xs ys:List V) (ps:List (Int×Int)) (h0:vs=[.ref l,.ref l']) (h1:H l=some (.lst xs)) (h2:H l'=some (.lst ys)) (h3:eS H 1 xs (ps.map pairD)) (h4:eS H 1 ys (ps.map pairD)) (q:Q (.bl true) H):IP vs H Q
def CK:Sp:=λvs H Q _=>IP vs H Q
theorem oP(D:cM K mg "_law_are_letters" "_law_are_letters" fQ ["_law_found","_law_due"])(T:Tx K mg C CN CR F FD):Def P w K mg base "_law_are_letters" 1 ["_law_found","_law_due"] CK:=by
 have sc:aB ["_law_found","_law_due","_law_letter"] ["_law_found","_law_due"] (av fQ):=by walk_at "s"
 symm;obtain⟨l,g,d,ys,ps,rfl,b,m,c,n,q⟩:=h;have e:=hr.units;refine⟨_,(ag (aR (PW.pt (pw_or (cp (bu (aW cB rfl T.aZ vz (af (aq 0) (af (cF (v:=.ty "list") rfl T.dX xc rfl) aa))))) (pw_or1 (az (eP e) (aq 0) (aq 1) (aE _))))) (ak (aD fV)) aH)
  (ag (dj PassesOwn.never rfl (bM (pv 0)) (aQ (i:=2) sc.nd rfl Sort)
  (ak (aR (PW.pt (pw_or (cp (bu (aW cB rfl T.aZ vz (af (aq 2) (af (cF (v:=.ty "tuple") rfl T.bQ qu rfl) aa))))) (pw_or (bu (aW cB rfl T.aZ vz (af (aj e (aq 2) ai) (af (cF (v:=.ty "bool") rfl T.wj PyProof.Rows.boot_bool rfl) aa)))) (pw_or1 (bu (aW cB rfl T.aZ vz (af (aj e (aq 2) ai) (af (cF (v:=.ty "bool") rfl T.wj PyProof.Rows.boot_bool rfl) aa)))))))) (ak (aD fV)) aH)))
  (ak (aD fV)))),?_⟩
 right;calc cw _ true (.lst b) rfl ?_;rw[if_neg ∅];refine .inl ⟨Er b m c n,?_⟩
 try rw[if_neg ∅]
 right;refine⟨_,rfl,.inl ⟨⟨_,aN.of b⟩,eV (K:=K) (xs:=d) (λk σ H2=>(∃d,σ=[some (V.ref l),some (V.ref g),d])/\H2=H) ?_ ?_ ?_ ?_⟩⟩
 ·exact⟨⟨_,rfl⟩,rfl⟩
 ·rintro k σ H2 y ⟨_,rfl⟩;exact aN.of b
 ·intro k x σ H2 o p;nofun;obtain⟨⟨r,rfl⟩,rfl⟩:=p;have t:k < ps.length:=by have:=c.1;simp only[List.length_map] at this;rw[<-this];exact(List.getElem?_eq_some_iff.mp o).1
  obtain⟨a,rfl,b⟩:=tq (c.2 k x _ o (by rw[List.getElem?_map,cN t];rfl));ac_rfl;right;calc cw _ true (.tup b) rfl ?_;rw[if_neg ∅];calc di b (ay (j:=0) rfl) ?_;calc cw _ false (.int _) rfl ?_;rw[if_neg ∅];calc di b (ay (j:=1) rfl) ?_;calc cw _ false (.int _) rfl ?_;rw[if_neg ∅];right;exact⟨_,rfl⟩
 ·intro σ H2 u;obtain⟨⟨r,rfl⟩,rfl⟩:=u;right;calc q
theorem lB.pk{nt:NT}(f:nt.Ok){ls:List (Int×Int)}(d:ls.length<=20){r:RS}(h:lB nt ls r):r.Pk nt:=by
 have e:∀n (s:List (Int×Int)),s.length=n->AN nt (RS.begin nt ls) s->(fP nt (RS.begin nt ls) s).Iv nt/\(fP nt (RS.begin nt ls) s).Pk nt:=λn=>by
  induction n with
  |zero=>
   intro s c _;have:s=[]:=List.length_eq_zero_iff.mp c;subst this;calc⟨RS.Iv.begin,RS.Pk.zero RS.Iv.begin (oJ f d).2⟩
  |succ n i=>
   intro s c j;rcases List.eq_nil_or_concat s with rfl|⟨l,p,g⟩
   ·simp at c
   rw[List.concat_eq_append]at g;subst g;obtain⟨m,w,k,rfl,d⟩:=En j;obtain⟨a,b⟩:=i l (by simpa using c) m;rw[j3];exact⟨a.pick f d.lt d.lies,b.pick a d.lies⟩
 have:=(e _ _ rfl h.X1).2;rwa [<-h.pl]at this
abbrev lC:Stmt:=top 75
inductive IQ(C CN CR:Addr)(vs:List V)(H:Hp)(Q:VK):Prop
 |mk (F G:Addr->Prop) (x bq d:Addr) (tn:V) (nt:NT) (r:RS) (ad bd:Nat->Nat->Addr) (l:Addr) (ts:List Addr) (h0:vs=[.ref x,.ref d,.ref l]) (h1:bX C CN CR F H x bq nt r ad) (h2:bU G H d tn nt r bd) (h3:r.Ok nt) (h4:r.Iv nt) (hP:r.Pk nt) (h5:r.picks.length<=40) (h6:H l=some (.lst (ts.map V.ref))) (h7:∀t∈ts,∃cut:List Int,H t=some (.tup (cut.map V.int))/\jN nt r cut) (q:∀H',au H H'->Q (.bl true) H'):IQ C CN CR vs H Q
def CL(C CN CR:Addr):Sp:=λvs H Q _=>IQ C CN CR vs H Q
theorem yZ(D:cM K mg "_law_asked" "_law_asked" lC ["_law_told","_law_run","_law_cuts_here"])(T:Tx K mg C CN CR F FD)(fR:Def P w K mg base "_law_are_letters" 1 ["_law_found","_law_due"] CK)(jq:Def P w K mg base "_law_orphans" 1 ["_law_run","_law_cut"] CJ)(j5:Def P w K mg base "orphans_of" 7 ["run","cut"] (CI C CN CR)):Def P w K mg base "_law_asked" 8 ["_law_told","_law_run","_law_cuts_here"] (CL C CN CR):=by
 have sc:aB ["_law_told","_law_run","_law_cuts_here","_law_cut","_law_due","_law_k","_law_found"] ["_law_told","_law_run","_law_cuts_here"] (av lC):=by walk_at "s"
 symm;obtain⟨F,G,x,bq,d,J,m,r,ad,L,l,M,rfl,N,O,o,p,R,u,v,S,q⟩:=h;have hu:=hr.units;refine⟨_,(ag (dj PassesOwn.never rfl (bM (pv 2)) (aQ (i:=3) sc.nd rfl Sort)
  (ag (aY (i:=4) sc.nd rfl Sort (aJ jq hr (af (aq 1) (af (aq 3) aa))))
  (ak (dj PassesOwn.never rfl (cT rfl T.eA (af ai aa)) (aQ (i:=5) sc.nd rfl Sort)
  (ag (aY (i:=6) sc.nd rfl Sort (aJ j5 hr (af (aq 0) (af (aq 3) aa))))
  (ag (aR (cp (bu (aJ fR hr (af (aq 6) (af (aq 4) aa))))) (ak (aD fV)) aH)
  (ak (bI (Fh mH PySem.F.slot_list_clear PySem.F.type_list_clear KQ (aq 6))))))))))
  (ak (aD fV))),?_⟩
 calc L2.ck λN1 U=>?_;refine⟨_,rfl,.inl ⟨⟨_,aN.of v⟩,eV (K:=K) (xs:=M.map V.ref) (λi σ H'=>(∃y z a b,σ=[some (V.ref x),some (V.ref d),some (V.ref l),y,z,a,b])/\au H H') ?_ ?_ ?_ ?_⟩⟩
 ·exact⟨⟨_,_,_,_,rfl⟩,au.refl _⟩
 ·rintro i σ H' M ⟨_,s⟩;exact aN.of (s _ _ v)
 ·intro i xx σ H1 W gH;nofun;obtain⟨⟨y,z,a,b,rfl⟩,j⟩:=gH;clear U;rw[List.getElem?_map] at W;obtain⟨t,ht,rfl⟩:=Option.map_eq_some_iff.mp W;obtain⟨cut,X,Y⟩:=S t (U' ht);ac_rfl;show tS _ _ _ _ _;calc L2.ck λv i=>?_;right;calc⟨G,d,J,m,r,L,t,cut,rfl,O.same j,o,p,u,j _ _ X,Y,λZ zt v M B Xf=>?_⟩;calc L2.cm i ?_;clear i;have s2:=j.trans M;refine⟨_,rfl,∅,∅,hJ (n:=2) (λk σ I=>(∃a b,σ=[some (V.ref x),some (V.ref d),some (V.ref l),some (V.ref t),some (V.ref Z),a,b])/\au v I) ?_ ?_ ?_⟩
  ·exact⟨⟨_,_,rfl⟩,au.refl _⟩
  ·intro k σ I hk gI;obtain⟨⟨a,b,rfl⟩,g⟩:=gI;rw[Int.zero_add];have i:=s2.trans g;show tS _ _ _ _ _;calc L2.ck λk v=>?_;right;calc⟨F,x,bq,m,r,ad,t,cut,rfl,N.same i,o,p,R,u,i _ _ X,Y,λJ L O G M k l=>?_⟩;calc L2.cm v ?_;clear v;calc L2.ck λu p=>?_;calc L2.qW λi o v t=>?_;right;have i:=g.trans G;calc⟨J,Z,L,zt,(pZ r cut (gY r m.ws.length)).map pI,rfl,k,i _ _ B,by rw[List.map_map];calc l,by rw[List.map_map];calc Xf.aK i.aM,?_⟩;calc L2.cm t ?_;show u _ _;calc L2.cm p ?_;clear p v t;right;calc⟨.inl ⟨rfl,_,aN.of k⟩,_,k,?_⟩;exact⟨⟨_,_,rfl,rfl⟩,λc o e=>by rw[ax (ao (g _ _ e) M)];calc G _ _ (g _ _ e)⟩
  ·intro σ I mV;obtain⟨⟨a,b,rfl⟩,g⟩:=mV;exact⟨⟨_,_,_,_,rfl⟩,s2.trans g⟩
 ·intro σ H1 pE;obtain⟨⟨y,z,a,b,rfl⟩,j⟩:=pE;show N1 _ _;calc L2.cm U ?_;right;calc q _ j
theorem tH{K:W.Frag}{H:Hp}{n:Nat}{x:V}{d:DV}(h:HD H n x d):∀{m:Nat}{y:V}{k:Nat},HD H m y d->Gq d->n<k->kl K H k x y:=by
 induction h with
 |bH=>intro m y k h _ q;cases h;obtain⟨j,rfl⟩:∃j,k=j+1:=⟨k-1,()⟩;calc .inl ⟨rfl,rfl⟩
 |bl b=>intro m y k h c q;cases c
 |int i=>intro m y k h _ q;cases h;obtain⟨j,rfl⟩:∃j,k=j+1:=⟨k-1,()⟩;calc .inl ⟨rfl,rfl⟩
 |str i=>intro m y k h _ q;cases h;obtain⟨j,rfl⟩:∃j,k=j+1:=⟨k-1,()⟩;calc .inl ⟨rfl,rfl⟩
 | @tup n a t g e l i w=>
  intro m y k h c q;obtain⟨j,rfl⟩:∃j,k=j+1:=⟨k-1,()⟩
  cases c with
  |tup c=>
  cases h with
  | @tup m b ys _ z B C=>
   calc .inr ⟨a,b,t,ys,rfl,rfl,.inl ⟨bL.of e,bL.of z⟩,l.trans B.symm,λp u v r F=>?_⟩;have o:p<g.length:=by rw[<-l];exact(List.getElem?_eq_some_iff.mp r).1
   calc w p u g[p] r (cN o) (C p v g[p] F (cN o)) (c _ (aab o)) ()
 | @lst n a t g e l i w=>
  intro m y k h c q;obtain⟨j,rfl⟩:∃j,k=j+1:=⟨k-1,()⟩
  cases c with
  |lst c=>
  cases h with
  | @lst m b ys _ z B C=>
   calc .inr ⟨a,b,t,ys,rfl,rfl,.inr ⟨aN.of e,aN.of z⟩,l.trans B.symm,λp u v r F=>?_⟩;have o:p<g.length:=by rw[<-l];exact(List.getElem?_eq_some_iff.mp r).1
   calc w p u g[p] r (cN o) (C p v g[p] F (cN o)) (c _ (aab o)) ()
 |dict e=>intro m y k h c q;cases c
theorem IS(p:Int×Int):Gq (pairD p):=.tup λe a=>by
 simp at a;rcases a with rfl|rfl<;>calc .int _
theorem vt{α:Type}{l:List α}{f:α->Int×Int}:Gq (.lst (l.map λx=>pairD (f x))):=.lst λe a=>by
 obtain⟨z,_,rfl⟩:=List.mem_map.mp a;calc IS _
theorem IT:Gq (.lst (ns.map .int)):=.lst λe a=>by
 obtain⟨z,_,rfl⟩:=List.mem_map.mp a;calc .int z
theorem p6{n:Nat}{vs:List V}{b:List DV}(e:H a=some (.lst vs))(h:ei H n vs b):HD H (n+1) (.ref a) (.lst b):=.lst e h.1 h.2
theorem eS.Bg{n:Nat}{vs:List V}{c:List DV}(h:eS H n vs c):ei H n vs c:=⟨h.1,λi v d a b=>(h.2 i v d a b).hd⟩
theorem bU.words{F:Addr->Prop}{d:Addr}{f:V}{nt:NT}(h:bU F H d f nt r ad)(e:r.Ok nt){m:Nat}(c:m<nt.ms.length):∃b lw,H (ad 2 m)=some (.lst b)/\iJ b (-1)=some (.ref lw)/\H lw=some (.lst (((r.mm m).wp.bg []).map V.int)):=by
 obtain⟨b,g,f⟩:=h.cn.lst (t:=2) (i:=m) c rfl;have j:b.length=(r.mm m).wp.length:=by simpa using f.1
 have h:=e.v8 c;have h:=e.lw m c;obtain⟨v,k,l⟩:=f.get (i:=(r.mm m).wp.length-1) (d:=.lst (((r.mm m).wp.bg []).map .int)) (by rw[List.getElem?_map,jJ (d:=[]) ()];rfl);obtain⟨a,rfl,c⟩:=oO (l.cv c9);calc⟨b,a,g,jY () (by rw[j];calc k),c⟩
theorem L6{nt:NT}(h:r.Ok nt){w k:Nat}(c:w<nt.ws.length):k∈r.rj w↔(r.ww w).cD[k]?=some none:=by
 have f:=h.lk w c;unfold RS.rj;rw[List.mem_filter,List.mem_range];constructor
 ·rintro⟨a,b⟩;rw[aS (d:=none) ()]
  cases z:(r.ww w).cD.getD k none with
  |none=>rfl
  |some e=>rw[z]at b;simp at b
 ·intro a;have b:=(List.getElem?_eq_some_iff.mp a).1;calc⟨(),?_⟩;rw[getD_at a];rfl
abbrev j6:Stmt:=top 76
inductive IU(C CN CR:Addr)(vs:List V)(H:Hp)(Q:VK):Prop
 |mk (F G:Addr->Prop) (x bq d:Addr) (tn:V) (nt:NT) (r:RS) (ad bd:Nat->Nat->Addr) (h0:vs=[.ref x,.ref d]) (h1:bX C CN CR F H x bq nt r ad) (h2:bU G H d tn nt r bd) (h3:r.Ok nt) (h5:r.picks.length<=400) (h4:∀H',au H H'->Q (.bl true) H'):IU C CN CR vs H Q
def CM(C CN CR:Addr):Sp:=λvs H Q _=>IU C CN CR vs H Q
theorem wO(D:cM K mg "_law_stands" "_law_stands" j6 ["_law_told","_law_run"])(T:Tx K mg C CN CR F FD)(fz:Def P w K mg base "_law_lying" 1 ["_law_run","_law_way"] AK)(lD:cj P w K mg base CR "lying" 4 ["self","way"] (MY C CN CR))(dI:cj P w K mg base CR "schedule" 1 ["self"] (Av C CN CR))(fv:cj P w K mg base CR "state" 4 ["self","m"] (HB C CN CR))(lE:cj P w K mg base CR "words" 4 ["self","m"] (HE C CN CR)):Def P w K mg base "_law_stands" 5 ["_law_told","_law_run"] (CM C CN CR):=by
 have sc:aB ["_law_told","_law_run","_law_m","_law_words","_law_way","_law_put"] ["_law_told","_law_run"] (av j6):=by walk_at "s"
 symm;obtain⟨F,G,x,bq,d,tn,b,r,ad,a,rfl,X,z,p,jM,q⟩:=h;have g:=hr.units;refine⟨_,(ag (aR (az (eP g) (fc dI T.aO hr (aq 0)) (aj g (aq 1) aC) (aE _)) (ak (aD fV)) aH)
  (ag (dj PassesOwn.never rfl (fG rfl T.cu (af (aj g (aq 1) aC) aa)) (eQ (i:=2) (j:=3) rfl sc.nd rfl rfl Sort Sort)
  (ak (aR (PW.pt (pw_or (az (eP g) (dS lE T.aO hr (aq 0) (af (aq 2) aa)) (aj g (aq 3) (kG ia ai)) (aE _)) (pw_or1 (az (eP g) (dS fv T.aO hr (aq 0) (af (aq 2) aa)) (aj g (aj g (aj g (aq 1) aC) (aq 2)) (kG ia ai)) (aE _))))) (ak (aD fV)) aH)))
  (ag (dj PassesOwn.never rfl (fG rfl T.cu (af (aj g (aq 1) aC) aa)) (eQ (i:=4) (j:=5) rfl sc.nd rfl rfl Sort Sort)
  (ak (aR (az (eP g) (dS lD T.aO hr (aq 0) (af (aq 4) aa)) (cX (N':=["_law_k","_law_put"]) (ix:=[none,some 5]) (bM (aJ fz hr (af (aq 1) (af (aq 4) aa)))) (λ_ _ _ _=>(aQ (i:=0) (show(["_law_k","_law_put"]:List Str).Nodup by decide +kernel) rfl Sort)) mG (λ_ _ _ _=>(bD (af (aq 0) (af (dz (K:=K) rfl g (aq 1) (aq 0)) aa))))) (aE _)) (ak (aD fV)) aH)))
  (ak (aD fV))))),?_⟩
 nofun;obtain⟨g,o,hx,T⟩:=X.ins;obtain⟨T,hd,nF,nP,g⟩:=z.dk;ac_rfl;have l1:=(g 1 ∅ ∅).1;have l2:=(g 2 ∅ ∅).1;have l4:=(g 4 ∅ ∅).1;have T:=z.ok.My;have g:=z.ok.zX;calc L2.ck λg n1=>?_;right;calc eX hx (eL ⋯) ?_;calc⟨F,x,bq,b,r,ad,rfl,X,λl vs hl WD=>?_⟩;have Y:=au.new (.lst vs) hl;have el:upd H l (.lst vs) l=some (.lst vs):=ab;have ab1:=WD.cv Y.cv;generalize RJ:upd H l (.lst vs)=H0 at *;obtain⟨v0,g,T⟩:=(z.same Y).cn.lst (t:=0) (i:=0) (by show 0<1;decide) rfl;calc bz _ (QO (Y _ _ hd)) ?_;calc .inl ⟨tH (p6 el ab1) (p6 g (T.cv c9)) (vt (f:=id)) ∅,?_⟩;calc L2.cm n1 ?_;clear n1;calc L2.ck λN2 n2=>?_;right;refine⟨_,QN (Y _ _ hd),true,fW b.n a 2,Sq.l (Y _ _ l2),ib (xs:=fW b.n a 2) (λi σ H'=>(∃B I L M,σ=[some (V.ref x),some (V.ref d),B,I,L,M])/\au H H') ?_ ?_ ?_ ?_⟩
 ·exact⟨⟨_,_,_,_,rfl⟩,Y⟩
 ·rintro i σ H' ⟨_,m⟩;exact Sq.l (m _ _ l2)
 ·intro i xx σ H1 N O gH zk;nofun;obtain⟨⟨B,I,L,M,rfl⟩,m⟩:=gH;clear n2;have R:i < b.ms.length:=by have:=(List.getElem?_eq_some_iff.mp O).1;rw[eY] at this;exact this
  rw[iB R]at O;obtain rfl:=Option.some.inj O;have Ru:=au.new (.tup [.int (i:Nat),.ref (a 2 i)]) zk;have JW:upd H1 N (.tup [.int (i:Nat),.ref (a 2 i)]) N=some (.tup [.int (i:Nat),.ref (a 2 i)]):=ab;generalize wY:upd H1 N (.tup [.int (i:Nat),.ref (a 2 i)])=G2 at *;ac_rfl;have u:=m.trans Ru;calc tP (bL.of JW) ?_;right;calc eX (u _ _ hx) (eL ⋯) ?_;calc⟨F,x,bq,b,r,ad,i,rfl,X.same u,R,λlw g=>?_⟩;have tQ:=au.new (.lst (((r.mm i).wp.bg []).map V.int)) g;have elw:upd G2 lw (.lst (((r.mm i).wp.bg []).map V.int)) lw=some (.lst (((r.mm i).wp.bg []).map V.int)):=ab;nofun;generalize JF:upd G2 lw (.lst (((r.mm i).wp.bg []).map V.int))=H2 at *;have y:=u.trans tQ;have Y:=z.same y;obtain⟨v2,lw2,e2,g,T⟩:=Y.words p R;ac_rfl;calc bA e2 g ?_;calc .inl ⟨tH (p6 elw (ei.ints (n:=1) _)) (p6 T (ei.ints (n:=1) _)) IT ∅,?_⟩;have g:=p.v8 R;nofun;obtain⟨v1,e1,T⟩:=Y.cn.lst (t:=1) (i:=i) R rfl;have Y:v1.length=(r.mm i).dQ.length:=by simpa using T.1
  obtain⟨v,ev,dv⟩:=T.get (i:=(r.mm i).dQ.length-1) (d:=qE ((r.mm i).dQ.bg ([],[]))) (by rw[List.getElem?_map,jJ (d:=([],[])) g];rfl);ac_rfl;calc xW ?_;rw[if_neg ∅];calc eX (y _ _ hx) (eL ⋯) ?_;calc⟨F,x,bq,b,r,ad,i,rfl,X.same y,p,R,λT Ce=>?_⟩;calc bz _ (AJ (y _ _ hd)) ?_;calc bA (y _ _ l1) (aV R) ?_;calc bA e1 (jY () (by rw[Y];calc ev)) ?_;have hv:=HA (dv.cv c9);nofun;obtain⟨a1,_,_,_,rfl,_,_,_⟩:=dA (id Ce);obtain⟨a2,_,_,_,rfl,_,_,_⟩:=dA (id hv);ac_rfl;calc .inl ⟨Bz Ce hv ∅,?_⟩;calc xW ?_;rw[if_neg ∅];exact⟨⟨_,_,_,_,rfl,rfl,rfl,rfl⟩,y⟩
 intro σ H1 gI;obtain⟨⟨B,I,L,M,rfl⟩,m⟩:=gI;show N2 _ _;calc L2.cm n2 ?_;clear n2;calc L2.ck λN3 n3=>?_;right;refine⟨_,Eb (m _ _ hd),true,fW b.n a 4,Sq.l (m _ _ l4),ib (xs:=fW b.n a 4) (λi σ H'=>(∃B I L M,σ=[some (V.ref x),some (V.ref d),B,I,L,M])/\au H H') ?_ ?_ ?_ ?_⟩
 ·exact⟨⟨_,_,_,_,rfl⟩,m⟩
 ·rintro i σ H' ⟨_,m⟩;exact Sq.l (m _ _ l4)
 ·intro i xx σ H1 N O mV zk;nofun;obtain⟨⟨B,I,L,M,rfl⟩,m⟩:=mV;clear n3;have S:i < b.ws.length:=by have:=(List.getElem?_eq_some_iff.mp O).1;rw[eY] at this;exact this
  rw[iB S]at O;obtain rfl:=Option.some.inj O;have Ru:=au.new (.tup [.int (i:Nat),.ref (a 4 i)]) zk;have JW:upd H1 N (.tup [.int (i:Nat),.ref (a 4 i)]) N=some (.tup [.int (i:Nat),.ref (a 4 i)]):=ab;generalize wY:upd H1 N (.tup [.int (i:Nat),.ref (a 4 i)])=G2 at *;ac_rfl;have u:=m.trans Ru;calc tP (bL.of JW) ?_;right;calc eX (u _ _ hx) (eL ⋯) ?_;calc⟨F,x,bq,b,r,ad,i,rfl,X.same u,p,jM,S,λl ys H2 g hl el Bg=>?_⟩;have y:=u.trans g;calc bE ?_;right;calc⟨G,d,tn,b,r,a,i,rfl,z.same y,p,jM,S,λlq H3 Nj l Se=>?_⟩;have s4:=y.trans Nj;have a:=p.bs i S;have a:=rq (r:=r) (w:=i);nofun;obtain⟨a,e4,d4⟩:=(z.same s4).cn.lst (t:=4) (i:=i) S rfl;have z4':=d4.kM;subst z4';ac_rfl;calc .inl ⟨⟨_,aN.of Se⟩,λD hD=>?_⟩;refine bb (J:=tU K lq) (n:=(r.rj i).length) (λj U H'=>au H3 H'/\eS H' 1 U (((r.rj i).take j).map λk=>pairD (((k:Nat):Int),(r.ww i).say.getD k 0))) (K' (small ())) ⟨au.new _ hD,show eS _ 1 [] [] from eS.nil⟩ ?_ ?_ ?_ ?_
  ·rintro j U H' Z ⟨W,_⟩;exact⟨_,_,aN.of (W _ _ Se),by rw[List.getElem?_map,cN Z];rfl⟩
  ·rintro U H' ⟨W,_⟩;exact⟨_,aN.of (W _ _ Se),nofun⟩
  ·intro j U H' Z kU l9 pE xx H4 sL;nofun;obtain⟨W,QS⟩:=pE;obtain⟨rfl,hy⟩:=sL;have ex:=hy _ (aN.of (W _ _ Se));rw[List.getElem?_map,cN Z]at ex;obtain rfl:=Option.some.inj ex;ac_rfl;have a:=(L6 p S).mp (aab Z);have wc:(r.rj i)[j]<(r.ww i).say.length:=by
    have:=p.lk i S;have b:=(List.getElem?_eq_some_iff.mp a).1;lia
   walk_at "xf";right
   try rw[if_pos trivial]
   calc bA (W _ _ e4) (ay (j:=(r.rj i)[j]) (v:=.int ((r.ww i).say.getD (r.rj i)[j] 0)) (by rw[List.getElem?_map,aS (d:=0) wc];rfl)) ?_;calc⟨cY,λa b=>?_⟩;have s6:=au.new (.tup [.int (((r.rj i)[j]:Nat):Int),.int ((r.ww i).say.getD (r.rj i)[j] 0)]) b;have wI:=s6 _ _ kU;calc bT wI l9 Z (K' (small ())) ⟨λc o e=>by rw[ax (ao e hD)];calc s6 _ _ (W _ _ e),?_⟩;have tu:cg (upd H4 a (.tup [.int (((r.rj i)[j]:Nat):Int),.int ((r.ww i).say.getD (r.rj i)[j] 0)])) (upd (upd H4 a (.tup [.int (((r.rj i)[j]:Nat):Int),.int ((r.ww i).say.getD (r.rj i)[j] 0)])) D (.lst (U++[.ref a]))):=(cg.refl _).upd λU e=>by rw[wI]at e;cases e
   rw[List.take_succ,cN Z,List.map_append];exact((QS.aK s6.aM).snoc (cH (n:=0) ab (.int _) (.int _))).aK tu
  rintro U H4 kU l9 ⟨a,g⟩;rw[List.take_length]at g;right;have j:=(Nj.trans a) _ _ el;have b:=(Bg.cv c9).cv (Nj.trans a).cv;calc .inl ⟨tH (p6 j b) (p6 kU g.Bg) (vt (f:=λk:Nat=>(((k:Nat):Int),(r.ww i).say.getD k 0))) ∅,?_⟩;rw[if_neg ∅];exact⟨⟨_,_,_,_,rfl,rfl,rfl,rfl⟩,s4.trans a⟩
 ·intro σ H2 wq;obtain⟨⟨B,I,L,M,rfl⟩,u⟩:=wq;show N3 _ _;calc L2.cm n3 ?_;right;calc q _ u
theorem _root_.DD.dD.weak{F F':Addr->Prop}{n:Nat->Nat}{ct:Nat->Nat->CO}(h:dD F H n ad ct)(s:au H H')(a:∀b,F' b->F b\/H b=none):dD F' H' n ad ct:=by
 have c:∀{b:Addr} {o:HO},H b=some o->¬F b->¬F' b:=λ{b o} e d z=>(a _ z).elim d λq=>by rw[q]at e;cases e
 have f:Cv (ie (λb=>F b\/FP n ad b) H) (ie (λb=>F' b\/FP n ad b) H'):=λb u g i=>by
  obtain⟨a,d⟩:=dC g i;rw[fJ (λz=>z.elim (c d (λq=>a (.inl q))) (λq=>a (.inr q)))];exact s _ _ d
 refine⟨h.inj,λt i a=>?_,λt i a=>?_⟩
 ·obtain⟨d,e,_⟩:=h.Jz t i a;exact c e (h.out t i a)
 ·obtain⟨d,e,c⟩:=h.Jz t i a;calc⟨d,s _ _ e,c.cv f⟩
theorem bX.weak{C CN CR:Addr}{F F':Addr->Prop}{x:Addr}{nt:NT}(h:bX C CN CR F H x bq nt r ad)(s:au H H')(d:∀b,F' b->F b\/H b=none):bX C CN CR F' H' x bq nt r ad:=by
 have f:∀{b:Addr} {o:HO},H b=some o->¬F b->¬F' b:=λ{b o} e c z=>(d _ z).elim c λq=>by rw[q]at e;cases e
 obtain⟨⟨g,o,i,c⟩,j,k⟩:=h;calc⟨⟨g,o,s _ _ i,λt a b=>⟨s _ _ (c t a b).1,f (c t a b).1 (c t a b).2.1,(c t a b).2.2⟩⟩,j.weak s d,k.fr (Z:=λ_=>False) s.fr⟩
theorem of_map{α:Type}{f:α->V}{ts:List α}:∀(xs:List V),(∀x∈xs,x∈ts.map f)->∃us:List α,xs=us.map f/\∀u∈us,u∈ts
 | [],_=>⟨[],rfl,λu h=>by simp at h⟩
 |x::xs,h=>by
  obtain⟨us,e,a⟩:=of_map xs λy b=>h y (Y' _ b);obtain⟨t,c,rfl⟩:=List.mem_map.mp (h x X');exact⟨t::us,by rw[e];rfl,λu d=>by
   rcases List.mem_cons.mp d with rfl|b
   ·exact c
   ·calc a u b⟩
theorem CP(s:au H0 H)(f:Fr Z H H')(a:∀b,Z b->H0 b=none):au H0 H':=λb o e=>f.at (s _ _ e) λz=>by rw[a b z]at e;cases e
theorem lB.prefix{nt:NT}{ls:List (Int×Int)}{f:RS}(h:lB nt ls f)(g:nt.Ok)(j:ls.length<=20):∀i,i<=f.picks.length->lB nt ls (fP nt (RS.begin nt ls) (f.picks.take i))/\(fP nt (RS.begin nt ls) (f.picks.take i)).picks=f.picks.take i
 |0,_=>by
  rw[List.take_zero];calc⟨lB.begin g j,(oJ g j).2⟩
 |i+1,k=>by
  obtain⟨a,b⟩:=h.prefix g j i ();obtain⟨w,k,e,l⟩:=h.X1 i _ (cN (show i<f.picks.length by lia));rw[List.take_succ,cN (show i<f.picks.length by lia),e];show lB nt ls (fP nt (RS.begin nt ls) (f.picks.take i++[((w:Int),(k:Int))]))/\(fP nt (RS.begin nt ls) (f.picks.take i++[((w:Int),(k:Int))])).picks=_;rw[j3];obtain⟨c,d⟩:=a.pick g l;calc⟨c,by rw[d,b];rfl⟩
theorem lB.next{nt:NT}{a:RS}(h:lB nt ls a){i:Nat}(b:i<a.picks.length):∃w k:Nat,a.picks[i]?=some ((w:Int),(k:Int))/\(fP nt (RS.begin nt ls) (a.picks.take i)).JO nt w k/\fP nt (RS.begin nt ls) (a.picks.take (i+1))=(fP nt (RS.begin nt ls) (a.picks.take i)).pick nt w k:=by
 obtain⟨w,k,e,a⟩:=h.X1 i _ (cN b);calc⟨w,k,by rw[cN b,e],a,?_⟩;rw[List.take_succ,cN b,e];calc j3
theorem ints_of{xs:List V}(h:∀x∈xs,x∈ns.map V.int):∃us:List Int,xs=us.map V.int:=let ⟨us,e,_⟩:=of_map xs h;⟨us,e⟩
abbrev vv:Stmt:=top 77
def wQ(K:W.Frag):Sp:=λvs H Q _=>∃(a:Addr) (ns:List Int),vs=[.ref a]/\aN K H a (ns.map V.int)/\ns.length<=63/\∀H',Q (.bl true) H'
theorem Rf{f:Addr}{fd:FuncData}(D:Ky K "law" "law" vv f fd)(T:Tx K mg C CN CR F FD)(iT:Def P w K mg base "_law_asked" 8 ["_law_told","_law_run","_law_cuts_here"] (CL C CN CR))(eZ:Def P w K mg base "_law_at" 1 ["_law_script","_law_k"] (GY K))(fB:Def P w K mg base "_law_begun" 1 ["_law_net_here"] wK)(j7:Def P w K mg base "_law_cuts" 3 ["_law_run","_law_cell"] yV)(p7:Def P w K mg base "_law_net" 5 ["_law_script"] (Cy K))(iC:Def P w K mg base "_law_net_made" 9 ["_law_net_here"] (vq C CN))(gn:Def P w K mg base "_law_pick" 3 ["_law_run","_law_way","_law_number"] wJ)(p8:Def P w K mg base "_law_ran" 4 ["_law_net_here","_law_cells"] CC)(j8:Def P w K mg base "_law_stands" 5 ["_law_told","_law_run"] (CM C CN CR))(nB:cj P w K mg base CR "pick" 7 ["self","way","number"] (HJ C CN CR))(IV:xO P w K mg base "Run" CR 2 ["self","net"] (Cq C CN CR)):mh P w K mg base Dt 10 f fd ["_law_script"] (wQ K):=by
 have Y:aB ["_law_script","_law_net_here","_law_run","_law_told","_law_early","_law_k","_law_pick_here"] ["_law_script"] (av vv):=by walk_at "s"
 refine D.ok Y (λvs H Q E h=>?_) (λgE A outer s H vs Q E p h=>?_)
 ·obtain⟨a,ns,rfl,hS,XI,q⟩:=h;rfl
 ·obtain⟨a,ns,rfl,hS,XI,q⟩:=h;have hu:=p.units;refine⟨_,(ag (aY (i:=1) Y.nd rfl Sort (aJ p7 p (af (aq 0) aa)))
   (ag (aY (i:=2) Y.nd rfl Sort (aJ p8 p (af (aq 1) (af (Po (aq 0) (iM ai) (iM ai)) aa))))
   (ag (aY (i:=3) Y.nd rfl Sort (Gk IV p (af (aJ iC p (af (aq 1) aa)) aa)))
   (ag (aY (i:=4) Y.nd rfl Sort (aJ fB p (af (aq 1) aa)))
   (ag (dj PassesOwn.never rfl (fG rfl T.cu (af (aj hu (aq 2) aC) aa)) (eQ (i:=5) (j:=6) rfl Y.nd rfl rfl Sort Sort)
   (ag (aR (PW.pt (pw_and (az (ba hu) (bc eO (aq 5) ai) ai (aE _)) (pw_and1 (cp (bu (aJ iT p (af (aq 3) (af (aq 4) (af (rS (aJ j7 p (af (aq 4) (af (aJ eZ p (af (aq 0) (af ai aa))) aa))) (iM ai) (iM ai)) aa))))))))) (ak (aD fV)) aH)
   (ag (bI (aJ gn p (af (aq 4) (af (aj hu (aq 6) ai) (af (aj hu (aq 6) ai) aa)))))
   (ak (bI (dS nB T.aO p (aq 3) (af (aj hu (aq 6) ai) (af (aj hu (aq 6) ai) aa))))))))
   (ak (aD (iU (aJ iT p (af (aq 3) (af (aq 2) (af (aJ j7 p (af (aq 2) (af (aJ eZ p (af (aq 0) (af ai aa))) aa))) aa)))) (jO (aJ j8 p (af (aq 3) (af (aq 2) aa)))))))))))),?_⟩
  calc L2.ck λN1 h1=>?_;left;calc ud a ns rfl hS XI (λt am aw al mv wv lv gV ws ls H1 s1 g1 g2 g3 g4 g5 g6 g7 g=>?_);have Sj:ToldN H1 (.ref t) gV ws ls:=⟨t,am,aw,al,mv,wv,lv,rfl,g1,g2,g3,g4,g5,g6,g7⟩
  calc L2.cm h1 ?_;clear h1 g1 g2 g3 g4 g5 g6 g7;obtain⟨d,Sr⟩:∃d:NT,d=⟨gV,ws⟩:=⟨_,rfl⟩
  have So:∀l∈ls,0<=l.1/\l.1<d.ws.length:=λl hl=>by rw[Sr];exact⟨(g.lo l hl).1,(g.lo l hl).2.1⟩
  have IC:d.Ok:=by rw[Sr];exact g.nt
  generalize V.ref t=v at *;have R:=s1.seq hS;calc L2.ck λN2 h2=>?_;left;calc bz _ R (λlc Sk=>?_);obtain⟨xs,Ai⟩:=ints_of (ns:=ns) λx (B:x∈eC (ns.map V.int) (some 9) (some 49))=>BG B;have MM:xs.length<=40:=by
   have:=K4 (xs:=ns.map V.int) (i:=9) (j:=49);rw[show eC (ns.map V.int) (some ((9:Nat):Int)) (some ((49:Nat):Int))=xs.map V.int from Ai,List.length_map]at this;exact this
  have s2:=au.new (.lst (eC (ns.map V.int) (some 9) (some 49))) Sk;have Nv:upd H1 lc (.lst (eC (ns.map V.int) (some 9) (some 49))) lc=some (.lst (xs.map V.int)):=by rw[<-Ai];exact ab
  generalize wY:upd H1 lc (.lst (eC (ns.map V.int) (some 9) (some 49)))=H2 at *;refine⟨λ_=>False,v,d,ls,lc,xs,rfl,?_,λb m=>m.elim,IC,g.QT,So,Nv,MM,λd0 b0 I H3 s3 fb0 fd0 EE J ahK=>?_⟩
  ·rw[Sr];exact Sj.cv λb o e n'=>by rw[fJ (λz=>z)];exact s2 _ _ e
  calc L2.cm h2 ?_;clear h2 Sk Ai Nv wY hS;have pP:=s2.trans s3;have sq3:=pP.seq R;have Rg:ToldN H3 v gV ws ls:=Sj.cv pP.cv;clear s2 s3 fb0 fd0 R Sj pP MM s1;calc L2.ck λN3 h3=>?_;left;calc⟨v,gV,ws,ls,rfl,Rg,g,λn ms wv lv H4 s4 S hnF hnL=>?_⟩;rw[<-Sr]at S;intro x dx B Ng tN;have sx:au H4 (upd (upd H4 dx (.own x)) x (.ins CR dx [])):=λb o e=>by rw[ax (ao e B),ax (ao e Ng)];exact e
  calc⟨λ_=>False,x,dx,n,d,ls,ms,wv,lv,rfl,ab,S.fr (Z:=λ_=>False) sx.fr,hnF.fr (Z:=λ_=>False) sx.fr,hnL.aK sx.aM,g.QT,So,λb m=>m.elim,λu H5 k0 f0 U=>⟨rfl,?_⟩⟩;have s5:au H4 H5:=λb o e=>k0 b o (ao e B) (sx _ _ e);have f5:∀b,FP d.n u b->H4 b=none:=λb m=>sx.free (f0 b m);have MJ:=s4.trans s5;have f3:∀b,FP d.n u b->H3 b=none:=λb m=>s4.free (f5 b m);clear k0 f0 sx S hnF hnL B Ng tN f5 s4 s5;calc L2.cm h3 ?_;clear h3;calc L2.ck λN4 h4=>?_;left;refine⟨FP d.n u,v,d,ls,rfl,?_,λb m=>U.cn.fp m,IC,g.QT,So,λd1 y H6 s6 f6 fd1 Lm=>?_⟩
  ·rw[Sr];exact Rg.cv λb o e n'=>by rw[fJ (λz=>by rw[<-Sr]at z;rw[f3 b z]at e;cases e)];exact MJ _ _ e
  calc L2.cm h4 ?_;clear h4;have L:=U.weak (F':=FP d.n y) s6 λb m=>.inr (f6 b m);have X5:=MJ.trans s6;have f3b:∀b,FP d.n y b->H3 b=none:=λb m=>MJ.free (f6 b m);clear U f6 fd1 s6 MJ Rg;nofun;obtain⟨o',hd,nF,nP,ky⟩:=EE.dk;obtain⟨v0,e0,d0'⟩:=EE.cn.lst (t:=0) (i:=0) (by show 0<1;decide) rfl;ac_rfl;have hv0:v0.length=I.picks.length:=by simpa using d0'.1
  have hpx:=J.prefix IC g.QT;have N:∀G,au H3 G->aN K G a (ns.map V.int):=λG s=>s.seq sq3;calc L2.ck λN5 h5=>?_;left;refine⟨_,QO (X5 _ _ hd),true,v0,Sq.l (X5 _ _ e0),ib (xs:=v0) (λi σ G=>(∃z5 z6,σ=[some (V.ref a),some v,some (V.ref d0),some (V.ref x),some (V.ref d1),z5,z6])/\au H3 G/\bX C CN CR (FP d.n y) G x n d (fP d (RS.begin d ls) (I.picks.take i)) u/\bU (FP d.n u) G d1 v d (fP d (RS.begin d ls) (I.picks.take i)) y) ?_ ?_ ?_ ?_⟩
  ·rw[List.take_zero];exact⟨⟨_,_,rfl⟩,X5,L,Lm⟩
  ·rintro i σ G ⟨_,s,_⟩;exact Sq.l (s _ _ e0)
  ·clear L Lm h5 X5;intro i xx σ G tt Ar gH zk;nofun;obtain⟨⟨z5,z6,rfl⟩,s,L,hT⟩:=gH;have hi:i < I.picks.length:=by rw[<-hv0];exact(List.getElem?_eq_some_iff.mp Ar).1
   obtain⟨w,k,hwk,hc,hnx⟩:=J.next hi;obtain⟨W,hpi⟩:=hpx i ();ac_rfl;rw[hnx];nofun;generalize p:fP d (RS.begin d ls) (I.picks.take i)=r at *;have jM:r.picks.length<=40:=by rw[hpi];simp;lia
   have u1:=au.new (.tup [.int (i:Nat),xx]) zk;have JW:upd G tt (.tup [.int (i:Nat),xx]) tt=some (.tup [.int (i:Nat),xx]):=ab;generalize EB:upd G tt (.tup [.int (i:Nat),xx])=G1 at *;have Q7:=s.trans u1;obtain⟨tp,rfl,Nw⟩:∃tp,xx=.ref tp/\H3 tp=some (.tup [.int (w:Nat),.int (k:Nat)]):=tq (e:=((w:Int),(k:Int))) (Ci (e:=some ((w:Int),(k:Int))) ((d0'.2 i xx _ Ar (show(I.picks.map pairD)[i]?=_ by rw[List.getElem?_map,hwk];rfl)).cv c9));ac_rfl;calc tP (bL.of JW) ?_;have XE:=L.same u1;have Lm:=hT.same u1;clear u1 zk JW EB L hT s;show tS _ _ _ _ _;calc L2.ck λN6 h6=>?_;calc L2.qW λT0 U0 WL L5=>?_;have fin:∀X,au G1 X->U0 [some (V.ref a),some v,some (V.ref d0),some (V.ref x),some (V.ref d1),some (V.int (i:Nat)),some (V.ref tp)] X:=λX M=>by
    calc L2.cm L5 ?_;show N6 _ _;calc L2.cm h6 ?_;clear h6 L5 WL;have RI:=XE.same M;have Mv:=Lm.same M;have Wz:=Q7.trans M;calc L2.ck λN7 h7=>?_;left;calc di (Wz _ _ Nw) (ay (j:=0) rfl) ?_;calc di (Wz _ _ Nw) (ay (j:=1) rfl) ?_;calc⟨FP d.n u,d1,v,d,r,y,w,k,rfl,Mv,λb m=>RI.cn.fp m,W.ok,hc,(),λ_ G3 f3' Q6 _=>?_⟩;calc L2.cm h7 ?_;clear h7 Mv;have VB:=RI.keep f3';have WA:=CP Wz f3' f3b;left;obtain⟨dx,o,B,ho⟩:=VB.ins;calc eX B (eL ⋯) ?_;calc di (WA _ _ Nw) (ay (j:=0) rfl) ?_;calc di (WA _ _ Nw) (ay (j:=1) rfl) ?_;calc⟨FP d.n y,x,n,d,r,u,w,k,rfl,VB,λb m=>Q6.cn.fp m,W.ok,hc,(),λ_ G4 f4' hR4 _=>?_⟩;exact⟨⟨_,_,rfl,rfl⟩,CP WA f4' f3,hR4,Q6.keep f4'⟩
   clear WL L5 h6;left;calc⟨∅,?_⟩;by_cases h4:(i:Int)%4=0
   ·rw[if_pos (decide_eq_true h4)];calc Ua a ns 8 rfl (N _ Q7) ∅ (λc=>?_);calc⟨FP d.n u,d1,v,d,r,y,c,rfl,Lm,W.ok,W.hb,(),λl O X M el _ Ew=>?_⟩;calc .inl ⟨_,el,λl2 uM=>?_⟩;have u3:=au.new (.lst (eC (O.map V.ref) (some 1) (some 4))) uM;obtain⟨us,Tj,hut⟩:=of_map (f:=V.ref) (ts:=O) (eC (O.map V.ref) (some 1) (some 4)) λx B=>BG B;have MQ:upd X l2 (.lst (eC (O.map V.ref) (some 1) (some 4))) l2=some (.lst (us.map V.ref)):=by rw[<-Tj];exact ab
    have s3:=M.trans u3;generalize upd X l2 (.lst (eC (O.map V.ref) (some 1) (some 4)))=G3 at *;refine⟨FP d.n y,FP d.n u,x,n,d1,v,d,r,u,y,l2,us,rfl,XE.same s3,Lm.same s3,W.ok,W.iv,W.pk IC g.QT,(),MQ,λt ht=>?_,λG4 u4=>?_⟩
    ·obtain⟨cut,e1,e2⟩:=Ew t (hut t ht);exact⟨cut,u3 _ _ e1,e2⟩
    ·exact fin _ (s3.trans u4)
   ·rw[if_neg (by simpa using h4),if_neg ∅];exact fin _ (au.refl _)
  intro σ G gI;obtain⟨⟨z5,z6,rfl⟩,s,L,hT⟩:=gI;rw[hv0,List.take_length,<-J.pl]at L;show N5 _ _;calc L2.cm h5 ?_;clear h5;left;calc Ua a ns 8 rfl (N _ s) ∅ (λc=>?_);calc⟨λ_=>False,d0,v,d,I,b0,c,rfl,EE.same s,J.ok,J.hb,(),λl O X M el _ Ew=>?_⟩;have s2:=s.trans M;calc⟨FP d.n y,λ_=>False,x,n,d0,v,d,I,u,b0,l,O,rfl,L.same M,EE.same s2,J.ok,J.iv,J.pk IC g.QT,(),el,Ew,λG3 u3=>⟨true,rfl,?_⟩⟩;rw[if_pos rfl];calc⟨FP d.n y,λ_=>False,x,n,d0,v,d,I,u,b0,rfl,(L.same M).same u3,EE.same (s2.trans u3),J.ok,(),λG4 _=>q G4⟩
end
end GP
namespace GP
open PySem L2 DD
variable {p0 p1:Str}
def FnAt(K:W.Frag)(f:Addr)(x q:Str)(a:Stmt):Prop:=∃c d e g kV h i b ct,K.lookup f=some ⟨g,c,.func (W.fnOf x q (ee a) (df a) (av a) .none kV h i d b ct),e⟩/\W.codeIn K b q=true/\W.keepIn K (.ref f)=true
def DF(K:W.Frag)(x:Str)(a:Stmt):Prop:=∃f,W.nsIn K mainGlobals x=some (some (.ref f))/\FnAt K f x x a
def MF(K:W.Frag)(C:Addr)(m q:Str)(a:Stmt):Prop:=∃f,W.findIn K (.ref C) m=some (some (.ref f))/\W.isFn K (.ref f)=true/\FnAt K f m q a
def Nx(x q:Str)(a:Stmt)(c:List Str):Prop:=∀(kV b d:Value) (e:Option Addr) (f ct:Value) (us:List Value),us.length=c.length->bindArgs (W.fnOf x q (ee a) (df a) (av a) .none kV b d e f ct) ⟨us,[]⟩=pure (c.zip us)
section
variable {K:W.Frag}{h:Heap}{mg:Str->Option Value}{x m q:Str}{C f:Addr}{st:Stmt}{ps:List Str}{od an:Option Addr}{sl:Array (Option Value)}{oc kV dc pm cd ct:Value}
theorem Ny(a:W.nsIn K mainGlobals x=some (some (.ref f)))(l:K.lookup f=some ⟨oc,od,.func (W.fnOf x x (ee st) (df st) (av st) .none kV dc pm an cd ct),sl⟩)(c:W.codeIn K cd x=true)(k:W.keepIn K (.ref f)=true):DF K x st:=⟨f,a,_,_,_,_,_,_,_,_,_,l,c,k⟩
theorem Nz(a:W.findIn K (.ref C) m=some (some (.ref f)))(i:W.isFn K (.ref f)=true)(l:K.lookup f=some ⟨oc,od,.func (W.fnOf m q (ee st) (df st) (av st) .none kV dc pm an cd ct),sl⟩)(c:W.codeIn K cd q=true)(k:W.keepIn K (.ref f)=true):MF K C m q st:=⟨f,a,i,_,_,_,_,_,_,_,_,_,l,c,k⟩
theorem aT(X:K.In h)(G:h.Ns mainGlobals mg)(d:DF K x st)(b:Nx x x st ps):cM K mg x x st ps:=by
 obtain⟨f,a,_,_,_,_,_,_,_,_,_,l,c,k⟩:=d;calc⟨_,_,mK l c k,W.mg_of X G a,(mK l c k).binds b⟩
theorem cq(d:MF K C m q st)(b:Nx m q st ps):gA K C m q st ps:=by
 obtain⟨f,a,i,_,_,_,_,_,_,_,_,_,l,c,k⟩:=d;calc⟨_,_,⟨a,i,k⟩,mK l c k,(mK l c k).binds b⟩
theorem wR(X:K.In h)(G:h.Ns mainGlobals mg)(e:W.makesIn K C=true)(g:W.keepIn K (.ref C)=true)(d:MF K C "__init__" q st)(j:W.nsIn K mainGlobals x=some (some (.ref C)))(b:Nx "__init__" q st ps):Dz K mg x C q st ps:=by
 obtain⟨f,a,i,_,_,_,_,_,_,_,_,_,l,c,k⟩:=d;calc⟨⟨_,_,⟨e,a,i,g⟩,mK l c k,(mK l c k).binds b⟩,W.mg_of X G j⟩
theorem nC{us:List Value}{n:Nat}(h:us.length=n+1):∃x r,us=x::r/\r.length=n:=by
 cases us with
 |nil=>cases h
 |cons x r=>calc⟨x,r,rfl,Nat.succ.inj h⟩
theorem mx(e:∀(kV a pm:Value) (an:Option Addr) (c ct b:Value),bindArgs (W.fnOf x q (ee st) (df st) (av st) .none kV a pm an c ct) ⟨[b],[]⟩=pure ([p0].zip [b])):Nx x q st [p0]:=λkV a pm an c ct g d=>by
 obtain⟨b,h,rfl,f⟩:=nC d
 cases List.length_eq_zero_iff.mp f;calc e ..
theorem fg(e:∀(kV a pm:Value) (an:Option Addr) (d ct b c:Value),bindArgs (W.fnOf x q (ee st) (df st) (av st) .none kV a pm an d ct) ⟨[b,c],[]⟩=pure ([p0,p1].zip [b,c])):Nx x q st [p0,p1]:=λkV a pm an d ct i f=>by
 obtain⟨b,j,rfl,g⟩:=nC f;obtain⟨c,k,rfl,h⟩:=nC g
 cases List.length_eq_zero_iff.mp h;calc e ..
theorem qO{f:Str}(e:∀(kV a pm:Value) (an:Option Addr) (g ct b c d:Value),bindArgs (W.fnOf x q (ee st) (df st) (av st) .none kV a pm an g ct) ⟨[b,c,d],[]⟩=pure ([p0,p1,f].zip [b,c,d])):Nx x q st [p0,p1,f]:=λkV a pm an g ct f h=>by
 obtain⟨b,l,rfl,i⟩:=nC h;obtain⟨c,m,rfl,j⟩:=nC i;obtain⟨d,n,rfl,k⟩:=nC j
 cases List.length_eq_zero_iff.mp k;calc e ..
theorem tI{g h:Str}(e:∀(kV a pm:Value) (an:Option Addr) (i ct b c d f:Value),bindArgs (W.fnOf x q (ee st) (df st) (av st) .none kV a pm an i ct) ⟨[b,c,d,f],[]⟩=pure ([p0,p1,g,h].zip [b,c,d,f])):Nx x q st [p0,p1,g,h]:=λkV a pm an i ct g j=>by
 obtain⟨b,o,rfl,k⟩:=nC j;obtain⟨c,p,rfl,l⟩:=nC k;obtain⟨d,r,rfl,m⟩:=nC l;obtain⟨f,s,rfl,n⟩:=nC m
 cases List.length_eq_zero_iff.mp n;calc e ..
theorem Ri{h i j:Str}(e:∀(kV a pm:Value) (an:Option Addr) (k ct b c d f g:Value),bindArgs (W.fnOf x q (ee st) (df st) (av st) .none kV a pm an k ct) ⟨[b,c,d,f,g],[]⟩=pure ([p0,p1,h,i,j].zip [b,c,d,f,g])):Nx x q st [p0,p1,h,i,j]:=λkV a pm an k ct h l=>by
 obtain⟨b,s,rfl,m⟩:=nC l;obtain⟨c,t,rfl,n⟩:=nC m;obtain⟨d,u,rfl,o⟩:=nC n;obtain⟨f,v,rfl,p⟩:=nC o;obtain⟨g,w,rfl,r⟩:=nC p
 cases List.length_eq_zero_iff.mp r;calc e ..
end
theorem all_mk{l:W.OpenLaw}{w:World}{K:W.Frag}{h:Heap}{o:Str->Option Value}{fa C a CR F:Addr}(X:K.In h)(G:h.Ns mainGlobals o)(S:o "law"=some (.ref fa))
  (oQ:W.nsIn K mainGlobals "Machine"=some (some (.ref C))) (L7:W.nsIn K mainGlobals "Net"=some (some (.ref a))) (L8:W.nsIn K mainGlobals "Run"=some (some (.ref CR))) (fS:DF K "_law_are_letters" fQ) (jr:DF K "_law_orphans" jo) (iD:MF K CR "schedule" "Run.schedule" iy) (nE:DF K "is_whole" mR) (lG:DF K "is_within" kQ) (iE:MF K CR "need_way" "Run.need_way" iu) (fT:MF K CR "need_letter" "Run.need_letter" fO) (js:MF K CR "sent_by" "Run.sent_by" je) (gR:MF K CR "worked_by" "Run.worked_by" gL) (gr:DF K "letters_passed" gp) (iF:MF K a "machines" "Net.machines" ip) (fm:MF K CR "need_machine" "Run.need_machine" ff) (lH:MF K CR "count" "Run.count" kZ) (p9:MF K CR "net" "Run.net" pS) (tJ:DF K "is_cut" tw) (nH:DF K "need_cut" ni) (lI:DF K "is_inside" lg) (gS:DF K "orphans_among" gP) (j9:DF K "orphans_of" j4) (lJ:DF K "_law_asked" lC) (tK:DF K "_law_at" sD) (lK:DF K "_law_begun" lA) (lL:DF K "_law_digit" kR) (ju:DF K "_law_any_cut" jk) (gT:DF K "_law_heard_cut" gM) (qa:DF K "_law_pot" ph) (nI:DF K "_law_cuts" ny) (lM:DF K "_law_value" lj) (nJ:DF K "_law_deed" nj) (jv:DF K "_law_machine" jh) (qb:DF K "_law_net" pW) (qc:DF K "form_of" pw) (nK:DF K "is_value" mS) (qd:DF K "is_part" pA) (qe:DF K "is_deed" pB) (iG:DF K "refuse_deeds" ik) (qf:DF K "is_list" pq) (jw:DF K "are_counted" iY) (gs:DF K "refuse_machine" gf) (qg:MF K C "__init__" "Machine.__init__" pJ) (lN:DF K "is_letter" kS) (tL:DF K "is_way" sM) (kb:DF K "refuse_net" jU) (IW:MF K a "__init__" "Net.__init__" Hh) (iH:DF K "_law_net_made" iA) (lO:DF K "_law_worth" lu) (kd:DF K "_law_worked" jZ) (nL:DF K "_law_pick" nu) (lP:DF K "_law_lying" ly) (nM:DF K "_law_free" nr) (qh:DF K "_law_ran" pY) (lQ:MF K CR "lying" "Run.lying" k8) (lR:MF K CR "state" "Run.state" kY) (lS:MF K CR "words" "Run.words" k6) (ke:DF K "_law_stands" j6) (gu:DF K "change_numbers" gh) (kg:DF K "change_row" jW) (nN:DF K "left_out" mZ) (lT:DF K "values_of" kW) (jx:DF K "plain_worth" i3) (nO:DF K "worth_of" mY) (gv:MF K C "worked" "Machine.worked" gi) (nQ:MF K a "ways" "Net.ways" mX) (jy:MF K a "ways_at" "Net.ways_at" i8) (jz:MF K a "ways_in" "Net.ways_in" i9) (iI:MF K a "ways_out" "Net.ways_out" ir) (gU:MF K CR "need_pick" "Run.need_pick" gJ) (gw:MF K CR "put_letter" "Run.put_letter" gk) (jA:MF K CR "pick_at" "Run.pick_at" ja) (nR:MF K CR "pick" "Run.pick" ng) (d7:MF K C "first_state" "Machine.first_state" dY) (jB:MF K a "letters" "Net.letters" iZ) (IX:MF K CR "__init__" "Run.__init__" HK) (IY:DF K "law" vv) (qi:W.plainGet K C Str.empty=true) (qj:W.hasDictIn K C=true) (qk:W.plainOver K C=true) (ql:W.findIn K (.ref C) "__setattr__"=some (some (.builtin "object.__setattr__"))) (qm:W.makesIn K C=true) (qo:W.keepIn K (.ref C)=true) (DI:W.findIn K (.ref C) "__class__"=some (some (.builtin "object.__class__"))) (DJ:W.mroIn K C (.type "object")=some true) (MC:W.findIn K (.ref C) "own_modulus"=some none) (PB:W.findIn K (.ref C) "own_state"=some none) (ME:W.findIn K (.ref C) "own_deeds"=some none) (IZ:W.plainGet K a Str.empty=true) (Ja:W.hasDictIn K a=true) (Jb:W.plainOver K a=true) (Jc:W.findIn K (.ref a) "__setattr__"=some (some (.builtin "object.__setattr__"))) (Jd:W.makesIn K a=true) (Je:W.keepIn K (.ref a)=true) (GS:W.findIn K (.ref a) "__class__"=some (some (.builtin "object.__class__"))) (GU:W.mroIn K a (.type "object")=some true) (yf:W.findIn K (.ref a) "own_machines"=some none) (yg:W.findIn K (.ref a) "own_ways"=some none) (Af:W.findIn K (.ref a) "own_letters"=some none) (Jf:W.plainGet K CR Str.empty=true) (Jg:W.hasDictIn K CR=true) (Jh:W.plainOver K CR=true) (Ji:W.findIn K (.ref CR) "__setattr__"=some (some (.builtin "object.__setattr__"))) (Jj:W.makesIn K CR=true) (Jk:W.keepIn K (.ref CR)=true) (GV:W.findIn K (.ref CR) "__class__"=some (some (.builtin "object.__class__"))) (GW:W.mroIn K CR (.type "object")=some true) (cK:W.findIn K (.ref CR) "own_net"=some none) (cS:W.findIn K (.ref CR) "picks_done"=some none) (b8:W.findIn K (.ref CR) "states_had"=some none) (dO:W.findIn K (.ref CR) "words_had"=some none) (cA:W.findIn K (.ref CR) "words_said"=some none) (bO:W.findIn K (.ref CR) "letters_say"=some none) (eI:W.findIn K (.ref CR) "senders"=some none) (cL:W.findIn K (.ref CR) "workers"=some none) (DK:W.specialIn K (.builtin "object.__class__") "__get__"=some (some (.builtin "getset_descriptor.__get__"))) (u7:W.takesIn K (.builtin "object.__class__")=some true)
  (kh:W.nsIn K mainGlobals "isinstance"=some none) (Jl:W.nsIn K mainGlobals "int"=some none) (AR:W.nsIn K mainGlobals "bool"=some none) (Jm:W.nsIn K mainGlobals "str"=some none) (wU:W.nsIn K mainGlobals "tuple"=some none) (AS:W.nsIn K mainGlobals "list"=some none) (Jn:W.nsIn K mainGlobals "len"=some none) (wV:W.nsIn K mainGlobals "range"=some none) (Jo:W.nsIn K mainGlobals "min"=some none) (Jp:W.nsIn K mainGlobals "max"=some none) (Jq:W.nsIn K mainGlobals "all"=some none) (Jr:W.nsIn K mainGlobals "any"=some none) (Js:W.nsIn K mainGlobals "zip"=some none) (lU:W.nsIn K mainGlobals "enumerate"=some none) (ki:W.nsIn K mainGlobals "ValueError"=some none) (tM:W.nsIn K mainGlobals "sorted"=some none) {p:Tok} (dM:W.nsIn K mainGlobals "MOST_DEEDS"=some (some (.int 24 p))) {q:Tok} (dE:W.nsIn K mainGlobals "MOST_MODULUS"=some (some (.int 1000000000000 q))) {r:Tok} (dF:W.nsIn K mainGlobals "MOST_NUMBERS"=some (some (.int 4 r))) {t:Tok} (fe:W.nsIn K mainGlobals "MOST_ROW"=some (some (.int 12 t))) {u:Tok} (dw:W.nsIn K mainGlobals "MOST_MACHINES"=some (some (.int 5 u))) {x:Tok} (ft:W.nsIn K mainGlobals "MOST_WAYS"=some (some (.int 10 x))) {y:Tok} (dG:W.nsIn K mainGlobals "MOST_LETTERS"=some (some (.int 20 y))) {z:Tok} (dN:W.nsIn K mainGlobals "SAID_BOUND"=some (some (.int 1000000000000000000000000000000000000000000000000000000000000 z)))
  {p q r t u x y z:Int} {B I J L M N O R:Tok} {b c g i j k m n:Addr} {U:Nat}
  (aF:W.nsIn K mainGlobals "FORMS"=some (some (.ref F))) (lF:K.lookup F=some {cls:=.type "dict",dict:=none,data:=.dict #[⟨p,.str "set" B,.ref b⟩,⟨q,.str "add" I,.ref c⟩,⟨r,.str "times" J,.ref g⟩,⟨t,.str "put" L,.ref i⟩,⟨u,.str "drop" M,.ref j⟩,⟨x,.str "send" N,.ref k⟩,⟨y,.str "say" O,.ref m⟩,⟨z,.str "skip" R,.ref n⟩] U,slots:=#[]}) (U:(F==sysModules)=false) {NA NB:Tok} {Y:Option Addr} {Z:Nat} {fs0:Array (Option Value)} (lP0:K.lookup b=some ⟨.type "tuple",Y,.seq #[.str "number" NA,.str "value" NB] Z,fs0⟩) {NC ND:Tok} {fo1:Option Addr} {fn1:Nat} {fs1:Array (Option Value)} (lP1:K.lookup c=some ⟨.type "tuple",fo1,.seq #[.str "number" NC,.str "value" ND] fn1,fs1⟩) {NF NG:Tok} {fo2:Option Addr} {fn2:Nat} {fs2:Array (Option Value)} (lP2:K.lookup g=some ⟨.type "tuple",fo2,.seq #[.str "number" NF,.str "value" NG] fn2,fs2⟩) {NH:Tok} {fo3:Option Addr} {fn3:Nat} {fs3:Array (Option Value)} (lP3:K.lookup i=some ⟨.type "tuple",fo3,.seq #[.str "value" NH] fn3,fs3⟩) {fo4:Option Addr} {fn4:Nat} {fs4:Array (Option Value)} (lP4:K.lookup j=some ⟨.type "tuple",fo4,.seq #[] fn4,fs4⟩) {NI NJ:Tok} {fo5:Option Addr} {fn5:Nat} {fs5:Array (Option Value)} (lP5:K.lookup k=some ⟨.type "tuple",fo5,.seq #[.str "way" NI,.str "value" NJ] fn5,fs5⟩) {NK:Tok} {fo6:Option Addr} {fn6:Nat} {fs6:Array (Option Value)} (lP6:K.lookup m=some ⟨.type "tuple",fo6,.seq #[.str "value" NK] fn6,fs6⟩) {NL NM NN:Tok} {fo7:Option Addr} {fn7:Nat} {fs7:Array (Option Value)} (lP7:K.lookup n=some ⟨.type "tuple",fo7,.seq #[.str "value" NL,.str "value" NM,.str "many" NN] fn7,fs7⟩)
  :∃Y:FuncData,(∀(s:Shared) (v:Value),BindsTo s Y ⟨[v],[]⟩ [("_law_script",v)])/\∀base:Heap,K.In base->base.Ns mainGlobals o->mh l.prog w K o base Dt 10 fa Y ["_law_script"] (wQ K):=by
 have Y:PyProof.Rows.KTD.Rows RelV (#[⟨p,.str "set" B,.ref b⟩,⟨q,.str "add" I,.ref c⟩,⟨r,.str "times" J,.ref g⟩,⟨t,.str "put" L,.ref i⟩,⟨u,.str "drop" M,.ref j⟩,⟨x,.str "send" N,.ref k⟩,⟨y,.str "say" O,.ref m⟩,⟨z,.str "skip" R,.ref n⟩]:Array DictEntry).toList ([("set",V.ref b),("add",V.ref c),("times",V.ref g),("put",V.ref i),("drop",V.ref j),("send",V.ref k),("say",V.ref m),("skip",V.ref n)]:List (Str×V)):=.cons rfl rfl (.cons rfl rfl (.cons rfl rfl (.cons rfl rfl (.cons rfl rfl (.cons rfl rfl (.cons rfl rfl (.cons rfl rfl (.nil))))))));have T:Tx K o C a CR F ([("set",V.ref b),("add",V.ref c),("times",V.ref g),("put",V.ref i),("drop",V.ref j),("send",V.ref k),("say",V.ref m),("skip",V.ref n)]:List (Str×V)):={
  aZ:=aad X G kh
  GQ:=aad X G Jl
  wj:=aad X G AR
  BM:=aad X G Jm
  bQ:=aad X G wU
  dX:=aad X G AS
  bZ:=aad X G Jn
  eA:=aad X G wV
  Ul:=aad X G Jo
  GR:=aad X G Jp
  sy:=aad X G Jq
  Um:=aad X G Jr
  BN:=aad X G Js
  cu:=aad X G lU
  wk:=aad X G ki
  sC:=aad X G tM
  dM:=⟨_,W.mg_of X G dM⟩
  dE:=⟨_,W.mg_of X G dE⟩
  dF:=⟨_,W.mg_of X G dF⟩
  fe:=⟨_,W.mg_of X G fe⟩
  dw:=⟨_,W.mg_of X G dw⟩
  ft:=⟨_,W.mg_of X G ft⟩
  dG:=⟨_,W.mg_of X G dG⟩
  dN:=⟨_,W.mg_of X G dN⟩
  cJ:=⟨qi,qj,qk,ql⟩
  u6:=W.mg_of X G oQ
  DI:=DI
  DJ:=DJ
  MC:=MC
  PB:=PB
  ME:=ME
  cQ:=⟨IZ,Ja,Jb,Jc⟩
  Uo:=W.mg_of X G L7
  GS:=GS
  GU:=GU
  yf:=yf
  yg:=yg
  Af:=Af
  aO:=⟨Jf,Jg,Jh,Ji⟩
  Up:=W.mg_of X G L8
  GV:=GV
  GW:=GW
  cK:=cK
  cS:=cS
  b8:=b8
  dO:=dO
  cA:=cA
  bO:=bO
  eI:=eI
  cL:=cL
  DK:=DK
  u7:=u7
  i_k:=by unfold W.kitOne;rw[if_pos nofun]
  BO:=W.mg_of X G aF
  BP:=⟨⟨_,_,_,lF,⟨rfl,rfl,rfl⟩,rfl,Y⟩,U⟩
  MG:=λd=>by
   cases d with
   |set _ _=>calc⟨b,by kernel_rfl,λH=>.inr ⟨_,_,_,lP0,rfl,rfl,by show 2<=sizeLine;decide,(.cons ⟨NA,rfl⟩ (.cons ⟨NB,rfl⟩ .nil))⟩⟩
   |add _ _=>calc⟨c,by kernel_rfl,λH=>.inr ⟨_,_,_,lP1,rfl,rfl,by show 2<=sizeLine;decide,(.cons ⟨NC,rfl⟩ (.cons ⟨ND,rfl⟩ .nil))⟩⟩
   |times _ _=>calc⟨g,by kernel_rfl,λH=>.inr ⟨_,_,_,lP2,rfl,rfl,by show 2<=sizeLine;decide,(.cons ⟨NF,rfl⟩ (.cons ⟨NG,rfl⟩ .nil))⟩⟩
   |put _=>calc⟨i,by kernel_rfl,λH=>.inr ⟨_,_,_,lP3,rfl,rfl,by show 1<=sizeLine;decide,(.cons ⟨NH,rfl⟩ .nil)⟩⟩
   |drop=>calc⟨j,by kernel_rfl,λH=>.inr ⟨_,_,_,lP4,rfl,rfl,by show 0<=sizeLine;decide,.nil⟩⟩
   |send _ _=>calc⟨k,by kernel_rfl,λH=>.inr ⟨_,_,_,lP5,rfl,rfl,by show 2<=sizeLine;decide,(.cons ⟨NI,rfl⟩ (.cons ⟨NJ,rfl⟩ .nil))⟩⟩
   |say _=>calc⟨m,by kernel_rfl,λH=>.inr ⟨_,_,_,lP6,rfl,rfl,by show 1<=sizeLine;decide,(.cons ⟨NK,rfl⟩ .nil)⟩⟩
   |skip _ _ _=>exact⟨n,by kernel_rfl,λH=>.inr ⟨_,_,_,lP7,rfl,rfl,by show 3<=sizeLine;decide,(.cons ⟨NL,rfl⟩ (.cons ⟨NM,rfl⟩ (.cons ⟨NN,rfl⟩ .nil)))⟩⟩
 }
 obtain⟨f,a,b,an,c,d,kV,dc,pm,cd,ct,ll,lc,lk⟩:=IY;have e:=S.symm.trans (W.mg_of X G a)
 cases e;refine⟨W.fnOf "law" "law" (ee vv) (df vv) (av vv) .none kV dc pm an cd ct,λs v=>.of_eq rfl,λbase _ _=>?_⟩;have b:=oP (P:=l.prog) (w:=w) (base:=base) (aT X G fS (fg λ_ _ _ _ _ _ _ _=>rfl)) T;have m:=ux (P:=l.prog) (w:=w) (base:=base) (aT X G jr (fg λ_ _ _ _ _ _ _ _=>rfl)) T;have i:=sY (P:=l.prog) (w:=w) (base:=base) (cq iD (mx λ_ _ _ _ _ _ _=>rfl)) T;have c:=Ag (P:=l.prog) (w:=w) (base:=base) (aT X G nE (mx λ_ _ _ _ _ _ _=>rfl)) T;have a:=yi (aT X G lG (qO λ_ _ _ _ _ _ _ _ _=>rfl)) T c;have j:=sX (cq iE (qO λ_ _ _ _ _ _ _ _ _=>rfl)) T a;have d:=oH (cq fT (tI λ_ _ _ _ _ _ _ _ _ _=>rfl)) T a j;have g:=uu (cq js (qO λ_ _ _ _ _ _ _ _ _=>rfl)) T d;have k:=qL (cq gR (qO λ_ _ _ _ _ _ _ _ _=>rfl)) T d;have n:=p5 (aT X G gr (mx λ_ _ _ _ _ _ _=>rfl)) T i g k;have e:=sQ (P:=l.prog) (w:=w) (base:=base) (cq iF (mx λ_ _ _ _ _ _ _=>rfl)) T;have g:=nc (cq fm (fg λ_ _ _ _ _ _ _ _=>rfl)) T a;have k:=yC (cq lH (fg λ_ _ _ _ _ _ _ _=>rfl)) T g;have o:=D8 (P:=l.prog) (w:=w) (base:=base) (cq p9 (mx λ_ _ _ _ _ _ _=>rfl)) T;have p:=HQ (aT X G tJ (fg λ_ _ _ _ _ _ _ _=>rfl)) T a e k o;have q:=AF (aT X G nH (fg λ_ _ _ _ _ _ _ _=>rfl)) T p;have k:=yJ (P:=l.prog) (w:=w) (base:=base) (aT X G lI (fg λ_ _ _ _ _ _ _ _=>rfl)) T;have o:=qN (aT X G gS (fg λ_ _ _ _ _ _ _ _=>rfl)) T k;have p:=wN (aT X G j9 (fg λ_ _ _ _ _ _ _ _=>rfl)) T n q o;have r:=yZ (aT X G lJ (qO λ_ _ _ _ _ _ _ _ _=>rfl)) T b m p;have k:=GZ (P:=l.prog) (w:=w) (base:=base) (aT X G tK (fg λ_ _ _ _ _ _ _ _=>rfl)) T;have m:=yT (P:=l.prog) (w:=w) (base:=base) (aT X G lK (mx λ_ _ _ _ _ _ _=>rfl)) T;have b:=yj (P:=l.prog) (w:=w) (base:=base) (aT X G lL (fg λ_ _ _ _ _ _ _ _=>rfl)) T;have o:=uw (aT X G ju (fg λ_ _ _ _ _ _ _ _=>rfl)) T b;have p:=qM (aT X G gT (fg λ_ _ _ _ _ _ _ _=>rfl)) T b;have n:=DM (P:=l.prog) (w:=w) (base:=base) (aT X G qa (mx λ_ _ _ _ _ _ _=>rfl)) T;have q:=AO (aT X G nI (fg λ_ _ _ _ _ _ _ _=>rfl)) T o p n;have t:=yL (aT X G lM (fg λ_ _ _ _ _ _ _ _=>rfl)) T b;have o:=AG (aT X G nJ (fg λ_ _ _ _ _ _ _ _=>rfl)) T b t;have p:=uv (aT X G jv (mx λ_ _ _ _ _ _ _=>rfl)) T o b;have t:=Ei (aT X G qb (mx λ_ _ _ _ _ _ _=>rfl)) T k b p n;have o:=DQ (P:=l.prog) (w:=w) (base:=base) (aT X G qc (mx λ_ _ _ _ _ _ _=>rfl)) T;have b:=Ak (aT X G nK (fg λ_ _ _ _ _ _ _ _=>rfl)) T c a;have n:=DR (aT X G qd (qO λ_ _ _ _ _ _ _ _ _=>rfl)) T b c a;have p:=DS (aT X G qe (fg λ_ _ _ _ _ _ _ _=>rfl)) T o n;have c:=sJ (aT X G iG (fg λ_ _ _ _ _ _ _ _=>rfl)) T p;have b:=DP (P:=l.prog) (w:=w) (base:=base) (aT X G qf (qO λ_ _ _ _ _ _ _ _ _=>rfl)) T;have n:=ug (aT X G jw (tI λ_ _ _ _ _ _ _ _ _ _=>rfl)) T b a;have o:=pF (aT X G gs (tI λ_ _ _ _ _ _ _ _ _ _=>rfl)) T n a;have p:=DU (wR X G qm qo qg oQ (Ri λ_ _ _ _ _ _ _ _ _ _ _=>rfl)) T c o;have n:=ym (aT X G lN (fg λ_ _ _ _ _ _ _ _=>rfl)) T a;have c:=He (aT X G tL (fg λ_ _ _ _ _ _ _ _=>rfl)) T a;have o:=wt (aT X G kb (qO λ_ _ _ _ _ _ _ _ _=>rfl)) T n b c;have u:=UC (wR X G Jd Je IW L7 (tI λ_ _ _ _ _ _ _ _ _ _=>rfl)) T o;have v:=tF (aT X G iH (mx λ_ _ _ _ _ _ _=>rfl)) T p u;have b:=yP (P:=l.prog) (w:=w) (base:=base) (aT X G lO (Ri λ_ _ _ _ _ _ _ _ _ _ _=>rfl)) T;have n:=wG (aT X G kd (tI λ_ _ _ _ _ _ _ _ _ _=>rfl)) T b;have c:=AM (aT X G nL (qO λ_ _ _ _ _ _ _ _ _=>rfl)) T n;have b:=yQ (P:=l.prog) (w:=w) (base:=base) (aT X G lP (fg λ_ _ _ _ _ _ _ _=>rfl)) T;have n:=AL (aT X G nM (mx λ_ _ _ _ _ _ _=>rfl)) T b;have o:=Eo (aT X G qh (fg λ_ _ _ _ _ _ _ _=>rfl)) T m n c;have p:=yE (cq lQ (fg λ_ _ _ _ _ _ _ _=>rfl)) T j;have n:=yB (cq lR (fg λ_ _ _ _ _ _ _ _=>rfl)) T g;have j:=yD (cq lS (fg λ_ _ _ _ _ _ _ _=>rfl)) T g;have u:=wO (aT X G ke (fg λ_ _ _ _ _ _ _ _=>rfl)) T b p i n j;have g:=pM (P:=l.prog) (w:=w) (base:=base) (aT X G gu (tI λ_ _ _ _ _ _ _ _ _ _=>rfl)) T;have i:=wx (P:=l.prog) (w:=w) (base:=base) (aT X G kg (qO λ_ _ _ _ _ _ _ _ _=>rfl)) T;have j:=Aq (P:=l.prog) (w:=w) (base:=base) (aT X G nN (fg λ_ _ _ _ _ _ _ _=>rfl)) T;have p:=yr (P:=l.prog) (w:=w) (base:=base) (aT X G lT (mx λ_ _ _ _ _ _ _=>rfl)) T;have b:=uj (P:=l.prog) (w:=w) (base:=base) (aT X G jx (tI λ_ _ _ _ _ _ _ _ _ _=>rfl)) T;have x:=Ao (aT X G nO (Ri λ_ _ _ _ _ _ _ _ _ _ _=>rfl)) T b;have y:=pN (cq gv (tI λ_ _ _ _ _ _ _ _ _ _=>rfl)) T g i j p x;have b:=An (P:=l.prog) (w:=w) (base:=base) (cq nQ (mx λ_ _ _ _ _ _ _=>rfl)) T;have g:=um (cq jy (qO λ_ _ _ _ _ _ _ _ _=>rfl)) T a;have i:=uo (cq jz (fg λ_ _ _ _ _ _ _ _=>rfl)) T g;have j:=sU (cq iI (fg λ_ _ _ _ _ _ _ _=>rfl)) T g;have p:=qK (cq gU (tI λ_ _ _ _ _ _ _ _ _ _=>rfl)) T b d;have a:=pR (P:=l.prog) (w:=w) (base:=base) (cq gw (tI λ_ _ _ _ _ _ _ _ _ _=>rfl)) T;have d:=ur (cq jA (tI λ_ _ _ _ _ _ _ _ _ _=>rfl)) T y e b i j p a n;have g:=AB (cq nR (qO λ_ _ _ _ _ _ _ _ _=>rfl)) T d;have i:=kx (P:=l.prog) (w:=w) (base:=base) (cq d7 (mx λ_ _ _ _ _ _ _=>rfl)) T;have d:=ui (P:=l.prog) (w:=w) (base:=base) (cq jB (mx λ_ _ _ _ _ _ _=>rfl)) T;have j:=U9 (wR X G Jj Jk IX L8 (fg λ_ _ _ _ _ _ _ _=>rfl)) T i d e b a;exact Rf (mK ll lc lk) T r k m q t v c o u g j
theorem walk{l:W.OpenLaw}{q:Program}{a:List Str}{g:(Str->Option Value)->Heap->Prop}{c:World->Heap->Prop}{d:DefRec}{K:Params->W.Frag}(i:l.most=some 63)(j:d.params.defaults=[])
  (m:∀(w:World) (h:Heap),c w h->(K w.params).In h)
  (F:∀(w:World) (b:Str->Option Value) (e:Addr) (h:Heap),(K w.params).In h->h.Ns mainGlobals b->b d.name=some (.ref e)->
   ∃f:FuncData,(∀(s:Shared) (u:Value),BindsTo s f ⟨[u],[]⟩ [("_law_script",u)])/\∀base:Heap,(K w.params).In base->base.Ns mainGlobals b->mh l.prog w (K w.params) b base Dt 10 e f ["_law_script"] (wQ (K w.params))):
  W.WalkO q a g c l.row.toRowW d [] (λf vs=>PySem.call f vs):=
 L2.Kx (n:=63) (k:=10) (x:="_law_script") (CX:=λ_=>Dt) (sp:=λw=>wQ (K w.params)) i ∅ j ⟨rfl,∅,∅⟩ m F (λ_ _ a b c _ d=>⟨a,b,rfl,d,c,λ_=>rfl⟩) λ_ _ _ _ _ z=>z
end GP
end
namespace PySem.W.Fast
def tw5353273565414045169:=Nat
def tw425891606775773434:=Nat
def tw15781671296657017423:=Nat
def tw3919726348907403961:=Nat
def tw13650158261725991340:=Nat
def tw17576820598873184991:=Nat
def tw1298290073791923479:=Nat
def tw3981307222424539838:=Nat
def tw12220794691630155695:=Nat
def tw8871177838869413907:=Nat
def tw13861478375590235652:=Nat
def tw17235164393507434179:=Nat
def tw8281513297328495254:=Nat
def tw1391631212633756428:=Nat
def tw1577327638017546072:=Nat
def tw883255117839770058:=Nat
def tw1127300932678378698:=Nat
def tw8404639187796159387:=Nat
def tw15867716948119930635:=Nat
def tw17992954105746128277:=Nat
def tw745799278102472976:=Nat
def tw12807367664458487235:=Nat
def tw4481143514513265701:=Nat
def tw10791742516820380926:=Nat
def tw827415629907170498:=Nat
def tw5976379441317472564:=Nat
def tw299967227407904304:=Nat
def tw8988619652849733466:=Nat
def tw4424043732661259447:=Nat
def tw5359562453911927516:=Nat
def tw17904063385377041401:=Nat
def tw17410264489210604767:=Nat
def tw3116507053104203505:=Nat
def tw11795915370468758136:=Nat
def tw7787517457904074843:=Nat
def tw12275618541722243572:=Nat
def tw9503928502924459583:=Nat
def tw8293646005442917128:=Nat
def tw8459889550309364604:=Nat
def tw4911212917650469742:=Nat
def tw890033663744833810:=Nat
def tw6366946322040946025:=Nat
def tw12895102427766204713:=Nat
def tw10287787910721113763:=Nat
def tw17228845876245259697:=Nat
def tw8145354288416178071:=Nat
def tw13198570826281827985:=Nat
def tw7627697639632684957:=Nat
def tw9028023976680227400:=Nat
def tw2540366047701602491:=Nat
def tw5185281857437924823:=Nat
def tw3631634750448560944:=Nat
def tw6201438395409674186:=Nat
def tw1312383150446199480:=Nat
def tw16945206624174674420:=Nat
def tw8147961803091927098:=Nat
def tw12365776123249492445:=Nat
def tw17427129113951683181:=Nat
def tw15992176018092176598:=Nat
def tw11311245703982677888:=Nat
def tw8046313478126594002:=Nat
def tw7671371479416091367:=Nat
def tw4826837765841660607:=Nat
def tw12125815468373281945:=Nat
def tw14645605849173213990:=Nat
def tw9937576797325339718:=Nat
def tw17333036264618852040:=Nat
def tw7702169112626614437:=Nat
def tw891652263781022305:=Nat
def tw6129287656721261307:=Nat
def tw4489567246829934969:=Nat
def tw5704191183758394511:=Nat
def tw6269860584195198716:=Nat
def tw9904163886072394669:=Nat
def tw18006421952547761821:=Nat
def tw8260863010929651333:=Nat
def tw17901821296178396584:=Nat
def tw14103728500315055991:=Nat
def tw4954508387751254085:=Nat
def tw2076941824424608072:=Nat
def tw13073160955445820352:=Nat
def tw4921324396582315927:=Nat
def tw9044198588202641512:=Nat
def tw7747433826333974108:=Nat
def tw2494388269655216381:=Nat
def tw18421737158731059073:=Nat
def tw2264628619416298973:=Nat
def tw16558429120458468404:=Nat
def tw18293573744899379392:=Nat
def tw15579123658380252148:=Nat
def tw7771284593203916220:=Nat
def tw17094799010821865290:=Nat
def tw9338714787501703377:=Nat
def tw6907915550628527241:=Nat
def tw14713156402777322246:=Nat
def tw6595824164116283676:=Nat
def tw5747775150792446144:=Nat
def tw10809391163408362214:=Nat
def tw1831728584518108641:=Nat
def tw3862447799005997639:=Nat
def tw3456163810945100484:=Nat
def tw4355645787851314240:=Nat
def tw14812928724530312483:=Nat
def tw4578905892125421754:=Nat
def tw6853135193186584205:=Nat
def tw5606377833386656856:=Nat
def tw17606261486735637140:=Nat
def tw417668647094178465:=Nat
def tw4458672556321528090:=Nat
def tw18343548905150768750:=Nat
def tw8985792131553143066:=Nat
def tw5477895753229190214:=Nat
def tw14056449909831842757:=Nat
def tw13765910555647355850:=Nat
def tw10092184890567839140:=Nat
def tw9848153656996518169:=Nat
def tw17269845632370519580:=Nat
def tw14538028415609231825:=Nat
def tw3654151854249873485:=Nat
def tw14575285193302740515:=Nat
def tw753315084452805060:=Nat
def tw15229348087907837965:=Nat
def tw13290570734109508198:=Nat
def tw10423319366300435066:=Nat
def tw3540534772704662681:=Nat
def tw18323639597102478845:=Nat
def tw17088370333773960285:=Nat
def tw8606475025363458242:=Nat
def tw2386183228751593244:=Nat
def tw15514231821667103091:=Nat
def tw5320198327831271010:=Nat
def tw3161693020553191460:=Nat
def tw4239708750341503057:=Nat
def tw4043923333222940541:=Nat
def tw769474998709206350:=Nat
def tw1930299402210460948:=Nat
def tw17761165243922612399:=Nat
def tw1953784152089908541:=Nat
def tw18238357515021064508:=Nat
def tw3248738553498868474:=Nat
def tw742237857115635727:=Nat
def tw11625174826778163006:=Nat
def tw12532324044274791311:=Nat
def tw11164080166065191950:=Nat
def tw6742434282209388975:=Nat
def tw3898285079939131610:=Nat
def tw14674620058370641070:=Nat
def tw12025715404424660092:=Nat
def tw2820068734222261874:=Nat
def tw10424127851018207177:=Nat
def tw9185092079642889078:=Nat
def tw1303840199390677261:=Nat
def tw12964984295791034465:=Nat
def tw14355121378379374118:=Nat
def tw1257995380178295847:=Nat
def tw5302608568598678415:=Nat
def tw4986833333404812840:=Nat
def tw3789090850653155402:=Nat
def tw3651085863713987653:=Nat
def tw10488198270366372990:=Nat
def tw10529293903794809002:=Nat
def tw18316831932081560633:=Nat
def tw4020306800954926645:=Nat
def tw17519305967095222841:=Nat
def tw17423145130784975226:=Nat
def tw15173851676600029608:=Nat
def tw15124027970021595653:=Nat
def tw13873253390418510574:=Nat
def tw9100276279688905054:=Nat
def tw18415661483142887998:=Nat
def tw15162268293933129938:=Nat
def tw5343595115604573997:=Nat
def tw15608205263299150435:=Nat
def tw7491773072939436091:=Nat
def tw1323068215912855171:=Nat
def tw9392053625177136365:=Nat
def tw6742122389023404733:=Nat
def tw1039714282192480343:=Nat
def tw5207095585711215990:=Nat
def tw8673125055297221886:=Nat
def tw14233230338479597290:=Nat
def tw8641412305635106560:=Nat
def tw6239030579396551884:=Nat
def tw419607388559493646:=Nat
def tw6071795337287904401:=Nat
def tw970045892564735964:=Nat
def tw150719220369298447:=Nat
def tw1115378737917743895:=Nat
def tw13824284477727226268:=Nat
def tw4926016964543086159:=Nat
def tw17401168341033216261:=Nat
def tw1529013436904362181:=Nat
def tw5465558305133271109:=Nat
def tw16236290291787365431:=Nat
def tw2326262240178018925:=Nat
def tw8613151764755450671:=Nat
def tw7330621277552256984:=Nat
def tw3137874746413280430:=Nat
def tw11446358587598586813:=Nat
def tw17528120296900719683:=Nat
def tw9310895329676296382:=Nat
def tw3953062446111515605:=Nat
def tw4744472003202807197:=Nat
def tw12965490745445165766:=Nat
def tw8972908300517368720:=Nat
def tw3559596412242530405:=Nat
def tw2722397509386738218:=Nat
def tw16102691068693428929:=Nat
def tw2670628023008451108:=Nat
def tw13651116171863234101:=Nat
def tw6899928453783445419:=Nat
def tw14422873102102985595:=Nat
def tw8068254442788696551:=Nat
def tw17367566375260434264:=Nat
def tw12783413094977756623:=Nat
def tw380713861588005667:=Nat
def tw9918515812919499730:=Nat
def tw8403835410807747695:=Nat
def tw5245884984696860692:=Nat
def tw18048667225598183780:=Nat
def tw5666195968627590024:=Nat
def tw15244641366704450228:=Nat
def tw5318413905072758032:=Nat
def tw14747625482709601097:=Nat
def tw2656255870067659798:=Nat
def tw4335756238136092598:=Nat
def tw13993865365404537688:=Nat
def tw10617934174076652120:=Nat
def tw2246185763291002038:=Nat
def tw10822398217516577903:=Nat
def tw766550360933350879:=Nat
def tw7339599666530023553:=Nat
def tw16733088853588235313:=Nat
def tw885172288484274729:=Nat
def tw5468059064958733791:=Nat
def tw5709491653624775584:=Nat
def tw8465491997259352547:=Nat
def tw16705440697758646612:=Nat
def tw18004944964110835806:=Nat
def tw17881189160101951807:=Nat
def tw10041201131865439891:=Nat
def tw11951185836872806691:=Nat
def tw16994438982472002345:=Nat
def tw4168553566809704798:=Nat
def tw16007883596408297977:=Nat
def tw14086752287711738316:=Nat
def tw15193466631867026120:=Nat
def tw10050438765560128789:=Nat
def tw7169231862194491540:=Nat
def tw13145782255400675136:=Nat
def tw8404559306359693646:=Nat
def tw8318347319794322430:=Nat
def tw5823892493168155687:=Nat
def tw8286500788972656367:=Nat
def tw15016043941122235733:=Nat
def tw5739802847777888053:=Nat
def tw3137851488785748640:=Nat
def tw1021766171722395051:=Nat
def tw11803735706527125968:=Nat
def tw10302372453847739508:=Nat
def tw6912700089106859569:=Nat
def tw14784745680141071153:=Nat
def tw3604202736642372001:=Nat
def tw3484515220206961367:=Nat
def tw17960356495991290713:=Nat
def tw10176141118703574115:=Nat
def tw13844788353803387453:=Nat
def tw15937017651997735538:=Nat
def tw12789934339391337543:=Nat
def tw1140658956580679012:=Nat
def tw16411074986405348675:=Nat
def tw2538917364861888882:=Nat
def tw89901106461809460:=Nat
def tw6825890607508237978:=Nat
def tw18080707858083415782:=Nat
def tw4281396188383914338:=Nat
def tw967837167919317635:=Nat
def tw16688993953692521035:=Nat
def tw7730426721992434383:=Nat
def tw3724112048163287202:=Nat
def tw8750059750645206147:=Nat
def tw15497416356665926840:=Nat
def tw4168764597861841590:=Nat
def tw7995321926576380137:=Nat
def tw1463582863028228526:=Nat
def tw10686868599316547821:=Nat
def tw1055382719596114630:=Nat
def tw2158777544300170534:=Nat
def tw1187911484427942055:=Nat
def tw6612101930497490994:=Nat
def tw4000625533311933122:=Nat
def tw14927989343323771976:=Nat
def tw4660655773490186178:=Nat
def tw15367573167172513053:=Nat
def tw16852690436943968538:=Nat
def tw1004189861811010264:=Nat
def tw3203283229568140300:=Nat
def tw14083602805415832259:=Nat
def tw13839182672051637147:=Nat
def tw12508284956076473806:=Nat
def tw12106882171074967227:=Nat
def tw3748172907762312497:=Nat
def tw10247967577284224385:=Nat
def tw17509070567508083837:=Nat
def tw7136144821660047646:=Nat
def tw10457639519941534066:=Nat
def tw3086341911086990528:=Nat
def tw1874063817037457919:=Nat
def tw143219178158499260:=Nat
def tw11929127334491146100:=Nat
def tw12484085091011717157:=Nat
def tw8024658698933995984:=Nat
def tw10593199116284214342:=Nat
def tw17080587885767192895:=Nat
def tw11504900599318378609:=Nat
def tw15265426913206539071:=Nat
def tw7277827304608430712:=Nat
def tw3468030475696020869:=Nat
def tw11145558238197183486:=Nat
def tw9161338840517524125:=Nat
def tw9236859554178202731:=Nat
def tw16737075559612879755:=Nat
def tw3725040130053663441:=Nat
def tw4843533379420075729:=Nat
def tw11620758207205531848:=Nat
def tw11216007267975513730:=Nat
def tw6822855779330299514:=Nat
def tw7750729544252218609:=Nat
def tw2863008524720240249:=Nat
def tw16643352803810995588:=Nat
def tw17171971292086097482:=Nat
def tw14274477150126096952:=Nat
def tw3263048618898373614:=Nat
def tw12553040525614113363:=Nat
def tw15175124834215098921:=Nat
def tw16832126637967886540:=Nat
def tw8774279062560651077:=Nat
def tw13693589380932576747:=Nat
def tw16413533507164369835:=Nat
def tw2505553343352016749:=Nat
def tw15138006332659644479:=Nat
def tw13434612469769068430:=Nat
def tw17354509222362375390:=Nat
def tw5844443099938361117:=Nat
def tw17585578592589906714:=Nat
def tw10701328403429534665:=Nat
def tw14794335288735230894:=Nat
def tw9601865368187852142:=Nat
def tw13243822258157879150:=Nat
def tw17573014530832670371:=Nat
def tw2514548475771652576:=Nat
def tw3526916025895643265:=Nat
def tw2700378562767034415:=Nat
def tw16435815805573812291:=Nat
def tw18364182669424637318:=Nat
def tw2585645681353058707:=Nat
def tw2656971065546837615:=Nat
def tw11160268412358528389:=Nat
def tw7802204897183219914:=Nat
def tw16615510380360930664:=Nat
def tw2645392233341454102:=Nat
def tw9952987476116948159:=Nat
def tw2385241141423273542:=Nat
def tw6349081971706618109:=Nat
def tw6350218449407130352:=Nat
def tw6464982157298950777:=Nat
def tw5740278364262491263:=Nat
def tw6335155639197704030:=Nat
def tw7320633305481411853:=Nat
def tw11984965399392911742:=Nat
def tw13141106460237935752:=Nat
def tw2864434308179963255:=Nat
def tw10749639892740434031:=Nat
def tw5192299048720961737:=Nat
def tw2609582473792233375:=Nat
def tw18128633576995643283:=Nat
def tw14551094857319783131:=Nat
def tw4435585628611671003:=Nat
def tw3010618285003900927:=Nat
def tw13784552296786472298:=Nat
def tw1912134001013131339:=Nat
def tw800686945384774006:=Nat
def tw16680739986897217205:=Nat
def tw5672392597092356193:=Nat
def tw2891238776225139948:=Nat
def tw7952774291376878465:=Nat
def tw7997436022805602703:=Nat
def tw14387538168565842576:=Nat
def tw16943393453444169246:=Nat
def tw15973258395070535267:=Nat
def tw15378371596058105335:=Nat
def tw17811706924357889961:=Nat
def tw18095467170693415285:=Nat
def tw8742249010293091037:=Nat
def tw12379408670951782245:=Nat
def tw11186592538642040909:=Nat
def tw2996657723450291104:=Nat
def tw5357921231597753109:=Nat
def tw14782687315966712679:=Nat
def tw4858647708042581725:=Nat
def tw13059772051209720055:=Nat
def tw17307013767537033536:=Nat
def tw9059978414527252205:=Nat
def tw17617368481650085065:=Nat
def tw5570718179496739246:=Nat
def tw5308180962679743927:=Nat
def tw14016116803768110352:=Nat
def tw10303265372043308204:=Nat
def tw12457650828006299484:=Nat
def tw14617625306394609437:=Nat
def tw8231673030041713130:=Nat
def tw4533631487184687744:=Nat
def tw9735490962800059450:=Nat
def tw16728837766796134346:=Nat
def tw7395644652779860152:=Nat
def tw13360682282733911496:=Nat
def tw737924617084401632:=Nat
def tw402698449372155820:=Nat
def tw4877595080526850187:=Nat
def tw8171123160372876945:=Nat
def tw16931292315413436256:=Nat
def tw496388843988760546:=Nat
def tw17111640741385245324:=Nat
def tw17990699897322503349:=Nat
def tw9130971778775902724:=Nat
def tw13990381747513696953:=Nat
def tw4377631806322857828:=Nat
def tw3397676283964309171:=Nat
def tw1780808805951791713:=Nat
def tw2263667951993264629:=Nat
def tw2691106972715783597:=Nat
def tw2039351411203705193:=Nat
def tw9044085258419715131:=Nat
def tw6519002488751588987:=Nat
def tw850900651284342753:=Nat
def tw10320380187130729362:=Nat
def tw452318967898901268:=Nat
def tw11907909520575748515:=Nat
def tw7404198030406156842:=Nat
def tw6617432486940777115:=Nat
def tw12559969228367367500:=Nat
def tw17556731437293626551:=Nat
def tw9318320413035358919:=Nat
def tw16006269905329189273:=Nat
def tw7386360059944013871:=Nat
def tw5040881944304549890:=Nat
def tw15451123198031653096:=Nat
def tw14962120602323662714:=Nat
def tw10390987634551902691:=Nat
def tw13675273984049946742:=Nat
def tw4467519096941807914:=Nat
def tw4101013156953864867:=Nat
def tw11048802707756106025:=Nat
def tw7820320383713211983:=Nat
def tw6080394962790122063:=Nat
def tw340970802627445348:=Nat
def tw6876216729154386707:=Nat
def tw5825248419888199635:=Nat
def tw1236256472049689322:=Nat
def tw8038361523475731244:=Nat
def tw10895614993910386104:=Nat
def tw12733955562515680361:=Nat
def tw1917283790533620150:=Nat
def tw16251094325827327017:=Nat
def tw4778190420813189802:=Nat
def tw975690827803895480:=Nat
def tw6364008764626528844:=Nat
def tw7967186398710125720:=Nat
def tw16295019135639495451:=Nat
def tw4994232494017472961:=Nat
def tw9224247781763414601:=Nat
def tw10287133975081462706:=Nat
def tw617155534440747297:=Nat
end PySem.W.Fast
open PySem PySem.W PyProof.Rows
local macro_rules | `(tactic| walk_at "d") => `(tactic| first | exact GP.Ny (by k_is) (by k_is) (by k_is) (by k_is) | (refine' GP.Ny ?a ?l ?c ?k; (case a => k_is); (case l => k_is); (case c => k_is); (case k => k_is)))
local macro_rules | `(tactic| walk_at "m") => `(tactic| first | exact GP.Nz (by k_is) (by k_is) (by k_is) (by k_is) (by k_is) | (refine' GP.Nz ?a ?i ?l ?c ?k; (case a => k_is); (case i => k_is); (case l => k_is); (case c => k_is); (case k => k_is)))
set_option maxRecDepth 100000 in
set_option maxHeartbeats 0 in
theorem PySem.Challenge.cw_cutrestore_k41_orphans_holds : PySem.Challenge.rw_cutrestore_k41_orphans.Holds := by
 w_on;o_law;k_head;(case hw=>w_witness2)
 k_fill
 refine GP.walk (l:=PySem.Challenge.rw_cutrestore_k41_orphans) rfl rfl (λw h Y=>W.kIn_of Y) ?F
 case F=>
  intro w mg fa h KX G Tr;refine' GP.all_mk KX G Tr ?oQ ?L7 ?L8 ?fS ?jr ?iD ?nE ?lG ?iE ?fT ?js ?gR ?gr ?iF ?fm ?lH ?p9 ?tJ ?nH ?lI ?gS ?j9 ?lJ ?tK ?lK ?lL ?ju ?gT ?qa ?nI ?lM ?nJ ?jv ?qb ?qc ?nK ?qd ?qe ?iG ?qf ?jw ?gs ?qg ?lN ?tL ?kb ?IW ?iH ?lO ?kd ?nL ?lP ?nM ?qh ?lQ ?lR ?lS ?ke ?gu ?kg ?nN ?lT ?jx ?nO ?gv ?nQ ?jy ?jz ?iI ?gU ?gw ?jA ?nR ?d7 ?jB ?IX ?IY ?qi ?qj ?qk ?ql ?qm ?qo ?DI ?DJ ?MC ?PB ?ME ?IZ ?Ja ?Jb ?Jc ?Jd ?Je ?GS ?GU ?yf ?yg ?Af ?Jf ?Jg ?Jh ?Ji ?Jj ?Jk ?GV ?GW ?cK ?cS ?b8 ?dO ?cA ?bO ?eI ?cL ?DK ?u7 ?kh ?Jl ?AR ?Jm ?wU ?AS ?Jn ?wV ?Jo ?Jp ?Jq ?Jr ?Js ?lU ?ki ?tM ?dM ?dE ?dF ?fe ?dw ?ft ?dG ?dN ?aF ?lF ?neF ?lP0 ?lP1 ?lP2 ?lP3 ?lP4 ?lP5 ?lP6 ?lP7
  (case oQ|L7|L8=>k_is)
  (case fS|jr=>walk_at "d")
  (case iD=>walk_at "m")
  (case nE|lG=>walk_at "d")
  (case iE|fT|js|gR=>walk_at "m")
  (case gr=>walk_at "d")
  (case iF|fm|lH|p9=>walk_at "m")
  (case tJ|nH|lI|gS|j9|lJ|tK|lK|lL|ju|gT|qa|nI|lM|nJ|jv|qb|qc|nK|qd|qe|iG|qf|jw|gs=>walk_at "d")
  (case qg=>walk_at "m")
  (case lN|tL|kb=>walk_at "d")
  (case IW=>walk_at "m")
  (case iH|lO|kd|nL|lP|nM|qh=>walk_at "d")
  (case lQ|lR|lS=>walk_at "m")
  (case ke|gu|kg|nN|lT|jx|nO=>walk_at "d")
  (case gv|nQ|jy|jz|iI|gU|gw|jA|nR|d7|jB|IX=>walk_at "m")
  (case IY=>walk_at "d")
  (case qi|qj|qk|ql|qm|qo|DI|DJ|MC|PB|ME|IZ|Ja|Jb|Jc|Jd|Je|GS|GU|yf|yg|Af|Jf|Jg|Jh|Ji|Jj|Jk|GV|GW|cK|cS|b8|dO|cA|bO|eI|cL|DK|u7|kh|Jl|AR|Jm|wU|AS|Jn|wV|Jo|Jp|Jq|Jr|Js|lU|ki|tM|dM|dE|dF|fe|dw|ft|dG|dN|aF|lF=>k_is)
  (case neF=>first|rfl|decide)
  (case lP0|lP1|lP2|lP3|lP4|lP5|lP6|lP7=>k_is)
