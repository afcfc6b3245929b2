import PyProof.Rows.All
import Wide.All
import OpenK.AllK
import Wide.FinOn
import Lean
import PyProof.EqAt
import PyProof.EqKinds
import PyProof.TupleCall
import PyProof.NeKinds
import PyProof.Rows.Range3
import KE.KIsAll
import PyProof.ExcClass3
import PyProof.InstStoreFacts
import PyProof.ExcArgsOwn
import PyProof.ExcBaseAll.ValueError
import PyProof.ExcAttrAll.ValueError
import PyProof.Draws
import PyProof.ZipIter
import PyProof.SumWalk
import PyProof.Rows.FactsT2
import PyProof.EnumMake
import PyProof.Rows.EnumRows
import KE.KTab
import PyProof.StationsW
import PyProof.RulesAs
import PyProof.NsDelKeeps
import PyProof.PassesOwn
import PyProof.Rows.ListMulArg
import PyProof.StrWalks
import PyProof.MeetsStr
import PyProof.MeetsStr2
import PyProof.StrBlockL
import PyProof.SliceStr2
import PyProof.StrLawsIdx
import PyProof.FitsStr
import PyProof.StrLaws
import PyProof.Rows.FStr
import KE.KIntText
import PyProof.StrLawsTight
import PyProof.Rows.StrIntSpec
import PyProof.Rows.CountFlat
import PyProof.Rows.SeqMore2
import PyProof.SeqRoads
import PyProof.StrLawsAffix
import PyProof.InstEq
import PySem.Challenge.RW_cutrestore_k24_schedules_played
set_option compiler.extract_closed false
set_option Elab.async false
set_option linter.all false
set_option maxRecDepth 100000
theorem L2.fo{p:Prop}(h:∀g:Prop,(p->g)->g):p:=h p id
theorem L2.yo1{A:Sort _}{p:A->Prop}{z:Prop}(h:∃a,p a)(y:∀a,p a->z):z:=h.elim λa x=>y a x
theorem L2.yo2{A B:Sort _}{p:A->B->Prop}{z:Prop}(h:∃a b,p a b)(y:∀a b,p a b->z):z:=h.elim λa x=>x.elim λb x=>y a b x
theorem L2.yo3{A B C:Sort _}{p:A->B->C->Prop}{z:Prop}(h:∃a b c,p a b c)(y:∀a b c,p a b c->z):z:=h.elim λa x=>x.elim λb x=>x.elim λc x=>y a b c x
theorem L2.yo4{A B C D:Sort _}{p:A->B->C->D->Prop}{z:Prop}(h:∃a b c d,p a b c d)(y:∀a b c d,p a b c d->z):z:=h.elim λa x=>x.elim λb x=>x.elim λc x=>x.elim λd x=>y a b c d x
theorem L2.yo5{A B C D E:Sort _}{p:A->B->C->D->E->Prop}{z:Prop}(h:∃a b c d e,p a b c d e)(y:∀a b c d e,p a b c d e->z):z:=h.elim λa x=>x.elim λb x=>x.elim λc x=>x.elim λd x=>x.elim λe x=>y a b c d e x
theorem L2.yo6{A B C D E F:Sort _}{p:A->B->C->D->E->F->Prop}{z:Prop}(h:∃a b c d e f,p a b c d e f)(y:∀a b c d e f,p a b c d e f->z):z:=h.elim λa x=>x.elim λb x=>x.elim λc x=>x.elim λd x=>x.elim λe x=>x.elim λf x=>y a b c d e f x
theorem L2.yo7{A B C D E F G:Sort _}{p:A->B->C->D->E->F->G->Prop}{z:Prop}(h:∃a b c d e f g,p a b c d e f g)(y:∀a b c d e f g,p a b c d e f g->z):z:=h.elim λa x=>x.elim λb x=>x.elim λc x=>x.elim λd x=>x.elim λe x=>x.elim λf x=>x.elim λg x=>y a b c d e f g x
theorem L2.yo8{A B C D E F G H:Sort _}{p:A->B->C->D->E->F->G->H->Prop}{z:Prop}(h:∃a b c d e f g h,p a b c d e f g h)(y:∀a b c d e f g h,p a b c d e f g h->z):z:=h.elim λa x=>x.elim λb x=>x.elim λc x=>x.elim λd x=>x.elim λe x=>x.elim λf x=>x.elim λg x=>x.elim λh x=>y a b c d e f g h x
theorem L2.a2{A B y:Prop}(h:A/\B)(x:A->B->y):y:=x h.1 h.2
theorem L2.a3{A B C y:Prop}(h:A/\B/\C)(x:A->B->C->y):y:=x h.1 h.2.1 h.2.2
theorem L2.a4{A B C D y:Prop}(h:A/\B/\C/\D)(x:A->B->C->D->y):y:=x h.1 h.2.1 h.2.2.1 h.2.2.2
theorem L2.a5{A B C D E y:Prop}(h:A/\B/\C/\D/\E)(x:A->B->C->D->E->y):y:=x h.1 h.2.1 h.2.2.1 h.2.2.2.1 h.2.2.2.2
theorem L2.a6{A B C D E F y:Prop}(h:A/\B/\C/\D/\E/\F)(x:A->B->C->D->E->F->y):y:=x h.1 h.2.1 h.2.2.1 h.2.2.2.1 h.2.2.2.2.1 h.2.2.2.2.2
theorem L2.a7{A B C D E F G y:Prop}(h:A/\B/\C/\D/\E/\F/\G)(x:A->B->C->D->E->F->G->y):y:=x h.1 h.2.1 h.2.2.1 h.2.2.2.1 h.2.2.2.2.1 h.2.2.2.2.2.1 h.2.2.2.2.2.2
theorem L2.a8{A B C D E F G H y:Prop}(h:A/\B/\C/\D/\E/\F/\G/\H)(x:A->B->C->D->E->F->G->H->y):y:=x h.1 h.2.1 h.2.2.1 h.2.2.2.1 h.2.2.2.2.1 h.2.2.2.2.2.1 h.2.2.2.2.2.2.1 h.2.2.2.2.2.2.2
theorem L2.a9{A B C D E F G H I y:Prop}(h:A/\B/\C/\D/\E/\F/\G/\H/\I)(x:A->B->C->D->E->F->G->H->I->y):y:=x h.1 h.2.1 h.2.2.1 h.2.2.2.1 h.2.2.2.2.1 h.2.2.2.2.2.1 h.2.2.2.2.2.2.1 h.2.2.2.2.2.2.2.1 h.2.2.2.2.2.2.2.2
section
set_option hygiene false
local macro_rules | `(tactic| calc $e:term) => `(tactic| refine $e)
local macro_rules | `(tactic| lia) => `(tactic| first | with_reducible assumption | exact Nat.zero_le _ | exact Nat.le_refl _ | (refine Nat.le_of_lt ?_; with_reducible assumption) | (refine Nat.lt_succ_of_le ?_; with_reducible assumption) | (refine Int.ofNat_lt.mpr ?_; with_reducible assumption) | (refine Eq.symm ?_; with_reducible assumption) | omega)
local macro_rules | `(tactic| obtain $p:rcasesPatMed := $e:term) => `(tactic| (refine L2.fo λgZ hZ => ?_; rcases $e:term with $p:rcasesPatMed) <;> (refine hZ ?_; clear hZ gZ))
local macro_rules
 | `(tactic| obtain ⟨$ps,*⟩ := $e:term) => do
  let q := ps.getElems
  let n := q.size
  let k0 ← `(tactic| skip)
  let i : Lean.Ident := ⟨e.raw⟩
  let ce ← if e.raw.isIdent then `(tactic| try clear $i:ident) else pure k0
  let mut xs := #[]
  let mut re := #[]
  for p in q do
    let a := p.raw[0][0]
    let x := a[0][0]
    let z := Lean.mkIdent (.num `z_ xs.size)
    let b := x.isIdent && a.getNumArgs == 1 && x.getId != `rfl
    let r ← `(tactic| rcases $z:ident with $p:rcasesPatLo)
    xs := xs.push (if b then ⟨x⟩ else z)
    re := re.push (if b then k0 else r)
  let mut t ← `(tactic| rcases $e:term with ⟨$q,*⟩)
  for m in [2:n+n] do
    let c := if m ≤ n then m - 1 else m - n
    let l := Lean.mkIdent (.str `L2 (if m ≤ n then s!"a{m}" else s!"yo{c}"))
    let w := q[c:].toArray
    let w ← `(tactic| obtain ⟨$w,*⟩ := zH)
    let f := n ≤ c + 1
    let y := if f then xs else xs[:c].toArray.push (Lean.mkIdent `zH)
    let r := if f then re else re[:c].toArray.push w
    t ← `(tactic| first | (refine $l $e ?_; ($ce:tactic); intro $y*; $[$r]*) | $t:tactic)
  if e.raw.getId == `zH then return t
  `(tactic| (refine L2.fo λgZ hZ => ?_; $t:tactic) <;> (refine hZ ?_; clear hZ gZ))
local macro_rules | `(tactic| nofun) => `(tactic| refine L2.fo λgZ hZ => ?_)
local macro_rules | `(tactic| ac_rfl) => `(tactic| (refine hZ ?_; clear hZ gZ))
local macro_rules | `(()) => `(by lia)
local macro_rules | `(∅) => `(by decide)
local macro_rules | `(⋯) => `(by decide +kernel)
local macro_rules | `(nofun) => `(by simp)
local macro_rules | `(Sort) => `(by grind)
set_option hygiene true
set_option hygiene false
local macro_rules | `(tactic| grind) => `(tactic| first | exact Or.inl rfl | exact Or.inr rfl | assumption)
local macro_rules | `(tactic| symm) => `(tactic| (refine D.ok sc (λvs H Q E h => ?_) (λf dD A outer s H vs Q E hr h => ?_); (first | (cases h; subst_vars; rfl) | ((repeat rcases h with ⟨_, h⟩) <;> subst_vars <;> rfl))))
local macro_rules
 | `(tactic| walk_at "xc") => `(tactic| (refine ⟨?_⟩; intro pins s σ H Q I h))
 | `(tactic| walk_at "xd") => `(tactic| (refine ⟨?_⟩; intro pins s σ H D I h))
set_option hygiene true
abbrev YB:= @PySem.F.attrBase_ValueError
abbrev xq:= @PyProof.Rows.boot_isinstance
abbrev nz:= @PySem.F.plainAttrs_list
abbrev qH:= @PySem.F.slot_list_append
abbrev qI:= @PySem.F.type_list_append
abbrev uB:= @PyProof.Rows.boot_tuple
abbrev vK:= @PyProof.Rows.boot_list
abbrev TY:= @PyProof.Rows.boot_all
section
open PySem
abbrev j':= @wpAny_bind
abbrev J':= @Heap.get?_push_of_some
abbrev K':= @Nat.le_refl
abbrev L':= @Nat.le_of_lt
abbrev P':= @wpAny_pure
abbrev R':= @Nat.lt_of_lt_of_le
abbrev S':= @Heap.lt_size
abbrev T':= @PySem.boot_len
abbrev U':= @Bool.false_ne_true
abbrev V':= @Heap.get?_push_size
abbrev W':= @List.getElem_mem
abbrev X':= @Nat.ne_of_lt
abbrev Y':= @False.elim
abbrev aaa:= @Nat.zero_le
abbrev aab:= @List.mem_append_right
abbrev aac:= @Int.eq_ofNat_of_zero_le
abbrev aae:= @Nat.le_trans
abbrev aaf:= @List.mem_cons_of_mem
abbrev aag:= @wpAny_mono
abbrev aai:= @True.intro
abbrev aaj:= @wpAny_field
abbrev aap:= @List.mem_of_getElem?
abbrev aas:= @List.mem_cons_self
abbrev aav:= @W.mg_none_of
abbrev aaz:= @wpAny_truthy_bool
abbrev aaA:= @wpAny_loadPart_at
abbrev aaE:= @List.getElem?_of_mem
abbrev aaF:= @wpAny_holding
abbrev aaH:= @wpAny_pyIter_tuple
abbrev aaL:= @Int.emod_lt_of_pos
abbrev aaM:= @Nat.lt_irrefl
abbrev aaN:= @wpAny_callSpecial?_slot
abbrev aaO:= @wpAny_newObj_type
abbrev aaR:= @Int.emod_nonneg
abbrev aaT:= @PySem.mem_of_lookup
abbrev aaU:= @wpAny_Call_Name_kw
abbrev aaX:= @Nat.lt_of_le_of_lt
abbrev aa2:= @Heap.get?_update_self
abbrev aa4:= @PyProof.Rows.slot_tuple_getitem
abbrev aa5:= @wpAny_isSubtype_exc
abbrev aba:= @Int.toNat_of_nonneg
abbrev abb:= @wpAny_seqItems
end
namespace L2
open PySem PySem.Spec PyProof.Rows
section
theorem cP{α:Type _}{l:List α}{i:Nat}(h:i<l.length):l[i]?=some l[i]:=List.getElem?_eq_getElem h
abbrev Key:=Sum Int Str
def uC:Key->Value->Bool
 | .inl k,v=>Value.isInt k v
 | .inr x,v=>Value.isStrOf x v
def ZY(w:World):Key->Int
 | .inl k=>hashInt k
 | .inr x=>hashStr w x
theorem dy:∀{k:Key}{v:Value},uC k v=true->(∃i t,k=Sum.inl i/\v=Value.int i t)\/(∃x t,k=Sum.inr x/\v=Value.str x t)
 | .inl i,v,h=>by
  obtain⟨t,e⟩:=Value.isInt_shape (k:=i) (v:=v) h;calc .inl ⟨i,t,rfl,e⟩
 | .inr x,v,h=>by
  obtain⟨t,e⟩:=Value.isStrOf_shape (x:=x) (v:=v) h;calc .inr ⟨x,t,rfl,e⟩
theorem C9(i:Int)(t:Tok):uC (.inl i) (.int i t)=true:=by simp[uC,Value.isInt]
theorem Dc(x:Str)(t:Tok):uC (.inr x) (.str x t)=true:=by simp[uC,Value.isStrOf]
theorem OD(a b:Int):decide ((Sum.inl a:Key)=Sum.inl b)=(a==b):=by
 by_cases e:a=b
 ·subst e;simp
 ·have h:¬(Sum.inl a:Key)=Sum.inl b:=λq=>e (Sum.inl.inj q);rw[decide_eq_false h];calc(beq_eq_false_iff_ne.mpr e).symm
theorem OE(a b:Str):decide ((Sum.inr a:Key)=Sum.inr b)=decide (a=b):=by
 by_cases e:a=b
 ·subst e;simp
 ·have h:¬(Sum.inr a:Key)=Sum.inr b:=λq=>e (Sum.inr.inj q);rw[decide_eq_false h,decide_eq_false e]
theorem OF(a:Int)(b:Str):decide ((Sum.inl a:Key)=Sum.inr b)=false:=decide_eq_false (λq=>nomatch q)
theorem OG(a:Str)(b:Int):decide ((Sum.inr a:Key)=Sum.inl b)=false:=decide_eq_false (λq=>nomatch q)
def dS(prog:Program)(w:World):PySem.KeyKind prog w Key where
 is:=uC
 hash:=ZY w
 inj:=λv a b f d=>by
  rcases dy f with⟨i,t,rfl,rfl⟩|⟨x,t,rfl,rfl⟩
  ·rcases dy d with⟨j,u,rfl,e⟩ | ⟨y,u,rfl,e⟩
   ·injection e with e1 _;rw[e1]
   ·exact nomatch e
  ·rcases dy d with⟨j,u,rfl,e⟩ | ⟨y,u,rfl,e⟩
   ·exact nomatch e
   ·injection e with e1 _;rw[e1]
 byValue:=λk v h=>by
  rcases dy h with⟨i,t,rfl,rfl⟩|⟨x,t,rfl,rfl⟩<;>rfl
 pyHash:=λc h=>by
  rcases dy c with⟨i,t,rfl,rfl⟩|⟨x,t,rfl,rfl⟩
  ·exact wpAny_pyHash_int h
  ·exact wpAny_pyHash_str h
 eqBool:=λg c h=>by
  rcases dy g with⟨i,t,rfl,rfl⟩|⟨x,t,rfl,rfl⟩
  ·rcases dy c with⟨j,u,rfl,rfl⟩ | ⟨y,u,rfl,rfl⟩
   ·rw[OD]at h;exact wpAny_eqBool_int h
   ·rw[OF]at h;exact SeqAt.EqAt.int_str i t y u _ _ _ _ h
  ·rcases dy c with⟨j,u,rfl,rfl⟩ | ⟨y,u,rfl,rfl⟩
   ·rw[OG]at h;exact SeqAt.EqAt.str_int x t j u _ _ _ _ h
   ·rw[OE]at h;exact wpAny_eqBool_str h
 «strs»:=λk x t v h=>by
  rcases dy h with⟨i,u,rfl,e⟩|⟨y,u,rfl,e⟩
  ·exact nomatch e
  ·injection e with e1 _
   subst e1
   cases v<;>rfl
theorem xH(prog:Program)(w:World)(i:Int)(t:Tok):(dS prog w).is (.inl i) (.int i t)=true:=C9 i t
theorem xI(prog:Program)(w:World)(x:Str)(t:Tok):(dS prog w).is (.inr x) (.str x t)=true:=Dc x t
end
section
variable {a b:Addr}{H:Hp}
inductive V where
 |bx|bl (b:Bool)|int (i:Int)|str (x:Str)|Bo (b:Array UInt8)|MG (b:UInt64)|ref (a:Addr)|ty (n:String)
 deriving DecidableEq
def RelV:V->Value->Prop
 | .bx,u=>u=Value.none
 | .bl b,u=>u=Value.bool b
 | .int i,u=>∃t,u=Value.int i t
 | .str x,u=>∃t,u=Value.str x t
 | .Bo b,u=>∃t,u=Value.bytes b t
 | .MG b,u=>∃t,u=Value.float b t
 | .ref a,u=>u=Value.ref a
 | .ty n,u=>u=Value.type n
abbrev Vals:List V->List Value->Prop:=Paired RelV
theorem Vals.length{xs:List V}{us:List Value}(r:Vals xs us):xs.length=us.length:=Paired.length r
theorem Vals.get:∀{xs:List V}{us:List Value}{i:Nat}{x:V},Vals xs us->xs[i]?=some x->∃u,us[i]?=some u/\RelV x u
 |_,_,_,_,.nil,e=>by simp at e
 |_,_,0,_,.cons r _,e=>by simp at e;subst e;calc⟨_,rfl,r⟩
 |_,_,i+1,x,.cons _ t,e=>by
  obtain⟨u,a,b⟩:=Vals.get (i:=i) (x:=x) t (by simpa using e);calc⟨u,by simpa using a,b⟩
theorem Vals.set{x:V}{u:Value}(r:RelV x u):∀{xs:List V}{us:List Value}(i:Nat),Vals xs us->Vals (xs.set i x) (us.set i u)
 |_,_,_,.nil=>.nil
 |_,_,0,.cons _ t=>.cons r t
 |_,_,i+1,.cons q t=>.cons q (Vals.set r i t)
theorem Vals.append:∀{xs ys:List V}{us ws:List Value},Vals xs us->Vals ys ws->Vals (xs++ys) (us++ws)
 |_,_,_,_,.nil,s=>s
 |_,_,_,_,.cons r t,s=>.cons r (Vals.append t s)
theorem Vals.take:∀{xs:List V}{us:List Value}(n:Nat),Vals xs us->Vals (xs.take n) (us.take n)
 |_,_,0,_=>.nil
 |_,_,_+1,.nil=>.nil
 |_,_,n+1,.cons r t=>.cons r (Vals.take n t)
theorem Vals.drop:∀{xs:List V}{us:List Value}(n:Nat),Vals xs us->Vals (xs.drop n) (us.drop n)
 |_,_,0,r=>r
 |_,_,_+1,.nil=>.nil
 |_,_,n+1,.cons _ t=>Vals.drop n t
def jL:Option V->Option Value->Prop
 |some v,some u=>RelV v u
 |none,none=>True
 |_,_=>False
def KV{κ:Type}:List (κ×V)->List (κ×Value)->Prop:=Paired λ(p:κ×V) (q:κ×Value)=>p.1=q.1/\RelV p.2 q.2
def kV:Key->V
 | .inl i=>.int i
 | .inr x=>.str x
inductive HO where
 |lst (xs:List V)
 |tup (xs:List V)
 |dK (bg:List (Key×V))|dT (bg:List (List Key×V))
 |set (S:Int->Bool) (n:Nat)
 |ins (C dx:Addr) (fs:List (Str×V))
 |own (x:Addr)
 |xd (fs:List (Str×V))
 |met (f x:Addr)
 |ZZ (lo hi:Int)
 |zw (o:Obj) (u:HO)
 |OH (ps:Array Value)
 |ext (φ:Heap->Prop)
abbrev Hp:=Addr->Option HO
def upd(H:Hp)(a:Addr)(o:HO):Hp:=λb=>if b=a then some o else H b
theorem af{o:HO}:upd H a o a=some o:=by unfold upd;rw[if_pos rfl]
theorem ay{o:HO}(h:b≠a):upd H a o b=H b:=by unfold upd;rw[if_neg h]
theorem Bp{o u:HO}(h:H a=some o)(h':H b=some u)(d:o≠u):a≠b:=by
 intro e;subst e;rw[h]at h';calc d (Option.some.inj h')
theorem av{o:HO}(h:H a=some o)(h':H b=none):a≠b:=by
 intro e;subst e;rw[h]at h';cases h'
section
variable (P:Program)(w:World)
def cC(H:Hp)(h:Heap)(a:Addr):HO->Prop
 | .lst xs=>xs.length<=sizeLine/\∃(b:List Value) (n:Nat),Vals xs b/\h.get? a=some {cls:=.type "list",data:=.seq b.toArray n}
 | .tup xs=>xs.length<=sizeLine/\∃b:List Value,Vals xs b/\IsTup h a b.toArray
 | .dK b=>b.length<=sizeLine/\(a==sysModules)=false/\∃vs,KV b vs/\h.DictOf (dS P w) a vs
 | .dT b=>b.length<=sizeLine/\(a == sysModules)=false/\∃xs:List (List Key×Addr×Value),
   Paired (λ(p:List Key×V) (q:List Key×Addr×Value)=>p.1=q.1/\H q.2.1=some (.tup (p.1.map kV))/\RelV p.2 q.2.2) b xs/\
   ∃o b c,h.get? a=some o/\o.ExactDict/\o.data=.dict b c/\b.toList=xs.map (entryOfKey (tupleKind (dS P w)))/\(xs.map (·.1)).Nodup
 | .set S n=>h.SetOf (intKind P w) a S n
 | .ins C d c=>H d=some (.own a)/\c.length<=1000/\d≠a/\h.get? a=some (W.instObj C d)/\
   ∃b,h.Ns1 d b/\(∀f,jL (c.lookup f) (b f))/\PySem.Within b (c.map (·.1))
 | .own _=>∃o,h.get? a=some o
 | .xd c=>∃b,h.Ns1 a b/\∀f,jL (c.lookup f) (b f)
 | .ZZ lo hi=>∃t u v,h.get? a=some {cls:=.type "range",data:=.fields #[.int lo t,.int hi u,.int 1 v]}
 | .zw o u=>h.get? a=some o/\cC H h a u
 | .OH b=>h.get? a=some {cls:=.none,data:=.fields b}
 | .met f x=>h.get? a=some (W.methodObj (.ref f) (.ref x))
 | .ext φ=>φ h/\(∃o,h.get? a=some o)/\∀b c:Heap,φ b->(∀o,b.get? a=some o->c.get? a=some o)->φ c
def l9(H:Hp)(h:Heap):Prop:=∀a o,H a=some o->cC P w H h a o
end
section
variable {P:Program}{w:World}{H H':Hp}{h h':Heap}{a:Addr}{o:HO}
theorem cC.lt(x:cC P w H h a o):a<h.objs.size:=by
 cases o with
 |lst b=>obtain⟨_,_,_,_,e⟩:=x;calc S' e
 |tup b=>obtain⟨_,_,_,p⟩:=x;calc p.lt
 |dK b=>obtain⟨_,_,_,_,o,_,_,e,_⟩:=x;calc S' e
 |dT b=>obtain⟨_,_,_,_,o,_,_,e,_⟩:=x;calc S' e
 |set S n=>obtain⟨o,_,_,_,e,_⟩:=x;calc S' e
 |ins C c b=>obtain⟨_,_,_,e,_⟩:=x;calc S' e
 |own y=>obtain⟨_,e⟩:=x;calc S' e
 |xd b=>obtain⟨_,⟨_,_,_,e,_⟩,_⟩:=x;calc S' e
 |ZZ b c=>obtain⟨_,_,_,e⟩:=x;calc S' e
 |zw b u=>obtain⟨e,_⟩:=x;calc S' e
 |OH b=>calc S' (show h.get? a=some _ from x)
 |met f y=>calc S' (show h.get? a=some _ from x)
 |ext φ=>obtain⟨_,⟨_,e⟩,_⟩:=x;calc S' e
theorem Paired.OI{α β:Type}{F G:α->β->Prop}:∀{c:List α}{d:List β},Paired F c d->(∀a b,F a b->G a b)->Paired G c d
 |_,_,.nil,_=>.nil
 |_,_,.cons r t,f=>.cons (f _ _ r) (Paired.OI t f)
theorem cC.aG(x:cC P w H h a o)(k:∀b u,(b=a\/H b=some (.own a))->h.get? b=some u->h'.get? b=some u)
  (m:∀b,H b=some (.own a)->H' b=some (.own a)) (j:∀b xs,H b=some (.tup xs)->H' b=some (.tup xs)):cC P w H' h' a o:=by
 induction o with
 |lst xs=>obtain⟨z,d,n,r,e⟩:=x;calc⟨z,d,n,r,k _ _ (.inl rfl) e⟩
 |tup xs=>obtain⟨z,d,r,f,e,c⟩:=x;calc⟨z,d,r,f,k _ _ (.inl rfl) e,c⟩
 |dK d=>obtain⟨z,y,l,r,f,g,i,e,c⟩:=x;calc⟨z,y,l,r,f,g,i,k _ _ (.inl rfl) e,c⟩
 |dT d=>
  obtain⟨z,y,xs,r,f,g,i,e,c⟩:=x;calc⟨z,y,xs,Paired.OI r λp q z=>⟨z.1,j _ _ z.2.1,z.2.2⟩,f,g,i,k _ _ (.inl rfl) e,c⟩
 |set S n=>obtain⟨f,g,i,t,e,c⟩:=x;calc⟨f,g,i,t,k _ _ (.inl rfl) e,c⟩
 |ins C d n=>
  obtain⟨d,z,s,e,j,⟨l,g,i,v,c⟩,r⟩:=x;calc⟨m _ d,z,s,k _ _ (.inl rfl) e,j,⟨l,g,i,k _ _ (.inr d) v,c⟩,r⟩
 |own y=>obtain⟨f,e⟩:=x;calc⟨f,k _ _ (.inl rfl) e⟩
 |xd n=>obtain⟨j,⟨l,g,i,e,c⟩,r⟩:=x;calc⟨j,⟨l,g,i,k _ _ (.inl rfl) e,c⟩,r⟩
 |ZZ c d=>obtain⟨t,u,v,e⟩:=x;calc⟨t,u,v,k _ _ (.inl rfl) e⟩
 |zw f u c=>obtain⟨e,q⟩:=x;calc⟨k _ _ (.inl rfl) e,c q⟩
 |OH c=>
  have e:h.get? a=some {cls:=.none,data:=.fields c}:=x;show h'.get? a=some {cls:=.none,data:=.fields c};calc k a _ (.inl rfl) e
 |met f y=>
  have e:h.get? a=some (W.methodObj (.ref f) (.ref y)):=x;show h'.get? a=some (W.methodObj (.ref f) (.ref y));calc k a _ (.inl rfl) e
 |ext φ=>obtain⟨p,⟨o,e⟩,c⟩:=x;calc⟨c _ _ p λo q=>k _ _ (.inl rfl) q,⟨o,k _ _ (.inl rfl) e⟩,c⟩
theorem l9.lt(x:l9 P w H h)(e:H a=some o):a<h.objs.size:=(x a o e).lt
theorem l9.fresh(x:l9 P w H h)(e:h.objs.size<=a):H a=none:=by
 cases q:H a with
 |none=>rfl
 |some u=>calc absurd (R' (x.lt q) e) (aaM _)
theorem l9.kept(x:l9 P w H h)(k:∀b u,h.get? b=some u->h'.get? b=some u):l9 P w H h':=λa o e=>
 (x a o e).aG (λb u _ q=>k b u q) (λ_ q=>q) λ_ _ q=>q
theorem l9.laid(x:l9 P w H h)(k:∀b u,h.get? b=some u->h'.get? b=some u)(g:h.objs.size<=a)(c:cC P w (upd H a o) h' a o):l9 P w (upd H a o) h':=λb u e=>by
 have d:=x.fresh g;by_cases f:b=a
 ·subst f;rw[af]at e;cases e;exact c
 ·rw[ay f]at e;exact(x b u e).aG (λc v _ q=>k c v q) (λc q=>by rw[ay (av q d)];calc q) λc e q=>by rw[ay (av q d)];calc q
end
def Rd(H:Hp)(a:Addr)(u:HO):Prop:=H a=some u\/∃o,H a=some (.zw o u)
theorem Rd.ok{P:Program}{w:World}{h:Heap}{u:HO}(r:Rd H a u)(x:l9 P w H h):cC P w H h a u:=by
 rcases r with r|⟨o,r⟩
 ·exact x a u r
 ·obtain⟨_,q⟩:=x a _ r;calc q
def TZ:Option HO->Prop
 |some (.lst _)=>True
 |some (.dK _)=>True
 |some (.dT _)=>True
 |some (.set _ _)=>True
 |some (.ins _ _ _)=>True
 |some (.ext _)=>True
 |_=>False
section
variable {P:Program}{w:World}{H:Hp}{h h':Heap}{x e:Addr}{o':HO}
theorem l9.write(o:l9 P w H h)(a:TZ (H x))(l:e=x\/H e=some (.own x))(k:∀b u,b≠e->h.get? b=some u->h'.get? b=some u)(p:∃u,h'.get? e=some u)
  (j:cC P w (upd H x o') h' x o'):l9 P w (upd H x o') h':=λb u q=>by
 have m:∀c y,H c=some (.own y)->c≠x:=λc y r z=>by subst z;rw[r]at a;exact a
 have s:∀c d,H c=some (.tup d)->c≠x:=λc d r z=>by subst z;rw[r]at a;exact a
 by_cases f:b=x
 ·subst f;rw[af]at q;cases q;exact j
 ·rw[ay f] at q;by_cases g:b=e
  ·have n:H b=some (.own x):=by
    rcases l with z|z
    ·exact absurd (g.trans z) f
    ·rw[g];exact z
   rw[q]at n;cases n;obtain⟨v,a⟩:=p;exact⟨v,by rw[g];calc a⟩
  ·refine(o b u q).aG (λc v i r=>k c v ?_ r) (λc r=>by rw[ay (m c b r)];calc r) λc d r=>by rw[ay (s c d r)];exact r
   rcases i with rfl|i
   ·exact g
   ·rintro rfl;rcases l with z | z
    ·exact m c b i z
    ·rw[i]at z;cases z;calc f rfl
end
structure Un(fs ex:List Addr)(H H':Hp)(h h':Heap):Prop where
 keep:∀b o,h.get? b=some o->H b=none->b∉fs->b∉ex->h'.get? b=some o
 slot:∀b o,h.get? b=some o->H b=none->b∈fs->b∉ex->∃sl,h'.get? b=some {o with slots:=sl}
 free:∀b o,h.get? b=some o->H b=none->b∉ex->H' b=none
 there:∀b o,h.get? b=some o->b∉ex->∃o',h'.get? b=some o'
 aM:∀b xs,H b=some (.tup xs)->H' b=some (.tup xs)
 tM:∀b o u,H b=some (.zw o u)->H' b=some (.zw o u)
 vL:∀b ps,H b=some (.OH ps)->∃more,H' b=some (.OH (ps++more))
section
variable {fs zx ex ex':List Addr}{H H1 H2:Hp}{h h1 h2 h':Heap}{a x e:Addr}{o:HO}
theorem Un.any(u:Un fs ex H H1 h h1){b:Addr}{a:Obj}(q:h.get? b=some a)(n:H b=none)(c:b∉ex):∃d,h1.get? b=some {a with slots:=d}:=by
 by_cases d:b∈fs
 ·exact u.slot b a q n d c
 ·calc⟨a.slots,u.keep b a q n d c⟩
theorem Un.kept(k:∀b u,h.get? b=some u->h'.get? b=some u):Un fs ex H H h h':=
 ⟨λb a q _ _ _=>k b a q,λb a q _ _ _=>⟨a.slots,k b a q⟩,λ_ _ _ n _=>n,λb a q _=>⟨a,k b a q⟩,λ_ _ q=>q,λ_ _ _ q=>q,λ_ a q=>⟨#[],by rw[q];simp⟩⟩
theorem Un.refl:Un fs ex H H h h:=Un.kept λ_ _ q=>q
theorem Un.laid(k:∀b u,h.get? b=some u->h'.get? b=some u)(d:h.objs.size<=a)(c:H a=none):Un fs ex H (upd H a o) h h' where
 keep:=λb u q _ _ _=>k b u q
 slot:=λb u q _ _ _=>⟨u.slots,k b u q⟩
 free:=λb u q n _=>by rw[ay (Nat.ne_of_lt (Nat.lt_of_lt_of_le (Heap.lt_size q) d))];exact n
 there:=λb u q _=>⟨u,k b u q⟩
 aM:=λb d q=>by rw[ay (av q c)];exact q
 tM:=λb u d q=>by rw[ay (av q c)];exact q
 vL:=λb d q=>⟨#[],by rw[ay (av q c),q];simp⟩
theorem Un.write(a:TZ (H x))(i:e=x\/H e=some (.own x))(k:∀b u,b≠e->h.get? b=some u->h'.get? b=some u)(j:∃u,h'.get? e=some u):Un fs ex H (upd H x o) h h':=by
 have d:∀b,H b=none->b≠x:=λb n z=>by subst z;rw[n]at a;exact a
 have f:∀b,H b=none->b≠e:=λb n z=>by
  subst z;rcases i with r|r
  ·exact d b n r
  ·rw[n]at r;cases r
 have c:∀b u,H b=some u->¬TZ (some u)->b≠x:=λb u q l z=>by subst z;rw[q]at a;exact l a
 refine⟨λb u q n _ _=>k b u (f b n) q,λb u q n _ _=>⟨u.slots,k b u (f b n) q⟩,λb u q n _=>by rw[ay (d b n)];exact n,λb u q _=>?_,
  λb a q=>by rw[ay (c b _ q λz=>z)];calc q,λb u a q=>by rw[ay (c b _ q λz=>z)];calc q,λb a q=>⟨#[],by rw[ay (c b _ q λz=>z),q];simp⟩⟩
 by_cases g:b=e
 ·subst g;exact j
 ·calc⟨u,k b u g q⟩
end
def YC(h:Heap)(H:Hp):List Addr:=(List.range h.objs.size).filter λa=>(H a).isSome
def oU(h:Heap)(H:Hp):Heap:=W.hideAll h (YC h H)
theorem Dd(h:Heap)(H:Hp):(oU h H).objs.size=h.objs.size:=W.hideAll_size _ _
theorem Fb{h:Heap}{o:Obj}(e:h.get? b=some o)(n:H b=none):(oU h H).get? b=some o:=
 W.hideAll_get _ e λa=>by
  have q:(H b).isSome=true:=(List.mem_filter.mp a).2;rw[n]at q;simp at q
theorem Kp{h:Heap}{H:Hp}{b:Addr}{o:Obj}(e:(oU h H).get? b=some o):h.get? b=some o/\H b=none:=by
 have a:h.get? b=some o:=W.of_hideAll (YC h H) e;refine⟨a,?_⟩
 cases q:H b with
 |none=>rfl
 |some x=>
  have c:b∈YC h H:=List.mem_filter.mpr ⟨List.mem_range.mpr (S' a),by simp[q]⟩;have z:(oU h H).get? b=none:=W.hideAll_none (YC h H) c;rw[z]at e;cases e
end
section
variable {A:Around}{ch:List Addr}{t':Nat}{E:Value->Shared->Prop}
structure Mod(K:W.Frag)(mg:Str->Option Value)(base:Heap):Prop where
 xt:K.In base
 glob:base.Ns mainGlobals mg
 blt:∃mb,base.Ns builtinsNs mb/\∀x:Str,x≠"__name__"->mb x=bootBuiltins x
 nolimit:base.NoLimit
structure Cx where
 prog:Program
 w:World
 K:W.Frag
 mg:Str->Option Value
 base:Heap
 A:Around
 N:List Str
 s₀:Shared
 H₀:Hp
 env:Env
 outer:List Env
 stack:List Env
 ex:List Addr
 fn:Str->Bool
 calm:Bool
 pn:List (Addr×Obj)
 xe:Value->Shared->Prop
def xu(l:List Env):List Addr:=l.filterMap (·.frame)
abbrev Cx.fs(X:Cx):List Addr:=xu X.outer
def T7(a:Scope)(x:Str):Prop:=a.names.lookup x=some .local\/a.names.lookup x=some .cell\/a.names.lookup x=some .free
def Loc(a:Scope)(x:Str):Prop:=a.names.lookup x=some .local\/a.names.lookup x=some .cell
def Look(env:Env)(h:Heap)(m:Str->Option Value)(x:Str)(u:Value):Prop:=
 (env.kindOf x=some .local/\m x=some u)\/((env.kindOf x=some .cell\/env.kindOf x=some .free)/\∃c,env.cells.lookup x=some c/\h.IsCell c (some u))
structure Cx.Ok(X:Cx):Prop where
 mod:Mod X.K X.mg X.base
 kind:X.env.scope.kind=.function
 glob:X.env.globals=mainGlobals
 blt:X.env.builtins=builtinsNs
 above:X.s₀.heap.objs.size<=X.env.locals
 inj:∀x y c,X.env.cells.lookup x=some c->X.env.cells.lookup y=some c->x=y
 has:∀x,(X.env.kindOf x=some .cell\/X.env.kindOf x=some .free)->∃c,X.env.cells.lookup x=some c
 MH:∀x c,X.fn x=true->X.env.cells.lookup x=some c->X.s₀.heap.objs.size<=c
 hd:X.calm=true->X.A.handled=none
 frames:X.A.frames=some X.stack
 OJ:X.stack=X.outer\/(X.stack=X.env::X.outer/\X.env.frame=some X.env.locals)
 R8:∀b∈X.ex,b≠X.env.locals/\∀x c,X.env.cells.lookup x=some c->c≠b
 bs:∀b o,X.base.get? b=some o->X.s₀.heap.get? b=some o/\X.H₀ b=none
 Bq:X.base.objs.size<=X.s₀.heap.objs.size
 vM:∀b o,X.base.get? b=some o->b∉X.ex
 xJ:∀b∈X.ex,b∉X.fs
 lZ:X.s₀.heap.FunFrames X.base X.outer
 Fc:∀b∈X.fs,X.H₀ b=none
structure Inv(X:Cx)(pins:List (Addr×Obj))(σ:List (Option V))(H:Hp)(s:Shared):Prop where
 ok:X.Ok
 os:s.os=X.s₀.os
 bare:AllBare s.gens
 base:Un X.fs X.ex X.H₀ H X.s₀.heap s.heap
 loc:∃m,s.heap.Ns X.env.locals m/\∀(i:Nat) (x:Str) (v:V),X.N[i]?=some x->σ[i]?=some (some v)->T7 X.env.scope x->∃u,RelV v u/\Look X.env s.heap m x u
 cell:∀x c,X.env.cells.lookup x=some c->∃v,s.heap.IsCell c v
 free:H X.env.locals=none
 hX:∀x c,X.env.cells.lookup x=some c->H c=none
 pin:∀p∈X.pn++pins,s.heap.get? p.1=some p.2/\H p.1=none/\p.1≠X.env.locals/\p.1∉X.fs/\∀v,p.2.data≠.cell v
 aU:l9 X.prog X.w H s.heap
 len:σ.length=X.N.length
section
variable {X:Cx}{pins:List (Addr×Obj)}{σ:List (Option V)}{H H':Hp}{s:Shared}{h':Heap}
theorem Cx.Ok.OK(a:X.Ok){b:Addr}{o:Obj}(e:X.base.get? b=some o):b∉X.fs:=λc=>by
 have:=(a.lZ.mem c).1;rw[e]at this;cases this
theorem Inv.bs(I:Inv X pins σ H s):∀b o,X.base.get? b=some o->s.heap.get? b=some o/\H b=none:=λb o e=>
 ⟨I.base.keep b o (I.ok.bs b o e).1 (I.ok.bs b o e).2 (I.ok.OK e) (I.ok.vM b o e),I.base.free b o (I.ok.bs b o e).1 (I.ok.bs b o e).2 (I.ok.vM b o e)⟩
theorem Inv.bk(I:Inv X pins σ H s):∀b o,X.base.get? b=some o->s.heap.get? b=some o:=λb o e=>(I.bs b o e).1
theorem Inv.mod(I:Inv X pins σ H s):Mod X.K X.mg X.base:=I.ok.mod
theorem Inv.gh(I:Inv X pins σ H s):X.K.In s.heap:=I.ok.mod.xt.keeps I.bk
theorem Inv.lt(I:Inv X pins σ H s):X.env.locals<s.heap.objs.size:=let ⟨_,a,_⟩:=I.loc;a.lt
theorem Inv.sz(I:Inv X pins σ H s):X.s₀.heap.objs.size<=s.heap.objs.size:=aae I.ok.above (L' I.lt)
theorem Inv.OL(I:Inv X pins σ H s){a:Addr}(h:s.heap.objs.size<=a):a∉X.fs:=λa=>by
 obtain⟨_,o,b,_⟩:=I.ok.lZ.mem a;calc absurd (R' (S' b) (aae I.sz h)) (aaM _)
theorem Inv.Fd(I:Inv X pins σ H s):∀x c,X.env.cells.lookup x=some c->c≠X.env.locals:=λx c e z=>by
 obtain⟨v,o,a,b⟩:=I.cell x c e;obtain⟨m,⟨g,h,i,d,f,_⟩,_⟩:=I.loc;rw[z,d]at a;cases a;rw[f]at b;cases b
theorem Inv.lZ(I:Inv X pins σ H s):s.heap.FunFrames X.base X.outer:=by
 have a:∀(l:List Env),(∀b∈xu l,b∈X.fs)->X.s₀.heap.FunFrames X.base l->s.heap.FunFrames X.base l:=by
  intro l;induction l with
  |nil=>intro _ _;trivial
  |cons c r h=>
   intro g e;obtain⟨i,⟨L,o,c,j,f,k⟩,l⟩:=e;have d:L∈X.fs:=g L (by unfold xu;rw[List.filterMap_cons,c];calc aas);obtain⟨m,e⟩:=I.base.slot L o f (I.ok.Fc L d) d λz=>I.ok.xJ L z d;exact⟨i,⟨L,_,c,j,e,k⟩,h (λb f=>g b (by unfold xu;rw[List.filterMap_cons,c];calc aaf _ f)) l⟩
 calc a X.outer (λ_ f=>f) I.ok.lZ
theorem Inv.stack(I:Inv X pins σ H s):s.heap.FunFrames X.base X.stack:=by
 rcases I.ok.OJ with e|⟨e,a⟩
 ·rw[e];exact I.lZ
 ·rw[e];obtain⟨m,b,_⟩:=I.loc;calc .cons (by rw[I.ok.kind];decide) a b ?_ I.lZ;calc Heap.get?_none_of_le (aae I.ok.Bq I.ok.above)
theorem Inv.vN(I:Inv X pins σ H s):∀b∈xu X.stack,b∈X.env.locals::X.fs:=λb a=>by
 rcases I.ok.OJ with e|⟨e,b⟩
 ·rw[e]at a;exact aaf _ a
 ·rw[e]at a;unfold xu at a;rw[List.filterMap_cons,b]at a;calc a
theorem Inv.qJ(I:Inv X pins σ H s):∀b∈xu X.stack,H b=none:=λb a=>by
 rcases List.mem_cons.mp (I.vN b a) with e|a
 ·rw[e];exact I.free
 ·obtain⟨_,o,c,_⟩:=I.ok.lZ.mem a;calc I.base.free b o c (I.ok.Fc b a) λz=>I.ok.xJ b z a
theorem Inv.step{g':Array GenState}{t':Nat}{d':Drawn}(I:Inv X pins σ H s)
  (j:∀b∈ch,(b∈X.ex\/X.s₀.heap.objs.size<=b)/\b≠X.env.locals/\(∀x c,X.env.cells.lookup x=some c->c≠b)/\∀p∈X.pn++pins,p.1≠b)
  (keep:∀b o,b≠X.env.locals->b∉X.fs->b∉ch->s.heap.get? b=some o->H b=none->h'.get? b=some o)
  (slot:∀b o,b≠X.env.locals->b∈X.fs->b∉ch->s.heap.get? b=some o->H b=none->∃D,h'.get? b=some {o with slots:=D}) (free:∀b o,b∉ch->s.heap.get? b=some o->H b=none->H' b=none)
  (there:∀b o,b∉ch->s.heap.get? b=some o->∃k,h'.get? b=some k)
  (J:∀b xs,H b=some (.tup xs)->H' b=some (.tup xs)) (K:∀b o u,H b=some (.zw o u)->H' b=some (.zw o u)) (L:∀b B,H b=some (.OH B)->∃q,H' b=some (.OH (B++q)))
  (M:∀m,s.heap.Ns X.env.locals m->h'.Ns X.env.locals m) (N:l9 X.prog X.w H' h') (O:AllBare g'):
  Inv X pins σ H' {s with heap:=h',gens:=g',drawn:=d',toks:=t'}:=by
 have t:∀b o,X.s₀.heap.get? b=some o->b≠X.env.locals:=λb o e=>X' (R' (S' e) I.ok.above);have C:∀b o,X.s₀.heap.get? b=some o->b∉X.ex->b∉ch:=λb o e a g=>by
  rcases(j b g).1 with z|z
  ·exact a z
  ·exact absurd (R' (S' e) z) (aaM _)
 have d:∀x c,X.env.cells.lookup x=some c->∀v,s.heap.IsCell c v->h'.IsCell c v:=λx c e v ⟨o,h,E⟩=>by
  have y:c∉ch:=λz=>(j c z).2.2.1 x c e rfl;by_cases F:c∈X.fs
  ·obtain⟨D,q⟩:=slot c o (I.Fd x c e) F y h (I.hX x c e);exact⟨_,q,E⟩
  ·exact⟨o,keep c o (I.Fd x c e) F y h (I.hX x c e),E⟩
 refine⟨I.ok,I.os,O,⟨λb o e n g a=>?_,λb o e n g a=>?_,λb o e n a=>?_,λb o e a=>?_,λb xs e=>J b xs (I.base.aM b xs e),λb o xs e=>K b o xs (I.base.tM b o xs e),λb B e=>?_⟩,?_,λx c e=>?_,?_,λx c e=>?_,λp G=>?_,N,I.len⟩
 ·exact keep b o (t b o e) g (C b o e a) (I.base.keep b o e n g a) (I.base.free b o e n a)
 ·obtain⟨D,f⟩:=I.base.slot b o e n g a;obtain⟨q,A⟩:=slot b _ (t b o e) g (C b o e a) f (I.base.free b o e n a);exact⟨q,A⟩
 ·obtain⟨k,f⟩:=I.base.there b o e a;exact free b k (C b o e a) f (I.base.free b o e n a)
 ·obtain⟨k,f⟩:=I.base.there b o e a;exact there b k (C b o e a) f
 ·obtain⟨a,f⟩:=I.base.vL b B e;obtain⟨g,A⟩:=L b _ f;exact⟨a++g,by rw[A,Array.append_assoc]⟩
 ·obtain⟨m,a,P⟩:=I.loc;calc⟨m,M m a,λi x v f A Q=>?_⟩;obtain⟨u,r,l⟩:=P i x v f A Q;calc⟨u,r,?_⟩;rcases l with l | ⟨k,c,e,z⟩
  ·exact .inl l
  ·exact .inr ⟨k,c,e,d x c e _ z⟩
 ·obtain⟨v,z⟩:=I.cell x c e;exact⟨v,d x c e v z⟩
 ·obtain⟨m,⟨o,_,_,h,_⟩,_⟩:=I.loc;exact free _ o (λz=>(j _ z).2.1 rfl) h I.free
 ·obtain⟨v,o,h,E⟩:=I.cell x c e;exact free c o (λz=>(j c z).2.2.1 x c e rfl) h (I.hX x c e)
 ·obtain⟨e,n,a,b,d⟩:=I.pin p G;have y:p.1∉ch:=λz=>(j p.1 z).2.2.2 p G rfl;calc⟨keep p.1 p.2 a b y e n,free p.1 p.2 y e n,a,b,d⟩
theorem Inv.un(I:Inv X pins σ H s)(u:Un X.fs [] H H' s.heap h')(f:l9 X.prog X.w H' h'):Inv X pins σ H' {s with heap:=h',toks:=t'}:=by
 obtain⟨m,⟨o,a,b,c,r⟩,_⟩:=id I.loc;obtain⟨a,g⟩:=u.any c I.free nofun;exact I.step (g':=s.gens) (d':=s.drawn) (ch:=[]) (λ_ z=>nomatch z) (λb o _ a _ e n=>u.keep b o e n a nofun) (λb o _ a _ e n=>u.slot b o e n a nofun) (λb o _ e n=>u.free b o e n nofun) (λb o _ e=>u.there b o e nofun) u.aM u.tM u.vL (λa h=>by
  obtain⟨a,i,j,d,k⟩:=h;rw[c] at d;cases d;calc⟨_,i,j,g,k⟩) f I.bare
theorem Inv.call{g':Array GenState}{d':Drawn}(I:Inv X pins σ H s)(u:Un (xu X.stack) ch H H' s.heap h')(i:l9 X.prog X.w H' h')(j:AllBare g')
  (f:∀b∈ch,(b∈X.ex\/X.s₀.heap.objs.size<=b)/\b≠X.env.locals/\(∀x c,X.env.cells.lookup x=some c->c≠b)/\∀p∈X.pn++pins,p.1≠b):
  Inv X pins σ H' {s with heap:=h',gens:=g',drawn:=d',toks:=t'}:=by
 obtain⟨m,⟨o,a,c,g,r⟩,_⟩:=id I.loc;obtain⟨a,d⟩:=u.any g I.free λz=>(f _ z).2.1 rfl;exact I.step (ch:=ch) f (λb o d c a e n=>u.keep b o e n (λz=>(List.mem_cons.mp (I.vN b z)).elim d c) a) (λb o _ _ a e n=>u.any e n a) (λb o a e n=>u.free b o e n a) (λb o a e=>u.there b o e a) u.aM u.tM u.vL (λc k=>by
  obtain⟨a,l,q,h,t⟩:=k;rw[g] at h;cases h;calc⟨_,l,q,d,t⟩) i j
theorem Inv.turned{a:Addr}(I:Inv X pins σ H s)(k:∀b o,b≠a->s.heap.get? b=some o->h'.get? b=some o)(j:H a=none)(g:a≠X.env.locals)
  (l:a∈X.ex\/X.s₀.heap.objs.size<=a) (r:∀x c,X.env.cells.lookup x=some c->c≠a) (t:∀p∈X.pn++pins,p.1≠a):Inv X pins σ H {s with heap:=h',toks:=t'}:=by
 have i:∀b u,H b=some u->b≠a:=λb u e z=>by rw[z,j]at e;cases e
 refine I.step (g':=s.gens) (d':=s.drawn) (ch:=[a]) (λb j=>?_) (λb o _ _ d e _=>k b o (λz=>d (by simp[z])) e) (λb o _ _ d e _=>⟨o.slots,k b o (λz=>d (by simp[z])) e⟩) (λ_ _ _ _ n=>n)
  (λb o d e=>⟨o,k b o (λz=>d (by simp[z])) e⟩) (λ_ _ e=>e) (λ_ _ _ e=>e) (λb m e=>⟨#[],by rw[e];simp⟩) (λm v=>?_) (λb u e=>?_) I.bare
 ·have e:b=a:=by simpa using j
  subst e;exact⟨l,g,r,t⟩
 ·obtain⟨o,a,j,l,r⟩:=v;exact⟨o,a,j,k _ o (Ne.symm g) l,r⟩
 ·calc(I.aU b u e).aG (λc v d q=>k c v ?_ q) (λ_ q=>q) λ_ _ q=>q;rcases d with z | z
  ·rw[z];exact i b u e
  ·calc i c _ z
theorem Inv.tok(I:Inv X pins σ H s)(t:Nat):Inv X pins σ H {s with toks:=t}:=I.un (h':=s.heap) (t':=t) Un.refl I.aU
theorem Inv.kept(I:Inv X pins σ H s)(k:∀b u,s.heap.get? b=some u->h'.get? b=some u):Inv X pins σ H {s with heap:=h',toks:=t'}:=I.un (Un.kept k) (I.aU.kept k)
theorem Inv.laid{a:Addr}{o:HO}(I:Inv X pins σ H s)(k:∀b u,s.heap.get? b=some u->h'.get? b=some u)(c:s.heap.objs.size<=a)(d:cC X.prog X.w (upd H a o) h' a o):
  Inv X pins σ (upd H a o) {s with heap:=h',toks:=t'}:=I.un (Un.laid k c (I.aU.fresh c)) (I.aU.laid k c d)
theorem Inv.write{x e:Addr}{o:HO}(I:Inv X pins σ H s)(c:TZ (H x))(d:e=x\/H e=some (.own x))(k:∀b u,b≠e->s.heap.get? b=some u->h'.get? b=some u)(f:∃u,h'.get? e=some u)
  (a:cC X.prog X.w (upd H x o) h' x o):Inv X pins σ (upd H x o) {s with heap:=h',toks:=t'}:=I.un (Un.write c d k f) (I.aU.write c d k f a)
theorem Inv.vO{a:List (Addr×Obj)}(I:Inv X pins σ H s)(h:∀p∈a,s.heap.get? p.1=some p.2/\H p.1=none/\p.1≠X.env.locals/\p.1∉X.fs/\∀v,p.2.data≠.cell v):Inv X a σ H s:=
 ⟨I.ok,I.os,I.bare,I.base,I.loc,I.cell,I.free,I.hX,λp a=>(List.mem_append.mp a).elim (λz=>I.pin p (List.mem_append_left _ z)) (h p),I.aU,I.len⟩
theorem rj{N:List Str}(c:N.Nodup){i j:Nat}{x:Str}(a:N[i]?=some x)(b:N[j]?=some x):i=j:=by
 obtain⟨e,d⟩:=List.getElem?_eq_some_iff.mp a;obtain⟨g,e⟩:=List.getElem?_eq_some_iff.mp b;calc(List.getElem_inj c).mp (d.trans e.symm)
theorem De{M:Model}{i:Nat}{x:Str}{v:V}{u:Value}{Q:Unit->Shared->Prop}(I:Inv X pins σ H s)(hN:X.N.Nodup)(hi:X.N[i]?=some x)(C:Loc X.env.scope x)(r:RelV v u)
  (h:∀s',Inv X pins (σ.set i (some v)) H s'->(∃a,Heap.SameBut a s.heap s'.heap/\(a=X.env.locals\/X.env.cells.lookup x=some a))->Q ⟨⟩ s') (hf:X.fn x=true\/X.env.scope.names.lookup x=some .local:=by grind):wpAny M A (storeName X.env x u) Q E s:=by
 obtain⟨m,S,hl⟩:=id I.loc;have Z2:(X.env.scope.kind == .class||(X.env.scope.kind == .module&&X.env.locals !=X.env.globals))=false:=by rw[I.ok.kind];rfl
 have T9:i<σ.length:=by rw[I.len];exact(List.getElem?_eq_some_iff.mp hi).1
 have T:=I.Fd;have l:∀{a:Addr} {h':Heap},(∃o,s.heap.get? a=some o/\H a=none)->Heap.SameBut a s.heap h'->l9 X.prog X.w H h':=λ{a h'} v g b M e=>by
  obtain⟨_,_,MK⟩:=v;calc(I.aU b M e).aG (λc O B q=>(g.2 c ?_).trans q) (λ_ q=>q) λ_ _ q=>q;rintro rfl;rcases B with rfl|B
  ·rw[MK]at e;cases e
  ·rw[MK]at B;cases B
 rcases C with G|G
 ·calc wpAny_storeName_local G S (λh' v g=>?_) Z2;obtain⟨M,_,_,a,_⟩:=id S;refine h _ ⟨I.ok,I.os,I.bare,⟨λb o e n J C=>?_,λb o e n J C=>?_,I.base.free,λb o e C=>?_,I.base.aM,I.base.tM,I.base.vL⟩,⟨_,v,λj y U t F W=>?_⟩,λy c e=>?_,I.free,I.hX,λp Y=>?_,l ⟨M,a,I.free⟩ g,by simpa using I.len⟩ ⟨_,g,.inl rfl⟩
  ·exact(g.2 b (X' (R' (S' e) I.ok.above))).trans (I.base.keep b o e n J C)
  ·obtain⟨Z,t⟩:=I.base.slot b o e n J C;exact⟨Z,(g.2 b (X' (R' (S' e) I.ok.above))).trans t⟩
  ·obtain⟨o',t⟩:=I.base.there b o e C;exact⟨o',(g.2 b (X' (R' (S' e) I.ok.above))).trans t⟩
  ·by_cases K:j=i
   ·subst K;rw[hi] at t;cases t;rw[List.getElem?_set_self T9] at F
    cases F;exact⟨u,r,.inl ⟨G,nofun⟩⟩
   ·rw[List.getElem?_set_ne (Ne.symm K)] at F;obtain⟨u',r',q⟩:=hl j y U t F W;calc⟨u',r',?_⟩;rcases q with⟨k,e⟩ | ⟨k,c,e,z⟩
    ·calc .inl ⟨k,?_⟩;have:y≠x:=λe=>K (rj hN t (e▸hi));simp[this,e]
    ·exact .inr ⟨k,c,e,z.sameBut g (T y c e)⟩
  ·obtain⟨O,z⟩:=I.cell y c e;exact⟨O,z.sameBut g (T y c e)⟩
  ·obtain⟨e,n,P,nf,d⟩:=I.pin p Y;exact⟨(g.2 p.1 P).trans e,n,P,nf,d⟩
 ·have OM:X.fn x=true:=by
   rcases hf with z|z
   ·exact z
   ·rw[z]at G;cases G
  obtain⟨c,B⟩:=I.ok.has x (.inl G);obtain⟨O,z⟩:=I.cell x c B;calc wpAny_storeName_cell I.ok.kind G B z (λh' uD g=>?_);obtain⟨oc,YE,Z3⟩:=id z;refine h {s with heap:=h'} ⟨I.ok,I.os,I.bare,⟨λb o e n J C=>?_,λb o e n J C=>?_,I.base.free,λb o e C=>?_,I.base.aM,I.base.tM,I.base.vL⟩,⟨m,S.sameBut g (Ne.symm (T x c B)),λj y U t F W=>?_⟩,λy R e=>?_,I.free,I.hX,λp Y=>?_,l ⟨oc,YE,I.hX x c B⟩ g,by simpa using I.len⟩ ⟨c,g,.inr B⟩
  ·exact(g.2 b (X' (R' (S' e) (I.ok.MH x c OM B)))).trans (I.base.keep b o e n J C)
  ·obtain⟨Z,t⟩:=I.base.slot b o e n J C;exact⟨Z,(g.2 b (X' (R' (S' e) (I.ok.MH x c OM B)))).trans t⟩
  ·obtain⟨o',t⟩:=I.base.there b o e C;exact⟨o',(g.2 b (X' (R' (S' e) (I.ok.MH x c OM B)))).trans t⟩
  ·by_cases K:j=i
   ·subst K;rw[hi] at t;cases t;rw[List.getElem?_set_self T9] at F
    cases F;exact⟨u,r,.inr ⟨.inl G,c,B,uD⟩⟩
   ·rw[List.getElem?_set_ne (Ne.symm K)] at F;obtain⟨u',r',q⟩:=hl j y U t F W;calc⟨u',r',?_⟩;rcases q with q | ⟨k,R,e,z'⟩
    ·exact .inl q
    ·calc .inr ⟨k,R,e,z'.sameBut g ?_⟩;rintro rfl;exact K (rj hN t (I.ok.inj _ _ _ e B▸hi))
  ·by_cases L:R=c
   ·subst L;exact⟨_,uD⟩
   ·obtain⟨a,b⟩:=I.cell y R e;exact⟨a,b.sameBut g L⟩
  ·obtain⟨e,n,P,nf,d⟩:=I.pin p Y;calc⟨(g.2 p.1 ?_).trans e,n,P,nf,d⟩;intro q;rw[q,YE]at e;have a:oc=p.2:=Option.some.inj e;calc d O (by rw[<-a];calc Z3)
theorem ia{M:Model}{i:Nat}{x:Str}{v:V}{u:Value}{Q:Unit->Shared->Prop}(I:Inv X pins σ H s)(a:X.N.Nodup)(hi:X.N[i]?=some x)(b:Loc X.env.scope x)(r:RelV v u)
  (h:∀s',Inv X pins (σ.set i (some v)) H s'->Q ⟨⟩ s') (c:X.fn x=true\/X.env.scope.names.lookup x=some .local:=by grind):wpAny M A (storeName X.env x u) Q E s:=
 De I a hi b r (λs' d _=>h s' d) c
theorem Inv.ML{s':Shared}(I:Inv X pins σ H s)(f:s'.os=s.os)(u:Un (xu X.stack) ch H H' s.heap s'.heap)(g:l9 X.prog X.w H' s'.heap)(h:AllBare s'.gens)
  (i:∀b∈ch,(b∈X.ex\/X.s₀.heap.objs.size<=b)/\b≠X.env.locals/\(∀x c,X.env.cells.lookup x=some c->c≠b)/\∀p∈X.pn++pins,p.1≠b):Inv X pins σ H' s':=by
 obtain⟨h',a,d,t',b⟩:=s';have e:b=s.os:=f;subst e;calc I.call (g':=a) (t':=t') (d':=d) u g h i
end
abbrev XK:=Value->Option Addr->Hp->Prop
abbrev St:=List (Option V)
abbrev VK:=V->Hp->Prop
abbrev TE:=St->Hp->VK->Prop
abbrev TT:=St->Hp->(Bool->Hp->Prop)->Prop
abbrev TA:=St->Hp->(List V->Hp->Prop)->Prop
structure Ends where
 nx:St->Hp->Prop
 rt:VK
 bk:St->Hp->Prop:=λ_ _=>False
 ct:St->Hp->Prop:=λ_ _=>False
abbrev TS:=Ends->St->Hp->Prop
def EP(X:Cx)(pins:List (Addr×Obj))(σ:St)(Q:VK)(u:Value)(s':Shared):Prop:=∃v a,Inv X pins σ a s'/\RelV v u/\Q v a
def TP(X:Cx)(pins:List (Addr×Obj))(σ:St)(Q:Bool->Hp->Prop)(b:Bool)(s':Shared):Prop:=∃a,Inv X pins σ a s'/\Q b a
def AP(X:Cx)(pins:List (Addr×Obj))(σ:St)(Q:List V->Hp->Prop)(us:List Value)(s':Shared):Prop:=∃vs a,Inv X pins σ a s'/\Vals vs us/\Q vs a
def SP(X:Cx)(pins:List (Addr×Obj))(D:Ends)(f:Flow)(s':Shared):Prop:=
 match f with
 | .next=>∃a b,Inv X pins a b s'/\D.nx a b
 | .brk=>∃a b,Inv X pins a b s'/\D.bk a b
 | .cont=>∃a b,Inv X pins a b s'/\D.ct a b
 | .ret u=>∃v a b,Inv X pins a b s'/\RelV v u/\D.rt v b
structure PE(X:Cx)(e:Expr)(t:TE):Prop where
 out:
  ∀(pins:List (Addr×Obj)) (s:Shared) (σ:St) (H:Hp) (Q:VK),Inv X pins σ H s->t σ H Q->wpAny (model X.prog X.w) X.A (eval e X.env) (EP X pins σ Q) X.xe s
instance {X:Cx}{e:Expr}{t:TE}:CoeFun (PE X e t) λ_=>
 ∀(pins:List (Addr×Obj)) (s:Shared) (σ:St) (H:Hp) (Q:VK),Inv X pins σ H s->t σ H Q->wpAny (model X.prog X.w) X.A (eval e X.env) (EP X pins σ Q) X.xe s:=⟨PE.out⟩
structure PT(X:Cx)(e:Expr)(t:TT):Prop where
 out:
  ∀(pins:List (Addr×Obj)) (s:Shared) (σ:St) (H:Hp) (Q:Bool->Hp->Prop),Inv X pins σ H s->t σ H Q->wpAny (model X.prog X.w) X.A (isTrue e X.env (eval e X.env)) (TP X pins σ Q) X.xe s
instance {X:Cx}{e:Expr}{t:TT}:CoeFun (PT X e t) λ_=>
 ∀(pins:List (Addr×Obj)) (s:Shared) (σ:St) (H:Hp) (Q:Bool->Hp->Prop),Inv X pins σ H s->t σ H Q->wpAny (model X.prog X.w) X.A (isTrue e X.env (eval e X.env)) (TP X pins σ Q) X.xe s:=⟨PT.out⟩
structure PW(X:Cx)(e:Expr)(t:TT):Prop where
 out:
  ∀(whole:Sem Value) (pins:List (Addr×Obj)) (s:Shared) (σ:St) (H:Hp) (Q:Bool->Hp->Prop),Inv X pins σ H s->t σ H Q->wpAny (model X.prog X.w) X.A (isTrue e X.env whole) (TP X pins σ Q) X.xe s
instance {X:Cx}{e:Expr}{t:TT}:CoeFun (PW X e t) λ_=>
 ∀(a:Sem Value) (pins:List (Addr×Obj)) (s:Shared) (σ:St) (H:Hp) (Q:Bool->Hp->Prop),Inv X pins σ H s->t σ H Q->wpAny (model X.prog X.w) X.A (isTrue e X.env a) (TP X pins σ Q) X.xe s:=⟨PW.out⟩
theorem PW.pt{X:Cx}{e:Expr}{t:TT}(h:PW X e t):PT X e t:=⟨h.out _⟩
structure PA(X:Cx)(es:List Expr)(t:TA):Prop where
 out:
  ∀(pos:Pos) (pins:List (Addr×Obj)) (s:Shared) (σ:St) (H:Hp) (Q:List V->Hp->Prop),Inv X pins σ H s->t σ H Q->wpAny (model X.prog X.w) X.A (spliced (backTo pos (starEach es X.env))) (AP X pins σ Q) X.xe s
instance {X:Cx}{b:List Expr}{t:TA}:CoeFun (PA X b t) λ_=>
 ∀(a:Pos) (pins:List (Addr×Obj)) (s:Shared) (σ:St) (H:Hp) (Q:List V->Hp->Prop),Inv X pins σ H s->t σ H Q->wpAny (model X.prog X.w) X.A (spliced (backTo a (starEach b X.env))) (AP X pins σ Q) X.xe s:=⟨PA.out⟩
structure PS(X:Cx)(st:Stmt)(t:TS):Prop where
 out:
  ∀(pins:List (Addr×Obj)) (s:Shared) (σ:St) (H:Hp) (D:Ends),Inv X pins σ H s->t D σ H->wpAny (model X.prog X.w) X.A (exec st X.env) (SP X pins D) X.xe s
instance {X:Cx}{a:Stmt}{t:TS}:CoeFun (PS X a t) λ_=>
 ∀(pins:List (Addr×Obj)) (s:Shared) (σ:St) (H:Hp) (D:Ends),Inv X pins σ H s->t D σ H->wpAny (model X.prog X.w) X.A (exec a X.env) (SP X pins D) X.xe s:=⟨PS.out⟩
structure qr(X:Cx)(st:List Stmt)(t:TS):Prop where
 out:
  ∀(pins:List (Addr×Obj)) (s:Shared) (σ:St) (H:Hp) (D:Ends),Inv X pins σ H s->t D σ H->wpAny (model X.prog X.w) X.A (execs st X.env) (SP X pins D) X.xe s
instance {X:Cx}{a:List Stmt}{t:TS}:CoeFun (qr X a t) λ_=>
 ∀(pins:List (Addr×Obj)) (s:Shared) (σ:St) (H:Hp) (D:Ends),Inv X pins σ H s->t D σ H->wpAny (model X.prog X.w) X.A (execs a X.env) (SP X pins D) X.xe s:=⟨qr.out⟩
theorem cD{α:Type}{t:Sem α}{Q b:α->Shared->Prop}{M:Model}{s:Shared}(h:wpAny M A t Q E s)(c:∀a s,Q a s->b a s):wpAny M A t b E s:=aag h c λ_ _ x=>x
end
section
variable {pins:List (Addr×Obj)}{pos:Pos}{σ:St}{x:Str}{u:Value}{E Q:Value->Shared->Prop}
section
variable {X:Cx}
def Fe(i:Nat):TE:=λσ H Q=>∃v,σ[i]?=some (some v)/\Q v H
def tC(v:V):TE:=λ_ H Q=>Q v H
theorem Ff{i:Nat}(c:X.N[i]?=some x)(j:T7 X.env.scope x)(d:(x==("__debug__":Str))=false:=by decide)(k:(x==("__classdict__":Str))=false:=by decide):PE X (.Name x pos) (Fe i):=by
 walk_at "xc";obtain⟨v,e,h⟩:=h;obtain⟨m,n,o⟩:=I.loc;obtain⟨u,r,l⟩:=o i x v c e j;have a:EP X pins σ Q u s:=⟨v,H,I,r,h⟩
 rcases l with⟨b,e⟩|⟨b,c,f,g⟩
 ·exact wpAny_Name (wpAny_loadName_local I.ok.kind b n e a) d
 ·rcases b with b | b
  ·exact wpAny_Name (wpAny_loadName_cell I.ok.kind b f g a) d
  ·calc wpAny_Name (wpAny_loadName_free I.ok.kind b f g a k) d
theorem aj{i j pos}:PE X (.Constant (.int i) j pos) (tC (.int i)):=.mk λ_ _ _ H _ I h=>wpAny_Constant_int ⟨.int i,H,I.tok _,⟨_,rfl⟩,h⟩
theorem jx{b j pos}:PE X (.Constant (.bool b) j pos) (tC (.bl b)):=.mk λ_ _ _ H _ I h=>Constant_bool ⟨.bl b,H,I,rfl,h⟩
theorem fK{j pos}:PE X (.Constant .none j pos) (tC .bx):=.mk λ_ _ _ H _ I h=>Constant_none ⟨.bx,H,I,rfl,h⟩
theorem aE{x j pos}:PE X (.Constant (.str x) j pos) (tC (.str x)):=.mk λ_ _ _ H _ I h=>Calls.Constant_str ⟨.str x,H,I.tok _,⟨_,rfl⟩,h⟩
def Gl(X:Cx)(x:Str):Prop:=X.env.kindOf x=some .globalImplicit
theorem iP{s:Shared}{H:Hp}(I:Inv X pins σ H s)(a:Gl X x)(b:X.mg x=some u)(h:Q u s)
  (c:(x==("__debug__":Str))=false:=by decide):wpAny (model X.prog X.w) X.A (eval (.Name x pos) X.env) Q E s:=
 Calls.Name_function_global I.ok.kind a (Calls.loadGlobal_global (by rw[I.ok.glob];calc I.mod.glob.keeps I.bk) b h) c
theorem oV{s:Shared}{H:Hp}(I:Inv X pins σ H s)(a:Gl X x)(b:X.mg x=none)(c:bootBuiltins x=some u)(h:Q u s)
  (d:x≠"__name__":=by decide) (e:(x==("__debug__":Str))=false:=by decide):wpAny (model X.prog X.w) X.A (eval (.Name x pos) X.env) Q E s:=by
 obtain⟨i,f,g⟩:=I.mod.blt;calc Calls.Name_function_global I.ok.kind a (Calls.loadGlobal_builtin (by rw[I.ok.glob];calc I.mod.glob.keeps I.bk) b (by rw[I.ok.blt];calc f.keeps I.bk) ((g x d).trans c) h) e
theorem lR{v:V}(a:Gl X x)(b:X.mg x=some u)(r:RelV v u)(c:(x==("__debug__":Str))=false:=by decide):PE X (.Name x pos) (tC v):=
 .mk λ_ _ _ H _ I h=>iP I a b ⟨v,H,I,r,h⟩ c
theorem dF{v:V}(a:Gl X x)(b:X.mg x=none)(c:bootBuiltins x=some u)(r:RelV v u)(d:x≠"__name__":=by decide)(e:(x==("__debug__":Str))=false:=by decide):PE X (.Name x pos) (tC v):=
 .mk λ_ _ _ H _ I h=>oV I a b c ⟨v,H,I,r,h⟩ d e
variable {a b:Expr}{ta tb:TE}{pos:Pos}
structure PC(X:Cx)(op:CmpOp)(a b:Expr)(t:TE):Prop where
 out:
  ∀(pins:List (Addr×Obj)) (s:Shared) (σ:St) (H:Hp) (Q:VK),Inv X pins σ H s->t σ H Q->
   wpAny (model X.prog X.w) X.A (eval a X.env) (λv s₁=>wpAny (model X.prog X.w) X.A (eval b X.env) (λu s₂=>wpAny (model X.prog X.w) X.A (compareOp op v u) (EP X pins σ Q) X.xe s₂) X.xe s₁) X.xe s
instance {X:Cx}{e:CmpOp}{a b:Expr}{t:TE}:CoeFun (PC X e a b t) λ_=>
 ∀(pins:List (Addr×Obj)) (s:Shared) (σ:St) (H:Hp) (Q:VK),Inv X pins σ H s->t σ H Q->
  wpAny (model X.prog X.w) X.A (eval a X.env) (λv c=>wpAny (model X.prog X.w) X.A (eval b X.env) (λu d=>wpAny (model X.prog X.w) X.A (compareOp e v u) (EP X pins σ Q) X.xe d) X.xe c) X.xe s:=⟨PC.out⟩
theorem Fg(b:Expr){a:CmpOp}(h:a≠.In)(c:a≠.NotIn):behindInMarks a b=false:=by
 have d:(a==CmpOp.In)=false:=by cases a<;>first|rfl|exact absurd rfl h
 have e:(a==CmpOp.NotIn)=false:=by cases a<;>first|rfl|exact absurd rfl c
 cases b<;>simp[behindInMarks,d,e]
def tB(t:TE):TT:=λσ H Q=>t σ H λx a=>∃c,x=.bl c/\Q c a
theorem ON{c:CmpOp}{t:TE}(h:PC X c a b t)(e:behindInMarks c b=false:=by first|calc Fg _ ∅ ∅|rfl):PT X (.Compare a [c] [b] pos) (tB t):=by
 calc⟨?_⟩;intro pins s σ H Q I c;calc wpAny_isTrue_Compare1 (cD (h pins s σ H _ I c) λv f e=>cD e λu c f=>cD f λc h g=>?_) e;obtain⟨x,i,j,k,l⟩:=g;obtain⟨d,rfl,q⟩:=l
 cases k;calc aaz ⟨i,j,q⟩
theorem OO{e:Expr}{t:TE}(h:PE X e t)(b:∀a,isTrue e X.env a=(do let v <-a;standAt e.pos;holding [v] (truthy v)):=by intro _;rfl):PT X e (tB t):=by
 calc⟨?_⟩;intro pins s σ H Q I a;calc isTrue_plain (cD (h pins s σ H _ I a) λv e c=>?_) (b _);obtain⟨x,f,g,i,j⟩:=c;obtain⟨d,rfl,q⟩:=j
 cases i;calc aaz ⟨f,g,q⟩
variable {tA YF:TT}{rest:List Expr}
def OP(t u:TT):TT:=λσ H Q=>t σ H λc a=>if c=true then u σ a Q else Q false a
def Z4(t u:TT):TT:=λσ H Q=>t σ H λc a=>if c=true then Q true a else u σ a Q
def OQ(t:TT):TT:=λσ H Q=>t σ H λc a=>Q (!c) a
theorem pw_and1(b:PT X a tA):PW X (.BoolOp .And [a] pos) tA:=by
 calc⟨?_⟩;intro d pins s σ H Q I h;refine isTrue_and (cD (b pins s σ H Q I h) λc f e=>?_)
 cases c with
 |true=>calc isTrue_and_nil e
 |false=>calc e
theorem pw_or1(b:PT X a tA):PW X (.BoolOp .Or [a] pos) tA:=by
 calc⟨?_⟩;intro d pins s σ H Q I h;refine isTrue_or (cD (b pins s σ H Q I h) λc f e=>?_)
 cases c with
 |false=>calc isTrue_or_nil e
 |true=>calc e
theorem pw_and(g:PT X a tA)(i:PW X (.BoolOp .And (b::rest) pos) YF):PW X (.BoolOp .And (a::b::rest) pos) (OP tA YF):=by
 calc⟨?_⟩;intro j pins s σ H Q I h;calc isTrue_and (cD (g pins s σ H _ I h) λc k l=>?_);obtain⟨d,e,f⟩:=l
 cases c with
 |true=>calc i j pins k σ d Q e f
 |false=>calc⟨d,e,f⟩
theorem pw_or(g:PT X a tA)(i:PW X (.BoolOp .Or (b::rest) pos) YF):PW X (.BoolOp .Or (a::b::rest) pos) (Z4 tA YF):=by
 calc⟨?_⟩;intro j pins s σ H Q I h;calc isTrue_or (cD (g pins s σ H _ I h) λc k l=>?_);obtain⟨d,e,f⟩:=l
 cases c with
 |true=>calc⟨d,e,f⟩
 |false=>calc i j pins k σ d Q e f
theorem cG(b:PT X a tA):PT X (.UnaryOp .Not a pos) (OQ tA):=by
 walk_at "xc";exact isTrue_not (b pins s σ H (λc d=>Q (!c) d) I h)
def Fh(ta tb:TE):TE:=λσ H Q=>ta σ H λx a=>∃c,x=.bl c/\if c=true then tb σ a Q else Q (.bl false) a
def OS(ta tb:TE):TE:=λσ H Q=>ta σ H λx a=>∃c,x=.bl c/\if c=true then Q (.bl true) a else tb σ a Q
def Fi(ta:TE):TE:=λσ H Q=>ta σ H λx a=>∃c,x=.bl c/\Q (.bl (!c)) a
theorem jM{op}{t:TE}(h:PE X a t):PE X (.BoolOp op [a] pos) t:=.mk λpins s σ H Q I b=>BoolOp_one (h pins s σ H Q I b)
theorem iV(g:PE X a ta)(i:PE X (.BoolOp .And (b::rest) pos) tb):PE X (.BoolOp .And (a::b::rest) pos) (Fh ta tb):=by
 walk_at "xc";refine BoolOp_and (cD (g pins s σ H _ I h) λv j k=>?_);obtain⟨x,e,f,l,d⟩:=k;obtain⟨c,rfl,d⟩:=d
 cases l;refine aaz ?_
 cases c with
 |true=>calc i pins j σ e Q f d
 |false=>calc⟨.bl false,e,f,rfl,d⟩
theorem aeT(g:PE X a ta)(i:PE X (.BoolOp .Or (b::rest) pos) tb):PE X (.BoolOp .Or (a::b::rest) pos) (OS ta tb):=by
 walk_at "xc";refine BoolOp_or (cD (g pins s σ H _ I h) λv j k=>?_);obtain⟨x,e,f,l,d⟩:=k;obtain⟨c,rfl,d⟩:=d
 cases l;refine aaz ?_
 cases c with
 |false=>calc i pins j σ e Q f d
 |true=>calc⟨.bl true,e,f,rfl,d⟩
theorem OT(d:PE X a ta):PE X (.UnaryOp .Not a pos) (Fi ta):=by
 walk_at "xc";refine UnaryOp_ (cD (d pins s σ H _ I h) λv j e=>?_);obtain⟨x,f,g,i,b⟩:=e;obtain⟨c,rfl,b⟩:=b
 cases i;calc not_of (aaz ⟨.bl (!c),f,g,rfl,b⟩)
def Z5(t:TT)(ta tb:TE):TE:=λσ H Q=>t σ H λc a=>if c=true then ta σ a Q else tb σ a Q
theorem Fj{c:Expr}(j:PT X c tA)(k:PE X a ta)(l:PE X b tb):PE X (.IfExp c a b pos) (Z5 tA ta tb):=by
 walk_at "xc";refine wpAny_IfExp (cD (j pins s σ H _ I h) λd e c=>?_);obtain⟨f,g,i⟩:=c
 cases d with
 |true=>calc k pins e σ f Q g i
 |false=>calc l pins e σ f Q g i
end
end
section
variable {X:Cx}{e tg:Expr}{pins:List (Addr×Obj)}{i:Nat}{σ:St}{x:Str}{te:TE}{K:W.Frag}
def aS(K:W.Frag)(H:Hp)(a:Addr)(xs:List V):Prop:=
 Rd H a (.lst xs)\/
  ∃(o:Obj) (b:Array Value) (n:Nat),K.lookup a=some o/\o.cls=.type "list"/\o.dict=none/\o.data=.seq b n/\b.size<=sizeLine/\Vals xs b.toList
def bH(K:W.Frag)(H:Hp)(a:Addr)(xs:List V):Prop:=
 Rd H a (.tup xs)\/
  ∃(o:Obj) (b:Array Value) (n:Nat),K.lookup a=some o/\o.cls=.type "tuple"/\o.data=.seq b n/\b.size<=sizeLine/\Vals xs b.toList
def Z6:Value->Option V
 | .none=>some .bx
 | .bool b=>some (.bl b)
 | .int i _=>some (.int i)
 | .str x _=>some (.str x)
 | .bytes b _=>some (.Bo b)
 | .float b _=>some (.MG b)
 | .ref a=>some (.ref a)
 | .type n=>some (.ty n)
 |_=>none
theorem RelV.abs{x:V}{u:Value}(r:RelV x u):Z6 u=some x:=by
 cases x with
 |bx=>cases r;rfl
 |bl _=>cases r;rfl
 |int _=>obtain⟨t,rfl⟩:=r;rfl
 |str _=>obtain⟨t,rfl⟩:=r;rfl
 |Bo _=>obtain⟨t,rfl⟩:=r;rfl
 |MG _=>obtain⟨t,rfl⟩:=r;rfl
 |ref _=>cases r;rfl
 |ty _=>cases r;rfl
theorem RelV.inj{x y:V}{u:Value}(r:RelV x u)(q:RelV y u):x=y:=Option.some.inj (r.abs.symm.trans q.abs)
theorem Vals.inj:∀{xs ys:List V}{us:List Value},Vals xs us->Vals ys us->xs=ys
 |_,_,_,.nil,.nil=>rfl
 |_,_,_,.cons r t,.cons a b=>by rw[r.inj a,Vals.inj t b]
section
variable {X:Cx}{pins:List (Addr×Obj)}{σ:St}{H:Hp}{s:Shared}{a:Addr}{xs ys:List V}
theorem aS.of(h:H a=some (.lst xs)):aS K H a xs:=.inl (.inl h)
theorem bH.of(h:H a=some (.tup xs)):bH K H a xs:=.inl (.inl h)
theorem Inv.list(I:Inv X pins σ H s)(h:aS X.K H a xs):∃b:List Value,Vals xs b/\PlainL s.heap a b.toArray/\xs.length<=sizeLine:=by
 rcases h with h|⟨o,b,n,c,d,f,g,i,r⟩
 ·obtain⟨z,b,n,r,e⟩:=h.ok I.aU;exact⟨b,r,⟨_,n,e,rfl,rfl,rfl⟩,z⟩
 ·calc⟨b.toList,r,⟨o,n,I.gh a o c,d,f,by simpa using g⟩,?_⟩;have e:=r.length;simp only[Array.length_toList]at e;lia
theorem Inv.tuple(I:Inv X pins σ H s)(h:bH X.K H a xs):∃b:List Value,Vals xs b/\IsTup s.heap a b.toArray/\xs.length<=sizeLine:=by
 rcases h with h|⟨o,b,n,c,d,f,g,r⟩
 ·obtain⟨z,b,r,p⟩:=h.ok I.aU;exact⟨b,r,p,z⟩
 ·calc⟨b.toList,r,⟨o,I.gh a o c,d,n,by simpa using f⟩,?_⟩;have e:=r.length;simp only[Array.length_toList]at e;lia
theorem Inv.xK(I:Inv X pins σ H s)(h:aS X.K H a xs)(h':aS X.K H a ys):xs=ys:=by
 obtain⟨f,r,⟨o,n,e,_,_,d⟩,_⟩:=I.list h;obtain⟨g,i,⟨j,k,b,_,_,c⟩,_⟩:=I.list h';rw[e]at b;cases b;rw[d]at c;injection c with h _
 have:f=g:=by simpa using congrArg Array.toList h
 subst this;calc r.inj i
theorem Inv.uE(I:Inv X pins σ H s)(h:bH X.K H a xs)(h':bH X.K H a ys):xs=ys:=by
 obtain⟨f,r,⟨o,e,_,n,d⟩,_⟩:=I.tuple h;obtain⟨g,i,⟨j,b,_,k,c⟩,_⟩:=I.tuple h';rw[e]at b;cases b;rw[d]at c;injection c with h _
 have:f=g:=by simpa using congrArg Array.toList h
 subst this;calc r.inj i
end
abbrev Cx.nC(X:Cx)(E:Value->Shared->Prop):Cx:={X with xe:=E}
abbrev Cx.xy(X:Cx):Cx:=X.nC λ_ _=>False
theorem Cx.Ok.nC(a:X.Ok)(E:Value->Shared->Prop):(X.nC E).Ok:=
 ⟨a.mod,a.kind,a.glob,a.blt,a.above,a.inj,a.has,a.MH,a.hd,a.frames,a.OJ,a.R8,a.bs,a.Bq,a.vM,a.xJ,a.lZ,a.Fc⟩
theorem Cx.Ok.gi{E:Value->Shared->Prop}(a:(X.nC E).Ok):X.Ok:=
 ⟨a.mod,a.kind,a.glob,a.blt,a.above,a.inj,a.has,a.MH,a.hd,a.frames,a.OJ,a.R8,a.bs,a.Bq,a.vM,a.xJ,a.lZ,a.Fc⟩
section
variable {X:Cx}{pins:List (Addr×Obj)}{σ:St}{H:Hp}{s:Shared}{E:Value->Shared->Prop}
theorem Inv.nC(I:Inv X pins σ H s)(E:Value->Shared->Prop):Inv (X.nC E) pins σ H s:=⟨I.ok.nC E,I.os,I.bare,I.base,I.loc,I.cell,I.free,I.hX,I.pin,I.aU,I.len⟩
theorem Inv.gi(I:Inv (X.nC E) pins σ H s):Inv X pins σ H s:=⟨I.ok.gi,I.os,I.bare,I.base,I.loc,I.cell,I.free,I.hX,I.pin,I.aU,I.len⟩
theorem SP.gi{D:Ends}{f:Flow}{s':Shared}(h:SP (X.nC E) pins D f s'):SP X pins D f s':=by
 cases f with
 |next=>obtain⟨a,b,I,q⟩:=h;calc⟨a,b,I.gi,q⟩
 |brk=>obtain⟨a,b,I,q⟩:=h;calc⟨a,b,I.gi,q⟩
 |cont=>obtain⟨a,b,I,q⟩:=h;calc⟨a,b,I.gi,q⟩
 |ret u=>obtain⟨v,a,b,I,r,q⟩:=h;calc⟨v,a,b,I.gi,r,q⟩
theorem qr.xy{a:List Stmt}{t:TS}(h:qr X.xy a t):qr X a t:=.mk λpins s σ H D I a=>
 aag (h pins s σ H D (I.nC _) a) (λ_ _ q=>q.gi) λ_ _ z=>Y' z
end
section
variable {X:Cx}{st:Stmt}{rest:List Stmt}{t u:TS}{e:Expr}{te:TE}{pos:Pos}
def Fl:TS:=λD σ H=>D.nx σ H
def Df(t u:TS):TS:=λD σ H=>t {D with nx:=u D} σ H
theorem aJ:qr X [] Fl:=.mk λ_ _ σ H _ I h=>wpAny_execs_nil ⟨σ,H,I,h⟩
theorem ai(a:PS X st t)(b:qr X rest u):qr X (st::rest) (Df t u):=by
 walk_at "xd";refine wpAny_execs_cons (cD (a pins s σ H {D with nx:=u D} I h) λf c q=>?_)
 cases f with
 |next=>
  obtain⟨a,d,e,q⟩:=q;calc b pins c a d D e q
 |ret v=>calc q
 |brk=>calc q
 |cont=>calc q
theorem ao(a:PS X st t):qr X [st] t:=by
 walk_at "xd";refine wpAny_execs_cons (cD (a pins s σ H D I h) λf b q=>?_)
 cases f with
 |next=>calc wpAny_execs_nil q
 |ret v=>calc q
 |brk=>calc q
 |cont=>calc q
theorem Inv.quiet{H:Hp}{s:Shared}(I:Inv X pins σ H s):interactive X.env=false:=by simp[interactive,I.ok.kind]
def xM(te:TE):TS:=λD σ H=>te σ H λ_ a=>D.nx σ a
theorem Kq(a:PE X e te)(b:swapsWith e none pos.line X.env=pure false:=by rfl):PS X (.Expr e pos) (xM te):=by
 walk_at "xd";exact wpAny_Expr_any (cD (a pins s σ H _ I h) λv g ⟨x,c,d,i,f⟩=>⟨σ,c,d,f⟩) I.quiet b
def OU(te:TE):TS:=λD σ H=>te σ H D.rt
theorem aK(a:PE X e te):PS X (.Return (some e) pos) (OU te):=by
 walk_at "xd";exact wpAny_Return_some (cD (a pins s σ H _ I h) λv g ⟨x,b,c,d,f⟩=>⟨x,σ,b,c,d,f⟩)
def zI(c:TT)(t u:TS):TS:=λD σ H=>c σ H λb a=>if b=true then t D σ a else u D σ a
theorem aR{c:Expr}{a b:List Stmt}{e:TT}(k:PT X c e)(l:qr X a t)(m:qr X b u):PS X (.If c a b pos) (zI e t u):=by
 walk_at "xd";refine wpAny_If (cD (k pins s σ H _ I h) λd f a=>?_);obtain⟨g,i,j⟩:=a
 cases d with
 |true=>calc l pins f σ g D i j
 |false=>calc m pins f σ g D i j
def zJ:TS:=λ_ _ _=>False
theorem e9:PS X st zJ:=.mk λ_ _ _ _ _ _ h=>h.elim
end
abbrev TG:=V->St->Hp->(St->Hp->Prop)->Prop
abbrev MM:=List V->St->Hp->(St->Hp->Prop)->Prop
structure PG(X:Cx)(target:Expr)(t:TG):Prop where
 out:
  ∀(pins:List (Addr×Obj)) (s:Shared) (σ:St) (H:Hp) (v:V) (u:Value) (Q:St->Hp->Prop),Inv X pins σ H s->RelV v u->t v σ H Q->
   wpAny (model X.prog X.w) X.A (assign target X.env u) (λ_ s'=>∃σ' H',Inv X pins σ' H' s'/\Q σ' H') X.xe s
instance {X:Cx}{a:Expr}{t:TG}:CoeFun (PG X a t) λ_=>
 ∀(pins:List (Addr×Obj)) (s:Shared) (σ:St) (H:Hp) (v:V) (u:Value) (Q:St->Hp->Prop),Inv X pins σ H s->RelV v u->t v σ H Q->
  wpAny (model X.prog X.w) X.A (assign a X.env u) (λ_ s'=>∃a b,Inv X pins a b s'/\Q a b) X.xe s:=⟨PG.out⟩
structure Sa(X:Cx)(ts:List Expr)(t:MM):Prop where
 out:
  ∀(pins:List (Addr×Obj)) (s:Shared) (σ:St) (H:Hp) (vs:List V) (us:List Value) (Q:St->Hp->Prop),Inv X pins σ H s->Vals vs us->t vs σ H Q->
   wpAny (model X.prog X.w) X.A (assignInOrder ((assignEach ts X.env).map (·.2)) us) (λ_ s'=>∃σ' H',Inv X pins σ' H' s'/\Q σ' H') X.xe s
instance {X:Cx}{a:List Expr}{t:MM}:CoeFun (Sa X a t) λ_=>
 ∀(pins:List (Addr×Obj)) (s:Shared) (σ:St) (H:Hp) (vs:List V) (us:List Value) (Q:St->Hp->Prop),Inv X pins σ H s->Vals vs us->t vs σ H Q->
  wpAny (model X.prog X.w) X.A (assignInOrder ((assignEach a X.env).map (·.2)) us) (λ_ s'=>∃a b,Inv X pins a b s'/\Q a b) X.xe s:=⟨Sa.out⟩
abbrev OV:=V->V->V->Hp->(Hp->Prop)->Prop
def OW(X:Cx)(t:OV):Prop:=
 ∀(pins:List (Addr×Obj)) (s:Shared) (σ:St) (H:Hp) (o i v:V) (a b u:Value) (Q:Hp->Prop),Inv X pins σ H s->RelV o a->RelV i b->RelV v u->t o i v H Q->
  wpAny (model X.prog X.w) X.A (setItem a b u) (λ_ s'=>∃a,Inv X pins σ a s'/\Q a) X.xe s
abbrev YG:=V->V->Hp->VK->Prop
def PIp(X:Cx)(a:Operator)(t:YG):Prop:=
 ∀(pins:List (Addr×Obj)) (s:Shared) (σ:St) (H:Hp) (x y:V) (v u:Value) (Q:VK),Inv X pins σ H s->RelV x v->RelV y u->t x y H Q->
  wpAny (model X.prog X.w) X.A (inplaceOp a v u) (EP X pins σ Q) X.xe s
section
variable {X:Cx}{pos:Pos}
def fL(i:Nat):TG:=λv σ H Q=>Q (σ.set i (some v)) H
theorem aX(a:X.N.Nodup)(hi:X.N[i]?=some x)(b:Loc X.env.scope x)(c:X.fn x=true\/X.env.scope.names.lookup x=some .local:=by grind):PG X (.Name x pos) (fL i):=by
 calc⟨?_⟩;intro pins s σ H v u Q I r h;calc wpAny_assign_Name (ia I a hi b r (λe d=>⟨_,H,d,h⟩) c)
def Fm:MM:=λvs σ H Q=>vs=[]/\Q σ H
def me(t:TG)(u:MM):MM:=λvs σ H Q=>∃v r,vs=v::r/\t v σ H λa b=>u r a b Q
theorem qK:Sa X [] Fm:=by
 calc⟨?_⟩;intro pins s σ H a b Q I r h;obtain⟨e,h⟩:=h;subst e
 cases r;calc assignInOrder_nil ⟨σ,H,I,h⟩
theorem fM{a:List Expr}{t:TG}{u:MM}(b:PG X e t)(c:Sa X a u)
  (d:(assignEach (e::a) X.env).map (·.2)=assign e X.env::(assignEach a X.env).map (·.2):=by rfl):Sa X (e::a) (me t u):=by
 calc⟨?_⟩;intro pins s σ H a g Q I r h;obtain⟨v,i,f,h⟩:=h;subst f
 cases r with
 |cons r f=>
  rw[d];calc assignInOrder_cons (cD (b pins s σ H _ _ _ I r h) λ_ g i=>?_);obtain⟨a,b,d,h⟩:=i;calc c pins g a b _ _ Q d f h
def Fo(K:W.Frag)(n:Nat)(t:MM):TG:=λv σ H Q=>∃a xs,v=.ref a/\bH K H a xs/\xs.length=n/\t xs σ H Q
theorem vQ{a:List Expr}{k:Nat}{t:MM}{n:Nat}(b:X.calm=true)(h:Sa X a t)
  (d:(assignEach a X.env).length=n:=by rfl) (f:(assignEach a X.env).findIdx? (·.1)=none:=by rfl):PG X (.Tuple a k pos) (Fo X.K n t):=by
 calc⟨?_⟩;intro pins s σ H v u Q I r c;obtain⟨a,g,i,j,l,c⟩:=c;subst i
 cases r;obtain⟨k,a,i,m⟩:=I.tuple j;calc assign_Tuple_tuple (I.ok.hd b) i (by simp[d,<-l,a.length]) f λk m=>?_;have d:Inv X pins σ H {s with heap:=k}:=I.kept (t':=s.toks) λb o e=>m b o (X' (S' e)) e;calc h pins _ σ H g _ Q d (by simpa using a) c
def OX(a b:TE)(t:OV):TG:=λv σ H Q=>a σ H λo c=>b σ c λi a=>t o i v a λb=>Q σ b
theorem iW{o i:Expr}{c d:TE}{t:OV}(e:PE X o c)(hi:PE X i d)(f:OW X t)
  (g:∀v,assign (.Subscript o i pos) X.env v=(do
   let a <-holding [v] (eval o X.env)
   let b <-holding [v,a] (eval i X.env)
   standAt pos
   holding [v,a,b] (setItem a b v)
   release [v,a,b] []):=by intro _;rfl):PG X (.Subscript o i pos) (OX c d t):=by
 calc⟨?_⟩;intro pins s σ H v u Q I r h;rw[g];calc j' (aaF (cD (e pins s σ H _ I h) λa d c=>?_));obtain⟨x,e,g,h,j⟩:=c;calc j' (aaF (cD (hi pins d σ e _ g j) λb k c=>?_));obtain⟨y,d,e,g,j⟩:=c;calc j' (wpAny_standAt (j' (aaF (cD (f pins k σ d x y v a b u _ e h g r j) λ_ l c=>?_))));obtain⟨a,b,d⟩:=c;calc wpAny_release ⟨σ,a,b,d⟩
def zK(te:TE)(g:TG):TS:=λD σ H=>te σ H λx a=>g x σ a D.nx
theorem eQ{g:TG}(a:PE X e te)(b:PG X tg g)(c:swapsWithSole [tg] e pos.line X.env=pure false:=by rfl)(d:swappedStores [tg] e X.env=pure none:=by rfl)
  (f:(assignEach [tg] X.env).map (·.2)=[assign tg X.env]:=by rfl):PS X (.Assign [tg] e pos) (zK te g):=by
 walk_at "xd";refine wpAny_Assign_stores (cD (a pins s σ H _ I h) λv g i=>?_) c d;obtain⟨x,a,j,k,l⟩:=i;rw[f];exact cD (b pins g σ a x v _ j k l) λ_ c q=>q
theorem Fp{a:Pos}(b:X.N.Nodup)(hi:X.N[i]?=some x)(c:Loc X.env.scope x)(d:PE X e te)(f:swapsWith e (some (.Name x a)) pos.line X.env=pure false:=by rfl)(g:X.fn x=true\/X.env.scope.names.lookup x=some .local:=by grind):
  PS X (.Assign [.Name x a] e pos) (zK te (fL i)):=by
 walk_at "xd";refine wpAny_Assign_Name (cD (d pins s σ H _ I h) λv j a=>?_) f;obtain⟨y,d,j,k,l⟩:=a;exact ia j b hi c k (λm f=>⟨_,d,f,l⟩) g
def OY(i:Nat)(te:TE)(a:YG):TS:=λD σ H=>∃x,σ[i]?=some (some x)/\te σ H λy b=>a x y b λz c=>D.nx (σ.set i (some z)) c
theorem OZ{d:Operator}{g:YG}{b:Pos}(n:X.N.Nodup)(hi:X.N[i]?=some x)(f:Loc X.env.scope x)(o:PE X e te)(p:PIp X d g)(q:X.fn x=true\/X.env.scope.names.lookup x=some .local:=by grind):
  PS X (.AugAssign (.Name x b) d e pos) (OY i te g):=by
 walk_at "xd";obtain⟨v,t,h⟩:=h;obtain⟨m,B,y⟩:=I.loc;have c:T7 X.env.scope x:=by rcases f with k|k;exact .inl k;exact .inr (.inl k)
 obtain⟨u,r,l⟩:=y i x v hi t c;calc wpAny_AugAssign_Name ?_;have j:wpAny (model X.prog X.w) X.A (eval e X.env) (λw b=>wpAny (model X.prog X.w) X.A (inplaceOp d u w) (λr c=>wpAny (model X.prog X.w) X.A (storeName X.env x r) (λ_=>SP X pins D .next) X.xe c) X.xe b) X.xe s:=by
  calc cD (o pins s σ H _ I h) λw c b=>?_;obtain⟨y,d,g,m,o⟩:=b;calc cD (p pins c σ d v y u w _ g r m o) λz t b=>?_;obtain⟨o,c,d,g,m⟩:=b;exact ia d n hi f g (λp o=>⟨_,c,o,m⟩) q
 rcases l with⟨a,b⟩|⟨a,c,C,E⟩
 ·exact wpAny_loadName_local I.ok.kind a B b j
 ·rcases a with a | a
  ·exact wpAny_loadName_cell I.ok.kind a C E j
  ·rcases f with k | k
   ·have:X.env.scope.names.lookup x=some .free:=a;rw[k]at this;cases this
   ·have:X.env.scope.names.lookup x=some .free:=a;rw[k]at this;cases this
def Z7(f:Int->Int->Int):YG:=λx y H Q=>∃i j,x=.int i/\y=.int j/\Q (.int (f i j)) H
theorem O0:PIp X .Add (Z7 λi j=>i+j):=by
 intro pins s σ H x y v u Q I a b h;obtain⟨i,j,c,d,q⟩:=h;subst c;subst d;obtain⟨t,rfl⟩:=a;obtain⟨e,rfl⟩:=b;calc iadd_int ⟨.int _,H,I.tok _,⟨_,rfl⟩,q⟩
end
section
variable {X:Cx}{pos:Pos}
def vR(c:TT)(f:TS):TS:=λD σ H=>∃W:Nat->St->Hp->Prop,(∃m,W m σ H)/\∀m σ H,W m σ H->
 c σ H λb d=>if b=true then ∃N:St->Hp->Prop,(∀a c,N a c->∃e,e<m/\W e a c)/\f {D with nx:=N,ct:=N,bk:=D.nx} σ d else D.nx σ d
theorem Fq{c:Expr}{a:List Stmt}{i:TT}{j:TS}(k:PassesOwn (model X.prog X.w) X.A X.env X.xe)(p:PT X c i)(q:qr X a j):PS X (.While c a [] pos) (vR i j):=by
 walk_at "xd";obtain⟨W,⟨r,t⟩,a⟩:=h;refine wpAny_While (codeAny_whileLoop (λn u=>∃c i,Inv X pins c i u/\W n c i) ?_ r ⟨σ,H,I,t⟩);rintro n v ⟨d,j,x,y⟩;refine wpAny_passesOwn k (cD (p pins v d j _ x (a n d j y)) λb z B=>?_);obtain⟨l,m,e⟩:=B
 cases b with
 |true=>
  obtain⟨N,o,e⟩:=e;rw[if_pos rfl];refine wpAny_passesOwn k (cD (q pins z d l _ m e) λf a g=>?_)
  cases f with
  |next=>
   obtain⟨a,b,c,f⟩:=g;obtain⟨i,j,k⟩:=o a b f;calc⟨i,j,a,b,c,k⟩
  |cont=>
   obtain⟨a,b,c,f⟩:=g;obtain⟨i,j,k⟩:=o a b f;calc⟨i,j,a,b,c,k⟩
  |brk=>calc g
  |ret v=>calc g
 |false=>
  rw[if_neg Bool.false_ne_true];calc wpAny_execs_nil ⟨d,l,m,e⟩
end
structure It where
 go:Nat->Hp->Prop
 MN:Nat->Hp->V->Hp->Prop
 stop:Nat->Hp->Prop
def oW(X:Cx)(pins:List (Addr×Obj))(H:Hp)(b:Addr):Prop:=
 H b=none/\b≠X.env.locals/\b∉X.fs/\(b∈X.ex\/X.s₀.heap.objs.size<=b)/\(∀x c,X.env.cells.lookup x=some c->c≠b)/\∀p∈X.pn++pins,p.1≠b
theorem Inv.Fs{H c:Hp}{s:Shared}{b:Addr}(I:Inv X pins σ H s)(a:s.heap.objs.size<=b)(d:c b=none):oW X pins c b:=by
 refine⟨d,Nat.ne_of_gt (R' I.lt a),I.OL a,.inr (aae I.sz a),λx c e z=>?_,λp b z=>?_⟩
 ·obtain⟨v,q⟩:=I.cell x c e;exact absurd (R' q.lt (by rw[z];calc a)) (aaM _)
 ·calc absurd (R' (S' (I.pin p b).1) (by rw[z];calc a)) (aaM _)
structure Turn(P:Program)(w:World)(K:W.Frag)(tg:Expr)(J:It)(fp:List Addr)(it:Addr)(tn:Nat->Heap->Prop):Prop where
 mem:it∈fp
 obj:∀i h,tn i h->∀b∈fp,∃o,h.get? b=some o/\∀v,o.data≠.cell v
 keep:∀i h h',tn i h->(∀b∈fp,∀o,h.get? b=some o->h'.get? b=some o)->tn i h'
 item:∀(X:Cx),X.prog=P->X.w=w->X.K=K->X.calm=true->∀(i:Nat) (pins:List (Addr×Obj)) (s:Shared) (σ:St) (H:Hp) (E:Value->Shared->Prop),Inv X pins σ H s->(∀b ∈ fp,oW X pins H b)->tn i s.heap->J.go i H->
  wpAny (model P w) X.A (pyNext (.ref it)) (λr s1=>∃u,r=some u/\
   wpAny (model P w) X.A (letOwnedTupleGo tg (.ref it) u) (λ_ s2=>∃x H',Inv X pins σ H' s2/\RelV x u/\J.MN i H x H'/\tn (i + 1) s2.heap/\∀b ∈ fp,H' b=none) E s1) E s
 done:∀(X:Cx),X.prog=P->X.w=w->X.K=K->X.calm=true->∀(i:Nat) (pins:List (Addr×Obj)) (s:Shared) (σ:St) (H:Hp) (E:Value->Shared->Prop),Inv X pins σ H s->(∀b ∈ fp,oW X pins H b)->tn i s.heap->J.stop i H->
  wpAny (model P w) X.A (pyNext (.ref it)) (λr s1=>r=none/\Inv X pins σ H s1) E s
 self:∀(A:Around) (i:Nat) (s:Shared) (Q:Value->Shared->Prop) (E:Value->Shared->Prop),tn i s.heap->Q (.ref it) s->wpAny (model P w) A (pyIter (.ref it)) Q E s
abbrev TI:=St->Hp->(It->Hp->Prop)->Prop
def Z8(X:Cx)(pins:List (Addr×Obj))(σ:St)(tg:Expr)(R:It->Hp->Prop)(g:Value)(c:Shared):Prop:=
 ∃(d:Addr) (e:List Addr) (f:Nat->Heap->Prop) (J:It) (a:Hp),g=.ref d/\Inv X pins σ a c/\Turn X.prog X.w X.K tg J e d f/\f 0 c.heap/\(∀b∈e,oW X pins a b)/\R J a
structure PI(X:Cx)(tg iter:Expr)(wi:TI):Prop where
 out:
  ∀(pins:List (Addr×Obj)) (s:Shared) (σ:St) (H:Hp) (R:It->Hp->Prop),Inv X pins σ H s->wi σ H R->
   wpAny (model X.prog X.w) X.A (eval iter X.env) (λv s1=>wpAny (model X.prog X.w) X.A (pyIter v) (Z8 X pins σ tg R) X.xe s1) X.xe s
instance {X:Cx}{tg a:Expr}{b:TI}:CoeFun (PI X tg a b) λ_=>
 ∀(pins:List (Addr×Obj)) (s:Shared) (σ:St) (H:Hp) (R:It->Hp->Prop),Inv X pins σ H s->b σ H R->
  wpAny (model X.prog X.w) X.A (eval a X.env) (λv b=>wpAny (model X.prog X.w) X.A (pyIter v) (Z8 X pins σ tg R) X.xe b) X.xe s:=⟨PI.out⟩
theorem Ft{M:Model}{A:Around}{E:Value->Shared->Prop}{s:Shared}{tg:Expr}{b:Addr}{u:Value}{o:Obj}{n:String}{vs:Array Value}{Q:Unit->Shared->Prop}(c:s.heap.get? b=some o)(d:o.cls=.type n)(e:o.data=.fields vs)
    (f:["enumerate","zip","dict_itemiterator","dict_reverseitemiterator","odict_iterator","itertools.zip_longest","itertools.pairwise"].contains n=false) (a:Q ⟨⟩ s):wpAny M A (letOwnedTupleGo tg (.ref b) u) Q E s:=by
  unfold letOwnedTupleGo
  cases tg<;>first
    |calc P' a
    | (cases u <;> first
        |calc P' a
        | (refine j' (wpAny_load c ?_)
           rw[d,e];show wpAny M A (if (["enumerate","zip","dict_itemiterator","dict_reverseitemiterator","odict_iterator","itertools.zip_longest","itertools.pairwise"].contains n && vs[0]? == some (rawInt _))=true then _ else _) Q E s;rw[if_neg (by intro h;rw[f,Bool.false_and] at h;cases h)];exact P' a))
def xN(K:W.Frag)(a:Addr):It:=
 ⟨λi H=>∃xs x,aS K H a xs/\xs[i]?=some x,λi H x b=>b=H/\∀xs,aS K H a xs->xs[i]?=some x,λi H=>∃xs,aS K H a xs/\xs.length<=i⟩
def Ua(K:W.Frag)(a:Addr):It:=
 ⟨λi H=>∃xs x,bH K H a xs/\xs[i]?=some x,λi H x b=>b=H/\∀xs,bH K H a xs->xs[i]?=some x,λi H=>∃xs,bH K H a xs/\xs.length<=i⟩
def Dg(lo:Int)(n:Nat):It:=⟨λi _=>i<n,λi H x a=>a=H/\x=.int (lo+i),λi _=>n<=i⟩
theorem Dh{P:Program}{w:World}(a g:Addr):Turn P w K tg (xN K a) [g] g (λi h=>h.IsListIter g a i) where
 mem:=by simp
 obj:=λi h f b j=>by
  have e:b=g:=by simpa using j
  subst e;obtain⟨o,e,c,d⟩:=f;exact⟨o,e,λv z=>by rw[d]at z;cases z⟩
 keep:=λi h l f k=>f.at λo e=>k g nofun o e
 item:=by
  intro X q r t L i pins s σ H E I m f y;subst q r t;obtain⟨M,x,n,A⟩:=y;obtain⟨N,B,p,O⟩:=I.list n;obtain⟨u,k,v⟩:=B.get A;obtain⟨C,D,Q,F,G,J⟩:=m g nofun;calc wpAny_pyNext_list_item f p.isList (x:=u) (by simpa using k) λl a w=>?_;have k:Inv X pins σ H {s with heap:=l}:=I.turned (t':=s.toks) (λb o j e=>(w.2 b j).trans e) C D F G J;obtain⟨o,e,c,d⟩:=id a;exact⟨u,rfl,Ft (s:={s with heap:=l}) e c d ∅ ⟨x,H,k,v,⟨rfl,λw u=>by rw[I.xK u n];calc A⟩,a,λb j=>(m b j).1⟩⟩
 done:=by
  intro X q r t L i pins s σ H E I m f y;subst q r t;obtain⟨M,n,A⟩:=y;obtain⟨N,B,p,O⟩:=I.list n;obtain⟨C,D,Q,F,G,J⟩:=m g nofun;have a:=B.length;exact wpAny_pyNext_list_end (I.ok.hd L) f p.isList (by simp;lia) λl a=>⟨rfl,I.turned (t':=s.toks) (λb o j e=>a b o j e) C D F G J⟩
 self:=λ_ _ _ _ _ f h=>wpAny_pyIter_listiter f h
theorem zL{P:Program}{w:World}(a g:Addr):Turn P w K tg (Ua K a) [g] g (λi h=>h.IsTupleIter g a i) where
 mem:=by simp
 obj:=λi h f b j=>by
  have e:b=g:=by simpa using j
  subst e;obtain⟨o,e,c,d⟩:=f;exact⟨o,e,λv z=>by rw[d]at z;cases z⟩
 keep:=λi h l f k=>f.at λo e=>k g nofun o e
 item:=by
  intro X q r t M i pins s σ H E I m f y;subst q r t;obtain⟨N,x,n,A⟩:=y;obtain⟨B,C,p,O⟩:=I.tuple n;obtain⟨u,v,w⟩:=C.get A;obtain⟨D,F,Q,G,J,L⟩:=m g nofun;calc wpAny_pyNext_tuple_item f (show s.heap.IsTuple a B.toArray from p) (x:=u) (by simpa using v) λl k z=>?_;have v:Inv X pins σ H {s with heap:=l}:=I.turned (t':=s.toks) (λb o j e=>(z.2 b j).trans e) D F G J L;obtain⟨o,e,c,d⟩:=id k;exact⟨u,rfl,Ft (s:={s with heap:=l}) e c d ∅ ⟨x,H,v,w,⟨rfl,λz u=>by rw[I.uE u n];calc A⟩,k,λb j=>(m b j).1⟩⟩
 done:=by
  intro X q r t M i pins s σ H E I m f y;subst q r t;obtain⟨N,n,A⟩:=y;obtain⟨B,C,p,O⟩:=I.tuple n;obtain⟨D,F,Q,G,J,L⟩:=m g nofun;have c:=C.length;exact wpAny_pyNext_tuple_end (I.ok.hd M) f (show s.heap.IsTuple a B.toArray from p) (by simp;lia) λl c=>⟨rfl,I.turned (t':=s.toks) (λb o j e=>c b o j e) D F G J L⟩
 self:=λ_ _ _ _ _ f h=>wpAny_pyIter_tupleiter f h
theorem zM{P:Program}{w:World}(c:Addr)(lo:Int)(n:Nat):Turn P w K tg (Dg lo n) [c] c (λi h=>IsRangeIter h c (lo+(i:Nat)*1) ((n:Int)-(i:Nat)) 1) where
 mem:=by simp
 obj:=λi h a b d=>by
  have e:b=c:=by simpa using d
  subst e;exact⟨_,a,λv z=>by
   have k:Data.fields _=Data.cell v:=z
   cases k⟩
 keep:=λi h f a k=>k c nofun _ a
 item:=by
  intro X j l m p i pins s σ H E I g a q;subst j l m;obtain⟨r,u,D,x,y,A⟩:=g c nofun;have W:=Walks.range (prog:=X.prog) (w:=X.w) (I.ok.hd p) c lo 1 n;calc W.item i s _ _ q a λv f B F C G=>?_;obtain⟨t,rfl⟩:=F;have k:Inv X pins σ H {s with heap:=f,toks:=B}:=I.turned (λb o d e=>G b o (by simpa using d) e) r u x y A;calc⟨_,rfl,Ft (s:={s with heap:=f,toks:=B}) (n:="range_iterator") C rfl rfl ∅ ⟨.int (lo+i),H,k,⟨t,?_⟩,⟨rfl,rfl⟩,C,λb d=>(g b d).1⟩⟩;rw[Int.mul_one]
 done:=by
  intro X j l m p i pins s σ H E I g a q;subst j l m;obtain⟨r,u,D,x,y,A⟩:=g c nofun;exact wpAny_pyNext_range_end (I.ok.hd p) a (by have:n<=i:=q;lia) λf c=>⟨rfl,I.turned (t':=s.toks) (λb o d e=>c b o d e) r u x y A⟩
 self:=λ_ _ _ _ _ a h=>wpAny_pyIter_rangeiter a h
end
section
variable {H:Hp}{pins:List (Addr×Obj)}{s:Shared}{σ:St}{g:TG}{tb:TS}
section
variable {X:Cx}{tg:Expr}
theorem Fv{R:It->Hp->Prop}{E:Value->Shared->Prop}{lo hi:Int}{t u v:Tok}{a:Nat}(I:Inv X pins σ H s)(d:-(2^62)<=lo)(f:lo<2^62)(g:-(2^62)<=hi)(h:hi<2^62)
  (q:R (Dg lo (hi-lo).toNat) H):wpAny (model X.prog X.w) X.A (pyIter (.ref s.heap.objs.size)) (Z8 X pins σ tg R) E {s with heap:=s.heap.push {cls:=.type "range",data:=.fields #[.int lo t,.int hi u,.int 1 v]},toks:=a}:=by
 refine wpAny_pyIter_range (IsRange.new ..) (small_one d f g h) ?_;have c:Inv X pins σ H {s with heap:=s.heap.push {cls:=.type "range",data:=.fields #[.int lo t,.int hi u,.int 1 v]},toks:=a}:=I.kept λb o e=>J' _ e;refine⟨(s.heap.push {cls:=.type "range",data:=.fields #[.int lo t,.int hi u,.int 1 v]}).objs.size,[(s.heap.push {cls:=.type "range",data:=.fields #[.int lo t,.int hi u,.int 1 v]}).objs.size],_,_,H,rfl,
  c.kept (t':=a) λb o e=>J' _ e,zM _ lo (hi - lo).toNat,?_,λb i=>?_,q⟩
 ·have j:lo + ((0:Nat):Int) * 1=lo:=by simp
  have k:(((hi-lo).toNat:Nat):Int)-((0:Nat):Int)=Builtin.Range.rangeSize lo hi 1:=by rw[rangeSize_one];split<;>lia
  show IsRangeIter _ _ (lo+((0:Nat):Int)*1) ((((hi-lo).toNat:Nat):Int)-((0:Nat):Int)) 1;rw[j,k];exact V' _ rfl
 ·have e:b=(s.heap.push {cls:=.type "range",data:=.fields #[.int lo t,.int hi u,.int 1 v]}).objs.size:=by simpa using i
  subst e;calc c.Fs (K' _) (c.aU.fresh (K' _))
def Fw(a:TA):TI:=λσ H R=>a σ H λvs b=>∃j:Int,vs=[.int j]/\-(2^62)<=j/\j<2^62/\R (Dg 0 j.toNat) b
theorem du{a:Expr}{d:TA}{p b:Pos}(f:Gl X "range")(g:X.mg "range"=none)(i:PA X [a] d)(j:starEach [a] X.env=[(false,eval a X.env)]:=by rfl):PI X tg (.Call (.Name "range" p) [a] [] b) (Fw d):=by
 calc⟨?_⟩;intro pins s σ H R I h;calc Call_ (oV I f g boot_range (PyProof.Rows.callWith_type1 (cD (i b pins s σ H _ I h) λd o a=>?_) j rfl));obtain⟨b,d,k,l,c⟩:=a;obtain⟨j,e,c,m,q⟩:=c;subst e
 cases l with
 |cons r n=>
  cases n;obtain⟨t,rfl⟩:=r;calc call_range_1 (Fv k () () c m (by simpa using q))
def O1(a:TI)(g:TG)(tb:TS):TS:=λD σ H=>a σ H λJ b=>∃W:Nat->Nat->St->Hp->Prop,(∃m,W 0 m σ b)/\∀i m σ H,W i m σ H->
 (J.stop i H/\D.nx σ H)\/(J.go i H/\∃N:St->Hp->Prop,(∀a b,N a b->∃d,d<m/\W (i+1) d a b)/\∀x b,J.MN i H x b->g x σ b λc e=>tb {D with nx:=N,ct:=N,bk:=D.nx} c e)
def oX(a:List Addr)(h:Heap):List (Addr×Obj):=a.filterMap λb=>(h.get? b).map λo=>(b,o)
theorem jN{a:List Addr}{h:Heap}{b:Addr}{o:Obj}(c:b∈a)(e:h.get? b=some o):(b,o)∈oX a h:=List.mem_filterMap.mpr ⟨b,c,by rw[e];rfl⟩
theorem Di{a:List Addr}{h:Heap}{p:Addr×Obj}(c:p∈oX a h):p.1∈a/\h.get? p.1=some p.2:=by
 obtain⟨b,d,e⟩:=List.mem_filterMap.mp c
 cases q:h.get? b with
 |none=>rw[q]at e;cases e
 |some o=>
  rw[q]at e;have f:(b,o)=p:=Option.some.inj e;subst f;calc⟨d,q⟩
theorem Inv.pinned{a:List Addr}(I:Inv X pins σ H s)(g:∀b∈a,oW X pins H b)(h:∀b∈a,∃o,s.heap.get? b=some o/\∀v,o.data≠.cell v):Inv X (pins++oX a s.heap) σ H s:=
 I.vO λp a=>(List.mem_append.mp a).elim (λz=>I.pin p (aab _ z)) λz=>by
  obtain⟨c,e⟩:=Di z;obtain⟨i,j,k,_⟩:=g p.1 c;obtain⟨o,f,d⟩:=h p.1 c;rw[e]at f;cases f;calc⟨e,i,j,k,d⟩
theorem Inv.kD{pl:List (Addr×Obj)}(I:Inv X (pins++pl) σ H s):Inv X pins σ H s:=I.vO λp a=>I.pin p (aab _ (List.mem_append_left _ a))
theorem eZ{c:Expr}{m:List Stmt}{M:TI}{J:Pos}(z:PassesOwn (model X.prog X.w) X.A X.env X.xe)(O:X.calm=true)(hi:PI X tg c M)(Z:PG X tg g)(j:qr X m tb)
  (hs:∀x,foldedSetIterable c X.env x=pure x:=by intro _;rfl):PS X (.For tg c m [] J) (O1 M g tb):=by
 walk_at "xd";refine wpAny_For (cD (hi pins s σ H _ I h) λv m c=>cD c λm J h2=>?_) hs;obtain⟨c,B,P,J,H2,e,I2,T,Bs,Q,W,⟨m0,w0⟩,C⟩:=h2;subst e;have K:∀{o:Hp},(∀b∈B,o b=none)->∀b∈B,oW X pins o b:=λc b j=>⟨c b j,(Q b j).2⟩
 calc codeAny_forLoop_any (λn c=>∃i d o,Inv X pins d o c/\P i c.heap/\(∀b∈B,o b=none)/\W i n d o) ?_ m0 ⟨0,σ,H2,I2,Bs,λb j=>(Q b j).1,w0⟩;rintro n R ⟨i,k,G,S,U,Y,w3⟩;rcases C i n k G w3 with⟨c,qn⟩|⟨go,N,hN,E⟩
 ·calc wpAny_passesOwn z (cD (T.done X rfl rfl rfl O i pins R k G X.xe S (K Y) U c) λr s4 y=>?_);obtain⟨L,I4⟩:=y;subst L;exact wpAny_execs_nil ⟨k,G,I4,qn⟩
 ·calc wpAny_passesOwn z (cD (T.item X rfl rfl rfl O i pins R k G X.xe S (K Y) U go) λr s4 y=>?_);obtain⟨u,L,h4⟩:=y;subst L;calc wpAny_passesOwn z (cD h4 λ_ C y=>?_);obtain⟨x,r,G,J,L,c,M⟩:=y;have m:=G.pinned (K M) (T.obj _ _ c);calc wpAny_passesOwn z (cD (Z _ C k r x u _ m J (E x r L)) λ_ O y=>?_);obtain⟨k,m,u,x⟩:=y;calc wpAny_passesOwn z (cD (j _ O k m _ u x) λf r t=>?_);have l:∀{a:St} {p:Hp},Inv X (pins++oX B C.heap) a p r->N a p->∃m,m<n/\∃i d o,Inv X pins d o r/\P i r.heap/\(∀b∈B,o b=none)/\W i m d o:=λ{a p} q F=>by
   obtain⟨d,k,m⟩:=hN a p F;calc⟨d,k,i+1,a,p,q.kD,T.keep _ _ _ c λb j o e=>(q.pin (b,o) (aab _ (aab _ (jN j e)))).1,λb j=>?_,m⟩;obtain⟨o,e,d⟩:=T.obj _ _ c b j;exact(q.pin (b,o) (aab _ (aab _ (jN j e)))).2.1
  cases f with
  |next=>obtain⟨a,p,q,F⟩:=t;calc l q F
  |cont=>obtain⟨a,p,q,F⟩:=t;calc l q F
  |brk=>obtain⟨a,p,q,t⟩:=t;calc⟨a,p,q.kD,t⟩
  |ret v=>obtain⟨b,a,p,q,c,t⟩:=t;calc⟨b,a,p,q.kD,c,t⟩
end
theorem jy{K:W.Frag}{a:Addr}{xs:List V}{D:Ends}(b:Nat->St->Hp->Prop)(k:b 0 σ H)(l:∀i σ H,i<=xs.length->b i σ H->aS K H a xs)
  (n:∀i x σ H,xs[i]?=some x->b i σ H->g x σ H λc h=>tb {D with nx:=b (i+1),ct:=b (i+1),bk:=D.nx} c h) (o:∀σ H,b xs.length σ H->D.nx σ H):
  ∃W:Nat->Nat->St->Hp->Prop,(∃m,W 0 m σ H)/\∀i m σ H,W i m σ H->
   ((xN K a).stop i H/\D.nx σ H)\/((xN K a).go i H/\∃N:St->Hp->Prop,(∀d f,N d f->∃j,j<m/\W (i+1) j d f)/\∀x f,(xN K a).MN i H x f->g x σ f λc h=>tb {D with nx:=N,ct:=N,bk:=D.nx} c h):=by
 calc⟨λi m σ H=>m=xs.length-i/\i<=xs.length/\b i σ H,⟨xs.length,nofun,aaa _,k⟩,?_⟩;rintro i m σ H ⟨rfl,c,p⟩;have q:=l i σ H c p;by_cases a:i<xs.length
 ·calc .inr ⟨⟨xs,xs[i],q,by simp[a]⟩,b (i+1),λd f c=>⟨xs.length-(i+1),(),rfl,a,c⟩,λx f y=>?_⟩;obtain⟨e,y⟩:=y;subst e;exact n i x σ _ (y xs q) p
 ·have e:i=xs.length:=by lia
  subst e;calc .inl ⟨⟨xs,q,K' _⟩,o σ H p⟩
theorem jz{lo:Int}{n:Nat}{D:Ends}(a:Nat->St->Hp->Prop)(k:a 0 σ H)
  (l:∀i σ H,i<n->a i σ H->g (.int (lo+i)) σ H λb f=>tb {D with nx:=a (i+1),ct:=a (i+1),bk:=D.nx} b f) (o:∀σ H,a n σ H->D.nx σ H):
  ∃W:Nat->Nat->St->Hp->Prop,(∃m,W 0 m σ H)/\∀i m σ H,W i m σ H->
   ((Dg lo n).stop i H/\D.nx σ H)\/((Dg lo n).go i H/\∃N:St->Hp->Prop,(∀c d,N c d->∃j,j<m/\W (i+1) j c d)/\∀x d,(Dg lo n).MN i H x d->g x σ d λb f=>tb {D with nx:=N,ct:=N,bk:=D.nx} b f):=by
 calc⟨λi m σ H=>m=n-i/\i<=n/\a i σ H,⟨n,nofun,aaa _,k⟩,?_⟩;rintro i m σ H ⟨rfl,b,p⟩;by_cases h:i<n
 ·calc .inr ⟨h,a (i+1),λc d b=>⟨n-(i+1),(),rfl,h,b⟩,λx d y=>?_⟩;obtain⟨e,y⟩:=y;subst e y;exact l i σ _ h p
 ·have e:i=n:=by lia
  subst e;calc .inl ⟨K' _,o σ H p⟩
end
section
variable {op:CmpOp}{g:Int->Int->Int}{r:R2}
abbrev R2:=V->V->Hp->VK->Prop
def fJ(X:Cx)(f:Value->Value->Sem Value)(r:R2):Prop:=
 ∀(pins:List (Addr×Obj)) (s:Shared) (σ:St) (H:Hp) (x y:V) (v u:Value) (Q:VK),Inv X pins σ H s->RelV x v->RelV y u->r x y H Q->
  wpAny (model X.prog X.w) X.A (f v u) (EP X pins σ Q) X.xe s
def UnR(X:Cx)(f:Value->Sem Value)(r:V->Hp->VK->Prop):Prop:=
 ∀(pins:List (Addr×Obj)) (s:Shared) (σ:St) (H:Hp) (x:V) (v:Value) (Q:VK),Inv X pins σ H s->RelV x v->r x H Q->
  wpAny (model X.prog X.w) X.A (f v) (EP X pins σ Q) X.xe s
def eR(X:Cx)(f:Value)(r:List V->Hp->VK->Prop):Prop:=
 ∀(pins:List (Addr×Obj)) (s:Shared) (σ:St) (H:Hp) (xs:List V) (us:List Value) (Q:VK),Inv X pins σ H s->Vals xs us->r xs H Q->
  wpAny (model X.prog X.w) X.A (call f us) (EP X pins σ Q) X.xe s
def Fx(r:R2)(a b:TE):TE:=λσ H Q=>a σ H λx c=>b σ c λy a=>r x y a Q
def tUn(r:V->Hp->VK->Prop)(a:TE):TE:=λσ H Q=>a σ H λx b=>r x b Q
def rI(C:Int->Int->Prop)(g:Int->Int->V):R2:=λx y H Q=>∃i j,x=.int i/\y=.int j/\C i j/\Q (g i j) H
def Kr(g:Int->Int->V):R2:=λx y H Q=>∃i j,x=.int i/\y=.int j/\Q (g i j) H
def rU(g:Int->V):V->Hp->VK->Prop:=λx H Q=>∃i,x=.int i/\Q (g i) H
section
variable {X:Cx}{a b c:Expr}{ta tb tc:TE}{pos:Pos}
theorem O2(j:PE X a ta)(k:PE X b tb){pins:List (Addr×Obj)}{s:Shared}{σ:St}{H:Hp}{R:V->V->Hp->Prop}(I:Inv X pins σ H s)
  (h:ta σ H λx i=>tb σ i λy c=>R x y c) {Q:Value->Shared->Prop} {f:Value->Value->Sem Value}
  (l:∀v u g x y c,Inv X pins σ c g->RelV x v->RelV y u->R x y c->wpAny (model X.prog X.w) X.A (f v u) Q X.xe g):
  wpAny (model X.prog X.w) X.A (eval a X.env) (λv d=>wpAny (model X.prog X.w) X.A (eval b X.env) (λu e=>wpAny (model X.prog X.w) X.A (f v u) Q X.xe e) X.xe d) X.xe s:=by
 calc cD (j pins s σ H _ I h) λv e d=>?_;obtain⟨x,i,f,h,j⟩:=d;calc cD (k pins e σ i _ f j) λu g d=>?_;obtain⟨y,c,e,f,i⟩:=d;calc l v u g x y c e h f i
theorem aT{op:Operator}(c:fJ X (binaryOp op) r)(d:PE X a ta)(e:PE X b tb):PE X (.BinOp a op b pos) (Fx r ta tb):=by
 walk_at "xc";exact wpAny_BinOp (O2 d e I h λv u f x y g i j k q=>c pins f σ g x y v u Q i j k q)
theorem jA{op:UnaryOp}{r:V->Hp->VK->Prop}(b:UnR X (unaryOp op) r)(c:PE X a ta):PE X (.UnaryOp op a pos) (tUn r ta):=by
 walk_at "xc";exact UnaryOp_ (cD (c pins s σ H _ I h) λv d ⟨x,e,f,g,i⟩=>b pins d σ e x v Q f g i)
theorem YI{f:Value->Value->Sem Value}{C:Int->Int->Prop}
  (a:∀(i j:Int) (t u:Tok) (s:Shared) (Q:Value->Shared->Prop) (E:Value->Shared->Prop),C i j->Q (.int (g i j) s.toks) {s with toks:=s.toks+1}->wpAny (model X.prog X.w) X.A (f (.int i t) (.int j u)) Q E s):
  fJ X f (rI C λi j=>.int (g i j)):=by
 intro b s σ H x y v u Q I c d h;obtain⟨i,j,rfl,rfl,e,q⟩:=h;obtain⟨t,rfl⟩:=c;obtain⟨k,rfl⟩:=d;calc a i j t k s _ _ e ⟨.int (g i j),H,I.tok _,⟨_,rfl⟩,q⟩
theorem Uc{f:Value->Value->Sem Value}
  (a:∀(i j:Int) (t u:Tok) (s:Shared) (Q:Value->Shared->Prop) (E:Value->Shared->Prop),Q (.int (g i j) s.toks) {s with toks:=s.toks+1}->wpAny (model X.prog X.w) X.A (f (.int i t) (.int j u)) Q E s):
  fJ X f (Kr λi j=>.int (g i j)):=by
 intro b s σ H x y v u Q I c d h;obtain⟨i,j,rfl,rfl,q⟩:=h;obtain⟨t,rfl⟩:=c;obtain⟨e,rfl⟩:=d;calc a i j t e s _ _ ⟨.int (g i j),H,I.tok _,⟨_,rfl⟩,q⟩
theorem Ks{f:Value->Value->Sem Value}{g:Int->Int->Bool}
  (a:∀(i j:Int) (t u:Tok) (s:Shared) (Q:Value->Shared->Prop) (E:Value->Shared->Prop),Q (.bool (g i j)) s->wpAny (model X.prog X.w) X.A (f (.int i t) (.int j u)) Q E s):
  fJ X f (Kr λi j=>.bl (g i j)):=by
 intro b s σ H x y v u Q I c d h;obtain⟨i,j,rfl,rfl,q⟩:=h;obtain⟨t,rfl⟩:=c;obtain⟨e,rfl⟩:=d;calc a i j t e s _ _ ⟨.bl (g i j),H,I,rfl,q⟩
def Kt(i j:Int):Prop:=0<=j/\j<=1000000/\i.natAbs<2^64
def Fy(i j:Int):Prop:=(-(2^64)<i/\i<2^64)\/(-(2^64)<j/\j<2^64)
theorem Fy.ok{i j:Int}(h:Fy i j):IntMulOk i j:=by
 rcases h with⟨a,b⟩|⟨a,b⟩
 ·exact .of_left (intBits_le_64 a b)
 ·calc .of_right (intBits_le_64 a b)
theorem O3:fJ X (binaryOp .Add) (Kr λi j=>.int (i+j)):=Uc λ_ _ _ _ _ _ _ q=>add_int q
theorem O4:fJ X (binaryOp .Sub) (Kr λi j=>.int (i-j)):=Uc λ_ _ _ _ _ _ _ q=>sub_int q
theorem O5:fJ X (binaryOp .Mult) (rI Fy λi j=>.int (i*j)):=YI λ_ _ _ _ _ _ _ a q=>mul_int q a.ok
theorem O6:fJ X (binaryOp .Mod) (rI (λ_ j=>0<j) λi j=>.int (i%j)):=YI λi j _ _ _ _ _ a q=>by
 have b:(0:Int)<j:=a;calc mod_int' () (by rw[Int.fmod_eq_emod_of_nonneg i ()];calc q)
theorem O7:fJ X (binaryOp .Pow) (rI Kt λi j=>.int (i^j.toNat)):=YI λ_ _ _ _ _ _ _ a q=>pow_int_small a.1 a.2.1 a.2.2 q
theorem unI{f:Value->Sem Value}{g:Int->Int}
  (a:∀(i:Int) (t:Tok) (s:Shared) (Q:Value->Shared->Prop) (E:Value->Shared->Prop),Q (.int (g i) s.toks) {s with toks:=s.toks+1}->wpAny (model X.prog X.w) X.A (f (.int i t)) Q E s):
  UnR X f (rU λi=>.int (g i)):=by
 intro b s σ H x v Q I c h;obtain⟨i,rfl,q⟩:=h;obtain⟨t,rfl⟩:=c;calc a i t s _ _ ⟨.int (g i),H,I.tok _,⟨_,rfl⟩,q⟩
theorem gj:UnR X (unaryOp .USub) (rU λi=>.int (-i)):=unI λ_ _ _ _ _ q=>neg_int q
end
def Ku:V->V->Bool
 | .bx,.bx=>true | .bx,.int _=>true | .int _,.bx=>true | .bx,.bl _=>true | .bl _,.bx=>true | .bx,.str _=>true | .str _,.bx=>true
 | .int _,.int _=>true | .bl _,.bl _=>true | .str _,.str _=>true | .Bo _,.Bo _=>true
 | .int _,.str _=>true | .str _,.int _=>true | .bl _,.str _=>true | .str _,.bl _=>true
 |_,_=>false
def rEq:R2:=λx y H Q=>Ku x y=true/\Q (.bl (decide (x=y))) H
def rNe:R2:=λx y H Q=>Ku x y=true/\Q (.bl (!decide (x=y))) H
theorem Bt{i j:Int}:decide (V.int i=V.int j)=(i==j):=by
 rw[Bool.eq_iff_iff];simp
theorem FA{i j:Bool}:decide (V.bl i=V.bl j)=(i==j):=by
 rw[Bool.eq_iff_iff];simp
theorem Bu{i j:Str}:decide (V.str i=V.str j)=(i==j):=by
 rw[Bool.eq_iff_iff];simp
theorem Bv{i j:Array UInt8}:decide (V.Bo i=V.Bo j)=(i.toList==j.toList):=by
 rw[Bool.eq_iff_iff]
 cases i
 cases j;simp
section
variable {X:Cx}{a b c:Expr}{ta tb tc:TE}{pos:Pos}
theorem bT{pins:List (Addr×Obj)}{σ:St}{H:Hp}{s:Shared}{Q:VK}{k a:Bool}(I:Inv X pins σ H s)(q:Q (.bl k) H)(e:k=a):EP X pins σ Q (.bool a) s:=by
 subst e;calc⟨.bl k,H,I,rfl,q⟩
theorem Ud:fJ X (compareOp .Eq) rEq:=by
 intro e s σ H x y v u Q I d a h;obtain⟨c,q⟩:=h
 cases x with
 |bx=>
  cases d
  cases y with
  |bx=>cases a;calc PySem.EqNone.eq_none_none (bT I q nofun)
  |bl j=>cases a;calc PySem.EqNone.eq_none_bool (bT I q nofun)
  |int j=>obtain⟨b,rfl⟩:=a;calc PySem.EqNone.eq_none_int (bT I q nofun)
  |str j=>obtain⟨b,rfl⟩:=a;calc PySem.EqNone.eq_none_str (bT I q nofun)
  |_=>calc absurd (show false=true from c) U'
 |bl i=>
  cases d
  cases y with
  |bx=>cases a;calc PySem.EqNone.eq_bool_none (bT I q nofun)
  |bl j=>cases a;calc eq_bool (bT I q FA)
  |str j=>obtain⟨b,rfl⟩:=a;calc PySem.EqMixed.eq_bool_str (bT I q nofun)
  |_=>calc absurd (show false=true from c) U'
 |int i=>
  obtain⟨t,rfl⟩:=d
  cases y with
  |bx=>cases a;calc PySem.EqNone.eq_int_none (bT I q nofun)
  |int j=>obtain⟨b,rfl⟩:=a;calc eq_int (bT I q Bt)
  |str j=>obtain⟨b,rfl⟩:=a;calc PySem.EqMixed.eq_int_str (bT I q nofun)
  |_=>calc absurd (show false=true from c) U'
 |str i=>
  obtain⟨t,rfl⟩:=d
  cases y with
  |bx=>cases a;calc PySem.EqNone.eq_str_none (bT I q nofun)
  |bl j=>cases a;calc PySem.EqMixed.eq_str_bool (bT I q nofun)
  |int j=>obtain⟨b,rfl⟩:=a;calc PySem.EqMixed.eq_str_int (bT I q nofun)
  |str j=>obtain⟨b,rfl⟩:=a;calc eq_str (bT I q Bu)
  |_=>calc absurd (show false=true from c) U'
 |Bo i=>
  obtain⟨t,rfl⟩:=d
  cases y with
  |Bo j=>obtain⟨b,rfl⟩:=a;calc W.eq_bytes (bT I q Bv)
  |_=>calc absurd (show false=true from c) U'
 |_=>cases y<;>calc absurd (show false=true from c) U'
theorem Ue:fJ X (compareOp .NotEq) rNe:=by
 intro e s σ H x y v u Q I d a h;obtain⟨c,q⟩:=h
 cases x with
 |bx=>
  cases d
  cases y with
  |bx=>cases a;calc PySem.EqNone.ne_none_none (bT I q nofun)
  |bl j=>cases a;calc PySem.EqNone.ne_none_bool (bT I q nofun)
  |int j=>obtain⟨b,rfl⟩:=a;calc PySem.EqNone.ne_none_int (bT I q nofun)
  |str j=>obtain⟨b,rfl⟩:=a;calc PySem.EqNone.ne_none_str (bT I q nofun)
  |_=>calc absurd (show false=true from c) U'
 |bl i=>
  cases d
  cases y with
  |bx=>cases a;calc PySem.EqNone.ne_bool_none (bT I q nofun)
  |bl j=>cases a;calc ne_bool (bT I q (congrArg not FA))
  |str j=>obtain⟨b,rfl⟩:=a;calc PySem.EqMixed.ne_bool_str (bT I q nofun)
  |_=>calc absurd (show false=true from c) U'
 |int i=>
  obtain⟨t,rfl⟩:=d
  cases y with
  |bx=>cases a;calc PySem.EqNone.ne_int_none (bT I q nofun)
  |int j=>obtain⟨b,rfl⟩:=a;calc ne_int (bT I q (congrArg not Bt))
  |str j=>obtain⟨b,rfl⟩:=a;calc PySem.EqMixed.ne_int_str (bT I q nofun)
  |_=>calc absurd (show false=true from c) U'
 |str i=>
  obtain⟨t,rfl⟩:=d
  cases y with
  |bx=>cases a;calc PySem.EqNone.ne_str_none (bT I q nofun)
  |bl j=>cases a;calc PySem.EqMixed.ne_str_bool (bT I q nofun)
  |int j=>obtain⟨b,rfl⟩:=a;calc PySem.EqMixed.ne_str_int (bT I q nofun)
  |str j=>obtain⟨b,rfl⟩:=a;calc ne_str (bT I q (congrArg not Bu))
  |_=>calc absurd (show false=true from c) U'
 |Bo i=>
  obtain⟨t,rfl⟩:=d
  cases y with
  |Bo j=>obtain⟨b,rfl⟩:=a;calc W.ne_bytes (bT I q (congrArg not Bv))
  |_=>calc absurd (show false=true from c) U'
 |_=>cases y<;>calc absurd (show false=true from c) U'
theorem Ug:fJ X (compareOp .Lt) (Kr λi j=>.bl (decide (i<j))):=Ks λ_ _ _ _ _ _ _ q=>lt_int q
theorem Uh:fJ X (compareOp .LtE) (Kr λi j=>.bl (decide (i<=j))):=Ks λ_ _ _ _ _ _ _ q=>le_int q
theorem Ui:fJ X (compareOp .Gt) (Kr λi j=>.bl (decide (j<i))):=Ks λ_ _ _ _ _ _ _ q=>gt_int q
theorem Uj:fJ X (compareOp .GtE) (Kr λi j=>.bl (decide (j<=i))):=Ks λ_ _ _ _ _ _ _ q=>ge_int q
theorem O8:fJ X (compareOp .Is) (λx y H Q=>y=.bx/\Q (.bl (decide (x=.bx))) H):=by
 intro a s σ H x y v u Q I b c h;obtain⟨rfl,q⟩:=h
 cases c;refine is_none_gen (bT I q ?_)
 cases x<;>first
  |(cases b;rfl)
  |(obtain⟨t,rfl⟩:=b;rfl)
theorem Kv:fJ X (compareOp .IsNot) (λx y H Q=>y=.bx/\Q (.bl (!decide (x=.bx))) H):=by
 intro a s σ H x y v u Q I b c h;obtain⟨rfl,q⟩:=h
 cases c;refine isnot_none_gen (bT I q ?_)
 cases x<;>first
  |(cases b;rfl)
  |(obtain⟨t,rfl⟩:=b;rfl)
theorem aH(b:Expr){op:CmpOp}(h:op≠.In:=by decide)(a:op≠.NotIn:=by decide):behindInMarks op b=false:=by
 have c:(op==CmpOp.In)=false:=by cases op<;>first|rfl|exact absurd rfl h
 have d:(op==CmpOp.NotIn)=false:=by cases op<;>first|rfl|exact absurd rfl a
 cases b<;>simp[behindInMarks,c,d]
theorem jO(c:fJ X (compareOp op) r)(d:PE X a ta)(e:PE X b tb)(f:behindInMarks op b=false):PE X (.Compare a [op] [b] pos) (Fx r ta tb):=by
 walk_at "xc";exact wpAny_Compare1 (O2 d e I h λv u g x y i j k l q=>c pins g σ i x y v u Q j k l q) f
def xO(t:TE):TT:=λσ H Q=>t σ H λx a=>∃k,x=.bl k/\Q k a
theorem Bw(d:fJ X (compareOp op) r)(f:PE X a ta)(g:PE X b tb)(i:behindInMarks op b=false):PT X (.Compare a [op] [b] pos) (xO (Fx r ta tb)):=by
 walk_at "xc";refine wpAny_isTrue_Compare1 (cD (f pins s σ H _ I h) λv j ⟨x,k,l,m,n⟩=>cD (g pins j σ k _ l n) λu f ⟨y,o,p,q,t⟩=>
  cD (d pins f σ o x y v u _ p m q t) λc g ⟨z,w,A,B,k,e,C⟩=>?_) i
 subst e
 cases B;calc aaz ⟨w,A,C⟩
def vS(r b:R2)(ta tb tc:TE):TE:=λσ H Q=>ta σ H λx a=>tb σ a λy c=>r x y c λz a=>∃k,z=.bl k/\
 (if k=true then tc σ a λw' c=>b y w' c Q else Q (.bl false) a)
theorem xP{d:CmpOp}{f:R2}(m:fJ X (compareOp op) r)(n:fJ X (compareOp d) f)(o:PE X a ta)(p:PE X b tb)(q:PE X c tc)
  (t:lastMarks [op,d] [b,c]=false:=by with_unfolding_all rfl):PE X (.Compare a [op,d] [b,c] pos) (vS r f ta tb tc):=by
 walk_at "xc";refine Compare_chain (cD (o pins s σ H _ I h) λv d ⟨x,f,w,A,z⟩=>chain_link (cD (p pins d σ f _ w z) λu o ⟨y,B,C,g,D⟩=>
  cD (m pins o σ B x y v u _ C A g D) λd E ⟨z,i,j,F,k,e,l⟩=>?_)) t
 subst e
 cases F;refine aaz ?_
 cases k with
 |false=>calc ite_ff ⟨.bl false,i,j,rfl,l⟩
 |true=>calc ite_tt (chain_last (cD (q pins E σ i _ j l) λd e ⟨f,k,m,o,p⟩=>n pins e σ k y f u d Q m g o p))
theorem Uk{d:CmpOp}{f:R2}(m:fJ X (compareOp op) r)(n:fJ X (compareOp d) f)(o:PE X a ta)(p:PE X b tb)(q:PE X c tc)
  (t:lastMarks [op,d] [b,c]=false:=by with_unfolding_all rfl):PT X (.Compare a [op,d] [b,c] pos) (xO (vS r f ta tb tc)):=by
 walk_at "xc";refine isTrue_chain (cD (o pins s σ H _ I h) λv d ⟨x,f,w,A,z⟩=>test_link (cD (p pins d σ f _ w z) λu o ⟨y,B,C,g,D⟩=>
  cD (m pins o σ B x y v u _ C A g D) λd E ⟨z,i,j,F,k,e,l⟩=>?_)) t
 subst e
 cases F;refine aaz ?_
 cases k with
 |false=>
  obtain⟨d,G,J⟩:=l
  cases G;calc ite_ff ⟨i,j,J⟩
 |true=>
  calc ite_tt (test_last (cD (q pins E σ i _ j l) λd e ⟨f,k,m,o,p⟩=>cD (n pins e σ k y f u d _ m g o p) λi j K=>?_));obtain⟨d,L,M,N,e,O,P⟩:=K;subst O
  cases N;calc aaz ⟨L,M,P⟩
theorem rm:(sizeLine:Nat)<2^63:=by rw[sizeLine_eq];decide
theorem zO:fJ X (binaryOp .Add) (λx y H Q=>∃i j,x=.str i/\y=.str j/\i.length+j.length<=sizeLine/\Q (.str (i++j)) H):=by
 intro a s σ H x y v u Q I b c h;obtain⟨i,j,rfl,rfl,d,q⟩:=h;obtain⟨t,rfl⟩:=b;obtain⟨e,rfl⟩:=c;calc add_str (λe a=>⟨.str (i++j),H,I.tok _,⟨_,rfl⟩,q⟩) d
theorem vals1{x:V}{us:List Value}(r:Vals [x] us):∃u,us=[u]/\RelV x u:=by
 cases r with
 |cons a b=>cases b;calc⟨_,rfl,a⟩
theorem vals2{x y:V}{us:List Value}(r:Vals [x,y] us):∃u w',us=[u,w']/\RelV x u/\RelV y w':=by
 cases r with
 |cons a b=>
  cases b with
  |cons c d=>cases d;calc⟨_,_,rfl,a,c⟩
theorem Dj(b:X.calm=true):eR X (.builtin "max") (λxs H Q=>∃i j,xs=[.int i,.int j]/\Q (.int (if j > i then j else i)) H):=by
 intro a s σ H xs c Q I r h;obtain⟨i,j,rfl,q⟩:=h;obtain⟨u,d,rfl,⟨t,rfl⟩,⟨e,rfl⟩⟩:=vals2 r;refine max_two_ints (I.ok.hd b) λa c k=>⟨_,H,I.kept k,?_,q⟩
 by_cases a:j > i
 ·rw[if_pos a,if_pos a];exact⟨_,rfl⟩
 ·rw[if_neg a,if_neg a];calc⟨_,rfl⟩
theorem uF:eR X (.type "int") (λxs H Q=>(∃i,xs=[.int i]/\Q (.int i) H)\/∃k,xs=[.bl k]/\Q (.int (if k then 1 else 0)) H):=by
 intro a s σ H xs c Q I r h;rcases h with⟨i,rfl,q⟩|⟨k,rfl,q⟩
 ·obtain⟨u,rfl,t,rfl⟩:=vals1 r;exact call_int_int ⟨.int i,H,I,⟨_,rfl⟩,q⟩
 ·obtain⟨u,rfl,b⟩:=vals1 r
  cases b;calc call_int_bool ⟨.int (if k then 1 else 0),H,I.tok _,⟨_,rfl⟩,q⟩
def FC(K:W.Frag)(x:V)(H:Hp)(n:Nat):Prop:=
 match x with
 | .str y=>y.length<=sizeLine/\n=y.length
 | .Bo y=>y.size<=sizeLine/\n=y.size
 | .ref p=>(∃xs,aS K H p xs/\n=xs.length)\/∃xs,bH K H p xs/\n=xs.length
 |_=>False
theorem FE:eR X (.builtin "len") (λxs H Q=>∃x n,xs=[x]/\FC X.K x H n/\Q (.int n) H):=by
 intro i s σ H xs m Q I r h;obtain⟨x,n,rfl,e,q⟩:=h;obtain⟨u,rfl,c⟩:=vals1 r;have h:=rm;have h:sizeLine=16777216:=sizeLine_eq
 cases x with
 |str y=>
  obtain⟨t,rfl⟩:=c;obtain⟨j,b⟩:y.length<=sizeLine/\n=y.length:=e;subst b;calc len_str () ⟨.int _,H,I.tok _,⟨_,rfl⟩,q⟩
 |Bo y=>
  obtain⟨t,rfl⟩:=c;obtain⟨j,b⟩:y.size<=sizeLine/\n=y.size:=e;subst b;calc W.len_bytes () ⟨.int _,H,I.tok _,⟨_,rfl⟩,q⟩
 |ref p=>
  cases c;have b:(∃xs,aS X.K H p xs/\n=xs.length)\/∃xs,bH X.K H p xs/\n=xs.length:=e;rcases b with⟨xs,d,b⟩|⟨xs,d,b⟩
  ·subst b;obtain⟨k,f,g,l⟩:=I.list d;have a:=f.length;exact Calls.call_len_list g.isList (by simp only[List.size_toArray];lia) ⟨.int xs.length,H,I.tok _,⟨_,by simp only[List.size_toArray];rw[a]⟩,q⟩
  ·subst b;obtain⟨k,f,g,l⟩:=I.tuple d;have a:=f.length;calc len_tuple g (by simp only[List.size_toArray];lia) ⟨.int xs.length,H,I.tok _,⟨_,by simp only[List.size_toArray];rw[a]⟩,q⟩
 |_=>calc(show False from e).elim
end
end
section
variable {C:Addr}{mA:Str->Option Value}{Q:Value->Shared->Prop}
structure zP(h:Heap)(x dx C:Addr)(mA:Str->Option Value):Prop where
 obj:h.get? x=some (W.instObj C dx)
 ns:h.Ns1 dx mA
 ne:dx≠x
theorem uG{h:Heap}{c:Addr}(n:h.Ns1 c mA):∃od,h.get? c=some od/\∀name,W.lookIn name od=some (mA name):=by
 obtain⟨o,d,m,f,g,i,_,j⟩:=n;calc⟨o,f,λname=>?_⟩;have e:=j name;unfold nsFind findBy at e;rw[<-Array.find?_toList]at e;unfold W.lookIn;rw[g];dsimp only;split
 ·rename_i y q;rw[q]at e;exact congrArg some e
 ·rename_i q;rw[q]at e;have a:d.toList.any (·.refKey)=false:=by
   rw[List.any_eq_false];intro y k;obtain⟨z,t,b⟩:=i y (Array.mem_toList_iff.mp k);simp[DictEntry.refKey,b]
  have l:¬d.toList.any (·.refKey)=true:=by rw[a];exact U'
  rw[if_neg l];calc congrArg some e
theorem zP.look{h:Heap}{x a:Addr}(I:zP h x a C mA):∃od,W.InstAt h x (W.instObj C a) C (some od)/\∀name,W.lookIn name od=some (mA name):=
 let ⟨od,a,b⟩:=uG I.ns
 ⟨od,⟨I.obj,rfl,rfl,a⟩,b⟩
section
variable {prog:Program}{w:World}{A:Around}{E:Value->Shared->Prop}{s:Shared}{K:W.Frag}{x dx C f:Addr}{mA:Str->Option Value}{name:Str}{v:Value}
theorem get_map{a:Bool}(X:K.In s.heap)(I:zP s.heap x dx C mA)(c:W.plainGet K C name=true)(d:W.hasDictIn K C=true)
  (e:W.findIn K (.ref C) name=some none) (f:mA name=some v) (b:W.handedIn v=true) (h:Q v {s with toks:=s.toks+1}):
  wpAny (model prog w) A (getAttr (.ref x) name a) Q E s:=by
 obtain⟨g,J,a⟩:=I.look;calc W.get_value X J (W.plainGet_of c).1 (W.findObj_own d e rfl (by rw[a,f])) b h
theorem FG{pl:Sem Bool}{Q:Value×List Value->Shared->Prop}(X:K.In s.heap)(I:zP s.heap x dx C mA)(a:W.plainGet K C name=true)
  (b:W.findIn K (.ref C) name=some (some (.ref f))) (c:W.isFn K (.ref f)=true) (d:mA name=none) (h:Q (.ref f,[.ref x]) s):
  wpAny (model prog w) A (getMethod (.ref x) name pl) Q E s:=by
 obtain⟨e,J,g⟩:=I.look;calc W.method_fn X J (W.plainGet_of a).1 (W.plainGet_of a).2 b (beq_iff_eq.mp c) (by show(W.lookIn name e).map (·.isSome)=some false;rw[g,d];rfl) h
theorem Kw{ns:List Str}{Q:Unit->Shared->Prop}(X:K.In s.heap)(I:zP s.heap x dx C mA)
  (b:W.findIn K (.ref C) "__setattr__"=some (some (.builtin "object.__setattr__"))) (c:W.plainOver K C=true) (d:W.takerIn K C name=some none) (e:W.hasDictIn K C=true)
  (i:PySem.Within mA ns) (hsz:ns.length<=sizeLine)
  (h:∀h',zP h' x dx C (λy=>if y=name then some v else mA y)->Heap.SameBut dx s.heap h'->Q ⟨⟩ {s with heap:=h',toks:=s.toks+2}):
  wpAny (model prog w) A (setAttr (.ref x) name v) Q E s:=by
 obtain⟨g,J,j⟩:=I.look;calc W.set_plain X J b (W.osa_open (s:={s with toks:=s.toks+1}) (r:=none) X J c d λb=>?_);obtain⟨d,b,c⟩:=W.any_some e;have d:s.heap.get? x=some ⟨.ref C,some dx,.plain,#[]⟩:=I.obj;calc j' (P' (j' (j' (wpAny_loadPart d (j' (W.Looks.here (s:={s with toks:=s.toks+1}) (W.looks_clsIn X b) ?_))))));rw[c];calc P' (a:=some dx) (j' (P' (j' ?_)));calc wpAny_nsSet1 (s:={s with toks:=s.toks+1}) I.ns λh' e g=>?_;obtain⟨l,j,k,b,c,d⟩:=e.count (PySem.Within.cons name v i);calc j' (wpAny_lookBehind b (by rw[c];calc pastItsLine_dict (aae d (by rw[List.length_cons];lia))) ?_);calc P' (h _ ⟨(g.2 _ (Ne.symm I.ne)).trans I.obj,e,I.ne⟩ g)
theorem FH{R:Result->Shared->Prop}{vs:List Value}{a:List (Str×Value)}(X:K.In s.heap)(b:W.makesIn K C=true)
  (hi:W.findIn K (.ref C) "__init__"=some (some (.ref f))) (c:W.typeIn K (.ref f)=some (.type "function"))
  (h:codeAny (model prog w) (A.under (.builtin "type.__call__" ⟨.ref C::vs,a⟩)) (.call (.ref f) ⟨.ref (s.heap.objs.size + 1)::vs,a⟩) (W.InitBack (s.heap.objs.size + 1) R)
   {s with heap:=(s.heap.push W.emptyDict).push (W.instObj C s.heap.objs.size)}):
  codeAny (model prog w) A (.call (.ref C) ⟨vs,a⟩) R s:=by
 obtain⟨a,g,d,t,e⟩:=s;calc W.make_core (W.makes_of X b) (W.looks_findIn X hi) (λa=>W.bind_fn X a c) (.inl rfl) h
end
def ba(f:Str)(v:V):List (Str×V)->List (Str×V)
 | []=>[(f,v)]
 |(g,x)::r=>if g=f then(g,v)::r else(g,x)::ba f v r
theorem bt(f g:Str)(v:V):∀a:List (Str×V),(ba f v a).lookup g=if g=f then some v else a.lookup g
 | []=>by
  show List.lookup g [(f,v)]=_;by_cases h:g=f
  ·have a:(g==f)=true:=beq_iff_eq.mpr h;simp only[List.lookup,a,if_pos h]
  ·have a:(g==f)=false:=beq_eq_false_iff_ne.mpr h;simp only[List.lookup,a,if_neg h]
 |(k,x)::r=>by
  have c:=bt f g v r;rw[show ba f v ((k,x)::r)=(if k=f then(k,v)::r else(k,x)::ba f v r) from rfl];by_cases b:k=f
  ·rw[if_pos b];by_cases h:g=k
   ·have a:(g==k)=true:=beq_iff_eq.mpr h;simp only[List.lookup,a,if_pos (h.trans b)]
   ·have a:(g==k)=false:=beq_eq_false_iff_ne.mpr h;simp only[List.lookup,a,if_neg (λe:g=f=>h (e.trans b.symm))]
  ·rw[if_neg b];by_cases h:g=k
   ·have a:(g==k)=true:=beq_iff_eq.mpr h;simp only[List.lookup,a,if_neg (λe:g=f=>b (h.symm.trans e))]
   ·have a:(g==k)=false:=beq_eq_false_iff_ne.mpr h;simp only[List.lookup,a];calc c
theorem oY(f:Str)(v:V):∀a:List (Str×V),f∈(ba f v a).map (·.1)/\∀g,g∈a.map (·.1)->g∈(ba f v a).map (·.1)
 | []=>⟨by simp[ba],λg h=>by simp at h⟩
 |(k,x)::r=>by
  obtain⟨c,d⟩:=oY f v r;rw[show ba f v ((k,x)::r)=(if k=f then(k,v)::r else(k,x)::ba f v r) from rfl];by_cases b:k=f
  ·rw[if_pos b];subst b;exact⟨nofun,λg h=>by simpa using h⟩
  ·rw[if_neg b];refine⟨?_,λg h=>?_⟩
   ·rw[List.map_cons];exact aaf _ c
   ·rw[List.map_cons] at h ⊢;rcases List.mem_cons.mp h with e | e
    ·exact List.mem_cons.mpr (.inl e)
    ·calc aaf _ (d g e)
theorem kE(f:Str)(v:V):∀a:List (Str×V),(ba f v a).length<=a.length+1
 | []=>by simp[ba]
 |(k,x)::r=>by
  have a:=kE f v r;rw[show ba f v ((k,x)::r)=(if k=f then(k,v)::r else(k,x)::ba f v r) from rfl];by_cases a:k=f
  ·rw[if_pos a,List.length_cons,List.length_cons];lia
  ·rw[if_neg a,List.length_cons,List.length_cons];lia
theorem jL.some_of{v:V}{o:Option Value}(r:jL (some v) o):∃u,o=some u/\RelV v u:=by
 cases o with
 |none=>calc(show False from r).elim
 |some u=>calc⟨u,rfl,r⟩
theorem jL.none_of{o:Option Value}(r:jL none o):o=none:=by
 cases o with
 |none=>rfl
 |some u=>calc(show False from r).elim
theorem uH{v:V}{u:Value}(r:RelV v u):W.handedIn u=true:=by
 cases v with
 |bx=>cases(show u=Value.none from r);rfl
 |bl b=>cases(show u=Value.bool b from r);rfl
 |int i=>obtain⟨t,e⟩:=(show ∃t,u=Value.int i t from r);cases e;rfl
 |str x=>obtain⟨t,e⟩:=(show ∃t,u=Value.str x t from r);cases e;rfl
 |Bo b=>obtain⟨t,e⟩:=(show ∃t,u=Value.bytes b t from r);cases e;rfl
 |MG b=>obtain⟨t,e⟩:=(show ∃t,u=Value.float b t from r);cases e;rfl
 |ref a=>cases(show u=Value.ref a from r);rfl
 |ty n=>cases(show u=Value.type n from r);rfl
section
variable {P:Program}{w:World}{H H':Hp}{h h':Heap}{a C dx:Addr}{fs zx:List (Str×V)}
theorem nE(b:l9 P w H h)(e:H a=some (.ins C dx fs)):∃mA,zP h a dx C mA/\(∀f,jL (fs.lookup f) (mA f))/\PySem.Within mA (fs.map (·.1))/\fs.length<=1000/\H dx=some (.own a):=by
 obtain⟨d,z,c,f,mA,n,r,q⟩:=(show cC P w H h a (.ins C dx fs) from b a _ e)
 calc⟨mA,⟨f,n,c⟩,r,q,z,d⟩
end
structure tN(K:W.Frag)(C:Addr):Prop where
 pg:W.plainGet K C Str.empty=true
 hd:W.hasDictIn K C=true
 po:W.plainOver K C=true
 sa:W.findIn K (.ref C) "__setattr__"=some (some (.builtin "object.__setattr__"))
theorem tN.get{K:W.Frag}(c:tN K C)(f:Str):W.plainGet K C f=true:=c.pg
def bG(K:W.Frag)(C:Addr)(f:Str):Prop:=W.findIn K (.ref C) f=some none
theorem bG.Ul{K:W.Frag}{f:Str}(n:bG K C f):W.takerIn K C f=some none:=by
 unfold W.takerIn;rw[show W.findIn K (.ref C) f=some none from n];rfl
structure Meth(K:W.Frag)(C:Addr)(m:Str)(f:Addr):Prop where
 at_:W.findIn K (.ref C) m=some (some (.ref f))
 fn:W.isFn K (.ref f)=true
 kp:W.keepIn K (.ref f)=true
section
variable {X:Cx}{pins:List (Addr×Obj)}{σ:St}{H:Hp}{s:Shared}{a C dx:Addr}{fs:List (Str×V)}{f:Str}{v:V}{A:Around}{E:Value->Shared->Prop}
theorem zQ{b:Bool}(I:Inv X pins σ H s)(e:H a=some (.ins C dx fs))(c:tN X.K C)(n:bG X.K C f)(l:fs.lookup f=some v)
  (h:∀u s',Inv X pins σ H s'->RelV v u->Q u s'):wpAny (model X.prog X.w) A (getAttr (.ref a) f b) Q E s:=by
 obtain⟨mA,O,r,_,_,_⟩:=nE I.aU e;obtain⟨u,d,b⟩:=jL.some_of (v:=v) (o:=mA f) (by rw[<-l];calc r f);calc get_map I.gh O (c.get f) c.hd n d (uH b) (h u _ (I.tok _) b)
theorem mq{m:Str}{g:Addr}{pl:Sem Bool}{Q:Value×List Value->Shared->Prop}(I:Inv X pins σ H s)(e:H a=some (.ins C dx fs))(c:tN X.K C)(k:Meth X.K C m g)(l:fs.lookup m=none)
  (h:Q (.ref g,[.ref a]) s):wpAny (model X.prog X.w) A (getMethod (.ref a) m pl) Q E s:=by
 obtain⟨mA,O,r,_,_,_⟩:=nE I.aU e;have b:mA m=none:=jL.none_of (by rw[<-l];calc r m);calc FG I.gh O (c.get m) k.at_ k.fn b h
theorem zR{y:V}{u:Value}{Q:Unit->Shared->Prop}(I:Inv X pins σ H s)(e:H a=some (.ins C dx fs))(c:tN X.K C)(n:bG X.K C f)(b:fs.length<1000)(k:RelV y u)
  (h:∀s',Inv X pins σ (upd H a (.ins C dx (ba f y fs))) s'->Q ⟨⟩ s'):wpAny (model X.prog X.w) A (setAttr (.ref a) f u) Q E s:=by
 obtain⟨mA,O,r,i,_,j⟩:=nE I.aU e;have b:(fs.map (·.1)).length<=sizeLine:=by rw[List.length_map,sizeLine_eq];lia
 calc Kw I.gh O c.sa c.po n.Ul c.hd i b λg d l=>h _ ?_;have hd:∃o,g.get? dx=some o:=let ⟨o,_,_,b,_⟩:=d.ns;⟨o,b⟩
 calc I.write (x:=a) (e:=dx) (by rw[e];calc aai) (.inr j) (λb q c z=>(l.2 b c).trans z) hd ?_;refine⟨by rw[ay O.ne];calc j,?_,O.ne,d.obj,_,d.ns,λg=>?_,λg b=>?_⟩
 ·have:=kE f y fs;lia
 ·show jL ((ba f y fs).lookup g) (if g=f then some u else mA g);rw[bt];by_cases q:g=f
  ·rw[if_pos q,if_pos q];exact k
  ·rw[if_neg q,if_neg q];exact r g
 ·by_cases q:g=f
  ·rw[q];exact(oY f y fs).1
  ·calc(oY f y fs).2 g (i g λz=>b ?_);show(if g=f then some u else mA g)=none;rw[if_neg q];calc z
theorem Inv.made(I:Inv X pins σ H s):Inv X pins σ (upd (upd H s.heap.objs.size (.own (s.heap.objs.size+1))) (s.heap.objs.size+1) (.ins C s.heap.objs.size []))
  {s with heap:=(s.heap.push W.emptyDict).push (W.instObj C s.heap.objs.size)}:=by
 have c:(s.heap.push W.emptyDict).get? s.heap.objs.size=some W.emptyDict:=V' s.heap rfl;have d:((s.heap.push W.emptyDict).push (W.instObj C s.heap.objs.size)).get? (s.heap.objs.size+1)=some (W.instObj C s.heap.objs.size):=by
  have:=V' (s.heap.push W.emptyDict) (o:=W.instObj C s.heap.objs.size) rfl;rwa [Heap.size_push]at this
 have f:(s.heap.push W.emptyDict).Ns s.heap.objs.size (λ_=>none):=⟨W.emptyDict,#[],_,c,rfl,(λe b=>absurd b nofun),λ_=>rfl⟩
 have e:=I.laid (a:=s.heap.objs.size) (o:=.own (s.heap.objs.size+1)) (h':=s.heap.push W.emptyDict) (t':=s.toks) (λb u q=>J' _ q) (K' _) ⟨_,c⟩;calc e.laid (a:=s.heap.objs.size+1) (o:=.ins C s.heap.objs.size []) (t':=s.toks) (λb u q=>J' _ q) (Nat.le_of_eq (Heap.size_push _ _)) ?_;have b:s.heap.objs.size≠s.heap.objs.size+1:=X' (Nat.lt_succ_self _);calc⟨by rw[ay b,af],aaa _,b,d,λ_=>none,(Heap.Ns1.of_empty f).at λo q=>J' _ q,λ_=>aai,λy b=>absurd rfl b⟩
theorem Bx{prog:Program}{w:World}{env:Env}{e:Expr}{f:Str}{b:Pos}{s:Shared}(c:attributeBase e f env (eval e env)=eval e env)
  (h:wpAny (model prog w) A (eval e env) (λo a=>wpAny (model prog w) A (getAttr o f true) Q E a) E s):wpAny (model prog w) A (eval (.Attribute e f b) env) Q E s:=
 Attribute_any_ h (by rw[arm_eval_Attribute,c])
end
def Kx(K:W.Frag)(a:TE)(f:Str):TE:=λσ H Q=>a σ H λx b=>∃a C d c v,x=.ref a/\b a=some (.ins C d c)/\tN K C/\bG K C f/\c.lookup f=some v/\Q v b
def Pa(K:W.Frag)(a b:TE)(f:Str):TS:=λD σ H=>b σ H λy d=>a σ d λx c=>∃a C d b,x=.ref a/\c a=some (.ins C d b)/\tN K C/\bG K C f/\b.length<1000/\
 D.nx σ (upd c a (.ins C d (ba f y b)))
section
variable {X:Cx}{o e value:Expr}{f:Str}{pos pos' Ky:Pos}{ta tv:TE}
theorem bL(b:PE X e ta)(d:attributeBase e f X.env (eval e X.env)=eval e X.env):PE X (.Attribute e f pos) (Kx X.K ta f):=by
 walk_at "xc";refine Bx d (cD (b pins s σ H _ I h) λu p g=>?_);obtain⟨x,i,j,k,a,C,b,d,v,m,o,c,n,l,q⟩:=g;subst m;obtain rfl:u=Value.ref a:=k;exact zQ j o c n l λd g a b=>⟨v,i,a,b,q⟩
theorem fN(b:PE X o ta)(d:PE X value tv)(e:swapsWith value (some (.Attribute o f pos')) pos.line X.env=pure false):PS X (.Assign [.Attribute o f pos'] value pos) (Pa X.K ta tv f):=by
 walk_at "xd";refine plainObj_wpAny_Assign_Attribute (cD (d pins s σ H _ I h) λu g ⟨y,i,j,k,q⟩=>cD (b pins g σ i _ j q) λm d p=>?_) e;obtain⟨x,b,r,t,a,C,d,g,v,w,c,n,l,z⟩:=p;subst v;obtain rfl:m=Value.ref a:=t;exact zR r w c n l k λb a=>⟨σ,_,a,z⟩
end
section
variable {X:Cx}{pins:List (Addr×Obj)}{σ:St}{H:Hp}{s:Shared}{A:Around}{E:Value->Shared->Prop}{Q:Value->Shared->Prop}{c:Value}{b:Bool}
inductive gL(K:W.Frag)(H:Hp):V->Value->Prop where
  |bx:gL K H .bx (.type "NoneType")
  |bl (x:Bool):gL K H (.bl x) (.type "bool")
  |int (i:Int):gL K H (.int i) (.type "int")
  |str (x:Str):gL K H (.str x) (.type "str")
  |MG (x:UInt64):gL K H (.MG x) (.type "float")
  |lst {a:Addr} {xs:List V} (e:H a=some (.lst xs)):gL K H (.ref a) (.type "list")
  |zw {a:Addr} {o:Obj} {xs:List V} (e:H a=some (.zw o (.lst xs))):gL K H (.ref a) (.type "list")
  |tup {a:Addr} {xs:List V} (e:H a=some (.tup xs)):gL K H (.ref a) (.type "tuple")
  |dK {a:Addr} {bg:List (Key×V)} (e:H a=some (.dK bg)):gL K H (.ref a) (.type "dict")
  |dT {a:Addr} {bg:List (List Key×V)} (e:H a=some (.dT bg)):gL K H (.ref a) (.type "dict")
  | ins {a C dx:Addr} {fs:List (Str×V)} (e:H a=some (.ins C dx fs)) (cl:tN K C) (ha:W.findIn K (.ref C) "__class__"=some (some (.builtin "object.__class__")))
      (hn:W.specialIn K (.builtin "object.__class__") "__get__"=some (some (.builtin "getset_descriptor.__get__"))) (YK:W.takesIn K (.builtin "object.__class__")=some true)
      (hm:W.mroIn K C (.type "object")=some true):gL K H (.ref a) (.ref C)
theorem uJ{x:V}{u t:Value}(I:Inv X pins σ H s)(d:RelV x u)(r:gL X.K H x t)(e:W.kitOne X.K t c=some b)(h:∀v,Q (.bool b) {s with toks:=v}):
  wpAny (model X.prog X.w) A (call (.builtin "isinstance") [u,c]) Q E s:=by
 cases r with
 |bx=>cases(show u=Value.none from d);calc W.kia_one W.kitx_none I.gh aai e (λz=>nomatch z) h
 |bl y=>cases(show u=Value.bool y from d);calc W.kia_one W.kitx_bool I.gh aai e (λz=>nomatch z) h
 |int i=>obtain⟨t,q⟩:=(show ∃t,u=Value.int i t from d);cases q;calc W.kia_one W.kitx_int I.gh aai e (λz=>nomatch z) h
 |str y=>obtain⟨t,q⟩:=(show ∃t,u=Value.str y t from d);cases q;calc W.kia_one W.kitx_str I.gh aai e (λz=>nomatch z) h
 |MG y=>obtain⟨t,q⟩:=(show ∃t,u=Value.float y t from d);cases q;calc W.kia_one W.kitx_float I.gh aai e (λz=>nomatch z) h
 | @lst a j f=>
  cases(show u=Value.ref a from d);obtain⟨_,_,n,_,g⟩:=(show cC X.prog X.w H s.heap a (.lst j) from I.aU a _ f)
  calc W.kia_one W.kitx_list I.gh ⟨_,g,rfl⟩ e (λz=>nomatch z) h
 | @zw a B j f=>
  cases(show u=Value.ref a from d);obtain⟨_,_,_,n,_,g⟩:=(show cC X.prog X.w H s.heap a (.zw B (.lst j)) from I.aU a _ f)
  calc W.kia_one W.kitx_list I.gh ⟨_,g,rfl⟩ e (λz=>nomatch z) h
 | @tup a j f=>
  cases(show u=Value.ref a from d);obtain⟨_,_,_,p⟩:=(show cC X.prog X.w H s.heap a (.tup j) from I.aU a _ f)
  obtain⟨o,g,k,_⟩:=p;calc W.kia_one W.kitx_tuple I.gh ⟨o,g,k⟩ e (λz=>nomatch z) h
 | @dK a l f=>
  cases(show u=Value.ref a from d);obtain⟨_,_,i,_,p⟩:=(show cC X.prog X.w H s.heap a (.dK l) from I.aU a _ f)
  obtain⟨o,D,F,g,k,_⟩:=p;calc W.kia_one W.kitx_dict I.gh ⟨o,g,k.1⟩ e (λz=>nomatch z) h
 | @dT a l f=>
  cases(show u=Value.ref a from d);obtain⟨_,_,j,_,o,D,F,g,k,_⟩:=(show cC X.prog X.w H s.heap a (.dT l) from I.aU a _ f)
  calc W.kia_one W.kitx_dict I.gh ⟨o,g,k.1⟩ e (λz=>nomatch z) h
 | @ins a C g i f m G L M N=>
  cases(show u=Value.ref a from d);obtain⟨mA,O,_⟩:=nE I.aU f;obtain⟨a,J,_⟩:=O.look;calc W.kia_one (W.kitx_own (m.get _) m.hd G L M N) I.gh J e (λz=>nomatch z) h
end
end
section
variable {A:Around}{base:Heap}{H:Hp}{kw:List (Str×Value)}{us:List Value}{s:Shared}{mg:Str->Option Value}{K:W.Frag}
structure dq(k:Nat)(A:Around):Prop where
 hd:A.handled=none
 dp:A.depth+3*k+5<recursionLimit
 un:A.units+16*k+200<cLine
theorem dq.mono{j k:Nat}(r:dq k A)(h:j<=k):dq j A:=⟨r.hd,by have:=r.dp;lia,by have:=r.un;lia⟩
theorem dq.deeper{k:Nat}(r:dq (k+1) A)(env:Env):dq k (A.deeper env):=
 ⟨r.hd,by have:=r.dp;show A.depth+1+3*k+5<_;lia,by have:=r.un;show A.units+3+16*k+200<_;lia⟩
theorem zS{C:Addr}:(A.under (.builtin "type.__call__" ⟨.ref C::us,kw⟩)).depth=A.depth+1:=by
 first|rfl|simp[Around.under,Code.weight,Code.isCreation,Code.isGuard,Code.isCaller,Code.frames,Code.isFrame,guardIds]
theorem zT{C:Addr}:(A.under (.builtin "type.__call__" ⟨.ref C::us,kw⟩)).units=A.units+1:=by
 first|rfl|simp[Around.under,Code.cUnits,Code.frames,Code.isFrame]
theorem dq.make{k:Nat}(r:dq (k+1) A)(C:Addr)(us:List Value)(kw:List (Str×Value)):dq k (A.under (.builtin "type.__call__" ⟨.ref C::us,kw⟩)):=
 ⟨r.hd,by have:=r.dp;rw[zS];lia,by have:=r.un;rw[zT];lia⟩
theorem dq.depth{k:Nat}(r:dq k A):A.depth<recursionLimit:=by have:=r.dp;lia
theorem dq.units{k:Nat}(r:dq k A):A.units+64<cLine:=by have:=r.un;lia
def xQ:TA:=λ_ H Q=>Q [] H
def rq(a:TE)(b:TA):TA:=λσ H Q=>a σ H λx c=>b σ c λxs a=>Q (x::xs) a
section
variable {X:Cx}{e:Expr}{es:List Expr}{te:TE}{t:TA}{pos:Pos}
theorem aa:PA X [] xQ:=.mk λ_ _ _ _ H Q I h=>Calls.spliced_nil ⟨[],H,I,.nil,h⟩
theorem Kz(b:PE X e te)(c:PA X es t)(d:starEach (e::es) X.env=(false,eval e X.env)::starEach es X.env:=by rfl):PA X (e::es) (rq te t):=by
 calc⟨?_⟩;intro pos a s σ H Q I h;rw[d];show wpAny _ _ (spliced ((false,eval e X.env)::backTo pos (starEach es X.env))) _ _ s;calc Calls.spliced_cons (cD (b a s σ H _ I h) λu f g=>?_);obtain⟨x,b,d,h,i⟩:=g;calc cD (c pos a f σ b _ d i) λus o ⟨j,k,l,m,n⟩=>⟨x::j,k,l,.cons h m,n⟩
def Pb(t:TA):TE:=λσ H Q=>t σ H λxs a=>xs.length<=sizeLine/\∀p,a p=none->Q (.ref p) (upd a p (.tup xs))
def Pc(t:TA):TE:=λσ H Q=>t σ H λxs a=>xs.length<=sizeLine/\∀p,a p=none->Q (.ref p) (upd a p (.lst xs))
theorem bb{a}(h:PA X es t):PE X (.Tuple es a pos) (Pb t):=by
 calc⟨?_⟩;intro a s σ H Q I f;calc wpAny_Tuple_spliced (cD (h pos a s σ H _ I f) λus c ⟨g,b,d,r,z,q⟩=>⟨by rw[<-r.length];calc z,?_⟩);have a:b c.heap.objs.size=none:=d.aU.fresh (K' _);calc⟨.ref c.heap.objs.size,upd b c.heap.objs.size (.tup g),d.laid (t':=c.toks) (λb u e=>J' _ e) (K' _) ?_,rfl,q _ a⟩;calc⟨z,us,r,⟨_,V' _ rfl,rfl,_,rfl⟩⟩
theorem bM(h:PA X es t):PE X (.List es pos) (Pc t):=by
 calc⟨?_⟩;intro a s σ H Q I f;calc wpAny_List_spliced (cD (h pos a s σ H _ I f) λus c ⟨g,b,d,r,z,q⟩=>⟨by rw[<-r.length];calc z,?_⟩);have a:b c.heap.objs.size=none:=d.aU.fresh (K' _);calc⟨.ref c.heap.objs.size,upd b c.heap.objs.size (.lst g),d.laid (t':=c.toks) (λb u e=>J' _ e) (K' _) ?_,rfl,q _ a⟩;calc⟨z,us,0,r,V' _ rfl⟩
end
abbrev Sp:=List V->Hp->VK->XK->Prop
abbrev FI:=List Env->Hp->Shared->XK->Value->Shared->Prop
structure vT(P:Program)(w:World)(K:W.Frag)(mg:Str->Option Value)(base:Heap)(A:Around)(outer:List Env)(s:Shared)(H:Hp):Prop where
 frames:A.frames=some outer
 mod:Mod K mg base
 bs:∀b o,base.get? b=some o->s.heap.get? b=some o/\H b=none
 Bq:base.objs.size<=s.heap.objs.size
 lZ:s.heap.FunFrames base outer
 Fc:∀b∈xu outer,H b=none
 aU:l9 P w H s.heap
 bare:AllBare s.gens
def CE(outer:List Env)(P:Program)(w:World)(H:Hp)(s:Shared)(Q:VK)(u:Value)(s':Shared):Prop:=
 ∃v a,s'.os=s.os/\AllBare s'.gens/\Un (xu outer) [] H a s.heap s'.heap/\l9 P w a s'.heap/\RelV v u/\Q v a
def CR(CX:FI)(outer:List Env)(P:Program)(w:World)(H:Hp)(s:Shared)(Q:VK)(E:XK)(r:Result)(s':Shared):Prop:=
 match r with
 | .ok (.ret u)=>CE outer P w H s Q u s'
 | .ok _=>False
 | .error e=>CX outer H s E e s'
structure iM(P:Program)(w:World)(K:W.Frag)(mg:Str->Option Value)(base:Heap)(CX:FI)(k:Nat)(f:Addr)(fd:FuncData)(ps:List Str)(sp:Sp):Prop where
 len:∀vs H Q E,sp vs H Q E->vs.length=ps.length
 run:∀(A:Around) (outer:List Env) (s:Shared) (H:Hp) (args:Args) (us:List Value) (vs:List V) (Q:VK) (E:XK),dq k A->vT P w K mg base A outer s H->BindsTo s fd args (ps.zip us)->Vals vs us->sp vs H Q E->
  codeAny (model P w) A (.call (.ref f) args) (CR CX outer P w H s Q E) s
theorem vT.make{P:Program}{w:World}{outer:List Env}(e:vT P w K mg base A outer s H)(C:Addr)(us:List Value)(kw:List (Str×Value)):
  vT P w K mg base (A.under (.builtin "type.__call__" ⟨.ref C::us,kw⟩)) outer s H:=⟨by first|exact e.frames|(simpa[Around.under,Code.envs,Code.isFrame,pushEnvs] using e.frames),e.mod,e.bs,e.Bq,e.lZ,e.Fc,e.aU,e.bare⟩
section
variable {X:Cx}{pins:List (Addr×Obj)}{σ:St}{H:Hp}{s s':Shared}
theorem Inv.FJ(I:Inv X pins σ H s):vT X.prog X.w X.K X.mg X.base X.A X.stack s H:=
 ⟨I.ok.frames,I.ok.mod,I.bs,aae I.ok.Bq I.sz,I.stack,I.qJ,I.aU,I.bare⟩
theorem Inv.after{Q:VK}{u:Value}(I:Inv X pins σ H s)(h:CE X.stack X.prog X.w H s Q u s'):EP X pins σ Q u s':=by
 obtain⟨v,c,os,a,e,f,r,q⟩:=h;obtain⟨i,g,d,t,b⟩:=s';obtain rfl:b=s.os:=os;calc⟨v,c,I.call (h':=i) (g':=g) (d':=d) (t':=t) (ch:=[]) e f a (λb z=>absurd z nofun),r,q⟩
end
def qk(sp:Sp)(a:List V)(E:XK)(t:TA):TE:=λσ H Q=>t σ H λvs b=>sp (vs++a) b Q E
def ql(C:Addr)(m:Str)(sp:Sp)(d:List V)(E:XK)(a:TE)(t:TA):TE:=λσ H Q=>a σ H λx b=>∃a e c,x=.ref a/\b a=some (.ins C e c)/\c.lookup m=none/\
 t σ b λvs a=>sp (x::(vs++d)) a Q E
def By(C:Addr)(sp:Sp)(c:List V)(E:XK)(t:TA):TE:=λσ H Q=>t σ H λvs b=>∀x a,b x=none->b a=none->a≠x->
 sp (.ref x::(vs++c)) (upd (upd b a (.own x)) x (.ins C a [])) (λv d=>v=.bx/\Q (.ref x) d) E
def Binds(K:W.Frag)(c:FuncData)(a:List Str)(b:List Value):Prop:=
 ∀(s:Shared) (us:List Value),K.In s.heap->(us++b).length=a.length->BindsTo s c ⟨us,[]⟩ (a.zip (us++b))
theorem Binds.all{b:FuncData}{a:List Str}(h:∀us:List Value,us.length=a.length->bindArgs b ⟨us,[]⟩=pure (a.zip us)):Binds K b a []:=λs us _ a=>by
 rw[List.append_nil]at a ⊢;calc .of_eq (h us a)
def Passes(CX:FI)(X:Cx)(E:XK):Prop:=∀(pins:List (Addr×Obj)) (σ:St) (H:Hp) (s:Shared) (e:Value) (s':Shared),Inv X pins σ H s->CX X.stack H s E e s'->X.xe e s'
section
variable {X:Cx}{CX:FI}{k:Nat}{f C:Addr}{fd:FuncData}{ps:List Str}{sp:Sp}{tO:List V}{ds:List Value}{E:XK}{x m:Str}{p pos apos:Pos}{e o:Expr}{es:List Expr}{ta:TE}{t:TA}
theorem zU{pins:List (Addr×Obj)}{σ:St}{H:Hp}{s:Shared}{Q:VK}{us:List Value}{vs:List V}(F:iM X.prog X.w X.K X.mg X.base CX k f fd ps sp)(c:dq k X.A)(d:Binds X.K fd ps ds)(g:Vals tO ds)(i:Passes CX X E)
  (I:Inv X pins σ H s) (r:Vals vs us) (h:sp (vs++tO) H Q E):wpAny (model X.prog X.w) X.A (call (.ref f) us) (EP X pins σ Q) X.xe s:=by
 have b:Vals (vs++tO) (us++ds):=r.append g;have j:(us++ds).length=ps.length:=by rw[<-b.length];exact F.len _ _ _ _ h
 refine wpAny_call (codeAny_mono (F.run X.A X.stack s H ⟨us,[]⟩ (us++ds) (vs++tO) Q E c I.FJ (d s us I.gh j) b h) λr l a=>?_)
 cases r with
 |error e=>calc i pins σ H s e l I a
 |ok m=>
  cases m with
  |ret u=>calc I.after a
  |next=>calc Y' a
  |brk=>calc Y' a
  |cont=>calc Y' a
theorem Bz(F:iM X.prog X.w X.K X.mg X.base CX k f fd ps sp)(b:dq k X.A)(a:Gl X x)(c:X.mg x=some (.ref f))(d:W.keepIn X.K (.ref f)=true)(g:Binds X.K fd ps ds)(i:Vals tO ds)(j:Passes CX X E)
  (l:PA X (e::es) t) (m:(x==("__debug__":Str))=false:=by decide) (n:starEach (e::es) X.env=(false,eval e X.env)::starEach es X.env:=by rfl) (o:(backTo pos (starEach es X.env)).any (·.1)=false:=by rfl):
  PE X (.Call (.Name x p) (e::es) [] pos) (qk sp tO E t):=by
 walk_at "xc";refine aaU (iP I a c ?_ m);refine W.callWith_K (h₀:=X.base) I.ok.mod.xt d (cD (l pos pins s σ H _ I h) λus c ⟨m,u,a,r,q⟩=>⟨a.gh,?_⟩) n o;exact zU F b g i j a r q
theorem BA{pl:Sem Bool}(i:PE X o ta)(c:tN X.K C)(b:Meth X.K C m f)(F:iM X.prog X.w X.K X.mg X.base CX k f fd ps sp)(j:dq k X.A)(n:Binds X.K fd ps ds)(p:Vals tO ds)(v:Passes CX X E)(y:PA X (e::es) t)
  (z:starEach (e::es) X.env=(false,eval e X.env)::starEach es X.env:=by rfl) (B:(backTo pos (starEach es X.env)).any (·.1)=false:=by rfl)
  (r:eval (.Call (.Attribute o m apos) (e::es) [] pos) X.env=(do
   let d <-eval o X.env
   standAt apos.atName
   let (f,first) <-holding [d] (getMethod d m pl)
   callWith pos f first (backTo pos (starEach (e::es) X.env)) (backToKw pos (keywordEach [] X.env))):=by rfl):
  PE X (.Call (.Attribute o m apos) (e::es) [] pos) (ql C m sp tO E ta t):=by
 walk_at "xc";refine W.methodCall_KW (pl:=pl) (cD (i pins s σ H _ I h) λu D G=>?_) r;obtain⟨x,J,g,L,a,d,i,M,N,l,q⟩:=G;subst M;obtain rfl:u=Value.ref a:=L;refine mq g N c b l ?_;refine W.callWith_K (first:=[.ref a]) (h₀:=X.base) I.ok.mod.xt b.kp (cD (y pos pins D σ J _ g q) λus l ⟨c,u,d,r,i⟩=>⟨d.gh,?_⟩) z B;exact zU (us:=.ref a::us) (vs:=.ref a::c) F j n p v d (.cons rfl r) i
theorem FK{pl:Sem Bool}(g:PE X o ta)(c:tN X.K C)(d:Meth X.K C m f)(F:iM X.prog X.w X.K X.mg X.base CX k f fd ps sp)(i:dq k X.A)(j:Binds X.K fd ps ds)(n:Vals tO ds)(p:Passes CX X E)
  (r:eval (.Call (.Attribute o m apos) [] [] pos) X.env=(do
   let e <-eval o X.env
   standAt apos.atName
   let (f,first) <-holding [e] (getMethod e m pl)
   callWith pos f first (backTo pos (starEach [] X.env)) (backToKw pos (keywordEach [] X.env))):=by rfl):
  PE X (.Call (.Attribute o m apos) [] [] pos) (ql C m sp tO E ta xQ):=by
 walk_at "xc";refine W.methodCall_KW (pl:=pl) (cD (g pins s σ H _ I h) λu e t=>?_) r;obtain⟨x,e,b,v,a,g,B,y,z,l,q⟩:=t;subst y;obtain rfl:u=Value.ref a:=v;refine mq b z c d l ?_;exact W.callWith_K0 (first:=[.ref a]) b.gh d.kp (zU (us:=[.ref a]) (vs:=[.ref a]) F i j n p b (.cons rfl .nil) q)
structure Mk(K:W.Frag)(C f:Addr):Prop where
 makes:W.makesIn K C=true
 init:W.findIn K (.ref C) "__init__"=some (some (.ref f))
 fn:W.isFn K (.ref f)=true
 kp:W.keepIn K (.ref C)=true
theorem FL{pins:List (Addr×Obj)}{σ:St}{Q:VK}{vs:List V}(M:Mk X.K C f)(F:iM X.prog X.w X.K X.mg X.base CX k f fd ps sp)(hr:dq (k+1) X.A)(g:Binds X.K fd ps ds)(i:Vals tO ds)
  (j:Passes CX X E) (I:Inv X pins σ H s) (r:Vals vs us)
  (h:∀x b,H x=none->H b=none->b≠x->sp (.ref x::(vs++tO)) (upd (upd H b (.own x)) x (.ins C b [])) (λv d=>v=.bx/\Q (.ref x) d) E):
  wpAny (model X.prog X.w) X.A (call (.ref C) us) (EP X pins σ Q) X.xe s:=by
 have b:=h (s.heap.objs.size+1) s.heap.objs.size (I.aU.fresh (Nat.le_succ _)) (I.aU.fresh (K' _)) (X' (Nat.lt_succ_self _));have c:=Inv.made (C:=C) I;have d:Vals (V.ref (s.heap.objs.size+1)::(vs++tO)) (Value.ref (s.heap.objs.size+1)::(us++ds)):=.cons rfl (r.append i);have l:(Value.ref (s.heap.objs.size+1)::us++ds).length=ps.length:=by
  have e:=d.length;rw[F.len _ _ _ _ b]at e;exact e.symm
 refine wpAny_call (FH (f:=f) I.gh M.makes M.init (beq_iff_eq.mp M.fn) (codeAny_mono (F.run _ X.stack _ _ ⟨Value.ref (s.heap.objs.size + 1)::us,[]⟩ (Value.ref (s.heap.objs.size + 1)::(us++ds)) _ _ E (hr.make C us [])
  (c.FJ.make C us []) (g _ (Value.ref (s.heap.objs.size + 1)::us) c.gh l) d b) λr m a=>?_))
 cases r with
 |error e=>calc j pins σ _ _ e m c a
 |ok n=>
  cases n with
  |ret u=>
   obtain⟨v,o,p,q,t,y⟩:=c.after a;subst t;calc⟨q,⟨V.ref (s.heap.objs.size+1),o,p,rfl,y⟩⟩
  |next=>calc Y' a
  |brk=>calc Y' a
  |cont=>calc Y' a
theorem KA(M:Mk X.K C f)(F:iM X.prog X.w X.K X.mg X.base CX k f fd ps sp)(b:dq (k+1) X.A)(a:Gl X x)(c:X.mg x=some (.ref C))(d:Binds X.K fd ps ds)(g:Vals tO ds)(i:Passes CX X E)
  (j:PA X (e::es) t) (l:(x==("__debug__":Str))=false:=by decide) (m:starEach (e::es) X.env=(false,eval e X.env)::starEach es X.env:=by rfl) (n:(backTo pos (starEach es X.env)).any (·.1)=false:=by rfl):
  PE X (.Call (.Name x p) (e::es) [] pos) (By C sp tO E t):=by
 walk_at "xc";refine aaU (iP I a c ?_ l);refine W.callWith_K (h₀:=X.base) I.ok.mod.xt M.kp (cD (j pos pins s σ H _ I h) λus c ⟨l,o,a,r,q⟩=>⟨a.gh,?_⟩) m n;exact FL M F b d g i a r q
end
structure aD(N P:List Str)(sc:Scope):Prop where
 kind:sc.kind=.function
 co:sc.isCoroutine=false
 gen:sc.isGenerator=false
 nd:N.Nodup
 pre:N.take P.length=P
 par:∀x∈P,sc.names.lookup x=some .local\/sc.names.lookup x=some .cell
 Pd:∀y∈sc.names,y.2≠.free
theorem uK{b:Str->Option NameKind}{x:Str}:∀{a:List (Str×Value)}{m:Str->Option Value},(∀v,(x,v)∉a)->bindL b a m x=m x
 | [],_,_=>rfl
 |(n,v)::r,m,h=>by
  unfold bindL;rw[uK λw c=>h w (List.mem_cons_of_mem _ c)];split
  ·have:x≠n:=by rintro rfl;exact h v aas
   simp[this]
  ·rfl
theorem uL{b:Str->Option NameKind}{x:Str}:∀{a:List (Str×Value)}{m:Str->Option Value},(∀v,(x,v)∉a)->bindC b a m x=m x
 | [],_,_=>rfl
 |(n,v)::r,m,h=>by
  unfold bindC;rw[uL λw c=>h w (List.mem_cons_of_mem _ c)];split
  ·rfl
  ·have:x≠n:=by rintro rfl;exact h v aas
   simp[this]
theorem uM{a:Str->Option NameKind}{x:Str}{v:Value}:∀{P:List Str}{vs:List Value}{i:Nat}{m:Str->Option Value},P.Nodup->P[i]?=some x->vs[i]?=some v->a x=some .local->
  bindL a (P.zip vs) m x=some v
 | [],_,_,_,_,h,_,_=>by simp at h
 |_::_,[],_,_,_,_,h,_=>by simp at h
 |p::P,w::vs,0,m,d,b,c,e=>by
  simp at b c;subst b;subst c;show bindL a ((p,w)::P.zip vs) m p=_;unfold bindL;rw[uK λv f=>(List.nodup_cons.mp d).1 (List.of_mem_zip f).1,if_pos e];simp
 |p::P,w::vs,i+1,m,d,b,c,e=>by
  show bindL a ((p,w)::P.zip vs) m x=_;unfold bindL;calc uM (i:=i) (List.nodup_cons.mp d).2 (by simpa using b) (by simpa using c) e
theorem uN{a:Str->Option NameKind}{x:Str}{v:Value}:∀{P:List Str}{vs:List Value}{i:Nat}{m:Str->Option Value},P.Nodup->P[i]?=some x->vs[i]?=some v->a x≠some .local->
  bindC a (P.zip vs) m x=some v
 | [],_,_,_,_,h,_,_=>by simp at h
 |_::_,[],_,_,_,_,h,_=>by simp at h
 |p::P,w::vs,0,m,d,b,c,e=>by
  simp at b c;subst b;subst c;show bindC a ((p,w)::P.zip vs) m p=_;unfold bindC;rw[uL λv f=>(List.nodup_cons.mp d).1 (List.of_mem_zip f).1,if_neg e];simp
 |p::P,w::vs,i+1,m,d,b,c,e=>by
  show bindC a ((p,w)::P.zip vs) m x=_;unfold bindC;calc uN (i:=i) (List.nodup_cons.mp d).2 (by simpa using b) (by simpa using c) e
def start(N:List Str)(vs:List V):St:=vs.map some++List.replicate (N.length-vs.length) none
def gV(CX:FI)(P:Program)(w:World)(K:W.Frag)(mg:Str->Option Value)(base:Heap)(N:List Str)(a:Str)(scope:Scope)(f:Addr)(b:Value)(A:Around)(outer:List Env)(s:Shared)(H:Hp)(E:XK):Cx where
 prog:=P
 w:=w
 K:=K
 mg:=mg
 base:=base
 A:=A.deeper (envOfC a scope s.heap.objs.size f b)
 N:=N
 s₀:=s
 H₀:=H
 env:=envOfC a scope s.heap.objs.size f b
 outer:=outer
 stack:=envOfC a scope s.heap.objs.size f b::outer
 ex:=[]
 calm:=true
 fn:=λ_=>true
 pn:=[]
 xe:=λe s'=>wpAny (model P w) (A.deeper (envOfC a scope s.heap.objs.size f b)) (leaving (envOfC a scope s.heap.objs.size f b) e) (λ_ c=>CX outer H s E e c) (λa c=>CX outer H s E a c) s'
theorem xR{a:Scope}{n:Nat}{x:Str}(h:a.names.lookup x=some .cell):∃c,(cellsFrom n a.names []).lookup x=some c:=by
 have q:=W.cellsFrom_some a.names n [] (.inl h);calc Option.isSome_iff_exists.mp q
theorem uO{CX:FI}{P:Program}{w:World}{N j:List Str}{a:Str}{scope:Scope}{f:Addr}{o:Value}{outer:List Env}{b:Shared}{E:XK}{vs:List V}
  (S:aD N j scope) (D:A.handled=none) (g:vT P w K mg base A outer s H) (p:vs.length=j.length) (r:Vals vs us)
  (x:InCallC s s.heap.objs.size (bindL (envOfC a scope s.heap.objs.size f o).kindOf (j.zip us) λ_=>none) (cellsFrom (s.heap.objs.size+1) scope.names []) (bindC (envOfC a scope s.heap.objs.size f o).kindOf (j.zip us) λ_=>none) b):
  Inv (gV CX P w K mg base N a scope f o A outer s H E) [] (start N vs) H b:=by
 have b:j.length<=N.length:=by have:=congrArg List.length S.pre;rw[List.length_take]at this;lia
 obtain⟨q,z,rfl,B⟩:=x.done;have p:∀b:Addr,b ∉ (gV CX P w K mg base N a scope f o A outer s H E).ex:=λb z=>absurd (show b ∈ ([]:List Addr) from z) nofun;refine⟨⟨g.mod,S.kind,rfl,rfl,K' _,λy z c q d=>?_,λy k=>?_,λy c _ h=>?_,λ_=>D,Around.frames_deeper g.frames,.inr ⟨rfl,rfl⟩,λb z=>absurd z (p b),g.bs,g.Bq,λb _ _=>p b,λb z=>absurd z (p b),g.lZ,g.Fc⟩,
  rfl,g.bare,Un.kept B,⟨_,x.toInCall.ns,λi y v q d a=>?_⟩,λy c h=>⟨_,x.cell y c h⟩,g.aU.fresh (K' _),λy c h=>?_,λp l=>absurd (show p ∈ ([]:List (Addr×Obj)) from l) nofun,g.aU.kept B,?_⟩
 ·exact name_of_addr x.apart (aaT q) (aaT d)
 ·have k:scope.names.lookup y=some .cell\/scope.names.lookup y=some .free:=k;rcases k with k | k
  ·exact xR k
  ·exact absurd rfl (S.Pd _ (aaT k))
 ·exact L' (x.above y c (aaT h))
 ·have t:i<vs.length:=by
   unfold start at d;by_cases t:i<vs.length
   ·exact t
   ·rw[List.getElem?_append_right (by simpa using t)]at d;rw[List.getElem?_replicate]at d;split at d<;>cases d
  have F:vs[i]?=some v:=by
   unfold start at d;rw[List.getElem?_append_left (by simpa using t),List.getElem?_map]at d
   cases e:vs[i]? with
   |none=>rw[e]at d;cases d
   |some a=>rw[e]at d;cases d;rfl
  obtain⟨u,C,G⟩:=r.get F;have l:j[i]?=some y:=by
   rw[<-S.pre,List.getElem?_take_of_lt ()];exact q
  have m:j.Nodup:=by rw[<-S.pre];exact S.nd.sublist (List.take_sublist _ _)
  calc⟨u,G,?_⟩;rcases S.par y (aap l) with k|k
  ·exact .inl ⟨k,uM m l C k⟩
  ·obtain⟨c,e⟩:=xR (n:=s.heap.objs.size+1) k;calc .inr ⟨.inl k,c,e,?_⟩;have q:=x.cell y c e;rw[uN m l C (by show scope.names.lookup y≠_;rw[k];decide)]at q;exact q
 ·exact g.aU.fresh (L' (x.above y c (aaT h)))
 ·unfold start;show _=N.length;rw[List.length_append,List.length_map,List.length_replicate];lia
theorem MO{CX:FI}{P:Program}{w:World}{k:Nat}{f:Addr}{name a:Str}{b:Arguments}{c:List Stmt}{scope:Scope}{o kV j y h ct l:Value}{F od:Option Addr}
  {M:Array (Option Value)} {N z:List Str} {sp:Sp} (O:K.lookup f=some ⟨l,od,.func (W.fnOf name a b c scope o kV j y F h ct),M⟩) (R:W.codeIn K h a=true) (S:aD N z scope)
  (l:∀vs H Q E,sp vs H Q E->vs.length=z.length)
  (T:∀(A:Around) (outer:List Env) (s:Shared) (H:Hp) (vs:List V) (Q:VK) (E:XK),dq k (A.deeper (envOfC a scope s.heap.objs.size f h))->sp vs H Q E->
   ∃t,qr (gV CX P w K mg base N a scope f h A outer s H E) c t/\t {nx:=λ_ g=>Q .bx g,rt:=Q} (start N vs) H):
  iM P w K mg base CX (k+1) f (W.fnOf name a b c scope o kV j y F h ct) z sp:=by
 calc⟨l,λA outer s H b us vs Q E B m U r G=>?_⟩;have X:=l _ _ _ _ G;have I:K.In s.heap:=m.mod.xt.keeps λb o e=>(m.bs b o e).1;have C:s.heap.NoLimit:=m.mod.nolimit.keeps λb o e=>(m.bs b o e).1;have Y:∀y∈z.zip us,scope.names.lookup y.1=some .local\/(scope.names.lookup y.1=some .cell/\((cellsFrom (s.heap.objs.size+1) scope.names []).lookup y.1).isSome=true):=λ⟨n,v⟩ Z=>by
  rcases S.par n (List.of_mem_zip Z).1 with q|q
  ·exact .inl q
  ·exact .inr ⟨q,W.cellsFrom_some _ _ _ (.inl q)⟩
 calc codeAny_call_function B.depth (I _ _ O) rfl S.co S.gen rfl (W.codeRec_of I R) (U _ _ _ _ ?_);calc wpAny_newFunctionEnv_cells S.kind Y λb he L x=>?_;subst he;calc⟨C.keeps x.toInCall.keep,codeAny_func ?_⟩;obtain⟨t,c,j⟩:=T A outer s H vs Q E (B.deeper _) G;have I:Inv (gV CX P w K mg base N a scope f h A outer s H E) [] (start N vs) H L:=uO S B.hd m X r x;calc aag (c [] L (start N vs) H _ I j) (λfl b i=>?_) λe b i=>i;have p:∀{d:St} {g:Hp} {v:V} {u:Value},Inv (gV CX P w K mg base N a scope f h A outer s H E) [] d g b->RelV v u->Q v g->CE outer P w H s Q u b:=
  λ{d g v u} J D q=>⟨v,g,J.os,J.bare,J.base,J.aU,D,q⟩
 cases fl with
 |ret u=>
  obtain⟨v,d,g,J,D,q⟩:=i;calc p J D q
 |next=>
  obtain⟨d,g,J,q⟩:=i;calc p (v:=V.bx) (u:=Value.none) J rfl q
 |brk=>
  obtain⟨_,_,_,q⟩:=i;calc Y' q
 |cont=>
  obtain⟨_,_,_,q⟩:=i;calc Y' q
end
section
section
variable {X:Cx}{x:Str}{p pos:Pos}{e:Expr}{es:List Expr}{t:TA}{id T:String}{r:List V->Hp->VK->Prop}
def Sb(r:List V->Hp->VK->Prop)(t:TA):TE:=λσ H Q=>t σ H λvs a=>r vs a Q
theorem FO(a:eR X (.builtin id) r)(b:Gl X x)(c:X.mg x=none)(d:bootBuiltins x=some (.builtin id))(f:PA X (e::es) t)(g:x≠"__name__":=by decide)(i:(x==("__debug__":Str))=false:=by decide)
  (j:starEach (e::es) X.env=(false,eval e X.env)::starEach es X.env:=by rfl) (k:(backTo pos (starEach es X.env)).any (·.1)=false:=by rfl):PE X (.Call (.Name x p) (e::es) [] pos) (Sb r t):=by
 walk_at "xc";refine aaU (oV I b c d ?_ g i);exact PyProof.Rows.callWith_builtin1 (cD (f pos pins s σ H _ I h) λl m ⟨n,o,q,u,v⟩=>a pins m σ o n l Q q u v) j k
theorem Dk(a:eR X (.type T) r)(b:Gl X x)(c:X.mg x=none)(d:bootBuiltins x=some (.type T))(f:PA X (e::es) t)(g:x≠"__name__":=by decide)(i:(x==("__debug__":Str))=false:=by decide)
  (j:starEach (e::es) X.env=(false,eval e X.env)::starEach es X.env:=by rfl) (k:(backTo pos (starEach es X.env)).any (·.1)=false:=by rfl):PE X (.Call (.Name x p) (e::es) [] pos) (Sb r t):=by
 walk_at "xc";refine aaU (oV I b c d ?_ g i);exact PyProof.Rows.callWith_type1 (cD (f pos pins s σ H _ I h) λl m ⟨n,o,q,u,v⟩=>a pins m σ o n l Q q u v) j k
end
end
end L2
namespace HT
open PySem PyProof.Rows
variable {Q:Value->Shared->Prop}
section
open PySem.SeqAt
open PySem.AutoSeq1 (wpAny_loadPart')
open PySem.MeetsSeq PySem.MeetsSeq2 PySem.MeetsSeq3
end
section
variable {prog:Program}{w:World}{A:Around}{E:Value->Shared->Prop}{s:Shared}
theorem KC{t b:Addr}{vs ws:List Value}(p:IsTup s.heap t vs.toArray)(q:IsTup s.heap b ws.toArray)(f:vs≠[])
  (r:ws=[]->Q (.ref t) s) (u:ws≠[]->Q (.ref s.heap.objs.size) {s with heap:=s.heap.push {cls:=.type "tuple",data:=.seq (vs++ws).toArray}})
  (hsz:vs.length+ws.length<=sizeLine):wpAny (model prog w) A (binaryOp .Add (.ref t) (.ref b)) Q E s:=by
 obtain⟨⟨cls,g,data,h⟩,c,i,n,j⟩:=id p;obtain⟨⟨v,k,e,l⟩,d,m,o,a⟩:=id q;simp only at i j m a;subst i j m a;have e:vs.toArray++ws.toArray=(vs++ws).toArray:=by simp
 by_cases a:ws=[]
 ·exact concat_meets ⟨_,c,rfl⟩ ⟨_,d,rfl⟩ noFill_tuple_add seq_tuple_add PySem.F.slot_tuple_add PySem.F.entry_tuple_add (PySem.F.args_tuple_add_2 _ _)
   (tuple_addW1 t b vs.toArray ws.toArray n o g k h l (by simpa using f) (by simp[a])) ⟨c,d,r a⟩
 ·refine concat_meets ⟨_,c,rfl⟩ ⟨_,d,rfl⟩ noFill_tuple_add seq_tuple_add PySem.F.slot_tuple_add PySem.F.entry_tuple_add (PySem.F.args_tuple_add_2 _ _)
   (tuple_addW2 t b vs.toArray ws.toArray n o g k h l (by simpa using f) (by simpa using a) (by rw[List.size_toArray,List.size_toArray];calc hsz)) ⟨c,d,?_⟩
  rw[e];calc u a
def eE(n d:Nat):Option Int->Nat
 |none=>d
 |some v=>if v<0 then(v+(n:Int)).toNat else min v.toNat n
theorem FQ(n d:Nat):eE n d none=d:=rfl
theorem vU(n d k:Nat):eE n d (some (k:Int))=min k n:=by
 show(if (k:Int)<0 then((k:Int)+(n:Int)).toNat else min (k:Int).toNat n)=min k n;rw[if_neg (),Int.toNat_natCast]
theorem Pf(n d:Nat)(a:d<=n)(o:Option Int):eE n d o<=n:=by
 cases o with
 |none=>calc a
 |some v=>
  show(if v<0 then(v+(n:Int)).toNat else min v.toNat n)<=n;by_cases a:v<0
  ·rw[if_pos a];lia
  ·rw[if_neg a];calc Nat.min_le_right _ _
theorem BB(v:Int)(n d:Nat):(if v<0 then max (v+(n:Int)) 0 else min v (n:Int))=((eE n d (some v):Nat):Int):=by
 show(if v<0 then max (v+(n:Int)) 0 else min v (n:Int))=(((if v<0 then(v+(n:Int)).toNat else min v.toNat n):Nat):Int)
 by_cases a:v<0
 ·simp only[if_pos a];lia
 ·simp only[if_neg a];lia
theorem zW(lo hi:Option Int)(n:Nat):Builtin.Slice.sliceAdjust lo hi 1 (n:Int)=(((eE n 0 lo:Nat):Int),((eE n n hi:Nat):Int)):=by
 have a:¬((1:Int)<0):=by lia
 unfold Builtin.Slice.sliceAdjust;simp only[a,if_false];refine Prod.ext ?_ ?_
 ·cases lo with
  |none=>rfl
  |some v=>exact BB v n 0
 ·cases hi with
  |none=>rfl
  |some v=>calc BB v n n
theorem zX(i j:Nat):Builtin.Slice.slicePlaces (i:Int) (j:Int) 1=j-i:=by
 unfold Builtin.Slice.slicePlaces;have a:(1:Int) > 0:=by lia
 simp only[a,if_true,Int.ediv_one];split<;>lia
theorem rA{v:Value}{o:Option Int}{Q:Option Int->Shared->Prop}(p:IsPart v o)(h:Q o s):wpAny (model prog w) A (Builtin.Slice.slicePartIndex v) Q E s:=by
 cases p with
 |none=>calc slicePart_none h
 |int i t=>calc slicePart_int h
theorem jB{c:Addr}{a b:Value}{lo hi:Option Int}{n:Nat}{Q:Int×Int×Nat->Shared->Prop}(e:s.heap.IsSliceOf c a b .none)(pl:IsPart a lo)(f:IsPart b hi)
  (h:Q (((eE n 0 lo:Nat):Int),1,eE n n hi-eE n 0 lo) s):wpAny (model prog w) A (Builtin.Slice.sliceApplied (.ref c) (pure (n:Int))) Q E s:=by
 obtain⟨g,c,i,d⟩:=id e;unfold Builtin.Slice.sliceApplied Builtin.Slice.sliceFields;calc j' (j' (aaj c d (x:=a) rfl (j' (aaj c d (x:=b) rfl (j' (aaj c d (x:=.none) rfl (P' ?_)))))));calc j' (slicePart_none ?_);show wpAny _ _ (if ((1:Int)==0)=true then _ else _) _ _ s;rw[if_neg ∅];calc j' (rA pl (j' (rA f (j' (P' ?_)))));show wpAny _ _ (match Builtin.Slice.sliceAdjust lo hi 1 (n:Int) with|(lo,hi)=>pure (lo,(1:Int),Builtin.Slice.slicePlaces lo hi 1)) _ _ s;rw[zW lo hi n];show wpAny _ _ (pure (((eE n 0 lo:Nat):Int),(1:Int),Builtin.Slice.slicePlaces ((eE n 0 lo:Nat):Int) ((eE n n hi:Nat):Int) 1)) _ _ s;rw[zX];calc P' h
theorem FT(xs:Array Value)(i k:Nat):((List.range k).filterMap λ(m:Nat)=>xs[((i:Int)+(m:Int)*1).toNat]?).toArray=((xs.toList.drop i).take k).toArray:=by
 have e:(λ(m:Nat)=>xs[((i:Int)+(m:Int)*1).toNat]?)=λm=>xs[i+m]?:=by
  funext m;have:((i:Int)+(m:Int)*1).toNat=i+m:=by lia
  rw[this]
 rw[e];have:=pick_run xs i k;rw[List.filterMap_map]at this;have a:((λx=>xs[x]?) ∘ λx=>i+x)=λm=>xs[i+m]?:=rfl;rw[a]at this;rw[this]
theorem nI{t d:Addr}{a:Array Value}{c e:Value}{lo hi:Option Int}(b:IsTup s.heap t a)(f:s.heap.IsSliceOf d c e .none)(pl:IsPart c lo)(g:IsPart e hi)
  (i:¬(eE a.size 0 lo=0/\eE a.size a.size hi=a.size))
  (h:Q (.ref s.heap.objs.size) {s with heap:=s.heap.push {cls:=.type "tuple",data:=.seq ((a.toList.drop (eE a.size 0 lo)).take (eE a.size a.size hi-eE a.size 0 lo)).toArray}})
  (hsz:a.size<=sizeLine):wpAny (model prog w) A (getItem (.ref t) (.ref d)) Q E s:=by
 have c:sizeOk (.seq ((a.toList.drop (eE a.size 0 lo)).take (eE a.size a.size hi-eE a.size 0 lo)).toArray):=by
  show((a.toList.drop (eE a.size 0 lo)).take (eE a.size a.size hi-eE a.size 0 lo)).toArray.size<=sizeLine;rw[List.size_toArray,List.length_take,List.length_drop,Array.length_toList];lia
 have e:eE a.size a.size hi<=a.size:=Pf _ _ (K' _) hi;obtain⟨j,k,l,e⟩:=id f;have e:s.TypeIs (.ref d) "slice":=⟨j,k,l⟩
 unfold getItem
 try with_reducible refine aaF ?_
 first|calc j' (P' ?_)|skip
 calc j' (wpAny_sequenceKey b.typeIs ∅ ?_);refine j' (aaN (name:=Str.ofString "__getitem__") b.typeIs aa4
  (wpAny_call_entry aa4 b.typeIs entry_tuple_getitem ?_ (args_tuple_getitem _ _)))
 show wpAny _ _ (Builtin.Tuple.tupleItemsOf (.ref t) >>= _) _ _ s;calc j' (tupleItemsOf_ b ?_);calc j' (wpAny_typeOf e ?_);rw[if_pos ∅];calc j' (jB f pl g ?_);have d:¬((((eE a.size 0 lo:Nat):Int)==0&&(1:Int)==1&&(eE a.size a.size hi-eE a.size 0 lo)==a.size)=true):=by
  intro q;rw[Bool.and_eq_true,Bool.and_eq_true]at q;have b:((eE a.size 0 lo:Nat):Int)=0:=eq_of_beq q.1.1;have b:eE a.size a.size hi-eE a.size 0 lo=a.size:=eq_of_beq q.2;exact i ⟨(),()⟩
 show wpAny _ _ (if (((eE a.size 0 lo:Nat):Int)==0&&(1:Int)==1&&(eE a.size a.size hi-eE a.size 0 lo)==a.size)=true then _ else _) _ _ s;rw[if_neg d,FT]
 first
  |calc j' (m:=Builtin.Tuple.tupleExact _) (aaO (P' ⟨_,rfl,P' h⟩) c)
  |calc j' (m:=Builtin.Tuple.tupleExact _) (aaO (j' (P' (P' ⟨_,rfl,P' h⟩))) c)
  |calc j' (j' (m:=Builtin.Tuple.tupleExact _) (aaO (P' (P' ⟨_,rfl,P' h⟩)) c))
  |calc j' (j' (m:=Builtin.Tuple.tupleExact _) (aaO (P' ⟨_,rfl,P' h⟩) c))
end
end HT
namespace L2
open PySem PySem.Spec PyProof.Rows
section
abbrev TO:=St->Hp->(Option Int->Hp->Prop)->Prop
def PO(X:Cx)(e:Option Expr)(t:TO):Prop:=
 ∀(pins:List (Addr×Obj)) (s:Shared) (σ:St) (H:Hp) (Q:Option Int->Hp->Prop),Inv X pins σ H s->t σ H Q->
  wpAny (model X.prog X.w) X.A (evalPart e X.env) (λu s'=>∃o a,Inv X pins σ a s'/\IsPart u o/\Q o a) X.xe s
def vV:TO:=λ_ H Q=>Q none H
def FU(t:TE):TO:=λσ H Q=>t σ H λx a=>∃i,x=.int i/\Q (some i) a
section
variable {X:Cx}{e:Expr}{te:TE}{lo hi:Option Expr}{tl th:TO}{pos p2:Pos}
theorem fe:PO X none vV:=by
 intro a s σ H Q I h;rw[evalPart_none];calc P' ⟨none,H,I,.none,h⟩
theorem eL(h:PE X e te):PO X (some e) (FU te):=by
 intro a s σ H Q I b;rw[evalPart_some];calc cD (h a s σ H _ I b) λu k c=>?_;obtain⟨x,d,f,g,j⟩:=c;obtain⟨i,rfl,q⟩:=j;obtain⟨t,rfl⟩:=g;calc⟨some i,d,f,.int i t,q⟩
def Uq(X:Cx)(r:V->Option Int->Option Int->Hp->VK->Prop):Prop:=
 ∀(pins:List (Addr×Obj)) (s:Shared) (σ:St) (H:Hp) (x:V) (v a b:Value) (lo hi:Option Int) (c:Addr) (Q:VK),Inv X pins σ H s->RelV x v->s.heap.IsSliceOf c a b .none->IsPart a lo->IsPart b hi->r x lo hi H Q->
  ∃T a,typeLookup (.type T) "__getitem__"=pure (some (.builtin a))/\s.TypeIs v T/\wpAny (model X.prog X.w) X.A (getItem v (.ref c)) (EP X pins σ Q) X.xe s
def Ur(r:V->Option Int->Option Int->Hp->VK->Prop)(te:TE)(tl th:TO):TE:=λσ H Q=>te σ H λx a=>tl σ a λl b=>th σ b λu a=>r x l u a Q
theorem xS{r:V->Option Int->Option Int->Hp->VK->Prop}(g:Uq X r)(a:PE X e te)(d:PO X lo tl)(f:PO X hi th):PE X (.Subscript e (.Slice lo hi none p2) pos) (Ur r te tl th):=by
 walk_at "xc";refine Subscript_ (cD (a pins s σ H _ I h) λv i b=>?_);obtain⟨x,a,j,k,m⟩:=b;refine wpAny_Slice (cD (d pins i σ a _ j m) λc n ⟨l,o,p,r,q⟩=>cD (f pins n σ o _ p q) λd a b=>?_);obtain⟨u,f,i,j,m⟩:=b;rw[evalPart_none];refine P' ?_;have n:Inv X pins σ f {a with heap:=a.heap.push {cls:=.type "slice",data:=.fields #[c,d,.none]}}:=i.kept (t':=a.toks) λb i q=>J' _ q;obtain⟨T,p,b,i,o⟩:=g pins {a with heap:=a.heap.push {cls:=.type "slice",data:=.fields #[c,d,.none]}} σ f x v c d l u a.heap.objs.size Q n k (Heap.IsSliceOf.new ..) r j m;show wpAny (model X.prog X.w) X.A (subscriptTail e (.Slice lo hi none p2) v (.ref a.heap.objs.size)) (EP X pins σ Q) X.xe {a with heap:=a.heap.push {cls:=.type "slice",data:=.fields #[c,d,.none]}};exact tail_any (ops:=[.ref a.heap.objs.size,v]) i b o (by with_unfolding_all rfl)
def bR(xs:List V)(lo hi:Option Int):List V:=(xs.drop (HT.eE xs.length 0 lo)).take (HT.eE xs.length xs.length hi-HT.eE xs.length 0 lo)
theorem fz(xs:List V)(lo hi:Option Int):(bR xs lo hi).length<=xs.length:=by
 unfold bR;rw[List.length_take,List.length_drop];lia
def aak(K:W.Frag):V->Option Int->Option Int->Hp->VK->Prop:=λx lo hi H Q=>∃a xs,x=.ref a/\bH K H a xs/\
 ¬(HT.eE xs.length 0 lo=0/\HT.eE xs.length xs.length hi=xs.length)/\∀p,H p=none->Q (.ref p) (upd H p (.tup (bR xs lo hi)))
theorem Ph:Uq X (aak X.K):=by
 intro b s σ H x v d m lo hi n Q I e g i j h;obtain⟨a,c,rfl,k,l,q⟩:=h
 cases e;obtain⟨m,r,b,d⟩:=I.tuple k;have a:m.toArray.size=c.length:=by rw[List.size_toArray];exact r.length.symm
 refine⟨"tuple",_,PyProof.Rows.slot_tuple_getitem.lookup,b.typeIs,?_⟩;refine HT.nI b g i j (by rw[a];exact l) ?_ (by rw[a];exact d);rw[a];refine⟨.ref s.heap.objs.size,_,I.laid (t':=s.toks) (o:=.tup (bR c lo hi)) (λb a q=>J' _ q) (K' _) ?_,rfl,q _ (I.aU.fresh (K' _))⟩;exact⟨aae (fz c lo hi) d,_,(r.drop (HT.eE c.length 0 lo)).take (HT.eE c.length c.length hi-HT.eE c.length 0 lo),IsTup.new _ _⟩
def Us(K:W.Frag):R2:=λx y H Q=>∃a b xs ys,x=.ref a/\y=.ref b/\bH K H a xs/\bH K H b ys/\xs≠[]/\xs.length+ys.length<=sizeLine/\
 (ys=[]->Q (.ref a) H)/\(ys≠[]->∀p,H p=none->Q (.ref p) (upd H p (.tup (xs++ys))))
theorem Vals.vW{xs:List V}{us:List Value}(r:Vals xs us):us=[]↔xs=[]:=by
 cases r with
 |nil=>simp
 |cons _ _=>simp
theorem KD:fJ X (binaryOp .Add) (Us X.K):=by
 intro c s σ H x y v u Q I d f h;obtain⟨a,b,g,i,rfl,rfl,j,k,l,e,m,n⟩:=h
 cases d
 cases f;obtain⟨c,d,h,_⟩:=I.tuple j;obtain⟨f,c,p2,_⟩:=I.tuple k;calc HT.KC h p2 (λz=>l (d.vW.mp z)) (λz=>⟨.ref a,H,I,rfl,m (c.vW.mp z)⟩) (λz=>?_) (by rw[<-d.length,<-c.length];calc e);calc⟨.ref s.heap.objs.size,_,I.laid (t':=s.toks) (o:=.tup (g++i)) (λb a q=>J' _ q) (K' _) ?_,rfl,n (λw=>z (c.vW.mpr w)) _ (I.aU.fresh (K' _))⟩;calc⟨by rw[List.length_append];calc e,_,d.append c,IsTup.new _ _⟩
end
end
section
def zY(n:Nat)(i:Int):Option Nat:=if 0<=i then(if i<n then some i.toNat else none) else if -(n:Int)<=i then some (i+n).toNat else none
def iQ{α:Type}(xs:List α)(i:Int):Option α:=(zY xs.length i).bind λj=>xs[j]?
theorem BD{n:Nat}{i:Int}{j:Nat}(h:zY n i=some j):seqIndex? i n=some j/\j<n/\-(n:Int)<=i/\i<n:=by
 unfold zY at h;by_cases b:0<=i
 ·rw[if_pos b] at h;by_cases a:i < n
  ·rw[if_pos a]at h;have e:i.toNat=j:=Option.some.inj h;exact⟨by rw[seqIndex_of b a,e],(),(),a⟩
  ·rw[if_neg a]at h;cases h
 ·rw[if_neg b] at h;by_cases a:-(n:Int)<=i
  ·rw[if_pos a]at h;have e:(i+n).toNat=j:=Option.some.inj h;exact⟨by rw[seqIndex_neg () a,e],(),a,()⟩
  ·rw[if_neg a]at h;cases h
theorem vX{α:Type}{xs:List α}{i:Int}{v:α}(h:iQ xs i=some v):∃j,seqIndex? i xs.length=some j/\xs[j]?=some v/\j<xs.length/\-(xs.length:Int)<=i/\i<xs.length:=by
 unfold iQ at h
 cases e:zY xs.length i with
 |none=>rw[e]at h;cases h
 |some j=>
  rw[e]at h;obtain⟨a,b,c,d⟩:=BD e;calc⟨j,a,h,b,c,d⟩
theorem aA{α:Type}{xs:List α}{j:Nat}{v:α}(h:xs[j]?=some v):iQ xs (j:Int)=some v:=by
 have a:j<xs.length:=(List.getElem?_eq_some_iff.mp h).1;have e:zY xs.length (j:Int)=some j:=by
  unfold zY;rw[if_pos (),if_pos ()];simp
 unfold iQ;rw[e];calc h
def BE(b:Expr):Prop:=∀o i,subscripted b false o i=operate [o,i] (getItem o i)
def Ut(X:Cx)(r:R2):Prop:=
 ∀(b a:Expr) (pins:List (Addr×Obj)) (s:Shared) (σ:St) (H:Hp) (x y:V) (v u:Value) (Q:VK),Inv X pins σ H s->RelV x v->RelV y u->r x y H Q->
  subscripted a false v u=operate [v,u] (getItem v u)->wpAny (model X.prog X.w) X.A (subscriptTail b a v u) (EP X pins σ Q) X.xe s
def MP(X:Cx)(a:String)(r:V->List V->Hp->VK->Prop):Prop:=
 ∀(pins:List (Addr×Obj)) (s:Shared) (σ:St) (H:Hp) (x:V) (xs:List V) (v:Value) (us:List Value) (Q:VK),Inv X pins σ H s->RelV x v->Vals xs us->r x xs H Q->
  wpAny (model X.prog X.w) X.A (call (.builtin a) (v::us)) (EP X pins σ Q) X.xe s
section
variable {X:Cx}{a b:Expr}{ta tb:TE}{pos:Pos}
theorem Uu{r:R2}(c:Ut X r)(d:PE X a ta)(e:PE X b tb)(f:BE b):PE X (.Subscript a b pos) (Fx r ta tb):=by
 walk_at "xc";exact Subscript_ (O2 d e I h λv u g x y i j k l q=>c a b pins g σ i x y v u Q j k l q (f _ _))
def aal(K:W.Frag):R2:=λx y H Q=>∃p xs i v,x=.ref p/\y=.int i/\aS K H p xs/\iQ xs i=some v/\Q v H
def aam(K:W.Frag):R2:=λx y H Q=>∃p xs i v,x=.ref p/\y=.int i/\bH K H p xs/\iQ xs i=some v/\Q v H
def aan:R2:=λx y H Q=>∃z i c,x=.str z/\y=.int i/\z.length<=sizeLine/\iQ z.cps.toList i=some c/\Q (.str ⟨#[c]⟩) H
theorem KG:Ut X (aal X.K):=by
 intro b c a s σ H x y v u Q I d e h f;obtain⟨p,j,i,z,rfl,rfl,g,k,q⟩:=h
 cases d;obtain⟨t,rfl⟩:=e;obtain⟨l,r,d,b⟩:=I.list g;obtain⟨j,c,b,e,m,n⟩:=vX k;obtain⟨w,g,e⟩:=r.get b;have k:=r.length;have b:=rm;have b:EP X a σ Q w s:=⟨z,H,I,e,q⟩
 by_cases h:0<=i
 ·have e:i.toNat=j:=by
   rw[seqIndex_of h n]at c;exact Option.some.inj c
  exact item_listR d.isList h () (by rw[e];simpa using g) b f
 ·have e:(i+(l.toArray.size:Int)).toNat=j:=by
   rw[seqIndex_neg () m]at c;rw[List.size_toArray,<-k];exact Option.some.inj c
  exact subscriptTail_builtinR (x:=w) d.isList.typeIs slot_list_getitem.lookup
   (wpAny_getItem_list_neg (Q:=λr c=>r=w/\EP X a σ Q r c) d.isList () (by rw[List.size_toArray]<;>lia) () (by rw[e];simpa using g) ⟨rfl,b⟩) f
theorem Pj:Ut X (aam X.K):=by
 intro b c a s σ H x y v u Q I d e h f;obtain⟨p,j,i,z,rfl,rfl,g,k,q⟩:=h
 cases d;obtain⟨t,rfl⟩:=e;obtain⟨b,r,c,d⟩:=I.tuple g;obtain⟨j,d,b,e,h,i⟩:=vX k;obtain⟨w,e,g⟩:=r.get b;have h:=r.length;have b:=rm;have b:EP X a σ Q w s:=⟨z,H,I,g,q⟩
 exact subscriptTail_builtinR (x:=w) c.typeIs slot_tuple_getitem.lookup
  (getItem_tuple (j:=j) (Q:=λr g=>r=w/\EP X a σ Q r g) c () () (by rw[List.size_toArray,<-h];calc d) (by simpa using e) ⟨rfl,b⟩) f
theorem Pk:Ut X aan:=by
 intro a b d s σ H x y v u Q I e f h g;obtain⟨z,i,c,rfl,rfl,j,k,q⟩:=h;obtain⟨t,rfl⟩:=e;obtain⟨l,rfl⟩:=f;obtain⟨j,a,b,h,d,e⟩:=vX k;have f:z.cps.toList.length=z.length:=by simp[Str.length]
 rw[f] at a d e;have h:=rm;exact tail_any (typeIs_str s z t) slot_str_getitem.lookup (getItem_str (c:=c) (by
  have d:decide (i < -(2 ^ 63:Int))=false:=decide_eq_false ();have e:decide (i >= 2 ^ 63)=false:=decide_eq_false ();rw[d,e,Bool.or_false]) (by rw[a];simpa using b) ⟨.str ⟨#[c]⟩,H,I.tok _,⟨_,rfl⟩,q⟩) g
theorem zZ(a:List Value)(n j:Nat)(u:Value):Obj.mapSeq (·.setIfInBounds j u) {cls:=.type "list",data:=.seq a.toArray n}={cls:=.type "list",data:=.seq (a.set j u).toArray n}:=by
 simp[Obj.mapSeq]
theorem Inv.lst{pins:List (Addr×Obj)}{σ:St}{H:Hp}{s:Shared}{p:Addr}{xs:List V}(I:Inv X pins σ H s)(h:H p=some (.lst xs)):
  ∃(a:List Value) (n:Nat),Vals xs a/\s.heap.get? p=some {cls:=.type "list",data:=.seq a.toArray n}/\xs.length<=sizeLine:=by
 obtain⟨z,a,n,r,e⟩:=I.aU p _ h;calc⟨a,n,r,e,z⟩
theorem Inv.Pl{pins:List (Addr×Obj)}{σ:St}{H:Hp}{s:Shared}{p:Addr}{xs ys:List V}{c kC:List Value}{n a:Nat}{f:Obj->Obj}(I:Inv X pins σ H s)(h:H p=some (.lst xs))
  (g:s.heap.get? p=some {cls:=.type "list",data:=.seq c.toArray n}) (d:f {cls:=.type "list",data:=.seq c.toArray n}={cls:=.type "list",data:=.seq kC.toArray a}) (r:Vals ys kC) (c:ys.length<=sizeLine) (t:Nat):
  Inv X pins σ (upd H p (.lst ys)) {s with heap:=s.heap.update p f,toks:=t}:=by
 have e:(s.heap.update p f).get? p=some {cls:=.type "list",data:=.seq kC.toArray a}:=by
  rw[Heap.get?_update_self f g (by rw[d]<;>rfl),d]
 calc I.write (x:=p) (e:=p) (by rw[h];trivial) (.inl rfl) (λb u d q=>(Heap.get?_update_other _ _ (Ne.symm d)).trans q) ⟨_,e⟩ ?_;calc⟨c,kC,a,r,e⟩
def Uv:V->V->V->Hp->(Hp->Prop)->Prop:=λo i v H Q=>∃p xs k j,o=.ref p/\i=.int k/\H p=some (.lst xs)/\zY xs.length k=some j/\Q (upd H p (.lst (xs.set j v)))
theorem set_list:OW X Uv:=by
 intro a s σ H o i v c f u Q I b d l h;obtain⟨p,m,k,j,rfl,rfl,e,w,q⟩:=h
 cases b;obtain⟨t,rfl⟩:=d;obtain⟨f,n,r,c,o⟩:=I.lst e;obtain⟨b,d,g,h⟩:=BD w;have d:=r.length;have i:=rm;have i:Inv X a σ (upd H p (.lst (m.set j v))) {s with heap:=s.heap.update p (Obj.mapSeq (·.setIfInBounds j u))}:=
  I.Pl e c (zZ f n j u) (r.set l j) (by rw[List.length_set];calc o) s.toks
 by_cases e:0<=k
 ·have a:k.toNat=j:=by
   rw[seqIndex_of e h]at b;exact Option.some.inj b
  exact W.ki_setAt c e () (by rw[List.size_toArray,<-d];calc h) (by rw[a];calc⟨_,i,q⟩)
 ·have a:(k+(f.toArray.size:Int)).toNat=j:=by
   rw[seqIndex_neg () g]at b;rw[List.size_toArray,<-d];exact Option.some.inj b
  calc W.ki_setBack c () (by rw[List.size_toArray,<-d];calc g) () (by rw[a];calc⟨_,i,q⟩)
theorem vY(lo hi:Option Int)(n:Nat):(sliceBounds lo hi none n).1=((HT.eE n 0 lo:Nat):Int)/\(sliceBounds lo hi none n).2.1=((HT.eE n n hi:Nat):Int)/\(sliceBounds lo hi none n).2.2=1:=by
 refine⟨?_,?_,rfl⟩
 ·cases lo with
  |none=>simp[sliceBounds,HT.eE]
  |some i=>
   simp only[sliceBounds,HT.eE,Option.getD_none,show(1:Int) > 0 by decide,if_true];by_cases h:i<0
   ·simp only[h,if_true]<;>lia
   ·simp only[h,if_false]<;>lia
 ·cases hi with
  |none=>simp[sliceBounds,HT.eE]
  |some i=>
   simp only[sliceBounds,HT.eE,Option.getD_none,show(1:Int) > 0 by decide,if_true];by_cases h:i<0
   ·simp only[h,if_true]<;>lia
   ·simp only[h,if_false]<;>lia
theorem tP(a:List Value)(lo hi:Option Int):slicePick a.toArray lo hi none=((a.drop (HT.eE a.length 0 lo)).take (HT.eE a.length a.length hi-HT.eE a.length 0 lo)).toArray:=by
 obtain⟨b,c,d⟩:=vY lo hi a.toArray.size;unfold slicePick;rw[b,c,d];simp only[sliceRange_one,pick_run,List.size_toArray]<;>rfl
def aao(K:W.Frag):V->Option Int->Option Int->Hp->VK->Prop:=λx lo hi H Q=>∃a xs,x=.ref a/\aS K H a xs/\∀p,H p=none->Q (.ref p) (upd H p (.lst (bR xs lo hi)))
theorem BG:Uq X (aao X.K):=by
 intro d s σ H x v g n e f p Q I i j k l h;obtain⟨a,c,rfl,m,q⟩:=h
 cases i;obtain⟨d,r,g,h⟩:=I.list m;have d:=r.length;refine⟨"list",_,slot_list_getitem.lookup,g.isList.typeIs,?_⟩;refine wpAny_getItem_list_slice g.isList j k l .none nofun ?_ (by rw[List.size_toArray]<;>lia);rw[tP,<-d];refine⟨.ref s.heap.objs.size,_,I.laid (t':=s.toks) (o:=.lst (bR c e f)) (λb d q=>J' _ q) (K' _) ?_,rfl,q _ (I.aU.fresh (K' _))⟩;exact⟨aae (fz c e f) h,_,0,(r.drop (HT.eE c.length 0 e)).take (HT.eE c.length c.length f-HT.eE c.length 0 e),V' _ rfl⟩
def fO:V->Bool
 | .bx=>true
 | .bl _=>true
 | .int _=>true
 | .str _=>true
 |_=>false
def BH:V->V->Bool
 | .bx,.bx=>true
 | .bl a,.bl b=>a==b
 | .bl a,.int b=>(if a then 1 else 0)==b
 | .int a,.bl b=>a==(if b then 1 else 0)
 | .int a,.int b=>a==b
 | .str a,.str b=>a==b
 |_,_=>false
theorem z7{A:Around}{s:Shared}{y x:V}{u v:Value}(e:RelV y u)(c:RelV x v)(g:fO y=true)(f:fO x=true):SeqAt.EqAt A s u v (BH y x):=by
 cases y with
 |bx=>
  cases e
  cases x with
  |bx=>cases c;calc SeqAt.EqAt.same _
  |bl b=>cases c;calc SeqAt.EqAt.none_bool b
  |int b=>obtain⟨t,rfl⟩:=c;calc SeqAt.EqAt.none_int b t
  |str b=>obtain⟨t,rfl⟩:=c;calc SeqAt.EqAt.none_str b t
  |_=>calc absurd (show false=true from f) U'
 |bl a=>
  cases e
  cases x with
  |bx=>cases c;calc SeqAt.EqAt.bool_none a
  |bl b=>cases c;calc SeqAt.EqAt.bool_bool a b
  |int b=>obtain⟨t,rfl⟩:=c;calc SeqAt.EqAt.bool_int a b t
  |str b=>obtain⟨t,rfl⟩:=c;calc SeqAt.EqAt.bool_str a b t
  |_=>calc absurd (show false=true from f) U'
 |int a=>
  obtain⟨d,rfl⟩:=e
  cases x with
  |bx=>cases c;calc SeqAt.EqAt.int_none a d
  |bl b=>cases c;calc SeqAt.EqAt.int_bool a d b
  |int b=>obtain⟨t,rfl⟩:=c;calc SeqAt.EqAt.int_int a d b t
  |str b=>obtain⟨t,rfl⟩:=c;calc SeqAt.EqAt.int_str a d b t
  |_=>calc absurd (show false=true from f) U'
 |str a=>
  obtain⟨d,rfl⟩:=e
  cases x with
  |bx=>cases c;calc SeqAt.EqAt.str_none a d
  |bl b=>cases c;calc SeqAt.EqAt.str_bool a d b
  |int b=>obtain⟨t,rfl⟩:=c;calc SeqAt.EqAt.str_int a d b t
  |str b=>obtain⟨t,rfl⟩:=c;calc SeqAt.EqAt.str_str a d b t
  |_=>calc absurd (show false=true from f) U'
 |_=>calc absurd (show false=true from g) U'
def Aa(x:V)(u:Value):Bool:=match u with
 | .none=>BH .bx x
 | .bool b=>BH (.bl b) x
 | .int i _=>BH (.int i) x
 | .str z _=>BH (.str z) x
 |_=>false
theorem FW{x y:V}{u:Value}(r:RelV y u)(f:fO y=true):Aa x u=BH y x:=by
 cases y with
 |bx=>cases r;rfl
 |bl b=>cases r;rfl
 |int i=>obtain⟨t,rfl⟩:=r;rfl
 |str z=>obtain⟨t,rfl⟩:=r;rfl
 |_=>calc absurd (show false=true from f) U'
theorem nJ{x:V}:∀{xs:List V}{us:List Value},Vals xs us->xs.all fO=true->us.any (Aa x)=xs.any λy=>BH y x
 |_,_,.nil,_=>rfl
 |y::xs,u::us,.cons r t,f=>by
  rw[List.all_cons,Bool.and_eq_true]at f;rw[List.any_cons,List.any_cons,FW r f.1,nJ t f.2]
theorem kF{A:Around}{s:Shared}{x:V}{v:Value}(b:RelV x v)(c:fO x=true):∀{xs:List V}{us:List Value},Vals xs us->xs.all fO=true->∀u∈us,SeqAt.EqAt A s u v (Aa x u)
 |_,_,.nil,_=>λu a=>by cases a
 |y::xs,u::us,.cons r t,f=>λd a=>by
  rw[List.all_cons,Bool.and_eq_true]at f;rcases List.mem_cons.mp a with rfl|a
  ·rw[FW r f.1];exact z7 r b f.1 c
  ·calc kF b c t f.2 d a
def xT(x:V)(xs:List V):Bool:=xs.any λy=>BH y x
def rIn(K:W.Frag)(a:Bool):R2:=λx y H Q=>∃p xs,y=.ref p/\(aS K H p xs\/bH K H p xs)/\fO x=true/\xs.all fO=true/\Q (.bl (if a then !xT x xs else xT x xs)) H
theorem Dl:fJ X (compareOp .In) (rIn X.K false):=by
 intro b s σ H x y v u Q I f d h;obtain⟨p,e,rfl,a,g,c,q⟩:=h
 cases d;rcases a with a|a
 ·obtain⟨b,r,d,h⟩:=I.list a;calc SeqAt.in_listAt (Aa x) d.isList (λw e=>kF f g r c w (by simpa using e)) ⟨.bl _,H,I,rfl,?_⟩;rw[show b.toArray.any (Aa x)=b.any (Aa x) by simp,nJ r c];exact q
 ·obtain⟨b,r,d,h⟩:=I.tuple a;calc SeqAt.in_tupleAt (Aa x) d (λw e=>kF f g r c w (by simpa using e)) ⟨.bl _,H,I,rfl,?_⟩;rw[show b.toArray.any (Aa x)=b.any (Aa x) by simp,nJ r c];calc q
theorem vZ:fJ X (compareOp .NotIn) (rIn X.K true):=by
 intro b s σ H x y v u Q I f d h;obtain⟨p,e,rfl,a,g,c,q⟩:=h
 cases d;rcases a with a|a
 ·obtain⟨b,r,d,h⟩:=I.list a;calc SeqAt.notIn_listAt (Aa x) d.isList (λw e=>kF f g r c w (by simpa using e)) ⟨.bl _,H,I,rfl,?_⟩;rw[show b.toArray.any (Aa x)=b.any (Aa x) by simp,nJ r c];exact q
 ·obtain⟨b,r,d,h⟩:=I.tuple a;calc SeqAt.notIn_tupleAt (Aa x) d (λw e=>kF f g r c w (by simpa using e)) ⟨.bl _,H,I,rfl,?_⟩;rw[show b.toArray.any (Aa x)=b.any (Aa x) by simp,nJ r c];calc q
theorem v7:eR X (.type "list") (λxs H Q=>∃p ys,xs=[.ref p]/\(aS X.K H p ys\/bH X.K H p ys)/\∀l,H l=none->Q (.ref l) (upd H l (.lst ys))):=by
 intro g s σ H xs o Q I r h;obtain⟨p,ys,rfl,i,q⟩:=h;obtain⟨u,rfl,n⟩:=vals1 r
 cases n;have j:∀(c:List Value),Vals ys c->ys.length<=sizeLine->∀(a:Heap) (d:Nat),(∀b h,s.heap.get? b=some h->a.get? b=some h)->
   a.get? s.heap.objs.size=some {cls:=.type "list",dict:=none,data:=.seq c.toArray d,slots:=#[]}->EP X g σ Q (.ref s.heap.objs.size) {s with heap:=a}:=λc f k a d m e=>
  ⟨.ref s.heap.objs.size,_,I.laid (t':=s.toks) m (K' _) (show cC X.prog X.w _ a _ (.lst ys) from⟨k,c,d,f,e⟩),rfl,q _ (I.aU.fresh (K' _))⟩
 rcases i with i|i
 ·obtain⟨c,f,h,k⟩:=I.list i;have g:=f.length;obtain⟨o,l,q,n,r⟩:=h.isList;exact call_list_seq p (.inl rfl) l q r (λa d m e=>j c f k a d m e) (by simp only[List.size_toArray]<;>lia)
 ·obtain⟨c,f,h,k⟩:=I.tuple i;have g:=f.length;obtain⟨o,l,q,n,r⟩:=h;calc call_list_seq p (.inr rfl) l q r (λa d m e=>j c f k a d m e) (by simp only[List.size_toArray]<;>lia)
theorem mh:eR X (.type "tuple") (λxs H Q=>∃p ys,xs=[.ref p]/\((aS X.K H p ys/\∀l,H l=none->Q (.ref l) (upd H l (.tup ys)))\/(bH X.K H p ys/\Q (.ref p) H))):=by
 intro a s σ H xs d Q I r h;obtain⟨p,ys,rfl,h⟩:=h;obtain⟨u,rfl,c⟩:=vals1 r
 cases c;rcases h with⟨d,q⟩|⟨d,q⟩
 ·obtain⟨f,g,h,i⟩:=I.list d;have c:=g.length;calc call_tuple_list h.isList (λc e=>?_) (by simp only[List.size_toArray]<;>lia);have j:Inv X a σ H {s with heap:=c}:=I.kept (t':=s.toks) e;have l:Inv X a σ (upd H c.objs.size (.tup ys)) {s with heap:=c.push {cls:=.type "tuple",data:=.seq f.toArray}}:=
   j.laid (t':=s.toks) (λb o e=>J' _ e) (K' _) (show cC X.prog X.w _ _ _ (.tup ys) from⟨i,f,g,IsTup.new _ _⟩)
  exact⟨.ref c.objs.size,_,l,rfl,q _ (j.aU.fresh (K' _))⟩
 ·obtain⟨f,g,h,i⟩:=I.tuple d;calc call_tuple_same h ⟨.ref p,H,I,rfl,q⟩
def tyV(K:W.Frag)(T:String)(x:V)(H:Hp):Prop:=match x with
 | .str _=>T="str"
 | .int _=>T="int"
 | .ref p=>(T="list"/\∃xs,aS K H p xs)\/(T="tuple"/\∃o,K.lookup p=some o/\o.cls=.type "tuple"/\o.dict=none)\/
   (T="dict"/\((∃a,H p=some (.dK a))\/∃a,H p=some (.dT a)))\/(T="set"/\∃S n,H p=some (.set S n))
 |_=>False
theorem Ab{pins:List (Addr×Obj)}{σ:St}{H:Hp}{s:Shared}{T:String}{x:V}{v:Value}(I:Inv X pins σ H s)(r:RelV x v)(f:tyV X.K T x H):
  s.TypeIs v T/\∀a,v=.ref a->∃c,s.heap.get? a=some c/\c.dict=none:=by
 cases x with
 |str z=>
  obtain⟨t,rfl⟩:=r
  cases(show T="str" from f);exact⟨typeIs_str s z t,λ_ e=>nomatch e⟩
 |int i=>
  obtain⟨t,rfl⟩:=r
  cases(show T="int" from f);exact⟨typeIs_int s i t,λ_ e=>nomatch e⟩
 |ref p=>
  cases r;rcases f with⟨rfl,m,k⟩|⟨rfl,o,b,l,g⟩|⟨rfl,b⟩|⟨rfl,S,n,b⟩
  ·obtain⟨c,_,j,_⟩:=I.list k;refine⟨j.isList.typeIs,λa e=>?_⟩
   cases e;obtain⟨o,n,e,c,g,_⟩:=j;exact⟨o,e,g⟩
  ·refine⟨⟨o,I.gh p o b,l⟩,λa e=>?_⟩
   cases e;exact⟨o,I.gh _ o b,g⟩
  ·have z:∃o,s.heap.get? p=some o/\o.ExactDict:=by
    rcases b with⟨c,b⟩|⟨c,b⟩
    ·obtain⟨_,_,_,_,o,_,_,e,d,_⟩:=I.aU p _ b;exact⟨o,e,d⟩
    ·obtain⟨_,_,_,_,o,_,_,e,d,_⟩:=I.aU p _ b;exact⟨o,e,d⟩
   obtain⟨o,e,d⟩:=z;refine⟨⟨o,e,d.1⟩,λa h=>?_⟩
   cases h;exact⟨o,e,d.2.1⟩
  ·obtain⟨o,_,_,_,e,d,_⟩:=I.aU p _ b;refine⟨⟨o,e,d.1⟩,λa h=>?_⟩
   cases h;calc⟨o,e,d.2.1⟩
 |_=>calc Y' f
def Pm(K:W.Frag)(T:String)(r:V->List V->Hp->VK->Prop)(b:TE):TE:=λσ H Q=>b σ H λx a=>tyV K T x a/\r x [] a Q
def Uw(K:W.Frag)(T:String)(r:V->List V->Hp->VK->Prop)(b:TE)(t:TA):TE:=λσ H Q=>b σ H λx a=>tyV K T x a/\t σ a λxs b=>r x xs b Q
variable {o e:Expr}{es:List Expr}{to:TE}{t:TA}{name:Str}{apos gW:Pos}{T id:String}{r:V->List V->Hp->VK->Prop}
theorem FX(d:PlainAttrs T)(a:Slot T name id)(e:typeOf (.builtin id)=pure (.type "method_descriptor"))(f:MP X id r)(b:PE X o to)
  (c:attributeBase o name X.env (eval o X.env)=eval o X.env:=by rfl) (g:(apos.endLine==gW.line)=true:=by rfl):PE X (.Call (.Attribute o name apos) [] [] gW) (Pm X.K T r to):=by
 walk_at "xc";refine wpAny_Call_method0_late c g (cD (b pins s σ H _ I h) λv i j=>?_);obtain⟨x,g,b,c,k,l⟩:=j;obtain⟨m,n⟩:=Ab b c k;exact⟨T,id,d,a,e,m,n,Calls.callWith_builtin rfl (PySem.evalArgs_none (f pins i σ g x [] v [] Q b c .nil l))⟩
theorem dE(f:PlainAttrs T)(a:Slot T name id)(g:typeOf (.builtin id)=pure (.type "method_descriptor"))(i:MP X id r)(b:PE X o to)(j:PA X (e::es) t)
  (c:attributeBase o name X.env (eval o X.env)=eval o X.env:=by rfl)
  (d:((backTo gW (starEach (e::es) X.env)).all (λx=> !x.1) && (backToKw gW (keywordEach [] X.env)).all (λx=>x.1.isSome)
   && decide ((e::es).length + ([]:List Keyword).length + (if ([]:List Keyword).isEmpty then 0 else 1) < 30))=true:=by rfl)
  (k:(apos.endLine==gW.line)=true:=by rfl) (l:starEach (e::es) X.env=(false,eval e X.env)::starEach es X.env:=by rfl) (m:(backTo gW (starEach es X.env)).any (·.1)=false:=by rfl):
  PE X (.Call (.Attribute o name apos) (e::es) [] gW) (Uw X.K T r to t):=by
 walk_at "xc";refine wpAny_Call_method_late c d k rfl (cD (b pins s σ H _ I h) λv n p=>?_);obtain⟨x,k,b,c,q,u⟩:=p;obtain⟨w,y⟩:=Ab b c q;refine⟨T,id,f,a,g,w,y,?_⟩;have d:=j gW pins n σ k _ b u;rw[l]at d ⊢;refine Calls.callWith_builtin (by show(false||(backTo gW (starEach es X.env)).any (·.1))=false;rw[m]<;>rfl) (Calls.evalArgs_plain ?_);exact cD d λa f ⟨g,p,q,w,y⟩=>i pins f σ p x g v a Q q c w y
end
end
section
def YO(X:Cx)(a:String)(r:V->List V->Hp->VK->Prop):Prop:=
 ∀(pins:List (Addr×Obj)) (s:Shared) (σ:St) (H:Hp) (x:V) (xs:List V) (v:Value) (us:List Value) (Q:VK),Inv X pins σ H s->RelV x v->Vals xs us->r x xs H Q->
  wpAny (model X.prog X.w) X.A (call (.builtin a) (v::us)) (EP X pins σ Q) X.xe s
theorem Vals.one:∀{x:V}{us:List Value},Vals [x] us->∃u,us=[u]/\RelV x u
 |_,_,.cons r .nil=>⟨_,rfl,r⟩
theorem Vals.zero:∀{us:List Value},Vals [] us->us=[]
 |_,.nil=>rfl
theorem Vals.dropLast{xs:List V}{us:List Value}(h:Vals xs us):Vals xs.dropLast us.dropLast:=by
 induction h with
 |nil=>calc .nil
 |cons r t a=>
  cases t with
  |nil=>calc .nil
  |cons q b=>calc .cons r a
theorem Vals.eraseIdx:∀{xs:List V}{us:List Value}(i:Nat),Vals xs us->Vals (xs.eraseIdx i) (us.eraseIdx i)
 |_,_,_,.nil=>.nil
 |_,_,0,.cons _ t=>t
 |_,_,i+1,.cons r t=>.cons r (Vals.eraseIdx i t)
theorem Ad{α:Type}(l:List α):l.eraseIdx (l.length-1)=l.dropLast:=by
 induction l with
 |nil=>rfl
 |cons a r c=>
  cases r with
  |nil=>rfl
  |cons b r=>
   have e:(a::b::r).length-1=((b::r).length-1)+1:=by
    have d:(a::b::r).length=r.length+2:=rfl;have a:(b::r).length=r.length+1:=rfl;lia
   rw[e,List.eraseIdx_cons_succ,c]
   all_goals rfl
theorem uQ{α:Type}:∀(l:List α) (i:Nat),(l.eraseIdx i).length<=l.length
 | [],_=>K' _
 |_::_,0=>Nat.le_succ _
 |_::r,i+1=>Nat.succ_le_succ (uQ r i)
section
variable {X:Cx}{pins:List (Addr×Obj)}{σ:St}{H:Hp}{s:Shared}{l b:Addr}{xs ys zs:List V}
theorem Inv.FY{a kC:List Value}{n:Nat}{f:Array Value->Array Value}{t':Nat}(I:Inv X pins σ H s)(b:H l=some (.lst xs))
  (e:s.heap.get? l=some {cls:=.type "list",data:=.seq a.toArray n}) (c:f a.toArray=kC.toArray) (d:Vals ys kC) (g:ys.length<=sizeLine):
  Inv X pins σ (upd H l (.lst ys)) {s with heap:=s.heap.update l (Obj.mapSeq f),toks:=t'}:=by
 have q:=PySem.IsL.update e f;rw[c]at q;calc I.write (x:=l) (e:=l) (by rw[b];calc trivial) (.inl rfl) (λe u a c=>(Heap.get?_update_other s.heap (Obj.mapSeq f) (Ne.symm a)).trans c) ⟨_,q⟩ ?_;calc⟨g,kC,_,d,q⟩
theorem Inv.aaq{a:List Value}{t':Nat}(I:Inv X pins σ H s)(b:Vals ys a)(c:ys.length<=sizeLine):
  Inv X pins σ (upd H s.heap.objs.size (.lst ys)) {s with heap:=s.heap.push {cls:=.type "list",data:=.seq a.toArray},toks:=t'}:=
 I.laid (λ_ _ q=>J' _ q) (K' _) ⟨c,a,0,b,V' _ rfl⟩
theorem Inv.fresh(I:Inv X pins σ H s):H s.heap.objs.size=none:=I.aU.fresh (K' _)
theorem Inv.xU(I:Inv X pins σ H s)(b:H l=some (.lst xs)):xs.length<=sizeLine/\∃(a:List Value) (n:Nat),Vals xs a/\xs.length=a.length/\s.heap.get? l=some {cls:=.type "list",data:=.seq a.toArray n}:=by
 obtain⟨z,a,n,r,e⟩:=I.aU l _ b;calc⟨z,a,n,r,r.length,e⟩
theorem FZ{n:Nat}(h:n<=sizeLine):Builtin.List.listTooLong n=false:=by
 unfold Builtin.List.listTooLong;calc decide_eq_false ()
end
section
variable {X:Cx}
def KI:V->List V->Hp->VK->Prop:=λx vs H Q=>∃l xs y,x=.ref l/\vs=[y]/\H l=some (.lst xs)/\xs.length<sizeLine/\Q .bx (upd H l (.lst (xs++[y])))
theorem uR:YO X "list.append" KI:=by
 intro a s σ H x e v f Q I c d h;obtain⟨l,g,y,rfl,rfl,b,i,q⟩:=h
 cases c;obtain⟨u,rfl,f⟩:=d.one;obtain⟨z,a,n,r,c,e⟩:=I.xU b;calc call_meets F.slot_list_append ⟨_,e,rfl⟩ F.entry_list_append (F.args_list_append_2 _ _) (PySem.list_append l a.toArray n u (by rw[List.size_toArray];lia)) ⟨e,?_⟩;calc⟨.bx,_,I.FY (kC:=a++[u]) b e nofun (r.append (.cons f .nil)) ?_,rfl,q⟩;rw[List.length_append,List.length_singleton];lia
def KJ:V->List V->Hp->VK->Prop:=λx vs H Q=>∃l b xs a,x=.ref l/\vs=[.ref b]/\H l=some (.lst xs)/\H b=some (.lst a)/\xs.length+a.length<=sizeLine/\Q .bx (upd H l (.lst (xs++a)))
theorem Dm:YO X "list.extend" KJ:=by
 intro a s σ H x e v j Q I c d h;obtain⟨l,b,k,m,rfl,rfl,f,g,n,q⟩:=h
 cases c;obtain⟨u,rfl,i⟩:=d.one
 cases i;obtain⟨z,a,n,r,c,e⟩:=I.xU f;obtain⟨d,c,h,i,k,j⟩:=I.xU g;have d:a.toArray.size+c.toArray.size<=sizeLine:=by rw[List.size_toArray,List.size_toArray];lia
 have g:¬(!a.toArray.isEmpty&&Builtin.List.listTooLong (a.toArray.size+c.toArray.size))=true:=by
  rw[FZ d,Bool.and_false];exact U'
 refine call_meets F.slot_list_extend ⟨_,e,rfl⟩ F.entry_list_extend (F.args_list_extend_2 _ _)
  (AutoSeq1.list_extend_list_list_0 l a.toArray n b c.toArray h g (by rw[List.size_toArray];lia) ()) ⟨e,j,?_⟩
 calc⟨.bx,_,I.FY (kC:=a++c) f e nofun (r.append i) ?_,rfl,q⟩;rw[List.length_append];lia
def aar:V->List V->Hp->VK->Prop:=λx vs H Q=>∃l xs y,x=.ref l/\vs=[]/\H l=some (.lst xs)/\xs[xs.length-1]?=some y/\Q y (upd H l (.lst xs.dropLast))
theorem Pn:YO X "list.pop" aar:=by
 intro a s σ H x e v i Q I d f h;obtain⟨l,j,y,rfl,rfl,c,g,q⟩:=h
 cases d;have b:=f.zero;subst b;obtain⟨z,a,n,r,d,e⟩:=I.xU c;obtain⟨u,b,f⟩:=r.get g;have h:a.toArray[a.toArray.size-1]?=some u:=by
  show a.toArray[a.length-1]?=some u;rw[<-Array.getElem?_toList,<-d];exact b
 calc call_meets F.slot_list_pop ⟨_,e,rfl⟩ F.entry_list_pop (F.args_list_pop_1 _) (MeetsSeq.list_pop_last l a.toArray n u h (by rw[List.size_toArray];lia)) ⟨e,?_⟩;refine⟨y,_,I.FY (kC:=a.dropLast) c e ?_ r.dropLast ?_,f,q⟩
 ·show a.toArray.eraseIdxIfInBounds (a.toArray.size-1)=a.dropLast.toArray;rw[List.size_toArray,List.eraseIdxIfInBounds_toArray,Ad]
 ·rw[List.length_dropLast];lia
def Po:V->List V->Hp->VK->Prop:=λx vs H Q=>∃l xs,x=.ref l/\vs=[]/\H l=some (.lst xs)/\Q .bx (upd H l (.lst []))
theorem F0:YO X "list.clear" Po:=by
 intro b s σ H x e v g Q I d f h;obtain⟨l,i,rfl,rfl,c,q⟩:=h
 cases d;have a:=f.zero;subst a;obtain⟨z,b,n,r,d,e⟩:=I.xU c;calc call_meets F.slot_list_clear ⟨_,e,rfl⟩ F.entry_list_clear (F.args_list_clear_1 _) (AutoSeq1.list_clear_list_0 l b.toArray n (by rw[List.size_toArray];lia)) ⟨e,?_⟩;calc⟨.bx,_,I.FY (kC:=[]) (ys:=[]) c e rfl .nil (aaa _),rfl,q⟩
def aat:R2:=λx y H Q=>∃l b xs a,x=.ref l/\y=.ref b/\H l=some (.lst xs)/\H b=some (.lst a)/\xs.length+a.length<=sizeLine/\∀p,H p=none->Q (.ref p) (upd H p (.lst (xs++a)))
theorem Pp:fJ X (binaryOp .Add) aat:=by
 intro a s σ H x y v u Q I c d h;obtain⟨l,b,e,i,rfl,rfl,f,g,j,q⟩:=h
 cases c
 cases d;obtain⟨z,a,n,r,b,e⟩:=I.xU f;obtain⟨h,b,i,c,j,d⟩:=I.xU g;calc PySem.P.add_list e d ?_ (by rw[List.size_toArray,List.size_toArray];lia);have f:a.toArray++b.toArray=(a++b).toArray:=by simp
 rw[f];calc⟨.ref _,_,I.aaq (t':=s.toks) (r.append c) (by rw[List.length_append];lia),rfl,q _ I.fresh⟩
theorem F3{pins:List (Addr×Obj)}{s:Shared}{σ:St}{H:Hp}{l:Addr}{xs:List V}{i:Int}{t:Tok}{k:Nat}{Q:Unit->Shared->Prop}(I:Inv X pins σ H s)(b:H l=some (.lst xs))
  (c:-(2^63)<=i) (d:i<2^63) (f:seqIndex? i xs.length=some k) (h:∀s',Inv X pins σ (upd H l (.lst (xs.eraseIdx k))) s'->Q ⟨⟩ s'):
  wpAny (model X.prog X.w) X.A (delItem (.ref l) (.int i t)) Q X.xe s:=by
 obtain⟨z,a,n,r,g,e⟩:=I.xU b;calc PySem.P.delItem_list (k:=k) e (fitsIndex_both c d) (by rw[List.size_toArray,<-g];calc f) (h _ ?_) (by rw[List.size_toArray];lia);refine I.FY (kC:=a.eraseIdx k) (t':=s.toks) b e ?_ (r.eraseIdx k) ?_
 ·show a.toArray.eraseIdxIfInBounds k=(a.eraseIdx k).toArray;rw[List.eraseIdxIfInBounds_toArray]
 ·have:=uQ xs k;lia
end
section
variable {prog:Program}{w:World}{A:Around}{E:Value->Shared->Prop}{s:Shared}
set_option maxRecDepth 100000 in
end
section
variable {X:Cx}
end
end
section
variable {a:Addr}{X:Cx}{H H':Hp}{bg:List (Key×V)}{xs:List (List Key×Addr×Value)}{zA:List (TE×TE)}{pos:Pos}{Q:Value->Shared->Prop}
section
variable {κ:Type} [DecidableEq κ]
def gM(bg:List (κ×V))(k:κ):Option V:=(bg.find? λa=>decide (a.1=k)).map (·.2)
def putK(bg:List (κ×V))(k:κ)(v:V):List (κ×V):=
 if (bg.any λa=>decide (a.1=k))=true then bg.map (λa=>if a.1=k then(a.1,v) else a) else bg++[(k,v)]
theorem F4{k:κ}:gM ([]:List (κ×V)) k=none:=rfl
theorem eS{p:κ×V}{r:List (κ×V)}{k:κ}(e:p.1=k):gM (p::r) k=some p.2:=by simp[gM,List.find?_cons,e]
theorem eU{p:κ×V}{r:List (κ×V)}{k:κ}(e:¬p.1=k):gM (p::r) k=gM r k:=by simp[gM,List.find?_cons,e]
theorem kG(k:κ):∀bg:List (κ×V),(bg.any λa=>decide (a.1=k))=(gM bg k).isSome
 | []=>rfl
 |p::r=>by
  rw[List.any_cons];by_cases e:p.1=k
  ·simp only[eS e,decide_eq_true e,Bool.true_or,Option.isSome_some]
  ·rw[eU e,decide_eq_false e,Bool.false_or];calc kG k r
theorem xV(k j:κ)(y:V):∀bg:List (κ×V),gM (bg.map λa=>if a.1=k then(a.1,y) else a) j=(gM bg j).map λx=>if j=k then y else x
 | []=>rfl
 |p::r=>by
  have a:=xV k j y r;rw[List.map_cons];by_cases h:p.1=k
  ·rw[if_pos h];by_cases e:p.1=j
   ·rw[eS (p:=(p.1,y)) e,eS e,Option.map_some,if_pos (e.symm.trans h)]
   ·rw[eU (p:=(p.1,y)) e,eU e,a]
  ·rw[if_neg h];by_cases e:p.1=j
   ·rw[eS (p:=p) e,eS e,Option.map_some,if_neg (λz=>h (e.trans z))]
   ·rw[eU (p:=p) e,eU e,a]
theorem uS(k j:κ)(y:V):∀bg:List (κ×V),gM bg k=none->gM (bg++[(k,y)]) j=if j=k then some y else gM bg j
 | [],_=>by
  by_cases e:k=j
  ·rw[if_pos e.symm];exact eS (p:=(k,y)) e
  ·rw[if_neg (λz=>e z.symm)];calc eU (p:=(k,y)) e
 |p::r,a=>by
  rw[List.cons_append];have b:¬p.1=k:=λz=>by rw[eS z]at a;cases a
  rw[eU b]at a;have c:=uS k j y r a;by_cases e:p.1=j
  ·rw[eS e,eS e,if_neg (λz=>b (e.trans z))]
  ·rw[eU e,eU e,c]
theorem F5(bg:List (κ×V))(k j:κ)(y:V):gM (putK bg k y) j=if j=k then some y else gM bg j:=by
 unfold putK;by_cases a:(bg.any λb=>decide (b.1=k))=true
 ·rw[if_pos a,xV];rw[kG] at a;by_cases e:j=k
  ·obtain⟨x,b⟩:=Option.isSome_iff_exists.mp a;rw[if_pos e,e,b,Option.map_some,if_pos rfl]
  ·rw[if_neg e]
   cases gM bg j with
   |none=>rfl
   |some x=>rw[Option.map_some,if_neg e]
 ·rw[if_neg a];calc uS k j y bg ?_;rw[kG] at a
  cases q:gM bg k with
  |none=>rfl
  |some x=>rw[q]at a;calc(a rfl).elim
theorem kH(bg:List (κ×V))(k:κ)(v:V):(putK bg k v).length<=bg.length+1:=by
 unfold putK;split
 ·rw[List.length_map];lia
 ·rw[List.length_append,List.length_cons,List.length_nil];lia
theorem F6{bg:List (κ×V)}{k:κ}(v:V)(h:gM bg k=none):putK bg k v=bg++[(k,v)]:=by
 unfold putK;rw[kG,h];calc if_neg ∅
theorem jL.o7{o:Option V}{u:Option Value}(r:jL o u):o.isSome=u.isSome:=by
 cases o with
 |none=>cases u with
  |none=>rfl
  |some _=>calc(show False from r).elim
 |some _=>cases u with
  |none=>calc(show False from r).elim
  |some _=>rfl
theorem KV.val{bg:List (κ×V)}{vs:List (κ×Value)}(r:KV bg vs)(k:κ):jL (gM bg k) (valueAt vs k):=by
 unfold KV at r;induction r with
 |nil=>calc aai
 | @cons p q b a h t g=>
  obtain⟨d,i⟩:=h;by_cases e:p.1=k
  ·have c:q.1=k:=d.symm.trans e;have b:valueAt (q::a) k=some q.2:=by simp[valueAt,List.find?_cons,c]
   rw[eS e,b];exact i
  ·have c:¬q.1=k:=λz=>e (d.trans z);have b:valueAt (q::a) k=valueAt a k:=by simp[valueAt,List.find?_cons,c]
   rw[eU e,b];calc g
theorem KV.any{bg:List (κ×V)}{vs:List (κ×Value)}(r:KV bg vs)(k:κ):(bg.any λa=>decide (a.1=k))=vs.any λa=>decide (a.1=k):=by
 unfold KV at r;induction r with
 |nil=>rfl
 |cons h t a=>rw[List.any_cons,List.any_cons,a,h.1]
theorem KV.Pq{bg:List (κ×V)}{vs:List (κ×Value)}(r:KV bg vs)(k:κ){y:V}{u:Value}(b:RelV y u):
  KV (bg.map λa=>if a.1=k then(a.1,y) else a) (vs.map λa=>if a.1=k then(a.1,u) else a):=by
 unfold KV at r ⊢;induction r with
 |nil=>calc .nil
 | @cons p q a d h t c=>
  rw[List.map_cons,List.map_cons];calc .cons ?_ c;obtain⟨a,d⟩:=h;by_cases e:p.1=k
  ·rw[if_pos e,if_pos (a.symm.trans e)];exact⟨a,b⟩
  ·rw[if_neg e,if_neg (λz=>e (a.trans z))];calc⟨a,d⟩
theorem KV.put{bg:List (κ×V)}{vs:List (κ×Value)}(r:KV bg vs)(k:κ){y:V}{u:Value}(a:RelV y u):KV (putK bg k y) (stored vs k u):=by
 unfold putK stored;rw[r.any k];by_cases e:(vs.any λb=>decide (b.1=k))=true
 ·rw[if_pos e,if_pos e];exact r.Pq k a
 ·rw[if_neg e,if_neg e];calc Paired.snoc r ⟨rfl,a⟩
theorem KV.length{bg:List (κ×V)}{vs:List (κ×Value)}(r:KV bg vs):bg.length=vs.length:=Paired.length r
end
theorem xW{P:Program}{w:World}{k:Key}{u:Value}(r:RelV (kV k) u):(dS P w).is k u=true:=by
 cases k with
 |inl i=>obtain⟨t,e⟩:=(show ∃t,u=Value.int i t from r);subst e;calc xH P w i t
 |inr x=>obtain⟨t,e⟩:=(show ∃t,u=Value.str x t from r);subst e;calc xI P w x t
theorem uT{P:Program}{w:World}:∀{a:List Key}{us:List Value},Vals (a.map kV) us->ItemsAre (dS P w) a us
 | [],_,r=>by rw[List.map_nil]at r;cases r;calc .nil
 |k::a,_,r=>by
  rw[List.map_cons]at r
  cases r with
  |cons h t=>calc .cons (xW h) (uT t)
abbrev KT(H:Hp):List (List Key×V)->List (List Key×Addr×Value)->Prop:=Paired λp q=>p.1=q.1/\H q.2.1=some (.tup (p.1.map kV))/\RelV p.2 q.2.2
theorem KT.val{H:Hp}{bg:List (List Key×V)}{xs:List (List Key×Addr×Value)}(r:KT H bg xs)(k:List Key):jL (gM bg k) ((atKey xs k).map (·.2)):=by
 induction r with
 |nil=>calc aai
 | @cons p q b a h t g=>
  obtain⟨d,_,i⟩:=h;by_cases e:p.1=k
  ·have c:q.1=k:=d.symm.trans e;have b:atKey (q::a) k=some q.2:=by simp[atKey,List.find?_cons,c]
   rw[eS e,b];exact i
  ·have c:¬q.1=k:=λz=>e (d.trans z);have b:atKey (q::a) k=atKey a k:=by simp[atKey,List.find?_cons,c]
   rw[eU e,b];calc g
theorem KT.Pq{H:Hp}{bg:List (List Key×V)}{xs:List (List Key×Addr×Value)}(r:KT H bg xs)(k:List Key){y:V}{u:Value}(c:RelV y u):
  KT H (bg.map λa=>if a.1=k then(a.1,y) else a) (xs.map (putAt k u)):=by
 induction r with
 |nil=>calc .nil
 | @cons p q a b h t d=>
  rw[List.map_cons,List.map_cons];calc .cons ?_ d;obtain⟨a,b,g⟩:=h;unfold putAt;by_cases e:p.1=k
  ·rw[if_pos e,if_pos (a.symm.trans e)];exact⟨a,b,c⟩
  ·rw[if_neg e,if_neg (λz=>e (a.trans z))];calc⟨a,b,g⟩
theorem KT.put{bg:List (List Key×V)}(r:KT H bg xs)(k:List Key){b:Addr}{y:V}{u:Value}(c:H b=some (.tup (k.map kV)))(a:RelV y u):
  KT H (putK bg k y) (storedH xs k b u):=by
 have e:(bg.any λb=>decide (b.1=k))=(atKey xs k).isSome:=by
  rw[kG,(r.val k).o7,Option.isSome_map]
 unfold putK storedH;rw[e];by_cases q:(atKey xs k).isSome=true
 ·rw[if_pos q,if_pos q];exact r.Pq k a
 ·rw[if_neg q,if_neg q];calc Paired.snoc r ⟨rfl,c,a⟩
theorem KT.keeps{bg:List (List Key×V)}(r:KT H bg xs)(a:∀b ys,H b=some (.tup ys)->H' b=some (.tup ys)):KT H' bg xs:=
 Paired.OI r λ_ _ z=>⟨z.1,a _ _ z.2.1,z.2.2⟩
section
variable {P:Program}{w:World}{H:Hp}{h:Heap}{a:Addr}
theorem MQ{u:HO}(ok:l9 P w H h)(e:Rd H a u):cC P w H h a u:=e.ok ok
theorem BI(b:l9 P w H h)(e:Rd H a (.dK bg)):bg.length<=sizeLine/\(a==sysModules)=false/\∃vs,KV bg vs/\h.DictOf (dS P w) a vs:=
 show cC P w H h a (.dK bg) from MQ b e
theorem MR(b:l9 P w H h)(e:H a=some (.dK bg)):bg.length<=sizeLine/\(a==sysModules)=false/\∃vs,KV bg vs/\h.DictOf (dS P w) a vs:=BI b (.inl e)
theorem v9{b:List Key}(c:l9 P w H h)(e:H a=some (.tup (b.map kV))):(tupleKind (dS P w)).is h b a:=by
 obtain⟨_,d,r,o,f,g,n,i⟩:=(show cC P w H h a (.tup (b.map kV)) from c a _ e)
 calc⟨o,d.toArray,n,f,g,i,by simpa using uT r⟩
theorem BJ{bg:List (List Key×V)}(d:l9 P w H h)(e:Rd H a (.dT bg)):bg.length<=sizeLine/\(a==sysModules)=false/\
  ∃xs,KT H bg xs/\h.DictOfH (tupleKind (dS P w)) a xs:=by
 obtain⟨z,y,xs,r,o,g,i,j,k,n,p,s⟩:=(show cC P w H h a (.dT bg) from MQ d e)
 calc⟨z,y,xs,r,o,g,i,j,k,n,p,λx b=>?_,s⟩;have c:∀{l:List (List Key×V)} {m:List (List Key×Addr×Value)},KT H l m->∀x∈m,(tupleKind (dS P w)).is h x.1 x.2.1:=by
  intro l m q;induction q with
  |nil=>intro x b;calc nomatch b
  | @cons p q g i f t u=>
   intro x b;rcases List.mem_cons.mp b with e|b
   ·subst e;exact v9 d (by rw[<-f.1];calc f.2.1)
   ·exact u x b
 calc c r x b
theorem Uy{bg:List (List Key×V)}(b:l9 P w H h)(e:H a=some (.dT bg)):bg.length<=sizeLine/\(a==sysModules)=false/\
  ∃xs,KT H bg xs/\h.DictOfH (tupleKind (dS P w)) a xs:=BJ b (.inl e)
end
def ku(H:Hp)(a:Addr)(y:V)(r:Option V):Prop:=
 (∃bg k,Rd H a (.dK bg)/\y=kV k/\r=gM bg k)\/∃bg k b,Rd H a (.dT bg)/\y=.ref b/\H b=some (.tup (k.map kV))/\r=gM bg k
def tQ(H:Hp)(a:Addr)(y v:V)(H':Hp):Prop:=
 (∃bg k,H a=some (.dK bg)/\y=kV k/\bg.length<sizeLine/\H'=upd H a (.dK (putK bg k v)))\/
 ∃bg k b,H a=some (.dT bg)/\y=.ref b/\H b=some (.tup (k.map kV))/\bg.length<sizeLine/\H'=upd H a (.dT (putK bg k v))
theorem ku.k{k:Key}(e:H a=some (.dK bg)):ku H a (kV k) (gM bg k):=.inl ⟨bg,k,.inl e,rfl,rfl⟩
theorem tQ.k{k:Key}{v:V}(e:H a=some (.dK bg))(b:bg.length<sizeLine):tQ H a (kV k) v (upd H a (.dK (putK bg k v))):=.inl ⟨bg,k,e,rfl,b,rfl⟩
section
variable {X:Cx}{pins:List (Addr×Obj)}{σ:St}{H:Hp}{s:Shared}{a:Addr}{y v:V}{u r:Value}{o:Option V}{A:Around}{E:Value->Shared->Prop}
theorem Inv.big(I:Inv X pins σ H s):sysModules<s.heap.objs.size:=by
 have h:mainGlobals<s.heap.objs.size:=(I.mod.glob.keeps I.bk).lt;calc Nat.lt_trans ∅ h
theorem Dn(n:A.units+1<cLine)(I:Inv X pins σ H s)(g:ku H a y (some v))(m:RelV y u)(h:∀w' s',Inv X pins σ H s'->RelV v w'->Q w' s'):
  wpAny (model X.prog X.w) A (getItem (.ref a) u) Q E s:=by
 rcases g with⟨bg,k,e,d,l⟩|⟨bg,k,b,e,d,q,l⟩
 ·subst d;obtain⟨z,p,g,c,f⟩:=BI I.aU e;obtain⟨w',i,j⟩:=jL.some_of (v:=v) (o:=valueAt g k) (by rw[l];calc c.val k);exact wpAny_getItem_of (xW m) f.mapOf i (h w' _ (I.tok _) j)
 ·subst d
  cases(show u=Value.ref b from m);obtain⟨z,p,xs,c,f⟩:=BJ I.aU e;obtain⟨w',i,j⟩:=jL.some_of (v:=v) (o:=(atKey xs k).map (·.2)) (by rw[l];calc c.val k);obtain⟨p,b,d⟩:=Option.map_eq_some_iff.mp i;calc wpAny_getItem_heap (tupleKind_room_in1 n) (v9 I.aU q) f b ?_;rw[d];calc h w' _ (I.tok _) j
theorem KN(m:A.units+1<cLine)(I:Inv X pins σ H s)(g:ku H a y o)(j:RelV y u)(h:∀s',Inv X pins σ H s'->Q (.bool (!o.isSome)) s'):
  wpAny (model X.prog X.w) A (compareOp .NotIn u (.ref a)) Q E s:=by
 rcases g with⟨bg,k,e,d,l⟩|⟨bg,k,b,e,d,n,l⟩
 ·subst d;obtain⟨z,f,g,c,i⟩:=BI I.aU e;calc wpAny_notIn_of (xW j) f i.mapOf ?_;rw[<-(c.val k).o7,<-l];exact h _ (I.tok _)
 ·subst d
  cases(show u=Value.ref b from j);obtain⟨z,f,xs,c,i⟩:=BJ I.aU e;calc wpAny_notIn_heap (tupleKind_room_in1 m) (v9 I.aU n) f i ?_;have q:=(c.val k).o7;rw[Option.isSome_map]at q;rw[<-q,<-l];calc h _ (I.tok _)
theorem wa{h':Heap}{t':Nat}{b:HO}(I:Inv X pins σ H s)(d:TZ (H a))(f:Heap.SameBut a s.heap h')(g:∃q,h'.get? a=some q)(c:cC X.prog X.w (upd H a b) h' a b):
  Inv X pins σ (upd H a b) {s with heap:=h',toks:=t'}:=
 I.write (x:=a) (e:=a) d (.inl rfl) (λb q h z=>(f.2 b h).trans z) g c
theorem F7{P:Program}{w:World}{h':Heap}{vs:List (Key×Value)}(z:bg.length<=sizeLine)(c:(a==sysModules)=false)(b:KV bg vs)(d:h'.DictOf (dS P w) a vs):
  cC P w H' h' a (.dK bg):=⟨z,c,vs,b,d⟩
theorem Dp{Q:Unit->Shared->Prop}(G:A.units+1<cLine)(I:Inv X pins σ H s)(g:tQ H a y v H')(B:RelV y u)(C:RelV v r)(h:∀s',Inv X pins σ H' s'->Q ⟨⟩ s'):
  wpAny (model X.prog X.w) A (setItem (.ref a) u r) Q E s:=by
 rcases g with⟨bg,k,e,c,l,j⟩|⟨bg,k,b,e,c,D,l,j⟩
 ·subst c j;obtain⟨z,m,g,d,n⟩:=MR I.aU e;have o:g.length<=sizeLine:=by rw[<-d.length];exact z
  have p:(putK bg k v).length<=sizeLine:=by have:=kH bg k v;lia
  calc wpAny_setItem_pairs (hsz:=o) (xW B) n λF f x=>h _ ?_;have g:∃q,F.get? a=some q:=let ⟨q,_,_,i,_⟩:=f;⟨q,i⟩
  exact wa I (by rw[e];calc aai) x g (F7 p m (d.put k C) f)
 ·subst c j
  cases(show u=Value.ref b from B);obtain⟨z,m,xs,d,n⟩:=Uy I.aU e;have o:xs.length<=sizeLine:=by rw[<-Paired.length d];exact z
  have p:(putK bg k v).length<=sizeLine:=by have:=kH bg k v;lia
  calc wpAny_setItem_heap (hsz:=o) (tupleKind_room_in1 G) (v9 I.aU D) n λF f x=>h _ ?_;obtain⟨q,g,j,i,l,n,o,_,t⟩:=f;calc wa I (by rw[e];calc aai) x ⟨q,i⟩ ⟨p,m,_,(d.put k D C).keeps λc h b=>?_,q,g,j,i,l,n,o,t⟩;rw[ay (Bp b e (λz=>nomatch z))];calc b
end
section
variable {X:Cx}{pins:List (Addr×Obj)}{σ:St}{H:Hp}{s:Shared}{a:Addr}{bg:List (Key×V)}{k:Key}{u:Value}{A:Around}{E:Value->Shared->Prop}
end
theorem xX{pins:List (Addr×Obj)}{σ:St}{s:Shared}{y:V}{o:Option V}(I:Inv X pins σ H s)(g:ku H a y o):s.TypeIs (.ref a) "dict":=by
 rcases g with⟨bg,k,e,_,_⟩|⟨bg,k,b,e,_,_,_⟩
 ·obtain⟨_,_,c,_,b⟩:=BI I.aU e;exact b.typeIs
 ·obtain⟨_,_,xs,_,b⟩:=BJ I.aU e;calc b.typeIs
def wb(b c:TE):TE:=λσ H Q=>b σ H λy d=>c σ d λx b=>∃a o,x=.ref a/\ku b a y o/\Q (.bl (!o.isSome)) b
def F8(b c d:TE):TS:=λD σ H=>d σ H λv e=>b σ e λx d=>c σ d λy e=>∃a b,x=.ref a/\tQ e a y v b/\D.nx σ b
section
variable {X:Cx}{o i e value:Expr}{pos pos' Ky:Pos}{td ty tv:TE}
theorem Dq(b:X.A.units+1<cLine)(hi:PE X i ty)(c:PE X o td):PC X .NotIn i o (wb ty td):=by
 walk_at "xc";refine cD (hi pins s σ H _ I h) λv d ⟨y,e,f,j,k⟩=>cD (c pins d σ e _ f k) λu v l=>?_;obtain⟨x,m,n,p,a,q,r,g,t⟩:=l;subst r;obtain rfl:u=Value.ref a:=p;exact KN b n g j λd c=>⟨.bl (!q.isSome),m,c,rfl,t⟩
theorem lS(b:X.A.units+1<cLine)(c:PE X o td)(hi:PE X i ty)(d:PE X value tv)(e:swapsWith value (some (.Subscript o i pos')) pos.line X.env=pure false):
  PS X (.Assign [.Subscript o i pos'] value pos) (F8 td ty tv):=by
 walk_at "xd";refine wpAny_Assign_Subscript (cD (d pins s σ H _ I h) λr f ⟨v,j,k,l,m⟩=>cD (c pins f σ j _ k m) λu d ⟨x,n,p,q,r⟩=>cD (hi pins d σ n _ p r) λc f t=>?_) e;obtain⟨y,c,w,z,a,B,C,g,E⟩:=t;subst C;obtain rfl:u=Value.ref a:=q;exact Dp b w g z l λd c=>⟨σ,B,c,E⟩
end
theorem xY{P:Program}{w:World}(h:Heap)(a:sysModules<h.objs.size):cC P w H (h.push {cls:=.type "dict",data:=.dict #[]}) h.objs.size (.dK []):=
 ⟨aaa _,beq_eq_false_iff_ne.mpr (Ne.symm (X' a)),[],.nil,Heap.DictOf.new h⟩
def Ae:TE:=λ_ H Q=>∀p,H p=none->Q (.ref p) (upd H p (.dK []))
section
variable {X:Cx}{pos:Pos}
theorem F9:PE X (.Dict [] [] pos) Ae:=.mk λb s σ H Q I h=>
 wpAny_Dict_empty ⟨.ref s.heap.objs.size,_,I.laid (a:=s.heap.objs.size) (o:=.dK []) (t':=s.toks) (λ_ _ q=>J' _ q) (K' _) (xY s.heap I.big),rfl,h _ (I.aU.fresh (K' _))⟩
end
def o8:List (TE×TE)->St->Hp->(List (V×V)->Hp->Prop)->Prop
 | [],_,H,Q=>Q [] H
 |(a,b)::r,σ,H,Q=>a σ H λx c=>b σ c λy a=>o8 r σ a λb c=>Q ((x,y)::b) c
abbrev VV:List (V×V)->List (Value×Value)->Prop:=Paired λp q=>RelV p.1 q.1/\RelV p.2 q.2
def YQ(X:Cx)(pos:Pos)(b:List (Option Expr))(a:List Expr)(zA:List (TE×TE)):Prop:=
 ∀(pins:List (Addr×Obj)) (s:Shared) (σ:St) (H:Hp) (Q:List (V×V)->Hp->Prop),Inv X pins σ H s->o8 zA σ H Q->
  wpAny (model X.prog X.w) X.A (evalPairs (pairTrees b a X.env pos)) (λvs s'=>∃a H',Inv X pins σ H' s'/\VV a vs/\Q a H') X.xe s
theorem KP:YQ X pos [] [] []:=λa s σ H Q I h=>pairTrees_nil_walk ⟨[],H,I,.nil,h⟩
theorem rB{k v:Expr}{a:List (Option Expr)}{vs:List Expr}{b c:TE}(d:PE X k b)(e:PE X v c)(f:YQ X pos a vs zA):
  YQ X pos (some k::a) (v::vs) ((b,c)::zA):=λa s σ H Q I h=>
 pairTrees_cons_walk (cD (d a s σ H _ I h) λu b ⟨x,c,g,i,j⟩=>cD (e a b σ c _ g j) λn d ⟨y,h,k,l,m⟩=>
  cD (f a d σ h _ k m) λn o ⟨c,e,g,b,j⟩=>⟨(x,y)::c,e,g,.cons ⟨i,l⟩ b,j⟩)
def mr(bg a:List (Key×V)):List (Key×V):=a.foldl (λb c=>putK b c.1 c.2) bg
theorem KV.merge:∀{a:List (Key×V)}{b:List (Key×Value)}{bg:List (Key×V)}{vs:List (Key×Value)},KV a b->KV bg vs->KV (mr bg a) (merged vs b):=by
 intro a b bg vs r;unfold KV at r;induction r generalizing bg vs with
 |nil=>intro q;calc q
 | @cons p q b c h t a=>
  intro b;have e:KV (putK bg p.1 p.2) (stored vs q.1 q.2):=by
   have:=b.put p.1 h.2;rw[<-h.1];exact this
  calc a e
theorem mi:∀(a bg:List (Key×V)),(mr bg a).length<=bg.length+a.length
 | [],bg=>by show bg.length<=bg.length+0;lia
 |p::r,bg=>by
  have a:=mi r (putK bg p.1 p.2);have a:=kH bg p.1 p.2;show(mr (putK bg p.1 p.2) r).length<=_;rw[List.length_cons];lia
theorem rC{P:Program}{w:World}:∀{bg:List (Key×V)}{ws:List (Value×Value)},VV (bg.map λb=>(kV b.1,b.2)) ws->∃d,Carries (dS P w) ws d/\KV bg d
 | [],_,r=>by rw[List.map_nil]at r;cases r;calc⟨[],aai,.nil⟩
 |p::bg,_,r=>by
  rw[List.map_cons]at r
  cases r with
  | @cons a b c e h t=>
   obtain⟨d,c,q⟩:=rC (P:=P) (w:=w) t;obtain⟨f,e⟩:=b;calc⟨(p.1,e)::d,⟨xW h.1,rfl,c⟩,.cons ⟨rfl,h.2⟩ q⟩
def BK(zA:List (TE×TE)):TE:=λσ H Q=>∀p,H p=none->o8 zA σ (upd H p (.dK [])) λc a=>a p=some (.dK [])/\∃bg:List (Key×V),c=bg.map (λb=>(kV b.1,b.2))/\bg.length<=15/\Q (.ref p) (upd a p (.dK (mr [] bg)))
theorem KQ{b:List (Option Expr)}{d:List Expr}(h:YQ X pos b d zA)(k:b.all (·.isSome)=true)(l:b.length=d.length)(m:b≠[])
  (f:b.length<=15):PE X (.Dict b d pos) (BK zA):=by
 refine⟨?_⟩;intro b s σ H Q I q;have d:=I.aU.fresh (K' s.heap.objs.size);have n:=I.laid (a:=s.heap.objs.size) (o:=.dK []) (h':=s.heap.push {cls:=.type "dict",data:=.dict #[]}) (t':=s.toks) (λ_ _ q=>J' _ q) (K' _) (xY s.heap I.big);refine wpAny_Dict_walk (knd:=dS X.prog X.w) k l m f (cD (h b _ σ _ _ n (q _ d)) λz B p=>?_);obtain⟨b,d,j,g,e,bg,r,f,t⟩:=p;subst r;obtain⟨u,c,v⟩:=rC (P:=X.prog) (w:=X.w) g;obtain⟨z,x,b,y,A⟩:=MR j.aU e
 cases y;calc⟨u,c,A,λi b d=>⟨.ref s.heap.objs.size,_,?_,rfl,t⟩⟩;have c:(mr [] bg).length<=sizeLine:=by
  have f:=mi bg [];rw[List.length_nil]at f;rw[sizeLine_eq];lia
 have f:∃q,i.get? s.heap.objs.size=some q:=let ⟨q,_,_,g,_⟩:=b;⟨q,g⟩
 calc wa j (by rw[e];calc aai) d f (F7 c x (v.merge .nil) b)
section
variable {X:Cx}{pins:List (Addr×Obj)}{σ:St}{H:Hp}{s:Shared}{a:Addr}{y d:V}{u r:Value}{o:Option V}{A:Around}{E:Value->Shared->Prop}
end
section
variable {X:Cx}{pins:List (Addr×Obj)}{σ:St}{H:Hp}{s:Shared}{a:Addr}{y:V}{u:Value}{A:Around}{E:Value->Shared->Prop}
end
end
end L2
namespace Att
open PySem PySem.W PySem.Calls PyProof.Rows
theorem qt{P:Params}{h:Heap}:∀(c:List Int) (vs:List Value),WellAll P h vs (c.map WData.int)->IntsAre vs c:=by
 intro c;induction c with
 |nil=>
  intro vs w;rw[List.map_nil]at w
  cases w;calc .nil
 |cons n c d=>
  intro vs w;rw[List.map_cons]at w
  cases w with
  |cons a b=>
   cases a;calc .cons _ _ (d _ b)
theorem Dr{l:OpenLaw}{n:Nat}(j:l.most=some n){P:Params}{h:Heap}{args:List WData}{c:List Value}
  (g:l.row.toRowW.claim.pre args=true) (k:WellAll P h c args):
  ∃a vs b,c=[Value.ref a]/\args=[WData.list (b.map WData.int)]/\h.get? a=some {cls:=.type "list",data:=.seq vs.toArray}/\IntsAre vs b/\b.length<=n:=by
 have f:WShape.hasAll [] args [.list .int]=true:=(pre_splitW g).1;have i:l.pre.holds [] {args:=args}=true:=(pre_splitW g).2;obtain⟨d,r,rfl,m,o⟩:=hasAllW_cons f;obtain rfl:=hasAllW_nil o;obtain⟨q,rfl,p⟩:=hasW_list m;obtain⟨b,rfl⟩:=items_int p;have e:b.length<=n:=by
  unfold OpenLaw.pre at i;have a:(WTm.not (.lt (.lit (.int (n:Int))) (.len (.arg 0)))).holds [] {args:=[.list (b.map .int)]}=true:=by
   have a:=(holds_andW i).1;rw[j]at a;exact a
  have c:=condW_of a (w_not (w_lt w_lit (w_len_list (w_arg rfl))));rw[List.length_map]at c;calc Nat.le_of_not_lt λq=>?_;have a:(n:Int)<((b.length:Nat):Int):=by lia
  first
   |(rw[decide_eq_true a]at c;calc absurd c ∅)
   |(simp at c;lia)
 cases k with
 |cons s t=>
  cases t
  cases s with
  |list a c=>calc⟨_,_,b,rfl,rfl,a,qt b _ c,e⟩
theorem Ds(l:OpenLaw)(args:List WData):l.row.toRowW.claim.post args (.bool true) args=true:=
 postW_of (r:=l.row.toRowW) (X:=(true == true))
  (show WShape.has [] (.bool true) .bool=true by first|rfl|decide|simp[WShape.has,WShape.arms,WShape.armsAll])
  (show(WTm.eq .res (.lit (.bool true))).value [] {args:=args,res:=some (.bool true),after:=args}=some (.bool (true==true)) from w_eq_bool (w_res rfl) w_lit) rfl
theorem xZ{l:OpenLaw}{n:Nat}{q:Program}{c:List Str}{p:(Str->Option Value)->Heap->Prop}{s:World->Heap->Prop}{d:DefRec}
  (x:l.most=some n) (y:d.params.defaults=[])
  (call:∀(w:World) (s₀ b:Shared) (h k:Str->Option Value) (g:Addr) (o:Obj) (m i e:Value) (a:Addr) (vs:List Value) (j:List Int),
   Ground q c [] p w s₀ h k b.heap->s w b.heap->
   b.heap.get? g=some o->o.data=.func (docDef d.name d.params d.body d.scope m i e)->b.heap.CodeRec i d.name->h d.name=some (.ref g)->
   b.heap.get? a=some {cls:=.type "list",data:=.seq vs.toArray}->IntsAre vs j->j.length<=n->b.gens=#[]->
   codeAny (model l.prog w) callerA (.call (.ref g) ⟨[.ref a],[]⟩) (λr s'=>r=.ok (.ret (.bool true))/\OldK b.heap s'.heap/\s'.os=b.os/\AllBare s'.gens) b):
  WalkO q c p s l.row.toRowW d [] (λf vs=>PySem.call f vs):=by
 intro w s₀ b h k G Y g o m i e z kV A B C t D E u v L F H I J M;obtain rfl:z=.none:=Dflts.none t y;obtain rfl:kV=.none:=Dflts.noKw t;obtain⟨a,vs,j,rfl,rfl,f,c,d⟩:=Dr x F J;calc enter_call (codeAny_mono (call w s₀ b h k g o m i e a vs j G Y A (fd_plain B) C D f c d E) λr s' K=>?_);obtain⟨rfl,a,b,c⟩:=K;calc⟨.inl ⟨.bool true,.bool true,[],rfl,λ_=>rfl,.bool true,Ds l _,λ_=>⟨List.Pairwise.nil,λ_ d=>(nomatch d)⟩⟩,a,b,c⟩
section
variable {prog:Program}{w:World}{A:Around}{E:Value->Shared->Prop}{s:Shared}{K:Frag}
end
end Att
namespace L2
open PySem PySem.Spec PyProof.Rows
section
theorem uU:∀{vs:List Value}{a:List Int},IntsAre vs a->Vals (a.map V.int) vs
 |_,_,.nil=>.nil
 |_,_,.cons n t h=>.cons ⟨t,rfl⟩ (uU h)
def Pu(H:Hp):Prop:=∀b,H b=none\/∃o xs,H b=some (.zw o (.lst xs))
theorem Gd{P:Program}{w:World}{K:W.Frag}{j L:Str->Option Value}{CX:FI}{k:Nat}{m a:Addr}{n:FuncData}{x:Str}{sp:Sp}{c:Shared}{vs:List Value}{l:List Int}
  (X:K.In c.heap) (p:c.heap.Ns mainGlobals j) (g:c.heap.Ns builtinsNs L) (M:∀x:Str,x≠"__name__"->L x=bootBuiltins x) (N:c.heap.NoLimit) (hg:c.gens=#[])
  (I:c.heap.get? a=some {cls:=.type "list",data:=.seq vs.toArray}) (hi:IntsAre vs l) (Y:l.length<=sizeLine) (hr:dq k callerA)
  (F:∀base:Heap,K.In base->base.Ns mainGlobals j->iM P w K j base CX k m n [x] sp) (UB:∀(s:Shared) (u:Value),BindsTo s n ⟨[u],[]⟩ [(x,u)])
  (zV:∀H:Hp,Pu H->aS K H a (l.map V.int)->sp [.ref a] H (λv _=>v=.bl true) λ_ _ _=>False)
  (O:∀H e s',CX [] H c (λ_ _ _=>False) e s'->False):
  codeAny (model P w) callerA (.call (.ref m) ⟨[.ref a],[]⟩) (λr s'=>r=.ok (.ret (.bool true))/\OldK c.heap s'.heap/\s'.os=c.os/\AllBare s'.gens) c:=by
 have Z:=uU hi;have R:=hi.length;have i:∀H:Hp,Pu H->aS K H a (l.map V.int)->l9 P w H c.heap->(∀b,H b≠none->b=a)->(H a≠none->K.lookup a=none)->
   codeAny (model P w) callerA (.call (.ref m) ⟨[.ref a],[]⟩) (λr s'=>r=.ok (.ret (.bool true))/\OldK c.heap s'.heap/\s'.os=c.os/\AllBare s'.gens) c:=by
  intro H hO hS aU hA hK;have BL:∀{b:Addr} {o:Obj},c.heap.get? b=some o->H b=none->(oU c.heap H).get? b=some o:=λe n=>Fb e n;have Uo:∀{b:Addr} {o:Obj} {t:Array DictEntry} {y:Nat},c.heap.get? b=some o->o.data=.dict t y->H b=none:=λ{b o t y} e d=>by
   cases q:H b with
   |none=>rfl
   |some u=>
    have S:b=a:=hA b (by rw[q];simp);subst S;rw[I]at e;cases e;have d':Data.seq vs.toArray _=Data.dict t y:=d
    cases d'
  have J:∀{b:Addr} {m:Str->Option Value},c.heap.Ns b m->(oU c.heap H).Ns b m:=λ{b m} ⟨o,t,y,e,d,r⟩=>⟨o,t,y,BL e (Uo e d),d,r⟩
  have B:K.In (oU c.heap H):=λb o e=>BL (X b o e) (by
   cases q:H b with
   |none=>rfl
   |some u=>
    have S:b=a:=hA b (by rw[q];simp);subst S;rw[hK (by rw[q];simp)] at e;cases e)
  have d:Mod K j (oU c.heap H):=⟨B,J p,⟨L,J g,M⟩,let ⟨k,m,n⟩:=N;⟨k,J m,n⟩⟩
  have k:vT P w K j (oU c.heap H) callerA [] c H:=⟨rfl,d,λb o e=>Kp e,Nat.le_of_eq (Dd _ _),trivial,λb g=>absurd (show b∈([]:List Addr) from g) nofun,aU,.of_eq hg⟩
  refine codeAny_mono ((F _ B (J p)).run callerA [] c H ⟨[.ref a],[]⟩ [.ref a] [.ref a] _ _ hr k (UB c (.ref a)) (.cons rfl .nil) (zV H hO hS)) λr s' h=>?_
  cases r with
  |error e=>calc(O H e s' h).elim
  |ok fl=>
   cases fl with
   |next=>calc Y' h
   |brk=>calc Y' h
   |cont=>calc Y' h
   |ret u=>
    obtain⟨v,c,os,C,un,T,r',q⟩:=h;have q':v=.bl true:=q;subst q';obtain rfl:u=Value.bool true:=r';refine⟨rfl,OldK.of_keep λb o e=>?_,os,C⟩
    cases q:H b with
    |none=>calc un.keep b o e q (by intro z;calc absurd (show b∈([]:List Addr) from z) nofun) nofun
    |some u=>
     rcases hO b with z|⟨ob,c,z⟩
     ·rw[q]at z;cases z
     ·have z2:=un.tM b ob _ z;obtain⟨e1,_⟩:=aU b _ z;obtain⟨e2,_⟩:=T b _ z2;rw[e]at e1;cases e1;exact e2
 cases U:K.lookup a with
 |some o=>
  have e:=X a o U;rw[I]at e
  cases e;calc i (λ_=>none) (λ_=>.inl rfl) (.inr ⟨_,vs.toArray,_,U,rfl,rfl,rfl,by rw[List.size_toArray,R];calc Y,by simpa using Z⟩) (λb u z=>by have G:(none:Option HO)=some u:=z;cases G) (λb z=>absurd rfl z) λz=>absurd rfl z
 |none=>
  refine i (λb=>if b=a then some (.zw {cls:=.type "list",data:=.seq vs.toArray} (.lst (l.map V.int))) else none) (λb=>?_) (.inl (.inr ⟨{cls:=.type "list",data:=.seq vs.toArray},if_pos rfl⟩)) (λb u z=>?_) (λb z=>?_) λ_=>U
  ·by_cases g:b=a
   ·exact .inr ⟨_,_,if_pos g⟩
   ·exact .inl (if_neg g)
  ·by_cases g:b=a
   ·have G:=(if_pos g).symm.trans z
    cases G;subst g;exact⟨I,by rw[List.length_map];calc Y,vs,_,Z,I⟩
   ·have G:=(if_neg g).symm.trans z
    cases G
  ·by_cases g:b=a
   ·exact g
   ·calc absurd (if_neg g) z
end
section
theorem KS{l:W.OpenLaw}{n k:Nat}{q:Program}{c:List Str}{p:(Str->Option Value)->Heap->Prop}{o:World->Heap->Prop}{d:DefRec}{K:Params->W.Frag}{CX:World->FI}{sp:World->Sp}{x:Str}
  (r:l.most=some n) (t:n<=sizeLine) (y:d.params.defaults=[]) (z:dq k callerA)
  (A:∀(w:World) (h:Heap),o w h->(K w.params).In h)
  (F:∀(w:World) (i:Str->Option Value) (j:Addr) (h:Heap),(K w.params).In h->h.Ns mainGlobals i->i d.name=some (.ref j)->
   ∃m:FuncData,(∀(s:Shared) (u:Value),BindsTo s m ⟨[u],[]⟩ [(x,u)])/\
    ∀base:Heap,(K w.params).In base->base.Ns mainGlobals i->iM l.prog w (K w.params) i base (CX w) k j m [x] (sp w))
  (u:∀(w:World) (H:Hp) (a:Addr) (h:List Int),h.length<=n->Pu H->aS (K w.params) H a (h.map V.int)->sp w [.ref a] H (λv _=>v=.bl true) λ_ _ _=>False)
  (k:∀(w:World) (H:Hp) (s:Shared) (e:Value) (s':Shared),CX w [] H s (λ_ _ _=>False) e s'->False):
  W.WalkO q c p o l.row.toRowW d [] (λf vs=>PySem.call f vs):=by
 calc Att.xZ r y λw l f i v j o x B n a vs h G Y C D E p q d c s=>?_;have l:=A w _ Y;obtain⟨m,n,o⟩:=F w i j _ l G.T.g p;calc Gd l G.T.g G.T.b G.T.builtins G.T.nolimit s q d (aae c t) z o n (λH m r=>u w H a h c m r) λH e s'=>k w H f e s'
end
section
variable {f:Addr}{st:Stmt}{qual:Str}
def eN(s:Stmt):Arguments:=match s with
 | .FunctionDef _ a _ _ _ _ _ _ _ _=>a
 |_=>{posonlyargs:=[],args:=[],vararg:=none,kwonlyargs:=[],kw_defaults:=[],kwarg:=none,defaults:=[]}
def cj(s:Stmt):List Stmt:=match s with
 | .FunctionDef _ _ b _ _ _ _ _ _ _=>b
 |_=>[]
def az(s:Stmt):Scope:=match s with
 | .FunctionDef _ _ _ _ _ _ a _ _ _=>a
 |_=>{kind:=.function,names:=[],isGenerator:=false,isCoroutine:=false}
abbrev uV:FI:=λ_ _ _ _ _ _=>False
abbrev E0:XK:=λ_ _ _=>False
theorem x6{X:Cx}:Passes uV X E0:=λ_ _ _ _ _ _ _ h=>h.elim
structure EI(K:W.Frag)(x qual:Str)(st:Stmt)(f:Addr)(fd:FuncData):Prop where
 ex:∃(oc:Value) (od:Option Addr) (kV doc pm:Value) (an:Option Addr) (dD ct:Value) (EH:Array (Option Value)),
  fd=W.fnOf x qual (eN st) (cj st) (az st) .none kV doc pm an dD ct/\K.lookup f=some ⟨oc,od,.func fd,EH⟩/\W.codeIn K dD qual=true
 kp:W.keepIn K (.ref f)=true
section
variable {P:Program}{w:World}{K:W.Frag}{mg:Str->Option Value}{base:Heap}
theorem EI.ok{x:Str}{d:FuncData}{N b:List Str}{k:Nat}{sp:Sp}(F:EI K x qual st f d)(S:aD N b (az st))(c:∀vs H Q E,sp vs H Q E->vs.length=b.length)
  (e:∀(a:Value) (A:Around) (outer:List Env) (s:Shared) (H:Hp) (vs:List V) (Q:VK) (E:XK),dq k (A.deeper (envOfC qual (az st) s.heap.objs.size f a))->sp vs H Q E->
   ∃t,qr (gV uV P w K mg base N qual (az st) f a A outer s H E).xy (cj st) t/\t {nx:=λ_ g=>Q .bx g,rt:=Q} (start N vs) H):iM P w K mg base uV (k + 1) f d b sp:=by
 obtain⟨i,j,kV,h,l,m,a,n,o,rfl,b,d⟩:=F.ex;calc MO b d S c λA outer s H vs Q E g i=>?_;obtain⟨t,h,q⟩:=e a A outer s H vs Q E g i;calc⟨t,h.xy,q⟩
theorem EI.binds{x:Str}{g:FuncData}{b:List Str}(F:EI K x qual st f g)
  (h:∀(kV a c:Value) (d:Option Addr) (e ct:Value) (us:List Value),us.length=b.length->bindArgs (W.fnOf x qual (eN st) (cj st) (az st) .none kV a c d e ct) ⟨us,[]⟩=pure (b.zip us)):Binds K g b []:=by
 obtain⟨i,j,kV,a,c,d,e,ct,k,rfl,b,g⟩:=F.ex;calc .all (h kV a c d e ct)
theorem jQ{x:Str}{g:Value}{od d:Option Addr}{h:Array (Option Value)}{kV a e b ct:Value}(l:K.lookup f=some ⟨g,od,.func (W.fnOf x qual (eN st) (cj st) (az st) .none kV a e d b ct),h⟩)
  (c:W.codeIn K b qual=true) (k:W.keepIn K (.ref f)=true):EI K x qual st f (W.fnOf x qual (eN st) (cj st) (az st) .none kV a e d b ct):=⟨⟨g,od,kV,a,e,d,b,ct,h,rfl,l,c⟩,k⟩
end
theorem aI{n:Nat}(h:n<=1000):n<sizeLine:=aaX h ∅
section
variable {X:Cx}
theorem pv(i:Nat){x:Str}{a:Pos}(b:X.N[i]?=some x:=by rfl)(c:T7 X.env.scope x:=by first|calc Or.inl rfl|calc Or.inr (Or.inl rfl)|calc Or.inr (Or.inr rfl))(d:(x==("__debug__":Str))=false:=by decide)
  (e:(x==("__classdict__":Str))=false:=by decide):PE X (.Name x a) (Fe i):=Ff b c d e
end
def aq(H a:Hp):Prop:=∀b o,H b=some o->a b=some o
theorem aq.refl(H:Hp):aq H H:=λ_ _ h=>h
theorem aq.trans{H c d:Hp}(a:aq H c)(b:aq c d):aq H d:=λc o h=>b c o (a c o h)
theorem aq.free{H a:Hp}(e:aq H a){l:Addr}(h:a l=Option.none):H l=Option.none:=by
 cases q:H l with
 |none=>rfl
 |some o=>
  rw[e l o q]at h
  cases h
theorem aq.seq{K:W.Frag}{H b:Hp}{a:Addr}{xs:List V}(e:aq H b)(h:aS K H a xs):aS K b a xs:=by
 rcases h with(h|⟨o,h⟩)|h
 ·exact .inl (.inl (e _ _ h))
 ·exact .inl (.inr ⟨o,e _ _ h⟩)
 ·calc .inr h
end
end L2
set_option maxHeartbeats 4000000
namespace L2
open PySem PySem.Spec PyProof.Rows
section
variable {X:Cx}{H H₂:Hp}{pins:List (Addr×Obj)}{σ:St}
def mw(env:Env):List (Str×NameKind)->List (Str×Addr)->List (Str×Addr)
 | [],cs=>cs
 |(n,k)::r,cs=>mw env r (if k == .free then(n,(env.cells.lookup n).getD 0)::cs else cs)
theorem x9{env:Env}{x:Str}{c:Addr}:∀{l:List (Str×NameKind)}{cs:List (Str×Addr)},(x,c)∈mw env l cs->(x,c)∈cs\/((x,NameKind.free)∈l/\c=(env.cells.lookup x).getD 0)
 | [],cs,h=>.inl h
 |(n,k)::r,cs,h=>by
  unfold mw at h;rcases x9 h with a|⟨a,g⟩
  ·by_cases b:(k == NameKind.free)=true
   ·rw[if_pos b] at a;have i:k=.free:=by simpa using b
    rcases List.mem_cons.mp a with e|e
    ·have d:=congrArg Prod.fst e;have f:=congrArg Prod.snd e;simp only at d f;subst d i;exact .inr ⟨aas,f⟩
    ·exact .inl e
   ·rw[if_neg b]at a;exact .inl a
  ·calc .inr ⟨aaf _ a,g⟩
theorem uW{env:Env}{p:Str×Addr}:∀{l:List (Str×NameKind)}{cs:List (Str×Addr)},p∈cs->p∈mw env l cs
 | [],_,h=>h
 |(n,k)::r,cs,h=>by
  unfold mw;calc uW ?_;split
  ·exact aaf _ h
  ·calc h
theorem rD{env:Env}{x:Str}:∀{l:List (Str×NameKind)}{cs:List (Str×Addr)},(x,NameKind.free)∈l->(x,(env.cells.lookup x).getD 0)∈mw env l cs
 | [],_,h=>by simp at h
 |(n,k)::r,cs,h=>by
  unfold mw;rcases List.mem_cons.mp h with e|e
  ·have a:=congrArg Prod.fst e;have b:=congrArg Prod.snd e;simp only at a b;subst a b;calc uW ?_;rw[if_pos nofun];exact aas
  ·calc rD e
theorem fg{β:Type}:∀{l:List (Str×β)}{x:Str}{c:β},(x,c)∈l->∃d,l.lookup x=some d
 | [],_,_,h=>by simp at h
 |(n,b)::r,x,c,h=>by
  by_cases e:x=n
  ·subst e;exact⟨b,nofun⟩
  ·have a:(x == n)=false:=beq_eq_false_iff_ne.mpr e;rcases List.mem_cons.mp h with q | q
   ·exact absurd (congrArg Prod.fst q) e
   ·obtain⟨d,b⟩:=fg q;calc⟨d,by simp only[List.lookup_cons,a];calc b⟩
theorem ml{scope:Scope}{env:Env}(h:∀x∈scope.names,x.2=.free->∃c,env.cells.lookup x.1=some c):closureFor scope env=pure (mw env scope.names []):=by
 unfold closureFor;have b:∀(l:List (Str×NameKind)) (a:List (Str×Addr)),(∀x ∈ l,x.2=.free->∃c,env.cells.lookup x.1=some c)->
   ((forIn l a λ(x:Str×NameKind) (r:List (Str×Addr))=>if (x.2==NameKind.free)=true then do let y <-cellOf env x.1;pure (ForInStep.yield ((x.1,y)::r)) else pure (ForInStep.yield r)):Sem (List (Str×Addr)))=pure (mw env l a):=by
  intro l;induction l with
  |nil=>intro a _;rfl
  |cons p r f=>
   intro a d;obtain⟨n,k⟩:=p;rw[List.forIn_cons];dsimp only;by_cases a:(k==NameKind.free)=true
   ·obtain⟨c,g⟩:=d (n,k) aas (by simpa using a);have e:cellOf env n=pure c:=by unfold cellOf;rw[g]
    rw[if_pos a,e,pure_bind,pure_bind];dsimp only;rw[f _ λx c=>d x (List.mem_cons_of_mem _ c)];show _=pure (mw env r _);rw[if_pos a,g];rfl
   ·rw[if_neg a,pure_bind];dsimp only;rw[f _ λx c=>d x (List.mem_cons_of_mem _ c)];show _=pure (mw env r _);rw[if_neg a]
 have:=b scope.names [] h;simp only at this ⊢;rw[this,pure_bind]
def BM(a:List Expr)(env:Env):Sem Bool:=forIn a true λc r=>if r=true then do let ok <-isTrue c env (eval c env);pure (ForInStep.yield ok) else pure (ForInStep.yield r)
def Sd(X:Cx)(a:List Expr)(t:TT):Prop:=
 ∀(pins:List (Addr×Obj)) (s:Shared) (σ:St) (H:Hp) (Q:Bool->Hp->Prop),Inv X pins σ H s->t σ H Q->wpAny (model X.prog X.w) X.A (BM a X.env) (TP X pins σ Q) X.xe s
def iR:TT:=λ_ H Q=>Q true H
theorem KU:Sd X [] iR:=λ_ _ _ H _ I h=>P' ⟨H,I,h⟩
theorem jR{c:Expr}{t:TT}(h:PT X c t):Sd X [c] t:=λpins s σ H Q I a=>wpAny_tests_one (h pins s σ H Q I a)
section
variable {prog:Program}{w:World}{A:Around}{R:Result->Shared->Prop}{s:Shared}
theorem wc{o a e:Expr}{p:List Expr}{scope:Scope}{t:Pos}{y q:Value}{env:Env}(I:Nat->Shared->Prop)
  (u:∀n s,I n s->wpAny (model prog w) A (pyNext y) (λr b=>match r with
   |none=>R (.ok .next) b
   | some v=>wpAny (model prog w) A (letOwnedTupleGo a y v) (λ_ f=>wpAny (model prog w) A (assign a env v) (λ_ g=>
     wpAny (model prog w) A (BM p env) (λok c=>
      if ok=true then wpAny (model prog w) A (eval o env) (λx i=>
       wpAny (model prog w) A (call (.builtin "list.append") [q,x]) (λ_ j=>∃m,m < n/\I m j) (λ_ _=>False) i) (λ_ _=>False) c
      else ∃m,m < n/\I m c) (λ_ _=>False) g) (λ_ _=>False) f) (λ_ _=>False) b) (λ_ _=>False) s)
  (n:Nat) (h:I n s):
  codeAny (model prog w) A (.compLoop (.ListComp o [⟨a,e,p,0⟩] scope t) 0 y q env) R s:=by
 calc codeAny_loop rfl I (λn s m=>?_) n h;show wpAny _ A ((compTurn (.ListComp o [⟨a,e,p,0⟩] scope t) 0 y q env).onRaise (λx=>do noteFrame x env;theTreesLotGoes x)) _ _ s;calc wpAny_noted ?_;rw[compTurn_list];refine j' (wpAny_standAt (j' (aag (u n s m) (λr b k=>?_) λ_ _ d=>d.elim)))
 cases r with
 |none=>calc P' k
 |some v=>
  calc j' (aag k (λ_ f a=>?_) λ_ _ d=>d.elim);refine j' (aag a (λ_ g b=>j' (aag b (λok c l=>?_) λ_ _ d=>d.elim)) λ_ _ d=>d.elim)
  cases ok with
  |false=>calc P' ⟨rfl,l⟩
  |true=>
   calc j' (j' (aag l (λx i a=>j' (aag a (λ_ j b=>P' (P' ⟨rfl,b⟩)) λ_ _ d=>d.elim)) λ_ _ d=>d.elim))
end
def Dt(N N':List Str)(ix:List (Option Nat))(scope:Scope):Bool:=
 N'.length==ix.length&&(N'.zip ix).all λp=>match p.2 with|none=>true|some j=>N[j]? == some p.1&&scope.names.lookup p.1==some .free
def tR(ix:List (Option Nat))(σ:St):St:=ix.map λo=>match o with|none=>none|some j=>(σ[j]?).join
def freeOk(scope:Scope)(outer:Scope):Bool:=
 scope.names.all λx=>(x.2 != .cell)&&(x.2 != .free||(outer.names.lookup x.1==some .cell||outer.names.lookup x.1==some .free))&&(x.2 != .local||scope.names.lookup x.1==some .local)&&(x.2 != .free||scope.names.lookup x.1==some .free)
def UC(X:Cx)(scope:Scope)(C:Addr)(N':List Str)(a:Shared)(H₂:Hp)(b:List Addr):Cx:=
 {X with N:=N',s₀:=a,H₀:=H₂,env:=compEnvC scope (mw X.env scope.names []) C X.env,outer:=X.stack,stack:=X.stack,ex:=b,fn:=λ_=>false,pn:=[],xe:=λ_ _=>False}
theorem freeOk.at{scope outer:Scope}(h:freeOk scope outer=true){x:Str×NameKind}(e:x∈scope.names):x.2≠.cell/\(x.2=.free->outer.names.lookup x.1=some .cell\/outer.names.lookup x.1=some .free)/\(x.2=.local->scope.names.lookup x.1=some .local)/\(x.2=.free->scope.names.lookup x.1=some .free):=by
 have f:=List.all_eq_true.mp h x e;simp only[Bool.and_eq_true,Bool.or_eq_true,bne_iff_ne,ne_eq,beq_iff_eq]at f;obtain⟨⟨⟨a,b⟩,c⟩,d⟩:=f;calc⟨a,λe=>b.resolve_left λz=>z e,λe=>c.resolve_left λz=>z e,λe=>d.resolve_left λz=>z e⟩
theorem eV{scope:Scope}{env:Env}:∀{names:List (Str×NameKind)}{x:Str}{k:NameKind},
  (names.map λ(n,k)=>if (k==NameKind.free&&env.scope.kind == .function&&env.kindOf n==some .cell) then(n,NameKind.cell) else(n,k)).lookup x=some k->∃a,(x,a)∈names/\(k=a\/(k=.cell/\a=.free))
 | [],_,_,h=>by simp at h
 |(n,c)::r,x,k,h=>by
  rw[List.map_cons]at h;by_cases d:(c==NameKind.free&&env.scope.kind == .function&&env.kindOf n==some .cell)=true
  ·simp only[d,if_true] at h
   cases b:x==n with
   |true=>
    simp only[List.lookup_cons,b]at h;have e:x=n:=by simpa using b
    subst e;have g:c=.free:=by
     simp only[Bool.and_eq_true,beq_iff_eq]at d;exact d.1.1
    calc⟨c,aas,.inr ⟨(Option.some.inj h).symm,g⟩⟩
   |false=>
    simp only[List.lookup_cons,b]at h;obtain⟨a,m,q⟩:=eV (scope:=scope) (env:=env) h;exact⟨a,aaf _ m,q⟩
  ·dsimp only at h;rw[if_neg d] at h
   cases b:x==n with
   |true=>
    simp only[List.lookup_cons,b]at h;have e:x=n:=by simpa using b
    subst e;calc⟨c,aas,.inl (Option.some.inj h).symm⟩
   |false=>
    simp only[List.lookup_cons,b]at h;obtain⟨a,m,q⟩:=eV (scope:=scope) (env:=env) h;calc⟨a,aaf _ m,q⟩
section
variable {X:Cx}{scope:Scope}{C:Addr}{N':List Str}{s₂:Shared}{H₂:Hp}{fp:List Addr}{pins:List (Addr×Obj)}{σ:St}
theorem lT(I:Inv X pins σ H₂ s₂)(d:freeOk scope X.env.scope=true){x:Str}{c:Addr}(h:(mw X.env scope.names []).lookup x=some c):X.env.cells.lookup x=some c/\(x,NameKind.free)∈scope.names:=by
 rcases x9 (aaT h) with z|⟨a,b⟩
 ·simp at z
 ·have q:=(d |> λh=>freeOk.at h a).2.1 rfl;obtain⟨c,e⟩:=I.ok.has x q;rw[e]at b;calc⟨by rw[e,b];rfl,a⟩
theorem Pw(I:Inv X pins σ H₂ s₂)(d:freeOk scope X.env.scope=true)(s:scope.kind=.function)(n:s₂.heap.objs.size<=C)(f:∀b∈fp,oW X pins H₂ b)(t:∀b∈fp,∃o,s₂.heap.get? b=some o):(UC X scope C N' s₂ H₂ fp).Ok where
 mod:=I.ok.mod
 kind:=s
 glob:=I.ok.glob
 blt:=I.ok.blt
 above:=n
 inj:=λx y c s u=>I.ok.inj x y c (lT I d s).1 (lT I d u).1
 has:=λx h=>by
  have h:(relabel scope X.env).names.lookup x=some .cell\/(relabel scope X.env).names.lookup x=some .free:=h;have g:(x,NameKind.free)∈scope.names:=by
   rcases h with h|h
   ·obtain⟨v,m,q⟩:=eV (scope:=scope) h;rcases q with q | ⟨_,q⟩
    ·subst q;exact absurd rfl (freeOk.at d m).1
    ·subst q;exact m
   ·obtain⟨v,m,q⟩:=eV (scope:=scope) h;rcases q with q | ⟨q,_⟩
    ·subst q;exact m
    ·cases q
  exact fg (rD g)
 MH:=λ_ _ h _=>absurd (show false=true from h) U'
 hd:=I.ok.hd
 frames:=I.ok.frames
 OJ:=.inl rfl
 R8:=λb a=>by
  obtain⟨o,g⟩:=t b a;obtain⟨p,i,j,k,l,r⟩:=f b a;calc⟨X' (R' (S' g) n),λx c h=>?_⟩;exact l x c (lT I d h).1
 bs:=I.bs
 Bq:=aae I.ok.Bq I.sz
 vM:=λb o e a=>by
  obtain⟨p,i,j,k,l,r⟩:=f b a;rcases k with z|z
  ·exact I.ok.vM b o e z
  ·exact absurd (R' (R' (S' e) I.ok.Bq) z) (aaM _)
 xJ:=λb a z=>by
  obtain⟨p,i,j,k,l,r⟩:=f b a;rcases List.mem_cons.mp (I.vN b z) with e|e
  ·exact i e
  ·exact j e
 lZ:=I.stack
 Fc:=I.qJ
end
theorem Inv.less{a:St}{s:Shared}(I:Inv X pins σ H s)(b:a.length=σ.length)(h:∀(i:Nat) (v:V),a[i]?=some (some v)->σ[i]?=some (some v)):Inv X pins a H s:=
 ⟨I.ok,I.os,I.bare,I.base,(let ⟨m,a,c⟩:=I.loc;⟨m,a,λi x v d e f=>c i x v d (h i v e) f⟩),I.cell,I.free,I.hX,I.pin,I.aU,b.trans I.len⟩
def Ext(σ a:St):Prop:=a.length=σ.length/\∀(i:Nat) (v:V),σ[i]?=some (some v)->a[i]?=some (some v)
theorem Ext.refl(σ:St):Ext σ σ:=⟨rfl,λ_ _ h=>h⟩
theorem Ext.set{a:St}(h:Ext σ a){j:Nat}{w:Option V}(b:σ[j]?=some none):Ext σ (a.set j w):=by
 calc⟨by rw[List.length_set];calc h.1,λi v e=>?_⟩;have c:j≠i:=by rintro rfl;rw[b]at e;cases e
 rw[List.getElem?_set_ne c];calc h.2 i v e
theorem KW(ix:List (Option Nat))(σ:St):(tR ix σ).length=ix.length:=by unfold tR;rw[List.length_map]
section
variable {X:Cx}{scope:Scope}{N':List Str}{ix:List (Option Nat)}{s₂ s₄:Shared}{H₂:Hp}{fp:List Addr}{pins:List (Addr×Obj)}{σ:St}{C D:Addr}{h₄:Heap}
theorem aay(I:Inv X pins σ H₂ s₂)(g:freeOk scope X.env.scope=true)(M:scope.kind=.function)(B:Dt X.N N' ix scope=true)(O:∀b∈fp,oW X pins H₂ b)(P:∀b∈fp,∃o,s₂.heap.get? b=some o)
  (l:s₂.heap.objs.size<=D) (p:s₂.heap.objs.size<=C) (R:D≠C) (S:h₄.Ns C (λ_=>none)) (n:∀b o,s₂.heap.get? b=some o->h₄.get? b=some o)
  (T:h₄.get? D=some {cls:=.type "list",data:=.seq ([]:List Value).toArray 0}) (t':Nat):
  Inv (UC X scope C N' s₂ H₂ fp) [] (tR ix σ) (upd H₂ D (.lst [])) {s₂ with heap:=h₄,toks:=t'}:=by
 have b:H₂ D=none:=I.aU.fresh l;have U:H₂ C=none:=I.aU.fresh p;have W:l9 X.prog X.w (upd H₂ D (.lst [])) h₄:=I.aU.laid n l ⟨aaa _,[],0,.nil,T⟩;refine⟨Pw I g M p O P,rfl,I.bare,Un.laid n l b,⟨_,S,λi x v y d Y=>?_⟩,λx c e=>?_,?_,λx c e=>?_,λp b=>absurd (show p∈([]:List (Addr×Obj)) from b) nofun,W,?_⟩
 ·have a:=B;unfold Dt at a;rw[Bool.and_eq_true] at a;have b:N'.length=ix.length:=by simpa using a.1
  have b:i<N'.length:=(List.getElem?_eq_some_iff.mp y).1;unfold tR at d;rw[List.getElem?_map]at d
  cases q:ix[i]? with
  |none=>rw[q]at d;cases d
  |some o=>
   rw[q]at d
   cases o with
   |none=>cases d
   |some j=>
    have o:(x,some j)∈N'.zip ix:=by
     calc aap (i:=i) ?_;rw[List.getElem?_zip_eq_some];exact⟨y,q⟩
    have b:=List.all_eq_true.mp a.2 _ o;simp only[Bool.and_eq_true,beq_iff_eq]at b;obtain⟨t,F⟩:=b;have m:(σ[j]?).join=some v:=by simpa using d
    have Z:σ[j]?=some (some v):=by
     cases z:σ[j]? with
     |none=>rw[z]at m;cases m
     |some y=>rw[z]at m;exact congrArg some m
    have G:(x,NameKind.free)∈scope.names:=aaT F;have J:=(freeOk.at g G).2.1 rfl;obtain⟨m,b,hv⟩:=I.loc;obtain⟨u,ru,lk⟩:=hv j x v t Z (by rcases J with z|z;calc .inr (.inl z);calc .inr (.inr z));refine⟨u,ru,.inr ⟨?_,?_⟩⟩
    ·rcases Y with z | z | z
     ·obtain⟨b,m',k⟩:=eV (scope:=scope) (env:=X.env) (show(relabel scope X.env).names.lookup x=some .local from z);rcases k with k | ⟨k,_⟩
      ·subst k;have:=(freeOk.at g m').2.2.1 rfl;rw[F]at this;cases this
      ·cases k
     ·exact .inl z
     ·exact .inr z
    ·rcases lk with⟨r,_⟩ | ⟨_,c,l2,l3⟩
     ·have r:X.env.scope.names.lookup x=some .local:=r;rcases J with z | z
      ·rw[r]at z;cases z
      ·rw[r]at z;cases z
     ·obtain⟨b,K⟩:=fg (rD (env:=X.env) (cs:=[]) G);have L:=(lT I g K).1;rw[l2]at L;have e7:c=b:=Option.some.inj L;subst e7;exact⟨c,K,l3.keeps n⟩
 ·obtain⟨v,z⟩:=I.cell x c (lT I g e).1;exact⟨v,z.keeps n⟩
 ·show upd H₂ D (.lst []) C=none;rw[ay (Ne.symm R)];exact U
 ·show upd H₂ D (.lst []) c=none;have b:=(lT I g e).1;obtain⟨v,z⟩:=I.cell x c b;have:c≠D:=X' (R' z.lt l);rw[ay this];exact I.hX x c b
 ·rw[KW];have a:=B;unfold Dt at a;rw[Bool.and_eq_true] at a;have:N'.length=ix.length:=by simpa using a.1
  calc this.symm
end
def kI(ix:List (Option Nat))(J:It)(g:TG)(d:TT)(e:TE)(σ:St)(a:Hp)(Q:VK)(D:Addr):Prop:=
 ∃W:Nat->Nat->Hp->Prop,(∃m,W 0 m (upd a D (.lst [])))/\∀i m H,W i m H->
  (J.stop i H/\Q (.ref D) H)\/(J.go i H/\∃N:Hp->Prop,(∀b,N b->∃c,c < m/\W (i + 1) c b)/\∀x b,J.MN i H x b->g x (tR ix σ) b λa f=>Ext (tR ix σ) a/\d a f λb c=>
   if b=true then e a c λy d=>∃ys,d D=some (.lst ys)/\ys.length < sizeLine/\N (upd d D (.lst (ys++[y]))) else N c)
def UG(ix:List (Option Nat))(b:TI)(g:TG)(c:TT)(d:TE):TE:=λσ H Q=>b σ H λJ a=>∀D,a D=none->kI ix J g c d σ a Q D
abbrev tU(X:Cx)(scope:Scope)(N':List Str)(F:Cx->Prop):Prop:=∀(C:Addr) (a:Shared) (H₂:Hp) (b:List Addr),F (UC X scope C N' a H₂ b)
section
variable {X:Cx}{elt target iter:Expr}{ifs:List Expr}{scope:Scope}{pos:Pos}{N':List Str}{ix:List (Option Nat)}{wi:TI}{g:TG}{tt:TT}{te:TE}
theorem yc{a:Shared}{it:Addr}{l:List Addr}{S:Nat->Heap->Prop}{J:It}{QD:Addr->Hp->Prop}{RR:Value->Addr->Result->Shared->Prop}{E:Value->Shared->Prop}
  (KY:X.calm=true) (hf:freeOk scope X.env.scope=true) (hk:scope.kind=.function) (hx:Dt X.N N' ix scope=true)
  (hg:tU X scope N' λY=>PG Y target g) (ht:tU X scope N' λY=>Sd Y ifs tt) (he:tU X scope N' λY=>PE Y elt te)
  (I:Inv X pins σ H₂ a) (T:Turn X.prog X.w X.K target J l it S) (st:S 0 a.heap) (JS:∀b∈l,oW X pins H₂ b)
  (hw:∀D,H₂ D=none->∃W:Nat->Nat->Hp->Prop,(∃m,W 0 m (upd H₂ D (.lst [])))/\∀i m H,W i m H->
   (J.stop i H/\QD D H)\/(J.go i H/\∃N:Hp->Prop,(∀d,N d->∃B,B < m/\W (i + 1) B d)/\∀x d,J.MN i H x d->g x (tR ix σ) d λp C=>Ext (tR ix σ) p/\tt p C λb L=>
    if b=true then te p L λy C=>∃ys,C D=some (.lst ys)/\ys.length < sizeLine/\N (upd C D (.lst (ys++[y]))) else N L))
  (hRR:∀(D C:Addr) (s':Shared) (d:Hp) (m:Str->Option Value),a.heap.objs.size<=C->d C=none->C∉xu X.stack->s'.heap.Ns C m->(∃o,s'.heap.get? C=some o/\∀v,o.data≠.cell v)->Inv X pins σ d s'->QD D d->RR (.ref D) C (.ok .next) s'):
  wpAny (model X.prog X.w) X.A (newList []) (λp j=>wpAny (model X.prog X.w) X.A (newFunctionEnv scope X.env.globals (mw X.env scope.names []) [] X.env.qual none .none (some X.env)) (λJ C=>
   codeAny (model X.prog X.w) X.A (.compStart (.ListComp elt [⟨target,iter,ifs,0⟩] scope pos) 0 (.ref it) p {J with scope:=relabel scope X.env}) (RR p J.locals) C) E j) E a:=by
 calc aaO (wpAny_newFunctionEnv (λx hx=>(freeOk.at hf hx).1) (by intro y p;simp at p) (λk Pz KZ=>?_) hk);dsimp only at Pz KZ ⊢;generalize p:a.heap.push {cls:=.type "list",dict:=none,data:=.seq ([]:List Value).toArray}=P2 at Pz KZ ⊢;have C:P2.objs.size=a.heap.objs.size+1:=by rw[<-p,Heap.size_push]
 have N:a.heap.objs.size≠P2.objs.size:=by rw[C];exact X' (Nat.lt_succ_self _)
 have M:a.heap.objs.size<=P2.objs.size:=by rw[C];exact Nat.le_succ _
 have U:∀b o,a.heap.get? b=some o->k.get? b=some o:=λb o e=>KZ.extBut b o (X' (R' (S' e) M)) (J' _ (p▸J' _ e));have C:k.get? a.heap.objs.size=some {cls:=.type "list",data:=.seq ([]:List Value).toArray 0}:=KZ.extBut _ _ N (J' _ (p▸V' _ rfl));have J:∀b∈l,∃o,a.heap.get? b=some o:=λb c=>let ⟨o,e,_⟩:=T.obj _ _ st b c;⟨o,e⟩
 have p:a.heap.get? P2.objs.size=none:=Heap.get?_none_of_le M;have p:H₂ a.heap.objs.size=none:=I.aU.fresh (K' _);obtain⟨W,⟨m0,w0⟩,Z⟩:=hw a.heap.objs.size p;have fpD:∀b∈l,b≠a.heap.objs.size:=λb c=>let ⟨o,e⟩:=J b c;X' (S' e)
 have fpC:∀b∈l,b≠P2.objs.size:=λb c=>let ⟨o,e⟩:=J b c;X' (R' (S' e) M)
 let Y:=UC X scope P2.objs.size N' a H₂ l
 have hcY:Y.calm=true:=KY;have I0:Inv Y [] (tR ix σ) (upd H₂ a.heap.objs.size (.lst [])) {a with heap:=k,toks:=a.toks+([]:List (Str×Value)).length}:=
  aay I hf hk hx JS J (K' _) M N (by simpa using Pz) U C _
 have OK:P2.objs.size∉xu X.stack:=λz=>by
  rcases List.mem_cons.mp (I.vN _ z) with e|e
  ·exact absurd I.lt (by rw[<-e];calc Nat.not_lt.mpr M)
  ·exact I.OL M e
 have zN:∀{d:Hp},(∀b∈l,d b=none)->∀b∈l,oW Y [] d b:=λhn b c=>by
  obtain⟨f0,f1,f2,f3,f4,f5⟩:=JS b c;refine⟨hn b c,fpC b c,I0.ok.xJ b c,.inl c,(I0.ok.R8 b c).2,λp C=>absurd (show p∈([]:List (Addr×Obj)) from C) nofun⟩
 have UI:S 0 k:=T.keep _ _ _ st λb _ o e=>U b o e;have G:∀j:Shared,j={a with heap:=k,toks:=a.toks + ([]:List (Str×Value)).length}->
   codeAny (model X.prog X.w) X.A (.compLoop (.ListComp elt [⟨target,iter,ifs,0⟩] scope pos) 0 (.ref it) (.ref a.heap.objs.size) (compEnvC scope (mw X.env scope.names []) P2.objs.size X.env))
    (RR (.ref a.heap.objs.size) P2.objs.size) j:=by
  rintro j rfl;calc wc (λn s'=>∃i d,Inv Y [] (tR ix σ) d s'/\S i s'.heap/\(∀b∈l,d b=none)/\W i n d) ?_ m0 ⟨0,_,I0,UI,λb c=>by rw[ay (fpD b c)];calc(JS b c).1,w0⟩;rintro n s3 ⟨i,L,I3,oP,Ub,w3⟩;rcases Z i n L w3 with⟨stop,qn⟩|⟨go,Nn,hNn,step⟩
  ·calc cD (T.done Y rfl rfl rfl hcY i [] s3 _ L _ I3 (zN Ub) oP stop) λr s4 q=>?_;obtain⟨hr,O⟩:=q;subst hr;obtain⟨m,hn,_⟩:=O.loc;refine hRR _ _ s4 L m M O.free OK hn ?_ ?_ qn
   ·obtain⟨o,k,p,j,hd,_⟩:=hn;exact⟨o,j,λv z=>by rw[hd]at z;cases z⟩
   ·refine I.ML (s':=s4) (ch:=l) O.os ?_ O.aU O.bare λb c=>?_
    ·exact O.base
    ·obtain⟨f0,f1,f2,f3,f4,f5⟩:=JS b c;exact⟨f3,f1,f4,f5⟩
  ·calc cD (T.item Y rfl rfl rfl hcY i [] s3 _ L _ I3 (zN Ub) oP go) λr s4 q=>?_;obtain⟨u,hr,h4⟩:=q;subst hr;calc cD h4 λ_ s5 q=>?_;obtain⟨x,p,r,v,z,k,C⟩:=q;have j:=r.pinned (zN C) (T.obj _ _ k);calc cD (hg _ _ _ _ _ s5 _ p x u _ j v (step x p z)) λ_ I q=>?_;obtain⟨F,p,r,j,u⟩:=q;calc cD (ht _ _ _ _ _ I F p _ r u) λok s7 q=>?_;obtain⟨H7,I7,q7⟩:=q;have t:∀{P:Shared} {R:Hp} {B:Nat},Inv Y ([]++oX l s5.heap) F R P->B<n->W (i+1) B R->∃m,m<n/\∃i d,Inv Y [] (tR ix σ) d P/\S i P.heap/\(∀b∈l,d b=none)/\W i m d:=λ{P R B} I8 hm w8=>by
    calc⟨B,hm,i+1,R,(I8.kD).less j.1.symm j.2,T.keep _ _ _ k λb c o e=>(I8.pin (b,o) (aab _ (aab _ (jN c e)))).1,λb c=>?_,w8⟩;obtain⟨o,e,d⟩:=T.obj _ _ k b c;exact(I8.pin (b,o) (aab _ (aab _ (jN c e)))).2.1
   cases ok with
   |false=>
    rw[if_neg Bool.false_ne_true]at q7 ⊢;obtain⟨B,hm,w8⟩:=hNn _ q7;calc t I7 hm w8
   |true=>
    rw[if_pos rfl] at q7 ⊢;calc cD (he _ _ _ _ _ s7 F H7 _ I7 q7) λy P q=>?_;obtain⟨b,R,I8,d,ys,e,i,j⟩:=q;have k:=(uR (X:=Y)) (pins:=[]++oX l s5.heap) P F R (.ref a.heap.objs.size) [b] (.ref a.heap.objs.size) [y] (λ_ c=>Nn c) I8 rfl (.cons d .nil)
     ⟨_,ys,b,rfl,rfl,e,i,j⟩
    exact cD k λ_ d ⟨_,c,a,_,b⟩=>let ⟨B,hm,c⟩:=hNn _ b;t a hm c
 calc codeAny_compStart_list (G _ rfl) (T.self _ 0 _ _ _ UI (G _ rfl))
theorem Inv.aaD{s b:Shared}{C:Addr}{h':Heap}(a:Inv X pins σ H₂ b)(I:Inv X pins σ H s)(d:b.heap.objs.size<=C)(f:H C=none)(g:Heap.SameBut C s.heap h'):Inv X pins σ H {s with heap:=h'}:=by
 refine I.turned (t':=s.toks) (λb o h e=>(g.2 b h).trans e) f (Nat.ne_of_gt (R' a.lt d)) (.inr (aae a.sz d)) (λx c e z=>?_) λp b z=>?_
 ·obtain⟨v,q⟩:=a.cell x c e;exact absurd (R' q.lt (by rw[z];calc d)) (aaM _)
 ·calc absurd (R' (S' (a.pin p b).1) (by rw[z];calc d)) (aaM _)
theorem dQ
  (hi:PI X target iter wi) (l:tU X scope N' λY=>PG Y target g) (n:tU X scope N' λY=>Sd Y ifs tt) (a:tU X scope N' λY=>PE Y elt te)
  (o:X.calm=true:=by rfl) (f:freeOk scope X.env.scope=true:=by kernel_rfl) (i:scope.kind=.function:=by rfl) (b:Dt X.N N' ix scope=true:=by kernel_rfl) (j:∀x,foldedSetIterable iter X.env x=pure x:=by intro _;rfl):PE X (.ListComp elt [⟨target,iter,ifs,0⟩] scope pos) (UG ix wi g tt te):=by
 walk_at "xc";rw[eval_ListComp];have m:∀x∈scope.names,x.2=.free->∃c,X.env.cells.lookup x.1=some c:=λx b a=>I.ok.has x.1 ((freeOk.at f b).2.1 a);refine wpAny_comprehension_free (use:=none) rfl j (ml m) i (λx b a=>(freeOk.at f b).2.2.1 a) (aag (hi pins s σ H _ I h) (λm j c=>aag c (λm j d=>?_) λ_ _ e=>e) λ_ _ e=>e);obtain⟨c,j,m,J,q,e,k,T,p,r,t⟩:=d;subst e;refine yc (RR:=λc C=>compPost (model X.prog X.w) X.A X.xe none (EP X pins σ Q) c C) (QD:=λD c=>Q (.ref D) c) o f i b l n a k T p r t ?_;intro D C x c m d e y j z u q;exact⟨m,j,λB v=>⟨.ref D,c,k.aaD u d e v,rfl,q⟩⟩
theorem gF{i:Nat}{y:Str}{d S:Pos}(hN:X.N.Nodup)(F:X.N[i]?=some y)(hy:Loc X.env.scope y)
  (hi:PI X target iter wi) (hg:tU X scope N' λY=>PG Y target g) (ht:tU X scope N' λY=>Sd Y ifs tt) (j:tU X scope N' λY=>PE Y elt te)
  (G:swapsWith (.ListComp elt [⟨target,iter,ifs,0⟩] scope pos) (some (.Name y d)) S.line X.env=pure true:=by rfl)
  (KY:X.calm=true:=by rfl) (K:freeOk scope X.env.scope=true:=by kernel_rfl) (U:scope.kind=.function:=by rfl) (k:Dt X.N N' ix scope=true:=by kernel_rfl) (hs:∀x,foldedSetIterable iter X.env x=pure x:=by intro _;rfl) (OM:X.fn y=true\/X.env.scope.names.lookup y=some .local:=by grind):
  PS X (.Assign [.Name y d] (.ListComp elt [⟨target,iter,ifs,0⟩] scope pos) S) (zK (UG ix wi g tt te) (fL i)):=by
 walk_at "xd";rw[exec_Assign_Name_used _ _ _ _ G];refine j' (wpAny_standAt (j' ?_));show wpAny _ X.A (do let _ <-comprehension (.ListComp elt [⟨target,iter,ifs,0⟩] scope pos) scope X.env _ (newList []) false (eval iter X.env) (some (assign (.Name y d) X.env))) _ _ s;have YT:∀x ∈ scope.names,x.2=.free->∃c,X.env.cells.lookup x.1=some c:=λx k j=>I.ok.has x.1 ((freeOk.at K k).2.1 j);refine j' (aag (wpAny_comprehension_free (use:=some (assign (.Name y d) X.env)) (Q:=λ_ a=>SP X pins D .next a) rfl hs (ml YT) U (λx k j=>(freeOk.at K k).2.2.1 j)
  (aag (hi pins s σ H _ I h) (λxv W l=>aag l (λYH Z n=>?_) λ_ _ e=>e) λ_ _ e=>e)) (λ_ a hq=>P' (P' hq)) λ_ _ e=>e)
 obtain⟨it,fp,tn,J,H2,e,f,T,Bs,f2,hw⟩:=n;subst e;calc yc (RR:=λL C=>compPost (model X.prog X.w) X.A X.xe (some (assign (.Name y d) X.env)) (λ_ a=>SP X pins D .next a) L C) (QD:=λr t=>D.nx (σ.set i (some (.ref r))) t) KY K U k hg ht j f T Bs f2 hw ?_;intro r C a t m u UD uX hn E I' q;obtain⟨o,E,YE⟩:=E;show wpAny _ X.A (assign (.Name y d) X.env (.ref r)) _ _ a;have B:C≠X.env.locals:=Nat.ne_of_gt (R' f.lt u);have M:C∉X.fs:=f.OL u;have O:Inv X (pins++[(C,o)]) σ t a:=I'.vO λp P=>(List.mem_append.mp P).elim (λz=>I'.pin p (aab _ z)) λz=>by
  have z':p=(C,o):=by simpa using z
  subst z';exact⟨E,UD,B,M,YE⟩
 calc wpAny_assign_Name (ia O hN F hy (v:=.ref r) rfl (λs3 I3=>?_) OM);obtain⟨e3,n3,_⟩:=I3.pin (C,o) (aab _ (aab _ nofun));obtain⟨o',es,ep,ma,r'⟩:=hn;rw[E]at ma;cases ma;have R:Inv X pins (σ.set i (some (.ref r))) t s3:=I3.kD;calc⟨m,⟨o,es,ep,e3,r'⟩,λh' UJ=>⟨_,t,?_,q⟩⟩;refine R.turned (t':=s3.toks) (λb o hb e=>(UJ.2 b hb).trans e) n3 B (.inr (aae f.sz u)) (λx c e z=>?_) λp P z=>?_
 ·obtain⟨v,q⟩:=f.cell x c e;exact absurd (R' q.lt (by rw[z];calc u)) (aaM _)
 ·calc absurd (R' (S' (f.pin p P).1) (by rw[z];calc u)) (aaM _)
end
def YU(b:Nat->List V->Hp->Prop)(D:Addr)(i:Nat)(H:Hp):Prop:=∃a,H D=some (.lst a)/\a.length<=i+1/\b (i+1) a H
theorem cy{b:Nat->List V->Hp->Prop}{D:Addr}{i n:Nat}{ys:List V}{y:V}(c:H D=some (.lst ys))(a:ys.length<=i)(hi:i<n)(d:n<=sizeLine)(h:b (i+1) (ys++[y]) (upd H D (.lst (ys++[y])))):
  ∃a,H D=some (.lst a)/\a.length<sizeLine/\YU b D i (upd H D (.lst (a++[y]))):=
 ⟨ys,c,(),ys++[y],af,by rw[List.length_append,List.length_singleton];lia,h⟩
theorem bE{ix:List (Option Nat)}{J:It}{n:Nat}{g:TG}{c:TT}{j:TE}{k:Hp}{Q:VK}{D:Addr}(d:Nat->List V->Hp->Prop)(a:n<=sizeLine)(s:d 0 [] (upd k D (.lst [])))
  (t:∀i ys H,i<n->d i ys H->J.go i H) (u:∀ys H,d n ys H->J.stop n H)
  (v:∀i ys H,i < n->H D=some (.lst ys)->ys.length<=i->d i ys H->∀x f,J.MN i H x f->g x (tR ix σ) f λa o=>Ext (tR ix σ) a/\c a o λb l=>
   if b=true then j a l λy o=>∃h,o D=some (.lst h)/\h.length < sizeLine/\YU d D i (upd o D (.lst (h++[y]))) else YU d D i l)
  (w:∀ys H,H D=some (.lst ys)->ys.length<=n->d n ys H->Q (.ref D) H):
  kI ix J g c j σ k Q D:=by
 calc⟨λi m H=>m=n-i/\i<=n/\∃ys,H D=some (.lst ys)/\ys.length<=i/\d i ys H,⟨n,nofun,aaa _,[],af,K' _,s⟩,?_⟩;rintro i m H ⟨rfl,a,ys,q,r,p⟩;by_cases g:i<n
 ·exact .inr ⟨t i ys H g p,YU d D i,λf ⟨h,a,b,c⟩=>⟨n-(i+1),(),rfl,g,h,a,b,c⟩,λx f y=>v i ys H g q r p x f y⟩
 ·have e:i=n:=by lia
  subst e;calc .inl ⟨u ys H p,w ys H q r p⟩
end
section
section
variable {X:Cx}
def Ge(i j:Int):Prop:=0<j/\j.natAbs.log2<9000
theorem Gf:fJ X (binaryOp .FloorDiv) (rI Ge λi j=>.int (i/j)):=YI λi j _ _ _ _ _ a q=>by
 have b:(0:Int)<j:=a.1;calc floordiv_int () (by rw[Int.fdiv_eq_ediv_of_nonneg i ()];calc q) (.inl (PyProof.noPylong_of_log2 a.2))
def uI(C:Int->Int->Prop)(g:Int->Int->V):R2:=λx y H Q=>match x,y with
 | .int i,.int j=>C i j/\Q (g i j) H
 |_,_=>False
def PB(g:Int->Int->V):R2:=λx y H Q=>match x,y with
 | .int i,.int j=>Q (g i j) H
 |_,_=>False
theorem YV{f:Value->Value->Sem Value}{C:Int->Int->Prop}{g:Int->Int->V}(h:fJ X f (rI C g)):fJ X f (uI C g):=by
 intro a s σ H x y v u Q I b c q
 cases x<;>cases y<;>first
  |calc(show False from q).elim
  |calc h a s σ H _ _ v u Q I b c ⟨_,_,rfl,rfl,q.1,q.2⟩
theorem Gg{f:Value->Value->Sem Value}{g:Int->Int->V}(h:fJ X f (Kr g)):fJ X f (PB g):=by
 intro a s σ H x y v u Q I b c q
 cases x<;>cases y<;>first
  |calc(show False from q).elim
  |calc h a s σ H _ _ v u Q I b c ⟨_,_,rfl,rfl,q⟩
theorem fP:fJ X (binaryOp .Sub) (PB λi j=>.int (i-j)):=Gg O4
theorem lU:fJ X (binaryOp .Mult) (uI Fy λi j=>.int (i*j)):=YV O5
theorem cR:fJ X (binaryOp .Mod) (uI (λ_ j=>0<j) λi j=>.int (i%j)):=YV O6
theorem gG:fJ X (binaryOp .FloorDiv) (uI Ge λi j=>.int (i/j)):=YV Gf
theorem qM:fJ X (binaryOp .Pow) (uI Kt λi j=>.int (i^j.toNat)):=YV O7
theorem gk:fJ X (compareOp .Lt) (PB λi j=>.bl (decide (i<j))):=Gg Ug
theorem Ag:fJ X (compareOp .LtE) (PB λi j=>.bl (decide (i<=j))):=Gg Uh
theorem o9:fJ X (compareOp .Gt) (PB λi j=>.bl (decide (j<i))):=Gg Ui
theorem Gh:fJ X (compareOp .GtE) (PB λi j=>.bl (decide (j<=i))):=Gg Uj
def kn(K:W.Frag)(H:Hp):Nat->V->V->Prop
 |0,_,_=>False
 |n+1,x,y=>(x=y/\fO x=true)\/∃a b xs ys,x=.ref a/\y=.ref b/\((bH K H a xs/\bH K H b ys)\/(aS K H a xs/\aS K H b ys))/\xs.length=ys.length/\∀(i:Nat) u v,xs[i]?=some u->ys[i]?=some v->kn K H n u v
theorem in1_units(A:Around):A.in1.units=A.units+1:=rfl
theorem nN{pins:List (Addr×Obj)}{σ:St}{H:Hp}{s:Shared}(I:Inv X pins σ H s):∀(n:Nat) (A:Around) {x y:V}{u v:Value},kn X.K H n x y->A.units+n<cLine->RelV x u->RelV y v->SeqAt.EqAt A s u v true
 |0,_,_,_,_,_,h,_,_,_=>h.elim
 |n+1,A,x,y,u,v,h,o,c,d=>by
  rcases h with⟨e,f⟩|⟨a,b,J,L,j,l,m,o,M⟩
  ·subst e;have q:=z7 (A:=A) (s:=s) c d f f;have g:BH x x=true:=by cases x <;> first | rfl | calc absurd (show false=true from f) U' | simp[BH]
   rw[g]at q;exact q
  ·subst j l
   cases c
   cases d;by_cases k:a=b
   ·subst k;exact SeqAt.EqAt.same _
   rcases m with⟨o,p⟩|⟨o,p⟩
   ·obtain⟨c,h,q,H⟩:=I.tuple o;obtain⟨f,l,r,N⟩:=I.tuple p;have O:=h.length;have P:=l.length;have t:c.toArray.size=f.toArray.size:=by simp;lia
    have d:=SeqAt.RcAt.tuples (A:=A) (e:=λ_=>true) (show s.heap.IsTuple a c.toArray from q) (show s.heap.IsTuple b f.toArray from r) () λj u v=>by
     have w:j<c.length:=by simpa using u
     have y:j<f.length:=by simpa using v
     obtain⟨z,m,B⟩:=h.get (i:=j) (x:=J[j]'()) nofun;obtain⟨C,g,D⟩:=l.get (i:=j) (x:=L[j]'()) nofun;have E:c.toArray[j]=z:=by
      have:=cP w;rw[this]at m;simpa using Option.some.inj m
     have F:f.toArray[j]=C:=by
      have:=cP y;rw[this]at g;simpa using Option.some.inj g
     rw[E,F];exact nN I n A.in1 (M j _ _ nofun nofun) (by rw[in1_units];lia) B D
    have G:SeqAt.RcAt A s (.ref a) (.ref b) true:=by
     have:((List.range (min c.toArray.size f.toArray.size)).all (λ_=>true)&&c.toArray.size==f.toArray.size)=true:=by
      rw[t];simp
     rw[this]at d;exact d
    exact SeqAt.EqAt.of_refs k G
   ·obtain⟨c,h,q,H⟩:=I.list o;obtain⟨f,l,r,N⟩:=I.list p;have O:=h.length;have P:=l.length;have t:c.toArray.size=f.toArray.size:=by simp;lia
    have d:=SeqAt.RcAt.lists (A:=A) (e:=λ_=>true) q.isList r.isList t () λj u v=>by
     have w:j<c.length:=by simpa using u
     have y:j<f.length:=by simpa using v
     obtain⟨z,m,B⟩:=h.get (i:=j) (x:=J[j]'()) nofun;obtain⟨C,g,D⟩:=l.get (i:=j) (x:=L[j]'()) nofun;have E:c.toArray[j]=z:=by
      have:=cP w;rw[this]at m;simpa using Option.some.inj m
     have F:f.toArray[j]=C:=by
      have:=cP y;rw[this]at g;simpa using Option.some.inj g
     rw[E,F];exact nN I n A.in1 (M j _ _ nofun nofun) (by rw[in1_units];lia) B D
    have G:SeqAt.RcAt A s (.ref a) (.ref b) true:=by
     have:((List.range c.toArray.size).all (λ_=>true))=true:=by simp
     rw[this]at d;exact d
    calc SeqAt.EqAt.of_refs k G
end
end
section
variable {pins:List (Addr×Obj)}{σ:St}
section
variable {X:Cx}
theorem Gi{H:Hp}{s:Shared}(I:Inv X pins σ H s){A:Around}{n:Nat}{a b:Addr}(h:kn X.K H (n+1) (.ref a) (.ref b))(f:A.units+n+1<cLine):
  SeqAt.RcAt A s (.ref a) (.ref b) true/\SeqAt.RcNeAt A s (.ref a) (.ref b) false:=by
 rcases h with⟨e,f⟩|⟨g,k,J,L,c,d,j,l,M⟩
 ·exact absurd (show false=true from f) U'
 ·cases c
  cases d;rcases j with⟨g,h⟩|⟨g,h⟩
  ·obtain⟨d,k,l,H⟩:=I.tuple g;obtain⟨f,m,o,N⟩:=I.tuple h;have O:=k.length;have P:=m.length;have u:d.toArray.size=f.toArray.size:=by simp;lia
   have c:∀j (g:j<d.toArray.size) (h:j<f.toArray.size),SeqAt.EqAt A.in1 s d.toArray[j] f.toArray[j] ((λ_=>true) j):=λj v w=>by
    have y:j<d.length:=by simpa using v
    have z:j<f.length:=by simpa using w
    obtain⟨B,p,C⟩:=k.get (i:=j) (x:=J[j]'()) nofun;obtain⟨D,q,E⟩:=m.get (i:=j) (x:=L[j]'()) nofun;have F:d.toArray[j]=B:=by
     have:=cP y;rw[this]at p;simpa using Option.some.inj p
    have G:f.toArray[j]=D:=by
     have:=cP z;rw[this]at q;simpa using Option.some.inj q
    rw[F,G];exact nN I n A.in1 (M j _ _ nofun nofun) (by rw[in1_units];lia) C E
   have e:((List.range (min d.toArray.size f.toArray.size)).all (λ_=>true)&&d.toArray.size==f.toArray.size)=true:=by
    rw[u];simp
   have r:=SeqAt.RcAt.tuples (A:=A) (show s.heap.IsTuple a d.toArray from l) (show s.heap.IsTuple b f.toArray from o) () c;have t:=SeqAt.RcNeAt.tuples (A:=A) (show s.heap.IsTuple a d.toArray from l) (show s.heap.IsTuple b f.toArray from o) () c;rw[e]at r t;exact⟨r,t⟩
  ·obtain⟨d,k,l,H⟩:=I.list g;obtain⟨f,m,o,N⟩:=I.list h;have O:=k.length;have P:=m.length;have u:d.toArray.size=f.toArray.size:=by simp;lia
   have c:∀j (g:j<d.toArray.size) (h:j<f.toArray.size),SeqAt.EqAt A.in1 s d.toArray[j] f.toArray[j] ((λ_=>true) j):=λj v w=>by
    have y:j<d.length:=by simpa using v
    have z:j<f.length:=by simpa using w
    obtain⟨B,p,C⟩:=k.get (i:=j) (x:=J[j]'()) nofun;obtain⟨D,q,E⟩:=m.get (i:=j) (x:=L[j]'()) nofun;have F:d.toArray[j]=B:=by
     have:=cP y;rw[this]at p;simpa using Option.some.inj p
    have G:f.toArray[j]=D:=by
     have:=cP z;rw[this]at q;simpa using Option.some.inj q
    rw[F,G];exact nN I n A.in1 (M j _ _ nofun nofun) (by rw[in1_units];lia) C E
   have e:(List.range d.toArray.size).all (λ_=>true)=true:=by simp
   have r:=SeqAt.RcAt.lists (A:=A) l.isList o.isList u () c;have t:=SeqAt.RcNeAt.lists (A:=A) l.isList o.isList u () c;rw[e]at r t;calc⟨r,t⟩
def rE(K:W.Frag)(H:Hp)(a b:Addr):Prop:=∃xs ys,xs.length≠ys.length/\((aS K H a xs/\aS K H b ys)\/(bH K H a xs/\bH K H b ys/\(xs=[]\/ys=[])))
theorem BN{H:Hp}{s:Shared}(I:Inv X pins σ H s){A:Around}{a b:Addr}(h:rE X.K H a b)(k:A.units<cLine):
  SeqAt.RcAt A s (.ref a) (.ref b) false/\SeqAt.RcNeAt A s (.ref a) (.ref b) true:=by
 obtain⟨j,n,r,⟨l,m⟩|⟨l,m,q⟩⟩:=h
 ·obtain⟨d,h,g,r⟩:=I.list l;obtain⟨f,n,i,t⟩:=I.list m;have o:=h.length;have p:=n.length;have j:(d.toArray.size != f.toArray.size)=true:=by simp;lia
  exact⟨SeqAt.RcAt.lists_lengths g.isList i.isList j k,SeqAt.RcNeAt.lists_lengths g.isList i.isList j k⟩
 ·obtain⟨d,h,g,r⟩:=I.tuple l;obtain⟨f,n,i,t⟩:=I.tuple m;have o:=h.length;have p:=n.length;have c:∀j (l:j<d.toArray.size) (m:j<f.toArray.size),SeqAt.EqAt A.in1 s d.toArray[j] f.toArray[j] ((λ_=>true) j):=λj h l=>by
   exfalso;have m:j<d.length:=by simpa using h
   have h:j<f.length:=by simpa using l
   rcases q with e|e
   ·subst e;simp at o;lia
   ·subst e;simp at p;lia
  have e:((List.range (min d.toArray.size f.toArray.size)).all (λ_=>true)&&d.toArray.size==f.toArray.size)=false:=by
   have:d.toArray.size≠f.toArray.size:=by simp;lia
   rw[Bool.and_eq_false_iff];exact .inr (beq_eq_false_iff_ne.mpr this)
  have h:=SeqAt.RcAt.tuples (A:=A) (show s.heap.IsTuple a d.toArray from g) (show s.heap.IsTuple b f.toArray from i) k c;have j:=SeqAt.RcNeAt.tuples (A:=A) (show s.heap.IsTuple a d.toArray from g) (show s.heap.IsTuple b f.toArray from i) k c;rw[e]at h j;calc⟨h,j⟩
def PF(K:W.Frag):R2:=λx y H Q=>match x,y with
 | .ref a,.ref b=>(kn K H 20 (.ref a) (.ref b)/\Q (.bl true) H)\/(rE K H a b/\Q (.bl false) H)
 |x,y=>Ku x y=true/\Q (.bl (decide (x=y))) H
def PH(K:W.Frag):R2:=λx y H Q=>match x,y with
 | .ref a,.ref b=>(kn K H 20 (.ref a) (.ref b)/\Q (.bl false) H)\/(rE K H a b/\Q (.bl true) H)
 |x,y=>Ku x y=true/\Q (.bl (!decide (x=y))) H
theorem Gj(c:X.A.units+64<cLine):fJ X (compareOp .Eq) (PF X.K):=by
  intro pins s σ H x y v u Q I a b h
  cases x<;>cases y<;>first
    |calc Ud pins s σ H _ _ v u Q I a b h
    | (cases a;cases b
       rcases h with⟨a,q⟩|⟨a,q⟩
       · exact(Gi I (A:=X.A) a ()).1 X.prog X.w X.xe _ ⟨.bl true,H,I,rfl,q⟩
       · calc(BN I (A:=X.A) a ()).1 X.prog X.w X.xe _ ⟨.bl false,H,I,rfl,q⟩)
theorem Gk(c:X.A.units+64<cLine):fJ X (compareOp .NotEq) (PH X.K):=by
  intro pins s σ H x y v u Q I a b h
  cases x<;>cases y<;>first
    |calc Ue pins s σ H _ _ v u Q I a b h
    | (cases a;cases b
       rcases h with⟨a,q⟩|⟨a,q⟩
       · exact(Gi I (A:=X.A) a ()).2 X.prog X.w X.xe _ ⟨.bl false,H,I,rfl,q⟩
       · calc(BN I (A:=X.A) a ()).2 X.prog X.w X.xe _ ⟨.bl true,H,I,rfl,q⟩)
def Sf(g:Bool->Bool):R2:=λx y H Q=>match x,y with
 | .bl c,.bl d=>Q (.bl (g (c==d))) H
 |x,.bx=>Q (.bl (g (decide (x=.bx)))) H
 |_,_=>False
theorem rF:fJ X (compareOp .Is) (Sf id):=by
 intro pins s σ H x y v u Q I a b h
 cases x<;>cases y<;>first
  |calc(show False from h).elim
  |calc O8 pins s σ H _ _ v u Q I a b ⟨rfl,h⟩
  |(cases a;cases b;calc is_bool ⟨.bl _,H,I,rfl,h⟩)
theorem pb:fJ X (compareOp .IsNot) (Sf not):=by
 intro pins s σ H x y v u Q I a b h
 cases x<;>cases y<;>first
  |calc(show False from h).elim
  |calc Kv pins s σ H _ _ v u Q I a b ⟨rfl,h⟩
  |(cases a;cases b;calc isnot_bool ⟨.bl _,H,I,rfl,h⟩)
def uIn(K:W.Frag)(a:Bool):R2:=λx y H Q=>match y with
 | .ref p=>∃xs,(aS K H p xs\/bH K H p xs)/\fO x=true/\xs.all fO=true/\Q (.bl (if a then !xT x xs else xT x xs)) H
 |_=>False
theorem Gm:fJ X (compareOp .In) (uIn X.K false):=by
 intro pins s σ H x y v u Q I a b h
 cases y<;>first
  |calc(show False from h).elim
  |(obtain⟨c,d,e,f,g⟩:=h;calc Dl pins s σ H _ _ v u Q I a b ⟨_,c,rfl,d,e,f,g⟩)
theorem Dv:fJ X (compareOp .NotIn) (uIn X.K true):=by
 intro pins s σ H x y v u Q I a b h
 cases y<;>first
  |calc(show False from h).elim
  |(obtain⟨c,d,e,f,g⟩:=h;calc vZ pins s σ H _ _ v u Q I a b ⟨_,c,rfl,d,e,f,g⟩)
def PJ(K:W.Frag)(a:TE):TI:=λσ H R=>a σ H λx b=>match x with
 | .ref a=>((∃xs,aS K b a xs)/\R (xN K a) b)\/((∃xs,bH K b a xs)/\R (Ua K a) b)
 |_=>False
theorem cA{n l:Expr}{i:TE}(r:PE X l i):PI X n l (PJ X.K i):=by
  calc⟨?_⟩;intro pins s σ H R I h;calc cD (r pins s σ H _ I h) λv c t=>?_;obtain⟨x,j,d,u,k⟩:=t
  cases x<;>first
    |calc(show False from k).elim
    | (rename_i a;cases u
       rcases k with⟨⟨w,f⟩,q⟩|⟨⟨w,f⟩,q⟩
       · obtain⟨m,y,p,z⟩:=d.list f;calc wpAny_pyIter_list p.isList ?_;calc⟨c.heap.objs.size,[c.heap.objs.size],_,_,j,rfl,d.kept (t':=c.toks) λb o e=>J' _ e,Dh a _,⟨_,V' _ rfl,rfl,rfl⟩,λb g=>?_,q⟩;have e:b=c.heap.objs.size:=by simpa using g
         subst e;exact d.Fs (K' _) (d.aU.fresh (K' _))
       · obtain⟨m,y,p,z⟩:=d.tuple f;calc aaH (show c.heap.IsTuple a m.toArray from p) ?_;calc⟨c.heap.objs.size,[c.heap.objs.size],_,_,j,rfl,d.kept (t':=c.toks) λb o e=>J' _ e,zL a _,⟨_,V' _ rfl,rfl,rfl⟩,λb g=>?_,q⟩;have e:b=c.heap.objs.size:=by simpa using g
         subst e;calc d.Fs (K' _) (d.aU.fresh (K' _)))
end
structure Def(P:Program)(w:World)(K:W.Frag)(mg:Str->Option Value)(base:Heap)(x:Str)(k:Nat)(ps:List Str)(sp:Sp):Prop where
 ex:∃f fd,iM P w K mg base uV k f fd ps sp/\mg x=some (.ref f)/\W.keepIn K (.ref f)=true/\Binds K fd ps []
structure dj(K:W.Frag)(mg:Str->Option Value)(x qual:Str)(st:Stmt)(ps:List Str):Prop where
 ex:∃f fd,EI K x qual st f fd/\mg x=some (.ref f)/\Binds K fd ps []
section
variable {P:Program}{w:World}{K:W.Frag}{mg:Str->Option Value}{base:Heap}
theorem dj.ok{x a:Str}{b:Stmt}{N c:List Str}{k:Nat}{sp:Sp}(T:dj K mg x a b c)(S:aD N c (az b))(d:∀vs H Q E,sp vs H Q E->vs.length=c.length)
  (g:∀(f:Addr) (e:Value) (A:Around) (outer:List Env) (s:Shared) (H:Hp) (vs:List V) (Q:VK) (E:XK),dq k (A.deeper (envOfC a (az b) s.heap.objs.size f e))->sp vs H Q E->
   ∃t,qr (gV uV P w K mg base N a (az b) f e A outer s H E).xy (cj b) t/\t {nx:=λ_ a=>Q .bx a,rt:=Q} (start N vs) H):Def P w K mg base x (k + 1) c sp:=by
 obtain⟨f,a,F,b,c⟩:=T.ex;calc⟨f,a,F.ok S d (g f),b,F.kp,c⟩
end
theorem UM{X:Cx}{k j:Nat}{c:List Str}{sp:Sp}{x:Str}{p a:Pos}{e:Expr}{b:List Expr}{t:TA}(D:Def X.prog X.w X.K X.mg X.base x k c sp)(d:dq j X.A)(g:PA X (e::b) t)(h:Gl X x:=by rfl)(c:k<=j:=by decide)
  (i:(x==("__debug__":Str))=false:=by decide) (j:starEach (e::b) X.env=(false,eval e X.env)::starEach b X.env:=by rfl) (k:(backTo a (starEach b X.env)).any (·.1)=false:=by rfl):
  PE X (.Call (.Name x p) (e::b) [] a) (qk sp [] E0 t):=by
 obtain⟨f,l,F,a,b,e⟩:=D.ex;calc Bz F (d.mono c) h a b e .nil x6 g i j k
end
section
variable {H:Hp}
section
variable {X:Cx}
def PK(K:W.Frag):R2:=λx y H Q=>match x,y with
 | .str z,.int i=>∃c,z.length<=sizeLine/\iQ z.cps.toList i=some c/\Q (.str ⟨#[c]⟩) H
 | .ref p,.int i=>∃xs v,(aS K H p xs\/bH K H p xs)/\iQ xs i=some v/\Q v H
 | .ref p,.str k=>∃v,ku H p (.str k) (some v)/\Q v H
 |_,_=>False
theorem aaG(c:X.A.units+64<cLine):Ut X (PK X.K):=by
  intro a b d s σ H x y v u Q I i j h k
  cases x<;>cases y<;>first
    |calc(show False from h).elim
    |(obtain⟨c,f,l,e⟩:=h;calc Pk a b d s σ H _ _ v u Q I i j ⟨_,_,c,rfl,rfl,f,l,e⟩ k)
    | (obtain⟨c,m,f | f,l,e⟩:=h
       · exact KG a b d s σ H _ _ v u Q I i j ⟨_,c,_,m,rfl,rfl,f,l,e⟩ k
       · calc Pj a b d s σ H _ _ v u Q I i j ⟨_,c,_,m,rfl,rfl,f,l,e⟩ k)
    | (obtain⟨m,g,e⟩:=h
       cases i;calc tail_any (xX I g) PySem.F.slot_dict_getitem.lookup (Dn () I g j λc d a b=>⟨m,H,a,b,e⟩) k)
end
inductive DV where
 |bx|bl (b:Bool)|int (i:Int)|str (x:Str)|tup (ds:List DV)|lst (ds:List DV)|dict
inductive HD(H:Hp):Nat->V->DV->Prop
 |bx {n}:HD H n .bx .bx
 |bl {n} (b:Bool):HD H n (.bl b) (.bl b)
 |int {n} (i:Int):HD H n (.int i) (.int i)
 |str {n} (x:Str):HD H n (.str x) (.str x)
 |tup {n a xs ds}:H a=some (.tup xs)->xs.length=ds.length->(∀(i:Nat) u e,xs[i]?=some u->ds[i]?=some e->HD H n u e)->HD H (n+1) (.ref a) (.tup ds)
 |lst {n a xs ds}:H a=some (.lst xs)->xs.length=ds.length->(∀(i:Nat) u e,xs[i]?=some u->ds[i]?=some e->HD H n u e)->HD H (n+1) (.ref a) (.lst ds)
 |dict {n a bg}:H a=some (.dK bg)->HD H n (.ref a) .dict
theorem HD.same{H a:Hp}(s:aq H a){n:Nat}{x:V}{d:DV}(h:HD H n x d):HD a n x d:=by
 induction h with
 |bx=>calc .bx
 |bl b=>calc .bl b
 |int i=>calc .int i
 |str x=>calc .str x
 |tup a b c d=>calc .tup (s _ _ a) b d
 |lst a b c d=>calc .lst (s _ _ a) b d
 |dict a=>calc .dict (s _ _ a)
theorem HD.mono{H:Hp}{n:Nat}{x:V}{d:DV}(h:HD H n x d):∀{m:Nat},n<=m->HD H m x d:=by
 induction h with
 |bx=>intro m _;calc .bx
 |bl b=>intro m _;calc .bl b
 |int i=>intro m _;calc .int i
 |str x=>intro m _;calc .str x
 |tup a b c f=>
  intro m g;obtain⟨k,rfl⟩:∃k,m=k+1:=⟨m-1,()⟩
  calc .tup a b λi u e p q=>f i u e p q ()
 |lst a b c f=>
  intro m g;obtain⟨k,rfl⟩:∃k,m=k+1:=⟨m-1,()⟩
  calc .lst a b λi u e p q=>f i u e p q ()
 |dict a=>intro m _;calc .dict a
inductive HT(H:Hp):Nat->V->DV->Prop
 |bx {n}:HT H n .bx .bx
 |bl {n} (b:Bool):HT H n (.bl b) (.bl b)
 |int {n} (i:Int):HT H n (.int i) (.int i)
 |str {n} (x:Str):HT H n (.str x) (.str x)
 |tup {n a xs ds}:H a=some (.tup xs)->xs.length=ds.length->(∀(i:Nat) u e,xs[i]?=some u->ds[i]?=some e->HT H n u e)->HT H (n+1) (.ref a) (.tup ds)
theorem HT.hd{H:Hp}{n:Nat}{x:V}{d:DV}(h:HT H n x d):HD H n x d:=by
 induction h with
 |bx=>calc .bx
 |bl b=>calc .bl b
 |int i=>calc .int i
 |str x=>calc .str x
 |tup a b c d=>calc .tup a b d
def cq(H a:Hp):Prop:=∀b xs,H b=some (.tup xs)->a b=some (.tup xs)
theorem aq.aM{a:Hp}(h:aq H a):cq H a:=λb a e=>h b _ e
theorem cq.refl(H:Hp):cq H H:=λ_ _ h=>h
theorem cq.trans{c d:Hp}(a:cq H c)(b:cq c d):cq H d:=λc o h=>b c o (a c o h)
theorem cq.upd{a:Hp}(h:cq H a){p:Addr}{o:HO}(d:∀xs,a p≠some (.tup xs)):cq H (upd a p o):=λb xs e=>by
 have c:=h b xs e;have:b≠p:=λz=>by subst z;exact d xs c
 rw[ay this];calc c
theorem HT.aG{H a:Hp}(s:cq H a){n:Nat}{x:V}{d:DV}(h:HT H n x d):HT a n x d:=by
 induction h with
 |bx=>calc .bx
 |bl b=>calc .bl b
 |int i=>calc .int i
 |str x=>calc .str x
 |tup a b c d=>calc .tup (s _ _ a) b d
theorem aq.new{p:Addr}(o:HO)(a:H p=none):aq H (upd H p o):=λb u e=>by rw[ay (av e a)];calc e
end
section
section
variable {X:Cx}
def PM(K:W.Frag):List V->Hp->VK->Prop:=λxs H Q=>match xs with
 | [x]=>∃n,FC K x H n/\Q (.int (n:Nat)) H
 |_=>False
theorem aQ:eR X (.builtin "len") (PM X.K):=by
 intro a s σ H b c Q I r h
 match b,r,h with
 | [x],r,h=>
  obtain⟨n,b,d⟩:=h;calc FE a s σ H _ c Q I r ⟨x,n,rfl,b,d⟩
def uII(g:Int->Int->Int):List V->Hp->VK->Prop:=λxs H Q=>match xs with
 | [.int i,.int j]=>Q (.int (g i j)) H
 |_=>False
theorem Dw(b:X.calm=true):eR X (.builtin "max") (uII λi j=>if j > i then j else i):=by
 intro a s σ H c d Q I r h
 match c,r,h with
 | [.int i,.int j],r,h=>calc Dj b a s σ H _ d Q I r ⟨i,j,rfl,h⟩
def we(K:W.Frag):List V->Hp->VK->Prop:=λxs H Q=>match xs with
 | [.ref p]=>(∃ys,aS K H p ys/\∀l,H l=none->Q (.ref l) (upd H l (.tup ys)))\/(∃ys,bH K H p ys/\Q (.ref p) H)
 |_=>False
theorem cH:eR X (.type "tuple") (we X.K):=by
 intro a s σ H b e Q I r h
 match b,r,h with
 | [.ref p],r,h=>
  rcases h with⟨b,c,d⟩|⟨b,c,d⟩
  ·exact mh a s σ H _ e Q I r ⟨p,b,rfl,.inl ⟨c,d⟩⟩
  ·calc mh a s σ H _ e Q I r ⟨p,b,rfl,.inr ⟨c,d⟩⟩
def MU(K:W.Frag):List V->Hp->VK->Prop:=λxs H Q=>match xs with
 | [.ref p]=>∃ys,(aS K H p ys\/bH K H p ys)/\∀l,H l=none->Q (.ref l) (upd H l (.lst ys))
 |_=>False
theorem bO:eR X (.type "list") (MU X.K):=by
 intro a s σ H b c Q I r h
 match b,r,h with
 | [.ref p],r,h=>
  obtain⟨b,d,e⟩:=h;calc v7 a s σ H _ c Q I r ⟨p,b,rfl,d,e⟩
def MV:V->V->V->Hp->(Hp->Prop)->Prop:=λo i v H Q=>match o,i with
 | .ref p,.int k=>∃xs j,H p=some (.lst xs)/\zY xs.length k=some j/\Q (upd H p (.lst (xs.set j v)))
 |_,_=>False
theorem eA:OW X MV:=by
 intro a s σ H o i v b c u Q I d e f h
 cases o<;>cases i<;>first
  |calc(show False from h).elim
  |(obtain⟨g,j,i,k,l⟩:=h;calc set_list a s σ H _ _ v b c u Q I d e f ⟨_,g,_,j,rfl,rfl,i,k,l⟩)
end
theorem UN{CX P w K mg base N qual scope f cd A outer s H E}:(gV CX P w K mg base N qual scope f cd A outer s H E).xy.K=K:=rfl
theorem MW{X:Cx}:X.xy.K=X.K:=rfl
theorem Gn{CX P w K mg base N qual scope f cd A outer s H E}:(gV CX P w K mg base N qual scope f cd A outer s H E).K=K:=rfl
theorem MX{X:Cx}{scope C N' a b fp}:(UC X scope C N' a b fp).K=X.K:=rfl
theorem bP:2<=sizeLine:=by decide
end
section
variable {g:Int->Int->V}
section
variable {K:W.Frag}{H:Hp}{Q:VK}{i j:Int}{a b:Addr}{x y:V}{s t:Str}
theorem MY{C:Int->Int->Prop}:uI C g (.int i) (.int j) H Q=(C i j/\Q (g i j) H):=rfl
theorem Gq:PB g (.int i) (.int j) H Q=Q (g i j) H:=rfl
theorem Gr:decide (V.int i=V.int j)=decide (i=j):=by simp
theorem Gs:decide (V.str s=V.str t)=decide (s=t):=by simp
theorem wg:PF K (.int i) (.int j) H Q=Q (.bl (decide (i=j))) H:=by
 show(true=true/\Q (.bl (decide (V.int i=V.int j))) H)=_;rw[Gr];simp
theorem wj:PF K (.str s) (.str t) H Q=Q (.bl (decide (s=t))) H:=by
 show(true=true/\Q (.bl (decide (V.str s=V.str t))) H)=_;rw[Gs];simp
theorem wm:PH K (.int i) (.int j) H Q=Q (.bl (!decide (i=j))) H:=by
 show(true=true/\Q (.bl (!decide (V.int i=V.int j))) H)=_;rw[Gr];simp
theorem wq:PH K (.str s) (.str t) H Q=Q (.bl (!decide (s=t))) H:=by
 show(true=true/\Q (.bl (!decide (V.str s=V.str t))) H)=_;rw[Gs];simp
theorem Gu:PF K (.ref a) (.ref b) H Q=((kn K H 20 (.ref a) (.ref b)/\Q (.bl true) H)\/(rE K H a b/\Q (.bl false) H)):=rfl
theorem Gv:PH K (.ref a) (.ref b) H Q=((kn K H 20 (.ref a) (.ref b)/\Q (.bl false) H)\/(rE K H a b/\Q (.bl true) H)):=rfl
theorem Gw{g:Bool->Bool}{c d:Bool}:Sf g (.bl c) (.bl d) H Q=Q (.bl (g (c==d))) H:=rfl
theorem MZ{b:Bool}:uIn K b x (.ref a) H Q=∃xs,(aS K H a xs\/bH K H a xs)/\fO x=true/\xs.all fO=true/\Q (.bl (if b then !xT x xs else xT x xs)) H:=rfl
theorem Gx:PK K (.ref a) (.int i) H Q=∃xs v,(aS K H a xs\/bH K H a xs)/\iQ xs i=some v/\Q v H:=rfl
theorem Gy:PK K (.ref a) (.str s) H Q=∃v,ku H a (.str s) (some v)/\Q v H:=rfl
theorem Gz:PK K (.str s) (.int i) H Q=∃c,s.length<=sizeLine/\iQ s.cps.toList i=some c/\Q (.str ⟨#[c]⟩) H:=rfl
theorem GB:PM K [x] H Q=∃n,FC K x H n/\Q (.int (n:Nat)) H:=rfl
theorem M0{g:Int->Int->Int}:uII g [.int i,.int j] H Q=Q (.int (g i j)) H:=rfl
theorem nO:we K [.ref a] H Q=((∃ys,aS K H a ys/\∀l,H l=none->Q (.ref l) (upd H l (.tup ys)))\/(∃ys,bH K H a ys/\Q (.ref a) H)):=rfl
theorem BO:MU K [.ref a] H Q=∃ys,(aS K H a ys\/bH K H a ys)/\∀l,H l=none->Q (.ref l) (upd H l (.lst ys)):=rfl
theorem yd{R:Hp->Prop}:MV (.ref a) (.int i) x H R=∃xs j,H a=some (.lst xs)/\zY xs.length i=some j/\R (upd H a (.lst (xs.set j x))):=rfl
theorem uZ{α:Type}{o:Option α}:(some o).join=o:=rfl
end
end
section
variable {r:List V->Hp->VK->Prop}
def cI:Expr->Bool
 | .Starred ..=>false
 |_=>true
theorem cM{e:Expr}{a:List Expr}{env:Env}(h:cI e=true):starEach (e::a) env=(false,eval e env)::starEach a env:=by
 cases e<;>first|rfl|calc absurd h U'
theorem eg{a:Pos}{env:Env}:∀{b:List Expr},b.all cI=true->(backTo a (starEach b env)).any (·.1)=false
 | [],_=>rfl
 |e::b,h=>by
  rw[List.all_cons,Bool.and_eq_true]at h;rw[cM h.1];show(false||(backTo a (starEach b env)).any (·.1))=false;rw[eg h.2];rfl
def Ah:Expr->Bool
 | .ListComp ..=>false
 | .SetComp ..=>false
 | .DictComp ..=>false
 |_=>true
theorem ff{e:Expr}{t:Option Expr}{l:Nat}{env:Env}(h:Ah e=true):swapsWith e t l env=pure false:=by
 cases e<;>first|rfl|calc absurd h U'
section
variable {X:Cx}{e:Expr}{es:List Expr}{te:TE}{t:TA}{pos p:Pos}{x:Str}
theorem ag(a:PE X e te)(b:PA X es t)(h:cI e=true:=by rfl):PA X (e::es) (rq te t):=Kz a b (cM h)
theorem aL{k j:Nat}{a:List Str}{sp:Sp}(D:Def X.prog X.w X.K X.mg X.base x k a sp)(b:dq j X.A)(c:PA X (e::es) t)(d:Gl X x:=by rfl)(a:k<=j:=by decide)
  (f:(x==("__debug__":Str))=false:=by decide) (g:cI e=true:=by rfl) (h:es.all cI=true:=by rfl):
  PE X (.Call (.Name x p) (e::es) [] pos) (qk sp [] E0 t):=UM D b c d a f (cM g) (eg h)
theorem bo{a:String}(b:eR X (.builtin a) r)(c:Gl X x)(d:X.mg x=none)(f:bootBuiltins x=some (.builtin a))(g:PA X (e::es) t)(h:x≠"__name__":=by decide)(a:(x==("__debug__":Str))=false:=by decide)
  (i:cI e=true:=by rfl) (j:es.all cI=true:=by rfl):PE X (.Call (.Name x p) (e::es) [] pos) (Sb r t):=FO b c d f g h a (cM i) (eg j)
theorem da{T:String}(a:eR X (.type T) r)(b:Gl X x)(c:X.mg x=none)(d:bootBuiltins x=some (.type T))(f:PA X (e::es) t)(g:x≠"__name__":=by decide)(h:(x==("__debug__":Str))=false:=by decide)
  (i:cI e=true:=by rfl) (j:es.all cI=true:=by rfl):PE X (.Call (.Name x p) (e::es) [] pos) (Sb r t):=Dk a b c d f g h (cM i) (eg j)
theorem aW{i:Nat}{a:Pos}(b:X.N.Nodup)(hi:X.N[i]?=some x)(c:Loc X.env.scope x)(d:PE X e te)(h:Ah e=true:=by rfl)(f:X.fn x=true\/X.env.scope.names.lookup x=some .local:=by grind):
  PS X (.Assign [.Name x a] e pos) (zK te (fL i)):=Fp b hi c d (ff h) f
theorem bS(a:PE X e te)(h:Ah e=true:=by rfl):PS X (.Expr e pos) (xM te):=Kq a (ff h)
end
end
section
def wt:Expr->Bool
 | .Slice ..=>false
 |_=>true
theorem GC{b:Expr}(h:wt b=true):BE b:=λo i=>by
 cases b<;>first|rfl|calc absurd h U'
theorem ak{X:Cx}{a b:Expr}{d e:TE}{c:Pos}(f:X.A.units+64<cLine)(g:PE X a d)(i:PE X b e)(h:wt b=true:=by rfl):PE X (.Subscript a b c) (Fx (PK X.K) d e):=Uu (aaG f) g i (GC h)
end
section
variable {rest:List Value}{E:Value->Shared->Prop}
def qN:List Value:=[.type "ValueError",.type "Exception",.type "BaseException",.type "object"]
section
variable {prog:Program}{w:World}{A:Around}{h:Heap}{g:Array GenState}{d:Drawn}{t:Nat}{os:OsState}
variable {nm q:Str}{C B N:Addr}{bs:List Value}{sn:List Str}{sub:List Value}{ab:Bool}{col:Option Bool}{dd:Option Addr}{k0 k1 k2 k3 k5:Option Value}
theorem Ai{M:Model}{Q:Unit->Shared->Prop}(a:h.get? C=some (excClassObj nm q C N bs (.ref B::qN) true sn sub ab col dd k0 k1 k2 k3 k5 "ValueError.__new__"))
  (c:Q ⟨⟩ ⟨h,g,d,t,os⟩):wpAny M A (checkBuiltinCall "ValueError.__new__" ⟨.ref C::rest,[]⟩) Q E ⟨h,g,d,t,os⟩:=by
 have b:=PySem.F.excBase_ValueError;have e:(Value.ref C::.ref B::qN).contains (.type "ValueError")=true:=rfl;have f:=b.noStar;simp only[checkBuiltinCall,b.newKind,b.newSplit,b.newRow]
 repeat (first|calc aaA a ?_|(calc aa5 a ?_;rw[e])|calc wpAny_staticBase_exc a ?_|calc wpAny_madeBy_exc a ?_|simp only[bne_self_eq_false,Bool.false_eq_true,if_false]|wp_step)
 calc c
theorem Dx{R:Result->Shared->Prop}(b:h.get? C=some (excClassObj nm q C N bs (.ref B::qN) true sn sub ab col dd k0 k1 k2 k3 k5 "ValueError.__new__"))
  (i:R (.ok (.ret (.ref (h.objs.size + 1)))) ⟨(h.push {cls:=.type "tuple",data:=.seq rest.toArray}).push
   {cls:=.ref C,data:=.fields #[.ref h.objs.size,.none,.none,.none,.bool false,.none]},g,d,t,os⟩) (a:rest.length<=sizeLine):
  codeAny (model prog w) A (.builtin "ValueError.__new__" ⟨.ref C::rest,[]⟩) R ⟨h,g,d,t,os⟩:=by
 have a:=PySem.F.excBase_ValueError;have c:=a.ends;have j:(Value.ref C::.ref B::qN).contains (.type "ValueError")=true:=rfl;have c:(Value.ref C::.ref B::qN).contains (.type "AttributeError")=false:=rfl;have e:(Value.ref C::.ref B::qN).contains (.type "NameError")=false:=rfl;refine codeAny_builtinAt a.entry ?_;unfold Builtin.«BaseException.__new__»;refine PySem.wpAt_bind ?_;show PySem.wpAt _ _ _ (stack >>= _) _ _ _;refine PySem.wpAt_bind (PySem.wpAt_stack λp f=>PySem.wpAt_of_wpAny ?_);wp_walk;refine PySem.wpAt_of_wpAny ?_;rw[a.owner]
 repeat (first|with_reducible calc wpAny_madeHere_exc a.canon b ?_|with_reducible calc aaA b ?_|(with_reducible calc aa5 b ?_;first|rw[j]|rw[c]|rw[e])|wp_step)
 show R _ _;rw[Heap.size_push];calc i
theorem Aj{K:W.Frag}{a:Addr}{Q:PySem.Fin->Shared->Prop}(X:K.In h)
    (c:h.get? C=some (excClassObj nm q C N bs (.ref B::qN) true sn sub ab col dd k0 k1 k2 k3 k5 "ValueError.__new__"))
    (hi:W.findIn K (.ref C) "__init__"=some (some (.ref a))) (i:W.typeIn K (.ref a)=some (.type "function"))
    (j:wpAny (model prog w) A (call (.ref a) (.ref (h.objs.size + 1)::rest)) (λr s'=>r=.none/\Q (.done (.ret (.ref (h.objs.size + 1)))) s') E
      ⟨(h.push {cls:=.type "tuple",data:=.seq rest.toArray}).push {cls:=.ref C,data:=.fields #[.ref h.objs.size,.none,.none,.none,.bool false,.none]},g,d,t,os⟩) (a:rest.length<=sizeLine):
    wpAny (model prog w) A (Builtin.«type.__call__» ⟨.ref C::rest,[]⟩) Q E ⟨h,g,d,t,os⟩:=by
  have e:=PySem.F.excBase_ValueError
  repeat (first|with_reducible calc aaA c ?_|with_reducible calc wpAny_madeBy_exc c ?_|wp_step)
  calc codeAny_call_builtin_code (Code.quiet_builtin _ e.quiet) (Ai c ?_);calc Dx c ?_ a;show wpAny _ _ _ _ _ _;have f:∀b o,h.get? b=some o->((h.push {cls:=.type "tuple",data:=.seq rest.toArray}).push {cls:=.ref C,data:=.fields #[.ref h.objs.size,.none,.none,.none,.bool false,.none]}).get? b=some o:=
    λb o e=>J' _ (J' _ e)
  have b:=f _ _ c;have a:=X.keeps f;have e:((h.push {cls:=.type "tuple",data:=.seq rest.toArray}).push
      {cls:=.ref C,data:=.fields #[.ref h.objs.size,.none,.none,.none,.bool false,.none]}).get? (h.objs.size + 1)=some
      {cls:=.ref C,data:=.fields #[.ref h.objs.size,.none,.none,.none,.bool false,.none]}:=by heap_get
  have c:(Value.ref C::.ref B::qN).contains (.ref C)=true:=by simp
  unfold isInstance
  repeat (first|with_reducible calc aaA e ?_|(with_reducible calc aa5 b ?_;rw[c])|wp_step)
  show wpAny _ _ (typeLookup (.ref C) _) _ _ _;calc(W.looks_findIn a hi).here ?_;calc aaF (j' ?_);calc(W.bind_fn a _ i).here ?_;calc j' (aag j (λr s' k=>?_) λ_ _ x=>x);obtain⟨rfl,a⟩:=k;wp_walk;calc a
theorem Ak{K:W.Frag}{b:Addr}{Q:Value->Shared->Prop}(X:K.In h)
  (a:h.get? C=some (excClassObj nm q C N bs (.ref B::qN) true sn sub ab col dd k0 k1 k2 k3 k5 "ValueError.__new__"))
  (hi:W.findIn K (.ref C) "__init__"=some (some (.ref b))) (c:W.typeIn K (.ref b)=some (.type "function"))
  (e:wpAny (model prog w) (A.under (.builtin "type.__call__" ⟨.ref C::rest,[]⟩)) (call (.ref b) (.ref (h.objs.size + 1)::rest)) (λr s'=>r=.none/\Q (.ref (h.objs.size + 1)) s') E
   ⟨(h.push {cls:=.type "tuple",data:=.seq rest.toArray}).push {cls:=.ref C,data:=.fields #[.ref h.objs.size,.none,.none,.none,.bool false,.none]},g,d,t,os⟩) (b:rest.length<=sizeLine):
  wpAny (model prog w) A (call (.ref C) rest) Q E ⟨h,g,d,t,os⟩:=by
 have f:=tc_lookup;have f:=tc_bind (.ref C);have f:(⟨h,g,d,t,os⟩:Shared).TypeIs (.ref C) "type":=⟨_,a,rfl⟩
 calc wpAny_call (codeAny_of_tree ?_);show wpAny _ _ (callAny (.ref C) _) _ _ _
 repeat (any_goals (first|assumption|with_reducible calc aaA a ?_|wp_step))
 calc⟨rfl,?_⟩;calc codeAny_call_builtin_at (Code.quiet_builtin _ ⋯) entry_typeCall (wpAny_check_type_call_sub a (Aj X a hi c ?_ b));calc e
end
end
end L2
set_option maxHeartbeats 400000
namespace L2
open PySem PySem.Spec PyProof.Rows
section
structure fQ(K:W.Frag)(C B:Addr):Prop where
 ob:∃nm q N bs sn sub ab col dd k0 k1 k2 k3 k5,K.lookup C=some (excClassObj nm q C N bs (.ref B::qN) true sn sub ab col dd k0 k1 k2 k3 k5 "ValueError.__new__")
 ga:W.findIn K (.ref C) "__getattribute__"=some (some (.builtin "BaseException.__getattribute__"))
 gt:W.findIn K (.ref C) "__getattr__"=some none
 sa:W.findIn K (.ref C) "__setattr__"=some (some (.builtin "object.__setattr__"))
 cl:W.findIn K (.ref C) "__class__"=some (some (.builtin "object.__class__"))
 cg:W.specialIn K (.builtin "object.__class__") "__get__"=some (some (.builtin "getset_descriptor.__get__"))
 ct:W.takesIn K (.builtin "object.__class__")=some true
 kp:W.keepIn K (.ref C)=true
theorem fQ.cd{K:W.Frag}{C B:Addr}(c:fQ K C B):∃cd:ClassData,W.clsIn K C=some cd/\cd.mro=.ref C::.ref B::qN/\cd.hasDict=true:=by
 obtain⟨d,q,N,f,g,a,h,b,i,j,k,l,m,n,e⟩:=c.ob;calc⟨_,by unfold W.clsIn;rw[e],rfl,rfl⟩
theorem fQ.mro{K:W.Frag}{C B:Addr}(c:fQ K C B)(v:Value):W.mroIn K C v=some ((.ref C::.ref B::qN).contains v):=by
 obtain⟨cd,e,a,_⟩:=c.cd;unfold W.mroIn;rw[e,Option.bind_some,a];rfl
section
variable {prog:Program}{w:World}{A:Around}{E:Value->Shared->Prop}{s:Shared}{K:W.Frag}{x C B:Addr}{ox:Obj}{od:Option Obj}{name:Str}
open PySem.W in
theorem Dy{v:Value}{a:Tok}{R:Result->Shared->Prop}(X:K.In s.heap)(I:InstAt s.heap x ox C od)(c:fQ K C B)(e:findObj K C od name=some (.value v))(h:R (.ok (.ret v)) s):
  codeAny (model prog w) A (.call (.builtin "BaseException.__getattribute__") ⟨[.ref x,.str name a],[]⟩) R s:=by
 have f:=YB;have i:builtinKind "BaseException.__getattribute__"=some .slot:=by decide +kernel
 have j:splitId "BaseException.__getattribute__"=some ("BaseException","__getattribute__"):=by decide +kernel
 have b:=I.type (M:=model prog w);have k:mroIn K C (.type "BaseException")=some true:=(c.mro _).trans rfl;have L2:Looks (model prog w) s.heap (isInstance (.ref x) (.type "BaseException")) true:=b.andThen (looks_mroIn X k);refine codeAny_call_builtin f.ga.plain PySem.F.entry_bexc_ga (@check_slot (model prog w) _ _ s "BaseException.__getattribute__" "BaseException" "__getattribute__" (.ref x) [.str name a] [] _ i j L2 (PySem.F.args_bexc_ga _ _) ?_);obtain⟨c,g,d,t,l⟩:=s;have a:=looks_find (M:=model prog w) X I e;refine j' (P' (j' (P' (j' (b.here (j' (a.here ?_)))))));exact P' h
open PySem.W in
theorem Am{g a:Value}{b:Tok}{R:Result->Shared->Prop}(X:K.In s.heap)(I:InstAt s.heap x ox C od)(c:fQ K C B)(f:findObj K C od name=some (.bind g a))
  (h:∀A,wpAny (model prog w) A (call g [a,.ref x,.ref C]) (λv s'=>R (.ok (.ret v)) s') (λe s'=>R (.error e) s') s):
  codeAny (model prog w) A (.call (.builtin "BaseException.__getattribute__") ⟨[.ref x,.str name b],[]⟩) R s:=by
 have i:=YB;have j:builtinKind "BaseException.__getattribute__"=some .slot:=by decide +kernel
 have k:splitId "BaseException.__getattribute__"=some ("BaseException","__getattribute__"):=by decide +kernel
 have e:=I.type (M:=model prog w);have l:mroIn K C (.type "BaseException")=some true:=(c.mro _).trans rfl;have L2:Looks (model prog w) s.heap (isInstance (.ref x) (.type "BaseException")) true:=e.andThen (looks_mroIn X l);refine codeAny_call_builtin i.ga.plain PySem.F.entry_bexc_ga (@check_slot (model prog w) _ _ s "BaseException.__getattribute__" "BaseException" "__getattribute__" (.ref x) [.str name b] [] _ j k L2 (PySem.F.args_bexc_ga _ _) ?_);obtain⟨c,m,d,t,n⟩:=s;have b:=looks_find (M:=model prog w) X I f;refine j' (P' (j' (P' (j' (e.here (j' (b.here ?_)))))));show wpAny _ _ (Builtin.ObjectAttr.bindTo g a (.ref x) (.ref C)) _ _ _;exact j' (aaF (aag (h _) (λv s' z=>P' z) λ_ _ z=>z))
end
end
section
section
variable {prog:Program}{w:World}{A:Around}{E:Value->Shared->Prop}{s:Shared}{K:W.Frag}{x C B:Addr}{ox:Obj}{od:Option Obj}{name:Str}
open PySem.W in
theorem aaI{v:Value}{a:Bool}{Q:Value->Shared->Prop}(X:K.In s.heap)(I:InstAt s.heap x ox C od)(c:fQ K C B)(b:findObj K C od name=some (.value v))(e:handedIn v=true)(h:Q v {s with toks:=s.toks+1}):
  wpAny (model prog w) A (getAttr (.ref x) name a) Q E s:=by
 obtain⟨f,g,d,t,i⟩:=s;have j:=YB;have k:=I.type (M:=model prog w);have l:=looks_findIn (M:=model prog w) X c.ga;have L2:=looks_findIn (M:=model prog w) X c.gt;have m:(a&&onTheHeap (Value.builtin "BaseException.__getattribute__"))=false:=by cases a<;>rfl
 unfold getAttr getAttrBy;calc j' (wpAny_mkText (aaF (j' (k.at (j' (l.at ?_))))));show wpAny _ _ (getAttrByItsOwn _ _ _ _ _ _) _ _ _;unfold getAttrByItsOwn callGetattribute boundAndCalled;calc j' (L2.at (j' (wpAny_attempt (aaF ?_))));rw[m];simp only[Bool.false_eq_true,if_false];rw[j.ga.bind];calc j' (P' (wpAny_call ?_));calc Dy (s:=⟨f,g,d,t+1,i⟩) X I c b ?_;show wpAny _ _ (handedOut v) _ _ _;rw[handedOut_of e];exact P' h
open PySem.W in
theorem PQ{Q:Option Value->Shared->Prop}(X:K.In s.heap)(I:InstAt s.heap x ox C od)(c:fQ K C B)(h:Q (some (.ref C)) {s with toks:=s.toks+1}):
  wpAny (model prog w) A (getAttr? (.ref x) "__class__") Q E s:=by
 obtain⟨a,g,d,t,b⟩:=s;have f:=YB;have i:=I.type (M:=model prog w);have j:=looks_findIn (M:=model prog w) X c.ga;have L2:=looks_findIn (M:=model prog w) X c.gt;have k:mroIn K C (.type "object")=some true:=(c.mro _).trans rfl;have l:findObj K C od "__class__"=some (.bind (.builtin "getset_descriptor.__get__") (.builtin "object.__class__")):=by
  obtain⟨cd,e,_⟩:=c.cd;unfold findObj;rw[e,Option.bind_some,c.cl,Option.bind_some];simp[c.cg,c.ct]
 unfold getAttr? getAttrBy? getAttrBy;calc j' (wpAny_mkText (j' (wpAny_attempt (aaF (j' (i.at (j' (j.at ?_))))))));show wpAny _ _ (getAttrByItsOwn _ _ _ _ _ _) _ _ _;unfold getAttrByItsOwn callGetattribute boundAndCalled;calc j' (L2.at (j' (wpAny_attempt (aaF ?_))));simp only[Bool.false_and,Bool.false_eq_true,if_false];rw[f.ga.bind];calc j' (P' (wpAny_call ?_));calc Am (s:=⟨a,g,d,t+1,b⟩) X I c l λe=>?_;calc wpAny_call (class_get (s:=⟨a,g,d,t+1,b⟩) (ox:=ox) (od:=od) X I k ?_);show wpAny _ _ (handedOut (.ref C)) _ _ _;exact P' (P' h)
open PySem.W in
theorem ye(c:fQ K C B):KitX K (.ref x) (.ref C) (λh=>∃ox od,InstAt h x ox C od) where
 ty:=λ_ _ _ I=>let ⟨_,_,I⟩:=I;I.type
 it:=λ_ _ X _=>by
  obtain⟨i,q,N,j,l,a,m,b,g,o,p,r,t,u,d⟩:=c.ob;intro n v y z k q;unfold isType loadHead;exact j' (wpAny_loadPart (k _ _ (X _ _ d)) (P' q))
 ne:=λh v g y n z X w=>by
  obtain⟨i,q,N,j,l,a,m,b,g,o,p,r,t,u,d⟩:=c.ob;calc Bool.eq_false_iff.mpr λq=>?_;have e:C=v:=Value.ref.inj (beq_iff_eq.mp q);subst e;have z:=(X _ _ d).symm.trans w;have a:=congrArg (Option.map Obj.cls) z;simp at a
 ca:=λX I k=>let ⟨_,_,I⟩:=I;PQ X I c k
end
end
section
def XOb(C:Addr)(d:Option Addr)(c:Bool)(a:Addr)(h:Heap):Prop:=∃b e,h.get? a=some (⟨.ref C,d,.fields b,e⟩:Obj)/\(c=true->b[1]?=some .none)
abbrev XO(a C:Addr)(d:Option Addr)(b:Bool):HO:=.ext (XOb C d b a)
def YW(c:List (Str×V))(a:Addr)(h:Heap):Prop:=∃b,h.Ns1 a b/\(∀f,jL (c.lookup f) (b f))/\PySem.Within b (c.map (·.1))
abbrev XD(a:Addr)(b:List (Str×V)):HO:=.ext (YW b a)
section
variable {P:Program}{w:World}{H:Hp}{h:Heap}{a C:Addr}{d:Option Addr}{fl:Bool}
theorem GD{b:Array Value}{c:Array (Option Value)}(e:h.get? a=some (⟨.ref C,d,.fields b,c⟩:Obj))(f:fl=true->b[1]?=some .none):cC P w H h a (XO a C d fl):=
 ⟨⟨b,c,e,f⟩,⟨_,e⟩,λ_ _ ⟨b,c,e,f⟩ k=>⟨b,c,k _ e,f⟩⟩
theorem PR(x:cC P w H h a (XO a C d fl)):XOb C d fl a h:=x.1
theorem UQ{b:List (Str×V)}(x:YW b a h):cC P w H h a (XD a b):=
 ⟨x,let ⟨_,⟨o,_,_,e,_⟩,_⟩:=x;⟨o,e⟩,λ_ _ ⟨m,n,r⟩ k=>⟨m,n.at k,r⟩⟩
theorem An{b:List (Str×V)}(x:cC P w H h a (XD a b)):YW b a h:=x.1
end
section
variable {prog:Program}{w:World}{A:Around}{E:Value->Shared->Prop}{s:Shared}{K:W.Frag}{x C B:Addr}{name:Str}{v:Value}
theorem GG(a:Value):refuseLoop a "__setattr__" (.ref C::.ref B::qN)=pure ⟨⟩:=by
 rw[refuseLoop_ref,refuseLoop_ref];exact PySem.F.store_ValueError.passes a
open PySem.W in
theorem aaJ{ox:Obj}{od:Option Obj}{d:Tok}{R:Result->Shared->Prop}(X:K.In s.heap)(I:InstAt s.heap x ox C od)(c:fQ K C B)(n:bG K C name)
  (h:∀b a,wpAny (model prog w) a (Builtin.ObjectAttr.storeInOwnDict (.ref x) (.ref C) (.str name d) name v b)
   (λa s'=>match a with | .done f=>R (.ok f) s' | .again a=>a.quiet=true/\codeAny (model prog w) A a R s') (λe s'=>R (.error e) s') s):
  codeAny (model prog w) A (.call (.builtin "object.__setattr__") ⟨[.ref x,.str name d,v],[]⟩) R s:=by
 have a:=PySem.F.store_object;obtain⟨cd,f,b,e⟩:=c.cd;have g:mroIn K C (.type "object")=some true:=(c.mro _).trans rfl;have e:Looks (model prog w) s.heap (isInstance (.ref x) (.type "object")) true:=I.type.andThen (looks_mroIn X g);refine codeAny_call_builtin a.slot.plain a.entry (@check_slot (model prog w) _ _ s "object.__setattr__" "object" "__setattr__" (.ref x) [.str name d,v] [] _ a.kind a.split e (a.args (.ref x) (.str name d) v) ?_);have c:Looks (model prog w) s.heap (mroOf (.ref C)) cd.mro:=(looks_clsIn X f).andThen .now;rw[osa_eq,refuse_eq];refine j' (j' (I.type.here (j' (c.here ?_))));rw[b,GG];refine P' (j' (I.type.here (j' ((looks_findIn X n).here (j' (P' ?_))))));exact h _ _
end
end
section
variable {fl:Bool}
section
variable {X:Cx}{pins:List (Addr×Obj)}{σ:St}{H:Hp}{s:Shared}{a C B dx:Addr}{fs:List (Str×V)}{f:Str}{v:V}{A:Around}{E:Value->Shared->Prop}
theorem rG(I:Inv X pins σ H s){d:Option Addr}(e:H a=some (XO a C d fl)):∃vs b,s.heap.get? a=some (⟨.ref C,d,.fields vs,b⟩:Obj)/\(fl=true->vs[1]?=some .none):=PR (I.aU a _ e)
theorem BQ(I:Inv X pins σ H s){d:Option Addr}(e:H a=some (XO a C d fl)):∃vs b,s.heap.get? a=some (⟨.ref C,d,.fields vs,b⟩:Obj):=by
 obtain⟨vs,b,h,_⟩:=rG I e;calc⟨vs,b,h⟩
theorem Ao{fl:Bool}{c:Value}{b:Bool}{d:Option Addr}{Q:Value->Shared->Prop}(I:Inv X pins σ H s)(e:H a=some (XO a C d fl))(f:∀dx,d=some dx->∃fs,H dx=some (XD dx fs))(g:fQ X.K C B)
  (k:W.kitOne X.K (.ref C) c=some b) (h:∀i,Q (.bool b) {s with toks:=i}):wpAny (model X.prog X.w) A (call (.builtin "isinstance") [.ref a,c]) Q E s:=by
 calc W.kia_one (ye g) I.gh ?_ k (λz=>nomatch z) h;obtain⟨b,c,q⟩:=BQ I e
 cases d with
 |none=>calc⟨_,none,q,rfl,rfl,aai⟩
 |some dx=>
  obtain⟨fs,z⟩:=f dx rfl;obtain⟨_,⟨o,_,_,b,_⟩,_⟩:=An (I.aU dx _ z);calc⟨_,some o,q,rfl,rfl,b⟩
theorem yf{b:Bool}{Q:Value->Shared->Prop}(I:Inv X pins σ H s)(e:H a=some (XO a C (some dx) fl))(d:H dx=some (XD dx fs))(c:fQ X.K C B)(n:bG X.K C f)(l:fs.lookup f=some v)
  (h:∀u s',Inv X pins σ H s'->RelV v u->Q u s'):wpAny (model X.prog X.w) A (getAttr (.ref a) f b) Q E s:=by
 obtain⟨b,g,q⟩:=BQ I e;obtain⟨g,i,r,_⟩:=An (I.aU dx _ d);obtain⟨b,e,j⟩:=uG i;obtain⟨u,k,d⟩:=jL.some_of (v:=v) (o:=g f) (by rw[<-l];calc r f);calc aaI (od:=some b) I.gh ⟨q,rfl,rfl,e⟩ c ?_ (uH d) (h u _ (I.tok _) d);obtain⟨cd,g,_,i⟩:=c.cd;calc W.findObj_own (attr:=none) (by unfold W.hasDictIn;rw[g];calc i) n rfl (by rw[j,k])
theorem wu{y:V}{u:Value}{Q:Unit->Shared->Prop}(I:Inv X pins σ H s)(e:H a=some (XO a C none fl))(c:fQ X.K C B)(n:bG X.K C f)(O:RelV y u)
  (h:∀dx s',H dx=none->Inv X pins σ (upd (upd H a (XO a C (some dx) fl)) dx (XD dx [(f,y)])) s'->Q ⟨⟩ s'):wpAny (model X.prog X.w) A (setAttr (.ref a) f u) Q E s:=by
 obtain⟨vs,j,q,P⟩:=rG I e;have J:W.InstAt s.heap a ⟨.ref C,none,.fields vs,j⟩ C none:=⟨q,rfl,rfl,aai⟩
 obtain⟨cd,k,_,m⟩:=c.cd;refine W.set_plain I.gh J c.sa (aaJ (s:={s with toks:=s.toks+1}) I.gh J c n λb l=>?_);obtain⟨i,g,d,t,v⟩:=s;have q:i.get? a=some (⟨.ref C,none,.fields vs,j⟩:Obj):=q;have R:H i.objs.size=none:=I.aU.fresh (K' _);have F:a≠i.objs.size:=X' (S' q);have o:=W.looks_clsIn (M:=model X.prog X.w) (h:=i) I.gh k;unfold Builtin.ObjectAttr.storeInOwnDict Builtin.ObjectAttr.ownDictForStores;refine j' (P' ?_);rw[if_neg (by intro z;cases z)];refine j' ?_;show wpAny _ _ (instanceDict a true) _ _ _;unfold instanceDict;refine j' (wpAny_loadPart' q ?_);refine j' (o.here ?_);simp only[m,Bool.not_true,Bool.false_eq_true,if_false];have l:(i.push {cls:=.type "dict",data:=.dict #[]}).get? a=some (⟨.ref C,none,.fields vs,j⟩:Obj):=J' _ q;rw[if_neg (by simp[typeHasDict])];refine j' (wpAny_alloc' ?_);refine j' (wpAny_update' l ?_);refine P' ?_;have k:((i.push {cls:=.type "dict",data:=.dict #[]}).update a λo=>{cls:=o.cls,dict:=some i.objs.size,data:=o.data,slots:=o.slots}).get? i.objs.size=some {cls:=.type "dict",data:=.dict #[]}:=
  (Heap.get?_update_ne _ _ _ _ F.symm).trans (Heap.get?_push_at rfl rfl)
 have c:((i.push {cls:=.type "dict",data:=.dict #[]}).update a λo=>{cls:=o.cls,dict:=some i.objs.size,data:=o.data,slots:=o.slots}).Ns i.objs.size (λ_=>none):=
  ⟨_,#[],_,k,rfl,λe m=>absurd m nofun,λ_=>rfl⟩
 have k:((i.push {cls:=.type "dict",data:=.dict #[]}).update a λo=>{cls:=o.cls,dict:=some i.objs.size,data:=o.data,slots:=o.slots}).get? a=some (⟨.ref C,some i.objs.size,.fields vs,j⟩:Obj):=
  aa2 _ l rfl
 show wpAny _ _ (Builtin.ObjectAttr.storeInDict i.objs.size (.str f _) f u) _ _ _;unfold Builtin.ObjectAttr.storeInDict Builtin.ObjectAttr.newKeyGuard;calc j' (P' (j' (wpAny_nsSet1 (Heap.Ns1.of_empty c) λn G L=>?_)));obtain⟨U,J,S,c,l,m⟩:=G.count (Within.cons f u Within.nil);calc j' (wpAny_lookBehind c (by rw[l];calc pastItsLine_dict (aae m (by rw[List.length_cons,List.length_nil,sizeLine_eq];lia))) ?_);calc P' ?_;show Q ⟨⟩ _;have T:n.get? a=some (⟨.ref C,some i.objs.size,.fields vs,j⟩:Obj):=(L.2 a F).trans k;have l:YW [(f,y)] i.objs.size n:=by
  refine⟨_,G,λc=>?_,λc k=>?_⟩
  ·show jL (List.lookup c [(f,y)]) (if c=f then some u else none);by_cases z:c=f
   ·rw[if_pos z,z];simp only[List.lookup,beq_self_eq_true];exact O
   ·rw[if_neg z];simp only[List.lookup,beq_eq_false_iff_ne.mpr z];exact aai
  ·by_cases z:c=f
   ·rw[z];simp
   ·exact absurd (if_neg z) k
 calc h i.objs.size _ R ?_;have p:(i.update a λo=>{cls:=o.cls,dict:=some i.objs.size,data:=o.data,slots:=o.slots}).get? a=some (⟨.ref C,some i.objs.size,.fields vs,j⟩:Obj):=aa2 _ q rfl;have c:Inv X pins σ (upd H a (XO a C (some i.objs.size) fl)) {heap:=i.update a λo=>{cls:=o.cls,dict:=some i.objs.size,data:=o.data,slots:=o.slots},gens:=g,drawn:=d,toks:=t,os:=v}:=
  I.write (x:=a) (e:=a) (by rw[e];calc aai) (.inl rfl) (λb N d z=>(Heap.get?_update_ne _ _ _ _ d).trans z) ⟨_,p⟩ (GD p P)
 calc c.laid (a:=i.objs.size) (λb N z=>?_) (by show(i.update a _).objs.size<=_;rw[Heap.size_update];calc K' _) (UQ l);by_cases r:b=a
 ·subst r;rw[p]at z;cases z;exact T
 ·have c:i.get? b=some N:=(Heap.get?_update_ne _ _ _ _ r).symm.trans z;calc(L.2 b (X' (S' c))).trans ((Heap.get?_update_ne _ _ _ _ r).trans (J' _ c))
end
end
section
structure qw(K:W.Frag)(mg:Str->Option Value)(x:Str)(C B:Addr):Prop where
 cl:fQ K C B
 init:W.findIn K (.ref C) "__init__"=some (some (.builtin "ValueError.__init__"))
 mg:mg x=some (.ref C)
end
end L2
set_option maxHeartbeats 4000000
namespace PySem
variable {a j:Addr}{Q:Value->Shared->Prop}
section
variable {prog:Program}{w:World}{A:Around}{E:Value->Shared->Prop}{s:Shared}
theorem qx{n:Nat}{c:Array Value}{v:Value}(b:s.heap.IsTupleIter j a n)(f:s.heap.IsTuple a c)(h:c[n]?=some v)
  (q:∀g,g.IsTupleIter j a (n+1)->Heap.SameBut j s.heap g->Q v {s with heap:=g}):wpAny (model prog w) A (Builtin.SmallTypes.nextOf (.ref j)) Q E s:=by
 obtain⟨g,e,c,d⟩:=id b;obtain⟨k,g,_,l,i⟩:=f;unfold Builtin.SmallTypes.nextOf;refine j' (aaN (name:=Str.ofString "__next__") b.typeIs F.slot_tuple_iterator_next (wpAny_call_entry F.slot_tuple_iterator_next b.typeIs F.entry_tuple_iterator_next ?_ (F.args_tuple_iterator_next_1 _)));refine j' (m:=field (.ref j) 0) (aaj e d (x:=.ref a) rfl ?_);show wpAny _ _ (if (Value.ref a==Value.none)=true then _ else _) _ _ _;rw[if_neg (by exact Bool.false_ne_true)];refine j' (m:=field (.ref j) 1) (aaj e d (x:=.int n 0) rfl ?_);refine j' (m:=seqItems? (.ref a)) (abb g i ?_);simp only[Int.toNat_natCast,h];refine j' (wpAny_setField e d nofun (P' ⟨v,rfl,P' (q _ ⟨_,aa2 _ e (Obj.isFreed_of_fields (Obj.data_mapFields d _)),(Obj.cls_mapFields ..).trans c,?_⟩ (Heap.SameBut.update ..))⟩));rw[Obj.data_mapFields d];simp[rawInt]
theorem rH{n:Nat}{c:Array Value}(f:A.handled=none)(b:s.heap.IsTupleIter j a n)(h:s.heap.IsTuple a c)(i:c[n]?=none)
  (q:∀g e,Heap.ExtBut j s.heap g->(∃o,g.get? e=some o/\o.cls=.type "StopIteration")->E (.ref e) {s with heap:=g}):wpAny (model prog w) A (Builtin.SmallTypes.nextOf (.ref j)) Q E s:=by
 obtain⟨g,e,c,d⟩:=id b;obtain⟨k,c,_,l,g⟩:=h;unfold Builtin.SmallTypes.nextOf;refine j' (aaN (name:=Str.ofString "__next__") b.typeIs F.slot_tuple_iterator_next (wpAny_call_entry F.slot_tuple_iterator_next b.typeIs F.entry_tuple_iterator_next ?_ (F.args_tuple_iterator_next_1 _)));refine j' (m:=field (.ref j) 0) (aaj e d (x:=.ref a) rfl ?_);show wpAny _ _ (if (Value.ref a==Value.none)=true then _ else _) _ _ _;rw[if_neg (by exact Bool.false_ne_true)];refine j' (m:=field (.ref j) 1) (aaj e d (x:=.int n 0) rfl ?_);refine j' (m:=seqItems? (.ref a)) (abb c g ?_);simp only[Int.toNat_natCast,i];refine j' (wpAny_rule (j' (wpAny_setField e d nofun (j' (m:=newExc (.type "StopIteration") []) ?_))));simp only[newExc,newTuple];refine j' (aaO (j' (m:=firstArgMember _ _) (wpAny_of_eq (a:=Value.none) (by first|rfl|(simp only[firstArgMember];rfl)) (aaO ?_ (by size_fits)))) (by size_fits));simp only[raiseNew];refine j' (wpAny_handled ?_)
 first|rw[show A.in1.handled=none from f]|rw[f]
 calc j' (P' (wpAny_throw (q _ _ (((Heap.SameBut.update ..).extBut.push _).push _) ⟨_,V' _ rfl,rfl⟩)))
end
theorem Draws.tup{prog:Program}{w:World}{A:Around}(f:A.handled=none)(j a:Addr)(l:a≠j)(c:Array Value):
  Draws prog w A j [j,a] c.size (λi v=>c[i]?=some v) (λi h=>h.IsTupleIter j a i/\h.IsTuple a c) where
 live:=λ_ _ b=>let ⟨o,d,_⟩:=b.1;⟨o,d⟩
 frame:=λ_ _ _ b k=>⟨b.1.at λo e=>k j nofun o e,b.2.at λo e=>k a nofun o e⟩
 item:=λi s Q E d b q=>qx b.1 b.2 (v:=c[i]) (by simp[d]) λg h e=>q _ g s.toks (by simp[d]) ⟨h,b.2.extBut e.extBut l⟩ e
 done:=λs Q E b q=>rH f b.1 b.2 nofun q
def Ap(b:Bool)(h:Heap)(a:Addr)(c:Array Value):Prop:=if b=true then h.IsList a c else h.IsTuple a c
def pd(b:Bool)(h:Heap)(j a:Addr)(n:Nat):Prop:=if b=true then h.IsListIter j a n else h.IsTupleIter j a n
theorem pd.at{b:Bool}{h h':Heap}{n:Nat}(x:pd b h j a n)(k:∀o,h.get? j=some o->h'.get? j=some o):pd b h' j a n:=by
 cases b
 ·exact Heap.IsTupleIter.at x k
 ·calc Heap.IsListIter.at x k
theorem pd.obj{b:Bool}{h:Heap}{n:Nat}(x:pd b h j a n):∃o,h.get? j=some o/\∀v,o.data≠.cell v:=by
 cases b<;>(obtain⟨o,e,c,d⟩:=x;calc⟨o,e,λv z=>by rw[d]at z;cases z⟩)
theorem Draws.sq{prog:Program}{w:World}{A:Around}(d:A.handled=none)(b:Bool)(j a:Addr)(e:a≠j)(c:Array Value):
  Draws prog w A j [j,a] c.size (λi v=>c[i]?=some v) (λi h=>pd b h j a i/\Ap b h a c):=by
 cases b
 ·exact Draws.tup d j a e c
 ·calc Draws.list d j a e c
end PySem
namespace PySem
variable {Q:Option Value->Shared->Prop}
structure ZA(z ti to i1 i2:Addr)(f1 f2:List Addr):Prop where
 a1:ti≠z
 a2:to≠z
 a3:i1≠z
 a4:i2≠z
 a5:ti≠to
 a6:ti≠i1
 a7:ti≠i2
 a8:to≠i1
 a9:to≠i2
 a10:i1≠i2
 b1:z∉f1
 b2:to∉f1
 b3:i2∉f1
 c1:z∉f2
 c2:to∉f2
 c3:i1∉f2
section
variable {prog:Program}{w:World}{A:Around}{E:Value->Shared->Prop}{s:Shared}{z ti to i1 i2:Addr}{f1 f2:List Addr}{n1 n2 k:Nat}{P1 P2:Nat->Value->Prop}{S1 S2:Nat->Heap->Prop}{a b:Value}
theorem Dz{Q:Value->Shared->Prop}(Z:ZA z ti to i1 i2 f1 f2)(u:Draws prog w A i1 f1 n1 P1 S1)(B:Draws prog w A i2 f2 n2 P2 S2)(d:IsZip s.heap z ti to .none)(i:IsPair s.heap ti (.ref i1) (.ref i2))(C:IsPair s.heap to a b)
  (l:S1 k s.heap) (F:S2 k s.heap) (n:k<n1) (G:k<n2)
  (q:∀x y g e,P1 k x->P2 k y->IsZip g z ti to (rawInt s.heap.objs.size)->IsPair g to x y->S1 (k + 1) g->S2 (k + 1) g->IsPair g s.heap.objs.size x y->g.objs.size=s.heap.objs.size + 1->
   (∀c o,c≠z->c≠to->c≠i1->c≠i2->s.heap.get? c=some o->g.get? c=some o)->Q (.ref s.heap.objs.size) {s with heap:=g,toks:=e}):
  wpAny (model prog w) A (Builtin.«zip.__next__» ⟨[.ref z],[]⟩) (λe s'=>∃v,e=.done (.ret v)/\Q v s') E s:=by
 calc j' (m:=field (.ref z) 2) (aaj d rfl (x:=.bool false) rfl (j' (m:=field (.ref z) 3) (aaj d rfl (x:=.ref ti) rfl ?_)));calc j' (abb i rfl (j' (m:=Builtin.SmallTypes.ownedTupleIsFree (.ref z)) ?_));unfold Builtin.SmallTypes.ownedTupleIsFree;calc j' (aaj d rfl (x:=.none) rfl (P' ?_));simp only[if_true];refine j' (wpAny_rule (j' (aaj d rfl (x:=.ref to) rfl (j' (wpAny_setField_rec d nofun λj p r=>?_)))))
 replace p:IsZip j z ti to .ellipsis:=p
 calc j' ?_;simp only[List.zipIdx_cons,List.zipIdx_nil,List.forIn_cons,List.forIn_nil];calc j' (j' (wpAny_onRaise (j' (m:=Builtin.SmallTypes.nextOf (.ref i1)) ?_)));refine u.item k _ _ _ n (u.frame _ _ _ l λc g o e=>r.extBut c o (λh=>Z.b1 (h▸g)) e) λx d l L I i=>P' ?_
 replace i:Heap.SameBut i1 j d:=i
 have l:IsPair d to a b:=i.extBut _ _ Z.a8 (r.extBut _ _ Z.a2 C);refine j' (abb l rfl (j' (wpAny_updateSeq_pair l λn t j=>j' (wpAny_letGo (P' ?_)))))
 replace t:IsPair n to x b:=t
 replace j:Heap.SameBut to d n:=j
 calc j' (j' (wpAny_onRaise (j' (m:=Builtin.SmallTypes.nextOf (.ref i2)) ?_)));refine B.item k _ _ _ G (B.frame _ _ _ F λc g o e=>j.extBut c o (λh=>Z.c2 (h▸g)) (i.extBut c o (λh=>Z.c3 (h▸g)) (r.extBut c o (λh=>Z.c1 (h▸g)) e))) λy C d M K l=>P' ?_
 replace l:Heap.SameBut i2 n C:=l
 have F:IsPair C to x b:=l.extBut _ _ Z.a9 t;refine j' (abb F rfl (j' (wpAny_updateSeq_pair F λd v n=>j' (wpAny_letGo (P' (P' ?_))))))
 replace v:IsPair d to x y:=v
 replace n:Heap.SameBut to C d:=n
 calc j' (abb v rfl (j' (wpAny_newTuple ?_)));have t:d.objs.size=s.heap.objs.size:=by rw[n.1,l.1,j.1,i.1,r.1]
 have J:IsZip d z ti to .ellipsis:=n.extBut _ _ Z.a2.symm (l.extBut _ _ Z.a4.symm (j.extBut _ _ Z.a2.symm (i.extBut _ _ Z.a3.symm p)));have N:∀c o,c≠z->c≠to->c≠i1->c≠i2->s.heap.get? c=some o->d.get? c=some o:=λc o p C F G e=>n.extBut _ _ C (l.extBut _ _ G (j.extBut _ _ C (i.extBut _ _ F (r.extBut _ _ p e))));have O:S1 (k+1) d:=u.frame _ _ _ I λc g o e=>n.extBut c o (λh=>Z.b2 (h▸g)) (l.extBut c o (λh=>Z.b3 (h▸g)) (j.extBut c o (λh=>Z.b2 (h▸g)) e));have P:S2 (k+1) d:=B.frame _ _ _ K λc g o e=>n.extBut c o (λh=>Z.c2 (h▸g)) e;have j:z<d.objs.size:=S' J;refine j' (m:=Builtin.SmallTypes.ownedTupleHandOut (.ref z) (.ref d.objs.size)) ?_;unfold Builtin.SmallTypes.ownedTupleHandOut;have l:IsZip (d.push {cls:=.type "tuple",data:=.seq #[x,y]}) z ti to .ellipsis:=J' _ J;refine j' (wpAny_setField_rec l nofun λn i I=>?_)
 replace i:IsZip n z ti to (rawInt d.objs.size):=i
 refine wpAny_setField_rec i nofun λl n J=>?_
 replace n:IsZip l z ti to (rawInt d.objs.size):=n
 have r:∀c o,c≠z->d.get? c=some o->l.get? c=some o:=λc o p e=>J.extBut _ _ p (I.extBut _ _ p (J' _ e));have K:IsPair l d.objs.size x y:=J.extBut _ _ (Nat.ne_of_gt j) (I.extBut _ _ (Nat.ne_of_gt j) (V' _ rfl));have i:l.objs.size=d.objs.size+1:=by rw[J.1,I.1,Heap.size_push]
 rw[t]at n K i;calc P' ⟨_,rfl,?_⟩;show Q (.ref d.objs.size) _;rw[t];calc q x y l _ L M n (r _ _ Z.a2 v) (u.frame _ _ _ O λc g o e=>r c o (λh=>Z.b1 (h▸g)) e) (B.frame _ _ _ P λc g o e=>r c o (λh=>Z.c1 (h▸g)) e) K i λc o p C F G e=>r c o p (N c o p C F G e)
theorem GJ{Q:Fin->Shared->Prop}(Z:ZA z ti to i1 i2 f1 f2)(K:Draws prog w A i1 f1 n1 P1 S1)(R:Draws prog w A i2 f2 n2 P2 S2)(r:IsZip s.heap z ti to .none)(T:IsPair s.heap ti (.ref i1) (.ref i2))(U:IsPair s.heap to a b)
  (W:S1 k s.heap) (X:S2 k s.heap) (l:k=n1\/(k<n1/\k=n2))
  (q:∀g e Y,(∀c o,c≠z->c≠to->c≠i1->c≠i2->s.heap.get? c=some o->g.get? c=some o)->(∃o,g.get? e=some o/\o.cls=.type "StopIteration")->E (.ref e) {s with heap:=g,toks:=Y}):
  wpAny (model prog w) A (Builtin.«zip.__next__» ⟨[.ref z],[]⟩) Q E s:=by
 calc j' (m:=field (.ref z) 2) (aaj r rfl (x:=.bool false) rfl (j' (m:=field (.ref z) 3) (aaj r rfl (x:=.ref ti) rfl ?_)));calc j' (abb T rfl (j' (m:=Builtin.SmallTypes.ownedTupleIsFree (.ref z)) ?_));unfold Builtin.SmallTypes.ownedTupleIsFree;calc j' (aaj r rfl (x:=.none) rfl (P' ?_));simp only[if_true];refine j' (wpAny_rule (j' (aaj r rfl (x:=.ref to) rfl (j' (wpAny_setField_rec r nofun λL G t=>?_)))))
 replace G:IsZip L z ti to .ellipsis:=G
 calc j' ?_;simp only[List.zipIdx_cons,List.zipIdx_nil,List.forIn_cons,List.forIn_nil];calc j' (j' (wpAny_onRaise (j' (m:=Builtin.SmallTypes.nextOf (.ref i1)) ?_)));have u:=K.frame _ _ _ W λc v o e=>t.extBut c o (λh=>Z.b1 (h▸v)) e;rcases l with l|⟨l1,l2⟩
 ·subst l;calc K.done _ _ _ u λp x d M=>?_;obtain⟨N,j,B⟩:=M
  replace d:Heap.ExtBut i1 L p:=d
  have S:IsZip p z ti to .ellipsis:=d _ _ Z.a3.symm G;have n:x≠z:=λy=>by subst y;rw[S]at j;cases j;simp at B
  exact wpAny_setField_rec S nofun λI _ i=>q I x s.toks (λc o C _ O _ y=>i.extBut _ _ C (d _ _ O (t.extBut _ _ C y))) ⟨N,i.extBut _ _ n j,B⟩
 ·subst l2;refine K.item k _ _ _ l1 u λx p P g l d=>P' ?_
  replace d:Heap.SameBut i1 L p:=d
  have g:IsPair p to a b:=d.extBut _ _ Z.a8 (t.extBut _ _ Z.a2 U);refine j' (abb g rfl (j' (wpAny_updateSeq_pair g λI l i=>j' (wpAny_letGo (P' ?_)))))
  replace i:Heap.SameBut to p I:=i
  calc j' (j' (wpAny_onRaise (j' (m:=Builtin.SmallTypes.nextOf (.ref i2)) ?_)));calc R.done _ _ _ (R.frame _ _ _ X λc v o e=>i.extBut c o (λh=>Z.c2 (h▸v)) (d.extBut c o (λh=>Z.c3 (h▸v)) (t.extBut c o (λh=>Z.c1 (h▸v)) e))) λg x J M=>?_;obtain⟨N,j,B⟩:=M
  replace J:Heap.ExtBut i2 I g:=J
  have F:IsZip g z ti to .ellipsis:=J _ _ Z.a4.symm (i.extBut _ _ Z.a2.symm (d.extBut _ _ Z.a3.symm G));have n:x≠z:=λy=>by subst y;rw[F]at j;cases j;simp at B
  calc wpAny_setField_rec F nofun λg _ e=>q g x P (λc o C l O p y=>e.extBut _ _ C (J _ _ p (i.extBut _ _ l (d.extBut _ _ O (t.extBut _ _ C y))))) ⟨N,e.extBut _ _ n j,B⟩
end
section
variable {prog:Program}{w:World}{A:Around}{E:Value->Shared->Prop}{s:Shared}{z ti to i1 i2:Addr}{f1 f2:List Addr}{n1 n2 k:Nat}{P1 P2:Nat->Value->Prop}{S1 S2:Nat->Heap->Prop}{a b:Value}
theorem tX(Z:ZA z ti to i1 i2 f1 f2)(f:Draws prog w A.in1 i1 f1 n1 P1 S1)(h:Draws prog w A.in1 i2 f2 n2 P2 S2)(e:IsZip s.heap z ti to .none)(i:IsPair s.heap ti (.ref i1) (.ref i2))(j:IsPair s.heap to a b)
  (l:S1 k s.heap) (m:S2 k s.heap) (n:k<n1) (p:k<n2)
  (q:∀x y g d,P1 k x->P2 k y->IsZip g z ti to (rawInt s.heap.objs.size)->IsPair g to x y->S1 (k + 1) g->S2 (k + 1) g->IsPair g s.heap.objs.size x y->g.objs.size=s.heap.objs.size + 1->
   (∀c o,c≠z->c≠to->c≠i1->c≠i2->s.heap.get? c=some o->g.get? c=some o)->Q (some (.ref s.heap.objs.size)) {s with heap:=g,toks:=d}):
  wpAny (model prog w) A (pyNext (.ref z)) Q E s:=by
 have c:s.TypeIs (.ref z) "zip":=⟨_,e,rfl⟩
 unfold pyNext;exact j' (wpAny_attempt (aaN (name:=Str.ofString "__next__") c F.slot_zip_next (wpAny_call_entry F.slot_zip_next c F.entry_zip_next
  (Dz Z f h e i j l m n p λx y g d c o r t u v B C D=>P' (q x y g d c o r t u v B C D)) (F.args_zip_next_1 _))))
theorem wx(Z:ZA z ti to i1 i2 f1 f2)(h:Draws prog w A.in1 i1 f1 n1 P1 S1)(i:Draws prog w A.in1 i2 f2 n2 P2 S2)(d:IsZip s.heap z ti to .none)(j:IsPair s.heap ti (.ref i1) (.ref i2))(m:IsPair s.heap to a b)
  (n:S1 k s.heap) (p:S2 k s.heap) (l:k=n1\/(k<n1/\k=n2))
  (q:∀g f,(∀c o,c≠z->c≠to->c≠i1->c≠i2->s.heap.get? c=some o->g.get? c=some o)->Q none {s with heap:=g,toks:=f}):wpAny (model prog w) A (pyNext (.ref z)) Q E s:=by
 have c:s.TypeIs (.ref z) "zip":=⟨_,d,rfl⟩
 unfold pyNext;refine j' (wpAny_attempt (aaN (name:=Str.ofString "__next__") c F.slot_zip_next (wpAny_call_entry F.slot_zip_next c F.entry_zip_next
  (GJ Z h i d j m n p l λg e f c ⟨o,r,t⟩=>?_) (F.args_zip_next_1 _))))
 calc j' (wpAny_isInstance (T:="StopIteration") (b:=true) ⟨o,r,t⟩ isSubtype_stop (P' (q _ _ c)))
end
def JT(b:Bool)(a:Addr):Obj:=if b=true then {cls:=.type "list_iterator",data:=.fields #[.ref a,.int 0 0]} else {cls:=.type "tuple_iterator",data:=.fields #[.ref a,.int 0 0]}
abbrev YZ(h:Heap)(b:Bool)(l:Addr):Heap:=h.push (JT b l)
abbrev Y0(h:Heap)(b c:Bool)(l m:Addr):Heap:=(YZ h b l).push (JT c m)
abbrev Y1(h:Heap)(b c:Bool)(l m:Addr):Heap:=(Y0 h b c l m).push {cls:=.type "tuple",data:=.seq #[.ref h.objs.size,.ref (YZ h b l).objs.size]}
abbrev Y2(h:Heap)(b c:Bool)(l m:Addr):Heap:=(Y1 h b c l m).push {cls:=.type "tuple",data:=.seq #[.none,.none]}
abbrev PY(h:Heap)(b c:Bool)(l m:Addr):Heap:=(Y2 h b c l m).push {cls:=.type "zip",data:=.fields #[.none,.bool false,.bool false,.ref (Y0 h b c l m).objs.size,.ref (Y1 h b c l m).objs.size]}
theorem DA(b c:Bool)(l m:Addr)(xs ys:Array Value):
  Meets (Builtin.«zip.__new__» ⟨[.type "zip",.ref l,.ref m],[]⟩) (λ_ R s=>Ap b s.heap l xs/\Ap c s.heap m ys/\R (.ok (.ret (.ref (Y2 s.heap b c l m).objs.size))) {s with heap:=PY s.heap b c l m}):=
 .of_wp λk w A R s h=>by
  obtain⟨a,g,d,e,f⟩:=s;obtain⟨i,j,h⟩:=h;have k:=sub_zip
  cases b<;>cases c
  ·have b:Heap.IsTuple (Shared.heap ⟨a,g,d,e,f⟩) l xs:=i;have L2:Heap.IsTuple (Shared.heap ⟨a.push {cls:=.type "tuple_iterator",data:=.fields #[.ref l,.int 0 0]},g,d,e,f⟩) m ys:=Heap.IsTuple.push j _;wp_walk using aaH b,aaH L2;exact⟨_,rfl,h⟩
  ·have b:Heap.IsTuple (Shared.heap ⟨a,g,d,e,f⟩) l xs:=i;have L2:Heap.IsList (Shared.heap ⟨a.push {cls:=.type "tuple_iterator",data:=.fields #[.ref l,.int 0 0]},g,d,e,f⟩) m ys:=Heap.IsList.push j _;wp_walk using aaH b,wpAny_pyIter_list L2;exact⟨_,rfl,h⟩
  ·have b:Heap.IsList (Shared.heap ⟨a,g,d,e,f⟩) l xs:=i;have L2:Heap.IsTuple (Shared.heap ⟨a.push {cls:=.type "list_iterator",data:=.fields #[.ref l,.int 0 0]},g,d,e,f⟩) m ys:=Heap.IsTuple.push j _;wp_walk using wpAny_pyIter_list b,aaH L2;exact⟨_,rfl,h⟩
  ·have b:Heap.IsList (Shared.heap ⟨a,g,d,e,f⟩) l xs:=i;have L2:Heap.IsList (Shared.heap ⟨a.push {cls:=.type "list_iterator",data:=.fields #[.ref l,.int 0 0]},g,d,e,f⟩) m ys:=Heap.IsList.push j _;wp_walk using wpAny_pyIter_list b,wpAny_pyIter_list L2;exact⟨_,rfl,h⟩
theorem rJ(b:Bool)(a:Addr):(JT b a).isFreed=false:=by cases b<;>rfl
theorem Aq{b:Bool}{h:Heap}{j a:Addr}(e:h.get? j=some (JT b a)):pd b h j a 0:=by
 cases b
 ·exact⟨_,e,rfl,rfl⟩
 ·calc⟨_,e,rfl,rfl⟩
theorem GK{prog:Program}{w:World}{A:Around}{E:Value->Shared->Prop}{s:Shared}{b c:Bool}{l m:Addr}{xs ys:Array Value}{Q:Value->Shared->Prop}(f:Ap b s.heap l xs)(h:Ap c s.heap m ys)
  (q:∀g,IsZip g (s.heap.objs.size + 4) (s.heap.objs.size + 2) (s.heap.objs.size + 3) .none->IsPair g (s.heap.objs.size + 2) (.ref s.heap.objs.size) (.ref (s.heap.objs.size + 1))->
   IsPair g (s.heap.objs.size+3) .none .none->pd b g s.heap.objs.size l 0->pd c g (s.heap.objs.size+1) m 0->g.objs.size=s.heap.objs.size+5->
   (∀d o,s.heap.get? d=some o->g.get? d=some o)->Q (.ref (s.heap.objs.size + 4)) {s with heap:=g}):
  wpAny (model prog w) A (call (.type "zip") [.ref l,.ref m]) Q E s:=by
 calc callType_new F.called_zip ∅ (F.typeCall_zip_2 _ _) (F.newCall_zip_2 _ _) (λa=>F.args_object_init_3 a _ _) F.entry_zip_new (DA b c l m xs ys) ⟨f,h,?_⟩;have e:(YZ s.heap b l).objs.size=s.heap.objs.size+1:=Heap.size_push ..;have a:(Y0 s.heap b c l m).objs.size=s.heap.objs.size+2:=by rw[Heap.size_push,e]
 have f:(Y1 s.heap b c l m).objs.size=s.heap.objs.size+3:=by rw[Heap.size_push,a]
 have g:(Y2 s.heap b c l m).objs.size=s.heap.objs.size+4:=by rw[Heap.size_push,f]
 have n:(PY s.heap b c l m).objs.size=s.heap.objs.size+5:=by rw[Heap.size_push,g]
 have h:(PY s.heap b c l m).get? (Y2 s.heap b c l m).objs.size=some _:=V' _ rfl;have i:(PY s.heap b c l m).get? (Y1 s.heap b c l m).objs.size=some _:=J' _ (V' _ rfl);have j:(PY s.heap b c l m).get? (Y0 s.heap b c l m).objs.size=some _:=J' _ (J' _ (V' _ rfl));have k:(PY s.heap b c l m).get? (YZ s.heap b l).objs.size=some (JT c m):=J' _ (J' _ (J' _ (V' _ (rJ ..))));have p:(PY s.heap b c l m).get? s.heap.objs.size=some (JT b l):=J' _ (J' _ (J' _ (J' _ (V' _ (rJ ..)))));show _/\_;rw[a,f,g]at h;rw[e,a]at j;rw[f]at i;rw[e]at k;rw[g];calc⟨⟨_,h,rfl⟩,q _ h j i (Aq p) (Aq k) n λd o x=>J' _ (J' _ (J' _ (J' _ (J' _ x))))⟩
theorem rK(l:Addr)(e:Array Value):
  Meets (Builtin.«enumerate.__new__» ⟨[.type "enumerate",.ref l],[]⟩) (λ_ R s=>s.heap.IsTuple l e/\
   R (.ok (.ret (.ref (s.heap.push (JT false l)).objs.size))) {s with heap:=(s.heap.push (JT false l)).push {cls:=.type "enumerate",data:=.fields #[.none,.bool false,.ref s.heap.objs.size,rawInt 0,.none,.none]}}):=
 .of_wp λf w A R s h=>by
  obtain⟨i,g,d,k,m⟩:=s;obtain⟨j,h⟩:=h;have p:=sub_enumerate;have b:Heap.IsTuple (Shared.heap ⟨i,g,d,k,m⟩) l e:=j;obtain⟨n,a,q,r,o⟩:=id j
  replace a:i.get? l=some n:=a
  wp_walk using AutoSeq1.wpAny_loadPart' a;calc wpAny_stack_any λt=>P' ?_;split
  ·rename_i c _ _ _ _ _
   cases(c==Value.type "enumerate")
   ·wp_walk using AutoSeq1.wpAny_loadPart' a,aaH b;exact⟨_,rfl,h⟩
   ·wp_walk using AutoSeq1.wpAny_loadPart' a,aaH b;exact⟨_,rfl,h⟩
  ·wp_walk using AutoSeq1.wpAny_loadPart' a,aaH b;calc⟨_,rfl,h⟩
end PySem
namespace L2
open PySem PySem.Spec PyProof.Rows
section
variable {a:Addr}{xs:List V}
section
variable {X:Cx}{pins:List (Addr×Obj)}{σ:St}{H:Hp}{s:Shared}
theorem Inv.BS{t':Nat}{ch:List Addr}{h':Heap}(I:Inv X pins σ H s)(d:∀b∈ch,oW X pins H b)(k:∀b o,b∉ch->s.heap.get? b=some o->h'.get? b=some o):Inv X pins σ H {s with heap:=h',toks:=t'}:=by
 have f:∀b u,H b=some u->b∉ch:=λb u e z=>by rw[(d b z).1]at e;cases e
 refine I.step (g':=s.gens) (d':=s.drawn) (ch:=ch) (λb g=>?_) (λb o _ _ a e _=>k b o a e) (λb o _ _ a e _=>⟨o.slots,k b o a e⟩) (λ_ _ _ _ n=>n) (λb o a e=>⟨o,k b o a e⟩) (λ_ _ e=>e) (λ_ _ _ e=>e) (λb h e=>⟨#[],by rw[e];simp⟩) (λm h=>?_) (λb u e=>?_) I.bare
 ·obtain⟨n,i,p,j,l,m⟩:=d b g;exact⟨j,i,l,m⟩
 ·obtain⟨o,g,i,j,r⟩:=h;exact⟨o,g,i,k _ o (λz=>(d _ z).2.1 rfl) j,r⟩
 ·calc(I.aU b u e).aG (λc v a q=>k c v ?_ q) (λ_ q=>q) λ_ _ q=>q;rcases a with z | z
  ·rw[z];exact f b u e
  ·calc f c _ z
theorem Inv.BU{t':Nat}{ch:List Addr}{h':Heap}{T:Addr}{g:List Value}(I:Inv X pins σ H s)(h:∀b∈ch,oW X pins H b)(k:∀b o,b∉ch->s.heap.get? b=some o->h'.get? b=some o)
  (i:s.heap.objs.size<=T) (l:Vals xs g) (p:xs.length<=sizeLine) (q:IsTup h' T g.toArray):Inv X pins σ (upd H T (.tup xs)) {s with heap:=h',toks:=t'}:=by
 have j:∀b u,H b=some u->b∉ch:=λb u e z=>by rw[(h b z).1]at e;cases e
 have d:H T=none:=I.aU.fresh i;have m:∀b o,s.heap.get? b=some o->b≠T:=λb o e=>X' (R' (S' e) i);refine I.step (g':=s.gens) (d':=s.drawn) (ch:=ch) (λb f=>?_) (λb o _ _ a e _=>k b o a e) (λb o _ _ a e _=>⟨o.slots,k b o a e⟩) (λb o _ e n=>by rw[ay (m b o e)];calc n) (λb o a e=>⟨o,k b o a e⟩)
  (λb t e=>by rw[ay (av e d)];calc e) (λb o u e=>by rw[ay (av e d)];calc e) (λb i e=>⟨#[],by rw[ay (av e d),e];simp⟩) (λm i=>?_) (λb u e=>?_) I.bare
 ·obtain⟨w,m,x,n,r,v⟩:=h b f;exact⟨n,m,r,v⟩
 ·obtain⟨o,m,n,v,r⟩:=i;exact⟨o,m,n,k _ o (λz=>(h _ z).2.1 rfl) v,r⟩
 ·by_cases f:b=T
  ·subst f;rw[af] at e
   cases e;exact⟨p,g,l,q⟩
  ·rw[ay f] at e;refine(I.aU b u e).aG (λc v a q=>k c v ?_ q) (λc q=>by rw[ay (av q d)];calc q) λc t q=>by rw[ay (av q d)];exact q
   rcases a with z|z
   ·rw[z];exact j b u e
   ·calc j c _ z
def Sq(b:Bool)(K:W.Frag)(H:Hp)(a:Addr)(xs:List V):Prop:=if b=true then aS K H a xs else bH K H a xs
theorem Sq.l{K:W.Frag}(h:H a=some (.lst xs)):Sq true K H a xs:=aS.of h
theorem Sq.t{K:W.Frag}(h:H a=some (.tup xs)):Sq false K H a xs:=bH.of h
theorem Inv.sq(I:Inv X pins σ H s){b:Bool}{a:Addr}{xs:List V}(h:Sq b X.K H a xs):∃c:List Value,Vals xs c/\Ap b s.heap a c.toArray/\xs.length<=sizeLine:=by
 cases b
 ·exact I.tuple h
 ·obtain⟨c,r,p,z⟩:=I.list h;calc⟨c,r,p.isList,z⟩
theorem Inv.Ar(I:Inv X pins σ H s){b:Bool}{a:Addr}{xs ys:List V}(h:Sq b X.K H a xs)(h':Sq b X.K H a ys):xs=ys:=by
 cases b
 ·exact I.uE h h'
 ·calc I.xK h h'
theorem M3{u:HO}{b:Addr}(h:Rd H a u)(c:H b=none):a≠b:=λz=>by
 subst z;rcases h with h|⟨o,h⟩<;>(rw[c]at h;cases h)
theorem Inv.rL(I:Inv X pins σ H s){b:Bool}{a c:Addr}{xs:List V}(h:Sq b X.K H a xs)(f:oW X pins H c):a≠c:=by
 have d:∀o,X.K.lookup a=some o->a≠c:=λo e z=>by
  subst z;have i:=I.ok.mod.xt a o e;rcases f.2.2.2.1 with y|y
  ·exact I.ok.vM a o i y
  ·exact absurd (R' (R' (S' i) I.ok.Bq) y) (aaM _)
 cases b
 ·rcases h with h | ⟨o,j,n,g,_⟩
  ·exact M3 h f.1
  ·exact d o g
 ·rcases h with h | ⟨o,j,n,g,_⟩
  ·exact M3 h f.1
  ·calc d o g
end
end
section
def M4(b:Bool)(K:W.Frag)(a:Addr):It:=
 ⟨λi H=>∃xs x,Sq b K H a xs/\xs[i]?=some x,λi H y c=>∃T,H T=none/\y=.ref T/\∀xs,Sq b K H a xs->∃x,xs[i]?=some x/\c=upd H T (.tup [.int i,x]),λi H=>∃xs,Sq b K H a xs/\xs.length=i⟩
def Y3(b c:Bool)(K:W.Frag)(a d:Addr):It:=
  ⟨λi H=>∃xs ys x y,Sq b K H a xs/\Sq c K H d ys/\xs[i]?=some x/\ys[i]?=some y,λi H v e=>∃T,H T=none/\v=.ref T/\∀xs ys,Sq b K H a xs->Sq c K H d ys->∃x y,xs[i]?=some x/\ys[i]?=some y/\e=upd H T (.tup [x,y]),
   λi H=>∃xs ys,Sq b K H a xs/\Sq c K H d ys/\(i=xs.length\/(i < xs.length/\i=ys.length))⟩
theorem yg{a b:V}:([a,b]:List V).length<=sizeLine:=by show 2<=sizeLine;decide
theorem wz{a:List Value}{i:Nat}{u:Value}(h:a[i]?=some u):i<a.toArray.size:=by
 have:=(List.getElem?_eq_some_iff.mp h).1;simpa using this
theorem DB{P:Program}{w:World}{K:W.Frag}{k:List Expr}{u:Nat}{v:Pos}(b:Bool)(e j a:Addr)(n:e≠j):
  Turn P w K (.Tuple k u v) (M4 b K a) [e,j] e (λi h=>(∃d,IsEnum h e j i d)/\pd b h j a i) where
 mem:=by simp
 obj:=λi h l c C=>by
  obtain⟨⟨d,g⟩,m⟩:=l;simp only[List.mem_cons,List.not_mem_nil,or_false]at C;rcases C with rfl|rfl
  ·exact⟨_,g,λv z=>by
    have z':Data.fields _=Data.cell v:=z
    cases z'⟩
  ·exact m.obj
 keep:=λi h h' l k=>by
  obtain⟨⟨d,g⟩,m⟩:=l;exact⟨⟨d,k e nofun _ g⟩,m.at λo q=>k j nofun o q⟩
 item:=by
  intro X L M N C i F s σ H E I r l O;subst L M N;obtain⟨⟨d,g⟩,m⟩:=l;obtain⟨xs,x,t,R⟩:=O;obtain⟨G,S,p,hz⟩:=I.sq t;obtain⟨u,k,ru⟩:=S.get R;have v:a≠e:=I.rL t (r e nofun);have B:a≠j:=I.rL t (r j nofun);have D:=Draws.sq (prog:=X.prog) (w:=X.w) (A:=X.A.in1) (show X.A.in1.handled=none from I.ok.hd C) b j a B G.toArray;calc wpAny_pyNext_enum_itemD D g ⟨m,p⟩ (wz k) n (by simp[n,Ne.symm v]) λy P Y K ho s1 hT sz T=>?_;have ey:y=u:=by
   have:G.toArray[i]?=some u:=by simpa using k
   exact Option.some.inj (K.symm.trans this)
  subst ey;calc⟨_,rfl,wpAny_letOwnedTupleGo_enum ho λv k u=>?_⟩;have K:∀c o,c ∉ [e,j]->s.heap.get? c=some o->v.get? c=some o:=λc o J q=>(u.2 c λz=>J (by simp[z])).trans (T c o (λz=>J (by simp[z])) (λz=>J (by simp[z])) q);have Z:s.heap.objs.size≠e:=Nat.ne_of_gt (S' g);have e:IsTup v s.heap.objs.size ([.int i Y,y]:List Value).toArray:=⟨_,(u.2 _ Z).trans hT,rfl,_,rfl⟩
  have v:H s.heap.objs.size=none:=I.aU.fresh (K' _);refine⟨.ref s.heap.objs.size,upd H s.heap.objs.size (.tup [.int i,x]),I.BU r K (K' _) (.cons ⟨Y,rfl⟩ (.cons ru .nil)) yg e,rfl,⟨_,v,rfl,λys P=>⟨x,by rw[I.Ar P t];calc R,rfl⟩⟩,⟨⟨y,?_⟩,?_⟩,λc U=>?_⟩
  ·simpa using k
  ·exact s1.1.at λo q=>(u.2 j (Ne.symm n)).trans q
  ·have tW:c≠s.heap.objs.size:=by
    simp only[List.mem_cons,List.not_mem_nil,or_false]at U;rcases U with rfl|rfl
    ·exact Ne.symm Z
    ·obtain⟨o,e,_⟩:=m.obj;exact X' (S' e)
   rw[ay tW];exact(r c U).1
 done:=by
  intro X L M N C i F s σ H E I r l O;subst L M N;obtain⟨⟨d,g⟩,m⟩:=l;obtain⟨xs,t,R⟩:=O;obtain⟨G,S,p,hz⟩:=I.sq t;have B:a≠j:=I.rL t (r j nofun);have D:=Draws.sq (prog:=X.prog) (w:=X.w) (A:=X.A.in1) (show X.A.in1.handled=none from I.ok.hd C) b j a B G.toArray;have e:G.toArray.size=i:=by have:=S.length;simp;lia
  refine wpAny_pyNext_enum_endD D g (by rw[e];calc⟨m,p⟩) λh' T=>⟨rfl,I.BS (t':=s.toks) r λc o J q=>T c o (λz=>J (by simp[z])) q⟩
 self:=λ_ _ _ _ _ l h=>by
  obtain⟨⟨d,g⟩,m⟩:=l;calc wpAny_pyIter_enum g h
theorem DC{prog:Program}{w:World}{A:Around}{E:Value->Shared->Prop}{s:Shared}{b:Bool}{l:Addr}{d:Array Value}{Q:Value->Shared->Prop}(e:Ap b s.heap l d)
  (q:∀g,IsEnum g (s.heap.objs.size+1) s.heap.objs.size 0 .none->pd b g s.heap.objs.size l 0->g.objs.size=s.heap.objs.size+2->(∀c o,s.heap.get? c=some o->g.get? c=some o)->Q (.ref (s.heap.objs.size+1)) {s with heap:=g}):
  wpAny (model prog w) A (call (.type "enumerate") [.ref l]) Q E s:=by
 cases b
 ·refine callType_new F.called_enumerate ∅ (F.typeCall_enumerate_1 _) (F.newCall_enumerate_1 _) (λa=>F.args_object_init_2 a _) F.entry_enumerate_new (rK l d) ⟨e,?_⟩;have b:(s.heap.push (JT false l)).objs.size=s.heap.objs.size+1:=Heap.size_push ..;show _/\_;rw[b];have a:=V' (s.heap.push (JT false l)) (o:={cls:=.type "enumerate",data:=.fields #[.none,.bool false,.ref s.heap.objs.size,rawInt 0,.none,.none]}) rfl;rw[b]at a;refine⟨⟨_,a,rfl⟩,q _ a (Aq (J' _ (V' _ (rJ ..)))) (by rw[Heap.size_push,b]) λc o x=>J' _ (J' _ x)⟩
 ·calc call_enumerate_list e q
theorem m5{z a b c d:Addr}:z ∈ [z,a,b,c,d]/\a ∈ [z,a,b,c,d]/\b ∈ [z,a,b,c,d]/\c ∈ [z,a,b,c,d]/\d ∈ [z,a,b,c,d]:=⟨.head _,.tail _ (.head _),.tail _ (.tail _ (.head _)),.tail _ (.tail _ (.tail _ (.head _))),.tail _ (.tail _ (.tail _ (.tail _ (.head _))))⟩
theorem in5{z a b c d e:Addr}{P:Addr->Prop}(f:e ∈ [z,a,b,c,d])(g:P z)(h:P a)(i:P b)(j:P c)(k:P d):P e:=by
 simp only[List.mem_cons,List.not_mem_nil,or_false]at f;rcases f with rfl|rfl|rfl|rfl|rfl<;>assumption
theorem no5{z a b c d e:Addr}(f:e ∉ [z,a,b,c,d]):e≠z/\e≠a/\e≠b/\e≠c/\e≠d:=by
 simpa only[List.mem_cons,List.not_mem_nil,or_false,not_or] using f
theorem nd5{z a b c d:Addr}(N:[z,a,b,c,d].Nodup):(z≠a/\z≠b/\z≠c/\z≠d)/\(a≠b/\a≠c/\a≠d)/\(b≠c/\b≠d)/\c≠d:=by
 simpa only[List.nodup_cons,List.mem_cons,List.not_mem_nil,or_false,not_or,List.nodup_nil,not_false_eq_true,and_true] using N
theorem EO{x i a:Addr}(b:x≠i)(c:x≠a):x ∉ [i,a]:=by simp[b,c]
theorem GL{l:List Value}{i:Nat}{u x:Value}(h:l[i]?=some u)(g:l.toArray[i]?=some x):x=u:=by
 have:l.toArray[i]?=some u:=by simpa using h
 calc Option.some.inj (g.symm.trans this)
theorem GN{P:Program}{w:World}{K:W.Frag}{es:List Expr}{kt:Nat}{tp:Pos}(b c:Bool)(z r m g j a d:Addr)(N:[z,r,m,g,j].Nodup):
  Turn P w K (.Tuple es kt tp) (Y3 b c K a d) [z,r,m,g,j] z (λi h=>IsZip h z r m .none/\IsPair h r (.ref g) (.ref j)/\(∃u v,IsPair h m u v)/\pd b h g a i/\pd c h j d i) where
 mem:=m5.1
 obj:=λi h t e l=>by
  obtain⟨G,B,⟨u,v,J⟩,L,M⟩:=t;refine in5 (P:=λe=>∃o,h.get? e=some o/\∀v,o.data≠.cell v) l ⟨_,G,λv z=>?_⟩ ⟨_,B,λv z=>?_⟩ ⟨_,J,λv z=>?_⟩ L.obj M.obj
  ·have k:Data.fields _=Data.cell v:=z
   cases k
  ·have k:Data.seq _ _=Data.cell v:=z
   cases k
  ·have k:Data.seq _ _=Data.cell v:=z
   cases k
 keep:=λi h h' t k=>by
  obtain⟨G,B,⟨u,v,J⟩,L,M⟩:=t;exact⟨k z m5.1 _ G,k r m5.2.1 _ B,⟨u,v,k m m5.2.2.1 _ J⟩,L.at λo q=>k g m5.2.2.2.1 o q,M.at λo q=>k j m5.2.2.2.2 o q⟩
 item:=by
  intro X hP hw hK hc i Y s σ H E I O t hg;subst hP hw hK;obtain⟨G,B,⟨u0,v0,J⟩,L,M⟩:=t;obtain⟨xs,ys,x,y,S,hr,hx,hy⟩:=hg;obtain⟨aP,rv,p,hz⟩:=I.sq S;obtain⟨Y4,rt,pt,hzt⟩:=I.sq hr;obtain⟨u,k,ru⟩:=rv.get hx;obtain⟨v,n,rv'⟩:=rt.get hy;have C:∀e ∈ [z,r,m,g,j],e≠a:=λe l=>Ne.symm (I.rL S (O e l));have F:∀e ∈ [z,r,m,g,j],e≠d:=λe l=>Ne.symm (I.rL hr (O e l));obtain⟨⟨n1,n2,T,U⟩,⟨n5,n6,n7⟩,⟨n8,n9⟩,R⟩:=nd5 N;have hh:X.A.in1.handled=none:=I.ok.hd hc;have D1:=Draws.sq (prog:=X.prog) (w:=X.w) (A:=X.A.in1) hh b g a (Ne.symm (C g m5.2.2.2.1)) aP.toArray;have D2:=Draws.sq (prog:=X.prog) (w:=X.w) (A:=X.A.in1) hh c j d (Ne.symm (F j m5.2.2.2.2)) Y4.toArray;have Z:ZA z r m g j [g,a] [j,d]:=⟨Ne.symm n1,Ne.symm n2,Ne.symm T,Ne.symm U,n5,n6,n7,n8,n9,R,EO T (C z m5.1),EO n8 (C m m5.2.2.1),EO (Ne.symm R) (C j m5.2.2.2.2),EO U (F z m5.1),EO n9 (F m m5.2.2.1),EO R (F g m5.2.2.2.1)⟩
  calc tX Z D1 D2 G B J ⟨L,p⟩ ⟨M,pt⟩ (wz k) (wz n) λx' y' h1 tk K py EL aaP s1 s2 hT sz kk=>?_;have ex:x'=u:=GL k K;have ey:y'=v:=GL n py;subst ex ey;calc⟨_,rfl,wpAny_letOwnedTupleGo_zip EL λu v k=>?_⟩;have K:∀e o,e ∉ [z,r,m,g,j]->s.heap.get? e=some o->u.get? e=some o:=λe o l q=>
   have n:=no5 l;(k.2 e n.1).trans (kk e o n.1 n.2.2.1 n.2.2.2.1 n.2.2.2.2 q)
  have n:s.heap.objs.size≠z:=Nat.ne_of_gt (S' G);have zC:IsTup u s.heap.objs.size ([x',y']:List Value).toArray:=⟨_,(k.2 _ n).trans hT,rfl,_,rfl⟩
  have u:H s.heap.objs.size=none:=I.aU.fresh (K' _);refine⟨.ref s.heap.objs.size,upd H s.heap.objs.size (.tup [x,y]),I.BU O K (K' _) (.cons ru (.cons rv' .nil)) yg zC,rfl,
   ⟨_,u,rfl,λK ER BR KL=>⟨x,y,by rw[I.Ar BR S];calc hx,by rw[I.Ar KL hr];calc hy,rfl⟩⟩,⟨v,?_,⟨_,_,(k.2 m (Ne.symm n2)).trans aaP⟩,s1.1.at λo q=>(k.2 g (Ne.symm T)).trans q,s2.1.at λo q=>(k.2 j (Ne.symm U)).trans q⟩,λe l=>?_⟩
  ·exact(k.2 r (Ne.symm n1)).trans (kk r _ (Ne.symm n1) n5 n6 n7 B)
  ·have u:e≠s.heap.objs.size:=in5 (P:=λe=>e≠s.heap.objs.size) l (Ne.symm n) (X' (S' B)) (X' (S' J)) (let ⟨_,k,_⟩:=L.obj;X' (S' k)) (let ⟨_,k,_⟩:=M.obj;X' (S' k));rw[ay u];exact(O e l).1
 done:=by
  intro X hP hw hK hc i Y s σ H E I O t hg;subst hP hw hK;obtain⟨G,B,⟨u0,v0,J⟩,L,M⟩:=t;obtain⟨xs,ys,S,hr,hx⟩:=hg;obtain⟨aP,rv,p,hz⟩:=I.sq S;obtain⟨Y4,rt,pt,hzt⟩:=I.sq hr;have C:∀e ∈ [z,r,m,g,j],e≠a:=λe l=>Ne.symm (I.rL S (O e l));have F:∀e ∈ [z,r,m,g,j],e≠d:=λe l=>Ne.symm (I.rL hr (O e l));obtain⟨⟨n1,n2,T,U⟩,⟨n5,n6,n7⟩,⟨n8,n9⟩,R⟩:=nd5 N;have hh:X.A.in1.handled=none:=I.ok.hd hc;have D1:=Draws.sq (prog:=X.prog) (w:=X.w) (A:=X.A.in1) hh b g a (Ne.symm (C g m5.2.2.2.1)) aP.toArray;have D2:=Draws.sq (prog:=X.prog) (w:=X.w) (A:=X.A.in1) hh c j d (Ne.symm (F j m5.2.2.2.2)) Y4.toArray;have Z:ZA z r m g j [g,a] [j,d]:=⟨Ne.symm n1,Ne.symm n2,Ne.symm T,Ne.symm U,n5,n6,n7,n8,n9,R,EO T (C z m5.1),EO n8 (C m m5.2.2.1),EO (Ne.symm R) (C j m5.2.2.2.2),EO U (F z m5.1),EO n9 (F m m5.2.2.1),EO R (F g m5.2.2.2.1)⟩
  have a:=rv.length;have a:=rt.length;exact wx Z D1 D2 G B J ⟨L,p⟩ ⟨M,pt⟩ (by simp only[List.size_toArray];lia) λh' tk kk=>⟨rfl,I.BS O λe o l q=>kk e o (λw=>l (by simp[w])) (λw=>l (by simp[w])) (λw=>l (by simp[w])) (λw=>l (by simp[w])) q⟩
 self:=λ_ _ _ _ _ t h=>wpAny_pyIter_zip t.1 h
section
variable {X:Cx}
def GO(K:W.Frag)(a:TA):TI:=λσ H R=>a σ H λvs c=>match vs with
 | [.ref a]=>∃b xs,Sq b K c a xs/\R (M4 b K a) c
 |_=>False
def P0(K:W.Frag)(a:TA):TI:=λσ H R=>a σ H λvs e=>match vs with
 | [.ref a,.ref d]=>∃b c xs ys,Sq b K e a xs/\Sq c K e d ys/\R (Y3 b c K a d) e
 |_=>False
theorem gX{l:List Expr}{m:Nat}{n:Pos}{a:Expr}{h:TA}{p d:Pos}(o:Gl X "enumerate")(t:X.mg "enumerate"=none)(u:PA X [a] h)(v:starEach [a] X.env=[(false,eval a X.env)]:=by rfl):
  PI X (.Tuple l m n) (.Call (.Name "enumerate" p) [a] [] d) (GO X.K h):=by
 calc⟨?_⟩;intro c s σ H R I h;calc Call_ (oV I o t boot_enumerate (PyProof.Rows.callWith_type1 (cD (u d c s σ H _ I h) λm e l=>?_) (by rw[v];rfl) rfl));obtain⟨h,i,f,g,d⟩:=l
 match h,g,d with
 | [.ref a],g,d=>
  obtain⟨b,h,w,q⟩:=d
  cases g with
  |cons r x=>
   cases x
   cases r;obtain⟨d,g,p,h⟩:=f.sq w;calc DC p λg d h m l=>wpAny_pyIter_enum d ?_;have m:Inv X c σ i {e with heap:=g}:=f.kept (t':=e.toks) l;calc⟨_,[e.heap.objs.size+1,e.heap.objs.size],_,_,i,rfl,m,DB b _ _ a (Nat.succ_ne_self _),⟨⟨_,d⟩,h⟩,λc j=>?_,q⟩;have k:e.heap.objs.size<=c:=by
    simp only[List.mem_cons,List.not_mem_nil,or_false]at j;rcases j with rfl|rfl
    ·exact Nat.le_succ _
    ·exact K' _
   calc f.Fs k (f.aU.fresh k)
theorem GP{s:List Expr}{t:Nat}{u:Pos}{a b:Expr}{h:TA}{p g:Pos}(v:Gl X "zip")(w:X.mg "zip"=none)(x:PA X [a,b] h)(y:starEach [a,b] X.env=[(false,eval a X.env),(false,eval b X.env)]:=by rfl)(l:starEach [b] X.env=[(false,eval b X.env)]:=by rfl):
  PI X (.Tuple s t u) (.Call (.Name "zip" p) [a,b] [] g) (P0 X.K h):=by
 calc⟨?_⟩;intro e s σ H R I h;calc Call_ (oV I v w boot_zip (PyProof.Rows.callWith_type1 (cD (x g e s σ H _ I h) λt f p=>?_) (by rw[y,l]) (by rw[l];rfl)));obtain⟨h,m,i,j,g⟩:=p
 match h,j,g with
 | [.ref a,.ref d],j,g=>
  obtain⟨b,c,h,l,z,A,q⟩:=g
  cases j with
  |cons r k=>
   cases k with
   |cons B k=>
    cases k
    cases r
    cases B;obtain⟨g,h,j,k⟩:=i.sq z;obtain⟨h,l,k,g⟩:=i.sq A;calc GK j k λg h l p r s u t=>wpAny_pyIter_zip h ?_;have j:Inv X e σ m {f with heap:=g}:=i.kept (t':=f.toks) t;refine⟨_,[f.heap.objs.size+4,f.heap.objs.size+2,f.heap.objs.size+3,f.heap.objs.size,f.heap.objs.size+1],_,_,m,rfl,j,GN b c _ _ _ _ _ a d ?_,⟨h,l,⟨_,_,p⟩,r,s⟩,λe n=>?_,q⟩
    ·simp
    ·have o:f.heap.objs.size<=e:=by
      simp only[List.mem_cons,List.not_mem_nil,or_false]at n;rcases n with rfl|rfl|rfl|rfl|rfl
      ·exact Nat.le_add_right _ _
      ·exact Nat.le_add_right _ _
      ·exact Nat.le_add_right _ _
      ·exact K' _
      ·exact Nat.le_add_right _ _
     calc i.Fs o (i.aU.fresh o)
end
end
end L2
namespace HT
open PySem PyProof.Rows
section
variable {prog:Program}{w:World}{A:Around}{E:Value->Shared->Prop}{s:Shared}
theorem nQ{t c:Addr}{a:Array Value}{d e:Value}{lo hi:Option Int}{Q:Value->Shared->Prop}(b:IsTup s.heap t a)(f:s.heap.IsSliceOf c d e .none)(pl:IsPart d lo)(g:IsPart e hi)
  (e:eE a.size 0 lo=0/\eE a.size a.size hi=a.size) (h:Q (.ref t) s):wpAny (model prog w) A (getItem (.ref t) (.ref c)) Q E s:=by
 obtain⟨i,j,k,d⟩:=id f;have d:s.TypeIs (.ref c) "slice":=⟨i,j,k⟩
 unfold getItem
 try with_reducible refine aaF ?_
 first|calc j' (P' ?_)|skip
 refine j' (wpAny_sequenceKey b.typeIs ∅ (j' (aaN (name:=Str.ofString "__getitem__") b.typeIs aa4
  (wpAny_call_entry aa4 b.typeIs entry_tuple_getitem ?_ (args_tuple_getitem _ _)))))
 calc j' (m:=Builtin.Tuple.tupleItemsOf (.ref t)) (tupleItemsOf_ b (j' (wpAny_typeOf d ?_)));rw[if_pos ∅];calc j' (jB f pl g ?_);have c:(((eE a.size 0 lo:Nat):Int)==0&&(1:Int)==1&&(eE a.size a.size hi-eE a.size 0 lo)==a.size)=true:=by
  rw[e.1,e.2];simp
 show wpAny _ _ (if (((eE a.size 0 lo:Nat):Int)==0&&(1:Int)==1&&(eE a.size a.size hi-eE a.size 0 lo)==a.size)=true then _ else _) _ _ s;rw[if_pos c];calc j' (m:=Builtin.Tuple.tupleIsExact (.ref t)) ?_;unfold Builtin.Tuple.tupleIsExact;calc j' (wpAny_typeOf b.typeIs (P' ?_));rw[if_pos ∅];calc j' (wpAny_rule (P' ⟨_,rfl,P' h⟩))
end
end HT
namespace L2
open PySem PySem.Spec PyProof.Rows
section
variable {H:Hp}{Q:VK}{K:W.Frag}
section
variable {X:Cx}
def uSl:V->Option Int->Option Int->Hp->VK->Prop:=λx lo hi H Q=>match x with
 | .ref a=>(∃xs,H a=some (.lst xs)/\∀p,H p=none->Q (.ref p) (upd H p (.lst (bR xs lo hi))))\/(∃xs,H a=some (.tup xs)/\∀p b,aq H b->b p=some (.tup (bR xs lo hi))->Q (.ref p) b)
 |_=>False
theorem M5{a:Addr}{lo hi:Option Int}:uSl (.ref a) lo hi H Q=((∃xs,H a=some (.lst xs)/\∀p,H p=none->Q (.ref p) (upd H p (.lst (bR xs lo hi))))\/(∃xs,H a=some (.tup xs)/\∀p b,aq H b->b p=some (.tup (bR xs lo hi))->Q (.ref p) b)):=rfl
theorem aaS:Uq X uSl:=by
 intro c s σ H x v t u i j w Q I l m n o h
 cases x<;>first
  |calc(show False from h).elim
  |skip
 rename_i a;rcases h with⟨b,d,q⟩|⟨b,d,q⟩
 ·exact BG c s σ H _ v t u i j w Q I l m n o ⟨a,b,rfl,aS.of d,q⟩
 ·by_cases k:HT.eE b.length 0 i=0/\HT.eE b.length b.length j=b.length
  ·cases l;obtain⟨z,r,y,C⟩:=I.tuple (bH.of d);have g:z.toArray.size=b.length:=by rw[List.size_toArray];exact r.length.symm
   refine⟨"tuple",_,PyProof.Rows.slot_tuple_getitem.lookup,y.typeIs,HT.nQ y m n o (by rw[g];exact k) ⟨.ref a,H,I,rfl,q a H (aq.refl H) ?_⟩⟩;have e:bR b i j=b:=by
    unfold bR;rw[k.1,k.2];simp
   rw[e];exact d
  ·calc Ph c s σ H _ v t u i j w Q I l m n o ⟨a,b,rfl,bH.of d,k,λp B=>q p _ (aq.new _ B) af⟩
theorem gN{e:Expr}{b:TE}{lo hi:Option Expr}{c d:TO}{a f:Pos}(g:PE X e b)(h:PO X lo c)(i:PO X hi d):PE X (.Subscript e (.Slice lo hi none f) a) (Ur uSl b c d):=xS aaS g h i
def Y5:R2:=λx y H Q=>match x,y with
 | .int i,.int j=>Q (.int (i+j)) H
 | .str i,.str j=>i.length+j.length<=sizeLine/\Q (.str (i++j)) H
 | .ref a,.ref b=>(∃xs c,H a=some (.lst xs)/\H b=some (.lst c)/\xs.length + c.length<=sizeLine/\∀p,H p=none->Q (.ref p) (upd H p (.lst (xs++c))))\/
   (∃xs c,H a=some (.tup xs)/\H b=some (.tup c)/\xs.length+c.length<=sizeLine/\∀p d,aq H d->d p=some (.tup (xs++c))->Q (.ref p) d)
 |_,_=>False
theorem GQ{i j:Int}:Y5 (.int i) (.int j) H Q=Q (.int (i+j)) H:=rfl
theorem GR{i j:Str}:Y5 (.str i) (.str j) H Q=(i.length+j.length<=sizeLine/\Q (.str (i++j)) H):=rfl
theorem GS {a b:Addr}:Y5 (.ref a) (.ref b) H Q=((∃xs c,H a=some (.lst xs)/\H b=some (.lst c)/\xs.length + c.length<=sizeLine/\∀p,H p=none->Q (.ref p) (upd H p (.lst (xs++c))))\/
      (∃xs c,H a=some (.tup xs)/\H b=some (.tup c)/\xs.length + c.length<=sizeLine/\∀p d,aq H d->d p=some (.tup (xs++c))->Q (.ref p) d)):=rfl
theorem ck:fJ X (binaryOp .Add) Y5:=by
 intro c s σ H x y v u Q I d e h
 cases x<;>cases y<;>first
  |calc(show False from h).elim
  |calc O3 c s σ H _ _ v u Q I d e ⟨_,_,rfl,rfl,h⟩
  |calc zO c s σ H _ _ v u Q I d e ⟨_,_,rfl,rfl,h.1,h.2⟩
  |skip
 rename_i a b;rcases h with⟨k,l,f,g,m,i⟩|⟨k,l,f,g,m,i⟩
 ·exact Pp c s σ H _ _ v u Q I d e ⟨_,_,k,l,rfl,rfl,f,g,m,i⟩
 ·by_cases q:k=[]
  ·subst q
   cases d
   cases e;obtain⟨S,D,E,_⟩:=I.tuple (bH.of f);obtain⟨T,U,G,_⟩:=I.tuple (bH.of g)
   cases D;obtain⟨⟨J,K,r,L⟩,t,w,n,A⟩:=id E;obtain⟨⟨M,N,o,O⟩,B,C,P,j⟩:=id G;simp only at w A C j;subst w A C j;exact concat_meets ⟨_,t,rfl⟩ ⟨_,B,rfl⟩ noFill_tuple_add seq_tuple_add PySem.F.slot_tuple_add PySem.F.entry_tuple_add (PySem.F.args_tuple_add_2 _ _)
    (tuple_addW0 a b _ _ n P K N L O nofun) ⟨t,B,⟨.ref b,H,I,rfl,i b H (aq.refl H) (by simpa using g)⟩⟩
  ·calc KD c s σ H _ _ v u Q I d e ⟨_,_,k,l,rfl,rfl,bH.of f,bH.of g,q,m,λz=>?_,λ_ p R=>i p _ (aq.new _ R) af⟩;subst z;calc i a H (aq.refl H) (by simpa using f)
def UT(K:W.Frag):List V->Hp->VK->Prop:=λxs H Q=>match xs with
 | [.ref p]=>∃bs:List Bool,aS K H p (bs.map V.bl)/\Q (.bl (bs.all id)) H
 |_=>False
theorem GU{p:Addr}:UT K [.ref p] H Q=∃bs:List Bool,aS K H p (bs.map V.bl)/\Q (.bl (bs.all id)) H:=rfl
theorem BV:∀{bs:List Bool}{us:List Value},Vals (bs.map V.bl) us->us=bs.map Value.bool
 | [],_,.nil=>rfl
 |b::bs,_,.cons r t=>by
  cases r;rw[BV t];rfl
theorem all_range:∀(bs:List Bool),((List.range bs.length).all λi=>bs.getD i false)=bs.all id:=by
 intro bs;induction bs with
 |nil=>rfl
 |cons b r a=>
  rw[List.length_cons,List.range_succ_eq_map,List.all_cons,List.all_map,List.all_cons];have:((λi=>(b::r).getD i false) ∘ Nat.succ)=λi=>r.getD i false:=by funext i;simp
  rw[this,a];rfl
theorem GV{prog:Program}{w:World}{A:Around}{bs:List Bool}:TruthOf prog w A (λi v=>(bs.map Value.bool).toArray[i]?=some v) (λi=>bs.getD i false):=by
 intro i v s Q E e c;have a:(bs.map Value.bool)[i]?=some v:=by simpa using e
 rw[List.getElem?_map]at a
 cases d:bs[i]? with
 |none=>rw[d]at a;cases a
 |some b=>
  rw[d]at a
  cases a;have:bs.getD i false=b:=by rw[List.getD_eq_getElem?_getD,d];rfl
  replace c:Q (bs.getD i false) s:=c
  rw[this]at c;calc aaz c
theorem jC(d:X.calm=true):eR X (.builtin "all") (UT X.K):=by
 intro c s σ H f k Q I r h
 match f,r,h with
 | [.ref p],r,h=>
  obtain⟨a,g,q⟩:=h;obtain⟨u,rfl,i⟩:=Vals.one r
  cases i;obtain⟨c,j,b,f⟩:=I.list g;have e:=BV j;subst e;refine call_all_walk (wpAny_pyIter_list b.isList ⟨s.heap.objs.size,_,_,_,_,_,λi=>a.getD i false,rfl,Walks.list (show X.A.in1.handled=none from I.ok.hd d) _ p ?_ (a.map Value.bool).toArray,⟨⟨_,V' _ rfl,rfl,rfl⟩,b.isList.push _⟩,GV,λf g c=>?_⟩)
  ·obtain⟨o,e,_⟩:=b.isList;exact X' (S' e)
  ·have:(a.map Value.bool).toArray.size=a.length:=by simp
   rw[this,all_range];calc⟨.bl _,H,I.kept λb o e=>c b o (by simp[Nat.ne_of_lt (Heap.lt_size e)]) (J' _ e),rfl,q⟩
def yh:List V->Option (List Value)
 | []=>some []
 | .ty n::r=>(yh r).map (.type n::·)
 |_=>none
theorem yi:∀{xs:List V}{us a:List Value},Vals xs us->yh xs=some a->us=a
  | [],_,_,.nil,h=>by cases h;rfl
  |x::xs,_,a,.cons r t,h=>by
    cases x<;>first
      |cases h
      | (rename_i n
         unfold yh at h;obtain⟨b,c,d⟩:=Option.map_eq_some_iff.mp h
         cases r;rw[<-d,yi t c])
def K4(K:W.Frag):List V->Hp->VK->Prop:=λxs H Q=>match xs with
 | [x,.ty n]=>∃t b,gL K H x t/\W.kitOne K t (.type n)=some b/\Q (.bl b) H
 | [x,.ref p]=>∃t b a c,gL K H x t/\H p=some (.tup a)/\yh a=some c/\W.kitAny K t c=some b/\Q (.bl b) H
 |_=>False
theorem GW{x:V}{n:String}:K4 K [x,.ty n] H Q=∃t b,gL K H x t/\W.kitOne K t (.type n)=some b/\Q (.bl b) H:=rfl
theorem GX{x:V}{p:Addr}:K4 K [x,.ref p] H Q=∃t b a c,gL K H x t/\H p=some (.tup a)/\yh a=some c/\W.kitAny K t c=some b/\Q (.bl b) H:=rfl
theorem As{x:V}{u t:Value}{pins:List (Addr×Obj)}{σ:St}{H:Hp}{s:Shared}{A:Around}{E:Value->Shared->Prop}{Q:Value->Shared->Prop}{b:Bool}{m:Addr}{r:List Value}(I:Inv X pins σ H s)(c:RelV x u)(C:gL X.K H x t)
  (D:IsTup s.heap m r.toArray) (e:W.kitAny X.K t r=some b) (h:∀x,Q (.bool b) {s with toks:=x}):wpAny (model X.prog X.w) A (call (.builtin "isinstance") [u,.ref m]) Q E s:=by
 obtain⟨⟨m,r,b,x⟩,d,v,n,hd⟩:=id D;simp only at v hd;subst v hd
 cases C with
 |bx=>cases(show u=Value.none from c);calc W.kia_tup W.kitx_none I.gh aai d e (λz=>nomatch z) h
 |bl y=>cases(show u=Value.bool y from c);calc W.kia_tup W.kitx_bool I.gh aai d e (λz=>nomatch z) h
 |int i=>obtain⟨t,q⟩:=(show ∃t,u=Value.int i t from c);cases q;calc W.kia_tup W.kitx_int I.gh aai d e (λz=>nomatch z) h
 |str y=>obtain⟨t,q⟩:=(show ∃t,u=Value.str y t from c);cases q;calc W.kia_tup W.kitx_str I.gh aai d e (λz=>nomatch z) h
 |MG y=>obtain⟨t,q⟩:=(show ∃t,u=Value.float y t from c);cases q;calc W.kia_tup W.kitx_float I.gh aai d e (λz=>nomatch z) h
 | @lst a j f=>
  cases(show u=Value.ref a from c);obtain⟨_,_,n,_,g⟩:=(show cC X.prog X.w H s.heap a (.lst j) from I.aU a _ f)
  calc W.kia_tup W.kitx_list I.gh ⟨_,g,rfl⟩ d e (λz=>nomatch z) h
 | @zw a F j f=>
  cases(show u=Value.ref a from c);obtain⟨_,_,_,n,_,g⟩:=(show cC X.prog X.w H s.heap a (.zw F (.lst j)) from I.aU a _ f)
  calc W.kia_tup W.kitx_list I.gh ⟨_,g,rfl⟩ d e (λz=>nomatch z) h
 | @tup a j f=>
  cases(show u=Value.ref a from c);obtain⟨_,_,_,p⟩:=(show cC X.prog X.w H s.heap a (.tup j) from I.aU a _ f)
  obtain⟨o,g,k,_⟩:=p;calc W.kia_tup W.kitx_tuple I.gh ⟨o,g,k⟩ d e (λz=>nomatch z) h
 | @dK a l f=>
  cases(show u=Value.ref a from c);obtain⟨_,_,b,_,p⟩:=(show cC X.prog X.w H s.heap a (.dK l) from I.aU a _ f)
  obtain⟨o,G,J,g,k,_⟩:=p;calc W.kia_tup W.kitx_dict I.gh ⟨o,g,k.1⟩ d e (λz=>nomatch z) h
 | @dT a l f=>
  cases(show u=Value.ref a from c);obtain⟨_,_,j,_,o,G,J,g,k,_⟩:=(show cC X.prog X.w H s.heap a (.dT l) from I.aU a _ f)
  calc W.kia_tup W.kitx_dict I.gh ⟨o,g,k.1⟩ d e (λz=>nomatch z) h
 | @ins a C b g f B L M N P=>
  cases(show u=Value.ref a from c);obtain⟨b,O,_⟩:=nE I.aU f;obtain⟨a,J,_⟩:=O.look;calc W.kia_tup (W.kitx_own (B.get _) B.hd L M N P) I.gh J d e (λz=>nomatch z) h
theorem ei:eR X (.builtin "isinstance") (K4 X.K):=by
 intro f s σ H g n Q I r h
 match g,r,h with
 | [x,.ty n],r,h=>
  obtain⟨t,b,ty,e,q⟩:=h;obtain⟨u,i,rfl,a,c⟩:=vals2 r
  cases c;calc uJ I a ty e λj=>⟨.bl b,H,I.tok _,rfl,q⟩
 | [x,.ref p],r,h=>
  obtain⟨t,b,f,g,ty,k,d,e,q⟩:=h;obtain⟨u,i,rfl,a,c⟩:=vals2 r
  cases c;obtain⟨f,l,m,g⟩:=I.tuple (bH.of k);have o:=yi l d;subst o;calc As I a ty m e λj=>⟨.bl b,H,I.tok _,rfl,q⟩
end
end
section
variable {a:Addr}{H:Hp}{D:List (Str×V)}
section
variable {X:Cx}
def UU:V->List V->Hp->VK->Prop:=λx vs H Q=>match x,vs with
 | .ref l,[y]=>∃xs,H l=some (.lst xs)/\xs.length<sizeLine/\Q .bx (upd H l (.lst (xs++[y])))
 |_,_=>False
theorem GY{l:Addr}{y:V}{Q:VK}:UU (.ref l) [y] H Q=∃xs,H l=some (.lst xs)/\xs.length<sizeLine/\Q .bx (upd H l (.lst (xs++[y]))):=rfl
theorem bZ:MP X "list.append" UU:=by
 intro a s σ H x c v d Q I e b h
 match x,c,b,h with
 | .ref l,[y],b,⟨c,f,g,h⟩=>calc uR a s σ H _ _ v d Q I e b ⟨l,c,y,rfl,rfl,f,g,h⟩
def UW:V->List V->Hp->VK->Prop:=λx vs H Q=>match x,vs with
 | .ref l,[.ref b]=>∃xs a,H l=some (.lst xs)/\H b=some (.lst a)/\xs.length+a.length<=sizeLine/\Q .bx (upd H l (.lst (xs++a)))
 |_,_=>False
theorem GZ{l b:Addr}{Q:VK}:UW (.ref l) [.ref b] H Q=∃xs a,H l=some (.lst xs)/\H b=some (.lst a)/\xs.length+a.length<=sizeLine/\Q .bx (upd H l (.lst (xs++a))):=rfl
theorem K5:MP X "list.extend" UW:=by
 intro a s σ H x b v d Q I e c h
 match x,b,c,h with
 | .ref l,[.ref b],c,⟨f,g,h,i,j,k⟩=>calc Dm a s σ H _ _ v d Q I e c ⟨l,b,f,g,rfl,rfl,h,i,j,k⟩
def UX:V->List V->Hp->VK->Prop:=λx vs H Q=>match x,vs with
 | .ref l,[]=>∃xs,H l=some (.lst xs)/\Q .bx (upd H l (.lst []))
 |_,_=>False
theorem G8{l:Addr}{Q:VK}:UX (.ref l) [] H Q=∃xs,H l=some (.lst xs)/\Q .bx (upd H l (.lst [])):=rfl
theorem K6:MP X "list.clear" UX:=by
 intro a s σ H x c v d Q I e b h
 match x,c,b,h with
 | .ref l,[],b,⟨c,f,g⟩=>calc F0 a s σ H _ _ v d Q I e b ⟨l,c,rfl,rfl,f,g⟩
def G9(a b:TE):TS:=λD σ H=>a σ H λx c=>b σ c λy a=>∃l i xs k,x=.ref l/\y=.int i/\a l=some (.lst xs)/\-(2^63)<=i/\i<2^63/\seqIndex? i xs.length=some k/\D.nx σ (upd a l (.lst (xs.eraseIdx k)))
theorem K7{o i:Expr}{b c:TE}{d a:Pos}(e:PE X o b)(hi:PE X i c):PS X (.Delete [.Subscript o i d] a) (G9 b c):=by
 walk_at "xd";refine wpAny_Delete (wpAny_deleteEach_cons (wpAny_delete_Subscript (cD (e pins s σ H _ I h) λu a ⟨x,b,c,f,d⟩=>cD (hi pins a σ b _ c d) λe k g=>?_)));obtain⟨y,a,j,m,l,i,b,k,n,p,q,r,v,w,z⟩:=g;subst n p;obtain rfl:u=Value.ref l:=f;obtain⟨t,rfl⟩:=m;exact F3 j q r v w λb a=>wpAny_deleteEach_nil ⟨σ,_,a,z⟩
structure CD(K:W.Frag)(a:Addr)(D:List (Str×V)):Prop where
 ex:∃o es ep,K.lookup a=some o/\o.ExactDict/\o.data=.dict es ep/\KTD.Rows RelV es.toList D
 ne:(a==sysModules)=false
theorem Qa{prog:Program}{w:World}{A:Around}{E:Value->Shared->Prop}{s:Shared}{o:Obj}{b:Array DictEntry}{f:Nat}{k:Str}{h:Tok}{Q:Option Value->Shared->Prop}(j:s.heap.get? a=some o)(m:o.data=.dict b f)(g:KTD.Rows RelV b.toList D)
  (i:∀d v,KTD.datumAt k D=some d->RelV d v->Q (some v) {s with toks:=s.toks+1}) (n:KTD.datumAt k D=none->Q none {s with toks:=s.toks+1}):wpAny (model prog w) A (dictGet a (.str k h)) Q E s:=by
 unfold dictGet
 try with_reducible refine aaF ?_
 calc j' (wpAny_pyHash_str (j' (KTD.kt_dictFind_strs (s:={s with toks:=s.toks+1}) j m (by obtain⟨l⟩:=b;simpa using g.exact) ?_)));have c:Q (findBy (λk v=>v.isStr k) b k) {s with toks:=s.toks+1}:=by
  have f:findBy (λk v=>v.isStr k) b k=(b.toList.find? λe=>e.key.isStr k).map (·.val):=by
   obtain⟨l⟩:=b;simp[findBy]
  rw[f]
  cases f:KTD.datumAt k D with
  |some d=>
   obtain⟨v,l,h⟩:=g.find_some f;rw[l];calc i d v f h
  |none=>rw[g.find_none f];exact n f
 rw[findBy_of_findIdx?]at c
 cases d:b.findIdx? λe=>e.key.isStr k with
 |none=>rw[d]at c;calc P' c
 |some i=>rw[d]at c;calc j' (wpAny_dictEntries (s:={s with toks:=s.toks+1}) j m (P' c))
theorem Au{prog:Program}{w:World}{o:Obj}{c:Array DictEntry}{d:Nat}{k:Str}{b:Tok}(e:o.data=.dict c d)(f:KTD.Rows RelV c.toList D)(g:(a==sysModules)=false):
  MeetsIn prog w (Builtin.«dict.get» ⟨[.ref a,.str k b],[]⟩) (λ_ R s=>s.heap.get? a=some o/\(∀d v,KTD.datumAt k D=some d->RelV d v->R (.ok (.ret v)) {s with toks:=s.toks+1})/\(KTD.datumAt k D=none->R (.ok (.ret .none)) {s with toks:=s.toks+1})):=
 .of_wp λA R s ⟨T,c,h⟩=>by
  show wpAny _ _ (dictGet a (.str k b) >>= _) _ _ s;calc j' (Qa T e f (λd v i j=>P' ⟨v,rfl,c d v i j⟩) λe=>?_);show wpAny _ _ (Builtin.Dict.missed a (.str k b) >>= _) _ _ _;calc j' (wpAny_missed_other g (P' ⟨.none,rfl,h e⟩))
def Ha(D:List (Str×V))(t:TA):TE:=λσ H Q=>t σ H λxs a=>match xs with
 | [.str k]=>Q ((KTD.datumAt k D).getD .bx) a
 |_=>False
theorem K8{n:Str}{e:Expr}{t:TA}{p b d:Pos}(C:CD X.K a D)(r:Gl X n)(v:X.mg n=some (.ref a))(w:PA X [e] t)
  (x:(n==("__debug__":Str))=false:=by decide) (y:attributeBase (.Name n p) "get" X.env (eval (.Name n p) X.env)=eval (.Name n p) X.env:=by rfl)
  (z:(b.endLine==d.line)=true:=by rfl) (l:starEach [e] X.env=[(false,eval e X.env)]:=by rfl):PE X (.Call (.Attribute (.Name n p) "get" b) [e] [] d) (Ha D t):=by
 walk_at "xc";obtain⟨o,b,n,m,f,A,B⟩:=C.ex;refine wpAny_Call_method_late y (by rw[l];rfl) z rfl (iP I r v ?_ x);have q:s.heap.get? a=some o:=I.gh a o m;refine⟨"dict","dict.get",PySem.F.plainAttrs_dict,PySem.F.slot_dict_get,PySem.F.type_dict_get,⟨o,q,f.1⟩,λb e=>?_,?_⟩
 ·cases e;exact⟨o,q,f.2.1⟩
 have b:=w d pins s σ H _ I h;rw[l]at b ⊢;calc Calls.callWith_builtin rfl (Calls.evalArgs_plain (cD b λn E e=>?_));obtain⟨b,g,i,j,c⟩:=e
 match b,j,c with
 | [.str k],j,c=>
  obtain⟨u,rfl,G⟩:=Vals.one j;obtain⟨J,rfl⟩:=G;have e:E.heap.get? a=some o:=i.gh a o m
  replace c:Q ((KTD.datumAt k D).getD .bx) g:=c
  refine call_meetsIn PySem.F.slot_dict_get ⟨o,e,f.1⟩ PySem.F.entry_dict_get (PySem.F.args_dict_get_2 _ _) (Au A B C.ne) ⟨e,λd v b j=>?_,λe=>?_⟩
  ·exact⟨d,g,i.tok _,j,by have:=c;rw[b]at this;calc this⟩
  ·calc⟨.bx,g,i.tok _,rfl,by have:=c;rw[e]at this;calc this⟩
end
end
section
variable {x:Str}
section
variable {X:Cx}
theorem fR{n:Int}{a:Pos}(b:∃t,X.mg x=some (.int n t))(c:Gl X x)(d:(x==("__debug__":Str))=false:=by decide):PE X (.Name x a) (tC (.int n)):=by
 obtain⟨t,b⟩:=b;calc lR c b ⟨t,rfl⟩ d
end
structure eP(P:Program)(w:World)(K:W.Frag)(mg:Str->Option Value)(base:Heap)(C:Addr)(m:Str)(k:Nat)(ps:List Str)(sp:Sp):Prop where
 ex:∃f fd,Meth K C m f/\iM P w K mg base uV k f fd ps sp/\Binds K fd ps []
structure gO(K:W.Frag)(C:Addr)(m qual:Str)(st:Stmt)(ps:List Str):Prop where
 ex:∃f fd,Meth K C m f/\EI K m qual st f fd/\Binds K fd ps []
structure yj(P:Program)(w:World)(K:W.Frag)(mg:Str->Option Value)(base:Heap)(x:Str)(C:Addr)(k:Nat)(ps:List Str)(sp:Sp):Prop where
 ex:∃f fd,Mk K C f/\iM P w K mg base uV k f fd ps sp/\Binds K fd ps []
 mg:mg x=some (.ref C)
structure DE(K:W.Frag)(mg:Str->Option Value)(x:Str)(C:Addr)(qual:Str)(st:Stmt)(ps:List Str):Prop where
 ex:∃f fd,Mk K C f/\EI K "__init__" qual st f fd/\Binds K fd ps []
 mg:mg x=some (.ref C)
section
variable {P:Program}{w:World}{K:W.Frag}{mg:Str->Option Value}{base:Heap}
theorem gO.ok{C:Addr}{m a:Str}{b:Stmt}{N c:List Str}{k:Nat}{sp:Sp}(T:gO K C m a b c)(S:aD N c (az b))(d:∀vs H Q E,sp vs H Q E->vs.length=c.length)
  (g:∀(f:Addr) (e:Value) (A:Around) (outer:List Env) (s:Shared) (H:Hp) (vs:List V) (Q:VK) (E:XK),dq k (A.deeper (envOfC a (az b) s.heap.objs.size f e))->sp vs H Q E->
   ∃t,qr (gV uV P w K mg base N a (az b) f e A outer s H E).xy (cj b) t/\t {nx:=λ_ a=>Q .bx a,rt:=Q} (start N vs) H):eP P w K mg base C m (k + 1) c sp:=by
 obtain⟨f,a,M,F,b⟩:=T.ex;calc⟨f,a,M,F.ok S d (g f),b⟩
theorem DE.ok{C:Addr}{a:Str}{b:Stmt}{N c:List Str}{k:Nat}{sp:Sp}(T:DE K mg x C a b c)(S:aD N c (az b))(d:∀vs H Q E,sp vs H Q E->vs.length=c.length)
  (g:∀(f:Addr) (e:Value) (A:Around) (outer:List Env) (s:Shared) (H:Hp) (vs:List V) (Q:VK) (E:XK),dq k (A.deeper (envOfC a (az b) s.heap.objs.size f e))->sp vs H Q E->
   ∃t,qr (gV uV P w K mg base N a (az b) f e A outer s H E).xy (cj b) t/\t {nx:=λ_ a=>Q .bx a,rt:=Q} (start N vs) H):yj P w K mg base x C (k + 1) c sp:=by
 obtain⟨f,a,M,F,b⟩:=T.ex;calc⟨⟨f,a,M,F.ok S d (g f),b⟩,T.mg⟩
end
section
variable {X:Cx}{o e:Expr}{es:List Expr}{to:TE}{t:TA}{apos p pos:Pos}{C:Addr}{m x:Str}{k j:Nat}{ps:List Str}{sp:Sp}
theorem ko{pl:Sem Bool}(D:eP X.prog X.w X.K X.mg X.base C m k ps sp)(c:tN X.K C)(b:dq j X.A)(d:PE X o to)(g:PA X (e::es) t)(h:k<=j:=by decide)(i:cI e=true:=by rfl)(l:es.all cI=true:=by rfl)
  (n:eval (.Call (.Attribute o m apos) (e::es) [] pos) X.env=(do
   let a <-eval o X.env
   standAt apos.atName
   let (f,first) <-holding [a] (getMethod a m pl)
   callWith pos f first (backTo pos (starEach (e::es) X.env)) (backToKw pos (keywordEach [] X.env))):=by rfl):
  PE X (.Call (.Attribute o m apos) (e::es) [] pos) (ql C m sp [] E0 to t):=by
 obtain⟨f,p,M,F,a⟩:=D.ex;calc BA d c M F (b.mono h) a .nil x6 g (cM i) (eg l) n
theorem gP{pl:Sem Bool}(D:eP X.prog X.w X.K X.mg X.base C m k ps sp)(c:tN X.K C)(b:dq j X.A)(d:PE X o to)(e:k<=j:=by decide)
  (g:eval (.Call (.Attribute o m apos) [] [] pos) X.env=(do
   let a <-eval o X.env
   standAt apos.atName
   let (f,first) <-holding [a] (getMethod a m pl)
   callWith pos f first (backTo pos (starEach [] X.env)) (backToKw pos (keywordEach [] X.env))):=by rfl):
  PE X (.Call (.Attribute o m apos) [] [] pos) (ql C m sp [] E0 to xQ):=by
 obtain⟨f,h,M,F,a⟩:=D.ex;calc FK d c M F (b.mono e) a .nil x6 g
theorem Hb(D:yj X.prog X.w X.K X.mg X.base x C k ps sp)(a:dq j X.A)(b:PA X (e::es) t)(c:Gl X x:=by rfl)(d:k+1<=j:=by decide)(g:(x==("__debug__":Str))=false:=by decide)
  (h:cI e=true:=by rfl) (i:es.all cI=true:=by rfl):PE X (.Call (.Name x p) (e::es) [] pos) (By C sp [] E0 t):=by
 obtain⟨f,m,M,F,l⟩:=D.ex;calc KA M F (a.mono d) c D.mg l .nil x6 b g (cM h) (eg i)
end
theorem jD{K:W.Frag}{b:Bool}{a:Addr}{xs:List V}{g:TG}{l:TS}{D:Ends}{σ:St}{H:Hp}(c:Nat->St->Hp->Prop)(o:c 0 σ H)(j:∀i σ H,c i σ H->Sq b K H a xs)
  (q:∀i x σ H T,xs[i]?=some x->c i σ H->H T=none->g (.ref T) σ (upd H T (.tup [.int i,x])) λd k=>l {D with nx:=c (i+1),ct:=c (i+1),bk:=D.nx} d k) (r:∀σ H,c xs.length σ H->D.nx σ H):
  ∃W:Nat->Nat->St->Hp->Prop,(∃m,W 0 m σ H)/\∀i m σ H,W i m σ H->
   ((M4 b K a).stop i H/\D.nx σ H)\/((M4 b K a).go i H/\∃N:St->Hp->Prop,(∀f h,N f h->∃n,n<m/\W (i+1) n f h)/\∀x h,(M4 b K a).MN i H x h->g x σ h λd k=>l {D with nx:=N,ct:=N,bk:=D.nx} d k):=by
 calc⟨λi m σ H=>m=xs.length-i/\i<=xs.length/\c i σ H,⟨xs.length,nofun,aaa _,o⟩,?_⟩;rintro i m σ H ⟨rfl,b,p⟩;by_cases a:i<xs.length
 ·calc .inr ⟨⟨xs,xs[i],j i σ H p,cP a⟩,c (i+1),λf h b=>⟨xs.length-(i+1),(),rfl,a,b⟩,λx h y=>?_⟩;obtain⟨T,s,rfl,y⟩:=y;obtain⟨x,t,rfl⟩:=y xs (j i σ H p);exact q i x σ H T t p s
 ·have e:i=xs.length:=by lia
  subst e;calc .inl ⟨⟨xs,j _ σ H p,rfl⟩,r σ H p⟩
theorem fm{X:Cx}{i j:Nat}{y:Str}{c d a:Pos}{k:Nat}(e:X.calm=true)(b:X.N.Nodup)(hi:X.N[i]?=some x)(f:X.N[j]?=some y)(g:Loc X.env.scope x)(h:Loc X.env.scope y)
  (l:X.fn x=true\/X.env.scope.names.lookup x=some .local:=by grind) (m:X.fn y=true\/X.env.scope.names.lookup y=some .local:=by grind):
  PG X (.Tuple [.Name x c,.Name y d] k a) (Fo X.K 2 (me (fL i) (me (fL j) Fm))):=vQ e (fM (aX b hi g l) (fM (aX b f h m) qK))
end
end L2
set_option maxHeartbeats 400000
namespace L2
open PySem PySem.Spec PyProof.Rows
structure Hc(K:W.Frag)(mg:Str->Option Value)(x:Str)(C B:Addr)(qual:Str)(st:Stmt)(ps:List Str):Prop where
 cl:fQ K C B
 ex:∃f fd,W.findIn K (.ref C) "__init__"=some (some (.ref f))/\W.isFn K (.ref f)=true/\EI K "__init__" qual st f fd/\Binds K fd ps []
 mg:mg x=some (.ref C)
structure yk(P:Program)(w:World)(K:W.Frag)(mg:Str->Option Value)(base:Heap)(x:Str)(C B:Addr)(k:Nat)(ps:List Str)(sp:Sp):Prop where
 cl:fQ K C B
 ex:∃f fd,W.findIn K (.ref C) "__init__"=some (some (.ref f))/\W.isFn K (.ref f)=true/\iM P w K mg base uV k f fd ps sp/\Binds K fd ps []
 mg:mg x=some (.ref C)
section
variable {P:Program}{w:World}{K:W.Frag}{mg:Str->Option Value}{base:Heap}
theorem Hc.ok{x:Str}{C B:Addr}{a:Str}{b:Stmt}{N c:List Str}{k:Nat}{sp:Sp}(T:Hc K mg x C B a b c)(S:aD N c (az b))(d:∀vs H Q E,sp vs H Q E->vs.length=c.length)
  (g:∀(f:Addr) (e:Value) (A:Around) (outer:List Env) (s:Shared) (H:Hp) (vs:List V) (Q:VK) (E:XK),dq k (A.deeper (envOfC a (az b) s.heap.objs.size f e))->sp vs H Q E->
   ∃t,qr (gV uV P w K mg base N a (az b) f e A outer s H E).xy (cj b) t/\t {nx:=λ_ a=>Q .bx a,rt:=Q} (start N vs) H):yk P w K mg base x C B (k + 1) c sp:=by
 obtain⟨f,a,b,c,F,e⟩:=T.ex;calc⟨T.cl,⟨f,a,b,c,F.ok S d (g f),e⟩,T.mg⟩
end
def tXI(C:Addr)(sp:Sp)(E:XK)(t:TA):TE:=λσ H Q=>t σ H λvs b=>vs.length<=10/\∀a,b a=none->sp (.ref a::vs) (upd b a (XO a C none true)) (λv c=>v=.bx/\Q (.ref a) c) E
section
variable {X:Cx}{pins:List (Addr×Obj)}{σ:St}{H:Hp}{s:Shared}{C B:Addr}{x:Str}{p pos:Pos}{e:Expr}{es:List Expr}{t:TA}{k j:Nat}{ps:List Str}{sp:Sp}{E:XK}
theorem Qb{Q:VK}{us:List Value}{vs:List V}{f:Addr}{a:FuncData}(b:fQ X.K C B)(hi:W.findIn X.K (.ref C) "__init__"=some (some (.ref f)))(m:W.isFn X.K (.ref f)=true)
    (F:iM X.prog X.w X.K X.mg X.base uV k f a ps sp) (n:dq (k+1) X.A) (p:Binds X.K a ps []) (u:Passes uV X E) (I:Inv X pins σ H s) (r:Vals vs us) (d:vs.length<=10)
    (h:∀a,H a=none->sp (.ref a::vs) (upd H a (XO a C none true)) (λv d=>v=.bx/\Q (.ref a) d) E):
    wpAny (model X.prog X.w) X.A (call (.ref C) us) (EP X pins σ Q) X.xe s:=by
  obtain⟨g,q,N,l,o,d,O,f,P,Q,R,S,T,U,x⟩:=b.ob;obtain⟨c,g,d,t,o⟩:=s;have b:H (c.objs.size+1)=none:=I.aU.fresh (Nat.le_succ _);have l:=h _ b;have f:us.length<=sizeLine:=by rw[<-r.length,sizeLine_eq];lia
  have q:((c.push {cls:=.type "tuple",data:=.seq us.toArray}).push
      {cls:=.ref C,data:=.fields #[.ref c.objs.size,.none,.none,.none,.bool false,.none]}).get? (c.objs.size + 1)=some
      {cls:=.ref C,data:=.fields #[.ref c.objs.size,.none,.none,.none,.bool false,.none]}:=by heap_get
  have j:Inv X pins σ (upd H (c.objs.size+1) (XO (c.objs.size+1) C none true)) ⟨(c.push {cls:=.type "tuple",data:=.seq us.toArray}).push {cls:=.ref C,data:=.fields #[.ref c.objs.size,.none,.none,.none,.bool false,.none]},g,d,t,o⟩:=
    I.laid (a:=c.objs.size+1) (λb o e=>J' _ (J' _ e)) (Nat.le_succ _) (GD q λ_=>rfl)
  have a:Vals (V.ref (c.objs.size+1)::vs) (Value.ref (c.objs.size+1)::us):=.cons rfl r;have b:((Value.ref (c.objs.size+1)::us)++[]).length=ps.length:=by
    rw[List.append_nil,<-a.length];exact F.len _ _ _ _ l
  have d:Vals (V.ref (c.objs.size+1)::vs) ((Value.ref (c.objs.size+1)::us)++[]):=by rw[List.append_nil];exact a
  calc Ak (h:=c) I.gh (I.gh _ _ x) hi (beq_iff_eq.mp m) ?_ f;refine wpAny_call (codeAny_mono (F.run _ X.stack _ _ ⟨Value.ref (c.objs.size+1)::us,[]⟩ ((Value.ref (c.objs.size+1)::us)++[]) _ _ E (n.make C us []) (j.FJ.make C us []) (p _ (Value.ref (c.objs.size+1)::us) j.gh b) d l) λr y i=>?_)
  cases r with
  |error e=>calc u pins σ _ _ e y j i
  |ok z=>
    cases z with
    |ret u=>
      obtain⟨v,D,G,J,L,M⟩:=j.after i;subst L;calc⟨J,⟨V.ref (c.objs.size+1),D,G,rfl,M⟩⟩
    |next=>calc Y' i
    |brk=>calc Y' i
    |cont=>calc Y' i
theorem BW(D:yk X.prog X.w X.K X.mg X.base x C B k ps sp)(b:dq j X.A)(c:PA X (e::es) t)(a:Gl X x:=by rfl)(d:k+1<=j:=by decide)(g:(x==("__debug__":Str))=false:=by decide)
  (i:cI e=true:=by rfl) (l:es.all cI=true:=by rfl):PE X (.Call (.Name x p) (e::es) [] pos) (tXI C sp E0 t):=by
 obtain⟨f,q,m,n,F,o⟩:=D.ex;walk_at "xc";refine aaU (iP I a D.mg ?_ g);refine W.callWith_K (h₀:=X.base) I.ok.mod.xt D.cl.kp (cD (c pos pins s σ H _ I h) λg u ⟨v,y,a,r,f,q⟩=>⟨a.gh,?_⟩) (cM i) (eg l);exact Qb D.cl m n F (b.mono d) o x6 a r f q
end
def tXF(K:W.Frag)(a:TE)(f:Str):TE:=λσ H Q=>a σ H λx b=>∃a C B c d v e,x=.ref a/\b a=some (XO a C (some c) e)/\b c=some (XD c d)/\fQ K C B/\bG K C f/\d.lookup f=some v/\Q v b
def aaV(K:W.Frag)(a b:TE)(f:Str):TS:=λD σ H=>b σ H λy d=>a σ d λx c=>∃a C B d,x=.ref a/\c a=some (XO a C none d)/\fQ K C B/\bG K C f/\
 ∀b,c b=none->D.nx σ (upd (upd c a (XO a C (some b) d)) b (XD b [(f,y)]))
section
variable {X:Cx}{o e value:Expr}{f:Str}{pos pos' Ky:Pos}{ta tv:TE}
theorem U7(b:PE X e ta)(d:attributeBase e f X.env (eval e X.env)=eval e X.env:=by rfl):PE X (.Attribute e f pos) (tXF X.K ta f):=by
 walk_at "xc";refine Bx d (cD (b pins s σ H _ I h) λu r g=>?_);obtain⟨x,i,j,k,a,C,B,b,d,v,r,m,o,p,c,n,l,q⟩:=g;subst m;obtain rfl:u=Value.ref a:=k;exact yf j o p c n l λd g a b=>⟨v,i,a,b,q⟩
theorem Hd(b:PE X o ta)(d:PE X value tv)(e:swapsWith value (some (.Attribute o f pos')) pos.line X.env=pure false:=by rfl):PS X (.Assign [.Attribute o f pos'] value pos) (aaV X.K ta tv f):=by
 walk_at "xd";refine plainObj_wpAny_Assign_Attribute (cD (d pins s σ H _ I h) λu g ⟨y,i,j,k,q⟩=>cD (b pins g σ i _ j q) λl d m=>?_) e;obtain⟨x,b,p,r,a,C,B,d,t,v,c,n,w⟩:=m;subst t;obtain rfl:l=Value.ref a:=r;exact wu p v c n k λa e b d=>⟨σ,_,d,w a b⟩
end
def vc:V->Value
 | .ref a=>.ref a
 | .ty n=>.type n
 |_=>.none
def U8(K:W.Frag):List V->Hp->VK->Prop:=λxs H Q=>∃a C B d c b f,xs=[.ref a,c]/\H a=some (XO a C d f)/\(∀e,d=some e->∃g,H e=some (XD e g))/\fQ K C B/\(c=.ref (match c with | .ref z=>z|_=>0)\/∃n,c=.ty n)/\W.kitOne K (.ref C) (vc c)=some b/\Q (.bl b) H
theorem He{X:Cx}:eR X (.builtin "isinstance") (U8 X.K):=by
 intro i s σ H w j Q I r h;obtain⟨a,C,B,d,c,b,x,rfl,l,m,o,e,k,q⟩:=h;obtain⟨u,g,rfl,n,p⟩:∃u g,j=u::g/\RelV (.ref a) u/\Vals [c] g:=by cases r with|cons a b=>exact⟨_,_,rfl,a,b⟩
 obtain⟨t,rfl,f⟩:=p.one
 cases(show u=Value.ref a from n);have v:t=vc c:=by
  rcases e with e|⟨n,e⟩
  ·rw[e]at f ⊢;exact f
  ·rw[e]at f ⊢;exact f
 subst v;calc Ao I l m o k λa=>⟨.bl b,H,I.tok _,rfl,q⟩
end L2
set_option maxHeartbeats 4000000
namespace L2
open PySem PySem.Spec PyProof.Rows
variable {a:Addr}{g:Bool->Bool}{H:Hp}{ix:List (Option Nat)}{zA:List (TE×TE)}{σ:St}{te:TE}{wi:TI}{tt:TT}{Q:VK}{K:W.Frag}
section
variable {X:Cx}{K:W.Frag}
theorem pf(a:X.K=K):eR X (.builtin "isinstance") (K4 K):=a▸ei
theorem rM(a:X.K=K):eR X (.builtin "len") (PM K):=a▸aQ
theorem nR(a:X.K=K):eR X (.type "tuple") (we K):=a▸cH
theorem K9(a:X.K=K)(b:X.A.units+64<cLine):fJ X (compareOp .Eq) (PF K):=a▸Gj b
theorem La(a:X.K=K)(b:X.A.units+64<cLine):fJ X (compareOp .NotEq) (PH K):=a▸Gk b
theorem dG{a b:Expr}{d e:TE}{c:Pos}(f:X.K=K)(g:X.A.units+64<cLine)(i:PE X a d)(j:PE X b e)(h:wt b=true:=by rfl):PE X (.Subscript a b c) (Fx (PK K) d e):=f▸ak g i j h
theorem Lb{e:Expr}{b:TE}{f:Str}{a:Pos}(c:X.K=K)(d:PE X e b)(g:attributeBase e f X.env (eval e X.env)=eval e X.env):PE X (.Attribute e f a) (Kx K b f):=c▸bL d g
theorem lV{i j:Nat}{x y:Str}{b c a:Pos}{k:Nat}(d:X.K=K)(e:X.calm=true)(f:X.N.Nodup)(hi:X.N[i]?=some x)(g:X.N[j]?=some y)(h:Loc X.env.scope x)(l:Loc X.env.scope y)
  (m:X.fn x=true\/X.env.scope.names.lookup x=some .local:=by grind) (n:X.fn y=true\/X.env.scope.names.lookup y=some .local:=by grind):
  PG X (.Tuple [.Name x b,.Name y c] k a) (Fo K 2 (me (fL i) (me (fL j) Fm))):=d▸fm e f hi g h l m n
end
inductive U9{α:Sort _}(x:α):Type
 |mk
def aaW(ix:List (Option Nat))(wi:TI)(g:TG)(tt:TT)(te:TE)(_:U9 (ix,wi,g,tt,te)):TE:=UG ix wi g tt te
theorem BX{g:TG}:UG ix wi g tt te=aaW ix wi g tt te .mk:=rfl
def Va(wi:TI)(g:TG)(a:TS)(_:U9 (wi,g,a)):TS:=O1 wi g a
theorem yl{g:TG}{a:TS}:O1 wi g a=Va wi g a .mk:=rfl
def Lc(a:TT)(b:TS)(_:U9 (a,b)):TS:=vR a b
theorem rN{a:TT}{b:TS}:vR a b=Lc a b .mk:=rfl
theorem bV{g:TG}(h:wi σ H λJ a=>∀D,a D=none->kI ix J g tt te σ a Q D):UG ix wi g tt te σ H Q:=h
def Ld(ix:List (Option Nat))(J:It)(g:TG)(tt:TT)(te:TE)(σ:St)(H:Hp)(Q:VK)(D:Addr)(_:U9 (ix,J,g,tt,te,σ,H,Q,D)):Prop:=kI ix J g tt te σ H Q D
theorem rO{J:It}{g:TG}{D:Addr}:kI ix J g tt te σ H Q D=Ld ix J g tt te σ H Q D .mk:=rfl
theorem rP:Sf g (.ref a) .bx H Q=Q (.bl (g false)) H:=by
 show Q (.bl (g (decide (V.ref a=.bx)))) H=_;simp
theorem Av:Sf g .bx .bx H Q=Q (.bl (g true)) H:=by
 show Q (.bl (g (decide (V.bx=.bx)))) H=_;simp
theorem aq.Si{b:Hp}(s:aq H b){a:Addr}{xs:List V}(h:bH K H a xs):bH K b a xs:=by
 rcases h with(h|⟨o,h⟩)|h
 ·exact .inl (.inl (s _ _ h))
 ·exact .inl (.inr ⟨o,s _ _ h⟩)
 ·calc .inr h
theorem jE{α:Type}(x:α)(n:Nat):List.replicate n x++[x]=List.replicate (n+1) x:=by
 rw[List.replicate_succ',]
theorem ph(n:Nat):List.replicate n (V.bl true)=(List.replicate n true).map V.bl:=by simp
theorem cN{xs:List V}{i:Int}{v:V}{P:V->Prop}(h:H a=some (.tup xs))(e:iQ xs i=some v)(k:P v):∃xs v,(aS K H a xs\/bH K H a xs)/\iQ xs i=some v/\P v:=⟨xs,v,.inr (bH.of h),e,k⟩
theorem bF{xs:List V}{i:Int}{v:V}{P:V->Prop}(h:H a=some (.lst xs))(e:iQ xs i=some v)(k:P v):∃xs v,(aS K H a xs\/bH K H a xs)/\iQ xs i=some v/\P v:=⟨xs,v,.inl (aS.of h),e,k⟩
def Qd(zA:List (TE×TE))(_:U9 zA):TE:=BK zA
theorem u5:BK zA=Qd zA .mk:=rfl
theorem Le(h:∀p,H p=none->o8 zA σ (upd H p (.dK [])) λd b=>b p=some (.dK [])/\∃a:List (Key×V),d=a.map (λc=>(kV c.1,c.2))/\a.length<=15/\Q (.ref p) (upd b p (.dK (mr [] a)))):BK zA σ H Q:=h
end L2
set_option maxHeartbeats 400000
namespace L2
open PySem PySem.Spec PyProof.Rows
section
section
variable {X:Cx}{K:W.Frag}
theorem Hf{e:Expr}{b:TE}{f:Str}{a:Pos}(c:X.K=K)(d:PE X e b)(g:attributeBase e f X.env (eval e X.env)=eval e X.env:=by rfl):PE X (.Attribute e f a) (tXF K b f):=c▸U7 d g
theorem DG(a:X.K=K):eR X (.builtin "isinstance") (U8 K):=a▸He
end
end
section
variable {L:Addr}{outer:List Env}
def qy(h:Heap)(e:Addr)(T:Option Addr)(d:Value):Prop:=
 ∃a vs,h.get? e=some a/\a.data=.fields vs/\((T=none/\vs[1]?=some .none)\/∃t b c,T=some t/\t≠e/\vs[1]?=some (.ref t)/\h.get? t=some b/\b.data=.fields c/\c[3]?=some d)
structure Chg(S:List Addr)(e:Addr)(T:Option Addr)(h h':Heap):Prop where
 keep:∀b o,b≠e->T≠some b->b∉S->h.get? b=some o->h'.get? b=some o
 slot:∀b o,b≠e->T≠some b->h.get? b=some o->∃sl,h'.get? b=some {o with slots:=sl}
 Vb:∀o vs,h.get? e=some o->o.data=.fields vs->∃M6,h'.get? e=some {o with data:=.fields M6}
 aaY:∀t o,T=some t->h.get? t=some o->∃o',h'.get? t=some o'
 size:h.objs.size<=h'.objs.size
theorem rQ{o:Obj}{vs:Array Value}{f:Array Value->Array Value}(a:o.data=.fields vs):o.mapFields f={o with data:=.fields (f vs)}:=by
 obtain⟨c,d,b,e⟩:=o
 cases a;rfl
section
variable {M:Model}{A:Around}{E:Value->Shared->Prop}{s:Shared}
theorem entry_at{base:Heap}{env:Env}{e:Addr}{i:Obj}{vs:Array Value}{d:Value}{y:Bool}{Q:Unit->Shared->Prop}
  (z:A.frames=some (env::outer)) (u:s.heap.FunFrames base (env::outer)) (B:env.frame=some L)
  (q:s.heap.get? e=some i) (n:i.data=.fields vs) (hsz:1<vs.size)
  (h:∀h' t,s.heap.objs.size<=t->Chg (xu (env::outer)) e none s.heap h'->qy h' e (some t) (rawInt L)->Q ⟨⟩ {s with heap:=h'}):
  wpAny M A (do let a <-frameOf env;let pl <-entryPlaceOf L y;let b <-EntryCells.newEntry d a .none (rawInt L) .none pl;setField (.ref e) 1 b) Q E s:=by
 have r:e∉(env::outer).filterMap (·.frame):=λC=>by
  obtain⟨_,o,g,F⟩:=u.mem C;rw[q]at g;injection g with g;subst g;exact F vs n
 calc j' (wpAny_frameOf_fun z u B λc p=>?_);calc j' (wpAny_entryPlaceOf λpl v=>?_);unfold EntryCells.newEntry newFields;calc j' (aaO ?_ (v.sizeOk5 _ _ _ _ _));have g:c.get? e=some i:=(p.2.1 e r).trans q;have i:=J' (h:=c) {cls:=.type "traceback",dict:=none,data:=.fields ([d,.ref L,.none,rawInt L,.none]++(if pl.isEmpty then List.replicate 6 Value.none else pl)).toArray} g;have w:c.objs.size≠e:=Nat.ne_of_gt (S' g);have j:=Obj.data_mapFields n (·.setIfInBounds 1 (Value.ref c.objs.size));have k:=aa2 (Obj.mapFields (·.setIfInBounds 1 (Value.ref c.objs.size))) i (Obj.isFreed_of_fields j);have l:=(Heap.get?_update_other (c.push {cls:=.type "traceback",dict:=none,data:=.fields ([d,.ref L,.none,rawInt L,.none]++(if pl.isEmpty then List.replicate 6 Value.none else pl)).toArray})
  (Obj.mapFields (·.setIfInBounds 1 (Value.ref c.objs.size))) (Ne.symm w)).trans (V' c rfl)
 have g:∀b o,b≠e->c.get? b=some o->
   ((c.push {cls:=.type "traceback",dict:=none,data:=.fields ([d,.ref L,.none,rawInt L,.none]++(if pl.isEmpty then List.replicate 6 Value.none else pl)).toArray}).update e (Obj.mapFields (·.setIfInBounds 1 (Value.ref c.objs.size)))).get? b=some o:=
  λb o e d=>by
   rw[Heap.get?_update_other _ _ (Ne.symm e)];exact J' _ d
 refine wpAny_setField i n hsz (h _ c.objs.size (by rw[p.1];calc K' _) ⟨λb o d _ e m=>g b o d ((p.2.1 b e).trans m),λb o d _ m=>?_,λo e m x=>?_,λt o z _=>(nomatch z),?_⟩ ?_)
 ·obtain⟨e,i⟩:=p.2.2 b o m;exact⟨e,g b _ d i⟩
 ·rw[q] at m
  cases m;rw[n]at x
  cases x;exact⟨_,by rw[k,rQ n]⟩
 ·rw[Heap.size_update,Heap.size_push,p.1];exact Nat.le_succ _
 ·calc⟨_,_,k,j,.inr ⟨c.objs.size,_,_,rfl,w,by simp[hsz],l,rfl,by first|(simp;done)|(rcases v with rfl|⟨_,_,_,_,_,_,_,rfl⟩<;>simp)⟩⟩
theorem Lg{base:Heap}{env:Env}{e:Addr}{T:Option Addr}{Q:Unit->Shared->Prop}
  (u:A.frames=some (env::outer)) (v:s.heap.FunFrames base (env::outer)) (m:env.frame=some L) (n:qy s.heap e T .none)
  (h:∀h' t,s.heap.objs.size<=t->Chg (xu (env::outer)) e T s.heap h'->qy h' e (some t) (rawInt L)->Q ⟨⟩ {s with heap:=h'}):wpAny M A (noteFrame (.ref e) env) Q E s:=by
 obtain⟨w,vs,j,g,n⟩:=n;unfold noteFrame;simp only[m];rcases n with⟨rfl,i⟩|⟨t,C,x,rfl,p,i,k,l,w⟩
 ·calc j' (aaj j g i ?_);rw[if_neg ∅];exact entry_at u v m j g (Array.getElem?_eq_some_iff.mp i).1 h
 ·calc j' (aaj j g i ?_);rw[if_pos (show(Value.ref t !=Value.none)=true from by simp)];calc j' (aaj k l w ?_);rw[if_neg (show ¬((Value.none==rawInt L)=true) from by simp[rawInt])];calc j' (wpAny_setField k l (Array.getElem?_eq_some_iff.mp w).1 ?_);have a:∀b,b≠t->(s.heap.update t (Obj.mapFields (·.setIfInBounds 3 Value.none))).get? b=s.heap.get? b:=λb d=>Heap.get?_update_other _ _ (Ne.symm d);have y:∀b o,s.heap.get? b=some o->(∀vs,o.data≠.fields vs)->b≠t:=λb o d r q=>by
   rw[q,k]at d;injection d with d;subst d;exact r x l
  have B:=aa2 (Obj.mapFields (·.setIfInBounds 3 Value.none)) k (Obj.isFreed_of_fields (Obj.data_mapFields l _));refine entry_at u (v.of_keeps λb o d r=>⟨o,(a b (y b o d r)).trans d,rfl⟩) m ((a e (Ne.symm p)).trans j) g (Array.getElem?_eq_some_iff.mp i).1 λh' k l c n=>h h' k ?_ ?_ n
  ·have:=l;rw[Heap.size_update]at this;exact this
  ·refine⟨λb o d j k i=>c.keep b o d (λz=>nomatch z) k ((a b (λz=>j (by rw[z]))).trans i),λb o d j i=>c.slot b o d (λz=>nomatch z) ((a b (λz=>j (by rw[z]))).trans i),λo vs i g=>c.Vb o vs ((a e (Ne.symm p)).trans i) g,λb o z i=>?_,?_⟩
   ·cases z;obtain⟨a,q⟩:=c.slot t _ p (λz=>nomatch z) B;exact⟨_,q⟩
   ·have:=c.size;rw[Heap.size_update]at this;calc this
theorem DH{e t:Addr}{d:Value}{Q:Unit->Shared->Prop}(a:qy s.heap e (some t) d)
  (h:∀h',(∀b o,b≠t->s.heap.get? b=some o->h'.get? b=some o)->h'.objs.size=s.heap.objs.size->qy h' e (some t) .none->Q ⟨⟩ {s with heap:=h'}):wpAny M A (setFlight (.ref e) none) Q E s:=by
 obtain⟨n,vs,g,i,a⟩:=a;rcases a with⟨z,_⟩|⟨d,m,p,z,j,k,l,c,q⟩
 ·cases z
 cases z;have m:3<p.size:=(Array.getElem?_eq_some_iff.mp q).1;unfold setFlight;calc j' (aaj g i k ?_);rw[if_pos (show(Value.ref t !=Value.none)=true from by simp)];have a:∀b,b≠t->(s.heap.update t (Obj.mapFields (·.setIfInBounds 3 ((none:Option Addr).elim Value.none λf=>rawInt f)))).get? b=s.heap.get? b:=
  λb d=>Heap.get?_update_other _ _ (Ne.symm d)
 calc wpAny_setField l c m (h _ (λb o d p=>(a b d).trans p) (Heap.size_update ..) ?_);calc⟨n,vs,(a e (Ne.symm j)).trans g,i,.inr ⟨t,_,_,rfl,j,k,aa2 _ l (Obj.isFreed_of_fields (Obj.data_mapFields c _)),Obj.data_mapFields c _,by simp[m]⟩⟩
end
section
variable {X:Cx}{pins:List (Addr×Obj)}{σ:St}{H:Hp}{s:Shared}{e C:Addr}{d:Option Addr}{fl:Bool}{T:Option Addr}{h':Heap}
def ym(X:Cx)(pins:List (Addr×Obj))(H:Hp)(t:Addr):Prop:=H t=none/\X.s₀.heap.objs.size<=t/\t≠X.env.locals/\(∀x c,X.env.cells.lookup x=some c->c≠t)/\∀p∈X.pn++pins,p.1≠t
theorem Inv.Vg(I:Inv X pins σ H s){t:Addr}(h:s.heap.objs.size<=t):ym X pins H t:=by
 refine⟨I.aU.fresh h,aae I.sz h,Nat.ne_of_gt (R' I.lt h),λx c a=>?_,λp b=>?_⟩
 ·obtain⟨v,o,d⟩:=I.cell x c a;exact X' (R' (S' d.1) h)
 ·calc X' (R' (S' (I.pin p b).1) h)
theorem Inv.chg(I:Inv X pins σ H s)(a:H e=some (XO e C d fl))(c:Chg (xu X.stack) e T s.heap h')(r:∀t,T=some t->ym X pins H t):Inv X pins σ (upd H e (XO e C d false)) {s with heap:=h'}:=by
 obtain⟨y,n,k,_⟩:=rG I a;obtain⟨y,v⟩:=c.Vb _ _ k rfl;have w:∀b u,H b=some u->T≠some b:=λb u q z=>by rw[(r b z).1]at q;cases q
 have x:∀b o,s.heap.get? b=some o->∃k,h'.get? b=some k:=λb o g=>by
  by_cases z:b=e
  ·subst z;exact⟨_,v⟩
  ·by_cases k:T=some b
   ·exact c.aaY b o k g
   ·obtain⟨n,q⟩:=c.slot b o z k g;exact⟨_,q⟩
 have j:∀b,H b=none->b≠e:=λb q z=>by rw[z,a]at q;cases q
 refine I.call (g':=s.gens) (t':=s.toks) (d':=s.drawn) (ch:=T.toList) ⟨λb o g n y k=>c.keep b o (j b n) (λz=>k (by simp[z])) y g,λb o g n _ k=>c.slot b o (j b n) (λz=>k (by simp[z])) g,λb o _ n _=>by rw[ay (j b n)];calc n,λb o g _=>x b o g,λb A q=>?_,λb o u q=>?_,λb j q=>?_⟩ (λb u q=>?_) I.bare (λb l=>?_)
 ·rw[ay (λz=>by rw[z,a]at q;cases q)];exact q
 ·rw[ay (λz=>by rw[z,a]at q;cases q)];exact q
 ·rw[ay (λz=>by rw[z,a]at q;cases q)];exact⟨#[],by simp[q]⟩
 ·by_cases z:b=e
  ·subst z;rw[af] at q
   cases q;exact GD v (λz=>nomatch z)
  ·rw[ay z] at q;refine(I.aU b u q).aG (λi B f g=>?_) (λi h=>?_) (λi A h=>?_)
   ·have m:i≠e/\T≠some i/\i∉xu X.stack:=by
     rcases f with rfl|f
     ·exact⟨z,w _ _ q,λp=>by rw[I.qJ _ p]at q;cases q⟩
     ·exact⟨(λz=>by rw[z,a]at f;cases f),w _ _ f,(λp=>by rw[I.qJ _ p]at f;cases f)⟩
    exact c.keep i B m.1 m.2.1 m.2.2 g
   ·rw[ay (λz=>by rw[z,a]at h;cases h)];exact h
   ·rw[ay (λz=>by rw[z,a]at h;cases h)];exact h
 ·have e:T=some b:=by
   cases T with
   |none=>simp at l
   |some t=>simp at l;rw[l]
  obtain⟨h,a,c,f,g⟩:=r b e;calc⟨.inr a,c,f,g⟩
theorem Inv.aa0(I:Inv X pins σ H s){t:Addr}(o:ym X pins H t)(k:∀b o,b≠t->s.heap.get? b=some o->h'.get? b=some o):Inv X pins σ H {s with heap:=h'}:=
 I.turned (t':=s.toks) k o.1 o.2.2.1 (.inr o.2.1) o.2.2.2.1 o.2.2.2.2
end
def qO(P:Program)(w:World):FI:=λouter H s E e s'=>∃a C d b t,e=.ref a/\s'.os=s.os/\AllBare s'.gens/\Un (xu outer) [] H b s.heap s'.heap/\l9 P w b s'.heap/\b a=some (XO a C d false)/\
 qy s'.heap a (some t) .none/\b t=none/\s.heap.objs.size<=t/\E e none b
section
variable {X:Cx}{pins:List (Addr×Obj)}{σ:St}{H:Hp}{s:Shared}{a C:Addr}{d:Option Addr}{fl:Bool}{T:Option Addr}{h':Heap}{E:XK}{E1:Value->Shared->Prop}
theorem yn{Q:Unit->Shared->Prop}(b:X.stack=X.env::outer)(i:X.env.frame=some L)(I:Inv X pins σ H s)(f:H a=some (XO a C d fl))(j:qy s.heap a T .none)(k:∀t,T=some t->ym X pins H t)
  (h:∀h' t,Inv X pins σ (upd H a (XO a C d false)) {s with heap:=h'}->qy h' a (some t) (rawInt L)->ym X pins (upd H a (XO a C d false)) t->s.heap.objs.size<=t->Q ⟨⟩ {s with heap:=h'}):wpAny (model X.prog X.w) X.A (noteFrame (.ref a) X.env) Q E1 s:=by
 have e:X.A.frames=some (X.env::outer):=by rw[<-b];exact I.ok.frames
 have l:s.heap.FunFrames X.base (X.env::outer):=by rw[<-b];exact I.stack
 calc Lg e l i j λh' t g c m=>?_;rw[<-b]at c;have e:=I.chg f c k;have o:=I.Vg g;calc h h' t e m ⟨?_,o.2⟩ g;rw[ay (λz=>by have:=o.1;rw[z,f]at this;cases this)];calc o.1
theorem rR{t:Addr}{b:Value}{Q:Unit->Shared->Prop}{A:Around}(I:Inv X pins σ H s)(c:qy s.heap a (some t) b)(o:ym X pins H t)
  (h:∀h',Inv X pins σ H {s with heap:=h'}->qy h' a (some t) .none->Q ⟨⟩ {s with heap:=h'}):wpAny (model X.prog X.w) A (setFlight (.ref a) none) Q E1 s:=
 DH c λh' k _ b=>h h' (I.aa0 o k) b
theorem yo(b:X.stack=X.env::outer)(g:X.outer=outer)(e:X.ex=[])(c:X.env.frame=some L)(I:Inv X pins σ H s)(f:H a=some (XO a C d fl))(h:qy s.heap a T .none)(i:∀t,T=some t->ym X pins H t)
  (j:E (.ref a) none (upd H a (XO a C d false))):wpAny (model X.prog X.w) X.A (leaving X.env (.ref a)) (λ_ k=>qO X.prog X.w outer X.H₀ X.s₀ E (.ref a) k) E1 s:=by
 unfold leaving;calc j' (yn b c I f h i λk t l m o n=>?_);calc rR (s:={s with heap:=k}) l m o λb c f=>?_;have b:=c.base;rw[e,Cx.fs,g]at b;calc⟨a,C,d,_,t,rfl,c.os,c.bare,b,c.aU,af,f,o.1,aae I.sz n,j⟩
end
def Throws(X:Cx)(E:XK):Prop:=∀(pins:List (Addr×Obj)) (σ:St) (H:Hp) (s:Shared) (a C:Addr) (d:Option Addr),Inv X pins σ H s->H a=some (XO a C d true)->E (.ref a) none (upd H a (XO a C d false))->X.xe (.ref a) s
theorem Hi{H:Hp}{a:Addr}{o:HO}(h:H a=some o):upd H a o=H:=by
 funext b;by_cases z:b=a
 ·subst z;rw[af];exact h.symm
 ·calc ay z
section
variable {P:Program}{w:World}{K:W.Frag}{mg:Str->Option Value}{base:Heap}{N:List Str}{qual:Str}{scope:Scope}{f:Addr}{cd:Value}{A:Around}{outer:List Env}{s:Shared}{H:Hp}{E:XK}
theorem qP:Throws (gV (qO P w) P w K mg base N qual scope f cd A outer s H E) E:=by
 intro b σ j k a C d I c e;obtain⟨g,l,h,i⟩:=rG I c;calc yo (X:=gV (qO P w) P w K mg base N qual scope f cd A outer s H E) (T:=none) rfl rfl rfl rfl I c ⟨_,g,h,rfl,.inl ⟨rfl,i rfl⟩⟩ (λt z=>nomatch z) e
theorem Inv.thrown{X:Cx}{pins:List (Addr×Obj)}{σ:St}{H:Hp}{s s':Shared}{e:Value}(I:Inv X pins σ H s)(h:qO X.prog X.w X.stack H s E e s'):
  ∃a C d c t,e=.ref a/\Inv X pins σ c s'/\c a=some (XO a C d false)/\qy s'.heap a (some t) .none/\ym X pins c t/\E e none c:=by
 obtain⟨a,C,d,c,t,rfl,f,e,g,i,j,k,l,m,q⟩:=h;have n:Inv X pins σ c s':=I.ML (ch:=[]) f g i e λb z=>absurd z nofun;calc⟨a,C,d,c,t,rfl,n,j,k,⟨l,(I.Vg m).2⟩,q⟩
theorem jS:Passes (qO P w) (gV (qO P w) P w K mg base N qual scope f cd A outer s H E) E:=by
 intro b σ j k e l I h;obtain⟨a,C,d,m,t,rfl,g,c,i,o,q⟩:=I.thrown h;calc yo (X:=gV (qO P w) P w K mg base N qual scope f cd A outer s H E) (T:=some t) rfl rfl rfl rfl g c i (λa z=>by cases z;calc o) (by rw[Hi c];calc q)
theorem Vh:PassesOwn (model P w) (gV (qO P w) P w K mg base N qual scope f cd A outer s H E).A (gV (qO P w) P w K mg base N qual scope f cd A outer s H E).env (gV (qO P w) P w K mg base N qual scope f cd A outer s H E).xe:=PassesOwn.leaving
end
end
section
section
variable {M:Model}{A:Around}{E:Value->Shared->Prop}{env:Env}{K:W.Frag}
theorem DI{s:Shared}{x:Sem Value}{Q:Flow->Shared->Prop}(f:A.handled=none)
  (h:wpAny M A x (λv a=>∃e C B d vs c,v=.ref e/\K.In a.heap/\fQ K C B/\a.heap.get? e=some (⟨.ref C,d,.fields vs,c⟩:Obj)/\vs[1]?=some .none/\E (.ref e) a) E s):
  wpAny M A (raiseStmt env (some x) none) Q E s:=by
 unfold raiseStmt;calc j' (aag h (λv a b=>?_) λ_ _ x=>x);obtain⟨e,C,B,d,vs,c,rfl,g,h,i,j,k⟩:=b;obtain⟨l,q,N,m,n,c,o,d,p,r,s,t,u,v,e⟩:=h.ob;have b:=g _ _ e;have c:(Value.ref C::.ref B::qN).contains (.type "BaseException")=true:=rfl;obtain⟨d,g,e,h,l⟩:=a
 repeat (first|with_reducible calc aaA i ?_|with_reducible calc aaA b ?_|(with_reducible calc aa5 b ?_;rw[c])|wp_step)
 rw[j];calc P' ?_;rw[if_neg ∅];calc P' ?_;calc wpAny_raiseNew_none f k
end
def Aw(K:W.Frag)(E:XK)(a:TE):TS:=λ_ σ H=>a σ H λx b=>∃a C B d,x=.ref a/\b a=some (XO a C d true)/\fQ K C B/\E (.ref a) none (upd b a (XO a C d false))
section
variable {X:Cx}{E:XK}{e:Expr}{te:TE}{pos:Pos}
theorem nS(f:X.calm=true)(g:Throws X E)(i:PE X e te):PS X (.Raise (some e) none pos) (Aw X.K E te):=by
 walk_at "xd";rw[arm_exec_Raise];refine j' (wpAny_standAt ?_);show wpAny _ _ (raiseStmt X.env (some (do let v <-eval e X.env;standAt pos;pure v)) none) _ _ _;refine DI (K:=X.K) (I.ok.hd f) (j' (cD (i pins s σ H _ I h) λv j ⟨x,k,b,l,a,C,B,d,m,c,n,q⟩=>j' (wpAny_standAt (P' ?_))));subst m;obtain rfl:v=Value.ref a:=l;obtain⟨f,i,m,o⟩:=rG b c;exact⟨a,C,B,d,f,i,rfl,b.gh,n,m,o rfl,g pins σ k j a C d b c q⟩
end
section
variable {P:Program}{w:World}{K:W.Frag}{mg:Str->Option Value}{base:Heap}
theorem EI.ES{x a:Str}{b:Stmt}{f:Addr}{g:FuncData}{N d:List Str}{k:Nat}{sp:Sp}(F:EI K x a b f g)(S:aD N d (az b))(e:∀vs H Q E,sp vs H Q E->vs.length=d.length)
  (h:∀(c:Value) (A:Around) (outer:List Env) (s:Shared) (H:Hp) (vs:List V) (Q:VK) (E:XK),dq k (A.deeper (envOfC a (az b) s.heap.objs.size f c))->sp vs H Q E->
   ∃t,qr (gV (qO P w) P w K mg base N a (az b) f c A outer s H E) (cj b) t/\t {nx:=λ_ a=>Q .bx a,rt:=Q} (start N vs) H):iM P w K mg base (qO P w) (k + 1) f g d sp:=by
 obtain⟨j,l,kV,i,m,n,c,o,p,rfl,a,b⟩:=F.ex;calc MO a b S e λA outer s H vs Q E d f=>h c A outer s H vs Q E d f
structure DefX(P:Program)(w:World)(K:W.Frag)(mg:Str->Option Value)(base:Heap)(x:Str)(k:Nat)(ps:List Str)(sp:Sp):Prop where
 ex:∃f fd,iM P w K mg base (qO P w) k f fd ps sp/\mg x=some (.ref f)/\W.keepIn K (.ref f)=true/\Binds K fd ps []
structure fS(P:Program)(w:World)(K:W.Frag)(mg:Str->Option Value)(base:Heap)(C:Addr)(m:Str)(k:Nat)(ps:List Str)(sp:Sp):Prop where
 ex:∃f fd,Meth K C m f/\iM P w K mg base (qO P w) k f fd ps sp/\Binds K fd ps []
theorem dj.ES{x a:Str}{b:Stmt}{N c:List Str}{k:Nat}{sp:Sp}(T:dj K mg x a b c)(S:aD N c (az b))(d:∀vs H Q E,sp vs H Q E->vs.length=c.length)
  (g:∀(f:Addr) (e:Value) (A:Around) (outer:List Env) (s:Shared) (H:Hp) (vs:List V) (Q:VK) (E:XK),dq k (A.deeper (envOfC a (az b) s.heap.objs.size f e))->sp vs H Q E->
   ∃t,qr (gV (qO P w) P w K mg base N a (az b) f e A outer s H E) (cj b) t/\t {nx:=λ_ a=>Q .bx a,rt:=Q} (start N vs) H):DefX P w K mg base x (k + 1) c sp:=by
 obtain⟨f,a,F,b,c⟩:=T.ex;calc⟨f,a,F.ES S d (g f),b,F.kp,c⟩
end
section
variable {X:Cx}{o e:Expr}{es:List Expr}{to:TE}{t:TA}{apos p pos:Pos}{C:Addr}{m x:Str}{k j:Nat}{ps:List Str}{sp:Sp}{E:XK}
theorem Ax(D:DefX X.prog X.w X.K X.mg X.base x k ps sp)(a:Passes (qO X.prog X.w) X E)(b:dq j X.A)(c:PA X (e::es) t)(d:Gl X x:=by rfl)(g:k<=j:=by decide)
  (h:(x==("__debug__":Str))=false:=by decide) (i:cI e=true:=by rfl) (l:es.all cI=true:=by rfl):PE X (.Call (.Name x p) (e::es) [] pos) (qk sp [] E t):=by
 obtain⟨f,q,F,m,n,o⟩:=D.ex;calc Bz F (b.mono g) d m n o .nil a c h (cM i) (eg l)
end
structure Sj(X:Cx)(e:Expr)(t:XK->TE):Prop where
 out:∀(pins:List (Addr×Obj)) (s:Shared) (σ:St) (H:Hp) (Q:VK) (E:XK) (xe:Value->Shared->Prop),(∀H1 s1 x s',Inv X pins σ H1 s1->qO X.prog X.w X.stack H1 s1 E x s'->xe x s')->Inv X pins σ H s->t E σ H Q->
  wpAny (model X.prog X.w) X.A (eval e X.env) (EP X pins σ Q) xe s
section
variable {X:Cx}{k j:Nat}{f C:Addr}{fd:FuncData}{ps:List Str}{sp:Sp}{E:XK}{x m:Str}{p pos apos:Pos}{e o:Expr}{es:List Expr}{ta:TE}{t:TA}
theorem PA.any{xe:Value->Shared->Prop}(a:PA X.xy es t){pins:List (Addr×Obj)}{s:Shared}{σ:St}{H:Hp}{Q:List V->Hp->Prop}(I:Inv X pins σ H s)(h:t σ H Q)(pos:Pos):
  wpAny (model X.prog X.w) X.A (spliced (backTo pos (starEach es X.env))) (AP X pins σ Q) xe s:=
 aag (a.out pos pins s σ H Q (I.nC _) h) (λ_ _ ⟨b,c,d,r,q⟩=>⟨b,c,d.gi,r,q⟩) λ_ _ z=>Y' z
theorem BY{pins:List (Addr×Obj)}{σ:St}{H:Hp}{s:Shared}{Q:VK}{us:List Value}{vs:List V}{xe:Value->Shared->Prop}(F:iM X.prog X.w X.K X.mg X.base (qO X.prog X.w) k f fd ps sp)(d:dq k X.A)(g:Binds X.K fd ps [])
  (i:∀b c x s',Inv X pins σ b c->qO X.prog X.w X.stack b c E x s'->xe x s') (I:Inv X pins σ H s) (r:Vals vs us) (h:sp vs H Q E):wpAny (model X.prog X.w) X.A (call (.ref f) us) (EP X pins σ Q) xe s:=by
 have b:(us++[]).length=ps.length:=by rw[List.append_nil,<-r.length];exact F.len _ _ _ _ h
 have c:Vals vs (us++[]):=by rw[List.append_nil];exact r
 refine wpAny_call (codeAny_mono (F.run X.A X.stack s H ⟨us,[]⟩ (us++[]) vs Q E d I.FJ (g s us I.gh b) c h) λr s' a=>?_)
 cases r with
 |error e=>calc i H s e s' I a
 |ok j=>
  cases j with
  |ret u=>calc I.after a
  |next=>calc Y' a
  |brk=>calc Y' a
  |cont=>calc Y' a
theorem Qe(D:DefX X.prog X.w X.K X.mg X.base x k ps sp)(b:dq j X.A)(c:PA X.xy (e::es) t)(d:Gl X x:=by rfl)(g:k<=j:=by decide)(i:(x==("__debug__":Str))=false:=by decide)
  (l:cI e=true:=by rfl) (m:es.all cI=true:=by rfl):Sj X (.Call (.Name x p) (e::es) [] pos) (λE=>qk sp [] E t):=by
 obtain⟨f,fd,F,n,o,u⟩:=D.ex;calc⟨λa s σ H Q E q v I h=>?_⟩;calc aaU (iP I d n ?_ i);calc W.callWith_K (h₀:=X.base) I.ok.mod.xt o (cD (c.any I h pos) λd i ⟨n,s,a,r,q⟩=>⟨a.gh,?_⟩) (cM l) (eg m);calc BY F (b.mono g) u v a r (by have:=q;simp only[List.append_nil]at this;calc this)
end
structure Vi(X:Cx)(st:Stmt)(t:XK->TS):Prop where
 out:∀(pins:List (Addr×Obj)) (s:Shared) (σ:St) (H:Hp) (D:Ends) (E:XK) (xe:Value->Shared->Prop),(∀H1 s1 x s',Inv X pins σ H1 s1->qO X.prog X.w X.stack H1 s1 E x s'->xe x s')->Inv X pins σ H s->t E D σ H->
  wpAny (model X.prog X.w) X.A (exec st X.env) (SP X pins D) xe s
section
variable {X:Cx}{e:Expr}{t:XK->TE}{pos pos':Pos}{x:Str}{i:Nat}
theorem Vj(b:Sj X e t)(c:swapsWith e none pos.line X.env=pure false:=by rfl):Vi X (.Expr e pos) (λE=>xM (t E)):=
 ⟨λa s σ H D E d f I h=>wpAny_Expr_any (cD (b.out a s σ H _ E d f I h) λv k ⟨x,g,i,l,j⟩=>⟨σ,g,i,j⟩) I.quiet c⟩
end
end
section
structure XBase(K:W.Frag)(B:Addr):Prop where
 ob:∃nm q N bs sn sub ab col dd k0 k1 k2 k3 k5,K.lookup B=some (excClassObj nm q B N bs qN true sn sub ab col dd k0 k1 k2 k3 k5 "ValueError.__new__")
section
variable {M:Model}{A:Around}{E:Value->Shared->Prop}{K:W.Frag}
theorem aa1{s:Shared}{e C B:Addr}{d:Option Addr}{vs:Array Value}{b:Array (Option Value)}{Q:Bool->Shared->Prop}(a:K.In s.heap)(c:fQ K C B)(f:XBase K B)(i:s.heap.get? e=some (⟨.ref C,d,.fields vs,b⟩:Obj))
  (d:Q true s):wpAny M A (excMatches (.ref e) (.ref B)) Q E s:=by
 obtain⟨h,q,N,j,k,b,l,e,m,n,o,p,r,t,g⟩:=c.ob;have b:=a _ _ g;obtain⟨c,r,t,e,u,h,j,k,v,l,m,n,o,p,q⟩:=f.ob;have c:=a _ _ q;obtain⟨h,g,e,t,f⟩:=s;have e:(Value.ref B::qN).contains (.type "BaseException")=true:=rfl;have a:(Value.ref C::.ref B::qN).contains (.ref B)=true:=by simp
 have f:=tc_notTuple;unfold excMatches
 repeat (first|with_reducible calc aaA i ?_|with_reducible calc aaA b ?_|with_reducible calc aaA c ?_|(with_reducible calc aa5 b ?_;rw[a])|(with_reducible calc aa5 c ?_;rw[e])|wp_step)
 calc d
end
abbrev Cx.nU(X:Cx)(a:Addr):Cx:={X with A:=X.A.mark (some (.ref a)),calm:=false,xe:=λ_ _=>False}
section
variable {X:Cx}{pins:List (Addr×Obj)}{σ:St}{H:Hp}{s:Shared}{a:Addr}
theorem Cx.Ok.nU(b:X.Ok)(a:Addr):(X.nU a).Ok:=
 ⟨b.mod,b.kind,b.glob,b.blt,b.above,b.inj,b.has,b.MH,(λz=>nomatch z),b.frames,b.OJ,b.R8,b.bs,b.Bq,b.vM,b.xJ,b.lZ,b.Fc⟩
theorem Inv.nU(I:Inv X pins σ H s)(a:Addr):Inv (X.nU a) pins σ H s:=⟨I.ok.nU a,I.os,I.bare,I.base,I.loc,I.cell,I.free,I.hX,I.pin,I.aU,I.len⟩
theorem Inv.wA(b:X.Ok)(I:Inv (X.nU a) pins σ H s):Inv X pins σ H s:=⟨b,I.os,I.bare,I.base,I.loc,I.cell,I.free,I.hX,I.pin,I.aU,I.len⟩
theorem qQ{M:Model}{A:Around}{E:Value->Shared->Prop}{i:Nat}{n:Str}{m:Pos}{Q:Unit->Shared->Prop}(I:Inv X pins σ H s)(B:X.N.Nodup)(hi:X.N[i]?=some n)(o:X.env.scope.names.lookup n=some .local)
  (h:∀s',Inv X pins (σ.set i none) H s'->Q ⟨⟩ s'):wpAny M A (do bindName X.env n .none;unbindBehindTheSuite X.env n m) Q E s:=by
 calc j' (wpAny_bindName (ia I B hi (.inl o) (v:=.bx) (u:=.none) rfl (λm a=>?_) (.inr o)));have z:i<σ.length:=by rw[I.len];exact(List.getElem?_eq_some_iff.mp hi).1
 obtain⟨m,C,F⟩:=id a.loc;have G:X.env.kindOf n=some .local:=o;have x:(X.env.scope.kind == .class||(X.env.scope.kind == .module&&X.env.locals !=X.env.globals))=false:=by rw[I.ok.kind];rfl
 have d:∃u,m n=some u:=by
  obtain⟨u,_,q⟩:=F i n .bx hi (List.getElem?_set_self z) (.inl o);rcases q with⟨_,e⟩|⟨k,_⟩
  ·exact⟨u,e⟩
  ·rcases k with k|k<;>(rw[G]at k;cases k)
 obtain⟨m,d⟩:=d;have J:=a.Fd;obtain⟨o,_,_,m,_⟩:=id C;unfold unbindBehindTheSuite;calc wpAny_onRaise ?_;unfold unbindName;calc j' (wpAny_point (j' ?_));unfold deleteName;simp only[G,x];rw[if_neg ∅];calc j' (wpAny_nsDel_keeps C λm v K g=>?_);rw[d];simp only[if_true,Option.isSome_some,Bool.not_true,Bool.false_eq_true,if_false];refine P' (wpAny_point (h _ ⟨a.ok,a.os,a.bare,⟨λb o e n u m=>?_,λb o e n u m=>?_,a.base.free,λb o e m=>?_,a.base.aM,a.base.tM,a.base.vL⟩,⟨_,K,λj y L l r O=>?_⟩,λy c e=>?_,a.free,a.hX,λp x=>?_,λb P e=>?_,by simpa using I.len⟩))
 ·exact(g.2 b (X' (R' (S' e) I.ok.above))).trans (a.base.keep b o e n u m)
 ·obtain⟨d,l⟩:=a.base.slot b o e n u m;exact⟨d,(g.2 b (X' (R' (S' e) I.ok.above))).trans l⟩
 ·obtain⟨d,l⟩:=a.base.there b o e m;exact⟨d,(g.2 b (X' (R' (S' e) I.ok.above))).trans l⟩
 ·by_cases t:j=i
  ·subst t;rw[List.getElem?_set_self z] at r
   cases r
  ·rw[List.getElem?_set_ne (Ne.symm t)] at r;obtain⟨R,S,q⟩:=F j y L l (by rw[List.getElem?_set_ne (Ne.symm t)];calc r) O;calc⟨R,S,?_⟩;rcases q with⟨k,e⟩ | ⟨k,c,e,z⟩
   ·calc .inl ⟨k,?_⟩;have:y≠n:=λe=>t (rj B l (e▸hi));simp[this,e]
   ·exact .inr ⟨k,c,e,z.sameBut g (J y c e)⟩
 ·obtain⟨i,z⟩:=a.cell y c e;exact⟨i,z.sameBut g (J y c e)⟩
 ·obtain⟨e,n,j,k,d⟩:=a.pin p x;exact⟨(g.2 p.1 j).trans e,n,j,k,d⟩
 ·calc(a.aU b P e).aG (λc i w q=>(g.2 c ?_).trans q) (λ_ q=>q) λ_ _ q=>q;rintro rfl;rcases w with rfl | w
  ·rw[a.free]at e;cases e
  ·rw[a.free]at w;cases w
end
end
section
variable {A:Around}{qual:Str}{mg:Str->Option Value}
structure jF(k:Nat)(A:Around):Prop where
 dp:A.depth+3*k+5<recursionLimit
 un:A.units+16*k+200<cLine
theorem jF.mono{j k:Nat}(r:jF k A)(h:j<=k):jF j A:=⟨by have:=r.dp;lia,by have:=r.un;lia⟩
theorem jF.deeper{k:Nat}(r:jF (k+1) A)(env:Env):jF k (A.deeper env):=
 ⟨by have:=r.dp;show A.depth+1+3*k+5<_;lia,by have:=r.un;show A.units+3+16*k+200<_;lia⟩
theorem jF.units{k:Nat}(r:jF k A):A.units+64<cLine:=by have:=r.un;lia
theorem dq.nU{k:Nat}(r:dq k A)(a:Addr):jF k (A.mark (some (.ref a))):=⟨r.dp,r.un⟩
structure M8(P:Program)(w:World)(K:W.Frag)(mg:Str->Option Value)(base:Heap)(k:Nat)(f:Addr)(fd:FuncData)(ps:List Str)(sp:Sp):Prop where
 len:∀vs H Q E,sp vs H Q E->vs.length=ps.length
 run:∀(A:Around) (outer:List Env) (s:Shared) (H:Hp) (args:Args) (us:List Value) (vs:List V) (Q:VK) (E:XK),jF k A->vT P w K mg base A outer s H->BindsTo s fd args (ps.zip us)->Vals vs us->sp vs H Q E->
  codeAny (model P w) A (.call (.ref f) args) (CR uV outer P w H s Q E) s
abbrev yp(P:Program)(w:World)(K:W.Frag)(mg:Str->Option Value)(base:Heap)(N:List Str)(qual:Str)(scope:Scope)(f:Addr)(a:Value)(A:Around)(outer:List Env)(s:Shared)(H:Hp):Cx:=
 {gV uV P w K mg base N qual scope f a A outer s H E0 with calm:=false,xe:=λ_ _=>False}
theorem Ay{P:Program}{w:World}{K:W.Frag}{base:Heap}{N b:List Str}{scope:Scope}{f:Addr}{c:Value}{outer:List Env}{s d:Shared}{H:Hp}{us:List Value}{vs:List V}
  (S:aD N b scope) (a:vT P w K mg base A outer s H) (e:vs.length=b.length) (r:Vals vs us)
  (x:InCallC s s.heap.objs.size (bindL (envOfC qual scope s.heap.objs.size f c).kindOf (b.zip us) λ_=>none) (cellsFrom (s.heap.objs.size+1) scope.names []) (bindC (envOfC qual scope s.heap.objs.size f c).kindOf (b.zip us) λ_=>none) d):
  Inv (yp P w K mg base N qual scope f c A outer s H) [] (start N vs) H d:=by
 have I:Inv (gV uV P w K mg base N qual scope f c {A with handled:=none} outer s H E0) [] (start N vs) H d:=uO S rfl ⟨a.frames,a.mod,a.bs,a.Bq,a.lZ,a.Fc,a.aU,a.bare⟩ e r x;have ok:=I.ok;calc⟨⟨ok.mod,ok.kind,ok.glob,ok.blt,ok.above,ok.inj,ok.has,ok.MH,(λz=>nomatch z),Around.frames_deeper a.frames,ok.OJ,ok.R8,ok.bs,ok.Bq,ok.vM,ok.xJ,ok.lZ,ok.Fc⟩,I.os,I.bare,I.base,I.loc,I.cell,I.free,I.hX,I.pin,I.aU,I.len⟩
theorem Qf{P:Program}{w:World}{K:W.Frag}{base:Heap}{k:Nat}{f:Addr}{name:Str}{a:Arguments}{b:List Stmt}{scope:Scope}{o kV i y g ct j:Value}{C od:Option Addr}
  {I:Array (Option Value)} {N p:List Str} {sp:Sp} (M:K.lookup f=some ⟨j,od,.func (W.fnOf name qual a b scope o kV i y C g ct),I⟩) (O:W.codeIn K g qual=true) (S:aD N p scope)
  (j:∀vs H Q E,sp vs H Q E->vs.length=p.length)
  (R:∀(A:Around) (outer:List Env) (s:Shared) (H:Hp) (vs:List V) (Q:VK) (E:XK),jF k (A.deeper (envOfC qual scope s.heap.objs.size f g))->sp vs H Q E->
   ∃t,qr (yp P w K mg base N qual scope f g A outer s H) b t/\t {nx:=λ_ d=>Q .bx d,rt:=Q} (start N vs) H):
  M8 P w K mg base (k+1) f (W.fnOf name qual a b scope o kV i y C g ct) p sp:=by
 calc⟨j,λA outer s H a i vs Q E D l T r F=>?_⟩;have U:=j _ _ _ _ F;have G:K.In s.heap:=l.mod.xt.keeps λb o e=>(l.bs b o e).1;have z:s.heap.NoLimit:=l.mod.nolimit.keeps λb o e=>(l.bs b o e).1;have X:∀y∈p.zip i,scope.names.lookup y.1=some .local\/(scope.names.lookup y.1=some .cell/\((cellsFrom (s.heap.objs.size+1) scope.names []).lookup y.1).isSome=true):=λ⟨n,v⟩ Y=>by
  rcases S.par n (List.of_mem_zip Y).1 with q|q
  ·exact .inl q
  ·exact .inr ⟨q,W.cellsFrom_some _ _ _ (.inl q)⟩
 calc codeAny_call_function (by have:=D.dp;lia) (G _ _ M) rfl S.co S.gen rfl (W.codeRec_of G O) (T _ _ _ _ ?_);calc wpAny_newFunctionEnv_cells S.kind X λa Z L x=>?_;subst Z;calc⟨z.keeps x.toInCall.keep,codeAny_func ?_⟩;obtain⟨t,b,i⟩:=R A outer s H vs Q E (D.deeper _) F;have I:Inv (yp P w K mg base N qual scope f g A outer s H) [] (start N vs) H L:=Ay S l U r x;calc aag (b [] L (start N vs) H _ I i) (λfl a h=>?_) λe a h=>Y' h;have m:∀{c:St} {d:Hp} {v:V} {u:Value},Inv (yp P w K mg base N qual scope f g A outer s H) [] c d a->RelV v u->Q v d->CE outer P w H s Q u a:=
  λ{c d v u} J B q=>⟨v,d,J.os,J.bare,J.base,J.aU,B,q⟩
 cases fl with
 |ret u=>
  obtain⟨v,c,d,J,B,q⟩:=h;calc m J B q
 |next=>
  obtain⟨c,d,J,q⟩:=h;calc m (v:=V.bx) (u:=Value.none) J rfl q
 |brk=>
  obtain⟨_,_,_,q⟩:=h;calc Y' q
 |cont=>
  obtain⟨_,_,_,q⟩:=h;calc Y' q
section
variable {P:Program}{w:World}{K:W.Frag}{mg:Str->Option Value}{base:Heap}
structure Vk(P:Program)(w:World)(K:W.Frag)(mg:Str->Option Value)(base:Heap)(x:Str)(k:Nat)(ps:List Str)(sp:Sp):Prop where
 ex:∃f fd,M8 P w K mg base k f fd ps sp/\mg x=some (.ref f)/\W.keepIn K (.ref f)=true/\Binds K fd ps []
theorem dj.okN{x:Str}{a:Stmt}{N b:List Str}{k:Nat}{sp:Sp}(T:dj K mg x qual a b)(S:aD N b (az a))(d:∀vs H Q E,sp vs H Q E->vs.length=b.length)
  (e:∀(f:Addr) (c:Value) (A:Around) (outer:List Env) (s:Shared) (H:Hp) (vs:List V) (Q:VK) (E:XK),jF k (A.deeper (envOfC qual (az a) s.heap.objs.size f c))->sp vs H Q E->
   ∃t,qr (yp P w K mg base N qual (az a) f c A outer s H) (cj a) t/\t {nx:=λ_ a=>Q .bx a,rt:=Q} (start N vs) H):Vk P w K mg base x (k + 1) b sp:=by
 obtain⟨f,a,F,g,h⟩:=T.ex;have i:=F.kp;obtain⟨l,m,kV,j,n,o,c,p,q,rfl,a,b⟩:=F.ex;calc⟨f,_,Qf a b S d λA outer s H vs Q E j k=>e f c A outer s H vs Q E j k,g,i,h⟩
end
section
variable {X:Cx}{e:Expr}{es:List Expr}{t:TA}{p pos:Pos}{x:Str}{k j:Nat}{ps:List Str}{sp:Sp}
theorem aa3(D:Vk X.prog X.w X.K X.mg X.base x k ps sp)(g:jF j X.A)(i:PA X (e::es) t)(a:Gl X x:=by rfl)(l:k<=j:=by decide)
  (d:(x==("__debug__":Str))=false:=by decide) (m:cI e=true:=by rfl) (n:es.all cI=true:=by rfl):PE X (.Call (.Name x p) (e::es) [] pos) (qk sp [] E0 t):=by
 obtain⟨f,q,F,o,u,v⟩:=D.ex;walk_at "xc";refine aaU (iP I a o ?_ d);refine W.callWith_K (h₀:=X.base) I.ok.mod.xt u (cD (i pos pins s σ H _ I h) λa d ⟨f,o,c,r,q⟩=>⟨c.gh,?_⟩) (cM m) (eg n);simp only[List.append_nil]at q;have i:(a++[]).length=ps.length:=by rw[List.append_nil,<-r.length];exact F.len _ _ _ _ q
 have m:Vals f (a++[]):=by rw[List.append_nil];exact r
 refine wpAny_call (codeAny_mono (F.run X.A X.stack d o ⟨a,[]⟩ (a++[]) f Q E0 (g.mono l) c.FJ (v d a c.gh i) m q) λr n b=>?_)
 cases r with
 |error e=>calc Y' b
 |ok y=>
  cases y with
  |ret u=>calc c.after b
  |next=>calc Y' b
  |brk=>calc Y' b
  |cont=>calc Y' b
end
end
end L2
set_option maxHeartbeats 4000000
namespace DD
open PySem L2
variable {H:Hp}{x:V}
inductive Kd(H:Hp):V->Value->Prop
 |bx:Kd H .bx (.type "NoneType")
 |bl (b:Bool):Kd H (.bl b) (.type "bool")
 |int (i:Int):Kd H (.int i) (.type "int")
 |str (x:Str):Kd H (.str x) (.type "str")
 |lst {a xs}:H a=some (.lst xs)->Kd H (.ref a) (.type "list")
 |tup {a xs}:H a=some (.tup xs)->Kd H (.ref a) (.type "tuple")
 |dK {a bg}:H a=some (.dK bg)->Kd H (.ref a) (.type "dict")
theorem Kd.ty{K:W.Frag}{H:Hp}{x:V}{t:Value}(h:Kd H x t):gL K H x t:=by
 cases h with
 |bx=>calc .bx
 |bl b=>calc .bl b
 |int i=>calc .int i
 |str x=>calc .str x
 |lst e=>calc .lst e
 |tup e=>calc .tup e
 |dK e=>calc .dK e
def isI:V->Bool
 | .int _=>true
 |_=>false
theorem Qg{K:W.Frag}{H:Hp}{x:V}{t:Value}(h:Kd H x t):∃b c,W.kitOne K t (.type "int")=some b/\W.kitOne K t (.type "bool")=some c/\isI x=(b && !c):=by
 cases h with
 |bx=>calc⟨false,false,rfl,rfl,rfl⟩
 |bl b=>calc⟨true,true,rfl,rfl,rfl⟩
 |int i=>calc⟨true,false,rfl,rfl,rfl⟩
 |str x=>calc⟨false,false,rfl,rfl,rfl⟩
 |lst e=>calc⟨false,false,rfl,rfl,rfl⟩
 |tup e=>calc⟨false,false,rfl,rfl,rfl⟩
 |dK e=>calc⟨false,false,rfl,rfl,rfl⟩
def inR(lo hi:Int):V->Bool
 | .int i=>decide (lo<=i)&&decide (i<hi)
 |_=>false
theorem Vl{H:Hp}{n:Nat}{x:V}{d:DV}(h:HD H n x d):∃t,Kd H x t:=by
 cases h with
 |bx=>calc⟨_,.bx⟩
 |bl b=>calc⟨_,.bl b⟩
 |int i=>calc⟨_,.int i⟩
 |str x=>calc⟨_,.str x⟩
 |tup e=>calc⟨_,.tup e⟩
 |lst e=>calc⟨_,.lst e⟩
 |dict e=>calc⟨_,.dK e⟩
def Qh:DV->Bool
 | .int _=>true
 |_=>false
def Vm(lo hi:Int):DV->Bool
 | .int i=>decide (lo<=i)&&decide (i<hi)
 |_=>false
theorem Qi{n:Nat}{d:DV}(h:HD H n x d):isI x=Qh d:=by cases h<;>rfl
theorem Qj{n:Nat}{d:DV}(h:HD H n x d)(lo hi:Int):inR lo hi x=Vm lo hi d:=by cases h<;>rfl
def rS:List V:=[.str "letter",.str "way",.str "first"]
def Li(w:Str)(m:Int):List DV->Bool
 | [z]=>if w="is" then Qh z else(decide (w="number")&&Vm 0 m z)
 |_=>false
def DJ(m:Int):DV->Bool
 | .tup (.str w::r)=>if xT (.str w) rS=true then decide (r.length=0) else Li w m r
 |_=>false
inductive Val where
 |is (c:Int)|number (i:Int)|mx|way|first
def Val.dv:Val->DV
 | .is c=>.tup [.str "is",.int c]
 | .number i=>.tup [.str "number",.int i]
 | .mx=>.tup [.str "letter"]
 | .way=>.tup [.str "way"]
 | .first=>.tup [.str "first"]
def Val.ok(m:Int):Val->Prop
 | .number i=>0<=i/\i<m
 |_=>True
theorem Qk{m:Int}{v:Val}(h:v.ok m):DJ m v.dv=true:=by
 cases v with
 |is c=>calc rfl
 |number i=>
  obtain⟨a,b⟩:=h;show(if xT (.str "number") rS=true then decide (([DV.int i]:List DV).length=0) else if ("number":Str)="is" then Qh (.int i) else(decide (("number":Str)="number")&&(decide (0<=i)&&decide (i<m))))=true;rw[if_neg ⋯,if_neg ⋯];simp[a,b]
 |mx=>calc rfl
 |way=>calc rfl
 |first=>calc rfl
def rT(b a:List Int)(way said:Int):Val->Int
 | .is c=>c
 | .number i=>b.getD i.toNat 0
 | .mx=>said
 | .way=>way
 | .first=>a.headD 0
abbrev yq(b a:List Int):DV:=.tup [.tup (b.map .int),.tup (a.map .int)]
theorem ln1{l:List V}(h:l.length=1):∃a,l=[a]:=List.length_eq_one_iff.mp h
theorem ln2{l:List V}(h:l.length=2):∃a b,l=[a,b]:=by
 cases l with
 |nil=>cases h
 |cons a r=>
  obtain⟨b,rfl⟩:=ln1 (Nat.succ.inj h);calc⟨a,b,rfl⟩
theorem ln3{l:List V}(h:l.length=3):∃a b c,l=[a,b,c]:=by
 cases l with
 |nil=>cases h
 |cons a r=>
  obtain⟨b,c,rfl⟩:=ln2 (Nat.succ.inj h);calc⟨a,b,c,rfl⟩
theorem ln4{l:List V}(h:l.length=4):∃a b c d,l=[a,b,c,d]:=by
 cases l with
 |nil=>cases h
 |cons a r=>
  obtain⟨b,c,d,rfl⟩:=ln3 (Nat.succ.inj h);calc⟨a,b,c,d,rfl⟩
theorem iX{H:Hp}{n:Nat}{x:V}{d:DV}(h:HT H n x (.tup [d])):∃a u k,x=.ref a/\H a=some (.tup [u])/\HT H k u d:=by
 cases h with
 | @tup k a b _ e l i=>
  obtain⟨u,rfl⟩:=ln1 l;calc⟨a,u,k,rfl,e,i 0 u d rfl rfl⟩
theorem cm{H:Hp}{n:Nat}{x:V}{d d':DV}(h:HT H n x (.tup [d,d'])):∃a u v k,x=.ref a/\H a=some (.tup [u,v])/\HT H k u d/\HT H k v d':=by
 cases h with
 | @tup k a b _ e l i=>
  obtain⟨u,v,rfl⟩:=ln2 l;calc⟨a,u,v,k,rfl,e,i 0 u d rfl rfl,i 1 v d' rfl rfl⟩
theorem B0{H:Hp}{n:Nat}{x:V}{b:List Int}(h:HT H n x (.tup (b.map .int))):∃a,x=.ref a/\H a=some (.tup (b.map V.int)):=by
 cases h with
 | @tup k a c _ e l i=>
  calc⟨a,rfl,?_⟩;have:c=b.map V.int:=by
   apply List.ext_getElem?;intro j;rw[List.getElem?_map]
   cases d:b[j]? with
   |none=>
    have a:b.length<=j:=List.getElem?_eq_none_iff.mp d;rw[List.getElem?_eq_none_iff.mpr (by rw[l,List.length_map];calc a)];rfl
   |some z=>
    have a:j<b.length:=(List.getElem?_eq_some_iff.mp d).1;have f:j<c.length:=by rw[l,List.length_map];exact a
    have g:=i j c[j] (.int z) (cP f) (by rw[List.getElem?_map,d];rfl);rw[cP f];generalize c[j]=y at g
    cases g;rfl
  rw[<-this];calc e
theorem nV{H:Hp}{n:Nat}{a:Addr}{c:List Int}(e:H a=some (.tup (c.map V.int))):HT H (n+1) (.ref a) (.tup (c.map .int)):=by
 calc .tup e nofun λi u d b f=>?_;rw[List.getElem?_map]at b f
 cases g:c[i]? with
 |none=>rw[g]at b;cases b
 |some z=>rw[g]at b f;cases b;cases f;calc .int z
theorem rV{H:Hp}{n:Nat}{a:Addr}{u:V}{d:DV}(e:H a=some (.tup [u]))(h:HT H n u d):HT H (n+1) (.ref a) (.tup [d]):=by
 refine .tup e rfl λi x y b c=>?_
 cases i with
 |zero=>simp at b c;subst b c;calc h
 |succ i=>simp at b
theorem cJ{H:Hp}{n:Nat}{a:Addr}{u v:V}{d d':DV}(e:H a=some (.tup [u,v]))(h:HT H n u d)(h':HT H n v d'):HT H (n+1) (.ref a) (.tup [d,d']):=by
 refine .tup e rfl λi x y b c=>?_
 match i,b,c with
 |0,b,c=>simp at b c;subst b c;calc h
 |1,b,c=>simp at b c;subst b c;calc h'
theorem _root_.L2.HT.mono{H:Hp}{n:Nat}{x:V}{d:DV}(h:HT H n x d):∀{m:Nat},n<=m->HT H m x d:=by
 induction h with
 |bx=>intro m _;calc .bx
 |bl b=>intro m _;calc .bl b
 |int i=>intro m _;calc .int i
 |str x=>intro m _;calc .str x
 |tup a b c f=>
  intro m e;obtain⟨k,rfl⟩:∃k,m=k+1:=⟨m-1,()⟩
  calc .tup a b λi u e p q=>f i u e p q ()
theorem wB{K:W.Frag}{H:Hp}{n:Nat}{x:V}{d:DV}(h:HT H n x d):∀{m:Nat}{y:V}{k:Nat},HT H m y d->n<k->kn K H k x y:=by
 induction h with
 |bx=>intro m y k h c;cases h;obtain⟨j,rfl⟩:∃j,k=j+1:=⟨k-1,()⟩;calc .inl ⟨rfl,rfl⟩
 |bl b=>intro m y k h c;cases h;obtain⟨j,rfl⟩:∃j,k=j+1:=⟨k-1,()⟩;calc .inl ⟨rfl,rfl⟩
 |int i=>intro m y k h c;cases h;obtain⟨j,rfl⟩:∃j,k=j+1:=⟨k-1,()⟩;calc .inl ⟨rfl,rfl⟩
 |str i=>intro m y k h c;cases h;obtain⟨j,rfl⟩:∃j,k=j+1:=⟨k-1,()⟩;calc .inl ⟨rfl,rfl⟩
 | @tup n a o g e l i q=>
  intro m y k h c;obtain⟨j,rfl⟩:∃j,k=j+1:=⟨k-1,()⟩
  cases h with
  | @tup m b d _ i j k=>
   calc .inr ⟨a,b,o,d,rfl,rfl,.inl ⟨bH.of e,bH.of i⟩,l.trans j.symm,λp u v c m=>?_⟩;have a:p<g.length:=by rw[<-l];exact(List.getElem?_eq_some_iff.mp c).1
   calc q p u g[p] c (cP a) (k p v g[p] m (cP a)) ()
inductive bu where
 |set (i:Int) (v:Val)|add (i:Int) (v:Val)|times (i:Int) (v:Val)|put (v:Val)|drop|send (j:Int) (v:Val)|say (v:Val)|skip (v w:Val) (k:Int)
def bu.dv:bu->DV
 | .set i v=>.tup [.str "set",.int i,v.dv]
 | .add i v=>.tup [.str "add",.int i,v.dv]
 | .times i v=>.tup [.str "times",.int i,v.dv]
 | .put v=>.tup [.str "put",v.dv]
 | .drop=>.tup [.str "drop"]
 | .send j v=>.tup [.str "send",.int j,v.dv]
 | .say v=>.tup [.str "say",v.dv]
 | .skip v w k=>.tup [.str "skip",v.dv,w.dv,.int k]
def bu.ok(m:Int):bu->Prop
 | .set i v=>0<=i/\i<m/\v.ok m
 | .add i v=>0<=i/\i<m/\v.ok m
 | .times i v=>0<=i/\i<m/\v.ok m
 | .put v=>v.ok m
 | .drop=>True
 | .send j v=>0<=j/\v.ok m
 | .say v=>v.ok m
 | .skip v w k=>v.ok m/\w.ok m/\1<=k/\k<25
def bu.vals:bu->List Val
 | .set _ v=>[v]
 | .add _ v=>[v]
 | .times _ v=>[v]
 | .put v=>[v]
 | .drop=>[]
 | .send _ v=>[v]
 | .say v=>[v]
 | .skip v w _=>[v,w]
def bu.word:bu->Str
 | .set _ _=>"set"
 | .add _ _=>"add"
 | .times _ _=>"times"
 | .put _=>"put"
 | .drop=>"drop"
 | .send _ _=>"send"
 | .say _=>"say"
 | .skip _ _ _=>"skip"
def bu.tY:bu->List Str
 | .set _ _=>["number","value"]
 | .add _ _=>["number","value"]
 | .times _ _=>["number","value"]
 | .put _=>["value"]
 | .drop=>[]
 | .send _ _=>["way","value"]
 | .say _=>["value"]
 | .skip _ _ _=>["value","value","many"]
structure WS where
 ns:List Int
 row:List Int
 cQ:List (Int×Int)
 words:List Int
def fT(M way said:Int)(b a:List Int)(v:Val):Int:=rT b a way said v%M
def jG(M:Int)(a:List Int)(x:Int):bu->List Int
 | .set i _=>a.set i.toNat x
 | .add i _=>a.set i.toNat ((a.getD i.toNat 0+x)%M)
 | .times i _=>a.set i.toNat ((a.getD i.toNat 0*x)%M)
 |_=>a
def nW(a:List Int)(x:Int):bu->List Int
 | .put _=>if a.length<12 then a++[x] else a
 | .drop=>a.tail
 |_=>a
def ib(x:Int):bu->List (Int×Int)
 | .send j _=>[(j,x)]
 |_=>[]
def gm(x:Int):bu->List Int
 | .say _=>[x]
 |_=>[]
def nX(x y:Int):bu->Int
 | .skip _ _ k=>if x<y then k else 0
 |_=>0
def fU(M way said:Int)(d:bu)(s:WS):WS:=
 let ws:=d.vals.map (fT M way said s.ns s.row)
 ⟨jG M s.ns (ws.getD 0 0) d,nW s.row (ws.getD 0 0) d,s.cQ++ib (ws.getD 0 0) d,s.words++gm (ws.getD 0 0) d⟩
def mn(M way said:Int)(d:bu)(s:WS):Int:=
 let ws:=d.vals.map (fT M way said s.ns s.row)
 nX (ws.getD 0 0) (ws.getD 1 0) d
def yr(M way said:Int):Nat->List bu->WS->WS
 |0,_,s=>s
 |_,[],s=>s
 |f+1,d::r,s=>yr M way said f (r.drop (mn M way said d s).toNat) (fU M way said d s)
theorem B1{M way said:Int}{f:Nat}{s:WS}:yr M way said f [] s=s:=by cases f<;>rfl
def nY(M way said:Int)(b:List bu)(c a:List Int):WS:=yr M way said b.length b ⟨c,a,[],[]⟩
theorem pq{M x:Int}{a:List Int}{d:bu}:(jG M a x d).length=a.length:=by cases d<;>simp[jG]
def yt(K:W.Frag)(H:Hp)(f:V)(e d:List Int):Prop:=∃a b c,f=.ref a/\H a=some (.tup [.ref b,.ref c])/\(aS K H b (e.map V.int)\/bH K H b (e.map V.int))/\(aS K H c (d.map V.int)\/bH K H c (d.map V.int))
theorem yt.of{K:W.Frag}{n:Nat}{f:V}{g d:List Int}(h:HT H n f (yq g d)):yt K H f g d:=by
 obtain⟨a,u,v,k,rfl,e,i,j⟩:=cm h;obtain⟨b,rfl,l⟩:=B0 i;obtain⟨c,rfl,d⟩:=B0 j;calc⟨a,b,c,rfl,e,.inr (bH.of l),.inr (bH.of d)⟩
def bX:Stmt->List Stmt
 | .ClassDef _ _ _ a _ _ _ _ _ _ _=>a
 |_=>[]
theorem bW{H:Hp}{n:Nat}{x:V}{d d' b:DV}(h:HT H n x (.tup [d,d',b])):∃a u v w k,x=.ref a/\H a=some (.tup [u,v,w])/\HT H k u d/\HT H k v d'/\HT H k w b:=by
 cases h with
 | @tup k a c _ e l i=>
  obtain⟨u,v,w,rfl⟩:=ln3 l;calc⟨a,u,v,w,k,rfl,e,i 0 u d rfl rfl,i 1 v d' rfl rfl,i 2 w b rfl rfl⟩
theorem nZ{H:Hp}{n:Nat}{x:V}{d d' b c:DV}(h:HT H n x (.tup [d,d',b,c])):∃a u v w z k,x=.ref a/\H a=some (.tup [u,v,w,z])/\HT H k u d/\HT H k v d'/\HT H k w b/\HT H k z c:=by
 cases h with
 | @tup k a f _ e l i=>
  obtain⟨u,v,w,z,rfl⟩:=ln4 l;calc⟨a,u,v,w,z,k,rfl,e,i 0 u d rfl rfl,i 1 v d' rfl rfl,i 2 w b rfl rfl,i 3 z c rfl rfl⟩
theorem my{H:Hp}{n:Nat}{a:Addr}{u v w:V}{d d' g:DV}(e:H a=some (.tup [u,v,w]))(h:HT H n u d)(h':HT H n v d')(f:HT H n w g):HT H (n+1) (.ref a) (.tup [d,d',g]):=by
 refine .tup e rfl λi x y b c=>?_
 match i,b,c with
 |0,b,c=>simp at b c;subst b c;calc h
 |1,b,c=>simp at b c;subst b c;calc h'
 |2,b,c=>simp at b c;subst b c;calc f
theorem B2{n:Nat}{v:Val}(h:HT H n x v.dv):∃a xs,x=.ref a/\H a=some (.tup xs):=by
 cases v<;>(cases h;rename_i a xs e l i;calc⟨_,_,rfl,by assumption⟩)
end DD
set_option maxHeartbeats 400000
namespace L2
open PySem PySem.Spec PyProof.Rows
def Vn:R2:=λx y H Q=>match x,y with
 | .ref a,.int n=>∃v,H a=some (.lst [v])/\-1000<=n/\n<=1000/\∀p,H p=none->Q (.ref p) (upd H p (.lst (List.replicate n.toNat v)))
 |_,_=>False
theorem Hk{α:Type}(n:Nat)(v:α):(List.replicate n [v]).flatten=List.replicate n v:=by
 induction n with
 |zero=>rfl
 |succ n a=>rw[List.replicate_succ,List.flatten_cons,a];rfl
theorem yu{v:V}{u:Value}(r:RelV v u):∀n:Nat,Vals (List.replicate n v) (List.replicate n u)
 |0=>.nil
 |n+1=>.cons r (yu r n)
section
variable {X:Cx}
theorem yw:fJ X (binaryOp .Mult) Vn:=by
 intro g s σ H x y v u Q I i j h
 cases x<;>cases y<;>first
  |calc(show False from h).elim
  |skip
 rename_i a n;obtain⟨w,l,A,B,q⟩:=h;obtain rfl:v=Value.ref a:=i;obtain⟨c,rfl⟩:∃c,u=Value.int n c:=j;obtain⟨_,C,k,m,d⟩:=I.aU a _ l;obtain⟨f,rfl,p⟩:=m.one;have r:([f]:List Value).toArray.size*n.toNat<=1000:=by simp;lia
 refine wpAny_binaryOp_repeat_ref (T:="list") (U:="int") ∅ ⟨_,d,rfl⟩ (λt=>typeIs_int t n c) noFill_list_mul F.fills_int_mul F.slot_int_rmul repeat_list F.slot_int_index.lookup
  (call_meets F.slot_int_rmul (typeIs_int s n c) F.entry_int_rmul (F.args_int_rmul_2 _ _) (lm_int_rmul_list_any n c a ([f]:List Value).toArray k none #[])
   ⟨d,rfl,⟨_,d,rfl⟩,call_meets F.slot_list_mul ⟨_,d,rfl⟩ F.entry_list_mul (F.args_list_mul_2 _ _)
    (lm_list_mul_any a ([f]:List Value).toArray k none #[] n c (by simp[Builtin.List.listFitsIndex];lia) () (by simp[Builtin.List.listTooLong,sizeLine];lia))
    ⟨d,?_⟩⟩)
 rw[listMul_foldl_if,Hk];have z:H s.heap.objs.size=none:=I.aU.fresh (K' _);calc⟨V.ref s.heap.objs.size,_,I.laid (o:=.lst (List.replicate n.toNat w)) (a:=s.heap.objs.size) (λb o e=>J' _ e) (K' _) (show _/\_ from⟨?_,_,0,yu p _,V' _ rfl⟩),rfl,q _ z⟩;rw[List.length_replicate,sizeLine_eq];lia
end
def M9(K:W.Frag):List V->Hp->VK->Prop:=λxs H Q=>∃(a C B:Addr) (d:Option Addr) (p:Addr) (cs:List Addr) (b e:Bool),xs=[.ref a,.ref p]/\H a=some (XO a C d e)/\(∀c,d=some c->∃f,H c=some (XD c f))/\fQ K C B/\H p=some (.tup (cs.map V.ref))/\W.kitAny K (.ref C) (cs.map Value.ref)=some b/\Q (.bl b) H
theorem u6:∀{cs:List Addr}{us:List Value},Vals (cs.map V.ref) us->us=cs.map Value.ref
 | [],_,h=>by cases h;rfl
 |c::cs,_,h=>by
  cases h with
  |cons a b=>
   rw[u6 b]
   cases(show _=Value.ref c from a);rfl
theorem DM{X:Cx}:eR X (.builtin "isinstance") (M9 X.K):=by
 intro e s σ H l m Q I r h;obtain⟨a,C,B,d,p,F,b,G,rfl,o,t,v,w,k,q⟩:=h;obtain⟨u,c,rfl,n,x⟩:∃u c,m=u::c/\RelV (.ref a) u/\Vals [.ref p] c:=by cases r with|cons a b=>exact⟨_,_,rfl,a,b⟩
 obtain⟨y,rfl,A⟩:=x.one
 cases(show u=Value.ref a from n)
 cases(show y=Value.ref p from A);obtain⟨_,a,c,f⟩:=I.aU p _ w;rw[u6 c]at f;obtain⟨⟨e,h,a,D⟩,E,g,n,i⟩:=id f;simp only at g i;subst g i;refine W.kia_tup (ye v) I.gh ?_ E k (λz=>nomatch z) λa=>⟨.bl b,H,I.tok _,rfl,q⟩
 obtain⟨l,D,j⟩:=BQ I o
 cases d with
 |none=>calc⟨_,none,j,rfl,rfl,aai⟩
 |some a=>
  obtain⟨b,z⟩:=t a rfl;obtain⟨_,⟨o,_,_,b,_⟩,_⟩:=An (I.aU a _ z);calc⟨_,some o,j,rfl,rfl,b⟩
end L2
namespace L2
open PySem
theorem Az{X:Cx}{K:W.Frag}(a:X.K=K):eR X (.builtin "isinstance") (M9 K):=a▸DM
theorem Y7:bootBuiltins "ValueError"=some (.type "ValueError"):=by kernel_rfl
structure tZ(K:W.Frag)(mg:Str->Option Value)(B:Addr)(c:Nat->Addr):Prop where
 Lj:mg "BadMachine"=some (.ref (c 0))
 Sk:mg "BadDeed"=some (.ref (c 1))
 Vo:mg "NoText"=some (.ref (c 2))
 Vp:mg "BadNet"=some (.ref (c 3))
 mB:mg "NoLetter"=some (.ref (c 4))
 jT:mg "NotFirst"=some (.ref (c 5))
 Sl:mg "NoCount"=some (.ref (c 6))
 Sm:mg "NoEvent"=some (.ref (c 7))
 Ql:mg "Orphaned"=some (.ref (c 8))
 Sn:mg "TooMany"=some (.ref (c 9))
 Vq:mg "NoLine"=some (.ref (c 10))
 Na:mg "NoMachine"=some (.ref (c 11))
 Vr:mg "NotRow"=some (.ref (c 12))
 aa6:mg "Busy"=some (.ref (c 13))
 Lk:mg "NotReached"=some (.ref (c 14))
 Vs:mg "NoMark"=some (.ref (c 15))
 Y8:mg "NoRow"=some (.ref (c 16))
 Vt:mg "NoName"=some (.ref (c 17))
 Vu:mg "NoDeed"=some (.ref (c 18))
 mC:mg "NetError"=some (.ref B)
 Ll:qw K mg "BadMachine" (c 0) B
 Vv:qw K mg "NoText" (c 2) B
 Vw:qw K mg "BadNet" (c 3) B
 So:qw K mg "NoCount" (c 6) B
 Sr:qw K mg "NoEvent" (c 7) B
 Ss:qw K mg "TooMany" (c 9) B
 Nb:qw K mg "NoMachine" (c 11) B
 aa7:qw K mg "Busy" (c 13) B
 Vx:qw K mg "NoMark" (c 15) B
 Y9:qw K mg "NoRow" (c 16) B
 Vy:qw K mg "NoName" (c 17) B
 Vz:qw K mg "NoDeed" (c 18) B
 cl:∀i,i<19->fQ K (c i) B
 inj:∀i j,i<19->j<19->c i=c j->i=j
 nB:∀i,i<19->c i≠B
 isB:(W.clsIn K B).isSome=true
 tyB:W.typeIn K (.ref B)=some (.type "type")
 xb:XBase K B
 Lm:bG K (c 1) "at"
 cU:bG K (c 4) "at"
 cV:bG K (c 5) "at"
 B3:bG K (c 8) "letter"
 Hl:bG K (c 10) "falls"
 ET:bG K (c 10) "letter"
 Ln:bG K (c 12) "way"
 yx:bG K (c 14) "machine"
section
variable {K:W.Frag}{mg:Str->Option Value}{B:Addr}{c:Nat->Addr}
theorem wC(T:tZ K mg B c){i j:Nat}(hi:i<19)(a:j<19):W.kitOne K (.ref (c i)) (.ref (c j))=some (decide (i=j)):=by
 unfold W.kitOne;by_cases e:i=j
 ·subst e;rw[if_pos nofun];simp
 ·have b:c i≠c j:=λz=>e (T.inj i j hi a z);have d:c j≠B:=T.nB j a;rw[if_neg (by simpa using b)];obtain⟨cd,g,k,_⟩:=(T.cl i hi).cd;obtain⟨m,q,N,n,o,k,p,l,r,t,u,v,w,x,g⟩:=(T.cl j a).ob;have k:W.typeIn K (.ref (c j))=some (.type "type"):=by show Option.map (·.cls) (K.lookup (c j))=_;rw[g];rfl
  have a:(W.clsIn K (c j)).isSome=true:=by unfold W.clsIn;rw[g];rfl
  have g:=(T.cl i hi).mro (.ref (c j));show(if ((W.clsIn K (c j)).isSome&&W.typeIn K (.ref (c j))==some (.type "type"))=true then W.subIn K (.ref (c i)) (.ref (c j)) else none)=_;rw[k,a];simp only[beq_self_eq_true,Bool.and_self,if_true];show W.mroIn K (c i) (.ref (c j))=_;rw[g];have z:((Value.ref (c i)::.ref B::qN).contains (.ref (c j)))=false:=by
   simp[qN,List.contains_cons,b,d,Ne.symm b]
  rw[z];simp[e]
theorem aa8(T:tZ K mg B c){i:Nat}(hi:i<19):W.kitOne K (.ref (c i)) (.type "ValueError")=some true:=by
 unfold W.kitOne;rw[if_neg (by intro z;cases z)];show(if W.kitMeta "ValueError"=true then W.subIn K (.ref (c i)) (.type "ValueError") else none)=_;rw[if_pos ⋯];show W.mroIn K (c i) (.type "ValueError")=_;exact((T.cl i hi).mro _).trans rfl
theorem qR(T:tZ K mg B c){i:Nat}(hi:i<19):∀a:List Nat,(∀j∈a,j<19)->W.kitAny K (.ref (c i)) ((a.map c).map Value.ref)=some (decide (i∈a))
 | [],_=>by simp[W.kitAny]
 |j::a,h=>by
  have b:=qR T hi a λk d=>h k (aaf _ d);have e:=wC T hi (h j nofun);show(match W.kitOne K (.ref (c i)) (.ref (c j)) with|some true=>some true|some false=>W.kitAny K (.ref (c i)) ((a.map c).map Value.ref)|none=>none)=_;rw[e];by_cases z:i=j
  ·subst z;simp
  ·rw[decide_eq_false z];show W.kitAny K (.ref (c i)) ((a.map c).map Value.ref)=_;rw[b];simp[z]
end
end L2
namespace L2
open PySem PySem.Spec PyProof.Rows Builtin.Str
end L2
namespace L2
open PySem PySem.Spec PyProof.Rows Builtin.Str
end L2
set_option maxHeartbeats 4000000
namespace L2
open PySem
section
variable {X:Cx}
def aa9(K:W.Frag):List V->Hp->VK->Prop:=λxs H Q=>∃(x:V) (C:Addr) (t:Value) (b:Bool),xs=[x,.ref C]/\gL K H x t/\W.kitOne K t (.ref C)=some b/\Q (.bl b) H
theorem yy{K:W.Frag}(c:X.K=K):eR X (.builtin "isinstance") (aa9 K):=by
 subst c;intro a s σ H i j Q I r h;obtain⟨x,C,t,b,rfl,d,e,q⟩:=h;obtain⟨u,k,rfl,f,g⟩:=vals2 r
 cases g;calc uJ I f d e λa=>⟨.bl b,H,I.tok _,rfl,q⟩
end
end L2
namespace L2
open PySem PySem.Spec PyProof.Rows
variable {e:Nat->Bool}
def zD(K:W.Frag)(H:Hp):Nat->V->V->Bool->Prop
 |0,_,_,_=>False
 | n + 1,x,y,b=>(∃a,x=.ref a/\y=.ref a/\b=true)\/(fO x=true/\fO y=true/\b=BH x y)
  \/(∃a xs,fO x=true/\y=.ref a/\(bH K H a xs\/aS K H a xs)/\b=false)\/(∃a xs,fO y=true/\x=.ref a/\(bH K H a xs\/aS K H a xs)/\b=false)
  \/(∃a c xs ys,x=.ref a/\y=.ref c/\((bH K H a xs/\aS K H c ys)\/(aS K H a xs/\bH K H c ys))/\b=false)
  \/∃a c xs ys,∃e:Nat->Bool,x=.ref a/\y=.ref c/\a≠c/\((bH K H a xs/\bH K H c ys)\/(aS K H a xs/\aS K H c ys))
   /\(∀(i:Nat) u v,xs[i]?=some u->ys[i]?=some v->zD K H n u v (e i))/\b=((List.range (min xs.length ys.length)).all e&&(xs.length==ys.length))
def Za(K:W.Frag)(H:Hp)(n:Nat)(a c:Addr)(b:Bool):Prop:=∃xs ys,∃e:Nat->Bool,((bH K H a xs/\bH K H c ys)\/(aS K H a xs/\aS K H c ys))
      /\(∀(i:Nat) u v,xs[i]?=some u->ys[i]?=some v->zD K H n u v (e i))/\b=((List.range (min xs.length ys.length)).all e&&(xs.length==ys.length))
section
variable {X:Cx}
theorem Hm{pins:List (Addr×Obj)}{σ:St}{H:Hp}{s:Shared}(I:Inv X pins σ H s){n:Nat}(L:∀(A:Around) {x y:V}{u v:Value}{b:Bool},zD X.K H n x y b->A.units+n<cLine->RelV x u->RelV y v->SeqAt.EqAt A s u v b)
  {A:Around} {a c:Addr} {b:Bool} (h:Za X.K H n a c b) (f:A.units+n+1<cLine):SeqAt.RcAt A s (.ref a) (.ref c) b/\SeqAt.RcNeAt A s (.ref a) (.ref c) (!b):=by
 obtain⟨g,k,e,d,M,rfl⟩:=h;rcases d with⟨m,n⟩|⟨m,n⟩
 ·obtain⟨d,o,h,p⟩:=I.tuple m;obtain⟨f,q,l,w⟩:=I.tuple n;have N:=o.length;have O:=q.length;have b:∀j (m:j<d.toArray.size) (n:j<f.toArray.size),SeqAt.EqAt A.in1 s d.toArray[j] f.toArray[j] (e j):=λj y z=>by
   have B:j<d.length:=by simpa using y
   have C:j<f.length:=by simpa using z
   obtain⟨D,r,E⟩:=o.get (i:=j) (x:=g[j]'()) nofun;obtain⟨F,t,G⟩:=q.get (i:=j) (x:=k[j]'()) nofun;have H:d.toArray[j]=D:=by
    have:=cP B;rw[this]at r;simpa using Option.some.inj r
   have J:f.toArray[j]=F:=by
    have:=cP C;rw[this]at t;simpa using Option.some.inj t
   rw[H,J];exact L A.in1 (M j _ _ nofun nofun) (by rw[in1_units];lia) E G
  have u:=SeqAt.RcAt.tuples (A:=A) (show s.heap.IsTuple a d.toArray from h) (show s.heap.IsTuple c f.toArray from l) () b;have v:=SeqAt.RcNeAt.tuples (A:=A) (show s.heap.IsTuple a d.toArray from h) (show s.heap.IsTuple c f.toArray from l) () b;have p:d.toArray.size=g.length:=by simp;lia
  have w:f.toArray.size=k.length:=by simp;lia
  rw[p,w]at u v;exact⟨u,v⟩
 ·obtain⟨d,o,h,p⟩:=I.list m;obtain⟨f,q,l,w⟩:=I.list n;have N:=o.length;have O:=q.length;by_cases a:g.length=k.length
  ·have c:d.toArray.size=f.toArray.size:=by simp;lia
   have b:∀j (m:j<d.toArray.size) (n:j<f.toArray.size),SeqAt.EqAt A.in1 s d.toArray[j] f.toArray[j] (e j):=λj y z=>by
    have B:j<d.length:=by simpa using y
    have C:j<f.length:=by simpa using z
    obtain⟨D,r,E⟩:=o.get (i:=j) (x:=g[j]'()) nofun;obtain⟨F,t,G⟩:=q.get (i:=j) (x:=k[j]'()) nofun;have H:d.toArray[j]=D:=by
     have:=cP B;rw[this]at r;simpa using Option.some.inj r
    have J:f.toArray[j]=F:=by
     have:=cP C;rw[this]at t;simpa using Option.some.inj t
    rw[H,J];exact L A.in1 (M j _ _ nofun nofun) (by rw[in1_units];lia) E G
   have u:=SeqAt.RcAt.lists (A:=A) h.isList l.isList c () b;have v:=SeqAt.RcNeAt.lists (A:=A) h.isList l.isList c () b;have p:d.toArray.size=g.length:=by simp;lia
   have b:((List.range (min g.length k.length)).all e&&(g.length==k.length))=(List.range g.length).all e:=by rw[a];simp
   rw[p]at u v;rw[b];exact⟨u,v⟩
  ·have c:(d.toArray.size != f.toArray.size)=true:=by simp;lia
   have b:((List.range (min g.length k.length)).all e&&(g.length==k.length))=false:=by simp[a]
   rw[b];calc⟨SeqAt.RcAt.lists_lengths h.isList l.isList c (),SeqAt.RcNeAt.lists_lengths h.isList l.isList c ()⟩
theorem AB{pins:List (Addr×Obj)}{σ:St}{H:Hp}{s:Shared}(I:Inv X pins σ H s):∀(n:Nat) (A:Around) {x y:V}{u v:Value}{b:Bool},zD X.K H n x y b->A.units+n<cLine->RelV x u->RelV y v->SeqAt.EqAt A s u v b
 |0,_,_,_,_,_,_,h,_,_,_=>h.elim
 |n+1,A,x,y,u,v,b,h,r,k,l=>by
  rcases h with⟨a,rfl,rfl,rfl⟩|⟨f,g,rfl⟩|⟨a,p,f,rfl,i,rfl⟩|⟨a,p,f,rfl,i,rfl⟩|⟨a,c,p,q,rfl,rfl,i,rfl⟩|⟨a,c,p,q,e,rfl,rfl,w,i,z,B⟩
  ·cases k;cases l;exact SeqAt.EqAt.same _
  ·exact z7 k l f g
  ·cases l;rcases i with i | i
   ·obtain⟨j,m,d,o⟩:=I.tuple i
    cases x<;>first|calc absurd (show false=true from f) U'|skip
    ·cases k;exact SeqAt.EqAt.none_tuple (show s.heap.IsTuple a j.toArray from d) ()
    ·cases k;exact SeqAt.EqAt.bool_tuple _ (show s.heap.IsTuple a j.toArray from d) ()
    ·obtain⟨t,rfl⟩:=k;exact SeqAt.EqAt.int_tuple _ _ (show s.heap.IsTuple a j.toArray from d) ()
    ·obtain⟨t,rfl⟩:=k;exact SeqAt.EqAt.str_tuple _ _ (show s.heap.IsTuple a j.toArray from d) ()
   ·obtain⟨j,m,d,o⟩:=I.list i
    cases x<;>first|calc absurd (show false=true from f) U'|skip
    ·cases k;exact SeqAt.EqAt.none_list d.isList ()
    ·cases k;exact SeqAt.EqAt.bool_list _ d.isList ()
    ·obtain⟨t,rfl⟩:=k;exact SeqAt.EqAt.int_list _ _ d.isList ()
    ·obtain⟨t,rfl⟩:=k;exact SeqAt.EqAt.str_list _ _ d.isList ()
  ·cases k;rcases i with i | i
   ·obtain⟨j,m,d,o⟩:=I.tuple i
    cases y<;>first|calc absurd (show false=true from f) U'|skip
    ·cases l;exact SeqAt.EqAt.tuple_none (show s.heap.IsTuple a j.toArray from d) ()
    ·cases l;exact SeqAt.EqAt.tuple_bool _ (show s.heap.IsTuple a j.toArray from d) ()
    ·obtain⟨t,rfl⟩:=l;exact SeqAt.EqAt.tuple_int _ _ (show s.heap.IsTuple a j.toArray from d) ()
    ·obtain⟨t,rfl⟩:=l;exact SeqAt.EqAt.tuple_str _ _ (show s.heap.IsTuple a j.toArray from d) ()
   ·obtain⟨j,m,d,o⟩:=I.list i
    cases y<;>first|calc absurd (show false=true from f) U'|skip
    ·cases l;exact SeqAt.EqAt.list_none d.isList ()
    ·cases l;exact SeqAt.EqAt.list_bool _ d.isList ()
    ·obtain⟨t,rfl⟩:=l;exact SeqAt.EqAt.list_int _ _ d.isList ()
    ·obtain⟨t,rfl⟩:=l;exact SeqAt.EqAt.list_str _ _ d.isList ()
  ·cases k
   cases l;rcases i with⟨f,g⟩|⟨f,g⟩
   ·obtain⟨j,m,d,o⟩:=I.tuple f;obtain⟨r,t,h,C⟩:=I.list g;exact SeqAt.EqAt.tuple_list (show s.heap.IsTuple a j.toArray from d) h.isList ()
   ·obtain⟨j,m,d,o⟩:=I.list f;obtain⟨r,t,h,C⟩:=I.tuple g;exact SeqAt.EqAt.list_tuple d.isList (show s.heap.IsTuple c r.toArray from h) ()
  ·cases k
   cases l;calc SeqAt.EqAt.of_refs w (Hm I (λA {x y u v b}=>AB I n A) ⟨p,q,e,i,z,B⟩ ()).1
def Qm(K:W.Frag):R2:=λx y H Q=>∃a c b,x=.ref a/\y=.ref c/\Za K H 19 a c b/\Q (.bl b) H
theorem B4(i:X.A.units+64<cLine):fJ X (compareOp .Eq) (Qm X.K):=by
 intro d s σ H x y v u Q I e f h;obtain⟨a,c,b,rfl,rfl,g,q⟩:=h
 cases e
 cases f;calc(Hm I (λA {x y u v b}=>AB I 19 A) (A:=X.A) g ()).1 X.prog X.w X.xe _ ⟨.bl b,H,I,rfl,q⟩
end
inductive tI:DV->Prop
 |bx:tI .bx
 |int (i:Int):tI (.int i)
 |str (x:Str):tI (.str x)
 |tup {ds:List DV}:(∀e∈ds,tI e)->tI (.tup ds)
 |lst {ds:List DV}:(∀e∈ds,tI e)->tI (.lst ds)
theorem zD.mono{K:W.Frag}{H:Hp}:∀{n:Nat}{x y:V}{b:Bool},zD K H n x y b->∀{m:Nat},n<=m->zD K H m x y b
 |0,_,_,_,h,_,_=>h.elim
 |n+1,x,y,b,h,m,a=>by
  obtain⟨k,rfl⟩:∃k,m=k+1:=⟨m-1,()⟩
  rcases h with h|h|h|h|h|⟨a,c,b,d,e,f,g,j,k,l,m⟩
  ·exact .inl h
  ·exact .inr (.inl h)
  ·exact .inr (.inr (.inl h))
  ·exact .inr (.inr (.inr (.inl h)))
  ·exact .inr (.inr (.inr (.inr (.inl h))))
  ·calc .inr (.inr (.inr (.inr (.inr ⟨a,c,b,d,e,f,g,j,k,λi u v p q=>(l i u v p q).mono (),m⟩))))
theorem Lo{H:Hp}{n:Nat}{x:V}{d:DV}(h:HD H n x d):∀{m:Nat}{d':DV},HD H m x d'->d=d':=by
 induction h with
 |bx=>intro m d' h;cases h;rfl
 |bl b=>intro m d' h;cases h;rfl
 |int i=>intro m d' h;cases h;rfl
 |str x=>intro m d' h;cases h;rfl
 | @tup n a f g e l i k=>
  intro m d' h
  cases h with
  | @tup m _ q o c r p=>
   rw[e]at c
   cases c;congr 1;apply List.ext_getElem ();intro j s t;have u:j<f.length:=by lia
   calc k j f[j] g[j] nofun nofun (p j f[j] o[j] nofun nofun)
  |lst c=>rw[e]at c;cases c
  |dict c=>rw[e]at c;cases c
 | @lst n a f g e l i k=>
  intro m d' h
  cases h with
  | @lst m _ q o c r p=>
   rw[e]at c
   cases c;congr 1;apply List.ext_getElem ();intro j s t;have u:j<f.length:=by lia
   calc k j f[j] g[j] nofun nofun (p j f[j] o[j] nofun nofun)
  |tup c=>rw[e]at c;cases c
  |dict c=>rw[e]at c;cases c
 |dict e=>
  intro m d' h
  cases h with
  |tup c=>rw[e]at c;cases c
  |lst c=>rw[e]at c;cases c
  |dict _=>rfl
theorem all_eq{a b:List DV}(f:∀(i:Nat) u v,a[i]?=some u->b[i]?=some v->e i=true->u=v)(h:((List.range (min a.length b.length)).all e&&(a.length==b.length))=true):a=b:=by
 rw[Bool.and_eq_true]at h;obtain⟨d,c⟩:=h;have c:a.length=b.length:=by simpa using c
 apply List.ext_getElem c;intro j a b;calc f j _ _ nofun nofun ?_;rw[List.all_eq_true]at d;calc d j (by simp;lia)
theorem DN{a:List DV}(b:∀i,i<a.length->e i=true):((List.range (min a.length a.length)).all e&&(a.length==a.length))=true:=by
 simp;calc b
theorem lW{K:W.Frag}{H:Hp}{n m:Nat}{x y:V}{d d':DV}(h:HD H 0 x d)(h':HD H m y d')(a:tI d)(c:tI d')(f:fO x=true):∃b,zD K H (n+1) x y b/\(b=true↔d=d'):=by
 cases h<;>cases h'<;>first
  |(calc⟨_,.inr (.inl ⟨rfl,rfl,rfl⟩),?_⟩;simp[BH];done)
  |(rename_i e _ _;calc⟨false,.inr (.inr (.inl ⟨_,_,rfl,rfl,.inl (bH.of e),rfl⟩)),nofun⟩)
  |(rename_i e _ _;calc⟨false,.inr (.inr (.inl ⟨_,_,rfl,rfl,.inr (aS.of e),rfl⟩)),nofun⟩)
  |(exfalso;cases a;done)
  |(exfalso;cases c;done)
theorem rW{K:W.Frag}{H:Hp}:∀(n:Nat) {x y:V}{d d':DV}{m:Nat},HD H n x d->HD H m y d'->tI d->tI d'->∃b,zD K H (n+1) x y b/\(b=true↔d=d'):=by
 have A:∀{k m:Nat} {g s:List V} {t w:List DV},(∀{x y:V} {d d':DV} {m:Nat},HD H k x d->HD H m y d'->tI d->tI d'->∃b,zD K H (k + 1) x y b/\(b=true↔d=d'))->g.length=t.length->s.length=w.length->
   (∀(i:Nat) u e,g[i]?=some u->t[i]?=some e->HD H k u e)->(∀(i:Nat) u e,s[i]?=some u->w[i]?=some e->HD H m u e)->(∀e∈t,tI e)->(∀e∈w,tI e)->
   ∃e:Nat->Bool,(∀(i:Nat) u v,g[i]?=some u->s[i]?=some v->zD K H (k+1) u v (e i))/\(((List.range (min g.length s.length)).all e&&(g.length==s.length))=true↔t=w):=by
  intro k m g s t w I l C i D o r;have G:∀j:Nat,∃b:Bool,(∀u v,g[j]?=some u->s[j]?=some v->zD K H (k+1) u v b)/\(∀u v,t[j]?=some u->w[j]?=some v->(b=true↔u=v)):=by
   intro j;by_cases J:j<g.length/\j<s.length
   ·obtain⟨Q,R⟩:=J;have O:j < t.length:=by lia
    have P:j<w.length:=by lia
    obtain⟨b,S,T⟩:=I (i j g[j] t[j] nofun nofun) (D j s[j] w[j] nofun nofun) (o _ (W' O)) (r _ (W' P));refine⟨b,λu v p q=>?_,λu v p q=>?_⟩
    ·rw[cP Q]at p;rw[cP R]at q;cases p;cases q;exact S
    ·rw[cP O]at p;rw[cP P]at q;cases p;cases q;exact T
   ·refine⟨true,λu v p q=>?_,λu v p q=>?_⟩
    ·exact absurd ⟨(List.getElem?_eq_some_iff.mp p).1,(List.getElem?_eq_some_iff.mp q).1⟩ J
    ·exact absurd ⟨by rw[l];calc(List.getElem?_eq_some_iff.mp p).1,by rw[C];calc(List.getElem?_eq_some_iff.mp q).1⟩ J
  obtain⟨e,L⟩:=Classical.axiomOfChoice G;refine⟨e,λi u v p q=>(L i).1 u v p q,λh=>?_,λh=>?_⟩
  ·rw[l,C]at h;exact all_eq (λi u v p q=>((L i).2 u v p q).mp) h
  ·subst h;rw[l,C];calc DN λi b=>?_;exact((L i).2 t[i] t[i] nofun nofun).mpr rfl
 intro n;induction n with
 |zero=>
  intro x y d d' m h B o r
  cases h with
  |bx=>calc lW .bx B o r rfl
  |int j=>calc lW (.int j) B o r rfl
  |str j=>calc lW (.str j) B o r rfl
  |bl _=>cases o
  |dict _=>cases o
 |succ n I=>
  intro x y d d' m h B o r;by_cases E:∃a,x=.ref a/\y=.ref a
  ·obtain⟨a,rfl,rfl⟩:=E;exact⟨true,.inl ⟨a,rfl,rfl,rfl⟩,by simp[Lo h B]⟩
  cases h with
  | @tup _ a g t e l i=>
   cases o with
   |tup o=>
   cases B with
   | @tup m c s w F C D=>
    cases r with
    |tup r=>
    obtain⟨f,M,N⟩:=A I l C i D o r;calc⟨_,.inr (.inr (.inr (.inr (.inr ⟨a,c,g,s,f,rfl,rfl,λz=>E ⟨a,rfl,by rw[z]⟩,.inl ⟨bH.of e,bH.of F⟩,M,rfl⟩)))),N.trans nofun⟩
   | @lst m c s w F C D=>calc⟨false,.inr (.inr (.inr (.inr (.inl ⟨a,c,g,s,rfl,rfl,.inl ⟨bH.of e,aS.of F⟩,rfl⟩)))),nofun⟩
   |dict _=>cases r
   |bl _=>cases r
   |bx=>calc⟨false,.inr (.inr (.inr (.inl ⟨a,g,rfl,rfl,.inl (bH.of e),rfl⟩))),nofun⟩
   |int j=>calc⟨false,.inr (.inr (.inr (.inl ⟨a,g,rfl,rfl,.inl (bH.of e),rfl⟩))),nofun⟩
   |str j=>calc⟨false,.inr (.inr (.inr (.inl ⟨a,g,rfl,rfl,.inl (bH.of e),rfl⟩))),nofun⟩
  | @lst _ a g t e l i=>
   cases o with
   |lst o=>
   cases B with
   | @lst m c s w F C D=>
    cases r with
    |lst r=>
    obtain⟨f,M,N⟩:=A I l C i D o r;calc⟨_,.inr (.inr (.inr (.inr (.inr ⟨a,c,g,s,f,rfl,rfl,λz=>E ⟨a,rfl,by rw[z]⟩,.inr ⟨aS.of e,aS.of F⟩,M,rfl⟩)))),N.trans nofun⟩
   | @tup m c s w F C D=>calc⟨false,.inr (.inr (.inr (.inr (.inl ⟨a,c,g,s,rfl,rfl,.inr ⟨aS.of e,bH.of F⟩,rfl⟩)))),nofun⟩
   |dict _=>cases r
   |bl _=>cases r
   |bx=>calc⟨false,.inr (.inr (.inr (.inl ⟨a,g,rfl,rfl,.inr (aS.of e),rfl⟩))),nofun⟩
   |int j=>calc⟨false,.inr (.inr (.inr (.inl ⟨a,g,rfl,rfl,.inr (aS.of e),rfl⟩))),nofun⟩
   |str j=>calc⟨false,.inr (.inr (.inr (.inl ⟨a,g,rfl,rfl,.inr (aS.of e),rfl⟩))),nofun⟩
  |dict _=>cases o
  |bl _=>cases o
  |bx=>calc(lW (n:=n+1) .bx B o r rfl)
  |int j=>calc(lW (n:=n+1) (.int j) B o r rfl)
  |str j=>calc(lW (n:=n+1) (.str j) B o r rfl)
end L2
namespace L2
open PySem
variable {H:Hp}{σ:St}
theorem b4{t u:TS}{D:Ends}(h:∀N:St->Hp->Prop,N=u D->t {D with nx:=N} σ H):Df t u D σ H:=h _ rfl
theorem gC{c:TT}{t u:TS}{D:Ends}(h:∀T U:St->Hp->Prop,T=t D->U=u D->c σ H λb a=>if b=true then T σ a else U σ a):zI c t u D σ H:=h _ _ rfl rfl
theorem Qn{i:Nat}{v:V}{Q:St->Hp->Prop}(h:Q (σ.set i (some v)) H):fL i v σ H Q:=h
theorem bA{N M:St->Hp->Prop}(e:N=M)(h:M σ H):N σ H:=e▸h
end L2
namespace DD
open PySem L2
variable {x:Addr}{Z:Addr->Prop}{H H':Hp}{vs:List V}
structure MD where
 M:Int
 ns:List Int
 row:List Int
 ds:List bu
structure Good(M:Int)(ns row:List Int)(ds:List bu):Prop where
 m2:2<=M
 m12:M<=1000000000000
 l1:1<=ns.length
 l4:ns.length<=4
 r12:row.length<=12
 bn:∀z∈ns,0<=z/\z<M
 br:∀z∈row,0<=z/\z<M
 Zb:ds.length<=24
 ok:∀d∈ds,d.ok ns.length
abbrev MD.good(d:MD):Prop:=Good d.M d.ns d.row d.ds
instance:Inhabited MD:=⟨⟨0,[],[],[]⟩⟩
noncomputable def gY (Z:Addr->Prop) (H:Hp):Hp:=λx=> @ite _ (Z x) (Classical.propDecidable _) (some (.own 0)) (H x)
theorem gn(h:¬Z x):gY Z H x=H x:=by unfold gY;rw[if_neg h]
theorem AD(h:Z x):gY Z H x=some (.own 0):=by unfold gY;rw[if_pos h]
theorem cK{o:HO}(h:gY Z H x=some o)(b:∀k,o≠.own k):¬Z x/\H x=some o:=by
 by_cases a:Z x
 ·rw[AD a]at h;cases h;exact absurd rfl (b 0)
 ·rw[gn a]at h;calc⟨a,h⟩
theorem B5{o:HO}(h:Z x):gY Z (upd H x o)=gY Z H:=by
 funext b;by_cases a:Z b
 ·rw[AD a,AD a]
 ·rw[gn a,gn a,ay (λe:b=x=>a (e▸h))]
def Cv(H H':Hp):Prop:=∀b o,H b=some o->(∀k,o≠.own k)->H' b=some o
theorem _root_.L2.aq.cv(s:aq H H'):Cv H H':=λb o e _=>s b o e
def soft:HO->Prop
 | .lst _=>True
 | .dK _=>True
 |_=>False
def Fr(Z:Addr->Prop)(H H':Hp):Prop:=∀b o,H b=some o->(Z b->¬soft o)->H' b=some o
theorem Fr.refl:Fr Z H H:=λ_ _ e _=>e
theorem Fr.trans{c d:Hp}(a:Fr Z H c)(b:Fr Z c d):Fr Z H d:=λc o e n=>b c o (a c o e n) n
theorem _root_.L2.aq.fr(s:aq H H'):Fr Z H H':=λb o e _=>s b o e
theorem Fr.at(a:Fr Z H H'){b:Addr}{o:HO}(e:H b=some o)(h:¬Z b):H' b=some o:=a b o e λz=>absurd z h
theorem Fr.kJ(a:Fr Z H H'){b:Addr}{o:HO}(e:H b=some o)(h:¬soft o):H' b=some o:=a b o e λ_=>h
theorem Fr.upd{b:Hp}(a:Fr Z H b){x:Addr}{o u:HO}(h:Z x)(f:b x=some u)(g:soft u):Fr Z H (upd b x o):=λc v e n=>by
 by_cases z:c=x
 ·subst z;have d:=a c v e n;rw[f] at d
  cases d;exact absurd g (n h)
 ·rw[ay z];calc a c v e n
theorem Fr.mono{c:Addr->Prop}{d:Hp}(a:Fr Z H d)(h:∀b,Z b->c b):Fr c H d:=λc o e n=>a c o e λz=>n (h c z)
theorem Fr.aM(h:Fr Z H H'):cq H H':=λb a e=>h b _ e λ_=>id
theorem Fr.gY(h:Fr Z H H'):Cv (gY Z H) (gY Z H'):=λb o e n=>by
 obtain⟨a,b⟩:=cK e n;rw[gn a];calc h.at b a
theorem eF:Cv (gY Z H) H:=λb o e n=>(cK e n).2
theorem Cv.aM(h:Cv H H'):cq H H':=λb a e=>h b _ e (λk z=>by cases z)
theorem _root_.L2.HD.cv{H H':Hp}(s:Cv H H'){n:Nat}{x:V}{d:DV}(h:HD H n x d):HD H' n x d:=by
 induction h with
 |bx=>calc .bx
 |bl b=>calc .bl b
 |int i=>calc .int i
 |str x=>calc .str x
 |tup e l i a=>calc .tup (s _ _ e (λk z=>by cases z)) l a
 |lst e l i a=>calc .lst (s _ _ e (λk z=>by cases z)) l a
 |dict e=>calc .dict (s _ _ e (λk z=>by cases z))
def dP(H:Hp)(n:Nat)(vs:List V)(a:List DV):Prop:=vs.length=a.length/\∀(i:Nat) v d,vs[i]?=some v->a[i]?=some d->HD H n v d
theorem dP.cv(s:Cv H H'){n:Nat}{vs:List V}{a:List DV}(h:dP H n vs a):dP H' n vs a:=⟨h.1,λi v d a b=>(h.2 i v d a b).cv s⟩
theorem dP.nil{n:Nat}:dP H n [] []:=⟨rfl,λi v d a=>by simp at a⟩
theorem dP.mono{n m:Nat}{a:List DV}(h:dP H n vs a)(c:n<=m):dP H m vs a:=⟨h.1,λi v d a b=>(h.2 i v d a b).mono c⟩
theorem dP.app{n:Nat}{us:List V}{a b:List DV}(h:dP H n vs a)(g:dP H n us b):dP H n (vs++us) (a++b):=by
 calc⟨by simp[h.1,g.1],λi v d a b=>?_⟩;by_cases c:i<vs.length
 ·rw[List.getElem?_append_left c]at a;rw[List.getElem?_append_left (by rw[<-h.1];calc c)]at b;exact h.2 i _ _ a b
 ·rw[List.getElem?_append_right ()]at a;rw[List.getElem?_append_right (by rw[<-h.1];lia),<-h.1]at b;calc g.2 _ _ _ a b
theorem dP.one{H:Hp}{n:Nat}{v:V}{d:DV}(h:HD H n v d):dP H n [v] [d]:=by
 refine⟨rfl,λi u e a b=>?_⟩
 cases i with
 |zero=>simp at a b;subst a b;calc h
 |succ i=>simp at a
theorem dP.snoc{n:Nat}{a:List DV}{v:V}{d:DV}(h:dP H n vs a)(g:HD H n v d):dP H n (vs++[v]) (a++[d]):=h.app (.one g)
theorem dP.set{n:Nat}{c:List DV}{v:V}{d:DV}(h:dP H n vs c)(g:HD H n v d)(k:Nat):dP H n (vs.set k v) (c.set k d):=by
 calc⟨by simp[h.1],λi u e a b=>?_⟩;rw[List.getElem?_set]at a b;by_cases f:k=i
 ·rw[if_pos f] at a b;split at a
  ·rw[if_pos (by rw[<-h.1];assumption)]at b;cases a;cases b;exact g
  ·cases a
 ·rw[if_neg f]at a b;calc h.2 i u e a b
theorem dP.ints{H:Hp}{n:Nat}(c:List Int):dP H n (c.map V.int) (c.map DV.int):=by
 calc⟨nofun,λi v d a b=>?_⟩;rw[List.getElem?_map]at a b
 cases e:c[i]? with
 |none=>rw[e]at a;cases a
 |some z=>rw[e]at a b;cases a;cases b;calc .int z
theorem dP.jU{n:Nat}{a:List Int}(h:dP H n vs (a.map DV.int)):vs=a.map V.int:=by
 apply List.ext_getElem (by simpa using h.1);intro j d b;have c:j<a.length:=by simpa using b
 have:=h.2 j vs[j] (.int a[j]) nofun (by simp[c]);simp only[List.getElem_map];generalize vs[j]=y at this
 cases this;rfl
theorem dP.get{n:Nat}{a:List DV}(h:dP H n vs a){i:Nat}{d:DV}(e:a[i]?=some d):∃v,vs[i]?=some v/\HD H n v d:=by
 have b:i<a.length:=(List.getElem?_eq_some_iff.mp e).1;have a:i<vs.length:=by rw[h.1];exact b
 calc⟨vs[i],nofun,h.2 i _ _ nofun e⟩
inductive CO where
 |l (ds:List DV)|d (g:Int->Option DV) (n:Nat)
def OR(H:Hp):CO->HO->Prop
 | .l a,.lst vs=>dP H 4 vs a
 | .d g n,.dK a=>a.length<=n/\∀k:Int,match g k with
  |none=>gM a (Sum.inl k)=none
  |some d=>∃v,gM a (Sum.inl k)=some v/\HD H 4 v d
 |_,_=>False
theorem OR.cv{H H':Hp}(s:Cv H H'){c:CO}{o:HO}(h:OR H c o):OR H' c o:=by
 cases c with
 |l a=>
  cases o with
  |lst vs=>calc dP.cv s h
  |_=>calc Y' h
 |d g n=>
  cases o with
  |dK a=>
   calc⟨h.1,λk=>?_⟩;have:=h.2 k;revert this
   cases g k with
   |none=>calc id
   |some d=>calc λ⟨v,e,a⟩=>⟨v,e,a.cv s⟩
  |_=>calc Y' h
def FP(n:Nat->Nat)(ad:Nat->Nat->Addr)(b:Addr):Prop:=∃t i,i<n t/\b=ad t i
structure eu(F:Addr->Prop)(H:Hp)(n:Nat->Nat)(ad:Nat->Nat->Addr)(ct:Nat->Nat->CO):Prop where
 inj:∀t i t' i',i<n t->i'<n t'->ad t i=ad t' i'->t=t'/\i=i'
 out:∀t i,i<n t->¬F (ad t i)
 JX:∀t i,i<n t->∃o,H (ad t i)=some o/\OR (gY (λb=>F b\/FP n ad b) H) (ct t i) o
def setC(ct:Nat->Nat->CO)(t i:Nat)(c:CO):Nat->Nat->CO:=λt' a=>if t'=t/\a=i then c else ct t' a
section
variable {F:Addr->Prop}{H H':Hp}{n:Nat->Nat}{ad:Nat->Nat->Addr}{ct ct':Nat->Nat->CO}
theorem eu.keep(h:eu F H n ad ct)(a:Fr F H H'):eu F H' n ad ct:=
 ⟨h.inj,h.out,λt i c=>by
  obtain⟨o,e,r⟩:=h.JX t i c;calc⟨o,a.at e (h.out t i c),r.cv (a.mono λb z=>.inl z).gY⟩⟩
theorem eu.same(h:eu F H n ad ct)(s:aq H H'):eu F H' n ad ct:=h.keep s.fr
theorem eu.congr(h:eu F H n ad ct)(e:∀t i,i<n t->ct t i=ct' t i):eu F H n ad ct':=
 ⟨h.inj,h.out,λt i a=>by rw[<-e t i a];calc h.JX t i a⟩
theorem eu.upd(h:eu F H n ad ct){t i:Nat}(hi:i<n t){c:CO}{o:HO}(r:OR (gY (λb=>F b\/FP n ad b) H) c o):eu F (upd H (ad t i) o) n ad (setC ct t i c):=by
 have c:(λb=>F b\/FP n ad b) (ad t i):=.inr ⟨t,i,hi,rfl⟩;calc⟨h.inj,h.out,λa d f=>?_⟩;rw[B5 c];by_cases e:a=t/\d=i
 ·obtain⟨rfl,rfl⟩:=e;exact⟨o,af,by unfold setC;rw[if_pos ⟨rfl,rfl⟩];calc r⟩
 ·obtain⟨b,c,g⟩:=h.JX a d f;calc⟨b,?_,by unfold setC;rw[if_neg e];calc g⟩;rw[ay (λz=>e (h.inj _ _ _ _ f hi z))];calc c
theorem eu.lst(h:eu F H n ad ct){t i:Nat}(hi:i<n t){a:List DV}(e:ct t i=.l a):∃vs,H (ad t i)=some (.lst vs)/\dP (gY (λb=>F b\/FP n ad b) H) 4 vs a:=by
 obtain⟨o,c,r⟩:=h.JX t i hi;rw[e]at r
 cases o with
 |lst vs=>calc⟨vs,c,r⟩
 |_=>calc r.elim
theorem eu.dct(h:eu F H n ad ct){t i:Nat}(hi:i<n t){g:Int->Option DV}{N:Nat}(e:ct t i=.d g N):∃a,H (ad t i)=some (.dK a)/\OR (gY (λb=>F b\/FP n ad b) H) (.d g N) (.dK a):=by
 obtain⟨o,c,r⟩:=h.JX t i hi;rw[e]at r
 cases o with
 |dK vs=>calc⟨vs,c,r⟩
 |_=>calc r.elim
theorem eu.app(h:eu F H n ad ct){t i:Nat}(hi:i<n t){a:List DV}(e:ct t i=.l a){vs:List V}(f:H (ad t i)=some (.lst vs)){us:List V}{c:List DV}(g:dP (gY (λb=>F b\/FP n ad b) H) 4 us c):
  eu F (L2.upd H (ad t i) (.lst (vs++us))) n ad (setC ct t i (.l (a++c))):=by
 obtain⟨a,d,r⟩:=h.lst hi e;rw[f]at d
 cases d;calc h.upd hi (show dP _ 4 _ _ from r.app g)
theorem eu.set(h:eu F H n ad ct){t i:Nat}(hi:i<n t){a:List DV}(e:ct t i=.l a){vs:List V}(f:H (ad t i)=some (.lst vs)){k:Nat}{v:V}{d:DV}(g:HD (gY (λb=>F b\/FP n ad b) H) 4 v d):
  eu F (L2.upd H (ad t i) (.lst (vs.set k v))) n ad (setC ct t i (.l (a.set k d))):=by
 obtain⟨a,c,r⟩:=h.lst hi e;rw[f]at c
 cases c;calc h.upd hi (show dP _ 4 _ _ from r.set g k)
theorem OR.soft{c:CO}{o:HO}(h:OR H c o):soft o:=by
 cases c<;>cases o<;>first|trivial|calc Y' h
theorem eu.soft(h:eu F H n ad ct){t i:Nat}(hi:i<n t):∃o,H (ad t i)=some o/\DD.soft o:=by
 obtain⟨o,e,r⟩:=h.JX t i hi;calc⟨o,e,r.soft⟩
theorem eu.fp(h:eu F H n ad ct){b:Addr}(a:FP n ad b):∃o,H b=some o/\DD.soft o:=by
 obtain⟨t,i,c,rfl⟩:=a;calc h.soft c
theorem eu.ne(h:eu F H n ad ct){b:Addr}{o:HO}(e:H b=some o)(c:¬DD.soft o):¬FP n ad b:=λz=>by
 obtain⟨u,a,d⟩:=h.fp z;rw[e]at a;cases a;calc c d
theorem eu.ht(h:eu F H n ad ct)(c:∀b,F b->∃o,H b=some o/\DD.soft o){m:Nat}{x:V}{d:DV}(g:HT H m x d):HD (DD.gY (λb=>F b\/FP n ad b) H) m x d:=by
 calc HT.hd (g.aG λb d e=>?_);rw[gn]
 ·exact e
 ·rintro(z | z)
  ·obtain⟨o,a,f⟩:=c b z;rw[e]at a;cases a;exact f
  ·calc h.ne e id z
end
end DD
namespace DD
open PySem L2
variable {B i:Nat}
def _root_.List.bz{α:Type}(l:List α)(d:α):α:=l.getD (l.length-1) d
theorem getD_at{α:Type}{l:List α}{x d:α}(h:l[i]?=some x):l.getD i d=x:=by rw[List.getD_eq_getElem?_getD,h];rfl
theorem bq{α:Type}{l:List α}{d:α}(h:i<l.length):l[i]?=some (l.getD i d):=by rw[List.getD_eq_getElem?_getD,cP h];rfl
theorem getD_mem{α:Type}{l:List α}{d:α}(h:i<l.length):l.getD i d∈l:=aap (bq h)
theorem rX{α:Type}{l:List α}{x d:α}:(l++[x]).bz d=x:=by
 unfold List.bz;calc getD_at nofun
theorem hV{α:Type}{l:List α}{d:α}(h:1<=l.length):l.bz d∈l:=getD_mem ()
theorem jH{α:Type}{l:List α}{d:α}(h:1<=l.length):l[l.length-1]?=some (l.bz d):=bq ()
structure MS where
 gH:List (List Int×List Int)
 wp:List (List Int)
 hr:List (List Int)
structure WY where
 say:List Int
 snd:List (Option (Int×Int))
 eB:List (Option (Int×Int))
structure RS where
 picks:List (Int×Int)
 mm:Nat->MS
 ww:Nat->WY
structure NT where
 ms:List MD
 ws:List (Int×Int×Str)
def pairD(p:Int×Int):DV:=.tup [.int p.1,.int p.2]
def tJ:Option (Int×Int)->DV
 |none=>.bx
 |some p=>pairD p
def qz(s:List Int×List Int):DV:=yq s.1 s.2
def NT.M(n:NT)(m:Nat):Int:=(n.ms.getD m default).M
def NT.nn(n:NT)(m:Nat):Nat:=(n.ms.getD m default).ns.length
def NT.ds(n:NT)(m:Nat):List bu:=(n.ms.getD m default).ds
def NT.w(n:NT)(w:Nat):Int×Int×Str:=n.ws.getD w (0,0,"")
def NT.outs(n:NT)(m:Int):List Nat:=(List.range n.ws.length).filter λi=>decide ((n.w i).1=m)
def NT.ins(n:NT)(m:Int):List Nat:=(List.range n.ws.length).filter λi=>decide ((n.w i).2.1=m)
def NT.goal(n:NT)(w:Nat):Nat:=(n.w w).2.1.toNat
def NT.place(n:NT)(w:Nat):Nat:=(n.ins (n.w w).2.1).idxOf w
def RS.put(r:RS)(w:Nat)(x:Int)(s:Option (Int×Int)):RS:=
 {r with ww:=λk=>if k=w then⟨(r.ww w).say++[x],(r.ww w).snd++[s],(r.ww w).eB++[none]⟩ else r.ww k}
def RS.send(r:RS)(outs:List Nat)(ev:Int×Int):List (Int×Int)->RS
 | []=>r
 |p::a=>(if p.1.toNat<outs.length then r.put (outs.getD p.1.toNat 0) p.2 (some ev) else r).send outs ev a
def NT.work(n:NT)(r:RS)(w k:Nat):WS:=
 nY (n.M (n.goal w)) (n.place w) ((r.ww w).say.getD k 0) (n.ds (n.goal w)) ((r.mm (n.goal w)).gH.bz ([],[])).1 ((r.mm (n.goal w)).gH.bz ([],[])).2
def NT.ev(n:NT)(r:RS)(w:Nat):Int×Int:=((n.goal w:Nat),((r.mm (n.goal w)).gH.length:Nat))
def NT.fV(n:NT)(r:RS)(w k:Nat):List Int:=
 let m:=n.goal w
 let b:=(r.mm m).hr.bz (List.replicate n.ms.length 0)
 let a:=match (r.ww w).snd.getD k none with
  |none=>b
  |some (s,c)=>List.zipWith max b ((r.mm s.toNat).hr.getD (c-1).toNat [])
 a.set m (n.ev r w).2
def RS.step(n:NT)(r:RS)(w k:Nat):RS:=
 let m:=n.goal w
 let res:=n.work r w k
 {picks:=r.picks++[((w:Int),(k:Int))]
  mm:=λi=>if i=m then⟨(r.mm m).gH++[(res.ns,res.row)],(r.mm m).wp++[(r.mm m).wp.bz []++res.words],(r.mm m).hr++[n.fV r w k]⟩ else r.mm i
  ww:=λi=>if i=w then {(r.ww w) with eB:=(r.ww w).eB.set k (some (n.ev r w))} else r.ww i}
def RS.pick(n:NT)(r:RS)(w k:Nat):RS:=(r.step n w k).send (n.outs (n.goal w)) (n.ev r w) (n.work r w k).cQ
def RS.kK(r:RS):List (Int×Int)->RS
 | []=>r
 |p::a=>(r.put p.1.toNat p.2 none).kK a
def RS.new(n:NT):RS:=⟨[],λm=>⟨[((n.ms.getD m default).ns,(n.ms.getD m default).row)],[[]],[]⟩,λ_=>⟨[],[],[]⟩⟩
def RS.begin(n:NT)(a:List (Int×Int)):RS:=(RS.new n).kK a
def kL(l:List (Option (Int×Int)))(k:Int):Option DV:=if 0<=k then(l.getD k.toNat none).map pairD else none
def RS.ct(r:RS):Nat->Nat->CO
 |0,_=>.l (r.picks.map pairD)
 |1,m=>.l ((r.mm m).gH.map qz)
 |2,m=>.l ((r.mm m).wp.map λw=>.int (w.length:Nat))
 |3,m=>.l (((r.mm m).wp.bz []).map .int)
 |4,w=>.l ((r.ww w).say.map .int)
 |5,w=>.l ((r.ww w).snd.map tJ)
 |_,w=>.l ((r.ww w).eB.map tJ)
def NT.n(n:NT):Nat->Nat
 |0=>1
 |1=>n.ms.length
 |2=>n.ms.length
 |3=>n.ms.length
 |4=>n.ws.length
 |5=>n.ws.length
 |6=>n.ws.length
 |_=>0
structure NT.Ok(n:NT):Prop where
 Zc:n.ms.length<=5
 ms1:1<=n.ms.length
 AE:n.ws.length<=10
 good:∀d∈n.ms,d.good
 abd:∀w∈n.ws,0<=w.1/\w.1<n.ms.length/\0<=w.2.1/\w.2.1<n.ms.length/\(w.2.2="row"\/w.2.2="heap")
structure Lp(M:Int)(nn:Nat)(s:List Int×List Int):Prop where
 ln:s.1.length=nn
 bn:∀z∈s.1,0<=z/\z<M
 lr:s.2.length<=12
structure RS.Ok(n:NT)(r:RS):Prop where
 lw:∀m,m<n.ms.length->(r.mm m).gH.length=(r.mm m).wp.length
 lh:∀m,m<n.ms.length->(r.mm m).gH.length=(r.mm m).hr.length+1
 so:∀m,m<n.ms.length->∀s∈(r.mm m).gH,Lp (n.M m) (n.nn m) s
 hl:∀m,m<n.ms.length->∀h∈(r.mm m).hr,h.length=n.ms.length
 ls:∀w,w<n.ws.length->(r.ww w).say.length=(r.ww w).snd.length
 lk:∀w,w<n.ws.length->(r.ww w).say.length=(r.ww w).eB.length
 sd:∀w,w<n.ws.length->∀s c,some (s,c)∈(r.ww w).snd->0<=s/\s<n.ms.length/\1<=c/\c<=(r.mm s.toNat).hr.length
 bp:∀m,m<n.ms.length->(r.mm m).gH.length<=r.picks.length+1
 bw:∀m,m<n.ms.length->∀w∈(r.mm m).wp,w.length<=24*r.picks.length
 bs:∀w,w<n.ws.length->(r.ww w).say.length<=20+24*r.picks.length
 VA:∀m,m<n.ms.length->∀u∈(r.mm m).wp,u <+:(r.mm m).wp.bz []
theorem yz{M way said:Int}{n:Int}:∀(f:Nat) (b:List bu) (s:WS),(∀d∈b,d.ok n)->(∀p∈s.cQ,0<=p.1)->∀p∈(yr M way said f b s).cQ,0<=p.1
 |0,_,s,_,h=>h
 |f+1,[],s,_,h=>h
 |f+1,d::r,s,c,h=>by
  calc yz f _ _ (λe b=>c e (aaf _ (List.mem_of_mem_drop b))) ?_;intro p a;have a:p∈s.cQ++ib ((d.vals.map (fT M way said s.ns s.row)).getD 0 0) d:=a;rcases List.mem_append.mp a with a|a
  ·exact h p a
  ·have g:=c d (aas ..)
   cases d with
   |send j v=>
    simp only[ib,List.mem_singleton]at a;subst a;calc g.1
   |_=>simp only[ib,List.not_mem_nil]at a
theorem B6{M way said:Int}:∀(f:Nat) (a:List bu) (s:WS),(yr M way said f a s).cQ.length<=s.cQ.length+a.length/\(yr M way said f a s).words.length<=s.words.length+a.length/\(yr M way said f a s).ns.length=s.ns.length
 |0,_,s=>⟨Nat.le_add_right ..,Nat.le_add_right ..,rfl⟩
 |f+1,[],s=>⟨K' _,K' _,rfl⟩
 |f+1,d::r,s=>by
  obtain⟨a,b,c⟩:=B6 (M:=M) (way:=way) (said:=said) f (r.drop (mn M way said d s).toNat) (fU M way said d s);have a:(fU M way said d s).cQ.length<=s.cQ.length+1:=by
   show(s.cQ++ib _ d).length<=_
   cases d<;>simp[ib]
  have a:(fU M way said d s).words.length<=s.words.length+1:=by
   show(s.words++gm _ d).length<=_
   cases d<;>simp[gm]
  have a:(fU M way said d s).ns.length=s.ns.length:=pq;have a:(r.drop (mn M way said d s).toNat).length<=r.length:=by simp
  refine⟨?_,?_,?_⟩
  ·show(yr M way said f _ _).cQ.length<=_;simp only[List.length_cons];lia
  ·show(yr M way said f _ _).words.length<=_;simp only[List.length_cons];lia
  ·show(yr M way said f _ _).ns.length=_;lia
theorem B7{M way said:Int}(c:0<M):∀(f:Nat) (e:List bu) (s:WS),(∀z∈s.ns,0<=z/\z<M)->s.row.length<=12->(∀z∈(yr M way said f e s).ns,0<=z/\z<M)/\(yr M way said f e s).row.length<=12
 |0,_,s,h,g=>⟨h,g⟩
 |f+1,[],s,h,g=>⟨h,g⟩
 |f+1,d::r,s,h,g=>by
  refine B7 c f _ _ ?_ ?_
  ·have b:∀y:Int,0<=y % M/\y % M < M:=λy=>⟨aaR _ (),aaL _ c⟩
   have a:∀(j:Nat) (y:Int),(0<=y/\y<M)->∀z∈s.ns.set j y,0<=z/\z<M:=λj y k z l=>by
    rcases List.mem_or_eq_of_mem_set l with c|c
    ·exact h z c
    ·rw[c];exact k
   show ∀z∈jG M s.ns ((d.vals.map (fT M way said s.ns s.row)).getD 0 0) d,0<=z/\z<M
   cases d with
   |set i v=>calc a _ _ (b _)
   |add i v=>calc a _ _ (b _)
   |times i v=>calc a _ _ (b _)
   |_=>exact h
  ·show(nW s.row ((d.vals.map (fT M way said s.ns s.row)).getD 0 0) d).length<=12
   cases d with
   |put v=>
    simp only[nW];split
    ·simp;lia
    ·calc g
   |drop=>simp only[nW,List.length_tail];lia
   |_=>calc g
section
variable {n:NT}{r:RS}
theorem NT.Ok.gd(h:n.Ok){m:Nat}(a:m<n.ms.length):(n.ms.getD m default).good:=by
 calc h.good _ (getD_mem a)
theorem NT.Ok.wy(h:n.Ok){w:Nat}(a:w<n.ws.length):0<=(n.w w).1/\(n.w w).1<n.ms.length/\0<=(n.w w).2.1/\(n.w w).2.1<n.ms.length/\((n.w w).2.2="row"\/(n.w w).2.2="heap"):=by
 calc h.abd _ (getD_mem a)
theorem NT.Ok.jV(h:n.Ok){w:Nat}(a:w<n.ws.length):n.goal w<n.ms.length:=by
 have:=h.wy a;unfold NT.goal;lia
theorem RS.Ok.wD(h:r.Ok n){m:Nat}(a:m<n.ms.length):1<=(r.mm m).gH.length:=by rw[h.lh m a];lia
theorem RS.Ok.last(h:r.Ok n){m:Nat}(a:m<n.ms.length):Lp (n.M m) (n.nn m) ((r.mm m).gH.bz ([],[])):=h.so m a _ (hV (h.wD a))
theorem qS(a:n.Ok)(h:r.Ok n){w:Nat}(c:w<n.ws.length)(k:Nat):Lp (n.M (n.goal w)) (n.nn (n.goal w)) ((n.work r w k).ns,(n.work r w k).row)/\(n.work r w k).cQ.length<=24/\(n.work r w k).words.length<=24/\∀p∈(n.work r w k).cQ,0<=p.1:=by
 have b:=a.jV c;have g:=a.gd b;have l:=h.last b;have a:(n.ds (n.goal w)).length<=24:=g.Zb;have b:0<n.M (n.goal w):=by have:=g.m2;show 0<(n.ms.getD (n.goal w) default).M;lia
 obtain⟨d,e,f⟩:=B6 (M:=n.M (n.goal w)) (way:=n.place w) (said:=(r.ww w).say.getD k 0) (n.ds (n.goal w)).length (n.ds (n.goal w)) ⟨((r.mm (n.goal w)).gH.bz ([],[])).1,((r.mm (n.goal w)).gH.bz ([],[])).2,[],[]⟩;obtain⟨h,i⟩:=B7 b (way:=n.place w) (said:=(r.ww w).say.getD k 0) (n.ds (n.goal w)).length (n.ds (n.goal w)) ⟨((r.mm (n.goal w)).gH.bz ([],[])).1,((r.mm (n.goal w)).gH.bz ([],[])).2,[],[]⟩ l.bn l.lr;have c:=yz (M:=n.M (n.goal w)) (way:=n.place w) (said:=(r.ww w).say.getD k 0) (n:=n.nn (n.goal w)) (n.ds (n.goal w)).length (n.ds (n.goal w)) ⟨((r.mm (n.goal w)).gH.bz ([],[])).1,((r.mm (n.goal w)).gH.bz ([],[])).2,[],[]⟩ g.ok (λp b=>by simp at b);refine⟨⟨?_,h,i⟩,?_,?_,c⟩
 ·exact f.trans l.ln
 ·exact aae d (by simpa using a)
 ·calc aae e (by simpa using a)
structure RS.tK(n:NT)(r:RS)(B:Nat):Prop where
 lw:∀m,m<n.ms.length->(r.mm m).gH.length=(r.mm m).wp.length
 lh:∀m,m<n.ms.length->(r.mm m).gH.length=(r.mm m).hr.length+1
 so:∀m,m<n.ms.length->∀s∈(r.mm m).gH,Lp (n.M m) (n.nn m) s
 hl:∀m,m<n.ms.length->∀h∈(r.mm m).hr,h.length=n.ms.length
 ls:∀w,w<n.ws.length->(r.ww w).say.length=(r.ww w).snd.length
 lk:∀w,w<n.ws.length->(r.ww w).say.length=(r.ww w).eB.length
 sd:∀w,w<n.ws.length->∀s c,some (s,c)∈(r.ww w).snd->0<=s/\s<n.ms.length/\1<=c/\c<=(r.mm s.toNat).hr.length
 bp:∀m,m<n.ms.length->(r.mm m).gH.length<=r.picks.length+1
 bw:∀m,m<n.ms.length->∀w∈(r.mm m).wp,w.length<=24*r.picks.length
 bs:∀w,w<n.ws.length->(r.ww w).say.length<=B
 VA:∀m,m<n.ms.length->∀u∈(r.mm m).wp,u <+:(r.mm m).wp.bz []
theorem RS.tK.ok(h:r.tK n B)(a:B<=20+24*r.picks.length):r.Ok n:=⟨h.lw,h.lh,h.so,h.hl,h.ls,h.lk,h.sd,h.bp,h.bw,λw b=>aae (h.bs w b) a,h.VA⟩
theorem RS.tK.put(h:r.tK n B){w:Nat}{x:Int}{s:Option (Int×Int)}(g:∀a c,s=some (a,c)->0<=a/\a<n.ms.length/\1<=c/\c<=(r.mm a.toNat).hr.length):(r.put w x s).tK n (B+1):=by
 have e:∀k,(r.put w x s).ww k=if k=w then⟨(r.ww w).say++[x],(r.ww w).snd++[s],(r.ww w).eB++[none]⟩ else r.ww k:=λk=>rfl
 refine⟨h.lw,h.lh,h.so,h.hl,λv b=>?_,λv b=>?_,λv b a c d=>?_,h.bp,h.bw,λv b=>?_,h.VA⟩
 ·rw[e];split
  ·next z=>subst z;simp[h.ls v b]
  ·exact h.ls v b
 ·rw[e];split
  ·next z=>subst z;simp[h.lk v b]
  ·exact h.lk v b
 ·rw[e] at d;split at d
  ·next z=>
   subst z;rcases List.mem_append.mp d with d|d
   ·exact h.sd v b a c d
   ·simp at d;exact g a c d.symm
  ·exact h.sd v b a c d
 ·rw[e];split
  ·next z=>subst z;have:=h.bs v b;simp;lia
  ·have:=h.bs v b;lia
theorem RS.tK.mono{a:Nat}(h:r.tK n B)(b:B<=a):r.tK n a:={h with bs:=λw a=>aae (h.bs w a) b}
theorem RS.tK.send{outs:List Nat}{ev:Int×Int}:∀(b:List (Int×Int)) {r:RS}{B:Nat},r.tK n B->(∀a c,some ev=some (a,c)->0<=a/\a<n.ms.length/\1<=c/\c<=(r.mm a.toNat).hr.length)->(r.send outs ev b).tK n (B+b.length)
 | [],r,B,h,_=>h
 |p::b,r,B,h,d=>by
  show((if p.1.toNat<outs.length then r.put (outs.getD p.1.toNat 0) p.2 (some ev) else r).send outs ev b).tK n _;have e:B+(p::b).length=B+1+b.length:=by simp;lia
  rw[e];split
  ·exact RS.tK.send b (h.put d) d
  ·calc RS.tK.send b (h.mono ()) d
theorem RS.wF{outs:List Nat}{ev:Int×Int}:∀(a:List (Int×Int)) {r:RS},(r.send outs ev a).mm=r.mm/\(r.send outs ev a).picks=r.picks
 | [],r=>⟨rfl,rfl⟩
 |p::a,r=>by
  show((if p.1.toNat<outs.length then r.put (outs.getD p.1.toNat 0) p.2 (some ev) else r).send outs ev a).mm=_/\((if p.1.toNat<outs.length then r.put (outs.getD p.1.toNat 0) p.2 (some ev) else r).send outs ev a).picks=_;split
  ·exact RS.wF a
  ·calc RS.wF a
theorem AF{u v w:List Int}(h:u <+:v):u <+:v++w:=by
 obtain⟨t,rfl⟩:=h;calc⟨t++w,nofun⟩
theorem yA(o:n.Ok)(h:r.Ok n){w:Nat}(j:w<n.ws.length){k:Nat}:(n.fV r w k).length=n.ms.length:=by
 have p:=o.jV j;have m:((r.mm (n.goal w)).hr.bz (List.replicate n.ms.length 0)).length=n.ms.length:=by
  by_cases f:1<=(r.mm (n.goal w)).hr.length
  ·exact h.hl _ p _ (hV f)
  ·have e:(r.mm (n.goal w)).hr=[]:=by
    cases q:(r.mm (n.goal w)).hr with
    |nil=>rfl
    |cons a b=>rw[q]at f;simp at f
   rw[e];simp[List.bz]
 unfold NT.fV;simp only[List.length_set];split
 ·exact m
 ·next s c e=>
  have g:k<(r.ww w).snd.length:=by
   by_cases g:k<(r.ww w).snd.length
   ·exact g
   ·rw[List.getD_eq_getElem?_getD,List.getElem?_eq_none ()]at e;cases e
  have t:some (s,c)∈(r.ww w).snd:=by rw[<-e];exact getD_mem g
  obtain⟨u,v,x,y⟩:=h.sd w j s c t;have:=h.hl s.toNat () _ (getD_mem (l:=(r.mm s.toNat).hr) (i:=(c-1).toNat) (d:=[]) ());rw[List.length_zipWith,m,this];lia
theorem RS.Ok.step(t:n.Ok)(h:r.Ok n){w k:Nat}(p:w<n.ws.length):(r.step n w k).tK n (20+24*r.picks.length):=by
 have g:=t.jV p;obtain⟨A,F,G,H⟩:=qS t h p k;have j:∀i,(r.step n w k).mm i=if i=n.goal w then⟨(r.mm (n.goal w)).gH++[((n.work r w k).ns,(n.work r w k).row)],(r.mm (n.goal w)).wp++[(r.mm (n.goal w)).wp.bz []++(n.work r w k).words],(r.mm (n.goal w)).hr++[n.fV r w k]⟩ else r.mm i:=λi=>rfl
 have q:∀i,(r.step n w k).ww i=if i=w then {(r.ww w) with eB:=(r.ww w).eB.set k (some (n.ev r w))} else r.ww i:=λi=>rfl
 have x:(r.step n w k).picks.length=r.picks.length+1:=by show(r.picks++[_]).length=_;simp
 refine⟨λm f=>?_,λm f=>?_,λm f s b=>?_,λm f s b=>?_,λv o=>?_,λv o=>?_,λv o a c b=>?_,λm f=>?_,λm f u e=>?_,λv o=>?_,λm f u e=>?_⟩
 ·rw[j];split
  ·simp[h.lw _ g]
  ·exact h.lw m f
 ·rw[j];split
  ·simp[h.lh _ g]
  ·exact h.lh m f
 ·rw[j] at b;split at b
  ·next z=>
   subst z;rcases List.mem_append.mp b with b|b
   ·exact h.so _ g s b
   ·simp at b;subst b;exact A
  ·exact h.so m f s b
 ·rw[j] at b;split at b
  ·rcases List.mem_append.mp b with b | b
   ·exact h.hl _ g s b
   ·simp at b;subst b;exact yA t h p
  ·exact h.hl m f s b
 ·rw[q];split
  ·exact h.ls w p
  ·exact h.ls v o
 ·rw[q];split
  ·simp[h.lk w p]
  ·exact h.lk v o
 ·have B:some (a,c)∈(r.ww v).snd:=by
   rw[q]at b;split at b
   ·next z=>subst z;exact b
   ·exact b
  obtain⟨C,D,E,y⟩:=h.sd v o a c B;calc⟨C,D,E,?_⟩;rw[j];split
  ·next z=>rw[z]at y;simp;lia
  ·exact y
 ·rw[j,x];split
  ·have:=h.bp _ g;simp;lia
  ·have:=h.bp _ f;lia
 ·rw[x];rw[j] at e;split at e
  ·rcases List.mem_append.mp e with e | e
   ·have:=h.bw _ g u e;lia
   ·simp at e;subst e;have:=h.bw _ g _ (hV (l:=(r.mm (n.goal w)).wp) (d:=[]) (by rw[<-h.lw _ g];calc h.wD g));simp;lia
  ·have:=h.bw _ f u e;lia
 ·rw[q];split
  ·exact h.bs w p
  ·exact h.bs v o
 ·rw[j] at e ⊢;split at e
  ·next z=>
   rw[if_pos z];show u <+:((r.mm (n.goal w)).wp++[_]).bz [];rw[rX];rcases List.mem_append.mp e with e|e
   ·exact AF (h.VA _ g u e)
   ·simp at e;subst e;exact List.prefix_refl _
  ·next z=>rw[if_neg z];calc h.VA m f u e
theorem RS.Ok.pick(a:n.Ok)(h:r.Ok n){w k:Nat}(b:w<n.ws.length):(r.pick n w k).Ok n/\(r.pick n w k).picks=r.picks++[((w:Int),(k:Int))]:=by
 have d:=a.jV b;obtain⟨c,f,g,i⟩:=qS a h b k;have s:=RS.tK.send (outs:=n.outs (n.goal w)) (ev:=n.ev r w) (n.work r w k).cQ (h.step a b (k:=k)) (λa c e=>by
  cases e;refine⟨(),(),?_,?_⟩
  ·have:=h.wD d;lia
  ·have a:(r.step n w k).mm (n.goal w)=⟨(r.mm (n.goal w)).gH++[((n.work r w k).ns,(n.work r w k).row)],(r.mm (n.goal w)).wp++[(r.mm (n.goal w)).wp.bz []++(n.work r w k).words],(r.mm (n.goal w)).hr++[n.fV r w k]⟩:=if_pos rfl;rw[show((n.goal w:Nat):Int).toNat=n.goal w from Int.toNat_natCast _,a,h.lh _ d];simp)
 have a:=(RS.wF (outs:=n.outs (n.goal w)) (ev:=n.ev r w) (n.work r w k).cQ (r:=r.step n w k)).2;calc⟨s.ok ?_,a⟩;rw[a];show _<=20+24*(r.picks++[_]).length;simp;lia
end
end DD
namespace L2
open PySem PySem.Spec PyProof.Rows Builtin Builtin.Str
section
variable {X:Cx}
theorem yB{i j l:Nat}{x y z:Str}{d e f a:Pos}{k:Nat}(g:X.calm=true)(b:X.N.Nodup)(hi:X.N[i]?=some x)(h:X.N[j]?=some y)(m:X.N[l]?=some z)(n:Loc X.env.scope x)(o:Loc X.env.scope y)(p:Loc X.env.scope z)
  (q:X.fn x=true\/X.env.scope.names.lookup x=some .local:=by grind) (r:X.fn y=true\/X.env.scope.names.lookup y=some .local:=by grind) (c:X.fn z=true\/X.env.scope.names.lookup z=some .local:=by grind):
  PG X (.Tuple [.Name x d,.Name y e,.Name z f] k a) (Fo X.K 3 (me (fL i) (me (fL j) (me (fL l) Fm)))):=vQ g (fM (aX b hi n q) (fM (aX b h o r) (fM (aX b m p c) qK)))
end
end L2
namespace L2
open PySem PyProof.Rows
theorem lt1{a b:Nat}(h:a+64<b):a+1<b:=by lia
section
variable {X:Cx}
def AG(z:Int):Value->Bool
 | .int i _=>i==z
 |_=>false
theorem rY:∀{c:List Int}{us:List Value},Vals (c.map V.int) us->us.length=c.length/\∀(i:Nat) u z,us[i]?=some u->c[i]?=some z->∃t,u=.int z t
 | [],_,.nil=>⟨rfl,λi u z h=>by simp at h⟩
 |n::c,_,.cons r t=>by
  obtain⟨l,h⟩:=rY t;refine⟨by simp[l],λi u z a b=>?_⟩
  cases i with
  |zero=>simp at a b;subst a b;calc r
  |succ i=>calc h i u z (by simpa using a) (by simpa using b)
def Lq:V->List V->Hp->VK->Prop:=λx vs H Q=>∃(a:Addr) (b:List Int) (j:Nat) (z:Int),x=.ref a/\vs=[.int z]/\H a=some (.lst (b.map V.int))/\b[j]?=some z/\(∀i y,i<j->b[i]?=some y->y≠z)/\Q (.int j) H
theorem u7:MP X "list.index" Lq:=by
 intro k s σ H x O v P Q I r D h;obtain⟨a,d,j,z,rfl,rfl,E,l,G,q⟩:=h
 cases r;obtain⟨u,rfl,o,rfl⟩:=D.one;obtain⟨b,r,J,k⟩:=I.list (aS.of E);obtain⟨h,K⟩:=rY r;have h:j<d.length:=(List.getElem?_eq_some_iff.mp l).1;have p:(d.map V.int).length<=sizeLine:=k;rw[List.length_map]at p;obtain⟨⟨r,s,h,L⟩,n,w,A,B,e⟩:=id J;simp only at A B e;subst A B e;have h:j<b.length:=by lia
 have c:∀m (f:m<b.length),∃y t,d[m]?=some y/\b[m]=.int y t:=λm f=>by
  have C:m<d.length:=by lia
  obtain⟨t,e⟩:=K m b[m] d[m] nofun nofun;exact⟨d[m],t,nofun,e⟩
 refine call_meets PySem.F.slot_list_index ⟨_,w,rfl⟩ PySem.F.entry_list_index (PySem.F.args_list_index_2 _ _) (SeqAt.list_indexAt a b.toArray n none L (.int z o) (AG z) j (by simpa using h) (by rw[sizeLine_eq]at p;lia) ?_ ?_) ⟨w,λy M=>?_,?_⟩
 ·obtain⟨y,t,g,i⟩:=c j h;rw[l] at g
  cases g;simp[i,AG]
 ·intro m f a;have C:m < b.length:=by simpa using f
  obtain⟨y,t,g,i⟩:=c m C;have:=G m y a g;simp[i,AG,this]
 ·have N:y ∈ b:=by simpa using M
  obtain⟨m,f,rfl⟩:=List.getElem_of_mem N;obtain⟨y,t,g,i⟩:=c m f;rw[i];exact SeqAt.EqAt.int_int y t z o
 ·calc⟨.int _,H,I.tok _,⟨_,rfl⟩,q⟩
end
end L2
namespace L2
open PySem PySem.Spec PyProof.Rows
section
def VB(K:W.Frag):V->Option Int->Option Int->Hp->VK->Prop:=λx lo hi H Q=>match x with
 | .ref a=>∃xs,aS K H a xs/\∀p,H p=none->Q (.ref p) (upd H p (.lst (bR xs lo hi)))
 |_=>False
theorem abf{X:Cx}:Uq X (VB X.K):=by
 intro a s σ H x v b c d e f Q I g i j k h
 cases x<;>first
  |calc(show False from h).elim
  |skip
 obtain⟨l,m,q⟩:=h;calc BG a s σ H _ v b c d e f Q I g i j k ⟨_,l,rfl,m,q⟩
theorem Qp{X:Cx}{e:Expr}{b:TE}{lo hi:Option Expr}{c d:TO}{a f:Pos}(g:PE X e b)(h:PO X lo c)(i:PO X hi d):PE X (.Subscript e (.Slice lo hi none f) a) (Ur (VB X.K) b c d):=xS abf g h i
theorem Lr{xs:List V}{i j:Nat}:(bR xs (some (i:Int)) (some (j:Int))).length<=j-i:=by
 unfold bR;rw[show HT.eE xs.length 0 (some (i:Int))=min i xs.length from HT.vU _ _ i,show HT.eE xs.length xs.length (some (j:Int))=min j xs.length from HT.vU _ _ j,List.length_take];calc aae (Nat.min_le_left _ _) ?_;rcases Nat.le_total xs.length i with h|h
 ·rw[Nat.min_eq_right h,Nat.sub_eq_zero_of_le (Nat.min_le_right _ _)];exact aaa _
 ·rw[Nat.min_eq_left h];calc Nat.sub_le_sub_right (Nat.min_le_left _ _) _
theorem Zd{xs:List V}{lo hi:Option Int}{v:V}(h:v∈bR xs lo hi):v∈xs:=List.mem_of_mem_drop (List.mem_of_mem_take h)
end
section
variable {a dx:Addr}{Q:Bool->Hp->Prop}{X:Cx}{H:Hp}{f:Str}{v:V}{K:W.Frag}
theorem fld{C:Addr}{b:List (Str×V)}{Q:V->Prop}(h:H a=some (.ins C dx b))(c:tN K C)(n:bG K C f)(l:b.lookup f=some v)(q:Q v):∃e d j g i,V.ref a=.ref e/\H e=some (.ins d j g)/\tN K d/\bG K d f/\g.lookup f=some i/\Q i:=⟨a,C,dx,b,v,rfl,h,c,n,l,q⟩
theorem mth{C:Addr}{b:List (Str×V)}{Q:Addr->Prop}(h:H a=some (.ins C dx b))(l:b.lookup f=none)(q:Q a):∃c e d,V.ref a=.ref c/\H c=some (.ins C e d)/\d.lookup f=none/\Q c:=⟨a,dx,b,rfl,h,l,q⟩
theorem fG{C:Addr}{b:List (Str×V)}{Q:V->Prop}(h:H a=some (.ins C dx b))(c:tN K C)(n:bG K C f)(l:b.lookup f=some v)(q:Q v):∃e d j g i,a=e/\H e=some (.ins d j g)/\tN K d/\bG K d f/\g.lookup f=some i/\Q i:=⟨a,C,dx,b,v,rfl,h,c,n,l,q⟩
theorem gI{C:Addr}{b:List (Str×V)}{Q:Addr->Prop}(h:H a=some (.ins C dx b))(l:b.lookup f=none)(q:Q a):∃c e d,a=c/\H c=some (.ins C e d)/\d.lookup f=none/\Q c:=⟨a,dx,b,rfl,h,l,q⟩
theorem yC{x y:V}{P:V->V->Prop}(h:bH K H a [x,y])(q:P x y):∃b xs,V.ref a=.ref b/\bH K H b xs/\xs.length=2/\∃v r,xs=v::r/\∃c d,r=c::d/\d=[]/\P v c:=⟨a,_,rfl,h,rfl,_,_,rfl,_,_,rfl,rfl,q⟩
theorem un3{x y z:V}{P:V->V->V->Prop}(h:bH K H a [x,y,z])(q:P x y z):∃d xs,V.ref a=.ref d/\bH K H d xs/\xs.length=3/\∃v r,xs=v::r/\∃e f,r=e::f/\∃b c,f=b::c/\c=[]/\P v e b:=⟨a,_,rfl,h,rfl,_,_,rfl,_,_,rfl,_,_,rfl,rfl,q⟩
theorem g9{A B R:Prop}(a:A)(b:B)(r:R):A/\B/\R:=⟨a,b,r⟩
theorem bI{α:Type}{A R:α->Prop}(x:α)(a:A x)(r:R x):∃x,A x/\R x:=⟨x,a,r⟩
theorem hJ{α:Type}{A B R:α->Prop}(x:α)(a:A x)(b:B x)(r:R x):∃x,A x/\B x/\R x:=⟨x,a,b,r⟩
theorem Ls{α:Type}{A B C R:α->Prop}(x:α)(a:A x)(b:B x)(ch:C x)(r:R x):∃x,A x/\B x/\C x/\R x:=⟨x,a,b,ch,r⟩
theorem DQ{α β:Type}{A R:α->β->Prop}(x:α)(y:β)(a:A x y)(r:R x y):∃x y,A x y/\R x y:=⟨x,y,a,r⟩
theorem dz{α β:Type}{A B R:α->β->Prop}(x:α)(y:β)(a:A x y)(b:B x y)(r:R x y):∃x y,A x y/\B x y/\R x y:=⟨x,y,a,b,r⟩
theorem ub{α β:Type}{A B C R:α->β->Prop}(x:α)(y:β)(a:A x y)(b:B x y)(ch:C x y)(r:R x y):∃x y,A x y/\B x y/\C x y/\R x y:=⟨x,y,a,b,ch,r⟩
theorem mD{α β:Type}{A B C D R:α->β->Prop}(x:α)(y:β)(a:A x y)(b:B x y)(ch:C x y)(c:D x y)(r:R x y):∃x y,A x y/\B x y/\C x y/\D x y/\R x y:=⟨x,y,a,b,ch,c,r⟩
theorem abg{α β γ:Type}{A B R:α->β->γ->Prop}(x:α)(y:β)(z:γ)(a:A x y z)(b:B x y z)(r:R x y z):∃x y z,A x y z/\B x y z/\R x y z:=⟨x,y,z,a,b,r⟩
theorem VC{α β γ:Type}{A B C R:α->β->γ->Prop}(x:α)(y:β)(z:γ)(a:A x y z)(b:B x y z)(ch:C x y z)(r:R x y z):∃x y z,A x y z/\B x y z/\C x y z/\R x y z:=⟨x,y,z,a,b,ch,r⟩
theorem fW{α β γ δ:Type}{A B R:α->β->γ->δ->Prop}(x:α)(y:β)(z:γ)(u:δ)(a:A x y z u)(b:B x y z u)(r:R x y z u):∃x y z u,A x y z u/\B x y z u/\R x y z u:=⟨x,y,z,u,a,b,r⟩
theorem abh{α β γ δ:Type}{A B C R:α->β->γ->δ->Prop}(x:α)(y:β)(z:γ)(u:δ)(a:A x y z u)(b:B x y z u)(ch:C x y z u)(r:R x y z u):∃x y z u,A x y z u/\B x y z u/\C x y z u/\R x y z u:=⟨x,y,z,u,a,b,ch,r⟩
theorem VD{α β γ δ:Type}{A B C D R:α->β->γ->δ->Prop}(x:α)(y:β)(z:γ)(u:δ)(a:A x y z u)(b:B x y z u)(ch:C x y z u)(c:D x y z u)(r:R x y z u):∃x y z u,A x y z u/\B x y z u/\C x y z u/\D x y z u/\R x y z u:=⟨x,y,z,u,a,b,ch,c,r⟩
theorem qA{α β γ δ:Type}{A B C D E R:α->β->γ->δ->Prop}(x:α)(y:β)(z:γ)(u:δ)(a:A x y z u)(b:B x y z u)(ch:C x y z u)(c:D x y z u)(d:E x y z u)(r:R x y z u):∃x y z u,A x y z u/\B x y z u/\C x y z u/\D x y z u/\E x y z u/\R x y z u:=⟨x,y,z,u,a,b,ch,c,d,r⟩
theorem abi{α β γ δ:Type}{A B C D E F R:α->β->γ->δ->Prop}(x:α)(y:β)(z:γ)(u:δ)(a:A x y z u)(b:B x y z u)(ch:C x y z u)(c:D x y z u)(d:E x y z u)(e:F x y z u)(r:R x y z u):∃x y z u,A x y z u/\B x y z u/\C x y z u/\D x y z u/\E x y z u/\F x y z u/\R x y z u:=⟨x,y,z,u,a,b,ch,c,d,e,r⟩
theorem abj{α β γ δ ε:Type}{A B C D R:α->β->γ->δ->ε->Prop}(x:α)(y:β)(z:γ)(u:δ)(v:ε)(a:A x y z u v)(b:B x y z u v)(ch:C x y z u v)(c:D x y z u v)(r:R x y z u v):∃x y z u v,A x y z u v/\B x y z u v/\C x y z u v/\D x y z u v/\R x y z u v:=⟨x,y,z,u,v,a,b,ch,c,r⟩
theorem abk{α β γ δ ε:Type}{A B C D E R:α->β->γ->δ->ε->Prop}(x:α)(y:β)(z:γ)(u:δ)(v:ε)(a:A x y z u v)(b:B x y z u v)(ch:C x y z u v)(c:D x y z u v)(d:E x y z u v)(r:R x y z u v):∃x y z u v,A x y z u v/\B x y z u v/\C x y z u v/\D x y z u v/\E x y z u v/\R x y z u v:=⟨x,y,z,u,v,a,b,ch,c,d,r⟩
theorem VE{α β γ δ ε:Type}{A B C D E F R:α->β->γ->δ->ε->Prop}(x:α)(y:β)(z:γ)(u:δ)(v:ε)(a:A x y z u v)(b:B x y z u v)(ch:C x y z u v)(c:D x y z u v)(d:E x y z u v)(e:F x y z u v)(r:R x y z u v):∃x y z u v,A x y z u v/\B x y z u v/\C x y z u v/\D x y z u v/\E x y z u v/\F x y z u v/\R x y z u v:=⟨x,y,z,u,v,a,b,ch,c,d,e,r⟩
theorem PE.imp{e:Expr}{t u:TE}(h:PE X e t)(i:∀σ H Q,u σ H Q->t σ H Q):PE X e u:=⟨λp s σ H Q I q=>h.out p s σ H Q I (i σ H Q q)⟩
def tV(i:Nat):TE:=λσ H Q=>match σ[i]? with
 |some (some v)=>Q v H
 |_=>False
theorem Qq{i:Nat}(σ:St)(H:Hp)(Q:VK)(h:tV i σ H Q):Fe i σ H Q:=by
 unfold tV at h;split at h
 ·exact⟨_,by assumption,h⟩
 ·calc h.elim
def bB(Q:Bool->Hp->Prop):V->Hp->Prop
 | .bl k,H=>Q k H
 |_,_=>False
theorem Qr{Q:Bool->Hp->Prop}{x:V}{H:Hp}(h:bB Q x H):∃k,x=.bl k/\Q k H:=by
 cases x with
 |bl k=>calc⟨k,rfl,h⟩
 |_=>calc h.elim
theorem VF{k:Bool}:bB Q (.bl k) H=Q k H:=rfl
theorem iN{k:Bool}(h:Q k H):bB Q (.bl k) H:=h
def tT(t:TE):TT:=λσ H Q=>t σ H (bB Q)
theorem VG:bB Q=λx H=>∃k,x=.bl k/\Q k H:=by
 funext x H;calc propext ⟨Qr,?_⟩;rintro⟨k,rfl,h⟩;calc h
theorem Nd:tT=xO:=by
 funext t σ H Q;show t σ H (bB Q)=_;rw[VG];rfl
theorem Qs:tT=tB:=Nd
section
variable {X:Cx}{a b:Expr}{ta tb:TE}{pos:Pos}
theorem aC{c:CmpOp}{r:R2}(d:fJ X (compareOp c) r)(e:PE X a ta)(f:PE X b tb)(g:behindInMarks c b=false):PT X (.Compare a [c] [b] pos) (tT (Fx r ta tb)):=by
 rw[Nd];calc Bw d e f g
theorem bN{e:Expr}{t:TE}(h:PE X e t)(b:∀a,PySem.isTrue e X.env a=(do let v <-a;standAt e.pos;holding [v] (truthy v)):=by intro _;rfl):PT X e (tT t):=by
 rw[Qs];calc OO h b
theorem au(i:Nat){x:Str}{pos:Pos}(a:X.N[i]?=some x:=by rfl)(b:T7 X.env.scope x:=by first|calc Or.inl rfl|calc Or.inr (Or.inl rfl)|calc Or.inr (Or.inr rfl))(c:(x==("__debug__":Str))=false:=by decide)
  (d:(x==("__classdict__":Str))=false:=by decide):PE X (.Name x pos) (tV i):=(Ff a b c d).imp Qq
end
section
variable {K:W.Frag}{H:Hp}{Q:VK}{i j:Int}{s t:Str}{a b:Addr}
def Qt(K:W.Frag):R2:=λx y H Q=>match x,y with
 | .int i,.int j=>Q (.bl (decide (i=j))) H
 | .str s,.str t=>Q (.bl (decide (s=t))) H
 |x,y=>PF K x y H Q
def Su(K:W.Frag):R2:=λx y H Q=>match x,y with
 | .int i,.int j=>Q (.bl (!decide (i=j))) H
 | .str s,.str t=>Q (.bl (!decide (s=t))) H
 |x,y=>PH K x y H Q
theorem Hn:Qt K (.int i) (.int j) H Q=Q (.bl (decide (i=j))) H:=rfl
theorem Ho:Qt K (.str s) (.str t) H Q=Q (.bl (decide (s=t))) H:=rfl
theorem Hq:Qt K (.ref a) (.ref b) H Q=((kn K H 20 (.ref a) (.ref b)/\Q (.bl true) H)\/(rE K H a b/\Q (.bl false) H)):=rfl
theorem Hr:Su K (.int i) (.int j) H Q=Q (.bl (!decide (i=j))) H:=rfl
theorem Ht:Su K (.str s) (.str t) H Q=Q (.bl (!decide (s=t))) H:=rfl
theorem Hu:Su K (.ref a) (.ref b) H Q=((kn K H 20 (.ref a) (.ref b)/\Q (.bl false) H)\/(rE K H a b/\Q (.bl true) H)):=rfl
theorem Hv:Qt K=PF K:=by
 funext x y H Q
 cases x<;>cases y<;>first|rfl|calc wg.symm|calc wj.symm
theorem Hw:Su K=PH K:=by
 funext x y H Q
 cases x<;>cases y<;>first|rfl|calc wm.symm|calc wq.symm
theorem aY(a:X.A.units+64<cLine):fJ X (compareOp .Eq) (Qt X.K):=Hv▸Gj a
theorem dH(a:X.A.units+64<cLine):fJ X (compareOp .NotEq) (Su X.K):=Hw▸Gk a
theorem oa(a:X.K=K)(b:X.A.units+64<cLine):fJ X (compareOp .Eq) (Qt K):=Hv▸K9 a b
theorem VH(a:X.K=K)(b:X.A.units+64<cLine):fJ X (compareOp .NotEq) (Su K):=Hw▸La a b
end
theorem HT.cw{n:Nat}{i:Int}(h:HT H n v (.int i)):v=.int i:=by
 cases h;rfl
theorem HT.cS{n:Nat}{s:Str}(h:HT H n v (.str s)):v=.str s:=by
 cases h;rfl
theorem HD.cw{n:Nat}{i:Int}(h:HD H n v (.int i)):v=.int i:=by
 cases h;rfl
theorem HD.cS{n:Nat}{s:Str}(h:HD H n v (.str s)):v=.str s:=by
 cases h;rfl
end
end L2
namespace DD
open PySem L2
variable {e:Int×Int}{u:Nat}{s:Option (Int×Int)}
theorem DR{l:List (Option (Int×Int))}{k:Nat}:(l++[none])[k]?=some (some e)↔l[k]?=some (some e):=by
 by_cases h:k<l.length
 ·rw[List.getElem?_append_left h]
 ·rw[List.getElem?_append_right (),List.getElem?_eq_none (l:=l) ()];constructor
  ·intro z
   cases a:k-l.length with
   |zero=>rw[a]at z;simp at z
   |succ j=>rw[a]at z;simp at z
  ·intro z;cases z
section
variable {n:NT}{r:RS}
theorem Qu{w:Nat}{x:Int}:((r.put w x s).ww u).eB=if u=w then(r.ww w).eB++[none] else(r.ww u).eB:=by
 show(if u=w then _ else _:WY).eB=_;split<;>rfl
theorem B8{w:Nat}{x:Int}{k:Nat}:((r.put w x s).ww u).eB[k]?=some (some e)↔(r.ww u).eB[k]?=some (some e):=by
 rw[Qu];split
 ·next z=>subst z;exact DR
 ·calc Iff.rfl
theorem Lu{w k:Nat}:((r.step n w k).ww u).eB=if u=w then(r.ww w).eB.set k (some (n.ev r w)) else(r.ww u).eB:=by
 show(if u=w then _ else _:WY).eB=_;split<;>rfl
theorem og{w k j:Nat}(b:(r.ww w).eB[k]?=some none):((r.step n w k).ww u).eB[j]?=some (some e)↔(u=w/\j=k/\e=n.ev r w)\/(r.ww u).eB[j]?=some (some e):=by
 have c:k<(r.ww w).eB.length:=(List.getElem?_eq_some_iff.mp b).1;rw[Lu];split
 ·next z=>
  subst z;by_cases a:j=k
  ·subst a;rw[List.getElem?_set_self c,b];constructor
   ·intro z;cases z;exact .inl ⟨rfl,rfl,rfl⟩
   ·rintro(⟨_,_,rfl⟩ | z)
    ·rfl
    ·cases z
  ·rw[List.getElem?_set_ne (λz=>a z.symm)];exact⟨.inr,λz=>z.elim (λq=>absurd q.2.1 a) id⟩
 ·next z=>calc⟨.inr,λq=>q.elim (λq=>absurd q.1 z) id⟩
variable {H H':Hp}{bg:List (List Key×V)}{w k:Nat}
end
end DD
namespace DD
open PySem L2
structure RS.Px(n:NT)(r:RS):Prop where
 px:∀w,w<n.ws.length->(n.w w).2.2="row"->∀(j k:Nat) (e:Int×Int),j<k->(r.ww w).eB[k]?=some (some e)->∃e':Int×Int,(r.ww w).eB[j]?=some (some e')
section
variable {n:NT}{r:RS}
theorem RS.Px.put(h:r.Px n){w:Nat}{x:Int}{s:Option (Int×Int)}:(r.put w x s).Px n:=
 ⟨λu a b j k e c d=>let ⟨f,g⟩:=h.px u a b j k e c (B8.mp d);⟨f,B8.mpr g⟩⟩
theorem RS.Px.send{outs:List Nat}{ev:Int×Int}:∀(a:List (Int×Int)) {r:RS},r.Px n->(r.send outs ev a).Px n
 | [],r,h=>h
 |p::a,r,h=>by
  show((if p.1.toNat<outs.length then r.put (outs.getD p.1.toNat 0) p.2 (some ev) else r).send outs ev a).Px n;split
  ·exact RS.Px.send a h.put
  ·calc RS.Px.send a h
theorem RS.Px.kK:∀(a:List (Int×Int)) {r:RS},r.Px n->(r.kK a).Px n
 | [],r,h=>h
 |p::a,r,h=>RS.Px.kK a h.put
theorem RS.Px.begin{a:List (Int×Int)}:(RS.begin n a).Px n:=
 RS.Px.kK a ⟨λw _ _ j k e _ h=>by simp[RS.new]at h⟩
theorem RS.Px.pick(h:r.Px n){w k:Nat}(c:(r.ww w).eB[k]?=some none)(p:(n.w w).2.2="row"->0<k->∃e,(r.ww w).eB[k-1]?=some (some e)):(r.pick n w k).Px n:=by
 calc RS.Px.send _ ⟨λu l d j i e q a=>?_⟩;have f:(r.ww u).eB[i]?=some (some e)->∃b,((r.step n w k).ww u).eB[j]?=some (some b):=λa=>by
  obtain⟨b,g⟩:=h.px u l d j i e q a;exact⟨b,(og c).mpr (.inr g)⟩
 rcases(og c).mp a with⟨rfl,rfl,_⟩|a
 ·obtain⟨m,o⟩:=p d ();by_cases z:j=i - 1
  ·subst z;exact⟨m,(og c).mpr (.inr o)⟩
  ·obtain⟨b,g⟩:=h.px u l d j (i-1) m () o;exact⟨b,(og c).mpr (.inr g)⟩
 ·calc f a
end
end DD
set_option maxHeartbeats 400000
namespace L2
open PySem PySem.Spec PyProof.Rows
section
section
variable {P:Program}{w:World}{K:W.Frag}{mg:Str->Option Value}{base:Heap}
theorem gO.ES{C:Addr}{m a:Str}{b:Stmt}{N c:List Str}{k:Nat}{sp:Sp}(T:gO K C m a b c)(S:aD N c (az b))(d:∀vs H Q E,sp vs H Q E->vs.length=c.length)
  (g:∀(f:Addr) (e:Value) (A:Around) (outer:List Env) (s:Shared) (H:Hp) (vs:List V) (Q:VK) (E:XK),dq k (A.deeper (envOfC a (az b) s.heap.objs.size f e))->sp vs H Q E->
   ∃t,qr (gV (qO P w) P w K mg base N a (az b) f e A outer s H E) (cj b) t/\t {nx:=λ_ a=>Q .bx a,rt:=Q} (start N vs) H):fS P w K mg base C m (k + 1) c sp:=by
 obtain⟨f,a,M,F,b⟩:=T.ex;calc⟨f,a,M,F.ES S d (g f),b⟩
end
section
variable {X:Cx}{o e:Expr}{es:List Expr}{to:TE}{t:TA}{apos p pos:Pos}{C:Addr}{m x:Str}{k j:Nat}{ps:List Str}{sp:Sp}{E:XK}
theorem jW{pl:Sem Bool}(D:fS X.prog X.w X.K X.mg X.base C m k ps sp)(b:Passes (qO X.prog X.w) X E)(c:tN X.K C)(d:dq j X.A)(g:PE X o to)(h:PA X (e::es) t)(i:k<=j:=by decide)(l:cI e=true:=by rfl)(n:es.all cI=true:=by rfl)
  (p:eval (.Call (.Attribute o m apos) (e::es) [] pos) X.env=(do
   let a <-eval o X.env
   standAt apos.atName
   let (f,first) <-holding [a] (getMethod a m pl)
   callWith pos f first (backTo pos (starEach (e::es) X.env)) (backToKw pos (keywordEach [] X.env))):=by rfl):
  PE X (.Call (.Attribute o m apos) (e::es) [] pos) (ql C m sp [] E to t):=by
 obtain⟨f,q,M,F,a⟩:=D.ex;calc BA g c M F (d.mono i) a .nil b h (cM l) (eg n) p
theorem PE.any{xe:Value->Shared->Prop}{a:TE}(b:PE X.xy e a){pins:List (Addr×Obj)}{s:Shared}{σ:St}{H:Hp}{Q:VK}(I:Inv X pins σ H s)(h:a σ H Q):
  wpAny (model X.prog X.w) X.A (eval e X.env) (EP X pins σ Q) xe s:=
 aag (b.out pins s σ H Q (I.nC _) h) (λ_ _ ⟨v,a,c,r,q⟩=>⟨v,a,c.gi,r,q⟩) λ_ _ z=>Y' z
theorem abl{pl:Sem Bool}(D:fS X.prog X.w X.K X.mg X.base C m k ps sp)(c:tN X.K C)(g:dq j X.A)(i:PE X.xy o to)(n:PA X.xy (e::es) t)(p:k<=j:=by decide)(v:cI e=true:=by rfl)(y:es.all cI=true:=by rfl)
  (r:eval (.Call (.Attribute o m apos) (e::es) [] pos) X.env=(do
   let b <-eval o X.env
   standAt apos.atName
   let (f,first) <-holding [b] (getMethod b m pl)
   callWith pos f first (backTo pos (starEach (e::es) X.env)) (backToKw pos (keywordEach [] X.env))):=by rfl):
  Sj X (.Call (.Attribute o m apos) (e::es) [] pos) (λE=>ql C m sp [] E to t):=by
 obtain⟨f,b,M,F,z⟩:=D.ex;calc⟨λb s σ H Q E f B I h=>?_⟩;calc W.methodCall_KW (pl:=pl) (cD (i.any I h) λu b G=>?_) r;obtain⟨x,b,d,J,a,f,h,ex,L,l,q⟩:=G;subst ex;obtain rfl:u=Value.ref a:=J;calc mq d L c M l ?_;calc W.callWith_K (first:=[.ref a]) (h₀:=X.base) I.ok.mod.xt M.kp (cD (n.any d q pos) λb i ⟨c,l,f,r,h⟩=>⟨f.gh,?_⟩) (cM v) (eg y);calc BY (us:=.ref a::b) (vs:=.ref a::c) F (g.mono p) z B f (.cons rfl r) (by have:=h;simp only[List.append_nil]at this;calc this)
theorem abm{T c:String}{name:Str}{a:Pos}{r:V->List V->Hp->VK->Prop}{f:XK->TE}(i:PlainAttrs T)(b:Slot T name c)(j:typeOf (.builtin c)=pure (.type "method_descriptor"))(k:MP X.xy c r)(g:PE X.xy o to)(l:Sj X e f)
  (d:cI e=true:=by rfl)
  (m:attributeBase o name X.env (eval o X.env)=eval o X.env:=by rfl)
  (n:((backTo a (starEach [e] X.env)).all (λx=> !x.1) && (backToKw a (keywordEach [] X.env)).all (λx=>x.1.isSome)
   && decide ([e].length + ([]:List Keyword).length + (if ([]:List Keyword).isEmpty then 0 else 1) < 30))=true:=by rfl)
  (p:(apos.endLine==a.line)=true:=by rfl):
  Sj X (.Call (.Attribute o name apos) [e] [] a) (λE=>Uw X.K T r to (rq (f E) xQ)):=by
 calc⟨λa s σ H Q E q t I h=>?_⟩;have s:starEach [e] X.env=(false,eval e X.env)::starEach [] X.env:=cM d;calc wpAny_Call_method_late m n p rfl (cD (g.any I h) λv w f=>?_);obtain⟨x,m,g,h,n,p⟩:=f;obtain⟨d,y⟩:=Ab g h n;calc⟨T,c,i,b,j,d,y,?_⟩;rw[s];calc Calls.callWith_builtin rfl (Calls.evalArgs_plain ?_);calc Calls.spliced_cons (cD (l.out a w σ m _ E q t g p) λu z f=>?_);obtain⟨y,b,c,d,g⟩:=f;calc Calls.spliced_nil ?_;calc aag (k a z σ b x [y] v [u] Q (c.nC _) h (.cons d .nil) g) (λ_ _ ⟨v,i,j,r,q⟩=>⟨v,i,j.gi,r,q⟩) λ_ _ z=>Y' z
end
def VI(K:W.Frag)(B:Addr)(PC:Addr->Prop):Prop:=∀{M:Model} {A:Around} {E:Value->Shared->Prop} {s:Shared} {e C:Addr} {d:Option Addr} {vs:Array Value} {a:Array (Option Value)} {Q:Bool->Shared->Prop},K.In s.heap->PC C->
 s.heap.get? e=some (⟨.ref C,d,.fields vs,a⟩:Obj)->Q true s->wpAny M A (excMatches (.ref e) (.ref B)) Q E s
theorem DS{K:W.Frag}{B:Addr}(a:XBase K B):VI K B (λC=>fQ K C B):=λb c d e=>aa1 b c a d e
def Nf (PC:Addr->Prop)(i:Nat)(a:XK->TS)(b:TS):TS:=λD σ H=>a (λe _ f=>∃a C d,e=.ref a/\f a=some (XO a C d false)/\PC C/\
 b {nx:=λb c=>D.nx (b.set i none) c,rt:=D.rt,bk:=λb c=>D.bk (b.set i none) c,ct:=λb c=>D.ct (b.set i none) c} (σ.set i (some (.ref a))) f) D σ H
section
variable {X:Cx}{i:Nat}{B:Addr}{PC:Addr->Prop}{tb:XK->TS}{th:TS}{n x:Str}{st b₀:Stmt}{Ng:List Stmt}{np VJ pos:Pos}
theorem Lv(w:X.stack=X.env::X.outer)(y:X.env.frame=some X.env.locals)(j:X.N.Nodup)(hi:X.N[i]?=some n)(g:X.env.scope.names.lookup n=some .local)(E:Gl X x)(F:X.mg x=some (.ref B))(G:VI X.K B PC)
  (d:Vi X st tb) (J:∀a,qr (X.nU a) (b₀::Ng) th) (L:(x==("__debug__":Str))=false:=by decide):
  PS X (.Try [st] [.ExceptHandler (some (.Name x np)) (some n) (b₀::Ng) VJ] [] [] pos) (Nf PC i tb th):=by
 walk_at "xd";refine wpAny_Try_except ?_;refine wpAny_execs_cons (cD (d.out pins s σ H D _ _ (λY C x p M O=>?_) I h) λf C q=>?_)
 ·obtain⟨a,Z,d0,P,t,rfl,r,Y,Q,o,a',C,d,R,c,S,q⟩:=M.thrown O
  cases R;have k:=r.ok;calc yn (T:=some t) w y r c Q (λd z=>by cases z;calc o) λt w r d e _=>?_;rw[Hi c]at r e;calc rR (s:={p with heap:=t}) r d e λU b m=>?_;obtain⟨d,o,W⟩:=BQ b c;calc wpAny_handleBy_cons (codeAny_handlers_test (iP (X:=X.nU a) (b.nU a) E F (G (b.nU a).gh S W ?_) L)) (by intro z;cases z);calc codeAny_handlers_suite_as (rR (X:=X.nU a) (s:={p with heap:=U}) (b.nU a) m e λd c _=>?_);calc ia (X:=X.nU a) c j hi (.inl g) (v:=.ref a) (u:=.ref a) rfl (λb c=>?_) (.inr g);calc aag ((J a) pins b _ P _ c q) (λf d l=>?_) λ_ _ z=>Y' z;show wpAny _ X.A (do bindName X.env n .none;unbindBehindTheSuite X.env n VJ) _ _ d
  cases f with
  |next=>
   obtain⟨a,b,c,d⟩:=l;calc qQ (c.wA k) j hi g λm e=>⟨_,b,e,d⟩
  |brk=>
   obtain⟨a,b,c,d⟩:=l;calc qQ (c.wA k) j hi g λm e=>⟨_,b,e,d⟩
  |cont=>
   obtain⟨a,b,c,d⟩:=l;calc qQ (c.wA k) j hi g λm e=>⟨_,b,e,d⟩
  |ret u=>
   obtain⟨v,a,b,c,o,d⟩:=l;exact qQ (c.wA k) j hi g λm e=>⟨v,_,b,e,o,d⟩
 ·cases f with
  |next=>calc wpAny_execs_nil (wpAny_execs_nil q)
  |ret v=>calc q
  |brk=>calc q
  |cont=>calc q
end
theorem Lw {PC:Addr->Prop}{i:Nat}{e:XK->TS}{g:TS}{D:Ends}{σ:St}{H:Hp}(h:∀j:XK,(∀a C d f,f a=some (XO a C d false)->PC C->
  g {nx:=λb c=>D.nx (b.set i none) c,rt:=D.rt,bk:=λb c=>D.bk (b.set i none) c,ct:=λb c=>D.ct (b.set i none) c} (σ.set i (some (.ref a))) f->j (.ref a) none f)->e j D σ H):Nf PC i e g D σ H:=
 h _ λa C d f e b q=>⟨a,C,d,rfl,e,b,q⟩
end
section
structure Qv(X:Cx)(gH:List Stmt)(t:XK->TS):Prop where
 out:∀(pins:List (Addr×Obj)) (s:Shared) (σ:St) (H:Hp) (D:Ends) (E:XK) (xe:Value->Shared->Prop),(∀H1 s1 x s',Inv X pins σ H1 s1->qO X.prog X.w X.stack H1 s1 E x s'->xe x s')->Inv X pins σ H s->t E D σ H->
  wpAny (model X.prog X.w) X.A (execs gH X.env) (SP X pins D) xe s
section
variable {X:Cx}{st:Stmt}{t:XK->TS}{pos:Pos}
theorem VM(h:Vi X st t):Qv X [st] t:=by
 calc⟨λa s σ H D E b c I q=>?_⟩;refine wpAny_execs_cons (cD (h.out a s σ H D E b c I q) λf d q=>?_)
 cases f with
 |next=>calc wpAny_execs_nil q
 |ret v=>calc q
 |brk=>calc q
 |cont=>calc q
theorem abn{c:Expr}{a b:List Stmt}{f:TT}{g h:XK->TS}(o:PT X.xy c f)(p:Qv X a g)(q:Qv X b h):Vi X (.If c a b pos) (λE=>zI f (g E) (h E)):=by
 calc⟨λe s σ H D E i j I h=>?_⟩;calc wpAny_If (aag (o.out e s σ H _ (I.nC _) h) (λd k a=>?_) λ_ _ z=>Y' z);obtain⟨l,m,n⟩:=a
 cases d with
 |true=>calc p.out e k σ l D E i j m.gi n
 |false=>calc q.out e k σ l D E i j m.gi n
end
end
end L2
namespace L2
open PySem
section
variable {X:Cx}{e:Expr}{t:XK->TE}{pos pos':Pos}{x:Str}{i:Nat}
theorem Lx(b:X.N.Nodup)(hi:X.N[i]?=some x)(c:Loc X.env.scope x)(d:Sj X e t)(f:swapsWith e (some (.Name x pos')) pos.line X.env=pure false:=by rfl)(g:X.fn x=true\/X.env.scope.names.lookup x=some .local:=by grind):
  Vi X (.Assign [.Name x pos'] e pos) (λE=>zK (t E) (fL i)):=by
 calc⟨λa s σ H D E j k I h=>?_⟩;calc wpAny_Assign_Name (cD (d.out a s σ H _ E j k I h) λv m l=>?_) f;obtain⟨y,a,d,h,j⟩:=l;calc ia d b hi c h (λk f=>⟨_,a,f,j⟩) g
end
end L2
namespace L2
open PySem PySem.Spec PyProof.Rows
section
def Qw(K:W.Frag):R2:=λx y H Q=>∃(c:Addr) (b:Bool),y=.ref c/\Q (.bl b) H/\((b=false/\(∃ys,bH K H c ys)/\(x=.bx\/(∃i,x=.int i)\/∃a xs,x=.ref a/\aS K H a xs))\/∃a,x=.ref a/\Za K H 19 a c b)
section
variable {X:Cx}
theorem Ze(l:X.A.units+64<cLine):fJ X (compareOp .Eq) (Qw X.K):=by
 intro d s σ H x y v u Q I e k h;obtain⟨c,b,rfl,q,⟨rfl,⟨o,m⟩,f⟩|⟨a,rfl,f⟩⟩:=h
 ·cases k;obtain⟨g,h,j,_⟩:=I.tuple m;rcases f with rfl | ⟨i,rfl⟩ | ⟨a,p,rfl,n⟩
  ·cases e;exact SeqAt.RcAt.none_tuple (show s.heap.IsTuple c g.toArray from j) () X.prog X.w X.xe _ ⟨.bl false,H,I,rfl,q⟩
  ·obtain⟨t,rfl⟩:=e;exact SeqAt.RcAt.int_tuple i t (show s.heap.IsTuple c g.toArray from j) () X.prog X.w X.xe _ ⟨.bl false,H,I,rfl,q⟩
  ·cases e;obtain⟨i,m,h,_⟩:=I.list n;exact SeqAt.RcAt.list_tuple h.isList (show s.heap.IsTuple c g.toArray from j) () X.prog X.w X.xe _ ⟨.bl false,H,I,rfl,q⟩
 ·calc B4 l d s σ H _ _ v u Q I e k ⟨a,c,b,rfl,rfl,f,q⟩
end
end
section
theorem RelV.uniq{x y:V}{u:Value}(h:RelV x u)(h':RelV y u):x=y:=by
 cases x<;>cases y<;>simp only[RelV]at h h'<;>first
  |(subst h;cases h'<;>rfl)
  |(subst h;obtain⟨a,e⟩:=h';cases e<;>rfl)
  |(obtain⟨t,rfl⟩:=h;cases h'<;>rfl)
  |(obtain⟨t,rfl⟩:=h;obtain⟨a,e⟩:=h';cases e<;>rfl)
section
variable {X:Cx}
theorem B9{f:V->Bool}:∀{xs:List V}{us:List Value},Vals xs us->∀(g:Value->Bool),(∀z w,z∈xs->RelV z w->g w=f z)->us.any g=xs.any f
 |_,_,.nil,_,_=>rfl
 |y::xs,u::us,.cons r t,g,h=>by rw[List.any_cons,List.any_cons,h y u nofun r,B9 t g (λz w m r=>h z w (by simp[m]) r)]
theorem yD{w:Value}:∀{xs:List V}{us:List Value},Vals xs us->w∈us->∃z∈xs,RelV z w
 |_,_,.nil,h=>by cases h
 |y::xs,u::us,.cons r t,h=>by
  rcases List.mem_cons.mp h with rfl|h
  ·exact⟨y,nofun,r⟩
  ·obtain⟨z,a,b⟩:=yD t h;calc⟨z,by simp[a],b⟩
def VN(K:W.Frag)(a:Bool):R2:=λx y H Q=>∃p xs,∃f:V->Bool,y=.ref p/\aS K H p xs/\(∀z∈xs,zD K H 40 z x (f z))/\Q (.bl (if a then !xs.any f else xs.any f)) H
theorem Hx(o:X.A.units+64<cLine):fJ X (compareOp .NotIn) (VN X.K true):=by
 classical
 intro d s σ H x y v u Q I j e h;obtain⟨p,a,f,rfl,k,l,q⟩:=h
 cases e;obtain⟨c,r,n,d⟩:=I.list k;have g:∀z w,z∈a->RelV z w->(decide (∃z∈a,RelV z w/\f z=true))=f z:=λz w m b=>by
  cases e:f z with
  |true=>calc decide_eq_true ⟨z,m,b,e⟩
  |false=>
   calc decide_eq_false λh=>?_;obtain⟨k,o,d,i⟩:=h;rw[d.uniq b,e]at i
   cases i
 refine SeqAt.notIn_listAt (λw=>decide (∃z∈a,RelV z w/\f z=true)) n.isList (λw d=>?_) ⟨.bl _,H,I,rfl,?_⟩
 ·obtain⟨z,m,b⟩:=yD r (show w∈c by simpa using d);rw[g z w m b];exact AB I 40 _ (l z m) (show X.A.units+1+40<cLine by lia) b j
 ·rw[show c.toArray.any (λw=>decide (∃z∈a,RelV z w/\f z=true))=c.any (λw=>decide (∃z∈a,RelV z w/\f z=true)) by simp,B9 r _ g];calc q
end
end
end L2
set_option maxHeartbeats 4000000
namespace L2
open PySem PySem.Spec PyProof.Rows
section
variable {X:Cx}
theorem yE:Passes (qO X.prog X.w) X E0:=λ_ _ _ _ _ _ _ h=>by
 obtain⟨_,_,_,_,_,_,_,_,_,_,_,_,_,_,q⟩:=h;calc q.elim
theorem abo{T f:String}{name:Str}{o e:Expr}{b:List Expr}{g:TE}{t:TA}{a c:Pos}{r:V->List V->Hp->VK->Prop}{K:W.Frag}(h:X.K=K)(i:PlainAttrs T)(d:Slot T name f)(j:typeOf (.builtin f)=pure (.type "method_descriptor"))(k:MP X f r)(l:PE X o g)(m:PA X (e::b) t)
  (f:attributeBase o name X.env (eval o X.env)=eval o X.env:=by rfl)
  (n:((backTo c (starEach (e::b) X.env)).all (λx=> !x.1) && (backToKw c (keywordEach [] X.env)).all (λx=>x.1.isSome)
   && decide ((e::b).length + ([]:List Keyword).length + (if ([]:List Keyword).isEmpty then 0 else 1) < 30))=true:=by rfl)
  (p:(a.endLine==c.line)=true:=by rfl) (q:starEach (e::b) X.env=(false,eval e X.env)::starEach b X.env:=by rfl) (s:(backTo c (starEach b X.env)).any (·.1)=false:=by rfl):
  PE X (.Call (.Attribute o name a) (e::b) [] c) (Uw K T r g t):=h▸dE i d j k l m f n p q s
end
end L2
namespace EV
open PySem L2 DD
def top(i:Nat):Stmt:=PySem.Challenge.pw_cutrestore_k24_schedules_played.main.body.getD i (.Pass ⟨0,0,0,0⟩)
structure Tx(K:W.Frag)(mg:Str->Option Value)(C CN CR F:Addr)(FD:List (Str×V)):Prop where
 bc:mg "isinstance"=none
 Ca:mg "int"=none
 AH:mg "bool"=none
 Cb:mg "str"=none
 cE:mg "tuple"=none
 dI:mg "list"=none
 b8:mg "len"=none
 eX:mg "range"=none
 VO:mg "min"=none
 Nh:mg "max"=none
 u9:mg "all"=none
 VP:mg "any"=none
 Hy:mg "zip"=none
 cW:mg "enumerate"=none
 wG:mg "ValueError"=none
 dU:∃t,mg "MOST_DEEDS"=some (.int 24 t)
 dJ:∃t,mg "MOST_MODULUS"=some (.int 1000000000000 t)
 dM:∃t,mg "MOST_NUMBERS"=some (.int 4 t)
 fq:∃t,mg "MOST_ROW"=some (.int 12 t)
 dw:∃t,mg "MOST_MACHINES"=some (.int 5 t)
 fA:∃t,mg "MOST_WAYS"=some (.int 10 t)
 dN:∃t,mg "MOST_LETTERS"=some (.int 20 t)
 dW:∃t,mg "SAID_BOUND"=some (.int 1000000000000000000000000000000000000000000000000000000000000 t)
 cO:tN K C
 va:mg "Machine"=some (.ref C)
 Ni:bG K C "own_modulus"
 Qx:bG K C "own_state"
 Nj:bG K C "own_deeds"
 DT:W.findIn K (.ref C) "__class__"=some (some (.builtin "object.__class__"))
 DU:W.mroIn K C (.type "object")=some true
 de:tN K CN
 VQ:mg "Net"=some (.ref CN)
 yF:bG K CN "own_machines"
 yG:bG K CN "own_ways"
 AI:bG K CN "own_letters"
 Hz:W.findIn K (.ref CN) "__class__"=some (some (.builtin "object.__class__"))
 HA:W.mroIn K CN (.type "object")=some true
 aV:tN K CR
 Nk:mg "Run"=some (.ref CR)
 df:bG K CR "own_net"
 cX:bG K CR "picks_done"
 cf:bG K CR "states_had"
 dX:bG K CR "words_had"
 cF:bG K CR "words_said"
 bJ:bG K CR "letters_say"
 ft:bG K CR "senders"
 dg:bG K CR "workers"
 DW:W.findIn K (.ref CR) "__class__"=some (some (.builtin "object.__class__"))
 DX:W.mroIn K CR (.type "object")=some true
 rZ:W.specialIn K (.builtin "object.__class__") "__get__"=some (some (.builtin "getset_descriptor.__get__"))
 kM:W.takesIn K (.builtin "object.__class__")=some true
 i_k:W.kitOne K (.ref C) (.ref C)=some true
 Cc:mg "FORMS"=some (.ref F)
 Cd:CD K F FD
 Nl:∀d:bu,∃p,PyProof.Rows.KTD.datumAt d.word FD=some (.ref p)/\∀H,bH K H p (d.tY.map V.str)
structure tZ(K:W.Frag)(mg:Str->Option Value)(B:Addr)(c:Nat->Addr):Prop where
 mB:mg "NoLetter"=some (.ref (c 4))
 jT:mg "NotFirst"=some (.ref (c 5))
 mC:mg "NetError"=some (.ref B)
 cl:∀i,i=4\/i=5->fQ K (c i) B
 inj:∀i j,i=4\/i=5->j=4\/j=5->c i=c j->i=j
 nB:∀i,i=4\/i=5->c i≠B
 xb:XBase K B
 cU:bG K (c 4) "at"
 cV:bG K (c 5) "at"
theorem pw{X:Cx}{c:Scope}{N:List Str}:tU X c N λY=>Sd Y [] iR:=λ_ _ _ _=>KU
section
variable {K:W.Frag}{mg:Str->Option Value}{B:Addr}{c:Nat->Addr}
theorem wC(T:tZ K mg B c){i j:Nat}(hi:i=4\/i=5)(a:j=4\/j=5):W.kitOne K (.ref (c i)) (.ref (c j))=some (decide (i=j)):=by
 unfold W.kitOne;by_cases e:i=j
 ·subst e;rw[if_pos nofun];simp
 ·have b:c i≠c j:=λz=>e (T.inj i j hi a z);have d:c j≠B:=T.nB j a;rw[if_neg (by simpa using b)];obtain⟨cd,g,k,_⟩:=(T.cl i hi).cd;obtain⟨m,q,N,n,o,k,p,l,r,t,u,v,w,x,g⟩:=(T.cl j a).ob;have k:W.typeIn K (.ref (c j))=some (.type "type"):=by show Option.map (·.cls) (K.lookup (c j))=_;rw[g];rfl
  have a:(W.clsIn K (c j)).isSome=true:=by unfold W.clsIn;rw[g];rfl
  have g:=(T.cl i hi).mro (.ref (c j));show(if ((W.clsIn K (c j)).isSome&&W.typeIn K (.ref (c j))==some (.type "type"))=true then W.subIn K (.ref (c i)) (.ref (c j)) else none)=_;rw[k,a];simp only[beq_self_eq_true,Bool.and_self,if_true];show W.mroIn K (c i) (.ref (c j))=_;rw[g];have z:((Value.ref (c i)::.ref B::qN).contains (.ref (c j)))=false:=by
   simp[qN,List.contains_cons,b,d,Ne.symm b]
  rw[z];simp[e]
theorem qR(T:tZ K mg B c){i:Nat}(hi:i=4\/i=5):∀a:List Nat,(∀j∈a,j=4\/j=5)->W.kitAny K (.ref (c i)) ((a.map c).map Value.ref)=some (decide (i∈a))
 | [],_=>by simp[W.kitAny]
 |j::a,h=>by
  have b:=qR T hi a λk d=>h k (aaf _ d);have e:=wC T hi (h j nofun);show(match W.kitOne K (.ref (c i)) (.ref (c j)) with|some true=>some true|some false=>W.kitAny K (.ref (c i)) ((a.map c).map Value.ref)|none=>none)=_;rw[e];by_cases z:i=j
  ·subst z;simp
  ·rw[decide_eq_false z];show W.kitAny K (.ref (c i)) ((a.map c).map Value.ref)=_;rw[b];simp[z]
end
end EV
namespace EV
open PySem L2 DD
variable {D a b m bD p:Addr}{Z:Addr->Prop}{d:bu}{H H' H0 H1 H2:Hp}{e:Int×Int}{ws:List (Int×Int×Str)}{ls s:List (Int×Int)}{as:List Addr}{es:List DV}{ns row:List Int}{eY:List MD}{lv mv wv ys:List V}{ad:Nat->Nat->Addr}{r:RS}{σ:St}{f:Str}{dd st y z:V}{Q:VK}
section
variable {P:Program}{w:World}{K:W.Frag}{mg:Str->Option Value}{base:Heap}{C CN CR F B:Addr}{c:Nat->Addr}{FD:List (Str×V)}
local macro_rules | `(tactic| walk_at "s") => `(tactic| exact ⟨rfl, rfl, rfl, by decide +kernel, rfl, by decide +kernel, by decide +kernel⟩)
def zqI(s:String):Array Lean.Ident:=(s.splitOn " ").toArray.map (Lean.mkIdent ·.toName)
def zqK:=zqI "tV tT VF Hn Ho Hq Hr Ht Hu Fe tC Fx tUn rU xO tB OQ Fi OP Z4 Fh OS Z5 Fl OU zK fL OX qk Sb rq xQ Pb Pc xM Qw wb F8 Ae Qm vS GQ GR GS M5 GU GW GX GY GZ G8 Ur vV FU Kx Pa ql By Uw Pm Ha G9 OY Z7 zJ id_eq P0 GO PJ Fw o8 MY Gq Gu Gv Gw MZ Gx Gy Gz GB M0 BO yd iR tR uZ UN Gn MW MX L2.start List.map_cons List.map_nil List.cons_append List.nil_append List.replicate List.getElem?_cons_zero List.getElem?_cons_succ List.set_cons_zero List.set_cons_succ"
def zqL:=zqI "rP Av wg wj wm wq List.length_cons List.length_nil List.append_nil Option.some.injEq exists_eq_left' exists_eq_left V.int.injEq V.bl.injEq V.str.injEq V.ref.injEq List.cons.injEq and_true true_and Nat.reduceSub Nat.reduceAdd"
local macro_rules | `(tactic| simp_arith only [$xs,*]) => let l:=zqK; `(tactic| simp only [$[$l:ident],*, ↓BX, ↓yl, ↓rN, ↓u5, ↓rO, $xs,*])
local macro_rules | `(tactic| simp_arith! only [$xs:simpLemma,*]) => let l:=zqK; `(tactic| dsimp only [$[$l:ident],*, ↓BX, ↓yl, ↓rN, ↓u5, ↓rO, $xs:simpLemma,*])
local macro_rules | `(tactic| walk_at "l0") => `(tactic| simp_arith! only [zI, Df, nO])
local macro_rules | `(tactic| walk_at "l1") => let l:=zqL; `(tactic| simp_arith only [zI, Df, nO, $[$l:ident],*])
local macro_rules | `(tactic| walk_at "l2") => `(tactic| simp_arith! only [zI, Df])
local macro_rules | `(tactic| walk_at "l3") => let l:=zqL; `(tactic| simp_arith only [zI, Df, $[$l:ident],*])
local macro_rules | `(tactic| walk_at "l4") => `(tactic| simp_arith! only [nO])
local macro_rules | `(tactic| walk_at "l5") => let l:=zqL; `(tactic| simp_arith only [nO, $[$l:ident],*])
local macro_rules | `(tactic| walk_at "rd") => `(tactic| first | (walk_at "l0"; try walk_at "l1") | walk_at "l1")
local macro_rules | `(tactic| right) => `(tactic| try walk_at "rd")
local macro_rules | `(tactic| walk_at "rt") => `(tactic| first | (walk_at "l2"; try walk_at "l3") | walk_at "l3")
local macro_rules | `(tactic| walk_at "gj") => `(tactic| first
  |refine cN (by assumption) (by first|rfl|exact aA (j := 0) rfl|exact aA (j := 1) rfl|exact aA (j := 2) rfl|exact aA (j := 3) rfl) ?_
  |refine bF (by assumption) (by first|rfl|exact aA (j := 0) rfl|exact aA (j := 1) rfl|assumption) ?_
  |rw [if_pos (by decide +kernel)]
  | rw [if_neg (by decide +kernel)])
local macro_rules | `(tactic| walk_at "go") => `(tactic| repeat (first|walk_at "rd"|walk_at "gj"))
local macro_rules | `(tactic| walk_at "r0") => `(tactic| first | (walk_at "l4"; try walk_at "l5") | walk_at "l5")
local macro_rules | `(tactic| walk_at "rh") => `(tactic| first | with_reducible refine L2.Qn ?_ | (with_reducible refine L2.b4 ?_; intro N hN) | (with_reducible refine L2.gC ?_; intro T U hT hU))
local macro_rules | `(tactic| walk_at "rn") => `(tactic| (refine L2.bA (by assumption) ?_; (repeat walk_at "rh"); try walk_at "r0"))
local macro_rules | `(tactic| walk_at "jd") => `(tactic| first
  |(walk_at "rh"; (repeat walk_at "rh"); (try walk_at "r0"); repeat walk_at "rn")
  |(walk_at "rn"; repeat walk_at "rn")
  | (walk_at "r0"; repeat walk_at "rn"))
local macro_rules | `(tactic| left) => `(tactic| try walk_at "jd")
local macro_rules | `(tactic| walk_at "jt") => `(tactic| first | (walk_at "l2"; try walk_at "l3") | walk_at "l3")
local macro_rules | `(tactic| walk_at "jg") => `(tactic| repeat (first|walk_at "jd"|walk_at "gj"))
theorem yH:zY (ys++[z]).length (-1)=some ys.length:=by
 unfold zY;rw[if_neg ∅,if_pos (by simp;lia)];congr 1;simp;lia
theorem kN:iQ (ys++[z]) (-1)=some z:=by
 unfold iQ;rw[yH];simp
theorem HB{α:Type}{ys:List α}{z y:α}:(ys++[z]).set ys.length y=ys++[y]:=by simp
theorem wH{o c:HO}:upd (upd H a o) a c=upd H a c:=by
 funext b;by_cases h:b=a
 ·subst h;rw[af,af]
 ·rw[ay h,ay h,ay h]
def fX(H:Hp)(p:Addr):Prop:=∃xs:List Int,H p=some (.lst (xs.map V.int))/\1<=xs.length
structure Step(p:Addr)(H H':Hp):Prop where
 gD:fX H' p
 rest:∀b o,H b=some o->b≠p->H' b=some o
theorem Step.refl(h:fX H p):Step p H H:=⟨h,λ_ _ e _=>e⟩
theorem Step.trans(a:Step p H H1)(b:Step p H1 H2):Step p H H2:=⟨b.gD,λc o e n=>b.rest c o (a.rest c o e n) n⟩
theorem fX.same(s:aq H H')(h:fX H p):fX H' p:=by
 obtain⟨a,e,h⟩:=h;calc⟨a,s _ _ e,h⟩
theorem Step.same(a:Step p H H1)(b:aq H1 H2):Step p H H2:=⟨a.gD.same b,λc o e n=>b _ _ (a.rest c o e n)⟩
theorem Step.set(a:Step p H H1)(xs:List Int)(h:1<=xs.length):Step p H (upd H1 p (.lst (xs.map V.int))):=
 ⟨⟨xs,af,h⟩,λc o e n=>by rw[ay n];calc a.rest c o e n⟩
theorem Step.new{q:Addr}(a:Step p H H1){o:HO}(b:H1 q=none):Step p H (upd H1 q o):=a.same (aq.new o b)
theorem Step.aM(a:Step p H H1)(c:fX H p):cq H H1:=λb d e=>a.rest b _ e λz=>by
 subst z;obtain⟨a,h,_⟩:=c;rw[h]at e;cases e
theorem Step.ne{q:Addr}(c:fX H p)(b:H q=none):q≠p:=λz=>by
 subst z;obtain⟨a,h,_⟩:=c;rw[h]at b;cases b
theorem Step.over(s:aq H0 H1)(a:H0 p=none)(st:Step p H1 H2):aq H0 H2:=λb o e=>st.rest b o (s b o e) (av e a)
theorem fX.upd{q:Addr}{o:HO}(h:fX H p)(b:p≠q):fX (upd H q o) p:=by
 obtain⟨a,e,h⟩:=h;calc⟨a,by rw[ay b];calc e,h⟩
abbrev mE:Stmt:=top 10
def iS:Sp:=λvs H Q _=>∃x t,vs=[x]/\Kd H x t/\Q (.bl (isI x)) H
theorem AJ(D:dj K mg "is_whole" "is_whole" mE ["thing"])(T:Tx K mg C CN CR F FD):Def P w K mg base "is_whole" 1 ["thing"] iS:=by
 have sc:aD ["thing"] ["thing"] (az mE):=by walk_at "s"
 symm;obtain⟨x,t,rfl,a,q⟩:=h;have d:=hr.units;refine⟨_,(ao (aK (iV (bo ei rfl T.bc xq (ag (au 0) (ag (dF (v:=.ty "int") rfl T.Ca PyProof.Rows.boot_int rfl) aa))) (jM (OT (bo ei rfl T.bc xq (ag (au 0) (ag (dF (v:=.ty "bool") rfl T.AH PyProof.Rows.boot_bool rfl) aa)))))))),?_⟩;walk_at "rd";obtain⟨b,c,d,e,g⟩:=Qg (K:=K) a;refine dz t b a.ty d ?_;rw[g] at q
 cases b
 ·rw[if_neg Bool.false_ne_true];exact q
 ·rw[if_pos rfl];calc⟨t,c,a.ty,e,q⟩
abbrev kO:Stmt:=top 11
def cn:Sp:=λvs H Q _=>∃x t lo hi,vs=[x,.int lo,.int hi]/\Kd H x t/\Q (.bl (inR lo hi x)) H
theorem yI(D:dj K mg "is_within" "is_within" kO ["thing","low","beyond"])(T:Tx K mg C CN CR F FD)(j:Def P w K mg base "is_whole" 1 ["thing"] iS):Def P w K mg base "is_within" 2 ["thing","low","beyond"] cn:=by
  have sc:aD ["thing","low","beyond"] ["thing","low","beyond"] (az kO):=by walk_at "s"
  symm;obtain⟨x,t,a,b,rfl,g,q⟩:=h;have k:=hr.units;refine⟨_,(ao (aK (iV (aL j hr (ag (au 0) aa)) (jM (xP Ag gk (au 1) (au 0) (au 2)))))),?_⟩;walk_at "rd";refine dz x t rfl g ?_
  cases g<;>first
    | (rename_i i
       show ∃c,V.bl true=.bl c/\_;calc⟨true,rfl,?_⟩;rw[if_pos rfl];walk_at "rd";by_cases d:a<=i
       · rw[if_pos (by simpa using d)];have e:inR a b (.int i)=decide (i < b):=by simp[inR,d]
         rw[e]at q;exact q
       · rw[if_neg (by simpa using d)];have e:inR a b (.int i)=false:=by simp[inR,d]
         rw[e] at q;calc q)
    | (show ∃c,V.bl false=.bl c/\_
       calc⟨false,rfl,?_⟩;rw[if_neg Bool.false_ne_true];calc q)
abbrev r9:Stmt:=top 48
def HC(K:W.Frag):Sp:=λvs H Q _=>∃(a:Addr) (ns:List Int) (k:Int),vs=[.ref a,.int k]/\aS K H a (ns.map V.int)/\0<=k/\∀c,Q (.int c) H
theorem HE(D:dj K mg "_law_at" "_law_at" r9 ["_law_script","_law_k"])(T:Tx K mg C CN CR F FD):Def P w K mg base "_law_at" 1 ["_law_script","_law_k"] (HC K):=by
 have sc:aD ["_law_script","_law_k"] ["_law_script","_law_k"] (az r9):=by walk_at "s"
 symm;obtain⟨a,ns,k,rfl,b,c,q⟩:=h;have e:=hr.units;refine⟨_,(ai (aR (aC gk (au 1) (bo aQ rfl T.b8 T' (ag (au 0) aa)) (aH _)) (ao (aK (ak e (au 0) (au 1)))) aJ)
  (ao (aK aj))),?_⟩
 walk_at "rd";refine bI _ (.inl ⟨_,b,rfl⟩) ?_;rw[List.length_map];by_cases d:k<(ns.length:Int)
 ·rw[if_pos (by simpa using d)];obtain⟨n,rfl⟩:=aac c;have e:n < ns.length:=by lia
  exact⟨_,.int ns[n],.inl b,aA (by rw[List.getElem?_map,cP e];rfl),q _⟩
 ·rw[if_neg (by simpa using d)];calc q _
abbrev pA:Stmt:=top 49
def HF:Sp:=λvs H Q _=>∃n:Int,vs=[.int n]/\∀(p:Addr) (xs:List Int),H p=none->1<=xs.length->Q (.ref p) (upd H p (.lst (xs.map V.int)))
theorem DY(D:dj K mg "_law_pot" "_law_pot" pA ["_law_cell"])(T:Tx K mg C CN CR F FD):Def P w K mg base "_law_pot" 1 ["_law_cell"] HF:=by
 have sc:aD ["_law_cell","_law_number","_law_pot_here","_law_k"] ["_law_cell"] (az pA):=by walk_at "s"
 symm;obtain⟨n,rfl,q⟩:=h;have c:=hr.units;refine⟨_,(ai (aW (i:=1) sc.nd rfl Sort (aT ck (aT cR (aT gG (au 0) aj) aj) aj))
  (ai (aW (i:=2) sc.nd rfl Sort (bM (ag aj aa)))
  (ai (eZ PassesOwn.never rfl (du rfl T.eX (ag aj aa)) (aX (i:=3) sc.nd rfl Sort)
  (ai (aW (i:=1) sc.nd rfl Sort (aT cR (aT ck (aT ck (aT lU (au 1) (au 1)) (aT lU aj (au 1))) (au 3)) aj))
  (ao (eQ (aT ck (aT lU (ak c (au 2) aj) aj) (au 1)) (iW (au 2) aj eA)))))
  (ai (aR (PW.pt (pw_and (aC (aY c) (aT cR (au 0) aj) aj (aH _)) (pw_and1 (aC (dH c) (aT gG (au 0) aj) aj (aH _))))) (ao (bS (dE nz qH qI bZ (au 2) (ag (aT gG (au 0) aj) aa)))) aJ)
  (ao (aK (au 2))))))),?_⟩
 right;have d:Ge n 2:=⟨∅,∅⟩
 calc g9 d ∅ ?_;right;calc⟨by show 1<=sizeLine;decide,λp e=>?_⟩;have c:=aaR (n/2) (b:=2147483629) ∅;have c:=aaL (n/2) (b:=2147483629) ∅;refine⟨40,rfl,∅,∅,jz (n:=40) (λi σ H'=>∃(u a:Int) (z:Option V),0<=u/\u<2147483648/\σ=[some (.int n),some (.int u),some (.ref p),z]/\H'=upd H p (.lst [.int a])) ?_ ?_ ?_⟩
 ·exact⟨_,0,none,(),(),rfl,rfl⟩
 ·intro i σ H' o k;obtain⟨u,a,z,g,l,rfl,rfl⟩:=k;right;calc⟨.inl ⟨(),()⟩,?_⟩;right;calc g9 (.inl ⟨(),()⟩) ∅ ?_;right;calc bF af (aA (j:=0) rfl) ?_;right;calc⟨.inr ⟨∅,∅⟩,?_⟩;right;calc dz _ 0 af rfl ?_;right;have c:=aaR (u*u+48271*u+(0+(i:Int))) (b:=2147483647) ∅;have k:=aaL (u*u+48271*u+(0+(i:Int))) (b:=2147483647) ∅;exact⟨_,_,_,c,(),⟨rfl,rfl⟩,wH⟩
 ·intro σ H' m;obtain⟨u,a,z,g,l,rfl,rfl⟩:=m;right;calc⟨∅,?_⟩;right;split
  ·calc⟨d,?_⟩;right;split
   ·calc g9 (.inl ⟨rfl,_,aS.of af⟩) d ?_;right;calc hJ _ af (aI nofun) ?_;right;rw[wH];exact q p [a,n/2] e nofun
   ·right;exact q p [a] e nofun
  ·right;calc q p [a] e nofun
abbrev kP:Stmt:=top 50
def jI:Sp:=λvs H Q _=>∃(p:Addr) (m:Int),vs=[.ref p,.int m]/\fX H p/\0<m/\m.natAbs.log2<9000/\∀d H',0<=d->d<m->Step p H H'->Q (.int d) H'
theorem yJ(D:dj K mg "_law_digit" "_law_digit" kP ["_law_pot_here","_law_many"])(T:Tx K mg C CN CR F FD):Def P w K mg base "_law_digit" 1 ["_law_pot_here","_law_many"] jI:=by
 have sc:aD ["_law_pot_here","_law_many","_law_digit_here"] ["_law_pot_here","_law_many"] (az kP):=by walk_at "s"
 symm;obtain⟨p,m,rfl,k,g,r,q⟩:=h;have j:=hr.units;refine⟨_,(ai (aW (i:=2) sc.nd rfl Sort (aT cR (ak j (au 0) (jA gj aj)) (au 1)))
  (ai (eQ (aT gG (ak j (au 0) (jA gj aj)) (au 1)) (iW (au 0) (jA gj aj) eA))
  (ai (aR (PW.pt (pw_and (aC (aY j) (ak j (au 0) (jA gj aj)) aj (aH _)) (pw_and1 (aC o9 (bo aQ rfl T.b8 T' (ag (au 0) aa)) aj (aH _))))) (ao (bS (FX nz PySem.F.slot_list_pop PySem.F.type_list_pop Pn (au 0)))) aJ)
  (ao (aK (au 2)))))),?_⟩
 nofun;obtain⟨l,c,t⟩:=id k;obtain⟨ys,z,rfl⟩:∃ys z,l=ys++[z]:=⟨l.dropLast,l.getLast (by intro e;rw[e]at t;simp at t),(List.dropLast_concat_getLast _).symm⟩
 rw[List.map_append]at c
 replace c:H p=some (.lst (ys.map V.int++[.int z])):=c
 ac_rfl;have d:Step p H H:=Step.refl k;right;calc dz _ _ (.inl (aS.of c)) kN ?_;right;calc⟨g,?_⟩;right;calc dz _ _ (.inl (aS.of c)) kN ?_;right;calc⟨⟨g,r⟩,?_⟩;right;calc dz _ _ c yH ?_;rw[HB];calc dz _ _ (.inl (aS.of af)) kN ?_;have n:=aaR z (b:=m) ();have o:=aaL z g;have u:Step p H (upd H p (.lst (ys.map V.int++[.int (z/m)]))):=by
  have:=d.set (ys++[z/m]) nofun;rw[List.map_append]at this;exact this
 right;split
 ·calc bI _ (.inl ⟨_,aS.of af,rfl⟩) ?_;right;split
  ·rename_i a;have a:1<=ys.length:=by
    simp at a;lia
   calc⟨.inl ⟨rfl,_,aS.of af⟩,?_⟩;calc⟨p,_,.int (z/m),rfl,rfl,af,nofun,?_⟩;right;rw[List.dropLast_concat,wH];exact q _ _ n o (d.set ys a)
  ·right;exact q _ _ n o u
 ·right;calc q _ _ n o u
theorem AK:Kt 10 60:=⟨∅,∅,⋯⟩
theorem Qy:Kt 10 12:=⟨∅,∅,⋯⟩
theorem Qz:Fy 2 (10^Int.toNat 60):=.inl ⟨⋯,⋯⟩
theorem VS:(0:Int)<2*10^Int.toNat 60-1:=by decide +kernel
theorem VT:(2*10^Int.toNat 60-1:Int).natAbs.log2<9000:=by decide +kernel
theorem QA:(0:Int)<10^Int.toNat 60:=by decide +kernel
theorem QB:(10^Int.toNat 60:Int).natAbs.log2<9000:=by decide +kernel
theorem VU:(0:Int)<10^Int.toNat 12-1:=by decide +kernel
theorem QC:(10^Int.toNat 12-1:Int).natAbs.log2<9000:=by decide +kernel
theorem dig{m:Int}{E:XK}(a:fX H p)(b:0<m)(c:m.natAbs.log2<9000)(q:∀d H',0<=d->d<m->Step p H H'->Q (.int d) H'):jI [.ref p,.int m] H Q E:=⟨p,m,rfl,a,b,c,q⟩
theorem Ly{H:Hp}{n:Nat}{x:V}{d:List DV}(h:HD H n x (.tup d)):∃k a xs,x=.ref a/\H a=some (.tup xs)/\xs.length=d.length/\∀(i:Nat) u e,xs[i]?=some u->d[i]?=some e->HD H k u e:=by
 cases h with
 |tup a b c=>calc⟨_,_,_,rfl,a,b,c⟩
abbrev mF:Stmt:=top 17
def HH:Sp:=λvs H Q _=>∃x m n d,vs=[x,.int m]/\HD H n x d/\∀H',aq H H'->Q (.bl (DJ m d)) H'
theorem Lz{K:W.Frag}{H:Hp}{n:Nat}{x:V}{d:DV}(h:HD H n x d)(a:∀c,d≠.tup c):∃t,gL K H x t/\W.kitOne K t (.type "tuple")=some false:=by
 cases h with
 |bx=>calc⟨_,.bx,rfl⟩
 |bl b=>calc⟨_,.bl b,rfl⟩
 |int i=>calc⟨_,.int i,rfl⟩
 |str x=>calc⟨_,.str x,rfl⟩
 |tup e=>calc absurd rfl (a _)
 |lst e=>calc⟨_,.lst e,rfl⟩
 |dict e=>calc⟨_,.dK e,rfl⟩
theorem LD{K:W.Frag}{H:Hp}{n:Nat}{x:V}{d:DV}(h:HD H n x d)(a:∀s,d≠.str s):∃t,gL K H x t/\W.kitOne K t (.type "str")=some false:=by
 cases h with
 |bx=>calc⟨_,.bx,rfl⟩
 |bl b=>calc⟨_,.bl b,rfl⟩
 |int i=>calc⟨_,.int i,rfl⟩
 |str x=>calc absurd rfl (a _)
 |tup e=>calc⟨_,.tup e,rfl⟩
 |lst e=>calc⟨_,.lst e,rfl⟩
 |dict e=>calc⟨_,.dK e,rfl⟩
theorem LF{m:Int}{d:DV}(b:∀a,d≠.tup a):DJ m d=false:=by
 cases d with
 |tup a=>calc absurd rfl (b a)
 |_=>rfl
theorem HI{m:Int}{d:DV}{r:List DV}(a:∀s,d≠.str s):DJ m (.tup (d::r))=false:=by
 cases d with
 |str s=>calc absurd rfl (a s)
 |_=>rfl
theorem AL(D:dj K mg "is_value" "is_value" mF ["thing","many"])(T:Tx K mg C CN CR F FD)(X:Def P w K mg base "is_whole" 1 ["thing"] iS)(Y:Def P w K mg base "is_within" 2 ["thing","low","beyond"] cn):Def P w K mg base "is_value" 3 ["thing","many"] HH:=by
 have sc:aD ["thing","many","word"] ["thing","many"] (az mF):=by walk_at "s"
 symm;obtain⟨x,m,n,d,rfl,G,q⟩:=h;have k:=hr.units;refine⟨_,(ai (aR (PW.pt (pw_or (cG (bN (bo ei rfl T.bc xq (ag (au 0) (ag (dF (v:=.ty "tuple") rfl T.cE uB rfl) aa))))) (pw_or (aC (aY k) (bo aQ rfl T.b8 T' (ag (au 0) aa)) aj (aH _)) (pw_or1 (cG (bN (bo ei rfl T.bc xq (ag (ak k (au 0) aj) (ag (dF (v:=.ty "str") rfl T.Cb PyProof.Rows.boot_str rfl) aa))))))))) (ao (aK jx)) aJ)
  (ai (aW (i:=2) sc.nd rfl Sort (ak k (au 0) aj))
  (ai (aR (aC Gm (au 2) (bb (ag aE (ag aE (ag aE aa)))) (by with_unfolding_all rfl)) (ao (aK (jO (aY k) (bo aQ rfl T.b8 T' (ag (au 0) aa)) aj (aH _)))) aJ)
  (ai (aR (aC (dH k) (bo aQ rfl T.b8 T' (ag (au 0) aa)) aj (aH _)) (ao (aK jx)) aJ)
  (ai (aR (aC (aY k) (au 2) aE (aH _)) (ao (aK (aL X hr (ag (ak k (au 0) aj) aa)))) aJ)
  (ao (aK (iV (jO (aY k) (au 2) aE (aH _)) (jM (aL Y hr (ag (ak k (au 0) aj) (ag aj (ag (au 1) aa))))))))))))),?_⟩
 walk_at "rd";by_cases I:∀l,d≠.tup l
 ·obtain⟨t,o,N⟩:=Lz (K:=K) G I;calc dz t false o N ?_;rw[LF I]at q;exact q H (aq.refl H)
 ·have:∃l,d=.tup l:=Classical.byContradiction λz=>I λl e=>z ⟨l,e⟩;nofun;obtain⟨l,rfl⟩:=this;obtain⟨n,a,Z,rfl,B,O,U⟩:=Ly G;calc hZ ?_;clear hZ gZ G I
  ·skip
   refine⟨.type "tuple",true,.tup B,rfl,?_⟩;simp only[Bool.not_true,Bool.false_eq_true,if_false];refine bI _ (.inr ⟨_,bH.of B,rfl⟩) ?_;right;rcases l with _|⟨R,b⟩<;>rcases Z with _|⟨x0,J⟩
   ·exact q H (aq.refl H)
   ·cases O
   ·cases O
   ·skip
    rw[if_neg (by simp;lia)];calc dz _ _ (.inr (bH.of B)) (aA (j:=0) rfl) ?_;have W:=U 0 x0 R rfl rfl;by_cases k:∀s,R≠.str s
    ·obtain⟨t,o,N⟩:=LD (K:=K) W k;calc dz t false o N ?_;rw[HI k]at q;exact q H (aq.refl H)
    ·have:∃s,R=.str s:=Classical.byContradiction λz=>k λl e=>z ⟨l,e⟩;nofun;obtain⟨g,rfl⟩:=this;obtain rfl:=W.cS;ac_rfl;refine⟨.type "str",true,.str _,rfl,?_⟩;simp only[Bool.not_true,Bool.false_eq_true,if_false];refine dz _ _ (.inr (bH.of B)) (aA (j:=0) rfl) ?_;right;refine⟨∅,λp k=>?_⟩;have r:aq H (upd H p (.tup [.str "letter",.str "way",.str "first"])):=aq.new _ k;have L:=r _ _ B;refine Ls _ (.inr (bH.of af)) rfl rfl ?_;right;have u:J.length=b.length:=by simpa using O
     by_cases M:xT (.str g) rS=true
     ·have S:DJ m (.tup (.str g::b))=decide (b.length=0):=by
       show(if xT (.str g) rS=true then decide (b.length=0) else _)=_;rw[if_pos M]
      rw[if_pos (show xT (.str g) [.str "letter",.str "way",.str "first"]=true from M)];refine bI _ (.inr ⟨_,bH.of L,rfl⟩) ?_;right;have e:decide (((J.length+1:Nat):Int)=1)=decide (b.length=0):=by
       rw[u];by_cases z:b.length=0
       ·rw[decide_eq_true z,decide_eq_true ()]
       ·rw[decide_eq_false z,decide_eq_false ()]
      rw[S]at q;have c:=q _ r;rw[<-e]at c;exact c
     ·have S:DJ m (.tup (.str g::b))=Li g m b:=by
       show(if xT (.str g) rS=true then decide (b.length=0) else _)=_;rw[if_neg M]
      rw[if_neg (show ¬xT (.str g) [.str "letter",.str "way",.str "first"]=true from M)];refine bI _ (.inr ⟨_,bH.of L,rfl⟩) ?_;right;rw[S]at q;rcases b with _|⟨z,_|⟨z',b⟩⟩<;>rcases J with _|⟨y,_|⟨k,J⟩⟩
      ·rw[if_pos nofun];exact q _ r
      ·cases u
      ·cases u
      ·cases u
      ·skip
       rw[if_neg nofun];have o:=(U 1 y z rfl rfl).same r;obtain⟨t,l⟩:=Vl o;by_cases b:g="is"
       ·rw[if_pos (by simpa using b)];calc⟨_,_,.inr (bH.of L),rfl,y,t,rfl,l,?_⟩;have c:=q _ r;simp only[Li,if_pos b]at c;rw[Qi o];exact c
       ·rw[if_neg (by simpa using b)];have c:=q _ r;simp only[Li,if_neg b] at c;by_cases k:g="number"
        ·rw[if_pos (by simpa using k)];calc⟨_,_,.inr (bH.of L),rfl,y,t,0,m,rfl,l,?_⟩;rw[decide_eq_true k,Bool.true_and]at c;rw[Qj o];exact c
        ·rw[if_neg (by simpa using k)];rw[decide_eq_false k,Bool.false_and]at c;exact c
      ·simp at u
      ·cases u
      ·simp at u
      ·rw[if_pos (by simp;lia)];calc q _ r
abbrev pB:Stmt:=top 12
def mG:Sp:=λvs H Q _=>∃(a:Addr) (xs:List V) (lo hi:Int),vs=[.ref a,.int lo,.int hi]/\(H a=some (.lst xs)\/H a=some (.tup xs))/\∀H',aq H H'->Q (.bl (decide (lo<=(xs.length:Int))&&decide ((xs.length:Int)<=hi))) H'
theorem DZ(D:dj K mg "is_list" "is_list" pB ["things","least","most"])(T:Tx K mg C CN CR F FD):Def P w K mg base "is_list" 1 ["things","least","most"] mG:=by
 have sc:aD ["things","least","most"] ["things","least","most"] (az pB):=by walk_at "s"
 symm;obtain⟨a,d,g,i,rfl,b,q⟩:=h;have i:=hr.units;refine⟨_,(ao (aK (iV (bo ei rfl T.bc xq (ag (au 0) (ag (bb (ag (dF (v:=.ty "list") rfl T.dI vK rfl) (ag (dF (v:=.ty "tuple") rfl T.cE uB rfl) aa))) aa))) (jM (xP Ag Ag (au 1) (bo aQ rfl T.b8 T' (ag (au 0) aa)) (au 2)))))),?_⟩;right;refine⟨bP,λp i=>?_⟩;have c:aq H (upd H p (.tup [.ty "list",.ty "tuple"])):=aq.new _ i;have e:∃t,gL K (upd H p (.tup [.ty "list",.ty "tuple"])) (.ref a) t/\W.kitAny K t [.type "list",.type "tuple"]=some true/\FC K (.ref a) (upd H p (.tup [.ty "list",.ty "tuple"])) d.length:=by
  rcases b with b|b
  ·exact⟨_,.lst (c _ _ b),rfl,.inl ⟨_,aS.of (c _ _ b),rfl⟩⟩
  ·exact⟨_,.tup (c _ _ b),rfl,.inr ⟨_,bH.of (c _ _ b),rfl⟩⟩
 obtain⟨t,i,j,k⟩:=e;calc VD t true _ _ i af rfl j ?_;rw[if_pos rfl];calc bI _ k ?_;have b:=q _ c;by_cases h:g<=(d.length:Int)
 ·rw[if_pos (by simpa using h)];rw[decide_eq_true h,Bool.true_and]at b;exact b
 ·rw[if_neg (by simpa using h)];rw[decide_eq_false h,Bool.false_and]at b;calc b
abbrev pC:Stmt:=top 23
def Ce(K:W.Frag):Sp:=λvs H Q _=>∃d:bu,vs=[.str d.word]/\∀p,bH K H p (d.tY.map V.str)->Q (.ref p) H
theorem D0(D:dj K mg "form_of" "form_of" pC ["word"])(T:Tx K mg C CN CR F FD):Def P w K mg base "form_of" 1 ["word"] (Ce K):=by
 have sc:aD ["word"] ["word"] (az pC):=by walk_at "s"
 symm;obtain⟨d,rfl,q⟩:=h;have a:=hr.units;calc⟨_,(ao (aK (K8 T.Cd rfl T.Cc (ag (au 0) aa)))),?_⟩;obtain⟨p,a,b⟩:=T.Nl d;show Q ((PyProof.Rows.KTD.datumAt d.word FD).getD .bx) H;rw[a];calc q p (b H)
abbrev pD:Stmt:=top 24
inductive jX(H:Hp)(m:Int):V->Str->Prop
 |value {n x v}:HT H n x (Val.dv v)->v.ok m->jX H m x "value"
 |number {i}:0<=i->i<m->jX H m (.int i) "number"
 |many {i}:1<=i->i<25->jX H m (.int i) "many"
 |way {i}:0<=i->jX H m (.int i) "way"
theorem jX.same{H H':Hp}{m:Int}{x:V}{w:Str}(s:aq H H')(h:jX H m x w):jX H' m x w:=by
 cases h with
 |value a b=>calc .value (a.aG s.aM) b
 |number a b=>calc .number a b
 |many a b=>calc .many a b
 |way a=>calc .way a
def Cf:Sp:=λvs H Q _=>∃x w m,vs=[x,.str w,.int m]/\jX H m x w/\∀H',aq H H'->Q (.bl true) H'
theorem D7(D:dj K mg "is_part" "is_part" pD ["thing","sort","many"])(T:Tx K mg C CN CR F FD)(d:Def P w K mg base "is_value" 3 ["thing","many"] HH)(g:Def P w K mg base "is_whole" 1 ["thing"] iS)(b:Def P w K mg base "is_within" 2 ["thing","low","beyond"] cn):Def P w K mg base "is_part" 4 ["thing","sort","many"] Cf:=by
 have sc:aD ["thing","sort","many"] ["thing","sort","many"] (az pD):=by walk_at "s"
 symm;obtain⟨x,w,m,rfl,c,q⟩:=h;have a:=hr.units;refine⟨_,(ai (aR (aC (aY a) (au 1) aE (aH _)) (ao (aK (aL d hr (ag (au 0) (ag (au 2) aa))))) aJ)
  (ai (aR (aC (aY a) (au 1) aE (aH _)) (ao (aK (aL b hr (ag (au 0) (ag aj (ag (au 2) aa)))))) aJ)
  (ai (aR (aC (aY a) (au 1) aE (aH _)) (ao (aK (aL b hr (ag (au 0) (ag aj (ag (aT ck (fR T.dU rfl) aj) aa)))))) aJ)
  (ao (aK (iV (aL g hr (ag (au 0) aa)) (jM (jO Gh (au 0) aj (aH _))))))))),?_⟩
 right
 cases c with
 | @value n x v a b=>
  rw[if_pos ⋯];calc fW x m n _ rfl a.hd (λH' s=>?_);rw[Qk b];calc q H' s
 | @number i a b=>
  rw[if_neg ⋯,if_pos ⋯];calc fW (.int i) _ 0 m rfl (.int i) ?_;have e:inR 0 m (.int i)=true:=by simp[inR,a,b]
  rw[e];calc q H (aq.refl H)
 | @many i a b=>
  rw[if_neg ⋯,if_neg ⋯,if_pos ⋯];calc fW (.int i) _ 1 _ rfl (.int i) ?_;have e:inR 1 (24+1) (.int i)=true:=by simp[inR,a];lia
  rw[e];calc q H (aq.refl H)
 | @way i a=>
  rw[if_neg ⋯,if_neg ⋯,if_neg ⋯];calc⟨.int i,_,rfl,.int i,true,rfl,?_⟩;rw[if_pos rfl];have e:decide ((0:Int)<=i)=true:=decide_eq_true a;right;rw[e];calc q H (aq.refl H)
abbrev pE:Stmt:=top 25
theorem abp{x:V}{a:List V}:bR (x::a) (some 1) none=a:=by
 unfold bR;have e:HT.eE (x::a).length 0 (some 1)=1:=by
  show(if (1:Int)<0 then((1:Int)+((x::a).length:Int)).toNat else min (1:Int).toNat (x::a).length)=1;rw[if_neg ∅];show min 1 (a.length+1)=1;lia
 rw[e];show List.take ((x::a).length-1) a=a;simp
theorem si{H:Hp}{n:Nat}{x:V}{d:bu}{m:Int}(h:HT H n x d.dv)(f:d.ok m):∃a q,x=.ref a/\H a=some (.tup (.str d.word::q))/\q.length=d.tY.length/\∀(i:Nat) p s,q[i]?=some p->d.tY[i]?=some s->jX H m p s:=by
 cases d with
 |set i v=>
  nofun;obtain⟨a,u,y,z,k,rfl,e,g,l,o⟩:=bW h;obtain rfl:=g.cS;obtain rfl:=l.cw;ac_rfl;refine ub a _ rfl e rfl (λj p s b c=>?_)
  match j,b,c with
  |0,b,c=>cases b;cases c;calc .number f.1 f.2.1
  |1,b,c=>cases b;cases c;calc .value o f.2.2
 |add i v=>
  nofun;obtain⟨a,u,y,z,k,rfl,e,g,l,o⟩:=bW h;obtain rfl:=g.cS;obtain rfl:=l.cw;ac_rfl;refine ub a _ rfl e rfl (λj p s b c=>?_)
  match j,b,c with
  |0,b,c=>cases b;cases c;calc .number f.1 f.2.1
  |1,b,c=>cases b;cases c;calc .value o f.2.2
 |times i v=>
  nofun;obtain⟨a,u,y,z,k,rfl,e,g,l,o⟩:=bW h;obtain rfl:=g.cS;obtain rfl:=l.cw;ac_rfl;refine ub a _ rfl e rfl (λj p s b c=>?_)
  match j,b,c with
  |0,b,c=>cases b;cases c;calc .number f.1 f.2.1
  |1,b,c=>cases b;cases c;calc .value o f.2.2
 |put v=>
  nofun;obtain⟨a,u,y,k,rfl,e,g,l⟩:=cm h;obtain rfl:=g.cS;ac_rfl;refine ub a _ rfl e rfl (λj p s b c=>?_)
  match j,b,c with
  |0,b,c=>cases b;cases c;calc .value l f
 |drop=>
  nofun;obtain⟨a,u,k,rfl,e,g⟩:=iX h;obtain rfl:=g.cS;ac_rfl;calc⟨a,_,rfl,e,rfl,λj p s b c=>by simp at b⟩
 |send j v=>
  nofun;obtain⟨a,u,y,z,k,rfl,e,g,l,o⟩:=bW h;obtain rfl:=g.cS;obtain rfl:=l.cw;ac_rfl;refine ub a _ rfl e rfl (λj p s b c=>?_)
  match j,b,c with
  |0,b,c=>cases b;cases c;calc .way f.1
  |1,b,c=>cases b;cases c;calc .value o f.2
 |say v=>
  nofun;obtain⟨a,u,y,k,rfl,e,g,l⟩:=cm h;obtain rfl:=g.cS;ac_rfl;refine ub a _ rfl e rfl (λj p s b c=>?_)
  match j,b,c with
  |0,b,c=>cases b;cases c;calc .value l f
 |skip v w i=>
  nofun;obtain⟨a,u,y,z,t,k,rfl,e,g,l,o,r⟩:=nZ h;obtain rfl:=g.cS;obtain rfl:=r.cw;ac_rfl;refine ub a _ rfl e rfl (λj p s b c=>?_)
  match j,b,c with
  |0,b,c=>cases b;cases c;calc .value l f.1
  |1,b,c=>cases b;cases c;calc .value o f.2.1
  |2,b,c=>cases b;cases c;calc .many f.2.2.1 f.2.2.2
theorem AM:d.tY.length<=3:=by cases d<;>simp[bu.tY]
def vb:Sp:=λvs H Q _=>∃x m n d,vs=[x,.int m]/\HT H n x (bu.dv d)/\d.ok m/\∀H',aq H H'->Q (.bl true) H'
theorem D8(D:dj K mg "is_deed" "is_deed" pE ["thing","many"])(T:Tx K mg C CN CR F FD)(l:Def P w K mg base "form_of" 1 ["word"] (Ce K))(R:Def P w K mg base "is_part" 4 ["thing","sort","many"] Cf):Def P w K mg base "is_deed" 5 ["thing","many"] vb:=by
 have sc:aD ["thing","many","form"] ["thing","many"] (az pE):=by walk_at "s"
 symm;obtain⟨x,m,n,d,rfl,I,L,q⟩:=h;have k:=hr.units;refine⟨_,(ai (aR (PW.pt (pw_or (cG (bN (bo ei rfl T.bc xq (ag (au 0) (ag (dF (v:=.ty "tuple") rfl T.cE uB rfl) aa))))) (pw_or (aC (aY k) (bo aQ rfl T.b8 T' (ag (au 0) aa)) aj (aH _)) (pw_or1 (cG (bN (bo ei rfl T.bc xq (ag (ak k (au 0) aj) (ag (dF (v:=.ty "str") rfl T.Cb PyProof.Rows.boot_str rfl) aa))))))))) (ao (aK jx)) aJ)
  (ai (aW (i:=2) sc.nd rfl Sort (aL l hr (ag (ak k (au 0) aj) aa)))
  (ai (aR (PW.pt (pw_or (aC rF (au 2) fK (aH _)) (pw_or1 (aC (dH k) (bo aQ rfl T.b8 T' (ag (au 0) aa)) (aT ck (bo aQ rfl T.b8 T' (ag (au 2) aa)) aj) (aH _))))) (ao (aK jx)) aJ)
  (ao (aK (bo (jC rfl) rfl T.u9 TY (ag (dQ (N':=["part","sort","many"]) (ix:=[none,none,some 1]) (GP rfl T.Hy (ag (gN (au 0) (eL aj) fe) (ag (au 2) aa))) (λ_ _ _ _=>(lV (K:=K) rfl (i:=0) (j:=1) rfl (show(["part","sort","many"]:List Str).Nodup by decide +kernel) rfl rfl Sort Sort)) pw (λ_ _ _ _=>(aL R hr (ag (au 0) (ag (au 1) (ag (au 2) aa)))))) aa))))))),?_⟩
 obtain⟨a,g,rfl,k,l,S⟩:=si I L;have R:=AM (d:=d);right;calc dz _ true (.tup k) rfl ?_;simp only[Bool.not_true,Bool.false_eq_true,if_false];calc bI _ (.inr ⟨_,bH.of k,rfl⟩) ?_;rw[if_neg (by simp;lia)];calc⟨_,.str d.word,.inr (bH.of k),aA (j:=0) rfl,_,true,.str _,rfl,?_⟩;simp only[Bool.not_true,Bool.false_eq_true,if_false];calc⟨_,.str d.word,.inr (bH.of k),aA (j:=0) rfl,d,rfl,λp I=>?_⟩;right;rw[if_neg Bool.false_ne_true];calc⟨_,.inr ⟨_,bH.of k,rfl⟩,_,.inr ⟨_,I,rfl⟩,?_⟩;rw[if_neg (by simp[l])];calc bV ?_;right;calc .inr ⟨_,k,λL H2 B o=>?_⟩;rw[abp]at o;have r:=B.Si I;calc fW false false _ _ (Sq.t o) r (λD M=>?_);refine bE (J:=Y3 false false K L p) (n:=g.length) (λi ys H'=>ys=List.replicate i (V.bl true)/\aq H2 H') (L' (aI ())) ⟨rfl,aq.new _ M⟩ ?_ ?_ ?_ ?_
 ·rintro i ys H' G ⟨_,c⟩;exact⟨g,d.tY.map V.str,g[i],.str (d.tY[i]'()),Sq.t (c _ _ o),c.Si r,cP G,by rw[List.getElem?_map,cP ()];rfl⟩
 ·rintro ys H' ⟨_,c⟩;exact⟨g,d.tY.map V.str,Sq.t (c _ _ o),c.Si r,.inl rfl⟩
 ·intro i ys H' G y N U x H4 W;nofun;obtain⟨rfl,c⟩:=U;obtain⟨T,X,rfl,Y⟩:=W;obtain⟨u,v,Z,O,rfl⟩:=Y g (d.tY.map V.str) (Sq.t (c _ _ o)) (c.Si r);rw[List.getElem?_map]at O;obtain⟨z,ez,rfl⟩:=Option.map_eq_some_iff.mp O;ac_rfl;have k:aq H' (upd H' T (.tup [u,.str z])):=aq.new _ X;calc yC (bH.of af) ⟨Ext.set (Ext.set (Ext.refl _) rfl) rfl,?_⟩;right;rw[if_pos trivial];calc abg u z m rfl ((S i u z Z ez).same (B.trans (c.trans k))) (λn l=>?_);have r:n D=some (.lst (List.replicate i (V.bl true))):=l _ _ (k _ _ y);calc cy r N G (L' (aI ())) ⟨jE _ _,λb o e=>?_⟩;rw[ay (av e M)];exact l _ _ (k _ _ (c _ _ e))
 ·rintro ys H' y N ⟨rfl,c⟩;right;rw[ph] at y;calc bI _ (aS.of y) ?_;have e:(List.replicate g.length true).all id=true:=by simp
  rw[e];calc q _ (B.trans c)
abbrev i3:Stmt:=top 31
def LT(H:Hp)(a:Addr)(xs:List V):Prop:=H a=some (.lst xs)\/H a=some (.tup xs)
theorem LT.same{xs:List V}(s:aq H H')(h:LT H a xs):LT H' a xs:=h.elim (λz=>.inl (s _ _ z)) (λz=>.inr (s _ _ z))
theorem jJ{K:W.Frag}(h:LT H a ys)(q:∀p H',aq H H'->H' p=some (.tup ys)->Q (.ref p) H'):we K [.ref a] H Q:=by
 rcases h with h|h
 ·exact .inl ⟨_,aS.of h,λl b=>q l _ (aq.new _ b) af⟩
 ·calc .inr ⟨_,bH.of h,q a H (aq.refl H) h⟩
def sj:Sp:=λvs H Q _=>∃(a:Addr) (ns:List Int) (lo hi M:Int),vs=[.ref a,.int lo,.int hi,.int M]/\LT H a (ns.map V.int)/\lo<=(ns.length:Int)/\(ns.length:Int)<=hi/\hi<=100/\(∀z∈ns,0<=z/\z<M)/\∀H',aq H H'->Q (.bl true) H'
theorem uc(D:dj K mg "are_counted" "are_counted" i3 ["things","least","most","modulus"])(T:Tx K mg C CN CR F FD)(L:Def P w K mg base "is_list" 1 ["things","least","most"] mG)(N:Def P w K mg base "is_within" 2 ["thing","low","beyond"] cn):Def P w K mg base "are_counted" 3 ["things","least","most","modulus"] sj:=by
 have sc:aD ["things","least","most","modulus"] ["things","least","most","modulus"] (az i3):=by walk_at "s"
 symm;obtain⟨a,ns,B,G,M,rfl,g,I,m,v,y,q⟩:=h;have v:=hr.units;refine⟨_,(ao (aK (iV (aL L hr (ag (au 0) (ag (au 1) (ag (au 2) aa)))) (jM (bo (jC rfl) rfl T.u9 TY (ag (dQ (N':=["thing","modulus"]) (ix:=[none,some 3]) (cA (pv 0)) (λ_ _ _ _=>(aX (i:=0) (show(["thing","modulus"]:List Str).Nodup by decide +kernel) rfl Sort)) pw (λ_ _ _ _=>(aL N hr (ag (au 0) (ag aj (ag (au 1) aa)))))) aa)))))),?_⟩;right;refine fW a _ B G rfl g (λH1 k=>?_);rw[List.length_map,decide_eq_true I,decide_eq_true m];show ∃c,V.bl true=.bl c/\_;refine bI true rfl ?_;rw[if_pos rfl];refine bV ?_;right;rcases g with g | g
 ·calc .inl ⟨⟨_,aS.of (k _ _ g)⟩,λD p=>?_⟩;refine bE (J:=xN K a) (n:=ns.length) (λi ys H'=>ys=List.replicate i (V.bl true)/\aq H1 H') (L' (aI ())) ⟨rfl,aq.new _ p⟩ ?_ ?_ ?_ ?_
  ·rintro i ys H' j ⟨_,d⟩;exact⟨_,.int ns[i],aS.of (d _ _ (k _ _ g)),by rw[List.getElem?_map,cP j];rfl⟩
  ·rintro ys H' ⟨_,d⟩;exact⟨_,aS.of (d _ _ (k _ _ g)),nofun⟩
  ·intro i ys H' j l r O x R S;nofun;obtain⟨rfl,d⟩:=O;obtain⟨rfl,z⟩:=S;have t:=z _ (aS.of (d _ _ (k _ _ g)));rw[List.getElem?_map,cP j] at t;obtain rfl:=Option.some.inj t;ac_rfl;calc⟨Ext.set (Ext.refl _) rfl,?_⟩;right;rw[if_pos trivial];calc fW (.int ns[i]) _ 0 M rfl (.int _) ?_;have u:=y ns[i] (W' j);have e:inR 0 M (.int ns[i])=true:=by simp[inR,u.1,u.2]
   rw[e];calc cy l r j (L' (aI ())) ⟨jE _ _,λb o e=>?_⟩;rw[ay (av e p)];exact d _ _ e
  ·rintro ys H' l r ⟨rfl,d⟩;right;rw[ph] at l;calc bI _ (aS.of l) ?_;have e:(List.replicate ns.length true).all id=true:=by simp
   rw[e];exact q _ (k.trans d)
 ·calc .inr ⟨⟨_,bH.of (k _ _ g)⟩,λD p=>?_⟩;refine bE (J:=Ua K a) (n:=ns.length) (λi ys H'=>ys=List.replicate i (V.bl true)/\aq H1 H') (L' (aI ())) ⟨rfl,aq.new _ p⟩ ?_ ?_ ?_ ?_
  ·rintro i ys H' j ⟨_,d⟩;exact⟨_,.int ns[i],bH.of (d _ _ (k _ _ g)),by rw[List.getElem?_map,cP j];rfl⟩
  ·rintro ys H' ⟨_,d⟩;exact⟨_,bH.of (d _ _ (k _ _ g)),nofun⟩
  ·intro i ys H' j l r U x R W;nofun;obtain⟨rfl,d⟩:=U;obtain⟨rfl,z⟩:=W;have t:=z _ (bH.of (d _ _ (k _ _ g)));rw[List.getElem?_map,cP j] at t;obtain rfl:=Option.some.inj t;ac_rfl;calc⟨Ext.set (Ext.refl _) rfl,?_⟩;right;rw[if_pos trivial];calc fW (.int ns[i]) _ 0 M rfl (.int _) ?_;have u:=y ns[i] (W' j);have e:inR 0 M (.int ns[i])=true:=by simp[inR,u.1,u.2]
   rw[e];calc cy l r j (L' (aI ())) ⟨jE _ _,λb o e=>?_⟩;rw[ay (av e p)];exact d _ _ e
  ·rintro ys H' l r ⟨rfl,d⟩;right;rw[ph] at l;calc bI _ (aS.of l) ?_;have e:(List.replicate ns.length true).all id=true:=by simp
   rw[e];calc q _ (k.trans d)
abbrev gp:Stmt:=top 32
def Ci:Sp:=λvs H Q _=>∃(M:Int) (a b ad:Addr) (ns row:List Int) (xs:List V),vs=[.int M,.ref a,.ref b,.ref ad]/\2<=M/\M<=1000000000000/\LT H a (ns.map V.int)/\LT H b (row.map V.int)/\LT H ad xs/\1<=ns.length/\ns.length<=4/\row.length<=12/\(∀z∈ns,0<=z/\z<M)/\(∀z∈row,0<=z/\z<M)/\∀H',aq H H'->Q .bx H'
theorem pH(D:dj K mg "refuse_machine" "refuse_machine" gp ["modulus","numbers","row","deeds"])(T:Tx K mg C CN CR F FD)(b:Def P w K mg base "are_counted" 3 ["things","least","most","modulus"] sj)(r:Def P w K mg base "is_within" 2 ["thing","low","beyond"] cn):Def P w K mg base "refuse_machine" 4 ["modulus","numbers","row","deeds"] Ci:=by
 have sc:aD ["modulus","numbers","row","deeds"] ["modulus","numbers","row","deeds"] (az gp):=by walk_at "s"
 symm;obtain⟨M,c,d,ad,ns,row,u,rfl,g,x,i,j,k,y,B,G,l,m,q⟩:=h;have u:=hr.units;refine⟨_,(ai (aR (cG (bN (aL r hr (ag (au 0) (ag aj (ag (aT ck (fR T.dJ rfl) aj) aa)))))) (ao e9) aJ)
  (ai (aR (cG (bN (aL b hr (ag (au 1) (ag aj (ag (fR T.dM rfl) (ag (au 0) aa))))))) (ao e9) aJ)
  (ai (aR (cG (bN (aL b hr (ag (au 2) (ag aj (ag (fR T.fq rfl) (ag (au 0) aa))))))) (ao e9) aJ)
  (ao (aR (cG (bN (bo ei rfl T.bc xq (ag (au 3) (ag (bb (ag (dF (v:=.ty "list") rfl T.dI vK rfl) (ag (dF (v:=.ty "tuple") rfl T.cE uB rfl) aa))) aa))))) (ao e9) aJ))))),?_⟩
 right;calc fW (.int M) _ 2 _ rfl (.int M) ?_;have e:inR 2 (1000000000000+1) (.int M)=true:=by simp[inR,g];lia
 rw[e];right;rw[if_neg ∅];calc VE c ns 1 4 M rfl i () () ∅ l (λH1 a=>?_);right;rw[if_neg ∅];calc VE d row 0 12 M rfl (j.same a) () () ∅ m (λH2 n=>?_);right;rw[if_neg ∅];calc⟨bP,λp b=>?_⟩;have o:aq H2 (upd H2 p (.tup [.ty "list",.ty "tuple"])):=aq.new _ b;have I:∃t,gL K (upd H2 p (.tup [.ty "list",.ty "tuple"])) (.ref ad) t/\W.kitAny K t [.type "list",.type "tuple"]=some true:=by
  rcases k.same (a.trans (n.trans o)) with z|z
  ·exact⟨_,.lst z,rfl⟩
  ·exact⟨_,.tup z,rfl⟩
 obtain⟨t,b,c⟩:=I;calc VD t true _ _ b af rfl c ?_;right;rw[if_neg ∅];calc q _ (a.trans (n.trans o))
abbrev ic:Stmt:=top 33
def DL(H:Hp)(n:Nat)(xs:List V)(a:List bu):Prop:=xs.length=a.length/\∀(i:Nat) x d,xs[i]?=some x->a[i]?=some d->HT H n x (bu.dv d)
theorem DL.aG{n:Nat}{xs:List V}{a:List bu}(s:cq H H')(h:DL H n xs a):DL H' n xs a:=⟨h.1,λi x d a b=>(h.2 i x d a b).aG s⟩
theorem DL.ht{n:Nat}{xs:List V}{b:List bu}(h:DL H n xs b)(e:H a=some (.tup xs)):HT H (n+1) (.ref a) (.tup (b.map bu.dv)):=by
 calc .tup e (by rw[List.length_map];calc h.1) λi u d f c=>?_;rw[List.getElem?_map]at c;obtain⟨dd,g,rfl⟩:=Option.map_eq_some_iff.mp c;calc h.2 i u dd f g
def Cj:Sp:=λvs H Q _=>∃(a:Addr) (xs:List V) (b:List bu) (m:Int) (n:Nat),vs=[.ref a,.int m]/\LT H a xs/\DL H n xs b/\b.length<=24/\(∀d∈b,d.ok m)/\∀H',aq H H'->Q .bx H'
theorem sk(D:dj K mg "refuse_deeds" "refuse_deeds" ic ["deeds","many"])(T:Tx K mg C CN CR F FD)(B:Def P w K mg base "is_deed" 5 ["thing","many"] vb):Def P w K mg base "refuse_deeds" 6 ["deeds","many"] Cj:=by
 have sc:aD ["deeds","many","at","deed"] ["deeds","many"] (az ic):=by walk_at "s"
 symm;obtain⟨a,c,e,m,n,rfl,d,g,G,u,q⟩:=h;have G:=hr.units;refine⟨_,(ao (eZ PassesOwn.never rfl (gX rfl T.cW (ag (au 0) aa)) (fm (i:=2) (j:=3) rfl sc.nd rfl rfl Sort Sort)
  (ao (aR (PW.pt (pw_or (aC (aY G) (au 2) (fR T.dU rfl) (aH _)) (pw_or1 (cG (bN (aL B hr (ag (au 3) (ag (au 1) aa)))))))) (ao e9) aJ)))),?_⟩
 rcases d with d|d
 ·calc DQ true c (Sq.l d) ?_;refine jD (xs:=c) (λi σ H'=>aq H H'/\∃k o,σ=[some (.ref a),some (.int m),k,o]) ⟨aq.refl H,none,none,rfl⟩ (λi σ H' ⟨b,_⟩=>Sq.l (b _ _ d)) ?_ ?_
  ·intro i x σ H1 T p I v;obtain⟨b,k,o,rfl⟩:=I;have y:i < c.length:=(List.getElem?_eq_some_iff.mp p).1;have gY:i < e.length:=by rw[<-g.1];exact y
   have r:aq H1 (upd H1 T (.tup [.int i,x])):=aq.new _ v;calc yC (bH.of af) ?_;right;rw[if_neg (by simp;lia)];calc⟨x,m,n,e[i],rfl,(g.2 i x e[i] p (cP gY)).aG (b.trans r).aM,u _ (W' gY),λJ z=>?_⟩;right
   first|rw[if_neg ∅]|skip
   exact⟨b.trans (r.trans z),_,_,rfl,rfl⟩
  ·rintro σ H1 ⟨b,_⟩;exact q _ b
 ·calc DQ false c (Sq.t d) ?_;refine jD (xs:=c) (λi σ H'=>aq H H'/\∃k o,σ=[some (.ref a),some (.int m),k,o]) ⟨aq.refl H,none,none,rfl⟩ (λi σ H' ⟨b,_⟩=>Sq.t (b _ _ d)) ?_ ?_
  ·intro i x σ H1 T p L v;obtain⟨b,k,o,rfl⟩:=L;have y:i < c.length:=(List.getElem?_eq_some_iff.mp p).1;have gY:i < e.length:=by rw[<-g.1];exact y
   have r:aq H1 (upd H1 T (.tup [.int i,x])):=aq.new _ v;calc yC (bH.of af) ?_;right;rw[if_neg (by simp;lia)];calc⟨x,m,n,e[i],rfl,(g.2 i x e[i] p (cP gY)).aG (b.trans r).aM,u _ (W' gY),λJ z=>?_⟩;right
   first|rw[if_neg ∅]|skip
   exact⟨b.trans (r.trans z),_,_,rfl,rfl⟩
  ·rintro σ H1 ⟨b,_⟩;calc q _ b
abbrev pK:Stmt:=(bX (top 37)).getD 0 (.Pass ⟨0,0,0,0⟩)
def J0(M:Int)(st dd:V):List (Str×V):=ba "own_deeds" dd (ba "own_state" st (ba "own_modulus" (.int M) []))
theorem VW{M:Int}:(J0 M st dd).lookup ("own_modulus":Str)=some (.int M):=by
 unfold J0;rw[bt,if_neg ⋯,bt,if_neg ⋯,bt,if_pos rfl]
theorem abr{M:Int}:(J0 M st dd).lookup ("own_state":Str)=some st:=by
 unfold J0;rw[bt,if_neg ⋯,bt,if_pos rfl]
theorem VX{M:Int}:(J0 M st dd).lookup ("own_deeds":Str)=some dd:=by
 unfold J0;rw[bt,if_pos rfl]
theorem Ck{M:Int}(a:f≠"own_modulus")(b:f≠"own_state")(c:f≠"own_deeds"):(J0 M st dd).lookup f=none:=by
 unfold J0;rw[bt,if_neg c,bt,if_neg b,bt,if_neg a];rfl
theorem bQ{v:V}{a:List (Str×V)}{n:Nat}(h:a.length<n):(ba f v a).length<n+1:=by
 have:=kE f v a;lia
def ie(C:Addr)(H:Hp)(m:Addr)(M:Int)(ns row:List Int)(a:List bu):Prop:=∃b st dd,H m=some (.ins C b (J0 M st dd))/\HT H 2 st (yq ns row)/\HT H 4 dd (.tup (a.map bu.dv))
theorem ie.same{C:Addr}{M:Int}{a:List bu}(s:aq H H')(h:ie C H m M ns row a):ie C H' m M ns row a:=by
 obtain⟨a,st,dd,b,c,d⟩:=h;calc⟨a,st,dd,s _ _ b,c.aG s.aM,d.aG s.aM⟩
def Cm(C:Addr):Sp:=λvs H Q _=>∃(x f:Addr) (M:Int) (c e ad:Addr) (ns row:List Int) (xs:List V) (a:List bu) (n:Nat),vs=[.ref x,.int M,.ref c,.ref e,.ref ad]/\H x=some (.ins C f [])/\2<=M/\M<=1000000000000/\LT H c (ns.map V.int)/\LT H e (row.map V.int)/\LT H ad xs/\1<=ns.length/\ns.length<=4/\row.length<=12/\
 (∀z∈ns,0<=z/\z<M)/\(∀z∈row,0<=z/\z<M)/\DL H n xs a/\n<=3/\a.length<=24/\(∀d∈a,d.ok ns.length)/\∀H',ie C H' x M ns row a->(∀b o,b≠x->H b=some o->H' b=some o)->Q .bx H'
theorem Ea(D:DE K mg "Machine" C "Machine.__init__" pK ["self","modulus","numbers","row","deeds"])(T:Tx K mg C CN CR F FD)(ig:Def P w K mg base "refuse_deeds" 6 ["deeds","many"] Cj)(gq:Def P w K mg base "refuse_machine" 4 ["modulus","numbers","row","deeds"] Ci):yj P w K mg base "Machine" C 7 ["self","modulus","numbers","row","deeds"] (Cm C):=by
 have sc:aD ["self","modulus","numbers","row","deeds"] ["self","modulus","numbers","row","deeds"] (az pK):=by walk_at "s"
 symm;obtain⟨x,a,M,N,ar,ad,ns,row,u,ds,n,rfl,v,D9,pI,y,O,l,wI,Sw,oh,hb,QF,R,m,Nm,aU,q⟩:=h;have m:=hr.units;refine⟨_,(ai (bS (aL gq hr (ag (au 1) (ag (au 2) (ag (au 3) (ag (au 4) aa))))))
  (ai (bS (aL ig hr (ag (au 4) (ag (bo aQ rfl T.b8 T' (ag (au 2) aa)) aa))))
  (ai (fN (au 0) (au 1) (ff rfl))
  (ai (fN (au 0) (bb (ag (da cH rfl T.cE uB (ag (au 2) aa)) (ag (da cH rfl T.cE uB (ag (au 3) aa)) aa))) (ff rfl))
  (ao (fN (au 0) (da cH rfl T.cE uB (ag (au 4) aa)) (ff rfl))))))),?_⟩
 try walk_at "rt"
 refine⟨M,N,ar,ad,ns,row,u,rfl,D9,pI,y,O,l,wI,Sw,oh,hb,QF,λH1 B=>?_⟩
 try walk_at "rt"
 have m:FC K (.ref N) H1 (ns.map V.int).length:=(y.same B).elim (λz=>.inl ⟨_,aS.of z,rfl⟩) (λz=>.inr ⟨_,bH.of z,rfl⟩);calc bI _ m ?_;calc abk ad u ds _ n rfl (l.same B) (R.aG B.aM) Nm (by rw[List.length_map];calc aU) (λH2 N=>?_);have J1:=B.trans N
 try walk_at "rt"
 have m:=J1 _ _ v;calc⟨x,C,a,[],rfl,m,T.cO,T.Ni,∅,?_⟩;have p:∀{b:Addr} {ys:List V},LT H b ys->b≠x:=λh z=>by
  subst z;rcases h with h|h<;>(rw[v]at h;cases h)
 have S:∀b o,b≠x->H b=some o->upd H2 x (.ins C a (ba "own_modulus" (.int M) [])) b=some o:=λb o d e=>by rw[ay d];exact J1 _ _ e
 have r:∀{b:Addr} {ys:List V},LT H b ys->LT (upd H2 x (.ins C a (ba "own_modulus" (.int M) []))) b ys:=λh=>by
  have g:=p h;exact h.elim (λz=>.inl (S _ _ g z)) (λz=>.inr (S _ _ g z))
 have t:upd H2 x (.ins C a (ba "own_modulus" (.int M) [])) x=some (.ins C a (ba "own_modulus" (.int M) [])):=af;generalize AQ:upd H2 x (.ins C a (ba "own_modulus" (.int M) []))=G2 at *
 try walk_at "rt"
 refine jJ (r y) λI m s3 AN=>?_
 try walk_at "rt"
 refine jJ ((r O).same s3) λJ U s4 oQ=>?_
 try walk_at "rt"
 calc⟨bP,λc m=>?_⟩;have W:=aq.new (.tup [.ref I,.ref J]) m;have i:=s3.trans (s4.trans W)
 try walk_at "rt"
 calc qA x C a _ rfl (i _ _ t) T.cO T.Qx (bQ (n:=999) ∅) ?_;have X:HT (upd U c (.tup [.ref I,.ref J])) 2 (.ref c) (yq ns row):=cJ af (nV (W _ _ (s4 _ _ AN))) (nV (W _ _ oQ));have Y:=i _ _ t;have L:∀b o,b≠x->H b=some o->upd U c (.tup [.ref I,.ref J]) b=some o:=λb o d e=>i _ _ (S b o d e);generalize hG:upd U c (.tup [.ref I,.ref J])=G at *;have tG:cq H G:=λb ys e=>L b _ (λz=>by subst z;rw[v]at e;cases e) e;have t6:cq G (upd G x (.ins C a (ba "own_state" (.ref c) (ba "own_modulus" (.int M) [])))):=(cq.refl G).upd λys e=>by rw[Y]at e;cases e
 have e6:LT (upd G x (.ins C a (ba "own_state" (.ref c) (ba "own_modulus" (.int M) [])))) ad u:=by
  have g:=p l;exact l.elim (λz=>.inl (by rw[ay g];calc L _ _ g z)) (λz=>.inr (by rw[ay g];calc L _ _ g z))
 have n6:∀b o,b≠x->H b=some o->upd G x (.ins C a (ba "own_state" (.ref c) (ba "own_modulus" (.int M) []))) b=some o:=λb o d e=>by rw[ay d];exact L b o d e
 have j:upd G x (.ins C a (ba "own_state" (.ref c) (ba "own_modulus" (.int M) []))) x=some (.ins C a (ba "own_state" (.ref c) (ba "own_modulus" (.int M) []))):=af;generalize Np:upd G x (.ins C a (ba "own_state" (.ref c) (ba "own_modulus" (.int M) [])))=G6 at *
 try walk_at "rt"
 refine jJ e6 λZ H7 k xC=>?_
 try walk_at "rt"
 calc qA x C a _ rfl (k _ _ j) T.cO T.Nj (bQ (n:=999) (bQ (n:=998) ∅)) ?_;have ne4:Z≠x:=λz=>by subst z;rw[k _ _ j]at xC;cases xC
 have t8:cq H7 (upd H7 x (.ins C a (J0 M (.ref c) (.ref Z)))):=(cq.refl _).upd λys e=>by rw[k _ _ j]at e;cases e
 refine q _ ⟨a,.ref c,.ref Z,af,(X.aG t6).aG (k.aM.trans t8),?_⟩ λb o d e=>?_
 ·calc HT.mono (n:=n+1) ?_ ();calc DL.ht (R.aG (tG.trans (t6.trans (k.aM.trans t8)))) ?_;rw[ay ne4];exact xC
 ·rw[ay d];calc k _ _ (n6 b o d e)
abbrev eG:Stmt:=(bX (top 37)).getD 2 (.Pass ⟨0,0,0,0⟩)
def HJ(C:Addr):Sp:=λvs H Q _=>∃(m:Addr) (M:Int) (ns row:List Int) (a:List bu),vs=[.ref m]/\ie C H m M ns row a/\∀st,HT H 2 st (yq ns row)->Q st H
theorem ky(D:gO K C "first_state" "Machine.first_state" eG ["self"])(T:Tx K mg C CN CR F FD):eP P w K mg base C "first_state" 1 ["self"] (HJ C):=by
 have sc:aD ["self"] ["self"] (az eG):=by walk_at "s"
 symm;obtain⟨m,M,ns,row,d,rfl,⟨a,st,dd,b,c,e⟩,q⟩:=h;have d:=hr.units;calc⟨_,(ao (aK (bL (au 0) rfl))),?_⟩;calc⟨m,C,a,_,_,rfl,b,T.cO,T.Qx,abr,q _ c⟩
theorem VY{H:Hp}{n:Nat}{x:V}{b:List bu}(h:HT H (n+1) x (.tup (b.map bu.dv))):∃a xs,x=.ref a/\H a=some (.tup xs)/\DL H n xs b:=by
 cases h with
 | @tup _ a xs _ e l i=>
  calc⟨a,xs,rfl,e,by simpa using l,λj x d b c=>i j x _ b ?_⟩;rw[List.getElem?_map,c];rfl
def eW(H:Hp)(n:Nat)(ys:List V)(es:List DV):Prop:=ys.length=es.length/\∀(i:Nat) y e,ys[i]?=some y->es[i]?=some e->HT H n y e
theorem eW.nil{n:Nat}:eW H n [] []:=⟨rfl,λi y e h=>by simp at h⟩
theorem eW.aG{n:Nat}(h:eW H n ys es)(t:cq H H'):eW H' n ys es:=⟨h.1,λi y e a b=>(h.2 i y e a b).aG t⟩
theorem eW.snoc{n:Nat}{e:DV}(h:eW H n ys es)(g:HT H n y e):eW H n (ys++[y]) (es++[e]):=by
 calc⟨by simp[h.1],λi c f a b=>?_⟩;by_cases c:i<ys.length
 ·rw[List.getElem?_append_left c]at a;rw[List.getElem?_append_left (by rw[<-h.1];calc c)]at b;exact h.2 i _ _ a b
 ·rw[List.getElem?_append_right ()] at a;rw[List.getElem?_append_right (by rw[<-h.1];lia),<-h.1] at b
  cases d:i-ys.length with
  |zero=>rw[d]at a b;cases a;cases b;calc g
  |succ k=>rw[d]at a;simp at a
theorem eW.dl{n:Nat}{xs:List V}{a:List bu}(h:eW H n xs (a.map bu.dv)):DL H n xs a:=⟨by simpa using h.1,λi x d a b=>h.2 i x _ a (by rw[List.getElem?_map,b];rfl)⟩
abbrev sm:Stmt:=top 43
abbrev Sx(C:Addr)(H:Hp)(m:Addr)(d:MD):Prop:=ie C H m d.M d.ns d.row d.ds
def kR(w:Int×Int×Str):DV:=.tup [.int w.1,.int w.2.1,.str w.2.2]
def mI(l:Int×Int):DV:=.tup [.int l.1,.int l.2]
def vd(m:Int)(w:Int×Int×Str):Prop:=0<=w.1/\w.1<m/\0<=w.2.1/\w.2.1<m/\(w.2.2="row"\/w.2.2="heap")
def ve(m:Int)(l:Int×Int):Prop:=0<=l.1/\l.1<m/\1-1000000000000000000000000000000000000000000000000000000000000<=l.2/\l.2<1000000000000000000000000000000000000000000000000000000000000
def yM:Sp:=λvs H Q _=>∃(x:V) (n:Nat) (a b:Int) (c:Str) (m:Int),vs=[x,.int m]/\HT H n x (kR (a,b,c))/\vd m (a,b,c)/\∀H',aq H H'->Q (.bl true) H'
theorem HK(D:dj K mg "is_way" "is_way" sm ["thing","many"])(T:Tx K mg C CN CR F FD)(l:Def P w K mg base "is_within" 2 ["thing","low","beyond"] cn):Def P w K mg base "is_way" 3 ["thing","many"] yM:=by
 have sc:aD ["thing","many"] ["thing","many"] (az sm):=by walk_at "s"
 symm;obtain⟨x,n,c,d,g,m,rfl,o,r,q⟩:=h;have i:=hr.units;refine⟨_,(ai (aR (PW.pt (pw_or (cG (bN (bo ei rfl T.bc xq (ag (au 0) (ag (dF (v:=.ty "tuple") rfl T.cE uB rfl) aa))))) (pw_or (aC (dH i) (bo aQ rfl T.b8 T' (ag (au 0) aa)) aj (aH _)) (pw_or1 (cG (bN (bo ei rfl T.bc xq (ag (ak i (au 0) aj) (ag (dF (v:=.ty "str") rfl T.Cb PyProof.Rows.boot_str rfl) aa))))))))) (ao (aK jx)) aJ)
  (ao (aK (iV (aL l hr (ag (ak i (au 0) aj) (ag aj (ag (au 1) aa)))) (iV (aL l hr (ag (ak i (au 0) aj) (ag aj (ag (au 1) aa)))) (jM (jO Gm (ak i (au 0) aj) (bb (ag aE (ag aE aa))) (by with_unfolding_all rfl)))))))),?_⟩
 nofun;obtain⟨a,G,I,J,k,rfl,b,t,u,y⟩:=bW o;obtain rfl:=t.cw;obtain rfl:=u.cw;obtain rfl:=y.cS
 replace b:H a=some (.tup [.int c,.int d,.str g]):=b
 obtain⟨i,k,l,n,z⟩:0<=c/\c<m/\0<=d/\d<m/\(g="row"\/g="heap"):=r;ac_rfl;left;refine dz _ true (.tup b) rfl ?_;simp only[Bool.not_true,Bool.false_eq_true,if_false];refine bI _ (.inr ⟨_,bH.of b,rfl⟩) ?_;rw[if_neg nofun];refine⟨_,_,.inr (bH.of b),aA (j:=2) rfl,_,true,.str _,rfl,?_⟩;simp only[Bool.not_true,Bool.false_eq_true,if_false];left;refine dz _ _ (.inr (bH.of b)) (aA (j:=0) rfl) ?_;refine fW (.int c) _ 0 m rfl (.int c) ?_;rw[show inR 0 m (.int c)=true by simp[inR,i,k]];left;rw[if_pos trivial];refine dz _ _ (.inr (bH.of b)) (aA (j:=1) rfl) ?_;refine fW (.int d) _ 0 m rfl (.int d) ?_;rw[show inR 0 m (.int d)=true by simp[inR,l,n]];left;rw[if_pos trivial];refine ub _ _ (.inr (bH.of b)) (aA (j:=2) rfl) bP (λp B=>?_);refine Ls _ (.inr (bH.of af)) rfl rfl ?_;have e:xT (.str g) [.str "row",.str "heap"]=true:=by
  rcases z with rfl|rfl<;>decide +kernel
 rw[e];calc q _ (aq.new _ B)
abbrev kS:Stmt:=top 44
def yN:Sp:=λvs H Q _=>∃(x:V) (n:Nat) (a b:Int) (m:Int),vs=[x,.int m]/\HT H n x (mI (a,b))/\ve m (a,b)/\Q (.bl true) H
theorem yO(D:dj K mg "is_letter" "is_letter" kS ["thing","many"])(T:Tx K mg C CN CR F FD)(g:Def P w K mg base "is_within" 2 ["thing","low","beyond"] cn):Def P w K mg base "is_letter" 3 ["thing","many"] yN:=by
 have sc:aD ["thing","many"] ["thing","many"] (az kS):=by walk_at "s"
 symm;obtain⟨x,n,b,c,m,rfl,i,l,q⟩:=h;have e:=hr.units;refine⟨_,(ai (aR (PW.pt (pw_or (cG (bN (bo ei rfl T.bc xq (ag (au 0) (ag (dF (v:=.ty "tuple") rfl T.cE uB rfl) aa))))) (pw_or1 (aC (dH e) (bo aQ rfl T.b8 T' (ag (au 0) aa)) aj (aH _))))) (ao (aK jx)) aJ)
  (ao (aK (iV (aL g hr (ag (ak e (au 0) aj) (ag aj (ag (au 1) aa)))) (jM (aL g hr (ag (ak e (au 0) aj) (ag (aT fP aj (fR T.dW rfl)) (ag (fR T.dW rfl) aa))))))))),?_⟩
 nofun;obtain⟨a,r,t,k,rfl,d,o,p⟩:=cm i;obtain rfl:=o.cw;obtain rfl:=p.cw
 replace d:H a=some (.tup [.int b,.int c]):=d
 obtain⟨e,g,i,k⟩:0<=b/\b<m/\1-1000000000000000000000000000000000000000000000000000000000000<=c/\c<1000000000000000000000000000000000000000000000000000000000000:=l;ac_rfl;left;calc dz _ true (.tup d) rfl ?_;simp only[Bool.not_true,Bool.false_eq_true,if_false];calc bI _ (.inr ⟨_,bH.of d,rfl⟩) ?_;rw[if_neg nofun];left;calc dz _ _ (.inr (bH.of d)) (aA (j:=0) rfl) ?_;calc fW (.int b) _ 0 m rfl (.int b) ?_;rw[show inR 0 m (.int b)=true by simp[inR,e,g]];left;rw[if_pos trivial];calc dz _ _ (.inr (bH.of d)) (aA (j:=1) rfl) ?_;calc fW (.int c) _ _ _ rfl (.int c) ?_;rw[show inR (1-1000000000000000000000000000000000000000000000000000000000000) 1000000000000000000000000000000000000000000000000000000000000 (.int c)=true by simp only[inR,decide_eq_true i,decide_eq_true k,Bool.and_self]];calc q
abbrev jY:Stmt:=top 45
def Cn(C:Addr):Sp:=λvs H Q _=>∃(b c d:Addr) (a:List Addr) (wv lv:List V) (ws:List (Int×Int×Str)) (ls:List (Int×Int)),vs=[.ref b,.ref c,.ref d]/\H b=some (.lst (a.map V.ref))/\H c=some (.lst wv)/\H d=some (.lst lv)/\1<=a.length/\a.length<=5/\wv.length<=10/\lv.length<=20/\(∀m∈a,∃e f,H m=some (.ins C e f))/\eW H 1 wv (ws.map kR)/\eW H 1 lv (ls.map mI)/\(∀w∈ws,vd a.length w)/\(∀l∈ls,ve wv.length l)/\∀H',aq H H'->Q .bx H'
theorem wJ(D:dj K mg "refuse_net" "refuse_net" jY ["machines","ways","letters"])(T:Tx K mg C CN CR F FD)(kT:Def P w K mg base "is_letter" 3 ["thing","many"] yN)(O:Def P w K mg base "is_list" 1 ["things","least","most"] mG)(sr:Def P w K mg base "is_way" 3 ["thing","many"] yM):Def P w K mg base "refuse_net" 4 ["machines","ways","letters"] (Cn C):=by
 have sc:aD ["machines","ways","letters"] ["machines","ways","letters"] (az jY):=by walk_at "s"
 symm;obtain⟨R,S,U,p,wv,lv,ws,ls,rfl,G,W,EW,EX,HL,oj,ij,VZ,X,Y,LG,mj,q⟩:=h;have hu:=hr.units;refine⟨_,(ai (aR (PW.pt (pw_or (cG (bN (aL O hr (ag (au 0) (ag aj (ag (fR T.dw rfl) aa)))))) (pw_or1 (cG (bN (bo (jC rfl) rfl T.u9 TY (ag (dQ (N':=["one"]) (ix:=[none]) (cA (pv 0)) (λ_ _ _ _=>(aX (i:=0) (show(["one"]:List Str).Nodup by decide +kernel) rfl Sort)) pw (λ_ _ _ _=>(bo (yy (K:=K) rfl) rfl T.bc xq (ag (au 0) (ag (lR (v:=.ref C) rfl T.va rfl) aa))))) aa))))))) (ao e9) aJ)
  (ai (aR (PW.pt (pw_or (cG (bN (aL O hr (ag (au 1) (ag aj (ag (fR T.fA rfl) aa)))))) (pw_or1 (cG (bN (bo (jC rfl) rfl T.u9 TY (ag (dQ (N':=["way","machines"]) (ix:=[none,some 0]) (cA (pv 1)) (λ_ _ _ _=>(aX (i:=0) (show(["way","machines"]:List Str).Nodup by decide +kernel) rfl Sort)) pw (λ_ _ _ _=>(aL sr hr (ag (au 0) (ag (bo (rM (K:=K) rfl) rfl T.b8 T' (ag (au 1) aa)) aa))))) aa))))))) (ao e9) aJ)
  (ao (aR (PW.pt (pw_or (cG (bN (aL O hr (ag (au 2) (ag aj (ag (fR T.dN rfl) aa)))))) (pw_or1 (cG (bN (bo (jC rfl) rfl T.u9 TY (ag (dQ (N':=["letter","ways"]) (ix:=[none,some 1]) (cA (pv 2)) (λ_ _ _ _=>(aX (i:=0) (show(["letter","ways"]:List Str).Nodup by decide +kernel) rfl Sort)) pw (λ_ _ _ _=>(aL kT hr (ag (au 0) (ag (bo (rM (K:=K) rfl) rfl T.b8 T' (ag (au 1) aa)) aa))))) aa))))))) (ao e9) aJ)))),?_⟩
 have O:(p.map V.ref).length<=5:=by simpa using HL
 left;calc fW R _ 1 _ rfl (.inl G) (λH1 Z=>?_);rw[show(decide ((1:Int)<=((p.map V.ref).length:Int))&&decide (((p.map V.ref).length:Int)<=5))=true by simp;lia];left
 try simp only[Bool.not_true,Bool.false_eq_true,if_false]
 have I:=Z _ _ G;calc bV ?_;left;calc .inl ⟨⟨_,aS.of I⟩,λD r=>?_⟩;refine bE (J:=xN K R) (n:=(p.map V.ref).length) (λi a H'=>a=List.replicate i (V.bl true)/\aq H1 H') (L' (aI ())) ⟨rfl,aq.new _ r⟩ ?_ ?_ ?_ ?_
 ·rintro i a H' d ⟨_,l⟩;exact⟨_,(p.map V.ref)[i],aS.of (l _ _ I),cP d⟩
 ·rintro a H' ⟨_,l⟩;exact⟨_,aS.of (l _ _ I),K' _⟩
 ·intro i a H' d c g iY x L iZ;nofun;obtain⟨rfl,l⟩:=iY;obtain⟨rfl,z⟩:=iZ;ac_rfl;have B:=z _ (aS.of (l _ _ I));calc⟨Ext.set (Ext.refl _) rfl,?_⟩;left;rw[if_pos trivial];have hxm:∃m,x=.ref m/\m∈p:=by
   have:=aap B;obtain⟨m,hm,rfl⟩:=List.mem_map.mp this;exact⟨m,rfl,hm⟩
  nofun;obtain⟨m,rfl,I⟩:=hxm;obtain⟨R,fs,O⟩:=VZ m I;ac_rfl;calc abh _ C _ true rfl (.ins (l _ _ (Z _ _ O)) T.cO T.DT T.rZ T.kM T.DU) T.i_k ?_;have t:=aq.refl L;calc cy (t _ _ c) g d (L' (aI ())) ⟨jE _ _,λb o e=>?_⟩;rw[ay (av e r)];exact t _ _ (l _ _ e)
 rintro a H2 c g ⟨rfl,l⟩;left;rw[ph]at c;calc bI _ (aS.of c) ?_;have e:(List.replicate (p.map V.ref).length true).all id=true:=by simp
 rw[e];clear e c g;left
 try simp only[Bool.not_true,Bool.false_eq_true,if_false]
 have p:=Z.trans l;have I:=p _ _ W;left;calc fW S _ 0 _ rfl (.inl I) (λO l=>?_);rw[show(decide ((0:Int)<=(wv.length:Int))&&decide ((wv.length:Int)<=10))=true by simp;lia];left
 try simp only[Bool.not_true,Bool.false_eq_true,if_false]
 have M:=l _ _ I;have u:=p.trans l;calc bV ?_;left;calc .inl ⟨⟨_,aS.of M⟩,λD r=>?_⟩;refine bE (J:=xN K S) (n:=wv.length) (λi a H'=>a=List.replicate i (V.bl true)/\aq O H') (L' (aI ())) ⟨rfl,aq.new _ r⟩ ?_ ?_ ?_ ?_
 ·rintro i a H' d ⟨_,j⟩;exact⟨_,wv[i],aS.of (j _ _ M),cP d⟩
 ·rintro a H' ⟨_,j⟩;exact⟨_,aS.of (j _ _ M),K' _⟩
 ·intro i a H' d c g qB x L yK;nofun;obtain⟨rfl,j⟩:=qB;obtain⟨rfl,z⟩:=yK;ac_rfl;have B:=z _ (aS.of (j _ _ M));calc⟨Ext.set (Ext.refl _) rfl,?_⟩;left;rw[if_pos trivial];have l:i < ws.length:=by have:=X.1;rw[List.length_map] at this;lia
  have hw:=(X.2 i x (kR ws[i]) B (by rw[List.getElem?_map,cP l];rfl)).aG (u.trans j).aM;calc bI _ (.inl ⟨_,aS.of (j _ _ (u _ _ G)),rfl⟩) ?_;refine⟨x,1,ws[i].1,ws[i].2.1,ws[i].2.2,_,rfl,hw,?_,λp t=>?_⟩
  ·have:=LG ws[i] (W' l);simpa[vd] using this
  calc cy (t _ _ c) g d (L' (aI ())) ⟨jE _ _,λb o e=>?_⟩;rw[ay (av e r)];exact t _ _ (j _ _ e)
 rintro a H4 c g ⟨rfl,j⟩;left;rw[ph]at c;calc bI _ (aS.of c) ?_;have e:(List.replicate wv.length true).all id=true:=by simp
 rw[e];clear e c g;left
 try simp only[Bool.not_true,Bool.false_eq_true,if_false]
 have l:=u.trans j;have p:=l _ _ EW;left;calc fW U _ 0 _ rfl (.inl p) (λu j=>?_);rw[show(decide ((0:Int)<=(lv.length:Int))&&decide ((lv.length:Int)<=20))=true by simp;lia];left
 try simp only[Bool.not_true,Bool.false_eq_true,if_false]
 have N:=j _ _ p;have y:=l.trans j;calc bV ?_;left;calc .inl ⟨⟨_,aS.of N⟩,λD r=>?_⟩;refine bE (J:=xN K U) (n:=lv.length) (λi a H'=>a=List.replicate i (V.bl true)/\aq u H') (L' (aI ())) ⟨rfl,aq.new _ r⟩ ?_ ?_ ?_ ?_
 ·rintro i a H' d ⟨_,k⟩;exact⟨_,lv[i],aS.of (k _ _ N),cP d⟩
 ·rintro a H' ⟨_,k⟩;exact⟨_,aS.of (k _ _ N),K' _⟩
 ·intro i a H' d c g yL x L AO;nofun;obtain⟨rfl,k⟩:=yL;obtain⟨rfl,z⟩:=AO;ac_rfl;have B:=z _ (aS.of (k _ _ N));calc⟨Ext.set (Ext.refl _) rfl,?_⟩;left;rw[if_pos trivial];have j:i < ls.length:=by have:=Y.1;rw[List.length_map] at this;lia
  have hw:=(Y.2 i x (mI ls[i]) B (by rw[List.getElem?_map,cP j];rfl)).aG (y.trans k).aM;calc bI _ (.inl ⟨_,aS.of (k _ _ (y _ _ W)),rfl⟩) ?_;refine⟨x,1,ls[i].1,ls[i].2,_,rfl,hw,?_,?_⟩
  ·have:=mj ls[i] (W' j);simpa[ve] using this
  have t:=aq.refl L;calc cy (t _ _ c) g d (L' (aI ())) ⟨jE _ _,λb o e=>?_⟩;rw[ay (av e r)];exact t _ _ (k _ _ e)
 rintro a H6 c g ⟨rfl,k⟩;left;rw[ph]at c;calc bI _ (aS.of c) ?_;have e:(List.replicate lv.length true).all id=true:=by simp
 rw[e];clear e c g;left
 try simp only[Bool.not_true,Bool.false_eq_true,if_false]
 calc q _ (y.trans k)
abbrev kU:Stmt:=top 51
def yP:Sp:=λvs H Q _=>∃p m,vs=[.ref p,.int m]/\fX H p/\0<m/\m<=4/\∀x v H',Step p H H'->HT H' 1 x (Val.dv v)->v.ok m->Q x H'
theorem yQ(D:dj K mg "_law_value" "_law_value" kU ["_law_pot_here","_law_many"])(T:Tx K mg C CN CR F FD)(u:Def P w K mg base "_law_digit" 1 ["_law_pot_here","_law_many"] jI):Def P w K mg base "_law_value" 2 ["_law_pot_here","_law_many"] yP:=by
 have sc:aD ["_law_pot_here","_law_many","_law_kind"] ["_law_pot_here","_law_many"] (az kU):=by walk_at "s"
 symm;obtain⟨p,m,rfl,G,I,J,q⟩:=h;have L:=hr.units;refine⟨_,(ai (aW (i:=2) sc.nd rfl Sort (aL u hr (ag (au 0) (ag aj aa))))
  (ai (aR (aC gk (au 2) aj (aH _)) (ao (aK (bb (ag aE (ag (ak L (bM (ag (aT fP (aL u hr (ag (au 0) (ag aj aa))) aj) (ag (aT fP (aL u hr (ag (au 0) (ag (aT fP (aT lU aj (aT qM aj aj)) aj) aa))) (aT fP (aT qM aj aj) aj)) aa))) (au 2)) aa))))) aJ)
  (ai (aR (aC gk (au 2) aj (aH _)) (ao (aK (bb (ag aE (ag (aL u hr (ag (au 0) (ag (au 1) aa))) aa))))) aJ)
  (ao (aK (ak L (bM (ag (bb (ag aE aa)) (ag (bb (ag aE aa)) (ag (bb (ag aE aa)) (ag (bb (ag aE aa)) aa))))) (aT fP (au 2) aj))))))),?_⟩
 right;calc mD p 8 rfl G ⋯ ⋯ (λd H1 h1 h2 st=>?_);right;split
 ·rename_i j;have j:d < 2:=by simpa using j
  calc mD p 9 rfl st.gD ⋯ ⋯ (λR H2 M J k=>?_);right;calc⟨AK,Qz,dig k.gD VS VT λd2 H3 h5 h6 N=>?_⟩;right;calc g9 AK ∅ (λl c=>?_);have y:d=0\/d=1:=by lia
  rcases y with rfl|rfl
  ·exact⟨_,_,.inl (aS.of af),rfl,∅,λt n=>q _ (.is _) _ ((((st.trans k).trans N).new c).new n) (cJ af (.str _) (.int _)) trivial⟩
  ·exact⟨_,_,.inl (aS.of af),rfl,∅,λt n=>q _ (.is _) _ ((((st.trans k).trans N).new c).new n) (cJ af (.str _) (.int _)) trivial⟩
 ·rename_i j;have j:¬d < 2:=by simpa using j
  split
  ·refine⟨p,m,rfl,st.gD,I,?_,λR H2 M z k=>?_⟩
   ·have:m=1\/m=2\/m=3\/m=4:=by lia
    rcases this with rfl|rfl|rfl|rfl<;>decide +kernel
   right;exact⟨∅,λt n=>q _ (.number _) _ ((st.trans k).new n) (cJ af (.str _) (.int _)) ⟨M,z⟩⟩
  ·rename_i r;have r:¬d < 4:=by simpa using r
   calc⟨∅,λa S=>⟨∅,λb O=>⟨∅,λe B=>⟨∅,λg v=>⟨∅,λl c=>?_⟩⟩⟩⟩⟩;have x:=((((st.new S (o:=.tup [.str "letter"])).new O (o:=.tup [.str "letter"])).new B (o:=.tup [.str "way"])).new v (o:=.tup [.str "first"])).new c (o:=.lst [.ref a,.ref b,.ref e,.ref g]);have y:d=4\/d=5\/d=6\/d=7:=by lia
   have U:=(aq.new (H:=upd H1 a (.tup [.str "letter"])) (.tup [.str "letter"]) O) a _ af;have W:=(aq.new (.tup [.str "way"]) B) _ _ U;have X:=(aq.new (.tup [.str "first"]) v) _ _ W;have Y:=(aq.new (.lst [.ref a,.ref b,.ref e,.ref g]) c) _ _ X;have Z:=(aq.new (H:=upd (upd H1 a (.tup [.str "letter"])) b (.tup [.str "letter"])) (.tup [.str "way"]) B) b _ af;have k3:=(aq.new (.tup [.str "first"]) v) _ _ Z;have k4:=(aq.new (.lst [.ref a,.ref b,.ref e,.ref g]) c) _ _ k3;have l3:=(aq.new (H:=upd (upd (upd H1 a (.tup [.str "letter"])) b (.tup [.str "letter"])) e (.tup [.str "way"])) (.tup [.str "first"]) v) e _ af;have l4:=(aq.new (.lst [.ref a,.ref b,.ref e,.ref g]) c) _ _ l3;have m4:=(aq.new (H:=upd (upd (upd (upd H1 a (.tup [.str "letter"])) b (.tup [.str "letter"])) e (.tup [.str "way"])) g (.tup [.str "first"])) (.lst [.ref a,.ref b,.ref e,.ref g]) c) g _ af;rcases y with rfl|rfl|rfl|rfl
   ·exact⟨_,_,.inl (aS.of af),rfl,q _ .mx _ x (rV Y (.str _)) trivial⟩
   ·exact⟨_,_,.inl (aS.of af),rfl,q _ .mx _ x (rV k4 (.str _)) trivial⟩
   ·exact⟨_,_,.inl (aS.of af),rfl,q _ .way _ x (rV l4 (.str _)) trivial⟩
   ·calc⟨_,_,.inl (aS.of af),rfl,q _ .first _ x (rV m4 (.str _)) trivial⟩
theorem abz{d:Int}(a:0<=d)(h:d<10):d=0\/d=1\/d=2\/d=3\/d=4\/d=5\/d=6\/d=7\/d=8\/d=9:=by
 have:∀n:Fin 10,((n.1:Nat):Int)=0\/((n.1:Nat):Int)=1\/((n.1:Nat):Int)=2\/((n.1:Nat):Int)=3\/((n.1:Nat):Int)=4\/((n.1:Nat):Int)=5\/((n.1:Nat):Int)=6\/((n.1:Nat):Int)=7\/((n.1:Nat):Int)=8\/((n.1:Nat):Int)=9:=by decide
 rw[<-Int.toNat_of_nonneg a];calc this ⟨d.toNat,()⟩
abbrev mK:Stmt:=top 52
theorem QH{H:Hp}{n:Nat}{a:Addr}{u v w z:V}{d d' g i:DV}(e:H a=some (.tup [u,v,w,z]))(h:HT H n u d)(h':HT H n v d')(f:HT H n w g)(j:HT H n z i):HT H (n+1) (.ref a) (.tup [d,d',g,i]):=by
 refine .tup e rfl λi x y b c=>?_
 match i,b,c with
 |0,b,c=>simp at b c;subst b c;calc h
 |1,b,c=>simp at b c;subst b c;calc h'
 |2,b,c=>simp at b c;subst b c;calc f
 |3,b,c=>simp at b c;subst b c;calc j
def yR:Sp:=λvs H Q _=>∃p m,vs=[.ref p,.int m]/\fX H p/\0<m/\m<=4/\∀x d H',Step p H H'->HT H' 2 x (bu.dv d)->d.ok m->Q x H'
theorem AS(D:dj K mg "_law_deed" "_law_deed" mK ["_law_pot_here","_law_many"])(T:Tx K mg C CN CR F FD)(M:Def P w K mg base "_law_digit" 1 ["_law_pot_here","_law_many"] jI)(I:Def P w K mg base "_law_value" 2 ["_law_pot_here","_law_many"] yP):Def P w K mg base "_law_deed" 3 ["_law_pot_here","_law_many"] yR:=by
 have sc:aD ["_law_pot_here","_law_many","_law_kind"] ["_law_pot_here","_law_many"] (az mK):=by walk_at "s"
 symm;obtain⟨p,m,rfl,W,k,u,q⟩:=h;have N:=hr.units;refine⟨_,(ai (aW (i:=2) sc.nd rfl Sort (aL M hr (ag (au 0) (ag aj aa))))
  (ai (aR (aC gk (au 2) aj (aH _)) (ao (aK (bb (ag (ak N (bM (ag aE (ag aE (ag aE aa)))) (au 2)) (ag (aL M hr (ag (au 0) (ag (au 1) aa))) (ag (aL I hr (ag (au 0) (ag (au 1) aa))) aa)))))) aJ)
  (ai (aR (aC gk (au 2) aj (aH _)) (ao (aK (bb (ag aE (ag (aL M hr (ag (au 0) (ag aj aa))) (ag (aL I hr (ag (au 0) (ag (au 1) aa))) aa)))))) aJ)
  (ai (aR (aC (aY N) (au 2) aj (aH _)) (ao (aK (bb (ag aE (ag (aL I hr (ag (au 0) (ag (au 1) aa))) aa))))) aJ)
  (ai (aR (aC (aY N) (au 2) aj (aH _)) (ao (aK (bb (ag aE (ag (aL I hr (ag (au 0) (ag (au 1) aa))) aa))))) aJ)
  (ai (aR (aC (aY N) (au 2) aj (aH _)) (ao (aK (bb (ag aE aa)))) aJ)
  (ao (aK (bb (ag aE (ag (aL I hr (ag (au 0) (ag (au 1) aa))) (ag (aL I hr (ag (au 0) (ag (au 1) aa))) (ag (aT ck aj (aL M hr (ag (au 0) (ag aj aa)))) aa))))))))))))),?_⟩
 right;calc mD p 10 rfl W ⋯ ⋯ (λd H1 I M st=>?_);have O:m.natAbs.log2<9000:=by
  have:m=1\/m=2\/m=3\/m=4:=by lia
  rcases this with rfl|rfl|rfl|rfl<;>decide +kernel
 have Z:d=0\/d=1\/d=2\/d=3\/d=4\/d=5\/d=6\/d=7\/d=8\/d=9:=abz (by assumption) (by assumption);rcases Z with rfl|rfl|rfl|rfl|rfl|rfl|rfl|rfl|rfl|rfl
 ·walk_at "go";refine⟨∅,λl J=>?_⟩;have B:=st.new (o:=.lst [.str "set",.str "add",.str "times"]) J;refine bF af rfl ?_;refine dig B.gD k O λe L r y x=>?_;have b:=B.trans x;walk_at "go";refine mD p m rfl b.gD k u (λz v G c g j=>?_);walk_at "go";exact⟨∅,λt a=>q _ (.set e v) _ ((b.trans c).new a) (my af (.str _) (.int _) (g.aG (aq.new _ a).aM)) ⟨r,y,j⟩⟩
 ·walk_at "go";refine⟨∅,λl J=>?_⟩;have B:=st.new (o:=.lst [.str "set",.str "add",.str "times"]) J;refine bF af rfl ?_;refine dig B.gD k O λe L r y x=>?_;have b:=B.trans x;walk_at "go";refine mD p m rfl b.gD k u (λz v G c g j=>?_);walk_at "go";exact⟨∅,λt a=>q _ (.add e v) _ ((b.trans c).new a) (my af (.str _) (.int _) (g.aG (aq.new _ a).aM)) ⟨r,y,j⟩⟩
 ·walk_at "go";refine⟨∅,λl J=>?_⟩;have B:=st.new (o:=.lst [.str "set",.str "add",.str "times"]) J;refine bF af rfl ?_;refine dig B.gD k O λe L r y x=>?_;have b:=B.trans x;walk_at "go";refine mD p m rfl b.gD k u (λz v G c g j=>?_);walk_at "go";exact⟨∅,λt a=>q _ (.times e v) _ ((b.trans c).new a) (my af (.str _) (.int _) (g.aG (aq.new _ a).aM)) ⟨r,y,j⟩⟩
 ·walk_at "go";refine dig st.gD ∅ ⋯ λe L r y x=>?_;have b:=st.trans x;right;refine mD p m rfl b.gD k u (λz v G c g j=>?_);right;exact⟨∅,λt a=>q _ (.send e v) _ ((b.trans c).new a) (my af (.str _) (.int _) (g.aG (aq.new _ a).aM)) ⟨r,j⟩⟩
 ·walk_at "go";refine dig st.gD ∅ ⋯ λe L r y x=>?_;have b:=st.trans x;right;refine mD p m rfl b.gD k u (λz v G c g j=>?_);right;exact⟨∅,λt a=>q _ (.send e v) _ ((b.trans c).new a) (my af (.str _) (.int _) (g.aG (aq.new _ a).aM)) ⟨r,j⟩⟩
 ·walk_at "go";refine dig st.gD ∅ ⋯ λe L r y x=>?_;have b:=st.trans x;right;refine mD p m rfl b.gD k u (λz v G c g j=>?_);right;exact⟨∅,λt a=>q _ (.send e v) _ ((b.trans c).new a) (my af (.str _) (.int _) (g.aG (aq.new _ a).aM)) ⟨r,j⟩⟩
 ·walk_at "go";refine mD p m rfl st.gD k u (λz v G c g j=>?_);walk_at "go";exact⟨∅,λt a=>q _ (.say v) _ ((st.trans c).new a) (cJ af (.str _) (g.aG (aq.new _ a).aM)) j⟩
 ·walk_at "go";refine mD p m rfl st.gD k u (λz v G c g j=>?_);walk_at "go";exact⟨∅,λt a=>q _ (.put v) _ ((st.trans c).new a) (cJ af (.str _) (g.aG (aq.new _ a).aM)) j⟩
 ·walk_at "go";exact⟨∅,λt a=>q _ .drop _ (st.new a) (rV (n:=1) af (.str _)) trivial⟩
 ·walk_at "go";refine mD p m rfl st.gD k u (λz v G c g j=>?_);walk_at "go";have R:=st.trans c;refine mD p m rfl R.gD k u (λvy v2 b X S V2=>?_);have U:=R.trans X;walk_at "go";refine dig U.gD ∅ ⋯ λe b r y Y=>?_;walk_at "go";refine⟨∅,λt a=>q _ (.skip v v2 (1+e)) _ ((U.trans Y).new a) ?_ ⟨j,V2,(),()⟩⟩;have b:=(Y.aM U.gD).trans (aq.new (.tup [.str "skip",z,vy,.int (1+e)]) a).aM;exact QH af (.str _) (g.aG ((X.aM R.gD).trans b)) (S.aG b) (.int _)
abbrev i5:Stmt:=top 53
theorem Step.free{p b:Addr}{H H':Hp}(st:Step p H H')(h:H' b=none):H b=none:=by
 cases e:H b with
 |none=>rfl
 |some o=>
  by_cases a:b=p
  ·subst a;obtain⟨x,c,_⟩:=st.gD;rw[h]at c;cases c
  ·rw[st.rest b o e a]at h;cases h
theorem HN{m:Int}(a:0<m)(h:m<=1000000000000):m.natAbs.log2<9000:=(Nat.log2_lt ()).mpr (aaX (show m.natAbs<=1000000000000 by lia) ⋯)
def mods(d:Int):List V:=[.int 2,.int 3,.int 7,.int 10,.int 97,.int (2+d)]
theorem LJ{d k:Int}(b:0<=d)(a:d<10^Int.toNat 12-1)(c:0<=k)(f:k<6):∃z:Int,iQ (mods d) k=some (.int z)/\2<=z/\z<=1000000000000:=by
 have e:(10:Int)^Int.toNat 12=1000000000000:=by decide +kernel
 rw[e]at a;have:k=0\/k=1\/k=2\/k=3\/k=4\/k=5:=by lia
 rcases this with rfl|rfl|rfl|rfl|rfl|rfl
 ·exact⟨_,aA (j:=0) rfl,∅,∅⟩
 ·exact⟨_,aA (j:=1) rfl,∅,∅⟩
 ·exact⟨_,aA (j:=2) rfl,∅,∅⟩
 ·exact⟨_,aA (j:=3) rfl,∅,∅⟩
 ·exact⟨_,aA (j:=4) rfl,∅,∅⟩
 ·calc⟨_,aA (j:=5) rfl,(),()⟩
def yS:Sp:=λvs H Q _=>∃p,vs=[.ref p]/\fX H p/\∀t a b c xs M ns row d H',Step p H H'->H' t=some (.tup [.int M,.ref a,.ref b,.ref c])->H' a=some (.lst (ns.map V.int))->H' b=some (.lst (row.map V.int))->H' c=some (.lst xs)->eW H' 2 xs (d.map bu.dv)->H a=none->H b=none->H c=none->Good M ns row d->Q (.ref t) H'
theorem uf(D:dj K mg "_law_machine" "_law_machine" i5 ["_law_pot_here"])(T:Tx K mg C CN CR F FD)(mL:Def P w K mg base "_law_deed" 3 ["_law_pot_here","_law_many"] yR)(j:Def P w K mg base "_law_digit" 1 ["_law_pot_here","_law_many"] jI):Def P w K mg base "_law_machine" 4 ["_law_pot_here"] yS:=by
 have sc:aD ["_law_pot_here","_law_modulus","_law_many","_law_numbers","_law_row","_law_deeds"] ["_law_pot_here"] (az i5):=by walk_at "s"
 symm;obtain⟨p,rfl,k,q⟩:=h;have l:=hr.units;refine⟨_,(ai (aW (i:=1) sc.nd rfl Sort (ak l (bM (ag aj (ag aj (ag aj (ag aj (ag aj (ag (aT ck aj (aL j hr (ag (au 0) (ag (aT fP (aT qM aj aj) aj) aa)))) aa))))))) (aL j hr (ag (au 0) (ag aj aa)))))
  (ai (aW (i:=2) sc.nd rfl Sort (aT ck aj (aL j hr (ag (au 0) (ag aj aa)))))
  (ai (gF (i:=3) sc.nd rfl Sort (N':=["_law_k","_law_pot_here","_law_modulus"]) (ix:=[none,some 0,some 1]) (du rfl T.eX (ag (au 2) aa)) (λ_ _ _ _=>(aX (i:=0) (show(["_law_k","_law_pot_here","_law_modulus"]:List Str).Nodup by decide +kernel) rfl Sort)) pw (λ_ _ _ _=>(aL j hr (ag (au 1) (ag (au 2) aa)))))
  (ai (gF (i:=4) sc.nd rfl Sort (N':=["_law_k","_law_pot_here","_law_modulus"]) (ix:=[none,some 0,some 1]) (du rfl T.eX (ag (aL j hr (ag (au 0) (ag aj aa))) aa)) (λ_ _ _ _=>(aX (i:=0) (show(["_law_k","_law_pot_here","_law_modulus"]:List Str).Nodup by decide +kernel) rfl Sort)) pw (λ_ _ _ _=>(aL j hr (ag (au 1) (ag (au 2) aa)))))
  (ai (gF (i:=5) sc.nd rfl Sort (N':=["_law_k","_law_pot_here","_law_many"]) (ix:=[none,some 0,some 2]) (du rfl T.eX (ag (aL j hr (ag (au 0) (ag aj aa))) aa)) (λ_ _ _ _=>(aX (i:=0) (show(["_law_k","_law_pot_here","_law_many"]:List Str).Nodup by decide +kernel) rfl Sort)) pw (λ_ _ _ _=>(aL mL hr (ag (au 1) (ag (au 2) aa)))))
  (ao (aK (bb (ag (au 1) (ag (au 3) (ag (au 4) (ag (au 5) aa)))))))))))),?_⟩
 right;calc⟨Qy,?_⟩;calc dig k VU QC λd0 H1 V3 j VR=>?_;right;calc⟨∅,λl t=>?_⟩;have Bs:=VR.new (o:=.lst (mods d0)) t;have T:l≠p:=Step.ne VR.gD t;calc dig Bs.gD ∅ ⋯ λk H3 l hk1 c=>?_;have k:=Bs.trans c;obtain⟨M,eM,D9,pI⟩:=LJ V3 j l hk1;right;calc bF (c.rest _ _ af T) eM ?_;right;calc dig k.gD ∅ ⋯ λm H4 PU EX qU=>?_;have N:=k.trans qU;right;calc bV ?_;right;calc g9 () () (λD O=>?_);have y:D≠p:=Step.ne N.gD O;refine bE (J:=Dg 0 (1+m).toNat) (n:=(1+m).toNat) (λi ys H'=>∃ns:List Int,ys=ns.map V.int/\ns.length=i/\Step p H4 H'/\(∀z∈ns,0<=z/\z<M)) (L' (aI ())) ⟨[],rfl,rfl,(Step.refl N.gD).new O,λz r=>by simp at r⟩ (λi ys H' a _=>a) (λys H' _=>K' _) ?_ ?_
 ·intro i ys H' a B t iY x H2 iZ;nofun;obtain⟨ns,rfl,G,st,hb⟩:=iY;obtain⟨rfl,rfl⟩:=iZ;ac_rfl;calc⟨Ext.set (Ext.refl _) rfl,?_⟩;right;rw[if_pos trivial];calc dig st.gD () (HN () pI) λd H3 h3 h4 c=>?_;refine cy (c.rest _ _ B y) t a (L' (aI ())) ⟨ns++[d],nofun,by simp[G],?_,λz r=>?_⟩
  ·exact⟨c.gD.upd (Ne.symm y),λb o e ne=>by rw[ay (av e O)];calc c.rest _ _ (st.rest _ _ e ne) ne⟩
  ·rcases List.mem_append.mp r with g | g
   ·exact hb z g
   ·simp at g;subst g;exact⟨h3,h4⟩
 intro ys H5 en hl5 qB;obtain⟨ns,rfl,G,T,J4⟩:=qB;have fD:H D=none:=N.free O;have j:=N.trans T;calc bV ?_;right;calc dig j.gD ∅ ⋯ λk O h60 h61 l=>?_;have R:=j.trans l;have en6:=l.rest _ _ en y;right;calc g9 () () (λS U=>?_);have W:S≠p:=Step.ne R.gD U;refine bE (J:=Dg 0 k.toNat) (n:=k.toNat) (λi ys H'=>∃ns:List Int,ys=ns.map V.int/\ns.length=i/\Step p O H'/\(∀z∈ns,0<=z/\z<M)) (L' (aI ())) ⟨[],rfl,rfl,(Step.refl R.gD).new U,λz r=>by simp at r⟩ (λi ys H' a _=>a) (λys H' _=>K' _) ?_ ?_
 ·intro i ys H' a B t yK x H2 yL;nofun;obtain⟨ns,rfl,G,st,hb⟩:=yK;obtain⟨rfl,rfl⟩:=yL;ac_rfl;calc⟨Ext.set (Ext.refl _) rfl,?_⟩;right;rw[if_pos trivial];calc dig st.gD () (HN () pI) λd H3 h3 h4 c=>?_;refine cy (c.rest _ _ B W) t a (L' (aI ())) ⟨ns++[d],nofun,by simp[G],?_,λz r=>?_⟩
  ·exact⟨c.gD.upd (Ne.symm W),λb o e ne=>by rw[ay (av e U)];calc c.rest _ _ (st.rest _ _ e ne) ne⟩
  ·rcases List.mem_append.mp r with g | g
   ·exact hb z g
   ·simp at g;subst g;exact⟨h3,h4⟩
 intro ys H7 er hl7 AO;obtain⟨row,rfl,c,j,QF⟩:=AO;have V6:H S=none:=R.free U;have k:=R.trans j;have c:=j.rest _ _ en6 y;calc bV ?_;right;calc dig k.gD ∅ ⋯ λl r t N g=>?_;have X:=k.trans g;have en8:=g.rest _ _ c y;have er8:=g.rest _ _ er W;right;calc g9 () () (λI Y=>?_);have V8:I≠p:=Step.ne X.gD Y;have V9:H I=none:=X.free Y;refine bE (J:=Dg 0 l.toNat) (n:=l.toNat) (λi ys H'=>∃u:List bu,eW H' 2 ys (u.map bu.dv)/\u.length=i/\(∀Z∈u,Z.ok (1+m))/\Step p r H') (L' (aI ())) ⟨[],eW.nil,rfl,λZ zy=>by simp at zy,(Step.refl X.gD).new Y⟩ (λi ys H' a _=>a) (λys H' _=>K' _) ?_ ?_
 ·intro i ys H' a B yT LO x H9 QJ;nofun;obtain⟨u,ud,L,QK,v⟩:=LO;obtain⟨rfl,rfl⟩:=QJ;ac_rfl;calc⟨Ext.set (Ext.refl _) rfl,?_⟩;right;rw[if_pos trivial];calc⟨p,1 + m,rfl,v.gD,(),(),λg dd c LP wK Wa=>?_⟩;have Wb:=LP.rest _ _ B V8;have t10:cq c (upd c I (.lst (ys++[g]))):=(cq.refl _).upd λc e=>by rw[Wb] at e;cases e
  refine cy Wb yT a (L' (aI ())) ⟨u++[dd],?_,by simp[L],?_,?_⟩
  ·rw[List.map_append];exact((ud.aG (LP.aM v.gD)).snoc wK).aG t10
  ·intro Z zy;rcases List.mem_append.mp zy with z | z
   ·exact QK Z z
   ·simp at z;subst z;exact Wa
  ·exact⟨LP.gD.upd (Ne.symm V8),λb o e ne=>by rw[ay (av e Y)];calc LP.rest _ _ (v.rest _ _ e ne) ne⟩
 intro ys H9 i a g;obtain⟨u,ud,L,QK,v⟩:=g;have c:=X.trans v;right;calc⟨by show 4<=sizeLine;decide,λt g=>?_⟩;have a:=aq.new (.tup [.int M,.ref D,.ref S,.ref I]) g;calc q t D S I ys M ns row u _ (c.new g) af (a _ _ (v.rest _ _ en8 y)) (a _ _ (v.rest _ _ er8 W)) (a _ _ i) (ud.aG a.aM) fD V6 V9 ⟨D9,pI,(),(),(),J4,QF,(),λd j=>?_⟩;rw[G];have e:(((1+m).toNat:Nat):Int)=1+m:=by lia
 rw[e];calc QK d j
theorem abF{l:List Int}(h:l.length=1):∃a,l=[a]:=List.length_eq_one_iff.mp h
abbrev i8:Stmt:=top 18
inductive vf(K:W.Frag)(vs:List V)(H:Hp)(Q:VK):Prop
 |mk (x:_) (st:_) (way:_) (said:_) (v:_) (ns:_) (row:_) (n:_) (h0:vs=[x,st,.int way,.int said]) (h1:HT H n x (Val.dv v)) (h2:yt K H st ns row) (h3:v.ok ns.length) (h4:Q (.int (rT ns row way said v)) H):vf K vs H Q
def yU(K:W.Frag):Sp:=λvs H Q _=>vf K vs H Q
theorem ug(D:dj K mg "plain_worth" "plain_worth" i8 ["value","state","way","said"])(T:Tx K mg C CN CR F FD):Def P w K mg base "plain_worth" 1 ["value","state","way","said"] (yU K):=by
 have sc:aD ["value","state","way","said","word"] ["value","state","way","said"] (az i8):=by walk_at "s"
 symm;obtain⟨x,st,way,g,v,ns,row,n,rfl,k,B,o,q⟩:=h;have b:=hr.units;refine⟨_,(ai (aW (i:=4) sc.nd rfl Sort (ak b (au 0) aj))
  (ai (aR (aC (aY b) (au 4) aE (aH _)) (ao (aK (ak b (au 0) aj))) aJ)
  (ai (aR (aC (aY b) (au 4) aE (aH _)) (ao (aK (ak b (ak b (au 1) aj) (ak b (au 0) aj)))) aJ)
  (ai (aR (aC (aY b) (au 4) aE (aH _)) (ao (aK (au 3))) aJ)
  (ai (aR (aC (aY b) (au 4) aE (aH _)) (ao (aK (au 2))) aJ)
  (ao (aK (Fj (aC o9 (bo aQ rfl T.b8 T' (ag (ak b (au 1) aj) aa)) aj (aH _)) (ak b (ak b (au 1) aj) aj) aj)))))))),?_⟩
 obtain⟨a,L,M,rfl,t,u,G⟩:=B
 cases v with
 |is z=>
  nofun;obtain⟨p,l,J,m,rfl,c,d,y⟩:=cm k;obtain rfl:=d.cS;obtain rfl:=y.cw;ac_rfl;walk_at "jd";refine dz _ _ (.inr (bH.of c)) rfl ?_;walk_at "jd"
  try rw[if_pos ⋯]
  calc⟨_,_,.inr (bH.of c),rfl,q⟩
 |number i=>
  nofun;obtain⟨p,l,J,m,rfl,c,d,y⟩:=cm k;obtain rfl:=d.cS;obtain rfl:=y.cw;obtain⟨j,rfl⟩:=aac o.1;ac_rfl;have I:j<ns.length:=by have:=o.2;lia
  walk_at "jd";refine dz _ _ (.inr (bH.of c)) rfl ?_;walk_at "jd"
  try rw[if_neg ⋯]
  left
  try rw[if_pos ⋯]
  calc⟨_,_,.inr (bH.of t),rfl,_,_,.inr (bH.of c),rfl,?_⟩;calc⟨_,.int ns[j],u,aA (by rw[List.getElem?_map,cP I];rfl),?_⟩;have e:rT ns row way g (.number j)=ns[j]:=by
   show ns.getD (j:Int).toNat 0=ns[j];simp[List.getD_eq_getElem?_getD,cP I]
  rw[e]at q;calc q
 |mx=>
  nofun;obtain⟨p,l,m,rfl,c,d⟩:=iX k;obtain rfl:=d.cS;ac_rfl;walk_at "jd";refine dz _ _ (.inr (bH.of c)) rfl ?_;walk_at "jd"
  try rw[if_neg ⋯]
  left
  try rw[if_neg ⋯]
  left
  try rw[if_pos ⋯]
  calc q
 |way=>
  nofun;obtain⟨p,l,m,rfl,c,d⟩:=iX k;obtain rfl:=d.cS;ac_rfl;walk_at "jd";refine dz _ _ (.inr (bH.of c)) rfl ?_;walk_at "jd"
  try rw[if_neg ⋯]
  left
  try rw[if_neg ⋯]
  left
  try rw[if_neg ⋯]
  left
  try rw[if_pos ⋯]
  calc q
 |first=>
  nofun;obtain⟨p,l,m,rfl,c,d⟩:=iX k;obtain rfl:=d.cS;ac_rfl;walk_at "jd";refine dz _ _ (.inr (bH.of c)) rfl ?_;walk_at "jd"
  try rw[if_neg ⋯]
  left
  try rw[if_neg ⋯]
  left
  try rw[if_neg ⋯]
  left
  try rw[if_neg ⋯]
  calc dz _ _ (.inr (bH.of t)) rfl ?_;refine bI _ (G.elim (λz=>.inl ⟨_,z,rfl⟩) (λz=>.inr ⟨_,z,rfl⟩)) ?_
  cases row with
  |nil=>
   left;rw[if_neg nofun];calc q
  |cons r b=>
   left;rw[if_pos nofun];calc⟨_,_,.inr (bH.of t),rfl,_,_,G,aA (j:=0) rfl,q⟩
abbrev mM:Stmt:=top 19
inductive vg(K:W.Frag)(vs:List V)(H:Hp)(Q:VK):Prop
 |mk (x:_) (st:_) (way:_) (said:_) (m:_) (v:_) (ns:_) (row:_) (n:_) (h0:vs=[x,st,.int way,.int said,.int m]) (h1:HT H n x (Val.dv v)) (h2:yt K H st ns row) (h3:v.ok ns.length) (h4:0<m) (h5:Q (.int (rT ns row way said v%m)) H):vg K vs H Q
def yV(K:W.Frag):Sp:=λvs H Q _=>vg K vs H Q
theorem AU(D:dj K mg "worth_of" "worth_of" mM ["value","state","way","said","modulus"])(T:Tx K mg C CN CR F FD)(i:Def P w K mg base "plain_worth" 1 ["value","state","way","said"] (yU K)):Def P w K mg base "worth_of" 2 ["value","state","way","said","modulus"] (yV K):=by
 have sc:aD ["value","state","way","said","modulus"] ["value","state","way","said","modulus"] (az mM):=by walk_at "s"
 symm;obtain⟨x,st,b,a,m,v,ns,row,n,rfl,c,d,e,g,q⟩:=h;have j:=hr.units;refine⟨_,(ao (aK (aT cR (aL i hr (ag (au 0) (ag (au 1) (ag (au 2) (ag (au 3) aa))))) (au 4)))),?_⟩;walk_at "jd";exact⟨x,st,b,a,v,ns,row,n,rfl,c,d,e,g,q⟩
abbrev kX:Stmt:=top 26
inductive VL(H:Hp)(n:Nat):List V->List Val->Prop
 |nil:VL H n [] []
 |cons {x v xs vs}:HT H n x (Val.dv v)->VL H n xs vs->VL H n (x::xs) (v::vs)
theorem VL.same{H H':Hp}{n:Nat}(s:cq H H'){xs:List V}{vs:List Val}(h:VL H n xs vs):VL H' n xs vs:=by
 induction h with
 |nil=>calc .nil
 |cons a _ b=>calc .cons (a.aG s) b
theorem VL.snoc{H:Hp}{n:Nat}{xs:List V}{vs:List Val}{x:V}{v:Val}(h:VL H n xs vs)(a:HT H n x v.dv):VL H n (xs++[x]) (vs++[v]):=by
 induction h with
 |nil=>calc .cons a .nil
 |cons a _ b=>calc .cons a b
theorem VL.len{H:Hp}{n:Nat}{xs:List V}{vs:List Val}(h:VL H n xs vs):xs.length=vs.length:=by
 induction h with
 |nil=>rfl
 |cons _ _ a=>simp[a]
inductive PL(H:Hp)(n:Nat):List V->List (Option Val)->Prop
 |nil:PL H n [] []
 |str {w xs os}:PL H n xs os->PL H n (.str w::xs) (none::os)
 |int {i xs os}:PL H n xs os->PL H n (.int i::xs) (none::os)
 |val {x v xs os}:HT H n x (Val.dv v)->PL H n xs os->PL H n (x::xs) (some v::os)
theorem PL.get{H:Hp}{n:Nat}{xs:List V}{os:List (Option Val)}(h:PL H n xs os):∀{i:Nat}{x:V},xs[i]?=some x->∃o,os[i]?=some o/\((o=none/\((∃w,x=.str w)\/∃j,x=.int j))\/∃v,o=some v/\HT H n x (Val.dv v)):=by
 induction h with
 |nil=>intro i x h;simp at h
 |str _ a=>
  intro i x h
  cases i with
  |zero=>cases h;calc⟨none,rfl,.inl ⟨rfl,.inl ⟨_,rfl⟩⟩⟩
  |succ i=>calc a h
 |int _ a=>
  intro i x h
  cases i with
  |zero=>cases h;calc⟨none,rfl,.inl ⟨rfl,.inr ⟨_,rfl⟩⟩⟩
  |succ i=>calc a h
 |val b _ a=>
  intro i x h
  cases i with
  |zero=>cases h;calc⟨some _,rfl,.inr ⟨_,rfl,b⟩⟩
  |succ i=>calc a h
theorem PL.len{H:Hp}{n:Nat}{xs:List V}{os:List (Option Val)}(h:PL H n xs os):xs.length=os.length:=by
 induction h with
 |nil=>rfl
 |str _ a=>simp[a]
 |int _ a=>simp[a]
 |val _ _ a=>simp[a]
theorem Co{H:Hp}{n:Nat}{x:V}{d:bu}(h:HT H n x d.dv):∃a xs os b,x=.ref a/\H a=some (.tup xs)/\PL H b xs os/\os.filterMap id=d.vals/\xs.length<=4:=by
 cases d with
 |set i v=>
  nofun;obtain⟨a,k,l,m,b,rfl,c,e,f,g⟩:=bW h;obtain rfl:=e.cS;obtain rfl:=f.cw;ac_rfl;calc⟨a,_,_,b,rfl,c,.str (.int (.val g .nil)),rfl,nofun⟩
 |add i v=>
  nofun;obtain⟨a,k,l,m,b,rfl,c,e,f,g⟩:=bW h;obtain rfl:=e.cS;obtain rfl:=f.cw;ac_rfl;calc⟨a,_,_,b,rfl,c,.str (.int (.val g .nil)),rfl,nofun⟩
 |times i v=>
  nofun;obtain⟨a,k,l,m,b,rfl,c,e,f,g⟩:=bW h;obtain rfl:=e.cS;obtain rfl:=f.cw;ac_rfl;calc⟨a,_,_,b,rfl,c,.str (.int (.val g .nil)),rfl,nofun⟩
 |put v=>
  nofun;obtain⟨a,k,l,b,rfl,c,e,f⟩:=cm h;obtain rfl:=e.cS;ac_rfl;calc⟨a,_,_,b,rfl,c,.str (.val f .nil),rfl,nofun⟩
 |drop=>
  nofun;obtain⟨a,k,b,rfl,c,e⟩:=iX h;obtain rfl:=e.cS;ac_rfl;calc⟨a,_,_,b,rfl,c,.str (.nil),rfl,nofun⟩
 |send j v=>
  nofun;obtain⟨a,k,l,m,b,rfl,c,e,f,g⟩:=bW h;obtain rfl:=e.cS;obtain rfl:=f.cw;ac_rfl;calc⟨a,_,_,b,rfl,c,.str (.int (.val g .nil)),rfl,nofun⟩
 |say v=>
  nofun;obtain⟨a,k,l,b,rfl,c,e,f⟩:=cm h;obtain rfl:=e.cS;ac_rfl;calc⟨a,_,_,b,rfl,c,.str (.val f .nil),rfl,nofun⟩
 |skip v i j=>
  nofun;obtain⟨a,k,l,m,p,b,rfl,c,e,f,g,o⟩:=nZ h;obtain rfl:=e.cS;obtain rfl:=o.cw;ac_rfl;calc⟨a,_,_,b,rfl,c,.str (.val f (.val g (.int .nil))),rfl,nofun⟩
inductive yW(vs:List V)(H:Hp)(Q:VK):Prop
 |mk (x:_) (n:_) (d:_) (h0:vs=[x]) (h1:HT H n x (bu.dv d)) (h2:∀l zs k0 H',aq H H'->H l=none->H' l=some (.lst zs)->VL H' k0 zs d.vals->Q (.ref l) H'):yW vs H Q
def Cp:Sp:=λvs H Q _=>yW vs H Q
theorem yX(D:dj K mg "values_of" "values_of" kX ["deed"])(T:Tx K mg C CN CR F FD):Def P w K mg base "values_of" 1 ["deed"] Cp:=by
 have sc:aD ["deed"] ["deed"] (az kX):=by walk_at "s"
 symm;obtain⟨x,n,d,rfl,I,q⟩:=h;have hu:=hr.units;refine⟨_,(ao (aK (dQ (N':=["part"]) (ix:=[none]) (cA (pv 0)) (λ_ _ _ _=>(aX (i:=0) (show(["part"]:List Str).Nodup by decide +kernel) rfl Sort)) (λ_ _ _ _=>(jR (bN (bo (pf (K:=K) rfl) rfl T.bc xq (ag (au 0) (ag (dF (v:=.ty "tuple") rfl T.cE uB rfl) aa)))))) (λ_ _ _ _=>(au 0))))),?_⟩;obtain⟨a,k,u,L,rfl,p,M,U,T⟩:=Co I;left;refine bV ?_;left;refine .inr ⟨⟨_,bH.of p⟩,λD y=>?_⟩;refine bE (J:=Ua K a) (n:=k.length) (λi ys H'=>aq H H'/\VL H' L ys ((u.take i).filterMap id)) (L' (aI ())) ⟨aq.new _ y,.nil⟩ ?_ ?_ ?_ ?_
 ·rintro i ys H' z ⟨g,_⟩;exact⟨k,k[i],bH.of (g _ _ p),cP z⟩
 ·rintro ys H' ⟨g,_⟩;exact⟨k,bH.of (g _ _ p),K' _⟩
 ·intro i ys H' z l N X x r Y;nofun;obtain⟨g,m⟩:=X;obtain⟨rfl,n⟩:=Y;have I:=n k (bH.of (g _ _ p));obtain⟨o,T,Z⟩:=M.get I;ac_rfl;have O:u.take (i+1)=u.take i++[o]:=by
   rw[List.take_add_one,T];rfl
  calc⟨Ext.set (Ext.refl _) rfl,?_⟩;left;rcases Z with⟨rfl,hc⟩|⟨v,rfl,B⟩
  ·have G:∃t,gL K r x t/\W.kitOne K t (.type "tuple")=some false:=by
    rcases hc with⟨w,rfl⟩|⟨j,rfl⟩
    ·exact⟨_,.str w,rfl⟩
    ·exact⟨_,.int j,rfl⟩
   obtain⟨t,i,j⟩:=G;refine dz t false i j ?_
   first|calc⟨false,rfl,?_⟩|skip
   left
   try rw[if_neg Bool.false_ne_true]
   exact⟨ys,l,(),g,by rw[O];simpa using m⟩
  ·have R:=B.aG g.aM;obtain⟨b,zs,rfl,i⟩:=B2 R;refine dz _ true (.tup i) rfl ?_
   first|calc⟨true,rfl,?_⟩|skip
   left
   try first|rw[if_pos rfl]|rw[if_pos trivial]
   calc cy l N z (L' (aI ())) ⟨λc o e=>by rw[ay (av e y)];calc g _ _ e,?_⟩;rw[O,List.filterMap_append];have S:cq r (upd r D (.lst (ys++[.ref b]))):=(cq.refl r).upd λzs e=>by rw[l]at e;cases e
   exact(m.same S).snoc (R.aG S)
 ·rintro ys H' l N ⟨g,m⟩;rw[M.len,List.take_length,U]at m;calc q _ ys L _ g y l m
theorem wL{H:Hp}{n:Nat}{x:V}{d:bu}(f:HT H n x d.dv):∃a l,x=.ref a/\H a=some (.tup (.str d.word::l)):=by
  cases d with
  |drop=>
    obtain⟨g,h,i,b,c,e⟩:=iX f;obtain rfl:=e.cS;calc⟨_,_,b,c⟩
  |skip v l n=>
    obtain⟨g,h,j,m,l,i,b,c,e,k,o,n⟩:=nZ f;obtain rfl:=e.cS;calc⟨_,_,b,c⟩
  |_=>
    first
    | (obtain⟨g,h,j,m,i,b,c,e,k,o⟩:=bW f
       obtain rfl:=e.cS;calc⟨_,_,b,c⟩)
    | (obtain⟨g,h,j,i,b,c,e,k⟩:=cm f
       obtain rfl:=e.cS;calc⟨_,_,b,c⟩)
theorem HS(e:d.word="put"):d.vals.length=1/\∀row x,nW row x d=if row.length<12 then row++[x] else row:=by
 cases d<;>first|calc absurd e (by simp only[bu.word];decide)|calc⟨rfl,λ_ _=>rfl⟩
theorem Eh(e:d.word="drop"):∀row x,nW row x d=row.tail:=by
 cases d<;>first|calc absurd e (by simp only[bu.word];decide)|calc λ_ _=>rfl
theorem HU(e:¬d.word="put")(a:¬d.word="drop"):∀row x,nW row x d=row:=by
 cases d<;>first|calc λ_ _=>rfl|calc absurd rfl e|calc absurd rfl a
theorem Ei{n:Nat}(b:HT H n (.ref a) d.dv)(e:d.word="skip"):∃u v k,H a=some (.tup [.str "skip",u,v,.int k])/\d.vals.length=2/\∀x y,nX x y d=if x<y then k else 0:=by
 cases d<;>first|calc absurd e (by simp only[bu.word];decide)|skip
 obtain⟨i,j,k,l,m,n,c,f,g,o,p,h⟩:=nZ b;obtain rfl:=V.ref.inj c;obtain rfl:=g.cS;obtain rfl:=h.cw;calc⟨_,_,_,f,rfl,λ_ _=>rfl⟩
theorem yZ(e:¬d.word="skip"):∀x y,nX x y d=0:=by
 cases d<;>first|calc λ_ _=>rfl|calc absurd rfl e
theorem oq{n k:Nat}(h:k<n):zY n (k:Int)=some k:=by
 unfold zY;rw[if_pos (),if_pos ()];simp
theorem ik{ws:List Int}{j:Nat}(h:j<ws.length):iQ (ws.map V.int) ((j:Nat):Int)=some (.int (ws.getD j 0)):=aA (by rw[List.getElem?_map,bq (d:=0) h];rfl)
theorem Cq{M:Int}{l:List Int}(h:∀z∈l,0<=z/\z<M){j:Nat}(a:j<l.length):0<=l.getD j 0/\l.getD j 0<M:=h _ (DD.getD_mem a)
def su(M:Int)(ns row:List Int)(x y:Int)(d:bu):List Int×List Int×List (Int×Int)×List Int×Int:=(jG M ns x d,nW row x d,ib x d,gm x d,nX x y d)
inductive Wc(H:Hp)(a:Addr)(m:Int)(d:bu):Prop
 |set (j:Nat) (u:V) (hj:(j:Int)<m) (h:H a=some (.tup [.str "set",.int j,u])) (hl:d.vals.length=1) (e:∀M ns row x y,su M ns row x y d=(ns.set j x,row,[],[],0))
 |add (j:Nat) (u:V) (hj:(j:Int)<m) (h:H a=some (.tup [.str "add",.int j,u])) (hl:d.vals.length=1) (e:∀M ns row x y,su M ns row x y d=(ns.set j ((ns.getD j 0+x)%M),row,[],[],0))
 |times (j:Nat) (u:V) (hj:(j:Int)<m) (h:H a=some (.tup [.str "times",.int j,u])) (hl:d.vals.length=1) (e:∀M ns row x y,su M ns row x y d=(ns.set j ((ns.getD j 0*x)%M),row,[],[],0))
 |put (u:V) (h:H a=some (.tup [.str "put",u])) (hl:d.vals.length=1) (e:∀M ns row x y,su M ns row x y d=(ns,if row.length<12 then row++[x] else row,[],[],0))
 |drop (h:H a=some (.tup [.str "drop"])) (e:∀M ns row x y,su M ns row x y d=(ns,row.tail,[],[],0))
 |send (j:Int) (u:V) (h:H a=some (.tup [.str "send",.int j,u])) (hl:d.vals.length=1) (e:∀M ns row x y,su M ns row x y d=(ns,row,[(j,x)],[],0))
 |say (u:V) (h:H a=some (.tup [.str "say",u])) (hl:d.vals.length=1) (e:∀M ns row x y,su M ns row x y d=(ns,row,[],[x],0))
 |skip (u v:V) (k:Nat) (h:H a=some (.tup [.str "skip",u,v,.int k])) (hl:d.vals.length=2) (e:∀M ns row x y,su M ns row x y d=(ns,row,[],[],if x<y then(k:Int) else 0))
theorem vh{H:Hp}{n:Nat}{a:Addr}{d:bu}{m:Int}(k:HT H n (.ref a) d.dv)(l:d.ok m):Wc H a m d:=by
 cases d with
 |set i v=>
  obtain⟨o,p,g,h,q,b,c,e,f,s⟩:=bW k;obtain rfl:=V.ref.inj b;obtain rfl:=e.cS;obtain rfl:=f.cw;obtain⟨r,rfl⟩:=aac l.1;calc .set r h l.2.1 c rfl λ_ _ _ _ _=>rfl
 |add i v=>
  obtain⟨o,p,g,h,q,b,c,e,f,s⟩:=bW k;obtain rfl:=V.ref.inj b;obtain rfl:=e.cS;obtain rfl:=f.cw;obtain⟨r,rfl⟩:=aac l.1;calc .add r h l.2.1 c rfl λ_ _ _ _ _=>rfl
 |times i v=>
  obtain⟨o,p,g,h,q,b,c,e,f,s⟩:=bW k;obtain rfl:=V.ref.inj b;obtain rfl:=e.cS;obtain rfl:=f.cw;obtain⟨r,rfl⟩:=aac l.1;calc .times r h l.2.1 c rfl λ_ _ _ _ _=>rfl
 |put v=>
  obtain⟨o,p,g,q,b,c,e,f⟩:=cm k;obtain rfl:=V.ref.inj b;obtain rfl:=e.cS;calc .put g c rfl λ_ _ _ _ _=>rfl
 |drop=>
  obtain⟨o,p,q,b,c,e⟩:=iX k;obtain rfl:=V.ref.inj b;obtain rfl:=e.cS;calc .drop c λ_ _ _ _ _=>rfl
 |send j v=>
  obtain⟨o,p,g,h,q,b,c,e,f,s⟩:=bW k;obtain rfl:=V.ref.inj b;obtain rfl:=e.cS;obtain rfl:=f.cw;calc .send j h c rfl λ_ _ _ _ _=>rfl
 |say v=>
  obtain⟨o,p,g,q,b,c,e,f⟩:=cm k;obtain rfl:=V.ref.inj b;obtain rfl:=e.cS;calc .say g c rfl λ_ _ _ _ _=>rfl
 |skip v i j=>
  obtain⟨o,p,g,h,i,q,b,c,e,f,s,t⟩:=nZ k;obtain rfl:=V.ref.inj b;obtain rfl:=e.cS;obtain rfl:=t.cw;obtain⟨r,rfl⟩:=aac (Int.le_trans ∅ l.2.2.1);calc .skip g h r c rfl λ_ _ _ _ _=>rfl
abbrev gr:Stmt:=top 34
inductive Cr(vs:List V)(H:Hp)(Q:VK):Prop
 |mk (an:Addr) (x:V) (l:Addr) (ns ws:List Int) (M:Int) (n:Nat) (d:bu) (h0:vs=[.ref an,x,.ref l,.int M]) (h1:H an=some (.lst (ns.map V.int))) (h2:HT H n x d.dv) (h3:H l=some (.lst (ws.map V.int))) (h4:ws.length=d.vals.length) (h5:d.ok ns.length) (h6:0<M) (h7:M<=1000000000000) (h8:(∀z∈ns,0<=z/\z<M)) (h9:∀H',H' an=some (.lst ((jG M ns (ws.getD 0 0) d).map V.int))->(∀b o,b≠an->H b=some o->H' b=some o)->Q .bx H'):Cr vs H Q
def HV:Sp:=λvs H Q _=>Cr vs H Q
theorem pL(D:dj K mg "change_numbers" "change_numbers" gr ["numbers","deed","worths","modulus"])(T:Tx K mg C CN CR F FD):Def P w K mg base "change_numbers" 1 ["numbers","deed","worths","modulus"] HV:=by
 have sc:aD ["numbers","deed","worths","modulus"] ["numbers","deed","worths","modulus"] (az gr):=by walk_at "s"
 symm;obtain⟨o,x,l,ns,ws,M,n,d,rfl,p,v,R,S,z,B,U,G,q⟩:=h;have g:=hr.units;calc⟨_,(ao (aR (aC (aY g) (ak g (au 1) aj) aE (aH _)) (ao (eQ (ak g (au 2) aj) (iW (au 0) (ak g (au 1) aj) eA))) (ao (aR (aC (aY g) (ak g (au 1) aj) aE (aH _)) (ao (eQ (aT cR (aT ck (ak g (au 0) (ak g (au 1) aj)) (ak g (au 2) aj)) (au 3)) (iW (au 0) (ak g (au 1) aj) eA))) (ao (aR (aC (aY g) (ak g (au 1) aj) aE (aH _)) (ao (eQ (aT cR (aT lU (ak g (au 0) (ak g (au 1) aj)) (ak g (au 2) aj)) (au 3)) (iW (au 0) (ak g (au 1) aj) eA))) aJ)))))),?_⟩;nofun;obtain⟨a,X,rfl,i⟩:=wL v;have W:=vh v z;have I:∀c:Nat,((c:Nat):Int) < ns.length->zY (ns.map V.int).length ((c:Nat):Int)=some c/\iQ (ns.map V.int) ((c:Nat):Int)=some (.int (ns.getD c 0))/\0<=ns.getD c 0/\ns.getD c 0 < M:=λc k=>⟨oq (by rw[List.length_map];lia),ik (),Cq G ()⟩
 have J:∀c y,jG M ns (ws.getD 0 0) d=ns.set c y->Q .bx (upd H o (.lst ((ns.map V.int).set c (.int y)))):=λc y E=>q _ (by rw[af,E,List.map_set]) λb o g e=>by rw[ay g];exact e
 have r:jG M ns (ws.getD 0 0) d=ns->Q .bx H:=λE=>q H (by rw[E];calc p) λ_ _ _ e=>e;calc hZ ?_;clear hZ gZ v z i G q
 cases W with
 |set c u k i m E=>
  have L:=ik (ws:=ws) (j:=0) ();obtain⟨t,N,O⟩:=I c k;walk_at "jg";exact dz _ c p t (J _ _ (congrArg Prod.fst (E M ns [] (ws.getD 0 0) 0)))
 |add c u k i m E=>
  have L:=ik (ws:=ws) (j:=0) ();obtain⟨t,N,O⟩:=I c k;walk_at "jg";refine⟨B,?_⟩;walk_at "jg";exact dz _ c p t (J _ _ (congrArg Prod.fst (E M ns [] (ws.getD 0 0) 0)))
 |times c u k i m E=>
  have L:=ik (ws:=ws) (j:=0) ();obtain⟨t,N,O⟩:=I c k;walk_at "jg";refine g9 (.inl ⟨(),()⟩) B ?_;walk_at "jg";exact dz _ c p t (J _ _ (congrArg Prod.fst (E M ns [] (ws.getD 0 0) 0)))
 |put u i m E=>walk_at "jg";exact r (congrArg Prod.fst (E M ns [] (ws.getD 0 0) 0))
 |drop i E=>walk_at "jg";exact r (congrArg Prod.fst (E M ns [] (ws.getD 0 0) 0))
 |send j u i m E=>walk_at "jg";exact r (congrArg Prod.fst (E M ns [] (ws.getD 0 0) 0))
 |say u i m E=>walk_at "jg";exact r (congrArg Prod.fst (E M ns [] (ws.getD 0 0) 0))
 |skip u v k i m E=>walk_at "jg";exact r (congrArg Prod.fst (E M ns [] (ws.getD 0 0) 0))
abbrev jZ:Stmt:=top 35
inductive Ct(vs:List V)(H:Hp)(Q:VK):Prop
 |mk (an:Addr) (x:V) (l:Addr) (row ws:List Int) (n:Nat) (d:bu) (h0:vs=[.ref an,x,.ref l]) (h1:H an=some (.lst (row.map V.int))) (h2:HT H n x d.dv) (h3:H l=some (.lst (ws.map V.int))) (h4:ws.length=d.vals.length) (h5:row.length<=12) (h6:∀H',H' an=some (.lst ((nW row (ws.getD 0 0) d).map V.int))->(∀b o,b≠an->H b=some o->H' b=some o)->Q .bx H'):Ct vs H Q
def HW:Sp:=λvs H Q _=>Ct vs H Q
theorem wM(D:dj K mg "change_row" "change_row" jZ ["row","deed","worths"])(T:Tx K mg C CN CR F FD):Def P w K mg base "change_row" 1 ["row","deed","worths"] HW:=by
 have sc:aD ["row","deed","worths"] ["row","deed","worths"] (az jZ):=by walk_at "s"
 symm;obtain⟨G,x,l,row,ws,n,d,rfl,c,u,I,B,g,q⟩:=h;have i:=hr.units;calc⟨_,(ao (aR (PW.pt (pw_and (aC (aY i) (ak i (au 1) aj) aE (aH _)) (pw_and1 (aC gk (bo aQ rfl T.b8 T' (ag (au 0) aa)) (fR T.fq rfl) (aH _))))) (ao (bS (dE nz qH qI bZ (au 0) (ag (ak i (au 2) aj) aa)))) (ao (aR (PW.pt (pw_and (aC (aY i) (ak i (au 1) aj) aE (aH _)) (pw_and1 (aC o9 (bo aQ rfl T.b8 T' (ag (au 0) aa)) aj (aH _))))) (ao (K7 (au 0) aj)) aJ)))),?_⟩;obtain⟨a,J,rfl,t⟩:=wL u;by_cases k:d.word="put"
 ·obtain⟨g,v⟩:=HS k;rw[k] at t;have g:=ik (ws:=ws) (j:=0) ();rw[v] at q;walk_at "jg";refine bI _ (.inl ⟨_,aS.of c,rfl⟩) ?_;rw[List.length_map];by_cases m:row.length < 12
  ·rw[if_pos m]at q;left;rw[if_pos (by simp;lia)];walk_at "jg";refine⟨.inl ⟨rfl,_,aS.of c⟩,?_⟩;walk_at "jg";refine hJ _ c (aaX (by simp;lia) (aI (n:=100) ())) ?_;exact q _ (by rw[af,List.map_append];rfl) λb o y e=>by rw[ay y];exact e
  ·rw[if_neg m]at q;left;rw[if_neg (by simp;lia)];walk_at "jg";exact q H c λ_ _ _ e=>e
 by_cases p:d.word="drop"
 ·rw[p] at t;rw[Eh p] at q;walk_at "jg";refine bI _ (.inl ⟨_,aS.of c,rfl⟩) ?_;clear k p u B
  cases row with
  |nil=>
   left
   try rw[if_neg nofun]
   calc q H c λ_ _ _ e=>e
  |cons r g=>
   left;rw[if_pos nofun];walk_at "jg";refine abi _ _ _ 0 rfl rfl c ∅ ∅ (by simp[seqIndex?]) ?_;exact q _ af λb o y e=>by rw[ay y];exact e
 ·rw[HU k p]at q;left;calc cN t (aA (j:=0) rfl) ?_;left;rw[if_neg λz=>k (of_decide_eq_true z)];left;calc cN t (aA (j:=0) rfl) ?_;left;rw[if_neg λz=>p (of_decide_eq_true z)];left;calc q H c λ_ _ _ e=>e
abbrev mN:Stmt:=top 36
inductive y6(vs:List V)(H:Hp)(Q:VK):Prop
 |mk (x:V) (l:Addr) (ws:List Int) (n:Nat) (d:bu) (h0:vs=[x,.ref l]) (h1:HT H n x d.dv) (h2:H l=some (.lst (ws.map V.int))) (h3:ws.length=d.vals.length) (h4:Q (.int (nX (ws.getD 0 0) (ws.getD 1 0) d)) H):y6 vs H Q
def Cu:Sp:=λvs H Q _=>y6 vs H Q
theorem AW(D:dj K mg "left_out" "left_out" mN ["deed","worths"])(T:Tx K mg C CN CR F FD):Def P w K mg base "left_out" 1 ["deed","worths"] Cu:=by
 have sc:aD ["deed","worths"] ["deed","worths"] (az mN):=by walk_at "s"
 symm;obtain⟨x,l,ws,n,d,rfl,c,b,i,q⟩:=h;have b:=hr.units;refine⟨_,(ai (aR (PW.pt (pw_and (aC (aY b) (ak b (au 0) aj) aE (aH _)) (pw_and1 (aC gk (ak b (au 1) aj) (ak b (au 1) aj) (aH _))))) (ao (aK (ak b (au 0) aj))) aJ)
  (ao (aK aj))),?_⟩
 obtain⟨a,o,rfl,k⟩:=wL c;by_cases e:d.word="skip"
 ·obtain⟨u,v,b,k,l,m⟩:=Ei c e;rw[m] at q;have b:=ik (ws:=ws) (j:=0) ();have b:=ik (ws:=ws) (j:=1) ();clear c i m e;walk_at "jg";by_cases g:ws.getD 0 0 < ws.getD 1 0
  ·rw[if_pos g]at q;left;rw[if_pos (decide_eq_true g)];walk_at "jg";exact q
  ·rw[if_neg g]at q;left;rw[if_neg λz=>g (of_decide_eq_true z)];left;exact q
 ·rw[yZ e]at q;left;calc cN k (aA (j:=0) rfl) ?_;left;rw[if_neg λz=>e (of_decide_eq_true z)];left;calc q
theorem HX{d:TT}{f:TS}{D:Ends}(e:St->Hp->Prop)(μ:St->Nat)(h:e σ H)
  (i:∀σ H,e σ H->d σ H λb H1=>if b=true then ∃N:St->Hp->Prop,(∀a H',N a H'->e a H'/\μ a<μ σ)/\f {D with nx:=N,ct:=N,bk:=D.nx} σ H1 else D.nx σ H1)
  (c:∀σ H (Q g:Bool->Hp->Prop),(∀b H1,Q b H1->g b H1)->d σ H Q->d σ H g):vR d f D σ H:=by
 calc⟨λm σ H=>m=μ σ/\e σ H,⟨_,rfl,h⟩,?_⟩;rintro m σ H ⟨rfl,p⟩;refine c σ H _ _ (λb H1 q=>?_) (i σ H p)
 cases b with
 |true=>
  obtain⟨N,c,d⟩:=q;calc⟨N,λa H' n=>⟨_,(c a H' n).2,rfl,(c a H' n).1⟩,d⟩
 |false=>calc q
def SL(H:Hp)(a:List V)(b:List (Int×Int)):Prop:=a.length=b.length/\∀(i:Nat) z p,a[i]?=some z->b[i]?=some p->HT H 1 z (.tup [.int p.1,.int p.2])
theorem SL.aG(s:cq H H'){a:List V}{b:List (Int×Int)}(h:SL H a b):SL H' a b:=⟨h.1,λi z p a b=>(h.2 i z p a b).aG s⟩
theorem SL.snoc{c:List V}{d:List (Int×Int)}{j w:Int}(h:SL H c d)(g:HT H 1 z (.tup [.int j,.int w])):SL H (c++[z]) (d++[(j,w)]):=by
 calc⟨by simp[h.1],λi j p a b=>?_⟩;by_cases e:i<c.length
 ·rw[List.getElem?_append_left e]at a;rw[List.getElem?_append_left (by rw[<-h.1];calc e)]at b;exact h.2 i j p a b
 ·rw[List.getElem?_append_right ()] at a;rw[List.getElem?_append_right (by rw[<-h.1];lia)] at b;rw[h.1] at a
  cases f:i-d.length with
  |zero=>rw[f]at a b;cases a;cases b;calc g
  |succ k=>rw[f]at a;simp at a
structure Res(H H':Hp)(x:V)(s:WS):Prop where
 ex:∃p st l1 l2 zs,x=.ref p/\H' p=some (.tup [st,.ref l1,.ref l2])/\HT H' 2 st (yq s.ns s.row)/\H' l1=some (.lst zs)/\SL H' zs s.cQ/\H' l2=some (.lst (s.words.map V.int))/\H l1=none/\H l2=none/\l1≠l2
theorem Cw{M w:Int}(e:0<M)(b:∀z∈ns,0<=z/\z<M)(f:0<=w/\w<M):∀z∈jG M ns w d,0<=z/\z<M:=by
 have a:∀(j:Nat) (y:Int),(0<=y/\y<M)->∀z∈ns.set j y,0<=z/\z<M:=λj y g z i=>by
  rcases List.mem_or_eq_of_mem_set i with h|h
  ·exact b z h
  ·rw[h];exact g
 have c:∀y:Int,0<=y%M/\y%M<M:=λy=>⟨aaR _ (),aaL _ e⟩
 cases d with
 |set i v=>calc a _ _ f
 |add i v=>calc a _ _ (c _)
 |times i v=>calc a _ _ (c _)
 |_=>calc b
theorem HY{w:Int}{row:List Int}{d:bu}(h:row.length<=12):(nW row w d).length<=12:=by
 cases d with
 |put v=>
  show(if row.length<12 then row++[w] else row).length<=12;split
  ·simp;lia
  ·calc h
 |drop=>show row.tail.length<=12;simp;lia
 |_=>calc h
theorem HZ{m w w':Int}{d:bu}(h:d.ok m):0<=nX w w' d:=by
 cases d with
 |skip v u k=>
  show 0<=(if w<w' then k else 0)
  split
  ·exact Int.le_trans ∅ h.2.2.1
  ·calc Int.le_refl _
 |_=>calc Int.le_refl _
theorem ou{m:Int}(h:d.ok m):∀v∈d.vals,v.ok m:=by
 intro v a
 cases d<;>simp only[bu.vals,List.mem_cons,List.not_mem_nil,or_false]at a
 case set=>subst a;exact h.2.2
 case add=>subst a;exact h.2.2
 case times=>subst a;exact h.2.2
 case put=>subst a;exact h
 case send=>subst a;exact h.2
 case say=>subst a;exact h
 case skip=>rcases a with rfl|rfl;calc h.1;calc h.2.1
theorem VL.get{H:Hp}{n:Nat}{xs:List V}{vs:List Val}(h:VL H n xs vs):∀{i:Nat}{x:V},xs[i]?=some x->∃v,vs[i]?=some v/\HT H n x (Val.dv v):=by
 induction h with
 |nil=>intro i x h;simp at h
 |cons a _ b=>
  intro i x h
  cases i with
  |zero=>cases h;calc⟨_,rfl,a⟩
  |succ i=>calc b h
theorem y7:d.vals.length<=2:=by cases d<;>simp[bu.vals]
theorem vi{M way said:Int}{ns row:List Int}{vs:List Val}{i:Nat}(a:0<M):0<=(vs.map (fT M way said ns row)).getD i 0/\(vs.map (fT M way said ns row)).getD i 0<M:=by
 rw[List.getD_eq_getElem?_getD,List.getElem?_map]
 cases vs[i]? with
 |none=>calc⟨Int.le_refl _,a⟩
 |some v=>calc⟨aaR _ (),aaL _ a⟩
theorem sk1{a:Nat}{k:Int}(h:0<=k):(a:Int)+(1+k)=((a+1+k.toNat:Nat):Int):=by lia
theorem sk2{α:Type}{x:α}{xs:List α}{a k f:Nat}(h:(x::xs.drop (a+1)).length<=f+1):(xs.drop (a+1+k)).length<=f:=by
 rw[List.length_drop];rw[List.length_cons,List.length_drop]at h;lia
theorem sk3{n a:Nat}{k:Int}(b:a<n)(h:0<=k):n-((a:Int)+(1+k)).toNat<n-a:=by lia
theorem LQ{n:Nat}{w:Int}(h:HT H n (.ref a) d.dv)(e:d.word="send"):∃j u,H a=some (.tup [.str "send",.int j,u])/\ib w d=[(j,w)]/\gm w d=[]/\d.vals.length=1:=by
 cases d<;>first|calc absurd e (by simp only[bu.word];decide)|skip
 obtain⟨g,i,j,k,l,z,b,c,f,m⟩:=bW h;obtain rfl:=L2.V.ref.inj z;obtain rfl:=f.cw;obtain rfl:=c.cS;calc⟨_,_,b,rfl,rfl,rfl⟩
theorem QM{w:Int}(e:d.word="say"):gm w d=[w]/\d.vals.length=1:=by
 cases d<;>first|calc absurd e (by simp only[bu.word];decide)|calc⟨rfl,rfl⟩
theorem za{w:Int}:(ib w d).length<=1/\(gm w d).length<=1:=by cases d<;>simp[ib,gm]
theorem LR{w:Int}(e:¬d.word="send"):ib w d=[]:=by cases d<;>first|rfl|exact absurd rfl e
theorem Ia{w:Int}(e:¬d.word="say"):gm w d=[]:=by cases d<;>first|rfl|exact absurd rfl e
theorem zc{l:List Int}(h:0<l.length):l[0]?=some (l.getD 0 0):=by
 cases l with
 |nil=>simp at h
 |cons a r=>rfl
abbrev gs:Stmt:=(bX (top 37)).getD 4 (.Pass ⟨0,0,0,0⟩)
def muW(n:Nat)(σ:St):Nat:=match σ[8]? with
 |some (some (V.int i))=>n-i.toNat
 |_=>0
inductive sx(K:W.Frag)(C:Addr)(vs:List V)(H:Hp)(Q:VK):Prop
 |mk (m:Addr) (st:V) (way said M:Int) (ns0 DO:List Int) (ds:List bu) (ns row:List Int) (h0:vs=[.ref m,st,.int way,.int said]) (h1:ie C H m M ns0 DO ds) (h2:yt K H st ns row) (h3:2<=M) (h4:M<=1000000000000) (h5:(∀z∈ns,0<=z/\z<M)) (h6:row.length<=12) (h7:ds.length<=24) (h8:(∀d∈ds,d.ok ns.length)) (h9:∀x H',aq H H'->Res H H' x (nY M way said ds ns row)->Q x H'):sx K C vs H Q
def vj(K:W.Frag)(C:Addr):Sp:=λvs H Q _=>sx K C vs H Q
inductive QN(H:Hp)(m:Addr)(st:V)(way said M:Int)(ds:List bu)(ns row:List Int)(σ:St)(H':Hp):Prop
 |mk (an ar gU aw:Addr) (zs:List V) (z9 QO:Option V) (at_:Nat) (s:WS) (f:Nat) (h0:σ=[some (.ref m),some st,some (.int way),some (.int said),some (.ref an),some (.ref ar),some (.ref gU),some (.ref aw),some (.int at_),z9,QO]) (h1:aq H H') (h2:H an=none) (h3:H ar=none) (h4:H gU=none) (h5:H aw=none) (h6:an≠ar) (h7:an≠gU) (h8:an≠aw) (h9:ar≠gU) (V3:ar≠aw) (h11:gU≠aw) (h12:H' an=some (.lst (s.ns.map V.int))) (h13:H' ar=some (.lst (s.row.map V.int))) (h14:H' gU=some (.lst zs)) (h15:SL H' zs s.cQ) (h16:H' aw=some (.lst (s.words.map V.int))) (h17:s.ns.length=ns.length) (h18:(∀z∈s.ns,0<=z/\z<M)) (h19:s.row.length<=12) (h20:s.cQ.length<=at_) (h21:s.words.length<=at_) (h22:yr M way said f (ds.drop at_) s=nY M way said ds ns row) (h23:(ds.drop at_).length<=f):QN H m st way said M ds ns row σ H'
theorem pM(D:gO K C "worked" "Machine.worked" gs ["self","state","way","said"])(T:Tx K mg C CN CR F FD)(gu:Def P w K mg base "change_numbers" 1 ["numbers","deed","worths","modulus"] HV)(j0:Def P w K mg base "change_row" 1 ["row","deed","worths"] HW)(mO:Def P w K mg base "left_out" 1 ["deed","worths"] Cu)(kY:Def P w K mg base "values_of" 1 ["deed"] Cp)(mP:Def P w K mg base "worth_of" 2 ["value","state","way","said","modulus"] (yV K)):eP P w K mg base C "worked" 3 ["self","state","way","said"] (vj K C):=by
  have sc:aD ["self","state","way","said","numbers","row","sent","words","at","deed","worths"] ["self","state","way","said"] (az gs):=by walk_at "s"
  symm;obtain⟨m,st,k,c,M,ns0,DO,t,ns,row,rfl,hm,oO,D9,pI,hb,oh,Nm,aU,q⟩:=h;have O:=hr.units;refine⟨_,(ai (aW (i:=4) sc.nd rfl Sort (da bO rfl T.dI vK (ag (ak O (au 1) aj) aa)))
    (ai (aW (i:=5) sc.nd rfl Sort (da bO rfl T.dI vK (ag (ak O (au 1) aj) aa)))
    (ai (aW (i:=6) sc.nd rfl Sort (bM aa))
    (ai (aW (i:=7) sc.nd rfl Sort (bM aa))
    (ai (aW (i:=8) sc.nd rfl Sort aj)
    (ai (Fq PassesOwn.never (Bw gk (pv 8) (bo aQ rfl T.b8 T' (ag (bL (pv 0) rfl) aa)) (aH _))
    (ai (aW (i:=9) sc.nd rfl Sort (ak O (bL (au 0) rfl) (au 8)))
    (ai (gF (i:=10) sc.nd rfl Sort (N':=["value","way","said","numbers","row","self"]) (ix:=[none,some 2,some 3,some 4,some 5,some 0]) (cA (aL kY hr (ag (au 9) aa))) (λ_ _ _ _=>(aX (i:=0) (show(["value","way","said","numbers","row","self"]:List Str).Nodup by decide +kernel) rfl Sort)) pw (λ_ _ _ _=>(aL mP hr (ag (au 0) (ag (bb (ag (au 3) (ag (au 4) aa))) (ag (au 1) (ag (au 2) (ag (Lb (K:=K) rfl (au 5) rfl) aa))))))))
    (ai (bS (aL gu hr (ag (au 4) (ag (au 9) (ag (au 10) (ag (bL (au 0) rfl) aa))))))
    (ai (bS (aL j0 hr (ag (au 5) (ag (au 9) (ag (au 10) aa)))))
    (ai (aR (aC (aY O) (ak O (au 9) aj) aE (aH _)) (ao (bS (dE nz qH qI bZ (au 6) (ag (bb (ag (ak O (au 9) aj) (ag (ak O (au 10) aj) aa))) aa)))) (ao (aR (aC (aY O) (ak O (au 9) aj) aE (aH _)) (ao (bS (dE nz qH qI bZ (au 7) (ag (ak O (au 10) aj) aa)))) aJ)))
    (ao (OZ (i:=8) sc.nd rfl Sort (aT ck aj (aL mO hr (ag (au 9) (ag (au 10) aa)))) O0))))))))
    (ao (aK (bb (ag (bb (ag (da cH rfl T.cE uB (ag (au 4) aa)) (ag (da cH rfl T.cE uB (ag (au 5) aa)) aa))) (ag (au 6) (ag (au 7) aa)))))))))))),?_⟩
  nofun;obtain⟨dx,stm,dd,EX,hm2,hm3⟩:=hm;obtain⟨ad,xs,rfl,Wd,ud⟩:=VY hm3;obtain⟨sa,sb,We,rfl,Wf,hsb,hsc⟩:=oO;ac_rfl;left;calc dz _ _ (.inr (bH.of Wf)) rfl ?_;left;calc bI _ hsb (λB QP=>?_);have Z:=aq.new (.lst (ns.map V.int)) QP;left;calc dz _ _ (.inr (bH.of (Z _ _ Wf))) rfl ?_;left;have QQ:aS K (upd H B (.lst (ns.map V.int))) We (row.map V.int)\/bH K (upd H B (.lst (ns.map V.int))) We (row.map V.int):=hsc.elim (λz=>.inl (Z.seq z)) (λz=>.inr (Z.Si z));calc bI _ QQ (λI Ej=>?_);have R:=aq.new (.lst (row.map V.int)) Ej;left;calc⟨aaa _,λu pN=>?_⟩;have r:=aq.new (.lst []) pN;left;calc⟨aaa _,λG Y=>?_⟩;have W:=aq.new (.lst []) Y;left;have nra:I≠B:=λz=>by subst z;rw[af]at Ej;cases Ej
  have hrH:H I=none:=Z.free Ej;have hsH:H u=none:=(Z.trans R).free pN;have hwH:H G=none:=(Z.trans (R.trans r)).free Y;have nsa:u≠B:=λz=>by subst z;rw[R _ _ af]at pN;cases pN
  have nsr:u≠I:=λz=>by subst z;rw[af]at pN;cases pN
  have nwa:G≠B:=λz=>by subst z;rw[r _ _ (R _ _ af)]at Y;cases Y
  have nwr:G≠I:=λz=>by subst z;rw[r _ _ af]at Y;cases Y
  have nws:G≠u:=λz=>by subst z;rw[af]at Y;cases Y
  have wN:=Z.trans (R.trans (r.trans W));have J7:0<M:=by lia
  refine HX (QN H m (.ref sa) k c M t ns row) (muW t.length) ?_ ?_ ?_
  · refine⟨B,I,u,G,[],none,none,0,⟨ns,row,[],[]⟩,t.length,rfl,wN,QP,hrH,hsH,hwH,Ne.symm nra,Ne.symm nsa,Ne.symm nwa,Ne.symm nsr,Ne.symm nwr,Ne.symm nws,W _ _ (r _ _ (R _ _ af)),W _ _ (r _ _ af),W _ _ af,⟨rfl,λi z p e=>by simp at e⟩,af,rfl,hb,oh,K' _,K' _,rfl,K' _⟩
  · intro σ H1 iY;obtain⟨B,I,u,G,zs,z9,QO,g,s,f,rfl,sH,a1,a2,a3,a4,n1,n2,n3,n4,n5,n6,e1,e2,e3,LS,e5,J8,J4,zd,J9,Zi,S,Nu⟩:=iY;have LU:=sH _ _ EX;have Wg:=sH _ _ Wd;have abW:=ud.aG sH.aM;left;calc fG LU T.cO T.Nj VX ?_;left;calc bI _ (.inr ⟨_,bH.of Wg,rfl⟩) ?_;by_cases kB:g < t.length
    · have QR:g < xs.length:=by rw[ud.1];exact kB
      left;rw[if_pos (by simpa using QR)];calc⟨λσ' H'=>QN H m (.ref sa) k c M t ns row σ' H'/\muW t.length σ'<t.length-g,λσ' H' h=>h,?_⟩;have uh:=aU t[g] (W' kB);have hx:=abW.2 g xs[g] t[g] (cP QR) (cP kB);have SA:t.drop g=t[g]::t.drop (g+1):=List.drop_eq_getElem_cons kB;nofun;generalize hdd:t[g]=d at uh hx SA;generalize hxx:xs[g]=x at hx;have exx:xs[g]?=some x:=by rw[cP QR,hxx]
      obtain⟨f',rfl⟩:∃f',f=f'+1:=⟨f-1,by rw[SA]at Nu;simp at Nu;lia⟩
      rw[SA]at S Nu
      replace S:yr M k c f' ((t.drop (g+1)).drop (mn M k c d s).toNat) (fU M k c d s)=nY M k c t ns row:=S
      ac_rfl;rw[List.drop_drop]at S;left;calc fG LU T.cO T.Nj VX ?_;left;calc dz _ x (.inr (bH.of Wg)) (aA exx) ?_;left;calc bV ?_;left;calc⟨x,3,d,rfl,hx,λl zv k0 H2 R Wh hl Nr=>?_⟩;calc .inl ⟨⟨_,aS.of hl⟩,λD hD=>?_⟩;have Ka:=Nr.len;have oZ:=y7 (d:=d);refine bE (J:=xN K l) (n:=zv.length) (λi ys H'=>ys=((d.vals.take i).map (fT M k c s.ns s.row)).map V.int/\aq H2 H') (L' (aI ())) ⟨rfl,aq.new _ hD⟩ ?_ ?_ ?_ ?_
      · rintro i ys H' hi ⟨_,r⟩;exact⟨_,zv[i],aS.of (r _ _ hl),cP hi⟩
      · rintro ys H' ⟨_,r⟩;exact⟨_,aS.of (r _ _ hl),K' _⟩
      · intro i ys H3 hi bC yT iZ y H4 qB;nofun;obtain⟨rfl,r⟩:=iZ;obtain⟨rfl,hy⟩:=qB;have ey:=hy _ (aS.of (r _ _ hl));obtain⟨v,ev,hv⟩:=Nr.get ey;ac_rfl;have i4:=ou uh v (aap ev);calc⟨Ext.set (Ext.refl _) rfl,?_⟩;left;rw[if_pos trivial];calc⟨bP,λp hp=>?_⟩;have W:=aq.new (.tup [.ref B,.ref I]) hp;have Ib:=R.trans (r.trans W);calc fG (Ib _ _ LU) T.cO T.Ni VW ?_;calc⟨y,.ref p,k,c,M,v,s.ns,s.row,k0,rfl,(hv.aG (r.trans W).aM),⟨p,B,I,rfl,af,.inl (aS.of (Ib _ _ e1)),.inl (aS.of (Ib _ _ e2))⟩,by rw[J8];calc i4,J7,?_⟩;refine cy (W _ _ bC) yT hi (L' (aI ())) ⟨?_,λb o e=>?_⟩
        · rw[List.take_add_one,ev];simp[fT]
        · rw[ay (av e hD)];exact W _ _ (r _ _ e)
      rintro ys H3 bC yT ⟨rfl,r⟩;rw[Ka,List.take_length]at bC;have X:=R.trans r;have EZ:H1 D=none:=R.free hD;generalize qT:d.vals.map (fT M k c s.ns s.row)=ws at bC;have jP:ws.length=d.vals.length:=by rw[<-qT];simp
      have QS:0<=ws.getD 0 0/\ws.getD 0 0<M:=by rw[<-qT];exact vi J7
      have Cy:fU M k c d s=⟨jG M s.ns (ws.getD 0 0) d,nW s.row (ws.getD 0 0) d,s.cQ++ib (ws.getD 0 0) d,s.words++gm (ws.getD 0 0) d⟩:=by rw[<-qT];rfl
      have Cz:mn M k c d s=nX (ws.getD 0 0) (ws.getD 1 0) d:=by rw[<-qT];rfl
      rw[Cy,Cz]at S;have Kb:∀{b:Addr} {o:HO},H1 b=some o->b≠D:=λe=>av e EZ;left;calc fG (X _ _ LU) T.cO T.Ni VW ?_;calc⟨B,x,D,s.ns,ws,M,3,d,rfl,X _ _ e1,hx.aG X.aM,bC,jP,by rw[J8];calc uh,J7,pI,J4,λH4 e14 k4=>?_⟩;have t4:cq H3 H4:=λb ys e=>k4 b _ (λz=>by subst z;rw[X _ _ e1]at e;cases e) e;left;calc⟨I,x,D,s.row,ws,3,d,rfl,k4 _ _ (Ne.symm n1) (X _ _ e2),hx.aG (X.aM.trans t4),k4 _ _ (Ne.symm (Kb e1)) bC,jP,zd,λL e25 k5=>?_⟩;have t5:cq H4 L:=λb ys e=>k5 b _ (λz=>by subst z;rw[k4 _ _ (Ne.symm n1) (X _ _ e2)]at e;cases e) e;have t15:cq H1 L:=X.aM.trans (t4.trans t5);have kk:∀b o,b≠B->b≠I->H1 b=some o->L b=some o:=λb o ne1 ne2 e=>k5 b o ne2 (k4 b o ne1 (X _ _ e));have e15:=k5 _ _ n1 e14;have SD:=kk _ _ (Ne.symm n2) (Ne.symm n4) e3;have Wi:=kk _ _ (Ne.symm n3) (Ne.symm n5) e5;have Cg:L D=some (.lst (ws.map V.int)):=k5 _ _ (Ne.symm (Kb e2)) (k4 _ _ (Ne.symm (Kb e1)) bC);have QT:=LS.aG t15;have QU:aq H L:=λb o e=>kk b o (av e a1) (av e a2) (sH _ _ e);have E2:=hx.aG t15;have Nv:=HZ (w:=ws.getD 0 0) (w':=ws.getD 1 0) uh;obtain⟨a,us,rfl,ha,-⟩:=si E2 uh;left;rename_i N1 hN1 T1 U1 QV Kc;have fin:∀U Ke,aq H U->U B=some (.lst ((jG M s.ns (ws.getD 0 0) d).map V.int))->U I=some (.lst ((nW s.row (ws.getD 0 0) d).map V.int))->U u=some (.lst Ke)->SL U Ke (s.cQ++ib (ws.getD 0 0) d)->U G=some (.lst ((s.words++gm (ws.getD 0 0) d).map V.int))->HT U 3 (.ref a) d.dv->U D=some (.lst (ws.map V.int))->N1 [some (V.ref m),some (V.ref sa),some (V.int k),some (V.int c),some (V.ref B),some (V.ref I),some (V.ref u),some (V.ref G),some (V.int (g:Nat)),some (V.ref a),some (V.ref D)] U:=by
        intro U Ke f0 f1 f2 f3 f4 f5 f6 f7;left;calc⟨.ref a,D,ws,_,_,rfl,f6,f7,jP,?_⟩;left;calc dz _ _ rfl rfl ?_;have l1:=za (w:=ws.getD 0 0) (d:=d);refine⟨⟨B,I,u,G,Ke,some (.ref a),some (.ref D),g+1+(nX (ws.getD 0 0) (ws.getD 1 0) d).toNat,⟨jG M s.ns (ws.getD 0 0) d,nW s.row (ws.getD 0 0) d,s.cQ++ib (ws.getD 0 0) d,s.words++gm (ws.getD 0 0) d⟩,f',?_,f0,a1,a2,a3,a4,n1,n2,n3,n4,n5,n6,f1,f2,f3,f4,f5,by rw[pq];calc J8,Cw (d:=d) J7 J4 QS,HY (w:=ws.getD 0 0) (d:=d) zd,(by rw[List.length_append];lia),(by rw[List.length_append];lia),S,?_⟩,?_⟩
        · first|rfl|rw[sk1 Nv]
        · exact sk2 Nu
        · exact sk3 kB Nv
      calc cN ha (aA (j:=0) rfl) ?_;left;by_cases k1:d.word="send"
      · rw[if_pos (decide_eq_true k1)];obtain⟨j,u2,JY,es,hv1,hv2⟩:=LQ (w:=ws.getD 0 0) E2 k1;have Cs:iQ (ws.map V.int) 0=some (.int (ws.getD 0 0)):=aA (j:=0) (by rw[List.getElem?_map,zc ()];rfl);generalize ws.getD 0 0=w0 at *
        · skip
          left;calc⟨.inl ⟨rfl,_,aS.of SD⟩,?_⟩;calc cN JY (aA (j:=1) rfl) ?_;left;calc bF Cg Cs ?_;calc⟨bP,λtp EK=>?_⟩;have s6:=aq.new (.tup [.int j,.int w0]) EK;calc hJ _ (s6 _ _ SD) (aaX (by have:=LS.1;lia) (aI (n:=100) ())) ?_;have htn:tp≠u:=λz=>by subst z;rw[SD]at EK;cases EK
          have t6:cq (upd L tp (.tup [.int j,.int w0])) (upd (upd L tp (.tup [.int j,.int w0])) u (.lst (zs++[.ref tp]))):=(cq.refl _).upd λys e=>by rw[s6 _ _ SD]at e;cases e
          have N:∀b o,b≠u->L b=some o->upd (upd L tp (.tup [.int j,.int w0])) u (.lst (zs++[.ref tp])) b=some o:=λb o ne e=>by rw[ay ne];exact s6 _ _ e
          exact fin _ _ (λb o e=>N b o (av e a3) (QU _ _ e)) (N _ _ n2 e15) (N _ _ n4 e25) af (by rw[es];calc(QT.aG (s6.aM.trans t6)).snoc (cJ (n:=0) (by rw[ay htn];calc af) (.int _) (.int _))) (by rw[hv1,List.append_nil];calc N _ _ (Ne.symm n6) Wi) (E2.aG (s6.aM.trans t6)) (N _ _ (Ne.symm (Kb e3)) Cg)
      · rw[if_neg λz=>k1 (of_decide_eq_true z)];have es:=LR (w:=ws.getD 0 0) k1;left;calc cN ha (aA (j:=0) rfl) ?_;left;by_cases k2:d.word="say"
        · rw[if_pos (decide_eq_true k2)];obtain⟨ew,hv1⟩:=QM (w:=ws.getD 0 0) k2;have Cs:iQ (ws.map V.int) 0=some (.int (ws.getD 0 0)):=aA (j:=0) (by rw[List.getElem?_map,zc ()];rfl);generalize ws.getD 0 0=w0 at *
          · skip
            left;calc⟨.inl ⟨rfl,_,aS.of Wi⟩,?_⟩;left;calc bF Cg Cs ?_;calc hJ _ Wi (aaX (by simp;lia) (aI (n:=100) ())) ?_;have t6:cq L (upd L G (.lst (s.words.map V.int++[.int w0]))):=(cq.refl _).upd λys e=>by rw[Wi]at e;cases e
            have N:∀b o,b≠G->L b=some o->upd L G (.lst (s.words.map V.int++[.int w0])) b=some o:=λb o ne e=>by rw[ay ne];exact e
            exact fin _ zs (λb o e=>N b o (av e a4) (QU _ _ e)) (N _ _ n3 e15) (N _ _ n5 e25) (N _ _ n6 SD) (by rw[es,List.append_nil];calc QT.aG t6) (by rw[af,ew,List.map_append];rfl) (E2.aG t6) (N _ _ (Ne.symm (Kb e5)) Cg)
        · rw[if_neg λz=>k2 (of_decide_eq_true z)];have ew:=Ia (w:=ws.getD 0 0) k2;calc L2.bA (by assumption) ?_;exact fin _ _ QU e15 e25 SD (by rw[es,List.append_nil];calc QT) (by rw[ew,List.append_nil];calc Wi) E2 Cg
    · have QR:¬g < xs.length:=by rw[ud.1];exact kB
      left;rw[if_neg (by simpa using QR)];rw[List.drop_eq_nil_of_le (),B1]at S;left;calc .inl ⟨_,aS.of e1,λt1 AN=>?_⟩;have r1:=aq.new (.tup (s.ns.map V.int)) AN;left;calc .inl ⟨_,aS.of (r1 _ _ e2),λt2 oQ=>?_⟩;have r2:=aq.new (.tup (s.row.map V.int)) oQ;left;calc⟨bP,λt3 AR=>?_⟩;have r3:=aq.new (.tup [.ref t1,.ref t2]) AR;left;calc⟨by show 3<=sizeLine;decide,λt4 xC=>?_⟩;have r4:=aq.new (.tup [.ref t3,.ref u,.ref G]) xC;have LV:=r1.trans (r2.trans (r3.trans r4));refine q _ _ (sH.trans LV) ⟨_,_,u,G,zs,rfl,af,?_,LV _ _ e3,?_,?_,a3,a4,n6⟩
      · rw[<-S];exact(cJ af (nV (r3 _ _ (r2 _ _ af))) (nV (r3 _ _ af))).aG r4.aM
      · rw[<-S];exact LS.aG LV.aM
      · rw[<-S];exact LV _ _ e5
  · intro σ H1 Q Q' hq hc;obtain⟨x,h1,x0,h0,a,C',DP,fs,v,h2,h3,h4,h5,h6,n,h7,h8⟩:=hc;refine⟨x,h1,x0,h0,a,C',DP,fs,v,h2,h3,h4,h5,h6,n,h7,?_⟩
    cases x<;>first
      |calc(show False from h8).elim
      | (obtain⟨k',h9,V3⟩:=h8
         calc⟨k',h9,hq _ _ V3⟩)
abbrev kZ:Stmt:=top 55
inductive Ic(vs:List V)(H:Hp)(Q:VK):Prop
 |mk (x:V) (st an ar:Addr) (way said M:Int) (v:Val) (ns row:List Int) (n:Nat) (h0:vs=[x,.ref st,.int way,.int said,.int M]) (h1:HT H n x (Val.dv v)) (h2:H st=some (.tup [.ref an,.ref ar])) (h3:H an=some (.lst (ns.map V.int))) (h4:H ar=some (.lst (row.map V.int))) (h5:v.ok ns.length) (h6:0<M) (h7:row.length<=12) (h8:∀H',aq H H'->Q (.int (fT M way said ns row v)) H'):Ic vs H Q
def CA:Sp:=λvs H Q _=>Ic vs H Q
theorem ze(D:dj K mg "_law_worth" "_law_worth" kZ ["_law_value_here","_law_state","_law_way","_law_said","_law_modulus"])(T:Tx K mg C CN CR F FD):Def P w K mg base "_law_worth" 1 ["_law_value_here","_law_state","_law_way","_law_said","_law_modulus"] CA:=by
 have sc:aD ["_law_value_here","_law_state","_law_way","_law_said","_law_modulus","_law_worth_here"] ["_law_value_here","_law_state","_law_way","_law_said","_law_modulus"] (az kZ):=by walk_at "s"
 symm;obtain⟨x,st,a,Y,way,c,M,v,ns,row,n,rfl,g,R,Z,o,S,k,oh,q⟩:=h;have a:=hr.units;refine⟨_,(ai (aW (i:=5) sc.nd rfl Sort (au 2))
  (ai (aR (aC (aY a) (ak a (au 0) aj) aE (aH _)) (ao (aW (i:=5) sc.nd rfl Sort (ak a (au 0) aj))) aJ)
  (ai (aR (aC (aY a) (ak a (au 0) aj) aE (aH _)) (ao (aW (i:=5) sc.nd rfl Sort (ak a (ak a (au 1) aj) (ak a (au 0) aj)))) aJ)
  (ai (aR (aC (aY a) (ak a (au 0) aj) aE (aH _)) (ao (aW (i:=5) sc.nd rfl Sort (au 3))) aJ)
  (ai (aR (aC (aY a) (ak a (au 0) aj) aE (aH _)) (ao (aW (i:=5) sc.nd rfl Sort (ak a (aT ck (dQ (N':=["_law_k","_law_state"]) (ix:=[none,some 1]) (du rfl T.eX (ag (bo aQ rfl T.b8 T' (ag (ak a (au 1) aj) aa)) aa)) (λ_ _ _ _=>(aX (i:=0) (show(["_law_k","_law_state"]:List Str).Nodup by decide +kernel) rfl Sort)) pw (λ_ _ _ _=>(dG (K:=K) rfl a (dG (K:=K) rfl a (au 1) aj) (au 0)))) (bM (ag aj aa))) aj))) aJ)
  (ao (aK (aT cR (au 5) (au 4))))))))),?_⟩
 left
 cases v with
 |is z=>
  nofun;obtain⟨p,t,w2,u,rfl,y,d,I⟩:=cm g;obtain rfl:=d.cS;obtain rfl:=I.cw;ac_rfl;walk_at "jg";exact⟨k,q H (aq.refl H)⟩
 |number i=>
  nofun;obtain⟨p,t,w2,u,rfl,y,d,I⟩:=cm g;obtain rfl:=d.cS;obtain rfl:=I.cw;obtain⟨L,a⟩:=S;obtain⟨j,rfl⟩:=aac L;ac_rfl;have U:j<ns.length:=by lia
  have a:iQ (ns.map V.int) (j:Int)=some (.int ns[j]):=aA (by rw[List.getElem?_map,cP U];rfl);walk_at "jg";have a:=q H (aq.refl H);have N:fT M way c ns row (.number j)=ns[j]%M:=by
   show ns.getD (j:Int).toNat 0%M=_;simp[List.getD_eq_getElem?_getD,cP U]
  rw[N]at a;calc⟨k,a⟩
 |first=>
  nofun;obtain⟨p,t,u,rfl,y,d⟩:=iX g;obtain rfl:=d.cS;ac_rfl;walk_at "jg"
  skip
  walk_at "jg";refine bI _ (.inl ⟨_,aS.of o,rfl⟩) ?_;left;have a:(row.map V.int).length=row.length:=by simp
  rw[a];calc g9 () () (λD W=>?_);refine bE (J:=Dg 0 row.length) (n:=row.length) (λi ys H'=>ys=(row.take i).map V.int/\aq H H') (L' (aI ())) ⟨rfl,aq.new _ W⟩ (λi ys H' l _=>l) (λys H' _=>K' _) ?_ ?_
  ·intro i ys H' l B G iY x H2 iZ;nofun;obtain⟨rfl,m⟩:=iY;obtain⟨rfl,rfl⟩:=iZ;ac_rfl;calc⟨Ext.set (Ext.refl _) rfl,?_⟩;have a:=m _ _ R;have O:=m _ _ o;walk_at "jg"
   try rw[if_pos trivial]
   calc bF O (show iQ (row.map V.int) (0+(i:Int))=some (.int row[i]) from by rw[Int.zero_add];calc aA (by rw[List.getElem?_map,cP l];rfl)) ?_;calc cy B G l (L' (aI ())) ⟨?_,λb o e=>by rw[ay (av e W)];calc m _ _ e⟩;rw[List.take_succ,cP l,List.map_append];rfl
  rintro ys H1 B G ⟨rfl,m⟩;rw[List.take_length]at B;walk_at "jg";refine⟨∅,λl G=>?_⟩;have X:=aq.new (.lst [.int 0]) G;walk_at "jg";refine .inl ⟨_,_,X _ _ B,af,L' (aI (by simp;lia)),λi a=>?_⟩;have s3:=aq.new (.lst (row.map V.int++[.int 0])) a;have N:iQ (row.map V.int++[.int 0]) 0=some (.int (rT ns row way c .first)):=by
   cases row with
   |nil=>calc aA (j:=0) rfl
   |cons r a=>exact aA (j:=0) rfl
  left;refine bF af N ?_;walk_at "jg";exact⟨k,q _ (m.trans (X.trans s3))⟩
 |mx=>
  nofun;obtain⟨p,t,u,rfl,y,d⟩:=iX g;obtain rfl:=d.cS;ac_rfl;walk_at "jg";exact⟨k,q _ (aq.refl H)⟩
 |way=>
  nofun;obtain⟨p,t,u,rfl,y,d⟩:=iX g;obtain rfl:=d.cS;ac_rfl;walk_at "jg";exact⟨k,q _ (aq.refl H)⟩
abbrev Ie:Stmt:=(bX (top 46)).getD 0 (.Pass ⟨0,0,0,0⟩)
def LW(a b c:V):List (Str×V):=ba "own_letters" c (ba "own_ways" b (ba "own_machines" a []))
theorem Wk{a b c:V}:(LW a b c).lookup ("own_machines":Str)=some a:=by
 unfold LW;rw[bt,if_neg ⋯,bt,if_neg ⋯,bt,if_pos rfl]
theorem Wl{a b c:V}:(LW a b c).lookup ("own_ways":Str)=some b:=by
 unfold LW;rw[bt,if_neg ⋯,bt,if_pos rfl]
theorem ab1{a b c:V}:(LW a b c).lookup ("own_letters":Str)=some c:=by
 unfold LW;rw[bt,if_pos rfl]
theorem eO{a b c:V}(d:f≠"own_machines")(e:f≠"own_ways")(g:f≠"own_letters"):(LW a b c).lookup f=none:=by
 unfold LW;rw[bt,if_neg g,bt,if_neg e,bt,if_neg d];rfl
def k8(CN:Addr)(H:Hp)(x:Addr)(d:List Addr)(wv lv:List V):Prop:=∃e a b c,H x=some (.ins CN e (LW (.ref a) (.ref b) (.ref c)))/\H a=some (.tup (d.map V.ref))/\H b=some (.tup wv)/\H c=some (.tup lv)
theorem k8.same{CN:Addr}{x:Addr}{d:List Addr}(s:aq H H')(h:k8 CN H x d wv lv):k8 CN H' x d wv lv:=by
 obtain⟨d,a,b,c,e,f,g,i⟩:=h;calc⟨d,a,b,c,s _ _ e,s _ _ f,s _ _ g,s _ _ i⟩
def zf(C CN:Addr):Sp:=λvs H Q _=>∃(x c d e f:Addr) (a:List Addr) (wv lv:List V) (ws:List (Int×Int×Str)) (ls:List (Int×Int)),vs=[.ref x,.ref d,.ref e,.ref f]/\H x=some (.ins CN c [])/\H d=some (.lst (a.map V.ref))/\H e=some (.lst wv)/\H f=some (.lst lv)/\1<=a.length/\a.length<=5/\wv.length<=10/\lv.length<=20/\(∀m∈a,∃c g,H m=some (.ins C c g))/\eW H 1 wv (ws.map kR)/\eW H 1 lv (ls.map mI)/\(∀w∈ws,vd a.length w)/\(∀l∈ls,ve wv.length l)/\∀H',k8 CN H' x a wv lv->(∀b o,b≠x->H b=some o->H' b=some o)->Q .bx H'
theorem Wm(D:DE K mg "Net" CN "Net.__init__" Ie ["self","machines","ways","letters"])(T:Tx K mg C CN CR F FD)(j1:Def P w K mg base "refuse_net" 4 ["machines","ways","letters"] (Cn C)):yj P w K mg base "Net" CN 7 ["self","machines","ways","letters"] (zf C CN):=by
 have sc:aD ["self","machines","ways","letters"] ["self","machines","ways","letters"] (az Ie):=by walk_at "s"
 symm;obtain⟨x,a,y,B,G,W,wv,lv,ws,ls,rfl,g,j,k,l,X,Y,Z,ij,VZ,qT,QG,LG,mj,q⟩:=h;have hu:=hr.units;refine⟨_,(ai (bS (aL j1 hr (ag (au 1) (ag (au 2) (ag (au 3) aa)))))
  (ai (fN (au 0) (da cH rfl T.cE uB (ag (au 1) aa)) (ff rfl))
  (ai (fN (au 0) (da cH rfl T.cE uB (ag (au 2) aa)) (ff rfl))
  (ao (fN (au 0) (da cH rfl T.cE uB (ag (au 3) aa)) (ff rfl)))))),?_⟩
 try walk_at "rt"
 calc⟨y,B,G,W,wv,lv,ws,ls,rfl,j,k,l,X,Y,Z,ij,VZ,qT,QG,LG,mj,λH1 I=>?_⟩;have W:=I _ _ g;have W:y≠x:=λz=>by subst z;rw[g]at j;cases j
 have Wn:B≠x:=λz=>by subst z;rw[g]at k;cases k
 have QW:G≠x:=λz=>by subst z;rw[g]at l;cases l
 try walk_at "rt"
 refine jJ (.inl (I _ _ j)) λc H2 s2 J=>?_
 try walk_at "rt"
 have m:=I.trans s2;have Eb:=m _ _ g;calc⟨x,CN,a,[],rfl,Eb,T.de,T.yF,∅,?_⟩;have L:c≠x:=λz=>by subst z;rw[Eb]at J;cases J
 have p:∀b o,b≠x->H2 b=some o->upd H2 x (.ins CN a (ba "own_machines" (.ref c) [])) b=some o:=λb o d e=>by rw[ay d];exact e
 have Kf:upd H2 x (.ins CN a (ba "own_machines" (.ref c) [])) x=some (.ins CN a (ba "own_machines" (.ref c) [])):=af;generalize QX:upd H2 x (.ins CN a (ba "own_machines" (.ref c) []))=G3 at *;have M:=p _ _ L J;have Ec:=p _ _ Wn (m _ _ k);have N:=p _ _ QW (m _ _ l)
 try walk_at "rt"
 refine jJ (.inl Ec) λi r t O=>?_
 try walk_at "rt"
 have QY:=t _ _ Kf;calc qA x CN a _ rfl QY T.de T.yG (bQ (n:=999) ∅) ?_;have n2:i≠x:=λz=>by subst z;rw[QY]at O;cases O
 have u:∀b o,b≠x->r b=some o->upd r x (.ins CN a (ba "own_ways" (.ref i) (ba "own_machines" (.ref c) []))) b=some o:=λb o d e=>by rw[ay d];exact e
 have E2:upd r x (.ins CN a (ba "own_ways" (.ref i) (ba "own_machines" (.ref c) []))) x=some (.ins CN a (ba "own_ways" (.ref i) (ba "own_machines" (.ref c) []))):=af;generalize SE:upd r x (.ins CN a (ba "own_ways" (.ref i) (ba "own_machines" (.ref c) [])))=G5 at *;have R:=u _ _ L (t _ _ M);have S:=u _ _ n2 O;have Ed:=u _ _ QW (t _ _ N)
 try walk_at "rt"
 refine jJ (.inl Ed) λt3 g v U=>?_
 try walk_at "rt"
 have Wo:=v _ _ E2;calc qA x CN a _ rfl Wo T.de T.AI (bQ (n:=999) (bQ (n:=998) ∅)) ?_;have n3:t3≠x:=λz=>by subst z;rw[Wo]at U;cases U
 refine q _ ⟨a,c,i,t3,af,?_,?_,?_⟩ λb o d e=>?_
 ·rw[ay L];exact v _ _ R
 ·rw[ay n2];exact v _ _ S
 ·rw[ay n3];exact U
 ·rw[ay d];calc v _ _ (u _ _ d (t _ _ (p _ _ d (m _ _ e))))
abbrev il:Stmt:=(bX (top 46)).getD 1 (.Pass ⟨0,0,0,0⟩)
def j2(CN:Addr):Sp:=λvs H Q _=>∃(x:Addr) (a:List Addr) (wv lv:List V),vs=[.ref x]/\k8 CN H x a wv lv/\∀l,H l=none->Q (.ref l) (upd H l (.lst (a.map V.ref)))
theorem sy(D:gO K CN "machines" "Net.machines" il ["self"])(T:Tx K mg C CN CR F FD):eP P w K mg base CN "machines" 1 ["self"] (j2 CN):=by
 have sc:aD ["self"] ["self"] (az il):=by walk_at "s"
 symm;obtain⟨x,e,wv,lv,rfl,⟨g,a,b,i,c,d,j,k⟩,q⟩:=h;have e:=hr.units;calc⟨_,(ao (aK (da bO rfl T.dI vK (ag (bL (au 0) rfl) aa)))),?_⟩;calc fld c T.de T.yF Wk ?_;right;calc⟨_,.inr (bH.of d),λl e=>q l e⟩
abbrev mQ:Stmt:=(bX (top 46)).getD 2 (.Pass ⟨0,0,0,0⟩)
def oy(CN:Addr):Sp:=λvs H Q _=>∃(x:Addr) (a:List Addr) (wv lv:List V),vs=[.ref x]/\k8 CN H x a wv lv/\∀l,H l=none->Q (.ref l) (upd H l (.lst wv))
theorem AX(D:gO K CN "ways" "Net.ways" mQ ["self"])(T:Tx K mg C CN CR F FD):eP P w K mg base CN "ways" 1 ["self"] (oy CN):=by
 have sc:aD ["self"] ["self"] (az mQ):=by walk_at "s"
 symm;obtain⟨x,e,wv,lv,rfl,⟨g,a,b,i,c,j,d,k⟩,q⟩:=h;have e:=hr.units;calc⟨_,(ao (aK (da bO rfl T.dI vK (ag (bL (au 0) rfl) aa)))),?_⟩;calc fld c T.de T.yG Wl ?_;right;calc⟨_,.inr (bH.of d),λl e=>q l e⟩
abbrev ja:Stmt:=(bX (top 46)).getD 3 (.Pass ⟨0,0,0,0⟩)
def qm(CN:Addr):Sp:=λvs H Q _=>∃(x:Addr) (a:List Addr) (wv lv:List V),vs=[.ref x]/\k8 CN H x a wv lv/\∀l,H l=none->Q (.ref l) (upd H l (.lst lv))
theorem ui(D:gO K CN "letters" "Net.letters" ja ["self"])(T:Tx K mg C CN CR F FD):eP P w K mg base CN "letters" 1 ["self"] (qm CN):=by
 have sc:aD ["self"] ["self"] (az ja):=by walk_at "s"
 symm;obtain⟨x,e,wv,lv,rfl,⟨g,a,b,i,c,j,k,d⟩,q⟩:=h;have e:=hr.units;calc⟨_,(ao (aK (da bO rfl T.dI vK (ag (bL (au 0) rfl) aa)))),?_⟩;calc fld c T.de T.AI ab1 ?_;right;calc⟨_,.inr (bH.of d),λl e=>q l e⟩
def Nw(M way said:Int):Nat->List bu->WS->WS
 |_,[],s=>s
 |l+1,_::r,s=>Nw M way said l r s
 |0,d::r,s=>Nw M way said (mn M way said d s).toNat r (fU M way said d s)
theorem wO{M way said:Int}:∀(b:List bu) (l:Nat) (s:WS) (f:Nat),b.length<=f->Nw M way said l b s=yr M way said f (b.drop l) s
 | [],l,s,f,_=>by rw[List.drop_nil,B1];cases l<;>rfl
 |d::r,l+1,s,f,h=>by
  show Nw M way said l r s=yr M way said f (r.drop l) s;calc wO r l s f (by simp at h;lia)
 |d::r,0,s,f,h=>by
  obtain⟨a,rfl⟩:∃a,f=a+1:=⟨f-1,by simp at h;lia⟩
  show Nw M way said (mn M way said d s).toNat r (fU M way said d s)=yr M way said a (r.drop (mn M way said d s).toNat) (fU M way said d s);calc wO r _ _ a (by simp at h;lia)
theorem Ig{M way said:Int}{a:List bu}:Nw M way said 0 a ⟨ns,row,[],[]⟩=nY M way said a ns row:=wO a 0 _ _ (K' _)
inductive LX(H:Hp)(mt:Addr)(st:V)(way said M:Int)(ds:List bu)(ns row:List Int)(i:Nat)(σ:St)(H':Hp):Prop
 |mk (an ar gU aw:Addr) (zs:List V) (z9 QO:Option V) (l:Nat) (s:WS) (h0:σ=[some (.ref mt),some st,some (.int way),some (.int said),some (.ref an),some (.ref ar),some (.ref gU),some (.ref aw),some (.int ((l:Nat):Int)),z9,QO]) (h1:aq H H') (a1:H an=none) (a2:H ar=none) (a3:H gU=none) (a4:H aw=none) (n1:an≠ar) (n2:an≠gU) (n3:an≠aw) (n4:ar≠gU) (n5:ar≠aw) (n6:gU≠aw) (e1:H' an=some (.lst (s.ns.map V.int))) (e2:H' ar=some (.lst (s.row.map V.int))) (e3:H' gU=some (.lst zs)) (LS:SL H' zs s.cQ) (e5:H' aw=some (.lst (s.words.map V.int))) (J8:s.ns.length=ns.length) (J4:∀z∈s.ns,0<=z/\z<M) (zd:s.row.length<=12) (J9:s.cQ.length<=i) (Zi:s.words.length<=i) (nM:Nw M way said l (ds.drop i) s=nY M way said ds ns row):LX H mt st way said M ds ns row i σ H'
inductive Ih(K:W.Frag)(vs:List V)(H:Hp)(Q:VK):Prop
 |mk (mt ln lr ld:Addr) (st:V) (way said M:Int) (xs:List V) (ds:List bu) (ns row:List Int) (h0:vs=[.ref mt,st,.int way,.int said]) (Wq:H mt=some (.tup [.int M,.ref ln,.ref lr,.ref ld])) (h1:H ld=some (.lst xs)) (h2:eW H 2 xs (ds.map bu.dv)) (h3:yt K H st ns row) (h5:2<=M) (h6:M<=1000000000000) (h7:∀z∈ns,0<=z/\z<M) (h9:row.length<=12) (V3:ds.length<=24) (h11:∀d∈ds,d.ok ns.length) (h13:∀x H',aq H H'->Res H H' x (nY M way said ds ns row)->Q x H'):Ih K vs H Q
theorem QZ{xs:List V}:bR xs none (some 12)=xs.take 12:=by
 unfold bR;have a:HT.eE xs.length 0 none=0:=rfl;rw[a];have b:HT.eE xs.length xs.length (some 12)=min 12 xs.length:=by
  unfold HT.eE;simp
 rw[b,List.drop_zero,Nat.sub_zero];by_cases h:xs.length<=12
 ·rw[Nat.min_eq_right h,List.take_length,List.take_of_length_le h]
 ·rw[Nat.min_eq_left ()]
theorem Wr{xs:List V}:bR xs (some 1) none=xs.tail:=by
 unfold bR;have b:HT.eE xs.length xs.length none=xs.length:=rfl;rw[b]
 cases xs with
 |nil=>simp
 |cons a r=>
  have b:HT.eE (a::r).length 0 (some 1)=1:=by
   unfold HT.eE;simp
  rw[b];simp
theorem CB{α:Type}{l m:List α}{i:Nat}(h:l.length<=i)(h':m.length<=1):(l++m).length<=i+1:=by rw[List.length_append];lia
theorem LY{x:Int}(h:row.length<=12):bR (row.map V.int++[x].map V.int) none (some 12)=(if row.length<12 then row++[x] else row).map V.int:=by
 rw[QZ,<-List.map_append,<-List.map_take];split
 ·rw[List.take_of_length_le (by simp;lia)]
 ·rw[List.take_append_of_le_length (),List.take_of_length_le h]
abbrev j3:Stmt:=top 56
def CC(K:W.Frag):Sp:=λvs H Q _=>Ih K vs H Q
theorem wQ(D:dj K mg "_law_worked" "_law_worked" j3 ["_law_machine_here","_law_state","_law_way","_law_said"])(T:Tx K mg C CN CR F FD)(k9:Def P w K mg base "_law_worth" 1 ["_law_value_here","_law_state","_law_way","_law_said","_law_modulus"] CA):Def P w K mg base "_law_worked" 2 ["_law_machine_here","_law_state","_law_way","_law_said"] (CC K):=by
 have sc:aD ["_law_machine_here","_law_state","_law_way","_law_said","_law_numbers","_law_row","_law_sent","_law_words","_law_left","_law_deed_here","_law_worths"] ["_law_machine_here","_law_state","_law_way","_law_said"] (az j3):=by walk_at "s"
 symm;obtain⟨mt,g,lr,ld,st,k,a,M,xs,U,ns,row,rfl,Wq,Wd,ud,oO,D9,pI,hb,oh,Nm,aU,q⟩:=h;have g:=hr.units;refine⟨_,(ai (aW (i:=4) sc.nd rfl Sort (da bO rfl T.dI vK (ag (ak g (au 1) aj) aa)))
  (ai (aW (i:=5) sc.nd rfl Sort (da bO rfl T.dI vK (ag (ak g (au 1) aj) aa)))
  (ai (aW (i:=6) sc.nd rfl Sort (bM aa))
  (ai (aW (i:=7) sc.nd rfl Sort (bM aa))
  (ai (aW (i:=8) sc.nd rfl Sort aj)
  (ai (eZ PassesOwn.never rfl (cA (ak g (au 0) aj)) (aX (i:=9) sc.nd rfl Sort)
  (ai (gF (i:=10) sc.nd rfl Sort (N':=["_law_one","_law_way","_law_said","_law_numbers","_law_row","_law_machine_here"]) (ix:=[none,some 2,some 3,some 4,some 5,some 0]) (cA (pv 9)) (λ_ _ _ _=>(aX (i:=0) (show(["_law_one","_law_way","_law_said","_law_numbers","_law_row","_law_machine_here"]:List Str).Nodup by decide +kernel) rfl Sort)) (λ_ _ _ _=>(jR (bN (bo (pf (K:=K) rfl) rfl T.bc xq (ag (au 0) (ag (dF (v:=.ty "tuple") rfl T.cE uB rfl) aa)))))) (λ_ _ _ _=>(aL k9 hr (ag (au 0) (ag (bb (ag (au 3) (ag (au 4) aa))) (ag (au 1) (ag (au 2) (ag (dG (K:=K) rfl g (au 5) aj) aa))))))))
  (ao (aR (aC o9 (au 8) aj (aH _)) (ao (aW (i:=8) sc.nd rfl Sort (aT fP (au 8) aj))) (ao (aR (aC (aY g) (ak g (au 9) aj) aE (aH _)) (ao (eQ (ak g (au 10) aj) (iW (au 4) (ak g (au 9) aj) eA))) (ao (aR (aC (aY g) (ak g (au 9) aj) aE (aH _)) (ao (eQ (aT cR (aT ck (ak g (au 4) (ak g (au 9) aj)) (ak g (au 10) aj)) (ak g (au 0) aj)) (iW (au 4) (ak g (au 9) aj) eA))) (ao (aR (aC (aY g) (ak g (au 9) aj) aE (aH _)) (ao (eQ (aT cR (aT lU (ak g (au 4) (ak g (au 9) aj)) (ak g (au 10) aj)) (ak g (au 0) aj)) (iW (au 4) (ak g (au 9) aj) eA))) (ao (aR (aC (aY g) (ak g (au 9) aj) aE (aH _)) (ao (aW (i:=5) sc.nd rfl Sort (gN (aT ck (au 5) (au 10)) fe (eL aj)))) (ao (aR (aC (aY g) (ak g (au 9) aj) aE (aH _)) (ao (aW (i:=5) sc.nd rfl Sort (gN (au 5) (eL aj) fe))) (ao (aR (aC (aY g) (ak g (au 9) aj) aE (aH _)) (ao (bS (dE nz qH qI bZ (au 6) (ag (bb (ag (ak g (au 9) aj) (ag (ak g (au 10) aj) aa))) aa)))) (ao (aR (aC (aY g) (ak g (au 9) aj) aE (aH _)) (ao (bS (dE nz qH qI bZ (au 7) (ag (ak g (au 10) aj) aa)))) (ao (aR (aC gk (ak g (au 10) aj) (ak g (au 10) aj) (aH _)) (ao (aW (i:=8) sc.nd rfl Sort (ak g (au 9) aj))) aJ))))))))))))))))))))
  (ao (aK (bb (ag (bb (ag (da cH rfl T.cE uB (ag (au 4) aa)) (ag (da cH rfl T.cE uB (ag (au 5) aa)) aa))) (ag (au 6) (ag (au 7) aa)))))))))))),?_⟩
 obtain⟨sa,sb,We,rfl,Wf,g,T⟩:=oO;have J7:0<M:=by lia
 left;calc cN Wf rfl ?_;left;calc bI _ g (λB QP=>?_);have s1:=aq.new (.lst (ns.map V.int)) QP;left;calc cN (s1 _ _ Wf) rfl ?_;left;have g:aS K (upd H B (.lst (ns.map V.int))) We (row.map V.int)\/bH K (upd H B (.lst (ns.map V.int))) We (row.map V.int):=T.elim (λz=>.inl (s1.seq z)) (λz=>.inr (s1.Si z));calc bI _ g (λN Ej=>?_);have s2:=aq.new (.lst (row.map V.int)) Ej;left;calc⟨aaa _,λG pN=>?_⟩;have m:=aq.new (.lst []) pN;left;calc⟨aaa _,λI mJ=>?_⟩;have s4:=aq.new (.lst []) mJ;left;have nra:N≠B:=λz=>by subst z;rw[af]at Ej;cases Ej
 have hrH:H N=none:=s1.free Ej;have hsH:H G=none:=(s1.trans s2).free pN;have hwH:H I=none:=(s1.trans (s2.trans m)).free mJ;have nsa:G≠B:=λz=>by subst z;rw[s2 _ _ af]at pN;cases pN
 have nsr:G≠N:=λz=>by subst z;rw[af]at pN;cases pN
 have nwa:I≠B:=λz=>by subst z;rw[m _ _ (s2 _ _ af)]at mJ;cases mJ
 have nwr:I≠N:=λz=>by subst z;rw[m _ _ af]at mJ;cases mJ
 have nws:I≠G:=λz=>by subst z;rw[af]at mJ;cases mJ
 have g:=s1.trans (s2.trans (m.trans s4));have exs:xs.length=U.length:=by simpa using ud.1
 refine cN (g _ _ Wq) (aA (j:=3) rfl) (.inl ⟨⟨_,aS.of (g _ _ Wd)⟩,jy (K:=K) (xs:=xs) (LX H mt (.ref sa) k a M U ns row) ?_ ?_ ?_ ?_⟩)
 ·refine⟨B,N,G,I,[],none,none,0,⟨ns,row,[],[]⟩,rfl,g,QP,hrH,hsH,hwH,Ne.symm nra,Ne.symm nsa,Ne.symm nwa,Ne.symm nsr,Ne.symm nwr,Ne.symm nws,s4 _ _ (m _ _ (s2 _ _ af)),s4 _ _ (m _ _ af),s4 _ _ af,⟨rfl,λi z p e=>by simp at e⟩,af,rfl,hb,oh,K' _,K' _,Ig⟩
 ·intro i σ H1 hi iY;obtain⟨B,N,G,I,zs,z9,QO,l,s,rfl,sH,_⟩:=iY;exact aS.of (sH _ _ Wd)
 ·intro i x σ H1 hxi iZ;nofun;obtain⟨B,N,G,I,zs,z9,QO,l,s,rfl,sH,a1,a2,a3,a4,n1,n2,n3,n4,n5,n6,L,X,O,LS,R,J8,J4,zd,J9,Zi,Y⟩:=iZ;have ue:i < U.length:=by rw[<-exs];exact(List.getElem?_eq_some_iff.mp hxi).1
  have uh:=aU U[i] (W' ue);have hx:=(ud.2 i x (bu.dv U[i]) hxi (by rw[List.getElem?_map,cP ue];rfl)).aG sH.aM;have SA:U.drop i=U[i]::U.drop (i+1):=List.drop_eq_getElem_cons ue;generalize hdd:U[i]=d at uh hx SA;rw[SA]at Y;obtain⟨pa,xp,os,k0,rfl,Zj,tH,Q0,sC⟩:=Co hx;ac_rfl;left;calc bV ?_;left;calc .inr ⟨⟨_,bH.of Zj⟩,λD hD=>?_⟩;have oZ:=y7 (d:=d);refine bE (J:=Ua K pa) (n:=xp.length) (λi ys H'=>ys=(((os.take i).filterMap id).map (fT M k a s.ns s.row)).map V.int/\aq H1 H') (L' (aI ())) ⟨rfl,aq.new _ hD⟩ ?_ ?_ ?_ ?_
  ·rintro i ys H' hi ⟨_,m⟩;exact⟨_,xp[i],bH.of (m _ _ Zj),cP hi⟩
  ·rintro ys H' ⟨_,m⟩;exact⟨_,bH.of (m _ _ Zj),K' _⟩
  ·intro i ys S hi bC yT qB y H4 yK;nofun;obtain⟨rfl,m⟩:=qB;obtain⟨rfl,g⟩:=yK;have T:=g _ (bH.of (m _ _ Zj));obtain⟨o,ho,HQ⟩:=tH.get T;ac_rfl;have yY:os.take (i+1)=os.take i++[o]:=by
    rw[List.take_add_one,ho];rfl
   calc⟨Ext.set (Ext.refl _) rfl,?_⟩;left;rcases HQ with⟨rfl,hc⟩|⟨v,rfl,hvx⟩
   ·have ety:∃t,gL K H4 y t/\W.kitOne K t (.type "tuple")=some false:=by
     rcases hc with⟨w,rfl⟩|⟨j,rfl⟩
     ·exact⟨_,.str w,rfl⟩
     ·exact⟨_,.int j,rfl⟩
    obtain⟨t,h1,h2⟩:=ety;refine dz t false h1 h2 ?_
    first|calc⟨false,rfl,?_⟩|skip
    left
    try rw[if_neg Bool.false_ne_true]
    exact⟨_,bC,(),by rw[yY];simp,m⟩
   ·have HR:=hvx.aG m.aM;obtain⟨b,Ke,rfl,gQq⟩:=B2 HR;refine dz _ true (.tup gQq) rfl ?_
    first|calc⟨true,rfl,?_⟩|skip
    left
    try first|rw[if_pos rfl]|rw[if_pos trivial]
    have T:v.ok ns.length:=ou uh v (by rw[<-Q0];calc List.mem_filterMap.mpr ⟨some v,aap ho,rfl⟩);left;calc⟨bP,λtt t=>?_⟩;have g:=aq.new (.tup [.ref B,.ref N]) t;calc cN (g _ _ (m _ _ (sH _ _ Wq))) (aA (j:=0) rfl) ?_;calc⟨.ref b,tt,B,N,k,a,M,v,s.ns,s.row,k0,rfl,HR.aG g.aM,af,g _ _ (m _ _ L),g _ _ (m _ _ X),by rw[J8];calc T,J7,zd,λH5 t=>?_⟩;calc cy (t _ _ (g _ _ bC)) yT hi (L' (aI ())) ⟨?_,λc o e=>by rw[ay (av e hD)];calc t _ _ (g _ _ (m _ _ e))⟩;rw[yY,List.filterMap_append,List.map_append,List.map_append];rfl
  rintro ys S bC yT ⟨rfl,m⟩;rw[tH.len,List.take_length,Q0]at bC;have EZ:H1 D=none:=hD;nofun;generalize g:d.vals.map (fT M k a s.ns s.row)=ws at bC;have jP:ws.length=d.vals.length:=by rw[<-g];simp
  have QS:0<=ws.getD 0 0/\ws.getD 0 0<M:=by rw[<-g];exact vi J7
  have Cy:fU M k a d s=⟨jG M s.ns (ws.getD 0 0) d,nW s.row (ws.getD 0 0) d,s.cQ++ib (ws.getD 0 0) d,s.words++gm (ws.getD 0 0) d⟩:=by rw[<-g];rfl
  have Cz:mn M k a d s=nX (ws.getD 0 0) (ws.getD 1 0) d:=by rw[<-g];rfl
  have g:∀{b:Addr} {o:HO},H1 b=some o->b≠D:=λe=>av e EZ;have oS:aq H S:=sH.trans m;have Kf:=hx.aG m.aM;have wR:=LS.aG m.aM;have t:B≠D:=g L;have t:N≠D:=g X;have t:G≠D:=g O;have t:I≠D:=g R;have nPs:∀{b:Addr} {ys zs:List V},S b=some (.tup ys)->∀{c:Addr},S c=some (.lst zs)->b≠c:=λh1 _ h2 z=>by subst z;rw[h1]at h2;cases h2
  have ab6:=oS _ _ Wq
  replace L:=m _ _ L
  replace X:=m _ _ X
  replace O:=m _ _ O
  replace R:=m _ _ R
  ac_rfl;clear tH Q0 sC oZ yT hx
  cases l with
  |succ l=>
   left;rw[if_pos nofun];left;calc⟨B,N,G,I,zs,some (.ref pa),some (.ref D),l,s,?_,oS,a1,a2,a3,a4,n1,n2,n3,n4,n5,n6,L,X,O,wR,R,J8,J4,zd,(),(),Y⟩;have:((l+1:Nat):Int)-1=((l:Nat):Int):=by lia
   rw[this]
  |zero=>
  replace Y:Nw M k a (mn M k a d s).toNat (U.drop (i+1)) (fU M k a d s)=nY M k a U ns row:=Y
  rw[Cy,Cz]at Y;left
  try rw[if_neg nofun]
  have g:((ns.length:Nat):Int)=s.ns.length:=by rw[J8]
  have Z:∀H6 Nx Ke n' r' Y6 w' (k':Nat),su M s.ns s.row (ws.getD 0 0) (ws.getD 1 0) d=(n',r',Y6,w',((k':Nat):Int))->aq H H6->H Nx=none->B≠Nx->Nx≠G->Nx≠I->H6 B=some (.lst (n'.map V.int))->H6 Nx=some (.lst (r'.map V.int))->H6 G=some (.lst Ke)->SL H6 Ke (s.cQ++Y6)->H6 I=some (.lst ((s.words++w').map V.int))->LX H mt (.ref sa) k a M U ns row (i+1) [some (.ref mt),some (.ref sa),some (.int k),some (.int a),some (.ref B),some (.ref Nx),some (.ref G),some (.ref I),some (.int ((k':Nat):Int)),some (.ref pa),some (.ref D)] H6:=by
   clear bC Kf wR L X O R ab6 nPs;intro H6 Nx Ke n' r' Y6 w' k' E f0 f1 f2 f3 f4 f5 f6 f7 f8 f9;simp only[su,Prod.mk.injEq]at E;obtain⟨rfl,rfl,rfl,rfl,E⟩:=E;rw[E,Int.toNat_natCast]at Y;have g:=za (w:=ws.getD 0 0) (d:=d);exact⟨B,Nx,G,I,Ke,_,_,k',⟨_,_,_,_⟩,rfl,f0,a1,f1,a3,a4,f2,n2,n3,f3,f4,n6,f5,f6,f7,f8,f9,pq.trans J8,Cw (d:=d) J7 J4 QS,HY (d:=d) zd,CB J9 g.1,CB Zi g.2,Y⟩
  have AV:∀r x,su M s.ns s.row (ws.getD 0 0) (ws.getD 1 0) d=(s.ns.set r x,s.row,[],[],0)->LX H mt (.ref sa) k a M U ns row (i+1) [some (.ref mt),some (.ref sa),some (.int k),some (.int a),some (.ref B),some (.ref N),some (.ref G),some (.ref I),some (.int 0),some (.ref pa),some (.ref D)] (upd S B (.lst ((s.ns.map V.int).set r (.int x)))):=λr x E=>by
   have t6:cq S (upd S B (.lst ((s.ns.map V.int).set r (.int x)))):=(cq.refl _).upd λys e=>by rw[L]at e;cases e
   exact Z _ N zs _ _ _ _ 0 E (λb o e=>by rw[ay (av e a1)];calc oS _ _ e) a2 n1 n4 n5 (by rw[af,List.map_set]) (by rw[ay (Ne.symm n1)];calc X) (by rw[ay (Ne.symm n2)];calc O) (by rw[List.append_nil];calc wR.aG t6) (by rw[ay (Ne.symm n3),List.append_nil];calc R)
  have MT:=vh Kf uh;clear Kf uh Y Cy Cz;have Nt:∀r:Nat,((r:Nat):Int)<ns.length->zY (s.ns.map V.int).length ((r:Nat):Int)=some r/\iQ (s.ns.map V.int) ((r:Nat):Int)=some (.int (s.ns.getD r 0)):=λr hj=>⟨oq (by rw[List.length_map];lia),ik ()⟩
  cases MT with
  |set r u hj ha hl E=>
   have Cs:=ik (ws:=ws) (j:=0) ();obtain⟨x1,x2⟩:=Nt r hj;walk_at "jg";refine dz _ r L x1 ?_;exact AV _ _ (E _ _ _ _ _)
  |add r u hj ha hl E=>
   have Cs:=ik (ws:=ws) (j:=0) ();obtain⟨x1,x2⟩:=Nt r hj;walk_at "jg";refine⟨J7,?_⟩;walk_at "jg";refine dz _ r L x1 ?_;exact AV _ _ (E _ _ _ _ _)
  |times r u hj ha hl E=>
   have Cs:=ik (ws:=ws) (j:=0) ();obtain⟨x1,x2⟩:=Nt r hj;walk_at "jg";have g:=Cq J4 (j:=r) ();refine⟨.inl ⟨(),()⟩,?_⟩;walk_at "jg";refine⟨J7,?_⟩;walk_at "jg";refine dz _ r L x1 ?_;exact AV _ _ (E _ _ _ _ _)
  |put u ha hl E=>
   obtain⟨g,ab7⟩:=abF (jP.trans hl);walk_at "jg";refine .inl ⟨_,_,X,bC,L' (aI (by simp;lia)),λg v8=>?_⟩;have s6:=aq.new (.lst (s.row.map V.int++ws.map V.int)) v8;walk_at "jg";refine .inl ⟨_,af,λl3 Kg=>?_⟩;have s7:=aq.new (.lst (bR (s.row.map V.int++ws.map V.int) none (some 12))) Kg;have g:=s6.trans s7;have f3:S l3=none:=s6.free Kg;exact Z _ l3 zs _ _ _ _ 0 (E _ _ _ _ _) (oS.trans g) (oS.free f3) (av L f3) (Ne.symm (av O f3)) (Ne.symm (av R f3)) (g _ _ L) (by rw[af,ab7];exact congrArg (λz=>some (HO.lst z)) (LY zd)) (g _ _ O) (by rw[List.append_nil];exact wR.aG g.aM) (by rw[List.append_nil];exact g _ _ R)
  |drop ha E=>
   walk_at "jg";refine .inl ⟨_,X,λl3 Kg=>?_⟩;have s7:=aq.new (.lst (bR (s.row.map V.int) (some 1) none)) Kg;exact Z _ l3 zs _ _ _ _ 0 (E _ _ _ _ _) (oS.trans s7) (oS.free Kg) (av L Kg) (Ne.symm (av O Kg)) (Ne.symm (av R Kg)) (s7 _ _ L) (by rw[af,Wr,List.map_tail]) (s7 _ _ O) (by rw[List.append_nil];exact wR.aG s7.aM) (by rw[List.append_nil];exact s7 _ _ R)
  |send j u ha hl E=>
   have Cs:=ik (ws:=ws) (j:=0) ();walk_at "jg";refine⟨.inl ⟨rfl,_,aS.of O⟩,?_⟩;walk_at "jg";refine⟨bP,λtp EK=>?_⟩;have s6:=aq.new (.tup [.int j,.int (ws.getD 0 0)]) EK;walk_at "jg";refine hJ _ (s6 _ _ O) (aaX (by have:=LS.1;lia) (aI (n:=100) ())) ?_;have t6:cq (upd S tp (.tup [.int j,.int (ws.getD 0 0)])) (upd (upd S tp (.tup [.int j,.int (ws.getD 0 0)])) G (.lst (zs++[.ref tp]))):=(cq.refl _).upd λys e=>by rw[s6 _ _ O]at e;cases e
   have q6:∀b o,b≠G->S b=some o->upd (upd S tp (.tup [.int j,.int (ws.getD 0 0)])) G (.lst (zs++[.ref tp])) b=some o:=λb o ne e=>by rw[ay ne];exact s6 _ _ e
   calc Z _ N _ _ _ _ _ 0 (E _ _ _ _ _) (λb o e=>q6 b o (av e a3) (oS _ _ e)) a2 n1 n4 n5 (q6 _ _ n2 L) (q6 _ _ n4 X) af ((wR.aG (s6.aM.trans t6)).snoc (cJ (n:=0) (t6 _ _ af) (.int _) (.int _))) (by rw[List.append_nil];calc q6 _ _ (Ne.symm n6) R)
  |say u ha hl E=>
   have Cs:=ik (ws:=ws) (j:=0) ();walk_at "jg";refine⟨.inl ⟨rfl,_,aS.of R⟩,?_⟩;walk_at "jg";refine hJ _ R (aaX (by simp;lia) (aI (n:=100) ())) ?_;have t6:cq S (upd S I (.lst (s.words.map V.int++[.int (ws.getD 0 0)]))):=(cq.refl _).upd λys e=>by rw[R]at e;cases e
   have q6:∀b o,b≠I->S b=some o->upd S I (.lst (s.words.map V.int++[.int (ws.getD 0 0)])) b=some o:=λb o ne e=>by rw[ay ne];exact e
   calc Z _ N zs _ _ _ _ 0 (E _ _ _ _ _) (λb o e=>q6 b o (av e a4) (oS _ _ e)) a2 n1 n4 n5 (q6 _ _ n3 L) (q6 _ _ n5 X) (q6 _ _ n6 O) (by rw[List.append_nil];calc wR.aG t6) (by rw[af,List.map_append];rfl)
  |skip u v kk ha hl E=>
   have Cs:=ik (ws:=ws) (j:=0) ();have g:=ik (ws:=ws) (j:=1) ();have E:=E M s.ns s.row (ws.getD 0 0) (ws.getD 1 0);walk_at "jg";by_cases L3:ws.getD 0 0<ws.getD 1 0
   ·rw[if_pos L3]at E;left;rw[if_pos (decide_eq_true L3)];walk_at "jg";exact Z _ N zs _ _ _ _ kk E oS a2 n1 n4 n5 L X O (by rw[List.append_nil];exact wR) (by rw[List.append_nil];exact R)
   ·rw[if_neg L3]at E;left;rw[if_neg λz=>L3 (of_decide_eq_true z)];walk_at "jg";exact Z _ N zs _ _ _ _ 0 E oS a2 n1 n4 n5 L X O (by rw[List.append_nil];exact wR) (by rw[List.append_nil];exact R)
 ·intro σ H1 yL;obtain⟨B,N,G,I,zs,z9,QO,l,s,rfl,sH,a1,a2,a3,a4,n1,n2,n3,n4,n5,n6,L,X,O,LS,R,J8,J4,zd,J9,Zi,Y⟩:=yL;rw[exs,List.drop_length] at Y;have Y:s=nY M k a U ns row:=by rw[<-Y];cases l <;> rfl
  left;calc .inl ⟨_,aS.of L,λa g=>?_⟩;have i:=aq.new (.tup (s.ns.map V.int)) g;left;calc .inl ⟨_,aS.of (i _ _ X),λk l=>?_⟩;have j:=aq.new (.tup (s.row.map V.int)) l;left;calc⟨bP,λm o=>?_⟩;have g:=aq.new (.tup [.ref a,.ref k]) o;left;calc⟨by show 3<=sizeLine;decide,λr l=>?_⟩;have k:=aq.new (.tup [.ref m,.ref G,.ref I]) l;have a:=i.trans (j.trans (g.trans k));refine q _ _ (sH.trans a) ⟨_,_,G,I,zs,rfl,af,?_,a _ _ O,?_,?_,a3,a4,n6⟩
  ·rw[<-Y];exact(cJ af (nV (g _ _ (j _ _ af))) (nV (g _ _ af))).aG k.aM
  ·rw[<-Y];exact LS.aG a.aM
  ·rw[<-Y];calc a _ _ R
def kr(n:Nat->Nat)(ad:Nat->Nat->Addr)(t:Nat):List V:=(List.range (n t)).map λi=>V.ref (ad t i)
theorem sD{n:Nat->Nat}{t:Nat}:(kr n ad t).length=n t:=by simp[kr]
theorem aZ{n:Nat->Nat}{t i:Nat}(h:i<n t):iQ (kr n ad t) (i:Int)=some (.ref (ad t i)):=aA (by simp[kr,h])
def E3(bD:V)(p:Addr)(o:Nat->Addr):List (Str×V):=[("own_net",bD),("picks_done",.ref p),("states_had",.ref (o 1)),("words_had",.ref (o 2)),("words_said",.ref (o 3)),("letters_say",.ref (o 4)),("senders",.ref (o 5)),("workers",.ref (o 6))]
section
variable {bD:V}{p:Addr}{o:Nat->Addr}
theorem sF:(E3 bD p o).lookup ("own_net":Str)=some bD:=by kernel_rfl
theorem Ws:(E3 bD p o).lookup ("picks_done":Str)=some (.ref p):=by kernel_rfl
theorem L4:(E3 bD p o).lookup ("states_had":Str)=some (.ref (o 1)):=by kernel_rfl
theorem ab8:(E3 bD p o).lookup ("words_had":Str)=some (.ref (o 2)):=by kernel_rfl
theorem Q1:(E3 bD p o).lookup ("words_said":Str)=some (.ref (o 3)):=by kernel_rfl
theorem Ek:(E3 bD p o).lookup ("letters_say":Str)=some (.ref (o 4)):=by kernel_rfl
theorem ab9:(E3 bD p o).lookup ("senders":Str)=some (.ref (o 5)):=by kernel_rfl
theorem Ii:(E3 bD p o).lookup ("workers":Str)=some (.ref (o 6)):=by kernel_rfl
end
structure sI(C CN:Addr)(H:Hp)(bD:Addr)(nt:NT):Prop where
 ex:∃ms wv lv,k8 CN H bD ms wv lv/\ms.length=nt.ms.length/\(∀(i:Nat) m d,ms[i]?=some m->nt.ms[i]?=some d->Sx C H m d)/\eW H 1 wv (nt.ws.map kR)
 ok:nt.Ok
theorem Sx.fr{C:Addr}{d:MD}(f:Fr Z H H')(h:Sx C H m d):Sx C H' m d:=by
 obtain⟨a,st,dd,b,c,e⟩:=h;calc⟨a,st,dd,f.kJ b id,c.aG f.aM,e.aG f.aM⟩
theorem k8.fr{CN:Addr}{x:Addr}{d:List Addr}(f:Fr Z H H')(h:k8 CN H x d wv lv):k8 CN H' x d wv lv:=by
 obtain⟨d,a,b,c,e,g,i,j⟩:=h;calc⟨d,a,b,c,f.kJ e id,f.kJ g id,f.kJ i id,f.kJ j id⟩
theorem sI.fr{C CN:Addr}{nt:NT}(f:Fr Z H H')(h:sI C CN H bD nt):sI C CN H' bD nt:=by
 obtain⟨⟨c,wv,lv,e,g,j,k⟩,l⟩:=h;calc⟨⟨c,wv,lv,e.fr f,g,λi m d a b=>(j i m d a b).fr f,k.aG f.aM⟩,l⟩
structure bY(C CN CR:Addr)(F:Addr->Prop)(H:Hp)(x bD:Addr)(nt:NT)(r:RS)(ad:Nat->Nat->Addr):Prop where
 ins:∃dx o,H x=some (.ins CR dx (E3 (.ref bD) (ad 0 0) o))/\∀t,1<=t->t<=6->H (o t)=some (.lst (kr nt.n ad t))/\¬F (o t)/\¬FP nt.n ad (o t)
 cu:eu F H nt.n ad r.ct
 Wt:sI C CN H bD nt
section
variable {C CN CR:Addr}{F:Addr->Prop}{H H':Hp}{x bD:Addr}{nt:NT}{r:RS}{ad:Nat->Nat->Addr}
theorem bY.keep(h:bY C CN CR F H x bD nt r ad)(f:Fr F H H'):bY C CN CR F H' x bD nt r ad:=by
 obtain⟨⟨d,o,e,c⟩,g,i⟩:=h;calc⟨⟨d,o,f.kJ e id,λt a b=>⟨f.at (c t a b).1 (c t a b).2.1,(c t a b).2⟩⟩,g.keep f,i.fr f⟩
theorem bY.same(h:bY C CN CR F H x bD nt r ad)(s:aq H H'):bY C CN CR F H' x bD nt r ad:=h.keep s.fr
theorem bY.own{c:RS}(h:bY C CN CR F H x bD nt r ad)(f:Fr (FP nt.n ad) H H')(b:eu F H' nt.n ad c.ct):bY C CN CR F H' x bD nt c ad:=by
 obtain⟨⟨d,o,e,c⟩,i,g⟩:=h;calc⟨⟨d,o,f.kJ e id,λt a b=>⟨f.at (c t a b).1 (c t a b).2.2,(c t a b).2⟩⟩,b,g.fr f⟩
end
abbrev jb:Stmt:=(bX (top 46)).getD 6 (.Pass ⟨0,0,0,0⟩)
def sJ(nt:NT)(e j:Nat):Int:=if e=0 then(nt.w j).1 else(nt.w j).2.1
def uj(nt:NT)(e m:Nat):List Nat:=(List.range nt.ws.length).filter λj=>decide (sJ nt e j=m)
def AY(C CN:Addr):Sp:=λvs H Q _=>∃(x:Addr) (nt:NT) (m e:Nat),vs=[.ref x,.int m,.int e]/\sI C CN H x nt/\m<nt.ms.length/\e<2/\∀l H',aq H H'->H l=none->H' l=some (.lst ((uj nt e m).map λi=>.int (i:Nat)))->Q (.ref l) H'
theorem uk(D:gO K CN "ways_at" "Net.ways_at" jb ["self","m","end"])(T:Tx K mg C CN CR F FD)(S:Def P w K mg base "is_within" 2 ["thing","low","beyond"] cn):eP P w K mg base CN "ways_at" 3 ["self","m","end"] (AY C CN):=by
 have sc:aD ["self","m","end"] ["self","m","end"] (az jb):=by walk_at "s"
 symm;obtain⟨x,d,m,e,rfl,B,I,L,q⟩:=h;have L:=hr.units;refine⟨_,(ai (aR (cG (bN (aL S hr (ag (au 1) (ag aj (ag (bo aQ rfl T.b8 T' (ag (bL (au 0) rfl) aa)) aa)))))) (ao e9) aJ)
  (ao (aK (dQ (N':=["number","way","m","end"]) (ix:=[none,none,some 1,some 2]) (gX rfl T.cW (ag (bL (au 0) rfl) aa)) (λ_ _ _ _=>(lV (K:=K) rfl (i:=0) (j:=1) rfl (show(["number","way","m","end"]:List Str).Nodup by decide +kernel) rfl rfl Sort Sort)) (λ_ _ _ _=>(jR (aC (oa (K:=K) rfl L) (dG (K:=K) rfl L (au 1) (au 3)) (au 2) (aH _)))) (λ_ _ _ _=>(au 0)))))),?_⟩
 nofun;obtain⟨⟨S,wv,lv,U,W,L,M⟩,X⟩:=id B;obtain⟨Y,a,b,cc,L,Z,l,h4⟩:=id U;ac_rfl;left;calc⟨x,CN,Y,_,_,rfl,L,T.de,T.yF,Wk,_,.inr ⟨_,bH.of Z,rfl⟩,?_⟩;calc fW (.int m) _ 0 _ rfl (.int _) ?_;rw[show inR 0 (((S.map V.ref).length:Nat):Int) (.int (m:Int))=true by simp[inR,W,I]];calc iN ?_;rw[if_neg ∅];left;calc bV ?_;left;calc fG L T.de T.yG Wl ?_;left;calc DQ false wv (Sq.t l) (λD r=>?_);have jP:wv.length=d.ws.length:=by simpa using M.1
 have x:=X.AE;refine bE (J:=M4 false K b) (n:=wv.length) (λi ys H'=>aq H H'/\ys=((List.range i).filter λj=>decide (sJ d e j=m)).map λj=>V.int (j:Nat)) (L' (aI ())) ⟨aq.new _ r,rfl⟩ ?_ ?_ ?_ ?_
 ·rintro i ys H' u ⟨g,_⟩;exact⟨wv,wv[i],Sq.t (g _ _ l),cP u⟩
 ·rintro ys H' ⟨g,_⟩;exact⟨wv,Sq.t (g _ _ l),rfl⟩
 ·intro i ys H' u p N iY xx H4 iZ;nofun;obtain⟨g,rfl⟩:=iY;obtain⟨t,ht,rfl,y⟩:=iZ;obtain⟨k,ex,rfl⟩:=y wv (Sq.t (g _ _ l));have x:i < d.ws.length:=by lia
  have o:=(M.2 i k (kR (d.w i)) ex (by rw[List.getElem?_map,show d.ws[i]?=some (d.w i) from bq x];rfl)).aG g.aM;have v:=aq.new (.tup [.int (i:Nat),k]) ht
  replace o:=o.aG v.aM
  have oQ:upd H' t (.tup [.int (i:Nat),k]) t=some (.tup [.int (i:Nat),k]):=af;have O:=v _ _ p;have R:=g.trans v;generalize hG:upd H' t (.tup [.int (i:Nat),k])=G at *;obtain⟨ta,u1,u2,u3,kk,rfl,vk,g1,g2,g3⟩:=bW o;obtain rfl:=g1.cw;obtain rfl:=g2.cw;obtain rfl:=g3.cS;ac_rfl;calc yC (bH.of oQ) ⟨Ext.set (Ext.set (Ext.refl _) rfl) rfl,?_⟩;left;have Wu:iQ [V.int (d.w i).1,V.int (d.w i).2.1,V.str (d.w i).2.2] (e:Int)=some (.int (sJ d e i)):=by
   have:e=0\/e=1:=by lia
   rcases this with rfl|rfl
   ·exact aA (j:=0) rfl
   ·exact aA (j:=1) rfl
  calc cN vk Wu ?_;left;have k:(List.range (i+1)).filter (λj=>decide (sJ d e j=m))=(List.range i).filter (λj=>decide (sJ d e j=m))++(if sJ d e i=m then[i] else[]):=by
   rw[List.range_succ,List.filter_append];congr 1;by_cases z:sJ d e i=m<;>simp[z]
  by_cases z:sJ d e i=m
  ·rw[if_pos (by simp[z])];calc cy O N u (L' (aI ())) ⟨λc o e=>by rw[ay (av e r)];calc R _ _ e,?_⟩;rw[k,if_pos z,List.map_append];rfl
  ·rw[if_neg (by simp[z])];exact⟨_,O,(),R,by rw[k,if_neg z,List.append_nil]⟩
 ·rintro ys H' p N ⟨g,rfl⟩;rw[jP]at p;calc q _ _ g r p
abbrev ip:Stmt:=(bX (top 46)).getD 4 (.Pass ⟨0,0,0,0⟩)
def qo(C CN:Addr):Sp:=λvs H Q _=>∃(x:Addr) (nt:NT) (m:Nat),vs=[.ref x,.int m]/\sI C CN H x nt/\m<nt.ms.length/\∀l H',aq H H'->H l=none->H' l=some (.lst ((uj nt 0 m).map λi=>.int (i:Nat)))->Q (.ref l) H'
theorem sL(D:gO K CN "ways_out" "Net.ways_out" ip ["self","m"])(T:Tx K mg C CN CR F FD)(g:eP P w K mg base CN "ways_at" 3 ["self","m","end"] (AY C CN)):eP P w K mg base CN "ways_out" 4 ["self","m"] (qo C CN):=by
 have sc:aD ["self","m"] ["self","m"] (az ip):=by walk_at "s"
 symm;obtain⟨x,d,m,rfl,c,e,q⟩:=h;have i:=hr.units;calc⟨_,(ao (aK (ko g T.de hr (au 0) (ag (au 1) (ag aj aa))))),?_⟩;nofun;obtain⟨⟨j,wv,lv,i,k,l,n⟩,o⟩:=id c;obtain⟨j,a,b,k,g,l,n,o⟩:=id i;ac_rfl;left;calc gI g (eO ⋯ ⋯ ⋯) ?_;calc⟨x,d,m,0,rfl,c,e,∅,q⟩
abbrev jc:Stmt:=(bX (top 46)).getD 5 (.Pass ⟨0,0,0,0⟩)
def sM(C CN:Addr):Sp:=λvs H Q _=>∃(x:Addr) (nt:NT) (m:Nat),vs=[.ref x,.int m]/\sI C CN H x nt/\m<nt.ms.length/\∀l H',aq H H'->H l=none->H' l=some (.lst ((uj nt 1 m).map λi=>.int (i:Nat)))->Q (.ref l) H'
theorem uq(D:gO K CN "ways_in" "Net.ways_in" jc ["self","m"])(T:Tx K mg C CN CR F FD)(g:eP P w K mg base CN "ways_at" 3 ["self","m","end"] (AY C CN)):eP P w K mg base CN "ways_in" 4 ["self","m"] (sM C CN):=by
 have sc:aD ["self","m"] ["self","m"] (az jc):=by walk_at "s"
 symm;obtain⟨x,d,m,rfl,c,e,q⟩:=h;have i:=hr.units;calc⟨_,(ao (aK (ko g T.de hr (au 0) (ag (au 1) (ag aj aa))))),?_⟩;nofun;obtain⟨⟨j,wv,lv,i,k,l,n⟩,o⟩:=id c;obtain⟨j,a,b,k,g,l,n,o⟩:=id i;ac_rfl;left;calc gI g (eO ⋯ ⋯ ⋯) ?_;calc⟨x,d,m,1,rfl,c,e,∅,q⟩
def FS(F:Addr->Prop)(H:Hp):Prop:=∀b,F b->∃o,H b=some o/\soft o
theorem FS.fr{F:Addr->Prop}(h:FS F H)(f:Fr Z H H')(c:∀b,F b->¬Z b):FS F H':=λb a=>by
 obtain⟨o,e,s⟩:=h b a;calc⟨o,f.at e (c b a),s⟩
theorem _root_.DD.eu.ur{F:Addr->Prop}{n:Nat->Nat}{ct:Nat->Nat->CO}(h:eu F H n ad ct):∀b,F b->¬FP n ad b:=λb a ⟨t,i,c,e⟩=>h.out t i c (e▸a)
theorem small{n:Nat}(h:n<=20000):n<sizeLine:=by rw[sizeLine_eq];lia
theorem Q2{r:RS}{n:NT}{w:Nat}{x:Int}{s:Option (Int×Int)}:∀t i,i<n.n t->setC (setC (setC r.ct 4 w (.l ((r.ww w).say.map .int++[.int x]))) 5 w (.l ((r.ww w).snd.map tJ++[tJ s]))) 6 w (.l ((r.ww w).eB.map tJ++[.bx])) t i=(r.put w x s).ct t i:=by
 intro t i a;unfold setC
 match t,a with
 |0,_=>simp[RS.ct,RS.put]
 |1,_=>simp[RS.ct,RS.put]
 |2,_=>simp[RS.ct,RS.put]
 |3,_=>simp[RS.ct,RS.put]
 |4,_=>by_cases e:i=w<;>simp[RS.ct,RS.put,e]
 |5,_=>by_cases e:i=w<;>simp[RS.ct,RS.put,e]
 |6,_=>by_cases e:i=w<;>simp[RS.ct,RS.put,e,tJ]
 |(t+7),a=>calc absurd a (Nat.not_lt_zero i)
abbrev gv:Stmt:=(bX (top 14)).getD 1 (.Pass ⟨0,0,0,0⟩)
inductive CF(C CN CR:Addr)(vs:List V)(H:Hp)(Q:VK):Prop
 |mk (F:Addr->Prop) (x bD:Addr) (nt:NT) (r:RS) (ad:Nat->Nat->Addr) (wy:Nat) (said:Int) (sv:V) (s:Option (Int×Int)) (h0:vs=[.ref x,.int (wy:Nat),.int said,sv]) (h1:bY C CN CR F H x bD nt r ad) (h2:FS F H) (h3:wy<nt.ws.length) (h4:HT H 4 sv (tJ s)) (h5:r.tK nt 19999) (h6:∀H',Fr (FP nt.n ad) H H'->bY C CN CR F H' x bD nt (r.put wy said s) ad->Q .bx H'):CF C CN CR vs H Q
def sO(C CN CR:Addr):Sp:=λvs H Q _=>CF C CN CR vs H Q
theorem pO(D:gO K CR "put_letter" "Run.put_letter" gv ["self","way","said","sender"])(T:Tx K mg C CN CR F FD):eP P w K mg base CR "put_letter" 1 ["self","way","said","sender"] (sO C CN CR):=by
 have sc:aD ["self","way","said","sender"] ["self","way","said","sender"] (az gv):=by walk_at "s"
 symm;obtain⟨F,x,bD,g,r,ad,a,c,v,s,rfl,j,I,b,J,k,q⟩:=h;have o:=hr.units;refine⟨_,(ai (bS (dE nz qH qI bZ (ak o (bL (au 0) rfl) (au 1)) (ag (au 2) aa)))
  (ai (bS (dE nz qH qI bZ (ak o (bL (au 0) rfl) (au 1)) (ag (au 3) aa)))
  (ao (bS (dE nz qH qI bZ (ak o (bL (au 0) rfl) (au 1)) (ag fK aa)))))),?_⟩
 nofun;obtain⟨x,o,y,d⟩:=j.ins;have z:=j.cu;have o:=(d 4 ∅ ∅).1;have N:=(d 5 ∅ ∅).2.2;have O:=(d 6 ∅ ∅).2.2;have x:=k.bs a b;have x:=k.ls a b;have x:=k.lk a b;obtain⟨l,m,x⟩:=z.lst (t:=4) (i:=a) b rfl;ac_rfl;have k:l.length=(r.ww a).say.length:=by simpa using x.1
 left;calc fG y T.aV T.bJ Ek ?_;left;calc bF o (aZ b) ?_;calc⟨.inl ⟨rfl,_,aS.of m⟩,?_⟩;left;calc hJ l m (small ()) ?_;have B:=z.app (t:=4) (i:=a) b rfl m (dP.one (.int c));have e:Fr (FP g.n ad) H (upd H (ad 4 a) (.lst (l++[.int c]))):=Fr.refl.upd ⟨4,a,b,rfl⟩ m trivial;generalize S:upd H (ad 4 a) (.lst (l++[.int c]))=L at *;have o:=e.kJ y id;have c:=e.at (d 5 ∅ ∅).1 N;obtain⟨p,u,k⟩:=B.lst (t:=5) (i:=a) b rfl;have l:p.length=(r.ww a).snd.length:=by simpa using k.1
 have k:=I.fr e z.ur;left;calc fG o T.aV T.ft ab9 ?_;left;calc bF c (aZ b) ?_;calc⟨.inl ⟨rfl,_,aS.of u⟩,?_⟩;left;calc hJ p u (small ()) ?_;have M:=B.app (t:=5) (i:=a) b rfl u (dP.one (B.ht k (J.aG e.aM)));have G:Fr (FP g.n ad) H (upd L (ad 5 a) (.lst (p++[v]))):=e.upd ⟨5,a,b,rfl⟩ u trivial;generalize U:upd L (ad 5 a) (.lst (p++[v]))=R at *;have l:=G.kJ y id;have e:=G.at (d 6 ∅ ∅).1 O;obtain⟨k,c,m⟩:=M.lst (t:=6) (i:=a) b rfl;have d:k.length=(r.ww a).eB.length:=by simpa using m.1
 left;calc fG l T.aV T.dg Ii ?_;left;calc bF e (aZ b) ?_;calc⟨.inl ⟨rfl,_,aS.of c⟩,?_⟩;left;calc hJ k c (small ()) ?_;have m:=M.app (t:=6) (i:=a) b rfl c (dP.one (.bx));have d:Fr (FP g.n ad) H (upd R (ad 6 a) (.lst (k++[.bx]))):=G.upd ⟨6,a,b,rfl⟩ c trivial;calc q _ d (j.own d (m.congr Q2))
abbrev mR:Stmt:=(bX (top 6)).getD 0 (.Pass ⟨0,0,0,0⟩)
def lg(c:Nat->Addr):Sp:=λvs H Q _=>∃(a:Addr) (v:V) (d:Bool),vs=[.ref a,v]/\H a=some (XO a (c 4) none d)/\∀b,H b=none->Q .bx (upd (upd H a (XO a (c 4) (some b) d)) b (XD b [("at",v)]))
theorem AZ(D:Hc K mg "NoLetter" (c 4) B "NoLetter.__init__" mR ["self","at"])(T:Tx K mg C CN CR F FD)(b:tZ K mg B c):yk P w K mg base "NoLetter" (c 4) B 1 ["self","at"] (lg c):=by
 have sc:aD ["self","at"] ["self","at"] (az mR):=by walk_at "s"
 symm;obtain⟨a,v,d,rfl,e,q⟩:=h;have g:=hr.units;calc⟨_,(ao (Hd (au 0) (au 1) (ff rfl))),?_⟩;calc⟨a,c 4,B,d,rfl,e,b.cl 4 ∅,b.cU,λg i=>q g i⟩
abbrev mS:Stmt:=(bX (top 7)).getD 0 (.Pass ⟨0,0,0,0⟩)
def wV(c:Nat->Addr):Sp:=λvs H Q _=>∃(a:Addr) (v:V) (d:Bool),vs=[.ref a,v]/\H a=some (XO a (c 5) none d)/\∀b,H b=none->Q .bx (upd (upd H a (XO a (c 5) (some b) d)) b (XD b [("at",v)]))
theorem A0(D:Hc K mg "NotFirst" (c 5) B "NotFirst.__init__" mS ["self","at"])(T:Tx K mg C CN CR F FD)(b:tZ K mg B c):yk P w K mg base "NotFirst" (c 5) B 1 ["self","at"] (wV c):=by
 have sc:aD ["self","at"] ["self","at"] (az mS):=by walk_at "s"
 symm;obtain⟨a,v,d,rfl,e,q⟩:=h;have g:=hr.units;calc⟨_,(ao (Hd (au 0) (au 1) (ff rfl))),?_⟩;calc⟨a,c 5,B,d,rfl,e,b.cl 5 ∅,b.cV,λg i=>q g i⟩
theorem Ij{K:W.Frag}{mg:Str->Option Value}{B:Addr}{c:Nat->Addr}(l:tZ K mg B c){E:XK}{D:Ends}{σ:St}{H:Hp}{i:Nat}{h:V}(j:σ[i]?=some (some h))
  (q:∀a d H',aq H H'->H' a=some (XO a (c 5) (some d) false)->H' d=some (XD d [("at",h)])->E (.ref a) none H'):Aw K E (tXI (c 5) (wV c) E0 (rq (tV i) xQ)) D σ H:=by
 show tV i σ H _;unfold tV;rw[j];refine⟨by show 1<=10;decide,λa m=>⟨a,h,true,rfl,af,λd f=>⟨rfl,a,c 5,B,some d,rfl,?_,l.cl 5 ∅,?_⟩⟩⟩
 ·have k:a≠d:=λz=>by subst z;rw[af] at f;cases f
  rw[ay k,af]
 ·have k:d≠a:=λz=>by subst z;rw[af] at f;cases f
  refine q a d _ (λb o e=>?_) af ?_
  ·have g:b≠a:=av e m;have n:b≠d:=λz=>by subst z;rw[ay g,e] at f;cases f
   rw[ay g,ay n,ay g,ay g];exact e
  ·rw[ay k,af]
def Lies(nt:NT)(r:RS)(m k:Int):Prop:=∃w i:Nat,m=w/\k=i/\w<nt.ws.length/\(r.ww w).eB[i]?=some none
abbrev fu:Stmt:=(bX (top 14)).getD 2 (.Pass ⟨0,0,0,0⟩)
def Ik(C CN CR:Addr):Sp:=λvs H Q _=>∃(F:Addr->Prop) (x bD:Addr) (nt:NT) (r:RS) (ad:Nat->Nat->Addr) (m:Nat),vs=[.ref x,.int m]/\bY C CN CR F H x bD nt r ad/\m<nt.ms.length/\Q .bx H
theorem mT(D:gO K CR "need_machine" "Run.need_machine" fu ["self","m"])(T:Tx K mg C CN CR F FD)(d:Def P w K mg base "is_within" 2 ["thing","low","beyond"] cn):eP P w K mg base CR "need_machine" 3 ["self","m"] (Ik C CN CR):=by
 have sc:aD ["self","m"] ["self","m"] (az fu):=by walk_at "s"
 symm;obtain⟨F,x,bD,a,r,ad,m,rfl,b,c,q⟩:=h;have e:=hr.units;calc⟨_,(ao (aR (cG (bN (aL d hr (ag (au 1) (ag aj (ag (bo aQ rfl T.b8 T' (ag (bL (au 0) rfl) aa)) aa)))))) (ao e9) aJ)),?_⟩;obtain⟨e,o,g,i⟩:=b.ins;have d:=(i 1 ∅ ∅).1;left;calc⟨x,CR,e,_,_,rfl,g,T.aV,T.cf,L4,_,.inl ⟨_,aS.of d,rfl⟩,?_⟩;calc fW (.int m) _ 0 _ rfl (.int _) ?_;rw[sD];rw[show inR 0 ((a.n 1:Nat):Int) (.int (m:Int))=true by simp[inR];calc c];calc iN ?_;rw[if_neg ∅];left;calc q
abbrev iq:Stmt:=(bX (top 14)).getD 4 (.Pass ⟨0,0,0,0⟩)
theorem pP{K:W.Frag}{mg:Str->Option Value}{B:Addr}{c:Nat->Addr}(l:tZ K mg B c){E:XK}{D:Ends}{σ:St}{H:Hp}{i:Nat}{h:V}(j:σ[i]?=some (some h))
  (q:∀a d H',aq H H'->H' a=some (XO a (c 4) (some d) false)->H' d=some (XD d [("at",h)])->E (.ref a) none H'):Aw K E (tXI (c 4) (lg c) E0 (rq (tV i) xQ)) D σ H:=by
 show tV i σ H _;unfold tV;rw[j];refine⟨by show 1<=10;decide,λa m=>⟨a,h,true,rfl,af,λd f=>⟨rfl,a,c 4,B,some d,rfl,?_,l.cl 4 ∅,?_⟩⟩⟩
 ·have k:a≠d:=λz=>by subst z;rw[af] at f;cases f
  rw[ay k,af]
 ·have k:d≠a:=λz=>by subst z;rw[af] at f;cases f
  refine q a d _ (λb o e=>?_) af ?_
  ·have g:b≠a:=av e m;have n:b≠d:=λz=>by subst z;rw[ay g,e] at f;cases f
   rw[ay g,ay n,ay g,ay g];exact e
  ·rw[ay k,af]
def Has(nt:NT)(r:RS)(m k:Int):Prop:=∃w i:Nat,m=w/\k=i/\w<nt.ws.length/\i<(r.ww w).say.length
def Il(C CN CR:Addr)(c:Nat->Addr):Sp:=λvs H Q E=>∃(F:Addr->Prop) (x bD:Addr) (nt:NT) (r:RS) (ad:Nat->Nat->Addr) (m:Int) (d:V),vs=[.ref x,.int m,d]/\bY C CN CR F H x bD nt r ad/\(0<=m/\m<(nt.ws.length:Int)->Q .bx H)/\(¬(0<=m/\m<(nt.ws.length:Int))->∀a b H',aq H H'->H' a=some (XO a (c 4) (some b) false)->H' b=some (XD b [("at",d)])->E (.ref a) none H')
theorem sQ(D:gO K CR "need_way" "Run.need_way" iq ["self","way","at"])(T:Tx K mg C CN CR F FD)(k:tZ K mg B c)(l:Def P w K mg base "is_within" 2 ["thing","low","beyond"] cn)(p:yk P w K mg base "NoLetter" (c 4) B 1 ["self","at"] (lg c)):fS P w K mg base CR "need_way" 3 ["self","way","at"] (Il C CN CR c):=by
 have d:aD ["self","way","at"] ["self","way","at"] (az iq):=by walk_at "s"
 refine D.ES d (λg H Q E h=>?_) (λf t A d s H g Q E e h=>?_)
 ·obtain⟨F,x,bD,b,r,ad,m,o,rfl,i,q,j⟩:=h;rfl
 ·obtain⟨F,x,bD,b,r,ad,m,o,rfl,i,q,j⟩:=h;have d:=e.units;calc⟨_,(ao (aR (cG (bN (aL l e (ag (au 1) (ag aj (ag (bo aQ rfl T.b8 T' (ag (bL (au 0) rfl) aa)) aa)))))) (ao (nS rfl qP (BW p e (ag (au 2) aa)))) aJ)),?_⟩;obtain⟨g,o,h,t⟩:=i.ins;have e:=(t 4 ∅ ∅).1;left;calc⟨x,CR,g,_,_,rfl,h,T.aV,T.bJ,Ek,_,.inl ⟨_,aS.of e,rfl⟩,?_⟩;calc fW (.int m) _ 0 _ rfl (.int _) ?_;rw[sD];by_cases d:0<=m/\m < ((b.n 4:Nat):Int)
  ·rw[show inR 0 ((b.n 4:Nat):Int) (.int m)=true by simp only[inR];rw[Bool.and_eq_true,decide_eq_true_eq,decide_eq_true_eq];calc d];calc iN ?_;rw[if_neg ∅];left;exact q d
  ·rw[show inR 0 ((b.n 4:Nat):Int) (.int m)=false by rw[<-Bool.not_eq_true];simp only[inR];rw[Bool.and_eq_true,decide_eq_true_eq,decide_eq_true_eq];calc d];calc iN ?_;rw[if_pos ∅];left;calc pP (D:=⟨λ_ _=>True,λ_ _=>True,λ_ _=>True,λ_ _=>True⟩) k rfl λa g H' b e h=>j d a g H' b e h
abbrev fY:Stmt:=(bX (top 14)).getD 5 (.Pass ⟨0,0,0,0⟩)
theorem gJ{bD:V}{o:Nat->Addr}(h:f∉(["own_net","picks_done","states_had","words_had","words_said","letters_say","senders","workers"]:List Str)):(E3 bD p o).lookup f=none:=by
 simp only[List.mem_cons,List.not_mem_nil,or_false,not_or]at h;unfold E3;simp[List.lookup,beq_eq_false_iff_ne.mpr h.1,beq_eq_false_iff_ne.mpr h.2.1,beq_eq_false_iff_ne.mpr h.2.2.1,beq_eq_false_iff_ne.mpr h.2.2.2.1,beq_eq_false_iff_ne.mpr h.2.2.2.2.1,beq_eq_false_iff_ne.mpr h.2.2.2.2.2.1,beq_eq_false_iff_ne.mpr h.2.2.2.2.2.2.1,beq_eq_false_iff_ne.mpr h.2.2.2.2.2.2.2]
def Im(C CN CR:Addr)(c:Nat->Addr):Sp:=λvs H Q E=>∃(F:Addr->Prop) (x bD:Addr) (nt:NT) (r:RS) (ad:Nat->Nat->Addr) (m k:Int) (d:V),vs=[.ref x,.int m,.int k,d]/\bY C CN CR F H x bD nt r ad/\(∀w i:Nat,m=w->k=i->w<nt.ws.length->i<(r.ww w).say.length->Q .bx H)/\(¬Has nt r m k->∀a b H',aq H H'->H' a=some (XO a (c 4) (some b) false)->H' b=some (XD b [("at",d)])->E (.ref a) none H')
theorem oz(D:gO K CR "need_letter" "Run.need_letter" fY ["self","way","number","at"])(T:Tx K mg C CN CR F FD)(J:tZ K mg B c)(o:Def P w K mg base "is_within" 2 ["thing","low","beyond"] cn)(L:fS P w K mg base CR "need_way" 3 ["self","way","at"] (Il C CN CR c))(M:yk P w K mg base "NoLetter" (c 4) B 1 ["self","at"] (lg c)):fS P w K mg base CR "need_letter" 4 ["self","way","number","at"] (Im C CN CR c):=by
 have n:aD ["self","way","number","at"] ["self","way","number","at"] (az fY):=by walk_at "s"
 refine D.ES n (λN H Q E h=>?_) (λf W A n s H N Q E g h=>?_)
 ·obtain⟨F,x,bD,p,r,ad,m,k,G,rfl,j,q,u⟩:=h;rfl
 ·obtain⟨F,x,bD,p,r,ad,m,k,G,rfl,j,q,u⟩:=h;have n:=g.units;refine⟨_,(ai (bS (jW L jS T.aV g (au 0) (ag (au 1) (ag (au 3) aa))))
   (ao (aR (cG (bN (aL o g (ag (au 2) (ag aj (ag (bo aQ rfl T.b8 T' (ag (ak n (bL (au 0) rfl) (au 1)) aa)) aa)))))) (ao (nS rfl qP (BW M g (ag (au 3) aa)))) aJ))),?_⟩
  obtain⟨l,o,I,g⟩:=j.ins;have O:=(g 4 ∅ ∅).1;left;calc gI I (gJ ⋯) ?_;calc⟨_,x,bD,p,r,ad,m,G,rfl,j,λd=>?_,λR a l H' S v y=>u (λ⟨w,i,e,_,h,_⟩=>R ⟨(),()⟩) a l H' S v y⟩;nofun;obtain⟨b,rfl⟩:=aac d.1;have z:b<p.ws.length:=by lia
  obtain⟨g,n,o⟩:=j.cu.lst (t:=4) (i:=b) z rfl;ac_rfl;have j:g.length=(r.ww b).say.length:=by simpa using o.1
  left;calc fG I T.aV T.bJ Ek ?_;left;calc bF O (aZ z) ?_;calc bI _ (.inl ⟨_,aS.of n,rfl⟩) ?_;calc fW (.int k) _ 0 _ rfl (.int _) ?_;rw[j];by_cases d:0<=k/\k<(((r.ww b).say.length:Nat):Int)
  ·rw[show inR 0 (((r.ww b).say.length:Nat):Int) (.int k)=true by simp only[inR];rw[Bool.and_eq_true,decide_eq_true_eq,decide_eq_true_eq];calc d];calc iN ?_;rw[if_neg ∅];left;obtain⟨i,rfl⟩:=aac d.1;exact q b i rfl rfl z ()
  ·rw[show inR 0 (((r.ww b).say.length:Nat):Int) (.int k)=false by rw[<-Bool.not_eq_true];simp only[inR];rw[Bool.and_eq_true,decide_eq_true_eq,decide_eq_true_eq];calc d];calc iN ?_;rw[if_pos ∅];left;exact pP (D:=⟨λ_ _=>True,λ_ _=>True,λ_ _=>True,λ_ _=>True⟩) J rfl λa l H' U v y=>u (λ⟨w,i,e,g,h,j⟩=>by
    obtain rfl:b=w:=by lia
    calc d ⟨(),()⟩) a l H' U v y
structure _root_.DD.RS.xE(nt:NT)(r:RS)(w k:Nat):Prop where
 lt:w<nt.ws.length
 lies:(r.ww w).eB[k]?=some none
 row:(nt.w w).2.2="row"->0<k->∃e,(r.ww w).eB[k-1]?=some (some e)
theorem sR{n:Nat}{v:V}(h:HD H n v (tJ none)):v=.bx:=by
 have h:HD H n v .bx:=h
 cases h;rfl
theorem oA{H:Hp}{n:Nat}{v:V}{e:Int×Int}(h:HD H n v (tJ (some e))):∃a,v=.ref a/\H a=some (.tup [.int e.1,.int e.2]):=by
 have h:HD H n v (.tup [.int e.1,.int e.2]):=h
 cases h with
 | @tup n a d _ e l i=>
  obtain⟨u,v,rfl⟩:=ln2 l;have b:=i 0 u _ rfl rfl;have c:=i 1 v _ rfl rfl;obtain rfl:=b.cw;obtain rfl:=c.cw;calc⟨a,rfl,e⟩
theorem Wv{H:Hp}{n:Nat}{v:V}{e:Option (Int×Int)}(h:HD H n v (tJ e)):HT H 1 v (tJ e):=by
 cases e with
 |none=>rw[sR h];calc .bx
 |some e=>obtain⟨a,rfl,b⟩:=oA h;calc cJ b (.int _) (.int _)
theorem iT{vs:List V}{v:V}(h:1<=vs.length)(e:vs[vs.length-1]?=some v):iQ vs (-1)=some v:=by
 obtain⟨ys,z,rfl⟩:∃ys z,vs=ys++[z]:=⟨vs.dropLast,vs.getLast (by intro a;rw[a]at h;simp at h),(List.dropLast_concat_getLast _).symm⟩
 rw[kN];simpa using e
abbrev gQ:Stmt:=(bX (top 14)).getD 6 (.Pass ⟨0,0,0,0⟩)
def Ny(C CN CR:Addr)(c:Nat->Addr):Sp:=λvs H Q E=>∃(F:Addr->Prop) (x bD:Addr) (nt:NT) (r:RS) (ad:Nat->Nat->Addr) (m k:Int) (d:V),vs=[.ref x,.int m,.int k,d]/\bY C CN CR F H x bD nt r ad/\r.Ok nt/\(∀w i:Nat,m=w->k=i->r.xE nt w i->∀H',aq H H'->Q .bx H')/\(¬Lies nt r m k->∀a b H',aq H H'->H' a=some (XO a (c 4) (some b) false)->H' b=some (XD b [("at",d)])->E (.ref a) none H')/\(∀w i:Nat,m=w->k=i->w<nt.ws.length->(r.ww w).eB[i]?=some none->¬r.xE nt w i->∀a b H',aq H H'->H' a=some (XO a (c 5) (some b) false)->H' b=some (XD b [("at",d)])->E (.ref a) none H')
theorem qD(D:gO K CR "need_pick" "Run.need_pick" gQ ["self","way","number","at"])(T:Tx K mg C CN CR F FD)(TX:tZ K mg B c)(di:eP P w K mg base CN "ways" 1 ["self"] (oy CN))(dA:fS P w K mg base CR "need_letter" 4 ["self","way","number","at"] (Im C CN CR c))(dZ:yk P w K mg base "NoLetter" (c 4) B 1 ["self","at"] (lg c))(mU:yk P w K mg base "NotFirst" (c 5) B 1 ["self","at"] (wV c)):fS P w K mg base CR "need_pick" 5 ["self","way","number","at"] (Ny C CN CR c):=by
 have sc:aD ["self","way","number","at","sort"] ["self","way","number","at"] (az gQ):=by walk_at "s"
 refine D.ES sc (λvs H Q E h=>?_) (λf dD A o s H vs Q E J h=>?_)
 ·obtain⟨F,x,bD,z,r,ad,m,k,gf,rfl,L,W,q,X,q5⟩:=h;rfl
 ·obtain⟨F,x,bD,z,r,ad,m,k,gf,rfl,L,W,q,X,q5⟩:=h;have o:=J.units;refine⟨_,(ai (bS (jW dA jS T.aV J (au 0) (ag (au 1) (ag (au 2) (ag (au 3) aa)))))
   (ai (aR (aC pb (ak o (ak o (bL (au 0) rfl) (au 1)) (au 2)) fK (aH _)) (ao (nS rfl qP (BW dZ J (ag (au 3) aa)))) aJ)
   (ai (aW (i:=4) sc.nd rfl Sort (ak o (ak o (gP di T.de J (bL (au 0) rfl)) (au 1)) aj))
   (ao (aR (PW.pt (pw_and (aC (aY o) (au 4) aE (aH _)) (pw_and (aC o9 (au 2) aj (aH _)) (pw_and1 (aC rF (ak o (ak o (bL (au 0) rfl) (au 1)) (aT fP (au 2) aj)) fK (aH _)))))) (ao (nS rfl qP (BW mU J (ag (au 3) aa)))) aJ))))),?_⟩
  nofun;obtain⟨I,o,O,A⟩:=L.ins;obtain⟨⟨ms,wv,lv,hf,o,E,Nz⟩,J⟩:=L.Wt;ac_rfl;have l6:=(A 6 ∅ ∅).1;left;calc gI O (gJ ⋯) ?_;calc⟨_,x,bD,z,r,ad,m,k,gf,rfl,L,λb i g n u hi=>?_,λno a I H' s' g n=>X (λ⟨w,j,g,n,h,R⟩=>no ⟨w,j,g,n,h,by rw[W.lk w h];calc(List.getElem?_eq_some_iff.mp R).1⟩) a I H' s' g n⟩;nofun;subst g n;obtain⟨v6,e6,d6⟩:=L.cu.lst (t:=6) (i:=b) u rfl;have k:i<(r.ww b).eB.length:=by rw[<-W.lk b u];exact hi
  have y:=bq (d:=none) k;obtain⟨v,o,S⟩:=d6.get (i:=i) (d:=tJ ((r.ww b).eB.getD i none)) (by rw[List.getElem?_map,y];rfl);ac_rfl;left;calc fG O T.aV T.dg Ii ?_;left;calc bF l6 (aZ u) ?_;refine bF e6 (aA o) ?_
  cases Y:(r.ww b).eB.getD i none with
  |some e=>
   rw[Y]at S;obtain⟨ae,rfl,Sg⟩:=oA S;left
   try rw[if_pos ∅]
   left;exact pP (D:=⟨λ_ _=>True,λ_ _=>True,λ_ _=>True,λ_ _=>True⟩) TX rfl λa I H' p g n=>X (λ⟨w,j,g,n,h,R⟩=>by
    nofun;obtain rfl:b=w:=by lia
    obtain rfl:i=j:=by lia
    ac_rfl;rw[y,Y] at R;cases R) a I H' p g n
  |none=>
   rw[Y]at S y;have:=sR S;subst this;left
   try rw[if_neg ∅]
   left;calc fG O T.aV T.df sF ?_;obtain⟨o,x,A,E,k,J,L,R⟩:=id hf;left;calc gI k (eO ⋯ ⋯ ⋯) ?_;calc fW bD ms wv lv rfl hf (λl o=>?_);have p:=aq.new (.lst wv) o;have el:upd H l (.lst wv) l=some (.lst wv):=af;generalize hG:upd H l (.lst wv)=G at *;left;have k:z.ws[b]?=some (z.w b):=bq u;have o:b<wv.length:=by have:=Nz.1;simp at this;lia
   have Z:=(Nz.2 b wv[b] (kR (z.w b)) nofun (by rw[List.getElem?_map,k];rfl)).aG p.aM;nofun;obtain⟨ta,o,x,A,E,eta,vk,q1,q2,q3⟩:=bW Z;obtain rfl:=q1.cw;obtain rfl:=q2.cw;obtain rfl:=q3.cS;ac_rfl;calc bF el (aA (j:=b) (v:=.ref ta) (by rw[<-eta];simp)) ?_;calc cN vk (aA (j:=2) rfl) ?_;left;have o:=p _ _ O;have j:=p _ _ l6;have k:=p _ _ e6;by_cases M:(z.w b).2.2="row"
   ·by_cases z2:0 < i
    ·have N:=bq (l:=(r.ww b).eB) (i:=i - 1) (d:=none) ();obtain⟨v,l,U⟩:=d6.get (i:=i - 1) (d:=tJ ((r.ww b).eB.getD (i - 1) none)) (by rw[List.getElem?_map,N];rfl);rw[if_pos (by simp[M]),if_pos (by simp;lia)];calc fG o T.aV T.dg Ii ?_;left;calc bF j (aZ u) ?_;refine bF k (show iQ v6 ((i:Int) - 1)=some v from by rw[show(i:Int) - 1=((i - 1:Nat):Int) by lia];calc aA l) ?_
     cases NA:(r.ww b).eB.getD (i-1) none with
     |some e=>
      rw[NA]at U N;obtain⟨ae,rfl,Sg⟩:=oA U;left
      try rw[if_neg ∅]
      left;calc q b i rfl rfl ⟨u,y,λ_ _=>⟨e,N⟩⟩ _ p
     |none=>
      rw[NA]at U N;have:=sR U;subst this;left
      try rw[if_pos ∅]
      left;exact Ij (D:=⟨λ_ _=>True,λ_ _=>True,λ_ _=>True,λ_ _=>True⟩) TX rfl λa I H' s2 g n=>q5 b i rfl rfl u y (λhc=>by
       obtain⟨e,he⟩:=hc.row M z2;rw[N] at he;cases he) a I H' (p.trans s2) g n
    ·rw[if_pos (by simp[M]),if_neg (by simp;lia),if_neg ∅];left;exact q b i rfl rfl ⟨u,y,λ_ h=>absurd h z2⟩ _ p
   ·rw[if_neg (by simp[M]),if_neg ∅];left;calc q b i rfl rfl ⟨u,y,λh=>absurd h M⟩ _ p
abbrev lj:Stmt:=(bX (top 14)).getD 11 (.Pass ⟨0,0,0,0⟩)
theorem Io{H:Hp}{n:Nat}{v:V}{s:List Int×List Int}(h:HD H n v (qz s)):HT H 2 v (yq s.1 s.2):=by
 have h:HD H n v (.tup [.tup (s.1.map .int),.tup (s.2.map .int)]):=h
 cases h with
 | @tup n a c _ e l i=>
  obtain⟨u,v,rfl⟩:=ln2 l;have d:=i 0 u _ rfl rfl;have f:=i 1 v _ rfl rfl;have b:∀{n:Nat} {u:V} {ns:List Int},HD H n u (.tup (ns.map .int))->HT H 1 u (.tup (ns.map .int)):=λ{n u ns} h=>by
   cases h with
   | @tup n a c _ e l i=>exact nV (n:=0) (by rw[e,show c=ns.map V.int from dP.jU ⟨l,i⟩])
  calc cJ e (b d) (b f)
def Ip(C CN CR:Addr):Sp:=λvs H Q _=>∃(F:Addr->Prop) (x bD:Addr) (nt:NT) (r:RS) (ad:Nat->Nat->Addr) (m:Nat),vs=[.ref x,.int m]/\bY C CN CR F H x bD nt r ad/\r.Ok nt/\m<nt.ms.length/\∀v,HT H 2 v (yq ((r.mm m).gH.bz ([],[])).1 ((r.mm m).gH.bz ([],[])).2)->Q v H
theorem zg(D:gO K CR "state" "Run.state" lj ["self","m"])(T:Tx K mg C CN CR F FD)(j:eP P w K mg base CR "need_machine" 3 ["self","m"] (Ik C CN CR)):eP P w K mg base CR "state" 4 ["self","m"] (Ip C CN CR):=by
 have sc:aD ["self","m"] ["self","m"] (az lj):=by walk_at "s"
 symm;obtain⟨F,x,bD,c,r,ad,m,rfl,b,e,a,q⟩:=h;have g:=hr.units;refine⟨_,(ai (bS (ko j T.aV hr (au 0) (ag (au 1) aa)))
  (ao (aK (ak g (ak g (bL (au 0) rfl) (au 1)) (jA gj aj))))),?_⟩
 nofun;obtain⟨j,o,g,k⟩:=b.ins;have l:=(k 1 ∅ ∅).1;obtain⟨n,o,j⟩:=b.cu.lst (t:=1) (i:=m) a rfl;have k:n.length=(r.mm m).gH.length:=by simpa using j.1
 have n:=e.wD a;obtain⟨v,p,u⟩:=j.get (i:=(r.mm m).gH.length-1) (d:=qz ((r.mm m).gH.bz ([],[]))) (by rw[List.getElem?_map,jH (d:=([],[])) n];rfl);ac_rfl;left;calc gI g (gJ ⋯) ?_;calc⟨_,x,bD,c,r,ad,m,rfl,b,a,?_⟩;left;calc fG g T.aV T.cf L4 ?_;left;calc bF l (aZ a) ?_;calc bF o (iT () (by rw[k];calc p)) ?_;calc q _ (Io (u.cv eF))
abbrev lp:Stmt:=(bX (top 14)).getD 12 (.Pass ⟨0,0,0,0⟩)
def Iq(C CN CR:Addr):Sp:=λvs H Q _=>∃(F:Addr->Prop) (x bD:Addr) (nt:NT) (r:RS) (ad:Nat->Nat->Addr) (m:Nat),vs=[.ref x,.int m]/\bY C CN CR F H x bD nt r ad/\m<nt.ms.length/\∀l,H l=none->Q (.ref l) (upd H l (.lst (((r.mm m).wp.bz []).map V.int)))
theorem zh(D:gO K CR "words" "Run.words" lp ["self","m"])(T:Tx K mg C CN CR F FD)(d:eP P w K mg base CR "need_machine" 3 ["self","m"] (Ik C CN CR)):eP P w K mg base CR "words" 4 ["self","m"] (Iq C CN CR):=by
 have sc:aD ["self","m"] ["self","m"] (az lp):=by walk_at "s"
 symm;obtain⟨F,x,bD,c,r,ad,m,rfl,a,b,q⟩:=h;have e:=hr.units;refine⟨_,(ai (bS (ko d T.aV hr (au 0) (ag (au 1) aa)))
  (ao (aK (da bO rfl T.dI vK (ag (ak e (bL (au 0) rfl) (au 1)) aa))))),?_⟩
 nofun;obtain⟨g,o,d,e⟩:=a.ins;have g:=(e 3 ∅ ∅).1;obtain⟨l,j,k⟩:=a.cu.lst (t:=3) (i:=m) b rfl;ac_rfl;have e:=k.jU;left;calc gI d (gJ ⋯) ?_;calc⟨_,x,bD,c,r,ad,m,rfl,a,b,?_⟩;left;calc fG d T.aV T.cF Q1 ?_;left;calc bF g (aZ b) ?_;calc bI _ (.inl (aS.of j)) (λl n=>?_);rw[e];calc q l n
abbrev ir:Stmt:=(bX (top 14)).getD 15 (.Pass ⟨0,0,0,0⟩)
def Ir(C CN CR:Addr):Sp:=λvs H Q _=>∃(F:Addr->Prop) (x bD:Addr) (nt:NT) (r:RS) (ad:Nat->Nat->Addr),vs=[.ref x]/\bY C CN CR F H x bD nt r ad/\∀l a,H l=none->dP H 4 a (r.picks.map pairD)->Q (.ref l) (upd H l (.lst a))
theorem sS(D:gO K CR "schedule" "Run.schedule" ir ["self"])(T:Tx K mg C CN CR F FD):eP P w K mg base CR "schedule" 1 ["self"] (Ir C CN CR):=by
 have sc:aD ["self"] ["self"] (az ir):=by walk_at "s"
 symm;obtain⟨F,x,bD,b,r,ad,rfl,a,q⟩:=h;have b:=hr.units;calc⟨_,(ao (aK (da bO rfl T.dI vK (ag (bL (au 0) rfl) aa)))),?_⟩;nofun;obtain⟨c,o,b,d⟩:=a.ins;obtain⟨e,c,d⟩:=a.cu.lst (t:=0) (i:=0) (by show 0<1;decide) rfl;ac_rfl;left;calc fG b T.aV T.cX Ws ?_;left;calc bI _ (.inl (aS.of c)) (λl a=>?_);calc q l _ a (d.cv eF)
abbrev sT:Stmt:=(bX (top 14)).getD 16 (.Pass ⟨0,0,0,0⟩)
def L6(C CN CR:Addr)(c:Nat->Addr):Sp:=λvs H Q E=>∃(F:Addr->Prop) (x bD:Addr) (nt:NT) (r:RS) (ad:Nat->Nat->Addr) (m k:Int),vs=[.ref x,.int m,.int k]/\bY C CN CR F H x bD nt r ad/\(∀w i:Nat,m=w->k=i->w<nt.ws.length->i<(r.ww w).say.length->Q (.int ((r.ww w).say.getD i 0)) H)/\(¬Has nt r m k->∀a b H',aq H H'->H' a=some (XO a (c 4) (some b) false)->H' b=some (XD b [("at",.int 0)])->E (.ref a) none H')
theorem Q3(D:gO K CR "said" "Run.said" sT ["self","way","number"])(T:Tx K mg C CN CR F FD)(A:tZ K mg B c)(J:fS P w K mg base CR "need_letter" 4 ["self","way","number","at"] (Im C CN CR c)):fS P w K mg base CR "said" 5 ["self","way","number"] (L6 C CN CR c):=by
 have e:aD ["self","way","number"] ["self","way","number"] (az sT):=by walk_at "s"
 refine D.ES e (λL H Q E h=>?_) (λf X A e s H L Q E o h=>?_)
 ·obtain⟨F,x,bD,u,r,ad,m,k,rfl,b,q,y⟩:=h;rfl
 ·obtain⟨F,x,bD,u,r,ad,m,k,rfl,b,q,y⟩:=h;have e:=o.units;refine⟨_,(ai (bS (jW J jS T.aV o (au 0) (ag (au 1) (ag (au 2) (ag aj aa)))))
   (ao (aK (ak e (ak e (bL (au 0) rfl) (au 1)) (au 2))))),?_⟩
  obtain⟨z,o,G,M⟩:=b.ins;left;calc gI G (gJ ⋯) ?_;calc⟨_,x,bD,u,r,ad,m,k,_,rfl,b,λg i l n p I=>?_,λN a z H' O l n=>y N a z H' O l n⟩;subst l n;left;have R:=(M 4 ∅ ∅).1;nofun;obtain⟨e,S,U⟩:=b.cu.lst (t:=4) (i:=g) p rfl;have W:=U.jU;subst W;ac_rfl;calc fG G T.aV T.bJ Ek ?_;left;calc bF R (aZ p) ?_;calc bF S (aA (j:=i) (v:=.int ((r.ww g).say.getD i 0)) (by rw[List.getElem?_map,bq (d:=0) I];rfl)) ?_;calc q g i rfl rfl p I
theorem sU{w:Nat}:∀{l:List Nat},w∈l->l[l.idxOf w]?=some w/\∀i y,i<l.idxOf w->l[i]?=some y->y≠w
 | [],h=>by simp at h
 |a::r,h=>by
  by_cases e:a=w
  ·subst e;rw[List.idxOf_cons_self];exact⟨rfl,λi y c=>absurd c (Nat.not_lt_zero i)⟩
  ·have hr:w∈r:=by
    rcases List.mem_cons.mp h with h|h
    ·exact absurd h.symm e
    ·exact h
   obtain⟨d,g⟩:=sU hr;have j:(a::r).idxOf w=r.idxOf w+1:=by rw[List.idxOf_cons,beq_eq_false_iff_ne.mpr e];rfl
   rw[j];refine⟨by simpa using d,λi y c b=>?_⟩
   cases i with
   |zero=>simp at b;subst b;calc e
   |succ i=>calc g i y () (by simpa using b)
theorem qV{nt:NT}(h:nt.Ok){w:Nat}(a:w<nt.ws.length):(nt.w w).2.1=((nt.goal w:Nat):Int):=by
 have:=h.wy a;unfold NT.goal;lia
theorem Iu{nt:NT}(h:nt.Ok){w:Nat}(a:w<nt.ws.length):w∈uj nt 1 (nt.goal w):=by
 unfold uj;rw[List.mem_filter];calc⟨List.mem_range.mpr a,?_⟩;rw[decide_eq_true_eq];calc qV h a
theorem oB{nt:NT}(h:nt.Ok){w:Nat}(a:w<nt.ws.length):(uj nt 1 (nt.goal w)).idxOf w=nt.place w:=by
 unfold NT.place;rw[qV h a];rfl
theorem vm{l:List Nat}:(l.map λi=>V.int (i:Nat))=(l.map λi=>((i:Nat):Int)).map V.int:=by simp[List.map_map]
theorem L7{r:RS}{n:NT}{w k:Nat}:∀t i,i<n.n t->setC (setC (setC (setC (setC r.ct 0 0 (.l (r.picks.map pairD++[pairD ((w:Int),(k:Int))]))) 6 w (.l (((r.ww w).eB.map tJ).set k (tJ (some (n.ev r w)))))) 1 (n.goal w) (.l ((r.mm (n.goal w)).gH.map qz++[qz ((n.work r w k).ns,(n.work r w k).row)]))) 3 (n.goal w) (.l (((r.mm (n.goal w)).wp.bz []).map .int++(n.work r w k).words.map .int))) 2 (n.goal w) (.l (((r.mm (n.goal w)).wp.map λu=>DV.int (u.length:Nat))++[.int ((((r.mm (n.goal w)).wp.bz []++(n.work r w k).words).length:Nat))])) t i=(r.step n w k).ct t i:=by
 intro t i a;unfold setC
 match t,a with
 |0,a=>
  have:i=0:=by have:i<1:=a;lia
  subst this;simp[RS.ct,RS.step]
 |1,_=>by_cases e:i=n.goal w<;>simp[RS.ct,RS.step,e]
 |2,_=>by_cases e:i=n.goal w<;>simp[RS.ct,RS.step,e]
 |3,_=>by_cases e:i=n.goal w<;>simp[RS.ct,RS.step,e,rX]
 |4,_=>by_cases e:i=w<;>simp[RS.ct,RS.step,e]
 |5,_=>by_cases e:i=w<;>simp[RS.ct,RS.step,e]
 |6,_=>by_cases e:i=w<;>simp[RS.ct,RS.step,e,List.map_set]
 |(t+7),a=>calc absurd a (Nat.not_lt_zero i)
theorem CG{nt:NT}(d:nt.Ok)(h:r.Ok nt){w k:Nat}(f:w<nt.ws.length):∀a c,some (nt.ev r w)=some (a,c)->0<=a/\a<nt.ms.length/\1<=c/\c<=((r.step nt w k).mm a.toNat).hr.length:=by
 have b:=d.jV f;intro a c e
 cases e;refine⟨(),(),?_,?_⟩
 ·have:=h.wD b;lia
 ·have d:(r.step nt w k).mm (nt.goal w)=⟨(r.mm (nt.goal w)).gH++[((nt.work r w k).ns,(nt.work r w k).row)],(r.mm (nt.goal w)).wp++[(r.mm (nt.goal w)).wp.bz []++(nt.work r w k).words],(r.mm (nt.goal w)).hr++[nt.fV r w k]⟩:=if_pos rfl;rw[show((nt.goal w:Nat):Int).toNat=nt.goal w from Int.toNat_natCast _,d,h.lh _ b];simp
theorem pQ{outs:List Nat}{ev:Int×Int}:∀(a:List (Int×Int)) {r:RS}{p:Int×Int},r.send outs ev (a++[p])=(r.send outs ev a).send outs ev [p]
 | [],r,p=>rfl
 |q::a,r,p=>pQ a
structure BF(F:Addr->Prop)(n:Nat->Nat)(ad:Nat->Nat->Addr)(A B H:Hp)(ct:Nat->Nat->CO):Prop where
 b:eu F H n ad ct
 f:Fr (FP n ad) A H
 g:Fr (FP n ad) B H
section
variable {F:Addr->Prop}{n:Nat->Nat}{ad:Nat->Nat->Addr}{A B H H':Hp}{ct:Nat->Nat->CO}
theorem BF.same(h:BF F n ad A B H ct)(s:aq H H'):BF F n ad A B H' ct:=⟨h.b.same s,h.f.trans s.fr,h.g.trans s.fr⟩
theorem BF.app(h:BF F n ad A B H ct){t i:Nat}(hi:i<n t){c:List DV}(e:ct t i=.l c){vs:List V}(a:H (ad t i)=some (.lst vs)){us:List V}{es:List DV}(g:dP (gY (λb=>F b\/FP n ad b) H) 4 us es):BF F n ad A B (upd H (ad t i) (.lst (vs++us))) (setC ct t i (.l (c++es))):=⟨h.b.app hi e a g,h.f.upd ⟨t,i,hi,rfl⟩ a trivial,h.g.upd ⟨t,i,hi,rfl⟩ a trivial⟩
end
abbrev je:Stmt:=(bX (top 14)).getD 7 (.Pass ⟨0,0,0,0⟩)
inductive Iv(C CN CR:Addr)(c:Nat->Addr)(vs:List V)(H:Hp)(Q:VK)(E:XK):Prop
 |mk (F:Addr->Prop) (x bD:Addr) (nt:NT) (r:RS) (ad:Nat->Nat->Addr) (m k:Int) (a0:V) (h0:vs=[.ref x,.int m,.int k,a0]) (h1:bY C CN CR F H x bD nt r ad) (h2:FS F H) (h3:r.Ok nt) (h5:r.picks.length<=400) (h6:∀w i:Nat,m=w->k=i->r.xE nt w i->∀t H',Fr (FP nt.n ad) H H'->bY C CN CR F H' x bD nt (r.pick nt w i) ad->HT H' 1 t (pairD (nt.ev r w))->Q t H') (h7:¬Lies nt r m k->∀a dx H',aq H H'->H' a=some (XO a (c 4) (some dx) false)->H' dx=some (XD dx [("at",a0)])->E (.ref a) none H') (h8:∀w i:Nat,m=w->k=i->w<nt.ws.length->(r.ww w).eB[i]?=some none->¬r.xE nt w i->∀a dx H',aq H H'->H' a=some (XO a (c 5) (some dx) false)->H' dx=some (XD dx [("at",a0)])->E (.ref a) none H'):Iv C CN CR c vs H Q E
def wW(C CN CR:Addr)(c:Nat->Addr):Sp:=λvs H Q E=>Iv C CN CR c vs H Q E
theorem uu(D:gO K CR "pick_at" "Run.pick_at" je ["self","way","number","at"])(T:Tx K mg C CN CR F FD)(o:tZ K mg B c)(gw:eP P w K mg base C "worked" 3 ["self","state","way","said"] (vj K C))(cL:eP P w K mg base CN "machines" 1 ["self"] (j2 CN))(di:eP P w K mg base CN "ways" 1 ["self"] (oy CN))(jf:eP P w K mg base CN "ways_in" 4 ["self","m"] (sM C CN))(iu:eP P w K mg base CN "ways_out" 4 ["self","m"] (qo C CN))(gR:fS P w K mg base CR "need_pick" 5 ["self","way","number","at"] (Ny C CN CR c))(cZ:eP P w K mg base CR "put_letter" 1 ["self","way","said","sender"] (sO C CN CR))(fC:eP P w K mg base CR "state" 4 ["self","m"] (Ip C CN CR)):fS P w K mg base CR "pick_at" 6 ["self","way","number","at"] (wW C CN CR c):=by
 have sc:aD ["self","way","number","at","m","place","machine","state","sent","words","event","ways_out","j","said"] ["self","way","number","at"] (az je):=by walk_at "s"
 refine D.ES sc (λvs H Q E h=>?_) (λf dD A o s H vs Q E W h=>?_)
 ·obtain⟨F,x,bD,G,r,ad,m,k0,a,rfl,M,iL,N,sC,q,q4,q5⟩:=h;rfl
 ·obtain⟨F,x,bD,G,r,ad,m,k0,a,rfl,M,iL,N,sC,q,q4,q5⟩:=h;have o:=W.units;refine⟨_,(ai (bS (jW gR jS T.aV W (au 0) (ag (au 1) (ag (au 2) (ag (au 3) aa)))))
   (ai (aW (i:=4) sc.nd rfl Sort (ak o (ak o (gP di T.de W (bL (au 0) rfl)) (au 1)) aj))
   (ai (aW (i:=5) sc.nd rfl Sort (dE nz PySem.F.slot_list_index PySem.F.type_list_index u7 (ko jf T.de W (bL (au 0) rfl) (ag (au 4) aa)) (ag (au 1) aa)))
   (ai (aW (i:=6) sc.nd rfl Sort (ak o (gP cL T.de W (bL (au 0) rfl)) (au 4)))
   (ai (eQ (ko gw T.cO W (au 6) (ag (ko fC T.aV W (au 0) (ag (au 4) aa)) (ag (au 5) (ag (ak o (ak o (bL (au 0) rfl) (au 1)) (au 2)) aa)))) (yB (i:=7) (j:=8) (l:=9) rfl sc.nd rfl rfl rfl Sort Sort Sort))
   (ai (aW (i:=10) sc.nd rfl Sort (bb (ag (au 4) (ag (bo aQ rfl T.b8 T' (ag (ak o (bL (au 0) rfl) (au 4)) aa)) aa))))
   (ai (bS (dE nz qH qI bZ (bL (au 0) rfl) (ag (bb (ag (au 1) (ag (au 2) aa))) aa)))
   (ai (eQ (au 10) (iW (ak o (bL (au 0) rfl) (au 1)) (au 2) eA))
   (ai (bS (dE nz qH qI bZ (ak o (bL (au 0) rfl) (au 4)) (ag (au 7) aa)))
   (ai (bS (dE nz PySem.F.slot_list_extend PySem.F.type_list_extend K5 (ak o (bL (au 0) rfl) (au 4)) (ag (au 9) aa)))
   (ai (bS (dE nz qH qI bZ (ak o (bL (au 0) rfl) (au 4)) (ag (bo aQ rfl T.b8 T' (ag (ak o (bL (au 0) rfl) (au 4)) aa)) aa)))
   (ai (aW (i:=11) sc.nd rfl Sort (ko iu T.de W (bL (au 0) rfl) (ag (au 4) aa)))
   (ai (eZ Vh rfl (cA (pv 8)) (fm (i:=12) (j:=13) rfl sc.nd rfl rfl Sort Sort)
   (ao (aR (aC gk (au 12) (bo aQ rfl T.b8 T' (ag (au 11) aa)) (aH _)) (ao (bS (ko cZ T.aV W (au 0) (ag (ak o (au 11) (au 12)) (ag (au 13) (ag (au 10) aa)))))) aJ)))
   (ao (aK (au 10)))))))))))))))),?_⟩
  nofun;obtain⟨A,o,O,ho⟩:=M.ins;have hn:=M.Wt;have X:=hn.ok;obtain⟨⟨ms,wv,lv,hf,o,zG,Nz⟩,_⟩:=id hn;obtain⟨o,A,E,W,g1,g2,g3,g4⟩:=id hf;ac_rfl;left;calc gI O (gJ ⋯) ?_;calc⟨_,x,bD,G,r,ad,m,k0,a,rfl,M,N,λI k e1 e2 hc H1 s1=>?_,q4,q5⟩;nofun;subst e1 e2;have q:=λt H'=>q I k rfl rfl hc t H';clear q4 q5;have L:=hc.lt;have J:=X.jV L;obtain⟨o,A,E,wk4⟩:=qS X N L k;ac_rfl;left;calc fG (s1 _ _ O) T.aV T.df sF ?_;left;calc gI (s1 _ _ g1) (eO ⋯ ⋯ ⋯) ?_;calc fW bD ms wv lv rfl (hf.same s1) (λl o=>?_);have s2:aq H (upd H1 l (.lst wv)):=s1.trans (aq.new _ o);have el:upd H1 l (.lst wv) l=some (.lst wv):=af;nofun;generalize AQ:upd H1 l (.lst wv)=H2 at *;have o:G.ws[I]?=some (G.w I):=bq L;have A:I<wv.length:=by have:=Nz.1;simp at this;lia
  have uo:=(Nz.2 I wv[I] (kR (G.w I)) nofun (by rw[List.getElem?_map,o];rfl)).aG s2.aM;obtain⟨ta,u1,u2,A,E,eta,vk,q1,q2,q3⟩:=bW uo;obtain rfl:=q1.cw;obtain rfl:=q2.cw;obtain rfl:=q3.cS;ac_rfl;left;calc bF el (aA (j:=I) (v:=.ref ta) (by rw[<-eta];simp)) ?_;calc cN vk (show iQ _ 1=some (.int ((G.goal I:Nat):Int)) from by rw[<-qV X L];calc aA (j:=1) rfl) ?_;left;calc fG (s2 _ _ O) T.aV T.df sF ?_;left;calc gI (s2 _ _ g1) (eO ⋯ ⋯ ⋯) ?_;calc⟨bD,G,G.goal I,rfl,hn.fr (Z:=λ_=>False) s2.fr,J,λE H3 W A o=>?_⟩;have s3:=s2.trans W;calc⟨.inl ⟨rfl,_,aS.of o⟩,?_⟩;obtain⟨A,ix2⟩:=sU (Iu X L);refine⟨E,_,G.place I,I,rfl,rfl,by rw[o,vm],?_,?_,?_⟩
  ·rw[List.getElem?_map,<-oB X L,A];rfl
  ·intro i y hi hy;rw[List.getElem?_map]at hy;obtain⟨z,hz,rfl⟩:=Option.map_eq_some_iff.mp hy;have:=ix2 i z (by rw[oB X L];calc hi) hz;lia
  left;calc fG (s3 _ _ O) T.aV T.df sF ?_;left;calc gI (s3 _ _ g1) (eO ⋯ ⋯ ⋯) ?_;calc fW bD ms wv lv rfl (hf.same s3) (λl4 o=>?_);have Y:aq H (upd H3 l4 (.lst (ms.map V.ref))):=s3.trans (aq.new _ o);have el4:upd H3 l4 (.lst (ms.map V.ref)) l4=some (.lst (ms.map V.ref)):=af;generalize Q4:upd H3 l4 (.lst (ms.map V.ref))=H4 at *;have Nu:G.goal I<ms.length:=by lia
  have o:G.ms[G.goal I]?=some (G.ms.getD (G.goal I) default):=bq J;have CH:=(zG (G.goal I) ms[G.goal I] _ (cP Nu) o).same Y;have GH:=X.gd J;left;calc bF el4 (aA (j:=G.goal I) (v:=.ref ms[G.goal I]) (by rw[List.getElem?_map,cP Nu];rfl)) ?_;left;nofun;generalize ms[G.goal I]=mch at *;obtain⟨dm,o,A,E,W,hm3⟩:=id CH;ac_rfl;calc gI E (Ck ⋯ ⋯ ⋯) ?_;calc gI (Y _ _ O) (gJ ⋯) ?_;calc⟨_,x,bD,G,r,ad,G.goal I,rfl,M.same Y,N,J,λsv L5=>?_⟩;have l4':=Y _ _ (ho 4 ∅ ∅).1;nofun;obtain⟨o,e4,d4⟩:=(M.cu.same Y).lst (t:=4) (i:=I) L rfl;have z4:=d4.jU;subst z4;ac_rfl;have BZ:k<(r.ww I).say.length:=by rw[N.lk I L];exact(List.getElem?_eq_some_iff.mp hc.lies).1
  left;calc fG (Y _ _ O) T.aV T.bJ Ek ?_;left;calc bF l4' (aZ L) ?_;calc bF e4 (aA (j:=k) (v:=.int ((r.ww I).say.getD k 0)) (by rw[List.getElem?_map,bq (d:=0) BZ];rfl)) ?_;have o:=N.last J;calc⟨mch,sv,_,_,_,_,_,_,_,_,rfl,CH,yt.of L5,GH.m2,GH.m12,o.bn,o.lr,GH.Zb,by rw[o.ln];calc GH.ok,λA H5 Zl Q5=>?_⟩;have s5:=Y.trans Zl;nofun;obtain⟨rp,Kh,SH,NC,zs,rfl,o,A7,Q6,om,A8,fl1,ack,A⟩:=Q5.ex
  replace A7:HT H5 2 Kh (yq (G.work r I k).ns (G.work r I k).row):=A7
  replace om:SL H5 zs (G.work r I k).cQ:=om
  replace A8:H5 NC=some (.lst ((G.work r I k).words.map V.int)):=A8
  ac_rfl;calc un3 (bH.of o) ?_;left;calc fG (s5 _ _ O) T.aV T.cf L4 ?_;have b5:=M.cu.same s5;have i0:0<G.n 0:=by show 0<1;decide
  obtain⟨o,e1,d1⟩:=b5.lst (t:=1) (i:=G.goal I) J rfl;have A:o.length=(r.mm (G.goal I)).gH.length:=by simpa using d1.1
  left;calc bF (s5 _ _ (ho 1 ∅ ∅).1) (aZ J) ?_;calc hJ _ (.inl ⟨_,aS.of e1,rfl⟩) bP (λev o=>?_);rw[A];have s6:aq H (upd H5 ev (.tup [.int ((G.goal I:Nat):Int),.int (((r.mm (G.goal I)).gH.length:Nat):Int)])):=s5.trans (aq.new _ o);have s56:aq H5 (upd H5 ev (.tup [.int ((G.goal I:Nat):Int),.int (((r.mm (G.goal I)).gH.length:Nat):Int)])):=aq.new _ o;have aco:HT (upd H5 ev (.tup [.int ((G.goal I:Nat):Int),.int (((r.mm (G.goal I)).gH.length:Nat):Int)])) 1 (.ref ev) (pairD (G.ev r I)):=cJ (n:=0) af (.int _) (.int _);generalize Np:upd H5 ev (.tup [.int ((G.goal I:Nat):Int),.int (((r.mm (G.goal I)).gH.length:Nat):Int)])=H6 at *;have b6:=M.cu.same s6;left;calc fG (s6 _ _ O) T.aV T.cX Ws ?_;obtain⟨v0,e0,d0⟩:=b6.lst (t:=0) (i:=0) i0 rfl;have o:v0.length=r.picks.length:=by simpa using d0.1
  left;calc g9 (.inl ⟨rfl,_,aS.of e0⟩) bP (λtp o=>?_);left;have s7:aq H (upd H6 tp (.tup [.int ((I:Nat):Int),.int ((k:Nat):Int)])):=s6.trans (aq.new _ o);have xD:aq H6 (upd H6 tp (.tup [.int ((I:Nat):Int),.int ((k:Nat):Int)])):=aq.new _ o;have acp:HT (upd H6 tp (.tup [.int ((I:Nat):Int),.int ((k:Nat):Int)])) 1 (.ref tp) (pairD ((I:Int),(k:Int))):=cJ (n:=0) af (.int _) (.int _);generalize SI:upd H6 tp (.tup [.int ((I:Nat):Int),.int ((k:Nat):Int)])=H7 at *;have b7:=M.cu.same s7;have FS7:FS F H7:=iL.fr (Z:=λ_=>False) s7.fr (λ_ _ h=>h);have e07:=xD _ _ e0;have SJ:=s56.trans xD;calc hJ v0 e07 (small ()) ?_;have U:=(BF.mk b7 s7.fr (Fr.refl:Fr (FP G.n ad) H7 H7)).app (t:=0) (i:=0) i0 rfl e07 (dP.one ((b7.ht FS7 acp).mono ∅));generalize hG8:upd H7 (ad 0 0) (.lst (v0++[.ref tp]))=H8 at *;have o:=ho 6 ∅ ∅;have o1:=ho 1 ∅ ∅;have o2:=ho 2 ∅ ∅;have o3:=ho 3 ∅ ∅;left;calc fG (U.f.kJ O id) T.aV T.dg Ii ?_;obtain⟨v6,e6,d6⟩:=U.b.lst (t:=6) (i:=I) L rfl;have A:v6.length=(r.ww I).eB.length:=by simpa using d6.1
  have h:k<v6.length:=by rw[A,<-N.lk I L];exact BZ
  left;calc bF (U.f.at o.1 o.2.2) (aZ L) ?_;left;calc dz v6 k e6 (oq h) ?_;have Wy:=aco.aG xD.aM;have w9:=BF.mk (U.b.set (t:=6) (i:=I) L rfl e6 (k:=k) ((U.b.ht (iL.fr U.f M.cu.ur) (Wy.aG U.g.aM)).mono ∅)) (U.f.upd ⟨6,I,L,rfl⟩ e6 trivial) (U.g.upd ⟨6,I,L,rfl⟩ e6 trivial);generalize hG9:upd H8 (ad 6 I) (.lst (v6.set k (.ref ev)))=H9 at *;left;calc fG (w9.f.kJ O id) T.aV T.cf L4 ?_;obtain⟨v19,h,d19⟩:=w9.b.lst (t:=1) (i:=G.goal I) J rfl;have o:v19.length=(r.mm (G.goal I)).gH.length:=by simpa using d19.1
  have o:=N.bp _ J;left;calc bF (w9.f.at o1.1 o1.2.2) (aZ J) ?_;calc⟨.inl ⟨rfl,_,aS.of h⟩,?_⟩;left;calc hJ v19 h (small ()) ?_;have EJ:=w9.app (t:=1) (i:=G.goal I) J rfl h (dP.one (show HD _ 4 Kh (qz ((G.work r I k).ns,(G.work r I k).row)) from(w9.b.ht (iL.fr w9.f M.cu.ur) ((A7.aG SJ.aM).aG w9.g.aM)).mono ∅));have Iw:¬FP G.n ad SH:=λz=>by
   obtain⟨u,e,_⟩:=(M.cu.same Y).fp z;rw[fl1]at e;cases e
  have Q7:¬FP G.n ad NC:=λz=>by
   obtain⟨u,e,_⟩:=(M.cu.same Y).fp z;rw[ack]at e;cases e
  generalize Wz:upd H9 (ad 1 (G.goal I)) (.lst (v19++[Kh]))=zF at *;left;calc fG (EJ.f.kJ O id) T.aV T.cF Q1 ?_;obtain⟨v3,h,d3⟩:=EJ.b.lst (t:=3) (i:=G.goal I) J rfl;have o:=d3.jU;have A:=N.bw _ J _ (hV (l:=(r.mm (G.goal I)).wp) (d:=[]) (by rw[<-N.lw _ J];calc N.wD J));have l:v3.length=((r.mm (G.goal I)).wp.bz []).length:=by rw[o];simp
  left;calc bF (EJ.f.at o3.1 o3.2.2) (aZ J) ?_;calc⟨.inl ⟨rfl,_,aS.of h⟩,?_⟩;left;calc ub v3 _ h (EJ.g.at (SJ _ _ A8) Q7) (L' (small (by simp;lia))) ?_;have uY:=EJ.app (t:=3) (i:=G.goal I) J rfl h (dP.ints (G.work r I k).words);have acs:upd zF (ad 3 (G.goal I)) (.lst (v3++(G.work r I k).words.map V.int)) (ad 3 (G.goal I))=some (.lst (v3++(G.work r I k).words.map V.int)):=af;generalize WA:upd zF (ad 3 (G.goal I)) (.lst (v3++(G.work r I k).words.map V.int))=WB at *;left;calc fG (uY.f.kJ O id) T.aV T.dX ab8 ?_;obtain⟨v2,e2,d2⟩:=uY.b.lst (t:=2) (i:=G.goal I) J rfl;have h:v2.length=(r.mm (G.goal I)).wp.length:=by simpa using d2.1
  have h:=N.lw _ J;left;calc bF (uY.f.at o2.1 o2.2.2) (aZ J) ?_;calc⟨.inl ⟨rfl,_,aS.of e2⟩,?_⟩;left;calc fG (uY.f.kJ O id) T.aV T.cF Q1 ?_;left;calc bF (uY.f.at o3.1 o3.2.2) (aZ J) ?_;calc bI _ (.inl ⟨_,aS.of acs,rfl⟩) ?_;left;calc hJ v2 e2 (small ()) ?_;rw[show(v3++(G.work r I k).words.map V.int).length=((r.mm (G.goal I)).wp.bz []++(G.work r I k).words).length by simp;lia];have zH:=uY.app (t:=2) (i:=G.goal I) J rfl e2 (dP.one (.int (((r.mm (G.goal I)).wp.bz []++(G.work r I k).words).length:Nat)));generalize WC:upd WB (ad 2 (G.goal I)) (.lst (v2++[.int (((r.mm (G.goal I)).wp.bz []++(G.work r I k).words).length:Nat)]))=WD at *;have WE:bY C CN CR F WD x bD G (r.step G I k) ad:=M.own zH.f (zH.b.congr L7);have WG:SL WD zs (G.work r I k).cQ:=(om.aG SJ.aM).aG zH.g.aM;have oh:=zH.g.at (SJ _ _ Q6) Iw;have WH:=Wy.aG zH.g.aM;have Zn:=zH.f;clear b5 b6 b7 U w9 EJ uY zH d0 d1 d2 d3 d4 d6 d19 hG8 hG9 Wz WA WC;left;calc fG (Zn.kJ O id) T.aV T.df sF ?_;left;calc gI (Zn.kJ g1 id) (eO ⋯ ⋯ ⋯) ?_;calc⟨bD,G,G.goal I,rfl,hn.fr Zn,J,λlo WI tL flo elo=>?_⟩;have nlo:¬FP G.n ad lo:=λz=>by
   obtain⟨u,e,_⟩:=WE.cu.fp z;rw[flo]at e;cases e
  left;have h:=WE.same tL;have l:=tL _ _ oh;have ND:=WH.aG tL.aM;have NF:=WG.aG tL.aM;have hzl:zs.length=(G.work r I k).cQ.length:=NF.1;have f13:=Zn.trans tL.fr;have Q8:=N.step X L (k:=k);have Q9:∀a c,some (G.ev r I)=some (a,c)->0<=a/\a<G.ms.length/\1<=c/\c<=((r.step G I k).mm a.toNat).hr.length:=CG X N L;refine⟨_,rfl,.inl ⟨⟨_,aS.of l⟩,jy (K:=K) (xs:=zs) (λi σ H'=>(∃Ra Rb,σ=[some (V.ref x),some (V.int ((I:Nat):Int)),some (V.int ((k:Nat):Int)),some a,some (V.int ((G.goal I:Nat):Int)),some (V.int ((G.place I:Nat):Int)),some (V.ref mch),some Kh,some (V.ref SH),some (V.ref NC),some (V.ref ev),some (V.ref lo),Ra,Rb])/\Fr (FP G.n ad) WI H'/\bY C CN CR F H' x bD G ((r.step G I k).send (G.outs (G.goal I)) (G.ev r I) ((G.work r I k).cQ.take i)) ad) ?_ ?_ ?_ ?_⟩⟩
  ·exact⟨⟨_,_,rfl⟩,Fr.refl,h⟩
  ·rintro i σ H' hi ⟨_,R,_⟩;exact aS.of (R.at l Iw)
  ·intro i z σ H' hz iY;nofun;obtain⟨⟨Ra,Rb,rfl⟩,R,xF⟩:=iY;have h:i < zs.length:=(List.getElem?_eq_some_iff.mp hz).1;have h:i < (G.work r I k).cQ.length:=by lia
   have l:(G.work r I k).cQ[i]?=some (G.work r I k).cQ[i]:=cP h;have WK:=wk4 _ (W' h);have Rf:=(NF.2 i z _ hz l).aG R.aM;have E4:(r.step G I k).send (G.outs (G.goal I)) (G.ev r I) ((G.work r I k).cQ.take (i+1))=((r.step G I k).send (G.outs (G.goal I)) (G.ev r I) ((G.work r I k).cQ.take i)).send (G.outs (G.goal I)) (G.ev r I) [(G.work r I k).cQ[i]]:=by
    rw[List.take_succ,l];exact pQ _
   generalize (G.work r I k).cQ[i]=p at *;obtain⟨S,px⟩:=p;obtain⟨tz,u1,u2,kz,rfl,EM,y1,y2⟩:=cm Rf;obtain rfl:=y1.cw;obtain rfl:=y2.cw;ac_rfl;calc yC (bH.of EM) ?_;have l:=R.at elo nlo;left;calc bI _ (.inl ⟨_,aS.of l,rfl⟩) ?_;left;have h:((uj G 0 (G.goal I)).map λi=>V.int ((i:Nat):Int)).length=(G.outs (G.goal I)).length:=by rw[List.length_map];rfl
   rw[h];have o:S.toNat=S.toNat:=rfl;have t:((S.toNat:Nat):Int)=S:=aba WK;by_cases o:S<((G.outs (G.goal I)).length:Nat)
   ·rw[if_pos (by simpa using o)];have h:S.toNat < (G.outs (G.goal I)).length:=by lia
    have u:(G.outs (G.goal I)).getD S.toNat 0<G.ws.length:=by
     have:=getD_mem (d:=0) h;unfold NT.outs at this ⊢;rw[List.mem_filter,List.mem_range]at this;exact this.1
    left;obtain⟨E,J,A,L⟩:=xF.ins;calc gI A (gJ ⋯) ?_;refine bF l (show iQ _ S=some (.int (((G.outs (G.goal I)).getD S.toNat 0:Nat):Int)) from by
     rw[<-t];calc aA ?_;rw[List.getElem?_map];show Option.map _ (G.outs (G.goal I))[_]?=_;rw[Int.toNat_natCast,bq (d:=0) h];rfl) ?_
    have l:=(RS.tK.send (outs:=G.outs (G.goal I)) (ev:=G.ev r I) ((G.work r I k).cQ.take i) Q8 Q9).mono (show _<=19999 by simp;lia);calc⟨F,x,bD,G,_,ad,_,px,.ref ev,some (G.ev r I),rfl,xF,iL.fr (f13.trans R) M.cu.ur,u,(ND.aG R.aM).mono ∅,l,λt A E=>?_⟩;left;calc g9 ⟨_,_,rfl,rfl⟩ (R.trans A) ?_;rw[E4];show bY C CN CR F t x bD G (if S.toNat<_ then _ else _) ad;rw[if_pos h];exact E
   ·rw[if_neg (by simpa using o)];left;calc g9 ⟨_,_,rfl,rfl⟩ R ?_;rw[E4];show bY C CN CR F H' x bD G (if S.toNat<_ then _ else _) ad;rw[if_neg ()];exact xF
  ·intro σ H' iZ;obtain⟨⟨Ra,Rb,rfl⟩,R,xF⟩:=iZ;left;rw[hzl,List.take_length]at xF;calc q _ _ (f13.trans R) xF (ND.aG R.aM)
def _root_.DD.RS.oC(r:RS)(w:Nat):List Nat:=(List.range (r.ww w).say.length).filter λk=>((r.ww w).eB.getD k none).isNone
def Rg(r:RS)(w:Nat)(a:List Nat):List DV:=a.map λ(k:Nat)=>pairD (((k:Nat):Int),(r.ww w).say.getD k 0)
theorem fE{p:Nat->Bool}{i:Nat}:(List.range (i+1)).filter p=(List.range i).filter p++(if p i=true then[i] else[]):=by
 rw[List.range_succ,List.filter_append];congr 1
 cases h:p i<;>simp[h]
theorem Iy(c:∀b,Z b->∃o,H b=some o/\soft o){m:Nat}{x:V}{d:DV}(g:HT H m x d):HD (gY Z H) m x d:=by
 calc HT.hd (g.aG λb h e=>?_);rw[gn (λz=>by
  obtain⟨o,a,f⟩:=c b z;rw[e] at a;cases a;calc f)]
 calc e
structure sW(H0 H':Hp)(D:Addr)(as:List Addr)(n:Nat)(ct:Nat->Hp->List V->Prop):Prop where
 len:as.length=n
 nd:as.Nodup
 new:∀a∈as,H0 a=none/\a≠D
 ins:∀(j:Nat) a,as[j]?=some a->∃vs,H' a=some (.lst vs)/\ct j H' vs
theorem sW.nil{ct:Nat->Hp->List V->Prop}:sW H0 H' D [] 0 ct:=⟨rfl,List.nodup_nil,λa h=>by simp at h,λj a h=>by simp at h⟩
theorem sW.snoc{n:Nat}{ct:Nat->Hp->List V->Prop}(h:sW H0 H1 D as n ct)(p:aq H0 H1)(q:H1 D≠none)(g:H1 a=none){vs:List V}(e:H' a=some (.lst vs))(c:ct n H' vs)(s:∀b o,b≠D->H1 b=some o->H' b=some o)(f:∀j vs,ct j H1 vs->ct j H' vs):sW H0 H' D (as++[a]) (n+1) ct:=by
 refine⟨by simp[h.len],?_,λb d=>?_,λj b d=>?_⟩
 ·rw[List.nodup_append];calc g9 h.nd nofun (λb d c l=>?_);simp at l;subst l;intro z;subst z;obtain⟨j,k⟩:=aaE d;obtain⟨vs,i,_⟩:=h.ins j b k;rw[g]at i;cases i
 ·rcases List.mem_append.mp d with d | d
  ·exact h.new b d
  ·simp at d;subst d;refine⟨?_,λz=>q (z ▸ g)⟩
   cases r:H0 b with
   |none=>rfl
   |some o=>rw[p _ _ r]at g;cases g
 ·by_cases k:j < as.length
  ·rw[List.getElem?_append_left k]at d;obtain⟨vs,i,g⟩:=h.ins j b d;exact⟨vs,s _ _ (h.new b (aap d)).2 i,f _ _ g⟩
  ·rw[List.getElem?_append_right ()] at d
   cases m:j-as.length with
   |zero=>
    rw[m]at d;simp at d;subst d;have:j=n:=by have:=h.len;lia
    subst this;calc⟨vs,e,c⟩
   |succ k=>rw[m]at d;simp at d
theorem sW.keep{n:Nat}{ct:Nat->Hp->List V->Prop}(h:sW H0 H1 D as n ct)(s:∀(b:Addr) (vs:List V),H1 b=some (.lst vs)->H' b=some (.lst vs))(c:∀j vs,ct j H1 vs->ct j H' vs):sW H0 H' D as n ct:=
 ⟨h.len,h.nd,h.new,λj a e=>by
  obtain⟨vs,d,f⟩:=h.ins j a e;calc⟨vs,s _ _ d,c _ _ f⟩⟩
theorem lu{K:W.Frag}{ix:List (Option Nat)}{o:TE}{l:Addr}{xs vs:List V}(r:H l=some (.lst xs))(t:H D=none)(C:xs.length<=10)(v:∀x,Ext (tR ix σ) ((tR ix σ).set 0 (some x)))(d:∀g j (R:VK),(∀p,j p=none->R (.ref p) (upd j p (.lst vs)))->o g j R)(q:∀as H1,H1 D=some (.lst (as.map V.ref))->aq H H1->sW H H1 D as xs.length (λ_ _ ws=>ws=vs)->Q (.ref D) H1):kI ix (xN K l) (fL 0) iR o σ H Q D:=by
 refine bE (n:=xs.length) (λi ys H'=>∃as:List Addr,ys=as.map V.ref/\aq H H'/\sW H H' D as i (λ_ _ ws=>ws=vs)) (L' (small ())) ⟨[],rfl,aq.new _ t,sW.nil⟩ ?_ ?_ ?_ ?_
 ·rintro i ys H' k ⟨_,_,a,_⟩;exact⟨_,xs[i],aS.of (a _ _ r),cP k⟩
 ·rintro ys H' ⟨_,_,a,_⟩;exact⟨_,aS.of (a _ _ r),K' _⟩
 ·intro i ys H' k c u w y F z;obtain⟨as,rfl,a,m⟩:=w;obtain⟨rfl,g⟩:=z;calc⟨v y,?_⟩;simp only[iR,if_true];calc d _ _ _ λp g=>?_;have d:=aq.new (.lst vs) g;have i:p≠D:=Ne.symm (av c g);refine cy (d _ _ c) u k (L' (small ())) ⟨as++[p],nofun,λb o e=>?_,?_⟩
  ·rw[ay (av e t)];exact d _ _ (a _ _ e)
  ·refine m.snoc a (by rw[c];simp) g (vs:=vs) ?_ rfl (λb o a e=>?_) (λj vs e=>e)
   ·rw[ay i];exact af
   ·rw[ay a];exact d _ _ e
 ·intro ys H1 c u B;obtain⟨as,rfl,a,m⟩:=B;calc q as H1 c a m
abbrev mV:Stmt:=(bX (top 14)).getD 9 (.Pass ⟨0,0,0,0⟩)
inductive NG(C CN CR:Addr)(c:Nat->Addr)(vs:List V)(H:Hp)(Q:VK)(E:XK):Prop
 |mk (F:Addr->Prop) (x bD:Addr) (nt:NT) (r:RS) (ad:Nat->Nat->Addr) (m k:Int) (h0:vs=[.ref x,.int m,.int k]) (h1:bY C CN CR F H x bD nt r ad) (h2:FS F H) (h3:r.Ok nt) (h5:r.picks.length<=400) (h6:∀w i:Nat,m=w->k=i->r.xE nt w i->∀t H',Fr (FP nt.n ad) H H'->bY C CN CR F H' x bD nt (r.pick nt w i) ad->HT H' 1 t (pairD (nt.ev r w))->Q t H') (h7:¬Lies nt r m k->∀a dx H',aq H H'->H' a=some (XO a (c 4) (some dx) false)->H' dx=some (XD dx [("at",.int 0)])->E (.ref a) none H') (h8:∀w i:Nat,m=w->k=i->w<nt.ws.length->(r.ww w).eB[i]?=some none->¬r.xE nt w i->∀a dx H',aq H H'->H' a=some (XO a (c 5) (some dx) false)->H' dx=some (XD dx [("at",.int 0)])->E (.ref a) none H'):NG C CN CR c vs H Q E
def Iz(C CN CR:Addr)(c:Nat->Addr):Sp:=λvs H Q E=>NG C CN CR c vs H Q E
theorem Ba(D:gO K CR "pick" "Run.pick" mV ["self","way","number"])(T:Tx K mg C CN CR F FD)(o:tZ K mg B c)(p:fS P w K mg base CR "pick_at" 6 ["self","way","number","at"] (wW C CN CR c)):fS P w K mg base CR "pick" 7 ["self","way","number"] (Iz C CN CR c):=by
 have a:aD ["self","way","number"] ["self","way","number"] (az mV):=by walk_at "s"
 refine D.ES a (λo H Q E h=>?_) (λf t A a s H o Q E d h=>?_)
 ·obtain⟨F,x,bD,e,r,ad,m,k,rfl,b,g,i,j,q,l,n⟩:=h;rfl
 ·obtain⟨F,x,bD,e,r,ad,m,k,rfl,b,g,i,j,q,l,n⟩:=h;have a:=d.units;calc⟨_,(ao (aK (jW p jS T.aV d (au 0) (ag (au 1) (ag (au 2) (ag aj aa)))))),?_⟩;obtain⟨h,o,a,t⟩:=b.ins;left;calc gI a (gJ ⋯) ?_;calc⟨F,x,bD,e,r,ad,m,k,_,rfl,b,g,i,j,q,l,n⟩
abbrev lx:Stmt:=(bX (top 14)).getD 13 (.Pass ⟨0,0,0,0⟩)
def NH(C CN CR:Addr)(c:Nat->Addr):Sp:=λvs H Q E=>∃(F:Addr->Prop) (x bD:Addr) (nt:NT) (r:RS) (ad:Nat->Nat->Addr) (d:Int),vs=[.ref x,.int d]/\bY C CN CR F H x bD nt r ad/\r.Ok nt/\r.picks.length<=400/\(∀m:Nat,d=m->m<nt.ws.length->∀l ys H',aq H H'->H l=none->H' l=some (.lst ys)->dP (gY (λb=>b=l) H') 1 ys (Rg r m (r.oC m))->Q (.ref l) H')/\(¬(0<=d/\d<(nt.ws.length:Int))->∀a e H',aq H H'->H' a=some (XO a (c 4) (some e) false)->H' e=some (XD e [("at",.int 0)])->E (.ref a) none H')
theorem zi(D:gO K CR "lying" "Run.lying" lx ["self","way"])(T:Tx K mg C CN CR F FD)(v:tZ K mg B c)(dO:fS P w K mg base CR "need_way" 3 ["self","way","at"] (Il C CN CR c)):fS P w K mg base CR "lying" 4 ["self","way"] (NH C CN CR c):=by
 have sc:aD ["self","way","workers"] ["self","way"] (az lx):=by walk_at "s"
 refine D.ES sc (λvs H Q E h=>?_) (λf dD A v s H vs Q E hr h=>?_)
 ·obtain⟨F,x,bD,N,r,ad,mz,rfl,k,O,sC,q,qe⟩:=h;rfl
 ·obtain⟨F,x,bD,N,r,ad,mz,rfl,k,O,sC,q,qe⟩:=h;have v:=hr.units;refine⟨_,(ai (bS (jW dO jS T.aV hr (au 0) (ag (au 1) (ag aj aa))))
   (ai (aW (i:=2) sc.nd rfl Sort (ak v (bL (au 0) rfl) (au 1)))
   (ao (aK (dQ (N':=["number","said","workers"]) (ix:=[none,none,some 2]) (gX rfl T.cW (ag (ak v (bL (au 0) rfl) (au 1)) aa)) (λ_ _ _ _=>(lV (K:=K) rfl (i:=0) (j:=1) rfl (show(["number","said","workers"]:List Str).Nodup by decide +kernel) rfl rfl Sort Sort)) (λ_ _ _ _=>(jR (aC rF (dG (K:=K) rfl v (au 2) (au 0)) fK (aH _)))) (λ_ _ _ _=>(bb (ag (au 0) (ag (au 1) aa))))))))),?_⟩
  obtain⟨dx,o,R,ho⟩:=k.ins;left;calc gI R (gJ ⋯) ?_;calc⟨_,x,bD,N,r,ad,mz,_,rfl,k,λEl=>?_,λno a dx H' s' e1 e2=>qe no a dx H' s' e1 e2⟩;nofun;obtain⟨m,rfl⟩:=aac El.1;have h:m<N.ws.length:=by lia
  have q:=q m rfl h;have v:=(ho 6 ∅ ∅).1;have x:=(ho 4 ∅ ∅).1;obtain⟨A,e6,d6⟩:=k.cu.lst (t:=6) (i:=m) h rfl;obtain⟨p,u,A⟩:=k.cu.lst (t:=4) (i:=m) h rfl;ac_rfl;have z4:=A.jU;have k:=O.lk m h;have k:=O.bs m h;left;calc fG R T.aV T.dg Ii ?_;left;calc bF v (aZ h) ?_;left;calc bV ?_;left;calc fG R T.aV T.bJ Ek ?_;left;calc bF x (aZ h) ?_;left;calc DQ true p (Sq.l u) (λD S=>?_);have zl:p.length=(r.ww m).say.length:=by rw[z4];simp
  refine bE (J:=M4 true K (ad 4 m)) (n:=p.length) (λi ys H'=>aq H H'/\dP (gY (λb=>b=D) H') 1 ys (Rg r m ((List.range i).filter λk=>((r.ww m).eB.getD k none).isNone))) (L' (small ())) ⟨aq.new _ S,show dP _ 1 [] [] from dP.nil⟩ ?_ ?_ ?_ ?_
  ·rintro i ys H' U ⟨g,_⟩;exact⟨p,p[i],Sq.l (g _ _ u),cP U⟩
  ·rintro ys H' ⟨g,_⟩;exact⟨p,Sq.l (g _ _ u),rfl⟩
  ·intro i ys H' U W hl yK h k yL;nofun;obtain⟨g,I⟩:=yK;obtain⟨t,ht,rfl,y⟩:=yL;obtain⟨xw,ex,rfl⟩:=y p (Sq.l (g _ _ u));have h:i < (r.ww m).say.length:=by lia
   have X:xw=.int ((r.ww m).say.getD i 0):=by
    rw[z4,List.getElem?_map,bq (d:=0) h]at ex
    cases ex;rfl
   subst X;have Y:=aq.new (.tup [.int (i:Nat),.int ((r.ww m).say.getD i 0)]) ht;have oQ:upd H' t (.tup [.int (i:Nat),.int ((r.ww m).say.getD i 0)]) t=some (.tup [.int (i:Nat),.int ((r.ww m).say.getD i 0)]):=af;have wU:=Y _ _ W;have qC:=g.trans Y;have WM:dP (gY (λb=>b=D) (upd H' t (.tup [.int (i:Nat),.int ((r.ww m).say.getD i 0)]))) 1 ys _:=I.cv (Fr.gY Y.fr);generalize hG:upd H' t (.tup [.int (i:Nat),.int ((r.ww m).say.getD i 0)])=G at *;ac_rfl;calc yC (bH.of oQ) ⟨Ext.set (Ext.set (Ext.refl _) rfl) rfl,?_⟩;left;obtain⟨v,h,L⟩:=d6.get (i:=i) (d:=tJ ((r.ww m).eB.getD i none)) (by rw[List.getElem?_map,bq (d:=none) ()];rfl);calc bF (qC _ _ e6) (aA h) ?_;left
   cases M:(r.ww m).eB.getD i none with
   |none=>
    rw[M]at L;have:=sR L;subst this;left
    try rw[if_pos rfl]
    calc⟨bP,λh Rh=>?_⟩;have s3:=aq.new (.tup [.int (i:Nat),.int ((r.ww m).say.getD i 0)]) Rh;have nD:h≠D:=λz=>by rw[z,wU]at Rh;cases Rh
    refine cy (s3 _ _ wU) hl U (L' (small ())) ⟨λc o e=>?_,?_⟩
    ·rw[ay (av e S)];exact s3 _ _ (qC _ _ e)
    ·rw[B5 (Z:=λb=>b=D) rfl,fE,if_pos (by rw[M];rfl)];unfold Rg;rw[List.map_append];calc(WM.cv (Fr.gY s3.fr)).snoc ?_;calc(cJ (n:=0) ?_ (.int _) (.int _)).hd;rw[gn (Z:=λb=>b=D) nD];calc af
   |some e=>
    rw[M]at L;obtain⟨ae,rfl,h⟩:=oA L;left
    try rw[if_neg ∅]
    exact⟨_,wU,(),qC,by rw[fE,if_neg (by rw[M];simp),List.append_nil];calc WM⟩
  ·rintro ys H' W hl ⟨g,I⟩;rw[zl]at I;calc q _ ys _ g S W I
theorem vn{CR x a:Addr}{C:Hp}{f:List (Str×V)}(c:List (Str×V))(s:aq C H)(d:H x=some (.ins CR a f)):∃G,upd H x (.ins CR a c)=G/\G x=some (.ins CR a c)/\(∀b o,b≠x->C b=some o->G b=some o)/\(∀b vs,H b=some (.lst vs)->G b=some (.lst vs))/\cq H G:=⟨_,rfl,af,λb o n e=>by rw[ay n];calc s _ _ e,λb vs e=>by rw[ay (λz=>by rw[z,d]at e;cases e)];calc e,λb vs e=>by rw[ay (λz=>by rw[z,d]at e;cases e)];calc e⟩
theorem fU{C:Hp}{d:Addr}(a:List (Key×V))(s:aq C H):∃G,upd H d (.dK a)=G/\G d=some (.dK a)/\(∀b o,b≠d->C b=some o->G b=some o)/\(∀b o,b≠d->H b=some o->G b=some o):=⟨_,rfl,af,λb o n e=>by rw[ay n];calc s _ _ e,λb o n e=>by rw[ay n];calc e⟩
theorem pR:∀(a:List (Int×Int)) {r:RS}{p:Int×Int},r.kK (a++[p])=(r.kK a).put p.1.toNat p.2 none
 | [],r,p=>rfl
 |q::a,r,p=>pR a
theorem Bb{nt:NT}(j:nt.Ok):(RS.new nt).tK nt 0:=by
 refine⟨λm e=>rfl,λm e=>rfl,λm e s d=>?_,λm e h f=>?_,λv i=>rfl,λv i=>rfl,λv i a c d=>?_,λm e=>K' _,λm e u b=>?_,λv i=>K' _,λm e u b=>?_⟩
 ·have g:=j.gd e;have d:s ∈ [((nt.ms.getD m default).ns,(nt.ms.getD m default).row)]:=d;simp at d;subst d;exact⟨rfl,g.bn,g.r12⟩
 ·have f:h∈([]:List (List Int)):=f;simp at f
 ·have d:some (a,c)∈([]:List (Option (Int×Int))):=d;simp at d
 ·have b:u∈([[]]:List (List Int)):=b;simp at b;subst b;exact K' _
 ·have b:u∈([[]]:List (List Int)):=b;simp at b;subst b;calc List.nil_prefix
theorem qY{nt:NT}:∀(b:List (Int×Int)) {r:RS}{B:Nat},r.tK nt B->(r.kK b).tK nt (B+b.length)
 | [],r,B,h=>h
 |p::b,r,B,h=>by
  have e:B+(p::b).length=B+1+b.length:=by simp;lia
  rw[e];calc qY b (h.put (λa c z=>by cases z))
theorem sY:∀(a:List (Int×Int)) {r:RS},(r.kK a).picks=r.picks
 | [],r=>rfl
 |p::a,r=>sY a
theorem oE{nt:NT}(a:nt.Ok){ls:List (Int×Int)}(h:ls.length<=20):(RS.begin nt ls).Ok nt/\(RS.begin nt ls).picks=[]:=by
 have e:(RS.begin nt ls).picks=[]:=sY ls;calc⟨(qY ls (Bb a)).ok ?_,e⟩;show 0+ls.length<=20+24*(RS.begin nt ls).picks.length;rw[e];simp;lia
structure qp(H0 H':Hp)(D:Addr)(as:List Addr)(n:Nat)(ct:Nat->Hp->HO->Prop):Prop where
 len:as.length=n
 nd:as.Nodup
 new:∀a∈as,H0 a=none/\a≠D
 ins:∀(j:Nat) a,as[j]?=some a->∃o,H' a=some o/\ct j H' o
theorem sW.o{n:Nat}{ct:Nat->Hp->List V->Prop}(h:sW H0 H' D as n ct):qp H0 H' D as n (λj H u=>∃vs,u=.lst vs/\ct j H vs):=⟨h.len,h.nd,h.new,λj a e=>by
 obtain⟨vs,a,b⟩:=h.ins j a e;calc⟨_,a,_,rfl,b⟩⟩
theorem sW.some{n:Nat}{ct:Nat->Hp->List V->Prop}(h:sW H0 H1 D as n ct)(s:aq H1 H2):∀a∈as,H2 a≠none:=λa m=>by
 obtain⟨j,e⟩:=aaE m;obtain⟨b,e,_⟩:=h.ins j a e;rw[s _ _ e];calc λz=>nomatch z
theorem CI{F:Addr->Prop}{G:Hp}{n:Nat->Nat}{c:Nat->Nat->CO}(g:Nat->Hp)(k:Nat->Nat)(p:Nat->List Addr)(o:Nat->Addr)(ct:Nat->Nat->Hp->HO->Prop)(W:∀t i,ad t i=(p t).getD i 0)(X:∀t,n (t+7)=0)(K:∀t t',t<=6->t'<=6->k t=k t'->t=t')(B:∀t b,g t b≠none->g (t+1) b≠none)(C:∀b,F b->g 0 b≠none/\∃u,G b=some u/\soft u)
  (q:∀t,t<=6->qp (g (k t)) G (o t) (p t) (n t) (ct t)/\(∀a∈p t,g (k t+1) a≠none)/\(1<=t->g (k t) (o t)=none/\g (k t+1) (o t)≠none)) (Y:∀t i u,t<=6->ct t i G u->soft u)
  (Z:(∀b,F b\/FP n ad b->∃u,G b=some u/\soft u)->(∀s D,g s D=none->g (s+1) D≠none->(∀t,t<=6->k t=s->¬D∈p t)->¬(F D\/FP n ad D))->∀t i u,t<=6->i<n t->G (ad t i)=some u->ct t i G u->OR (gY (λb=>F b\/FP n ad b) G) (c t i) u):
  eu F G n ad c/\(∀b,FP n ad b->g 0 b=none/\∃u,G b=some u/\soft u)/\∀t,1<=t->t<=6->¬F (o t)/\¬FP n ad (o t)/\(p t).map V.ref=kr n ad t:=by
 have r:∀t i,i<n t->t<=6:=λt i h=>Classical.byContradiction λz=>by
  have:=X (t-7);rw[show t-7+7=t by lia]at this;lia
 have up:∀(d t:Nat) (b:Addr),g t b≠none->g (t+d) b≠none:=λd=>by
  induction d with
  |zero=>calc λt b h=>h
  |succ d o=>exact λt b h=>B _ _ (o t b h)
 have v:∀s o b,s<=o->g s b≠none->g o b≠none:=λs o b h e=>by
  have:=up (o-s) s b e;rwa [show s+(o-s)=o by lia]at this
 have w:∀t i,i<n t->(p t)[i]?=some (ad t i)/\g (k t) (ad t i)=none/\g (k t+1) (ad t i)≠none/\∃u,G (ad t i)=some u/\ct t i G u:=λt i j=>by
  obtain⟨h,x,_⟩:=q t (r t i j);have e:(p t)[i]?=some (ad t i):=by rw[W];exact bq (by rw[h.len];calc j)
  have m:=aap e;exact⟨e,(h.new _ m).1,x _ m,h.ins _ _ e⟩
 have L:∀s D,g s D=none->g (s+1) D≠none->(∀t,t<=6->k t=s->¬D∈p t)->¬(F D\/FP n ad D):=λs D M x hn z=>by
  rcases z with z|⟨t,i,j,rfl⟩
  ·exact v 0 s D (aaa _) (C D z).1 M
  ·obtain⟨e,I,y,_⟩:=w t i j;rcases Nat.lt_trichotomy s (k t) with l | l | l
   ·exact v _ _ _ l x I
   ·exact hn t (r t i j) l.symm (aap e)
   ·exact v _ _ _ l y M
 have N:∀b,FP n ad b->g 0 b=none/\∃u,G b=some u/\soft u:=λb ⟨t,i,j,e⟩=>by
  subst e;obtain⟨_,I,_,u,y,J⟩:=w t i j;exact⟨Classical.byContradiction λz=>v 0 _ _ (aaa _) z I,u,y,Y t i u (r t i j) J⟩
 refine⟨⟨λt i t' O j P e=>?_,λt i j z=>?_,λt i j=>?_⟩,N,λt x R=>?_⟩
 ·obtain⟨a1,a2,a3,_⟩:=w t i j;obtain⟨S,T,U,_⟩:=w t' O P;rw[<-e]at S T U;have es:k t=k t':=by
   rcases Nat.lt_trichotomy (k t) (k t') with l|l|l
   ·exact absurd T (v _ _ _ l a3)
   ·exact l
   ·exact absurd a2 (v _ _ _ l U)
  have:=K t t' (r t i j) (r t' O P) es;subst this;have h:=(q t (r t i j)).1;exact⟨rfl,(List.getElem?_inj (by rw[h.len];calc j) h.nd).mp (a1.trans S.symm)⟩
 ·exact v 0 _ _ (aaa _) (C _ z).1 (w t i j).2.1
 ·obtain⟨_,_,_,u,y,J⟩:=w t i j;exact⟨u,y,Z (λb z=>z.elim (λh=>(C b h).2) λh=>(N b h).2) L t i u (r t i j) j y J⟩
 ·obtain⟨h,_,g⟩:=q t R;have:=L _ _ (g x).1 (g x).2 (λt' h' e m=>by
   have:=K t' t h' R e;subst this;calc(h.new _ m).2 rfl)
  calc⟨λz=>this (.inl z),λz=>this (.inr z),?_⟩;unfold kr;apply List.ext_getElem (by simp[h.len]);intro j k g;have i:j<n t:=by simpa using g
  simp only[List.getElem_map,List.getElem_range];congr 1;calc(List.getElem_eq_iff _).mpr (w t j i).1
theorem L9{CN:Addr}{f:List Addr}{c:List Addr}{d e:List V}(h:k8 CN H bD f wv lv)(h':k8 CN H bD c d e):lv=e:=by
 obtain⟨d,e,f,i,c,j,k,g⟩:=h;obtain⟨d,e,f,i,a,j,k,b⟩:=h';rw[c]at a
 cases a;rw[g]at b
 cases b;rfl
theorem wX{C c:Addr}{p:Str×V}{l:List (Str×V)}(h:some (HO.ins C a [])=some (HO.ins c b (p::l))):False:=by cases h
abbrev IA:Stmt:=(bX (top 14)).getD 0 (.Pass ⟨0,0,0,0⟩)
inductive IB(C CN CR:Addr)(vs:List V)(H:Hp)(Q:VK):Prop
 |mk (F:Addr->Prop) (x dx bD:Addr) (nt:NT) (ls:List (Int×Int)) (ms:List Addr) (wv lv:List V) (h0:vs=[.ref x,.ref bD]) (h1:H x=some (.ins CR dx [])) (h2:sI C CN H bD nt) (h3:k8 CN H bD ms wv lv) (h4:eW H 1 lv (ls.map mI)) (h5:ls.length<=20) (h6:∀l∈ls,0<=l.1/\l.1<nt.ws.length) (iL:FS F H) (h7:∀ad H',(∀b o,b≠x->H b=some o->H' b=some o)->(∀b,FP nt.n ad b->H b=none)->bY C CN CR F H' x bD nt (RS.begin nt ls) ad->Q .bx H'):IB C CN CR vs H Q
def CJ(C CN CR:Addr):Sp:=λvs H Q _=>IB C CN CR vs H Q
theorem WO(D:DE K mg "Run" CR "Run.__init__" IA ["self","net"])(T:Tx K mg C CN CR F FD)(eI:eP P w K mg base C "first_state" 1 ["self"] (HJ C))(jh:eP P w K mg base CN "letters" 1 ["self"] (qm CN))(cL:eP P w K mg base CN "machines" 1 ["self"] (j2 CN))(di:eP P w K mg base CN "ways" 1 ["self"] (oy CN))(cZ:eP P w K mg base CR "put_letter" 1 ["self","way","said","sender"] (sO C CN CR)):yj P w K mg base "Run" CR 2 ["self","net"] (CJ C CN CR):=by
 have sc:aD ["self","net","way","said"] ["self","net"] (az IA):=by walk_at "s"
 symm;obtain⟨FF,x,y,bD,k,ls,ms0,wv0,lv,rfl,S,hn,hf0,Ka,ij,mj,iL,q⟩:=h;have hu:=hr.units;refine⟨_,(ai (fN (au 0) (au 1) (ff rfl))
  (ai (fN (au 0) (bM aa) (ff rfl))
  (ai (fN (au 0) (dQ (N':=["machine"]) (ix:=[none]) (cA (gP cL T.de hr (au 1))) (λ_ _ _ _=>(aX (i:=0) (show(["machine"]:List Str).Nodup by decide +kernel) rfl Sort)) pw (λ_ _ _ _=>(bM (ag (gP eI T.cO hr (au 0)) aa)))) rfl)
  (ai (fN (au 0) (dQ (N':=["machine"]) (ix:=[none]) (cA (gP cL T.de hr (au 1))) (λ_ _ _ _=>(aX (i:=0) (show(["machine"]:List Str).Nodup by decide +kernel) rfl Sort)) pw (λ_ _ _ _=>(bM (ag aj aa)))) rfl)
  (ai (fN (au 0) (dQ (N':=["machine"]) (ix:=[none]) (cA (gP cL T.de hr (au 1))) (λ_ _ _ _=>(aX (i:=0) (show(["machine"]:List Str).Nodup by decide +kernel) rfl Sort)) pw (λ_ _ _ _=>(bM aa))) rfl)
  (ai (fN (au 0) (dQ (N':=["way"]) (ix:=[none]) (cA (gP di T.de hr (au 1))) (λ_ _ _ _=>(aX (i:=0) (show(["way"]:List Str).Nodup by decide +kernel) rfl Sort)) pw (λ_ _ _ _=>(bM aa))) rfl)
  (ai (fN (au 0) (dQ (N':=["way"]) (ix:=[none]) (cA (gP di T.de hr (au 1))) (λ_ _ _ _=>(aX (i:=0) (show(["way"]:List Str).Nodup by decide +kernel) rfl Sort)) pw (λ_ _ _ _=>(bM aa))) rfl)
  (ai (fN (au 0) (dQ (N':=["way"]) (ix:=[none]) (cA (gP di T.de hr (au 1))) (λ_ _ _ _=>(aX (i:=0) (show(["way"]:List Str).Nodup by decide +kernel) rfl Sort)) pw (λ_ _ _ _=>(bM aa))) rfl)
  (ao (eZ PassesOwn.never rfl (cA (gP jh T.de hr (au 1))) (fm (i:=2) (j:=3) rfl sc.nd rfl rfl Sort Sort)
  (ao (bS (ko cZ T.aV hr (au 0) (ag (au 2) (ag (au 3) (ag fK aa)))))))))))))))),?_⟩
 have aU:=hn.ok;nofun;obtain⟨⟨ms,wv,N,hf,oR,zG,Nz⟩,_⟩:=id hn;obtain⟨Z,a1,b1,c1,I,g2,g3,g4⟩:=id hf;have PZ:N=lv:=L9 hf hf0;subst PZ;ac_rfl;have HL:(ms.map V.ref).length<=5:=by simp[oR];exact aU.Zc
 have jP:wv.length=k.ws.length:=by simpa using Nz.1
 have oj:wv.length<=10:=by rw[jP];exact aU.AE
 have O:bD≠x:=λz=>by rw[z,S]at I;exact wX I
 have NJ:a1≠x:=Bp g2 S (λz=>nomatch z);have NK:b1≠x:=Bp g3 S (λz=>nomatch z);have NL:c1≠x:=Bp g4 S (λz=>nomatch z);left;refine qA x CR y _ rfl S T.aV T.df ∅ ?_;have hxa:upd H x (.ins CR y (ba "own_net" (.ref bD) [])) x=some (.ins CR y (ba "own_net" (.ref bD) [])):=af;have nxa:∀b o,b≠x->H b=some o->upd H x (.ins CR y (ba "own_net" (.ref bD) [])) b=some o:=λb o n e=>by rw[ay n];exact e
 generalize hGa:upd H x (.ins CR y (ba "own_net" (.ref bD) []))=Ga at *;left;refine⟨aaa _,λp hp=>?_⟩;have sp0:=aq.new (.lst []) hp;have ep0:upd Ga p (.lst []) p=some (.lst []):=af;generalize hGb:upd Ga p (.lst [])=Gb at *;left;refine qA x CR y _ rfl (sp0 _ _ hxa) T.aV T.cX (bQ (n:=999) ∅) ?_;have K0:upd Gb x (.ins CR y (ba "picks_done" (.ref p) (ba "own_net" (.ref bD) []))) x=some (.ins CR y (ba "picks_done" (.ref p) (ba "own_net" (.ref bD) []))):=af;have ka:∀b o,b≠x->Ga b=some o->upd Gb x (.ins CR y (ba "picks_done" (.ref p) (ba "own_net" (.ref bD) []))) b=some o:=λb o n e=>by rw[ay n];exact sp0 _ _ e
 have npx:p≠x:=Ne.symm (av hxa hp);have ep:upd Gb x (.ins CR y (ba "picks_done" (.ref p) (ba "own_net" (.ref bD) []))) p=some (.lst []):=by rw[ay npx];exact ep0
 generalize hG0:upd Gb x (.ins CR y (ba "picks_done" (.ref p) (ba "own_net" (.ref bD) [])))=G0 at *;have NM:∀b o,b≠x->H b=some o->G0 b=some o:=λb o n e=>ka b o n (nxa b o n e);left;refine bV ?_;left;refine gI (NM _ _ O I) (eO ⋯ ⋯ ⋯) ?_;refine fW bD ms wv N rfl ⟨Z,a1,b1,c1,NM _ _ O I,NM _ _ NJ g2,NM _ _ NK g3,NM _ _ NL g4⟩ (λZp acD=>?_);have Rk:=aq.new (.lst (ms.map V.ref)) acD;have Em:upd G0 Zp (.lst (ms.map V.ref)) Zp=some (.lst (ms.map V.ref)):=af;generalize ai8:upd G0 Zp (.lst (ms.map V.ref))=WQ at *;left;refine .inl ⟨⟨_,aS.of Em⟩,λW EZ=>?_⟩;refine bE (J:=xN K Zp) (n:=(ms.map V.ref).length) (λi ys H'=>∃as:List Addr,ys=as.map V.ref/\aq WQ H'/\sW WQ H' W as i (λj H' vs=>∃v,vs=[v]/\HT H' 2 v (yq (k.ms.getD j default).ns (k.ms.getD j default).row))) (L' (small ())) ⟨[],rfl,aq.new _ EZ,sW.nil⟩ ?_ ?_ ?_ ?_
 ·rintro i ys H' hi ⟨_,_,s3,_⟩;exact⟨_,(ms.map V.ref)[i],aS.of (s3 _ _ Em),cP hi⟩
 ·rintro ys H' ⟨_,_,s3,_⟩;exact⟨_,aS.of (s3 _ _ Em),K' _⟩
 ·intro i ys H' hi l hl iY xx H4 iZ;nofun;obtain⟨as,rfl,s3,hL⟩:=iY;obtain⟨rfl,hy⟩:=iZ;ac_rfl;have ex:=hy _ (aS.of (s3 _ _ Em));calc⟨Ext.set (Ext.refl _) rfl,?_⟩;left
  try rw[if_pos trivial]
  have him:i<ms.length:=by simpa using hi
  have exm:xx=.ref ms[i]:=by
   rw[List.getElem?_map,cP him]at ex
   cases ex;rfl
  nofun;subst exm;have Ma:i<k.ms.length:=by lia
  have nmx:ms[i]≠x:=λz=>by
   obtain⟨d1,s1,d2,X,_⟩:=zG i ms[i] _ (cP him) (bq (d:=default) Ma);rw[z,S]at X;exact wX X
  have SM:Sx C H4 ms[i] (k.ms.getD i default):=by
   obtain⟨d1,s1,d2,X,w2,w3⟩:=zG i ms[i] _ (cP him) (bq (d:=default) Ma);have tt:cq H H4:=λb xs e=>s3 _ _ (Rk _ _ (NM b _ (λz=>by rw[z,S]at e;cases e) e));exact⟨d1,s1,d2,s3 _ _ (Rk _ _ (NM _ _ nmx X)),w2.aG tt,w3.aG tt⟩
  obtain⟨d1,s1,d2,X,w2,w3⟩:=id SM;ac_rfl;calc mth X (Ck ⋯ ⋯ ⋯) ?_;calc⟨ms[i],_,_,_,_,rfl,SM,λst oO=>?_⟩;left;calc⟨L' (small nofun),λp hp=>?_⟩;have sN:=aq.new (.lst [st]) hp;have nD:p≠W:=Ne.symm (av l hp);refine cy (sN _ _ l) hl hi (L' (small ())) ⟨as++[p],nofun,λb o e=>?_,?_⟩
  ·rw[ay (av e EZ)];exact sN _ _ (s3 _ _ e)
  ·refine hL.snoc s3 (by rw[l];simp) hp (vs:=[st]) ?_ ⟨st,rfl,oO.aG (λb xs e=>by rw[ay (λz=>by rw[z,l] at e;cases e)];calc sN _ _ e)⟩ (λb o nb e=>?_) (λj vs ⟨v,e,h⟩=>⟨v,e,h.aG (λb xs e=>by rw[ay (λz=>by rw[z,l] at e;cases e)];calc sN _ _ e)⟩)
   ·rw[ay nD];exact af
   ·rw[ay nb];exact sN _ _ e
 intro ys H1 l hl qB;obtain⟨A1,rfl,SN,Zq⟩:=qB;have WR:=SN _ _ (Rk _ _ K0);left;refine qA x CR y _ rfl WR T.aV T.cf (bQ (n:=999) (bQ (n:=998) ∅)) ?_;obtain⟨G1,SG,qL,Zr,WT,acF⟩:=vn (ba "states_had" (.ref W) (ba "picks_done" (.ref p) (ba "own_net" (.ref bD) []))) SN WR;rw[SG];have WU:=WT _ _ l;clear SG;have kg1:∀b o,b≠x->G0 b=some o->G1 b=some o:=λb o n e=>Zr b o n (Rk _ _ e);have SO:∀b o,b≠x->H b=some o->G1 b=some o:=λb o n e=>kg1 b o n (NM b o n e);have fD1:WQ W=none:=EZ;clear l;left;refine bV ?_;left;refine gI (SO _ _ O I) (eO ⋯ ⋯ ⋯) ?_;refine fW bD ms wv N rfl ⟨Z,a1,b1,c1,SO _ _ O I,SO _ _ NJ g2,SO _ _ NK g3,SO _ _ NL g4⟩ (λlm2 acI=>?_);have SQ:=aq.new (.lst (ms.map V.ref)) acI;have uv:upd G1 lm2 (.lst (ms.map V.ref)) lm2=some (.lst (ms.map V.ref)):=af;generalize ajb:upd G1 lm2 (.lst (ms.map V.ref))=Gd2 at *;left;refine .inl ⟨⟨_,aS.of uv⟩,λD2 Ef=>?_⟩;refine lu (vs:=[V.int 0]) uv Ef () (λ_=>Ext.set (Ext.refl _) rfl) (λ_ _ _ r=>And.intro ∅ r) ?_;intro A2 H2 l Rl Zs;have WV:=Rl _ _ (SQ _ _ qL);left;refine qA x CR y _ rfl WV T.aV T.dX (bQ (n:=999) (bQ (n:=998) (bQ (n:=997) ∅))) ?_;obtain⟨G2,AQ,Eb,SR,WW,ajc⟩:=vn (ba "words_had" (.ref D2) (ba "states_had" (.ref W) (ba "picks_done" (.ref p) (ba "own_net" (.ref bD) [])))) Rl WV;rw[AQ];have SS:=WW _ _ l;clear AQ;have kg2:∀b o,b≠x->G1 b=some o->G2 b=some o:=λb o n e=>SR b o n (SQ _ _ e);have SU:∀b o,b≠x->H b=some o->G2 b=some o:=λb o n e=>kg2 b o n (SO b o n e);have V6:Gd2 D2=none:=Ef;clear l;left;refine bV ?_;left;refine gI (SU _ _ O I) (eO ⋯ ⋯ ⋯) ?_;refine fW bD ms wv N rfl ⟨Z,a1,b1,c1,SU _ _ O I,SU _ _ NJ g2,SU _ _ NK g3,SU _ _ NL g4⟩ (λlm3 acL=>?_);have SV:=aq.new (.lst (ms.map V.ref)) acL;have WX:upd G2 lm3 (.lst (ms.map V.ref)) lm3=some (.lst (ms.map V.ref)):=af;generalize ajd:upd G2 lm3 (.lst (ms.map V.ref))=Gd3 at *;left;refine .inl ⟨⟨_,aS.of WX⟩,λD3 Eg=>?_⟩;refine lu (vs:=[]) WX Eg () (λ_=>Ext.set (Ext.refl _) rfl) (λ_ _ _ r=>And.intro ∅ r) ?_;intro A3 H3 l Rm Zt;have WZ:=Rm _ _ (SV _ _ Eb);left;refine qA x CR y _ rfl WZ T.aV T.cF (bQ (n:=999) (bQ (n:=998) (bQ (n:=997) (bQ (n:=996) ∅)))) ?_;obtain⟨G3,QX,Kf,SW,W0,aje⟩:=vn (ba "words_said" (.ref D3) (ba "words_had" (.ref D2) (ba "states_had" (.ref W) (ba "picks_done" (.ref p) (ba "own_net" (.ref bD) []))))) Rm WZ;rw[QX];have SX:=W0 _ _ l;clear QX;have kg3:∀b o,b≠x->G2 b=some o->G3 b=some o:=λb o n e=>SW b o n (SV _ _ e);have SY:∀b o,b≠x->H b=some o->G3 b=some o:=λb o n e=>kg3 b o n (SU b o n e);have V9:Gd3 D3=none:=Eg;clear l;left;refine bV ?_;left;refine gI (SY _ _ O I) (eO ⋯ ⋯ ⋯) ?_;refine fW bD ms wv N rfl ⟨Z,a1,b1,c1,SY _ _ O I,SY _ _ NJ g2,SY _ _ NK g3,SY _ _ NL g4⟩ (λlm4 acO=>?_);have S0:=aq.new (.lst wv) acO;have W2:upd G3 lm4 (.lst wv) lm4=some (.lst wv):=af;generalize ajf:upd G3 lm4 (.lst wv)=Gd4 at *;left;refine .inl ⟨⟨_,aS.of W2⟩,λD4 S8=>?_⟩;refine lu (vs:=[]) W2 S8 () (λ_=>Ext.set (Ext.refl _) rfl) (λ_ _ _ r=>And.intro ∅ r) ?_;intro A4 H4 l NN Zu;have W3:=NN _ _ (S0 _ _ Kf);left;refine qA x CR y _ rfl W3 T.aV T.bJ (bQ (n:=999) (bQ (n:=998) (bQ (n:=997) (bQ (n:=996) (bQ (n:=995) ∅))))) ?_;obtain⟨G4,Q4,QY,S9,W4,ajg⟩:=vn (ba "letters_say" (.ref D4) (ba "words_said" (.ref D3) (ba "words_had" (.ref D2) (ba "states_had" (.ref W) (ba "picks_done" (.ref p) (ba "own_net" (.ref bD) [])))))) NN W3;rw[Q4];have Ta:=W4 _ _ l;clear Q4;have kg4:∀b o,b≠x->G3 b=some o->G4 b=some o:=λb o n e=>S9 b o n (S0 _ _ e);have Tb:∀b o,b≠x->H b=some o->G4 b=some o:=λb o n e=>kg4 b o n (SY b o n e);have fD4:Gd4 D4=none:=S8;clear l;left;refine bV ?_;left;refine gI (Tb _ _ O I) (eO ⋯ ⋯ ⋯) ?_;refine fW bD ms wv N rfl ⟨Z,a1,b1,c1,Tb _ _ O I,Tb _ _ NJ g2,Tb _ _ NK g3,Tb _ _ NL g4⟩ (λlm5 acS=>?_);have Tc:=aq.new (.lst wv) acS;have W5:upd G4 lm5 (.lst wv) lm5=some (.lst wv):=af;generalize ajh:upd G4 lm5 (.lst wv)=Gd5 at *;left;refine .inl ⟨⟨_,aS.of W5⟩,λD5 Cg=>?_⟩;refine lu (vs:=[]) W5 Cg () (λ_=>Ext.set (Ext.refl _) rfl) (λ_ _ _ r=>And.intro ∅ r) ?_;intro A5 H5 l NO Zv;have W6:=NO _ _ (Tc _ _ QY);left;refine qA x CR y _ rfl W6 T.aV T.ft (bQ (n:=999) (bQ (n:=998) (bQ (n:=997) (bQ (n:=996) (bQ (n:=995) (bQ (n:=994) ∅)))))) ?_;obtain⟨G5,SE,E2,Td,W7,aji⟩:=vn (ba "senders" (.ref D5) (ba "letters_say" (.ref D4) (ba "words_said" (.ref D3) (ba "words_had" (.ref D2) (ba "states_had" (.ref W) (ba "picks_done" (.ref p) (ba "own_net" (.ref bD) []))))))) NO W6;rw[SE];have Te:=W7 _ _ l;clear SE;have kg5:∀b o,b≠x->G4 b=some o->G5 b=some o:=λb o n e=>Td b o n (Tc _ _ e);have Tf:∀b o,b≠x->H b=some o->G5 b=some o:=λb o n e=>kg5 b o n (Tb b o n e);have fD5:Gd5 D5=none:=Cg;clear l;left;refine bV ?_;left;refine gI (Tf _ _ O I) (eO ⋯ ⋯ ⋯) ?_;refine fW bD ms wv N rfl ⟨Z,a1,b1,c1,Tf _ _ O I,Tf _ _ NJ g2,Tf _ _ NK g3,Tf _ _ NL g4⟩ (λlm6 acW=>?_);have Tg:=aq.new (.lst wv) acW;have W8:upd G5 lm6 (.lst wv) lm6=some (.lst wv):=af;generalize ajj:upd G5 lm6 (.lst wv)=Gd6 at *;left;refine .inl ⟨⟨_,aS.of W8⟩,λD6 W9=>?_⟩;refine lu (vs:=[]) W8 W9 () (λ_=>Ext.set (Ext.refl _) rfl) (λ_ _ _ r=>And.intro ∅ r) ?_;intro A6 H6 l Rn Zw;have Xa:=Rn _ _ (Tg _ _ E2);left;refine qA x CR y _ rfl Xa T.aV T.dg (bQ (n:=999) (bQ (n:=998) (bQ (n:=997) (bQ (n:=996) (bQ (n:=995) (bQ (n:=994) (bQ (n:=993) ∅))))))) ?_;obtain⟨U,T,Wo,Th,Xb,ajk⟩:=vn (ba "workers" (.ref D6) (ba "senders" (.ref D5) (ba "letters_say" (.ref D4) (ba "words_said" (.ref D3) (ba "words_had" (.ref D2) (ba "states_had" (.ref W) (ba "picks_done" (.ref p) (ba "own_net" (.ref bD) [])))))))) Rn Xa;rw[T];have Ti:=Xb _ _ l;clear T;have kg6:∀b o,b≠x->G5 b=some o->U b=some o:=λb o n e=>Th b o n (Tg _ _ e);have L:∀b o,b≠x->H b=some o->U b=some o:=λb o n e=>kg6 b o n (Tf b o n e);have fD6:Gd6 D6=none:=W9;clear l;have g:∀(G T:Hp),(∀b o,b≠x->G b=some o->T b=some o)->(∃fs,G x=some (.ins CR y fs))->(∀b vs,G b=some (.lst vs)->T b=some (.lst vs))/\cq G T:=λG T h ⟨fs,e⟩=>⟨λb vs M=>h b _ (λz=>by rw[z,e]at M;cases M) M,λb vs M=>h b _ (λz=>by rw[z,e]at M;cases M) M⟩
 have Mb:=kg6;have NP:∀b o,b≠x->G4 b=some o->U b=some o:=λb o n e=>Mb b o n (kg5 b o n e);have NQ:∀b o,b≠x->G3 b=some o->U b=some o:=λb o n e=>NP b o n (kg4 b o n e);have Ro:∀b o,b≠x->G2 b=some o->U b=some o:=λb o n e=>NQ b o n (kg3 b o n e);have Xc:∀b o,b≠x->G1 b=some o->U b=some o:=λb o n e=>Ro b o n (kg2 b o n e);have kc0:∀b o,b≠x->G0 b=some o->U b=some o:=λb o n e=>Xc b o n (kg1 b o n e);have Rp:sW WQ G1 W A1 (ms.map V.ref).length (λj H' vs=>∃v,vs=[v]/\HT H' 2 v (yq (k.ms.getD j default).ns (k.ms.getD j default).row)):=Zq.keep WT (λj vs ⟨v,e,h⟩=>⟨v,e,h.aG acF⟩);have Rq:=Rp.keep (g _ _ Xc ⟨_,qL⟩).1 (λj vs ⟨v,e,h⟩=>⟨v,e,h.aG (g _ _ Xc ⟨_,qL⟩).2⟩);have NR:=(g _ _ Xc ⟨_,qL⟩).1 _ _ WU;have Rr:sW Gd2 G2 D2 A2 (ms.map V.ref).length (λ_ _ vs=>vs=[V.int 0]):=Zs.keep WW (λj vs e=>e);have Rt:=Rr.keep (g _ _ Ro ⟨_,Eb⟩).1 (λj vs e=>e);have NS:=(g _ _ Ro ⟨_,Eb⟩).1 _ _ SS;have Ru:sW Gd3 G3 D3 A3 (ms.map V.ref).length (λ_ _ vs=>vs=[]):=Zt.keep W0 (λj vs e=>e);have Rv:=Ru.keep (g _ _ NQ ⟨_,Kf⟩).1 (λj vs e=>e);have NU:=(g _ _ NQ ⟨_,Kf⟩).1 _ _ SX;have Rw:sW Gd4 G4 D4 A4 wv.length (λ_ _ vs=>vs=[]):=Zu.keep W4 (λj vs e=>e);have Rx:=Rw.keep (g _ _ NP ⟨_,QY⟩).1 (λj vs e=>e);have NV:=(g _ _ NP ⟨_,QY⟩).1 _ _ Ta;have Ry:sW Gd5 G5 D5 A5 wv.length (λ_ _ vs=>vs=[]):=Zv.keep W7 (λj vs e=>e);have wY:=Ry.keep (g _ _ Mb ⟨_,E2⟩).1 (λj vs e=>e);have vo:=(g _ _ Mb ⟨_,E2⟩).1 _ _ Te;have Mc:sW Gd6 U D6 A6 wv.length (λ_ _ vs=>vs=[]):=Zw.keep Xb (λj vs e=>e);have Xd:=(g _ _ kc0 ⟨_,K0⟩).1 _ _ ep;have l:(ms.map V.ref).length=k.ms.length:=by simp[oR]
 rw[l]at Rq;rw[l]at Rt;rw[l]at Rv;rw[jP]at Rx;rw[jP]at wY;rw[jP]at Mc;obtain⟨ad,Ri⟩:∃ad:Nat->Nat->Addr,∀t i,ad t i=([[p],A1,A2,A3,A4,A5,A6].getD t []).getD i 0:=⟨_,λ_ _=>rfl⟩
 have pz:∀{A B:Hp},(∀b o,b≠x->A b=some o->B b=some o)->∀{o},B x=some o->∀b,A b≠none->B b≠none:=λ{A B} h {o} e b hb=>by
  by_cases z:b=x
  ·rw[z,e];exact λz=>nomatch z
  ·cases e1:A b with
   |none=>calc absurd e1 hb
   |some u=>rw[h b u z e1];exact λz=>nomatch z
 have Y:∀{A:Hp} {b:Addr} {o:HO},A b=some o->A b≠none:=λe z=>by rw[e]at z;cases z
 have nFx:∀b,FF b->b≠x:=λb h z=>by
  obtain⟨o,e,so⟩:=iL b h;rw[z,S]at e;cases e;exact so
 obtain⟨cu,NI,hDo⟩:=CI (F:=FF) (G:=U) (n:=k.n) (c:=(RS.new k).ct) (λt=>[Ga,WQ,Gd2,Gd3,Gd4,Gd5,Gd6].getD t U) (λt=>t) _ (λt=>[x,W,D2,D3,D4,D5,D6].getD t x) (λt=>[λ_ _ u=>u=.lst [],λj H u=>∃vs,u=.lst vs/\∃v,vs=[v]/\HT H 2 v (yq (k.ms.getD j default).ns (k.ms.getD j default).row),λ_ _ u=>∃vs,u=.lst vs/\vs=[V.int 0]].getD t λ_ _ u=>∃vs,u=.lst vs/\vs=[]) Ri (λ_=>rfl) (λ_ _ _ _ h=>h)
  (λt=>match t with
   |0=>pz (λb o n e=>Rk _ _ (ka b o n e)) (Rk _ _ K0)
   |1=>pz (λb o n e=>SQ _ _ (Zr b o n e)) (SQ _ _ qL)
   |2=>pz (λb o n e=>SV _ _ (SR b o n e)) (SV _ _ Eb)
   |3=>pz (λb o n e=>S0 _ _ (SW b o n e)) (S0 _ _ Kf)
   |4=>pz (λb o n e=>Tc _ _ (S9 b o n e)) (Tc _ _ QY)
   |5=>pz (λb o n e=>Tg _ _ (Td b o n e)) (Tg _ _ E2)
   |6=>pz Th Wo
   | (t + 7)=>λb h=>h)
  (λb h=>by
   obtain⟨o,e,so⟩:=iL b h;calc⟨Y (nxa b o (nFx b h) e),o,L b o (nFx b h) e,so⟩)
  (λt ht=>match t,ht with
   | 0,_=>⟨⟨rfl,nofun,λa m=>by rw[List.mem_singleton.mp m];exact⟨hp,npx⟩,λj a e=>by cases j with
    |zero=>cases e;calc⟨_,Xd,rfl⟩
    | succ j=>cases e⟩,λa m=>by rw[List.mem_singleton.mp m];calc Y (Rk _ _ ep),λh=>absurd h ∅⟩
   |1,_=>⟨Rq.o,Rp.some SQ,λ_=>⟨fD1,Y (SQ _ _ WU)⟩⟩
   |2,_=>⟨Rt.o,Rr.some SV,λ_=>⟨V6,Y (SV _ _ SS)⟩⟩
   |3,_=>⟨Rv.o,Ru.some S0,λ_=>⟨V9,Y (S0 _ _ SX)⟩⟩
   |4,_=>⟨Rx.o,Rw.some Tc,λ_=>⟨fD4,Y (Tc _ _ Ta)⟩⟩
   |5,_=>⟨wY.o,Ry.some Tg,λ_=>⟨fD5,Y (Tg _ _ Te)⟩⟩
   |6,_=>⟨Mc.o,Mc.some (aq.refl _),λ_=>⟨fD6,Y Ti⟩⟩
   | (t + 7),h=>absurd h ())
  (λt i u ht h=>by
   match t,ht,h with
   |0,_,h=>cases h;trivial
   |1,_,⟨_,e,_⟩|2,_,⟨_,e,_⟩|3,_,⟨_,e,_⟩|4,_,⟨_,e,_⟩|5,_,⟨_,e,_⟩|6,_,⟨_,e,_⟩=>cases e;trivial
   | (t + 7),h,_=>calc absurd h ())
  (λhz _ t i u ht hi e h=>by
   match t,ht,h with
   |0,_,h=>cases h;calc(dP.nil:dP _ 4 [] [])
   |1,_,⟨_,e,v,M,hv⟩=>cases e;cases M;calc(dP.one ((Iy hz hv).mono ∅):dP _ 4 [v] [_])
   |2,_,⟨_,e,M⟩=>cases e;cases M;calc(dP.one (.int 0):dP _ 4 [.int 0] [.int 0])
   |3,_,⟨_,e,M⟩|4,_,⟨_,e,M⟩|5,_,⟨_,e,M⟩|6,_,⟨_,e,M⟩=>cases e;cases M;calc(dP.nil:dP _ 4 [] [])
   | (t + 7),h,_=>calc absurd h ())
 have R:∀b,FP k.n ad b->H b=none:=λb hb=>by
  cases j:H b with
  |none=>rfl
  |some o=>
   have e:=(NI b hb).1;have:b≠x:=λz=>by rw[z]at e;exact Y hxa e
   exact absurd e (Y (nxa b o this j))
 have hR:bY C CN CR FF U x bD k (RS.new k) ad:=by
  refine⟨⟨y,λt=>[x,W,D2,D3,D4,D5,D6].getD t x,?_,λt j l=>?_⟩,cu,?_⟩
  ·rw[Wo,E3,Ri];rfl
  ·obtain⟨X,w2,w3⟩:=hDo t j l;calc⟨?_,X,w2⟩;rw[<-w3]
   match t,j,l with
   |1,_,_=>calc NR
   |2,_,_=>calc NS
   |3,_,_=>calc NU
   |4,_,_=>calc NV
   |5,_,_=>calc vo
   |6,_,_=>calc Ti
   |(t+7),_,h=>exact absurd h ()
  ·calc⟨⟨ms,wv,N,⟨Z,a1,b1,c1,L _ _ O I,L _ _ NJ g2,L _ _ NK g3,L _ _ NL g4⟩,oR,λi m d e1 j=>?_,Nz.aG (g _ _ L ⟨_,S⟩).2⟩,aU⟩;obtain⟨d1,s1,d2,X,w2,w3⟩:=zG i m d e1 j;have l:m≠x:=λz=>by rw[z,S] at X;exact wX X
   exact⟨d1,s1,d2,L _ _ l X,w2.aG (g _ _ L ⟨_,S⟩).2,w3.aG (g _ _ L ⟨_,S⟩).2⟩
 have ac1:=Ka.aG (g _ _ L ⟨_,S⟩).2;clear Rp Rq Rr Rt Ru Rv Rw Rx Ry wY Mc NR NS NU NV vo WU Zq SS Zs SX Zt Ta Zu Te Zv Ti Zw Xd kc0 Xc Ro NQ NP Mb;left;calc⟨bD,Z,_,rfl,L _ _ O I,eO ⋯ ⋯ ⋯,bD,ms,wv,N,rfl,⟨Z,a1,b1,c1,L _ _ O I,L _ _ NJ g2,L _ _ NK g3,L _ _ NL g4⟩,λll yT=>?_⟩;have s7:=aq.new (.lst N) yT;have ell:upd U ll (.lst N) ll=some (.lst N):=af;generalize SI:upd U ll (.lst N)=G7 at *;have nll:¬FP k.n ad ll:=λz=>by
  obtain⟨_,u,e,_⟩:=NI ll z;rw[yT]at e;cases e
 have g:=hR.same s7;have Xe:=ac1.aG s7.aM;have Xf:N.length=ls.length:=by simpa using Xe.1
 refine .inl ⟨⟨_,aS.of ell⟩,jy (K:=K) (xs:=N) (λi σ H'=>(∃z2 z3,σ=[some (V.ref x),some (V.ref bD),z2,z3])/\Fr (FP k.n ad) G7 H'/\bY C CN CR FF H' x bD k ((RS.new k).kK (ls.take i)) ad) ?_ ?_ ?_ ?_⟩
 ·exact⟨⟨_,_,rfl⟩,Fr.refl,g⟩
 ·rintro i σ H' hi ⟨_,fi,_⟩;exact aS.of (fi.at ell nll)
 ·intro i z σ H' hz AO;nofun;obtain⟨⟨z2,z3,rfl⟩,fi,xF⟩:=AO;have g:i < ls.length:=by rw[<-Xf];exact(List.getElem?_eq_some_iff.mp hz).1
  have j:ls[i]?=some ls[i]:=cP g;have Rf:=(Xe.2 i z (mI ls[i]) hz (by rw[List.getElem?_map,j];rfl)).aG fi.aM;have IC:=mj _ (W' g);have E4:(RS.new k).kK (ls.take (i+1))=((RS.new k).kK (ls.take i)).put ls[i].1.toNat ls[i].2 none:=by
   rw[List.take_succ,j];exact pR _
  generalize ls[i]=p at *;obtain⟨pj,px⟩:=p;obtain⟨tz,u1,u2,kz,rfl,EM,y1,y2⟩:=cm Rf;obtain rfl:=y1.cw;obtain rfl:=y2.cw;ac_rfl;calc yC (bH.of EM) ?_;left;obtain⟨j,l,g,t⟩:=xF.ins;calc gI g (gJ ⋯) ?_;have j:((pj.toNat:Nat):Int)=pj:=aba IC.1;refine⟨FF,x,bD,k,_,ad,pj.toNat,px,.bx,none,by rw[j],xF,λb h=>by
   obtain⟨o,e,so⟩:=iL b h;calc⟨o,fi.at (s7 _ _ (L b o (nFx b h) e)) (λz=>by rw[R b z] at e;cases e),so⟩,by have:=IC.2;show pj.toNat < _;simp at this;lia,.bx,(qY (ls.take i) (Bb aU)).mono (by simp;lia),λk g j=>?_⟩
  left;calc g9 ⟨_,_,rfl,rfl⟩ (fi.trans g) ?_;rw[E4];exact j
 ·rintro σ H' ⟨_,fi,xF⟩;rw[Xf,List.take_length]at xF;calc q ad _ (λb o n e=>?_) R xF;calc fi.at (s7 _ _ (L b o n e)) λz=>?_;rw[R b z]at e;cases e
def fZ(H:Hp)(x:V)(M:Int)(ns row:List Int)(d:List bu):Prop:=∃t a b c xs,x=.ref t/\H t=some (.tup [.int M,.ref a,.ref b,.ref c])/\H a=some (.lst (ns.map V.int))/\H b=some (.lst (row.map V.int))/\H c=some (.lst xs)/\eW H 2 xs (d.map bu.dv)
theorem fZ.cv{x:V}{M:Int}{a:List bu}(s:Cv H H')(h:fZ H x M ns row a):fZ H' x M ns row a:=by
 obtain⟨t,a,b,c,d,e,f,g,i,j,l⟩:=h;calc⟨t,a,b,c,d,e,s _ _ f (λk z=>by cases z),s _ _ g (λk z=>by cases z),s _ _ i (λk z=>by cases z),s _ _ j (λk z=>by cases z),l.aG s.aM⟩
def wZ(H:Hp)(mv:List V)(eY:List MD):Prop:=mv.length=eY.length/\∀(i:Nat) v d,mv[i]?=some v->eY[i]?=some d->fZ H v d.M d.ns d.row d.ds
theorem wZ.cv(s:Cv H H')(h:wZ H mv eY):wZ H' mv eY:=⟨h.1,λi v d a b=>(h.2 i v d a b).cv s⟩
def ToldN(H:Hp)(x:V)(eY:List MD)(ws:List (Int×Int×Str))(ls:List (Int×Int)):Prop:=∃t a b c mv wv lv,x=.ref t/\H t=some (.tup [.ref a,.ref b,.ref c])/\H a=some (.lst mv)/\H b=some (.lst wv)/\H c=some (.lst lv)/\wZ H mv eY/\eW H 1 wv (ws.map kR)/\eW H 1 lv (ls.map mI)
theorem ToldN.cv{x:V}(s:Cv H H')(h:ToldN H x eY ws ls):ToldN H' x eY ws ls:=by
 obtain⟨t,a,b,c,mv,wv,lv,e,d,f,g,i,j,l,m⟩:=h;calc⟨t,a,b,c,mv,wv,lv,e,s _ _ d (λk z=>by cases z),s _ _ f (λk z=>by cases z),s _ _ g (λk z=>by cases z),s _ _ i (λk z=>by cases z),j.cv s,l.aG s.aM,m.aG s.aM⟩
def Kj(a:V)(ev:Addr)(o:Nat->Addr):List (Key×V):=[(.inr "net",a),(.inr "put",.ref (o 4)),(.inr "sender",.ref (o 5)),(.inr "worker",.ref (o 6)),(.inr "states",.ref (o 1)),(.inr "words",.ref (o 2)),(.inr "heard",.ref (o 3)),(.inr "events",.ref ev)]
section
variable {H:Hp}{d:Addr}{tn:V}{ev:Addr}{o:Nat->Addr}
theorem Bc(h:H d=some (.dK (Kj tn ev o))):ku H d (.str "net") (some tn):=.inl ⟨_,.inr "net",.inl h,rfl,by kernel_rfl⟩
theorem En(h:H d=some (.dK (Kj tn ev o))):ku H d (.str "put") (some (.ref (o 4))):=.inl ⟨_,.inr "put",.inl h,rfl,by kernel_rfl⟩
theorem Md(h:H d=some (.dK (Kj tn ev o))):ku H d (.str "sender") (some (.ref (o 5))):=.inl ⟨_,.inr "sender",.inl h,rfl,by kernel_rfl⟩
theorem Xg(h:H d=some (.dK (Kj tn ev o))):ku H d (.str "worker") (some (.ref (o 6))):=.inl ⟨_,.inr "worker",.inl h,rfl,by kernel_rfl⟩
theorem Me(h:H d=some (.dK (Kj tn ev o))):ku H d (.str "states") (some (.ref (o 1))):=.inl ⟨_,.inr "states",.inl h,rfl,by kernel_rfl⟩
theorem RA(h:H d=some (.dK (Kj tn ev o))):ku H d (.str "words") (some (.ref (o 2))):=.inl ⟨_,.inr "words",.inl h,rfl,by kernel_rfl⟩
theorem Mf(h:H d=some (.dK (Kj tn ev o))):ku H d (.str "heard") (some (.ref (o 3))):=.inl ⟨_,.inr "heard",.inl h,rfl,by kernel_rfl⟩
theorem RB(h:H d=some (.dK (Kj tn ev o))):ku H d (.str "events") (some (.ref ev)):=.inl ⟨_,.inr "events",.inl h,rfl,by kernel_rfl⟩
end
def _root_.DD.RS.tv(r:RS):Nat->Nat->CO
 |0,_=>.l (r.picks.map pairD)
 |1,m=>.l ((r.mm m).gH.map qz)
 |2,m=>.l ((r.mm m).wp.map λw=>.lst (w.map .int))
 |3,m=>.l ((r.mm m).hr.map λw=>.lst (w.map .int))
 |4,w=>.l ((r.ww w).say.map .int)
 |5,w=>.l ((r.ww w).snd.map tJ)
 |_,w=>.d (kL (r.ww w).eB) ((r.ww w).eB.countP Option.isSome)
theorem count_set{e:Int×Int}:∀{l:List (Option (Int×Int))}{k:Nat},l[k]?=some none->(l.set k (some e)).countP Option.isSome=l.countP Option.isSome+1
 | [],k,h=>by simp at h
 |a::r,0,h=>by simp at h;subst h;simp
 |a::r,k+1,h=>by
  have b:=count_set (e:=e) (l:=r) (k:=k) (by simpa using h);simp only[List.set_cons_succ,List.countP_cons];rw[b];lia
theorem ID{l:List (Option (Int×Int))}{k:Nat}(h:k<l.length)(j:Int):kL (l.set k (some e)) j=if j=((k:Nat):Int) then some (pairD e) else kL l j:=by
 unfold kL;by_cases a:0<=j
 ·rw[if_pos a,if_pos a];by_cases z:j=((k:Nat):Int)
  ·subst z;rw[if_pos rfl,Int.toNat_natCast,List.getD_eq_getElem?_getD,List.getElem?_set];simp[h]
  ·rw[if_neg z,List.getD_eq_getElem?_getD,List.getElem?_set,if_neg (),<-List.getD_eq_getElem?_getD]
 ·rw[if_neg a,if_neg a,if_neg ()]
theorem Eo{l:List (Option (Int×Int))}:kL (l++[none])=kL l:=by
 funext j;unfold kL;split
 ·congr 1;rw[List.getD_eq_getElem?_getD,List.getD_eq_getElem?_getD,List.getElem?_append];split
  ·rfl
  ·next z=>
   rw[List.getElem?_eq_none (l:=l) ()]
   cases a:j.toNat-l.length with
   |zero=>rfl
   |succ n=>rfl
 ·rfl
structure cp(F:Addr->Prop)(H:Hp)(d:Addr)(tn:V)(nt:NT)(r:RS)(ad:Nat->Nat->Addr):Prop where
 dk:∃o,H d=some (.dK (Kj tn (ad 0 0) o))/\¬F d/\¬FP nt.n ad d/\∀t,1<=t->t<=6->H (o t)=some (.lst (kr nt.n ad t))/\¬F (o t)/\¬FP nt.n ad (o t)
 cu:eu F H nt.n ad r.tv
 told:∃ls,ToldN (gY (λb=>F b\/FP nt.n ad b) H) tn nt.ms nt.ws ls
 ok:nt.Ok
section
variable {F:Addr->Prop}{H H':Hp}{d:Addr}{tn:V}{nt:NT}{r:RS}{ad:Nat->Nat->Addr}
theorem cp.keep(h:cp F H d tn nt r ad)(f:Fr F H H'):cp F H' d tn nt r ad:=by
 obtain⟨⟨o,g,e,i,c⟩,j,⟨ls,k⟩,l⟩:=h;calc⟨⟨o,f.at g e,e,i,λt a b=>⟨f.at (c t a b).1 (c t a b).2.1,(c t a b).2⟩⟩,j.keep f,⟨ls,k.cv (f.mono λb z=>.inl z).gY⟩,l⟩
theorem cp.same(h:cp F H d tn nt r ad)(s:aq H H'):cp F H' d tn nt r ad:=h.keep s.fr
theorem cp.own{c:RS}(h:cp F H d tn nt r ad)(f:Fr (FP nt.n ad) H H')(b:eu F H' nt.n ad c.tv):cp F H' d tn nt c ad:=by
 obtain⟨⟨o,g,i,e,c⟩,l,⟨ls,j⟩,k⟩:=h;calc⟨⟨o,f.at g e,i,e,λt a b=>⟨f.at (c t a b).1 (c t a b).2.2,(c t a b).2⟩⟩,b,⟨ls,j.cv (f.mono λb z=>.inr z).gY⟩,k⟩
end
theorem Ep{l:List (Option (Int×Int))}{k:Nat}:(kL l ((k:Nat):Int)).isSome= !(l.getD k none).isNone:=by
 unfold kL;rw[if_pos (),Int.toNat_natCast]
 cases l.getD k none<;>rfl
theorem Er{H0 H:Hp}{a:Addr}{b:List (Key×V)}{g:Int->Option DV}{N:Nat}(e:H a=some (.dK b))(h:OR H0 (.d g N) (.dK b))(k:Int):∃o,ku H a (.int k) o/\o.isSome=(g k).isSome:=by
 calc bI _ (ku.k (k:=Sum.inl k) e) ?_;have:=h.2 k;revert this
 cases g k with
 |none=>intro h;rw[h];rfl
 |some d=>intro⟨v,h,_⟩;rw[h];rfl
abbrev ly:Stmt:=top 58
def w6:Sp:=λvs H Q _=>∃(F:Addr->Prop) (d:Addr) (a:V) (nt:NT) (r:RS) (ad:Nat->Nat->Addr) (m:Nat),vs=[.ref d,.int m]/\cp F H d a nt r ad/\r.Ok nt/\r.picks.length<=400/\m<nt.ws.length/\∀l H',aq H H'->H l=none->H' l=some (.lst ((r.oC m).map λk=>.int (k:Nat)))->Q (.ref l) H'
theorem zk(D:dj K mg "_law_lying" "_law_lying" ly ["_law_run","_law_way"])(T:Tx K mg C CN CR F FD):Def P w K mg base "_law_lying" 1 ["_law_run","_law_way"] w6:=by
 have sc:aD ["_law_run","_law_way"] ["_law_run","_law_way"] (az ly):=by walk_at "s"
 symm;obtain⟨F,d,g,B,r,ad,m,rfl,j,k,G,b,q⟩:=h;have g:=hr.units;have B:=lt1 g;calc⟨_,(ao (aK (dQ (N':=["_law_k","_law_way","_law_run"]) (ix:=[none,some 1,some 0]) (du rfl T.eX (ag (bo aQ rfl T.b8 T' (ag (ak g (ak g (au 0) aE) (au 1)) aa)) aa)) (λ_ _ _ _=>(aX (i:=0) (show(["_law_k","_law_way","_law_run"]:List Str).Nodup by decide +kernel) rfl Sort)) (λ_ _ _ _=>(jR (ON (Dq B (au 0) (dG (K:=K) rfl g (dG (K:=K) rfl g (au 2) aE) (au 1)))))) (λ_ _ _ _=>(au 0))))),?_⟩;nofun;obtain⟨o,v,B,G,g⟩:=j.dk;have B:=(g 4 ∅ ∅).1;have I:=(g 6 ∅ ∅).1;obtain⟨G,L,M⟩:=j.cu.lst (t:=4) (i:=m) b rfl;obtain⟨g,N,O⟩:=j.cu.dct (t:=6) (i:=m) b rfl;ac_rfl;have g:G.length=(r.ww m).say.length:=by simpa using M.1
 have j:=k.bs m b;left;calc bV ?_;left;calc bI _ (En v) ?_;left;calc bF B (aZ b) ?_;calc bI _ (.inl ⟨_,aS.of L,rfl⟩) ?_;left;rw[g];calc g9 () () (λD p=>?_);rw[Int.toNat_natCast];refine bE (J:=Dg 0 (r.ww m).say.length) (n:=(r.ww m).say.length) (λi ys H'=>aq H H'/\ys=((List.range i).filter λk=>((r.ww m).eB.getD k none).isNone).map λk=>V.int (k:Nat)) (L' (small ())) ⟨aq.new _ p,rfl⟩ (λi ys H' u _=>u) (λys H' _=>K' _) ?_ ?_
 ·intro i ys H' u l y R x H2 S;nofun;obtain⟨a,rfl⟩:=R;obtain⟨rfl,rfl⟩:=S;ac_rfl;calc⟨Ext.set (Ext.refl _) rfl,?_⟩;left;calc bI _ (Xg (a _ _ v)) ?_;left;calc bF (a _ _ I) (aZ b) ?_;rw[Int.zero_add];obtain⟨g,j,k⟩:=Er (a _ _ N) O ((i:Nat):Int);calc⟨ad 6 m,g,rfl,j,?_⟩;rw[k,Ep,Bool.not_not];left;by_cases z:((r.ww m).eB.getD i none).isNone=true
  ·rw[z]
   try rw[if_pos rfl]
   calc cy l y u (L' (small ())) ⟨λc o e=>by rw[ay (av e p)];calc a _ _ e,?_⟩;rw[fE,if_pos z,List.map_append];rfl
  ·rw[Bool.not_eq_true] at z;rw[z]
   try rw[if_neg ∅]
   exact⟨_,l,(),a,by rw[fE,if_neg (by rw[z];decide),List.append_nil]⟩
 ·rintro ys H' l y ⟨a,rfl⟩;calc q _ _ a p l
def iy(nt:NT)(r:RS)(w:Nat):List Nat:=if (nt.w w).2.2="row" then(r.oC w).take 1 else r.oC w
def gK(nt:NT)(r:RS)(n:Nat):List (Nat×Nat):=(List.range n).flatMap λw=>(iy nt r w).map λk=>(w,k)
theorem sZ{nt:NT}{n:Nat}:gK nt r (n+1)=gK nt r n++(iy nt r n).map λk=>(n,k):=by
 unfold gK;rw[List.range_succ,List.flatMap_append];simp
theorem eW.app{n:Nat}{vs us:List V}{c:List DV}(h:eW H n vs c)(g:eW H n us es):eW H n (vs++us) (c++es):=by
 calc⟨by simp[h.1,g.1],λi v d a b=>?_⟩;by_cases c:i<vs.length
 ·rw[List.getElem?_append_left c]at a;rw[List.getElem?_append_left (by rw[<-h.1];calc c)]at b;exact h.2 i _ _ a b
 ·rw[List.getElem?_append_right ()]at a;rw[List.getElem?_append_right (by rw[<-h.1];lia),<-h.1]at b;calc g.2 _ _ _ a b
theorem qZ{w:Nat}:(r.oC w).length<=(r.ww w).say.length:=by
 unfold RS.oC;calc aae (List.length_filter_le _ _) nofun
theorem vp{nt:NT}{w:Nat}:(iy nt r w).length<=(r.ww w).say.length:=by
 unfold iy;split
 ·rw[List.length_take];have:=qZ (r:=r) (w:=w);lia
 ·calc qZ
theorem vq{nt:NT}{r:RS}{B:Nat}:∀n,(∀w,w<n->(r.ww w).say.length<=B)->(gK nt r n).length<=n*B
 |0,_=>by simp[gK]
 |n+1,h=>by
  rw[sZ,List.length_append,List.length_map];have a:=vq (nt:=nt) n (λw a=>h w ());have a:=h n ();have a:=vp (nt:=nt) (r:=r) (w:=n);rw[Nat.succ_mul];lia
def Mg(p:Nat×Nat):DV:=pairD (((p.1:Nat):Int),((p.2:Nat):Int))
theorem vt{r:RS}{w k:Nat}(h:k∈(r.oC w).take 1):∀j,j<k->((r.ww w).eB.getD j none).isNone=false:=by
 unfold RS.oC at h;generalize b:(List.range (r.ww w).say.length).filter (λk=>((r.ww w).eB.getD k none).isNone)=l at h
 cases l with
 |nil=>simp at h
 |cons a t=>
  simp at h;subst h;intro j g;have f:(List.range (r.ww w).say.length).Pairwise (· < ·):=List.pairwise_lt_range;have c:=f.filter (λk=>((r.ww w).eB.getD k none).isNone);rw[b]at c;have f:k∈(List.range (r.ww w).say.length).filter (λk=>((r.ww w).eB.getD k none).isNone):=by rw[b];simp
  rw[List.mem_filter,List.mem_range]at f
  cases z:((r.ww w).eB.getD j none).isNone with
  |false=>rfl
  |true=>
   exfalso;have d:j∈(List.range (r.ww w).say.length).filter (λk=>((r.ww w).eB.getD k none).isNone):=by
    rw[List.mem_filter,List.mem_range];exact⟨(),z⟩
   rw[b]at d;rcases List.mem_cons.mp d with e|e
   ·lia
   ·have:=(List.pairwise_cons.mp c).1 j e;lia
theorem tf{nt:NT}(h:r.Ok nt){w k:Nat}(b:(w,k)∈gK nt r nt.ws.length):r.xE nt w k:=by
 unfold gK at b;rw[List.mem_flatMap]at b;obtain⟨j,f,b⟩:=b;rw[List.mem_range]at f;rw[List.mem_map]at b;obtain⟨j,a,e⟩:=b
 cases e;have g:k∈r.oC w:=by
  unfold iy at a;split at a
  ·exact List.mem_of_mem_take a
  ·exact a
 have c:k<(r.ww w).say.length/\((r.ww w).eB.getD k none).isNone=true:=by
  unfold RS.oC at g;rw[List.mem_filter,List.mem_range]at g;exact g
 have b:=h.lk w f;refine⟨f,?_,λi b=>?_⟩
 ·rw[bq (d:=none) ()]
  cases z:(r.ww w).eB.getD k none with
  |none=>rfl
  |some e=>rw[z]at c;simp at c
 ·unfold iy at a;rw[if_pos i] at a;have:=vt a (k - 1) ();rw[bq (d:=none) (show k - 1 < (r.ww w).eB.length by lia)]
  cases z:(r.ww w).eB.getD (k-1) none with
  |none=>rw[z]at this;simp at this
  |some e=>calc⟨e,rfl⟩
theorem IE{xs:List V}:bR xs none (some 1)=xs.take 1:=by
 unfold bR;have b:HT.eE xs.length 0 none=0:=rfl;rw[b]
 cases xs with
 |nil=>simp
 |cons a r=>
  have b:HT.eE (a::r).length (a::r).length (some 1)=1:=by
   unfold HT.eE;simp
  rw[b];simp
abbrev mX:Stmt:=top 59
def xa:Sp:=λvs H Q _=>∃(F:Addr->Prop) (d:Addr) (a:V) (nt:NT) (r:RS) (ad:Nat->Nat->Addr),vs=[.ref d]/\cp F H d a nt r ad/\r.Ok nt/\r.picks.length<=400/\∀l ys H',aq H H'->H l=none->H' l=some (.lst ys)->eW H' 1 ys ((gK nt r nt.ws.length).map Mg)->Q (.ref l) H'
theorem Be(D:dj K mg "_law_free" "_law_free" mX ["_law_run"])(T:Tx K mg C CN CR F FD)(dB:Def P w K mg base "_law_lying" 1 ["_law_run","_law_way"] w6):Def P w K mg base "_law_free" 2 ["_law_run"] xa:=by
 have sc:aD ["_law_run","_law_free_here","_law_way","_law_told","_law_numbers"] ["_law_run"] (az mX):=by walk_at "s"
 symm;obtain⟨F,d,tn,a,r,ad,rfl,G,Y,sC,q⟩:=h;have O:=hr.units;refine⟨_,(ai (aW (i:=1) sc.nd rfl Sort (bM aa))
  (ai (eZ PassesOwn.never rfl (gX rfl T.cW (ag (ak O (ak O (au 0) aE) aj) aa)) (fm (i:=2) (j:=3) rfl sc.nd rfl rfl Sort Sort)
  (ai (aW (i:=4) sc.nd rfl Sort (aL dB hr (ag (au 0) (ag (au 2) aa))))
  (ai (aR (aC (aY O) (ak O (au 3) aj) aE (aH _)) (ao (aW (i:=4) sc.nd rfl Sort (gN (au 4) fe (eL aj)))) aJ)
  (ao (aW (i:=1) sc.nd rfl Sort (aT ck (au 1) (dQ (N':=["_law_number","_law_way"]) (ix:=[none,some 2]) (cA (pv 4)) (λ_ _ _ _=>(aX (i:=0) (show(["_law_number","_law_way"]:List Str).Nodup by decide +kernel) rfl Sort)) pw (λ_ _ _ _=>(bb (ag (au 1) (ag (au 0) aa)))))))))))
  (ao (aK (au 1))))),?_⟩
 nofun;obtain⟨o,hd,nF,nP,ho⟩:=G.dk;obtain⟨ls,t,am,aw,al,mv,wv,lv,rfl,h1,h2,h3,h4,h5,R,h7⟩:=G.told;have g1:=(cK h1 (λk z=>by cases z)).2;have g3:=(cK h3 (λk z=>by cases z)).2
 replace R:=R.aG eF.aM
 ac_rfl;have Z:wv.length=a.ws.length:=by simpa using R.1
 have oj:wv.length<=10:=by rw[Z];exact G.ok.AE
 have hB:∀w,w<a.ws.length->(r.ww w).say.length<=9620:=λw hw=>by have:=Y.bs w hw;lia
 left;calc⟨aaa _,λS Wh=>?_⟩;have U:=aq.new (.lst []) Wh;have Zx:upd H S (.lst []) S=some (.lst []):=af;generalize hG0:upd H S (.lst [])=G0 at *;left;refine Bc (U _ _ hd) |> λh=>⟨_,h,?_⟩
 refine cN (U _ _ g1) (aA (j:=1) rfl) ⟨true,wv,Sq.l (U _ _ g3),jD (xs:=wv) (λi σ H'=>∃z2 z3 z4 v ys,σ=[some (V.ref d),some (V.ref v),z2,z3,z4]/\aq H H'/\H v=none/\H' v=some (.lst ys)/\eW H' 1 ys ((gK a r i).map Mg)) ?_ ?_ ?_ ?_⟩
 ·exact⟨_,_,_,S,[],rfl,U,Wh,Zx,show eW _ 1 [] [] from eW.nil⟩
 ·intro i σ H' qB;obtain⟨_,_,_,_,_,_,b,_⟩:=qB;exact Sq.l (b _ _ g3)
 ·intro i x σ H' tt hx yK LZ;nofun;obtain⟨z2,z3,z4,v,ys,rfl,b,Xh,Es,I⟩:=yK;have J3:i < a.ws.length:=by rw[<-Z];exact(List.getElem?_eq_some_iff.mp hx).1
  have s2:=aq.new (.tup [.int (i:Nat),x]) LZ;have NW:upd H' tt (.tup [.int (i:Nat),x]) tt=some (.tup [.int (i:Nat),x]):=af;have uo:=(R.2 i x (kR (a.w i)) hx (by rw[List.getElem?_map,show a.ws[i]?=some (a.w i) from bq J3];rfl)).aG (b.trans s2).aM;generalize AQ:upd H' tt (.tup [.int (i:Nat),x])=G2 at *;obtain⟨ta,u1,u2,u3,kk,rfl,vk,y1,y2,y3⟩:=bW uo;obtain rfl:=y1.cw;obtain rfl:=y2.cw;obtain rfl:=y3.cS;ac_rfl;calc yC (bH.of NW) ?_;left;calc⟨F,d,_,a,r,ad,i,rfl,(G.same b).same s2,Y,sC,J3,λln H3 s3 fln p=>?_⟩;have tL:aq H' H3:=s2.trans s3;have hly:=qZ (r:=r) (w:=i);have hfw:=vp (nt:=a) (r:=r) (w:=i);have hBi:=hB i J3;left;calc cN (s3 _ _ vk) (aA (j:=2) rfl) ?_;left;rename_i N1 hN1 T1 U1 QV Kc;have g:∀L y,aq H' L->L y=some (.lst ((iy a r i).map λk=>V.int ((k:Nat):Int)))->N1 [some (V.ref d),some (V.ref v),some (V.int ((i:Nat):Int)),some (V.ref ta),some (V.ref y)] L:=by
   intro L y Ib p;clear QV Kc;left;calc bV ?_;left;calc .inl ⟨⟨_,aS.of p⟩,λD hD=>?_⟩;refine bE (J:=xN K y) (n:=(iy a r i).length) (λj u H'=>aq L H'/\eW H' 1 u (((iy a r i).take j).map λk=>Mg (i,k))) (L' (small ())) ⟨aq.new _ hD,show eW _ 1 [] [] from eW.nil⟩ ?_ ?_ ?_ ?_
   ·rintro j u H' M ⟨m,_⟩;exact⟨_,_,aS.of (m _ _ p),by rw[List.getElem?_map,cP M];rfl⟩
   ·rintro u H' ⟨m,_⟩;exact⟨_,aS.of (m _ _ p),nofun⟩
   ·intro j u H' M RD kQ LO xx H4 QJ;nofun;obtain⟨m,N⟩:=LO;obtain⟨rfl,hy⟩:=QJ;have ex:=hy _ (aS.of (m _ _ p));rw[List.getElem?_map,cP M] at ex;obtain rfl:=Option.some.inj ex;ac_rfl;calc⟨Ext.set (Ext.refl _) rfl,?_⟩;left
    try rw[if_pos trivial]
    calc⟨bP,λt2 oQ=>?_⟩;have s6:=aq.new (.tup [.int ((i:Nat):Int),.int (((iy a r i)[j]:Nat):Int)]) oQ;have IF:=s6 _ _ RD;calc cy IF kQ M (L' (small ())) ⟨λc o e=>by rw[ay (av e hD)];calc s6 _ _ (m _ _ e),?_⟩;have tu:cq (upd H4 t2 (.tup [.int ((i:Nat):Int),.int (((iy a r i)[j]:Nat):Int)])) (upd (upd H4 t2 (.tup [.int ((i:Nat):Int),.int (((iy a r i)[j]:Nat):Int)])) D (.lst (u++[.ref t2]))):=(cq.refl _).upd λzs e=>by rw[IF]at e;cases e
    rw[List.take_succ,cP M,List.map_append];exact((N.aG s6.aM).snoc (cJ (n:=0) af (.int _) (.int _))).aG tu
   rintro u H6 RD kQ ⟨m,N⟩;rw[List.take_length]at N;have W:aq H' H6:=Ib.trans m;left;refine .inl ⟨_,_,W _ _ Es,RD,?_,λlf' Xi=>?_⟩
   ·have a1:=I.1;have a2:=N.1;have a3:=vq (nt:=a) (r:=r) (B:=9620) i (λw hw=>hB w ());simp at a1 a2;rw[sizeLine_eq];have a5:i<=9:=by lia
    have a4:i*9620<=9*9620:=Nat.mul_le_mul_right _ a5;lia
   have s7:=aq.new (.lst (ys++u)) Xi;left;calc abj _ _ _ lf' _ ⟨rfl,rfl,rfl,rfl⟩ (b.trans (W.trans s7)) ((b.trans W).free Xi) af ?_;rw[sZ,List.map_append];calc((I.aG W.aM).app ?_).aG s7.aM;rw[List.map_map];exact N
  by_cases X:(a.w i).2.2="row"
  ·rw[if_pos (by simp[X])];left;calc .inl ⟨_,p,λy v8=>?_⟩;rw[IE];have s4:=aq.new (.lst (((r.oC i).map λk=>V.int ((k:Nat):Int)).take 1)) v8;exact g _ y (tL.trans s4) (by unfold iy;rw[af,if_pos X,List.map_take])
  ·rw[if_neg (by simp[X])];calc L2.bA (by assumption) ?_;exact g _ ln tL (by unfold iy;rw[if_neg X];calc p)
 ·intro σ H' QL;obtain⟨z2,z3,z4,v,ys,rfl,b,Xh,Es,I⟩:=QL;rw[Z]at I;left;calc q _ _ _ b Xh Es I
def Mi(H H':Hp):Prop:=∀b o,H b=some o->(∀k,o≠.own k)->H' b=some o
theorem Mi.aM(h:Mi H H'):cq H H':=λb a e=>h b _ e (λk z=>by cases z)
theorem _root_.L2.aq.Kk(s:aq H H'):Mi H H':=λb o e _=>s b o e
theorem fZ.Kk{x:V}{M:Int}{a:List bu}(s:Mi H H')(h:fZ H x M ns row a):fZ H' x M ns row a:=by
 obtain⟨t,a,b,c,d,e,f,g,i,j,l⟩:=h;calc⟨t,a,b,c,d,e,s _ _ f (λk z=>by cases z),s _ _ g (λk z=>by cases z),s _ _ i (λk z=>by cases z),s _ _ j (λk z=>by cases z),l.aG s.aM⟩
theorem wZ.Kk(s:Mi H H')(h:wZ H mv eY):wZ H' mv eY:=⟨h.1,λi v d a b=>(h.2 i v d a b).Kk s⟩
theorem wZ.nil:wZ H [] []:=⟨rfl,λi v d a=>by simp at a⟩
theorem wZ.snoc{v:V}{d:MD}(h:wZ H mv eY)(g:fZ H v d.M d.ns d.row d.ds):wZ H (mv++[v]) (eY++[d]):=by
 calc⟨by simp[h.1],λi y e a b=>?_⟩;by_cases c:i<mv.length
 ·rw[List.getElem?_append_left c]at a;rw[List.getElem?_append_left (by rw[<-h.1];calc c)]at b;exact h.2 i _ _ a b
 ·rw[List.getElem?_append_right ()] at a;rw[List.getElem?_append_right (by rw[<-h.1];lia),<-h.1] at b
  cases f:i-mv.length with
  |zero=>rw[f]at a b;cases a;cases b;calc g
  |succ k=>rw[f]at a;simp at a
def mask(a b c:Addr)(H:Hp):Hp:=λx=>if x=a\/x=b\/x=c then some (.own 0) else H x
theorem oF{c x:Addr}(d:x≠a)(e:x≠b)(f:x≠c):mask a b c H x=H x:=by unfold mask;rw[if_neg (by simp[d,e,f])]
theorem vv{c x:Addr}{o:HO}(h:mask a b c H x=some o)(d:∀k,o≠.own k):x≠a/\x≠b/\x≠c/\H x=some o:=by
 unfold mask at h;split at h
 ·cases h;exact absurd rfl (d 0)
 ·rename_i hn;simp only[not_or]at hn;calc⟨hn.1,hn.2.1,hn.2.2,h⟩
theorem IG{c:Addr}:Mi (mask a b c H) H:=λx o e n=>(vv e n).2.2.2
theorem zm{c:Addr}(h:∀x o,x≠a->x≠b->x≠c->H x=some o->H' x=some o):Mi (mask a b c H) (mask a b c H'):=λx o e n=>by
 obtain⟨d,f,g,i⟩:=vv e n;rw[oF d f g];calc h x o d f g i
theorem Et{c t d f g:Addr}{xs:List V}{M:Int}{n:List bu}(p:H t=some (.tup [.int M,.ref d,.ref f,.ref g]))(q:H d=some (.lst (ns.map V.int)))(r:H f=some (.lst (row.map V.int)))(s:H g=some (.lst xs))(u:eW H 2 xs (n.map bu.dv))
  (h:∃ys,H a=some (.lst ys)) (i:∃ys,H b=some (.lst ys)) (j:∃ys,H c=some (.lst ys)) (k:d≠a/\d≠b/\d≠c) (l:f≠a/\f≠b/\f≠c) (m:g≠a/\g≠b/\g≠c):fZ (mask a b c H) (.ref t) M ns row n:=by
 obtain⟨n,h⟩:=h;obtain⟨n,i⟩:=i;obtain⟨n,j⟩:=j;have o:cq H (mask a b c H):=λx ys e=>by
  rw[oF (λz=>by rw[z,h]at e;cases e) (λz=>by rw[z,i]at e;cases e) (λz=>by rw[z,j]at e;cases e)];exact e
 calc⟨t,d,f,g,xs,rfl,o _ _ p,by rw[oF k.1 k.2.1 k.2.2];calc q,by rw[oF l.1 l.2.1 l.2.2];calc r,by rw[oF m.1 m.2.1 m.2.2];calc s,u.aG o⟩
structure vz(eY:List MD)(ws:List (Int×Int×Str))(ls:List (Int×Int)):Prop where
 m1:1<=eY.length
 m5:eY.length<=5
 EJ:ws.length<=10
 l20:ls.length<=20
 mg:∀d∈eY,d.good
 wo:∀w∈ws,vd eY.length w
 lo:∀l∈ls,ve ws.length l
theorem vz.nt(h:vz eY ws ls):(NT.mk eY ws).Ok:=⟨h.m5,h.m1,h.EJ,h.mg,h.wo⟩
abbrev pS:Stmt:=top 54
def CK(K:W.Frag):Sp:=λvs H Q _=>∃(a:Addr) (ns:List Int),vs=[.ref a]/\aS K H a (ns.map V.int)/\ns.length<=63/\∀t b c d mv wv lv eY ws ls H',aq H H'->H' t=some (.tup [.ref b,.ref c,.ref d])->H' b=some (.lst mv)->H' c=some (.lst wv)->H' d=some (.lst lv)->wZ H' mv eY->eW H' 1 wv (ws.map kR)->eW H' 1 lv (ls.map mI)->vz eY ws ls->Q (.ref t) H'
theorem Eu(D:dj K mg "_law_net" "_law_net" pS ["_law_script"])(T:Tx K mg C CN CR F FD)(x:Def P w K mg base "_law_at" 1 ["_law_script","_law_k"] (HC K))(v:Def P w K mg base "_law_digit" 1 ["_law_pot_here","_law_many"] jI)(ji:Def P w K mg base "_law_machine" 4 ["_law_pot_here"] yS)(M:Def P w K mg base "_law_pot" 1 ["_law_cell"] HF):Def P w K mg base "_law_net" 5 ["_law_script"] (CK K):=by
 have sc:aD ["_law_script","_law_many","_law_machines","_law_pot_here","_law_ways","_law_k","_law_letters","_law_said"] ["_law_script"] (az pS):=by walk_at "s"
 symm;obtain⟨a,ns,rfl,hS,Zy,q⟩:=h;have hu:=hr.units;refine⟨_,(ai (aW (i:=1) sc.nd rfl Sort (aT ck aj (aT cR (aL x hr (ag (au 0) (ag aj aa))) aj)))
  (ai (gF (i:=2) sc.nd rfl Sort (N':=["_law_k","_law_script"]) (ix:=[none,some 0]) (du rfl T.eX (ag (au 1) aa)) (λ_ _ _ _=>(aX (i:=0) (show(["_law_k","_law_script"]:List Str).Nodup by decide +kernel) rfl Sort)) pw (λ_ _ _ _=>(aL ji hr (ag (aL M hr (ag (aL x hr (ag (au 1) (ag (aT ck aj (au 0)) aa))) aa)) aa))))
  (ai (aW (i:=3) sc.nd rfl Sort (aL M hr (ag (aL x hr (ag (au 0) (ag aj aa))) aa)))
  (ai (aW (i:=4) sc.nd rfl Sort (bM aa))
  (ai (eZ PassesOwn.never rfl (du rfl T.eX (ag (aL v hr (ag (au 3) (ag aj aa))) aa)) (aX (i:=5) sc.nd rfl Sort)
  (ao (bS (dE nz qH qI bZ (au 4) (ag (bb (ag (aL v hr (ag (au 3) (ag (au 1) aa))) (ag (aL v hr (ag (au 3) (ag (au 1) aa))) (ag (ak hu (bM (ag aE (ag aE aa))) (aL v hr (ag (au 3) (ag aj aa)))) aa)))) aa)))))
  (ai (aW (i:=3) sc.nd rfl Sort (aL M hr (ag (aL x hr (ag (au 0) (ag aj aa))) aa)))
  (ai (aW (i:=6) sc.nd rfl Sort (bM aa))
  (ai (eZ PassesOwn.never rfl (du rfl T.eX (ag (aL v hr (ag (au 3) (ag aj aa))) aa)) (aX (i:=5) sc.nd rfl Sort)
  (ao (aR (aC (dH hu) (au 4) (bM aa) (aH _)) (ai (aW (i:=7) sc.nd rfl Sort (ak hu (bM (ag (aL v hr (ag (au 3) (ag aj aa))) (ag (aL v hr (ag (au 3) (ag (aT qM aj aj) aa))) aa))) (aL v hr (ag (au 3) (ag aj aa)))))
  (ao (bS (dE nz qH qI bZ (au 6) (ag (bb (ag (aL v hr (ag (au 3) (ag (bo aQ rfl T.b8 T' (ag (au 4) aa)) aa))) (ag (au 7) aa))) aa))))) aJ)))
  (ao (aK (bb (ag (au 2) (ag (au 4) (ag (au 6) aa)))))))))))))),?_⟩
 left;calc⟨a,ns,_,rfl,hS,(),λg=>⟨(by decide:(0:Int)<5),?_⟩⟩;have v:=aaR g (b:=5) ∅;have v:=aaL g (b:=5) ∅;left;calc bV ?_;left;calc g9 () () (λD hD=>?_);refine bE (J:=Dg 0 (1+g%5).toNat) (n:=(1+g%5).toNat) (λi ys H'=>aq H H'/\∃eY,eY.length=i/\wZ (mask D D D H') ys eY/\∀d∈eY,d.good) (L' (aI ())) ⟨aq.new _ hD,[],rfl,wZ.nil,λd hd=>by simp at hd⟩ (λi ys H' hi _=>hi) (λys H' _=>K' _) ?_ ?_
 ·intro i ys H1 hi bC hl iY x H2 iZ;nofun;obtain⟨Z,eY,oR,hM,O⟩:=iY;obtain⟨rfl,rfl⟩:=iZ;ac_rfl;calc⟨Ext.set (Ext.refl _) rfl,?_⟩;left;rw[if_pos trivial];calc⟨a,ns,_,rfl,Z.seq hS,(),λv=>⟨v,rfl,λp Tj R qL=>⟨p,rfl,⟨_,af,qL⟩,λt v T ld xs M mns row ds x st h1 h2 h3 h4 h5 f1 f2 f3 hg=>?_⟩⟩⟩;have q3:∀b o,H2 b=some o->x b=some o:=λb o e=>st.rest b o ((aq.new _ R) _ _ e) (av e R);have T:=q3 _ _ bC;have p1:=(aq.new (.lst (Tj.map V.int)) R) _ _ bC;have v:∀{b:Addr},upd H2 p (.lst (Tj.map V.int)) b=none->b≠D:=λf=>Ne.symm (av p1 f);refine cy T hl hi (L' (aI ())) ⟨λb o e=>by rw[ay (av e hD)];calc q3 _ _ (Z _ _ e),eY++[⟨M,mns,row,ds⟩],by simp[oR],?_,λd hd=>?_⟩
  ·have c4:Mi (mask D D D H2) (mask D D D (upd x D (.lst (ys++[.ref t])))):=zm λb o M b2 b3 e=>by rw[ay M];exact q3 _ _ e
   have c5:Mi (mask D D D x) (mask D D D (upd x D (.lst (ys++[.ref t])))):=zm λb o M b2 b3 e=>by rw[ay M];exact e
   exact(hM.Kk c4).snoc (fZ.Kk c5 (Et h1 h2 h3 h4 h5 ⟨_,T⟩ ⟨_,T⟩ ⟨_,T⟩ ⟨v f1,v f1,v f1⟩ ⟨v f2,v f2,v f2⟩ ⟨v f3,v f3,v f3⟩))
  ·rcases List.mem_append.mp hd with hd | hd
   ·exact O d hd
   ·simp only[List.mem_singleton]at hd;subst hd;exact hg
 intro mv H1 Xj hl v;nofun;obtain⟨Z,eY,oR,hM0,O⟩:=v;have hM:=hM0.Kk IG;generalize hDa:D=am at *;ac_rfl;left;calc⟨a,ns,_,rfl,Z.seq hS,(),λv=>⟨v,rfl,λp Tj R qL=>?_⟩⟩;have s2:=aq.new (.lst (Tj.map V.int)) R;have xB:fX (upd H1 p (.lst (Tj.map V.int))) p:=⟨_,af,qL⟩
 generalize AQ:upd H1 p (.lst (Tj.map V.int))=G2 at *;left;calc⟨aaa _,λy v=>?_⟩;have s3:=aq.new (.lst []) v;have Wn:y≠p:=Step.ne xB v;have RE:=xB.same s3;have eaw:upd G2 y (.lst []) y=some (.lst []):=af;have faw:H1 y=none:=s2.free v;have tL:=s2.trans s3;generalize QX:upd G2 y (.lst [])=G3 at *;left;calc mD p 11 rfl RE ∅ ⋯ (λx T uh M v=>?_);refine⟨x,rfl,(),(),jz (n:=x.toNat) (λi σ H'=>(∃S,σ=[some (.ref a),some (.int (1+g%5)),some (.ref am),some (.ref p),some (.ref y),S,none,none])/\fX H' p/\aq H1 H'/\∃(wv:List V) (ws:List (Int×Int×Str)),H' y=some (.lst wv)/\eW H' 1 wv (ws.map kR)/\ws.length=i/\∀w∈ws,vd (1+g%5) w) ?_ ?_ ?_⟩
 ·exact⟨⟨_,rfl⟩,v.gD,v.over tL R,[],[],v.rest _ _ eaw Wn,eW.nil,rfl,λw r=>by simp at r⟩
 ·intro i σ H5 hi yK;obtain⟨⟨S,rfl⟩,Mj,s5,wv,ws,U,hW,jP,LG⟩:=yK;have IH:wv.length=i:=by have:=hW.1;simp at this;lia
  left;calc⟨.inl ⟨rfl,_,aS.of U⟩,?_⟩;have l5:(1+g%5).natAbs.log2<9000:=by
   have:1+g%5=1\/1+g%5=2\/1+g%5=3\/1+g%5=4\/1+g%5=5:=by lia
   rcases this with e|e|e|e|e<;>(rw[e];decide +kernel)
  refine dig Mj () l5 λc x h60 h61 v=>?_;left;refine dig v.gD () l5 λB x h70 h71 M=>?_;have x:=v.trans M;left;refine⟨bP,λl hl=>?_⟩;have J5:=x.new (o:=.lst [.str "row",.str "heap"]) hl;have hlp:l≠p:=Step.ne x.gD hl;refine dig J5.gD ∅ ⋯ λk W hk0 hk1 J6=>?_;have ac4:=J5.trans J6;obtain⟨u,ew3,hw3⟩:∃u:Str,iQ [V.str "row",V.str "heap"] k=some (.str u)/\(u="row"\/u="heap"):=by
   have:k=0\/k=1:=by lia
   rcases this with rfl|rfl
   ·exact⟨_,aA (j:=0) rfl,.inl rfl⟩
   ·exact⟨_,aA (j:=1) rfl,.inr rfl⟩
  left;calc bF (J6.rest _ _ af hlp) ew3 ?_;left;calc⟨by show 3<=sizeLine;decide,λt ht=>?_⟩;have I:=ac4.new (o:=.tup [.int c,.int B,.str u]) ht;have Xl:=I.rest _ _ U Wn;have eT:upd W t (.tup [.int c,.int B,.str u]) t=some (.tup [.int c,.int B,.str u]):=af;have X:=I.gD;have tA:=I.aM Mj;have sA:aq H1 (upd W t (.tup [.int c,.int B,.str u])):=I.over s5 R;generalize hGA:upd W t (.tup [.int c,.int B,.str u])=GA at *;have tB:cq GA (upd GA y (.lst (wv++[.ref t]))):=(cq.refl _).upd λys e=>by rw[Xl]at e;cases e
  refine⟨_,Xl,aI (),⟨_,rfl⟩,X.upd (Ne.symm Wn),λb o e=>by rw[ay (av e faw)];calc sA _ _ e,wv++[.ref t],ws++[(c,B,u)],af,?_,by simp[jP],λw r=>?_⟩
  ·have h6:=((hW.aG tA).snoc (my (n:=0) eT (.int c) (.int B) (.str u))).aG tB;simpa[kR] using h6
  ·rcases List.mem_append.mp r with r | r
   ·exact LG w r
   ·simp only[List.mem_singleton]at r;subst r;exact⟨h60,h61,h70,h71,hw3⟩
 intro σ H5 yL;obtain⟨⟨S,rfl⟩,Mj,s5,wv,ws,U,hW,jP,LG⟩:=yL;have IH:wv.length=ws.length:=by have:=hW.1;simpa using this
 have HL:=s5 _ _ Xj;have hM5:=hM.Kk s5.Kk;left;calc⟨a,ns,_,rfl,(Z.trans s5).seq hS,(),λv=>⟨v,rfl,λL Y JV u=>?_⟩⟩;have s6:=aq.new (.lst (Y.map V.int)) JV;have hp6:fX (upd H5 L (.lst (Y.map V.int))) L:=⟨_,af,u⟩
 generalize Np:upd H5 L (.lst (Y.map V.int))=G6 at *;left;calc⟨aaa _,λG u=>?_⟩;have s7:=aq.new (.lst []) u;have QW:G≠L:=Step.ne hp6 u;have hp7:=hp6.same s7;have eal:upd G6 G (.lst []) G=some (.lst []):=af;have fal:H5 G=none:=s6.free u;have SJ:=s6.trans s7;generalize SI:upd G6 G (.lst [])=G7 at *;left;calc mD L 13 rfl hp7 ∅ ⋯ (λu M v x J5=>?_);refine⟨u,rfl,(),(),jz (n:=u.toNat) (λi σ H'=>(∃S z8,σ=[some (.ref a),some (.int (1+g%5)),some (.ref am),some (.ref L),some (.ref y),S,some (.ref G),z8])/\fX H' L/\aq H5 H'/\∃(lv:List V) (ls:List (Int×Int)),H' G=some (.lst lv)/\eW H' 1 lv (ls.map mI)/\ls.length<=i/\∀l∈ls,ve ws.length l) ?_ ?_ ?_⟩
 ·exact⟨⟨_,_,rfl⟩,J5.gD,J5.over SJ JV,[],[],J5.rest _ _ eal QW,eW.nil,K' _,λw r=>by simp at r⟩
 ·intro i σ W hi AO;obtain⟨⟨S,z8,rfl⟩,hp9,N,lv,ls,Ka,hL,yT,mj⟩:=AO;have i:lv.length=ls.length:=by have:=hL.1;simpa using this
  have i:=N _ _ U;left;calc⟨aaa _,λl0 u=>?_⟩;have m:=aq.new (.lst []) u;have II:=m _ _ i;have Zx:upd W l0 (.lst []) l0=some (.lst []):=af;have IJ:=m _ _ Ka;have RG:=hp9.same m;have Ew:=N.trans m;have Xm:=hL.aG m.aM;generalize Wz:upd W l0 (.lst [])=G10 at *
  cases ws with
  |nil=>
   have QS:wv=[]:=by simpa using IH
   subst QS;calc .inl ⟨.inr ⟨_,_,_,_,rfl,rfl,.inr ⟨aS.of II,aS.of Zx⟩,rfl,λj u v hu=>by simp at hu⟩,?_⟩;left
   try rw[if_neg Bool.false_ne_true]
   calc⟨⟨_,_,rfl,rfl⟩,RG,Ew,lv,ls,IJ,Xm,(),mj⟩
  |cons i u=>
   have hwp:0<(wv.length:Int):=by rw[IH];simp
   have i:wv.length<=10:=by lia
   calc .inr ⟨⟨_,_,by simp[IH],.inl ⟨aS.of II,aS.of Zx⟩⟩,?_⟩;left
   try rw[if_pos trivial]
   have lw:((wv.length:Nat):Int).natAbs.log2<9000:=HN hwp ();calc dig RG ∅ ⋯ λB v i u x=>?_;left;calc⟨AK,dig x.gD QA QB λM R v i u=>?_⟩;have R:=x.trans u;left;calc⟨bP,λv T=>?_⟩;have x:=R.new (o:=.lst [.int B,.int M]) T;have adb:v≠L:=Step.ne R.gD T;calc dig x.gD ∅ ⋯ λk u hk0 hk1 Ee=>?_;have xc:=x.trans Ee;have u:(10:Int)^Int.toNat 60=1000000000000000000000000000000000000000000000000000000000000:=by decide +kernel
   rw[u]at i;obtain⟨z,ez,hz0,EL⟩:∃z:Int,iQ [V.int B,V.int M] k=some (.int z)/\1-1000000000000000000000000000000000000000000000000000000000000<=z/\z<1000000000000000000000000000000000000000000000000000000000000:=by
    have:k=0\/k=1:=by lia
    rcases this with rfl|rfl
    ·exact⟨_,aA (j:=0) rfl,(),()⟩
    ·exact⟨_,aA (j:=1) rfl,(),()⟩
   left;calc bF (Ee.rest _ _ af adb) ez ?_;left;have Xr:=xc.rest _ _ IJ QW;have Xs:=xc.rest _ _ II (λz=>by rw[z,JV]at U;cases U);calc⟨.inl ⟨rfl,_,aS.of Xr⟩,?_⟩;calc bI _ (.inl ⟨_,aS.of Xs,rfl⟩) ?_;calc dig xc.gD hwp lw λc RH ade adf i=>?_;have j:=xc.trans i;left;calc⟨bP,λt ht=>?_⟩;have I:=j.new (o:=.tup [.int c,.int z]) ht;have Xt:=I.rest _ _ IJ QW;have eT:upd RH t (.tup [.int c,.int z]) t=some (.tup [.int c,.int z]):=af;have X:=I.gD;have tA:=I.aM RG;have sA:aq H5 (upd RH t (.tup [.int c,.int z])):=I.over Ew JV;generalize hGA:upd RH t (.tup [.int c,.int z])=GA at *;have tB:cq GA (upd GA G (.lst (lv++[.ref t]))):=(cq.refl _).upd λys e=>by rw[Xt]at e;cases e
   refine⟨_,Xt,aI (),⟨_,_,rfl,rfl⟩,X.upd (Ne.symm QW),λb o e=>by rw[ay (av e fal)];calc sA _ _ e,lv++[.ref t],ls++[(c,z)],af,?_,by simp;lia,λl hl=>?_⟩
   ·have h6:=((Xm.aG tA).snoc (cJ (n:=0) eT (.int c) (.int z))).aG tB;simpa[mI] using h6
   ·rcases List.mem_append.mp hl with hl | hl
    ·exact mj l hl
    ·simp only[List.mem_singleton]at hl;subst hl;exact⟨ade,by have:=adf;rw[IH]at this;calc this,hz0,EL⟩
 intro σ W LO;obtain⟨⟨S,z8,rfl⟩,hp9,N,lv,ls,Ka,hL,yT,mj⟩:=LO;left;calc⟨by show 3<=sizeLine;decide,λt ht=>?_⟩;have m:=aq.new (.tup [.ref am,.ref y,.ref G]) ht;calc q t am y G mv wv lv eY ws ls _ (Z.trans (s5.trans (N.trans m))) af (m _ _ (N _ _ HL)) (m _ _ (N _ _ U)) (m _ _ Ka) (hM5.Kk (N.trans m).Kk) (hW.aG (N.trans m).aM) (hL.aG m.aM) ⟨(),(),(),(),O,λw r=>?_,mj⟩;have e:((eY.length:Nat):Int)=1+g%5:=by lia
 rw[e];calc LG w r
def Tn(M:Int)(ns row:List Int)(a:List bu):DV:=.tup [.int M,.lst (ns.map .int),.lst (row.map .int),.lst (a.map bu.dv)]
theorem iU(v:Val):tI v.dv:=by
 cases v<;>(calc .tup λe a=>?_;simp at a)<;>first|(rcases a with rfl|rfl;calc .str _;calc .int _)|(subst a;calc .str _)
theorem IL(d:bu):tI d.dv:=by
 cases d with
 |set i v=>calc .tup λe a=>?_;simp at a;rcases a with rfl|rfl|rfl;calc .str _;calc .int _;calc iU v
 |add i v=>calc .tup λe a=>?_;simp at a;rcases a with rfl|rfl|rfl;calc .str _;calc .int _;calc iU v
 |times i v=>calc .tup λe a=>?_;simp at a;rcases a with rfl|rfl|rfl;calc .str _;calc .int _;calc iU v
 |put v=>calc .tup λe a=>?_;simp at a;rcases a with rfl|rfl;calc .str _;calc iU v
 |drop=>calc .tup λe a=>?_;simp at a;subst a;calc .str _
 |send j v=>calc .tup λe a=>?_;simp at a;rcases a with rfl|rfl|rfl;calc .str _;calc .int _;calc iU v
 |say v=>calc .tup λe a=>?_;simp at a;rcases a with rfl|rfl;calc .str _;calc iU v
 |skip v w k=>calc .tup λe a=>?_;simp at a;rcases a with rfl|rfl|rfl|rfl;calc .str _;calc iU v;calc iU w;calc .int _
theorem lA:tI (.lst (ns.map .int)):=.lst λe a=>by
 obtain⟨z,_,rfl⟩:=List.mem_map.mp a;calc .int z
theorem vA{a:List bu}:tI (.lst (a.map bu.dv)):=.lst λe b=>by
 obtain⟨z,_,rfl⟩:=List.mem_map.mp b;calc IL z
theorem gb{n:Nat}{vs:List V}{b:List DV}(e:H a=some (.lst vs))(h:dP H n vs b):HD H (n+1) (.ref a) (.lst b):=.lst e h.1 h.2
theorem eW.xA{n:Nat}{vs:List V}{c:List DV}(h:eW H n vs c):dP H n vs c:=⟨h.1,λi v d a b=>(h.2 i v d a b).hd⟩
theorem Mn{K:W.Frag}{c:Addr}{d d':MD}(h:fZ H (.ref a) d.M d.ns d.row d.ds)(h':fZ H (.ref c) d'.M d'.ns d'.row d'.ds):∃b,Za K H 19 a c b/\(b=true->Tn d.M d.ns d.row d.ds=Tn d'.M d'.ns d'.row d'.ds):=by
 obtain⟨t,u,v,w,L,e,n,p,q,r,s⟩:=h;obtain⟨L,t,u,v,w,z,j,i,k,l,A⟩:=h'
 cases e
 cases z;obtain⟨h,B,C⟩:=rW (K:=K) (H:=H) 4 (x:=.int d.M) (y:=.int d'.M) (m:=4) (.int _) (.int _) (.int _) (.int _);obtain⟨t,D,E⟩:=rW (K:=K) (H:=H) 4 (m:=4) (gb p (dP.ints d.ns)) (gb i (dP.ints d'.ns)) lA lA;obtain⟨u,F,G⟩:=rW (K:=K) (H:=H) 4 (m:=4) (gb q (dP.ints d.row)) (gb k (dP.ints d'.row)) lA lA;obtain⟨p,I,J⟩:=rW (K:=K) (H:=H) 4 (m:=4) (gb r ((s.xA).mono ∅)) (gb l ((A.xA).mono ∅)) vA vA;refine⟨_,⟨_,_,λi=>match i with
  |0=>h
  |1=>t
  |2=>u
  | _=>p,.inl ⟨bH.of n,bH.of j⟩,λi u v f g=>?_,rfl⟩,λo=>?_⟩
 ·match i,f,g with
  |0,f,g=>simp at f g;subst f g;calc B.mono ∅
  |1,f,g=>simp at f g;subst f g;calc D.mono ∅
  |2,f,g=>simp at f g;subst f g;calc F.mono ∅
  |3,f,g=>simp at f g;subst f g;calc I.mono ∅
  |(n+4),f,g=>simp at f
 ·simp[List.range_succ]at o;obtain⟨f,g,h,i⟩:=o;unfold Tn;rw[C.mp f,E.mp g,G.mp h,J.mp i]
theorem Mo{C:Addr}{M c:Int}{a b:List Int}{d f:List bu}(e:Tn M ns row d=Tn c a b f)(h:ie C H m M ns row d):ie C H m c a b f:=by
 unfold Tn at e;simp only[DV.tup.injEq,List.cons.injEq,DV.int.injEq,DV.lst.injEq,and_true]at e;obtain⟨g,i,j,k⟩:=e;obtain⟨l,st,dd,n,o,p⟩:=h;subst g;refine⟨l,st,dd,n,?_,?_⟩
 ·show HT H 2 st (.tup [.tup (a.map .int),.tup (b.map .int)]);rw[<-i,<-j];exact o
 ·rw[<-k];calc p
theorem j4{C:Addr}{M:Int}{a:List bu}(t:cq H H')(i:∀b c d e,H b=some (.ins c d e)->H' b=some (.ins c d e))(h:ie C H m M ns row a):ie C H' m M ns row a:=by
 obtain⟨a,st,dd,f,g,j⟩:=h;calc⟨a,st,dd,i _ _ _ _ f,g.aG t,j.aG t⟩
abbrev iz:Stmt:=top 61
inductive zo(C CN:Addr)(vs:List V)(H:Hp)(Q:VK):Prop
 |mk (x:V) (eY:List MD) (ws:List (Int×Int×Str)) (ls:List (Int×Int)) (h0:vs=[x]) (h1:ToldN H x eY ws ls) (h2:vz eY ws ls) (h3:∀n ms wv lv H',aq H H'->sI C CN H' n ⟨eY,ws⟩->k8 CN H' n ms wv lv->eW H' 1 lv (ls.map mI)->Q (.ref n) H'):zo C CN vs H Q
def vB(C CN:Addr):Sp:=λvs H Q _=>zo C CN vs H Q
theorem tj(D:dj K mg "_law_net_made" "_law_net_made" iz ["_law_net_here"])(T:Tx K mg C CN CR F FD)(pT:yj P w K mg base "Machine" C 7 ["self","modulus","numbers","row","deeds"] (Cm C))(IM:yj P w K mg base "Net" CN 7 ["self","machines","ways","letters"] (zf C CN)):Def P w K mg base "_law_net_made" 9 ["_law_net_here"] (vB C CN):=by
 have sc:aD ["_law_net_here","_law_machines","_law_k","_law_one"] ["_law_net_here"] (az iz):=by walk_at "s"
 symm;obtain⟨x,eY,ws,ls,rfl,hT,g,q⟩:=h;have u:=hr.units;refine⟨_,(ai (aW (i:=1) sc.nd rfl Sort (bM aa))
  (ai (eZ PassesOwn.never rfl (gX rfl T.cW (ag (ak u (au 0) aj) aa)) (fm (i:=2) (j:=3) rfl sc.nd rfl rfl Sort Sort)
  (ao (aR (PW.pt (pw_and (aC o9 (au 2) aj (aH _)) (pw_and1 (aC (B4 u) (au 3) (ak u (ak u (au 0) aj) aj) (aH _))))) (ao (bS (dE nz qH qI bZ (au 1) (ag (ak u (au 1) aj) aa)))) (ao (bS (dE nz qH qI bZ (au 1) (ag (Hb pT hr (ag (ak u (au 3) aj) (ag (da bO rfl T.dI vK (ag (ak u (au 3) aj) aa)) (ag (da bO rfl T.dI vK (ag (ak u (au 3) aj) aa)) (ag (da bO rfl T.dI vK (ag (ak u (au 3) aj) aa)) aa))))) aa)))))))
  (ao (aK (Hb IM hr (ag (au 1) (ag (da bO rfl T.dI vK (ag (ak u (au 0) aj) aa)) (ag (da bO rfl T.dI vK (ag (ak u (au 0) aj) aa)) aa)))))))),?_⟩
 obtain⟨t,am,aw,al,mv,wv,lv,rfl,ht,Xj,Ml,Ka,hM,hW,hL⟩:=id hT;have ajP:mv.length<=5:=by have:=hM.1;have:=g.m5;lia
 left;calc⟨aaa _,λy N=>?_⟩;have s0:=aq.new (.lst []) N;have elm:upd H y (.lst []) y=some (.lst []):=af;generalize hG0:upd H y (.lst [])=G0 at *;left;refine cN (s0 _ _ ht) (aA (j:=0) rfl) ⟨true,mv,Sq.l (s0 _ _ Xj),jD (xs:=mv) (λi σ H'=>∃(z2 z3:Option V) (n:List Addr),σ=[some (V.ref t),some (V.ref y),z2,z3]/\aq H H'/\H' y=some (.lst (n.map V.ref))/\n.length=i/\(∀(j:Nat) m d,n[j]?=some m->eY[j]?=some d->Sx C H' m d)) ?_ ?_ ?_ ?_⟩
 ·exact⟨_,_,[],rfl,s0,elm,rfl,λj m d e=>by simp at e⟩
 ·intro i σ H' iY;obtain⟨_,_,_,_,s1,_⟩:=iY;exact Sq.l (s1 _ _ Xj)
 ·intro i x σ H' tt hx iZ LZ;nofun;obtain⟨z2,z3,n,rfl,s1,Em,SM,Z⟩:=iZ;have hiv:i < mv.length:=(List.getElem?_eq_some_iff.mp hx).1;have gY:i < eY.length:=by have:=hM.1;lia
  have J:=g.mg _ (W' gY);have s2:=aq.new (.tup [.int (i:Nat),x]) LZ;have NW:upd H' tt (.tup [.int (i:Nat),x]) tt=some (.tup [.int (i:Nat),x]):=af;generalize AQ:upd H' tt (.tup [.int (i:Nat),x])=G at *;ac_rfl;have qC:=s1.trans s2;have NY:=(hM.2 i x eY[i] hx (cP gY)).cv qC.cv;have O:=s2 _ _ Em;calc yC (bH.of NW) ?_;obtain⟨ta,ln,lr,ld,Y,rfl,h1,h2,h3,h4,h5⟩:=id NY;left;rename_i T2 U2 zC Xu;have mk:U2 [some (V.ref t),some (V.ref y),some (V.int ((i:Nat):Int)),some (V.ref ta)] G:=by
   clear zC T2;generalize hmd:eY[i]=r at *;left;calc⟨.inl ⟨rfl,_,aS.of O⟩,?_⟩;calc cN h1 (aA (j:=0) rfl) ?_;calc cN h1 (aA (j:=1) rfl) ?_;left;calc bI _ (.inl (aS.of h2)) (λI wI=>?_);have s4:=aq.new (.lst (r.ns.map V.int)) wI;calc cN (s4 _ _ h1) (aA (j:=2) rfl) ?_;left;calc bI _ (.inl (aS.of (s4 _ _ h3))) (λL v8=>?_);have ZC:=aq.new (.lst (r.row.map V.int)) v8;calc cN (ZC _ _ (s4 _ _ h1)) (aA (j:=3) rfl) ?_;left;calc bI _ (.inl (aS.of (ZC _ _ (s4 _ _ h4)))) (λl3 Kg=>?_);have R:=aq.new (.lst Y) Kg;have s46:=s4.trans (ZC.trans R);have p:=R _ _ (ZC _ _ (af (H:=G) (a:=I) (o:=.lst (r.ns.map V.int))));have B:=R _ _ (af (H:=upd G I (.lst (r.ns.map V.int))) (a:=L) (o:=.lst (r.row.map V.int)));have e3:upd (upd (upd G I (.lst (r.ns.map V.int))) L (.lst (r.row.map V.int))) l3 (.lst Y) l3=some (.lst Y):=af;generalize Np:upd (upd (upd G I (.lst (r.ns.map V.int))) L (.lst (r.row.map V.int))) l3 (.lst Y)=G6 at *;intro m S BR wK adi;have U:aq G6 (upd (upd G6 S (.own m)) m (.ins C S [])):=λb o e=>by rw[ay (av e BR),ay (av e wK)];exact e
   have Xv:=s46.trans U;calc⟨m,S,r.M,I,L,l3,r.ns,r.row,Y,r.ds,2,rfl,af,J.m2,J.m12,.inl (U _ _ p),.inl (U _ _ B),.inl (U _ _ e3),J.l1,J.l4,J.r12,J.bn,J.br,(h5.aG Xv.aM).dl,∅,J.Zb,J.ok,λH8 CH hk=>⟨rfl,?_⟩⟩;have W:aq G H8:=λb o e=>hk b o (av (s46 _ _ e) BR) (Xv _ _ e);have RL:=W _ _ O;left;calc hJ _ RL (aI (by simp;lia)) ?_;have t7:cq H8 (upd H8 y (.lst (n.map V.ref++[.ref m]))):=(cq.refl _).upd λzs e=>by rw[RL]at e;cases e
   have i7:∀b c d e,H8 b=some (.ins c d e)->upd H8 y (.lst (n.map V.ref++[.ref m])) b=some (.ins c d e):=λb c d e h=>by
    rw[ay (λz=>by subst z;rw[RL]at h;cases h)];exact h
   left;refine⟨_,_,n++[m],⟨rfl,rfl⟩,λb o e=>?_,by rw[List.map_append];calc af,by simp[SM],λj m' d p B=>?_⟩
   ·rw[ay (av e N)];exact W _ _ (qC _ _ e)
   ·by_cases hj:j < n.length
    ·rw[List.getElem?_append_left hj]at p;exact j4 t7 i7 ((Z j m' d p B).same (s2.trans W))
    ·rw[List.getElem?_append_right ()] at p
     cases Bd:j-n.length with
     |succ k=>rw[Bd]at p;simp at p
     |zero=>
      rw[Bd]at p;nofun;obtain rfl:=Option.some.inj p;have Qo:j=i:=by lia
      subst Qo;rw[cP gY,hmd]at B;obtain rfl:=Option.some.inj B;ac_rfl;exact j4 t7 i7 CH
  by_cases h0:0<i
  ·rw[if_pos (by simpa using h0)];have Xw:0 < eY.length:=by lia
   have Xx:0<mv.length:=by lia
   have Bf:=(hM.2 0 mv[0] eY[0] (cP Xx) (cP Xw)).cv qC.cv;have ht0:∃c,mv[0]=.ref c:=by
    obtain⟨c,_,_,_,_,e,_⟩:=Bf;exact⟨c,e⟩
   obtain⟨c,ec⟩:=ht0;rw[ec]at Bf;calc cN (qC _ _ ht) (aA (j:=0) rfl) ?_;calc bF (qC _ _ Xj) (aA (j:=0) (v:=.ref c) (by rw[<-ec];calc cP Xx)) ?_;obtain⟨b,hb1,Sz⟩:=Mn (K:=K) NY Bf;refine VC ta c b rfl rfl hb1 ?_
   cases b with
   |false=>rw[if_neg ∅];calc mk
   |true=>
    have Sz:=Sz rfl;rw[if_pos rfl];clear mk;left;calc⟨.inl ⟨rfl,_,aS.of O⟩,?_⟩;have PU:0<n.length:=by lia
    calc bF O (aA (j:=0) (v:=.ref n[0]) (by rw[List.getElem?_map,cP PU];rfl)) ?_;left;calc hJ _ O (aI (by simp;lia)) ?_;have t7:cq G (upd G y (.lst (n.map V.ref++[.ref n[0]]))):=(cq.refl _).upd λzs e=>by rw[O]at e;cases e
    have i7:∀b c d e,G b=some (.ins c d e)->upd G y (.lst (n.map V.ref++[.ref n[0]])) b=some (.ins c d e):=λb c d e h=>by
     rw[ay (λz=>by subst z;rw[O]at h;cases h)];exact h
    left;refine⟨_,_,n++[n[0]],⟨rfl,rfl⟩,λb o e=>?_,by rw[List.map_append];calc af,by simp[SM],λj m' d p B=>?_⟩
    ·rw[ay (av e N)];exact qC _ _ e
    ·by_cases hj:j < n.length
     ·rw[List.getElem?_append_left hj]at p;exact j4 t7 i7 ((Z j m' d p B).same s2)
     ·rw[List.getElem?_append_right ()] at p
      cases Bd:j-n.length with
      |succ k=>rw[Bd]at p;simp at p
      |zero=>
       rw[Bd]at p;nofun;obtain rfl:=Option.some.inj p;have Qo:j=i:=by lia
       subst Qo;rw[cP gY]at B;obtain rfl:=Option.some.inj B;ac_rfl;exact Mo Sz.symm (j4 t7 i7 ((Z 0 n[0] eY[0] (cP PU) (cP Xw)).same s2))
  ·rw[if_neg (by simpa using h0),if_neg ∅];exact mk
 ·intro σ H4 qB;obtain⟨z2,z3,n,rfl,s5,bC,SM,Z⟩:=qB;have oR:n.length=eY.length:=by have:=hM.1;lia
  have xC:=s5 _ _ ht;left;calc cN xC (aA (j:=1) rfl) ?_;left;calc bI _ (.inl (aS.of (s5 _ _ Ml))) (λI wI=>?_);have R:=aq.new (.lst wv) wI;calc cN (R _ _ xC) (aA (j:=2) rfl) ?_;left;calc bI _ (.inl (aS.of (R _ _ (s5 _ _ Ka)))) (λL v8=>?_);have U:=aq.new (.lst lv) v8;have p:=U _ _ (af (H:=H4) (a:=I) (o:=.lst wv));have B:upd (upd H4 I (.lst wv)) L (.lst lv) L=some (.lst lv):=af;have xD:=R.trans U;generalize SI:upd (upd H4 I (.lst wv)) L (.lst lv)=G7 at *;have jP:wv.length=ws.length:=by have:=hW.1;simpa using this
  have yT:lv.length=ls.length:=by have:=hL.1;simpa using this
  intro x S hx wK adi;have s8:aq G7 (upd (upd G7 S (.own x)) x (.ins CN S [])):=λb o e=>by rw[ay (av e hx),ay (av e wK)];exact e
  have s58:=s5.trans (xD.trans s8);have hgm:=g.m1;have ajT:=g.m5;have hgw:=g.EJ;have Nu:=g.l20;refine⟨x,S,y,I,L,n,wv,lv,ws,ls,rfl,af,s8 _ _ (xD _ _ bC),s8 _ _ p,s8 _ _ B,(),(),(),(),λm hm=>?_,hW.aG s58.aM,hL.aG s58.aM,λw hw=>by rw[oR];calc g.wo w hw,λl hl=>by rw[jP];calc g.lo l hl,λH9 ZD hk9=>⟨rfl,?_⟩⟩
  ·nofun;obtain⟨j,hj,rfl⟩:=List.getElem_of_mem hm;obtain⟨DP,Fu,KO,h1,_,_⟩:=(Z j _ eY[j] (cP hj) (cP ())).same (xD.trans s8);ac_rfl;exact⟨_,_,h1⟩
  ·have To:aq H4 H9:=λb o e=>hk9 b o (av (xD _ _ e) hx) (s8 _ _ (xD _ _ e));have X:=s5.trans To;calc q x n wv lv H9 X ⟨⟨n,wv,lv,ZD,oR,λj m d a b=>(Z j m d a b).same To,hW.aG X.aM⟩,g.nt⟩ ZD (hL.aG X.aM)
def oG(n:NT)(r:RS)(w k:Nat):List Int:=match (r.ww w).snd.getD k none with
 |none=>(r.mm (n.goal w)).hr.bz (List.replicate n.ms.length 0)
 |some (s,c)=>List.zipWith max ((r.mm (n.goal w)).hr.bz (List.replicate n.ms.length 0)) ((r.mm s.toNat).hr.getD (c-1).toNat [])
theorem Mp{n:NT}{w k:Nat}:n.fV r w k=(oG n r w k).set (n.goal w) (n.ev r w).2:=rfl
theorem Mq{l:List Int}{m:Nat}{c:Int}{n:Nat}(a:l.length=n)(b:m<n):((List.range n).map λj=>V.int (l.getD j 0+(if decide (((j:Nat):Int)=((m:Nat):Int))=true then 1 else 0))).set m (.int c)=(l.set m c).map V.int:=by
 apply List.ext_getElem (by simp[a]);intro j b d;have e:j<n:=by simpa using b
 simp only[List.getElem_map,List.getElem_set,List.getElem_range];by_cases z:m=j
 ·rw[if_pos z,if_pos z]
 ·rw[if_neg z,if_neg z,if_neg (by simp;lia),getD_at (cP ()),Int.add_zero]
theorem RM{l:List (Option (Int×Int))}{k:Nat}{a:List (Key×V)}{v:V}(h:OR H0 (.d (kL l) (l.countP Option.isSome)) (.dK a))(b:l[k]?=some none)(f:HD H0 4 v (pairD e)):OR H0 (.d (kL (l.set k (some e))) ((l.set k (some e)).countP Option.isSome)) (.dK (putK a (Sum.inl ((k:Nat):Int)) v)):=by
 have g:k<l.length:=(List.getElem?_eq_some_iff.mp b).1;have c:gM a (Sum.inl ((k:Nat):Int))=none:=by
  have:=h.2 ((k:Nat):Int);have a:kL l ((k:Nat):Int)=none:=by
   unfold kL;rw[if_pos (),Int.toNat_natCast,getD_at b];rfl
  rw[a]at this;exact this
 refine⟨?_,λj=>?_⟩
 ·rw[F6 v c,count_set b,List.length_append,List.length_singleton];have:=h.1;lia
 ·rw[ID g,F5];by_cases z:j=((k:Nat):Int)
  ·rw[if_pos z,if_pos (by rw[z])];exact⟨v,rfl,f⟩
  ·rw[if_neg z,if_neg (λq=>z (Sum.inl.inj q))];calc h.2 j
theorem Mr{r:RS}{n:NT}{w k:Nat}:∀t i,i<n.n t->setC (setC (setC (setC (setC r.tv 3 (n.goal w) (.l (((r.mm (n.goal w)).hr.map λu=>DV.lst (u.map .int))++[.lst ((n.fV r w k).map .int)]))) 6 w (.d (kL ((r.ww w).eB.set k (some (n.ev r w)))) (((r.ww w).eB.set k (some (n.ev r w))).countP Option.isSome))) 1 (n.goal w) (.l ((r.mm (n.goal w)).gH.map qz++[qz ((n.work r w k).ns,(n.work r w k).row)]))) 2 (n.goal w) (.l (((r.mm (n.goal w)).wp.map λu=>DV.lst (u.map .int))++[.lst (((r.mm (n.goal w)).wp.bz []++(n.work r w k).words).map .int)]))) 0 0 (.l (r.picks.map pairD++[pairD ((w:Int),(k:Int))])) t i=(r.step n w k).tv t i:=by
 intro t i a;unfold setC
 match t,a with
 |0,a=>
  have:i=0:=by have:i<1:=a;lia
  subst this;simp[RS.tv,RS.step]
 |1,_=>by_cases e:i=n.goal w<;>simp[RS.tv,RS.step,e]
 |2,_=>by_cases e:i=n.goal w<;>simp[RS.tv,RS.step,e]
 |3,_=>by_cases e:i=n.goal w<;>simp[RS.tv,RS.step,e]
 |4,_=>by_cases e:i=w<;>simp[RS.tv,RS.step,e]
 |5,_=>by_cases e:i=w<;>simp[RS.tv,RS.step,e]
 |6,_=>by_cases e:i=w<;>simp[RS.tv,RS.step,e]
 |(t+7),a=>calc absurd a (Nat.not_lt_zero i)
theorem IP{r:RS}{n:NT}{w:Nat}{x:Int}{s:Option (Int×Int)}:∀t i,i<n.n t->setC (setC r.tv 4 w (.l ((r.ww w).say.map .int++[.int x]))) 5 w (.l ((r.ww w).snd.map tJ++[tJ s])) t i=(r.put w x s).tv t i:=by
 intro t i a;unfold setC
 match t,a with
 |0,_=>simp[RS.tv,RS.put]
 |1,_=>simp[RS.tv,RS.put]
 |2,_=>simp[RS.tv,RS.put]
 |3,_=>simp[RS.tv,RS.put]
 |4,_=>by_cases e:i=w<;>simp[RS.tv,RS.put,e]
 |5,_=>by_cases e:i=w<;>simp[RS.tv,RS.put,e]
 |6,_=>by_cases e:i=w<;>simp[RS.tv,RS.put,e,Eo]
 |(t+7),a=>calc absurd a (Nat.not_lt_zero i)
theorem q0{H:Hp}{n:Nat}{v:V}{ns:List Int}(h:HD H n v (.lst (ns.map .int))):∃a,v=.ref a/\H a=some (.lst (ns.map V.int)):=by
 cases h with
 | @lst n a b _ e l i=>calc⟨a,rfl,by rw[e,show b=ns.map V.int from dP.jU ⟨l,i⟩]⟩
theorem IQ{x y:HO}(h:a≠b):upd (upd H a x) b y=upd (upd H b y) a x:=by
 funext c;by_cases d:c=a
 ·subst d;rw[ay h,af,af]
 ·by_cases e:c=b
  ·subst e;rw[af,ay d,af]
  ·rw[ay e,ay d,ay d,ay e]
theorem CL{K:W.Frag}{j:Addr}{nt:NT}{g:Nat}{e:Nat}(u:e<2)(f:H j=some (.lst wv))(o:eW H 1 wv (nt.ws.map kR))(P:wv.length<=10)(v:σ[3]?=some (some (.int ((g:Nat):Int))))(p:H D=none)(q:∀H1,aq H H1->H1 D=some (.lst ((uj nt e g).map λi=>V.int ((i:Nat):Int)))->Q (.ref D) H1):kI [none,none,some 3] (M4 true K j) (Fo K 2 (me (fL 0) (me (fL 1) Fm))) (tT (Fx (Qt K) (Fx (PK K) (tV 1) (tC (V.int ((e:Nat):Int)))) (tV 2))) (tV 0) σ H Q D:=by
 have x:wv.length=nt.ws.length:=by simpa using o.1
 have A:tR [none,none,some 3] σ=[none,none,some (.int ((g:Nat):Int))]:=by simp[tR,v]
 refine bE (n:=wv.length) (λi ys H'=>aq H H'/\ys=((List.range i).filter λj=>decide (sJ nt e j=((g:Nat):Int))).map λj=>V.int (j:Nat)) (L' (aI ())) ⟨aq.new _ p,rfl⟩ ?_ ?_ ?_ ?_
 ·rintro i ys H' h ⟨a,_⟩;exact⟨wv,wv[i],Sq.l (a _ _ f),cP h⟩
 ·rintro ys H' ⟨a,_⟩;exact⟨wv,Sq.l (a _ _ f),rfl⟩
 ·intro i ys H' h d r B R S C;rw[A];obtain⟨a,rfl⟩:=B;obtain⟨k,E,rfl,y⟩:=C;obtain⟨b,F,rfl⟩:=y wv (Sq.l (a _ _ f));have j:i < nt.ws.length:=by lia
  have m:=aq.new (.tup [.int (i:Nat),b]) E;have I:=(o.2 i b (kR (nt.w i)) F (by rw[List.getElem?_map,show nt.ws[i]?=some (nt.w i) from bq j];rfl)).aG (a.trans m).aM;have J:upd H' k (.tup [.int (i:Nat),b]) k=some (.tup [.int (i:Nat),b]):=af;have s:=m _ _ d;have t:=a.trans m;generalize T:upd H' k (.tup [.int (i:Nat),b])=G at *;obtain⟨U,X,Y,Z,kk,rfl,L,M,N,O⟩:=bW I;obtain rfl:=M.cw;obtain rfl:=N.cw;obtain rfl:=O.cS;calc yC (bH.of J) ⟨Ext.set (Ext.set (Ext.refl _) rfl) rfl,?_⟩;left;refine cN L (show iQ _ ((e:Nat):Int)=some (.int (sJ nt e i)) from aA (by match e,u with
   |0,_=>rfl
   | 1,_=>rfl)) ?_
  left;by_cases z:sJ nt e i=((g:Nat):Int)
  ·rw[if_pos (decide_eq_true z)];calc cy s r h (L' (aI ())) ⟨λc o e=>by rw[ay (av e p)];calc t _ _ e,?_⟩;rw[fE,if_pos (decide_eq_true z),List.map_append];rfl
  ·rw[if_neg λh=>z (of_decide_eq_true h)];exact⟨_,s,(),t,by rw[fE,if_neg λh=>z (of_decide_eq_true h),List.append_nil]⟩
 ·rintro ys H1 d r ⟨a,rfl⟩;rw[x]at d;calc q H1 a d
abbrev mY:Stmt:=top 60
inductive IS(vs:List V)(H:Hp)(Q:VK):Prop
 |mk (F:Addr->Prop) (d:Addr) (tn:V) (nt:NT) (r:RS) (ad:Nat->Nat->Addr) (wy k:Nat) (h0:vs=[.ref d,.int (wy:Nat),.int (k:Nat)]) (h1:cp F H d tn nt r ad) (h2:FS F H) (h3:r.Ok nt) (h4:r.xE nt wy k) (h5:r.picks.length<=400) (h6:∀t H',Fr (FP nt.n ad) H H'->cp F H' d tn nt (r.pick nt wy k) ad->HT H' 1 t (pairD (nt.ev r wy))->Q t H'):IS vs H Q
def q8:Sp:=λvs H Q _=>IS vs H Q
theorem Bg(D:dj K mg "_law_pick" "_law_pick" mY ["_law_run","_law_way","_law_number"])(T:Tx K mg C CN CR F FD)(j5:Def P w K mg base "_law_worked" 2 ["_law_machine_here","_law_state","_law_way","_law_said"] (CC K)):Def P w K mg base "_law_pick" 3 ["_law_run","_law_way","_law_number"] q8:=by
 have sc:aD ["_law_run","_law_way","_law_number","_law_m","_law_place","_law_outs","_law_event","_law_state","_law_sent","_law_words","_law_row","_law_source","_law_c","_law_j","_law_said"] ["_law_run","_law_way","_law_number"] (az mY):=by walk_at "s"
 symm;obtain⟨F,d,tn,m,r,ad,B,k,rfl,M,iL,O,hc,sC,q⟩:=h;have G:=hr.units;have HG:=lt1 G;refine⟨_,(ai (aW (i:=3) sc.nd rfl Sort (ak G (ak G (ak G (ak G (au 0) aE) aj) (au 1)) aj))
  (ai (aW (i:=4) sc.nd rfl Sort (dE nz PySem.F.slot_list_index PySem.F.type_list_index u7 (dQ (N':=["_law_k","_law_told","_law_m"]) (ix:=[none,none,some 3]) (gX rfl T.cW (ag (ak G (ak G (au 0) aE) aj) aa)) (λ_ _ _ _=>(lV (K:=K) rfl (i:=0) (j:=1) rfl (show(["_law_k","_law_told","_law_m"]:List Str).Nodup by decide +kernel) rfl rfl Sort Sort)) (λ_ _ _ _=>(jR (aC (oa (K:=K) rfl G) (dG (K:=K) rfl G (au 1) aj) (au 2) (aH _)))) (λ_ _ _ _=>(au 0))) (ag (au 1) aa)))
  (ai (gF (i:=5) sc.nd rfl Sort (N':=["_law_k","_law_told","_law_m"]) (ix:=[none,none,some 3]) (gX rfl T.cW (ag (ak G (ak G (au 0) aE) aj) aa)) (λ_ _ _ _=>(lV (K:=K) rfl (i:=0) (j:=1) rfl (show(["_law_k","_law_told","_law_m"]:List Str).Nodup by decide +kernel) rfl rfl Sort Sort)) (λ_ _ _ _=>(jR (aC (oa (K:=K) rfl G) (dG (K:=K) rfl G (au 1) aj) (au 2) (aH _)))) (λ_ _ _ _=>(au 0)))
  (ai (aW (i:=6) sc.nd rfl Sort (bb (ag (au 3) (ag (bo aQ rfl T.b8 T' (ag (ak G (ak G (au 0) aE) (au 3)) aa)) aa))))
  (ai (eQ (aL j5 hr (ag (ak G (ak G (ak G (au 0) aE) aj) (au 3)) (ag (ak G (ak G (ak G (au 0) aE) (au 3)) (jA gj aj)) (ag (au 4) (ag (ak G (ak G (ak G (au 0) aE) (au 1)) (au 2)) aa))))) (yB (i:=7) (j:=8) (l:=9) rfl sc.nd rfl rfl rfl Sort Sort Sort))
  (ai (aW (i:=10) sc.nd rfl Sort (ak G (aT ck (bM (ag (aT yw (bM (ag aj aa)) (bo aQ rfl T.b8 T' (ag (ak G (ak G (au 0) aE) aj) aa))) aa)) (ak G (ak G (au 0) aE) (au 3))) (jA gj aj)))
  (ai (aR (aC pb (ak G (ak G (ak G (au 0) aE) (au 1)) (au 2)) fK (aH _)) (ai (eQ (ak G (ak G (ak G (au 0) aE) (au 1)) (au 2)) (fm (i:=11) (j:=12) rfl sc.nd rfl rfl Sort Sort))
  (ao (Fp (i:=10) sc.nd rfl Sort (dQ (N':=["_law_one","_law_other"]) (ix:=[none,none]) (GP rfl T.Hy (ag (au 10) (ag (ak G (ak G (ak G (au 0) aE) (au 11)) (aT fP (au 12) aj)) aa))) (λ_ _ _ _=>(lV (K:=K) rfl (i:=0) (j:=1) rfl (show(["_law_one","_law_other"]:List Str).Nodup by decide +kernel) rfl rfl Sort Sort)) pw (λ_ _ _ _=>(bo (Dw rfl) rfl T.Nh PyProof.Rows.boot_max (ag (au 0) (ag (au 1) aa))))) rfl))) aJ)
  (ai (bS (dE nz qH qI bZ (ak G (ak G (au 0) aE) (au 3)) (ag (dQ (N':=["_law_k","_law_row","_law_m"]) (ix:=[none,some 10,some 3]) (du rfl T.eX (ag (bo aQ rfl T.b8 T' (ag (au 10) aa)) aa)) (λ_ _ _ _=>(aX (i:=0) (show(["_law_k","_law_row","_law_m"]:List Str).Nodup by decide +kernel) rfl Sort)) pw (λ_ _ _ _=>(aT ck (dG (K:=K) rfl G (au 1) (au 0)) (da uF rfl T.Ca PyProof.Rows.boot_int (ag (jO (oa (K:=K) rfl G) (au 0) (au 2) (aH _)) aa))))) aa)))
  (ai (eQ (ak G (au 6) aj) (iW (ak G (ak G (ak G (au 0) aE) (au 3)) (jA gj aj)) (au 3) eA))
  (ai (lS HG (ak G (ak G (au 0) aE) (au 1)) (au 2) (au 6) rfl)
  (ai (bS (dE nz qH qI bZ (ak G (ak G (au 0) aE) (au 3)) (ag (au 7) aa)))
  (ai (bS (dE nz qH qI bZ (ak G (ak G (au 0) aE) (au 3)) (ag (aT ck (ak G (ak G (ak G (au 0) aE) (au 3)) (jA gj aj)) (au 9)) aa)))
  (ai (bS (dE nz qH qI bZ (ak G (au 0) aE) (ag (bb (ag (au 1) (ag (au 2) aa))) aa)))
  (ai (eZ PassesOwn.never rfl (cA (pv 8)) (fm (i:=13) (j:=14) rfl sc.nd rfl rfl Sort Sort)
  (ao (aR (aC gk (au 13) (bo aQ rfl T.b8 T' (ag (au 5) aa)) (aH _)) (ai (bS (dE nz qH qI bZ (ak G (ak G (au 0) aE) (ak G (au 5) (au 13))) (ag (au 14) aa)))
  (ao (bS (dE nz qH qI bZ (ak G (ak G (au 0) aE) (ak G (au 5) (au 13))) (ag (au 6) aa))))) aJ)))
  (ao (aK (au 6))))))))))))))))),?_⟩
 nofun;obtain⟨o,N,nF,nP,ho⟩:=M.dk;obtain⟨ls,tt,am,aw,al,mv,wv,lv,rfl,h1,h2,h3,h4,h5,h6,h7⟩:=M.told;have g1:=(cK h1 (λk z=>by cases z)).2;have g2:=(cK h2 (λk z=>by cases z)).2;have g3:=(cK h3 (λk z=>by cases z)).2
 replace h5:=h5.cv eF
 replace h6:=h6.aG eF.aM
 have W:=M.ok;have L:=hc.lt;have I:=W.jV L;have jP:wv.length=m.ws.length:=by simpa using h6.1
 have oR:mv.length=m.ms.length:=h5.1;have oj:wv.length<=10:=by rw[jP];exact W.AE
 have HL:m.ms.length<=5:=W.Zc;obtain⟨wk1,wk2,wk3,wk4⟩:=qS W O L k;ac_rfl;have BZ:k<(r.ww B).say.length:=by rw[O.lk B L];exact(List.getElem?_eq_some_iff.mp hc.lies).1
 left;calc bI _ (Bc N) ?_;left;calc cN g1 (aA (j:=1) rfl) ?_;have Ww:m.ws[B]?=some (m.w B):=bq L;have ajV:B<wv.length:=by lia
 have uo:=h6.2 B wv[B] (kR (m.w B)) nofun (by rw[List.getElem?_map,Ww];rfl);nofun;obtain⟨ta,u1,u2,u3,kk,eta,vk,q1,q2,q3⟩:=bW uo;obtain rfl:=q1.cw;obtain rfl:=q2.cw;obtain rfl:=q3.cS;ac_rfl;calc bF g3 (aA (j:=B) (v:=.ref ta) (by rw[<-eta];simp)) ?_;calc cN vk (show iQ _ 1=some (.int ((m.goal B:Nat):Int)) from by rw[<-qV W L];calc aA (j:=1) rfl) ?_;left;calc bV ?_;left;calc bI _ (Bc ((aq.refl H) _ _ N)) ?_;left;calc cN ((aq.refl H) _ _ g1) (aA (j:=1) rfl) ?_;left;calc DQ true wv (Sq.l ((aq.refl H) _ _ g3)) (λD1 EZ=>?_);calc CL ∅ g3 h6 oj rfl EZ (λH1 s1x H1e=>?_);have RN:aq H H1:=s1x;left;calc⟨.inl ⟨rfl,_,aS.of H1e⟩,?_⟩;obtain⟨ix1,ix2⟩:=sU (Iu W L);refine⟨D1,_,m.place B,B,rfl,rfl,by rw[H1e,vm],?_,?_,?_⟩
 ·rw[List.getElem?_map,<-oB W L,ix1];rfl
 ·intro i y hi hy;rw[List.getElem?_map]at hy;obtain⟨z,hz,rfl⟩:=Option.map_eq_some_iff.mp hy;have:=ix2 i z (by rw[oB W L];calc hi) hz;lia
 left;calc bV ?_;left;calc bI _ (Bc (RN _ _ N)) ?_;left;calc cN (RN _ _ g1) (aA (j:=1) rfl) ?_;left;calc DQ true wv (Sq.l (RN _ _ g3)) (λD2 Ef=>?_);calc CL ∅ (RN _ _ g3) (h6.aG RN.aM) oj rfl Ef (λH2 s2x H2e=>?_);have ZE:aq H H2:=RN.trans s2x;left;calc bI _ (Me (ZE _ _ N)) ?_;have o1:=ho 1 ∅ ∅;have o2:=ho 2 ∅ ∅;have o3:=ho 3 ∅ ∅;have o4:=ho 4 ∅ ∅;have o5:=ho 5 ∅ ∅;have o6:=ho 6 ∅ ∅;have i0:0<m.n 0:=by show 0<1;decide
 obtain⟨v1,e1,d1⟩:=M.cu.lst (t:=1) (i:=m.goal B) I rfl;have z1:v1.length=(r.mm (m.goal B)).gH.length:=by simpa using d1.1
 have Wj:=O.wD I;left;calc bF (ZE _ _ o1.1) (aZ I) ?_;calc hJ _ (.inl ⟨_,aS.of (ZE _ _ e1),rfl⟩) bP (λev Zm=>?_);rw[z1];have NB:=aq.new (.tup [.int ((m.goal B:Nat):Int),.int (((r.mm (m.goal B)).gH.length:Nat):Int)]) Zm;have R:=ZE.trans NB;have adl:HT (upd H2 ev (.tup [.int ((m.goal B:Nat):Int),.int (((r.mm (m.goal B)).gH.length:Nat):Int)])) 1 (.ref ev) (pairD (m.ev r B)):=cJ (n:=0) af (.int _) (.int _);have adm:upd H2 ev (.tup [.int ((m.goal B:Nat):Int),.int (((r.mm (m.goal B)).gH.length:Nat):Int)]) ev=some (.tup [.int ((m.goal B:Nat):Int),.int (((r.mm (m.goal B)).gH.length:Nat):Int)]):=af;generalize QX:upd H2 ev (.tup [.int ((m.goal B:Nat):Int),.int (((r.mm (m.goal B)).gH.length:Nat):Int)])=H3 at *;have H3o:=NB _ _ H2e;left;calc bI _ (Bc (R _ _ N)) ?_;left;calc cN (R _ _ g1) (aA (j:=0) rfl) ?_;have aj0:m.goal B<mv.length:=by lia
 have emd:m.ms[m.goal B]?=some (m.ms.getD (m.goal B) default):=bq I;obtain⟨mt,ln,lr,ld,xsd,emt,t1,t2,t3,t4,t5⟩:=h5.2 (m.goal B) mv[m.goal B] _ nofun emd;have GH:=W.gd I;calc bF (R _ _ g2) (aA (j:=m.goal B) (v:=.ref mt) (by rw[<-emt];simp)) ?_;calc bI _ (Me (R _ _ N)) ?_;left;calc bF (R _ _ o1.1) (aZ I) ?_;obtain⟨sv,esv,dsv⟩:=d1.get (i:=(r.mm (m.goal B)).gH.length-1) (d:=qz ((r.mm (m.goal B)).gH.bz ([],[]))) (by rw[List.getElem?_map,jH (d:=([],[])) Wj];rfl);have L5:=(Io (dsv.cv eF)).aG R.aM;calc bF (R _ _ e1) (iT () (by rw[z1];calc esv)) ?_;left;calc bI _ (En (R _ _ N)) ?_;nofun;obtain⟨v4,e4,d4⟩:=M.cu.lst (t:=4) (i:=B) L rfl;have z4:=d4.jU;subst z4;ac_rfl;left;calc bF (R _ _ o4.1) (aZ L) ?_;calc bF (R _ _ e4) (aA (j:=k) (v:=.int ((r.ww B).say.getD k 0)) (by rw[List.getElem?_map,bq (d:=0) BZ];rfl)) ?_;have sV:=O.last I;calc⟨mt,ln,lr,ld,sv,_,_,_,xsd,_,_,_,rfl,R _ _ t1,R _ _ t4,t5.aG R.aM,yt.of L5,GH.m2,GH.m12,sV.bn,sV.lr,GH.Zb,by rw[sV.ln];calc GH.ok,λrx H4 ZF Q5=>?_⟩;have ZG:=R.trans ZF;nofun;obtain⟨rp,Kh,SH,NC,zs,rfl,hrp,A7,Q6,om,A8,fl1,fl2,acm⟩:=Q5.ex
 replace A7:HT H4 2 Kh (yq (m.work r B k).ns (m.work r B k).row):=A7
 replace om:SL H4 zs (m.work r B k).cQ:=om
 replace A8:H4 NC=some (.lst ((m.work r B k).words.map V.int)):=A8
 ac_rfl;have Xz:=adl.aG ZF.aM;have adn:=ZF _ _ adm;have H4o:=ZF _ _ H3o;calc un3 (bH.of hrp) ?_;left;calc⟨∅,λlz hlz=>?_⟩;have Zl:=aq.new (.lst [.int 0]) hlz;have elz:upd H4 lz (.lst [.int 0]) lz=some (.lst [.int 0]):=af;generalize SE:upd H4 lz (.lst [.int 0])=H5 at *;have QU:=ZG.trans Zl;calc bI _ (Bc (QU _ _ N)) ?_;left;calc cN (QU _ _ g1) (aA (j:=0) rfl) ?_;calc bI _ (.inl ⟨_,aS.of (QU _ _ g2),rfl⟩) ?_;calc Ls _ elz () () (λS hlq=>?_);rw[Int.toNat_natCast,oR];have s56:=aq.new (.lst (List.replicate m.ms.length (V.int 0))) hlq;have Tp:upd H5 S (.lst (List.replicate m.ms.length (V.int 0))) S=some (.lst ((List.replicate m.ms.length 0).map V.int)):=by rw[af,List.map_replicate]
 generalize Np:upd H5 S (.lst (List.replicate m.ms.length (V.int 0)))=H6 at *;calc⟨∅,λla hla=>?_⟩;have xD:=aq.new (.lst [.ref S]) hla;have ela:upd H6 la (.lst [.ref S]) la=some (.lst [.ref S]):=af;generalize SI:upd H6 la (.lst [.ref S])=H7 at *;have Xv:=Zl.trans (s56.trans xD);have sH7:=ZG.trans Xv;calc bI _ (Mf (sH7 _ _ N)) ?_;obtain⟨v3,e3,d3⟩:=M.cu.lst (t:=3) (i:=m.goal B) I rfl;have z3:v3.length=(r.mm (m.goal B)).hr.length:=by simpa using d3.1
 have hlh:=O.lh _ I;have Ki:=O.bp _ I;left;calc bF (sH7 _ _ o3.1) (aZ I) ?_;calc .inl ⟨_,_,ela,sH7 _ _ e3,L' (small (by simp;lia)),λlb hlb=>?_⟩;have s78:=aq.new (.lst ([.ref S]++v3)) hlb;have elb:upd H7 lb (.lst ([.ref S]++v3)) lb=some (.lst ([.ref S]++v3)):=af;generalize hG8:upd H7 lb (.lst ([.ref S]++v3))=H8 at *;have s48:=Xv.trans s78;have X:=ZG.trans s48;have XA:∃rl,iQ ([V.ref S]++v3) (-1)=some (.ref rl)/\H8 rl=some (.lst (((r.mm (m.goal B)).hr.bz (List.replicate m.ms.length 0)).map V.int)):=by
  by_cases h1:1<=(r.mm (m.goal B)).hr.length
  ·nofun;obtain⟨v,ev',dv⟩:=d3.get (i:=(r.mm (m.goal B)).hr.length-1) (d:=.lst (((r.mm (m.goal B)).hr.bz (List.replicate m.ms.length 0)).map .int)) (by rw[List.getElem?_map,jH (d:=List.replicate m.ms.length 0) h1];rfl);obtain⟨a,rfl,ea⟩:=q0 (dv.cv eF);ac_rfl;calc⟨a,iT nofun ?_,X _ _ ea⟩;rw[List.length_append,List.length_singleton,List.getElem?_append_right (by simp;lia)];rw[show 1+v3.length-1 - [V.ref S].length=(r.mm (m.goal B)).hr.length-1 by simp;lia];exact ev'
  ·have ez:(r.mm (m.goal B)).hr=[]:=List.length_eq_zero_iff.mp ();have ev3:v3=[]:=List.length_eq_zero_iff.mp ();refine⟨S,?_,?_⟩
   ·rw[ev3];exact iT nofun rfl
   ·rw[ez];show H8 S=some (.lst (List.map V.int (List.getD ([]:List (List Int)) _ _)));exact s78 _ _ (xD _ _ Tp)
 obtain⟨rl,erl,zd⟩:=XA;calc bF elb erl ?_;left;calc bI _ (Md (X _ _ N)) ?_;obtain⟨v5,e5,d5⟩:=M.cu.lst (t:=5) (i:=B) L rfl;have QG:=O.ls B L;left;calc bF (X _ _ o5.1) (aZ L) ?_;obtain⟨v5k,ev5,ZH⟩:=d5.get (i:=k) (d:=tJ ((r.ww B).snd.getD k none)) (by rw[List.getElem?_map,bq (d:=none) ()];rfl);calc bF (X _ _ e5) (aA ev5) ?_;left;rename_i N2 hN2 T2 U2 zC Xu;have XB:(oG m r B k).length=m.ms.length:=by
  have:=yA W O L (k:=k);rw[Mp,List.length_set]at this;exact this
 have rest:∀(ZI:Addr) (z11 Ra:Option V) (H9:Hp),aq H8 H9->H9 ZI=some (.lst ((oG m r B k).map V.int))->N2 [some (V.ref d),some (V.int ((B:Nat):Int)),some (V.int ((k:Nat):Int)),some (V.int ((m.goal B:Nat):Int)),some (V.int ((m.place B:Nat):Int)),some (V.ref D2),some (V.ref ev),some Kh,some (V.ref SH),some (V.ref NC),some (V.ref ZI),z11,Ra,none,none] H9:=by
  clear zC Xu T2 U2;intro ZI z11 Ra H9 s89 XC;have To:=s48.trans s89;have NZ:=ZG.trans To;have b9:=M.cu.same NZ;left;calc bI _ (Mf (NZ _ _ N)) ?_;left;calc bF (NZ _ _ o3.1) (aZ I) ?_;calc⟨.inl ⟨rfl,_,aS.of (NZ _ _ e3)⟩,?_⟩;calc bV ?_;left;calc bI _ (.inl ⟨_,aS.of XC,rfl⟩) ?_;left;rw[List.length_map,XB];calc g9 () () (λhl XE=>?_);rw[Int.toNat_natCast];refine bE (J:=Dg 0 m.ms.length) (n:=m.ms.length) (λi ys H'=>aq H9 H'/\ys=(List.range i).map λj=>V.int ((oG m r B k).getD j 0+(if decide (((j:Nat):Int)=((m.goal B:Nat):Int))=true then 1 else 0))) (L' (aI ())) ⟨aq.new _ XE,rfl⟩ (λi ys H' hi _=>hi) (λys H' _=>K' _) ?_ ?_
  ·intro i ys H' hi bC kQ yL x H2' AO;nofun;obtain⟨Y,rfl⟩:=yL;obtain⟨rfl,rfl⟩:=AO;ac_rfl;calc⟨Ext.set (Ext.refl _) rfl,?_⟩;left
   try rw[if_pos trivial]
   calc bF (Y _ _ XC) (show iQ _ (0+(i:Int))=some (.int ((oG m r B k).getD i 0)) from by rw[Int.zero_add];calc aA (by rw[List.getElem?_map,bq (d:=0) ()];rfl)) ?_;refine .inr ?_
   try rw[Int.zero_add]
   calc cy bC kQ hi (L' (aI ())) ⟨λc o e=>by rw[ay (av e XE)];calc Y _ _ e,?_⟩;rw[List.range_succ,List.map_append];rfl
  rintro ys zF bC kQ ⟨Ew,rfl⟩;clear kQ;have Ex:=NZ.trans Ew;left;calc hJ v3 (Ex _ _ e3) (small ()) ?_;left;have nA:ad 3 (m.goal B)≠hl:=λz=>by have:=NZ _ _ e3;rw[z,XE]at this;cases this
  have kA:∀b o,b≠ad 3 (m.goal B)->zF b=some o->upd zF (ad 3 (m.goal B)) (.lst (v3++[.ref hl])) b=some o:=λb o n e=>by rw[ay n];exact e
  have IT:∀{b:Addr} {o:HO},zF b=some o->¬FP m.n ad b->b≠ad 3 (m.goal B):=λ{b o} _ h z=>h ⟨3,m.goal B,I,z⟩;have N0:=Ew _ _ (To _ _ adn);have nev:ev≠ad 3 (m.goal B):=λz=>by have:=Ex _ _ e3;rw[<-z,N0]at this;cases this
  calc cN (kA _ _ nev N0) (aA (j:=1) rfl) ?_;calc bI _ (Mf (kA _ _ (IT (Ex _ _ N) nP) (Ex _ _ N))) ?_;left;calc bF (kA _ _ (IT (Ex _ _ o3.1) o3.2.2) (Ex _ _ o3.1)) (aZ I) ?_;calc bF af kN ?_;left;calc⟨_,m.goal B,kA _ _ (Ne.symm nA) bC,oq (by simp;lia),?_⟩;rw[Mq XB I,show(oG m r B k).set (m.goal B) (((r.mm (m.goal B)).gH.length:Nat):Int)=m.fV r B k from rfl,IQ nA];have sK:aq H9 (upd zF hl (.lst ((m.fV r B k).map V.int))):=λb o e=>by rw[ay (av e XE)];exact Ew _ _ e
  have eK:upd zF hl (.lst ((m.fV r B k).map V.int)) hl=some (.lst ((m.fV r B k).map V.int)):=af;generalize hGK:upd zF hl (.lst ((m.fV r B k).map V.int))=K10 at *;have ZJ:=NZ.trans sK;have bK:=M.cu.same ZJ;have FSK:FS F K10:=iL.fr (Z:=λ_=>False) ZJ.fr (λ_ _ h=>h);have fresh:∀{b:Addr},H9 b=none->¬(F b\/FP m.n ad b):=λ{b} hb z=>by
   rcases z with z|z
   ·obtain⟨o,e,_⟩:=iL b z;rw[NZ _ _ e]at hb;cases hb
   ·obtain⟨o,e,_⟩:=b9.fp z;rw[e]at hb;cases hb
  have e3K:=ZJ _ _ e3;have uY:=(BF.mk bK ZJ.fr (To.trans sK).fr).app (t:=3) (i:=m.goal B) I rfl e3K (dP.one (show HD _ 4 (.ref hl) (.lst ((m.fV r B k).map .int)) from .lst (by rw[gn (fresh XE)];calc eK) nofun (λi u e G he=>(dP.ints (H:=gY (λb=>F b\/FP m.n ad b) K10) (n:=3) (m.fV r B k)).2 i u e G he)));generalize WA:upd K10 (ad 3 (m.goal B)) (.lst (v3++[.ref hl]))=WB at *;clear kA IT;left;calc bI _ (Xg (uY.f.at N nP)) ?_;obtain⟨kv6,e6,d6⟩:=uY.b.dct (t:=6) (i:=B) L rfl;have Zo:=O.lk B L;have hbs:=O.bs B L;left;calc bF (uY.f.at o6.1 o6.2.2) (aZ L) ?_;have YT:((r.ww B).eB.countP Option.isSome)<=(r.ww B).eB.length:=List.countP_le_length;have h6l:=d6.1;calc⟨ad 6 B,_,rfl,tQ.k (k:=Sum.inl ((k:Nat):Int)) e6 (small ()),?_⟩;have zH:=BF.mk (uY.b.upd (t:=6) (i:=B) L (RM d6 hc.lies ((uY.b.ht (iL.fr uY.f M.cu.ur) (Xz.aG uY.g.aM)).mono ∅))) (uY.f.upd ⟨6,B,L,rfl⟩ e6 trivial) (uY.g.upd ⟨6,B,L,rfl⟩ e6 trivial);generalize WC:upd WB (ad 6 B) (.dK (putK kv6 (Sum.inl ((k:Nat):Int)) (.ref ev)))=WD at *;left;calc bI _ (Me (zH.f.at N nP)) ?_;obtain⟨v1',XF,d1'⟩:=zH.b.lst (t:=1) (i:=m.goal B) I rfl;have z1':v1'.length=(r.mm (m.goal B)).gH.length:=by simpa using d1'.1
  left;calc bF (zH.f.at o1.1 o1.2.2) (aZ I) ?_;calc⟨.inl ⟨rfl,_,aS.of XF⟩,?_⟩;left;calc hJ v1' XF (small ()) ?_;have Kl:=zH.app (t:=1) (i:=m.goal B) I rfl XF (dP.one (show HD _ 4 Kh (qz ((m.work r B k).ns,(m.work r B k).row)) from(zH.b.ht (iL.fr zH.f M.cu.ur) (A7.aG zH.g.aM)).mono ∅));generalize akg:upd WD (ad 1 (m.goal B)) (.lst (v1'++[Kh]))=WI at *;left;calc bI _ (RA (Kl.f.at N nP)) ?_;obtain⟨v2,e2,d2⟩:=Kl.b.lst (t:=2) (i:=m.goal B) I rfl;have z2:v2.length=(r.mm (m.goal B)).wp.length:=by simpa using d2.1
  have hlw:=O.lw _ I;left;calc bF (Kl.f.at o2.1 o2.2.2) (aZ I) ?_;calc⟨.inl ⟨rfl,_,aS.of e2⟩,?_⟩;calc bI _ (RA (Kl.f.at N nP)) ?_;left;calc bF (Kl.f.at o2.1 o2.2.2) (aZ I) ?_;nofun;obtain⟨vw,evw,dvw⟩:=d2.get (i:=(r.mm (m.goal B)).wp.length-1) (d:=.lst (((r.mm (m.goal B)).wp.bz []).map .int)) (by rw[List.getElem?_map,jH (d:=[]) ()];rfl);obtain⟨lw,rfl,elw⟩:=q0 (dvw.cv eF);ac_rfl;calc bF e2 (iT () (by rw[z2];calc evw)) ?_;have Iw:¬FP m.n ad SH:=λz=>by
   obtain⟨u,e,_⟩:=(M.cu.same R).fp z;rw[fl1]at e;cases e
  have Q7:¬FP m.n ad NC:=λz=>by
   obtain⟨u,e,_⟩:=(M.cu.same R).fp z;rw[fl2]at e;cases e
  have hbw:=O.bw _ I _ (hV (l:=(r.mm (m.goal B)).wp) (d:=[]) ());calc .inl ⟨_,_,elw,Kl.g.at A8 Q7,L' (small (by simp;lia)),λnw XG=>?_⟩;have IU:=aq.new (.lst (((r.mm (m.goal B)).wp.bz []).map V.int++(m.work r B k).words.map V.int)) XG;have enw:upd WI nw (.lst (((r.mm (m.goal B)).wp.bz []).map V.int++(m.work r B k).words.map V.int)) nw=some (.lst (((r.mm (m.goal B)).wp.bz []++(m.work r B k).words).map V.int)):=by rw[af,List.map_append]
  generalize akk:upd WI nw (.lst (((r.mm (m.goal B)).wp.bz []).map V.int++(m.work r B k).words.map V.int))=Tq at *;have w14:=Kl.same IU;have nnw:¬(F nw\/FP m.n ad nw):=λz=>by
   rcases z with z|z
   ·obtain⟨o,e,_⟩:=(iL.fr Kl.f M.cu.ur) nw z;rw[XG]at e;cases e
   ·obtain⟨o,e,_⟩:=Kl.b.fp z;rw[XG]at e;cases e
  left;calc hJ v2 (IU _ _ e2) (small ()) ?_;have ZK:=w14.app (t:=2) (i:=m.goal B) I rfl (IU _ _ e2) (dP.one (show HD _ 4 (.ref nw) (.lst (((r.mm (m.goal B)).wp.bz []++(m.work r B k).words).map .int)) from .lst (by rw[gn nnw];calc enw) nofun (λi u e G he=>(dP.ints (H:=gY (λb=>F b\/FP m.n ad b) Tq) (n:=3) ((r.mm (m.goal B)).wp.bz []++(m.work r B k).words)).2 i u e G he)));generalize akm:upd Tq (ad 2 (m.goal B)) (.lst (v2++[.ref nw]))=Xq at *;left;calc bI _ (RB (ZK.f.at N nP)) ?_;obtain⟨v0,e0,d0⟩:=ZK.b.lst (t:=0) (i:=0) i0 rfl;have z0:v0.length=r.picks.length:=by simpa using d0.1
  left;calc g9 (.inl ⟨rfl,_,aS.of e0⟩) bP (λtp EK=>?_);have tm:=aq.new (.tup [.int ((B:Nat):Int),.int ((k:Nat):Int)]) EK;have XH:HT (upd Xq tp (.tup [.int ((B:Nat):Int),.int ((k:Nat):Int)])) 1 (.ref tp) (pairD ((B:Int),(k:Int))):=cJ (n:=0) af (.int _) (.int _);generalize akn:upd Xq tp (.tup [.int ((B:Nat):Int),.int ((k:Nat):Int)])=RH at *;have ZL:=ZK.same tm;have XI:=tm _ _ e0;left;calc hJ v0 XI (small ()) ?_;have Oa:=ZL.app (t:=0) (i:=0) i0 rfl XI (dP.one ((ZL.b.ht (iL.fr ZL.f M.cu.ur) XH).mono ∅));generalize ako:upd RH (ad 0 0) (.lst (v0++[.ref tp]))=ZM at *;have Ms:cp F ZM d (.ref tt) m (r.step m B k) ad:=M.own Oa.f (Oa.b.congr Mr);have Ob:SL ZM zs (m.work r B k).cQ:=om.aG Oa.g.aM;have XJ:=Oa.g.at Q6 Iw;have Oc:=Xz.aG Oa.g.aM;have nD2:¬FP m.n ad D2:=λz=>by
   obtain⟨u,e,_⟩:=(M.cu.same RN).fp z;rw[Ef]at e;cases e
  have adx:=Oa.g.at H4o nD2;clear b9 bK uY zH Kl w14 ZK ZL d0 d1' d2 d6;left;have hzl:zs.length=(m.work r B k).cQ.length:=Ob.1;have Q8:=O.step W L (k:=k);have Q9:∀a c,some (m.ev r B)=some (a,c)->0<=a/\a<m.ms.length/\1<=c/\c<=((r.step m B k).mm a.toNat).hr.length:=CG W O L;refine⟨_,rfl,.inl ⟨⟨_,aS.of XJ⟩,jy (K:=K) (xs:=zs) (λi σ H'=>(∃Rb z14,σ=[some (V.ref d),some (V.int ((B:Nat):Int)),some (V.int ((k:Nat):Int)),some (V.int ((m.goal B:Nat):Int)),some (V.int ((m.place B:Nat):Int)),some (V.ref D2),some (V.ref ev),some Kh,some (V.ref SH),some (V.ref NC),some (V.ref ZI),z11,Ra,Rb,z14])/\Fr (FP m.n ad) ZM H'/\cp F H' d (.ref tt) m ((r.step m B k).send (m.outs (m.goal B)) (m.ev r B) ((m.work r B k).cQ.take i)) ad) ?_ ?_ ?_ ?_⟩⟩
  ·exact⟨⟨_,_,rfl⟩,Fr.refl,Ms⟩
  ·rintro i σ H' hi ⟨_,fi,_⟩;exact aS.of (fi.at XJ Iw)
  ·intro i z σ H' hz LO;nofun;obtain⟨⟨Rb,z14,rfl⟩,fi,vC⟩:=LO;have ue:i < zs.length:=(List.getElem?_eq_some_iff.mp hz).1;have Rc:i < (m.work r B k).cQ.length:=by lia
   have qW:(m.work r B k).cQ[i]?=some (m.work r B k).cQ[i]:=cP Rc;have WK:=wk4 _ (W' Rc);have Rf:=(Ob.2 i z _ hz qW).aG fi.aM;have E4:(r.step m B k).send (m.outs (m.goal B)) (m.ev r B) ((m.work r B k).cQ.take (i+1))=((r.step m B k).send (m.outs (m.goal B)) (m.ev r B) ((m.work r B k).cQ.take i)).send (m.outs (m.goal B)) (m.ev r B) [(m.work r B k).cQ[i]]:=by
    rw[List.take_succ,qW];exact pQ _
   have A9:=(RS.tK.send (outs:=m.outs (m.goal B)) (ev:=m.ev r B) ((m.work r B k).cQ.take i) Q8 Q9).mono (show _<=19998 by simp;lia);generalize (m.work r B k).cQ[i]=p at *;obtain⟨pj,px⟩:=p;obtain⟨tz,u1,u2,kz,rfl,EM,y1,y2⟩:=cm Rf;obtain rfl:=y1.cw;obtain rfl:=y2.cw;ac_rfl;calc yC (bH.of EM) ?_;have eDi:=fi.at adx nD2;left;calc bI _ (.inl ⟨_,aS.of eDi,rfl⟩) ?_;left;have hlen:((uj m 0 (m.goal B)).map λi=>V.int ((i:Nat):Int)).length=(m.outs (m.goal B)).length:=by rw[List.length_map];rfl
   rw[hlen];have ej:((pj.toNat:Nat):Int)=pj:=aba WK;by_cases kB:pj<((m.outs (m.goal B)).length:Nat)
   ·rw[if_pos (by simpa using kB)];have Nc:pj.toNat < (m.outs (m.goal B)).length:=by lia
    have qX:(m.outs (m.goal B)).getD pj.toNat 0<m.ws.length:=by
     have:=getD_mem (d:=0) Nc;unfold NT.outs at this ⊢;rw[List.mem_filter,List.mem_range]at this;exact this.1
    have Wu:iQ ((uj m 0 (m.goal B)).map λi=>V.int ((i:Nat):Int)) pj=some (.int (((m.outs (m.goal B)).getD pj.toNat 0:Nat):Int)):=by
     rw[<-ej];calc aA ?_;rw[List.getElem?_map];show Option.map _ (m.outs (m.goal B))[_]?=_;rw[Int.toNat_natCast,bq (d:=0) Nc];rfl
    nofun;obtain⟨U,how⟩:∃U,U=(m.outs (m.goal B)).getD pj.toNat 0:=⟨_,rfl⟩
    rw[<-how]at qX Wu;generalize ZN:(r.step m B k).send (m.outs (m.goal B)) (m.ev r B) ((m.work r B k).cQ.take i)=ri at *;obtain⟨oi,XM,nFi,nPi,XN⟩:=vC.dk;have oi4:=XN 4 ∅ ∅;have XQ:=XN 5 ∅ ∅;have bi:=vC.cu;obtain⟨w4,x4,y4⟩:=bi.lst (t:=4) (i:=U) qX rfl;ac_rfl;have l4:w4.length=(ri.ww U).say.length:=by simpa using y4.1
    have hb4:=A9.bs U qX;have hb5:=A9.ls U qX;left;calc bI _ (En XM) ?_;left;calc bF eDi Wu ?_;calc bF oi4.1 (aZ qX) ?_;calc⟨.inl ⟨rfl,_,aS.of x4⟩,?_⟩;left;calc hJ w4 x4 (small ()) ?_;have bj:=bi.app (t:=4) (i:=U) qX rfl x4 (dP.one (.int px));have fj:Fr (FP m.n ad) H' (upd H' (ad 4 U) (.lst (w4++[.int px]))):=Fr.refl.upd ⟨4,U,qX,rfl⟩ x4 trivial;generalize hGj:upd H' (ad 4 U) (.lst (w4++[.int px]))=Hj at *;obtain⟨w5,x5,y5⟩:=bj.lst (t:=5) (i:=U) qX rfl;have l5:w5.length=(ri.ww U).snd.length:=by simpa using y5.1
    left;calc bI _ (Md (fj.at XM nPi)) ?_;left;calc bF (fj.at eDi nD2) Wu ?_;calc bF (fj.at XQ.1 XQ.2.2) (aZ qX) ?_;calc⟨.inl ⟨rfl,_,aS.of x5⟩,?_⟩;left;calc hJ w5 x5 (small ()) ?_;have FSj:FS F Hj:=iL.fr ((Oa.f.trans fi).trans fj) M.cu.ur;have bk:=bj.app (t:=5) (i:=U) qX rfl x5 (dP.one (show HD _ 4 (.ref ev) (tJ (some (m.ev r B))) from(bj.ht FSj ((Oc.aG fi.aM).aG fj.aM)).mono ∅));have fk:Fr (FP m.n ad) H' (upd Hj (ad 5 U) (.lst (w5++[.ref ev]))):=fj.upd ⟨5,U,qX,rfl⟩ x5 trivial;left;calc g9 ⟨_,_,rfl,rfl⟩ (fi.trans fk) ?_;rw[E4];show cp F _ d _ m (if pj.toNat<_ then _ else _) ad;rw[if_pos Nc];show cp F _ d _ m (ri.put ((m.outs (m.goal B)).getD pj.toNat 0) px (some (m.ev r B))) ad;rw[<-how];exact vC.own fk (bk.congr IP)
   ·rw[if_neg (by simpa using kB)];left;calc g9 ⟨_,_,rfl,rfl⟩ fi ?_;rw[E4];show cp F H' d _ m (if pj.toNat<_ then _ else _) ad;rw[if_neg ()];exact vC
  ·intro σ H' QJ;obtain⟨⟨Rb,z14,rfl⟩,fi,vC⟩:=QJ;left;rw[hzl,List.take_length]at vC;exact q _ _ (Oa.f.trans fi) vC (Oc.aG fi.aM)
 clear hN2
 cases J9:(r.ww B).snd.getD k none with
 |none=>
  rw[J9]at ZH;have:=sR ZH;subst this;left
  try rw[if_neg ∅]
  left;calc rest rl _ _ H8 (aq.refl _) ?_;unfold oG;rw[J9];calc zd
 |some sc=>
  nofun;obtain⟨s0,c0⟩:=sc;rw[J9]at ZH;obtain⟨ae,rfl,Sg⟩:=oA (ZH.cv eF);have adC:=X _ _ Sg;have tS:some (s0,c0)∈(r.ww B).snd:=by rw[<-J9];exact getD_mem ()
  obtain⟨q1,q2,q3,q4⟩:=O.sd B L s0 c0 tS;ac_rfl;left
  try rw[if_pos ∅]
  left;calc bI _ (Md (X _ _ N)) ?_;left;calc bF (X _ _ o5.1) (aZ L) ?_;calc bF (X _ _ e5) (aA ev5) ?_;calc yC (bH.of adC) ?_;left;calc bV ?_;left;calc bI _ (Mf (X _ _ N)) ?_;have hsm:s0.toNat<m.ms.length:=by lia
  have es0:((s0.toNat:Nat):Int)=s0:=aba q1;have ec0:(((c0-1).toNat:Nat):Int)=c0-1:=aba ();left;calc bF (X _ _ o3.1) (show iQ _ s0=some (.ref (ad 3 s0.toNat)) from by have:=aZ (n:=m.n) (ad:=ad) (t:=3) hsm;rw[es0]at this;calc this) ?_;nofun;obtain⟨vs3,es3,ds3⟩:=M.cu.lst (t:=3) (i:=s0.toNat) hsm rfl;obtain⟨vr,evr,dvr⟩:=ds3.get (i:=(c0-1).toNat) (d:=.lst (((r.mm s0.toNat).hr.getD (c0-1).toNat []).map .int)) (by rw[List.getElem?_map,bq (d:=[]) ()];rfl);obtain⟨lo,rfl,elo⟩:=q0 (dvr.cv eF);ac_rfl;calc bF (X _ _ es3) (show iQ _ (c0-1)=some (.ref lo) from by rw[<-ec0];calc aA evr) ?_;have Mt:=X _ _ elo;left;calc fW true true _ _ (Sq.l zd) (Sq.l Mt) (λD3 Eg=>?_);have agp:((r.mm (m.goal B)).hr.bz (List.replicate m.ms.length 0)).length=m.ms.length:=by
   by_cases h1:1<=(r.mm (m.goal B)).hr.length
   ·exact O.hl _ I _ (hV h1)
   ·have ez:(r.mm (m.goal B)).hr=[]:=List.length_eq_zero_iff.mp ();rw[ez];simp[List.bz]
  have agq:((r.mm s0.toNat).hr.getD (c0-1).toNat []).length=m.ms.length:=O.hl _ hsm _ (getD_mem ());have ehr:oG m r B k=List.zipWith max ((r.mm (m.goal B)).hr.bz (List.replicate m.ms.length 0)) ((r.mm s0.toNat).hr.getD (c0-1).toNat []):=by
   unfold oG;rw[J9]
  generalize hA:(r.mm (m.goal B)).hr.bz (List.replicate m.ms.length 0)=LA at *;generalize hB:(r.mm s0.toNat).hr.getD (c0-1).toNat []=LB at *;refine bE (J:=Y3 true true K rl lo) (n:=m.ms.length) (λi ys H'=>aq H8 H'/\ys=((List.zipWith max LA LB).take i).map V.int) (L' (aI ())) ⟨aq.new _ Eg,rfl⟩ ?_ ?_ ?_ ?_
  ·rintro i ys H' hi ⟨Y,_⟩;exact⟨_,_,_,_,Sq.l (Y _ _ zd),Sq.l (Y _ _ Mt),by rw[List.getElem?_map,bq (d:=0) ()];rfl,by rw[List.getElem?_map,bq (d:=0) ()];rfl⟩
  ·rintro ys H' ⟨Y,_⟩;exact⟨_,_,Sq.l (Y _ _ zd),Sq.l (Y _ _ Mt),.inl (by simp;lia)⟩
  ·intro i ys H' hi bC hl QL xx H4' zq9;nofun;obtain⟨Y,rfl⟩:=QL;obtain⟨t',Xy,rfl,y⟩:=zq9;obtain⟨x1,x2,ex1,ex2,rfl⟩:=y _ _ (Sq.l (Y _ _ zd)) (Sq.l (Y _ _ Mt));rw[List.getElem?_map,bq (d:=0) ()] at ex1 ex2;obtain rfl:=Option.some.inj ex1;obtain rfl:=Option.some.inj ex2;ac_rfl;have s2:=aq.new (.tup [.int (LA.getD i 0),.int (LB.getD i 0)]) Xy;have oQ:upd H' t' (.tup [.int (LA.getD i 0),.int (LB.getD i 0)]) t'=some (.tup [.int (LA.getD i 0),.int (LB.getD i 0)]):=af;calc yC (bH.of oQ) ⟨Ext.set (Ext.set (Ext.refl _) rfl) rfl,?_⟩;left
   try rw[if_pos trivial]
   calc cy (s2 _ _ bC) hl hi (L' (aI ())) ⟨λc o e=>by rw[ay (av e Eg)];calc s2 _ _ (Y _ _ e),?_⟩;rw[List.take_succ,List.getElem?_zipWith,bq (l:=LA) (d:=0) (),bq (l:=LB) (d:=0) (),List.map_append];show _++[V.int (if LB.getD i 0 > LA.getD i 0 then LB.getD i 0 else LA.getD i 0)]=_++[V.int (max (LA.getD i 0) (LB.getD i 0))]
   congr 3;split<;>lia
  rintro ys H9 bC hl ⟨s89,rfl⟩;rw[List.take_of_length_le (by simp;lia),<-ehr]at bC;left;calc rest D3 _ _ H9 s89 bC
theorem qp.nil{ct:Nat->Hp->HO->Prop}:qp H0 H' D [] 0 ct:=⟨rfl,List.nodup_nil,λa h=>by simp at h,λj a h=>by simp at h⟩
theorem qp.snoc{n:Nat}{ct:Nat->Hp->HO->Prop}(h:qp H0 H1 D as n ct)(q:aq H0 H1)(r:H1 D≠none)(g:H1 a=none){o:HO}(e:H' a=some o)(c:ct n H' o)(s:∀b o,b≠D->H1 b=some o->H' b=some o)(f:∀j o,ct j H1 o->ct j H' o):qp H0 H' D (as++[a]) (n+1) ct:=by
 refine⟨by simp[h.len],?_,λb d=>?_,λj b d=>?_⟩
 ·rw[List.nodup_append];calc g9 h.nd nofun (λb d c l=>?_);simp at l;subst l;intro z;subst z;obtain⟨j,k⟩:=aaE d;obtain⟨m,i,_⟩:=h.ins j b k;rw[g]at i;cases i
 ·rcases List.mem_append.mp d with d | d
  ·exact h.new b d
  ·simp at d;subst d;refine⟨?_,λz=>r (z ▸ g)⟩
   cases t:H0 b with
   |none=>rfl
   |some o=>rw[q _ _ t]at g;cases g
 ·by_cases k:j < as.length
  ·rw[List.getElem?_append_left k]at d;obtain⟨m,i,g⟩:=h.ins j b d;exact⟨m,s _ _ (h.new b (aap d)).2 i,f _ _ g⟩
  ·rw[List.getElem?_append_right ()] at d
   cases p:j-as.length with
   |zero=>
    rw[p]at d;simp at d;subst d;have:j=n:=by have:=h.len;lia
    subst this;calc⟨o,e,c⟩
   |succ k=>rw[p]at d;simp at d
theorem qp.keep{n:Nat}{ct:Nat->Hp->HO->Prop}(h:qp H0 H1 D as n ct)(s:∀(j:Nat) (b:Addr) (o:HO),H1 b=some o->ct j H1 o->H' b=some o/\ct j H' o):qp H0 H' D as n ct:=
 ⟨h.len,h.nd,h.new,λj a e=>by
  obtain⟨c,d,f⟩:=h.ins j a e;calc⟨c,s _ _ _ d f⟩⟩
theorem q9{K:W.Frag}{ix:List (Option Nat)}{r:TE}{l:Addr}{xs:List V}{o:HO}(t:H l=some (.lst xs))(v:H D=none)(G:xs.length<=10)(y:∀x,Ext (tR ix σ) ((tR ix σ).set 0 (some x)))(d:∀g j (R:VK),(∀p,j p=none->R (.ref p) (upd j p o))->r g j R)(q:∀as H1,H1 D=some (.lst (as.map V.ref))->aq H H1->qp H H1 D as xs.length (λ_ _ u=>u=o)->Q (.ref D) H1):kI ix (xN K l) (fL 0) iR r σ H Q D:=by
 refine bE (n:=xs.length) (λi ys H'=>∃as:List Addr,ys=as.map V.ref/\aq H H'/\qp H H' D as i (λ_ _ u=>u=o)) (L' (small ())) ⟨[],rfl,aq.new _ v,qp.nil⟩ ?_ ?_ ?_ ?_
 ·rintro i ys H' k ⟨_,_,a,_⟩;exact⟨_,xs[i],aS.of (a _ _ t),cP k⟩
 ·rintro ys H' ⟨_,_,a,_⟩;exact⟨_,aS.of (a _ _ t),K' _⟩
 ·intro i ys H' k c w z B I C;obtain⟨as,rfl,a,m⟩:=z;obtain⟨rfl,g⟩:=C;calc⟨y B,?_⟩;simp only[iR,if_true];calc d _ _ _ λp g=>?_;have d:=aq.new o g;have i:p≠D:=Ne.symm (av c g);refine cy (d _ _ c) w k (L' (small ())) ⟨as++[p],nofun,λb o e=>?_,?_⟩
  ·rw[ay (av e v)];exact d _ _ (a _ _ e)
  ·refine m.snoc a (by rw[c];simp) g (o:=o) ?_ rfl (λb o a e=>?_) (λj u e=>e)
   ·rw[ay i];exact af
   ·rw[ay a];exact d _ _ e
 ·intro ys H1 c w F;obtain⟨as,rfl,a,m⟩:=F;calc q as H1 c a m
theorem qp.some{n:Nat}{ct:Nat->Hp->HO->Prop}(h:qp H0 H1 D as n ct):∀a∈as,H1 a≠none:=λa m=>by
 obtain⟨j,e⟩:=aaE m;obtain⟨b,e,_⟩:=h.ins j a e;rw[e];calc λz=>nomatch z
abbrev lB:Stmt:=top 57
inductive IV(vs:List V)(H:Hp)(Q:VK):Prop
 |mk (F:Addr->Prop) (tn:V) (nt:NT) (ls:List (Int×Int)) (h0:vs=[tn]) (h1:ToldN (gY F H) tn nt.ms nt.ws ls) (h2:FS F H) (h3:nt.Ok) (h4:ls.length<=20) (h5:∀l∈ls,0<=l.1/\l.1<nt.ws.length) (h6:∀d ad H',aq H H'->(∀b,FP nt.n ad b->H b=none)->H d=none->cp F H' d tn nt (RS.begin nt ls) ad->Q (.ref d) H'):IV vs H Q
def xf:Sp:=λvs H Q _=>IV vs H Q
theorem zp(D:dj K mg "_law_begun" "_law_begun" lB ["_law_net_here"])(T:Tx K mg C CN CR F FD):Def P w K mg base "_law_begun" 1 ["_law_net_here"] xf:=by
 have sc:aD ["_law_net_here","_law_run","_law_way","_law_said"] ["_law_net_here"] (az lB):=by walk_at "s"
 symm;obtain⟨F,tn,g,ls,rfl,hN,iL,aU,ij,mj,q⟩:=h;have Y:=hr.units;have HG:=lt1 Y;refine⟨_,(ai (aW (i:=1) sc.nd rfl Sort (KQ (rB aE (au 0) (rB aE (dQ (N':=["_law_way"]) (ix:=[none]) (cA (ak Y (au 0) aj)) (λ_ _ _ _=>(aX (i:=0) (show(["_law_way"]:List Str).Nodup by decide +kernel) rfl Sort)) pw (λ_ _ _ _=>(bM aa))) (rB aE (dQ (N':=["_law_way"]) (ix:=[none]) (cA (ak Y (au 0) aj)) (λ_ _ _ _=>(aX (i:=0) (show(["_law_way"]:List Str).Nodup by decide +kernel) rfl Sort)) pw (λ_ _ _ _=>(bM aa))) KP))) rfl rfl ∅ ∅))
  (ai (lS HG (au 1) aE (dQ (N':=["_law_way"]) (ix:=[none]) (cA (ak Y (au 0) aj)) (λ_ _ _ _=>(aX (i:=0) (show(["_law_way"]:List Str).Nodup by decide +kernel) rfl Sort)) pw (λ_ _ _ _=>F9)) rfl)
  (ai (lS HG (au 1) aE (dQ (N':=["_law_one"]) (ix:=[none]) (cA (ak Y (au 0) aj)) (λ_ _ _ _=>(aX (i:=0) (show(["_law_one"]:List Str).Nodup by decide +kernel) rfl Sort)) pw (λ_ _ _ _=>(bM (ag (bb (ag (da (nR (K:=K) rfl) rfl T.cE uB (ag (dG (K:=K) rfl Y (au 0) aj) aa)) (ag (da (nR (K:=K) rfl) rfl T.cE uB (ag (dG (K:=K) rfl Y (au 0) aj) aa)) aa))) aa)))) rfl)
  (ai (lS HG (au 1) aE (dQ (N':=["_law_one"]) (ix:=[none]) (cA (ak Y (au 0) aj)) (λ_ _ _ _=>(aX (i:=0) (show(["_law_one"]:List Str).Nodup by decide +kernel) rfl Sort)) pw (λ_ _ _ _=>(bM (ag (bM aa) aa)))) rfl)
  (ai (lS HG (au 1) aE (dQ (N':=["_law_one"]) (ix:=[none]) (cA (ak Y (au 0) aj)) (λ_ _ _ _=>(aX (i:=0) (show(["_law_one"]:List Str).Nodup by decide +kernel) rfl Sort)) pw (λ_ _ _ _=>(bM aa))) rfl)
  (ai (lS HG (au 1) aE (bM aa) rfl)
  (ai (eZ PassesOwn.never rfl (cA (ak Y (au 0) aj)) (fm (i:=2) (j:=3) rfl sc.nd rfl rfl Sort Sort)
  (ai (bS (dE nz qH qI bZ (ak Y (ak Y (au 1) aE) (au 2)) (ag (au 3) aa)))
  (ao (bS (dE nz qH qI bZ (ak Y (ak Y (au 1) aE) (au 2)) (ag fK aa))))))
  (ao (aK (au 1)))))))))),?_⟩
 nofun;obtain⟨I,am,aw,al,mv,wv,lv,rfl,h1,h2,h3,h4,h5,h6,h7⟩:=id hN;have g1:=(cK h1 (λk z=>by cases z)).2;have g2:=(cK h2 (λk z=>by cases z)).2;have g3:=(cK h3 (λk z=>by cases z)).2;have g4:=(cK h4 (λk z=>by cases z)).2
 replace h5:=h5.cv eF
 replace h6:=h6.aG eF.aM
 replace h7:=h7.aG eF.aM
 ac_rfl;have jP:wv.length=g.ws.length:=by simpa using h6.1
 have oR:mv.length=g.ms.length:=h5.1;have yT:lv.length=ls.length:=by simpa using h7.1
 have T:wv.length<=10:=by rw[jP];exact aU.AE
 have T:mv.length<=5:=by rw[oR];exact aU.Zc
 left;calc Le λd uh=>?_;have Tr:=aq.new (.dK []) uh;have ed0:upd H d (.dK []) d=some (.dK []):=af;generalize hGd:upd H d (.dK [])=C1 at *;left;calc bV ?_;left;calc cN (Tr _ _ g1) (aA (j:=1) rfl) ?_;left;calc .inl ⟨⟨_,aS.of (Tr _ _ g3)⟩,λx EZ=>?_⟩;calc q9 (o:=.lst []) (Tr _ _ g3) EZ () (λ_=>Ext.set (Ext.refl _) rfl) (λ_ _ _ r=>And.intro ∅ r) ?_;intro A1 H1 l SN Zq;have WU:=l;clear l;have fD1:C1 x=none:=EZ;left;generalize hC2:H1=C2 at *;have S2:=Tr.trans SN;have Ts:=SN _ _ ed0;have Zr:∀b o,b≠d->C1 b=some o->C2 b=some o:=λb o _ e=>SN _ _ e;calc bV ?_;left;calc cN (S2 _ _ g1) (aA (j:=1) rfl) ?_;left;calc .inl ⟨⟨_,aS.of (S2 _ _ g3)⟩,λy T=>?_⟩;calc q9 (o:=.lst []) (S2 _ _ g3) T () (λ_=>Ext.set (Ext.refl _) rfl) (λ_ _ _ r=>And.intro ∅ r) ?_;intro A2 H2 l Rl Zs;have SS:=l;clear l;have V6:C2 y=none:=T;left;have CM:H2 d=some (.dK []):=Rl _ _ Ts;calc⟨CM,[((Sum.inr "net":Key),V.ref I),((Sum.inr "put":Key),V.ref x),((Sum.inr "sender":Key),V.ref y)],rfl,nofun,?_⟩;have W:mr [] ([((Sum.inr "net":Key),V.ref I),((Sum.inr "put":Key),V.ref x),((Sum.inr "sender":Key),V.ref y)]:List (Key×V))=[((Sum.inr "net":Key),V.ref I),((Sum.inr "put":Key),V.ref x),((Sum.inr "sender":Key),V.ref y)]:=by kernel_rfl
 rw[W];obtain⟨C3,T,Tt,SR,ke2⟩:=fU (d:=d) ([((Sum.inr "net":Key),V.ref I),((Sum.inr "put":Key),V.ref x),((Sum.inr "sender":Key),V.ref y)]) Rl;rw[T];have S3:aq H C3:=λb o e=>SR b o (av e uh) (S2 _ _ e);clear T;clear CM W;left;refine bV ?_;left;refine cN (S3 _ _ g1) (aA (j:=1) rfl) ?_;left;refine .inl ⟨⟨_,aS.of (S3 _ _ g3)⟩,λM T=>?_⟩;refine q9 (o:=.dK []) (S3 _ _ g3) T () (λ_=>Ext.set (Ext.refl _) rfl) (λ_ _ _ r=>r) ?_;intro A3 H3 l Rm Zt;have SX:=l;clear l;have V9:C3 M=none:=T;left;have CM:=Rm _ _ Tt;refine dz d _ rfl (tQ.k (k:=Sum.inr "worker") CM (small nofun)) ?_;have W:putK ([((Sum.inr "net":Key),V.ref I),((Sum.inr "put":Key),V.ref x),((Sum.inr "sender":Key),V.ref y)]:List (Key×V)) (Sum.inr "worker":Key) (V.ref M)=[((Sum.inr "net":Key),V.ref I),((Sum.inr "put":Key),V.ref x),((Sum.inr "sender":Key),V.ref y),((Sum.inr "worker":Key),V.ref M)]:=by kernel_rfl
 rw[W];obtain⟨C4,T,RO,SW,ke3⟩:=fU (d:=d) ([((Sum.inr "net":Key),V.ref I),((Sum.inr "put":Key),V.ref x),((Sum.inr "sender":Key),V.ref y),((Sum.inr "worker":Key),V.ref M)]) Rm;rw[T];have S4:aq H C4:=λb o e=>SW b o (av e uh) (S3 _ _ e);clear T;clear CM W;left;refine bV ?_;left;refine cN (S4 _ _ g1) (aA (j:=0) rfl) ?_;left;refine .inl ⟨⟨_,aS.of (S4 _ _ g2)⟩,λR S8=>?_⟩;refine bE (J:=xN K am) (n:=mv.length) (λi ys H'=>∃as:List Addr,ys=as.map V.ref/\aq C4 H'/\qp C4 H' R as i (λj H' o=>∃v,o=.lst [v]/\HT H' 2 v (yq (g.ms.getD j default).ns (g.ms.getD j default).row))) (L' (small ())) ⟨[],rfl,aq.new _ S8,qp.nil⟩ ?_ ?_ ?_ ?_
 ·rintro i ys H' hi ⟨_,_,X,_⟩;exact⟨_,mv[i],aS.of (X _ _ (S4 _ _ g2)),cP hi⟩
 ·rintro ys H' ⟨_,_,X,_⟩;exact⟨_,aS.of (X _ _ (S4 _ _ g2)),K' _⟩
 ·intro i ys H' hi l hl yK xx H4 yL;nofun;obtain⟨as,rfl,X,hL⟩:=yK;obtain⟨rfl,hy⟩:=yL;ac_rfl;have ex:=hy _ (aS.of (X _ _ (S4 _ _ g2)));calc⟨Ext.set (Ext.refl _) rfl,?_⟩;left
  try rw[if_pos trivial]
  have Ma:i<g.ms.length:=by lia
  obtain⟨mt,ln,lr,ld,xsd,rfl,m1,m2,m3,T,m5⟩:=h5.2 i xx _ ex (bq (d:=default) Ma);have T:=(S4.trans X)
  calc cN (T _ _ m1) (aA (j:=1) rfl) ?_;left;calc .inl ⟨_,aS.of (T _ _ m2),λt1 AN=>?_⟩;have r1:=aq.new (.tup ((g.ms.getD i default).ns.map V.int)) AN;calc cN (r1 _ _ (T _ _ m1)) (aA (j:=2) rfl) ?_;left;calc .inl ⟨_,aS.of (r1 _ _ (T _ _ m3)),λt2 oQ=>?_⟩;have r2:=aq.new (.tup ((g.ms.getD i default).row.map V.int)) oQ;calc⟨bP,λt3 T=>?_⟩;have r3:=aq.new (.tup [.ref t1,.ref t2]) T;have sP:=r1.trans (r2.trans r3);have Z:HT (upd (upd (upd H4 t1 (.tup ((g.ms.getD i default).ns.map V.int))) t2 (.tup ((g.ms.getD i default).row.map V.int))) t3 (.tup [.ref t1,.ref t2])) 2 (.ref t3) (yq (g.ms.getD i default).ns (g.ms.getD i default).row):=cJ af (nV (r3 _ _ (r2 _ _ af))) (nV (r3 _ _ af));generalize hGP:upd (upd (upd H4 t1 (.tup ((g.ms.getD i default).ns.map V.int))) t2 (.tup ((g.ms.getD i default).row.map V.int))) t3 (.tup [.ref t1,.ref t2])=HP at *;have Ey:=sP _ _ l;left;calc⟨∅,λp hp=>?_⟩;have sN:=aq.new (.lst [.ref t3]) hp;have RP:=sN _ _ Ey;have nD:p≠R:=Ne.symm (av Ey hp);refine cy RP hl hi (L' (small ())) ⟨as++[p],nofun,λb o e=>?_,?_⟩
  ·rw[ay (av e S8)];exact sN _ _ (sP _ _ (X _ _ e))
  ·refine hL.snoc X (by rw[l];simp) (sP.free hp) (o:=.lst [.ref t3]) ?_ ⟨_,rfl,Z.aG (λb xs e=>by rw[ay (λz=>by rw[z,Ey] at e;cases e)];calc sN _ _ e)⟩ (λb o nb e=>?_) (λj o ⟨v,e,h⟩=>⟨v,e,h.aG (λb xs e=>by rw[ay (λz=>by rw[z,l] at e;cases e)];calc sN _ _ (sP _ _ e))⟩)
   ·rw[ay nD];exact af
   ·rw[ay nb];exact sN _ _ (sP _ _ e)
 intro ys H4 l hl AO;obtain⟨A4,rfl,NN,Zu⟩:=AO;have Ta:=l;clear l hl;have fD4:C4 R=none:=S8;left;have CM:=NN _ _ RO;calc dz d _ rfl (tQ.k (k:=Sum.inr "states") CM (small nofun)) ?_;have W:putK ([((Sum.inr "net":Key),V.ref I),((Sum.inr "put":Key),V.ref x),((Sum.inr "sender":Key),V.ref y),((Sum.inr "worker":Key),V.ref M)]:List (Key×V)) (Sum.inr "states":Key) (V.ref R)=[((Sum.inr "net":Key),V.ref I),((Sum.inr "put":Key),V.ref x),((Sum.inr "sender":Key),V.ref y),((Sum.inr "worker":Key),V.ref M),((Sum.inr "states":Key),V.ref R)]:=by kernel_rfl
 rw[W];obtain⟨C5,T,Od,S9,ke4⟩:=fU (d:=d) ([((Sum.inr "net":Key),V.ref I),((Sum.inr "put":Key),V.ref x),((Sum.inr "sender":Key),V.ref y),((Sum.inr "worker":Key),V.ref M),((Sum.inr "states":Key),V.ref R)]) NN;rw[T];have S5:aq H C5:=λb o e=>S9 b o (av e uh) (S4 _ _ e);clear T;clear CM W;left;refine bV ?_;left;refine cN (S5 _ _ g1) (aA (j:=0) rfl) ?_;left;refine .inl ⟨⟨_,aS.of (S5 _ _ g2)⟩,λN Cg=>?_⟩;refine bE (J:=xN K am) (n:=mv.length) (λi ys H'=>∃as:List Addr,ys=as.map V.ref/\aq C5 H'/\qp C5 H' N as i (λ_ H' o=>∃q,o=.lst [.ref q]/\H' q=some (.lst [])/\C5 q=none/\q≠N)) (L' (small ())) ⟨[],rfl,aq.new _ Cg,qp.nil⟩ ?_ ?_ ?_ ?_
 ·rintro i ys H' hi ⟨_,_,X,_⟩;exact⟨_,mv[i],aS.of (X _ _ (S5 _ _ g2)),cP hi⟩
 ·rintro ys H' ⟨_,_,X,_⟩;exact⟨_,aS.of (X _ _ (S5 _ _ g2)),K' _⟩
 ·intro i ys H' hi l hl LO xx H4 QJ;nofun;obtain⟨as,rfl,X,hL⟩:=LO;obtain⟨rfl,hy⟩:=QJ;ac_rfl;have ex:=hy _ (aS.of (X _ _ (S5 _ _ g2)));calc⟨Ext.set (Ext.refl _) rfl,?_⟩;left
  try rw[if_pos trivial]
  calc⟨aaa _,λqq hqq=>?_⟩;have sP:=aq.new (.lst []) hqq;have eqq:upd H4 qq (.lst []) qq=some (.lst []):=af;have nqD:qq≠N:=Ne.symm (av l hqq);generalize hGP:upd H4 qq (.lst [])=HP at *;have Ey:=sP _ _ l;left;calc⟨∅,λp hp=>?_⟩;have sN:=aq.new (.lst [.ref qq]) hp;have RP:=sN _ _ Ey;have nD:p≠N:=Ne.symm (av Ey hp);refine cy RP hl hi (L' (small ())) ⟨as++[p],nofun,λb o e=>?_,?_⟩
  ·rw[ay (av e Cg)];exact sN _ _ (sP _ _ (X _ _ e))
  ·refine hL.snoc X (by rw[l];simp) (sP.free hp) (o:=.lst [.ref qq]) ?_ ⟨qq,rfl,by rw[ay nqD];calc sN _ _ eqq,X.free hqq,nqD⟩ (λb o nb e=>?_) (λj o ⟨T,e,h,h',h2⟩=>⟨T,e,by rw[ay h2];calc sN _ _ (sP _ _ h),h',h2⟩)
   ·rw[ay nD];exact af
   ·rw[ay nb];exact sN _ _ (sP _ _ e)
 intro ys H5 l hl QL;obtain⟨A5,rfl,NO,Zv⟩:=QL;have Te:=l;clear l hl;have fD5:C5 N=none:=Cg;left;have CM:=NO _ _ Od;calc dz d _ rfl (tQ.k (k:=Sum.inr "words") CM (small nofun)) ?_;have W:putK ([((Sum.inr "net":Key),V.ref I),((Sum.inr "put":Key),V.ref x),((Sum.inr "sender":Key),V.ref y),((Sum.inr "worker":Key),V.ref M),((Sum.inr "states":Key),V.ref R)]:List (Key×V)) (Sum.inr "words":Key) (V.ref N)=[((Sum.inr "net":Key),V.ref I),((Sum.inr "put":Key),V.ref x),((Sum.inr "sender":Key),V.ref y),((Sum.inr "worker":Key),V.ref M),((Sum.inr "states":Key),V.ref R),((Sum.inr "words":Key),V.ref N)]:=by kernel_rfl
 rw[W];obtain⟨C6,T,RQ,Td,ke5⟩:=fU (d:=d) ([((Sum.inr "net":Key),V.ref I),((Sum.inr "put":Key),V.ref x),((Sum.inr "sender":Key),V.ref y),((Sum.inr "worker":Key),V.ref M),((Sum.inr "states":Key),V.ref R),((Sum.inr "words":Key),V.ref N)]) NO;rw[T];have X:aq H C6:=λb o e=>Td b o (av e uh) (S5 _ _ e);clear T;clear CM W;left;refine bV ?_;left;refine cN (X _ _ g1) (aA (j:=0) rfl) ?_;left;refine .inl ⟨⟨_,aS.of (X _ _ g2)⟩,λD6 T=>?_⟩;refine q9 (o:=.lst []) (X _ _ g2) T () (λ_=>Ext.set (Ext.refl _) rfl) (λ_ _ _ r=>And.intro ∅ r) ?_;intro A6 H6 l Rn Zw;have Ti:=l;clear l;have fD6:C6 D6=none:=T;left;have CM:=Rn _ _ RQ;refine dz d _ rfl (tQ.k (k:=Sum.inr "heard") CM (small nofun)) ?_;have W:putK ([((Sum.inr "net":Key),V.ref I),((Sum.inr "put":Key),V.ref x),((Sum.inr "sender":Key),V.ref y),((Sum.inr "worker":Key),V.ref M),((Sum.inr "states":Key),V.ref R),((Sum.inr "words":Key),V.ref N)]:List (Key×V)) (Sum.inr "heard":Key) (V.ref D6)=[((Sum.inr "net":Key),V.ref I),((Sum.inr "put":Key),V.ref x),((Sum.inr "sender":Key),V.ref y),((Sum.inr "worker":Key),V.ref M),((Sum.inr "states":Key),V.ref R),((Sum.inr "words":Key),V.ref N),((Sum.inr "heard":Key),V.ref D6)]:=by kernel_rfl
 rw[W];obtain⟨C7,l,Tu,Th,ke6⟩:=fU (d:=d) ([((Sum.inr "net":Key),V.ref I),((Sum.inr "put":Key),V.ref x),((Sum.inr "sender":Key),V.ref y),((Sum.inr "worker":Key),V.ref M),((Sum.inr "states":Key),V.ref R),((Sum.inr "words":Key),V.ref N),((Sum.inr "heard":Key),V.ref D6)]) Rn;rw[l];have S7:aq H C7:=λb o e=>Th b o (av e uh) (X _ _ e);clear l;clear CM W;left;refine⟨aaa _,λpe qW=>?_⟩;have sE7:=aq.new (.lst []) qW;have adH:upd C7 pe (.lst []) pe=some (.lst []):=af;have npe:pe≠d:=Ne.symm (av Tu qW);generalize akD:upd C7 pe (.lst [])=E7 at *;refine dz d _ rfl (tQ.k (k:=Sum.inr "events") (sE7 _ _ Tu) (small nofun)) ?_;have W:putK ([((Sum.inr "net":Key),V.ref I),((Sum.inr "put":Key),V.ref x),((Sum.inr "sender":Key),V.ref y),((Sum.inr "worker":Key),V.ref M),((Sum.inr "states":Key),V.ref R),((Sum.inr "words":Key),V.ref N),((Sum.inr "heard":Key),V.ref D6)]:List (Key×V)) (Sum.inr "events":Key) (V.ref pe)=[((Sum.inr "net":Key),V.ref I),((Sum.inr "put":Key),V.ref x),((Sum.inr "sender":Key),V.ref y),((Sum.inr "worker":Key),V.ref M),((Sum.inr "states":Key),V.ref R),((Sum.inr "words":Key),V.ref N),((Sum.inr "heard":Key),V.ref D6),((Sum.inr "events":Key),V.ref pe)]:=by kernel_rfl
 rw[W];obtain⟨GF,l,edF,kd7,T⟩:=fU (d:=d) ([((Sum.inr "net":Key),V.ref I),((Sum.inr "put":Key),V.ref x),((Sum.inr "sender":Key),V.ref y),((Sum.inr "worker":Key),V.ref M),((Sum.inr "states":Key),V.ref R),((Sum.inr "words":Key),V.ref N),((Sum.inr "heard":Key),V.ref D6),((Sum.inr "events":Key),V.ref pe)]) sE7;rw[l];have epe:=T _ _ npe adH;have SF:aq H GF:=λb o e=>kd7 b o (av e uh) (S7 _ _ e);clear l T;clear W;have L:∀(A:Hp) (kv:List (Key×V)) (b:Addr) (vs:List V),A d=some (.dK kv)->A b=some (.lst vs)->b≠d:=λA kv b vs S e2 z=>by rw[z,S]at e2;cases e2
 have ndk:∀(A:Hp) (p:Key×V) (kv:List (Key×V)) (b:Addr),A d=some (.dK (p::kv))->A b=some (.dK [])->b≠d:=λA p kv b S e2 z=>by rw[z,S]at e2;cases e2
 have Kn:∀(A:Hp) (kv:List (Key×V)) (b:Addr) (vs:List V),A d=some (.dK kv)->A b=some (.tup vs)->b≠d:=λA kv b vs S e2 z=>by rw[z,S]at e2;cases e2
 have kc7:=kd7;have ZP:∀b o,b≠d->C6 b=some o->GF b=some o:=λb o n e=>kc7 b o n (Th b o n e);have Mb:∀b o,b≠d->C5 b=some o->GF b=some o:=λb o n e=>ZP b o n (Td b o n e);have NP:∀b o,b≠d->C4 b=some o->GF b=some o:=λb o n e=>Mb b o n (S9 b o n e);have NQ:∀b o,b≠d->C3 b=some o->GF b=some o:=λb o n e=>NP b o n (SW b o n e);have Ro:∀b o,b≠d->C2 b=some o->GF b=some o:=λb o n e=>NQ b o n (SR b o n e);have XR:qp C1 C2 x A1 wv.length (λ_ _ o=>o=.lst []):=Zq;have IW:=WU;have XS:=XR.keep (λj b o e c=>by subst c;calc⟨Ro b _ (L _ _ _ _ Ts e) e,rfl⟩);have XT:=Ro _ _ (L _ _ _ _ Ts IW) IW;have XU:qp C2 C3 y A2 wv.length (λ_ _ o=>o=.lst []):=Zs.keep (λj b o e c=>by subst c;calc⟨ke2 b _ (L _ _ _ _ (Rl _ _ Ts) e) e,rfl⟩);have IX:=ke2 _ _ (L _ _ _ _ (Rl _ _ Ts) SS) SS;have XW:=XU.keep (λj b o e c=>by subst c;calc⟨NQ b _ (L _ _ _ _ Tt e) e,rfl⟩);have XX:=NQ _ _ (L _ _ _ _ Tt IX) IX;have XY:qp C3 C4 M A3 wv.length (λ_ _ o=>o=.dK []):=Zt.keep (λj b o e c=>by subst c;calc⟨ke3 b _ (ndk _ _ _ _ (Rm _ _ Tt) e) e,rfl⟩);have IY:=ke3 _ _ (L _ _ _ _ (Rm _ _ Tt) SX) SX;have XZ:=XY.keep (λj b o e c=>by subst c;calc⟨NP b _ (ndk _ _ _ _ RO e) e,rfl⟩);have X0:=NP _ _ (L _ _ _ _ RO IY) IY;have X1:qp C4 C5 R A4 mv.length (λj H' o=>∃v,o=.lst [v]/\HT H' 2 v (yq (g.ms.getD j default).ns (g.ms.getD j default).row)):=Zu.keep (λj b o e c=>by
  obtain⟨v,rfl,Z⟩:=c;calc⟨ke4 b _ (L _ _ _ _ (NN _ _ RO) e) e,v,rfl,Z.aG (λb' xs e'=>ke4 b' _ (Kn _ _ _ _ (NN _ _ RO) e') e')⟩)
 have IZ:=ke4 _ _ (L _ _ _ _ (NN _ _ RO) Ta) Ta;have X2:=X1.keep (λj b o e c=>by
  obtain⟨v,rfl,Z⟩:=c;calc⟨Mb b _ (L _ _ _ _ Od e) e,v,rfl,Z.aG (λb' xs e'=>Mb b' _ (Kn _ _ _ _ Od e') e')⟩)
 have X3:=Mb _ _ (L _ _ _ _ Od IZ) IZ;have wY:qp C5 C6 N A5 mv.length (λ_ H' o=>∃q,o=.lst [.ref q]/\H' q=some (.lst [])/\C5 q=none/\q≠N):=Zv.keep (λj b o e c=>by
  obtain⟨v,rfl,Z,RJ,X4⟩:=c;calc⟨ke5 b _ (L _ _ _ _ (NO _ _ Od) e) e,v,rfl,ke5 v _ (L _ _ _ _ (NO _ _ Od) Z) Z,RJ,X4⟩)
 have vo:=ke5 _ _ (L _ _ _ _ (NO _ _ Od) Te) Te;have nn:∀{A:Hp} {b:Addr} {o:HO},A b=some o->A b≠none:=λe z=>by rw[e]at z;cases z
 have X5:qp C5 C6 N A5 mv.length (λ_ H' o=>∃q,o=.lst [.ref q]/\H' q=some (.lst [])/\C5 q=none/\C6 q≠none):=⟨wY.len,wY.nd,wY.new,λj a e=>by
  obtain⟨o,S,q,rfl,e2,l,_⟩:=wY.ins j a e;calc⟨_,S,q,rfl,e2,l,nn e2⟩⟩
 have RT:=X5.keep (λj b o e c=>by
  obtain⟨v,rfl,Z,RJ,X4⟩:=c;calc⟨ZP b _ (L _ _ _ _ RQ e) e,v,rfl,ZP v _ (L _ _ _ _ RQ Z) Z,RJ,X4⟩)
 have X6:=ZP _ _ (L _ _ _ _ RQ vo) vo;have X7:qp C6 C7 D6 A6 mv.length (λ_ _ o=>o=.lst []):=Zw.keep (λj b o e c=>by subst c;calc⟨ke6 b _ (L _ _ _ _ (Rn _ _ RQ) e) e,rfl⟩);have Ja:=ke6 _ _ (L _ _ _ _ (Rn _ _ RQ) Ti) Ti;have X8:=X7.keep (λj b o e c=>by subst c;calc⟨kc7 b _ (L _ _ _ _ Tu e) e,rfl⟩);have X9:=kc7 _ _ (L _ _ _ _ Tu Ja) Ja;rw[jP]at XS;rw[jP]at XW;rw[jP]at XZ;rw[oR]at X2;rw[oR]at RT;rw[oR]at X8;obtain⟨ad,Ri⟩:∃ad:Nat->Nat->Addr,∀t i,ad t i=([[pe],A4,A5,A6,A1,A2,A3].getD t []).getD i 0:=⟨_,λ_ _=>rfl⟩
 have pz:∀{A B:Hp},(∀b o,b≠d->A b=some o->B b=some o)->∀{o},B d=some o->∀b,A b≠none->B b≠none:=λ{A B} h {o} e b hb=>by
  by_cases z:b=d
  ·rw[z,e];exact λz=>nomatch z
  ·cases S:A b with
   |none=>calc absurd S hb
   |some u=>rw[h b u z S];exact λz=>nomatch z
 have WN:∀a<7,∀b<7,[6,3,4,5,0,1,2].getD a 7=[6,3,4,5,0,1,2].getD b 7->a=b:=by decide
 obtain⟨cu,NI,hDo⟩:=CI (F:=F) (G:=GF) (n:=g.n) (c:=(RS.new g).tv) (λt=>[C1,C2,C3,C4,C5,C6,C7].getD t GF) (λt=>[6,3,4,5,0,1,2].getD t 7) _ (λt=>[d,R,N,D6,x,y,M].getD t d) (λt=>[λ_ _ u=>u=.lst [],λj H' o=>∃v,o=.lst [v]/\HT H' 2 v (yq (g.ms.getD j default).ns (g.ms.getD j default).row),λ_ H' o=>∃q,o=.lst [.ref q]/\H' q=some (.lst [])/\C5 q=none/\C6 q≠none,λ_ _ o=>o=.lst [],λ_ _ o=>o=.lst [],λ_ _ o=>o=.lst []].getD t λ_ _ o=>o=.dK []) Ri (λ_=>rfl) (λt l h h'=>WN t () l ())
  (λt=>match t with
   |0=>pz Zr Ts
   |1=>pz SR Tt
   |2=>pz SW RO
   |3=>pz S9 Od
   |4=>pz Td RQ
   |5=>pz Th Tu
   |6=>pz kd7 edF
   | (t + 7)=>λb h=>h)
  (λb h=>by
   obtain⟨o,e,l⟩:=iL b h;calc⟨nn (Tr _ _ e),o,SF _ _ e,l⟩)
  (λt ht=>match t,ht with
   | 0,_=>⟨⟨rfl,nofun,λa m=>by rw[List.mem_singleton.mp m];exact⟨qW,Ne.symm (av Tu qW)⟩,λj a e=>by cases j with
    |zero=>cases e;calc⟨_,epe,rfl⟩
    | succ j=>cases e⟩,λa m=>by rw[List.mem_singleton.mp m];calc nn epe,λh=>absurd h ∅⟩
   |1,_=>⟨X2,X1.some,λ_=>⟨fD4,nn IZ⟩⟩
   |2,_=>⟨RT,wY.some,λ_=>⟨fD5,nn vo⟩⟩
   |3,_=>⟨X8,X7.some,λ_=>⟨fD6,nn Ja⟩⟩
   |4,_=>⟨XS,XR.some,λ_=>⟨fD1,nn IW⟩⟩
   |5,_=>⟨XW,XU.some,λ_=>⟨V6,nn IX⟩⟩
   |6,_=>⟨XZ,XY.some,λ_=>⟨V9,nn IY⟩⟩
   | (t + 7),h=>absurd h ())
  (λt i u ht h=>by
   match t,ht,h with
   |0,_,h|3,_,h|4,_,h|5,_,h|6,_,h=>cases h;trivial
   |1,_,⟨_,e,_⟩|2,_,⟨_,e,_⟩=>cases e;trivial
   | (t + 7),h,_=>calc absurd h ())
  (λhz fo t i u ht hi e h=>by
   match t,ht,h with
   |0,_,h|3,_,h|4,_,h|5,_,h=>cases h;calc(dP.nil:dP _ 4 [] [])
   |1,_,⟨v,e,Z⟩=>cases e;calc(dP.one ((Iy hz Z).mono ∅):dP _ 4 [v] [_])
   |2,_,⟨v,e,Z,RJ,X4⟩=>
    cases e;have nq:=fo 4 v RJ X4 (λt ht es m=>by
     have:=WN t () 2 () es;subst this;obtain⟨j,e⟩:=aaE m;obtain⟨_,S,q,rfl,_⟩:=RT.ins j _ e;rw[Z] at S;cases S)
    show dP (gY (λb=>F b\/FP g.n ad b) GF) 4 [.ref v] [.lst []];calc dP.one (.lst (by rw[gn nq];calc Z) rfl (λi u e Y=>by simp at Y))
   |6,_,h=>
    cases h;exact⟨aaa _,λk=>by
     have S:kL ((RS.new g).ww i).eB k=none:=by
      show kL [] k=none;unfold kL;split<;>rfl
     rw[S];calc F4⟩
   | (t + 7),h,_=>calc absurd h ())
 have O:∀b,FP g.n ad b->H b=none:=λb hb=>Tr.free (NI b hb).1;have nF:∀b,H b=none->¬F b:=λb e z=>by
  obtain⟨o,S,_⟩:=iL b z;rw[e]at S;cases S
 have hT:cp F GF d (.ref I) g (RS.new g) ad:=by
  refine⟨⟨λt=>[d,R,N,D6,x,y,M].getD t d,?_,nF d uh,λz=>nn ed0 (NI d z).1,λt h1 h6=>?_⟩,cu,⟨ls,hN.cv ?_⟩,aU⟩
  ·rw[edF,Kj,Ri];rfl
  ·obtain⟨k,l,u⟩:=hDo t h1 h6;calc⟨?_,k,l⟩;rw[<-u]
   match t,h1,h6 with
   |1,_,_=>calc X3
   |2,_,_=>calc X6
   |3,_,_=>calc X9
   |4,_,_=>calc XT
   |5,_,_=>calc XX
   |6,_,_=>calc X0
   |(t+7),_,h=>exact absurd h ()
  ·intro b l e n;obtain⟨k,z2⟩:=cK e n;rw[gn]
   ·exact SF _ _ z2
   ·rintro(z | z)
    ·exact k z
    ·rw[O b z]at z2;cases z2
 have h7F:=h7.aG SF.aM;left;refine cN (SF _ _ g1) (aA (j:=2) rfl) (.inl ⟨⟨_,aS.of (SF _ _ g4)⟩,jy (K:=K) (xs:=lv) (λi σ H'=>(∃z2 z3,σ=[some (V.ref I),some (V.ref d),z2,z3])/\Fr (FP g.n ad) GF H'/\cp F H' d (.ref I) g ((RS.new g).kK (ls.take i)) ad) ?_ ?_ ?_ ?_⟩)
 ·exact⟨⟨_,_,rfl⟩,Fr.refl,hT⟩
 ·rintro i σ H' hi ⟨_,fi,_⟩;exact aS.of (fi.at (SF _ _ g4) (λz=>by rw[O _ z]at g4;cases g4))
 ·intro i z σ H' hzz adK;nofun;obtain⟨⟨z2,z3,rfl⟩,fi,vC⟩:=adK;have j:i < ls.length:=by rw[<-yT];exact(List.getElem?_eq_some_iff.mp hzz).1
  have k:ls[i]?=some ls[i]:=cP j;have Rf:=(h7F.2 i z (mI ls[i]) hzz (by rw[List.getElem?_map,k];rfl)).aG fi.aM;have IC:=mj _ (W' j);have E4:(RS.new g).kK (ls.take (i+1))=((RS.new g).kK (ls.take i)).put ls[i].1.toNat ls[i].2 none:=by
   rw[List.take_succ,k];exact pR _
  have A9:=(qY (ls.take i) (Bb aU)).mono (show _<=19998 by simp;lia);generalize ls[i]=p at *;obtain⟨U,px⟩:=p;obtain⟨tz,u1,u2,kz,rfl,EM,y1,y2⟩:=cm Rf;obtain rfl:=y1.cw;obtain rfl:=y2.cw;have k:=IC.1;have j:=IC.2;simp only at k j;have ej:((U.toNat:Nat):Int)=U:=aba k;have qX:U.toNat<g.ws.length:=by lia
  generalize ZN:(RS.new g).kK (ls.take i)=ri at *;ac_rfl;calc yC (bH.of EM) ?_;nofun;obtain⟨l,XM,j,nPi,k⟩:=vC.dk;have j:=k 4 ∅ ∅;have XQ:=k 5 ∅ ∅;have l:=vC.cu;obtain⟨w4,x4,k⟩:=l.lst (t:=4) (i:=U.toNat) qX rfl;ac_rfl;have u:w4.length=(ri.ww U.toNat).say.length:=by simpa using k.1
  have k:=A9.bs _ qX;have k:=A9.ls _ qX;left;calc bI _ (En XM) ?_;left;have k:iQ (kr g.n ad 4) U=some (.ref (ad 4 U.toNat)):=by have:=aZ (n:=g.n) (ad:=ad) (t:=4) qX;rw[ej]at this;exact this
  have rb:iQ (kr g.n ad 5) U=some (.ref (ad 5 U.toNat)):=by have:=aZ (n:=g.n) (ad:=ad) (t:=5) qX;rw[ej]at this;exact this
  calc bF j.1 k ?_;calc⟨.inl ⟨rfl,_,aS.of x4⟩,?_⟩;left;calc hJ w4 x4 (small ()) ?_;have bj:=l.app (t:=4) (i:=U.toNat) qX rfl x4 (dP.one (.int px));have fj:Fr (FP g.n ad) H' (upd H' (ad 4 U.toNat) (.lst (w4++[.int px]))):=Fr.refl.upd ⟨4,U.toNat,qX,rfl⟩ x4 trivial;generalize hGj:upd H' (ad 4 U.toNat) (.lst (w4++[.int px]))=Hj at *;obtain⟨k,j,l⟩:=bj.lst (t:=5) (i:=U.toNat) qX rfl;have n:k.length=(ri.ww U.toNat).snd.length:=by simpa using l.1
  left;calc bI _ (Md (fj.at XM nPi)) ?_;left;calc bF (fj.at XQ.1 XQ.2.2) rb ?_;calc⟨.inl ⟨rfl,_,aS.of j⟩,?_⟩;left;calc hJ k j (small ()) ?_;have l:=bj.app (t:=5) (i:=U.toNat) qX rfl j (dP.one (show HD _ 4 .bx (tJ none) from .bx));have i:Fr (FP g.n ad) H' (upd Hj (ad 5 U.toNat) (.lst (k++[.bx]))):=fj.upd ⟨5,U.toNat,qX,rfl⟩ j trivial;left;calc g9 ⟨_,_,rfl,rfl⟩ (fi.trans i) ?_;rw[E4];exact vC.own i (l.congr IP)
 ·intro σ H' adM;obtain⟨⟨z2,z3,rfl⟩,fi,vC⟩:=adM;left;rw[yT,List.take_length]at vC;calc q d ad H' (λb o e=>?_) O uh vC;calc fi.at (SF _ _ e) (λz=>by rw[O b z]at e;cases e)
def cY(nt:NT)(r:RS)(s:List (Int×Int)):RS:=s.foldl (λr p=>r.pick nt p.1.toNat p.2.toNat) r
def l7(nt:NT)(r:RS)(s:List (Int×Int)):Prop:=∀(i:Nat) p,s[i]?=some p->∃w k:Nat,p=((w:Int),(k:Int))/\(cY nt r (s.take i)).xE nt w k
theorem j6{nt:NT}{w k:Nat}:cY nt r (s++[((w:Int),(k:Int))])=(cY nt r s).pick nt w k:=by
 unfold cY;rw[List.foldl_append];rfl
theorem zt{nt:NT}:l7 nt r []:=λi p e=>by simp at e
theorem vD{nt:NT}{w k:Nat}(h:l7 nt r s)(b:(cY nt r s).xE nt w k):l7 nt r (s++[((w:Int),(k:Int))]):=λi p e=>by
 by_cases c:i<s.length
 ·rw[List.getElem?_append_left c]at e;rw[List.take_append_of_le_length ()];exact h i p e
 ·have a:i=s.length:=by
   have:=(List.getElem?_eq_some_iff.mp e).1;simp at this;lia
  subst a;rw[List.getElem?_append_right (Nat.le_refl _),Nat.sub_self]at e;obtain rfl:=Option.some.inj e;calc⟨w,k,rfl,by rw[List.take_left];calc b⟩
theorem vE{nt:NT}{p:Int×Int}(h:l7 nt r (s++[p])):l7 nt r s/\∃w k:Nat,p=((w:Int),(k:Int))/\(cY nt r s).xE nt w k:=by
 refine⟨λi q e=>?_,?_⟩
 ·have a:=(List.getElem?_eq_some_iff.mp e).1;have:=h i q (by rw[List.getElem?_append_left a];calc e);rw[List.take_append_of_le_length ()]at this;exact this
 ·have:=h s.length p (by rw[List.getElem?_append_right (Nat.le_refl _),Nat.sub_self];rfl);rw[List.take_left]at this;calc this
theorem rf{nt:NT}(d:nt.Ok){r:RS}(h:r.Ok nt)(e:r.picks=[]):∀n (s:List (Int×Int)),s.length=n->l7 nt r s->(cY nt r s).Ok nt/\(cY nt r s).picks=s
 |0,s,c,_=>by
  have:s=[]:=List.length_eq_zero_iff.mp c;subst this;calc⟨h,e⟩
 |n+1,s,c,g=>by
  rcases List.eq_nil_or_concat s with rfl|⟨i,p,f⟩
  ·simp at c
  rw[List.concat_eq_append]at f;subst f;obtain⟨j,w,k,rfl,l⟩:=vE g;obtain⟨a,b⟩:=rf d h e n i (by simpa using c) j;rw[j6];have:=RS.Ok.pick d a (k:=k) l.lt;rw[b]at this;calc this
theorem take_snoc{i:Nat}{p:Int×Int}(e:s[i]?=some p):s.take (i+1)=s.take i++[p]:=by rw[List.take_add_one,e];rfl
abbrev j7:Stmt:=top 15
inductive Jb(C CN CR:Addr)(c:Nat->Addr)(vs:List V)(H:Hp)(Q:VK)(E:XK):Prop
 |mk (F:Addr->Prop) (bD l:Addr) (nt:NT) (ls:List (Int×Int)) (ms:List Addr) (wv lv ys:List V) (s:List (Int×Int)) (h0:vs=[.ref bD,.ref l]) (h2:sI C CN H bD nt) (h3:k8 CN H bD ms wv lv) (h4:eW H 1 lv (ls.map mI)) (h5:ls.length<=20) (h6:∀l∈ls,0<=l.1/\l.1<nt.ws.length) (hl:H l=some (.lst ys)) (hs:eW H 1 ys (s.map pairD)) (hn:s.length<=100) (hF:FS F H) (q:l7 nt (RS.begin nt ls) s->∀x ad H',aq H H'->H x=none->(∀b,FP nt.n ad b->H b=none)->bY C CN CR F H' x bD nt (cY nt (RS.begin nt ls) s) ad->Q (.ref x) H') (q4:∀(i:Nat) m k,l7 nt (RS.begin nt ls) (s.take i)->s[i]?=some (m,k)->¬Lies nt (cY nt (RS.begin nt ls) (s.take i)) m k->∀a dx H',aq H H'->H' a=some (XO a (c 4) (some dx) false)->H' dx=some (XD dx [("at",.int (i:Nat))])->E (.ref a) none H') (q5:∀(i w k:Nat),l7 nt (RS.begin nt ls) (s.take i)->s[i]?=some ((w:Int),(k:Int))->w<nt.ws.length->((cY nt (RS.begin nt ls) (s.take i)).ww w).eB[k]?=some none->¬(cY nt (RS.begin nt ls) (s.take i)).xE nt w k->∀a dx H',aq H H'->H' a=some (XO a (c 5) (some dx) false)->H' dx=some (XD dx [("at",.int (i:Nat))])->E (.ref a) none H'):Jb C CN CR c vs H Q E
def rg(C CN CR:Addr)(c:Nat->Addr):Sp:=λvs H Q E=>Jb C CN CR c vs H Q E
theorem xg(D:dj K mg "played_run" "played_run" j7 ["net","schedule"])(T:Tx K mg C CN CR F FD)(A:tZ K mg B c)(eD:fS P w K mg base CR "pick_at" 6 ["self","way","number","at"] (wW C CN CR c))(Jc:yj P w K mg base "Run" CR 2 ["self","net"] (CJ C CN CR)):DefX P w K mg base "played_run" 7 ["net","schedule"] (rg C CN CR c):=by
 have g:aD ["net","schedule","run","at","way","number"] ["net","schedule"] (az j7):=by walk_at "s"
 refine D.ES g (λvs H Q E h=>?_) (λf dD A S s H vs Q E U h=>?_)
 ·obtain⟨F,bD,l,d,ls,ms,wv,lv,ys,s,rfl,W,Mu,Mv,X,mj,v,Y,vF,iL,q,q4,q5⟩:=h;rfl
 ·obtain⟨F,bD,l,d,ls,ms,wv,lv,ys,s,rfl,W,Mu,Mv,X,mj,v,Y,vF,iL,q,q4,q5⟩:=h;have A:=U.units;refine⟨_,(ai (aW (i:=2) g.nd rfl Sort (Hb Jc U (ag (au 0) aa)))
   (ai (eZ Vh rfl (gX rfl T.cW (ag (au 1) aa)) (vQ rfl (fM (aX (i:=3) g.nd rfl Sort) (fM (fm (i:=4) (j:=5) rfl g.nd rfl rfl Sort Sort) qK)))
   (ao (bS (jW eD jS T.aV U (au 2) (ag (au 4) (ag (au 5) (ag (au 3) aa)))))))
   (ao (aK (au 2))))),?_⟩
  have vG:=W.ok;obtain⟨Bh,Ki⟩:=oE vG X;calc L2.b4 λg h1=>?_;left;intro t g K0 A E;have m:aq H (upd (upd H g (.own t)) t (.ins CR g [])):=λb o e=>by rw[ay (av e K0),ay (av e A)];exact e
  calc⟨F,t,g,bD,d,ls,ms,wv,lv,rfl,af,W.fr (Z:=λ_=>False) m.fr,Mu.same m,Mv.aG m.aM,X,mj,iL.fr (Z:=λ_=>False) m.fr (λ_ _ h=>h),λad H3 k0 f0 hR0=>?_⟩;have x:aq H H3:=λb o e=>k0 b o (av e K0) (m _ _ e);have O:∀b,FP d.n ad b->H b=none:=λb hb=>by
   cases e:H b with
   |none=>rfl
   |some o=>
    have:=f0 b hb;rw[m _ _ e]at this;cases this
  clear k0 f0 m;calc⟨rfl,L2.bA h1 ?_⟩;clear h1;left;have Oe:ys.length=s.length:=by simpa using Y.1
  refine⟨true,ys,Sq.l (x _ _ v),jD (xs:=ys) (λi σ H'=>(∃z3 z4 z5,σ=[some (V.ref bD),some (V.ref l),some (V.ref t),z3,z4,z5])/\Fr (FP d.n ad) H3 H'/\bY C CN CR F H' t bD d (cY d (RS.begin d ls) (s.take i)) ad/\l7 d (RS.begin d ls) (s.take i)) ?_ ?_ ?_ ?_⟩
  ·exact⟨⟨_,_,_,rfl⟩,Fr.refl,hR0,zt⟩
  ·rintro i σ H' ⟨_,r,_⟩;exact Sq.l (r.at (x _ _ v) (λz=>by rw[O _ z]at v;cases v))
  ·intro i y σ H' G hx iY LZ;nofun;obtain⟨⟨z3,z4,z5,rfl⟩,r,I,u⟩:=iY;have g:i < s.length:=by rw[<-Oe];exact(List.getElem?_eq_some_iff.mp hx).1
   have J:s[i]?=some s[i]:=cP g;have L:=aq.new (.tup [.int (i:Nat),y]) LZ;have NW:upd H' G (.tup [.int (i:Nat),y]) G=some (.tup [.int (i:Nat),y]):=af;have ZQ:=(((Y.2 i y (pairD s[i]) hx (by rw[List.getElem?_map,J];rfl)).aG x.aM).aG r.aM).aG L.aM;generalize AQ:upd H' G (.tup [.int (i:Nat),y])=G2 at *;generalize s[i]=p at *;obtain⟨pm,pk⟩:=p;obtain⟨ta,u1,u2,kk,rfl,vk,y1,y2⟩:=cm ZQ;obtain rfl:=y1.cw;obtain rfl:=y2.cw;ac_rfl;calc⟨G,_,rfl,bH.of NW,rfl,_,_,rfl,_,_,rfl,⟨ta,_,rfl,bH.of vk,rfl,_,_,rfl,_,_,rfl,rfl,rfl,?_⟩⟩;left;nofun;obtain⟨g,l,BR,m⟩:=I.ins;obtain⟨xh,RV⟩:=rf vG Bh Ki _ _ rfl u;ac_rfl;have wN:∀{G:Hp},aq G2 G->aq H G:=λg b o e=>g _ _ (L _ _ (r.at (x _ _ e) (λz=>by rw[O _ z]at e;cases e)));calc gI (L _ _ BR) (gJ ⋯) ?_;refine⟨F,t,bD,d,_,ad,pm,pk,.int (i:Nat),rfl,I.same L,iL.fr (Z:=λ_=>False) (wN (aq.refl _)).fr (λ_ _ h=>h),xh,by rw[RV,List.length_take];lia,λw k M N hc t R f hR' d=>?_,λd a dx R s' M N=>q4 i pm pk u J d a dx R (wN s') M N,λw k M N hw kQ hn a dx R s' XF Se=>?_⟩
   ·subst M N;refine⟨⟨_,_,_,rfl,rfl,rfl⟩,(r.trans L.fr).trans f,?_,?_⟩
    ·rw[take_snoc J,j6];exact hR'
    ·rw[take_snoc J];exact vD u hc
   ·subst M N;exact q5 i w k u J hw kQ hn a dx R (wN s') XF Se
  ·intro σ H' iZ;obtain⟨⟨z3,z4,z5,rfl⟩,r,I,u⟩:=iZ;rw[Oe,List.take_length]at I u;left;calc q u _ _ _ (λb o e=>r.at (x _ _ e) (λz=>by rw[O _ z]at e;cases e)) K0 O I
theorem EA {P:Addr->Prop}{n:Nat}{vs:List V}(h:dP (gY P H) n vs (s.map pairD)):eW H 1 vs (s.map pairD):=⟨h.1,λi v d b a=>by
 rw[List.getElem?_map] at a;obtain⟨p,c,rfl⟩:=Option.map_eq_some_iff.mp a;calc Wv (e:=some p) ((h.2 i v _ b (by rw[List.getElem?_map,c];rfl)).cv eF)⟩
abbrev iA:Stmt:=top 62
inductive Je(vs:List V)(H:Hp)(Q:VK):Prop
 |mk (F:Addr->Prop) (tn:V) (l:Addr) (nt:NT) (ls:List (Int×Int)) (xs:List Int) (h0:vs=[tn,.ref l]) (h1:ToldN (gY F H) tn nt.ms nt.ws ls) (h2:FS F H) (h3:nt.Ok) (h4:ls.length<=20) (h5:∀l∈ls,0<=l.1/\l.1<nt.ws.length) (h6:H l=some (.lst (xs.map V.int))) (h7:xs.length<=40) (h8:∀e ys (s:List (Int×Int)) H',aq H H'->H e=none->H' e=some (.lst ys)->eW H' 1 ys (s.map pairD)->s.length<=40->(∀p∈s,0<=p.1/\p.1<(nt.ws.length:Int))->Q (.ref e) H'):Je vs H Q
def CP:Sp:=λvs H Q _=>Je vs H Q
theorem tq(D:dj K mg "_law_schedule" "_law_schedule" iA ["_law_told","_law_cells"])(T:Tx K mg C CN CR F FD)(fF:Def P w K mg base "_law_begun" 1 ["_law_net_here"] xf)(d7:Def P w K mg base "_law_free" 2 ["_law_run"] xa)(d9:Def P w K mg base "_law_pick" 3 ["_law_run","_law_way","_law_number"] q8):Def P w K mg base "_law_schedule" 4 ["_law_told","_law_cells"] CP:=by
 have sc:aD ["_law_told","_law_cells","_law_twin","_law_cell","_law_free_here","_law_way","_law_number"] ["_law_told","_law_cells"] (az iA):=by walk_at "s"
 symm;obtain⟨F,o,l,a,ls,O,rfl,EB,R,J,S,mj,u,U,q⟩:=h;have B:=hr.units;refine⟨_,(ai (aW (i:=2) sc.nd rfl Sort (aL fF hr (ag (au 0) aa)))
  (ai (eZ PassesOwn.never rfl (cA (pv 1)) (aX (i:=3) sc.nd rfl Sort)
  (ai (aW (i:=4) sc.nd rfl Sort (aL d7 hr (ag (au 2) aa)))
  (ao (aR (aC (dH B) (au 4) (bM aa) (aH _)) (ai (eQ (ak B (au 4) (aT cR (au 3) (bo aQ rfl T.b8 T' (ag (au 4) aa)))) (fm (i:=5) (j:=6) rfl sc.nd rfl rfl Sort Sort))
  (ao (bS (aL d9 hr (ag (au 2) (ag (au 5) (ag (au 6) aa))))))) aJ))))
  (ao (aK (ak B (au 2) aE))))),?_⟩
 obtain⟨Bh,Ki⟩:=oE J S;calc L2.b4 λU T=>?_;left;calc⟨F,o,a,ls,rfl,EB,R,J,S,mj,λd ad H1 W X U Mw=>?_⟩;calc L2.bA T ?_;clear T;left;have wI:=W _ _ u;have nl:¬FP a.n ad l:=λz=>by rw[X _ z]at u;cases u
 refine⟨_,rfl,.inl ⟨⟨_,aS.of wI⟩,jy (K:=K) (xs:=O.map V.int) (λi σ H'=>(∃Y Z z5 z6,σ=[some o,some (V.ref l),some (V.ref d),Y,Z,z5,z6])/\Fr (FP a.n ad) H1 H'/\∃r,cp F H' d o a r ad/\r.Ok a/\r.picks.length<=i/\∀p∈r.picks,0<=p.1/\p.1<(a.ws.length:Int)) ?_ ?_ ?_ ?_⟩⟩
 ·exact⟨⟨_,_,_,_,rfl⟩,Fr.refl,_,Mw,Bh,by rw[Ki];calc K' _,λp c=>by rw[Ki]at c;cases c⟩
 ·rintro i σ H' l ⟨_,g,_⟩;exact aS.of (g.at wI nl)
 ·intro i z σ H' hz iY;nofun;obtain⟨⟨Y,Z,z5,z6,rfl⟩,g,r,x,y,tH,L⟩:=iY;have l:i<40:=by
   have:=(List.getElem?_eq_some_iff.mp hz).1;rw[List.length_map]at this;lia
  rw[List.getElem?_map]at hz;obtain⟨M,_,rfl⟩:=Option.map_eq_some_iff.mp hz;ac_rfl;left;calc⟨F,d,o,a,r,ad,rfl,x,y,(),λO ys H2 s2 S l u=>?_⟩;left;calc⟨aaa _,λp c=>?_⟩;have v:=aq.new (.lst []) c;have N:=v _ _ l;have Yc:=u.aG v.aM;have Yd:upd H2 p (.lst []) p=some (.lst []):=af;have G:=(x.same s2).same v;have qC:=s2.trans v;generalize hGp:upd H2 p (.lst [])=Gp at *;by_cases hy:ys=[]
  ·subst hy;calc .inl ⟨.inr ⟨_,_,[],[],rfl,rfl,.inr ⟨aS.of N,aS.of Yd⟩,rfl,λj u v B=>by simp at B⟩,?_⟩;rw[if_neg ∅];left;exact⟨⟨_,_,_,_,rfl,rfl,rfl,rfl⟩,g.trans qC.fr,r,G,y,(),L⟩
  calc .inr ⟨⟨ys,[],λh=>hy (List.length_eq_zero_iff.mp h),.inl ⟨aS.of N,aS.of Yd⟩⟩,?_⟩;rw[if_pos trivial];left;have j:0<ys.length:=List.length_pos_iff.mpr hy;nofun;obtain⟨m,adQ⟩:∃m:Nat,M%(ys.length:Int)=m:=⟨(M%(ys.length:Int)).toNat,by have:=aaR M (show(ys.length:Int)≠0 by lia);lia⟩
  have BZ:m<ys.length:=by have:=aaL M (show(0:Int)<ys.length by lia);lia
  have j:ys.length=(gK a r a.ws.length).length:=by simpa using Yc.1
  have Ye:m<(gK a r a.ws.length).length:=by lia
  have hel:=Yc.2 m ys[m] _ (cP BZ) (by rw[List.getElem?_map,cP Ye];rfl);have tS:=W' Ye;generalize (gK a r a.ws.length)[m]=pr at *;obtain⟨wy,I⟩:=pr;have l8:=tf y tS;obtain⟨j,l,m,u,eta,vk,y1,y2⟩:=cm hel;obtain rfl:=y1.cw;obtain rfl:=y2.cw;ac_rfl;calc⟨_,.inl ⟨_,aS.of N,rfl⟩,(),_,_,.inl (aS.of N),by rw[adQ];calc aA (cP BZ),?_⟩;rw[eta];calc yC (bH.of vk) ?_;left;calc⟨F,d,o,a,r,ad,wy,I,rfl,G,R.fr (W.fr.trans (g.trans qC.fr)) x.cu.ur,y,l8,(),λt m l j _=>?_⟩;have Tv:=RS.Ok.pick J y (k:=I) l8.lt;calc⟨⟨_,_,_,_,rfl,rfl,rfl,rfl⟩,(g.trans qC.fr).trans l,_,j,Tv.1,by rw[Tv.2];simp;lia,λp c=>?_⟩;rw[Tv.2,List.mem_append,List.mem_singleton]at c;rcases c with c|rfl
  ·exact L p c
  ·have:=l8.lt;exact⟨nofun,by simp;lia⟩
 ·intro σ H' iZ;nofun;obtain⟨⟨Y,Z,z5,z6,rfl⟩,g,r,x,y,tH,L⟩:=iZ;obtain⟨o,a,c,j,l⟩:=x.dk;obtain⟨c,j,d0⟩:=x.cu.lst (t:=0) (i:=0) (show 0 < 1 by decide) rfl;ac_rfl;left;calc bI _ (RB a) ?_;refine q _ c r.picks _ ?_ (X _ ⟨0,0,(show 0 < 1 by decide),rfl⟩) j ?_ (by rw[List.length_map] at tH;lia) L
  ·exact λb o e=>g.at (W _ _ e) (λz=>by rw[X _ z]at e;cases e)
  ·calc EA d0
theorem eW.part{n a b:Nat}{vs:List V}(h:eW H n vs (s.map pairD)):eW H n ((vs.drop a).take b) (((s.drop a).take b).map pairD):=by
 have g:vs.length=s.length:=by simpa using h.1
 calc⟨by simp[g],λi v d c e=>?_⟩;rw[List.getElem?_take]at c;rw[List.getElem?_map,List.getElem?_take]at e;by_cases f:i<b
 ·rw[if_pos f,List.getElem?_drop]at c e;exact h.2 (a+i) v d c (by rw[List.getElem?_map];calc e)
 ·rw[if_neg f]at c;cases c
theorem lX{n:Nat}{vs:List V}{lo hi:Option Int}(h:eW H n vs (s.map pairD))(a:∀p∈s,0<=p.1):∃s':List (Int×Int),eW H n (bR vs lo hi) (s'.map pairD)/\(∀p∈s',0<=p.1)/\s'.length<=s.length:=by
 unfold bR;calc⟨_,h.part,λp b=>a p (List.mem_of_mem_drop (List.mem_of_mem_take b)),?_⟩;rw[List.length_take,List.length_drop];lia
abbrev jj:Stmt:=top 63
inductive Jf(vs:List V)(H:Hp)(Q:VK):Prop
 |mk (l:Addr) (z:Int) (nw:Nat) (ys:List V) (s:List (Int×Int)) (h0:vs=[.ref l,.int z,.int (nw:Nat)]) (h1:H l=some (.lst ys)) (h2:eW H 1 ys (s.map pairD)) (h3:s.length<=40) (h4:∀p∈s,0<=p.1) (h5:nw<=10) (h6:∀e ER (s':List (Int×Int)) H',aq H H'->H e=none->H' e=some (.lst ER)->eW H' 1 ER (s'.map pairD)->s'.length<=90->(∀p∈s',0<=p.1)->Q (.ref e) H'):Jf vs H Q
def CQ:Sp:=λvs H Q _=>Jf vs H Q
theorem uw(D:dj K mg "_law_altered" "_law_altered" jj ["_law_schedule_here","_law_cell","_law_ways"])(T:Tx K mg C CN CR F FD):Def P w K mg base "_law_altered" 1 ["_law_schedule_here","_law_cell","_law_ways"] CQ:=by
 have sc:aD ["_law_schedule_here","_law_cell","_law_ways","_law_at_here","_law_way","_law_number"] ["_law_schedule_here","_law_cell","_law_ways"] (az jj):=by walk_at "s"
 symm;obtain⟨l,z,r,ys,s,rfl,o,v,G,B,S,q⟩:=h;have l:=hr.units;refine⟨_,(ai (aW (i:=3) sc.nd rfl Sort (aT cR (aT gG (au 1) aj) (aT ck (bo aQ rfl T.b8 T' (ag (au 0) aa)) aj)))
  (ai (aW (i:=4) sc.nd rfl Sort (aT cR (aT gG (au 1) aj) (aT ck (au 2) aj)))
  (ai (aW (i:=5) sc.nd rfl Sort (aT fP (aT cR (aT gG (au 1) aj) aj) aj))
  (ai (aR (aC gk (aT cR (au 1) aj) aj (aH _)) (ao (aK (da bO rfl T.dI vK (ag (au 0) aa)))) aJ)
  (ai (aR (aC (aY l) (aT cR (au 1) aj) aj (aH _)) (ao (aK (aT ck (gN (au 0) fe (eL (au 3))) (gN (au 0) (eL (aT ck (au 3) aj)) fe)))) aJ)
  (ai (aR (aC (aY l) (aT cR (au 1) aj) aj (aH _)) (ao (aK (aT ck (gN (au 0) fe (eL (aT ck (au 3) aj))) (gN (au 0) (eL (au 3)) fe)))) aJ)
  (ao (aK (aT ck (aT ck (gN (au 0) fe (eL (au 3))) (bM (ag (bb (ag (au 4) (ag (au 5) aa))) aa))) (gN (au 0) (eL (au 3)) fe)))))))))),?_⟩
 have l:ys.length=s.length:=by simpa using v.1
 left;calc⟨⟨∅,⋯⟩,_,.inl ⟨_,aS.of o,rfl⟩,(),?_⟩;generalize z/6%(((ys.length:Nat):Int)+1)=a;left;calc g9 ⟨∅,⋯⟩ () ?_;have QS:0<=z/400%(((r:Nat):Int)+1):=aaR _ ();generalize z/400%(((r:Nat):Int)+1)=wy at *;left;calc g9 ⟨∅,⋯⟩ ∅ ?_;generalize z/5000%9-1=J;left;calc⟨∅,?_⟩;by_cases S:z%6<3
 ·rw[if_pos (by simpa using S)];left;calc bI _ (.inl (aS.of o)) (λe b=>?_);have g:=aq.new (.lst ys) b;exact q e ys s _ g b af (v.aG g.aM) () B
 rw[if_neg (by simpa using S)];have L:∀{j k l r:Option Int},(bR ys j k).length+(bR ys l r).length<=sizeLine:=λ{j k l r}=>by
  have a1:=fz ys j k;have a2:=fz ys l r;exact L' (aI ())
 have M:∀(j k l r:Option Int) (G:Hp) {e:Addr},aq H G->G e=none->Q (.ref e) (upd G e (.lst (bR ys j k++bR ys l r))):=λj k l r G e T b=>by
  nofun;obtain⟨g,G,h2,S⟩:=lX (lo:=j) (hi:=k) v B;obtain⟨m,U,W,g3⟩:=lX (lo:=l) (hi:=r) v B;ac_rfl;have I:=T.trans (aq.new (.lst (bR ys j k++bR ys l r)) b);calc q e _ (g++m) _ I (T.free b) af ?_ (by rw[List.length_append];lia) (λp t=>(List.mem_append.mp t).elim (h2 p) (W p));rw[List.map_append];exact(G.app U).aG I.aM
 left;calc⟨∅,?_⟩;by_cases h4:z%6=3
 ·rw[if_pos (by simpa using h4)];left;calc .inl ⟨_,o,λx X=>?_⟩;have g:=aq.new (.lst (bR ys none (some a))) X;have N:upd H x (.lst (bR ys none (some a))) x=_:=af;generalize SG:upd H x (.lst (bR ys none (some a)))=u at *;left;calc .inl ⟨_,g _ _ o,λy Y=>?_⟩;have m:=aq.new (.lst (bR ys (some (a+1)) none)) Y;have O:upd u y (.lst (bR ys (some (a+1)) none)) y=_:=af;generalize AQ:upd u y (.lst (bR ys (some (a+1)) none))=R at *;left;exact .inl ⟨_,_,m _ _ N,O,L,λe b=>M _ _ _ _ _ (g.trans m) b⟩
 rw[if_neg (by simpa using h4)];left;calc⟨∅,?_⟩;by_cases h5:z%6=4
 ·rw[if_pos (by simpa using h5)];left;calc .inl ⟨_,o,λx X=>?_⟩;have g:=aq.new (.lst (bR ys none (some (a+1)))) X;have N:upd H x (.lst (bR ys none (some (a+1)))) x=_:=af;generalize SG:upd H x (.lst (bR ys none (some (a+1))))=u at *;left;calc .inl ⟨_,g _ _ o,λy Y=>?_⟩;have m:=aq.new (.lst (bR ys (some a) none)) Y;have O:upd u y (.lst (bR ys (some a) none)) y=_:=af;generalize AQ:upd u y (.lst (bR ys (some a) none))=R at *;left;exact .inl ⟨_,_,m _ _ N,O,L,λe b=>M _ _ _ _ _ (g.trans m) b⟩
 rw[if_neg (by simpa using h5)];left;have a1:=fz ys none (some a);have a2:=fz ys (some a) none;calc .inl ⟨_,o,λZ l=>?_⟩;have g:=aq.new (.lst (bR ys none (some a))) l;have N:upd H Z (.lst (bR ys none (some a))) Z=some (.lst (bR ys none (some a))):=af;generalize SG:upd H Z (.lst (bR ys none (some a)))=u at *;calc⟨bP,λc l=>?_⟩;have m:=aq.new (.tup [.int wy,.int J]) l;have O:upd u c (.tup [.int wy,.int J]) c=some (.tup [.int wy,.int J]):=af;generalize AQ:upd u c (.tup [.int wy,.int J])=R at *;calc⟨∅,λp3 l=>?_⟩;have s3:=aq.new (.lst [.ref c]) l;have e3:upd R p3 (.lst [.ref c]) p3=some (.lst [.ref c]):=af;generalize QX:upd R p3 (.lst [.ref c])=G3 at *;calc .inl ⟨_,_,s3 _ _ (m _ _ N),e3,L' (aI (by simp;lia)),λp4 l=>?_⟩;have s4:=aq.new (.lst (bR ys none (some a)++[.ref c])) l;have e4:upd G3 p4 (.lst (bR ys none (some a)++[.ref c])) p4=some (.lst (bR ys none (some a)++[.ref c])):=af;generalize Q4:upd G3 p4 (.lst (bR ys none (some a)++[.ref c]))=G4 at *;have Ib:=g.trans (m.trans (s3.trans s4));calc .inl ⟨_,Ib _ _ o,λp5 l=>?_⟩;have s5:=aq.new (.lst (bR ys (some a) none)) l;have e5:upd G4 p5 (.lst (bR ys (some a) none)) p5=some (.lst (bR ys (some a) none)):=af;generalize SE:upd G4 p5 (.lst (bR ys (some a) none))=G5 at *;calc .inl ⟨_,_,s5 _ _ e4,e5,L' (aI (by simp;lia)),λe b=>?_⟩;nofun;obtain⟨l,m,b2,g⟩:=lX (lo:=none) (hi:=some a) v B;obtain⟨o,U,W,g3⟩:=lX (lo:=some a) (hi:=none) v B;ac_rfl;have g:=Ib.trans s5;have I:=g.trans (aq.new (.lst ((bR ys none (some a)++[.ref c])++bR ys (some a) none)) b);refine q e _ (l++[(wy,J)]++o) _ I (g.free b) af ?_ (by simp;lia) (λp t=>?_)
 ·rw[List.map_append,List.map_append];calc eW.app (eW.app (m.aG I.aM) ?_) (U.aG I.aM);have e6:=(s3.trans (s4.trans (s5.trans (aq.new (.lst ((bR ys none (some a)++[.ref c])++bR ys (some a) none)) b)))) _ _ O;exact⟨rfl,λi v d hv hd=>by
   cases i with
   |zero=>cases hv;cases hd;calc cJ (n:=0) e6 (.int _) (.int _)
   | succ i=>cases hv⟩
 ·rw[List.mem_append,List.mem_append,List.mem_singleton] at t;rcases t with(t | rfl) | t
  ·exact b2 p t
  ·exact QS
  ·calc W p t
theorem tw(p:Int×Int):tI (pairD p):=.tup λe a=>by
 simp at a;rcases a with rfl|rfl<;>calc .int _
theorem Jg{l:List Nat}{k:Int}:xT (.int k) (l.map λk=>V.int (k:Nat))=true↔∃j∈l,k=(j:Nat):=by
 unfold xT;rw[List.any_eq_true];constructor
 ·rintro⟨x,b,e⟩;obtain⟨j,a,rfl⟩:=List.mem_map.mp b;calc bI j a ?_;have:((j:Nat):Int)=k:=by simpa[BH] using e
  exact this.symm
 ·intro c;obtain⟨j,a,rfl⟩:=c;calc⟨_,List.mem_map.mpr ⟨j,a,rfl⟩,by simp[BH]⟩
theorem oH{nt:NT}(h:r.Ok nt){w k:Nat}(c:w<nt.ws.length):k∈r.oC w↔(r.ww w).eB[k]?=some none:=by
 have f:=h.lk w c;unfold RS.oC;rw[List.mem_filter,List.mem_range];constructor
 ·rintro⟨a,b⟩;rw[bq (d:=none) ()]
  cases z:(r.ww w).eB.getD k none with
  |none=>rfl
  |some e=>rw[z]at b;simp at b
 ·intro a;have b:=(List.getElem?_eq_some_iff.mp a).1;calc⟨(),?_⟩;rw[getD_at a];rfl
theorem Jh{nt:NT}{r:RS}(h:r.Ok nt)(t:r.Px nt){w i j:Nat}(n:w<nt.ws.length)(o:(nt.w w).2.2="row")(hi:(r.ww w).eB[i]?=some none)(m:(r.oC w)[0]?=some j):(i=j↔r.xE nt w i):=by
 have f:j∈(r.oC w).take 1:=by
  cases p:r.oC w with
  |nil=>rw[p]at m;cases m
  |cons a l=>rw[p]at m;cases m;simp
 have l:=vt f;have b:=(oH h n).mp (List.mem_of_mem_take f);have m:=(List.getElem?_eq_some_iff.mp hi).1;have q:∀k,k<j->∃e,(r.ww w).eB[k]?=some (some e):=λk f=>by
  have h:=(List.getElem?_eq_some_iff.mp b).1;have s:=l k f;rw[bq (d:=none) (show k<(r.ww w).eB.length by lia)]
  cases z:(r.ww w).eB.getD k none with
  |none=>rw[z]at s;simp at s
  |some e=>exact⟨e,rfl⟩
 constructor
 ·rintro rfl;exact⟨n,hi,λ_ f=>q (i-1) ()⟩
 ·intro u;calc Classical.byContradiction λf=>?_;have f:j<i:=by
   calc Classical.byContradiction λz=>?_;obtain⟨e,c⟩:=q i ();rw[hi]at c;cases c
  obtain⟨e,c⟩:=u.row o ();by_cases z:j=i-1
  ·subst z;rw[b]at c;cases c
  ·obtain⟨f,g⟩:=t.px w n o j (i-1) e () c;rw[b]at g;cases g
theorem CS{n:Nat}{p:Int×Int}(h:HT H n z (pairD p)):∃a,z=.ref a/\H a=some (.tup [.int p.1,.int p.2]):=by
 obtain⟨a,u,v,k,e,b,c,d⟩:=cm h;obtain rfl:=c.cw;obtain rfl:=d.cw;calc⟨a,e,b⟩
theorem EC{K:W.Frag}{t l:Addr}{c:List (Nat×Nat)}{m k:Nat}(v:H l=some (.lst ys))(q:eW H 1 ys (c.map Mg))(w:H t=some (.tup [.int ((m:Nat):Int),.int ((k:Nat):Int)]))(x:(m,k)∈c->Q (.bl false) H)(y:¬(m,k)∈c->Q (.bl true) H):VN K true (.ref t) (.ref l) H Q:=by
 classical
 have hd:=(cJ (H:=H) (n:=0) w (.int ((m:Nat):Int)) (.int ((k:Nat):Int))).hd;have g:∀z∈ys,∃b,zD K H 40 z (.ref t) b/\∀p∈c,HT H 1 z (Mg p)->(b=true↔p=(m,k)):=λz j=>by
  obtain⟨i,o⟩:=aaE j;have d:ys.length=c.length:=by simpa using q.1
  have r:i<c.length:=by rw[<-d];exact(List.getElem?_eq_some_iff.mp o).1
  have s:=q.2 i z (Mg c[i]) o (by rw[List.getElem?_map,cP r];rfl);obtain⟨b,w,A⟩:=rW (K:=K) (H:=H) 1 (m:=1) s.hd hd (tw _) (tw (((m:Nat):Int),((k:Nat):Int)));calc bI b (w.mono ∅) (λp E B=>?_);rw[A];obtain⟨a,rfl,C⟩:=CS s;obtain⟨w,D,u⟩:=CS B
  cases D;rw[C]at u;have w:c[i]=p:=by
   simp only[Option.some.injEq,HO.tup.injEq,List.cons.injEq,V.int.injEq,and_true]at u;exact Prod.ext () ()
  rw[w];constructor
  ·intro h;simp only[Mg,pairD,DV.tup.injEq,List.cons.injEq,DV.int.injEq,and_true]at h;exact Prod.ext (by have:=h.1;lia) (by have:=h.2;lia)
  ·rintro rfl;rfl
 obtain⟨f,u⟩:∃f:V->Bool,∀z ∈ ys,zD K H 40 z (.ref t) (f z)/\∀p ∈ c,HT H 1 z (Mg p)->(f z=true↔p=(m,k)):=⟨λz=>if h:∃b,zD K H 40 z (.ref t) b/\∀p ∈ c,HT H 1 z (Mg p)->(b=true↔p=(m,k)) then Classical.choose h else false,λz j=>by
  simp only[dif_pos (g z j)];calc Classical.choose_spec (g z j)⟩
 refine⟨l,ys,f,rfl,aS.of v,λz j=>(u z j).1,?_⟩
 ·have d:ys.length=c.length:=by simpa using q.1
  have e:ys.any f=decide ((m,k)∈c):=by
   by_cases g:(m,k)∈c
   ·rw[decide_eq_true g,List.any_eq_true];obtain⟨i,o⟩:=aaE g;have l:i < ys.length:=by rw[d];exact(List.getElem?_eq_some_iff.mp o).1
    exact⟨ys[i],W' l,((u _ (W' l)).2 (m,k) g (q.2 i _ _ (cP l) (by rw[List.getElem?_map,o];rfl))).mpr rfl⟩
   ·rw[decide_eq_false g,<-Bool.not_eq_true,List.any_eq_true];rintro⟨z,j,h⟩;obtain⟨i,o⟩:=aaE j;have r:i < c.length:=by rw[<-d];exact(List.getElem?_eq_some_iff.mp o).1
    have s:=((u z j).2 c[i] (W' r) (q.2 i z _ o (by rw[List.getElem?_map,cP r];rfl))).mp h;exact g (s▸W' r)
  rw[if_pos rfl];rw[e];by_cases g:(m,k)∈c
  ·rw[decide_eq_true g];exact x g
  ·rw[decide_eq_false g];calc y g
theorem Ji{nt:NT}(h:r.Ok nt)(e:r.Px nt){w i:Nat}(b:r.xE nt w i):(w,i)∈gK nt r nt.ws.length:=by
 have c:=(oH h b.lt).mpr b.lies;unfold gK;rw[List.mem_flatMap];calc⟨w,List.mem_range.mpr b.lt,List.mem_map.mpr ⟨i,?_,rfl⟩⟩;unfold iy;split
 ·next z=>
  cases d:r.oC w with
  |nil=>rw[d]at c;cases c
  |cons a l=>
   have:=(Jh h e b.lt z b.lies (j:=a) (by rw[d];rfl)).mpr b;subst this;simp
 ·calc c
theorem CT{nt:NT}{r:RS}(h:r.Px nt):∀n (s:List (Int×Int)),s.length=n->l7 nt r s->(cY nt r s).Px nt
 |0,s,a,_=>by
  have:s=[]:=List.length_eq_zero_iff.mp a;subst this;calc h
 |n+1,s,a,d=>by
  rcases List.eq_nil_or_concat s with rfl|⟨e,p,b⟩
  ·simp at a
  rw[List.concat_eq_append]at b;subst b;obtain⟨f,w,k,rfl,c⟩:=vE d;rw[j6];calc(CT h n e (by simpa using a) f).pick c.lies c.row
abbrev pU:Stmt:=top 64
def Due(nt:NT)(r:RS)(s:List (Int×Int))(n:Nat)(x:V)(H:Hp):Prop:=(n=s.length/\x=.bx)\/(∃m k,s[n]?=some (m,k)/\¬Lies nt r m k/\HT H 1 x (.tup [.str "none",.int (n:Nat)]))\/(∃w k:Nat,s[n]?=some ((w:Int),(k:Int))/\w<nt.ws.length/\(r.ww w).eB[k]?=some none/\¬r.xE nt w k/\HT H 1 x (.tup [.str "first",.int (n:Nat)]))
inductive Jj(vs:List V)(H:Hp)(Q:VK):Prop
 |mk (F:Addr->Prop) (tn:V) (l:Addr) (nt:NT) (ls:List (Int×Int)) (ys:List V) (s:List (Int×Int)) (h0:vs=[tn,.ref l]) (h1:ToldN (gY F H) tn nt.ms nt.ws ls) (h2:FS F H) (h3:nt.Ok) (h4:ls.length<=20) (h5:∀l∈ls,0<=l.1/\l.1<nt.ws.length) (h6:H l=some (.lst ys)) (h7:eW H 1 ys (s.map pairD)) (h8:s.length<=100) (h9:∀p∈s,0<=p.1) (q:∀(n:Nat) d ad t x H',n<=s.length->l7 nt (RS.begin nt ls) (s.take n)->aq H H'->H d=none->(∀b,FP nt.n ad b->H b=none)->cp F H' d tn nt (cY nt (RS.begin nt ls) (s.take n)) ad->H' t=some (.tup [.ref d,x])->Due nt (cY nt (RS.begin nt ls) (s.take n)) s n x H'->Q (.ref t) H'):Jj vs H Q
def CU:Sp:=λvs H Q _=>Jj vs H Q
theorem ED(D:dj K mg "_law_due" "_law_due" pU ["_law_told","_law_schedule_here"])(T:Tx K mg C CN CR F FD)(fF:Def P w K mg base "_law_begun" 1 ["_law_net_here"] xf)(d7:Def P w K mg base "_law_free" 2 ["_law_run"] xa)(dB:Def P w K mg base "_law_lying" 1 ["_law_run","_law_way"] w6)(d9:Def P w K mg base "_law_pick" 3 ["_law_run","_law_way","_law_number"] q8):Def P w K mg base "_law_due" 4 ["_law_told","_law_schedule_here"] CU:=by
 have sc:aD ["_law_told","_law_schedule_here","_law_twin","_law_at_here","_law_way","_law_number"] ["_law_told","_law_schedule_here"] (az pU):=by walk_at "s"
 symm;obtain⟨F,tn,l,a,ls,ys,s,rfl,o,W,X,ij,mj,hl,bC,vF,E6,q⟩:=h;have hu:=hr.units;refine⟨_,(ai (aW (i:=2) sc.nd rfl Sort (aL fF hr (ag (au 0) aa)))
  (ai (eZ PassesOwn.never rfl (gX rfl T.cW (ag (au 1) aa)) (vQ rfl (fM (aX (i:=3) sc.nd rfl Sort) (fM (fm (i:=4) (j:=5) rfl sc.nd rfl rfl Sort Sort) qK)))
  (ai (aR (PW.pt (pw_or (aC Gh (au 4) (bo aQ rfl T.b8 T' (ag (ak hu (au 0) aj) aa)) (aH _)) (pw_or1 (aC Dv (au 5) (aL dB hr (ag (au 2) (ag (au 4) aa))) (by with_unfolding_all rfl))))) (ao (aK (bb (ag (au 2) (ag (bb (ag aE (ag (au 3) aa))) aa))))) aJ)
  (ai (aR (aC (Hx hu) (bb (ag (au 4) (ag (au 5) aa))) (aL d7 hr (ag (au 2) aa)) (by with_unfolding_all rfl)) (ao (aK (bb (ag (au 2) (ag (bb (ag aE (ag (au 3) aa))) aa))))) aJ)
  (ao (bS (aL d9 hr (ag (au 2) (ag (au 4) (ag (au 5) aa)))))))))
  (ao (aK (bb (ag (au 2) (ag fK aa))))))),?_⟩
 nofun;obtain⟨Bh,Ki⟩:=oE X ij;obtain⟨g,am,aw,al,mv,wv,lv,rfl,k1,k2,k3,k4,k5,k6,k7⟩:=id o;ac_rfl;have g1:=(cK k1 (λk z=>by cases z)).2;have g3:=(cK k3 (λk z=>by cases z)).2;have jP:wv.length=a.ws.length:=by simpa using k6.1
 clear k1 k2 k3 k4 k5 k6 k7;have Oe:ys.length=s.length:=by simpa using bC.1
 calc L2.b4 λN1 L=>?_;left;calc⟨F,_,a,ls,rfl,o,W,X,ij,mj,λd ad H1 t0 Y fd Mw=>?_⟩;have c:∀{G:Hp},Fr (FP a.n ad) H1 G->aq H G:=λf b o e=>f.at (t0 _ _ e) (λz=>by rw[Y _ z]at e;cases e)
 calc L2.bA L ?_;clear L;left;refine⟨true,ys,Sq.l (t0 _ _ hl),jD (xs:=ys) (λi σ H'=>(∃z3 z4 z5,σ=[some (V.ref g),some (V.ref l),some (V.ref d),z3,z4,z5])/\Fr (FP a.n ad) H1 H'/\cp F H' d (.ref g) a (cY a (RS.begin a ls) (s.take i)) ad/\l7 a (RS.begin a ls) (s.take i)) ?_ ?_ ?_ ?_⟩
 ·exact⟨⟨_,_,_,rfl⟩,Fr.refl,Mw,zt⟩
 ·rintro i σ H' ⟨_,I,_⟩;exact Sq.l (c I _ _ hl)
 ·intro i M σ H' tt hx iZ LZ;nofun;obtain⟨⟨z3,z4,z5,rfl⟩,I,N,m⟩:=iZ;have o:i < s.length:=by rw[<-Oe];exact(List.getElem?_eq_some_iff.mp hx).1
  have qW:s[i]?=some s[i]:=cP o;have WK:=E6 _ (W' o);have s2:=aq.new (.tup [.int (i:Nat),M]) LZ;have NW:upd H' tt (.tup [.int (i:Nat),M]) tt=some (.tup [.int (i:Nat),M]):=af;have ZQ:=((bC.2 i M (pairD s[i]) hx (by rw[List.getElem?_map,qW];rfl)).aG (c I).aM).aG s2.aM;have u:=I.trans s2.fr;have O:=N.same s2;generalize AQ:upd H' tt (.tup [.int (i:Nat),M])=G2 at *;generalize s[i]=p at *;obtain⟨pm,pk⟩:=p;obtain⟨ta,u1,u2,kk,rfl,vk,y1,y2⟩:=cm ZQ;obtain rfl:=y1.cw;obtain rfl:=y2.cw;ac_rfl;calc⟨tt,_,rfl,bH.of NW,rfl,_,_,rfl,_,_,rfl,⟨ta,_,rfl,bH.of vk,rfl,_,_,rfl,_,_,rfl,rfl,rfl,?_⟩⟩;clear AQ NW vk ZQ N;obtain⟨v,o⟩:=rf X Bh Ki _ _ rfl m;have hpx:=CT RS.Px.begin _ _ rfl m;have sC:(cY a (RS.begin a ls) (s.take i)).picks.length<=400:=by rw[o,List.length_take];lia
  have E4:=take_snoc qW;have o:FS F G2:=W.fr (Z:=λ_=>False) (c u).fr (λ_ _ h=>h);have qi:=λt x L8=>q i d ad t x L8 () m;generalize ZN:cY a (RS.begin a ls) (s.take i)=r at *;calc L2.b4 λN1 L=>?_;calc L2.gC λo x Mw Yg=>?_;have y:∀G,aq G2 G->¬Lies a r pm pk->o [some (V.ref g),some (V.ref l),some (V.ref d),some (V.int ((i:Nat):Int)),some (V.int pm),some (V.int pk)] G:=λG g l=>by
   refine L2.bA Mw ?_;left;refine⟨bP,λR E8=>⟨bP,λp2 xB=>?_⟩⟩;have s4:=aq.new (.tup [.str "none",.int ((i:Nat):Int)]) E8;have S:=aq.new (.tup [.ref d,.ref R]) xB;have B:=g.trans (s4.trans S);exact qi p2 _ _ ((c u).trans B) fd Y (O.same B) af (.inr (.inl ⟨pm,pk,qW,l,(cJ (n:=0) af (.str _) (.int _)).aG S.aM⟩))
  clear Mw;left;calc cN (c u _ _ g1) (aA (j:=1) rfl) ?_;calc bI _ (.inl ⟨_,aS.of (c u _ _ g3),rfl⟩) ?_;rw[jP];by_cases EX:(a.ws.length:Int)<=pm
  ·rw[if_pos (by simpa using EX),if_pos trivial];exact y _ (aq.refl _) λ⟨w,i,e,_,h,_⟩=>by lia
  rw[if_neg (by simpa using EX)];obtain⟨w,rfl⟩:=aac WK;have hw:w<a.ws.length:=by lia
  calc⟨F,d,_,a,r,ad,w,rfl,O,v,sC,hw,λo H3 U l g=>?_⟩;calc⟨_,.inl (aS.of g),rfl,by simp[fO],?_⟩;calc iN ?_;by_cases J:xT (.int pk) ((r.oC w).map λk=>V.int (k:Nat))=true
  ·rw[J,if_neg ∅];obtain⟨k,Bd,rfl⟩:=Jg.mp J;have uo:=(oH v hw).mp Bd;calc L2.bA Yg ?_;calc L2.bA L ?_;clear L Yg y;calc L2.b4 λg h2=>?_;calc L2.gC λg l QV Kc=>?_;left;calc⟨bP,λR E8=>?_⟩;have s4:=aq.new (.tup [.int ((w:Nat):Int),.int ((k:Nat):Int)]) E8;have ep1:upd H3 R (.tup [.int ((w:Nat):Int),.int ((k:Nat):Int)]) R=some (.tup [.int ((w:Nat):Int),.int ((k:Nat):Int)]):=af;generalize Q4:upd H3 R (.tup [.int ((w:Nat):Int),.int ((k:Nat):Int)])=G4 at *;have l:=U.trans s4;calc⟨F,d,_,a,r,ad,rfl,O.same l,v,sC,λg G L S M o x=>?_⟩;have B:=l.trans S;refine EC o x (S _ _ ep1) (λg=>?_) (λg=>?_)
   ·have l:=tf v g;calc iN ?_;rw[if_neg ∅];calc L2.bA Kc ?_;calc L2.bA h2 ?_;clear h2 QV Kc;left;calc⟨F,d,_,a,r,ad,w,k,rfl,O.same B,W.fr (Z:=λ_=>False) ((c u).trans B).fr (λ_ _ h=>h),v,l,sC,λt x o a _=>?_⟩;refine⟨⟨_,_,_,rfl,rfl,rfl⟩,(u.trans B.fr).trans o,?_,?_⟩
    ·rw[E4,j6,ZN];exact a
    ·rw[E4];exact vD m (by rw[ZN];calc l)
   ·refine iN ?_;rw[if_pos rfl];refine L2.bA QV ?_;left;refine⟨bP,λo l=>⟨bP,λp2 xB=>?_⟩⟩;have x:=aq.new (.tup [.str "first",.int ((i:Nat):Int)]) l;have a:=aq.new (.tup [.ref d,.ref o]) xB;have l:=B.trans (x.trans a);exact qi p2 _ _ ((c u).trans l) fd Y (O.same l) af (.inr (.inr ⟨w,k,qW,hw,uo,λo=>g (Ji v hpx o),(cJ (n:=0) af (.str _) (.int _)).aG a.aM⟩))
  ·rw[Bool.not_eq_true]at J;rw[J,if_pos ∅];exact y _ U λ⟨w',i,a,e2,_,h'⟩=>by
    obtain rfl:w=w':=by lia
    subst e2;rw[Jg.mpr ⟨i,(oH v hw).mpr h',rfl⟩]at J
    cases J
 ·intro σ H' qB;obtain⟨⟨z3,z4,z5,rfl⟩,I,N,m⟩:=qB;rw[Oe]at N m;left;calc⟨bP,λt a=>?_⟩;have U:=aq.new (.tup [.ref d,.bx]) a;calc q s.length d ad t .bx _ (K' _) m ((c I).trans U) fd Y (N.same U) af (.inl ⟨rfl,rfl⟩)
abbrev j8:Stmt:=top 65
inductive Jk(C CN CR:Addr)(vs:List V)(H:Hp)(Q:VK):Prop
 |mk (F:Addr->Prop) (bD l:Addr) (nt:NT) (ls:List (Int×Int)) (ms:List Addr) (wv lv ys:List V) (s:List (Int×Int)) (h0:vs=[.ref bD,.ref l]) (h2:sI C CN H bD nt) (h3:k8 CN H bD ms wv lv) (h4:eW H 1 lv (ls.map mI)) (h5:ls.length<=20) (h6:∀l∈ls,0<=l.1/\l.1<nt.ws.length) (hl:H l=some (.lst ys)) (hs:eW H 1 ys (s.map pairD)) (hn:s.length<=100) (hF:FS F H) (q:∀(n:Nat) t x y H',n<=s.length->l7 nt (RS.begin nt ls) (s.take n)->aq H H'->H' t=some (.tup [x,y])->Due nt (cY nt (RS.begin nt ls) (s.take n)) s n y H'->(y=.bx->∃xr ad,x=.ref xr/\H xr=none/\(∀b,FP nt.n ad b->H b=none)/\bY C CN CR F H' xr bD nt (cY nt (RS.begin nt ls) s) ad)->(y≠.bx->x=.bx)->Q (.ref t) H'):Jk C CN CR vs H Q
def CW(C CN CR:Addr):Sp:=λvs H Q _=>Jk C CN CR vs H Q
theorem xi(D:dj K mg "_law_played" "_law_played" j8 ["_law_net_here","_law_schedule_here"])(T:Tx K mg C CN CR F FD)(g:tZ K mg B c)(dC:DefX P w K mg base "played_run" 7 ["net","schedule"] (rg C CN CR c)):Def P w K mg base "_law_played" 8 ["_law_net_here","_law_schedule_here"] (CW C CN CR):=by
 have sc:aD ["_law_net_here","_law_schedule_here","_law_run","_law_word","e"] ["_law_net_here","_law_schedule_here"] (az j8):=by walk_at "s"
 symm;obtain⟨F,bD,l,nt,ls,ms,wv,lv,ys,s,rfl,Jd,Mu,Mv,ij,mj,hl,bC,vF,iL,q⟩:=h;have hu:=hr.units;refine⟨_,(ai (aW (i:=2) sc.nd rfl Sort fK)
  (ai (aW (i:=3) sc.nd rfl Sort fK)
  (ai (Lv (i:=4) rfl rfl sc.nd rfl rfl rfl g.mC (DS g.xb) (Lx (i:=2) sc.nd rfl Sort (Qe dC hr (ag (au 0) (ag (au 1) aa)))) (λa=>
  (ai (aW (i:=3) sc.nd rfl Sort (bb (ag aE (ag (jA gj aj) aa))))
  (ao (aR (PW.pt (pw_and (bN (bo (Az (K:=K) rfl) rfl T.bc xq (ag (au 4) (ag (bb (ag (lR (v:=.ref (c 4)) rfl g.mB rfl) (ag (lR (v:=.ref (c 5)) rfl g.jT rfl) aa))) aa)))) (pw_and1 (cG (bN (bo (pf (K:=K) rfl) rfl T.bc xq (ag (Hf (K:=K) rfl (au 4)) (ag (dF (v:=.ty "bool") rfl T.AH PyProof.Rows.boot_bool rfl) aa)))))))) (ao (aW (i:=3) sc.nd rfl Sort (bb (ag (dG (K:=K) rfl hu (bM (ag aE (ag aE aa))) (da uF rfl T.Ca PyProof.Rows.boot_int (ag (bo (DG (K:=K) rfl) rfl T.bc xq (ag (au 4) (ag (lR (v:=.ref (c 5)) rfl g.jT rfl) aa))) aa))) (ag (Hf (K:=K) rfl (au 4)) aa))))) aJ)))))
  (ao (aK (bb (ag (au 2) (ag (au 3) aa)))))))),?_⟩
 left;rename_i N1 h1;calc Lw λEE X=>?_;have J:∀(b i:Nat) (a o:Addr) (H2:Hp),(b=4\/b=5)->aq H H2->H2 a=some (XO a (c b) (some o) false)->H2 o=some (XD o [("at",.int ((i:Nat):Int))])->(∀t y H',aq H H'->H' t=some (.tup [.bx,y])->HT H' 1 y (.tup [.str (if b=4 then "none" else "first"),.int ((i:Nat):Int)])->Q (.ref t) H')->EE (.ref a) none H2:=λb i a o H2 u x p I qq=>by
  refine X a (c b) (some o) H2 p (g.cl b ()) ?_
  try dsimp only[List.set]
  left;refine⟨bP,λp1 E8=>?_⟩;have s3:=aq.new (.tup [.str "other",.int (-1)]) E8;generalize QX:upd H2 p1 (.tup [.str "other",.int (-1)])=G3 at *;left;refine⟨bP,λO xB=>?_⟩;have s4:=aq.new (.tup [.ref (c 4),.ref (c 5)]) xB;have Y:upd G3 O (.tup [.ref (c 4),.ref (c 5)]) O=some (.tup [.ref (c 4),.ref (c 5)]):=af;generalize Q4:upd G3 O (.tup [.ref (c 4),.ref (c 5)])=G4 at *;have S:=s3.trans s4;refine⟨a,c b,B,some o,O,[4,5].map c,true,false,rfl,S _ _ p,(λd z=>by cases z;exact⟨_,S _ _ I⟩),g.cl b (),Y,(qR g () _ ∅).trans (by congr 1;rcases u with rfl|rfl<;>rfl),?_⟩;refine iN ?_;rw[if_pos rfl];have JW:∀{G:Hp},aq H2 G->∀{R:VK},R (.int ((i:Nat):Int)) G->∀{σ:St},σ[4]?=some (some (V.ref a))->tXF K (tV 4) (Str.ofString "at") σ G R:=λ{G} sg R r σ Z=>by
   show tV 4 σ G _;unfold tV;rw[Z];exact⟨a,c b,B,o,_,.int ((i:Nat):Int),false,rfl,sg _ _ p,sg _ _ I,g.cl b (),by rcases u with rfl|rfl;calc g.cU;calc g.cV,rfl,r⟩
  refine JW S ?_ rfl;refine⟨_,false,.int _,rfl,?_⟩;rw[if_pos ∅];left;refine⟨bP,λp3 RE=>?_⟩;have s5:=aq.new (.lst [.str "none",.str "first"]) RE;have et5:upd G4 p3 (.lst [.str "none",.str "first"]) p3=some (.lst [.str "none",.str "first"]):=af;generalize SE:upd G4 p3 (.lst [.str "none",.str "first"])=G5 at *;have U:=S.trans s5;refine⟨a,c b,B,some o,.ref (c 5),decide (b=5),false,rfl,U _ _ p,(λd z=>by cases z;exact⟨_,U _ _ I⟩),g.cl b (),.inl rfl,wC g () ∅,?_⟩;refine .inr ⟨_,rfl,_,.str (if b=4 then "none" else "first"),.inl (aS.of et5),by rcases u with rfl|rfl;exact aA (j:=0) rfl;exact aA (j:=1) rfl,JW U ⟨bP,λW sC=>?_⟩ rfl⟩;have s6:=aq.new (.tup [.str (if b=4 then "none" else "first"),.int ((i:Nat):Int)]) sC;have ht6:HT (upd G5 W (.tup [.str (if b=4 then "none" else "first"),.int ((i:Nat):Int)])) 1 (.ref W) (.tup [.str (if b=4 then "none" else "first"),.int ((i:Nat):Int)]):=cJ (n:=0) af (.str _) (.int _);generalize Np:upd G5 W (.tup [.str (if b=4 then "none" else "first"),.int ((i:Nat):Int)])=G6 at *;refine L2.bA h1 ?_;left;refine⟨bP,λp5 Mj=>?_⟩;have L:=aq.new (.tup [.bx,.ref W]) Mj;exact qq _ _ _ (x.trans (U.trans (s6.trans L))) af (ht6.aG L.aM)
 left;refine⟨F,bD,l,nt,ls,ms,wv,lv,ys,s,rfl,Jd,Mu,Mv,ij,mj,hl,bC,vF,iL,λM xr ad H2 x hxr fr hR=>?_,λi m k M e no a o H2 x p I=>?_,λi w k M e hw kQ hn a o H2 x p I=>?_⟩
 ·calc L2.bA h1 ?_;left;calc⟨bP,λp5 Mj=>?_⟩;have L:=aq.new (.tup [.ref xr,.bx]) Mj;exact q s.length _ _ _ _ (K' _) (by rw[List.take_length];calc M) (x.trans L) af (.inl ⟨rfl,rfl⟩) (λ_=>⟨xr,ad,rfl,hxr,fr,hR.same L⟩) (λh=>absurd rfl h)
 ·calc J 4 i a o H2 (.inl rfl) x p I λt y H' s' et N=>?_;exact q i _ _ _ _ (L' (List.getElem?_eq_some_iff.mp e).1) M s' et (.inr (.inl ⟨m,k,e,no,N⟩)) (λz=>by subst z;cases N) (λ_=>rfl)
 ·calc J 5 i a o H2 (.inr rfl) x p I λt y H' s' et N=>?_;calc q i _ _ _ _ (L' (List.getElem?_eq_some_iff.mp e).1) M s' et (.inr (.inr ⟨w,k,e,hw,kQ,hn,N⟩)) (λz=>by subst z;cases N) (λ_=>rfl)
theorem oI{K:W.Frag}{H:Hp}{n:Nat}{x:V}{d:DV}(h:HD H n x d):∀{m:Nat}{y:V}{k:Nat},HD H m y d->tI d->n<k->kn K H k x y:=by
 induction h with
 |bx=>intro m y k h _ q;cases h;obtain⟨j,rfl⟩:∃j,k=j+1:=⟨k-1,()⟩;calc .inl ⟨rfl,rfl⟩
 |bl b=>intro m y k h c q;cases c
 |int i=>intro m y k h _ q;cases h;obtain⟨j,rfl⟩:∃j,k=j+1:=⟨k-1,()⟩;calc .inl ⟨rfl,rfl⟩
 |str i=>intro m y k h _ q;cases h;obtain⟨j,rfl⟩:∃j,k=j+1:=⟨k-1,()⟩;calc .inl ⟨rfl,rfl⟩
 | @tup n a t g e l i w=>
  intro m y k h c q;obtain⟨j,rfl⟩:∃j,k=j+1:=⟨k-1,()⟩
  cases c with
  |tup c=>
  cases h with
  | @tup m b ys _ z B C=>
   calc .inr ⟨a,b,t,ys,rfl,rfl,.inl ⟨bH.of e,bH.of z⟩,l.trans B.symm,λp u v r F=>?_⟩;have o:p<g.length:=by rw[<-l];exact(List.getElem?_eq_some_iff.mp r).1
   calc w p u g[p] r (cP o) (C p v g[p] F (cP o)) (c _ (W' o)) ()
 | @lst n a t g e l i w=>
  intro m y k h c q;obtain⟨j,rfl⟩:∃j,k=j+1:=⟨k-1,()⟩
  cases c with
  |lst c=>
  cases h with
  | @lst m b ys _ z B C=>
   calc .inr ⟨a,b,t,ys,rfl,rfl,.inr ⟨aS.of e,aS.of z⟩,l.trans B.symm,λp u v r F=>?_⟩;have o:p<g.length:=by rw[<-l];exact(List.getElem?_eq_some_iff.mp r).1
   calc w p u g[p] r (cP o) (C p v g[p] F (cP o)) (c _ (W' o)) ()
 |dict e=>intro m y k h c q;cases c
theorem pV{α:Type}{l:List α}{f:α->Int×Int}:tI (.lst (l.map λx=>pairD (f x))):=.lst λe a=>by
 obtain⟨z,_,rfl⟩:=List.mem_map.mp a;calc tw _
structure My(C CN CR:Addr)(F1 F2:Addr->Prop)(H:Hp)(x bD d:Addr)(tn:V)(nt:NT)(r:RS)(E9 oJ:Nat->Nat->Addr):Prop where
 run:bY C CN CR F1 H x bD nt r E9
 twin:cp F2 H d tn nt r oJ
 ok:r.Ok nt
 few:r.picks.length<=400
theorem My.same{C CN CR:Addr}{a b:Addr->Prop}{x d:Addr}{c:V}{nt:NT}{e f:Nat->Nat->Addr}(h:My C CN CR a b H x bD d c nt r e f)(s:aq H H'):My C CN CR a b H' x bD d c nt r e f:=⟨h.run.same s,h.twin.same s,h.ok,h.few⟩
theorem cp.words{F:Addr->Prop}{d:Addr}{f:V}{nt:NT}(h:cp F H d f nt r ad)(e:r.Ok nt){m:Nat}(c:m<nt.ms.length):∃b lw,H (ad 2 m)=some (.lst b)/\iQ b (-1)=some (.ref lw)/\H lw=some (.lst (((r.mm m).wp.bz []).map V.int)):=by
 obtain⟨b,g,f⟩:=h.cu.lst (t:=2) (i:=m) c rfl;have j:b.length=(r.mm m).wp.length:=by simpa using f.1
 have h:=e.wD c;have h:=e.lw m c;obtain⟨v,k,l⟩:=f.get (i:=(r.mm m).wp.length-1) (d:=.lst (((r.mm m).wp.bz []).map .int)) (by rw[List.getElem?_map,jH (d:=[]) ()];rfl);obtain⟨a,rfl,c⟩:=q0 (l.cv eF);calc⟨b,a,g,iT () (by rw[j];calc k),c⟩
abbrev j9:Stmt:=top 66
inductive Jl(C CN CR:Addr)(vs:List V)(H:Hp)(Q:VK):Prop
 |mk (F1 F2:Addr->Prop) (x bD d:Addr) (tn:V) (nt:NT) (r:RS) (E9 oJ:Nat->Nat->Addr) (h0:vs=[.ref x,.ref d]) (h1:My C CN CR F1 F2 H x bD d tn nt r E9 oJ) (h4:∀H',aq H H'->Q (.bl true) H'):Jl C CN CR vs H Q
def CY(C CN CR:Addr):Sp:=λvs H Q _=>Jl C CN CR vs H Q
theorem xj(D:dj K mg "_law_stands" "_law_stands" j9 ["_law_run","_law_twin"])(T:Tx K mg C CN CR F FD)(dB:Def P w K mg base "_law_lying" 1 ["_law_run","_law_way"] w6)(lC:fS P w K mg base CR "lying" 4 ["self","way"] (NH C CN CR c))(iB:eP P w K mg base CR "schedule" 1 ["self"] (Ir C CN CR))(fC:eP P w K mg base CR "state" 4 ["self","m"] (Ip C CN CR))(lD:eP P w K mg base CR "words" 4 ["self","m"] (Iq C CN CR)):Def P w K mg base "_law_stands" 5 ["_law_run","_law_twin"] (CY C CN CR):=by
 have sc:aD ["_law_run","_law_twin","_law_m","_law_way","_law_due_here"] ["_law_run","_law_twin"] (az j9):=by walk_at "s"
 symm;obtain⟨b,F2,x,bD,d,tn,g,r,U,Y,rfl,a,q⟩:=h;have b:=hr.units;refine⟨_,(ai (aR (PW.pt (pw_or (cG (bN (bo (yy (K:=K) rfl) rfl T.bc xq (ag (au 0) (ag (lR (v:=.ref CR) rfl T.Nk rfl) aa))))) (pw_or1 (aC (dH b) (gP iB T.aV hr (au 0)) (ak b (au 1) aE) (aH _))))) (ao (aK jx)) aJ)
  (ai (eZ PassesOwn.never rfl (du rfl T.eX (ag (bo aQ rfl T.b8 T' (ag (ak b (ak b (au 1) aE) aj) aa)) aa)) (aX (i:=2) sc.nd rfl Sort)
  (ao (aR (PW.pt (pw_or (aC (dH b) (ko fC T.aV hr (au 0) (ag (au 2) aa)) (ak b (ak b (ak b (au 1) aE) (au 2)) (jA gj aj)) (aH _)) (pw_or1 (aC (dH b) (ko lD T.aV hr (au 0) (ag (au 2) aa)) (ak b (ak b (ak b (au 1) aE) (au 2)) (jA gj aj)) (aH _))))) (ao (aK jx)) aJ)))
  (ai (eZ PassesOwn.never rfl (du rfl T.eX (ag (bo aQ rfl T.b8 T' (ag (ak b (au 1) aE) aa)) aa)) (aX (i:=3) sc.nd rfl Sort)
  (ai (gF (i:=4) sc.nd rfl Sort (N':=["_law_number","_law_way","_law_twin"]) (ix:=[none,some 3,some 1]) (cA (aL dB hr (ag (au 1) (ag (au 3) aa)))) (λ_ _ _ _=>(aX (i:=0) (show(["_law_number","_law_way","_law_twin"]:List Str).Nodup by decide +kernel) rfl Sort)) pw (λ_ _ _ _=>(bb (ag (au 0) (ag (dG (K:=K) rfl b (dG (K:=K) rfl b (dG (K:=K) rfl b (au 2) aE) (au 1)) (au 0)) aa)))))
  (ao (aR (aC (dH b) (jW lC yE T.aV hr (au 0) (ag (au 3) aa)) (au 4) (aH _)) (ao (aK jx)) aJ))))
  (ao (aK jx))))),?_⟩
 nofun;obtain⟨Z,o,X,b⟩:=a.run.ins;obtain⟨b,O,nF,nP,ma⟩:=a.twin.dk;obtain⟨ls,tt,am,aw,al,mv,wv,lv,rfl,b,h2,h3,h4,h5,h6,h7⟩:=a.twin.told;ac_rfl;have g1:=(cK b (λk z=>by cases z)).2;have g2:=(cK h2 (λk z=>by cases z)).2;have b:mv.length=g.ms.length:=h5.1;have l1:=(ma 1 ∅ ∅).1;have l2:=(ma 2 ∅ ∅).1;have l4:=(ma 4 ∅ ∅).1;have b:(kr g.n Y 4).length=g.ws.length:=sD;have b:=a.twin.ok.Zc;have b:=a.twin.ok.AE;have oZ:=a.few;calc L2.b4 λb n1=>?_;left;calc⟨_,CR,_,true,rfl,.ins X T.aV T.DW T.rZ T.kM T.DX,by unfold W.kitOne;rw[if_pos nofun],?_⟩;calc iN ?_;rw[if_neg ∅];calc⟨x,Z,_,rfl,X,gJ ⋯,?_⟩;calc⟨_,x,bD,g,r,U,rfl,a.run,λl vs hl hvs=>?_⟩;have y:=aq.new (.lst vs) hl;have el:upd H l (.lst vs) l=some (.lst vs):=af;have ad3:=hvs.cv y.cv;generalize hG0:upd H l (.lst vs)=H0 at *;obtain⟨T,e0,b⟩:=(a.twin.same y).cu.lst (t:=0) (i:=0) (by show 0<1;decide) rfl;calc⟨_,RB (y _ _ O),?_⟩;calc .inl ⟨oI (gb el ad3) (gb e0 (b.cv eF)) (pV (f:=id)) ∅,?_⟩;calc iN ?_;rw[if_neg ∅];calc L2.bA (by assumption) ?_;calc L2.bA n1 ?_;clear n1;calc L2.b4 λN2 n2=>?_;left;refine⟨_,Bc (y _ _ O),cN (y _ _ g1) (aA (j:=0) rfl) ⟨_,.inl ⟨_,aS.of (y _ _ g2),rfl⟩,⟨_,rfl,(),(),jz (n:=mv.length) (λi σ H'=>(∃B G I,σ=[some (V.ref x),some (V.ref d),B,G,I])/\aq H H') ?_ ?_ ?_⟩⟩⟩
 ·exact⟨⟨_,_,_,rfl⟩,y⟩
 ·intro i σ H1 hi iY;obtain⟨⟨B,G,I,rfl⟩,p⟩:=iY;clear n2;rw[Int.zero_add];have L:i < g.ms.length:=by lia
  have M:=a.same p;have b:=a.ok.wD L;nofun;obtain⟨T,e1,y⟩:=M.twin.cu.lst (t:=1) (i:=i) L rfl;have z1:T.length=(r.mm i).gH.length:=by simpa using y.1
  obtain⟨v,T,dv⟩:=y.get (i:=(r.mm i).gH.length-1) (d:=qz ((r.mm i).gH.bz ([],[]))) (by rw[List.getElem?_map,jH (d:=([],[])) b];rfl);ac_rfl;left;calc⟨x,Z,_,rfl,p _ _ X,gJ ⋯,?_⟩;calc⟨_,x,bD,g,r,U,i,rfl,M.run,a.ok,L,λy L5=>?_⟩;calc⟨_,Me (p _ _ O),?_⟩;calc bF (p _ _ l1) (aZ L) ?_;calc bF e1 (iT () (by rw[z1];calc T)) ?_;have hv:=Io (dv.cv eF);nofun;obtain⟨a1,_,_,_,rfl,_,_,_⟩:=cm (id L5);obtain⟨a2,_,_,_,rfl,_,_,_⟩:=cm (id hv);ac_rfl;calc .inl ⟨wB L5 hv ∅,?_⟩;calc iN ?_;rw[if_neg ∅];calc⟨x,Z,_,rfl,p _ _ X,gJ ⋯,?_⟩;calc⟨_,x,bD,g,r,U,i,rfl,M.run,L,λlw b=>?_⟩;have qC:=aq.new (.lst (((r.mm i).wp.bz []).map V.int)) b;have elw:upd H1 lw (.lst (((r.mm i).wp.bz []).map V.int)) lw=some (.lst (((r.mm i).wp.bz []).map V.int)):=af;nofun;generalize AQ:upd H1 lw (.lst (((r.mm i).wp.bz []).map V.int))=H2 at *;have u:=p.trans qC;obtain⟨v2,M,T,b,y⟩:=(a.same u).twin.words a.ok L;ac_rfl;calc⟨_,RA (u _ _ O),?_⟩;calc bF (u _ _ l2) (aZ L) ?_;calc bF T b ?_;calc .inl ⟨oI (gb elw (dP.ints (n:=1) _)) (gb y (dP.ints (n:=1) _)) lA ∅,?_⟩;calc iN ?_;rw[if_neg ∅];left;exact⟨⟨_,_,_,rfl,rfl,rfl⟩,u⟩
 intro σ H1 iZ;obtain⟨⟨B,G,I,rfl⟩,p⟩:=iZ;show N2 _ _;calc L2.bA n2 ?_;clear n2;calc L2.b4 λN3 n3=>?_;left;refine⟨_,En (p _ _ O),⟨_,.inl ⟨_,aS.of (p _ _ l4),rfl⟩,⟨_,rfl,(),(),jz (n:=(kr g.n Y 4).length) (λi σ H'=>(∃B G I,σ=[some (V.ref x),some (V.ref d),B,G,I])/\aq H H') ?_ ?_ ?_⟩⟩⟩
 ·exact⟨⟨_,_,_,rfl⟩,p⟩
 ·intro i σ H2 hi qB;obtain⟨⟨B,G,I,rfl⟩,u⟩:=qB;clear n3;rw[Int.zero_add];have R:i < g.ws.length:=by lia
  left
  skip
  left;calc⟨_,d,_,g,r,Y,i,rfl,(a.same u).twin,a.ok,oZ,R,λlq H3 b p Tp=>?_⟩;have NB:=u.trans b;have p:=a.ok.bs i R;have b:=qZ (r:=r) (w:=i);nofun;obtain⟨b,e4,d4⟩:=(a.same NB).twin.cu.lst (t:=4) (i:=i) R rfl;have z4':=d4.jU;subst z4';ac_rfl;calc .inl ⟨⟨_,aS.of Tp⟩,λD hD=>?_⟩;refine bE (J:=xN K lq) (n:=(r.oC i).length) (λj N H'=>aq H3 H'/\eW H' 1 N (((r.oC i).take j).map λk=>pairD (((k:Nat):Int),(r.ww i).say.getD k 0))) (L' (small ())) ⟨aq.new _ hD,show eW _ 1 [] [] from eW.nil⟩ ?_ ?_ ?_ ?_
  ·rintro j N H' S ⟨m,_⟩;exact⟨_,_,aS.of (m _ _ Tp),by rw[List.getElem?_map,cP S];rfl⟩
  ·rintro N H' ⟨m,_⟩;exact⟨_,aS.of (m _ _ Tp),nofun⟩
  ·intro j N H' S om kQ yK b H4 yL;nofun;obtain⟨m,Mh⟩:=yK;obtain⟨rfl,b⟩:=yL;have ex:=b _ (aS.of (m _ _ Tp));rw[List.getElem?_map,cP S] at ex
   cases ex;ac_rfl;have b:=(oH a.ok R).mp (W' S);have p:(r.oC i)[j]<(r.ww i).say.length:=by
    have:=a.ok.lk i R;have h2:=(List.getElem?_eq_some_iff.mp b).1;lia
   have b:=NB.trans m;calc⟨Ext.set (Ext.refl _) rfl,?_⟩;left
   try rw[if_pos trivial]
   calc⟨_,En (b _ _ O),?_⟩;calc bF (b _ _ l4) (aZ R) ?_;calc bF (m _ _ e4) (aA (j:=(r.oC i)[j]) (v:=.int ((r.ww i).say.getD (r.oC i)[j] 0)) (by rw[List.getElem?_map,bq (d:=0) p];rfl)) ?_;calc⟨bP,λb v=>?_⟩;have s6:=aq.new (.tup [.int (((r.oC i)[j]:Nat):Int),.int ((r.ww i).say.getD (r.oC i)[j] 0)]) v;have IF:=s6 _ _ om;calc cy IF kQ S (L' (small ())) ⟨λc o e=>by rw[ay (av e hD)];calc s6 _ _ (m _ _ e),?_⟩;have tu:cq (upd H4 b (.tup [.int (((r.oC i)[j]:Nat):Int),.int ((r.ww i).say.getD (r.oC i)[j] 0)])) (upd (upd H4 b (.tup [.int (((r.oC i)[j]:Nat):Int),.int ((r.ww i).say.getD (r.oC i)[j] 0)])) D (.lst (N++[.ref b]))):=(cq.refl _).upd λN e=>by rw[IF]at e;cases e
   rw[List.take_succ,cP S,List.map_append];exact((Mh.aG s6.aM).snoc (cJ (n:=0) af (.int _) (.int _))).aG tu
  rintro N H4 om kQ ⟨b,xC⟩;rw[List.take_length]at xC;have CV:=NB.trans b;left;calc⟨x,Z,_,rfl,CV _ _ X,gJ ⋯,?_⟩;calc⟨_,x,bD,g,r,U,((i:Nat):Int),rfl,a.run.same CV,a.ok,oZ,λm0 e0 _ l ys j m hl hl5 bC=>?_,λno=>absurd ⟨(),()⟩ no⟩;obtain rfl:i=m0:=by lia
  have a:=m _ _ om;have Mh:=xC.aG m.aM;calc .inl ⟨oI (gb hl5 (bC.cv eF)) (gb a Mh.xA) (pV (f:=λk:Nat=>(((k:Nat):Int),(r.ww i).say.getD k 0))) ∅,?_⟩;calc iN ?_;rw[if_neg ∅];left;exact⟨⟨_,_,_,rfl,rfl,rfl⟩,CV.trans m⟩
 ·intro σ H2 AO;obtain⟨⟨B,G,I,rfl⟩,u⟩:=AO;show N3 _ _;calc L2.bA n3 ?_;left;calc q _ u
theorem Jm{H:Hp}:∀{mv:List V},(∀v∈mv,∃d:MD,d.good/\fZ H v d.M d.ns d.row d.ds)->∃eY,wZ H mv eY/\∀d∈eY,d.good
 | [],_=>⟨[],wZ.nil,λd h=>by simp at h⟩
 |v::r,h=>by
  obtain⟨eY,f,j⟩:=Jm (mv:=r) (λw k=>h w (aaf _ k));obtain⟨d,g,t⟩:=h v (aas ..);refine⟨d::eY,⟨by simp[f.1],λi w e a b=>?_⟩,λe c=>?_⟩
  ·cases i with
   |zero=>simp at a b;subst a b;calc t
   |succ i=>exact f.2 i w e (by simpa using a) (by simpa using b)
  ·rcases List.mem_cons.mp c with rfl | c
   ·exact g
   ·calc j e c
theorem Mz(h:wZ H mv eY)(g:∀d∈eY,d.good):∀v∈mv,∃d:MD,d.good/\fZ H v d.M d.ns d.row d.ds:=λv c=>by
 obtain⟨i,a,rfl⟩:=List.getElem_of_mem c;have b:i<eY.length:=by rw[<-h.1];exact a
 calc⟨eY[i],g _ (W' b),h.2 i _ _ (cP a) (cP b)⟩
def TG(H:Hp)(v:V):Prop:=∃eY ws ls,ToldN H v eY ws ls/\vz eY ws ls
theorem TG.ms{t b c d:Addr}{a:List V}(e:H t=some (.tup [.ref b,.ref c,.ref d]))(l:H b=some (.lst a))(m:H c=some (.lst wv))(n:H d=some (.lst lv))(o:a.length=mv.length)(p:∀v∈a,v∈mv)(h:wZ H mv eY)(f:eW H 1 wv (ws.map kR))(q:eW H 1 lv (ls.map mI))(g:vz eY ws ls):TG H (.ref t):=by
 obtain⟨j,k,r⟩:=Jm (H:=H) (mv:=a) (λv s=>Mz h g.mg v (p v s));have i:j.length=eY.length:=by rw[<-k.1,o,h.1]
 calc⟨j,ws,ls,⟨t,b,c,d,a,wv,lv,rfl,e,l,m,n,k,f,q⟩,⟨by rw[i];calc g.m1,by rw[i];calc g.m5,g.EJ,g.l20,r,λw f=>by rw[i];calc g.wo w f,g.lo⟩⟩
theorem Yk{xs:List V}(h:1<=xs.length):∃v,bR xs none (some 1)=[v]/\v∈xs:=by
 cases xs with
 |nil=>simp at h
 |cons a r=>calc⟨a,by rw[IE];rfl,nofun⟩
theorem RX{xs:List V}{k:Nat}:bR xs none (some (k:Int))=xs.take k:=by
 unfold bR;rw[HT.FQ,HT.vU,List.drop_zero,Nat.sub_zero,List.take_eq_take_iff];lia
theorem CZ{g:Bool->Bool}:Sf g .bx .bx H Q=Q (.bl (g true)) H:=by
 show Q (.bl (g (decide (V.bx=.bx)))) H=_;simp
theorem bY.Yl{C CN CR:Addr}{F j:Addr->Prop}{x:Addr}{nt:NT}(h:bY C CN CR F H x bD nt r ad)(s:aq H H')(g:∀b,j b->F b\/H b=none):bY C CN CR j H' x bD nt r ad:=by
 obtain⟨⟨j,o,n,c⟩,d,p⟩:=h;refine⟨⟨j,o,s _ _ n,λt a b=>⟨s _ _ (c t a b).1,λz=>?_,(c t a b).2.2⟩⟩,⟨d.inj,λt i f z=>?_,λt i f=>?_⟩,p.fr (Z:=λ_=>False) s.fr⟩
 ·rcases g _ z with z | z
  ·exact(c t a b).2.1 z
  ·rw[(c t a b).1]at z;cases z
 ·obtain⟨k,e,_⟩:=d.JX t i f;rcases g _ z with z | z
  ·exact d.out t i f z
  ·rw[e]at z;cases z
 ·obtain⟨k,e,c⟩:=d.JX t i f;calc⟨k,s _ _ e,c.cv λb u h n=>?_⟩;obtain⟨l,m⟩:=cK h n;rw[gn (λz=>z.elim (λz=>(g b z).elim (λq=>l (.inl q)) (λq=>by rw[m]at q;cases q)) (λq=>l (.inr q)))];calc s _ _ m
theorem oK{nt:NT}{w k:Nat}(h:r.xE nt w k):Lies nt r w k:=⟨w,k,rfl,rfl,h.lt,h.lies⟩
theorem Bj{nt:NT}{n b:Nat}(l:b<=s.length)(i:l7 nt r (s.take b))(j:Due nt (cY nt r (s.take n)) s n y H):b<=n:=Classical.byContradiction λz=>by
 have l:n<b:=by lia
 have a:∀p,s[n]?=some p->∃w k:Nat,p=((w:Int),(k:Int))/\(cY nt r (s.take n)).xE nt w k:=λp e=>by
  have:=i n p (by rw[List.getElem?_take,if_pos l];calc e);rwa [List.take_take,Nat.min_eq_left ()]at this
 rcases j with⟨e,_⟩|⟨m,k,e,d,_⟩|⟨w,k,e,_,_,d,_⟩
 ·lia
 ·obtain⟨g,h,c,f⟩:=a _ e
  cases c;exact d (oK f)
 ·obtain⟨g,h,c,f⟩:=a _ e;have o:w=g:=by have:=congrArg Prod.fst c;simp at this;lia
  have q:k=h:=by have:=congrArg Prod.snd c;simp at this;lia
  subst o q;calc d f
theorem Jn{nt:NT}{n:Nat}{d:V}(h:Due nt r s n y H)(h':Due nt r s n d H'):(y=.bx/\d=.bx/\n=s.length)\/∃w:Str,HT H 1 y (.tup [.str w,.int (n:Nat)])/\HT H' 1 d (.tup [.str w,.int (n:Nat)])/\n<s.length:=by
 have b:∀{p:Int×Int},s[n]?=some p->n<s.length:=λe=>(List.getElem?_eq_some_iff.mp e).1;rcases h with⟨e,rfl⟩|⟨m,k,e,i,f⟩|⟨w,k,e,l,o,i,f⟩<;>rcases h' with⟨a,rfl⟩|⟨d,j,a,c,g⟩|⟨q,j,a,t,u,c,g⟩
 ·exact .inl ⟨rfl,rfl,e⟩
 ·have:=b a;lia
 ·have:=b a;lia
 ·have:=b e;lia
 ·exact .inr ⟨_,f,g,b e⟩
 ·rw[e]at a;cases a;exact absurd ⟨q,j,rfl,rfl,t,u⟩ i
 ·have:=b e;lia
 ·rw[e]at a;cases a;exact absurd ⟨w,k,rfl,rfl,l,o⟩ c
 ·calc .inr ⟨_,f,g,b e⟩
abbrev vI:Stmt:=top 67
def xk(K:W.Frag):Sp:=λvs H Q _=>∃(a:Addr) (ns:List Int),vs=[.ref a]/\aS K H a (ns.map V.int)/\ns.length<=63/\∀H',Q (.bl true) H'
theorem RY{f:Addr}{fd:FuncData}(D:EI K "law" "law" vI f fd)(T:Tx K mg C CN CR F FD)(TX:tZ K mg B c)(jk:Def P w K mg base "_law_altered" 1 ["_law_schedule_here","_law_cell","_law_ways"] CQ)(fc:Def P w K mg base "_law_at" 1 ["_law_script","_law_k"] (HC K))(lY:Def P w K mg base "_law_due" 4 ["_law_told","_law_schedule_here"] CU)(d7:Def P w K mg base "_law_free" 2 ["_law_run"] xa)(pW:Def P w K mg base "_law_net" 5 ["_law_script"] (CK K))(iC:Def P w K mg base "_law_net_made" 9 ["_law_net_here"] (vB C CN))(d9:Def P w K mg base "_law_pick" 3 ["_law_run","_law_way","_law_number"] q8)(kb:Def P w K mg base "_law_played" 8 ["_law_net_here","_law_schedule_here"] (CW C CN CR))(iD:Def P w K mg base "_law_schedule" 4 ["_law_told","_law_cells"] CP)(ee:Def P w K mg base "_law_stands" 5 ["_law_run","_law_twin"] (CY C CN CR))(dC:DefX P w K mg base "played_run" 7 ["net","schedule"] (rg C CN CR c))(mZ:fS P w K mg base CR "pick" 7 ["self","way","number"] (Iz C CN CR c)):iM P w K mg base uV 10 f fd ["_law_script"] (xk K):=by
 have sc:aD ["_law_script","_law_told","_law_net_here","_law_schedule_here","_law_handed","_law_run","_law_word","_law_twin","_law_due_here","_law_free_here","_law_way","_law_number","_law_third"] ["_law_script"] (az vI):=by walk_at "s"
 refine D.ok sc (λvs H Q E h=>?_) (λdD A outer s H vs Q E hr h=>?_)
 ·obtain⟨a,ns,rfl,hS,Zy,q⟩:=h;rfl
 ·obtain⟨a,ns,rfl,hS,Zy,q⟩:=h;have N:=hr.units;refine⟨_,(ai (aW (i:=1) sc.nd rfl Sort (aL pW hr (ag (au 0) aa)))
   (ai (aR (aC (aY N) (aT cR (aT gG (aL fc hr (ag (au 0) (ag aj aa))) aj) aj) aj (aH _)) (ao (aW (i:=1) sc.nd rfl Sort (bb (ag (aT yw (gN (ak N (au 1) aj) fe (eL aj)) (bo aQ rfl T.b8 T' (ag (ak N (au 1) aj) aa))) (ag (ak N (au 1) aj) (ag (ak N (au 1) aj) aa)))))) aJ)
   (ai (aW (i:=2) sc.nd rfl Sort (aL iC hr (ag (au 1) aa)))
   (ai (aW (i:=3) sc.nd rfl Sort (aL jk hr (ag (aL iD hr (ag (au 1) (ag (Qp (au 0) (eL aj) (eL aj)) aa))) (ag (aL fc hr (ag (au 0) (ag aj aa))) (ag (bo aQ rfl T.b8 T' (ag (ak N (au 1) aj) aa)) aa)))))
   (ai (aW (i:=4) sc.nd rfl Sort (da bO rfl T.dI vK (ag (au 3) aa)))
   (ai (eQ (aL kb hr (ag (au 2) (ag (au 4) aa))) (fm (i:=5) (j:=6) rfl sc.nd rfl rfl Sort Sort))
   (ai (eQ (aL lY hr (ag (au 1) (ag (au 3) aa))) (fm (i:=7) (j:=8) rfl sc.nd rfl rfl Sort Sort))
   (ai (aR (PW.pt (pw_or (aC (dH N) (au 6) (au 8) (aH _)) (pw_or (aC (dH N) (au 4) (au 3) (aH _)) (pw_or1 (aC (dH N) (jO rF (au 5) fK (aH _)) (jO pb (au 8) fK (aH _)) (aH _)))))) (ao (aK jx)) aJ)
   (ai (bS (FX nz PySem.F.slot_list_clear PySem.F.type_list_clear K6 (au 4)))
   (ai (aR (aC rF (au 5) fK (aH _)) (ao (aK (aL ee hr (ag (Ax dC yE hr (ag (au 2) (ag (gN (au 3) fe (eL (ak N (au 8) aj))) aa))) (ag (au 7) aa))))) aJ)
   (ai (aW (i:=9) sc.nd rfl Sort (aL d7 hr (ag (au 7) aa)))
   (ai (aR (PW.pt (pw_or (cG (bN (aL ee hr (ag (au 5) (ag (au 7) aa))))) (pw_or1 (cG (bN (aL ee hr (ag (Ax dC yE hr (ag (au 2) (ag (da bO rfl T.dI vK (ag (au 3) aa)) aa))) (ag (au 7) aa)))))))) (ao (aK jx)) aJ)
   (ai (aR (aC (dH N) (au 9) (bM aa) (aH _)) (ai (eQ (ak N (au 9) (jA gj aj)) (fm (i:=10) (j:=11) rfl sc.nd rfl rfl Sort Sort))
   (ao (aR (aC (dH N) (jW mZ yE T.aV hr (au 5) (ag (au 10) (ag (au 11) aa))) (aL d9 hr (ag (au 7) (ag (au 10) (ag (au 11) aa)))) (aH _)) (ao (aK jx)) aJ))) aJ)
   (ai (aW (i:=12) sc.nd rfl Sort (Ax dC yE hr (ag (au 2) (ag (au 3) aa))))
   (ao (aK (iV (aL ee hr (ag (au 5) (ag (au 7) aa))) (jM (aL ee hr (ag (au 12) (ag (ak N (aL lY hr (ag (au 1) (ag (au 3) aa))) aj) aa))))))))))))))))))))),?_⟩
  calc L2.b4 λN1 n1=>?_;left;calc ub a ns rfl hS Zy (λt am aw al mv wv lv eY ws ls H1 s1 h1 h2 h3 h4 h5 h6 h7 g=>?_);have hTG:TG H1 (.ref t):=⟨eY,ws,ls,⟨t,am,aw,al,mv,wv,lv,rfl,h1,h2,h3,h4,h5,h6,h7⟩,g⟩
  clear h1 h2 h3 h4 h5 h6 h7 g;generalize V.ref t=tv at *;calc L2.bA n1 ?_;clear n1;calc L2.b4 λN2 n2=>?_;have rest:∀(v:V) (H2:Hp),aq H H2->TG H2 v->N2 [some (V.ref a),some v,none,none,none,none,none,none,none,none,none,none,none] H2:=λv H2 s2 hv=>by
   calc L2.bA n2 ?_;clear n2;nofun;obtain⟨eY,ws,ls,EB,g⟩:=hv;obtain⟨r,Ym⟩:∃r:NT,r=⟨eY,ws⟩:=⟨_,rfl⟩
   ac_rfl;have Tz:∀l∈ls,0<=l.1/\l.1<r.ws.length:=λl hl=>by rw[Ym];exact⟨(g.lo l hl).1,(g.lo l hl).2.1⟩
   have vG:r.Ok:=by rw[Ym];exact g.nt
   have Bk:=g.l20;calc L2.b4 λN3 n3=>?_;left;calc⟨v,eY,ws,ls,rfl,EB,g,λn ms wv lv H3 s3 Jd Mu Mv=>?_⟩;rw[<-Ym]at Jd;have EB:ToldN H2 v r.ms r.ws ls:=by rw[Ym];exact EB
   clear g Ym;obtain⟨tt,am,aw,al,mv,wvx,lvx,rfl,k1,k2,k3,k4,k5,k6,k7⟩:=id EB;have jP:wvx.length=r.ws.length:=by simpa using k6.1
   have oj:=vG.AE;clear k2 k4 k5 k6 k7;calc L2.bA n3 ?_;clear n3;calc L2.b4 λN4 n4=>?_;left;have tL:aq H H3:=s2.trans s3;calc bI _ (tL.seq hS) (λlc hlc=>?_);obtain⟨xs,JZ⟩:∃xs:List Int,bR (ns.map V.int) (some 9) (some 49)=xs.map V.int:=⟨_,by unfold bR;rw[<-List.map_drop,<-List.map_take]⟩
   have QR:xs.length<=40:=by
    have:=Lr (xs:=ns.map V.int) (i:=9) (j:=49);rw[show(((9:Nat):Int))=9 from rfl,show(((49:Nat):Int))=49 from rfl,JZ,List.length_map]at this;exact this
   rw[JZ];have s4:=aq.new (.lst (xs.map V.int)) hlc;have elc:upd H3 lc (.lst (xs.map V.int)) lc=some (.lst (xs.map V.int)):=af;generalize Q4:upd H3 lc (.lst (xs.map V.int))=H4 at *;have CV:aq H2 H4:=s3.trans s4;have oU:∀{G:Hp} (F':Addr->Prop),aq H2 G->(∀b,F' b->H2 b=none)->ToldN (gY F' G) (.ref tt) r.ms r.ws ls:=λ{G} F' sg hF=>EB.cv λb o e n'=>by
    rw[gn (λz=>by rw[hF b z]at e;cases e)];exact sg _ _ e
   calc⟨λ_=>False,_,lc,r,ls,xs,rfl,oU _ CV (λ_ h=>h.elim),λb h=>h.elim,vG,Bk,Tz,elc,QR,λe1 ys1 t1 H5 s5 fe1 ee1 hy1 ad5 E8=>?_⟩;have vH:=CV.trans s5;calc VC a ns _ rfl ((s2.trans vH).seq hS) () (λc9=>?_);calc cN (vH _ _ k1) (aA (j:=1) rfl) ⟨_,.inl ⟨_,aS.of (vH _ _ k3),rfl⟩,?_⟩;calc⟨e1,c9,wvx.length,ys1,t1,rfl,ee1,hy1,ad5,λp hp=>(E8 p hp).1,(),λO J s H6 s6 fe2 ZS hy2 akZ E6=>?_⟩;calc L2.bA n4 ?_;clear n4 ee1 hy1 E8 fe1 elc hlc JZ;have s26:=vH.trans s6;calc L2.b4 λN5 n5=>?_;left;calc bI _ (.inl (aS.of ZS)) (λy Yn=>?_);have s7:=aq.new (.lst J) Yn;have RZ:upd H6 y (.lst J) y=some (.lst J):=af;have Jo:=s7 _ _ ZS;have R0:=hy2.aG s7.aM;have Yh:=s26.trans s7;have f3:H2 y=none:=s26.free Yn;have f33:H3 y=none:=(s4.trans (s5.trans s6)).free Yn;have n23:O≠y:=av ZS Yn;generalize SI:upd H6 y (.lst J)=H7 at *;clear SI ZS hy2 Yn;calc L2.bA n5 ?_;clear n5;calc L2.b4 λN6 n6=>?_;left;have TB:aq H3 H7:=s4.trans (s5.trans (s6.trans s7));calc⟨λb=>b=y,n,y,r,ls,ms,wv,lv,J,s,rfl,Jd.fr (Z:=λ_=>False) TB.fr,Mu.same TB,Mv.aG TB.aM,Bk,Tz,RZ,R0,(),λb I=>⟨.lst J,(by rw[show b=y from I];calc RZ),trivial⟩,λn0 t8 x8 y8 H8 hn0 Yo s8 et8 hd8 Yp ad7=>?_⟩;calc yC (bH.of et8) ?_;calc L2.bA n6 ?_;clear n6 et8;have s28:=Yh.trans s8;obtain⟨RF,TC,Yq⟩:∃RF:Addr->Prop,(∀b,RF b->H7 b=none/\∃o,H8 b=some o/\soft o)/\(y8=.bx->∃S L,x8=.ref S/\RF=FP r.n L/\bY C CN CR (λb=>b=y) H8 S n r (cY r (RS.begin r ls) s) L):=by
    by_cases z:y8=.bx
    ·obtain⟨S,L,e,_,fr,hR⟩:=Yp z;exact⟨FP r.n L,λb I=>⟨fr b I,hR.cu.fp I⟩,λ_=>⟨S,L,e,rfl,hR⟩⟩
    ·exact⟨λ_=>False,λb h=>h.elim,λh=>absurd h z⟩
   clear Yp;calc L2.b4 λN7 n7=>?_;left;calc⟨λb=>b=y\/RF b,_,O,r,ls,J,s,rfl,oU _ s28 (λb I=>I.elim (λh=>by rw[h];calc f3) (λh=>Yh.free (TC b h).1)),λb I=>I.elim (λh=>⟨.lst J,(by rw[h];calc s8 _ _ RZ),trivial⟩) (λh=>(TC b h).2),vG,Bk,Tz,s8 _ _ Jo,R0.aG s8.aM,(),E6,λU d M t9 y9 H9 ZD Og s9 fd ZT hT9 et9 hd9=>?_⟩;calc yC (bH.of et9) ?_;calc L2.bA n7 ?_;clear n7 et9;have hnn:U=n0:=Nat.le_antisymm (Bj ZD Og hd8) (Bj hn0 Yo hd9);subst hnn;have xA:=Jn hd8 hd9;clear hd8 hd9 hn0 Yo;calc L2.b4 λN8 n8=>?_;calc L2.gC λT1 U1 QV Kc=>?_;clear QV;left;have s29:=s28.trans s9;have ZU:=s8.trans s9;have ZV:=ZU _ _ RZ;have e29:=ZU _ _ Jo;have MA:=R0.aG ZU.aM;have Bl:kn K H9 20 (.ref y) (.ref O):=oI (gb ZV MA.xA) (gb e29 MA.xA) (pV (f:=id)) ∅;have Yr:Fr (λb=>b=y) H9 (upd H9 y (.lst [])):=Fr.refl.upd rfl ZV trivial;have sG:aq H3 (upd H9 y (.lst [])):=λb o e=>by rw[ay (av e f33)];exact(TB.trans ZU) _ _ e
   have e2G:upd H9 y (.lst []) O=some (.lst J):=by rw[ay n23];exact e29
   have hyG:=MA.aG Yr.aM;have Jp:cp (λb=>b=y\/RF b) (upd H9 y (.lst [])) d (.ref tt) r (cY r (RS.begin r ls) (s.take U)) M:=hT9.keep (Yr.mono λb h=>.inl h);have FSG:FS (λb=>b=y\/RF b) (upd H9 y (.lst [])):=λb I=>by
    by_cases z:b=y
    ·exact⟨.lst [],by rw[z];calc af,trivial⟩
    ·rcases I with I | I
     ·exact absurd I z
     ·obtain⟨o,e,R⟩:=(TC b I).2;exact⟨o,by rw[ay z];calc s9 _ _ e,R⟩
   have Ys:=ZV;generalize ZW:upd H9 y (.lst [])=G at *;have ak2:∀{s':List (Int×Int)},l7 r (RS.begin r ls) s'->∀(i:Nat) p,s'[i]?=some p->∃w k:Nat,p=((w:Int),(k:Int))/\(cY r (RS.begin r ls) (s'.take i)).xE r w k:=λh=>h;obtain⟨Bh,Ki⟩:=oE vG Bk;obtain⟨W,R1⟩:=rf vG Bh Ki _ _ rfl Og;rcases xA with⟨rfl,rfl,rfl⟩|⟨wd,hy8,hy9,kB⟩
   ·obtain⟨S,L,rfl,rfl,hR8⟩:=Yq rfl;rw[List.take_length] at hT9 Og;calc⟨rfl,?_⟩;calc iN ?_;rw[if_neg ∅];refine .inl ⟨Bl,?_⟩
    try rw[if_neg ∅]
    rw[rP,CZ];calc⟨rfl,?_⟩;calc iN ?_;rw[if_neg nofun];calc L2.bA Kc ?_;calc L2.bA n8 ?_;clear n8 Kc;rw[List.take_length]at Jp W R1;have hR9:bY C CN CR (λb=>b=y\/FP r.n M b) H9 S n r (cY r (RS.begin r ls) s) L:=hR8.Yl s9 (λb I=>I.elim .inl (λh=>.inr (ZT b h)));have hRG:=hR9.keep (Yr.mono λb h=>.inl h);clear hR8 hR9 hT9;have ak3:(cY r (RS.begin r ls) s).picks.length<=100:=by rw[R1];lia
    calc L2.b4 λN9 h9=>?_;left;calc⟨.inl ⟨rfl,_,aS.of Ys⟩,_,Ys,?_⟩;rw[ZW];calc L2.bA h9 ?_;clear h9;calc L2.b4 λN10 JU=>?_;calc L2.gC λT2 U2 zC Xu=>?_;clear zC;left;rename_i N11 n11;clear JU Xu;calc⟨_,d,_,r,_,M,rfl,Jp,W,(),λlf X zF oo Xh Es uX=>?_⟩;calc L2.bA n11 ?_;clear n11;have sX:=sG.trans oo;have R3:=oo _ _ e2G;have R4:=hyG.aG oo.aM;have Oh:=hRG.same oo;have Km:=Jp.same oo;have Yt:FS (λb=>b=y\/FP r.n L b) zF:=λb I=>let ⟨o,e,R⟩:=FSG b I;⟨o,oo _ _ e,R⟩
    have Jr:∀b,(b=y\/FP r.n L b)\/FP r.n M b->H3 b=none:=λb I=>by
     rcases I with(h|h)|h
     ·rw[h];exact f33
     ·exact TB.free (TC b h).1
     ·exact(TB.trans s8).free (ZT b h)
    have Oi:zF y=some (.lst []):=oo _ _ (by rw[<-ZW];calc af);clear Jp hRG FSG hyG e2G sG Yr Ys ZW EB oo ZV e29 MA Bl;calc L2.b4 λN12 n12=>?_;calc L2.gC λT3 U3 hT3 hU3=>?_;clear hT3;have plr:∀(Hh:Hp) (l:Addr) (ys:List V) (Fz:Addr->Prop) (Q':VK),aq H3 Hh->Hh l=some (.lst ys)->eW Hh 1 ys (s.map pairD)->FS Fz Hh->(∀x ad H',aq Hh H'->Hh x=none->(∀b,FP r.n ad b->Hh b=none)->bY C CN CR Fz H' x n r (cY r (RS.begin r ls) s) ad->Q' (.ref x) H')->rg C CN CR c [.ref n,.ref l] Hh Q' E0:=λHh l ys Fz Q' sh el hy hF k=>by
     refine⟨Fz,n,l,r,ls,ms,wv,lv,ys,s,rfl,Jd.fr (Z:=λ_=>False) sh.fr,Mu.same sh,Mv.aG sh.aM,Bk,Tz,el,hy,(),hF,λ_=>k,λi m k _ e Y=>?_,λi w k _ e _ _ Y=>?_⟩
     ·nofun;obtain⟨w,k',e',uD⟩:=Og i _ e
      cases e';ac_rfl;exact absurd (oK uD) Y
     ·nofun;obtain⟨w',k',e',uD⟩:=Og i _ e;have e1:w=w':=by have:=congrArg Prod.fst e';simp at this;lia
      have O:k=k':=by have:=congrArg Prod.snd e';simp at this;lia
      subst e1 O;ac_rfl;exact absurd uD Y
    left;calc⟨_,_,S,n,d,_,r,_,L,M,rfl,⟨Oh,Km,W,()⟩,λWB s11=>?_⟩;calc iN ?_;rw[if_neg ∅];calc⟨_,.inl (aS.of (s11 _ _ R3)),λl2 v8=>?_⟩;have qC:=aq.new (.lst J) v8;have vJ:=s11.trans qC;calc plr _ l2 J (λb=>(b=y\/FP r.n L b)\/FP r.n M b) _ (sX.trans vJ) af (R4.aG vJ.aM) (λb I=>I.elim (λh=>let ⟨o,e,R⟩:=Yt b h;⟨o,vJ _ _ e,R⟩) (λh=>(Km.same vJ).cu.fp h)) (λx2 b2 WI Yu _ _ SK=>?_);have Js:=vJ.trans Yu;calc⟨_,_,x2,n,d,_,r,_,b2,M,rfl,⟨SK,Km.same Js,W,()⟩,λTq Ib=>?_⟩;calc iN ?_;rw[if_neg ∅];calc L2.bA hU3 ?_;calc L2.bA n12 ?_;clear n12 hU3 SK;have sE:=Js.trans Ib;nofun
    replace sX:=sX.trans sE
    replace R3:=sE _ _ R3
    replace R4:=R4.aG sE.aM
    replace Oh:=Oh.same sE
    replace Km:=Km.same sE
    replace Yt:FS (λb=>b=y\/FP r.n L b) Tq:=λb I=>let ⟨o,e,R⟩:=Yt b I;⟨o,sE _ _ e,R⟩
    replace Oi:=sE _ _ Oi
    replace Es:=sE _ _ Es
    replace uX:=uX.aG sE.aM
    ac_rfl;clear sE Js Ib Yu vJ s11 qC;calc L2.b4 λN13 n13=>?_;have tail:∀(r':RS) (z1 z2:Option V) (H':Hp),aq H3 H'->H' O=some (.lst J)->eW H' 1 J (s.map pairD)->H' y=some (.lst [])->bY C CN CR (λb=>b=y\/FP r.n M b) H' S n r r' L->cp (λb=>b=y\/FP r.n L b) H' d (.ref tt) r r' M->r'.Ok r->r'.picks.length<=400->N13 [some (V.ref a),some (V.ref tt),some (V.ref n),some (V.ref O),some (V.ref y),some (V.ref S),some V.bx,some (V.ref d),some V.bx,some (V.ref lf),z1,z2,none] H':=λr' z1 z2 H' sh eh hyh e3h hR hT aU oZ=>by
     calc L2.bA n13 ?_;clear n13;left;have FSh:FS (λb=>(b=y\/FP r.n L b)\/FP r.n M b) H':=λb I=>by
      rcases I with(h|h)|h
      ·exact⟨.lst [],by rw[h];calc e3h,trivial⟩
      ·exact hR.cu.fp h
      ·exact hT.cu.fp h
     calc plr _ O J _ _ sh eh hyh FSh (λx3 a3 Xq Tw _ aei hR3=>?_);calc L2.bA (by assumption) ?_;left;calc⟨_,_,S,n,d,_,r,r',L,M,rfl,⟨hR.same Tw,hT.same Tw,aU,oZ⟩,λRH NX=>?_⟩;have tm:=Tw.trans NX;have aej:=sh.trans tm;calc⟨_,rfl,?_⟩;rw[if_pos rfl];calc⟨λb=>((b=y\/FP r.n L b)\/FP r.n M b)\/FP r.n a3 b,_,O,r,ls,J,s,rfl,oU _ (s3.trans aej) (λb I=>I.elim (λh=>s3.free (Jr b h)) (λh=>(s3.trans sh).free (aei b h))),λb I=>I.elim (λh=>let ⟨o,e,R⟩:=FSh b h;⟨o,tm _ _ e,R⟩) (λh=>(hR3.same NX).cu.fp h),vG,Bk,Tz,tm _ _ eh,hyh.aG tm.aM,(),E6,λn17 d5 a5 t5 y5 ZM aek ak8 s17 _ _ Ms ael aem=>?_⟩;have h17:n17=s.length:=Nat.le_antisymm aek (Bj (K' _) (by rw[List.take_length];calc Og) aem);subst h17;rw[List.take_length]at Ms;calc cN ael (aA (j:=0) rfl) ?_;exact⟨_,_,x3,n,d5,_,r,_,a3,a5,rfl,⟨hR3.same (NX.trans s17),Ms,W,()⟩,λH18 _=>q H18⟩
    clear n13;calc L2.gC λT4 U4 hT4 hU4=>?_;left;calc⟨aaa _,λp hp=>?_⟩;have sp:=aq.new (.lst []) hp;have Yd:upd Tq p (.lst []) p=some (.lst []):=af;nofun;generalize hGp:upd Tq p (.lst [])=Gp at *;clear hGp
    replace sX:=sX.trans sp
    replace R3:=sp _ _ R3
    replace R4:=R4.aG sp.aM
    replace Oh:=Oh.same sp
    replace Km:=Km.same sp
    replace Yt:FS (λb=>b=y\/FP r.n L b) Gp:=λb I=>let ⟨o,e,R⟩:=Yt b I;⟨o,sp _ _ e,R⟩
    replace Oi:=sp _ _ Oi
    replace Es:=sp _ _ Es
    replace uX:=uX.aG sp.aM
    ac_rfl;by_cases hy:X=[]
    ·subst hy;refine .inl ⟨.inr ⟨_,_,[],[],rfl,rfl,.inr ⟨aS.of Es,aS.of Yd⟩,rfl,λj u v N=>by simp at N⟩,?_⟩
     try rw[if_neg ∅]
     calc L2.bA hU4 ?_;exact tail _ _ _ _ sX R3 R4 Oi Oh Km W ()
    refine .inr ⟨⟨X,[],λh=>hy (List.length_eq_zero_iff.mp h),.inl ⟨aS.of Es,aS.of Yd⟩⟩,?_⟩
    try rw[if_pos trivial]
    calc L2.bA hT4 ?_;clear hT4 hU4;have Oe:0<X.length:=List.length_pos_iff.mpr hy;have hlen:X.length=(gK r (cY r (RS.begin r ls) s) r.ws.length).length:=by simpa using uX.1
    have Ye:X.length-1<(gK r (cY r (RS.begin r ls) s) r.ws.length).length:=by lia
    have hky:X.length-1<X.length:=by lia
    have hel:=uX.2 (X.length-1) X[X.length-1] _ (cP hky) (by rw[List.getElem?_map,cP Ye];rfl);have tS:=W' Ye;nofun;generalize (gK r (cY r (RS.begin r ls) s) r.ws.length)[X.length-1]=pr at *;obtain⟨wy,num⟩:=pr;have l8:=tf W tS;obtain⟨ta,u1,u2,kz,eta,vk,y1,y2⟩:=cm hel
    cases y1
    cases y2;have ne2:¬FP r.n L O:=λz=>by rw[(TC _ z).1]at Jo;cases Jo
    have aen:¬FP r.n M O:=λz=>by have:=s8 _ _ Jo;rw[ZT _ z]at this;cases this
    have ne3:¬FP r.n L y:=λz=>by rw[(TC _ z).1]at RZ;cases RZ
    have aeo:¬FP r.n M y:=λz=>by have:=s8 _ _ RZ;rw[ZT _ z]at this;cases this
    obtain⟨dxr,o,hxr,ho⟩:=Oh.ins;ac_rfl;calc L2.b4 λN14 n14=>?_;left;calc⟨_,_,.inl (aS.of Es),iT () (cP hky),?_⟩;rw[eta];calc⟨ta,_,rfl,bH.of vk,rfl,_,_,rfl,_,_,rfl,rfl,?_⟩;calc L2.bA n14 ?_;clear n14;calc L2.gC λT5 U5 hT5 hU5=>?_;clear hT5;left;calc⟨S,dxr,_,rfl,hxr,gJ ⋯,?_⟩;refine⟨_,S,n,r,_,L,((wy:Nat):Int),((num:Nat):Int),rfl,Oh,λb I=>I.elim (λh=>⟨.lst [],by rw[h];calc Oi,trivial⟩) (λh=>Km.cu.fp h),W,(),λw i e1 O hc t15 Xq TF Yv Yw=>?_,λY=>absurd (oK l8) Y,λw i e1 O _ _ Y=>absurd l8 (by
     nofun;obtain rfl:wy=w:=by lia
     obtain rfl:num=i:=by lia
     ac_rfl;calc Y)⟩
    nofun;obtain rfl:wy=w:=by lia
    obtain rfl:num=i:=by lia
    ac_rfl;have aep:=Km.keep (TF.mono λb h=>.inr h);calc⟨_,d,_,r,_,M,wy,num,rfl,aep,λb I=>I.elim (λh=>⟨.lst [],by rw[h];calc TF.at Oi ne3,trivial⟩) (λh=>Yv.cu.fp h),W,l8,(),λt16 RH TH aeq Yx=>?_⟩;nofun;obtain⟨c1,_,_,_,rfl,_,_,_⟩:=cm (id Yw);obtain⟨c2,_,_,_,rfl,_,_,_⟩:=cm (id Yx);ac_rfl;calc .inl ⟨wB (Yw.aG TH.aM) Yx ∅,?_⟩;calc iN ?_;rw[if_neg ∅];have Tv:=RS.Ok.pick vG W (k:=num) l8.lt;calc L2.bA hU5 ?_;exact tail _ _ _ _ (λb o e=>TH.at (TF.at (sX _ _ e) (λz=>by rw[Jr b (.inl (.inr z))]at e;cases e)) (λz=>by rw[Jr b (.inr z)]at e;cases e)) (TH.at (TF.at R3 ne2) aen) ((R4.aG TF.aM).aG TH.aM) (TH.at (TF.at Oi ne3) aeo) (Yv.keep (TH.mono λb h=>.inr h)) aeq Tv.1 (by rw[Tv.2,List.length_append];simp;lia)
   ·nofun;obtain rfl:=ad7 (by rintro rfl;cases hy8);obtain⟨ya,_,_,_,rfl,eya,_,_⟩:=cm (id hy8);obtain⟨yb,_,_,_,rfl,eyb,_,_⟩:=cm (id hy9);ac_rfl;calc .inl ⟨wB (hy8.aG s9.aM) hy9 ∅,?_⟩;calc iN ?_;rw[if_neg ∅];refine .inl ⟨Bl,?_⟩
    try rw[if_neg ∅]
    rw[CZ,rP];calc⟨rfl,?_⟩;calc iN ?_;rw[if_neg nofun];calc L2.bA Kc ?_;calc L2.bA n8 ?_;clear n8 Kc;calc L2.b4 λN9 h9=>?_;left;calc⟨.inl ⟨rfl,_,aS.of Ys⟩,_,Ys,?_⟩;rw[ZW];calc L2.bA h9 ?_;clear h9;calc L2.b4 λN10 JU=>?_;calc L2.gC λT2 U2 zC Xu=>?_;left;have aer:H9 yb=some (.tup [.str wd,.int ((U:Nat):Int)]):=by
     nofun;obtain⟨y0,u1,u2,kz,e0,e1,g1,g2⟩:=cm hy9
     cases e0
     cases g1
     cases g2;ac_rfl;exact e1
    calc cN (Yr.kJ aer id) (aA (j:=1) rfl) ⟨_,rfl,.inl ⟨_,e2G,λl1 wI=>?_⟩⟩;rw[RX];have sl:=aq.new (.lst (J.take U)) wI;have bC:eW (upd G l1 (.lst (J.take U))) 1 (J.take U) ((s.take U).map pairD):=by
     have:=(hyG.part (a:=0) (b:=U)).aG sl.aM;simpa using this
    have el1:upd G l1 (.lst (J.take U)) l1=some (.lst (J.take U)):=af;have hTl:=Jp.same sl;generalize hGl:upd G l1 (.lst (J.take U))=Gl at *;have sGl:=sG.trans sl;refine⟨λb=>(b=y\/RF b)\/FP r.n M b,n,l1,r,ls,ms,wv,lv,_,s.take U,rfl,Jd.fr (Z:=λ_=>False) sGl.fr,Mu.same sGl,Mv.aG sGl.aM,Bk,Tz,el1,bC,by rw[List.length_take];lia,λb I=>I.elim (λh=>let ⟨o,e,R⟩:=FSG b h;⟨o,sl _ _ e,R⟩) (λh=>hTl.cu.fp h),λ_ x ad zF oo _ _ hR=>?_,λi m k _ e Y=>?_,λi w k _ e _ _ Y=>?_⟩
    ·exact⟨_,_,x,n,d,_,r,_,ad,M,rfl,⟨hR,hTl.same oo,W,by rw[R1,List.length_take];lia⟩,λH' _=>q H'⟩
    ·nofun;obtain⟨w,k',e',uD⟩:=Og i _ e
     cases e';ac_rfl;exact absurd (oK uD) Y
    ·nofun;obtain⟨w',k',e',uD⟩:=Og i _ e;have e1:w=w':=by have:=congrArg Prod.fst e';simp at this;lia
     have O:k=k':=by have:=congrArg Prod.snd e';simp at this;lia
     subst e1 O;ac_rfl;exact absurd uD Y
  clear n2;calc L2.gC λT0 U0 Mw Yg=>?_;left;calc⟨a,ns,_,rfl,s1.seq hS,(),λc8=>⟨⟨∅,∅⟩,(by decide:(0:Int)<2),?_⟩⟩;left;by_cases Yo:c8/7%2=1
  ·rw[if_pos (by simpa using Yo)];calc L2.bA Mw ?_;clear Mw Yg;nofun;obtain⟨eY,ws,ls,⟨t,am,aw,al,mv,wv,lv,rfl,h1,h2,h3,h4,h5,h6,h7⟩,g⟩:=id hTG;have alf:mv.length<=5:=by rw[h5.1];exact g.m5
   have aet:1<=mv.length:=by rw[h5.1];exact g.m1
   obtain⟨v0,ev0,hv0⟩:=Yk aet;ac_rfl;left;calc cN h1 (aA (j:=0) rfl) ?_;left;calc .inl ⟨_,h2,λl1 wI=>?_⟩;rw[ev0];have r1:=aq.new (.lst [v0]) wI;calc cN (r1 _ _ h1) (aA (j:=0) rfl) ?_;calc bI _ (.inl ⟨_,aS.of (r1 _ _ h2),rfl⟩) ?_;calc Ls _ af () () (λl6 hl6=>?_);rw[Int.toNat_natCast];have r6:=aq.new (.lst (List.replicate mv.length v0)) hl6;have r16:=r1.trans r6;calc cN (r16 _ _ h1) (aA (j:=1) rfl) ?_;calc cN (r16 _ _ h1) (aA (j:=2) rfl) ?_;calc⟨by show 3<=sizeLine;decide,λt' Xy=>?_⟩;have r8:=aq.new (.tup [.ref l6,.ref aw,.ref al]) Xy;have TJ:=r16.trans r8;left;calc rest _ _ (s1.trans TJ) (TG.ms (mv:=mv) af (r8 _ _ af) (TJ _ _ h3) (TJ _ _ h4) nofun (λw hw=>?_) (h5.cv TJ.cv) (h6.aG TJ.aM) (h7.aG TJ.aM) g);rw[List.eq_of_mem_replicate hw];exact hv0
  ·rw[if_neg (by simpa using Yo)];calc L2.bA Yg ?_;calc rest _ _ s1 hTG
end
end EV
namespace EV
open PySem L2 DD
variable {B:Addr}{p0 p1:Str}{K:W.Frag}
structure Jt(K:W.Frag)(B C:Addr)(x:Str):Prop where
 ax:W.nsIn K mainGlobals x=some (some (.ref C))
 ob:∃nm q N bs sn sub ab col dd k0 k1 k2 k3 k5,K.lookup C=some (excClassObj nm q C N bs (.ref B::qN) true sn sub ab col dd k0 k1 k2 k3 k5 "ValueError.__new__")
 ga:W.findIn K (.ref C) "__getattribute__"=some (some (.builtin "BaseException.__getattribute__"))
 gt:W.findIn K (.ref C) "__getattr__"=some none
 sa:W.findIn K (.ref C) "__setattr__"=some (some (.builtin "object.__setattr__"))
 cl:W.findIn K (.ref C) "__class__"=some (some (.builtin "object.__class__"))
 kp:W.keepIn K (.ref C)=true
theorem Yy{C:Addr}{x c q:Str}{N:Addr}{bs a:List Value}{d:List Str}{e:Bool}{b:Option Bool}{f:Option Addr}{g h i j k:Option Value}(l:W.nsIn K mainGlobals x=some (some (.ref C)))(m:K.lookup C=some (excClassObj c q C N bs (.ref B::qN) true d a e b f g h i j k "ValueError.__new__"))
  (a:W.findIn K (.ref C) "__getattribute__"=some (some (.builtin "BaseException.__getattribute__"))) (b:W.findIn K (.ref C) "__getattr__"=some none) (c:W.findIn K (.ref C) "__setattr__"=some (some (.builtin "object.__setattr__"))) (d:W.findIn K (.ref C) "__class__"=some (some (.builtin "object.__class__"))) (e:W.keepIn K (.ref C)=true):Jt K B C x:=
 ⟨l,⟨_,_,_,_,_,_,_,_,_,_,_,_,_,_,m⟩,a,b,c,d,e⟩
theorem Jt.cls{C:Addr}{x:Str}(h:Jt K B C x)(a:W.specialIn K (.builtin "object.__class__") "__get__"=some (some (.builtin "getset_descriptor.__get__")))(ct:W.takesIn K (.builtin "object.__class__")=some true):fQ K C B:=
 ⟨h.ob,h.ga,h.gt,h.sa,h.cl,a,ct,h.kp⟩
def FnAt(K:W.Frag)(f:Addr)(x q:Str)(a:Stmt):Prop:=∃od c d e kV g h b ct,K.lookup f=some ⟨e,od,.func (W.fnOf x q (eN a) (cj a) (az a) .none kV g h c b ct),d⟩/\W.codeIn K b q=true/\W.keepIn K (.ref f)=true
def DF(K:W.Frag)(x:Str)(a:Stmt):Prop:=∃f,W.nsIn K mainGlobals x=some (some (.ref f))/\FnAt K f x x a
def MF(K:W.Frag)(C:Addr)(m q:Str)(a:Stmt):Prop:=∃f,W.findIn K (.ref C) m=some (some (.ref f))/\W.isFn K (.ref f)=true/\FnAt K f m q a
def MB(x q:Str)(a:Stmt)(c:List Str):Prop:=∀(kV b d:Value) (e:Option Addr) (f ct:Value) (us:List Value),us.length=c.length->bindArgs (W.fnOf x q (eN a) (cj a) (az a) .none kV b d e f ct) ⟨us,[]⟩=pure (c.zip us)
section
variable {K:W.Frag}{h:Heap}{mg:Str->Option Value}{x m q:Str}{C f:Addr}{st:Stmt}{ps:List Str}{od an:Option Addr}{sl:Array (Option Value)}{oc kV dc pm cd ct:Value}
theorem Oj(a:W.nsIn K mainGlobals x=some (some (.ref f)))(l:K.lookup f=some ⟨oc,od,.func (W.fnOf x x (eN st) (cj st) (az st) .none kV dc pm an cd ct),sl⟩)(c:W.codeIn K cd x=true)(k:W.keepIn K (.ref f)=true):DF K x st:=⟨f,a,_,_,_,_,_,_,_,_,_,l,c,k⟩
theorem Ol(a:W.findIn K (.ref C) m=some (some (.ref f)))(i:W.isFn K (.ref f)=true)(l:K.lookup f=some ⟨oc,od,.func (W.fnOf m q (eN st) (cj st) (az st) .none kV dc pm an cd ct),sl⟩)(c:W.codeIn K cd q=true)(k:W.keepIn K (.ref f)=true):MF K C m q st:=⟨f,a,i,_,_,_,_,_,_,_,_,_,l,c,k⟩
theorem bf(X:K.In h)(G:h.Ns mainGlobals mg)(d:DF K x st)(b:MB x x st ps):dj K mg x x st ps:=by
 obtain⟨f,a,_,_,_,_,_,_,_,_,_,l,c,k⟩:=d;calc⟨_,_,jQ l c k,W.mg_of X G a,(jQ l c k).binds b⟩
theorem cT(d:MF K C m q st)(b:MB m q st ps):gO K C m q st ps:=by
 obtain⟨f,a,i,_,_,_,_,_,_,_,_,_,l,c,k⟩:=d;calc⟨_,_,⟨a,i,k⟩,jQ l c k,(jQ l c k).binds b⟩
theorem xl(X:K.In h)(G:h.Ns mainGlobals mg)(e:W.makesIn K C=true)(g:W.keepIn K (.ref C)=true)(d:MF K C "__init__" q st)(j:W.nsIn K mainGlobals x=some (some (.ref C)))(b:MB "__init__" q st ps):DE K mg x C q st ps:=by
 obtain⟨f,a,i,_,_,_,_,_,_,_,_,_,l,c,k⟩:=d;calc⟨⟨_,_,⟨e,a,i,g⟩,jQ l c k,(jQ l c k).binds b⟩,W.mg_of X G j⟩
theorem C8(X:K.In h)(G:h.Ns mainGlobals mg)(e:fQ K C B)(d:MF K C "__init__" q st)(g:W.nsIn K mainGlobals x=some (some (.ref C)))(b:MB "__init__" q st ps):Hc K mg x C B q st ps:=by
 obtain⟨f,a,i,_,_,_,_,_,_,_,_,_,l,c,k⟩:=d;calc⟨e,⟨_,_,a,i,jQ l c k,(jQ l c k).binds b⟩,W.mg_of X G g⟩
theorem m7{us:List Value}{n:Nat}(h:us.length=n+1):∃x r,us=x::r/\r.length=n:=by
 cases us with
 |nil=>cases h
 |cons x r=>calc⟨x,r,rfl,Nat.succ.inj h⟩
theorem oM(e:∀(kV a pm:Value) (an:Option Addr) (c ct b:Value),bindArgs (W.fnOf x q (eN st) (cj st) (az st) .none kV a pm an c ct) ⟨[b],[]⟩=pure ([p0].zip [b])):MB x q st [p0]:=λkV a pm an c ct g d=>by
 obtain⟨b,h,rfl,f⟩:=m7 d
 cases List.length_eq_zero_iff.mp f;calc e ..
theorem gS(e:∀(kV a pm:Value) (an:Option Addr) (d ct b c:Value),bindArgs (W.fnOf x q (eN st) (cj st) (az st) .none kV a pm an d ct) ⟨[b,c],[]⟩=pure ([p0,p1].zip [b,c])):MB x q st [p0,p1]:=λkV a pm an d ct i f=>by
 obtain⟨b,j,rfl,g⟩:=m7 f;obtain⟨c,k,rfl,h⟩:=m7 g
 cases List.length_eq_zero_iff.mp h;calc e ..
theorem uy{f:Str}(e:∀(kV a pm:Value) (an:Option Addr) (g ct b c d:Value),bindArgs (W.fnOf x q (eN st) (cj st) (az st) .none kV a pm an g ct) ⟨[b,c,d],[]⟩=pure ([p0,p1,f].zip [b,c,d])):MB x q st [p0,p1,f]:=λkV a pm an g ct f h=>by
 obtain⟨b,l,rfl,i⟩:=m7 h;obtain⟨c,m,rfl,j⟩:=m7 i;obtain⟨d,n,rfl,k⟩:=m7 j
 cases List.length_eq_zero_iff.mp k;calc e ..
theorem tD{g h:Str}(e:∀(kV a pm:Value) (an:Option Addr) (i ct b c d f:Value),bindArgs (W.fnOf x q (eN st) (cj st) (az st) .none kV a pm an i ct) ⟨[b,c,d,f],[]⟩=pure ([p0,p1,g,h].zip [b,c,d,f])):MB x q st [p0,p1,g,h]:=λkV a pm an i ct g j=>by
 obtain⟨b,o,rfl,k⟩:=m7 j;obtain⟨c,p,rfl,l⟩:=m7 k;obtain⟨d,r,rfl,m⟩:=m7 l;obtain⟨f,s,rfl,n⟩:=m7 m
 cases List.length_eq_zero_iff.mp n;calc e ..
theorem R5{h i j:Str}(e:∀(kV a pm:Value) (an:Option Addr) (k ct b c d f g:Value),bindArgs (W.fnOf x q (eN st) (cj st) (az st) .none kV a pm an k ct) ⟨[b,c,d,f,g],[]⟩=pure ([p0,p1,h,i,j].zip [b,c,d,f,g])):MB x q st [p0,p1,h,i,j]:=λkV a pm an k ct h l=>by
 obtain⟨b,s,rfl,m⟩:=m7 l;obtain⟨c,t,rfl,n⟩:=m7 m;obtain⟨d,u,rfl,o⟩:=m7 n;obtain⟨f,v,rfl,p⟩:=m7 o;obtain⟨g,w,rfl,r⟩:=m7 p
 cases List.length_eq_zero_iff.mp r;calc e ..
end
theorem all_mk{l:W.OpenLaw}{w:World}{h:Heap}{j:Str->Option Value}{fa C a CR F b g:Addr}(X:K.In h)(G:h.Ns mainGlobals j)(hfa:j "law"=some (.ref fa))
  (aB:W.nsIn K mainGlobals "NetError"=some (some (.ref B)))
  {z I:Str} {J:Addr} {L Yz:List Value} {M:List Str} {N:Bool} {YA:Option Bool} {O:Option Addr} {R S U Y Z:Option Value} (R6:K.lookup B=some (excClassObj z I B J L qN true M Yz N YA O R S U Y Z "ValueError.__new__")) (EF:Jt K B b "NoLetter") (EG:Jt K B g "NotFirst") (cU:W.findIn K (.ref b) "at"=some none) (cV:W.findIn K (.ref g) "at"=some none) (oN:W.nsIn K mainGlobals "Machine"=some (some (.ref C))) (MC:W.nsIn K mainGlobals "Net"=some (some (.ref a))) (ME:W.nsIn K mainGlobals "Run"=some (some (.ref CR))) (jl:DF K "_law_altered" jj) (tE:DF K "_law_at" r9) (lE:DF K "_law_begun" lB) (lG:DF K "_law_lying" ly) (m9:DF K "_law_free" mX) (lH:DF K "_law_worth" kZ) (kd:DF K "_law_worked" j3) (nc:DF K "_law_pick" mY) (pX:DF K "_law_due" pU) (lI:DF K "_law_digit" kP) (lJ:DF K "_law_value" kU) (ng:DF K "_law_deed" mK) (jm:DF K "_law_machine" i5) (pY:DF K "_law_pot" pA) (pZ:DF K "_law_net" pS) (p6:DF K "form_of" pC) (nh:DF K "is_whole" mE) (lK:DF K "is_within" kO) (ni:DF K "is_value" mF) (p7:DF K "is_part" pD) (p8:DF K "is_deed" pE) (iE:DF K "refuse_deeds" ic) (p9:DF K "is_list" pB) (jo:DF K "are_counted" i3) (gy:DF K "refuse_machine" gp) (qa:MF K C "__init__" "Machine.__init__" pK) (lL:DF K "is_letter" kS) (tF:DF K "is_way" sm) (ke:DF K "refuse_net" jY) (Ju:MF K a "__init__" "Net.__init__" Ie) (iF:DF K "_law_net_made" iz) (gz:DF K "change_numbers" gr) (kg:DF K "change_row" jZ) (nj:DF K "left_out" mN) (lM:DF K "values_of" kX) (jq:DF K "plain_worth" i8) (nk:DF K "worth_of" mM) (gA:MF K C "worked" "Machine.worked" gs) (iG:MF K a "machines" "Net.machines" il) (nr:MF K a "ways" "Net.ways" mQ) (jr:MF K a "ways_at" "Net.ways_at" jb) (ju:MF K a "ways_in" "Net.ways_in" jc) (iH:MF K a "ways_out" "Net.ways_out" ip) (nu:MF K b "__init__" "NoLetter.__init__" mR) (iI:MF K CR "need_way" "Run.need_way" iq) (gc:MF K CR "need_letter" "Run.need_letter" fY) (nv:MF K g "__init__" "NotFirst.__init__" mS) (gT:MF K CR "need_pick" "Run.need_pick" gQ) (gB:MF K CR "put_letter" "Run.put_letter" gv) (fw:MF K CR "need_machine" "Run.need_machine" fu) (lN:MF K CR "state" "Run.state" lj) (jv:MF K CR "pick_at" "Run.pick_at" je) (eJ:MF K C "first_state" "Machine.first_state" eG) (jw:MF K a "letters" "Net.letters" ja) (Jv:MF K CR "__init__" "Run.__init__" IA) (kh:DF K "played_run" j7) (ki:DF K "_law_played" j8) (iJ:DF K "_law_schedule" iA) (lO:MF K CR "lying" "Run.lying" lx) (iK:MF K CR "schedule" "Run.schedule" ir) (lP:MF K CR "words" "Run.words" lp) (kj:DF K "_law_stands" j9) (ny:MF K CR "pick" "Run.pick" mV) (Jw:DF K "law" vI) (qb:W.plainGet K C Str.empty=true) (qc:W.hasDictIn K C=true) (qd:W.plainOver K C=true) (qf:W.findIn K (.ref C) "__setattr__"=some (some (.builtin "object.__setattr__"))) (qg:W.makesIn K C=true) (qh:W.keepIn K (.ref C)=true) (DT:W.findIn K (.ref C) "__class__"=some (some (.builtin "object.__class__"))) (DU:W.mroIn K C (.type "object")=some true) (Ni:W.findIn K (.ref C) "own_modulus"=some none) (Qx:W.findIn K (.ref C) "own_state"=some none) (Nj:W.findIn K (.ref C) "own_deeds"=some none) (Jx:W.plainGet K a Str.empty=true) (Jy:W.hasDictIn K a=true) (Jz:W.plainOver K a=true) (JA:W.findIn K (.ref a) "__setattr__"=some (some (.builtin "object.__setattr__"))) (JB:W.makesIn K a=true) (JC:W.keepIn K (.ref a)=true) (Hz:W.findIn K (.ref a) "__class__"=some (some (.builtin "object.__class__"))) (HA:W.mroIn K a (.type "object")=some true) (yF:W.findIn K (.ref a) "own_machines"=some none) (yG:W.findIn K (.ref a) "own_ways"=some none) (AI:W.findIn K (.ref a) "own_letters"=some none) (JD:W.plainGet K CR Str.empty=true) (JE:W.hasDictIn K CR=true) (JF:W.plainOver K CR=true) (JG:W.findIn K (.ref CR) "__setattr__"=some (some (.builtin "object.__setattr__"))) (JH:W.makesIn K CR=true) (JI:W.keepIn K (.ref CR)=true) (DW:W.findIn K (.ref CR) "__class__"=some (some (.builtin "object.__class__"))) (DX:W.mroIn K CR (.type "object")=some true) (df:W.findIn K (.ref CR) "own_net"=some none) (cX:W.findIn K (.ref CR) "picks_done"=some none) (cf:W.findIn K (.ref CR) "states_had"=some none) (dX:W.findIn K (.ref CR) "words_had"=some none) (cF:W.findIn K (.ref CR) "words_said"=some none) (bJ:W.findIn K (.ref CR) "letters_say"=some none) (ft:W.findIn K (.ref CR) "senders"=some none) (dg:W.findIn K (.ref CR) "workers"=some none) (m:W.specialIn K (.builtin "object.__class__") "__get__"=some (some (.builtin "getset_descriptor.__get__"))) (n:W.takesIn K (.builtin "object.__class__")=some true)
  (kl:W.nsIn K mainGlobals "isinstance"=some none) (JJ:W.nsIn K mainGlobals "int"=some none) (Bm:W.nsIn K mainGlobals "bool"=some none) (JK:W.nsIn K mainGlobals "str"=some none) (xm:W.nsIn K mainGlobals "tuple"=some none) (Bn:W.nsIn K mainGlobals "list"=some none) (JL:W.nsIn K mainGlobals "len"=some none) (xn:W.nsIn K mainGlobals "range"=some none) (JM:W.nsIn K mainGlobals "min"=some none) (JN:W.nsIn K mainGlobals "max"=some none) (JO:W.nsIn K mainGlobals "all"=some none) (JP:W.nsIn K mainGlobals "any"=some none) (JQ:W.nsIn K mainGlobals "zip"=some none) (lQ:W.nsIn K mainGlobals "enumerate"=some none) (km:W.nsIn K mainGlobals "ValueError"=some none) {z:Tok} (dU:W.nsIn K mainGlobals "MOST_DEEDS"=some (some (.int 24 z))) {I:Tok} (dJ:W.nsIn K mainGlobals "MOST_MODULUS"=some (some (.int 1000000000000 I))) {J:Tok} (dM:W.nsIn K mainGlobals "MOST_NUMBERS"=some (some (.int 4 J))) {L:Tok} (fq:W.nsIn K mainGlobals "MOST_ROW"=some (some (.int 12 L))) {M:Tok} (dw:W.nsIn K mainGlobals "MOST_MACHINES"=some (some (.int 5 M))) {N:Tok} (fA:W.nsIn K mainGlobals "MOST_WAYS"=some (some (.int 10 N))) {O:Tok} (dN:W.nsIn K mainGlobals "MOST_LETTERS"=some (some (.int 20 O))) {R:Tok} (dW:W.nsIn K mainGlobals "SAID_BOUND"=some (some (.int 1000000000000000000000000000000000000000000000000000000000000 R)))
  {z I J L M N O R:Int} {S U Y Z fk4 fk5 fk6 fk7:Tok} {o p q r t u x y:Addr} {fep:Nat}
  (aF:W.nsIn K mainGlobals "FORMS"=some (some (.ref F))) (lF:K.lookup F=some {cls:=.type "dict",dict:=none,data:=.dict #[⟨z,.str "set" S,.ref o⟩,⟨I,.str "add" U,.ref p⟩,⟨J,.str "times" Y,.ref q⟩,⟨L,.str "put" Z,.ref r⟩,⟨M,.str "drop" fk4,.ref t⟩,⟨N,.str "send" fk5,.ref u⟩,⟨O,.str "say" fk6,.ref x⟩,⟨R,.str "skip" fk7,.ref y⟩] fep,slots:=#[]}) (neF:(F==sysModules)=false) {Om Oo:Tok} {fo0:Option Addr} {fn0:Nat} {fs0:Array (Option Value)} (lP0:K.lookup o=some ⟨.type "tuple",fo0,.seq #[.str "number" Om,.str "value" Oo] fn0,fs0⟩) {Oq Ot:Tok} {fo1:Option Addr} {fn1:Nat} {fs1:Array (Option Value)} (lP1:K.lookup p=some ⟨.type "tuple",fo1,.seq #[.str "number" Oq,.str "value" Ot] fn1,fs1⟩) {Ou Ov:Tok} {fo2:Option Addr} {fn2:Nat} {fs2:Array (Option Value)} (lP2:K.lookup q=some ⟨.type "tuple",fo2,.seq #[.str "number" Ou,.str "value" Ov] fn2,fs2⟩) {Ow:Tok} {fo3:Option Addr} {fn3:Nat} {fs3:Array (Option Value)} (lP3:K.lookup r=some ⟨.type "tuple",fo3,.seq #[.str "value" Ow] fn3,fs3⟩) {fo4:Option Addr} {fn4:Nat} {fs4:Array (Option Value)} (lP4:K.lookup t=some ⟨.type "tuple",fo4,.seq #[] fn4,fs4⟩) {Ox Oy:Tok} {fo5:Option Addr} {fn5:Nat} {fs5:Array (Option Value)} (lP5:K.lookup u=some ⟨.type "tuple",fo5,.seq #[.str "way" Ox,.str "value" Oy] fn5,fs5⟩) {Oz:Tok} {fo6:Option Addr} {fn6:Nat} {fs6:Array (Option Value)} (lP6:K.lookup x=some ⟨.type "tuple",fo6,.seq #[.str "value" Oz] fn6,fs6⟩) {OA OB OC:Tok} {fo7:Option Addr} {fn7:Nat} {fs7:Array (Option Value)} (lP7:K.lookup y=some ⟨.type "tuple",fo7,.seq #[.str "value" OA,.str "value" OB,.str "many" OC] fn7,fs7⟩) (ZX:b≠g) (hB4:b≠B) (hB5:g≠B)
  :∃fd:FuncData,(∀(s:Shared) (v:Value),BindsTo s fd ⟨[v],[]⟩ [("_law_script",v)])/\∀base:Heap,K.In base->base.Ns mainGlobals j->iM l.prog w K j base uV 10 fa fd ["_law_script"] (xk K):=by
 have FR:PyProof.Rows.KTD.Rows RelV (#[⟨z,.str "set" S,.ref o⟩,⟨I,.str "add" U,.ref p⟩,⟨J,.str "times" Y,.ref q⟩,⟨L,.str "put" Z,.ref r⟩,⟨M,.str "drop" fk4,.ref t⟩,⟨N,.str "send" fk5,.ref u⟩,⟨O,.str "say" fk6,.ref x⟩,⟨R,.str "skip" fk7,.ref y⟩]:Array DictEntry).toList ([("set",V.ref o),("add",V.ref p),("times",V.ref q),("put",V.ref r),("drop",V.ref t),("send",V.ref u),("say",V.ref x),("skip",V.ref y)]:List (Str×V)):=.cons rfl rfl (.cons rfl rfl (.cons rfl rfl (.cons rfl rfl (.cons rfl rfl (.cons rfl rfl (.cons rfl rfl (.cons rfl rfl (.nil))))))));have T:Tx K j C a CR F ([("set",V.ref o),("add",V.ref p),("times",V.ref q),("put",V.ref r),("drop",V.ref t),("send",V.ref u),("say",V.ref x),("skip",V.ref y)]:List (Str×V)):={
  bc:=aav X G kl
  Ca:=aav X G JJ
  AH:=aav X G Bm
  Cb:=aav X G JK
  cE:=aav X G xm
  dI:=aav X G Bn
  b8:=aav X G JL
  eX:=aav X G xn
  VO:=aav X G JM
  Nh:=aav X G JN
  u9:=aav X G JO
  VP:=aav X G JP
  Hy:=aav X G JQ
  cW:=aav X G lQ
  wG:=aav X G km
  dU:=⟨_,W.mg_of X G dU⟩
  dJ:=⟨_,W.mg_of X G dJ⟩
  dM:=⟨_,W.mg_of X G dM⟩
  fq:=⟨_,W.mg_of X G fq⟩
  dw:=⟨_,W.mg_of X G dw⟩
  fA:=⟨_,W.mg_of X G fA⟩
  dN:=⟨_,W.mg_of X G dN⟩
  dW:=⟨_,W.mg_of X G dW⟩
  cO:=⟨qb,qc,qd,qf⟩
  va:=W.mg_of X G oN
  DT:=DT
  DU:=DU
  Ni:=Ni
  Qx:=Qx
  Nj:=Nj
  de:=⟨Jx,Jy,Jz,JA⟩
  VQ:=W.mg_of X G MC
  Hz:=Hz
  HA:=HA
  yF:=yF
  yG:=yG
  AI:=AI
  aV:=⟨JD,JE,JF,JG⟩
  Nk:=W.mg_of X G ME
  DW:=DW
  DX:=DX
  df:=df
  cX:=cX
  cf:=cf
  dX:=dX
  cF:=cF
  bJ:=bJ
  ft:=ft
  dg:=dg
  rZ:=m
  kM:=n
  i_k:=by unfold W.kitOne;rw[if_pos nofun]
  Cc:=W.mg_of X G aF
  Cd:=⟨⟨_,_,_,lF,⟨rfl,rfl,rfl⟩,rfl,FR⟩,neF⟩
  Nl:=λd=>by
   cases d with
   |set _ _=>calc⟨o,by kernel_rfl,λH=>.inr ⟨_,_,_,lP0,rfl,rfl,by show 2<=sizeLine;decide,(.cons ⟨Om,rfl⟩ (.cons ⟨Oo,rfl⟩ .nil))⟩⟩
   |add _ _=>calc⟨p,by kernel_rfl,λH=>.inr ⟨_,_,_,lP1,rfl,rfl,by show 2<=sizeLine;decide,(.cons ⟨Oq,rfl⟩ (.cons ⟨Ot,rfl⟩ .nil))⟩⟩
   |times _ _=>calc⟨q,by kernel_rfl,λH=>.inr ⟨_,_,_,lP2,rfl,rfl,by show 2<=sizeLine;decide,(.cons ⟨Ou,rfl⟩ (.cons ⟨Ov,rfl⟩ .nil))⟩⟩
   |put _=>calc⟨r,by kernel_rfl,λH=>.inr ⟨_,_,_,lP3,rfl,rfl,by show 1<=sizeLine;decide,(.cons ⟨Ow,rfl⟩ .nil)⟩⟩
   |drop=>calc⟨t,by kernel_rfl,λH=>.inr ⟨_,_,_,lP4,rfl,rfl,by show 0<=sizeLine;decide,.nil⟩⟩
   |send _ _=>calc⟨u,by kernel_rfl,λH=>.inr ⟨_,_,_,lP5,rfl,rfl,by show 2<=sizeLine;decide,(.cons ⟨Ox,rfl⟩ (.cons ⟨Oy,rfl⟩ .nil))⟩⟩
   |say _=>calc⟨x,by kernel_rfl,λH=>.inr ⟨_,_,_,lP6,rfl,rfl,by show 1<=sizeLine;decide,(.cons ⟨Oz,rfl⟩ .nil)⟩⟩
   |skip _ _ _=>exact⟨y,by kernel_rfl,λH=>.inr ⟨_,_,_,lP7,rfl,rfl,by show 3<=sizeLine;decide,(.cons ⟨OA,rfl⟩ (.cons ⟨OB,rfl⟩ (.cons ⟨OC,rfl⟩ .nil)))⟩⟩
 }
 have k:tZ K j B (λi:Nat=>if i=4 then b else g):={
  mB:=W.mg_of X G EF.ax
  jT:=W.mg_of X G EG.ax
  mC:=W.mg_of X G aB
  cl:=λi hi=>by
   rcases hi with rfl|rfl
   ·exact EF.cls m n
   ·exact EG.cls m n
  inj:=λi j hi hj e=>by
   rcases hi with rfl|rfl<;>rcases hj with rfl|rfl<;>first|rfl|calc absurd e ZX|exact absurd e.symm ZX
  nB:=λi hi=>by
   rcases hi with rfl|rfl
   ·exact hB4
   ·exact hB5
  xb:=⟨⟨_,_,_,_,_,_,_,_,_,_,_,_,_,_,R6⟩⟩
  cU:=cU
  cV:=cV
 }
 obtain⟨f,a,d,an,j,o,kV,dc,pm,cd,ct,ll,lc,lk⟩:=Jw;have e:=hfa.symm.trans (W.mg_of X G a)
 cases e;refine⟨W.fnOf "law" "law" (eN vI) (cj vI) (az vI) .none kV dc pm an cd ct,λs v=>.of_eq rfl,λbase _ _=>?_⟩;have x:=uw (P:=l.prog) (w:=w) (base:=base) (bf X G jl (uy λ_ _ _ _ _ _ _ _ _=>rfl)) T;have q:=HE (P:=l.prog) (w:=w) (base:=base) (bf X G tE (gS λ_ _ _ _ _ _ _ _=>rfl)) T;have r:=zp (P:=l.prog) (w:=w) (base:=base) (bf X G lE (oM λ_ _ _ _ _ _ _=>rfl)) T;have d:=zk (P:=l.prog) (w:=w) (base:=base) (bf X G lG (gS λ_ _ _ _ _ _ _ _=>rfl)) T;have e:=Be (bf X G m9 (oM λ_ _ _ _ _ _ _=>rfl)) T d;have a:=ze (P:=l.prog) (w:=w) (base:=base) (bf X G lH (R5 λ_ _ _ _ _ _ _ _ _ _ _=>rfl)) T;have o:=wQ (bf X G kd (tD λ_ _ _ _ _ _ _ _ _ _=>rfl)) T a;have j:=Bg (bf X G nc (uy λ_ _ _ _ _ _ _ _ _=>rfl)) T o;have y:=ED (bf X G pX (gS λ_ _ _ _ _ _ _ _=>rfl)) T r e d j;have a:=yJ (P:=l.prog) (w:=w) (base:=base) (bf X G lI (gS λ_ _ _ _ _ _ _ _=>rfl)) T;have o:=yQ (bf X G lJ (gS λ_ _ _ _ _ _ _ _=>rfl)) T a;have p:=AS (bf X G ng (gS λ_ _ _ _ _ _ _ _=>rfl)) T a o;have t:=uf (bf X G jm (oM λ_ _ _ _ _ _ _=>rfl)) T p a;have o:=DY (P:=l.prog) (w:=w) (base:=base) (bf X G pY (oM λ_ _ _ _ _ _ _=>rfl)) T;have z:=Eu (bf X G pZ (oM λ_ _ _ _ _ _ _=>rfl)) T q a t o;have p:=D0 (P:=l.prog) (w:=w) (base:=base) (bf X G p6 (oM λ_ _ _ _ _ _ _=>rfl)) T;have o:=AJ (P:=l.prog) (w:=w) (base:=base) (bf X G nh (oM λ_ _ _ _ _ _ _=>rfl)) T;have a:=yI (bf X G lK (uy λ_ _ _ _ _ _ _ _ _=>rfl)) T o;have t:=AL (bf X G ni (gS λ_ _ _ _ _ _ _ _=>rfl)) T o a;have u:=D7 (bf X G p7 (uy λ_ _ _ _ _ _ _ _ _=>rfl)) T t o a;have v:=D8 (bf X G p8 (gS λ_ _ _ _ _ _ _ _=>rfl)) T p u;have t:=sk (bf X G iE (gS λ_ _ _ _ _ _ _ _=>rfl)) T v;have o:=DZ (P:=l.prog) (w:=w) (base:=base) (bf X G p9 (uy λ_ _ _ _ _ _ _ _ _=>rfl)) T;have p:=uc (bf X G jo (tD λ_ _ _ _ _ _ _ _ _ _=>rfl)) T o a;have u:=pH (bf X G gy (tD λ_ _ _ _ _ _ _ _ _ _=>rfl)) T p a;have v:=Ea (xl X G qg qh qa oN (R5 λ_ _ _ _ _ _ _ _ _ _ _=>rfl)) T t u;have p:=yO (bf X G lL (gS λ_ _ _ _ _ _ _ _=>rfl)) T a;have t:=HK (bf X G tF (gS λ_ _ _ _ _ _ _ _=>rfl)) T a;have u:=wJ (bf X G ke (uy λ_ _ _ _ _ _ _ _ _=>rfl)) T p o t;have C:=Wm (xl X G JB JC Ju MC (tD λ_ _ _ _ _ _ _ _ _ _=>rfl)) T u;have F:=tj (bf X G iF (oM λ_ _ _ _ _ _ _=>rfl)) T v C;have o:=pL (P:=l.prog) (w:=w) (base:=base) (bf X G gz (tD λ_ _ _ _ _ _ _ _ _ _=>rfl)) T;have p:=wM (P:=l.prog) (w:=w) (base:=base) (bf X G kg (uy λ_ _ _ _ _ _ _ _ _=>rfl)) T;have u:=AW (P:=l.prog) (w:=w) (base:=base) (bf X G nj (gS λ_ _ _ _ _ _ _ _=>rfl)) T;have v:=yX (P:=l.prog) (w:=w) (base:=base) (bf X G lM (oM λ_ _ _ _ _ _ _=>rfl)) T;have t:=ug (P:=l.prog) (w:=w) (base:=base) (bf X G jq (tD λ_ _ _ _ _ _ _ _ _ _=>rfl)) T;have C:=AU (bf X G nk (R5 λ_ _ _ _ _ _ _ _ _ _ _=>rfl)) T t;have I:=pM (cT gA (tD λ_ _ _ _ _ _ _ _ _ _=>rfl)) T o p u v C;have t:=sy (P:=l.prog) (w:=w) (base:=base) (cT iG (oM λ_ _ _ _ _ _ _=>rfl)) T;have o:=AX (P:=l.prog) (w:=w) (base:=base) (cT nr (oM λ_ _ _ _ _ _ _=>rfl)) T;have u:=uk (cT jr (uy λ_ _ _ _ _ _ _ _ _=>rfl)) T a;have v:=uq (cT ju (gS λ_ _ _ _ _ _ _ _=>rfl)) T u;have C:=sL (cT iH (gS λ_ _ _ _ _ _ _ _=>rfl)) T u;have p:=AZ (P:=l.prog) (w:=w) (base:=base) (c:=(λi:Nat=>if i=4 then b else g)) (C8 X G (EF.cls m n) nu EF.ax (gS λ_ _ _ _ _ _ _ _=>rfl)) T k;have u:=sQ (c:=(λi:Nat=>if i=4 then b else g)) (cT iI (uy λ_ _ _ _ _ _ _ _ _=>rfl)) T k a p;have J:=oz (c:=(λi:Nat=>if i=4 then b else g)) (cT gc (tD λ_ _ _ _ _ _ _ _ _ _=>rfl)) T k a u p;have L:=A0 (P:=l.prog) (w:=w) (base:=base) (c:=(λi:Nat=>if i=4 then b else g)) (C8 X G (EG.cls m n) nv EG.ax (gS λ_ _ _ _ _ _ _ _=>rfl)) T k;have M:=qD (c:=(λi:Nat=>if i=4 then b else g)) (cT gT (tD λ_ _ _ _ _ _ _ _ _ _=>rfl)) T k o J p L;have m:=pO (P:=l.prog) (w:=w) (base:=base) (cT gB (tD λ_ _ _ _ _ _ _ _ _ _=>rfl)) T;have n:=mT (cT fw (gS λ_ _ _ _ _ _ _ _=>rfl)) T a;have p:=zg (cT lN (gS λ_ _ _ _ _ _ _ _=>rfl)) T n;have a:=uu (c:=(λi:Nat=>if i=4 then b else g)) (cT jv (tD λ_ _ _ _ _ _ _ _ _ _=>rfl)) T k I t o v C M m p;have J:=ky (P:=l.prog) (w:=w) (base:=base) (cT eJ (oM λ_ _ _ _ _ _ _=>rfl)) T;have C:=ui (P:=l.prog) (w:=w) (base:=base) (cT jw (oM λ_ _ _ _ _ _ _=>rfl)) T;have I:=WO (xl X G JH JI Jv ME (gS λ_ _ _ _ _ _ _ _=>rfl)) T J C t o m;have v:=xg (c:=(λi:Nat=>if i=4 then b else g)) (bf X G kh (gS λ_ _ _ _ _ _ _ _=>rfl)) T k a I;have m:=xi (c:=(λi:Nat=>if i=4 then b else g)) (bf X G ki (gS λ_ _ _ _ _ _ _ _=>rfl)) T k v;have o:=tq (bf X G iJ (gS λ_ _ _ _ _ _ _ _=>rfl)) T r e j;have t:=zi (c:=(λi:Nat=>if i=4 then b else g)) (cT lO (gS λ_ _ _ _ _ _ _ _=>rfl)) T k u;have r:=sS (P:=l.prog) (w:=w) (base:=base) (cT iK (oM λ_ _ _ _ _ _ _=>rfl)) T;have l:=zh (cT lP (gS λ_ _ _ _ _ _ _ _=>rfl)) T n;have u:=xj (bf X G kj (gS λ_ _ _ _ _ _ _ _=>rfl)) T d t r p l;have n:=Ba (c:=(λi:Nat=>if i=4 then b else g)) (cT ny (uy λ_ _ _ _ _ _ _ _ _=>rfl)) T k a;exact RY (jQ ll lc lk) T k x q y e z F j m o u v n
theorem walk{l:W.OpenLaw}{q:Program}{a:List Str}{g:(Str->Option Value)->Heap->Prop}{c:World->Heap->Prop}{d:DefRec}{K:Params->W.Frag}(i:l.most=some 63)(j:d.params.defaults=[])
  (m:∀(w:World) (h:Heap),c w h->(K w.params).In h)
  (F:∀(w:World) (b:Str->Option Value) (e:Addr) (h:Heap),(K w.params).In h->h.Ns mainGlobals b->b d.name=some (.ref e)->
   ∃f:FuncData,(∀(s:Shared) (u:Value),BindsTo s f ⟨[u],[]⟩ [("_law_script",u)])/\∀base:Heap,(K w.params).In base->base.Ns mainGlobals b->iM l.prog w (K w.params) b base uV 10 e f ["_law_script"] (xk (K w.params))):
  W.WalkO q a g c l.row.toRowW d [] (λf vs=>PySem.call f vs):=
 L2.KS (n:=63) (k:=10) (x:="_law_script") (CX:=λ_=>uV) (sp:=λw=>xk (K w.params)) i ∅ j ⟨rfl,∅,∅⟩ m F (λ_ _ a b c _ d=>⟨a,b,rfl,d,c,λ_=>rfl⟩) λ_ _ _ _ _ z=>z
end EV
end
namespace PySem.W.Fast
def tw18416181546194375505:=Nat
def tw13343474285454721746:=Nat
def tw10114810296395968573:=Nat
def tw5383709800112914873:=Nat
def tw18055233644948568873:=Nat
def tw13532370286383482199:=Nat
def tw4721606734689862985:=Nat
def tw17723985635333081350:=Nat
def tw8258983154934238557:=Nat
def tw7485422938831542201:=Nat
def tw14949777967591667249:=Nat
def tw10873946600300814733:=Nat
def tw17372496789784959538:=Nat
def tw3123577290981070920:=Nat
def tw3249564718695486598:=Nat
def tw1844499662414656710:=Nat
def tw9894164343336019268:=Nat
def tw3724808518639607297:=Nat
def tw15419514736708192217:=Nat
def tw9851553857047347266:=Nat
def tw2142001243279294371:=Nat
def tw15170878137423337546:=Nat
def tw12286146508711064711:=Nat
def tw318634221898929830:=Nat
def tw3150200857983883300:=Nat
def tw16794062131149564441:=Nat
def tw18365057848357967135:=Nat
def tw9763856398334391443:=Nat
def tw13807193784915113387:=Nat
def tw8875014901160738144:=Nat
def tw4372281177204925165:=Nat
def tw11056887642372170556:=Nat
def tw14772697344262557348:=Nat
def tw1688159838703813847:=Nat
def tw3007285684774983263:=Nat
def tw10696733788510187239:=Nat
def tw549572624307348711:=Nat
def tw14294746658071560136:=Nat
def tw11515490696557392640:=Nat
def tw2498080859210645350:=Nat
def tw15930313108310483154:=Nat
def tw4411793271467639999:=Nat
def tw1666869698798529311:=Nat
def tw2051727102252522983:=Nat
def tw8693215104199318311:=Nat
def tw9789850491993302786:=Nat
def tw17207643490528634371:=Nat
def tw10924339733476443474:=Nat
def tw11350657338585485569:=Nat
def tw9517303934876404072:=Nat
def tw9885811741345525670:=Nat
def tw18210026973525056214:=Nat
def tw10450043593834197861:=Nat
def tw2619191003776055301:=Nat
def tw14949928723197949934:=Nat
def tw7479274908786329969:=Nat
def tw18154372403962817218:=Nat
def tw11642643595219276718:=Nat
def tw13047877853237321171:=Nat
def tw6161943990160476201:=Nat
def tw17580840906780584229:=Nat
def tw15719434717467678873:=Nat
def tw10619430699166278046:=Nat
def tw9012513726621335837:=Nat
def tw18315645611369510226:=Nat
def tw13537256488867981143:=Nat
def tw18391795664376219549:=Nat
def tw14701162877944347072:=Nat
def tw4700063697901470408:=Nat
def tw15275650939598311882:=Nat
def tw6039715637289897138:=Nat
def tw13665872358641991196:=Nat
def tw4906230319382266068:=Nat
def tw16978102047977362681:=Nat
def tw2658465355978195712:=Nat
def tw2934726185317958686:=Nat
def tw12519627727422792395:=Nat
def tw10749473975768659751:=Nat
def tw8350204876001946215:=Nat
def tw3289786069130038638:=Nat
def tw10977911388921026943:=Nat
def tw4101452167001694237:=Nat
def tw14392931747051411022:=Nat
def tw7333002381926224069:=Nat
def tw15973364256078858470:=Nat
def tw17142515819982382401:=Nat
def tw10277277676053165583:=Nat
def tw10010110513128626473:=Nat
def tw11566889014989875653:=Nat
def tw10021147787555842192:=Nat
def tw1513844780559580559:=Nat
def tw2641291238474443869:=Nat
def tw11815014013512707012:=Nat
def tw207048889127368336:=Nat
def tw4409584115808565555:=Nat
def tw17279033236525403114:=Nat
def tw5980183449181286924:=Nat
def tw1153468272464035067:=Nat
def tw17942018632780960045:=Nat
def tw8330020369479452912:=Nat
def tw8367806005234259709:=Nat
def tw9091621515084811419:=Nat
def tw9596986415550109691:=Nat
def tw8900661291948542630:=Nat
def tw11175167266201654594:=Nat
def tw8470264335866396563:=Nat
def tw4440066192018896622:=Nat
def tw16905644164421534503:=Nat
def tw17111879645600230174:=Nat
def tw14592846450744540904:=Nat
def tw14657933679742610244:=Nat
def tw16339832022356364841:=Nat
def tw8794662988379668724:=Nat
def tw1516152154157023855:=Nat
def tw5626039048169200753:=Nat
def tw2652086438166390584:=Nat
def tw16018161943055431803:=Nat
def tw17791197864498701404:=Nat
def tw5471992294884455388:=Nat
def tw18398584233365099539:=Nat
def tw7063935957286565554:=Nat
def tw9505397464826223448:=Nat
def tw1807193816555754109:=Nat
def tw4567994928940767992:=Nat
def tw6404219693033955207:=Nat
def tw4190299765504944275:=Nat
def tw2934732127666943224:=Nat
def tw6939583879945274418:=Nat
def tw13852353992737463483:=Nat
def tw13859503185044456166:=Nat
def tw13196538534395537068:=Nat
def tw5305376266583436765:=Nat
def tw2038848979760067352:=Nat
def tw8995737378837234254:=Nat
def tw11365965384439524934:=Nat
def tw967766987852755488:=Nat
def tw12422884130838049284:=Nat
def tw18301721483946810864:=Nat
def tw6150619219360032733:=Nat
def tw4153643812235281041:=Nat
def tw10523327775609344322:=Nat
def tw4393621049646925595:=Nat
def tw10565726509200491367:=Nat
def tw507365910860866513:=Nat
def tw1242198374138010990:=Nat
def tw17536639242640430070:=Nat
def tw3539296629142711826:=Nat
def tw12521167846859927973:=Nat
def tw14484938988699069035:=Nat
def tw16121643176179577381:=Nat
def tw2526644716768241650:=Nat
def tw17808105204153784279:=Nat
def tw14619131104170792987:=Nat
def tw14432060862594108102:=Nat
def tw4966982731570720425:=Nat
def tw5454065550480269142:=Nat
def tw7618658678022839779:=Nat
def tw8807256952712920633:=Nat
def tw8094048725372417626:=Nat
def tw5959259844298457688:=Nat
def tw13676214814779732359:=Nat
def tw7640808377779417758:=Nat
def tw9091193680915239407:=Nat
def tw17532060159604578657:=Nat
def tw17118423642147137150:=Nat
def tw12766667011724314340:=Nat
def tw8755710796983057069:=Nat
def tw10306865432127342017:=Nat
def tw10608008681924353035:=Nat
def tw17526759116616472862:=Nat
def tw14218448281666659594:=Nat
def tw14098311133394587368:=Nat
def tw7134538914966131516:=Nat
def tw4649893070512546487:=Nat
def tw3090969787515474811:=Nat
def tw8550160573857426325:=Nat
def tw1453615312954226822:=Nat
def tw12733838536306523659:=Nat
def tw5946402591165236091:=Nat
def tw5230414819127323427:=Nat
def tw5675028290334663905:=Nat
def tw17535955175000246279:=Nat
def tw7104011436268919699:=Nat
def tw14934112789347059471:=Nat
def tw7498838546849069609:=Nat
def tw972617523330402476:=Nat
def tw8515373944919454380:=Nat
def tw1110046588635174766:=Nat
def tw11632789207745620584:=Nat
def tw15228917611615002297:=Nat
def tw15189804413018044281:=Nat
def tw16378591528427739235:=Nat
def tw10500336385957669716:=Nat
def tw12743958816272636821:=Nat
def tw446134205296414994:=Nat
def tw1725246933861840500:=Nat
def tw12484041942147497342:=Nat
def tw8396991015734383867:=Nat
def tw16128304940018104240:=Nat
def tw13176420434825491949:=Nat
def tw1497627298037777240:=Nat
def tw1657938353866038322:=Nat
def tw7004512304266663997:=Nat
def tw4520553095208311198:=Nat
def tw5982607283065858878:=Nat
def tw4160132200693920224:=Nat
def tw4249233058056174304:=Nat
def tw3452375448560588359:=Nat
def tw1394152506827016766:=Nat
def tw9962161379003885856:=Nat
def tw7923188475418750597:=Nat
def tw13488751670354449087:=Nat
def tw6935312921128796848:=Nat
def tw13283037093568810313:=Nat
def tw12389709707969302971:=Nat
def tw7576462975276692114:=Nat
def tw12667791682220537271:=Nat
def tw16912303706109171670:=Nat
def tw3200008299628620043:=Nat
def tw8840402177169041492:=Nat
def tw1548308584098823607:=Nat
def tw7145084644125612246:=Nat
def tw16902516574188902817:=Nat
def tw7883889875289182673:=Nat
def tw12233344333191810957:=Nat
def tw7546453499004083184:=Nat
def tw9812344310038395064:=Nat
def tw16166529261634999078:=Nat
def tw5465347994160826380:=Nat
def tw12514880245087172584:=Nat
def tw11205546280651218514:=Nat
def tw12874325174475719117:=Nat
def tw705148128322343657:=Nat
def tw17332882005620657291:=Nat
def tw6962524424169535079:=Nat
def tw3931197991355068978:=Nat
def tw4859701197806360246:=Nat
def tw15115123961307711:=Nat
def tw12414229906110259331:=Nat
def tw12322331078340252505:=Nat
def tw10608327220215638833:=Nat
def tw17324189658510569823:=Nat
def tw6361269066586476964:=Nat
def tw8347399955408654949:=Nat
def tw9810872356371968666:=Nat
def tw11537224687036263023:=Nat
def tw3585177731291225916:=Nat
def tw4129733333626081819:=Nat
def tw2252722366446024602:=Nat
def tw15594985238127903404:=Nat
def tw5223421292106716251:=Nat
def tw7324346813630977361:=Nat
def tw17111444617174276110:=Nat
def tw7604935847894457792:=Nat
def tw10286496753637965779:=Nat
def tw6479621322315334311:=Nat
def tw12287600988750772010:=Nat
def tw9077055022515731264:=Nat
def tw3920118889436141630:=Nat
def tw15636831698277083233:=Nat
def tw1747283741547005574:=Nat
def tw5672756173979194999:=Nat
def tw4117721940361160778:=Nat
def tw16846121007985214534:=Nat
def tw2201510762924921362:=Nat
def tw18311601552097149135:=Nat
def tw9316293644293225812:=Nat
def tw17458429541451708333:=Nat
def tw5325992684324631152:=Nat
def tw16207867164797117770:=Nat
def tw9329146211985504571:=Nat
def tw9478814233304652726:=Nat
def tw9671115547402156370:=Nat
def tw10652488762327436130:=Nat
def tw5508484592524619139:=Nat
def tw12878583920047076500:=Nat
def tw12011000938231082063:=Nat
def tw14987186067786532932:=Nat
def tw8384951141644234973:=Nat
def tw1324296844039588792:=Nat
def tw16066864006016584770:=Nat
def tw12636132865221023323:=Nat
def tw18363032274874039833:=Nat
def tw18396801903431914981:=Nat
def tw3891491230213289932:=Nat
def tw1941868372498347405:=Nat
def tw9077418938827774364:=Nat
def tw8513036150027535135:=Nat
def tw10453121293261932419:=Nat
def tw6967005046377608598:=Nat
def tw11895961140926449804:=Nat
def tw10942790110485531526:=Nat
def tw1200110765365474093:=Nat
def tw16089103313582542538:=Nat
def tw16402123990428627964:=Nat
def tw10716298923795046180:=Nat
def tw15776540009970347100:=Nat
def tw1619333133350591761:=Nat
def tw4076000144798392853:=Nat
def tw7965407840603404048:=Nat
def tw11189554402501236495:=Nat
def tw10341165394287211800:=Nat
def tw9975536064683790392:=Nat
def tw15276859390817279893:=Nat
def tw8990469293256844985:=Nat
def tw14941390181326183629:=Nat
def tw12958600794983102788:=Nat
def tw1224247675698051597:=Nat
def tw8809891049781032641:=Nat
def tw6179557685379783743:=Nat
def tw8081584029892724722:=Nat
def tw14786682952079527893:=Nat
def tw18353608158878059357:=Nat
def tw10327355326291343007:=Nat
def tw7882398034176208848:=Nat
def tw2744132459744837259:=Nat
def tw65432501187977125:=Nat
def tw3547390908016049181:=Nat
def tw2436883928635453031:=Nat
def tw5734457327127968372:=Nat
def tw6846705952000827824:=Nat
def tw5531689924896747433:=Nat
def tw14897925615804954897:=Nat
def tw6321364635888125041:=Nat
def tw5701365726178037257:=Nat
def tw9521337339646639844:=Nat
def tw586031066884465239:=Nat
def tw12534876724192420091:=Nat
def tw11722745583522264088:=Nat
def tw12348505442731871998:=Nat
def tw18007852117873737572:=Nat
def tw17215876186112548929:=Nat
def tw15862643201885352702:=Nat
def tw7324045254760465892:=Nat
def tw17951192876255089297:=Nat
def tw16271011218751106833:=Nat
def tw16884108021444360113:=Nat
def tw12018340714730716728:=Nat
def tw14867632583075427123:=Nat
def tw3690139282975287131:=Nat
def tw15362792062446434151:=Nat
def tw4479997482794695238:=Nat
def tw4732806384330153586:=Nat
def tw11017228731516583701:=Nat
def tw15671273178496788364:=Nat
def tw11229038721224211256:=Nat
def tw2193999087720109664:=Nat
def tw11424912953090222007:=Nat
def tw7510232257290202422:=Nat
def tw13214268137091289370:=Nat
def tw1389041672051216208:=Nat
def tw17929278051244661429:=Nat
def tw17549452704103973874:=Nat
def tw2805465399611803925:=Nat
def tw16058993253384438655:=Nat
def tw14271581406825214935:=Nat
def tw8933234331002075582:=Nat
def tw12442159563391329118:=Nat
def tw4700647013574851855:=Nat
def tw13899561439093022335:=Nat
def tw1775835856744527536:=Nat
def tw16698701563023520721:=Nat
def tw14231407387015216161:=Nat
def tw8673199778959711388:=Nat
def tw4061143652634075909:=Nat
def tw6042882050773387126:=Nat
def tw9092987763189154881:=Nat
def tw4157958407998788369:=Nat
def tw16051086357700512581:=Nat
def tw467920361916781695:=Nat
def tw4112456078783215365:=Nat
def tw12791476651198540472:=Nat
def tw5064263786325286261:=Nat
def tw11264824885599258742:=Nat
def tw15203341889375217983:=Nat
def tw1990050914365662636:=Nat
def tw11748562613033844272:=Nat
def tw2272325437764255055:=Nat
def tw7990754852007509317:=Nat
def tw18327348467670542147:=Nat
def tw10836890049967476931:=Nat
def tw9037994537041651165:=Nat
def tw11689476387935663450:=Nat
def tw596650429686377308:=Nat
def tw768171847888792479:=Nat
def tw2655681256563310088:=Nat
def tw5153120959112488748:=Nat
def tw11237831649404309694:=Nat
def tw18357298242122501738:=Nat
def tw11565113688013507132:=Nat
def tw9886697823487381312:=Nat
def tw5790046325940485365:=Nat
def tw8218260021596159584:=Nat
def tw1804901883132715044:=Nat
def tw12644231903026630814:=Nat
def tw8501307937606044705:=Nat
def tw2191211152004460601:=Nat
def tw1313571248045378978:=Nat
def tw3094920744036670993:=Nat
def tw13896709586926575459:=Nat
def tw3258574151095611888:=Nat
def tw7486728363435786003:=Nat
def tw14223180587645640378:=Nat
def tw17939411366482656652:=Nat
def tw1861594170969644790:=Nat
def tw17197236072497151898:=Nat
def tw9566599776857067853:=Nat
def tw2285880286617348671:=Nat
def tw13658118712389693082:=Nat
def tw5905362715641562024:=Nat
def tw8085183636364673927:=Nat
def tw9966433413893779064:=Nat
def tw11011239901577739008:=Nat
def tw3600506656149010904:=Nat
def tw13114156773081813868:=Nat
def tw14638696351748833255:=Nat
def tw11031672816017598943:=Nat
def tw16579350261239637151:=Nat
def tw16491903062242470892:=Nat
def tw8785612657067798945:=Nat
def tw8891288865946294859:=Nat
def tw12392362729886339442:=Nat
def tw11870801521259691700:=Nat
def tw4152496785730881761:=Nat
def tw7358938558812523838:=Nat
def tw17515552099454137634:=Nat
def tw3139240952403812463:=Nat
def tw15301281545735834529:=Nat
def tw4856368415636568482:=Nat
def tw3295832599332635968:=Nat
def tw3584458948127676372:=Nat
def tw4394278975295955739:=Nat
def tw4472297008997710052:=Nat
def tw5380083450225616921:=Nat
def tw18146728638957702904:=Nat
def tw16366224390989880455:=Nat
def tw14178260302194408959:=Nat
end PySem.W.Fast
open PySem PySem.W PyProof.Rows
local macro_rules | `(tactic| walk_at "d") => `(tactic| first | exact EV.Oj (by k_is) (by k_is) (by k_is) (by k_is) | (refine' EV.Oj ?a ?l ?c ?k; (case a => k_is); (case l => k_is); (case c => k_is); (case k => k_is)))
local macro_rules | `(tactic| walk_at "x") => `(tactic| (refine' EV.Yy ?a ?b ?c ?d ?e ?f ?g; (case a => k_is); (case b => k_is); (case c => k_is); (case d => k_is); (case e => k_is); (case f => k_is); (case g => k_is)))
local macro_rules | `(tactic| walk_at "m") => `(tactic| first | exact EV.Ol (by k_is) (by k_is) (by k_is) (by k_is) (by k_is) | (refine' EV.Ol ?a ?i ?l ?c ?k; (case a => k_is); (case i => k_is); (case l => k_is); (case c => k_is); (case k => k_is)))
set_option maxRecDepth 100000 in
set_option maxHeartbeats 0 in
theorem PySem.Challenge.cw_cutrestore_k24_schedules_played_holds : PySem.Challenge.rw_cutrestore_k24_schedules_played.Holds := by
 w_on;o_law;k_head;(case hw=>w_witness2)
 k_fill
 refine EV.walk (l:=PySem.Challenge.rw_cutrestore_k24_schedules_played) rfl rfl (λw h Y=>W.kIn_of Y) ?F
 case F=>
  intro w mg fa h KX G UA;refine' EV.all_mk KX G UA ?aB ?R6 ?EF ?EG ?cU ?cV ?oN ?MC ?ME ?jl ?tE ?lE ?lG ?m9 ?lH ?kd ?nc ?pX ?lI ?lJ ?ng ?jm ?pY ?pZ ?p6 ?nh ?lK ?ni ?p7 ?p8 ?iE ?p9 ?jo ?gy ?qa ?lL ?tF ?ke ?Ju ?iF ?gz ?kg ?nj ?lM ?jq ?nk ?gA ?iG ?nr ?jr ?ju ?iH ?nu ?iI ?gc ?nv ?gT ?gB ?fw ?lN ?jv ?eJ ?jw ?Jv ?kh ?ki ?iJ ?lO ?iK ?lP ?kj ?ny ?Jw ?qb ?qc ?qd ?qf ?qg ?qh ?DT ?DU ?Ni ?Qx ?Nj ?Jx ?Jy ?Jz ?JA ?JB ?JC ?Hz ?HA ?yF ?yG ?AI ?JD ?JE ?JF ?JG ?JH ?JI ?DW ?DX ?df ?cX ?cf ?dX ?cF ?bJ ?ft ?dg ?rZ ?kM ?kl ?JJ ?Bm ?JK ?xm ?Bn ?JL ?xn ?JM ?JN ?JO ?JP ?JQ ?lQ ?km ?dU ?dJ ?dM ?fq ?dw ?fA ?dN ?dW ?aF ?lF ?neF ?lP0 ?lP1 ?lP2 ?lP3 ?lP4 ?lP5 ?lP6 ?lP7 ?ZX ?hB4 ?hB5
  (case aB|R6=>k_is)
  (case EF|EG=>walk_at "x")
  (case cU|cV|oN|MC|ME=>k_is)
  (case jl|tE|lE|lG|m9|lH|kd|nc|pX|lI|lJ|ng|jm|pY|pZ|p6|nh|lK|ni|p7|p8|iE|p9|jo|gy=>walk_at "d")
  (case qa=>walk_at "m")
  (case lL|tF|ke=>walk_at "d")
  (case Ju=>walk_at "m")
  (case iF|gz|kg|nj|lM|jq|nk=>walk_at "d")
  (case gA|iG|nr|jr|ju|iH|nu|iI|gc|nv|gT|gB|fw|lN|jv|eJ|jw|Jv=>walk_at "m")
  (case kh|ki|iJ=>walk_at "d")
  (case lO|iK|lP=>walk_at "m")
  (case kj=>walk_at "d")
  (case ny=>walk_at "m")
  (case Jw=>walk_at "d")
  (case qb|qc|qd|qf|qg|qh|DT|DU|Ni|Qx|Nj|Jx|Jy|Jz|JA|JB|JC|Hz|HA|yF|yG|AI|JD|JE|JF|JG|JH|JI|DW|DX|df|cX|cf|dX|cF|bJ|ft|dg|rZ|kM|kl|JJ|Bm|JK|xm|Bn|JL|xn|JM|JN|JO|JP|JQ|lQ|km|dU|dJ|dM|fq|dw|fA|dN|dW|aF|lF=>k_is)
  (case neF=>first|rfl|decide)
  (case lP0|lP1|lP2|lP3|lP4|lP5|lP6|lP7=>k_is)
  (case ZX|hB4|hB5=>decide +kernel)
