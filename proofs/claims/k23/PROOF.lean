import PyProof.Rows.All
import Wide.All
import OpenK.AllK
import Wide.FinOn
import Lean
import PyProof.EqAt
import PyProof.EqKinds
import PyProof.TupleCall
import PyProof.NeKinds
import PyProof.Rows.Range3
import KE.KIsAll
import PyProof.ExcClass3
import PyProof.InstStoreFacts
import PyProof.ExcArgsOwn
import PyProof.ExcBaseAll.ValueError
import PyProof.ExcAttrAll.ValueError
import PyProof.Draws
import PyProof.ZipIter
import PyProof.SumWalk
import PyProof.Rows.FactsT2
import PyProof.EnumMake
import PyProof.Rows.EnumRows
import KE.KTab
import PyProof.StationsW
import PyProof.RulesAs
import PyProof.NsDelKeeps
import PyProof.PassesOwn
import PyProof.Rows.ListMulArg
import PyProof.StrWalks
import PyProof.MeetsStr
import PyProof.MeetsStr2
import PyProof.StrBlockL
import PyProof.SliceStr2
import PyProof.StrLawsIdx
import PyProof.FitsStr
import PyProof.StrLaws
import PyProof.Rows.FStr
import KE.KIntText
import PyProof.StrLawsTight
import PyProof.Rows.StrIntSpec
import PyProof.Rows.CountFlat
import PyProof.Rows.SeqMore2
import PyProof.SeqRoads
import PyProof.StrLawsAffix
import PyProof.InstEq
import PySem.Challenge.RW_cutrestore_k23_refused_picks
set_option compiler.extract_closed false
set_option Elab.async false
set_option linter.all false
set_option maxRecDepth 100000
theorem L2.fo{p:Prop}(h:∀g:Prop,(p->g)->g):p:=h p id
theorem L2.o1{A:Sort _}{p:A->Prop}{z:Prop}(h:∃a,p a)(y:∀a,p a->z):z:=h.elim λa x=>y a x
theorem L2.o2{A B:Sort _}{p:A->B->Prop}{z:Prop}(h:∃a b,p a b)(y:∀a b,p a b->z):z:=h.elim λa x=>x.elim λb x=>y a b x
theorem L2.o3{A B C:Sort _}{p:A->B->C->Prop}{z:Prop}(h:∃a b c,p a b c)(y:∀a b c,p a b c->z):z:=h.elim λa x=>x.elim λb x=>x.elim λc x=>y a b c x
theorem L2.o4{A B C D:Sort _}{p:A->B->C->D->Prop}{z:Prop}(h:∃a b c d,p a b c d)(y:∀a b c d,p a b c d->z):z:=h.elim λa x=>x.elim λb x=>x.elim λc x=>x.elim λd x=>y a b c d x
theorem L2.o5{A B C D E:Sort _}{p:A->B->C->D->E->Prop}{z:Prop}(h:∃a b c d e,p a b c d e)(y:∀a b c d e,p a b c d e->z):z:=h.elim λa x=>x.elim λb x=>x.elim λc x=>x.elim λd x=>x.elim λe x=>y a b c d e x
theorem L2.o6{A B C D E F:Sort _}{p:A->B->C->D->E->F->Prop}{z:Prop}(h:∃a b c d e f,p a b c d e f)(y:∀a b c d e f,p a b c d e f->z):z:=h.elim λa x=>x.elim λb x=>x.elim λc x=>x.elim λd x=>x.elim λe x=>x.elim λf x=>y a b c d e f x
theorem L2.o7{A B C D E F G:Sort _}{p:A->B->C->D->E->F->G->Prop}{z:Prop}(h:∃a b c d e f g,p a b c d e f g)(y:∀a b c d e f g,p a b c d e f g->z):z:=h.elim λa x=>x.elim λb x=>x.elim λc x=>x.elim λd x=>x.elim λe x=>x.elim λf x=>x.elim λg x=>y a b c d e f g x
theorem L2.o8{A B C D E F G H:Sort _}{p:A->B->C->D->E->F->G->H->Prop}{z:Prop}(h:∃a b c d e f g h,p a b c d e f g h)(y:∀a b c d e f g h,p a b c d e f g h->z):z:=h.elim λa x=>x.elim λb x=>x.elim λc x=>x.elim λd x=>x.elim λe x=>x.elim λf x=>x.elim λg x=>x.elim λh x=>y a b c d e f g h x
theorem L2.a2{A B y:Prop}(h:A/\B)(x:A->B->y):y:=x h.1 h.2
theorem L2.a3{A B C y:Prop}(h:A/\B/\C)(x:A->B->C->y):y:=x h.1 h.2.1 h.2.2
theorem L2.a4{A B C D y:Prop}(h:A/\B/\C/\D)(x:A->B->C->D->y):y:=x h.1 h.2.1 h.2.2.1 h.2.2.2
theorem L2.a5{A B C D E y:Prop}(h:A/\B/\C/\D/\E)(x:A->B->C->D->E->y):y:=x h.1 h.2.1 h.2.2.1 h.2.2.2.1 h.2.2.2.2
theorem L2.a6{A B C D E F y:Prop}(h:A/\B/\C/\D/\E/\F)(x:A->B->C->D->E->F->y):y:=x h.1 h.2.1 h.2.2.1 h.2.2.2.1 h.2.2.2.2.1 h.2.2.2.2.2
theorem L2.a7{A B C D E F G y:Prop}(h:A/\B/\C/\D/\E/\F/\G)(x:A->B->C->D->E->F->G->y):y:=x h.1 h.2.1 h.2.2.1 h.2.2.2.1 h.2.2.2.2.1 h.2.2.2.2.2.1 h.2.2.2.2.2.2
theorem L2.a8{A B C D E F G H y:Prop}(h:A/\B/\C/\D/\E/\F/\G/\H)(x:A->B->C->D->E->F->G->H->y):y:=x h.1 h.2.1 h.2.2.1 h.2.2.2.1 h.2.2.2.2.1 h.2.2.2.2.2.1 h.2.2.2.2.2.2.1 h.2.2.2.2.2.2.2
theorem L2.a9{A B C D E F G H I y:Prop}(h:A/\B/\C/\D/\E/\F/\G/\H/\I)(x:A->B->C->D->E->F->G->H->I->y):y:=x h.1 h.2.1 h.2.2.1 h.2.2.2.1 h.2.2.2.2.1 h.2.2.2.2.2.1 h.2.2.2.2.2.2.1 h.2.2.2.2.2.2.2.1 h.2.2.2.2.2.2.2.2
section
set_option hygiene false
local macro_rules | `(tactic| calc $e:term) => `(tactic| refine $e)
local macro_rules | `(tactic| lia) => `(tactic| first | with_reducible assumption | exact Nat.zero_le _ | exact Nat.le_refl _ | (refine Nat.le_of_lt ?_; with_reducible assumption) | (refine Nat.lt_succ_of_le ?_; with_reducible assumption) | (refine Int.ofNat_lt.mpr ?_; with_reducible assumption) | (refine Eq.symm ?_; with_reducible assumption) | omega)
local macro_rules | `(tactic| obtain $p:rcasesPatMed := $e:term) => `(tactic| (refine L2.fo λgZ hZ => ?_; rcases $e:term with $p:rcasesPatMed) <;> (refine hZ ?_; clear hZ gZ))
local macro_rules
 | `(tactic| obtain ⟨$ps,*⟩ := $e:term) => do
  let q := ps.getElems
  let n := q.size
  let k0 ← `(tactic| skip)
  let i : Lean.Ident := ⟨e.raw⟩
  let ce ← if e.raw.isIdent then `(tactic| try clear $i:ident) else pure k0
  let mut xs := #[]
  let mut re := #[]
  for p in q do
    let a := p.raw[0][0]
    let x := a[0][0]
    let z := Lean.mkIdent (.num `z_ xs.size)
    let b := x.isIdent && a.getNumArgs == 1 && x.getId != `rfl
    let r ← `(tactic| rcases $z:ident with $p:rcasesPatLo)
    xs := xs.push (if b then ⟨x⟩ else z)
    re := re.push (if b then k0 else r)
  let mut t ← `(tactic| rcases $e:term with ⟨$q,*⟩)
  for m in [2:n+n] do
    let c := if m ≤ n then m - 1 else m - n
    let l := Lean.mkIdent (.str `L2 (if m ≤ n then s!"a{m}" else s!"o{c}"))
    let w := q[c:].toArray
    let w ← `(tactic| obtain ⟨$w,*⟩ := zH)
    let f := n ≤ c + 1
    let y := if f then xs else xs[:c].toArray.push (Lean.mkIdent `zH)
    let r := if f then re else re[:c].toArray.push w
    t ← `(tactic| first | (refine $l $e ?_; ($ce:tactic); intro $y*; $[$r]*) | $t:tactic)
  if e.raw.getId == `zH then return t
  `(tactic| (refine L2.fo λgZ hZ => ?_; $t:tactic) <;> (refine hZ ?_; clear hZ gZ))
local macro_rules | `(tactic| nofun) => `(tactic| refine L2.fo λgZ hZ => ?_)
local macro_rules | `(tactic| ac_rfl) => `(tactic| (refine hZ ?_; clear hZ gZ))
local macro_rules | `(()) => `(by lia)
local macro_rules | `(∅) => `(by decide)
local macro_rules | `(⋯) => `(by decide +kernel)
local macro_rules | `(nofun) => `(by simp)
local macro_rules | `(Sort) => `(by grind)
set_option hygiene true
set_option hygiene false
local macro_rules | `(tactic| grind) => `(tactic| first | exact Or.inl rfl | exact Or.inr rfl | assumption)
local macro_rules | `(tactic| symm) => `(tactic| (refine D.ok sc (λvs H Q E h => ?_) (λf eA A outer s H vs Q E hr h => ?_); (first | (cases h; subst_vars; rfl) | ((repeat rcases h with ⟨_, h⟩) <;> subst_vars <;> rfl))))
local macro_rules
 | `(tactic| walk_at "xc") => `(tactic| (refine ⟨?_⟩; intro pins s σ H Q I h))
 | `(tactic| walk_at "xd") => `(tactic| (refine ⟨?_⟩; intro pins s σ H D I h))
 | `(tactic| walk_at "xf") => `(tactic| refine D.ZT sc (λvs H Q E h => ?_) (λf eA A outer s H vs Q E hr h => ?_))
set_option hygiene true
abbrev Yv:= @PySem.F.attrBase_ValueError
abbrev ua:= @PyProof.Rows.boot_isinstance
abbrev Yw:= @PyProof.Rows.boot_int
abbrev ma:= @PySem.F.plainAttrs_list
abbrev og:= @PySem.F.slot_list_append
abbrev oh:= @PySem.F.type_list_append
abbrev uN:= @PyProof.Rows.boot_tuple
abbrev Aj:= @PyProof.Rows.boot_list
abbrev Ul:= @PyProof.Rows.boot_all
section
open PySem
abbrev j':= @wpAny_bind
abbrev J':= @Heap.get?_push_of_some
abbrev K':= @Nat.le_refl
abbrev L':= @wpAny_pure
abbrev P':= @Nat.le_of_lt
abbrev R':= @Nat.lt_of_lt_of_le
abbrev S':= @PySem.boot_len
abbrev T':= @Heap.lt_size
abbrev U':= @Bool.false_ne_true
abbrev V':= @Heap.get?_push_size
abbrev W':= @Nat.ne_of_lt
abbrev X':= @False.elim
abbrev Y':= @Int.eq_ofNat_of_zero_le
abbrev aaa:= @List.getElem_mem
abbrev aab:= @Nat.zero_le
abbrev aac:= @List.mem_append_right
abbrev aae:= @Nat.le_trans
abbrev aaf:= @List.mem_of_getElem?
abbrev aal:= @wpAny_mono
abbrev aam:= @True.intro
abbrev aar:= @wpAny_field
abbrev aav:= @List.mem_cons_of_mem
abbrev aaw:= @W.mg_none_of
abbrev aaA:= @wpAny_truthy_bool
abbrev aaB:= @wpAny_loadPart_at
abbrev aaD:= @List.mem_cons_self
abbrev aaH:= @wpAny_holding
abbrev aaI:= @wpAny_pyIter_tuple
abbrev aaJ:= @Int.emod_lt_of_pos
abbrev aaK:= @Nat.lt_irrefl
abbrev aaM:= @wpAny_callSpecial?_slot
abbrev aaO:= @wpAny_newObj_type
abbrev aaQ:= @PySem.mem_of_lookup
abbrev aaU:= @Nat.lt_of_le_of_lt
abbrev aa0:= @Heap.get?_update_self
abbrev aa1:= @PyProof.Rows.slot_tuple_getitem
abbrev aa2:= @Int.emod_nonneg
abbrev aa4:= @wpAny_isSubtype_exc
abbrev aa5:= @Int.toNat_of_nonneg
abbrev aa8:= @wpAny_seqItems
end
namespace L2
open PySem PySem.Spec PyProof.Rows
section
theorem di{α:Type _}{l:List α}{i:Nat}(h:i<l.length):l[i]?=some l[i]:=List.getElem?_eq_getElem h
abbrev Key:=Sum Int Str
def uO:Key->Value->Bool
 | .inl k,v=>Value.isInt k v
 | .inr x,v=>Value.isStrOf x v
def ZU(w:World):Key->Int
 | .inl k=>hashInt k
 | .inr x=>hashStr w x
theorem dB:∀{k:Key}{v:Value},uO k v=true->(∃i t,k=Sum.inl i/\v=Value.int i t)\/(∃x t,k=Sum.inr x/\v=Value.str x t)
 | .inl i,v,h=>by
  obtain⟨t,e⟩:=Value.isInt_shape (k:=i) (v:=v) h;calc .inl ⟨i,t,rfl,e⟩
 | .inr x,v,h=>by
  obtain⟨t,e⟩:=Value.isStrOf_shape (x:=x) (v:=v) h;calc .inr ⟨x,t,rfl,e⟩
theorem DR(i:Int)(t:Tok):uO (.inl i) (.int i t)=true:=by simp[uO,Value.isInt]
theorem DS(x:Str)(t:Tok):uO (.inr x) (.str x t)=true:=by simp[uO,Value.isStrOf]
theorem O4(a b:Int):decide ((Sum.inl a:Key)=Sum.inl b)=(a==b):=by
 by_cases e:a=b
 ·subst e;simp
 ·have h:¬(Sum.inl a:Key)=Sum.inl b:=λq=>e (Sum.inl.inj q);rw[decide_eq_false h];calc(beq_eq_false_iff_ne.mpr e).symm
theorem O5(a b:Str):decide ((Sum.inr a:Key)=Sum.inr b)=decide (a=b):=by
 by_cases e:a=b
 ·subst e;simp
 ·have h:¬(Sum.inr a:Key)=Sum.inr b:=λq=>e (Sum.inr.inj q);rw[decide_eq_false h,decide_eq_false e]
theorem O6(a:Int)(b:Str):decide ((Sum.inl a:Key)=Sum.inr b)=false:=decide_eq_false (λq=>nomatch q)
theorem O7(a:Str)(b:Int):decide ((Sum.inr a:Key)=Sum.inl b)=false:=decide_eq_false (λq=>nomatch q)
def dU(prog:Program)(w:World):PySem.KeyKind prog w Key where
 is:=uO
 hash:=ZU w
 inj:=λv a b f d=>by
  rcases dB f with⟨i,t,rfl,rfl⟩|⟨x,t,rfl,rfl⟩
  ·rcases dB d with⟨j,u,rfl,e⟩ | ⟨y,u,rfl,e⟩
   ·injection e with e1 _;rw[e1]
   ·exact nomatch e
  ·rcases dB d with⟨j,u,rfl,e⟩ | ⟨y,u,rfl,e⟩
   ·exact nomatch e
   ·injection e with e1 _;rw[e1]
 byValue:=λk v h=>by
  rcases dB h with⟨i,t,rfl,rfl⟩|⟨x,t,rfl,rfl⟩<;>rfl
 pyHash:=λc h=>by
  rcases dB c with⟨i,t,rfl,rfl⟩|⟨x,t,rfl,rfl⟩
  ·exact wpAny_pyHash_int h
  ·exact wpAny_pyHash_str h
 eqBool:=λg c h=>by
  rcases dB g with⟨i,t,rfl,rfl⟩|⟨x,t,rfl,rfl⟩
  ·rcases dB c with⟨j,u,rfl,rfl⟩ | ⟨y,u,rfl,rfl⟩
   ·rw[O4]at h;exact wpAny_eqBool_int h
   ·rw[O6]at h;exact SeqAt.EqAt.int_str i t y u _ _ _ _ h
  ·rcases dB c with⟨j,u,rfl,rfl⟩ | ⟨y,u,rfl,rfl⟩
   ·rw[O7]at h;exact SeqAt.EqAt.str_int x t j u _ _ _ _ h
   ·rw[O5]at h;exact wpAny_eqBool_str h
 «strs»:=λk x t v h=>by
  rcases dB h with⟨i,u,rfl,e⟩|⟨y,u,rfl,e⟩
  ·exact nomatch e
  ·injection e with e1 _
   subst e1
   cases v<;>rfl
theorem xT(prog:Program)(w:World)(i:Int)(t:Tok):(dU prog w).is (.inl i) (.int i t)=true:=DR i t
theorem xU(prog:Program)(w:World)(x:Str)(t:Tok):(dU prog w).is (.inr x) (.str x t)=true:=DS x t
end
section
variable {a b:Addr}{H:Hp}
inductive V where
 |bI|bl (b:Bool)|int (i:Int)|str (x:Str)|BV (b:Array UInt8)|Nh (b:UInt64)|ref (a:Addr)|ty (n:String)
 deriving DecidableEq
def RelV:V->Value->Prop
 | .bI,u=>u=Value.none
 | .bl b,u=>u=Value.bool b
 | .int i,u=>∃t,u=Value.int i t
 | .str x,u=>∃t,u=Value.str x t
 | .BV b,u=>∃t,u=Value.bytes b t
 | .Nh b,u=>∃t,u=Value.float b t
 | .ref a,u=>u=Value.ref a
 | .ty n,u=>u=Value.type n
abbrev Vals:List V->List Value->Prop:=Paired RelV
theorem Vals.length{xs:List V}{us:List Value}(r:Vals xs us):xs.length=us.length:=Paired.length r
theorem Vals.get:∀{xs:List V}{us:List Value}{i:Nat}{x:V},Vals xs us->xs[i]?=some x->∃u,us[i]?=some u/\RelV x u
 |_,_,_,_,.nil,e=>by simp at e
 |_,_,0,_,.cons r _,e=>by simp at e;subst e;calc⟨_,rfl,r⟩
 |_,_,i+1,x,.cons _ t,e=>by
  obtain⟨u,a,b⟩:=Vals.get (i:=i) (x:=x) t (by simpa using e);calc⟨u,by simpa using a,b⟩
theorem Vals.set{x:V}{u:Value}(r:RelV x u):∀{xs:List V}{us:List Value}(i:Nat),Vals xs us->Vals (xs.set i x) (us.set i u)
 |_,_,_,.nil=>.nil
 |_,_,0,.cons _ t=>.cons r t
 |_,_,i+1,.cons q t=>.cons q (Vals.set r i t)
theorem Vals.append:∀{xs a:List V}{us ws:List Value},Vals xs us->Vals a ws->Vals (xs++a) (us++ws)
 |_,_,_,_,.nil,s=>s
 |_,_,_,_,.cons r t,s=>.cons r (Vals.append t s)
theorem Vals.take:∀{xs:List V}{us:List Value}(n:Nat),Vals xs us->Vals (xs.take n) (us.take n)
 |_,_,0,_=>.nil
 |_,_,_+1,.nil=>.nil
 |_,_,n+1,.cons r t=>.cons r (Vals.take n t)
theorem Vals.drop:∀{xs:List V}{us:List Value}(n:Nat),Vals xs us->Vals (xs.drop n) (us.drop n)
 |_,_,0,r=>r
 |_,_,_+1,.nil=>.nil
 |_,_,n+1,.cons _ t=>Vals.drop n t
def jT:Option V->Option Value->Prop
 |some v,some u=>RelV v u
 |none,none=>True
 |_,_=>False
def KV{κ:Type}:List (κ×V)->List (κ×Value)->Prop:=Paired λ(p:κ×V) (q:κ×Value)=>p.1=q.1/\RelV p.2 q.2
def kV:Key->V
 | .inl i=>.int i
 | .inr x=>.str x
inductive HO where
 |lst (xs:List V)
 |tup (xs:List V)
 |dK (bt:List (Key×V))|dT (bt:List (List Key×V))
 |set (S:Int->Bool) (n:Nat)
 |ins (C dx:Addr) (fs:List (Str×V))
 |own (x:Addr)
 |xd (fs:List (Str×V))
 |met (f x:Addr)
 |ZV (lo hi:Int)
 |zX (o:Obj) (u:HO)
 |O8 (ps:Array Value)
 |ext (φ:Heap->Prop)
abbrev Hp:=Addr->Option HO
def upd(H:Hp)(a:Addr)(o:HO):Hp:=λb=>if b=a then some o else H b
theorem af{o:HO}:upd H a o a=some o:=by unfold upd;rw[if_pos rfl]
theorem ay{o:HO}(h:b≠a):upd H a o b=H b:=by unfold upd;rw[if_neg h]
theorem BW{o u:HO}(h:H a=some o)(h':H b=some u)(d:o≠u):a≠b:=by
 intro e;subst e;rw[h]at h';calc d (Option.some.inj h')
theorem av{o:HO}(h:H a=some o)(h':H b=none):a≠b:=by
 intro e;subst e;rw[h]at h';cases h'
section
variable (P:Program)(w:World)
def cH(H:Hp)(h:Heap)(a:Addr):HO->Prop
 | .lst xs=>xs.length<=sizeLine/\∃(b:List Value) (n:Nat),Vals xs b/\h.get? a=some {cls:=.type "list",data:=.seq b.toArray n}
 | .tup xs=>xs.length<=sizeLine/\∃b:List Value,Vals xs b/\IsTup h a b.toArray
 | .dK b=>b.length<=sizeLine/\(a==sysModules)=false/\∃vs,KV b vs/\h.DictOf (dU P w) a vs
 | .dT b=>b.length<=sizeLine/\(a == sysModules)=false/\∃xs:List (List Key×Addr×Value),
   Paired (λ(p:List Key×V) (q:List Key×Addr×Value)=>p.1=q.1/\H q.2.1=some (.tup (p.1.map kV))/\RelV p.2 q.2.2) b xs/\
   ∃o b c,h.get? a=some o/\o.ExactDict/\o.data=.dict b c/\b.toList=xs.map (entryOfKey (tupleKind (dU P w)))/\(xs.map (·.1)).Nodup
 | .set S n=>h.SetOf (intKind P w) a S n
 | .ins C d c=>H d=some (.own a)/\c.length<=1000/\d≠a/\h.get? a=some (W.instObj C d)/\
   ∃b,h.Ns1 d b/\(∀f,jT (c.lookup f) (b f))/\PySem.Within b (c.map (·.1))
 | .own _=>∃o,h.get? a=some o
 | .xd c=>∃b,h.Ns1 a b/\∀f,jT (c.lookup f) (b f)
 | .ZV b c=>∃t u v,h.get? a=some {cls:=.type "range",data:=.fields #[.int b t,.int c u,.int 1 v]}
 | .zX o u=>h.get? a=some o/\cH H h a u
 | .O8 b=>h.get? a=some {cls:=.none,data:=.fields b}
 | .met f x=>h.get? a=some (W.methodObj (.ref f) (.ref x))
 | .ext φ=>φ h/\(∃o,h.get? a=some o)/\∀b c:Heap,φ b->(∀o,b.get? a=some o->c.get? a=some o)->φ c
def mB(H:Hp)(h:Heap):Prop:=∀a o,H a=some o->cH P w H h a o
end
section
variable {P:Program}{w:World}{H H':Hp}{h h':Heap}{a:Addr}{o:HO}
theorem cH.lt(x:cH P w H h a o):a<h.objs.size:=by
 cases o with
 |lst b=>obtain⟨_,_,_,_,e⟩:=x;calc T' e
 |tup b=>obtain⟨_,_,_,p⟩:=x;calc p.lt
 |dK b=>obtain⟨_,_,_,_,o,_,_,e,_⟩:=x;calc T' e
 |dT b=>obtain⟨_,_,_,_,o,_,_,e,_⟩:=x;calc T' e
 |set S n=>obtain⟨o,_,_,_,e,_⟩:=x;calc T' e
 |ins C c b=>obtain⟨_,_,_,e,_⟩:=x;calc T' e
 |own y=>obtain⟨_,e⟩:=x;calc T' e
 |xd b=>obtain⟨_,⟨_,_,_,e,_⟩,_⟩:=x;calc T' e
 |ZV b c=>obtain⟨_,_,_,e⟩:=x;calc T' e
 |zX b u=>obtain⟨e,_⟩:=x;calc T' e
 |O8 b=>calc T' (show h.get? a=some _ from x)
 |met f y=>calc T' (show h.get? a=some _ from x)
 |ext φ=>obtain⟨_,⟨_,e⟩,_⟩:=x;calc T' e
theorem Paired.O9{α β:Type}{F G:α->β->Prop}:∀{c:List α}{d:List β},Paired F c d->(∀a b,F a b->G a b)->Paired G c d
 |_,_,.nil,_=>.nil
 |_,_,.cons r t,f=>.cons (f _ _ r) (Paired.O9 t f)
theorem cH.aK(x:cH P w H h a o)(k:∀b u,(b=a\/H b=some (.own a))->h.get? b=some u->h'.get? b=some u)
  (m:∀b,H b=some (.own a)->H' b=some (.own a)) (j:∀b xs,H b=some (.tup xs)->H' b=some (.tup xs)):cH P w H' h' a o:=by
 induction o with
 |lst xs=>obtain⟨z,d,n,r,e⟩:=x;calc⟨z,d,n,r,k _ _ (.inl rfl) e⟩
 |tup xs=>obtain⟨z,d,r,f,e,c⟩:=x;calc⟨z,d,r,f,k _ _ (.inl rfl) e,c⟩
 |dK d=>obtain⟨z,y,l,r,f,g,i,e,c⟩:=x;calc⟨z,y,l,r,f,g,i,k _ _ (.inl rfl) e,c⟩
 |dT d=>
  obtain⟨z,y,xs,r,f,g,i,e,c⟩:=x;calc⟨z,y,xs,Paired.O9 r λp q z=>⟨z.1,j _ _ z.2.1,z.2.2⟩,f,g,i,k _ _ (.inl rfl) e,c⟩
 |set S n=>obtain⟨f,g,i,t,e,c⟩:=x;calc⟨f,g,i,t,k _ _ (.inl rfl) e,c⟩
 |ins C d n=>
  obtain⟨d,z,s,e,j,⟨l,g,i,v,c⟩,r⟩:=x;calc⟨m _ d,z,s,k _ _ (.inl rfl) e,j,⟨l,g,i,k _ _ (.inr d) v,c⟩,r⟩
 |own y=>obtain⟨f,e⟩:=x;calc⟨f,k _ _ (.inl rfl) e⟩
 |xd n=>obtain⟨j,⟨l,g,i,e,c⟩,r⟩:=x;calc⟨j,⟨l,g,i,k _ _ (.inl rfl) e,c⟩,r⟩
 |ZV c d=>obtain⟨t,u,v,e⟩:=x;calc⟨t,u,v,k _ _ (.inl rfl) e⟩
 |zX f u c=>obtain⟨e,q⟩:=x;calc⟨k _ _ (.inl rfl) e,c q⟩
 |O8 c=>
  have e:h.get? a=some {cls:=.none,data:=.fields c}:=x;show h'.get? a=some {cls:=.none,data:=.fields c};calc k a _ (.inl rfl) e
 |met f y=>
  have e:h.get? a=some (W.methodObj (.ref f) (.ref y)):=x;show h'.get? a=some (W.methodObj (.ref f) (.ref y));calc k a _ (.inl rfl) e
 |ext φ=>obtain⟨p,⟨o,e⟩,c⟩:=x;calc⟨c _ _ p λo q=>k _ _ (.inl rfl) q,⟨o,k _ _ (.inl rfl) e⟩,c⟩
theorem mB.lt(x:mB P w H h)(e:H a=some o):a<h.objs.size:=(x a o e).lt
theorem mB.fresh(x:mB P w H h)(e:h.objs.size<=a):H a=none:=by
 cases q:H a with
 |none=>rfl
 |some u=>calc absurd (R' (x.lt q) e) (aaK _)
theorem mB.kept(x:mB P w H h)(k:∀b u,h.get? b=some u->h'.get? b=some u):mB P w H h':=λa o e=>
 (x a o e).aK (λb u _ q=>k b u q) (λ_ q=>q) λ_ _ q=>q
theorem mB.laid(x:mB P w H h)(k:∀b u,h.get? b=some u->h'.get? b=some u)(g:h.objs.size<=a)(c:cH P w (upd H a o) h' a o):mB P w (upd H a o) h':=λb u e=>by
 have d:=x.fresh g;by_cases f:b=a
 ·subst f;rw[af]at e;cases e;exact c
 ·rw[ay f]at e;exact(x b u e).aK (λc v _ q=>k c v q) (λc q=>by rw[ay (av q d)];calc q) λc e q=>by rw[ay (av q d)];calc q
end
def Rd(H:Hp)(a:Addr)(u:HO):Prop:=H a=some u\/∃o,H a=some (.zX o u)
theorem Rd.ok{P:Program}{w:World}{h:Heap}{u:HO}(r:Rd H a u)(x:mB P w H h):cH P w H h a u:=by
 rcases r with r|⟨o,r⟩
 ·exact x a u r
 ·obtain⟨_,q⟩:=x a _ r;calc q
def Um:Option HO->Prop
 |some (.lst _)=>True
 |some (.dK _)=>True
 |some (.dT _)=>True
 |some (.set _ _)=>True
 |some (.ins _ _ _)=>True
 |some (.ext _)=>True
 |_=>False
section
variable {P:Program}{w:World}{H:Hp}{h h':Heap}{x e:Addr}{o':HO}
theorem mB.write(o:mB P w H h)(a:Um (H x))(l:e=x\/H e=some (.own x))(k:∀b u,b≠e->h.get? b=some u->h'.get? b=some u)(p:∃u,h'.get? e=some u)
  (j:cH P w (upd H x o') h' x o'):mB P w (upd H x o') h':=λb u q=>by
 have m:∀c y,H c=some (.own y)->c≠x:=λc y r z=>by subst z;rw[r]at a;exact a
 have s:∀c d,H c=some (.tup d)->c≠x:=λc d r z=>by subst z;rw[r]at a;exact a
 by_cases f:b=x
 ·subst f;rw[af]at q;cases q;exact j
 ·rw[ay f] at q;by_cases g:b=e
  ·have n:H b=some (.own x):=by
    rcases l with z|z
    ·exact absurd (g.trans z) f
    ·rw[g];exact z
   rw[q]at n;cases n;obtain⟨v,a⟩:=p;exact⟨v,by rw[g];calc a⟩
  ·refine(o b u q).aK (λc v i r=>k c v ?_ r) (λc r=>by rw[ay (m c b r)];calc r) λc d r=>by rw[ay (s c d r)];exact r
   rcases i with rfl|i
   ·exact g
   ·rintro rfl;rcases l with z | z
    ·exact m c b i z
    ·rw[i]at z;cases z;calc f rfl
end
structure Un(fs ex:List Addr)(H H':Hp)(h h':Heap):Prop where
 keep:∀b o,h.get? b=some o->H b=none->b∉fs->b∉ex->h'.get? b=some o
 slot:∀b o,h.get? b=some o->H b=none->b∈fs->b∉ex->∃sl,h'.get? b=some {o with slots:=sl}
 free:∀b o,h.get? b=some o->H b=none->b∉ex->H' b=none
 there:∀b o,h.get? b=some o->b∉ex->∃o',h'.get? b=some o'
 aS:∀b xs,H b=some (.tup xs)->H' b=some (.tup xs)
 ub:∀b o u,H b=some (.zX o u)->H' b=some (.zX o u)
 vZ:∀b ps,H b=some (.O8 ps)->∃more,H' b=some (.O8 (ps++more))
section
variable {fs zY ex ex':List Addr}{H H1 H2:Hp}{h h1 h2 h':Heap}{a x e:Addr}{o:HO}
theorem Un.any(u:Un fs ex H H1 h h1){b:Addr}{a:Obj}(q:h.get? b=some a)(n:H b=none)(c:b∉ex):∃d,h1.get? b=some {a with slots:=d}:=by
 by_cases d:b∈fs
 ·exact u.slot b a q n d c
 ·calc⟨a.slots,u.keep b a q n d c⟩
theorem Un.kept(k:∀b u,h.get? b=some u->h'.get? b=some u):Un fs ex H H h h':=
 ⟨λb a q _ _ _=>k b a q,λb a q _ _ _=>⟨a.slots,k b a q⟩,λ_ _ _ n _=>n,λb a q _=>⟨a,k b a q⟩,λ_ _ q=>q,λ_ _ _ q=>q,λ_ a q=>⟨#[],by rw[q];simp⟩⟩
theorem Un.refl:Un fs ex H H h h:=Un.kept λ_ _ q=>q
theorem Un.laid(k:∀b u,h.get? b=some u->h'.get? b=some u)(d:h.objs.size<=a)(c:H a=none):Un fs ex H (upd H a o) h h' where
 keep:=λb u q _ _ _=>k b u q
 slot:=λb u q _ _ _=>⟨u.slots,k b u q⟩
 free:=λb u q n _=>by rw[ay (Nat.ne_of_lt (Nat.lt_of_lt_of_le (Heap.lt_size q) d))];exact n
 there:=λb u q _=>⟨u,k b u q⟩
 aS:=λb d q=>by rw[ay (av q c)];exact q
 ub:=λb u d q=>by rw[ay (av q c)];exact q
 vZ:=λb d q=>⟨#[],by rw[ay (av q c),q];simp⟩
theorem Un.write(a:Um (H x))(i:e=x\/H e=some (.own x))(k:∀b u,b≠e->h.get? b=some u->h'.get? b=some u)(j:∃u,h'.get? e=some u):Un fs ex H (upd H x o) h h':=by
 have d:∀b,H b=none->b≠x:=λb n z=>by subst z;rw[n]at a;exact a
 have f:∀b,H b=none->b≠e:=λb n z=>by
  subst z;rcases i with r|r
  ·exact d b n r
  ·rw[n]at r;cases r
 have c:∀b u,H b=some u->¬Um (some u)->b≠x:=λb u q l z=>by subst z;rw[q]at a;exact l a
 refine⟨λb u q n _ _=>k b u (f b n) q,λb u q n _ _=>⟨u.slots,k b u (f b n) q⟩,λb u q n _=>by rw[ay (d b n)];exact n,λb u q _=>?_,
  λb a q=>by rw[ay (c b _ q λz=>z)];calc q,λb u a q=>by rw[ay (c b _ q λz=>z)];calc q,λb a q=>⟨#[],by rw[ay (c b _ q λz=>z),q];simp⟩⟩
 by_cases g:b=e
 ·subst g;exact j
 ·calc⟨u,k b u g q⟩
end
def Yx(h:Heap)(H:Hp):List Addr:=(List.range h.objs.size).filter λa=>(H a).isSome
def v7(h:Heap)(H:Hp):Heap:=W.hideAll h (Yx h H)
theorem DT(h:Heap)(H:Hp):(v7 h H).objs.size=h.objs.size:=W.hideAll_size _ _
theorem F5{h:Heap}{o:Obj}(e:h.get? b=some o)(n:H b=none):(v7 h H).get? b=some o:=
 W.hideAll_get _ e λa=>by
  have q:(H b).isSome=true:=(List.mem_filter.mp a).2;rw[n]at q;simp at q
theorem Ld{h:Heap}{H:Hp}{b:Addr}{o:Obj}(e:(v7 h H).get? b=some o):h.get? b=some o/\H b=none:=by
 have a:h.get? b=some o:=W.of_hideAll (Yx h H) e;refine⟨a,?_⟩
 cases q:H b with
 |none=>rfl
 |some x=>
  have c:b∈Yx h H:=List.mem_filter.mpr ⟨List.mem_range.mpr (T' a),by simp[q]⟩;have z:(v7 h H).get? b=none:=W.hideAll_none (Yx h H) c;rw[z]at e;cases e
end
section
variable {A:Around}{ch:List Addr}{t':Nat}{E:Value->Shared->Prop}
structure Mod(K:W.Frag)(mg:Str->Option Value)(base:Heap):Prop where
 xV:K.In base
 glob:base.Ns mainGlobals mg
 blt:∃mb,base.Ns builtinsNs mb/\∀x:Str,x≠"__name__"->mb x=bootBuiltins x
 nolimit:base.NoLimit
structure Cx where
 prog:Program
 w:World
 K:W.Frag
 mg:Str->Option Value
 base:Heap
 A:Around
 N:List Str
 s₀:Shared
 H₀:Hp
 env:Env
 outer:List Env
 stack:List Env
 ex:List Addr
 fn:Str->Bool
 calm:Bool
 pn:List (Addr×Obj)
 xe:Value->Shared->Prop
def xM(l:List Env):List Addr:=l.filterMap (·.frame)
abbrev Cx.fs(X:Cx):List Addr:=xM X.outer
def Up(a:Scope)(x:Str):Prop:=a.names.lookup x=some .local\/a.names.lookup x=some .cell\/a.names.lookup x=some .free
def Loc(a:Scope)(x:Str):Prop:=a.names.lookup x=some .local\/a.names.lookup x=some .cell
def Look(env:Env)(h:Heap)(m:Str->Option Value)(x:Str)(u:Value):Prop:=
 (env.kindOf x=some .local/\m x=some u)\/((env.kindOf x=some .cell\/env.kindOf x=some .free)/\∃c,env.cells.lookup x=some c/\h.IsCell c (some u))
structure Cx.Ok(X:Cx):Prop where
 mod:Mod X.K X.mg X.base
 kind:X.env.scope.kind=.function
 glob:X.env.globals=mainGlobals
 blt:X.env.builtins=builtinsNs
 above:X.s₀.heap.objs.size<=X.env.locals
 inj:∀x y c,X.env.cells.lookup x=some c->X.env.cells.lookup y=some c->x=y
 has:∀x,(X.env.kindOf x=some .cell\/X.env.kindOf x=some .free)->∃c,X.env.cells.lookup x=some c
 Ni:∀x c,X.fn x=true->X.env.cells.lookup x=some c->X.s₀.heap.objs.size<=c
 hd:X.calm=true->X.A.handled=none
 frames:X.A.frames=some X.stack
 Pa:X.stack=X.outer\/(X.stack=X.env::X.outer/\X.env.frame=some X.env.locals)
 SO:∀b∈X.ex,b≠X.env.locals/\∀x c,X.env.cells.lookup x=some c->c≠b
 bs:∀b o,X.base.get? b=some o->X.s₀.heap.get? b=some o/\X.H₀ b=none
 BX:X.base.objs.size<=X.s₀.heap.objs.size
 v8:∀b o,X.base.get? b=some o->b∉X.ex
 xW:∀b∈X.ex,b∉X.fs
 mr:X.s₀.heap.FunFrames X.base X.outer
 F6:∀b∈X.fs,X.H₀ b=none
structure Inv(X:Cx)(pins:List (Addr×Obj))(σ:List (Option V))(H:Hp)(s:Shared):Prop where
 ok:X.Ok
 os:s.os=X.s₀.os
 bare:AllBare s.gens
 base:Un X.fs X.ex X.H₀ H X.s₀.heap s.heap
 loc:∃m,s.heap.Ns X.env.locals m/\∀(i:Nat) (x:Str) (v:V),X.N[i]?=some x->σ[i]?=some (some v)->Up X.env.scope x->∃u,RelV v u/\Look X.env s.heap m x u
 cell:∀x c,X.env.cells.lookup x=some c->∃v,s.heap.IsCell c v
 free:H X.env.locals=none
 ib:∀x c,X.env.cells.lookup x=some c->H c=none
 pin:∀p∈X.pn++pins,s.heap.get? p.1=some p.2/\H p.1=none/\p.1≠X.env.locals/\p.1∉X.fs/\∀v,p.2.data≠.cell v
 aW:mB X.prog X.w H s.heap
 len:σ.length=X.N.length
section
variable {X:Cx}{pins:List (Addr×Obj)}{σ:List (Option V)}{H H':Hp}{s:Shared}{h':Heap}
theorem Cx.Ok.Pb(a:X.Ok){b:Addr}{o:Obj}(e:X.base.get? b=some o):b∉X.fs:=λc=>by
 have:=(a.mr.mem c).1;rw[e]at this;cases this
theorem Inv.bs(I:Inv X pins σ H s):∀b o,X.base.get? b=some o->s.heap.get? b=some o/\H b=none:=λb o e=>
 ⟨I.base.keep b o (I.ok.bs b o e).1 (I.ok.bs b o e).2 (I.ok.Pb e) (I.ok.v8 b o e),I.base.free b o (I.ok.bs b o e).1 (I.ok.bs b o e).2 (I.ok.v8 b o e)⟩
theorem Inv.bk(I:Inv X pins σ H s):∀b o,X.base.get? b=some o->s.heap.get? b=some o:=λb o e=>(I.bs b o e).1
theorem Inv.mod(I:Inv X pins σ H s):Mod X.K X.mg X.base:=I.ok.mod
theorem Inv.gG(I:Inv X pins σ H s):X.K.In s.heap:=I.ok.mod.xV.keeps I.bk
theorem Inv.lt(I:Inv X pins σ H s):X.env.locals<s.heap.objs.size:=let ⟨_,a,_⟩:=I.loc;a.lt
theorem Inv.sz(I:Inv X pins σ H s):X.s₀.heap.objs.size<=s.heap.objs.size:=aae I.ok.above (P' I.lt)
theorem Inv.Pc(I:Inv X pins σ H s){a:Addr}(h:s.heap.objs.size<=a):a∉X.fs:=λa=>by
 obtain⟨_,o,b,_⟩:=I.ok.mr.mem a;calc absurd (R' (T' b) (aae I.sz h)) (aaK _)
theorem Inv.F7(I:Inv X pins σ H s):∀x c,X.env.cells.lookup x=some c->c≠X.env.locals:=λx c e z=>by
 obtain⟨v,o,a,b⟩:=I.cell x c e;obtain⟨m,⟨g,h,i,d,f,_⟩,_⟩:=I.loc;rw[z,d]at a;cases a;rw[f]at b;cases b
theorem Inv.mr(I:Inv X pins σ H s):s.heap.FunFrames X.base X.outer:=by
 have a:∀(l:List Env),(∀b∈xM l,b∈X.fs)->X.s₀.heap.FunFrames X.base l->s.heap.FunFrames X.base l:=by
  intro l;induction l with
  |nil=>intro _ _;trivial
  |cons c r h=>
   intro g e;obtain⟨i,⟨L,o,c,j,f,k⟩,l⟩:=e;have d:L∈X.fs:=g L (by unfold xM;rw[List.filterMap_cons,c];calc aaD);obtain⟨m,e⟩:=I.base.slot L o f (I.ok.F6 L d) d λz=>I.ok.xW L z d;exact⟨i,⟨L,_,c,j,e,k⟩,h (λb f=>g b (by unfold xM;rw[List.filterMap_cons,c];calc aav _ f)) l⟩
 calc a X.outer (λ_ f=>f) I.ok.mr
theorem Inv.stack(I:Inv X pins σ H s):s.heap.FunFrames X.base X.stack:=by
 rcases I.ok.Pa with e|⟨e,a⟩
 ·rw[e];exact I.mr
 ·rw[e];obtain⟨m,b,_⟩:=I.loc;calc .cons (by rw[I.ok.kind];decide) a b ?_ I.mr;calc Heap.get?_none_of_le (aae I.ok.BX I.ok.above)
theorem Inv.v9(I:Inv X pins σ H s):∀b∈xM X.stack,b∈X.env.locals::X.fs:=λb a=>by
 rcases I.ok.Pa with e|⟨e,b⟩
 ·rw[e]at a;exact aav _ a
 ·rw[e]at a;unfold xM at a;rw[List.filterMap_cons,b]at a;calc a
theorem Inv.rE(I:Inv X pins σ H s):∀b∈xM X.stack,H b=none:=λb a=>by
 rcases List.mem_cons.mp (I.v9 b a) with e|a
 ·rw[e];exact I.free
 ·obtain⟨_,o,c,_⟩:=I.ok.mr.mem a;calc I.base.free b o c (I.ok.F6 b a) λz=>I.ok.xW b z a
theorem Inv.step{g':Array GenState}{t':Nat}{d':Drawn}(I:Inv X pins σ H s)
  (j:∀b∈ch,(b∈X.ex\/X.s₀.heap.objs.size<=b)/\b≠X.env.locals/\(∀x c,X.env.cells.lookup x=some c->c≠b)/\∀p∈X.pn++pins,p.1≠b)
  (keep:∀b o,b≠X.env.locals->b∉X.fs->b∉ch->s.heap.get? b=some o->H b=none->h'.get? b=some o)
  (slot:∀b o,b≠X.env.locals->b∈X.fs->b∉ch->s.heap.get? b=some o->H b=none->∃D,h'.get? b=some {o with slots:=D}) (free:∀b o,b∉ch->s.heap.get? b=some o->H b=none->H' b=none)
  (there:∀b o,b∉ch->s.heap.get? b=some o->∃k,h'.get? b=some k)
  (J:∀b xs,H b=some (.tup xs)->H' b=some (.tup xs)) (K:∀b o u,H b=some (.zX o u)->H' b=some (.zX o u)) (L:∀b B,H b=some (.O8 B)->∃q,H' b=some (.O8 (B++q)))
  (M:∀m,s.heap.Ns X.env.locals m->h'.Ns X.env.locals m) (N:mB X.prog X.w H' h') (O:AllBare g'):
  Inv X pins σ H' {s with heap:=h',gens:=g',drawn:=d',toks:=t'}:=by
 have t:∀b o,X.s₀.heap.get? b=some o->b≠X.env.locals:=λb o e=>W' (R' (T' e) I.ok.above);have C:∀b o,X.s₀.heap.get? b=some o->b∉X.ex->b∉ch:=λb o e a g=>by
  rcases(j b g).1 with z|z
  ·exact a z
  ·exact absurd (R' (T' e) z) (aaK _)
 have d:∀x c,X.env.cells.lookup x=some c->∀v,s.heap.IsCell c v->h'.IsCell c v:=λx c e v ⟨o,h,E⟩=>by
  have y:c∉ch:=λz=>(j c z).2.2.1 x c e rfl;by_cases F:c∈X.fs
  ·obtain⟨D,q⟩:=slot c o (I.F7 x c e) F y h (I.ib x c e);exact⟨_,q,E⟩
  ·exact⟨o,keep c o (I.F7 x c e) F y h (I.ib x c e),E⟩
 refine⟨I.ok,I.os,O,⟨λb o e n g a=>?_,λb o e n g a=>?_,λb o e n a=>?_,λb o e a=>?_,λb xs e=>J b xs (I.base.aS b xs e),λb o xs e=>K b o xs (I.base.ub b o xs e),λb B e=>?_⟩,?_,λx c e=>?_,?_,λx c e=>?_,λp G=>?_,N,I.len⟩
 ·exact keep b o (t b o e) g (C b o e a) (I.base.keep b o e n g a) (I.base.free b o e n a)
 ·obtain⟨D,f⟩:=I.base.slot b o e n g a;obtain⟨q,A⟩:=slot b _ (t b o e) g (C b o e a) f (I.base.free b o e n a);exact⟨q,A⟩
 ·obtain⟨k,f⟩:=I.base.there b o e a;exact free b k (C b o e a) f (I.base.free b o e n a)
 ·obtain⟨k,f⟩:=I.base.there b o e a;exact there b k (C b o e a) f
 ·obtain⟨a,f⟩:=I.base.vZ b B e;obtain⟨g,A⟩:=L b _ f;exact⟨a++g,by rw[A,Array.append_assoc]⟩
 ·obtain⟨m,a,P⟩:=I.loc;calc⟨m,M m a,λi x v f A Q=>?_⟩;obtain⟨u,r,l⟩:=P i x v f A Q;calc⟨u,r,?_⟩;rcases l with l | ⟨k,c,e,z⟩
  ·exact .inl l
  ·exact .inr ⟨k,c,e,d x c e _ z⟩
 ·obtain⟨v,z⟩:=I.cell x c e;exact⟨v,d x c e v z⟩
 ·obtain⟨m,⟨o,_,_,h,_⟩,_⟩:=I.loc;exact free _ o (λz=>(j _ z).2.1 rfl) h I.free
 ·obtain⟨v,o,h,E⟩:=I.cell x c e;exact free c o (λz=>(j c z).2.2.1 x c e rfl) h (I.ib x c e)
 ·obtain⟨e,n,a,b,d⟩:=I.pin p G;have y:p.1∉ch:=λz=>(j p.1 z).2.2.2 p G rfl;calc⟨keep p.1 p.2 a b y e n,free p.1 p.2 y e n,a,b,d⟩
theorem Inv.un(I:Inv X pins σ H s)(u:Un X.fs [] H H' s.heap h')(f:mB X.prog X.w H' h'):Inv X pins σ H' {s with heap:=h',toks:=t'}:=by
 obtain⟨m,⟨o,a,b,c,r⟩,_⟩:=id I.loc;obtain⟨a,g⟩:=u.any c I.free nofun;exact I.step (g':=s.gens) (d':=s.drawn) (ch:=[]) (λ_ z=>nomatch z) (λb o _ a _ e n=>u.keep b o e n a nofun) (λb o _ a _ e n=>u.slot b o e n a nofun) (λb o _ e n=>u.free b o e n nofun) (λb o _ e=>u.there b o e nofun) u.aS u.ub u.vZ (λa h=>by
  obtain⟨a,i,j,d,k⟩:=h;rw[c] at d;cases d;calc⟨_,i,j,g,k⟩) f I.bare
theorem Inv.call{g':Array GenState}{d':Drawn}(I:Inv X pins σ H s)(u:Un (xM X.stack) ch H H' s.heap h')(i:mB X.prog X.w H' h')(j:AllBare g')
  (f:∀b∈ch,(b∈X.ex\/X.s₀.heap.objs.size<=b)/\b≠X.env.locals/\(∀x c,X.env.cells.lookup x=some c->c≠b)/\∀p∈X.pn++pins,p.1≠b):
  Inv X pins σ H' {s with heap:=h',gens:=g',drawn:=d',toks:=t'}:=by
 obtain⟨m,⟨o,a,c,g,r⟩,_⟩:=id I.loc;obtain⟨a,d⟩:=u.any g I.free λz=>(f _ z).2.1 rfl;exact I.step (ch:=ch) f (λb o d c a e n=>u.keep b o e n (λz=>(List.mem_cons.mp (I.v9 b z)).elim d c) a) (λb o _ _ a e n=>u.any e n a) (λb o a e n=>u.free b o e n a) (λb o a e=>u.there b o e a) u.aS u.ub u.vZ (λc k=>by
  obtain⟨a,l,q,h,t⟩:=k;rw[g] at h;cases h;calc⟨_,l,q,d,t⟩) i j
theorem Inv.turned{a:Addr}(I:Inv X pins σ H s)(k:∀b o,b≠a->s.heap.get? b=some o->h'.get? b=some o)(j:H a=none)(g:a≠X.env.locals)
  (l:a∈X.ex\/X.s₀.heap.objs.size<=a) (r:∀x c,X.env.cells.lookup x=some c->c≠a) (t:∀p∈X.pn++pins,p.1≠a):Inv X pins σ H {s with heap:=h',toks:=t'}:=by
 have i:∀b u,H b=some u->b≠a:=λb u e z=>by rw[z,j]at e;cases e
 refine I.step (g':=s.gens) (d':=s.drawn) (ch:=[a]) (λb j=>?_) (λb o _ _ d e _=>k b o (λz=>d (by simp[z])) e) (λb o _ _ d e _=>⟨o.slots,k b o (λz=>d (by simp[z])) e⟩) (λ_ _ _ _ n=>n)
  (λb o d e=>⟨o,k b o (λz=>d (by simp[z])) e⟩) (λ_ _ e=>e) (λ_ _ _ e=>e) (λb m e=>⟨#[],by rw[e];simp⟩) (λm v=>?_) (λb u e=>?_) I.bare
 ·have e:b=a:=by simpa using j
  subst e;exact⟨l,g,r,t⟩
 ·obtain⟨o,a,j,l,r⟩:=v;exact⟨o,a,j,k _ o (Ne.symm g) l,r⟩
 ·calc(I.aW b u e).aK (λc v d q=>k c v ?_ q) (λ_ q=>q) λ_ _ q=>q;rcases d with z | z
  ·rw[z];exact i b u e
  ·calc i c _ z
theorem Inv.tok(I:Inv X pins σ H s)(t:Nat):Inv X pins σ H {s with toks:=t}:=I.un (h':=s.heap) (t':=t) Un.refl I.aW
theorem Inv.kept(I:Inv X pins σ H s)(k:∀b u,s.heap.get? b=some u->h'.get? b=some u):Inv X pins σ H {s with heap:=h',toks:=t'}:=I.un (Un.kept k) (I.aW.kept k)
theorem Inv.laid{a:Addr}{o:HO}(I:Inv X pins σ H s)(k:∀b u,s.heap.get? b=some u->h'.get? b=some u)(c:s.heap.objs.size<=a)(d:cH X.prog X.w (upd H a o) h' a o):
  Inv X pins σ (upd H a o) {s with heap:=h',toks:=t'}:=I.un (Un.laid k c (I.aW.fresh c)) (I.aW.laid k c d)
theorem Inv.write{x e:Addr}{o:HO}(I:Inv X pins σ H s)(c:Um (H x))(d:e=x\/H e=some (.own x))(k:∀b u,b≠e->s.heap.get? b=some u->h'.get? b=some u)(f:∃u,h'.get? e=some u)
  (a:cH X.prog X.w (upd H x o) h' x o):Inv X pins σ (upd H x o) {s with heap:=h',toks:=t'}:=I.un (Un.write c d k f) (I.aW.write c d k f a)
theorem Inv.wa{a:List (Addr×Obj)}(I:Inv X pins σ H s)(h:∀p∈a,s.heap.get? p.1=some p.2/\H p.1=none/\p.1≠X.env.locals/\p.1∉X.fs/\∀v,p.2.data≠.cell v):Inv X a σ H s:=
 ⟨I.ok,I.os,I.bare,I.base,I.loc,I.cell,I.free,I.ib,λp a=>(List.mem_append.mp a).elim (λz=>I.pin p (List.mem_append_left _ z)) (h p),I.aW,I.len⟩
theorem rW{N:List Str}(c:N.Nodup){i j:Nat}{x:Str}(a:N[i]?=some x)(b:N[j]?=some x):i=j:=by
 obtain⟨e,d⟩:=List.getElem?_eq_some_iff.mp a;obtain⟨g,e⟩:=List.getElem?_eq_some_iff.mp b;calc(List.getElem_inj c).mp (d.trans e.symm)
theorem DU{M:Model}{i:Nat}{x:Str}{v:V}{u:Value}{Q:Unit->Shared->Prop}(I:Inv X pins σ H s)(hN:X.N.Nodup)(L:X.N[i]?=some x)(C:Loc X.env.scope x)(r:RelV v u)
  (h:∀s',Inv X pins (σ.set i (some v)) H s'->(∃a,Heap.SameBut a s.heap s'.heap/\(a=X.env.locals\/X.env.cells.lookup x=some a))->Q ⟨⟩ s') (hf:X.fn x=true\/X.env.scope.names.lookup x=some .local:=by grind):wpAny M A (storeName X.env x u) Q E s:=by
 obtain⟨m,T,hl⟩:=id I.loc;have ZY:(X.env.scope.kind == .class||(X.env.scope.kind == .module&&X.env.locals !=X.env.globals))=false:=by rw[I.ok.kind];rfl
 have Ur:i<σ.length:=by rw[I.len];exact(List.getElem?_eq_some_iff.mp L).1
 have U:=I.F7;have l:∀{a:Addr} {h':Heap},(∃o,s.heap.get? a=some o/\H a=none)->Heap.SameBut a s.heap h'->mB X.prog X.w H h':=λ{a h'} v g b M e=>by
  obtain⟨_,_,Nl⟩:=v;calc(I.aW b M e).aK (λc P B q=>(g.2 c ?_).trans q) (λ_ q=>q) λ_ _ q=>q;rintro rfl;rcases B with rfl|B
  ·rw[Nl]at e;cases e
  ·rw[Nl]at B;cases B
 rcases C with G|G
 ·calc wpAny_storeName_local G T (λh' v g=>?_) ZY;obtain⟨M,_,_,a,_⟩:=id T;refine h _ ⟨I.ok,I.os,I.bare,⟨λb o e n J C=>?_,λb o e n J C=>?_,I.base.free,λb o e C=>?_,I.base.aS,I.base.ub,I.base.vZ⟩,⟨_,v,λj y W t F Y=>?_⟩,λy c e=>?_,I.free,I.ib,λp Z=>?_,l ⟨M,a,I.free⟩ g,by simpa using I.len⟩ ⟨_,g,.inl rfl⟩
  ·exact(g.2 b (W' (R' (T' e) I.ok.above))).trans (I.base.keep b o e n J C)
  ·obtain⟨sl,t⟩:=I.base.slot b o e n J C;exact⟨sl,(g.2 b (W' (R' (T' e) I.ok.above))).trans t⟩
  ·obtain⟨o',t⟩:=I.base.there b o e C;exact⟨o',(g.2 b (W' (R' (T' e) I.ok.above))).trans t⟩
  ·by_cases K:j=i
   ·subst K;rw[L] at t;cases t;rw[List.getElem?_set_self Ur] at F
    cases F;exact⟨u,r,.inl ⟨G,nofun⟩⟩
   ·rw[List.getElem?_set_ne (Ne.symm K)] at F;obtain⟨u',r',q⟩:=hl j y W t F Y;calc⟨u',r',?_⟩;rcases q with⟨k,e⟩ | ⟨k,c,e,z⟩
    ·calc .inl ⟨k,?_⟩;have:y≠x:=λe=>K (rW hN t (e▸L));simp[this,e]
    ·exact .inr ⟨k,c,e,z.sameBut g (U y c e)⟩
  ·obtain⟨P,z⟩:=I.cell y c e;exact⟨P,z.sameBut g (U y c e)⟩
  ·obtain⟨e,n,R,nf,d⟩:=I.pin p Z;exact⟨(g.2 p.1 R).trans e,n,R,nf,d⟩
 ·have Pd:X.fn x=true:=by
   rcases hf with z|z
   ·exact z
   ·rw[z]at G;cases G
  obtain⟨c,B⟩:=I.ok.has x (.inl G);obtain⟨P,z⟩:=I.cell x c B;calc wpAny_storeName_cell I.ok.kind G B z (λh' rX g=>?_);obtain⟨oc,Yz,ZZ⟩:=id z;refine h {s with heap:=h'} ⟨I.ok,I.os,I.bare,⟨λb o e n J C=>?_,λb o e n J C=>?_,I.base.free,λb o e C=>?_,I.base.aS,I.base.ub,I.base.vZ⟩,⟨m,T.sameBut g (Ne.symm (U x c B)),λj y W t F Y=>?_⟩,λy S e=>?_,I.free,I.ib,λp Z=>?_,l ⟨oc,Yz,I.ib x c B⟩ g,by simpa using I.len⟩ ⟨c,g,.inr B⟩
  ·exact(g.2 b (W' (R' (T' e) (I.ok.Ni x c Pd B)))).trans (I.base.keep b o e n J C)
  ·obtain⟨sl,t⟩:=I.base.slot b o e n J C;exact⟨sl,(g.2 b (W' (R' (T' e) (I.ok.Ni x c Pd B)))).trans t⟩
  ·obtain⟨o',t⟩:=I.base.there b o e C;exact⟨o',(g.2 b (W' (R' (T' e) (I.ok.Ni x c Pd B)))).trans t⟩
  ·by_cases K:j=i
   ·subst K;rw[L] at t;cases t;rw[List.getElem?_set_self Ur] at F
    cases F;exact⟨u,r,.inr ⟨.inl G,c,B,rX⟩⟩
   ·rw[List.getElem?_set_ne (Ne.symm K)] at F;obtain⟨u',r',q⟩:=hl j y W t F Y;calc⟨u',r',?_⟩;rcases q with q | ⟨k,S,e,z'⟩
    ·exact .inl q
    ·calc .inr ⟨k,S,e,z'.sameBut g ?_⟩;rintro rfl;exact K (rW hN t (I.ok.inj _ _ _ e B▸L))
  ·by_cases O:S=c
   ·subst O;exact⟨_,rX⟩
   ·obtain⟨a,b⟩:=I.cell y S e;exact⟨a,b.sameBut g O⟩
  ·obtain⟨e,n,R,nf,d⟩:=I.pin p Z;calc⟨(g.2 p.1 ?_).trans e,n,R,nf,d⟩;intro q;rw[q,Yz]at e;have a:oc=p.2:=Option.some.inj e;calc d P (by rw[<-a];calc ZZ)
theorem ic{M:Model}{i:Nat}{x:Str}{v:V}{u:Value}{Q:Unit->Shared->Prop}(I:Inv X pins σ H s)(a:X.N.Nodup)(b:X.N[i]?=some x)(c:Loc X.env.scope x)(r:RelV v u)
  (h:∀s',Inv X pins (σ.set i (some v)) H s'->Q ⟨⟩ s') (d:X.fn x=true\/X.env.scope.names.lookup x=some .local:=by grind):wpAny M A (storeName X.env x u) Q E s:=
 DU I a b c r (λs' e _=>h s' e) d
theorem Inv.Nm{s':Shared}(I:Inv X pins σ H s)(f:s'.os=s.os)(u:Un (xM X.stack) ch H H' s.heap s'.heap)(g:mB X.prog X.w H' s'.heap)(h:AllBare s'.gens)
  (i:∀b∈ch,(b∈X.ex\/X.s₀.heap.objs.size<=b)/\b≠X.env.locals/\(∀x c,X.env.cells.lookup x=some c->c≠b)/\∀p∈X.pn++pins,p.1≠b):Inv X pins σ H' s':=by
 obtain⟨h',a,d,t',b⟩:=s';have e:b=s.os:=f;subst e;calc I.call (g':=a) (t':=t') (d':=d) u g h i
end
abbrev XK:=Value->Option Addr->Hp->Prop
abbrev St:=List (Option V)
abbrev VK:=V->Hp->Prop
abbrev TE:=St->Hp->VK->Prop
abbrev TT:=St->Hp->(Bool->Hp->Prop)->Prop
abbrev TA:=St->Hp->(List V->Hp->Prop)->Prop
structure Ends where
 nx:St->Hp->Prop
 rt:VK
 bk:St->Hp->Prop:=λ_ _=>False
 ct:St->Hp->Prop:=λ_ _=>False
abbrev TS:=Ends->St->Hp->Prop
def EP(X:Cx)(pins:List (Addr×Obj))(σ:St)(Q:VK)(u:Value)(s':Shared):Prop:=∃v a,Inv X pins σ a s'/\RelV v u/\Q v a
def TP(X:Cx)(pins:List (Addr×Obj))(σ:St)(Q:Bool->Hp->Prop)(b:Bool)(s':Shared):Prop:=∃a,Inv X pins σ a s'/\Q b a
def AP(X:Cx)(pins:List (Addr×Obj))(σ:St)(Q:List V->Hp->Prop)(us:List Value)(s':Shared):Prop:=∃vs a,Inv X pins σ a s'/\Vals vs us/\Q vs a
def SP(X:Cx)(pins:List (Addr×Obj))(D:Ends)(f:Flow)(s':Shared):Prop:=
 match f with
 | .next=>∃a b,Inv X pins a b s'/\D.nx a b
 | .brk=>∃a b,Inv X pins a b s'/\D.bk a b
 | .cont=>∃a b,Inv X pins a b s'/\D.ct a b
 | .ret u=>∃v a b,Inv X pins a b s'/\RelV v u/\D.rt v b
structure PE(X:Cx)(e:Expr)(t:TE):Prop where
 out:
  ∀(pins:List (Addr×Obj)) (s:Shared) (σ:St) (H:Hp) (Q:VK),Inv X pins σ H s->t σ H Q->wpAny (model X.prog X.w) X.A (eval e X.env) (EP X pins σ Q) X.xe s
instance {X:Cx}{e:Expr}{t:TE}:CoeFun (PE X e t) λ_=>
 ∀(pins:List (Addr×Obj)) (s:Shared) (σ:St) (H:Hp) (Q:VK),Inv X pins σ H s->t σ H Q->wpAny (model X.prog X.w) X.A (eval e X.env) (EP X pins σ Q) X.xe s:=⟨PE.out⟩
structure PT(X:Cx)(e:Expr)(t:TT):Prop where
 out:
  ∀(pins:List (Addr×Obj)) (s:Shared) (σ:St) (H:Hp) (Q:Bool->Hp->Prop),Inv X pins σ H s->t σ H Q->wpAny (model X.prog X.w) X.A (isTrue e X.env (eval e X.env)) (TP X pins σ Q) X.xe s
instance {X:Cx}{e:Expr}{t:TT}:CoeFun (PT X e t) λ_=>
 ∀(pins:List (Addr×Obj)) (s:Shared) (σ:St) (H:Hp) (Q:Bool->Hp->Prop),Inv X pins σ H s->t σ H Q->wpAny (model X.prog X.w) X.A (isTrue e X.env (eval e X.env)) (TP X pins σ Q) X.xe s:=⟨PT.out⟩
structure PW(X:Cx)(e:Expr)(t:TT):Prop where
 out:
  ∀(whole:Sem Value) (pins:List (Addr×Obj)) (s:Shared) (σ:St) (H:Hp) (Q:Bool->Hp->Prop),Inv X pins σ H s->t σ H Q->wpAny (model X.prog X.w) X.A (isTrue e X.env whole) (TP X pins σ Q) X.xe s
instance {X:Cx}{e:Expr}{t:TT}:CoeFun (PW X e t) λ_=>
 ∀(a:Sem Value) (pins:List (Addr×Obj)) (s:Shared) (σ:St) (H:Hp) (Q:Bool->Hp->Prop),Inv X pins σ H s->t σ H Q->wpAny (model X.prog X.w) X.A (isTrue e X.env a) (TP X pins σ Q) X.xe s:=⟨PW.out⟩
theorem PW.pt{X:Cx}{e:Expr}{t:TT}(h:PW X e t):PT X e t:=⟨h.out _⟩
structure PA(X:Cx)(es:List Expr)(t:TA):Prop where
 out:
  ∀(pos:Pos) (pins:List (Addr×Obj)) (s:Shared) (σ:St) (H:Hp) (Q:List V->Hp->Prop),Inv X pins σ H s->t σ H Q->wpAny (model X.prog X.w) X.A (spliced (backTo pos (starEach es X.env))) (AP X pins σ Q) X.xe s
instance {X:Cx}{b:List Expr}{t:TA}:CoeFun (PA X b t) λ_=>
 ∀(a:Pos) (pins:List (Addr×Obj)) (s:Shared) (σ:St) (H:Hp) (Q:List V->Hp->Prop),Inv X pins σ H s->t σ H Q->wpAny (model X.prog X.w) X.A (spliced (backTo a (starEach b X.env))) (AP X pins σ Q) X.xe s:=⟨PA.out⟩
structure PS(X:Cx)(st:Stmt)(t:TS):Prop where
 out:
  ∀(pins:List (Addr×Obj)) (s:Shared) (σ:St) (H:Hp) (D:Ends),Inv X pins σ H s->t D σ H->wpAny (model X.prog X.w) X.A (exec st X.env) (SP X pins D) X.xe s
instance {X:Cx}{a:Stmt}{t:TS}:CoeFun (PS X a t) λ_=>
 ∀(pins:List (Addr×Obj)) (s:Shared) (σ:St) (H:Hp) (D:Ends),Inv X pins σ H s->t D σ H->wpAny (model X.prog X.w) X.A (exec a X.env) (SP X pins D) X.xe s:=⟨PS.out⟩
structure rF(X:Cx)(st:List Stmt)(t:TS):Prop where
 out:
  ∀(pins:List (Addr×Obj)) (s:Shared) (σ:St) (H:Hp) (D:Ends),Inv X pins σ H s->t D σ H->wpAny (model X.prog X.w) X.A (execs st X.env) (SP X pins D) X.xe s
instance {X:Cx}{a:List Stmt}{t:TS}:CoeFun (rF X a t) λ_=>
 ∀(pins:List (Addr×Obj)) (s:Shared) (σ:St) (H:Hp) (D:Ends),Inv X pins σ H s->t D σ H->wpAny (model X.prog X.w) X.A (execs a X.env) (SP X pins D) X.xe s:=⟨rF.out⟩
theorem cK{α:Type}{t:Sem α}{Q b:α->Shared->Prop}{M:Model}{s:Shared}(h:wpAny M A t Q E s)(c:∀a s,Q a s->b a s):wpAny M A t b E s:=aal h c λ_ _ x=>x
end
section
variable {pins:List (Addr×Obj)}{pos:Pos}{σ:St}{x:Str}{u:Value}{E Q:Value->Shared->Prop}
section
variable {X:Cx}
def F8(i:Nat):TE:=λσ H Q=>∃v,σ[i]?=some (some v)/\Q v H
def tC(v:V):TE:=λ_ H Q=>Q v H
theorem F9{i:Nat}(c:X.N[i]?=some x)(j:Up X.env.scope x)(d:(x==("__debug__":Str))=false:=by decide)(k:(x==("__classdict__":Str))=false:=by decide):PE X (.Name x pos) (F8 i):=by
 walk_at "xc";obtain⟨v,e,h⟩:=h;obtain⟨m,n,o⟩:=I.loc;obtain⟨u,r,l⟩:=o i x v c e j;have a:EP X pins σ Q u s:=⟨v,H,I,r,h⟩
 rcases l with⟨b,e⟩|⟨b,c,f,g⟩
 ·exact wpAny_Name (wpAny_loadName_local I.ok.kind b n e a) d
 ·rcases b with b | b
  ·exact wpAny_Name (wpAny_loadName_cell I.ok.kind b f g a) d
  ·calc wpAny_Name (wpAny_loadName_free I.ok.kind b f g a k) d
theorem ai{i j pos}:PE X (.Constant (.int i) j pos) (tC (.int i)):=.mk λ_ _ _ H _ I h=>wpAny_Constant_int ⟨.int i,H,I.tok _,⟨_,rfl⟩,h⟩
theorem iW{b j pos}:PE X (.Constant (.bool b) j pos) (tC (.bl b)):=.mk λ_ _ _ H _ I h=>Constant_bool ⟨.bl b,H,I,rfl,h⟩
theorem kG{j pos}:PE X (.Constant .none j pos) (tC .bI):=.mk λ_ _ _ H _ I h=>Constant_none ⟨.bI,H,I,rfl,h⟩
theorem aD{x j pos}:PE X (.Constant (.str x) j pos) (tC (.str x)):=.mk λ_ _ _ H _ I h=>Calls.Constant_str ⟨.str x,H,I.tok _,⟨_,rfl⟩,h⟩
def Gl(X:Cx)(x:Str):Prop:=X.env.kindOf x=some .globalImplicit
theorem jU{s:Shared}{H:Hp}(I:Inv X pins σ H s)(a:Gl X x)(b:X.mg x=some u)(h:Q u s)
  (c:(x==("__debug__":Str))=false:=by decide):wpAny (model X.prog X.w) X.A (eval (.Name x pos) X.env) Q E s:=
 Calls.Name_function_global I.ok.kind a (Calls.loadGlobal_global (by rw[I.ok.glob];calc I.mod.glob.keeps I.bk) b h) c
theorem pG{s:Shared}{H:Hp}(I:Inv X pins σ H s)(a:Gl X x)(b:X.mg x=none)(c:bootBuiltins x=some u)(h:Q u s)
  (d:x≠"__name__":=by decide) (e:(x==("__debug__":Str))=false:=by decide):wpAny (model X.prog X.w) X.A (eval (.Name x pos) X.env) Q E s:=by
 obtain⟨i,f,g⟩:=I.mod.blt;calc Calls.Name_function_global I.ok.kind a (Calls.loadGlobal_builtin (by rw[I.ok.glob];calc I.mod.glob.keeps I.bk) b (by rw[I.ok.blt];calc f.keeps I.bk) ((g x d).trans c) h) e
theorem cA{v:V}(a:Gl X x)(b:X.mg x=some u)(r:RelV v u)(c:(x==("__debug__":Str))=false:=by decide):PE X (.Name x pos) (tC v):=
 .mk λ_ _ _ H _ I h=>jU I a b ⟨v,H,I,r,h⟩ c
theorem dC{v:V}(a:Gl X x)(b:X.mg x=none)(c:bootBuiltins x=some u)(r:RelV v u)(d:x≠"__name__":=by decide)(e:(x==("__debug__":Str))=false:=by decide):PE X (.Name x pos) (tC v):=
 .mk λ_ _ _ H _ I h=>pG I a b c ⟨v,H,I,r,h⟩ d e
variable {a b:Expr}{ta tb:TE}{pos:Pos}
structure PC(X:Cx)(op:CmpOp)(a b:Expr)(t:TE):Prop where
 out:
  ∀(pins:List (Addr×Obj)) (s:Shared) (σ:St) (H:Hp) (Q:VK),Inv X pins σ H s->t σ H Q->
   wpAny (model X.prog X.w) X.A (eval a X.env) (λv s₁=>wpAny (model X.prog X.w) X.A (eval b X.env) (λu s₂=>wpAny (model X.prog X.w) X.A (compareOp op v u) (EP X pins σ Q) X.xe s₂) X.xe s₁) X.xe s
instance {X:Cx}{e:CmpOp}{a b:Expr}{t:TE}:CoeFun (PC X e a b t) λ_=>
 ∀(pins:List (Addr×Obj)) (s:Shared) (σ:St) (H:Hp) (Q:VK),Inv X pins σ H s->t σ H Q->
  wpAny (model X.prog X.w) X.A (eval a X.env) (λv c=>wpAny (model X.prog X.w) X.A (eval b X.env) (λu d=>wpAny (model X.prog X.w) X.A (compareOp e v u) (EP X pins σ Q) X.xe d) X.xe c) X.xe s:=⟨PC.out⟩
theorem Gd(b:Expr){a:CmpOp}(h:a≠.In)(c:a≠.NotIn):behindInMarks a b=false:=by
 have d:(a==CmpOp.In)=false:=by cases a<;>first|rfl|exact absurd rfl h
 have e:(a==CmpOp.NotIn)=false:=by cases a<;>first|rfl|exact absurd rfl c
 cases b<;>simp[behindInMarks,d,e]
def tB(t:TE):TT:=λσ H Q=>t σ H λx a=>∃c,x=.bl c/\Q c a
theorem Pe{c:CmpOp}{t:TE}(h:PC X c a b t)(e:behindInMarks c b=false:=by first|calc Gd _ ∅ ∅|rfl):PT X (.Compare a [c] [b] pos) (tB t):=by
 calc⟨?_⟩;intro pins s σ H Q I c;calc wpAny_isTrue_Compare1 (cK (h pins s σ H _ I c) λv f e=>cK e λu c f=>cK f λc h g=>?_) e;obtain⟨x,i,j,k,l⟩:=g;obtain⟨d,rfl,q⟩:=l
 cases k;calc aaA ⟨i,j,q⟩
theorem Pf{e:Expr}{t:TE}(h:PE X e t)(b:∀a,isTrue e X.env a=(do let v <-a;standAt e.pos;holding [v] (truthy v)):=by intro _;rfl):PT X e (tB t):=by
 calc⟨?_⟩;intro pins s σ H Q I a;calc isTrue_plain (cK (h pins s σ H _ I a) λv e c=>?_) (b _);obtain⟨x,f,g,i,j⟩:=c;obtain⟨d,rfl,q⟩:=j
 cases i;calc aaA ⟨f,g,q⟩
variable {tA YA:TT}{rest:List Expr}
def Pg(t u:TT):TT:=λσ H Q=>t σ H λc a=>if c=true then u σ a Q else Q false a
def Z0(t u:TT):TT:=λσ H Q=>t σ H λc a=>if c=true then Q true a else u σ a Q
def Ph(t:TT):TT:=λσ H Q=>t σ H λc a=>Q (!c) a
theorem pw_and1(b:PT X a tA):PW X (.BoolOp .And [a] pos) tA:=by
 calc⟨?_⟩;intro d pins s σ H Q I h;refine isTrue_and (cK (b pins s σ H Q I h) λc f e=>?_)
 cases c with
 |true=>calc isTrue_and_nil e
 |false=>calc e
theorem pw_or1(b:PT X a tA):PW X (.BoolOp .Or [a] pos) tA:=by
 calc⟨?_⟩;intro d pins s σ H Q I h;refine isTrue_or (cK (b pins s σ H Q I h) λc f e=>?_)
 cases c with
 |false=>calc isTrue_or_nil e
 |true=>calc e
theorem pw_and(g:PT X a tA)(i:PW X (.BoolOp .And (b::rest) pos) YA):PW X (.BoolOp .And (a::b::rest) pos) (Pg tA YA):=by
 calc⟨?_⟩;intro j pins s σ H Q I h;calc isTrue_and (cK (g pins s σ H _ I h) λc k l=>?_);obtain⟨d,e,f⟩:=l
 cases c with
 |true=>calc i j pins k σ d Q e f
 |false=>calc⟨d,e,f⟩
theorem pw_or(g:PT X a tA)(i:PW X (.BoolOp .Or (b::rest) pos) YA):PW X (.BoolOp .Or (a::b::rest) pos) (Z0 tA YA):=by
 calc⟨?_⟩;intro j pins s σ H Q I h;calc isTrue_or (cK (g pins s σ H _ I h) λc k l=>?_);obtain⟨d,e,f⟩:=l
 cases c with
 |true=>calc⟨d,e,f⟩
 |false=>calc i j pins k σ d Q e f
theorem cL(b:PT X a tA):PT X (.UnaryOp .Not a pos) (Ph tA):=by
 walk_at "xc";exact isTrue_not (b pins s σ H (λc d=>Q (!c) d) I h)
def Ge(ta tb:TE):TE:=λσ H Q=>ta σ H λx a=>∃c,x=.bl c/\if c=true then tb σ a Q else Q (.bl false) a
def Pj(ta tb:TE):TE:=λσ H Q=>ta σ H λx a=>∃c,x=.bl c/\if c=true then Q (.bl true) a else tb σ a Q
def Gf(ta:TE):TE:=λσ H Q=>ta σ H λx a=>∃c,x=.bl c/\Q (.bl (!c)) a
theorem gK{op}{t:TE}(h:PE X a t):PE X (.BoolOp op [a] pos) t:=.mk λpins s σ H Q I b=>BoolOp_one (h pins s σ H Q I b)
theorem i8(g:PE X a ta)(i:PE X (.BoolOp .And (b::rest) pos) tb):PE X (.BoolOp .And (a::b::rest) pos) (Ge ta tb):=by
 walk_at "xc";refine BoolOp_and (cK (g pins s σ H _ I h) λv j k=>?_);obtain⟨x,e,f,l,d⟩:=k;obtain⟨c,rfl,d⟩:=d
 cases l;refine aaA ?_
 cases c with
 |true=>calc i pins j σ e Q f d
 |false=>calc⟨.bl false,e,f,rfl,d⟩
theorem BZ(g:PE X a ta)(i:PE X (.BoolOp .Or (b::rest) pos) tb):PE X (.BoolOp .Or (a::b::rest) pos) (Pj ta tb):=by
 walk_at "xc";refine BoolOp_or (cK (g pins s σ H _ I h) λv j k=>?_);obtain⟨x,e,f,l,d⟩:=k;obtain⟨c,rfl,d⟩:=d
 cases l;refine aaA ?_
 cases c with
 |false=>calc i pins j σ e Q f d
 |true=>calc⟨.bl true,e,f,rfl,d⟩
theorem Pk(d:PE X a ta):PE X (.UnaryOp .Not a pos) (Gf ta):=by
 walk_at "xc";refine UnaryOp_ (cK (d pins s σ H _ I h) λv j e=>?_);obtain⟨x,f,g,i,b⟩:=e;obtain⟨c,rfl,b⟩:=b
 cases i;calc not_of (aaA ⟨.bl (!c),f,g,rfl,b⟩)
def Z1(t:TT)(ta tb:TE):TE:=λσ H Q=>t σ H λc a=>if c=true then ta σ a Q else tb σ a Q
theorem Gg{c:Expr}(j:PT X c tA)(k:PE X a ta)(l:PE X b tb):PE X (.IfExp c a b pos) (Z1 tA ta tb):=by
 walk_at "xc";refine wpAny_IfExp (cK (j pins s σ H _ I h) λd e c=>?_);obtain⟨f,g,i⟩:=c
 cases d with
 |true=>calc k pins e σ f Q g i
 |false=>calc l pins e σ f Q g i
end
end
section
variable {X:Cx}{e tg:Expr}{pins:List (Addr×Obj)}{i:Nat}{σ:St}{x:Str}{te:TE}{K:W.Frag}
def aT(K:W.Frag)(H:Hp)(a:Addr)(xs:List V):Prop:=
 Rd H a (.lst xs)\/
  ∃(o:Obj) (b:Array Value) (n:Nat),K.lookup a=some o/\o.cls=.type "list"/\o.dict=none/\o.data=.seq b n/\b.size<=sizeLine/\Vals xs b.toList
def bJ(K:W.Frag)(H:Hp)(a:Addr)(xs:List V):Prop:=
 Rd H a (.tup xs)\/
  ∃(o:Obj) (b:Array Value) (n:Nat),K.lookup a=some o/\o.cls=.type "tuple"/\o.data=.seq b n/\b.size<=sizeLine/\Vals xs b.toList
def Z2:Value->Option V
 | .none=>some .bI
 | .bool b=>some (.bl b)
 | .int i _=>some (.int i)
 | .str x _=>some (.str x)
 | .bytes b _=>some (.BV b)
 | .float b _=>some (.Nh b)
 | .ref a=>some (.ref a)
 | .type n=>some (.ty n)
 |_=>none
theorem RelV.abs{x:V}{u:Value}(r:RelV x u):Z2 u=some x:=by
 cases x with
 |bI=>cases r;rfl
 |bl _=>cases r;rfl
 |int _=>obtain⟨t,rfl⟩:=r;rfl
 |str _=>obtain⟨t,rfl⟩:=r;rfl
 |BV _=>obtain⟨t,rfl⟩:=r;rfl
 |Nh _=>obtain⟨t,rfl⟩:=r;rfl
 |ref _=>cases r;rfl
 |ty _=>cases r;rfl
theorem RelV.inj{x y:V}{u:Value}(r:RelV x u)(q:RelV y u):x=y:=Option.some.inj (r.abs.symm.trans q.abs)
theorem Vals.inj:∀{xs a:List V}{us:List Value},Vals xs us->Vals a us->xs=a
 |_,_,_,.nil,.nil=>rfl
 |_,_,_,.cons r t,.cons a b=>by rw[r.inj a,Vals.inj t b]
section
variable {X:Cx}{pins:List (Addr×Obj)}{σ:St}{H:Hp}{s:Shared}{a:Addr}{xs ys:List V}
theorem aT.of(h:H a=some (.lst xs)):aT K H a xs:=.inl (.inl h)
theorem bJ.of(h:H a=some (.tup xs)):bJ K H a xs:=.inl (.inl h)
theorem Inv.list(I:Inv X pins σ H s)(h:aT X.K H a xs):∃b:List Value,Vals xs b/\PlainL s.heap a b.toArray/\xs.length<=sizeLine:=by
 rcases h with h|⟨o,b,n,c,d,f,g,i,r⟩
 ·obtain⟨z,b,n,r,e⟩:=h.ok I.aW;exact⟨b,r,⟨_,n,e,rfl,rfl,rfl⟩,z⟩
 ·calc⟨b.toList,r,⟨o,n,I.gG a o c,d,f,by simpa using g⟩,?_⟩;have e:=r.length;simp only[Array.length_toList]at e;lia
theorem Inv.tuple(I:Inv X pins σ H s)(h:bJ X.K H a xs):∃b:List Value,Vals xs b/\IsTup s.heap a b.toArray/\xs.length<=sizeLine:=by
 rcases h with h|⟨o,b,n,c,d,f,g,r⟩
 ·obtain⟨z,b,r,p⟩:=h.ok I.aW;exact⟨b,r,p,z⟩
 ·calc⟨b.toList,r,⟨o,I.gG a o c,d,n,by simpa using f⟩,?_⟩;have e:=r.length;simp only[Array.length_toList]at e;lia
theorem Inv.xX(I:Inv X pins σ H s)(h:aT X.K H a xs)(h':aT X.K H a ys):xs=ys:=by
 obtain⟨f,r,⟨o,n,e,_,_,d⟩,_⟩:=I.list h;obtain⟨g,i,⟨j,k,b,_,_,c⟩,_⟩:=I.list h';rw[e]at b;cases b;rw[d]at c;injection c with h _
 have:f=g:=by simpa using congrArg Array.toList h
 subst this;calc r.inj i
theorem Inv.uP(I:Inv X pins σ H s)(h:bJ X.K H a xs)(h':bJ X.K H a ys):xs=ys:=by
 obtain⟨f,r,⟨o,e,_,n,d⟩,_⟩:=I.tuple h;obtain⟨g,i,⟨j,b,_,k,c⟩,_⟩:=I.tuple h';rw[e]at b;cases b;rw[d]at c;injection c with h _
 have:f=g:=by simpa using congrArg Array.toList h
 subst this;calc r.inj i
end
abbrev Cx.om(X:Cx)(E:Value->Shared->Prop):Cx:={X with xe:=E}
abbrev Cx.xY(X:Cx):Cx:=X.om λ_ _=>False
theorem Cx.Ok.om(a:X.Ok)(E:Value->Shared->Prop):(X.om E).Ok:=
 ⟨a.mod,a.kind,a.glob,a.blt,a.above,a.inj,a.has,a.Ni,a.hd,a.frames,a.Pa,a.SO,a.bs,a.BX,a.v8,a.xW,a.mr,a.F6⟩
theorem Cx.Ok.gk{E:Value->Shared->Prop}(a:(X.om E).Ok):X.Ok:=
 ⟨a.mod,a.kind,a.glob,a.blt,a.above,a.inj,a.has,a.Ni,a.hd,a.frames,a.Pa,a.SO,a.bs,a.BX,a.v8,a.xW,a.mr,a.F6⟩
section
variable {X:Cx}{pins:List (Addr×Obj)}{σ:St}{H:Hp}{s:Shared}{E:Value->Shared->Prop}
theorem Inv.om(I:Inv X pins σ H s)(E:Value->Shared->Prop):Inv (X.om E) pins σ H s:=⟨I.ok.om E,I.os,I.bare,I.base,I.loc,I.cell,I.free,I.ib,I.pin,I.aW,I.len⟩
theorem Inv.gk(I:Inv (X.om E) pins σ H s):Inv X pins σ H s:=⟨I.ok.gk,I.os,I.bare,I.base,I.loc,I.cell,I.free,I.ib,I.pin,I.aW,I.len⟩
theorem SP.gk{D:Ends}{f:Flow}{s':Shared}(h:SP (X.om E) pins D f s'):SP X pins D f s':=by
 cases f with
 |next=>obtain⟨a,b,I,q⟩:=h;calc⟨a,b,I.gk,q⟩
 |brk=>obtain⟨a,b,I,q⟩:=h;calc⟨a,b,I.gk,q⟩
 |cont=>obtain⟨a,b,I,q⟩:=h;calc⟨a,b,I.gk,q⟩
 |ret u=>obtain⟨v,a,b,I,r,q⟩:=h;calc⟨v,a,b,I.gk,r,q⟩
theorem rF.xY{a:List Stmt}{t:TS}(h:rF X.xY a t):rF X a t:=.mk λpins s σ H D I a=>
 aal (h pins s σ H D (I.om _) a) (λ_ _ q=>q.gk) λ_ _ z=>X' z
end
section
variable {X:Cx}{st:Stmt}{rest:List Stmt}{t u:TS}{e:Expr}{te:TE}{pos:Pos}
def Gh:TS:=λD σ H=>D.nx σ H
def DW(t u:TS):TS:=λD σ H=>t {D with nx:=u D} σ H
theorem aJ:rF X [] Gh:=.mk λ_ _ σ H _ I h=>wpAny_execs_nil ⟨σ,H,I,h⟩
theorem aj(a:PS X st t)(b:rF X rest u):rF X (st::rest) (DW t u):=by
 walk_at "xd";refine wpAny_execs_cons (cK (a pins s σ H {D with nx:=u D} I h) λf c q=>?_)
 cases f with
 |next=>
  obtain⟨a,d,e,q⟩:=q;calc b pins c a d D e q
 |ret v=>calc q
 |brk=>calc q
 |cont=>calc q
theorem ao(a:PS X st t):rF X [st] t:=by
 walk_at "xd";refine wpAny_execs_cons (cK (a pins s σ H D I h) λf b q=>?_)
 cases f with
 |next=>calc wpAny_execs_nil q
 |ret v=>calc q
 |brk=>calc q
 |cont=>calc q
theorem Inv.quiet{H:Hp}{s:Shared}(I:Inv X pins σ H s):interactive X.env=false:=by simp[interactive,I.ok.kind]
def xZ(te:TE):TS:=λD σ H=>te σ H λ_ a=>D.nx σ a
theorem Le(a:PE X e te)(b:swapsWith e none pos.line X.env=pure false:=by rfl):PS X (.Expr e pos) (xZ te):=by
 walk_at "xd";exact wpAny_Expr_any (cK (a pins s σ H _ I h) λv g ⟨x,c,d,i,f⟩=>⟨σ,c,d,f⟩) I.quiet b
def Pl(te:TE):TS:=λD σ H=>te σ H D.rt
theorem aH(a:PE X e te):PS X (.Return (some e) pos) (Pl te):=by
 walk_at "xd";exact wpAny_Return_some (cK (a pins s σ H _ I h) λv g ⟨x,b,c,d,f⟩=>⟨x,σ,b,c,d,f⟩)
def Ak(c:TT)(t u:TS):TS:=λD σ H=>c σ H λb a=>if b=true then t D σ a else u D σ a
theorem aU{c:Expr}{a b:List Stmt}{e:TT}(k:PT X c e)(l:rF X a t)(m:rF X b u):PS X (.If c a b pos) (Ak e t u):=by
 walk_at "xd";refine wpAny_If (cK (k pins s σ H _ I h) λd f a=>?_);obtain⟨g,i,j⟩:=a
 cases d with
 |true=>calc l pins f σ g D i j
 |false=>calc m pins f σ g D i j
def Al:TS:=λ_ _ _=>False
theorem fu:PS X st Al:=.mk λ_ _ _ _ _ _ h=>h.elim
end
abbrev TG:=V->St->Hp->(St->Hp->Prop)->Prop
abbrev Np:=List V->St->Hp->(St->Hp->Prop)->Prop
structure PG(X:Cx)(target:Expr)(t:TG):Prop where
 out:
  ∀(pins:List (Addr×Obj)) (s:Shared) (σ:St) (H:Hp) (v:V) (u:Value) (Q:St->Hp->Prop),Inv X pins σ H s->RelV v u->t v σ H Q->
   wpAny (model X.prog X.w) X.A (assign target X.env u) (λ_ s'=>∃σ' H',Inv X pins σ' H' s'/\Q σ' H') X.xe s
instance {X:Cx}{a:Expr}{t:TG}:CoeFun (PG X a t) λ_=>
 ∀(pins:List (Addr×Obj)) (s:Shared) (σ:St) (H:Hp) (v:V) (u:Value) (Q:St->Hp->Prop),Inv X pins σ H s->RelV v u->t v σ H Q->
  wpAny (model X.prog X.w) X.A (assign a X.env u) (λ_ s'=>∃a b,Inv X pins a b s'/\Q a b) X.xe s:=⟨PG.out⟩
structure SR(X:Cx)(ts:List Expr)(t:Np):Prop where
 out:
  ∀(pins:List (Addr×Obj)) (s:Shared) (σ:St) (H:Hp) (vs:List V) (us:List Value) (Q:St->Hp->Prop),Inv X pins σ H s->Vals vs us->t vs σ H Q->
   wpAny (model X.prog X.w) X.A (assignInOrder ((assignEach ts X.env).map (·.2)) us) (λ_ s'=>∃σ' H',Inv X pins σ' H' s'/\Q σ' H') X.xe s
instance {X:Cx}{a:List Expr}{t:Np}:CoeFun (SR X a t) λ_=>
 ∀(pins:List (Addr×Obj)) (s:Shared) (σ:St) (H:Hp) (vs:List V) (us:List Value) (Q:St->Hp->Prop),Inv X pins σ H s->Vals vs us->t vs σ H Q->
  wpAny (model X.prog X.w) X.A (assignInOrder ((assignEach a X.env).map (·.2)) us) (λ_ s'=>∃a b,Inv X pins a b s'/\Q a b) X.xe s:=⟨SR.out⟩
abbrev Pm:=V->V->V->Hp->(Hp->Prop)->Prop
def Pn(X:Cx)(t:Pm):Prop:=
 ∀(pins:List (Addr×Obj)) (s:Shared) (σ:St) (H:Hp) (o i v:V) (a b u:Value) (Q:Hp->Prop),Inv X pins σ H s->RelV o a->RelV i b->RelV v u->t o i v H Q->
  wpAny (model X.prog X.w) X.A (setItem a b u) (λ_ s'=>∃a,Inv X pins σ a s'/\Q a) X.xe s
abbrev YB:=V->V->Hp->VK->Prop
def PIp(X:Cx)(a:Operator)(t:YB):Prop:=
 ∀(pins:List (Addr×Obj)) (s:Shared) (σ:St) (H:Hp) (x y:V) (v u:Value) (Q:VK),Inv X pins σ H s->RelV x v->RelV y u->t x y H Q->
  wpAny (model X.prog X.w) X.A (inplaceOp a v u) (EP X pins σ Q) X.xe s
section
variable {X:Cx}{pos:Pos}
def fK(i:Nat):TG:=λv σ H Q=>Q (σ.set i (some v)) H
theorem bf(a:X.N.Nodup)(b:X.N[i]?=some x)(c:Loc X.env.scope x)(d:X.fn x=true\/X.env.scope.names.lookup x=some .local:=by grind):PG X (.Name x pos) (fK i):=by
 calc⟨?_⟩;intro pins s σ H v u Q I r h;calc wpAny_assign_Name (ic I a b c r (λf e=>⟨_,H,e,h⟩) d)
def Gi:Np:=λvs σ H Q=>vs=[]/\Q σ H
def mC(t:TG)(u:Np):Np:=λvs σ H Q=>∃v r,vs=v::r/\t v σ H λa b=>u r a b Q
theorem B0:SR X [] Gi:=by
 calc⟨?_⟩;intro pins s σ H a b Q I r h;obtain⟨e,h⟩:=h;subst e
 cases r;calc assignInOrder_nil ⟨σ,H,I,h⟩
theorem kH{a:List Expr}{t:TG}{u:Np}(b:PG X e t)(c:SR X a u)
  (d:(assignEach (e::a) X.env).map (·.2)=assign e X.env::(assignEach a X.env).map (·.2):=by rfl):SR X (e::a) (mC t u):=by
 calc⟨?_⟩;intro pins s σ H a g Q I r h;obtain⟨v,i,f,h⟩:=h;subst f
 cases r with
 |cons r f=>
  rw[d];calc assignInOrder_cons (cK (b pins s σ H _ _ _ I r h) λ_ g i=>?_);obtain⟨a,b,d,h⟩:=i;calc c pins g a b _ _ Q d f h
def Gj(K:W.Frag)(n:Nat)(t:Np):TG:=λv σ H Q=>∃a xs,v=.ref a/\bJ K H a xs/\xs.length=n/\t xs σ H Q
theorem Gk{a:List Expr}{k:Nat}{t:Np}{n:Nat}(b:X.calm=true)(h:SR X a t)
  (d:(assignEach a X.env).length=n:=by rfl) (f:(assignEach a X.env).findIdx? (·.1)=none:=by rfl):PG X (.Tuple a k pos) (Gj X.K n t):=by
 calc⟨?_⟩;intro pins s σ H v u Q I r c;obtain⟨a,g,i,j,l,c⟩:=c;subst i
 cases r;obtain⟨k,a,i,m⟩:=I.tuple j;calc assign_Tuple_tuple (I.ok.hd b) i (by simp[d,<-l,a.length]) f λk m=>?_;have d:Inv X pins σ H {s with heap:=k}:=I.kept (t':=s.toks) λb o e=>m b o (W' (T' e)) e;calc h pins _ σ H g _ Q d (by simpa using a) c
def Po(a b:TE)(t:Pm):TG:=λv σ H Q=>a σ H λo c=>b σ c λi a=>t o i v a λb=>Q σ b
theorem i9{o i:Expr}{c d:TE}{t:Pm}(e:PE X o c)(f:PE X i d)(g:Pn X t)
  (j:∀v,assign (.Subscript o i pos) X.env v=(do
   let a <-holding [v] (eval o X.env)
   let b <-holding [v,a] (eval i X.env)
   standAt pos
   holding [v,a,b] (setItem a b v)
   release [v,a,b] []):=by intro _;rfl):PG X (.Subscript o i pos) (Po c d t):=by
 calc⟨?_⟩;intro pins s σ H v u Q I r h;rw[j];calc j' (aaH (cK (e pins s σ H _ I h) λa d c=>?_));obtain⟨x,e,h,j,k⟩:=c;calc j' (aaH (cK (f pins d σ e _ h k) λb l c=>?_));obtain⟨y,d,e,f,h⟩:=c;calc j' (wpAny_standAt (j' (aaH (cK (g pins l σ d x y v a b u _ e j f r h) λ_ k c=>?_))));obtain⟨a,b,d⟩:=c;calc wpAny_release ⟨σ,a,b,d⟩
def Am(te:TE)(g:TG):TS:=λD σ H=>te σ H λx a=>g x σ a D.nx
theorem fC{g:TG}(a:PE X e te)(b:PG X tg g)(c:swapsWithSole [tg] e pos.line X.env=pure false:=by rfl)(d:swappedStores [tg] e X.env=pure none:=by rfl)
  (f:(assignEach [tg] X.env).map (·.2)=[assign tg X.env]:=by rfl):PS X (.Assign [tg] e pos) (Am te g):=by
 walk_at "xd";refine wpAny_Assign_stores (cK (a pins s σ H _ I h) λv g i=>?_) c d;obtain⟨x,a,j,k,l⟩:=i;rw[f];exact cK (b pins g σ a x v _ j k l) λ_ c q=>q
theorem Gm{a:Pos}(b:X.N.Nodup)(c:X.N[i]?=some x)(d:Loc X.env.scope x)(f:PE X e te)(g:swapsWith e (some (.Name x a)) pos.line X.env=pure false:=by rfl)(j:X.fn x=true\/X.env.scope.names.lookup x=some .local:=by grind):
  PS X (.Assign [.Name x a] e pos) (Am te (fK i)):=by
 walk_at "xd";refine wpAny_Assign_Name (cK (f pins s σ H _ I h) λv k a=>?_) g;obtain⟨y,f,k,l,m⟩:=a;exact ic k b c d l (λn g=>⟨_,f,g,m⟩) j
def Pp(i:Nat)(te:TE)(a:YB):TS:=λD σ H=>∃x,σ[i]?=some (some x)/\te σ H λy b=>a x y b λz c=>D.nx (σ.set i (some z)) c
theorem Pq{d:Operator}{g:YB}{b:Pos}(o:X.N.Nodup)(j:X.N[i]?=some x)(f:Loc X.env.scope x)(p:PE X e te)(q:PIp X d g)(t:X.fn x=true\/X.env.scope.names.lookup x=some .local:=by grind):
  PS X (.AugAssign (.Name x b) d e pos) (Pp i te g):=by
 walk_at "xd";obtain⟨v,y,h⟩:=h;obtain⟨m,B,z⟩:=I.loc;have c:Up X.env.scope x:=by rcases f with k|k;exact .inl k;exact .inr (.inl k)
 obtain⟨u,r,l⟩:=z i x v j y c;calc wpAny_AugAssign_Name ?_;have n:wpAny (model X.prog X.w) X.A (eval e X.env) (λw b=>wpAny (model X.prog X.w) X.A (inplaceOp d u w) (λr c=>wpAny (model X.prog X.w) X.A (storeName X.env x r) (λ_=>SP X pins D .next) X.xe c) X.xe b) X.xe s:=by
  calc cK (p pins s σ H _ I h) λw c b=>?_;obtain⟨y,d,g,m,p⟩:=b;calc cK (q pins c σ d v y u w _ g r m p) λz F b=>?_;obtain⟨p,c,d,g,m⟩:=b;exact ic d o j f g (λq p=>⟨_,c,p,m⟩) t
 rcases l with⟨a,b⟩|⟨a,c,C,E⟩
 ·exact wpAny_loadName_local I.ok.kind a B b n
 ·rcases a with a | a
  ·exact wpAny_loadName_cell I.ok.kind a C E n
  ·rcases f with k | k
   ·have:X.env.scope.names.lookup x=some .free:=a;rw[k]at this;cases this
   ·have:X.env.scope.names.lookup x=some .free:=a;rw[k]at this;cases this
def Z3(f:Int->Int->Int):YB:=λx y H Q=>∃i j,x=.int i/\y=.int j/\Q (.int (f i j)) H
theorem Pr:PIp X .Add (Z3 λi j=>i+j):=by
 intro pins s σ H x y v u Q I a b h;obtain⟨i,j,c,d,q⟩:=h;subst c;subst d;obtain⟨t,rfl⟩:=a;obtain⟨e,rfl⟩:=b;calc iadd_int ⟨.int _,H,I.tok _,⟨_,rfl⟩,q⟩
end
section
variable {X:Cx}{pos:Pos}
def wc(c:TT)(f:TS):TS:=λD σ H=>∃W:Nat->St->Hp->Prop,(∃m,W m σ H)/\∀m σ H,W m σ H->
 c σ H λb d=>if b=true then ∃N:St->Hp->Prop,(∀a c,N a c->∃e,e<m/\W e a c)/\f {D with nx:=N,ct:=N,bk:=D.nx} σ d else D.nx σ d
theorem Gn{c:Expr}{a:List Stmt}{i:TT}{j:TS}(k:PassesOwn (model X.prog X.w) X.A X.env X.xe)(p:PT X c i)(q:rF X a j):PS X (.While c a [] pos) (wc i j):=by
 walk_at "xd";obtain⟨W,⟨r,t⟩,a⟩:=h;refine wpAny_While (codeAny_whileLoop (λn u=>∃c i,Inv X pins c i u/\W n c i) ?_ r ⟨σ,H,I,t⟩);rintro n v ⟨d,j,x,y⟩;refine wpAny_passesOwn k (cK (p pins v d j _ x (a n d j y)) λb z B=>?_);obtain⟨l,m,e⟩:=B
 cases b with
 |true=>
  obtain⟨N,o,e⟩:=e;rw[if_pos rfl];refine wpAny_passesOwn k (cK (q pins z d l _ m e) λf a g=>?_)
  cases f with
  |next=>
   obtain⟨a,b,c,f⟩:=g;obtain⟨i,j,k⟩:=o a b f;calc⟨i,j,a,b,c,k⟩
  |cont=>
   obtain⟨a,b,c,f⟩:=g;obtain⟨i,j,k⟩:=o a b f;calc⟨i,j,a,b,c,k⟩
  |brk=>calc g
  |ret v=>calc g
 |false=>
  rw[if_neg Bool.false_ne_true];calc wpAny_execs_nil ⟨d,l,m,e⟩
end
structure It where
 go:Nat->Hp->Prop
 Nq:Nat->Hp->V->Hp->Prop
 stop:Nat->Hp->Prop
def pH(X:Cx)(pins:List (Addr×Obj))(H:Hp)(b:Addr):Prop:=
 H b=none/\b≠X.env.locals/\b∉X.fs/\(b∈X.ex\/X.s₀.heap.objs.size<=b)/\(∀x c,X.env.cells.lookup x=some c->c≠b)/\∀p∈X.pn++pins,p.1≠b
theorem Inv.Gq{H c:Hp}{s:Shared}{b:Addr}(I:Inv X pins σ H s)(a:s.heap.objs.size<=b)(d:c b=none):pH X pins c b:=by
 refine⟨d,Nat.ne_of_gt (R' I.lt a),I.Pc a,.inr (aae I.sz a),λx c e z=>?_,λp b z=>?_⟩
 ·obtain⟨v,q⟩:=I.cell x c e;exact absurd (R' q.lt (by rw[z];calc a)) (aaK _)
 ·calc absurd (R' (T' (I.pin p b).1) (by rw[z];calc a)) (aaK _)
structure Turn(P:Program)(w:World)(K:W.Frag)(tg:Expr)(J:It)(fp:List Addr)(it:Addr)(tn:Nat->Heap->Prop):Prop where
 mem:it∈fp
 obj:∀i h,tn i h->∀b∈fp,∃o,h.get? b=some o/\∀v,o.data≠.cell v
 keep:∀i h h',tn i h->(∀b∈fp,∀o,h.get? b=some o->h'.get? b=some o)->tn i h'
 item:∀(X:Cx),X.prog=P->X.w=w->X.K=K->X.calm=true->∀(i:Nat) (pins:List (Addr×Obj)) (s:Shared) (σ:St) (H:Hp) (E:Value->Shared->Prop),Inv X pins σ H s->(∀b ∈ fp,pH X pins H b)->tn i s.heap->J.go i H->
  wpAny (model P w) X.A (pyNext (.ref it)) (λr s1=>∃u,r=some u/\
   wpAny (model P w) X.A (letOwnedTupleGo tg (.ref it) u) (λ_ s2=>∃x H',Inv X pins σ H' s2/\RelV x u/\J.Nq i H x H'/\tn (i + 1) s2.heap/\∀b ∈ fp,H' b=none) E s1) E s
 done:∀(X:Cx),X.prog=P->X.w=w->X.K=K->X.calm=true->∀(i:Nat) (pins:List (Addr×Obj)) (s:Shared) (σ:St) (H:Hp) (E:Value->Shared->Prop),Inv X pins σ H s->(∀b ∈ fp,pH X pins H b)->tn i s.heap->J.stop i H->
  wpAny (model P w) X.A (pyNext (.ref it)) (λr s1=>r=none/\Inv X pins σ H s1) E s
 self:∀(A:Around) (i:Nat) (s:Shared) (Q:Value->Shared->Prop) (E:Value->Shared->Prop),tn i s.heap->Q (.ref it) s->wpAny (model P w) A (pyIter (.ref it)) Q E s
abbrev TI:=St->Hp->(It->Hp->Prop)->Prop
def Z4(X:Cx)(pins:List (Addr×Obj))(σ:St)(tg:Expr)(R:It->Hp->Prop)(g:Value)(c:Shared):Prop:=
 ∃(d:Addr) (e:List Addr) (f:Nat->Heap->Prop) (J:It) (a:Hp),g=.ref d/\Inv X pins σ a c/\Turn X.prog X.w X.K tg J e d f/\f 0 c.heap/\(∀b∈e,pH X pins a b)/\R J a
structure PI(X:Cx)(tg iter:Expr)(wi:TI):Prop where
 out:
  ∀(pins:List (Addr×Obj)) (s:Shared) (σ:St) (H:Hp) (R:It->Hp->Prop),Inv X pins σ H s->wi σ H R->
   wpAny (model X.prog X.w) X.A (eval iter X.env) (λv s1=>wpAny (model X.prog X.w) X.A (pyIter v) (Z4 X pins σ tg R) X.xe s1) X.xe s
instance {X:Cx}{tg a:Expr}{b:TI}:CoeFun (PI X tg a b) λ_=>
 ∀(pins:List (Addr×Obj)) (s:Shared) (σ:St) (H:Hp) (R:It->Hp->Prop),Inv X pins σ H s->b σ H R->
  wpAny (model X.prog X.w) X.A (eval a X.env) (λv b=>wpAny (model X.prog X.w) X.A (pyIter v) (Z4 X pins σ tg R) X.xe b) X.xe s:=⟨PI.out⟩
theorem Gr{M:Model}{A:Around}{E:Value->Shared->Prop}{s:Shared}{tg:Expr}{b:Addr}{u:Value}{o:Obj}{n:String}{vs:Array Value}{Q:Unit->Shared->Prop}(c:s.heap.get? b=some o)(d:o.cls=.type n)(e:o.data=.fields vs)
    (f:["enumerate","zip","dict_itemiterator","dict_reverseitemiterator","odict_iterator","itertools.zip_longest","itertools.pairwise"].contains n=false) (a:Q ⟨⟩ s):wpAny M A (letOwnedTupleGo tg (.ref b) u) Q E s:=by
  unfold letOwnedTupleGo
  cases tg<;>first
    |calc L' a
    | (cases u <;> first
        |calc L' a
        | (refine j' (wpAny_load c ?_)
           rw[d,e];show wpAny M A (if (["enumerate","zip","dict_itemiterator","dict_reverseitemiterator","odict_iterator","itertools.zip_longest","itertools.pairwise"].contains n && vs[0]? == some (rawInt _))=true then _ else _) Q E s;rw[if_neg (by intro h;rw[f,Bool.false_and] at h;cases h)];exact L' a))
def x6(K:W.Frag)(a:Addr):It:=
 ⟨λi H=>∃xs x,aT K H a xs/\xs[i]?=some x,λi H x b=>b=H/\∀xs,aT K H a xs->xs[i]?=some x,λi H=>∃xs,aT K H a xs/\xs.length<=i⟩
def Us(K:W.Frag)(a:Addr):It:=
 ⟨λi H=>∃xs x,bJ K H a xs/\xs[i]?=some x,λi H x b=>b=H/\∀xs,bJ K H a xs->xs[i]?=some x,λi H=>∃xs,bJ K H a xs/\xs.length<=i⟩
def DX(a:Int)(n:Nat):It:=⟨λi _=>i<n,λi H x b=>b=H/\x=.int (a+i),λi _=>n<=i⟩
theorem DY{P:Program}{w:World}(a g:Addr):Turn P w K tg (x6 K a) [g] g (λi h=>h.IsListIter g a i) where
 mem:=by simp
 obj:=λi h f b j=>by
  have e:b=g:=by simpa using j
  subst e;obtain⟨o,e,c,d⟩:=f;exact⟨o,e,λv z=>by rw[d]at z;cases z⟩
 keep:=λi h l f k=>f.at λo e=>k g nofun o e
 item:=by
  intro X q r t L i pins s σ H E I m f y;subst q r t;obtain⟨M,x,n,A⟩:=y;obtain⟨N,B,p,O⟩:=I.list n;obtain⟨u,k,v⟩:=B.get A;obtain⟨C,D,Q,F,G,J⟩:=m g nofun;calc wpAny_pyNext_list_item f p.isList (x:=u) (by simpa using k) λl a w=>?_;have k:Inv X pins σ H {s with heap:=l}:=I.turned (t':=s.toks) (λb o j e=>(w.2 b j).trans e) C D F G J;obtain⟨o,e,c,d⟩:=id a;exact⟨u,rfl,Gr (s:={s with heap:=l}) e c d ∅ ⟨x,H,k,v,⟨rfl,λw u=>by rw[I.xX u n];calc A⟩,a,λb j=>(m b j).1⟩⟩
 done:=by
  intro X q r t L i pins s σ H E I m f y;subst q r t;obtain⟨M,n,A⟩:=y;obtain⟨N,B,p,O⟩:=I.list n;obtain⟨C,D,Q,F,G,J⟩:=m g nofun;have a:=B.length;exact wpAny_pyNext_list_end (I.ok.hd L) f p.isList (by simp;lia) λl a=>⟨rfl,I.turned (t':=s.toks) (λb o j e=>a b o j e) C D F G J⟩
 self:=λ_ _ _ _ _ f h=>wpAny_pyIter_listiter f h
theorem An{P:Program}{w:World}(a g:Addr):Turn P w K tg (Us K a) [g] g (λi h=>h.IsTupleIter g a i) where
 mem:=by simp
 obj:=λi h f b j=>by
  have e:b=g:=by simpa using j
  subst e;obtain⟨o,e,c,d⟩:=f;exact⟨o,e,λv z=>by rw[d]at z;cases z⟩
 keep:=λi h l f k=>f.at λo e=>k g nofun o e
 item:=by
  intro X q r t M i pins s σ H E I m f y;subst q r t;obtain⟨N,x,n,A⟩:=y;obtain⟨B,C,p,O⟩:=I.tuple n;obtain⟨u,v,w⟩:=C.get A;obtain⟨D,F,Q,G,J,L⟩:=m g nofun;calc wpAny_pyNext_tuple_item f (show s.heap.IsTuple a B.toArray from p) (x:=u) (by simpa using v) λl k z=>?_;have v:Inv X pins σ H {s with heap:=l}:=I.turned (t':=s.toks) (λb o j e=>(z.2 b j).trans e) D F G J L;obtain⟨o,e,c,d⟩:=id k;exact⟨u,rfl,Gr (s:={s with heap:=l}) e c d ∅ ⟨x,H,v,w,⟨rfl,λz u=>by rw[I.uP u n];calc A⟩,k,λb j=>(m b j).1⟩⟩
 done:=by
  intro X q r t M i pins s σ H E I m f y;subst q r t;obtain⟨N,n,A⟩:=y;obtain⟨B,C,p,O⟩:=I.tuple n;obtain⟨D,F,Q,G,J,L⟩:=m g nofun;have c:=C.length;exact wpAny_pyNext_tuple_end (I.ok.hd M) f (show s.heap.IsTuple a B.toArray from p) (by simp;lia) λl c=>⟨rfl,I.turned (t':=s.toks) (λb o j e=>c b o j e) D F G J L⟩
 self:=λ_ _ _ _ _ f h=>wpAny_pyIter_tupleiter f h
theorem Ao{P:Program}{w:World}(c:Addr)(f:Int)(n:Nat):Turn P w K tg (DX f n) [c] c (λi h=>IsRangeIter h c (f+(i:Nat)*1) ((n:Int)-(i:Nat)) 1) where
 mem:=by simp
 obj:=λi h a b d=>by
  have e:b=c:=by simpa using d
  subst e;exact⟨_,a,λv z=>by
   have k:Data.fields _=Data.cell v:=z
   cases k⟩
 keep:=λi h g a k=>k c nofun _ a
 item:=by
  intro X l m p q i pins s σ H E I j a r;subst l m p;obtain⟨u,x,F,y,A,B⟩:=j c nofun;have W:=Walks.range (prog:=X.prog) (w:=X.w) (I.ok.hd q) c f 1 n;calc W.item i s _ _ r a λv g C G D J=>?_;obtain⟨t,rfl⟩:=G;have k:Inv X pins σ H {s with heap:=g,toks:=C}:=I.turned (λb o d e=>J b o (by simpa using d) e) u x y A B;calc⟨_,rfl,Gr (s:={s with heap:=g,toks:=C}) (n:="range_iterator") D rfl rfl ∅ ⟨.int (f+i),H,k,⟨t,?_⟩,⟨rfl,rfl⟩,D,λb d=>(j b d).1⟩⟩;rw[Int.mul_one]
 done:=by
  intro X l m p q i pins s σ H E I j a r;subst l m p;obtain⟨u,x,F,y,A,B⟩:=j c nofun;exact wpAny_pyNext_range_end (I.ok.hd q) a (by have:n<=i:=r;lia) λg c=>⟨rfl,I.turned (t':=s.toks) (λb o d e=>c b o d e) u x y A B⟩
 self:=λ_ _ _ _ _ a h=>wpAny_pyIter_rangeiter a h
end
section
variable {H:Hp}{pins:List (Addr×Obj)}{s:Shared}{σ:St}{g:TG}{tb:TS}
section
variable {X:Cx}{tg:Expr}
theorem Gu{R:It->Hp->Prop}{E:Value->Shared->Prop}{a c:Int}{t u v:Tok}{d:Nat}(I:Inv X pins σ H s)(g:-(2^62)<=a)(h:a<2^62)(i:-(2^62)<=c)(j:c<2^62)
  (q:R (DX a (c-a).toNat) H):wpAny (model X.prog X.w) X.A (pyIter (.ref s.heap.objs.size)) (Z4 X pins σ tg R) E {s with heap:=s.heap.push {cls:=.type "range",data:=.fields #[.int a t,.int c u,.int 1 v]},toks:=d}:=by
 refine wpAny_pyIter_range (IsRange.new ..) (small_one g h i j) ?_;have f:Inv X pins σ H {s with heap:=s.heap.push {cls:=.type "range",data:=.fields #[.int a t,.int c u,.int 1 v]},toks:=d}:=I.kept λb o e=>J' _ e;refine⟨(s.heap.push {cls:=.type "range",data:=.fields #[.int a t,.int c u,.int 1 v]}).objs.size,[(s.heap.push {cls:=.type "range",data:=.fields #[.int a t,.int c u,.int 1 v]}).objs.size],_,_,H,rfl,
  f.kept (t':=d) λb o e=>J' _ e,Ao _ a (c - a).toNat,?_,λb k=>?_,q⟩
 ·have l:a + ((0:Nat):Int) * 1=a:=by simp
  have m:(((c-a).toNat:Nat):Int)-((0:Nat):Int)=Builtin.Range.rangeSize a c 1:=by rw[rangeSize_one];split<;>lia
  show IsRangeIter _ _ (a+((0:Nat):Int)*1) ((((c-a).toNat:Nat):Int)-((0:Nat):Int)) 1;rw[l,m];exact V' _ rfl
 ·have e:b=(s.heap.push {cls:=.type "range",data:=.fields #[.int a t,.int c u,.int 1 v]}).objs.size:=by simpa using k
  subst e;calc f.Gq (K' _) (f.aW.fresh (K' _))
def Gv(a:TA):TI:=λσ H R=>a σ H λvs b=>∃j:Int,vs=[.int j]/\-(2^62)<=j/\j<2^62/\R (DX 0 j.toNat) b
theorem cP{a:Expr}{d:TA}{p b:Pos}(f:Gl X "range")(g:X.mg "range"=none)(i:PA X [a] d)(j:starEach [a] X.env=[(false,eval a X.env)]:=by rfl):PI X tg (.Call (.Name "range" p) [a] [] b) (Gv d):=by
 calc⟨?_⟩;intro pins s σ H R I h;calc Call_ (pG I f g boot_range (PyProof.Rows.callWith_type1 (cK (i b pins s σ H _ I h) λd o a=>?_) j rfl));obtain⟨b,d,k,l,c⟩:=a;obtain⟨j,e,c,m,q⟩:=c;subst e
 cases l with
 |cons r n=>
  cases n;obtain⟨t,rfl⟩:=r;calc call_range_1 (Gu k () () c m (by simpa using q))
def Pt(a:TI)(g:TG)(tb:TS):TS:=λD σ H=>a σ H λJ b=>∃W:Nat->Nat->St->Hp->Prop,(∃m,W 0 m σ b)/\∀i m σ H,W i m σ H->
 (J.stop i H/\D.nx σ H)\/(J.go i H/\∃N:St->Hp->Prop,(∀a b,N a b->∃d,d<m/\W (i+1) d a b)/\∀x b,J.Nq i H x b->g x σ b λc e=>tb {D with nx:=N,ct:=N,bk:=D.nx} c e)
def pI(a:List Addr)(h:Heap):List (Addr×Obj):=a.filterMap λb=>(h.get? b).map λo=>(b,o)
theorem jW{a:List Addr}{h:Heap}{b:Addr}{o:Obj}(c:b∈a)(e:h.get? b=some o):(b,o)∈pI a h:=List.mem_filterMap.mpr ⟨b,c,by rw[e];rfl⟩
theorem DZ{a:List Addr}{h:Heap}{p:Addr×Obj}(c:p∈pI a h):p.1∈a/\h.get? p.1=some p.2:=by
 obtain⟨b,d,e⟩:=List.mem_filterMap.mp c
 cases q:h.get? b with
 |none=>rw[q]at e;cases e
 |some o=>
  rw[q]at e;have f:(b,o)=p:=Option.some.inj e;subst f;calc⟨d,q⟩
theorem Inv.pinned{a:List Addr}(I:Inv X pins σ H s)(g:∀b∈a,pH X pins H b)(h:∀b∈a,∃o,s.heap.get? b=some o/\∀v,o.data≠.cell v):Inv X (pins++pI a s.heap) σ H s:=
 I.wa λp a=>(List.mem_append.mp a).elim (λz=>I.pin p (aac _ z)) λz=>by
  obtain⟨c,e⟩:=DZ z;obtain⟨i,j,k,_⟩:=g p.1 c;obtain⟨o,f,d⟩:=h p.1 c;rw[e]at f;cases f;calc⟨e,i,j,k,d⟩
theorem Inv.kI{pl:List (Addr×Obj)}(I:Inv X (pins++pl) σ H s):Inv X pins σ H s:=I.wa λp a=>I.pin p (aac _ (List.mem_append_left _ a))
theorem fg{c:Expr}{m:List Stmt}{M:TI}{J:Pos}(z:PassesOwn (model X.prog X.w) X.A X.env X.xe)(O:X.calm=true)(Z:PI X tg c M)(hg:PG X tg g)(j:rF X m tb)
  (hs:∀x,foldedSetIterable c X.env x=pure x:=by intro _;rfl):PS X (.For tg c m [] J) (Pt M g tb):=by
 walk_at "xd";refine wpAny_For (cK (Z pins s σ H _ I h) λv m c=>cK c λm J h2=>?_) hs;obtain⟨c,B,P,J,H2,e,I2,T,B1,Q,W,⟨m0,w0⟩,C⟩:=h2;subst e;have K:∀{o:Hp},(∀b∈B,o b=none)->∀b∈B,pH X pins o b:=λc b j=>⟨c b j,(Q b j).2⟩
 calc codeAny_forLoop_any (λn c=>∃i d o,Inv X pins d o c/\P i c.heap/\(∀b∈B,o b=none)/\W i n d o) ?_ m0 ⟨0,σ,H2,I2,B1,λb j=>(Q b j).1,w0⟩;rintro n R ⟨i,k,G,S,U,Y,w3⟩;rcases C i n k G w3 with⟨c,qn⟩|⟨go,N,hN,E⟩
 ·calc wpAny_passesOwn z (cK (T.done X rfl rfl rfl O i pins R k G X.xe S (K Y) U c) λr s4 y=>?_);obtain⟨L,I4⟩:=y;subst L;exact wpAny_execs_nil ⟨k,G,I4,qn⟩
 ·calc wpAny_passesOwn z (cK (T.item X rfl rfl rfl O i pins R k G X.xe S (K Y) U go) λr s4 y=>?_);obtain⟨u,L,h4⟩:=y;subst L;calc wpAny_passesOwn z (cK h4 λ_ C y=>?_);obtain⟨x,m,r,G,J,c,L⟩:=y;have M:=r.pinned (K L) (T.obj _ _ c);calc wpAny_passesOwn z (cK (hg _ C k m x u _ M G (E x m J)) λ_ O y=>?_);obtain⟨k,m,u,x⟩:=y;calc wpAny_passesOwn z (cK (j _ O k m _ u x) λf r t=>?_);have l:∀{a:St} {p:Hp},Inv X (pins++pI B C.heap) a p r->N a p->∃m,m<n/\∃i d o,Inv X pins d o r/\P i r.heap/\(∀b∈B,o b=none)/\W i m d o:=λ{a p} q F=>by
   obtain⟨d,k,m⟩:=hN a p F;calc⟨d,k,i+1,a,p,q.kI,T.keep _ _ _ c λb j o e=>(q.pin (b,o) (aac _ (aac _ (jW j e)))).1,λb j=>?_,m⟩;obtain⟨o,e,d⟩:=T.obj _ _ c b j;exact(q.pin (b,o) (aac _ (aac _ (jW j e)))).2.1
  cases f with
  |next=>obtain⟨a,p,q,F⟩:=t;calc l q F
  |cont=>obtain⟨a,p,q,F⟩:=t;calc l q F
  |brk=>obtain⟨a,p,q,t⟩:=t;calc⟨a,p,q.kI,t⟩
  |ret v=>obtain⟨b,a,p,q,c,t⟩:=t;calc⟨b,a,p,q.kI,c,t⟩
end
theorem jI{K:W.Frag}{a:Addr}{xs:List V}{D:Ends}(b:Nat->St->Hp->Prop)(k:b 0 σ H)(l:∀i σ H,i<=xs.length->b i σ H->aT K H a xs)
  (n:∀i x σ H,xs[i]?=some x->b i σ H->g x σ H λc h=>tb {D with nx:=b (i+1),ct:=b (i+1),bk:=D.nx} c h) (o:∀σ H,b xs.length σ H->D.nx σ H):
  ∃W:Nat->Nat->St->Hp->Prop,(∃m,W 0 m σ H)/\∀i m σ H,W i m σ H->
   ((x6 K a).stop i H/\D.nx σ H)\/((x6 K a).go i H/\∃N:St->Hp->Prop,(∀d f,N d f->∃j,j<m/\W (i+1) j d f)/\∀x f,(x6 K a).Nq i H x f->g x σ f λc h=>tb {D with nx:=N,ct:=N,bk:=D.nx} c h):=by
 calc⟨λi m σ H=>m=xs.length-i/\i<=xs.length/\b i σ H,⟨xs.length,nofun,aab _,k⟩,?_⟩;rintro i m σ H ⟨rfl,c,p⟩;have q:=l i σ H c p;by_cases a:i<xs.length
 ·calc .inr ⟨⟨xs,xs[i],q,by simp[a]⟩,b (i+1),λd f c=>⟨xs.length-(i+1),(),rfl,a,c⟩,λx f y=>?_⟩;obtain⟨e,y⟩:=y;subst e;exact n i x σ _ (y xs q) p
 ·have e:i=xs.length:=by lia
  subst e;calc .inl ⟨⟨xs,q,K' _⟩,o σ H p⟩
theorem gm{f:Int}{n:Nat}{D:Ends}(a:Nat->St->Hp->Prop)(l:a 0 σ H)
  (o:∀i σ H,i<n->a i σ H->g (.int (f+i)) σ H λb h=>tb {D with nx:=a (i+1),ct:=a (i+1),bk:=D.nx} b h) (q:∀σ H,a n σ H->D.nx σ H):
  ∃W:Nat->Nat->St->Hp->Prop,(∃m,W 0 m σ H)/\∀i m σ H,W i m σ H->
   ((DX f n).stop i H/\D.nx σ H)\/((DX f n).go i H/\∃N:St->Hp->Prop,(∀c d,N c d->∃k,k<m/\W (i+1) k c d)/\∀x d,(DX f n).Nq i H x d->g x σ d λb h=>tb {D with nx:=N,ct:=N,bk:=D.nx} b h):=by
 calc⟨λi m σ H=>m=n-i/\i<=n/\a i σ H,⟨n,nofun,aab _,l⟩,?_⟩;rintro i m σ H ⟨rfl,b,p⟩;by_cases j:i<n
 ·calc .inr ⟨j,a (i+1),λc d b=>⟨n-(i+1),(),rfl,j,b⟩,λx d y=>?_⟩;obtain⟨e,y⟩:=y;subst e y;exact o i σ _ j p
 ·have e:i=n:=by lia
  subst e;calc .inl ⟨K' _,q σ H p⟩
end
section
variable {op:CmpOp}{g:Int->Int->Int}{r:R2}
abbrev R2:=V->V->Hp->VK->Prop
def fQ(X:Cx)(f:Value->Value->Sem Value)(r:R2):Prop:=
 ∀(pins:List (Addr×Obj)) (s:Shared) (σ:St) (H:Hp) (x y:V) (v u:Value) (Q:VK),Inv X pins σ H s->RelV x v->RelV y u->r x y H Q->
  wpAny (model X.prog X.w) X.A (f v u) (EP X pins σ Q) X.xe s
def Z7(X:Cx)(f:Value->Sem Value)(r:V->Hp->VK->Prop):Prop:=
 ∀(pins:List (Addr×Obj)) (s:Shared) (σ:St) (H:Hp) (x:V) (v:Value) (Q:VK),Inv X pins σ H s->RelV x v->r x H Q->
  wpAny (model X.prog X.w) X.A (f v) (EP X pins σ Q) X.xe s
def fw(X:Cx)(f:Value)(r:List V->Hp->VK->Prop):Prop:=
 ∀(pins:List (Addr×Obj)) (s:Shared) (σ:St) (H:Hp) (xs:List V) (us:List Value) (Q:VK),Inv X pins σ H s->Vals xs us->r xs H Q->
  wpAny (model X.prog X.w) X.A (call f us) (EP X pins σ Q) X.xe s
def Gw(r:R2)(a b:TE):TE:=λσ H Q=>a σ H λx c=>b σ c λy a=>r x y a Q
def Z8(r:V->Hp->VK->Prop)(a:TE):TE:=λσ H Q=>a σ H λx b=>r x b Q
def rI(C:Int->Int->Prop)(g:Int->Int->V):R2:=λx y H Q=>∃i j,x=.int i/\y=.int j/\C i j/\Q (g i j) H
def Lf(g:Int->Int->V):R2:=λx y H Q=>∃i j,x=.int i/\y=.int j/\Q (g i j) H
def rU(g:Int->V):V->Hp->VK->Prop:=λx H Q=>∃i,x=.int i/\Q (g i) H
section
variable {X:Cx}{a b c:Expr}{ta tb tc:TE}{pos:Pos}
theorem Pu(j:PE X a ta)(k:PE X b tb){pins:List (Addr×Obj)}{s:Shared}{σ:St}{H:Hp}{R:V->V->Hp->Prop}(I:Inv X pins σ H s)
  (h:ta σ H λx i=>tb σ i λy c=>R x y c) {Q:Value->Shared->Prop} {f:Value->Value->Sem Value}
  (l:∀v u g x y c,Inv X pins σ c g->RelV x v->RelV y u->R x y c->wpAny (model X.prog X.w) X.A (f v u) Q X.xe g):
  wpAny (model X.prog X.w) X.A (eval a X.env) (λv d=>wpAny (model X.prog X.w) X.A (eval b X.env) (λu e=>wpAny (model X.prog X.w) X.A (f v u) Q X.xe e) X.xe d) X.xe s:=by
 calc cK (j pins s σ H _ I h) λv e d=>?_;obtain⟨x,i,f,h,j⟩:=d;calc cK (k pins e σ i _ f j) λu g d=>?_;obtain⟨y,c,e,f,i⟩:=d;calc l v u g x y c e h f i
theorem aQ{op:Operator}(c:fQ X (binaryOp op) r)(d:PE X a ta)(e:PE X b tb):PE X (.BinOp a op b pos) (Gw r ta tb):=by
 walk_at "xc";exact wpAny_BinOp (Pu d e I h λv u f x y g i j k q=>c pins f σ g x y v u Q i j k q)
theorem kq{op:UnaryOp}{r:V->Hp->VK->Prop}(b:Z7 X (unaryOp op) r)(c:PE X a ta):PE X (.UnaryOp op a pos) (Z8 r ta):=by
 walk_at "xc";exact UnaryOp_ (cK (c pins s σ H _ I h) λv d ⟨x,e,f,g,i⟩=>b pins d σ e x v Q f g i)
theorem YD{f:Value->Value->Sem Value}{C:Int->Int->Prop}
  (a:∀(i j:Int) (t u:Tok) (s:Shared) (Q:Value->Shared->Prop) (E:Value->Shared->Prop),C i j->Q (.int (g i j) s.toks) {s with toks:=s.toks+1}->wpAny (model X.prog X.w) X.A (f (.int i t) (.int j u)) Q E s):
  fQ X f (rI C λi j=>.int (g i j)):=by
 intro b s σ H x y v u Q I c d h;obtain⟨i,j,rfl,rfl,e,q⟩:=h;obtain⟨t,rfl⟩:=c;obtain⟨k,rfl⟩:=d;calc a i j t k s _ _ e ⟨.int (g i j),H,I.tok _,⟨_,rfl⟩,q⟩
theorem Uu{f:Value->Value->Sem Value}
  (a:∀(i j:Int) (t u:Tok) (s:Shared) (Q:Value->Shared->Prop) (E:Value->Shared->Prop),Q (.int (g i j) s.toks) {s with toks:=s.toks+1}->wpAny (model X.prog X.w) X.A (f (.int i t) (.int j u)) Q E s):
  fQ X f (Lf λi j=>.int (g i j)):=by
 intro b s σ H x y v u Q I c d h;obtain⟨i,j,rfl,rfl,q⟩:=h;obtain⟨t,rfl⟩:=c;obtain⟨e,rfl⟩:=d;calc a i j t e s _ _ ⟨.int (g i j),H,I.tok _,⟨_,rfl⟩,q⟩
theorem Lg{f:Value->Value->Sem Value}{g:Int->Int->Bool}
  (a:∀(i j:Int) (t u:Tok) (s:Shared) (Q:Value->Shared->Prop) (E:Value->Shared->Prop),Q (.bool (g i j)) s->wpAny (model X.prog X.w) X.A (f (.int i t) (.int j u)) Q E s):
  fQ X f (Lf λi j=>.bl (g i j)):=by
 intro b s σ H x y v u Q I c d h;obtain⟨i,j,rfl,rfl,q⟩:=h;obtain⟨t,rfl⟩:=c;obtain⟨e,rfl⟩:=d;calc a i j t e s _ _ ⟨.bl (g i j),H,I,rfl,q⟩
def Lh(i j:Int):Prop:=0<=j/\j<=1000000/\i.natAbs<2^64
def Gx(i j:Int):Prop:=(-(2^64)<i/\i<2^64)\/(-(2^64)<j/\j<2^64)
theorem Gx.ok{i j:Int}(h:Gx i j):IntMulOk i j:=by
 rcases h with⟨a,b⟩|⟨a,b⟩
 ·exact .of_left (intBits_le_64 a b)
 ·calc .of_right (intBits_le_64 a b)
theorem Pw:fQ X (binaryOp .Add) (Lf λi j=>.int (i+j)):=Uu λ_ _ _ _ _ _ _ q=>add_int q
theorem Py:fQ X (binaryOp .Sub) (Lf λi j=>.int (i-j)):=Uu λ_ _ _ _ _ _ _ q=>sub_int q
theorem Pz:fQ X (binaryOp .Mult) (rI Gx λi j=>.int (i*j)):=YD λ_ _ _ _ _ _ _ a q=>mul_int q a.ok
theorem PB:fQ X (binaryOp .Mod) (rI (λ_ j=>0<j) λi j=>.int (i%j)):=YD λi j _ _ _ _ _ a q=>by
 have b:(0:Int)<j:=a;calc mod_int' () (by rw[Int.fmod_eq_emod_of_nonneg i ()];calc q)
theorem PD:fQ X (binaryOp .Pow) (rI Lh λi j=>.int (i^j.toNat)):=YD λ_ _ _ _ _ _ _ a q=>pow_int_small a.1 a.2.1 a.2.2 q
theorem unI{f:Value->Sem Value}{g:Int->Int}
  (a:∀(i:Int) (t:Tok) (s:Shared) (Q:Value->Shared->Prop) (E:Value->Shared->Prop),Q (.int (g i) s.toks) {s with toks:=s.toks+1}->wpAny (model X.prog X.w) X.A (f (.int i t)) Q E s):
  Z7 X f (rU λi=>.int (g i)):=by
 intro b s σ H x v Q I c h;obtain⟨i,rfl,q⟩:=h;obtain⟨t,rfl⟩:=c;calc a i t s _ _ ⟨.int (g i),H,I.tok _,⟨_,rfl⟩,q⟩
theorem gL:Z7 X (unaryOp .USub) (rU λi=>.int (-i)):=unI λ_ _ _ _ _ q=>neg_int q
end
def Li:V->V->Bool
 | .bI,.bI=>true | .bI,.int _=>true | .int _,.bI=>true | .bI,.bl _=>true | .bl _,.bI=>true | .bI,.str _=>true | .str _,.bI=>true
 | .int _,.int _=>true | .bl _,.bl _=>true | .str _,.str _=>true | .BV _,.BV _=>true
 | .int _,.str _=>true | .str _,.int _=>true | .bl _,.str _=>true | .str _,.bl _=>true
 |_,_=>false
def rEq:R2:=λx y H Q=>Li x y=true/\Q (.bl (decide (x=y))) H
def rNe:R2:=λx y H Q=>Li x y=true/\Q (.bl (!decide (x=y))) H
theorem B2{i j:Int}:decide (V.int i=V.int j)=(i==j):=by
 rw[Bool.eq_iff_iff];simp
theorem Gy{i j:Bool}:decide (V.bl i=V.bl j)=(i==j):=by
 rw[Bool.eq_iff_iff];simp
theorem B3{i j:Str}:decide (V.str i=V.str j)=(i==j):=by
 rw[Bool.eq_iff_iff];simp
theorem B4{i j:Array UInt8}:decide (V.BV i=V.BV j)=(i.toList==j.toList):=by
 rw[Bool.eq_iff_iff]
 cases i
 cases j;simp
section
variable {X:Cx}{a b c:Expr}{ta tb tc:TE}{pos:Pos}
theorem bZ{pins:List (Addr×Obj)}{σ:St}{H:Hp}{s:Shared}{Q:VK}{k a:Bool}(I:Inv X pins σ H s)(q:Q (.bl k) H)(e:k=a):EP X pins σ Q (.bool a) s:=by
 subst e;calc⟨.bl k,H,I,rfl,q⟩
theorem Uv:fQ X (compareOp .Eq) rEq:=by
 intro e s σ H x y v u Q I d a h;obtain⟨c,q⟩:=h
 cases x with
 |bI=>
  cases d
  cases y with
  |bI=>cases a;calc PySem.EqNone.eq_none_none (bZ I q nofun)
  |bl j=>cases a;calc PySem.EqNone.eq_none_bool (bZ I q nofun)
  |int j=>obtain⟨b,rfl⟩:=a;calc PySem.EqNone.eq_none_int (bZ I q nofun)
  |str j=>obtain⟨b,rfl⟩:=a;calc PySem.EqNone.eq_none_str (bZ I q nofun)
  |_=>calc absurd (show false=true from c) U'
 |bl i=>
  cases d
  cases y with
  |bI=>cases a;calc PySem.EqNone.eq_bool_none (bZ I q nofun)
  |bl j=>cases a;calc eq_bool (bZ I q Gy)
  |str j=>obtain⟨b,rfl⟩:=a;calc PySem.EqMixed.eq_bool_str (bZ I q nofun)
  |_=>calc absurd (show false=true from c) U'
 |int i=>
  obtain⟨t,rfl⟩:=d
  cases y with
  |bI=>cases a;calc PySem.EqNone.eq_int_none (bZ I q nofun)
  |int j=>obtain⟨b,rfl⟩:=a;calc eq_int (bZ I q B2)
  |str j=>obtain⟨b,rfl⟩:=a;calc PySem.EqMixed.eq_int_str (bZ I q nofun)
  |_=>calc absurd (show false=true from c) U'
 |str i=>
  obtain⟨t,rfl⟩:=d
  cases y with
  |bI=>cases a;calc PySem.EqNone.eq_str_none (bZ I q nofun)
  |bl j=>cases a;calc PySem.EqMixed.eq_str_bool (bZ I q nofun)
  |int j=>obtain⟨b,rfl⟩:=a;calc PySem.EqMixed.eq_str_int (bZ I q nofun)
  |str j=>obtain⟨b,rfl⟩:=a;calc eq_str (bZ I q B3)
  |_=>calc absurd (show false=true from c) U'
 |BV i=>
  obtain⟨t,rfl⟩:=d
  cases y with
  |BV j=>obtain⟨b,rfl⟩:=a;calc W.eq_bytes (bZ I q B4)
  |_=>calc absurd (show false=true from c) U'
 |_=>cases y<;>calc absurd (show false=true from c) U'
theorem Uw:fQ X (compareOp .NotEq) rNe:=by
 intro e s σ H x y v u Q I d a h;obtain⟨c,q⟩:=h
 cases x with
 |bI=>
  cases d
  cases y with
  |bI=>cases a;calc PySem.EqNone.ne_none_none (bZ I q nofun)
  |bl j=>cases a;calc PySem.EqNone.ne_none_bool (bZ I q nofun)
  |int j=>obtain⟨b,rfl⟩:=a;calc PySem.EqNone.ne_none_int (bZ I q nofun)
  |str j=>obtain⟨b,rfl⟩:=a;calc PySem.EqNone.ne_none_str (bZ I q nofun)
  |_=>calc absurd (show false=true from c) U'
 |bl i=>
  cases d
  cases y with
  |bI=>cases a;calc PySem.EqNone.ne_bool_none (bZ I q nofun)
  |bl j=>cases a;calc ne_bool (bZ I q (congrArg not Gy))
  |str j=>obtain⟨b,rfl⟩:=a;calc PySem.EqMixed.ne_bool_str (bZ I q nofun)
  |_=>calc absurd (show false=true from c) U'
 |int i=>
  obtain⟨t,rfl⟩:=d
  cases y with
  |bI=>cases a;calc PySem.EqNone.ne_int_none (bZ I q nofun)
  |int j=>obtain⟨b,rfl⟩:=a;calc ne_int (bZ I q (congrArg not B2))
  |str j=>obtain⟨b,rfl⟩:=a;calc PySem.EqMixed.ne_int_str (bZ I q nofun)
  |_=>calc absurd (show false=true from c) U'
 |str i=>
  obtain⟨t,rfl⟩:=d
  cases y with
  |bI=>cases a;calc PySem.EqNone.ne_str_none (bZ I q nofun)
  |bl j=>cases a;calc PySem.EqMixed.ne_str_bool (bZ I q nofun)
  |int j=>obtain⟨b,rfl⟩:=a;calc PySem.EqMixed.ne_str_int (bZ I q nofun)
  |str j=>obtain⟨b,rfl⟩:=a;calc ne_str (bZ I q (congrArg not B3))
  |_=>calc absurd (show false=true from c) U'
 |BV i=>
  obtain⟨t,rfl⟩:=d
  cases y with
  |BV j=>obtain⟨b,rfl⟩:=a;calc W.ne_bytes (bZ I q (congrArg not B4))
  |_=>calc absurd (show false=true from c) U'
 |_=>cases y<;>calc absurd (show false=true from c) U'
theorem Ux:fQ X (compareOp .Lt) (Lf λi j=>.bl (decide (i<j))):=Lg λ_ _ _ _ _ _ _ q=>lt_int q
theorem Uy:fQ X (compareOp .LtE) (Lf λi j=>.bl (decide (i<=j))):=Lg λ_ _ _ _ _ _ _ q=>le_int q
theorem Uz:fQ X (compareOp .Gt) (Lf λi j=>.bl (decide (j<i))):=Lg λ_ _ _ _ _ _ _ q=>gt_int q
theorem UA:fQ X (compareOp .GtE) (Lf λi j=>.bl (decide (j<=i))):=Lg λ_ _ _ _ _ _ _ q=>ge_int q
theorem PF:fQ X (compareOp .Is) (λx y H Q=>y=.bI/\Q (.bl (decide (x=.bI))) H):=by
 intro a s σ H x y v u Q I b c h;obtain⟨rfl,q⟩:=h
 cases c;refine is_none_gen (bZ I q ?_)
 cases x<;>first
  |(cases b;rfl)
  |(obtain⟨t,rfl⟩:=b;rfl)
theorem Lj:fQ X (compareOp .IsNot) (λx y H Q=>y=.bI/\Q (.bl (!decide (x=.bI))) H):=by
 intro a s σ H x y v u Q I b c h;obtain⟨rfl,q⟩:=h
 cases c;refine isnot_none_gen (bZ I q ?_)
 cases x<;>first
  |(cases b;rfl)
  |(obtain⟨t,rfl⟩:=b;rfl)
theorem aG(b:Expr){op:CmpOp}(h:op≠.In:=by decide)(a:op≠.NotIn:=by decide):behindInMarks op b=false:=by
 have c:(op==CmpOp.In)=false:=by cases op<;>first|rfl|exact absurd rfl h
 have d:(op==CmpOp.NotIn)=false:=by cases op<;>first|rfl|exact absurd rfl a
 cases b<;>simp[behindInMarks,c,d]
theorem fA(c:fQ X (compareOp op) r)(d:PE X a ta)(e:PE X b tb)(f:behindInMarks op b=false):PE X (.Compare a [op] [b] pos) (Gw r ta tb):=by
 walk_at "xc";exact wpAny_Compare1 (Pu d e I h λv u g x y i j k l q=>c pins g σ i x y v u Q j k l q) f
def x8(t:TE):TT:=λσ H Q=>t σ H λx a=>∃k,x=.bl k/\Q k a
theorem B5(d:fQ X (compareOp op) r)(f:PE X a ta)(g:PE X b tb)(i:behindInMarks op b=false):PT X (.Compare a [op] [b] pos) (x8 (Gw r ta tb)):=by
 walk_at "xc";refine wpAny_isTrue_Compare1 (cK (f pins s σ H _ I h) λv j ⟨x,k,l,m,n⟩=>cK (g pins j σ k _ l n) λu f ⟨y,o,p,q,t⟩=>
  cK (d pins f σ o x y v u _ p m q t) λc g ⟨z,w,A,B,k,e,C⟩=>?_) i
 subst e
 cases B;calc aaA ⟨w,A,C⟩
def we(r b:R2)(ta tb tc:TE):TE:=λσ H Q=>ta σ H λx a=>tb σ a λy c=>r x y c λz a=>∃k,z=.bl k/\
 (if k=true then tc σ a λw' c=>b y w' c Q else Q (.bl false) a)
theorem x9{d:CmpOp}{f:R2}(m:fQ X (compareOp op) r)(n:fQ X (compareOp d) f)(o:PE X a ta)(p:PE X b tb)(q:PE X c tc)
  (t:lastMarks [op,d] [b,c]=false:=by with_unfolding_all rfl):PE X (.Compare a [op,d] [b,c] pos) (we r f ta tb tc):=by
 walk_at "xc";refine Compare_chain (cK (o pins s σ H _ I h) λv d ⟨x,f,w,A,z⟩=>chain_link (cK (p pins d σ f _ w z) λu o ⟨y,B,C,g,D⟩=>
  cK (m pins o σ B x y v u _ C A g D) λd E ⟨z,i,j,F,k,e,l⟩=>?_)) t
 subst e
 cases F;refine aaA ?_
 cases k with
 |false=>calc ite_ff ⟨.bl false,i,j,rfl,l⟩
 |true=>calc ite_tt (chain_last (cK (q pins E σ i _ j l) λd e ⟨f,k,m,o,p⟩=>n pins e σ k y f u d Q m g o p))
theorem Gz{d:CmpOp}{f:R2}(m:fQ X (compareOp op) r)(n:fQ X (compareOp d) f)(o:PE X a ta)(p:PE X b tb)(q:PE X c tc)
  (t:lastMarks [op,d] [b,c]=false:=by with_unfolding_all rfl):PT X (.Compare a [op,d] [b,c] pos) (x8 (we r f ta tb tc)):=by
 walk_at "xc";refine isTrue_chain (cK (o pins s σ H _ I h) λv d ⟨x,f,w,A,z⟩=>test_link (cK (p pins d σ f _ w z) λu o ⟨y,B,C,g,D⟩=>
  cK (m pins o σ B x y v u _ C A g D) λd E ⟨z,i,j,F,k,e,l⟩=>?_)) t
 subst e
 cases F;refine aaA ?_
 cases k with
 |false=>
  obtain⟨d,G,J⟩:=l
  cases G;calc ite_ff ⟨i,j,J⟩
 |true=>
  calc ite_tt (test_last (cK (q pins E σ i _ j l) λd e ⟨f,k,m,o,p⟩=>cK (n pins e σ k y f u d _ m g o p) λi j K=>?_));obtain⟨d,L,M,N,e,O,P⟩:=K;subst O
  cases N;calc aaA ⟨L,M,P⟩
theorem rY:(sizeLine:Nat)<2^63:=by rw[sizeLine_eq];decide
theorem Aq:fQ X (binaryOp .Add) (λx y H Q=>∃i j,x=.str i/\y=.str j/\i.length+j.length<=sizeLine/\Q (.str (i++j)) H):=by
 intro a s σ H x y v u Q I b c h;obtain⟨i,j,rfl,rfl,d,q⟩:=h;obtain⟨t,rfl⟩:=b;obtain⟨e,rfl⟩:=c;calc add_str (λe a=>⟨.str (i++j),H,I.tok _,⟨_,rfl⟩,q⟩) d
theorem vals1{x:V}{us:List Value}(r:Vals [x] us):∃u,us=[u]/\RelV x u:=by
 cases r with
 |cons a b=>cases b;calc⟨_,rfl,a⟩
theorem vals2{x y:V}{us:List Value}(r:Vals [x,y] us):∃u w',us=[u,w']/\RelV x u/\RelV y w':=by
 cases r with
 |cons a b=>
  cases b with
  |cons c d=>cases d;calc⟨_,_,rfl,a,c⟩
theorem D0(b:X.calm=true):fw X (.builtin "max") (λxs H Q=>∃i j,xs=[.int i,.int j]/\Q (.int (if j > i then j else i)) H):=by
 intro a s σ H xs c Q I r h;obtain⟨i,j,rfl,q⟩:=h;obtain⟨u,d,rfl,⟨t,rfl⟩,⟨e,rfl⟩⟩:=vals2 r;refine max_two_ints (I.ok.hd b) λa c k=>⟨_,H,I.kept k,?_,q⟩
 by_cases a:j > i
 ·rw[if_pos a,if_pos a];exact⟨_,rfl⟩
 ·rw[if_neg a,if_neg a];calc⟨_,rfl⟩
theorem pJ:fw X (.type "int") (λxs H Q=>(∃i,xs=[.int i]/\Q (.int i) H)\/∃k,xs=[.bl k]/\Q (.int (if k then 1 else 0)) H):=by
 intro a s σ H xs c Q I r h;rcases h with⟨i,rfl,q⟩|⟨k,rfl,q⟩
 ·obtain⟨u,rfl,t,rfl⟩:=vals1 r;exact call_int_int ⟨.int i,H,I,⟨_,rfl⟩,q⟩
 ·obtain⟨u,rfl,b⟩:=vals1 r
  cases b;calc call_int_bool ⟨.int (if k then 1 else 0),H,I.tok _,⟨_,rfl⟩,q⟩
def GB(K:W.Frag)(x:V)(H:Hp)(n:Nat):Prop:=
 match x with
 | .str y=>y.length<=sizeLine/\n=y.length
 | .BV y=>y.size<=sizeLine/\n=y.size
 | .ref p=>(∃xs,aT K H p xs/\n=xs.length)\/∃xs,bJ K H p xs/\n=xs.length
 |_=>False
theorem GC:fw X (.builtin "len") (λxs H Q=>∃x n,xs=[x]/\GB X.K x H n/\Q (.int n) H):=by
 intro i s σ H xs m Q I r h;obtain⟨x,n,rfl,e,q⟩:=h;obtain⟨u,rfl,c⟩:=vals1 r;have h:=rY;have h:sizeLine=16777216:=sizeLine_eq
 cases x with
 |str y=>
  obtain⟨t,rfl⟩:=c;obtain⟨j,b⟩:y.length<=sizeLine/\n=y.length:=e;subst b;calc len_str () ⟨.int _,H,I.tok _,⟨_,rfl⟩,q⟩
 |BV y=>
  obtain⟨t,rfl⟩:=c;obtain⟨j,b⟩:y.size<=sizeLine/\n=y.size:=e;subst b;calc W.len_bytes () ⟨.int _,H,I.tok _,⟨_,rfl⟩,q⟩
 |ref p=>
  cases c;have b:(∃xs,aT X.K H p xs/\n=xs.length)\/∃xs,bJ X.K H p xs/\n=xs.length:=e;rcases b with⟨xs,d,b⟩|⟨xs,d,b⟩
  ·subst b;obtain⟨k,f,g,l⟩:=I.list d;have a:=f.length;exact Calls.call_len_list g.isList (by simp only[List.size_toArray];lia) ⟨.int xs.length,H,I.tok _,⟨_,by simp only[List.size_toArray];rw[a]⟩,q⟩
  ·subst b;obtain⟨k,f,g,l⟩:=I.tuple d;have a:=f.length;calc len_tuple g (by simp only[List.size_toArray];lia) ⟨.int xs.length,H,I.tok _,⟨_,by simp only[List.size_toArray];rw[a]⟩,q⟩
 |_=>calc(show False from e).elim
end
end
section
variable {C:Addr}{mA:Str->Option Value}{Q:Value->Shared->Prop}
structure Ar(h:Heap)(x dx C:Addr)(mA:Str->Option Value):Prop where
 obj:h.get? x=some (W.instObj C dx)
 ns:h.Ns1 dx mA
 ne:dx≠x
theorem uQ{h:Heap}{b:Addr}(n:h.Ns1 b mA):∃od,h.get? b=some od/\∀name,W.lookIn name od=some (mA name):=by
 obtain⟨o,c,m,d,f,g,_,i⟩:=n;calc⟨o,d,λname=>?_⟩;have e:=i name;unfold nsFind findBy at e;rw[<-Array.find?_toList]at e;unfold W.lookIn;rw[f];dsimp only;split
 ·rename_i y q;rw[q]at e;exact congrArg some e
 ·rename_i q;rw[q]at e;have a:c.toList.any (·.refKey)=false:=by
   rw[List.any_eq_false];intro y j;obtain⟨z,t,k⟩:=g y (Array.mem_toList_iff.mp j);simp[DictEntry.refKey,k]
  have l:¬c.toList.any (·.refKey)=true:=by rw[a];exact U'
  rw[if_neg l];calc congrArg some e
theorem Ar.look{h:Heap}{x a:Addr}(I:Ar h x a C mA):∃od,W.InstAt h x (W.instObj C a) C (some od)/\∀name,W.lookIn name od=some (mA name):=
 let ⟨od,a,b⟩:=uQ I.ns
 ⟨od,⟨I.obj,rfl,rfl,a⟩,b⟩
section
variable {prog:Program}{w:World}{A:Around}{E:Value->Shared->Prop}{s:Shared}{K:W.Frag}{x dx C f:Addr}{mA:Str->Option Value}{name:Str}{v:Value}
theorem get_map{a:Bool}(X:K.In s.heap)(I:Ar s.heap x dx C mA)(c:W.plainGet K C name=true)(d:W.hasDictIn K C=true)
  (e:W.findIn K (.ref C) name=some none) (f:mA name=some v) (b:W.handedIn v=true) (h:Q v {s with toks:=s.toks+1}):
  wpAny (model prog w) A (getAttr (.ref x) name a) Q E s:=by
 obtain⟨g,J,a⟩:=I.look;calc W.get_value X J (W.plainGet_of c).1 (W.findObj_own d e rfl (by rw[a,f])) b h
theorem GD{pl:Sem Bool}{Q:Value×List Value->Shared->Prop}(X:K.In s.heap)(I:Ar s.heap x dx C mA)(a:W.plainGet K C name=true)
  (b:W.findIn K (.ref C) name=some (some (.ref f))) (c:W.isFn K (.ref f)=true) (d:mA name=none) (h:Q (.ref f,[.ref x]) s):
  wpAny (model prog w) A (getMethod (.ref x) name pl) Q E s:=by
 obtain⟨e,J,g⟩:=I.look;calc W.method_fn X J (W.plainGet_of a).1 (W.plainGet_of a).2 b (beq_iff_eq.mp c) (by show(W.lookIn name e).map (·.isSome)=some false;rw[g,d];rfl) h
theorem Lk{ns:List Str}{Q:Unit->Shared->Prop}(X:K.In s.heap)(I:Ar s.heap x dx C mA)
  (b:W.findIn K (.ref C) "__setattr__"=some (some (.builtin "object.__setattr__"))) (c:W.plainOver K C=true) (d:W.takerIn K C name=some none) (e:W.hasDictIn K C=true)
  (i:PySem.Within mA ns) (hsz:ns.length<=sizeLine)
  (h:∀h',Ar h' x dx C (λy=>if y=name then some v else mA y)->Heap.SameBut dx s.heap h'->Q ⟨⟩ {s with heap:=h',toks:=s.toks+2}):
  wpAny (model prog w) A (setAttr (.ref x) name v) Q E s:=by
 obtain⟨g,J,j⟩:=I.look;calc W.set_plain X J b (W.osa_open (s:={s with toks:=s.toks+1}) (r:=none) X J c d λb=>?_);obtain⟨d,b,c⟩:=W.any_some e;have d:s.heap.get? x=some ⟨.ref C,some dx,.plain,#[]⟩:=I.obj;calc j' (L' (j' (j' (wpAny_loadPart d (j' (W.Looks.here (s:={s with toks:=s.toks+1}) (W.looks_clsIn X b) ?_))))));rw[c];calc L' (a:=some dx) (j' (L' (j' ?_)));calc wpAny_nsSet1 (s:={s with toks:=s.toks+1}) I.ns λh' e g=>?_;obtain⟨l,j,k,b,c,d⟩:=e.count (PySem.Within.cons name v i);calc j' (wpAny_lookBehind b (by rw[c];calc pastItsLine_dict (aae d (by rw[List.length_cons];lia))) ?_);calc L' (h _ ⟨(g.2 _ (Ne.symm I.ne)).trans I.obj,e,I.ne⟩ g)
theorem GG{R:Result->Shared->Prop}{vs:List Value}{a:List (Str×Value)}(X:K.In s.heap)(b:W.makesIn K C=true)
  (c:W.findIn K (.ref C) "__init__"=some (some (.ref f))) (e:W.typeIn K (.ref f)=some (.type "function"))
  (h:codeAny (model prog w) (A.under (.builtin "type.__call__" ⟨.ref C::vs,a⟩)) (.call (.ref f) ⟨.ref (s.heap.objs.size + 1)::vs,a⟩) (W.InitBack (s.heap.objs.size + 1) R)
   {s with heap:=(s.heap.push W.emptyDict).push (W.instObj C s.heap.objs.size)}):
  codeAny (model prog w) A (.call (.ref C) ⟨vs,a⟩) R s:=by
 obtain⟨a,g,d,t,i⟩:=s;calc W.make_core (W.makes_of X b) (W.looks_findIn X c) (λa=>W.bind_fn X a e) (.inl rfl) h
end
def bo(f:Str)(v:V):List (Str×V)->List (Str×V)
 | []=>[(f,v)]
 |(g,x)::r=>if g=f then(g,v)::r else(g,x)::bo f v r
theorem bx(f g:Str)(v:V):∀a:List (Str×V),(bo f v a).lookup g=if g=f then some v else a.lookup g
 | []=>by
  show List.lookup g [(f,v)]=_;by_cases h:g=f
  ·have a:(g==f)=true:=beq_iff_eq.mpr h;simp only[List.lookup,a,if_pos h]
  ·have a:(g==f)=false:=beq_eq_false_iff_ne.mpr h;simp only[List.lookup,a,if_neg h]
 |(k,x)::r=>by
  have c:=bx f g v r;rw[show bo f v ((k,x)::r)=(if k=f then(k,v)::r else(k,x)::bo f v r) from rfl];by_cases b:k=f
  ·rw[if_pos b];by_cases h:g=k
   ·have a:(g==k)=true:=beq_iff_eq.mpr h;simp only[List.lookup,a,if_pos (h.trans b)]
   ·have a:(g==k)=false:=beq_eq_false_iff_ne.mpr h;simp only[List.lookup,a,if_neg (λe:g=f=>h (e.trans b.symm))]
  ·rw[if_neg b];by_cases h:g=k
   ·have a:(g==k)=true:=beq_iff_eq.mpr h;simp only[List.lookup,a,if_neg (λe:g=f=>b (h.symm.trans e))]
   ·have a:(g==k)=false:=beq_eq_false_iff_ne.mpr h;simp only[List.lookup,a];calc c
theorem pK(f:Str)(v:V):∀a:List (Str×V),f∈(bo f v a).map (·.1)/\∀g,g∈a.map (·.1)->g∈(bo f v a).map (·.1)
 | []=>⟨by simp[bo],λg h=>by simp at h⟩
 |(k,x)::r=>by
  obtain⟨c,d⟩:=pK f v r;rw[show bo f v ((k,x)::r)=(if k=f then(k,v)::r else(k,x)::bo f v r) from rfl];by_cases b:k=f
  ·rw[if_pos b];subst b;exact⟨nofun,λg h=>by simpa using h⟩
  ·rw[if_neg b];refine⟨?_,λg h=>?_⟩
   ·rw[List.map_cons];exact aav _ c
   ·rw[List.map_cons] at h ⊢;rcases List.mem_cons.mp h with e | e
    ·exact List.mem_cons.mpr (.inl e)
    ·calc aav _ (d g e)
theorem kJ(f:Str)(v:V):∀a:List (Str×V),(bo f v a).length<=a.length+1
 | []=>by simp[bo]
 |(k,x)::r=>by
  have a:=kJ f v r;rw[show bo f v ((k,x)::r)=(if k=f then(k,v)::r else(k,x)::bo f v r) from rfl];by_cases a:k=f
  ·rw[if_pos a,List.length_cons,List.length_cons];lia
  ·rw[if_neg a,List.length_cons,List.length_cons];lia
theorem jT.some_of{v:V}{o:Option Value}(r:jT (some v) o):∃u,o=some u/\RelV v u:=by
 cases o with
 |none=>calc(show False from r).elim
 |some u=>calc⟨u,rfl,r⟩
theorem jT.none_of{o:Option Value}(r:jT none o):o=none:=by
 cases o with
 |none=>rfl
 |some u=>calc(show False from r).elim
theorem uR{v:V}{u:Value}(r:RelV v u):W.handedIn u=true:=by
 cases v with
 |bI=>cases(show u=Value.none from r);rfl
 |bl b=>cases(show u=Value.bool b from r);rfl
 |int i=>obtain⟨t,e⟩:=(show ∃t,u=Value.int i t from r);cases e;rfl
 |str x=>obtain⟨t,e⟩:=(show ∃t,u=Value.str x t from r);cases e;rfl
 |BV b=>obtain⟨t,e⟩:=(show ∃t,u=Value.bytes b t from r);cases e;rfl
 |Nh b=>obtain⟨t,e⟩:=(show ∃t,u=Value.float b t from r);cases e;rfl
 |ref a=>cases(show u=Value.ref a from r);rfl
 |ty n=>cases(show u=Value.type n from r);rfl
section
variable {P:Program}{w:World}{H H':Hp}{h h':Heap}{a C dx:Addr}{fs zY:List (Str×V)}
theorem oo(b:mB P w H h)(e:H a=some (.ins C dx fs)):∃mA,Ar h a dx C mA/\(∀f,jT (fs.lookup f) (mA f))/\PySem.Within mA (fs.map (·.1))/\fs.length<=1000/\H dx=some (.own a):=by
 obtain⟨d,z,c,f,mA,n,r,q⟩:=(show cH P w H h a (.ins C dx fs) from b a _ e)
 calc⟨mA,⟨f,n,c⟩,r,q,z,d⟩
end
structure uc(K:W.Frag)(C:Addr):Prop where
 pg:W.plainGet K C Str.empty=true
 hd:W.hasDictIn K C=true
 po:W.plainOver K C=true
 sa:W.findIn K (.ref C) "__setattr__"=some (some (.builtin "object.__setattr__"))
theorem uc.get{K:W.Frag}(c:uc K C)(f:Str):W.plainGet K C f=true:=c.pg
def bQ(K:W.Frag)(C:Addr)(f:Str):Prop:=W.findIn K (.ref C) f=some none
theorem bQ.UB{K:W.Frag}{f:Str}(n:bQ K C f):W.takerIn K C f=some none:=by
 unfold W.takerIn;rw[show W.findIn K (.ref C) f=some none from n];rfl
structure Meth(K:W.Frag)(C:Addr)(m:Str)(f:Addr):Prop where
 at_:W.findIn K (.ref C) m=some (some (.ref f))
 fn:W.isFn K (.ref f)=true
 kp:W.keepIn K (.ref f)=true
section
variable {X:Cx}{pins:List (Addr×Obj)}{σ:St}{H:Hp}{s:Shared}{a C dx:Addr}{fs:List (Str×V)}{f:Str}{v:V}{A:Around}{E:Value->Shared->Prop}
theorem As{b:Bool}(I:Inv X pins σ H s)(e:H a=some (.ins C dx fs))(c:uc X.K C)(n:bQ X.K C f)(l:fs.lookup f=some v)
  (h:∀u s',Inv X pins σ H s'->RelV v u->Q u s'):wpAny (model X.prog X.w) A (getAttr (.ref a) f b) Q E s:=by
 obtain⟨mA,O,r,_,_,_⟩:=oo I.aW e;obtain⟨u,d,b⟩:=jT.some_of (v:=v) (o:=mA f) (by rw[<-l];calc r f);calc get_map I.gG O (c.get f) c.hd n d (uR b) (h u _ (I.tok _) b)
theorem mI{m:Str}{g:Addr}{pl:Sem Bool}{Q:Value×List Value->Shared->Prop}(I:Inv X pins σ H s)(e:H a=some (.ins C dx fs))(c:uc X.K C)(k:Meth X.K C m g)(l:fs.lookup m=none)
  (h:Q (.ref g,[.ref a]) s):wpAny (model X.prog X.w) A (getMethod (.ref a) m pl) Q E s:=by
 obtain⟨mA,O,r,_,_,_⟩:=oo I.aW e;have b:mA m=none:=jT.none_of (by rw[<-l];calc r m);calc GD I.gG O (c.get m) k.at_ k.fn b h
theorem Au{y:V}{u:Value}{Q:Unit->Shared->Prop}(I:Inv X pins σ H s)(e:H a=some (.ins C dx fs))(c:uc X.K C)(n:bQ X.K C f)(b:fs.length<1000)(k:RelV y u)
  (h:∀s',Inv X pins σ (upd H a (.ins C dx (bo f y fs))) s'->Q ⟨⟩ s'):wpAny (model X.prog X.w) A (setAttr (.ref a) f u) Q E s:=by
 obtain⟨mA,O,r,i,_,j⟩:=oo I.aW e;have b:(fs.map (·.1)).length<=sizeLine:=by rw[List.length_map,sizeLine_eq];lia
 calc Lk I.gG O c.sa c.po n.UB c.hd i b λg d l=>h _ ?_;have hd:∃o,g.get? dx=some o:=let ⟨o,_,_,b,_⟩:=d.ns;⟨o,b⟩
 calc I.write (x:=a) (e:=dx) (by rw[e];calc aam) (.inr j) (λb q c z=>(l.2 b c).trans z) hd ?_;refine⟨by rw[ay O.ne];calc j,?_,O.ne,d.obj,_,d.ns,λg=>?_,λg b=>?_⟩
 ·have:=kJ f y fs;lia
 ·show jT ((bo f y fs).lookup g) (if g=f then some u else mA g);rw[bx];by_cases q:g=f
  ·rw[if_pos q,if_pos q];exact k
  ·rw[if_neg q,if_neg q];exact r g
 ·by_cases q:g=f
  ·rw[q];exact(pK f y fs).1
  ·calc(pK f y fs).2 g (i g λz=>b ?_);show(if g=f then some u else mA g)=none;rw[if_neg q];calc z
theorem Inv.made(I:Inv X pins σ H s):Inv X pins σ (upd (upd H s.heap.objs.size (.own (s.heap.objs.size+1))) (s.heap.objs.size+1) (.ins C s.heap.objs.size []))
  {s with heap:=(s.heap.push W.emptyDict).push (W.instObj C s.heap.objs.size)}:=by
 have c:(s.heap.push W.emptyDict).get? s.heap.objs.size=some W.emptyDict:=V' s.heap rfl;have d:((s.heap.push W.emptyDict).push (W.instObj C s.heap.objs.size)).get? (s.heap.objs.size+1)=some (W.instObj C s.heap.objs.size):=by
  have:=V' (s.heap.push W.emptyDict) (o:=W.instObj C s.heap.objs.size) rfl;rwa [Heap.size_push]at this
 have f:(s.heap.push W.emptyDict).Ns s.heap.objs.size (λ_=>none):=⟨W.emptyDict,#[],_,c,rfl,(λe b=>absurd b nofun),λ_=>rfl⟩
 have e:=I.laid (a:=s.heap.objs.size) (o:=.own (s.heap.objs.size+1)) (h':=s.heap.push W.emptyDict) (t':=s.toks) (λb u q=>J' _ q) (K' _) ⟨_,c⟩;calc e.laid (a:=s.heap.objs.size+1) (o:=.ins C s.heap.objs.size []) (t':=s.toks) (λb u q=>J' _ q) (Nat.le_of_eq (Heap.size_push _ _)) ?_;have b:s.heap.objs.size≠s.heap.objs.size+1:=W' (Nat.lt_succ_self _);calc⟨by rw[ay b,af],aab _,b,d,λ_=>none,(Heap.Ns1.of_empty f).at λo q=>J' _ q,λ_=>aam,λy b=>absurd rfl b⟩
theorem B6{prog:Program}{w:World}{env:Env}{e:Expr}{f:Str}{b:Pos}{s:Shared}(c:attributeBase e f env (eval e env)=eval e env)
  (h:wpAny (model prog w) A (eval e env) (λo a=>wpAny (model prog w) A (getAttr o f true) Q E a) E s):wpAny (model prog w) A (eval (.Attribute e f b) env) Q E s:=
 Attribute_any_ h (by rw[arm_eval_Attribute,c])
end
def Ll(K:W.Frag)(a:TE)(f:Str):TE:=λσ H Q=>a σ H λx b=>∃a C d c v,x=.ref a/\b a=some (.ins C d c)/\uc K C/\bQ K C f/\c.lookup f=some v/\Q v b
def PJ(K:W.Frag)(a b:TE)(f:Str):TS:=λD σ H=>b σ H λy d=>a σ d λx c=>∃a C d b,x=.ref a/\c a=some (.ins C d b)/\uc K C/\bQ K C f/\b.length<1000/\
 D.nx σ (upd c a (.ins C d (bo f y b)))
section
variable {X:Cx}{o e value:Expr}{f:Str}{pos pos' Lm:Pos}{ta tv:TE}
theorem bH(b:PE X e ta)(d:attributeBase e f X.env (eval e X.env)=eval e X.env):PE X (.Attribute e f pos) (Ll X.K ta f):=by
 walk_at "xc";refine B6 d (cK (b pins s σ H _ I h) λu p g=>?_);obtain⟨x,i,j,k,a,C,b,d,v,m,o,c,n,l,q⟩:=g;subst m;obtain rfl:u=Value.ref a:=k;exact As j o c n l λd g a b=>⟨v,i,a,b,q⟩
theorem fR(b:PE X o ta)(d:PE X value tv)(e:swapsWith value (some (.Attribute o f pos')) pos.line X.env=pure false):PS X (.Assign [.Attribute o f pos'] value pos) (PJ X.K ta tv f):=by
 walk_at "xd";refine plainObj_wpAny_Assign_Attribute (cK (d pins s σ H _ I h) λu g ⟨y,i,j,k,q⟩=>cK (b pins g σ i _ j q) λm d p=>?_) e;obtain⟨x,b,r,t,a,C,d,g,v,w,c,n,l,z⟩:=p;subst v;obtain rfl:m=Value.ref a:=t;exact Au r w c n l k λb a=>⟨σ,_,a,z⟩
end
section
variable {X:Cx}{pins:List (Addr×Obj)}{σ:St}{H:Hp}{s:Shared}{A:Around}{E:Value->Shared->Prop}{Q:Value->Shared->Prop}{c:Value}{b:Bool}
inductive gM(K:W.Frag)(H:Hp):V->Value->Prop where
  |bI:gM K H .bI (.type "NoneType")
  |bl (x:Bool):gM K H (.bl x) (.type "bool")
  |int (i:Int):gM K H (.int i) (.type "int")
  |str (x:Str):gM K H (.str x) (.type "str")
  |Nh (x:UInt64):gM K H (.Nh x) (.type "float")
  |lst {a:Addr} {xs:List V} (e:H a=some (.lst xs)):gM K H (.ref a) (.type "list")
  |zX {a:Addr} {o:Obj} {xs:List V} (e:H a=some (.zX o (.lst xs))):gM K H (.ref a) (.type "list")
  |tup {a:Addr} {xs:List V} (e:H a=some (.tup xs)):gM K H (.ref a) (.type "tuple")
  |dK {a:Addr} {bt:List (Key×V)} (e:H a=some (.dK bt)):gM K H (.ref a) (.type "dict")
  |dT {a:Addr} {bt:List (List Key×V)} (e:H a=some (.dT bt)):gM K H (.ref a) (.type "dict")
  | ins {a C dx:Addr} {fs:List (Str×V)} (e:H a=some (.ins C dx fs)) (cl:uc K C) (ha:W.findIn K (.ref C) "__class__"=some (some (.builtin "object.__class__")))
      (hn:W.specialIn K (.builtin "object.__class__") "__get__"=some (some (.builtin "getset_descriptor.__get__"))) (YF:W.takesIn K (.builtin "object.__class__")=some true)
      (hm:W.mroIn K C (.type "object")=some true):gM K H (.ref a) (.ref C)
theorem uS{x:V}{u t:Value}(I:Inv X pins σ H s)(d:RelV x u)(r:gM X.K H x t)(e:W.kitOne X.K t c=some b)(h:∀v,Q (.bool b) {s with toks:=v}):
  wpAny (model X.prog X.w) A (call (.builtin "isinstance") [u,c]) Q E s:=by
 cases r with
 |bI=>cases(show u=Value.none from d);calc W.kia_one W.kitx_none I.gG aam e (λz=>nomatch z) h
 |bl y=>cases(show u=Value.bool y from d);calc W.kia_one W.kitx_bool I.gG aam e (λz=>nomatch z) h
 |int i=>obtain⟨t,q⟩:=(show ∃t,u=Value.int i t from d);cases q;calc W.kia_one W.kitx_int I.gG aam e (λz=>nomatch z) h
 |str y=>obtain⟨t,q⟩:=(show ∃t,u=Value.str y t from d);cases q;calc W.kia_one W.kitx_str I.gG aam e (λz=>nomatch z) h
 |Nh y=>obtain⟨t,q⟩:=(show ∃t,u=Value.float y t from d);cases q;calc W.kia_one W.kitx_float I.gG aam e (λz=>nomatch z) h
 | @lst a j f=>
  cases(show u=Value.ref a from d);obtain⟨_,_,n,_,g⟩:=(show cH X.prog X.w H s.heap a (.lst j) from I.aW a _ f)
  calc W.kia_one W.kitx_list I.gG ⟨_,g,rfl⟩ e (λz=>nomatch z) h
 | @zX a B j f=>
  cases(show u=Value.ref a from d);obtain⟨_,_,_,n,_,g⟩:=(show cH X.prog X.w H s.heap a (.zX B (.lst j)) from I.aW a _ f)
  calc W.kia_one W.kitx_list I.gG ⟨_,g,rfl⟩ e (λz=>nomatch z) h
 | @tup a j f=>
  cases(show u=Value.ref a from d);obtain⟨_,_,_,p⟩:=(show cH X.prog X.w H s.heap a (.tup j) from I.aW a _ f)
  obtain⟨o,g,k,_⟩:=p;calc W.kia_one W.kitx_tuple I.gG ⟨o,g,k⟩ e (λz=>nomatch z) h
 | @dK a l f=>
  cases(show u=Value.ref a from d);obtain⟨_,_,i,_,p⟩:=(show cH X.prog X.w H s.heap a (.dK l) from I.aW a _ f)
  obtain⟨o,D,F,g,k,_⟩:=p;calc W.kia_one W.kitx_dict I.gG ⟨o,g,k.1⟩ e (λz=>nomatch z) h
 | @dT a l f=>
  cases(show u=Value.ref a from d);obtain⟨_,_,j,_,o,D,F,g,k,_⟩:=(show cH X.prog X.w H s.heap a (.dT l) from I.aW a _ f)
  calc W.kia_one W.kitx_dict I.gG ⟨o,g,k.1⟩ e (λz=>nomatch z) h
 | @ins a C g i f m G L M N=>
  cases(show u=Value.ref a from d);obtain⟨mA,O,_⟩:=oo I.aW f;obtain⟨a,J,_⟩:=O.look;calc W.kia_one (W.kitx_own (m.get _) m.hd G L M N) I.gG J e (λz=>nomatch z) h
end
end
section
variable {A:Around}{base:Heap}{H:Hp}{kw:List (Str×Value)}{us:List Value}{s:Shared}{mg:Str->Option Value}{K:W.Frag}
structure dH(k:Nat)(A:Around):Prop where
 hd:A.handled=none
 dp:A.depth+3*k+5<recursionLimit
 un:A.units+16*k+200<cLine
theorem dH.mono{j k:Nat}(r:dH k A)(h:j<=k):dH j A:=⟨r.hd,by have:=r.dp;lia,by have:=r.un;lia⟩
theorem dH.deeper{k:Nat}(r:dH (k+1) A)(env:Env):dH k (A.deeper env):=
 ⟨r.hd,by have:=r.dp;show A.depth+1+3*k+5<_;lia,by have:=r.un;show A.units+3+16*k+200<_;lia⟩
theorem Av{C:Addr}:(A.under (.builtin "type.__call__" ⟨.ref C::us,kw⟩)).depth=A.depth+1:=by
 first|rfl|simp[Around.under,Code.weight,Code.isCreation,Code.isGuard,Code.isCaller,Code.frames,Code.isFrame,guardIds]
theorem Aw{C:Addr}:(A.under (.builtin "type.__call__" ⟨.ref C::us,kw⟩)).units=A.units+1:=by
 first|rfl|simp[Around.under,Code.cUnits,Code.frames,Code.isFrame]
theorem dH.make{k:Nat}(r:dH (k+1) A)(C:Addr)(us:List Value)(kw:List (Str×Value)):dH k (A.under (.builtin "type.__call__" ⟨.ref C::us,kw⟩)):=
 ⟨r.hd,by have:=r.dp;rw[Av];lia,by have:=r.un;rw[Aw];lia⟩
theorem dH.depth{k:Nat}(r:dH k A):A.depth<recursionLimit:=by have:=r.dp;lia
theorem dH.units{k:Nat}(r:dH k A):A.units+64<cLine:=by have:=r.un;lia
def ya:TA:=λ_ H Q=>Q [] H
def rZ(a:TE)(b:TA):TA:=λσ H Q=>a σ H λx c=>b σ c λxs a=>Q (x::xs) a
section
variable {X:Cx}{e:Expr}{es:List Expr}{te:TE}{t:TA}{pos:Pos}
theorem aa:PA X [] ya:=.mk λ_ _ _ _ H Q I h=>Calls.spliced_nil ⟨[],H,I,.nil,h⟩
theorem Ln(b:PE X e te)(c:PA X es t)(d:starEach (e::es) X.env=(false,eval e X.env)::starEach es X.env:=by rfl):PA X (e::es) (rZ te t):=by
 calc⟨?_⟩;intro pos a s σ H Q I h;rw[d];show wpAny _ _ (spliced ((false,eval e X.env)::backTo pos (starEach es X.env))) _ _ s;calc Calls.spliced_cons (cK (b a s σ H _ I h) λu f g=>?_);obtain⟨x,b,d,h,i⟩:=g;calc cK (c pos a f σ b _ d i) λus o ⟨j,k,l,m,n⟩=>⟨x::j,k,l,.cons h m,n⟩
def PK(t:TA):TE:=λσ H Q=>t σ H λxs a=>xs.length<=sizeLine/\∀p,a p=none->Q (.ref p) (upd a p (.tup xs))
def PM(t:TA):TE:=λσ H Q=>t σ H λxs a=>xs.length<=sizeLine/\∀p,a p=none->Q (.ref p) (upd a p (.lst xs))
theorem bA{a}(h:PA X es t):PE X (.Tuple es a pos) (PK t):=by
 calc⟨?_⟩;intro a s σ H Q I f;calc wpAny_Tuple_spliced (cK (h pos a s σ H _ I f) λus c ⟨g,b,d,r,z,q⟩=>⟨by rw[<-r.length];calc z,?_⟩);have a:b c.heap.objs.size=none:=d.aW.fresh (K' _);calc⟨.ref c.heap.objs.size,upd b c.heap.objs.size (.tup g),d.laid (t':=c.toks) (λb u e=>J' _ e) (K' _) ?_,rfl,q _ a⟩;calc⟨z,us,r,⟨_,V' _ rfl,rfl,_,rfl⟩⟩
theorem bD(h:PA X es t):PE X (.List es pos) (PM t):=by
 calc⟨?_⟩;intro a s σ H Q I f;calc wpAny_List_spliced (cK (h pos a s σ H _ I f) λus c ⟨g,b,d,r,z,q⟩=>⟨by rw[<-r.length];calc z,?_⟩);have a:b c.heap.objs.size=none:=d.aW.fresh (K' _);calc⟨.ref c.heap.objs.size,upd b c.heap.objs.size (.lst g),d.laid (t':=c.toks) (λb u e=>J' _ e) (K' _) ?_,rfl,q _ a⟩;calc⟨z,us,0,r,V' _ rfl⟩
end
abbrev Sp:=List V->Hp->VK->XK->Prop
abbrev GH:=List Env->Hp->Shared->XK->Value->Shared->Prop
structure wg(P:Program)(w:World)(K:W.Frag)(mg:Str->Option Value)(base:Heap)(A:Around)(outer:List Env)(s:Shared)(H:Hp):Prop where
 frames:A.frames=some outer
 mod:Mod K mg base
 bs:∀b o,base.get? b=some o->s.heap.get? b=some o/\H b=none
 BX:base.objs.size<=s.heap.objs.size
 mr:s.heap.FunFrames base outer
 F6:∀b∈xM outer,H b=none
 aW:mB P w H s.heap
 bare:AllBare s.gens
def CE(outer:List Env)(P:Program)(w:World)(H:Hp)(s:Shared)(Q:VK)(u:Value)(s':Shared):Prop:=
 ∃v a,s'.os=s.os/\AllBare s'.gens/\Un (xM outer) [] H a s.heap s'.heap/\mB P w a s'.heap/\RelV v u/\Q v a
def CR(CX:GH)(outer:List Env)(P:Program)(w:World)(H:Hp)(s:Shared)(Q:VK)(E:XK)(r:Result)(s':Shared):Prop:=
 match r with
 | .ok (.ret u)=>CE outer P w H s Q u s'
 | .ok _=>False
 | .error e=>CX outer H s E e s'
structure ja(P:Program)(w:World)(K:W.Frag)(mg:Str->Option Value)(base:Heap)(CX:GH)(k:Nat)(f:Addr)(fd:FuncData)(ps:List Str)(sp:Sp):Prop where
 len:∀vs H Q E,sp vs H Q E->vs.length=ps.length
 run:∀(A:Around) (outer:List Env) (s:Shared) (H:Hp) (args:Args) (us:List Value) (vs:List V) (Q:VK) (E:XK),dH k A->wg P w K mg base A outer s H->BindsTo s fd args (ps.zip us)->Vals vs us->sp vs H Q E->
  codeAny (model P w) A (.call (.ref f) args) (CR CX outer P w H s Q E) s
theorem wg.make{P:Program}{w:World}{outer:List Env}(e:wg P w K mg base A outer s H)(C:Addr)(us:List Value)(kw:List (Str×Value)):
  wg P w K mg base (A.under (.builtin "type.__call__" ⟨.ref C::us,kw⟩)) outer s H:=⟨by first|exact e.frames|(simpa[Around.under,Code.envs,Code.isFrame,pushEnvs] using e.frames),e.mod,e.bs,e.BX,e.mr,e.F6,e.aW,e.bare⟩
section
variable {X:Cx}{pins:List (Addr×Obj)}{σ:St}{H:Hp}{s s':Shared}
theorem Inv.GI(I:Inv X pins σ H s):wg X.prog X.w X.K X.mg X.base X.A X.stack s H:=
 ⟨I.ok.frames,I.ok.mod,I.bs,aae I.ok.BX I.sz,I.stack,I.rE,I.aW,I.bare⟩
theorem Inv.after{Q:VK}{u:Value}(I:Inv X pins σ H s)(h:CE X.stack X.prog X.w H s Q u s'):EP X pins σ Q u s':=by
 obtain⟨v,c,os,a,e,f,r,q⟩:=h;obtain⟨i,g,d,t,b⟩:=s';obtain rfl:b=s.os:=os;calc⟨v,c,I.call (h':=i) (g':=g) (d':=d) (t':=t) (ch:=[]) e f a (λb z=>absurd z nofun),r,q⟩
end
def uT(sp:Sp)(a:List V)(E:XK)(t:TA):TE:=λσ H Q=>t σ H λvs b=>sp (vs++a) b Q E
def qP(C:Addr)(m:Str)(sp:Sp)(d:List V)(E:XK)(a:TE)(t:TA):TE:=λσ H Q=>a σ H λx b=>∃a e c,x=.ref a/\b a=some (.ins C e c)/\c.lookup m=none/\
 t σ b λvs a=>sp (x::(vs++d)) a Q E
def B7(C:Addr)(sp:Sp)(c:List V)(E:XK)(t:TA):TE:=λσ H Q=>t σ H λvs b=>∀x a,b x=none->b a=none->a≠x->
 sp (.ref x::(vs++c)) (upd (upd b a (.own x)) x (.ins C a [])) (λv d=>v=.bI/\Q (.ref x) d) E
def Binds(K:W.Frag)(c:FuncData)(a:List Str)(b:List Value):Prop:=
 ∀(s:Shared) (us:List Value),K.In s.heap->(us++b).length=a.length->BindsTo s c ⟨us,[]⟩ (a.zip (us++b))
theorem Binds.all{b:FuncData}{a:List Str}(h:∀us:List Value,us.length=a.length->bindArgs b ⟨us,[]⟩=pure (a.zip us)):Binds K b a []:=λs us _ a=>by
 rw[List.append_nil]at a ⊢;calc .of_eq (h us a)
def Passes(CX:GH)(X:Cx)(E:XK):Prop:=∀(pins:List (Addr×Obj)) (σ:St) (H:Hp) (s:Shared) (e:Value) (s':Shared),Inv X pins σ H s->CX X.stack H s E e s'->X.xe e s'
section
variable {X:Cx}{CX:GH}{k:Nat}{f C:Addr}{fd:FuncData}{ps:List Str}{sp:Sp}{ud:List V}{ds:List Value}{E:XK}{x m:Str}{p pos apos:Pos}{e o:Expr}{es:List Expr}{ta:TE}{t:TA}
theorem Ax{pins:List (Addr×Obj)}{σ:St}{H:Hp}{s:Shared}{Q:VK}{us:List Value}{vs:List V}(F:ja X.prog X.w X.K X.mg X.base CX k f fd ps sp)(c:dH k X.A)(d:Binds X.K fd ps ds)(g:Vals ud ds)(i:Passes CX X E)
  (I:Inv X pins σ H s) (r:Vals vs us) (h:sp (vs++ud) H Q E):wpAny (model X.prog X.w) X.A (call (.ref f) us) (EP X pins σ Q) X.xe s:=by
 have b:Vals (vs++ud) (us++ds):=r.append g;have j:(us++ds).length=ps.length:=by rw[<-b.length];exact F.len _ _ _ _ h
 refine wpAny_call (codeAny_mono (F.run X.A X.stack s H ⟨us,[]⟩ (us++ds) (vs++ud) Q E c I.GI (d s us I.gG j) b h) λr l a=>?_)
 cases r with
 |error e=>calc i pins σ H s e l I a
 |ok m=>
  cases m with
  |ret u=>calc I.after a
  |next=>calc X' a
  |brk=>calc X' a
  |cont=>calc X' a
theorem Lo(F:ja X.prog X.w X.K X.mg X.base CX k f fd ps sp)(b:dH k X.A)(a:Gl X x)(c:X.mg x=some (.ref f))(d:W.keepIn X.K (.ref f)=true)(g:Binds X.K fd ps ds)(i:Vals ud ds)(j:Passes CX X E)
  (l:PA X (e::es) t) (m:(x==("__debug__":Str))=false:=by decide) (n:starEach (e::es) X.env=(false,eval e X.env)::starEach es X.env:=by rfl) (o:(backTo pos (starEach es X.env)).any (·.1)=false:=by rfl):
  PE X (.Call (.Name x p) (e::es) [] pos) (uT sp ud E t):=by
 walk_at "xc";refine wpAny_Call_Name_kw (jU I a c ?_ m);refine W.callWith_K (h₀:=X.base) I.ok.mod.xV d (cK (l pos pins s σ H _ I h) λus c ⟨m,u,a,r,q⟩=>⟨a.gG,?_⟩) n o;exact Ax F b g i j a r q
theorem B8{pl:Sem Bool}(i:PE X o ta)(c:uc X.K C)(b:Meth X.K C m f)(F:ja X.prog X.w X.K X.mg X.base CX k f fd ps sp)(j:dH k X.A)(n:Binds X.K fd ps ds)(p:Vals ud ds)(v:Passes CX X E)(y:PA X (e::es) t)
  (z:starEach (e::es) X.env=(false,eval e X.env)::starEach es X.env:=by rfl) (B:(backTo pos (starEach es X.env)).any (·.1)=false:=by rfl)
  (r:eval (.Call (.Attribute o m apos) (e::es) [] pos) X.env=(do
   let d <-eval o X.env
   standAt apos.atName
   let (f,first) <-holding [d] (getMethod d m pl)
   callWith pos f first (backTo pos (starEach (e::es) X.env)) (backToKw pos (keywordEach [] X.env))):=by rfl):
  PE X (.Call (.Attribute o m apos) (e::es) [] pos) (qP C m sp ud E ta t):=by
 walk_at "xc";refine W.methodCall_KW (pl:=pl) (cK (i pins s σ H _ I h) λu D G=>?_) r;obtain⟨x,J,g,L,a,d,i,M,N,l,q⟩:=G;subst M;obtain rfl:u=Value.ref a:=L;refine mI g N c b l ?_;refine W.callWith_K (first:=[.ref a]) (h₀:=X.base) I.ok.mod.xV b.kp (cK (y pos pins D σ J _ g q) λus l ⟨c,u,d,r,i⟩=>⟨d.gG,?_⟩) z B;exact Ax (us:=.ref a::us) (vs:=.ref a::c) F j n p v d (.cons rfl r) i
theorem GJ{pl:Sem Bool}(g:PE X o ta)(c:uc X.K C)(d:Meth X.K C m f)(F:ja X.prog X.w X.K X.mg X.base CX k f fd ps sp)(i:dH k X.A)(j:Binds X.K fd ps ds)(n:Vals ud ds)(p:Passes CX X E)
  (r:eval (.Call (.Attribute o m apos) [] [] pos) X.env=(do
   let e <-eval o X.env
   standAt apos.atName
   let (f,first) <-holding [e] (getMethod e m pl)
   callWith pos f first (backTo pos (starEach [] X.env)) (backToKw pos (keywordEach [] X.env))):=by rfl):
  PE X (.Call (.Attribute o m apos) [] [] pos) (qP C m sp ud E ta ya):=by
 walk_at "xc";refine W.methodCall_KW (pl:=pl) (cK (g pins s σ H _ I h) λu e t=>?_) r;obtain⟨x,e,b,v,a,g,B,y,z,l,q⟩:=t;subst y;obtain rfl:u=Value.ref a:=v;refine mI b z c d l ?_;exact W.callWith_K0 (first:=[.ref a]) b.gG d.kp (Ax (us:=[.ref a]) (vs:=[.ref a]) F i j n p b (.cons rfl .nil) q)
structure Mk(K:W.Frag)(C f:Addr):Prop where
 makes:W.makesIn K C=true
 init:W.findIn K (.ref C) "__init__"=some (some (.ref f))
 fn:W.isFn K (.ref f)=true
 kp:W.keepIn K (.ref C)=true
theorem GK{pins:List (Addr×Obj)}{σ:St}{Q:VK}{vs:List V}(M:Mk X.K C f)(F:ja X.prog X.w X.K X.mg X.base CX k f fd ps sp)(hr:dH (k+1) X.A)(g:Binds X.K fd ps ds)(i:Vals ud ds)
  (j:Passes CX X E) (I:Inv X pins σ H s) (r:Vals vs us)
  (h:∀x b,H x=none->H b=none->b≠x->sp (.ref x::(vs++ud)) (upd (upd H b (.own x)) x (.ins C b [])) (λv d=>v=.bI/\Q (.ref x) d) E):
  wpAny (model X.prog X.w) X.A (call (.ref C) us) (EP X pins σ Q) X.xe s:=by
 have b:=h (s.heap.objs.size+1) s.heap.objs.size (I.aW.fresh (Nat.le_succ _)) (I.aW.fresh (K' _)) (W' (Nat.lt_succ_self _));have c:=Inv.made (C:=C) I;have d:Vals (V.ref (s.heap.objs.size+1)::(vs++ud)) (Value.ref (s.heap.objs.size+1)::(us++ds)):=.cons rfl (r.append i);have l:(Value.ref (s.heap.objs.size+1)::us++ds).length=ps.length:=by
  have e:=d.length;rw[F.len _ _ _ _ b]at e;exact e.symm
 refine wpAny_call (GG (f:=f) I.gG M.makes M.init (beq_iff_eq.mp M.fn) (codeAny_mono (F.run _ X.stack _ _ ⟨Value.ref (s.heap.objs.size + 1)::us,[]⟩ (Value.ref (s.heap.objs.size + 1)::(us++ds)) _ _ E (hr.make C us [])
  (c.GI.make C us []) (g _ (Value.ref (s.heap.objs.size + 1)::us) c.gG l) d b) λr m a=>?_))
 cases r with
 |error e=>calc j pins σ _ _ e m c a
 |ok n=>
  cases n with
  |ret u=>
   obtain⟨v,o,p,q,t,y⟩:=c.after a;subst t;calc⟨q,⟨V.ref (s.heap.objs.size+1),o,p,rfl,y⟩⟩
  |next=>calc X' a
  |brk=>calc X' a
  |cont=>calc X' a
theorem Lp(M:Mk X.K C f)(F:ja X.prog X.w X.K X.mg X.base CX k f fd ps sp)(b:dH (k+1) X.A)(a:Gl X x)(c:X.mg x=some (.ref C))(d:Binds X.K fd ps ds)(g:Vals ud ds)(i:Passes CX X E)
  (j:PA X (e::es) t) (l:(x==("__debug__":Str))=false:=by decide) (m:starEach (e::es) X.env=(false,eval e X.env)::starEach es X.env:=by rfl) (n:(backTo pos (starEach es X.env)).any (·.1)=false:=by rfl):
  PE X (.Call (.Name x p) (e::es) [] pos) (B7 C sp ud E t):=by
 walk_at "xc";refine wpAny_Call_Name_kw (jU I a c ?_ l);refine W.callWith_K (h₀:=X.base) I.ok.mod.xV M.kp (cK (j pos pins s σ H _ I h) λus c ⟨l,o,a,r,q⟩=>⟨a.gG,?_⟩) m n;exact GK M F b d g i a r q
end
structure aE(N P:List Str)(sc:Scope):Prop where
 kind:sc.kind=.function
 co:sc.isCoroutine=false
 gen:sc.isGenerator=false
 nd:N.Nodup
 pre:N.take P.length=P
 par:∀x∈P,sc.names.lookup x=some .local\/sc.names.lookup x=some .cell
 PN:∀y∈sc.names,y.2≠.free
theorem uU{b:Str->Option NameKind}{x:Str}:∀{a:List (Str×Value)}{m:Str->Option Value},(∀v,(x,v)∉a)->bindL b a m x=m x
 | [],_,_=>rfl
 |(n,v)::r,m,h=>by
  unfold bindL;rw[uU λw c=>h w (List.mem_cons_of_mem _ c)];split
  ·have:x≠n:=by rintro rfl;exact h v aaD
   simp[this]
  ·rfl
theorem uV{b:Str->Option NameKind}{x:Str}:∀{a:List (Str×Value)}{m:Str->Option Value},(∀v,(x,v)∉a)->bindC b a m x=m x
 | [],_,_=>rfl
 |(n,v)::r,m,h=>by
  unfold bindC;rw[uV λw c=>h w (List.mem_cons_of_mem _ c)];split
  ·rfl
  ·have:x≠n:=by rintro rfl;exact h v aaD
   simp[this]
theorem uW{a:Str->Option NameKind}{x:Str}{v:Value}:∀{P:List Str}{vs:List Value}{i:Nat}{m:Str->Option Value},P.Nodup->P[i]?=some x->vs[i]?=some v->a x=some .local->
  bindL a (P.zip vs) m x=some v
 | [],_,_,_,_,h,_,_=>by simp at h
 |_::_,[],_,_,_,_,h,_=>by simp at h
 |p::P,w::vs,0,m,d,b,c,e=>by
  simp at b c;subst b;subst c;show bindL a ((p,w)::P.zip vs) m p=_;unfold bindL;rw[uU λv f=>(List.nodup_cons.mp d).1 (List.of_mem_zip f).1,if_pos e];simp
 |p::P,w::vs,i+1,m,d,b,c,e=>by
  show bindL a ((p,w)::P.zip vs) m x=_;unfold bindL;calc uW (i:=i) (List.nodup_cons.mp d).2 (by simpa using b) (by simpa using c) e
theorem uX{a:Str->Option NameKind}{x:Str}{v:Value}:∀{P:List Str}{vs:List Value}{i:Nat}{m:Str->Option Value},P.Nodup->P[i]?=some x->vs[i]?=some v->a x≠some .local->
  bindC a (P.zip vs) m x=some v
 | [],_,_,_,_,h,_,_=>by simp at h
 |_::_,[],_,_,_,_,h,_=>by simp at h
 |p::P,w::vs,0,m,d,b,c,e=>by
  simp at b c;subst b;subst c;show bindC a ((p,w)::P.zip vs) m p=_;unfold bindC;rw[uV λv f=>(List.nodup_cons.mp d).1 (List.of_mem_zip f).1,if_neg e];simp
 |p::P,w::vs,i+1,m,d,b,c,e=>by
  show bindC a ((p,w)::P.zip vs) m x=_;unfold bindC;calc uX (i:=i) (List.nodup_cons.mp d).2 (by simpa using b) (by simpa using c) e
def start(N:List Str)(vs:List V):St:=vs.map some++List.replicate (N.length-vs.length) none
def ie(CX:GH)(P:Program)(w:World)(K:W.Frag)(mg:Str->Option Value)(base:Heap)(N:List Str)(a:Str)(scope:Scope)(f:Addr)(b:Value)(A:Around)(outer:List Env)(s:Shared)(H:Hp)(E:XK):Cx where
 prog:=P
 w:=w
 K:=K
 mg:=mg
 base:=base
 A:=A.deeper (envOfC a scope s.heap.objs.size f b)
 N:=N
 s₀:=s
 H₀:=H
 env:=envOfC a scope s.heap.objs.size f b
 outer:=outer
 stack:=envOfC a scope s.heap.objs.size f b::outer
 ex:=[]
 calm:=true
 fn:=λ_=>true
 pn:=[]
 xe:=λe s'=>wpAny (model P w) (A.deeper (envOfC a scope s.heap.objs.size f b)) (leaving (envOfC a scope s.heap.objs.size f b) e) (λ_ c=>CX outer H s E e c) (λa c=>CX outer H s E a c) s'
theorem yb{a:Scope}{n:Nat}{x:Str}(h:a.names.lookup x=some .cell):∃c,(cellsFrom n a.names []).lookup x=some c:=by
 have q:=W.cellsFrom_some a.names n [] (.inl h);calc Option.isSome_iff_exists.mp q
theorem uY{CX:GH}{P:Program}{w:World}{N j:List Str}{a:Str}{scope:Scope}{f:Addr}{o:Value}{outer:List Env}{b:Shared}{E:XK}{vs:List V}
  (S:aE N j scope) (D:A.handled=none) (g:wg P w K mg base A outer s H) (p:vs.length=j.length) (r:Vals vs us)
  (x:InCallC s s.heap.objs.size (bindL (envOfC a scope s.heap.objs.size f o).kindOf (j.zip us) λ_=>none) (cellsFrom (s.heap.objs.size+1) scope.names []) (bindC (envOfC a scope s.heap.objs.size f o).kindOf (j.zip us) λ_=>none) b):
  Inv (ie CX P w K mg base N a scope f o A outer s H E) [] (start N vs) H b:=by
 have b:j.length<=N.length:=by have:=congrArg List.length S.pre;rw[List.length_take]at this;lia
 obtain⟨q,z,rfl,B⟩:=x.done;have p:∀b:Addr,b ∉ (ie CX P w K mg base N a scope f o A outer s H E).ex:=λb z=>absurd (show b ∈ ([]:List Addr) from z) nofun;refine⟨⟨g.mod,S.kind,rfl,rfl,K' _,λy z c q d=>?_,λy k=>?_,λy c _ h=>?_,λ_=>D,Around.frames_deeper g.frames,.inr ⟨rfl,rfl⟩,λb z=>absurd z (p b),g.bs,g.BX,λb _ _=>p b,λb z=>absurd z (p b),g.mr,g.F6⟩,
  rfl,g.bare,Un.kept B,⟨_,x.toInCall.ns,λi y v q d a=>?_⟩,λy c h=>⟨_,x.cell y c h⟩,g.aW.fresh (K' _),λy c h=>?_,λp l=>absurd (show p ∈ ([]:List (Addr×Obj)) from l) nofun,g.aW.kept B,?_⟩
 ·exact name_of_addr x.apart (aaQ q) (aaQ d)
 ·have k:scope.names.lookup y=some .cell\/scope.names.lookup y=some .free:=k;rcases k with k | k
  ·exact yb k
  ·exact absurd rfl (S.PN _ (aaQ k))
 ·exact P' (x.above y c (aaQ h))
 ·have t:i<vs.length:=by
   unfold start at d;by_cases t:i<vs.length
   ·exact t
   ·rw[List.getElem?_append_right (by simpa using t)]at d;rw[List.getElem?_replicate]at d;split at d<;>cases d
  have F:vs[i]?=some v:=by
   unfold start at d;rw[List.getElem?_append_left (by simpa using t),List.getElem?_map]at d
   cases e:vs[i]? with
   |none=>rw[e]at d;cases d
   |some a=>rw[e]at d;cases d;rfl
  obtain⟨u,C,G⟩:=r.get F;have l:j[i]?=some y:=by
   rw[<-S.pre,List.getElem?_take_of_lt ()];exact q
  have m:j.Nodup:=by rw[<-S.pre];exact S.nd.sublist (List.take_sublist _ _)
  calc⟨u,G,?_⟩;rcases S.par y (aaf l) with k|k
  ·exact .inl ⟨k,uW m l C k⟩
  ·obtain⟨c,e⟩:=yb (n:=s.heap.objs.size+1) k;calc .inr ⟨.inl k,c,e,?_⟩;have q:=x.cell y c e;rw[uX m l C (by show scope.names.lookup y≠_;rw[k];decide)]at q;exact q
 ·exact g.aW.fresh (P' (x.above y c (aaQ h)))
 ·unfold start;show _=N.length;rw[List.length_append,List.length_map,List.length_replicate];lia
theorem Nr{CX:GH}{P:Program}{w:World}{k:Nat}{f:Addr}{name a:Str}{b:Arguments}{c:List Stmt}{scope:Scope}{o kV j y h ct l:Value}{F od:Option Addr}
  {M:Array (Option Value)} {N z:List Str} {sp:Sp} (O:K.lookup f=some ⟨l,od,.func (W.fnOf name a b c scope o kV j y F h ct),M⟩) (R:W.codeIn K h a=true) (S:aE N z scope)
  (l:∀vs H Q E,sp vs H Q E->vs.length=z.length)
  (T:∀(A:Around) (outer:List Env) (s:Shared) (H:Hp) (vs:List V) (Q:VK) (E:XK),dH k (A.deeper (envOfC a scope s.heap.objs.size f h))->sp vs H Q E->
   ∃t,rF (ie CX P w K mg base N a scope f h A outer s H E) c t/\t {nx:=λ_ g=>Q .bI g,rt:=Q} (start N vs) H):
  ja P w K mg base CX (k+1) f (W.fnOf name a b c scope o kV j y F h ct) z sp:=by
 calc⟨l,λA outer s H b us vs Q E B m U r G=>?_⟩;have X:=l _ _ _ _ G;have I:K.In s.heap:=m.mod.xV.keeps λb o e=>(m.bs b o e).1;have C:s.heap.NoLimit:=m.mod.nolimit.keeps λb o e=>(m.bs b o e).1;have Y:∀y∈z.zip us,scope.names.lookup y.1=some .local\/(scope.names.lookup y.1=some .cell/\((cellsFrom (s.heap.objs.size+1) scope.names []).lookup y.1).isSome=true):=λ⟨n,v⟩ Z=>by
  rcases S.par n (List.of_mem_zip Z).1 with q|q
  ·exact .inl q
  ·exact .inr ⟨q,W.cellsFrom_some _ _ _ (.inl q)⟩
 calc codeAny_call_function B.depth (I _ _ O) rfl S.co S.gen rfl (W.codeRec_of I R) (U _ _ _ _ ?_);calc wpAny_newFunctionEnv_cells S.kind Y λb he L x=>?_;subst he;calc⟨C.keeps x.toInCall.keep,codeAny_func ?_⟩;obtain⟨t,c,j⟩:=T A outer s H vs Q E (B.deeper _) G;have I:Inv (ie CX P w K mg base N a scope f h A outer s H E) [] (start N vs) H L:=uY S B.hd m X r x;calc aal (c [] L (start N vs) H _ I j) (λfl b i=>?_) λe b i=>i;have p:∀{d:St} {g:Hp} {v:V} {u:Value},Inv (ie CX P w K mg base N a scope f h A outer s H E) [] d g b->RelV v u->Q v g->CE outer P w H s Q u b:=
  λ{d g v u} J D q=>⟨v,g,J.os,J.bare,J.base,J.aW,D,q⟩
 cases fl with
 |ret u=>
  obtain⟨v,d,g,J,D,q⟩:=i;calc p J D q
 |next=>
  obtain⟨d,g,J,q⟩:=i;calc p (v:=V.bI) (u:=Value.none) J rfl q
 |brk=>
  obtain⟨_,_,_,q⟩:=i;calc X' q
 |cont=>
  obtain⟨_,_,_,q⟩:=i;calc X' q
end
section
section
variable {X:Cx}{x:Str}{p pos:Pos}{e:Expr}{es:List Expr}{t:TA}{id T:String}{r:List V->Hp->VK->Prop}
def SS(r:List V->Hp->VK->Prop)(t:TA):TE:=λσ H Q=>t σ H λvs a=>r vs a Q
theorem GN(a:fw X (.builtin id) r)(b:Gl X x)(c:X.mg x=none)(d:bootBuiltins x=some (.builtin id))(f:PA X (e::es) t)(g:x≠"__name__":=by decide)(i:(x==("__debug__":Str))=false:=by decide)
  (j:starEach (e::es) X.env=(false,eval e X.env)::starEach es X.env:=by rfl) (k:(backTo pos (starEach es X.env)).any (·.1)=false:=by rfl):PE X (.Call (.Name x p) (e::es) [] pos) (SS r t):=by
 walk_at "xc";refine wpAny_Call_Name_kw (pG I b c d ?_ g i);exact PyProof.Rows.callWith_builtin1 (cK (f pos pins s σ H _ I h) λl m ⟨n,o,q,u,v⟩=>a pins m σ o n l Q q u v) j k
theorem D7(a:fw X (.type T) r)(b:Gl X x)(c:X.mg x=none)(d:bootBuiltins x=some (.type T))(f:PA X (e::es) t)(g:x≠"__name__":=by decide)(i:(x==("__debug__":Str))=false:=by decide)
  (j:starEach (e::es) X.env=(false,eval e X.env)::starEach es X.env:=by rfl) (k:(backTo pos (starEach es X.env)).any (·.1)=false:=by rfl):PE X (.Call (.Name x p) (e::es) [] pos) (SS r t):=by
 walk_at "xc";refine wpAny_Call_Name_kw (pG I b c d ?_ g i);exact PyProof.Rows.callWith_type1 (cK (f pos pins s σ H _ I h) λl m ⟨n,o,q,u,v⟩=>a pins m σ o n l Q q u v) j k
end
end
end L2
namespace HT
open PySem PyProof.Rows
variable {Q:Value->Shared->Prop}
section
open PySem.SeqAt
open PySem.AutoSeq1 (wpAny_loadPart')
open PySem.MeetsSeq PySem.MeetsSeq2 PySem.MeetsSeq3
end
section
variable {prog:Program}{w:World}{A:Around}{E:Value->Shared->Prop}{s:Shared}
theorem Lq{t b:Addr}{vs ws:List Value}(p:IsTup s.heap t vs.toArray)(q:IsTup s.heap b ws.toArray)(f:vs≠[])
  (r:ws=[]->Q (.ref t) s) (u:ws≠[]->Q (.ref s.heap.objs.size) {s with heap:=s.heap.push {cls:=.type "tuple",data:=.seq (vs++ws).toArray}})
  (hsz:vs.length+ws.length<=sizeLine):wpAny (model prog w) A (binaryOp .Add (.ref t) (.ref b)) Q E s:=by
 obtain⟨⟨cls,g,data,h⟩,c,i,n,j⟩:=id p;obtain⟨⟨v,k,e,l⟩,d,m,o,a⟩:=id q;simp only at i j m a;subst i j m a;have e:vs.toArray++ws.toArray=(vs++ws).toArray:=by simp
 by_cases a:ws=[]
 ·exact concat_meets ⟨_,c,rfl⟩ ⟨_,d,rfl⟩ noFill_tuple_add seq_tuple_add PySem.F.slot_tuple_add PySem.F.entry_tuple_add (PySem.F.args_tuple_add_2 _ _)
   (tuple_addW1 t b vs.toArray ws.toArray n o g k h l (by simpa using f) (by simp[a])) ⟨c,d,r a⟩
 ·refine concat_meets ⟨_,c,rfl⟩ ⟨_,d,rfl⟩ noFill_tuple_add seq_tuple_add PySem.F.slot_tuple_add PySem.F.entry_tuple_add (PySem.F.args_tuple_add_2 _ _)
   (tuple_addW2 t b vs.toArray ws.toArray n o g k h l (by simpa using f) (by simpa using a) (by rw[List.size_toArray,List.size_toArray];calc hsz)) ⟨c,d,?_⟩
  rw[e];calc u a
def eO(n d:Nat):Option Int->Nat
 |none=>d
 |some v=>if v<0 then(v+(n:Int)).toNat else min v.toNat n
theorem B9(n d k:Nat):eO n d (some (k:Int))=min k n:=by
 show(if (k:Int)<0 then((k:Int)+(n:Int)).toNat else min (k:Int).toNat n)=min k n;rw[if_neg (),Int.toNat_natCast]
theorem PR(n d:Nat)(a:d<=n)(o:Option Int):eO n d o<=n:=by
 cases o with
 |none=>calc a
 |some v=>
  show(if v<0 then(v+(n:Int)).toNat else min v.toNat n)<=n;by_cases a:v<0
  ·rw[if_pos a];lia
  ·rw[if_neg a];calc Nat.min_le_right _ _
theorem Ca(v:Int)(n d:Nat):(if v<0 then max (v+(n:Int)) 0 else min v (n:Int))=((eO n d (some v):Nat):Int):=by
 show(if v<0 then max (v+(n:Int)) 0 else min v (n:Int))=(((if v<0 then(v+(n:Int)).toNat else min v.toNat n):Nat):Int)
 by_cases a:v<0
 ·simp only[if_pos a];lia
 ·simp only[if_neg a];lia
theorem Az(a b:Option Int)(n:Nat):Builtin.Slice.sliceAdjust a b 1 (n:Int)=(((eO n 0 a:Nat):Int),((eO n n b:Nat):Int)):=by
 have c:¬((1:Int)<0):=by lia
 unfold Builtin.Slice.sliceAdjust;simp only[c,if_false];refine Prod.ext ?_ ?_
 ·cases a with
  |none=>rfl
  |some v=>exact Ca v n 0
 ·cases b with
  |none=>rfl
  |some v=>calc Ca v n n
theorem AB(i j:Nat):Builtin.Slice.slicePlaces (i:Int) (j:Int) 1=j-i:=by
 unfold Builtin.Slice.slicePlaces;have a:(1:Int) > 0:=by lia
 simp only[a,if_true,Int.ediv_one];split<;>lia
theorem r6{v:Value}{o:Option Int}{Q:Option Int->Shared->Prop}(p:IsPart v o)(h:Q o s):wpAny (model prog w) A (Builtin.Slice.slicePartIndex v) Q E s:=by
 cases p with
 |none=>calc slicePart_none h
 |int i t=>calc slicePart_int h
theorem jJ{e:Addr}{c d:Value}{a b:Option Int}{n:Nat}{Q:Int×Int×Nat->Shared->Prop}(g:s.heap.IsSliceOf e c d .none)(pl:IsPart c a)(i:IsPart d b)
  (h:Q (((eO n 0 a:Nat):Int),1,eO n n b-eO n 0 a) s):wpAny (model prog w) A (Builtin.Slice.sliceApplied (.ref e) (pure (n:Int))) Q E s:=by
 obtain⟨j,e,k,f⟩:=id g;unfold Builtin.Slice.sliceApplied Builtin.Slice.sliceFields;calc j' (j' (aar e f (x:=c) rfl (j' (aar e f (x:=d) rfl (j' (aar e f (x:=.none) rfl (L' ?_)))))));calc j' (slicePart_none ?_);show wpAny _ _ (if ((1:Int)==0)=true then _ else _) _ _ s;rw[if_neg ∅];calc j' (r6 pl (j' (r6 i (j' (L' ?_)))));show wpAny _ _ (match Builtin.Slice.sliceAdjust a b 1 (n:Int) with|(a,b)=>pure (a,(1:Int),Builtin.Slice.slicePlaces a b 1)) _ _ s;rw[Az a b n];show wpAny _ _ (pure (((eO n 0 a:Nat):Int),(1:Int),Builtin.Slice.slicePlaces ((eO n 0 a:Nat):Int) ((eO n n b:Nat):Int) 1)) _ _ s;rw[AB];calc L' h
theorem GO(xs:Array Value)(i k:Nat):((List.range k).filterMap λ(m:Nat)=>xs[((i:Int)+(m:Int)*1).toNat]?).toArray=((xs.toList.drop i).take k).toArray:=by
 have e:(λ(m:Nat)=>xs[((i:Int)+(m:Int)*1).toNat]?)=λm=>xs[i+m]?:=by
  funext m;have:((i:Int)+(m:Int)*1).toNat=i+m:=by lia
  rw[this]
 rw[e];have:=pick_run xs i k;rw[List.filterMap_map]at this;have a:((λx=>xs[x]?) ∘ λx=>i+x)=λm=>xs[i+m]?:=rfl;rw[a]at this;rw[this]
theorem oq{t f:Addr}{a:Array Value}{e g:Value}{b c:Option Int}(d:IsTup s.heap t a)(i:s.heap.IsSliceOf f e g .none)(pl:IsPart e b)(j:IsPart g c)
  (k:¬(eO a.size 0 b=0/\eO a.size a.size c=a.size))
  (h:Q (.ref s.heap.objs.size) {s with heap:=s.heap.push {cls:=.type "tuple",data:=.seq ((a.toList.drop (eO a.size 0 b)).take (eO a.size a.size c-eO a.size 0 b)).toArray}})
  (hsz:a.size<=sizeLine):wpAny (model prog w) A (getItem (.ref t) (.ref f)) Q E s:=by
 have e:sizeOk (.seq ((a.toList.drop (eO a.size 0 b)).take (eO a.size a.size c-eO a.size 0 b)).toArray):=by
  show((a.toList.drop (eO a.size 0 b)).take (eO a.size a.size c-eO a.size 0 b)).toArray.size<=sizeLine;rw[List.size_toArray,List.length_take,List.length_drop,Array.length_toList];lia
 have g:eO a.size a.size c<=a.size:=PR _ _ (K' _) c;obtain⟨l,n,o,g⟩:=id i;have g:s.TypeIs (.ref f) "slice":=⟨l,n,o⟩
 unfold getItem
 try with_reducible refine aaH ?_
 first|calc j' (L' ?_)|skip
 calc j' (wpAny_sequenceKey d.typeIs ∅ ?_);refine j' (aaM (name:=Str.ofString "__getitem__") d.typeIs aa1
  (wpAny_call_entry aa1 d.typeIs entry_tuple_getitem ?_ (args_tuple_getitem _ _)))
 show wpAny _ _ (Builtin.Tuple.tupleItemsOf (.ref t) >>= _) _ _ s;calc j' (tupleItemsOf_ d ?_);calc j' (wpAny_typeOf g ?_);rw[if_pos ∅];calc j' (jJ i pl j ?_);have f:¬((((eO a.size 0 b:Nat):Int)==0&&(1:Int)==1&&(eO a.size a.size c-eO a.size 0 b)==a.size)=true):=by
  intro q;rw[Bool.and_eq_true,Bool.and_eq_true]at q;have d:((eO a.size 0 b:Nat):Int)=0:=eq_of_beq q.1.1;have d:eO a.size a.size c-eO a.size 0 b=a.size:=eq_of_beq q.2;exact k ⟨(),()⟩
 show wpAny _ _ (if (((eO a.size 0 b:Nat):Int)==0&&(1:Int)==1&&(eO a.size a.size c-eO a.size 0 b)==a.size)=true then _ else _) _ _ s;rw[if_neg f,GO]
 first
  |calc j' (m:=Builtin.Tuple.tupleExact _) (aaO (L' ⟨_,rfl,L' h⟩) e)
  |calc j' (m:=Builtin.Tuple.tupleExact _) (aaO (j' (L' (L' ⟨_,rfl,L' h⟩))) e)
  |calc j' (j' (m:=Builtin.Tuple.tupleExact _) (aaO (L' (L' ⟨_,rfl,L' h⟩)) e))
  |calc j' (j' (m:=Builtin.Tuple.tupleExact _) (aaO (L' ⟨_,rfl,L' h⟩) e))
end
end HT
namespace L2
open PySem PySem.Spec PyProof.Rows
section
abbrev TO:=St->Hp->(Option Int->Hp->Prop)->Prop
def PO(X:Cx)(e:Option Expr)(t:TO):Prop:=
 ∀(pins:List (Addr×Obj)) (s:Shared) (σ:St) (H:Hp) (Q:Option Int->Hp->Prop),Inv X pins σ H s->t σ H Q->
  wpAny (model X.prog X.w) X.A (evalPart e X.env) (λu s'=>∃o a,Inv X pins σ a s'/\IsPart u o/\Q o a) X.xe s
def wm:TO:=λ_ H Q=>Q none H
def GP(t:TE):TO:=λσ H Q=>t σ H λx a=>∃i,x=.int i/\Q (some i) a
section
variable {X:Cx}{e:Expr}{te:TE}{lo hi:Option Expr}{tl th:TO}{pos p2:Pos}
theorem rG:PO X none wm:=by
 intro a s σ H Q I h;rw[evalPart_none];calc L' ⟨none,H,I,.none,h⟩
theorem me(h:PE X e te):PO X (some e) (GP te):=by
 intro a s σ H Q I b;rw[evalPart_some];calc cK (h a s σ H _ I b) λu k c=>?_;obtain⟨x,d,f,g,j⟩:=c;obtain⟨i,rfl,q⟩:=j;obtain⟨t,rfl⟩:=g;calc⟨some i,d,f,.int i t,q⟩
def UH(X:Cx)(r:V->Option Int->Option Int->Hp->VK->Prop):Prop:=
 ∀(pins:List (Addr×Obj)) (s:Shared) (σ:St) (H:Hp) (x:V) (v a b:Value) (lo hi:Option Int) (c:Addr) (Q:VK),Inv X pins σ H s->RelV x v->s.heap.IsSliceOf c a b .none->IsPart a lo->IsPart b hi->r x lo hi H Q->
  ∃T a,typeLookup (.type T) "__getitem__"=pure (some (.builtin a))/\s.TypeIs v T/\wpAny (model X.prog X.w) X.A (getItem v (.ref c)) (EP X pins σ Q) X.xe s
def UI(r:V->Option Int->Option Int->Hp->VK->Prop)(te:TE)(tl th:TO):TE:=λσ H Q=>te σ H λx a=>tl σ a λl b=>th σ b λu a=>r x l u a Q
theorem yc{r:V->Option Int->Option Int->Hp->VK->Prop}(g:UH X r)(a:PE X e te)(d:PO X lo tl)(f:PO X hi th):PE X (.Subscript e (.Slice lo hi none p2) pos) (UI r te tl th):=by
 walk_at "xc";refine Subscript_ (cK (a pins s σ H _ I h) λv i b=>?_);obtain⟨x,a,j,k,m⟩:=b;refine wpAny_Slice (cK (d pins i σ a _ j m) λc n ⟨l,o,p,r,q⟩=>cK (f pins n σ o _ p q) λd a b=>?_);obtain⟨u,f,i,j,m⟩:=b;rw[evalPart_none];refine L' ?_;have n:Inv X pins σ f {a with heap:=a.heap.push {cls:=.type "slice",data:=.fields #[c,d,.none]}}:=i.kept (t':=a.toks) λb i q=>J' _ q;obtain⟨T,p,b,i,o⟩:=g pins {a with heap:=a.heap.push {cls:=.type "slice",data:=.fields #[c,d,.none]}} σ f x v c d l u a.heap.objs.size Q n k (Heap.IsSliceOf.new ..) r j m;show wpAny (model X.prog X.w) X.A (subscriptTail e (.Slice lo hi none p2) v (.ref a.heap.objs.size)) (EP X pins σ Q) X.xe {a with heap:=a.heap.push {cls:=.type "slice",data:=.fields #[c,d,.none]}};exact tail_any (ops:=[.ref a.heap.objs.size,v]) i b o (by with_unfolding_all rfl)
def fe(xs:List V)(lo hi:Option Int):List V:=(xs.drop (HT.eO xs.length 0 lo)).take (HT.eO xs.length xs.length hi-HT.eO xs.length 0 lo)
theorem qQ(xs:List V)(lo hi:Option Int):(fe xs lo hi).length<=xs.length:=by
 unfold fe;rw[List.length_take,List.length_drop];lia
def aag(K:W.Frag):V->Option Int->Option Int->Hp->VK->Prop:=λx lo hi H Q=>∃a xs,x=.ref a/\bJ K H a xs/\
 ¬(HT.eO xs.length 0 lo=0/\HT.eO xs.length xs.length hi=xs.length)/\∀p,H p=none->Q (.ref p) (upd H p (.tup (fe xs lo hi)))
theorem PV:UH X (aag X.K):=by
 intro b s σ H x v d m lo hi n Q I e g i j h;obtain⟨a,c,rfl,k,l,q⟩:=h
 cases e;obtain⟨m,r,b,d⟩:=I.tuple k;have a:m.toArray.size=c.length:=by rw[List.size_toArray];exact r.length.symm
 refine⟨"tuple",_,PyProof.Rows.slot_tuple_getitem.lookup,b.typeIs,?_⟩;refine HT.oq b g i j (by rw[a];exact l) ?_ (by rw[a];exact d);rw[a];refine⟨.ref s.heap.objs.size,_,I.laid (t':=s.toks) (o:=.tup (fe c lo hi)) (λb a q=>J' _ q) (K' _) ?_,rfl,q _ (I.aW.fresh (K' _))⟩;exact⟨aae (qQ c lo hi) d,_,(r.drop (HT.eO c.length 0 lo)).take (HT.eO c.length c.length hi-HT.eO c.length 0 lo),IsTup.new _ _⟩
def UJ(K:W.Frag):R2:=λx y H Q=>∃a b xs c,x=.ref a/\y=.ref b/\bJ K H a xs/\bJ K H b c/\xs≠[]/\xs.length+c.length<=sizeLine/\
 (c=[]->Q (.ref a) H)/\(c≠[]->∀p,H p=none->Q (.ref p) (upd H p (.tup (xs++c))))
theorem Vals.wq{xs:List V}{us:List Value}(r:Vals xs us):us=[]↔xs=[]:=by
 cases r with
 |nil=>simp
 |cons _ _=>simp
theorem Lr:fQ X (binaryOp .Add) (UJ X.K):=by
 intro c s σ H x y v u Q I d f h;obtain⟨a,b,g,i,rfl,rfl,j,k,l,e,m,n⟩:=h
 cases d
 cases f;obtain⟨c,d,h,_⟩:=I.tuple j;obtain⟨f,c,p2,_⟩:=I.tuple k;calc HT.Lq h p2 (λz=>l (d.wq.mp z)) (λz=>⟨.ref a,H,I,rfl,m (c.wq.mp z)⟩) (λz=>?_) (by rw[<-d.length,<-c.length];calc e);calc⟨.ref s.heap.objs.size,_,I.laid (t':=s.toks) (o:=.tup (g++i)) (λb a q=>J' _ q) (K' _) ?_,rfl,n (λw=>z (c.wq.mpr w)) _ (I.aW.fresh (K' _))⟩;calc⟨by rw[List.length_append];calc e,_,d.append c,IsTup.new _ _⟩
end
end
section
def AD(n:Nat)(i:Int):Option Nat:=if 0<=i then(if i<n then some i.toNat else none) else if -(n:Int)<=i then some (i+n).toNat else none
def hX{α:Type}(xs:List α)(i:Int):Option α:=(AD xs.length i).bind λj=>xs[j]?
theorem Cc{n:Nat}{i:Int}{j:Nat}(h:AD n i=some j):seqIndex? i n=some j/\j<n/\-(n:Int)<=i/\i<n:=by
 unfold AD at h;by_cases b:0<=i
 ·rw[if_pos b] at h;by_cases a:i < n
  ·rw[if_pos a]at h;have e:i.toNat=j:=Option.some.inj h;exact⟨by rw[seqIndex_of b a,e],(),(),a⟩
  ·rw[if_neg a]at h;cases h
 ·rw[if_neg b] at h;by_cases a:-(n:Int)<=i
  ·rw[if_pos a]at h;have e:(i+n).toNat=j:=Option.some.inj h;exact⟨by rw[seqIndex_neg () a,e],(),a,()⟩
  ·rw[if_neg a]at h;cases h
theorem wt{α:Type}{xs:List α}{i:Int}{v:α}(h:hX xs i=some v):∃j,seqIndex? i xs.length=some j/\xs[j]?=some v/\j<xs.length/\-(xs.length:Int)<=i/\i<xs.length:=by
 unfold hX at h
 cases e:AD xs.length i with
 |none=>rw[e]at h;cases h
 |some j=>
  rw[e]at h;obtain⟨a,b,c,d⟩:=Cc e;calc⟨j,a,h,b,c,d⟩
theorem az{α:Type}{xs:List α}{j:Nat}{v:α}(h:xs[j]?=some v):hX xs (j:Int)=some v:=by
 have a:j<xs.length:=(List.getElem?_eq_some_iff.mp h).1;have e:AD xs.length (j:Int)=some j:=by
  unfold AD;rw[if_pos (),if_pos ()];simp
 unfold hX;rw[e];calc h
def Cd(b:Expr):Prop:=∀o i,subscripted b false o i=operate [o,i] (getItem o i)
def UK(X:Cx)(r:R2):Prop:=
 ∀(b a:Expr) (pins:List (Addr×Obj)) (s:Shared) (σ:St) (H:Hp) (x y:V) (v u:Value) (Q:VK),Inv X pins σ H s->RelV x v->RelV y u->r x y H Q->
  subscripted a false v u=operate [v,u] (getItem v u)->wpAny (model X.prog X.w) X.A (subscriptTail b a v u) (EP X pins σ Q) X.xe s
def PX(X:Cx)(a:String)(r:V->List V->Hp->VK->Prop):Prop:=
 ∀(pins:List (Addr×Obj)) (s:Shared) (σ:St) (H:Hp) (x:V) (xs:List V) (v:Value) (us:List Value) (Q:VK),Inv X pins σ H s->RelV x v->Vals xs us->r x xs H Q->
  wpAny (model X.prog X.w) X.A (call (.builtin a) (v::us)) (EP X pins σ Q) X.xe s
section
variable {X:Cx}{a b:Expr}{ta tb:TE}{pos:Pos}
theorem UL{r:R2}(c:UK X r)(d:PE X a ta)(e:PE X b tb)(f:Cd b):PE X (.Subscript a b pos) (Gw r ta tb):=by
 walk_at "xc";exact Subscript_ (Pu d e I h λv u g x y i j k l q=>c a b pins g σ i x y v u Q j k l q (f _ _))
def aah(K:W.Frag):R2:=λx y H Q=>∃p xs i v,x=.ref p/\y=.int i/\aT K H p xs/\hX xs i=some v/\Q v H
def aai(K:W.Frag):R2:=λx y H Q=>∃p xs i v,x=.ref p/\y=.int i/\bJ K H p xs/\hX xs i=some v/\Q v H
def aaj:R2:=λx y H Q=>∃z i c,x=.str z/\y=.int i/\z.length<=sizeLine/\hX z.cps.toList i=some c/\Q (.str ⟨#[c]⟩) H
theorem Ls:UK X (aah X.K):=by
 intro b c a s σ H x y v u Q I d e h f;obtain⟨p,j,i,z,rfl,rfl,g,k,q⟩:=h
 cases d;obtain⟨t,rfl⟩:=e;obtain⟨l,r,d,b⟩:=I.list g;obtain⟨j,c,b,e,m,n⟩:=wt k;obtain⟨w,g,e⟩:=r.get b;have k:=r.length;have b:=rY;have b:EP X a σ Q w s:=⟨z,H,I,e,q⟩
 by_cases h:0<=i
 ·have e:i.toNat=j:=by
   rw[seqIndex_of h n]at c;exact Option.some.inj c
  exact item_listR d.isList h () (by rw[e];simpa using g) b f
 ·have e:(i+(l.toArray.size:Int)).toNat=j:=by
   rw[seqIndex_neg () m]at c;rw[List.size_toArray,<-k];exact Option.some.inj c
  exact subscriptTail_builtinR (x:=w) d.isList.typeIs slot_list_getitem.lookup
   (wpAny_getItem_list_neg (Q:=λr c=>r=w/\EP X a σ Q r c) d.isList () (by rw[List.size_toArray]<;>lia) () (by rw[e];simpa using g) ⟨rfl,b⟩) f
theorem PY:UK X (aai X.K):=by
 intro b c a s σ H x y v u Q I d e h f;obtain⟨p,j,i,z,rfl,rfl,g,k,q⟩:=h
 cases d;obtain⟨t,rfl⟩:=e;obtain⟨b,r,c,d⟩:=I.tuple g;obtain⟨j,d,b,e,h,i⟩:=wt k;obtain⟨w,e,g⟩:=r.get b;have h:=r.length;have b:=rY;have b:EP X a σ Q w s:=⟨z,H,I,g,q⟩
 exact subscriptTail_builtinR (x:=w) c.typeIs slot_tuple_getitem.lookup
  (getItem_tuple (j:=j) (Q:=λr g=>r=w/\EP X a σ Q r g) c () () (by rw[List.size_toArray,<-h];calc d) (by simpa using e) ⟨rfl,b⟩) f
theorem PZ:UK X aaj:=by
 intro a b d s σ H x y v u Q I e f h g;obtain⟨z,i,c,rfl,rfl,j,k,q⟩:=h;obtain⟨t,rfl⟩:=e;obtain⟨l,rfl⟩:=f;obtain⟨j,a,b,h,d,e⟩:=wt k;have f:z.cps.toList.length=z.length:=by simp[Str.length]
 rw[f] at a d e;have h:=rY;exact tail_any (typeIs_str s z t) slot_str_getitem.lookup (getItem_str (c:=c) (by
  have d:decide (i < -(2 ^ 63:Int))=false:=decide_eq_false ();have e:decide (i >= 2 ^ 63)=false:=decide_eq_false ();rw[d,e,Bool.or_false]) (by rw[a];simpa using b) ⟨.str ⟨#[c]⟩,H,I.tok _,⟨_,rfl⟩,q⟩) g
theorem AE(a:List Value)(n j:Nat)(u:Value):Obj.mapSeq (·.setIfInBounds j u) {cls:=.type "list",data:=.seq a.toArray n}={cls:=.type "list",data:=.seq (a.set j u).toArray n}:=by
 simp[Obj.mapSeq]
theorem Inv.lst{pins:List (Addr×Obj)}{σ:St}{H:Hp}{s:Shared}{p:Addr}{xs:List V}(I:Inv X pins σ H s)(h:H p=some (.lst xs)):
  ∃(a:List Value) (n:Nat),Vals xs a/\s.heap.get? p=some {cls:=.type "list",data:=.seq a.toArray n}/\xs.length<=sizeLine:=by
 obtain⟨z,a,n,r,e⟩:=I.aW p _ h;calc⟨a,n,r,e,z⟩
theorem Inv.P0{pins:List (Addr×Obj)}{σ:St}{H:Hp}{s:Shared}{p:Addr}{xs a:List V}{d mw:List Value}{n c:Nat}{f:Obj->Obj}(I:Inv X pins σ H s)(h:H p=some (.lst xs))
  (i:s.heap.get? p=some {cls:=.type "list",data:=.seq d.toArray n}) (g:f {cls:=.type "list",data:=.seq d.toArray n}={cls:=.type "list",data:=.seq mw.toArray c}) (r:Vals a mw) (d:a.length<=sizeLine) (t:Nat):
  Inv X pins σ (upd H p (.lst a)) {s with heap:=s.heap.update p f,toks:=t}:=by
 have e:(s.heap.update p f).get? p=some {cls:=.type "list",data:=.seq mw.toArray c}:=by
  rw[Heap.get?_update_self f i (by rw[g]<;>rfl),g]
 calc I.write (x:=p) (e:=p) (by rw[h];trivial) (.inl rfl) (λb u a q=>(Heap.get?_update_other _ _ (Ne.symm a)).trans q) ⟨_,e⟩ ?_;calc⟨d,mw,c,r,e⟩
def UM:V->V->V->Hp->(Hp->Prop)->Prop:=λo i v H Q=>∃p xs k j,o=.ref p/\i=.int k/\H p=some (.lst xs)/\AD xs.length k=some j/\Q (upd H p (.lst (xs.set j v)))
theorem set_list:Pn X UM:=by
 intro a s σ H o i v c f u Q I b d l h;obtain⟨p,m,k,j,rfl,rfl,e,w,q⟩:=h
 cases b;obtain⟨t,rfl⟩:=d;obtain⟨f,n,r,c,o⟩:=I.lst e;obtain⟨b,d,g,h⟩:=Cc w;have d:=r.length;have i:=rY;have i:Inv X a σ (upd H p (.lst (m.set j v))) {s with heap:=s.heap.update p (Obj.mapSeq (·.setIfInBounds j u))}:=
  I.P0 e c (AE f n j u) (r.set l j) (by rw[List.length_set];calc o) s.toks
 by_cases e:0<=k
 ·have a:k.toNat=j:=by
   rw[seqIndex_of e h]at b;exact Option.some.inj b
  exact W.ki_setAt c e () (by rw[List.size_toArray,<-d];calc h) (by rw[a];calc⟨_,i,q⟩)
 ·have a:(k+(f.toArray.size:Int)).toNat=j:=by
   rw[seqIndex_neg () g]at b;rw[List.size_toArray,<-d];exact Option.some.inj b
  calc W.ki_setBack c () (by rw[List.size_toArray,<-d];calc g) () (by rw[a];calc⟨_,i,q⟩)
theorem wu(a b:Option Int)(n:Nat):(sliceBounds a b none n).1=((HT.eO n 0 a:Nat):Int)/\(sliceBounds a b none n).2.1=((HT.eO n n b:Nat):Int)/\(sliceBounds a b none n).2.2=1:=by
 refine⟨?_,?_,rfl⟩
 ·cases a with
  |none=>simp[sliceBounds,HT.eO]
  |some i=>
   simp only[sliceBounds,HT.eO,Option.getD_none,show(1:Int) > 0 by decide,if_true];by_cases h:i<0
   ·simp only[h,if_true]<;>lia
   ·simp only[h,if_false]<;>lia
 ·cases b with
  |none=>simp[sliceBounds,HT.eO]
  |some i=>
   simp only[sliceBounds,HT.eO,Option.getD_none,show(1:Int) > 0 by decide,if_true];by_cases h:i<0
   ·simp only[h,if_true]<;>lia
   ·simp only[h,if_false]<;>lia
theorem ue(a:List Value)(b c:Option Int):slicePick a.toArray b c none=((a.drop (HT.eO a.length 0 b)).take (HT.eO a.length a.length c-HT.eO a.length 0 b)).toArray:=by
 obtain⟨d,e,f⟩:=wu b c a.toArray.size;unfold slicePick;rw[d,e,f];simp only[sliceRange_one,pick_run,List.size_toArray]<;>rfl
def aak(K:W.Frag):V->Option Int->Option Int->Hp->VK->Prop:=λx b c H Q=>∃a xs,x=.ref a/\aT K H a xs/\∀p,H p=none->Q (.ref p) (upd H p (.lst (fe xs b c)))
theorem Ce:UH X (aak X.K):=by
 intro d s σ H x v g n e f p Q I i j k l h;obtain⟨a,c,rfl,m,q⟩:=h
 cases i;obtain⟨d,r,g,h⟩:=I.list m;have d:=r.length;refine⟨"list",_,slot_list_getitem.lookup,g.isList.typeIs,?_⟩;refine wpAny_getItem_list_slice g.isList j k l .none nofun ?_ (by rw[List.size_toArray]<;>lia);rw[ue,<-d];refine⟨.ref s.heap.objs.size,_,I.laid (t':=s.toks) (o:=.lst (fe c e f)) (λb d q=>J' _ q) (K' _) ?_,rfl,q _ (I.aW.fresh (K' _))⟩;exact⟨aae (qQ c e f) h,_,0,(r.drop (HT.eO c.length 0 e)).take (HT.eO c.length c.length f-HT.eO c.length 0 e),V' _ rfl⟩
def fT:V->Bool
 | .bI=>true
 | .bl _=>true
 | .int _=>true
 | .str _=>true
 |_=>false
def xN:V->V->Bool
 | .bI,.bI=>true
 | .bl a,.bl b=>a==b
 | .bl a,.int b=>(if a then 1 else 0)==b
 | .int a,.bl b=>a==(if b then 1 else 0)
 | .int a,.int b=>a==b
 | .str a,.str b=>a==b
 |_,_=>false
theorem AF{A:Around}{s:Shared}{y x:V}{u v:Value}(e:RelV y u)(c:RelV x v)(g:fT y=true)(f:fT x=true):SeqAt.EqAt A s u v (xN y x):=by
 cases y with
 |bI=>
  cases e
  cases x with
  |bI=>cases c;calc SeqAt.EqAt.same _
  |bl b=>cases c;calc SeqAt.EqAt.none_bool b
  |int b=>obtain⟨t,rfl⟩:=c;calc SeqAt.EqAt.none_int b t
  |str b=>obtain⟨t,rfl⟩:=c;calc SeqAt.EqAt.none_str b t
  |_=>calc absurd (show false=true from f) U'
 |bl a=>
  cases e
  cases x with
  |bI=>cases c;calc SeqAt.EqAt.bool_none a
  |bl b=>cases c;calc SeqAt.EqAt.bool_bool a b
  |int b=>obtain⟨t,rfl⟩:=c;calc SeqAt.EqAt.bool_int a b t
  |str b=>obtain⟨t,rfl⟩:=c;calc SeqAt.EqAt.bool_str a b t
  |_=>calc absurd (show false=true from f) U'
 |int a=>
  obtain⟨d,rfl⟩:=e
  cases x with
  |bI=>cases c;calc SeqAt.EqAt.int_none a d
  |bl b=>cases c;calc SeqAt.EqAt.int_bool a d b
  |int b=>obtain⟨t,rfl⟩:=c;calc SeqAt.EqAt.int_int a d b t
  |str b=>obtain⟨t,rfl⟩:=c;calc SeqAt.EqAt.int_str a d b t
  |_=>calc absurd (show false=true from f) U'
 |str a=>
  obtain⟨d,rfl⟩:=e
  cases x with
  |bI=>cases c;calc SeqAt.EqAt.str_none a d
  |bl b=>cases c;calc SeqAt.EqAt.str_bool a d b
  |int b=>obtain⟨t,rfl⟩:=c;calc SeqAt.EqAt.str_int a d b t
  |str b=>obtain⟨t,rfl⟩:=c;calc SeqAt.EqAt.str_str a d b t
  |_=>calc absurd (show false=true from f) U'
 |_=>calc absurd (show false=true from g) U'
def AG(x:V)(u:Value):Bool:=match u with
 | .none=>xN .bI x
 | .bool b=>xN (.bl b) x
 | .int i _=>xN (.int i) x
 | .str z _=>xN (.str z) x
 |_=>false
theorem GR{x y:V}{u:Value}(r:RelV y u)(f:fT y=true):AG x u=xN y x:=by
 cases y with
 |bI=>cases r;rfl
 |bl b=>cases r;rfl
 |int i=>obtain⟨t,rfl⟩:=r;rfl
 |str z=>obtain⟨t,rfl⟩:=r;rfl
 |_=>calc absurd (show false=true from f) U'
theorem ou{x:V}:∀{xs:List V}{us:List Value},Vals xs us->xs.all fT=true->us.any (AG x)=xs.any λy=>xN y x
 |_,_,.nil,_=>rfl
 |y::xs,u::us,.cons r t,f=>by
  rw[List.all_cons,Bool.and_eq_true]at f;rw[List.any_cons,List.any_cons,GR r f.1,ou t f.2]
theorem kK{A:Around}{s:Shared}{x:V}{v:Value}(b:RelV x v)(c:fT x=true):∀{xs:List V}{us:List Value},Vals xs us->xs.all fT=true->∀u∈us,SeqAt.EqAt A s u v (AG x u)
 |_,_,.nil,_=>λu a=>by cases a
 |y::xs,u::us,.cons r t,f=>λd a=>by
  rw[List.all_cons,Bool.and_eq_true]at f;rcases List.mem_cons.mp a with rfl|a
  ·rw[GR r f.1];exact AF r b f.1 c
  ·calc kK b c t f.2 d a
def yd(x:V)(xs:List V):Bool:=xs.any λy=>xN y x
def rIn(K:W.Frag)(a:Bool):R2:=λx y H Q=>∃p xs,y=.ref p/\(aT K H p xs\/bJ K H p xs)/\fT x=true/\xs.all fT=true/\Q (.bl (if a then !yd x xs else yd x xs)) H
theorem D9:fQ X (compareOp .In) (rIn X.K false):=by
 intro b s σ H x y v u Q I f d h;obtain⟨p,e,rfl,a,g,c,q⟩:=h
 cases d;rcases a with a|a
 ·obtain⟨b,r,d,h⟩:=I.list a;calc SeqAt.in_listAt (AG x) d.isList (λw e=>kK f g r c w (by simpa using e)) ⟨.bl _,H,I,rfl,?_⟩;rw[show b.toArray.any (AG x)=b.any (AG x) by simp,ou r c];exact q
 ·obtain⟨b,r,d,h⟩:=I.tuple a;calc SeqAt.in_tupleAt (AG x) d (λw e=>kK f g r c w (by simpa using e)) ⟨.bl _,H,I,rfl,?_⟩;rw[show b.toArray.any (AG x)=b.any (AG x) by simp,ou r c];calc q
theorem wx:fQ X (compareOp .NotIn) (rIn X.K true):=by
 intro b s σ H x y v u Q I f d h;obtain⟨p,e,rfl,a,g,c,q⟩:=h
 cases d;rcases a with a|a
 ·obtain⟨b,r,d,h⟩:=I.list a;calc SeqAt.notIn_listAt (AG x) d.isList (λw e=>kK f g r c w (by simpa using e)) ⟨.bl _,H,I,rfl,?_⟩;rw[show b.toArray.any (AG x)=b.any (AG x) by simp,ou r c];exact q
 ·obtain⟨b,r,d,h⟩:=I.tuple a;calc SeqAt.notIn_tupleAt (AG x) d (λw e=>kK f g r c w (by simpa using e)) ⟨.bl _,H,I,rfl,?_⟩;rw[show b.toArray.any (AG x)=b.any (AG x) by simp,ou r c];calc q
theorem wz:fw X (.type "list") (λxs H Q=>∃p d,xs=[.ref p]/\(aT X.K H p d\/bJ X.K H p d)/\∀l,H l=none->Q (.ref l) (upd H l (.lst d))):=by
 intro i s σ H xs o Q I r h;obtain⟨p,d,rfl,j,q⟩:=h;obtain⟨u,rfl,n⟩:=vals1 r
 cases n;have k:∀(c:List Value),Vals d c->d.length<=sizeLine->∀(a:Heap) (f:Nat),(∀b h,s.heap.get? b=some h->a.get? b=some h)->
   a.get? s.heap.objs.size=some {cls:=.type "list",dict:=none,data:=.seq c.toArray f,slots:=#[]}->EP X i σ Q (.ref s.heap.objs.size) {s with heap:=a}:=λc g m a f t e=>
  ⟨.ref s.heap.objs.size,_,I.laid (t':=s.toks) t (K' _) (show cH X.prog X.w _ a _ (.lst d) from⟨m,c,f,g,e⟩),rfl,q _ (I.aW.fresh (K' _))⟩
 rcases j with j|j
 ·obtain⟨c,g,h,m⟩:=I.list j;have d:=g.length;obtain⟨o,i,l,n,q⟩:=h.isList;exact call_list_seq p (.inl rfl) i l q (λa f t e=>k c g m a f t e) (by simp only[List.size_toArray]<;>lia)
 ·obtain⟨c,g,h,m⟩:=I.tuple j;have d:=g.length;obtain⟨o,i,l,n,q⟩:=h;calc call_list_seq p (.inr rfl) i l q (λa f t e=>k c g m a f t e) (by simp only[List.size_toArray]<;>lia)
theorem mE:fw X (.type "tuple") (λxs H Q=>∃p c,xs=[.ref p]/\((aT X.K H p c/\∀l,H l=none->Q (.ref l) (upd H l (.tup c)))\/(bJ X.K H p c/\Q (.ref p) H))):=by
 intro a s σ H xs e Q I r h;obtain⟨p,c,rfl,h⟩:=h;obtain⟨u,rfl,d⟩:=vals1 r
 cases d;rcases h with⟨f,q⟩|⟨f,q⟩
 ·obtain⟨g,h,i,j⟩:=I.list f;have d:=h.length;calc call_tuple_list i.isList (λd e=>?_) (by simp only[List.size_toArray]<;>lia);have k:Inv X a σ H {s with heap:=d}:=I.kept (t':=s.toks) e;have m:Inv X a σ (upd H d.objs.size (.tup c)) {s with heap:=d.push {cls:=.type "tuple",data:=.seq g.toArray}}:=
   k.laid (t':=s.toks) (λb o e=>J' _ e) (K' _) (show cH X.prog X.w _ _ _ (.tup c) from⟨j,g,h,IsTup.new _ _⟩)
  exact⟨.ref d.objs.size,_,m,rfl,q _ (k.aW.fresh (K' _))⟩
 ·obtain⟨g,h,i,j⟩:=I.tuple f;calc call_tuple_same i ⟨.ref p,H,I,rfl,q⟩
def tyV(K:W.Frag)(T:String)(x:V)(H:Hp):Prop:=match x with
 | .str _=>T="str"
 | .int _=>T="int"
 | .ref p=>(T="list"/\∃xs,aT K H p xs)\/(T="tuple"/\∃o,K.lookup p=some o/\o.cls=.type "tuple"/\o.dict=none)\/
   (T="dict"/\((∃a,H p=some (.dK a))\/∃a,H p=some (.dT a)))\/(T="set"/\∃S n,H p=some (.set S n))
 |_=>False
theorem AH{pins:List (Addr×Obj)}{σ:St}{H:Hp}{s:Shared}{T:String}{x:V}{v:Value}(I:Inv X pins σ H s)(r:RelV x v)(f:tyV X.K T x H):
  s.TypeIs v T/\∀a,v=.ref a->∃c,s.heap.get? a=some c/\c.dict=none:=by
 cases x with
 |str z=>
  obtain⟨t,rfl⟩:=r
  cases(show T="str" from f);exact⟨typeIs_str s z t,λ_ e=>nomatch e⟩
 |int i=>
  obtain⟨t,rfl⟩:=r
  cases(show T="int" from f);exact⟨typeIs_int s i t,λ_ e=>nomatch e⟩
 |ref p=>
  cases r;rcases f with⟨rfl,m,k⟩|⟨rfl,o,b,l,g⟩|⟨rfl,b⟩|⟨rfl,S,n,b⟩
  ·obtain⟨c,_,j,_⟩:=I.list k;refine⟨j.isList.typeIs,λa e=>?_⟩
   cases e;obtain⟨o,n,e,c,g,_⟩:=j;exact⟨o,e,g⟩
  ·refine⟨⟨o,I.gG p o b,l⟩,λa e=>?_⟩
   cases e;exact⟨o,I.gG _ o b,g⟩
  ·have z:∃o,s.heap.get? p=some o/\o.ExactDict:=by
    rcases b with⟨c,b⟩|⟨c,b⟩
    ·obtain⟨_,_,_,_,o,_,_,e,d,_⟩:=I.aW p _ b;exact⟨o,e,d⟩
    ·obtain⟨_,_,_,_,o,_,_,e,d,_⟩:=I.aW p _ b;exact⟨o,e,d⟩
   obtain⟨o,e,d⟩:=z;refine⟨⟨o,e,d.1⟩,λa h=>?_⟩
   cases h;exact⟨o,e,d.2.1⟩
  ·obtain⟨o,_,_,_,e,d,_⟩:=I.aW p _ b;refine⟨⟨o,e,d.1⟩,λa h=>?_⟩
   cases h;calc⟨o,e,d.2.1⟩
 |_=>calc X' f
def Qa(K:W.Frag)(T:String)(r:V->List V->Hp->VK->Prop)(b:TE):TE:=λσ H Q=>b σ H λx a=>tyV K T x a/\r x [] a Q
def UN(K:W.Frag)(T:String)(r:V->List V->Hp->VK->Prop)(b:TE)(t:TA):TE:=λσ H Q=>b σ H λx a=>tyV K T x a/\t σ a λxs b=>r x xs b Q
variable {o e:Expr}{es:List Expr}{to:TE}{t:TA}{name:Str}{apos gY:Pos}{T id:String}{r:V->List V->Hp->VK->Prop}
theorem Qb(d:PlainAttrs T)(a:Slot T name id)(e:typeOf (.builtin id)=pure (.type "method_descriptor"))(f:PX X id r)(b:PE X o to)
  (c:attributeBase o name X.env (eval o X.env)=eval o X.env:=by rfl) (g:(apos.endLine==gY.line)=true:=by rfl):PE X (.Call (.Attribute o name apos) [] [] gY) (Qa X.K T r to):=by
 walk_at "xc";refine wpAny_Call_method0_late c g (cK (b pins s σ H _ I h) λv i j=>?_);obtain⟨x,g,b,c,k,l⟩:=j;obtain⟨m,n⟩:=AH b c k;exact⟨T,id,d,a,e,m,n,Calls.callWith_builtin rfl (PySem.evalArgs_none (f pins i σ g x [] v [] Q b c .nil l))⟩
theorem dF(f:PlainAttrs T)(a:Slot T name id)(g:typeOf (.builtin id)=pure (.type "method_descriptor"))(i:PX X id r)(b:PE X o to)(j:PA X (e::es) t)
  (c:attributeBase o name X.env (eval o X.env)=eval o X.env:=by rfl)
  (d:((backTo gY (starEach (e::es) X.env)).all (λx=> !x.1) && (backToKw gY (keywordEach [] X.env)).all (λx=>x.1.isSome)
   && decide ((e::es).length + ([]:List Keyword).length + (if ([]:List Keyword).isEmpty then 0 else 1) < 30))=true:=by rfl)
  (k:(apos.endLine==gY.line)=true:=by rfl) (l:starEach (e::es) X.env=(false,eval e X.env)::starEach es X.env:=by rfl) (m:(backTo gY (starEach es X.env)).any (·.1)=false:=by rfl):
  PE X (.Call (.Attribute o name apos) (e::es) [] gY) (UN X.K T r to t):=by
 walk_at "xc";refine wpAny_Call_method_late c d k rfl (cK (b pins s σ H _ I h) λv n p=>?_);obtain⟨x,k,b,c,q,u⟩:=p;obtain⟨w,y⟩:=AH b c q;refine⟨T,id,f,a,g,w,y,?_⟩;have d:=j gY pins n σ k _ b u;rw[l]at d ⊢;refine Calls.callWith_builtin (by show(false||(backTo gY (starEach es X.env)).any (·.1))=false;rw[m]<;>rfl) (Calls.evalArgs_plain ?_);exact cK d λa f ⟨g,p,q,w,y⟩=>i pins f σ p x g v a Q q c w y
end
end
section
def MtM(X:Cx)(a:String)(r:V->List V->Hp->VK->Prop):Prop:=
 ∀(pins:List (Addr×Obj)) (s:Shared) (σ:St) (H:Hp) (x:V) (xs:List V) (v:Value) (us:List Value) (Q:VK),Inv X pins σ H s->RelV x v->Vals xs us->r x xs H Q->
  wpAny (model X.prog X.w) X.A (call (.builtin a) (v::us)) (EP X pins σ Q) X.xe s
theorem Vals.one:∀{x:V}{us:List Value},Vals [x] us->∃u,us=[u]/\RelV x u
 |_,_,.cons r .nil=>⟨_,rfl,r⟩
theorem Vals.zero:∀{us:List Value},Vals [] us->us=[]
 |_,.nil=>rfl
theorem Vals.dropLast{xs:List V}{us:List Value}(h:Vals xs us):Vals xs.dropLast us.dropLast:=by
 induction h with
 |nil=>calc .nil
 |cons r t a=>
  cases t with
  |nil=>calc .nil
  |cons q b=>calc .cons r a
theorem Vals.eraseIdx:∀{xs:List V}{us:List Value}(i:Nat),Vals xs us->Vals (xs.eraseIdx i) (us.eraseIdx i)
 |_,_,_,.nil=>.nil
 |_,_,0,.cons _ t=>t
 |_,_,i+1,.cons r t=>.cons r (Vals.eraseIdx i t)
theorem AJ{α:Type}(l:List α):l.eraseIdx (l.length-1)=l.dropLast:=by
 induction l with
 |nil=>rfl
 |cons a r c=>
  cases r with
  |nil=>rfl
  |cons b r=>
   have e:(a::b::r).length-1=((b::r).length-1)+1:=by
    have d:(a::b::r).length=r.length+2:=rfl;have a:(b::r).length=r.length+1:=rfl;lia
   rw[e,List.eraseIdx_cons_succ,c]
   all_goals rfl
theorem u6{α:Type}:∀(l:List α) (i:Nat),(l.eraseIdx i).length<=l.length
 | [],_=>K' _
 |_::_,0=>Nat.le_succ _
 |_::r,i+1=>Nat.succ_le_succ (u6 r i)
section
variable {X:Cx}{pins:List (Addr×Obj)}{σ:St}{H:Hp}{s:Shared}{l b:Addr}{xs ys zs:List V}
theorem Inv.Lv{a mw:List Value}{n:Nat}{f:Array Value->Array Value}{t':Nat}(I:Inv X pins σ H s)(b:H l=some (.lst xs))
  (e:s.heap.get? l=some {cls:=.type "list",data:=.seq a.toArray n}) (c:f a.toArray=mw.toArray) (d:Vals ys mw) (g:ys.length<=sizeLine):
  Inv X pins σ (upd H l (.lst ys)) {s with heap:=s.heap.update l (Obj.mapSeq f),toks:=t'}:=by
 have q:=PySem.IsL.update e f;rw[c]at q;calc I.write (x:=l) (e:=l) (by rw[b];calc trivial) (.inl rfl) (λe u a c=>(Heap.get?_update_other s.heap (Obj.mapSeq f) (Ne.symm a)).trans c) ⟨_,q⟩ ?_;calc⟨g,mw,_,d,q⟩
theorem Inv.aan{a:List Value}{t':Nat}(I:Inv X pins σ H s)(b:Vals ys a)(c:ys.length<=sizeLine):
  Inv X pins σ (upd H s.heap.objs.size (.lst ys)) {s with heap:=s.heap.push {cls:=.type "list",data:=.seq a.toArray},toks:=t'}:=
 I.laid (λ_ _ q=>J' _ q) (K' _) ⟨c,a,0,b,V' _ rfl⟩
theorem Inv.fresh(I:Inv X pins σ H s):H s.heap.objs.size=none:=I.aW.fresh (K' _)
theorem Inv.AK(I:Inv X pins σ H s)(b:H l=some (.lst xs)):xs.length<=sizeLine/\∃(a:List Value) (n:Nat),Vals xs a/\xs.length=a.length/\s.heap.get? l=some {cls:=.type "list",data:=.seq a.toArray n}:=by
 obtain⟨z,a,n,r,e⟩:=I.aW l _ b;calc⟨z,a,n,r,r.length,e⟩
theorem GS{n:Nat}(h:n<=sizeLine):Builtin.List.listTooLong n=false:=by
 unfold Builtin.List.listTooLong;calc decide_eq_false ()
end
section
variable {X:Cx}
def Lw:V->List V->Hp->VK->Prop:=λx vs H Q=>∃l xs y,x=.ref l/\vs=[y]/\H l=some (.lst xs)/\xs.length<sizeLine/\Q .bI (upd H l (.lst (xs++[y])))
theorem u7:MtM X "list.append" Lw:=by
 intro a s σ H x e v f Q I c d h;obtain⟨l,g,y,rfl,rfl,b,i,q⟩:=h
 cases c;obtain⟨u,rfl,f⟩:=d.one;obtain⟨z,a,n,r,c,e⟩:=I.AK b;calc call_meets F.slot_list_append ⟨_,e,rfl⟩ F.entry_list_append (F.args_list_append_2 _ _) (PySem.list_append l a.toArray n u (by rw[List.size_toArray];lia)) ⟨e,?_⟩;calc⟨.bI,_,I.Lv (mw:=a++[u]) b e nofun (r.append (.cons f .nil)) ?_,rfl,q⟩;rw[List.length_append,List.length_singleton];lia
def Lx:V->List V->Hp->VK->Prop:=λx vs H Q=>∃l b xs a,x=.ref l/\vs=[.ref b]/\H l=some (.lst xs)/\H b=some (.lst a)/\xs.length+a.length<=sizeLine/\Q .bI (upd H l (.lst (xs++a)))
theorem Ea:MtM X "list.extend" Lx:=by
 intro a s σ H x e v j Q I c d h;obtain⟨l,b,k,m,rfl,rfl,f,g,n,q⟩:=h
 cases c;obtain⟨u,rfl,i⟩:=d.one
 cases i;obtain⟨z,a,n,r,c,e⟩:=I.AK f;obtain⟨d,c,h,i,k,j⟩:=I.AK g;have d:a.toArray.size+c.toArray.size<=sizeLine:=by rw[List.size_toArray,List.size_toArray];lia
 have g:¬(!a.toArray.isEmpty&&Builtin.List.listTooLong (a.toArray.size+c.toArray.size))=true:=by
  rw[GS d,Bool.and_false];exact U'
 refine call_meets F.slot_list_extend ⟨_,e,rfl⟩ F.entry_list_extend (F.args_list_extend_2 _ _)
  (AutoSeq1.list_extend_list_list_0 l a.toArray n b c.toArray h g (by rw[List.size_toArray];lia) ()) ⟨e,j,?_⟩
 calc⟨.bI,_,I.Lv (mw:=a++c) f e nofun (r.append i) ?_,rfl,q⟩;rw[List.length_append];lia
def aao:V->List V->Hp->VK->Prop:=λx vs H Q=>∃l xs y,x=.ref l/\vs=[]/\H l=some (.lst xs)/\xs[xs.length-1]?=some y/\Q y (upd H l (.lst xs.dropLast))
theorem Qc:MtM X "list.pop" aao:=by
 intro a s σ H x e v i Q I d f h;obtain⟨l,j,y,rfl,rfl,c,g,q⟩:=h
 cases d;have b:=f.zero;subst b;obtain⟨z,a,n,r,d,e⟩:=I.AK c;obtain⟨u,b,f⟩:=r.get g;have h:a.toArray[a.toArray.size-1]?=some u:=by
  show a.toArray[a.length-1]?=some u;rw[<-Array.getElem?_toList,<-d];exact b
 calc call_meets F.slot_list_pop ⟨_,e,rfl⟩ F.entry_list_pop (F.args_list_pop_1 _) (MeetsSeq.list_pop_last l a.toArray n u h (by rw[List.size_toArray];lia)) ⟨e,?_⟩;refine⟨y,_,I.Lv (mw:=a.dropLast) c e ?_ r.dropLast ?_,f,q⟩
 ·show a.toArray.eraseIdxIfInBounds (a.toArray.size-1)=a.dropLast.toArray;rw[List.size_toArray,List.eraseIdxIfInBounds_toArray,AJ]
 ·rw[List.length_dropLast];lia
def aap:R2:=λx y H Q=>∃l b xs a,x=.ref l/\y=.ref b/\H l=some (.lst xs)/\H b=some (.lst a)/\xs.length+a.length<=sizeLine/\∀p,H p=none->Q (.ref p) (upd H p (.lst (xs++a)))
theorem Qd:fQ X (binaryOp .Add) aap:=by
 intro a s σ H x y v u Q I c d h;obtain⟨l,b,e,i,rfl,rfl,f,g,j,q⟩:=h
 cases c
 cases d;obtain⟨z,a,n,r,b,e⟩:=I.AK f;obtain⟨h,b,i,c,j,d⟩:=I.AK g;calc PySem.P.add_list e d ?_ (by rw[List.size_toArray,List.size_toArray];lia);have f:a.toArray++b.toArray=(a++b).toArray:=by simp
 rw[f];calc⟨.ref _,_,I.aan (t':=s.toks) (r.append c) (by rw[List.length_append];lia),rfl,q _ I.fresh⟩
theorem GU{pins:List (Addr×Obj)}{s:Shared}{σ:St}{H:Hp}{l:Addr}{xs:List V}{i:Int}{t:Tok}{k:Nat}{Q:Unit->Shared->Prop}(I:Inv X pins σ H s)(b:H l=some (.lst xs))
  (c:-(2^63)<=i) (d:i<2^63) (f:seqIndex? i xs.length=some k) (h:∀s',Inv X pins σ (upd H l (.lst (xs.eraseIdx k))) s'->Q ⟨⟩ s'):
  wpAny (model X.prog X.w) X.A (delItem (.ref l) (.int i t)) Q X.xe s:=by
 obtain⟨z,a,n,r,g,e⟩:=I.AK b;calc PySem.P.delItem_list (k:=k) e (fitsIndex_both c d) (by rw[List.size_toArray,<-g];calc f) (h _ ?_) (by rw[List.size_toArray];lia);refine I.Lv (mw:=a.eraseIdx k) (t':=s.toks) b e ?_ (r.eraseIdx k) ?_
 ·show a.toArray.eraseIdxIfInBounds k=(a.eraseIdx k).toArray;rw[List.eraseIdxIfInBounds_toArray]
 ·have:=u6 xs k;lia
end
section
variable {prog:Program}{w:World}{A:Around}{E:Value->Shared->Prop}{s:Shared}
set_option maxRecDepth 100000 in
end
section
variable {X:Cx}
end
end
section
variable {a:Addr}{X:Cx}{H H':Hp}{bt:List (Key×V)}{xs:List (List Key×Addr×Value)}{Ac:List (TE×TE)}{pos:Pos}{Q:Value->Shared->Prop}
section
variable {κ:Type} [DecidableEq κ]
def gN(bt:List (κ×V))(k:κ):Option V:=(bt.find? λa=>decide (a.1=k)).map (·.2)
def putK(bt:List (κ×V))(k:κ)(v:V):List (κ×V):=
 if (bt.any λa=>decide (a.1=k))=true then bt.map (λa=>if a.1=k then(a.1,v) else a) else bt++[(k,v)]
theorem GV{k:κ}:gN ([]:List (κ×V)) k=none:=rfl
theorem eV{p:κ×V}{r:List (κ×V)}{k:κ}(e:p.1=k):gN (p::r) k=some p.2:=by simp[gN,List.find?_cons,e]
theorem eW{p:κ×V}{r:List (κ×V)}{k:κ}(e:¬p.1=k):gN (p::r) k=gN r k:=by simp[gN,List.find?_cons,e]
theorem kL(k:κ):∀bt:List (κ×V),(bt.any λa=>decide (a.1=k))=(gN bt k).isSome
 | []=>rfl
 |p::r=>by
  rw[List.any_cons];by_cases e:p.1=k
  ·simp only[eV e,decide_eq_true e,Bool.true_or,Option.isSome_some]
  ·rw[eW e,decide_eq_false e,Bool.false_or];calc kL k r
theorem ye(k j:κ)(y:V):∀bt:List (κ×V),gN (bt.map λa=>if a.1=k then(a.1,y) else a) j=(gN bt j).map λx=>if j=k then y else x
 | []=>rfl
 |p::r=>by
  have a:=ye k j y r;rw[List.map_cons];by_cases h:p.1=k
  ·rw[if_pos h];by_cases e:p.1=j
   ·rw[eV (p:=(p.1,y)) e,eV e,Option.map_some,if_pos (e.symm.trans h)]
   ·rw[eW (p:=(p.1,y)) e,eW e,a]
  ·rw[if_neg h];by_cases e:p.1=j
   ·rw[eV (p:=p) e,eV e,Option.map_some,if_neg (λz=>h (e.trans z))]
   ·rw[eW (p:=p) e,eW e,a]
theorem u9(k j:κ)(y:V):∀bt:List (κ×V),gN bt k=none->gN (bt++[(k,y)]) j=if j=k then some y else gN bt j
 | [],_=>by
  by_cases e:k=j
  ·rw[if_pos e.symm];exact eV (p:=(k,y)) e
  ·rw[if_neg (λz=>e z.symm)];calc eW (p:=(k,y)) e
 |p::r,a=>by
  rw[List.cons_append];have b:¬p.1=k:=λz=>by rw[eV z]at a;cases a
  rw[eW b]at a;have c:=u9 k j y r a;by_cases e:p.1=j
  ·rw[eV e,eV e,if_neg (λz=>b (e.trans z))]
  ·rw[eW e,eW e,c]
theorem GW(bt:List (κ×V))(k j:κ)(y:V):gN (putK bt k y) j=if j=k then some y else gN bt j:=by
 unfold putK;by_cases a:(bt.any λb=>decide (b.1=k))=true
 ·rw[if_pos a,ye];rw[kL] at a;by_cases e:j=k
  ·obtain⟨x,b⟩:=Option.isSome_iff_exists.mp a;rw[if_pos e,e,b,Option.map_some,if_pos rfl]
  ·rw[if_neg e]
   cases gN bt j with
   |none=>rfl
   |some x=>rw[Option.map_some,if_neg e]
 ·rw[if_neg a];calc u9 k j y bt ?_;rw[kL] at a
  cases q:gN bt k with
  |none=>rfl
  |some x=>rw[q]at a;calc(a rfl).elim
theorem kM(bt:List (κ×V))(k:κ)(v:V):(putK bt k v).length<=bt.length+1:=by
 unfold putK;split
 ·rw[List.length_map];lia
 ·rw[List.length_append,List.length_cons,List.length_nil];lia
theorem GX{bt:List (κ×V)}{k:κ}(v:V)(h:gN bt k=none):putK bt k v=bt++[(k,v)]:=by
 unfold putK;rw[kL,h];calc if_neg ∅
theorem jT.pL{o:Option V}{u:Option Value}(r:jT o u):o.isSome=u.isSome:=by
 cases o with
 |none=>cases u with
  |none=>rfl
  |some _=>calc(show False from r).elim
 |some _=>cases u with
  |none=>calc(show False from r).elim
  |some _=>rfl
theorem KV.val{bt:List (κ×V)}{vs:List (κ×Value)}(r:KV bt vs)(k:κ):jT (gN bt k) (valueAt vs k):=by
 unfold KV at r;induction r with
 |nil=>calc aam
 | @cons p q b a h t g=>
  obtain⟨d,i⟩:=h;by_cases e:p.1=k
  ·have c:q.1=k:=d.symm.trans e;have b:valueAt (q::a) k=some q.2:=by simp[valueAt,List.find?_cons,c]
   rw[eV e,b];exact i
  ·have c:¬q.1=k:=λz=>e (d.trans z);have b:valueAt (q::a) k=valueAt a k:=by simp[valueAt,List.find?_cons,c]
   rw[eW e,b];calc g
theorem KV.any{bt:List (κ×V)}{vs:List (κ×Value)}(r:KV bt vs)(k:κ):(bt.any λa=>decide (a.1=k))=vs.any λa=>decide (a.1=k):=by
 unfold KV at r;induction r with
 |nil=>rfl
 |cons h t a=>rw[List.any_cons,List.any_cons,a,h.1]
theorem KV.Qe{bt:List (κ×V)}{vs:List (κ×Value)}(r:KV bt vs)(k:κ){y:V}{u:Value}(b:RelV y u):
  KV (bt.map λa=>if a.1=k then(a.1,y) else a) (vs.map λa=>if a.1=k then(a.1,u) else a):=by
 unfold KV at r ⊢;induction r with
 |nil=>calc .nil
 | @cons p q a d h t c=>
  rw[List.map_cons,List.map_cons];calc .cons ?_ c;obtain⟨a,d⟩:=h;by_cases e:p.1=k
  ·rw[if_pos e,if_pos (a.symm.trans e)];exact⟨a,b⟩
  ·rw[if_neg e,if_neg (λz=>e (a.trans z))];calc⟨a,d⟩
theorem KV.put{bt:List (κ×V)}{vs:List (κ×Value)}(r:KV bt vs)(k:κ){y:V}{u:Value}(a:RelV y u):KV (putK bt k y) (stored vs k u):=by
 unfold putK stored;rw[r.any k];by_cases e:(vs.any λb=>decide (b.1=k))=true
 ·rw[if_pos e,if_pos e];exact r.Qe k a
 ·rw[if_neg e,if_neg e];calc Paired.snoc r ⟨rfl,a⟩
theorem KV.length{bt:List (κ×V)}{vs:List (κ×Value)}(r:KV bt vs):bt.length=vs.length:=Paired.length r
end
theorem yf{P:Program}{w:World}{k:Key}{u:Value}(r:RelV (kV k) u):(dU P w).is k u=true:=by
 cases k with
 |inl i=>obtain⟨t,e⟩:=(show ∃t,u=Value.int i t from r);subst e;calc xT P w i t
 |inr x=>obtain⟨t,e⟩:=(show ∃t,u=Value.str x t from r);subst e;calc xU P w x t
theorem va{P:Program}{w:World}:∀{a:List Key}{us:List Value},Vals (a.map kV) us->ItemsAre (dU P w) a us
 | [],_,r=>by rw[List.map_nil]at r;cases r;calc .nil
 |k::a,_,r=>by
  rw[List.map_cons]at r
  cases r with
  |cons h t=>calc .cons (yf h) (va t)
abbrev KT(H:Hp):List (List Key×V)->List (List Key×Addr×Value)->Prop:=Paired λp q=>p.1=q.1/\H q.2.1=some (.tup (p.1.map kV))/\RelV p.2 q.2.2
theorem KT.val{H:Hp}{bt:List (List Key×V)}{xs:List (List Key×Addr×Value)}(r:KT H bt xs)(k:List Key):jT (gN bt k) ((atKey xs k).map (·.2)):=by
 induction r with
 |nil=>calc aam
 | @cons p q b a h t g=>
  obtain⟨d,_,i⟩:=h;by_cases e:p.1=k
  ·have c:q.1=k:=d.symm.trans e;have b:atKey (q::a) k=some q.2:=by simp[atKey,List.find?_cons,c]
   rw[eV e,b];exact i
  ·have c:¬q.1=k:=λz=>e (d.trans z);have b:atKey (q::a) k=atKey a k:=by simp[atKey,List.find?_cons,c]
   rw[eW e,b];calc g
theorem KT.Qe{H:Hp}{bt:List (List Key×V)}{xs:List (List Key×Addr×Value)}(r:KT H bt xs)(k:List Key){y:V}{u:Value}(c:RelV y u):
  KT H (bt.map λa=>if a.1=k then(a.1,y) else a) (xs.map (putAt k u)):=by
 induction r with
 |nil=>calc .nil
 | @cons p q a b h t d=>
  rw[List.map_cons,List.map_cons];calc .cons ?_ d;obtain⟨a,b,g⟩:=h;unfold putAt;by_cases e:p.1=k
  ·rw[if_pos e,if_pos (a.symm.trans e)];exact⟨a,b,c⟩
  ·rw[if_neg e,if_neg (λz=>e (a.trans z))];calc⟨a,b,g⟩
theorem KT.put{bt:List (List Key×V)}(r:KT H bt xs)(k:List Key){b:Addr}{y:V}{u:Value}(c:H b=some (.tup (k.map kV)))(a:RelV y u):
  KT H (putK bt k y) (storedH xs k b u):=by
 have e:(bt.any λb=>decide (b.1=k))=(atKey xs k).isSome:=by
  rw[kL,(r.val k).pL,Option.isSome_map]
 unfold putK storedH;rw[e];by_cases q:(atKey xs k).isSome=true
 ·rw[if_pos q,if_pos q];exact r.Qe k a
 ·rw[if_neg q,if_neg q];calc Paired.snoc r ⟨rfl,c,a⟩
theorem KT.keeps{bt:List (List Key×V)}(r:KT H bt xs)(c:∀b a,H b=some (.tup a)->H' b=some (.tup a)):KT H' bt xs:=
 Paired.O9 r λ_ _ z=>⟨z.1,c _ _ z.2.1,z.2.2⟩
section
variable {P:Program}{w:World}{H:Hp}{h:Heap}{a:Addr}
theorem Nt{u:HO}(ok:mB P w H h)(e:Rd H a u):cH P w H h a u:=e.ok ok
theorem Cf(b:mB P w H h)(e:Rd H a (.dK bt)):bt.length<=sizeLine/\(a==sysModules)=false/\∃vs,KV bt vs/\h.DictOf (dU P w) a vs:=
 show cH P w H h a (.dK bt) from Nt b e
theorem Nu(b:mB P w H h)(e:H a=some (.dK bt)):bt.length<=sizeLine/\(a==sysModules)=false/\∃vs,KV bt vs/\h.DictOf (dU P w) a vs:=Cf b (.inl e)
theorem wA{b:List Key}(c:mB P w H h)(e:H a=some (.tup (b.map kV))):(tupleKind (dU P w)).is h b a:=by
 obtain⟨_,d,r,o,f,g,n,i⟩:=(show cH P w H h a (.tup (b.map kV)) from c a _ e)
 calc⟨o,d.toArray,n,f,g,i,by simpa using va r⟩
theorem Cg{bt:List (List Key×V)}(d:mB P w H h)(e:Rd H a (.dT bt)):bt.length<=sizeLine/\(a==sysModules)=false/\
  ∃xs,KT H bt xs/\h.DictOfH (tupleKind (dU P w)) a xs:=by
 obtain⟨z,y,xs,r,o,g,i,j,k,n,p,s⟩:=(show cH P w H h a (.dT bt) from Nt d e)
 calc⟨z,y,xs,r,o,g,i,j,k,n,p,λx b=>?_,s⟩;have c:∀{l:List (List Key×V)} {m:List (List Key×Addr×Value)},KT H l m->∀x∈m,(tupleKind (dU P w)).is h x.1 x.2.1:=by
  intro l m q;induction q with
  |nil=>intro x b;calc nomatch b
  | @cons p q g i f t u=>
   intro x b;rcases List.mem_cons.mp b with e|b
   ·subst e;exact wA d (by rw[<-f.1];calc f.2.1)
   ·exact u x b
 calc c r x b
theorem UQ{bt:List (List Key×V)}(b:mB P w H h)(e:H a=some (.dT bt)):bt.length<=sizeLine/\(a==sysModules)=false/\
  ∃xs,KT H bt xs/\h.DictOfH (tupleKind (dU P w)) a xs:=Cg b (.inl e)
end
def kC(H:Hp)(a:Addr)(y:V)(r:Option V):Prop:=
 (∃bt k,Rd H a (.dK bt)/\y=kV k/\r=gN bt k)\/∃bt k b,Rd H a (.dT bt)/\y=.ref b/\H b=some (.tup (k.map kV))/\r=gN bt k
def uf(H:Hp)(a:Addr)(y v:V)(H':Hp):Prop:=
 (∃bt k,H a=some (.dK bt)/\y=kV k/\bt.length<sizeLine/\H'=upd H a (.dK (putK bt k v)))\/
 ∃bt k b,H a=some (.dT bt)/\y=.ref b/\H b=some (.tup (k.map kV))/\bt.length<sizeLine/\H'=upd H a (.dT (putK bt k v))
theorem kC.k{k:Key}(e:H a=some (.dK bt)):kC H a (kV k) (gN bt k):=.inl ⟨bt,k,.inl e,rfl,rfl⟩
theorem uf.k{k:Key}{v:V}(e:H a=some (.dK bt))(b:bt.length<sizeLine):uf H a (kV k) v (upd H a (.dK (putK bt k v))):=.inl ⟨bt,k,e,rfl,b,rfl⟩
section
variable {X:Cx}{pins:List (Addr×Obj)}{σ:St}{H:Hp}{s:Shared}{a:Addr}{y v:V}{u r:Value}{o:Option V}{A:Around}{E:Value->Shared->Prop}
theorem Inv.big(I:Inv X pins σ H s):sysModules<s.heap.objs.size:=by
 have h:mainGlobals<s.heap.objs.size:=(I.mod.glob.keeps I.bk).lt;calc Nat.lt_trans ∅ h
theorem Eb(n:A.units+1<cLine)(I:Inv X pins σ H s)(g:kC H a y (some v))(m:RelV y u)(h:∀w' s',Inv X pins σ H s'->RelV v w'->Q w' s'):
  wpAny (model X.prog X.w) A (getItem (.ref a) u) Q E s:=by
 rcases g with⟨bt,k,e,d,l⟩|⟨bt,k,b,e,d,q,l⟩
 ·subst d;obtain⟨z,p,g,c,f⟩:=Cf I.aW e;obtain⟨w',i,j⟩:=jT.some_of (v:=v) (o:=valueAt g k) (by rw[l];calc c.val k);exact wpAny_getItem_of (yf m) f.mapOf i (h w' _ (I.tok _) j)
 ·subst d
  cases(show u=Value.ref b from m);obtain⟨z,p,xs,c,f⟩:=Cg I.aW e;obtain⟨w',i,j⟩:=jT.some_of (v:=v) (o:=(atKey xs k).map (·.2)) (by rw[l];calc c.val k);obtain⟨p,b,d⟩:=Option.map_eq_some_iff.mp i;calc wpAny_getItem_heap (tupleKind_room_in1 n) (wA I.aW q) f b ?_;rw[d];calc h w' _ (I.tok _) j
theorem Ly(m:A.units+1<cLine)(I:Inv X pins σ H s)(g:kC H a y o)(j:RelV y u)(h:∀s',Inv X pins σ H s'->Q (.bool (!o.isSome)) s'):
  wpAny (model X.prog X.w) A (compareOp .NotIn u (.ref a)) Q E s:=by
 rcases g with⟨bt,k,e,d,l⟩|⟨bt,k,b,e,d,n,l⟩
 ·subst d;obtain⟨z,f,g,c,i⟩:=Cf I.aW e;calc wpAny_notIn_of (yf j) f i.mapOf ?_;rw[<-(c.val k).pL,<-l];exact h _ (I.tok _)
 ·subst d
  cases(show u=Value.ref b from j);obtain⟨z,f,xs,c,i⟩:=Cg I.aW e;calc wpAny_notIn_heap (tupleKind_room_in1 m) (wA I.aW n) f i ?_;have q:=(c.val k).pL;rw[Option.isSome_map]at q;rw[<-q,<-l];calc h _ (I.tok _)
theorem wC{h':Heap}{t':Nat}{b:HO}(I:Inv X pins σ H s)(d:Um (H a))(f:Heap.SameBut a s.heap h')(g:∃q,h'.get? a=some q)(c:cH X.prog X.w (upd H a b) h' a b):
  Inv X pins σ (upd H a b) {s with heap:=h',toks:=t'}:=
 I.write (x:=a) (e:=a) d (.inl rfl) (λb q h z=>(f.2 b h).trans z) g c
theorem GY{P:Program}{w:World}{h':Heap}{vs:List (Key×Value)}(z:bt.length<=sizeLine)(c:(a==sysModules)=false)(b:KV bt vs)(d:h'.DictOf (dU P w) a vs):
  cH P w H' h' a (.dK bt):=⟨z,c,vs,b,d⟩
theorem Ec{Q:Unit->Shared->Prop}(G:A.units+1<cLine)(I:Inv X pins σ H s)(g:uf H a y v H')(B:RelV y u)(C:RelV v r)(h:∀s',Inv X pins σ H' s'->Q ⟨⟩ s'):
  wpAny (model X.prog X.w) A (setItem (.ref a) u r) Q E s:=by
 rcases g with⟨bt,k,e,c,l,j⟩|⟨bt,k,b,e,c,D,l,j⟩
 ·subst c j;obtain⟨z,m,g,d,n⟩:=Nu I.aW e;have o:g.length<=sizeLine:=by rw[<-d.length];exact z
  have p:(putK bt k v).length<=sizeLine:=by have:=kM bt k v;lia
  calc wpAny_setItem_pairs (hsz:=o) (yf B) n λF f x=>h _ ?_;have g:∃q,F.get? a=some q:=let ⟨q,_,_,i,_⟩:=f;⟨q,i⟩
  exact wC I (by rw[e];calc aam) x g (GY p m (d.put k C) f)
 ·subst c j
  cases(show u=Value.ref b from B);obtain⟨z,m,xs,d,n⟩:=UQ I.aW e;have o:xs.length<=sizeLine:=by rw[<-Paired.length d];exact z
  have p:(putK bt k v).length<=sizeLine:=by have:=kM bt k v;lia
  calc wpAny_setItem_heap (hsz:=o) (tupleKind_room_in1 G) (wA I.aW D) n λF f x=>h _ ?_;obtain⟨q,g,j,i,l,n,o,_,t⟩:=f;calc wC I (by rw[e];calc aam) x ⟨q,i⟩ ⟨p,m,_,(d.put k D C).keeps λc h b=>?_,q,g,j,i,l,n,o,t⟩;rw[ay (BW b e (λz=>nomatch z))];calc b
end
section
variable {X:Cx}{pins:List (Addr×Obj)}{σ:St}{H:Hp}{s:Shared}{a:Addr}{bt:List (Key×V)}{k:Key}{u:Value}{A:Around}{E:Value->Shared->Prop}
end
theorem yg{pins:List (Addr×Obj)}{σ:St}{s:Shared}{y:V}{o:Option V}(I:Inv X pins σ H s)(g:kC H a y o):s.TypeIs (.ref a) "dict":=by
 rcases g with⟨bt,k,e,_,_⟩|⟨bt,k,b,e,_,_,_⟩
 ·obtain⟨_,_,c,_,b⟩:=Cf I.aW e;exact b.typeIs
 ·obtain⟨_,_,xs,_,b⟩:=Cg I.aW e;calc b.typeIs
def wD(b c:TE):TE:=λσ H Q=>b σ H λy d=>c σ d λx b=>∃a o,x=.ref a/\kC b a y o/\Q (.bl (!o.isSome)) b
def GZ(b c d:TE):TS:=λD σ H=>d σ H λv e=>b σ e λx d=>c σ d λy e=>∃a b,x=.ref a/\uf e a y v b/\D.nx σ b
section
variable {X:Cx}{o i e value:Expr}{pos pos' Lm:Pos}{td ty tv:TE}
theorem Ed(b:X.A.units+1<cLine)(c:PE X i ty)(d:PE X o td):PC X .NotIn i o (wD ty td):=by
 walk_at "xc";refine cK (c pins s σ H _ I h) λw e ⟨y,f,j,k,l⟩=>cK (d pins e σ f _ j l) λu c m=>?_;obtain⟨x,n,p,q,a,r,t,g,v⟩:=m;subst t;obtain rfl:u=Value.ref a:=q;exact Ly b p g k λd c=>⟨.bl (!r.isSome),n,c,rfl,v⟩
theorem mf(b:X.A.units+1<cLine)(c:PE X o td)(d:PE X i ty)(e:PE X value tv)(f:swapsWith value (some (.Subscript o i pos')) pos.line X.env=pure false):
  PS X (.Assign [.Subscript o i pos'] value pos) (GZ td ty tv):=by
 walk_at "xd";refine wpAny_Assign_Subscript (cK (e pins s σ H _ I h) λr j ⟨v,k,l,m,n⟩=>cK (c pins j σ k _ l n) λu e ⟨x,p,q,t,r⟩=>cK (d pins e σ p _ q r) λc j w=>?_) f;obtain⟨y,c,z,B,a,C,E,g,F⟩:=w;subst E;obtain rfl:u=Value.ref a:=t;exact Ec b z g B m λd c=>⟨σ,C,c,F⟩
end
theorem yh{P:Program}{w:World}(h:Heap)(a:sysModules<h.objs.size):cH P w H (h.push {cls:=.type "dict",data:=.dict #[]}) h.objs.size (.dK []):=
 ⟨aab _,beq_eq_false_iff_ne.mpr (Ne.symm (W' a)),[],.nil,Heap.DictOf.new h⟩
def AL:TE:=λ_ H Q=>∀p,H p=none->Q (.ref p) (upd H p (.dK []))
section
variable {X:Cx}{pos:Pos}
theorem G8:PE X (.Dict [] [] pos) AL:=.mk λb s σ H Q I h=>
 wpAny_Dict_empty ⟨.ref s.heap.objs.size,_,I.laid (a:=s.heap.objs.size) (o:=.dK []) (t':=s.toks) (λ_ _ q=>J' _ q) (K' _) (yh s.heap I.big),rfl,h _ (I.aW.fresh (K' _))⟩
end
def pM:List (TE×TE)->St->Hp->(List (V×V)->Hp->Prop)->Prop
 | [],_,H,Q=>Q [] H
 |(a,b)::r,σ,H,Q=>a σ H λx c=>b σ c λy a=>pM r σ a λb c=>Q ((x,y)::b) c
abbrev VV:List (V×V)->List (Value×Value)->Prop:=Paired λp q=>RelV p.1 q.1/\RelV p.2 q.2
def YI(X:Cx)(pos:Pos)(b:List (Option Expr))(a:List Expr)(Ac:List (TE×TE)):Prop:=
 ∀(pins:List (Addr×Obj)) (s:Shared) (σ:St) (H:Hp) (Q:List (V×V)->Hp->Prop),Inv X pins σ H s->pM Ac σ H Q->
  wpAny (model X.prog X.w) X.A (evalPairs (pairTrees b a X.env pos)) (λvs s'=>∃a H',Inv X pins σ H' s'/\VV a vs/\Q a H') X.xe s
theorem LD:YI X pos [] [] []:=λa s σ H Q I h=>pairTrees_nil_walk ⟨[],H,I,.nil,h⟩
theorem r9{k v:Expr}{a:List (Option Expr)}{vs:List Expr}{b c:TE}(d:PE X k b)(e:PE X v c)(f:YI X pos a vs Ac):
  YI X pos (some k::a) (v::vs) ((b,c)::Ac):=λa s σ H Q I h=>
 pairTrees_cons_walk (cK (d a s σ H _ I h) λu b ⟨x,c,g,i,j⟩=>cK (e a b σ c _ g j) λn d ⟨y,h,k,l,m⟩=>
  cK (f a d σ h _ k m) λn o ⟨c,e,g,b,j⟩=>⟨(x,y)::c,e,g,.cons ⟨i,l⟩ b,j⟩)
def mJ(bt a:List (Key×V)):List (Key×V):=a.foldl (λb c=>putK b c.1 c.2) bt
theorem KV.merge:∀{a:List (Key×V)}{b:List (Key×Value)}{bt:List (Key×V)}{vs:List (Key×Value)},KV a b->KV bt vs->KV (mJ bt a) (merged vs b):=by
 intro a b bt vs r;unfold KV at r;induction r generalizing bt vs with
 |nil=>intro q;calc q
 | @cons p q b c h t a=>
  intro b;have e:KV (putK bt p.1 p.2) (stored vs q.1 q.2):=by
   have:=b.put p.1 h.2;rw[<-h.1];exact this
  calc a e
theorem mF:∀(a bt:List (Key×V)),(mJ bt a).length<=bt.length+a.length
 | [],bt=>by show bt.length<=bt.length+0;lia
 |p::r,bt=>by
  have a:=mF r (putK bt p.1 p.2);have a:=kM bt p.1 p.2;show(mJ (putK bt p.1 p.2) r).length<=_;rw[List.length_cons];lia
theorem se{P:Program}{w:World}:∀{bt:List (Key×V)}{ws:List (Value×Value)},VV (bt.map λb=>(kV b.1,b.2)) ws->∃d,Carries (dU P w) ws d/\KV bt d
 | [],_,r=>by rw[List.map_nil]at r;cases r;calc⟨[],aam,.nil⟩
 |p::bt,_,r=>by
  rw[List.map_cons]at r
  cases r with
  | @cons a b c e h t=>
   obtain⟨d,c,q⟩:=se (P:=P) (w:=w) t;obtain⟨f,e⟩:=b;calc⟨(p.1,e)::d,⟨yf h.1,rfl,c⟩,.cons ⟨rfl,h.2⟩ q⟩
def Ci(Ac:List (TE×TE)):TE:=λσ H Q=>∀p,H p=none->pM Ac σ (upd H p (.dK [])) λc a=>a p=some (.dK [])/\∃bt:List (Key×V),c=bt.map (λb=>(kV b.1,b.2))/\bt.length<=15/\Q (.ref p) (upd a p (.dK (mJ [] bt)))
theorem LF{b:List (Option Expr)}{d:List Expr}(h:YI X pos b d Ac)(k:b.all (·.isSome)=true)(l:b.length=d.length)(m:b≠[])
  (f:b.length<=15):PE X (.Dict b d pos) (Ci Ac):=by
 refine⟨?_⟩;intro b s σ H Q I q;have d:=I.aW.fresh (K' s.heap.objs.size);have n:=I.laid (a:=s.heap.objs.size) (o:=.dK []) (h':=s.heap.push {cls:=.type "dict",data:=.dict #[]}) (t':=s.toks) (λ_ _ q=>J' _ q) (K' _) (yh s.heap I.big);refine wpAny_Dict_walk (knd:=dU X.prog X.w) k l m f (cK (h b _ σ _ _ n (q _ d)) λz B p=>?_);obtain⟨b,d,j,g,e,bt,r,f,t⟩:=p;subst r;obtain⟨u,c,v⟩:=se (P:=X.prog) (w:=X.w) g;obtain⟨z,x,b,y,A⟩:=Nu j.aW e
 cases y;calc⟨u,c,A,λi b d=>⟨.ref s.heap.objs.size,_,?_,rfl,t⟩⟩;have c:(mJ [] bt).length<=sizeLine:=by
  have f:=mF bt [];rw[List.length_nil]at f;rw[sizeLine_eq];lia
 have f:∃q,i.get? s.heap.objs.size=some q:=let ⟨q,_,_,g,_⟩:=b;⟨q,g⟩
 calc wC j (by rw[e];calc aam) d f (GY c x (v.merge .nil) b)
section
variable {X:Cx}{pins:List (Addr×Obj)}{σ:St}{H:Hp}{s:Shared}{a:Addr}{y d:V}{u r:Value}{o:Option V}{A:Around}{E:Value->Shared->Prop}
end
section
variable {X:Cx}{pins:List (Addr×Obj)}{σ:St}{H:Hp}{s:Shared}{a:Addr}{y:V}{u:Value}{A:Around}{E:Value->Shared->Prop}
end
end
end L2
namespace Att
open PySem PySem.W PySem.Calls PyProof.Rows
theorem qY{P:Params}{h:Heap}:∀(c:List Int) (vs:List Value),WellAll P h vs (c.map WData.int)->IntsAre vs c:=by
 intro c;induction c with
 |nil=>
  intro vs w;rw[List.map_nil]at w
  cases w;calc .nil
 |cons n c d=>
  intro vs w;rw[List.map_cons]at w
  cases w with
  |cons a b=>
   cases a;calc .cons _ _ (d _ b)
theorem Ee{l:OpenLaw}{n:Nat}(j:l.most=some n){P:Params}{h:Heap}{args:List WData}{c:List Value}
  (g:l.row.toRowW.claim.pre args=true) (k:WellAll P h c args):
  ∃a vs b,c=[Value.ref a]/\args=[WData.list (b.map WData.int)]/\h.get? a=some {cls:=.type "list",data:=.seq vs.toArray}/\IntsAre vs b/\b.length<=n:=by
 have f:WShape.hasAll [] args [.list .int]=true:=(pre_splitW g).1;have i:l.pre.holds [] {args:=args}=true:=(pre_splitW g).2;obtain⟨d,r,rfl,m,o⟩:=hasAllW_cons f;obtain rfl:=hasAllW_nil o;obtain⟨q,rfl,p⟩:=hasW_list m;obtain⟨b,rfl⟩:=items_int p;have e:b.length<=n:=by
  unfold OpenLaw.pre at i;have a:(WTm.not (.lt (.lit (.int (n:Int))) (.len (.arg 0)))).holds [] {args:=[.list (b.map .int)]}=true:=by
   have a:=(holds_andW i).1;rw[j]at a;exact a
  have c:=condW_of a (w_not (w_lt w_lit (w_len_list (w_arg rfl))));rw[List.length_map]at c;calc Nat.le_of_not_lt λq=>?_;have a:(n:Int)<((b.length:Nat):Int):=by lia
  first
   |(rw[decide_eq_true a]at c;calc absurd c ∅)
   |(simp at c;lia)
 cases k with
 |cons s t=>
  cases t
  cases s with
  |list a c=>calc⟨_,_,b,rfl,rfl,a,qY b _ c,e⟩
theorem Ef(l:OpenLaw)(args:List WData):l.row.toRowW.claim.post args (.bool true) args=true:=
 postW_of (r:=l.row.toRowW) (X:=(true == true))
  (show WShape.has [] (.bool true) .bool=true by first|rfl|decide|simp[WShape.has,WShape.arms,WShape.armsAll])
  (show(WTm.eq .res (.lit (.bool true))).value [] {args:=args,res:=some (.bool true),after:=args}=some (.bool (true==true)) from w_eq_bool (w_res rfl) w_lit) rfl
theorem yi{l:OpenLaw}{n:Nat}{q:Program}{c:List Str}{p:(Str->Option Value)->Heap->Prop}{s:World->Heap->Prop}{d:DefRec}
  (x:l.most=some n) (y:d.params.defaults=[])
  (call:∀(w:World) (s₀ b:Shared) (h k:Str->Option Value) (g:Addr) (o:Obj) (m i e:Value) (a:Addr) (vs:List Value) (j:List Int),
   Ground q c [] p w s₀ h k b.heap->s w b.heap->
   b.heap.get? g=some o->o.data=.func (docDef d.name d.params d.body d.scope m i e)->b.heap.CodeRec i d.name->h d.name=some (.ref g)->
   b.heap.get? a=some {cls:=.type "list",data:=.seq vs.toArray}->IntsAre vs j->j.length<=n->b.gens=#[]->
   codeAny (model l.prog w) callerA (.call (.ref g) ⟨[.ref a],[]⟩) (λr s'=>r=.ok (.ret (.bool true))/\OldK b.heap s'.heap/\s'.os=b.os/\AllBare s'.gens) b):
  WalkO q c p s l.row.toRowW d [] (λf vs=>PySem.call f vs):=by
 intro w s₀ b h k G Y g o m i e z kV A B C t D E u v L F H I J M;obtain rfl:z=.none:=Dflts.none t y;obtain rfl:kV=.none:=Dflts.noKw t;obtain⟨a,vs,j,rfl,rfl,f,c,d⟩:=Ee x F J;calc enter_call (codeAny_mono (call w s₀ b h k g o m i e a vs j G Y A (fd_plain B) C D f c d E) λr s' K=>?_);obtain⟨rfl,a,b,c⟩:=K;calc⟨.inl ⟨.bool true,.bool true,[],rfl,λ_=>rfl,.bool true,Ef l _,λ_=>⟨List.Pairwise.nil,λ_ d=>(nomatch d)⟩⟩,a,b,c⟩
section
variable {prog:Program}{w:World}{A:Around}{E:Value->Shared->Prop}{s:Shared}{K:Frag}
end
end Att
namespace L2
open PySem PySem.Spec PyProof.Rows
section
theorem vd:∀{vs:List Value}{a:List Int},IntsAre vs a->Vals (a.map V.int) vs
 |_,_,.nil=>.nil
 |_,_,.cons n t h=>.cons ⟨t,rfl⟩ (vd h)
def Qh(H:Hp):Prop:=∀b,H b=none\/∃o xs,H b=some (.zX o (.lst xs))
theorem Hc{P:Program}{w:World}{K:W.Frag}{j L:Str->Option Value}{CX:GH}{k:Nat}{m a:Addr}{n:FuncData}{x:Str}{sp:Sp}{c:Shared}{vs:List Value}{l:List Int}
  (X:K.In c.heap) (p:c.heap.Ns mainGlobals j) (g:c.heap.Ns builtinsNs L) (M:∀x:Str,x≠"__name__"->L x=bootBuiltins x) (N:c.heap.NoLimit) (hg:c.gens=#[])
  (I:c.heap.get? a=some {cls:=.type "list",data:=.seq vs.toArray}) (Y:IntsAre vs l) (Z:l.length<=sizeLine) (hr:dH k callerA)
  (F:∀base:Heap,K.In base->base.Ns mainGlobals j->ja P w K j base CX k m n [x] sp) (UT:∀(s:Shared) (u:Value),BindsTo s n ⟨[u],[]⟩ [(x,u)])
  (Ay:∀H:Hp,Qh H->aT K H a (l.map V.int)->sp [.ref a] H (λv _=>v=.bl true) λ_ _ _=>False)
  (O:∀H e s',CX [] H c (λ_ _ _=>False) e s'->False):
  codeAny (model P w) callerA (.call (.ref m) ⟨[.ref a],[]⟩) (λr s'=>r=.ok (.ret (.bool true))/\OldK c.heap s'.heap/\s'.os=c.os/\AllBare s'.gens) c:=by
 have rv:=vd Y;have R:=Y.length;have i:∀H:Hp,Qh H->aT K H a (l.map V.int)->mB P w H c.heap->(∀b,H b≠none->b=a)->(H a≠none->K.lookup a=none)->
   codeAny (model P w) callerA (.call (.ref m) ⟨[.ref a],[]⟩) (λr s'=>r=.ok (.ret (.bool true))/\OldK c.heap s'.heap/\s'.os=c.os/\AllBare s'.gens) c:=by
  intro H hO hS aW hA hK;have Cj:∀{b:Addr} {o:Obj},c.heap.get? b=some o->H b=none->(v7 c.heap H).get? b=some o:=λe n=>F5 e n;have UD:∀{b:Addr} {o:Obj} {t:Array DictEntry} {y:Nat},c.heap.get? b=some o->o.data=.dict t y->H b=none:=λ{b o t y} e d=>by
   cases q:H b with
   |none=>rfl
   |some u=>
    have S:b=a:=hA b (by rw[q];simp);subst S;rw[I]at e;cases e;have d':Data.seq vs.toArray _=Data.dict t y:=d
    cases d'
  have J:∀{b:Addr} {m:Str->Option Value},c.heap.Ns b m->(v7 c.heap H).Ns b m:=λ{b m} ⟨o,t,y,e,d,r⟩=>⟨o,t,y,Cj e (UD e d),d,r⟩
  have B:K.In (v7 c.heap H):=λb o e=>Cj (X b o e) (by
   cases q:H b with
   |none=>rfl
   |some u=>
    have S:b=a:=hA b (by rw[q];simp);subst S;rw[hK (by rw[q];simp)] at e;cases e)
  have d:Mod K j (v7 c.heap H):=⟨B,J p,⟨L,J g,M⟩,let ⟨k,m,n⟩:=N;⟨k,J m,n⟩⟩
  have k:wg P w K j (v7 c.heap H) callerA [] c H:=⟨rfl,d,λb o e=>Ld e,Nat.le_of_eq (DT _ _),trivial,λb g=>absurd (show b∈([]:List Addr) from g) nofun,aW,.of_eq hg⟩
  refine codeAny_mono ((F _ B (J p)).run callerA [] c H ⟨[.ref a],[]⟩ [.ref a] [.ref a] _ _ hr k (UT c (.ref a)) (.cons rfl .nil) (Ay H hO hS)) λr s' h=>?_
  cases r with
  |error e=>calc(O H e s' h).elim
  |ok fl=>
   cases fl with
   |next=>calc X' h
   |brk=>calc X' h
   |cont=>calc X' h
   |ret u=>
    obtain⟨v,c,os,C,un,T,r',q⟩:=h;have q':v=.bl true:=q;subst q';obtain rfl:u=Value.bool true:=r';refine⟨rfl,OldK.of_keep λb o e=>?_,os,C⟩
    cases q:H b with
    |none=>calc un.keep b o e q (by intro z;calc absurd (show b∈([]:List Addr) from z) nofun) nofun
    |some u=>
     rcases hO b with z|⟨ob,c,z⟩
     ·rw[q]at z;cases z
     ·have z2:=un.ub b ob _ z;obtain⟨e1,_⟩:=aW b _ z;obtain⟨e2,_⟩:=T b _ z2;rw[e]at e1;cases e1;exact e2
 cases U:K.lookup a with
 |some o=>
  have e:=X a o U;rw[I]at e
  cases e;calc i (λ_=>none) (λ_=>.inl rfl) (.inr ⟨_,vs.toArray,_,U,rfl,rfl,rfl,by rw[List.size_toArray,R];calc Z,by simpa using rv⟩) (λb u z=>by have G:(none:Option HO)=some u:=z;cases G) (λb z=>absurd rfl z) λz=>absurd rfl z
 |none=>
  refine i (λb=>if b=a then some (.zX {cls:=.type "list",data:=.seq vs.toArray} (.lst (l.map V.int))) else none) (λb=>?_) (.inl (.inr ⟨{cls:=.type "list",data:=.seq vs.toArray},if_pos rfl⟩)) (λb u z=>?_) (λb z=>?_) λ_=>U
  ·by_cases g:b=a
   ·exact .inr ⟨_,_,if_pos g⟩
   ·exact .inl (if_neg g)
  ·by_cases g:b=a
   ·have G:=(if_pos g).symm.trans z
    cases G;subst g;exact⟨I,by rw[List.length_map];calc Z,vs,_,rv,I⟩
   ·have G:=(if_neg g).symm.trans z
    cases G
  ·by_cases g:b=a
   ·exact g
   ·calc absurd (if_neg g) z
end
section
theorem LH{l:W.OpenLaw}{n k:Nat}{q:Program}{c:List Str}{p:(Str->Option Value)->Heap->Prop}{o:World->Heap->Prop}{d:DefRec}{K:Params->W.Frag}{CX:World->GH}{sp:World->Sp}{x:Str}
  (r:l.most=some n) (t:n<=sizeLine) (y:d.params.defaults=[]) (z:dH k callerA)
  (A:∀(w:World) (h:Heap),o w h->(K w.params).In h)
  (F:∀(w:World) (i:Str->Option Value) (j:Addr) (h:Heap),(K w.params).In h->h.Ns mainGlobals i->i d.name=some (.ref j)->
   ∃m:FuncData,(∀(s:Shared) (u:Value),BindsTo s m ⟨[u],[]⟩ [(x,u)])/\
    ∀base:Heap,(K w.params).In base->base.Ns mainGlobals i->ja l.prog w (K w.params) i base (CX w) k j m [x] (sp w))
  (u:∀(w:World) (H:Hp) (a:Addr) (h:List Int),h.length<=n->Qh H->aT (K w.params) H a (h.map V.int)->sp w [.ref a] H (λv _=>v=.bl true) λ_ _ _=>False)
  (k:∀(w:World) (H:Hp) (s:Shared) (e:Value) (s':Shared),CX w [] H s (λ_ _ _=>False) e s'->False):
  W.WalkO q c p o l.row.toRowW d [] (λf vs=>PySem.call f vs):=by
 calc Att.yi r y λw l f i v j o x B n a vs h G Y C D E p q d c s=>?_;have l:=A w _ Y;obtain⟨m,n,o⟩:=F w i j _ l G.T.g p;calc Hc l G.T.g G.T.b G.T.builtins G.T.nolimit s q d (aae c t) z o n (λH m r=>u w H a h c m r) λH e s'=>k w H f e s'
end
section
variable {f:Addr}{st:Stmt}{qual:Str}
def eP(s:Stmt):Arguments:=match s with
 | .FunctionDef _ a _ _ _ _ _ _ _ _=>a
 |_=>{posonlyargs:=[],args:=[],vararg:=none,kwonlyargs:=[],kw_defaults:=[],kwarg:=none,defaults:=[]}
def cB(s:Stmt):List Stmt:=match s with
 | .FunctionDef _ _ b _ _ _ _ _ _ _=>b
 |_=>[]
def aA(s:Stmt):Scope:=match s with
 | .FunctionDef _ _ _ _ _ _ a _ _ _=>a
 |_=>{kind:=.function,names:=[],isGenerator:=false,isCoroutine:=false}
abbrev ve:GH:=λ_ _ _ _ _ _=>False
abbrev E0:XK:=λ_ _ _=>False
theorem yj{X:Cx}:Passes ve X E0:=λ_ _ _ _ _ _ _ h=>h.elim
structure Fw(K:W.Frag)(x qual:Str)(st:Stmt)(f:Addr)(fd:FuncData):Prop where
 ex:∃(oc:Value) (od:Option Addr) (kV doc pm:Value) (an:Option Addr) (eA ct:Value) (Fv:Array (Option Value)),
  fd=W.fnOf x qual (eP st) (cB st) (aA st) .none kV doc pm an eA ct/\K.lookup f=some ⟨oc,od,.func fd,Fv⟩/\W.codeIn K eA qual=true
 kp:W.keepIn K (.ref f)=true
section
variable {P:Program}{w:World}{K:W.Frag}{mg:Str->Option Value}{base:Heap}
theorem Fw.ok{x:Str}{d:FuncData}{N b:List Str}{k:Nat}{sp:Sp}(F:Fw K x qual st f d)(S:aE N b (aA st))(c:∀vs H Q E,sp vs H Q E->vs.length=b.length)
  (e:∀(a:Value) (A:Around) (outer:List Env) (s:Shared) (H:Hp) (vs:List V) (Q:VK) (E:XK),dH k (A.deeper (envOfC qual (aA st) s.heap.objs.size f a))->sp vs H Q E->
   ∃t,rF (ie ve P w K mg base N qual (aA st) f a A outer s H E).xY (cB st) t/\t {nx:=λ_ g=>Q .bI g,rt:=Q} (start N vs) H):ja P w K mg base ve (k + 1) f d b sp:=by
 obtain⟨i,j,kV,h,l,m,a,n,o,rfl,b,d⟩:=F.ex;calc Nr b d S c λA outer s H vs Q E g i=>?_;obtain⟨t,h,q⟩:=e a A outer s H vs Q E g i;calc⟨t,h.xY,q⟩
theorem Fw.binds{x:Str}{g:FuncData}{b:List Str}(F:Fw K x qual st f g)
  (h:∀(kV a c:Value) (d:Option Addr) (e ct:Value) (us:List Value),us.length=b.length->bindArgs (W.fnOf x qual (eP st) (cB st) (aA st) .none kV a c d e ct) ⟨us,[]⟩=pure (b.zip us)):Binds K g b []:=by
 obtain⟨i,j,kV,a,c,d,e,ct,k,rfl,b,g⟩:=F.ex;calc .all (h kV a c d e ct)
theorem jX{x:Str}{g:Value}{od d:Option Addr}{h:Array (Option Value)}{kV a e b ct:Value}(l:K.lookup f=some ⟨g,od,.func (W.fnOf x qual (eP st) (cB st) (aA st) .none kV a e d b ct),h⟩)
  (c:W.codeIn K b qual=true) (k:W.keepIn K (.ref f)=true):Fw K x qual st f (W.fnOf x qual (eP st) (cB st) (aA st) .none kV a e d b ct):=⟨⟨g,od,kV,a,e,d,b,ct,h,rfl,l,c⟩,k⟩
end
theorem aI{n:Nat}(h:n<=1000):n<sizeLine:=aaU h ∅
section
variable {X:Cx}
theorem pv(i:Nat){x:Str}{a:Pos}(b:X.N[i]?=some x:=by rfl)(c:Up X.env.scope x:=by first|calc Or.inl rfl|calc Or.inr (Or.inl rfl)|calc Or.inr (Or.inr rfl))(d:(x==("__debug__":Str))=false:=by decide)
  (e:(x==("__classdict__":Str))=false:=by decide):PE X (.Name x a) (F8 i):=F9 b c d e
end
def au(H a:Hp):Prop:=∀b o,H b=some o->a b=some o
theorem au.refl(H:Hp):au H H:=λ_ _ h=>h
theorem au.trans{H c d:Hp}(a:au H c)(b:au c d):au H d:=λc o h=>b c o (a c o h)
theorem au.free{H a:Hp}(e:au H a){l:Addr}(h:a l=Option.none):H l=Option.none:=by
 cases q:H l with
 |none=>rfl
 |some o=>
  rw[e l o q]at h
  cases h
theorem au.seq{K:W.Frag}{H b:Hp}{a:Addr}{xs:List V}(e:au H b)(h:aT K H a xs):aT K b a xs:=by
 rcases h with(h|⟨o,h⟩)|h
 ·exact .inl (.inl (e _ _ h))
 ·exact .inl (.inr ⟨o,e _ _ h⟩)
 ·calc .inr h
end
end L2
set_option maxHeartbeats 4000000
namespace L2
open PySem PySem.Spec PyProof.Rows
section
variable {X:Cx}{H H₂:Hp}{pins:List (Addr×Obj)}{σ:St}
def mK(env:Env):List (Str×NameKind)->List (Str×Addr)->List (Str×Addr)
 | [],cs=>cs
 |(n,k)::r,cs=>mK env r (if k == .free then(n,(env.cells.lookup n).getD 0)::cs else cs)
theorem yk{env:Env}{x:Str}{c:Addr}:∀{l:List (Str×NameKind)}{cs:List (Str×Addr)},(x,c)∈mK env l cs->(x,c)∈cs\/((x,NameKind.free)∈l/\c=(env.cells.lookup x).getD 0)
 | [],cs,h=>.inl h
 |(n,k)::r,cs,h=>by
  unfold mK at h;rcases yk h with a|⟨a,g⟩
  ·by_cases b:(k == NameKind.free)=true
   ·rw[if_pos b] at a;have i:k=.free:=by simpa using b
    rcases List.mem_cons.mp a with e|e
    ·have d:=congrArg Prod.fst e;have f:=congrArg Prod.snd e;simp only at d f;subst d i;exact .inr ⟨aaD,f⟩
    ·exact .inl e
   ·rw[if_neg b]at a;exact .inl a
  ·calc .inr ⟨aav _ a,g⟩
theorem vf{env:Env}{p:Str×Addr}:∀{l:List (Str×NameKind)}{cs:List (Str×Addr)},p∈cs->p∈mK env l cs
 | [],_,h=>h
 |(n,k)::r,cs,h=>by
  unfold mK;calc vf ?_;split
  ·exact aav _ h
  ·calc h
theorem sh{env:Env}{x:Str}:∀{l:List (Str×NameKind)}{cs:List (Str×Addr)},(x,NameKind.free)∈l->(x,(env.cells.lookup x).getD 0)∈mK env l cs
 | [],_,h=>by simp at h
 |(n,k)::r,cs,h=>by
  unfold mK;rcases List.mem_cons.mp h with e|e
  ·have a:=congrArg Prod.fst e;have b:=congrArg Prod.snd e;simp only at a b;subst a b;calc vf ?_;rw[if_pos nofun];exact aaD
  ·calc sh e
theorem fE{β:Type}:∀{l:List (Str×β)}{x:Str}{c:β},(x,c)∈l->∃d,l.lookup x=some d
 | [],_,_,h=>by simp at h
 |(n,b)::r,x,c,h=>by
  by_cases e:x=n
  ·subst e;exact⟨b,nofun⟩
  ·have a:(x == n)=false:=beq_eq_false_iff_ne.mpr e;rcases List.mem_cons.mp h with q | q
   ·exact absurd (congrArg Prod.fst q) e
   ·obtain⟨d,b⟩:=fE q;calc⟨d,by simp only[List.lookup_cons,a];calc b⟩
theorem mG{scope:Scope}{env:Env}(h:∀x∈scope.names,x.2=.free->∃c,env.cells.lookup x.1=some c):closureFor scope env=pure (mK env scope.names []):=by
 unfold closureFor;have b:∀(l:List (Str×NameKind)) (a:List (Str×Addr)),(∀x ∈ l,x.2=.free->∃c,env.cells.lookup x.1=some c)->
   ((forIn l a λ(x:Str×NameKind) (r:List (Str×Addr))=>if (x.2==NameKind.free)=true then do let y <-cellOf env x.1;pure (ForInStep.yield ((x.1,y)::r)) else pure (ForInStep.yield r)):Sem (List (Str×Addr)))=pure (mK env l a):=by
  intro l;induction l with
  |nil=>intro a _;rfl
  |cons p r f=>
   intro a d;obtain⟨n,k⟩:=p;rw[List.forIn_cons];dsimp only;by_cases a:(k==NameKind.free)=true
   ·obtain⟨c,g⟩:=d (n,k) aaD (by simpa using a);have e:cellOf env n=pure c:=by unfold cellOf;rw[g]
    rw[if_pos a,e,pure_bind,pure_bind];dsimp only;rw[f _ λx c=>d x (List.mem_cons_of_mem _ c)];show _=pure (mK env r _);rw[if_pos a,g];rfl
   ·rw[if_neg a,pure_bind];dsimp only;rw[f _ λx c=>d x (List.mem_cons_of_mem _ c)];show _=pure (mK env r _);rw[if_neg a]
 have:=b scope.names [] h;simp only at this ⊢;rw[this,pure_bind]
def Ck(a:List Expr)(env:Env):Sem Bool:=forIn a true λc r=>if r=true then do let ok <-isTrue c env (eval c env);pure (ForInStep.yield ok) else pure (ForInStep.yield r)
def SU(X:Cx)(a:List Expr)(t:TT):Prop:=
 ∀(pins:List (Addr×Obj)) (s:Shared) (σ:St) (H:Hp) (Q:Bool->Hp->Prop),Inv X pins σ H s->t σ H Q->wpAny (model X.prog X.w) X.A (Ck a X.env) (TP X pins σ Q) X.xe s
def iX:TT:=λ_ H Q=>Q true H
theorem LI:SU X [] iX:=λ_ _ _ H _ I h=>L' ⟨H,I,h⟩
theorem jY{c:Expr}{t:TT}(h:PT X c t):SU X [c] t:=λpins s σ H Q I a=>wpAny_tests_one (h pins s σ H Q I a)
section
variable {prog:Program}{w:World}{A:Around}{R:Result->Shared->Prop}{s:Shared}
theorem wF{o a e:Expr}{p:List Expr}{scope:Scope}{t:Pos}{y q:Value}{env:Env}(I:Nat->Shared->Prop)
  (u:∀n s,I n s->wpAny (model prog w) A (pyNext y) (λr b=>match r with
   |none=>R (.ok .next) b
   | some v=>wpAny (model prog w) A (letOwnedTupleGo a y v) (λ_ f=>wpAny (model prog w) A (assign a env v) (λ_ g=>
     wpAny (model prog w) A (Ck p env) (λok c=>
      if ok=true then wpAny (model prog w) A (eval o env) (λx i=>
       wpAny (model prog w) A (call (.builtin "list.append") [q,x]) (λ_ j=>∃m,m < n/\I m j) (λ_ _=>False) i) (λ_ _=>False) c
      else ∃m,m < n/\I m c) (λ_ _=>False) g) (λ_ _=>False) f) (λ_ _=>False) b) (λ_ _=>False) s)
  (n:Nat) (h:I n s):
  codeAny (model prog w) A (.compLoop (.ListComp o [⟨a,e,p,0⟩] scope t) 0 y q env) R s:=by
 calc codeAny_loop rfl I (λn s m=>?_) n h;show wpAny _ A ((compTurn (.ListComp o [⟨a,e,p,0⟩] scope t) 0 y q env).onRaise (λx=>do noteFrame x env;theTreesLotGoes x)) _ _ s;calc wpAny_noted ?_;rw[compTurn_list];refine j' (wpAny_standAt (j' (aal (u n s m) (λr b k=>?_) λ_ _ d=>d.elim)))
 cases r with
 |none=>calc L' k
 |some v=>
  calc j' (aal k (λ_ f a=>?_) λ_ _ d=>d.elim);refine j' (aal a (λ_ g b=>j' (aal b (λok c l=>?_) λ_ _ d=>d.elim)) λ_ _ d=>d.elim)
  cases ok with
  |false=>calc L' ⟨rfl,l⟩
  |true=>
   calc j' (j' (aal l (λx i a=>j' (aal a (λ_ j b=>L' (L' ⟨rfl,b⟩)) λ_ _ d=>d.elim)) λ_ _ d=>d.elim))
end
def Eg(N N':List Str)(ix:List (Option Nat))(scope:Scope):Bool:=
 N'.length==ix.length&&(N'.zip ix).all λp=>match p.2 with|none=>true|some j=>N[j]? == some p.1&&scope.names.lookup p.1==some .free
def ug(ix:List (Option Nat))(σ:St):St:=ix.map λo=>match o with|none=>none|some j=>(σ[j]?).join
def freeOk(scope:Scope)(outer:Scope):Bool:=
 scope.names.all λx=>(x.2 != .cell)&&(x.2 != .free||(outer.names.lookup x.1==some .cell||outer.names.lookup x.1==some .free))&&(x.2 != .local||scope.names.lookup x.1==some .local)&&(x.2 != .free||scope.names.lookup x.1==some .free)
def UU(X:Cx)(scope:Scope)(C:Addr)(N':List Str)(a:Shared)(H₂:Hp)(b:List Addr):Cx:=
 {X with N:=N',s₀:=a,H₀:=H₂,env:=compEnvC scope (mK X.env scope.names []) C X.env,outer:=X.stack,stack:=X.stack,ex:=b,fn:=λ_=>false,pn:=[],xe:=λ_ _=>False}
theorem freeOk.at{scope outer:Scope}(h:freeOk scope outer=true){x:Str×NameKind}(e:x∈scope.names):x.2≠.cell/\(x.2=.free->outer.names.lookup x.1=some .cell\/outer.names.lookup x.1=some .free)/\(x.2=.local->scope.names.lookup x.1=some .local)/\(x.2=.free->scope.names.lookup x.1=some .free):=by
 have f:=List.all_eq_true.mp h x e;simp only[Bool.and_eq_true,Bool.or_eq_true,bne_iff_ne,ne_eq,beq_iff_eq]at f;obtain⟨⟨⟨a,b⟩,c⟩,d⟩:=f;calc⟨a,λe=>b.resolve_left λz=>z e,λe=>c.resolve_left λz=>z e,λe=>d.resolve_left λz=>z e⟩
theorem eX{scope:Scope}{env:Env}:∀{names:List (Str×NameKind)}{x:Str}{k:NameKind},
  (names.map λ(n,k)=>if (k==NameKind.free&&env.scope.kind == .function&&env.kindOf n==some .cell) then(n,NameKind.cell) else(n,k)).lookup x=some k->∃a,(x,a)∈names/\(k=a\/(k=.cell/\a=.free))
 | [],_,_,h=>by simp at h
 |(n,c)::r,x,k,h=>by
  rw[List.map_cons]at h;by_cases d:(c==NameKind.free&&env.scope.kind == .function&&env.kindOf n==some .cell)=true
  ·simp only[d,if_true] at h
   cases b:x==n with
   |true=>
    simp only[List.lookup_cons,b]at h;have e:x=n:=by simpa using b
    subst e;have g:c=.free:=by
     simp only[Bool.and_eq_true,beq_iff_eq]at d;exact d.1.1
    calc⟨c,aaD,.inr ⟨(Option.some.inj h).symm,g⟩⟩
   |false=>
    simp only[List.lookup_cons,b]at h;obtain⟨a,m,q⟩:=eX (scope:=scope) (env:=env) h;exact⟨a,aav _ m,q⟩
  ·dsimp only at h;rw[if_neg d] at h
   cases b:x==n with
   |true=>
    simp only[List.lookup_cons,b]at h;have e:x=n:=by simpa using b
    subst e;calc⟨c,aaD,.inl (Option.some.inj h).symm⟩
   |false=>
    simp only[List.lookup_cons,b]at h;obtain⟨a,m,q⟩:=eX (scope:=scope) (env:=env) h;calc⟨a,aav _ m,q⟩
section
variable {X:Cx}{scope:Scope}{C:Addr}{N':List Str}{s₂:Shared}{H₂:Hp}{fp:List Addr}{pins:List (Addr×Obj)}{σ:St}
theorem mh(I:Inv X pins σ H₂ s₂)(d:freeOk scope X.env.scope=true){x:Str}{c:Addr}(h:(mK X.env scope.names []).lookup x=some c):X.env.cells.lookup x=some c/\(x,NameKind.free)∈scope.names:=by
 rcases yk (aaQ h) with z|⟨a,b⟩
 ·simp at z
 ·have q:=(d |> λh=>freeOk.at h a).2.1 rfl;obtain⟨c,e⟩:=I.ok.has x q;rw[e]at b;calc⟨by rw[e,b];rfl,a⟩
theorem Qi(I:Inv X pins σ H₂ s₂)(d:freeOk scope X.env.scope=true)(s:scope.kind=.function)(n:s₂.heap.objs.size<=C)(f:∀b∈fp,pH X pins H₂ b)(t:∀b∈fp,∃o,s₂.heap.get? b=some o):(UU X scope C N' s₂ H₂ fp).Ok where
 mod:=I.ok.mod
 kind:=s
 glob:=I.ok.glob
 blt:=I.ok.blt
 above:=n
 inj:=λx y c s u=>I.ok.inj x y c (mh I d s).1 (mh I d u).1
 has:=λx h=>by
  have h:(relabel scope X.env).names.lookup x=some .cell\/(relabel scope X.env).names.lookup x=some .free:=h;have g:(x,NameKind.free)∈scope.names:=by
   rcases h with h|h
   ·obtain⟨v,m,q⟩:=eX (scope:=scope) h;rcases q with q | ⟨_,q⟩
    ·subst q;exact absurd rfl (freeOk.at d m).1
    ·subst q;exact m
   ·obtain⟨v,m,q⟩:=eX (scope:=scope) h;rcases q with q | ⟨q,_⟩
    ·subst q;exact m
    ·cases q
  exact fE (sh g)
 Ni:=λ_ _ h _=>absurd (show false=true from h) U'
 hd:=I.ok.hd
 frames:=I.ok.frames
 Pa:=.inl rfl
 SO:=λb a=>by
  obtain⟨o,g⟩:=t b a;obtain⟨p,i,j,k,l,r⟩:=f b a;calc⟨W' (R' (T' g) n),λx c h=>?_⟩;exact l x c (mh I d h).1
 bs:=I.bs
 BX:=aae I.ok.BX I.sz
 v8:=λb o e a=>by
  obtain⟨p,i,j,k,l,r⟩:=f b a;rcases k with z|z
  ·exact I.ok.v8 b o e z
  ·exact absurd (R' (R' (T' e) I.ok.BX) z) (aaK _)
 xW:=λb a z=>by
  obtain⟨p,i,j,k,l,r⟩:=f b a;rcases List.mem_cons.mp (I.v9 b z) with e|e
  ·exact i e
  ·exact j e
 mr:=I.stack
 F6:=I.rE
end
theorem Inv.less{a:St}{s:Shared}(I:Inv X pins σ H s)(b:a.length=σ.length)(h:∀(i:Nat) (v:V),a[i]?=some (some v)->σ[i]?=some (some v)):Inv X pins a H s:=
 ⟨I.ok,I.os,I.bare,I.base,(let ⟨m,a,c⟩:=I.loc;⟨m,a,λi x v d e f=>c i x v d (h i v e) f⟩),I.cell,I.free,I.ib,I.pin,I.aW,b.trans I.len⟩
def Ext(σ a:St):Prop:=a.length=σ.length/\∀(i:Nat) (v:V),σ[i]?=some (some v)->a[i]?=some (some v)
theorem Ext.refl(σ:St):Ext σ σ:=⟨rfl,λ_ _ h=>h⟩
theorem Ext.set{a:St}(h:Ext σ a){j:Nat}{w:Option V}(b:σ[j]?=some none):Ext σ (a.set j w):=by
 calc⟨by rw[List.length_set];calc h.1,λi v e=>?_⟩;have c:j≠i:=by rintro rfl;rw[b]at e;cases e
 rw[List.getElem?_set_ne c];calc h.2 i v e
theorem LJ(ix:List (Option Nat))(σ:St):(ug ix σ).length=ix.length:=by unfold ug;rw[List.length_map]
section
variable {X:Cx}{scope:Scope}{N':List Str}{ix:List (Option Nat)}{s₂ s₄:Shared}{H₂:Hp}{fp:List Addr}{pins:List (Addr×Obj)}{σ:St}{C D:Addr}{h₄:Heap}
theorem aau(I:Inv X pins σ H₂ s₂)(g:freeOk scope X.env.scope=true)(M:scope.kind=.function)(B:Eg X.N N' ix scope=true)(O:∀b∈fp,pH X pins H₂ b)(P:∀b∈fp,∃o,s₂.heap.get? b=some o)
  (l:s₂.heap.objs.size<=D) (p:s₂.heap.objs.size<=C) (R:D≠C) (S:h₄.Ns C (λ_=>none)) (n:∀b o,s₂.heap.get? b=some o->h₄.get? b=some o)
  (T:h₄.get? D=some {cls:=.type "list",data:=.seq ([]:List Value).toArray 0}) (t':Nat):
  Inv (UU X scope C N' s₂ H₂ fp) [] (ug ix σ) (upd H₂ D (.lst [])) {s₂ with heap:=h₄,toks:=t'}:=by
 have b:H₂ D=none:=I.aW.fresh l;have U:H₂ C=none:=I.aW.fresh p;have W:mB X.prog X.w (upd H₂ D (.lst [])) h₄:=I.aW.laid n l ⟨aab _,[],0,.nil,T⟩;refine⟨Qi I g M p O P,rfl,I.bare,Un.laid n l b,⟨_,S,λi x v y d Y=>?_⟩,λx c e=>?_,?_,λx c e=>?_,λp b=>absurd (show p∈([]:List (Addr×Obj)) from b) nofun,W,?_⟩
 ·have a:=B;unfold Eg at a;rw[Bool.and_eq_true] at a;have b:N'.length=ix.length:=by simpa using a.1
  have b:i<N'.length:=(List.getElem?_eq_some_iff.mp y).1;unfold ug at d;rw[List.getElem?_map]at d
  cases q:ix[i]? with
  |none=>rw[q]at d;cases d
  |some o=>
   rw[q]at d
   cases o with
   |none=>cases d
   |some j=>
    have o:(x,some j)∈N'.zip ix:=by
     calc aaf (i:=i) ?_;rw[List.getElem?_zip_eq_some];exact⟨y,q⟩
    have b:=List.all_eq_true.mp a.2 _ o;simp only[Bool.and_eq_true,beq_iff_eq]at b;obtain⟨t,F⟩:=b;have m:(σ[j]?).join=some v:=by simpa using d
    have Z:σ[j]?=some (some v):=by
     cases z:σ[j]? with
     |none=>rw[z]at m;cases m
     |some y=>rw[z]at m;exact congrArg some m
    have G:(x,NameKind.free)∈scope.names:=aaQ F;have J:=(freeOk.at g G).2.1 rfl;obtain⟨m,b,hv⟩:=I.loc;obtain⟨u,ru,lk⟩:=hv j x v t Z (by rcases J with z|z;calc .inr (.inl z);calc .inr (.inr z));refine⟨u,ru,.inr ⟨?_,?_⟩⟩
    ·rcases Y with z | z | z
     ·obtain⟨b,m',k⟩:=eX (scope:=scope) (env:=X.env) (show(relabel scope X.env).names.lookup x=some .local from z);rcases k with k | ⟨k,_⟩
      ·subst k;have:=(freeOk.at g m').2.2.1 rfl;rw[F]at this;cases this
      ·cases k
     ·exact .inl z
     ·exact .inr z
    ·rcases lk with⟨r,_⟩ | ⟨_,c,l2,l3⟩
     ·have r:X.env.scope.names.lookup x=some .local:=r;rcases J with z | z
      ·rw[r]at z;cases z
      ·rw[r]at z;cases z
     ·obtain⟨b,K⟩:=fE (sh (env:=X.env) (cs:=[]) G);have L:=(mh I g K).1;rw[l2]at L;have e7:c=b:=Option.some.inj L;subst e7;exact⟨c,K,l3.keeps n⟩
 ·obtain⟨v,z⟩:=I.cell x c (mh I g e).1;exact⟨v,z.keeps n⟩
 ·show upd H₂ D (.lst []) C=none;rw[ay (Ne.symm R)];exact U
 ·show upd H₂ D (.lst []) c=none;have b:=(mh I g e).1;obtain⟨v,z⟩:=I.cell x c b;have:c≠D:=W' (R' z.lt l);rw[ay this];exact I.ib x c b
 ·rw[LJ];have a:=B;unfold Eg at a;rw[Bool.and_eq_true] at a;have:N'.length=ix.length:=by simpa using a.1
  calc this.symm
end
def kN(ix:List (Option Nat))(J:It)(g:TG)(d:TT)(e:TE)(σ:St)(a:Hp)(Q:VK)(D:Addr):Prop:=
 ∃W:Nat->Nat->Hp->Prop,(∃m,W 0 m (upd a D (.lst [])))/\∀i m H,W i m H->
  (J.stop i H/\Q (.ref D) H)\/(J.go i H/\∃N:Hp->Prop,(∀b,N b->∃c,c < m/\W (i + 1) c b)/\∀x b,J.Nq i H x b->g x (ug ix σ) b λa f=>Ext (ug ix σ) a/\d a f λb c=>
   if b=true then e a c λy d=>∃a,d D=some (.lst a)/\a.length < sizeLine/\N (upd d D (.lst (a++[y]))) else N c)
def UY(ix:List (Option Nat))(b:TI)(g:TG)(c:TT)(d:TE):TE:=λσ H Q=>b σ H λJ a=>∀D,a D=none->kN ix J g c d σ a Q D
abbrev uh(X:Cx)(scope:Scope)(N':List Str)(F:Cx->Prop):Prop:=∀(C:Addr) (a:Shared) (H₂:Hp) (b:List Addr),F (UU X scope C N' a H₂ b)
section
variable {X:Cx}{elt target iter:Expr}{ifs:List Expr}{scope:Scope}{pos:Pos}{N':List Str}{ix:List (Option Nat)}{wi:TI}{g:TG}{tt:TT}{te:TE}
theorem ym{a:Shared}{it:Addr}{l:List Addr}{S:Nat->Heap->Prop}{J:It}{QD:Addr->Hp->Prop}{RR:Value->Addr->Result->Shared->Prop}{E:Value->Shared->Prop}
  (LK:X.calm=true) (hf:freeOk scope X.env.scope=true) (hk:scope.kind=.function) (hx:Eg X.N N' ix scope=true)
  (hg:uh X scope N' λY=>PG Y target g) (ht:uh X scope N' λY=>SU Y ifs tt) (he:uh X scope N' λY=>PE Y elt te)
  (I:Inv X pins σ H₂ a) (T:Turn X.prog X.w X.K target J l it S) (st:S 0 a.heap) (KI:∀b∈l,pH X pins H₂ b)
  (hw:∀D,H₂ D=none->∃W:Nat->Nat->Hp->Prop,(∃m,W 0 m (upd H₂ D (.lst [])))/\∀i m H,W i m H->
   (J.stop i H/\QD D H)\/(J.go i H/\∃N:Hp->Prop,(∀d,N d->∃B,B < m/\W (i + 1) B d)/\∀x d,J.Nq i H x d->g x (ug ix σ) d λp C=>Ext (ug ix σ) p/\tt p C λb L=>
    if b=true then te p L λy C=>∃U,C D=some (.lst U)/\U.length < sizeLine/\N (upd C D (.lst (U++[y]))) else N L))
  (hRR:∀(D C:Addr) (s':Shared) (d:Hp) (m:Str->Option Value),a.heap.objs.size<=C->d C=none->C∉xM X.stack->s'.heap.Ns C m->(∃o,s'.heap.get? C=some o/\∀v,o.data≠.cell v)->Inv X pins σ d s'->QD D d->RR (.ref D) C (.ok .next) s'):
  wpAny (model X.prog X.w) X.A (newList []) (λp j=>wpAny (model X.prog X.w) X.A (newFunctionEnv scope X.env.globals (mK X.env scope.names []) [] X.env.qual none .none (some X.env)) (λJ C=>
   codeAny (model X.prog X.w) X.A (.compStart (.ListComp elt [⟨target,iter,ifs,0⟩] scope pos) 0 (.ref it) p {J with scope:=relabel scope X.env}) (RR p J.locals) C) E j) E a:=by
 calc aaO (wpAny_newFunctionEnv (λx hx=>(freeOk.at hf hx).1) (by intro y p;simp at p) (λk Qk LL=>?_) hk);dsimp only at Qk LL ⊢;generalize p:a.heap.push {cls:=.type "list",dict:=none,data:=.seq ([]:List Value).toArray}=P2 at Qk LL ⊢;have C:P2.objs.size=a.heap.objs.size+1:=by rw[<-p,Heap.size_push]
 have N:a.heap.objs.size≠P2.objs.size:=by rw[C];exact W' (Nat.lt_succ_self _)
 have M:a.heap.objs.size<=P2.objs.size:=by rw[C];exact Nat.le_succ _
 have Z:∀b o,a.heap.get? b=some o->k.get? b=some o:=λb o e=>LL.extBut b o (W' (R' (T' e) M)) (J' _ (p▸J' _ e));have C:k.get? a.heap.objs.size=some {cls:=.type "list",data:=.seq ([]:List Value).toArray 0}:=LL.extBut _ _ N (J' _ (p▸V' _ rfl));have J:∀b∈l,∃o,a.heap.get? b=some o:=λb c=>let ⟨o,e,_⟩:=T.obj _ _ st b c;⟨o,e⟩
 have p:a.heap.get? P2.objs.size=none:=Heap.get?_none_of_le M;have p:H₂ a.heap.objs.size=none:=I.aW.fresh (K' _);obtain⟨W,⟨m0,w0⟩,turn⟩:=hw a.heap.objs.size p;have fpD:∀b∈l,b≠a.heap.objs.size:=λb c=>let ⟨o,e⟩:=J b c;W' (T' e)
 have fpC:∀b∈l,b≠P2.objs.size:=λb c=>let ⟨o,e⟩:=J b c;W' (R' (T' e) M)
 let Y:=UU X scope P2.objs.size N' a H₂ l
 have hcY:Y.calm=true:=LK;have I0:Inv Y [] (ug ix σ) (upd H₂ a.heap.objs.size (.lst [])) {a with heap:=k,toks:=a.toks+([]:List (Str×Value)).length}:=
  aau I hf hk hx KI J (K' _) M N (by simpa using Qk) Z C _
 have Pb:P2.objs.size∉xM X.stack:=λz=>by
  rcases List.mem_cons.mp (I.v9 _ z) with e|e
  ·exact absurd I.lt (by rw[<-e];calc Nat.not_lt.mpr M)
  ·exact I.Pc M e
 have Ap:∀{d:Hp},(∀b∈l,d b=none)->∀b∈l,pH Y [] d b:=λhn b c=>by
  obtain⟨f0,f1,f2,f3,f4,f5⟩:=KI b c;refine⟨hn b c,fpC b c,I0.ok.xW b c,.inl c,(I0.ok.SO b c).2,λp C=>absurd (show p∈([]:List (Addr×Obj)) from C) nofun⟩
 have U3:S 0 k:=T.keep _ _ _ st λb _ o e=>Z b o e;have G:∀j:Shared,j={a with heap:=k,toks:=a.toks + ([]:List (Str×Value)).length}->
   codeAny (model X.prog X.w) X.A (.compLoop (.ListComp elt [⟨target,iter,ifs,0⟩] scope pos) 0 (.ref it) (.ref a.heap.objs.size) (compEnvC scope (mK X.env scope.names []) P2.objs.size X.env))
    (RR (.ref a.heap.objs.size) P2.objs.size) j:=by
  rintro j rfl;calc wF (λn s'=>∃i d,Inv Y [] (ug ix σ) d s'/\S i s'.heap/\(∀b∈l,d b=none)/\W i n d) ?_ m0 ⟨0,_,I0,U3,λb c=>by rw[ay (fpD b c)];calc(KI b c).1,w0⟩;rintro n s3 ⟨i,L,I3,pw,Ut,w3⟩;rcases turn i n L w3 with⟨stop,qn⟩|⟨go,Nn,hNn,step⟩
  ·calc cK (T.done Y rfl rfl rfl hcY i [] s3 _ L _ I3 (Ap Ut) pw stop) λr s4 q=>?_;obtain⟨hr,O⟩:=q;subst hr;obtain⟨m,hn,_⟩:=O.loc;refine hRR _ _ s4 L m M O.free Pb hn ?_ ?_ qn
   ·obtain⟨o,k,p,j,hd,_⟩:=hn;exact⟨o,j,λv z=>by rw[hd]at z;cases z⟩
   ·refine I.Nm (s':=s4) (ch:=l) O.os ?_ O.aW O.bare λb c=>?_
    ·exact O.base
    ·obtain⟨f0,f1,f2,f3,f4,f5⟩:=KI b c;exact⟨f3,f1,f4,f5⟩
  ·calc cK (T.item Y rfl rfl rfl hcY i [] s3 _ L _ I3 (Ap Ut) pw go) λr s4 q=>?_;obtain⟨u,hr,h4⟩:=q;subst hr;calc cK h4 λ_ s5 q=>?_;obtain⟨x,j,p,r,v,k,z⟩:=q;have C:=p.pinned (Ap z) (T.obj _ _ k);calc cK (hg _ _ _ _ _ s5 _ j x u _ C r (step x j v)) λ_ I q=>?_;obtain⟨F,p,r,j,u⟩:=q;calc cK (ht _ _ _ _ _ I F p _ r u) λok s7 q=>?_;obtain⟨H7,I7,q7⟩:=q;have t:∀{P:Shared} {R:Hp} {B:Nat},Inv Y ([]++pI l s5.heap) F R P->B<n->W (i+1) B R->∃m,m<n/\∃i d,Inv Y [] (ug ix σ) d P/\S i P.heap/\(∀b∈l,d b=none)/\W i m d:=λ{P R B} I8 hm w8=>by
    calc⟨B,hm,i+1,R,(I8.kI).less j.1.symm j.2,T.keep _ _ _ k λb c o e=>(I8.pin (b,o) (aac _ (aac _ (jW c e)))).1,λb c=>?_,w8⟩;obtain⟨o,e,d⟩:=T.obj _ _ k b c;exact(I8.pin (b,o) (aac _ (aac _ (jW c e)))).2.1
   cases ok with
   |false=>
    rw[if_neg Bool.false_ne_true]at q7 ⊢;obtain⟨B,hm,w8⟩:=hNn _ q7;calc t I7 hm w8
   |true=>
    rw[if_pos rfl] at q7 ⊢;calc cK (he _ _ _ _ _ s7 F H7 _ I7 q7) λy P q=>?_;obtain⟨b,R,I8,d,U,e,i,j⟩:=q;have k:=(u7 (X:=Y)) (pins:=[]++pI l s5.heap) P F R (.ref a.heap.objs.size) [b] (.ref a.heap.objs.size) [y] (λ_ c=>Nn c) I8 rfl (.cons d .nil)
     ⟨_,U,b,rfl,rfl,e,i,j⟩
    exact cK k λ_ d ⟨_,c,a,_,b⟩=>let ⟨B,hm,c⟩:=hNn _ b;t a hm c
 calc codeAny_compStart_list (G _ rfl) (T.self _ 0 _ _ _ U3 (G _ rfl))
theorem Inv.aaz{s b:Shared}{C:Addr}{h':Heap}(a:Inv X pins σ H₂ b)(I:Inv X pins σ H s)(d:b.heap.objs.size<=C)(f:H C=none)(g:Heap.SameBut C s.heap h'):Inv X pins σ H {s with heap:=h'}:=by
 refine I.turned (t':=s.toks) (λb o h e=>(g.2 b h).trans e) f (Nat.ne_of_gt (R' a.lt d)) (.inr (aae a.sz d)) (λx c e z=>?_) λp b z=>?_
 ·obtain⟨v,q⟩:=a.cell x c e;exact absurd (R' q.lt (by rw[z];calc d)) (aaK _)
 ·calc absurd (R' (T' (a.pin p b).1) (by rw[z];calc d)) (aaK _)
theorem dJ
  (l:PI X target iter wi) (n:uh X scope N' λY=>PG Y target g) (o:uh X scope N' λY=>SU Y ifs tt) (a:uh X scope N' λY=>PE Y elt te)
  (p:X.calm=true:=by rfl) (f:freeOk scope X.env.scope=true:=by kernel_rfl) (i:scope.kind=.function:=by rfl) (b:Eg X.N N' ix scope=true:=by kernel_rfl) (j:∀x,foldedSetIterable iter X.env x=pure x:=by intro _;rfl):PE X (.ListComp elt [⟨target,iter,ifs,0⟩] scope pos) (UY ix wi g tt te):=by
 walk_at "xc";rw[eval_ListComp];have m:∀x∈scope.names,x.2=.free->∃c,X.env.cells.lookup x.1=some c:=λx b a=>I.ok.has x.1 ((freeOk.at f b).2.1 a);refine wpAny_comprehension_free (use:=none) rfl j (mG m) i (λx b a=>(freeOk.at f b).2.2.1 a) (aal (l pins s σ H _ I h) (λm j c=>aal c (λl j d=>?_) λ_ _ e=>e) λ_ _ e=>e);obtain⟨c,j,l,J,m,e,k,T,r,t,u⟩:=d;subst e;refine ym (RR:=λc C=>compPost (model X.prog X.w) X.A X.xe none (EP X pins σ Q) c C) (QD:=λD c=>Q (.ref D) c) p f i b n o a k T r t u ?_;intro D C x c m d e y j z l q;exact⟨m,j,λB v=>⟨.ref D,c,k.aaz l d e v,rfl,q⟩⟩
theorem ig{i:Nat}{y:Str}{d S:Pos}(hN:X.N.Nodup)(F:X.N[i]?=some y)(hy:Loc X.env.scope y)
  (hi:PI X target iter wi) (hg:uh X scope N' λY=>PG Y target g) (ht:uh X scope N' λY=>SU Y ifs tt) (j:uh X scope N' λY=>PE Y elt te)
  (G:swapsWith (.ListComp elt [⟨target,iter,ifs,0⟩] scope pos) (some (.Name y d)) S.line X.env=pure true:=by rfl)
  (LK:X.calm=true:=by rfl) (K:freeOk scope X.env.scope=true:=by kernel_rfl) (U:scope.kind=.function:=by rfl) (k:Eg X.N N' ix scope=true:=by kernel_rfl) (hs:∀x,foldedSetIterable iter X.env x=pure x:=by intro _;rfl) (Pd:X.fn y=true\/X.env.scope.names.lookup y=some .local:=by grind):
  PS X (.Assign [.Name y d] (.ListComp elt [⟨target,iter,ifs,0⟩] scope pos) S) (Am (UY ix wi g tt te) (fK i)):=by
 walk_at "xd";rw[exec_Assign_Name_used _ _ _ _ G];refine j' (wpAny_standAt (j' ?_));show wpAny _ X.A (do let _ <-comprehension (.ListComp elt [⟨target,iter,ifs,0⟩] scope pos) scope X.env _ (newList []) false (eval iter X.env) (some (assign (.Name y d) X.env))) _ _ s;have U4:∀x ∈ scope.names,x.2=.free->∃c,X.env.cells.lookup x.1=some c:=λx k j=>I.ok.has x.1 ((freeOk.at K k).2.1 j);refine j' (aal (wpAny_comprehension_free (use:=some (assign (.Name y d) X.env)) (Q:=λ_ a=>SP X pins D .next a) rfl hs (mG U4) U (λx k j=>(freeOk.at K k).2.2.1 j)
  (aal (hi pins s σ H _ I h) (λxv W l=>aal l (λYC Z n=>?_) λ_ _ e=>e) λ_ _ e=>e)) (λ_ a hq=>L' (L' hq)) λ_ _ e=>e)
 obtain⟨it,fp,tn,J,H2,e,f,T,B1,f2,hw⟩:=n;subst e;calc ym (RR:=λL C=>compPost (model X.prog X.w) X.A X.xe (some (assign (.Name y d) X.env)) (λ_ a=>SP X pins D .next a) L C) (QD:=λr t=>D.nx (σ.set i (some (.ref r))) t) LK K U k hg ht j f T B1 f2 hw ?_;intro r C a t m u UW Fx hn E I' q;obtain⟨o,E,Yz⟩:=E;show wpAny _ X.A (assign (.Name y d) X.env (.ref r)) _ _ a;have B:C≠X.env.locals:=Nat.ne_of_gt (R' f.lt u);have M:C∉X.fs:=f.Pc u;have O:Inv X (pins++[(C,o)]) σ t a:=I'.wa λp P=>(List.mem_append.mp P).elim (λz=>I'.pin p (aac _ z)) λz=>by
  have z':p=(C,o):=by simpa using z
  subst z';exact⟨E,UW,B,M,Yz⟩
 calc wpAny_assign_Name (ic O hN F hy (v:=.ref r) rfl (λs3 I3=>?_) Pd);obtain⟨e3,n3,_⟩:=I3.pin (C,o) (aac _ (aac _ nofun));obtain⟨o',es,ep,ky,r'⟩:=hn;rw[E]at ky;cases ky;have R:Inv X pins (σ.set i (some (.ref r))) t s3:=I3.kI;calc⟨m,⟨o,es,ep,e3,r'⟩,λh' U5=>⟨_,t,?_,q⟩⟩;refine R.turned (t':=s3.toks) (λb o hb e=>(U5.2 b hb).trans e) n3 B (.inr (aae f.sz u)) (λx c e z=>?_) λp P z=>?_
 ·obtain⟨v,q⟩:=f.cell x c e;exact absurd (R' q.lt (by rw[z];calc u)) (aaK _)
 ·calc absurd (R' (T' (f.pin p P).1) (by rw[z];calc u)) (aaK _)
end
def YL(b:Nat->List V->Hp->Prop)(D:Addr)(i:Nat)(H:Hp):Prop:=∃a,H D=some (.lst a)/\a.length<=i+1/\b (i+1) a H
theorem cD{c:Nat->List V->Hp->Prop}{D:Addr}{i n:Nat}{a:List V}{y:V}(d:H D=some (.lst a))(b:a.length<=i)(e:i<n)(f:n<=sizeLine)(h:c (i+1) (a++[y]) (upd H D (.lst (a++[y])))):
  ∃b,H D=some (.lst b)/\b.length<sizeLine/\YL c D i (upd H D (.lst (b++[y]))):=
 ⟨a,d,(),a++[y],af,by rw[List.length_append,List.length_singleton];lia,h⟩
theorem bE{ix:List (Option Nat)}{J:It}{n:Nat}{g:TG}{c:TT}{k:TE}{l:Hp}{Q:VK}{D:Addr}(f:Nat->List V->Hp->Prop)(a:n<=sizeLine)(t:f 0 [] (upd l D (.lst [])))
  (u:∀i d H,i<n->f i d H->J.go i H) (v:∀d H,f n d H->J.stop n H)
  (w:∀i d H,i < n->H D=some (.lst d)->d.length<=i->f i d H->∀x h,J.Nq i H x h->g x (ug ix σ) h λa q=>Ext (ug ix σ) a/\c a q λb o=>
   if b=true then k a o λy q=>∃j,q D=some (.lst j)/\j.length < sizeLine/\YL f D i (upd q D (.lst (j++[y]))) else YL f D i o)
  (z:∀d H,H D=some (.lst d)->d.length<=n->f n d H->Q (.ref D) H):
  kN ix J g c k σ l Q D:=by
 calc⟨λi m H=>m=n-i/\i<=n/\∃d,H D=some (.lst d)/\d.length<=i/\f i d H,⟨n,nofun,aab _,[],af,K' _,t⟩,?_⟩;rintro i m H ⟨rfl,a,d,r,s,p⟩;by_cases g:i<n
 ·exact .inr ⟨u i d H g p,YL f D i,λh ⟨j,a,b,c⟩=>⟨n-(i+1),(),rfl,g,j,a,b,c⟩,λx h y=>w i d H g r s p x h y⟩
 ·have e:i=n:=by lia
  subst e;calc .inl ⟨v d H p,z d H r s p⟩
end
section
section
variable {X:Cx}
def He(i j:Int):Prop:=0<j/\j.natAbs.log2<9000
theorem Hf:fQ X (binaryOp .FloorDiv) (rI He λi j=>.int (i/j)):=YD λi j _ _ _ _ _ a q=>by
 have b:(0:Int)<j:=a.1;calc floordiv_int () (by rw[Int.fdiv_eq_ediv_of_nonneg i ()];calc q) (.inl (PyProof.noPylong_of_log2 a.2))
def uI(C:Int->Int->Prop)(g:Int->Int->V):R2:=λx y H Q=>match x,y with
 | .int i,.int j=>C i j/\Q (g i j) H
 |_,_=>False
def Ql(g:Int->Int->V):R2:=λx y H Q=>match x,y with
 | .int i,.int j=>Q (g i j) H
 |_,_=>False
theorem YM{f:Value->Value->Sem Value}{C:Int->Int->Prop}{g:Int->Int->V}(h:fQ X f (rI C g)):fQ X f (uI C g):=by
 intro a s σ H x y v u Q I b c q
 cases x<;>cases y<;>first
  |calc(show False from q).elim
  |calc h a s σ H _ _ v u Q I b c ⟨_,_,rfl,rfl,q.1,q.2⟩
theorem Hg{f:Value->Value->Sem Value}{g:Int->Int->V}(h:fQ X f (Lf g)):fQ X f (Ql g):=by
 intro a s σ H x y v u Q I b c q
 cases x<;>cases y<;>first
  |calc(show False from q).elim
  |calc h a s σ H _ _ v u Q I b c ⟨_,_,rfl,rfl,q⟩
theorem dI:fQ X (binaryOp .Sub) (Ql λi j=>.int (i-j)):=Hg Py
theorem mi:fQ X (binaryOp .Mult) (uI Gx λi j=>.int (i*j)):=YM Pz
theorem ck:fQ X (binaryOp .Mod) (uI (λ_ j=>0<j) λi j=>.int (i%j)):=YM PB
theorem dD:fQ X (binaryOp .FloorDiv) (uI He λi j=>.int (i/j)):=YM Hf
theorem mj:fQ X (binaryOp .Pow) (uI Lh λi j=>.int (i^j.toNat)):=YM PD
theorem fm:fQ X (compareOp .Lt) (Ql λi j=>.bl (decide (i<j))):=Hg Ux
theorem wG:fQ X (compareOp .LtE) (Ql λi j=>.bl (decide (i<=j))):=Hg Uy
theorem mL:fQ X (compareOp .Gt) (Ql λi j=>.bl (decide (j<i))):=Hg Uz
theorem wH:fQ X (compareOp .GtE) (Ql λi j=>.bl (decide (j<=i))):=Hg UA
def kO(K:W.Frag)(H:Hp):Nat->V->V->Prop
 |0,_,_=>False
 |n+1,x,y=>(x=y/\fT x=true)\/∃a b xs c,x=.ref a/\y=.ref b/\((bJ K H a xs/\bJ K H b c)\/(aT K H a xs/\aT K H b c))/\xs.length=c.length/\∀(i:Nat) u v,xs[i]?=some u->c[i]?=some v->kO K H n u v
theorem in1_units(A:Around):A.in1.units=A.units+1:=rfl
theorem oB{pins:List (Addr×Obj)}{σ:St}{H:Hp}{s:Shared}(I:Inv X pins σ H s):∀(n:Nat) (A:Around) {x y:V}{u v:Value},kO X.K H n x y->A.units+n<cLine->RelV x u->RelV y v->SeqAt.EqAt A s u v true
 |0,_,_,_,_,_,h,_,_,_=>h.elim
 |n+1,A,x,y,u,v,h,o,c,d=>by
  rcases h with⟨e,f⟩|⟨a,b,J,L,j,l,m,o,M⟩
  ·subst e;have q:=AF (A:=A) (s:=s) c d f f;have g:xN x x=true:=by cases x <;> first | rfl | calc absurd (show false=true from f) U' | simp[xN]
   rw[g]at q;exact q
  ·subst j l
   cases c
   cases d;by_cases k:a=b
   ·subst k;exact SeqAt.EqAt.same _
   rcases m with⟨o,p⟩|⟨o,p⟩
   ·obtain⟨c,h,q,H⟩:=I.tuple o;obtain⟨f,l,r,N⟩:=I.tuple p;have O:=h.length;have P:=l.length;have t:c.toArray.size=f.toArray.size:=by simp;lia
    have d:=SeqAt.RcAt.tuples (A:=A) (e:=λ_=>true) (show s.heap.IsTuple a c.toArray from q) (show s.heap.IsTuple b f.toArray from r) () λj u v=>by
     have w:j<c.length:=by simpa using u
     have y:j<f.length:=by simpa using v
     obtain⟨z,m,B⟩:=h.get (i:=j) (x:=J[j]'()) nofun;obtain⟨C,g,D⟩:=l.get (i:=j) (x:=L[j]'()) nofun;have E:c.toArray[j]=z:=by
      have:=di w;rw[this]at m;simpa using Option.some.inj m
     have F:f.toArray[j]=C:=by
      have:=di y;rw[this]at g;simpa using Option.some.inj g
     rw[E,F];exact oB I n A.in1 (M j _ _ nofun nofun) (by rw[in1_units];lia) B D
    have G:SeqAt.RcAt A s (.ref a) (.ref b) true:=by
     have:((List.range (min c.toArray.size f.toArray.size)).all (λ_=>true)&&c.toArray.size==f.toArray.size)=true:=by
      rw[t];simp
     rw[this]at d;exact d
    exact SeqAt.EqAt.of_refs k G
   ·obtain⟨c,h,q,H⟩:=I.list o;obtain⟨f,l,r,N⟩:=I.list p;have O:=h.length;have P:=l.length;have t:c.toArray.size=f.toArray.size:=by simp;lia
    have d:=SeqAt.RcAt.lists (A:=A) (e:=λ_=>true) q.isList r.isList t () λj u v=>by
     have w:j<c.length:=by simpa using u
     have y:j<f.length:=by simpa using v
     obtain⟨z,m,B⟩:=h.get (i:=j) (x:=J[j]'()) nofun;obtain⟨C,g,D⟩:=l.get (i:=j) (x:=L[j]'()) nofun;have E:c.toArray[j]=z:=by
      have:=di w;rw[this]at m;simpa using Option.some.inj m
     have F:f.toArray[j]=C:=by
      have:=di y;rw[this]at g;simpa using Option.some.inj g
     rw[E,F];exact oB I n A.in1 (M j _ _ nofun nofun) (by rw[in1_units];lia) B D
    have G:SeqAt.RcAt A s (.ref a) (.ref b) true:=by
     have:((List.range c.toArray.size).all (λ_=>true))=true:=by simp
     rw[this]at d;exact d
    calc SeqAt.EqAt.of_refs k G
end
end
section
variable {pins:List (Addr×Obj)}{σ:St}
section
variable {X:Cx}
theorem Hh{H:Hp}{s:Shared}(I:Inv X pins σ H s){A:Around}{n:Nat}{a b:Addr}(h:kO X.K H (n+1) (.ref a) (.ref b))(f:A.units+n+1<cLine):
  SeqAt.RcAt A s (.ref a) (.ref b) true/\SeqAt.RcNeAt A s (.ref a) (.ref b) false:=by
 rcases h with⟨e,f⟩|⟨g,k,J,L,c,d,j,l,M⟩
 ·exact absurd (show false=true from f) U'
 ·cases c
  cases d;rcases j with⟨g,h⟩|⟨g,h⟩
  ·obtain⟨d,k,l,H⟩:=I.tuple g;obtain⟨f,m,o,N⟩:=I.tuple h;have O:=k.length;have P:=m.length;have u:d.toArray.size=f.toArray.size:=by simp;lia
   have c:∀j (g:j<d.toArray.size) (h:j<f.toArray.size),SeqAt.EqAt A.in1 s d.toArray[j] f.toArray[j] ((λ_=>true) j):=λj v w=>by
    have y:j<d.length:=by simpa using v
    have z:j<f.length:=by simpa using w
    obtain⟨B,p,C⟩:=k.get (i:=j) (x:=J[j]'()) nofun;obtain⟨D,q,E⟩:=m.get (i:=j) (x:=L[j]'()) nofun;have F:d.toArray[j]=B:=by
     have:=di y;rw[this]at p;simpa using Option.some.inj p
    have G:f.toArray[j]=D:=by
     have:=di z;rw[this]at q;simpa using Option.some.inj q
    rw[F,G];exact oB I n A.in1 (M j _ _ nofun nofun) (by rw[in1_units];lia) C E
   have e:((List.range (min d.toArray.size f.toArray.size)).all (λ_=>true)&&d.toArray.size==f.toArray.size)=true:=by
    rw[u];simp
   have r:=SeqAt.RcAt.tuples (A:=A) (show s.heap.IsTuple a d.toArray from l) (show s.heap.IsTuple b f.toArray from o) () c;have t:=SeqAt.RcNeAt.tuples (A:=A) (show s.heap.IsTuple a d.toArray from l) (show s.heap.IsTuple b f.toArray from o) () c;rw[e]at r t;exact⟨r,t⟩
  ·obtain⟨d,k,l,H⟩:=I.list g;obtain⟨f,m,o,N⟩:=I.list h;have O:=k.length;have P:=m.length;have u:d.toArray.size=f.toArray.size:=by simp;lia
   have c:∀j (g:j<d.toArray.size) (h:j<f.toArray.size),SeqAt.EqAt A.in1 s d.toArray[j] f.toArray[j] ((λ_=>true) j):=λj v w=>by
    have y:j<d.length:=by simpa using v
    have z:j<f.length:=by simpa using w
    obtain⟨B,p,C⟩:=k.get (i:=j) (x:=J[j]'()) nofun;obtain⟨D,q,E⟩:=m.get (i:=j) (x:=L[j]'()) nofun;have F:d.toArray[j]=B:=by
     have:=di y;rw[this]at p;simpa using Option.some.inj p
    have G:f.toArray[j]=D:=by
     have:=di z;rw[this]at q;simpa using Option.some.inj q
    rw[F,G];exact oB I n A.in1 (M j _ _ nofun nofun) (by rw[in1_units];lia) C E
   have e:(List.range d.toArray.size).all (λ_=>true)=true:=by simp
   have r:=SeqAt.RcAt.lists (A:=A) l.isList o.isList u () c;have t:=SeqAt.RcNeAt.lists (A:=A) l.isList o.isList u () c;rw[e]at r t;calc⟨r,t⟩
def sj(K:W.Frag)(H:Hp)(a b:Addr):Prop:=∃xs c,xs.length≠c.length/\((aT K H a xs/\aT K H b c)\/(bJ K H a xs/\bJ K H b c/\(xs=[]\/c=[])))
theorem Cm{H:Hp}{s:Shared}(I:Inv X pins σ H s){A:Around}{a b:Addr}(h:sj X.K H a b)(k:A.units<cLine):
  SeqAt.RcAt A s (.ref a) (.ref b) false/\SeqAt.RcNeAt A s (.ref a) (.ref b) true:=by
 obtain⟨j,n,r,⟨l,m⟩|⟨l,m,q⟩⟩:=h
 ·obtain⟨d,h,g,r⟩:=I.list l;obtain⟨f,n,i,t⟩:=I.list m;have o:=h.length;have p:=n.length;have j:(d.toArray.size != f.toArray.size)=true:=by simp;lia
  exact⟨SeqAt.RcAt.lists_lengths g.isList i.isList j k,SeqAt.RcNeAt.lists_lengths g.isList i.isList j k⟩
 ·obtain⟨d,h,g,r⟩:=I.tuple l;obtain⟨f,n,i,t⟩:=I.tuple m;have o:=h.length;have p:=n.length;have c:∀j (l:j<d.toArray.size) (m:j<f.toArray.size),SeqAt.EqAt A.in1 s d.toArray[j] f.toArray[j] ((λ_=>true) j):=λj h l=>by
   exfalso;have m:j<d.length:=by simpa using h
   have h:j<f.length:=by simpa using l
   rcases q with e|e
   ·subst e;simp at o;lia
   ·subst e;simp at p;lia
  have e:((List.range (min d.toArray.size f.toArray.size)).all (λ_=>true)&&d.toArray.size==f.toArray.size)=false:=by
   have:d.toArray.size≠f.toArray.size:=by simp;lia
   rw[Bool.and_eq_false_iff];exact .inr (beq_eq_false_iff_ne.mpr this)
  have h:=SeqAt.RcAt.tuples (A:=A) (show s.heap.IsTuple a d.toArray from g) (show s.heap.IsTuple b f.toArray from i) k c;have j:=SeqAt.RcNeAt.tuples (A:=A) (show s.heap.IsTuple a d.toArray from g) (show s.heap.IsTuple b f.toArray from i) k c;rw[e]at h j;calc⟨h,j⟩
def Qn(K:W.Frag):R2:=λx y H Q=>match x,y with
 | .ref a,.ref b=>(kO K H 20 (.ref a) (.ref b)/\Q (.bl true) H)\/(sj K H a b/\Q (.bl false) H)
 |x,y=>Li x y=true/\Q (.bl (decide (x=y))) H
def Qo(K:W.Frag):R2:=λx y H Q=>match x,y with
 | .ref a,.ref b=>(kO K H 20 (.ref a) (.ref b)/\Q (.bl false) H)\/(sj K H a b/\Q (.bl true) H)
 |x,y=>Li x y=true/\Q (.bl (!decide (x=y))) H
theorem Hi(c:X.A.units+64<cLine):fQ X (compareOp .Eq) (Qn X.K):=by
  intro pins s σ H x y v u Q I a b h
  cases x<;>cases y<;>first
    |calc Uv pins s σ H _ _ v u Q I a b h
    | (cases a;cases b
       rcases h with⟨a,q⟩|⟨a,q⟩
       · exact(Hh I (A:=X.A) a ()).1 X.prog X.w X.xe _ ⟨.bl true,H,I,rfl,q⟩
       · calc(Cm I (A:=X.A) a ()).1 X.prog X.w X.xe _ ⟨.bl false,H,I,rfl,q⟩)
theorem Hk(c:X.A.units+64<cLine):fQ X (compareOp .NotEq) (Qo X.K):=by
  intro pins s σ H x y v u Q I a b h
  cases x<;>cases y<;>first
    |calc Uw pins s σ H _ _ v u Q I a b h
    | (cases a;cases b
       rcases h with⟨a,q⟩|⟨a,q⟩
       · exact(Hh I (A:=X.A) a ()).2 X.prog X.w X.xe _ ⟨.bl false,H,I,rfl,q⟩
       · calc(Cm I (A:=X.A) a ()).2 X.prog X.w X.xe _ ⟨.bl true,H,I,rfl,q⟩)
def U8(g:Bool->Bool):R2:=λx y H Q=>match x,y with
 | .bl c,.bl d=>Q (.bl (g (c==d))) H
 |x,.bI=>Q (.bl (g (decide (x=.bI)))) H
 |_,_=>False
theorem AN:fQ X (compareOp .Is) (U8 id):=by
 intro pins s σ H x y v u Q I a b h
 cases x<;>cases y<;>first
  |calc(show False from h).elim
  |calc PF pins s σ H _ _ v u Q I a b ⟨rfl,h⟩
  |(cases a;cases b;calc is_bool ⟨.bl _,H,I,rfl,h⟩)
theorem vg:fQ X (compareOp .IsNot) (U8 not):=by
 intro pins s σ H x y v u Q I a b h
 cases x<;>cases y<;>first
  |calc(show False from h).elim
  |calc Lj pins s σ H _ _ v u Q I a b ⟨rfl,h⟩
  |(cases a;cases b;calc isnot_bool ⟨.bl _,H,I,rfl,h⟩)
def uIn(K:W.Frag)(a:Bool):R2:=λx y H Q=>match y with
 | .ref p=>∃xs,(aT K H p xs\/bJ K H p xs)/\fT x=true/\xs.all fT=true/\Q (.bl (if a then !yd x xs else yd x xs)) H
 |_=>False
theorem Hl:fQ X (compareOp .In) (uIn X.K false):=by
 intro pins s σ H x y v u Q I a b h
 cases y<;>first
  |calc(show False from h).elim
  |(obtain⟨c,d,e,f,g⟩:=h;calc D9 pins s σ H _ _ v u Q I a b ⟨_,c,rfl,d,e,f,g⟩)
theorem Ei:fQ X (compareOp .NotIn) (uIn X.K true):=by
 intro pins s σ H x y v u Q I a b h
 cases y<;>first
  |calc(show False from h).elim
  |(obtain⟨c,d,e,f,g⟩:=h;calc wx pins s σ H _ _ v u Q I a b ⟨_,c,rfl,d,e,f,g⟩)
def Qp(K:W.Frag)(a:TE):TI:=λσ H R=>a σ H λx b=>match x with
 | .ref a=>((∃xs,aT K b a xs)/\R (x6 K a) b)\/((∃xs,bJ K b a xs)/\R (Us K a) b)
 |_=>False
theorem cE{n l:Expr}{i:TE}(r:PE X l i):PI X n l (Qp X.K i):=by
  calc⟨?_⟩;intro pins s σ H R I h;calc cK (r pins s σ H _ I h) λv c t=>?_;obtain⟨x,j,d,u,k⟩:=t
  cases x<;>first
    |calc(show False from k).elim
    | (rename_i a;cases u
       rcases k with⟨⟨w,f⟩,q⟩|⟨⟨w,f⟩,q⟩
       · obtain⟨m,y,p,z⟩:=d.list f;calc wpAny_pyIter_list p.isList ?_;calc⟨c.heap.objs.size,[c.heap.objs.size],_,_,j,rfl,d.kept (t':=c.toks) λb o e=>J' _ e,DY a _,⟨_,V' _ rfl,rfl,rfl⟩,λb g=>?_,q⟩;have e:b=c.heap.objs.size:=by simpa using g
         subst e;exact d.Gq (K' _) (d.aW.fresh (K' _))
       · obtain⟨m,y,p,z⟩:=d.tuple f;calc aaI (show c.heap.IsTuple a m.toArray from p) ?_;calc⟨c.heap.objs.size,[c.heap.objs.size],_,_,j,rfl,d.kept (t':=c.toks) λb o e=>J' _ e,An a _,⟨_,V' _ rfl,rfl,rfl⟩,λb g=>?_,q⟩;have e:b=c.heap.objs.size:=by simpa using g
         subst e;calc d.Gq (K' _) (d.aW.fresh (K' _)))
end
structure Def(P:Program)(w:World)(K:W.Frag)(mg:Str->Option Value)(base:Heap)(x:Str)(k:Nat)(ps:List Str)(sp:Sp):Prop where
 ex:∃f fd,ja P w K mg base ve k f fd ps sp/\mg x=some (.ref f)/\W.keepIn K (.ref f)=true/\Binds K fd ps []
structure dq(K:W.Frag)(mg:Str->Option Value)(x qual:Str)(st:Stmt)(ps:List Str):Prop where
 ex:∃f fd,Fw K x qual st f fd/\mg x=some (.ref f)/\Binds K fd ps []
section
variable {P:Program}{w:World}{K:W.Frag}{mg:Str->Option Value}{base:Heap}
theorem dq.ok{x a:Str}{b:Stmt}{N c:List Str}{k:Nat}{sp:Sp}(T:dq K mg x a b c)(S:aE N c (aA b))(d:∀vs H Q E,sp vs H Q E->vs.length=c.length)
  (g:∀(f:Addr) (e:Value) (A:Around) (outer:List Env) (s:Shared) (H:Hp) (vs:List V) (Q:VK) (E:XK),dH k (A.deeper (envOfC a (aA b) s.heap.objs.size f e))->sp vs H Q E->
   ∃t,rF (ie ve P w K mg base N a (aA b) f e A outer s H E).xY (cB b) t/\t {nx:=λ_ a=>Q .bI a,rt:=Q} (start N vs) H):Def P w K mg base x (k + 1) c sp:=by
 obtain⟨f,a,F,b,c⟩:=T.ex;calc⟨f,a,F.ok S d (g f),b,F.kp,c⟩
end
theorem U9{X:Cx}{k j:Nat}{c:List Str}{sp:Sp}{x:Str}{p a:Pos}{e:Expr}{b:List Expr}{t:TA}(D:Def X.prog X.w X.K X.mg X.base x k c sp)(d:dH j X.A)(g:PA X (e::b) t)(h:Gl X x:=by rfl)(c:k<=j:=by decide)
  (i:(x==("__debug__":Str))=false:=by decide) (j:starEach (e::b) X.env=(false,eval e X.env)::starEach b X.env:=by rfl) (k:(backTo a (starEach b X.env)).any (·.1)=false:=by rfl):
  PE X (.Call (.Name x p) (e::b) [] a) (uT sp [] E0 t):=by
 obtain⟨f,l,F,a,b,e⟩:=D.ex;calc Lo F (d.mono c) h a b e .nil yj g i j k
end
section
variable {H:Hp}
section
variable {X:Cx}
def Qq(K:W.Frag):R2:=λx y H Q=>match x,y with
 | .str z,.int i=>∃c,z.length<=sizeLine/\hX z.cps.toList i=some c/\Q (.str ⟨#[c]⟩) H
 | .ref p,.int i=>∃xs v,(aT K H p xs\/bJ K H p xs)/\hX xs i=some v/\Q v H
 | .ref p,.str k=>∃v,kC H p (.str k) (some v)/\Q v H
 |_,_=>False
theorem aaC(c:X.A.units+64<cLine):UK X (Qq X.K):=by
  intro a b d s σ H x y v u Q I i j h k
  cases x<;>cases y<;>first
    |calc(show False from h).elim
    |(obtain⟨c,f,l,e⟩:=h;calc PZ a b d s σ H _ _ v u Q I i j ⟨_,_,c,rfl,rfl,f,l,e⟩ k)
    | (obtain⟨c,m,f | f,l,e⟩:=h
       · exact Ls a b d s σ H _ _ v u Q I i j ⟨_,c,_,m,rfl,rfl,f,l,e⟩ k
       · calc PY a b d s σ H _ _ v u Q I i j ⟨_,c,_,m,rfl,rfl,f,l,e⟩ k)
    | (obtain⟨m,g,e⟩:=h
       cases i;calc tail_any (yg I g) PySem.F.slot_dict_getitem.lookup (Eb () I g j λc d a b=>⟨m,H,a,b,e⟩) k)
end
inductive DV where
 |bI|bl (b:Bool)|int (i:Int)|str (x:Str)|tup (ds:List DV)|lst (ds:List DV)|dict
inductive HD(H:Hp):Nat->V->DV->Prop
 |bI {n}:HD H n .bI .bI
 |bl {n} (b:Bool):HD H n (.bl b) (.bl b)
 |int {n} (i:Int):HD H n (.int i) (.int i)
 |str {n} (x:Str):HD H n (.str x) (.str x)
 |tup {n a xs ds}:H a=some (.tup xs)->xs.length=ds.length->(∀(i:Nat) u e,xs[i]?=some u->ds[i]?=some e->HD H n u e)->HD H (n+1) (.ref a) (.tup ds)
 |lst {n a xs ds}:H a=some (.lst xs)->xs.length=ds.length->(∀(i:Nat) u e,xs[i]?=some u->ds[i]?=some e->HD H n u e)->HD H (n+1) (.ref a) (.lst ds)
 |dict {n a bt}:H a=some (.dK bt)->HD H n (.ref a) .dict
theorem HD.same{H a:Hp}(s:au H a){n:Nat}{x:V}{d:DV}(h:HD H n x d):HD a n x d:=by
 induction h with
 |bI=>calc .bI
 |bl b=>calc .bl b
 |int i=>calc .int i
 |str x=>calc .str x
 |tup a b c d=>calc .tup (s _ _ a) b d
 |lst a b c d=>calc .lst (s _ _ a) b d
 |dict a=>calc .dict (s _ _ a)
theorem HD.mono{H:Hp}{n:Nat}{x:V}{d:DV}(h:HD H n x d):∀{m:Nat},n<=m->HD H m x d:=by
 induction h with
 |bI=>intro m _;calc .bI
 |bl b=>intro m _;calc .bl b
 |int i=>intro m _;calc .int i
 |str x=>intro m _;calc .str x
 |tup a b c f=>
  intro m g;obtain⟨k,rfl⟩:∃k,m=k+1:=⟨m-1,()⟩
  calc .tup a b λi u e p q=>f i u e p q ()
 |lst a b c f=>
  intro m g;obtain⟨k,rfl⟩:∃k,m=k+1:=⟨m-1,()⟩
  calc .lst a b λi u e p q=>f i u e p q ()
 |dict a=>intro m _;calc .dict a
inductive HT(H:Hp):Nat->V->DV->Prop
 |bI {n}:HT H n .bI .bI
 |bl {n} (b:Bool):HT H n (.bl b) (.bl b)
 |int {n} (i:Int):HT H n (.int i) (.int i)
 |str {n} (x:Str):HT H n (.str x) (.str x)
 |tup {n a xs ds}:H a=some (.tup xs)->xs.length=ds.length->(∀(i:Nat) u e,xs[i]?=some u->ds[i]?=some e->HT H n u e)->HT H (n+1) (.ref a) (.tup ds)
theorem HT.hd{H:Hp}{n:Nat}{x:V}{d:DV}(h:HT H n x d):HD H n x d:=by
 induction h with
 |bI=>calc .bI
 |bl b=>calc .bl b
 |int i=>calc .int i
 |str x=>calc .str x
 |tup a b c d=>calc .tup a b d
def cm(H a:Hp):Prop:=∀b xs,H b=some (.tup xs)->a b=some (.tup xs)
theorem au.aS{a:Hp}(h:au H a):cm H a:=λb a e=>h b _ e
theorem cm.refl(H:Hp):cm H H:=λ_ _ h=>h
theorem cm.trans{c d:Hp}(a:cm H c)(b:cm c d):cm H d:=λc o h=>b c o (a c o h)
theorem cm.upd{a:Hp}(h:cm H a){p:Addr}{o:HO}(d:∀xs,a p≠some (.tup xs)):cm H (upd a p o):=λb xs e=>by
 have c:=h b xs e;have:b≠p:=λz=>by subst z;exact d xs c
 rw[ay this];calc c
theorem HT.aK{H a:Hp}(s:cm H a){n:Nat}{x:V}{d:DV}(h:HT H n x d):HT a n x d:=by
 induction h with
 |bI=>calc .bI
 |bl b=>calc .bl b
 |int i=>calc .int i
 |str x=>calc .str x
 |tup a b c d=>calc .tup (s _ _ a) b d
theorem au.new{p:Addr}(o:HO)(a:H p=none):au H (upd H p o):=λb u e=>by rw[ay (av e a)];calc e
end
section
section
variable {X:Cx}
def Qr(K:W.Frag):List V->Hp->VK->Prop:=λxs H Q=>match xs with
 | [x]=>∃n,GB K x H n/\Q (.int (n:Nat)) H
 |_=>False
theorem aM:fw X (.builtin "len") (Qr X.K):=by
 intro a s σ H b c Q I r h
 match b,r,h with
 | [x],r,h=>
  obtain⟨n,b,d⟩:=h;calc GC a s σ H _ c Q I r ⟨x,n,rfl,b,d⟩
def uII(g:Int->Int->Int):List V->Hp->VK->Prop:=λxs H Q=>match xs with
 | [.int i,.int j]=>Q (.int (g i j)) H
 |_=>False
theorem vh(b:X.calm=true):fw X (.builtin "max") (uII λi j=>if j > i then j else i):=by
 intro a s σ H c d Q I r h
 match c,r,h with
 | [.int i,.int j],r,h=>calc D0 b a s σ H _ d Q I r ⟨i,j,rfl,h⟩
def wI(K:W.Frag):List V->Hp->VK->Prop:=λxs H Q=>match xs with
 | [.ref p]=>(∃a,aT K H p a/\∀l,H l=none->Q (.ref l) (upd H l (.tup a)))\/(∃a,bJ K H p a/\Q (.ref p) H)
 |_=>False
theorem cM:fw X (.type "tuple") (wI X.K):=by
 intro a s σ H b e Q I r h
 match b,r,h with
 | [.ref p],r,h=>
  rcases h with⟨b,c,d⟩|⟨b,c,d⟩
  ·exact mE a s σ H _ e Q I r ⟨p,b,rfl,.inl ⟨c,d⟩⟩
  ·calc mE a s σ H _ e Q I r ⟨p,b,rfl,.inr ⟨c,d⟩⟩
def Nw(K:W.Frag):List V->Hp->VK->Prop:=λxs H Q=>match xs with
 | [.ref p]=>∃a,(aT K H p a\/bJ K H p a)/\∀l,H l=none->Q (.ref l) (upd H l (.lst a))
 |_=>False
theorem cF:fw X (.type "list") (Nw X.K):=by
 intro a s σ H b c Q I r h
 match b,r,h with
 | [.ref p],r,h=>
  obtain⟨b,d,e⟩:=h;calc wz a s σ H _ c Q I r ⟨p,b,rfl,d,e⟩
def Nx:V->V->V->Hp->(Hp->Prop)->Prop:=λo i v H Q=>match o,i with
 | .ref p,.int k=>∃xs j,H p=some (.lst xs)/\AD xs.length k=some j/\Q (upd H p (.lst (xs.set j v)))
 |_,_=>False
theorem eF:Pn X Nx:=by
 intro a s σ H o i v b c u Q I d e f h
 cases o<;>cases i<;>first
  |calc(show False from h).elim
  |(obtain⟨g,j,i,k,l⟩:=h;calc set_list a s σ H _ _ v b c u Q I d e f ⟨_,g,_,j,rfl,rfl,i,k,l⟩)
end
theorem Va{CX P w K mg base N qual scope f cd A outer s H E}:(ie CX P w K mg base N qual scope f cd A outer s H E).xY.K=K:=rfl
theorem Ny{X:Cx}:X.xY.K=X.K:=rfl
theorem Hm{CX P w K mg base N qual scope f cd A outer s H E}:(ie CX P w K mg base N qual scope f cd A outer s H E).K=K:=rfl
theorem Nz{X:Cx}{scope C N' a b fp}:(UU X scope C N' a b fp).K=X.K:=rfl
theorem cf:2<=sizeLine:=by decide
end
section
variable {g:Int->Int->V}
section
variable {K:W.Frag}{H:Hp}{Q:VK}{i j:Int}{a b:Addr}{x y:V}{s t:Str}
theorem NA{C:Int->Int->Prop}:uI C g (.int i) (.int j) H Q=(C i j/\Q (g i j) H):=rfl
theorem Hn:Ql g (.int i) (.int j) H Q=Q (g i j) H:=rfl
theorem Ho:decide (V.int i=V.int j)=decide (i=j):=by simp
theorem Hr:decide (V.str s=V.str t)=decide (s=t):=by simp
theorem wJ:Qn K (.int i) (.int j) H Q=Q (.bl (decide (i=j))) H:=by
 show(true=true/\Q (.bl (decide (V.int i=V.int j))) H)=_;rw[Ho];simp
theorem wK:Qn K (.str s) (.str t) H Q=Q (.bl (decide (s=t))) H:=by
 show(true=true/\Q (.bl (decide (V.str s=V.str t))) H)=_;rw[Hr];simp
theorem wL:Qo K (.int i) (.int j) H Q=Q (.bl (!decide (i=j))) H:=by
 show(true=true/\Q (.bl (!decide (V.int i=V.int j))) H)=_;rw[Ho];simp
theorem wM:Qo K (.str s) (.str t) H Q=Q (.bl (!decide (s=t))) H:=by
 show(true=true/\Q (.bl (!decide (V.str s=V.str t))) H)=_;rw[Hr];simp
theorem Ht:Qn K (.ref a) (.ref b) H Q=((kO K H 20 (.ref a) (.ref b)/\Q (.bl true) H)\/(sj K H a b/\Q (.bl false) H)):=rfl
theorem Hu:Qo K (.ref a) (.ref b) H Q=((kO K H 20 (.ref a) (.ref b)/\Q (.bl false) H)\/(sj K H a b/\Q (.bl true) H)):=rfl
theorem Hv{g:Bool->Bool}{c d:Bool}:U8 g (.bl c) (.bl d) H Q=Q (.bl (g (c==d))) H:=rfl
theorem NB{b:Bool}:uIn K b x (.ref a) H Q=∃xs,(aT K H a xs\/bJ K H a xs)/\fT x=true/\xs.all fT=true/\Q (.bl (if b then !yd x xs else yd x xs)) H:=rfl
theorem Hw:Qq K (.ref a) (.int i) H Q=∃xs v,(aT K H a xs\/bJ K H a xs)/\hX xs i=some v/\Q v H:=rfl
theorem Hx:Qq K (.ref a) (.str s) H Q=∃v,kC H a (.str s) (some v)/\Q v H:=rfl
theorem Hy:Qq K (.str s) (.int i) H Q=∃c,s.length<=sizeLine/\hX s.cps.toList i=some c/\Q (.str ⟨#[c]⟩) H:=rfl
theorem Hz:Qr K [x] H Q=∃n,GB K x H n/\Q (.int (n:Nat)) H:=rfl
theorem NC{g:Int->Int->Int}:uII g [.int i,.int j] H Q=Q (.int (g i j)) H:=rfl
theorem oC:wI K [.ref a] H Q=((∃b,aT K H a b/\∀l,H l=none->Q (.ref l) (upd H l (.tup b)))\/(∃b,bJ K H a b/\Q (.ref a) H)):=rfl
theorem Cn:Nw K [.ref a] H Q=∃b,(aT K H a b\/bJ K H a b)/\∀l,H l=none->Q (.ref l) (upd H l (.lst b)):=rfl
theorem yn{R:Hp->Prop}:Nx (.ref a) (.int i) x H R=∃xs j,H a=some (.lst xs)/\AD xs.length i=some j/\R (upd H a (.lst (xs.set j x))):=rfl
theorem vi{α:Type}{o:Option α}:(some o).join=o:=rfl
end
end
section
variable {r:List V->Hp->VK->Prop}
def dw:Expr->Bool
 | .Starred ..=>false
 |_=>true
theorem dz{e:Expr}{a:List Expr}{env:Env}(h:dw e=true):starEach (e::a) env=(false,eval e env)::starEach a env:=by
 cases e<;>first|rfl|calc absurd h U'
theorem fz{a:Pos}{env:Env}:∀{b:List Expr},b.all dw=true->(backTo a (starEach b env)).any (·.1)=false
 | [],_=>rfl
 |e::b,h=>by
  rw[List.all_cons,Bool.and_eq_true]at h;rw[dz h.1];show(false||(backTo a (starEach b env)).any (·.1))=false;rw[fz h.2];rfl
def AO:Expr->Bool
 | .ListComp ..=>false
 | .SetComp ..=>false
 | .DictComp ..=>false
 |_=>true
theorem fB{e:Expr}{t:Option Expr}{l:Nat}{env:Env}(h:AO e=true):swapsWith e t l env=pure false:=by
 cases e<;>first|rfl|calc absurd h U'
section
variable {X:Cx}{e:Expr}{es:List Expr}{te:TE}{t:TA}{pos p:Pos}{x:Str}
theorem ag(a:PE X e te)(b:PA X es t)(h:dw e=true:=by rfl):PA X (e::es) (rZ te t):=Ln a b (dz h)
theorem aN{k j:Nat}{a:List Str}{sp:Sp}(D:Def X.prog X.w X.K X.mg X.base x k a sp)(b:dH j X.A)(c:PA X (e::es) t)(d:Gl X x:=by rfl)(a:k<=j:=by decide)
  (f:(x==("__debug__":Str))=false:=by decide) (g:dw e=true:=by rfl) (h:es.all dw=true:=by rfl):
  PE X (.Call (.Name x p) (e::es) [] pos) (uT sp [] E0 t):=U9 D b c d a f (dz g) (fz h)
theorem bb{a:String}(b:fw X (.builtin a) r)(c:Gl X x)(d:X.mg x=none)(f:bootBuiltins x=some (.builtin a))(g:PA X (e::es) t)(h:x≠"__name__":=by decide)(a:(x==("__debug__":Str))=false:=by decide)
  (i:dw e=true:=by rfl) (j:es.all dw=true:=by rfl):PE X (.Call (.Name x p) (e::es) [] pos) (SS r t):=GN b c d f g h a (dz i) (fz j)
theorem dG{T:String}(a:fw X (.type T) r)(b:Gl X x)(c:X.mg x=none)(d:bootBuiltins x=some (.type T))(f:PA X (e::es) t)(g:x≠"__name__":=by decide)(h:(x==("__debug__":Str))=false:=by decide)
  (i:dw e=true:=by rfl) (j:es.all dw=true:=by rfl):PE X (.Call (.Name x p) (e::es) [] pos) (SS r t):=D7 a b c d f g h (dz i) (fz j)
theorem ba{i:Nat}{a:Pos}(b:X.N.Nodup)(c:X.N[i]?=some x)(d:Loc X.env.scope x)(f:PE X e te)(h:AO e=true:=by rfl)(g:X.fn x=true\/X.env.scope.names.lookup x=some .local:=by grind):
  PS X (.Assign [.Name x a] e pos) (Am te (fK i)):=Gm b c d f (fB h) g
theorem bW(a:PE X e te)(h:AO e=true:=by rfl):PS X (.Expr e pos) (xZ te):=Le a (fB h)
end
end
section
def wN:Expr->Bool
 | .Slice ..=>false
 |_=>true
theorem HA{b:Expr}(h:wN b=true):Cd b:=λo i=>by
 cases b<;>first|rfl|calc absurd h U'
theorem ak{X:Cx}{a b:Expr}{d e:TE}{c:Pos}(f:X.A.units+64<cLine)(g:PE X a d)(i:PE X b e)(h:wN b=true:=by rfl):PE X (.Subscript a b c) (Gw (Qq X.K) d e):=UL (aaC f) g i (HA h)
end
section
variable {rest:List Value}{E:Value->Shared->Prop}
def tX:List Value:=[.type "ValueError",.type "Exception",.type "BaseException",.type "object"]
section
variable {prog:Program}{w:World}{A:Around}{h:Heap}{g:Array GenState}{d:Drawn}{t:Nat}{os:OsState}
variable {nm q:Str}{C B N:Addr}{bs:List Value}{sn:List Str}{sub:List Value}{ab:Bool}{col:Option Bool}{dd:Option Addr}{k0 k1 k2 k3 k5:Option Value}
theorem AQ{M:Model}{Q:Unit->Shared->Prop}(a:h.get? C=some (excClassObj nm q C N bs (.ref B::tX) true sn sub ab col dd k0 k1 k2 k3 k5 "ValueError.__new__"))
  (c:Q ⟨⟩ ⟨h,g,d,t,os⟩):wpAny M A (checkBuiltinCall "ValueError.__new__" ⟨.ref C::rest,[]⟩) Q E ⟨h,g,d,t,os⟩:=by
 have b:=PySem.F.excBase_ValueError;have e:(Value.ref C::.ref B::tX).contains (.type "ValueError")=true:=rfl;have f:=b.noStar;simp only[checkBuiltinCall,b.newKind,b.newSplit,b.newRow]
 repeat (first|calc aaB a ?_|(calc aa4 a ?_;rw[e])|calc wpAny_staticBase_exc a ?_|calc wpAny_madeBy_exc a ?_|simp only[bne_self_eq_false,Bool.false_eq_true,if_false]|wp_step)
 calc c
theorem Ej{R:Result->Shared->Prop}(b:h.get? C=some (excClassObj nm q C N bs (.ref B::tX) true sn sub ab col dd k0 k1 k2 k3 k5 "ValueError.__new__"))
  (i:R (.ok (.ret (.ref (h.objs.size + 1)))) ⟨(h.push {cls:=.type "tuple",data:=.seq rest.toArray}).push
   {cls:=.ref C,data:=.fields #[.ref h.objs.size,.none,.none,.none,.bool false,.none]},g,d,t,os⟩) (a:rest.length<=sizeLine):
  codeAny (model prog w) A (.builtin "ValueError.__new__" ⟨.ref C::rest,[]⟩) R ⟨h,g,d,t,os⟩:=by
 have a:=PySem.F.excBase_ValueError;have c:=a.ends;have j:(Value.ref C::.ref B::tX).contains (.type "ValueError")=true:=rfl;have c:(Value.ref C::.ref B::tX).contains (.type "AttributeError")=false:=rfl;have e:(Value.ref C::.ref B::tX).contains (.type "NameError")=false:=rfl;refine codeAny_builtinAt a.entry ?_;unfold Builtin.«BaseException.__new__»;refine PySem.wpAt_bind ?_;show PySem.wpAt _ _ _ (stack >>= _) _ _ _;refine PySem.wpAt_bind (PySem.wpAt_stack λp f=>PySem.wpAt_of_wpAny ?_);wp_walk;refine PySem.wpAt_of_wpAny ?_;rw[a.owner]
 repeat (first|with_reducible calc wpAny_madeHere_exc a.canon b ?_|with_reducible calc aaB b ?_|(with_reducible calc aa4 b ?_;first|rw[j]|rw[c]|rw[e])|wp_step)
 show R _ _;rw[Heap.size_push];calc i
theorem AR{K:W.Frag}{a:Addr}{Q:PySem.Fin->Shared->Prop}(X:K.In h)
    (c:h.get? C=some (excClassObj nm q C N bs (.ref B::tX) true sn sub ab col dd k0 k1 k2 k3 k5 "ValueError.__new__"))
    (i:W.findIn K (.ref C) "__init__"=some (some (.ref a))) (j:W.typeIn K (.ref a)=some (.type "function"))
    (k:wpAny (model prog w) A (call (.ref a) (.ref (h.objs.size + 1)::rest)) (λr s'=>r=.none/\Q (.done (.ret (.ref (h.objs.size + 1)))) s') E
      ⟨(h.push {cls:=.type "tuple",data:=.seq rest.toArray}).push {cls:=.ref C,data:=.fields #[.ref h.objs.size,.none,.none,.none,.bool false,.none]},g,d,t,os⟩) (a:rest.length<=sizeLine):
    wpAny (model prog w) A (Builtin.«type.__call__» ⟨.ref C::rest,[]⟩) Q E ⟨h,g,d,t,os⟩:=by
  have e:=PySem.F.excBase_ValueError
  repeat (first|with_reducible calc aaB c ?_|with_reducible calc wpAny_madeBy_exc c ?_|wp_step)
  calc codeAny_call_builtin_code (Code.quiet_builtin _ e.quiet) (AQ c ?_);calc Ej c ?_ a;show wpAny _ _ _ _ _ _;have f:∀b o,h.get? b=some o->((h.push {cls:=.type "tuple",data:=.seq rest.toArray}).push {cls:=.ref C,data:=.fields #[.ref h.objs.size,.none,.none,.none,.bool false,.none]}).get? b=some o:=
    λb o e=>J' _ (J' _ e)
  have b:=f _ _ c;have a:=X.keeps f;have e:((h.push {cls:=.type "tuple",data:=.seq rest.toArray}).push
      {cls:=.ref C,data:=.fields #[.ref h.objs.size,.none,.none,.none,.bool false,.none]}).get? (h.objs.size + 1)=some
      {cls:=.ref C,data:=.fields #[.ref h.objs.size,.none,.none,.none,.bool false,.none]}:=by heap_get
  have c:(Value.ref C::.ref B::tX).contains (.ref C)=true:=by simp
  unfold isInstance
  repeat (first|with_reducible calc aaB e ?_|(with_reducible calc aa4 b ?_;rw[c])|wp_step)
  show wpAny _ _ (typeLookup (.ref C) _) _ _ _;calc(W.looks_findIn a i).here ?_;calc aaH (j' ?_);calc(W.bind_fn a _ j).here ?_;calc j' (aal k (λr s' l=>?_) λ_ _ x=>x);obtain⟨rfl,a⟩:=l;wp_walk;calc a
theorem AS{K:W.Frag}{b:Addr}{Q:Value->Shared->Prop}(X:K.In h)
  (a:h.get? C=some (excClassObj nm q C N bs (.ref B::tX) true sn sub ab col dd k0 k1 k2 k3 k5 "ValueError.__new__"))
  (c:W.findIn K (.ref C) "__init__"=some (some (.ref b))) (e:W.typeIn K (.ref b)=some (.type "function"))
  (f:wpAny (model prog w) (A.under (.builtin "type.__call__" ⟨.ref C::rest,[]⟩)) (call (.ref b) (.ref (h.objs.size + 1)::rest)) (λr s'=>r=.none/\Q (.ref (h.objs.size + 1)) s') E
   ⟨(h.push {cls:=.type "tuple",data:=.seq rest.toArray}).push {cls:=.ref C,data:=.fields #[.ref h.objs.size,.none,.none,.none,.bool false,.none]},g,d,t,os⟩) (b:rest.length<=sizeLine):
  wpAny (model prog w) A (call (.ref C) rest) Q E ⟨h,g,d,t,os⟩:=by
 have i:=tc_lookup;have i:=tc_bind (.ref C);have i:(⟨h,g,d,t,os⟩:Shared).TypeIs (.ref C) "type":=⟨_,a,rfl⟩
 calc wpAny_call (codeAny_of_tree ?_);show wpAny _ _ (callAny (.ref C) _) _ _ _
 repeat (any_goals (first|assumption|with_reducible calc aaB a ?_|wp_step))
 calc⟨rfl,?_⟩;calc codeAny_call_builtin_at (Code.quiet_builtin _ ⋯) entry_typeCall (wpAny_check_type_call_sub a (AR X a c e ?_ b));calc f
end
end
end L2
set_option maxHeartbeats 400000
namespace L2
open PySem PySem.Spec PyProof.Rows
section
structure fU(K:W.Frag)(C B:Addr):Prop where
 ob:∃nm q N bs sn sub ab col dd k0 k1 k2 k3 k5,K.lookup C=some (excClassObj nm q C N bs (.ref B::tX) true sn sub ab col dd k0 k1 k2 k3 k5 "ValueError.__new__")
 ga:W.findIn K (.ref C) "__getattribute__"=some (some (.builtin "BaseException.__getattribute__"))
 gt:W.findIn K (.ref C) "__getattr__"=some none
 sa:W.findIn K (.ref C) "__setattr__"=some (some (.builtin "object.__setattr__"))
 cl:W.findIn K (.ref C) "__class__"=some (some (.builtin "object.__class__"))
 cg:W.specialIn K (.builtin "object.__class__") "__get__"=some (some (.builtin "getset_descriptor.__get__"))
 ct:W.takesIn K (.builtin "object.__class__")=some true
 kp:W.keepIn K (.ref C)=true
theorem fU.cd{K:W.Frag}{C B:Addr}(c:fU K C B):∃cd:ClassData,W.clsIn K C=some cd/\cd.mro=.ref C::.ref B::tX/\cd.hasDict=true:=by
 obtain⟨d,q,N,f,g,a,h,b,i,j,k,l,m,n,e⟩:=c.ob;calc⟨_,by unfold W.clsIn;rw[e],rfl,rfl⟩
theorem fU.mro{K:W.Frag}{C B:Addr}(c:fU K C B)(v:Value):W.mroIn K C v=some ((.ref C::.ref B::tX).contains v):=by
 obtain⟨cd,e,a,_⟩:=c.cd;unfold W.mroIn;rw[e,Option.bind_some,a];rfl
section
variable {prog:Program}{w:World}{A:Around}{E:Value->Shared->Prop}{s:Shared}{K:W.Frag}{x C B:Addr}{ox:Obj}{od:Option Obj}{name:Str}
open PySem.W in
theorem Ek{v:Value}{a:Tok}{R:Result->Shared->Prop}(X:K.In s.heap)(I:InstAt s.heap x ox C od)(c:fU K C B)(e:findObj K C od name=some (.value v))(h:R (.ok (.ret v)) s):
  codeAny (model prog w) A (.call (.builtin "BaseException.__getattribute__") ⟨[.ref x,.str name a],[]⟩) R s:=by
 have f:=Yv;have i:builtinKind "BaseException.__getattribute__"=some .slot:=by decide +kernel
 have j:splitId "BaseException.__getattribute__"=some ("BaseException","__getattribute__"):=by decide +kernel
 have b:=I.type (M:=model prog w);have k:mroIn K C (.type "BaseException")=some true:=(c.mro _).trans rfl;have L2:Looks (model prog w) s.heap (isInstance (.ref x) (.type "BaseException")) true:=b.andThen (looks_mroIn X k);refine codeAny_call_builtin f.ga.plain PySem.F.entry_bexc_ga (@check_slot (model prog w) _ _ s "BaseException.__getattribute__" "BaseException" "__getattribute__" (.ref x) [.str name a] [] _ i j L2 (PySem.F.args_bexc_ga _ _) ?_);obtain⟨c,g,d,t,l⟩:=s;have a:=looks_find (M:=model prog w) X I e;refine j' (L' (j' (L' (j' (b.here (j' (a.here ?_)))))));exact L' h
open PySem.W in
theorem AV{g a:Value}{b:Tok}{R:Result->Shared->Prop}(X:K.In s.heap)(I:InstAt s.heap x ox C od)(c:fU K C B)(f:findObj K C od name=some (.bind g a))
  (h:∀A,wpAny (model prog w) A (call g [a,.ref x,.ref C]) (λv s'=>R (.ok (.ret v)) s') (λe s'=>R (.error e) s') s):
  codeAny (model prog w) A (.call (.builtin "BaseException.__getattribute__") ⟨[.ref x,.str name b],[]⟩) R s:=by
 have i:=Yv;have j:builtinKind "BaseException.__getattribute__"=some .slot:=by decide +kernel
 have k:splitId "BaseException.__getattribute__"=some ("BaseException","__getattribute__"):=by decide +kernel
 have e:=I.type (M:=model prog w);have l:mroIn K C (.type "BaseException")=some true:=(c.mro _).trans rfl;have L2:Looks (model prog w) s.heap (isInstance (.ref x) (.type "BaseException")) true:=e.andThen (looks_mroIn X l);refine codeAny_call_builtin i.ga.plain PySem.F.entry_bexc_ga (@check_slot (model prog w) _ _ s "BaseException.__getattribute__" "BaseException" "__getattribute__" (.ref x) [.str name b] [] _ j k L2 (PySem.F.args_bexc_ga _ _) ?_);obtain⟨c,m,d,t,n⟩:=s;have b:=looks_find (M:=model prog w) X I f;refine j' (L' (j' (L' (j' (e.here (j' (b.here ?_)))))));show wpAny _ _ (Builtin.ObjectAttr.bindTo g a (.ref x) (.ref C)) _ _ _;exact j' (aaH (aal (h _) (λv s' z=>L' z) λ_ _ z=>z))
end
end
section
section
variable {prog:Program}{w:World}{A:Around}{E:Value->Shared->Prop}{s:Shared}{K:W.Frag}{x C B:Addr}{ox:Obj}{od:Option Obj}{name:Str}
open PySem.W in
theorem aaE{v:Value}{a:Bool}{Q:Value->Shared->Prop}(X:K.In s.heap)(I:InstAt s.heap x ox C od)(c:fU K C B)(b:findObj K C od name=some (.value v))(e:handedIn v=true)(h:Q v {s with toks:=s.toks+1}):
  wpAny (model prog w) A (getAttr (.ref x) name a) Q E s:=by
 obtain⟨f,g,d,t,i⟩:=s;have j:=Yv;have k:=I.type (M:=model prog w);have l:=looks_findIn (M:=model prog w) X c.ga;have L2:=looks_findIn (M:=model prog w) X c.gt;have m:(a&&onTheHeap (Value.builtin "BaseException.__getattribute__"))=false:=by cases a<;>rfl
 unfold getAttr getAttrBy;calc j' (wpAny_mkText (aaH (j' (k.at (j' (l.at ?_))))));show wpAny _ _ (getAttrByItsOwn _ _ _ _ _ _) _ _ _;unfold getAttrByItsOwn callGetattribute boundAndCalled;calc j' (L2.at (j' (wpAny_attempt (aaH ?_))));rw[m];simp only[Bool.false_eq_true,if_false];rw[j.ga.bind];calc j' (L' (wpAny_call ?_));calc Ek (s:=⟨f,g,d,t+1,i⟩) X I c b ?_;show wpAny _ _ (handedOut v) _ _ _;rw[handedOut_of e];exact L' h
open PySem.W in
theorem Qt{Q:Option Value->Shared->Prop}(X:K.In s.heap)(I:InstAt s.heap x ox C od)(c:fU K C B)(h:Q (some (.ref C)) {s with toks:=s.toks+1}):
  wpAny (model prog w) A (getAttr? (.ref x) "__class__") Q E s:=by
 obtain⟨a,g,d,t,b⟩:=s;have f:=Yv;have i:=I.type (M:=model prog w);have j:=looks_findIn (M:=model prog w) X c.ga;have L2:=looks_findIn (M:=model prog w) X c.gt;have k:mroIn K C (.type "object")=some true:=(c.mro _).trans rfl;have l:findObj K C od "__class__"=some (.bind (.builtin "getset_descriptor.__get__") (.builtin "object.__class__")):=by
  obtain⟨cd,e,_⟩:=c.cd;unfold findObj;rw[e,Option.bind_some,c.cl,Option.bind_some];simp[c.cg,c.ct]
 unfold getAttr? getAttrBy? getAttrBy;calc j' (wpAny_mkText (j' (wpAny_attempt (aaH (j' (i.at (j' (j.at ?_))))))));show wpAny _ _ (getAttrByItsOwn _ _ _ _ _ _) _ _ _;unfold getAttrByItsOwn callGetattribute boundAndCalled;calc j' (L2.at (j' (wpAny_attempt (aaH ?_))));simp only[Bool.false_and,Bool.false_eq_true,if_false];rw[f.ga.bind];calc j' (L' (wpAny_call ?_));calc AV (s:=⟨a,g,d,t+1,b⟩) X I c l λe=>?_;calc wpAny_call (class_get (s:=⟨a,g,d,t+1,b⟩) (ox:=ox) (od:=od) X I k ?_);show wpAny _ _ (handedOut (.ref C)) _ _ _;exact L' (L' h)
open PySem.W in
theorem yo(c:fU K C B):KitX K (.ref x) (.ref C) (λh=>∃ox od,InstAt h x ox C od) where
 ty:=λ_ _ _ I=>let ⟨_,_,I⟩:=I;I.type
 it:=λ_ _ X _=>by
  obtain⟨i,q,N,j,l,a,m,b,g,o,p,r,t,u,d⟩:=c.ob;intro n v y z k q;unfold isType loadHead;exact j' (wpAny_loadPart (k _ _ (X _ _ d)) (L' q))
 ne:=λh v g y n z X w=>by
  obtain⟨i,q,N,j,l,a,m,b,g,o,p,r,t,u,d⟩:=c.ob;calc Bool.eq_false_iff.mpr λq=>?_;have e:C=v:=Value.ref.inj (beq_iff_eq.mp q);subst e;have z:=(X _ _ d).symm.trans w;have a:=congrArg (Option.map Obj.cls) z;simp at a
 ca:=λX I k=>let ⟨_,_,I⟩:=I;Qt X I c k
end
end
section
def XOb(C:Addr)(d:Option Addr)(c:Bool)(a:Addr)(h:Heap):Prop:=∃b e,h.get? a=some (⟨.ref C,d,.fields b,e⟩:Obj)/\(c=true->b[1]?=some .none)
abbrev XO(a C:Addr)(d:Option Addr)(b:Bool):HO:=.ext (XOb C d b a)
def YN(c:List (Str×V))(a:Addr)(h:Heap):Prop:=∃b,h.Ns1 a b/\(∀f,jT (c.lookup f) (b f))/\PySem.Within b (c.map (·.1))
abbrev XD(a:Addr)(b:List (Str×V)):HO:=.ext (YN b a)
section
variable {P:Program}{w:World}{H:Hp}{h:Heap}{a C:Addr}{d:Option Addr}{fl:Bool}
theorem HB{b:Array Value}{c:Array (Option Value)}(e:h.get? a=some (⟨.ref C,d,.fields b,c⟩:Obj))(f:fl=true->b[1]?=some .none):cH P w H h a (XO a C d fl):=
 ⟨⟨b,c,e,f⟩,⟨_,e⟩,λ_ _ ⟨b,c,e,f⟩ k=>⟨b,c,k _ e,f⟩⟩
theorem Qu(x:cH P w H h a (XO a C d fl)):XOb C d fl a h:=x.1
theorem Vd{b:List (Str×V)}(x:YN b a h):cH P w H h a (XD a b):=
 ⟨x,let ⟨_,⟨o,_,_,e,_⟩,_⟩:=x;⟨o,e⟩,λ_ _ ⟨m,n,r⟩ k=>⟨m,n.at k,r⟩⟩
theorem AW{b:List (Str×V)}(x:cH P w H h a (XD a b)):YN b a h:=x.1
end
section
variable {prog:Program}{w:World}{A:Around}{E:Value->Shared->Prop}{s:Shared}{K:W.Frag}{x C B:Addr}{name:Str}{v:Value}
theorem HC(a:Value):refuseLoop a "__setattr__" (.ref C::.ref B::tX)=pure ⟨⟩:=by
 rw[refuseLoop_ref,refuseLoop_ref];exact PySem.F.store_ValueError.passes a
open PySem.W in
theorem aaF{ox:Obj}{od:Option Obj}{d:Tok}{R:Result->Shared->Prop}(X:K.In s.heap)(I:InstAt s.heap x ox C od)(c:fU K C B)(n:bQ K C name)
  (h:∀b a,wpAny (model prog w) a (Builtin.ObjectAttr.storeInOwnDict (.ref x) (.ref C) (.str name d) name v b)
   (λa s'=>match a with | .done f=>R (.ok f) s' | .again a=>a.quiet=true/\codeAny (model prog w) A a R s') (λe s'=>R (.error e) s') s):
  codeAny (model prog w) A (.call (.builtin "object.__setattr__") ⟨[.ref x,.str name d,v],[]⟩) R s:=by
 have a:=PySem.F.store_object;obtain⟨cd,f,b,e⟩:=c.cd;have g:mroIn K C (.type "object")=some true:=(c.mro _).trans rfl;have e:Looks (model prog w) s.heap (isInstance (.ref x) (.type "object")) true:=I.type.andThen (looks_mroIn X g);refine codeAny_call_builtin a.slot.plain a.entry (@check_slot (model prog w) _ _ s "object.__setattr__" "object" "__setattr__" (.ref x) [.str name d,v] [] _ a.kind a.split e (a.args (.ref x) (.str name d) v) ?_);have c:Looks (model prog w) s.heap (mroOf (.ref C)) cd.mro:=(looks_clsIn X f).andThen .now;rw[osa_eq,refuse_eq];refine j' (j' (I.type.here (j' (c.here ?_))));rw[b,HC];refine L' (j' (I.type.here (j' ((looks_findIn X n).here (j' (L' ?_))))));exact h _ _
end
end
section
variable {fl:Bool}
section
variable {X:Cx}{pins:List (Addr×Obj)}{σ:St}{H:Hp}{s:Shared}{a C B dx:Addr}{fs:List (Str×V)}{f:Str}{v:V}{A:Around}{E:Value->Shared->Prop}
theorem sm(I:Inv X pins σ H s){d:Option Addr}(e:H a=some (XO a C d fl)):∃vs b,s.heap.get? a=some (⟨.ref C,d,.fields vs,b⟩:Obj)/\(fl=true->vs[1]?=some .none):=Qu (I.aW a _ e)
theorem Cp(I:Inv X pins σ H s){d:Option Addr}(e:H a=some (XO a C d fl)):∃vs b,s.heap.get? a=some (⟨.ref C,d,.fields vs,b⟩:Obj):=by
 obtain⟨vs,b,h,_⟩:=sm I e;calc⟨vs,b,h⟩
theorem AX{fl:Bool}{c:Value}{b:Bool}{d:Option Addr}{Q:Value->Shared->Prop}(I:Inv X pins σ H s)(e:H a=some (XO a C d fl))(f:∀dx,d=some dx->∃fs,H dx=some (XD dx fs))(g:fU X.K C B)
  (k:W.kitOne X.K (.ref C) c=some b) (h:∀i,Q (.bool b) {s with toks:=i}):wpAny (model X.prog X.w) A (call (.builtin "isinstance") [.ref a,c]) Q E s:=by
 calc W.kia_one (yo g) I.gG ?_ k (λz=>nomatch z) h;obtain⟨b,c,q⟩:=Cp I e
 cases d with
 |none=>calc⟨_,none,q,rfl,rfl,aam⟩
 |some dx=>
  obtain⟨fs,z⟩:=f dx rfl;obtain⟨_,⟨o,_,_,b,_⟩,_⟩:=AW (I.aW dx _ z);calc⟨_,some o,q,rfl,rfl,b⟩
theorem yp{b:Bool}{Q:Value->Shared->Prop}(I:Inv X pins σ H s)(e:H a=some (XO a C (some dx) fl))(d:H dx=some (XD dx fs))(c:fU X.K C B)(n:bQ X.K C f)(l:fs.lookup f=some v)
  (h:∀u s',Inv X pins σ H s'->RelV v u->Q u s'):wpAny (model X.prog X.w) A (getAttr (.ref a) f b) Q E s:=by
 obtain⟨b,g,q⟩:=Cp I e;obtain⟨g,i,r,_⟩:=AW (I.aW dx _ d);obtain⟨b,e,j⟩:=uQ i;obtain⟨u,k,d⟩:=jT.some_of (v:=v) (o:=g f) (by rw[<-l];calc r f);calc aaE (od:=some b) I.gG ⟨q,rfl,rfl,e⟩ c ?_ (uR d) (h u _ (I.tok _) d);obtain⟨cd,g,_,i⟩:=c.cd;calc W.findObj_own (attr:=none) (by unfold W.hasDictIn;rw[g];calc i) n rfl (by rw[j,k])
theorem wO{y:V}{u:Value}{Q:Unit->Shared->Prop}(I:Inv X pins σ H s)(e:H a=some (XO a C none fl))(c:fU X.K C B)(n:bQ X.K C f)(O:RelV y u)
  (h:∀dx s',H dx=none->Inv X pins σ (upd (upd H a (XO a C (some dx) fl)) dx (XD dx [(f,y)])) s'->Q ⟨⟩ s'):wpAny (model X.prog X.w) A (setAttr (.ref a) f u) Q E s:=by
 obtain⟨vs,j,q,P⟩:=sm I e;have J:W.InstAt s.heap a ⟨.ref C,none,.fields vs,j⟩ C none:=⟨q,rfl,rfl,aam⟩
 obtain⟨cd,k,_,m⟩:=c.cd;refine W.set_plain I.gG J c.sa (aaF (s:={s with toks:=s.toks+1}) I.gG J c n λb l=>?_);obtain⟨i,g,d,t,v⟩:=s;have q:i.get? a=some (⟨.ref C,none,.fields vs,j⟩:Obj):=q;have R:H i.objs.size=none:=I.aW.fresh (K' _);have F:a≠i.objs.size:=W' (T' q);have o:=W.looks_clsIn (M:=model X.prog X.w) (h:=i) I.gG k;unfold Builtin.ObjectAttr.storeInOwnDict Builtin.ObjectAttr.ownDictForStores;refine j' (L' ?_);rw[if_neg (by intro z;cases z)];refine j' ?_;show wpAny _ _ (instanceDict a true) _ _ _;unfold instanceDict;refine j' (wpAny_loadPart' q ?_);refine j' (o.here ?_);simp only[m,Bool.not_true,Bool.false_eq_true,if_false];have l:(i.push {cls:=.type "dict",data:=.dict #[]}).get? a=some (⟨.ref C,none,.fields vs,j⟩:Obj):=J' _ q;rw[if_neg (by simp[typeHasDict])];refine j' (wpAny_alloc' ?_);refine j' (wpAny_update' l ?_);refine L' ?_;have k:((i.push {cls:=.type "dict",data:=.dict #[]}).update a λo=>{cls:=o.cls,dict:=some i.objs.size,data:=o.data,slots:=o.slots}).get? i.objs.size=some {cls:=.type "dict",data:=.dict #[]}:=
  (Heap.get?_update_ne _ _ _ _ F.symm).trans (Heap.get?_push_at rfl rfl)
 have c:((i.push {cls:=.type "dict",data:=.dict #[]}).update a λo=>{cls:=o.cls,dict:=some i.objs.size,data:=o.data,slots:=o.slots}).Ns i.objs.size (λ_=>none):=
  ⟨_,#[],_,k,rfl,λe m=>absurd m nofun,λ_=>rfl⟩
 have k:((i.push {cls:=.type "dict",data:=.dict #[]}).update a λo=>{cls:=o.cls,dict:=some i.objs.size,data:=o.data,slots:=o.slots}).get? a=some (⟨.ref C,some i.objs.size,.fields vs,j⟩:Obj):=
  aa0 _ l rfl
 show wpAny _ _ (Builtin.ObjectAttr.storeInDict i.objs.size (.str f _) f u) _ _ _;unfold Builtin.ObjectAttr.storeInDict Builtin.ObjectAttr.newKeyGuard;calc j' (L' (j' (wpAny_nsSet1 (Heap.Ns1.of_empty c) λn G L=>?_)));obtain⟨U,J,S,c,l,m⟩:=G.count (Within.cons f u Within.nil);calc j' (wpAny_lookBehind c (by rw[l];calc pastItsLine_dict (aae m (by rw[List.length_cons,List.length_nil,sizeLine_eq];lia))) ?_);calc L' ?_;show Q ⟨⟩ _;have T:n.get? a=some (⟨.ref C,some i.objs.size,.fields vs,j⟩:Obj):=(L.2 a F).trans k;have l:YN [(f,y)] i.objs.size n:=by
  refine⟨_,G,λc=>?_,λc k=>?_⟩
  ·show jT (List.lookup c [(f,y)]) (if c=f then some u else none);by_cases z:c=f
   ·rw[if_pos z,z];simp only[List.lookup,beq_self_eq_true];exact O
   ·rw[if_neg z];simp only[List.lookup,beq_eq_false_iff_ne.mpr z];exact aam
  ·by_cases z:c=f
   ·rw[z];simp
   ·exact absurd (if_neg z) k
 calc h i.objs.size _ R ?_;have p:(i.update a λo=>{cls:=o.cls,dict:=some i.objs.size,data:=o.data,slots:=o.slots}).get? a=some (⟨.ref C,some i.objs.size,.fields vs,j⟩:Obj):=aa0 _ q rfl;have c:Inv X pins σ (upd H a (XO a C (some i.objs.size) fl)) {heap:=i.update a λo=>{cls:=o.cls,dict:=some i.objs.size,data:=o.data,slots:=o.slots},gens:=g,drawn:=d,toks:=t,os:=v}:=
  I.write (x:=a) (e:=a) (by rw[e];calc aam) (.inl rfl) (λb N d z=>(Heap.get?_update_ne _ _ _ _ d).trans z) ⟨_,p⟩ (HB p P)
 calc c.laid (a:=i.objs.size) (λb N z=>?_) (by show(i.update a _).objs.size<=_;rw[Heap.size_update];calc K' _) (Vd l);by_cases r:b=a
 ·subst r;rw[p]at z;cases z;exact T
 ·have c:i.get? b=some N:=(Heap.get?_update_ne _ _ _ _ r).symm.trans z;calc(L.2 b (W' (T' c))).trans ((Heap.get?_update_ne _ _ _ _ r).trans (J' _ c))
end
end
section
structure q8(K:W.Frag)(mg:Str->Option Value)(x:Str)(C B:Addr):Prop where
 cl:fU K C B
 init:W.findIn K (.ref C) "__init__"=some (some (.builtin "ValueError.__init__"))
 mg:mg x=some (.ref C)
end
end L2
set_option maxHeartbeats 4000000
namespace PySem
variable {a j:Addr}{Q:Value->Shared->Prop}
section
variable {prog:Program}{w:World}{A:Around}{E:Value->Shared->Prop}{s:Shared}
theorem q9{n:Nat}{c:Array Value}{v:Value}(b:s.heap.IsTupleIter j a n)(f:s.heap.IsTuple a c)(h:c[n]?=some v)
  (q:∀g,g.IsTupleIter j a (n+1)->Heap.SameBut j s.heap g->Q v {s with heap:=g}):wpAny (model prog w) A (Builtin.SmallTypes.nextOf (.ref j)) Q E s:=by
 obtain⟨g,e,c,d⟩:=id b;obtain⟨k,g,_,l,i⟩:=f;unfold Builtin.SmallTypes.nextOf;refine j' (aaM (name:=Str.ofString "__next__") b.typeIs F.slot_tuple_iterator_next (wpAny_call_entry F.slot_tuple_iterator_next b.typeIs F.entry_tuple_iterator_next ?_ (F.args_tuple_iterator_next_1 _)));refine j' (m:=field (.ref j) 0) (aar e d (x:=.ref a) rfl ?_);show wpAny _ _ (if (Value.ref a==Value.none)=true then _ else _) _ _ _;rw[if_neg (by exact Bool.false_ne_true)];refine j' (m:=field (.ref j) 1) (aar e d (x:=.int n 0) rfl ?_);refine j' (m:=seqItems? (.ref a)) (aa8 g i ?_);simp only[Int.toNat_natCast,h];refine j' (wpAny_setField e d nofun (L' ⟨v,rfl,L' (q _ ⟨_,aa0 _ e (Obj.isFreed_of_fields (Obj.data_mapFields d _)),(Obj.cls_mapFields ..).trans c,?_⟩ (Heap.SameBut.update ..))⟩));rw[Obj.data_mapFields d];simp[rawInt]
theorem sr{n:Nat}{c:Array Value}(f:A.handled=none)(b:s.heap.IsTupleIter j a n)(h:s.heap.IsTuple a c)(i:c[n]?=none)
  (q:∀g e,Heap.ExtBut j s.heap g->(∃o,g.get? e=some o/\o.cls=.type "StopIteration")->E (.ref e) {s with heap:=g}):wpAny (model prog w) A (Builtin.SmallTypes.nextOf (.ref j)) Q E s:=by
 obtain⟨g,e,c,d⟩:=id b;obtain⟨k,c,_,l,g⟩:=h;unfold Builtin.SmallTypes.nextOf;refine j' (aaM (name:=Str.ofString "__next__") b.typeIs F.slot_tuple_iterator_next (wpAny_call_entry F.slot_tuple_iterator_next b.typeIs F.entry_tuple_iterator_next ?_ (F.args_tuple_iterator_next_1 _)));refine j' (m:=field (.ref j) 0) (aar e d (x:=.ref a) rfl ?_);show wpAny _ _ (if (Value.ref a==Value.none)=true then _ else _) _ _ _;rw[if_neg (by exact Bool.false_ne_true)];refine j' (m:=field (.ref j) 1) (aar e d (x:=.int n 0) rfl ?_);refine j' (m:=seqItems? (.ref a)) (aa8 c g ?_);simp only[Int.toNat_natCast,i];refine j' (wpAny_rule (j' (wpAny_setField e d nofun (j' (m:=newExc (.type "StopIteration") []) ?_))));simp only[newExc,newTuple];refine j' (aaO (j' (m:=firstArgMember _ _) (wpAny_of_eq (a:=Value.none) (by first|rfl|(simp only[firstArgMember];rfl)) (aaO ?_ (by size_fits)))) (by size_fits));simp only[raiseNew];refine j' (wpAny_handled ?_)
 first|rw[show A.in1.handled=none from f]|rw[f]
 calc j' (L' (wpAny_throw (q _ _ (((Heap.SameBut.update ..).extBut.push _).push _) ⟨_,V' _ rfl,rfl⟩)))
end
theorem Draws.tup{prog:Program}{w:World}{A:Around}(f:A.handled=none)(j a:Addr)(l:a≠j)(c:Array Value):
  Draws prog w A j [j,a] c.size (λi v=>c[i]?=some v) (λi h=>h.IsTupleIter j a i/\h.IsTuple a c) where
 live:=λ_ _ b=>let ⟨o,d,_⟩:=b.1;⟨o,d⟩
 frame:=λ_ _ _ b k=>⟨b.1.at λo e=>k j nofun o e,b.2.at λo e=>k a nofun o e⟩
 item:=λi s Q E d b q=>q9 b.1 b.2 (v:=c[i]) (by simp[d]) λg h e=>q _ g s.toks (by simp[d]) ⟨h,b.2.extBut e.extBut l⟩ e
 done:=λs Q E b q=>sr f b.1 b.2 nofun q
def AY(b:Bool)(h:Heap)(a:Addr)(c:Array Value):Prop:=if b=true then h.IsList a c else h.IsTuple a c
def pN(b:Bool)(h:Heap)(j a:Addr)(n:Nat):Prop:=if b=true then h.IsListIter j a n else h.IsTupleIter j a n
theorem pN.at{b:Bool}{h h':Heap}{n:Nat}(x:pN b h j a n)(k:∀o,h.get? j=some o->h'.get? j=some o):pN b h' j a n:=by
 cases b
 ·exact Heap.IsTupleIter.at x k
 ·calc Heap.IsListIter.at x k
theorem pN.obj{b:Bool}{h:Heap}{n:Nat}(x:pN b h j a n):∃o,h.get? j=some o/\∀v,o.data≠.cell v:=by
 cases b<;>(obtain⟨o,e,c,d⟩:=x;calc⟨o,e,λv z=>by rw[d]at z;cases z⟩)
theorem Draws.sq{prog:Program}{w:World}{A:Around}(d:A.handled=none)(b:Bool)(j a:Addr)(e:a≠j)(c:Array Value):
  Draws prog w A j [j,a] c.size (λi v=>c[i]?=some v) (λi h=>pN b h j a i/\AY b h a c):=by
 cases b
 ·exact Draws.tup d j a e c
 ·calc Draws.list d j a e c
end PySem
namespace PySem
variable {Q:Option Value->Shared->Prop}
structure ZA(z ti to i1 i2:Addr)(f1 f2:List Addr):Prop where
 a1:ti≠z
 a2:to≠z
 a3:i1≠z
 a4:i2≠z
 a5:ti≠to
 a6:ti≠i1
 a7:ti≠i2
 a8:to≠i1
 a9:to≠i2
 a10:i1≠i2
 b1:z∉f1
 b2:to∉f1
 b3:i2∉f1
 c1:z∉f2
 c2:to∉f2
 c3:i1∉f2
section
variable {prog:Program}{w:World}{A:Around}{E:Value->Shared->Prop}{s:Shared}{z ti to i1 i2:Addr}{f1 f2:List Addr}{n1 n2 k:Nat}{P1 P2:Nat->Value->Prop}{S1 S2:Nat->Heap->Prop}{a b:Value}
theorem Em{Q:Value->Shared->Prop}(Z:ZA z ti to i1 i2 f1 f2)(u:Draws prog w A i1 f1 n1 P1 S1)(B:Draws prog w A i2 f2 n2 P2 S2)(d:IsZip s.heap z ti to .none)(i:IsPair s.heap ti (.ref i1) (.ref i2))(C:IsPair s.heap to a b)
  (l:S1 k s.heap) (F:S2 k s.heap) (n:k<n1) (G:k<n2)
  (q:∀x y g e,P1 k x->P2 k y->IsZip g z ti to (rawInt s.heap.objs.size)->IsPair g to x y->S1 (k + 1) g->S2 (k + 1) g->IsPair g s.heap.objs.size x y->g.objs.size=s.heap.objs.size + 1->
   (∀c o,c≠z->c≠to->c≠i1->c≠i2->s.heap.get? c=some o->g.get? c=some o)->Q (.ref s.heap.objs.size) {s with heap:=g,toks:=e}):
  wpAny (model prog w) A (Builtin.«zip.__next__» ⟨[.ref z],[]⟩) (λe s'=>∃v,e=.done (.ret v)/\Q v s') E s:=by
 calc j' (m:=field (.ref z) 2) (aar d rfl (x:=.bool false) rfl (j' (m:=field (.ref z) 3) (aar d rfl (x:=.ref ti) rfl ?_)));calc j' (aa8 i rfl (j' (m:=Builtin.SmallTypes.ownedTupleIsFree (.ref z)) ?_));unfold Builtin.SmallTypes.ownedTupleIsFree;calc j' (aar d rfl (x:=.none) rfl (L' ?_));simp only[if_true];refine j' (wpAny_rule (j' (aar d rfl (x:=.ref to) rfl (j' (wpAny_setField_rec d nofun λj p r=>?_)))))
 replace p:IsZip j z ti to .ellipsis:=p
 calc j' ?_;simp only[List.zipIdx_cons,List.zipIdx_nil,List.forIn_cons,List.forIn_nil];calc j' (j' (wpAny_onRaise (j' (m:=Builtin.SmallTypes.nextOf (.ref i1)) ?_)));refine u.item k _ _ _ n (u.frame _ _ _ l λc g o e=>r.extBut c o (λh=>Z.b1 (h▸g)) e) λx d l L I i=>L' ?_
 replace i:Heap.SameBut i1 j d:=i
 have l:IsPair d to a b:=i.extBut _ _ Z.a8 (r.extBut _ _ Z.a2 C);refine j' (aa8 l rfl (j' (wpAny_updateSeq_pair l λn t j=>j' (wpAny_letGo (L' ?_)))))
 replace t:IsPair n to x b:=t
 replace j:Heap.SameBut to d n:=j
 calc j' (j' (wpAny_onRaise (j' (m:=Builtin.SmallTypes.nextOf (.ref i2)) ?_)));refine B.item k _ _ _ G (B.frame _ _ _ F λc g o e=>j.extBut c o (λh=>Z.c2 (h▸g)) (i.extBut c o (λh=>Z.c3 (h▸g)) (r.extBut c o (λh=>Z.c1 (h▸g)) e))) λy C d M K l=>L' ?_
 replace l:Heap.SameBut i2 n C:=l
 have F:IsPair C to x b:=l.extBut _ _ Z.a9 t;refine j' (aa8 F rfl (j' (wpAny_updateSeq_pair F λd v n=>j' (wpAny_letGo (L' (L' ?_))))))
 replace v:IsPair d to x y:=v
 replace n:Heap.SameBut to C d:=n
 calc j' (aa8 v rfl (j' (wpAny_newTuple ?_)));have t:d.objs.size=s.heap.objs.size:=by rw[n.1,l.1,j.1,i.1,r.1]
 have J:IsZip d z ti to .ellipsis:=n.extBut _ _ Z.a2.symm (l.extBut _ _ Z.a4.symm (j.extBut _ _ Z.a2.symm (i.extBut _ _ Z.a3.symm p)));have N:∀c o,c≠z->c≠to->c≠i1->c≠i2->s.heap.get? c=some o->d.get? c=some o:=λc o p C F G e=>n.extBut _ _ C (l.extBut _ _ G (j.extBut _ _ C (i.extBut _ _ F (r.extBut _ _ p e))));have O:S1 (k+1) d:=u.frame _ _ _ I λc g o e=>n.extBut c o (λh=>Z.b2 (h▸g)) (l.extBut c o (λh=>Z.b3 (h▸g)) (j.extBut c o (λh=>Z.b2 (h▸g)) e));have P:S2 (k+1) d:=B.frame _ _ _ K λc g o e=>n.extBut c o (λh=>Z.c2 (h▸g)) e;have j:z<d.objs.size:=T' J;refine j' (m:=Builtin.SmallTypes.ownedTupleHandOut (.ref z) (.ref d.objs.size)) ?_;unfold Builtin.SmallTypes.ownedTupleHandOut;have l:IsZip (d.push {cls:=.type "tuple",data:=.seq #[x,y]}) z ti to .ellipsis:=J' _ J;refine j' (wpAny_setField_rec l nofun λn i I=>?_)
 replace i:IsZip n z ti to (rawInt d.objs.size):=i
 refine wpAny_setField_rec i nofun λl n J=>?_
 replace n:IsZip l z ti to (rawInt d.objs.size):=n
 have r:∀c o,c≠z->d.get? c=some o->l.get? c=some o:=λc o p e=>J.extBut _ _ p (I.extBut _ _ p (J' _ e));have K:IsPair l d.objs.size x y:=J.extBut _ _ (Nat.ne_of_gt j) (I.extBut _ _ (Nat.ne_of_gt j) (V' _ rfl));have i:l.objs.size=d.objs.size+1:=by rw[J.1,I.1,Heap.size_push]
 rw[t]at n K i;calc L' ⟨_,rfl,?_⟩;show Q (.ref d.objs.size) _;rw[t];calc q x y l _ L M n (r _ _ Z.a2 v) (u.frame _ _ _ O λc g o e=>r c o (λh=>Z.b1 (h▸g)) e) (B.frame _ _ _ P λc g o e=>r c o (λh=>Z.c1 (h▸g)) e) K i λc o p C F G e=>r c o p (N c o p C F G e)
theorem HG{Q:Fin->Shared->Prop}(Z:ZA z ti to i1 i2 f1 f2)(K:Draws prog w A i1 f1 n1 P1 S1)(R:Draws prog w A i2 f2 n2 P2 S2)(r:IsZip s.heap z ti to .none)(T:IsPair s.heap ti (.ref i1) (.ref i2))(U:IsPair s.heap to a b)
  (W:S1 k s.heap) (X:S2 k s.heap) (l:k=n1\/(k<n1/\k=n2))
  (q:∀g e Y,(∀c o,c≠z->c≠to->c≠i1->c≠i2->s.heap.get? c=some o->g.get? c=some o)->(∃o,g.get? e=some o/\o.cls=.type "StopIteration")->E (.ref e) {s with heap:=g,toks:=Y}):
  wpAny (model prog w) A (Builtin.«zip.__next__» ⟨[.ref z],[]⟩) Q E s:=by
 calc j' (m:=field (.ref z) 2) (aar r rfl (x:=.bool false) rfl (j' (m:=field (.ref z) 3) (aar r rfl (x:=.ref ti) rfl ?_)));calc j' (aa8 T rfl (j' (m:=Builtin.SmallTypes.ownedTupleIsFree (.ref z)) ?_));unfold Builtin.SmallTypes.ownedTupleIsFree;calc j' (aar r rfl (x:=.none) rfl (L' ?_));simp only[if_true];refine j' (wpAny_rule (j' (aar r rfl (x:=.ref to) rfl (j' (wpAny_setField_rec r nofun λL G t=>?_)))))
 replace G:IsZip L z ti to .ellipsis:=G
 calc j' ?_;simp only[List.zipIdx_cons,List.zipIdx_nil,List.forIn_cons,List.forIn_nil];calc j' (j' (wpAny_onRaise (j' (m:=Builtin.SmallTypes.nextOf (.ref i1)) ?_)));have u:=K.frame _ _ _ W λc v o e=>t.extBut c o (λh=>Z.b1 (h▸v)) e;rcases l with l|⟨l1,l2⟩
 ·subst l;calc K.done _ _ _ u λp x d M=>?_;obtain⟨N,j,B⟩:=M
  replace d:Heap.ExtBut i1 L p:=d
  have S:IsZip p z ti to .ellipsis:=d _ _ Z.a3.symm G;have n:x≠z:=λy=>by subst y;rw[S]at j;cases j;simp at B
  exact wpAny_setField_rec S nofun λI _ i=>q I x s.toks (λc o C _ O _ y=>i.extBut _ _ C (d _ _ O (t.extBut _ _ C y))) ⟨N,i.extBut _ _ n j,B⟩
 ·subst l2;refine K.item k _ _ _ l1 u λx p P g l d=>L' ?_
  replace d:Heap.SameBut i1 L p:=d
  have g:IsPair p to a b:=d.extBut _ _ Z.a8 (t.extBut _ _ Z.a2 U);refine j' (aa8 g rfl (j' (wpAny_updateSeq_pair g λI l i=>j' (wpAny_letGo (L' ?_)))))
  replace i:Heap.SameBut to p I:=i
  calc j' (j' (wpAny_onRaise (j' (m:=Builtin.SmallTypes.nextOf (.ref i2)) ?_)));calc R.done _ _ _ (R.frame _ _ _ X λc v o e=>i.extBut c o (λh=>Z.c2 (h▸v)) (d.extBut c o (λh=>Z.c3 (h▸v)) (t.extBut c o (λh=>Z.c1 (h▸v)) e))) λg x J M=>?_;obtain⟨N,j,B⟩:=M
  replace J:Heap.ExtBut i2 I g:=J
  have F:IsZip g z ti to .ellipsis:=J _ _ Z.a4.symm (i.extBut _ _ Z.a2.symm (d.extBut _ _ Z.a3.symm G));have n:x≠z:=λy=>by subst y;rw[F]at j;cases j;simp at B
  calc wpAny_setField_rec F nofun λg _ e=>q g x P (λc o C l O p y=>e.extBut _ _ C (J _ _ p (i.extBut _ _ l (d.extBut _ _ O (t.extBut _ _ C y))))) ⟨N,e.extBut _ _ n j,B⟩
end
section
variable {prog:Program}{w:World}{A:Around}{E:Value->Shared->Prop}{s:Shared}{z ti to i1 i2:Addr}{f1 f2:List Addr}{n1 n2 k:Nat}{P1 P2:Nat->Value->Prop}{S1 S2:Nat->Heap->Prop}{a b:Value}
theorem ui(Z:ZA z ti to i1 i2 f1 f2)(f:Draws prog w A.in1 i1 f1 n1 P1 S1)(h:Draws prog w A.in1 i2 f2 n2 P2 S2)(e:IsZip s.heap z ti to .none)(i:IsPair s.heap ti (.ref i1) (.ref i2))(j:IsPair s.heap to a b)
  (l:S1 k s.heap) (m:S2 k s.heap) (n:k<n1) (p:k<n2)
  (q:∀x y g d,P1 k x->P2 k y->IsZip g z ti to (rawInt s.heap.objs.size)->IsPair g to x y->S1 (k + 1) g->S2 (k + 1) g->IsPair g s.heap.objs.size x y->g.objs.size=s.heap.objs.size + 1->
   (∀c o,c≠z->c≠to->c≠i1->c≠i2->s.heap.get? c=some o->g.get? c=some o)->Q (some (.ref s.heap.objs.size)) {s with heap:=g,toks:=d}):
  wpAny (model prog w) A (pyNext (.ref z)) Q E s:=by
 have c:s.TypeIs (.ref z) "zip":=⟨_,e,rfl⟩
 unfold pyNext;exact j' (wpAny_attempt (aaM (name:=Str.ofString "__next__") c F.slot_zip_next (wpAny_call_entry F.slot_zip_next c F.entry_zip_next
  (Em Z f h e i j l m n p λx y g d c o r t u v B C D=>L' (q x y g d c o r t u v B C D)) (F.args_zip_next_1 _))))
theorem wQ(Z:ZA z ti to i1 i2 f1 f2)(h:Draws prog w A.in1 i1 f1 n1 P1 S1)(i:Draws prog w A.in1 i2 f2 n2 P2 S2)(d:IsZip s.heap z ti to .none)(j:IsPair s.heap ti (.ref i1) (.ref i2))(m:IsPair s.heap to a b)
  (n:S1 k s.heap) (p:S2 k s.heap) (l:k=n1\/(k<n1/\k=n2))
  (q:∀g f,(∀c o,c≠z->c≠to->c≠i1->c≠i2->s.heap.get? c=some o->g.get? c=some o)->Q none {s with heap:=g,toks:=f}):wpAny (model prog w) A (pyNext (.ref z)) Q E s:=by
 have c:s.TypeIs (.ref z) "zip":=⟨_,d,rfl⟩
 unfold pyNext;refine j' (wpAny_attempt (aaM (name:=Str.ofString "__next__") c F.slot_zip_next (wpAny_call_entry F.slot_zip_next c F.entry_zip_next
  (HG Z h i d j m n p l λg e f c ⟨o,r,t⟩=>?_) (F.args_zip_next_1 _))))
 calc j' (wpAny_isInstance (T:="StopIteration") (b:=true) ⟨o,r,t⟩ isSubtype_stop (L' (q _ _ c)))
end
def KJ(b:Bool)(a:Addr):Obj:=if b=true then {cls:=.type "list_iterator",data:=.fields #[.ref a,.int 0 0]} else {cls:=.type "tuple_iterator",data:=.fields #[.ref a,.int 0 0]}
abbrev YQ(h:Heap)(b:Bool)(l:Addr):Heap:=h.push (KJ b l)
abbrev YR(h:Heap)(b c:Bool)(l m:Addr):Heap:=(YQ h b l).push (KJ c m)
abbrev YS(h:Heap)(b c:Bool)(l m:Addr):Heap:=(YR h b c l m).push {cls:=.type "tuple",data:=.seq #[.ref h.objs.size,.ref (YQ h b l).objs.size]}
abbrev YT(h:Heap)(b c:Bool)(l m:Addr):Heap:=(YS h b c l m).push {cls:=.type "tuple",data:=.seq #[.none,.none]}
abbrev Qx(h:Heap)(b c:Bool)(l m:Addr):Heap:=(YT h b c l m).push {cls:=.type "zip",data:=.fields #[.none,.bool false,.bool false,.ref (YR h b c l m).objs.size,.ref (YS h b c l m).objs.size]}
theorem En(b c:Bool)(l m:Addr)(xs i:Array Value):
  Meets (Builtin.«zip.__new__» ⟨[.type "zip",.ref l,.ref m],[]⟩) (λ_ R s=>AY b s.heap l xs/\AY c s.heap m i/\R (.ok (.ret (.ref (YT s.heap b c l m).objs.size))) {s with heap:=Qx s.heap b c l m}):=
 .of_wp λn w A R s h=>by
  obtain⟨a,g,d,e,f⟩:=s;obtain⟨j,k,h⟩:=h;have n:=sub_zip
  cases b<;>cases c
  ·have b:Heap.IsTuple (Shared.heap ⟨a,g,d,e,f⟩) l xs:=j;have L2:Heap.IsTuple (Shared.heap ⟨a.push {cls:=.type "tuple_iterator",data:=.fields #[.ref l,.int 0 0]},g,d,e,f⟩) m i:=Heap.IsTuple.push k _;wp_walk using aaI b,aaI L2;exact⟨_,rfl,h⟩
  ·have b:Heap.IsTuple (Shared.heap ⟨a,g,d,e,f⟩) l xs:=j;have L2:Heap.IsList (Shared.heap ⟨a.push {cls:=.type "tuple_iterator",data:=.fields #[.ref l,.int 0 0]},g,d,e,f⟩) m i:=Heap.IsList.push k _;wp_walk using aaI b,wpAny_pyIter_list L2;exact⟨_,rfl,h⟩
  ·have b:Heap.IsList (Shared.heap ⟨a,g,d,e,f⟩) l xs:=j;have L2:Heap.IsTuple (Shared.heap ⟨a.push {cls:=.type "list_iterator",data:=.fields #[.ref l,.int 0 0]},g,d,e,f⟩) m i:=Heap.IsTuple.push k _;wp_walk using wpAny_pyIter_list b,aaI L2;exact⟨_,rfl,h⟩
  ·have b:Heap.IsList (Shared.heap ⟨a,g,d,e,f⟩) l xs:=j;have L2:Heap.IsList (Shared.heap ⟨a.push {cls:=.type "list_iterator",data:=.fields #[.ref l,.int 0 0]},g,d,e,f⟩) m i:=Heap.IsList.push k _;wp_walk using wpAny_pyIter_list b,wpAny_pyIter_list L2;exact⟨_,rfl,h⟩
theorem su(b:Bool)(a:Addr):(KJ b a).isFreed=false:=by cases b<;>rfl
theorem AZ{b:Bool}{h:Heap}{j a:Addr}(e:h.get? j=some (KJ b a)):pN b h j a 0:=by
 cases b
 ·exact⟨_,e,rfl,rfl⟩
 ·calc⟨_,e,rfl,rfl⟩
theorem HH{prog:Program}{w:World}{A:Around}{E:Value->Shared->Prop}{s:Shared}{b c:Bool}{l m:Addr}{xs f:Array Value}{Q:Value->Shared->Prop}(h:AY b s.heap l xs)(i:AY c s.heap m f)
  (q:∀g,IsZip g (s.heap.objs.size + 4) (s.heap.objs.size + 2) (s.heap.objs.size + 3) .none->IsPair g (s.heap.objs.size + 2) (.ref s.heap.objs.size) (.ref (s.heap.objs.size + 1))->
   IsPair g (s.heap.objs.size+3) .none .none->pN b g s.heap.objs.size l 0->pN c g (s.heap.objs.size+1) m 0->g.objs.size=s.heap.objs.size+5->
   (∀d o,s.heap.get? d=some o->g.get? d=some o)->Q (.ref (s.heap.objs.size + 4)) {s with heap:=g}):
  wpAny (model prog w) A (call (.type "zip") [.ref l,.ref m]) Q E s:=by
 calc callType_new F.called_zip ∅ (F.typeCall_zip_2 _ _) (F.newCall_zip_2 _ _) (λa=>F.args_object_init_3 a _ _) F.entry_zip_new (En b c l m xs f) ⟨h,i,?_⟩;have e:(YQ s.heap b l).objs.size=s.heap.objs.size+1:=Heap.size_push ..;have a:(YR s.heap b c l m).objs.size=s.heap.objs.size+2:=by rw[Heap.size_push,e]
 have f:(YS s.heap b c l m).objs.size=s.heap.objs.size+3:=by rw[Heap.size_push,a]
 have g:(YT s.heap b c l m).objs.size=s.heap.objs.size+4:=by rw[Heap.size_push,f]
 have n:(Qx s.heap b c l m).objs.size=s.heap.objs.size+5:=by rw[Heap.size_push,g]
 have h:(Qx s.heap b c l m).get? (YT s.heap b c l m).objs.size=some _:=V' _ rfl;have i:(Qx s.heap b c l m).get? (YS s.heap b c l m).objs.size=some _:=J' _ (V' _ rfl);have j:(Qx s.heap b c l m).get? (YR s.heap b c l m).objs.size=some _:=J' _ (J' _ (V' _ rfl));have k:(Qx s.heap b c l m).get? (YQ s.heap b l).objs.size=some (KJ c m):=J' _ (J' _ (J' _ (V' _ (su ..))));have p:(Qx s.heap b c l m).get? s.heap.objs.size=some (KJ b l):=J' _ (J' _ (J' _ (J' _ (V' _ (su ..)))));show _/\_;rw[a,f,g]at h;rw[e,a]at j;rw[f]at i;rw[e]at k;rw[g];calc⟨⟨_,h,rfl⟩,q _ h j i (AZ p) (AZ k) n λd o x=>J' _ (J' _ (J' _ (J' _ (J' _ x))))⟩
theorem sx(l:Addr)(e:Array Value):
  Meets (Builtin.«enumerate.__new__» ⟨[.type "enumerate",.ref l],[]⟩) (λ_ R s=>s.heap.IsTuple l e/\
   R (.ok (.ret (.ref (s.heap.push (KJ false l)).objs.size))) {s with heap:=(s.heap.push (KJ false l)).push {cls:=.type "enumerate",data:=.fields #[.none,.bool false,.ref s.heap.objs.size,rawInt 0,.none,.none]}}):=
 .of_wp λf w A R s h=>by
  obtain⟨i,g,d,k,m⟩:=s;obtain⟨j,h⟩:=h;have p:=sub_enumerate;have b:Heap.IsTuple (Shared.heap ⟨i,g,d,k,m⟩) l e:=j;obtain⟨n,a,q,r,o⟩:=id j
  replace a:i.get? l=some n:=a
  wp_walk using AutoSeq1.wpAny_loadPart' a;calc wpAny_stack_any λt=>L' ?_;split
  ·rename_i c _ _ _ _ _
   cases(c==Value.type "enumerate")
   ·wp_walk using AutoSeq1.wpAny_loadPart' a,aaI b;exact⟨_,rfl,h⟩
   ·wp_walk using AutoSeq1.wpAny_loadPart' a,aaI b;exact⟨_,rfl,h⟩
  ·wp_walk using AutoSeq1.wpAny_loadPart' a,aaI b;calc⟨_,rfl,h⟩
end PySem
namespace L2
open PySem PySem.Spec PyProof.Rows
section
variable {a:Addr}{xs:List V}
section
variable {X:Cx}{pins:List (Addr×Obj)}{σ:St}{H:Hp}{s:Shared}
theorem Inv.Cq{t':Nat}{ch:List Addr}{h':Heap}(I:Inv X pins σ H s)(d:∀b∈ch,pH X pins H b)(k:∀b o,b∉ch->s.heap.get? b=some o->h'.get? b=some o):Inv X pins σ H {s with heap:=h',toks:=t'}:=by
 have f:∀b u,H b=some u->b∉ch:=λb u e z=>by rw[(d b z).1]at e;cases e
 refine I.step (g':=s.gens) (d':=s.drawn) (ch:=ch) (λb g=>?_) (λb o _ _ a e _=>k b o a e) (λb o _ _ a e _=>⟨o.slots,k b o a e⟩) (λ_ _ _ _ n=>n) (λb o a e=>⟨o,k b o a e⟩) (λ_ _ e=>e) (λ_ _ _ e=>e) (λb h e=>⟨#[],by rw[e];simp⟩) (λm h=>?_) (λb u e=>?_) I.bare
 ·obtain⟨n,i,p,j,l,m⟩:=d b g;exact⟨j,i,l,m⟩
 ·obtain⟨o,g,i,j,r⟩:=h;exact⟨o,g,i,k _ o (λz=>(d _ z).2.1 rfl) j,r⟩
 ·calc(I.aW b u e).aK (λc v a q=>k c v ?_ q) (λ_ q=>q) λ_ _ q=>q;rcases a with z | z
  ·rw[z];exact f b u e
  ·calc f c _ z
theorem Inv.Cr{t':Nat}{ch:List Addr}{h':Heap}{T:Addr}{g:List Value}(I:Inv X pins σ H s)(h:∀b∈ch,pH X pins H b)(k:∀b o,b∉ch->s.heap.get? b=some o->h'.get? b=some o)
  (i:s.heap.objs.size<=T) (l:Vals xs g) (p:xs.length<=sizeLine) (q:IsTup h' T g.toArray):Inv X pins σ (upd H T (.tup xs)) {s with heap:=h',toks:=t'}:=by
 have j:∀b u,H b=some u->b∉ch:=λb u e z=>by rw[(h b z).1]at e;cases e
 have d:H T=none:=I.aW.fresh i;have m:∀b o,s.heap.get? b=some o->b≠T:=λb o e=>W' (R' (T' e) i);refine I.step (g':=s.gens) (d':=s.drawn) (ch:=ch) (λb f=>?_) (λb o _ _ a e _=>k b o a e) (λb o _ _ a e _=>⟨o.slots,k b o a e⟩) (λb o _ e n=>by rw[ay (m b o e)];calc n) (λb o a e=>⟨o,k b o a e⟩)
  (λb t e=>by rw[ay (av e d)];calc e) (λb o u e=>by rw[ay (av e d)];calc e) (λb i e=>⟨#[],by rw[ay (av e d),e];simp⟩) (λm i=>?_) (λb u e=>?_) I.bare
 ·obtain⟨w,m,x,n,r,v⟩:=h b f;exact⟨n,m,r,v⟩
 ·obtain⟨o,m,n,v,r⟩:=i;exact⟨o,m,n,k _ o (λz=>(h _ z).2.1 rfl) v,r⟩
 ·by_cases f:b=T
  ·subst f;rw[af] at e
   cases e;exact⟨p,g,l,q⟩
  ·rw[ay f] at e;refine(I.aW b u e).aK (λc v a q=>k c v ?_ q) (λc q=>by rw[ay (av q d)];calc q) λc t q=>by rw[ay (av q d)];exact q
   rcases a with z|z
   ·rw[z];exact j b u e
   ·calc j c _ z
def Sq(b:Bool)(K:W.Frag)(H:Hp)(a:Addr)(xs:List V):Prop:=if b=true then aT K H a xs else bJ K H a xs
theorem Sq.l{K:W.Frag}(h:H a=some (.lst xs)):Sq true K H a xs:=aT.of h
theorem Sq.t{K:W.Frag}(h:H a=some (.tup xs)):Sq false K H a xs:=bJ.of h
theorem Inv.sq(I:Inv X pins σ H s){b:Bool}{a:Addr}{xs:List V}(h:Sq b X.K H a xs):∃c:List Value,Vals xs c/\AY b s.heap a c.toArray/\xs.length<=sizeLine:=by
 cases b
 ·exact I.tuple h
 ·obtain⟨c,r,p,z⟩:=I.list h;calc⟨c,r,p.isList,z⟩
theorem Inv.A0(I:Inv X pins σ H s){b:Bool}{a:Addr}{xs c:List V}(h:Sq b X.K H a xs)(h':Sq b X.K H a c):xs=c:=by
 cases b
 ·exact I.uP h h'
 ·calc I.xX h h'
theorem ND{u:HO}{b:Addr}(h:Rd H a u)(c:H b=none):a≠b:=λz=>by
 subst z;rcases h with h|⟨o,h⟩<;>(rw[c]at h;cases h)
theorem Inv.sy(I:Inv X pins σ H s){b:Bool}{a c:Addr}{xs:List V}(h:Sq b X.K H a xs)(f:pH X pins H c):a≠c:=by
 have d:∀o,X.K.lookup a=some o->a≠c:=λo e z=>by
  subst z;have i:=I.ok.mod.xV a o e;rcases f.2.2.2.1 with y|y
  ·exact I.ok.v8 a o i y
  ·exact absurd (R' (R' (T' i) I.ok.BX) y) (aaK _)
 cases b
 ·rcases h with h | ⟨o,j,n,g,_⟩
  ·exact ND h f.1
  ·exact d o g
 ·rcases h with h | ⟨o,j,n,g,_⟩
  ·exact ND h f.1
  ·calc d o g
end
end
section
def NF(b:Bool)(K:W.Frag)(a:Addr):It:=
 ⟨λi H=>∃xs x,Sq b K H a xs/\xs[i]?=some x,λi H y c=>∃T,H T=none/\y=.ref T/\∀xs,Sq b K H a xs->∃x,xs[i]?=some x/\c=upd H T (.tup [.int i,x]),λi H=>∃xs,Sq b K H a xs/\xs.length=i⟩
def YU(b c:Bool)(K:W.Frag)(a d:Addr):It:=
  ⟨λi H=>∃xs e x y,Sq b K H a xs/\Sq c K H d e/\xs[i]?=some x/\e[i]?=some y,λi H v f=>∃T,H T=none/\v=.ref T/\∀xs e,Sq b K H a xs->Sq c K H d e->∃x y,xs[i]?=some x/\e[i]?=some y/\f=upd H T (.tup [x,y]),
   λi H=>∃xs e,Sq b K H a xs/\Sq c K H d e/\(i=xs.length\/(i < xs.length/\i=e.length))⟩
theorem yq{a b:V}:([a,b]:List V).length<=sizeLine:=by show 2<=sizeLine;decide
theorem wR{a:List Value}{i:Nat}{u:Value}(h:a[i]?=some u):i<a.toArray.size:=by
 have:=(List.getElem?_eq_some_iff.mp h).1;simpa using this
theorem Eo{P:Program}{w:World}{K:W.Frag}{k:List Expr}{u:Nat}{v:Pos}(b:Bool)(e j a:Addr)(n:e≠j):
  Turn P w K (.Tuple k u v) (NF b K a) [e,j] e (λi h=>(∃d,IsEnum h e j i d)/\pN b h j a i) where
 mem:=by simp
 obj:=λi h l c C=>by
  obtain⟨⟨d,g⟩,m⟩:=l;simp only[List.mem_cons,List.not_mem_nil,or_false]at C;rcases C with rfl|rfl
  ·exact⟨_,g,λv z=>by
    have z':Data.fields _=Data.cell v:=z
    cases z'⟩
  ·exact m.obj
 keep:=λi h h' l k=>by
  obtain⟨⟨d,g⟩,m⟩:=l;exact⟨⟨d,k e nofun _ g⟩,m.at λo q=>k j nofun o q⟩
 item:=by
  intro X L M N C i F s σ H E I r l O;subst L M N;obtain⟨⟨d,g⟩,m⟩:=l;obtain⟨xs,x,t,R⟩:=O;obtain⟨G,S,p,hz⟩:=I.sq t;obtain⟨u,k,ru⟩:=S.get R;have v:a≠e:=I.sy t (r e nofun);have B:a≠j:=I.sy t (r j nofun);have D:=Draws.sq (prog:=X.prog) (w:=X.w) (A:=X.A.in1) (show X.A.in1.handled=none from I.ok.hd C) b j a B G.toArray;calc wpAny_pyNext_enum_itemD D g ⟨m,p⟩ (wR k) n (by simp[n,Ne.symm v]) λy P Y K ho s1 hT sz T=>?_;have ey:y=u:=by
   have:G.toArray[i]?=some u:=by simpa using k
   exact Option.some.inj (K.symm.trans this)
  subst ey;calc⟨_,rfl,wpAny_letOwnedTupleGo_enum ho λv k u=>?_⟩;have K:∀c o,c ∉ [e,j]->s.heap.get? c=some o->v.get? c=some o:=λc o J q=>(u.2 c λz=>J (by simp[z])).trans (T c o (λz=>J (by simp[z])) (λz=>J (by simp[z])) q);have Z:s.heap.objs.size≠e:=Nat.ne_of_gt (T' g);have e:IsTup v s.heap.objs.size ([.int i Y,y]:List Value).toArray:=⟨_,(u.2 _ Z).trans hT,rfl,_,rfl⟩
  have v:H s.heap.objs.size=none:=I.aW.fresh (K' _);refine⟨.ref s.heap.objs.size,upd H s.heap.objs.size (.tup [.int i,x]),I.Cr r K (K' _) (.cons ⟨Y,rfl⟩ (.cons ru .nil)) yq e,rfl,⟨_,v,rfl,λys P=>⟨x,by rw[I.A0 P t];calc R,rfl⟩⟩,⟨⟨y,?_⟩,?_⟩,λc U=>?_⟩
  ·simpa using k
  ·exact s1.1.at λo q=>(u.2 j (Ne.symm n)).trans q
  ·have sk:c≠s.heap.objs.size:=by
    simp only[List.mem_cons,List.not_mem_nil,or_false]at U;rcases U with rfl|rfl
    ·exact Ne.symm Z
    ·obtain⟨o,e,_⟩:=m.obj;exact W' (T' e)
   rw[ay sk];exact(r c U).1
 done:=by
  intro X L M N C i F s σ H E I r l O;subst L M N;obtain⟨⟨d,g⟩,m⟩:=l;obtain⟨xs,t,R⟩:=O;obtain⟨G,S,p,hz⟩:=I.sq t;have B:a≠j:=I.sy t (r j nofun);have D:=Draws.sq (prog:=X.prog) (w:=X.w) (A:=X.A.in1) (show X.A.in1.handled=none from I.ok.hd C) b j a B G.toArray;have e:G.toArray.size=i:=by have:=S.length;simp;lia
  refine wpAny_pyNext_enum_endD D g (by rw[e];calc⟨m,p⟩) λh' T=>⟨rfl,I.Cq (t':=s.toks) r λc o J q=>T c o (λz=>J (by simp[z])) q⟩
 self:=λ_ _ _ _ _ l h=>by
  obtain⟨⟨d,g⟩,m⟩:=l;calc wpAny_pyIter_enum g h
theorem Ep{prog:Program}{w:World}{A:Around}{E:Value->Shared->Prop}{s:Shared}{b:Bool}{l:Addr}{d:Array Value}{Q:Value->Shared->Prop}(e:AY b s.heap l d)
  (q:∀g,IsEnum g (s.heap.objs.size+1) s.heap.objs.size 0 .none->pN b g s.heap.objs.size l 0->g.objs.size=s.heap.objs.size+2->(∀c o,s.heap.get? c=some o->g.get? c=some o)->Q (.ref (s.heap.objs.size+1)) {s with heap:=g}):
  wpAny (model prog w) A (call (.type "enumerate") [.ref l]) Q E s:=by
 cases b
 ·refine callType_new F.called_enumerate ∅ (F.typeCall_enumerate_1 _) (F.newCall_enumerate_1 _) (λa=>F.args_object_init_2 a _) F.entry_enumerate_new (sx l d) ⟨e,?_⟩;have b:(s.heap.push (KJ false l)).objs.size=s.heap.objs.size+1:=Heap.size_push ..;show _/\_;rw[b];have a:=V' (s.heap.push (KJ false l)) (o:={cls:=.type "enumerate",data:=.fields #[.none,.bool false,.ref s.heap.objs.size,rawInt 0,.none,.none]}) rfl;rw[b]at a;refine⟨⟨_,a,rfl⟩,q _ a (AZ (J' _ (V' _ (su ..)))) (by rw[Heap.size_push,b]) λc o x=>J' _ (J' _ x)⟩
 ·calc call_enumerate_list e q
theorem m5{z a b c d:Addr}:z ∈ [z,a,b,c,d]/\a ∈ [z,a,b,c,d]/\b ∈ [z,a,b,c,d]/\c ∈ [z,a,b,c,d]/\d ∈ [z,a,b,c,d]:=⟨.head _,.tail _ (.head _),.tail _ (.tail _ (.head _)),.tail _ (.tail _ (.tail _ (.head _))),.tail _ (.tail _ (.tail _ (.tail _ (.head _))))⟩
theorem in5{z a b c d e:Addr}{P:Addr->Prop}(f:e ∈ [z,a,b,c,d])(g:P z)(h:P a)(i:P b)(j:P c)(k:P d):P e:=by
 simp only[List.mem_cons,List.not_mem_nil,or_false]at f;rcases f with rfl|rfl|rfl|rfl|rfl<;>assumption
theorem no5{z a b c d e:Addr}(f:e ∉ [z,a,b,c,d]):e≠z/\e≠a/\e≠b/\e≠c/\e≠d:=by
 simpa only[List.mem_cons,List.not_mem_nil,or_false,not_or] using f
theorem nd5{z a b c d:Addr}(N:[z,a,b,c,d].Nodup):(z≠a/\z≠b/\z≠c/\z≠d)/\(a≠b/\a≠c/\a≠d)/\(b≠c/\b≠d)/\c≠d:=by
 simpa only[List.nodup_cons,List.mem_cons,List.not_mem_nil,or_false,not_or,List.nodup_nil,not_false_eq_true,and_true] using N
theorem FG{x i a:Addr}(b:x≠i)(c:x≠a):x ∉ [i,a]:=by simp[b,c]
theorem HI{l:List Value}{i:Nat}{u x:Value}(h:l[i]?=some u)(g:l.toArray[i]?=some x):x=u:=by
 have:l.toArray[i]?=some u:=by simpa using h
 calc Option.some.inj (g.symm.trans this)
theorem HJ{P:Program}{w:World}{K:W.Frag}{es:List Expr}{kt:Nat}{tp:Pos}(b c:Bool)(z r m g j a d:Addr)(N:[z,r,m,g,j].Nodup):
  Turn P w K (.Tuple es kt tp) (YU b c K a d) [z,r,m,g,j] z (λi h=>IsZip h z r m .none/\IsPair h r (.ref g) (.ref j)/\(∃u v,IsPair h m u v)/\pN b h g a i/\pN c h j d i) where
 mem:=m5.1
 obj:=λi h t e l=>by
  obtain⟨G,B,⟨u,v,J⟩,L,M⟩:=t;refine in5 (P:=λe=>∃o,h.get? e=some o/\∀v,o.data≠.cell v) l ⟨_,G,λv z=>?_⟩ ⟨_,B,λv z=>?_⟩ ⟨_,J,λv z=>?_⟩ L.obj M.obj
  ·have k:Data.fields _=Data.cell v:=z
   cases k
  ·have k:Data.seq _ _=Data.cell v:=z
   cases k
  ·have k:Data.seq _ _=Data.cell v:=z
   cases k
 keep:=λi h h' t k=>by
  obtain⟨G,B,⟨u,v,J⟩,L,M⟩:=t;exact⟨k z m5.1 _ G,k r m5.2.1 _ B,⟨u,v,k m m5.2.2.1 _ J⟩,L.at λo q=>k g m5.2.2.2.1 o q,M.at λo q=>k j m5.2.2.2.2 o q⟩
 item:=by
  intro X hP hw hK hc i Y s σ H E I O t hg;subst hP hw hK;obtain⟨G,B,⟨u0,v0,J⟩,L,M⟩:=t;obtain⟨xs,ys,x,y,S,hr,hx,hy⟩:=hg;obtain⟨aP,rv,p,hz⟩:=I.sq S;obtain⟨YV,rt,pt,hzt⟩:=I.sq hr;obtain⟨u,k,ru⟩:=rv.get hx;obtain⟨v,n,rv'⟩:=rt.get hy;have C:∀e ∈ [z,r,m,g,j],e≠a:=λe l=>Ne.symm (I.sy S (O e l));have F:∀e ∈ [z,r,m,g,j],e≠d:=λe l=>Ne.symm (I.sy hr (O e l));obtain⟨⟨n1,n2,T,U⟩,⟨n5,n6,n7⟩,⟨n8,n9⟩,R⟩:=nd5 N;have hh:X.A.in1.handled=none:=I.ok.hd hc;have D1:=Draws.sq (prog:=X.prog) (w:=X.w) (A:=X.A.in1) hh b g a (Ne.symm (C g m5.2.2.2.1)) aP.toArray;have D2:=Draws.sq (prog:=X.prog) (w:=X.w) (A:=X.A.in1) hh c j d (Ne.symm (F j m5.2.2.2.2)) YV.toArray;have Z:ZA z r m g j [g,a] [j,d]:=⟨Ne.symm n1,Ne.symm n2,Ne.symm T,Ne.symm U,n5,n6,n7,n8,n9,R,FG T (C z m5.1),FG n8 (C m m5.2.2.1),FG (Ne.symm R) (C j m5.2.2.2.2),FG U (F z m5.1),FG n9 (F m m5.2.2.1),FG R (F g m5.2.2.2.1)⟩
  calc ui Z D1 D2 G B J ⟨L,p⟩ ⟨M,pt⟩ (wR k) (wR n) λx' y' h1 tk K py FA aaL s1 s2 hT sz kk=>?_;have ex:x'=u:=HI k K;have ey:y'=v:=HI n py;subst ex ey;calc⟨_,rfl,wpAny_letOwnedTupleGo_zip FA λu v k=>?_⟩;have K:∀e o,e ∉ [z,r,m,g,j]->s.heap.get? e=some o->u.get? e=some o:=λe o l q=>
   have n:=no5 l;(k.2 e n.1).trans (kk e o n.1 n.2.2.1 n.2.2.2.1 n.2.2.2.2 q)
  have n:s.heap.objs.size≠z:=Nat.ne_of_gt (T' G);have Qz:IsTup u s.heap.objs.size ([x',y']:List Value).toArray:=⟨_,(k.2 _ n).trans hT,rfl,_,rfl⟩
  have u:H s.heap.objs.size=none:=I.aW.fresh (K' _);refine⟨.ref s.heap.objs.size,upd H s.heap.objs.size (.tup [x,y]),I.Cr O K (K' _) (.cons ru (.cons rv' .nil)) yq Qz,rfl,
   ⟨_,u,rfl,λK NG Fz UP=>⟨x,y,by rw[I.A0 Fz S];calc hx,by rw[I.A0 UP hr];calc hy,rfl⟩⟩,⟨v,?_,⟨_,_,(k.2 m (Ne.symm n2)).trans aaL⟩,s1.1.at λo q=>(k.2 g (Ne.symm T)).trans q,s2.1.at λo q=>(k.2 j (Ne.symm U)).trans q⟩,λe l=>?_⟩
  ·exact(k.2 r (Ne.symm n1)).trans (kk r _ (Ne.symm n1) n5 n6 n7 B)
  ·have u:e≠s.heap.objs.size:=in5 (P:=λe=>e≠s.heap.objs.size) l (Ne.symm n) (W' (T' B)) (W' (T' J)) (let ⟨_,k,_⟩:=L.obj;W' (T' k)) (let ⟨_,k,_⟩:=M.obj;W' (T' k));rw[ay u];exact(O e l).1
 done:=by
  intro X hP hw hK hc i Y s σ H E I O t hg;subst hP hw hK;obtain⟨G,B,⟨u0,v0,J⟩,L,M⟩:=t;obtain⟨xs,ys,S,hr,hx⟩:=hg;obtain⟨aP,rv,p,hz⟩:=I.sq S;obtain⟨YV,rt,pt,hzt⟩:=I.sq hr;have C:∀e ∈ [z,r,m,g,j],e≠a:=λe l=>Ne.symm (I.sy S (O e l));have F:∀e ∈ [z,r,m,g,j],e≠d:=λe l=>Ne.symm (I.sy hr (O e l));obtain⟨⟨n1,n2,T,U⟩,⟨n5,n6,n7⟩,⟨n8,n9⟩,R⟩:=nd5 N;have hh:X.A.in1.handled=none:=I.ok.hd hc;have D1:=Draws.sq (prog:=X.prog) (w:=X.w) (A:=X.A.in1) hh b g a (Ne.symm (C g m5.2.2.2.1)) aP.toArray;have D2:=Draws.sq (prog:=X.prog) (w:=X.w) (A:=X.A.in1) hh c j d (Ne.symm (F j m5.2.2.2.2)) YV.toArray;have Z:ZA z r m g j [g,a] [j,d]:=⟨Ne.symm n1,Ne.symm n2,Ne.symm T,Ne.symm U,n5,n6,n7,n8,n9,R,FG T (C z m5.1),FG n8 (C m m5.2.2.1),FG (Ne.symm R) (C j m5.2.2.2.2),FG U (F z m5.1),FG n9 (F m m5.2.2.1),FG R (F g m5.2.2.2.1)⟩
  have a:=rv.length;have a:=rt.length;exact wQ Z D1 D2 G B J ⟨L,p⟩ ⟨M,pt⟩ (by simp only[List.size_toArray];lia) λh' tk kk=>⟨rfl,I.Cq O λe o l q=>kk e o (λw=>l (by simp[w])) (λw=>l (by simp[w])) (λw=>l (by simp[w])) (λw=>l (by simp[w])) q⟩
 self:=λ_ _ _ _ _ t h=>wpAny_pyIter_zip t.1 h
section
variable {X:Cx}
def HK(K:W.Frag)(a:TA):TI:=λσ H R=>a σ H λvs c=>match vs with
 | [.ref a]=>∃b xs,Sq b K c a xs/\R (NF b K a) c
 |_=>False
def QB(K:W.Frag)(a:TA):TI:=λσ H R=>a σ H λvs e=>match vs with
 | [.ref a,.ref d]=>∃b c xs f,Sq b K e a xs/\Sq c K e d f/\R (YU b c K a d) e
 |_=>False
theorem jZ{l:List Expr}{m:Nat}{n:Pos}{a:Expr}{h:TA}{p d:Pos}(o:Gl X "enumerate")(t:X.mg "enumerate"=none)(u:PA X [a] h)(v:starEach [a] X.env=[(false,eval a X.env)]:=by rfl):
  PI X (.Tuple l m n) (.Call (.Name "enumerate" p) [a] [] d) (HK X.K h):=by
 calc⟨?_⟩;intro c s σ H R I h;calc Call_ (pG I o t boot_enumerate (PyProof.Rows.callWith_type1 (cK (u d c s σ H _ I h) λm e l=>?_) (by rw[v];rfl) rfl));obtain⟨h,i,f,g,d⟩:=l
 match h,g,d with
 | [.ref a],g,d=>
  obtain⟨b,h,w,q⟩:=d
  cases g with
  |cons r x=>
   cases x
   cases r;obtain⟨d,g,p,h⟩:=f.sq w;calc Ep p λg d h m l=>wpAny_pyIter_enum d ?_;have m:Inv X c σ i {e with heap:=g}:=f.kept (t':=e.toks) l;calc⟨_,[e.heap.objs.size+1,e.heap.objs.size],_,_,i,rfl,m,Eo b _ _ a (Nat.succ_ne_self _),⟨⟨_,d⟩,h⟩,λc j=>?_,q⟩;have k:e.heap.objs.size<=c:=by
    simp only[List.mem_cons,List.not_mem_nil,or_false]at j;rcases j with rfl|rfl
    ·exact Nat.le_succ _
    ·exact K' _
   calc f.Gq k (f.aW.fresh k)
theorem HL{s:List Expr}{t:Nat}{u:Pos}{a b:Expr}{h:TA}{p g:Pos}(v:Gl X "zip")(w:X.mg "zip"=none)(x:PA X [a,b] h)(y:starEach [a,b] X.env=[(false,eval a X.env),(false,eval b X.env)]:=by rfl)(l:starEach [b] X.env=[(false,eval b X.env)]:=by rfl):
  PI X (.Tuple s t u) (.Call (.Name "zip" p) [a,b] [] g) (QB X.K h):=by
 calc⟨?_⟩;intro e s σ H R I h;calc Call_ (pG I v w boot_zip (PyProof.Rows.callWith_type1 (cK (x g e s σ H _ I h) λt f p=>?_) (by rw[y,l]) (by rw[l];rfl)));obtain⟨h,m,i,j,g⟩:=p
 match h,j,g with
 | [.ref a,.ref d],j,g=>
  obtain⟨b,c,h,l,z,A,q⟩:=g
  cases j with
  |cons r k=>
   cases k with
   |cons B k=>
    cases k
    cases r
    cases B;obtain⟨g,h,j,k⟩:=i.sq z;obtain⟨h,l,k,g⟩:=i.sq A;calc HH j k λg h l p r s u t=>wpAny_pyIter_zip h ?_;have j:Inv X e σ m {f with heap:=g}:=i.kept (t':=f.toks) t;refine⟨_,[f.heap.objs.size+4,f.heap.objs.size+2,f.heap.objs.size+3,f.heap.objs.size,f.heap.objs.size+1],_,_,m,rfl,j,HJ b c _ _ _ _ _ a d ?_,⟨h,l,⟨_,_,p⟩,r,s⟩,λe n=>?_,q⟩
    ·simp
    ·have o:f.heap.objs.size<=e:=by
      simp only[List.mem_cons,List.not_mem_nil,or_false]at n;rcases n with rfl|rfl|rfl|rfl|rfl
      ·exact Nat.le_add_right _ _
      ·exact Nat.le_add_right _ _
      ·exact Nat.le_add_right _ _
      ·exact K' _
      ·exact Nat.le_add_right _ _
     calc i.Gq o (i.aW.fresh o)
end
end
end L2
namespace HT
open PySem PyProof.Rows
section
variable {prog:Program}{w:World}{A:Around}{E:Value->Shared->Prop}{s:Shared}
theorem oE{t e:Addr}{a:Array Value}{f g:Value}{b d:Option Int}{Q:Value->Shared->Prop}(c:IsTup s.heap t a)(i:s.heap.IsSliceOf e f g .none)(pl:IsPart f b)(j:IsPart g d)
  (g:eO a.size 0 b=0/\eO a.size a.size d=a.size) (h:Q (.ref t) s):wpAny (model prog w) A (getItem (.ref t) (.ref e)) Q E s:=by
 obtain⟨k,l,n,f⟩:=id i;have f:s.TypeIs (.ref e) "slice":=⟨k,l,n⟩
 unfold getItem
 try with_reducible refine aaH ?_
 first|calc j' (L' ?_)|skip
 refine j' (wpAny_sequenceKey c.typeIs ∅ (j' (aaM (name:=Str.ofString "__getitem__") c.typeIs aa1
  (wpAny_call_entry aa1 c.typeIs entry_tuple_getitem ?_ (args_tuple_getitem _ _)))))
 calc j' (m:=Builtin.Tuple.tupleItemsOf (.ref t)) (tupleItemsOf_ c (j' (wpAny_typeOf f ?_)));rw[if_pos ∅];calc j' (jJ i pl j ?_);have e:(((eO a.size 0 b:Nat):Int)==0&&(1:Int)==1&&(eO a.size a.size d-eO a.size 0 b)==a.size)=true:=by
  rw[g.1,g.2];simp
 show wpAny _ _ (if (((eO a.size 0 b:Nat):Int)==0&&(1:Int)==1&&(eO a.size a.size d-eO a.size 0 b)==a.size)=true then _ else _) _ _ s;rw[if_pos e];calc j' (m:=Builtin.Tuple.tupleIsExact (.ref t)) ?_;unfold Builtin.Tuple.tupleIsExact;calc j' (wpAny_typeOf c.typeIs (L' ?_));rw[if_pos ∅];calc j' (wpAny_rule (L' ⟨_,rfl,L' h⟩))
end
end HT
namespace L2
open PySem PySem.Spec PyProof.Rows
section
variable {H:Hp}{Q:VK}{K:W.Frag}
section
variable {X:Cx}
def uSl:V->Option Int->Option Int->Hp->VK->Prop:=λx c d H Q=>match x with
 | .ref a=>(∃xs,H a=some (.lst xs)/\∀p,H p=none->Q (.ref p) (upd H p (.lst (fe xs c d))))\/(∃xs,H a=some (.tup xs)/\∀p b,au H b->b p=some (.tup (fe xs c d))->Q (.ref p) b)
 |_=>False
theorem NH{a:Addr}{b c:Option Int}:uSl (.ref a) b c H Q=((∃xs,H a=some (.lst xs)/\∀p,H p=none->Q (.ref p) (upd H p (.lst (fe xs b c))))\/(∃xs,H a=some (.tup xs)/\∀p d,au H d->d p=some (.tup (fe xs b c))->Q (.ref p) d)):=rfl
theorem aaP:UH X uSl:=by
 intro c s σ H x v t u i j w Q I l m n o h
 cases x<;>first
  |calc(show False from h).elim
  |skip
 rename_i a;rcases h with⟨b,d,q⟩|⟨b,d,q⟩
 ·exact Ce c s σ H _ v t u i j w Q I l m n o ⟨a,b,rfl,aT.of d,q⟩
 ·by_cases k:HT.eO b.length 0 i=0/\HT.eO b.length b.length j=b.length
  ·cases l;obtain⟨z,r,y,C⟩:=I.tuple (bJ.of d);have g:z.toArray.size=b.length:=by rw[List.size_toArray];exact r.length.symm
   refine⟨"tuple",_,PyProof.Rows.slot_tuple_getitem.lookup,y.typeIs,HT.oE y m n o (by rw[g];exact k) ⟨.ref a,H,I,rfl,q a H (au.refl H) ?_⟩⟩;have e:fe b i j=b:=by
    unfold fe;rw[k.1,k.2];simp
   rw[e];exact d
  ·calc PV c s σ H _ v t u i j w Q I l m n o ⟨a,b,rfl,bJ.of d,k,λp B=>q p _ (au.new _ B) af⟩
theorem wU{e:Expr}{b:TE}{c d:Option Expr}{f g:TO}{a h:Pos}(i:PE X e b)(j:PO X c f)(k:PO X d g):PE X (.Subscript e (.Slice c d none h) a) (UI uSl b f g):=yc aaP i j k
def YW:R2:=λx y H Q=>match x,y with
 | .int i,.int j=>Q (.int (i+j)) H
 | .str i,.str j=>i.length+j.length<=sizeLine/\Q (.str (i++j)) H
 | .ref a,.ref b=>(∃xs c,H a=some (.lst xs)/\H b=some (.lst c)/\xs.length + c.length<=sizeLine/\∀p,H p=none->Q (.ref p) (upd H p (.lst (xs++c))))\/
   (∃xs c,H a=some (.tup xs)/\H b=some (.tup c)/\xs.length+c.length<=sizeLine/\∀p d,au H d->d p=some (.tup (xs++c))->Q (.ref p) d)
 |_,_=>False
theorem HM{i j:Int}:YW (.int i) (.int j) H Q=Q (.int (i+j)) H:=rfl
theorem HN{i j:Str}:YW (.str i) (.str j) H Q=(i.length+j.length<=sizeLine/\Q (.str (i++j)) H):=rfl
theorem HQ {a b:Addr}:YW (.ref a) (.ref b) H Q=((∃xs c,H a=some (.lst xs)/\H b=some (.lst c)/\xs.length + c.length<=sizeLine/\∀p,H p=none->Q (.ref p) (upd H p (.lst (xs++c))))\/
      (∃xs c,H a=some (.tup xs)/\H b=some (.tup c)/\xs.length + c.length<=sizeLine/\∀p d,au H d->d p=some (.tup (xs++c))->Q (.ref p) d)):=rfl
theorem cQ:fQ X (binaryOp .Add) YW:=by
 intro c s σ H x y v u Q I d e h
 cases x<;>cases y<;>first
  |calc(show False from h).elim
  |calc Pw c s σ H _ _ v u Q I d e ⟨_,_,rfl,rfl,h⟩
  |calc Aq c s σ H _ _ v u Q I d e ⟨_,_,rfl,rfl,h.1,h.2⟩
  |skip
 rename_i a b;rcases h with⟨k,l,f,g,m,i⟩|⟨k,l,f,g,m,i⟩
 ·exact Qd c s σ H _ _ v u Q I d e ⟨_,_,k,l,rfl,rfl,f,g,m,i⟩
 ·by_cases q:k=[]
  ·subst q
   cases d
   cases e;obtain⟨S,D,E,_⟩:=I.tuple (bJ.of f);obtain⟨T,U,G,_⟩:=I.tuple (bJ.of g)
   cases D;obtain⟨⟨J,K,r,L⟩,t,w,n,A⟩:=id E;obtain⟨⟨M,N,o,O⟩,B,C,P,j⟩:=id G;simp only at w A C j;subst w A C j;exact concat_meets ⟨_,t,rfl⟩ ⟨_,B,rfl⟩ noFill_tuple_add seq_tuple_add PySem.F.slot_tuple_add PySem.F.entry_tuple_add (PySem.F.args_tuple_add_2 _ _)
    (tuple_addW0 a b _ _ n P K N L O nofun) ⟨t,B,⟨.ref b,H,I,rfl,i b H (au.refl H) (by simpa using g)⟩⟩
  ·calc Lr c s σ H _ _ v u Q I d e ⟨_,_,k,l,rfl,rfl,bJ.of f,bJ.of g,q,m,λz=>?_,λ_ p R=>i p _ (au.new _ R) af⟩;subst z;calc i a H (au.refl H) (by simpa using f)
def Vh(K:W.Frag):List V->Hp->VK->Prop:=λxs H Q=>match xs with
 | [.ref p]=>∃bs:List Bool,aT K H p (bs.map V.bl)/\Q (.bl (bs.all id)) H
 |_=>False
theorem HR{p:Addr}:Vh K [.ref p] H Q=∃bs:List Bool,aT K H p (bs.map V.bl)/\Q (.bl (bs.all id)) H:=rfl
theorem Cs:∀{bs:List Bool}{us:List Value},Vals (bs.map V.bl) us->us=bs.map Value.bool
 | [],_,.nil=>rfl
 |b::bs,_,.cons r t=>by
  cases r;rw[Cs t];rfl
theorem all_range:∀(bs:List Bool),((List.range bs.length).all λi=>bs.getD i false)=bs.all id:=by
 intro bs;induction bs with
 |nil=>rfl
 |cons b r a=>
  rw[List.length_cons,List.range_succ_eq_map,List.all_cons,List.all_map,List.all_cons];have:((λi=>(b::r).getD i false) ∘ Nat.succ)=λi=>r.getD i false:=by funext i;simp
  rw[this,a];rfl
theorem HS{prog:Program}{w:World}{A:Around}{bs:List Bool}:TruthOf prog w A (λi v=>(bs.map Value.bool).toArray[i]?=some v) (λi=>bs.getD i false):=by
 intro i v s Q E e c;have a:(bs.map Value.bool)[i]?=some v:=by simpa using e
 rw[List.getElem?_map]at a
 cases d:bs[i]? with
 |none=>rw[d]at a;cases a
 |some b=>
  rw[d]at a
  cases a;have:bs.getD i false=b:=by rw[List.getD_eq_getElem?_getD,d];rfl
  replace c:Q (bs.getD i false) s:=c
  rw[this]at c;calc aaA c
theorem jK(d:X.calm=true):fw X (.builtin "all") (Vh X.K):=by
 intro c s σ H f k Q I r h
 match f,r,h with
 | [.ref p],r,h=>
  obtain⟨a,g,q⟩:=h;obtain⟨u,rfl,i⟩:=Vals.one r
  cases i;obtain⟨c,j,b,f⟩:=I.list g;have e:=Cs j;subst e;refine call_all_walk (wpAny_pyIter_list b.isList ⟨s.heap.objs.size,_,_,_,_,_,λi=>a.getD i false,rfl,Walks.list (show X.A.in1.handled=none from I.ok.hd d) _ p ?_ (a.map Value.bool).toArray,⟨⟨_,V' _ rfl,rfl,rfl⟩,b.isList.push _⟩,HS,λf g c=>?_⟩)
  ·obtain⟨o,e,_⟩:=b.isList;exact W' (T' e)
  ·have:(a.map Value.bool).toArray.size=a.length:=by simp
   rw[this,all_range];calc⟨.bl _,H,I.kept λb o e=>c b o (by simp[Nat.ne_of_lt (Heap.lt_size e)]) (J' _ e),rfl,q⟩
def yr:List V->Option (List Value)
 | []=>some []
 | .ty n::r=>(yr r).map (.type n::·)
 |_=>none
theorem yt:∀{xs:List V}{us a:List Value},Vals xs us->yr xs=some a->us=a
  | [],_,_,.nil,h=>by cases h;rfl
  |x::xs,_,a,.cons r t,h=>by
    cases x<;>first
      |cases h
      | (rename_i n
         unfold yr at h;obtain⟨b,c,d⟩:=Option.map_eq_some_iff.mp h
         cases r;rw[<-d,yt t c])
def LQ(K:W.Frag):List V->Hp->VK->Prop:=λxs H Q=>match xs with
 | [x,.ty n]=>∃t b,gM K H x t/\W.kitOne K t (.type n)=some b/\Q (.bl b) H
 | [x,.ref p]=>∃t b a c,gM K H x t/\H p=some (.tup a)/\yr a=some c/\W.kitAny K t c=some b/\Q (.bl b) H
 |_=>False
theorem HU{x:V}{n:String}:LQ K [x,.ty n] H Q=∃t b,gM K H x t/\W.kitOne K t (.type n)=some b/\Q (.bl b) H:=rfl
theorem HV{x:V}{p:Addr}:LQ K [x,.ref p] H Q=∃t b a c,gM K H x t/\H p=some (.tup a)/\yr a=some c/\W.kitAny K t c=some b/\Q (.bl b) H:=rfl
theorem A7{x:V}{u t:Value}{pins:List (Addr×Obj)}{σ:St}{H:Hp}{s:Shared}{A:Around}{E:Value->Shared->Prop}{Q:Value->Shared->Prop}{b:Bool}{m:Addr}{r:List Value}(I:Inv X pins σ H s)(c:RelV x u)(C:gM X.K H x t)
  (D:IsTup s.heap m r.toArray) (e:W.kitAny X.K t r=some b) (h:∀x,Q (.bool b) {s with toks:=x}):wpAny (model X.prog X.w) A (call (.builtin "isinstance") [u,.ref m]) Q E s:=by
 obtain⟨⟨m,r,b,x⟩,d,v,n,hd⟩:=id D;simp only at v hd;subst v hd
 cases C with
 |bI=>cases(show u=Value.none from c);calc W.kia_tup W.kitx_none I.gG aam d e (λz=>nomatch z) h
 |bl y=>cases(show u=Value.bool y from c);calc W.kia_tup W.kitx_bool I.gG aam d e (λz=>nomatch z) h
 |int i=>obtain⟨t,q⟩:=(show ∃t,u=Value.int i t from c);cases q;calc W.kia_tup W.kitx_int I.gG aam d e (λz=>nomatch z) h
 |str y=>obtain⟨t,q⟩:=(show ∃t,u=Value.str y t from c);cases q;calc W.kia_tup W.kitx_str I.gG aam d e (λz=>nomatch z) h
 |Nh y=>obtain⟨t,q⟩:=(show ∃t,u=Value.float y t from c);cases q;calc W.kia_tup W.kitx_float I.gG aam d e (λz=>nomatch z) h
 | @lst a j f=>
  cases(show u=Value.ref a from c);obtain⟨_,_,n,_,g⟩:=(show cH X.prog X.w H s.heap a (.lst j) from I.aW a _ f)
  calc W.kia_tup W.kitx_list I.gG ⟨_,g,rfl⟩ d e (λz=>nomatch z) h
 | @zX a F j f=>
  cases(show u=Value.ref a from c);obtain⟨_,_,_,n,_,g⟩:=(show cH X.prog X.w H s.heap a (.zX F (.lst j)) from I.aW a _ f)
  calc W.kia_tup W.kitx_list I.gG ⟨_,g,rfl⟩ d e (λz=>nomatch z) h
 | @tup a j f=>
  cases(show u=Value.ref a from c);obtain⟨_,_,_,p⟩:=(show cH X.prog X.w H s.heap a (.tup j) from I.aW a _ f)
  obtain⟨o,g,k,_⟩:=p;calc W.kia_tup W.kitx_tuple I.gG ⟨o,g,k⟩ d e (λz=>nomatch z) h
 | @dK a l f=>
  cases(show u=Value.ref a from c);obtain⟨_,_,b,_,p⟩:=(show cH X.prog X.w H s.heap a (.dK l) from I.aW a _ f)
  obtain⟨o,G,J,g,k,_⟩:=p;calc W.kia_tup W.kitx_dict I.gG ⟨o,g,k.1⟩ d e (λz=>nomatch z) h
 | @dT a l f=>
  cases(show u=Value.ref a from c);obtain⟨_,_,j,_,o,G,J,g,k,_⟩:=(show cH X.prog X.w H s.heap a (.dT l) from I.aW a _ f)
  calc W.kia_tup W.kitx_dict I.gG ⟨o,g,k.1⟩ d e (λz=>nomatch z) h
 | @ins a C b g f B L M N P=>
  cases(show u=Value.ref a from c);obtain⟨b,O,_⟩:=oo I.aW f;obtain⟨a,J,_⟩:=O.look;calc W.kia_tup (W.kitx_own (B.get _) B.hd L M N P) I.gG J d e (λz=>nomatch z) h
theorem eB:fw X (.builtin "isinstance") (LQ X.K):=by
 intro f s σ H g n Q I r h
 match g,r,h with
 | [x,.ty n],r,h=>
  obtain⟨t,b,ty,e,q⟩:=h;obtain⟨u,i,rfl,a,c⟩:=vals2 r
  cases c;calc uS I a ty e λj=>⟨.bl b,H,I.tok _,rfl,q⟩
 | [x,.ref p],r,h=>
  obtain⟨t,b,f,g,ty,k,d,e,q⟩:=h;obtain⟨u,i,rfl,a,c⟩:=vals2 r
  cases c;obtain⟨f,l,m,g⟩:=I.tuple (bJ.of k);have o:=yt l d;subst o;calc A7 I a ty m e λj=>⟨.bl b,H,I.tok _,rfl,q⟩
end
end
section
variable {a:Addr}{D:List (Str×V)}
section
variable {X:Cx}
def Vi:V->List V->Hp->VK->Prop:=λx vs H Q=>match x,vs with
 | .ref l,[y]=>∃xs,H l=some (.lst xs)/\xs.length<sizeLine/\Q .bI (upd H l (.lst (xs++[y])))
 |_,_=>False
theorem HW{l:Addr}{y:V}{H:Hp}{Q:VK}:Vi (.ref l) [y] H Q=∃xs,H l=some (.lst xs)/\xs.length<sizeLine/\Q .bI (upd H l (.lst (xs++[y]))):=rfl
theorem bN:PX X "list.append" Vi:=by
 intro a s σ H x c v d Q I e b h
 match x,c,b,h with
 | .ref l,[y],b,⟨c,f,g,h⟩=>calc u7 a s σ H _ _ v d Q I e b ⟨l,c,y,rfl,rfl,f,g,h⟩
def Vj:V->List V->Hp->VK->Prop:=λx vs H Q=>match x,vs with
 | .ref l,[.ref b]=>∃xs a,H l=some (.lst xs)/\H b=some (.lst a)/\xs.length+a.length<=sizeLine/\Q .bI (upd H l (.lst (xs++a)))
 |_,_=>False
theorem HX{l b:Addr}{H:Hp}{Q:VK}:Vj (.ref l) [.ref b] H Q=∃xs a,H l=some (.lst xs)/\H b=some (.lst a)/\xs.length+a.length<=sizeLine/\Q .bI (upd H l (.lst (xs++a))):=rfl
theorem LR:PX X "list.extend" Vj:=by
 intro a s σ H x b v d Q I e c h
 match x,b,c,h with
 | .ref l,[.ref b],c,⟨f,g,h,i,j,k⟩=>calc Ea a s σ H _ _ v d Q I e c ⟨l,b,f,g,rfl,rfl,h,i,j,k⟩
def HY(a b:TE):TS:=λD σ H=>a σ H λx c=>b σ c λy a=>∃l i xs k,x=.ref l/\y=.int i/\a l=some (.lst xs)/\-(2^63)<=i/\i<2^63/\seqIndex? i xs.length=some k/\D.nx σ (upd a l (.lst (xs.eraseIdx k)))
theorem LS{o i:Expr}{b c:TE}{d a:Pos}(e:PE X o b)(f:PE X i c):PS X (.Delete [.Subscript o i d] a) (HY b c):=by
 walk_at "xd";refine wpAny_Delete (wpAny_deleteEach_cons (wpAny_delete_Subscript (cK (e pins s σ H _ I h) λu a ⟨x,b,c,g,d⟩=>cK (f pins a σ b _ c d) λe k j=>?_)));obtain⟨y,a,m,n,l,i,b,k,p,q,r,v,w,z,A⟩:=j;subst p q;obtain rfl:u=Value.ref l:=g;obtain⟨t,rfl⟩:=n;exact GU m r v w z λb a=>wpAny_deleteEach_nil ⟨σ,_,a,A⟩
structure CD(K:W.Frag)(a:Addr)(D:List (Str×V)):Prop where
 ex:∃o es ep,K.lookup a=some o/\o.ExactDict/\o.data=.dict es ep/\KTD.Rows RelV es.toList D
 ne:(a==sysModules)=false
theorem QC{prog:Program}{w:World}{A:Around}{E:Value->Shared->Prop}{s:Shared}{o:Obj}{b:Array DictEntry}{f:Nat}{k:Str}{h:Tok}{Q:Option Value->Shared->Prop}(j:s.heap.get? a=some o)(m:o.data=.dict b f)(g:KTD.Rows RelV b.toList D)
  (i:∀d v,KTD.datumAt k D=some d->RelV d v->Q (some v) {s with toks:=s.toks+1}) (n:KTD.datumAt k D=none->Q none {s with toks:=s.toks+1}):wpAny (model prog w) A (dictGet a (.str k h)) Q E s:=by
 unfold dictGet
 try with_reducible refine aaH ?_
 calc j' (wpAny_pyHash_str (j' (KTD.kt_dictFind_strs (s:={s with toks:=s.toks+1}) j m (by obtain⟨l⟩:=b;simpa using g.exact) ?_)));have c:Q (findBy (λk v=>v.isStr k) b k) {s with toks:=s.toks+1}:=by
  have f:findBy (λk v=>v.isStr k) b k=(b.toList.find? λe=>e.key.isStr k).map (·.val):=by
   obtain⟨l⟩:=b;simp[findBy]
  rw[f]
  cases f:KTD.datumAt k D with
  |some d=>
   obtain⟨v,l,h⟩:=g.find_some f;rw[l];calc i d v f h
  |none=>rw[g.find_none f];exact n f
 rw[findBy_of_findIdx?]at c
 cases d:b.findIdx? λe=>e.key.isStr k with
 |none=>rw[d]at c;calc L' c
 |some i=>rw[d]at c;calc j' (wpAny_dictEntries (s:={s with toks:=s.toks+1}) j m (L' c))
theorem A8{prog:Program}{w:World}{o:Obj}{c:Array DictEntry}{d:Nat}{k:Str}{b:Tok}(e:o.data=.dict c d)(f:KTD.Rows RelV c.toList D)(g:(a==sysModules)=false):
  MeetsIn prog w (Builtin.«dict.get» ⟨[.ref a,.str k b],[]⟩) (λ_ R s=>s.heap.get? a=some o/\(∀d v,KTD.datumAt k D=some d->RelV d v->R (.ok (.ret v)) {s with toks:=s.toks+1})/\(KTD.datumAt k D=none->R (.ok (.ret .none)) {s with toks:=s.toks+1})):=
 .of_wp λA R s ⟨T,c,h⟩=>by
  show wpAny _ _ (dictGet a (.str k b) >>= _) _ _ s;calc j' (QC T e f (λd v i j=>L' ⟨v,rfl,c d v i j⟩) λe=>?_);show wpAny _ _ (Builtin.Dict.missed a (.str k b) >>= _) _ _ _;calc j' (wpAny_missed_other g (L' ⟨.none,rfl,h e⟩))
def HZ(D:List (Str×V))(t:TA):TE:=λσ H Q=>t σ H λxs a=>match xs with
 | [.str k]=>Q ((KTD.datumAt k D).getD .bI) a
 |_=>False
theorem LU{n:Str}{e:Expr}{t:TA}{p b d:Pos}(C:CD X.K a D)(r:Gl X n)(v:X.mg n=some (.ref a))(w:PA X [e] t)
  (x:(n==("__debug__":Str))=false:=by decide) (y:attributeBase (.Name n p) "get" X.env (eval (.Name n p) X.env)=eval (.Name n p) X.env:=by rfl)
  (z:(b.endLine==d.line)=true:=by rfl) (l:starEach [e] X.env=[(false,eval e X.env)]:=by rfl):PE X (.Call (.Attribute (.Name n p) "get" b) [e] [] d) (HZ D t):=by
 walk_at "xc";obtain⟨o,b,n,m,f,A,B⟩:=C.ex;refine wpAny_Call_method_late y (by rw[l];rfl) z rfl (jU I r v ?_ x);have q:s.heap.get? a=some o:=I.gG a o m;refine⟨"dict","dict.get",PySem.F.plainAttrs_dict,PySem.F.slot_dict_get,PySem.F.type_dict_get,⟨o,q,f.1⟩,λb e=>?_,?_⟩
 ·cases e;exact⟨o,q,f.2.1⟩
 have b:=w d pins s σ H _ I h;rw[l]at b ⊢;calc Calls.callWith_builtin rfl (Calls.evalArgs_plain (cK b λn E e=>?_));obtain⟨b,g,i,j,c⟩:=e
 match b,j,c with
 | [.str k],j,c=>
  obtain⟨u,rfl,G⟩:=Vals.one j;obtain⟨J,rfl⟩:=G;have e:E.heap.get? a=some o:=i.gG a o m
  replace c:Q ((KTD.datumAt k D).getD .bI) g:=c
  refine call_meetsIn PySem.F.slot_dict_get ⟨o,e,f.1⟩ PySem.F.entry_dict_get (PySem.F.args_dict_get_2 _ _) (A8 A B C.ne) ⟨e,λd v b j=>?_,λe=>?_⟩
  ·exact⟨d,g,i.tok _,j,by have:=c;rw[b]at this;calc this⟩
  ·calc⟨.bI,g,i.tok _,rfl,by have:=c;rw[e]at this;calc this⟩
end
end
section
variable {x:Str}
section
variable {X:Cx}
theorem fV{n:Int}{a:Pos}(b:∃t,X.mg x=some (.int n t))(c:Gl X x)(d:(x==("__debug__":Str))=false:=by decide):PE X (.Name x a) (tC (.int n)):=by
 obtain⟨t,b⟩:=b;calc cA c b ⟨t,rfl⟩ d
end
structure eU(P:Program)(w:World)(K:W.Frag)(mg:Str->Option Value)(base:Heap)(C:Addr)(m:Str)(k:Nat)(ps:List Str)(sp:Sp):Prop where
 ex:∃f fd,Meth K C m f/\ja P w K mg base ve k f fd ps sp/\Binds K fd ps []
structure gj(K:W.Frag)(C:Addr)(m qual:Str)(st:Stmt)(ps:List Str):Prop where
 ex:∃f fd,Meth K C m f/\Fw K m qual st f fd/\Binds K fd ps []
structure yu(P:Program)(w:World)(K:W.Frag)(mg:Str->Option Value)(base:Heap)(x:Str)(C:Addr)(k:Nat)(ps:List Str)(sp:Sp):Prop where
 ex:∃f fd,Mk K C f/\ja P w K mg base ve k f fd ps sp/\Binds K fd ps []
 mg:mg x=some (.ref C)
structure Er(K:W.Frag)(mg:Str->Option Value)(x:Str)(C:Addr)(qual:Str)(st:Stmt)(ps:List Str):Prop where
 ex:∃f fd,Mk K C f/\Fw K "__init__" qual st f fd/\Binds K fd ps []
 mg:mg x=some (.ref C)
section
variable {P:Program}{w:World}{K:W.Frag}{mg:Str->Option Value}{base:Heap}
theorem gj.ok{C:Addr}{m a:Str}{b:Stmt}{N c:List Str}{k:Nat}{sp:Sp}(T:gj K C m a b c)(S:aE N c (aA b))(d:∀vs H Q E,sp vs H Q E->vs.length=c.length)
  (g:∀(f:Addr) (e:Value) (A:Around) (outer:List Env) (s:Shared) (H:Hp) (vs:List V) (Q:VK) (E:XK),dH k (A.deeper (envOfC a (aA b) s.heap.objs.size f e))->sp vs H Q E->
   ∃t,rF (ie ve P w K mg base N a (aA b) f e A outer s H E).xY (cB b) t/\t {nx:=λ_ a=>Q .bI a,rt:=Q} (start N vs) H):eU P w K mg base C m (k + 1) c sp:=by
 obtain⟨f,a,M,F,b⟩:=T.ex;calc⟨f,a,M,F.ok S d (g f),b⟩
theorem Er.ok{C:Addr}{a:Str}{b:Stmt}{N c:List Str}{k:Nat}{sp:Sp}(T:Er K mg x C a b c)(S:aE N c (aA b))(d:∀vs H Q E,sp vs H Q E->vs.length=c.length)
  (g:∀(f:Addr) (e:Value) (A:Around) (outer:List Env) (s:Shared) (H:Hp) (vs:List V) (Q:VK) (E:XK),dH k (A.deeper (envOfC a (aA b) s.heap.objs.size f e))->sp vs H Q E->
   ∃t,rF (ie ve P w K mg base N a (aA b) f e A outer s H E).xY (cB b) t/\t {nx:=λ_ a=>Q .bI a,rt:=Q} (start N vs) H):yu P w K mg base x C (k + 1) c sp:=by
 obtain⟨f,a,M,F,b⟩:=T.ex;calc⟨⟨f,a,M,F.ok S d (g f),b⟩,T.mg⟩
end
section
variable {X:Cx}{o e:Expr}{es:List Expr}{to:TE}{t:TA}{apos p pos:Pos}{C:Addr}{m x:Str}{k j:Nat}{ps:List Str}{sp:Sp}
theorem kr{pl:Sem Bool}(D:eU X.prog X.w X.K X.mg X.base C m k ps sp)(c:uc X.K C)(b:dH j X.A)(d:PE X o to)(g:PA X (e::es) t)(h:k<=j:=by decide)(i:dw e=true:=by rfl)(l:es.all dw=true:=by rfl)
  (n:eval (.Call (.Attribute o m apos) (e::es) [] pos) X.env=(do
   let a <-eval o X.env
   standAt apos.atName
   let (f,first) <-holding [a] (getMethod a m pl)
   callWith pos f first (backTo pos (starEach (e::es) X.env)) (backToKw pos (keywordEach [] X.env))):=by rfl):
  PE X (.Call (.Attribute o m apos) (e::es) [] pos) (qP C m sp [] E0 to t):=by
 obtain⟨f,p,M,F,a⟩:=D.ex;calc B8 d c M F (b.mono h) a .nil yj g (dz i) (fz l) n
theorem gO{pl:Sem Bool}(D:eU X.prog X.w X.K X.mg X.base C m k ps sp)(c:uc X.K C)(b:dH j X.A)(d:PE X o to)(e:k<=j:=by decide)
  (g:eval (.Call (.Attribute o m apos) [] [] pos) X.env=(do
   let a <-eval o X.env
   standAt apos.atName
   let (f,first) <-holding [a] (getMethod a m pl)
   callWith pos f first (backTo pos (starEach [] X.env)) (backToKw pos (keywordEach [] X.env))):=by rfl):
  PE X (.Call (.Attribute o m apos) [] [] pos) (qP C m sp [] E0 to ya):=by
 obtain⟨f,h,M,F,a⟩:=D.ex;calc GJ d c M F (b.mono e) a .nil yj g
theorem Ct(D:yu X.prog X.w X.K X.mg X.base x C k ps sp)(a:dH j X.A)(b:PA X (e::es) t)(c:Gl X x:=by rfl)(d:k+1<=j:=by decide)(g:(x==("__debug__":Str))=false:=by decide)
  (h:dw e=true:=by rfl) (i:es.all dw=true:=by rfl):PE X (.Call (.Name x p) (e::es) [] pos) (B7 C sp [] E0 t):=by
 obtain⟨f,m,M,F,l⟩:=D.ex;calc Lp M F (a.mono d) c D.mg l .nil yj b g (dz h) (fz i)
end
theorem oF{K:W.Frag}{b:Bool}{a:Addr}{xs:List V}{g:TG}{l:TS}{D:Ends}{σ:St}{H:Hp}(c:Nat->St->Hp->Prop)(o:c 0 σ H)(j:∀i σ H,c i σ H->Sq b K H a xs)
  (q:∀i x σ H T,xs[i]?=some x->c i σ H->H T=none->g (.ref T) σ (upd H T (.tup [.int i,x])) λd k=>l {D with nx:=c (i+1),ct:=c (i+1),bk:=D.nx} d k) (r:∀σ H,c xs.length σ H->D.nx σ H):
  ∃W:Nat->Nat->St->Hp->Prop,(∃m,W 0 m σ H)/\∀i m σ H,W i m σ H->
   ((NF b K a).stop i H/\D.nx σ H)\/((NF b K a).go i H/\∃N:St->Hp->Prop,(∀f h,N f h->∃n,n<m/\W (i+1) n f h)/\∀x h,(NF b K a).Nq i H x h->g x σ h λd k=>l {D with nx:=N,ct:=N,bk:=D.nx} d k):=by
 calc⟨λi m σ H=>m=xs.length-i/\i<=xs.length/\c i σ H,⟨xs.length,nofun,aab _,o⟩,?_⟩;rintro i m σ H ⟨rfl,b,p⟩;by_cases a:i<xs.length
 ·calc .inr ⟨⟨xs,xs[i],j i σ H p,di a⟩,c (i+1),λf h b=>⟨xs.length-(i+1),(),rfl,a,b⟩,λx h y=>?_⟩;obtain⟨T,s,rfl,y⟩:=y;obtain⟨x,t,rfl⟩:=y xs (j i σ H p);exact q i x σ H T t p s
 ·have e:i=xs.length:=by lia
  subst e;calc .inl ⟨⟨xs,j _ σ H p,rfl⟩,r σ H p⟩
theorem ij{X:Cx}{i j:Nat}{y:Str}{c d a:Pos}{k:Nat}(e:X.calm=true)(b:X.N.Nodup)(f:X.N[i]?=some x)(g:X.N[j]?=some y)(h:Loc X.env.scope x)(l:Loc X.env.scope y)
  (m:X.fn x=true\/X.env.scope.names.lookup x=some .local:=by grind) (n:X.fn y=true\/X.env.scope.names.lookup y=some .local:=by grind):
  PG X (.Tuple [.Name x c,.Name y d] k a) (Gj X.K 2 (mC (fK i) (mC (fK j) Gi))):=Gk e (kH (bf b f h m) (kH (bf b g l n) B0))
end
end L2
set_option maxHeartbeats 400000
namespace L2
open PySem PySem.Spec PyProof.Rows
structure Ia(K:W.Frag)(mg:Str->Option Value)(x:Str)(C B:Addr)(qual:Str)(st:Stmt)(ps:List Str):Prop where
 cl:fU K C B
 ex:∃f fd,W.findIn K (.ref C) "__init__"=some (some (.ref f))/\W.isFn K (.ref f)=true/\Fw K "__init__" qual st f fd/\Binds K fd ps []
 mg:mg x=some (.ref C)
structure yw(P:Program)(w:World)(K:W.Frag)(mg:Str->Option Value)(base:Heap)(x:Str)(C B:Addr)(k:Nat)(ps:List Str)(sp:Sp):Prop where
 cl:fU K C B
 ex:∃f fd,W.findIn K (.ref C) "__init__"=some (some (.ref f))/\W.isFn K (.ref f)=true/\ja P w K mg base ve k f fd ps sp/\Binds K fd ps []
 mg:mg x=some (.ref C)
section
variable {P:Program}{w:World}{K:W.Frag}{mg:Str->Option Value}{base:Heap}
theorem Ia.ok{x:Str}{C B:Addr}{a:Str}{b:Stmt}{N c:List Str}{k:Nat}{sp:Sp}(T:Ia K mg x C B a b c)(S:aE N c (aA b))(d:∀vs H Q E,sp vs H Q E->vs.length=c.length)
  (g:∀(f:Addr) (e:Value) (A:Around) (outer:List Env) (s:Shared) (H:Hp) (vs:List V) (Q:VK) (E:XK),dH k (A.deeper (envOfC a (aA b) s.heap.objs.size f e))->sp vs H Q E->
   ∃t,rF (ie ve P w K mg base N a (aA b) f e A outer s H E).xY (cB b) t/\t {nx:=λ_ a=>Q .bI a,rt:=Q} (start N vs) H):yw P w K mg base x C B (k + 1) c sp:=by
 obtain⟨f,a,b,c,F,e⟩:=T.ex;calc⟨T.cl,⟨f,a,b,c,F.ok S d (g f),e⟩,T.mg⟩
end
def tXI(C:Addr)(sp:Sp)(E:XK)(t:TA):TE:=λσ H Q=>t σ H λvs b=>vs.length<=10/\∀a,b a=none->sp (.ref a::vs) (upd b a (XO a C none true)) (λv c=>v=.bI/\Q (.ref a) c) E
section
variable {X:Cx}{pins:List (Addr×Obj)}{σ:St}{H:Hp}{s:Shared}{C B:Addr}{x:Str}{p pos:Pos}{e:Expr}{es:List Expr}{t:TA}{k j:Nat}{ps:List Str}{sp:Sp}{E:XK}
theorem QF{Q:VK}{us:List Value}{vs:List V}{f:Addr}{a:FuncData}(b:fU X.K C B)(m:W.findIn X.K (.ref C) "__init__"=some (some (.ref f)))(n:W.isFn X.K (.ref f)=true)
    (F:ja X.prog X.w X.K X.mg X.base ve k f a ps sp) (p:dH (k+1) X.A) (u:Binds X.K a ps []) (x:Passes ve X E) (I:Inv X pins σ H s) (r:Vals vs us) (d:vs.length<=10)
    (h:∀a,H a=none->sp (.ref a::vs) (upd H a (XO a C none true)) (λv d=>v=.bI/\Q (.ref a) d) E):
    wpAny (model X.prog X.w) X.A (call (.ref C) us) (EP X pins σ Q) X.xe s:=by
  obtain⟨g,q,N,l,o,d,P,f,Q,R,S,T,U,Y,y⟩:=b.ob;obtain⟨c,g,d,t,o⟩:=s;have b:H (c.objs.size+1)=none:=I.aW.fresh (Nat.le_succ _);have l:=h _ b;have f:us.length<=sizeLine:=by rw[<-r.length,sizeLine_eq];lia
  have q:((c.push {cls:=.type "tuple",data:=.seq us.toArray}).push
      {cls:=.ref C,data:=.fields #[.ref c.objs.size,.none,.none,.none,.bool false,.none]}).get? (c.objs.size + 1)=some
      {cls:=.ref C,data:=.fields #[.ref c.objs.size,.none,.none,.none,.bool false,.none]}:=by heap_get
  have j:Inv X pins σ (upd H (c.objs.size+1) (XO (c.objs.size+1) C none true)) ⟨(c.push {cls:=.type "tuple",data:=.seq us.toArray}).push {cls:=.ref C,data:=.fields #[.ref c.objs.size,.none,.none,.none,.bool false,.none]},g,d,t,o⟩:=
    I.laid (a:=c.objs.size+1) (λb o e=>J' _ (J' _ e)) (Nat.le_succ _) (HB q λ_=>rfl)
  have a:Vals (V.ref (c.objs.size+1)::vs) (Value.ref (c.objs.size+1)::us):=.cons rfl r;have b:((Value.ref (c.objs.size+1)::us)++[]).length=ps.length:=by
    rw[List.append_nil,<-a.length];exact F.len _ _ _ _ l
  have d:Vals (V.ref (c.objs.size+1)::vs) ((Value.ref (c.objs.size+1)::us)++[]):=by rw[List.append_nil];exact a
  calc AS (h:=c) I.gG (I.gG _ _ y) m (beq_iff_eq.mp n) ?_ f;refine wpAny_call (codeAny_mono (F.run _ X.stack _ _ ⟨Value.ref (c.objs.size+1)::us,[]⟩ ((Value.ref (c.objs.size+1)::us)++[]) _ _ E (p.make C us []) (j.GI.make C us []) (u _ (Value.ref (c.objs.size+1)::us) j.gG b) d l) λr z i=>?_)
  cases r with
  |error e=>calc x pins σ _ _ e z j i
  |ok D=>
    cases D with
    |ret u=>
      obtain⟨v,G,J,L,M,O⟩:=j.after i;subst M;calc⟨L,⟨V.ref (c.objs.size+1),G,J,rfl,O⟩⟩
    |next=>calc X' i
    |brk=>calc X' i
    |cont=>calc X' i
theorem Cu(D:yw X.prog X.w X.K X.mg X.base x C B k ps sp)(b:dH j X.A)(c:PA X (e::es) t)(a:Gl X x:=by rfl)(d:k+1<=j:=by decide)(g:(x==("__debug__":Str))=false:=by decide)
  (i:dw e=true:=by rfl) (l:es.all dw=true:=by rfl):PE X (.Call (.Name x p) (e::es) [] pos) (tXI C sp E0 t):=by
 obtain⟨f,q,m,n,F,o⟩:=D.ex;walk_at "xc";refine wpAny_Call_Name_kw (jU I a D.mg ?_ g);refine W.callWith_K (h₀:=X.base) I.ok.mod.xV D.cl.kp (cK (c pos pins s σ H _ I h) λg u ⟨v,y,a,r,f,q⟩=>⟨a.gG,?_⟩) (dz i) (fz l);exact QF D.cl m n F (b.mono d) o yj a r f q
end
def tXF(K:W.Frag)(a:TE)(f:Str):TE:=λσ H Q=>a σ H λx b=>∃a C B c d v e,x=.ref a/\b a=some (XO a C (some c) e)/\b c=some (XD c d)/\fU K C B/\bQ K C f/\d.lookup f=some v/\Q v b
def aaR(K:W.Frag)(a b:TE)(f:Str):TS:=λD σ H=>b σ H λy d=>a σ d λx c=>∃a C B d,x=.ref a/\c a=some (XO a C none d)/\fU K C B/\bQ K C f/\
 ∀b,c b=none->D.nx σ (upd (upd c a (XO a C (some b) d)) b (XD b [(f,y)]))
section
variable {X:Cx}{o e value:Expr}{f:Str}{pos pos' Lm:Pos}{ta tv:TE}
theorem Vn(b:PE X e ta)(d:attributeBase e f X.env (eval e X.env)=eval e X.env:=by rfl):PE X (.Attribute e f pos) (tXF X.K ta f):=by
 walk_at "xc";refine B6 d (cK (b pins s σ H _ I h) λu r g=>?_);obtain⟨x,i,j,k,a,C,B,b,d,v,r,m,o,p,c,n,l,q⟩:=g;subst m;obtain rfl:u=Value.ref a:=k;exact yp j o p c n l λd g a b=>⟨v,i,a,b,q⟩
theorem Ib(b:PE X o ta)(d:PE X value tv)(e:swapsWith value (some (.Attribute o f pos')) pos.line X.env=pure false:=by rfl):PS X (.Assign [.Attribute o f pos'] value pos) (aaR X.K ta tv f):=by
 walk_at "xd";refine plainObj_wpAny_Assign_Attribute (cK (d pins s σ H _ I h) λu g ⟨y,i,j,k,q⟩=>cK (b pins g σ i _ j q) λl d m=>?_) e;obtain⟨x,b,p,r,a,C,B,d,t,v,c,n,w⟩:=m;subst t;obtain rfl:l=Value.ref a:=r;exact wO p v c n k λa e b d=>⟨σ,_,d,w a b⟩
end
def vc:V->Value
 | .ref a=>.ref a
 | .ty n=>.type n
 |_=>.none
def aaS(K:W.Frag):List V->Hp->VK->Prop:=λxs H Q=>∃a C B d c b f,xs=[.ref a,c]/\H a=some (XO a C d f)/\(∀e,d=some e->∃g,H e=some (XD e g))/\fU K C B/\(c=.ref (match c with | .ref z=>z|_=>0)\/∃n,c=.ty n)/\W.kitOne K (.ref C) (vc c)=some b/\Q (.bl b) H
theorem oG{X:Cx}:fw X (.builtin "isinstance") (aaS X.K):=by
 intro i s σ H w j Q I r h;obtain⟨a,C,B,d,c,b,x,rfl,l,m,o,e,k,q⟩:=h;obtain⟨u,g,rfl,n,p⟩:∃u g,j=u::g/\RelV (.ref a) u/\Vals [c] g:=by cases r with|cons a b=>exact⟨_,_,rfl,a,b⟩
 obtain⟨t,rfl,f⟩:=p.one
 cases(show u=Value.ref a from n);have v:t=vc c:=by
  rcases e with e|⟨n,e⟩
  ·rw[e]at f ⊢;exact f
  ·rw[e]at f ⊢;exact f
 subst v;calc AX I l m o k λa=>⟨.bl b,H,I.tok _,rfl,q⟩
end L2
set_option maxHeartbeats 4000000
namespace L2
open PySem PySem.Spec PyProof.Rows
variable {a:Addr}{g:Bool->Bool}{H:Hp}{ix:List (Option Nat)}{Ac:List (TE×TE)}{σ:St}{te:TE}{wi:TI}{tt:TT}{Q:VK}{K:W.Frag}
section
variable {X:Cx}{K:W.Frag}
theorem pO(a:X.K=K):fw X (.builtin "isinstance") (LQ K):=a▸eB
theorem sC(a:X.K=K):fw X (.builtin "len") (Qr K):=a▸aM
theorem oH(a:X.K=K):fw X (.type "tuple") (wI K):=a▸cM
theorem LV(a:X.K=K)(b:X.A.units+64<cLine):fQ X (compareOp .Eq) (Qn K):=a▸Hi b
theorem LW(a:X.K=K)(b:X.A.units+64<cLine):fQ X (compareOp .NotEq) (Qo K):=a▸Hk b
theorem eQ{a b:Expr}{d e:TE}{c:Pos}(f:X.K=K)(g:X.A.units+64<cLine)(i:PE X a d)(j:PE X b e)(h:wN b=true:=by rfl):PE X (.Subscript a b c) (Gw (Qq K) d e):=f▸ak g i j h
theorem LX{e:Expr}{b:TE}{f:Str}{a:Pos}(c:X.K=K)(d:PE X e b)(g:attributeBase e f X.env (eval e X.env)=eval e X.env):PE X (.Attribute e f a) (Ll K b f):=c▸bH d g
theorem j0{i j:Nat}{x y:Str}{b c a:Pos}{k:Nat}(d:X.K=K)(e:X.calm=true)(f:X.N.Nodup)(g:X.N[i]?=some x)(h:X.N[j]?=some y)(l:Loc X.env.scope x)(m:Loc X.env.scope y)
  (n:X.fn x=true\/X.env.scope.names.lookup x=some .local:=by grind) (o:X.fn y=true\/X.env.scope.names.lookup y=some .local:=by grind):
  PG X (.Tuple [.Name x b,.Name y c] k a) (Gj K 2 (mC (fK i) (mC (fK j) Gi))):=d▸ij e f g h l m n o
end
inductive Vo{α:Sort _}(x:α):Type
 |mk
def aaT(ix:List (Option Nat))(wi:TI)(g:TG)(tt:TT)(te:TE)(_:Vo (ix,wi,g,tt,te)):TE:=UY ix wi g tt te
theorem Cw{g:TG}:UY ix wi g tt te=aaT ix wi g tt te .mk:=rfl
def Vp(wi:TI)(g:TG)(a:TS)(_:Vo (wi,g,a)):TS:=Pt wi g a
theorem yx{g:TG}{a:TS}:Pt wi g a=Vp wi g a .mk:=rfl
def LY(a:TT)(b:TS)(_:Vo (a,b)):TS:=wc a b
theorem sD{a:TT}{b:TS}:wc a b=LY a b .mk:=rfl
theorem bV{g:TG}(h:wi σ H λJ a=>∀D,a D=none->kN ix J g tt te σ a Q D):UY ix wi g tt te σ H Q:=h
def LZ(ix:List (Option Nat))(J:It)(g:TG)(tt:TT)(te:TE)(σ:St)(H:Hp)(Q:VK)(D:Addr)(_:Vo (ix,J,g,tt,te,σ,H,Q,D)):Prop:=kN ix J g tt te σ H Q D
theorem sE{J:It}{g:TG}{D:Addr}:kN ix J g tt te σ H Q D=LZ ix J g tt te σ H Q D .mk:=rfl
theorem A9:U8 g (.ref a) .bI H Q=Q (.bl (g false)) H:=by
 show Q (.bl (g (decide (V.ref a=.bI)))) H=_;simp
theorem Ba:U8 g .bI .bI H Q=Q (.bl (g true)) H:=by
 show Q (.bl (g (decide (V.bI=.bI)))) H=_;simp
theorem au.SY{b:Hp}(s:au H b){a:Addr}{xs:List V}(h:bJ K H a xs):bJ K b a xs:=by
 rcases h with(h|⟨o,h⟩)|h
 ·exact .inl (.inl (s _ _ h))
 ·exact .inl (.inr ⟨o,s _ _ h⟩)
 ·calc .inr h
theorem jL{α:Type}(x:α)(n:Nat):List.replicate n x++[x]=List.replicate (n+1) x:=by
 rw[List.replicate_succ',]
theorem pP(n:Nat):List.replicate n (V.bl true)=(List.replicate n true).map V.bl:=by simp
theorem da{xs:List V}{i:Int}{v:V}{P:V->Prop}(h:H a=some (.tup xs))(e:hX xs i=some v)(k:P v):∃xs v,(aT K H a xs\/bJ K H a xs)/\hX xs i=some v/\P v:=⟨xs,v,.inr (bJ.of h),e,k⟩
theorem aZ{xs:List V}{i:Int}{v:V}{P:V->Prop}(h:H a=some (.lst xs))(e:hX xs i=some v)(k:P v):∃xs v,(aT K H a xs\/bJ K H a xs)/\hX xs i=some v/\P v:=⟨xs,v,.inl (aT.of h),e,k⟩
def QH(Ac:List (TE×TE))(_:Vo Ac):TE:=Ci Ac
theorem vj:Ci Ac=QH Ac .mk:=rfl
theorem L3(h:∀p,H p=none->pM Ac σ (upd H p (.dK [])) λd b=>b p=some (.dK [])/\∃a:List (Key×V),d=a.map (λc=>(kV c.1,c.2))/\a.length<=15/\Q (.ref p) (upd b p (.dK (mJ [] a)))):Ci Ac σ H Q:=h
end L2
set_option maxHeartbeats 400000
namespace L2
open PySem PySem.Spec PyProof.Rows
section
section
variable {X:Cx}{K:W.Frag}
theorem Bb{e:Expr}{b:TE}{f:Str}{a:Pos}(c:X.K=K)(d:PE X e b)(g:attributeBase e f X.env (eval e X.env)=eval e X.env:=by rfl):PE X (.Attribute e f a) (tXF K b f):=c▸Vn d g
end
end
section
variable {L:Addr}{outer:List Env}
def rf(h:Heap)(e:Addr)(T:Option Addr)(d:Value):Prop:=
 ∃a vs,h.get? e=some a/\a.data=.fields vs/\((T=none/\vs[1]?=some .none)\/∃t b c,T=some t/\t≠e/\vs[1]?=some (.ref t)/\h.get? t=some b/\b.data=.fields c/\c[3]?=some d)
structure Chg(S:List Addr)(e:Addr)(T:Option Addr)(h h':Heap):Prop where
 keep:∀b o,b≠e->T≠some b->b∉S->h.get? b=some o->h'.get? b=some o
 slot:∀b o,b≠e->T≠some b->h.get? b=some o->∃sl,h'.get? b=some {o with slots:=sl}
 Vq:∀o vs,h.get? e=some o->o.data=.fields vs->∃NI,h'.get? e=some {o with data:=.fields NI}
 aaV:∀t o,T=some t->h.get? t=some o->∃o',h'.get? t=some o'
 size:h.objs.size<=h'.objs.size
theorem sF{o:Obj}{vs:Array Value}{f:Array Value->Array Value}(a:o.data=.fields vs):o.mapFields f={o with data:=.fields (f vs)}:=by
 obtain⟨c,d,b,e⟩:=o
 cases a;rfl
section
variable {M:Model}{A:Around}{E:Value->Shared->Prop}{s:Shared}
theorem entry_at{base:Heap}{env:Env}{e:Addr}{i:Obj}{vs:Array Value}{d:Value}{y:Bool}{Q:Unit->Shared->Prop}
  (z:A.frames=some (env::outer)) (u:s.heap.FunFrames base (env::outer)) (B:env.frame=some L)
  (q:s.heap.get? e=some i) (n:i.data=.fields vs) (hsz:1<vs.size)
  (h:∀h' t,s.heap.objs.size<=t->Chg (xM (env::outer)) e none s.heap h'->rf h' e (some t) (rawInt L)->Q ⟨⟩ {s with heap:=h'}):
  wpAny M A (do let a <-frameOf env;let pl <-entryPlaceOf L y;let b <-EntryCells.newEntry d a .none (rawInt L) .none pl;setField (.ref e) 1 b) Q E s:=by
 have r:e∉(env::outer).filterMap (·.frame):=λC=>by
  obtain⟨_,o,g,F⟩:=u.mem C;rw[q]at g;injection g with g;subst g;exact F vs n
 calc j' (wpAny_frameOf_fun z u B λc p=>?_);calc j' (wpAny_entryPlaceOf λpl v=>?_);unfold EntryCells.newEntry newFields;calc j' (aaO ?_ (v.sizeOk5 _ _ _ _ _));have g:c.get? e=some i:=(p.2.1 e r).trans q;have i:=J' (h:=c) {cls:=.type "traceback",dict:=none,data:=.fields ([d,.ref L,.none,rawInt L,.none]++(if pl.isEmpty then List.replicate 6 Value.none else pl)).toArray} g;have w:c.objs.size≠e:=Nat.ne_of_gt (T' g);have j:=Obj.data_mapFields n (·.setIfInBounds 1 (Value.ref c.objs.size));have k:=aa0 (Obj.mapFields (·.setIfInBounds 1 (Value.ref c.objs.size))) i (Obj.isFreed_of_fields j);have l:=(Heap.get?_update_other (c.push {cls:=.type "traceback",dict:=none,data:=.fields ([d,.ref L,.none,rawInt L,.none]++(if pl.isEmpty then List.replicate 6 Value.none else pl)).toArray})
  (Obj.mapFields (·.setIfInBounds 1 (Value.ref c.objs.size))) (Ne.symm w)).trans (V' c rfl)
 have g:∀b o,b≠e->c.get? b=some o->
   ((c.push {cls:=.type "traceback",dict:=none,data:=.fields ([d,.ref L,.none,rawInt L,.none]++(if pl.isEmpty then List.replicate 6 Value.none else pl)).toArray}).update e (Obj.mapFields (·.setIfInBounds 1 (Value.ref c.objs.size)))).get? b=some o:=
  λb o e d=>by
   rw[Heap.get?_update_other _ _ (Ne.symm e)];exact J' _ d
 refine wpAny_setField i n hsz (h _ c.objs.size (by rw[p.1];calc K' _) ⟨λb o d _ e m=>g b o d ((p.2.1 b e).trans m),λb o d _ m=>?_,λo e m x=>?_,λt o z _=>(nomatch z),?_⟩ ?_)
 ·obtain⟨e,i⟩:=p.2.2 b o m;exact⟨e,g b _ d i⟩
 ·rw[q] at m
  cases m;rw[n]at x
  cases x;exact⟨_,by rw[k,sF n]⟩
 ·rw[Heap.size_update,Heap.size_push,p.1];exact Nat.le_succ _
 ·calc⟨_,_,k,j,.inr ⟨c.objs.size,_,_,rfl,w,by simp[hsz],l,rfl,by first|(simp;done)|(rcases v with rfl|⟨_,_,_,_,_,_,_,rfl⟩<;>simp)⟩⟩
theorem L5{base:Heap}{env:Env}{e:Addr}{T:Option Addr}{Q:Unit->Shared->Prop}
  (u:A.frames=some (env::outer)) (v:s.heap.FunFrames base (env::outer)) (m:env.frame=some L) (n:rf s.heap e T .none)
  (h:∀h' t,s.heap.objs.size<=t->Chg (xM (env::outer)) e T s.heap h'->rf h' e (some t) (rawInt L)->Q ⟨⟩ {s with heap:=h'}):wpAny M A (noteFrame (.ref e) env) Q E s:=by
 obtain⟨w,vs,j,g,n⟩:=n;unfold noteFrame;simp only[m];rcases n with⟨rfl,i⟩|⟨t,C,x,rfl,p,i,k,l,w⟩
 ·calc j' (aar j g i ?_);rw[if_neg ∅];exact entry_at u v m j g (Array.getElem?_eq_some_iff.mp i).1 h
 ·calc j' (aar j g i ?_);rw[if_pos (show(Value.ref t !=Value.none)=true from by simp)];calc j' (aar k l w ?_);rw[if_neg (show ¬((Value.none==rawInt L)=true) from by simp[rawInt])];calc j' (wpAny_setField k l (Array.getElem?_eq_some_iff.mp w).1 ?_);have a:∀b,b≠t->(s.heap.update t (Obj.mapFields (·.setIfInBounds 3 Value.none))).get? b=s.heap.get? b:=λb d=>Heap.get?_update_other _ _ (Ne.symm d);have y:∀b o,s.heap.get? b=some o->(∀vs,o.data≠.fields vs)->b≠t:=λb o d r q=>by
   rw[q,k]at d;injection d with d;subst d;exact r x l
  have B:=aa0 (Obj.mapFields (·.setIfInBounds 3 Value.none)) k (Obj.isFreed_of_fields (Obj.data_mapFields l _));refine entry_at u (v.of_keeps λb o d r=>⟨o,(a b (y b o d r)).trans d,rfl⟩) m ((a e (Ne.symm p)).trans j) g (Array.getElem?_eq_some_iff.mp i).1 λh' k l c n=>h h' k ?_ ?_ n
  ·have:=l;rw[Heap.size_update]at this;exact this
  ·refine⟨λb o d j k i=>c.keep b o d (λz=>nomatch z) k ((a b (λz=>j (by rw[z]))).trans i),λb o d j i=>c.slot b o d (λz=>nomatch z) ((a b (λz=>j (by rw[z]))).trans i),λo vs i g=>c.Vq o vs ((a e (Ne.symm p)).trans i) g,λb o z i=>?_,?_⟩
   ·cases z;obtain⟨a,q⟩:=c.slot t _ p (λz=>nomatch z) B;exact⟨_,q⟩
   ·have:=c.size;rw[Heap.size_update]at this;calc this
theorem Es{e t:Addr}{d:Value}{Q:Unit->Shared->Prop}(a:rf s.heap e (some t) d)
  (h:∀h',(∀b o,b≠t->s.heap.get? b=some o->h'.get? b=some o)->h'.objs.size=s.heap.objs.size->rf h' e (some t) .none->Q ⟨⟩ {s with heap:=h'}):wpAny M A (setFlight (.ref e) none) Q E s:=by
 obtain⟨n,vs,g,i,a⟩:=a;rcases a with⟨z,_⟩|⟨d,m,p,z,j,k,l,c,q⟩
 ·cases z
 cases z;have m:3<p.size:=(Array.getElem?_eq_some_iff.mp q).1;unfold setFlight;calc j' (aar g i k ?_);rw[if_pos (show(Value.ref t !=Value.none)=true from by simp)];have a:∀b,b≠t->(s.heap.update t (Obj.mapFields (·.setIfInBounds 3 ((none:Option Addr).elim Value.none λf=>rawInt f)))).get? b=s.heap.get? b:=
  λb d=>Heap.get?_update_other _ _ (Ne.symm d)
 calc wpAny_setField l c m (h _ (λb o d p=>(a b d).trans p) (Heap.size_update ..) ?_);calc⟨n,vs,(a e (Ne.symm j)).trans g,i,.inr ⟨t,_,_,rfl,j,k,aa0 _ l (Obj.isFreed_of_fields (Obj.data_mapFields c _)),Obj.data_mapFields c _,by simp[m]⟩⟩
end
section
variable {X:Cx}{pins:List (Addr×Obj)}{σ:St}{H:Hp}{s:Shared}{e C:Addr}{d:Option Addr}{fl:Bool}{T:Option Addr}{h':Heap}
def yy(X:Cx)(pins:List (Addr×Obj))(H:Hp)(t:Addr):Prop:=H t=none/\X.s₀.heap.objs.size<=t/\t≠X.env.locals/\(∀x c,X.env.cells.lookup x=some c->c≠t)/\∀p∈X.pn++pins,p.1≠t
theorem Inv.Vv(I:Inv X pins σ H s){t:Addr}(h:s.heap.objs.size<=t):yy X pins H t:=by
 refine⟨I.aW.fresh h,aae I.sz h,Nat.ne_of_gt (R' I.lt h),λx c a=>?_,λp b=>?_⟩
 ·obtain⟨v,o,d⟩:=I.cell x c a;exact W' (R' (T' d.1) h)
 ·calc W' (R' (T' (I.pin p b).1) h)
theorem Inv.chg(I:Inv X pins σ H s)(a:H e=some (XO e C d fl))(c:Chg (xM X.stack) e T s.heap h')(r:∀t,T=some t->yy X pins H t):Inv X pins σ (upd H e (XO e C d false)) {s with heap:=h'}:=by
 obtain⟨y,n,k,_⟩:=sm I a;obtain⟨y,v⟩:=c.Vq _ _ k rfl;have w:∀b u,H b=some u->T≠some b:=λb u q z=>by rw[(r b z).1]at q;cases q
 have x:∀b o,s.heap.get? b=some o->∃k,h'.get? b=some k:=λb o g=>by
  by_cases z:b=e
  ·subst z;exact⟨_,v⟩
  ·by_cases k:T=some b
   ·exact c.aaV b o k g
   ·obtain⟨n,q⟩:=c.slot b o z k g;exact⟨_,q⟩
 have j:∀b,H b=none->b≠e:=λb q z=>by rw[z,a]at q;cases q
 refine I.call (g':=s.gens) (t':=s.toks) (d':=s.drawn) (ch:=T.toList) ⟨λb o g n y k=>c.keep b o (j b n) (λz=>k (by simp[z])) y g,λb o g n _ k=>c.slot b o (j b n) (λz=>k (by simp[z])) g,λb o _ n _=>by rw[ay (j b n)];calc n,λb o g _=>x b o g,λb A q=>?_,λb o u q=>?_,λb j q=>?_⟩ (λb u q=>?_) I.bare (λb l=>?_)
 ·rw[ay (λz=>by rw[z,a]at q;cases q)];exact q
 ·rw[ay (λz=>by rw[z,a]at q;cases q)];exact q
 ·rw[ay (λz=>by rw[z,a]at q;cases q)];exact⟨#[],by simp[q]⟩
 ·by_cases z:b=e
  ·subst z;rw[af] at q
   cases q;exact HB v (λz=>nomatch z)
  ·rw[ay z] at q;refine(I.aW b u q).aK (λi B f g=>?_) (λi h=>?_) (λi A h=>?_)
   ·have m:i≠e/\T≠some i/\i∉xM X.stack:=by
     rcases f with rfl|f
     ·exact⟨z,w _ _ q,λp=>by rw[I.rE _ p]at q;cases q⟩
     ·exact⟨(λz=>by rw[z,a]at f;cases f),w _ _ f,(λp=>by rw[I.rE _ p]at f;cases f)⟩
    exact c.keep i B m.1 m.2.1 m.2.2 g
   ·rw[ay (λz=>by rw[z,a]at h;cases h)];exact h
   ·rw[ay (λz=>by rw[z,a]at h;cases h)];exact h
 ·have e:T=some b:=by
   cases T with
   |none=>simp at l
   |some t=>simp at l;rw[l]
  obtain⟨h,a,c,f,g⟩:=r b e;calc⟨.inr a,c,f,g⟩
theorem Inv.aaX(I:Inv X pins σ H s){t:Addr}(o:yy X pins H t)(k:∀b o,b≠t->s.heap.get? b=some o->h'.get? b=some o):Inv X pins σ H {s with heap:=h'}:=
 I.turned (t':=s.toks) k o.1 o.2.2.1 (.inr o.2.1) o.2.2.2.1 o.2.2.2.2
end
def uj(P:Program)(w:World):GH:=λouter H s E e s'=>∃a C d b t,e=.ref a/\s'.os=s.os/\AllBare s'.gens/\Un (xM outer) [] H b s.heap s'.heap/\mB P w b s'.heap/\b a=some (XO a C d false)/\
 rf s'.heap a (some t) .none/\b t=none/\s.heap.objs.size<=t/\E e none b
section
variable {X:Cx}{pins:List (Addr×Obj)}{σ:St}{H:Hp}{s:Shared}{a C:Addr}{d:Option Addr}{fl:Bool}{T:Option Addr}{h':Heap}{E:XK}{E1:Value->Shared->Prop}
theorem yz{Q:Unit->Shared->Prop}(b:X.stack=X.env::outer)(i:X.env.frame=some L)(I:Inv X pins σ H s)(f:H a=some (XO a C d fl))(j:rf s.heap a T .none)(k:∀t,T=some t->yy X pins H t)
  (h:∀h' t,Inv X pins σ (upd H a (XO a C d false)) {s with heap:=h'}->rf h' a (some t) (rawInt L)->yy X pins (upd H a (XO a C d false)) t->s.heap.objs.size<=t->Q ⟨⟩ {s with heap:=h'}):wpAny (model X.prog X.w) X.A (noteFrame (.ref a) X.env) Q E1 s:=by
 have e:X.A.frames=some (X.env::outer):=by rw[<-b];exact I.ok.frames
 have l:s.heap.FunFrames X.base (X.env::outer):=by rw[<-b];exact I.stack
 calc L5 e l i j λh' t g c m=>?_;rw[<-b]at c;have e:=I.chg f c k;have o:=I.Vv g;calc h h' t e m ⟨?_,o.2⟩ g;rw[ay (λz=>by have:=o.1;rw[z,f]at this;cases this)];calc o.1
theorem sG{t:Addr}{b:Value}{Q:Unit->Shared->Prop}{A:Around}(I:Inv X pins σ H s)(c:rf s.heap a (some t) b)(o:yy X pins H t)
  (h:∀h',Inv X pins σ H {s with heap:=h'}->rf h' a (some t) .none->Q ⟨⟩ {s with heap:=h'}):wpAny (model X.prog X.w) A (setFlight (.ref a) none) Q E1 s:=
 Es c λh' k _ b=>h h' (I.aaX o k) b
theorem yA(b:X.stack=X.env::outer)(g:X.outer=outer)(e:X.ex=[])(c:X.env.frame=some L)(I:Inv X pins σ H s)(f:H a=some (XO a C d fl))(h:rf s.heap a T .none)(i:∀t,T=some t->yy X pins H t)
  (j:E (.ref a) none (upd H a (XO a C d false))):wpAny (model X.prog X.w) X.A (leaving X.env (.ref a)) (λ_ k=>uj X.prog X.w outer X.H₀ X.s₀ E (.ref a) k) E1 s:=by
 unfold leaving;calc j' (yz b c I f h i λk t l m o n=>?_);calc sG (s:={s with heap:=k}) l m o λb c f=>?_;have b:=c.base;rw[e,Cx.fs,g]at b;calc⟨a,C,d,_,t,rfl,c.os,c.bare,b,c.aW,af,f,o.1,aae I.sz n,j⟩
end
def Throws(X:Cx)(E:XK):Prop:=∀(pins:List (Addr×Obj)) (σ:St) (H:Hp) (s:Shared) (a C:Addr) (d:Option Addr),Inv X pins σ H s->H a=some (XO a C d true)->E (.ref a) none (upd H a (XO a C d false))->X.xe (.ref a) s
theorem Ie{H:Hp}{a:Addr}{o:HO}(h:H a=some o):upd H a o=H:=by
 funext b;by_cases z:b=a
 ·subst z;rw[af];exact h.symm
 ·calc ay z
section
variable {P:Program}{w:World}{K:W.Frag}{mg:Str->Option Value}{base:Heap}{N:List Str}{qual:Str}{scope:Scope}{f:Addr}{cd:Value}{A:Around}{outer:List Env}{s:Shared}{H:Hp}{E:XK}
theorem rH:Throws (ie (uj P w) P w K mg base N qual scope f cd A outer s H E) E:=by
 intro b σ j k a C d I c e;obtain⟨g,l,h,i⟩:=sm I c;calc yA (X:=ie (uj P w) P w K mg base N qual scope f cd A outer s H E) (T:=none) rfl rfl rfl rfl I c ⟨_,g,h,rfl,.inl ⟨rfl,i rfl⟩⟩ (λt z=>nomatch z) e
theorem Inv.thrown{X:Cx}{pins:List (Addr×Obj)}{σ:St}{H:Hp}{s s':Shared}{e:Value}(I:Inv X pins σ H s)(h:uj X.prog X.w X.stack H s E e s'):
  ∃a C d c t,e=.ref a/\Inv X pins σ c s'/\c a=some (XO a C d false)/\rf s'.heap a (some t) .none/\yy X pins c t/\E e none c:=by
 obtain⟨a,C,d,c,t,rfl,f,e,g,i,j,k,l,m,q⟩:=h;have n:Inv X pins σ c s':=I.Nm (ch:=[]) f g i e λb z=>absurd z nofun;calc⟨a,C,d,c,t,rfl,n,j,k,⟨l,(I.Vv m).2⟩,q⟩
theorem g9:Passes (uj P w) (ie (uj P w) P w K mg base N qual scope f cd A outer s H E) E:=by
 intro b σ j k e l I h;obtain⟨a,C,d,m,t,rfl,g,c,i,o,q⟩:=I.thrown h;calc yA (X:=ie (uj P w) P w K mg base N qual scope f cd A outer s H E) (T:=some t) rfl rfl rfl rfl g c i (λa z=>by cases z;calc o) (by rw[Ie c];calc q)
theorem aaY:PassesOwn (model P w) (ie (uj P w) P w K mg base N qual scope f cd A outer s H E).A (ie (uj P w) P w K mg base N qual scope f cd A outer s H E).env (ie (uj P w) P w K mg base N qual scope f cd A outer s H E).xe:=PassesOwn.leaving
end
end
section
section
variable {M:Model}{A:Around}{E:Value->Shared->Prop}{env:Env}{K:W.Frag}
theorem Et{s:Shared}{x:Sem Value}{Q:Flow->Shared->Prop}(f:A.handled=none)
  (h:wpAny M A x (λv a=>∃e C B d vs c,v=.ref e/\K.In a.heap/\fU K C B/\a.heap.get? e=some (⟨.ref C,d,.fields vs,c⟩:Obj)/\vs[1]?=some .none/\E (.ref e) a) E s):
  wpAny M A (raiseStmt env (some x) none) Q E s:=by
 unfold raiseStmt;calc j' (aal h (λv a b=>?_) λ_ _ x=>x);obtain⟨e,C,B,d,vs,c,rfl,g,h,i,j,k⟩:=b;obtain⟨l,q,N,m,n,c,o,d,p,r,s,t,u,v,e⟩:=h.ob;have b:=g _ _ e;have c:(Value.ref C::.ref B::tX).contains (.type "BaseException")=true:=rfl;obtain⟨d,g,e,h,l⟩:=a
 repeat (first|with_reducible calc aaB i ?_|with_reducible calc aaB b ?_|(with_reducible calc aa4 b ?_;rw[c])|wp_step)
 rw[j];calc L' ?_;rw[if_neg ∅];calc L' ?_;calc wpAny_raiseNew_none f k
end
def Bc(K:W.Frag)(E:XK)(a:TE):TS:=λ_ σ H=>a σ H λx b=>∃a C B d,x=.ref a/\b a=some (XO a C d true)/\fU K C B/\E (.ref a) none (upd b a (XO a C d false))
section
variable {X:Cx}{E:XK}{e:Expr}{te:TE}{pos:Pos}
theorem oI(f:X.calm=true)(g:Throws X E)(i:PE X e te):PS X (.Raise (some e) none pos) (Bc X.K E te):=by
 walk_at "xd";rw[arm_exec_Raise];refine j' (wpAny_standAt ?_);show wpAny _ _ (raiseStmt X.env (some (do let v <-eval e X.env;standAt pos;pure v)) none) _ _ _;refine Et (K:=X.K) (I.ok.hd f) (j' (cK (i pins s σ H _ I h) λv j ⟨x,k,b,l,a,C,B,d,m,c,n,q⟩=>j' (wpAny_standAt (L' ?_))));subst m;obtain rfl:v=Value.ref a:=l;obtain⟨f,i,m,o⟩:=sm b c;exact⟨a,C,B,d,f,i,rfl,b.gG,n,m,o rfl,g pins σ k j a C d b c q⟩
end
section
variable {P:Program}{w:World}{K:W.Frag}{mg:Str->Option Value}{base:Heap}
theorem Fw.ZT{x a:Str}{b:Stmt}{f:Addr}{g:FuncData}{N d:List Str}{k:Nat}{sp:Sp}(F:Fw K x a b f g)(S:aE N d (aA b))(e:∀vs H Q E,sp vs H Q E->vs.length=d.length)
  (h:∀(c:Value) (A:Around) (outer:List Env) (s:Shared) (H:Hp) (vs:List V) (Q:VK) (E:XK),dH k (A.deeper (envOfC a (aA b) s.heap.objs.size f c))->sp vs H Q E->
   ∃t,rF (ie (uj P w) P w K mg base N a (aA b) f c A outer s H E) (cB b) t/\t {nx:=λ_ a=>Q .bI a,rt:=Q} (start N vs) H):ja P w K mg base (uj P w) (k + 1) f g d sp:=by
 obtain⟨j,l,kV,i,m,n,c,o,p,rfl,a,b⟩:=F.ex;calc Nr a b S e λA outer s H vs Q E d f=>h c A outer s H vs Q E d f
structure dj(P:Program)(w:World)(K:W.Frag)(mg:Str->Option Value)(base:Heap)(C:Addr)(m:Str)(k:Nat)(ps:List Str)(sp:Sp):Prop where
 ex:∃f fd,Meth K C m f/\ja P w K mg base (uj P w) k f fd ps sp/\Binds K fd ps []
end
section
variable {X:Cx}{o e:Expr}{es:List Expr}{to:TE}{t:TA}{apos p pos:Pos}{C:Addr}{m x:Str}{k j:Nat}{ps:List Str}{sp:Sp}{E:XK}
end
structure Vw(X:Cx)(e:Expr)(t:XK->TE):Prop where
 out:∀(pins:List (Addr×Obj)) (s:Shared) (σ:St) (H:Hp) (Q:VK) (E:XK) (xe:Value->Shared->Prop),(∀H1 s1 x s',Inv X pins σ H1 s1->uj X.prog X.w X.stack H1 s1 E x s'->xe x s')->Inv X pins σ H s->t E σ H Q->
  wpAny (model X.prog X.w) X.A (eval e X.env) (EP X pins σ Q) xe s
section
variable {X:Cx}{k j:Nat}{f C:Addr}{fd:FuncData}{ps:List Str}{sp:Sp}{E:XK}{x m:Str}{p pos apos:Pos}{e o:Expr}{es:List Expr}{ta:TE}{t:TA}
theorem PA.any{xe:Value->Shared->Prop}(a:PA X.xY es t){pins:List (Addr×Obj)}{s:Shared}{σ:St}{H:Hp}{Q:List V->Hp->Prop}(I:Inv X pins σ H s)(h:t σ H Q)(pos:Pos):
  wpAny (model X.prog X.w) X.A (spliced (backTo pos (starEach es X.env))) (AP X pins σ Q) xe s:=
 aal (a.out pos pins s σ H Q (I.om _) h) (λ_ _ ⟨b,c,d,r,q⟩=>⟨b,c,d.gk,r,q⟩) λ_ _ z=>X' z
theorem L7{pins:List (Addr×Obj)}{σ:St}{H:Hp}{s:Shared}{Q:VK}{us:List Value}{vs:List V}{xe:Value->Shared->Prop}(F:ja X.prog X.w X.K X.mg X.base (uj X.prog X.w) k f fd ps sp)(d:dH k X.A)(g:Binds X.K fd ps [])
  (i:∀b c x s',Inv X pins σ b c->uj X.prog X.w X.stack b c E x s'->xe x s') (I:Inv X pins σ H s) (r:Vals vs us) (h:sp vs H Q E):wpAny (model X.prog X.w) X.A (call (.ref f) us) (EP X pins σ Q) xe s:=by
 have b:(us++[]).length=ps.length:=by rw[List.append_nil,<-r.length];exact F.len _ _ _ _ h
 have c:Vals vs (us++[]):=by rw[List.append_nil];exact r
 refine wpAny_call (codeAny_mono (F.run X.A X.stack s H ⟨us,[]⟩ (us++[]) vs Q E d I.GI (g s us I.gG b) c h) λr s' a=>?_)
 cases r with
 |error e=>calc i H s e s' I a
 |ok j=>
  cases j with
  |ret u=>calc I.after a
  |next=>calc X' a
  |brk=>calc X' a
  |cont=>calc X' a
end
structure Vx(X:Cx)(st:Stmt)(t:XK->TS):Prop where
 out:∀(pins:List (Addr×Obj)) (s:Shared) (σ:St) (H:Hp) (D:Ends) (E:XK) (xe:Value->Shared->Prop),(∀H1 s1 x s',Inv X pins σ H1 s1->uj X.prog X.w X.stack H1 s1 E x s'->xe x s')->Inv X pins σ H s->t E D σ H->
  wpAny (model X.prog X.w) X.A (exec st X.env) (SP X pins D) xe s
section
variable {X:Cx}{e:Expr}{t:XK->TE}{pos pos':Pos}{x:Str}{i:Nat}
theorem kP(b:Vw X e t)(c:swapsWith e none pos.line X.env=pure false:=by rfl):Vx X (.Expr e pos) (λE=>xZ (t E)):=
 ⟨λa s σ H D E d f I h=>wpAny_Expr_any (cK (b.out a s σ H _ E d f I h) λv k ⟨x,g,i,l,j⟩=>⟨σ,g,i,j⟩) I.quiet c⟩
end
end
section
structure XBase(K:W.Frag)(B:Addr):Prop where
 ob:∃nm q N bs sn sub ab col dd k0 k1 k2 k3 k5,K.lookup B=some (excClassObj nm q B N bs tX true sn sub ab col dd k0 k1 k2 k3 k5 "ValueError.__new__")
section
variable {M:Model}{A:Around}{E:Value->Shared->Prop}{K:W.Frag}
theorem aaZ{s:Shared}{e C B:Addr}{d:Option Addr}{vs:Array Value}{b:Array (Option Value)}{Q:Bool->Shared->Prop}(a:K.In s.heap)(c:fU K C B)(f:XBase K B)(i:s.heap.get? e=some (⟨.ref C,d,.fields vs,b⟩:Obj))
  (d:Q true s):wpAny M A (excMatches (.ref e) (.ref B)) Q E s:=by
 obtain⟨h,q,N,j,k,b,l,e,m,n,o,p,r,t,g⟩:=c.ob;have b:=a _ _ g;obtain⟨c,r,t,e,u,h,j,k,v,l,m,n,o,p,q⟩:=f.ob;have c:=a _ _ q;obtain⟨h,g,e,t,f⟩:=s;have e:(Value.ref B::tX).contains (.type "BaseException")=true:=rfl;have a:(Value.ref C::.ref B::tX).contains (.ref B)=true:=by simp
 have f:=tc_notTuple;unfold excMatches
 repeat (first|with_reducible calc aaB i ?_|with_reducible calc aaB b ?_|with_reducible calc aaB c ?_|(with_reducible calc aa4 b ?_;rw[a])|(with_reducible calc aa4 c ?_;rw[e])|wp_step)
 calc d
end
abbrev Cx.mx(X:Cx)(a:Addr):Cx:={X with A:=X.A.mark (some (.ref a)),calm:=false,xe:=λ_ _=>False}
section
variable {X:Cx}{pins:List (Addr×Obj)}{σ:St}{H:Hp}{s:Shared}{a:Addr}
theorem Cx.Ok.mx(b:X.Ok)(a:Addr):(X.mx a).Ok:=
 ⟨b.mod,b.kind,b.glob,b.blt,b.above,b.inj,b.has,b.Ni,(λz=>nomatch z),b.frames,b.Pa,b.SO,b.bs,b.BX,b.v8,b.xW,b.mr,b.F6⟩
theorem Inv.mx(I:Inv X pins σ H s)(a:Addr):Inv (X.mx a) pins σ H s:=⟨I.ok.mx a,I.os,I.bare,I.base,I.loc,I.cell,I.free,I.ib,I.pin,I.aW,I.len⟩
theorem Inv.wV(b:X.Ok)(I:Inv (X.mx a) pins σ H s):Inv X pins σ H s:=⟨b,I.os,I.bare,I.base,I.loc,I.cell,I.free,I.ib,I.pin,I.aW,I.len⟩
theorem rJ{M:Model}{A:Around}{E:Value->Shared->Prop}{i:Nat}{n:Str}{m:Pos}{Q:Unit->Shared->Prop}(I:Inv X pins σ H s)(C:X.N.Nodup)(r:X.N[i]?=some n)(o:X.env.scope.names.lookup n=some .local)
  (h:∀s',Inv X pins (σ.set i none) H s'->Q ⟨⟩ s'):wpAny M A (do bindName X.env n .none;unbindBehindTheSuite X.env n m) Q E s:=by
 calc j' (wpAny_bindName (ic I C r (.inl o) (v:=.bI) (u:=.none) rfl (λm a=>?_) (.inr o)));have z:i<σ.length:=by rw[I.len];exact(List.getElem?_eq_some_iff.mp r).1
 obtain⟨m,F,G⟩:=id a.loc;have J:X.env.kindOf n=some .local:=o;have B:(X.env.scope.kind == .class||(X.env.scope.kind == .module&&X.env.locals !=X.env.globals))=false:=by rw[I.ok.kind];rfl
 have d:∃u,m n=some u:=by
  obtain⟨u,_,q⟩:=G i n .bI r (List.getElem?_set_self z) (.inl o);rcases q with⟨_,e⟩|⟨k,_⟩
  ·exact⟨u,e⟩
  ·rcases k with k|k<;>(rw[J]at k;cases k)
 obtain⟨m,d⟩:=d;have K:=a.F7;obtain⟨o,_,_,m,_⟩:=id F;unfold unbindBehindTheSuite;calc wpAny_onRaise ?_;unfold unbindName;calc j' (wpAny_point (j' ?_));unfold deleteName;simp only[J,B];rw[if_neg ∅];calc j' (wpAny_nsDel_keeps F λm v L g=>?_);rw[d];simp only[if_true,Option.isSome_some,Bool.not_true,Bool.false_eq_true,if_false];refine L' (wpAny_point (h _ ⟨a.ok,a.os,a.bare,⟨λb o e n u m=>?_,λb o e n u m=>?_,a.base.free,λb o e m=>?_,a.base.aS,a.base.ub,a.base.vZ⟩,⟨_,L,λj y O l t P=>?_⟩,λy c e=>?_,a.free,a.ib,λp B=>?_,λb R e=>?_,by simpa using I.len⟩))
 ·exact(g.2 b (W' (R' (T' e) I.ok.above))).trans (a.base.keep b o e n u m)
 ·obtain⟨d,l⟩:=a.base.slot b o e n u m;exact⟨d,(g.2 b (W' (R' (T' e) I.ok.above))).trans l⟩
 ·obtain⟨d,l⟩:=a.base.there b o e m;exact⟨d,(g.2 b (W' (R' (T' e) I.ok.above))).trans l⟩
 ·by_cases w:j=i
  ·subst w;rw[List.getElem?_set_self z] at t
   cases t
  ·rw[List.getElem?_set_ne (Ne.symm w)] at t;obtain⟨S,T,q⟩:=G j y O l (by rw[List.getElem?_set_ne (Ne.symm w)];calc t) P;calc⟨S,T,?_⟩;rcases q with⟨k,e⟩ | ⟨k,c,e,z⟩
   ·calc .inl ⟨k,?_⟩;have:y≠n:=λe=>w (rW C l (e▸r));simp[this,e]
   ·exact .inr ⟨k,c,e,z.sameBut g (K y c e)⟩
 ·obtain⟨i,z⟩:=a.cell y c e;exact⟨i,z.sameBut g (K y c e)⟩
 ·obtain⟨e,n,j,k,d⟩:=a.pin p B;exact⟨(g.2 p.1 j).trans e,n,j,k,d⟩
 ·calc(a.aW b R e).aK (λc i x q=>(g.2 c ?_).trans q) (λ_ q=>q) λ_ _ q=>q;rintro rfl;rcases x with rfl | x
  ·rw[a.free]at e;cases e
  ·rw[a.free]at x;cases x
end
end
section
variable {A:Around}{qual:Str}{mg:Str->Option Value}
structure jM(k:Nat)(A:Around):Prop where
 dp:A.depth+3*k+5<recursionLimit
 un:A.units+16*k+200<cLine
theorem jM.mono{j k:Nat}(r:jM k A)(h:j<=k):jM j A:=⟨by have:=r.dp;lia,by have:=r.un;lia⟩
theorem jM.deeper{k:Nat}(r:jM (k+1) A)(env:Env):jM k (A.deeper env):=
 ⟨by have:=r.dp;show A.depth+1+3*k+5<_;lia,by have:=r.un;show A.units+3+16*k+200<_;lia⟩
theorem jM.units{k:Nat}(r:jM k A):A.units+64<cLine:=by have:=r.un;lia
theorem dH.mx{k:Nat}(r:dH k A)(a:Addr):jM k (A.mark (some (.ref a))):=⟨r.dp,r.un⟩
structure NK(P:Program)(w:World)(K:W.Frag)(mg:Str->Option Value)(base:Heap)(k:Nat)(f:Addr)(fd:FuncData)(ps:List Str)(sp:Sp):Prop where
 len:∀vs H Q E,sp vs H Q E->vs.length=ps.length
 run:∀(A:Around) (outer:List Env) (s:Shared) (H:Hp) (args:Args) (us:List Value) (vs:List V) (Q:VK) (E:XK),jM k A->wg P w K mg base A outer s H->BindsTo s fd args (ps.zip us)->Vals vs us->sp vs H Q E->
  codeAny (model P w) A (.call (.ref f) args) (CR ve outer P w H s Q E) s
abbrev yB(P:Program)(w:World)(K:W.Frag)(mg:Str->Option Value)(base:Heap)(N:List Str)(qual:Str)(scope:Scope)(f:Addr)(a:Value)(A:Around)(outer:List Env)(s:Shared)(H:Hp):Cx:=
 {ie ve P w K mg base N qual scope f a A outer s H E0 with calm:=false,xe:=λ_ _=>False}
theorem Bd{P:Program}{w:World}{K:W.Frag}{base:Heap}{N b:List Str}{scope:Scope}{f:Addr}{c:Value}{outer:List Env}{s d:Shared}{H:Hp}{us:List Value}{vs:List V}
  (S:aE N b scope) (a:wg P w K mg base A outer s H) (e:vs.length=b.length) (r:Vals vs us)
  (x:InCallC s s.heap.objs.size (bindL (envOfC qual scope s.heap.objs.size f c).kindOf (b.zip us) λ_=>none) (cellsFrom (s.heap.objs.size+1) scope.names []) (bindC (envOfC qual scope s.heap.objs.size f c).kindOf (b.zip us) λ_=>none) d):
  Inv (yB P w K mg base N qual scope f c A outer s H) [] (start N vs) H d:=by
 have I:Inv (ie ve P w K mg base N qual scope f c {A with handled:=none} outer s H E0) [] (start N vs) H d:=uY S rfl ⟨a.frames,a.mod,a.bs,a.BX,a.mr,a.F6,a.aW,a.bare⟩ e r x;have ok:=I.ok;calc⟨⟨ok.mod,ok.kind,ok.glob,ok.blt,ok.above,ok.inj,ok.has,ok.Ni,(λz=>nomatch z),Around.frames_deeper a.frames,ok.Pa,ok.SO,ok.bs,ok.BX,ok.v8,ok.xW,ok.mr,ok.F6⟩,I.os,I.bare,I.base,I.loc,I.cell,I.free,I.ib,I.pin,I.aW,I.len⟩
theorem QI{P:Program}{w:World}{K:W.Frag}{base:Heap}{k:Nat}{f:Addr}{name:Str}{a:Arguments}{b:List Stmt}{scope:Scope}{o kV i y g ct j:Value}{C od:Option Addr}
  {I:Array (Option Value)} {N p:List Str} {sp:Sp} (M:K.lookup f=some ⟨j,od,.func (W.fnOf name qual a b scope o kV i y C g ct),I⟩) (O:W.codeIn K g qual=true) (S:aE N p scope)
  (j:∀vs H Q E,sp vs H Q E->vs.length=p.length)
  (R:∀(A:Around) (outer:List Env) (s:Shared) (H:Hp) (vs:List V) (Q:VK) (E:XK),jM k (A.deeper (envOfC qual scope s.heap.objs.size f g))->sp vs H Q E->
   ∃t,rF (yB P w K mg base N qual scope f g A outer s H) b t/\t {nx:=λ_ d=>Q .bI d,rt:=Q} (start N vs) H):
  NK P w K mg base (k+1) f (W.fnOf name qual a b scope o kV i y C g ct) p sp:=by
 calc⟨j,λA outer s H a i vs Q E D l T r F=>?_⟩;have U:=j _ _ _ _ F;have G:K.In s.heap:=l.mod.xV.keeps λb o e=>(l.bs b o e).1;have z:s.heap.NoLimit:=l.mod.nolimit.keeps λb o e=>(l.bs b o e).1;have X:∀y∈p.zip i,scope.names.lookup y.1=some .local\/(scope.names.lookup y.1=some .cell/\((cellsFrom (s.heap.objs.size+1) scope.names []).lookup y.1).isSome=true):=λ⟨n,v⟩ Y=>by
  rcases S.par n (List.of_mem_zip Y).1 with q|q
  ·exact .inl q
  ·exact .inr ⟨q,W.cellsFrom_some _ _ _ (.inl q)⟩
 calc codeAny_call_function (by have:=D.dp;lia) (G _ _ M) rfl S.co S.gen rfl (W.codeRec_of G O) (T _ _ _ _ ?_);calc wpAny_newFunctionEnv_cells S.kind X λa Z L x=>?_;subst Z;calc⟨z.keeps x.toInCall.keep,codeAny_func ?_⟩;obtain⟨t,b,i⟩:=R A outer s H vs Q E (D.deeper _) F;have I:Inv (yB P w K mg base N qual scope f g A outer s H) [] (start N vs) H L:=Bd S l U r x;calc aal (b [] L (start N vs) H _ I i) (λfl a h=>?_) λe a h=>X' h;have m:∀{c:St} {d:Hp} {v:V} {u:Value},Inv (yB P w K mg base N qual scope f g A outer s H) [] c d a->RelV v u->Q v d->CE outer P w H s Q u a:=
  λ{c d v u} J B q=>⟨v,d,J.os,J.bare,J.base,J.aW,B,q⟩
 cases fl with
 |ret u=>
  obtain⟨v,c,d,J,B,q⟩:=h;calc m J B q
 |next=>
  obtain⟨c,d,J,q⟩:=h;calc m (v:=V.bI) (u:=Value.none) J rfl q
 |brk=>
  obtain⟨_,_,_,q⟩:=h;calc X' q
 |cont=>
  obtain⟨_,_,_,q⟩:=h;calc X' q
section
variable {P:Program}{w:World}{K:W.Frag}{mg:Str->Option Value}{base:Heap}
structure Ig(P:Program)(w:World)(K:W.Frag)(mg:Str->Option Value)(base:Heap)(x:Str)(k:Nat)(ps:List Str)(sp:Sp):Prop where
 ex:∃f fd,NK P w K mg base k f fd ps sp/\mg x=some (.ref f)/\W.keepIn K (.ref f)=true/\Binds K fd ps []
theorem dq.okN{x:Str}{a:Stmt}{N b:List Str}{k:Nat}{sp:Sp}(T:dq K mg x qual a b)(S:aE N b (aA a))(d:∀vs H Q E,sp vs H Q E->vs.length=b.length)
  (e:∀(f:Addr) (c:Value) (A:Around) (outer:List Env) (s:Shared) (H:Hp) (vs:List V) (Q:VK) (E:XK),jM k (A.deeper (envOfC qual (aA a) s.heap.objs.size f c))->sp vs H Q E->
   ∃t,rF (yB P w K mg base N qual (aA a) f c A outer s H) (cB a) t/\t {nx:=λ_ a=>Q .bI a,rt:=Q} (start N vs) H):Ig P w K mg base x (k + 1) b sp:=by
 obtain⟨f,a,F,g,h⟩:=T.ex;have i:=F.kp;obtain⟨l,m,kV,j,n,o,c,p,q,rfl,a,b⟩:=F.ex;calc⟨f,_,QI a b S d λA outer s H vs Q E j k=>e f c A outer s H vs Q E j k,g,i,h⟩
end
section
variable {X:Cx}{e:Expr}{es:List Expr}{t:TA}{p pos:Pos}{x:Str}{k j:Nat}{ps:List Str}{sp:Sp}
theorem Ih(D:Ig X.prog X.w X.K X.mg X.base x k ps sp)(g:jM j X.A)(i:PA X (e::es) t)(a:Gl X x:=by rfl)(l:k<=j:=by decide)
  (d:(x==("__debug__":Str))=false:=by decide) (m:dw e=true:=by rfl) (n:es.all dw=true:=by rfl):PE X (.Call (.Name x p) (e::es) [] pos) (uT sp [] E0 t):=by
 obtain⟨f,q,F,o,u,v⟩:=D.ex;walk_at "xc";refine wpAny_Call_Name_kw (jU I a o ?_ d);refine W.callWith_K (h₀:=X.base) I.ok.mod.xV u (cK (i pos pins s σ H _ I h) λa d ⟨f,o,c,r,q⟩=>⟨c.gG,?_⟩) (dz m) (fz n);simp only[List.append_nil]at q;have i:(a++[]).length=ps.length:=by rw[List.append_nil,<-r.length];exact F.len _ _ _ _ q
 have m:Vals f (a++[]):=by rw[List.append_nil];exact r
 refine wpAny_call (codeAny_mono (F.run X.A X.stack d o ⟨a,[]⟩ (a++[]) f Q E0 (g.mono l) c.GI (v d a c.gG i) m q) λr n b=>?_)
 cases r with
 |error e=>calc X' b
 |ok y=>
  cases y with
  |ret u=>calc c.after b
  |next=>calc X' b
  |brk=>calc X' b
  |cont=>calc X' b
end
end
end L2
set_option maxHeartbeats 4000000
namespace DD
open PySem L2
variable {H:Hp}{x:V}
inductive Kd(H:Hp):V->Value->Prop
 |bI:Kd H .bI (.type "NoneType")
 |bl (b:Bool):Kd H (.bl b) (.type "bool")
 |int (i:Int):Kd H (.int i) (.type "int")
 |str (x:Str):Kd H (.str x) (.type "str")
 |lst {a xs}:H a=some (.lst xs)->Kd H (.ref a) (.type "list")
 |tup {a xs}:H a=some (.tup xs)->Kd H (.ref a) (.type "tuple")
 |dK {a bt}:H a=some (.dK bt)->Kd H (.ref a) (.type "dict")
theorem Kd.ty{K:W.Frag}{H:Hp}{x:V}{t:Value}(h:Kd H x t):gM K H x t:=by
 cases h with
 |bI=>calc .bI
 |bl b=>calc .bl b
 |int i=>calc .int i
 |str x=>calc .str x
 |lst e=>calc .lst e
 |tup e=>calc .tup e
 |dK e=>calc .dK e
def isI:V->Bool
 | .int _=>true
 |_=>false
theorem QJ{K:W.Frag}{H:Hp}{x:V}{t:Value}(h:Kd H x t):∃b c,W.kitOne K t (.type "int")=some b/\W.kitOne K t (.type "bool")=some c/\isI x=(b && !c):=by
 cases h with
 |bI=>calc⟨false,false,rfl,rfl,rfl⟩
 |bl b=>calc⟨true,true,rfl,rfl,rfl⟩
 |int i=>calc⟨true,false,rfl,rfl,rfl⟩
 |str x=>calc⟨false,false,rfl,rfl,rfl⟩
 |lst e=>calc⟨false,false,rfl,rfl,rfl⟩
 |tup e=>calc⟨false,false,rfl,rfl,rfl⟩
 |dK e=>calc⟨false,false,rfl,rfl,rfl⟩
def inR(a b:Int):V->Bool
 | .int i=>decide (a<=i)&&decide (i<b)
 |_=>false
theorem Vy{H:Hp}{n:Nat}{x:V}{d:DV}(h:HD H n x d):∃t,Kd H x t:=by
 cases h with
 |bI=>calc⟨_,.bI⟩
 |bl b=>calc⟨_,.bl b⟩
 |int i=>calc⟨_,.int i⟩
 |str x=>calc⟨_,.str x⟩
 |tup e=>calc⟨_,.tup e⟩
 |lst e=>calc⟨_,.lst e⟩
 |dict e=>calc⟨_,.dK e⟩
def QK:DV->Bool
 | .int _=>true
 |_=>false
def Vz(a b:Int):DV->Bool
 | .int i=>decide (a<=i)&&decide (i<b)
 |_=>false
theorem QL{n:Nat}{d:DV}(h:HD H n x d):isI x=QK d:=by cases h<;>rfl
theorem QM{n:Nat}{d:DV}(h:HD H n x d)(a b:Int):inR a b x=Vz a b d:=by cases h<;>rfl
def sI:List V:=[.str "letter",.str "way",.str "first"]
def L8(w:Str)(m:Int):List DV->Bool
 | [z]=>if w="is" then QK z else(decide (w="number")&&Vz 0 m z)
 |_=>false
def Eu(m:Int):DV->Bool
 | .tup (.str w::r)=>if yd (.str w) sI=true then decide (r.length=0) else L8 w m r
 |_=>false
inductive Val where
 |is (c:Int)|number (i:Int)|mM|way|first
def Val.dv:Val->DV
 | .is c=>.tup [.str "is",.int c]
 | .number i=>.tup [.str "number",.int i]
 | .mM=>.tup [.str "letter"]
 | .way=>.tup [.str "way"]
 | .first=>.tup [.str "first"]
def Val.ok(m:Int):Val->Prop
 | .number i=>0<=i/\i<m
 |_=>True
theorem QN{m:Int}{v:Val}(h:v.ok m):Eu m v.dv=true:=by
 cases v with
 |is c=>calc rfl
 |number i=>
  obtain⟨a,b⟩:=h;show(if yd (.str "number") sI=true then decide (([DV.int i]:List DV).length=0) else if ("number":Str)="is" then QK (.int i) else(decide (("number":Str)="number")&&(decide (0<=i)&&decide (i<m))))=true;rw[if_neg ⋯,if_neg ⋯];simp[a,b]
 |mM=>calc rfl
 |way=>calc rfl
 |first=>calc rfl
def sJ(b a:List Int)(way said:Int):Val->Int
 | .is c=>c
 | .number i=>b.getD i.toNat 0
 | .mM=>said
 | .way=>way
 | .first=>a.headD 0
abbrev yC(b a:List Int):DV:=.tup [.tup (b.map .int),.tup (a.map .int)]
theorem ln1{l:List V}(h:l.length=1):∃a,l=[a]:=List.length_eq_one_iff.mp h
theorem ln2{l:List V}(h:l.length=2):∃a b,l=[a,b]:=by
 cases l with
 |nil=>cases h
 |cons a r=>
  obtain⟨b,rfl⟩:=ln1 (Nat.succ.inj h);calc⟨a,b,rfl⟩
theorem ln3{l:List V}(h:l.length=3):∃a b c,l=[a,b,c]:=by
 cases l with
 |nil=>cases h
 |cons a r=>
  obtain⟨b,c,rfl⟩:=ln2 (Nat.succ.inj h);calc⟨a,b,c,rfl⟩
theorem ln4{l:List V}(h:l.length=4):∃a b c d,l=[a,b,c,d]:=by
 cases l with
 |nil=>cases h
 |cons a r=>
  obtain⟨b,c,d,rfl⟩:=ln3 (Nat.succ.inj h);calc⟨a,b,c,d,rfl⟩
theorem jb{H:Hp}{n:Nat}{x:V}{d:DV}(h:HT H n x (.tup [d])):∃a u k,x=.ref a/\H a=some (.tup [u])/\HT H k u d:=by
 cases h with
 | @tup k a b _ e l i=>
  obtain⟨u,rfl⟩:=ln1 l;calc⟨a,u,k,rfl,e,i 0 u d rfl rfl⟩
theorem cw{H:Hp}{n:Nat}{x:V}{d d':DV}(h:HT H n x (.tup [d,d'])):∃a u v k,x=.ref a/\H a=some (.tup [u,v])/\HT H k u d/\HT H k v d':=by
 cases h with
 | @tup k a b _ e l i=>
  obtain⟨u,v,rfl⟩:=ln2 l;calc⟨a,u,v,k,rfl,e,i 0 u d rfl rfl,i 1 v d' rfl rfl⟩
theorem Cy{H:Hp}{n:Nat}{x:V}{b:List Int}(h:HT H n x (.tup (b.map .int))):∃a,x=.ref a/\H a=some (.tup (b.map V.int)):=by
 cases h with
 | @tup k a c _ e l i=>
  calc⟨a,rfl,?_⟩;have:c=b.map V.int:=by
   apply List.ext_getElem?;intro j;rw[List.getElem?_map]
   cases d:b[j]? with
   |none=>
    have a:b.length<=j:=List.getElem?_eq_none_iff.mp d;rw[List.getElem?_eq_none_iff.mpr (by rw[l,List.length_map];calc a)];rfl
   |some z=>
    have a:j<b.length:=(List.getElem?_eq_some_iff.mp d).1;have f:j<c.length:=by rw[l,List.length_map];exact a
    have g:=i j c[j] (.int z) (di f) (by rw[List.getElem?_map,d];rfl);rw[di f];generalize c[j]=y at g
    cases g;rfl
  rw[<-this];calc e
theorem oJ{H:Hp}{n:Nat}{a:Addr}{c:List Int}(e:H a=some (.tup (c.map V.int))):HT H (n+1) (.ref a) (.tup (c.map .int)):=by
 calc .tup e nofun λi u d b f=>?_;rw[List.getElem?_map]at b f
 cases g:c[i]? with
 |none=>rw[g]at b;cases b
 |some z=>rw[g]at b f;cases b;cases f;calc .int z
theorem sL{H:Hp}{n:Nat}{a:Addr}{u:V}{d:DV}(e:H a=some (.tup [u]))(h:HT H n u d):HT H (n+1) (.ref a) (.tup [d]):=by
 refine .tup e rfl λi x y b c=>?_
 cases i with
 |zero=>simp at b c;subst b c;calc h
 |succ i=>simp at b
theorem cR{H:Hp}{n:Nat}{a:Addr}{u v:V}{d d':DV}(e:H a=some (.tup [u,v]))(h:HT H n u d)(h':HT H n v d'):HT H (n+1) (.ref a) (.tup [d,d']):=by
 refine .tup e rfl λi x y b c=>?_
 match i,b,c with
 |0,b,c=>simp at b c;subst b c;calc h
 |1,b,c=>simp at b c;subst b c;calc h'
theorem _root_.L2.HT.mono{H:Hp}{n:Nat}{x:V}{d:DV}(h:HT H n x d):∀{m:Nat},n<=m->HT H m x d:=by
 induction h with
 |bI=>intro m _;calc .bI
 |bl b=>intro m _;calc .bl b
 |int i=>intro m _;calc .int i
 |str x=>intro m _;calc .str x
 |tup a b c f=>
  intro m e;obtain⟨k,rfl⟩:∃k,m=k+1:=⟨m-1,()⟩
  calc .tup a b λi u e p q=>f i u e p q ()
theorem wW{K:W.Frag}{H:Hp}{n:Nat}{x:V}{d:DV}(h:HT H n x d):∀{m:Nat}{y:V}{k:Nat},HT H m y d->n<k->kO K H k x y:=by
 induction h with
 |bI=>intro m y k h c;cases h;obtain⟨j,rfl⟩:∃j,k=j+1:=⟨k-1,()⟩;calc .inl ⟨rfl,rfl⟩
 |bl b=>intro m y k h c;cases h;obtain⟨j,rfl⟩:∃j,k=j+1:=⟨k-1,()⟩;calc .inl ⟨rfl,rfl⟩
 |int i=>intro m y k h c;cases h;obtain⟨j,rfl⟩:∃j,k=j+1:=⟨k-1,()⟩;calc .inl ⟨rfl,rfl⟩
 |str i=>intro m y k h c;cases h;obtain⟨j,rfl⟩:∃j,k=j+1:=⟨k-1,()⟩;calc .inl ⟨rfl,rfl⟩
 | @tup n a o g e l i q=>
  intro m y k h c;obtain⟨j,rfl⟩:∃j,k=j+1:=⟨k-1,()⟩
  cases h with
  | @tup m b d _ i j k=>
   calc .inr ⟨a,b,o,d,rfl,rfl,.inl ⟨bJ.of e,bJ.of i⟩,l.trans j.symm,λp u v c m=>?_⟩;have a:p<g.length:=by rw[<-l];exact(List.getElem?_eq_some_iff.mp c).1
   calc q p u g[p] c (di a) (k p v g[p] m (di a)) ()
inductive bC where
 |set (i:Int) (v:Val)|add (i:Int) (v:Val)|times (i:Int) (v:Val)|put (v:Val)|drop|send (j:Int) (v:Val)|say (v:Val)|skip (v w:Val) (k:Int)
def bC.dv:bC->DV
 | .set i v=>.tup [.str "set",.int i,v.dv]
 | .add i v=>.tup [.str "add",.int i,v.dv]
 | .times i v=>.tup [.str "times",.int i,v.dv]
 | .put v=>.tup [.str "put",v.dv]
 | .drop=>.tup [.str "drop"]
 | .send j v=>.tup [.str "send",.int j,v.dv]
 | .say v=>.tup [.str "say",v.dv]
 | .skip v w k=>.tup [.str "skip",v.dv,w.dv,.int k]
def bC.ok(m:Int):bC->Prop
 | .set i v=>0<=i/\i<m/\v.ok m
 | .add i v=>0<=i/\i<m/\v.ok m
 | .times i v=>0<=i/\i<m/\v.ok m
 | .put v=>v.ok m
 | .drop=>True
 | .send j v=>0<=j/\v.ok m
 | .say v=>v.ok m
 | .skip v w k=>v.ok m/\w.ok m/\1<=k/\k<25
def bC.vals:bC->List Val
 | .set _ v=>[v]
 | .add _ v=>[v]
 | .times _ v=>[v]
 | .put v=>[v]
 | .drop=>[]
 | .send _ v=>[v]
 | .say v=>[v]
 | .skip v w _=>[v,w]
def bC.word:bC->Str
 | .set _ _=>"set"
 | .add _ _=>"add"
 | .times _ _=>"times"
 | .put _=>"put"
 | .drop=>"drop"
 | .send _ _=>"send"
 | .say _=>"say"
 | .skip _ _ _=>"skip"
def bC.uk:bC->List Str
 | .set _ _=>["number","value"]
 | .add _ _=>["number","value"]
 | .times _ _=>["number","value"]
 | .put _=>["value"]
 | .drop=>[]
 | .send _ _=>["way","value"]
 | .say _=>["value"]
 | .skip _ _ _=>["value","value","many"]
structure WS where
 ns:List Int
 row:List Int
 cV:List (Int×Int)
 words:List Int
def fW(M way said:Int)(b a:List Int)(v:Val):Int:=sJ b a way said v%M
def jN(M:Int)(a:List Int)(x:Int):bC->List Int
 | .set i _=>a.set i.toNat x
 | .add i _=>a.set i.toNat ((a.getD i.toNat 0+x)%M)
 | .times i _=>a.set i.toNat ((a.getD i.toNat 0*x)%M)
 |_=>a
def oK(a:List Int)(x:Int):bC->List Int
 | .put _=>if a.length<12 then a++[x] else a
 | .drop=>a.tail
 |_=>a
def ik(x:Int):bC->List (Int×Int)
 | .send j _=>[(j,x)]
 |_=>[]
def gn(x:Int):bC->List Int
 | .say _=>[x]
 |_=>[]
def oM(x y:Int):bC->Int
 | .skip _ _ k=>if x<y then k else 0
 |_=>0
def fX(M way said:Int)(d:bC)(s:WS):WS:=
 let ws:=d.vals.map (fW M way said s.ns s.row)
 ⟨jN M s.ns (ws.getD 0 0) d,oK s.row (ws.getD 0 0) d,s.cV++ik (ws.getD 0 0) d,s.words++gn (ws.getD 0 0) d⟩
def mH(M way said:Int)(d:bC)(s:WS):Int:=
 let ws:=d.vals.map (fW M way said s.ns s.row)
 oM (ws.getD 0 0) (ws.getD 1 0) d
def yD(M way said:Int):Nat->List bC->WS->WS
 |0,_,s=>s
 |_,[],s=>s
 |f+1,d::r,s=>yD M way said f (r.drop (mH M way said d s).toNat) (fX M way said d s)
theorem Cz{M way said:Int}{f:Nat}{s:WS}:yD M way said f [] s=s:=by cases f<;>rfl
def oN(M way said:Int)(b:List bC)(c a:List Int):WS:=yD M way said b.length b ⟨c,a,[],[]⟩
theorem pQ{M x:Int}{a:List Int}{d:bC}:(jN M a x d).length=a.length:=by cases d<;>simp[jN]
def yE(K:W.Frag)(H:Hp)(f:V)(e d:List Int):Prop:=∃a b c,f=.ref a/\H a=some (.tup [.ref b,.ref c])/\(aT K H b (e.map V.int)\/bJ K H b (e.map V.int))/\(aT K H c (d.map V.int)\/bJ K H c (d.map V.int))
theorem yE.of{K:W.Frag}{n:Nat}{f:V}{g d:List Int}(h:HT H n f (yC g d)):yE K H f g d:=by
 obtain⟨a,u,v,k,rfl,e,i,j⟩:=cw h;obtain⟨b,rfl,l⟩:=Cy i;obtain⟨c,rfl,d⟩:=Cy j;calc⟨a,b,c,rfl,e,.inr (bJ.of l),.inr (bJ.of d)⟩
def bR:Stmt->List Stmt
 | .ClassDef _ _ _ a _ _ _ _ _ _ _=>a
 |_=>[]
theorem bU{H:Hp}{n:Nat}{x:V}{d d' b:DV}(h:HT H n x (.tup [d,d',b])):∃a u v w k,x=.ref a/\H a=some (.tup [u,v,w])/\HT H k u d/\HT H k v d'/\HT H k w b:=by
 cases h with
 | @tup k a c _ e l i=>
  obtain⟨u,v,w,rfl⟩:=ln3 l;calc⟨a,u,v,w,k,rfl,e,i 0 u d rfl rfl,i 1 v d' rfl rfl,i 2 w b rfl rfl⟩
theorem oO{H:Hp}{n:Nat}{x:V}{d d' b c:DV}(h:HT H n x (.tup [d,d',b,c])):∃a u v w z k,x=.ref a/\H a=some (.tup [u,v,w,z])/\HT H k u d/\HT H k v d'/\HT H k w b/\HT H k z c:=by
 cases h with
 | @tup k a f _ e l i=>
  obtain⟨u,v,w,z,rfl⟩:=ln4 l;calc⟨a,u,v,w,z,k,rfl,e,i 0 u d rfl rfl,i 1 v d' rfl rfl,i 2 w b rfl rfl,i 3 z c rfl rfl⟩
theorem mN{H:Hp}{n:Nat}{a:Addr}{u v w:V}{d d' g:DV}(e:H a=some (.tup [u,v,w]))(h:HT H n u d)(h':HT H n v d')(f:HT H n w g):HT H (n+1) (.ref a) (.tup [d,d',g]):=by
 refine .tup e rfl λi x y b c=>?_
 match i,b,c with
 |0,b,c=>simp at b c;subst b c;calc h
 |1,b,c=>simp at b c;subst b c;calc h'
 |2,b,c=>simp at b c;subst b c;calc f
theorem CA{n:Nat}{v:Val}(h:HT H n x v.dv):∃a xs,x=.ref a/\H a=some (.tup xs):=by
 cases v<;>(cases h;rename_i a xs e l i;calc⟨_,_,rfl,by assumption⟩)
end DD
set_option maxHeartbeats 400000
namespace L2
open PySem PySem.Spec PyProof.Rows
def VA:R2:=λx y H Q=>match x,y with
 | .ref a,.int n=>∃v,H a=some (.lst [v])/\-1000<=n/\n<=1000/\∀p,H p=none->Q (.ref p) (upd H p (.lst (List.replicate n.toNat v)))
 |_,_=>False
theorem Ii{α:Type}(n:Nat)(v:α):(List.replicate n [v]).flatten=List.replicate n v:=by
 induction n with
 |zero=>rfl
 |succ n a=>rw[List.replicate_succ,List.flatten_cons,a];rfl
theorem yF{v:V}{u:Value}(r:RelV v u):∀n:Nat,Vals (List.replicate n v) (List.replicate n u)
 |0=>.nil
 |n+1=>.cons r (yF r n)
section
variable {X:Cx}
theorem Ij:fQ X (binaryOp .Mult) VA:=by
 intro g s σ H x y v u Q I i j h
 cases x<;>cases y<;>first
  |calc(show False from h).elim
  |skip
 rename_i a n;obtain⟨w,l,A,B,q⟩:=h;obtain rfl:v=Value.ref a:=i;obtain⟨c,rfl⟩:∃c,u=Value.int n c:=j;obtain⟨_,C,k,m,d⟩:=I.aW a _ l;obtain⟨f,rfl,p⟩:=m.one;have r:([f]:List Value).toArray.size*n.toNat<=1000:=by simp;lia
 refine wpAny_binaryOp_repeat_ref (T:="list") (U:="int") ∅ ⟨_,d,rfl⟩ (λt=>typeIs_int t n c) noFill_list_mul F.fills_int_mul F.slot_int_rmul repeat_list F.slot_int_index.lookup
  (call_meets F.slot_int_rmul (typeIs_int s n c) F.entry_int_rmul (F.args_int_rmul_2 _ _) (lm_int_rmul_list_any n c a ([f]:List Value).toArray k none #[])
   ⟨d,rfl,⟨_,d,rfl⟩,call_meets F.slot_list_mul ⟨_,d,rfl⟩ F.entry_list_mul (F.args_list_mul_2 _ _)
    (lm_list_mul_any a ([f]:List Value).toArray k none #[] n c (by simp[Builtin.List.listFitsIndex];lia) () (by simp[Builtin.List.listTooLong,sizeLine];lia))
    ⟨d,?_⟩⟩)
 rw[listMul_foldl_if,Ii];have z:H s.heap.objs.size=none:=I.aW.fresh (K' _);calc⟨V.ref s.heap.objs.size,_,I.laid (o:=.lst (List.replicate n.toNat w)) (a:=s.heap.objs.size) (λb o e=>J' _ e) (K' _) (show _/\_ from⟨?_,_,0,yF p _,V' _ rfl⟩),rfl,q _ z⟩;rw[List.length_replicate,sizeLine_eq];lia
end
def VB(K:W.Frag):List V->Hp->VK->Prop:=λxs H Q=>∃(a C B:Addr) (d:Option Addr) (p:Addr) (cs:List Addr) (b e:Bool),xs=[.ref a,.ref p]/\H a=some (XO a C d e)/\(∀c,d=some c->∃f,H c=some (XD c f))/\fU K C B/\H p=some (.tup (cs.map V.ref))/\W.kitAny K (.ref C) (cs.map Value.ref)=some b/\Q (.bl b) H
theorem vk:∀{cs:List Addr}{us:List Value},Vals (cs.map V.ref) us->us=cs.map Value.ref
 | [],_,h=>by cases h;rfl
 |c::cs,_,h=>by
  cases h with
  |cons a b=>
   rw[vk b]
   cases(show _=Value.ref c from a);rfl
theorem vm{X:Cx}:fw X (.builtin "isinstance") (VB X.K):=by
 intro e s σ H l m Q I r h;obtain⟨a,C,B,d,p,F,b,G,rfl,o,t,v,w,k,q⟩:=h;obtain⟨u,c,rfl,n,x⟩:∃u c,m=u::c/\RelV (.ref a) u/\Vals [.ref p] c:=by cases r with|cons a b=>exact⟨_,_,rfl,a,b⟩
 obtain⟨y,rfl,A⟩:=x.one
 cases(show u=Value.ref a from n)
 cases(show y=Value.ref p from A);obtain⟨_,a,c,f⟩:=I.aW p _ w;rw[vk c]at f;obtain⟨⟨e,h,a,D⟩,E,g,n,i⟩:=id f;simp only at g i;subst g i;refine W.kia_tup (yo v) I.gG ?_ E k (λz=>nomatch z) λa=>⟨.bl b,H,I.tok _,rfl,q⟩
 obtain⟨l,D,j⟩:=Cp I o
 cases d with
 |none=>calc⟨_,none,j,rfl,rfl,aam⟩
 |some a=>
  obtain⟨b,z⟩:=t a rfl;obtain⟨_,⟨o,_,_,b,_⟩,_⟩:=AW (I.aW a _ z);calc⟨_,some o,j,rfl,rfl,b⟩
end L2
namespace L2
open PySem
theorem L9:bootBuiltins "ValueError"=some (.type "ValueError"):=by kernel_rfl
structure uo(K:W.Frag)(mg:Str->Option Value)(B:Addr)(c:Nat->Addr):Prop where
 oP:mg "BadMachine"=some (.ref (c 0))
 vn:mg "BadDeed"=some (.ref (c 1))
 yG:mg "NoText"=some (.ref (c 2))
 yH:mg "BadNet"=some (.ref (c 3))
 sM:mg "NoLetter"=some (.ref (c 4))
 mO:mg "NotFirst"=some (.ref (c 5))
 vo:mg "NoCount"=some (.ref (c 6))
 vp:mg "NoEvent"=some (.ref (c 7))
 sO:mg "Orphaned"=some (.ref (c 8))
 vq:mg "TooMany"=some (.ref (c 9))
 yI:mg "NoLine"=some (.ref (c 10))
 qR:mg "NoMachine"=some (.ref (c 11))
 yJ:mg "NotRow"=some (.ref (c 12))
 Ik:mg "Busy"=some (.ref (c 13))
 oQ:mg "NotReached"=some (.ref (c 14))
 yK:mg "NoMark"=some (.ref (c 15))
 CB:mg "NoRow"=some (.ref (c 16))
 yL:mg "NoName"=some (.ref (c 17))
 yM:mg "NoDeed"=some (.ref (c 18))
 mP:mg "NetError"=some (.ref B)
 wX:q8 K mg "BadMachine" (c 0) B
 Il:q8 K mg "NoText" (c 2) B
 Im:q8 K mg "BadNet" (c 3) B
 Ex:q8 K mg "NoCount" (c 6) B
 Ey:q8 K mg "NoEvent" (c 7) B
 Ez:q8 K mg "TooMany" (c 9) B
 yN:q8 K mg "NoMachine" (c 11) B
 QO:q8 K mg "Busy" (c 13) B
 Io:q8 K mg "NoMark" (c 15) B
 Ma:q8 K mg "NoRow" (c 16) B
 Ip:q8 K mg "NoName" (c 17) B
 Iq:q8 K mg "NoDeed" (c 18) B
 cl:∀i,i<19->fU K (c i) B
 inj:∀i j,i<19->j<19->c i=c j->i=j
 nB:∀i,i<19->c i≠B
 VC:(W.clsIn K B).isSome=true
 tyB:W.typeIn K (.ref B)=some (.type "type")
 xb:XBase K B
 fY:bQ K (c 1) "at"
 cI:bQ K (c 4) "at"
 cX:bQ K (c 5) "at"
 dE:bQ K (c 8) "letter"
 eY:bQ K (c 10) "falls"
 eC:bQ K (c 10) "letter"
 fZ:bQ K (c 12) "way"
 cN:bQ K (c 14) "machine"
section
variable {K:W.Frag}{mg:Str->Option Value}{B:Addr}{c:Nat->Addr}
theorem wY(T:uo K mg B c){i j:Nat}(a:i<19)(b:j<19):W.kitOne K (.ref (c i)) (.ref (c j))=some (decide (i=j)):=by
 unfold W.kitOne;by_cases e:i=j
 ·subst e;rw[if_pos nofun];simp
 ·have d:c i≠c j:=λz=>e (T.inj i j a b z);have g:c j≠B:=T.nB j b;rw[if_neg (by simpa using d)];obtain⟨cd,k,l,_⟩:=(T.cl i a).cd;obtain⟨n,q,N,o,p,l,r,m,t,u,v,w,x,y,k⟩:=(T.cl j b).ob;have l:W.typeIn K (.ref (c j))=some (.type "type"):=by show Option.map (·.cls) (K.lookup (c j))=_;rw[k];rfl
  have b:(W.clsIn K (c j)).isSome=true:=by unfold W.clsIn;rw[k];rfl
  have k:=(T.cl i a).mro (.ref (c j));show(if ((W.clsIn K (c j)).isSome&&W.typeIn K (.ref (c j))==some (.type "type"))=true then W.subIn K (.ref (c i)) (.ref (c j)) else none)=_;rw[l,b];simp only[beq_self_eq_true,Bool.and_self,if_true];show W.mroIn K (c i) (.ref (c j))=_;rw[k];have z:((Value.ref (c i)::.ref B::tX).contains (.ref (c j)))=false:=by
   simp[tX,List.contains_cons,d,g,Ne.symm d]
  rw[z];simp[e]
theorem QP(T:uo K mg B c){i:Nat}(a:i<19):W.kitOne K (.ref (c i)) (.type "ValueError")=some true:=by
 unfold W.kitOne;rw[if_neg (by intro z;cases z)];show(if W.kitMeta "ValueError"=true then W.subIn K (.ref (c i)) (.type "ValueError") else none)=_;rw[if_pos ⋯];show W.mroIn K (c i) (.type "ValueError")=_;exact((T.cl i a).mro _).trans rfl
theorem wZ(T:uo K mg B c){i:Nat}(b:i<19):∀a:List Nat,(∀j∈a,j<19)->W.kitAny K (.ref (c i)) ((a.map c).map Value.ref)=some (decide (i∈a))
 | [],_=>by simp[W.kitAny]
 |j::a,h=>by
  have d:=wZ T b a λk f=>h k (aav _ f);have e:=wY T b (h j nofun);show(match W.kitOne K (.ref (c i)) (.ref (c j)) with|some true=>some true|some false=>W.kitAny K (.ref (c i)) ((a.map c).map Value.ref)|none=>none)=_;rw[e];by_cases z:i=j
  ·subst z;simp
  ·rw[decide_eq_false z];show W.kitAny K (.ref (c i)) ((a.map c).map Value.ref)=_;rw[d];simp[z]
end
end L2
namespace L2
open PySem PySem.Spec PyProof.Rows Builtin.Str
end L2
namespace L2
open PySem PySem.Spec PyProof.Rows Builtin.Str
end L2
set_option maxHeartbeats 4000000
namespace L2
open PySem
section
variable {X:Cx}
def aa3(K:W.Frag):List V->Hp->VK->Prop:=λxs H Q=>∃(x:V) (C:Addr) (t:Value) (b:Bool),xs=[x,.ref C]/\gM K H x t/\W.kitOne K t (.ref C)=some b/\Q (.bl b) H
theorem Ir{K:W.Frag}(c:X.K=K):fw X (.builtin "isinstance") (aa3 K):=by
 subst c;intro a s σ H i j Q I r h;obtain⟨x,C,t,b,rfl,d,e,q⟩:=h;obtain⟨u,k,rfl,f,g⟩:=vals2 r
 cases g;calc uS I f d e λa=>⟨.bl b,H,I.tok _,rfl,q⟩
end
end L2
namespace L2
open PySem PySem.Spec PyProof.Rows
variable {e:Nat->Bool}
def FI(K:W.Frag)(H:Hp):Nat->V->V->Bool->Prop
 |0,_,_,_=>False
 | n + 1,x,y,b=>(∃a,x=.ref a/\y=.ref a/\b=true)\/(fT x=true/\fT y=true/\b=xN x y)
  \/(∃a xs,fT x=true/\y=.ref a/\(bJ K H a xs\/aT K H a xs)/\b=false)\/(∃a xs,fT y=true/\x=.ref a/\(bJ K H a xs\/aT K H a xs)/\b=false)
  \/(∃a c xs d,x=.ref a/\y=.ref c/\((bJ K H a xs/\aT K H c d)\/(aT K H a xs/\bJ K H c d))/\b=false)
  \/∃a c xs d,∃e:Nat->Bool,x=.ref a/\y=.ref c/\a≠c/\((bJ K H a xs/\bJ K H c d)\/(aT K H a xs/\aT K H c d))
   /\(∀(i:Nat) u v,xs[i]?=some u->d[i]?=some v->FI K H n u v (e i))/\b=((List.range (min xs.length d.length)).all e&&(xs.length==d.length))
def YY(K:W.Frag)(H:Hp)(n:Nat)(a c:Addr)(b:Bool):Prop:=∃xs d,∃e:Nat->Bool,((bJ K H a xs/\bJ K H c d)\/(aT K H a xs/\aT K H c d))
      /\(∀(i:Nat) u v,xs[i]?=some u->d[i]?=some v->FI K H n u v (e i))/\b=((List.range (min xs.length d.length)).all e&&(xs.length==d.length))
section
variable {X:Cx}
theorem Iu{pins:List (Addr×Obj)}{σ:St}{H:Hp}{s:Shared}(I:Inv X pins σ H s){n:Nat}(L:∀(A:Around) {x y:V}{u v:Value}{b:Bool},FI X.K H n x y b->A.units+n<cLine->RelV x u->RelV y v->SeqAt.EqAt A s u v b)
  {A:Around} {a c:Addr} {b:Bool} (h:YY X.K H n a c b) (f:A.units+n+1<cLine):SeqAt.RcAt A s (.ref a) (.ref c) b/\SeqAt.RcNeAt A s (.ref a) (.ref c) (!b):=by
 obtain⟨g,k,e,d,M,rfl⟩:=h;rcases d with⟨m,n⟩|⟨m,n⟩
 ·obtain⟨d,o,h,p⟩:=I.tuple m;obtain⟨f,q,l,w⟩:=I.tuple n;have N:=o.length;have O:=q.length;have b:∀j (m:j<d.toArray.size) (n:j<f.toArray.size),SeqAt.EqAt A.in1 s d.toArray[j] f.toArray[j] (e j):=λj y z=>by
   have B:j<d.length:=by simpa using y
   have C:j<f.length:=by simpa using z
   obtain⟨D,r,E⟩:=o.get (i:=j) (x:=g[j]'()) nofun;obtain⟨F,t,G⟩:=q.get (i:=j) (x:=k[j]'()) nofun;have H:d.toArray[j]=D:=by
    have:=di B;rw[this]at r;simpa using Option.some.inj r
   have J:f.toArray[j]=F:=by
    have:=di C;rw[this]at t;simpa using Option.some.inj t
   rw[H,J];exact L A.in1 (M j _ _ nofun nofun) (by rw[in1_units];lia) E G
  have u:=SeqAt.RcAt.tuples (A:=A) (show s.heap.IsTuple a d.toArray from h) (show s.heap.IsTuple c f.toArray from l) () b;have v:=SeqAt.RcNeAt.tuples (A:=A) (show s.heap.IsTuple a d.toArray from h) (show s.heap.IsTuple c f.toArray from l) () b;have p:d.toArray.size=g.length:=by simp;lia
  have w:f.toArray.size=k.length:=by simp;lia
  rw[p,w]at u v;exact⟨u,v⟩
 ·obtain⟨d,o,h,p⟩:=I.list m;obtain⟨f,q,l,w⟩:=I.list n;have N:=o.length;have O:=q.length;by_cases a:g.length=k.length
  ·have c:d.toArray.size=f.toArray.size:=by simp;lia
   have b:∀j (m:j<d.toArray.size) (n:j<f.toArray.size),SeqAt.EqAt A.in1 s d.toArray[j] f.toArray[j] (e j):=λj y z=>by
    have B:j<d.length:=by simpa using y
    have C:j<f.length:=by simpa using z
    obtain⟨D,r,E⟩:=o.get (i:=j) (x:=g[j]'()) nofun;obtain⟨F,t,G⟩:=q.get (i:=j) (x:=k[j]'()) nofun;have H:d.toArray[j]=D:=by
     have:=di B;rw[this]at r;simpa using Option.some.inj r
    have J:f.toArray[j]=F:=by
     have:=di C;rw[this]at t;simpa using Option.some.inj t
    rw[H,J];exact L A.in1 (M j _ _ nofun nofun) (by rw[in1_units];lia) E G
   have u:=SeqAt.RcAt.lists (A:=A) h.isList l.isList c () b;have v:=SeqAt.RcNeAt.lists (A:=A) h.isList l.isList c () b;have p:d.toArray.size=g.length:=by simp;lia
   have b:((List.range (min g.length k.length)).all e&&(g.length==k.length))=(List.range g.length).all e:=by rw[a];simp
   rw[p]at u v;rw[b];exact⟨u,v⟩
  ·have c:(d.toArray.size != f.toArray.size)=true:=by simp;lia
   have b:((List.range (min g.length k.length)).all e&&(g.length==k.length))=false:=by simp[a]
   rw[b];calc⟨SeqAt.RcAt.lists_lengths h.isList l.isList c (),SeqAt.RcNeAt.lists_lengths h.isList l.isList c ()⟩
theorem Iv{pins:List (Addr×Obj)}{σ:St}{H:Hp}{s:Shared}(I:Inv X pins σ H s):∀(n:Nat) (A:Around) {x y:V}{u v:Value}{b:Bool},FI X.K H n x y b->A.units+n<cLine->RelV x u->RelV y v->SeqAt.EqAt A s u v b
 |0,_,_,_,_,_,_,h,_,_,_=>h.elim
 |n+1,A,x,y,u,v,b,h,r,k,l=>by
  rcases h with⟨a,rfl,rfl,rfl⟩|⟨f,g,rfl⟩|⟨a,p,f,rfl,i,rfl⟩|⟨a,p,f,rfl,i,rfl⟩|⟨a,c,p,q,rfl,rfl,i,rfl⟩|⟨a,c,p,q,e,rfl,rfl,w,i,z,B⟩
  ·cases k;cases l;exact SeqAt.EqAt.same _
  ·exact AF k l f g
  ·cases l;rcases i with i | i
   ·obtain⟨j,m,d,o⟩:=I.tuple i
    cases x<;>first|calc absurd (show false=true from f) U'|skip
    ·cases k;exact SeqAt.EqAt.none_tuple (show s.heap.IsTuple a j.toArray from d) ()
    ·cases k;exact SeqAt.EqAt.bool_tuple _ (show s.heap.IsTuple a j.toArray from d) ()
    ·obtain⟨t,rfl⟩:=k;exact SeqAt.EqAt.int_tuple _ _ (show s.heap.IsTuple a j.toArray from d) ()
    ·obtain⟨t,rfl⟩:=k;exact SeqAt.EqAt.str_tuple _ _ (show s.heap.IsTuple a j.toArray from d) ()
   ·obtain⟨j,m,d,o⟩:=I.list i
    cases x<;>first|calc absurd (show false=true from f) U'|skip
    ·cases k;exact SeqAt.EqAt.none_list d.isList ()
    ·cases k;exact SeqAt.EqAt.bool_list _ d.isList ()
    ·obtain⟨t,rfl⟩:=k;exact SeqAt.EqAt.int_list _ _ d.isList ()
    ·obtain⟨t,rfl⟩:=k;exact SeqAt.EqAt.str_list _ _ d.isList ()
  ·cases k;rcases i with i | i
   ·obtain⟨j,m,d,o⟩:=I.tuple i
    cases y<;>first|calc absurd (show false=true from f) U'|skip
    ·cases l;exact SeqAt.EqAt.tuple_none (show s.heap.IsTuple a j.toArray from d) ()
    ·cases l;exact SeqAt.EqAt.tuple_bool _ (show s.heap.IsTuple a j.toArray from d) ()
    ·obtain⟨t,rfl⟩:=l;exact SeqAt.EqAt.tuple_int _ _ (show s.heap.IsTuple a j.toArray from d) ()
    ·obtain⟨t,rfl⟩:=l;exact SeqAt.EqAt.tuple_str _ _ (show s.heap.IsTuple a j.toArray from d) ()
   ·obtain⟨j,m,d,o⟩:=I.list i
    cases y<;>first|calc absurd (show false=true from f) U'|skip
    ·cases l;exact SeqAt.EqAt.list_none d.isList ()
    ·cases l;exact SeqAt.EqAt.list_bool _ d.isList ()
    ·obtain⟨t,rfl⟩:=l;exact SeqAt.EqAt.list_int _ _ d.isList ()
    ·obtain⟨t,rfl⟩:=l;exact SeqAt.EqAt.list_str _ _ d.isList ()
  ·cases k
   cases l;rcases i with⟨f,g⟩|⟨f,g⟩
   ·obtain⟨j,m,d,o⟩:=I.tuple f;obtain⟨r,t,h,C⟩:=I.list g;exact SeqAt.EqAt.tuple_list (show s.heap.IsTuple a j.toArray from d) h.isList ()
   ·obtain⟨j,m,d,o⟩:=I.list f;obtain⟨r,t,h,C⟩:=I.tuple g;exact SeqAt.EqAt.list_tuple d.isList (show s.heap.IsTuple c r.toArray from h) ()
  ·cases k
   cases l;calc SeqAt.EqAt.of_refs w (Iu I (λA {x y u v b}=>Iv I n A) ⟨p,q,e,i,z,B⟩ ()).1
def QQ(K:W.Frag):R2:=λx y H Q=>∃a c b,x=.ref a/\y=.ref c/\YY K H 19 a c b/\Q (.bl b) H
theorem CC(i:X.A.units+64<cLine):fQ X (compareOp .Eq) (QQ X.K):=by
 intro d s σ H x y v u Q I e f h;obtain⟨a,c,b,rfl,rfl,g,q⟩:=h
 cases e
 cases f;calc(Iu I (λA {x y u v b}=>Iv I 19 A) (A:=X.A) g ()).1 X.prog X.w X.xe _ ⟨.bl b,H,I,rfl,q⟩
end
inductive tY:DV->Prop
 |bI:tY .bI
 |int (i:Int):tY (.int i)
 |str (x:Str):tY (.str x)
 |tup {ds:List DV}:(∀e∈ds,tY e)->tY (.tup ds)
 |lst {ds:List DV}:(∀e∈ds,tY e)->tY (.lst ds)
theorem FI.mono{K:W.Frag}{H:Hp}:∀{n:Nat}{x y:V}{b:Bool},FI K H n x y b->∀{m:Nat},n<=m->FI K H m x y b
 |0,_,_,_,h,_,_=>h.elim
 |n+1,x,y,b,h,m,a=>by
  obtain⟨k,rfl⟩:∃k,m=k+1:=⟨m-1,()⟩
  rcases h with h|h|h|h|h|⟨a,c,b,d,e,f,g,j,k,l,m⟩
  ·exact .inl h
  ·exact .inr (.inl h)
  ·exact .inr (.inr (.inl h))
  ·exact .inr (.inr (.inr (.inl h)))
  ·exact .inr (.inr (.inr (.inr (.inl h))))
  ·calc .inr (.inr (.inr (.inr (.inr ⟨a,c,b,d,e,f,g,j,k,λi u v p q=>(l i u v p q).mono (),m⟩))))
theorem Mb{H:Hp}{n:Nat}{x:V}{d:DV}(h:HD H n x d):∀{m:Nat}{d':DV},HD H m x d'->d=d':=by
 induction h with
 |bI=>intro m d' h;cases h;rfl
 |bl b=>intro m d' h;cases h;rfl
 |int i=>intro m d' h;cases h;rfl
 |str x=>intro m d' h;cases h;rfl
 | @tup n a f g e l i k=>
  intro m d' h
  cases h with
  | @tup m _ q o c r p=>
   rw[e]at c
   cases c;congr 1;apply List.ext_getElem ();intro j s t;have u:j<f.length:=by lia
   calc k j f[j] g[j] nofun nofun (p j f[j] o[j] nofun nofun)
  |lst c=>rw[e]at c;cases c
  |dict c=>rw[e]at c;cases c
 | @lst n a f g e l i k=>
  intro m d' h
  cases h with
  | @lst m _ q o c r p=>
   rw[e]at c
   cases c;congr 1;apply List.ext_getElem ();intro j s t;have u:j<f.length:=by lia
   calc k j f[j] g[j] nofun nofun (p j f[j] o[j] nofun nofun)
  |tup c=>rw[e]at c;cases c
  |dict c=>rw[e]at c;cases c
 |dict e=>
  intro m d' h
  cases h with
  |tup c=>rw[e]at c;cases c
  |lst c=>rw[e]at c;cases c
  |dict _=>rfl
theorem all_eq{a b:List DV}(f:∀(i:Nat) u v,a[i]?=some u->b[i]?=some v->e i=true->u=v)(h:((List.range (min a.length b.length)).all e&&(a.length==b.length))=true):a=b:=by
 rw[Bool.and_eq_true]at h;obtain⟨d,c⟩:=h;have c:a.length=b.length:=by simpa using c
 apply List.ext_getElem c;intro j a b;calc f j _ _ nofun nofun ?_;rw[List.all_eq_true]at d;calc d j (by simp;lia)
theorem EA{a:List DV}(b:∀i,i<a.length->e i=true):((List.range (min a.length a.length)).all e&&(a.length==a.length))=true:=by
 simp;calc b
theorem ml{K:W.Frag}{H:Hp}{n m:Nat}{x y:V}{d d':DV}(h:HD H 0 x d)(h':HD H m y d')(a:tY d)(c:tY d')(f:fT x=true):∃b,FI K H (n+1) x y b/\(b=true↔d=d'):=by
 cases h<;>cases h'<;>first
  |(calc⟨_,.inr (.inl ⟨rfl,rfl,rfl⟩),?_⟩;simp[xN];done)
  |(rename_i e _ _;calc⟨false,.inr (.inr (.inl ⟨_,_,rfl,rfl,.inl (bJ.of e),rfl⟩)),nofun⟩)
  |(rename_i e _ _;calc⟨false,.inr (.inr (.inl ⟨_,_,rfl,rfl,.inr (aT.of e),rfl⟩)),nofun⟩)
  |(exfalso;cases a;done)
  |(exfalso;cases c;done)
theorem w6{K:W.Frag}{H:Hp}:∀(n:Nat) {x y:V}{d d':DV}{m:Nat},HD H n x d->HD H m y d'->tY d->tY d'->∃b,FI K H (n+1) x y b/\(b=true↔d=d'):=by
 have A:∀{k m:Nat} {g s:List V} {t w:List DV},(∀{x y:V} {d d':DV} {m:Nat},HD H k x d->HD H m y d'->tY d->tY d'->∃b,FI K H (k + 1) x y b/\(b=true↔d=d'))->g.length=t.length->s.length=w.length->
   (∀(i:Nat) u e,g[i]?=some u->t[i]?=some e->HD H k u e)->(∀(i:Nat) u e,s[i]?=some u->w[i]?=some e->HD H m u e)->(∀e∈t,tY e)->(∀e∈w,tY e)->
   ∃e:Nat->Bool,(∀(i:Nat) u v,g[i]?=some u->s[i]?=some v->FI K H (k+1) u v (e i))/\(((List.range (min g.length s.length)).all e&&(g.length==s.length))=true↔t=w):=by
  intro k m g s t w I l C i D o r;have G:∀j:Nat,∃b:Bool,(∀u v,g[j]?=some u->s[j]?=some v->FI K H (k+1) u v b)/\(∀u v,t[j]?=some u->w[j]?=some v->(b=true↔u=v)):=by
   intro j;by_cases J:j<g.length/\j<s.length
   ·obtain⟨Q,R⟩:=J;have O:j < t.length:=by lia
    have P:j<w.length:=by lia
    obtain⟨b,S,T⟩:=I (i j g[j] t[j] nofun nofun) (D j s[j] w[j] nofun nofun) (o _ (aaa O)) (r _ (aaa P));refine⟨b,λu v p q=>?_,λu v p q=>?_⟩
    ·rw[di Q]at p;rw[di R]at q;cases p;cases q;exact S
    ·rw[di O]at p;rw[di P]at q;cases p;cases q;exact T
   ·refine⟨true,λu v p q=>?_,λu v p q=>?_⟩
    ·exact absurd ⟨(List.getElem?_eq_some_iff.mp p).1,(List.getElem?_eq_some_iff.mp q).1⟩ J
    ·exact absurd ⟨by rw[l];calc(List.getElem?_eq_some_iff.mp p).1,by rw[C];calc(List.getElem?_eq_some_iff.mp q).1⟩ J
  obtain⟨e,L⟩:=Classical.axiomOfChoice G;refine⟨e,λi u v p q=>(L i).1 u v p q,λh=>?_,λh=>?_⟩
  ·rw[l,C]at h;exact all_eq (λi u v p q=>((L i).2 u v p q).mp) h
  ·subst h;rw[l,C];calc EA λi b=>?_;exact((L i).2 t[i] t[i] nofun nofun).mpr rfl
 intro n;induction n with
 |zero=>
  intro x y d d' m h B o r
  cases h with
  |bI=>calc ml .bI B o r rfl
  |int j=>calc ml (.int j) B o r rfl
  |str j=>calc ml (.str j) B o r rfl
  |bl _=>cases o
  |dict _=>cases o
 |succ n I=>
  intro x y d d' m h B o r;by_cases E:∃a,x=.ref a/\y=.ref a
  ·obtain⟨a,rfl,rfl⟩:=E;exact⟨true,.inl ⟨a,rfl,rfl,rfl⟩,by simp[Mb h B]⟩
  cases h with
  | @tup _ a g t e l i=>
   cases o with
   |tup o=>
   cases B with
   | @tup m c s w F C D=>
    cases r with
    |tup r=>
    obtain⟨f,M,N⟩:=A I l C i D o r;calc⟨_,.inr (.inr (.inr (.inr (.inr ⟨a,c,g,s,f,rfl,rfl,λz=>E ⟨a,rfl,by rw[z]⟩,.inl ⟨bJ.of e,bJ.of F⟩,M,rfl⟩)))),N.trans nofun⟩
   | @lst m c s w F C D=>calc⟨false,.inr (.inr (.inr (.inr (.inl ⟨a,c,g,s,rfl,rfl,.inl ⟨bJ.of e,aT.of F⟩,rfl⟩)))),nofun⟩
   |dict _=>cases r
   |bl _=>cases r
   |bI=>calc⟨false,.inr (.inr (.inr (.inl ⟨a,g,rfl,rfl,.inl (bJ.of e),rfl⟩))),nofun⟩
   |int j=>calc⟨false,.inr (.inr (.inr (.inl ⟨a,g,rfl,rfl,.inl (bJ.of e),rfl⟩))),nofun⟩
   |str j=>calc⟨false,.inr (.inr (.inr (.inl ⟨a,g,rfl,rfl,.inl (bJ.of e),rfl⟩))),nofun⟩
  | @lst _ a g t e l i=>
   cases o with
   |lst o=>
   cases B with
   | @lst m c s w F C D=>
    cases r with
    |lst r=>
    obtain⟨f,M,N⟩:=A I l C i D o r;calc⟨_,.inr (.inr (.inr (.inr (.inr ⟨a,c,g,s,f,rfl,rfl,λz=>E ⟨a,rfl,by rw[z]⟩,.inr ⟨aT.of e,aT.of F⟩,M,rfl⟩)))),N.trans nofun⟩
   | @tup m c s w F C D=>calc⟨false,.inr (.inr (.inr (.inr (.inl ⟨a,c,g,s,rfl,rfl,.inr ⟨aT.of e,bJ.of F⟩,rfl⟩)))),nofun⟩
   |dict _=>cases r
   |bl _=>cases r
   |bI=>calc⟨false,.inr (.inr (.inr (.inl ⟨a,g,rfl,rfl,.inr (aT.of e),rfl⟩))),nofun⟩
   |int j=>calc⟨false,.inr (.inr (.inr (.inl ⟨a,g,rfl,rfl,.inr (aT.of e),rfl⟩))),nofun⟩
   |str j=>calc⟨false,.inr (.inr (.inr (.inl ⟨a,g,rfl,rfl,.inr (aT.of e),rfl⟩))),nofun⟩
  |dict _=>cases o
  |bl _=>cases o
  |bI=>calc(ml (n:=n+1) .bI B o r rfl)
  |int j=>calc(ml (n:=n+1) (.int j) B o r rfl)
  |str j=>calc(ml (n:=n+1) (.str j) B o r rfl)
end L2
namespace L2
open PySem
variable {H:Hp}{σ:St}
theorem bO{t u:TS}{D:Ends}(h:∀N:St->Hp->Prop,N=u D->t {D with nx:=N} σ H):DW t u D σ H:=h _ rfl
theorem cW{c:TT}{t u:TS}{D:Ends}(h:∀T U:St->Hp->Prop,T=t D->U=u D->c σ H λb a=>if b=true then T σ a else U σ a):Ak c t u D σ H:=h _ _ rfl rfl
theorem QR{i:Nat}{v:V}{Q:St->Hp->Prop}(h:Q (σ.set i (some v)) H):fK i v σ H Q:=h
theorem bc{N M:St->Hp->Prop}(e:N=M)(h:M σ H):N σ H:=e▸h
end L2
namespace DD
open PySem L2
variable {x:Addr}{Z:Addr->Prop}{H H':Hp}{vs:List V}
structure MD where
 M:Int
 ns:List Int
 row:List Int
 ds:List bC
structure Good(M:Int)(ns row:List Int)(ds:List bC):Prop where
 m2:2<=M
 m12:M<=1000000000000
 l1:1<=ns.length
 l4:ns.length<=4
 r12:row.length<=12
 bn:∀z∈ns,0<=z/\z<M
 br:∀z∈row,0<=z/\z<M
 YZ:ds.length<=24
 ok:∀d∈ds,d.ok ns.length
abbrev MD.good(d:MD):Prop:=Good d.M d.ns d.row d.ds
instance:Inhabited MD:=⟨⟨0,[],[],[]⟩⟩
noncomputable def hJ (Z:Addr->Prop) (H:Hp):Hp:=λx=> @ite _ (Z x) (Classical.propDecidable _) (some (.own 0)) (H x)
theorem fF(h:¬Z x):hJ Z H x=H x:=by unfold hJ;rw[if_neg h]
theorem Be(h:Z x):hJ Z H x=some (.own 0):=by unfold hJ;rw[if_pos h]
theorem cC{o:HO}(h:hJ Z H x=some o)(b:∀k,o≠.own k):¬Z x/\H x=some o:=by
 by_cases a:Z x
 ·rw[Be a]at h;cases h;exact absurd rfl (b 0)
 ·rw[fF a]at h;calc⟨a,h⟩
theorem CF{o:HO}(h:Z x):hJ Z (upd H x o)=hJ Z H:=by
 funext b;by_cases a:Z b
 ·rw[Be a,Be a]
 ·rw[fF a,fF a,ay (λe:b=x=>a (e▸h))]
def Cv(H H':Hp):Prop:=∀b o,H b=some o->(∀k,o≠.own k)->H' b=some o
theorem _root_.L2.au.cv(s:au H H'):Cv H H':=λb o e _=>s b o e
def soft:HO->Prop
 | .lst _=>True
 | .dK _=>True
 |_=>False
def Fr(Z:Addr->Prop)(H H':Hp):Prop:=∀b o,H b=some o->(Z b->¬soft o)->H' b=some o
theorem Fr.refl:Fr Z H H:=λ_ _ e _=>e
theorem Fr.trans{c d:Hp}(a:Fr Z H c)(b:Fr Z c d):Fr Z H d:=λc o e n=>b c o (a c o e n) n
theorem _root_.L2.au.fr(s:au H H'):Fr Z H H':=λb o e _=>s b o e
theorem Fr.at(a:Fr Z H H'){b:Addr}{o:HO}(e:H b=some o)(h:¬Z b):H' b=some o:=a b o e λz=>absurd z h
theorem Fr.my(a:Fr Z H H'){b:Addr}{o:HO}(e:H b=some o)(h:¬soft o):H' b=some o:=a b o e λ_=>h
theorem Fr.upd{b:Hp}(a:Fr Z H b){x:Addr}{o u:HO}(h:Z x)(f:b x=some u)(g:soft u):Fr Z H (upd b x o):=λc v e n=>by
 by_cases z:c=x
 ·subst z;have d:=a c v e n;rw[f] at d
  cases d;exact absurd g (n h)
 ·rw[ay z];calc a c v e n
theorem Fr.mono{c:Addr->Prop}{d:Hp}(a:Fr Z H d)(h:∀b,Z b->c b):Fr c H d:=λc o e n=>a c o e λz=>n (h c z)
theorem Fr.aS(h:Fr Z H H'):cm H H':=λb a e=>h b _ e λ_=>id
theorem Fr.hJ(h:Fr Z H H'):Cv (hJ Z H) (hJ Z H'):=λb o e n=>by
 obtain⟨a,b⟩:=cC e n;rw[fF a];calc h.at b a
theorem dW:Cv (hJ Z H) H:=λb o e n=>(cC e n).2
theorem Cv.aS(h:Cv H H'):cm H H':=λb a e=>h b _ e (λk z=>by cases z)
theorem _root_.L2.HD.cv{H H':Hp}(s:Cv H H'){n:Nat}{x:V}{d:DV}(h:HD H n x d):HD H' n x d:=by
 induction h with
 |bI=>calc .bI
 |bl b=>calc .bl b
 |int i=>calc .int i
 |str x=>calc .str x
 |tup e l i a=>calc .tup (s _ _ e (λk z=>by cases z)) l a
 |lst e l i a=>calc .lst (s _ _ e (λk z=>by cases z)) l a
 |dict e=>calc .dict (s _ _ e (λk z=>by cases z))
def dQ(H:Hp)(n:Nat)(vs:List V)(a:List DV):Prop:=vs.length=a.length/\∀(i:Nat) v d,vs[i]?=some v->a[i]?=some d->HD H n v d
theorem dQ.cv(s:Cv H H'){n:Nat}{vs:List V}{a:List DV}(h:dQ H n vs a):dQ H' n vs a:=⟨h.1,λi v d a b=>(h.2 i v d a b).cv s⟩
theorem dQ.nil{n:Nat}:dQ H n [] []:=⟨rfl,λi v d a=>by simp at a⟩
theorem dQ.mono{n m:Nat}{a:List DV}(h:dQ H n vs a)(c:n<=m):dQ H m vs a:=⟨h.1,λi v d a b=>(h.2 i v d a b).mono c⟩
theorem dQ.app{n:Nat}{us:List V}{a b:List DV}(h:dQ H n vs a)(g:dQ H n us b):dQ H n (vs++us) (a++b):=by
 calc⟨by simp[h.1,g.1],λi v d a b=>?_⟩;by_cases c:i<vs.length
 ·rw[List.getElem?_append_left c]at a;rw[List.getElem?_append_left (by rw[<-h.1];calc c)]at b;exact h.2 i _ _ a b
 ·rw[List.getElem?_append_right ()]at a;rw[List.getElem?_append_right (by rw[<-h.1];lia),<-h.1]at b;calc g.2 _ _ _ a b
theorem dQ.one{H:Hp}{n:Nat}{v:V}{d:DV}(h:HD H n v d):dQ H n [v] [d]:=by
 refine⟨rfl,λi u e a b=>?_⟩
 cases i with
 |zero=>simp at a b;subst a b;calc h
 |succ i=>simp at a
theorem dQ.snoc{n:Nat}{a:List DV}{v:V}{d:DV}(h:dQ H n vs a)(g:HD H n v d):dQ H n (vs++[v]) (a++[d]):=h.app (.one g)
theorem dQ.set{n:Nat}{c:List DV}{v:V}{d:DV}(h:dQ H n vs c)(g:HD H n v d)(k:Nat):dQ H n (vs.set k v) (c.set k d):=by
 calc⟨by simp[h.1],λi u e a b=>?_⟩;rw[List.getElem?_set]at a b;by_cases f:k=i
 ·rw[if_pos f] at a b;split at a
  ·rw[if_pos (by rw[<-h.1];assumption)]at b;cases a;cases b;exact g
  ·cases a
 ·rw[if_neg f]at a b;calc h.2 i u e a b
theorem dQ.ints{H:Hp}{n:Nat}(c:List Int):dQ H n (c.map V.int) (c.map DV.int):=by
 calc⟨nofun,λi v d a b=>?_⟩;rw[List.getElem?_map]at a b
 cases e:c[i]? with
 |none=>rw[e]at a;cases a
 |some z=>rw[e]at a b;cases a;cases b;calc .int z
theorem dQ.mQ{n:Nat}{a:List Int}(h:dQ H n vs (a.map DV.int)):vs=a.map V.int:=by
 apply List.ext_getElem (by simpa using h.1);intro j d b;have c:j<a.length:=by simpa using b
 have:=h.2 j vs[j] (.int a[j]) nofun (by simp[c]);simp only[List.getElem_map];generalize vs[j]=y at this
 cases this;rfl
theorem dQ.get{n:Nat}{a:List DV}(h:dQ H n vs a){i:Nat}{d:DV}(e:a[i]?=some d):∃v,vs[i]?=some v/\HD H n v d:=by
 have b:i<a.length:=(List.getElem?_eq_some_iff.mp e).1;have a:i<vs.length:=by rw[h.1];exact b
 calc⟨vs[i],nofun,h.2 i _ _ nofun e⟩
inductive CO where
 |l (ds:List DV)|d (g:Int->Option DV) (n:Nat)
def OR(H:Hp):CO->HO->Prop
 | .l a,.lst vs=>dQ H 4 vs a
 | .d g n,.dK a=>a.length<=n/\∀k:Int,match g k with
  |none=>gN a (Sum.inl k)=none
  |some d=>∃v,gN a (Sum.inl k)=some v/\HD H 4 v d
 |_,_=>False
theorem OR.cv{H H':Hp}(s:Cv H H'){c:CO}{o:HO}(h:OR H c o):OR H' c o:=by
 cases c with
 |l a=>
  cases o with
  |lst vs=>calc dQ.cv s h
  |_=>calc X' h
 |d g n=>
  cases o with
  |dK a=>
   calc⟨h.1,λk=>?_⟩;have:=h.2 k;revert this
   cases g k with
   |none=>calc id
   |some d=>calc λ⟨v,e,a⟩=>⟨v,e,a.cv s⟩
  |_=>calc X' h
def FP(n:Nat->Nat)(ad:Nat->Nat->Addr)(b:Addr):Prop:=∃t i,i<n t/\b=ad t i
structure dM(F:Addr->Prop)(H:Hp)(n:Nat->Nat)(ad:Nat->Nat->Addr)(ct:Nat->Nat->CO):Prop where
 inj:∀t i t' i',i<n t->i'<n t'->ad t i=ad t' i'->t=t'/\i=i'
 out:∀t i,i<n t->¬F (ad t i)
 KN:∀t i,i<n t->∃o,H (ad t i)=some o/\OR (hJ (λb=>F b\/FP n ad b) H) (ct t i) o
def setC(ct:Nat->Nat->CO)(t i:Nat)(c:CO):Nat->Nat->CO:=λt' a=>if t'=t/\a=i then c else ct t' a
section
variable {F:Addr->Prop}{H H':Hp}{n:Nat->Nat}{ad:Nat->Nat->Addr}{ct ct':Nat->Nat->CO}
theorem dM.keep(h:dM F H n ad ct)(a:Fr F H H'):dM F H' n ad ct:=
 ⟨h.inj,h.out,λt i c=>by
  obtain⟨o,e,r⟩:=h.KN t i c;calc⟨o,a.at e (h.out t i c),r.cv (a.mono λb z=>.inl z).hJ⟩⟩
theorem dM.same(h:dM F H n ad ct)(s:au H H'):dM F H' n ad ct:=h.keep s.fr
theorem dM.congr(h:dM F H n ad ct)(e:∀t i,i<n t->ct t i=ct' t i):dM F H n ad ct':=
 ⟨h.inj,h.out,λt i a=>by rw[<-e t i a];calc h.KN t i a⟩
theorem dM.upd(h:dM F H n ad ct){t i:Nat}(a:i<n t){c:CO}{o:HO}(r:OR (hJ (λb=>F b\/FP n ad b) H) c o):dM F (upd H (ad t i) o) n ad (setC ct t i c):=by
 have c:(λb=>F b\/FP n ad b) (ad t i):=.inr ⟨t,i,a,rfl⟩;calc⟨h.inj,h.out,λd f g=>?_⟩;rw[CF c];by_cases e:d=t/\f=i
 ·obtain⟨rfl,rfl⟩:=e;exact⟨o,af,by unfold setC;rw[if_pos ⟨rfl,rfl⟩];calc r⟩
 ·obtain⟨b,c,i⟩:=h.KN d f g;calc⟨b,?_,by unfold setC;rw[if_neg e];calc i⟩;rw[ay (λz=>e (h.inj _ _ _ _ g a z))];calc c
theorem dM.lst(h:dM F H n ad ct){t i:Nat}(c:i<n t){a:List DV}(e:ct t i=.l a):∃vs,H (ad t i)=some (.lst vs)/\dQ (hJ (λb=>F b\/FP n ad b) H) 4 vs a:=by
 obtain⟨o,d,r⟩:=h.KN t i c;rw[e]at r
 cases o with
 |lst vs=>calc⟨vs,d,r⟩
 |_=>calc r.elim
theorem dM.dct(h:dM F H n ad ct){t i:Nat}(c:i<n t){g:Int->Option DV}{N:Nat}(e:ct t i=.d g N):∃a,H (ad t i)=some (.dK a)/\OR (hJ (λb=>F b\/FP n ad b) H) (.d g N) (.dK a):=by
 obtain⟨o,f,r⟩:=h.KN t i c;rw[e]at r
 cases o with
 |dK vs=>calc⟨vs,f,r⟩
 |_=>calc r.elim
theorem dM.app(h:dM F H n ad ct){t i:Nat}(a:i<n t){c:List DV}(e:ct t i=.l c){vs:List V}(j:H (ad t i)=some (.lst vs)){us:List V}{d:List DV}(g:dQ (hJ (λb=>F b\/FP n ad b) H) 4 us d):
  dM F (L2.upd H (ad t i) (.lst (vs++us))) n ad (setC ct t i (.l (c++d))):=by
 obtain⟨b,f,r⟩:=h.lst a e;rw[j]at f
 cases f;calc h.upd a (show dQ _ 4 _ _ from r.app g)
theorem dM.set(h:dM F H n ad ct){t i:Nat}(a:i<n t){c:List DV}(e:ct t i=.l c){vs:List V}(j:H (ad t i)=some (.lst vs)){k:Nat}{v:V}{d:DV}(g:HD (hJ (λb=>F b\/FP n ad b) H) 4 v d):
  dM F (L2.upd H (ad t i) (.lst (vs.set k v))) n ad (setC ct t i (.l (c.set k d))):=by
 obtain⟨b,f,r⟩:=h.lst a e;rw[j]at f
 cases f;calc h.upd a (show dQ _ 4 _ _ from r.set g k)
theorem OR.soft{c:CO}{o:HO}(h:OR H c o):soft o:=by
 cases c<;>cases o<;>first|trivial|calc X' h
theorem dM.soft(h:dM F H n ad ct){t i:Nat}(a:i<n t):∃o,H (ad t i)=some o/\DD.soft o:=by
 obtain⟨o,e,r⟩:=h.KN t i a;calc⟨o,e,r.soft⟩
theorem dM.fp(h:dM F H n ad ct){b:Addr}(a:FP n ad b):∃o,H b=some o/\DD.soft o:=by
 obtain⟨t,i,c,rfl⟩:=a;calc h.soft c
theorem dM.ne(h:dM F H n ad ct){b:Addr}{o:HO}(e:H b=some o)(c:¬DD.soft o):¬FP n ad b:=λz=>by
 obtain⟨u,a,d⟩:=h.fp z;rw[e]at a;cases a;calc c d
theorem dM.ht(h:dM F H n ad ct)(c:∀b,F b->∃o,H b=some o/\DD.soft o){m:Nat}{x:V}{d:DV}(g:HT H m x d):HD (DD.hJ (λb=>F b\/FP n ad b) H) m x d:=by
 calc HT.hd (g.aK λb d e=>?_);rw[fF]
 ·exact e
 ·rintro(z | z)
  ·obtain⟨o,a,f⟩:=c b z;rw[e]at a;cases a;exact f
  ·calc h.ne e id z
end
end DD
namespace DD
open PySem L2
variable {B i:Nat}
def _root_.List.bM{α:Type}(l:List α)(d:α):α:=l.getD (l.length-1) d
theorem getD_at{α:Type}{l:List α}{x d:α}(h:l[i]?=some x):l.getD i d=x:=by rw[List.getD_eq_getElem?_getD,h];rfl
theorem bq{α:Type}{l:List α}{d:α}(h:i<l.length):l[i]?=some (l.getD i d):=by rw[List.getD_eq_getElem?_getD,di h];rfl
theorem getD_mem{α:Type}{l:List α}{d:α}(h:i<l.length):l.getD i d∈l:=aaf (bq h)
theorem sQ{α:Type}{l:List α}{x d:α}:(l++[x]).bM d=x:=by
 unfold List.bM;calc getD_at nofun
theorem ia{α:Type}{l:List α}{d:α}(h:1<=l.length):l.bM d∈l:=getD_mem ()
theorem kQ{α:Type}{l:List α}{d:α}(h:1<=l.length):l[l.length-1]?=some (l.bM d):=bq ()
structure MS where
 gp:List (List Int×List Int)
 wp:List (List Int)
 hr:List (List Int)
structure WY where
 say:List Int
 snd:List (Option (Int×Int))
 dX:List (Option (Int×Int))
structure RS where
 picks:List (Int×Int)
 mm:Nat->MS
 ww:Nat->WY
structure NT where
 ms:List MD
 ws:List (Int×Int×Str)
def pairD(p:Int×Int):DV:=.tup [.int p.1,.int p.2]
def pB:Option (Int×Int)->DV
 |none=>.bI
 |some p=>pairD p
def rg(s:List Int×List Int):DV:=yC s.1 s.2
def NT.M(n:NT)(m:Nat):Int:=(n.ms.getD m default).M
def NT.nn(n:NT)(m:Nat):Nat:=(n.ms.getD m default).ns.length
def NT.ds(n:NT)(m:Nat):List bC:=(n.ms.getD m default).ds
def NT.w(n:NT)(w:Nat):Int×Int×Str:=n.ws.getD w (0,0,"")
def NT.outs(n:NT)(m:Int):List Nat:=(List.range n.ws.length).filter λi=>decide ((n.w i).1=m)
def NT.ins(n:NT)(m:Int):List Nat:=(List.range n.ws.length).filter λi=>decide ((n.w i).2.1=m)
def NT.goal(n:NT)(w:Nat):Nat:=(n.w w).2.1.toNat
def NT.place(n:NT)(w:Nat):Nat:=(n.ins (n.w w).2.1).idxOf w
def RS.put(r:RS)(w:Nat)(x:Int)(s:Option (Int×Int)):RS:=
 {r with ww:=λk=>if k=w then⟨(r.ww w).say++[x],(r.ww w).snd++[s],(r.ww w).dX++[none]⟩ else r.ww k}
def RS.send(r:RS)(outs:List Nat)(ev:Int×Int):List (Int×Int)->RS
 | []=>r
 |p::a=>(if p.1.toNat<outs.length then r.put (outs.getD p.1.toNat 0) p.2 (some ev) else r).send outs ev a
def NT.work(n:NT)(r:RS)(w k:Nat):WS:=
 oN (n.M (n.goal w)) (n.place w) ((r.ww w).say.getD k 0) (n.ds (n.goal w)) ((r.mm (n.goal w)).gp.bM ([],[])).1 ((r.mm (n.goal w)).gp.bM ([],[])).2
def NT.ev(n:NT)(r:RS)(w:Nat):Int×Int:=((n.goal w:Nat),((r.mm (n.goal w)).gp.length:Nat))
def NT.gb(n:NT)(r:RS)(w k:Nat):List Int:=
 let m:=n.goal w
 let b:=(r.mm m).hr.bM (List.replicate n.ms.length 0)
 let a:=match (r.ww w).snd.getD k none with
  |none=>b
  |some (s,c)=>List.zipWith max b ((r.mm s.toNat).hr.getD (c-1).toNat [])
 a.set m (n.ev r w).2
def RS.step(n:NT)(r:RS)(w k:Nat):RS:=
 let m:=n.goal w
 let res:=n.work r w k
 {picks:=r.picks++[((w:Int),(k:Int))]
  mm:=λi=>if i=m then⟨(r.mm m).gp++[(res.ns,res.row)],(r.mm m).wp++[(r.mm m).wp.bM []++res.words],(r.mm m).hr++[n.gb r w k]⟩ else r.mm i
  ww:=λi=>if i=w then {(r.ww w) with dX:=(r.ww w).dX.set k (some (n.ev r w))} else r.ww i}
def RS.pick(n:NT)(r:RS)(w k:Nat):RS:=(r.step n w k).send (n.outs (n.goal w)) (n.ev r w) (n.work r w k).cV
def RS.kR(r:RS):List (Int×Int)->RS
 | []=>r
 |p::a=>(r.put p.1.toNat p.2 none).kR a
def RS.new(n:NT):RS:=⟨[],λm=>⟨[((n.ms.getD m default).ns,(n.ms.getD m default).row)],[[]],[]⟩,λ_=>⟨[],[],[]⟩⟩
def RS.begin(n:NT)(a:List (Int×Int)):RS:=(RS.new n).kR a
def kS(l:List (Option (Int×Int)))(k:Int):Option DV:=if 0<=k then(l.getD k.toNat none).map pairD else none
def RS.ct(r:RS):Nat->Nat->CO
 |0,_=>.l (r.picks.map pairD)
 |1,m=>.l ((r.mm m).gp.map rg)
 |2,m=>.l ((r.mm m).wp.map λw=>.int (w.length:Nat))
 |3,m=>.l (((r.mm m).wp.bM []).map .int)
 |4,w=>.l ((r.ww w).say.map .int)
 |5,w=>.l ((r.ww w).snd.map pB)
 |_,w=>.l ((r.ww w).dX.map pB)
def NT.n(n:NT):Nat->Nat
 |0=>1
 |1=>n.ms.length
 |2=>n.ms.length
 |3=>n.ms.length
 |4=>n.ws.length
 |5=>n.ws.length
 |6=>n.ws.length
 |_=>0
structure NT.Ok(n:NT):Prop where
 Y0:n.ms.length<=5
 ms1:1<=n.ms.length
 EC:n.ws.length<=10
 good:∀d∈n.ms,d.good
 aa7:∀w∈n.ws,0<=w.1/\w.1<n.ms.length/\0<=w.2.1/\w.2.1<n.ms.length/\(w.2.2="row"\/w.2.2="heap")
structure Mc(M:Int)(nn:Nat)(s:List Int×List Int):Prop where
 ln:s.1.length=nn
 bn:∀z∈s.1,0<=z/\z<M
 lr:s.2.length<=12
structure RS.Ok(n:NT)(r:RS):Prop where
 lw:∀m,m<n.ms.length->(r.mm m).gp.length=(r.mm m).wp.length
 lh:∀m,m<n.ms.length->(r.mm m).gp.length=(r.mm m).hr.length+1
 so:∀m,m<n.ms.length->∀s∈(r.mm m).gp,Mc (n.M m) (n.nn m) s
 hl:∀m,m<n.ms.length->∀h∈(r.mm m).hr,h.length=n.ms.length
 ls:∀w,w<n.ws.length->(r.ww w).say.length=(r.ww w).snd.length
 lk:∀w,w<n.ws.length->(r.ww w).say.length=(r.ww w).dX.length
 sd:∀w,w<n.ws.length->∀s c,some (s,c)∈(r.ww w).snd->0<=s/\s<n.ms.length/\1<=c/\c<=(r.mm s.toNat).hr.length
 bp:∀m,m<n.ms.length->(r.mm m).gp.length<=r.picks.length+1
 bw:∀m,m<n.ms.length->∀w∈(r.mm m).wp,w.length<=24*r.picks.length
 bs:∀w,w<n.ws.length->(r.ww w).say.length<=20+24*r.picks.length
 VD:∀m,m<n.ms.length->∀u∈(r.mm m).wp,u <+:(r.mm m).wp.bM []
theorem yO{M way said:Int}{n:Int}:∀(f:Nat) (b:List bC) (s:WS),(∀d∈b,d.ok n)->(∀p∈s.cV,0<=p.1)->∀p∈(yD M way said f b s).cV,0<=p.1
 |0,_,s,_,h=>h
 |f+1,[],s,_,h=>h
 |f+1,d::r,s,c,h=>by
  calc yO f _ _ (λe b=>c e (aav _ (List.mem_of_mem_drop b))) ?_;intro p a;have a:p∈s.cV++ik ((d.vals.map (fW M way said s.ns s.row)).getD 0 0) d:=a;rcases List.mem_append.mp a with a|a
  ·exact h p a
  ·have g:=c d (aaD ..)
   cases d with
   |send j v=>
    simp only[ik,List.mem_singleton]at a;subst a;calc g.1
   |_=>simp only[ik,List.not_mem_nil]at a
theorem CG{M way said:Int}:∀(f:Nat) (a:List bC) (s:WS),(yD M way said f a s).cV.length<=s.cV.length+a.length/\(yD M way said f a s).words.length<=s.words.length+a.length/\(yD M way said f a s).ns.length=s.ns.length
 |0,_,s=>⟨Nat.le_add_right ..,Nat.le_add_right ..,rfl⟩
 |f+1,[],s=>⟨K' _,K' _,rfl⟩
 |f+1,d::r,s=>by
  obtain⟨a,b,c⟩:=CG (M:=M) (way:=way) (said:=said) f (r.drop (mH M way said d s).toNat) (fX M way said d s);have a:(fX M way said d s).cV.length<=s.cV.length+1:=by
   show(s.cV++ik _ d).length<=_
   cases d<;>simp[ik]
  have a:(fX M way said d s).words.length<=s.words.length+1:=by
   show(s.words++gn _ d).length<=_
   cases d<;>simp[gn]
  have a:(fX M way said d s).ns.length=s.ns.length:=pQ;have a:(r.drop (mH M way said d s).toNat).length<=r.length:=by simp
  refine⟨?_,?_,?_⟩
  ·show(yD M way said f _ _).cV.length<=_;simp only[List.length_cons];lia
  ·show(yD M way said f _ _).words.length<=_;simp only[List.length_cons];lia
  ·show(yD M way said f _ _).ns.length=_;lia
theorem CH{M way said:Int}(c:0<M):∀(f:Nat) (e:List bC) (s:WS),(∀z∈s.ns,0<=z/\z<M)->s.row.length<=12->(∀z∈(yD M way said f e s).ns,0<=z/\z<M)/\(yD M way said f e s).row.length<=12
 |0,_,s,h,g=>⟨h,g⟩
 |f+1,[],s,h,g=>⟨h,g⟩
 |f+1,d::r,s,h,g=>by
  refine CH c f _ _ ?_ ?_
  ·have b:∀y:Int,0<=y % M/\y % M < M:=λy=>⟨aa2 _ (),aaJ _ c⟩
   have a:∀(j:Nat) (y:Int),(0<=y/\y<M)->∀z∈s.ns.set j y,0<=z/\z<M:=λj y k z l=>by
    rcases List.mem_or_eq_of_mem_set l with c|c
    ·exact h z c
    ·rw[c];exact k
   show ∀z∈jN M s.ns ((d.vals.map (fW M way said s.ns s.row)).getD 0 0) d,0<=z/\z<M
   cases d with
   |set i v=>calc a _ _ (b _)
   |add i v=>calc a _ _ (b _)
   |times i v=>calc a _ _ (b _)
   |_=>exact h
  ·show(oK s.row ((d.vals.map (fW M way said s.ns s.row)).getD 0 0) d).length<=12
   cases d with
   |put v=>
    simp only[oK];split
    ·simp;lia
    ·calc g
   |drop=>simp only[oK,List.length_tail];lia
   |_=>calc g
section
variable {n:NT}{r:RS}
theorem NT.Ok.gd(h:n.Ok){m:Nat}(a:m<n.ms.length):(n.ms.getD m default).good:=by
 calc h.good _ (getD_mem a)
theorem NT.Ok.wy(h:n.Ok){w:Nat}(a:w<n.ws.length):0<=(n.w w).1/\(n.w w).1<n.ms.length/\0<=(n.w w).2.1/\(n.w w).2.1<n.ms.length/\((n.w w).2.2="row"\/(n.w w).2.2="heap"):=by
 calc h.aa7 _ (getD_mem a)
theorem NT.Ok.j2(h:n.Ok){w:Nat}(a:w<n.ws.length):n.goal w<n.ms.length:=by
 have:=h.wy a;unfold NT.goal;lia
theorem RS.Ok.yP(h:r.Ok n){m:Nat}(a:m<n.ms.length):1<=(r.mm m).gp.length:=by rw[h.lh m a];lia
theorem RS.Ok.last(h:r.Ok n){m:Nat}(a:m<n.ms.length):Mc (n.M m) (n.nn m) ((r.mm m).gp.bM ([],[])):=h.so m a _ (ia (h.yP a))
theorem rK(a:n.Ok)(h:r.Ok n){w:Nat}(c:w<n.ws.length)(k:Nat):Mc (n.M (n.goal w)) (n.nn (n.goal w)) ((n.work r w k).ns,(n.work r w k).row)/\(n.work r w k).cV.length<=24/\(n.work r w k).words.length<=24/\∀p∈(n.work r w k).cV,0<=p.1:=by
 have b:=a.j2 c;have g:=a.gd b;have l:=h.last b;have a:(n.ds (n.goal w)).length<=24:=g.YZ;have b:0<n.M (n.goal w):=by have:=g.m2;show 0<(n.ms.getD (n.goal w) default).M;lia
 obtain⟨d,e,f⟩:=CG (M:=n.M (n.goal w)) (way:=n.place w) (said:=(r.ww w).say.getD k 0) (n.ds (n.goal w)).length (n.ds (n.goal w)) ⟨((r.mm (n.goal w)).gp.bM ([],[])).1,((r.mm (n.goal w)).gp.bM ([],[])).2,[],[]⟩;obtain⟨h,i⟩:=CH b (way:=n.place w) (said:=(r.ww w).say.getD k 0) (n.ds (n.goal w)).length (n.ds (n.goal w)) ⟨((r.mm (n.goal w)).gp.bM ([],[])).1,((r.mm (n.goal w)).gp.bM ([],[])).2,[],[]⟩ l.bn l.lr;have c:=yO (M:=n.M (n.goal w)) (way:=n.place w) (said:=(r.ww w).say.getD k 0) (n:=n.nn (n.goal w)) (n.ds (n.goal w)).length (n.ds (n.goal w)) ⟨((r.mm (n.goal w)).gp.bM ([],[])).1,((r.mm (n.goal w)).gp.bM ([],[])).2,[],[]⟩ g.ok (λp b=>by simp at b);refine⟨⟨?_,h,i⟩,?_,?_,c⟩
 ·exact f.trans l.ln
 ·exact aae d (by simpa using a)
 ·calc aae e (by simpa using a)
structure RS.tZ(n:NT)(r:RS)(B:Nat):Prop where
 lw:∀m,m<n.ms.length->(r.mm m).gp.length=(r.mm m).wp.length
 lh:∀m,m<n.ms.length->(r.mm m).gp.length=(r.mm m).hr.length+1
 so:∀m,m<n.ms.length->∀s∈(r.mm m).gp,Mc (n.M m) (n.nn m) s
 hl:∀m,m<n.ms.length->∀h∈(r.mm m).hr,h.length=n.ms.length
 ls:∀w,w<n.ws.length->(r.ww w).say.length=(r.ww w).snd.length
 lk:∀w,w<n.ws.length->(r.ww w).say.length=(r.ww w).dX.length
 sd:∀w,w<n.ws.length->∀s c,some (s,c)∈(r.ww w).snd->0<=s/\s<n.ms.length/\1<=c/\c<=(r.mm s.toNat).hr.length
 bp:∀m,m<n.ms.length->(r.mm m).gp.length<=r.picks.length+1
 bw:∀m,m<n.ms.length->∀w∈(r.mm m).wp,w.length<=24*r.picks.length
 bs:∀w,w<n.ws.length->(r.ww w).say.length<=B
 VD:∀m,m<n.ms.length->∀u∈(r.mm m).wp,u <+:(r.mm m).wp.bM []
theorem RS.tZ.ok(h:r.tZ n B)(a:B<=20+24*r.picks.length):r.Ok n:=⟨h.lw,h.lh,h.so,h.hl,h.ls,h.lk,h.sd,h.bp,h.bw,λw b=>aae (h.bs w b) a,h.VD⟩
theorem RS.tZ.put(h:r.tZ n B){w:Nat}{x:Int}{s:Option (Int×Int)}(g:∀a c,s=some (a,c)->0<=a/\a<n.ms.length/\1<=c/\c<=(r.mm a.toNat).hr.length):(r.put w x s).tZ n (B+1):=by
 have e:∀k,(r.put w x s).ww k=if k=w then⟨(r.ww w).say++[x],(r.ww w).snd++[s],(r.ww w).dX++[none]⟩ else r.ww k:=λk=>rfl
 refine⟨h.lw,h.lh,h.so,h.hl,λv b=>?_,λv b=>?_,λv b a c d=>?_,h.bp,h.bw,λv b=>?_,h.VD⟩
 ·rw[e];split
  ·next z=>subst z;simp[h.ls v b]
  ·exact h.ls v b
 ·rw[e];split
  ·next z=>subst z;simp[h.lk v b]
  ·exact h.lk v b
 ·rw[e] at d;split at d
  ·next z=>
   subst z;rcases List.mem_append.mp d with d|d
   ·exact h.sd v b a c d
   ·simp at d;exact g a c d.symm
  ·exact h.sd v b a c d
 ·rw[e];split
  ·next z=>subst z;have:=h.bs v b;simp;lia
  ·have:=h.bs v b;lia
theorem RS.tZ.mono{a:Nat}(h:r.tZ n B)(b:B<=a):r.tZ n a:={h with bs:=λw a=>aae (h.bs w a) b}
theorem RS.tZ.send{outs:List Nat}{ev:Int×Int}:∀(b:List (Int×Int)) {r:RS}{B:Nat},r.tZ n B->(∀a c,some ev=some (a,c)->0<=a/\a<n.ms.length/\1<=c/\c<=(r.mm a.toNat).hr.length)->(r.send outs ev b).tZ n (B+b.length)
 | [],r,B,h,_=>h
 |p::b,r,B,h,d=>by
  show((if p.1.toNat<outs.length then r.put (outs.getD p.1.toNat 0) p.2 (some ev) else r).send outs ev b).tZ n _;have e:B+(p::b).length=B+1+b.length:=by simp;lia
  rw[e];split
  ·exact RS.tZ.send b (h.put d) d
  ·calc RS.tZ.send b (h.mono ()) d
theorem RS.xa{outs:List Nat}{ev:Int×Int}:∀(a:List (Int×Int)) {r:RS},(r.send outs ev a).mm=r.mm/\(r.send outs ev a).picks=r.picks
 | [],r=>⟨rfl,rfl⟩
 |p::a,r=>by
  show((if p.1.toNat<outs.length then r.put (outs.getD p.1.toNat 0) p.2 (some ev) else r).send outs ev a).mm=_/\((if p.1.toNat<outs.length then r.put (outs.getD p.1.toNat 0) p.2 (some ev) else r).send outs ev a).picks=_;split
  ·exact RS.xa a
  ·calc RS.xa a
theorem Bf{u v w:List Int}(h:u <+:v):u <+:v++w:=by
 obtain⟨t,rfl⟩:=h;calc⟨t++w,nofun⟩
theorem yQ(o:n.Ok)(h:r.Ok n){w:Nat}(j:w<n.ws.length){k:Nat}:(n.gb r w k).length=n.ms.length:=by
 have p:=o.j2 j;have m:((r.mm (n.goal w)).hr.bM (List.replicate n.ms.length 0)).length=n.ms.length:=by
  by_cases f:1<=(r.mm (n.goal w)).hr.length
  ·exact h.hl _ p _ (ia f)
  ·have e:(r.mm (n.goal w)).hr=[]:=by
    cases q:(r.mm (n.goal w)).hr with
    |nil=>rfl
    |cons a b=>rw[q]at f;simp at f
   rw[e];simp[List.bM]
 unfold NT.gb;simp only[List.length_set];split
 ·exact m
 ·next s c e=>
  have g:k<(r.ww w).snd.length:=by
   by_cases g:k<(r.ww w).snd.length
   ·exact g
   ·rw[List.getD_eq_getElem?_getD,List.getElem?_eq_none ()]at e;cases e
  have t:some (s,c)∈(r.ww w).snd:=by rw[<-e];exact getD_mem g
  obtain⟨u,v,x,y⟩:=h.sd w j s c t;have:=h.hl s.toNat () _ (getD_mem (l:=(r.mm s.toNat).hr) (i:=(c-1).toNat) (d:=[]) ());rw[List.length_zipWith,m,this];lia
theorem RS.Ok.step(t:n.Ok)(h:r.Ok n){w k:Nat}(p:w<n.ws.length):(r.step n w k).tZ n (20+24*r.picks.length):=by
 have g:=t.j2 p;obtain⟨A,F,G,H⟩:=rK t h p k;have j:∀i,(r.step n w k).mm i=if i=n.goal w then⟨(r.mm (n.goal w)).gp++[((n.work r w k).ns,(n.work r w k).row)],(r.mm (n.goal w)).wp++[(r.mm (n.goal w)).wp.bM []++(n.work r w k).words],(r.mm (n.goal w)).hr++[n.gb r w k]⟩ else r.mm i:=λi=>rfl
 have q:∀i,(r.step n w k).ww i=if i=w then {(r.ww w) with dX:=(r.ww w).dX.set k (some (n.ev r w))} else r.ww i:=λi=>rfl
 have x:(r.step n w k).picks.length=r.picks.length+1:=by show(r.picks++[_]).length=_;simp
 refine⟨λm f=>?_,λm f=>?_,λm f s b=>?_,λm f s b=>?_,λv o=>?_,λv o=>?_,λv o a c b=>?_,λm f=>?_,λm f u e=>?_,λv o=>?_,λm f u e=>?_⟩
 ·rw[j];split
  ·simp[h.lw _ g]
  ·exact h.lw m f
 ·rw[j];split
  ·simp[h.lh _ g]
  ·exact h.lh m f
 ·rw[j] at b;split at b
  ·next z=>
   subst z;rcases List.mem_append.mp b with b|b
   ·exact h.so _ g s b
   ·simp at b;subst b;exact A
  ·exact h.so m f s b
 ·rw[j] at b;split at b
  ·rcases List.mem_append.mp b with b | b
   ·exact h.hl _ g s b
   ·simp at b;subst b;exact yQ t h p
  ·exact h.hl m f s b
 ·rw[q];split
  ·exact h.ls w p
  ·exact h.ls v o
 ·rw[q];split
  ·simp[h.lk w p]
  ·exact h.lk v o
 ·have B:some (a,c)∈(r.ww v).snd:=by
   rw[q]at b;split at b
   ·next z=>subst z;exact b
   ·exact b
  obtain⟨C,D,E,y⟩:=h.sd v o a c B;calc⟨C,D,E,?_⟩;rw[j];split
  ·next z=>rw[z]at y;simp;lia
  ·exact y
 ·rw[j,x];split
  ·have:=h.bp _ g;simp;lia
  ·have:=h.bp _ f;lia
 ·rw[x];rw[j] at e;split at e
  ·rcases List.mem_append.mp e with e | e
   ·have:=h.bw _ g u e;lia
   ·simp at e;subst e;have:=h.bw _ g _ (ia (l:=(r.mm (n.goal w)).wp) (d:=[]) (by rw[<-h.lw _ g];calc h.yP g));simp;lia
  ·have:=h.bw _ f u e;lia
 ·rw[q];split
  ·exact h.bs w p
  ·exact h.bs v o
 ·rw[j] at e ⊢;split at e
  ·next z=>
   rw[if_pos z];show u <+:((r.mm (n.goal w)).wp++[_]).bM [];rw[sQ];rcases List.mem_append.mp e with e|e
   ·exact Bf (h.VD _ g u e)
   ·simp at e;subst e;exact List.prefix_refl _
  ·next z=>rw[if_neg z];calc h.VD m f u e
theorem RS.Ok.pick(a:n.Ok)(h:r.Ok n){w k:Nat}(b:w<n.ws.length):(r.pick n w k).Ok n/\(r.pick n w k).picks=r.picks++[((w:Int),(k:Int))]:=by
 have d:=a.j2 b;obtain⟨c,f,g,i⟩:=rK a h b k;have s:=RS.tZ.send (outs:=n.outs (n.goal w)) (ev:=n.ev r w) (n.work r w k).cV (h.step a b (k:=k)) (λa c e=>by
  cases e;refine⟨(),(),?_,?_⟩
  ·have:=h.yP d;lia
  ·have a:(r.step n w k).mm (n.goal w)=⟨(r.mm (n.goal w)).gp++[((n.work r w k).ns,(n.work r w k).row)],(r.mm (n.goal w)).wp++[(r.mm (n.goal w)).wp.bM []++(n.work r w k).words],(r.mm (n.goal w)).hr++[n.gb r w k]⟩:=if_pos rfl;rw[show((n.goal w:Nat):Int).toNat=n.goal w from Int.toNat_natCast _,a,h.lh _ d];simp)
 have a:=(RS.xa (outs:=n.outs (n.goal w)) (ev:=n.ev r w) (n.work r w k).cV (r:=r.step n w k)).2;calc⟨s.ok ?_,a⟩;rw[a];show _<=20+24*(r.picks++[_]).length;simp;lia
end
end DD
namespace L2
open PySem PySem.Spec PyProof.Rows Builtin Builtin.Str
section
variable {X:Cx}
theorem yR{i j l:Nat}{x y z:Str}{d e f a:Pos}{k:Nat}(g:X.calm=true)(b:X.N.Nodup)(h:X.N[i]?=some x)(m:X.N[j]?=some y)(n:X.N[l]?=some z)(o:Loc X.env.scope x)(p:Loc X.env.scope y)(q:Loc X.env.scope z)
  (r:X.fn x=true\/X.env.scope.names.lookup x=some .local:=by grind) (s:X.fn y=true\/X.env.scope.names.lookup y=some .local:=by grind) (c:X.fn z=true\/X.env.scope.names.lookup z=some .local:=by grind):
  PG X (.Tuple [.Name x d,.Name y e,.Name z f] k a) (Gj X.K 3 (mC (fK i) (mC (fK j) (mC (fK l) Gi)))):=Gk g (kH (bf b h o r) (kH (bf b m p s) (kH (bf b n q c) B0)))
end
end L2
namespace L2
open PySem PyProof.Rows
theorem lt1{a b:Nat}(h:a+64<b):a+1<b:=by lia
section
variable {X:Cx}
def Bg(z:Int):Value->Bool
 | .int i _=>i==z
 |_=>false
theorem sR:∀{c:List Int}{us:List Value},Vals (c.map V.int) us->us.length=c.length/\∀(i:Nat) u z,us[i]?=some u->c[i]?=some z->∃t,u=.int z t
 | [],_,.nil=>⟨rfl,λi u z h=>by simp at h⟩
 |n::c,_,.cons r t=>by
  obtain⟨l,h⟩:=sR t;refine⟨by simp[l],λi u z a b=>?_⟩
  cases i with
  |zero=>simp at a b;subst a b;calc r
  |succ i=>calc h i u z (by simpa using a) (by simpa using b)
def Md:V->List V->Hp->VK->Prop:=λx vs H Q=>∃(a:Addr) (b:List Int) (j:Nat) (z:Int),x=.ref a/\vs=[.int z]/\H a=some (.lst (b.map V.int))/\b[j]?=some z/\(∀i y,i<j->b[i]?=some y->y≠z)/\Q (.int j) H
theorem vt:PX X "list.index" Md:=by
 intro k s σ H x O v P Q I r D h;obtain⟨a,d,j,z,rfl,rfl,E,l,G,q⟩:=h
 cases r;obtain⟨u,rfl,o,rfl⟩:=D.one;obtain⟨b,r,J,k⟩:=I.list (aT.of E);obtain⟨h,K⟩:=sR r;have h:j<d.length:=(List.getElem?_eq_some_iff.mp l).1;have p:(d.map V.int).length<=sizeLine:=k;rw[List.length_map]at p;obtain⟨⟨r,s,h,L⟩,n,w,A,B,e⟩:=id J;simp only at A B e;subst A B e;have h:j<b.length:=by lia
 have c:∀m (f:m<b.length),∃y t,d[m]?=some y/\b[m]=.int y t:=λm f=>by
  have C:m<d.length:=by lia
  obtain⟨t,e⟩:=K m b[m] d[m] nofun nofun;exact⟨d[m],t,nofun,e⟩
 refine call_meets PySem.F.slot_list_index ⟨_,w,rfl⟩ PySem.F.entry_list_index (PySem.F.args_list_index_2 _ _) (SeqAt.list_indexAt a b.toArray n none L (.int z o) (Bg z) j (by simpa using h) (by rw[sizeLine_eq]at p;lia) ?_ ?_) ⟨w,λy M=>?_,?_⟩
 ·obtain⟨y,t,g,i⟩:=c j h;rw[l] at g
  cases g;simp[i,Bg]
 ·intro m f a;have C:m < b.length:=by simpa using f
  obtain⟨y,t,g,i⟩:=c m C;have:=G m y a g;simp[i,Bg,this]
 ·have N:y ∈ b:=by simpa using M
  obtain⟨m,f,rfl⟩:=List.getElem_of_mem N;obtain⟨y,t,g,i⟩:=c m f;rw[i];exact SeqAt.EqAt.int_int y t z o
 ·calc⟨.int _,H,I.tok _,⟨_,rfl⟩,q⟩
end
end L2
namespace L2
open PySem PySem.Spec PyProof.Rows
section
def VE(K:W.Frag):V->Option Int->Option Int->Hp->VK->Prop:=λx b c H Q=>match x with
 | .ref a=>∃xs,aT K H a xs/\∀p,H p=none->Q (.ref p) (upd H p (.lst (fe xs b c)))
 |_=>False
theorem aa9{X:Cx}:UH X (VE X.K):=by
 intro a s σ H x v b c d e f Q I g i j k h
 cases x<;>first
  |calc(show False from h).elim
  |skip
 obtain⟨l,m,q⟩:=h;calc Ce a s σ H _ v b c d e f Q I g i j k ⟨_,l,rfl,m,q⟩
theorem QT{X:Cx}{e:Expr}{b:TE}{c d:Option Expr}{f g:TO}{a h:Pos}(i:PE X e b)(j:PO X c f)(k:PO X d g):PE X (.Subscript e (.Slice c d none h) a) (UI (VE X.K) b f g):=yc aa9 i j k
theorem Me{xs:List V}{i j:Nat}:(fe xs (some (i:Int)) (some (j:Int))).length<=j-i:=by
 unfold fe;rw[show HT.eO xs.length 0 (some (i:Int))=min i xs.length from HT.B9 _ _ i,show HT.eO xs.length xs.length (some (j:Int))=min j xs.length from HT.B9 _ _ j,List.length_take];calc aae (Nat.min_le_left _ _) ?_;rcases Nat.le_total xs.length i with h|h
 ·rw[Nat.min_eq_right h,Nat.sub_eq_zero_of_le (Nat.min_le_right _ _)];exact aab _
 ·rw[Nat.min_eq_left h];calc Nat.sub_le_sub_right (Nat.min_le_left _ _) _
theorem Mf{xs:List V}{a b:Option Int}{v:V}(h:v∈fe xs a b):v∈xs:=List.mem_of_mem_drop (List.mem_of_mem_take h)
end
section
variable {a dx:Addr}{Q:Bool->Hp->Prop}{X:Cx}{H:Hp}{f:Str}{v:V}{K:W.Frag}
theorem fld{C:Addr}{b:List (Str×V)}{Q:V->Prop}(h:H a=some (.ins C dx b))(c:uc K C)(n:bQ K C f)(l:b.lookup f=some v)(q:Q v):∃e d j g i,V.ref a=.ref e/\H e=some (.ins d j g)/\uc K d/\bQ K d f/\g.lookup f=some i/\Q i:=⟨a,C,dx,b,v,rfl,h,c,n,l,q⟩
theorem mth{C:Addr}{b:List (Str×V)}{Q:Addr->Prop}(h:H a=some (.ins C dx b))(l:b.lookup f=none)(q:Q a):∃c e d,V.ref a=.ref c/\H c=some (.ins C e d)/\d.lookup f=none/\Q c:=⟨a,dx,b,rfl,h,l,q⟩
theorem fq{C:Addr}{b:List (Str×V)}{Q:V->Prop}(h:H a=some (.ins C dx b))(c:uc K C)(n:bQ K C f)(l:b.lookup f=some v)(q:Q v):∃e d j g i,a=e/\H e=some (.ins d j g)/\uc K d/\bQ K d f/\g.lookup f=some i/\Q i:=⟨a,C,dx,b,v,rfl,h,c,n,l,q⟩
theorem eD{C:Addr}{b:List (Str×V)}{Q:Addr->Prop}(h:H a=some (.ins C dx b))(l:b.lookup f=none)(q:Q a):∃c e d,a=c/\H c=some (.ins C e d)/\d.lookup f=none/\Q c:=⟨a,dx,b,rfl,h,l,q⟩
theorem yS{x y:V}{P:V->V->Prop}(h:bJ K H a [x,y])(q:P x y):∃b xs,V.ref a=.ref b/\bJ K H b xs/\xs.length=2/\∃v r,xs=v::r/\∃c d,r=c::d/\d=[]/\P v c:=⟨a,_,rfl,h,rfl,_,_,rfl,_,_,rfl,rfl,q⟩
theorem un3{x y z:V}{P:V->V->V->Prop}(h:bJ K H a [x,y,z])(q:P x y z):∃d xs,V.ref a=.ref d/\bJ K H d xs/\xs.length=3/\∃v r,xs=v::r/\∃e f,r=e::f/\∃b c,f=b::c/\c=[]/\P v e b:=⟨a,_,rfl,h,rfl,_,_,rfl,_,_,rfl,_,_,rfl,rfl,q⟩
theorem iR{A B R:Prop}(a:A)(b:B)(r:R):A/\B/\R:=⟨a,b,r⟩
theorem bL{α:Type}{A R:α->Prop}(x:α)(a:A x)(r:R x):∃x,A x/\R x:=⟨x,a,r⟩
theorem hV{α:Type}{A B R:α->Prop}(x:α)(a:A x)(b:B x)(r:R x):∃x,A x/\B x/\R x:=⟨x,a,b,r⟩
theorem QU{α:Type}{A B C R:α->Prop}(x:α)(a:A x)(b:B x)(ch:C x)(r:R x):∃x,A x/\B x/\C x/\R x:=⟨x,a,b,ch,r⟩
theorem ED{α β:Type}{A R:α->β->Prop}(x:α)(y:β)(a:A x y)(r:R x y):∃x y,A x y/\R x y:=⟨x,y,a,r⟩
theorem dy{α β:Type}{A B R:α->β->Prop}(x:α)(y:β)(a:A x y)(b:B x y)(r:R x y):∃x y,A x y/\B x y/\R x y:=⟨x,y,a,b,r⟩
theorem ur{α β:Type}{A B C R:α->β->Prop}(x:α)(y:β)(a:A x y)(b:B x y)(ch:C x y)(r:R x y):∃x y,A x y/\B x y/\C x y/\R x y:=⟨x,y,a,b,ch,r⟩
theorem mR{α β:Type}{A B C D R:α->β->Prop}(x:α)(y:β)(a:A x y)(b:B x y)(ch:C x y)(c:D x y)(r:R x y):∃x y,A x y/\B x y/\C x y/\D x y/\R x y:=⟨x,y,a,b,ch,c,r⟩
theorem aba{α β γ:Type}{A B R:α->β->γ->Prop}(x:α)(y:β)(z:γ)(a:A x y z)(b:B x y z)(r:R x y z):∃x y z,A x y z/\B x y z/\R x y z:=⟨x,y,z,a,b,r⟩
theorem abb{α β γ:Type}{A B C R:α->β->γ->Prop}(x:α)(y:β)(z:γ)(a:A x y z)(b:B x y z)(ch:C x y z)(r:R x y z):∃x y z,A x y z/\B x y z/\C x y z/\R x y z:=⟨x,y,z,a,b,ch,r⟩
theorem gc{α β γ δ:Type}{A B R:α->β->γ->δ->Prop}(x:α)(y:β)(z:γ)(u:δ)(a:A x y z u)(b:B x y z u)(r:R x y z u):∃x y z u,A x y z u/\B x y z u/\R x y z u:=⟨x,y,z,u,a,b,r⟩
theorem abc{α β γ δ:Type}{A B C R:α->β->γ->δ->Prop}(x:α)(y:β)(z:γ)(u:δ)(a:A x y z u)(b:B x y z u)(ch:C x y z u)(r:R x y z u):∃x y z u,A x y z u/\B x y z u/\C x y z u/\R x y z u:=⟨x,y,z,u,a,b,ch,r⟩
theorem VF{α β γ δ:Type}{A B C D R:α->β->γ->δ->Prop}(x:α)(y:β)(z:γ)(u:δ)(a:A x y z u)(b:B x y z u)(ch:C x y z u)(c:D x y z u)(r:R x y z u):∃x y z u,A x y z u/\B x y z u/\C x y z u/\D x y z u/\R x y z u:=⟨x,y,z,u,a,b,ch,c,r⟩
theorem rj{α β γ δ:Type}{A B C D E R:α->β->γ->δ->Prop}(x:α)(y:β)(z:γ)(u:δ)(a:A x y z u)(b:B x y z u)(ch:C x y z u)(c:D x y z u)(d:E x y z u)(r:R x y z u):∃x y z u,A x y z u/\B x y z u/\C x y z u/\D x y z u/\E x y z u/\R x y z u:=⟨x,y,z,u,a,b,ch,c,d,r⟩
theorem abd{α β γ δ:Type}{A B C D E F R:α->β->γ->δ->Prop}(x:α)(y:β)(z:γ)(u:δ)(a:A x y z u)(b:B x y z u)(ch:C x y z u)(c:D x y z u)(d:E x y z u)(e:F x y z u)(r:R x y z u):∃x y z u,A x y z u/\B x y z u/\C x y z u/\D x y z u/\E x y z u/\F x y z u/\R x y z u:=⟨x,y,z,u,a,b,ch,c,d,e,r⟩
theorem VG{α β γ δ ε:Type}{A B C D R:α->β->γ->δ->ε->Prop}(x:α)(y:β)(z:γ)(u:δ)(v:ε)(a:A x y z u v)(b:B x y z u v)(ch:C x y z u v)(c:D x y z u v)(r:R x y z u v):∃x y z u v,A x y z u v/\B x y z u v/\C x y z u v/\D x y z u v/\R x y z u v:=⟨x,y,z,u,v,a,b,ch,c,r⟩
theorem abe{α β γ δ ε:Type}{A B C D E R:α->β->γ->δ->ε->Prop}(x:α)(y:β)(z:γ)(u:δ)(v:ε)(a:A x y z u v)(b:B x y z u v)(ch:C x y z u v)(c:D x y z u v)(d:E x y z u v)(r:R x y z u v):∃x y z u v,A x y z u v/\B x y z u v/\C x y z u v/\D x y z u v/\E x y z u v/\R x y z u v:=⟨x,y,z,u,v,a,b,ch,c,d,r⟩
theorem VH{α β γ δ ε:Type}{A B C D E F R:α->β->γ->δ->ε->Prop}(x:α)(y:β)(z:γ)(u:δ)(v:ε)(a:A x y z u v)(b:B x y z u v)(ch:C x y z u v)(c:D x y z u v)(d:E x y z u v)(e:F x y z u v)(r:R x y z u v):∃x y z u v,A x y z u v/\B x y z u v/\C x y z u v/\D x y z u v/\E x y z u v/\F x y z u v/\R x y z u v:=⟨x,y,z,u,v,a,b,ch,c,d,e,r⟩
theorem PE.imp{e:Expr}{t u:TE}(h:PE X e t)(i:∀σ H Q,u σ H Q->t σ H Q):PE X e u:=⟨λp s σ H Q I q=>h.out p s σ H Q I (i σ H Q q)⟩
def tV(i:Nat):TE:=λσ H Q=>match σ[i]? with
 |some (some v)=>Q v H
 |_=>False
theorem QV{i:Nat}(σ:St)(H:Hp)(Q:VK)(h:tV i σ H Q):F8 i σ H Q:=by
 unfold tV at h;split at h
 ·exact⟨_,by assumption,h⟩
 ·calc h.elim
def bB(Q:Bool->Hp->Prop):V->Hp->Prop
 | .bl k,H=>Q k H
 |_,_=>False
theorem QW{Q:Bool->Hp->Prop}{x:V}{H:Hp}(h:bB Q x H):∃k,x=.bl k/\Q k H:=by
 cases x with
 |bl k=>calc⟨k,rfl,h⟩
 |_=>calc h.elim
theorem VI{k:Bool}:bB Q (.bl k) H=Q k H:=rfl
theorem kT{k:Bool}(h:Q k H):bB Q (.bl k) H:=h
def tT(t:TE):TT:=λσ H Q=>t σ H (bB Q)
theorem VJ:bB Q=λx H=>∃k,x=.bl k/\Q k H:=by
 funext x H;calc propext ⟨QW,?_⟩;rintro⟨k,rfl,h⟩;calc h
theorem NL:tT=x8:=by
 funext t σ H Q;show t σ H (bB Q)=_;rw[VJ];rfl
theorem QX:tT=tB:=NL
section
variable {X:Cx}{a b:Expr}{ta tb:TE}{pos:Pos}
theorem aC{c:CmpOp}{r:R2}(d:fQ X (compareOp c) r)(e:PE X a ta)(f:PE X b tb)(g:behindInMarks c b=false):PT X (.Compare a [c] [b] pos) (tT (Gw r ta tb)):=by
 rw[NL];calc B5 d e f g
theorem bG{e:Expr}{t:TE}(h:PE X e t)(b:∀a,PySem.isTrue e X.env a=(do let v <-a;standAt e.pos;holding [v] (truthy v)):=by intro _;rfl):PT X e (tT t):=by
 rw[QX];calc Pf h b
theorem aq(i:Nat){x:Str}{pos:Pos}(a:X.N[i]?=some x:=by rfl)(b:Up X.env.scope x:=by first|calc Or.inl rfl|calc Or.inr (Or.inl rfl)|calc Or.inr (Or.inr rfl))(c:(x==("__debug__":Str))=false:=by decide)
  (d:(x==("__classdict__":Str))=false:=by decide):PE X (.Name x pos) (tV i):=(F9 a b c d).imp QV
end
section
variable {K:W.Frag}{H:Hp}{Q:VK}{i j:Int}{s t:Str}{a b:Addr}
def QY(K:W.Frag):R2:=λx y H Q=>match x,y with
 | .int i,.int j=>Q (.bl (decide (i=j))) H
 | .str s,.str t=>Q (.bl (decide (s=t))) H
 |x,y=>Qn K x y H Q
def QZ(K:W.Frag):R2:=λx y H Q=>match x,y with
 | .int i,.int j=>Q (.bl (!decide (i=j))) H
 | .str s,.str t=>Q (.bl (!decide (s=t))) H
 |x,y=>Qo K x y H Q
theorem Iy:QY K (.int i) (.int j) H Q=Q (.bl (decide (i=j))) H:=rfl
theorem Iz:QY K (.str s) (.str t) H Q=Q (.bl (decide (s=t))) H:=rfl
theorem IA:QY K (.ref a) (.ref b) H Q=((kO K H 20 (.ref a) (.ref b)/\Q (.bl true) H)\/(sj K H a b/\Q (.bl false) H)):=rfl
theorem IB:QZ K (.int i) (.int j) H Q=Q (.bl (!decide (i=j))) H:=rfl
theorem IC:QZ K (.str s) (.str t) H Q=Q (.bl (!decide (s=t))) H:=rfl
theorem ID:QZ K (.ref a) (.ref b) H Q=((kO K H 20 (.ref a) (.ref b)/\Q (.bl false) H)\/(sj K H a b/\Q (.bl true) H)):=rfl
theorem IE:QY K=Qn K:=by
 funext x y H Q
 cases x<;>cases y<;>first|rfl|calc wJ.symm|calc wK.symm
theorem IF:QZ K=Qo K:=by
 funext x y H Q
 cases x<;>cases y<;>first|rfl|calc wL.symm|calc wM.symm
theorem aV(a:X.A.units+64<cLine):fQ X (compareOp .Eq) (QY X.K):=IE▸Hi a
theorem eR(a:X.A.units+64<cLine):fQ X (compareOp .NotEq) (QZ X.K):=IF▸Hk a
theorem oS(a:X.K=K)(b:X.A.units+64<cLine):fQ X (compareOp .Eq) (QY K):=IE▸LV a b
theorem IG(a:X.K=K)(b:X.A.units+64<cLine):fQ X (compareOp .NotEq) (QZ K):=IF▸LW a b
end
theorem HT.cy{n:Nat}{i:Int}(h:HT H n v (.int i)):v=.int i:=by
 cases h;rfl
theorem HT.cS{n:Nat}{s:Str}(h:HT H n v (.str s)):v=.str s:=by
 cases h;rfl
theorem HD.cy{n:Nat}{i:Int}(h:HD H n v (.int i)):v=.int i:=by
 cases h;rfl
theorem HD.cS{n:Nat}{s:Str}(h:HD H n v (.str s)):v=.str s:=by
 cases h;rfl
end
end L2
namespace DD
open PySem L2
variable {e:Int×Int}{u:Nat}{s:Option (Int×Int)}
theorem EF{l:List (Option (Int×Int))}{k:Nat}:(l++[none])[k]?=some (some e)↔l[k]?=some (some e):=by
 by_cases h:k<l.length
 ·rw[List.getElem?_append_left h]
 ·rw[List.getElem?_append_right (),List.getElem?_eq_none (l:=l) ()];constructor
  ·intro z
   cases a:k-l.length with
   |zero=>rw[a]at z;simp at z
   |succ j=>rw[a]at z;simp at z
  ·intro z;cases z
section
variable {n:NT}{r:RS}
theorem Q0{w:Nat}{x:Int}:((r.put w x s).ww u).dX=if u=w then(r.ww w).dX++[none] else(r.ww u).dX:=by
 show(if u=w then _ else _:WY).dX=_;split<;>rfl
theorem CI{w:Nat}{x:Int}{k:Nat}:((r.put w x s).ww u).dX[k]?=some (some e)↔(r.ww u).dX[k]?=some (some e):=by
 rw[Q0];split
 ·next z=>subst z;exact EF
 ·calc Iff.rfl
theorem Mg{w k:Nat}:((r.step n w k).ww u).dX=if u=w then(r.ww w).dX.set k (some (n.ev r w)) else(r.ww u).dX:=by
 show(if u=w then _ else _:WY).dX=_;split<;>rfl
theorem oU{w k j:Nat}(b:(r.ww w).dX[k]?=some none):((r.step n w k).ww u).dX[j]?=some (some e)↔(u=w/\j=k/\e=n.ev r w)\/(r.ww u).dX[j]?=some (some e):=by
 have c:k<(r.ww w).dX.length:=(List.getElem?_eq_some_iff.mp b).1;rw[Mg];split
 ·next z=>
  subst z;by_cases a:j=k
  ·subst a;rw[List.getElem?_set_self c,b];constructor
   ·intro z;cases z;exact .inl ⟨rfl,rfl,rfl⟩
   ·rintro(⟨_,_,rfl⟩ | z)
    ·rfl
    ·cases z
  ·rw[List.getElem?_set_ne (λz=>a z.symm)];exact⟨.inr,λz=>z.elim (λq=>absurd q.2.1 a) id⟩
 ·next z=>calc⟨.inr,λq=>q.elim (λq=>absurd q.1 z) id⟩
variable {H H':Hp}{bt:List (List Key×V)}{w k:Nat}
end
end DD
namespace DD
open PySem L2
structure RS.Px(n:NT)(r:RS):Prop where
 px:∀w,w<n.ws.length->(n.w w).2.2="row"->∀(j k:Nat) (e:Int×Int),j<k->(r.ww w).dX[k]?=some (some e)->∃e':Int×Int,(r.ww w).dX[j]?=some (some e')
section
variable {n:NT}{r:RS}
theorem RS.Px.put(h:r.Px n){w:Nat}{x:Int}{s:Option (Int×Int)}:(r.put w x s).Px n:=
 ⟨λu a b j k e c d=>let ⟨f,g⟩:=h.px u a b j k e c (CI.mp d);⟨f,CI.mpr g⟩⟩
theorem RS.Px.send{outs:List Nat}{ev:Int×Int}:∀(a:List (Int×Int)) {r:RS},r.Px n->(r.send outs ev a).Px n
 | [],r,h=>h
 |p::a,r,h=>by
  show((if p.1.toNat<outs.length then r.put (outs.getD p.1.toNat 0) p.2 (some ev) else r).send outs ev a).Px n;split
  ·exact RS.Px.send a h.put
  ·calc RS.Px.send a h
theorem RS.Px.kR:∀(a:List (Int×Int)) {r:RS},r.Px n->(r.kR a).Px n
 | [],r,h=>h
 |p::a,r,h=>RS.Px.kR a h.put
theorem RS.Px.begin{a:List (Int×Int)}:(RS.begin n a).Px n:=
 RS.Px.kR a ⟨λw _ _ j k e _ h=>by simp[RS.new]at h⟩
theorem RS.Px.pick(h:r.Px n){w k:Nat}(c:(r.ww w).dX[k]?=some none)(p:(n.w w).2.2="row"->0<k->∃e,(r.ww w).dX[k-1]?=some (some e)):(r.pick n w k).Px n:=by
 calc RS.Px.send _ ⟨λu l d j i e q a=>?_⟩;have f:(r.ww u).dX[i]?=some (some e)->∃b,((r.step n w k).ww u).dX[j]?=some (some b):=λa=>by
  obtain⟨b,g⟩:=h.px u l d j i e q a;exact⟨b,(oU c).mpr (.inr g)⟩
 rcases(oU c).mp a with⟨rfl,rfl,_⟩|a
 ·obtain⟨m,o⟩:=p d ();by_cases z:j=i - 1
  ·subst z;exact⟨m,(oU c).mpr (.inr o)⟩
  ·obtain⟨b,g⟩:=h.px u l d j (i-1) m () o;exact⟨b,(oU c).mpr (.inr g)⟩
 ·calc f a
end
end DD
set_option maxHeartbeats 400000
namespace L2
open PySem PySem.Spec PyProof.Rows
section
section
variable {P:Program}{w:World}{K:W.Frag}{mg:Str->Option Value}{base:Heap}
theorem gj.ZT{C:Addr}{m a:Str}{b:Stmt}{N c:List Str}{k:Nat}{sp:Sp}(T:gj K C m a b c)(S:aE N c (aA b))(d:∀vs H Q E,sp vs H Q E->vs.length=c.length)
  (g:∀(f:Addr) (e:Value) (A:Around) (outer:List Env) (s:Shared) (H:Hp) (vs:List V) (Q:VK) (E:XK),dH k (A.deeper (envOfC a (aA b) s.heap.objs.size f e))->sp vs H Q E->
   ∃t,rF (ie (uj P w) P w K mg base N a (aA b) f e A outer s H E) (cB b) t/\t {nx:=λ_ a=>Q .bI a,rt:=Q} (start N vs) H):dj P w K mg base C m (k + 1) c sp:=by
 obtain⟨f,a,M,F,b⟩:=T.ex;calc⟨f,a,M,F.ZT S d (g f),b⟩
end
section
variable {X:Cx}{o e:Expr}{es:List Expr}{to:TE}{t:TA}{apos p pos:Pos}{C:Addr}{m x:Str}{k j:Nat}{ps:List Str}{sp:Sp}{E:XK}
theorem il{pl:Sem Bool}(D:dj X.prog X.w X.K X.mg X.base C m k ps sp)(b:Passes (uj X.prog X.w) X E)(c:uc X.K C)(d:dH j X.A)(g:PE X o to)(h:PA X (e::es) t)(i:k<=j:=by decide)(l:dw e=true:=by rfl)(n:es.all dw=true:=by rfl)
  (p:eval (.Call (.Attribute o m apos) (e::es) [] pos) X.env=(do
   let a <-eval o X.env
   standAt apos.atName
   let (f,first) <-holding [a] (getMethod a m pl)
   callWith pos f first (backTo pos (starEach (e::es) X.env)) (backToKw pos (keywordEach [] X.env))):=by rfl):
  PE X (.Call (.Attribute o m apos) (e::es) [] pos) (qP C m sp [] E to t):=by
 obtain⟨f,q,M,F,a⟩:=D.ex;calc B8 g c M F (d.mono i) a .nil b h (dz l) (fz n) p
theorem PE.any{xe:Value->Shared->Prop}{a:TE}(b:PE X.xY e a){pins:List (Addr×Obj)}{s:Shared}{σ:St}{H:Hp}{Q:VK}(I:Inv X pins σ H s)(h:a σ H Q):
  wpAny (model X.prog X.w) X.A (eval e X.env) (EP X pins σ Q) xe s:=
 aal (b.out pins s σ H Q (I.om _) h) (λ_ _ ⟨v,a,c,r,q⟩=>⟨v,a,c.gk,r,q⟩) λ_ _ z=>X' z
theorem pR{pl:Sem Bool}(D:dj X.prog X.w X.K X.mg X.base C m k ps sp)(c:uc X.K C)(g:dH j X.A)(i:PE X.xY o to)(n:PA X.xY (e::es) t)(p:k<=j:=by decide)(v:dw e=true:=by rfl)(y:es.all dw=true:=by rfl)
  (r:eval (.Call (.Attribute o m apos) (e::es) [] pos) X.env=(do
   let b <-eval o X.env
   standAt apos.atName
   let (f,first) <-holding [b] (getMethod b m pl)
   callWith pos f first (backTo pos (starEach (e::es) X.env)) (backToKw pos (keywordEach [] X.env))):=by rfl):
  Vw X (.Call (.Attribute o m apos) (e::es) [] pos) (λE=>qP C m sp [] E to t):=by
 obtain⟨f,b,M,F,z⟩:=D.ex;calc⟨λb s σ H Q E f B I h=>?_⟩;calc W.methodCall_KW (pl:=pl) (cK (i.any I h) λu b G=>?_) r;obtain⟨x,b,d,J,a,f,h,ex,L,l,q⟩:=G;subst ex;obtain rfl:u=Value.ref a:=J;calc mI d L c M l ?_;calc W.callWith_K (first:=[.ref a]) (h₀:=X.base) I.ok.mod.xV M.kp (cK (n.any d q pos) λb i ⟨c,l,f,r,h⟩=>⟨f.gG,?_⟩) (dz v) (fz y);calc L7 (us:=.ref a::b) (vs:=.ref a::c) F (g.mono p) z B f (.cons rfl r) (by have:=h;simp only[List.append_nil]at this;calc this)
theorem sS{T c:String}{name:Str}{a:Pos}{r:V->List V->Hp->VK->Prop}{f:XK->TE}(i:PlainAttrs T)(b:Slot T name c)(j:typeOf (.builtin c)=pure (.type "method_descriptor"))(k:PX X.xY c r)(g:PE X.xY o to)(l:Vw X e f)
  (d:dw e=true:=by rfl)
  (m:attributeBase o name X.env (eval o X.env)=eval o X.env:=by rfl)
  (n:((backTo a (starEach [e] X.env)).all (λx=> !x.1) && (backToKw a (keywordEach [] X.env)).all (λx=>x.1.isSome)
   && decide ([e].length + ([]:List Keyword).length + (if ([]:List Keyword).isEmpty then 0 else 1) < 30))=true:=by rfl)
  (p:(apos.endLine==a.line)=true:=by rfl):
  Vw X (.Call (.Attribute o name apos) [e] [] a) (λE=>UN X.K T r to (rZ (f E) ya)):=by
 calc⟨λa s σ H Q E q t I h=>?_⟩;have s:starEach [e] X.env=(false,eval e X.env)::starEach [] X.env:=dz d;calc wpAny_Call_method_late m n p rfl (cK (g.any I h) λv w f=>?_);obtain⟨x,m,g,h,n,p⟩:=f;obtain⟨d,y⟩:=AH g h n;calc⟨T,c,i,b,j,d,y,?_⟩;rw[s];calc Calls.callWith_builtin rfl (Calls.evalArgs_plain ?_);calc Calls.spliced_cons (cK (l.out a w σ m _ E q t g p) λu z f=>?_);obtain⟨y,b,c,d,g⟩:=f;calc Calls.spliced_nil ?_;calc aal (k a z σ b x [y] v [u] Q (c.om _) h (.cons d .nil) g) (λ_ _ ⟨v,i,j,r,q⟩=>⟨v,i,j.gk,r,q⟩) λ_ _ z=>X' z
end
def VM(K:W.Frag)(B:Addr)(PC:Addr->Prop):Prop:=∀{M:Model} {A:Around} {E:Value->Shared->Prop} {s:Shared} {e C:Addr} {d:Option Addr} {vs:Array Value} {a:Array (Option Value)} {Q:Bool->Shared->Prop},K.In s.heap->PC C->
 s.heap.get? e=some (⟨.ref C,d,.fields vs,a⟩:Obj)->Q true s->wpAny M A (excMatches (.ref e) (.ref B)) Q E s
theorem vv{K:W.Frag}{B:Addr}(a:XBase K B):VM K B (λC=>fU K C B):=λb c d e=>aaZ b c a d e
def NM (PC:Addr->Prop)(i:Nat)(a:XK->TS)(b:TS):TS:=λD σ H=>a (λe _ f=>∃a C d,e=.ref a/\f a=some (XO a C d false)/\PC C/\
 b {nx:=λb c=>D.nx (b.set i none) c,rt:=D.rt,bk:=λb c=>D.bk (b.set i none) c,ct:=λb c=>D.ct (b.set i none) c} (σ.set i (some (.ref a))) f) D σ H
section
variable {X:Cx}{i:Nat}{B:Addr}{PC:Addr->Prop}{tb:XK->TS}{th:TS}{n x:Str}{st b₀:Stmt}{NN:List Stmt}{np VN pos:Pos}
theorem CJ(y:X.stack=X.env::X.outer)(E:X.env.frame=some X.env.locals)(j:X.N.Nodup)(k:X.N[i]?=some n)(g:X.env.scope.names.lookup n=some .local)(F:Gl X x)(G:X.mg x=some (.ref B))(J:VM X.K B PC)
  (d:Vx X st tb) (L:∀a,rF (X.mx a) (b₀::NN) th) (M:(x==("__debug__":Str))=false:=by decide):
  PS X (.Try [st] [.ExceptHandler (some (.Name x np)) (some n) (b₀::NN) VN] [] [] pos) (NM PC i tb th):=by
 walk_at "xd";refine wpAny_Try_except ?_;refine wpAny_execs_cons (cK (d.out pins s σ H D _ _ (λZ C x r O P=>?_) I h) λf C q=>?_)
 ·obtain⟨a,C0,d0,Q,t,rfl,w,Z,R,o,a',C,d,S,c,U,q⟩:=O.thrown P
  cases S;have l:=w.ok;calc yz (T:=some t) y E w c R (λd z=>by cases z;calc o) λw y t d e _=>?_;rw[Ie c]at t e;calc sG (s:={r with heap:=w}) t d e λW b p=>?_;obtain⟨d,o,Y⟩:=Cp b c;calc wpAny_handleBy_cons (codeAny_handlers_test (jU (X:=X.mx a) (b.mx a) F G (J (b.mx a).gG U Y ?_) M)) (by intro z;cases z);calc codeAny_handlers_suite_as (sG (X:=X.mx a) (s:={r with heap:=W}) (b.mx a) p e λd c _=>?_);calc ic (X:=X.mx a) c j k (.inl g) (v:=.ref a) (u:=.ref a) rfl (λb c=>?_) (.inr g);calc aal ((L a) pins b _ Q _ c q) (λf d m=>?_) λ_ _ z=>X' z;show wpAny _ X.A (do bindName X.env n .none;unbindBehindTheSuite X.env n VN) _ _ d
  cases f with
  |next=>
   obtain⟨a,b,c,d⟩:=m;calc rJ (c.wV l) j k g λo e=>⟨_,b,e,d⟩
  |brk=>
   obtain⟨a,b,c,d⟩:=m;calc rJ (c.wV l) j k g λo e=>⟨_,b,e,d⟩
  |cont=>
   obtain⟨a,b,c,d⟩:=m;calc rJ (c.wV l) j k g λo e=>⟨_,b,e,d⟩
  |ret u=>
   obtain⟨v,a,b,c,p,d⟩:=m;exact rJ (c.wV l) j k g λo e=>⟨v,_,b,e,p,d⟩
 ·cases f with
  |next=>calc wpAny_execs_nil (wpAny_execs_nil q)
  |ret v=>calc q
  |brk=>calc q
  |cont=>calc q
end
theorem CK {PC:Addr->Prop}{i:Nat}{e:XK->TS}{g:TS}{D:Ends}{σ:St}{H:Hp}(h:∀j:XK,(∀a C d f,f a=some (XO a C d false)->PC C->
  g {nx:=λb c=>D.nx (b.set i none) c,rt:=D.rt,bk:=λb c=>D.bk (b.set i none) c,ct:=λb c=>D.ct (b.set i none) c} (σ.set i (some (.ref a))) f->j (.ref a) none f)->e j D σ H):NM PC i e g D σ H:=
 h _ λa C d f e b q=>⟨a,C,d,rfl,e,b,q⟩
end
section
structure Q1(X:Cx)(gp:List Stmt)(t:XK->TS):Prop where
 out:∀(pins:List (Addr×Obj)) (s:Shared) (σ:St) (H:Hp) (D:Ends) (E:XK) (xe:Value->Shared->Prop),(∀H1 s1 x s',Inv X pins σ H1 s1->uj X.prog X.w X.stack H1 s1 E x s'->xe x s')->Inv X pins σ H s->t E D σ H->
  wpAny (model X.prog X.w) X.A (execs gp X.env) (SP X pins D) xe s
section
variable {X:Cx}{st:Stmt}{t:XK->TS}{pos:Pos}
theorem gJ(h:Vx X st t):Q1 X [st] t:=by
 calc⟨λa s σ H D E b c I q=>?_⟩;refine wpAny_execs_cons (cK (h.out a s σ H D E b c I q) λf d q=>?_)
 cases f with
 |next=>calc wpAny_execs_nil q
 |ret v=>calc q
 |brk=>calc q
 |cont=>calc q
theorem xc{c:Expr}{a b:List Stmt}{f:TT}{g h:XK->TS}(o:PT X.xY c f)(p:Q1 X a g)(q:Q1 X b h):Vx X (.If c a b pos) (λE=>Ak f (g E) (h E)):=by
 calc⟨λe s σ H D E i j I h=>?_⟩;calc wpAny_If (aal (o.out e s σ H _ (I.om _) h) (λd k a=>?_) λ_ _ z=>X' z);obtain⟨l,m,n⟩:=a
 cases d with
 |true=>calc p.out e k σ l D E i j m.gk n
 |false=>calc q.out e k σ l D E i j m.gk n
end
end
end L2
namespace L2
open PySem
section
variable {X:Cx}{e:Expr}{t:XK->TE}{pos pos':Pos}{x:Str}{i:Nat}
theorem Mi(b:X.N.Nodup)(c:X.N[i]?=some x)(d:Loc X.env.scope x)(f:Vw X e t)(g:swapsWith e (some (.Name x pos')) pos.line X.env=pure false:=by rfl)(j:X.fn x=true\/X.env.scope.names.lookup x=some .local:=by grind):
  Vx X (.Assign [.Name x pos'] e pos) (λE=>Am (t E) (fK i)):=by
 calc⟨λa s σ H D E k l I h=>?_⟩;calc wpAny_Assign_Name (cK (f.out a s σ H _ E k l I h) λv n m=>?_) g;obtain⟨y,a,f,h,k⟩:=m;calc ic f b c d h (λl g=>⟨_,a,g,k⟩) j
end
end L2
namespace L2
open PySem PySem.Spec PyProof.Rows
def Q2(K:W.Frag):R2:=λx y H Q=>∃(c:Addr) (b:Bool),y=.ref c/\Q (.bl b) H/\((b=false/\(∃d,bJ K H c d)/\(x=.bI\/(∃i,x=.int i)\/∃a xs,x=.ref a/\aT K H a xs))\/∃a,x=.ref a/\YY K H 19 a c b)
section
variable {X:Cx}
theorem Mj(l:X.A.units+64<cLine):fQ X (compareOp .Eq) (Q2 X.K):=by
 intro d s σ H x y v u Q I e k h;obtain⟨c,b,rfl,q,⟨rfl,⟨o,m⟩,f⟩|⟨a,rfl,f⟩⟩:=h
 ·cases k;obtain⟨g,h,j,_⟩:=I.tuple m;rcases f with rfl | ⟨i,rfl⟩ | ⟨a,p,rfl,n⟩
  ·cases e;exact SeqAt.RcAt.none_tuple (show s.heap.IsTuple c g.toArray from j) () X.prog X.w X.xe _ ⟨.bl false,H,I,rfl,q⟩
  ·obtain⟨t,rfl⟩:=e;exact SeqAt.RcAt.int_tuple i t (show s.heap.IsTuple c g.toArray from j) () X.prog X.w X.xe _ ⟨.bl false,H,I,rfl,q⟩
  ·cases e;obtain⟨i,m,h,_⟩:=I.list n;exact SeqAt.RcAt.list_tuple h.isList (show s.heap.IsTuple c g.toArray from j) () X.prog X.w X.xe _ ⟨.bl false,H,I,rfl,q⟩
 ·calc CC l d s σ H _ _ v u Q I e k ⟨a,c,b,rfl,rfl,f,q⟩
end
end L2
set_option maxHeartbeats 4000000
namespace L2
open PySem PySem.Spec PyProof.Rows
section
variable {X:Cx}
theorem NO:Passes (uj X.prog X.w) X E0:=λ_ _ _ _ _ _ _ h=>by
 obtain⟨_,_,_,_,_,_,_,_,_,_,_,_,_,_,q⟩:=h;calc q.elim
theorem Q3{T f:String}{name:Str}{o e:Expr}{b:List Expr}{g:TE}{t:TA}{a c:Pos}{r:V->List V->Hp->VK->Prop}{K:W.Frag}(h:X.K=K)(i:PlainAttrs T)(d:Slot T name f)(j:typeOf (.builtin f)=pure (.type "method_descriptor"))(k:PX X f r)(l:PE X o g)(m:PA X (e::b) t)
  (f:attributeBase o name X.env (eval o X.env)=eval o X.env:=by rfl)
  (n:((backTo c (starEach (e::b) X.env)).all (λx=> !x.1) && (backToKw c (keywordEach [] X.env)).all (λx=>x.1.isSome)
   && decide ((e::b).length + ([]:List Keyword).length + (if ([]:List Keyword).isEmpty then 0 else 1) < 30))=true:=by rfl)
  (p:(a.endLine==c.line)=true:=by rfl) (q:starEach (e::b) X.env=(false,eval e X.env)::starEach b X.env:=by rfl) (s:(backTo c (starEach b X.env)).any (·.1)=false:=by rfl):
  PE X (.Call (.Attribute o name a) (e::b) [] c) (UN K T r g t):=h▸dF i d j k l m f n p q s
end
end L2
namespace FL
open PySem L2 DD
def top(i:Nat):Stmt:=PySem.Challenge.pw_cutrestore_k23_refused_picks.main.body.getD i (.Pass ⟨0,0,0,0⟩)
structure Tx(K:W.Frag)(mg:Str->Option Value)(C CN CR F:Addr)(FD:List (Str×V)):Prop where
 aX:mg "isinstance"=none
 yT:mg "int"=none
 Bh:mg "bool"=none
 CL:mg "str"=none
 cJ:mg "tuple"=none
 ft:mg "list"=none
 bX:mg "len"=none
 dY:mg "range"=none
 VO:mg "min"=none
 IH:mg "max"=none
 vz:mg "all"=none
 VP:mg "any"=none
 II:mg "zip"=none
 dR:mg "enumerate"=none
 oV:mg "ValueError"=none
 dZ:∃t,mg "MOST_DEEDS"=some (.int 24 t)
 dN:∃t,mg "MOST_MODULUS"=some (.int 1000000000000 t)
 dO:∃t,mg "MOST_NUMBERS"=some (.int 4 t)
 fG:∃t,mg "MOST_ROW"=some (.int 12 t)
 dA:∃t,mg "MOST_MACHINES"=some (.int 5 t)
 fL:∃t,mg "MOST_WAYS"=some (.int 10 t)
 dP:∃t,mg "MOST_LETTERS"=some (.int 20 t)
 d7:∃t,mg "SAID_BOUND"=some (.int 1000000000000000000000000000000000000000000000000000000000000 t)
 cT:uc K C
 vA:mg "Machine"=some (.ref C)
 NP:bQ K C "own_modulus"
 Q4:bQ K C "own_state"
 NQ:bQ K C "own_deeds"
 EG:W.findIn K (.ref C) "__class__"=some (some (.builtin "object.__class__"))
 EH:W.mroIn K C (.type "object")=some true
 de:uc K CN
 VQ:mg "Net"=some (.ref CN)
 yU:bQ K CN "own_machines"
 yV:bQ K CN "own_ways"
 Bi:bQ K CN "own_letters"
 IJ:W.findIn K (.ref CN) "__class__"=some (some (.builtin "object.__class__"))
 IK:W.mroIn K CN (.type "object")=some true
 aR:uc K CR
 VR:mg "Run"=some (.ref CR)
 df:bQ K CR "own_net"
 cY:bQ K CR "picks_done"
 b8:bQ K CR "states_had"
 d9:bQ K CR "words_had"
 cZ:bQ K CR "words_said"
 bF:bQ K CR "letters_say"
 eZ:bQ K CR "senders"
 cU:bQ K CR "workers"
 IL:W.findIn K (.ref CR) "__class__"=some (some (.builtin "object.__class__"))
 IM:W.mroIn K CR (.type "object")=some true
 ee:W.specialIn K (.builtin "object.__class__") "__get__"=some (some (.builtin "getset_descriptor.__get__"))
 cn:W.takesIn K (.builtin "object.__class__")=some true
 i_k:W.kitOne K (.ref C) (.ref C)=some true
 CM:mg "FORMS"=some (.ref F)
 CP:CD K F FD
 NR:∀d:bC,∃p,PyProof.Rows.KTD.datumAt d.word FD=some (.ref p)/\∀H,bJ K H p (d.uk.map V.str)
end FL
namespace FL
open PySem L2 DD
variable {D a b m bz p:Addr}{Z:Addr->Prop}{d:bC}{H H' H0 H1 H2:Hp}{e:Int×Int}{ws:List (Int×Int×Str)}{ls:List (Int×Int)}{as ms:List Addr}{es:List DV}{ns row:List Int}{gP:List MD}{mv wv ys:List V}{ad:Nat->Nat->Addr}{r:RS}{σ:St}{f:Str}{dd st z:V}{Q:VK}
theorem pS{X:Cx}{c:Scope}{N:List Str}:uh X c N λY=>SU Y [] iX:=λ_ _ _ _=>LI
section
variable {P:Program}{w:World}{K:W.Frag}{mg:Str->Option Value}{base:Heap}{C CN CR F B:Addr}{c:Nat->Addr}{FD:List (Str×V)}
local macro_rules | `(tactic| walk_at "s") => `(tactic| exact ⟨rfl, rfl, rfl, by decide +kernel, rfl, by decide +kernel, by decide +kernel⟩)
def zqI(s:String):Array Lean.Ident:=(s.splitOn " ").toArray.map (Lean.mkIdent ·.toName)
def zqK:=zqI "tV tT VI Iy Iz IA IB IC ID F8 tC Gw Z8 rU x8 tB Ph Gf Pg Z0 Ge Pj Z1 Gh Pl Am fK Po uT SS rZ ya PK PM xZ Q2 wD GZ AL QQ we HM HN HQ NH HR HU HV HW HX UI wm GP Ll PJ qP B7 UN Qa HZ HY Pp Z3 Al id_eq QB HK Qp Gv pM NA Hn Ht Hu Hv NB Hw Hx Hy Hz NC Cn yn iX ug vi Va Hm Ny Nz L2.start List.map_cons List.map_nil List.cons_append List.nil_append List.replicate List.getElem?_cons_zero List.getElem?_cons_succ List.set_cons_zero List.set_cons_succ"
def zqL:=zqI "A9 Ba wJ wK wL wM List.length_cons List.length_nil List.append_nil Option.some.injEq exists_eq_left' exists_eq_left V.int.injEq V.bl.injEq V.str.injEq V.ref.injEq List.cons.injEq and_true true_and Nat.reduceSub Nat.reduceAdd"
local macro_rules | `(tactic| simp_arith only [$xs,*]) => let l:=zqK; `(tactic| simp only [$[$l:ident],*, ↓Cw, ↓yx, ↓sD, ↓vj, ↓sE, $xs,*])
local macro_rules | `(tactic| simp_arith! only [$xs:simpLemma,*]) => let l:=zqK; `(tactic| dsimp only [$[$l:ident],*, ↓Cw, ↓yx, ↓sD, ↓vj, ↓sE, $xs:simpLemma,*])
local macro_rules | `(tactic| walk_at "l0") => `(tactic| simp_arith! only [Ak, DW, oC])
local macro_rules | `(tactic| walk_at "l1") => let l:=zqL; `(tactic| simp_arith only [Ak, DW, oC, $[$l:ident],*])
local macro_rules | `(tactic| walk_at "l2") => `(tactic| simp_arith! only [Ak, DW])
local macro_rules | `(tactic| walk_at "l3") => let l:=zqL; `(tactic| simp_arith only [Ak, DW, $[$l:ident],*])
local macro_rules | `(tactic| walk_at "l4") => `(tactic| simp_arith! only [oC])
local macro_rules | `(tactic| walk_at "l5") => let l:=zqL; `(tactic| simp_arith only [oC, $[$l:ident],*])
local macro_rules | `(tactic| walk_at "rd") => `(tactic| first | (walk_at "l0"; try walk_at "l1") | walk_at "l1")
local macro_rules | `(tactic| right) => `(tactic| try walk_at "rd")
local macro_rules | `(tactic| walk_at "rt") => `(tactic| first | (walk_at "l2"; try walk_at "l3") | walk_at "l3")
local macro_rules | `(tactic| walk_at "gj") => `(tactic| first
  |refine da (by assumption) (by first|rfl|exact az (j := 0) rfl|exact az (j := 1) rfl|exact az (j := 2) rfl|exact az (j := 3) rfl) ?_
  |refine aZ (by assumption) (by first|rfl|exact az (j := 0) rfl|exact az (j := 1) rfl|assumption) ?_
  |rw [if_pos (by decide +kernel)]
  | rw [if_neg (by decide +kernel)])
local macro_rules | `(tactic| walk_at "go") => `(tactic| repeat (first|walk_at "rd"|walk_at "gj"))
local macro_rules | `(tactic| walk_at "r0") => `(tactic| first | (walk_at "l4"; try walk_at "l5") | walk_at "l5")
local macro_rules | `(tactic| walk_at "rh") => `(tactic| first | with_reducible refine L2.QR ?_ | (with_reducible refine L2.bO ?_; intro N hN) | (with_reducible refine L2.cW ?_; intro T U hT hU))
local macro_rules | `(tactic| walk_at "rn") => `(tactic| (refine L2.bc (by assumption) ?_; (repeat walk_at "rh"); try walk_at "r0"))
local macro_rules | `(tactic| walk_at "jd") => `(tactic| first
  |(walk_at "rh"; (repeat walk_at "rh"); (try walk_at "r0"); repeat walk_at "rn")
  |(walk_at "rn"; repeat walk_at "rn")
  | (walk_at "r0"; repeat walk_at "rn"))
local macro_rules | `(tactic| left) => `(tactic| try walk_at "jd")
local macro_rules | `(tactic| walk_at "jt") => `(tactic| first | (walk_at "l2"; try walk_at "l3") | walk_at "l3")
local macro_rules | `(tactic| walk_at "jg") => `(tactic| repeat (first|walk_at "jd"|walk_at "gj"))
theorem yW:AD (ys++[z]).length (-1)=some ys.length:=by
 unfold AD;rw[if_neg ∅,if_pos (by simp;lia)];congr 1;simp;lia
theorem kU:hX (ys++[z]) (-1)=some z:=by
 unfold hX;rw[yW];simp
theorem IP{α:Type}{ys:List α}{z y:α}:(ys++[z]).set ys.length y=ys++[y]:=by simp
theorem xf{o c:HO}:upd (upd H a o) a c=upd H a c:=by
 funext b;by_cases h:b=a
 ·subst h;rw[af,af]
 ·rw[ay h,ay h,ay h]
def gf(H:Hp)(p:Addr):Prop:=∃xs:List Int,H p=some (.lst (xs.map V.int))/\1<=xs.length
structure Step(p:Addr)(H H':Hp):Prop where
 gH:gf H' p
 rest:∀b o,H b=some o->b≠p->H' b=some o
theorem Step.refl(h:gf H p):Step p H H:=⟨h,λ_ _ e _=>e⟩
theorem Step.trans(a:Step p H H1)(b:Step p H1 H2):Step p H H2:=⟨b.gH,λc o e n=>b.rest c o (a.rest c o e n) n⟩
theorem gf.same(s:au H H')(h:gf H p):gf H' p:=by
 obtain⟨a,e,h⟩:=h;calc⟨a,s _ _ e,h⟩
theorem Step.same(a:Step p H H1)(b:au H1 H2):Step p H H2:=⟨a.gH.same b,λc o e n=>b _ _ (a.rest c o e n)⟩
theorem Step.set(a:Step p H H1)(xs:List Int)(h:1<=xs.length):Step p H (upd H1 p (.lst (xs.map V.int))):=
 ⟨⟨xs,af,h⟩,λc o e n=>by rw[ay n];calc a.rest c o e n⟩
theorem Step.new{q:Addr}(a:Step p H H1){o:HO}(b:H1 q=none):Step p H (upd H1 q o):=a.same (au.new o b)
theorem Step.aS(a:Step p H H1)(c:gf H p):cm H H1:=λb d e=>a.rest b _ e λz=>by
 subst z;obtain⟨a,h,_⟩:=c;rw[h]at e;cases e
theorem Step.ne{q:Addr}(c:gf H p)(b:H q=none):q≠p:=λz=>by
 subst z;obtain⟨a,h,_⟩:=c;rw[h]at b;cases b
theorem Step.over(s:au H0 H1)(a:H0 p=none)(st:Step p H1 H2):au H0 H2:=λb o e=>st.rest b o (s b o e) (av e a)
theorem gf.upd{q:Addr}{o:HO}(h:gf H p)(b:p≠q):gf (upd H q o) p:=by
 obtain⟨a,e,h⟩:=h;calc⟨a,by rw[ay b];calc e,h⟩
abbrev mS:Stmt:=top 23
def iY:Sp:=λvs H Q _=>∃x t,vs=[x]/\Kd H x t/\Q (.bl (isI x)) H
theorem Bj(D:dq K mg "is_whole" "is_whole" mS ["thing"])(T:Tx K mg C CN CR F FD):Def P w K mg base "is_whole" 1 ["thing"] iY:=by
 have sc:aE ["thing"] ["thing"] (aA mS):=by walk_at "s"
 symm;obtain⟨x,t,rfl,a,q⟩:=h;have d:=hr.units;refine⟨_,(ao (aH (i8 (bb eB rfl T.aX ua (ag (aq 0) (ag (dC (v:=.ty "int") rfl T.yT Yw rfl) aa))) (gK (Pk (bb eB rfl T.aX ua (ag (aq 0) (ag (dC (v:=.ty "bool") rfl T.Bh PyProof.Rows.boot_bool rfl) aa)))))))),?_⟩;walk_at "rd";obtain⟨b,c,d,e,g⟩:=QJ (K:=K) a;refine dy t b a.ty d ?_;rw[g] at q
 cases b
 ·rw[if_neg Bool.false_ne_true];exact q
 ·rw[if_pos rfl];calc⟨t,c,a.ty,e,q⟩
abbrev kW:Stmt:=top 24
def cp:Sp:=λvs H Q _=>∃x t a b,vs=[x,.int a,.int b]/\Kd H x t/\Q (.bl (inR a b x)) H
theorem yX(D:dq K mg "is_within" "is_within" kW ["thing","low","beyond"])(T:Tx K mg C CN CR F FD)(j:Def P w K mg base "is_whole" 1 ["thing"] iY):Def P w K mg base "is_within" 2 ["thing","low","beyond"] cp:=by
  have sc:aE ["thing","low","beyond"] ["thing","low","beyond"] (aA kW):=by walk_at "s"
  symm;obtain⟨x,t,a,b,rfl,g,q⟩:=h;have k:=hr.units;refine⟨_,(ao (aH (i8 (aN j hr (ag (aq 0) aa)) (gK (x9 wG fm (aq 1) (aq 0) (aq 2)))))),?_⟩;walk_at "rd";refine dy x t rfl g ?_
  cases g<;>first
    | (rename_i i
       show ∃c,V.bl true=.bl c/\_;calc⟨true,rfl,?_⟩;rw[if_pos rfl];walk_at "rd";by_cases d:a<=i
       · rw[if_pos (by simpa using d)];have e:inR a b (.int i)=decide (i < b):=by simp[inR,d]
         rw[e]at q;exact q
       · rw[if_neg (by simpa using d)];have e:inR a b (.int i)=false:=by simp[inR,d]
         rw[e] at q;calc q)
    | (show ∃c,V.bl false=.bl c/\_
       calc⟨false,rfl,?_⟩;rw[if_neg Bool.false_ne_true];calc q)
abbrev sT:Stmt:=top 60
def NS(K:W.Frag):Sp:=λvs H Q _=>∃(a:Addr) (ns:List Int) (k:Int),vs=[.ref a,.int k]/\aT K H a (ns.map V.int)/\0<=k/\∀c,Q (.int c) H
theorem IQ(D:dq K mg "_law_at" "_law_at" sT ["_law_script","_law_k"])(T:Tx K mg C CN CR F FD):Def P w K mg base "_law_at" 1 ["_law_script","_law_k"] (NS K):=by
 have sc:aE ["_law_script","_law_k"] ["_law_script","_law_k"] (aA sT):=by walk_at "s"
 symm;obtain⟨a,ns,k,rfl,b,c,q⟩:=h;have e:=hr.units;refine⟨_,(aj (aU (aC fm (aq 1) (bb aM rfl T.bX S' (ag (aq 0) aa)) (aG _)) (ao (aH (ak e (aq 0) (aq 1)))) aJ)
  (ao (aH ai))),?_⟩
 walk_at "rd";refine bL _ (.inl ⟨_,b,rfl⟩) ?_;rw[List.length_map];by_cases d:k<(ns.length:Int)
 ·rw[if_pos (by simpa using d)];obtain⟨n,rfl⟩:=Y' c;have e:n < ns.length:=by lia
  exact⟨_,.int ns[n],.inl b,az (by rw[List.getElem?_map,di e];rfl),q _⟩
 ·rw[if_neg (by simpa using d)];calc q _
abbrev pT:Stmt:=top 61
def IS:Sp:=λvs H Q _=>∃n:Int,vs=[.int n]/\∀(p:Addr) (xs:List Int),H p=none->1<=xs.length->Q (.ref p) (upd H p (.lst (xs.map V.int)))
theorem EI(D:dq K mg "_law_pot" "_law_pot" pT ["_law_cell"])(T:Tx K mg C CN CR F FD):Def P w K mg base "_law_pot" 1 ["_law_cell"] IS:=by
 have sc:aE ["_law_cell","_law_number","_law_pot_here","_law_k"] ["_law_cell"] (aA pT):=by walk_at "s"
 symm;obtain⟨n,rfl,q⟩:=h;have c:=hr.units;refine⟨_,(aj (ba (i:=1) sc.nd rfl Sort (aQ cQ (aQ ck (aQ dD (aq 0) ai) ai) ai))
  (aj (ba (i:=2) sc.nd rfl Sort (bD (ag ai aa)))
  (aj (fg PassesOwn.never rfl (cP rfl T.dY (ag ai aa)) (bf (i:=3) sc.nd rfl Sort)
  (aj (ba (i:=1) sc.nd rfl Sort (aQ ck (aQ cQ (aQ cQ (aQ mi (aq 1) (aq 1)) (aQ mi ai (aq 1))) (aq 3)) ai))
  (ao (fC (aQ cQ (aQ mi (ak c (aq 2) ai) ai) (aq 1)) (i9 (aq 2) ai eF)))))
  (aj (aU (PW.pt (pw_and (aC (aV c) (aQ ck (aq 0) ai) ai (aG _)) (pw_and1 (aC (eR c) (aQ dD (aq 0) ai) ai (aG _))))) (ao (bW (dF ma og oh bN (aq 2) (ag (aQ dD (aq 0) ai) aa)))) aJ)
  (ao (aH (aq 2))))))),?_⟩
 right;have d:He n 2:=⟨∅,∅⟩
 calc iR d ∅ ?_;right;calc⟨by show 1<=sizeLine;decide,λp e=>?_⟩;have c:=aa2 (n/2) (b:=2147483629) ∅;have c:=aaJ (n/2) (b:=2147483629) ∅;refine⟨40,rfl,∅,∅,gm (n:=40) (λi σ H'=>∃(u a:Int) (z:Option V),0<=u/\u<2147483648/\σ=[some (.int n),some (.int u),some (.ref p),z]/\H'=upd H p (.lst [.int a])) ?_ ?_ ?_⟩
 ·exact⟨_,0,none,(),(),rfl,rfl⟩
 ·intro i σ H' o k;obtain⟨u,a,z,g,l,rfl,rfl⟩:=k;right;calc⟨.inl ⟨(),()⟩,?_⟩;right;calc iR (.inl ⟨(),()⟩) ∅ ?_;right;calc aZ af (az (j:=0) rfl) ?_;right;calc⟨.inr ⟨∅,∅⟩,?_⟩;right;calc dy _ 0 af rfl ?_;right;have c:=aa2 (u*u+48271*u+(0+(i:Int))) (b:=2147483647) ∅;have k:=aaJ (u*u+48271*u+(0+(i:Int))) (b:=2147483647) ∅;exact⟨_,_,_,c,(),⟨rfl,rfl⟩,xf⟩
 ·intro σ H' m;obtain⟨u,a,z,g,l,rfl,rfl⟩:=m;right;calc⟨∅,?_⟩;right;split
  ·calc⟨d,?_⟩;right;split
   ·calc iR (.inl ⟨rfl,_,aT.of af⟩) d ?_;right;calc hV _ af (aI nofun) ?_;right;rw[xf];exact q p [a,n/2] e nofun
   ·right;exact q p [a] e nofun
  ·right;calc q p [a] e nofun
abbrev kX:Stmt:=top 62
def jO:Sp:=λvs H Q _=>∃(p:Addr) (m:Int),vs=[.ref p,.int m]/\gf H p/\0<m/\m.natAbs.log2<9000/\∀d H',0<=d->d<m->Step p H H'->Q (.int d) H'
theorem yY(D:dq K mg "_law_digit" "_law_digit" kX ["_law_pot_here","_law_many"])(T:Tx K mg C CN CR F FD):Def P w K mg base "_law_digit" 1 ["_law_pot_here","_law_many"] jO:=by
 have sc:aE ["_law_pot_here","_law_many","_law_digit_here"] ["_law_pot_here","_law_many"] (aA kX):=by walk_at "s"
 symm;obtain⟨p,m,rfl,k,g,r,q⟩:=h;have j:=hr.units;refine⟨_,(aj (ba (i:=2) sc.nd rfl Sort (aQ ck (ak j (aq 0) (kq gL ai)) (aq 1)))
  (aj (fC (aQ dD (ak j (aq 0) (kq gL ai)) (aq 1)) (i9 (aq 0) (kq gL ai) eF))
  (aj (aU (PW.pt (pw_and (aC (aV j) (ak j (aq 0) (kq gL ai)) ai (aG _)) (pw_and1 (aC mL (bb aM rfl T.bX S' (ag (aq 0) aa)) ai (aG _))))) (ao (bW (Qb ma PySem.F.slot_list_pop PySem.F.type_list_pop Qc (aq 0)))) aJ)
  (ao (aH (aq 2)))))),?_⟩
 nofun;obtain⟨l,c,t⟩:=id k;obtain⟨ys,z,rfl⟩:∃ys z,l=ys++[z]:=⟨l.dropLast,l.getLast (by intro e;rw[e]at t;simp at t),(List.dropLast_concat_getLast _).symm⟩
 rw[List.map_append]at c
 replace c:H p=some (.lst (ys.map V.int++[.int z])):=c
 ac_rfl;have d:Step p H H:=Step.refl k;right;calc dy _ _ (.inl (aT.of c)) kU ?_;right;calc⟨g,?_⟩;right;calc dy _ _ (.inl (aT.of c)) kU ?_;right;calc⟨⟨g,r⟩,?_⟩;right;calc dy _ _ c yW ?_;rw[IP];calc dy _ _ (.inl (aT.of af)) kU ?_;have n:=aa2 z (b:=m) ();have o:=aaJ z g;have u:Step p H (upd H p (.lst (ys.map V.int++[.int (z/m)]))):=by
  have:=d.set (ys++[z/m]) nofun;rw[List.map_append]at this;exact this
 right;split
 ·calc bL _ (.inl ⟨_,aT.of af,rfl⟩) ?_;right;split
  ·rename_i a;have a:1<=ys.length:=by
    simp at a;lia
   calc⟨.inl ⟨rfl,_,aT.of af⟩,?_⟩;calc⟨p,_,.int (z/m),rfl,rfl,af,nofun,?_⟩;right;rw[List.dropLast_concat,xf];exact q _ _ n o (d.set ys a)
  ·right;exact q _ _ n o u
 ·right;calc q _ _ n o u
theorem Bk:Lh 10 60:=⟨∅,∅,⋯⟩
theorem Q5:Lh 10 12:=⟨∅,∅,⋯⟩
theorem Q6:Gx 2 (10^Int.toNat 60):=.inl ⟨⋯,⋯⟩
theorem VT:(0:Int)<2*10^Int.toNat 60-1:=by decide +kernel
theorem VU:(2*10^Int.toNat 60-1:Int).natAbs.log2<9000:=by decide +kernel
theorem Q7:(0:Int)<10^Int.toNat 60:=by decide +kernel
theorem Q8:(10^Int.toNat 60:Int).natAbs.log2<9000:=by decide +kernel
theorem VW:(0:Int)<10^Int.toNat 12-1:=by decide +kernel
theorem Q9:(10^Int.toNat 12-1:Int).natAbs.log2<9000:=by decide +kernel
theorem dig{m:Int}{E:XK}(a:gf H p)(b:0<m)(c:m.natAbs.log2<9000)(q:∀d H',0<=d->d<m->Step p H H'->Q (.int d) H'):jO [.ref p,.int m] H Q E:=⟨p,m,rfl,a,b,c,q⟩
theorem Ml{H:Hp}{n:Nat}{x:V}{d:List DV}(h:HD H n x (.tup d)):∃k a xs,x=.ref a/\H a=some (.tup xs)/\xs.length=d.length/\∀(i:Nat) u e,xs[i]?=some u->d[i]?=some e->HD H k u e:=by
 cases h with
 |tup a b c=>calc⟨_,_,_,rfl,a,b,c⟩
abbrev mT:Stmt:=top 29
def IU:Sp:=λvs H Q _=>∃x m n d,vs=[x,.int m]/\HD H n x d/\∀H',au H H'->Q (.bl (Eu m d)) H'
theorem Mm{K:W.Frag}{H:Hp}{n:Nat}{x:V}{d:DV}(h:HD H n x d)(a:∀c,d≠.tup c):∃t,gM K H x t/\W.kitOne K t (.type "tuple")=some false:=by
 cases h with
 |bI=>calc⟨_,.bI,rfl⟩
 |bl b=>calc⟨_,.bl b,rfl⟩
 |int i=>calc⟨_,.int i,rfl⟩
 |str x=>calc⟨_,.str x,rfl⟩
 |tup e=>calc absurd rfl (a _)
 |lst e=>calc⟨_,.lst e,rfl⟩
 |dict e=>calc⟨_,.dK e,rfl⟩
theorem Mn{K:W.Frag}{H:Hp}{n:Nat}{x:V}{d:DV}(h:HD H n x d)(a:∀s,d≠.str s):∃t,gM K H x t/\W.kitOne K t (.type "str")=some false:=by
 cases h with
 |bI=>calc⟨_,.bI,rfl⟩
 |bl b=>calc⟨_,.bl b,rfl⟩
 |int i=>calc⟨_,.int i,rfl⟩
 |str x=>calc absurd rfl (a _)
 |tup e=>calc⟨_,.tup e,rfl⟩
 |lst e=>calc⟨_,.lst e,rfl⟩
 |dict e=>calc⟨_,.dK e,rfl⟩
theorem Mo{m:Int}{d:DV}(b:∀a,d≠.tup a):Eu m d=false:=by
 cases d with
 |tup a=>calc absurd rfl (b a)
 |_=>rfl
theorem IV{m:Int}{d:DV}{r:List DV}(a:∀s,d≠.str s):Eu m (.tup (d::r))=false:=by
 cases d with
 |str s=>calc absurd rfl (a s)
 |_=>rfl
theorem Bl(D:dq K mg "is_value" "is_value" mT ["thing","many"])(T:Tx K mg C CN CR F FD)(X:Def P w K mg base "is_whole" 1 ["thing"] iY)(Y:Def P w K mg base "is_within" 2 ["thing","low","beyond"] cp):Def P w K mg base "is_value" 3 ["thing","many"] IU:=by
 have sc:aE ["thing","many","word"] ["thing","many"] (aA mT):=by walk_at "s"
 symm;obtain⟨x,m,n,d,rfl,G,q⟩:=h;have k:=hr.units;refine⟨_,(aj (aU (PW.pt (pw_or (cL (bG (bb eB rfl T.aX ua (ag (aq 0) (ag (dC (v:=.ty "tuple") rfl T.cJ uN rfl) aa))))) (pw_or (aC (aV k) (bb aM rfl T.bX S' (ag (aq 0) aa)) ai (aG _)) (pw_or1 (cL (bG (bb eB rfl T.aX ua (ag (ak k (aq 0) ai) (ag (dC (v:=.ty "str") rfl T.CL PyProof.Rows.boot_str rfl) aa))))))))) (ao (aH iW)) aJ)
  (aj (ba (i:=2) sc.nd rfl Sort (ak k (aq 0) ai))
  (aj (aU (aC Hl (aq 2) (bA (ag aD (ag aD (ag aD aa)))) (by with_unfolding_all rfl)) (ao (aH (fA (aV k) (bb aM rfl T.bX S' (ag (aq 0) aa)) ai (aG _)))) aJ)
  (aj (aU (aC (eR k) (bb aM rfl T.bX S' (ag (aq 0) aa)) ai (aG _)) (ao (aH iW)) aJ)
  (aj (aU (aC (aV k) (aq 2) aD (aG _)) (ao (aH (aN X hr (ag (ak k (aq 0) ai) aa)))) aJ)
  (ao (aH (i8 (fA (aV k) (aq 2) aD (aG _)) (gK (aN Y hr (ag (ak k (aq 0) ai) (ag ai (ag (aq 1) aa))))))))))))),?_⟩
 walk_at "rd";by_cases I:∀l,d≠.tup l
 ·obtain⟨t,o,N⟩:=Mm (K:=K) G I;calc dy t false o N ?_;rw[Mo I]at q;exact q H (au.refl H)
 ·have:∃l,d=.tup l:=Classical.byContradiction λz=>I λl e=>z ⟨l,e⟩;nofun;obtain⟨l,rfl⟩:=this;obtain⟨n,a,Z,rfl,B,O,U⟩:=Ml G;calc hZ ?_;clear hZ gZ G I
  ·skip
   refine⟨.type "tuple",true,.tup B,rfl,?_⟩;simp only[Bool.not_true,Bool.false_eq_true,if_false];refine bL _ (.inr ⟨_,bJ.of B,rfl⟩) ?_;right;rcases l with _|⟨R,b⟩<;>rcases Z with _|⟨x0,J⟩
   ·exact q H (au.refl H)
   ·cases O
   ·cases O
   ·skip
    rw[if_neg (by simp;lia)];calc dy _ _ (.inr (bJ.of B)) (az (j:=0) rfl) ?_;have W:=U 0 x0 R rfl rfl;by_cases k:∀s,R≠.str s
    ·obtain⟨t,o,N⟩:=Mn (K:=K) W k;calc dy t false o N ?_;rw[IV k]at q;exact q H (au.refl H)
    ·have:∃s,R=.str s:=Classical.byContradiction λz=>k λl e=>z ⟨l,e⟩;nofun;obtain⟨g,rfl⟩:=this;obtain rfl:=W.cS;ac_rfl;refine⟨.type "str",true,.str _,rfl,?_⟩;simp only[Bool.not_true,Bool.false_eq_true,if_false];refine dy _ _ (.inr (bJ.of B)) (az (j:=0) rfl) ?_;right;refine⟨∅,λp k=>?_⟩;have r:au H (upd H p (.tup [.str "letter",.str "way",.str "first"])):=au.new _ k;have L:=r _ _ B;refine QU _ (.inr (bJ.of af)) rfl rfl ?_;right;have u:J.length=b.length:=by simpa using O
     by_cases M:yd (.str g) sI=true
     ·have S:Eu m (.tup (.str g::b))=decide (b.length=0):=by
       show(if yd (.str g) sI=true then decide (b.length=0) else _)=_;rw[if_pos M]
      rw[if_pos (show yd (.str g) [.str "letter",.str "way",.str "first"]=true from M)];refine bL _ (.inr ⟨_,bJ.of L,rfl⟩) ?_;right;have e:decide (((J.length+1:Nat):Int)=1)=decide (b.length=0):=by
       rw[u];by_cases z:b.length=0
       ·rw[decide_eq_true z,decide_eq_true ()]
       ·rw[decide_eq_false z,decide_eq_false ()]
      rw[S]at q;have c:=q _ r;rw[<-e]at c;exact c
     ·have S:Eu m (.tup (.str g::b))=L8 g m b:=by
       show(if yd (.str g) sI=true then decide (b.length=0) else _)=_;rw[if_neg M]
      rw[if_neg (show ¬yd (.str g) [.str "letter",.str "way",.str "first"]=true from M)];refine bL _ (.inr ⟨_,bJ.of L,rfl⟩) ?_;right;rw[S]at q;rcases b with _|⟨z,_|⟨z',b⟩⟩<;>rcases J with _|⟨y,_|⟨k,J⟩⟩
      ·rw[if_pos nofun];exact q _ r
      ·cases u
      ·cases u
      ·cases u
      ·skip
       rw[if_neg nofun];have o:=(U 1 y z rfl rfl).same r;obtain⟨t,l⟩:=Vy o;by_cases b:g="is"
       ·rw[if_pos (by simpa using b)];calc⟨_,_,.inr (bJ.of L),rfl,y,t,rfl,l,?_⟩;have c:=q _ r;simp only[L8,if_pos b]at c;rw[QL o];exact c
       ·rw[if_neg (by simpa using b)];have c:=q _ r;simp only[L8,if_neg b] at c;by_cases k:g="number"
        ·rw[if_pos (by simpa using k)];calc⟨_,_,.inr (bJ.of L),rfl,y,t,0,m,rfl,l,?_⟩;rw[decide_eq_true k,Bool.true_and]at c;rw[QM o];exact c
        ·rw[if_neg (by simpa using k)];rw[decide_eq_false k,Bool.false_and]at c;exact c
      ·simp at u
      ·cases u
      ·simp at u
      ·rw[if_pos (by simp;lia)];calc q _ r
abbrev pU:Stmt:=top 25
def mU:Sp:=λvs H Q _=>∃(a:Addr) (xs:List V) (b c:Int),vs=[.ref a,.int b,.int c]/\(H a=some (.lst xs)\/H a=some (.tup xs))/\∀H',au H H'->Q (.bl (decide (b<=(xs.length:Int))&&decide ((xs.length:Int)<=c))) H'
theorem EJ(D:dq K mg "is_list" "is_list" pU ["things","least","most"])(T:Tx K mg C CN CR F FD):Def P w K mg base "is_list" 1 ["things","least","most"] mU:=by
 have sc:aE ["things","least","most"] ["things","least","most"] (aA pU):=by walk_at "s"
 symm;obtain⟨a,d,g,i,rfl,b,q⟩:=h;have i:=hr.units;refine⟨_,(ao (aH (i8 (bb eB rfl T.aX ua (ag (aq 0) (ag (bA (ag (dC (v:=.ty "list") rfl T.ft Aj rfl) (ag (dC (v:=.ty "tuple") rfl T.cJ uN rfl) aa))) aa))) (gK (x9 wG wG (aq 1) (bb aM rfl T.bX S' (ag (aq 0) aa)) (aq 2)))))),?_⟩;right;refine⟨cf,λp i=>?_⟩;have c:au H (upd H p (.tup [.ty "list",.ty "tuple"])):=au.new _ i;have e:∃t,gM K (upd H p (.tup [.ty "list",.ty "tuple"])) (.ref a) t/\W.kitAny K t [.type "list",.type "tuple"]=some true/\GB K (.ref a) (upd H p (.tup [.ty "list",.ty "tuple"])) d.length:=by
  rcases b with b|b
  ·exact⟨_,.lst (c _ _ b),rfl,.inl ⟨_,aT.of (c _ _ b),rfl⟩⟩
  ·exact⟨_,.tup (c _ _ b),rfl,.inr ⟨_,bJ.of (c _ _ b),rfl⟩⟩
 obtain⟨t,i,j,k⟩:=e;calc VF t true _ _ i af rfl j ?_;rw[if_pos rfl];calc bL _ k ?_;have b:=q _ c;by_cases h:g<=(d.length:Int)
 ·rw[if_pos (by simpa using h)];rw[decide_eq_true h,Bool.true_and]at b;exact b
 ·rw[if_neg (by simpa using h)];rw[decide_eq_false h,Bool.false_and]at b;calc b
abbrev pV:Stmt:=top 35
def CQ(K:W.Frag):Sp:=λvs H Q _=>∃d:bC,vs=[.str d.word]/\∀p,bJ K H p (d.uk.map V.str)->Q (.ref p) H
theorem EK(D:dq K mg "form_of" "form_of" pV ["word"])(T:Tx K mg C CN CR F FD):Def P w K mg base "form_of" 1 ["word"] (CQ K):=by
 have sc:aE ["word"] ["word"] (aA pV):=by walk_at "s"
 symm;obtain⟨d,rfl,q⟩:=h;have a:=hr.units;calc⟨_,(ao (aH (LU T.CP rfl T.CM (ag (aq 0) aa)))),?_⟩;obtain⟨p,a,b⟩:=T.NR d;show Q ((PyProof.Rows.KTD.datumAt d.word FD).getD .bI) H;rw[a];calc q p (b H)
abbrev pW:Stmt:=top 36
inductive j3(H:Hp)(m:Int):V->Str->Prop
 |value {n x v}:HT H n x (Val.dv v)->v.ok m->j3 H m x "value"
 |number {i}:0<=i->i<m->j3 H m (.int i) "number"
 |many {i}:1<=i->i<25->j3 H m (.int i) "many"
 |way {i}:0<=i->j3 H m (.int i) "way"
theorem j3.same{H H':Hp}{m:Int}{x:V}{w:Str}(s:au H H')(h:j3 H m x w):j3 H' m x w:=by
 cases h with
 |value a b=>calc .value (a.aK s.aS) b
 |number a b=>calc .number a b
 |many a b=>calc .many a b
 |way a=>calc .way a
def CS:Sp:=λvs H Q _=>∃x w m,vs=[x,.str w,.int m]/\j3 H m x w/\∀H',au H H'->Q (.bl true) H'
theorem EL(D:dq K mg "is_part" "is_part" pW ["thing","sort","many"])(T:Tx K mg C CN CR F FD)(d:Def P w K mg base "is_value" 3 ["thing","many"] IU)(g:Def P w K mg base "is_whole" 1 ["thing"] iY)(b:Def P w K mg base "is_within" 2 ["thing","low","beyond"] cp):Def P w K mg base "is_part" 4 ["thing","sort","many"] CS:=by
 have sc:aE ["thing","sort","many"] ["thing","sort","many"] (aA pW):=by walk_at "s"
 symm;obtain⟨x,w,m,rfl,c,q⟩:=h;have a:=hr.units;refine⟨_,(aj (aU (aC (aV a) (aq 1) aD (aG _)) (ao (aH (aN d hr (ag (aq 0) (ag (aq 2) aa))))) aJ)
  (aj (aU (aC (aV a) (aq 1) aD (aG _)) (ao (aH (aN b hr (ag (aq 0) (ag ai (ag (aq 2) aa)))))) aJ)
  (aj (aU (aC (aV a) (aq 1) aD (aG _)) (ao (aH (aN b hr (ag (aq 0) (ag ai (ag (aQ cQ (fV T.dZ rfl) ai) aa)))))) aJ)
  (ao (aH (i8 (aN g hr (ag (aq 0) aa)) (gK (fA wH (aq 0) ai (aG _))))))))),?_⟩
 right
 cases c with
 | @value n x v a b=>
  rw[if_pos ⋯];calc gc x m n _ rfl a.hd (λH' s=>?_);rw[QN b];calc q H' s
 | @number i a b=>
  rw[if_neg ⋯,if_pos ⋯];calc gc (.int i) _ 0 m rfl (.int i) ?_;have e:inR 0 m (.int i)=true:=by simp[inR,a,b]
  rw[e];calc q H (au.refl H)
 | @many i a b=>
  rw[if_neg ⋯,if_neg ⋯,if_pos ⋯];calc gc (.int i) _ 1 _ rfl (.int i) ?_;have e:inR 1 (24+1) (.int i)=true:=by simp[inR,a];lia
  rw[e];calc q H (au.refl H)
 | @way i a=>
  rw[if_neg ⋯,if_neg ⋯,if_neg ⋯];calc⟨.int i,_,rfl,.int i,true,rfl,?_⟩;rw[if_pos rfl];have e:decide ((0:Int)<=i)=true:=decide_eq_true a;right;rw[e];calc q H (au.refl H)
abbrev pX:Stmt:=top 37
theorem abf{x:V}{a:List V}:fe (x::a) (some 1) none=a:=by
 unfold fe;have e:HT.eO (x::a).length 0 (some 1)=1:=by
  show(if (1:Int)<0 then((1:Int)+((x::a).length:Int)).toNat else min (1:Int).toNat (x::a).length)=1;rw[if_neg ∅];show min 1 (a.length+1)=1;lia
 rw[e];show List.take ((x::a).length-1) a=a;simp
theorem sU{H:Hp}{n:Nat}{x:V}{d:bC}{m:Int}(h:HT H n x d.dv)(f:d.ok m):∃a q,x=.ref a/\H a=some (.tup (.str d.word::q))/\q.length=d.uk.length/\∀(i:Nat) p s,q[i]?=some p->d.uk[i]?=some s->j3 H m p s:=by
 cases d with
 |set i v=>
  nofun;obtain⟨a,u,y,z,k,rfl,e,g,l,o⟩:=bU h;obtain rfl:=g.cS;obtain rfl:=l.cy;ac_rfl;refine ur a _ rfl e rfl (λj p s b c=>?_)
  match j,b,c with
  |0,b,c=>cases b;cases c;calc .number f.1 f.2.1
  |1,b,c=>cases b;cases c;calc .value o f.2.2
 |add i v=>
  nofun;obtain⟨a,u,y,z,k,rfl,e,g,l,o⟩:=bU h;obtain rfl:=g.cS;obtain rfl:=l.cy;ac_rfl;refine ur a _ rfl e rfl (λj p s b c=>?_)
  match j,b,c with
  |0,b,c=>cases b;cases c;calc .number f.1 f.2.1
  |1,b,c=>cases b;cases c;calc .value o f.2.2
 |times i v=>
  nofun;obtain⟨a,u,y,z,k,rfl,e,g,l,o⟩:=bU h;obtain rfl:=g.cS;obtain rfl:=l.cy;ac_rfl;refine ur a _ rfl e rfl (λj p s b c=>?_)
  match j,b,c with
  |0,b,c=>cases b;cases c;calc .number f.1 f.2.1
  |1,b,c=>cases b;cases c;calc .value o f.2.2
 |put v=>
  nofun;obtain⟨a,u,y,k,rfl,e,g,l⟩:=cw h;obtain rfl:=g.cS;ac_rfl;refine ur a _ rfl e rfl (λj p s b c=>?_)
  match j,b,c with
  |0,b,c=>cases b;cases c;calc .value l f
 |drop=>
  nofun;obtain⟨a,u,k,rfl,e,g⟩:=jb h;obtain rfl:=g.cS;ac_rfl;calc⟨a,_,rfl,e,rfl,λj p s b c=>by simp at b⟩
 |send j v=>
  nofun;obtain⟨a,u,y,z,k,rfl,e,g,l,o⟩:=bU h;obtain rfl:=g.cS;obtain rfl:=l.cy;ac_rfl;refine ur a _ rfl e rfl (λj p s b c=>?_)
  match j,b,c with
  |0,b,c=>cases b;cases c;calc .way f.1
  |1,b,c=>cases b;cases c;calc .value o f.2
 |say v=>
  nofun;obtain⟨a,u,y,k,rfl,e,g,l⟩:=cw h;obtain rfl:=g.cS;ac_rfl;refine ur a _ rfl e rfl (λj p s b c=>?_)
  match j,b,c with
  |0,b,c=>cases b;cases c;calc .value l f
 |skip v w i=>
  nofun;obtain⟨a,u,y,z,t,k,rfl,e,g,l,o,r⟩:=oO h;obtain rfl:=g.cS;obtain rfl:=r.cy;ac_rfl;refine ur a _ rfl e rfl (λj p s b c=>?_)
  match j,b,c with
  |0,b,c=>cases b;cases c;calc .value l f.1
  |1,b,c=>cases b;cases c;calc .value o f.2.1
  |2,b,c=>cases b;cases c;calc .many f.2.2.1 f.2.2.2
theorem Bm:d.uk.length<=3:=by cases d<;>simp[bC.uk]
def vB:Sp:=λvs H Q _=>∃x m n d,vs=[x,.int m]/\HT H n x (bC.dv d)/\d.ok m/\∀H',au H H'->Q (.bl true) H'
theorem EM(D:dq K mg "is_deed" "is_deed" pX ["thing","many"])(T:Tx K mg C CN CR F FD)(l:Def P w K mg base "form_of" 1 ["word"] (CQ K))(R:Def P w K mg base "is_part" 4 ["thing","sort","many"] CS):Def P w K mg base "is_deed" 5 ["thing","many"] vB:=by
 have sc:aE ["thing","many","form"] ["thing","many"] (aA pX):=by walk_at "s"
 symm;obtain⟨x,m,n,d,rfl,I,L,q⟩:=h;have k:=hr.units;refine⟨_,(aj (aU (PW.pt (pw_or (cL (bG (bb eB rfl T.aX ua (ag (aq 0) (ag (dC (v:=.ty "tuple") rfl T.cJ uN rfl) aa))))) (pw_or (aC (aV k) (bb aM rfl T.bX S' (ag (aq 0) aa)) ai (aG _)) (pw_or1 (cL (bG (bb eB rfl T.aX ua (ag (ak k (aq 0) ai) (ag (dC (v:=.ty "str") rfl T.CL PyProof.Rows.boot_str rfl) aa))))))))) (ao (aH iW)) aJ)
  (aj (ba (i:=2) sc.nd rfl Sort (aN l hr (ag (ak k (aq 0) ai) aa)))
  (aj (aU (PW.pt (pw_or (aC AN (aq 2) kG (aG _)) (pw_or1 (aC (eR k) (bb aM rfl T.bX S' (ag (aq 0) aa)) (aQ cQ (bb aM rfl T.bX S' (ag (aq 2) aa)) ai) (aG _))))) (ao (aH iW)) aJ)
  (ao (aH (bb (jK rfl) rfl T.vz Ul (ag (dJ (N':=["part","sort","many"]) (ix:=[none,none,some 1]) (HL rfl T.II (ag (wU (aq 0) (me ai) rG) (ag (aq 2) aa))) (λ_ _ _ _=>(j0 (K:=K) rfl (i:=0) (j:=1) rfl (show(["part","sort","many"]:List Str).Nodup by decide +kernel) rfl rfl Sort Sort)) pS (λ_ _ _ _=>(aN R hr (ag (aq 0) (ag (aq 1) (ag (aq 2) aa)))))) aa))))))),?_⟩
 obtain⟨a,g,rfl,k,l,S⟩:=sU I L;have R:=Bm (d:=d);right;calc dy _ true (.tup k) rfl ?_;simp only[Bool.not_true,Bool.false_eq_true,if_false];calc bL _ (.inr ⟨_,bJ.of k,rfl⟩) ?_;rw[if_neg (by simp;lia)];calc⟨_,.str d.word,.inr (bJ.of k),az (j:=0) rfl,_,true,.str _,rfl,?_⟩;simp only[Bool.not_true,Bool.false_eq_true,if_false];calc⟨_,.str d.word,.inr (bJ.of k),az (j:=0) rfl,d,rfl,λp I=>?_⟩;right;rw[if_neg Bool.false_ne_true];calc⟨_,.inr ⟨_,bJ.of k,rfl⟩,_,.inr ⟨_,I,rfl⟩,?_⟩;rw[if_neg (by simp[l])];calc bV ?_;right;calc .inr ⟨_,k,λL H2 B o=>?_⟩;rw[abf]at o;have r:=B.SY I;calc gc false false _ _ (Sq.t o) r (λD M=>?_);refine bE (J:=YU false false K L p) (n:=g.length) (λi ys H'=>ys=List.replicate i (V.bl true)/\au H2 H') (P' (aI ())) ⟨rfl,au.new _ M⟩ ?_ ?_ ?_ ?_
 ·rintro i ys H' G ⟨_,c⟩;exact⟨g,d.uk.map V.str,g[i],.str (d.uk[i]'()),Sq.t (c _ _ o),c.SY r,di G,by rw[List.getElem?_map,di ()];rfl⟩
 ·rintro ys H' ⟨_,c⟩;exact⟨g,d.uk.map V.str,Sq.t (c _ _ o),c.SY r,.inl rfl⟩
 ·intro i ys H' G y N U x H4 W;nofun;obtain⟨rfl,c⟩:=U;obtain⟨T,X,rfl,Y⟩:=W;obtain⟨u,v,Z,O,rfl⟩:=Y g (d.uk.map V.str) (Sq.t (c _ _ o)) (c.SY r);rw[List.getElem?_map]at O;obtain⟨z,ez,rfl⟩:=Option.map_eq_some_iff.mp O;ac_rfl;have k:au H' (upd H' T (.tup [u,.str z])):=au.new _ X;calc yS (bJ.of af) ⟨Ext.set (Ext.set (Ext.refl _) rfl) rfl,?_⟩;right;rw[if_pos trivial];calc aba u z m rfl ((S i u z Z ez).same (B.trans (c.trans k))) (λn l=>?_);have r:n D=some (.lst (List.replicate i (V.bl true))):=l _ _ (k _ _ y);calc cD r N G (P' (aI ())) ⟨jL _ _,λb o e=>?_⟩;rw[ay (av e M)];exact l _ _ (k _ _ (c _ _ e))
 ·rintro ys H' y N ⟨rfl,c⟩;right;rw[pP] at y;calc bL _ (aT.of y) ?_;have e:(List.replicate g.length true).all id=true:=by simp
  rw[e];calc q _ (B.trans c)
abbrev je:Stmt:=top 43
def LT(H:Hp)(a:Addr)(xs:List V):Prop:=H a=some (.lst xs)\/H a=some (.tup xs)
theorem LT.same{xs:List V}(s:au H H')(h:LT H a xs):LT H' a xs:=h.elim (λz=>.inl (s _ _ z)) (λz=>.inr (s _ _ z))
theorem jP{K:W.Frag}(h:LT H a ys)(q:∀p H',au H H'->H' p=some (.tup ys)->Q (.ref p) H'):wI K [.ref a] H Q:=by
 rcases h with h|h
 ·exact .inl ⟨_,aT.of h,λl b=>q l _ (au.new _ b) af⟩
 ·calc .inr ⟨_,bJ.of h,q a H (au.refl H) h⟩
def sV:Sp:=λvs H Q _=>∃(a:Addr) (ns:List Int) (c b M:Int),vs=[.ref a,.int c,.int b,.int M]/\LT H a (ns.map V.int)/\c<=(ns.length:Int)/\(ns.length:Int)<=b/\b<=100/\(∀z∈ns,0<=z/\z<M)/\∀H',au H H'->Q (.bl true) H'
theorem uu(D:dq K mg "are_counted" "are_counted" je ["things","least","most","modulus"])(T:Tx K mg C CN CR F FD)(L:Def P w K mg base "is_list" 1 ["things","least","most"] mU)(N:Def P w K mg base "is_within" 2 ["thing","low","beyond"] cp):Def P w K mg base "are_counted" 3 ["things","least","most","modulus"] sV:=by
 have sc:aE ["things","least","most","modulus"] ["things","least","most","modulus"] (aA je):=by walk_at "s"
 symm;obtain⟨a,ns,B,G,M,rfl,g,I,m,v,y,q⟩:=h;have v:=hr.units;refine⟨_,(ao (aH (i8 (aN L hr (ag (aq 0) (ag (aq 1) (ag (aq 2) aa)))) (gK (bb (jK rfl) rfl T.vz Ul (ag (dJ (N':=["thing","modulus"]) (ix:=[none,some 3]) (cE (pv 0)) (λ_ _ _ _=>(bf (i:=0) (show(["thing","modulus"]:List Str).Nodup by decide +kernel) rfl Sort)) pS (λ_ _ _ _=>(aN N hr (ag (aq 0) (ag ai (ag (aq 1) aa)))))) aa)))))),?_⟩;right;refine gc a _ B G rfl g (λH1 k=>?_);rw[List.length_map,decide_eq_true I,decide_eq_true m];show ∃c,V.bl true=.bl c/\_;refine bL true rfl ?_;rw[if_pos rfl];refine bV ?_;right;rcases g with g | g
 ·calc .inl ⟨⟨_,aT.of (k _ _ g)⟩,λD p=>?_⟩;refine bE (J:=x6 K a) (n:=ns.length) (λi ys H'=>ys=List.replicate i (V.bl true)/\au H1 H') (P' (aI ())) ⟨rfl,au.new _ p⟩ ?_ ?_ ?_ ?_
  ·rintro i ys H' j ⟨_,d⟩;exact⟨_,.int ns[i],aT.of (d _ _ (k _ _ g)),by rw[List.getElem?_map,di j];rfl⟩
  ·rintro ys H' ⟨_,d⟩;exact⟨_,aT.of (d _ _ (k _ _ g)),nofun⟩
  ·intro i ys H' j l r O x R S;nofun;obtain⟨rfl,d⟩:=O;obtain⟨rfl,z⟩:=S;have t:=z _ (aT.of (d _ _ (k _ _ g)));rw[List.getElem?_map,di j] at t;obtain rfl:=Option.some.inj t;ac_rfl;calc⟨Ext.set (Ext.refl _) rfl,?_⟩;right;rw[if_pos trivial];calc gc (.int ns[i]) _ 0 M rfl (.int _) ?_;have u:=y ns[i] (aaa j);have e:inR 0 M (.int ns[i])=true:=by simp[inR,u.1,u.2]
   rw[e];calc cD l r j (P' (aI ())) ⟨jL _ _,λb o e=>?_⟩;rw[ay (av e p)];exact d _ _ e
  ·rintro ys H' l r ⟨rfl,d⟩;right;rw[pP] at l;calc bL _ (aT.of l) ?_;have e:(List.replicate ns.length true).all id=true:=by simp
   rw[e];exact q _ (k.trans d)
 ·calc .inr ⟨⟨_,bJ.of (k _ _ g)⟩,λD p=>?_⟩;refine bE (J:=Us K a) (n:=ns.length) (λi ys H'=>ys=List.replicate i (V.bl true)/\au H1 H') (P' (aI ())) ⟨rfl,au.new _ p⟩ ?_ ?_ ?_ ?_
  ·rintro i ys H' j ⟨_,d⟩;exact⟨_,.int ns[i],bJ.of (d _ _ (k _ _ g)),by rw[List.getElem?_map,di j];rfl⟩
  ·rintro ys H' ⟨_,d⟩;exact⟨_,bJ.of (d _ _ (k _ _ g)),nofun⟩
  ·intro i ys H' j l r U x R W;nofun;obtain⟨rfl,d⟩:=U;obtain⟨rfl,z⟩:=W;have t:=z _ (bJ.of (d _ _ (k _ _ g)));rw[List.getElem?_map,di j] at t;obtain rfl:=Option.some.inj t;ac_rfl;calc⟨Ext.set (Ext.refl _) rfl,?_⟩;right;rw[if_pos trivial];calc gc (.int ns[i]) _ 0 M rfl (.int _) ?_;have u:=y ns[i] (aaa j);have e:inR 0 M (.int ns[i])=true:=by simp[inR,u.1,u.2]
   rw[e];calc cD l r j (P' (aI ())) ⟨jL _ _,λb o e=>?_⟩;rw[ay (av e p)];exact d _ _ e
  ·rintro ys H' l r ⟨rfl,d⟩;right;rw[pP] at l;calc bL _ (aT.of l) ?_;have e:(List.replicate ns.length true).all id=true:=by simp
   rw[e];calc q _ (k.trans d)
abbrev gq:Stmt:=top 44
def CU:Sp:=λvs H Q _=>∃(M:Int) (a b ad:Addr) (ns row:List Int) (xs:List V),vs=[.int M,.ref a,.ref b,.ref ad]/\2<=M/\M<=1000000000000/\LT H a (ns.map V.int)/\LT H b (row.map V.int)/\LT H ad xs/\1<=ns.length/\ns.length<=4/\row.length<=12/\(∀z∈ns,0<=z/\z<M)/\(∀z∈row,0<=z/\z<M)/\∀H',au H H'->Q .bI H'
theorem p5(D:dq K mg "refuse_machine" "refuse_machine" gq ["modulus","numbers","row","deeds"])(T:Tx K mg C CN CR F FD)(b:Def P w K mg base "are_counted" 3 ["things","least","most","modulus"] sV)(r:Def P w K mg base "is_within" 2 ["thing","low","beyond"] cp):Def P w K mg base "refuse_machine" 4 ["modulus","numbers","row","deeds"] CU:=by
 have sc:aE ["modulus","numbers","row","deeds"] ["modulus","numbers","row","deeds"] (aA gq):=by walk_at "s"
 symm;obtain⟨M,c,d,ad,ns,row,u,rfl,g,x,i,j,k,y,B,G,l,m,q⟩:=h;have u:=hr.units;refine⟨_,(aj (aU (cL (bG (aN r hr (ag (aq 0) (ag ai (ag (aQ cQ (fV T.dN rfl) ai) aa)))))) (ao fu) aJ)
  (aj (aU (cL (bG (aN b hr (ag (aq 1) (ag ai (ag (fV T.dO rfl) (ag (aq 0) aa))))))) (ao fu) aJ)
  (aj (aU (cL (bG (aN b hr (ag (aq 2) (ag ai (ag (fV T.fG rfl) (ag (aq 0) aa))))))) (ao fu) aJ)
  (ao (aU (cL (bG (bb eB rfl T.aX ua (ag (aq 3) (ag (bA (ag (dC (v:=.ty "list") rfl T.ft Aj rfl) (ag (dC (v:=.ty "tuple") rfl T.cJ uN rfl) aa))) aa))))) (ao fu) aJ))))),?_⟩
 right;calc gc (.int M) _ 2 _ rfl (.int M) ?_;have e:inR 2 (1000000000000+1) (.int M)=true:=by simp[inR,g];lia
 rw[e];right;rw[if_neg ∅];calc VH c ns 1 4 M rfl i () () ∅ l (λH1 a=>?_);right;rw[if_neg ∅];calc VH d row 0 12 M rfl (j.same a) () () ∅ m (λH2 n=>?_);right;rw[if_neg ∅];calc⟨cf,λp b=>?_⟩;have o:au H2 (upd H2 p (.tup [.ty "list",.ty "tuple"])):=au.new _ b;have I:∃t,gM K (upd H2 p (.tup [.ty "list",.ty "tuple"])) (.ref ad) t/\W.kitAny K t [.type "list",.type "tuple"]=some true:=by
  rcases k.same (a.trans (n.trans o)) with z|z
  ·exact⟨_,.lst z,rfl⟩
  ·exact⟨_,.tup z,rfl⟩
 obtain⟨t,b,c⟩:=I;calc VF t true _ _ b af rfl c ?_;right;rw[if_neg ∅];calc q _ (a.trans (n.trans o))
abbrev ip:Stmt:=top 45
def DL(H:Hp)(n:Nat)(xs:List V)(a:List bC):Prop:=xs.length=a.length/\∀(i:Nat) x d,xs[i]?=some x->a[i]?=some d->HT H n x (bC.dv d)
theorem DL.aK{n:Nat}{xs:List V}{a:List bC}(s:cm H H')(h:DL H n xs a):DL H' n xs a:=⟨h.1,λi x d a b=>(h.2 i x d a b).aK s⟩
theorem DL.ht{n:Nat}{xs:List V}{b:List bC}(h:DL H n xs b)(e:H a=some (.tup xs)):HT H (n+1) (.ref a) (.tup (b.map bC.dv)):=by
 calc .tup e (by rw[List.length_map];calc h.1) λi u d f c=>?_;rw[List.getElem?_map]at c;obtain⟨dd,g,rfl⟩:=Option.map_eq_some_iff.mp c;calc h.2 i u dd f g
def CV:Sp:=λvs H Q _=>∃(a:Addr) (xs:List V) (b:List bC) (m:Int) (n:Nat),vs=[.ref a,.int m]/\LT H a xs/\DL H n xs b/\b.length<=24/\(∀d∈b,d.ok m)/\∀H',au H H'->Q .bI H'
theorem sX(D:dq K mg "refuse_deeds" "refuse_deeds" ip ["deeds","many"])(T:Tx K mg C CN CR F FD)(B:Def P w K mg base "is_deed" 5 ["thing","many"] vB):Def P w K mg base "refuse_deeds" 6 ["deeds","many"] CV:=by
 have sc:aE ["deeds","many","at","deed"] ["deeds","many"] (aA ip):=by walk_at "s"
 symm;obtain⟨a,c,e,m,n,rfl,d,g,G,u,q⟩:=h;have G:=hr.units;refine⟨_,(ao (fg PassesOwn.never rfl (jZ rfl T.dR (ag (aq 0) aa)) (ij (i:=2) (j:=3) rfl sc.nd rfl rfl Sort Sort)
  (ao (aU (PW.pt (pw_or (aC (aV G) (aq 2) (fV T.dZ rfl) (aG _)) (pw_or1 (cL (bG (aN B hr (ag (aq 3) (ag (aq 1) aa)))))))) (ao fu) aJ)))),?_⟩
 rcases d with d|d
 ·calc ED true c (Sq.l d) ?_;refine oF (xs:=c) (λi σ H'=>au H H'/\∃k o,σ=[some (.ref a),some (.int m),k,o]) ⟨au.refl H,none,none,rfl⟩ (λi σ H' ⟨b,_⟩=>Sq.l (b _ _ d)) ?_ ?_
  ·intro i x σ H1 T p I v;obtain⟨b,k,o,rfl⟩:=I;have y:i < c.length:=(List.getElem?_eq_some_iff.mp p).1;have hJ:i < e.length:=by rw[<-g.1];exact y
   have r:au H1 (upd H1 T (.tup [.int i,x])):=au.new _ v;calc yS (bJ.of af) ?_;right;rw[if_neg (by simp;lia)];calc⟨x,m,n,e[i],rfl,(g.2 i x e[i] p (di hJ)).aK (b.trans r).aS,u _ (aaa hJ),λJ z=>?_⟩;right
   first|rw[if_neg ∅]|skip
   exact⟨b.trans (r.trans z),_,_,rfl,rfl⟩
  ·rintro σ H1 ⟨b,_⟩;exact q _ b
 ·calc ED false c (Sq.t d) ?_;refine oF (xs:=c) (λi σ H'=>au H H'/\∃k o,σ=[some (.ref a),some (.int m),k,o]) ⟨au.refl H,none,none,rfl⟩ (λi σ H' ⟨b,_⟩=>Sq.t (b _ _ d)) ?_ ?_
  ·intro i x σ H1 T p L v;obtain⟨b,k,o,rfl⟩:=L;have y:i < c.length:=(List.getElem?_eq_some_iff.mp p).1;have hJ:i < e.length:=by rw[<-g.1];exact y
   have r:au H1 (upd H1 T (.tup [.int i,x])):=au.new _ v;calc yS (bJ.of af) ?_;right;rw[if_neg (by simp;lia)];calc⟨x,m,n,e[i],rfl,(g.2 i x e[i] p (di hJ)).aK (b.trans r).aS,u _ (aaa hJ),λJ z=>?_⟩;right
   first|rw[if_neg ∅]|skip
   exact⟨b.trans (r.trans z),_,_,rfl,rfl⟩
  ·rintro σ H1 ⟨b,_⟩;calc q _ b
abbrev p8:Stmt:=(bR (top 49)).getD 0 (.Pass ⟨0,0,0,0⟩)
def KO(M:Int)(st dd:V):List (Str×V):=bo "own_deeds" dd (bo "own_state" st (bo "own_modulus" (.int M) []))
theorem VX{M:Int}:(KO M st dd).lookup ("own_modulus":Str)=some (.int M):=by
 unfold KO;rw[bx,if_neg ⋯,bx,if_neg ⋯,bx,if_pos rfl]
theorem abh{M:Int}:(KO M st dd).lookup ("own_state":Str)=some st:=by
 unfold KO;rw[bx,if_neg ⋯,bx,if_pos rfl]
theorem VY{M:Int}:(KO M st dd).lookup ("own_deeds":Str)=some dd:=by
 unfold KO;rw[bx,if_pos rfl]
theorem CW{M:Int}(a:f≠"own_modulus")(b:f≠"own_state")(c:f≠"own_deeds"):(KO M st dd).lookup f=none:=by
 unfold KO;rw[bx,if_neg c,bx,if_neg b,bx,if_neg a];rfl
theorem bT{v:V}{a:List (Str×V)}{n:Nat}(h:a.length<n):(bo f v a).length<n+1:=by
 have:=kJ f v a;lia
def iq(C:Addr)(H:Hp)(m:Addr)(M:Int)(ns row:List Int)(a:List bC):Prop:=∃b st dd,H m=some (.ins C b (KO M st dd))/\HT H 2 st (yC ns row)/\HT H 4 dd (.tup (a.map bC.dv))
theorem iq.same{C:Addr}{M:Int}{a:List bC}(s:au H H')(h:iq C H m M ns row a):iq C H' m M ns row a:=by
 obtain⟨a,st,dd,b,c,d⟩:=h;calc⟨a,st,dd,s _ _ b,c.aK s.aS,d.aK s.aS⟩
def CY(C:Addr):Sp:=λvs H Q _=>∃(x f:Addr) (M:Int) (c e ad:Addr) (ns row:List Int) (xs:List V) (a:List bC) (n:Nat),vs=[.ref x,.int M,.ref c,.ref e,.ref ad]/\H x=some (.ins C f [])/\2<=M/\M<=1000000000000/\LT H c (ns.map V.int)/\LT H e (row.map V.int)/\LT H ad xs/\1<=ns.length/\ns.length<=4/\row.length<=12/\
 (∀z∈ns,0<=z/\z<M)/\(∀z∈row,0<=z/\z<M)/\DL H n xs a/\n<=3/\a.length<=24/\(∀d∈a,d.ok ns.length)/\∀H',iq C H' x M ns row a->(∀b o,b≠x->H b=some o->H' b=some o)->Q .bI H'
theorem EO(D:Er K mg "Machine" C "Machine.__init__" p8 ["self","modulus","numbers","row","deeds"])(T:Tx K mg C CN CR F FD)(ir:Def P w K mg base "refuse_deeds" 6 ["deeds","many"] CV)(gr:Def P w K mg base "refuse_machine" 4 ["modulus","numbers","row","deeds"] CU):yu P w K mg base "Machine" C 7 ["self","modulus","numbers","row","deeds"] (CY C):=by
 have sc:aE ["self","modulus","numbers","row","deeds"] ["self","modulus","numbers","row","deeds"] (aA p8):=by walk_at "s"
 symm;obtain⟨x,a,M,N,ar,ad,ns,row,u,ds,n,rfl,v,EN,p6,y,O,l,FN,S9,oX,hb,Rb,R,m,NU,aW,q⟩:=h;have m:=hr.units;refine⟨_,(aj (bW (aN gr hr (ag (aq 1) (ag (aq 2) (ag (aq 3) (ag (aq 4) aa))))))
  (aj (bW (aN ir hr (ag (aq 4) (ag (bb aM rfl T.bX S' (ag (aq 2) aa)) aa))))
  (aj (fR (aq 0) (aq 1) (fB rfl))
  (aj (fR (aq 0) (bA (ag (dG cM rfl T.cJ uN (ag (aq 2) aa)) (ag (dG cM rfl T.cJ uN (ag (aq 3) aa)) aa))) (fB rfl))
  (ao (fR (aq 0) (dG cM rfl T.cJ uN (ag (aq 4) aa)) (fB rfl))))))),?_⟩
 try walk_at "rt"
 refine⟨M,N,ar,ad,ns,row,u,rfl,EN,p6,y,O,l,FN,S9,oX,hb,Rb,λH1 B=>?_⟩
 try walk_at "rt"
 have m:GB K (.ref N) H1 (ns.map V.int).length:=(y.same B).elim (λz=>.inl ⟨_,aT.of z,rfl⟩) (λz=>.inr ⟨_,bJ.of z,rfl⟩);calc bL _ m ?_;calc abe ad u ds _ n rfl (l.same B) (R.aK B.aS) NU (by rw[List.length_map];calc aW) (λH2 N=>?_);have KP:=B.trans N
 try walk_at "rt"
 have m:=KP _ _ v;calc⟨x,C,a,[],rfl,m,T.cT,T.NP,∅,?_⟩;have p:∀{b:Addr} {ys:List V},LT H b ys->b≠x:=λh z=>by
  subst z;rcases h with h|h<;>(rw[v]at h;cases h)
 have S:∀b o,b≠x->H b=some o->upd H2 x (.ins C a (bo "own_modulus" (.int M) [])) b=some o:=λb o d e=>by rw[ay d];exact KP _ _ e
 have r:∀{b:Addr} {ys:List V},LT H b ys->LT (upd H2 x (.ins C a (bo "own_modulus" (.int M) []))) b ys:=λh=>by
  have g:=p h;exact h.elim (λz=>.inl (S _ _ g z)) (λz=>.inr (S _ _ g z))
 have t:upd H2 x (.ins C a (bo "own_modulus" (.int M) [])) x=some (.ins C a (bo "own_modulus" (.int M) [])):=af;generalize Mp:upd H2 x (.ins C a (bo "own_modulus" (.int M) []))=G2 at *
 try walk_at "rt"
 refine jP (r y) λI m s3 Bn=>?_
 try walk_at "rt"
 refine jP ((r O).same s3) λJ U s4 qS=>?_
 try walk_at "rt"
 calc⟨cf,λc m=>?_⟩;have W:=au.new (.tup [.ref I,.ref J]) m;have i:=s3.trans (s4.trans W)
 try walk_at "rt"
 calc rj x C a _ rfl (i _ _ t) T.cT T.Q4 (bT (n:=999) ∅) ?_;have X:HT (upd U c (.tup [.ref I,.ref J])) 2 (.ref c) (yC ns row):=cR af (oJ (W _ _ (s4 _ _ Bn))) (oJ (W _ _ qS));have Y:=i _ _ t;have L:∀b o,b≠x->H b=some o->upd U c (.tup [.ref I,.ref J]) b=some o:=λb o d e=>i _ _ (S b o d e);generalize hG:upd U c (.tup [.ref I,.ref J])=G at *;have tG:cm H G:=λb ys e=>L b _ (λz=>by subst z;rw[v]at e;cases e) e;have t6:cm G (upd G x (.ins C a (bo "own_state" (.ref c) (bo "own_modulus" (.int M) [])))):=(cm.refl G).upd λys e=>by rw[Y]at e;cases e
 have e6:LT (upd G x (.ins C a (bo "own_state" (.ref c) (bo "own_modulus" (.int M) [])))) ad u:=by
  have g:=p l;exact l.elim (λz=>.inl (by rw[ay g];calc L _ _ g z)) (λz=>.inr (by rw[ay g];calc L _ _ g z))
 have n6:∀b o,b≠x->H b=some o->upd G x (.ins C a (bo "own_state" (.ref c) (bo "own_modulus" (.int M) []))) b=some o:=λb o d e=>by rw[ay d];exact L b o d e
 have j:upd G x (.ins C a (bo "own_state" (.ref c) (bo "own_modulus" (.int M) []))) x=some (.ins C a (bo "own_state" (.ref c) (bo "own_modulus" (.int M) []))):=af;generalize Rc:upd G x (.ins C a (bo "own_state" (.ref c) (bo "own_modulus" (.int M) [])))=G6 at *
 try walk_at "rt"
 refine jP e6 λZ H7 k Bq=>?_
 try walk_at "rt"
 calc rj x C a _ rfl (k _ _ j) T.cT T.NQ (bT (n:=999) (bT (n:=998) ∅)) ?_;have ne4:Z≠x:=λz=>by subst z;rw[k _ _ j]at Bq;cases Bq
 have t8:cm H7 (upd H7 x (.ins C a (KO M (.ref c) (.ref Z)))):=(cm.refl _).upd λys e=>by rw[k _ _ j]at e;cases e
 refine q _ ⟨a,.ref c,.ref Z,af,(X.aK t6).aK (k.aS.trans t8),?_⟩ λb o d e=>?_
 ·calc HT.mono (n:=n+1) ?_ ();calc DL.ht (R.aK (tG.trans (t6.trans (k.aS.trans t8)))) ?_;rw[ay ne4];exact Bq
 ·rw[ay d];calc k _ _ (n6 b o d e)
abbrev eJ:Stmt:=(bR (top 49)).getD 2 (.Pass ⟨0,0,0,0⟩)
def IW(C:Addr):Sp:=λvs H Q _=>∃(m:Addr) (M:Int) (ns row:List Int) (a:List bC),vs=[.ref m]/\iq C H m M ns row a/\∀st,HT H 2 st (yC ns row)->Q st H
theorem kE(D:gj K C "first_state" "Machine.first_state" eJ ["self"])(T:Tx K mg C CN CR F FD):eU P w K mg base C "first_state" 1 ["self"] (IW C):=by
 have sc:aE ["self"] ["self"] (aA eJ):=by walk_at "s"
 symm;obtain⟨m,M,ns,row,d,rfl,⟨a,st,dd,b,c,e⟩,q⟩:=h;have d:=hr.units;calc⟨_,(ao (aH (bH (aq 0) rfl))),?_⟩;calc⟨m,C,a,_,_,rfl,b,T.cT,T.Q4,abh,q _ c⟩
theorem VZ{H:Hp}{n:Nat}{x:V}{b:List bC}(h:HT H (n+1) x (.tup (b.map bC.dv))):∃a xs,x=.ref a/\H a=some (.tup xs)/\DL H n xs b:=by
 cases h with
 | @tup _ a xs _ e l i=>
  calc⟨a,xs,rfl,e,by simpa using l,λj x d b c=>i j x _ b ?_⟩;rw[List.getElem?_map,c];rfl
def iT(H:Hp)(n:Nat)(ys:List V)(es:List DV):Prop:=ys.length=es.length/\∀(i:Nat) y e,ys[i]?=some y->es[i]?=some e->HT H n y e
theorem iT.nil{n:Nat}:iT H n [] []:=⟨rfl,λi y e h=>by simp at h⟩
theorem iT.aK{n:Nat}(h:iT H n ys es)(t:cm H H'):iT H' n ys es:=⟨h.1,λi y e a b=>(h.2 i y e a b).aK t⟩
theorem iT.snoc{n:Nat}{y:V}{e:DV}(h:iT H n ys es)(g:HT H n y e):iT H n (ys++[y]) (es++[e]):=by
 calc⟨by simp[h.1],λi c f a b=>?_⟩;by_cases c:i<ys.length
 ·rw[List.getElem?_append_left c]at a;rw[List.getElem?_append_left (by rw[<-h.1];calc c)]at b;exact h.2 i _ _ a b
 ·rw[List.getElem?_append_right ()] at a;rw[List.getElem?_append_right (by rw[<-h.1];lia),<-h.1] at b
  cases d:i-ys.length with
  |zero=>rw[d]at a b;cases a;cases b;calc g
  |succ k=>rw[d]at a;simp at a
theorem iT.dl{n:Nat}{xs:List V}{a:List bC}(h:iT H n xs (a.map bC.dv)):DL H n xs a:=⟨by simpa using h.1,λi x d a b=>h.2 i x _ a (by rw[List.getElem?_map,b];rfl)⟩
abbrev sY:Stmt:=top 55
abbrev Ta(C:Addr)(H:Hp)(m:Addr)(d:MD):Prop:=iq C H m d.M d.ns d.row d.ds
def kY(w:Int×Int×Str):DV:=.tup [.int w.1,.int w.2.1,.str w.2.2]
def rm(l:Int×Int):DV:=.tup [.int l.1,.int l.2]
def vC(m:Int)(w:Int×Int×Str):Prop:=0<=w.1/\w.1<m/\0<=w.2.1/\w.2.1<m/\(w.2.2="row"\/w.2.2="heap")
def vD(m:Int)(l:Int×Int):Prop:=0<=l.1/\l.1<m/\1-1000000000000000000000000000000000000000000000000000000000000<=l.2/\l.2<1000000000000000000000000000000000000000000000000000000000000
def y6:Sp:=λvs H Q _=>∃(x:V) (n:Nat) (a b:Int) (c:Str) (m:Int),vs=[x,.int m]/\HT H n x (kY (a,b,c))/\vC m (a,b,c)/\∀H',au H H'->Q (.bl true) H'
theorem IX(D:dq K mg "is_way" "is_way" sY ["thing","many"])(T:Tx K mg C CN CR F FD)(l:Def P w K mg base "is_within" 2 ["thing","low","beyond"] cp):Def P w K mg base "is_way" 3 ["thing","many"] y6:=by
 have sc:aE ["thing","many"] ["thing","many"] (aA sY):=by walk_at "s"
 symm;obtain⟨x,n,c,d,g,m,rfl,o,r,q⟩:=h;have i:=hr.units;refine⟨_,(aj (aU (PW.pt (pw_or (cL (bG (bb eB rfl T.aX ua (ag (aq 0) (ag (dC (v:=.ty "tuple") rfl T.cJ uN rfl) aa))))) (pw_or (aC (eR i) (bb aM rfl T.bX S' (ag (aq 0) aa)) ai (aG _)) (pw_or1 (cL (bG (bb eB rfl T.aX ua (ag (ak i (aq 0) ai) (ag (dC (v:=.ty "str") rfl T.CL PyProof.Rows.boot_str rfl) aa))))))))) (ao (aH iW)) aJ)
  (ao (aH (i8 (aN l hr (ag (ak i (aq 0) ai) (ag ai (ag (aq 1) aa)))) (i8 (aN l hr (ag (ak i (aq 0) ai) (ag ai (ag (aq 1) aa)))) (gK (fA Hl (ak i (aq 0) ai) (bA (ag aD (ag aD aa))) (by with_unfolding_all rfl)))))))),?_⟩
 nofun;obtain⟨a,G,I,J,k,rfl,b,t,u,y⟩:=bU o;obtain rfl:=t.cy;obtain rfl:=u.cy;obtain rfl:=y.cS
 replace b:H a=some (.tup [.int c,.int d,.str g]):=b
 obtain⟨i,k,l,n,z⟩:0<=c/\c<m/\0<=d/\d<m/\(g="row"\/g="heap"):=r;ac_rfl;left;refine dy _ true (.tup b) rfl ?_;simp only[Bool.not_true,Bool.false_eq_true,if_false];refine bL _ (.inr ⟨_,bJ.of b,rfl⟩) ?_;rw[if_neg nofun];refine⟨_,_,.inr (bJ.of b),az (j:=2) rfl,_,true,.str _,rfl,?_⟩;simp only[Bool.not_true,Bool.false_eq_true,if_false];left;refine dy _ _ (.inr (bJ.of b)) (az (j:=0) rfl) ?_;refine gc (.int c) _ 0 m rfl (.int c) ?_;rw[show inR 0 m (.int c)=true by simp[inR,i,k]];left;rw[if_pos trivial];refine dy _ _ (.inr (bJ.of b)) (az (j:=1) rfl) ?_;refine gc (.int d) _ 0 m rfl (.int d) ?_;rw[show inR 0 m (.int d)=true by simp[inR,l,n]];left;rw[if_pos trivial];refine ur _ _ (.inr (bJ.of b)) (az (j:=2) rfl) cf (λp B=>?_);refine QU _ (.inr (bJ.of af)) rfl rfl ?_;have e:yd (.str g) [.str "row",.str "heap"]=true:=by
  rcases z with rfl|rfl<;>decide +kernel
 rw[e];calc q _ (au.new _ B)
abbrev kZ:Stmt:=top 56
def y9:Sp:=λvs H Q _=>∃(x:V) (n:Nat) (a b:Int) (m:Int),vs=[x,.int m]/\HT H n x (rm (a,b))/\vD m (a,b)/\Q (.bl true) H
theorem za(D:dq K mg "is_letter" "is_letter" kZ ["thing","many"])(T:Tx K mg C CN CR F FD)(g:Def P w K mg base "is_within" 2 ["thing","low","beyond"] cp):Def P w K mg base "is_letter" 3 ["thing","many"] y9:=by
 have sc:aE ["thing","many"] ["thing","many"] (aA kZ):=by walk_at "s"
 symm;obtain⟨x,n,b,c,m,rfl,i,l,q⟩:=h;have e:=hr.units;refine⟨_,(aj (aU (PW.pt (pw_or (cL (bG (bb eB rfl T.aX ua (ag (aq 0) (ag (dC (v:=.ty "tuple") rfl T.cJ uN rfl) aa))))) (pw_or1 (aC (eR e) (bb aM rfl T.bX S' (ag (aq 0) aa)) ai (aG _))))) (ao (aH iW)) aJ)
  (ao (aH (i8 (aN g hr (ag (ak e (aq 0) ai) (ag ai (ag (aq 1) aa)))) (gK (aN g hr (ag (ak e (aq 0) ai) (ag (aQ dI ai (fV T.d7 rfl)) (ag (fV T.d7 rfl) aa))))))))),?_⟩
 nofun;obtain⟨a,r,t,k,rfl,d,o,p⟩:=cw i;obtain rfl:=o.cy;obtain rfl:=p.cy
 replace d:H a=some (.tup [.int b,.int c]):=d
 obtain⟨e,g,i,k⟩:0<=b/\b<m/\1-1000000000000000000000000000000000000000000000000000000000000<=c/\c<1000000000000000000000000000000000000000000000000000000000000:=l;ac_rfl;left;calc dy _ true (.tup d) rfl ?_;simp only[Bool.not_true,Bool.false_eq_true,if_false];calc bL _ (.inr ⟨_,bJ.of d,rfl⟩) ?_;rw[if_neg nofun];left;calc dy _ _ (.inr (bJ.of d)) (az (j:=0) rfl) ?_;calc gc (.int b) _ 0 m rfl (.int b) ?_;rw[show inR 0 m (.int b)=true by simp[inR,e,g]];left;rw[if_pos trivial];calc dy _ _ (.inr (bJ.of d)) (az (j:=1) rfl) ?_;calc gc (.int c) _ _ _ rfl (.int c) ?_;rw[show inR (1-1000000000000000000000000000000000000000000000000000000000000) 1000000000000000000000000000000000000000000000000000000000000 (.int c)=true by simp only[inR,decide_eq_true i,decide_eq_true k,Bool.and_self]];calc q
abbrev j4:Stmt:=top 57
def CZ(C:Addr):Sp:=λvs H Q _=>∃(b c d:Addr) (ms:List Addr) (wv a:List V) (ws:List (Int×Int×Str)) (ls:List (Int×Int)),vs=[.ref b,.ref c,.ref d]/\H b=some (.lst (ms.map V.ref))/\H c=some (.lst wv)/\H d=some (.lst a)/\1<=ms.length/\ms.length<=5/\wv.length<=10/\a.length<=20/\(∀m∈ms,∃e f,H m=some (.ins C e f))/\iT H 1 wv (ws.map kY)/\iT H 1 a (ls.map rm)/\(∀w∈ws,vC ms.length w)/\(∀l∈ls,vD wv.length l)/\∀H',au H H'->Q .bI H'
theorem xg(D:dq K mg "refuse_net" "refuse_net" j4 ["machines","ways","letters"])(T:Tx K mg C CN CR F FD)(k6:Def P w K mg base "is_letter" 3 ["thing","many"] y9)(O:Def P w K mg base "is_list" 1 ["things","least","most"] mU)(sZ:Def P w K mg base "is_way" 3 ["thing","many"] y6):Def P w K mg base "refuse_net" 4 ["machines","ways","letters"] (CZ C):=by
 have sc:aE ["machines","ways","letters"] ["machines","ways","letters"] (aA j4):=by walk_at "s"
 symm;obtain⟨R,S,U,ms,wv,y,ws,ls,rfl,G,W,FO,FQ,IY,p9,zc,V0,X,Y,Mq,vb,q⟩:=h;have hu:=hr.units;refine⟨_,(aj (aU (PW.pt (pw_or (cL (bG (aN O hr (ag (aq 0) (ag ai (ag (fV T.dA rfl) aa)))))) (pw_or1 (cL (bG (bb (jK rfl) rfl T.vz Ul (ag (dJ (N':=["one"]) (ix:=[none]) (cE (pv 0)) (λ_ _ _ _=>(bf (i:=0) (show(["one"]:List Str).Nodup by decide +kernel) rfl Sort)) pS (λ_ _ _ _=>(bb (Ir (K:=K) rfl) rfl T.aX ua (ag (aq 0) (ag (cA (v:=.ref C) rfl T.vA rfl) aa))))) aa))))))) (ao fu) aJ)
  (aj (aU (PW.pt (pw_or (cL (bG (aN O hr (ag (aq 1) (ag ai (ag (fV T.fL rfl) aa)))))) (pw_or1 (cL (bG (bb (jK rfl) rfl T.vz Ul (ag (dJ (N':=["way","machines"]) (ix:=[none,some 0]) (cE (pv 1)) (λ_ _ _ _=>(bf (i:=0) (show(["way","machines"]:List Str).Nodup by decide +kernel) rfl Sort)) pS (λ_ _ _ _=>(aN sZ hr (ag (aq 0) (ag (bb (sC (K:=K) rfl) rfl T.bX S' (ag (aq 1) aa)) aa))))) aa))))))) (ao fu) aJ)
  (ao (aU (PW.pt (pw_or (cL (bG (aN O hr (ag (aq 2) (ag ai (ag (fV T.dP rfl) aa)))))) (pw_or1 (cL (bG (bb (jK rfl) rfl T.vz Ul (ag (dJ (N':=["letter","ways"]) (ix:=[none,some 1]) (cE (pv 2)) (λ_ _ _ _=>(bf (i:=0) (show(["letter","ways"]:List Str).Nodup by decide +kernel) rfl Sort)) pS (λ_ _ _ _=>(aN k6 hr (ag (aq 0) (ag (bb (sC (K:=K) rfl) rfl T.bX S' (ag (aq 1) aa)) aa))))) aa))))))) (ao fu) aJ)))),?_⟩
 have O:(ms.map V.ref).length<=5:=by simpa using IY
 left;calc gc R _ 1 _ rfl (.inl G) (λH1 Z=>?_);rw[show(decide ((1:Int)<=((ms.map V.ref).length:Int))&&decide (((ms.map V.ref).length:Int)<=5))=true by simp;lia];left
 try simp only[Bool.not_true,Bool.false_eq_true,if_false]
 have I:=Z _ _ G;calc bV ?_;left;calc .inl ⟨⟨_,aT.of I⟩,λD p=>?_⟩;refine bE (J:=x6 K R) (n:=(ms.map V.ref).length) (λi a H'=>a=List.replicate i (V.bl true)/\au H1 H') (P' (aI ())) ⟨rfl,au.new _ p⟩ ?_ ?_ ?_ ?_
 ·rintro i a H' d ⟨_,l⟩;exact⟨_,(ms.map V.ref)[i],aT.of (l _ _ I),di d⟩
 ·rintro a H' ⟨_,l⟩;exact⟨_,aT.of (l _ _ I),K' _⟩
 ·intro i a H' d c g iS x L jc;nofun;obtain⟨rfl,l⟩:=iS;obtain⟨rfl,z⟩:=jc;ac_rfl;have B:=z _ (aT.of (l _ _ I));calc⟨Ext.set (Ext.refl _) rfl,?_⟩;left;rw[if_pos trivial];have hxm:∃m,x=.ref m/\m∈ms:=by
   have:=aaf B;obtain⟨m,hm,rfl⟩:=List.mem_map.mp this;exact⟨m,rfl,hm⟩
  nofun;obtain⟨m,rfl,I⟩:=hxm;obtain⟨R,fs,O⟩:=V0 m I;ac_rfl;calc abc _ C _ true rfl (.ins (l _ _ (Z _ _ O)) T.cT T.EG T.ee T.cn T.EH) T.i_k ?_;have r:=au.refl L;calc cD (r _ _ c) g d (P' (aI ())) ⟨jL _ _,λb o e=>?_⟩;rw[ay (av e p)];exact r _ _ (l _ _ e)
 rintro a H2 c g ⟨rfl,l⟩;left;rw[pP]at c;calc bL _ (aT.of c) ?_;have e:(List.replicate (ms.map V.ref).length true).all id=true:=by simp
 rw[e];clear e c g;left
 try simp only[Bool.not_true,Bool.false_eq_true,if_false]
 have I:=Z.trans l;have O:=I _ _ W;left;calc gc S _ 0 _ rfl (.inl O) (λR l=>?_);rw[show(decide ((0:Int)<=(wv.length:Int))&&decide ((wv.length:Int)<=10))=true by simp;lia];left
 try simp only[Bool.not_true,Bool.false_eq_true,if_false]
 have M:=l _ _ O;have t:=I.trans l;calc bV ?_;left;calc .inl ⟨⟨_,aT.of M⟩,λD p=>?_⟩;refine bE (J:=x6 K S) (n:=wv.length) (λi a H'=>a=List.replicate i (V.bl true)/\au R H') (P' (aI ())) ⟨rfl,au.new _ p⟩ ?_ ?_ ?_ ?_
 ·rintro i a H' d ⟨_,j⟩;exact⟨_,wv[i],aT.of (j _ _ M),di d⟩
 ·rintro a H' ⟨_,j⟩;exact⟨_,aT.of (j _ _ M),K' _⟩
 ·intro i a H' d c g sW x L yZ;nofun;obtain⟨rfl,j⟩:=sW;obtain⟨rfl,z⟩:=yZ;ac_rfl;have B:=z _ (aT.of (j _ _ M));calc⟨Ext.set (Ext.refl _) rfl,?_⟩;left;rw[if_pos trivial];have l:i < ws.length:=by have:=X.1;rw[List.length_map] at this;lia
  have hw:=(X.2 i x (kY ws[i]) B (by rw[List.getElem?_map,di l];rfl)).aK (t.trans j).aS;calc bL _ (.inl ⟨_,aT.of (j _ _ (t _ _ G)),rfl⟩) ?_;refine⟨x,1,ws[i].1,ws[i].2.1,ws[i].2.2,_,rfl,hw,?_,λI r=>?_⟩
  ·have:=Mq ws[i] (aaa l);simpa[vC] using this
  calc cD (r _ _ c) g d (P' (aI ())) ⟨jL _ _,λb o e=>?_⟩;rw[ay (av e p)];exact r _ _ (j _ _ e)
 rintro a H4 c g ⟨rfl,j⟩;left;rw[pP]at c;calc bL _ (aT.of c) ?_;have e:(List.replicate wv.length true).all id=true:=by simp
 rw[e];clear e c g;left
 try simp only[Bool.not_true,Bool.false_eq_true,if_false]
 have l:=t.trans j;have G:=l _ _ FO;left;calc gc U _ 0 _ rfl (.inl G) (λt j=>?_);rw[show(decide ((0:Int)<=(y.length:Int))&&decide ((y.length:Int)<=20))=true by simp;lia];left
 try simp only[Bool.not_true,Bool.false_eq_true,if_false]
 have N:=j _ _ G;have u:=l.trans j;calc bV ?_;left;calc .inl ⟨⟨_,aT.of N⟩,λD p=>?_⟩;refine bE (J:=x6 K U) (n:=y.length) (λi a H'=>a=List.replicate i (V.bl true)/\au t H') (P' (aI ())) ⟨rfl,au.new _ p⟩ ?_ ?_ ?_ ?_
 ·rintro i a H' d ⟨_,k⟩;exact⟨_,y[i],aT.of (k _ _ N),di d⟩
 ·rintro a H' ⟨_,k⟩;exact⟨_,aT.of (k _ _ N),K' _⟩
 ·intro i a H' d c g y0 x L Bo;nofun;obtain⟨rfl,k⟩:=y0;obtain⟨rfl,z⟩:=Bo;ac_rfl;have B:=z _ (aT.of (k _ _ N));calc⟨Ext.set (Ext.refl _) rfl,?_⟩;left;rw[if_pos trivial];have j:i < ls.length:=by have:=Y.1;rw[List.length_map] at this;lia
  have hw:=(Y.2 i x (rm ls[i]) B (by rw[List.getElem?_map,di j];rfl)).aK (u.trans k).aS;calc bL _ (.inl ⟨_,aT.of (k _ _ (u _ _ W)),rfl⟩) ?_;refine⟨x,1,ls[i].1,ls[i].2,_,rfl,hw,?_,?_⟩
  ·have:=vb ls[i] (aaa j);simpa[vD] using this
  have r:=au.refl L;calc cD (r _ _ c) g d (P' (aI ())) ⟨jL _ _,λb o e=>?_⟩;rw[ay (av e p)];exact r _ _ (k _ _ e)
 rintro a H6 c g ⟨rfl,k⟩;left;rw[pP]at c;calc bL _ (aT.of c) ?_;have e:(List.replicate y.length true).all id=true:=by simp
 rw[e];clear e c g;left
 try simp only[Bool.not_true,Bool.false_eq_true,if_false]
 calc q _ (u.trans k)
abbrev k7:Stmt:=top 63
def zd:Sp:=λvs H Q _=>∃p m,vs=[.ref p,.int m]/\gf H p/\0<m/\m<=4/\∀x v H',Step p H H'->HT H' 1 x (Val.dv v)->v.ok m->Q x H'
theorem ze(D:dq K mg "_law_value" "_law_value" k7 ["_law_pot_here","_law_many"])(T:Tx K mg C CN CR F FD)(u:Def P w K mg base "_law_digit" 1 ["_law_pot_here","_law_many"] jO):Def P w K mg base "_law_value" 2 ["_law_pot_here","_law_many"] zd:=by
 have sc:aE ["_law_pot_here","_law_many","_law_kind"] ["_law_pot_here","_law_many"] (aA k7):=by walk_at "s"
 symm;obtain⟨p,m,rfl,G,I,J,q⟩:=h;have L:=hr.units;refine⟨_,(aj (ba (i:=2) sc.nd rfl Sort (aN u hr (ag (aq 0) (ag ai aa))))
  (aj (aU (aC fm (aq 2) ai (aG _)) (ao (aH (bA (ag aD (ag (ak L (bD (ag (aQ dI (aN u hr (ag (aq 0) (ag ai aa))) ai) (ag (aQ dI (aN u hr (ag (aq 0) (ag (aQ dI (aQ mi ai (aQ mj ai ai)) ai) aa))) (aQ dI (aQ mj ai ai) ai)) aa))) (aq 2)) aa))))) aJ)
  (aj (aU (aC fm (aq 2) ai (aG _)) (ao (aH (bA (ag aD (ag (aN u hr (ag (aq 0) (ag (aq 1) aa))) aa))))) aJ)
  (ao (aH (ak L (bD (ag (bA (ag aD aa)) (ag (bA (ag aD aa)) (ag (bA (ag aD aa)) (ag (bA (ag aD aa)) aa))))) (aQ dI (aq 2) ai))))))),?_⟩
 right;calc mR p 8 rfl G ⋯ ⋯ (λd H1 h1 h2 st=>?_);right;split
 ·rename_i j;have j:d < 2:=by simpa using j
  calc mR p 9 rfl st.gH ⋯ ⋯ (λR H2 M J k=>?_);right;calc⟨Bk,Q6,dig k.gH VT VU λd2 H3 h5 h6 N=>?_⟩;right;calc iR Bk ∅ (λl c=>?_);have y:d=0\/d=1:=by lia
  rcases y with rfl|rfl
  ·exact⟨_,_,.inl (aT.of af),rfl,∅,λt n=>q _ (.is _) _ ((((st.trans k).trans N).new c).new n) (cR af (.str _) (.int _)) trivial⟩
  ·exact⟨_,_,.inl (aT.of af),rfl,∅,λt n=>q _ (.is _) _ ((((st.trans k).trans N).new c).new n) (cR af (.str _) (.int _)) trivial⟩
 ·rename_i j;have j:¬d < 2:=by simpa using j
  split
  ·refine⟨p,m,rfl,st.gH,I,?_,λR H2 M z k=>?_⟩
   ·have:m=1\/m=2\/m=3\/m=4:=by lia
    rcases this with rfl|rfl|rfl|rfl<;>decide +kernel
   right;exact⟨∅,λt n=>q _ (.number _) _ ((st.trans k).new n) (cR af (.str _) (.int _)) ⟨M,z⟩⟩
  ·rename_i r;have r:¬d < 4:=by simpa using r
   calc⟨∅,λa S=>⟨∅,λb O=>⟨∅,λe B=>⟨∅,λg v=>⟨∅,λl c=>?_⟩⟩⟩⟩⟩;have x:=((((st.new S (o:=.tup [.str "letter"])).new O (o:=.tup [.str "letter"])).new B (o:=.tup [.str "way"])).new v (o:=.tup [.str "first"])).new c (o:=.lst [.ref a,.ref b,.ref e,.ref g]);have y:d=4\/d=5\/d=6\/d=7:=by lia
   have U:=(au.new (H:=upd H1 a (.tup [.str "letter"])) (.tup [.str "letter"]) O) a _ af;have W:=(au.new (.tup [.str "way"]) B) _ _ U;have X:=(au.new (.tup [.str "first"]) v) _ _ W;have Y:=(au.new (.lst [.ref a,.ref b,.ref e,.ref g]) c) _ _ X;have Z:=(au.new (H:=upd (upd H1 a (.tup [.str "letter"])) b (.tup [.str "letter"])) (.tup [.str "way"]) B) b _ af;have k3:=(au.new (.tup [.str "first"]) v) _ _ Z;have k4:=(au.new (.lst [.ref a,.ref b,.ref e,.ref g]) c) _ _ k3;have l3:=(au.new (H:=upd (upd (upd H1 a (.tup [.str "letter"])) b (.tup [.str "letter"])) e (.tup [.str "way"])) (.tup [.str "first"]) v) e _ af;have l4:=(au.new (.lst [.ref a,.ref b,.ref e,.ref g]) c) _ _ l3;have m4:=(au.new (H:=upd (upd (upd (upd H1 a (.tup [.str "letter"])) b (.tup [.str "letter"])) e (.tup [.str "way"])) g (.tup [.str "first"])) (.lst [.ref a,.ref b,.ref e,.ref g]) c) g _ af;rcases y with rfl|rfl|rfl|rfl
   ·exact⟨_,_,.inl (aT.of af),rfl,q _ .mM _ x (sL Y (.str _)) trivial⟩
   ·exact⟨_,_,.inl (aT.of af),rfl,q _ .mM _ x (sL k4 (.str _)) trivial⟩
   ·exact⟨_,_,.inl (aT.of af),rfl,q _ .way _ x (sL l4 (.str _)) trivial⟩
   ·calc⟨_,_,.inl (aT.of af),rfl,q _ .first _ x (sL m4 (.str _)) trivial⟩
theorem abo{d:Int}(a:0<=d)(h:d<10):d=0\/d=1\/d=2\/d=3\/d=4\/d=5\/d=6\/d=7\/d=8\/d=9:=by
 have:∀n:Fin 10,((n.1:Nat):Int)=0\/((n.1:Nat):Int)=1\/((n.1:Nat):Int)=2\/((n.1:Nat):Int)=3\/((n.1:Nat):Int)=4\/((n.1:Nat):Int)=5\/((n.1:Nat):Int)=6\/((n.1:Nat):Int)=7\/((n.1:Nat):Int)=8\/((n.1:Nat):Int)=9:=by decide
 rw[<-Int.toNat_of_nonneg a];calc this ⟨d.toNat,()⟩
abbrev mX:Stmt:=top 64
theorem Rg{H:Hp}{n:Nat}{a:Addr}{u v w z:V}{d d' g i:DV}(e:H a=some (.tup [u,v,w,z]))(h:HT H n u d)(h':HT H n v d')(f:HT H n w g)(j:HT H n z i):HT H (n+1) (.ref a) (.tup [d,d',g,i]):=by
 refine .tup e rfl λi x y b c=>?_
 match i,b,c with
 |0,b,c=>simp at b c;subst b c;calc h
 |1,b,c=>simp at b c;subst b c;calc h'
 |2,b,c=>simp at b c;subst b c;calc f
 |3,b,c=>simp at b c;subst b c;calc j
def zf:Sp:=λvs H Q _=>∃p m,vs=[.ref p,.int m]/\gf H p/\0<m/\m<=4/\∀x d H',Step p H H'->HT H' 2 x (bC.dv d)->d.ok m->Q x H'
theorem Br(D:dq K mg "_law_deed" "_law_deed" mX ["_law_pot_here","_law_many"])(T:Tx K mg C CN CR F FD)(M:Def P w K mg base "_law_digit" 1 ["_law_pot_here","_law_many"] jO)(I:Def P w K mg base "_law_value" 2 ["_law_pot_here","_law_many"] zd):Def P w K mg base "_law_deed" 3 ["_law_pot_here","_law_many"] zf:=by
 have sc:aE ["_law_pot_here","_law_many","_law_kind"] ["_law_pot_here","_law_many"] (aA mX):=by walk_at "s"
 symm;obtain⟨p,m,rfl,W,k,u,q⟩:=h;have N:=hr.units;refine⟨_,(aj (ba (i:=2) sc.nd rfl Sort (aN M hr (ag (aq 0) (ag ai aa))))
  (aj (aU (aC fm (aq 2) ai (aG _)) (ao (aH (bA (ag (ak N (bD (ag aD (ag aD (ag aD aa)))) (aq 2)) (ag (aN M hr (ag (aq 0) (ag (aq 1) aa))) (ag (aN I hr (ag (aq 0) (ag (aq 1) aa))) aa)))))) aJ)
  (aj (aU (aC fm (aq 2) ai (aG _)) (ao (aH (bA (ag aD (ag (aN M hr (ag (aq 0) (ag ai aa))) (ag (aN I hr (ag (aq 0) (ag (aq 1) aa))) aa)))))) aJ)
  (aj (aU (aC (aV N) (aq 2) ai (aG _)) (ao (aH (bA (ag aD (ag (aN I hr (ag (aq 0) (ag (aq 1) aa))) aa))))) aJ)
  (aj (aU (aC (aV N) (aq 2) ai (aG _)) (ao (aH (bA (ag aD (ag (aN I hr (ag (aq 0) (ag (aq 1) aa))) aa))))) aJ)
  (aj (aU (aC (aV N) (aq 2) ai (aG _)) (ao (aH (bA (ag aD aa)))) aJ)
  (ao (aH (bA (ag aD (ag (aN I hr (ag (aq 0) (ag (aq 1) aa))) (ag (aN I hr (ag (aq 0) (ag (aq 1) aa))) (ag (aQ cQ ai (aN M hr (ag (aq 0) (ag ai aa)))) aa))))))))))))),?_⟩
 right;calc mR p 10 rfl W ⋯ ⋯ (λd H1 I M st=>?_);have O:m.natAbs.log2<9000:=by
  have:m=1\/m=2\/m=3\/m=4:=by lia
  rcases this with rfl|rfl|rfl|rfl<;>decide +kernel
 have Z:d=0\/d=1\/d=2\/d=3\/d=4\/d=5\/d=6\/d=7\/d=8\/d=9:=abo (by assumption) (by assumption);rcases Z with rfl|rfl|rfl|rfl|rfl|rfl|rfl|rfl|rfl|rfl
 ·walk_at "go";refine⟨∅,λl J=>?_⟩;have B:=st.new (o:=.lst [.str "set",.str "add",.str "times"]) J;refine aZ af rfl ?_;refine dig B.gH k O λe L r y x=>?_;have b:=B.trans x;walk_at "go";refine mR p m rfl b.gH k u (λz v G c g j=>?_);walk_at "go";exact⟨∅,λt a=>q _ (.set e v) _ ((b.trans c).new a) (mN af (.str _) (.int _) (g.aK (au.new _ a).aS)) ⟨r,y,j⟩⟩
 ·walk_at "go";refine⟨∅,λl J=>?_⟩;have B:=st.new (o:=.lst [.str "set",.str "add",.str "times"]) J;refine aZ af rfl ?_;refine dig B.gH k O λe L r y x=>?_;have b:=B.trans x;walk_at "go";refine mR p m rfl b.gH k u (λz v G c g j=>?_);walk_at "go";exact⟨∅,λt a=>q _ (.add e v) _ ((b.trans c).new a) (mN af (.str _) (.int _) (g.aK (au.new _ a).aS)) ⟨r,y,j⟩⟩
 ·walk_at "go";refine⟨∅,λl J=>?_⟩;have B:=st.new (o:=.lst [.str "set",.str "add",.str "times"]) J;refine aZ af rfl ?_;refine dig B.gH k O λe L r y x=>?_;have b:=B.trans x;walk_at "go";refine mR p m rfl b.gH k u (λz v G c g j=>?_);walk_at "go";exact⟨∅,λt a=>q _ (.times e v) _ ((b.trans c).new a) (mN af (.str _) (.int _) (g.aK (au.new _ a).aS)) ⟨r,y,j⟩⟩
 ·walk_at "go";refine dig st.gH ∅ ⋯ λe L r y x=>?_;have b:=st.trans x;right;refine mR p m rfl b.gH k u (λz v G c g j=>?_);right;exact⟨∅,λt a=>q _ (.send e v) _ ((b.trans c).new a) (mN af (.str _) (.int _) (g.aK (au.new _ a).aS)) ⟨r,j⟩⟩
 ·walk_at "go";refine dig st.gH ∅ ⋯ λe L r y x=>?_;have b:=st.trans x;right;refine mR p m rfl b.gH k u (λz v G c g j=>?_);right;exact⟨∅,λt a=>q _ (.send e v) _ ((b.trans c).new a) (mN af (.str _) (.int _) (g.aK (au.new _ a).aS)) ⟨r,j⟩⟩
 ·walk_at "go";refine dig st.gH ∅ ⋯ λe L r y x=>?_;have b:=st.trans x;right;refine mR p m rfl b.gH k u (λz v G c g j=>?_);right;exact⟨∅,λt a=>q _ (.send e v) _ ((b.trans c).new a) (mN af (.str _) (.int _) (g.aK (au.new _ a).aS)) ⟨r,j⟩⟩
 ·walk_at "go";refine mR p m rfl st.gH k u (λz v G c g j=>?_);walk_at "go";exact⟨∅,λt a=>q _ (.say v) _ ((st.trans c).new a) (cR af (.str _) (g.aK (au.new _ a).aS)) j⟩
 ·walk_at "go";refine mR p m rfl st.gH k u (λz v G c g j=>?_);walk_at "go";exact⟨∅,λt a=>q _ (.put v) _ ((st.trans c).new a) (cR af (.str _) (g.aK (au.new _ a).aS)) j⟩
 ·walk_at "go";exact⟨∅,λt a=>q _ .drop _ (st.new a) (sL (n:=1) af (.str _)) trivial⟩
 ·walk_at "go";refine mR p m rfl st.gH k u (λz v G c g j=>?_);walk_at "go";have R:=st.trans c;refine mR p m rfl R.gH k u (λvy v2 b X S V3=>?_);have U:=R.trans X;walk_at "go";refine dig U.gH ∅ ⋯ λe b r y Y=>?_;walk_at "go";refine⟨∅,λt a=>q _ (.skip v v2 (1+e)) _ ((U.trans Y).new a) ?_ ⟨j,V3,(),()⟩⟩;have b:=(Y.aS U.gH).trans (au.new (.tup [.str "skip",z,vy,.int (1+e)]) a).aS;exact Rg af (.str _) (g.aK ((X.aS R.gH).trans b)) (S.aK b) (.int _)
abbrev jh:Stmt:=top 65
theorem Step.free{p b:Addr}{H H':Hp}(st:Step p H H')(h:H' b=none):H b=none:=by
 cases e:H b with
 |none=>rfl
 |some o=>
  by_cases a:b=p
  ·subst a;obtain⟨x,c,_⟩:=st.gH;rw[h]at c;cases c
  ·rw[st.rest b o e a]at h;cases h
theorem Ja{m:Int}(a:0<m)(h:m<=1000000000000):m.natAbs.log2<9000:=(Nat.log2_lt ()).mpr (aaU (show m.natAbs<=1000000000000 by lia) ⋯)
def mods(d:Int):List V:=[.int 2,.int 3,.int 7,.int 10,.int 97,.int (2+d)]
theorem Mt{d k:Int}(b:0<=d)(a:d<10^Int.toNat 12-1)(c:0<=k)(f:k<6):∃z:Int,hX (mods d) k=some (.int z)/\2<=z/\z<=1000000000000:=by
 have e:(10:Int)^Int.toNat 12=1000000000000:=by decide +kernel
 rw[e]at a;have:k=0\/k=1\/k=2\/k=3\/k=4\/k=5:=by lia
 rcases this with rfl|rfl|rfl|rfl|rfl|rfl
 ·exact⟨_,az (j:=0) rfl,∅,∅⟩
 ·exact⟨_,az (j:=1) rfl,∅,∅⟩
 ·exact⟨_,az (j:=2) rfl,∅,∅⟩
 ·exact⟨_,az (j:=3) rfl,∅,∅⟩
 ·exact⟨_,az (j:=4) rfl,∅,∅⟩
 ·calc⟨_,az (j:=5) rfl,(),()⟩
def zg:Sp:=λvs H Q _=>∃p,vs=[.ref p]/\gf H p/\∀t a b c xs M ns row d H',Step p H H'->H' t=some (.tup [.int M,.ref a,.ref b,.ref c])->H' a=some (.lst (ns.map V.int))->H' b=some (.lst (row.map V.int))->H' c=some (.lst xs)->iT H' 2 xs (d.map bC.dv)->H a=none->H b=none->H c=none->Good M ns row d->Q (.ref t) H'
theorem uw(D:dq K mg "_law_machine" "_law_machine" jh ["_law_pot_here"])(T:Tx K mg C CN CR F FD)(mY:Def P w K mg base "_law_deed" 3 ["_law_pot_here","_law_many"] zf)(j:Def P w K mg base "_law_digit" 1 ["_law_pot_here","_law_many"] jO):Def P w K mg base "_law_machine" 4 ["_law_pot_here"] zg:=by
 have sc:aE ["_law_pot_here","_law_modulus","_law_many","_law_numbers","_law_row","_law_deeds"] ["_law_pot_here"] (aA jh):=by walk_at "s"
 symm;obtain⟨p,rfl,k,q⟩:=h;have l:=hr.units;refine⟨_,(aj (ba (i:=1) sc.nd rfl Sort (ak l (bD (ag ai (ag ai (ag ai (ag ai (ag ai (ag (aQ cQ ai (aN j hr (ag (aq 0) (ag (aQ dI (aQ mj ai ai) ai) aa)))) aa))))))) (aN j hr (ag (aq 0) (ag ai aa)))))
  (aj (ba (i:=2) sc.nd rfl Sort (aQ cQ ai (aN j hr (ag (aq 0) (ag ai aa)))))
  (aj (ig (i:=3) sc.nd rfl Sort (N':=["_law_k","_law_pot_here","_law_modulus"]) (ix:=[none,some 0,some 1]) (cP rfl T.dY (ag (aq 2) aa)) (λ_ _ _ _=>(bf (i:=0) (show(["_law_k","_law_pot_here","_law_modulus"]:List Str).Nodup by decide +kernel) rfl Sort)) pS (λ_ _ _ _=>(aN j hr (ag (aq 1) (ag (aq 2) aa)))))
  (aj (ig (i:=4) sc.nd rfl Sort (N':=["_law_k","_law_pot_here","_law_modulus"]) (ix:=[none,some 0,some 1]) (cP rfl T.dY (ag (aN j hr (ag (aq 0) (ag ai aa))) aa)) (λ_ _ _ _=>(bf (i:=0) (show(["_law_k","_law_pot_here","_law_modulus"]:List Str).Nodup by decide +kernel) rfl Sort)) pS (λ_ _ _ _=>(aN j hr (ag (aq 1) (ag (aq 2) aa)))))
  (aj (ig (i:=5) sc.nd rfl Sort (N':=["_law_k","_law_pot_here","_law_many"]) (ix:=[none,some 0,some 2]) (cP rfl T.dY (ag (aN j hr (ag (aq 0) (ag ai aa))) aa)) (λ_ _ _ _=>(bf (i:=0) (show(["_law_k","_law_pot_here","_law_many"]:List Str).Nodup by decide +kernel) rfl Sort)) pS (λ_ _ _ _=>(aN mY hr (ag (aq 1) (ag (aq 2) aa)))))
  (ao (aH (bA (ag (aq 1) (ag (aq 3) (ag (aq 4) (ag (aq 5) aa)))))))))))),?_⟩
 right;calc⟨Q5,?_⟩;calc dig k VW Q9 λd0 H1 NW Ri T=>?_;right;calc⟨∅,λl t=>?_⟩;have B1:=T.new (o:=.lst (mods d0)) t;have j:l≠p:=Step.ne T.gH t;calc dig B1.gH ∅ ⋯ λk H3 Tb l c=>?_;have k:=B1.trans c;obtain⟨M,T,EN,p6⟩:=Mt NW Ri Tb l;right;calc aZ (c.rest _ _ af j) T ?_;right;calc dig k.gH ∅ ⋯ λm H4 El FQ rM=>?_;have N:=k.trans rM;right;calc bV ?_;right;calc iR () () (λD O=>?_);have y:D≠p:=Step.ne N.gH O;refine bE (J:=DX 0 (1+m).toNat) (n:=(1+m).toNat) (λi ys H'=>∃ns:List Int,ys=ns.map V.int/\ns.length=i/\Step p H4 H'/\(∀z∈ns,0<=z/\z<M)) (P' (aI ())) ⟨[],rfl,rfl,(Step.refl N.gH).new O,λz r=>by simp at r⟩ (λi ys H' a _=>a) (λys H' _=>K' _) ?_ ?_
 ·intro i ys H' a B t iS x H2 jc;nofun;obtain⟨ns,rfl,G,st,hb⟩:=iS;obtain⟨rfl,rfl⟩:=jc;ac_rfl;calc⟨Ext.set (Ext.refl _) rfl,?_⟩;right;rw[if_pos trivial];calc dig st.gH () (Ja () p6) λd H3 h3 h4 c=>?_;refine cD (c.rest _ _ B y) t a (P' (aI ())) ⟨ns++[d],nofun,by simp[G],?_,λz r=>?_⟩
  ·exact⟨c.gH.upd (Ne.symm y),λb o e ne=>by rw[ay (av e O)];calc c.rest _ _ (st.rest _ _ e ne) ne⟩
  ·rcases List.mem_append.mp r with g | g
   ·exact hb z g
   ·simp at g;subst g;exact⟨h3,h4⟩
 intro ys H5 en hl5 sW;obtain⟨ns,rfl,G,T,KS⟩:=sW;have fD:H D=none:=N.free O;have j:=N.trans T;calc bV ?_;right;calc dig j.gH ∅ ⋯ λk O h60 h61 l=>?_;have R:=j.trans l;have en6:=l.rest _ _ en y;right;calc iR () () (λS U=>?_);have W:S≠p:=Step.ne R.gH U;refine bE (J:=DX 0 k.toNat) (n:=k.toNat) (λi ys H'=>∃ns:List Int,ys=ns.map V.int/\ns.length=i/\Step p O H'/\(∀z∈ns,0<=z/\z<M)) (P' (aI ())) ⟨[],rfl,rfl,(Step.refl R.gH).new U,λz r=>by simp at r⟩ (λi ys H' a _=>a) (λys H' _=>K' _) ?_ ?_
 ·intro i ys H' a B t yZ x H2 y0;nofun;obtain⟨ns,rfl,G,st,hb⟩:=yZ;obtain⟨rfl,rfl⟩:=y0;ac_rfl;calc⟨Ext.set (Ext.refl _) rfl,?_⟩;right;rw[if_pos trivial];calc dig st.gH () (Ja () p6) λd H3 h3 h4 c=>?_;refine cD (c.rest _ _ B W) t a (P' (aI ())) ⟨ns++[d],nofun,by simp[G],?_,λz r=>?_⟩
  ·exact⟨c.gH.upd (Ne.symm W),λb o e ne=>by rw[ay (av e U)];calc c.rest _ _ (st.rest _ _ e ne) ne⟩
  ·rcases List.mem_append.mp r with g | g
   ·exact hb z g
   ·simp at g;subst g;exact⟨h3,h4⟩
 intro ys H7 er hl7 Bo;obtain⟨row,rfl,c,j,Rb⟩:=Bo;have V6:H S=none:=R.free U;have k:=R.trans j;have c:=j.rest _ _ en6 y;calc bV ?_;right;calc dig k.gH ∅ ⋯ λl r t N g=>?_;have X:=k.trans g;have en8:=g.rest _ _ c y;have er8:=g.rest _ _ er W;right;calc iR () () (λI Y=>?_);have V8:I≠p:=Step.ne X.gH Y;have V9:H I=none:=X.free Y;refine bE (J:=DX 0 l.toNat) (n:=l.toNat) (λi ys H'=>∃u:List bC,iT H' 2 ys (u.map bC.dv)/\u.length=i/\(∀Z∈u,Z.ok (1+m))/\Step p r H') (P' (aI ())) ⟨[],iT.nil,rfl,λZ zZ=>by simp at zZ,(Step.refl X.gH).new Y⟩ (λi ys H' a _=>a) (λys H' _=>K' _) ?_ ?_
 ·intro i ys H' a B zh My x H9 Rj;nofun;obtain⟨u,uv,L,Rk,v⟩:=My;obtain⟨rfl,rfl⟩:=Rj;ac_rfl;calc⟨Ext.set (Ext.refl _) rfl,?_⟩;right;rw[if_pos trivial];calc⟨p,1 + m,rfl,v.gH,(),(),λg dd c Mz t9 Wa=>?_⟩;have Wb:=Mz.rest _ _ B V8;have t10:cm c (upd c I (.lst (ys++[g]))):=(cm.refl _).upd λc e=>by rw[Wb] at e;cases e
  refine cD Wb zh a (P' (aI ())) ⟨u++[dd],?_,by simp[L],?_,?_⟩
  ·rw[List.map_append];exact((uv.aK (Mz.aS v.gH)).snoc t9).aK t10
  ·intro Z zZ;rcases List.mem_append.mp zZ with z | z
   ·exact Rk Z z
   ·simp at z;subst z;exact Wa
  ·exact⟨Mz.gH.upd (Ne.symm V8),λb o e ne=>by rw[ay (av e Y)];calc Mz.rest _ _ (v.rest _ _ e ne) ne⟩
 intro ys H9 i a g;obtain⟨u,uv,L,Rk,v⟩:=g;have c:=X.trans v;right;calc⟨by show 4<=sizeLine;decide,λt g=>?_⟩;have a:=au.new (.tup [.int M,.ref D,.ref S,.ref I]) g;calc q t D S I ys M ns row u _ (c.new g) af (a _ _ (v.rest _ _ en8 y)) (a _ _ (v.rest _ _ er8 W)) (a _ _ i) (uv.aK a.aS) fD V6 V9 ⟨EN,p6,(),(),(),KS,Rb,(),λd j=>?_⟩;rw[G];have e:(((1+m).toNat:Nat):Int)=1+m:=by lia
 rw[e];calc Rk d j
theorem abt{l:List Int}(h:l.length=1):∃a,l=[a]:=List.length_eq_one_iff.mp h
abbrev ji:Stmt:=top 30
inductive vE(K:W.Frag)(vs:List V)(H:Hp)(Q:VK):Prop
 |mk (x:_) (st:_) (way:_) (said:_) (v:_) (ns:_) (row:_) (n:_) (h0:vs=[x,st,.int way,.int said]) (h1:HT H n x (Val.dv v)) (h2:yE K H st ns row) (h3:v.ok ns.length) (h4:Q (.int (sJ ns row way said v)) H):vE K vs H Q
def zi(K:W.Frag):Sp:=λvs H Q _=>vE K vs H Q
theorem ux(D:dq K mg "plain_worth" "plain_worth" ji ["value","state","way","said"])(T:Tx K mg C CN CR F FD):Def P w K mg base "plain_worth" 1 ["value","state","way","said"] (zi K):=by
 have sc:aE ["value","state","way","said","word"] ["value","state","way","said"] (aA ji):=by walk_at "s"
 symm;obtain⟨x,st,way,g,v,ns,row,n,rfl,k,B,o,q⟩:=h;have b:=hr.units;refine⟨_,(aj (ba (i:=4) sc.nd rfl Sort (ak b (aq 0) ai))
  (aj (aU (aC (aV b) (aq 4) aD (aG _)) (ao (aH (ak b (aq 0) ai))) aJ)
  (aj (aU (aC (aV b) (aq 4) aD (aG _)) (ao (aH (ak b (ak b (aq 1) ai) (ak b (aq 0) ai)))) aJ)
  (aj (aU (aC (aV b) (aq 4) aD (aG _)) (ao (aH (aq 3))) aJ)
  (aj (aU (aC (aV b) (aq 4) aD (aG _)) (ao (aH (aq 2))) aJ)
  (ao (aH (Gg (aC mL (bb aM rfl T.bX S' (ag (ak b (aq 1) ai) aa)) ai (aG _)) (ak b (ak b (aq 1) ai) ai) ai)))))))),?_⟩
 obtain⟨a,L,M,rfl,t,u,G⟩:=B
 cases v with
 |is z=>
  nofun;obtain⟨p,l,J,m,rfl,c,d,y⟩:=cw k;obtain rfl:=d.cS;obtain rfl:=y.cy;ac_rfl;walk_at "jd";refine dy _ _ (.inr (bJ.of c)) rfl ?_;walk_at "jd"
  try rw[if_pos ⋯]
  calc⟨_,_,.inr (bJ.of c),rfl,q⟩
 |number i=>
  nofun;obtain⟨p,l,J,m,rfl,c,d,y⟩:=cw k;obtain rfl:=d.cS;obtain rfl:=y.cy;obtain⟨j,rfl⟩:=Y' o.1;ac_rfl;have I:j<ns.length:=by have:=o.2;lia
  walk_at "jd";refine dy _ _ (.inr (bJ.of c)) rfl ?_;walk_at "jd"
  try rw[if_neg ⋯]
  left
  try rw[if_pos ⋯]
  calc⟨_,_,.inr (bJ.of t),rfl,_,_,.inr (bJ.of c),rfl,?_⟩;calc⟨_,.int ns[j],u,az (by rw[List.getElem?_map,di I];rfl),?_⟩;have e:sJ ns row way g (.number j)=ns[j]:=by
   show ns.getD (j:Int).toNat 0=ns[j];simp[List.getD_eq_getElem?_getD,di I]
  rw[e]at q;calc q
 |mM=>
  nofun;obtain⟨p,l,m,rfl,c,d⟩:=jb k;obtain rfl:=d.cS;ac_rfl;walk_at "jd";refine dy _ _ (.inr (bJ.of c)) rfl ?_;walk_at "jd"
  try rw[if_neg ⋯]
  left
  try rw[if_neg ⋯]
  left
  try rw[if_pos ⋯]
  calc q
 |way=>
  nofun;obtain⟨p,l,m,rfl,c,d⟩:=jb k;obtain rfl:=d.cS;ac_rfl;walk_at "jd";refine dy _ _ (.inr (bJ.of c)) rfl ?_;walk_at "jd"
  try rw[if_neg ⋯]
  left
  try rw[if_neg ⋯]
  left
  try rw[if_neg ⋯]
  left
  try rw[if_pos ⋯]
  calc q
 |first=>
  nofun;obtain⟨p,l,m,rfl,c,d⟩:=jb k;obtain rfl:=d.cS;ac_rfl;walk_at "jd";refine dy _ _ (.inr (bJ.of c)) rfl ?_;walk_at "jd"
  try rw[if_neg ⋯]
  left
  try rw[if_neg ⋯]
  left
  try rw[if_neg ⋯]
  left
  try rw[if_neg ⋯]
  calc dy _ _ (.inr (bJ.of t)) rfl ?_;refine bL _ (G.elim (λz=>.inl ⟨_,z,rfl⟩) (λz=>.inr ⟨_,z,rfl⟩)) ?_
  cases row with
  |nil=>
   left;rw[if_neg nofun];calc q
  |cons r b=>
   left;rw[if_pos nofun];calc⟨_,_,.inr (bJ.of t),rfl,_,_,G,az (j:=0) rfl,q⟩
abbrev mZ:Stmt:=top 31
inductive vF(K:W.Frag)(vs:List V)(H:Hp)(Q:VK):Prop
 |mk (x:_) (st:_) (way:_) (said:_) (m:_) (v:_) (ns:_) (row:_) (n:_) (h0:vs=[x,st,.int way,.int said,.int m]) (h1:HT H n x (Val.dv v)) (h2:yE K H st ns row) (h3:v.ok ns.length) (h4:0<m) (h5:Q (.int (sJ ns row way said v%m)) H):vF K vs H Q
def zj(K:W.Frag):Sp:=λvs H Q _=>vF K vs H Q
theorem Bs(D:dq K mg "worth_of" "worth_of" mZ ["value","state","way","said","modulus"])(T:Tx K mg C CN CR F FD)(i:Def P w K mg base "plain_worth" 1 ["value","state","way","said"] (zi K)):Def P w K mg base "worth_of" 2 ["value","state","way","said","modulus"] (zj K):=by
 have sc:aE ["value","state","way","said","modulus"] ["value","state","way","said","modulus"] (aA mZ):=by walk_at "s"
 symm;obtain⟨x,st,b,a,m,v,ns,row,n,rfl,c,d,e,g,q⟩:=h;have j:=hr.units;refine⟨_,(ao (aH (aQ ck (aN i hr (ag (aq 0) (ag (aq 1) (ag (aq 2) (ag (aq 3) aa))))) (aq 4)))),?_⟩;walk_at "jd";exact⟨x,st,b,a,v,ns,row,n,rfl,c,d,e,g,q⟩
abbrev k9:Stmt:=top 38
inductive VL(H:Hp)(n:Nat):List V->List Val->Prop
 |nil:VL H n [] []
 |cons {x v xs vs}:HT H n x (Val.dv v)->VL H n xs vs->VL H n (x::xs) (v::vs)
theorem VL.same{H H':Hp}{n:Nat}(s:cm H H'){xs:List V}{vs:List Val}(h:VL H n xs vs):VL H' n xs vs:=by
 induction h with
 |nil=>calc .nil
 |cons a _ b=>calc .cons (a.aK s) b
theorem VL.snoc{H:Hp}{n:Nat}{xs:List V}{vs:List Val}{x:V}{v:Val}(h:VL H n xs vs)(a:HT H n x v.dv):VL H n (xs++[x]) (vs++[v]):=by
 induction h with
 |nil=>calc .cons a .nil
 |cons a _ b=>calc .cons a b
theorem VL.len{H:Hp}{n:Nat}{xs:List V}{vs:List Val}(h:VL H n xs vs):xs.length=vs.length:=by
 induction h with
 |nil=>rfl
 |cons _ _ a=>simp[a]
inductive PL(H:Hp)(n:Nat):List V->List (Option Val)->Prop
 |nil:PL H n [] []
 |str {w xs os}:PL H n xs os->PL H n (.str w::xs) (none::os)
 |int {i xs os}:PL H n xs os->PL H n (.int i::xs) (none::os)
 |val {x v xs os}:HT H n x (Val.dv v)->PL H n xs os->PL H n (x::xs) (some v::os)
theorem PL.get{H:Hp}{n:Nat}{xs:List V}{os:List (Option Val)}(h:PL H n xs os):∀{i:Nat}{x:V},xs[i]?=some x->∃o,os[i]?=some o/\((o=none/\((∃w,x=.str w)\/∃j,x=.int j))\/∃v,o=some v/\HT H n x (Val.dv v)):=by
 induction h with
 |nil=>intro i x h;simp at h
 |str _ a=>
  intro i x h
  cases i with
  |zero=>cases h;calc⟨none,rfl,.inl ⟨rfl,.inl ⟨_,rfl⟩⟩⟩
  |succ i=>calc a h
 |int _ a=>
  intro i x h
  cases i with
  |zero=>cases h;calc⟨none,rfl,.inl ⟨rfl,.inr ⟨_,rfl⟩⟩⟩
  |succ i=>calc a h
 |val b _ a=>
  intro i x h
  cases i with
  |zero=>cases h;calc⟨some _,rfl,.inr ⟨_,rfl,b⟩⟩
  |succ i=>calc a h
theorem PL.len{H:Hp}{n:Nat}{xs:List V}{os:List (Option Val)}(h:PL H n xs os):xs.length=os.length:=by
 induction h with
 |nil=>rfl
 |str _ a=>simp[a]
 |int _ a=>simp[a]
 |val _ _ a=>simp[a]
theorem Dc{H:Hp}{n:Nat}{x:V}{d:bC}(h:HT H n x d.dv):∃a xs os b,x=.ref a/\H a=some (.tup xs)/\PL H b xs os/\os.filterMap id=d.vals/\xs.length<=4:=by
 cases d with
 |set i v=>
  nofun;obtain⟨a,k,l,m,b,rfl,c,e,f,g⟩:=bU h;obtain rfl:=e.cS;obtain rfl:=f.cy;ac_rfl;calc⟨a,_,_,b,rfl,c,.str (.int (.val g .nil)),rfl,nofun⟩
 |add i v=>
  nofun;obtain⟨a,k,l,m,b,rfl,c,e,f,g⟩:=bU h;obtain rfl:=e.cS;obtain rfl:=f.cy;ac_rfl;calc⟨a,_,_,b,rfl,c,.str (.int (.val g .nil)),rfl,nofun⟩
 |times i v=>
  nofun;obtain⟨a,k,l,m,b,rfl,c,e,f,g⟩:=bU h;obtain rfl:=e.cS;obtain rfl:=f.cy;ac_rfl;calc⟨a,_,_,b,rfl,c,.str (.int (.val g .nil)),rfl,nofun⟩
 |put v=>
  nofun;obtain⟨a,k,l,b,rfl,c,e,f⟩:=cw h;obtain rfl:=e.cS;ac_rfl;calc⟨a,_,_,b,rfl,c,.str (.val f .nil),rfl,nofun⟩
 |drop=>
  nofun;obtain⟨a,k,b,rfl,c,e⟩:=jb h;obtain rfl:=e.cS;ac_rfl;calc⟨a,_,_,b,rfl,c,.str (.nil),rfl,nofun⟩
 |send j v=>
  nofun;obtain⟨a,k,l,m,b,rfl,c,e,f,g⟩:=bU h;obtain rfl:=e.cS;obtain rfl:=f.cy;ac_rfl;calc⟨a,_,_,b,rfl,c,.str (.int (.val g .nil)),rfl,nofun⟩
 |say v=>
  nofun;obtain⟨a,k,l,b,rfl,c,e,f⟩:=cw h;obtain rfl:=e.cS;ac_rfl;calc⟨a,_,_,b,rfl,c,.str (.val f .nil),rfl,nofun⟩
 |skip v i j=>
  nofun;obtain⟨a,k,l,m,p,b,rfl,c,e,f,g,o⟩:=oO h;obtain rfl:=e.cS;obtain rfl:=o.cy;ac_rfl;calc⟨a,_,_,b,rfl,c,.str (.val f (.val g (.int .nil))),rfl,nofun⟩
inductive zk(vs:List V)(H:Hp)(Q:VK):Prop
 |mk (x:_) (n:_) (d:_) (h0:vs=[x]) (h1:HT H n x (bC.dv d)) (h2:∀l zs k0 H',au H H'->H l=none->H' l=some (.lst zs)->VL H' k0 zs d.vals->Q (.ref l) H'):zk vs H Q
def Dd:Sp:=λvs H Q _=>zk vs H Q
theorem zm(D:dq K mg "values_of" "values_of" k9 ["deed"])(T:Tx K mg C CN CR F FD):Def P w K mg base "values_of" 1 ["deed"] Dd:=by
 have sc:aE ["deed"] ["deed"] (aA k9):=by walk_at "s"
 symm;obtain⟨x,n,d,rfl,I,q⟩:=h;have hu:=hr.units;refine⟨_,(ao (aH (dJ (N':=["part"]) (ix:=[none]) (cE (pv 0)) (λ_ _ _ _=>(bf (i:=0) (show(["part"]:List Str).Nodup by decide +kernel) rfl Sort)) (λ_ _ _ _=>(jY (bG (bb (pO (K:=K) rfl) rfl T.aX ua (ag (aq 0) (ag (dC (v:=.ty "tuple") rfl T.cJ uN rfl) aa)))))) (λ_ _ _ _=>(aq 0))))),?_⟩;obtain⟨a,k,u,L,rfl,p,M,U,T⟩:=Dc I;left;refine bV ?_;left;refine .inr ⟨⟨_,bJ.of p⟩,λD y=>?_⟩;refine bE (J:=Us K a) (n:=k.length) (λi ys H'=>au H H'/\VL H' L ys ((u.take i).filterMap id)) (P' (aI ())) ⟨au.new _ y,.nil⟩ ?_ ?_ ?_ ?_
 ·rintro i ys H' z ⟨g,_⟩;exact⟨k,k[i],bJ.of (g _ _ p),di z⟩
 ·rintro ys H' ⟨g,_⟩;exact⟨k,bJ.of (g _ _ p),K' _⟩
 ·intro i ys H' z l N X x r Y;nofun;obtain⟨g,m⟩:=X;obtain⟨rfl,n⟩:=Y;have I:=n k (bJ.of (g _ _ p));obtain⟨o,T,Z⟩:=M.get I;ac_rfl;have O:u.take (i+1)=u.take i++[o]:=by
   rw[List.take_add_one,T];rfl
  calc⟨Ext.set (Ext.refl _) rfl,?_⟩;left;rcases Z with⟨rfl,hc⟩|⟨v,rfl,B⟩
  ·have G:∃t,gM K r x t/\W.kitOne K t (.type "tuple")=some false:=by
    rcases hc with⟨w,rfl⟩|⟨j,rfl⟩
    ·exact⟨_,.str w,rfl⟩
    ·exact⟨_,.int j,rfl⟩
   obtain⟨t,i,j⟩:=G;refine dy t false i j ?_
   first|calc⟨false,rfl,?_⟩|skip
   left
   try rw[if_neg Bool.false_ne_true]
   exact⟨ys,l,(),g,by rw[O];simpa using m⟩
  ·have R:=B.aK g.aS;obtain⟨b,zs,rfl,i⟩:=CA R;refine dy _ true (.tup i) rfl ?_
   first|calc⟨true,rfl,?_⟩|skip
   left
   try first|rw[if_pos rfl]|rw[if_pos trivial]
   calc cD l N z (P' (aI ())) ⟨λc o e=>by rw[ay (av e y)];calc g _ _ e,?_⟩;rw[O,List.filterMap_append];have S:cm r (upd r D (.lst (ys++[.ref b]))):=(cm.refl r).upd λzs e=>by rw[l]at e;cases e
   exact(m.same S).snoc (R.aK S)
 ·rintro ys H' l N ⟨g,m⟩;rw[M.len,List.take_length,U]at m;calc q _ ys L _ g y l m
theorem xh{H:Hp}{n:Nat}{x:V}{d:bC}(f:HT H n x d.dv):∃a l,x=.ref a/\H a=some (.tup (.str d.word::l)):=by
  cases d with
  |drop=>
    obtain⟨g,h,i,b,c,e⟩:=jb f;obtain rfl:=e.cS;calc⟨_,_,b,c⟩
  |skip v l n=>
    obtain⟨g,h,j,m,l,i,b,c,e,k,o,n⟩:=oO f;obtain rfl:=e.cS;calc⟨_,_,b,c⟩
  |_=>
    first
    | (obtain⟨g,h,j,m,i,b,c,e,k,o⟩:=bU f
       obtain rfl:=e.cS;calc⟨_,_,b,c⟩)
    | (obtain⟨g,h,j,i,b,c,e,k⟩:=cw f
       obtain rfl:=e.cS;calc⟨_,_,b,c⟩)
theorem Jd(e:d.word="put"):d.vals.length=1/\∀row x,oK row x d=if row.length<12 then row++[x] else row:=by
 cases d<;>first|calc absurd e (by simp only[bC.word];decide)|calc⟨rfl,λ_ _=>rfl⟩
theorem EX(e:d.word="drop"):∀row x,oK row x d=row.tail:=by
 cases d<;>first|calc absurd e (by simp only[bC.word];decide)|calc λ_ _=>rfl
theorem Je(e:¬d.word="put")(a:¬d.word="drop"):∀row x,oK row x d=row:=by
 cases d<;>first|calc λ_ _=>rfl|calc absurd rfl e|calc absurd rfl a
theorem EY{n:Nat}(b:HT H n (.ref a) d.dv)(e:d.word="skip"):∃u v k,H a=some (.tup [.str "skip",u,v,.int k])/\d.vals.length=2/\∀x y,oM x y d=if x<y then k else 0:=by
 cases d<;>first|calc absurd e (by simp only[bC.word];decide)|skip
 obtain⟨i,j,k,l,m,n,c,f,g,o,p,h⟩:=oO b;obtain rfl:=V.ref.inj c;obtain rfl:=g.cS;obtain rfl:=h.cy;calc⟨_,_,_,f,rfl,λ_ _=>rfl⟩
theorem zp(e:¬d.word="skip"):∀x y,oM x y d=0:=by
 cases d<;>first|calc λ_ _=>rfl|calc absurd rfl e
theorem oY{n k:Nat}(h:k<n):AD n (k:Int)=some k:=by
 unfold AD;rw[if_pos (),if_pos ()];simp
theorem iu{ws:List Int}{j:Nat}(h:j<ws.length):hX (ws.map V.int) ((j:Nat):Int)=some (.int (ws.getD j 0)):=az (by rw[List.getElem?_map,bq (d:=0) h];rfl)
theorem De{M:Int}{l:List Int}(h:∀z∈l,0<=z/\z<M){j:Nat}(a:j<l.length):0<=l.getD j 0/\l.getD j 0<M:=h _ (DD.getD_mem a)
def tf(M:Int)(ns row:List Int)(x y:Int)(d:bC):List Int×List Int×List (Int×Int)×List Int×Int:=(jN M ns x d,oK row x d,ik x d,gn x d,oM x y d)
inductive Wc(H:Hp)(a:Addr)(m:Int)(d:bC):Prop
 |set (j:Nat) (u:V) (hj:(j:Int)<m) (h:H a=some (.tup [.str "set",.int j,u])) (hl:d.vals.length=1) (e:∀M ns row x y,tf M ns row x y d=(ns.set j x,row,[],[],0))
 |add (j:Nat) (u:V) (hj:(j:Int)<m) (h:H a=some (.tup [.str "add",.int j,u])) (hl:d.vals.length=1) (e:∀M ns row x y,tf M ns row x y d=(ns.set j ((ns.getD j 0+x)%M),row,[],[],0))
 |times (j:Nat) (u:V) (hj:(j:Int)<m) (h:H a=some (.tup [.str "times",.int j,u])) (hl:d.vals.length=1) (e:∀M ns row x y,tf M ns row x y d=(ns.set j ((ns.getD j 0*x)%M),row,[],[],0))
 |put (u:V) (h:H a=some (.tup [.str "put",u])) (hl:d.vals.length=1) (e:∀M ns row x y,tf M ns row x y d=(ns,if row.length<12 then row++[x] else row,[],[],0))
 |drop (h:H a=some (.tup [.str "drop"])) (e:∀M ns row x y,tf M ns row x y d=(ns,row.tail,[],[],0))
 |send (j:Int) (u:V) (h:H a=some (.tup [.str "send",.int j,u])) (hl:d.vals.length=1) (e:∀M ns row x y,tf M ns row x y d=(ns,row,[(j,x)],[],0))
 |say (u:V) (h:H a=some (.tup [.str "say",u])) (hl:d.vals.length=1) (e:∀M ns row x y,tf M ns row x y d=(ns,row,[],[x],0))
 |skip (u v:V) (k:Nat) (h:H a=some (.tup [.str "skip",u,v,.int k])) (hl:d.vals.length=2) (e:∀M ns row x y,tf M ns row x y d=(ns,row,[],[],if x<y then(k:Int) else 0))
theorem vG{H:Hp}{n:Nat}{a:Addr}{d:bC}{m:Int}(k:HT H n (.ref a) d.dv)(l:d.ok m):Wc H a m d:=by
 cases d with
 |set i v=>
  obtain⟨o,p,g,h,q,b,c,e,f,s⟩:=bU k;obtain rfl:=V.ref.inj b;obtain rfl:=e.cS;obtain rfl:=f.cy;obtain⟨r,rfl⟩:=Y' l.1;calc .set r h l.2.1 c rfl λ_ _ _ _ _=>rfl
 |add i v=>
  obtain⟨o,p,g,h,q,b,c,e,f,s⟩:=bU k;obtain rfl:=V.ref.inj b;obtain rfl:=e.cS;obtain rfl:=f.cy;obtain⟨r,rfl⟩:=Y' l.1;calc .add r h l.2.1 c rfl λ_ _ _ _ _=>rfl
 |times i v=>
  obtain⟨o,p,g,h,q,b,c,e,f,s⟩:=bU k;obtain rfl:=V.ref.inj b;obtain rfl:=e.cS;obtain rfl:=f.cy;obtain⟨r,rfl⟩:=Y' l.1;calc .times r h l.2.1 c rfl λ_ _ _ _ _=>rfl
 |put v=>
  obtain⟨o,p,g,q,b,c,e,f⟩:=cw k;obtain rfl:=V.ref.inj b;obtain rfl:=e.cS;calc .put g c rfl λ_ _ _ _ _=>rfl
 |drop=>
  obtain⟨o,p,q,b,c,e⟩:=jb k;obtain rfl:=V.ref.inj b;obtain rfl:=e.cS;calc .drop c λ_ _ _ _ _=>rfl
 |send j v=>
  obtain⟨o,p,g,h,q,b,c,e,f,s⟩:=bU k;obtain rfl:=V.ref.inj b;obtain rfl:=e.cS;obtain rfl:=f.cy;calc .send j h c rfl λ_ _ _ _ _=>rfl
 |say v=>
  obtain⟨o,p,g,q,b,c,e,f⟩:=cw k;obtain rfl:=V.ref.inj b;obtain rfl:=e.cS;calc .say g c rfl λ_ _ _ _ _=>rfl
 |skip v i j=>
  obtain⟨o,p,g,h,i,q,b,c,e,f,s,t⟩:=oO k;obtain rfl:=V.ref.inj b;obtain rfl:=e.cS;obtain rfl:=t.cy;obtain⟨r,rfl⟩:=Y' (Int.le_trans ∅ l.2.2.1);calc .skip g h r c rfl λ_ _ _ _ _=>rfl
abbrev gs:Stmt:=top 46
inductive Df(vs:List V)(H:Hp)(Q:VK):Prop
 |mk (an:Addr) (x:V) (l:Addr) (ns ws:List Int) (M:Int) (n:Nat) (d:bC) (h0:vs=[.ref an,x,.ref l,.int M]) (h1:H an=some (.lst (ns.map V.int))) (h2:HT H n x d.dv) (h3:H l=some (.lst (ws.map V.int))) (h4:ws.length=d.vals.length) (h5:d.ok ns.length) (h6:0<M) (h7:M<=1000000000000) (h8:(∀z∈ns,0<=z/\z<M)) (h9:∀H',H' an=some (.lst ((jN M ns (ws.getD 0 0) d).map V.int))->(∀b o,b≠an->H b=some o->H' b=some o)->Q .bI H'):Df vs H Q
def Jf:Sp:=λvs H Q _=>Df vs H Q
theorem qa(D:dq K mg "change_numbers" "change_numbers" gs ["numbers","deed","worths","modulus"])(T:Tx K mg C CN CR F FD):Def P w K mg base "change_numbers" 1 ["numbers","deed","worths","modulus"] Jf:=by
 have sc:aE ["numbers","deed","worths","modulus"] ["numbers","deed","worths","modulus"] (aA gs):=by walk_at "s"
 symm;obtain⟨o,x,l,ns,ws,M,n,d,rfl,p,v,y,R,z,B,S,G,q⟩:=h;have g:=hr.units;calc⟨_,(ao (aU (aC (aV g) (ak g (aq 1) ai) aD (aG _)) (ao (fC (ak g (aq 2) ai) (i9 (aq 0) (ak g (aq 1) ai) eF))) (ao (aU (aC (aV g) (ak g (aq 1) ai) aD (aG _)) (ao (fC (aQ ck (aQ cQ (ak g (aq 0) (ak g (aq 1) ai)) (ak g (aq 2) ai)) (aq 3)) (i9 (aq 0) (ak g (aq 1) ai) eF))) (ao (aU (aC (aV g) (ak g (aq 1) ai) aD (aG _)) (ao (fC (aQ ck (aQ mi (ak g (aq 0) (ak g (aq 1) ai)) (ak g (aq 2) ai)) (aq 3)) (i9 (aq 0) (ak g (aq 1) ai) eF))) aJ)))))),?_⟩;nofun;obtain⟨a,W,rfl,i⟩:=xh v;have U:=vG v z;have I:∀c:Nat,((c:Nat):Int) < ns.length->AD (ns.map V.int).length ((c:Nat):Int)=some c/\hX (ns.map V.int) ((c:Nat):Int)=some (.int (ns.getD c 0))/\0<=ns.getD c 0/\ns.getD c 0 < M:=λc k=>⟨oY (by rw[List.length_map];lia),iu (),De G ()⟩
 have J:∀c y,jN M ns (ws.getD 0 0) d=ns.set c y->Q .bI (upd H o (.lst ((ns.map V.int).set c (.int y)))):=λc y E=>q _ (by rw[af,E,List.map_set]) λb o g e=>by rw[ay g];exact e
 have r:jN M ns (ws.getD 0 0) d=ns->Q .bI H:=λE=>q H (by rw[E];calc p) λ_ _ _ e=>e;calc hZ ?_;clear hZ gZ v z i G q
 cases U with
 |set c u k i m E=>
  have L:=iu (ws:=ws) (j:=0) ();obtain⟨t,N,O⟩:=I c k;walk_at "jg";exact dy _ c p t (J _ _ (congrArg Prod.fst (E M ns [] (ws.getD 0 0) 0)))
 |add c u k i m E=>
  have L:=iu (ws:=ws) (j:=0) ();obtain⟨t,N,O⟩:=I c k;walk_at "jg";refine⟨B,?_⟩;walk_at "jg";exact dy _ c p t (J _ _ (congrArg Prod.fst (E M ns [] (ws.getD 0 0) 0)))
 |times c u k i m E=>
  have L:=iu (ws:=ws) (j:=0) ();obtain⟨t,N,O⟩:=I c k;walk_at "jg";refine iR (.inl ⟨(),()⟩) B ?_;walk_at "jg";exact dy _ c p t (J _ _ (congrArg Prod.fst (E M ns [] (ws.getD 0 0) 0)))
 |put u i m E=>walk_at "jg";exact r (congrArg Prod.fst (E M ns [] (ws.getD 0 0) 0))
 |drop i E=>walk_at "jg";exact r (congrArg Prod.fst (E M ns [] (ws.getD 0 0) 0))
 |send j u i m E=>walk_at "jg";exact r (congrArg Prod.fst (E M ns [] (ws.getD 0 0) 0))
 |say u i m E=>walk_at "jg";exact r (congrArg Prod.fst (E M ns [] (ws.getD 0 0) 0))
 |skip u v k i m E=>walk_at "jg";exact r (congrArg Prod.fst (E M ns [] (ws.getD 0 0) 0))
abbrev j5:Stmt:=top 47
inductive Dh(vs:List V)(H:Hp)(Q:VK):Prop
 |mk (an:Addr) (x:V) (l:Addr) (row ws:List Int) (n:Nat) (d:bC) (h0:vs=[.ref an,x,.ref l]) (h1:H an=some (.lst (row.map V.int))) (h2:HT H n x d.dv) (h3:H l=some (.lst (ws.map V.int))) (h4:ws.length=d.vals.length) (h5:row.length<=12) (h6:∀H',H' an=some (.lst ((oK row (ws.getD 0 0) d).map V.int))->(∀b o,b≠an->H b=some o->H' b=some o)->Q .bI H'):Dh vs H Q
def Jg:Sp:=λvs H Q _=>Dh vs H Q
theorem xi(D:dq K mg "change_row" "change_row" j5 ["row","deed","worths"])(T:Tx K mg C CN CR F FD):Def P w K mg base "change_row" 1 ["row","deed","worths"] Jg:=by
 have sc:aE ["row","deed","worths"] ["row","deed","worths"] (aA j5):=by walk_at "s"
 symm;obtain⟨G,x,l,row,ws,n,d,rfl,c,u,I,B,g,q⟩:=h;have i:=hr.units;calc⟨_,(ao (aU (PW.pt (pw_and (aC (aV i) (ak i (aq 1) ai) aD (aG _)) (pw_and1 (aC fm (bb aM rfl T.bX S' (ag (aq 0) aa)) (fV T.fG rfl) (aG _))))) (ao (bW (dF ma og oh bN (aq 0) (ag (ak i (aq 2) ai) aa)))) (ao (aU (PW.pt (pw_and (aC (aV i) (ak i (aq 1) ai) aD (aG _)) (pw_and1 (aC mL (bb aM rfl T.bX S' (ag (aq 0) aa)) ai (aG _))))) (ao (LS (aq 0) ai)) aJ)))),?_⟩;obtain⟨a,J,rfl,t⟩:=xh u;by_cases k:d.word="put"
 ·obtain⟨g,v⟩:=Jd k;rw[k] at t;have g:=iu (ws:=ws) (j:=0) ();rw[v] at q;walk_at "jg";refine bL _ (.inl ⟨_,aT.of c,rfl⟩) ?_;rw[List.length_map];by_cases m:row.length < 12
  ·rw[if_pos m]at q;left;rw[if_pos (by simp;lia)];walk_at "jg";refine⟨.inl ⟨rfl,_,aT.of c⟩,?_⟩;walk_at "jg";refine hV _ c (aaU (by simp;lia) (aI (n:=100) ())) ?_;exact q _ (by rw[af,List.map_append];rfl) λb o y e=>by rw[ay y];exact e
  ·rw[if_neg m]at q;left;rw[if_neg (by simp;lia)];walk_at "jg";exact q H c λ_ _ _ e=>e
 by_cases p:d.word="drop"
 ·rw[p] at t;rw[EX p] at q;walk_at "jg";refine bL _ (.inl ⟨_,aT.of c,rfl⟩) ?_;clear k p u B
  cases row with
  |nil=>
   left
   try rw[if_neg nofun]
   calc q H c λ_ _ _ e=>e
  |cons r g=>
   left;rw[if_pos nofun];walk_at "jg";refine abd _ _ _ 0 rfl rfl c ∅ ∅ (by simp[seqIndex?]) ?_;exact q _ af λb o y e=>by rw[ay y];exact e
 ·rw[Je k p]at q;left;calc da t (az (j:=0) rfl) ?_;left;rw[if_neg λz=>k (of_decide_eq_true z)];left;calc da t (az (j:=0) rfl) ?_;left;rw[if_neg λz=>p (of_decide_eq_true z)];left;calc q H c λ_ _ _ e=>e
abbrev m7:Stmt:=top 48
inductive zr(vs:List V)(H:Hp)(Q:VK):Prop
 |mk (x:V) (l:Addr) (ws:List Int) (n:Nat) (d:bC) (h0:vs=[x,.ref l]) (h1:HT H n x d.dv) (h2:H l=some (.lst (ws.map V.int))) (h3:ws.length=d.vals.length) (h4:Q (.int (oM (ws.getD 0 0) (ws.getD 1 0) d)) H):zr vs H Q
def Di:Sp:=λvs H Q _=>zr vs H Q
theorem Bu(D:dq K mg "left_out" "left_out" m7 ["deed","worths"])(T:Tx K mg C CN CR F FD):Def P w K mg base "left_out" 1 ["deed","worths"] Di:=by
 have sc:aE ["deed","worths"] ["deed","worths"] (aA m7):=by walk_at "s"
 symm;obtain⟨x,l,ws,n,d,rfl,c,b,i,q⟩:=h;have b:=hr.units;refine⟨_,(aj (aU (PW.pt (pw_and (aC (aV b) (ak b (aq 0) ai) aD (aG _)) (pw_and1 (aC fm (ak b (aq 1) ai) (ak b (aq 1) ai) (aG _))))) (ao (aH (ak b (aq 0) ai))) aJ)
  (ao (aH ai))),?_⟩
 obtain⟨a,o,rfl,k⟩:=xh c;by_cases e:d.word="skip"
 ·obtain⟨u,v,b,k,l,m⟩:=EY c e;rw[m] at q;have b:=iu (ws:=ws) (j:=0) ();have b:=iu (ws:=ws) (j:=1) ();clear c i m e;walk_at "jg";by_cases g:ws.getD 0 0 < ws.getD 1 0
  ·rw[if_pos g]at q;left;rw[if_pos (decide_eq_true g)];walk_at "jg";exact q
  ·rw[if_neg g]at q;left;rw[if_neg λz=>g (of_decide_eq_true z)];left;exact q
 ·rw[zp e]at q;left;calc da k (az (j:=0) rfl) ?_;left;rw[if_neg λz=>e (of_decide_eq_true z)];left;calc q
theorem Jh{d:TT}{f:TS}{D:Ends}(e:St->Hp->Prop)(μ:St->Nat)(h:e σ H)
  (i:∀σ H,e σ H->d σ H λb H1=>if b=true then ∃N:St->Hp->Prop,(∀a H',N a H'->e a H'/\μ a<μ σ)/\f {D with nx:=N,ct:=N,bk:=D.nx} σ H1 else D.nx σ H1)
  (c:∀σ H (Q g:Bool->Hp->Prop),(∀b H1,Q b H1->g b H1)->d σ H Q->d σ H g):wc d f D σ H:=by
 calc⟨λm σ H=>m=μ σ/\e σ H,⟨_,rfl,h⟩,?_⟩;rintro m σ H ⟨rfl,p⟩;refine c σ H _ _ (λb H1 q=>?_) (i σ H p)
 cases b with
 |true=>
  obtain⟨N,c,d⟩:=q;calc⟨N,λa H' n=>⟨_,(c a H' n).2,rfl,(c a H' n).1⟩,d⟩
 |false=>calc q
def SL(H:Hp)(a:List V)(b:List (Int×Int)):Prop:=a.length=b.length/\∀(i:Nat) z p,a[i]?=some z->b[i]?=some p->HT H 1 z (.tup [.int p.1,.int p.2])
theorem SL.aK(s:cm H H'){a:List V}{b:List (Int×Int)}(h:SL H a b):SL H' a b:=⟨h.1,λi z p a b=>(h.2 i z p a b).aK s⟩
theorem SL.snoc{c:List V}{d:List (Int×Int)}{j w:Int}(h:SL H c d)(g:HT H 1 z (.tup [.int j,.int w])):SL H (c++[z]) (d++[(j,w)]):=by
 calc⟨by simp[h.1],λi j p a b=>?_⟩;by_cases e:i<c.length
 ·rw[List.getElem?_append_left e]at a;rw[List.getElem?_append_left (by rw[<-h.1];calc e)]at b;exact h.2 i j p a b
 ·rw[List.getElem?_append_right ()] at a;rw[List.getElem?_append_right (by rw[<-h.1];lia)] at b;rw[h.1] at a
  cases f:i-d.length with
  |zero=>rw[f]at a b;cases a;cases b;calc g
  |succ k=>rw[f]at a;simp at a
structure Res(H H':Hp)(x:V)(s:WS):Prop where
 ex:∃p st l1 l2 zs,x=.ref p/\H' p=some (.tup [st,.ref l1,.ref l2])/\HT H' 2 st (yC s.ns s.row)/\H' l1=some (.lst zs)/\SL H' zs s.cV/\H' l2=some (.lst (s.words.map V.int))/\H l1=none/\H l2=none/\l1≠l2
theorem Dj{M w:Int}(e:0<M)(b:∀z∈ns,0<=z/\z<M)(f:0<=w/\w<M):∀z∈jN M ns w d,0<=z/\z<M:=by
 have a:∀(j:Nat) (y:Int),(0<=y/\y<M)->∀z∈ns.set j y,0<=z/\z<M:=λj y g z i=>by
  rcases List.mem_or_eq_of_mem_set i with h|h
  ·exact b z h
  ·rw[h];exact g
 have c:∀y:Int,0<=y%M/\y%M<M:=λy=>⟨aa2 _ (),aaJ _ e⟩
 cases d with
 |set i v=>calc a _ _ f
 |add i v=>calc a _ _ (c _)
 |times i v=>calc a _ _ (c _)
 |_=>calc b
theorem Ji{w:Int}{row:List Int}{d:bC}(h:row.length<=12):(oK row w d).length<=12:=by
 cases d with
 |put v=>
  show(if row.length<12 then row++[w] else row).length<=12;split
  ·simp;lia
  ·calc h
 |drop=>show row.tail.length<=12;simp;lia
 |_=>calc h
theorem Jj{m w w':Int}{d:bC}(h:d.ok m):0<=oM w w' d:=by
 cases d with
 |skip v u k=>
  show 0<=(if w<w' then k else 0)
  split
  ·exact Int.le_trans ∅ h.2.2.1
  ·calc Int.le_refl _
 |_=>calc Int.le_refl _
theorem oZ{m:Int}(h:d.ok m):∀v∈d.vals,v.ok m:=by
 intro v a
 cases d<;>simp only[bC.vals,List.mem_cons,List.not_mem_nil,or_false]at a
 case set=>subst a;exact h.2.2
 case add=>subst a;exact h.2.2
 case times=>subst a;exact h.2.2
 case put=>subst a;exact h
 case send=>subst a;exact h.2
 case say=>subst a;exact h
 case skip=>rcases a with rfl|rfl;calc h.1;calc h.2.1
theorem VL.get{H:Hp}{n:Nat}{xs:List V}{vs:List Val}(h:VL H n xs vs):∀{i:Nat}{x:V},xs[i]?=some x->∃v,vs[i]?=some v/\HT H n x (Val.dv v):=by
 induction h with
 |nil=>intro i x h;simp at h
 |cons a _ b=>
  intro i x h
  cases i with
  |zero=>cases h;calc⟨_,rfl,a⟩
  |succ i=>calc b h
theorem zt:d.vals.length<=2:=by cases d<;>simp[bC.vals]
theorem vH{M way said:Int}{ns row:List Int}{vs:List Val}{i:Nat}(a:0<M):0<=(vs.map (fW M way said ns row)).getD i 0/\(vs.map (fW M way said ns row)).getD i 0<M:=by
 rw[List.getD_eq_getElem?_getD,List.getElem?_map]
 cases vs[i]? with
 |none=>calc⟨Int.le_refl _,a⟩
 |some v=>calc⟨aa2 _ (),aaJ _ a⟩
theorem sk1{a:Nat}{k:Int}(h:0<=k):(a:Int)+(1+k)=((a+1+k.toNat:Nat):Int):=by lia
theorem sk2{α:Type}{x:α}{xs:List α}{a k f:Nat}(h:(x::xs.drop (a+1)).length<=f+1):(xs.drop (a+1+k)).length<=f:=by
 rw[List.length_drop];rw[List.length_cons,List.length_drop]at h;lia
theorem sk3{n a:Nat}{k:Int}(b:a<n)(h:0<=k):n-((a:Int)+(1+k)).toNat<n-a:=by lia
theorem MA{n:Nat}{w:Int}(h:HT H n (.ref a) d.dv)(e:d.word="send"):∃j u,H a=some (.tup [.str "send",.int j,u])/\ik w d=[(j,w)]/\gn w d=[]/\d.vals.length=1:=by
 cases d<;>first|calc absurd e (by simp only[bC.word];decide)|skip
 obtain⟨g,i,j,k,l,z,b,c,f,m⟩:=bU h;obtain rfl:=L2.V.ref.inj z;obtain rfl:=f.cy;obtain rfl:=c.cS;calc⟨_,_,b,rfl,rfl,rfl⟩
theorem Rm{w:Int}(e:d.word="say"):gn w d=[w]/\d.vals.length=1:=by
 cases d<;>first|calc absurd e (by simp only[bC.word];decide)|calc⟨rfl,rfl⟩
theorem zu{w:Int}:(ik w d).length<=1/\(gn w d).length<=1:=by cases d<;>simp[ik,gn]
theorem MB{w:Int}(e:¬d.word="send"):ik w d=[]:=by cases d<;>first|rfl|exact absurd rfl e
theorem Jk{w:Int}(e:¬d.word="say"):gn w d=[]:=by cases d<;>first|rfl|exact absurd rfl e
theorem zw{l:List Int}(h:0<l.length):l[0]?=some (l.getD 0 0):=by
 cases l with
 |nil=>simp at h
 |cons a r=>rfl
abbrev gu:Stmt:=(bR (top 49)).getD 4 (.Pass ⟨0,0,0,0⟩)
def muW(n:Nat)(σ:St):Nat:=match σ[8]? with
 |some (some (V.int i))=>n-i.toNat
 |_=>0
inductive tj(K:W.Frag)(C:Addr)(vs:List V)(H:Hp)(Q:VK):Prop
 |mk (m:Addr) (st:V) (way said M:Int) (ns0 EB:List Int) (ds:List bC) (ns row:List Int) (h0:vs=[.ref m,st,.int way,.int said]) (h1:iq C H m M ns0 EB ds) (h2:yE K H st ns row) (h3:2<=M) (h4:M<=1000000000000) (h5:(∀z∈ns,0<=z/\z<M)) (h6:row.length<=12) (h7:ds.length<=24) (h8:(∀d∈ds,d.ok ns.length)) (h9:∀x H',au H H'->Res H H' x (oN M way said ds ns row)->Q x H'):tj K C vs H Q
def vI(K:W.Frag)(C:Addr):Sp:=λvs H Q _=>tj K C vs H Q
inductive Rn(H:Hp)(m:Addr)(st:V)(way said M:Int)(ds:List bC)(ns row:List Int)(σ:St)(H':Hp):Prop
 |mk (an ar gX aw:Addr) (zs:List V) (z9 Ro:Option V) (at_:Nat) (s:WS) (f:Nat) (h0:σ=[some (.ref m),some st,some (.int way),some (.int said),some (.ref an),some (.ref ar),some (.ref gX),some (.ref aw),some (.int at_),z9,Ro]) (h1:au H H') (h2:H an=none) (h3:H ar=none) (h4:H gX=none) (h5:H aw=none) (h6:an≠ar) (h7:an≠gX) (h8:an≠aw) (h9:ar≠gX) (NW:ar≠aw) (Ri:gX≠aw) (h12:H' an=some (.lst (s.ns.map V.int))) (h13:H' ar=some (.lst (s.row.map V.int))) (h14:H' gX=some (.lst zs)) (h15:SL H' zs s.cV) (h16:H' aw=some (.lst (s.words.map V.int))) (h17:s.ns.length=ns.length) (h18:(∀z∈s.ns,0<=z/\z<M)) (h19:s.row.length<=12) (h20:s.cV.length<=at_) (h21:s.words.length<=at_) (h22:yD M way said f (ds.drop at_) s=oN M way said ds ns row) (h23:(ds.drop at_).length<=f):Rn H m st way said M ds ns row σ H'
theorem qb(D:gj K C "worked" "Machine.worked" gu ["self","state","way","said"])(T:Tx K mg C CN CR F FD)(gv:Def P w K mg base "change_numbers" 1 ["numbers","deed","worths","modulus"] Jf)(j6:Def P w K mg base "change_row" 1 ["row","deed","worths"] Jg)(m9:Def P w K mg base "left_out" 1 ["deed","worths"] Di)(lg:Def P w K mg base "values_of" 1 ["deed"] Dd)(ng:Def P w K mg base "worth_of" 2 ["value","state","way","said","modulus"] (zj K)):eU P w K mg base C "worked" 3 ["self","state","way","said"] (vI K C):=by
  have sc:aE ["self","state","way","said","numbers","row","sent","words","at","deed","worths"] ["self","state","way","said"] (aA gu):=by walk_at "s"
  symm;obtain⟨m,st,k,c,M,ns0,EB,t,ns,row,rfl,hm,jV,EN,p6,hb,oX,NU,aW,q⟩:=h;have O:=hr.units;refine⟨_,(aj (ba (i:=4) sc.nd rfl Sort (dG cF rfl T.ft Aj (ag (ak O (aq 1) ai) aa)))
    (aj (ba (i:=5) sc.nd rfl Sort (dG cF rfl T.ft Aj (ag (ak O (aq 1) ai) aa)))
    (aj (ba (i:=6) sc.nd rfl Sort (bD aa))
    (aj (ba (i:=7) sc.nd rfl Sort (bD aa))
    (aj (ba (i:=8) sc.nd rfl Sort ai)
    (aj (Gn PassesOwn.never (B5 fm (pv 8) (bb aM rfl T.bX S' (ag (bH (pv 0) rfl) aa)) (aG _))
    (aj (ba (i:=9) sc.nd rfl Sort (ak O (bH (aq 0) rfl) (aq 8)))
    (aj (ig (i:=10) sc.nd rfl Sort (N':=["value","way","said","numbers","row","self"]) (ix:=[none,some 2,some 3,some 4,some 5,some 0]) (cE (aN lg hr (ag (aq 9) aa))) (λ_ _ _ _=>(bf (i:=0) (show(["value","way","said","numbers","row","self"]:List Str).Nodup by decide +kernel) rfl Sort)) pS (λ_ _ _ _=>(aN ng hr (ag (aq 0) (ag (bA (ag (aq 3) (ag (aq 4) aa))) (ag (aq 1) (ag (aq 2) (ag (LX (K:=K) rfl (aq 5) rfl) aa))))))))
    (aj (bW (aN gv hr (ag (aq 4) (ag (aq 9) (ag (aq 10) (ag (bH (aq 0) rfl) aa))))))
    (aj (bW (aN j6 hr (ag (aq 5) (ag (aq 9) (ag (aq 10) aa)))))
    (aj (aU (aC (aV O) (ak O (aq 9) ai) aD (aG _)) (ao (bW (dF ma og oh bN (aq 6) (ag (bA (ag (ak O (aq 9) ai) (ag (ak O (aq 10) ai) aa))) aa)))) (ao (aU (aC (aV O) (ak O (aq 9) ai) aD (aG _)) (ao (bW (dF ma og oh bN (aq 7) (ag (ak O (aq 10) ai) aa)))) aJ)))
    (ao (Pq (i:=8) sc.nd rfl Sort (aQ cQ ai (aN m9 hr (ag (aq 9) (ag (aq 10) aa)))) Pr))))))))
    (ao (aH (bA (ag (bA (ag (dG cM rfl T.cJ uN (ag (aq 4) aa)) (ag (dG cM rfl T.cJ uN (ag (aq 5) aa)) aa))) (ag (aq 6) (ag (aq 7) aa)))))))))))),?_⟩
  nofun;obtain⟨dx,stm,dd,FQ,hm2,hm3⟩:=hm;obtain⟨ad,xs,rfl,Wd,uv⟩:=VZ hm3;obtain⟨sa,sb,We,rfl,Wf,hsb,hsc⟩:=jV;ac_rfl;left;calc dy _ _ (.inr (bJ.of Wf)) rfl ?_;left;calc bL _ hsb (λB Rp=>?_);have Z:=au.new (.lst (ns.map V.int)) Rp;left;calc dy _ _ (.inr (bJ.of (Z _ _ Wf))) rfl ?_;left;have Rq:aT K (upd H B (.lst (ns.map V.int))) We (row.map V.int)\/bJ K (upd H B (.lst (ns.map V.int))) We (row.map V.int):=hsc.elim (λz=>.inl (Z.seq z)) (λz=>.inr (Z.SY z));calc bL _ Rq (λI EZ=>?_);have R:=au.new (.lst (row.map V.int)) EZ;left;calc⟨aab _,λu qc=>?_⟩;have r:=au.new (.lst []) qc;left;calc⟨aab _,λG Y=>?_⟩;have W:=au.new (.lst []) Y;left;have nra:I≠B:=λz=>by subst z;rw[af]at EZ;cases EZ
  have hrH:H I=none:=Z.free EZ;have hsH:H u=none:=(Z.trans R).free qc;have hwH:H G=none:=(Z.trans (R.trans r)).free Y;have nsa:u≠B:=λz=>by subst z;rw[R _ _ af]at qc;cases qc
  have nsr:u≠I:=λz=>by subst z;rw[af]at qc;cases qc
  have nwa:G≠B:=λz=>by subst z;rw[r _ _ (R _ _ af)]at Y;cases Y
  have nwr:G≠I:=λz=>by subst z;rw[r _ _ af]at Y;cases Y
  have nws:G≠u:=λz=>by subst z;rw[af]at Y;cases Y
  have Jl:=Z.trans (R.trans (r.trans W));have KZ:0<M:=by lia
  refine Jh (Rn H m (.ref sa) k c M t ns row) (muW t.length) ?_ ?_ ?_
  · refine⟨B,I,u,G,[],none,none,0,⟨ns,row,[],[]⟩,t.length,rfl,Jl,Rp,hrH,hsH,hwH,Ne.symm nra,Ne.symm nsa,Ne.symm nwa,Ne.symm nsr,Ne.symm nwr,Ne.symm nws,W _ _ (r _ _ (R _ _ af)),W _ _ (r _ _ af),W _ _ af,⟨rfl,λi z p e=>by simp at e⟩,af,rfl,hb,oX,K' _,K' _,rfl,K' _⟩
  · intro σ H1 iS;obtain⟨B,I,u,G,zs,z9,Ro,g,s,f,rfl,sH,a1,a2,a3,a4,n1,n2,n3,n4,n5,n6,e1,e2,e3,MC,e5,K0,KS,zx,K1,Y4,S,NZ⟩:=iS;have ME:=sH _ _ FQ;have Wg:=sH _ _ Wd;have abK:=uv.aK sH.aS;left;calc fq ME T.cT T.NQ VY ?_;left;calc bL _ (.inr ⟨_,bJ.of Wg,rfl⟩) ?_;by_cases ko:g < t.length
    · have Wh:g < xs.length:=by rw[uv.1];exact ko
      left;rw[if_pos (by simpa using Wh)];calc⟨λσ' H'=>Rn H m (.ref sa) k c M t ns row σ' H'/\muW t.length σ'<t.length-g,λσ' H' h=>h,?_⟩;have uy:=aW t[g] (aaa ko);have hx:=abK.2 g xs[g] t[g] (di Wh) (di ko);have Td:t.drop g=t[g]::t.drop (g+1):=List.drop_eq_getElem_cons ko;nofun;generalize hdd:t[g]=d at uy hx Td;generalize hxx:xs[g]=x at hx;have exx:xs[g]?=some x:=by rw[di Wh,hxx]
      obtain⟨f',rfl⟩:∃f',f=f'+1:=⟨f-1,by rw[Td]at NZ;simp at NZ;lia⟩
      rw[Td]at S NZ
      replace S:yD M k c f' ((t.drop (g+1)).drop (mH M k c d s).toNat) (fX M k c d s)=oN M k c t ns row:=S
      ac_rfl;rw[List.drop_drop]at S;left;calc fq ME T.cT T.NQ VY ?_;left;calc dy _ x (.inr (bJ.of Wg)) (az exx) ?_;left;calc bV ?_;left;calc⟨x,3,d,rfl,hx,λl zv k0 H2 R Wi hl NX=>?_⟩;calc .inl ⟨⟨_,aT.of hl⟩,λD hD=>?_⟩;have K2:=NX.len;have r8:=zt (d:=d);refine bE (J:=x6 K l) (n:=zv.length) (λi ys H'=>ys=((d.vals.take i).map (fW M k c s.ns s.row)).map V.int/\au H2 H') (P' (aI ())) ⟨rfl,au.new _ hD⟩ ?_ ?_ ?_ ?_
      · rintro i ys H' hi ⟨_,r⟩;exact⟨_,zv[i],aT.of (r _ _ hl),di hi⟩
      · rintro ys H' ⟨_,r⟩;exact⟨_,aT.of (r _ _ hl),K' _⟩
      · intro i ys H3 hi bP zh jc y H4 sW;nofun;obtain⟨rfl,r⟩:=jc;obtain⟨rfl,hy⟩:=sW;have ey:=hy _ (aT.of (r _ _ hl));obtain⟨v,ev,hv⟩:=NX.get ey;ac_rfl;have jf:=oZ uy v (aaf ev);calc⟨Ext.set (Ext.refl _) rfl,?_⟩;left;rw[if_pos trivial];calc⟨cf,λp hp=>?_⟩;have W:=au.new (.tup [.ref B,.ref I]) hp;have Wj:=R.trans (r.trans W);calc fq (Wj _ _ ME) T.cT T.NP VX ?_;calc⟨y,.ref p,k,c,M,v,s.ns,s.row,k0,rfl,(hv.aK (r.trans W).aS),⟨p,B,I,rfl,af,.inl (aT.of (Wj _ _ e1)),.inl (aT.of (Wj _ _ e2))⟩,by rw[K0];calc jf,KZ,?_⟩;refine cD (W _ _ bP) zh hi (P' (aI ())) ⟨?_,λb o e=>?_⟩
        · rw[List.take_add_one,ev];simp[fW]
        · rw[ay (av e hD)];exact W _ _ (r _ _ e)
      rintro ys H3 bP zh ⟨rfl,r⟩;rw[K2,List.take_length]at bP;have X:=R.trans r;have Bv:H1 D=none:=R.free hD;generalize rL:d.vals.map (fW M k c s.ns s.row)=ws at bP;have kD:ws.length=d.vals.length:=by rw[<-rL];simp
      have Wk:0<=ws.getD 0 0/\ws.getD 0 0<M:=by rw[<-rL];exact vH KZ
      have Dk:fX M k c d s=⟨jN M s.ns (ws.getD 0 0) d,oK s.row (ws.getD 0 0) d,s.cV++ik (ws.getD 0 0) d,s.words++gn (ws.getD 0 0) d⟩:=by rw[<-rL];rfl
      have Dl:mH M k c d s=oM (ws.getD 0 0) (ws.getD 1 0) d:=by rw[<-rL];rfl
      rw[Dk,Dl]at S;have E2:∀{b:Addr} {o:HO},H1 b=some o->b≠D:=λe=>av e Bv;left;calc fq (X _ _ ME) T.cT T.NP VX ?_;calc⟨B,x,D,s.ns,ws,M,3,d,rfl,X _ _ e1,hx.aK X.aS,bP,kD,by rw[K0];calc uy,KZ,p6,KS,λH4 e14 k4=>?_⟩;have t4:cm H3 H4:=λb ys e=>k4 b _ (λz=>by subst z;rw[X _ _ e1]at e;cases e) e;left;calc⟨I,x,D,s.row,ws,3,d,rfl,k4 _ _ (Ne.symm n1) (X _ _ e2),hx.aK (X.aS.trans t4),k4 _ _ (Ne.symm (E2 e1)) bP,kD,zx,λL e25 k5=>?_⟩;have t5:cm H4 L:=λb ys e=>k5 b _ (λz=>by subst z;rw[k4 _ _ (Ne.symm n1) (X _ _ e2)]at e;cases e) e;have t15:cm H1 L:=X.aS.trans (t4.trans t5);have kk:∀b o,b≠B->b≠I->H1 b=some o->L b=some o:=λb o ne1 ne2 e=>k5 b o ne2 (k4 b o ne1 (X _ _ e));have e15:=k5 _ _ n1 e14;have Te:=kk _ _ (Ne.symm n2) (Ne.symm n4) e3;have Wl:=kk _ _ (Ne.symm n3) (Ne.symm n5) e5;have CT:L D=some (.lst (ws.map V.int)):=k5 _ _ (Ne.symm (E2 e2)) (k4 _ _ (Ne.symm (E2 e1)) bP);have Rr:=MC.aK t15;have Rt:au H L:=λb o e=>kk b o (av e a1) (av e a2) (sH _ _ e);have FW:=hx.aK t15;have N0:=Jj (w:=ws.getD 0 0) (w':=ws.getD 1 0) uy;obtain⟨a,us,rfl,ha,-⟩:=sU FW uy;left;rename_i N1 hN1 T1 U1 Tf hU1;have fin:∀U K3,au H U->U B=some (.lst ((jN M s.ns (ws.getD 0 0) d).map V.int))->U I=some (.lst ((oK s.row (ws.getD 0 0) d).map V.int))->U u=some (.lst K3)->SL U K3 (s.cV++ik (ws.getD 0 0) d)->U G=some (.lst ((s.words++gn (ws.getD 0 0) d).map V.int))->HT U 3 (.ref a) d.dv->U D=some (.lst (ws.map V.int))->N1 [some (V.ref m),some (V.ref sa),some (V.int k),some (V.int c),some (V.ref B),some (V.ref I),some (V.ref u),some (V.ref G),some (V.int (g:Nat)),some (V.ref a),some (V.ref D)] U:=by
        intro U K3 f0 f1 f2 f3 f4 f5 f6 f7;left;calc⟨.ref a,D,ws,_,_,rfl,f6,f7,kD,?_⟩;left;calc dy _ _ rfl rfl ?_;have l1:=zu (w:=ws.getD 0 0) (d:=d);refine⟨⟨B,I,u,G,K3,some (.ref a),some (.ref D),g+1+(oM (ws.getD 0 0) (ws.getD 1 0) d).toNat,⟨jN M s.ns (ws.getD 0 0) d,oK s.row (ws.getD 0 0) d,s.cV++ik (ws.getD 0 0) d,s.words++gn (ws.getD 0 0) d⟩,f',?_,f0,a1,a2,a3,a4,n1,n2,n3,n4,n5,n6,f1,f2,f3,f4,f5,by rw[pQ];calc K0,Dj (d:=d) KZ KS Wk,Ji (w:=ws.getD 0 0) (d:=d) zx,(by rw[List.length_append];lia),(by rw[List.length_append];lia),S,?_⟩,?_⟩
        · first|rfl|rw[sk1 N0]
        · exact sk2 NZ
        · exact sk3 ko N0
      calc da ha (az (j:=0) rfl) ?_;left;by_cases k1:d.word="send"
      · rw[if_pos (decide_eq_true k1)];obtain⟨j,u2,Mh,es,hv1,hv2⟩:=MA (w:=ws.getD 0 0) FW k1;have Dg:hX (ws.map V.int) 0=some (.int (ws.getD 0 0)):=az (j:=0) (by rw[List.getElem?_map,zw ()];rfl);generalize ws.getD 0 0=w0 at *
        · skip
          left;calc⟨.inl ⟨rfl,_,aT.of Te⟩,?_⟩;calc da Mh (az (j:=1) rfl) ?_;left;calc aZ CT Dg ?_;calc⟨cf,λtp Fy=>?_⟩;have s6:=au.new (.tup [.int j,.int w0]) Fy;calc hV _ (s6 _ _ Te) (aaU (by have:=MC.1;lia) (aI (n:=100) ())) ?_;have htn:tp≠u:=λz=>by subst z;rw[Te]at Fy;cases Fy
          have t6:cm (upd L tp (.tup [.int j,.int w0])) (upd (upd L tp (.tup [.int j,.int w0])) u (.lst (zs++[.ref tp]))):=(cm.refl _).upd λys e=>by rw[s6 _ _ Te]at e;cases e
          have N:∀b o,b≠u->L b=some o->upd (upd L tp (.tup [.int j,.int w0])) u (.lst (zs++[.ref tp])) b=some o:=λb o ne e=>by rw[ay ne];exact s6 _ _ e
          exact fin _ _ (λb o e=>N b o (av e a3) (Rt _ _ e)) (N _ _ n2 e15) (N _ _ n4 e25) af (by rw[es];calc(Rr.aK (s6.aS.trans t6)).snoc (cR (n:=0) (by rw[ay htn];calc af) (.int _) (.int _))) (by rw[hv1,List.append_nil];calc N _ _ (Ne.symm n6) Wl) (FW.aK (s6.aS.trans t6)) (N _ _ (Ne.symm (E2 e3)) CT)
      · rw[if_neg λz=>k1 (of_decide_eq_true z)];have es:=MB (w:=ws.getD 0 0) k1;left;calc da ha (az (j:=0) rfl) ?_;left;by_cases k2:d.word="say"
        · rw[if_pos (decide_eq_true k2)];obtain⟨ew,hv1⟩:=Rm (w:=ws.getD 0 0) k2;have Dg:hX (ws.map V.int) 0=some (.int (ws.getD 0 0)):=az (j:=0) (by rw[List.getElem?_map,zw ()];rfl);generalize ws.getD 0 0=w0 at *
          · skip
            left;calc⟨.inl ⟨rfl,_,aT.of Wl⟩,?_⟩;left;calc aZ CT Dg ?_;calc hV _ Wl (aaU (by simp;lia) (aI (n:=100) ())) ?_;have t6:cm L (upd L G (.lst (s.words.map V.int++[.int w0]))):=(cm.refl _).upd λys e=>by rw[Wl]at e;cases e
            have N:∀b o,b≠G->L b=some o->upd L G (.lst (s.words.map V.int++[.int w0])) b=some o:=λb o ne e=>by rw[ay ne];exact e
            exact fin _ zs (λb o e=>N b o (av e a4) (Rt _ _ e)) (N _ _ n3 e15) (N _ _ n5 e25) (N _ _ n6 Te) (by rw[es,List.append_nil];calc Rr.aK t6) (by rw[af,ew,List.map_append];rfl) (FW.aK t6) (N _ _ (Ne.symm (E2 e5)) CT)
        · rw[if_neg λz=>k2 (of_decide_eq_true z)];have ew:=Jk (w:=ws.getD 0 0) k2;calc L2.bc (by assumption) ?_;exact fin _ _ Rt e15 e25 Te (by rw[es,List.append_nil];calc Rr) (by rw[ew,List.append_nil];calc Wl) FW CT
    · have Wh:¬g < xs.length:=by rw[uv.1];exact ko
      left;rw[if_neg (by simpa using Wh)];rw[List.drop_eq_nil_of_le (),Cz]at S;left;calc .inl ⟨_,aT.of e1,λt1 Bn=>?_⟩;have r1:=au.new (.tup (s.ns.map V.int)) Bn;left;calc .inl ⟨_,aT.of (r1 _ _ e2),λt2 qS=>?_⟩;have r2:=au.new (.tup (s.row.map V.int)) qS;left;calc⟨cf,λt3 Bp=>?_⟩;have r3:=au.new (.tup [.ref t1,.ref t2]) Bp;left;calc⟨by show 3<=sizeLine;decide,λt4 Bq=>?_⟩;have r4:=au.new (.tup [.ref t3,.ref u,.ref G]) Bq;have MG:=r1.trans (r2.trans (r3.trans r4));refine q _ _ (sH.trans MG) ⟨_,_,u,G,zs,rfl,af,?_,MG _ _ e3,?_,?_,a3,a4,n6⟩
      · rw[<-S];exact(cR af (oJ (r3 _ _ (r2 _ _ af))) (oJ (r3 _ _ af))).aK r4.aS
      · rw[<-S];exact MC.aK MG.aS
      · rw[<-S];exact MG _ _ e5
  · intro σ H1 Q Q' hq hc;obtain⟨x,h1,x0,h0,a,C',FK,fs,v,h2,h3,h4,h5,h6,n,h7,h8⟩:=hc;refine⟨x,h1,x0,h0,a,C',FK,fs,v,h2,h3,h4,h5,h6,n,h7,?_⟩
    cases x<;>first
      |calc(show False from h8).elim
      | (obtain⟨k',h9,NW⟩:=h8
         calc⟨k',h9,hq _ _ NW⟩)
abbrev lj:Stmt:=top 67
inductive Jm(vs:List V)(H:Hp)(Q:VK):Prop
 |mk (x:V) (st an ar:Addr) (way said M:Int) (v:Val) (ns row:List Int) (n:Nat) (h0:vs=[x,.ref st,.int way,.int said,.int M]) (h1:HT H n x (Val.dv v)) (h2:H st=some (.tup [.ref an,.ref ar])) (h3:H an=some (.lst (ns.map V.int))) (h4:H ar=some (.lst (row.map V.int))) (h5:v.ok ns.length) (h6:0<M) (h7:row.length<=12) (h8:∀H',au H H'->Q (.int (fW M way said ns row v)) H'):Jm vs H Q
def Dm:Sp:=λvs H Q _=>Jm vs H Q
theorem zy(D:dq K mg "_law_worth" "_law_worth" lj ["_law_value_here","_law_state","_law_way","_law_said","_law_modulus"])(T:Tx K mg C CN CR F FD):Def P w K mg base "_law_worth" 1 ["_law_value_here","_law_state","_law_way","_law_said","_law_modulus"] Dm:=by
 have sc:aE ["_law_value_here","_law_state","_law_way","_law_said","_law_modulus","_law_worth_here"] ["_law_value_here","_law_state","_law_way","_law_said","_law_modulus"] (aA lj):=by walk_at "s"
 symm;obtain⟨x,st,a,Y,way,c,M,v,ns,row,n,rfl,g,R,Z,o,S,k,oX,q⟩:=h;have a:=hr.units;refine⟨_,(aj (ba (i:=5) sc.nd rfl Sort (aq 2))
  (aj (aU (aC (aV a) (ak a (aq 0) ai) aD (aG _)) (ao (ba (i:=5) sc.nd rfl Sort (ak a (aq 0) ai))) aJ)
  (aj (aU (aC (aV a) (ak a (aq 0) ai) aD (aG _)) (ao (ba (i:=5) sc.nd rfl Sort (ak a (ak a (aq 1) ai) (ak a (aq 0) ai)))) aJ)
  (aj (aU (aC (aV a) (ak a (aq 0) ai) aD (aG _)) (ao (ba (i:=5) sc.nd rfl Sort (aq 3))) aJ)
  (aj (aU (aC (aV a) (ak a (aq 0) ai) aD (aG _)) (ao (ba (i:=5) sc.nd rfl Sort (ak a (aQ cQ (dJ (N':=["_law_k","_law_state"]) (ix:=[none,some 1]) (cP rfl T.dY (ag (bb aM rfl T.bX S' (ag (ak a (aq 1) ai) aa)) aa)) (λ_ _ _ _=>(bf (i:=0) (show(["_law_k","_law_state"]:List Str).Nodup by decide +kernel) rfl Sort)) pS (λ_ _ _ _=>(eQ (K:=K) rfl a (eQ (K:=K) rfl a (aq 1) ai) (aq 0)))) (bD (ag ai aa))) ai))) aJ)
  (ao (aH (aQ ck (aq 5) (aq 4))))))))),?_⟩
 left
 cases v with
 |is z=>
  nofun;obtain⟨p,t,w2,u,rfl,y,d,I⟩:=cw g;obtain rfl:=d.cS;obtain rfl:=I.cy;ac_rfl;walk_at "jg";exact⟨k,q H (au.refl H)⟩
 |number i=>
  nofun;obtain⟨p,t,w2,u,rfl,y,d,I⟩:=cw g;obtain rfl:=d.cS;obtain rfl:=I.cy;obtain⟨L,a⟩:=S;obtain⟨j,rfl⟩:=Y' L;ac_rfl;have U:j<ns.length:=by lia
  have a:hX (ns.map V.int) (j:Int)=some (.int ns[j]):=az (by rw[List.getElem?_map,di U];rfl);walk_at "jg";have a:=q H (au.refl H);have N:fW M way c ns row (.number j)=ns[j]%M:=by
   show ns.getD (j:Int).toNat 0%M=_;simp[List.getD_eq_getElem?_getD,di U]
  rw[N]at a;calc⟨k,a⟩
 |first=>
  nofun;obtain⟨p,t,u,rfl,y,d⟩:=jb g;obtain rfl:=d.cS;ac_rfl;walk_at "jg"
  skip
  walk_at "jg";refine bL _ (.inl ⟨_,aT.of o,rfl⟩) ?_;left;have a:(row.map V.int).length=row.length:=by simp
  rw[a];calc iR () () (λD W=>?_);refine bE (J:=DX 0 row.length) (n:=row.length) (λi ys H'=>ys=(row.take i).map V.int/\au H H') (P' (aI ())) ⟨rfl,au.new _ W⟩ (λi ys H' l _=>l) (λys H' _=>K' _) ?_ ?_
  ·intro i ys H' l B G iS x H2 jc;nofun;obtain⟨rfl,m⟩:=iS;obtain⟨rfl,rfl⟩:=jc;ac_rfl;calc⟨Ext.set (Ext.refl _) rfl,?_⟩;have a:=m _ _ R;have O:=m _ _ o;walk_at "jg"
   try rw[if_pos trivial]
   calc aZ O (show hX (row.map V.int) (0+(i:Int))=some (.int row[i]) from by rw[Int.zero_add];calc az (by rw[List.getElem?_map,di l];rfl)) ?_;calc cD B G l (P' (aI ())) ⟨?_,λb o e=>by rw[ay (av e W)];calc m _ _ e⟩;rw[List.take_succ,di l,List.map_append];rfl
  rintro ys H1 B G ⟨rfl,m⟩;rw[List.take_length]at B;walk_at "jg";refine⟨∅,λl G=>?_⟩;have X:=au.new (.lst [.int 0]) G;walk_at "jg";refine .inl ⟨_,_,X _ _ B,af,P' (aI (by simp;lia)),λi a=>?_⟩;have s3:=au.new (.lst (row.map V.int++[.int 0])) a;have N:hX (row.map V.int++[.int 0]) 0=some (.int (sJ ns row way c .first)):=by
   cases row with
   |nil=>calc az (j:=0) rfl
   |cons r a=>exact az (j:=0) rfl
  left;refine aZ af N ?_;walk_at "jg";exact⟨k,q _ (m.trans (X.trans s3))⟩
 |mM=>
  nofun;obtain⟨p,t,u,rfl,y,d⟩:=jb g;obtain rfl:=d.cS;ac_rfl;walk_at "jg";exact⟨k,q _ (au.refl H)⟩
 |way=>
  nofun;obtain⟨p,t,u,rfl,y,d⟩:=jb g;obtain rfl:=d.cS;ac_rfl;walk_at "jg";exact⟨k,q _ (au.refl H)⟩
abbrev Jn:Stmt:=(bR (top 58)).getD 0 (.Pass ⟨0,0,0,0⟩)
def MH(a b c:V):List (Str×V):=bo "own_letters" c (bo "own_ways" b (bo "own_machines" a []))
theorem Wm{a b c:V}:(MH a b c).lookup ("own_machines":Str)=some a:=by
 unfold MH;rw[bx,if_neg ⋯,bx,if_neg ⋯,bx,if_pos rfl]
theorem Wn{a b c:V}:(MH a b c).lookup ("own_ways":Str)=some b:=by
 unfold MH;rw[bx,if_neg ⋯,bx,if_pos rfl]
theorem abO{a b c:V}:(MH a b c).lookup ("own_letters":Str)=some c:=by
 unfold MH;rw[bx,if_pos rfl]
theorem eS{a b c:V}(d:f≠"own_machines")(e:f≠"own_ways")(g:f≠"own_letters"):(MH a b c).lookup f=none:=by
 unfold MH;rw[bx,if_neg g,bx,if_neg e,bx,if_neg d];rfl
def nh(CN:Addr)(H:Hp)(x:Addr)(ms:List Addr)(wv d:List V):Prop:=∃e a b c,H x=some (.ins CN e (MH (.ref a) (.ref b) (.ref c)))/\H a=some (.tup (ms.map V.ref))/\H b=some (.tup wv)/\H c=some (.tup d)
theorem nh.same{CN:Addr}{x:Addr}{d:List V}(s:au H H')(h:nh CN H x ms wv d):nh CN H' x ms wv d:=by
 obtain⟨d,a,b,c,e,f,g,i⟩:=h;calc⟨d,a,b,c,s _ _ e,s _ _ f,s _ _ g,s _ _ i⟩
def zz(C CN:Addr):Sp:=λvs H Q _=>∃(x c d e f:Addr) (ms:List Addr) (wv a:List V) (ws:List (Int×Int×Str)) (ls:List (Int×Int)),vs=[.ref x,.ref d,.ref e,.ref f]/\H x=some (.ins CN c [])/\H d=some (.lst (ms.map V.ref))/\H e=some (.lst wv)/\H f=some (.lst a)/\1<=ms.length/\ms.length<=5/\wv.length<=10/\a.length<=20/\(∀m∈ms,∃c g,H m=some (.ins C c g))/\iT H 1 wv (ws.map kY)/\iT H 1 a (ls.map rm)/\(∀w∈ws,vC ms.length w)/\(∀l∈ls,vD wv.length l)/\∀H',nh CN H' x ms wv a->(∀b o,b≠x->H b=some o->H' b=some o)->Q .bI H'
theorem Wo(D:Er K mg "Net" CN "Net.__init__" Jn ["self","machines","ways","letters"])(T:Tx K mg C CN CR F FD)(j7:Def P w K mg base "refuse_net" 4 ["machines","ways","letters"] (CZ C)):yu P w K mg base "Net" CN 7 ["self","machines","ways","letters"] (zz C CN):=by
 have sc:aE ["self","machines","ways","letters"] ["self","machines","ways","letters"] (aA Jn):=by walk_at "s"
 symm;obtain⟨x,a,y,B,G,ms,wv,W,ws,ls,rfl,g,j,k,l,X,Y,Z,zc,V0,rL,Rf,Mq,vb,q⟩:=h;have hu:=hr.units;refine⟨_,(aj (bW (aN j7 hr (ag (aq 1) (ag (aq 2) (ag (aq 3) aa)))))
  (aj (fR (aq 0) (dG cM rfl T.cJ uN (ag (aq 1) aa)) (fB rfl))
  (aj (fR (aq 0) (dG cM rfl T.cJ uN (ag (aq 2) aa)) (fB rfl))
  (ao (fR (aq 0) (dG cM rfl T.cJ uN (ag (aq 3) aa)) (fB rfl)))))),?_⟩
 try walk_at "rt"
 calc⟨y,B,G,ms,wv,W,ws,ls,rfl,j,k,l,X,Y,Z,zc,V0,rL,Rf,Mq,vb,λH1 I=>?_⟩;have W:=I _ _ g;have W:y≠x:=λz=>by subst z;rw[g]at j;cases j
 have Wq:B≠x:=λz=>by subst z;rw[g]at k;cases k
 have Ru:G≠x:=λz=>by subst z;rw[g]at l;cases l
 try walk_at "rt"
 refine jP (.inl (I _ _ j)) λc H2 s2 J=>?_
 try walk_at "rt"
 have m:=I.trans s2;have ER:=m _ _ g;calc⟨x,CN,a,[],rfl,ER,T.de,T.yU,∅,?_⟩;have L:c≠x:=λz=>by subst z;rw[ER]at J;cases J
 have p:∀b o,b≠x->H2 b=some o->upd H2 x (.ins CN a (bo "own_machines" (.ref c) [])) b=some o:=λb o d e=>by rw[ay d];exact e
 have K4:upd H2 x (.ins CN a (bo "own_machines" (.ref c) [])) x=some (.ins CN a (bo "own_machines" (.ref c) [])):=af;generalize Oa:upd H2 x (.ins CN a (bo "own_machines" (.ref c) []))=G3 at *;have M:=p _ _ L J;have ES:=p _ _ Wq (m _ _ k);have N:=p _ _ Ru (m _ _ l)
 try walk_at "rt"
 refine jP (.inl ES) λi r t O=>?_
 try walk_at "rt"
 have Rv:=t _ _ K4;calc rj x CN a _ rfl Rv T.de T.yV (bT (n:=999) ∅) ?_;have n2:i≠x:=λz=>by subst z;rw[Rv]at O;cases O
 have u:∀b o,b≠x->r b=some o->upd r x (.ins CN a (bo "own_ways" (.ref i) (bo "own_machines" (.ref c) []))) b=some o:=λb o d e=>by rw[ay d];exact e
 have FW:upd r x (.ins CN a (bo "own_ways" (.ref i) (bo "own_machines" (.ref c) []))) x=some (.ins CN a (bo "own_ways" (.ref i) (bo "own_machines" (.ref c) []))):=af;generalize Tg:upd r x (.ins CN a (bo "own_ways" (.ref i) (bo "own_machines" (.ref c) [])))=G5 at *;have R:=u _ _ L (t _ _ M);have S:=u _ _ n2 O;have ET:=u _ _ Ru (t _ _ N)
 try walk_at "rt"
 refine jP (.inl ET) λt3 g v U=>?_
 try walk_at "rt"
 have Ob:=v _ _ FW;calc rj x CN a _ rfl Ob T.de T.Bi (bT (n:=999) (bT (n:=998) ∅)) ?_;have n3:t3≠x:=λz=>by subst z;rw[Ob]at U;cases U
 refine q _ ⟨a,c,i,t3,af,?_,?_,?_⟩ λb o d e=>?_
 ·rw[ay L];exact v _ _ R
 ·rw[ay n2];exact v _ _ S
 ·rw[ay n3];exact U
 ·rw[ay d];calc v _ _ (u _ _ d (t _ _ (p _ _ d (m _ _ e))))
abbrev iy:Stmt:=(bR (top 58)).getD 1 (.Pass ⟨0,0,0,0⟩)
def j8(CN:Addr):Sp:=λvs H Q _=>∃(x:Addr) (ms:List Addr) (wv a:List V),vs=[.ref x]/\nh CN H x ms wv a/\∀l,H l=none->Q (.ref l) (upd H l (.lst (ms.map V.ref)))
theorem tq(D:gj K CN "machines" "Net.machines" iy ["self"])(T:Tx K mg C CN CR F FD):eU P w K mg base CN "machines" 1 ["self"] (j8 CN):=by
 have sc:aE ["self"] ["self"] (aA iy):=by walk_at "s"
 symm;obtain⟨x,ms,wv,e,rfl,⟨g,a,b,i,c,d,j,k⟩,q⟩:=h;have e:=hr.units;calc⟨_,(ao (aH (dG cF rfl T.ft Aj (ag (bH (aq 0) rfl) aa)))),?_⟩;calc fld c T.de T.yU Wm ?_;right;calc⟨_,.inr (bJ.of d),λl e=>q l e⟩
abbrev ni:Stmt:=(bR (top 58)).getD 2 (.Pass ⟨0,0,0,0⟩)
def o7(CN:Addr):Sp:=λvs H Q _=>∃(x:Addr) (ms:List Addr) (wv a:List V),vs=[.ref x]/\nh CN H x ms wv a/\∀l,H l=none->Q (.ref l) (upd H l (.lst wv))
theorem Bx(D:gj K CN "ways" "Net.ways" ni ["self"])(T:Tx K mg C CN CR F FD):eU P w K mg base CN "ways" 1 ["self"] (o7 CN):=by
 have sc:aE ["self"] ["self"] (aA ni):=by walk_at "s"
 symm;obtain⟨x,ms,wv,e,rfl,⟨g,a,b,i,c,j,d,k⟩,q⟩:=h;have e:=hr.units;calc⟨_,(ao (aH (dG cF rfl T.ft Aj (ag (bH (aq 0) rfl) aa)))),?_⟩;calc fld c T.de T.yV Wn ?_;right;calc⟨_,.inr (bJ.of d),λl e=>q l e⟩
abbrev jl:Stmt:=(bR (top 58)).getD 3 (.Pass ⟨0,0,0,0⟩)
def qT(CN:Addr):Sp:=λvs H Q _=>∃(x:Addr) (ms:List Addr) (wv a:List V),vs=[.ref x]/\nh CN H x ms wv a/\∀l,H l=none->Q (.ref l) (upd H l (.lst a))
theorem uz(D:gj K CN "letters" "Net.letters" jl ["self"])(T:Tx K mg C CN CR F FD):eU P w K mg base CN "letters" 1 ["self"] (qT CN):=by
 have sc:aE ["self"] ["self"] (aA jl):=by walk_at "s"
 symm;obtain⟨x,ms,wv,e,rfl,⟨g,a,b,i,c,j,k,d⟩,q⟩:=h;have e:=hr.units;calc⟨_,(ao (aH (dG cF rfl T.ft Aj (ag (bH (aq 0) rfl) aa)))),?_⟩;calc fld c T.de T.Bi abO ?_;right;calc⟨_,.inr (bJ.of d),λl e=>q l e⟩
def Oc(M way said:Int):Nat->List bC->WS->WS
 |_,[],s=>s
 |l+1,_::r,s=>Oc M way said l r s
 |0,d::r,s=>Oc M way said (mH M way said d s).toNat r (fX M way said d s)
theorem xj{M way said:Int}:∀(b:List bC) (l:Nat) (s:WS) (f:Nat),b.length<=f->Oc M way said l b s=yD M way said f (b.drop l) s
 | [],l,s,f,_=>by rw[List.drop_nil,Cz];cases l<;>rfl
 |d::r,l+1,s,f,h=>by
  show Oc M way said l r s=yD M way said f (r.drop l) s;calc xj r l s f (by simp at h;lia)
 |d::r,0,s,f,h=>by
  obtain⟨a,rfl⟩:∃a,f=a+1:=⟨f-1,by simp at h;lia⟩
  show Oc M way said (mH M way said d s).toNat r (fX M way said d s)=yD M way said a (r.drop (mH M way said d s).toNat) (fX M way said d s);calc xj r _ _ a (by simp at h;lia)
theorem Jo{M way said:Int}{a:List bC}:Oc M way said 0 a ⟨ns,row,[],[]⟩=oN M way said a ns row:=xj a 0 _ _ (K' _)
inductive MI(H:Hp)(mt:Addr)(st:V)(way said M:Int)(ds:List bC)(ns row:List Int)(i:Nat)(σ:St)(H':Hp):Prop
 |mk (an ar gX aw:Addr) (zs:List V) (z9 Ro:Option V) (l:Nat) (s:WS) (h0:σ=[some (.ref mt),some st,some (.int way),some (.int said),some (.ref an),some (.ref ar),some (.ref gX),some (.ref aw),some (.int ((l:Nat):Int)),z9,Ro]) (h1:au H H') (a1:H an=none) (a2:H ar=none) (a3:H gX=none) (a4:H aw=none) (n1:an≠ar) (n2:an≠gX) (n3:an≠aw) (n4:ar≠gX) (n5:ar≠aw) (n6:gX≠aw) (e1:H' an=some (.lst (s.ns.map V.int))) (e2:H' ar=some (.lst (s.row.map V.int))) (e3:H' gX=some (.lst zs)) (MC:SL H' zs s.cV) (e5:H' aw=some (.lst (s.words.map V.int))) (K0:s.ns.length=ns.length) (KS:∀z∈s.ns,0<=z/\z<M) (zx:s.row.length<=12) (K1:s.cV.length<=i) (Y4:s.words.length<=i) (oA:Oc M way said l (ds.drop i) s=oN M way said ds ns row):MI H mt st way said M ds ns row i σ H'
inductive Jp(K:W.Frag)(vs:List V)(H:Hp)(Q:VK):Prop
 |mk (mt ln lr ld:Addr) (st:V) (way said M:Int) (xs:List V) (ds:List bC) (ns row:List Int) (h0:vs=[.ref mt,st,.int way,.int said]) (Wr:H mt=some (.tup [.int M,.ref ln,.ref lr,.ref ld])) (h1:H ld=some (.lst xs)) (h2:iT H 2 xs (ds.map bC.dv)) (h3:yE K H st ns row) (h5:2<=M) (h6:M<=1000000000000) (h7:∀z∈ns,0<=z/\z<M) (h9:row.length<=12) (NW:ds.length<=24) (Ri:∀d∈ds,d.ok ns.length) (h13:∀x H',au H H'->Res H H' x (oN M way said ds ns row)->Q x H'):Jp K vs H Q
theorem Rw{xs:List V}:fe xs none (some 12)=xs.take 12:=by
 unfold fe;have a:HT.eO xs.length 0 none=0:=rfl;rw[a];have b:HT.eO xs.length xs.length (some 12)=min 12 xs.length:=by
  unfold HT.eO;simp
 rw[b,List.drop_zero,Nat.sub_zero];by_cases h:xs.length<=12
 ·rw[Nat.min_eq_right h,List.take_length,List.take_of_length_le h]
 ·rw[Nat.min_eq_left ()]
theorem Ws{xs:List V}:fe xs (some 1) none=xs.tail:=by
 unfold fe;have b:HT.eO xs.length xs.length none=xs.length:=rfl;rw[b]
 cases xs with
 |nil=>simp
 |cons a r=>
  have b:HT.eO (a::r).length 0 (some 1)=1:=by
   unfold HT.eO;simp
  rw[b];simp
theorem Dn{α:Type}{l m:List α}{i:Nat}(h:l.length<=i)(h':m.length<=1):(l++m).length<=i+1:=by rw[List.length_append];lia
theorem MJ{x:Int}(h:row.length<=12):fe (row.map V.int++[x].map V.int) none (some 12)=(if row.length<12 then row++[x] else row).map V.int:=by
 rw[Rw,<-List.map_append,<-List.map_take];split
 ·rw[List.take_of_length_le (by simp;lia)]
 ·rw[List.take_append_of_le_length (),List.take_of_length_le h]
abbrev j9:Stmt:=top 68
def Dp(K:W.Frag):Sp:=λvs H Q _=>Jp K vs H Q
theorem xk(D:dq K mg "_law_worked" "_law_worked" j9 ["_law_machine_here","_law_state","_law_way","_law_said"])(T:Tx K mg C CN CR F FD)(lp:Def P w K mg base "_law_worth" 1 ["_law_value_here","_law_state","_law_way","_law_said","_law_modulus"] Dm):Def P w K mg base "_law_worked" 2 ["_law_machine_here","_law_state","_law_way","_law_said"] (Dp K):=by
 have sc:aE ["_law_machine_here","_law_state","_law_way","_law_said","_law_numbers","_law_row","_law_sent","_law_words","_law_left","_law_deed_here","_law_worths"] ["_law_machine_here","_law_state","_law_way","_law_said"] (aA j9):=by walk_at "s"
 symm;obtain⟨mt,g,lr,ld,st,k,a,M,xs,U,ns,row,rfl,Wr,Wd,uv,jV,EN,p6,hb,oX,NU,aW,q⟩:=h;have g:=hr.units;refine⟨_,(aj (ba (i:=4) sc.nd rfl Sort (dG cF rfl T.ft Aj (ag (ak g (aq 1) ai) aa)))
  (aj (ba (i:=5) sc.nd rfl Sort (dG cF rfl T.ft Aj (ag (ak g (aq 1) ai) aa)))
  (aj (ba (i:=6) sc.nd rfl Sort (bD aa))
  (aj (ba (i:=7) sc.nd rfl Sort (bD aa))
  (aj (ba (i:=8) sc.nd rfl Sort ai)
  (aj (fg PassesOwn.never rfl (cE (ak g (aq 0) ai)) (bf (i:=9) sc.nd rfl Sort)
  (aj (ig (i:=10) sc.nd rfl Sort (N':=["_law_one","_law_way","_law_said","_law_numbers","_law_row","_law_machine_here"]) (ix:=[none,some 2,some 3,some 4,some 5,some 0]) (cE (pv 9)) (λ_ _ _ _=>(bf (i:=0) (show(["_law_one","_law_way","_law_said","_law_numbers","_law_row","_law_machine_here"]:List Str).Nodup by decide +kernel) rfl Sort)) (λ_ _ _ _=>(jY (bG (bb (pO (K:=K) rfl) rfl T.aX ua (ag (aq 0) (ag (dC (v:=.ty "tuple") rfl T.cJ uN rfl) aa)))))) (λ_ _ _ _=>(aN lp hr (ag (aq 0) (ag (bA (ag (aq 3) (ag (aq 4) aa))) (ag (aq 1) (ag (aq 2) (ag (eQ (K:=K) rfl g (aq 5) ai) aa))))))))
  (ao (aU (aC mL (aq 8) ai (aG _)) (ao (ba (i:=8) sc.nd rfl Sort (aQ dI (aq 8) ai))) (ao (aU (aC (aV g) (ak g (aq 9) ai) aD (aG _)) (ao (fC (ak g (aq 10) ai) (i9 (aq 4) (ak g (aq 9) ai) eF))) (ao (aU (aC (aV g) (ak g (aq 9) ai) aD (aG _)) (ao (fC (aQ ck (aQ cQ (ak g (aq 4) (ak g (aq 9) ai)) (ak g (aq 10) ai)) (ak g (aq 0) ai)) (i9 (aq 4) (ak g (aq 9) ai) eF))) (ao (aU (aC (aV g) (ak g (aq 9) ai) aD (aG _)) (ao (fC (aQ ck (aQ mi (ak g (aq 4) (ak g (aq 9) ai)) (ak g (aq 10) ai)) (ak g (aq 0) ai)) (i9 (aq 4) (ak g (aq 9) ai) eF))) (ao (aU (aC (aV g) (ak g (aq 9) ai) aD (aG _)) (ao (ba (i:=5) sc.nd rfl Sort (wU (aQ cQ (aq 5) (aq 10)) rG (me ai)))) (ao (aU (aC (aV g) (ak g (aq 9) ai) aD (aG _)) (ao (ba (i:=5) sc.nd rfl Sort (wU (aq 5) (me ai) rG))) (ao (aU (aC (aV g) (ak g (aq 9) ai) aD (aG _)) (ao (bW (dF ma og oh bN (aq 6) (ag (bA (ag (ak g (aq 9) ai) (ag (ak g (aq 10) ai) aa))) aa)))) (ao (aU (aC (aV g) (ak g (aq 9) ai) aD (aG _)) (ao (bW (dF ma og oh bN (aq 7) (ag (ak g (aq 10) ai) aa)))) (ao (aU (aC fm (ak g (aq 10) ai) (ak g (aq 10) ai) (aG _)) (ao (ba (i:=8) sc.nd rfl Sort (ak g (aq 9) ai))) aJ))))))))))))))))))))
  (ao (aH (bA (ag (bA (ag (dG cM rfl T.cJ uN (ag (aq 4) aa)) (ag (dG cM rfl T.cJ uN (ag (aq 5) aa)) aa))) (ag (aq 6) (ag (aq 7) aa)))))))))))),?_⟩
 obtain⟨sa,sb,We,rfl,Wf,g,T⟩:=jV;have KZ:0<M:=by lia
 left;calc da Wf rfl ?_;left;calc bL _ g (λB Rp=>?_);have s1:=au.new (.lst (ns.map V.int)) Rp;left;calc da (s1 _ _ Wf) rfl ?_;left;have g:aT K (upd H B (.lst (ns.map V.int))) We (row.map V.int)\/bJ K (upd H B (.lst (ns.map V.int))) We (row.map V.int):=T.elim (λz=>.inl (s1.seq z)) (λz=>.inr (s1.SY z));calc bL _ g (λN EZ=>?_);have s2:=au.new (.lst (row.map V.int)) EZ;left;calc⟨aab _,λG qc=>?_⟩;have m:=au.new (.lst []) qc;left;calc⟨aab _,λI mW=>?_⟩;have s4:=au.new (.lst []) mW;left;have nra:N≠B:=λz=>by subst z;rw[af]at EZ;cases EZ
 have hrH:H N=none:=s1.free EZ;have hsH:H G=none:=(s1.trans s2).free qc;have hwH:H I=none:=(s1.trans (s2.trans m)).free mW;have nsa:G≠B:=λz=>by subst z;rw[s2 _ _ af]at qc;cases qc
 have nsr:G≠N:=λz=>by subst z;rw[af]at qc;cases qc
 have nwa:I≠B:=λz=>by subst z;rw[m _ _ (s2 _ _ af)]at mW;cases mW
 have nwr:I≠N:=λz=>by subst z;rw[m _ _ af]at mW;cases mW
 have nws:I≠G:=λz=>by subst z;rw[af]at mW;cases mW
 have g:=s1.trans (s2.trans (m.trans s4));have exs:xs.length=U.length:=by simpa using uv.1
 refine da (g _ _ Wr) (az (j:=3) rfl) (.inl ⟨⟨_,aT.of (g _ _ Wd)⟩,jI (K:=K) (xs:=xs) (MI H mt (.ref sa) k a M U ns row) ?_ ?_ ?_ ?_⟩)
 ·refine⟨B,N,G,I,[],none,none,0,⟨ns,row,[],[]⟩,rfl,g,Rp,hrH,hsH,hwH,Ne.symm nra,Ne.symm nsa,Ne.symm nwa,Ne.symm nsr,Ne.symm nwr,Ne.symm nws,s4 _ _ (m _ _ (s2 _ _ af)),s4 _ _ (m _ _ af),s4 _ _ af,⟨rfl,λi z p e=>by simp at e⟩,af,rfl,hb,oX,K' _,K' _,Jo⟩
 ·intro i σ H1 hi iS;obtain⟨B,N,G,I,zs,z9,Ro,l,s,rfl,sH,_⟩:=iS;exact aT.of (sH _ _ Wd)
 ·intro i x σ H1 hxi jc;nofun;obtain⟨B,N,G,I,zs,z9,Ro,l,s,rfl,sH,a1,a2,a3,a4,n1,n2,n3,n4,n5,n6,L,X,O,MC,R,K0,KS,zx,K1,Y4,Y⟩:=jc;have Af:i < U.length:=by rw[<-exs];exact(List.getElem?_eq_some_iff.mp hxi).1
  have uy:=aW U[i] (aaa Af);have hx:=(uv.2 i x (bC.dv U[i]) hxi (by rw[List.getElem?_map,di Af];rfl)).aK sH.aS;have Td:U.drop i=U[i]::U.drop (i+1):=List.drop_eq_getElem_cons Af;generalize hdd:U[i]=d at uy hx Td;rw[Td]at Y;obtain⟨pa,xp,os,k0,rfl,Y5,wj,Rx,qU⟩:=Dc hx;ac_rfl;left;calc bV ?_;left;calc .inr ⟨⟨_,bJ.of Y5⟩,λD hD=>?_⟩;have r8:=zt (d:=d);refine bE (J:=Us K pa) (n:=xp.length) (λi ys H'=>ys=(((os.take i).filterMap id).map (fW M k a s.ns s.row)).map V.int/\au H1 H') (P' (aI ())) ⟨rfl,au.new _ hD⟩ ?_ ?_ ?_ ?_
  ·rintro i ys H' hi ⟨_,m⟩;exact⟨_,xp[i],bJ.of (m _ _ Y5),di hi⟩
  ·rintro ys H' ⟨_,m⟩;exact⟨_,bJ.of (m _ _ Y5),K' _⟩
  ·intro i ys S hi bP zh sW y H4 yZ;nofun;obtain⟨rfl,m⟩:=sW;obtain⟨rfl,g⟩:=yZ;have T:=g _ (bJ.of (m _ _ Y5));obtain⟨o,ho,Jb⟩:=wj.get T;ac_rfl;have zo:os.take (i+1)=os.take i++[o]:=by
    rw[List.take_add_one,ho];rfl
   calc⟨Ext.set (Ext.refl _) rfl,?_⟩;left;rcases Jb with⟨rfl,hc⟩|⟨v,rfl,hvx⟩
   ·have ety:∃t,gM K H4 y t/\W.kitOne K t (.type "tuple")=some false:=by
     rcases hc with⟨w,rfl⟩|⟨j,rfl⟩
     ·exact⟨_,.str w,rfl⟩
     ·exact⟨_,.int j,rfl⟩
    obtain⟨t,h1,h2⟩:=ety;refine dy t false h1 h2 ?_
    first|calc⟨false,rfl,?_⟩|skip
    left
    try rw[if_neg Bool.false_ne_true]
    exact⟨_,bP,(),by rw[zo];simp,m⟩
   ·have Jc:=hvx.aK m.aS;obtain⟨b,K3,rfl,gx⟩:=CA Jc;refine dy _ true (.tup gx) rfl ?_
    first|calc⟨true,rfl,?_⟩|skip
    left
    try first|rw[if_pos rfl]|rw[if_pos trivial]
    have y:v.ok ns.length:=oZ uy v (by rw[<-Rx];calc List.mem_filterMap.mpr ⟨some v,aaf ho,rfl⟩);left;calc⟨cf,λT t=>?_⟩;have g:=au.new (.tup [.ref B,.ref N]) t;calc da (g _ _ (m _ _ (sH _ _ Wr))) (az (j:=0) rfl) ?_;calc⟨.ref b,T,B,N,k,a,M,v,s.ns,s.row,k0,rfl,Jc.aK g.aS,af,g _ _ (m _ _ L),g _ _ (m _ _ X),by rw[K0];calc y,KZ,zx,λH5 t=>?_⟩;calc cD (t _ _ (g _ _ bP)) zh hi (P' (aI ())) ⟨?_,λc o e=>by rw[ay (av e hD)];calc t _ _ (g _ _ (m _ _ e))⟩;rw[zo,List.filterMap_append,List.map_append,List.map_append];rfl
  rintro ys S bP zh ⟨rfl,m⟩;rw[wj.len,List.take_length,Rx]at bP;have Bv:H1 D=none:=hD;nofun;generalize g:d.vals.map (fW M k a s.ns s.row)=ws at bP;have kD:ws.length=d.vals.length:=by rw[<-g];simp
  have Wk:0<=ws.getD 0 0/\ws.getD 0 0<M:=by rw[<-g];exact vH KZ
  have Dk:fX M k a d s=⟨jN M s.ns (ws.getD 0 0) d,oK s.row (ws.getD 0 0) d,s.cV++ik (ws.getD 0 0) d,s.words++gn (ws.getD 0 0) d⟩:=by rw[<-g];rfl
  have Dl:mH M k a d s=oM (ws.getD 0 0) (ws.getD 1 0) d:=by rw[<-g];rfl
  have g:∀{b:Addr} {o:HO},H1 b=some o->b≠D:=λe=>av e Bv;have pD:au H S:=sH.trans m;have K4:=hx.aK m.aS;have xl:=MC.aK m.aS;have t:B≠D:=g L;have t:N≠D:=g X;have t:G≠D:=g O;have t:I≠D:=g R;have nPs:∀{b:Addr} {ys zs:List V},S b=some (.tup ys)->∀{c:Addr},S c=some (.lst zs)->b≠c:=λh1 _ h2 z=>by subst z;rw[h1]at h2;cases h2
  have abT:=pD _ _ Wr
  replace L:=m _ _ L
  replace X:=m _ _ X
  replace O:=m _ _ O
  replace R:=m _ _ R
  ac_rfl;clear wj Rx qU r8 zh hx
  cases l with
  |succ l=>
   left;rw[if_pos nofun];left;calc⟨B,N,G,I,zs,some (.ref pa),some (.ref D),l,s,?_,pD,a1,a2,a3,a4,n1,n2,n3,n4,n5,n6,L,X,O,xl,R,K0,KS,zx,(),(),Y⟩;have:((l+1:Nat):Int)-1=((l:Nat):Int):=by lia
   rw[this]
  |zero=>
  replace Y:Oc M k a (mH M k a d s).toNat (U.drop (i+1)) (fX M k a d s)=oN M k a U ns row:=Y
  rw[Dk,Dl]at Y;left
  try rw[if_neg nofun]
  have g:((ns.length:Nat):Int)=s.ns.length:=by rw[K0]
  have Z:∀H6 Od K3 n' r' YX w' (k':Nat),tf M s.ns s.row (ws.getD 0 0) (ws.getD 1 0) d=(n',r',YX,w',((k':Nat):Int))->au H H6->H Od=none->B≠Od->Od≠G->Od≠I->H6 B=some (.lst (n'.map V.int))->H6 Od=some (.lst (r'.map V.int))->H6 G=some (.lst K3)->SL H6 K3 (s.cV++YX)->H6 I=some (.lst ((s.words++w').map V.int))->MI H mt (.ref sa) k a M U ns row (i+1) [some (.ref mt),some (.ref sa),some (.int k),some (.int a),some (.ref B),some (.ref Od),some (.ref G),some (.ref I),some (.int ((k':Nat):Int)),some (.ref pa),some (.ref D)] H6:=by
   clear bP K4 xl L X O R abT nPs;intro H6 Od K3 n' r' YX w' k' E f0 f1 f2 f3 f4 f5 f6 f7 f8 f9;simp only[tf,Prod.mk.injEq]at E;obtain⟨rfl,rfl,rfl,rfl,E⟩:=E;rw[E,Int.toNat_natCast]at Y;have g:=zu (w:=ws.getD 0 0) (d:=d);exact⟨B,Od,G,I,K3,_,_,k',⟨_,_,_,_⟩,rfl,f0,a1,f1,a3,a4,f2,n2,n3,f3,f4,n6,f5,f6,f7,f8,f9,pQ.trans K0,Dj (d:=d) KZ KS Wk,Ji (d:=d) zx,Dn K1 g.1,Dn Y4 g.2,Y⟩
  have Bt:∀r x,tf M s.ns s.row (ws.getD 0 0) (ws.getD 1 0) d=(s.ns.set r x,s.row,[],[],0)->MI H mt (.ref sa) k a M U ns row (i+1) [some (.ref mt),some (.ref sa),some (.int k),some (.int a),some (.ref B),some (.ref N),some (.ref G),some (.ref I),some (.int 0),some (.ref pa),some (.ref D)] (upd S B (.lst ((s.ns.map V.int).set r (.int x)))):=λr x E=>by
   have t6:cm S (upd S B (.lst ((s.ns.map V.int).set r (.int x)))):=(cm.refl _).upd λys e=>by rw[L]at e;cases e
   exact Z _ N zs _ _ _ _ 0 E (λb o e=>by rw[ay (av e a1)];calc pD _ _ e) a2 n1 n4 n5 (by rw[af,List.map_set]) (by rw[ay (Ne.symm n1)];calc X) (by rw[ay (Ne.symm n2)];calc O) (by rw[List.append_nil];calc xl.aK t6) (by rw[ay (Ne.symm n3),List.append_nil];calc R)
  have Nv:=vG K4 uy;clear K4 uy Y Dk Dl;have NY:∀r:Nat,((r:Nat):Int)<ns.length->AD (s.ns.map V.int).length ((r:Nat):Int)=some r/\hX (s.ns.map V.int) ((r:Nat):Int)=some (.int (s.ns.getD r 0)):=λr hj=>⟨oY (by rw[List.length_map];lia),iu ()⟩
  cases Nv with
  |set r u hj ha hl E=>
   have Dg:=iu (ws:=ws) (j:=0) ();obtain⟨x1,x2⟩:=NY r hj;walk_at "jg";refine dy _ r L x1 ?_;exact Bt _ _ (E _ _ _ _ _)
  |add r u hj ha hl E=>
   have Dg:=iu (ws:=ws) (j:=0) ();obtain⟨x1,x2⟩:=NY r hj;walk_at "jg";refine⟨KZ,?_⟩;walk_at "jg";refine dy _ r L x1 ?_;exact Bt _ _ (E _ _ _ _ _)
  |times r u hj ha hl E=>
   have Dg:=iu (ws:=ws) (j:=0) ();obtain⟨x1,x2⟩:=NY r hj;walk_at "jg";have g:=De KS (j:=r) ();refine⟨.inl ⟨(),()⟩,?_⟩;walk_at "jg";refine⟨KZ,?_⟩;walk_at "jg";refine dy _ r L x1 ?_;exact Bt _ _ (E _ _ _ _ _)
  |put u ha hl E=>
   obtain⟨g,abU⟩:=abt (kD.trans hl);walk_at "jg";refine .inl ⟨_,_,X,bP,P' (aI (by simp;lia)),λg Ab=>?_⟩;have s6:=au.new (.lst (s.row.map V.int++ws.map V.int)) Ab;walk_at "jg";refine .inl ⟨_,af,λl3 By=>?_⟩;have s7:=au.new (.lst (fe (s.row.map V.int++ws.map V.int) none (some 12))) By;have g:=s6.trans s7;have f3:S l3=none:=s6.free By;exact Z _ l3 zs _ _ _ _ 0 (E _ _ _ _ _) (pD.trans g) (pD.free f3) (av L f3) (Ne.symm (av O f3)) (Ne.symm (av R f3)) (g _ _ L) (by rw[af,abU];exact congrArg (λz=>some (HO.lst z)) (MJ zx)) (g _ _ O) (by rw[List.append_nil];exact xl.aK g.aS) (by rw[List.append_nil];exact g _ _ R)
  |drop ha E=>
   walk_at "jg";refine .inl ⟨_,X,λl3 By=>?_⟩;have s7:=au.new (.lst (fe (s.row.map V.int) (some 1) none)) By;exact Z _ l3 zs _ _ _ _ 0 (E _ _ _ _ _) (pD.trans s7) (pD.free By) (av L By) (Ne.symm (av O By)) (Ne.symm (av R By)) (s7 _ _ L) (by rw[af,Ws,List.map_tail]) (s7 _ _ O) (by rw[List.append_nil];exact xl.aK s7.aS) (by rw[List.append_nil];exact s7 _ _ R)
  |send j u ha hl E=>
   have Dg:=iu (ws:=ws) (j:=0) ();walk_at "jg";refine⟨.inl ⟨rfl,_,aT.of O⟩,?_⟩;walk_at "jg";refine⟨cf,λtp Fy=>?_⟩;have s6:=au.new (.tup [.int j,.int (ws.getD 0 0)]) Fy;walk_at "jg";refine hV _ (s6 _ _ O) (aaU (by have:=MC.1;lia) (aI (n:=100) ())) ?_;have t6:cm (upd S tp (.tup [.int j,.int (ws.getD 0 0)])) (upd (upd S tp (.tup [.int j,.int (ws.getD 0 0)])) G (.lst (zs++[.ref tp]))):=(cm.refl _).upd λys e=>by rw[s6 _ _ O]at e;cases e
   have q6:∀b o,b≠G->S b=some o->upd (upd S tp (.tup [.int j,.int (ws.getD 0 0)])) G (.lst (zs++[.ref tp])) b=some o:=λb o ne e=>by rw[ay ne];exact s6 _ _ e
   calc Z _ N _ _ _ _ _ 0 (E _ _ _ _ _) (λb o e=>q6 b o (av e a3) (pD _ _ e)) a2 n1 n4 n5 (q6 _ _ n2 L) (q6 _ _ n4 X) af ((xl.aK (s6.aS.trans t6)).snoc (cR (n:=0) (t6 _ _ af) (.int _) (.int _))) (by rw[List.append_nil];calc q6 _ _ (Ne.symm n6) R)
  |say u ha hl E=>
   have Dg:=iu (ws:=ws) (j:=0) ();walk_at "jg";refine⟨.inl ⟨rfl,_,aT.of R⟩,?_⟩;walk_at "jg";refine hV _ R (aaU (by simp;lia) (aI (n:=100) ())) ?_;have t6:cm S (upd S I (.lst (s.words.map V.int++[.int (ws.getD 0 0)]))):=(cm.refl _).upd λys e=>by rw[R]at e;cases e
   have q6:∀b o,b≠I->S b=some o->upd S I (.lst (s.words.map V.int++[.int (ws.getD 0 0)])) b=some o:=λb o ne e=>by rw[ay ne];exact e
   calc Z _ N zs _ _ _ _ 0 (E _ _ _ _ _) (λb o e=>q6 b o (av e a4) (pD _ _ e)) a2 n1 n4 n5 (q6 _ _ n3 L) (q6 _ _ n5 X) (q6 _ _ n6 O) (by rw[List.append_nil];calc xl.aK t6) (by rw[af,List.map_append];rfl)
  |skip u v kk ha hl E=>
   have Dg:=iu (ws:=ws) (j:=0) ();have g:=iu (ws:=ws) (j:=1) ();have E:=E M s.ns s.row (ws.getD 0 0) (ws.getD 1 0);walk_at "jg";by_cases MK:ws.getD 0 0<ws.getD 1 0
   ·rw[if_pos MK]at E;left;rw[if_pos (decide_eq_true MK)];walk_at "jg";exact Z _ N zs _ _ _ _ kk E pD a2 n1 n4 n5 L X O (by rw[List.append_nil];exact xl) (by rw[List.append_nil];exact R)
   ·rw[if_neg MK]at E;left;rw[if_neg λz=>MK (of_decide_eq_true z)];walk_at "jg";exact Z _ N zs _ _ _ _ 0 E pD a2 n1 n4 n5 L X O (by rw[List.append_nil];exact xl) (by rw[List.append_nil];exact R)
 ·intro σ H1 y0;obtain⟨B,N,G,I,zs,z9,Ro,l,s,rfl,sH,a1,a2,a3,a4,n1,n2,n3,n4,n5,n6,L,X,O,MC,R,K0,KS,zx,K1,Y4,Y⟩:=y0;rw[exs,List.drop_length] at Y;have Y:s=oN M k a U ns row:=by rw[<-Y];cases l <;> rfl
  left;calc .inl ⟨_,aT.of L,λa g=>?_⟩;have i:=au.new (.tup (s.ns.map V.int)) g;left;calc .inl ⟨_,aT.of (i _ _ X),λk l=>?_⟩;have j:=au.new (.tup (s.row.map V.int)) l;left;calc⟨cf,λm o=>?_⟩;have g:=au.new (.tup [.ref a,.ref k]) o;left;calc⟨by show 3<=sizeLine;decide,λr l=>?_⟩;have k:=au.new (.tup [.ref m,.ref G,.ref I]) l;have a:=i.trans (j.trans (g.trans k));refine q _ _ (sH.trans a) ⟨_,_,G,I,zs,rfl,af,?_,a _ _ O,?_,?_,a3,a4,n6⟩
  ·rw[<-Y];exact(cR af (oJ (g _ _ (j _ _ af))) (oJ (g _ _ af))).aK k.aS
  ·rw[<-Y];exact MC.aK a.aS
  ·rw[<-Y];calc a _ _ R
def iz(n:Nat->Nat)(ad:Nat->Nat->Addr)(t:Nat):List V:=(List.range (n t)).map λi=>V.ref (ad t i)
theorem jQ{n:Nat->Nat}{t:Nat}:(iz n ad t).length=n t:=by simp[iz]
theorem aY{n:Nat->Nat}{t i:Nat}(h:i<n t):hX (iz n ad t) (i:Int)=some (.ref (ad t i)):=az (by simp[iz,h])
def zA(bz:V)(p:Addr)(o:Nat->Addr):List (Str×V):=[("own_net",bz),("picks_done",.ref p),("states_had",.ref (o 1)),("words_had",.ref (o 2)),("words_said",.ref (o 3)),("letters_say",.ref (o 4)),("senders",.ref (o 5)),("workers",.ref (o 6))]
section
variable {bz:V}{p:Addr}{o:Nat->Addr}
theorem tx:(zA bz p o).lookup ("own_net":Str)=some bz:=by kernel_rfl
theorem Wu:(zA bz p o).lookup ("picks_done":Str)=some (.ref p):=by kernel_rfl
theorem Jq:(zA bz p o).lookup ("states_had":Str)=some (.ref (o 1)):=by kernel_rfl
theorem abV:(zA bz p o).lookup ("words_had":Str)=some (.ref (o 2)):=by kernel_rfl
theorem Wv:(zA bz p o).lookup ("words_said":Str)=some (.ref (o 3)):=by kernel_rfl
theorem Bz:(zA bz p o).lookup ("letters_say":Str)=some (.ref (o 4)):=by kernel_rfl
theorem Ww:(zA bz p o).lookup ("senders":Str)=some (.ref (o 5)):=by kernel_rfl
theorem E3:(zA bz p o).lookup ("workers":Str)=some (.ref (o 6)):=by kernel_rfl
end
structure xm(C CN:Addr)(H:Hp)(bz:Addr)(nt:NT):Prop where
 ex:∃ms wv lv,nh CN H bz ms wv lv/\ms.length=nt.ms.length/\(∀(i:Nat) m d,ms[i]?=some m->nt.ms[i]?=some d->Ta C H m d)/\iT H 1 wv (nt.ws.map kY)
 ok:nt.Ok
theorem Ta.fr{C:Addr}{d:MD}(f:Fr Z H H')(h:Ta C H m d):Ta C H' m d:=by
 obtain⟨a,st,dd,b,c,e⟩:=h;calc⟨a,st,dd,f.my b id,c.aK f.aS,e.aK f.aS⟩
theorem nh.fr{CN:Addr}{x:Addr}{d:List V}(f:Fr Z H H')(h:nh CN H x ms wv d):nh CN H' x ms wv d:=by
 obtain⟨d,a,b,c,e,g,i,j⟩:=h;calc⟨d,a,b,c,f.my e id,f.my g id,f.my i id,f.my j id⟩
theorem xm.fr{C CN:Addr}{nt:NT}(f:Fr Z H H')(h:xm C CN H bz nt):xm C CN H' bz nt:=by
 obtain⟨⟨ms,wv,c,e,g,j,k⟩,l⟩:=h;calc⟨⟨ms,wv,c,e.fr f,g,λi m d a b=>(j i m d a b).fr f,k.aK f.aS⟩,l⟩
structure bY(C CN CR:Addr)(F:Addr->Prop)(H:Hp)(x bz:Addr)(nt:NT)(r:RS)(ad:Nat->Nat->Addr):Prop where
 ins:∃dx o,H x=some (.ins CR dx (zA (.ref bz) (ad 0 0) o))/\∀t,1<=t->t<=6->H (o t)=some (.lst (iz nt.n ad t))/\¬F (o t)/\¬FP nt.n ad (o t)
 bS:dM F H nt.n ad r.ct
 Wx:xm C CN H bz nt
section
variable {C CN CR:Addr}{F:Addr->Prop}{H H':Hp}{x bz:Addr}{nt:NT}{r:RS}{ad:Nat->Nat->Addr}
theorem bY.keep(h:bY C CN CR F H x bz nt r ad)(f:Fr F H H'):bY C CN CR F H' x bz nt r ad:=by
 obtain⟨⟨d,o,e,c⟩,g,i⟩:=h;calc⟨⟨d,o,f.my e id,λt a b=>⟨f.at (c t a b).1 (c t a b).2.1,(c t a b).2⟩⟩,g.keep f,i.fr f⟩
theorem bY.same(h:bY C CN CR F H x bz nt r ad)(s:au H H'):bY C CN CR F H' x bz nt r ad:=h.keep s.fr
theorem bY.own{c:RS}(h:bY C CN CR F H x bz nt r ad)(f:Fr (FP nt.n ad) H H')(b:dM F H' nt.n ad c.ct):bY C CN CR F H' x bz nt c ad:=by
 obtain⟨⟨d,o,e,c⟩,i,g⟩:=h;calc⟨⟨d,o,f.my e id,λt a b=>⟨f.at (c t a b).1 (c t a b).2.2,(c t a b).2⟩⟩,b,g.fr f⟩
end
abbrev jm:Stmt:=(bR (top 58)).getD 6 (.Pass ⟨0,0,0,0⟩)
def tD(nt:NT)(e j:Nat):Int:=if e=0 then(nt.w j).1 else(nt.w j).2.1
def uA(nt:NT)(e m:Nat):List Nat:=(List.range nt.ws.length).filter λj=>decide (tD nt e j=m)
def BA(C CN:Addr):Sp:=λvs H Q _=>∃(x:Addr) (nt:NT) (m e:Nat),vs=[.ref x,.int m,.int e]/\xm C CN H x nt/\m<nt.ms.length/\e<2/\∀l H',au H H'->H l=none->H' l=some (.lst ((uA nt e m).map λi=>.int (i:Nat)))->Q (.ref l) H'
theorem uB(D:gj K CN "ways_at" "Net.ways_at" jm ["self","m","end"])(T:Tx K mg C CN CR F FD)(S:Def P w K mg base "is_within" 2 ["thing","low","beyond"] cp):eU P w K mg base CN "ways_at" 3 ["self","m","end"] (BA C CN):=by
 have sc:aE ["self","m","end"] ["self","m","end"] (aA jm):=by walk_at "s"
 symm;obtain⟨x,d,m,e,rfl,B,I,L,q⟩:=h;have L:=hr.units;refine⟨_,(aj (aU (cL (bG (aN S hr (ag (aq 1) (ag ai (ag (bb aM rfl T.bX S' (ag (bH (aq 0) rfl) aa)) aa)))))) (ao fu) aJ)
  (ao (aH (dJ (N':=["number","way","m","end"]) (ix:=[none,none,some 1,some 2]) (jZ rfl T.dR (ag (bH (aq 0) rfl) aa)) (λ_ _ _ _=>(j0 (K:=K) rfl (i:=0) (j:=1) rfl (show(["number","way","m","end"]:List Str).Nodup by decide +kernel) rfl rfl Sort Sort)) (λ_ _ _ _=>(jY (aC (oS (K:=K) rfl L) (eQ (K:=K) rfl L (aq 1) (aq 3)) (aq 2) (aG _)))) (λ_ _ _ _=>(aq 0)))))),?_⟩
 nofun;obtain⟨⟨ms,wv,L,S,U,X,M⟩,W⟩:=id B;obtain⟨X,a,b,cc,L,Y,l,h4⟩:=id S;ac_rfl;left;calc⟨x,CN,X,_,_,rfl,L,T.de,T.yU,Wm,_,.inr ⟨_,bJ.of Y,rfl⟩,?_⟩;calc gc (.int m) _ 0 _ rfl (.int _) ?_;rw[show inR 0 (((ms.map V.ref).length:Nat):Int) (.int (m:Int))=true by simp[inR,U,I]];calc kT ?_;rw[if_neg ∅];left;calc bV ?_;left;calc fq L T.de T.yV Wn ?_;left;calc ED false wv (Sq.t l) (λD r=>?_);have Z:wv.length=d.ws.length:=by simpa using M.1
 have x:=W.EC;refine bE (J:=NF false K b) (n:=wv.length) (λi ys H'=>au H H'/\ys=((List.range i).filter λj=>decide (tD d e j=m)).map λj=>V.int (j:Nat)) (P' (aI ())) ⟨au.new _ r,rfl⟩ ?_ ?_ ?_ ?_
 ·rintro i ys H' u ⟨g,_⟩;exact⟨wv,wv[i],Sq.t (g _ _ l),di u⟩
 ·rintro ys H' ⟨g,_⟩;exact⟨wv,Sq.t (g _ _ l),rfl⟩
 ·intro i ys H' u p N iS xx H4 jc;nofun;obtain⟨g,rfl⟩:=iS;obtain⟨t,ht,rfl,y⟩:=jc;obtain⟨k,ex,rfl⟩:=y wv (Sq.t (g _ _ l));have x:i < d.ws.length:=by lia
  have o:=(M.2 i k (kY (d.w i)) ex (by rw[List.getElem?_map,show d.ws[i]?=some (d.w i) from bq x];rfl)).aK g.aS;have v:=au.new (.tup [.int (i:Nat),k]) ht
  replace o:=o.aK v.aS
  have qS:upd H' t (.tup [.int (i:Nat),k]) t=some (.tup [.int (i:Nat),k]):=af;have O:=v _ _ p;have R:=g.trans v;generalize hG:upd H' t (.tup [.int (i:Nat),k])=G at *;obtain⟨ta,u1,u2,u3,kk,rfl,vJ,g1,g2,g3⟩:=bU o;obtain rfl:=g1.cy;obtain rfl:=g2.cy;obtain rfl:=g3.cS;ac_rfl;calc yS (bJ.of qS) ⟨Ext.set (Ext.set (Ext.refl _) rfl) rfl,?_⟩;left;have Wy:hX [V.int (d.w i).1,V.int (d.w i).2.1,V.str (d.w i).2.2] (e:Int)=some (.int (tD d e i)):=by
   have:e=0\/e=1:=by lia
   rcases this with rfl|rfl
   ·exact az (j:=0) rfl
   ·exact az (j:=1) rfl
  calc da vJ Wy ?_;left;have k:(List.range (i+1)).filter (λj=>decide (tD d e j=m))=(List.range i).filter (λj=>decide (tD d e j=m))++(if tD d e i=m then[i] else[]):=by
   rw[List.range_succ,List.filter_append];congr 1;by_cases z:tD d e i=m<;>simp[z]
  by_cases z:tD d e i=m
  ·rw[if_pos (by simp[z])];calc cD O N u (P' (aI ())) ⟨λc o e=>by rw[ay (av e r)];calc R _ _ e,?_⟩;rw[k,if_pos z,List.map_append];rfl
  ·rw[if_neg (by simp[z])];exact⟨_,O,(),R,by rw[k,if_neg z,List.append_nil]⟩
 ·rintro ys H' p N ⟨g,rfl⟩;rw[Z]at p;calc q _ _ g r p
abbrev iA:Stmt:=(bR (top 58)).getD 4 (.Pass ⟨0,0,0,0⟩)
def qV(C CN:Addr):Sp:=λvs H Q _=>∃(x:Addr) (nt:NT) (m:Nat),vs=[.ref x,.int m]/\xm C CN H x nt/\m<nt.ms.length/\∀l H',au H H'->H l=none->H' l=some (.lst ((uA nt 0 m).map λi=>.int (i:Nat)))->Q (.ref l) H'
theorem tE(D:gj K CN "ways_out" "Net.ways_out" iA ["self","m"])(T:Tx K mg C CN CR F FD)(g:eU P w K mg base CN "ways_at" 3 ["self","m","end"] (BA C CN)):eU P w K mg base CN "ways_out" 4 ["self","m"] (qV C CN):=by
 have sc:aE ["self","m"] ["self","m"] (aA iA):=by walk_at "s"
 symm;obtain⟨x,d,m,rfl,c,e,q⟩:=h;have i:=hr.units;calc⟨_,(ao (aH (kr g T.de hr (aq 0) (ag (aq 1) (ag ai aa))))),?_⟩;nofun;obtain⟨⟨ms,wv,j,i,k,l,n⟩,o⟩:=id c;obtain⟨j,a,b,k,g,l,n,o⟩:=id i;ac_rfl;left;calc eD g (eS ⋯ ⋯ ⋯) ?_;calc⟨x,d,m,0,rfl,c,e,∅,q⟩
abbrev jo:Stmt:=(bR (top 58)).getD 5 (.Pass ⟨0,0,0,0⟩)
def tF(C CN:Addr):Sp:=λvs H Q _=>∃(x:Addr) (nt:NT) (m:Nat),vs=[.ref x,.int m]/\xm C CN H x nt/\m<nt.ms.length/\∀l H',au H H'->H l=none->H' l=some (.lst ((uA nt 1 m).map λi=>.int (i:Nat)))->Q (.ref l) H'
theorem uC(D:gj K CN "ways_in" "Net.ways_in" jo ["self","m"])(T:Tx K mg C CN CR F FD)(g:eU P w K mg base CN "ways_at" 3 ["self","m","end"] (BA C CN)):eU P w K mg base CN "ways_in" 4 ["self","m"] (tF C CN):=by
 have sc:aE ["self","m"] ["self","m"] (aA jo):=by walk_at "s"
 symm;obtain⟨x,d,m,rfl,c,e,q⟩:=h;have i:=hr.units;calc⟨_,(ao (aH (kr g T.de hr (aq 0) (ag (aq 1) (ag ai aa))))),?_⟩;nofun;obtain⟨⟨ms,wv,j,i,k,l,n⟩,o⟩:=id c;obtain⟨j,a,b,k,g,l,n,o⟩:=id i;ac_rfl;left;calc eD g (eS ⋯ ⋯ ⋯) ?_;calc⟨x,d,m,1,rfl,c,e,∅,q⟩
def FS(F:Addr->Prop)(H:Hp):Prop:=∀b,F b->∃o,H b=some o/\soft o
theorem FS.fr{F:Addr->Prop}(h:FS F H)(f:Fr Z H H')(c:∀b,F b->¬Z b):FS F H':=λb a=>by
 obtain⟨o,e,s⟩:=h b a;calc⟨o,f.at e (c b a),s⟩
theorem _root_.DD.dM.xo{F:Addr->Prop}{n:Nat->Nat}{ct:Nat->Nat->CO}(h:dM F H n ad ct):∀b,F b->¬FP n ad b:=λb a ⟨t,i,c,e⟩=>h.out t i c (e▸a)
theorem small{n:Nat}(h:n<=20000):n<sizeLine:=by rw[sizeLine_eq];lia
theorem Ry{r:RS}{n:NT}{w:Nat}{x:Int}{s:Option (Int×Int)}:∀t i,i<n.n t->setC (setC (setC r.ct 4 w (.l ((r.ww w).say.map .int++[.int x]))) 5 w (.l ((r.ww w).snd.map pB++[pB s]))) 6 w (.l ((r.ww w).dX.map pB++[.bI])) t i=(r.put w x s).ct t i:=by
 intro t i a;unfold setC
 match t,a with
 |0,_=>simp[RS.ct,RS.put]
 |1,_=>simp[RS.ct,RS.put]
 |2,_=>simp[RS.ct,RS.put]
 |3,_=>simp[RS.ct,RS.put]
 |4,_=>by_cases e:i=w<;>simp[RS.ct,RS.put,e]
 |5,_=>by_cases e:i=w<;>simp[RS.ct,RS.put,e]
 |6,_=>by_cases e:i=w<;>simp[RS.ct,RS.put,e,pB]
 |(t+7),a=>calc absurd a (Nat.not_lt_zero i)
abbrev gw:Stmt:=(bR (top 27)).getD 1 (.Pass ⟨0,0,0,0⟩)
inductive Dq(C CN CR:Addr)(vs:List V)(H:Hp)(Q:VK):Prop
 |mk (F:Addr->Prop) (x bz:Addr) (nt:NT) (r:RS) (ad:Nat->Nat->Addr) (wy:Nat) (said:Int) (sv:V) (s:Option (Int×Int)) (h0:vs=[.ref x,.int (wy:Nat),.int said,sv]) (h1:bY C CN CR F H x bz nt r ad) (h2:FS F H) (h3:wy<nt.ws.length) (h4:HT H 4 sv (pB s)) (h5:r.tZ nt 19999) (h6:∀H',Fr (FP nt.n ad) H H'->bY C CN CR F H' x bz nt (r.put wy said s) ad->Q .bI H'):Dq C CN CR vs H Q
def tH(C CN CR:Addr):Sp:=λvs H Q _=>Dq C CN CR vs H Q
theorem qd(D:gj K CR "put_letter" "Run.put_letter" gw ["self","way","said","sender"])(T:Tx K mg C CN CR F FD):eU P w K mg base CR "put_letter" 1 ["self","way","said","sender"] (tH C CN CR):=by
 have sc:aE ["self","way","said","sender"] ["self","way","said","sender"] (aA gw):=by walk_at "s"
 symm;obtain⟨F,x,bz,g,r,ad,a,c,v,s,rfl,j,I,b,J,k,q⟩:=h;have o:=hr.units;refine⟨_,(aj (bW (dF ma og oh bN (ak o (bH (aq 0) rfl) (aq 1)) (ag (aq 2) aa)))
  (aj (bW (dF ma og oh bN (ak o (bH (aq 0) rfl) (aq 1)) (ag (aq 3) aa)))
  (ao (bW (dF ma og oh bN (ak o (bH (aq 0) rfl) (aq 1)) (ag kG aa)))))),?_⟩
 nofun;obtain⟨x,o,y,d⟩:=j.ins;have z:=j.bS;have o:=(d 4 ∅ ∅).1;have N:=(d 5 ∅ ∅).2.2;have O:=(d 6 ∅ ∅).2.2;have x:=k.bs a b;have x:=k.ls a b;have x:=k.lk a b;obtain⟨l,m,x⟩:=z.lst (t:=4) (i:=a) b rfl;ac_rfl;have k:l.length=(r.ww a).say.length:=by simpa using x.1
 left;calc fq y T.aR T.bF Bz ?_;left;calc aZ o (aY b) ?_;calc⟨.inl ⟨rfl,_,aT.of m⟩,?_⟩;left;calc hV l m (small ()) ?_;have B:=z.app (t:=4) (i:=a) b rfl m (dQ.one (.int c));have e:Fr (FP g.n ad) H (upd H (ad 4 a) (.lst (l++[.int c]))):=Fr.refl.upd ⟨4,a,b,rfl⟩ m trivial;generalize S:upd H (ad 4 a) (.lst (l++[.int c]))=L at *;have o:=e.my y id;have c:=e.at (d 5 ∅ ∅).1 N;obtain⟨p,u,k⟩:=B.lst (t:=5) (i:=a) b rfl;have l:p.length=(r.ww a).snd.length:=by simpa using k.1
 have k:=I.fr e z.xo;left;calc fq o T.aR T.eZ Ww ?_;left;calc aZ c (aY b) ?_;calc⟨.inl ⟨rfl,_,aT.of u⟩,?_⟩;left;calc hV p u (small ()) ?_;have M:=B.app (t:=5) (i:=a) b rfl u (dQ.one (B.ht k (J.aK e.aS)));have G:Fr (FP g.n ad) H (upd L (ad 5 a) (.lst (p++[v]))):=e.upd ⟨5,a,b,rfl⟩ u trivial;generalize U:upd L (ad 5 a) (.lst (p++[v]))=R at *;have l:=G.my y id;have e:=G.at (d 6 ∅ ∅).1 O;obtain⟨k,c,m⟩:=M.lst (t:=6) (i:=a) b rfl;have d:k.length=(r.ww a).dX.length:=by simpa using m.1
 left;calc fq l T.aR T.cU E3 ?_;left;calc aZ e (aY b) ?_;calc⟨.inl ⟨rfl,_,aT.of c⟩,?_⟩;left;calc hV k c (small ()) ?_;have m:=M.app (t:=6) (i:=a) b rfl c (dQ.one (.bI));have d:Fr (FP g.n ad) H (upd R (ad 6 a) (.lst (k++[.bI]))):=G.upd ⟨6,a,b,rfl⟩ c trivial;calc q _ d (j.own d (m.congr Ry))
abbrev nj:Stmt:=(bR (top 7)).getD 0 (.Pass ⟨0,0,0,0⟩)
def lu(c:Nat->Addr):Sp:=λvs H Q _=>∃(a:Addr) (v:V) (d:Bool),vs=[.ref a,v]/\H a=some (XO a (c 4) none d)/\∀b,H b=none->Q .bI (upd (upd H a (XO a (c 4) (some b) d)) b (XD b [("at",v)]))
theorem BB(D:Ia K mg "NoLetter" (c 4) B "NoLetter.__init__" nj ["self","at"])(T:Tx K mg C CN CR F FD)(b:uo K mg B c):yw P w K mg base "NoLetter" (c 4) B 1 ["self","at"] (lu c):=by
 have sc:aE ["self","at"] ["self","at"] (aA nj):=by walk_at "s"
 symm;obtain⟨a,v,d,rfl,e,q⟩:=h;have g:=hr.units;calc⟨_,(ao (Ib (aq 0) (aq 1) (fB rfl))),?_⟩;calc⟨a,c 4,B,d,rfl,e,b.cl 4 ∅,b.cI,λg i=>q g i⟩
abbrev nk:Stmt:=(bR (top 8)).getD 0 (.Pass ⟨0,0,0,0⟩)
def xq(c:Nat->Addr):Sp:=λvs H Q _=>∃(a:Addr) (v:V) (d:Bool),vs=[.ref a,v]/\H a=some (XO a (c 5) none d)/\∀b,H b=none->Q .bI (upd (upd H a (XO a (c 5) (some b) d)) b (XD b [("at",v)]))
theorem BC(D:Ia K mg "NotFirst" (c 5) B "NotFirst.__init__" nk ["self","at"])(T:Tx K mg C CN CR F FD)(b:uo K mg B c):yw P w K mg base "NotFirst" (c 5) B 1 ["self","at"] (xq c):=by
 have sc:aE ["self","at"] ["self","at"] (aA nk):=by walk_at "s"
 symm;obtain⟨a,v,d,rfl,e,q⟩:=h;have g:=hr.units;calc⟨_,(ao (Ib (aq 0) (aq 1) (fB rfl))),?_⟩;calc⟨a,c 5,B,d,rfl,e,b.cl 5 ∅,b.cX,λg i=>q g i⟩
theorem Jr{K:W.Frag}{mg:Str->Option Value}{B:Addr}{c:Nat->Addr}(l:uo K mg B c){E:XK}{D:Ends}{σ:St}{H:Hp}{i:Nat}{h:V}(j:σ[i]?=some (some h))
  (q:∀a d H',au H H'->H' a=some (XO a (c 5) (some d) false)->H' d=some (XD d [("at",h)])->E (.ref a) none H'):Bc K E (tXI (c 5) (xq c) E0 (rZ (tV i) ya)) D σ H:=by
 show tV i σ H _;unfold tV;rw[j];refine⟨by show 1<=10;decide,λa m=>⟨a,h,true,rfl,af,λd f=>⟨rfl,a,c 5,B,some d,rfl,?_,l.cl 5 ∅,?_⟩⟩⟩
 ·have k:a≠d:=λz=>by subst z;rw[af] at f;cases f
  rw[ay k,af]
 ·have k:d≠a:=λz=>by subst z;rw[af] at f;cases f
  refine q a d _ (λb o e=>?_) af ?_
  ·have g:b≠a:=av e m;have n:b≠d:=λz=>by subst z;rw[ay g,e] at f;cases f
   rw[ay g,ay n,ay g,ay g];exact e
  ·rw[ay k,af]
def Lies(nt:NT)(r:RS)(m k:Int):Prop:=∃w i:Nat,m=w/\k=i/\w<nt.ws.length/\(r.ww w).dX[i]?=some none
abbrev fH:Stmt:=(bR (top 27)).getD 2 (.Pass ⟨0,0,0,0⟩)
def Js(C CN CR:Addr):Sp:=λvs H Q _=>∃(F:Addr->Prop) (x bz:Addr) (nt:NT) (r:RS) (ad:Nat->Nat->Addr) (m:Nat),vs=[.ref x,.int m]/\bY C CN CR F H x bz nt r ad/\m<nt.ms.length/\Q .bI H
theorem nr(D:gj K CR "need_machine" "Run.need_machine" fH ["self","m"])(T:Tx K mg C CN CR F FD)(d:Def P w K mg base "is_within" 2 ["thing","low","beyond"] cp):eU P w K mg base CR "need_machine" 3 ["self","m"] (Js C CN CR):=by
 have sc:aE ["self","m"] ["self","m"] (aA fH):=by walk_at "s"
 symm;obtain⟨F,x,bz,a,r,ad,m,rfl,b,c,q⟩:=h;have e:=hr.units;calc⟨_,(ao (aU (cL (bG (aN d hr (ag (aq 1) (ag ai (ag (bb aM rfl T.bX S' (ag (bH (aq 0) rfl) aa)) aa)))))) (ao fu) aJ)),?_⟩;obtain⟨e,o,g,i⟩:=b.ins;have d:=(i 1 ∅ ∅).1;left;calc⟨x,CR,e,_,_,rfl,g,T.aR,T.b8,Jq,_,.inl ⟨_,aT.of d,rfl⟩,?_⟩;calc gc (.int m) _ 0 _ rfl (.int _) ?_;rw[jQ];rw[show inR 0 ((a.n 1:Nat):Int) (.int (m:Int))=true by simp[inR];calc c];calc kT ?_;rw[if_neg ∅];left;calc q
abbrev iB:Stmt:=(bR (top 27)).getD 4 (.Pass ⟨0,0,0,0⟩)
theorem qf{K:W.Frag}{mg:Str->Option Value}{B:Addr}{c:Nat->Addr}(l:uo K mg B c){E:XK}{D:Ends}{σ:St}{H:Hp}{i:Nat}{h:V}(j:σ[i]?=some (some h))
  (q:∀a d H',au H H'->H' a=some (XO a (c 4) (some d) false)->H' d=some (XD d [("at",h)])->E (.ref a) none H'):Bc K E (tXI (c 4) (lu c) E0 (rZ (tV i) ya)) D σ H:=by
 show tV i σ H _;unfold tV;rw[j];refine⟨by show 1<=10;decide,λa m=>⟨a,h,true,rfl,af,λd f=>⟨rfl,a,c 4,B,some d,rfl,?_,l.cl 4 ∅,?_⟩⟩⟩
 ·have k:a≠d:=λz=>by subst z;rw[af] at f;cases f
  rw[ay k,af]
 ·have k:d≠a:=λz=>by subst z;rw[af] at f;cases f
  refine q a d _ (λb o e=>?_) af ?_
  ·have g:b≠a:=av e m;have n:b≠d:=λz=>by subst z;rw[ay g,e] at f;cases f
   rw[ay g,ay n,ay g,ay g];exact e
  ·rw[ay k,af]
def Th(nt:NT)(r:RS)(m k:Int):Prop:=∃w i:Nat,m=w/\k=i/\w<nt.ws.length/\i<(r.ww w).say.length
def Dr(C CN CR:Addr)(c:Nat->Addr):Sp:=λvs H Q E=>∃(F:Addr->Prop) (x bz:Addr) (nt:NT) (r:RS) (ad:Nat->Nat->Addr) (m:Int) (d:V),vs=[.ref x,.int m,d]/\bY C CN CR F H x bz nt r ad/\(0<=m/\m<(nt.ws.length:Int)->Q .bI H)/\(¬(0<=m/\m<(nt.ws.length:Int))->∀a b H',au H H'->H' a=some (XO a (c 4) (some b) false)->H' b=some (XD b [("at",d)])->E (.ref a) none H')
theorem tI(D:gj K CR "need_way" "Run.need_way" iB ["self","way","at"])(T:Tx K mg C CN CR F FD)(i:uo K mg B c)(j:Def P w K mg base "is_within" 2 ["thing","low","beyond"] cp)(k:yw P w K mg base "NoLetter" (c 4) B 1 ["self","at"] (lu c)):dj P w K mg base CR "need_way" 3 ["self","way","at"] (Dr C CN CR c):=by
 have sc:aE ["self","way","at"] ["self","way","at"] (aA iB):=by walk_at "s"
 walk_at "xf"
 ·obtain⟨F,x,bz,b,r,ad,m,e,rfl,d,q,g⟩:=h;rfl
 ·obtain⟨F,x,bz,b,r,ad,m,e,rfl,d,q,g⟩:=h;have e:=hr.units;calc⟨_,(ao (aU (cL (bG (aN j hr (ag (aq 1) (ag ai (ag (bb aM rfl T.bX S' (ag (bH (aq 0) rfl) aa)) aa)))))) (ao (oI rfl rH (Cu k hr (ag (aq 2) aa)))) aJ)),?_⟩;obtain⟨e,o,l,p⟩:=d.ins;have j:=(p 4 ∅ ∅).1;left;calc⟨x,CR,e,_,_,rfl,l,T.aR,T.bF,Bz,_,.inl ⟨_,aT.of j,rfl⟩,?_⟩;calc gc (.int m) _ 0 _ rfl (.int _) ?_;rw[jQ];by_cases d:0<=m/\m < ((b.n 4:Nat):Int)
  ·rw[show inR 0 ((b.n 4:Nat):Int) (.int m)=true by simp only[inR];rw[Bool.and_eq_true,decide_eq_true_eq,decide_eq_true_eq];calc d];calc kT ?_;rw[if_neg ∅];left;exact q d
  ·rw[show inR 0 ((b.n 4:Nat):Int) (.int m)=false by rw[<-Bool.not_eq_true];simp only[inR];rw[Bool.and_eq_true,decide_eq_true_eq,decide_eq_true_eq];calc d];calc kT ?_;rw[if_pos ∅];left;calc qf (D:=⟨λ_ _=>True,λ_ _=>True,λ_ _=>True,λ_ _=>True⟩) i rfl λa e H' b j k=>g d a e H' b j k
abbrev gh:Stmt:=(bR (top 27)).getD 5 (.Pass ⟨0,0,0,0⟩)
theorem eE{bz:V}{o:Nat->Addr}(h:f∉(["own_net","picks_done","states_had","words_had","words_said","letters_say","senders","workers"]:List Str)):(zA bz p o).lookup f=none:=by
 simp only[List.mem_cons,List.not_mem_nil,or_false,not_or]at h;unfold zA;simp[List.lookup,beq_eq_false_iff_ne.mpr h.1,beq_eq_false_iff_ne.mpr h.2.1,beq_eq_false_iff_ne.mpr h.2.2.1,beq_eq_false_iff_ne.mpr h.2.2.2.1,beq_eq_false_iff_ne.mpr h.2.2.2.2.1,beq_eq_false_iff_ne.mpr h.2.2.2.2.2.1,beq_eq_false_iff_ne.mpr h.2.2.2.2.2.2.1,beq_eq_false_iff_ne.mpr h.2.2.2.2.2.2.2]
def zC(C CN CR:Addr)(c:Nat->Addr):Sp:=λvs H Q E=>∃(F:Addr->Prop) (x bz:Addr) (nt:NT) (r:RS) (ad:Nat->Nat->Addr) (m k:Int) (d:V),vs=[.ref x,.int m,.int k,d]/\bY C CN CR F H x bz nt r ad/\(∀w i:Nat,m=w->k=i->w<nt.ws.length->i<(r.ww w).say.length->Q .bI H)/\(¬Th nt r m k->∀a b H',au H H'->H' a=some (XO a (c 4) (some b) false)->H' b=some (XD b [("at",d)])->E (.ref a) none H')
theorem o9(D:gj K CR "need_letter" "Run.need_letter" gh ["self","way","number","at"])(T:Tx K mg C CN CR F FD)(G:uo K mg B c)(o:Def P w K mg base "is_within" 2 ["thing","low","beyond"] cp)(I:dj P w K mg base CR "need_way" 3 ["self","way","at"] (Dr C CN CR c))(J:yw P w K mg base "NoLetter" (c 4) B 1 ["self","at"] (lu c)):dj P w K mg base CR "need_letter" 4 ["self","way","number","at"] (zC C CN CR c):=by
 have sc:aE ["self","way","number","at"] ["self","way","number","at"] (aA gh):=by walk_at "s"
 walk_at "xf"
 ·obtain⟨F,x,bz,l,r,ad,m,k,y,rfl,g,q,n⟩:=h;rfl
 ·obtain⟨F,x,bz,l,r,ad,m,k,y,rfl,g,q,n⟩:=h;have L:=hr.units;refine⟨_,(aj (bW (il I g9 T.aR hr (aq 0) (ag (aq 1) (ag (aq 3) aa))))
   (ao (aU (cL (bG (aN o hr (ag (aq 2) (ag ai (ag (bb aM rfl T.bX S' (ag (ak L (bH (aq 0) rfl) (aq 1)) aa)) aa)))))) (ao (oI rfl rH (Cu J hr (ag (aq 3) aa)))) aJ))),?_⟩
  obtain⟨j,o,z,I⟩:=g.ins;have M:=(I 4 ∅ ∅).1;left;calc eD z (eE ⋯) ?_;calc⟨_,x,bz,l,r,ad,m,y,rfl,g,λd=>?_,λN a j H' O p u=>n (λ⟨w,i,e,_,h,_⟩=>N ⟨(),()⟩) a j H' O p u⟩;nofun;obtain⟨b,rfl⟩:=Y' d.1;have v:b<l.ws.length:=by lia
  obtain⟨l,o,x⟩:=g.bS.lst (t:=4) (i:=b) v rfl;ac_rfl;have g:l.length=(r.ww b).say.length:=by simpa using x.1
  left;calc fq z T.aR T.bF Bz ?_;left;calc aZ M (aY v) ?_;calc bL _ (.inl ⟨_,aT.of o,rfl⟩) ?_;calc gc (.int k) _ 0 _ rfl (.int _) ?_;rw[g];by_cases d:0<=k/\k<(((r.ww b).say.length:Nat):Int)
  ·rw[show inR 0 (((r.ww b).say.length:Nat):Int) (.int k)=true by simp only[inR];rw[Bool.and_eq_true,decide_eq_true_eq,decide_eq_true_eq];calc d];calc kT ?_;rw[if_neg ∅];left;obtain⟨i,rfl⟩:=Y' d.1;exact q b i rfl rfl v ()
  ·rw[show inR 0 (((r.ww b).say.length:Nat):Int) (.int k)=false by rw[<-Bool.not_eq_true];simp only[inR];rw[Bool.and_eq_true,decide_eq_true_eq,decide_eq_true_eq];calc d];calc kT ?_;rw[if_pos ∅];left;exact qf (D:=⟨λ_ _=>True,λ_ _=>True,λ_ _=>True,λ_ _=>True⟩) G rfl λa j H' R p u=>n (λ⟨w,i,e,g,h,k⟩=>by
    obtain rfl:b=w:=by lia
    calc d ⟨(),()⟩) a j H' R p u
structure _root_.DD.RS.BD(nt:NT)(r:RS)(w k:Nat):Prop where
 lt:w<nt.ws.length
 lies:(r.ww w).dX[k]?=some none
 row:(nt.w w).2.2="row"->0<k->∃e,(r.ww w).dX[k-1]?=some (some e)
theorem tJ{n:Nat}{v:V}(h:HD H n v (pB none)):v=.bI:=by
 have h:HD H n v .bI:=h
 cases h;rfl
theorem mn{H:Hp}{n:Nat}{v:V}{e:Int×Int}(h:HD H n v (pB (some e))):∃a,v=.ref a/\H a=some (.tup [.int e.1,.int e.2]):=by
 have h:HD H n v (.tup [.int e.1,.int e.2]):=h
 cases h with
 | @tup n a d _ e l i=>
  obtain⟨u,v,rfl⟩:=ln2 l;have b:=i 0 u _ rfl rfl;have c:=i 1 v _ rfl rfl;obtain rfl:=b.cy;obtain rfl:=c.cy;calc⟨a,rfl,e⟩
theorem Oe{H:Hp}{n:Nat}{v:V}{e:Option (Int×Int)}(h:HD H n v (pB e)):HT H 1 v (pB e):=by
 cases e with
 |none=>rw[tJ h];calc .bI
 |some e=>obtain⟨a,rfl,b⟩:=mn h;calc cR b (.int _) (.int _)
theorem mq{vs:List V}{v:V}(h:1<=vs.length)(e:vs[vs.length-1]?=some v):hX vs (-1)=some v:=by
 obtain⟨ys,z,rfl⟩:∃ys z,vs=ys++[z]:=⟨vs.dropLast,vs.getLast (by intro a;rw[a]at h;simp at h),(List.dropLast_concat_getLast _).symm⟩
 rw[kU];simpa using e
abbrev gQ:Stmt:=(bR (top 27)).getD 6 (.Pass ⟨0,0,0,0⟩)
def Of(C CN CR:Addr)(c:Nat->Addr):Sp:=λvs H Q E=>∃(F:Addr->Prop) (x bz:Addr) (nt:NT) (r:RS) (ad:Nat->Nat->Addr) (m k:Int) (d:V),vs=[.ref x,.int m,.int k,d]/\bY C CN CR F H x bz nt r ad/\r.Ok nt/\(∀w i:Nat,m=w->k=i->r.BD nt w i->∀H',au H H'->Q .bI H')/\(¬Lies nt r m k->∀a b H',au H H'->H' a=some (XO a (c 4) (some b) false)->H' b=some (XD b [("at",d)])->E (.ref a) none H')/\(∀w i:Nat,m=w->k=i->w<nt.ws.length->(r.ww w).dX[i]?=some none->¬r.BD nt w i->∀a b H',au H H'->H' a=some (XO a (c 5) (some b) false)->H' b=some (XD b [("at",d)])->E (.ref a) none H')
theorem rq(D:gj K CR "need_pick" "Run.need_pick" gQ ["self","way","number","at"])(T:Tx K mg C CN CR F FD)(TX:uo K mg B c)(dg:eU P w K mg base CN "ways" 1 ["self"] (o7 CN))(bu:dj P w K mg base CR "need_letter" 4 ["self","way","number","at"] (zC C CN CR c))(ei:yw P w K mg base "NoLetter" (c 4) B 1 ["self","at"] (lu c))(nu:yw P w K mg base "NotFirst" (c 5) B 1 ["self","at"] (xq c)):dj P w K mg base CR "need_pick" 5 ["self","way","number","at"] (Of C CN CR c):=by
 have sc:aE ["self","way","number","at","sort"] ["self","way","number","at"] (aA gQ):=by walk_at "s"
 walk_at "xf"
 ·obtain⟨F,x,bz,z,r,ad,m,k,o8,rfl,J,U,q,W,q5⟩:=h;rfl
 ·obtain⟨F,x,bz,z,r,ad,m,k,o8,rfl,J,U,q,W,q5⟩:=h;have o:=hr.units;refine⟨_,(aj (bW (il bu g9 T.aR hr (aq 0) (ag (aq 1) (ag (aq 2) (ag (aq 3) aa)))))
   (aj (aU (aC vg (ak o (ak o (bH (aq 0) rfl) (aq 1)) (aq 2)) kG (aG _)) (ao (oI rfl rH (Cu ei hr (ag (aq 3) aa)))) aJ)
   (aj (ba (i:=4) sc.nd rfl Sort (ak o (ak o (gO dg T.de hr (bH (aq 0) rfl)) (aq 1)) ai))
   (ao (aU (PW.pt (pw_and (aC (aV o) (aq 4) aD (aG _)) (pw_and (aC mL (aq 2) ai (aG _)) (pw_and1 (aC AN (ak o (ak o (bH (aq 0) rfl) (aq 1)) (aQ dI (aq 2) ai)) kG (aG _)))))) (ao (oI rfl rH (Cu nu hr (ag (aq 3) aa)))) aJ))))),?_⟩
  nofun;obtain⟨I,o,N,ho⟩:=J.ins;obtain⟨⟨ms,wv,lv,hf,o,Ag,Og⟩,aW⟩:=J.Wx;ac_rfl;have l6:=(ho 6 ∅ ∅).1;left;calc eD N (eE ⋯) ?_;calc⟨_,x,bz,z,r,ad,m,k,o8,rfl,J,λb i g n u hi=>?_,λno a I H' s' g n=>W (λ⟨w,j,g,n,h,O⟩=>no ⟨w,j,g,n,h,by rw[U.lk w h];calc(List.getElem?_eq_some_iff.mp O).1⟩) a I H' s' g n⟩;nofun;subst g n;obtain⟨v6,e6,d6⟩:=J.bS.lst (t:=6) (i:=b) u rfl;have k:i<(r.ww b).dX.length:=by rw[<-U.lk b u];exact hi
  have y:=bq (d:=none) k;obtain⟨v,o,R⟩:=d6.get (i:=i) (d:=pB ((r.ww b).dX.getD i none)) (by rw[List.getElem?_map,y];rfl);ac_rfl;left;calc fq N T.aR T.cU E3 ?_;left;calc aZ l6 (aY u) ?_;refine aZ e6 (az o) ?_
  cases X:(r.ww b).dX.getD i none with
  |some e=>
   rw[X]at R;obtain⟨ae,rfl,SW⟩:=mn R;left
   try rw[if_pos ∅]
   left;exact qf (D:=⟨λ_ _=>True,λ_ _=>True,λ_ _=>True,λ_ _=>True⟩) TX rfl λa I H' p g n=>W (λ⟨w,j,g,n,h,O⟩=>by
    nofun;obtain rfl:b=w:=by lia
    obtain rfl:i=j:=by lia
    ac_rfl;rw[y,X] at O;cases O) a I H' p g n
  |none=>
   rw[X]at R y;have:=tJ R;subst this;left
   try rw[if_neg ∅]
   left;calc fq N T.aR T.df tx ?_;obtain⟨o,x,J,O,k,R,U,W⟩:=id hf;left;calc eD k (eS ⋯ ⋯ ⋯) ?_;calc gc bz ms wv lv rfl hf (λl o=>?_);have p:=au.new (.lst wv) o;have el:upd H l (.lst wv) l=some (.lst wv):=af;generalize hG:upd H l (.lst wv)=G at *;left;have k:z.ws[b]?=some (z.w b):=bq u;have o:b<wv.length:=by have:=Og.1;simp at this;lia
   have Y:=(Og.2 b wv[b] (kY (z.w b)) nofun (by rw[List.getElem?_map,k];rfl)).aK p.aS;nofun;obtain⟨ta,o,x,J,O,Z,vJ,q1,q2,q3⟩:=bU Y;obtain rfl:=q1.cy;obtain rfl:=q2.cy;obtain rfl:=q3.cS;ac_rfl;calc aZ el (az (j:=b) (v:=.ref ta) (by rw[<-Z];simp)) ?_;calc da vJ (az (j:=2) rfl) ?_;left;have o:=p _ _ N;have j:=p _ _ l6;have k:=p _ _ e6;by_cases L:(z.w b).2.2="row"
   ·by_cases z2:0 < i
    ·have M:=bq (l:=(r.ww b).dX) (i:=i - 1) (d:=none) ();obtain⟨v,l,S⟩:=d6.get (i:=i - 1) (d:=pB ((r.ww b).dX.getD (i - 1) none)) (by rw[List.getElem?_map,M];rfl);rw[if_pos (by simp[L]),if_pos (by simp;lia)];calc fq o T.aR T.cU E3 ?_;left;calc aZ j (aY u) ?_;refine aZ k (show hX v6 ((i:Int) - 1)=some v from by rw[show(i:Int) - 1=((i - 1:Nat):Int) by lia];calc az l) ?_
     cases Ti:(r.ww b).dX.getD (i-1) none with
     |some e=>
      rw[Ti]at S M;obtain⟨ae,rfl,SW⟩:=mn S;left
      try rw[if_neg ∅]
      left;calc q b i rfl rfl ⟨u,y,λ_ _=>⟨e,M⟩⟩ _ p
     |none=>
      rw[Ti]at S M;have:=tJ S;subst this;left
      try rw[if_pos ∅]
      left;exact Jr (D:=⟨λ_ _=>True,λ_ _=>True,λ_ _=>True,λ_ _=>True⟩) TX rfl λa I H' s2 g n=>q5 b i rfl rfl u y (λhc=>by
       obtain⟨e,he⟩:=hc.row L z2;rw[M] at he;cases he) a I H' (p.trans s2) g n
    ·rw[if_pos (by simp[L]),if_neg (by simp;lia),if_neg ∅];left;exact q b i rfl rfl ⟨u,y,λ_ h=>absurd h z2⟩ _ p
   ·rw[if_neg (by simp[L]),if_neg ∅];left;calc q b i rfl rfl ⟨u,y,λh=>absurd h L⟩ _ p
abbrev lx:Stmt:=(bR (top 27)).getD 11 (.Pass ⟨0,0,0,0⟩)
theorem Jt{H:Hp}{n:Nat}{v:V}{s:List Int×List Int}(h:HD H n v (rg s)):HT H 2 v (yC s.1 s.2):=by
 have h:HD H n v (.tup [.tup (s.1.map .int),.tup (s.2.map .int)]):=h
 cases h with
 | @tup n a c _ e l i=>
  obtain⟨u,v,rfl⟩:=ln2 l;have d:=i 0 u _ rfl rfl;have f:=i 1 v _ rfl rfl;have b:∀{n:Nat} {u:V} {ns:List Int},HD H n u (.tup (ns.map .int))->HT H 1 u (.tup (ns.map .int)):=λ{n u ns} h=>by
   cases h with
   | @tup n a c _ e l i=>exact oJ (n:=0) (by rw[e,show c=ns.map V.int from dQ.mQ ⟨l,i⟩])
  calc cR e (b d) (b f)
def Ju(C CN CR:Addr):Sp:=λvs H Q _=>∃(F:Addr->Prop) (x bz:Addr) (nt:NT) (r:RS) (ad:Nat->Nat->Addr) (m:Nat),vs=[.ref x,.int m]/\bY C CN CR F H x bz nt r ad/\r.Ok nt/\m<nt.ms.length/\∀v,HT H 2 v (yC ((r.mm m).gp.bM ([],[])).1 ((r.mm m).gp.bM ([],[])).2)->Q v H
theorem zD(D:gj K CR "state" "Run.state" lx ["self","m"])(T:Tx K mg C CN CR F FD)(j:eU P w K mg base CR "need_machine" 3 ["self","m"] (Js C CN CR)):eU P w K mg base CR "state" 4 ["self","m"] (Ju C CN CR):=by
 have sc:aE ["self","m"] ["self","m"] (aA lx):=by walk_at "s"
 symm;obtain⟨F,x,bz,c,r,ad,m,rfl,b,e,a,q⟩:=h;have g:=hr.units;refine⟨_,(aj (bW (kr j T.aR hr (aq 0) (ag (aq 1) aa)))
  (ao (aH (ak g (ak g (bH (aq 0) rfl) (aq 1)) (kq gL ai))))),?_⟩
 nofun;obtain⟨j,o,g,k⟩:=b.ins;have l:=(k 1 ∅ ∅).1;obtain⟨n,o,j⟩:=b.bS.lst (t:=1) (i:=m) a rfl;have k:n.length=(r.mm m).gp.length:=by simpa using j.1
 have n:=e.yP a;obtain⟨v,p,u⟩:=j.get (i:=(r.mm m).gp.length-1) (d:=rg ((r.mm m).gp.bM ([],[]))) (by rw[List.getElem?_map,kQ (d:=([],[])) n];rfl);ac_rfl;left;calc eD g (eE ⋯) ?_;calc⟨_,x,bz,c,r,ad,m,rfl,b,a,?_⟩;left;calc fq g T.aR T.b8 Jq ?_;left;calc aZ l (aY a) ?_;calc aZ o (mq () (by rw[k];calc p)) ?_;calc q _ (Jt (u.cv dW))
abbrev ly:Stmt:=(bR (top 27)).getD 10 (.Pass ⟨0,0,0,0⟩)
def Jv(C CN CR:Addr):Sp:=λvs H Q _=>∃(F:Addr->Prop) (x bz:Addr) (nt:NT) (r:RS) (ad:Nat->Nat->Addr) (m:Nat),vs=[.ref x,.int m]/\bY C CN CR F H x bz nt r ad/\m<nt.ms.length/\Q (.int (((r.mm m).gp.length:Nat)-1)) H
theorem zE(D:gj K CR "count" "Run.count" ly ["self","m"])(T:Tx K mg C CN CR F FD)(d:eU P w K mg base CR "need_machine" 3 ["self","m"] (Js C CN CR)):eU P w K mg base CR "count" 4 ["self","m"] (Jv C CN CR):=by
 have sc:aE ["self","m"] ["self","m"] (aA ly):=by walk_at "s"
 symm;obtain⟨F,x,bz,c,r,ad,m,rfl,a,b,q⟩:=h;have e:=hr.units;refine⟨_,(aj (bW (kr d T.aR hr (aq 0) (ag (aq 1) aa)))
  (ao (aH (aQ dI (bb aM rfl T.bX S' (ag (ak e (bH (aq 0) rfl) (aq 1)) aa)) ai)))),?_⟩
 nofun;obtain⟨g,o,d,e⟩:=a.ins;have g:=(e 1 ∅ ∅).1;obtain⟨j,k,l⟩:=a.bS.lst (t:=1) (i:=m) b rfl;ac_rfl;have e:j.length=(r.mm m).gp.length:=by simpa using l.1
 left;calc eD d (eE ⋯) ?_;calc⟨_,x,bz,c,r,ad,m,rfl,a,b,?_⟩;left;calc fq d T.aR T.b8 Jq ?_;left;calc aZ g (aY b) ?_;calc bL _ (.inl ⟨_,aT.of k,rfl⟩) ?_;left;rw[e];calc q
abbrev iC:Stmt:=(bR (top 27)).getD 14 (.Pass ⟨0,0,0,0⟩)
def Oh(C CN CR:Addr)(c:Nat->Addr):Sp:=λvs H Q E=>∃(F:Addr->Prop) (x bz:Addr) (nt:NT) (r:RS) (ad:Nat->Nat->Addr) (b:Int),vs=[.ref x,.int b]/\bY C CN CR F H x bz nt r ad/\(∀m:Nat,b=m->m<nt.ws.length->Q (.int ((r.ww m).say.length:Nat)) H)/\(¬(0<=b/\b<(nt.ws.length:Int))->∀a d H',au H H'->H' a=some (XO a (c 4) (some d) false)->H' d=some (XD d [("at",.int 0)])->E (.ref a) none H')
theorem tK(D:gj K CR "put_many" "Run.put_many" iC ["self","way"])(T:Tx K mg C CN CR F FD)(n:uo K mg B c)(l:dj P w K mg base CR "need_way" 3 ["self","way","at"] (Dr C CN CR c)):dj P w K mg base CR "put_many" 4 ["self","way"] (Oh C CN CR c):=by
 have sc:aE ["self","way"] ["self","way"] (aA iC):=by walk_at "s"
 walk_at "xf"
 ·obtain⟨F,x,bz,d,r,ad,e,rfl,b,q,g⟩:=h;rfl
 ·obtain⟨F,x,bz,d,r,ad,e,rfl,b,q,g⟩:=h;have n:=hr.units;refine⟨_,(aj (bW (il l g9 T.aR hr (aq 0) (ag (aq 1) (ag ai aa))))
   (ao (aH (bb aM rfl T.bX S' (ag (ak n (bH (aq 0) rfl) (aq 1)) aa))))),?_⟩
  obtain⟨j,o,k,p⟩:=b.ins;left;calc eD k (eE ⋯) ?_;calc⟨_,x,bz,d,r,ad,e,_,rfl,b,λu=>?_,λv a j H' y z G=>g v a j H' y z G⟩;nofun;obtain⟨m,rfl⟩:=Y' u.1;have e:m<d.ws.length:=by lia
  have q:=q m rfl e;have d:=(p 4 ∅ ∅).1;obtain⟨g,j,l⟩:=b.bS.lst (t:=4) (i:=m) e rfl;ac_rfl;have b:g.length=(r.ww m).say.length:=by simpa using l.1
  left;calc fq k T.aR T.bF Bz ?_;left;calc aZ d (aY e) ?_;calc bL _ (.inl ⟨_,aT.of j,rfl⟩) ?_;rw[b];calc q
abbrev iD:Stmt:=(bR (top 27)).getD 15 (.Pass ⟨0,0,0,0⟩)
def Jw(C CN CR:Addr):Sp:=λvs H Q _=>∃(F:Addr->Prop) (x bz:Addr) (nt:NT) (r:RS) (ad:Nat->Nat->Addr),vs=[.ref x]/\bY C CN CR F H x bz nt r ad/\∀l a,H l=none->dQ H 4 a (r.picks.map pairD)->Q (.ref l) (upd H l (.lst a))
theorem tL(D:gj K CR "schedule" "Run.schedule" iD ["self"])(T:Tx K mg C CN CR F FD):eU P w K mg base CR "schedule" 1 ["self"] (Jw C CN CR):=by
 have sc:aE ["self"] ["self"] (aA iD):=by walk_at "s"
 symm;obtain⟨F,x,bz,b,r,ad,rfl,a,q⟩:=h;have b:=hr.units;calc⟨_,(ao (aH (dG cF rfl T.ft Aj (ag (bH (aq 0) rfl) aa)))),?_⟩;nofun;obtain⟨c,o,b,d⟩:=a.ins;obtain⟨e,c,d⟩:=a.bS.lst (t:=0) (i:=0) (by show 0<1;decide) rfl;ac_rfl;left;calc fq b T.aR T.cY Wu ?_;left;calc bL _ (.inl (aT.of c)) (λl a=>?_);calc q l _ a (d.cv dW)
abbrev nv:Stmt:=(bR (top 27)).getD 16 (.Pass ⟨0,0,0,0⟩)
def Ds(C CN CR:Addr)(c:Nat->Addr):Sp:=λvs H Q E=>∃(F:Addr->Prop) (x bz:Addr) (nt:NT) (r:RS) (ad:Nat->Nat->Addr) (m k:Int),vs=[.ref x,.int m,.int k]/\bY C CN CR F H x bz nt r ad/\(∀w i:Nat,m=w->k=i->w<nt.ws.length->i<(r.ww w).say.length->Q (.int ((r.ww w).say.getD i 0)) H)/\(¬Th nt r m k->∀a b H',au H H'->H' a=some (XO a (c 4) (some b) false)->H' b=some (XD b [("at",.int 0)])->E (.ref a) none H')
theorem BE(D:gj K CR "said" "Run.said" nv ["self","way","number"])(T:Tx K mg C CN CR F FD)(o:uo K mg B c)(I:dj P w K mg base CR "need_letter" 4 ["self","way","number","at"] (zC C CN CR c)):dj P w K mg base CR "said" 5 ["self","way","number"] (Ds C CN CR c):=by
 have sc:aE ["self","way","number"] ["self","way","number"] (aA nv):=by walk_at "s"
 walk_at "xf"
 ·obtain⟨F,x,bz,p,r,ad,m,k,rfl,b,q,u⟩:=h;rfl
 ·obtain⟨F,x,bz,p,r,ad,m,k,rfl,b,q,u⟩:=h;have o:=hr.units;refine⟨_,(aj (bW (il I g9 T.aR hr (aq 0) (ag (aq 1) (ag (aq 2) (ag ai aa)))))
   (ao (aH (ak o (ak o (bH (aq 0) rfl) (aq 1)) (aq 2))))),?_⟩
  obtain⟨y,o,z,J⟩:=b.ins;left;calc eD z (eE ⋯) ?_;calc⟨_,x,bz,p,r,ad,m,k,_,rfl,b,λe i g l n G=>?_,λL a y H' M g l=>u L a y H' M g l⟩;subst g l;left;have N:=(J 4 ∅ ∅).1;nofun;obtain⟨g,O,R⟩:=b.bS.lst (t:=4) (i:=e) n rfl;have S:=R.mQ;subst S;ac_rfl;calc fq z T.aR T.bF Bz ?_;left;calc aZ N (aY n) ?_;calc aZ O (az (j:=i) (v:=.int ((r.ww e).say.getD i 0)) (by rw[List.getElem?_map,bq (d:=0) G];rfl)) ?_;calc q e i rfl rfl n G
theorem tM{w:Nat}:∀{l:List Nat},w∈l->l[l.idxOf w]?=some w/\∀i y,i<l.idxOf w->l[i]?=some y->y≠w
 | [],h=>by simp at h
 |a::r,h=>by
  by_cases e:a=w
  ·subst e;rw[List.idxOf_cons_self];exact⟨rfl,λi y c=>absurd c (Nat.not_lt_zero i)⟩
  ·have hr:w∈r:=by
    rcases List.mem_cons.mp h with h|h
    ·exact absurd h.symm e
    ·exact h
   obtain⟨d,g⟩:=tM hr;have j:(a::r).idxOf w=r.idxOf w+1:=by rw[List.idxOf_cons,beq_eq_false_iff_ne.mpr e];rfl
   rw[j];refine⟨by simpa using d,λi y c b=>?_⟩
   cases i with
   |zero=>simp at b;subst b;calc e
   |succ i=>calc g i y () (by simpa using b)
theorem rO{nt:NT}(h:nt.Ok){w:Nat}(a:w<nt.ws.length):(nt.w w).2.1=((nt.goal w:Nat):Int):=by
 have:=h.wy a;unfold NT.goal;lia
theorem Jx{nt:NT}(h:nt.Ok){w:Nat}(a:w<nt.ws.length):w∈uA nt 1 (nt.goal w):=by
 unfold uA;rw[List.mem_filter];calc⟨List.mem_range.mpr a,?_⟩;rw[decide_eq_true_eq];calc rO h a
theorem pb{nt:NT}(h:nt.Ok){w:Nat}(a:w<nt.ws.length):(uA nt 1 (nt.goal w)).idxOf w=nt.place w:=by
 unfold NT.place;rw[rO h a];rfl
theorem qg{l:List Nat}:(l.map λi=>V.int (i:Nat))=(l.map λi=>((i:Nat):Int)).map V.int:=by simp[List.map_map]
theorem MM{r:RS}{n:NT}{w k:Nat}:∀t i,i<n.n t->setC (setC (setC (setC (setC r.ct 0 0 (.l (r.picks.map pairD++[pairD ((w:Int),(k:Int))]))) 6 w (.l (((r.ww w).dX.map pB).set k (pB (some (n.ev r w)))))) 1 (n.goal w) (.l ((r.mm (n.goal w)).gp.map rg++[rg ((n.work r w k).ns,(n.work r w k).row)]))) 3 (n.goal w) (.l (((r.mm (n.goal w)).wp.bM []).map .int++(n.work r w k).words.map .int))) 2 (n.goal w) (.l (((r.mm (n.goal w)).wp.map λu=>DV.int (u.length:Nat))++[.int ((((r.mm (n.goal w)).wp.bM []++(n.work r w k).words).length:Nat))])) t i=(r.step n w k).ct t i:=by
 intro t i a;unfold setC
 match t,a with
 |0,a=>
  have:i=0:=by have:i<1:=a;lia
  subst this;simp[RS.ct,RS.step]
 |1,_=>by_cases e:i=n.goal w<;>simp[RS.ct,RS.step,e]
 |2,_=>by_cases e:i=n.goal w<;>simp[RS.ct,RS.step,e]
 |3,_=>by_cases e:i=n.goal w<;>simp[RS.ct,RS.step,e,sQ]
 |4,_=>by_cases e:i=w<;>simp[RS.ct,RS.step,e]
 |5,_=>by_cases e:i=w<;>simp[RS.ct,RS.step,e]
 |6,_=>by_cases e:i=w<;>simp[RS.ct,RS.step,e,List.map_set]
 |(t+7),a=>calc absurd a (Nat.not_lt_zero i)
theorem Dt{nt:NT}(d:nt.Ok)(h:r.Ok nt){w k:Nat}(f:w<nt.ws.length):∀a c,some (nt.ev r w)=some (a,c)->0<=a/\a<nt.ms.length/\1<=c/\c<=((r.step nt w k).mm a.toNat).hr.length:=by
 have b:=d.j2 f;intro a c e
 cases e;refine⟨(),(),?_,?_⟩
 ·have:=h.yP b;lia
 ·have d:(r.step nt w k).mm (nt.goal w)=⟨(r.mm (nt.goal w)).gp++[((nt.work r w k).ns,(nt.work r w k).row)],(r.mm (nt.goal w)).wp++[(r.mm (nt.goal w)).wp.bM []++(nt.work r w k).words],(r.mm (nt.goal w)).hr++[nt.gb r w k]⟩:=if_pos rfl;rw[show((nt.goal w:Nat):Int).toNat=nt.goal w from Int.toNat_natCast _,d,h.lh _ b];simp
theorem qh{outs:List Nat}{ev:Int×Int}:∀(a:List (Int×Int)) {r:RS}{p:Int×Int},r.send outs ev (a++[p])=(r.send outs ev a).send outs ev [p]
 | [],r,p=>rfl
 |q::a,r,p=>qh a
structure BF(F:Addr->Prop)(n:Nat->Nat)(ad:Nat->Nat->Addr)(A B H:Hp)(ct:Nat->Nat->CO):Prop where
 b:dM F H n ad ct
 f:Fr (FP n ad) A H
 g:Fr (FP n ad) B H
section
variable {F:Addr->Prop}{n:Nat->Nat}{ad:Nat->Nat->Addr}{A B H H':Hp}{ct:Nat->Nat->CO}
theorem BF.same(h:BF F n ad A B H ct)(s:au H H'):BF F n ad A B H' ct:=⟨h.b.same s,h.f.trans s.fr,h.g.trans s.fr⟩
theorem BF.app(h:BF F n ad A B H ct){t i:Nat}(a:i<n t){d:List DV}(e:ct t i=.l d){vs:List V}(c:H (ad t i)=some (.lst vs)){us:List V}{es:List DV}(g:dQ (hJ (λb=>F b\/FP n ad b) H) 4 us es):BF F n ad A B (upd H (ad t i) (.lst (vs++us))) (setC ct t i (.l (d++es))):=⟨h.b.app a e c g,h.f.upd ⟨t,i,a,rfl⟩ c trivial,h.g.upd ⟨t,i,a,rfl⟩ c trivial⟩
end
abbrev jq:Stmt:=(bR (top 27)).getD 7 (.Pass ⟨0,0,0,0⟩)
inductive Jy(C CN CR:Addr)(c:Nat->Addr)(vs:List V)(H:Hp)(Q:VK)(E:XK):Prop
 |mk (F:Addr->Prop) (x bz:Addr) (nt:NT) (r:RS) (ad:Nat->Nat->Addr) (m k:Int) (a0:V) (h0:vs=[.ref x,.int m,.int k,a0]) (h1:bY C CN CR F H x bz nt r ad) (h2:FS F H) (h3:r.Ok nt) (h5:r.picks.length<=400) (h6:∀w i:Nat,m=w->k=i->r.BD nt w i->∀t H',Fr (FP nt.n ad) H H'->bY C CN CR F H' x bz nt (r.pick nt w i) ad->HT H' 1 t (pairD (nt.ev r w))->Q t H') (h7:¬Lies nt r m k->∀a dx H',au H H'->H' a=some (XO a (c 4) (some dx) false)->H' dx=some (XD dx [("at",a0)])->E (.ref a) none H') (h8:∀w i:Nat,m=w->k=i->w<nt.ws.length->(r.ww w).dX[i]?=some none->¬r.BD nt w i->∀a dx H',au H H'->H' a=some (XO a (c 5) (some dx) false)->H' dx=some (XD dx [("at",a0)])->E (.ref a) none H'):Jy C CN CR c vs H Q E
def Du(C CN CR:Addr)(c:Nat->Addr):Sp:=λvs H Q E=>Jy C CN CR c vs H Q E
theorem uD(D:gj K CR "pick_at" "Run.pick_at" jq ["self","way","number","at"])(T:Tx K mg C CN CR F FD)(TX:uo K mg B c)(gy:eU P w K mg base C "worked" 3 ["self","state","way","said"] (vI K C))(cO:eU P w K mg base CN "machines" 1 ["self"] (j8 CN))(dg:eU P w K mg base CN "ways" 1 ["self"] (o7 CN))(jr:eU P w K mg base CN "ways_in" 4 ["self","m"] (tF C CN))(iE:eU P w K mg base CN "ways_out" 4 ["self","m"] (qV C CN))(gR:dj P w K mg base CR "need_pick" 5 ["self","way","number","at"] (Of C CN CR c))(c9:eU P w K mg base CR "put_letter" 1 ["self","way","said","sender"] (tH C CN CR))(fN:eU P w K mg base CR "state" 4 ["self","m"] (Ju C CN CR)):dj P w K mg base CR "pick_at" 6 ["self","way","number","at"] (Du C CN CR c):=by
 have sc:aE ["self","way","number","at","m","place","machine","state","sent","words","event","ways_out","j","said"] ["self","way","number","at"] (aA jq):=by walk_at "s"
 walk_at "xf"
 ·obtain⟨F,x,bz,G,r,ad,m,k0,a,rfl,M,kF,N,o,q,q4,q5⟩:=h;rfl
 ·obtain⟨F,x,bz,G,r,ad,m,k0,a,rfl,M,kF,N,o,q,q4,q5⟩:=h;have o:=hr.units;refine⟨_,(aj (bW (il gR g9 T.aR hr (aq 0) (ag (aq 1) (ag (aq 2) (ag (aq 3) aa)))))
   (aj (ba (i:=4) sc.nd rfl Sort (ak o (ak o (gO dg T.de hr (bH (aq 0) rfl)) (aq 1)) ai))
   (aj (ba (i:=5) sc.nd rfl Sort (dF ma PySem.F.slot_list_index PySem.F.type_list_index vt (kr jr T.de hr (bH (aq 0) rfl) (ag (aq 4) aa)) (ag (aq 1) aa)))
   (aj (ba (i:=6) sc.nd rfl Sort (ak o (gO cO T.de hr (bH (aq 0) rfl)) (aq 4)))
   (aj (fC (kr gy T.cT hr (aq 6) (ag (kr fN T.aR hr (aq 0) (ag (aq 4) aa)) (ag (aq 5) (ag (ak o (ak o (bH (aq 0) rfl) (aq 1)) (aq 2)) aa)))) (yR (i:=7) (j:=8) (l:=9) rfl sc.nd rfl rfl rfl Sort Sort Sort))
   (aj (ba (i:=10) sc.nd rfl Sort (bA (ag (aq 4) (ag (bb aM rfl T.bX S' (ag (ak o (bH (aq 0) rfl) (aq 4)) aa)) aa))))
   (aj (bW (dF ma og oh bN (bH (aq 0) rfl) (ag (bA (ag (aq 1) (ag (aq 2) aa))) aa)))
   (aj (fC (aq 10) (i9 (ak o (bH (aq 0) rfl) (aq 1)) (aq 2) eF))
   (aj (bW (dF ma og oh bN (ak o (bH (aq 0) rfl) (aq 4)) (ag (aq 7) aa)))
   (aj (bW (dF ma PySem.F.slot_list_extend PySem.F.type_list_extend LR (ak o (bH (aq 0) rfl) (aq 4)) (ag (aq 9) aa)))
   (aj (bW (dF ma og oh bN (ak o (bH (aq 0) rfl) (aq 4)) (ag (bb aM rfl T.bX S' (ag (ak o (bH (aq 0) rfl) (aq 4)) aa)) aa)))
   (aj (ba (i:=11) sc.nd rfl Sort (kr iE T.de hr (bH (aq 0) rfl) (ag (aq 4) aa)))
   (aj (fg aaY rfl (cE (pv 8)) (ij (i:=12) (j:=13) rfl sc.nd rfl rfl Sort Sort)
   (ao (aU (aC fm (aq 12) (bb aM rfl T.bX S' (ag (aq 11) aa)) (aG _)) (ao (bW (kr c9 T.aR hr (aq 0) (ag (ak o (aq 11) (aq 12)) (ag (aq 13) (ag (aq 10) aa)))))) aJ)))
   (ao (aH (aq 10)))))))))))))))),?_⟩
  nofun;obtain⟨dx,o,O,ho⟩:=M.ins;have hn:=M.Wx;have W:=hn.ok;obtain⟨⟨ms,wv,lv,hf,o,Ag,Og⟩,_⟩:=id hn;obtain⟨o,a1,b1,c1,g1,g2,g3,g4⟩:=id hf;ac_rfl;left;calc eD O (eE ⋯) ?_;calc⟨_,x,bz,G,r,ad,m,k0,a,rfl,M,N,λI k e1 e2 hc H1 s1=>?_,q4,q5⟩;nofun;subst e1 e2;have q:=λt H'=>q I k rfl rfl hc t H';clear q4 q5;have L:=hc.lt;have J:=W.j2 L;obtain⟨o,wk2,wk3,wk4⟩:=rK W N L k;ac_rfl;left;calc fq (s1 _ _ O) T.aR T.df tx ?_;left;calc eD (s1 _ _ g1) (eS ⋯ ⋯ ⋯) ?_;calc gc bz ms wv lv rfl (hf.same s1) (λl o=>?_);have s2:au H (upd H1 l (.lst wv)):=s1.trans (au.new _ o);have el:upd H1 l (.lst wv) l=some (.lst wv):=af;nofun;generalize Mp:upd H1 l (.lst wv)=H2 at *;have o:G.ws[I]?=some (G.w I):=bq L;have kD:I<wv.length:=by have:=Og.1;simp at this;lia
  have rN:=(Og.2 I wv[I] (kY (G.w I)) nofun (by rw[List.getElem?_map,o];rfl)).aK s2.aS;obtain⟨ta,u1,u2,u3,kk,eta,vJ,q1,q2,q3⟩:=bU rN;obtain rfl:=q1.cy;obtain rfl:=q2.cy;obtain rfl:=q3.cS;ac_rfl;left;calc aZ el (az (j:=I) (v:=.ref ta) (by rw[<-eta];simp)) ?_;calc da vJ (show hX _ 1=some (.int ((G.goal I:Nat):Int)) from by rw[<-rO W L];calc az (j:=1) rfl) ?_;left;calc fq (s2 _ _ O) T.aR T.df tx ?_;left;calc eD (s2 _ _ g1) (eS ⋯ ⋯ ⋯) ?_;calc⟨bz,G,G.goal I,rfl,hn.fr (Z:=λ_=>False) s2.fr,J,λl2 H3 FX fl2 o=>?_⟩;have s3:=s2.trans FX;calc⟨.inl ⟨rfl,_,aT.of o⟩,?_⟩;obtain⟨ix1,ix2⟩:=tM (Jx W L);refine⟨l2,_,G.place I,I,rfl,rfl,by rw[o,qg],?_,?_,?_⟩
  ·rw[List.getElem?_map,<-pb W L,ix1];rfl
  ·intro i y hi hy;rw[List.getElem?_map]at hy;obtain⟨z,hz,rfl⟩:=Option.map_eq_some_iff.mp hy;have:=ix2 i z (by rw[pb W L];calc hi) hz;lia
  left;calc fq (s3 _ _ O) T.aR T.df tx ?_;left;calc eD (s3 _ _ g1) (eS ⋯ ⋯ ⋯) ?_;calc gc bz ms wv lv rfl (hf.same s3) (λl4 o=>?_);have X:au H (upd H3 l4 (.lst (ms.map V.ref))):=s3.trans (au.new _ o);have el4:upd H3 l4 (.lst (ms.map V.ref)) l4=some (.lst (ms.map V.ref)):=af;generalize Y8:upd H3 l4 (.lst (ms.map V.ref))=H4 at *;have NZ:G.goal I<ms.length:=by lia
  have o:G.ms[G.goal I]?=some (G.ms.getD (G.goal I) default):=bq J;have Dv:=(Ag (G.goal I) ms[G.goal I] _ (di NZ) o).same X;have HE:=W.gd J;left;calc aZ el4 (az (j:=G.goal I) (v:=.ref ms[G.goal I]) (by rw[List.getElem?_map,di NZ];rfl)) ?_;left;nofun;generalize ms[G.goal I]=mch at *;obtain⟨dm,o,y,FQ,hm2,hm3⟩:=id Dv;ac_rfl;calc eD FQ (CW ⋯ ⋯ ⋯) ?_;calc eD (X _ _ O) (eE ⋯) ?_;calc⟨_,x,bz,G,r,ad,G.goal I,rfl,M.same X,N,J,λsv ML=>?_⟩;have l4':=X _ _ (ho 4 ∅ ∅).1;nofun;obtain⟨o,e4,d4⟩:=(M.bS.same X).lst (t:=4) (i:=I) L rfl;have z4:=d4.mQ;subst z4;ac_rfl;have FH:k<(r.ww I).say.length:=by rw[N.lk I L];exact(List.getElem?_eq_some_iff.mp hc.lies).1
  left;calc fq (X _ _ O) T.aR T.bF Bz ?_;left;calc aZ l4' (aY L) ?_;calc aZ e4 (az (j:=k) (v:=.int ((r.ww I).say.getD k 0)) (by rw[List.getElem?_map,bq (d:=0) FH];rfl)) ?_;have o:=N.last J;calc⟨mch,sv,_,_,_,_,_,_,_,_,rfl,Dv,yE.of ML,HE.m2,HE.m12,o.bn,o.lr,HE.YZ,by rw[o.ln];calc HE.ok,λy Y Y9 Rz=>?_⟩;have s5:=X.trans Y9;nofun;obtain⟨rp,K5,Tj,Oi,zs,rfl,o,BG,RA,oj,BH,fl1,ab5,y⟩:=Rz.ex
  replace BG:HT Y 2 K5 (yC (G.work r I k).ns (G.work r I k).row):=BG
  replace oj:SL Y zs (G.work r I k).cV:=oj
  replace BH:Y Oi=some (.lst ((G.work r I k).words.map V.int)):=BH
  ac_rfl;calc un3 (bJ.of o) ?_;left;calc fq (s5 _ _ O) T.aR T.b8 Jq ?_;have b5:=M.bS.same s5;have i0:0<G.n 0:=by show 0<1;decide
  obtain⟨o,e1,d1⟩:=b5.lst (t:=1) (i:=G.goal I) J rfl;have y:o.length=(r.mm (G.goal I)).gp.length:=by simpa using d1.1
  left;calc aZ (s5 _ _ (ho 1 ∅ ∅).1) (aY J) ?_;calc hV _ (.inl ⟨_,aT.of e1,rfl⟩) cf (λev o=>?_);rw[y];have s6:au H (upd Y ev (.tup [.int ((G.goal I:Nat):Int),.int (((r.mm (G.goal I)).gp.length:Nat):Int)])):=s5.trans (au.new _ o);have s56:au Y (upd Y ev (.tup [.int ((G.goal I:Nat):Int),.int (((r.mm (G.goal I)).gp.length:Nat):Int)])):=au.new _ o;have ab8:HT (upd Y ev (.tup [.int ((G.goal I:Nat):Int),.int (((r.mm (G.goal I)).gp.length:Nat):Int)])) 1 (.ref ev) (pairD (G.ev r I)):=cR (n:=0) af (.int _) (.int _);generalize Rc:upd Y ev (.tup [.int ((G.goal I:Nat):Int),.int (((r.mm (G.goal I)).gp.length:Nat):Int)])=H6 at *;have b6:=M.bS.same s6;left;calc fq (s6 _ _ O) T.aR T.cY Wu ?_;obtain⟨v0,e0,d0⟩:=b6.lst (t:=0) (i:=0) i0 rfl;have o:v0.length=r.picks.length:=by simpa using d0.1
  left;calc iR (.inl ⟨rfl,_,aT.of e0⟩) cf (λtp o=>?_);left;have s7:au H (upd H6 tp (.tup [.int ((I:Nat):Int),.int ((k:Nat):Int)])):=s6.trans (au.new _ o);have xP:au H6 (upd H6 tp (.tup [.int ((I:Nat):Int),.int ((k:Nat):Int)])):=au.new _ o;have ab9:HT (upd H6 tp (.tup [.int ((I:Nat):Int),.int ((k:Nat):Int)])) 1 (.ref tp) (pairD ((I:Int),(k:Int))):=cR (n:=0) af (.int _) (.int _);generalize Zb:upd H6 tp (.tup [.int ((I:Nat):Int),.int ((k:Nat):Int)])=H7 at *;have b7:=M.bS.same s7;have FS7:FS F H7:=kF.fr (Z:=λ_=>False) s7.fr (λ_ _ h=>h);have e07:=xP _ _ e0;have Tn:=s56.trans xP;calc hV v0 e07 (small ()) ?_;have U:=(BF.mk b7 s7.fr (Fr.refl:Fr (FP G.n ad) H7 H7)).app (t:=0) (i:=0) i0 rfl e07 (dQ.one ((b7.ht FS7 ab9).mono ∅));generalize Zc:upd H7 (ad 0 0) (.lst (v0++[.ref tp]))=H8 at *;have y:=ho 6 ∅ ∅;have o1:=ho 1 ∅ ∅;have o2:=ho 2 ∅ ∅;have o3:=ho 3 ∅ ∅;left;calc fq (U.f.my O id) T.aR T.cU E3 ?_;obtain⟨v6,e6,d6⟩:=U.b.lst (t:=6) (i:=I) L rfl;have Y:v6.length=(r.ww I).dX.length:=by simpa using d6.1
  have o:k<v6.length:=by rw[Y,<-N.lk I L];exact FH
  left;calc aZ (U.f.at y.1 y.2.2) (aY L) ?_;left;calc dy v6 k e6 (oY o) ?_;have WB:=ab8.aK xP.aS;have w9:=BF.mk (U.b.set (t:=6) (i:=I) L rfl e6 (k:=k) ((U.b.ht (kF.fr U.f M.bS.xo) (WB.aK U.g.aS)).mono ∅)) (U.f.upd ⟨6,I,L,rfl⟩ e6 trivial) (U.g.upd ⟨6,I,L,rfl⟩ e6 trivial);generalize hG9:upd H8 (ad 6 I) (.lst (v6.set k (.ref ev)))=H9 at *;left;calc fq (w9.f.my O id) T.aR T.b8 Jq ?_;obtain⟨v19,o,d19⟩:=w9.b.lst (t:=1) (i:=G.goal I) J rfl;have y:v19.length=(r.mm (G.goal I)).gp.length:=by simpa using d19.1
  have y:=N.bp _ J;left;calc aZ (w9.f.at o1.1 o1.2.2) (aY J) ?_;calc⟨.inl ⟨rfl,_,aT.of o⟩,?_⟩;left;calc hV v19 o (small ()) ?_;have Hd:=w9.app (t:=1) (i:=G.goal I) J rfl o (dQ.one (show HD _ 4 K5 (rg ((G.work r I k).ns,(G.work r I k).row)) from(w9.b.ht (kF.fr w9.f M.bS.xo) ((BG.aK Tn.aS).aK w9.g.aS)).mono ∅));have Jz:¬FP G.n ad Tj:=λz=>by
   obtain⟨u,e,_⟩:=(M.bS.same X).fp z;rw[fl1]at e;cases e
  have RB:¬FP G.n ad Oi:=λz=>by
   obtain⟨u,e,_⟩:=(M.bS.same X).fp z;rw[ab5]at e;cases e
  generalize WC:upd H9 (ad 1 (G.goal I)) (.lst (v19++[K5]))=FV at *;left;calc fq (Hd.f.my O id) T.aR T.cZ Wv ?_;obtain⟨v3,o,d3⟩:=Hd.b.lst (t:=3) (i:=G.goal I) J rfl;have y:=d3.mQ;have X:=N.bw _ J _ (ia (l:=(r.mm (G.goal I)).wp) (d:=[]) (by rw[<-N.lw _ J];calc N.yP J));have l:v3.length=((r.mm (G.goal I)).wp.bM []).length:=by rw[y];simp
  left;calc aZ (Hd.f.at o3.1 o3.2.2) (aY J) ?_;calc⟨.inl ⟨rfl,_,aT.of o⟩,?_⟩;left;calc ur v3 _ o (Hd.g.at (Tn _ _ BH) RB) (P' (small (by simp;lia))) ?_;have si:=Hd.app (t:=3) (i:=G.goal I) J rfl o (dQ.ints (G.work r I k).words);have ace:upd FV (ad 3 (G.goal I)) (.lst (v3++(G.work r I k).words.map V.int)) (ad 3 (G.goal I))=some (.lst (v3++(G.work r I k).words.map V.int)):=af;generalize WD:upd FV (ad 3 (G.goal I)) (.lst (v3++(G.work r I k).words.map V.int))=Ze at *;left;calc fq (si.f.my O id) T.aR T.d9 abV ?_;obtain⟨v2,e2,d2⟩:=si.b.lst (t:=2) (i:=G.goal I) J rfl;have l:v2.length=(r.mm (G.goal I)).wp.length:=by simpa using d2.1
  have l:=N.lw _ J;left;calc aZ (si.f.at o2.1 o2.2.2) (aY J) ?_;calc⟨.inl ⟨rfl,_,aT.of e2⟩,?_⟩;left;calc fq (si.f.my O id) T.aR T.cZ Wv ?_;left;calc aZ (si.f.at o3.1 o3.2.2) (aY J) ?_;calc bL _ (.inl ⟨_,aT.of ace,rfl⟩) ?_;left;calc hV v2 e2 (small ()) ?_;rw[show(v3++(G.work r I k).words.map V.int).length=((r.mm (G.goal I)).wp.bM []++(G.work r I k).words).length by simp;lia];have Ah:=si.app (t:=2) (i:=G.goal I) J rfl e2 (dQ.one (.int (((r.mm (G.goal I)).wp.bM []++(G.work r I k).words).length:Nat)));generalize WE:upd Ze (ad 2 (G.goal I)) (.lst (v2++[.int (((r.mm (G.goal I)).wp.bM []++(G.work r I k).words).length:Nat)]))=WG at *;have WH:bY C CN CR F WG x bz G (r.step G I k) ad:=M.own Ah.f (Ah.b.congr MM);have WI:SL WG zs (G.work r I k).cV:=(oj.aK Tn.aS).aK Ah.g.aS;have oX:=Ah.g.at (Tn _ _ RA) Jz;have WJ:=WB.aK Ah.g.aS;have Zf:=Ah.f;clear b5 b6 b7 U w9 Hd si Ah d0 d1 d2 d3 d4 d6 d19 Zc hG9 WC WD WE;left;calc fq (Zf.my O id) T.aR T.df tx ?_;left;calc eD (Zf.my g1 id) (eS ⋯ ⋯ ⋯) ?_;calc⟨bz,G,G.goal I,rfl,hn.fr Zf,J,λlo Zg tm flo elo=>?_⟩;have nlo:¬FP G.n ad lo:=λz=>by
   obtain⟨u,e,_⟩:=WH.bS.fp z;rw[flo]at e;cases e
  left;have l:=WH.same tm;have o:=tm _ _ oX;have Oj:=WJ.aK tm.aS;have Ol:=WI.aK tm.aS;have hzl:zs.length=(G.work r I k).cV.length:=Ol.1;have f13:=Zf.trans tm.fr;have RC:=N.step W L (k:=k);have RD:∀a c,some (G.ev r I)=some (a,c)->0<=a/\a<G.ms.length/\1<=c/\c<=((r.step G I k).mm a.toNat).hr.length:=Dt W N L;refine⟨_,rfl,.inl ⟨⟨_,aT.of o⟩,jI (K:=K) (xs:=zs) (λi σ H'=>(∃RE RF,σ=[some (V.ref x),some (V.int ((I:Nat):Int)),some (V.int ((k:Nat):Int)),some a,some (V.int ((G.goal I:Nat):Int)),some (V.int ((G.place I:Nat):Int)),some (V.ref mch),some K5,some (V.ref Tj),some (V.ref Oi),some (V.ref ev),some (V.ref lo),RE,RF])/\Fr (FP G.n ad) Zg H'/\bY C CN CR F H' x bz G ((r.step G I k).send (G.outs (G.goal I)) (G.ev r I) ((G.work r I k).cV.take i)) ad) ?_ ?_ ?_ ?_⟩⟩
  ·exact⟨⟨_,_,rfl⟩,Fr.refl,l⟩
  ·rintro i σ H' hi ⟨_,R,_⟩;exact aT.of (R.at o Jz)
  ·intro i z σ H' hz iS;nofun;obtain⟨⟨RE,RF,rfl⟩,R,FY⟩:=iS;have l:i < zs.length:=(List.getElem?_eq_some_iff.mp hz).1;have l:i < (G.work r I k).cV.length:=by lia
   have o:(G.work r I k).cV[i]?=some (G.work r I k).cV[i]:=di l;have hp0:=wk4 _ (aaa l);have RH:=(Ol.2 i z _ hz o).aK R.aS;have MN:(r.step G I k).send (G.outs (G.goal I)) (G.ev r I) ((G.work r I k).cV.take (i+1))=((r.step G I k).send (G.outs (G.goal I)) (G.ev r I) ((G.work r I k).cV.take i)).send (G.outs (G.goal I)) (G.ev r I) [(G.work r I k).cV[i]]:=by
    rw[List.take_succ,o];exact qh _
   generalize (G.work r I k).cV[i]=p at *;obtain⟨S,px⟩:=p;obtain⟨tz,u1,u2,kz,rfl,FC,y1,y2⟩:=cw RH;obtain rfl:=y1.cy;obtain rfl:=y2.cy;ac_rfl;calc yS (bJ.of FC) ?_;have o:=R.at elo nlo;left;calc bL _ (.inl ⟨_,aT.of o,rfl⟩) ?_;left;have l:((uA G 0 (G.goal I)).map λi=>V.int ((i:Nat):Int)).length=(G.outs (G.goal I)).length:=by rw[List.length_map];rfl
   rw[l];have t:S.toNat=S.toNat:=rfl;have t:((S.toNat:Nat):Int)=S:=aa5 hp0;by_cases u:S<((G.outs (G.goal I)).length:Nat)
   ·rw[if_pos (by simpa using u)];have l:S.toNat < (G.outs (G.goal I)).length:=by lia
    have y:(G.outs (G.goal I)).getD S.toNat 0<G.ws.length:=by
     have:=getD_mem (d:=0) l;unfold NT.outs at this ⊢;rw[List.mem_filter,List.mem_range]at this;exact this.1
    left;obtain⟨L,N,J,O⟩:=FY.ins;calc eD J (eE ⋯) ?_;refine aZ o (show hX _ S=some (.int (((G.outs (G.goal I)).getD S.toNat 0:Nat):Int)) from by
     rw[<-t];calc az ?_;rw[List.getElem?_map];show Option.map _ (G.outs (G.goal I))[_]?=_;rw[Int.toNat_natCast,bq (d:=0) l];rfl) ?_
    have J:=(RS.tZ.send (outs:=G.outs (G.goal I)) (ev:=G.ev r I) ((G.work r I k).cV.take i) RC RD).mono (show _<=19999 by simp;lia);calc⟨F,x,bz,G,_,ad,_,px,.ref ev,some (G.ev r I),rfl,FY,kF.fr (f13.trans R) M.bS.xo,y,(Oj.aK R.aS).mono ∅,J,λo L t=>?_⟩;left;calc iR ⟨_,_,rfl,rfl⟩ (R.trans L) ?_;rw[MN];show bY C CN CR F o x bz G (if S.toNat<_ then _ else _) ad;rw[if_pos l];exact t
   ·rw[if_neg (by simpa using u)];left;calc iR ⟨_,_,rfl,rfl⟩ R ?_;rw[MN];show bY C CN CR F H' x bz G (if S.toNat<_ then _ else _) ad;rw[if_neg ()];exact FY
  ·intro σ H' jc;obtain⟨⟨RE,RF,rfl⟩,R,FY⟩:=jc;left;rw[hzl,List.take_length]at FY;calc q _ _ (f13.trans R) FY (Oj.aK R.aS)
def _root_.DD.RS.rQ(r:RS)(w:Nat):List Nat:=(List.range (r.ww w).say.length).filter λk=>((r.ww w).dX.getD k none).isNone
def JA(r:RS)(w:Nat)(a:List Nat):List DV:=a.map λ(k:Nat)=>pairD (((k:Nat):Int),(r.ww w).say.getD k 0)
theorem fO{p:Nat->Bool}{i:Nat}:(List.range (i+1)).filter p=(List.range i).filter p++(if p i=true then[i] else[]):=by
 rw[List.range_succ,List.filter_append];congr 1
 cases h:p i<;>simp[h]
theorem JB(c:∀b,Z b->∃o,H b=some o/\soft o){m:Nat}{x:V}{d:DV}(g:HT H m x d):HD (hJ Z H) m x d:=by
 calc HT.hd (g.aK λb h e=>?_);rw[fF (λz=>by
  obtain⟨o,a,f⟩:=c b z;rw[e] at a;cases a;calc f)]
 calc e
structure tO(H0 H':Hp)(D:Addr)(as:List Addr)(n:Nat)(ct:Nat->Hp->List V->Prop):Prop where
 len:as.length=n
 nd:as.Nodup
 new:∀a∈as,H0 a=none/\a≠D
 ins:∀(j:Nat) a,as[j]?=some a->∃vs,H' a=some (.lst vs)/\ct j H' vs
theorem tO.nil{ct:Nat->Hp->List V->Prop}:tO H0 H' D [] 0 ct:=⟨rfl,List.nodup_nil,λa h=>by simp at h,λj a h=>by simp at h⟩
theorem tO.snoc{n:Nat}{ct:Nat->Hp->List V->Prop}(h:tO H0 H1 D as n ct)(p:au H0 H1)(q:H1 D≠none)(g:H1 a=none){vs:List V}(e:H' a=some (.lst vs))(c:ct n H' vs)(s:∀b o,b≠D->H1 b=some o->H' b=some o)(f:∀j vs,ct j H1 vs->ct j H' vs):tO H0 H' D (as++[a]) (n+1) ct:=by
 refine⟨by simp[h.len],?_,λb d=>?_,λj b d=>?_⟩
 ·rw[List.nodup_append];calc iR h.nd nofun (λb d c l=>?_);simp at l;subst l;intro z;subst z;obtain⟨j,k⟩:=List.getElem?_of_mem d;obtain⟨vs,i,_⟩:=h.ins j b k;rw[g]at i;cases i
 ·rcases List.mem_append.mp d with d | d
  ·exact h.new b d
  ·simp at d;subst d;refine⟨?_,λz=>q (z ▸ g)⟩
   cases r:H0 b with
   |none=>rfl
   |some o=>rw[p _ _ r]at g;cases g
 ·by_cases k:j < as.length
  ·rw[List.getElem?_append_left k]at d;obtain⟨vs,i,g⟩:=h.ins j b d;exact⟨vs,s _ _ (h.new b (aaf d)).2 i,f _ _ g⟩
  ·rw[List.getElem?_append_right ()] at d
   cases m:j-as.length with
   |zero=>
    rw[m]at d;simp at d;subst d;have:j=n:=by have:=h.len;lia
    subst this;calc⟨vs,e,c⟩
   |succ k=>rw[m]at d;simp at d
theorem tO.keep{n:Nat}{ct:Nat->Hp->List V->Prop}(h:tO H0 H1 D as n ct)(s:∀(b:Addr) (vs:List V),H1 b=some (.lst vs)->H' b=some (.lst vs))(c:∀j vs,ct j H1 vs->ct j H' vs):tO H0 H' D as n ct:=
 ⟨h.len,h.nd,h.new,λj a e=>by
  obtain⟨vs,d,f⟩:=h.ins j a e;calc⟨vs,s _ _ d,c _ _ f⟩⟩
theorem lA{K:W.Frag}{ix:List (Option Nat)}{o:TE}{l:Addr}{xs vs:List V}(r:H l=some (.lst xs))(t:H D=none)(C:xs.length<=10)(v:∀x,Ext (ug ix σ) ((ug ix σ).set 0 (some x)))(d:∀g j (R:VK),(∀p,j p=none->R (.ref p) (upd j p (.lst vs)))->o g j R)(q:∀as H1,H1 D=some (.lst (as.map V.ref))->au H H1->tO H H1 D as xs.length (λ_ _ ws=>ws=vs)->Q (.ref D) H1):kN ix (x6 K l) (fK 0) iX o σ H Q D:=by
 refine bE (n:=xs.length) (λi ys H'=>∃as:List Addr,ys=as.map V.ref/\au H H'/\tO H H' D as i (λ_ _ ws=>ws=vs)) (P' (small ())) ⟨[],rfl,au.new _ t,tO.nil⟩ ?_ ?_ ?_ ?_
 ·rintro i ys H' k ⟨_,_,a,_⟩;exact⟨_,xs[i],aT.of (a _ _ r),di k⟩
 ·rintro ys H' ⟨_,_,a,_⟩;exact⟨_,aT.of (a _ _ r),K' _⟩
 ·intro i ys H' k c u w y F z;obtain⟨as,rfl,a,m⟩:=w;obtain⟨rfl,g⟩:=z;calc⟨v y,?_⟩;simp only[iX,if_true];calc d _ _ _ λp g=>?_;have d:=au.new (.lst vs) g;have i:p≠D:=Ne.symm (av c g);refine cD (d _ _ c) u k (P' (small ())) ⟨as++[p],nofun,λb o e=>?_,?_⟩
  ·rw[ay (av e t)];exact d _ _ (a _ _ e)
  ·refine m.snoc a (by rw[c];simp) g (vs:=vs) ?_ rfl (λb o a e=>?_) (λj vs e=>e)
   ·rw[ay i];exact af
   ·rw[ay a];exact d _ _ e
 ·intro ys H1 c u B;obtain⟨as,rfl,a,m⟩:=B;calc q as H1 c a m
abbrev ny:Stmt:=(bR (top 27)).getD 9 (.Pass ⟨0,0,0,0⟩)
inductive JC(C CN CR:Addr)(c:Nat->Addr)(vs:List V)(H:Hp)(Q:VK)(E:XK):Prop
 |mk (F:Addr->Prop) (x bz:Addr) (nt:NT) (r:RS) (ad:Nat->Nat->Addr) (m k:Int) (h0:vs=[.ref x,.int m,.int k]) (h1:bY C CN CR F H x bz nt r ad) (h2:FS F H) (h3:r.Ok nt) (h5:r.picks.length<=400) (h6:∀w i:Nat,m=w->k=i->r.BD nt w i->∀t H',Fr (FP nt.n ad) H H'->bY C CN CR F H' x bz nt (r.pick nt w i) ad->HT H' 1 t (pairD (nt.ev r w))->Q t H') (h7:¬Lies nt r m k->∀a dx H',au H H'->H' a=some (XO a (c 4) (some dx) false)->H' dx=some (XD dx [("at",.int 0)])->E (.ref a) none H') (h8:∀w i:Nat,m=w->k=i->w<nt.ws.length->(r.ww w).dX[i]?=some none->¬r.BD nt w i->∀a dx H',au H H'->H' a=some (XO a (c 5) (some dx) false)->H' dx=some (XD dx [("at",.int 0)])->E (.ref a) none H'):JC C CN CR c vs H Q E
def BJ(C CN CR:Addr)(c:Nat->Addr):Sp:=λvs H Q E=>JC C CN CR c vs H Q E
theorem BK(D:gj K CR "pick" "Run.pick" ny ["self","way","number"])(T:Tx K mg C CN CR F FD)(n:uo K mg B c)(l:dj P w K mg base CR "pick_at" 6 ["self","way","number","at"] (Du C CN CR c)):dj P w K mg base CR "pick" 7 ["self","way","number"] (BJ C CN CR c):=by
 have sc:aE ["self","way","number"] ["self","way","number"] (aA ny):=by walk_at "s"
 walk_at "xf"
 ·obtain⟨F,x,bz,b,r,ad,m,k,rfl,a,d,e,g,q,i,j⟩:=h;rfl
 ·obtain⟨F,x,bz,b,r,ad,m,k,rfl,a,d,e,g,q,i,j⟩:=h;have n:=hr.units;calc⟨_,(ao (aH (il l g9 T.aR hr (aq 0) (ag (aq 1) (ag (aq 2) (ag ai aa)))))),?_⟩;obtain⟨p,o,n,t⟩:=a.ins;left;calc eD n (eE ⋯) ?_;calc⟨F,x,bz,b,r,ad,m,k,_,rfl,a,d,e,g,q,i,j⟩
abbrev lB:Stmt:=(bR (top 27)).getD 13 (.Pass ⟨0,0,0,0⟩)
def JD(C CN CR:Addr)(c:Nat->Addr):Sp:=λvs H Q E=>∃(F:Addr->Prop) (x bz:Addr) (nt:NT) (r:RS) (ad:Nat->Nat->Addr) (d:Int),vs=[.ref x,.int d]/\bY C CN CR F H x bz nt r ad/\r.Ok nt/\r.picks.length<=400/\(∀m:Nat,d=m->m<nt.ws.length->∀l ys H',au H H'->H l=none->H' l=some (.lst ys)->dQ (hJ (λb=>b=l) H') 1 ys (JA r m (r.rQ m))->Q (.ref l) H')/\(¬(0<=d/\d<(nt.ws.length:Int))->∀a e H',au H H'->H' a=some (XO a (c 4) (some e) false)->H' e=some (XD e [("at",.int 0)])->E (.ref a) none H')
theorem zF(D:gj K CR "lying" "Run.lying" lB ["self","way"])(T:Tx K mg C CN CR F FD)(TX:uo K mg B c)(cq:dj P w K mg base CR "need_way" 3 ["self","way","at"] (Dr C CN CR c)):dj P w K mg base CR "lying" 4 ["self","way"] (JD C CN CR c):=by
 have sc:aE ["self","way","workers"] ["self","way"] (aA lB):=by walk_at "s"
 walk_at "xf"
 ·obtain⟨F,x,bz,N,r,ad,mz,rfl,u,O,k,q,qe⟩:=h;rfl
 ·obtain⟨F,x,bz,N,r,ad,mz,rfl,u,O,k,q,qe⟩:=h;have k:=hr.units;refine⟨_,(aj (bW (il cq g9 T.aR hr (aq 0) (ag (aq 1) (ag ai aa))))
   (aj (ba (i:=2) sc.nd rfl Sort (ak k (bH (aq 0) rfl) (aq 1)))
   (ao (aH (dJ (N':=["number","said","workers"]) (ix:=[none,none,some 2]) (jZ rfl T.dR (ag (ak k (bH (aq 0) rfl) (aq 1)) aa)) (λ_ _ _ _=>(j0 (K:=K) rfl (i:=0) (j:=1) rfl (show(["number","said","workers"]:List Str).Nodup by decide +kernel) rfl rfl Sort Sort)) (λ_ _ _ _=>(jY (aC AN (eQ (K:=K) rfl k (aq 2) (aq 0)) kG (aG _)))) (λ_ _ _ _=>(bA (ag (aq 0) (ag (aq 1) aa))))))))),?_⟩
  obtain⟨dx,o,R,ho⟩:=u.ins;left;calc eD R (eE ⋯) ?_;calc⟨_,x,bz,N,r,ad,mz,_,rfl,u,λzB=>?_,λno a dx H' s' e1 e2=>qe no a dx H' s' e1 e2⟩;nofun;obtain⟨m,rfl⟩:=Y' zB.1;have k:m<N.ws.length:=by lia
  have q:=q m rfl k;have x:=(ho 6 ∅ ∅).1;have N:=(ho 4 ∅ ∅).1;obtain⟨v6,e6,d6⟩:=u.bS.lst (t:=6) (i:=m) k rfl;obtain⟨p,v,d4⟩:=u.bS.lst (t:=4) (i:=m) k rfl;ac_rfl;have z4:=d4.mQ;have u:=O.lk m k;have u:=O.bs m k;left;calc fq R T.aR T.cU E3 ?_;left;calc aZ x (aY k) ?_;left;calc bV ?_;left;calc fq R T.aR T.bF Bz ?_;left;calc aZ N (aY k) ?_;left;calc ED true p (Sq.l v) (λD S=>?_);have zl:p.length=(r.ww m).say.length:=by rw[z4];simp
  refine bE (J:=NF true K (ad 4 m)) (n:=p.length) (λi ys H'=>au H H'/\dQ (hJ (λb=>b=D) H') 1 ys (JA r m ((List.range i).filter λk=>((r.ww m).dX.getD k none).isNone))) (P' (small ())) ⟨au.new _ S,show dQ _ 1 [] [] from dQ.nil⟩ ?_ ?_ ?_ ?_
  ·rintro i ys H' U ⟨g,_⟩;exact⟨p,p[i],Sq.l (g _ _ v),di U⟩
  ·rintro ys H' ⟨g,_⟩;exact⟨p,Sq.l (g _ _ v),rfl⟩
  ·intro i ys H' U W hl yZ k u y0;nofun;obtain⟨g,I⟩:=yZ;obtain⟨t,ht,rfl,y⟩:=y0;obtain⟨xw,ex,rfl⟩:=y p (Sq.l (g _ _ v));have k:i < (r.ww m).say.length:=by lia
   have X:xw=.int ((r.ww m).say.getD i 0):=by
    rw[z4,List.getElem?_map,bq (d:=0) k]at ex
    cases ex;rfl
   subst X;have Y:=au.new (.tup [.int (i:Nat),.int ((r.ww m).say.getD i 0)]) ht;have qS:upd H' t (.tup [.int (i:Nat),.int ((r.ww m).say.getD i 0)]) t=some (.tup [.int (i:Nat),.int ((r.ww m).say.getD i 0)]):=af;have xn:=Y _ _ W;have xQ:=g.trans Y;have WM:dQ (hJ (λb=>b=D) (upd H' t (.tup [.int (i:Nat),.int ((r.ww m).say.getD i 0)]))) 1 ys _:=I.cv (Fr.hJ Y.fr);generalize hG:upd H' t (.tup [.int (i:Nat),.int ((r.ww m).say.getD i 0)])=G at *;ac_rfl;calc yS (bJ.of qS) ⟨Ext.set (Ext.set (Ext.refl _) rfl) rfl,?_⟩;left;obtain⟨v,k,L⟩:=d6.get (i:=i) (d:=pB ((r.ww m).dX.getD i none)) (by rw[List.getElem?_map,bq (d:=none) ()];rfl);calc aZ (xQ _ _ e6) (az k) ?_;left
   cases M:(r.ww m).dX.getD i none with
   |none=>
    rw[M]at L;have:=tJ L;subst this;left
    try rw[if_pos rfl]
    calc⟨cf,λk RI=>?_⟩;have s3:=au.new (.tup [.int (i:Nat),.int ((r.ww m).say.getD i 0)]) RI;have nD:k≠D:=λz=>by rw[z,xn]at RI;cases RI
    refine cD (s3 _ _ xn) hl U (P' (small ())) ⟨λc o e=>?_,?_⟩
    ·rw[ay (av e S)];exact s3 _ _ (xQ _ _ e)
    ·rw[CF (Z:=λb=>b=D) rfl,fO,if_pos (by rw[M];rfl)];unfold JA;rw[List.map_append];calc(WM.cv (Fr.hJ s3.fr)).snoc ?_;calc(cR (n:=0) ?_ (.int _) (.int _)).hd;rw[fF (Z:=λb=>b=D) nD];calc af
   |some e=>
    rw[M]at L;obtain⟨ae,rfl,i⟩:=mn L;left
    try rw[if_neg ∅]
    exact⟨_,xn,(),xQ,by rw[fO,if_neg (by rw[M];simp),List.append_nil];calc WM⟩
  ·rintro ys H' W hl ⟨g,I⟩;rw[zl]at I;calc q _ ys _ g S W I
theorem vK{CR x a:Addr}{C:Hp}{f:List (Str×V)}(c:List (Str×V))(s:au C H)(d:H x=some (.ins CR a f)):∃G,upd H x (.ins CR a c)=G/\G x=some (.ins CR a c)/\(∀b o,b≠x->C b=some o->G b=some o)/\(∀b vs,H b=some (.lst vs)->G b=some (.lst vs))/\cm H G:=⟨_,rfl,af,λb o n e=>by rw[ay n];calc s _ _ e,λb vs e=>by rw[ay (λz=>by rw[z,d]at e;cases e)];calc e,λb vs e=>by rw[ay (λz=>by rw[z,d]at e;cases e)];calc e⟩
theorem fX{C:Hp}{d:Addr}(a:List (Key×V))(s:au C H):∃G,upd H d (.dK a)=G/\G d=some (.dK a)/\(∀b o,b≠d->C b=some o->G b=some o)/\(∀b o,b≠d->H b=some o->G b=some o):=⟨_,rfl,af,λb o n e=>by rw[ay n];calc s _ _ e,λb o n e=>by rw[ay n];calc e⟩
theorem qi:∀(a:List (Int×Int)) {r:RS}{p:Int×Int},r.kR (a++[p])=(r.kR a).put p.1.toNat p.2 none
 | [],r,p=>rfl
 |q::a,r,p=>qi a
theorem BL{nt:NT}(j:nt.Ok):(RS.new nt).tZ nt 0:=by
 refine⟨λm e=>rfl,λm e=>rfl,λm e s d=>?_,λm e h f=>?_,λv i=>rfl,λv i=>rfl,λv i a c d=>?_,λm e=>K' _,λm e u b=>?_,λv i=>K' _,λm e u b=>?_⟩
 ·have g:=j.gd e;have d:s ∈ [((nt.ms.getD m default).ns,(nt.ms.getD m default).row)]:=d;simp at d;subst d;exact⟨rfl,g.bn,g.r12⟩
 ·have f:h∈([]:List (List Int)):=f;simp at f
 ·have d:some (a,c)∈([]:List (Option (Int×Int))):=d;simp at d
 ·have b:u∈([[]]:List (List Int)):=b;simp at b;subst b;exact K' _
 ·have b:u∈([[]]:List (List Int)):=b;simp at b;subst b;calc List.nil_prefix
theorem rR{nt:NT}:∀(b:List (Int×Int)) {r:RS}{B:Nat},r.tZ nt B->(r.kR b).tZ nt (B+b.length)
 | [],r,B,h=>h
 |p::b,r,B,h=>by
  have e:B+(p::b).length=B+1+b.length:=by simp;lia
  rw[e];calc rR b (h.put (λa c z=>by cases z))
theorem tP:∀(a:List (Int×Int)) {r:RS},(r.kR a).picks=r.picks
 | [],r=>rfl
 |p::a,r=>tP a
theorem JE{nt:NT}(a:nt.Ok){ls:List (Int×Int)}(h:ls.length<=20):(RS.begin nt ls).Ok nt/\(RS.begin nt ls).picks=[]:=by
 have e:(RS.begin nt ls).picks=[]:=tP ls;calc⟨(rR ls (BL a)).ok ?_,e⟩;show 0+ls.length<=20+24*(RS.begin nt ls).picks.length;rw[e];simp;lia
structure qW(H0 H':Hp)(D:Addr)(as:List Addr)(n:Nat)(ct:Nat->Hp->HO->Prop):Prop where
 len:as.length=n
 nd:as.Nodup
 new:∀a∈as,H0 a=none/\a≠D
 ins:∀(j:Nat) a,as[j]?=some a->∃o,H' a=some o/\ct j H' o
theorem tO.o{n:Nat}{ct:Nat->Hp->List V->Prop}(h:tO H0 H' D as n ct):qW H0 H' D as n (λj H u=>∃vs,u=.lst vs/\ct j H vs):=⟨h.len,h.nd,h.new,λj a e=>by
 obtain⟨vs,a,b⟩:=h.ins j a e;calc⟨_,a,_,rfl,b⟩⟩
theorem tO.some{n:Nat}{ct:Nat->Hp->List V->Prop}(h:tO H0 H1 D as n ct)(s:au H1 H2):∀a∈as,H2 a≠none:=λa m=>by
 obtain⟨j,e⟩:=List.getElem?_of_mem m;obtain⟨b,e,_⟩:=h.ins j a e;rw[s _ _ e];calc λz=>nomatch z
theorem Dw{F:Addr->Prop}{G:Hp}{n:Nat->Nat}{c:Nat->Nat->CO}(g:Nat->Hp)(k:Nat->Nat)(p:Nat->List Addr)(o:Nat->Addr)(ct:Nat->Nat->Hp->HO->Prop)(W:∀t i,ad t i=(p t).getD i 0)(X:∀t,n (t+7)=0)(K:∀t t',t<=6->t'<=6->k t=k t'->t=t')(B:∀t b,g t b≠none->g (t+1) b≠none)(C:∀b,F b->g 0 b≠none/\∃u,G b=some u/\soft u)
  (q:∀t,t<=6->qW (g (k t)) G (o t) (p t) (n t) (ct t)/\(∀a∈p t,g (k t+1) a≠none)/\(1<=t->g (k t) (o t)=none/\g (k t+1) (o t)≠none)) (Y:∀t i u,t<=6->ct t i G u->soft u)
  (Z:(∀b,F b\/FP n ad b->∃u,G b=some u/\soft u)->(∀s D,g s D=none->g (s+1) D≠none->(∀t,t<=6->k t=s->¬D∈p t)->¬(F D\/FP n ad D))->∀t i u,t<=6->i<n t->G (ad t i)=some u->ct t i G u->OR (hJ (λb=>F b\/FP n ad b) G) (c t i) u):
  dM F G n ad c/\(∀b,FP n ad b->g 0 b=none/\∃u,G b=some u/\soft u)/\∀t,1<=t->t<=6->¬F (o t)/\¬FP n ad (o t)/\(p t).map V.ref=iz n ad t:=by
 have r:∀t i,i<n t->t<=6:=λt i h=>Classical.byContradiction λz=>by
  have:=X (t-7);rw[show t-7+7=t by lia]at this;lia
 have up:∀(d t:Nat) (b:Addr),g t b≠none->g (t+d) b≠none:=λd=>by
  induction d with
  |zero=>calc λt b h=>h
  |succ d o=>exact λt b h=>B _ _ (o t b h)
 have v:∀s o b,s<=o->g s b≠none->g o b≠none:=λs o b h e=>by
  have:=up (o-s) s b e;rwa [show s+(o-s)=o by lia]at this
 have w:∀t i,i<n t->(p t)[i]?=some (ad t i)/\g (k t) (ad t i)=none/\g (k t+1) (ad t i)≠none/\∃u,G (ad t i)=some u/\ct t i G u:=λt i j=>by
  obtain⟨h,x,_⟩:=q t (r t i j);have e:(p t)[i]?=some (ad t i):=by rw[W];exact bq (by rw[h.len];calc j)
  have m:=aaf e;exact⟨e,(h.new _ m).1,x _ m,h.ins _ _ e⟩
 have L:∀s D,g s D=none->g (s+1) D≠none->(∀t,t<=6->k t=s->¬D∈p t)->¬(F D\/FP n ad D):=λs D M x hn z=>by
  rcases z with z|⟨t,i,j,rfl⟩
  ·exact v 0 s D (aab _) (C D z).1 M
  ·obtain⟨e,I,y,_⟩:=w t i j;rcases Nat.lt_trichotomy s (k t) with l | l | l
   ·exact v _ _ _ l x I
   ·exact hn t (r t i j) l.symm (aaf e)
   ·exact v _ _ _ l y M
 have N:∀b,FP n ad b->g 0 b=none/\∃u,G b=some u/\soft u:=λb ⟨t,i,j,e⟩=>by
  subst e;obtain⟨_,I,_,u,y,J⟩:=w t i j;exact⟨Classical.byContradiction λz=>v 0 _ _ (aab _) z I,u,y,Y t i u (r t i j) J⟩
 refine⟨⟨λt i t' O j P e=>?_,λt i j z=>?_,λt i j=>?_⟩,N,λt x R=>?_⟩
 ·obtain⟨a1,a2,a3,_⟩:=w t i j;obtain⟨S,T,U,_⟩:=w t' O P;rw[<-e]at S T U;have es:k t=k t':=by
   rcases Nat.lt_trichotomy (k t) (k t') with l|l|l
   ·exact absurd T (v _ _ _ l a3)
   ·exact l
   ·exact absurd a2 (v _ _ _ l U)
  have:=K t t' (r t i j) (r t' O P) es;subst this;have h:=(q t (r t i j)).1;exact⟨rfl,(List.getElem?_inj (by rw[h.len];calc j) h.nd).mp (a1.trans S.symm)⟩
 ·exact v 0 _ _ (aab _) (C _ z).1 (w t i j).2.1
 ·obtain⟨_,_,_,u,y,J⟩:=w t i j;exact⟨u,y,Z (λb z=>z.elim (λh=>(C b h).2) λh=>(N b h).2) L t i u (r t i j) j y J⟩
 ·obtain⟨h,_,g⟩:=q t R;have:=L _ _ (g x).1 (g x).2 (λt' h' e m=>by
   have:=K t' t h' R e;subst this;calc(h.new _ m).2 rfl)
  calc⟨λz=>this (.inl z),λz=>this (.inr z),?_⟩;unfold iz;apply List.ext_getElem (by simp[h.len]);intro j k g;have i:j<n t:=by simpa using g
  simp only[List.getElem_map,List.getElem_range];congr 1;calc(List.getElem_eq_iff _).mpr (w t j i).1
theorem MO{CN:Addr}{e:List V}{c:List Addr}{d f:List V}(h:nh CN H bz ms wv e)(h':nh CN H bz c d f):e=f:=by
 obtain⟨d,e,f,i,c,j,k,g⟩:=h;obtain⟨d,e,f,i,a,j,k,b⟩:=h';rw[c]at a
 cases a;rw[g]at b
 cases b;rfl
theorem xt{C c:Addr}{p:Str×V}{l:List (Str×V)}(h:some (HO.ins C a [])=some (HO.ins c b (p::l))):False:=by cases h
abbrev JF:Stmt:=(bR (top 27)).getD 0 (.Pass ⟨0,0,0,0⟩)
inductive JG(C CN CR:Addr)(vs:List V)(H:Hp)(Q:VK):Prop
 |mk (F:Addr->Prop) (x dx bz:Addr) (nt:NT) (ls:List (Int×Int)) (ms:List Addr) (wv lv:List V) (h0:vs=[.ref x,.ref bz]) (h1:H x=some (.ins CR dx [])) (h2:xm C CN H bz nt) (h3:nh CN H bz ms wv lv) (h4:iT H 1 lv (ls.map rm)) (h5:ls.length<=20) (h6:∀l∈ls,0<=l.1/\l.1<nt.ws.length) (kF:FS F H) (h7:∀ad H',(∀b o,b≠x->H b=some o->H' b=some o)->(∀b,FP nt.n ad b->H b=none)->bY C CN CR F H' x bz nt (RS.begin nt ls) ad->Q .bI H'):JG C CN CR vs H Q
def Dx(C CN CR:Addr):Sp:=λvs H Q _=>JG C CN CR vs H Q
theorem WO(D:Er K mg "Run" CR "Run.__init__" JF ["self","net"])(T:Tx K mg C CN CR F FD)(eL:eU P w K mg base C "first_state" 1 ["self"] (IW C))(jv:eU P w K mg base CN "letters" 1 ["self"] (qT CN))(cO:eU P w K mg base CN "machines" 1 ["self"] (j8 CN))(dg:eU P w K mg base CN "ways" 1 ["self"] (o7 CN))(c9:eU P w K mg base CR "put_letter" 1 ["self","way","said","sender"] (tH C CN CR)):yu P w K mg base "Run" CR 2 ["self","net"] (Dx C CN CR):=by
 have sc:aE ["self","net","way","said"] ["self","net"] (aA JF):=by walk_at "s"
 symm;obtain⟨FF,x,y,bz,k,ls,ms0,wv0,lv,rfl,S,hn,hf0,K2,zc,vb,kF,q⟩:=h;have hu:=hr.units;refine⟨_,(aj (fR (aq 0) (aq 1) (fB rfl))
  (aj (fR (aq 0) (bD aa) (fB rfl))
  (aj (fR (aq 0) (dJ (N':=["machine"]) (ix:=[none]) (cE (gO cO T.de hr (aq 1))) (λ_ _ _ _=>(bf (i:=0) (show(["machine"]:List Str).Nodup by decide +kernel) rfl Sort)) pS (λ_ _ _ _=>(bD (ag (gO eL T.cT hr (aq 0)) aa)))) rfl)
  (aj (fR (aq 0) (dJ (N':=["machine"]) (ix:=[none]) (cE (gO cO T.de hr (aq 1))) (λ_ _ _ _=>(bf (i:=0) (show(["machine"]:List Str).Nodup by decide +kernel) rfl Sort)) pS (λ_ _ _ _=>(bD (ag ai aa)))) rfl)
  (aj (fR (aq 0) (dJ (N':=["machine"]) (ix:=[none]) (cE (gO cO T.de hr (aq 1))) (λ_ _ _ _=>(bf (i:=0) (show(["machine"]:List Str).Nodup by decide +kernel) rfl Sort)) pS (λ_ _ _ _=>(bD aa))) rfl)
  (aj (fR (aq 0) (dJ (N':=["way"]) (ix:=[none]) (cE (gO dg T.de hr (aq 1))) (λ_ _ _ _=>(bf (i:=0) (show(["way"]:List Str).Nodup by decide +kernel) rfl Sort)) pS (λ_ _ _ _=>(bD aa))) rfl)
  (aj (fR (aq 0) (dJ (N':=["way"]) (ix:=[none]) (cE (gO dg T.de hr (aq 1))) (λ_ _ _ _=>(bf (i:=0) (show(["way"]:List Str).Nodup by decide +kernel) rfl Sort)) pS (λ_ _ _ _=>(bD aa))) rfl)
  (aj (fR (aq 0) (dJ (N':=["way"]) (ix:=[none]) (cE (gO dg T.de hr (aq 1))) (λ_ _ _ _=>(bf (i:=0) (show(["way"]:List Str).Nodup by decide +kernel) rfl Sort)) pS (λ_ _ _ _=>(bD aa))) rfl)
  (ao (fg PassesOwn.never rfl (cE (gO jv T.de hr (aq 1))) (ij (i:=2) (j:=3) rfl sc.nd rfl rfl Sort Sort)
  (ao (bW (kr c9 T.aR hr (aq 0) (ag (aq 2) (ag (aq 3) (ag kG aa)))))))))))))))),?_⟩
 have aW:=hn.ok;nofun;obtain⟨⟨ms,wv,N,hf,pC,Ag,Og⟩,_⟩:=id hn;obtain⟨Z,a1,b1,c1,I,g2,g3,g4⟩:=id hf;have Qy:N=lv:=MO hf hf0;subst Qy;ac_rfl;have IY:(ms.map V.ref).length<=5:=by simp[pC];exact aW.Y0
 have kD:wv.length=k.ws.length:=by simpa using Og.1
 have p9:wv.length<=10:=by rw[kD];exact aW.EC
 have O:bz≠x:=λz=>by rw[z,S]at I;exact xt I
 have Oo:a1≠x:=BW g2 S (λz=>nomatch z);have Oq:b1≠x:=BW g3 S (λz=>nomatch z);have Ot:c1≠x:=BW g4 S (λz=>nomatch z);left;refine rj x CR y _ rfl S T.aR T.df ∅ ?_;have hxa:upd H x (.ins CR y (bo "own_net" (.ref bz) [])) x=some (.ins CR y (bo "own_net" (.ref bz) [])):=af;have nxa:∀b o,b≠x->H b=some o->upd H x (.ins CR y (bo "own_net" (.ref bz) [])) b=some o:=λb o n e=>by rw[ay n];exact e
 generalize hGa:upd H x (.ins CR y (bo "own_net" (.ref bz) []))=Ga at *;left;refine⟨aab _,λp hp=>?_⟩;have sp0:=au.new (.lst []) hp;have ep0:upd Ga p (.lst []) p=some (.lst []):=af;generalize hGb:upd Ga p (.lst [])=Gb at *;left;refine rj x CR y _ rfl (sp0 _ _ hxa) T.aR T.cY (bT (n:=999) ∅) ?_;have LM:upd Gb x (.ins CR y (bo "picks_done" (.ref p) (bo "own_net" (.ref bz) []))) x=some (.ins CR y (bo "picks_done" (.ref p) (bo "own_net" (.ref bz) []))):=af;have ka:∀b o,b≠x->Ga b=some o->upd Gb x (.ins CR y (bo "picks_done" (.ref p) (bo "own_net" (.ref bz) []))) b=some o:=λb o n e=>by rw[ay n];exact sp0 _ _ e
 have npx:p≠x:=Ne.symm (av hxa hp);have ep:upd Gb x (.ins CR y (bo "picks_done" (.ref p) (bo "own_net" (.ref bz) []))) p=some (.lst []):=by rw[ay npx];exact ep0
 generalize Zi:upd Gb x (.ins CR y (bo "picks_done" (.ref p) (bo "own_net" (.ref bz) [])))=G0 at *;have Ou:∀b o,b≠x->H b=some o->G0 b=some o:=λb o n e=>ka b o n (nxa b o n e);left;refine bV ?_;left;refine eD (Ou _ _ O I) (eS ⋯ ⋯ ⋯) ?_;refine gc bz ms wv N rfl ⟨Z,a1,b1,c1,Ou _ _ O I,Ou _ _ Oo g2,Ou _ _ Oq g3,Ou _ _ Ot g4⟩ (λZj acq=>?_);have RL:=au.new (.lst (ms.map V.ref)) acq;have E5:upd G0 Zj (.lst (ms.map V.ref)) Zj=some (.lst (ms.map V.ref)):=af;generalize aiG:upd G0 Zj (.lst (ms.map V.ref))=WQ at *;left;refine .inl ⟨⟨_,aT.of E5⟩,λW Bv=>?_⟩;refine bE (J:=x6 K Zj) (n:=(ms.map V.ref).length) (λi ys H'=>∃as:List Addr,ys=as.map V.ref/\au WQ H'/\tO WQ H' W as i (λj H' vs=>∃v,vs=[v]/\HT H' 2 v (yC (k.ms.getD j default).ns (k.ms.getD j default).row))) (P' (small ())) ⟨[],rfl,au.new _ Bv,tO.nil⟩ ?_ ?_ ?_ ?_
 ·rintro i ys H' hi ⟨_,_,s3,_⟩;exact⟨_,(ms.map V.ref)[i],aT.of (s3 _ _ E5),di hi⟩
 ·rintro ys H' ⟨_,_,s3,_⟩;exact⟨_,aT.of (s3 _ _ E5),K' _⟩
 ·intro i ys H' hi l hl iS xx H4 jc;nofun;obtain⟨as,rfl,s3,hL⟩:=iS;obtain⟨rfl,hy⟩:=jc;ac_rfl;have ex:=hy _ (aT.of (s3 _ _ E5));calc⟨Ext.set (Ext.refl _) rfl,?_⟩;left
  try rw[if_pos trivial]
  have him:i<ms.length:=by simpa using hi
  have exm:xx=.ref ms[i]:=by
   rw[List.getElem?_map,di him]at ex
   cases ex;rfl
  nofun;subst exm;have MP:i<k.ms.length:=by lia
  have nmx:ms[i]≠x:=λz=>by
   obtain⟨d1,s1,d2,X,_⟩:=Ag i ms[i] _ (di him) (bq (d:=default) MP);rw[z,S]at X;exact xt X
  have To:Ta C H4 ms[i] (k.ms.getD i default):=by
   obtain⟨d1,s1,d2,X,w2,w3⟩:=Ag i ms[i] _ (di him) (bq (d:=default) MP);have tt:cm H H4:=λb xs e=>s3 _ _ (RL _ _ (Ou b _ (λz=>by rw[z,S]at e;cases e) e));exact⟨d1,s1,d2,s3 _ _ (RL _ _ (Ou _ _ nmx X)),w2.aK tt,w3.aK tt⟩
  obtain⟨d1,s1,d2,X,w2,w3⟩:=id To;ac_rfl;calc mth X (CW ⋯ ⋯ ⋯) ?_;calc⟨ms[i],_,_,_,_,rfl,To,λst jV=>?_⟩;left;calc⟨P' (small nofun),λp hp=>?_⟩;have sN:=au.new (.lst [st]) hp;have nD:p≠W:=Ne.symm (av l hp);refine cD (sN _ _ l) hl hi (P' (small ())) ⟨as++[p],nofun,λb o e=>?_,?_⟩
  ·rw[ay (av e Bv)];exact sN _ _ (s3 _ _ e)
  ·refine hL.snoc s3 (by rw[l];simp) hp (vs:=[st]) ?_ ⟨st,rfl,jV.aK (λb xs e=>by rw[ay (λz=>by rw[z,l] at e;cases e)];calc sN _ _ e)⟩ (λb o nb e=>?_) (λj vs ⟨v,e,h⟩=>⟨v,e,h.aK (λb xs e=>by rw[ay (λz=>by rw[z,l] at e;cases e)];calc sN _ _ e)⟩)
   ·rw[ay nD];exact af
   ·rw[ay nb];exact sN _ _ e
 intro ys H1 l hl sW;obtain⟨A1,rfl,Tp,Zk⟩:=sW;have WR:=Tp _ _ (RL _ _ LM);left;refine rj x CR y _ rfl WR T.aR T.b8 (bT (n:=999) (bT (n:=998) ∅)) ?_;obtain⟨G1,Y6,pA,Zl,WT,acs⟩:=vK (bo "states_had" (.ref W) (bo "picks_done" (.ref p) (bo "own_net" (.ref bz) []))) Tp WR;rw[Y6];have WU:=WT _ _ l;clear Y6;have kg1:∀b o,b≠x->G0 b=some o->G1 b=some o:=λb o n e=>Zl b o n (RL _ _ e);have Tq:∀b o,b≠x->H b=some o->G1 b=some o:=λb o n e=>kg1 b o n (Ou b o n e);have fD1:WQ W=none:=Bv;clear l;left;refine bV ?_;left;refine eD (Tq _ _ O I) (eS ⋯ ⋯ ⋯) ?_;refine gc bz ms wv N rfl ⟨Z,a1,b1,c1,Tq _ _ O I,Tq _ _ Oo g2,Tq _ _ Oq g3,Tq _ _ Ot g4⟩ (λlm2 acw=>?_);have Tr:=au.new (.lst (ms.map V.ref)) acw;have uE:upd G1 lm2 (.lst (ms.map V.ref)) lm2=some (.lst (ms.map V.ref)):=af;generalize aiJ:upd G1 lm2 (.lst (ms.map V.ref))=Gd2 at *;left;refine .inl ⟨⟨_,aT.of uE⟩,λD2 EV=>?_⟩;refine lA (vs:=[V.int 0]) uE EV () (λ_=>Ext.set (Ext.refl _) rfl) (λ_ _ _ r=>And.intro ∅ r) ?_;intro A2 H2 l RM Zm;have WV:=RM _ _ (Tr _ _ pA);left;refine rj x CR y _ rfl WV T.aR T.d9 (bT (n:=999) (bT (n:=998) (bT (n:=997) ∅))) ?_;obtain⟨G2,Mp,ER,Ts,WW,aiK⟩:=vK (bo "words_had" (.ref D2) (bo "states_had" (.ref W) (bo "picks_done" (.ref p) (bo "own_net" (.ref bz) [])))) RM WV;rw[Mp];have Tt:=WW _ _ l;clear Mp;have kg2:∀b o,b≠x->G1 b=some o->G2 b=some o:=λb o n e=>Ts b o n (Tr _ _ e);have Tu:∀b o,b≠x->H b=some o->G2 b=some o:=λb o n e=>kg2 b o n (Tq b o n e);have V6:Gd2 D2=none:=EV;clear l;left;refine bV ?_;left;refine eD (Tu _ _ O I) (eS ⋯ ⋯ ⋯) ?_;refine gc bz ms wv N rfl ⟨Z,a1,b1,c1,Tu _ _ O I,Tu _ _ Oo g2,Tu _ _ Oq g3,Tu _ _ Ot g4⟩ (λlm3 acz=>?_);have Tv:=au.new (.lst (ms.map V.ref)) acz;have WX:upd G2 lm3 (.lst (ms.map V.ref)) lm3=some (.lst (ms.map V.ref)):=af;generalize aiL:upd G2 lm3 (.lst (ms.map V.ref))=Gd3 at *;left;refine .inl ⟨⟨_,aT.of WX⟩,λD3 EW=>?_⟩;refine lA (vs:=[]) WX EW () (λ_=>Ext.set (Ext.refl _) rfl) (λ_ _ _ r=>And.intro ∅ r) ?_;intro A3 H3 l RN Zn;have WZ:=RN _ _ (Tv _ _ ER);left;refine rj x CR y _ rfl WZ T.aR T.cZ (bT (n:=999) (bT (n:=998) (bT (n:=997) (bT (n:=996) ∅)))) ?_;obtain⟨G3,Oa,K4,Tw,W0,aiM⟩:=vK (bo "words_said" (.ref D3) (bo "words_had" (.ref D2) (bo "states_had" (.ref W) (bo "picks_done" (.ref p) (bo "own_net" (.ref bz) []))))) RN WZ;rw[Oa];have Tz:=W0 _ _ l;clear Oa;have kg3:∀b o,b≠x->G2 b=some o->G3 b=some o:=λb o n e=>Tw b o n (Tv _ _ e);have TB:∀b o,b≠x->H b=some o->G3 b=some o:=λb o n e=>kg3 b o n (Tu b o n e);have V9:Gd3 D3=none:=EW;clear l;left;refine bV ?_;left;refine eD (TB _ _ O I) (eS ⋯ ⋯ ⋯) ?_;refine gc bz ms wv N rfl ⟨Z,a1,b1,c1,TB _ _ O I,TB _ _ Oo g2,TB _ _ Oq g3,TB _ _ Ot g4⟩ (λlm4 acC=>?_);have TC:=au.new (.lst wv) acC;have W2:upd G3 lm4 (.lst wv) lm4=some (.lst wv):=af;generalize aiN:upd G3 lm4 (.lst wv)=Gd4 at *;left;refine .inl ⟨⟨_,aT.of W2⟩,λD4 TF=>?_⟩;refine lA (vs:=[]) W2 TF () (λ_=>Ext.set (Ext.refl _) rfl) (λ_ _ _ r=>And.intro ∅ r) ?_;intro A4 H4 l Ov Zo;have W3:=Ov _ _ (TC _ _ K4);left;refine rj x CR y _ rfl W3 T.aR T.bF (bT (n:=999) (bT (n:=998) (bT (n:=997) (bT (n:=996) (bT (n:=995) ∅))))) ?_;obtain⟨G4,Y8,Rv,TH,W4,aiO⟩:=vK (bo "letters_say" (.ref D4) (bo "words_said" (.ref D3) (bo "words_had" (.ref D2) (bo "states_had" (.ref W) (bo "picks_done" (.ref p) (bo "own_net" (.ref bz) [])))))) Ov W3;rw[Y8];have TJ:=W4 _ _ l;clear Y8;have kg4:∀b o,b≠x->G3 b=some o->G4 b=some o:=λb o n e=>TH b o n (TC _ _ e);have TK:∀b o,b≠x->H b=some o->G4 b=some o:=λb o n e=>kg4 b o n (TB b o n e);have fD4:Gd4 D4=none:=TF;clear l;left;refine bV ?_;left;refine eD (TK _ _ O I) (eS ⋯ ⋯ ⋯) ?_;refine gc bz ms wv N rfl ⟨Z,a1,b1,c1,TK _ _ O I,TK _ _ Oo g2,TK _ _ Oq g3,TK _ _ Ot g4⟩ (λlm5 acG=>?_);have TL:=au.new (.lst wv) acG;have W5:upd G4 lm5 (.lst wv) lm5=some (.lst wv):=af;generalize aiP:upd G4 lm5 (.lst wv)=Gd5 at *;left;refine .inl ⟨⟨_,aT.of W5⟩,λD5 CT=>?_⟩;refine lA (vs:=[]) W5 CT () (λ_=>Ext.set (Ext.refl _) rfl) (λ_ _ _ r=>And.intro ∅ r) ?_;intro A5 H5 l Ow Zp;have W6:=Ow _ _ (TL _ _ Rv);left;refine rj x CR y _ rfl W6 T.aR T.eZ (bT (n:=999) (bT (n:=998) (bT (n:=997) (bT (n:=996) (bT (n:=995) (bT (n:=994) ∅)))))) ?_;obtain⟨G5,Tg,FW,TM,W7,aiQ⟩:=vK (bo "senders" (.ref D5) (bo "letters_say" (.ref D4) (bo "words_said" (.ref D3) (bo "words_had" (.ref D2) (bo "states_had" (.ref W) (bo "picks_done" (.ref p) (bo "own_net" (.ref bz) []))))))) Ow W6;rw[Tg];have TN:=W7 _ _ l;clear Tg;have kg5:∀b o,b≠x->G4 b=some o->G5 b=some o:=λb o n e=>TM b o n (TL _ _ e);have TQ:∀b o,b≠x->H b=some o->G5 b=some o:=λb o n e=>kg5 b o n (TK b o n e);have fD5:Gd5 D5=none:=CT;clear l;left;refine bV ?_;left;refine eD (TQ _ _ O I) (eS ⋯ ⋯ ⋯) ?_;refine gc bz ms wv N rfl ⟨Z,a1,b1,c1,TQ _ _ O I,TQ _ _ Oo g2,TQ _ _ Oq g3,TQ _ _ Ot g4⟩ (λlm6 acK=>?_);have TR:=au.new (.lst wv) acK;have W8:upd G5 lm6 (.lst wv) lm6=some (.lst wv):=af;generalize aiR:upd G5 lm6 (.lst wv)=Gd6 at *;left;refine .inl ⟨⟨_,aT.of W8⟩,λD6 W9=>?_⟩;refine lA (vs:=[]) W8 W9 () (λ_=>Ext.set (Ext.refl _) rfl) (λ_ _ _ r=>And.intro ∅ r) ?_;intro A6 H6 l RO Zq;have Xa:=RO _ _ (TR _ _ FW);left;refine rj x CR y _ rfl Xa T.aR T.cU (bT (n:=999) (bT (n:=998) (bT (n:=997) (bT (n:=996) (bT (n:=995) (bT (n:=994) (bT (n:=993) ∅))))))) ?_;obtain⟨U,T,Ob,TU,Xb,aiS⟩:=vK (bo "workers" (.ref D6) (bo "senders" (.ref D5) (bo "letters_say" (.ref D4) (bo "words_said" (.ref D3) (bo "words_had" (.ref D2) (bo "states_had" (.ref W) (bo "picks_done" (.ref p) (bo "own_net" (.ref bz) [])))))))) RO Xa;rw[T];have TV:=Xb _ _ l;clear T;have kg6:∀b o,b≠x->G5 b=some o->U b=some o:=λb o n e=>TU b o n (TR _ _ e);have L:∀b o,b≠x->H b=some o->U b=some o:=λb o n e=>kg6 b o n (TQ b o n e);have fD6:Gd6 D6=none:=W9;clear l;have g:∀(G T:Hp),(∀b o,b≠x->G b=some o->T b=some o)->(∃fs,G x=some (.ins CR y fs))->(∀b vs,G b=some (.lst vs)->T b=some (.lst vs))/\cm G T:=λG T h ⟨fs,e⟩=>⟨λb vs M=>h b _ (λz=>by rw[z,e]at M;cases M) M,λb vs M=>h b _ (λz=>by rw[z,e]at M;cases M) M⟩
 have MQ:=kg6;have Ox:∀b o,b≠x->G4 b=some o->U b=some o:=λb o n e=>MQ b o n (kg5 b o n e);have Oy:∀b o,b≠x->G3 b=some o->U b=some o:=λb o n e=>Ox b o n (kg4 b o n e);have RP:∀b o,b≠x->G2 b=some o->U b=some o:=λb o n e=>Oy b o n (kg3 b o n e);have Xc:∀b o,b≠x->G1 b=some o->U b=some o:=λb o n e=>RP b o n (kg2 b o n e);have kc0:∀b o,b≠x->G0 b=some o->U b=some o:=λb o n e=>Xc b o n (kg1 b o n e);have RQ:tO WQ G1 W A1 (ms.map V.ref).length (λj H' vs=>∃v,vs=[v]/\HT H' 2 v (yC (k.ms.getD j default).ns (k.ms.getD j default).row)):=Zk.keep WT (λj vs ⟨v,e,h⟩=>⟨v,e,h.aK acs⟩);have RT:=RQ.keep (g _ _ Xc ⟨_,pA⟩).1 (λj vs ⟨v,e,h⟩=>⟨v,e,h.aK (g _ _ Xc ⟨_,pA⟩).2⟩);have Oz:=(g _ _ Xc ⟨_,pA⟩).1 _ _ WU;have RU:tO Gd2 G2 D2 A2 (ms.map V.ref).length (λ_ _ vs=>vs=[V.int 0]):=Zm.keep WW (λj vs e=>e);have RV:=RU.keep (g _ _ RP ⟨_,ER⟩).1 (λj vs e=>e);have OA:=(g _ _ RP ⟨_,ER⟩).1 _ _ Tt;have RW:tO Gd3 G3 D3 A3 (ms.map V.ref).length (λ_ _ vs=>vs=[]):=Zn.keep W0 (λj vs e=>e);have RX:=RW.keep (g _ _ Oy ⟨_,K4⟩).1 (λj vs e=>e);have OB:=(g _ _ Oy ⟨_,K4⟩).1 _ _ Tz;have RY:tO Gd4 G4 D4 A4 wv.length (λ_ _ vs=>vs=[]):=Zo.keep W4 (λj vs e=>e);have RZ:=RY.keep (g _ _ Ox ⟨_,Rv⟩).1 (λj vs e=>e);have OC:=(g _ _ Ox ⟨_,Rv⟩).1 _ _ TJ;have R0:tO Gd5 G5 D5 A5 wv.length (λ_ _ vs=>vs=[]):=Zp.keep W7 (λj vs e=>e);have xu:=R0.keep (g _ _ MQ ⟨_,FW⟩).1 (λj vs e=>e);have vL:=(g _ _ MQ ⟨_,FW⟩).1 _ _ TN;have MR:tO Gd6 U D6 A6 wv.length (λ_ _ vs=>vs=[]):=Zq.keep Xb (λj vs e=>e);have Xd:=(g _ _ kc0 ⟨_,LM⟩).1 _ _ ep;have l:(ms.map V.ref).length=k.ms.length:=by simp[pC]
 rw[l]at RT;rw[l]at RV;rw[l]at RX;rw[kD]at RZ;rw[kD]at xu;rw[kD]at MR;obtain⟨ad,RJ⟩:∃ad:Nat->Nat->Addr,∀t i,ad t i=([[p],A1,A2,A3,A4,A5,A6].getD t []).getD i 0:=⟨_,λ_ _=>rfl⟩
 have pz:∀{A B:Hp},(∀b o,b≠x->A b=some o->B b=some o)->∀{o},B x=some o->∀b,A b≠none->B b≠none:=λ{A B} h {o} e b hb=>by
  by_cases z:b=x
  ·rw[z,e];exact λz=>nomatch z
  ·cases e1:A b with
   |none=>calc absurd e1 hb
   |some u=>rw[h b u z e1];exact λz=>nomatch z
 have Y:∀{A:Hp} {b:Addr} {o:HO},A b=some o->A b≠none:=λe z=>by rw[e]at z;cases z
 have nFx:∀b,FF b->b≠x:=λb h z=>by
  obtain⟨o,e,so⟩:=kF b h;rw[z,S]at e;cases e;exact so
 obtain⟨bS,Om,hDo⟩:=Dw (F:=FF) (G:=U) (n:=k.n) (c:=(RS.new k).ct) (λt=>[Ga,WQ,Gd2,Gd3,Gd4,Gd5,Gd6].getD t U) (λt=>t) _ (λt=>[x,W,D2,D3,D4,D5,D6].getD t x) (λt=>[λ_ _ u=>u=.lst [],λj H u=>∃vs,u=.lst vs/\∃v,vs=[v]/\HT H 2 v (yC (k.ms.getD j default).ns (k.ms.getD j default).row),λ_ _ u=>∃vs,u=.lst vs/\vs=[V.int 0]].getD t λ_ _ u=>∃vs,u=.lst vs/\vs=[]) RJ (λ_=>rfl) (λ_ _ _ _ h=>h)
  (λt=>match t with
   |0=>pz (λb o n e=>RL _ _ (ka b o n e)) (RL _ _ LM)
   |1=>pz (λb o n e=>Tr _ _ (Zl b o n e)) (Tr _ _ pA)
   |2=>pz (λb o n e=>Tv _ _ (Ts b o n e)) (Tv _ _ ER)
   |3=>pz (λb o n e=>TC _ _ (Tw b o n e)) (TC _ _ K4)
   |4=>pz (λb o n e=>TL _ _ (TH b o n e)) (TL _ _ Rv)
   |5=>pz (λb o n e=>TR _ _ (TM b o n e)) (TR _ _ FW)
   |6=>pz TU Ob
   | (t + 7)=>λb h=>h)
  (λb h=>by
   obtain⟨o,e,so⟩:=kF b h;calc⟨Y (nxa b o (nFx b h) e),o,L b o (nFx b h) e,so⟩)
  (λt ht=>match t,ht with
   | 0,_=>⟨⟨rfl,nofun,λa m=>by rw[List.mem_singleton.mp m];exact⟨hp,npx⟩,λj a e=>by cases j with
    |zero=>cases e;calc⟨_,Xd,rfl⟩
    | succ j=>cases e⟩,λa m=>by rw[List.mem_singleton.mp m];calc Y (RL _ _ ep),λh=>absurd h ∅⟩
   |1,_=>⟨RT.o,RQ.some Tr,λ_=>⟨fD1,Y (Tr _ _ WU)⟩⟩
   |2,_=>⟨RV.o,RU.some Tv,λ_=>⟨V6,Y (Tv _ _ Tt)⟩⟩
   |3,_=>⟨RX.o,RW.some TC,λ_=>⟨V9,Y (TC _ _ Tz)⟩⟩
   |4,_=>⟨RZ.o,RY.some TL,λ_=>⟨fD4,Y (TL _ _ TJ)⟩⟩
   |5,_=>⟨xu.o,R0.some TR,λ_=>⟨fD5,Y (TR _ _ TN)⟩⟩
   |6,_=>⟨MR.o,MR.some (au.refl _),λ_=>⟨fD6,Y TV⟩⟩
   | (t + 7),h=>absurd h ())
  (λt i u ht h=>by
   match t,ht,h with
   |0,_,h=>cases h;trivial
   |1,_,⟨_,e,_⟩|2,_,⟨_,e,_⟩|3,_,⟨_,e,_⟩|4,_,⟨_,e,_⟩|5,_,⟨_,e,_⟩|6,_,⟨_,e,_⟩=>cases e;trivial
   | (t + 7),h,_=>calc absurd h ())
  (λhz _ t i u ht hi e h=>by
   match t,ht,h with
   |0,_,h=>cases h;calc(dQ.nil:dQ _ 4 [] [])
   |1,_,⟨_,e,v,M,hv⟩=>cases e;cases M;calc(dQ.one ((JB hz hv).mono ∅):dQ _ 4 [v] [_])
   |2,_,⟨_,e,M⟩=>cases e;cases M;calc(dQ.one (.int 0):dQ _ 4 [.int 0] [.int 0])
   |3,_,⟨_,e,M⟩|4,_,⟨_,e,M⟩|5,_,⟨_,e,M⟩|6,_,⟨_,e,M⟩=>cases e;cases M;calc(dQ.nil:dQ _ 4 [] [])
   | (t + 7),h,_=>calc absurd h ())
 have R:∀b,FP k.n ad b->H b=none:=λb hb=>by
  cases j:H b with
  |none=>rfl
  |some o=>
   have e:=(Om b hb).1;have:b≠x:=λz=>by rw[z]at e;exact Y hxa e
   exact absurd e (Y (nxa b o this j))
 have hR:bY C CN CR FF U x bz k (RS.new k) ad:=by
  refine⟨⟨y,λt=>[x,W,D2,D3,D4,D5,D6].getD t x,?_,λt j l=>?_⟩,bS,?_⟩
  ·rw[Ob,zA,RJ];rfl
  ·obtain⟨X,w2,w3⟩:=hDo t j l;calc⟨?_,X,w2⟩;rw[<-w3]
   match t,j,l with
   |1,_,_=>calc Oz
   |2,_,_=>calc OA
   |3,_,_=>calc OB
   |4,_,_=>calc OC
   |5,_,_=>calc vL
   |6,_,_=>calc TV
   |(t+7),_,h=>exact absurd h ()
  ·calc⟨⟨ms,wv,N,⟨Z,a1,b1,c1,L _ _ O I,L _ _ Oo g2,L _ _ Oq g3,L _ _ Ot g4⟩,pC,λi m d e1 j=>?_,Og.aK (g _ _ L ⟨_,S⟩).2⟩,aW⟩;obtain⟨d1,s1,d2,X,w2,w3⟩:=Ag i m d e1 j;have l:m≠x:=λz=>by rw[z,S] at X;exact xt X
   exact⟨d1,s1,d2,L _ _ l X,w2.aK (g _ _ L ⟨_,S⟩).2,w3.aK (g _ _ L ⟨_,S⟩).2⟩
 have acP:=K2.aK (g _ _ L ⟨_,S⟩).2;clear RQ RT RU RV RW RX RY RZ R0 xu MR Oz OA OB OC vL WU Zk Tt Zm Tz Zn TJ Zo TN Zp TV Zq Xd kc0 Xc RP Oy Ox MQ;left;calc⟨bz,Z,_,rfl,L _ _ O I,eS ⋯ ⋯ ⋯,bz,ms,wv,N,rfl,⟨Z,a1,b1,c1,L _ _ O I,L _ _ Oo g2,L _ _ Oq g3,L _ _ Ot g4⟩,λll zh=>?_⟩;have s7:=au.new (.lst N) zh;have ell:upd U ll (.lst N) ll=some (.lst N):=af;generalize Zb:upd U ll (.lst N)=G7 at *;have nll:¬FP k.n ad ll:=λz=>by
  obtain⟨_,u,e,_⟩:=Om ll z;rw[zh]at e;cases e
 have g:=hR.same s7;have Xe:=acP.aK s7.aS;have Xf:N.length=ls.length:=by simpa using Xe.1
 refine .inl ⟨⟨_,aT.of ell⟩,jI (K:=K) (xs:=N) (λi σ H'=>(∃z2 z3,σ=[some (V.ref x),some (V.ref bz),z2,z3])/\Fr (FP k.n ad) G7 H'/\bY C CN CR FF H' x bz k ((RS.new k).kR (ls.take i)) ad) ?_ ?_ ?_ ?_⟩
 ·exact⟨⟨_,_,rfl⟩,Fr.refl,g⟩
 ·rintro i σ H' hi ⟨_,fi,_⟩;exact aT.of (fi.at ell nll)
 ·intro i z σ H' hz Bo;nofun;obtain⟨⟨z2,z3,rfl⟩,fi,FY⟩:=Bo;have g:i < ls.length:=by rw[<-Xf];exact(List.getElem?_eq_some_iff.mp hz).1
  have j:ls[i]?=some ls[i]:=di g;have RH:=(Xe.2 i z (rm ls[i]) hz (by rw[List.getElem?_map,j];rfl)).aK fi.aS;have JH:=vb _ (aaa g);have MN:(RS.new k).kR (ls.take (i+1))=((RS.new k).kR (ls.take i)).put ls[i].1.toNat ls[i].2 none:=by
   rw[List.take_succ,j];exact qi _
  generalize ls[i]=p at *;obtain⟨pj,px⟩:=p;obtain⟨tz,u1,u2,kz,rfl,FC,y1,y2⟩:=cw RH;obtain rfl:=y1.cy;obtain rfl:=y2.cy;ac_rfl;calc yS (bJ.of FC) ?_;left;obtain⟨j,l,g,t⟩:=FY.ins;calc eD g (eE ⋯) ?_;have j:((pj.toNat:Nat):Int)=pj:=aa5 JH.1;refine⟨FF,x,bz,k,_,ad,pj.toNat,px,.bI,none,by rw[j],FY,λb h=>by
   obtain⟨o,e,so⟩:=kF b h;calc⟨o,fi.at (s7 _ _ (L b o (nFx b h) e)) (λz=>by rw[R b z] at e;cases e),so⟩,by have:=JH.2;show pj.toNat < _;simp at this;lia,.bI,(rR (ls.take i) (BL aW)).mono (by simp;lia),λj k g=>?_⟩
  left;calc iR ⟨_,_,rfl,rfl⟩ (fi.trans k) ?_;rw[MN];exact g
 ·rintro σ H' ⟨_,fi,FY⟩;rw[Xf,List.take_length]at FY;calc q ad _ (λb o n e=>?_) R FY;calc fi.at (s7 _ _ (L b o n e)) λz=>?_;rw[R b z]at e;cases e
def gS(H:Hp)(x:V)(M:Int)(ns row:List Int)(d:List bC):Prop:=∃t a b c xs,x=.ref t/\H t=some (.tup [.int M,.ref a,.ref b,.ref c])/\H a=some (.lst (ns.map V.int))/\H b=some (.lst (row.map V.int))/\H c=some (.lst xs)/\iT H 2 xs (d.map bC.dv)
theorem gS.cv{x:V}{M:Int}{a:List bC}(s:Cv H H')(h:gS H x M ns row a):gS H' x M ns row a:=by
 obtain⟨t,a,b,c,d,e,f,g,i,j,l⟩:=h;calc⟨t,a,b,c,d,e,s _ _ f (λk z=>by cases z),s _ _ g (λk z=>by cases z),s _ _ i (λk z=>by cases z),s _ _ j (λk z=>by cases z),l.aK s.aS⟩
def BM(H:Hp)(mv:List V)(gP:List MD):Prop:=mv.length=gP.length/\∀(i:Nat) v d,mv[i]?=some v->gP[i]?=some d->gS H v d.M d.ns d.row d.ds
theorem BM.cv(s:Cv H H')(h:BM H mv gP):BM H' mv gP:=⟨h.1,λi v d a b=>(h.2 i v d a b).cv s⟩
def ToldN(H:Hp)(x:V)(gP:List MD)(ws:List (Int×Int×Str))(ls:List (Int×Int)):Prop:=∃t a b c mv wv d,x=.ref t/\H t=some (.tup [.ref a,.ref b,.ref c])/\H a=some (.lst mv)/\H b=some (.lst wv)/\H c=some (.lst d)/\BM H mv gP/\iT H 1 wv (ws.map kY)/\iT H 1 d (ls.map rm)
theorem ToldN.cv{x:V}(s:Cv H H')(h:ToldN H x gP ws ls):ToldN H' x gP ws ls:=by
 obtain⟨t,a,b,c,mv,wv,d,e,f,g,i,j,l,m,n⟩:=h;calc⟨t,a,b,c,mv,wv,d,e,s _ _ f (λk z=>by cases z),s _ _ g (λk z=>by cases z),s _ _ i (λk z=>by cases z),s _ _ j (λk z=>by cases z),l.cv s,m.aK s.aS,n.aK s.aS⟩
def K6(a:V)(ev:Addr)(o:Nat->Addr):List (Key×V):=[(.inr "net",a),(.inr "put",.ref (o 4)),(.inr "sender",.ref (o 5)),(.inr "worker",.ref (o 6)),(.inr "states",.ref (o 1)),(.inr "words",.ref (o 2)),(.inr "heard",.ref (o 3)),(.inr "events",.ref ev)]
section
variable {H:Hp}{d:Addr}{tn:V}{ev:Addr}{o:Nat->Addr}
theorem zH(h:H d=some (.dK (K6 tn ev o))):kC H d (.str "net") (some tn):=.inl ⟨_,.inr "net",.inl h,rfl,by kernel_rfl⟩
theorem uF(h:H d=some (.dK (K6 tn ev o))):kC H d (.str "put") (some (.ref (o 4))):=.inl ⟨_,.inr "put",.inl h,rfl,by kernel_rfl⟩
theorem MT(h:H d=some (.dK (K6 tn ev o))):kC H d (.str "sender") (some (.ref (o 5))):=.inl ⟨_,.inr "sender",.inl h,rfl,by kernel_rfl⟩
theorem Xg(h:H d=some (.dK (K6 tn ev o))):kC H d (.str "worker") (some (.ref (o 6))):=.inl ⟨_,.inr "worker",.inl h,rfl,by kernel_rfl⟩
theorem MU(h:H d=some (.dK (K6 tn ev o))):kC H d (.str "states") (some (.ref (o 1))):=.inl ⟨_,.inr "states",.inl h,rfl,by kernel_rfl⟩
theorem Xh(h:H d=some (.dK (K6 tn ev o))):kC H d (.str "words") (some (.ref (o 2))):=.inl ⟨_,.inr "words",.inl h,rfl,by kernel_rfl⟩
theorem JI(h:H d=some (.dK (K6 tn ev o))):kC H d (.str "heard") (some (.ref (o 3))):=.inl ⟨_,.inr "heard",.inl h,rfl,by kernel_rfl⟩
theorem Xi(h:H d=some (.dK (K6 tn ev o))):kC H d (.str "events") (some (.ref ev)):=.inl ⟨_,.inr "events",.inl h,rfl,by kernel_rfl⟩
end
def _root_.DD.RS.tv(r:RS):Nat->Nat->CO
 |0,_=>.l (r.picks.map pairD)
 |1,m=>.l ((r.mm m).gp.map rg)
 |2,m=>.l ((r.mm m).wp.map λw=>.lst (w.map .int))
 |3,m=>.l ((r.mm m).hr.map λw=>.lst (w.map .int))
 |4,w=>.l ((r.ww w).say.map .int)
 |5,w=>.l ((r.ww w).snd.map pB)
 |_,w=>.d (kS (r.ww w).dX) ((r.ww w).dX.countP Option.isSome)
theorem count_set{e:Int×Int}:∀{l:List (Option (Int×Int))}{k:Nat},l[k]?=some none->(l.set k (some e)).countP Option.isSome=l.countP Option.isSome+1
 | [],k,h=>by simp at h
 |a::r,0,h=>by simp at h;subst h;simp
 |a::r,k+1,h=>by
  have b:=count_set (e:=e) (l:=r) (k:=k) (by simpa using h);simp only[List.set_cons_succ,List.countP_cons];rw[b];lia
theorem JJ{l:List (Option (Int×Int))}{k:Nat}(h:k<l.length)(j:Int):kS (l.set k (some e)) j=if j=((k:Nat):Int) then some (pairD e) else kS l j:=by
 unfold kS;by_cases a:0<=j
 ·rw[if_pos a,if_pos a];by_cases z:j=((k:Nat):Int)
  ·subst z;rw[if_pos rfl,Int.toNat_natCast,List.getD_eq_getElem?_getD,List.getElem?_set];simp[h]
  ·rw[if_neg z,List.getD_eq_getElem?_getD,List.getElem?_set,if_neg (),<-List.getD_eq_getElem?_getD]
 ·rw[if_neg a,if_neg a,if_neg ()]
theorem E6{l:List (Option (Int×Int))}:kS (l++[none])=kS l:=by
 funext j;unfold kS;split
 ·congr 1;rw[List.getD_eq_getElem?_getD,List.getD_eq_getElem?_getD,List.getElem?_append];split
  ·rfl
  ·next z=>
   rw[List.getElem?_eq_none (l:=l) ()]
   cases a:j.toNat-l.length with
   |zero=>rfl
   |succ n=>rfl
 ·rfl
structure cj(F:Addr->Prop)(H:Hp)(d:Addr)(tn:V)(nt:NT)(r:RS)(ad:Nat->Nat->Addr):Prop where
 dk:∃o,H d=some (.dK (K6 tn (ad 0 0) o))/\¬F d/\¬FP nt.n ad d/\∀t,1<=t->t<=6->H (o t)=some (.lst (iz nt.n ad t))/\¬F (o t)/\¬FP nt.n ad (o t)
 bS:dM F H nt.n ad r.tv
 told:∃ls,ToldN (hJ (λb=>F b\/FP nt.n ad b) H) tn nt.ms nt.ws ls
 ok:nt.Ok
section
variable {F:Addr->Prop}{H H':Hp}{d:Addr}{tn:V}{nt:NT}{r:RS}{ad:Nat->Nat->Addr}
theorem cj.keep(h:cj F H d tn nt r ad)(f:Fr F H H'):cj F H' d tn nt r ad:=by
 obtain⟨⟨o,g,e,i,c⟩,j,⟨ls,k⟩,l⟩:=h;calc⟨⟨o,f.at g e,e,i,λt a b=>⟨f.at (c t a b).1 (c t a b).2.1,(c t a b).2⟩⟩,j.keep f,⟨ls,k.cv (f.mono λb z=>.inl z).hJ⟩,l⟩
theorem cj.same(h:cj F H d tn nt r ad)(s:au H H'):cj F H' d tn nt r ad:=h.keep s.fr
theorem cj.own{c:RS}(h:cj F H d tn nt r ad)(f:Fr (FP nt.n ad) H H')(b:dM F H' nt.n ad c.tv):cj F H' d tn nt c ad:=by
 obtain⟨⟨o,g,i,e,c⟩,l,⟨ls,j⟩,k⟩:=h;calc⟨⟨o,f.at g e,i,e,λt a b=>⟨f.at (c t a b).1 (c t a b).2.2,(c t a b).2⟩⟩,b,⟨ls,j.cv (f.mono λb z=>.inr z).hJ⟩,k⟩
end
theorem E8{l:List (Option (Int×Int))}{k:Nat}:(kS l ((k:Nat):Int)).isSome= !(l.getD k none).isNone:=by
 unfold kS;rw[if_pos (),Int.toNat_natCast]
 cases l.getD k none<;>rfl
theorem E9{H0 H:Hp}{a:Addr}{b:List (Key×V)}{g:Int->Option DV}{N:Nat}(e:H a=some (.dK b))(h:OR H0 (.d g N) (.dK b))(k:Int):∃o,kC H a (.int k) o/\o.isSome=(g k).isSome:=by
 calc bL _ (kC.k (k:=Sum.inl k) e) ?_;have:=h.2 k;revert this
 cases g k with
 |none=>intro h;rw[h];rfl
 |some d=>intro⟨v,h,_⟩;rw[h];rfl
abbrev lC:Stmt:=top 70
def xy:Sp:=λvs H Q _=>∃(F:Addr->Prop) (d:Addr) (a:V) (nt:NT) (r:RS) (ad:Nat->Nat->Addr) (m:Nat),vs=[.ref d,.int m]/\cj F H d a nt r ad/\r.Ok nt/\r.picks.length<=400/\m<nt.ws.length/\∀l H',au H H'->H l=none->H' l=some (.lst ((r.rQ m).map λk=>.int (k:Nat)))->Q (.ref l) H'
theorem zI(D:dq K mg "_law_lying" "_law_lying" lC ["_law_run","_law_way"])(T:Tx K mg C CN CR F FD):Def P w K mg base "_law_lying" 1 ["_law_run","_law_way"] xy:=by
 have sc:aE ["_law_run","_law_way"] ["_law_run","_law_way"] (aA lC):=by walk_at "s"
 symm;obtain⟨F,d,g,B,r,ad,m,rfl,j,k,G,b,q⟩:=h;have g:=hr.units;have B:=lt1 g;calc⟨_,(ao (aH (dJ (N':=["_law_k","_law_way","_law_run"]) (ix:=[none,some 1,some 0]) (cP rfl T.dY (ag (bb aM rfl T.bX S' (ag (ak g (ak g (aq 0) aD) (aq 1)) aa)) aa)) (λ_ _ _ _=>(bf (i:=0) (show(["_law_k","_law_way","_law_run"]:List Str).Nodup by decide +kernel) rfl Sort)) (λ_ _ _ _=>(jY (Pe (Ed B (aq 0) (eQ (K:=K) rfl g (eQ (K:=K) rfl g (aq 2) aD) (aq 1)))))) (λ_ _ _ _=>(aq 0))))),?_⟩;nofun;obtain⟨o,v,B,G,g⟩:=j.dk;have B:=(g 4 ∅ ∅).1;have I:=(g 6 ∅ ∅).1;obtain⟨G,L,M⟩:=j.bS.lst (t:=4) (i:=m) b rfl;obtain⟨g,N,O⟩:=j.bS.dct (t:=6) (i:=m) b rfl;ac_rfl;have g:G.length=(r.ww m).say.length:=by simpa using M.1
 have j:=k.bs m b;left;calc bV ?_;left;calc bL _ (uF v) ?_;left;calc aZ B (aY b) ?_;calc bL _ (.inl ⟨_,aT.of L,rfl⟩) ?_;left;rw[g];calc iR () () (λD p=>?_);rw[Int.toNat_natCast];refine bE (J:=DX 0 (r.ww m).say.length) (n:=(r.ww m).say.length) (λi ys H'=>au H H'/\ys=((List.range i).filter λk=>((r.ww m).dX.getD k none).isNone).map λk=>V.int (k:Nat)) (P' (small ())) ⟨au.new _ p,rfl⟩ (λi ys H' u _=>u) (λys H' _=>K' _) ?_ ?_
 ·intro i ys H' u l y R x H2 S;nofun;obtain⟨a,rfl⟩:=R;obtain⟨rfl,rfl⟩:=S;ac_rfl;calc⟨Ext.set (Ext.refl _) rfl,?_⟩;left;calc bL _ (Xg (a _ _ v)) ?_;left;calc aZ (a _ _ I) (aY b) ?_;rw[Int.zero_add];obtain⟨g,j,k⟩:=E9 (a _ _ N) O ((i:Nat):Int);calc⟨ad 6 m,g,rfl,j,?_⟩;rw[k,E8,Bool.not_not];left;by_cases z:((r.ww m).dX.getD i none).isNone=true
  ·rw[z]
   try rw[if_pos rfl]
   calc cD l y u (P' (small ())) ⟨λc o e=>by rw[ay (av e p)];calc a _ _ e,?_⟩;rw[fO,if_pos z,List.map_append];rfl
  ·rw[Bool.not_eq_true] at z;rw[z]
   try rw[if_neg ∅]
   exact⟨_,l,(),a,by rw[fO,if_neg (by rw[z];decide),List.append_nil]⟩
 ·rintro ys H' l y ⟨a,rfl⟩;calc q _ _ a p l
def iZ(nt:NT)(r:RS)(w:Nat):List Nat:=if (nt.w w).2.2="row" then(r.rQ w).take 1 else r.rQ w
def ku(nt:NT)(r:RS)(n:Nat):List (Nat×Nat):=(List.range n).flatMap λw=>(iZ nt r w).map λk=>(w,k)
theorem tQ{nt:NT}{n:Nat}:ku nt r (n+1)=ku nt r n++(iZ nt r n).map λk=>(n,k):=by
 unfold ku;rw[List.range_succ,List.flatMap_append];simp
theorem iT.app{n:Nat}{vs us:List V}{c:List DV}(h:iT H n vs c)(g:iT H n us es):iT H n (vs++us) (c++es):=by
 calc⟨by simp[h.1,g.1],λi v d a b=>?_⟩;by_cases c:i<vs.length
 ·rw[List.getElem?_append_left c]at a;rw[List.getElem?_append_left (by rw[<-h.1];calc c)]at b;exact h.2 i _ _ a b
 ·rw[List.getElem?_append_right ()]at a;rw[List.getElem?_append_right (by rw[<-h.1];lia),<-h.1]at b;calc g.2 _ _ _ a b
theorem rS{w:Nat}:(r.rQ w).length<=(r.ww w).say.length:=by
 unfold RS.rQ;calc aae (List.length_filter_le _ _) nofun
theorem vM{nt:NT}{w:Nat}:(iZ nt r w).length<=(r.ww w).say.length:=by
 unfold iZ;split
 ·rw[List.length_take];have:=rS (r:=r) (w:=w);lia
 ·calc rS
theorem vN{nt:NT}{r:RS}{B:Nat}:∀n,(∀w,w<n->(r.ww w).say.length<=B)->(ku nt r n).length<=n*B
 |0,_=>by simp[ku]
 |n+1,h=>by
  rw[tQ,List.length_append,List.length_map];have a:=vN (nt:=nt) n (λw a=>h w ());have a:=h n ();have a:=vM (nt:=nt) (r:=r) (w:=n);rw[Nat.succ_mul];lia
def pkD(p:Nat×Nat):DV:=pairD (((p.1:Nat):Int),((p.2:Nat):Int))
theorem vO{r:RS}{w k:Nat}(h:k∈(r.rQ w).take 1):∀j,j<k->((r.ww w).dX.getD j none).isNone=false:=by
 unfold RS.rQ at h;generalize b:(List.range (r.ww w).say.length).filter (λk=>((r.ww w).dX.getD k none).isNone)=l at h
 cases l with
 |nil=>simp at h
 |cons a t=>
  simp at h;subst h;intro j g;have f:(List.range (r.ww w).say.length).Pairwise (· < ·):=List.pairwise_lt_range;have c:=f.filter (λk=>((r.ww w).dX.getD k none).isNone);rw[b]at c;have f:k∈(List.range (r.ww w).say.length).filter (λk=>((r.ww w).dX.getD k none).isNone):=by rw[b];simp
  rw[List.mem_filter,List.mem_range]at f
  cases z:((r.ww w).dX.getD j none).isNone with
  |false=>rfl
  |true=>
   exfalso;have d:j∈(List.range (r.ww w).say.length).filter (λk=>((r.ww w).dX.getD k none).isNone):=by
    rw[List.mem_filter,List.mem_range];exact⟨(),z⟩
   rw[b]at d;rcases List.mem_cons.mp d with e|e
   ·lia
   ·have:=(List.pairwise_cons.mp c).1 j e;lia
theorem JK{nt:NT}(h:r.Ok nt){w k:Nat}(b:(w,k)∈ku nt r nt.ws.length):r.BD nt w k:=by
 unfold ku at b;rw[List.mem_flatMap]at b;obtain⟨j,f,b⟩:=b;rw[List.mem_range]at f;rw[List.mem_map]at b;obtain⟨j,a,e⟩:=b
 cases e;have g:k∈r.rQ w:=by
  unfold iZ at a;split at a
  ·exact List.mem_of_mem_take a
  ·exact a
 have c:k<(r.ww w).say.length/\((r.ww w).dX.getD k none).isNone=true:=by
  unfold RS.rQ at g;rw[List.mem_filter,List.mem_range]at g;exact g
 have b:=h.lk w f;refine⟨f,?_,λi b=>?_⟩
 ·rw[bq (d:=none) ()]
  cases z:(r.ww w).dX.getD k none with
  |none=>rfl
  |some e=>rw[z]at c;simp at c
 ·unfold iZ at a;rw[if_pos i] at a;have:=vO a (k - 1) ();rw[bq (d:=none) (show k - 1 < (r.ww w).dX.length by lia)]
  cases z:(r.ww w).dX.getD (k-1) none with
  |none=>rw[z]at this;simp at this
  |some e=>calc⟨e,rfl⟩
theorem R3{xs:List V}:fe xs none (some 1)=xs.take 1:=by
 unfold fe;have b:HT.eO xs.length 0 none=0:=rfl;rw[b]
 cases xs with
 |nil=>simp
 |cons a r=>
  have b:HT.eO (a::r).length (a::r).length (some 1)=1:=by
   unfold HT.eO;simp
  rw[b];simp
abbrev nC:Stmt:=top 71
def JL:Sp:=λvs H Q _=>∃(F:Addr->Prop) (d:Addr) (a:V) (nt:NT) (r:RS) (ad:Nat->Nat->Addr),vs=[.ref d]/\cj F H d a nt r ad/\r.Ok nt/\r.picks.length<=400/\∀l ys H',au H H'->H l=none->H' l=some (.lst ys)->iT H' 1 ys ((ku nt r nt.ws.length).map pkD)->Q (.ref l) H'
theorem BN(D:dq K mg "_law_free" "_law_free" nC ["_law_run"])(T:Tx K mg C CN CR F FD)(c8:Def P w K mg base "_law_lying" 1 ["_law_run","_law_way"] xy):Def P w K mg base "_law_free" 2 ["_law_run"] JL:=by
 have sc:aE ["_law_run","_law_free_here","_law_way","_law_told","_law_numbers"] ["_law_run"] (aA nC):=by walk_at "s"
 symm;obtain⟨F,d,tn,a,r,ad,rfl,I,eI,qU,q⟩:=h;have S:=hr.units;refine⟨_,(aj (ba (i:=1) sc.nd rfl Sort (bD aa))
  (aj (fg PassesOwn.never rfl (jZ rfl T.dR (ag (ak S (ak S (aq 0) aD) ai) aa)) (ij (i:=2) (j:=3) rfl sc.nd rfl rfl Sort Sort)
  (aj (ba (i:=4) sc.nd rfl Sort (aN c8 hr (ag (aq 0) (ag (aq 2) aa))))
  (aj (aU (aC (aV S) (ak S (aq 3) ai) aD (aG _)) (ao (ba (i:=4) sc.nd rfl Sort (wU (aq 4) rG (me ai)))) aJ)
  (ao (ba (i:=1) sc.nd rfl Sort (aQ cQ (aq 1) (dJ (N':=["_law_number","_law_way"]) (ix:=[none,some 2]) (cE (pv 4)) (λ_ _ _ _=>(bf (i:=0) (show(["_law_number","_law_way"]:List Str).Nodup by decide +kernel) rfl Sort)) pS (λ_ _ _ _=>(bA (ag (aq 1) (ag (aq 0) aa)))))))))))
  (ao (aH (aq 1))))),?_⟩
 nofun;obtain⟨o,hd,nF,nP,ho⟩:=I.dk;obtain⟨ls,t,am,aw,al,mv,wv,lv,rfl,h1,h2,h3,h4,h5,U,h7⟩:=I.told;have g1:=(cC h1 (λk z=>by cases z)).2;have g3:=(cC h3 (λk z=>by cases z)).2
 replace U:=U.aK dW.aS
 ac_rfl;have kD:wv.length=a.ws.length:=by simpa using U.1
 have p9:wv.length<=10:=by rw[kD];exact I.ok.EC
 have hB:∀w,w<a.ws.length->(r.ww w).say.length<=9620:=λw hw=>by have:=eI.bs w hw;lia
 left;calc⟨aab _,λW Wi=>?_⟩;have X:=au.new (.lst []) Wi;have Zr:upd H W (.lst []) W=some (.lst []):=af;generalize Zi:upd H W (.lst [])=G0 at *;left;refine zH (X _ _ hd) |> λh=>⟨_,h,?_⟩
 refine da (X _ _ g1) (az (j:=1) rfl) ⟨true,wv,Sq.l (X _ _ g3),oF (xs:=wv) (λi σ H'=>∃z2 z3 z4 y ys,σ=[some (V.ref d),some (V.ref y),z2,z3,z4]/\au H H'/\H y=none/\H' y=some (.lst ys)/\iT H' 1 ys ((ku a r i).map pkD)) ?_ ?_ ?_ ?_⟩
 ·exact⟨_,_,_,W,[],rfl,X,Wi,Zr,show iT _ 1 [] [] from iT.nil⟩
 ·intro i σ H' sW;obtain⟨_,_,_,_,_,_,b,_⟩:=sW;exact Sq.l (b _ _ g3)
 ·intro i x σ H' tt hx yZ Wt;nofun;obtain⟨z2,z3,z4,y,ys,rfl,b,L,p,M⟩:=yZ;have KR:i < a.ws.length:=by rw[<-kD];exact(List.getElem?_eq_some_iff.mp hx).1
  have s2:=au.new (.tup [.int (i:Nat),x]) Wt;have ett:upd H' tt (.tup [.int (i:Nat),x]) tt=some (.tup [.int (i:Nat),x]):=af;have rN:=(U.2 i x (kY (a.w i)) hx (by rw[List.getElem?_map,show a.ws[i]?=some (a.w i) from bq KR];rfl)).aK (b.trans s2).aS;generalize Mp:upd H' tt (.tup [.int (i:Nat),x])=G2 at *;obtain⟨ta,u1,u2,u3,kk,rfl,vJ,y1,y2,y3⟩:=bU rN;obtain rfl:=y1.cy;obtain rfl:=y2.cy;obtain rfl:=y3.cS;ac_rfl;calc yS (bJ.of ett) ?_;left;calc⟨F,d,_,a,r,ad,i,rfl,(I.same b).same s2,eI,qU,KR,λln H3 s3 fln u=>?_⟩;have tm:au H' H3:=s2.trans s3;have hly:=rS (r:=r) (w:=i);have hfw:=vM (nt:=a) (r:=r) (w:=i);have hBi:=hB i KR;left;calc da (s3 _ _ vJ) (az (j:=2) rfl) ?_;left;rename_i N1 hN1 T1 U1 Tf hU1;have g:∀N G,au H' N->N G=some (.lst ((iZ a r i).map λk=>V.int ((k:Nat):Int)))->N1 [some (V.ref d),some (V.ref y),some (V.int ((i:Nat):Int)),some (V.ref ta),some (V.ref G)] N:=by
   intro N G Wj u;clear Tf hU1;left;calc bV ?_;left;calc .inl ⟨⟨_,aT.of u⟩,λD hD=>?_⟩;refine bE (J:=x6 K G) (n:=(iZ a r i).length) (λj v H'=>au N H'/\iT H' 1 v (((iZ a r i).take j).map λk=>pkD (i,k))) (P' (small ())) ⟨au.new _ hD,show iT _ 1 [] [] from iT.nil⟩ ?_ ?_ ?_ ?_
   ·rintro j v H' O ⟨m,_⟩;exact⟨_,_,aT.of (m _ _ u),by rw[List.getElem?_map,di O];rfl⟩
   ·rintro v H' ⟨m,_⟩;exact⟨_,aT.of (m _ _ u),nofun⟩
   ·intro j v H' O R5 oW My xx H4 Rj;nofun;obtain⟨m,R⟩:=My;obtain⟨rfl,hy⟩:=Rj;have ex:=hy _ (aT.of (m _ _ u));rw[List.getElem?_map,di O] at ex;obtain rfl:=Option.some.inj ex;ac_rfl;calc⟨Ext.set (Ext.refl _) rfl,?_⟩;left
    try rw[if_pos trivial]
    calc⟨cf,λt2 qS=>?_⟩;have s6:=au.new (.tup [.int ((i:Nat):Int),.int (((iZ a r i)[j]:Nat):Int)]) qS;have Xk:=s6 _ _ R5;calc cD Xk oW O (P' (small ())) ⟨λc o e=>by rw[ay (av e hD)];calc s6 _ _ (m _ _ e),?_⟩;have tu:cm (upd H4 t2 (.tup [.int ((i:Nat):Int),.int (((iZ a r i)[j]:Nat):Int)])) (upd (upd H4 t2 (.tup [.int ((i:Nat):Int),.int (((iZ a r i)[j]:Nat):Int)])) D (.lst (v++[.ref t2]))):=(cm.refl _).upd λzs e=>by rw[Xk]at e;cases e
    rw[List.take_succ,di O,List.map_append];exact((R.aK s6.aS).snoc (cR (n:=0) af (.int _) (.int _))).aK tu
   rintro v H6 R5 oW ⟨m,R⟩;rw[List.take_length]at R;have Y:au H' H6:=Wj.trans m;left;refine .inl ⟨_,_,Y _ _ p,R5,?_,λlf' Xl=>?_⟩
   ·have a1:=M.1;have a2:=R.1;have a3:=vN (nt:=a) (r:=r) (B:=9620) i (λw hw=>hB w ());simp at a1 a2;rw[sizeLine_eq];have a5:i<=9:=by lia
    have a4:i*9620<=9*9620:=Nat.mul_le_mul_right _ a5;lia
   have s7:=au.new (.lst (ys++v)) Xl;left;calc VG _ _ _ lf' _ ⟨rfl,rfl,rfl,rfl⟩ (b.trans (Y.trans s7)) ((b.trans Y).free Xl) af ?_;rw[tQ,List.map_append];calc((M.aK Y.aS).app ?_).aK s7.aS;rw[List.map_map];exact R
  by_cases Z:(a.w i).2.2="row"
  ·rw[if_pos (by simp[Z])];left;calc .inl ⟨_,u,λG Ab=>?_⟩;rw[R3];have s4:=au.new (.lst (((r.rQ i).map λk=>V.int ((k:Nat):Int)).take 1)) Ab;exact g _ G (tm.trans s4) (by unfold iZ;rw[af,if_pos Z,List.map_take])
  ·rw[if_neg (by simp[Z])];calc L2.bc (by assumption) ?_;exact g _ ln tm (by unfold iZ;rw[if_neg Z];calc u)
 ·intro σ H' Rl;obtain⟨z2,z3,z4,y,ys,rfl,b,L,p,M⟩:=Rl;rw[kD]at M;left;calc q _ _ _ b L p M
def MV(H H':Hp):Prop:=∀b o,H b=some o->(∀k,o≠.own k)->H' b=some o
theorem MV.aS(h:MV H H'):cm H H':=λb a e=>h b _ e (λk z=>by cases z)
theorem _root_.L2.au.K7(s:au H H'):MV H H':=λb o e _=>s b o e
theorem gS.K7{x:V}{M:Int}{a:List bC}(s:MV H H')(h:gS H x M ns row a):gS H' x M ns row a:=by
 obtain⟨t,a,b,c,d,e,f,g,i,j,l⟩:=h;calc⟨t,a,b,c,d,e,s _ _ f (λk z=>by cases z),s _ _ g (λk z=>by cases z),s _ _ i (λk z=>by cases z),s _ _ j (λk z=>by cases z),l.aK s.aS⟩
theorem BM.K7(s:MV H H')(h:BM H mv gP):BM H' mv gP:=⟨h.1,λi v d a b=>(h.2 i v d a b).K7 s⟩
theorem BM.nil:BM H [] []:=⟨rfl,λi v d a=>by simp at a⟩
theorem BM.snoc{v:V}{d:MD}(h:BM H mv gP)(g:gS H v d.M d.ns d.row d.ds):BM H (mv++[v]) (gP++[d]):=by
 calc⟨by simp[h.1],λi y e a b=>?_⟩;by_cases c:i<mv.length
 ·rw[List.getElem?_append_left c]at a;rw[List.getElem?_append_left (by rw[<-h.1];calc c)]at b;exact h.2 i _ _ a b
 ·rw[List.getElem?_append_right ()] at a;rw[List.getElem?_append_right (by rw[<-h.1];lia),<-h.1] at b
  cases f:i-mv.length with
  |zero=>rw[f]at a b;cases a;cases b;calc g
  |succ k=>rw[f]at a;simp at a
def mask(a b c:Addr)(H:Hp):Hp:=λx=>if x=a\/x=b\/x=c then some (.own 0) else H x
theorem pd{c x:Addr}(d:x≠a)(e:x≠b)(f:x≠c):mask a b c H x=H x:=by unfold mask;rw[if_neg (by simp[d,e,f])]
theorem vP{c x:Addr}{o:HO}(h:mask a b c H x=some o)(d:∀k,o≠.own k):x≠a/\x≠b/\x≠c/\H x=some o:=by
 unfold mask at h;split at h
 ·cases h;exact absurd rfl (d 0)
 ·rename_i hn;simp only[not_or]at hn;calc⟨hn.1,hn.2.1,hn.2.2,h⟩
theorem JM{c:Addr}:MV (mask a b c H) H:=λx o e n=>(vP e n).2.2.2
theorem zJ{c:Addr}(h:∀x o,x≠a->x≠b->x≠c->H x=some o->H' x=some o):MV (mask a b c H) (mask a b c H'):=λx o e n=>by
 obtain⟨d,f,g,i⟩:=vP e n;rw[pd d f g];calc h x o d f g i
theorem Fc{c t d f g:Addr}{xs:List V}{M:Int}{n:List bC}(p:H t=some (.tup [.int M,.ref d,.ref f,.ref g]))(q:H d=some (.lst (ns.map V.int)))(r:H f=some (.lst (row.map V.int)))(s:H g=some (.lst xs))(u:iT H 2 xs (n.map bC.dv))
  (h:∃ys,H a=some (.lst ys)) (i:∃ys,H b=some (.lst ys)) (j:∃ys,H c=some (.lst ys)) (k:d≠a/\d≠b/\d≠c) (l:f≠a/\f≠b/\f≠c) (m:g≠a/\g≠b/\g≠c):gS (mask a b c H) (.ref t) M ns row n:=by
 obtain⟨n,h⟩:=h;obtain⟨n,i⟩:=i;obtain⟨n,j⟩:=j;have o:cm H (mask a b c H):=λx ys e=>by
  rw[pd (λz=>by rw[z,h]at e;cases e) (λz=>by rw[z,i]at e;cases e) (λz=>by rw[z,j]at e;cases e)];exact e
 calc⟨t,d,f,g,xs,rfl,o _ _ p,by rw[pd k.1 k.2.1 k.2.2];calc q,by rw[pd l.1 l.2.1 l.2.2];calc r,by rw[pd m.1 m.2.1 m.2.2];calc s,u.aK o⟩
structure Dy(gP:List MD)(ws:List (Int×Int×Str))(ls:List (Int×Int)):Prop where
 m1:1<=gP.length
 m5:gP.length<=5
 Hd:ws.length<=10
 TY:ls.length<=20
 mg:∀d∈gP,d.good
 wo:∀w∈ws,vC gP.length w
 lo:∀l∈ls,vD ws.length l
theorem Dy.nt(h:Dy gP ws ls):(NT.mk gP ws).Ok:=⟨h.m5,h.m1,h.Hd,h.mg,h.wo⟩
abbrev qj:Stmt:=top 66
def Dz(K:W.Frag):Sp:=λvs H Q _=>∃(a:Addr) (ns:List Int),vs=[.ref a]/\aT K H a (ns.map V.int)/\ns.length<=63/\∀t b c d mv wv e gP ws ls H',au H H'->H' t=some (.tup [.ref b,.ref c,.ref d])->H' b=some (.lst mv)->H' c=some (.lst wv)->H' d=some (.lst e)->BM H' mv gP->iT H' 1 wv (ws.map kY)->iT H' 1 e (ls.map rm)->Dy gP ws ls->Q (.ref t) H'
theorem Fd(D:dq K mg "_law_net" "_law_net" qj ["_law_script"])(T:Tx K mg C CN CR F FD)(x:Def P w K mg base "_law_at" 1 ["_law_script","_law_k"] (NS K))(v:Def P w K mg base "_law_digit" 1 ["_law_pot_here","_law_many"] jO)(jw:Def P w K mg base "_law_machine" 4 ["_law_pot_here"] zg)(M:Def P w K mg base "_law_pot" 1 ["_law_cell"] IS):Def P w K mg base "_law_net" 5 ["_law_script"] (Dz K):=by
 have sc:aE ["_law_script","_law_many","_law_machines","_law_pot_here","_law_ways","_law_k","_law_letters","_law_said"] ["_law_script"] (aA qj):=by walk_at "s"
 symm;obtain⟨a,ns,rfl,hS,Zt,q⟩:=h;have hu:=hr.units;refine⟨_,(aj (ba (i:=1) sc.nd rfl Sort (aQ cQ ai (aQ ck (aN x hr (ag (aq 0) (ag ai aa))) ai)))
  (aj (ig (i:=2) sc.nd rfl Sort (N':=["_law_k","_law_script"]) (ix:=[none,some 0]) (cP rfl T.dY (ag (aq 1) aa)) (λ_ _ _ _=>(bf (i:=0) (show(["_law_k","_law_script"]:List Str).Nodup by decide +kernel) rfl Sort)) pS (λ_ _ _ _=>(aN jw hr (ag (aN M hr (ag (aN x hr (ag (aq 1) (ag (aQ cQ ai (aq 0)) aa))) aa)) aa))))
  (aj (ba (i:=3) sc.nd rfl Sort (aN M hr (ag (aN x hr (ag (aq 0) (ag ai aa))) aa)))
  (aj (ba (i:=4) sc.nd rfl Sort (bD aa))
  (aj (fg PassesOwn.never rfl (cP rfl T.dY (ag (aN v hr (ag (aq 3) (ag ai aa))) aa)) (bf (i:=5) sc.nd rfl Sort)
  (ao (bW (dF ma og oh bN (aq 4) (ag (bA (ag (aN v hr (ag (aq 3) (ag (aq 1) aa))) (ag (aN v hr (ag (aq 3) (ag (aq 1) aa))) (ag (ak hu (bD (ag aD (ag aD aa))) (aN v hr (ag (aq 3) (ag ai aa)))) aa)))) aa)))))
  (aj (ba (i:=3) sc.nd rfl Sort (aN M hr (ag (aN x hr (ag (aq 0) (ag ai aa))) aa)))
  (aj (ba (i:=6) sc.nd rfl Sort (bD aa))
  (aj (fg PassesOwn.never rfl (cP rfl T.dY (ag (aN v hr (ag (aq 3) (ag ai aa))) aa)) (bf (i:=5) sc.nd rfl Sort)
  (ao (aU (aC (eR hu) (aq 4) (bD aa) (aG _)) (aj (ba (i:=7) sc.nd rfl Sort (ak hu (bD (ag (aN v hr (ag (aq 3) (ag ai aa))) (ag (aN v hr (ag (aq 3) (ag (aQ mj ai ai) aa))) aa))) (aN v hr (ag (aq 3) (ag ai aa)))))
  (ao (bW (dF ma og oh bN (aq 6) (ag (bA (ag (aN v hr (ag (aq 3) (ag (bb aM rfl T.bX S' (ag (aq 4) aa)) aa))) (ag (aq 7) aa))) aa))))) aJ)))
  (ao (aH (bA (ag (aq 2) (ag (aq 4) (ag (aq 6) aa)))))))))))))),?_⟩
 left;calc⟨a,ns,_,rfl,hS,(),λg=>⟨(by decide:(0:Int)<5),?_⟩⟩;have v:=aa2 g (b:=5) ∅;have v:=aaJ g (b:=5) ∅;left;calc bV ?_;left;calc iR () () (λD hD=>?_);refine bE (J:=DX 0 (1+g%5).toNat) (n:=(1+g%5).toNat) (λi ys H'=>au H H'/\∃gP,gP.length=i/\BM (mask D D D H') ys gP/\∀d∈gP,d.good) (P' (aI ())) ⟨au.new _ hD,[],rfl,BM.nil,λd hd=>by simp at hd⟩ (λi ys H' hi _=>hi) (λys H' _=>K' _) ?_ ?_
 ·intro i ys H1 hi bP hl iS x H2 jc;nofun;obtain⟨s1,gP,pC,hM,R⟩:=iS;obtain⟨rfl,rfl⟩:=jc;ac_rfl;calc⟨Ext.set (Ext.refl _) rfl,?_⟩;left;rw[if_pos trivial];calc⟨a,ns,_,rfl,s1.seq hS,(),λv=>⟨v,rfl,λp TZ S pA=>⟨p,rfl,⟨_,af,pA⟩,λt v T ld xs M mns row ds x st h1 h2 h3 h4 h5 f1 f2 f3 hg=>?_⟩⟩⟩;have q3:∀b o,H2 b=some o->x b=some o:=λb o e=>st.rest b o ((au.new _ S) _ _ e) (av e S);have T:=q3 _ _ bP;have p1:=(au.new (.lst (TZ.map V.int)) S) _ _ bP;have v:∀{b:Addr},upd H2 p (.lst (TZ.map V.int)) b=none->b≠D:=λf=>Ne.symm (av p1 f);refine cD T hl hi (P' (aI ())) ⟨λb o e=>by rw[ay (av e hD)];calc q3 _ _ (s1 _ _ e),gP++[⟨M,mns,row,ds⟩],by simp[pC],?_,λd hd=>?_⟩
  ·have c4:MV (mask D D D H2) (mask D D D (upd x D (.lst (ys++[.ref t])))):=zJ λb o M b2 b3 e=>by rw[ay M];exact q3 _ _ e
   have c5:MV (mask D D D x) (mask D D D (upd x D (.lst (ys++[.ref t])))):=zJ λb o M b2 b3 e=>by rw[ay M];exact e
   exact(hM.K7 c4).snoc (gS.K7 c5 (Fc h1 h2 h3 h4 h5 ⟨_,T⟩ ⟨_,T⟩ ⟨_,T⟩ ⟨v f1,v f1,v f1⟩ ⟨v f2,v f2,v f2⟩ ⟨v f3,v f3,v f3⟩))
  ·rcases List.mem_append.mp hd with hd | hd
   ·exact R d hd
   ·simp only[List.mem_singleton]at hd;subst hd;exact hg
 intro mv H1 Xm hl v;nofun;obtain⟨s1,gP,pC,hM0,R⟩:=v;have hM:=hM0.K7 JM;generalize hDa:D=am at *;ac_rfl;left;calc⟨a,ns,_,rfl,s1.seq hS,(),λv=>⟨v,rfl,λp TZ S pA=>?_⟩⟩;have s2:=au.new (.lst (TZ.map V.int)) S;have wB:gf (upd H1 p (.lst (TZ.map V.int))) p:=⟨_,af,pA⟩
 generalize Mp:upd H1 p (.lst (TZ.map V.int))=G2 at *;left;calc⟨aab _,λy v=>?_⟩;have s3:=au.new (.lst []) v;have Wq:y≠p:=Step.ne wB v;have hp3:=wB.same s3;have eaw:upd G2 y (.lst []) y=some (.lst []):=af;have faw:H1 y=none:=s2.free v;have tm:=s2.trans s3;generalize Oa:upd G2 y (.lst [])=G3 at *;left;calc mR p 11 rfl hp3 ∅ ⋯ (λx T uy M v=>?_);refine⟨x,rfl,(),(),gm (n:=x.toNat) (λi σ H'=>(∃U,σ=[some (.ref a),some (.int (1+g%5)),some (.ref am),some (.ref p),some (.ref y),U,none,none])/\gf H' p/\au H1 H'/\∃(wv:List V) (ws:List (Int×Int×Str)),H' y=some (.lst wv)/\iT H' 1 wv (ws.map kY)/\ws.length=i/\∀w∈ws,vC (1+g%5) w) ?_ ?_ ?_⟩
 ·exact⟨⟨_,rfl⟩,v.gH,v.over tm S,[],[],v.rest _ _ eaw Wq,iT.nil,rfl,λw r=>by simp at r⟩
 ·intro i σ H5 hi yZ;obtain⟨⟨U,rfl⟩,W,s5,wv,ws,X,hW,kD,Mq⟩:=yZ;have JN:wv.length=i:=by have:=hW.1;simp at this;lia
  left;calc⟨.inl ⟨rfl,_,aT.of X⟩,?_⟩;have l5:(1+g%5).natAbs.log2<9000:=by
   have:1+g%5=1\/1+g%5=2\/1+g%5=3\/1+g%5=4\/1+g%5=5:=by lia
   rcases this with e|e|e|e|e<;>(rw[e];decide +kernel)
  refine dig W () l5 λc x h60 h61 v=>?_;left;refine dig v.gH () l5 λB x h70 h71 M=>?_;have x:=v.trans M;left;refine⟨cf,λl hl=>?_⟩;have KU:=x.new (o:=.lst [.str "row",.str "heap"]) hl;have hlp:l≠p:=Step.ne x.gH hl;refine dig KU.gH ∅ ⋯ λk Y Tb hk1 KW=>?_;have acW:=KU.trans KW;obtain⟨u,ew3,hw3⟩:∃u:Str,hX [V.str "row",V.str "heap"] k=some (.str u)/\(u="row"\/u="heap"):=by
   have:k=0\/k=1:=by lia
   rcases this with rfl|rfl
   ·exact⟨_,az (j:=0) rfl,.inl rfl⟩
   ·exact⟨_,az (j:=1) rfl,.inr rfl⟩
  left;calc aZ (KW.rest _ _ af hlp) ew3 ?_;left;calc⟨by show 3<=sizeLine;decide,λt ht=>?_⟩;have I:=acW.new (o:=.tup [.int c,.int B,.str u]) ht;have Xo:=I.rest _ _ X Wq;have eT:upd Y t (.tup [.int c,.int B,.str u]) t=some (.tup [.int c,.int B,.str u]):=af;have Z:=I.gH;have tA:=I.aS W;have sA:au H1 (upd Y t (.tup [.int c,.int B,.str u])):=I.over s5 S;generalize hGA:upd Y t (.tup [.int c,.int B,.str u])=GA at *;have tB:cm GA (upd GA y (.lst (wv++[.ref t]))):=(cm.refl _).upd λys e=>by rw[Xo]at e;cases e
  refine⟨_,Xo,aI (),⟨_,rfl⟩,Z.upd (Ne.symm Wq),λb o e=>by rw[ay (av e faw)];calc sA _ _ e,wv++[.ref t],ws++[(c,B,u)],af,?_,by simp[kD],λw r=>?_⟩
  ·have h6:=((hW.aK tA).snoc (mN (n:=0) eT (.int c) (.int B) (.str u))).aK tB;simpa[kY] using h6
  ·rcases List.mem_append.mp r with r | r
   ·exact Mq w r
   ·simp only[List.mem_singleton]at r;subst r;exact⟨h60,h61,h70,h71,hw3⟩
 intro σ H5 y0;obtain⟨⟨U,rfl⟩,W,s5,wv,ws,X,hW,kD,Mq⟩:=y0;have JN:wv.length=ws.length:=by have:=hW.1;simpa using this
 have IY:=s5 _ _ Xm;have hM5:=hM.K7 s5.K7;left;calc⟨a,ns,_,rfl,(s1.trans s5).seq hS,(),λv=>⟨v,rfl,λN xs1 KL u=>?_⟩⟩;have s6:=au.new (.lst (xs1.map V.int)) KL;have hp6:gf (upd H5 N (.lst (xs1.map V.int))) N:=⟨_,af,u⟩
 generalize Rc:upd H5 N (.lst (xs1.map V.int))=G6 at *;left;calc⟨aab _,λG u=>?_⟩;have s7:=au.new (.lst []) u;have Ru:G≠N:=Step.ne hp6 u;have hp7:=hp6.same s7;have eal:upd G6 G (.lst []) G=some (.lst []):=af;have fal:H5 G=none:=s6.free u;have Tn:=s6.trans s7;generalize Zb:upd G6 G (.lst [])=G7 at *;left;calc mR N 13 rfl hp7 ∅ ⋯ (λu M v x KU=>?_);refine⟨u,rfl,(),(),gm (n:=u.toNat) (λi σ H'=>(∃U z8,σ=[some (.ref a),some (.int (1+g%5)),some (.ref am),some (.ref N),some (.ref y),U,some (.ref G),z8])/\gf H' N/\au H5 H'/\∃(L:List V) (ls:List (Int×Int)),H' G=some (.lst L)/\iT H' 1 L (ls.map rm)/\ls.length<=i/\∀l∈ls,vD ws.length l) ?_ ?_ ?_⟩
 ·exact⟨⟨_,_,rfl⟩,KU.gH,KU.over Tn KL,[],[],KU.rest _ _ eal Ru,iT.nil,K' _,λw r=>by simp at r⟩
 ·intro i σ Y hi Bo;obtain⟨⟨U,z8,rfl⟩,hp9,O,L,ls,K2,hL,zh,vb⟩:=Bo;have i:L.length=ls.length:=by have:=hL.1;simpa using this
  have i:=O _ _ X;left;calc⟨aab _,λl0 u=>?_⟩;have m:=au.new (.lst []) u;have JO:=m _ _ i;have Zr:upd Y l0 (.lst []) l0=some (.lst []):=af;have JP:=m _ _ K2;have R6:=hp9.same m;have Fe:=O.trans m;have Xp:=hL.aK m.aS;generalize WC:upd Y l0 (.lst [])=G10 at *
  cases ws with
  |nil=>
   have Wk:wv=[]:=by simpa using JN
   subst Wk;calc .inl ⟨.inr ⟨_,_,_,_,rfl,rfl,.inr ⟨aT.of JO,aT.of Zr⟩,rfl,λj u v hu=>by simp at hu⟩,?_⟩;left
   try rw[if_neg Bool.false_ne_true]
   calc⟨⟨_,_,rfl,rfl⟩,R6,Fe,L,ls,JP,Xp,(),vb⟩
  |cons i u=>
   have hwp:0<(wv.length:Int):=by rw[JN];simp
   have i:wv.length<=10:=by lia
   calc .inr ⟨⟨_,_,by simp[JN],.inl ⟨aT.of JO,aT.of Zr⟩⟩,?_⟩;left
   try rw[if_pos trivial]
   have lw:((wv.length:Nat):Int).natAbs.log2<9000:=Ja hwp ();calc dig R6 ∅ ⋯ λB v i u x=>?_;left;calc⟨Bk,dig x.gH Q7 Q8 λM S v i u=>?_⟩;have S:=x.trans u;left;calc⟨cf,λv T=>?_⟩;have x:=S.new (o:=.lst [.int B,.int M]) T;have ac4:v≠N:=Step.ne S.gH T;calc dig x.gH ∅ ⋯ λk u Tb hk1 EU=>?_;have xA:=x.trans EU;have u:(10:Int)^Int.toNat 60=1000000000000000000000000000000000000000000000000000000000000:=by decide +kernel
   rw[u]at i;obtain⟨z,ez,hz0,FA⟩:∃z:Int,hX [V.int B,V.int M] k=some (.int z)/\1-1000000000000000000000000000000000000000000000000000000000000<=z/\z<1000000000000000000000000000000000000000000000000000000000000:=by
    have:k=0\/k=1:=by lia
    rcases this with rfl|rfl
    ·exact⟨_,az (j:=0) rfl,(),()⟩
    ·exact⟨_,az (j:=1) rfl,(),()⟩
   left;calc aZ (EU.rest _ _ af ac4) ez ?_;left;have Xt:=xA.rest _ _ JP Ru;have Xu:=xA.rest _ _ JO (λz=>by rw[z,KL]at X;cases X);calc⟨.inl ⟨rfl,_,aT.of Xt⟩,?_⟩;calc bL _ (.inl ⟨_,aT.of Xu,rfl⟩) ?_;calc dig xA.gH hwp lw λc Xv ac6 ac7 i=>?_;have j:=xA.trans i;left;calc⟨cf,λt ht=>?_⟩;have I:=j.new (o:=.tup [.int c,.int z]) ht;have Xw:=I.rest _ _ JP Ru;have eT:upd Xv t (.tup [.int c,.int z]) t=some (.tup [.int c,.int z]):=af;have Z:=I.gH;have tA:=I.aS R6;have sA:au H5 (upd Xv t (.tup [.int c,.int z])):=I.over Fe KL;generalize hGA:upd Xv t (.tup [.int c,.int z])=GA at *;have tB:cm GA (upd GA G (.lst (L++[.ref t]))):=(cm.refl _).upd λys e=>by rw[Xw]at e;cases e
   refine⟨_,Xw,aI (),⟨_,_,rfl,rfl⟩,Z.upd (Ne.symm Ru),λb o e=>by rw[ay (av e fal)];calc sA _ _ e,L++[.ref t],ls++[(c,z)],af,?_,by simp;lia,λl hl=>?_⟩
   ·have h6:=((Xp.aK tA).snoc (cR (n:=0) eT (.int c) (.int z))).aK tB;simpa[rm] using h6
   ·rcases List.mem_append.mp hl with hl | hl
    ·exact vb l hl
    ·simp only[List.mem_singleton]at hl;subst hl;exact⟨ac6,by have:=ac7;rw[JN]at this;calc this,hz0,FA⟩
 intro σ Y My;obtain⟨⟨U,z8,rfl⟩,hp9,O,L,ls,K2,hL,zh,vb⟩:=My;left;calc⟨by show 3<=sizeLine;decide,λt ht=>?_⟩;have m:=au.new (.tup [.ref am,.ref y,.ref G]) ht;calc q t am y G mv wv L gP ws ls _ (s1.trans (s5.trans (O.trans m))) af (m _ _ (O _ _ IY)) (m _ _ (O _ _ X)) (m _ _ K2) (hM5.K7 (O.trans m).K7) (hW.aK (O.trans m).aS) (hL.aK m.aS) ⟨(),(),(),(),R,λw r=>?_,vb⟩;have e:((gP.length:Nat):Int)=1+g%5:=by lia
 rw[e];calc Mq w r
def T3(M:Int)(ns row:List Int)(a:List bC):DV:=.tup [.int M,.lst (ns.map .int),.lst (row.map .int),.lst (a.map bC.dv)]
theorem i4(v:Val):tY v.dv:=by
 cases v<;>(calc .tup λe a=>?_;simp at a)<;>first|(rcases a with rfl|rfl;calc .str _;calc .int _)|(subst a;calc .str _)
theorem JR(d:bC):tY d.dv:=by
 cases d with
 |set i v=>calc .tup λe a=>?_;simp at a;rcases a with rfl|rfl|rfl;calc .str _;calc .int _;calc i4 v
 |add i v=>calc .tup λe a=>?_;simp at a;rcases a with rfl|rfl|rfl;calc .str _;calc .int _;calc i4 v
 |times i v=>calc .tup λe a=>?_;simp at a;rcases a with rfl|rfl|rfl;calc .str _;calc .int _;calc i4 v
 |put v=>calc .tup λe a=>?_;simp at a;rcases a with rfl|rfl;calc .str _;calc i4 v
 |drop=>calc .tup λe a=>?_;simp at a;subst a;calc .str _
 |send j v=>calc .tup λe a=>?_;simp at a;rcases a with rfl|rfl|rfl;calc .str _;calc .int _;calc i4 v
 |say v=>calc .tup λe a=>?_;simp at a;rcases a with rfl|rfl;calc .str _;calc i4 v
 |skip v w k=>calc .tup λe a=>?_;simp at a;rcases a with rfl|rfl|rfl|rfl;calc .str _;calc i4 v;calc i4 w;calc .int _
theorem lD:tY (.lst (ns.map .int)):=.lst λe a=>by
 obtain⟨z,_,rfl⟩:=List.mem_map.mp a;calc .int z
theorem vQ{a:List bC}:tY (.lst (a.map bC.dv)):=.lst λe b=>by
 obtain⟨z,_,rfl⟩:=List.mem_map.mp b;calc JR z
theorem jx{n:Nat}{vs:List V}{b:List DV}(e:H a=some (.lst vs))(h:dQ H n vs b):HD H (n+1) (.ref a) (.lst b):=.lst e h.1 h.2
theorem iT.D8{n:Nat}{vs:List V}{c:List DV}(h:iT H n vs c):dQ H n vs c:=⟨h.1,λi v d a b=>(h.2 i v d a b).hd⟩
theorem MY{K:W.Frag}{c:Addr}{d d':MD}(h:gS H (.ref a) d.M d.ns d.row d.ds)(h':gS H (.ref c) d'.M d'.ns d'.row d'.ds):∃b,YY K H 19 a c b/\(b=true->T3 d.M d.ns d.row d.ds=T3 d'.M d'.ns d'.row d'.ds):=by
 obtain⟨t,u,v,w,L,e,n,p,q,r,s⟩:=h;obtain⟨L,t,u,v,w,z,j,i,k,l,A⟩:=h'
 cases e
 cases z;obtain⟨h,B,C⟩:=w6 (K:=K) (H:=H) 4 (x:=.int d.M) (y:=.int d'.M) (m:=4) (.int _) (.int _) (.int _) (.int _);obtain⟨t,D,E⟩:=w6 (K:=K) (H:=H) 4 (m:=4) (jx p (dQ.ints d.ns)) (jx i (dQ.ints d'.ns)) lD lD;obtain⟨u,F,G⟩:=w6 (K:=K) (H:=H) 4 (m:=4) (jx q (dQ.ints d.row)) (jx k (dQ.ints d'.row)) lD lD;obtain⟨p,I,J⟩:=w6 (K:=K) (H:=H) 4 (m:=4) (jx r ((s.D8).mono ∅)) (jx l ((A.D8).mono ∅)) vQ vQ;refine⟨_,⟨_,_,λi=>match i with
  |0=>h
  |1=>t
  |2=>u
  | _=>p,.inl ⟨bJ.of n,bJ.of j⟩,λi u v f g=>?_,rfl⟩,λo=>?_⟩
 ·match i,f,g with
  |0,f,g=>simp at f g;subst f g;calc B.mono ∅
  |1,f,g=>simp at f g;subst f g;calc D.mono ∅
  |2,f,g=>simp at f g;subst f g;calc F.mono ∅
  |3,f,g=>simp at f g;subst f g;calc I.mono ∅
  |(n+4),f,g=>simp at f
 ·simp[List.range_succ]at o;obtain⟨f,g,h,i⟩:=o;unfold T3;rw[C.mp f,E.mp g,G.mp h,J.mp i]
theorem MZ{C:Addr}{M c:Int}{a b:List Int}{d f:List bC}(e:T3 M ns row d=T3 c a b f)(h:iq C H m M ns row d):iq C H m c a b f:=by
 unfold T3 at e;simp only[DV.tup.injEq,List.cons.injEq,DV.int.injEq,DV.lst.injEq,and_true]at e;obtain⟨g,i,j,k⟩:=e;obtain⟨l,st,dd,n,o,p⟩:=h;subst g;refine⟨l,st,dd,n,?_,?_⟩
 ·show HT H 2 st (.tup [.tup (a.map .int),.tup (b.map .int)]);rw[<-i,<-j];exact o
 ·rw[<-k];calc p
theorem kb{C:Addr}{M:Int}{a:List bC}(t:cm H H')(i:∀b c d e,H b=some (.ins c d e)->H' b=some (.ins c d e))(h:iq C H m M ns row a):iq C H' m M ns row a:=by
 obtain⟨a,st,dd,f,g,j⟩:=h;calc⟨a,st,dd,i _ _ _ _ f,g.aK t,j.aK t⟩
abbrev iF:Stmt:=top 73
inductive zK(C CN:Addr)(vs:List V)(H:Hp)(Q:VK):Prop
 |mk (x:V) (gP:List MD) (ws:List (Int×Int×Str)) (ls:List (Int×Int)) (h0:vs=[x]) (h1:ToldN H x gP ws ls) (h2:Dy gP ws ls) (h3:∀n ms wv lv H',au H H'->xm C CN H' n ⟨gP,ws⟩->nh CN H' n ms wv lv->iT H' 1 lv (ls.map rm)->Q (.ref n) H'):zK C CN vs H Q
def vR(C CN:Addr):Sp:=λvs H Q _=>zK C CN vs H Q
theorem tR(D:dq K mg "_law_net_made" "_law_net_made" iF ["_law_net_here"])(T:Tx K mg C CN CR F FD)(qk:yu P w K mg base "Machine" C 7 ["self","modulus","numbers","row","deeds"] (CY C))(JS:yu P w K mg base "Net" CN 7 ["self","machines","ways","letters"] (zz C CN)):Def P w K mg base "_law_net_made" 9 ["_law_net_here"] (vR C CN):=by
 have sc:aE ["_law_net_here","_law_machines","_law_k","_law_one"] ["_law_net_here"] (aA iF):=by walk_at "s"
 symm;obtain⟨x,gP,ws,ls,rfl,hT,g,q⟩:=h;have r:=hr.units;refine⟨_,(aj (ba (i:=1) sc.nd rfl Sort (bD aa))
  (aj (fg PassesOwn.never rfl (jZ rfl T.dR (ag (ak r (aq 0) ai) aa)) (ij (i:=2) (j:=3) rfl sc.nd rfl rfl Sort Sort)
  (ao (aU (PW.pt (pw_and (aC mL (aq 2) ai (aG _)) (pw_and1 (aC (CC r) (aq 3) (ak r (ak r (aq 0) ai) ai) (aG _))))) (ao (bW (dF ma og oh bN (aq 1) (ag (ak r (aq 1) ai) aa)))) (ao (bW (dF ma og oh bN (aq 1) (ag (Ct qk hr (ag (ak r (aq 3) ai) (ag (dG cF rfl T.ft Aj (ag (ak r (aq 3) ai) aa)) (ag (dG cF rfl T.ft Aj (ag (ak r (aq 3) ai) aa)) (ag (dG cF rfl T.ft Aj (ag (ak r (aq 3) ai) aa)) aa))))) aa)))))))
  (ao (aH (Ct JS hr (ag (aq 1) (ag (dG cF rfl T.ft Aj (ag (ak r (aq 0) ai) aa)) (ag (dG cF rfl T.ft Aj (ag (ak r (aq 0) ai) aa)) aa)))))))),?_⟩
 obtain⟨t,am,aw,al,mv,wv,L,rfl,ht,Xm,MW,K2,hM,hW,hL⟩:=id hT;have ajm:mv.length<=5:=by have:=hM.1;have:=g.m5;lia
 left;calc⟨aab _,λu N=>?_⟩;have s0:=au.new (.lst []) N;have elm:upd H u (.lst []) u=some (.lst []):=af;generalize Zi:upd H u (.lst [])=G0 at *;left;refine da (s0 _ _ ht) (az (j:=0) rfl) ⟨true,mv,Sq.l (s0 _ _ Xm),oF (xs:=mv) (λi σ H'=>∃(z2 z3:Option V) (ms:List Addr),σ=[some (V.ref t),some (V.ref u),z2,z3]/\au H H'/\H' u=some (.lst (ms.map V.ref))/\ms.length=i/\(∀(j:Nat) m d,ms[j]?=some m->gP[j]?=some d->Ta C H' m d)) ?_ ?_ ?_ ?_⟩
 ·exact⟨_,_,[],rfl,s0,elm,rfl,λj m d e=>by simp at e⟩
 ·intro i σ H' iS;obtain⟨_,_,_,_,s1,_⟩:=iS;exact Sq.l (s1 _ _ Xm)
 ·intro i x σ H' tt hx jc Wt;nofun;obtain⟨z2,z3,ms,rfl,s1,E5,To,Z⟩:=jc;have hiv:i < mv.length:=(List.getElem?_eq_some_iff.mp hx).1;have hJ:i < gP.length:=by have:=hM.1;lia
  have I:=g.mg _ (aaa hJ);have s2:=au.new (.tup [.int (i:Nat),x]) Wt;have ett:upd H' tt (.tup [.int (i:Nat),x]) tt=some (.tup [.int (i:Nat),x]):=af;generalize Mp:upd H' tt (.tup [.int (i:Nat),x])=B at *;ac_rfl;have xQ:=s1.trans s2;have OD:=(hM.2 i x gP[i] hx (di hJ)).cv xQ.cv;have O:=s2 _ _ E5;calc yS (bJ.of ett) ?_;obtain⟨ta,ln,lr,ld,Y,rfl,h1,h2,h3,h4,h5⟩:=id OD;left;rename_i T2 U2 Qz hU2;have mk:U2 [some (V.ref t),some (V.ref u),some (V.int ((i:Nat):Int)),some (V.ref ta)] B:=by
   clear Qz T2;generalize hmd:gP[i]=p at *;left;calc⟨.inl ⟨rfl,_,aT.of O⟩,?_⟩;calc da h1 (az (j:=0) rfl) ?_;calc da h1 (az (j:=1) rfl) ?_;left;calc bL _ (.inl (aT.of h2)) (λG FN=>?_);have s4:=au.new (.lst (p.ns.map V.int)) FN;calc da (s4 _ _ h1) (az (j:=2) rfl) ?_;left;calc bL _ (.inl (aT.of (s4 _ _ h3))) (λJ Ab=>?_);have Zv:=au.new (.lst (p.row.map V.int)) Ab;calc da (Zv _ _ (s4 _ _ h1)) (az (j:=3) rfl) ?_;left;calc bL _ (.inl (aT.of (Zv _ _ (s4 _ _ h4)))) (λl3 By=>?_);have R:=au.new (.lst Y) By;have s46:=s4.trans (Zv.trans R);have n:=R _ _ (Zv _ _ (af (H:=B) (a:=G) (o:=.lst (p.ns.map V.int))));have y:=R _ _ (af (H:=upd B G (.lst (p.ns.map V.int))) (a:=J) (o:=.lst (p.row.map V.int)));have e3:upd (upd (upd B G (.lst (p.ns.map V.int))) J (.lst (p.row.map V.int))) l3 (.lst Y) l3=some (.lst Y):=af;generalize Rc:upd (upd (upd B G (.lst (p.ns.map V.int))) J (.lst (p.row.map V.int))) l3 (.lst Y)=G6 at *;intro m S Fz t9 ada;have U:au G6 (upd (upd G6 S (.own m)) m (.ins C S [])):=λb o e=>by rw[ay (av e Fz),ay (av e t9)];exact e
   have Xx:=s46.trans U;calc⟨m,S,p.M,G,J,l3,p.ns,p.row,Y,p.ds,2,rfl,af,I.m2,I.m12,.inl (U _ _ n),.inl (U _ _ y),.inl (U _ _ e3),I.l1,I.l4,I.r12,I.bn,I.br,(h5.aK Xx.aS).dl,∅,I.YZ,I.ok,λH8 Dv hk=>⟨rfl,?_⟩⟩;have W:au B H8:=λb o e=>hk b o (av (s46 _ _ e) Fz) (Xx _ _ e);have Sa:=W _ _ O;left;calc hV _ Sa (aI (by simp;lia)) ?_;have t7:cm H8 (upd H8 u (.lst (ms.map V.ref++[.ref m]))):=(cm.refl _).upd λzs e=>by rw[Sa]at e;cases e
   have i7:∀b c d e,H8 b=some (.ins c d e)->upd H8 u (.lst (ms.map V.ref++[.ref m])) b=some (.ins c d e):=λb c d e h=>by
    rw[ay (λz=>by subst z;rw[Sa]at h;cases h)];exact h
   left;refine⟨_,_,ms++[m],⟨rfl,rfl⟩,λb o e=>?_,by rw[List.map_append];calc af,by simp[To],λj m' d n y=>?_⟩
   ·rw[ay (av e N)];exact W _ _ (xQ _ _ e)
   ·by_cases hj:j < ms.length
    ·rw[List.getElem?_append_left hj]at n;exact kb t7 i7 ((Z j m' d n y).same (s2.trans W))
    ·rw[List.getElem?_append_right ()] at n
     cases Fb:j-ms.length with
     |succ k=>rw[Fb]at n;simp at n
     |zero=>
      rw[Fb]at n;nofun;obtain rfl:=Option.some.inj n;have QS:j=i:=by lia
      subst QS;rw[di hJ,hmd]at y;obtain rfl:=Option.some.inj y;ac_rfl;exact kb t7 i7 Dv
  by_cases h0:0<i
  ·rw[if_pos (by simpa using h0)];have Xy:0 < gP.length:=by lia
   have Xz:0<mv.length:=by lia
   have BO:=(hM.2 0 mv[0] gP[0] (di Xz) (di Xy)).cv xQ.cv;have ht0:∃c,mv[0]=.ref c:=by
    obtain⟨c,_,_,_,_,e,_⟩:=BO;exact⟨c,e⟩
   obtain⟨c,ec⟩:=ht0;rw[ec]at BO;calc da (xQ _ _ ht) (az (j:=0) rfl) ?_;calc aZ (xQ _ _ Xm) (az (j:=0) (v:=.ref c) (by rw[<-ec];calc di Xz)) ?_;obtain⟨b,hb1,KY⟩:=MY (K:=K) OD BO;refine abb ta c b rfl rfl hb1 ?_
   cases b with
   |false=>rw[if_neg ∅];calc mk
   |true=>
    have KY:=KY rfl;rw[if_pos rfl];clear mk;left;calc⟨.inl ⟨rfl,_,aT.of O⟩,?_⟩;have El:0<ms.length:=by lia
    calc aZ O (az (j:=0) (v:=.ref ms[0]) (by rw[List.getElem?_map,di El];rfl)) ?_;left;calc hV _ O (aI (by simp;lia)) ?_;have t7:cm B (upd B u (.lst (ms.map V.ref++[.ref ms[0]]))):=(cm.refl _).upd λzs e=>by rw[O]at e;cases e
    have i7:∀b c d e,B b=some (.ins c d e)->upd B u (.lst (ms.map V.ref++[.ref ms[0]])) b=some (.ins c d e):=λb c d e h=>by
     rw[ay (λz=>by subst z;rw[O]at h;cases h)];exact h
    left;refine⟨_,_,ms++[ms[0]],⟨rfl,rfl⟩,λb o e=>?_,by rw[List.map_append];calc af,by simp[To],λj m' d n y=>?_⟩
    ·rw[ay (av e N)];exact xQ _ _ e
    ·by_cases hj:j < ms.length
     ·rw[List.getElem?_append_left hj]at n;exact kb t7 i7 ((Z j m' d n y).same s2)
     ·rw[List.getElem?_append_right ()] at n
      cases Fb:j-ms.length with
      |succ k=>rw[Fb]at n;simp at n
      |zero=>
       rw[Fb]at n;nofun;obtain rfl:=Option.some.inj n;have QS:j=i:=by lia
       subst QS;rw[di hJ]at y;obtain rfl:=Option.some.inj y;ac_rfl;exact MZ KY.symm (kb t7 i7 ((Z 0 ms[0] gP[0] (di El) (di Xy)).same s2))
  ·rw[if_neg (by simpa using h0),if_neg ∅];exact mk
 ·intro σ H4 sW;obtain⟨z2,z3,ms,rfl,s5,bP,To,Z⟩:=sW;have pC:ms.length=gP.length:=by have:=hM.1;lia
  have Bq:=s5 _ _ ht;left;calc da Bq (az (j:=1) rfl) ?_;left;calc bL _ (.inl (aT.of (s5 _ _ MW))) (λG FN=>?_);have R:=au.new (.lst wv) FN;calc da (R _ _ Bq) (az (j:=2) rfl) ?_;left;calc bL _ (.inl (aT.of (R _ _ (s5 _ _ K2)))) (λJ Ab=>?_);have U:=au.new (.lst L) Ab;have n:=U _ _ (af (H:=H4) (a:=G) (o:=.lst wv));have y:upd (upd H4 G (.lst wv)) J (.lst L) J=some (.lst L):=af;have xP:=R.trans U;generalize Zb:upd (upd H4 G (.lst wv)) J (.lst L)=G7 at *;have kD:wv.length=ws.length:=by have:=hW.1;simpa using this
  have zh:L.length=ls.length:=by have:=hL.1;simpa using this
  intro x S hx t9 ada;have s8:au G7 (upd (upd G7 S (.own x)) x (.ins CN S [])):=λb o e=>by rw[ay (av e hx),ay (av e t9)];exact e
  have s58:=s5.trans (xP.trans s8);have hgm:=g.m1;have ajq:=g.m5;have hgw:=g.Hd;have NZ:=g.TY;refine⟨x,S,u,G,J,ms,wv,L,ws,ls,rfl,af,s8 _ _ (xP _ _ bP),s8 _ _ n,s8 _ _ y,(),(),(),(),λm hm=>?_,hW.aK s58.aS,hL.aK s58.aS,λw hw=>by rw[pC];calc g.wo w hw,λl hl=>by rw[kD];calc g.lo l hl,λH9 hn9 hk9=>⟨rfl,?_⟩⟩
  ·nofun;obtain⟨j,hj,rfl⟩:=List.getElem_of_mem hm;obtain⟨FK,Gs,Lz,h1,_,_⟩:=(Z j _ gP[j] (di hj) (di ())).same (xP.trans s8);ac_rfl;exact⟨_,_,h1⟩
  ·have T4:au H4 H9:=λb o e=>hk9 b o (av (xP _ _ e) hx) (s8 _ _ (xP _ _ e));have X:=s5.trans T4;calc q x ms wv L H9 X ⟨⟨ms,wv,L,hn9,pC,λj m d a b=>(Z j m d a b).same T4,hW.aK X.aS⟩,g.nt⟩ hn9 (hL.aK X.aS)
def pf(n:NT)(r:RS)(w k:Nat):List Int:=match (r.ww w).snd.getD k none with
 |none=>(r.mm (n.goal w)).hr.bM (List.replicate n.ms.length 0)
 |some (s,c)=>List.zipWith max ((r.mm (n.goal w)).hr.bM (List.replicate n.ms.length 0)) ((r.mm s.toNat).hr.getD (c-1).toNat [])
theorem M0{n:NT}{w k:Nat}:n.gb r w k=(pf n r w k).set (n.goal w) (n.ev r w).2:=rfl
theorem M3{l:List Int}{m:Nat}{c:Int}{n:Nat}(a:l.length=n)(b:m<n):((List.range n).map λj=>V.int (l.getD j 0+(if decide (((j:Nat):Int)=((m:Nat):Int))=true then 1 else 0))).set m (.int c)=(l.set m c).map V.int:=by
 apply List.ext_getElem (by simp[a]);intro j b d;have e:j<n:=by simpa using b
 simp only[List.getElem_map,List.getElem_set,List.getElem_range];by_cases z:m=j
 ·rw[if_pos z,if_pos z]
 ·rw[if_neg z,if_neg z,if_neg (by simp;lia),getD_at (di ()),Int.add_zero]
theorem Sb{l:List (Option (Int×Int))}{k:Nat}{a:List (Key×V)}{v:V}(h:OR H0 (.d (kS l) (l.countP Option.isSome)) (.dK a))(b:l[k]?=some none)(f:HD H0 4 v (pairD e)):OR H0 (.d (kS (l.set k (some e))) ((l.set k (some e)).countP Option.isSome)) (.dK (putK a (Sum.inl ((k:Nat):Int)) v)):=by
 have g:k<l.length:=(List.getElem?_eq_some_iff.mp b).1;have c:gN a (Sum.inl ((k:Nat):Int))=none:=by
  have:=h.2 ((k:Nat):Int);have a:kS l ((k:Nat):Int)=none:=by
   unfold kS;rw[if_pos (),Int.toNat_natCast,getD_at b];rfl
  rw[a]at this;exact this
 refine⟨?_,λj=>?_⟩
 ·rw[GX v c,count_set b,List.length_append,List.length_singleton];have:=h.1;lia
 ·rw[JJ g,GW];by_cases z:j=((k:Nat):Int)
  ·rw[if_pos z,if_pos (by rw[z])];exact⟨v,rfl,f⟩
  ·rw[if_neg z,if_neg (λq=>z (Sum.inl.inj q))];calc h.2 j
theorem M4{r:RS}{n:NT}{w k:Nat}:∀t i,i<n.n t->setC (setC (setC (setC (setC r.tv 3 (n.goal w) (.l (((r.mm (n.goal w)).hr.map λu=>DV.lst (u.map .int))++[.lst ((n.gb r w k).map .int)]))) 6 w (.d (kS ((r.ww w).dX.set k (some (n.ev r w)))) (((r.ww w).dX.set k (some (n.ev r w))).countP Option.isSome))) 1 (n.goal w) (.l ((r.mm (n.goal w)).gp.map rg++[rg ((n.work r w k).ns,(n.work r w k).row)]))) 2 (n.goal w) (.l (((r.mm (n.goal w)).wp.map λu=>DV.lst (u.map .int))++[.lst (((r.mm (n.goal w)).wp.bM []++(n.work r w k).words).map .int)]))) 0 0 (.l (r.picks.map pairD++[pairD ((w:Int),(k:Int))])) t i=(r.step n w k).tv t i:=by
 intro t i a;unfold setC
 match t,a with
 |0,a=>
  have:i=0:=by have:i<1:=a;lia
  subst this;simp[RS.tv,RS.step]
 |1,_=>by_cases e:i=n.goal w<;>simp[RS.tv,RS.step,e]
 |2,_=>by_cases e:i=n.goal w<;>simp[RS.tv,RS.step,e]
 |3,_=>by_cases e:i=n.goal w<;>simp[RS.tv,RS.step,e]
 |4,_=>by_cases e:i=w<;>simp[RS.tv,RS.step,e]
 |5,_=>by_cases e:i=w<;>simp[RS.tv,RS.step,e]
 |6,_=>by_cases e:i=w<;>simp[RS.tv,RS.step,e]
 |(t+7),a=>calc absurd a (Nat.not_lt_zero i)
theorem JT{r:RS}{n:NT}{w:Nat}{x:Int}{s:Option (Int×Int)}:∀t i,i<n.n t->setC (setC r.tv 4 w (.l ((r.ww w).say.map .int++[.int x]))) 5 w (.l ((r.ww w).snd.map pB++[pB s])) t i=(r.put w x s).tv t i:=by
 intro t i a;unfold setC
 match t,a with
 |0,_=>simp[RS.tv,RS.put]
 |1,_=>simp[RS.tv,RS.put]
 |2,_=>simp[RS.tv,RS.put]
 |3,_=>simp[RS.tv,RS.put]
 |4,_=>by_cases e:i=w<;>simp[RS.tv,RS.put,e]
 |5,_=>by_cases e:i=w<;>simp[RS.tv,RS.put,e]
 |6,_=>by_cases e:i=w<;>simp[RS.tv,RS.put,e,E6]
 |(t+7),a=>calc absurd a (Nat.not_lt_zero i)
theorem xB{H:Hp}{n:Nat}{v:V}{ns:List Int}(h:HD H n v (.lst (ns.map .int))):∃a,v=.ref a/\H a=some (.lst (ns.map V.int)):=by
 cases h with
 | @lst n a b _ e l i=>calc⟨a,rfl,by rw[e,show b=ns.map V.int from dQ.mQ ⟨l,i⟩]⟩
theorem JU{x y:HO}(h:a≠b):upd (upd H a x) b y=upd (upd H b y) a x:=by
 funext c;by_cases d:c=a
 ·subst d;rw[ay h,af,af]
 ·by_cases e:c=b
  ·subst e;rw[af,ay d,af]
  ·rw[ay e,ay d,ay d,ay e]
theorem DA{K:W.Frag}{j:Addr}{nt:NT}{g:Nat}{e:Nat}(v:e<2)(f:H j=some (.lst wv))(p:iT H 1 wv (nt.ws.map kY))(P:wv.length<=10)(x:σ[3]?=some (some (.int ((g:Nat):Int))))(r:H D=none)(q:∀H1,au H H1->H1 D=some (.lst ((uA nt e g).map λi=>V.int ((i:Nat):Int)))->Q (.ref D) H1):kN [none,none,some 3] (NF true K j) (Gj K 2 (mC (fK 0) (mC (fK 1) Gi))) (tT (Gw (QY K) (Gw (Qq K) (tV 1) (tC (V.int ((e:Nat):Int)))) (tV 2))) (tV 0) σ H Q D:=by
 have A:wv.length=nt.ws.length:=by simpa using p.1
 have B:ug [none,none,some 3] σ=[none,none,some (.int ((g:Nat):Int))]:=by simp[ug,x]
 refine bE (n:=wv.length) (λi ys H'=>au H H'/\ys=((List.range i).filter λj=>decide (tD nt e j=((g:Nat):Int))).map λj=>V.int (j:Nat)) (P' (aI ())) ⟨au.new _ r,rfl⟩ ?_ ?_ ?_ ?_
 ·rintro i ys H' h ⟨a,_⟩;exact⟨wv,wv[i],Sq.l (a _ _ f),di h⟩
 ·rintro ys H' ⟨a,_⟩;exact⟨wv,Sq.l (a _ _ f),rfl⟩
 ·intro i ys H' h d s C R S E;rw[B];obtain⟨a,rfl⟩:=C;obtain⟨k,m,rfl,y⟩:=E;obtain⟨b,F,rfl⟩:=y wv (Sq.l (a _ _ f));have j:i < nt.ws.length:=by lia
  have o:=au.new (.tup [.int (i:Nat),b]) m;have I:=(p.2 i b (kY (nt.w i)) F (by rw[List.getElem?_map,show nt.ws[i]?=some (nt.w i) from bq j];rfl)).aK (a.trans o).aS;have J:upd H' k (.tup [.int (i:Nat),b]) k=some (.tup [.int (i:Nat),b]):=af;have t:=o _ _ d;have u:=a.trans o;generalize T:upd H' k (.tup [.int (i:Nat),b])=G at *;obtain⟨U,X,Y,Z,kk,rfl,L,M,N,O⟩:=bU I;obtain rfl:=M.cy;obtain rfl:=N.cy;obtain rfl:=O.cS;calc yS (bJ.of J) ⟨Ext.set (Ext.set (Ext.refl _) rfl) rfl,?_⟩;left;refine da L (show hX _ ((e:Nat):Int)=some (.int (tD nt e i)) from az (by match e,v with
   |0,_=>rfl
   | 1,_=>rfl)) ?_
  left;by_cases z:tD nt e i=((g:Nat):Int)
  ·rw[if_pos (decide_eq_true z)];calc cD t s h (P' (aI ())) ⟨λc o e=>by rw[ay (av e r)];calc u _ _ e,?_⟩;rw[fO,if_pos (decide_eq_true z),List.map_append];rfl
  ·rw[if_neg λh=>z (of_decide_eq_true h)];exact⟨_,t,(),u,by rw[fO,if_neg λh=>z (of_decide_eq_true h),List.append_nil]⟩
 ·rintro ys H1 d s ⟨a,rfl⟩;rw[A]at d;calc q H1 a d
abbrev nE:Stmt:=top 72
inductive xC(vs:List V)(H:Hp)(Q:VK):Prop
 |mk (F:Addr->Prop) (d:Addr) (tn:V) (nt:NT) (r:RS) (ad:Nat->Nat->Addr) (wy k:Nat) (h0:vs=[.ref d,.int (wy:Nat),.int (k:Nat)]) (h1:cj F H d tn nt r ad) (h2:FS F H) (h3:r.Ok nt) (h4:r.BD nt wy k) (h5:r.picks.length<=400) (h6:∀t H',Fr (FP nt.n ad) H H'->cj F H' d tn nt (r.pick nt wy k) ad->HT H' 1 t (pairD (nt.ev r wy))->Q t H'):xC vs H Q
def rT:Sp:=λvs H Q _=>xC vs H Q
theorem BP(D:dq K mg "_law_pick" "_law_pick" nE ["_law_run","_law_way","_law_number"])(T:Tx K mg C CN CR F FD)(kd:Def P w K mg base "_law_worked" 2 ["_law_machine_here","_law_state","_law_way","_law_said"] (Dp K)):Def P w K mg base "_law_pick" 3 ["_law_run","_law_way","_law_number"] rT:=by
 have sc:aE ["_law_run","_law_way","_law_number","_law_m","_law_place","_law_outs","_law_event","_law_state","_law_sent","_law_words","_law_row","_law_source","_law_c","_law_j","_law_said"] ["_law_run","_law_way","_law_number"] (aA nE):=by walk_at "s"
 symm;obtain⟨F,d,tn,m,r,ad,B,k,rfl,M,kF,O,hc,qU,q⟩:=h;have G:=hr.units;have IT:=lt1 G;refine⟨_,(aj (ba (i:=3) sc.nd rfl Sort (ak G (ak G (ak G (ak G (aq 0) aD) ai) (aq 1)) ai))
  (aj (ba (i:=4) sc.nd rfl Sort (dF ma PySem.F.slot_list_index PySem.F.type_list_index vt (dJ (N':=["_law_k","_law_told","_law_m"]) (ix:=[none,none,some 3]) (jZ rfl T.dR (ag (ak G (ak G (aq 0) aD) ai) aa)) (λ_ _ _ _=>(j0 (K:=K) rfl (i:=0) (j:=1) rfl (show(["_law_k","_law_told","_law_m"]:List Str).Nodup by decide +kernel) rfl rfl Sort Sort)) (λ_ _ _ _=>(jY (aC (oS (K:=K) rfl G) (eQ (K:=K) rfl G (aq 1) ai) (aq 2) (aG _)))) (λ_ _ _ _=>(aq 0))) (ag (aq 1) aa)))
  (aj (ig (i:=5) sc.nd rfl Sort (N':=["_law_k","_law_told","_law_m"]) (ix:=[none,none,some 3]) (jZ rfl T.dR (ag (ak G (ak G (aq 0) aD) ai) aa)) (λ_ _ _ _=>(j0 (K:=K) rfl (i:=0) (j:=1) rfl (show(["_law_k","_law_told","_law_m"]:List Str).Nodup by decide +kernel) rfl rfl Sort Sort)) (λ_ _ _ _=>(jY (aC (oS (K:=K) rfl G) (eQ (K:=K) rfl G (aq 1) ai) (aq 2) (aG _)))) (λ_ _ _ _=>(aq 0)))
  (aj (ba (i:=6) sc.nd rfl Sort (bA (ag (aq 3) (ag (bb aM rfl T.bX S' (ag (ak G (ak G (aq 0) aD) (aq 3)) aa)) aa))))
  (aj (fC (aN kd hr (ag (ak G (ak G (ak G (aq 0) aD) ai) (aq 3)) (ag (ak G (ak G (ak G (aq 0) aD) (aq 3)) (kq gL ai)) (ag (aq 4) (ag (ak G (ak G (ak G (aq 0) aD) (aq 1)) (aq 2)) aa))))) (yR (i:=7) (j:=8) (l:=9) rfl sc.nd rfl rfl rfl Sort Sort Sort))
  (aj (ba (i:=10) sc.nd rfl Sort (ak G (aQ cQ (bD (ag (aQ Ij (bD (ag ai aa)) (bb aM rfl T.bX S' (ag (ak G (ak G (aq 0) aD) ai) aa))) aa)) (ak G (ak G (aq 0) aD) (aq 3))) (kq gL ai)))
  (aj (aU (aC vg (ak G (ak G (ak G (aq 0) aD) (aq 1)) (aq 2)) kG (aG _)) (aj (fC (ak G (ak G (ak G (aq 0) aD) (aq 1)) (aq 2)) (ij (i:=11) (j:=12) rfl sc.nd rfl rfl Sort Sort))
  (ao (Gm (i:=10) sc.nd rfl Sort (dJ (N':=["_law_one","_law_other"]) (ix:=[none,none]) (HL rfl T.II (ag (aq 10) (ag (ak G (ak G (ak G (aq 0) aD) (aq 11)) (aQ dI (aq 12) ai)) aa))) (λ_ _ _ _=>(j0 (K:=K) rfl (i:=0) (j:=1) rfl (show(["_law_one","_law_other"]:List Str).Nodup by decide +kernel) rfl rfl Sort Sort)) pS (λ_ _ _ _=>(bb (vh rfl) rfl T.IH PyProof.Rows.boot_max (ag (aq 0) (ag (aq 1) aa))))) rfl))) aJ)
  (aj (bW (dF ma og oh bN (ak G (ak G (aq 0) aD) (aq 3)) (ag (dJ (N':=["_law_k","_law_row","_law_m"]) (ix:=[none,some 10,some 3]) (cP rfl T.dY (ag (bb aM rfl T.bX S' (ag (aq 10) aa)) aa)) (λ_ _ _ _=>(bf (i:=0) (show(["_law_k","_law_row","_law_m"]:List Str).Nodup by decide +kernel) rfl Sort)) pS (λ_ _ _ _=>(aQ cQ (eQ (K:=K) rfl G (aq 1) (aq 0)) (dG pJ rfl T.yT Yw (ag (fA (oS (K:=K) rfl G) (aq 0) (aq 2) (aG _)) aa))))) aa)))
  (aj (fC (ak G (aq 6) ai) (i9 (ak G (ak G (ak G (aq 0) aD) (aq 3)) (kq gL ai)) (aq 3) eF))
  (aj (mf IT (ak G (ak G (aq 0) aD) (aq 1)) (aq 2) (aq 6) rfl)
  (aj (bW (dF ma og oh bN (ak G (ak G (aq 0) aD) (aq 3)) (ag (aq 7) aa)))
  (aj (bW (dF ma og oh bN (ak G (ak G (aq 0) aD) (aq 3)) (ag (aQ cQ (ak G (ak G (ak G (aq 0) aD) (aq 3)) (kq gL ai)) (aq 9)) aa)))
  (aj (bW (dF ma og oh bN (ak G (aq 0) aD) (ag (bA (ag (aq 1) (ag (aq 2) aa))) aa)))
  (aj (fg PassesOwn.never rfl (cE (pv 8)) (ij (i:=13) (j:=14) rfl sc.nd rfl rfl Sort Sort)
  (ao (aU (aC fm (aq 13) (bb aM rfl T.bX S' (ag (aq 5) aa)) (aG _)) (aj (bW (dF ma og oh bN (ak G (ak G (aq 0) aD) (ak G (aq 5) (aq 13))) (ag (aq 14) aa)))
  (ao (bW (dF ma og oh bN (ak G (ak G (aq 0) aD) (ak G (aq 5) (aq 13))) (ag (aq 6) aa))))) aJ)))
  (ao (aH (aq 6))))))))))))))))),?_⟩
 nofun;obtain⟨o,N,nF,nP,ho⟩:=M.dk;obtain⟨ls,tt,am,aw,al,mv,wv,lv,rfl,h1,h2,h3,h4,h5,h6,h7⟩:=M.told;have g1:=(cC h1 (λk z=>by cases z)).2;have g2:=(cC h2 (λk z=>by cases z)).2;have g3:=(cC h3 (λk z=>by cases z)).2
 replace h5:=h5.cv dW
 replace h6:=h6.aK dW.aS
 have W:=M.ok;have L:=hc.lt;have I:=W.j2 L;have kD:wv.length=m.ws.length:=by simpa using h6.1
 have pC:mv.length=m.ms.length:=h5.1;have p9:wv.length<=10:=by rw[kD];exact W.EC
 have IY:m.ms.length<=5:=W.Y0;obtain⟨wk1,wk2,wk3,wk4⟩:=rK W O L k;ac_rfl;have FH:k<(r.ww B).say.length:=by rw[O.lk B L];exact(List.getElem?_eq_some_iff.mp hc.lies).1
 left;calc bL _ (zH N) ?_;left;calc da g1 (az (j:=1) rfl) ?_;have Wz:m.ws[B]?=some (m.w B):=bq L;have ajs:B<wv.length:=by lia
 have rN:=h6.2 B wv[B] (kY (m.w B)) nofun (by rw[List.getElem?_map,Wz];rfl);nofun;obtain⟨ta,u1,u2,u3,kk,eta,vJ,q1,q2,q3⟩:=bU rN;obtain rfl:=q1.cy;obtain rfl:=q2.cy;obtain rfl:=q3.cS;ac_rfl;calc aZ g3 (az (j:=B) (v:=.ref ta) (by rw[<-eta];simp)) ?_;calc da vJ (show hX _ 1=some (.int ((m.goal B:Nat):Int)) from by rw[<-rO W L];calc az (j:=1) rfl) ?_;left;calc bV ?_;left;calc bL _ (zH ((au.refl H) _ _ N)) ?_;left;calc da ((au.refl H) _ _ g1) (az (j:=1) rfl) ?_;left;calc ED true wv (Sq.l ((au.refl H) _ _ g3)) (λD1 Bv=>?_);calc DA ∅ g3 h6 p9 rfl Bv (λH1 s1x H1e=>?_);have Sd:au H H1:=s1x;left;calc⟨.inl ⟨rfl,_,aT.of H1e⟩,?_⟩;obtain⟨ix1,ix2⟩:=tM (Jx W L);refine⟨D1,_,m.place B,B,rfl,rfl,by rw[H1e,qg],?_,?_,?_⟩
 ·rw[List.getElem?_map,<-pb W L,ix1];rfl
 ·intro i y hi hy;rw[List.getElem?_map]at hy;obtain⟨z,hz,rfl⟩:=Option.map_eq_some_iff.mp hy;have:=ix2 i z (by rw[pb W L];calc hi) hz;lia
 left;calc bV ?_;left;calc bL _ (zH (Sd _ _ N)) ?_;left;calc da (Sd _ _ g1) (az (j:=1) rfl) ?_;left;calc ED true wv (Sq.l (Sd _ _ g3)) (λD2 EV=>?_);calc DA ∅ (Sd _ _ g3) (h6.aK Sd.aS) p9 rfl EV (λH2 s2x H2e=>?_);have Zw:au H H2:=Sd.trans s2x;left;calc bL _ (MU (Zw _ _ N)) ?_;have o1:=ho 1 ∅ ∅;have o2:=ho 2 ∅ ∅;have o3:=ho 3 ∅ ∅;have o4:=ho 4 ∅ ∅;have o5:=ho 5 ∅ ∅;have o6:=ho 6 ∅ ∅;have i0:0<m.n 0:=by show 0<1;decide
 obtain⟨v1,e1,d1⟩:=M.bS.lst (t:=1) (i:=m.goal B) I rfl;have z1:v1.length=(r.mm (m.goal B)).gp.length:=by simpa using d1.1
 have Bw:=O.yP I;left;calc aZ (Zw _ _ o1.1) (aY I) ?_;calc hV _ (.inl ⟨_,aT.of (Zw _ _ e1),rfl⟩) cf (λev Za=>?_);rw[z1];have FX:=au.new (.tup [.int ((m.goal B:Nat):Int),.int (((r.mm (m.goal B)).gp.length:Nat):Int)]) Za;have R:=Zw.trans FX;have adg:HT (upd H2 ev (.tup [.int ((m.goal B:Nat):Int),.int (((r.mm (m.goal B)).gp.length:Nat):Int)])) 1 (.ref ev) (pairD (m.ev r B)):=cR (n:=0) af (.int _) (.int _);have adh:upd H2 ev (.tup [.int ((m.goal B:Nat):Int),.int (((r.mm (m.goal B)).gp.length:Nat):Int)]) ev=some (.tup [.int ((m.goal B:Nat):Int),.int (((r.mm (m.goal B)).gp.length:Nat):Int)]):=af;generalize Oa:upd H2 ev (.tup [.int ((m.goal B:Nat):Int),.int (((r.mm (m.goal B)).gp.length:Nat):Int)])=H3 at *;have H3o:=FX _ _ H2e;left;calc bL _ (zH (R _ _ N)) ?_;left;calc da (R _ _ g1) (az (j:=0) rfl) ?_;have ajx:m.goal B<mv.length:=by lia
 have emd:m.ms[m.goal B]?=some (m.ms.getD (m.goal B) default):=bq I;obtain⟨mt,ln,lr,ld,xsd,emt,t1,t2,t3,t4,t5⟩:=h5.2 (m.goal B) mv[m.goal B] _ nofun emd;have HE:=W.gd I;calc aZ (R _ _ g2) (az (j:=m.goal B) (v:=.ref mt) (by rw[<-emt];simp)) ?_;calc bL _ (MU (R _ _ N)) ?_;left;calc aZ (R _ _ o1.1) (aY I) ?_;obtain⟨sv,esv,dsv⟩:=d1.get (i:=(r.mm (m.goal B)).gp.length-1) (d:=rg ((r.mm (m.goal B)).gp.bM ([],[]))) (by rw[List.getElem?_map,kQ (d:=([],[])) Bw];rfl);have ML:=(Jt (dsv.cv dW)).aK R.aS;calc aZ (R _ _ e1) (mq () (by rw[z1];calc esv)) ?_;left;calc bL _ (uF (R _ _ N)) ?_;nofun;obtain⟨v4,e4,d4⟩:=M.bS.lst (t:=4) (i:=B) L rfl;have z4:=d4.mQ;subst z4;ac_rfl;left;calc aZ (R _ _ o4.1) (aY L) ?_;calc aZ (R _ _ e4) (az (j:=k) (v:=.int ((r.ww B).say.getD k 0)) (by rw[List.getElem?_map,bq (d:=0) FH];rfl)) ?_;have tN:=O.last I;calc⟨mt,ln,lr,ld,sv,_,_,_,xsd,_,_,_,rfl,R _ _ t1,R _ _ t4,t5.aK R.aS,yE.of ML,HE.m2,HE.m12,tN.bn,tN.lr,HE.YZ,by rw[tN.ln];calc HE.ok,λrx H4 K8 Rz=>?_⟩;have Zx:=R.trans K8;nofun;obtain⟨rp,K5,Tj,Oi,zs,rfl,hrp,BG,RA,oj,BH,fl1,fl2,ab6⟩:=Rz.ex
 replace BG:HT H4 2 K5 (yC (m.work r B k).ns (m.work r B k).row):=BG
 replace oj:SL H4 zs (m.work r B k).cV:=oj
 replace BH:H4 Oi=some (.lst ((m.work r B k).words.map V.int)):=BH
 ac_rfl;have XA:=adg.aK K8.aS;have adi:=K8 _ _ adh;have H4o:=K8 _ _ H3o;calc un3 (bJ.of hrp) ?_;left;calc⟨∅,λlz hlz=>?_⟩;have Y9:=au.new (.lst [.int 0]) hlz;have elz:upd H4 lz (.lst [.int 0]) lz=some (.lst [.int 0]):=af;generalize Tg:upd H4 lz (.lst [.int 0])=H5 at *;have Rt:=Zx.trans Y9;calc bL _ (zH (Rt _ _ N)) ?_;left;calc da (Rt _ _ g1) (az (j:=0) rfl) ?_;calc bL _ (.inl ⟨_,aT.of (Rt _ _ g2),rfl⟩) ?_;calc QU _ elz () () (λS hlq=>?_);rw[Int.toNat_natCast,pC];have s56:=au.new (.lst (List.replicate m.ms.length (V.int 0))) hlq;have elq:upd H5 S (.lst (List.replicate m.ms.length (V.int 0))) S=some (.lst ((List.replicate m.ms.length 0).map V.int)):=by rw[af,List.map_replicate]
 generalize Rc:upd H5 S (.lst (List.replicate m.ms.length (V.int 0)))=H6 at *;calc⟨∅,λla hla=>?_⟩;have xP:=au.new (.lst [.ref S]) hla;have ela:upd H6 la (.lst [.ref S]) la=some (.lst [.ref S]):=af;generalize Zb:upd H6 la (.lst [.ref S])=H7 at *;have Xx:=Y9.trans (s56.trans xP);have sH7:=Zx.trans Xx;calc bL _ (JI (sH7 _ _ N)) ?_;obtain⟨v3,e3,d3⟩:=M.bS.lst (t:=3) (i:=m.goal B) I rfl;have z3:v3.length=(r.mm (m.goal B)).hr.length:=by simpa using d3.1
 have hlh:=O.lh _ I;have Zd:=O.bp _ I;left;calc aZ (sH7 _ _ o3.1) (aY I) ?_;calc .inl ⟨_,_,ela,sH7 _ _ e3,P' (small (by simp;lia)),λlb hlb=>?_⟩;have s78:=au.new (.lst ([.ref S]++v3)) hlb;have elb:upd H7 lb (.lst ([.ref S]++v3)) lb=some (.lst ([.ref S]++v3)):=af;generalize Zc:upd H7 lb (.lst ([.ref S]++v3))=H8 at *;have s48:=Xx.trans s78;have X:=Zx.trans s48;have XB:∃rl,hX ([V.ref S]++v3) (-1)=some (.ref rl)/\H8 rl=some (.lst (((r.mm (m.goal B)).hr.bM (List.replicate m.ms.length 0)).map V.int)):=by
  by_cases h1:1<=(r.mm (m.goal B)).hr.length
  ·nofun;obtain⟨v,ev',dv⟩:=d3.get (i:=(r.mm (m.goal B)).hr.length-1) (d:=.lst (((r.mm (m.goal B)).hr.bM (List.replicate m.ms.length 0)).map .int)) (by rw[List.getElem?_map,kQ (d:=List.replicate m.ms.length 0) h1];rfl);obtain⟨a,rfl,ea⟩:=xB (dv.cv dW);ac_rfl;calc⟨a,mq nofun ?_,X _ _ ea⟩;rw[List.length_append,List.length_singleton,List.getElem?_append_right (by simp;lia)];rw[show 1+v3.length-1 - [V.ref S].length=(r.mm (m.goal B)).hr.length-1 by simp;lia];exact ev'
  ·have ez:(r.mm (m.goal B)).hr=[]:=List.length_eq_zero_iff.mp ();have ev3:v3=[]:=List.length_eq_zero_iff.mp ();refine⟨S,?_,?_⟩
   ·rw[ev3];exact mq nofun rfl
   ·rw[ez];show H8 S=some (.lst (List.map V.int (List.getD ([]:List (List Int)) _ _)));exact s78 _ _ (xP _ _ elq)
 obtain⟨rl,erl,zx⟩:=XB;calc aZ elb erl ?_;left;calc bL _ (MT (X _ _ N)) ?_;obtain⟨v5,e5,d5⟩:=M.bS.lst (t:=5) (i:=B) L rfl;have Rf:=O.ls B L;left;calc aZ (X _ _ o5.1) (aY L) ?_;obtain⟨v5k,ev5,Zy⟩:=d5.get (i:=k) (d:=pB ((r.ww B).snd.getD k none)) (by rw[List.getElem?_map,bq (d:=none) ()];rfl);calc aZ (X _ _ e5) (az ev5) ?_;left;rename_i N2 hN2 T2 U2 Qz hU2;have XC:(pf m r B k).length=m.ms.length:=by
  have:=yQ W O L (k:=k);rw[M0,List.length_set]at this;exact this
 have rest:∀(Zz:Addr) (z11 RE:Option V) (H9:Hp),au H8 H9->H9 Zz=some (.lst ((pf m r B k).map V.int))->N2 [some (V.ref d),some (V.int ((B:Nat):Int)),some (V.int ((k:Nat):Int)),some (V.int ((m.goal B:Nat):Int)),some (V.int ((m.place B:Nat):Int)),some (V.ref D2),some (V.ref ev),some K5,some (V.ref Tj),some (V.ref Oi),some (V.ref Zz),z11,RE,none,none] H9:=by
  clear Qz hU2 T2 U2;intro Zz z11 RE H9 s89 XE;have T4:=s48.trans s89;have OE:=Zx.trans T4;have b9:=M.bS.same OE;left;calc bL _ (JI (OE _ _ N)) ?_;left;calc aZ (OE _ _ o3.1) (aY I) ?_;calc⟨.inl ⟨rfl,_,aT.of (OE _ _ e3)⟩,?_⟩;calc bV ?_;left;calc bL _ (.inl ⟨_,aT.of XE,rfl⟩) ?_;left;rw[List.length_map,XC];calc iR () () (λhl XF=>?_);rw[Int.toNat_natCast];refine bE (J:=DX 0 m.ms.length) (n:=m.ms.length) (λi ys H'=>au H9 H'/\ys=(List.range i).map λj=>V.int ((pf m r B k).getD j 0+(if decide (((j:Nat):Int)=((m.goal B:Nat):Int))=true then 1 else 0))) (P' (aI ())) ⟨au.new _ XF,rfl⟩ (λi ys H' hi _=>hi) (λys H' _=>K' _) ?_ ?_
  ·intro i ys H' hi bP oW y0 x H2' Bo;nofun;obtain⟨Y,rfl⟩:=y0;obtain⟨rfl,rfl⟩:=Bo;ac_rfl;calc⟨Ext.set (Ext.refl _) rfl,?_⟩;left
   try rw[if_pos trivial]
   calc aZ (Y _ _ XE) (show hX _ (0+(i:Int))=some (.int ((pf m r B k).getD i 0)) from by rw[Int.zero_add];calc az (by rw[List.getElem?_map,bq (d:=0) ()];rfl)) ?_;refine .inr ?_
   try rw[Int.zero_add]
   calc cD bP oW hi (P' (aI ())) ⟨λc o e=>by rw[ay (av e XF)];calc Y _ _ e,?_⟩;rw[List.range_succ,List.map_append];rfl
  rintro ys FV bP oW ⟨Fe,rfl⟩;clear oW;have Ff:=OE.trans Fe;left;calc hV v3 (Ff _ _ e3) (small ()) ?_;left;have nA:ad 3 (m.goal B)≠hl:=λz=>by have:=OE _ _ e3;rw[z,XF]at this;cases this
  have kA:∀b o,b≠ad 3 (m.goal B)->FV b=some o->upd FV (ad 3 (m.goal B)) (.lst (v3++[.ref hl])) b=some o:=λb o n e=>by rw[ay n];exact e
  have JV:∀{b:Addr} {o:HO},FV b=some o->¬FP m.n ad b->b≠ad 3 (m.goal B):=λ{b o} _ h z=>h ⟨3,m.goal B,I,z⟩;have OF:=Fe _ _ (T4 _ _ adi);have nev:ev≠ad 3 (m.goal B):=λz=>by have:=Ff _ _ e3;rw[<-z,OF]at this;cases this
  calc da (kA _ _ nev OF) (az (j:=1) rfl) ?_;calc bL _ (JI (kA _ _ (JV (Ff _ _ N) nP) (Ff _ _ N))) ?_;left;calc aZ (kA _ _ (JV (Ff _ _ o3.1) o3.2.2) (Ff _ _ o3.1)) (aY I) ?_;calc aZ af kU ?_;left;calc⟨_,m.goal B,kA _ _ (Ne.symm nA) bP,oY (by simp;lia),?_⟩;rw[M3 XC I,show(pf m r B k).set (m.goal B) (((r.mm (m.goal B)).gp.length:Nat):Int)=m.gb r B k from rfl,JU nA];have sK:au H9 (upd FV hl (.lst ((m.gb r B k).map V.int))):=λb o e=>by rw[ay (av e XF)];exact Fe _ _ e
  have eK:upd FV hl (.lst ((m.gb r B k).map V.int)) hl=some (.lst ((m.gb r B k).map V.int)):=af;generalize hGK:upd FV hl (.lst ((m.gb r B k).map V.int))=K10 at *;have ZC:=OE.trans sK;have bK:=M.bS.same ZC;have FSK:FS F K10:=kF.fr (Z:=λ_=>False) ZC.fr (λ_ _ h=>h);have fresh:∀{b:Addr},H9 b=none->¬(F b\/FP m.n ad b):=λ{b} hb z=>by
   rcases z with z|z
   ·obtain⟨o,e,_⟩:=kF b z;rw[OE _ _ e]at hb;cases hb
   ·obtain⟨o,e,_⟩:=b9.fp z;rw[e]at hb;cases hb
  have e3K:=ZC _ _ e3;have si:=(BF.mk bK ZC.fr (T4.trans sK).fr).app (t:=3) (i:=m.goal B) I rfl e3K (dQ.one (show HD _ 4 (.ref hl) (.lst ((m.gb r B k).map .int)) from .lst (by rw[fF (fresh XF)];calc eK) nofun (λi u e G he=>(dQ.ints (H:=hJ (λb=>F b\/FP m.n ad b) K10) (n:=3) (m.gb r B k)).2 i u e G he)));generalize WD:upd K10 (ad 3 (m.goal B)) (.lst (v3++[.ref hl]))=Ze at *;clear kA JV;left;calc bL _ (Xg (si.f.at N nP)) ?_;obtain⟨kv6,e6,d6⟩:=si.b.dct (t:=6) (i:=B) L rfl;have Zh:=O.lk B L;have hbs:=O.bs B L;left;calc aZ (si.f.at o6.1 o6.2.2) (aY L) ?_;have U4:((r.ww B).dX.countP Option.isSome)<=(r.ww B).dX.length:=List.countP_le_length;have h6l:=d6.1;calc⟨ad 6 B,_,rfl,uf.k (k:=Sum.inl ((k:Nat):Int)) e6 (small ()),?_⟩;have Ah:=BF.mk (si.b.upd (t:=6) (i:=B) L (Sb d6 hc.lies ((si.b.ht (kF.fr si.f M.bS.xo) (XA.aK si.g.aS)).mono ∅))) (si.f.upd ⟨6,B,L,rfl⟩ e6 trivial) (si.g.upd ⟨6,B,L,rfl⟩ e6 trivial);generalize WE:upd Ze (ad 6 B) (.dK (putK kv6 (Sum.inl ((k:Nat):Int)) (.ref ev)))=WG at *;left;calc bL _ (MU (Ah.f.at N nP)) ?_;obtain⟨v1',XG,T5⟩:=Ah.b.lst (t:=1) (i:=m.goal B) I rfl;have z1':v1'.length=(r.mm (m.goal B)).gp.length:=by simpa using T5.1
  left;calc aZ (Ah.f.at o1.1 o1.2.2) (aY I) ?_;calc⟨.inl ⟨rfl,_,aT.of XG⟩,?_⟩;left;calc hV v1' XG (small ()) ?_;have K9:=Ah.app (t:=1) (i:=m.goal B) I rfl XG (dQ.one (show HD _ 4 K5 (rg ((m.work r B k).ns,(m.work r B k).row)) from(Ah.b.ht (kF.fr Ah.f M.bS.xo) (BG.aK Ah.g.aS)).mono ∅));generalize ajQ:upd WG (ad 1 (m.goal B)) (.lst (v1'++[K5]))=Zg at *;left;calc bL _ (Xh (K9.f.at N nP)) ?_;obtain⟨v2,e2,d2⟩:=K9.b.lst (t:=2) (i:=m.goal B) I rfl;have z2:v2.length=(r.mm (m.goal B)).wp.length:=by simpa using d2.1
  have hlw:=O.lw _ I;left;calc aZ (K9.f.at o2.1 o2.2.2) (aY I) ?_;calc⟨.inl ⟨rfl,_,aT.of e2⟩,?_⟩;calc bL _ (Xh (K9.f.at N nP)) ?_;left;calc aZ (K9.f.at o2.1 o2.2.2) (aY I) ?_;nofun;obtain⟨vw,evw,dvw⟩:=d2.get (i:=(r.mm (m.goal B)).wp.length-1) (d:=.lst (((r.mm (m.goal B)).wp.bM []).map .int)) (by rw[List.getElem?_map,kQ (d:=[]) ()];rfl);obtain⟨lw,rfl,elw⟩:=xB (dvw.cv dW);ac_rfl;calc aZ e2 (mq () (by rw[z2];calc evw)) ?_;have Jz:¬FP m.n ad Tj:=λz=>by
   obtain⟨u,e,_⟩:=(M.bS.same R).fp z;rw[fl1]at e;cases e
  have RB:¬FP m.n ad Oi:=λz=>by
   obtain⟨u,e,_⟩:=(M.bS.same R).fp z;rw[fl2]at e;cases e
  have hbw:=O.bw _ I _ (ia (l:=(r.mm (m.goal B)).wp) (d:=[]) ());calc .inl ⟨_,_,elw,K9.g.at BH RB,P' (small (by simp;lia)),λnw hnw=>?_⟩;have JW:=au.new (.lst (((r.mm (m.goal B)).wp.bM []).map V.int++(m.work r B k).words.map V.int)) hnw;have enw:upd Zg nw (.lst (((r.mm (m.goal B)).wp.bM []).map V.int++(m.work r B k).words.map V.int)) nw=some (.lst (((r.mm (m.goal B)).wp.bM []++(m.work r B k).words).map V.int)):=by rw[af,List.map_append]
  generalize ajV:upd Zg nw (.lst (((r.mm (m.goal B)).wp.bM []).map V.int++(m.work r B k).words.map V.int))=H14 at *;have w14:=K9.same JW;have nnw:¬(F nw\/FP m.n ad nw):=λz=>by
   rcases z with z|z
   ·obtain⟨o,e,_⟩:=(kF.fr K9.f M.bS.xo) nw z;rw[hnw]at e;cases e
   ·obtain⟨o,e,_⟩:=K9.b.fp z;rw[hnw]at e;cases e
  left;calc hV v2 (JW _ _ e2) (small ()) ?_;have ZD:=w14.app (t:=2) (i:=m.goal B) I rfl (JW _ _ e2) (dQ.one (show HD _ 4 (.ref nw) (.lst (((r.mm (m.goal B)).wp.bM []++(m.work r B k).words).map .int)) from .lst (by rw[fF nnw];calc enw) nofun (λi u e G he=>(dQ.ints (H:=hJ (λb=>F b\/FP m.n ad b) H14) (n:=3) ((r.mm (m.goal B)).wp.bM []++(m.work r B k).words)).2 i u e G he)));generalize ajX:upd H14 (ad 2 (m.goal B)) (.lst (v2++[.ref nw]))=H15 at *;left;calc bL _ (Xi (ZD.f.at N nP)) ?_;obtain⟨v0,e0,d0⟩:=ZD.b.lst (t:=0) (i:=0) i0 rfl;have z0:v0.length=r.picks.length:=by simpa using d0.1
  left;calc iR (.inl ⟨rfl,_,aT.of e0⟩) cf (λtp Fy=>?_);have OG:=au.new (.tup [.int ((B:Nat):Int),.int ((k:Nat):Int)]) Fy;have XH:HT (upd H15 tp (.tup [.int ((B:Nat):Int),.int ((k:Nat):Int)])) 1 (.ref tp) (pairD ((B:Int),(k:Int))):=cR (n:=0) af (.int _) (.int _);generalize ajY:upd H15 tp (.tup [.int ((B:Nat):Int),.int ((k:Nat):Int)])=Xv at *;have ZE:=ZD.same OG;have XI:=OG _ _ e0;left;calc hV v0 XI (small ()) ?_;have OH:=ZE.app (t:=0) (i:=0) i0 rfl XI (dQ.one ((ZE.b.ht (kF.fr ZE.f M.bS.xo) XH).mono ∅));generalize ajZ:upd Xv (ad 0 0) (.lst (v0++[.ref tp]))=H17 at *;have adq:cj F H17 d (.ref tt) m (r.step m B k) ad:=M.own OH.f (OH.b.congr M4);have OI:SL H17 zs (m.work r B k).cV:=oj.aK OH.g.aS;have XJ:=OH.g.at RA Jz;have OJ:=XA.aK OH.g.aS;have nD2:¬FP m.n ad D2:=λz=>by
   obtain⟨u,e,_⟩:=(M.bS.same Sd).fp z;rw[EV]at e;cases e
  have adt:=OH.g.at H4o nD2;clear b9 bK si Ah K9 w14 ZD ZE d0 T5 d2 d6;left;have hzl:zs.length=(m.work r B k).cV.length:=OI.1;have RC:=O.step W L (k:=k);have RD:∀a c,some (m.ev r B)=some (a,c)->0<=a/\a<m.ms.length/\1<=c/\c<=((r.step m B k).mm a.toNat).hr.length:=Dt W O L;refine⟨_,rfl,.inl ⟨⟨_,aT.of XJ⟩,jI (K:=K) (xs:=zs) (λi σ H'=>(∃RF z14,σ=[some (V.ref d),some (V.int ((B:Nat):Int)),some (V.int ((k:Nat):Int)),some (V.int ((m.goal B:Nat):Int)),some (V.int ((m.place B:Nat):Int)),some (V.ref D2),some (V.ref ev),some K5,some (V.ref Tj),some (V.ref Oi),some (V.ref Zz),z11,RE,RF,z14])/\Fr (FP m.n ad) H17 H'/\cj F H' d (.ref tt) m ((r.step m B k).send (m.outs (m.goal B)) (m.ev r B) ((m.work r B k).cV.take i)) ad) ?_ ?_ ?_ ?_⟩⟩
  ·exact⟨⟨_,_,rfl⟩,Fr.refl,adq⟩
  ·rintro i σ H' hi ⟨_,fi,_⟩;exact aT.of (fi.at XJ Jz)
  ·intro i z σ H' hz My;nofun;obtain⟨⟨RF,z14,rfl⟩,fi,DB⟩:=My;have Af:i < zs.length:=(List.getElem?_eq_some_iff.mp hz).1;have RG:i < (m.work r B k).cV.length:=by lia
   have E4:(m.work r B k).cV[i]?=some (m.work r B k).cV[i]:=di RG;have hp0:=wk4 _ (aaa RG);have RH:=(OI.2 i z _ hz E4).aK fi.aS;have MN:(r.step m B k).send (m.outs (m.goal B)) (m.ev r B) ((m.work r B k).cV.take (i+1))=((r.step m B k).send (m.outs (m.goal B)) (m.ev r B) ((m.work r B k).cV.take i)).send (m.outs (m.goal B)) (m.ev r B) [(m.work r B k).cV[i]]:=by
    rw[List.take_succ,E4];exact qh _
   have BI:=(RS.tZ.send (outs:=m.outs (m.goal B)) (ev:=m.ev r B) ((m.work r B k).cV.take i) RC RD).mono (show _<=19998 by simp;lia);generalize (m.work r B k).cV[i]=p at *;obtain⟨pj,px⟩:=p;obtain⟨tz,u1,u2,kz,rfl,FC,y1,y2⟩:=cw RH;obtain rfl:=y1.cy;obtain rfl:=y2.cy;ac_rfl;calc yS (bJ.of FC) ?_;have eDi:=fi.at adt nD2;left;calc bL _ (.inl ⟨_,aT.of eDi,rfl⟩) ?_;left;have hlen:((uA m 0 (m.goal B)).map λi=>V.int ((i:Nat):Int)).length=(m.outs (m.goal B)).length:=by rw[List.length_map];rfl
   rw[hlen];have ej:((pj.toNat:Nat):Int)=pj:=aa5 hp0;by_cases ko:pj<((m.outs (m.goal B)).length:Nat)
   ·rw[if_pos (by simpa using ko)];have Iw:pj.toNat < (m.outs (m.goal B)).length:=by lia
    have rP:(m.outs (m.goal B)).getD pj.toNat 0<m.ws.length:=by
     have:=getD_mem (d:=0) Iw;unfold NT.outs at this ⊢;rw[List.mem_filter,List.mem_range]at this;exact this.1
    have Wy:hX ((uA m 0 (m.goal B)).map λi=>V.int ((i:Nat):Int)) pj=some (.int (((m.outs (m.goal B)).getD pj.toNat 0:Nat):Int)):=by
     rw[<-ej];calc az ?_;rw[List.getElem?_map];show Option.map _ (m.outs (m.goal B))[_]?=_;rw[Int.toNat_natCast,bq (d:=0) Iw];rfl
    nofun;obtain⟨U,how⟩:∃U,U=(m.outs (m.goal B)).getD pj.toNat 0:=⟨_,rfl⟩
    rw[<-how]at rP Wy;generalize hri:(r.step m B k).send (m.outs (m.goal B)) (m.ev r B) ((m.work r B k).cV.take i)=ri at *;obtain⟨oi,XM,nFi,nPi,XN⟩:=DB.dk;have oi4:=XN 4 ∅ ∅;have XQ:=XN 5 ∅ ∅;have bi:=DB.bS;obtain⟨w4,x4,y4⟩:=bi.lst (t:=4) (i:=U) rP rfl;ac_rfl;have l4:w4.length=(ri.ww U).say.length:=by simpa using y4.1
    have hb4:=BI.bs U rP;have hb5:=BI.ls U rP;left;calc bL _ (uF XM) ?_;left;calc aZ eDi Wy ?_;calc aZ oi4.1 (aY rP) ?_;calc⟨.inl ⟨rfl,_,aT.of x4⟩,?_⟩;left;calc hV w4 x4 (small ()) ?_;have bj:=bi.app (t:=4) (i:=U) rP rfl x4 (dQ.one (.int px));have fj:Fr (FP m.n ad) H' (upd H' (ad 4 U) (.lst (w4++[.int px]))):=Fr.refl.upd ⟨4,U,rP,rfl⟩ x4 trivial;generalize hGj:upd H' (ad 4 U) (.lst (w4++[.int px]))=Hj at *;obtain⟨w5,x5,y5⟩:=bj.lst (t:=5) (i:=U) rP rfl;have l5:w5.length=(ri.ww U).snd.length:=by simpa using y5.1
    left;calc bL _ (MT (fj.at XM nPi)) ?_;left;calc aZ (fj.at eDi nD2) Wy ?_;calc aZ (fj.at XQ.1 XQ.2.2) (aY rP) ?_;calc⟨.inl ⟨rfl,_,aT.of x5⟩,?_⟩;left;calc hV w5 x5 (small ()) ?_;have FSj:FS F Hj:=kF.fr ((OH.f.trans fi).trans fj) M.bS.xo;have bk:=bj.app (t:=5) (i:=U) rP rfl x5 (dQ.one (show HD _ 4 (.ref ev) (pB (some (m.ev r B))) from(bj.ht FSj ((OJ.aK fi.aS).aK fj.aS)).mono ∅));have fk:Fr (FP m.n ad) H' (upd Hj (ad 5 U) (.lst (w5++[.ref ev]))):=fj.upd ⟨5,U,rP,rfl⟩ x5 trivial;left;calc iR ⟨_,_,rfl,rfl⟩ (fi.trans fk) ?_;rw[MN];show cj F _ d _ m (if pj.toNat<_ then _ else _) ad;rw[if_pos Iw];show cj F _ d _ m (ri.put ((m.outs (m.goal B)).getD pj.toNat 0) px (some (m.ev r B))) ad;rw[<-how];exact DB.own fk (bk.congr JT)
   ·rw[if_neg (by simpa using ko)];left;calc iR ⟨_,_,rfl,rfl⟩ fi ?_;rw[MN];show cj F H' d _ m (if pj.toNat<_ then _ else _) ad;rw[if_neg ()];exact DB
  ·intro σ H' Rj;obtain⟨⟨RF,z14,rfl⟩,fi,DB⟩:=Rj;left;rw[hzl,List.take_length]at DB;exact q _ _ (OH.f.trans fi) DB (OJ.aK fi.aS)
 clear hN2
 cases K1:(r.ww B).snd.getD k none with
 |none=>
  rw[K1]at Zy;have:=tJ Zy;subst this;left
  try rw[if_neg ∅]
  left;calc rest rl _ _ H8 (au.refl _) ?_;unfold pf;rw[K1];calc zx
 |some sc=>
  nofun;obtain⟨s0,c0⟩:=sc;rw[K1]at Zy;obtain⟨ae,rfl,SW⟩:=mn (Zy.cv dW);have ady:=X _ _ SW;have yl:some (s0,c0)∈(r.ww B).snd:=by rw[<-K1];exact getD_mem ()
  obtain⟨q1,q2,q3,q4⟩:=O.sd B L s0 c0 yl;ac_rfl;left
  try rw[if_pos ∅]
  left;calc bL _ (MT (X _ _ N)) ?_;left;calc aZ (X _ _ o5.1) (aY L) ?_;calc aZ (X _ _ e5) (az ev5) ?_;calc yS (bJ.of ady) ?_;left;calc bV ?_;left;calc bL _ (JI (X _ _ N)) ?_;have hsm:s0.toNat<m.ms.length:=by lia
  have es0:((s0.toNat:Nat):Int)=s0:=aa5 q1;have ec0:(((c0-1).toNat:Nat):Int)=c0-1:=aa5 ();left;calc aZ (X _ _ o3.1) (show hX _ s0=some (.ref (ad 3 s0.toNat)) from by have:=aY (n:=m.n) (ad:=ad) (t:=3) hsm;rw[es0]at this;calc this) ?_;nofun;obtain⟨vs3,es3,ds3⟩:=M.bS.lst (t:=3) (i:=s0.toNat) hsm rfl;obtain⟨vr,evr,dvr⟩:=ds3.get (i:=(c0-1).toNat) (d:=.lst (((r.mm s0.toNat).hr.getD (c0-1).toNat []).map .int)) (by rw[List.getElem?_map,bq (d:=[]) ()];rfl);obtain⟨lo,rfl,elo⟩:=xB (dvr.cv dW);ac_rfl;calc aZ (X _ _ es3) (show hX _ (c0-1)=some (.ref lo) from by rw[<-ec0];calc az evr) ?_;have M5:=X _ _ elo;left;calc gc true true _ _ (Sq.l zx) (Sq.l M5) (λD3 EW=>?_);have af7:((r.mm (m.goal B)).hr.bM (List.replicate m.ms.length 0)).length=m.ms.length:=by
   by_cases h1:1<=(r.mm (m.goal B)).hr.length
   ·exact O.hl _ I _ (ia h1)
   ·have ez:(r.mm (m.goal B)).hr=[]:=List.length_eq_zero_iff.mp ();rw[ez];simp[List.bM]
  have af8:((r.mm s0.toNat).hr.getD (c0-1).toNat []).length=m.ms.length:=O.hl _ hsm _ (getD_mem ());have ehr:pf m r B k=List.zipWith max ((r.mm (m.goal B)).hr.bM (List.replicate m.ms.length 0)) ((r.mm s0.toNat).hr.getD (c0-1).toNat []):=by
   unfold pf;rw[K1]
  generalize hA:(r.mm (m.goal B)).hr.bM (List.replicate m.ms.length 0)=LA at *;generalize hB:(r.mm s0.toNat).hr.getD (c0-1).toNat []=LB at *;refine bE (J:=YU true true K rl lo) (n:=m.ms.length) (λi ys H'=>au H8 H'/\ys=((List.zipWith max LA LB).take i).map V.int) (P' (aI ())) ⟨au.new _ EW,rfl⟩ ?_ ?_ ?_ ?_
  ·rintro i ys H' hi ⟨Y,_⟩;exact⟨_,_,_,_,Sq.l (Y _ _ zx),Sq.l (Y _ _ M5),by rw[List.getElem?_map,bq (d:=0) ()];rfl,by rw[List.getElem?_map,bq (d:=0) ()];rfl⟩
  ·rintro ys H' ⟨Y,_⟩;exact⟨_,_,Sq.l (Y _ _ zx),Sq.l (Y _ _ M5),.inl (by simp;lia)⟩
  ·intro i ys H' hi bP hl Rl xx H4' zq9;nofun;obtain⟨Y,rfl⟩:=Rl;obtain⟨t',ht',rfl,y⟩:=zq9;obtain⟨x1,x2,ex1,ex2,rfl⟩:=y _ _ (Sq.l (Y _ _ zx)) (Sq.l (Y _ _ M5));rw[List.getElem?_map,bq (d:=0) ()] at ex1 ex2;obtain rfl:=Option.some.inj ex1;obtain rfl:=Option.some.inj ex2;ac_rfl;have s2:=au.new (.tup [.int (LA.getD i 0),.int (LB.getD i 0)]) ht';have qS:upd H' t' (.tup [.int (LA.getD i 0),.int (LB.getD i 0)]) t'=some (.tup [.int (LA.getD i 0),.int (LB.getD i 0)]):=af;calc yS (bJ.of qS) ⟨Ext.set (Ext.set (Ext.refl _) rfl) rfl,?_⟩;left
   try rw[if_pos trivial]
   calc cD (s2 _ _ bP) hl hi (P' (aI ())) ⟨λc o e=>by rw[ay (av e EW)];calc s2 _ _ (Y _ _ e),?_⟩;rw[List.take_succ,List.getElem?_zipWith,bq (l:=LA) (d:=0) (),bq (l:=LB) (d:=0) (),List.map_append];show _++[V.int (if LB.getD i 0 > LA.getD i 0 then LB.getD i 0 else LA.getD i 0)]=_++[V.int (max (LA.getD i 0) (LB.getD i 0))]
   congr 3;split<;>lia
  rintro ys H9 bP hl ⟨s89,rfl⟩;rw[List.take_of_length_le (by simp;lia),<-ehr]at bP;left;calc rest D3 _ _ H9 s89 bP
theorem qW.nil{ct:Nat->Hp->HO->Prop}:qW H0 H' D [] 0 ct:=⟨rfl,List.nodup_nil,λa h=>by simp at h,λj a h=>by simp at h⟩
theorem qW.snoc{n:Nat}{ct:Nat->Hp->HO->Prop}(h:qW H0 H1 D as n ct)(q:au H0 H1)(r:H1 D≠none)(g:H1 a=none){o:HO}(e:H' a=some o)(c:ct n H' o)(s:∀b o,b≠D->H1 b=some o->H' b=some o)(f:∀j o,ct j H1 o->ct j H' o):qW H0 H' D (as++[a]) (n+1) ct:=by
 refine⟨by simp[h.len],?_,λb d=>?_,λj b d=>?_⟩
 ·rw[List.nodup_append];calc iR h.nd nofun (λb d c l=>?_);simp at l;subst l;intro z;subst z;obtain⟨j,k⟩:=List.getElem?_of_mem d;obtain⟨m,i,_⟩:=h.ins j b k;rw[g]at i;cases i
 ·rcases List.mem_append.mp d with d | d
  ·exact h.new b d
  ·simp at d;subst d;refine⟨?_,λz=>r (z ▸ g)⟩
   cases t:H0 b with
   |none=>rfl
   |some o=>rw[q _ _ t]at g;cases g
 ·by_cases k:j < as.length
  ·rw[List.getElem?_append_left k]at d;obtain⟨m,i,g⟩:=h.ins j b d;exact⟨m,s _ _ (h.new b (aaf d)).2 i,f _ _ g⟩
  ·rw[List.getElem?_append_right ()] at d
   cases p:j-as.length with
   |zero=>
    rw[p]at d;simp at d;subst d;have:j=n:=by have:=h.len;lia
    subst this;calc⟨o,e,c⟩
   |succ k=>rw[p]at d;simp at d
theorem qW.keep{n:Nat}{ct:Nat->Hp->HO->Prop}(h:qW H0 H1 D as n ct)(s:∀(j:Nat) (b:Addr) (o:HO),H1 b=some o->ct j H1 o->H' b=some o/\ct j H' o):qW H0 H' D as n ct:=
 ⟨h.len,h.nd,h.new,λj a e=>by
  obtain⟨c,d,f⟩:=h.ins j a e;calc⟨c,s _ _ _ d f⟩⟩
theorem rV{K:W.Frag}{ix:List (Option Nat)}{r:TE}{l:Addr}{xs:List V}{o:HO}(t:H l=some (.lst xs))(v:H D=none)(G:xs.length<=10)(y:∀x,Ext (ug ix σ) ((ug ix σ).set 0 (some x)))(d:∀g j (R:VK),(∀p,j p=none->R (.ref p) (upd j p o))->r g j R)(q:∀as H1,H1 D=some (.lst (as.map V.ref))->au H H1->qW H H1 D as xs.length (λ_ _ u=>u=o)->Q (.ref D) H1):kN ix (x6 K l) (fK 0) iX r σ H Q D:=by
 refine bE (n:=xs.length) (λi ys H'=>∃as:List Addr,ys=as.map V.ref/\au H H'/\qW H H' D as i (λ_ _ u=>u=o)) (P' (small ())) ⟨[],rfl,au.new _ v,qW.nil⟩ ?_ ?_ ?_ ?_
 ·rintro i ys H' k ⟨_,_,a,_⟩;exact⟨_,xs[i],aT.of (a _ _ t),di k⟩
 ·rintro ys H' ⟨_,_,a,_⟩;exact⟨_,aT.of (a _ _ t),K' _⟩
 ·intro i ys H' k c w z B I C;obtain⟨as,rfl,a,m⟩:=z;obtain⟨rfl,g⟩:=C;calc⟨y B,?_⟩;simp only[iX,if_true];calc d _ _ _ λp g=>?_;have d:=au.new o g;have i:p≠D:=Ne.symm (av c g);refine cD (d _ _ c) w k (P' (small ())) ⟨as++[p],nofun,λb o e=>?_,?_⟩
  ·rw[ay (av e v)];exact d _ _ (a _ _ e)
  ·refine m.snoc a (by rw[c];simp) g (o:=o) ?_ rfl (λb o a e=>?_) (λj u e=>e)
   ·rw[ay i];exact af
   ·rw[ay a];exact d _ _ e
 ·intro ys H1 c w F;obtain⟨as,rfl,a,m⟩:=F;calc q as H1 c a m
theorem qW.some{n:Nat}{ct:Nat->Hp->HO->Prop}(h:qW H0 H1 D as n ct):∀a∈as,H1 a≠none:=λa m=>by
 obtain⟨j,e⟩:=List.getElem?_of_mem m;obtain⟨b,e,_⟩:=h.ins j a e;rw[e];calc λz=>nomatch z
abbrev lE:Stmt:=top 69
inductive JX(vs:List V)(H:Hp)(Q:VK):Prop
 |mk (F:Addr->Prop) (tn:V) (nt:NT) (ls:List (Int×Int)) (h0:vs=[tn]) (h1:ToldN (hJ F H) tn nt.ms nt.ws ls) (h2:FS F H) (h3:nt.Ok) (h4:ls.length<=20) (h5:∀l∈ls,0<=l.1/\l.1<nt.ws.length) (h6:∀d ad H',au H H'->(∀b,FP nt.n ad b->H b=none)->H d=none->cj F H' d tn nt (RS.begin nt ls) ad->Q (.ref d) H'):JX vs H Q
def DC:Sp:=λvs H Q _=>JX vs H Q
theorem zL(D:dq K mg "_law_begun" "_law_begun" lE ["_law_net_here"])(T:Tx K mg C CN CR F FD):Def P w K mg base "_law_begun" 1 ["_law_net_here"] DC:=by
 have sc:aE ["_law_net_here","_law_run","_law_way","_law_said"] ["_law_net_here"] (aA lE):=by walk_at "s"
 symm;obtain⟨F,tn,g,ls,rfl,hN,kF,aW,zc,vb,q⟩:=h;have Y:=hr.units;have IT:=lt1 Y;refine⟨_,(aj (ba (i:=1) sc.nd rfl Sort (LF (r9 aD (aq 0) (r9 aD (dJ (N':=["_law_way"]) (ix:=[none]) (cE (ak Y (aq 0) ai)) (λ_ _ _ _=>(bf (i:=0) (show(["_law_way"]:List Str).Nodup by decide +kernel) rfl Sort)) pS (λ_ _ _ _=>(bD aa))) (r9 aD (dJ (N':=["_law_way"]) (ix:=[none]) (cE (ak Y (aq 0) ai)) (λ_ _ _ _=>(bf (i:=0) (show(["_law_way"]:List Str).Nodup by decide +kernel) rfl Sort)) pS (λ_ _ _ _=>(bD aa))) LD))) rfl rfl ∅ ∅))
  (aj (mf IT (aq 1) aD (dJ (N':=["_law_way"]) (ix:=[none]) (cE (ak Y (aq 0) ai)) (λ_ _ _ _=>(bf (i:=0) (show(["_law_way"]:List Str).Nodup by decide +kernel) rfl Sort)) pS (λ_ _ _ _=>G8)) rfl)
  (aj (mf IT (aq 1) aD (dJ (N':=["_law_one"]) (ix:=[none]) (cE (ak Y (aq 0) ai)) (λ_ _ _ _=>(bf (i:=0) (show(["_law_one"]:List Str).Nodup by decide +kernel) rfl Sort)) pS (λ_ _ _ _=>(bD (ag (bA (ag (dG (oH (K:=K) rfl) rfl T.cJ uN (ag (eQ (K:=K) rfl Y (aq 0) ai) aa)) (ag (dG (oH (K:=K) rfl) rfl T.cJ uN (ag (eQ (K:=K) rfl Y (aq 0) ai) aa)) aa))) aa)))) rfl)
  (aj (mf IT (aq 1) aD (dJ (N':=["_law_one"]) (ix:=[none]) (cE (ak Y (aq 0) ai)) (λ_ _ _ _=>(bf (i:=0) (show(["_law_one"]:List Str).Nodup by decide +kernel) rfl Sort)) pS (λ_ _ _ _=>(bD (ag (bD aa) aa)))) rfl)
  (aj (mf IT (aq 1) aD (dJ (N':=["_law_one"]) (ix:=[none]) (cE (ak Y (aq 0) ai)) (λ_ _ _ _=>(bf (i:=0) (show(["_law_one"]:List Str).Nodup by decide +kernel) rfl Sort)) pS (λ_ _ _ _=>(bD aa))) rfl)
  (aj (mf IT (aq 1) aD (bD aa) rfl)
  (aj (fg PassesOwn.never rfl (cE (ak Y (aq 0) ai)) (ij (i:=2) (j:=3) rfl sc.nd rfl rfl Sort Sort)
  (aj (bW (dF ma og oh bN (ak Y (ak Y (aq 1) aD) (aq 2)) (ag (aq 3) aa)))
  (ao (bW (dF ma og oh bN (ak Y (ak Y (aq 1) aD) (aq 2)) (ag kG aa))))))
  (ao (aH (aq 1)))))))))),?_⟩
 nofun;obtain⟨I,am,aw,al,mv,wv,lv,rfl,h1,h2,h3,h4,h5,h6,h7⟩:=id hN;have g1:=(cC h1 (λk z=>by cases z)).2;have g2:=(cC h2 (λk z=>by cases z)).2;have g3:=(cC h3 (λk z=>by cases z)).2;have g4:=(cC h4 (λk z=>by cases z)).2
 replace h5:=h5.cv dW
 replace h6:=h6.aK dW.aS
 replace h7:=h7.aK dW.aS
 ac_rfl;have kD:wv.length=g.ws.length:=by simpa using h6.1
 have pC:mv.length=g.ms.length:=h5.1;have zh:lv.length=ls.length:=by simpa using h7.1
 have T:wv.length<=10:=by rw[kD];exact aW.EC
 have T:mv.length<=5:=by rw[pC];exact aW.Y0
 left;calc L3 λd uy=>?_;have T6:=au.new (.dK []) uy;have ZF:upd H d (.dK []) d=some (.dK []):=af;generalize hGd:upd H d (.dK [])=C1 at *;left;calc bV ?_;left;calc da (T6 _ _ g1) (az (j:=1) rfl) ?_;left;calc .inl ⟨⟨_,aT.of (T6 _ _ g3)⟩,λx Bv=>?_⟩;calc rV (o:=.lst []) (T6 _ _ g3) Bv () (λ_=>Ext.set (Ext.refl _) rfl) (λ_ _ _ r=>And.intro ∅ r) ?_;intro A1 H1 l Tp Zk;have WU:=l;clear l;have fD1:C1 x=none:=Bv;left;generalize hC2:H1=C2 at *;have S2:=T6.trans Tp;have F0:=Tp _ _ ZF;have Zl:∀b o,b≠d->C1 b=some o->C2 b=some o:=λb o _ e=>Tp _ _ e;calc bV ?_;left;calc da (S2 _ _ g1) (az (j:=1) rfl) ?_;left;calc .inl ⟨⟨_,aT.of (S2 _ _ g3)⟩,λy T=>?_⟩;calc rV (o:=.lst []) (S2 _ _ g3) T () (λ_=>Ext.set (Ext.refl _) rfl) (λ_ _ _ r=>And.intro ∅ r) ?_;intro A2 H2 l RM Zm;have Tt:=l;clear l;have V6:C2 y=none:=T;left;have DE:H2 d=some (.dK []):=RM _ _ F0;calc⟨DE,[((Sum.inr "net":Key),V.ref I),((Sum.inr "put":Key),V.ref x),((Sum.inr "sender":Key),V.ref y)],rfl,nofun,?_⟩;have W:mJ [] ([((Sum.inr "net":Key),V.ref I),((Sum.inr "put":Key),V.ref x),((Sum.inr "sender":Key),V.ref y)]:List (Key×V))=[((Sum.inr "net":Key),V.ref I),((Sum.inr "put":Key),V.ref x),((Sum.inr "sender":Key),V.ref y)]:=by kernel_rfl
 rw[W];obtain⟨C3,T,OK,Ts,ke2⟩:=fX (d:=d) ([((Sum.inr "net":Key),V.ref I),((Sum.inr "put":Key),V.ref x),((Sum.inr "sender":Key),V.ref y)]) RM;rw[T];have S3:au H C3:=λb o e=>Ts b o (av e uy) (S2 _ _ e);clear T;clear DE W;left;refine bV ?_;left;refine da (S3 _ _ g1) (az (j:=1) rfl) ?_;left;refine .inl ⟨⟨_,aT.of (S3 _ _ g3)⟩,λM T=>?_⟩;refine rV (o:=.dK []) (S3 _ _ g3) T () (λ_=>Ext.set (Ext.refl _) rfl) (λ_ _ _ r=>r) ?_;intro A3 H3 l RN Zn;have Tz:=l;clear l;have V9:C3 M=none:=T;left;have DE:=RN _ _ OK;refine dy d _ rfl (uf.k (k:=Sum.inr "worker") DE (small nofun)) ?_;have W:putK ([((Sum.inr "net":Key),V.ref I),((Sum.inr "put":Key),V.ref x),((Sum.inr "sender":Key),V.ref y)]:List (Key×V)) (Sum.inr "worker":Key) (V.ref M)=[((Sum.inr "net":Key),V.ref I),((Sum.inr "put":Key),V.ref x),((Sum.inr "sender":Key),V.ref y),((Sum.inr "worker":Key),V.ref M)]:=by kernel_rfl
 rw[W];obtain⟨C4,T,Se,Tw,ke3⟩:=fX (d:=d) ([((Sum.inr "net":Key),V.ref I),((Sum.inr "put":Key),V.ref x),((Sum.inr "sender":Key),V.ref y),((Sum.inr "worker":Key),V.ref M)]) RN;rw[T];have S4:au H C4:=λb o e=>Tw b o (av e uy) (S3 _ _ e);clear T;clear DE W;left;refine bV ?_;left;refine da (S4 _ _ g1) (az (j:=0) rfl) ?_;left;refine .inl ⟨⟨_,aT.of (S4 _ _ g2)⟩,λR TF=>?_⟩;refine bE (J:=x6 K am) (n:=mv.length) (λi ys H'=>∃as:List Addr,ys=as.map V.ref/\au C4 H'/\qW C4 H' R as i (λj H' o=>∃v,o=.lst [v]/\HT H' 2 v (yC (g.ms.getD j default).ns (g.ms.getD j default).row))) (P' (small ())) ⟨[],rfl,au.new _ TF,qW.nil⟩ ?_ ?_ ?_ ?_
 ·rintro i ys H' hi ⟨_,_,X,_⟩;exact⟨_,mv[i],aT.of (X _ _ (S4 _ _ g2)),di hi⟩
 ·rintro ys H' ⟨_,_,X,_⟩;exact⟨_,aT.of (X _ _ (S4 _ _ g2)),K' _⟩
 ·intro i ys H' hi l hl yZ xx H4 y0;nofun;obtain⟨as,rfl,X,hL⟩:=yZ;obtain⟨rfl,hy⟩:=y0;ac_rfl;have ex:=hy _ (aT.of (X _ _ (S4 _ _ g2)));calc⟨Ext.set (Ext.refl _) rfl,?_⟩;left
  try rw[if_pos trivial]
  have MP:i<g.ms.length:=by lia
  obtain⟨mt,ln,lr,ld,xsd,rfl,m1,m2,m3,T,m5⟩:=h5.2 i xx _ ex (bq (d:=default) MP);have T:=(S4.trans X)
  calc da (T _ _ m1) (az (j:=1) rfl) ?_;left;calc .inl ⟨_,aT.of (T _ _ m2),λt1 Bn=>?_⟩;have r1:=au.new (.tup ((g.ms.getD i default).ns.map V.int)) Bn;calc da (r1 _ _ (T _ _ m1)) (az (j:=2) rfl) ?_;left;calc .inl ⟨_,aT.of (r1 _ _ (T _ _ m3)),λt2 qS=>?_⟩;have r2:=au.new (.tup ((g.ms.getD i default).row.map V.int)) qS;calc⟨cf,λt3 T=>?_⟩;have r3:=au.new (.tup [.ref t1,.ref t2]) T;have sP:=r1.trans (r2.trans r3);have Z:HT (upd (upd (upd H4 t1 (.tup ((g.ms.getD i default).ns.map V.int))) t2 (.tup ((g.ms.getD i default).row.map V.int))) t3 (.tup [.ref t1,.ref t2])) 2 (.ref t3) (yC (g.ms.getD i default).ns (g.ms.getD i default).row):=cR af (oJ (r3 _ _ (r2 _ _ af))) (oJ (r3 _ _ af));generalize hGP:upd (upd (upd H4 t1 (.tup ((g.ms.getD i default).ns.map V.int))) t2 (.tup ((g.ms.getD i default).row.map V.int))) t3 (.tup [.ref t1,.ref t2])=HP at *;have Fg:=sP _ _ l;left;calc⟨∅,λp hp=>?_⟩;have sN:=au.new (.lst [.ref t3]) hp;have Sf:=sN _ _ Fg;have nD:p≠R:=Ne.symm (av Fg hp);refine cD Sf hl hi (P' (small ())) ⟨as++[p],nofun,λb o e=>?_,?_⟩
  ·rw[ay (av e TF)];exact sN _ _ (sP _ _ (X _ _ e))
  ·refine hL.snoc X (by rw[l];simp) (sP.free hp) (o:=.lst [.ref t3]) ?_ ⟨_,rfl,Z.aK (λb xs e=>by rw[ay (λz=>by rw[z,Fg] at e;cases e)];calc sN _ _ e)⟩ (λb o nb e=>?_) (λj o ⟨v,e,h⟩=>⟨v,e,h.aK (λb xs e=>by rw[ay (λz=>by rw[z,l] at e;cases e)];calc sN _ _ (sP _ _ e))⟩)
   ·rw[ay nD];exact af
   ·rw[ay nb];exact sN _ _ (sP _ _ e)
 intro ys H4 l hl Bo;obtain⟨A4,rfl,Ov,Zo⟩:=Bo;have TJ:=l;clear l hl;have fD4:C4 R=none:=TF;left;have DE:=Ov _ _ Se;calc dy d _ rfl (uf.k (k:=Sum.inr "states") DE (small nofun)) ?_;have W:putK ([((Sum.inr "net":Key),V.ref I),((Sum.inr "put":Key),V.ref x),((Sum.inr "sender":Key),V.ref y),((Sum.inr "worker":Key),V.ref M)]:List (Key×V)) (Sum.inr "states":Key) (V.ref R)=[((Sum.inr "net":Key),V.ref I),((Sum.inr "put":Key),V.ref x),((Sum.inr "sender":Key),V.ref y),((Sum.inr "worker":Key),V.ref M),((Sum.inr "states":Key),V.ref R)]:=by kernel_rfl
 rw[W];obtain⟨C5,T,OL,TH,ke4⟩:=fX (d:=d) ([((Sum.inr "net":Key),V.ref I),((Sum.inr "put":Key),V.ref x),((Sum.inr "sender":Key),V.ref y),((Sum.inr "worker":Key),V.ref M),((Sum.inr "states":Key),V.ref R)]) Ov;rw[T];have S5:au H C5:=λb o e=>TH b o (av e uy) (S4 _ _ e);clear T;clear DE W;left;refine bV ?_;left;refine da (S5 _ _ g1) (az (j:=0) rfl) ?_;left;refine .inl ⟨⟨_,aT.of (S5 _ _ g2)⟩,λN CT=>?_⟩;refine bE (J:=x6 K am) (n:=mv.length) (λi ys H'=>∃as:List Addr,ys=as.map V.ref/\au C5 H'/\qW C5 H' N as i (λ_ H' o=>∃q,o=.lst [.ref q]/\H' q=some (.lst [])/\C5 q=none/\q≠N)) (P' (small ())) ⟨[],rfl,au.new _ CT,qW.nil⟩ ?_ ?_ ?_ ?_
 ·rintro i ys H' hi ⟨_,_,X,_⟩;exact⟨_,mv[i],aT.of (X _ _ (S5 _ _ g2)),di hi⟩
 ·rintro ys H' ⟨_,_,X,_⟩;exact⟨_,aT.of (X _ _ (S5 _ _ g2)),K' _⟩
 ·intro i ys H' hi l hl My xx H4 Rj;nofun;obtain⟨as,rfl,X,hL⟩:=My;obtain⟨rfl,hy⟩:=Rj;ac_rfl;have ex:=hy _ (aT.of (X _ _ (S5 _ _ g2)));calc⟨Ext.set (Ext.refl _) rfl,?_⟩;left
  try rw[if_pos trivial]
  calc⟨aab _,λqq hqq=>?_⟩;have sP:=au.new (.lst []) hqq;have XR:upd H4 qq (.lst []) qq=some (.lst []):=af;have nqD:qq≠N:=Ne.symm (av l hqq);generalize hGP:upd H4 qq (.lst [])=HP at *;have Fg:=sP _ _ l;left;calc⟨∅,λp hp=>?_⟩;have sN:=au.new (.lst [.ref qq]) hp;have Sf:=sN _ _ Fg;have nD:p≠N:=Ne.symm (av Fg hp);refine cD Sf hl hi (P' (small ())) ⟨as++[p],nofun,λb o e=>?_,?_⟩
  ·rw[ay (av e CT)];exact sN _ _ (sP _ _ (X _ _ e))
  ·refine hL.snoc X (by rw[l];simp) (sP.free hp) (o:=.lst [.ref qq]) ?_ ⟨qq,rfl,by rw[ay nqD];calc sN _ _ XR,X.free hqq,nqD⟩ (λb o nb e=>?_) (λj o ⟨T,e,h,h',h2⟩=>⟨T,e,by rw[ay h2];calc sN _ _ (sP _ _ h),h',h2⟩)
   ·rw[ay nD];exact af
   ·rw[ay nb];exact sN _ _ (sP _ _ e)
 intro ys H5 l hl Rl;obtain⟨A5,rfl,Ow,Zp⟩:=Rl;have TN:=l;clear l hl;have fD5:C5 N=none:=CT;left;have DE:=Ow _ _ OL;calc dy d _ rfl (uf.k (k:=Sum.inr "words") DE (small nofun)) ?_;have W:putK ([((Sum.inr "net":Key),V.ref I),((Sum.inr "put":Key),V.ref x),((Sum.inr "sender":Key),V.ref y),((Sum.inr "worker":Key),V.ref M),((Sum.inr "states":Key),V.ref R)]:List (Key×V)) (Sum.inr "words":Key) (V.ref N)=[((Sum.inr "net":Key),V.ref I),((Sum.inr "put":Key),V.ref x),((Sum.inr "sender":Key),V.ref y),((Sum.inr "worker":Key),V.ref M),((Sum.inr "states":Key),V.ref R),((Sum.inr "words":Key),V.ref N)]:=by kernel_rfl
 rw[W];obtain⟨C6,T,Sg,TM,ke5⟩:=fX (d:=d) ([((Sum.inr "net":Key),V.ref I),((Sum.inr "put":Key),V.ref x),((Sum.inr "sender":Key),V.ref y),((Sum.inr "worker":Key),V.ref M),((Sum.inr "states":Key),V.ref R),((Sum.inr "words":Key),V.ref N)]) Ow;rw[T];have X:au H C6:=λb o e=>TM b o (av e uy) (S5 _ _ e);clear T;clear DE W;left;refine bV ?_;left;refine da (X _ _ g1) (az (j:=0) rfl) ?_;left;refine .inl ⟨⟨_,aT.of (X _ _ g2)⟩,λD6 T=>?_⟩;refine rV (o:=.lst []) (X _ _ g2) T () (λ_=>Ext.set (Ext.refl _) rfl) (λ_ _ _ r=>And.intro ∅ r) ?_;intro A6 H6 l RO Zq;have TV:=l;clear l;have fD6:C6 D6=none:=T;left;have DE:=RO _ _ Sg;refine dy d _ rfl (uf.k (k:=Sum.inr "heard") DE (small nofun)) ?_;have W:putK ([((Sum.inr "net":Key),V.ref I),((Sum.inr "put":Key),V.ref x),((Sum.inr "sender":Key),V.ref y),((Sum.inr "worker":Key),V.ref M),((Sum.inr "states":Key),V.ref R),((Sum.inr "words":Key),V.ref N)]:List (Key×V)) (Sum.inr "heard":Key) (V.ref D6)=[((Sum.inr "net":Key),V.ref I),((Sum.inr "put":Key),V.ref x),((Sum.inr "sender":Key),V.ref y),((Sum.inr "worker":Key),V.ref M),((Sum.inr "states":Key),V.ref R),((Sum.inr "words":Key),V.ref N),((Sum.inr "heard":Key),V.ref D6)]:=by kernel_rfl
 rw[W];obtain⟨C7,l,T7,TU,ke6⟩:=fX (d:=d) ([((Sum.inr "net":Key),V.ref I),((Sum.inr "put":Key),V.ref x),((Sum.inr "sender":Key),V.ref y),((Sum.inr "worker":Key),V.ref M),((Sum.inr "states":Key),V.ref R),((Sum.inr "words":Key),V.ref N),((Sum.inr "heard":Key),V.ref D6)]) RO;rw[l];have S7:au H C7:=λb o e=>TU b o (av e uy) (X _ _ e);clear l;clear DE W;left;refine⟨aab _,λpe E4=>?_⟩;have sE7:=au.new (.lst []) E4;have adD:upd C7 pe (.lst []) pe=some (.lst []):=af;have npe:pe≠d:=Ne.symm (av T7 E4);generalize ake:upd C7 pe (.lst [])=E7 at *;refine dy d _ rfl (uf.k (k:=Sum.inr "events") (sE7 _ _ T7) (small nofun)) ?_;have W:putK ([((Sum.inr "net":Key),V.ref I),((Sum.inr "put":Key),V.ref x),((Sum.inr "sender":Key),V.ref y),((Sum.inr "worker":Key),V.ref M),((Sum.inr "states":Key),V.ref R),((Sum.inr "words":Key),V.ref N),((Sum.inr "heard":Key),V.ref D6)]:List (Key×V)) (Sum.inr "events":Key) (V.ref pe)=[((Sum.inr "net":Key),V.ref I),((Sum.inr "put":Key),V.ref x),((Sum.inr "sender":Key),V.ref y),((Sum.inr "worker":Key),V.ref M),((Sum.inr "states":Key),V.ref R),((Sum.inr "words":Key),V.ref N),((Sum.inr "heard":Key),V.ref D6),((Sum.inr "events":Key),V.ref pe)]:=by kernel_rfl
 rw[W];obtain⟨GF,l,edF,kd7,T⟩:=fX (d:=d) ([((Sum.inr "net":Key),V.ref I),((Sum.inr "put":Key),V.ref x),((Sum.inr "sender":Key),V.ref y),((Sum.inr "worker":Key),V.ref M),((Sum.inr "states":Key),V.ref R),((Sum.inr "words":Key),V.ref N),((Sum.inr "heard":Key),V.ref D6),((Sum.inr "events":Key),V.ref pe)]) sE7;rw[l];have epe:=T _ _ npe adD;have SF:au H GF:=λb o e=>kd7 b o (av e uy) (S7 _ _ e);clear l T;clear W;have L:∀(A:Hp) (kv:List (Key×V)) (b:Addr) (vs:List V),A d=some (.dK kv)->A b=some (.lst vs)->b≠d:=λA kv b vs S e2 z=>by rw[z,S]at e2;cases e2
 have ndk:∀(A:Hp) (p:Key×V) (kv:List (Key×V)) (b:Addr),A d=some (.dK (p::kv))->A b=some (.dK [])->b≠d:=λA p kv b S e2 z=>by rw[z,S]at e2;cases e2
 have Lb:∀(A:Hp) (kv:List (Key×V)) (b:Addr) (vs:List V),A d=some (.dK kv)->A b=some (.tup vs)->b≠d:=λA kv b vs S e2 z=>by rw[z,S]at e2;cases e2
 have kc7:=kd7;have ZH:∀b o,b≠d->C6 b=some o->GF b=some o:=λb o n e=>kc7 b o n (TU b o n e);have MQ:∀b o,b≠d->C5 b=some o->GF b=some o:=λb o n e=>ZH b o n (TM b o n e);have Ox:∀b o,b≠d->C4 b=some o->GF b=some o:=λb o n e=>MQ b o n (TH b o n e);have Oy:∀b o,b≠d->C3 b=some o->GF b=some o:=λb o n e=>Ox b o n (Tw b o n e);have RP:∀b o,b≠d->C2 b=some o->GF b=some o:=λb o n e=>Oy b o n (Ts b o n e);have XS:qW C1 C2 x A1 wv.length (λ_ _ o=>o=.lst []):=Zk;have JY:=WU;have XT:=XS.keep (λj b o e c=>by subst c;calc⟨RP b _ (L _ _ _ _ F0 e) e,rfl⟩);have XU:=RP _ _ (L _ _ _ _ F0 JY) JY;have XW:qW C2 C3 y A2 wv.length (λ_ _ o=>o=.lst []):=Zm.keep (λj b o e c=>by subst c;calc⟨ke2 b _ (L _ _ _ _ (RM _ _ F0) e) e,rfl⟩);have JZ:=ke2 _ _ (L _ _ _ _ (RM _ _ F0) Tt) Tt;have XX:=XW.keep (λj b o e c=>by subst c;calc⟨Oy b _ (L _ _ _ _ OK e) e,rfl⟩);have XY:=Oy _ _ (L _ _ _ _ OK JZ) JZ;have XZ:qW C3 C4 M A3 wv.length (λ_ _ o=>o=.dK []):=Zn.keep (λj b o e c=>by subst c;calc⟨ke3 b _ (ndk _ _ _ _ (RN _ _ OK) e) e,rfl⟩);have J0:=ke3 _ _ (L _ _ _ _ (RN _ _ OK) Tz) Tz;have X0:=XZ.keep (λj b o e c=>by subst c;calc⟨Ox b _ (ndk _ _ _ _ Se e) e,rfl⟩);have X1:=Ox _ _ (L _ _ _ _ Se J0) J0;have X2:qW C4 C5 R A4 mv.length (λj H' o=>∃v,o=.lst [v]/\HT H' 2 v (yC (g.ms.getD j default).ns (g.ms.getD j default).row)):=Zo.keep (λj b o e c=>by
  obtain⟨v,rfl,Z⟩:=c;calc⟨ke4 b _ (L _ _ _ _ (Ov _ _ Se) e) e,v,rfl,Z.aK (λb' xs e'=>ke4 b' _ (Lb _ _ _ _ (Ov _ _ Se) e') e')⟩)
 have J1:=ke4 _ _ (L _ _ _ _ (Ov _ _ Se) TJ) TJ;have X3:=X2.keep (λj b o e c=>by
  obtain⟨v,rfl,Z⟩:=c;calc⟨MQ b _ (L _ _ _ _ OL e) e,v,rfl,Z.aK (λb' xs e'=>MQ b' _ (Lb _ _ _ _ OL e') e')⟩)
 have X4:=MQ _ _ (L _ _ _ _ OL J1) J1;have xu:qW C5 C6 N A5 mv.length (λ_ H' o=>∃q,o=.lst [.ref q]/\H' q=some (.lst [])/\C5 q=none/\q≠N):=Zp.keep (λj b o e c=>by
  obtain⟨v,rfl,Z,R8,X5⟩:=c;calc⟨ke5 b _ (L _ _ _ _ (Ow _ _ OL) e) e,v,rfl,ke5 v _ (L _ _ _ _ (Ow _ _ OL) Z) Z,R8,X5⟩)
 have vL:=ke5 _ _ (L _ _ _ _ (Ow _ _ OL) TN) TN;have nn:∀{A:Hp} {b:Addr} {o:HO},A b=some o->A b≠none:=λe z=>by rw[e]at z;cases z
 have X6:qW C5 C6 N A5 mv.length (λ_ H' o=>∃q,o=.lst [.ref q]/\H' q=some (.lst [])/\C5 q=none/\C6 q≠none):=⟨xu.len,xu.nd,xu.new,λj a e=>by
  obtain⟨o,S,q,rfl,e2,l,_⟩:=xu.ins j a e;calc⟨_,S,q,rfl,e2,l,nn e2⟩⟩
 have Sh:=X6.keep (λj b o e c=>by
  obtain⟨v,rfl,Z,R8,X5⟩:=c;calc⟨ZH b _ (L _ _ _ _ Sg e) e,v,rfl,ZH v _ (L _ _ _ _ Sg Z) Z,R8,X5⟩)
 have X7:=ZH _ _ (L _ _ _ _ Sg vL) vL;have X8:qW C6 C7 D6 A6 mv.length (λ_ _ o=>o=.lst []):=Zq.keep (λj b o e c=>by subst c;calc⟨ke6 b _ (L _ _ _ _ (RO _ _ Sg) e) e,rfl⟩);have J2:=ke6 _ _ (L _ _ _ _ (RO _ _ Sg) TV) TV;have X9:=X8.keep (λj b o e c=>by subst c;calc⟨kc7 b _ (L _ _ _ _ T7 e) e,rfl⟩);have Ya:=kc7 _ _ (L _ _ _ _ T7 J2) J2;rw[kD]at XT;rw[kD]at XX;rw[kD]at X0;rw[pC]at X3;rw[pC]at Sh;rw[pC]at X9;obtain⟨ad,RJ⟩:∃ad:Nat->Nat->Addr,∀t i,ad t i=([[pe],A4,A5,A6,A1,A2,A3].getD t []).getD i 0:=⟨_,λ_ _=>rfl⟩
 have pz:∀{A B:Hp},(∀b o,b≠d->A b=some o->B b=some o)->∀{o},B d=some o->∀b,A b≠none->B b≠none:=λ{A B} h {o} e b hb=>by
  by_cases z:b=d
  ·rw[z,e];exact λz=>nomatch z
  ·cases S:A b with
   |none=>calc absurd S hb
   |some u=>rw[h b u z S];exact λz=>nomatch z
 have WN:∀a<7,∀b<7,[6,3,4,5,0,1,2].getD a 7=[6,3,4,5,0,1,2].getD b 7->a=b:=by decide
 obtain⟨bS,Om,hDo⟩:=Dw (F:=F) (G:=GF) (n:=g.n) (c:=(RS.new g).tv) (λt=>[C1,C2,C3,C4,C5,C6,C7].getD t GF) (λt=>[6,3,4,5,0,1,2].getD t 7) _ (λt=>[d,R,N,D6,x,y,M].getD t d) (λt=>[λ_ _ u=>u=.lst [],λj H' o=>∃v,o=.lst [v]/\HT H' 2 v (yC (g.ms.getD j default).ns (g.ms.getD j default).row),λ_ H' o=>∃q,o=.lst [.ref q]/\H' q=some (.lst [])/\C5 q=none/\C6 q≠none,λ_ _ o=>o=.lst [],λ_ _ o=>o=.lst [],λ_ _ o=>o=.lst []].getD t λ_ _ o=>o=.dK []) RJ (λ_=>rfl) (λt l h h'=>WN t () l ())
  (λt=>match t with
   |0=>pz Zl F0
   |1=>pz Ts OK
   |2=>pz Tw Se
   |3=>pz TH OL
   |4=>pz TM Sg
   |5=>pz TU T7
   |6=>pz kd7 edF
   | (t + 7)=>λb h=>h)
  (λb h=>by
   obtain⟨o,e,l⟩:=kF b h;calc⟨nn (T6 _ _ e),o,SF _ _ e,l⟩)
  (λt ht=>match t,ht with
   | 0,_=>⟨⟨rfl,nofun,λa m=>by rw[List.mem_singleton.mp m];exact⟨E4,Ne.symm (av T7 E4)⟩,λj a e=>by cases j with
    |zero=>cases e;calc⟨_,epe,rfl⟩
    | succ j=>cases e⟩,λa m=>by rw[List.mem_singleton.mp m];calc nn epe,λh=>absurd h ∅⟩
   |1,_=>⟨X3,X2.some,λ_=>⟨fD4,nn J1⟩⟩
   |2,_=>⟨Sh,xu.some,λ_=>⟨fD5,nn vL⟩⟩
   |3,_=>⟨X9,X8.some,λ_=>⟨fD6,nn J2⟩⟩
   |4,_=>⟨XT,XS.some,λ_=>⟨fD1,nn JY⟩⟩
   |5,_=>⟨XX,XW.some,λ_=>⟨V6,nn JZ⟩⟩
   |6,_=>⟨X0,XZ.some,λ_=>⟨V9,nn J0⟩⟩
   | (t + 7),h=>absurd h ())
  (λt i u ht h=>by
   match t,ht,h with
   |0,_,h|3,_,h|4,_,h|5,_,h|6,_,h=>cases h;trivial
   |1,_,⟨_,e,_⟩|2,_,⟨_,e,_⟩=>cases e;trivial
   | (t + 7),h,_=>calc absurd h ())
  (λhz fo t i u ht hi e h=>by
   match t,ht,h with
   |0,_,h|3,_,h|4,_,h|5,_,h=>cases h;calc(dQ.nil:dQ _ 4 [] [])
   |1,_,⟨v,e,Z⟩=>cases e;calc(dQ.one ((JB hz Z).mono ∅):dQ _ 4 [v] [_])
   |2,_,⟨v,e,Z,R8,X5⟩=>
    cases e;have nq:=fo 4 v R8 X5 (λt ht es m=>by
     have:=WN t () 2 () es;subst this;obtain⟨j,e⟩:=List.getElem?_of_mem m;obtain⟨_,S,q,rfl,_⟩:=Sh.ins j _ e;rw[Z] at S;cases S)
    show dQ (hJ (λb=>F b\/FP g.n ad b) GF) 4 [.ref v] [.lst []];calc dQ.one (.lst (by rw[fF nq];calc Z) rfl (λi u e Y=>by simp at Y))
   |6,_,h=>
    cases h;exact⟨aab _,λk=>by
     have S:kS ((RS.new g).ww i).dX k=none:=by
      show kS [] k=none;unfold kS;split<;>rfl
     rw[S];calc GV⟩
   | (t + 7),h,_=>calc absurd h ())
 have O:∀b,FP g.n ad b->H b=none:=λb hb=>T6.free (Om b hb).1;have nF:∀b,H b=none->¬F b:=λb e z=>by
  obtain⟨o,S,_⟩:=kF b z;rw[e]at S;cases S
 have hT:cj F GF d (.ref I) g (RS.new g) ad:=by
  refine⟨⟨λt=>[d,R,N,D6,x,y,M].getD t d,?_,nF d uy,λz=>nn ZF (Om d z).1,λt h1 h6=>?_⟩,bS,⟨ls,hN.cv ?_⟩,aW⟩
  ·rw[edF,K6,RJ];rfl
  ·obtain⟨k,l,u⟩:=hDo t h1 h6;calc⟨?_,k,l⟩;rw[<-u]
   match t,h1,h6 with
   |1,_,_=>calc X4
   |2,_,_=>calc X7
   |3,_,_=>calc Ya
   |4,_,_=>calc XU
   |5,_,_=>calc XY
   |6,_,_=>calc X1
   |(t+7),_,h=>exact absurd h ()
  ·intro b l e n;obtain⟨k,z2⟩:=cC e n;rw[fF]
   ·exact SF _ _ z2
   ·rintro(z | z)
    ·exact k z
    ·rw[O b z]at z2;cases z2
 have h7F:=h7.aK SF.aS;left;refine da (SF _ _ g1) (az (j:=2) rfl) (.inl ⟨⟨_,aT.of (SF _ _ g4)⟩,jI (K:=K) (xs:=lv) (λi σ H'=>(∃z2 z3,σ=[some (V.ref I),some (V.ref d),z2,z3])/\Fr (FP g.n ad) GF H'/\cj F H' d (.ref I) g ((RS.new g).kR (ls.take i)) ad) ?_ ?_ ?_ ?_⟩)
 ·exact⟨⟨_,_,rfl⟩,Fr.refl,hT⟩
 ·rintro i σ H' hi ⟨_,fi,_⟩;exact aT.of (fi.at (SF _ _ g4) (λz=>by rw[O _ z]at g4;cases g4))
 ·intro i z σ H' hzz adG;nofun;obtain⟨⟨z2,z3,rfl⟩,fi,DB⟩:=adG;have j:i < ls.length:=by rw[<-zh];exact(List.getElem?_eq_some_iff.mp hzz).1
  have k:ls[i]?=some ls[i]:=di j;have RH:=(h7F.2 i z (rm ls[i]) hzz (by rw[List.getElem?_map,k];rfl)).aK fi.aS;have JH:=vb _ (aaa j);have MN:(RS.new g).kR (ls.take (i+1))=((RS.new g).kR (ls.take i)).put ls[i].1.toNat ls[i].2 none:=by
   rw[List.take_succ,k];exact qi _
  have BI:=(rR (ls.take i) (BL aW)).mono (show _<=19998 by simp;lia);generalize ls[i]=p at *;obtain⟨U,px⟩:=p;obtain⟨tz,u1,u2,kz,rfl,FC,y1,y2⟩:=cw RH;obtain rfl:=y1.cy;obtain rfl:=y2.cy;have k:=JH.1;have j:=JH.2;simp only at k j;have ej:((U.toNat:Nat):Int)=U:=aa5 k;have rP:U.toNat<g.ws.length:=by lia
  generalize hri:(RS.new g).kR (ls.take i)=ri at *;ac_rfl;calc yS (bJ.of FC) ?_;nofun;obtain⟨l,XM,j,nPi,k⟩:=DB.dk;have j:=k 4 ∅ ∅;have XQ:=k 5 ∅ ∅;have l:=DB.bS;obtain⟨w4,x4,k⟩:=l.lst (t:=4) (i:=U.toNat) rP rfl;ac_rfl;have u:w4.length=(ri.ww U.toNat).say.length:=by simpa using k.1
  have k:=BI.bs _ rP;have k:=BI.ls _ rP;left;calc bL _ (uF XM) ?_;left;have k:hX (iz g.n ad 4) U=some (.ref (ad 4 U.toNat)):=by have:=aY (n:=g.n) (ad:=ad) (t:=4) rP;rw[ej]at this;exact this
  have rb:hX (iz g.n ad 5) U=some (.ref (ad 5 U.toNat)):=by have:=aY (n:=g.n) (ad:=ad) (t:=5) rP;rw[ej]at this;exact this
  calc aZ j.1 k ?_;calc⟨.inl ⟨rfl,_,aT.of x4⟩,?_⟩;left;calc hV w4 x4 (small ()) ?_;have bj:=l.app (t:=4) (i:=U.toNat) rP rfl x4 (dQ.one (.int px));have fj:Fr (FP g.n ad) H' (upd H' (ad 4 U.toNat) (.lst (w4++[.int px]))):=Fr.refl.upd ⟨4,U.toNat,rP,rfl⟩ x4 trivial;generalize hGj:upd H' (ad 4 U.toNat) (.lst (w4++[.int px]))=Hj at *;obtain⟨k,j,l⟩:=bj.lst (t:=5) (i:=U.toNat) rP rfl;have n:k.length=(ri.ww U.toNat).snd.length:=by simpa using l.1
  left;calc bL _ (MT (fj.at XM nPi)) ?_;left;calc aZ (fj.at XQ.1 XQ.2.2) rb ?_;calc⟨.inl ⟨rfl,_,aT.of j⟩,?_⟩;left;calc hV k j (small ()) ?_;have l:=bj.app (t:=5) (i:=U.toNat) rP rfl j (dQ.one (show HD _ 4 .bI (pB none) from .bI));have i:Fr (FP g.n ad) H' (upd Hj (ad 5 U.toNat) (.lst (k++[.bI]))):=fj.upd ⟨5,U.toNat,rP,rfl⟩ j trivial;left;calc iR ⟨_,_,rfl,rfl⟩ (fi.trans i) ?_;rw[MN];exact DB.own i (l.congr JT)
 ·intro σ H' adI;obtain⟨⟨z2,z3,rfl⟩,fi,DB⟩:=adI;left;rw[zh,List.take_length]at DB;calc q d ad H' (λb o e=>?_) O uy DB;calc fi.at (SF _ _ e) (λz=>by rw[O b z]at e;cases e)
abbrev jy:Stmt:=(bR (top 27)).getD 17 (.Pass ⟨0,0,0,0⟩)
def zN(C CN CR:Addr)(c:Nat->Addr):Sp:=λvs H Q E=>∃(F:Addr->Prop) (x bz:Addr) (nt:NT) (r:RS) (ad:Nat->Nat->Addr) (m k:Int),vs=[.ref x,.int m,.int k]/\bY C CN CR F H x bz nt r ad/\r.Ok nt/\(∀w i:Nat,m=w->k=i->w<nt.ws.length->i<(r.ww w).say.length->∀v,HT H 1 v (pB ((r.ww w).snd.getD i none))->Q v H)/\(¬Th nt r m k->∀a b H',au H H'->H' a=some (XO a (c 4) (some b) false)->H' b=some (XD b [("at",.int 0)])->E (.ref a) none H')
theorem uG(D:gj K CR "sent_by" "Run.sent_by" jy ["self","way","number"])(T:Tx K mg C CN CR F FD)(o:uo K mg B c)(I:dj P w K mg base CR "need_letter" 4 ["self","way","number","at"] (zC C CN CR c)):dj P w K mg base CR "sent_by" 5 ["self","way","number"] (zN C CN CR c):=by
 have sc:aE ["self","way","number"] ["self","way","number"] (aA jy):=by walk_at "s"
 walk_at "xf"
 ·obtain⟨F,x,bz,l,r,ad,m,k,rfl,g,u,q,v⟩:=h;rfl
 ·obtain⟨F,x,bz,l,r,ad,m,k,rfl,g,u,q,v⟩:=h;have o:=hr.units;refine⟨_,(aj (bW (il I g9 T.aR hr (aq 0) (ag (aq 1) (ag (aq 2) (ag ai aa)))))
   (ao (aH (ak o (ak o (bH (aq 0) rfl) (aq 1)) (aq 2))))),?_⟩
  obtain⟨y,o,z,J⟩:=g.ins;left;calc eD z (eE ⋯) ?_;calc⟨_,x,bz,l,r,ad,m,k,_,rfl,g,λb i n p j G=>?_,λL a y H' M n p=>v L a y H' M n p⟩;subst n p;left;have l:=(J 5 ∅ ∅).1;nofun;obtain⟨v,e,d⟩:=g.bS.lst (t:=5) (i:=b) j rfl;have g:i<(r.ww b).snd.length:=by rw[<-u.ls b j];exact G
  obtain⟨u,k,n⟩:=d.get (i:=i) (d:=pB ((r.ww b).snd.getD i none)) (by rw[List.getElem?_map,bq (d:=none) g];rfl);ac_rfl;calc fq z T.aR T.eZ Ww ?_;left;calc aZ l (aY j) ?_;calc aZ e (az k) ?_;calc q b i rfl rfl j G _ (Oe (n.cv dW))
abbrev gT:Stmt:=(bR (top 27)).getD 18 (.Pass ⟨0,0,0,0⟩)
def DG(C CN CR:Addr)(c:Nat->Addr):Sp:=λvs H Q E=>∃(F:Addr->Prop) (x bz:Addr) (nt:NT) (r:RS) (ad:Nat->Nat->Addr) (m k:Int),vs=[.ref x,.int m,.int k]/\bY C CN CR F H x bz nt r ad/\r.Ok nt/\(∀w i:Nat,m=w->k=i->w<nt.ws.length->i<(r.ww w).say.length->∀v,HT H 1 v (pB ((r.ww w).dX.getD i none))->Q v H)/\(¬Th nt r m k->∀a b H',au H H'->H' a=some (XO a (c 4) (some b) false)->H' b=some (XD b [("at",.int 0)])->E (.ref a) none H')
theorem rz(D:gj K CR "worked_by" "Run.worked_by" gT ["self","way","number"])(T:Tx K mg C CN CR F FD)(o:uo K mg B c)(I:dj P w K mg base CR "need_letter" 4 ["self","way","number","at"] (zC C CN CR c)):dj P w K mg base CR "worked_by" 5 ["self","way","number"] (DG C CN CR c):=by
 have sc:aE ["self","way","number"] ["self","way","number"] (aA gT):=by walk_at "s"
 walk_at "xf"
 ·obtain⟨F,x,bz,l,r,ad,m,k,rfl,g,u,q,v⟩:=h;rfl
 ·obtain⟨F,x,bz,l,r,ad,m,k,rfl,g,u,q,v⟩:=h;have o:=hr.units;refine⟨_,(aj (bW (il I g9 T.aR hr (aq 0) (ag (aq 1) (ag (aq 2) (ag ai aa)))))
   (ao (aH (ak o (ak o (bH (aq 0) rfl) (aq 1)) (aq 2))))),?_⟩
  obtain⟨y,o,z,J⟩:=g.ins;left;calc eD z (eE ⋯) ?_;calc⟨_,x,bz,l,r,ad,m,k,_,rfl,g,λb i n p j G=>?_,λL a y H' M n p=>v L a y H' M n p⟩;subst n p;left;have l:=(J 6 ∅ ∅).1;nofun;obtain⟨v,e,d⟩:=g.bS.lst (t:=6) (i:=b) j rfl;have g:i<(r.ww b).dX.length:=by rw[<-u.lk b j];exact G
  obtain⟨u,k,n⟩:=d.get (i:=i) (d:=pB ((r.ww b).dX.getD i none)) (by rw[List.getElem?_map,bq (d:=none) g];rfl);ac_rfl;calc fq z T.aR T.cU E3 ?_;left;calc aZ l (aY j) ?_;calc aZ e (az k) ?_;calc q b i rfl rfl j G _ (Oe (n.cv dW))
theorem zO{K:W.Frag}{H:Hp}{n:Nat}{x:V}{d:DV}(h:HD H n x d):∀{m:Nat}{y:V}{k:Nat},HD H m y d->tY d->n<k->kO K H k x y:=by
 induction h with
 |bI=>intro m y k h _ q;cases h;obtain⟨j,rfl⟩:∃j,k=j+1:=⟨k-1,()⟩;calc .inl ⟨rfl,rfl⟩
 |bl b=>intro m y k h c q;cases c
 |int i=>intro m y k h _ q;cases h;obtain⟨j,rfl⟩:∃j,k=j+1:=⟨k-1,()⟩;calc .inl ⟨rfl,rfl⟩
 |str i=>intro m y k h _ q;cases h;obtain⟨j,rfl⟩:∃j,k=j+1:=⟨k-1,()⟩;calc .inl ⟨rfl,rfl⟩
 | @tup n a t g e l i w=>
  intro m y k h c q;obtain⟨j,rfl⟩:∃j,k=j+1:=⟨k-1,()⟩
  cases c with
  |tup c=>
  cases h with
  | @tup m b ys _ z B C=>
   calc .inr ⟨a,b,t,ys,rfl,rfl,.inl ⟨bJ.of e,bJ.of z⟩,l.trans B.symm,λp u v r F=>?_⟩;have o:p<g.length:=by rw[<-l];exact(List.getElem?_eq_some_iff.mp r).1
   calc w p u g[p] r (di o) (C p v g[p] F (di o)) (c _ (aaa o)) ()
 | @lst n a t g e l i w=>
  intro m y k h c q;obtain⟨j,rfl⟩:∃j,k=j+1:=⟨k-1,()⟩
  cases c with
  |lst c=>
  cases h with
  | @lst m b ys _ z B C=>
   calc .inr ⟨a,b,t,ys,rfl,rfl,.inr ⟨aT.of e,aT.of z⟩,l.trans B.symm,λp u v r F=>?_⟩;have o:p<g.length:=by rw[<-l];exact(List.getElem?_eq_some_iff.mp r).1
   calc w p u g[p] r (di o) (C p v g[p] F (di o)) (c _ (aaa o)) ()
 |dict e=>intro m y k h c q;cases c
theorem J3(p:Int×Int):tY (pairD p):=.tup λe a=>by
 simp at a;rcases a with rfl|rfl<;>calc .int _
theorem Fh{α:Type}{l:List α}{f:α->Int×Int}:tY (.lst (l.map λx=>pairD (f x))):=.lst λe a=>by
 obtain⟨z,_,rfl⟩:=List.mem_map.mp a;calc J3 _
abbrev nH:Stmt:=top 74
def xD(c:Nat->Addr):Sp:=λvs H Q _=>∃(a d:Addr) (b:Nat) (e:Bool) (f:V),vs=[.ref a]/\H a=some (XO a (c b) (some d) e)/\H d=some (XD d [("at",f)])/\(b=4\/b=5)/\∀H',au H H'->Q (.str (if b=4 then "none" else "first")) H'
theorem BQ(D:dq K mg "_law_word" "_law_word" nH ["_law_e"])(T:Tx K mg C CN CR F FD)(b:uo K mg B c):Ig P w K mg base "_law_word" 1 ["_law_e"] (xD c):=by
 have y:aE ["_law_e","_law_others"] ["_law_e"] (aA nH):=by walk_at "s"
 refine D.okN y (λvs H Q E h=>?_) (λf eA A G s H vs Q E hr h=>?_)
 ·obtain⟨a,g,e,k,o8,rfl,U,W,l,q⟩:=h;rfl
 ·obtain⟨a,g,e,k,o8,rfl,U,W,l,q⟩:=h;have s:=hr.units;refine⟨_,(aj (ba (i:=1) y.nd rfl Sort (bb vm rfl T.aX ua (ag (aq 0) (ag (bA (ag (cA (v:=.ref (c 1)) rfl b.vn rfl) (ag (cA (v:=.ref (c 0)) rfl b.oP rfl) (ag (cA (v:=.ref (c 3)) rfl b.yH rfl) (ag (cA (v:=.ref (c 13)) rfl b.Ik rfl) (ag (cA (v:=.ref (c 6)) rfl b.vo rfl) (ag (cA (v:=.ref (c 18)) rfl b.yM rfl) (ag (cA (v:=.ref (c 7)) rfl b.vp rfl) (ag (cA (v:=.ref (c 10)) rfl b.yI rfl) (ag (cA (v:=.ref (c 11)) rfl b.qR rfl) aa)))))))))) aa))))
   (aj (ba (i:=1) y.nd rfl Sort (BZ (aq 1) (gK (bb vm rfl T.aX ua (ag (aq 0) (ag (bA (ag (cA (v:=.ref (c 15)) rfl b.yK rfl) (ag (cA (v:=.ref (c 17)) rfl b.yL rfl) (ag (cA (v:=.ref (c 16)) rfl b.CB rfl) (ag (cA (v:=.ref (c 2)) rfl b.yG rfl) (ag (cA (v:=.ref (c 14)) rfl b.oQ rfl) (ag (cA (v:=.ref (c 12)) rfl b.yJ rfl) (ag (cA (v:=.ref (c 8)) rfl b.sO rfl) (ag (cA (v:=.ref (c 9)) rfl b.vq rfl) aa))))))))) aa))))))
   (aj (aU (PW.pt (pw_or (bG (aq 1)) (pw_or (cL (bG (bb oG rfl T.aX ua (ag (aq 0) (ag (dC (v:=.ty "ValueError") rfl T.oV L9 rfl) aa))))) (pw_or1 (PW.pt (pw_and (bG (bb oG rfl T.aX ua (ag (aq 0) (ag (cA (v:=.ref (c 4)) rfl b.sM rfl) aa)))) (pw_and1 (bG (bb oG rfl T.aX ua (ag (aq 0) (ag (cA (v:=.ref (c 5)) rfl b.mO rfl) aa))))))))))) (ao (aH aD)) aJ)
   (ao (aH (ak s (bD (ag aD (ag aD aa))) (dG pJ rfl T.yT Yw (ag (bb oG rfl T.aX ua (ag (aq 0) (ag (cA (v:=.ref (c 5)) rfl b.mO rfl) aa))) aa)))))))),?_⟩
  have I:=U;have ZF:=W;generalize Zi:H=X at *;calc L2.bO λh Y=>?_;right;calc⟨by show 9<=sizeLine;decide,λu h=>?_⟩;have J:=au.new (.tup [.ref (c 1),.ref (c 0),.ref (c 3),.ref (c 13),.ref (c 6),.ref (c 18),.ref (c 7),.ref (c 10),.ref (c 11)]) h;have L:upd X u (.tup [.ref (c 1),.ref (c 0),.ref (c 3),.ref (c 13),.ref (c 6),.ref (c 18),.ref (c 7),.ref (c 10),.ref (c 11)]) u=some (.tup [.ref (c 1),.ref (c 0),.ref (c 3),.ref (c 13),.ref (c 6),.ref (c 18),.ref (c 7),.ref (c 10),.ref (c 11)]):=af;generalize Y6:upd X u (.tup [.ref (c 1),.ref (c 0),.ref (c 3),.ref (c 13),.ref (c 6),.ref (c 18),.ref (c 7),.ref (c 10),.ref (c 11)])=Z at *;have m:=J _ _ I;have n:=J _ _ ZF;calc⟨a,c e,B,some g,u,[1,0,3,13,6,18,7,10,11].map c,false,k,rfl,m,(λd z=>by cases z;calc⟨_,n⟩),b.cl e (),L,(wZ b () _ ∅).trans (by congr 1;rcases l with rfl|rfl<;>rfl),?_⟩;calc L2.bc Y ?_;clear Y;calc L2.bO λh h2=>?_;right
  try first|rw[if_neg Bool.false_ne_true]|skip
  calc⟨by show 8<=sizeLine;decide,λx h=>?_⟩;have M:=au.new (.tup [.ref (c 15),.ref (c 17),.ref (c 16),.ref (c 2),.ref (c 14),.ref (c 12),.ref (c 8),.ref (c 9)]) h;have N:upd Z x (.tup [.ref (c 15),.ref (c 17),.ref (c 16),.ref (c 2),.ref (c 14),.ref (c 12),.ref (c 8),.ref (c 9)]) x=some (.tup [.ref (c 15),.ref (c 17),.ref (c 16),.ref (c 2),.ref (c 14),.ref (c 12),.ref (c 8),.ref (c 9)]):=af;generalize Mp:upd Z x (.tup [.ref (c 15),.ref (c 17),.ref (c 16),.ref (c 2),.ref (c 14),.ref (c 12),.ref (c 8),.ref (c 9)])=O at *;have o:=M _ _ m;have p:=M _ _ n;calc⟨a,c e,B,some g,x,[15,17,16,2,14,12,8,9].map c,false,k,rfl,o,(λd z=>by cases z;calc⟨_,p⟩),b.cl e (),N,(wZ b () _ ∅).trans (by congr 1;rcases l with rfl|rfl<;>rfl),?_⟩;calc L2.bc h2 ?_;clear h2;calc L2.bO λh h3=>?_;calc L2.cW λh U0 hT hU=>?_;right;rw[if_neg Bool.false_ne_true];calc⟨a,c e,B,some g,_,true,k,rfl,o,(λd z=>by cases z;calc⟨_,p⟩),b.cl e (),.inr ⟨_,rfl⟩,QP b (),?_⟩;calc kT ?_;rw[if_neg ∅];calc⟨a,c e,B,some g,.ref (c 4),decide (e=4),k,rfl,o,(λd z=>by cases z;calc⟨_,p⟩),b.cl e (),.inl rfl,wY b () ∅,?_⟩;calc kT ?_;have xQ:=J.trans M;have r:U0 [some (V.ref a),some (V.bl false)] O:=by
   refine L2.bc hU ?_;right;refine L2.bc h3 ?_;right;refine⟨cf,λR h=>?_⟩;have S:=au.new (.lst [.str "none",.str "first"]) h;have t:upd O R (.lst [.str "none",.str "first"]) R=some (.lst [.str "none",.str "first"]):=af;generalize Oa:upd O R (.lst [.str "none",.str "first"])=G3 at *;have h:=S _ _ o;have OK:=S _ _ p;refine⟨a,c e,B,some g,.ref (c 5),decide (e=5),k,rfl,h,(λd z=>by cases z;exact⟨_,OK⟩),b.cl e (),.inl rfl,wY b () ∅,?_⟩;refine .inr ⟨_,rfl,?_⟩;have tm:=xQ.trans S;rcases l with rfl|rfl
   ·rw[if_neg ∅];calc aZ t (az (j:=0) rfl) ?_;exact q _ tm
   ·rw[if_pos ∅];calc aZ t (az (j:=1) rfl) ?_;exact q _ tm
  clear h3 hT hU;rcases l with rfl|rfl
  ·rw[if_pos ∅];calc⟨a,c 4,B,some g,.ref (c 5),decide (4=5),k,rfl,o,(λd z=>by cases z;calc⟨_,p⟩),b.cl 4 (),.inl rfl,wY b () ∅,?_⟩;calc kT ?_;rw[if_neg ∅];exact r
  ·rw[if_neg ∅,if_neg ∅];calc r
abbrev lG:Stmt:=top 75
inductive tS(C CN CR:Addr)(vs:List V)(H:Hp)(Q:VK):Prop
 |mk (F:Addr->Prop) (x bz:Addr) (nt:NT) (r:RS) (ad:Nat->Nat->Addr) (m k:Int) (h0:vs=[.ref x,.int m,.int k]) (h1:bY C CN CR F H x bz nt r ad) (h2:FS F H) (h3:r.Ok nt) (h5:r.picks.length<=400) (h6:∀w i:Nat,m=w->k=i->r.BD nt w i->∀t H',Fr (FP nt.n ad) H H'->bY C CN CR F H' x bz nt (r.pick nt w i) ad->HT H' 1 t (pairD (nt.ev r w))->Q t H') (h7:¬Lies nt r m k->∀t H',au H H'->HT H' 1 t (.tup [.str "none",.int 0])->Q t H') (h8:∀w i:Nat,m=w->k=i->w<nt.ws.length->(r.ww w).dX[i]?=some none->¬r.BD nt w i->∀t H',au H H'->HT H' 1 t (.tup [.str "first",.int 0])->Q t H'):tS C CN CR vs H Q
def DH(C CN CR:Addr):Sp:=λvs H Q _=>tS C CN CR vs H Q
theorem zP(D:dq K mg "_law_tried" "_law_tried" lG ["_law_run","_law_way","_law_number"])(T:Tx K mg C CN CR F FD)(e:uo K mg B c)(X:Ig P w K mg base "_law_word" 1 ["_law_e"] (xD c))(Y:dj P w K mg base CR "pick" 7 ["self","way","number"] (BJ C CN CR c)):Def P w K mg base "_law_tried" 8 ["_law_run","_law_way","_law_number"] (DH C CN CR):=by
 have sc:aE ["_law_run","_law_way","_law_number","_law_told","_law_e"] ["_law_run","_law_way","_law_number"] (aA lG):=by walk_at "s"
 symm;obtain⟨F,x,bz,J,r,ad,m,k,rfl,y,L,M,N,q,O,R⟩:=h;have o:=hr.units;refine⟨_,(aj (CJ (i:=4) rfl rfl sc.nd rfl rfl rfl e.mP (vv e.xb) (Mi (i:=3) sc.nd rfl Sort (pR Y T.aR hr (aq 0) (ag (aq 1) (ag (aq 2) aa)))) (λa=>
  (aj (ba (i:=3) sc.nd rfl Sort (bA (ag (Ih X (hr.mx a) (ag (aq 4) aa)) (ag (kq gL ai) aa))))
  (ao (aU (PW.pt (pw_and (aC (IG (K:=K) rfl o) (eQ (K:=K) rfl o (aq 3) ai) aD (aG _)) (pw_and1 (cL (bG (bb (pO (K:=K) rfl) rfl T.aX ua (ag (Bb (K:=K) rfl (aq 4)) (ag (dC (v:=.ty "bool") rfl T.Bh PyProof.Rows.boot_bool rfl) aa)))))))) (ao (ba (i:=3) sc.nd rfl Sort (bA (ag (eQ (K:=K) rfl o (aq 3) ai) (ag (Bb (K:=K) rfl (aq 4)) aa))))) aJ)))))
  (ao (aH (aq 3)))),?_⟩
 obtain⟨b,o,Z,T⟩:=y.ins;calc L2.bO λo S=>?_;calc CK λo T=>?_;have g:∀(d:Nat) (a b:Addr) (H2:Hp),(d=4\/d=5)->au H H2->H2 a=some (XO a (c d) (some b) false)->H2 b=some (XD b [("at",.int 0)])->(∀t H',au H H'->HT H' 1 t (.tup [.str (if d=4 then "none" else "first"),.int 0])->Q t H')->o (.ref a) none H2:=λd a b H2 z s2 u G qq=>by
  refine T a (c d) (some b) H2 u (e.cl d ()) ?_
  try dsimp only[List.set]
  right;calc⟨a,b,d,false,.int 0,rfl,u,G,z,λU s3=>⟨cf,λp hp=>?_⟩⟩;generalize I:(if d=4 then("none":Str) else "first")=l at *;have sk:¬l="other":=by rw[<-I];split<;>decide
  have s4:=au.new (.tup [.str l,.int (-1)]) hp;have W:upd U p (.tup [.str l,.int (-1)]) p=some (.tup [.str l,.int (-1)]):=af;generalize Y8:upd U p (.tup [.str l,.int (-1)])=G4 at *;have n:=s3.trans s4;calc da W (az (j:=0) rfl) ?_;right;rw[if_pos (by simpa using sk)];calc⟨a,c d,B,b,_,.int 0,false,rfl,n _ _ u,n _ _ G,e.cl d (),by rcases z with rfl|rfl;calc e.cI;calc e.cX,rfl,?_⟩;calc dy _ false (.int _) rfl ?_;rw[if_pos ∅];calc da W (az (j:=0) rfl) ?_;calc⟨a,c d,B,b,_,.int 0,false,rfl,n _ _ u,n _ _ G,e.cl d (),by rcases z with rfl|rfl;calc e.cI;calc e.cX,rfl,?_⟩;calc⟨cf,λo l=>?_⟩;calc L2.bc S ?_;right;exact qq _ _ (s2.trans (n.trans (au.new _ l))) (cR af (.str _) (.int _))
 right;calc eD Z (eE ⋯) ?_;exact⟨F,x,bz,J,r,ad,m,k,rfl,y,L,M,N,λw i d e n t H' f l o=>by
  calc L2.bc S ?_;right;calc q w i d e n t H' f l o,λu a b H' k d e=>g 4 a b H' (.inl rfl) k d e (O u),λw i d e l n o a b H' k q t=>g 5 a b H' (.inr rfl) k q t (R w i d e l n o)⟩
def uH(nt:NT)(r:RS)(m k:Int)(j:Nat):Prop:=if j<3 then ¬Th nt r m k else ¬(0<=m/\m<(nt.ws.length:Int))
structure T8(H:Hp)(v:V)(P:Prop):Prop where
 no:P->HT H 1 v (.tup [.str "none",.int 0])
 yes:¬P->v=.bI\/(∃i,v=.int i)\/(∃a xs,v=.ref a/\H a=some (.lst xs))\/∃a i j,v=.ref a/\H a=some (.tup [.int i,.int j])
structure uJ(nt:NT)(r:RS)(m k:Int)(H:Hp)(tl:Addr)(vs:List V)(i:Nat):Prop where
 len:vs.length=i
 ne:∀a,V.ref a∈vs->a≠tl
 ans:∀j v,vs[j]?=some v->T8 H v (uH nt r m k j)
theorem T8.mono{v:V}{P:Prop}(h:T8 H v P)(s:∀a o,v=.ref a->H a=some o->H' a=some o)(t:cm H H'):T8 H' v P:=
 ⟨λp=>(h.no p).aK t,λp=>by
  rcases h.yes p with e|e|⟨a,b,e,q⟩|⟨a,i,j,e,q⟩
  ·exact .inl e
  ·exact .inr (.inl e)
  ·exact .inr (.inr (.inl ⟨a,b,e,s _ _ e q⟩))
  ·calc .inr (.inr (.inr ⟨a,i,j,e,s _ _ e q⟩))⟩
theorem uJ.mono{nt:NT}{m k:Int}{b:Addr}{vs:List V}{i:Nat}(h:uJ nt r m k H b vs i)(s:∀a o,a≠b->H a=some o->H' a=some o)(t:cm H H'):uJ nt r m k H' b vs i:=
 ⟨h.len,h.ne,λj v b=>(h.ans j v b).mono (λa o e q=>s a o (h.ne a (by rw[<-e];calc aaf b)) q) t⟩
theorem uJ.snoc{nt:NT}{m k:Int}{d:Addr}{vs:List V}{i:Nat}(h:uJ nt r m k H d vs i){v:V}(n:∀a,v=.ref a->a≠d)(g:T8 H v (uH nt r m k i)):uJ nt r m k H d (vs++[v]) (i+1):=by
 refine⟨by rw[List.length_append,h.len];rfl,λa c=>?_,λj u b=>?_⟩
 ·rcases List.mem_append.mp c with c | c
  ·exact h.ne a c
  ·simp at c;exact n a c.symm
 by_cases z:j<vs.length
 ·rw[List.getElem?_append_left z]at b;exact h.ans j u b
 ·rw[List.getElem?_append_right ()]at b;have e:j-vs.length=0:=by
   cases c:j-vs.length with
   |zero=>rfl
   |succ n=>rw[c]at b;simp at b
  rw[e]at b;obtain rfl:=Option.some.inj b;have:j=i:=by have:=h.len;lia
  subst this;calc g
theorem OM{H:Hp}{v:V}{e:Option (Int×Int)}(h:HT H 1 v (pB e)){c:Addr}{vs:List V}(ev:H c=some (.lst vs)):∀a,v=.ref a->a≠c:=λa f z=>by
 subst f z
 cases e with
 |none=>
  have h:HT H 1 (.ref a) .bI:=h
  cases h
 |some p=>
  obtain⟨b,c,f,k,g,d,_,_⟩:=cw h
  cases g;rw[ev]at d;cases d
theorem J4{H:Hp}{v:V}{e:Option (Int×Int)}(h:HT H 1 v (pB e)):v=.bI\/(∃i,v=.int i)\/(∃a xs,v=.ref a/\H a=some (.lst xs))\/∃a i j,v=.ref a/\H a=some (.tup [.int i,.int j]):=by
 cases e with
 |none=>
  have h:HT H 1 v .bI:=h
  cases h;calc .inl rfl
 |some p=>
  obtain⟨b,i,j,k,c,d,f,g⟩:=cw h;obtain rfl:=f.cy;obtain rfl:=g.cy;calc .inr (.inr (.inr ⟨b,_,_,c,d⟩))
abbrev lH:Stmt:=top 78
def DI(C CN CR:Addr):Sp:=λvs H Q _=>∃(F:Addr->Prop) (x bz:Addr) (nt:NT) (r:RS) (ad:Nat->Nat->Addr) (m k:Int),vs=[.ref x,.int m,.int k]/\bY C CN CR F H x bz nt r ad/\r.Ok nt/\r.picks.length<=400/\∀l vs H',au H H'->H l=none->H' l=some (.lst vs)->uJ nt r m k H' l vs 5->Q (.ref l) H'
theorem zQ(D:dq K mg "_law_asked" "_law_asked" lH ["_law_run","_law_way","_law_number"])(T:Tx K mg C CN CR F FD)(TX:uo K mg B c)(gz:Ig P w K mg base "_law_word" 1 ["_law_e"] (xD c))(fP:dj P w K mg base CR "lying" 4 ["self","way"] (JD C CN CR c))(iG:dj P w K mg base CR "put_many" 4 ["self","way"] (Oh C CN CR c))(nI:dj P w K mg base CR "said" 5 ["self","way","number"] (Ds C CN CR c))(jz:dj P w K mg base CR "sent_by" 5 ["self","way","number"] (zN C CN CR c))(gU:dj P w K mg base CR "worked_by" 5 ["self","way","number"] (DG C CN CR c)):Def P w K mg base "_law_asked" 6 ["_law_run","_law_way","_law_number"] (DI C CN CR):=by
 have sc:aE ["_law_run","_law_way","_law_number","_law_told","_law_k","_law_e"] ["_law_run","_law_way","_law_number"] (aA lH):=by walk_at "s"
 symm;obtain⟨F,x,bz,R,r,ad,m,k,rfl,Z,eI,qU,q⟩:=h;have j:=hr.units;refine⟨_,(aj (ba (i:=3) sc.nd rfl Sort (bD aa))
  (aj (fg PassesOwn.never rfl (cP rfl T.dY (ag ai aa)) (bf (i:=4) sc.nd rfl Sort)
  (ao (CJ (i:=5) rfl rfl sc.nd rfl rfl rfl TX.mP (vv TX.xb) (xc (aC (aV j) (aq 4) ai (aG _)) (gJ (kP (sS ma og oh bN (aq 3) (pR jz T.aR hr (aq 0) (ag (aq 1) (ag (aq 2) aa)))))) (gJ (xc (aC (aV j) (aq 4) ai (aG _)) (gJ (kP (sS ma og oh bN (aq 3) (pR gU T.aR hr (aq 0) (ag (aq 1) (ag (aq 2) aa)))))) (gJ (xc (aC (aV j) (aq 4) ai (aG _)) (gJ (kP (sS ma og oh bN (aq 3) (pR nI T.aR hr (aq 0) (ag (aq 1) (ag (aq 2) aa)))))) (gJ (xc (aC (aV j) (aq 4) ai (aG _)) (gJ (kP (sS ma og oh bN (aq 3) (pR fP T.aR hr (aq 0) (ag (aq 1) aa))))) (gJ (kP (sS ma og oh bN (aq 3) (pR iG T.aR hr (aq 0) (ag (aq 1) aa)))))))))))) (λa=>
  (ao (bW (Q3 (K:=K) rfl ma og oh bN (aq 3) (ag (bA (ag (Ih gz (hr.mx a) (ag (aq 5) aa)) (ag (Bb (K:=K) rfl (aq 5)) aa))) aa))))))))
  (ao (aH (aq 3))))),?_⟩
 obtain⟨u,o,hx,j⟩:=Z.ins;calc L2.bO λj S=>?_;right;calc⟨aab _,λl htl=>?_⟩;have s0:=au.new (.lst []) htl;have etl:upd H l (.lst []) l=some (.lst []):=af;generalize Zi:upd H l (.lst [])=G0 at *;calc L2.bc S ?_;clear S;calc L2.bO λN2 Y=>?_;right;refine⟨_,rfl,∅,∅,gm (n:=5) (λi σ H'=>(∃z4 z5,σ=[some (V.ref x),some (.int m),some (.int k),some (V.ref l),z4,z5])/\au H H'/\∃vs,H' l=some (.lst vs)/\uJ R r m k H' l vs i) ?_ ?_ ?_⟩
 ·exact⟨⟨_,_,rfl⟩,s0,[],etl,⟨rfl,λa h=>by simp at h,λj v h=>by simp at h⟩⟩
 ·intro i σ H1 hi iS;obtain⟨⟨z4,z5,rfl⟩,y,vs,G,hA⟩:=iS;clear Y;rw[Int.zero_add];dsimp only[fK,List.set];calc CK λEE ZI=>?_;have I:∀(H2:Hp) (v:V) (j:Option V),au H1 H2->(∀a,v=.ref a->a≠l)->T8 H2 v (uH R r m k i)->∃T,H2 l=some (.lst T)/\T.length<sizeLine/\(∃z4 adM,some (V.int ((i:Nat):Int))=z4/\j=adM)/\au H (upd H2 l (.lst (T++[v])))/\∃vs,upd H2 l (.lst (T++[v])) l=some (.lst vs)/\uJ R r m k (upd H2 l (.lst (T++[v]))) l vs (i+1):=λH2 v j U hn hv=>by
   have ev2:=U _ _ G;have tp:cm H2 (upd H2 l (.lst (vs++[v]))):=λb xs' q'=>by
    rw[ay (λz=>by rw[z,ev2]at q';cases q')];exact q'
   have j:∀a o,a≠l->H2 a=some o->upd H2 l (.lst (vs++[v])) a=some o:=λa o n e=>by rw[ay n];exact e
   calc⟨vs,ev2,small (by have:=hA.len;lia),⟨_,_,rfl,rfl⟩,λb o e=>by rw[ay (av e htl)];calc(y.trans U) _ _ e,_,af,?_⟩;exact uJ.snoc (hA.mono (λa o n e=>j a o n (U _ _ e)) (λb xs' q'=>tp _ _ (U _ _ q'))) hn (hv.mono (λa o e q=>j a o (hn a e) q) tp)
  have O:∀(a u:Addr) (H2:Hp),au H1 H2->H2 a=some (XO a (c 4) (some u) false)->H2 u=some (XD u [("at",.int 0)])->uH R r m k i->EE (.ref a) none H2:=λa u H2 U J N t=>by
   refine ZI a (c 4) (some u) H2 J (TX.cl 4 ∅) ?_
   try dsimp only[List.set]
   right;refine⟨.inl ⟨rfl,_,aT.of (U _ _ G)⟩,?_⟩;refine VG a u 4 false (.int 0) rfl J N (.inl rfl) (λl j=>?_);refine⟨a,c 4,B,u,_,.int 0,false,rfl,j _ _ J,j _ _ N,TX.cl 4 ∅,TX.cI,rfl,?_⟩;refine⟨cf,λp n=>?_⟩;have o:=au.new (.tup [.str "none",.int 0]) n;have ep:upd l p (.tup [.str "none",.int 0]) p=some (.tup [.str "none",.int 0]):=af;have Ye:=U.trans (j.trans o);refine I _ (.ref p) _ Ye (λb z e=>?_) ⟨λ_=>cR ep (.str _) (.int _),λh=>absurd t h⟩
   cases z;have:=Ye _ _ G;rw[<-e,ep]at this;cases this
  clear ZI;obtain rfl|rfl|rfl|rfl|rfl:i=0\/i=1\/i=2\/i=3\/i=4:=by lia
  ·calc L2.cW λL M g d=>?_;right;rw[if_pos ∅];calc L2.bc g ?_;clear g d;right;calc⟨.inl ⟨rfl,_,aT.of G⟩,?_⟩;calc eD (y _ _ hx) (eE ⋯) ?_;exact⟨_,x,bz,R,r,ad,m,k,rfl,Z.same y,eI,λw i0 e1 e2 S Y v hv=>I H1 v _ (au.refl _) (OM hv G) ⟨λt=>by unfold uH at t;rw[if_pos ∅]at t;calc absurd ⟨w,i0,e1,e2,S,Y⟩ t,λ_=>J4 hv⟩,λW a u H' X J N=>O a u H' X J N (by unfold uH;rw[if_pos ∅];calc W)⟩
  ·calc L2.cW λL M g d=>?_;right;rw[if_neg ∅];calc L2.bc d ?_;clear g d;calc L2.cW λL M g d=>?_;right;rw[if_pos ∅];calc L2.bc g ?_;clear g d;right;calc⟨.inl ⟨rfl,_,aT.of G⟩,?_⟩;calc eD (y _ _ hx) (eE ⋯) ?_;exact⟨_,x,bz,R,r,ad,m,k,rfl,Z.same y,eI,λw i0 e1 e2 S Y v hv=>I H1 v _ (au.refl _) (OM hv G) ⟨λt=>by unfold uH at t;rw[if_pos ∅]at t;calc absurd ⟨w,i0,e1,e2,S,Y⟩ t,λ_=>J4 hv⟩,λW a u H' X J N=>O a u H' X J N (by unfold uH;rw[if_pos ∅];calc W)⟩
  ·calc L2.cW λL M g d=>?_;right;rw[if_neg ∅];calc L2.bc d ?_;clear g d;calc L2.cW λL M g d=>?_;right;rw[if_neg ∅];calc L2.bc d ?_;clear g d;calc L2.cW λL M g d=>?_;right;rw[if_pos ∅];calc L2.bc g ?_;clear g d;right;calc⟨.inl ⟨rfl,_,aT.of G⟩,?_⟩;calc eD (y _ _ hx) (eE ⋯) ?_;exact⟨_,x,bz,R,r,ad,m,k,rfl,Z.same y,λw i0 e1 e2 S Y=>I H1 _ _ (au.refl _) (λa z=>by cases z) ⟨λt=>by unfold uH at t;rw[if_pos ∅]at t;calc absurd ⟨w,i0,e1,e2,S,Y⟩ t,λ_=>.inr (.inl ⟨_,rfl⟩)⟩,λW a u H' X J N=>O a u H' X J N (by unfold uH;rw[if_pos ∅];calc W)⟩
  ·calc L2.cW λL M g d=>?_;right;rw[if_neg ∅];calc L2.bc d ?_;clear g d;calc L2.cW λL M g d=>?_;right;rw[if_neg ∅];calc L2.bc d ?_;clear g d;calc L2.cW λL M g d=>?_;right;rw[if_neg ∅];calc L2.bc d ?_;clear g d;calc L2.cW λL M g d=>?_;right;rw[if_pos ∅];calc L2.bc g ?_;clear g d;right;calc⟨.inl ⟨rfl,_,aT.of G⟩,?_⟩;calc eD (y _ _ hx) (eE ⋯) ?_;exact⟨_,x,bz,R,r,ad,m,rfl,Z.same y,eI,qU,λw e1 S l ys H2 U hl Ab _=>I H2 _ _ U (λa z e=>by cases z;rw[e]at hl;rw[G]at hl;cases hl) ⟨λt=>by unfold uH at t;rw[if_neg ∅]at t;calc absurd ⟨(),()⟩ t,λ_=>.inr (.inr (.inl ⟨_,_,rfl,Ab⟩))⟩,λW a u H' X J N=>O a u H' X J N (by unfold uH;rw[if_neg ∅];calc W)⟩
  ·calc L2.cW λL M g d=>?_;right;rw[if_neg ∅];calc L2.bc d ?_;clear g d;calc L2.cW λL M g d=>?_;right;rw[if_neg ∅];calc L2.bc d ?_;clear g d;calc L2.cW λL M g d=>?_;right;rw[if_neg ∅];calc L2.bc d ?_;clear g d;calc L2.cW λL M g d=>?_;right;rw[if_neg ∅];calc L2.bc d ?_;clear g d;right;calc⟨.inl ⟨rfl,_,aT.of G⟩,?_⟩;calc eD (y _ _ hx) (eE ⋯) ?_;exact⟨_,x,bz,R,r,ad,m,rfl,Z.same y,λw e1 S=>I H1 _ _ (au.refl _) (λa z=>by cases z) ⟨λt=>by unfold uH at t;rw[if_neg ∅]at t;calc absurd ⟨(),()⟩ t,λ_=>.inr (.inl ⟨_,rfl⟩)⟩,λW a u H' X J N=>O a u H' X J N (by unfold uH;rw[if_neg ∅];calc W)⟩
 ·intro σ H1 jc;obtain⟨⟨z4,z5,rfl⟩,y,vs,G,hA⟩:=jc;show N2 _ _;calc L2.bc Y ?_;right;calc q _ _ _ y htl G hA
structure Fi(C CN CR:Addr)(F1 F2:Addr->Prop)(H:Hp)(x bz d:Addr)(tn:V)(nt:NT)(r:RS)(zR Ai:Nat->Nat->Addr):Prop where
 run:bY C CN CR F1 H x bz nt r zR
 twin:cj F2 H d tn nt r Ai
 ok:r.Ok nt
 xS:r.picks.length<=400
theorem Fi.same{C CN CR:Addr}{a b:Addr->Prop}{x d:Addr}{c:V}{nt:NT}{e f:Nat->Nat->Addr}(h:Fi C CN CR a b H x bz d c nt r e f)(s:au H H'):Fi C CN CR a b H' x bz d c nt r e f:=⟨h.run.same s,h.twin.same s,h.ok,h.xS⟩
abbrev e9:Stmt:=top 79
inductive J5(C CN CR:Addr)(vs:List V)(H:Hp)(Q:VK):Prop
 |mk (F1 F2:Addr->Prop) (x bz d:Addr) (tn:V) (nt:NT) (r:RS) (zR Ai:Nat->Nat->Addr) (m k:Int) (h0:vs=[.ref x,.ref d,.int m,.int k]) (h1:Fi C CN CR F1 F2 H x bz d tn nt r zR Ai) (h4:∀H',au H H'->Q (.bl true) H'):J5 C CN CR vs H Q
def J6(C CN CR:Addr):Sp:=λvs H Q _=>J5 C CN CR vs H Q
theorem lI(D:dq K mg "_law_refusals_right" "_law_refusals_right" e9 ["_law_run","_law_twin","_law_way","_law_number"])(T:Tx K mg C CN CR F FD)(lJ:Def P w K mg base "_law_asked" 6 ["_law_run","_law_way","_law_number"] (DI C CN CR)):Def P w K mg base "_law_refusals_right" 7 ["_law_run","_law_twin","_law_way","_law_number"] (J6 C CN CR):=by
 have sc:aE ["_law_run","_law_twin","_law_way","_law_number","_law_told","_law_no_way","_law_no_put","_law_k"] ["_law_run","_law_twin","_law_way","_law_number"] (aA e9):=by walk_at "s"
 symm;obtain⟨F1,F2,x,bz,d,tn,o,r,zR,l,m,k,rfl,G,q⟩:=h;have c:=hr.units;refine⟨_,(aj (ba (i:=4) sc.nd rfl Sort (aN lJ hr (ag (aq 0) (ag (aq 2) (ag (aq 3) aa)))))
  (aj (ba (i:=5) sc.nd rfl Sort (BZ (fA fm (aq 2) ai (aG _)) (gK (fA wH (aq 2) (bb aM rfl T.bX S' (ag (ak c (aq 1) aD) aa)) (aG _)))))
  (aj (ba (i:=6) sc.nd rfl Sort (BZ (aq 5) (BZ (fA fm (aq 3) ai (aG _)) (gK (fA wH (aq 3) (bb aM rfl T.bX S' (ag (ak c (ak c (aq 1) aD) (aq 2)) aa)) (aG _))))))
  (aj (fg PassesOwn.never rfl (cP rfl T.dY (ag ai aa)) (bf (i:=7) sc.nd rfl Sort)
  (ao (aU (aC (eR c) (fA (Mj c) (ak c (aq 4) (aq 7)) (bA (ag aD (ag ai aa))) (aG _)) (ak c (bD (ag (aq 6) (ag (aq 6) (ag (aq 6) (ag (aq 5) (ag (aq 5) aa)))))) (aq 7)) (aG _)) (ao (aH iW)) aJ)))
  (ao (aH iW)))))),?_⟩
 obtain⟨o',hd,nF,nP,T⟩:=G.twin.dk;have l4:=(T 4 ∅ ∅).1;have J:(iz o.n l 4).length=o.ws.length:=jQ;calc L2.bO λl T=>?_;right;calc⟨_,x,bz,o,r,zR,m,k,rfl,G.run,G.ok,G.xS,λl vs H1 I hl FN hA=>?_⟩;calc L2.bc T ?_;clear T;calc L2.bO λN2 N=>?_;have w2:∀b:Bool,(b=true↔¬(0<=m/\m<(o.ws.length:Int)))->N2 [some (V.ref x),some (V.ref d),some (V.int m),some (V.int k),some (V.ref l),some (V.bl b),none,none] H1:=λb O=>by
  calc L2.bc N ?_;clear N;calc L2.bO λT X=>?_;have Y:∀y:Bool,(y=true↔¬Th o r m k)->T [some (V.ref x),some (V.ref d),some (V.int m),some (V.int k),some (V.ref l),some (V.bl b),some (V.bl y),none] H1:=λy Z=>by
   calc L2.bc X ?_;clear X;calc L2.bO λN4 h4=>?_;right;refine⟨_,rfl,∅,∅,gm (n:=5) (λi σ H'=>(∃z7,σ=[some (V.ref x),some (V.ref d),some (V.int m),some (V.int k),some (V.ref l),some (V.bl b),some (V.bl y),z7])/\au H1 H') ?_ ?_ ?_⟩
   ·exact⟨⟨_,rfl⟩,au.refl _⟩
   ·intro i σ H2 hi iS;obtain⟨⟨z7,rfl⟩,R⟩:=iS;clear h4;rw[Int.zero_add];right;obtain⟨v,g⟩:∃v,vs[i]?=some v:=⟨_,di (by rw[hA.len];calc hi)⟩
    have ha:=hA.ans i v g;calc aZ (R _ _ FN) (az g) ?_;calc⟨cf,λp l=>?_⟩;have s3:=au.new (.tup [.str "none",.int 0]) l;have L:upd H2 p (.tup [.str "none",.int 0]) p=some (.tup [.str "none",.int 0]):=af;generalize Oa:upd H2 p (.tup [.str "none",.int 0])=G3 at *;have S:=R.trans s3;obtain⟨B,M,ef⟩:∃B:Bool,(B=true↔uH o r m k i)/\hX [V.bl y,.bl y,.bl y,.bl b,.bl b] ((i:Nat):Int)=some (.bl B):=by
     obtain rfl|rfl|rfl|rfl|rfl:i=0\/i=1\/i=2\/i=3\/i=4:=by lia
     ·exact⟨y,by unfold uH;rw[if_pos ∅];calc Z,az (j:=0) rfl⟩
     ·exact⟨y,by unfold uH;rw[if_pos ∅];calc Z,az (j:=1) rfl⟩
     ·exact⟨y,by unfold uH;rw[if_pos ∅];calc Z,az (j:=2) rfl⟩
     ·exact⟨b,by unfold uH;rw[if_neg ∅];calc O,az (j:=3) rfl⟩
     ·exact⟨b,by unfold uH;rw[if_neg ∅];calc O,az (j:=4) rfl⟩
    refine⟨p,B,rfl,⟨by show 5<=sizeLine;decide,λx l=>?_⟩,?_⟩
    ·calc aZ af ef ?_;calc⟨rfl,?_⟩;calc kT ?_;rw[if_neg nofun];exact⟨⟨_,rfl⟩,S.trans (au.new _ l)⟩
    ·by_cases U:uH o r m k i
     ·nofun;obtain rfl:B=true:=M.mpr U;obtain⟨a,u1,u2,k1,rfl,Mh,g1,g2⟩:=cw ((ha.no U).aK S.aS);obtain rfl:=g1.cS;obtain rfl:=g2.cy;ac_rfl;calc .inr ⟨a,rfl,_,_,λ_=>true,.inl ⟨bJ.of Mh,bJ.of L⟩,λj u v c g=>?_,nofun⟩;rw[c] at g;cases g
      match j,c with
      |0,c=>cases c;calc .inr (.inl ⟨rfl,rfl,by simp[xN]⟩)
      |1,c=>cases c;calc .inr (.inl ⟨rfl,rfl,by simp[xN]⟩)
      |(n+2),c=>simp at c
     ·obtain rfl:B=false:=by cases B with | false=>rfl | true=>exact absurd (M.mp rfl) U
      rcases ha.yes U with rfl|⟨i',rfl⟩|⟨a,xs,rfl,q'⟩|⟨a,i1,j1,rfl,q'⟩
      ·exact .inl ⟨rfl,⟨_,bJ.of L⟩,.inl rfl⟩
      ·exact .inl ⟨rfl,⟨_,bJ.of L⟩,.inr (.inl ⟨_,rfl⟩)⟩
      ·exact .inl ⟨rfl,⟨_,bJ.of L⟩,.inr (.inr ⟨_,_,rfl,aT.of (S _ _ q')⟩)⟩
      ·refine .inr ⟨a,rfl,_,_,λj=>if j=0 then false else xN (.int j1) (.int 0),.inl ⟨bJ.of (S _ _ q'),bJ.of L⟩,λj u v c g=>?_,by simp[List.range_succ]⟩
       match j,c,g with
       |0,c,g=>cases c;cases g;calc .inr (.inl ⟨rfl,rfl,by simp[xN]⟩)
       |1,c,g=>cases c;cases g;calc .inr (.inl ⟨rfl,rfl,nofun⟩)
       |(n+2),c,g=>simp at c
   ·intro σ H2 jc;obtain⟨⟨z7,rfl⟩,R⟩:=jc;show N4 _ _;calc L2.bc h4 ?_;right;exact q _ (I.trans R)
  clear X;right;by_cases W:b=true
  ·rw[if_pos W];exact Y true ⟨λ_ ⟨w,i,e,_,h,_⟩=>O.mp W ⟨(),()⟩,λ_=>rfl⟩
  ·rw[if_neg W];have zB:0<=m/\m < (o.ws.length:Int):=Classical.byContradiction λz=>W (O.mpr z);obtain⟨w,rfl⟩:=Y' zB.1;have hw:w < o.ws.length:=by lia
   by_cases c:k<0
   ·rw[if_pos (by simpa using c)];exact Y true ⟨λ_ ⟨w',i,_,e,_,_⟩=>by lia,λ_=>rfl⟩
   ·rw[if_neg (by simpa using c)];obtain⟨g,j,l⟩:=(G.same I).twin.bS.lst (t:=4) (i:=w) hw rfl;have c:g.length=(r.ww w).say.length:=by simpa using l.1
    calc bL _ (uF (I _ _ hd)) ?_;calc aZ (I _ _ l4) (aY hw) ⟨_,.inl ⟨_,aT.of j,rfl⟩,?_⟩;rw[c];calc Y _ ?_;rw[decide_eq_true_eq];refine⟨λh ⟨w',i,g,l,_,N⟩=>?_,λh=>?_⟩
    ·obtain rfl:w=w':=by lia
     lia
    ·refine Classical.byContradiction λz=>h ⟨w,k.toNat,rfl,(),hw,()⟩
 clear N;right;by_cases c:m<0
 ·rw[if_pos (by simpa using c)];exact w2 true ⟨λ_ h=>by lia,λ_=>rfl⟩
 ·rw[if_neg (by simpa using c)];calc⟨_,uF (I _ _ hd),_,.inl ⟨_,aT.of (I _ _ l4),rfl⟩,?_⟩;rw[J];calc w2 _ (by rw[decide_eq_true_eq];lia)
theorem J7{l:List Nat}{k:Int}:yd (.int k) (l.map λk=>V.int (k:Nat))=true↔∃j∈l,k=(j:Nat):=by
 unfold yd;rw[List.any_eq_true];constructor
 ·rintro⟨x,b,e⟩;obtain⟨j,a,rfl⟩:=List.mem_map.mp b;calc bL j a ?_;have:((j:Nat):Int)=k:=by simpa[xN] using e
  exact this.symm
 ·intro c;obtain⟨j,a,rfl⟩:=c;calc⟨_,List.mem_map.mpr ⟨j,a,rfl⟩,by simp[xN]⟩
theorem xE{nt:NT}(h:r.Ok nt){w k:Nat}(c:w<nt.ws.length):k∈r.rQ w↔(r.ww w).dX[k]?=some none:=by
 have f:=h.lk w c;unfold RS.rQ;rw[List.mem_filter,List.mem_range];constructor
 ·rintro⟨a,b⟩;rw[bq (d:=none) ()]
  cases z:(r.ww w).dX.getD k none with
  |none=>rfl
  |some e=>rw[z]at b;simp at b
 ·intro a;have b:=(List.getElem?_eq_some_iff.mp a).1;calc⟨(),?_⟩;rw[getD_at a];rfl
theorem J8{nt:NT}{r:RS}(h:r.Ok nt)(u:r.Px nt){w i j:Nat}(n:w<nt.ws.length)(p:(nt.w w).2.2="row")(o:(r.ww w).dX[i]?=some none)(m:(r.rQ w)[0]?=some j):(i=j↔r.BD nt w i):=by
 have f:j∈(r.rQ w).take 1:=by
  cases q:r.rQ w with
  |nil=>rw[q]at m;cases m
  |cons a l=>rw[q]at m;cases m;simp
 have l:=vO f;have b:=(xE h n).mp (List.mem_of_mem_take f);have m:=(List.getElem?_eq_some_iff.mp o).1;have s:∀k,k<j->∃e,(r.ww w).dX[k]?=some (some e):=λk f=>by
  have h:=(List.getElem?_eq_some_iff.mp b).1;have t:=l k f;rw[bq (d:=none) (show k<(r.ww w).dX.length by lia)]
  cases z:(r.ww w).dX.getD k none with
  |none=>rw[z]at t;simp at t
  |some e=>exact⟨e,rfl⟩
 constructor
 ·rintro rfl;exact⟨n,o,λ_ f=>s (i-1) ()⟩
 ·intro v;calc Classical.byContradiction λf=>?_;have f:j<i:=by
   calc Classical.byContradiction λz=>?_;obtain⟨e,c⟩:=s i ();rw[o]at c;cases c
  obtain⟨e,c⟩:=v.row p ();by_cases z:j=i-1
  ·subst z;rw[b]at c;cases c
  ·obtain⟨f,g⟩:=u.px w n p j (i-1) e () c;rw[b]at g;cases g
abbrev ql:Stmt:=top 76
inductive ph(vs:List V)(H:Hp)(Q:VK):Prop
 |mk (F:Addr->Prop) (d:Addr) (tn:V) (nt:NT) (r:RS) (ad:Nat->Nat->Addr) (m k:Int) (h0:vs=[.ref d,.int m,.int k]) (h1:cj F H d tn nt r ad) (h2:FS F H) (h3:r.Ok nt) (hpx:r.Px nt) (h5:r.picks.length<=400) (h6:∀w i:Nat,m=w->k=i->r.BD nt w i->∀t H',Fr (FP nt.n ad) H H'->cj F H' d tn nt (r.pick nt w i) ad->HT H' 1 t (pairD (nt.ev r w))->Q t H') (h7:¬Lies nt r m k->∀t H',au H H'->HT H' 1 t (.tup [.str "none",.int 0])->Q t H') (h8:∀w i:Nat,m=w->k=i->w<nt.ws.length->(r.ww w).dX[i]?=some none->¬r.BD nt w i->∀t H',au H H'->HT H' 1 t (.tup [.str "first",.int 0])->Q t H'):ph vs H Q
def zS:Sp:=λvs H Q _=>ph vs H Q
theorem Fj(D:dq K mg "_law_due" "_law_due" ql ["_law_twin","_law_way","_law_number"])(T:Tx K mg C CN CR F FD)(c8:Def P w K mg base "_law_lying" 1 ["_law_run","_law_way"] xy)(gB:Def P w K mg base "_law_pick" 3 ["_law_run","_law_way","_law_number"] rT):Def P w K mg base "_law_due" 4 ["_law_twin","_law_way","_law_number"] zS:=by
 have sc:aE ["_law_twin","_law_way","_law_number"] ["_law_twin","_law_way","_law_number"] (aA ql):=by walk_at "s"
 symm;obtain⟨F,d,o,c,r,ad,m,k,rfl,y,kF,x,I,L,q,q4,q5⟩:=h;have o:=hr.units;refine⟨_,(aj (aU (PW.pt (pw_or (aC fm (aq 1) ai (aG _)) (pw_or (aC wH (aq 1) (bb aM rfl T.bX S' (ag (ak o (aq 0) aD) aa)) (aG _)) (pw_or1 (aC Ei (aq 2) (aN c8 hr (ag (aq 0) (ag (aq 1) aa))) (by with_unfolding_all rfl)))))) (ao (aH (bA (ag aD (ag ai aa))))) aJ)
  (aj (aU (PW.pt (pw_and (aC (aV o) (ak o (ak o (ak o (ak o (aq 0) aD) ai) (aq 1)) ai) aD (aG _)) (pw_and1 (aC (eR o) (aq 2) (ak o (aN c8 hr (ag (aq 0) (ag (aq 1) aa))) ai) (aG _))))) (ao (aH (bA (ag aD (ag ai aa))))) aJ)
  (ao (aH (aN gB hr (ag (aq 0) (ag (aq 1) (ag (aq 2) aa)))))))),?_⟩
 nofun;obtain⟨T,hd,nF,nP,o⟩:=y.dk;have l4:=(o 4 ∅ ∅).1;have t:(iz c.n ad 4).length=c.ws.length:=jQ;obtain⟨ls,t0,am,aw,al,mv,wv,lv,rfl,M,o,h3,T,h5,N,h7⟩:=y.told;have g1:=(cC M (λk z=>by cases z)).2;have g3:=(cC h3 (λk z=>by cases z)).2
 replace N:=N.aK dW.aS
 ac_rfl;have o:wv.length=c.ws.length:=by simpa using N.1
 calc L2.bO λo M=>?_;calc L2.cW λT U0 o J=>?_;have O:∀H',au H H'->¬Lies c r m k->T [some (V.ref d),some (V.int m),some (V.int k)] H':=λH' s T=>by
  calc L2.bc o ?_;right;calc⟨cf,λp U=>?_⟩;exact q4 T _ _ (s.trans (au.new _ U)) (cR af (.str _) (.int _))
 clear o;right;by_cases T:m<0
 ·rw[if_pos (by simpa using T),if_pos trivial];exact O _ (au.refl _) λ⟨w,i,e,_,_,_⟩=>by lia
 rw[if_neg (by simpa using T)];calc⟨_,uF hd,_,.inl ⟨_,aT.of l4,rfl⟩,?_⟩;rw[t];by_cases FQ:(c.ws.length:Int)<=m
 ·rw[if_pos (by simpa using FQ),if_pos trivial];exact O _ (au.refl _) λ⟨w,i,e,_,h,_⟩=>by lia
 rw[if_neg (by simpa using FQ)];obtain⟨w,rfl⟩:=Y' (show 0<=m by lia);have u:w<c.ws.length:=by lia
 calc⟨F,d,_,c,r,ad,w,rfl,y,x,L,u,λl H1 g hl o=>?_⟩;calc⟨_,.inl (aT.of o),rfl,by simp[fT],?_⟩;calc kT ?_;by_cases B:yd (.int k) ((r.rQ w).map λk=>V.int (k:Nat))=true
 ·rw[B,if_neg ∅];obtain⟨i,W,rfl⟩:=J7.mp B;have X:=(xE x u).mp W;calc L2.bc J ?_;right;calc L2.bc M ?_;clear M J O;right;have Ob:=di (show w < wv.length by lia);have Y:=(N.2 w _ (kY (c.w w)) Ob (by rw[List.getElem?_map,show c.ws[w]?=some (c.w w) from bq u];rfl)).aK g.aS;nofun;obtain⟨ta,k,o,t,J,Z,vJ,q1,q2,q3⟩:=bU Y;obtain rfl:=q1.cy;obtain rfl:=q2.cy;obtain rfl:=q3.cS;ac_rfl;have pk:∀H2,au H H2->r.BD c w i->rT [V.ref d,.int ((w:Nat):Int),.int ((i:Nat):Int)] H2 Q E0:=λH2 G R=>xC.mk F d _ c r ad w i rfl (y.same G) (λb J=>let ⟨o,e,M⟩:=kF b J;⟨o,G _ _ e,M⟩) x R L λt H' f k N=>q w i rfl rfl R t H' (Fr.trans G.fr f) k N;calc bL _ (zH (g _ _ hd)) ?_;calc da (g _ _ g1) (az (j:=1) rfl) ?_;calc aZ (g _ _ g3) (az (j:=w) (v:=.ref ta) (by rw[Ob,Z])) ?_;calc da vJ (az (j:=2) rfl) ?_;right;by_cases S:(c.w w).2.2="row"
  ·rw[if_pos (by simpa using S)];calc⟨F,d,_,c,r,ad,w,rfl,y.same g,x,L,u,λk H2 G o adQ=>?_⟩;obtain⟨j,hj⟩:∃j,(r.rQ w)[0]?=some j:=by
    cases hl:r.rQ w with
    |nil=>rw[hl]at W;cases W
    |cons a l=>exact⟨a,rfl⟩
   have k:=J8 x I u S X hj;calc aZ adQ (az (j:=0) (v:=.int ((j:Nat):Int)) (by rw[List.getElem?_map,hj];rfl)) ?_;right;by_cases c:i=j
   ·rw[if_neg (by simp[c])];exact pk _ (g.trans G) (k.mp c)
   ·rw[if_pos (by simpa using λz:((i:Nat):Int)=j=>c ())];calc⟨cf,λp U=>?_⟩;exact q5 w i rfl rfl u X (λR=>c (k.mpr R)) _ _ (g.trans (G.trans (au.new _ U))) (cR af (.str _) (.int _))
  ·rw[if_neg (by simpa using S),if_neg ∅];exact pk _ g ⟨u,X,λh=>absurd h S⟩
 ·rw[Bool.not_eq_true]at B;rw[B,if_pos ∅];exact O _ g λ⟨w',i,c,e2,_,h'⟩=>by
   obtain rfl:w=w':=by lia
   subst e2;rw[J7.mpr ⟨i,(xE x u).mpr h',rfl⟩]at B
   cases B
abbrev lK:Stmt:=top 77
def J9:Sp:=λvs H Q _=>∃(F:Addr->Prop) (d:Addr) (a:V) (nt:NT) (r:RS) (ad:Nat->Nat->Addr) (z:Int),vs=[.ref d,.int z]/\cj F H d a nt r ad/\∀t (m k:Int) H',au H H'->HT H' 1 t (.tup [.int m,.int k])->Q t H'
theorem zT(D:dq K mg "_law_drawn" "_law_drawn" lK ["_law_twin","_law_cell"])(T:Tx K mg C CN CR F FD):Def P w K mg base "_law_drawn" 1 ["_law_twin","_law_cell"] J9:=by
 have sc:aE ["_law_twin","_law_cell","_law_many","_law_way","_law_put"] ["_law_twin","_law_cell"] (aA lK):=by walk_at "s"
 symm;obtain⟨F,d,b,a,r,ad,z,rfl,u,q⟩:=h;have b:=hr.units;refine⟨_,(aj (ba (i:=2) sc.nd rfl Sort (bb aM rfl T.bX S' (ag (ak b (aq 0) aD) aa)))
  (aj (ba (i:=3) sc.nd rfl Sort (ak b (bD (ag (aQ dI (aQ ck (aQ dD (aq 1) ai) (aQ cQ (aq 2) ai)) ai) (ag (aQ ck (aQ dD (aq 1) ai) (bb (vh rfl) rfl T.IH PyProof.Rows.boot_max (ag (aq 2) (ag ai aa)))) aa))) (dG pJ rfl T.yT Yw (ag (fA mL (aQ ck (aq 1) ai) ai (aG _)) aa))))
  (aj (aU (aC (aV b) (aQ ck (aq 1) ai) ai (aG _)) (ao (ba (i:=3) sc.nd rfl Sort (aQ cQ (aq 2) (aQ ck (aQ dD (aq 1) ai) (aQ mj ai ai))))) aJ)
  (aj (ba (i:=4) sc.nd rfl Sort ai)
  (aj (aU (Gz wG fm ai (aq 3) (aq 2)) (ao (ba (i:=4) sc.nd rfl Sort (aQ cQ (bb aM rfl T.bX S' (ag (ak b (ak b (aq 0) aD) (aq 3)) aa)) ai))) aJ)
  (ao (aH (bA (ag (aq 3) (ag (ak b (bD (ag (aQ ck (aQ dD (aq 1) ai) (aq 4)) (ag (aQ ck (aQ dD (aq 1) ai) (aq 4)) (ag (aQ dI (kq gL ai) (aQ ck (aQ dD (aq 1) ai) ai)) (ag (aQ cQ (aq 4) (aQ ck (aQ dD (aq 1) ai) (aQ mj ai ai))) aa))))) (aQ ck (aQ dD (aq 1) ai) ai)) aa)))))))))),?_⟩
 obtain⟨b,L,T,Y,R⟩:=u.dk;have M:=(R 4 ∅ ∅).1;have b:(iz a.n ad 4).length=a.ws.length:=jQ;calc L2.bO λR c=>?_;right;calc⟨_,uF L,_,.inl ⟨_,aT.of M,rfl⟩,?_⟩;rw[b];calc L2.bc c ?_;clear c;calc L2.bO λR v=>?_;have S:∀(g:Int) (H1:Hp),au H H1->R [some (V.ref d),some (V.int z),some (V.int ((a.ws.length:Nat):Int)),some (.int g),none] H1:=λg H1 N=>by
  calc L2.bc v ?_;clear v;calc L2.bO λb x=>?_;have O:∀(k:Int) (H2:Hp),au H H2->b [some (V.ref d),some (V.int z),some (V.int ((a.ws.length:Nat):Int)),some (.int k),none] H2:=λk H2 m=>by
   calc L2.bc x ?_;clear x;calc L2.bO λR b=>?_;right;calc L2.bc b ?_;clear b;calc L2.bO λR y=>?_;have B:∀(l:Int),0<l->R [some (V.ref d),some (V.int z),some (V.int ((a.ws.length:Nat):Int)),some (.int k),some (.int l)] H2:=λl b=>by
    calc L2.bc y ?_;clear y;right;calc⟨⟨∅,⋯⟩,b,⟨∅,⋯⟩,b,⟨∅,⋯⟩,∅,⟨∅,⋯⟩,⟨∅,∅,⋯⟩,⋯,by show 4<=sizeLine;decide,λp G=>⟨⟨∅,⋯⟩,∅,?_⟩⟩;nofun;generalize z/97%l=o at *;generalize -1-z/97%3=I at *;generalize l+z/97%10^Int.toNat 20=U at *;obtain⟨b,W⟩:∃b,hX [V.int o,V.int o,V.int I,V.int U] (z/2%4)=some (.int b):=by
     have:z/2%4=0\/z/2%4=1\/z/2%4=2\/z/2%4=3:=by lia
     rcases this with e|e|e|e<;>rw[e]
     ·exact⟨_,az (j:=0) rfl⟩
     ·exact⟨_,az (j:=1) rfl⟩
     ·exact⟨_,az (j:=2) rfl⟩
     ·exact⟨_,az (j:=3) rfl⟩
    ac_rfl;calc aZ af W ?_;calc⟨cf,λl b=>?_⟩;exact q _ _ _ _ (m.trans ((au.new _ G).trans (au.new _ b))) (cR af (.int _) (.int _))
   clear y;right;by_cases J:0<=k
   ·rw[if_pos (by simpa using J)];by_cases c:k < ((a.ws.length:Nat):Int)
    ·rw[if_pos (by simpa using c)];nofun;obtain⟨w,rfl⟩:=Y' J;have b:w < a.ws.length:=by lia
     obtain⟨l,k,q⟩:=(u.same m).bS.lst (t:=4) (i:=w) b rfl;ac_rfl;calc bL _ (uF (m _ _ L)) ?_;calc aZ (m _ _ M) (aY b) ⟨_,.inl ⟨_,aT.of k,rfl⟩,?_⟩;exact B _ ()
    ·rw[if_neg (by simpa using c)];exact B 3 ∅
   ·rw[if_neg (by simpa using J),if_neg ∅];exact B 3 ∅
  clear x;right;calc⟨∅,?_⟩;by_cases b:z%64=9
  ·rw[if_pos (by simpa using b)];exact⟨⟨∅,⋯⟩,⟨∅,∅,⋯⟩,⋯,O _ _ N⟩
  ·rw[if_neg (by simpa using b)];exact O _ _ N
 clear v;right;calc⟨⟨∅,⋯⟩,(),⟨∅,⋯⟩,by split<;>lia,cf,λp G=>⟨∅,.inr ?_⟩⟩;generalize z/8%(((a.ws.length:Nat):Int)+2)-1=o at *;generalize (z/8%if 1 > ((a.ws.length:Nat):Int) then 1 else((a.ws.length:Nat):Int))=I at *;obtain⟨g,X⟩:∃g,hX [V.int o,V.int I] (if decide (0<z%8)=true then 1 else 0)=some (.int g):=by
  split
  ·exact⟨_,az (j:=1) rfl⟩
  ·exact⟨_,az (j:=0) rfl⟩
 calc aZ af X ?_;calc S _ _ (au.new _ G)
abbrev ke:Stmt:=top 80
inductive qm(C CN CR:Addr)(vs:List V)(H:Hp)(Q:VK):Prop
 |mk (F1 F2:Addr->Prop) (x bz d:Addr) (tn:V) (nt:NT) (r:RS) (zR Ai:Nat->Nat->Addr) (h0:vs=[.ref x,.ref d]) (h1:Fi C CN CR F1 F2 H x bz d tn nt r zR Ai) (h4:∀H',au H H'->Q (.bl true) H'):qm C CN CR vs H Q
def DJ(C CN CR:Addr):Sp:=λvs H Q _=>qm C CN CR vs H Q
theorem xF(D:dq K mg "_law_stands" "_law_stands" ke ["_law_run","_law_twin"])(T:Tx K mg C CN CR F FD)(o:Def P w K mg base "_law_lying" 1 ["_law_run","_law_way"] xy)(W:eU P w K mg base CR "count" 4 ["self","m"] (Jv C CN CR))(fP:dj P w K mg base CR "lying" 4 ["self","way"] (JD C CN CR c))(iH:eU P w K mg base CR "schedule" 1 ["self"] (Jw C CN CR))(fN:eU P w K mg base CR "state" 4 ["self","m"] (Ju C CN CR)):Def P w K mg base "_law_stands" 5 ["_law_run","_law_twin"] (DJ C CN CR):=by
 have sc:aE ["_law_run","_law_twin","_law_m","_law_way"] ["_law_run","_law_twin"] (aA ke):=by walk_at "s"
 symm;obtain⟨b,F2,x,bz,d,tn,e,r,G,N,rfl,a,q⟩:=h;have b:=hr.units;refine⟨_,(aj (fg PassesOwn.never rfl (cP rfl T.dY (ag (bb aM rfl T.bX S' (ag (ak b (ak b (aq 1) aD) ai) aa)) aa)) (bf (i:=2) sc.nd rfl Sort)
  (ao (aU (PW.pt (pw_or (aC (eR b) (kr W T.aR hr (aq 0) (ag (aq 2) aa)) (bb aM rfl T.bX S' (ag (ak b (ak b (aq 1) aD) (aq 2)) aa)) (aG _)) (pw_or1 (aC (eR b) (kr fN T.aR hr (aq 0) (ag (aq 2) aa)) (ak b (ak b (ak b (aq 1) aD) (aq 2)) (kq gL ai)) (aG _))))) (ao (aH iW)) aJ)))
  (aj (fg PassesOwn.never rfl (cP rfl T.dY (ag (bb aM rfl T.bX S' (ag (ak b (aq 1) aD) aa)) aa)) (bf (i:=3) sc.nd rfl Sort)
  (ao (aU (aC (eR b) (dJ (N':=["_law_number","_law_said"]) (ix:=[none,none]) (cE (il fP NO T.aR hr (aq 0) (ag (aq 3) aa))) (λ_ _ _ _=>(j0 (K:=K) rfl (i:=0) (j:=1) rfl (show(["_law_number","_law_said"]:List Str).Nodup by decide +kernel) rfl rfl Sort Sort)) pS (λ_ _ _ _=>(aq 0))) (aN o hr (ag (aq 1) (ag (aq 3) aa))) (aG _)) (ao (aH iW)) aJ)))
  (ao (aH (fA (aV b) (gO iH T.aR hr (aq 0)) (ak b (aq 1) aD) (aG _)))))),?_⟩
 nofun;obtain⟨b,o,O,T⟩:=a.run.ins;obtain⟨o',I,b,o,v⟩:=a.twin.dk;obtain⟨ls,tt,am,aw,al,mv,wv,lv,rfl,b,h2,o,T,h5,W,h7⟩:=a.twin.told;ac_rfl;have g1:=(cC b (λk z=>by cases z)).2;have g2:=(cC h2 (λk z=>by cases z)).2;have b:mv.length=e.ms.length:=h5.1;have l1:=(v 1 ∅ ∅).1;have l3:=(v 3 ∅ ∅).1;have l4:=(v 4 ∅ ∅).1;have b:(iz e.n N 4).length=e.ws.length:=jQ;have b:=a.twin.ok.Y0;have b:=a.twin.ok.EC;have r8:=a.xS;calc L2.bO λN1 U=>?_;right;refine⟨_,zH I,da g1 (az (j:=0) rfl) ⟨_,.inl ⟨_,aT.of g2,rfl⟩,⟨_,rfl,(),(),gm (n:=mv.length) (λi σ H'=>(∃p y,σ=[some (V.ref x),some (V.ref d),p,y])/\au H H') ?_ ?_ ?_⟩⟩⟩
 ·exact⟨⟨_,_,rfl⟩,au.refl H⟩
 ·intro i σ H1 hi iS;obtain⟨⟨p,y,rfl⟩,g⟩:=iS;clear U;rw[Int.zero_add];have b:i < e.ms.length:=by lia
  have o:=a.same g;nofun;obtain⟨v,e3,W⟩:=o.twin.bS.lst (t:=3) (i:=i) b rfl;have T:v.length=(r.mm i).hr.length:=by simpa using W.1
  have v:=a.ok.lh i b;have W:=a.ok.yP b;obtain⟨v,e1,d1⟩:=o.twin.bS.lst (t:=1) (i:=i) b rfl;have z1:v.length=(r.mm i).gp.length:=by simpa using d1.1
  obtain⟨v,ev,dv⟩:=d1.get (i:=(r.mm i).gp.length-1) (d:=rg ((r.mm i).gp.bM ([],[]))) (by rw[List.getElem?_map,kQ (d:=([],[])) W];rfl);ac_rfl;right;calc eD (g _ _ O) (eE ⋯) ?_;calc⟨_,x,bz,e,r,G,i,rfl,o.run,b,?_⟩;calc bL _ (JI (g _ _ I)) ?_;calc aZ (g _ _ l3) (aY b) ⟨_,.inl ⟨_,aT.of e3,rfl⟩,?_⟩;rw[T];right;rw[if_neg (by simp;lia)];calc eD (g _ _ O) (eE ⋯) ?_;calc⟨_,x,bz,e,r,G,i,rfl,o.run,a.ok,b,λv ML=>?_⟩;calc bL _ (MU (g _ _ I)) ?_;calc aZ (g _ _ l1) (aY b) ?_;calc aZ e1 (mq () (by rw[z1];calc ev)) ?_;have hv:=Jt (dv.cv dW);nofun;obtain⟨a1,_,_,_,rfl,_,_,_⟩:=cw (id ML);obtain⟨a2,_,_,_,rfl,_,_,_⟩:=cw (id hv);ac_rfl;calc .inl ⟨wW ML hv ∅,?_⟩;calc kT ?_;rw[if_neg ∅];exact⟨⟨_,_,rfl,rfl⟩,g⟩
 intro σ H1 jc;obtain⟨⟨p,y,rfl⟩,g⟩:=jc;show N1 _ _;calc L2.bc U ?_;clear U;calc L2.bO λN2 n2=>?_;right;refine⟨_,uF (g _ _ I),⟨_,.inl ⟨_,aT.of (g _ _ l4),rfl⟩,⟨_,rfl,(),(),gm (n:=(iz e.n N 4).length) (λi σ H'=>(∃p y,σ=[some (V.ref x),some (V.ref d),p,y])/\au H H') ?_ ?_ ?_⟩⟩⟩
 ·exact⟨⟨_,_,rfl⟩,g⟩
 ·intro i σ H2 hi sW;obtain⟨⟨p,y,rfl⟩,B⟩:=sW;clear n2;rw[Int.zero_add];have hw:i < e.ws.length:=by lia
  right;calc bV ?_;right;calc eD (B _ _ O) (eE ⋯) ?_;calc⟨_,x,bz,e,r,G,((i:Nat):Int),rfl,a.run.same B,a.ok,r8,λm0 e0 _ l ys H3 L hl R bP=>?_,λno=>absurd ⟨(),()⟩ no⟩;obtain rfl:i=m0:=by lia
  have X:ys.length=(r.rQ i).length:=by simpa[JA] using bP.1
  have b:=a.ok.bs i hw;have b:=rS (r:=r) (w:=i);calc .inl ⟨⟨_,aT.of R⟩,λD hD=>?_⟩;refine bE (J:=x6 K l) (n:=ys.length) (λj M H'=>M=((r.rQ i).take j).map (λk=>V.int (k:Nat))/\au H3 H') (P' (small ())) ⟨nofun,au.new _ hD⟩ ?_ ?_ ?_ ?_
  ·rintro j M H' Y ⟨_,m⟩;exact⟨_,ys[j],aT.of (m _ _ R),di Y⟩
  ·rintro M H' ⟨_,m⟩;exact⟨_,aT.of (m _ _ R),K' _⟩
  ·intro j M H' Y S oW yZ u H5 y0;nofun;obtain⟨rfl,m⟩:=yZ;obtain⟨rfl,b⟩:=y0;have eu:=b _ (aT.of (m _ _ R));have Iw:j < (r.rQ i).length:=by lia
   have Z:=bP.2 j u (pairD ((((r.rQ i)[j]:Nat):Int),(r.ww i).say.getD (r.rQ i)[j] 0)) eu (by unfold JA;rw[List.getElem?_map,di Iw];rfl);obtain⟨ta,rfl,g⟩:=mn (Z.cv dW);ac_rfl;calc yS (bJ.of (m _ _ g)) ?_;calc⟨Ext.set (Ext.set (Ext.refl _) rfl) rfl,?_⟩;right;calc cD S oW Y (P' (small ())) ⟨?_,λj o' b=>by rw[ay (av b hD)];calc m _ _ b⟩;rw[List.take_add_one,di Iw,List.map_append];rfl
  rintro M H4 S oW ⟨rfl,m⟩;rw[X,List.take_length]at S;have b:=B.trans (L.trans m);calc⟨_,d,_,e,r,N,i,rfl,(a.same b).twin,a.ok,r8,hw,λo H5 g k j=>?_⟩;have k:=g _ _ S;rw[qg]at k j;calc .inl ⟨zO (jx k (dQ.ints (n:=1) _)) (jx j (dQ.ints (n:=1) _)) lD ∅,?_⟩;calc kT ?_;rw[if_neg ∅];exact⟨⟨_,_,rfl,rfl⟩,b.trans g⟩
 ·intro σ H2 Bo;obtain⟨⟨p,y,rfl⟩,B⟩:=Bo;show N2 _ _;calc L2.bc n2 ?_;right;calc eD (B _ _ O) (eE ⋯) ?_;calc⟨_,x,bz,e,r,G,rfl,a.run.same B,λl vs hl hvs=>?_⟩;have FX:=au.new (.lst vs) hl;have L:=B.trans FX;have el:upd H2 l (.lst vs) l=some (.lst vs):=af;have adR:=hvs.cv FX.cv;generalize Oa:upd H2 l (.lst vs)=H3 at *;calc bL _ (Xi (L _ _ I)) ?_;obtain⟨e,e0,b⟩:=(a.twin.same L).bS.lst (t:=0) (i:=0) (by show 0<1;decide) rfl;right;calc .inl ⟨zO (jx el adR) (jx e0 (b.cv dW)) (Fh (f:=id)) ∅,q _ L⟩
theorem Sk{K:W.Frag}{xs:List V}(f:Fr Z H H')(n:¬Z a)(h:aT K H a xs):aT K H' a xs:=by
 rcases h with(h|⟨o,h⟩)|h
 ·exact .inl (.inl (f.at h n))
 ·exact .inl (.inr ⟨o,f.at h n⟩)
 ·calc .inr h
theorem _root_.DD.dM.weak{F a:Addr->Prop}{n:Nat->Nat}{ct:Nat->Nat->CO}(h:dM F H n ad ct)(s:au H H')(d:∀b,a b->F b\/H b=none):dM a H' n ad ct:=by
 have c:∀{b:Addr} {o:HO},H b=some o->¬F b->¬a b:=λ{b o} e f z=>(d _ z).elim f λq=>by rw[q]at e;cases e
 have f:Cv (hJ (λb=>F b\/FP n ad b) H) (hJ (λb=>a b\/FP n ad b) H'):=λb u g i=>by
  obtain⟨a,d⟩:=cC g i;rw[fF (λz=>z.elim (c d (λq=>a (.inl q))) (λq=>a (.inr q)))];exact s _ _ d
 refine⟨h.inj,λt i a=>?_,λt i a=>?_⟩
 ·obtain⟨d,e,_⟩:=h.KN t i a;exact c e (h.out t i a)
 ·obtain⟨d,e,c⟩:=h.KN t i a;calc⟨d,s _ _ e,c.cv f⟩
theorem bY.weak{C CN CR:Addr}{F c:Addr->Prop}{x:Addr}{nt:NT}(h:bY C CN CR F H x bz nt r ad)(s:au H H')(d:∀b,c b->F b\/H b=none):bY C CN CR c H' x bz nt r ad:=by
 have f:∀{b:Addr} {o:HO},H b=some o->¬F b->¬c b:=λ{b o} e c z=>(d _ z).elim c λq=>by rw[q]at e;cases e
 obtain⟨⟨g,o,i,c⟩,j,k⟩:=h;calc⟨⟨g,o,s _ _ i,λt a b=>⟨s _ _ (c t a b).1,f (c t a b).1 (c t a b).2.1,(c t a b).2.2⟩⟩,j.weak s d,k.fr (Z:=λ_=>False) s.fr⟩
theorem cj.ON{F c:Addr->Prop}{d:Addr}{g:V}{nt:NT}(h:cj F H d g nt r ad)(s:au H H')(i:∀b,c b->F b\/H b=none):cj c H' d g nt r ad:=by
 have f:∀{b:Addr} {o:HO},H b=some o->¬F b->¬c b:=λ{b o} e g z=>(i _ z).elim g λq=>by rw[q]at e;cases e
 have j:Cv (hJ (λb=>F b\/FP nt.n ad b) H) (hJ (λb=>c b\/FP nt.n ad b) H'):=λb u k l=>by
  obtain⟨c,g⟩:=cC k l;rw[fF (λz=>z.elim (f g (λq=>c (.inl q))) (λq=>c (.inr q)))];exact s _ _ g
 obtain⟨⟨o,g,k,l,c⟩,m,⟨ls,p⟩,q⟩:=h;calc⟨⟨o,s _ _ g,f g k,l,λt a b=>⟨s _ _ (c t a b).1,f (c t a b).1 (c t a b).2.1,(c t a b).2.2⟩⟩,m.weak s i,⟨ls,p.cv j⟩,q⟩
structure F4(K:W.Frag)(a lr lt lc:Addr)(ns:List Int)(xs ds cs:List V)(H:Hp):Prop where
 sq:aT K H a (ns.map V.int)
 lr:H lr=some (.lst xs)
 lt:H lt=some (.lst ds)
 lc:H lc=some (.lst cs)
theorem F4.same{K:W.Frag}{b lt lc:Addr}{xs c cs:List V}(h:F4 K a b lt lc ns xs c cs H)(s:au H H'):F4 K a b lt lc ns xs c cs H':=⟨s.seq h.sq,s _ _ h.lr,s _ _ h.lt,s _ _ h.lc⟩
def FR(nt:NT)(a b:Bool->Nat->Nat->Addr)(j:Bool):Addr->Prop:=λz=>FP nt.n (b j) z\/FP nt.n (a (!j)) z\/FP nt.n (b (!j)) z
def FT(nt:NT)(a b:Bool->Nat->Nat->Addr)(j:Bool):Addr->Prop:=λz=>FP nt.n (a j) z\/FP nt.n (a (!j)) z\/FP nt.n (b (!j)) z
structure kg(C CN CR:Addr)(H:Hp)(n:Addr)(v:V)(nt:NT)(x d:Bool->Addr)(r:Bool->RS)(a b:Bool->Nat->Nat->Addr):Prop where
 run:∀j,bY C CN CR (FR nt a b j) H (x j) n nt (r j) (a j)
 twin:∀j,cj (FT nt a b j) H (d j) v nt (r j) (b j)
 ok:∀j,(r j).Ok nt
 px:∀j,(r j).Px nt
 xS:∀j,(r j).picks.length<=400
section
variable {C CN CR:Addr}{H H' H1 H2:Hp}{n:Addr}{v:V}{nt:NT}{x d:Bool->Addr}{r:Bool->RS}{a b:Bool->Nat->Nat->Addr}
theorem kg.both(h:kg C CN CR H n v nt x d r a b)(j:Bool):Fi C CN CR (FR nt a b j) (FT nt a b j) H (x j) n (d j) v nt (r j) (a j) (b j):=⟨h.run j,h.twin j,h.ok j,h.xS j⟩
theorem kg.same(h:kg C CN CR H n v nt x d r a b)(s:au H H'):kg C CN CR H' n v nt x d r a b:=⟨λj=>(h.run j).same s,λj=>(h.twin j).same s,h.ok,h.px,h.xS⟩
theorem kg.zA(h:kg C CN CR H n v nt x d r a b)(j:Bool):∀z,FR nt a b j z->∃o,H z=some o/\DD.soft o:=λz c=>by
 rcases c with q|q|q
 ·exact(h.twin j).bS.fp q
 ·exact(h.run (!j)).bS.fp q
 ·calc(h.twin (!j)).bS.fp q
theorem kg.ZM(h:kg C CN CR H n v nt x d r a b)(j:Bool){f:RS}(c:Fr (FP nt.n (a j)) H H1)(g:bY C CN CR (FR nt a b j) H1 (x j) n nt f (a j)):∀z,FT nt a b j z->∃o,H1 z=some o/\DD.soft o:=λz i=>by
 have e:(!(!j))=j:=by cases j<;>rfl
 rcases i with q|q|q
 ·exact g.bS.fp q
 ·exact((h.run (!j)).keep (c.mono λz q=>.inr (.inl (by rw[e];calc q)))).bS.fp q
 ·calc((h.twin (!j)).keep (c.mono λz q=>.inr (.inl (by rw[e];calc q)))).bS.fp q
theorem kg.tw(h:kg C CN CR H n v nt x d r a b)(j:Bool)(c:Fr (FP nt.n (a j)) H H1):cj (FT nt a b j) H1 (d j) v nt (r j) (b j):=(h.twin j).keep (c.mono λz q=>.inl q)
theorem kg.step(h:kg C CN CR H n v nt x d r a b)(j:Bool){c:RS}(g:Fr (FP nt.n (a j)) H H1)(k:bY C CN CR (FR nt a b j) H1 (x j) n nt c (a j))(f:Fr (FP nt.n (b j)) H1 H2)(l:cj (FT nt a b j) H2 (d j) v nt c (b j))(ok:c.Ok nt)(m:c.Px nt)(o:c.picks.length<=400):kg C CN CR H2 n v nt x d (λi=>if i=j then c else r i) a b:=by
 have e:∀i,i≠j->(!i)=j:=λi p=>by cases i<;>cases j<;>first|rfl|exact absurd rfl p
 refine⟨λi=>?_,λi=>?_,λi=>?_,λi=>?_,λi=>?_⟩
 ·by_cases z:i=j
  ·subst z;rw[if_pos rfl];exact k.keep (f.mono λz q=>.inl q)
  ·rw[if_neg z];exact((h.run i).keep (g.mono λy q=>.inr (.inl (by rw[e i z];calc q)))).keep (f.mono λy q=>.inr (.inr (by rw[e i z];calc q)))
 ·by_cases z:i=j
  ·subst z;rw[if_pos rfl];exact l
  ·rw[if_neg z];exact((h.twin i).keep (g.mono λy q=>.inr (.inl (by rw[e i z];calc q)))).keep (f.mono λy q=>.inr (.inr (by rw[e i z];calc q)))
 ·by_cases z:i=j
  ·rw[if_pos z];exact ok
  ·rw[if_neg z];exact h.ok i
 ·by_cases z:i=j
  ·rw[if_pos z];exact m
  ·rw[if_neg z];exact h.px i
 ·by_cases z:i=j
  ·rw[if_pos z];exact o
  ·rw[if_neg z];calc h.xS i
end
abbrev vS:Stmt:=top 81
def xG(K:W.Frag):Sp:=λvs H Q _=>∃(a:Addr) (ns:List Int),vs=[.ref a]/\aT K H a (ns.map V.int)/\ns.length<=63/\∀H',Q (.bl true) H'
theorem Sl{f:Addr}{s:FuncData}(D:Fw K "law" "law" vS f s)(T:Tx K mg C CN CR F FD)(i5:Def P w K mg base "_law_begun" 1 ["_law_net_here"] DC)(lM:Def P w K mg base "_law_drawn" 1 ["_law_twin","_law_cell"] J9)(qo:Def P w K mg base "_law_due" 4 ["_law_twin","_law_way","_law_number"] zS)(nJ:Def P w K mg base "_law_free" 2 ["_law_run"] JL)(qp:Def P w K mg base "_law_net" 5 ["_law_script"] (Dz K))(iI:Def P w K mg base "_law_net_made" 9 ["_law_net_here"] (vR C CN))(gB:Def P w K mg base "_law_pick" 3 ["_law_run","_law_way","_law_number"] rT)(fb:Def P w K mg base "_law_refusals_right" 7 ["_law_run","_law_twin","_law_way","_law_number"] (J6 C CN CR))(ff:Def P w K mg base "_law_stands" 5 ["_law_run","_law_twin"] (DJ C CN CR))(lN:Def P w K mg base "_law_tried" 8 ["_law_run","_law_way","_law_number"] (DH C CN CR))(gA:dj P w K mg base CR "pick" 7 ["self","way","number"] (BJ C CN CR c))(DK:yu P w K mg base "Run" CR 2 ["self","net"] (Dx C CN CR)):ja P w K mg base ve 10 f s ["_law_script"] (xG K):=by
 have sc:aE ["_law_script","_law_told","_law_net_here","_law_runs","_law_twins","_law_cell","_law_k","_law_way","_law_number","_law_free_here"] ["_law_script"] (aA vS):=by walk_at "s"
 refine D.ok sc (λvs H Q E h=>?_) (λeA A outer s H vs Q E l h=>?_)
 ·obtain⟨a,ns,rfl,hS,Zt,q⟩:=h;rfl
 ·obtain⟨a,ns,rfl,hS,Zt,q⟩:=h;have M:=l.units;refine⟨_,(aj (ba (i:=1) sc.nd rfl Sort (aN qp l (ag (aq 0) aa)))
   (aj (ba (i:=2) sc.nd rfl Sort (aN iI l (ag (aq 1) aa)))
   (aj (ba (i:=3) sc.nd rfl Sort (bD (ag (Ct DK l (ag (aq 2) aa)) (ag (Ct DK l (ag (aq 2) aa)) aa))))
   (aj (ba (i:=4) sc.nd rfl Sort (bD (ag (aN i5 l (ag (aq 1) aa)) (ag (aN i5 l (ag (aq 1) aa)) aa))))
   (aj (fg PassesOwn.never rfl (cE (QT (aq 0) (me ai) (me ai))) (bf (i:=5) sc.nd rfl Sort)
   (aj (ba (i:=6) sc.nd rfl Sort (aQ ck (aq 5) ai))
   (aj (fC (aN lM l (ag (ak M (aq 4) (aq 6)) (ag (aQ dD (aq 5) ai) aa))) (ij (i:=7) (j:=8) rfl sc.nd rfl rfl Sort Sort))
   (aj (aU (cL (bG (aN fb l (ag (ak M (aq 3) (aq 6)) (ag (ak M (aq 4) (aq 6)) (ag (aq 7) (ag (aq 8) aa))))))) (ao (aH iW)) aJ)
   (aj (aU (aC (eR M) (aN lN l (ag (ak M (aq 3) (aq 6)) (ag (aq 7) (ag (aq 8) aa)))) (aN qo l (ag (ak M (aq 4) (aq 6)) (ag (aq 7) (ag (aq 8) aa)))) (aG _)) (ao (aH iW)) aJ)
   (aj (ba (i:=9) sc.nd rfl Sort (aN nJ l (ag (ak M (aq 4) (aQ dI ai (aq 6))) aa)))
   (aj (aU (aC (eR M) (aq 9) (bD aa) (aG _)) (aj (fC (ak M (aq 9) (aQ ck (aQ dD (aq 5) ai) (bb aM rfl T.bX S' (ag (aq 9) aa)))) (ij (i:=7) (j:=8) rfl sc.nd rfl rfl Sort Sort))
   (ao (aU (aC (eR M) (il gA NO T.aR l (ak M (aq 3) (aQ dI ai (aq 6))) (ag (aq 7) (ag (aq 8) aa))) (aN gB l (ag (ak M (aq 4) (aQ dI ai (aq 6))) (ag (aq 7) (ag (aq 8) aa)))) (aG _)) (ao (aH iW)) aJ))) aJ)
   (ao (aU (PW.pt (pw_and (aC (aV M) (aQ ck (aq 5) ai) ai (aG _)) (pw_and1 (cL (PW.pt (pw_and (bG (aN ff l (ag (ak M (aq 3) ai) (ag (ak M (aq 4) ai) aa)))) (pw_and1 (bG (aN ff l (ag (ak M (aq 3) ai) (ag (ak M (aq 4) ai) aa))))))))))) (ao (aH iW)) aJ)))))))))
   (ao (aH (i8 (aN ff l (ag (ak M (aq 3) ai) (ag (ak M (aq 4) ai) aa))) (gK (aN ff l (ag (ak M (aq 3) ai) (ag (ak M (aq 4) ai) aa)))))))))))),?_⟩
  calc L2.bO λl h1=>?_;left;calc ur a ns rfl hS Zt (λt l s A mv wv lv gP ws ls H1 s1 g1 g2 g3 g4 g5 g6 g7 g=>?_);have ZN:ToldN H1 (.ref t) gP ws ls:=⟨t,l,s,A,mv,wv,lv,rfl,g1,g2,g3,g4,g5,g6,g7⟩
  clear g1 g2 g3 g4 g5 g6 g7;calc L2.bc h1 ?_;clear h1;generalize V.ref t=v at *;obtain⟨x,Sm⟩:∃x:NT,x=⟨gP,ws⟩:=⟨_,rfl⟩
  have ZO:∀l∈ls,0<=l.1/\l.1<x.ws.length:=λl hl=>by rw[Sm];exact⟨(g.lo l hl).1,(g.lo l hl).2.1⟩
  have Yg:x.Ok:=by rw[Sm];exact g.nt
  calc L2.bO λl h2=>?_;left;calc⟨v,gP,ws,ls,rfl,ZN,g,λn ms wv lv H2 s2 ZP hnF hnL=>?_⟩;rw[<-Sm]at ZP;calc L2.bc h2 ?_;clear h2;calc L2.bO λl h3=>?_;left;intro U l LM Yh adV;have Ua:au H2 (upd (upd H2 l (.own U)) U (.ins CR l [])):=λb o e=>by rw[ay (av e LM),ay (av e Yh)];exact e
  calc⟨λ_=>False,U,l,n,x,ls,ms,wv,lv,rfl,af,ZP.fr (Z:=λ_=>False) Ua.fr,hnF.same Ua,hnL.aK Ua.aS,g.TY,ZO,λb d=>d.elim,λa0 H3 k0 f0 Sn=>⟨rfl,?_⟩⟩;have t0:au H2 H3:=λb o e=>k0 b o (av e LM) (Ua _ _ e);have fr0:∀b,FP x.n a0 b->H2 b=none:=λb d=>by
   cases e:H2 b with
   |none=>rfl
   |some o=>
    have:=f0 b d;rw[Ua _ _ e]at this;cases this
  clear k0 f0;intro W l pA Yi adX;have So:au H3 (upd (upd H3 l (.own W)) W (.ins CR l [])):=λb o e=>by rw[ay (av e pA),ay (av e Yi)];exact e
  calc⟨FP x.n a0,W,l,n,x,ls,ms,wv,lv,rfl,af,(ZP.fr (Z:=λ_=>False) t0.fr).fr (Z:=λ_=>False) So.fr,(hnF.same t0).same So,(hnL.aK t0.aS).aK So.aS,g.TY,ZO,λb d=>(Sn.same So).bS.fp d,λa1 H4 k1 f1 Ub=>⟨rfl,cf,λN ZQ=>?_⟩⟩;have t1:au H3 H4:=λb o e=>k1 b o (av e pA) (So _ _ e);have fr1:∀b,FP x.n a1 b->H3 b=none:=λb d=>by
   cases e:H3 b with
   |none=>rfl
   |some o=>
    have:=f1 b d;rw[So _ _ e]at this;cases this
  clear k1 f1;have S:=au.new (.lst [.ref U,.ref W]) ZQ;have ZR:upd H4 N (.lst [.ref U,.ref W]) N=some (.lst [.ref U,.ref W]):=af;generalize Tg:upd H4 N (.lst [.ref U,.ref W])=H5 at *;calc L2.bc h3 ?_;clear h3 ZP hnF hnL Ua So;have t12:au H2 H5:=t0.trans (t1.trans S);have Sr:au H1 H5:=s2.trans t12;have n1:∀b,FP x.n a0 b\/FP x.n a1 b->H1 b=none:=λb d=>by
   calc s2.free ?_;rcases d with d|d
   ·exact fr0 b d
   ·exact t0.free (fr1 b d)
  calc L2.bO λl h4=>?_;left;refine⟨λb=>FP x.n a0 b\/FP x.n a1 b,v,x,ls,rfl,?_,λb d=>?_,Yg,g.TY,ZO,λd0 b0 H6 u f6 fd0 Sj=>?_⟩
  ·rw[Sm];calc ZN.cv λb o e n'=>?_;rw[fF (λz=>by rw[<-Sm]at z;rw[n1 b z]at e;cases e)];exact Sr _ _ e
  ·rcases d with d | d
   ·exact(Sn.same (t1.trans S)).bS.fp d
   ·exact(Ub.same S).bS.fp d
  refine⟨λb=>(FP x.n a0 b\/FP x.n a1 b)\/FP x.n b0 b,v,x,ls,rfl,?_,λb d=>?_,Yg,g.TY,ZO,λd1 b1 H7 t4 f7 fd1 Tf=>⟨cf,λlt ko=>?_⟩⟩
  ·rw[Sm];calc ZN.cv λb o e n'=>?_;rw[fF (λz=>by
    rw[<-Sm]at z;rcases z with z|z
    ·rw[n1 b z]at e;cases e
    ·rw[Sr.free (f6 b z)] at e;cases e)]
   exact u _ _ (Sr _ _ e)
  ·rcases d with(d | d) | d
   ·exact(Sn.same (t1.trans (S.trans u))).bS.fp d
   ·exact(Ub.same (S.trans u)).bS.fp d
   ·exact Sj.bS.fp d
  have t5:=au.new (.lst [.ref d0,.ref d1]) ko;have elt:upd H7 lt (.lst [.ref d0,.ref d1]) lt=some (.lst [.ref d0,.ref d1]):=af;generalize Zc:upd H7 lt (.lst [.ref d0,.ref d1])=H8 at *;calc L2.bc h4 ?_;clear h4;nofun;obtain⟨l,Zd⟩:=JE Yg g.TY;have t38:au H3 H8:=t1.trans (S.trans (u.trans (t4.trans t5)));have t48:au H4 H8:=S.trans (u.trans (t4.trans t5));have t68:au H6 H8:=t4.trans t5;obtain⟨X,hX0,hX1⟩:∃X:Bool->Addr,X false=U/\X true=W:=⟨λj=>bif j then W else U,rfl,rfl⟩
  obtain⟨zU,E2,Bv⟩:∃X:Bool->Addr,X false=d0/\X true=d1:=⟨λj=>bif j then d1 else d0,rfl,rfl⟩
  obtain⟨I,Ss,Su⟩:∃X:Bool->Nat->Nat->Addr,X false=a0/\X true=a1:=⟨λj=>bif j then a1 else a0,rfl,rfl⟩
  obtain⟨y,Sv,F3⟩:∃X:Bool->Nat->Nat->Addr,X false=b0/\X true=b1:=⟨λj=>bif j then b1 else b0,rfl,rfl⟩
  ac_rfl;have hQ:kg C CN CR H8 n v x X zU (λ_=>RS.begin x ls) I y:=by
   refine⟨λj=>?_,λj=>?_,λj=>l,λj=>RS.Px.begin,λj=>by rw[Zd];simp⟩
   ·cases j with
    |false=>
     rw[hX0,Ss];calc Sn.weak t38 λb d=>.inr ?_;rcases d with d|d|d
     ·rw[Sv]at d;exact(t1.trans S).free (f6 b d)
     ·exact fr1 b (by rw[<-Su];calc d)
     ·calc(t1.trans (S.trans u)).free (f7 b (by rw[<-F3];calc d))
    |true=>
     rw[hX1,Su];calc Ub.weak t48 λb d=>?_;rcases d with d|d|d
     ·rw[F3]at d;exact .inr ((S.trans u).free (f7 b d))
     ·exact .inl (by rw[<-Ss];calc d)
     ·exact .inr (S.free (f6 b (by rw[<-Sv];calc d)))
   ·cases j with
    |false=>
     rw[E2,Sv];calc Sj.ON t68 λb d=>?_;rcases d with d|d|d
     ·exact .inl (.inl (by rw[<-Ss];calc d))
     ·exact .inl (.inr (by rw[<-Su];calc d))
     ·calc .inr (f7 b (by rw[<-F3];calc d) |> λe=>e)
    |true=>
     rw[Bv,F3];calc Tf.ON t5 λb d=>.inl ?_;rcases d with d|d|d
     ·exact .inl (.inr (by rw[<-Su];calc d))
     ·exact .inl (.inl (by rw[<-Ss];calc d))
     ·exact .inr (by rw[<-Sv];calc d)
  have nA:∀j b,FP x.n (I j) b->H1 b=none:=λj b d=>by
   cases j with
   |false=>calc n1 b (.inl (by rw[<-Ss];calc d))
   |true=>exact n1 b (.inr (by rw[<-Su];calc d))
  have nB:∀j b,FP x.n (y j) b->H1 b=none:=λj b d=>by
   cases j with
   |false=>calc Sr.free (f6 b (by rw[<-Sv];calc d))
   |true=>exact(Sr.trans u).free (f7 b (by rw[<-F3];calc d))
  have nlr:(∀j,¬FP x.n (I j) N)/\∀j,¬FP x.n (y j) N:=by
   refine⟨λj d=>?_,λj d=>?_⟩
   ·cases j with
    |false=>
     rw[Ss]at d;obtain⟨o,e,_⟩:=(Sn.same t1).bS.fp d;rw[ZQ]at e;cases e
    |true=>
     rw[Su]at d;obtain⟨o,e,_⟩:=Ub.bS.fp d;rw[ZQ]at e;cases e
   ·cases j with
    |false=>have:=f6 N (by rw[<-Sv];calc d);rw[ZR]at this;cases this
    |true=>have:=f7 N (by rw[<-F3];calc d);rw[u _ _ ZR]at this;cases this
  have nlt:(∀j,¬FP x.n (I j) lt)/\∀j,¬FP x.n (y j) lt:=by
   refine⟨λj d=>?_,λj d=>?_⟩
   ·cases j with
    |false=>
     rw[Ss]at d;obtain⟨o,e,_⟩:=(Sn.same (t1.trans (S.trans (u.trans t4)))).bS.fp d;rw[ko]at e;cases e
    |true=>
     rw[Su]at d;obtain⟨o,e,_⟩:=(Ub.same (S.trans (u.trans t4))).bS.fp d;rw[ko]at e;cases e
   ·cases j with
    |false=>
     rw[Sv]at d;obtain⟨o,e,_⟩:=(Sj.same t4).bS.fp d;rw[ko]at e;cases e
    |true=>
     rw[F3]at d;obtain⟨o,e,_⟩:=Tf.bS.fp d;rw[ko]at e;cases e
  have hk:∀Z:Addr->Prop,(∀b,Z b->H1 b=none)->∀{Ha Hb:Hp},Fr Z Ha Hb->aT K Ha a (ns.map V.int)->aT K Hb a (ns.map V.int):=λZ hZ Ha Hb f h=>by
   by_cases z:Z a
   ·rcases hS with(e | ⟨o,e⟩) | e
    ·have:=hZ a z;rw[s1 _ _ e]at this;cases this
    ·have:=hZ a z;rw[s1 _ _ e]at this;cases this
    ·exact .inr e
   ·exact Sk f z h
  have Yj:=(u.trans (t4.trans t5)) _ _ ZR;have sq8:aT K H8 a (ns.map V.int):=(s1.trans (Sr.trans (u.trans (t4.trans t5)))).seq hS;clear Sj Tf Sn Ub f6 f7 fr0 fr1 t38 t48 t68 t0 t1 S u t4 t5 t12 Sr n1 ZN ZQ ko ZR Tg Zc fd0 fd1 s2 s1;calc L2.bO λN5 h5=>?_;left;calc⟨_,rfl,_,rfl,_,sq8,λlc ZS=>?_⟩;have Yk:=au.new (.lst (fe (ns.map V.int) (some 9) (some 39))) ZS;have hQ9:=hQ.same Yk;have nlc:(∀j,¬FP x.n (I j) lc)/\∀j,¬FP x.n (y j) lc:=by
   refine⟨λj d=>?_,λj d=>?_⟩
   ·obtain⟨o,e,_⟩:=(hQ.run j).bS.fp d;rw[ZS]at e;cases e
   ·obtain⟨o,e,_⟩:=(hQ.twin j).bS.fp d;rw[ZS]at e;cases e
  have d:(fe (ns.map V.int) (some 9) (some 39)).length<=30:=Me (i:=9) (j:=39);have hci:∀c∈fe (ns.map V.int) (some 9) (some 39),∃z,c=.int z:=λc hc=>by
   obtain⟨z,_,rfl⟩:=List.mem_map.mp (Mf hc);exact⟨z,rfl⟩
  have Sw:F4 K a N lt lc ns [.ref U,.ref W] [.ref d0,.ref d1] (fe (ns.map V.int) (some 9) (some 39)) (upd H8 lc (.lst (fe (ns.map V.int) (some 9) (some 39)))):=⟨Yk.seq sq8,Yk _ _ Yj,Yk _ _ elt,af⟩
  generalize hG9:upd H8 lc (.lst (fe (ns.map V.int) (some 9) (some 39)))=G9 at *;generalize UG:fe (ns.map V.int) (some 9) (some 39)=cs at *;have kA:∀j {Ha Hb:Hp},Fr (FP x.n (I j)) Ha Hb->F4 K a N lt lc ns [.ref U,.ref W] [.ref d0,.ref d1] cs Ha->F4 K a N lt lc ns [.ref U,.ref W] [.ref d0,.ref d1] cs Hb:=λj Ha Hb f h=>⟨hk _ (nA j) f h.sq,f.at h.lr (nlr.1 j),f.at h.lt (nlt.1 j),f.at h.lc (nlc.1 j)⟩
  have kB:∀j {Ha Hb:Hp},Fr (FP x.n (y j)) Ha Hb->F4 K a N lt lc ns [.ref U,.ref W] [.ref d0,.ref d1] cs Ha->F4 K a N lt lc ns [.ref U,.ref W] [.ref d0,.ref d1] cs Hb:=λj Ha Hb f h=>⟨hk _ (nB j) f h.sq,f.at h.lr (nlr.2 j),f.at h.lt (nlt.2 j),f.at h.lc (nlc.2 j)⟩
  have Sx:∀j:Bool,hX [V.ref U,V.ref W] (if j=true then 1 else 0)=some (.ref (X j)):=λj=>by
   cases j with
   |false=>rw[hX0];calc az (j:=0) rfl
   |true=>rw[hX1];exact az (j:=1) rfl
  have O:∀j:Bool,hX [V.ref d0,V.ref d1] (if j=true then 1 else 0)=some (.ref (zU j)):=λj=>by
   cases j with
   |false=>rw[E2];calc az (j:=0) rfl
   |true=>rw[Bv];exact az (j:=1) rfl
  clear hk nA nB nlr nlt nlc hQ Yk ZS hG9 sq8 Yj elt adV adX LM pA Yh Yi;refine .inl ⟨⟨_,aT.of Sw.lc⟩,jI (K:=K) (xs:=cs) (λi σ H'=>(∃z5 z6 z7 z8 z9,σ=[some (V.ref a),some v,some (V.ref n),some (V.ref N),some (V.ref lt),z5,z6,z7,z8,z9])/\F4 K a N lt lc ns [.ref U,.ref W] [.ref d0,.ref d1] cs H'/\∃r,kg C CN CR H' n v x X zU r I y/\∀j,(r j).picks.length<=i) ?_ ?_ ?_ ?_⟩
  ·exact⟨⟨_,_,_,_,_,rfl⟩,Sw,_,hQ9,λj=>by rw[Zd];simp⟩
  ·rintro i σ H' d ⟨_,jV,_⟩;exact aT.of jV.lc
  ·intro i c σ Hq hc iS;nofun;obtain⟨⟨z5,z6,z7,z8,z9,rfl⟩,jV,r,hQ,Sy⟩:=iS;clear h5 hQ9 Sw;have d:i < 30:=by have:=(List.getElem?_eq_some_iff.mp hc).1;lia
   obtain⟨cz,rfl⟩:=hci c (aaf hc);obtain⟨j,hj⟩:∃j:Bool,cz%2=if j=true then 1 else 0:=by
    have:cz%2=0\/cz%2=1:=by lia
    rcases this with e|e
    ·exact⟨false,e⟩
    ·exact⟨true,e⟩
   ac_rfl;have T9:1-(if j=true then(1:Int) else 0)=if (!j)=true then 1 else 0:=by cases j<;>rfl
   calc L2.bO λg d=>?_;left;calc⟨∅,?_⟩;rw[hj];calc L2.bc d ?_;clear d;calc L2.bO λN7 h7=>?_;left;calc aZ jV.lt (O j) ?_;calc⟨⟨∅,⋯⟩,?_⟩;calc⟨_,zU j,v,x,r j,y j,_,rfl,hQ.twin j,λt0 m k d u1 ht=>?_⟩;nofun;obtain⟨ta,w1,w2,kz,rfl,vJ,y1,y2⟩:=cw ht;obtain rfl:=y1.cy;obtain rfl:=y2.cy;ac_rfl;calc yS (bJ.of vJ) ?_;show N7 _ _;calc L2.bc h7 ?_;clear h7;have d:=hQ.same u1;have g:=jV.same u1;clear hQ jV u1 vJ;dsimp only[List.set];calc L2.bO λo l=>?_;calc L2.cW λT0 U0 hT hU=>?_;left;calc aZ g.lr (Sx j) ?_;calc aZ g.lt (O j) ?_;calc J5.mk _ _ (X j) n (zU j) v x (r j) (I j) (y j) m k rfl (d.both j) λG2 u2=>?_;calc kT ?_;rw[if_neg ∅];calc L2.bc hU ?_;show o _ _;calc L2.bc l ?_;clear l hT hU;have B:=d.same u2;have M8:=g.same u2;clear d g u2;calc L2.bO λl h9=>?_;have w9:∀(J:Bool->RS) (G:Hp),kg C CN CR G n v x X zU J I y->(∀jj,(J jj).picks.length<=i+1)->(J (!j)).picks.length<=i->F4 K a N lt lc ns [.ref U,.ref W] [.ref d0,.ref d1] cs G->l [some (V.ref a),some v,some (V.ref n),some (V.ref N),some (V.ref lt),some (.int cz),some (.int (if j=true then 1 else 0)),some (.int m),some (.int k),z9] G:=λJ G d Si l g=>by
    calc L2.bc h9 ?_;clear h9;calc L2.bO λo l=>?_;left;rw[T9];calc aZ g.lt (O (!j)) ?_;calc⟨_,zU (!j),v,x,J (!j),y (!j),rfl,d.twin _,d.ok _,d.xS _,λu ys G5 s o bP Fx=>?_⟩;calc L2.bc l ?_;clear l;have hQ5:=d.same s;have Yl:=g.same s;clear d g;calc L2.bO λl o=>?_;have si:∀(s t:Option V) (J:Bool->RS) (G:Hp),kg C CN CR G n v x X zU J I y->(∀jj,(J jj).picks.length<=i+1)->F4 K a N lt lc ns [.ref U,.ref W] [.ref d0,.ref d1] cs G->l [some (V.ref a),some v,some (V.ref n),some (V.ref N),some (V.ref lt),some (.int cz),some (.int (if j=true then 1 else 0)),s,t,some (.ref u)] G:=λs t J G d Si g=>by
     calc L2.bc o ?_;clear o;left;calc⟨∅,?_⟩;by_cases l:cz%5=1
     ·rw[if_pos (by simpa using l)];calc aZ g.lr (by have:=Sx false;simpa using this) ?_;calc aZ g.lt (by have:=O false;simpa using this) ?_;calc qm.mk _ _ (X false) n (zU false) v x (J false) (I false) (y false) rfl (d.both false) λG2 u2=>?_;calc kT ?_;rw[if_pos rfl];calc aZ (g.same u2).lr (by have:=Sx true;simpa using this) ?_;calc aZ (g.same u2).lt (by have:=O true;simpa using this) ?_;calc qm.mk _ _ (X true) n (zU true) v x (J true) (I true) (y true) rfl ((d.same u2).both true) λG3 u3=>?_;calc kT ?_;rw[if_neg ∅];left;refine⟨?_,(g.same u2).same u3,J,(d.same u2).same u3,Si⟩
      first
       |calc⟨_,_,_,_,_,rfl⟩
       |exact⟨_,_,_,_,_,rfl,rfl,rfl,rfl,rfl⟩
     ·rw[if_neg (by simpa using l),if_neg ∅];left;refine⟨?_,g,J,d,Si⟩
      first
       |calc⟨_,_,_,_,_,rfl⟩
       |exact⟨_,_,_,_,_,rfl,rfl,rfl,rfl,rfl⟩
    clear o;left;calc⟨aab _,λp g=>?_⟩;have d:=au.new (.lst []) g;have DM:=hQ5.same d;have Sz:=Yl.same d;have M9:=d _ _ bP;have Ym:=Fx.aK d.aS;have hep:upd G5 p (.lst []) p=some (.lst []):=af;generalize hGp:upd G5 p (.lst [])=Gp at *;clear hQ5 Yl bP Fx;by_cases hy:ys=[]
    ·subst hy;calc .inl ⟨.inr ⟨_,_,[],[],rfl,rfl,.inr ⟨aT.of M9,aT.of hep⟩,rfl,λj u v M=>by simp at M⟩,?_⟩;rw[if_neg ∅];left;exact si _ _ _ _ DM Si Sz
    calc .inr ⟨⟨ys,[],λh=>hy (List.length_eq_zero_iff.mp h),.inl ⟨aT.of M9,aT.of hep⟩⟩,?_⟩;rw[if_pos trivial];left;have d:0<ys.length:=List.length_pos_iff.mpr hy;nofun;obtain⟨kf,ad7⟩:∃kf:Nat,cz/3%(ys.length:Int)=kf:=⟨(cz/3%(ys.length:Int)).toNat,by have:=aa2 (cz/3) (show(ys.length:Int)≠0 by lia);lia⟩
    have FH:kf<ys.length:=by have:=aaJ (cz/3) (show(0:Int)<ys.length by lia);lia
    have hlen:ys.length=(ku x (J (!j)) x.ws.length).length:=by simpa using Ym.1
    have hkf:kf<(ku x (J (!j)) x.ws.length).length:=by lia
    have hel:=Ym.2 kf ys[kf] _ (di FH) (by rw[List.getElem?_map,di hkf];rfl);have yl:=aaa hkf;generalize (ku x (J (!j)) x.ws.length)[kf]=pr at *;obtain⟨wy,num⟩:=pr;have BR:=JK (DM.ok _) yl;obtain⟨ta,u1,u2,kz,eta,vJ,y1,y2⟩:=cw hel;obtain rfl:=y1.cy;obtain rfl:=y2.cy;ac_rfl;calc⟨⟨∅,⋯⟩,_,.inl ⟨_,aT.of M9,rfl⟩,(),_,_,.inl (aT.of M9),by rw[ad7];calc az (di FH),?_⟩;rw[eta];calc yS (bJ.of vJ) ?_;left;rw[T9];calc aZ Sz.lr (Sx (!j)) ?_;obtain⟨g,l,d,h⟩:=(DM.run (!j)).ins;calc mth d (eE ⋯) ?_;refine JC.mk (FR x I y (!j)) (X (!j)) n x (J (!j)) (I (!j)) ((wy:Nat):Int) ((num:Nat):Int) rfl (DM.run _) (DM.zA _) (DM.ok _) (DM.xS _) (λR L Y e2 rX t1 g f6 hR6 hE6=>?_) (λno=>absurd ⟨wy,num,rfl,rfl,BR.lt,BR.lies⟩ no) (λR L Y e2 _ _ nc=>absurd (by
     nofun;obtain rfl:wy=R:=by lia
     obtain rfl:num=L:=by lia
     ac_rfl;calc BR) nc)
    nofun;obtain rfl:wy=R:=by lia
    obtain rfl:num=L:=by lia
    ac_rfl;have Yn:=kA (!j) f6 Sz;calc aZ Yn.lt (O (!j)) ?_;calc xC.mk (FT x I y (!j)) (zU (!j)) v x (J (!j)) (y (!j)) wy num rfl (DM.tw _ f6) (DM.ZM _ f6 hR6) (DM.ok _) BR (DM.xS _) λS g f7 d hE7=>?_;have Yo:=RS.Ok.pick Yg (DM.ok (!j)) (k:=num) BR.lt;have Yp:((J (!j)).pick x wy num).picks.length<=i+1:=by rw[Yo.2];simp;lia
    have hQ7:=DM.step (!j) f6 hR6 f7 d Yo.1 ((DM.px (!j)).pick BR.lies BR.row) ();have hp7:∀jj,((λg=>if g=(!j) then(J (!j)).pick x wy num else J g) jj).picks.length<=i+1:=λjj=>by
     show(if jj=(!j) then _ else _:RS).picks.length<=_;split
     ·exact Yp
     ·exact Si jj
    have ad8:=kB (!j) f7 Yn;nofun;obtain⟨b1,_,_,_,rfl,_,_,_⟩:=cw (id hE6);obtain⟨b2,_,_,_,rfl,_,_,_⟩:=cw (id hE7);ac_rfl;left;refine .inl ⟨wW (hE6.aK f7.aS) hE7 ∅,?_⟩
    try refine⟨_,rfl,?_⟩
    rw[if_neg ∅];left;exact si _ _ _ _ hQ7 hp7 ad8
   clear h9;calc L2.cW λT0 U0 hT hU=>?_;have nxt:∀(J:Bool->RS) (G:Hp),kg C CN CR G n v x X zU J I y->(∀jj,(J jj).picks.length<=i+1)->(J (!j)).picks.length<=i->F4 K a N lt lc ns [.ref U,.ref W] [.ref d0,.ref d1] cs G->U0 [some (V.ref a),some v,some (V.ref n),some (V.ref N),some (V.ref lt),some (.int cz),some (.int (if j=true then 1 else 0)),some (.int m),some (.int k),z9] G:=λJ G d g h l=>by
    calc L2.bc hU ?_;exact w9 J G d g h l
   clear w9 hU;have XR:∀(t1 S:V) (g d:DV) (G:Hp),HT G 1 t1 (.tup [g,d])->HT G 1 S (.tup [g,d])->U0 [some (V.ref a),some v,some (V.ref n),some (V.ref N),some (V.ref lt),some (.int cz),some (.int (if j=true then 1 else 0)),some (.int m),some (.int k),z9] G->QZ K t1 S G (L2.bB λh H'=>if h=true then T0 [some (V.ref a),some v,some (V.ref n),some (V.ref N),some (V.ref lt),some (.int cz),some (.int (if j=true then 1 else 0)),some (.int m),some (.int k),z9] H' else U0 [some (V.ref a),some v,some (V.ref n),some (V.ref N),some (V.ref lt),some (.int cz),some (.int (if j=true then 1 else 0)),some (.int m),some (.int k),z9] H'):=λt1 S g d G Y e2 hu'=>by
    nofun;obtain⟨b1,_,_,_,rfl,_,_,_⟩:=cw (id Y);obtain⟨b2,_,_,_,rfl,_,_,_⟩:=cw (id e2);ac_rfl;calc .inl ⟨wW Y e2 ∅,?_⟩;calc kT ?_;rw[if_neg ∅];exact hu'
   left;calc aZ M8.lr (Sx j) ?_;by_cases hl:Lies x (r j) m k
   ·obtain⟨w,ii,d,g,h,l⟩:=id hl;by_cases hc:(r j).BD x w ii
    ·refine tS.mk (FR x I y j) (X j) n x (r j) (I j) m k rfl (B.run j) (B.zA j) (B.ok j) (B.xS j) (λR L Y e2 rX t1 G3 f3 hR3 Yq=>?_) (λno=>absurd hl no) (λR L Y e2 _ _ nc=>absurd (by
      nofun;obtain rfl:w=R:=by lia
      obtain rfl:ii=L:=by lia
      ac_rfl;calc hc) nc)
     have zV:=kA j f3 M8;calc aZ zV.lt (O j) ?_;refine ph.mk (FT x I y j) (zU j) v x (r j) (y j) m k rfl (B.tw j f3) (B.ZM j f3 hR3) (B.ok j) (B.px j) (B.xS j) (λw3 i3 e3 e4 d S G4 f4 hT4 Yr=>?_) (λno=>absurd hl no) (λR L Y e2 _ _ nc=>absurd (by
      nofun;obtain rfl:w=R:=by lia
      obtain rfl:ii=L:=by lia
      ac_rfl;calc hc) nc)
     nofun;obtain rfl:R=w3:=by lia
     obtain rfl:L=i3:=by lia
     ac_rfl;have Yo:=RS.Ok.pick Yg (B.ok j) (k:=L) rX.lt;have hlen:((r j).pick x R L).picks.length<=i+1:=by rw[Yo.2];have:=Sy j;simp;lia
     refine XR _ _ _ _ _ (Yq.aK f4.aS) Yr (nxt _ _ (B.step j f3 hR3 f4 hT4 Yo.1 ((B.px j).pick rX.lies rX.row) ()) (λjj=>?_) ?_ (kB j f4 zV))
     ·show(if jj=j then _ else _:RS).picks.length<=_;split
      ·exact hlen
      ·have:=Sy jj;lia
     ·show(if (!j)=j then _ else _:RS).picks.length<=i;rw[if_neg (by cases j<;>decide)];exact Sy _
    ·refine tS.mk (FR x I y j) (X j) n x (r j) (I j) m k rfl (B.run j) (B.zA j) (B.ok j) (B.xS j) (λR L Y e2 rX=>absurd rX (by
        nofun;obtain rfl:w=R:=by lia
        obtain rfl:ii=L:=by lia
        ac_rfl;calc hc)) (λno=>absurd hl no) (λR L Y e2 _ _ _ t1 G3 s3 Yq=>?_)
     have Na:=B.same s3;have zV:=M8.same s3;calc aZ zV.lt (O j) ?_;refine ph.mk (FT x I y j) (zU j) v x (r j) (y j) m k rfl (Na.twin j) (Na.ZM j (au.refl _).fr (Na.run j)) (B.ok j) (B.px j) (B.xS j) (λR L Y e2 rX=>absurd rX (by
        nofun;obtain rfl:w=R:=by lia
        obtain rfl:ii=L:=by lia
        ac_rfl;calc hc)) (λno=>absurd hl no) (λw3 i3 e3 e4 _ _ _ S G4 d Yr=>?_)
     exact XR _ _ _ _ _ (Yq.aK d.aS) Yr (nxt _ _ (Na.same d) (λjj=>by have:=Sy jj;lia) (Sy _) (zV.same d))
   ·calc tS.mk (FR x I y j) (X j) n x (r j) (I j) m k rfl (B.run j) (B.zA j) (B.ok j) (B.xS j) (λR L Y e2 rX=>absurd ⟨R,L,Y,e2,rX.lt,rX.lies⟩ hl) (λ_ t1 G3 s3 Yq=>?_) (λR L Y e2 h1 h2 _=>absurd ⟨R,L,Y,e2,h1,h2⟩ hl);have Na:=B.same s3;have zV:=M8.same s3;calc aZ zV.lt (O j) ?_;calc ph.mk (FT x I y j) (zU j) v x (r j) (y j) m k rfl (Na.twin j) (Na.ZM j (au.refl _).fr (Na.run j)) (B.ok j) (B.px j) (B.xS j) (λR L Y e2 rX=>absurd ⟨R,L,Y,e2,rX.lt,rX.lies⟩ hl) (λ_ S G4 d Yr=>?_) (λR L Y e2 h1 h2 _=>absurd ⟨R,L,Y,e2,h1,h2⟩ hl);exact XR _ _ _ _ _ (Yq.aK d.aS) Yr (nxt _ _ (Na.same d) (λjj=>by have:=Sy jj;lia) (Sy _) (zV.same d))
  intro σ H6 jc;obtain⟨⟨z5,z6,z7,z8,z9,rfl⟩,jV,r,hQ,_⟩:=jc;show N5 _ _;calc L2.bc h5 ?_;left;calc aZ jV.lr (by have:=Sx false;simpa using this) ?_;calc aZ jV.lt (by have:=O false;simpa using this) ?_;calc qm.mk _ _ (X false) n (zU false) v x (r false) (I false) (y false) rfl (hQ.both false) λG2 u2=>?_;calc bL true rfl ?_;rw[if_pos rfl];calc aZ (jV.same u2).lr (by have:=Sx true;simpa using this) ?_;calc aZ (jV.same u2).lt (by have:=O true;simpa using this) ?_;calc qm.mk _ _ (X true) n (zU true) v x (r true) (I true) (y true) rfl ((hQ.same u2).both true) λG3 u3=>q _
end
end FL
namespace FL
open PySem L2 DD
variable {B:Addr}{p0 p1:Str}{K:W.Frag}
structure iV(K:W.Frag)(B C:Addr)(x:Str):Prop where
 ax:W.nsIn K mainGlobals x=some (some (.ref C))
 ob:∃nm q N bs sn sub ab col dd k0 k1 k2 k3 k5,K.lookup C=some (excClassObj nm q C N bs (.ref B::tX) true sn sub ab col dd k0 k1 k2 k3 k5 "ValueError.__new__")
 ga:W.findIn K (.ref C) "__getattribute__"=some (some (.builtin "BaseException.__getattribute__"))
 gt:W.findIn K (.ref C) "__getattr__"=some none
 sa:W.findIn K (.ref C) "__setattr__"=some (some (.builtin "object.__setattr__"))
 cl:W.findIn K (.ref C) "__class__"=some (some (.builtin "object.__class__"))
 kp:W.keepIn K (.ref C)=true
theorem Ys{C:Addr}{x c q:Str}{N:Addr}{bs a:List Value}{d:List Str}{e:Bool}{b:Option Bool}{f:Option Addr}{g h i j k:Option Value}(l:W.nsIn K mainGlobals x=some (some (.ref C)))(m:K.lookup C=some (excClassObj c q C N bs (.ref B::tX) true d a e b f g h i j k "ValueError.__new__"))
  (a:W.findIn K (.ref C) "__getattribute__"=some (some (.builtin "BaseException.__getattribute__"))) (b:W.findIn K (.ref C) "__getattr__"=some none) (c:W.findIn K (.ref C) "__setattr__"=some (some (.builtin "object.__setattr__"))) (d:W.findIn K (.ref C) "__class__"=some (some (.builtin "object.__class__"))) (e:W.keepIn K (.ref C)=true):iV K B C x:=
 ⟨l,⟨_,_,_,_,_,_,_,_,_,_,_,_,_,_,m⟩,a,b,c,d,e⟩
theorem iV.cls{C:Addr}{x:Str}(h:iV K B C x)(a:W.specialIn K (.builtin "object.__class__") "__get__"=some (some (.builtin "getset_descriptor.__get__")))(ct:W.takesIn K (.builtin "object.__class__")=some true):fU K C B:=
 ⟨h.ob,h.ga,h.gt,h.sa,h.cl,a,ct,h.kp⟩
def FnAt(K:W.Frag)(f:Addr)(x q:Str)(a:Stmt):Prop:=∃od c d e kV g h b ct,K.lookup f=some ⟨e,od,.func (W.fnOf x q (eP a) (cB a) (aA a) .none kV g h c b ct),d⟩/\W.codeIn K b q=true/\W.keepIn K (.ref f)=true
def DF(K:W.Frag)(x:Str)(a:Stmt):Prop:=∃f,W.nsIn K mainGlobals x=some (some (.ref f))/\FnAt K f x x a
def MF(K:W.Frag)(C:Addr)(m q:Str)(a:Stmt):Prop:=∃f,W.findIn K (.ref C) m=some (some (.ref f))/\W.isFn K (.ref f)=true/\FnAt K f m q a
def Nb(x q:Str)(a:Stmt)(c:List Str):Prop:=∀(kV b d:Value) (e:Option Addr) (f ct:Value) (us:List Value),us.length=c.length->bindArgs (W.fnOf x q (eP a) (cB a) (aA a) .none kV b d e f ct) ⟨us,[]⟩=pure (c.zip us)
section
variable {K:W.Frag}{h:Heap}{mg:Str->Option Value}{x m q:Str}{C f:Addr}{st:Stmt}{ps:List Str}{od an:Option Addr}{sl:Array (Option Value)}{oc kV dc pm cd ct:Value}
theorem OO(a:W.nsIn K mainGlobals x=some (some (.ref f)))(l:K.lookup f=some ⟨oc,od,.func (W.fnOf x x (eP st) (cB st) (aA st) .none kV dc pm an cd ct),sl⟩)(c:W.codeIn K cd x=true)(k:W.keepIn K (.ref f)=true):DF K x st:=⟨f,a,_,_,_,_,_,_,_,_,_,l,c,k⟩
theorem OP(a:W.findIn K (.ref C) m=some (some (.ref f)))(i:W.isFn K (.ref f)=true)(l:K.lookup f=some ⟨oc,od,.func (W.fnOf m q (eP st) (cB st) (aA st) .none kV dc pm an cd ct),sl⟩)(c:W.codeIn K cd q=true)(k:W.keepIn K (.ref f)=true):MF K C m q st:=⟨f,a,i,_,_,_,_,_,_,_,_,_,l,c,k⟩
theorem bg(X:K.In h)(G:h.Ns mainGlobals mg)(d:DF K x st)(b:Nb x x st ps):dq K mg x x st ps:=by
 obtain⟨f,a,_,_,_,_,_,_,_,_,_,l,c,k⟩:=d;calc⟨_,_,jX l c k,W.mg_of X G a,(jX l c k).binds b⟩
theorem cu(d:MF K C m q st)(b:Nb m q st ps):gj K C m q st ps:=by
 obtain⟨f,a,i,_,_,_,_,_,_,_,_,_,l,c,k⟩:=d;calc⟨_,_,⟨a,i,k⟩,jX l c k,(jX l c k).binds b⟩
theorem xH(X:K.In h)(G:h.Ns mainGlobals mg)(e:W.makesIn K C=true)(g:W.keepIn K (.ref C)=true)(d:MF K C "__init__" q st)(j:W.nsIn K mainGlobals x=some (some (.ref C)))(b:Nb "__init__" q st ps):Er K mg x C q st ps:=by
 obtain⟨f,a,i,_,_,_,_,_,_,_,_,_,l,c,k⟩:=d;calc⟨⟨_,_,⟨e,a,i,g⟩,jX l c k,(jX l c k).binds b⟩,W.mg_of X G j⟩
theorem DN(X:K.In h)(G:h.Ns mainGlobals mg)(e:fU K C B)(d:MF K C "__init__" q st)(g:W.nsIn K mainGlobals x=some (some (.ref C)))(b:Nb "__init__" q st ps):Ia K mg x C B q st ps:=by
 obtain⟨f,a,i,_,_,_,_,_,_,_,_,_,l,c,k⟩:=d;calc⟨e,⟨_,_,a,i,jX l c k,(jX l c k).binds b⟩,W.mg_of X G g⟩
theorem nK{us:List Value}{n:Nat}(h:us.length=n+1):∃x r,us=x::r/\r.length=n:=by
 cases us with
 |nil=>cases h
 |cons x r=>calc⟨x,r,rfl,Nat.succ.inj h⟩
theorem nL(e:∀(kV a pm:Value) (an:Option Addr) (c ct b:Value),bindArgs (W.fnOf x q (eP st) (cB st) (aA st) .none kV a pm an c ct) ⟨[b],[]⟩=pure ([p0].zip [b])):Nb x q st [p0]:=λkV a pm an c ct g d=>by
 obtain⟨b,h,rfl,f⟩:=nK d
 cases List.length_eq_zero_iff.mp f;calc e ..
theorem iJ(e:∀(kV a pm:Value) (an:Option Addr) (d ct b c:Value),bindArgs (W.fnOf x q (eP st) (cB st) (aA st) .none kV a pm an d ct) ⟨[b,c],[]⟩=pure ([p0,p1].zip [b,c])):Nb x q st [p0,p1]:=λkV a pm an d ct i f=>by
 obtain⟨b,j,rfl,g⟩:=nK f;obtain⟨c,k,rfl,h⟩:=nK g
 cases List.length_eq_zero_iff.mp h;calc e ..
theorem nM{f:Str}(e:∀(kV a pm:Value) (an:Option Addr) (g ct b c d:Value),bindArgs (W.fnOf x q (eP st) (cB st) (aA st) .none kV a pm an g ct) ⟨[b,c,d],[]⟩=pure ([p0,p1,f].zip [b,c,d])):Nb x q st [p0,p1,f]:=λkV a pm an g ct f h=>by
 obtain⟨b,l,rfl,i⟩:=nK h;obtain⟨c,m,rfl,j⟩:=nK i;obtain⟨d,n,rfl,k⟩:=nK j
 cases List.length_eq_zero_iff.mp k;calc e ..
theorem rA{g h:Str}(e:∀(kV a pm:Value) (an:Option Addr) (i ct b c d f:Value),bindArgs (W.fnOf x q (eP st) (cB st) (aA st) .none kV a pm an i ct) ⟨[b,c,d,f],[]⟩=pure ([p0,p1,g,h].zip [b,c,d,f])):Nb x q st [p0,p1,g,h]:=λkV a pm an i ct g j=>by
 obtain⟨b,o,rfl,k⟩:=nK j;obtain⟨c,p,rfl,l⟩:=nK k;obtain⟨d,r,rfl,m⟩:=nK l;obtain⟨f,s,rfl,n⟩:=nK m
 cases List.length_eq_zero_iff.mp n;calc e ..
theorem SA{h i j:Str}(e:∀(kV a pm:Value) (an:Option Addr) (k ct b c d f g:Value),bindArgs (W.fnOf x q (eP st) (cB st) (aA st) .none kV a pm an k ct) ⟨[b,c,d,f,g],[]⟩=pure ([p0,p1,h,i,j].zip [b,c,d,f,g])):Nb x q st [p0,p1,h,i,j]:=λkV a pm an k ct h l=>by
 obtain⟨b,s,rfl,m⟩:=nK l;obtain⟨c,t,rfl,n⟩:=nK m;obtain⟨d,u,rfl,o⟩:=nK n;obtain⟨f,v,rfl,p⟩:=nK o;obtain⟨g,w,rfl,r⟩:=nK p
 cases List.length_eq_zero_iff.mp r;calc e ..
end
theorem all_mk{l:W.OpenLaw}{w:World}{h:Heap}{U:Str->Option Value}{fa C R CR F n o p q g k r t u x m y z I J L M N O:Addr}(X:K.In h)(G:h.Ns mainGlobals U)(hfa:U "law"=some (.ref fa))
  {cdB:ClassData} (aB:W.nsIn K mainGlobals "NetError"=some (some (.ref B))) (VC:W.clsIn K B=some cdB) (tyB:W.typeIn K (.ref B)=some (.type "type"))
  {aeb q_B:Str} {N_B:Addr} {aec Yt:List Value} {aed:List Str} {aee:Bool} {Yu:Option Bool} {aef:Option Addr} {aeg aeh aei aej aek:Option Value} (SD:K.lookup B=some (excClassObj aeb q_B B N_B aec tX true aed Yt aee Yu aef aeg aeh aei aej aek "ValueError.__new__")) (Fl:iV K B n "BadMachine") (Nc:iV K B o "BadDeed") (Fm:iV K B p "NoText") (Fo:iV K B q "BadNet") (Fp:iV K B g "NoLetter") (Fq:iV K B k "NotFirst") (Fs:iV K B r "NoCount") (Ft:iV K B t "NoEvent") (Nd:iV K B u "Orphaned") (Fu:iV K B x "TooMany") (DO:iV K B m "NoLine") (vT:iV K B y "NoMachine") (DP:iV K B z "NotRow") (vU:iV K B I "Busy") (DQ:iV K B J "NotReached") (vV:iV K B L "NoMark") (vW:iV K B M "NoRow") (vX:iV K B N "NoName") (vY:iV K B O "NoDeed") (fY:W.findIn K (.ref o) "at"=some none) (cI:W.findIn K (.ref g) "at"=some none) (cX:W.findIn K (.ref k) "at"=some none) (dE:W.findIn K (.ref u) "letter"=some none) (eY:W.findIn K (.ref m) "falls"=some none) (eC:W.findIn K (.ref m) "letter"=some none) (fZ:W.findIn K (.ref z) "way"=some none) (cN:W.findIn K (.ref J) "machine"=some none) (SE:W.findIn K (.ref n) "__init__"=some (some (.builtin "ValueError.__init__"))) (SG:W.findIn K (.ref p) "__init__"=some (some (.builtin "ValueError.__init__"))) (SH:W.findIn K (.ref q) "__init__"=some (some (.builtin "ValueError.__init__"))) (SI:W.findIn K (.ref r) "__init__"=some (some (.builtin "ValueError.__init__"))) (SJ:W.findIn K (.ref t) "__init__"=some (some (.builtin "ValueError.__init__"))) (SK:W.findIn K (.ref x) "__init__"=some (some (.builtin "ValueError.__init__"))) (Ka:W.findIn K (.ref y) "__init__"=some (some (.builtin "ValueError.__init__"))) (Kb:W.findIn K (.ref I) "__init__"=some (some (.builtin "ValueError.__init__"))) (Kc:W.findIn K (.ref L) "__init__"=some (some (.builtin "ValueError.__init__"))) (Ke:W.findIn K (.ref M) "__init__"=some (some (.builtin "ValueError.__init__"))) (Kf:W.findIn K (.ref N) "__init__"=some (some (.builtin "ValueError.__init__"))) (Kg:W.findIn K (.ref O) "__init__"=some (some (.builtin "ValueError.__init__"))) (pq:W.nsIn K mainGlobals "Machine"=some (some (.ref C))) (Nf:W.nsIn K mainGlobals "Net"=some (some (.ref R))) (Ng:W.nsIn K mainGlobals "Run"=some (some (.ref CR))) (lO:DF K "_law_begun" lE) (lP:DF K "_law_drawn" lK) (lQ:DF K "_law_lying" lC) (lR:DF K "_law_worth" lj) (kh:DF K "_law_worked" j9) (nN:DF K "_law_pick" nE) (qA:DF K "_law_due" ql) (nO:DF K "_law_free" nC) (tU:DF K "_law_at" sT) (lS:DF K "_law_digit" kX) (lT:DF K "_law_value" k7) (nQ:DF K "_law_deed" mX) (jA:DF K "_law_machine" jh) (qB:DF K "_law_pot" pT) (qC:DF K "_law_net" qj) (qD:DF K "form_of" pV) (nR:DF K "is_whole" mS) (lU:DF K "is_within" kW) (nS:DF K "is_value" mT) (qE:DF K "is_part" pW) (qF:DF K "is_deed" pX) (iK:DF K "refuse_deeds" ip) (qG:DF K "is_list" pU) (jB:DF K "are_counted" je) (gC:DF K "refuse_machine" gq) (qH:MF K C "__init__" "Machine.__init__" p8) (lV:DF K "is_letter" kZ) (tW:DF K "is_way" sY) (ki:DF K "refuse_net" j4) (Kh:MF K R "__init__" "Net.__init__" Jn) (iL:DF K "_law_net_made" iF) (nU:DF K "_law_word" nH) (nV:MF K g "__init__" "NoLetter.__init__" nj) (iM:MF K CR "need_way" "Run.need_way" iB) (lW:MF K CR "lying" "Run.lying" lB) (iN:MF K CR "put_many" "Run.put_many" iC) (gi:MF K CR "need_letter" "Run.need_letter" gh) (nW:MF K CR "said" "Run.said" nv) (jC:MF K CR "sent_by" "Run.sent_by" jy) (gV:MF K CR "worked_by" "Run.worked_by" gT) (lX:DF K "_law_asked" lH) (fc:DF K "_law_refusals_right" e9) (fJ:MF K CR "need_machine" "Run.need_machine" fH) (lY:MF K CR "count" "Run.count" ly) (iO:MF K CR "schedule" "Run.schedule" iD) (lZ:MF K CR "state" "Run.state" lx) (kj:DF K "_law_stands" ke) (gD:DF K "change_numbers" gs) (kl:DF K "change_row" j5) (nX:DF K "left_out" m7) (l7:DF K "values_of" k9) (jD:DF K "plain_worth" ji) (nY:DF K "worth_of" mZ) (gE:MF K C "worked" "Machine.worked" gu) (iP:MF K R "machines" "Net.machines" iy) (nZ:MF K R "ways" "Net.ways" ni) (jE:MF K R "ways_at" "Net.ways_at" jm) (jF:MF K R "ways_in" "Net.ways_in" jo) (iQ:MF K R "ways_out" "Net.ways_out" iA) (n0:MF K k "__init__" "NotFirst.__init__" nk) (gW:MF K CR "need_pick" "Run.need_pick" gQ) (gF:MF K CR "put_letter" "Run.put_letter" gw) (jG:MF K CR "pick_at" "Run.pick_at" jq) (oa:MF K CR "pick" "Run.pick" ny) (l8:DF K "_law_tried" lG) (eN:MF K C "first_state" "Machine.first_state" eJ) (jH:MF K R "letters" "Net.letters" jl) (Ki:MF K CR "__init__" "Run.__init__" JF) (Kj:DF K "law" vS) (qI:W.plainGet K C Str.empty=true) (qJ:W.hasDictIn K C=true) (qK:W.plainOver K C=true) (qL:W.findIn K (.ref C) "__setattr__"=some (some (.builtin "object.__setattr__"))) (qM:W.makesIn K C=true) (qN:W.keepIn K (.ref C)=true) (EG:W.findIn K (.ref C) "__class__"=some (some (.builtin "object.__class__"))) (EH:W.mroIn K C (.type "object")=some true) (NP:W.findIn K (.ref C) "own_modulus"=some none) (Q4:W.findIn K (.ref C) "own_state"=some none) (NQ:W.findIn K (.ref C) "own_deeds"=some none) (Kk:W.plainGet K R Str.empty=true) (Kl:W.hasDictIn K R=true) (Km:W.plainOver K R=true) (Kn:W.findIn K (.ref R) "__setattr__"=some (some (.builtin "object.__setattr__"))) (Ko:W.makesIn K R=true) (Kp:W.keepIn K (.ref R)=true) (IJ:W.findIn K (.ref R) "__class__"=some (some (.builtin "object.__class__"))) (IK:W.mroIn K R (.type "object")=some true) (yU:W.findIn K (.ref R) "own_machines"=some none) (yV:W.findIn K (.ref R) "own_ways"=some none) (Bi:W.findIn K (.ref R) "own_letters"=some none) (Kq:W.plainGet K CR Str.empty=true) (Kr:W.hasDictIn K CR=true) (Ks:W.plainOver K CR=true) (Kt:W.findIn K (.ref CR) "__setattr__"=some (some (.builtin "object.__setattr__"))) (Ku:W.makesIn K CR=true) (Kv:W.keepIn K (.ref CR)=true) (IL:W.findIn K (.ref CR) "__class__"=some (some (.builtin "object.__class__"))) (IM:W.mroIn K CR (.type "object")=some true) (df:W.findIn K (.ref CR) "own_net"=some none) (cY:W.findIn K (.ref CR) "picks_done"=some none) (b8:W.findIn K (.ref CR) "states_had"=some none) (d9:W.findIn K (.ref CR) "words_had"=some none) (cZ:W.findIn K (.ref CR) "words_said"=some none) (bF:W.findIn K (.ref CR) "letters_say"=some none) (eZ:W.findIn K (.ref CR) "senders"=some none) (cU:W.findIn K (.ref CR) "workers"=some none) (a:W.specialIn K (.builtin "object.__class__") "__get__"=some (some (.builtin "getset_descriptor.__get__"))) (b:W.takesIn K (.builtin "object.__class__")=some true)
  (km:W.nsIn K mainGlobals "isinstance"=some none) (Kw:W.nsIn K mainGlobals "int"=some none) (BS:W.nsIn K mainGlobals "bool"=some none) (Kx:W.nsIn K mainGlobals "str"=some none) (xI:W.nsIn K mainGlobals "tuple"=some none) (BU:W.nsIn K mainGlobals "list"=some none) (Ky:W.nsIn K mainGlobals "len"=some none) (xJ:W.nsIn K mainGlobals "range"=some none) (Kz:W.nsIn K mainGlobals "min"=some none) (KA:W.nsIn K mainGlobals "max"=some none) (KC:W.nsIn K mainGlobals "all"=some none) (KD:W.nsIn K mainGlobals "any"=some none) (KG:W.nsIn K mainGlobals "zip"=some none) (l9:W.nsIn K mainGlobals "enumerate"=some none) (kn:W.nsIn K mainGlobals "ValueError"=some none) {uL:Tok} (dZ:W.nsIn K mainGlobals "MOST_DEEDS"=some (some (.int 24 uL))) {rB:Tok} (dN:W.nsIn K mainGlobals "MOST_MODULUS"=some (some (.int 1000000000000 rB))) {rC:Tok} (dO:W.nsIn K mainGlobals "MOST_NUMBERS"=some (some (.int 4 rC))) {zW:Tok} (fG:W.nsIn K mainGlobals "MOST_ROW"=some (some (.int 12 zW))) {qO:Tok} (dA:W.nsIn K mainGlobals "MOST_MACHINES"=some (some (.int 5 qO))) {xK:Tok} (fL:W.nsIn K mainGlobals "MOST_WAYS"=some (some (.int 10 xK))) {rD:Tok} (dP:W.nsIn K mainGlobals "MOST_LETTERS"=some (some (.int 20 rD))) {uM:Tok} (d7:W.nsIn K mainGlobals "SAID_BOUND"=some (some (.int 1000000000000000000000000000000000000000000000000000000000000 uM)))
  {fh0 fh1 fh2 fh3 fh4 fh5 fh6 fh7:Int} {fk0 fk1 fk2 fk3 fk4 fk5 fk6 fk7:Tok} {Y Z Ue Ug Uh Ui Uj Uk:Addr} {fep:Nat}
  (aF:W.nsIn K mainGlobals "FORMS"=some (some (.ref F))) (lF:K.lookup F=some {cls:=.type "dict",dict:=none,data:=.dict #[⟨fh0,.str "set" fk0,.ref Y⟩,⟨fh1,.str "add" fk1,.ref Z⟩,⟨fh2,.str "times" fk2,.ref Ue⟩,⟨fh3,.str "put" fk3,.ref Ug⟩,⟨fh4,.str "drop" fk4,.ref Uh⟩,⟨fh5,.str "send" fk5,.ref Ui⟩,⟨fh6,.str "say" fk6,.ref Uj⟩,⟨fh7,.str "skip" fk7,.ref Uk⟩] fep,slots:=#[]}) (neF:(F==sysModules)=false) {OQ OS:Tok} {fo0:Option Addr} {fn0:Nat} {fs0:Array (Option Value)} (lP0:K.lookup Y=some ⟨.type "tuple",fo0,.seq #[.str "number" OQ,.str "value" OS] fn0,fs0⟩) {OT OU:Tok} {fo1:Option Addr} {fn1:Nat} {fs1:Array (Option Value)} (lP1:K.lookup Z=some ⟨.type "tuple",fo1,.seq #[.str "number" OT,.str "value" OU] fn1,fs1⟩) {OV OW:Tok} {fo2:Option Addr} {fn2:Nat} {fs2:Array (Option Value)} (lP2:K.lookup Ue=some ⟨.type "tuple",fo2,.seq #[.str "number" OV,.str "value" OW] fn2,fs2⟩) {OX:Tok} {fo3:Option Addr} {fn3:Nat} {fs3:Array (Option Value)} (lP3:K.lookup Ug=some ⟨.type "tuple",fo3,.seq #[.str "value" OX] fn3,fs3⟩) {fo4:Option Addr} {fn4:Nat} {fs4:Array (Option Value)} (lP4:K.lookup Uh=some ⟨.type "tuple",fo4,.seq #[] fn4,fs4⟩) {OY OZ:Tok} {fo5:Option Addr} {fn5:Nat} {fs5:Array (Option Value)} (lP5:K.lookup Ui=some ⟨.type "tuple",fo5,.seq #[.str "way" OY,.str "value" OZ] fn5,fs5⟩) {O0:Tok} {fo6:Option Addr} {fn6:Nat} {fs6:Array (Option Value)} (lP6:K.lookup Uj=some ⟨.type "tuple",fo6,.seq #[.str "value" O0] fn6,fs6⟩) {O1 O2 O3:Tok} {fo7:Option Addr} {fn7:Nat} {fs7:Array (Option Value)} (lP7:K.lookup Uk=some ⟨.type "tuple",fo7,.seq #[.str "value" O1,.str "value" O2,.str "many" O3] fn7,fs7⟩)
  (SM:∀i,i<19->∀j,j<19->([n,o,p,q,g,k,r,t,u,x,m,y,z,I,J,L,M,N,O]:List Addr).getD i 0=([n,o,p,q,g,k,r,t,u,x,m,y,z,I,J,L,M,N,O]:List Addr).getD j 0->i=j) (hnB:∀i,i<19->([n,o,p,q,g,k,r,t,u,x,m,y,z,I,J,L,M,N,O]:List Addr).getD i 0≠B)
  :∃fd:FuncData,(∀(s:Shared) (v:Value),BindsTo s fd ⟨[v],[]⟩ [("_law_script",v)])/\∀base:Heap,K.In base->base.Ns mainGlobals U->ja l.prog w K U base ve 10 fa fd ["_law_script"] (xG K):=by
 have FR:PyProof.Rows.KTD.Rows RelV (#[⟨fh0,.str "set" fk0,.ref Y⟩,⟨fh1,.str "add" fk1,.ref Z⟩,⟨fh2,.str "times" fk2,.ref Ue⟩,⟨fh3,.str "put" fk3,.ref Ug⟩,⟨fh4,.str "drop" fk4,.ref Uh⟩,⟨fh5,.str "send" fk5,.ref Ui⟩,⟨fh6,.str "say" fk6,.ref Uj⟩,⟨fh7,.str "skip" fk7,.ref Uk⟩]:Array DictEntry).toList ([("set",V.ref Y),("add",V.ref Z),("times",V.ref Ue),("put",V.ref Ug),("drop",V.ref Uh),("send",V.ref Ui),("say",V.ref Uj),("skip",V.ref Uk)]:List (Str×V)):=.cons rfl rfl (.cons rfl rfl (.cons rfl rfl (.cons rfl rfl (.cons rfl rfl (.cons rfl rfl (.cons rfl rfl (.cons rfl rfl (.nil))))))));have T:Tx K U C R CR F ([("set",V.ref Y),("add",V.ref Z),("times",V.ref Ue),("put",V.ref Ug),("drop",V.ref Uh),("send",V.ref Ui),("say",V.ref Uj),("skip",V.ref Uk)]:List (Str×V)):={
  aX:=aaw X G km
  yT:=aaw X G Kw
  Bh:=aaw X G BS
  CL:=aaw X G Kx
  cJ:=aaw X G xI
  ft:=aaw X G BU
  bX:=aaw X G Ky
  dY:=aaw X G xJ
  VO:=aaw X G Kz
  IH:=aaw X G KA
  vz:=aaw X G KC
  VP:=aaw X G KD
  II:=aaw X G KG
  dR:=aaw X G l9
  oV:=aaw X G kn
  dZ:=⟨_,W.mg_of X G dZ⟩
  dN:=⟨_,W.mg_of X G dN⟩
  dO:=⟨_,W.mg_of X G dO⟩
  fG:=⟨_,W.mg_of X G fG⟩
  dA:=⟨_,W.mg_of X G dA⟩
  fL:=⟨_,W.mg_of X G fL⟩
  dP:=⟨_,W.mg_of X G dP⟩
  d7:=⟨_,W.mg_of X G d7⟩
  cT:=⟨qI,qJ,qK,qL⟩
  vA:=W.mg_of X G pq
  EG:=EG
  EH:=EH
  NP:=NP
  Q4:=Q4
  NQ:=NQ
  de:=⟨Kk,Kl,Km,Kn⟩
  VQ:=W.mg_of X G Nf
  IJ:=IJ
  IK:=IK
  yU:=yU
  yV:=yV
  Bi:=Bi
  aR:=⟨Kq,Kr,Ks,Kt⟩
  VR:=W.mg_of X G Ng
  IL:=IL
  IM:=IM
  df:=df
  cY:=cY
  b8:=b8
  d9:=d9
  cZ:=cZ
  bF:=bF
  eZ:=eZ
  cU:=cU
  ee:=a
  cn:=b
  i_k:=by unfold W.kitOne;rw[if_pos nofun]
  CM:=W.mg_of X G aF
  CP:=⟨⟨_,_,_,lF,⟨rfl,rfl,rfl⟩,rfl,FR⟩,neF⟩
  NR:=λd=>by
   cases d with
   |set _ _=>calc⟨Y,by kernel_rfl,λH=>.inr ⟨_,_,_,lP0,rfl,rfl,by show 2<=sizeLine;decide,(.cons ⟨OQ,rfl⟩ (.cons ⟨OS,rfl⟩ .nil))⟩⟩
   |add _ _=>calc⟨Z,by kernel_rfl,λH=>.inr ⟨_,_,_,lP1,rfl,rfl,by show 2<=sizeLine;decide,(.cons ⟨OT,rfl⟩ (.cons ⟨OU,rfl⟩ .nil))⟩⟩
   |times _ _=>calc⟨Ue,by kernel_rfl,λH=>.inr ⟨_,_,_,lP2,rfl,rfl,by show 2<=sizeLine;decide,(.cons ⟨OV,rfl⟩ (.cons ⟨OW,rfl⟩ .nil))⟩⟩
   |put _=>calc⟨Ug,by kernel_rfl,λH=>.inr ⟨_,_,_,lP3,rfl,rfl,by show 1<=sizeLine;decide,(.cons ⟨OX,rfl⟩ .nil)⟩⟩
   |drop=>calc⟨Uh,by kernel_rfl,λH=>.inr ⟨_,_,_,lP4,rfl,rfl,by show 0<=sizeLine;decide,.nil⟩⟩
   |send _ _=>calc⟨Ui,by kernel_rfl,λH=>.inr ⟨_,_,_,lP5,rfl,rfl,by show 2<=sizeLine;decide,(.cons ⟨OY,rfl⟩ (.cons ⟨OZ,rfl⟩ .nil))⟩⟩
   |say _=>calc⟨Uj,by kernel_rfl,λH=>.inr ⟨_,_,_,lP6,rfl,rfl,by show 1<=sizeLine;decide,(.cons ⟨O0,rfl⟩ .nil)⟩⟩
   |skip _ _ _=>exact⟨Uk,by kernel_rfl,λH=>.inr ⟨_,_,_,lP7,rfl,rfl,by show 3<=sizeLine;decide,(.cons ⟨O1,rfl⟩ (.cons ⟨O2,rfl⟩ (.cons ⟨O3,rfl⟩ .nil)))⟩⟩
 }
 have F:∀C∈([n,o,p,q,g,k,r,t,u,x,m,y,z,I,J,L,M,N,O]:List Addr),fU K C B:=(List.forall_mem_cons.mpr ⟨Fl.cls a b,(List.forall_mem_cons.mpr ⟨Nc.cls a b,(List.forall_mem_cons.mpr ⟨Fm.cls a b,(List.forall_mem_cons.mpr ⟨Fo.cls a b,(List.forall_mem_cons.mpr ⟨Fp.cls a b,(List.forall_mem_cons.mpr ⟨Fq.cls a b,(List.forall_mem_cons.mpr ⟨Fs.cls a b,(List.forall_mem_cons.mpr ⟨Ft.cls a b,(List.forall_mem_cons.mpr ⟨Nd.cls a b,(List.forall_mem_cons.mpr ⟨Fu.cls a b,(List.forall_mem_cons.mpr ⟨DO.cls a b,(List.forall_mem_cons.mpr ⟨vT.cls a b,(List.forall_mem_cons.mpr ⟨DP.cls a b,(List.forall_mem_cons.mpr ⟨vU.cls a b,(List.forall_mem_cons.mpr ⟨DQ.cls a b,(List.forall_mem_cons.mpr ⟨vV.cls a b,(List.forall_mem_cons.mpr ⟨vW.cls a b,(List.forall_mem_cons.mpr ⟨vX.cls a b,(List.forall_mem_cons.mpr ⟨vY.cls a b,(λ_ h=>absurd h nofun)⟩)⟩)⟩)⟩)⟩)⟩)⟩)⟩)⟩)⟩)⟩)⟩)⟩)⟩)⟩)⟩)⟩)⟩)⟩)
 have S:uo K U B (λi:Nat=>([n,o,p,q,g,k,r,t,u,x,m,y,z,I,J,L,M,N,O]:List Addr).getD i 0):={
  oP:=W.mg_of X G Fl.ax
  vn:=W.mg_of X G Nc.ax
  yG:=W.mg_of X G Fm.ax
  yH:=W.mg_of X G Fo.ax
  sM:=W.mg_of X G Fp.ax
  mO:=W.mg_of X G Fq.ax
  vo:=W.mg_of X G Fs.ax
  vp:=W.mg_of X G Ft.ax
  sO:=W.mg_of X G Nd.ax
  vq:=W.mg_of X G Fu.ax
  yI:=W.mg_of X G DO.ax
  qR:=W.mg_of X G vT.ax
  yJ:=W.mg_of X G DP.ax
  Ik:=W.mg_of X G vU.ax
  oQ:=W.mg_of X G DQ.ax
  yK:=W.mg_of X G vV.ax
  CB:=W.mg_of X G vW.ax
  yL:=W.mg_of X G vX.ax
  yM:=W.mg_of X G vY.ax
  mP:=W.mg_of X G aB
  wX:=⟨Fl.cls a b,SE,W.mg_of X G Fl.ax⟩
  Il:=⟨Fm.cls a b,SG,W.mg_of X G Fm.ax⟩
  Im:=⟨Fo.cls a b,SH,W.mg_of X G Fo.ax⟩
  Ex:=⟨Fs.cls a b,SI,W.mg_of X G Fs.ax⟩
  Ey:=⟨Ft.cls a b,SJ,W.mg_of X G Ft.ax⟩
  Ez:=⟨Fu.cls a b,SK,W.mg_of X G Fu.ax⟩
  yN:=⟨vT.cls a b,Ka,W.mg_of X G vT.ax⟩
  QO:=⟨vU.cls a b,Kb,W.mg_of X G vU.ax⟩
  Io:=⟨vV.cls a b,Kc,W.mg_of X G vV.ax⟩
  Ma:=⟨vW.cls a b,Ke,W.mg_of X G vW.ax⟩
  Ip:=⟨vX.cls a b,Kf,W.mg_of X G vX.ax⟩
  Iq:=⟨vY.cls a b,Kg,W.mg_of X G vY.ax⟩
  cl:=λi d=>F _ (by
   have e:([n,o,p,q,g,k,r,t,u,x,m,y,z,I,J,L,M,N,O]:List Addr).getD i 0=([n,o,p,q,g,k,r,t,u,x,m,y,z,I,J,L,M,N,O]:List Addr)[i]'d:=by simp only[List.getD_eq_getElem?_getD,di (show i<([n,o,p,q,g,k,r,t,u,x,m,y,z,I,J,L,M,N,O]:List Addr).length from d),Option.getD_some]
   show([n,o,p,q,g,k,r,t,u,x,m,y,z,I,J,L,M,N,O]:List Addr).getD i 0 ∈ ([n,o,p,q,g,k,r,t,u,x,m,y,z,I,J,L,M,N,O]:List Addr);rw[e];calc aaa _)
  inj:=λi j d C e=>SM i d j C e
  nB:=hnB
  VC:=by rw[VC];rfl
  tyB:=tyB
  xb:=⟨⟨_,_,_,_,_,_,_,_,_,_,_,_,_,_,SD⟩⟩
  fY:=fY
  cI:=cI
  cX:=cX
  dE:=dE
  eY:=eY
  eC:=eC
  fZ:=fZ
  cN:=cN
 }
 obtain⟨f,d,j,an,C,F,kV,dc,pm,cd,ct,ll,lc,lk⟩:=Kj;have e:=hfa.symm.trans (W.mg_of X G d)
 cases e;refine⟨W.fnOf "law" "law" (eP vS) (cB vS) (aA vS) .none kV dc pm an cd ct,λs v=>.of_eq rfl,λbase _ _=>?_⟩;have Z:=zL (P:=l.prog) (w:=w) (base:=base) (bg X G lO (nL λ_ _ _ _ _ _ _=>rfl)) T;have lM:=zT (P:=l.prog) (w:=w) (base:=base) (bg X G lP (iJ λ_ _ _ _ _ _ _ _=>rfl)) T;have j:=zI (P:=l.prog) (w:=w) (base:=base) (bg X G lQ (iJ λ_ _ _ _ _ _ _ _=>rfl)) T;have d:=zy (P:=l.prog) (w:=w) (base:=base) (bg X G lR (SA λ_ _ _ _ _ _ _ _ _ _ _=>rfl)) T;have e:=xk (bg X G kh (rA λ_ _ _ _ _ _ _ _ _ _=>rfl)) T d;have F:=BP (bg X G nN (nM λ_ _ _ _ _ _ _ _ _=>rfl)) T e;have qo:=Fj (bg X G qA (nM λ_ _ _ _ _ _ _ _ _=>rfl)) T j F;have nJ:=BN (bg X G nO (nL λ_ _ _ _ _ _ _=>rfl)) T j;have e:=IQ (P:=l.prog) (w:=w) (base:=base) (bg X G tU (iJ λ_ _ _ _ _ _ _ _=>rfl)) T;have d:=yY (P:=l.prog) (w:=w) (base:=base) (bg X G lS (iJ λ_ _ _ _ _ _ _ _=>rfl)) T;have v:=ze (bg X G lT (iJ λ_ _ _ _ _ _ _ _=>rfl)) T d;have C:=Br (bg X G nQ (iJ λ_ _ _ _ _ _ _ _=>rfl)) T d v;have R:=uw (bg X G jA (nL λ_ _ _ _ _ _ _=>rfl)) T C d;have v:=EI (P:=l.prog) (w:=w) (base:=base) (bg X G qB (nL λ_ _ _ _ _ _ _=>rfl)) T;have qp:=Fd (bg X G qC (nL λ_ _ _ _ _ _ _=>rfl)) T e d R v;have C:=EK (P:=l.prog) (w:=w) (base:=base) (bg X G qD (nL λ_ _ _ _ _ _ _=>rfl)) T;have e:=Bj (P:=l.prog) (w:=w) (base:=base) (bg X G nR (nL λ_ _ _ _ _ _ _=>rfl)) T;have d:=yX (bg X G lU (nM λ_ _ _ _ _ _ _ _ _=>rfl)) T e;have v:=Bl (bg X G nS (iJ λ_ _ _ _ _ _ _ _=>rfl)) T e d;have R:=EL (bg X G qE (nM λ_ _ _ _ _ _ _ _ _=>rfl)) T v e d;have U:=EM (bg X G qF (iJ λ_ _ _ _ _ _ _ _=>rfl)) T C R;have v:=sX (bg X G iK (iJ λ_ _ _ _ _ _ _ _=>rfl)) T U;have e:=EJ (P:=l.prog) (w:=w) (base:=base) (bg X G qG (nM λ_ _ _ _ _ _ _ _ _=>rfl)) T;have C:=uu (bg X G jB (rA λ_ _ _ _ _ _ _ _ _ _=>rfl)) T e d;have R:=p5 (bg X G gC (rA λ_ _ _ _ _ _ _ _ _ _=>rfl)) T C d;have U:=EO (xH X G qM qN qH pq (SA λ_ _ _ _ _ _ _ _ _ _ _=>rfl)) T v R;have C:=za (bg X G lV (iJ λ_ _ _ _ _ _ _ _=>rfl)) T d;have v:=IX (bg X G tW (iJ λ_ _ _ _ _ _ _ _=>rfl)) T d;have R:=xg (bg X G ki (nM λ_ _ _ _ _ _ _ _ _=>rfl)) T C e v;have Y:=Wo (xH X G Ko Kp Kh Nf (rA λ_ _ _ _ _ _ _ _ _ _=>rfl)) T R;have iI:=tR (bg X G iL (nL λ_ _ _ _ _ _ _=>rfl)) T U Y;have R:=BQ (P:=l.prog) (w:=w) (base:=base) (c:=(λi:Nat=>([n,o,p,q,g,k,r,t,u,x,m,y,z,I,J,L,M,N,O]:List Addr).getD i 0)) (bg X G nU (nL λ_ _ _ _ _ _ _=>rfl)) T S;have v:=BB (P:=l.prog) (w:=w) (base:=base) (c:=(λi:Nat=>([n,o,p,q,g,k,r,t,u,x,m,y,z,I,J,L,M,N,O]:List Addr).getD i 0)) (DN X G (Fp.cls a b) nV Fp.ax (iJ λ_ _ _ _ _ _ _ _=>rfl)) T S;have C:=tI (c:=(λi:Nat=>([n,o,p,q,g,k,r,t,u,x,m,y,z,I,J,L,M,N,O]:List Addr).getD i 0)) (cu iM (nM λ_ _ _ _ _ _ _ _ _=>rfl)) T S d v;have U:=zF (c:=(λi:Nat=>([n,o,p,q,g,k,r,t,u,x,m,y,z,I,J,L,M,N,O]:List Addr).getD i 0)) (cu lW (iJ λ_ _ _ _ _ _ _ _=>rfl)) T S C;have Y:=tK (c:=(λi:Nat=>([n,o,p,q,g,k,r,t,u,x,m,y,z,I,J,L,M,N,O]:List Addr).getD i 0)) (cu iN (iJ λ_ _ _ _ _ _ _ _=>rfl)) T S C;have e:=o9 (c:=(λi:Nat=>([n,o,p,q,g,k,r,t,u,x,m,y,z,I,J,L,M,N,O]:List Addr).getD i 0)) (cu gi (rA λ_ _ _ _ _ _ _ _ _ _=>rfl)) T S d C v;have nI:=BE (c:=(λi:Nat=>([n,o,p,q,g,k,r,t,u,x,m,y,z,I,J,L,M,N,O]:List Addr).getD i 0)) (cu nW (nM λ_ _ _ _ _ _ _ _ _=>rfl)) T S e;have C:=uG (c:=(λi:Nat=>([n,o,p,q,g,k,r,t,u,x,m,y,z,I,J,L,M,N,O]:List Addr).getD i 0)) (cu jC (nM λ_ _ _ _ _ _ _ _ _=>rfl)) T S e;have gU:=rz (c:=(λi:Nat=>([n,o,p,q,g,k,r,t,u,x,m,y,z,I,J,L,M,N,O]:List Addr).getD i 0)) (cu gV (nM λ_ _ _ _ _ _ _ _ _=>rfl)) T S e;have lJ:=zQ (c:=(λi:Nat=>([n,o,p,q,g,k,r,t,u,x,m,y,z,I,J,L,M,N,O]:List Addr).getD i 0)) (bg X G lX (nM λ_ _ _ _ _ _ _ _ _=>rfl)) T S R U Y nI C gU;have fb:=lI (bg X G fc (rA λ_ _ _ _ _ _ _ _ _ _=>rfl)) T lJ;have C:=nr (cu fJ (iJ λ_ _ _ _ _ _ _ _=>rfl)) T d;have lL:=zE (cu lY (iJ λ_ _ _ _ _ _ _ _=>rfl)) T C;have iH:=tL (P:=l.prog) (w:=w) (base:=base) (cu iO (nL λ_ _ _ _ _ _ _=>rfl)) T;have Y:=zD (cu lZ (iJ λ_ _ _ _ _ _ _ _=>rfl)) T C;have ff:=xF (bg X G kj (iJ λ_ _ _ _ _ _ _ _=>rfl)) T j lL U iH Y;have gv:=qa (P:=l.prog) (w:=w) (base:=base) (bg X G gD (rA λ_ _ _ _ _ _ _ _ _ _=>rfl)) T;have j:=xi (P:=l.prog) (w:=w) (base:=base) (bg X G kl (nM λ_ _ _ _ _ _ _ _ _=>rfl)) T;have U:=Bu (P:=l.prog) (w:=w) (base:=base) (bg X G nX (iJ λ_ _ _ _ _ _ _ _=>rfl)) T;have lg:=zm (P:=l.prog) (w:=w) (base:=base) (bg X G l7 (nL λ_ _ _ _ _ _ _=>rfl)) T;have C:=ux (P:=l.prog) (w:=w) (base:=base) (bg X G jD (rA λ_ _ _ _ _ _ _ _ _ _=>rfl)) T;have ng:=Bs (bg X G nY (SA λ_ _ _ _ _ _ _ _ _ _ _=>rfl)) T C;have gy:=qb (cu gE (rA λ_ _ _ _ _ _ _ _ _ _=>rfl)) T gv j U lg ng;have C:=tq (P:=l.prog) (w:=w) (base:=base) (cu iP (nL λ_ _ _ _ _ _ _=>rfl)) T;have j:=Bx (P:=l.prog) (w:=w) (base:=base) (cu nZ (nL λ_ _ _ _ _ _ _=>rfl)) T;have U:=uB (cu jE (nM λ_ _ _ _ _ _ _ _ _=>rfl)) T d;have jr:=uC (cu jF (iJ λ_ _ _ _ _ _ _ _=>rfl)) T U;have d:=tE (cu iQ (iJ λ_ _ _ _ _ _ _ _=>rfl)) T U;have nu:=BC (P:=l.prog) (w:=w) (base:=base) (c:=(λi:Nat=>([n,o,p,q,g,k,r,t,u,x,m,y,z,I,J,L,M,N,O]:List Addr).getD i 0)) (DN X G (Fq.cls a b) n0 Fq.ax (iJ λ_ _ _ _ _ _ _ _=>rfl)) T S;have U:=rq (c:=(λi:Nat=>([n,o,p,q,g,k,r,t,u,x,m,y,z,I,J,L,M,N,O]:List Addr).getD i 0)) (cu gW (rA λ_ _ _ _ _ _ _ _ _ _=>rfl)) T S j e v nu;have a:=qd (P:=l.prog) (w:=w) (base:=base) (cu gF (rA λ_ _ _ _ _ _ _ _ _ _=>rfl)) T;have e:=uD (c:=(λi:Nat=>([n,o,p,q,g,k,r,t,u,x,m,y,z,I,J,L,M,N,O]:List Addr).getD i 0)) (cu jG (rA λ_ _ _ _ _ _ _ _ _ _=>rfl)) T S gy C j jr d U a Y;have b:=BK (c:=(λi:Nat=>([n,o,p,q,g,k,r,t,u,x,m,y,z,I,J,L,M,N,O]:List Addr).getD i 0)) (cu oa (nM λ_ _ _ _ _ _ _ _ _=>rfl)) T S e;have d:=zP (c:=(λi:Nat=>([n,o,p,q,g,k,r,t,u,x,m,y,z,I,J,L,M,N,O]:List Addr).getD i 0)) (bg X G l8 (nM λ_ _ _ _ _ _ _ _ _=>rfl)) T S R b;have e:=kE (P:=l.prog) (w:=w) (base:=base) (cu eN (nL λ_ _ _ _ _ _ _=>rfl)) T;have g:=uz (P:=l.prog) (w:=w) (base:=base) (cu jH (nL λ_ _ _ _ _ _ _=>rfl)) T;have i:=WO (xH X G Ku Kv Ki Ng (iJ λ_ _ _ _ _ _ _ _=>rfl)) T e g C j a;exact Sl (jX ll lc lk) T Z lM qo nJ qp iI F fb ff d b i
theorem walk{l:W.OpenLaw}{q:Program}{a:List Str}{g:(Str->Option Value)->Heap->Prop}{c:World->Heap->Prop}{d:DefRec}{K:Params->W.Frag}(i:l.most=some 63)(j:d.params.defaults=[])
  (m:∀(w:World) (h:Heap),c w h->(K w.params).In h)
  (F:∀(w:World) (b:Str->Option Value) (e:Addr) (h:Heap),(K w.params).In h->h.Ns mainGlobals b->b d.name=some (.ref e)->
   ∃f:FuncData,(∀(s:Shared) (u:Value),BindsTo s f ⟨[u],[]⟩ [("_law_script",u)])/\∀base:Heap,(K w.params).In base->base.Ns mainGlobals b->ja l.prog w (K w.params) b base ve 10 e f ["_law_script"] (xG (K w.params))):
  W.WalkO q a g c l.row.toRowW d [] (λf vs=>PySem.call f vs):=
 L2.LH (n:=63) (k:=10) (x:="_law_script") (CX:=λ_=>ve) (sp:=λw=>xG (K w.params)) i ∅ j ⟨rfl,∅,∅⟩ m F (λ_ _ a b c _ d=>⟨a,b,rfl,d,c,λ_=>rfl⟩) λ_ _ _ _ _ z=>z
end FL
end
namespace PySem.W.Fast
def tw12341989741179373606:=Nat
def tw9251486090529652785:=Nat
def tw953171658528223997:=Nat
def tw4774239498522230451:=Nat
def tw16108004666314025431:=Nat
def tw2006005979408389950:=Nat
def tw5259082063474335445:=Nat
def tw16195706303539064605:=Nat
def tw10495855823312888049:=Nat
def tw17545085152180002392:=Nat
def tw10870541773505262078:=Nat
def tw7129837117591488722:=Nat
def tw177381428565603133:=Nat
def tw16358041187841800155:=Nat
def tw14589992996490488595:=Nat
def tw7453131185362803265:=Nat
def tw2573077915357045493:=Nat
def tw7995525797308617513:=Nat
def tw11324444050291078831:=Nat
def tw4840467630455648863:=Nat
def tw14442555693840196922:=Nat
def tw8289707124550908550:=Nat
def tw3579670255613309164:=Nat
def tw14646663132180757661:=Nat
def tw16720494988130976564:=Nat
def tw5472291908819623982:=Nat
def tw12651705529924307668:=Nat
def tw6340475211240270906:=Nat
def tw13043016729267656016:=Nat
def tw9755978681720866253:=Nat
def tw1857576290601595531:=Nat
def tw1603077485953077991:=Nat
def tw16399874175087697698:=Nat
def tw4154605426102510781:=Nat
def tw17708721429146959163:=Nat
def tw10948361486230810174:=Nat
def tw3940188906369759526:=Nat
def tw7613481544526554138:=Nat
def tw7420522193522569045:=Nat
def tw590805370869828003:=Nat
def tw459045636061261455:=Nat
def tw17144985095596294398:=Nat
def tw12975416946434106173:=Nat
def tw10826560425669768070:=Nat
def tw6545191150943707165:=Nat
def tw14234841866670482506:=Nat
def tw16419482042550383686:=Nat
def tw785925813738189881:=Nat
def tw10670729346990824611:=Nat
def tw1178889171197060894:=Nat
def tw3189187099999253339:=Nat
def tw17820091941098890145:=Nat
def tw9723063791515355985:=Nat
def tw3037614341684660139:=Nat
def tw721884332983978605:=Nat
def tw3731097468534736372:=Nat
def tw1063864112059908327:=Nat
def tw15536861376072608928:=Nat
def tw13468352476905082989:=Nat
def tw9211778808910123016:=Nat
def tw1121884104722100117:=Nat
def tw11422096203743375432:=Nat
def tw5288155561611957356:=Nat
def tw18360238867393674755:=Nat
def tw6674054515427516534:=Nat
def tw9800838604483208551:=Nat
def tw262719727660327392:=Nat
def tw7078659758712968498:=Nat
def tw8525387762001520360:=Nat
def tw11419972448198742791:=Nat
def tw6349489366050534489:=Nat
def tw1763690377257505370:=Nat
def tw133951468532686087:=Nat
def tw6105487758357526796:=Nat
def tw16423624350715083479:=Nat
def tw6928040503827938167:=Nat
def tw16430274409692292530:=Nat
def tw9662281756398422945:=Nat
def tw14308970962113449446:=Nat
def tw6590056664616780201:=Nat
def tw9646956393880886977:=Nat
def tw9208286373782795712:=Nat
def tw14592556381655621435:=Nat
def tw5565001521596947804:=Nat
def tw10817039746092837008:=Nat
def tw13231124475418356417:=Nat
def tw11407196595244399514:=Nat
def tw16902484713261714439:=Nat
def tw13097322788683200112:=Nat
def tw1324106090741775134:=Nat
def tw4081333121811436672:=Nat
def tw6890516116275808753:=Nat
def tw11783340791738216131:=Nat
def tw8664077537338920317:=Nat
def tw18229791224497945383:=Nat
def tw2723296987920463500:=Nat
def tw9631846857184343786:=Nat
def tw9391734362666568471:=Nat
def tw2396868818630336253:=Nat
def tw14385056794419909405:=Nat
def tw6367039404472964420:=Nat
def tw17933285383367128391:=Nat
def tw12796833909427130967:=Nat
def tw6674863746327409867:=Nat
def tw2039576721602992478:=Nat
def tw8535906916538712608:=Nat
def tw1152499540067838967:=Nat
def tw2717804225044212850:=Nat
def tw16304800947625063987:=Nat
def tw4787625306930901125:=Nat
def tw13753020392858179791:=Nat
def tw13258524104190040811:=Nat
def tw2447081991751187691:=Nat
def tw15829633293230717798:=Nat
def tw7629146753540152804:=Nat
def tw274860933759433961:=Nat
def tw18306894424606535702:=Nat
def tw14647778157347828874:=Nat
def tw17401958818162827614:=Nat
def tw9660291203386550524:=Nat
def tw665759215806820389:=Nat
def tw2786315786542567974:=Nat
def tw5893606397163133672:=Nat
def tw3645585441076548892:=Nat
def tw8739563673192995774:=Nat
def tw2507456299248872335:=Nat
def tw18006046515303611260:=Nat
def tw6017236205651661650:=Nat
def tw3820833929719305699:=Nat
def tw12500343425073708149:=Nat
def tw15512693656610164566:=Nat
def tw730620733236608415:=Nat
def tw12632735145717111863:=Nat
def tw16443987880412620594:=Nat
def tw13320459605835954159:=Nat
def tw5045745319805657423:=Nat
def tw11727826572819540824:=Nat
def tw14440134121560552724:=Nat
def tw5291139755786500890:=Nat
def tw18280435198639256461:=Nat
def tw1022085829816153528:=Nat
def tw12554031328249565144:=Nat
def tw14497396259892314495:=Nat
def tw2963502799026861799:=Nat
def tw10793394852693000518:=Nat
def tw8711545109759904539:=Nat
def tw8733866825016830735:=Nat
def tw14491824898290751055:=Nat
def tw9977401524016075194:=Nat
def tw4537054803463036677:=Nat
def tw15319909979692634597:=Nat
def tw11726158736429054856:=Nat
def tw5984132256806338433:=Nat
def tw10382882334411052896:=Nat
def tw3701835662288360562:=Nat
def tw17166344330719083584:=Nat
def tw931974626401014045:=Nat
def tw4660021477215258243:=Nat
def tw4164309711769010065:=Nat
def tw651870845516081266:=Nat
def tw4267168836724030124:=Nat
def tw11141630995387347011:=Nat
def tw5245582906999131279:=Nat
def tw15699619810693677150:=Nat
def tw690353269252938042:=Nat
def tw1806657913172869869:=Nat
def tw17529843157060126799:=Nat
def tw3196564445879095791:=Nat
def tw4719239127049032855:=Nat
def tw12847301266133989783:=Nat
def tw6722031818282666088:=Nat
def tw6261677575133222373:=Nat
def tw13465799631573156328:=Nat
def tw4592226559459399457:=Nat
def tw3146646921408916934:=Nat
def tw8387847650732720800:=Nat
def tw16843463210010452703:=Nat
def tw15583929757373559658:=Nat
def tw14793288791374842588:=Nat
def tw13318479261537520480:=Nat
def tw10238089631783240609:=Nat
def tw12692552038604116721:=Nat
def tw6263066952158126458:=Nat
def tw1357771601384967136:=Nat
def tw9330034807263893054:=Nat
def tw13028321709561450055:=Nat
def tw3190498969843547185:=Nat
def tw16412663008070421706:=Nat
def tw18259475918129724732:=Nat
def tw10982085618797981902:=Nat
def tw15427557406730602671:=Nat
def tw11728611480408178746:=Nat
def tw7228136600564713943:=Nat
def tw329996776225045898:=Nat
def tw5885431991499990760:=Nat
def tw1880448027356491767:=Nat
def tw12353806039930571110:=Nat
def tw14396804870369539340:=Nat
def tw12279841116292386137:=Nat
def tw7383926555209339645:=Nat
def tw3763570193375565917:=Nat
def tw16997023932099435408:=Nat
def tw711461940207741154:=Nat
def tw14490937038488068361:=Nat
def tw17341330673529404535:=Nat
def tw11483962690943650758:=Nat
def tw9818353444231310843:=Nat
def tw17406240951324815910:=Nat
def tw11488172524684657952:=Nat
def tw8013483011249110411:=Nat
def tw13954925554336206720:=Nat
def tw7682779998942921810:=Nat
def tw17171740475044558655:=Nat
def tw14257089825404255028:=Nat
def tw13722314174290911071:=Nat
def tw9194993303029625695:=Nat
def tw1659063377239672369:=Nat
def tw14324907290178646343:=Nat
def tw595710487640273824:=Nat
def tw11972347978036186775:=Nat
def tw301667439983676376:=Nat
def tw5625792755085095123:=Nat
def tw13318564444270032040:=Nat
def tw17439806149128366387:=Nat
def tw8926985141633221431:=Nat
def tw7736024776851537586:=Nat
def tw4784618937802008744:=Nat
def tw16980695984844008316:=Nat
def tw14625528494423022920:=Nat
def tw8064292921162302146:=Nat
def tw7569477040169984286:=Nat
def tw10067100107853951376:=Nat
def tw7447428006598458493:=Nat
def tw3208477877321159418:=Nat
def tw7502849254088643634:=Nat
def tw6443723938757469702:=Nat
def tw908279006305236472:=Nat
def tw15862909993813851693:=Nat
def tw13037740920336037417:=Nat
def tw14525979654170539696:=Nat
def tw1194908275498300079:=Nat
def tw2486364582766867657:=Nat
def tw10711568157426190398:=Nat
def tw981264171223855308:=Nat
def tw13018118834349772095:=Nat
def tw17186816642958651586:=Nat
def tw11407021965821663255:=Nat
def tw7678088613851910308:=Nat
def tw15318343249747484393:=Nat
def tw5266076442857640693:=Nat
def tw16334959451920426302:=Nat
def tw3788076321003077483:=Nat
def tw4432290269399153471:=Nat
def tw10242919014167585069:=Nat
def tw7002469197199536739:=Nat
def tw8626853693458481244:=Nat
def tw2023339923649856078:=Nat
def tw6722415830953395900:=Nat
def tw16824198914626915923:=Nat
def tw1662256808330932511:=Nat
def tw827429880006318209:=Nat
def tw18162111516698762107:=Nat
def tw3002935116362896056:=Nat
def tw11959631252488290828:=Nat
def tw12505052098548784202:=Nat
def tw2460151747922805559:=Nat
def tw17311760787918634696:=Nat
def tw5068365242732118172:=Nat
def tw17785613707645364936:=Nat
def tw10883758137124384593:=Nat
def tw8144731000053368486:=Nat
def tw6651280989111432737:=Nat
def tw12245887349024400643:=Nat
def tw9561062406609977520:=Nat
def tw2373800179276311982:=Nat
def tw14779536811739141786:=Nat
def tw17518181327109210521:=Nat
def tw1271033728618196591:=Nat
def tw329027078880065404:=Nat
def tw13929620884614779891:=Nat
def tw16546476957150501997:=Nat
def tw1598050434471814623:=Nat
def tw10274601814540866812:=Nat
def tw9688427305794178948:=Nat
def tw4188492715333100398:=Nat
def tw18322220409860222946:=Nat
def tw10366936167916005134:=Nat
def tw8095698779779496687:=Nat
def tw7350852333946486825:=Nat
def tw8292207389576415697:=Nat
def tw6665014540392556961:=Nat
def tw7636332347095466292:=Nat
def tw2886498248424398618:=Nat
def tw8197737394890723918:=Nat
def tw6218107300389332220:=Nat
def tw5317634112252224946:=Nat
def tw14089628080808263528:=Nat
def tw9192676846871534929:=Nat
def tw5630461329952649097:=Nat
def tw3269781545628688433:=Nat
def tw10144509773419883033:=Nat
def tw14022001625912954491:=Nat
def tw12879403548069867023:=Nat
def tw224099667599711320:=Nat
def tw13294757783921577280:=Nat
def tw1648078565262042720:=Nat
def tw2678483953967665132:=Nat
def tw10224176994221568646:=Nat
def tw12373346144642698782:=Nat
def tw13641476352829550334:=Nat
def tw376256239829516540:=Nat
def tw8666046582221430201:=Nat
def tw4980308230712976857:=Nat
def tw406216029169352262:=Nat
def tw9252545433123889049:=Nat
def tw4826726220116544004:=Nat
def tw6173939351840330933:=Nat
def tw15329995515936746364:=Nat
def tw1099440026039506748:=Nat
def tw7480160978884294278:=Nat
def tw15917728518003466583:=Nat
def tw6828835380173717920:=Nat
def tw13455009423864716578:=Nat
def tw6965678941045700837:=Nat
def tw16593589463516200097:=Nat
def tw17451479332702718876:=Nat
def tw1561215518414082757:=Nat
def tw14411280217737432491:=Nat
def tw3887990943267629850:=Nat
def tw5637712386595832118:=Nat
def tw338451823054059961:=Nat
def tw4908978681661029118:=Nat
def tw10166493250072003803:=Nat
def tw10065214849594959961:=Nat
def tw11953530357172668764:=Nat
def tw5576859456195897640:=Nat
def tw16196773787903836705:=Nat
def tw13850282678603093524:=Nat
def tw17617367586665403037:=Nat
def tw16745949788147422857:=Nat
def tw17164753013540667127:=Nat
def tw15157181718666547433:=Nat
def tw7538867641458708073:=Nat
def tw12945470811593783103:=Nat
def tw2868298553529334253:=Nat
def tw4187260787868533430:=Nat
def tw9618023274357643531:=Nat
def tw2387840790869395844:=Nat
def tw15329716263089221535:=Nat
def tw11138395093170132785:=Nat
def tw15186903156323745561:=Nat
def tw5522510544107965041:=Nat
def tw7303895678106379362:=Nat
def tw5744675898640940637:=Nat
def tw5885240339652895738:=Nat
def tw15289814409343446463:=Nat
def tw11975446169894153808:=Nat
def tw17085624780031989951:=Nat
def tw5877937761758034621:=Nat
def tw6073055772880455523:=Nat
def tw12567995808504857378:=Nat
def tw11525326752974400534:=Nat
def tw4333648013913570816:=Nat
def tw8176786722015664511:=Nat
def tw9282677572146838820:=Nat
def tw13593939738989845530:=Nat
def tw12207691411317052563:=Nat
def tw11574735953414408619:=Nat
def tw2350071028619328642:=Nat
def tw13702687607941153997:=Nat
def tw12374349902055690050:=Nat
def tw9056410477685257221:=Nat
def tw1899509507480783514:=Nat
def tw3055325983709039298:=Nat
def tw1933576486185383928:=Nat
def tw6357792262630476284:=Nat
def tw18446736246521123572:=Nat
def tw7396473985058544388:=Nat
def tw4301894997894309134:=Nat
def tw8712130861785787720:=Nat
def tw15167719000452932710:=Nat
def tw2988997417424353423:=Nat
def tw7974374515522878676:=Nat
def tw8149489843004577847:=Nat
def tw7639819340570466375:=Nat
def tw8255712986267286565:=Nat
def tw1797065044691274728:=Nat
def tw5859723210459864113:=Nat
def tw8562466702333288521:=Nat
def tw9011569192753714139:=Nat
def tw12594450007897076430:=Nat
def tw18364622948747670694:=Nat
def tw8976881512795703758:=Nat
def tw976202151554892332:=Nat
def tw5759481468396143475:=Nat
def tw6306591512948538638:=Nat
def tw47950497316189969:=Nat
def tw11206501609370855051:=Nat
def tw17146232919544453027:=Nat
def tw14304957459943266629:=Nat
def tw17035990681189341950:=Nat
def tw5330543168035497286:=Nat
def tw8436473079972594414:=Nat
def tw8334401216545433601:=Nat
def tw8023315512429353529:=Nat
def tw7047959716596676764:=Nat
def tw8761602942463987917:=Nat
def tw7093284787796932964:=Nat
def tw14772565831570371360:=Nat
def tw13868828971638766206:=Nat
def tw13563466390069154516:=Nat
def tw13877414364665110989:=Nat
def tw175883598339010141:=Nat
def tw16981891182201159123:=Nat
def tw5146857673271226642:=Nat
def tw6826504988149463492:=Nat
def tw16194297758814138770:=Nat
def tw7156423469751899240:=Nat
def tw16853292890717381788:=Nat
def tw14171767705316788907:=Nat
def tw9139495316906549713:=Nat
def tw1040807002483112951:=Nat
def tw12438320739149137349:=Nat
def tw12535057174966572326:=Nat
def tw2621388136206245294:=Nat
def tw4818280687139182511:=Nat
def tw4104436115540607103:=Nat
def tw13854065056344837064:=Nat
def tw1053496022520512040:=Nat
def tw1803208029675309012:=Nat
def tw12237082948635437051:=Nat
def tw11221555674833604072:=Nat
def tw12957175043918684306:=Nat
def tw14286899092642514297:=Nat
def tw1752188346859986603:=Nat
def tw13838233401369370332:=Nat
def tw12391275077385216064:=Nat
def tw13843530377490376848:=Nat
def tw4939452125292219352:=Nat
def tw10159799232391701351:=Nat
def tw7632086530078075537:=Nat
def tw17158869777508721949:=Nat
def tw10481507015467247827:=Nat
def tw6182449095783407186:=Nat
def tw1183872154168193911:=Nat
def tw3214998973931485230:=Nat
def tw2921693776054945609:=Nat
def tw16673633323206954006:=Nat
def tw2160158640275577316:=Nat
def tw13311832594242012793:=Nat
def tw10130098089613759770:=Nat
def tw4871400227582527679:=Nat
def tw8895827657731387541:=Nat
def tw15450764242053851088:=Nat
def tw265302319392397048:=Nat
def tw9403520732890660321:=Nat
def tw13852611042917712461:=Nat
def tw3223941747451459830:=Nat
def tw10579828307160325669:=Nat
def tw266040635158225788:=Nat
def tw7729676762513354658:=Nat
def tw17471067117016404314:=Nat
def tw16315461815462111894:=Nat
def tw5701144944401195217:=Nat
def tw16579123821082853085:=Nat
def tw10384417185204830970:=Nat
def tw8274914941077704232:=Nat
def tw14088366738551435995:=Nat
def tw2283396712050828533:=Nat
def tw10840247830367862106:=Nat
def tw2467269908310302135:=Nat
def tw8031635377766086756:=Nat
def tw8943210223881885186:=Nat
def tw3328702613192679444:=Nat
def tw9576973675045457178:=Nat
def tw11573260341995226972:=Nat
def tw2203608474392171843:=Nat
def tw15505677414580782226:=Nat
def tw9030918122266790208:=Nat
def tw16345038743488794191:=Nat
def tw14204279995867660929:=Nat
def tw6761946912724775353:=Nat
def tw3238455246507306184:=Nat
def tw5095270152609660282:=Nat
def tw18242951951180896842:=Nat
def tw14952945436219101787:=Nat
def tw9977338057654494788:=Nat
def tw9201498152359269781:=Nat
def tw10072404728578780183:=Nat
def tw2126445237116676247:=Nat
def tw217101245299464356:=Nat
def tw13446160775850771263:=Nat
def tw17181378810126951197:=Nat
def tw17801440238396783262:=Nat
def tw12341940630825436412:=Nat
def tw481162275428783252:=Nat
def tw2248607466201599270:=Nat
def tw3002254329436419770:=Nat
def tw12552488615998399509:=Nat
def tw13941008181863026448:=Nat
def tw3091365669014991541:=Nat
def tw14618267834418039663:=Nat
def tw10406406935915245900:=Nat
def tw5089081032322687892:=Nat
def tw6747187382225385271:=Nat
def tw6560925326144320621:=Nat
def tw2671180481651322991:=Nat
def tw1343398107431760104:=Nat
def tw17731602699769260424:=Nat
def tw245022540624216832:=Nat
def tw17532570768353410148:=Nat
def tw4147895752190982737:=Nat
def tw16969889289582009610:=Nat
def tw15805892249920505592:=Nat
def tw897683839508770917:=Nat
def tw17437536246867015467:=Nat
def tw18123783459635942708:=Nat
def tw8119353768503628991:=Nat
def tw3831909236845921889:=Nat
def tw992089018497157021:=Nat
def tw4813113276710089334:=Nat
def tw14432363578292249914:=Nat
def tw1264854530374521200:=Nat
def tw3952648109453682338:=Nat
def tw13831806546675985786:=Nat
def tw11768171134908973828:=Nat
def tw14384702487427288410:=Nat
def tw16883928938350948928:=Nat
def tw17301120586591710634:=Nat
def tw6572379330228265278:=Nat
def tw14567698434689177635:=Nat
def tw5681943845241831784:=Nat
def tw1794538648191806419:=Nat
def tw15277626951174142889:=Nat
def tw14019670063701905278:=Nat
def tw16275195435584766136:=Nat
def tw7577942075880981884:=Nat
def tw9036401478590769230:=Nat
def tw16069311440343324928:=Nat
def tw4408685327532117819:=Nat
def tw1507389216491678610:=Nat
def tw5684106867583057299:=Nat
def tw14515491320139129717:=Nat
def tw10274428635666523310:=Nat
def tw15371048781717823941:=Nat
def tw16533716295496592169:=Nat
def tw1324799002812135297:=Nat
def tw8153025805520215926:=Nat
def tw18296578635772819729:=Nat
def tw15892429192896037693:=Nat
def tw15562094597937941352:=Nat
def tw10721890335011219789:=Nat
def tw11479605658923651178:=Nat
def tw1380186263881082130:=Nat
def tw4249466253739122239:=Nat
def tw14630008819731122672:=Nat
def tw5700419777960210921:=Nat
def tw2500549158574895255:=Nat
def tw16517895012439558405:=Nat
def tw9147037739461027251:=Nat
def tw17988752789693502186:=Nat
def tw18296626624387714102:=Nat
def tw3647076707484927722:=Nat
def tw17340341181020633363:=Nat
def tw1092298892933049915:=Nat
def tw18164991997194765388:=Nat
def tw9215531432115515731:=Nat
def tw3693997559203008943:=Nat
def tw13308530898176619811:=Nat
def tw6833670522986523906:=Nat
def tw12897015722320975332:=Nat
def tw12913177719562604081:=Nat
def tw9147588868990024890:=Nat
def tw13618983254598186260:=Nat
def tw5744995078890571495:=Nat
end PySem.W.Fast
open PySem PySem.W PyProof.Rows
local macro_rules | `(tactic| walk_at "d") => `(tactic| first | exact FL.OO (by k_is) (by k_is) (by k_is) (by k_is) | (refine' FL.OO ?a ?l ?c ?k; (case a => k_is); (case l => k_is); (case c => k_is); (case k => k_is)))
local macro_rules | `(tactic| walk_at "x") => `(tactic| (refine' FL.Ys ?a ?b ?c ?d ?e ?f ?g; (case a => k_is); (case b => k_is); (case c => k_is); (case d => k_is); (case e => k_is); (case f => k_is); (case g => k_is)))
local macro_rules | `(tactic| walk_at "m") => `(tactic| first | exact FL.OP (by k_is) (by k_is) (by k_is) (by k_is) (by k_is) | (refine' FL.OP ?a ?i ?l ?c ?k; (case a => k_is); (case i => k_is); (case l => k_is); (case c => k_is); (case k => k_is)))
set_option maxRecDepth 100000 in
set_option maxHeartbeats 0 in
theorem PySem.Challenge.cw_cutrestore_k23_refused_picks_holds : PySem.Challenge.rw_cutrestore_k23_refused_picks.Holds := by
 w_on;o_law;k_head;(case hw=>w_witness2)
 k_fill
 refine FL.walk (l:=PySem.Challenge.rw_cutrestore_k23_refused_picks) rfl rfl (λw h Y=>W.kIn_of Y) ?F
 case F=>
  intro w mg fa h KX G US;refine' FL.all_mk KX G US ?aB ?VC ?tyB ?SD ?Fl ?Nc ?Fm ?Fo ?Fp ?Fq ?Fs ?Ft ?Nd ?Fu ?DO ?vT ?DP ?vU ?DQ ?vV ?vW ?vX ?vY ?fY ?cI ?cX ?dE ?eY ?eC ?fZ ?cN ?SE ?SG ?SH ?SI ?SJ ?SK ?Ka ?Kb ?Kc ?Ke ?Kf ?Kg ?pq ?Nf ?Ng ?lO ?lP ?lQ ?lR ?kh ?nN ?qA ?nO ?tU ?lS ?lT ?nQ ?jA ?qB ?qC ?qD ?nR ?lU ?nS ?qE ?qF ?iK ?qG ?jB ?gC ?qH ?lV ?tW ?ki ?Kh ?iL ?nU ?nV ?iM ?lW ?iN ?gi ?nW ?jC ?gV ?lX ?fc ?fJ ?lY ?iO ?lZ ?kj ?gD ?kl ?nX ?l7 ?jD ?nY ?gE ?iP ?nZ ?jE ?jF ?iQ ?n0 ?gW ?gF ?jG ?oa ?l8 ?eN ?jH ?Ki ?Kj ?qI ?qJ ?qK ?qL ?qM ?qN ?EG ?EH ?NP ?Q4 ?NQ ?Kk ?Kl ?Km ?Kn ?Ko ?Kp ?IJ ?IK ?yU ?yV ?Bi ?Kq ?Kr ?Ks ?Kt ?Ku ?Kv ?IL ?IM ?df ?cY ?b8 ?d9 ?cZ ?bF ?eZ ?cU ?ee ?cn ?km ?Kw ?BS ?Kx ?xI ?BU ?Ky ?xJ ?Kz ?KA ?KC ?KD ?KG ?l9 ?kn ?dZ ?dN ?dO ?fG ?dA ?fL ?dP ?d7 ?aF ?lF ?neF ?lP0 ?lP1 ?lP2 ?lP3 ?lP4 ?lP5 ?lP6 ?lP7 ?SM ?hnB
  (case aB|VC|tyB|SD=>k_is)
  (case Fl|Nc|Fm|Fo|Fp|Fq|Fs|Ft|Nd|Fu|DO|vT|DP|vU|DQ|vV|vW|vX|vY=>walk_at "x")
  (case fY|cI|cX|dE|eY|eC|fZ|cN|SE|SG|SH|SI|SJ|SK|Ka|Kb|Kc|Ke|Kf|Kg|pq|Nf|Ng=>k_is)
  (case lO|lP|lQ|lR|kh|nN|qA|nO|tU|lS|lT|nQ|jA|qB|qC|qD|nR|lU|nS|qE|qF|iK|qG|jB|gC=>walk_at "d")
  (case qH=>walk_at "m")
  (case lV|tW|ki=>walk_at "d")
  (case Kh=>walk_at "m")
  (case iL|nU=>walk_at "d")
  (case nV|iM|lW|iN|gi|nW|jC|gV=>walk_at "m")
  (case lX|fc=>walk_at "d")
  (case fJ|lY|iO|lZ=>walk_at "m")
  (case kj|gD|kl|nX|l7|jD|nY=>walk_at "d")
  (case gE|iP|nZ|jE|jF|iQ|n0|gW|gF|jG|oa=>walk_at "m")
  (case l8=>walk_at "d")
  (case eN|jH|Ki=>walk_at "m")
  (case Kj=>walk_at "d")
  (case qI|qJ|qK|qL|qM|qN|EG|EH|NP|Q4|NQ|Kk|Kl|Km|Kn|Ko|Kp|IJ|IK|yU|yV|Bi|Kq|Kr|Ks|Kt|Ku|Kv|IL|IM|df|cY|b8|d9|cZ|bF|eZ|cU|ee|cn|km|Kw|BS|Kx|xI|BU|Ky|xJ|Kz|KA|KC|KD|KG|l9|kn|dZ|dN|dO|fG|dA|fL|dP|d7|aF|lF=>k_is)
  (case neF=>first|rfl|decide)
  (case lP0|lP1|lP2|lP3|lP4|lP5|lP6|lP7=>k_is)
  (case SM|hnB=>decide +kernel)
