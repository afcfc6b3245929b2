import PyProof.Rows.All
import Wide.All
import OpenK.AllK
import Wide.FinOn
import Lean
import PyProof.EqAt
import PyProof.EqKinds
import PyProof.TupleCall
import PyProof.NeKinds
import PyProof.Rows.Range3
import KE.KIsAll
import PyProof.ExcClass3
import PyProof.InstStoreFacts
import PyProof.ExcArgsOwn
import PyProof.ExcBaseAll.ValueError
import PyProof.ExcAttrAll.ValueError
import PyProof.Draws
import PyProof.ZipIter
import PyProof.SumWalk
import PyProof.Rows.FactsT2
import PyProof.EnumMake
import PyProof.Rows.EnumRows
import KE.KTab
import PyProof.StationsW
import PyProof.RulesAs
import PyProof.NsDelKeeps
import PyProof.PassesOwn
import PyProof.Rows.ListMulArg
import PyProof.StrWalks
import PyProof.MeetsStr
import PyProof.MeetsStr2
import PyProof.StrBlockL
import PyProof.SliceStr2
import PyProof.StrLawsIdx
import PyProof.FitsStr
import PyProof.StrLaws
import PyProof.Rows.FStr
import KE.KIntText
import PyProof.StrLawsTight
import PyProof.Rows.StrIntSpec
import PyProof.Rows.CountFlat
import PyProof.Rows.SeqMore2
import PyProof.SeqRoads
import PyProof.StrLawsAffix
import PyProof.InstEq
import PyProof.DictUpdate
import PyProof.DictWalks
import KE.KDictList
import PyProof.FactsAll.NoneType_1
import Wide.Seal
import PySem.Challenge.RW_cutrestore_k43_lying_at_cuts
set_option compiler.extract_closed false
set_option Elab.async false
set_option linter.all false
set_option maxRecDepth 100000
theorem L2.fo{p:Prop}(h:∀g:Prop,(p->g)->g):p:=h p id
theorem L2.yo1{A:Sort _}{p:A->Prop}{z:Prop}(h:∃a,p a)(y:∀a,p a->z):z:=h.elim λa x=>y a x
theorem L2.yo2{A B:Sort _}{p:A->B->Prop}{z:Prop}(h:∃a b,p a b)(y:∀a b,p a b->z):z:=h.elim λa x=>x.elim λb x=>y a b x
theorem L2.yo3{A B C:Sort _}{p:A->B->C->Prop}{z:Prop}(h:∃a b c,p a b c)(y:∀a b c,p a b c->z):z:=h.elim λa x=>x.elim λb x=>x.elim λc x=>y a b c x
theorem L2.yo4{A B C D:Sort _}{p:A->B->C->D->Prop}{z:Prop}(h:∃a b c d,p a b c d)(y:∀a b c d,p a b c d->z):z:=h.elim λa x=>x.elim λb x=>x.elim λc x=>x.elim λd x=>y a b c d x
theorem L2.yo5{A B C D E:Sort _}{p:A->B->C->D->E->Prop}{z:Prop}(h:∃a b c d e,p a b c d e)(y:∀a b c d e,p a b c d e->z):z:=h.elim λa x=>x.elim λb x=>x.elim λc x=>x.elim λd x=>x.elim λe x=>y a b c d e x
theorem L2.yo6{A B C D E F:Sort _}{p:A->B->C->D->E->F->Prop}{z:Prop}(h:∃a b c d e f,p a b c d e f)(y:∀a b c d e f,p a b c d e f->z):z:=h.elim λa x=>x.elim λb x=>x.elim λc x=>x.elim λd x=>x.elim λe x=>x.elim λf x=>y a b c d e f x
theorem L2.yo7{A B C D E F G:Sort _}{p:A->B->C->D->E->F->G->Prop}{z:Prop}(h:∃a b c d e f g,p a b c d e f g)(y:∀a b c d e f g,p a b c d e f g->z):z:=h.elim λa x=>x.elim λb x=>x.elim λc x=>x.elim λd x=>x.elim λe x=>x.elim λf x=>x.elim λg x=>y a b c d e f g x
theorem L2.yo8{A B C D E F G H:Sort _}{p:A->B->C->D->E->F->G->H->Prop}{z:Prop}(h:∃a b c d e f g h,p a b c d e f g h)(y:∀a b c d e f g h,p a b c d e f g h->z):z:=h.elim λa x=>x.elim λb x=>x.elim λc x=>x.elim λd x=>x.elim λe x=>x.elim λf x=>x.elim λg x=>x.elim λh x=>y a b c d e f g h x
theorem L2.ya2{A B y:Prop}(h:A/\B)(x:A->B->y):y:=x h.1 h.2
theorem L2.ya3{A B C y:Prop}(h:A/\B/\C)(x:A->B->C->y):y:=x h.1 h.2.1 h.2.2
theorem L2.ya4{A B C D y:Prop}(h:A/\B/\C/\D)(x:A->B->C->D->y):y:=x h.1 h.2.1 h.2.2.1 h.2.2.2
theorem L2.ya5{A B C D E y:Prop}(h:A/\B/\C/\D/\E)(x:A->B->C->D->E->y):y:=x h.1 h.2.1 h.2.2.1 h.2.2.2.1 h.2.2.2.2
theorem L2.ya6{A B C D E F y:Prop}(h:A/\B/\C/\D/\E/\F)(x:A->B->C->D->E->F->y):y:=x h.1 h.2.1 h.2.2.1 h.2.2.2.1 h.2.2.2.2.1 h.2.2.2.2.2
theorem L2.ya7{A B C D E F G y:Prop}(h:A/\B/\C/\D/\E/\F/\G)(x:A->B->C->D->E->F->G->y):y:=x h.1 h.2.1 h.2.2.1 h.2.2.2.1 h.2.2.2.2.1 h.2.2.2.2.2.1 h.2.2.2.2.2.2
theorem L2.ya8{A B C D E F G H y:Prop}(h:A/\B/\C/\D/\E/\F/\G/\H)(x:A->B->C->D->E->F->G->H->y):y:=x h.1 h.2.1 h.2.2.1 h.2.2.2.1 h.2.2.2.2.1 h.2.2.2.2.2.1 h.2.2.2.2.2.2.1 h.2.2.2.2.2.2.2
theorem L2.ya9{A B C D E F G H I y:Prop}(h:A/\B/\C/\D/\E/\F/\G/\H/\I)(x:A->B->C->D->E->F->G->H->I->y):y:=x h.1 h.2.1 h.2.2.1 h.2.2.2.1 h.2.2.2.2.1 h.2.2.2.2.2.1 h.2.2.2.2.2.2.1 h.2.2.2.2.2.2.2.1 h.2.2.2.2.2.2.2.2
section
set_option hygiene false
local macro_rules | `(tactic| calc $e:term) => `(tactic| refine $e)
local macro_rules | `(tactic| lia) => `(tactic| first | with_reducible assumption | exact Nat.zero_le _ | exact Nat.le_refl _ | (refine Nat.le_of_lt ?_; with_reducible assumption) | (refine Nat.lt_succ_of_le ?_; with_reducible assumption) | (refine Int.ofNat_lt.mpr ?_; with_reducible assumption) | (refine Eq.symm ?_; with_reducible assumption) | omega)
local macro_rules | `(tactic| obtain $p:rcasesPatMed := $e:term) => `(tactic| (refine L2.fo λgZ hZ => ?_; rcases $e:term with $p:rcasesPatMed) <;> (refine hZ ?_; clear hZ gZ))
local macro_rules
 | `(tactic| obtain ⟨$ps,*⟩ := $e:term) => do
  let q := ps.getElems
  let n := q.size
  let k0 ← `(tactic| skip)
  let i : Lean.Ident := ⟨e.raw⟩
  let ce ← if e.raw.isIdent then `(tactic| try clear $i:ident) else pure k0
  let mut xs := #[]
  let mut re := #[]
  for p in q do
    let a := p.raw[0][0]
    let x := a[0][0]
    let z := Lean.mkIdent (.num `z_ xs.size)
    let b := x.isIdent && a.getNumArgs == 1 && x.getId != `rfl
    let r ← `(tactic| rcases $z:ident with $p:rcasesPatLo)
    xs := xs.push (if b then ⟨x⟩ else z)
    re := re.push (if b then k0 else r)
  let mut t ← `(tactic| rcases $e:term with ⟨$q,*⟩)
  for m in [2:n+n] do
    let c := if m ≤ n then m - 1 else m - n
    let l := Lean.mkIdent (.str `L2 (if m ≤ n then s!"ya{m}" else s!"yo{c}"))
    let w := q[c:].toArray
    let w ← `(tactic| obtain ⟨$w,*⟩ := zH)
    let f := n ≤ c + 1
    let y := if f then xs else xs[:c].toArray.push (Lean.mkIdent `zH)
    let r := if f then re else re[:c].toArray.push w
    t ← `(tactic| first | (refine $l $e ?_; ($ce:tactic); intro $y*; $[$r]*) | $t:tactic)
  if e.raw.getId == `zH then return t
  `(tactic| (refine L2.fo λgZ hZ => ?_; $t:tactic) <;> (refine hZ ?_; clear hZ gZ))
local macro_rules | `(tactic| nofun) => `(tactic| refine L2.fo λgZ hZ => ?_)
local macro_rules | `(tactic| ac_rfl) => `(tactic| (refine hZ ?_; clear hZ gZ))
local macro_rules | `(()) => `(by lia)
local macro_rules | `(∅) => `(by decide)
local macro_rules | `(⋯) => `(by decide +kernel)
local macro_rules | `(nofun) => `(by simp)
local macro_rules | `(Sort) => `(by grind)
set_option hygiene true
set_option hygiene false
local macro_rules | `(tactic| grind) => `(tactic| first | exact Or.inl rfl | exact Or.inr rfl | assumption)
local macro_rules | `(tactic| symm) => `(tactic| (refine D.ok sc (λvs H Q E h => ?_) (λf gz A outer s H vs Q E hr h => ?_); (first | (cases h; subst_vars; rfl) | ((repeat rcases h with ⟨_, h⟩) <;> subst_vars <;> rfl))))
local macro_rules
 | `(tactic| walk_at "xc") => `(tactic| (refine ⟨?_⟩; intro pins s σ H Q I h))
 | `(tactic| walk_at "xd") => `(tactic| (refine ⟨?_⟩; intro pins s σ H D I h))
 | `(tactic| walk_at "xf") => `(tactic| refine ⟨Ext.set (Ext.refl _) rfl, ?_⟩)
set_option hygiene true
abbrev RB:= @PySem.F.slot_dict_get
abbrev uj:= @PyProof.Rows.boot_isinstance
abbrev lS:= @PySem.F.plainAttrs_list
abbrev oF:= @PySem.F.slot_list_append
abbrev oG:= @PySem.F.type_list_append
abbrev oK:= @PyProof.Rows.boot_tuple
abbrev wF:= @PyProof.Rows.boot_list
abbrev Qm:= @PyProof.Rows.boot_all
section
open PySem
abbrev A':= @wpAny_bind
abbrev E':= @Nat.le_of_lt
abbrev J':= @Heap.get?_push_of_some
abbrev K':= @Nat.le_refl
abbrev L':= @PySem.boot_len
abbrev M':= @wpAny_pure
abbrev P':= @Heap.lt_size
abbrev R':= @Nat.lt_of_lt_of_le
abbrev S':= @Bool.false_ne_true
abbrev T':= @Heap.get?_push_size
abbrev U':= @Nat.zero_le
abbrev V':= @Nat.ne_of_lt
abbrev W':= @List.getElem_mem
abbrev X':= @List.mem_append_right
abbrev Y':= @Nat.le_trans
abbrev aaa:= @List.mem_of_getElem?
abbrev aab:= @List.mem_cons_of_mem
abbrev aaj:= @List.mem_cons_self
abbrev aal:= @True.intro
abbrev aam:= @W.mg_none_of
abbrev aaq:= @wpAny_field
abbrev aar:= @Int.eq_ofNat_of_zero_le
abbrev aas:= @False.elim
abbrev aat:= @wpAny_pyIter_tuple
abbrev aau:= @Int.emod_lt_of_pos
abbrev aav:= @Nat.lt_irrefl
abbrev aaw:= @wpAny_mono
abbrev aax:= @wpAny_callSpecial?_slot
abbrev aay:= @PySem.mem_of_lookup
abbrev aaA:= @Nat.lt_of_le_of_lt
abbrev aaC:= @PyProof.Rows.slot_tuple_getitem
abbrev aaD:= @Int.emod_nonneg
abbrev aaE:= @wpAny_truthy_bool
abbrev aaF:= @wpAny_newObj_type
abbrev aaH:= @Int.toNat_of_nonneg
abbrev aaI:= @wpAny_seqItems
end
namespace L2
open PySem PySem.Spec PyProof.Rows
section
theorem dw{α:Type _}{l:List α}{i:Nat}(h:i<l.length):l[i]?=some l[i]:=List.getElem?_eq_getElem h
abbrev Key:=Sum Int Str
def uk:Key->Value->Bool
 | .inl k,v=>Value.isInt k v
 | .inr x,v=>Value.isStrOf x v
def Xi(w:World):Key->Int
 | .inl k=>hashInt k
 | .inr x=>hashStr w x
theorem dA:∀{k:Key}{v:Value},uk k v=true->(∃i t,k=Sum.inl i/\v=Value.int i t)\/(∃x t,k=Sum.inr x/\v=Value.str x t)
 | .inl i,v,h=>by
  obtain⟨t,e⟩:=Value.isInt_shape (k:=i) (v:=v) h;calc .inl ⟨i,t,rfl,e⟩
 | .inr x,v,h=>by
  obtain⟨t,e⟩:=Value.isStrOf_shape (x:=x) (v:=v) h;calc .inr ⟨x,t,rfl,e⟩
theorem B5(i:Int)(t:Tok):uk (.inl i) (.int i t)=true:=by simp[uk,Value.isInt]
theorem B6(x:Str)(t:Tok):uk (.inr x) (.str x t)=true:=by simp[uk,Value.isStrOf]
theorem MW(a b:Int):decide ((Sum.inl a:Key)=Sum.inl b)=(a==b):=by
 by_cases e:a=b
 ·subst e;simp
 ·have h:¬(Sum.inl a:Key)=Sum.inl b:=λq=>e (Sum.inl.inj q);rw[decide_eq_false h];calc(beq_eq_false_iff_ne.mpr e).symm
theorem MX(a b:Str):decide ((Sum.inr a:Key)=Sum.inr b)=decide (a=b):=by
 by_cases e:a=b
 ·subst e;simp
 ·have h:¬(Sum.inr a:Key)=Sum.inr b:=λq=>e (Sum.inr.inj q);rw[decide_eq_false h,decide_eq_false e]
theorem MY(a:Int)(b:Str):decide ((Sum.inl a:Key)=Sum.inr b)=false:=decide_eq_false (λq=>nomatch q)
theorem MZ(a:Str)(b:Int):decide ((Sum.inr a:Key)=Sum.inl b)=false:=decide_eq_false (λq=>nomatch q)
def dB(prog:Program)(w:World):PySem.KeyKind prog w Key where
 is:=uk
 hash:=Xi w
 inj:=λv a b f d=>by
  rcases dA f with⟨i,t,rfl,rfl⟩|⟨x,t,rfl,rfl⟩
  ·rcases dA d with⟨j,u,rfl,e⟩ | ⟨y,u,rfl,e⟩
   ·injection e with e1 _;rw[e1]
   ·exact nomatch e
  ·rcases dA d with⟨j,u,rfl,e⟩ | ⟨y,u,rfl,e⟩
   ·exact nomatch e
   ·injection e with e1 _;rw[e1]
 byValue:=λk v h=>by
  rcases dA h with⟨i,t,rfl,rfl⟩|⟨x,t,rfl,rfl⟩<;>rfl
 pyHash:=λc h=>by
  rcases dA c with⟨i,t,rfl,rfl⟩|⟨x,t,rfl,rfl⟩
  ·exact wpAny_pyHash_int h
  ·exact wpAny_pyHash_str h
 eqBool:=λg c h=>by
  rcases dA g with⟨i,t,rfl,rfl⟩|⟨x,t,rfl,rfl⟩
  ·rcases dA c with⟨j,u,rfl,rfl⟩ | ⟨y,u,rfl,rfl⟩
   ·rw[MW]at h;exact wpAny_eqBool_int h
   ·rw[MY]at h;exact SeqAt.EqAt.int_str i t y u _ _ _ _ h
  ·rcases dA c with⟨j,u,rfl,rfl⟩ | ⟨y,u,rfl,rfl⟩
   ·rw[MZ]at h;exact SeqAt.EqAt.str_int x t j u _ _ _ _ h
   ·rw[MX]at h;exact wpAny_eqBool_str h
 «strs»:=λk x t v h=>by
  rcases dA h with⟨i,u,rfl,e⟩|⟨y,u,rfl,e⟩
  ·exact nomatch e
  ·injection e with e1 _
   subst e1
   cases v<;>rfl
theorem wV(prog:Program)(w:World)(i:Int)(t:Tok):(dB prog w).is (.inl i) (.int i t)=true:=B5 i t
theorem wW(prog:Program)(w:World)(x:Str)(t:Tok):(dB prog w).is (.inr x) (.str x t)=true:=B6 x t
end
section
variable {a b:Addr}{H:Hp}
inductive V where
 |bP|bl (b:Bool)|int (i:Int)|str (x:Str)|Ao (b:Array UInt8)|Lf (b:UInt64)|ref (a:Addr)|ty (n:String)
 deriving DecidableEq
def RelV:V->Value->Prop
 | .bP,u=>u=Value.none
 | .bl b,u=>u=Value.bool b
 | .int i,u=>∃t,u=Value.int i t
 | .str x,u=>∃t,u=Value.str x t
 | .Ao b,u=>∃t,u=Value.bytes b t
 | .Lf b,u=>∃t,u=Value.float b t
 | .ref a,u=>u=Value.ref a
 | .ty n,u=>u=Value.type n
abbrev Vals:List V->List Value->Prop:=Paired RelV
theorem Vals.length{xs:List V}{us:List Value}(r:Vals xs us):xs.length=us.length:=Paired.length r
theorem Vals.get:∀{xs:List V}{us:List Value}{i:Nat}{x:V},Vals xs us->xs[i]?=some x->∃u,us[i]?=some u/\RelV x u
 |_,_,_,_,.nil,e=>by simp at e
 |_,_,0,_,.cons r _,e=>by simp at e;subst e;calc⟨_,rfl,r⟩
 |_,_,i+1,x,.cons _ t,e=>by
  obtain⟨u,a,b⟩:=Vals.get (i:=i) (x:=x) t (by simpa using e);calc⟨u,by simpa using a,b⟩
theorem Vals.set{x:V}{u:Value}(r:RelV x u):∀{xs:List V}{us:List Value}(i:Nat),Vals xs us->Vals (xs.set i x) (us.set i u)
 |_,_,_,.nil=>.nil
 |_,_,0,.cons _ t=>.cons r t
 |_,_,i+1,.cons q t=>.cons q (Vals.set r i t)
theorem Vals.append:∀{xs ys:List V}{us ws:List Value},Vals xs us->Vals ys ws->Vals (xs++ys) (us++ws)
 |_,_,_,_,.nil,s=>s
 |_,_,_,_,.cons r t,s=>.cons r (Vals.append t s)
theorem Vals.take:∀{xs:List V}{us:List Value}(n:Nat),Vals xs us->Vals (xs.take n) (us.take n)
 |_,_,0,_=>.nil
 |_,_,_+1,.nil=>.nil
 |_,_,n+1,.cons r t=>.cons r (Vals.take n t)
theorem Vals.drop:∀{xs:List V}{us:List Value}(n:Nat),Vals xs us->Vals (xs.drop n) (us.drop n)
 |_,_,0,r=>r
 |_,_,_+1,.nil=>.nil
 |_,_,n+1,.cons _ t=>Vals.drop n t
def ke:Option V->Option Value->Prop
 |some v,some u=>RelV v u
 |none,none=>True
 |_,_=>False
def KV{κ:Type}:List (κ×V)->List (κ×Value)->Prop:=Paired λ(p:κ×V) (q:κ×Value)=>p.1=q.1/\RelV p.2 q.2
def kV:Key->V
 | .inl i=>.int i
 | .inr x=>.str x
inductive HO where
 |lst (xs:List V)
 |tup (xs:List V)
 |dK (bg:List (Key×V))|dT (bg:List (List Key×V))
 |set (S:Int->Bool) (n:Nat)
 |ins (C dx:Addr) (fs:List (Str×V))
 |own (x:Addr)
 |xd (fs:List (Str×V))
 |met (f x:Addr)
 |Xj (lo hi:Int)
 |yM (o:Obj) (u:HO)
 |M0 (ps:Array Value)
 |ext (φ:Heap->Prop)
abbrev Hp:=Addr->Option HO
def upd(H:Hp)(a:Addr)(o:HO):Hp:=λb=>if b=a then some o else H b
theorem ab{o:HO}:upd H a o a=some o:=by unfold upd;rw[if_pos rfl]
theorem av{o:HO}(h:b≠a):upd H a o b=H b:=by unfold upd;rw[if_neg h]
theorem um{o u:HO}(h:H a=some o)(h':H b=some u)(d:o≠u):a≠b:=by
 intro e;subst e;rw[h]at h';calc d (Option.some.inj h')
theorem ao{o:HO}(h:H a=some o)(h':H b=none):a≠b:=by
 intro e;subst e;rw[h]at h';cases h'
section
variable (P:Program)(w:World)
def cW(H:Hp)(h:Heap)(a:Addr):HO->Prop
 | .lst xs=>xs.length<=sizeLine/\∃(b:List Value) (n:Nat),Vals xs b/\h.get? a=some {cls:=.type "list",data:=.seq b.toArray n}
 | .tup xs=>xs.length<=sizeLine/\∃b:List Value,Vals xs b/\IsTup h a b.toArray
 | .dK b=>b.length<=sizeLine/\(a==sysModules)=false/\∃vs,KV b vs/\h.DictOf (dB P w) a vs
 | .dT b=>b.length<=sizeLine/\(a == sysModules)=false/\∃xs:List (List Key×Addr×Value),
   Paired (λ(p:List Key×V) (q:List Key×Addr×Value)=>p.1=q.1/\H q.2.1=some (.tup (p.1.map kV))/\RelV p.2 q.2.2) b xs/\
   ∃o b c,h.get? a=some o/\o.ExactDict/\o.data=.dict b c/\b.toList=xs.map (entryOfKey (tupleKind (dB P w)))/\(xs.map (·.1)).Nodup
 | .set S n=>h.SetOf (intKind P w) a S n
 | .ins C d c=>H d=some (.own a)/\c.length<=1000/\d≠a/\h.get? a=some (W.instObj C d)/\
   ∃b,h.Ns1 d b/\(∀f,ke (c.lookup f) (b f))/\PySem.Within b (c.map (·.1))
 | .own _=>∃o,h.get? a=some o
 | .xd c=>∃b,h.Ns1 a b/\∀f,ke (c.lookup f) (b f)
 | .Xj b c=>∃t u v,h.get? a=some {cls:=.type "range",data:=.fields #[.int b t,.int c u,.int 1 v]}
 | .yM o u=>h.get? a=some o/\cW H h a u
 | .M0 b=>h.get? a=some {cls:=.none,data:=.fields b}
 | .met f x=>h.get? a=some (W.methodObj (.ref f) (.ref x))
 | .ext φ=>φ h/\(∃o,h.get? a=some o)/\∀b c:Heap,φ b->(∀o,b.get? a=some o->c.get? a=some o)->φ c
def mj(H:Hp)(h:Heap):Prop:=∀a o,H a=some o->cW P w H h a o
end
section
variable {P:Program}{w:World}{H H':Hp}{h h':Heap}{a:Addr}{o:HO}
theorem cW.lt(x:cW P w H h a o):a<h.objs.size:=by
 cases o with
 |lst b=>obtain⟨_,_,_,_,e⟩:=x;calc P' e
 |tup b=>obtain⟨_,_,_,p⟩:=x;calc p.lt
 |dK b=>obtain⟨_,_,_,_,o,_,_,e,_⟩:=x;calc P' e
 |dT b=>obtain⟨_,_,_,_,o,_,_,e,_⟩:=x;calc P' e
 |set S n=>obtain⟨o,_,_,_,e,_⟩:=x;calc P' e
 |ins C c b=>obtain⟨_,_,_,e,_⟩:=x;calc P' e
 |own y=>obtain⟨_,e⟩:=x;calc P' e
 |xd b=>obtain⟨_,⟨_,_,_,e,_⟩,_⟩:=x;calc P' e
 |Xj b c=>obtain⟨_,_,_,e⟩:=x;calc P' e
 |yM b u=>obtain⟨e,_⟩:=x;calc P' e
 |M0 b=>calc P' (show h.get? a=some _ from x)
 |met f y=>calc P' (show h.get? a=some _ from x)
 |ext φ=>obtain⟨_,⟨_,e⟩,_⟩:=x;calc P' e
theorem Paired.M1{α β:Type}{F G:α->β->Prop}:∀{l₁:List α}{c:List β},Paired F l₁ c->(∀a b,F a b->G a b)->Paired G l₁ c
 |_,_,.nil,_=>.nil
 |_,_,.cons r t,f=>.cons (f _ _ r) (Paired.M1 t f)
theorem cW.aH(x:cW P w H h a o)(k:∀b u,(b=a\/H b=some (.own a))->h.get? b=some u->h'.get? b=some u)
  (m:∀b,H b=some (.own a)->H' b=some (.own a)) (j:∀b xs,H b=some (.tup xs)->H' b=some (.tup xs)):cW P w H' h' a o:=by
 induction o with
 |lst xs=>obtain⟨z,d,n,r,e⟩:=x;calc⟨z,d,n,r,k _ _ (.inl rfl) e⟩
 |tup xs=>obtain⟨z,d,r,f,e,c⟩:=x;calc⟨z,d,r,f,k _ _ (.inl rfl) e,c⟩
 |dK d=>obtain⟨z,y,l,r,f,g,i,e,c⟩:=x;calc⟨z,y,l,r,f,g,i,k _ _ (.inl rfl) e,c⟩
 |dT d=>
  obtain⟨z,y,xs,r,f,g,i,e,c⟩:=x;calc⟨z,y,xs,Paired.M1 r λp q z=>⟨z.1,j _ _ z.2.1,z.2.2⟩,f,g,i,k _ _ (.inl rfl) e,c⟩
 |set S n=>obtain⟨f,g,i,t,e,c⟩:=x;calc⟨f,g,i,t,k _ _ (.inl rfl) e,c⟩
 |ins C d n=>
  obtain⟨d,z,s,e,j,⟨l,g,i,v,c⟩,r⟩:=x;calc⟨m _ d,z,s,k _ _ (.inl rfl) e,j,⟨l,g,i,k _ _ (.inr d) v,c⟩,r⟩
 |own y=>obtain⟨f,e⟩:=x;calc⟨f,k _ _ (.inl rfl) e⟩
 |xd n=>obtain⟨j,⟨l,g,i,e,c⟩,r⟩:=x;calc⟨j,⟨l,g,i,k _ _ (.inl rfl) e,c⟩,r⟩
 |Xj c d=>obtain⟨t,u,v,e⟩:=x;calc⟨t,u,v,k _ _ (.inl rfl) e⟩
 |yM f u c=>obtain⟨e,q⟩:=x;calc⟨k _ _ (.inl rfl) e,c q⟩
 |M0 c=>
  have e:h.get? a=some {cls:=.none,data:=.fields c}:=x;show h'.get? a=some {cls:=.none,data:=.fields c};calc k a _ (.inl rfl) e
 |met f y=>
  have e:h.get? a=some (W.methodObj (.ref f) (.ref y)):=x;show h'.get? a=some (W.methodObj (.ref f) (.ref y));calc k a _ (.inl rfl) e
 |ext φ=>obtain⟨p,⟨o,e⟩,c⟩:=x;calc⟨c _ _ p λo q=>k _ _ (.inl rfl) q,⟨o,k _ _ (.inl rfl) e⟩,c⟩
theorem mj.lt(x:mj P w H h)(e:H a=some o):a<h.objs.size:=(x a o e).lt
theorem mj.fresh(x:mj P w H h)(e:h.objs.size<=a):H a=none:=by
 cases q:H a with
 |none=>rfl
 |some u=>calc absurd (R' (x.lt q) e) (aav _)
theorem mj.kept(x:mj P w H h)(k:∀b u,h.get? b=some u->h'.get? b=some u):mj P w H h':=λa o e=>
 (x a o e).aH (λb u _ q=>k b u q) (λ_ q=>q) λ_ _ q=>q
theorem mj.laid(x:mj P w H h)(k:∀b u,h.get? b=some u->h'.get? b=some u)(g:h.objs.size<=a)(c:cW P w (upd H a o) h' a o):mj P w (upd H a o) h':=λb u e=>by
 have d:=x.fresh g;by_cases f:b=a
 ·subst f;rw[ab]at e;cases e;exact c
 ·rw[av f]at e;exact(x b u e).aH (λc v _ q=>k c v q) (λc q=>by rw[av (ao q d)];calc q) λc e q=>by rw[av (ao q d)];calc q
end
def Rd(H:Hp)(a:Addr)(u:HO):Prop:=H a=some u\/∃o,H a=some (.yM o u)
theorem Rd.ok{P:Program}{w:World}{h:Heap}{u:HO}(r:Rd H a u)(x:mj P w H h):cW P w H h a u:=by
 rcases r with r|⟨o,r⟩
 ·exact x a u r
 ·obtain⟨_,q⟩:=x a _ r;calc q
def RC:Option HO->Prop
 |some (.lst _)=>True
 |some (.dK _)=>True
 |some (.dT _)=>True
 |some (.set _ _)=>True
 |some (.ins _ _ _)=>True
 |some (.ext _)=>True
 |_=>False
section
variable {P:Program}{w:World}{H:Hp}{h h':Heap}{x e:Addr}{o':HO}
theorem mj.write(o:mj P w H h)(a:RC (H x))(l:e=x\/H e=some (.own x))(k:∀b u,b≠e->h.get? b=some u->h'.get? b=some u)(p:∃u,h'.get? e=some u)
  (j:cW P w (upd H x o') h' x o'):mj P w (upd H x o') h':=λb u q=>by
 have m:∀c y,H c=some (.own y)->c≠x:=λc y r z=>by subst z;rw[r]at a;exact a
 have s:∀c d,H c=some (.tup d)->c≠x:=λc d r z=>by subst z;rw[r]at a;exact a
 by_cases f:b=x
 ·subst f;rw[ab]at q;cases q;exact j
 ·rw[av f] at q;by_cases g:b=e
  ·have n:H b=some (.own x):=by
    rcases l with z|z
    ·exact absurd (g.trans z) f
    ·rw[g];exact z
   rw[q]at n;cases n;obtain⟨v,a⟩:=p;exact⟨v,by rw[g];calc a⟩
  ·refine(o b u q).aH (λc v i r=>k c v ?_ r) (λc r=>by rw[av (m c b r)];calc r) λc d r=>by rw[av (s c d r)];exact r
   rcases i with rfl|i
   ·exact g
   ·rintro rfl;rcases l with z | z
    ·exact m c b i z
    ·rw[i]at z;cases z;calc f rfl
end
structure Un(fs ex:List Addr)(H H':Hp)(h h':Heap):Prop where
 keep:∀b o,h.get? b=some o->H b=none->b∉fs->b∉ex->h'.get? b=some o
 slot:∀b o,h.get? b=some o->H b=none->b∈fs->b∉ex->∃sl,h'.get? b=some {o with slots:=sl}
 free:∀b o,h.get? b=some o->H b=none->b∉ex->H' b=none
 there:∀b o,h.get? b=some o->b∉ex->∃o',h'.get? b=some o'
 aP:∀b xs,H b=some (.tup xs)->H' b=some (.tup xs)
 vm:∀b o u,H b=some (.yM o u)->H' b=some (.yM o u)
 wX:∀b ps,H b=some (.M0 ps)->∃more,H' b=some (.M0 (ps++more))
section
variable {fs yN ex ex':List Addr}{H H1 H2:Hp}{h h1 h2 h':Heap}{a x e:Addr}{o:HO}
theorem Un.any(u:Un fs ex H H1 h h1){b:Addr}{a:Obj}(q:h.get? b=some a)(n:H b=none)(c:b∉ex):∃d,h1.get? b=some {a with slots:=d}:=by
 by_cases d:b∈fs
 ·exact u.slot b a q n d c
 ·calc⟨a.slots,u.keep b a q n d c⟩
theorem Un.kept(k:∀b u,h.get? b=some u->h'.get? b=some u):Un fs ex H H h h':=
 ⟨λb a q _ _ _=>k b a q,λb a q _ _ _=>⟨a.slots,k b a q⟩,λ_ _ _ n _=>n,λb a q _=>⟨a,k b a q⟩,λ_ _ q=>q,λ_ _ _ q=>q,λ_ a q=>⟨#[],by rw[q];simp⟩⟩
theorem Un.refl:Un fs ex H H h h:=Un.kept λ_ _ q=>q
theorem Un.laid(k:∀b u,h.get? b=some u->h'.get? b=some u)(d:h.objs.size<=a)(c:H a=none):Un fs ex H (upd H a o) h h' where
 keep:=λb u q _ _ _=>k b u q
 slot:=λb u q _ _ _=>⟨u.slots,k b u q⟩
 free:=λb u q n _=>by rw[av (Nat.ne_of_lt (Nat.lt_of_lt_of_le (Heap.lt_size q) d))];exact n
 there:=λb u q _=>⟨u,k b u q⟩
 aP:=λb d q=>by rw[av (ao q c)];exact q
 vm:=λb u d q=>by rw[av (ao q c)];exact q
 wX:=λb d q=>⟨#[],by rw[av (ao q c),q];simp⟩
theorem Un.write(a:RC (H x))(i:e=x\/H e=some (.own x))(k:∀b u,b≠e->h.get? b=some u->h'.get? b=some u)(j:∃u,h'.get? e=some u):Un fs ex H (upd H x o) h h':=by
 have d:∀b,H b=none->b≠x:=λb n z=>by subst z;rw[n]at a;exact a
 have f:∀b,H b=none->b≠e:=λb n z=>by
  subst z;rcases i with r|r
  ·exact d b n r
  ·rw[n]at r;cases r
 have c:∀b u,H b=some u->¬RC (some u)->b≠x:=λb u q l z=>by subst z;rw[q]at a;exact l a
 refine⟨λb u q n _ _=>k b u (f b n) q,λb u q n _ _=>⟨u.slots,k b u (f b n) q⟩,λb u q n _=>by rw[av (d b n)];exact n,λb u q _=>?_,
  λb a q=>by rw[av (c b _ q λz=>z)];calc q,λb u a q=>by rw[av (c b _ q λz=>z)];calc q,λb a q=>⟨#[],by rw[av (c b _ q λz=>z),q];simp⟩⟩
 by_cases g:b=e
 ·subst g;exact j
 ·calc⟨u,k b u g q⟩
end
def VT(h:Heap)(H:Hp):List Addr:=(List.range h.objs.size).filter λa=>(H a).isSome
def vn(h:Heap)(H:Hp):Heap:=W.hideAll h (VT h H)
theorem B7(h:Heap)(H:Hp):(vn h H).objs.size=h.objs.size:=W.hideAll_size _ _
theorem DZ{h:Heap}{o:Obj}(e:h.get? b=some o)(n:H b=none):(vn h H).get? b=some o:=
 W.hideAll_get _ e λa=>by
  have q:(H b).isSome=true:=(List.mem_filter.mp a).2;rw[n]at q;simp at q
theorem Jl{h:Heap}{H:Hp}{b:Addr}{o:Obj}(e:(vn h H).get? b=some o):h.get? b=some o/\H b=none:=by
 have a:h.get? b=some o:=W.of_hideAll (VT h H) e;refine⟨a,?_⟩
 cases q:H b with
 |none=>rfl
 |some x=>
  have c:b∈VT h H:=List.mem_filter.mpr ⟨List.mem_range.mpr (P' a),by simp[q]⟩;have z:(vn h H).get? b=none:=W.hideAll_none (VT h H) c;rw[z]at e;cases e
end
section
variable {A:Around}{ch:List Addr}{t':Nat}{E:Value->Shared->Prop}
structure Mod(K:W.Frag)(mg:Str->Option Value)(base:Heap):Prop where
 Qo:K.In base
 glob:base.Ns mainGlobals mg
 blt:∃mb,base.Ns builtinsNs mb/\∀x:Str,x≠"__name__"->mb x=bootBuiltins x
 nolimit:base.NoLimit
structure Cx where
 prog:Program
 w:World
 K:W.Frag
 mg:Str->Option Value
 base:Heap
 A:Around
 N:List Str
 s₀:Shared
 H₀:Hp
 env:Env
 outer:List Env
 stack:List Env
 ex:List Addr
 fn:Str->Bool
 calm:Bool
 pn:List (Addr×Obj)
 xe:Value->Shared->Prop
def B8(l:List Env):List Addr:=l.filterMap (·.frame)
abbrev Cx.fs(X:Cx):List Addr:=B8 X.outer
def RE(a:Scope)(x:Str):Prop:=a.names.lookup x=some .local\/a.names.lookup x=some .cell\/a.names.lookup x=some .free
def Loc(a:Scope)(x:Str):Prop:=a.names.lookup x=some .local\/a.names.lookup x=some .cell
def Look(env:Env)(h:Heap)(m:Str->Option Value)(x:Str)(u:Value):Prop:=
 (env.kindOf x=some .local/\m x=some u)\/((env.kindOf x=some .cell\/env.kindOf x=some .free)/\∃c,env.cells.lookup x=some c/\h.IsCell c (some u))
structure Cx.Ok(X:Cx):Prop where
 mod:Mod X.K X.mg X.base
 kind:X.env.scope.kind=.function
 glob:X.env.globals=mainGlobals
 blt:X.env.builtins=builtinsNs
 above:X.s₀.heap.objs.size<=X.env.locals
 inj:∀x y c,X.env.cells.lookup x=some c->X.env.cells.lookup y=some c->x=y
 has:∀x,(X.env.kindOf x=some .cell\/X.env.kindOf x=some .free)->∃c,X.env.cells.lookup x=some c
 Qp:∀x c,X.fn x=true->X.env.cells.lookup x=some c->X.s₀.heap.objs.size<=c
 hd:X.calm=true->X.A.handled=none
 frames:X.A.frames=some X.stack
 RF:X.stack=X.outer\/(X.stack=X.env::X.outer/\X.env.frame=some X.env.locals)
 VU:∀b∈X.ex,b≠X.env.locals/\∀x c,X.env.cells.lookup x=some c->c≠b
 bs:∀b o,X.base.get? b=some o->X.s₀.heap.get? b=some o/\X.H₀ b=none
 D0:X.base.objs.size<=X.s₀.heap.objs.size
 yW:∀b o,X.base.get? b=some o->b∉X.ex
 B9:∀b∈X.ex,b∉X.fs
 oM:X.s₀.heap.FunFrames X.base X.outer
 Lh:∀b∈X.fs,X.H₀ b=none
structure Inv(X:Cx)(pins:List (Addr×Obj))(σ:List (Option V))(H:Hp)(s:Shared):Prop where
 ok:X.Ok
 os:s.os=X.s₀.os
 bare:AllBare s.gens
 base:Un X.fs X.ex X.H₀ H X.s₀.heap s.heap
 loc:∃m,s.heap.Ns X.env.locals m/\∀(i:Nat) (x:Str) (v:V),X.N[i]?=some x->σ[i]?=some (some v)->RE X.env.scope x->∃u,RelV v u/\Look X.env s.heap m x u
 cell:∀x c,X.env.cells.lookup x=some c->∃v,s.heap.IsCell c v
 free:H X.env.locals=none
 ki:∀x c,X.env.cells.lookup x=some c->H c=none
 pin:∀p∈X.pn++pins,s.heap.get? p.1=some p.2/\H p.1=none/\p.1≠X.env.locals/\p.1∉X.fs/\∀v,p.2.data≠.cell v
 aW:mj X.prog X.w H s.heap
 len:σ.length=X.N.length
section
variable {X:Cx}{pins:List (Addr×Obj)}{σ:List (Option V)}{H H':Hp}{s:Shared}{h':Heap}
theorem Cx.Ok.M4(a:X.Ok){b:Addr}{o:Obj}(e:X.base.get? b=some o):b∉X.fs:=λc=>by
 have:=(a.oM.mem c).1;rw[e]at this;cases this
theorem Inv.bs(I:Inv X pins σ H s):∀b o,X.base.get? b=some o->s.heap.get? b=some o/\H b=none:=λb o e=>
 ⟨I.base.keep b o (I.ok.bs b o e).1 (I.ok.bs b o e).2 (I.ok.M4 e) (I.ok.yW b o e),I.base.free b o (I.ok.bs b o e).1 (I.ok.bs b o e).2 (I.ok.yW b o e)⟩
theorem Inv.bk(I:Inv X pins σ H s):∀b o,X.base.get? b=some o->s.heap.get? b=some o:=λb o e=>(I.bs b o e).1
theorem Inv.mod(I:Inv X pins σ H s):Mod X.K X.mg X.base:=I.ok.mod
theorem Inv.j9(I:Inv X pins σ H s):X.K.In s.heap:=I.ok.mod.Qo.keeps I.bk
theorem Inv.lt(I:Inv X pins σ H s):X.env.locals<s.heap.objs.size:=let ⟨_,a,_⟩:=I.loc;a.lt
theorem Inv.sz(I:Inv X pins σ H s):X.s₀.heap.objs.size<=s.heap.objs.size:=Y' I.ok.above (E' I.lt)
theorem Inv.M5(I:Inv X pins σ H s){a:Addr}(h:s.heap.objs.size<=a):a∉X.fs:=λa=>by
 obtain⟨_,o,b,_⟩:=I.ok.oM.mem a;calc absurd (R' (P' b) (Y' I.sz h)) (aav _)
theorem Inv.M6(I:Inv X pins σ H s):∀x c,X.env.cells.lookup x=some c->c≠X.env.locals:=λx c e z=>by
 obtain⟨v,o,a,b⟩:=I.cell x c e;obtain⟨m,⟨g,h,i,d,f,_⟩,_⟩:=I.loc;rw[z,d]at a;cases a;rw[f]at b;cases b
theorem Inv.oM(I:Inv X pins σ H s):s.heap.FunFrames X.base X.outer:=by
 have a:∀(l:List Env),(∀b∈B8 l,b∈X.fs)->X.s₀.heap.FunFrames X.base l->s.heap.FunFrames X.base l:=by
  intro l;induction l with
  |nil=>intro _ _;trivial
  |cons c r h=>
   intro g e;obtain⟨i,⟨L,o,c,j,f,k⟩,l⟩:=e;have d:L∈X.fs:=g L (by unfold B8;rw[List.filterMap_cons,c];calc aaj);obtain⟨m,e⟩:=I.base.slot L o f (I.ok.Lh L d) d λz=>I.ok.B9 L z d;exact⟨i,⟨L,_,c,j,e,k⟩,h (λb f=>g b (by unfold B8;rw[List.filterMap_cons,c];calc aab _ f)) l⟩
 calc a X.outer (λ_ f=>f) I.ok.oM
theorem Inv.stack(I:Inv X pins σ H s):s.heap.FunFrames X.base X.stack:=by
 rcases I.ok.RF with e|⟨e,a⟩
 ·rw[e];exact I.oM
 ·rw[e];obtain⟨m,b,_⟩:=I.loc;calc .cons (by rw[I.ok.kind];decide) a b ?_ I.oM;calc Heap.get?_none_of_le (Y' I.ok.D0 I.ok.above)
theorem Inv.vo(I:Inv X pins σ H s):∀b∈B8 X.stack,b∈X.env.locals::X.fs:=λb a=>by
 rcases I.ok.RF with e|⟨e,b⟩
 ·rw[e]at a;exact aab _ a
 ·rw[e]at a;unfold B8 at a;rw[List.filterMap_cons,b]at a;calc a
theorem Inv.Ap(I:Inv X pins σ H s):∀b∈B8 X.stack,H b=none:=λb hb=>by
 rcases List.mem_cons.mp (I.vo b hb) with e|hb
 ·rw[e];exact I.free
 ·obtain⟨_,o,a,_⟩:=I.ok.oM.mem hb;calc I.base.free b o a (I.ok.Lh b hb) λz=>I.ok.B9 b z hb
theorem Inv.step{g':Array GenState}{t':Nat}{d':Drawn}(I:Inv X pins σ H s)
  (j:∀b∈ch,(b∈X.ex\/X.s₀.heap.objs.size<=b)/\b≠X.env.locals/\(∀x c,X.env.cells.lookup x=some c->c≠b)/\∀p∈X.pn++pins,p.1≠b)
  (keep:∀b o,b≠X.env.locals->b∉X.fs->b∉ch->s.heap.get? b=some o->H b=none->h'.get? b=some o)
  (slot:∀b o,b≠X.env.locals->b∈X.fs->b∉ch->s.heap.get? b=some o->H b=none->∃D,h'.get? b=some {o with slots:=D}) (free:∀b o,b∉ch->s.heap.get? b=some o->H b=none->H' b=none)
  (there:∀b o,b∉ch->s.heap.get? b=some o->∃k,h'.get? b=some k)
  (J:∀b xs,H b=some (.tup xs)->H' b=some (.tup xs)) (K:∀b o u,H b=some (.yM o u)->H' b=some (.yM o u)) (L:∀b B,H b=some (.M0 B)->∃q,H' b=some (.M0 (B++q)))
  (ns:∀m,s.heap.Ns X.env.locals m->h'.Ns X.env.locals m) (M:mj X.prog X.w H' h') (N:AllBare g'):
  Inv X pins σ H' {s with heap:=h',gens:=g',drawn:=d',toks:=t'}:=by
 have t:∀b o,X.s₀.heap.get? b=some o->b≠X.env.locals:=λb o e=>V' (R' (P' e) I.ok.above);have C:∀b o,X.s₀.heap.get? b=some o->b∉X.ex->b∉ch:=λb o e a g=>by
  rcases(j b g).1 with z|z
  ·exact a z
  ·exact absurd (R' (P' e) z) (aav _)
 have d:∀x c,X.env.cells.lookup x=some c->∀v,s.heap.IsCell c v->h'.IsCell c v:=λx c e v ⟨o,h,E⟩=>by
  have y:c∉ch:=λz=>(j c z).2.2.1 x c e rfl;by_cases F:c∈X.fs
  ·obtain⟨D,q⟩:=slot c o (I.M6 x c e) F y h (I.ki x c e);exact⟨_,q,E⟩
  ·exact⟨o,keep c o (I.M6 x c e) F y h (I.ki x c e),E⟩
 refine⟨I.ok,I.os,N,⟨λb o e n g a=>?_,λb o e n g a=>?_,λb o e n a=>?_,λb o e a=>?_,λb xs e=>J b xs (I.base.aP b xs e),λb o xs e=>K b o xs (I.base.vm b o xs e),λb B e=>?_⟩,?_,λx c e=>?_,?_,λx c e=>?_,λp G=>?_,M,I.len⟩
 ·exact keep b o (t b o e) g (C b o e a) (I.base.keep b o e n g a) (I.base.free b o e n a)
 ·obtain⟨D,f⟩:=I.base.slot b o e n g a;obtain⟨q,A⟩:=slot b _ (t b o e) g (C b o e a) f (I.base.free b o e n a);exact⟨q,A⟩
 ·obtain⟨k,f⟩:=I.base.there b o e a;exact free b k (C b o e a) f (I.base.free b o e n a)
 ·obtain⟨k,f⟩:=I.base.there b o e a;exact there b k (C b o e a) f
 ·obtain⟨a,f⟩:=I.base.wX b B e;obtain⟨g,A⟩:=L b _ f;exact⟨a++g,by rw[A,Array.append_assoc]⟩
 ·obtain⟨m,a,O⟩:=I.loc;calc⟨m,ns m a,λi x v f A P=>?_⟩;obtain⟨u,r,l⟩:=O i x v f A P;calc⟨u,r,?_⟩;rcases l with l | ⟨k,c,e,z⟩
  ·exact .inl l
  ·exact .inr ⟨k,c,e,d x c e _ z⟩
 ·obtain⟨v,z⟩:=I.cell x c e;exact⟨v,d x c e v z⟩
 ·obtain⟨m,⟨o,_,_,h,_⟩,_⟩:=I.loc;exact free _ o (λz=>(j _ z).2.1 rfl) h I.free
 ·obtain⟨v,o,h,E⟩:=I.cell x c e;exact free c o (λz=>(j c z).2.2.1 x c e rfl) h (I.ki x c e)
 ·obtain⟨e,n,a,b,d⟩:=I.pin p G;have y:p.1∉ch:=λz=>(j p.1 z).2.2.2 p G rfl;calc⟨keep p.1 p.2 a b y e n,free p.1 p.2 y e n,a,b,d⟩
theorem Inv.un(I:Inv X pins σ H s)(u:Un X.fs [] H H' s.heap h')(f:mj X.prog X.w H' h'):Inv X pins σ H' {s with heap:=h',toks:=t'}:=by
 obtain⟨m,⟨o,a,b,c,r⟩,_⟩:=id I.loc;obtain⟨a,g⟩:=u.any c I.free nofun;exact I.step (g':=s.gens) (d':=s.drawn) (ch:=[]) (λ_ z=>nomatch z) (λb o _ a _ e n=>u.keep b o e n a nofun) (λb o _ a _ e n=>u.slot b o e n a nofun) (λb o _ e n=>u.free b o e n nofun) (λb o _ e=>u.there b o e nofun) u.aP u.vm u.wX (λa h=>by
  obtain⟨a,i,j,d,k⟩:=h;rw[c] at d;cases d;calc⟨_,i,j,g,k⟩) f I.bare
theorem Inv.call{g':Array GenState}{d':Drawn}(I:Inv X pins σ H s)(u:Un (B8 X.stack) ch H H' s.heap h')(i:mj X.prog X.w H' h')(j:AllBare g')
  (f:∀b∈ch,(b∈X.ex\/X.s₀.heap.objs.size<=b)/\b≠X.env.locals/\(∀x c,X.env.cells.lookup x=some c->c≠b)/\∀p∈X.pn++pins,p.1≠b):
  Inv X pins σ H' {s with heap:=h',gens:=g',drawn:=d',toks:=t'}:=by
 obtain⟨m,⟨o,a,c,g,r⟩,_⟩:=id I.loc;obtain⟨a,d⟩:=u.any g I.free λz=>(f _ z).2.1 rfl;exact I.step (ch:=ch) f (λb o d c a e n=>u.keep b o e n (λz=>(List.mem_cons.mp (I.vo b z)).elim d c) a) (λb o _ _ a e n=>u.any e n a) (λb o a e n=>u.free b o e n a) (λb o a e=>u.there b o e a) u.aP u.vm u.wX (λc k=>by
  obtain⟨a,l,q,h,t⟩:=k;rw[g] at h;cases h;calc⟨_,l,q,d,t⟩) i j
theorem Inv.turned{a:Addr}(I:Inv X pins σ H s)(k:∀b o,b≠a->s.heap.get? b=some o->h'.get? b=some o)(j:H a=none)(g:a≠X.env.locals)
  (l:a∈X.ex\/X.s₀.heap.objs.size<=a) (r:∀x c,X.env.cells.lookup x=some c->c≠a) (t:∀p∈X.pn++pins,p.1≠a):Inv X pins σ H {s with heap:=h',toks:=t'}:=by
 have i:∀b u,H b=some u->b≠a:=λb u e z=>by rw[z,j]at e;cases e
 refine I.step (g':=s.gens) (d':=s.drawn) (ch:=[a]) (λb j=>?_) (λb o _ _ d e _=>k b o (λz=>d (by simp[z])) e) (λb o _ _ d e _=>⟨o.slots,k b o (λz=>d (by simp[z])) e⟩) (λ_ _ _ _ n=>n)
  (λb o d e=>⟨o,k b o (λz=>d (by simp[z])) e⟩) (λ_ _ e=>e) (λ_ _ _ e=>e) (λb m e=>⟨#[],by rw[e];simp⟩) (λm v=>?_) (λb u e=>?_) I.bare
 ·have e:b=a:=by simpa using j
  subst e;exact⟨l,g,r,t⟩
 ·obtain⟨o,a,j,l,r⟩:=v;exact⟨o,a,j,k _ o (Ne.symm g) l,r⟩
 ·calc(I.aW b u e).aH (λc v d q=>k c v ?_ q) (λ_ q=>q) λ_ _ q=>q;rcases d with z | z
  ·rw[z];exact i b u e
  ·calc i c _ z
theorem Inv.tok(I:Inv X pins σ H s)(t:Nat):Inv X pins σ H {s with toks:=t}:=I.un (h':=s.heap) (t':=t) Un.refl I.aW
theorem Inv.kept(I:Inv X pins σ H s)(k:∀b u,s.heap.get? b=some u->h'.get? b=some u):Inv X pins σ H {s with heap:=h',toks:=t'}:=I.un (Un.kept k) (I.aW.kept k)
theorem Inv.laid{a:Addr}{o:HO}(I:Inv X pins σ H s)(k:∀b u,s.heap.get? b=some u->h'.get? b=some u)(c:s.heap.objs.size<=a)(d:cW X.prog X.w (upd H a o) h' a o):
  Inv X pins σ (upd H a o) {s with heap:=h',toks:=t'}:=I.un (Un.laid k c (I.aW.fresh c)) (I.aW.laid k c d)
theorem Inv.write{x e:Addr}{o:HO}(I:Inv X pins σ H s)(c:RC (H x))(d:e=x\/H e=some (.own x))(k:∀b u,b≠e->s.heap.get? b=some u->h'.get? b=some u)(f:∃u,h'.get? e=some u)
  (a:cW X.prog X.w (upd H x o) h' x o):Inv X pins σ (upd H x o) {s with heap:=h',toks:=t'}:=I.un (Un.write c d k f) (I.aW.write c d k f a)
theorem Inv.vp{a:List (Addr×Obj)}(I:Inv X pins σ H s)(h:∀p∈a,s.heap.get? p.1=some p.2/\H p.1=none/\p.1≠X.env.locals/\p.1∉X.fs/\∀v,p.2.data≠.cell v):Inv X a σ H s:=
 ⟨I.ok,I.os,I.bare,I.base,I.loc,I.cell,I.free,I.ki,λp a=>(List.mem_append.mp a).elim (λz=>I.pin p (List.mem_append_left _ z)) (h p),I.aW,I.len⟩
theorem wY{N:List Str}(c:N.Nodup){i j:Nat}{x:Str}(a:N[i]?=some x)(b:N[j]?=some x):i=j:=by
 obtain⟨e,d⟩:=List.getElem?_eq_some_iff.mp a;obtain⟨g,e⟩:=List.getElem?_eq_some_iff.mp b;calc(List.getElem_inj c).mp (d.trans e.symm)
theorem Cb{M:Model}{i:Nat}{x:Str}{v:V}{u:Value}{Q:Unit->Shared->Prop}(I:Inv X pins σ H s)(hN:X.N.Nodup)(O:X.N[i]?=some x)(C:Loc X.env.scope x)(r:RelV v u)
  (h:∀s',Inv X pins (σ.set i (some v)) H s'->(∃a,Heap.SameBut a s.heap s'.heap/\(a=X.env.locals\/X.env.cells.lookup x=some a))->Q ⟨⟩ s') (hf:X.fn x=true\/X.env.scope.names.lookup x=some .local:=by grind):wpAny M A (storeName X.env x u) Q E s:=by
 obtain⟨m,U,hl⟩:=id I.loc;have Xm:(X.env.scope.kind == .class||(X.env.scope.kind == .module&&X.env.locals !=X.env.globals))=false:=by rw[I.ok.kind];rfl
 have G:i<σ.length:=by rw[I.len];exact(List.getElem?_eq_some_iff.mp O).1
 have W:=I.M6;have l:∀{a:Addr} {h':Heap},(∃o,s.heap.get? a=some o/\H a=none)->Heap.SameBut a s.heap h'->mj X.prog X.w H h':=λ{a h'} v g b M e=>by
  obtain⟨_,_,Lk⟩:=v;calc(I.aW b M e).aH (λc R B q=>(g.2 c ?_).trans q) (λ_ q=>q) λ_ _ q=>q;rintro rfl;rcases B with rfl|B
  ·rw[Lk]at e;cases e
  ·rw[Lk]at B;cases B
 rcases C with J|J
 ·calc wpAny_storeName_local J U (λh' a g=>?_) Xm;obtain⟨M,_,_,v,_⟩:=id U;refine h _ ⟨I.ok,I.os,I.bare,⟨λb o e n K C=>?_,λb o e n K C=>?_,I.base.free,λb o e C=>?_,I.base.aP,I.base.vm,I.base.wX⟩,⟨_,a,λj y Y t F Z=>?_⟩,λy c e=>?_,I.free,I.ki,λp hp=>?_,l ⟨M,v,I.free⟩ g,by simpa using I.len⟩ ⟨_,g,.inl rfl⟩
  ·exact(g.2 b (V' (R' (P' e) I.ok.above))).trans (I.base.keep b o e n K C)
  ·obtain⟨sl,t⟩:=I.base.slot b o e n K C;exact⟨sl,(g.2 b (V' (R' (P' e) I.ok.above))).trans t⟩
  ·obtain⟨o',t⟩:=I.base.there b o e C;exact⟨o',(g.2 b (V' (R' (P' e) I.ok.above))).trans t⟩
  ·by_cases L:j=i
   ·subst L;rw[O] at t;cases t;rw[List.getElem?_set_self G] at F
    cases F;exact⟨u,r,.inl ⟨J,nofun⟩⟩
   ·rw[List.getElem?_set_ne (Ne.symm L)] at F;obtain⟨u',r',q⟩:=hl j y Y t F Z;calc⟨u',r',?_⟩;rcases q with⟨k,e⟩ | ⟨k,c,e,z⟩
    ·calc .inl ⟨k,?_⟩;have:y≠x:=λe=>L (wY hN t (e▸O));simp[this,e]
    ·exact .inr ⟨k,c,e,z.sameBut g (W y c e)⟩
  ·obtain⟨R,z⟩:=I.cell y c e;exact⟨R,z.sameBut g (W y c e)⟩
  ·obtain⟨e,n,S,nf,d⟩:=I.pin p hp;exact⟨(g.2 p.1 S).trans e,n,S,nf,d⟩
 ·have Jm:X.fn x=true:=by
   rcases hf with z|z
   ·exact z
   ·rw[z]at J;cases J
  obtain⟨c,B⟩:=I.ok.has x (.inl J);obtain⟨R,z⟩:=I.cell x c B;calc wpAny_storeName_cell I.ok.kind J B z (λh' Ll g=>?_);obtain⟨oc,VX,Xn⟩:=id z;refine h {s with heap:=h'} ⟨I.ok,I.os,I.bare,⟨λb o e n K C=>?_,λb o e n K C=>?_,I.base.free,λb o e C=>?_,I.base.aP,I.base.vm,I.base.wX⟩,⟨m,U.sameBut g (Ne.symm (W x c B)),λj y Y t F Z=>?_⟩,λy T e=>?_,I.free,I.ki,λp hp=>?_,l ⟨oc,VX,I.ki x c B⟩ g,by simpa using I.len⟩ ⟨c,g,.inr B⟩
  ·exact(g.2 b (V' (R' (P' e) (I.ok.Qp x c Jm B)))).trans (I.base.keep b o e n K C)
  ·obtain⟨sl,t⟩:=I.base.slot b o e n K C;exact⟨sl,(g.2 b (V' (R' (P' e) (I.ok.Qp x c Jm B)))).trans t⟩
  ·obtain⟨o',t⟩:=I.base.there b o e C;exact⟨o',(g.2 b (V' (R' (P' e) (I.ok.Qp x c Jm B)))).trans t⟩
  ·by_cases L:j=i
   ·subst L;rw[O] at t;cases t;rw[List.getElem?_set_self G] at F
    cases F;exact⟨u,r,.inr ⟨.inl J,c,B,Ll⟩⟩
   ·rw[List.getElem?_set_ne (Ne.symm L)] at F;obtain⟨u',r',q⟩:=hl j y Y t F Z;calc⟨u',r',?_⟩;rcases q with q | ⟨k,T,e,z'⟩
    ·exact .inl q
    ·calc .inr ⟨k,T,e,z'.sameBut g ?_⟩;rintro rfl;exact L (wY hN t (I.ok.inj _ _ _ e B▸O))
  ·by_cases P:T=c
   ·subst P;exact⟨_,Ll⟩
   ·obtain⟨a,b⟩:=I.cell y T e;exact⟨a,b.sameBut g P⟩
  ·obtain⟨e,n,S,nf,d⟩:=I.pin p hp;calc⟨(g.2 p.1 ?_).trans e,n,S,nf,d⟩;intro q;rw[q,VX]at e;have a:oc=p.2:=Option.some.inj e;calc d R (by rw[<-a];calc Xn)
theorem nL{M:Model}{i:Nat}{x:Str}{v:V}{u:Value}{Q:Unit->Shared->Prop}(I:Inv X pins σ H s)(a:X.N.Nodup)(b:X.N[i]?=some x)(c:Loc X.env.scope x)(r:RelV v u)
  (h:∀s',Inv X pins (σ.set i (some v)) H s'->Q ⟨⟩ s') (d:X.fn x=true\/X.env.scope.names.lookup x=some .local:=by grind):wpAny M A (storeName X.env x u) Q E s:=
 Cb I a b c r (λs' e _=>h s' e) d
theorem Inv.RH{s':Shared}(I:Inv X pins σ H s)(f:s'.os=s.os)(u:Un (B8 X.stack) ch H H' s.heap s'.heap)(g:mj X.prog X.w H' s'.heap)(h:AllBare s'.gens)
  (i:∀b∈ch,(b∈X.ex\/X.s₀.heap.objs.size<=b)/\b≠X.env.locals/\(∀x c,X.env.cells.lookup x=some c->c≠b)/\∀p∈X.pn++pins,p.1≠b):Inv X pins σ H' s':=by
 obtain⟨h',a,d,t',b⟩:=s';have e:b=s.os:=f;subst e;calc I.call (g':=a) (t':=t') (d':=d) u g h i
end
abbrev XK:=Value->Option Addr->Hp->Prop
abbrev St:=List (Option V)
abbrev VK:=V->Hp->Prop
abbrev TE:=St->Hp->VK->Prop
abbrev TT:=St->Hp->(Bool->Hp->Prop)->Prop
abbrev TA:=St->Hp->(List V->Hp->Prop)->Prop
structure Ends where
 nx:St->Hp->Prop
 rt:VK
 bk:St->Hp->Prop:=λ_ _=>False
 ct:St->Hp->Prop:=λ_ _=>False
abbrev TS:=Ends->St->Hp->Prop
def EP(X:Cx)(pins:List (Addr×Obj))(σ:St)(Q:VK)(u:Value)(s':Shared):Prop:=∃v a,Inv X pins σ a s'/\RelV v u/\Q v a
def TP(X:Cx)(pins:List (Addr×Obj))(σ:St)(Q:Bool->Hp->Prop)(b:Bool)(s':Shared):Prop:=∃a,Inv X pins σ a s'/\Q b a
def AP(X:Cx)(pins:List (Addr×Obj))(σ:St)(Q:List V->Hp->Prop)(us:List Value)(s':Shared):Prop:=∃vs a,Inv X pins σ a s'/\Vals vs us/\Q vs a
def SP(X:Cx)(pins:List (Addr×Obj))(D:Ends)(f:Flow)(s':Shared):Prop:=
 match f with
 | .next=>∃a b,Inv X pins a b s'/\D.nx a b
 | .brk=>∃a b,Inv X pins a b s'/\D.bk a b
 | .cont=>∃a b,Inv X pins a b s'/\D.ct a b
 | .ret u=>∃v a b,Inv X pins a b s'/\RelV v u/\D.rt v b
structure PE(X:Cx)(e:Expr)(t:TE):Prop where
 out:
  ∀(pins:List (Addr×Obj)) (s:Shared) (σ:St) (H:Hp) (Q:VK),Inv X pins σ H s->t σ H Q->wpAny (model X.prog X.w) X.A (eval e X.env) (EP X pins σ Q) X.xe s
instance {X:Cx}{e:Expr}{t:TE}:CoeFun (PE X e t) λ_=>
 ∀(pins:List (Addr×Obj)) (s:Shared) (σ:St) (H:Hp) (Q:VK),Inv X pins σ H s->t σ H Q->wpAny (model X.prog X.w) X.A (eval e X.env) (EP X pins σ Q) X.xe s:=⟨PE.out⟩
structure PT(X:Cx)(e:Expr)(t:TT):Prop where
 out:
  ∀(pins:List (Addr×Obj)) (s:Shared) (σ:St) (H:Hp) (Q:Bool->Hp->Prop),Inv X pins σ H s->t σ H Q->wpAny (model X.prog X.w) X.A (isTrue e X.env (eval e X.env)) (TP X pins σ Q) X.xe s
instance {X:Cx}{e:Expr}{t:TT}:CoeFun (PT X e t) λ_=>
 ∀(pins:List (Addr×Obj)) (s:Shared) (σ:St) (H:Hp) (Q:Bool->Hp->Prop),Inv X pins σ H s->t σ H Q->wpAny (model X.prog X.w) X.A (isTrue e X.env (eval e X.env)) (TP X pins σ Q) X.xe s:=⟨PT.out⟩
structure PW(X:Cx)(e:Expr)(t:TT):Prop where
 out:
  ∀(whole:Sem Value) (pins:List (Addr×Obj)) (s:Shared) (σ:St) (H:Hp) (Q:Bool->Hp->Prop),Inv X pins σ H s->t σ H Q->wpAny (model X.prog X.w) X.A (isTrue e X.env whole) (TP X pins σ Q) X.xe s
instance {X:Cx}{e:Expr}{t:TT}:CoeFun (PW X e t) λ_=>
 ∀(a:Sem Value) (pins:List (Addr×Obj)) (s:Shared) (σ:St) (H:Hp) (Q:Bool->Hp->Prop),Inv X pins σ H s->t σ H Q->wpAny (model X.prog X.w) X.A (isTrue e X.env a) (TP X pins σ Q) X.xe s:=⟨PW.out⟩
theorem PW.pt{X:Cx}{e:Expr}{t:TT}(h:PW X e t):PT X e t:=⟨h.out _⟩
structure PA(X:Cx)(es:List Expr)(t:TA):Prop where
 out:
  ∀(pos:Pos) (pins:List (Addr×Obj)) (s:Shared) (σ:St) (H:Hp) (Q:List V->Hp->Prop),Inv X pins σ H s->t σ H Q->wpAny (model X.prog X.w) X.A (spliced (backTo pos (starEach es X.env))) (AP X pins σ Q) X.xe s
instance {X:Cx}{b:List Expr}{t:TA}:CoeFun (PA X b t) λ_=>
 ∀(a:Pos) (pins:List (Addr×Obj)) (s:Shared) (σ:St) (H:Hp) (Q:List V->Hp->Prop),Inv X pins σ H s->t σ H Q->wpAny (model X.prog X.w) X.A (spliced (backTo a (starEach b X.env))) (AP X pins σ Q) X.xe s:=⟨PA.out⟩
structure PS(X:Cx)(st:Stmt)(t:TS):Prop where
 out:
  ∀(pins:List (Addr×Obj)) (s:Shared) (σ:St) (H:Hp) (D:Ends),Inv X pins σ H s->t D σ H->wpAny (model X.prog X.w) X.A (exec st X.env) (SP X pins D) X.xe s
instance {X:Cx}{a:Stmt}{t:TS}:CoeFun (PS X a t) λ_=>
 ∀(pins:List (Addr×Obj)) (s:Shared) (σ:St) (H:Hp) (D:Ends),Inv X pins σ H s->t D σ H->wpAny (model X.prog X.w) X.A (exec a X.env) (SP X pins D) X.xe s:=⟨PS.out⟩
structure wG(X:Cx)(st:List Stmt)(t:TS):Prop where
 out:
  ∀(pins:List (Addr×Obj)) (s:Shared) (σ:St) (H:Hp) (D:Ends),Inv X pins σ H s->t D σ H->wpAny (model X.prog X.w) X.A (execs st X.env) (SP X pins D) X.xe s
instance {X:Cx}{a:List Stmt}{t:TS}:CoeFun (wG X a t) λ_=>
 ∀(pins:List (Addr×Obj)) (s:Shared) (σ:St) (H:Hp) (D:Ends),Inv X pins σ H s->t D σ H->wpAny (model X.prog X.w) X.A (execs a X.env) (SP X pins D) X.xe s:=⟨wG.out⟩
theorem dy{α:Type}{t:Sem α}{Q b:α->Shared->Prop}{M:Model}{s:Shared}(h:wpAny M A t Q E s)(c:∀a s,Q a s->b a s):wpAny M A t b E s:=aaw h c λ_ _ x=>x
end
section
variable {pins:List (Addr×Obj)}{pos:Pos}{σ:St}{x:Str}{u:Value}{E Q:Value->Shared->Prop}
section
variable {X:Cx}
def D7(i:Nat):TE:=λσ H Q=>∃v,σ[i]?=some (some v)/\Q v H
def tC(v:V):TE:=λ_ H Q=>Q v H
theorem D8{i:Nat}(c:X.N[i]?=some x)(j:RE X.env.scope x)(d:(x==("__debug__":Str))=false:=by decide)(k:(x==("__classdict__":Str))=false:=by decide):PE X (.Name x pos) (D7 i):=by
 walk_at "xc";obtain⟨v,e,h⟩:=h;obtain⟨m,n,o⟩:=I.loc;obtain⟨u,r,l⟩:=o i x v c e j;have a:EP X pins σ Q u s:=⟨v,H,I,r,h⟩
 rcases l with⟨b,e⟩|⟨b,c,f,g⟩
 ·exact wpAny_Name (wpAny_loadName_local I.ok.kind b n e a) d
 ·rcases b with b | b
  ·exact wpAny_Name (wpAny_loadName_cell I.ok.kind b f g a) d
  ·calc wpAny_Name (wpAny_loadName_free I.ok.kind b f g a k) d
theorem ai{i j pos}:PE X (.Constant (.int i) j pos) (tC (.int i)):=.mk λ_ _ _ H _ I h=>wpAny_Constant_int ⟨.int i,H,I.tok _,⟨_,rfl⟩,h⟩
theorem fE{b j pos}:PE X (.Constant (.bool b) j pos) (tC (.bl b)):=.mk λ_ _ _ H _ I h=>Constant_bool ⟨.bl b,H,I,rfl,h⟩
theorem gV{j pos}:PE X (.Constant .none j pos) (tC .bP):=.mk λ_ _ _ H _ I h=>Constant_none ⟨.bP,H,I,rfl,h⟩
theorem aB{x j pos}:PE X (.Constant (.str x) j pos) (tC (.str x)):=.mk λ_ _ _ H _ I h=>Calls.Constant_str ⟨.str x,H,I.tok _,⟨_,rfl⟩,h⟩
def Gl(X:Cx)(x:Str):Prop:=X.env.kindOf x=some .globalImplicit
theorem qI{s:Shared}{H:Hp}(I:Inv X pins σ H s)(a:Gl X x)(b:X.mg x=some u)(h:Q u s)
  (c:(x==("__debug__":Str))=false:=by decide):wpAny (model X.prog X.w) X.A (eval (.Name x pos) X.env) Q E s:=
 Calls.Name_function_global I.ok.kind a (Calls.loadGlobal_global (by rw[I.ok.glob];calc I.mod.glob.keeps I.bk) b h) c
theorem oN{s:Shared}{H:Hp}(I:Inv X pins σ H s)(a:Gl X x)(b:X.mg x=none)(c:bootBuiltins x=some u)(h:Q u s)
  (d:x≠"__name__":=by decide) (e:(x==("__debug__":Str))=false:=by decide):wpAny (model X.prog X.w) X.A (eval (.Name x pos) X.env) Q E s:=by
 obtain⟨i,f,g⟩:=I.mod.blt;calc Calls.Name_function_global I.ok.kind a (Calls.loadGlobal_builtin (by rw[I.ok.glob];calc I.mod.glob.keeps I.bk) b (by rw[I.ok.blt];calc f.keeps I.bk) ((g x d).trans c) h) e
theorem Ar{v:V}(a:Gl X x)(b:X.mg x=some u)(r:RelV v u)(c:(x==("__debug__":Str))=false:=by decide):PE X (.Name x pos) (tC v):=
 .mk λ_ _ _ H _ I h=>qI I a b ⟨v,H,I,r,h⟩ c
theorem cF{v:V}(a:Gl X x)(b:X.mg x=none)(c:bootBuiltins x=some u)(r:RelV v u)(d:x≠"__name__":=by decide)(e:(x==("__debug__":Str))=false:=by decide):PE X (.Name x pos) (tC v):=
 .mk λ_ _ _ H _ I h=>oN I a b c ⟨v,H,I,r,h⟩ d e
variable {a b:Expr}{ta tb:TE}{pos:Pos}
structure PC(X:Cx)(op:CmpOp)(a b:Expr)(t:TE):Prop where
 out:
  ∀(pins:List (Addr×Obj)) (s:Shared) (σ:St) (H:Hp) (Q:VK),Inv X pins σ H s->t σ H Q->
   wpAny (model X.prog X.w) X.A (eval a X.env) (λv s₁=>wpAny (model X.prog X.w) X.A (eval b X.env) (λu s₂=>wpAny (model X.prog X.w) X.A (compareOp op v u) (EP X pins σ Q) X.xe s₂) X.xe s₁) X.xe s
instance {X:Cx}{e:CmpOp}{a b:Expr}{t:TE}:CoeFun (PC X e a b t) λ_=>
 ∀(pins:List (Addr×Obj)) (s:Shared) (σ:St) (H:Hp) (Q:VK),Inv X pins σ H s->t σ H Q->
  wpAny (model X.prog X.w) X.A (eval a X.env) (λv c=>wpAny (model X.prog X.w) X.A (eval b X.env) (λu d=>wpAny (model X.prog X.w) X.A (compareOp e v u) (EP X pins σ Q) X.xe d) X.xe c) X.xe s:=⟨PC.out⟩
theorem D9(b:Expr){a:CmpOp}(h:a≠.In)(c:a≠.NotIn):behindInMarks a b=false:=by
 have d:(a==CmpOp.In)=false:=by cases a<;>first|rfl|exact absurd rfl h
 have e:(a==CmpOp.NotIn)=false:=by cases a<;>first|rfl|exact absurd rfl c
 cases b<;>simp[behindInMarks,d,e]
def tB(t:TE):TT:=λσ H Q=>t σ H λx a=>∃c,x=.bl c/\Q c a
theorem M7{c:CmpOp}{t:TE}(h:PC X c a b t)(e:behindInMarks c b=false:=by first|calc D9 _ ∅ ∅|rfl):PT X (.Compare a [c] [b] pos) (tB t):=by
 calc⟨?_⟩;intro pins s σ H Q I c;calc wpAny_isTrue_Compare1 (dy (h pins s σ H _ I c) λv f e=>dy e λu c f=>dy f λc h g=>?_) e;obtain⟨x,i,j,k,l⟩:=g;obtain⟨d,rfl,q⟩:=l
 cases k;calc aaE ⟨i,j,q⟩
theorem M8{e:Expr}{t:TE}(h:PE X e t)(b:∀a,isTrue e X.env a=(do let v <-a;standAt e.pos;holding [v] (truthy v)):=by intro _;rfl):PT X e (tB t):=by
 calc⟨?_⟩;intro pins s σ H Q I a;calc isTrue_plain (dy (h pins s σ H _ I a) λv e c=>?_) (b _);obtain⟨x,f,g,i,j⟩:=c;obtain⟨d,rfl,q⟩:=j
 cases i;calc aaE ⟨f,g,q⟩
variable {tA VY:TT}{rest:List Expr}
def M9(t u:TT):TT:=λσ H Q=>t σ H λc a=>if c=true then u σ a Q else Q false a
def Xo(t u:TT):TT:=λσ H Q=>t σ H λc a=>if c=true then Q true a else u σ a Q
def Na(t:TT):TT:=λσ H Q=>t σ H λc a=>Q (!c) a
theorem pw_and1(b:PT X a tA):PW X (.BoolOp .And [a] pos) tA:=by
 calc⟨?_⟩;intro d pins s σ H Q I h;refine isTrue_and (dy (b pins s σ H Q I h) λc f e=>?_)
 cases c with
 |true=>calc isTrue_and_nil e
 |false=>calc e
theorem pw_or1(b:PT X a tA):PW X (.BoolOp .Or [a] pos) tA:=by
 calc⟨?_⟩;intro d pins s σ H Q I h;refine isTrue_or (dy (b pins s σ H Q I h) λc f e=>?_)
 cases c with
 |false=>calc isTrue_or_nil e
 |true=>calc e
theorem pw_and(g:PT X a tA)(i:PW X (.BoolOp .And (b::rest) pos) VY):PW X (.BoolOp .And (a::b::rest) pos) (M9 tA VY):=by
 calc⟨?_⟩;intro j pins s σ H Q I h;calc isTrue_and (dy (g pins s σ H _ I h) λc k l=>?_);obtain⟨d,e,f⟩:=l
 cases c with
 |true=>calc i j pins k σ d Q e f
 |false=>calc⟨d,e,f⟩
theorem pw_or(g:PT X a tA)(i:PW X (.BoolOp .Or (b::rest) pos) VY):PW X (.BoolOp .Or (a::b::rest) pos) (Xo tA VY):=by
 calc⟨?_⟩;intro j pins s σ H Q I h;calc isTrue_or (dy (g pins s σ H _ I h) λc k l=>?_);obtain⟨d,e,f⟩:=l
 cases c with
 |true=>calc⟨d,e,f⟩
 |false=>calc i j pins k σ d Q e f
theorem cw(b:PT X a tA):PT X (.UnaryOp .Not a pos) (Na tA):=by
 walk_at "xc";exact isTrue_not (b pins s σ H (λc d=>Q (!c) d) I h)
def Ea(ta tb:TE):TE:=λσ H Q=>ta σ H λx a=>∃c,x=.bl c/\if c=true then tb σ a Q else Q (.bl false) a
def Eb(ta:TE):TE:=λσ H Q=>ta σ H λx a=>∃c,x=.bl c/\Q (.bl (!c)) a
theorem jL{op}{t:TE}(h:PE X a t):PE X (.BoolOp op [a] pos) t:=.mk λpins s σ H Q I b=>BoolOp_one (h pins s σ H Q I b)
theorem iV(g:PE X a ta)(i:PE X (.BoolOp .And (b::rest) pos) tb):PE X (.BoolOp .And (a::b::rest) pos) (Ea ta tb):=by
 walk_at "xc";refine BoolOp_and (dy (g pins s σ H _ I h) λv j k=>?_);obtain⟨x,e,f,l,d⟩:=k;obtain⟨c,rfl,d⟩:=d
 cases l;refine aaE ?_
 cases c with
 |true=>calc i pins j σ e Q f d
 |false=>calc⟨.bl false,e,f,rfl,d⟩
theorem Ec(d:PE X a ta):PE X (.UnaryOp .Not a pos) (Eb ta):=by
 walk_at "xc";refine UnaryOp_ (dy (d pins s σ H _ I h) λv j e=>?_);obtain⟨x,f,g,i,b⟩:=e;obtain⟨c,rfl,b⟩:=b
 cases i;calc not_of (aaE ⟨.bl (!c),f,g,rfl,b⟩)
def Xp(t:TT)(ta tb:TE):TE:=λσ H Q=>t σ H λc a=>if c=true then ta σ a Q else tb σ a Q
theorem Ed{c:Expr}(j:PT X c tA)(k:PE X a ta)(l:PE X b tb):PE X (.IfExp c a b pos) (Xp tA ta tb):=by
 walk_at "xc";refine wpAny_IfExp (dy (j pins s σ H _ I h) λd e c=>?_);obtain⟨f,g,i⟩:=c
 cases d with
 |true=>calc k pins e σ f Q g i
 |false=>calc l pins e σ f Q g i
end
end
section
variable {X:Cx}{e tg:Expr}{pins:List (Addr×Obj)}{i:Nat}{σ:St}{x:Str}{te:TE}{K:W.Frag}
def aO(K:W.Frag)(H:Hp)(a:Addr)(xs:List V):Prop:=
 Rd H a (.lst xs)\/
  ∃(o:Obj) (b:Array Value) (n:Nat),K.lookup a=some o/\o.cls=.type "list"/\o.dict=none/\o.data=.seq b n/\b.size<=sizeLine/\Vals xs b.toList
def bQ(K:W.Frag)(H:Hp)(a:Addr)(xs:List V):Prop:=
 Rd H a (.tup xs)\/
  ∃(o:Obj) (b:Array Value) (n:Nat),K.lookup a=some o/\o.cls=.type "tuple"/\o.data=.seq b n/\b.size<=sizeLine/\Vals xs b.toList
def Xq:Value->Option V
 | .none=>some .bP
 | .bool b=>some (.bl b)
 | .int i _=>some (.int i)
 | .str x _=>some (.str x)
 | .bytes b _=>some (.Ao b)
 | .float b _=>some (.Lf b)
 | .ref a=>some (.ref a)
 | .type n=>some (.ty n)
 |_=>none
theorem RelV.abs{x:V}{u:Value}(r:RelV x u):Xq u=some x:=by
 cases x with
 |bP=>cases r;rfl
 |bl _=>cases r;rfl
 |int _=>obtain⟨t,rfl⟩:=r;rfl
 |str _=>obtain⟨t,rfl⟩:=r;rfl
 |Ao _=>obtain⟨t,rfl⟩:=r;rfl
 |Lf _=>obtain⟨t,rfl⟩:=r;rfl
 |ref _=>cases r;rfl
 |ty _=>cases r;rfl
theorem RelV.inj{x y:V}{u:Value}(r:RelV x u)(q:RelV y u):x=y:=Option.some.inj (r.abs.symm.trans q.abs)
theorem Vals.inj:∀{xs ys:List V}{us:List Value},Vals xs us->Vals ys us->xs=ys
 |_,_,_,.nil,.nil=>rfl
 |_,_,_,.cons r t,.cons a b=>by rw[r.inj a,Vals.inj t b]
section
variable {X:Cx}{pins:List (Addr×Obj)}{σ:St}{H:Hp}{s:Shared}{a:Addr}{xs ys:List V}
theorem aO.of(h:H a=some (.lst xs)):aO K H a xs:=.inl (.inl h)
theorem bQ.of(h:H a=some (.tup xs)):bQ K H a xs:=.inl (.inl h)
theorem Inv.list(I:Inv X pins σ H s)(h:aO X.K H a xs):∃b:List Value,Vals xs b/\PlainL s.heap a b.toArray/\xs.length<=sizeLine:=by
 rcases h with h|⟨o,b,n,c,d,f,g,i,r⟩
 ·obtain⟨z,b,n,r,e⟩:=h.ok I.aW;exact⟨b,r,⟨_,n,e,rfl,rfl,rfl⟩,z⟩
 ·calc⟨b.toList,r,⟨o,n,I.j9 a o c,d,f,by simpa using g⟩,?_⟩;have e:=r.length;simp only[Array.length_toList]at e;lia
theorem Inv.tuple(I:Inv X pins σ H s)(h:bQ X.K H a xs):∃b:List Value,Vals xs b/\IsTup s.heap a b.toArray/\xs.length<=sizeLine:=by
 rcases h with h|⟨o,b,n,c,d,f,g,r⟩
 ·obtain⟨z,b,r,p⟩:=h.ok I.aW;exact⟨b,r,p,z⟩
 ·calc⟨b.toList,r,⟨o,I.j9 a o c,d,n,by simpa using f⟩,?_⟩;have e:=r.length;simp only[Array.length_toList]at e;lia
theorem Inv.wZ(I:Inv X pins σ H s)(h:aO X.K H a xs)(h':aO X.K H a ys):xs=ys:=by
 obtain⟨f,r,⟨o,n,e,_,_,d⟩,_⟩:=I.list h;obtain⟨g,i,⟨j,k,b,_,_,c⟩,_⟩:=I.list h';rw[e]at b;cases b;rw[d]at c;injection c with h _
 have:f=g:=by simpa using congrArg Array.toList h
 subst this;calc r.inj i
theorem Inv.uo(I:Inv X pins σ H s)(h:bQ X.K H a xs)(h':bQ X.K H a ys):xs=ys:=by
 obtain⟨f,r,⟨o,e,_,n,d⟩,_⟩:=I.tuple h;obtain⟨g,i,⟨j,b,_,k,c⟩,_⟩:=I.tuple h';rw[e]at b;cases b;rw[d]at c;injection c with h _
 have:f=g:=by simpa using congrArg Array.toList h
 subst this;calc r.inj i
end
abbrev Cx.tH(X:Cx)(E:Value->Shared->Prop):Cx:={X with xe:=E}
abbrev Cx.Jn(X:Cx):Cx:=X.tH λ_ _=>False
theorem Cx.Ok.tH(a:X.Ok)(E:Value->Shared->Prop):(X.tH E).Ok:=
 ⟨a.mod,a.kind,a.glob,a.blt,a.above,a.inj,a.has,a.Qp,a.hd,a.frames,a.RF,a.VU,a.bs,a.D0,a.yW,a.B9,a.oM,a.Lh⟩
theorem Cx.Ok.kl{E:Value->Shared->Prop}(a:(X.tH E).Ok):X.Ok:=
 ⟨a.mod,a.kind,a.glob,a.blt,a.above,a.inj,a.has,a.Qp,a.hd,a.frames,a.RF,a.VU,a.bs,a.D0,a.yW,a.B9,a.oM,a.Lh⟩
section
variable {X:Cx}{pins:List (Addr×Obj)}{σ:St}{H:Hp}{s:Shared}{E:Value->Shared->Prop}
theorem Inv.tH(I:Inv X pins σ H s)(E:Value->Shared->Prop):Inv (X.tH E) pins σ H s:=⟨I.ok.tH E,I.os,I.bare,I.base,I.loc,I.cell,I.free,I.ki,I.pin,I.aW,I.len⟩
theorem Inv.kl(I:Inv (X.tH E) pins σ H s):Inv X pins σ H s:=⟨I.ok.kl,I.os,I.bare,I.base,I.loc,I.cell,I.free,I.ki,I.pin,I.aW,I.len⟩
theorem SP.kl{D:Ends}{f:Flow}{s':Shared}(h:SP (X.tH E) pins D f s'):SP X pins D f s':=by
 cases f with
 |next=>obtain⟨a,b,I,q⟩:=h;calc⟨a,b,I.kl,q⟩
 |brk=>obtain⟨a,b,I,q⟩:=h;calc⟨a,b,I.kl,q⟩
 |cont=>obtain⟨a,b,I,q⟩:=h;calc⟨a,b,I.kl,q⟩
 |ret u=>obtain⟨v,a,b,I,r,q⟩:=h;calc⟨v,a,b,I.kl,r,q⟩
theorem wG.Jn{a:List Stmt}{t:TS}(h:wG X.Jn a t):wG X a t:=.mk λpins s σ H D I a=>
 aaw (h pins s σ H D (I.tH _) a) (λ_ _ q=>q.kl) λ_ _ z=>aas z
end
section
variable {X:Cx}{st:Stmt}{rest:List Stmt}{t u:TS}{e:Expr}{te:TE}{pos:Pos}
def Ee:TS:=λD σ H=>D.nx σ H
def tI(t u:TS):TS:=λD σ H=>t {D with nx:=u D} σ H
theorem aG:wG X [] Ee:=.mk λ_ _ σ H _ I h=>wpAny_execs_nil ⟨σ,H,I,h⟩
theorem ag(a:PS X st t)(b:wG X rest u):wG X (st::rest) (tI t u):=by
 walk_at "xd";refine wpAny_execs_cons (dy (a pins s σ H {D with nx:=u D} I h) λf c q=>?_)
 cases f with
 |next=>
  obtain⟨a,d,e,q⟩:=q;calc b pins c a d D e q
 |ret v=>calc q
 |brk=>calc q
 |cont=>calc q
theorem ak(a:PS X st t):wG X [st] t:=by
 walk_at "xd";refine wpAny_execs_cons (dy (a pins s σ H D I h) λf b q=>?_)
 cases f with
 |next=>calc wpAny_execs_nil q
 |ret v=>calc q
 |brk=>calc q
 |cont=>calc q
theorem Inv.quiet{H:Hp}{s:Shared}(I:Inv X pins σ H s):interactive X.env=false:=by simp[interactive,I.ok.kind]
def As(te:TE):TS:=λD σ H=>te σ H λ_ a=>D.nx σ a
theorem Jo(a:PE X e te)(b:swapsWith e none pos.line X.env=pure false:=by rfl):PS X (.Expr e pos) (As te):=by
 walk_at "xd";exact wpAny_Expr_any (dy (a pins s σ H _ I h) λv g ⟨x,c,d,i,f⟩=>⟨σ,c,d,f⟩) I.quiet b
def Nb(te:TE):TS:=λD σ H=>te σ H D.rt
theorem aD(a:PE X e te):PS X (.Return (some e) pos) (Nb te):=by
 walk_at "xd";exact wpAny_Return_some (dy (a pins s σ H _ I h) λv g ⟨x,b,c,d,f⟩=>⟨x,σ,b,c,d,f⟩)
def Cd(c:TT)(t u:TS):TS:=λD σ H=>c σ H λb a=>if b=true then t D σ a else u D σ a
theorem aS{c:Expr}{a b:List Stmt}{e:TT}(k:PT X c e)(l:wG X a t)(m:wG X b u):PS X (.If c a b pos) (Cd e t u):=by
 walk_at "xd";refine wpAny_If (dy (k pins s σ H _ I h) λd f a=>?_);obtain⟨g,i,j⟩:=a
 cases d with
 |true=>calc l pins f σ g D i j
 |false=>calc m pins f σ g D i j
def yX:TS:=λ_ _ _=>False
theorem c9:PS X st yX:=.mk λ_ _ _ _ _ _ h=>h.elim
end
abbrev TG:=V->St->Hp->(St->Hp->Prop)->Prop
abbrev Lm:=List V->St->Hp->(St->Hp->Prop)->Prop
structure PG(X:Cx)(target:Expr)(t:TG):Prop where
 out:
  ∀(pins:List (Addr×Obj)) (s:Shared) (σ:St) (H:Hp) (v:V) (u:Value) (Q:St->Hp->Prop),Inv X pins σ H s->RelV v u->t v σ H Q->
   wpAny (model X.prog X.w) X.A (assign target X.env u) (λ_ s'=>∃σ' H',Inv X pins σ' H' s'/\Q σ' H') X.xe s
instance {X:Cx}{a:Expr}{t:TG}:CoeFun (PG X a t) λ_=>
 ∀(pins:List (Addr×Obj)) (s:Shared) (σ:St) (H:Hp) (v:V) (u:Value) (Q:St->Hp->Prop),Inv X pins σ H s->RelV v u->t v σ H Q->
  wpAny (model X.prog X.w) X.A (assign a X.env u) (λ_ s'=>∃a b,Inv X pins a b s'/\Q a b) X.xe s:=⟨PG.out⟩
structure Qq(X:Cx)(ts:List Expr)(t:Lm):Prop where
 out:
  ∀(pins:List (Addr×Obj)) (s:Shared) (σ:St) (H:Hp) (vs:List V) (us:List Value) (Q:St->Hp->Prop),Inv X pins σ H s->Vals vs us->t vs σ H Q->
   wpAny (model X.prog X.w) X.A (assignInOrder ((assignEach ts X.env).map (·.2)) us) (λ_ s'=>∃σ' H',Inv X pins σ' H' s'/\Q σ' H') X.xe s
instance {X:Cx}{ts:List Expr}{t:Lm}:CoeFun (Qq X ts t) λ_=>
 ∀(pins:List (Addr×Obj)) (s:Shared) (σ:St) (H:Hp) (vs:List V) (us:List Value) (Q:St->Hp->Prop),Inv X pins σ H s->Vals vs us->t vs σ H Q->
  wpAny (model X.prog X.w) X.A (assignInOrder ((assignEach ts X.env).map (·.2)) us) (λ_ s'=>∃a b,Inv X pins a b s'/\Q a b) X.xe s:=⟨Qq.out⟩
abbrev Nc:=V->V->V->Hp->(Hp->Prop)->Prop
def Nd(X:Cx)(t:Nc):Prop:=
 ∀(pins:List (Addr×Obj)) (s:Shared) (σ:St) (H:Hp) (o i v:V) (a b u:Value) (Q:Hp->Prop),Inv X pins σ H s->RelV o a->RelV i b->RelV v u->t o i v H Q->
  wpAny (model X.prog X.w) X.A (setItem a b u) (λ_ s'=>∃a,Inv X pins σ a s'/\Q a) X.xe s
abbrev VZ:=V->V->Hp->VK->Prop
def PIp(X:Cx)(a:Operator)(t:VZ):Prop:=
 ∀(pins:List (Addr×Obj)) (s:Shared) (σ:St) (H:Hp) (x y:V) (v u:Value) (Q:VK),Inv X pins σ H s->RelV x v->RelV y u->t x y H Q->
  wpAny (model X.prog X.w) X.A (inplaceOp a v u) (EP X pins σ Q) X.xe s
section
variable {X:Cx}{pos:Pos}
def fS(i:Nat):TG:=λv σ H Q=>Q (σ.set i (some v)) H
theorem aN(a:X.N.Nodup)(b:X.N[i]?=some x)(c:Loc X.env.scope x)(d:X.fn x=true\/X.env.scope.names.lookup x=some .local:=by grind):PG X (.Name x pos) (fS i):=by
 calc⟨?_⟩;intro pins s σ H v u Q I r h;calc wpAny_assign_Name (nL I a b c r (λf e=>⟨_,H,e,h⟩) d)
def Ef:Lm:=λvs σ H Q=>vs=[]/\Q σ H
def lZ(t:TG)(u:Lm):Lm:=λvs σ H Q=>∃v r,vs=v::r/\t v σ H λa b=>u r a b Q
theorem Au:Qq X [] Ef:=by
 calc⟨?_⟩;intro pins s σ H a b Q I r h;obtain⟨e,h⟩:=h;subst e
 cases r;calc assignInOrder_nil ⟨σ,H,I,h⟩
theorem km{a:List Expr}{t:TG}{u:Lm}(b:PG X e t)(c:Qq X a u)
  (d:(assignEach (e::a) X.env).map (·.2)=assign e X.env::(assignEach a X.env).map (·.2):=by rfl):Qq X (e::a) (lZ t u):=by
 calc⟨?_⟩;intro pins s σ H a g Q I r h;obtain⟨v,i,f,h⟩:=h;subst f
 cases r with
 |cons r f=>
  rw[d];calc assignInOrder_cons (dy (b pins s σ H _ _ _ I r h) λ_ g i=>?_);obtain⟨a,b,d,h⟩:=i;calc c pins g a b _ _ Q d f h
def Eg(K:W.Frag)(n:Nat)(t:Lm):TG:=λv σ H Q=>∃a xs,v=.ref a/\bQ K H a xs/\xs.length=n/\t xs σ H Q
theorem Eh{a:List Expr}{k:Nat}{t:Lm}{n:Nat}(b:X.calm=true)(h:Qq X a t)
  (d:(assignEach a X.env).length=n:=by rfl) (f:(assignEach a X.env).findIdx? (·.1)=none:=by rfl):PG X (.Tuple a k pos) (Eg X.K n t):=by
 calc⟨?_⟩;intro pins s σ H v u Q I r c;obtain⟨a,g,i,j,l,c⟩:=c;subst i
 cases r;obtain⟨k,a,i,m⟩:=I.tuple j;calc assign_Tuple_tuple (I.ok.hd b) i (by simp[d,<-l,a.length]) f λk m=>?_;have d:Inv X pins σ H {s with heap:=k}:=I.kept (t':=s.toks) λb o e=>m b o (V' (P' e)) e;calc h pins _ σ H g _ Q d (by simpa using a) c
def Nf(a b:TE)(t:Nc):TG:=λv σ H Q=>a σ H λo c=>b σ c λi a=>t o i v a λb=>Q σ b
theorem iW{o i:Expr}{c d:TE}{t:Nc}(e:PE X o c)(f:PE X i d)(g:Nd X t)
  (j:∀v,assign (.Subscript o i pos) X.env v=(do
   let a <-holding [v] (eval o X.env)
   let b <-holding [v,a] (eval i X.env)
   standAt pos
   holding [v,a,b] (setItem a b v)
   release [v,a,b] []):=by intro _;rfl):PG X (.Subscript o i pos) (Nf c d t):=by
 calc⟨?_⟩;intro pins s σ H v u Q I r h;rw[j];calc A' (wpAny_holding (dy (e pins s σ H _ I h) λa d c=>?_));obtain⟨x,e,h,j,k⟩:=c;calc A' (wpAny_holding (dy (f pins d σ e _ h k) λb l c=>?_));obtain⟨y,d,e,f,h⟩:=c;calc A' (wpAny_standAt (A' (wpAny_holding (dy (g pins l σ d x y v a b u _ e j f r h) λ_ k c=>?_))));obtain⟨a,b,d⟩:=c;calc wpAny_release ⟨σ,a,b,d⟩
def Ce(te:TE)(g:TG):TS:=λD σ H=>te σ H λx a=>g x σ a D.nx
theorem eY{g:TG}(a:PE X e te)(b:PG X tg g)(c:swapsWithSole [tg] e pos.line X.env=pure false:=by rfl)(d:swappedStores [tg] e X.env=pure none:=by rfl)
  (f:(assignEach [tg] X.env).map (·.2)=[assign tg X.env]:=by rfl):PS X (.Assign [tg] e pos) (Ce te g):=by
 walk_at "xd";refine wpAny_Assign_stores (dy (a pins s σ H _ I h) λv g i=>?_) c d;obtain⟨x,a,j,k,l⟩:=i;rw[f];exact dy (b pins g σ a x v _ j k l) λ_ c q=>q
theorem Ei{a:Pos}(b:X.N.Nodup)(c:X.N[i]?=some x)(d:Loc X.env.scope x)(f:PE X e te)(g:swapsWith e (some (.Name x a)) pos.line X.env=pure false:=by rfl)(j:X.fn x=true\/X.env.scope.names.lookup x=some .local:=by grind):
  PS X (.Assign [.Name x a] e pos) (Ce te (fS i)):=by
 walk_at "xd";refine wpAny_Assign_Name (dy (f pins s σ H _ I h) λv k a=>?_) g;obtain⟨y,f,k,l,m⟩:=a;exact nL k b c d l (λn g=>⟨_,f,g,m⟩) j
def Ng(i:Nat)(te:TE)(a:VZ):TS:=λD σ H=>∃x,σ[i]?=some (some x)/\te σ H λy b=>a x y b λz c=>D.nx (σ.set i (some z)) c
theorem Nh{d:Operator}{g:VZ}{b:Pos}(o:X.N.Nodup)(j:X.N[i]?=some x)(f:Loc X.env.scope x)(p:PE X e te)(q:PIp X d g)(t:X.fn x=true\/X.env.scope.names.lookup x=some .local:=by grind):
  PS X (.AugAssign (.Name x b) d e pos) (Ng i te g):=by
 walk_at "xd";obtain⟨v,y,h⟩:=h;obtain⟨m,B,z⟩:=I.loc;have c:RE X.env.scope x:=by rcases f with k|k;exact .inl k;exact .inr (.inl k)
 obtain⟨u,r,l⟩:=z i x v j y c;calc wpAny_AugAssign_Name ?_;have n:wpAny (model X.prog X.w) X.A (eval e X.env) (λw b=>wpAny (model X.prog X.w) X.A (inplaceOp d u w) (λr c=>wpAny (model X.prog X.w) X.A (storeName X.env x r) (λ_=>SP X pins D .next) X.xe c) X.xe b) X.xe s:=by
  calc dy (p pins s σ H _ I h) λw c b=>?_;obtain⟨y,d,g,m,p⟩:=b;calc dy (q pins c σ d v y u w _ g r m p) λz F b=>?_;obtain⟨p,c,d,g,m⟩:=b;exact nL d o j f g (λq p=>⟨_,c,p,m⟩) t
 rcases l with⟨a,b⟩|⟨a,c,C,E⟩
 ·exact wpAny_loadName_local I.ok.kind a B b n
 ·rcases a with a | a
  ·exact wpAny_loadName_cell I.ok.kind a C E n
  ·rcases f with k | k
   ·have:X.env.scope.names.lookup x=some .free:=a;rw[k]at this;cases this
   ·have:X.env.scope.names.lookup x=some .free:=a;rw[k]at this;cases this
def Xr(f:Int->Int->Int):VZ:=λx y H Q=>∃i j,x=.int i/\y=.int j/\Q (.int (f i j)) H
theorem Ni:PIp X .Add (Xr λi j=>i+j):=by
 intro pins s σ H x y v u Q I a b h;obtain⟨i,j,c,d,q⟩:=h;subst c;subst d;obtain⟨t,rfl⟩:=a;obtain⟨e,rfl⟩:=b;calc iadd_int ⟨.int _,H,I.tok _,⟨_,rfl⟩,q⟩
end
section
variable {X:Cx}{pos:Pos}
def vq(c:TT)(f:TS):TS:=λD σ H=>∃W:Nat->St->Hp->Prop,(∃m,W m σ H)/\∀m σ H,W m σ H->
 c σ H λb d=>if b=true then ∃N:St->Hp->Prop,(∀a c,N a c->∃e,e<m/\W e a c)/\f {D with nx:=N,ct:=N,bk:=D.nx} σ d else D.nx σ d
theorem Ej{c:Expr}{a:List Stmt}{i:TT}{j:TS}(k:PassesOwn (model X.prog X.w) X.A X.env X.xe)(p:PT X c i)(q:wG X a j):PS X (.While c a [] pos) (vq i j):=by
 walk_at "xd";obtain⟨W,⟨r,t⟩,a⟩:=h;refine wpAny_While (codeAny_whileLoop (λn u=>∃c i,Inv X pins c i u/\W n c i) ?_ r ⟨σ,H,I,t⟩);rintro n v ⟨d,j,x,y⟩;refine wpAny_passesOwn k (dy (p pins v d j _ x (a n d j y)) λb z B=>?_);obtain⟨l,m,e⟩:=B
 cases b with
 |true=>
  obtain⟨N,o,e⟩:=e;rw[if_pos rfl];refine wpAny_passesOwn k (dy (q pins z d l _ m e) λf a g=>?_)
  cases f with
  |next=>
   obtain⟨a,b,c,f⟩:=g;obtain⟨i,j,k⟩:=o a b f;calc⟨i,j,a,b,c,k⟩
  |cont=>
   obtain⟨a,b,c,f⟩:=g;obtain⟨i,j,k⟩:=o a b f;calc⟨i,j,a,b,c,k⟩
  |brk=>calc g
  |ret v=>calc g
 |false=>
  rw[if_neg Bool.false_ne_true];calc wpAny_execs_nil ⟨d,l,m,e⟩
end
structure It where
 go:Nat->Hp->Prop
 Ln:Nat->Hp->V->Hp->Prop
 stop:Nat->Hp->Prop
def oO(X:Cx)(pins:List (Addr×Obj))(H:Hp)(b:Addr):Prop:=
 H b=none/\b≠X.env.locals/\b∉X.fs/\(b∈X.ex\/X.s₀.heap.objs.size<=b)/\(∀x c,X.env.cells.lookup x=some c->c≠b)/\∀p∈X.pn++pins,p.1≠b
theorem Inv.Ek{H c:Hp}{s:Shared}{b:Addr}(I:Inv X pins σ H s)(a:s.heap.objs.size<=b)(d:c b=none):oO X pins c b:=by
 refine⟨d,Nat.ne_of_gt (R' I.lt a),I.M5 a,.inr (Y' I.sz a),λx c e z=>?_,λp b z=>?_⟩
 ·obtain⟨v,q⟩:=I.cell x c e;exact absurd (R' q.lt (by rw[z];calc a)) (aav _)
 ·calc absurd (R' (P' (I.pin p b).1) (by rw[z];calc a)) (aav _)
structure Turn(P:Program)(w:World)(K:W.Frag)(tg:Expr)(J:It)(fp:List Addr)(it:Addr)(tn:Nat->Heap->Prop):Prop where
 mem:it∈fp
 obj:∀i h,tn i h->∀b∈fp,∃o,h.get? b=some o/\∀v,o.data≠.cell v
 keep:∀i h h',tn i h->(∀b∈fp,∀o,h.get? b=some o->h'.get? b=some o)->tn i h'
 item:∀(X:Cx),X.prog=P->X.w=w->X.K=K->X.calm=true->∀(i:Nat) (pins:List (Addr×Obj)) (s:Shared) (σ:St) (H:Hp) (E:Value->Shared->Prop),Inv X pins σ H s->(∀b ∈ fp,oO X pins H b)->tn i s.heap->J.go i H->
  wpAny (model P w) X.A (pyNext (.ref it)) (λr s1=>∃u,r=some u/\
   wpAny (model P w) X.A (letOwnedTupleGo tg (.ref it) u) (λ_ s2=>∃x H',Inv X pins σ H' s2/\RelV x u/\J.Ln i H x H'/\tn (i + 1) s2.heap/\∀b ∈ fp,H' b=none) E s1) E s
 done:∀(X:Cx),X.prog=P->X.w=w->X.K=K->X.calm=true->∀(i:Nat) (pins:List (Addr×Obj)) (s:Shared) (σ:St) (H:Hp) (E:Value->Shared->Prop),Inv X pins σ H s->(∀b ∈ fp,oO X pins H b)->tn i s.heap->J.stop i H->
  wpAny (model P w) X.A (pyNext (.ref it)) (λr s1=>r=none/\Inv X pins σ H s1) E s
 self:∀(A:Around) (i:Nat) (s:Shared) (Q:Value->Shared->Prop) (E:Value->Shared->Prop),tn i s.heap->Q (.ref it) s->wpAny (model P w) A (pyIter (.ref it)) Q E s
abbrev TI:=St->Hp->(It->Hp->Prop)->Prop
def Xs(X:Cx)(pins:List (Addr×Obj))(σ:St)(tg:Expr)(R:It->Hp->Prop)(g:Value)(c:Shared):Prop:=
 ∃(d:Addr) (e:List Addr) (f:Nat->Heap->Prop) (J:It) (a:Hp),g=.ref d/\Inv X pins σ a c/\Turn X.prog X.w X.K tg J e d f/\f 0 c.heap/\(∀b∈e,oO X pins a b)/\R J a
structure PI(X:Cx)(tg iter:Expr)(wi:TI):Prop where
 out:
  ∀(pins:List (Addr×Obj)) (s:Shared) (σ:St) (H:Hp) (R:It->Hp->Prop),Inv X pins σ H s->wi σ H R->
   wpAny (model X.prog X.w) X.A (eval iter X.env) (λv s1=>wpAny (model X.prog X.w) X.A (pyIter v) (Xs X pins σ tg R) X.xe s1) X.xe s
instance {X:Cx}{tg a:Expr}{b:TI}:CoeFun (PI X tg a b) λ_=>
 ∀(pins:List (Addr×Obj)) (s:Shared) (σ:St) (H:Hp) (R:It->Hp->Prop),Inv X pins σ H s->b σ H R->
  wpAny (model X.prog X.w) X.A (eval a X.env) (λv b=>wpAny (model X.prog X.w) X.A (pyIter v) (Xs X pins σ tg R) X.xe b) X.xe s:=⟨PI.out⟩
theorem El{M:Model}{A:Around}{E:Value->Shared->Prop}{s:Shared}{tg:Expr}{b:Addr}{u:Value}{o:Obj}{n:String}{vs:Array Value}{Q:Unit->Shared->Prop}(c:s.heap.get? b=some o)(d:o.cls=.type n)(e:o.data=.fields vs)
    (f:["enumerate","zip","dict_itemiterator","dict_reverseitemiterator","odict_iterator","itertools.zip_longest","itertools.pairwise"].contains n=false) (a:Q ⟨⟩ s):wpAny M A (letOwnedTupleGo tg (.ref b) u) Q E s:=by
  unfold letOwnedTupleGo
  cases tg<;>first
    |calc M' a
    | (cases u <;> first
        |calc M' a
        | (refine A' (wpAny_load c ?_)
           rw[d,e];show wpAny M A (if (["enumerate","zip","dict_itemiterator","dict_reverseitemiterator","odict_iterator","itertools.zip_longest","itertools.pairwise"].contains n && vs[0]? == some (rawInt _))=true then _ else _) Q E s;rw[if_neg (by intro h;rw[f,Bool.false_and] at h;cases h)];exact M' a))
def tw(K:W.Frag)(a:Addr):It:=
 ⟨λi H=>∃xs x,aO K H a xs/\xs[i]?=some x,λi H x b=>b=H/\∀xs,aO K H a xs->xs[i]?=some x,λi H=>∃xs,aO K H a xs/\xs.length<=i⟩
def RI(K:W.Frag)(a:Addr):It:=
 ⟨λi H=>∃xs x,bQ K H a xs/\xs[i]?=some x,λi H x b=>b=H/\∀xs,bQ K H a xs->xs[i]?=some x,λi H=>∃xs,bQ K H a xs/\xs.length<=i⟩
def yY(a:Int)(n:Nat):It:=⟨λi _=>i<n,λi H x b=>b=H/\x=.int (a+i),λi _=>n<=i⟩
theorem Cf{P:Program}{w:World}(a g:Addr):Turn P w K tg (tw K a) [g] g (λi h=>h.IsListIter g a i) where
 mem:=by simp
 obj:=λi h f b j=>by
  have e:b=g:=by simpa using j
  subst e;obtain⟨o,e,c,d⟩:=f;exact⟨o,e,λv z=>by rw[d]at z;cases z⟩
 keep:=λi h l f k=>f.at λo e=>k g nofun o e
 item:=by
  intro X q r t L i pins s σ H E I m f y;subst q r t;obtain⟨M,x,n,A⟩:=y;obtain⟨N,B,p,O⟩:=I.list n;obtain⟨u,k,v⟩:=B.get A;obtain⟨C,D,Q,F,G,J⟩:=m g nofun;calc wpAny_pyNext_list_item f p.isList (x:=u) (by simpa using k) λl a w=>?_;have k:Inv X pins σ H {s with heap:=l}:=I.turned (t':=s.toks) (λb o j e=>(w.2 b j).trans e) C D F G J;obtain⟨o,e,c,d⟩:=id a;exact⟨u,rfl,El (s:={s with heap:=l}) e c d ∅ ⟨x,H,k,v,⟨rfl,λw u=>by rw[I.wZ u n];calc A⟩,a,λb j=>(m b j).1⟩⟩
 done:=by
  intro X q r t L i pins s σ H E I m f y;subst q r t;obtain⟨M,n,A⟩:=y;obtain⟨N,B,p,O⟩:=I.list n;obtain⟨C,D,Q,F,G,J⟩:=m g nofun;have a:=B.length;exact wpAny_pyNext_list_end (I.ok.hd L) f p.isList (by simp;lia) λl a=>⟨rfl,I.turned (t':=s.toks) (λb o j e=>a b o j e) C D F G J⟩
 self:=λ_ _ _ _ _ f h=>wpAny_pyIter_listiter f h
theorem yZ{P:Program}{w:World}(a g:Addr):Turn P w K tg (RI K a) [g] g (λi h=>h.IsTupleIter g a i) where
 mem:=by simp
 obj:=λi h f b j=>by
  have e:b=g:=by simpa using j
  subst e;obtain⟨o,e,c,d⟩:=f;exact⟨o,e,λv z=>by rw[d]at z;cases z⟩
 keep:=λi h l f k=>f.at λo e=>k g nofun o e
 item:=by
  intro X q r t M i pins s σ H E I m f y;subst q r t;obtain⟨N,x,n,A⟩:=y;obtain⟨B,C,p,O⟩:=I.tuple n;obtain⟨u,v,w⟩:=C.get A;obtain⟨D,F,Q,G,J,L⟩:=m g nofun;calc wpAny_pyNext_tuple_item f (show s.heap.IsTuple a B.toArray from p) (x:=u) (by simpa using v) λl k z=>?_;have v:Inv X pins σ H {s with heap:=l}:=I.turned (t':=s.toks) (λb o j e=>(z.2 b j).trans e) D F G J L;obtain⟨o,e,c,d⟩:=id k;exact⟨u,rfl,El (s:={s with heap:=l}) e c d ∅ ⟨x,H,v,w,⟨rfl,λz u=>by rw[I.uo u n];calc A⟩,k,λb j=>(m b j).1⟩⟩
 done:=by
  intro X q r t M i pins s σ H E I m f y;subst q r t;obtain⟨N,n,A⟩:=y;obtain⟨B,C,p,O⟩:=I.tuple n;obtain⟨D,F,Q,G,J,L⟩:=m g nofun;have c:=C.length;exact wpAny_pyNext_tuple_end (I.ok.hd M) f (show s.heap.IsTuple a B.toArray from p) (by simp;lia) λl c=>⟨rfl,I.turned (t':=s.toks) (λb o j e=>c b o j e) D F G J L⟩
 self:=λ_ _ _ _ _ f h=>wpAny_pyIter_tupleiter f h
theorem y0{P:Program}{w:World}(c:Addr)(f:Int)(n:Nat):Turn P w K tg (yY f n) [c] c (λi h=>IsRangeIter h c (f+(i:Nat)*1) ((n:Int)-(i:Nat)) 1) where
 mem:=by simp
 obj:=λi h a b d=>by
  have e:b=c:=by simpa using d
  subst e;exact⟨_,a,λv z=>by
   have k:Data.fields _=Data.cell v:=z
   cases k⟩
 keep:=λi h g a k=>k c nofun _ a
 item:=by
  intro X l m p q i pins s σ H E I j a r;subst l m p;obtain⟨u,x,F,y,A,B⟩:=j c nofun;have W:=Walks.range (prog:=X.prog) (w:=X.w) (I.ok.hd q) c f 1 n;calc W.item i s _ _ r a λv g C G D J=>?_;obtain⟨t,rfl⟩:=G;have k:Inv X pins σ H {s with heap:=g,toks:=C}:=I.turned (λb o d e=>J b o (by simpa using d) e) u x y A B;calc⟨_,rfl,El (s:={s with heap:=g,toks:=C}) (n:="range_iterator") D rfl rfl ∅ ⟨.int (f+i),H,k,⟨t,?_⟩,⟨rfl,rfl⟩,D,λb d=>(j b d).1⟩⟩;rw[Int.mul_one]
 done:=by
  intro X l m p q i pins s σ H E I j a r;subst l m p;obtain⟨u,x,F,y,A,B⟩:=j c nofun;exact wpAny_pyNext_range_end (I.ok.hd q) a (by have:n<=i:=r;lia) λg c=>⟨rfl,I.turned (t':=s.toks) (λb o d e=>c b o d e) u x y A B⟩
 self:=λ_ _ _ _ _ a h=>wpAny_pyIter_rangeiter a h
end
section
variable {H:Hp}{pins:List (Addr×Obj)}{s:Shared}{σ:St}{g:TG}{tb:TS}
section
variable {X:Cx}{tg:Expr}
theorem En{R:It->Hp->Prop}{E:Value->Shared->Prop}{a c:Int}{t u v:Tok}{d:Nat}(I:Inv X pins σ H s)(g:-(2^62)<=a)(h:a<2^62)(i:-(2^62)<=c)(j:c<2^62)
  (q:R (yY a (c-a).toNat) H):wpAny (model X.prog X.w) X.A (pyIter (.ref s.heap.objs.size)) (Xs X pins σ tg R) E {s with heap:=s.heap.push {cls:=.type "range",data:=.fields #[.int a t,.int c u,.int 1 v]},toks:=d}:=by
 refine wpAny_pyIter_range (IsRange.new ..) (small_one g h i j) ?_;have f:Inv X pins σ H {s with heap:=s.heap.push {cls:=.type "range",data:=.fields #[.int a t,.int c u,.int 1 v]},toks:=d}:=I.kept λb o e=>J' _ e;refine⟨(s.heap.push {cls:=.type "range",data:=.fields #[.int a t,.int c u,.int 1 v]}).objs.size,[(s.heap.push {cls:=.type "range",data:=.fields #[.int a t,.int c u,.int 1 v]}).objs.size],_,_,H,rfl,
  f.kept (t':=d) λb o e=>J' _ e,y0 _ a (c - a).toNat,?_,λb k=>?_,q⟩
 ·have l:a + ((0:Nat):Int) * 1=a:=by simp
  have m:(((c-a).toNat:Nat):Int)-((0:Nat):Int)=Builtin.Range.rangeSize a c 1:=by rw[rangeSize_one];split<;>lia
  show IsRangeIter _ _ (a+((0:Nat):Int)*1) ((((c-a).toNat:Nat):Int)-((0:Nat):Int)) 1;rw[l,m];exact T' _ rfl
 ·have e:b=(s.heap.push {cls:=.type "range",data:=.fields #[.int a t,.int c u,.int 1 v]}).objs.size:=by simpa using k
  subst e;calc f.Ek (K' _) (f.aW.fresh (K' _))
def Eo(a:TA):TI:=λσ H R=>a σ H λvs b=>∃j:Int,vs=[.int j]/\-(2^62)<=j/\j<2^62/\R (yY 0 j.toNat) b
theorem cB{a:Expr}{d:TA}{p b:Pos}(f:Gl X "range")(g:X.mg "range"=none)(i:PA X [a] d)(j:starEach [a] X.env=[(false,eval a X.env)]:=by rfl):PI X tg (.Call (.Name "range" p) [a] [] b) (Eo d):=by
 calc⟨?_⟩;intro pins s σ H R I h;calc Call_ (oN I f g boot_range (PyProof.Rows.callWith_type1 (dy (i b pins s σ H _ I h) λd o a=>?_) j rfl));obtain⟨b,d,k,l,c⟩:=a;obtain⟨j,e,c,m,q⟩:=c;subst e
 cases l with
 |cons r n=>
  cases n;obtain⟨t,rfl⟩:=r;calc call_range_1 (En k () () c m (by simpa using q))
def Nj(a:TI)(g:TG)(tb:TS):TS:=λD σ H=>a σ H λJ b=>∃W:Nat->Nat->St->Hp->Prop,(∃m,W 0 m σ b)/\∀i m σ H,W i m σ H->
 (J.stop i H/\D.nx σ H)\/(J.go i H/\∃N:St->Hp->Prop,(∀a b,N a b->∃d,d<m/\W (i+1) d a b)/\∀x b,J.Ln i H x b->g x σ b λc e=>tb {D with nx:=N,ct:=N,bk:=D.nx} c e)
def oP(a:List Addr)(h:Heap):List (Addr×Obj):=a.filterMap λb=>(h.get? b).map λo=>(b,o)
theorem jM{a:List Addr}{h:Heap}{b:Addr}{o:Obj}(c:b∈a)(e:h.get? b=some o):(b,o)∈oP a h:=List.mem_filterMap.mpr ⟨b,c,by rw[e];rfl⟩
theorem Cg{a:List Addr}{h:Heap}{p:Addr×Obj}(c:p∈oP a h):p.1∈a/\h.get? p.1=some p.2:=by
 obtain⟨b,d,e⟩:=List.mem_filterMap.mp c
 cases q:h.get? b with
 |none=>rw[q]at e;cases e
 |some o=>
  rw[q]at e;have f:(b,o)=p:=Option.some.inj e;subst f;calc⟨d,q⟩
theorem Inv.pinned{a:List Addr}(I:Inv X pins σ H s)(g:∀b∈a,oO X pins H b)(h:∀b∈a,∃o,s.heap.get? b=some o/\∀v,o.data≠.cell v):Inv X (pins++oP a s.heap) σ H s:=
 I.vp λp a=>(List.mem_append.mp a).elim (λz=>I.pin p (X' _ z)) λz=>by
  obtain⟨c,e⟩:=Cg z;obtain⟨i,j,k,_⟩:=g p.1 c;obtain⟨o,f,d⟩:=h p.1 c;rw[e]at f;cases f;calc⟨e,i,j,k,d⟩
theorem Inv.ko{pl:List (Addr×Obj)}(I:Inv X (pins++pl) σ H s):Inv X pins σ H s:=I.vp λp a=>I.pin p (X' _ (List.mem_append_left _ a))
theorem cQ{c:Expr}{m:List Stmt}{M:TI}{J:Pos}(z:PassesOwn (model X.prog X.w) X.A X.env X.xe)(O:X.calm=true)(Z:PI X tg c M)(hg:PG X tg g)(j:wG X m tb)
  (hs:∀x,foldedSetIterable c X.env x=pure x:=by intro _;rfl):PS X (.For tg c m [] J) (Nj M g tb):=by
 walk_at "xd";refine wpAny_For (dy (Z pins s σ H _ I h) λv m c=>dy c λm J h2=>?_) hs;obtain⟨c,B,P,J,H2,e,I2,T,q0,Q,W,⟨m0,w0⟩,C⟩:=h2;subst e;have K:∀{o:Hp},(∀b∈B,o b=none)->∀b∈B,oO X pins o b:=λc b j=>⟨c b j,(Q b j).2⟩
 calc codeAny_forLoop_any (λn c=>∃i d o,Inv X pins d o c/\P i c.heap/\(∀b∈B,o b=none)/\W i n d o) ?_ m0 ⟨0,σ,H2,I2,q0,λb j=>(Q b j).1,w0⟩;rintro n R ⟨i,k,G,S,U,Y,w3⟩;rcases C i n k G w3 with⟨c,qn⟩|⟨go,N,hN,E⟩
 ·calc wpAny_passesOwn z (dy (T.done X rfl rfl rfl O i pins R k G X.xe S (K Y) U c) λr s4 y=>?_);obtain⟨L,I4⟩:=y;subst L;exact wpAny_execs_nil ⟨k,G,I4,qn⟩
 ·calc wpAny_passesOwn z (dy (T.item X rfl rfl rfl O i pins R k G X.xe S (K Y) U go) λr s4 y=>?_);obtain⟨u,L,h4⟩:=y;subst L;calc wpAny_passesOwn z (dy h4 λ_ C y=>?_);obtain⟨x,m,r,G,J,c,L⟩:=y;have M:=r.pinned (K L) (T.obj _ _ c);calc wpAny_passesOwn z (dy (hg _ C k m x u _ M G (E x m J)) λ_ O y=>?_);obtain⟨k,m,u,x⟩:=y;calc wpAny_passesOwn z (dy (j _ O k m _ u x) λf r t=>?_);have l:∀{a:St} {p:Hp},Inv X (pins++oP B C.heap) a p r->N a p->∃m,m<n/\∃i d o,Inv X pins d o r/\P i r.heap/\(∀b∈B,o b=none)/\W i m d o:=λ{a p} q F=>by
   obtain⟨d,k,m⟩:=hN a p F;calc⟨d,k,i+1,a,p,q.ko,T.keep _ _ _ c λb j o e=>(q.pin (b,o) (X' _ (X' _ (jM j e)))).1,λb j=>?_,m⟩;obtain⟨o,e,d⟩:=T.obj _ _ c b j;exact(q.pin (b,o) (X' _ (X' _ (jM j e)))).2.1
  cases f with
  |next=>obtain⟨a,p,q,F⟩:=t;calc l q F
  |cont=>obtain⟨a,p,q,F⟩:=t;calc l q F
  |brk=>obtain⟨a,p,q,t⟩:=t;calc⟨a,p,q.ko,t⟩
  |ret v=>obtain⟨b,a,p,q,c,t⟩:=t;calc⟨b,a,p,q.ko,c,t⟩
end
theorem eS{K:W.Frag}{a:Addr}{xs:List V}{D:Ends}(b:Nat->St->Hp->Prop)(k:b 0 σ H)(l:∀i σ H,i<=xs.length->b i σ H->aO K H a xs)
  (n:∀i x σ H,xs[i]?=some x->b i σ H->g x σ H λc h=>tb {D with nx:=b (i+1),ct:=b (i+1),bk:=D.nx} c h) (o:∀σ H,b xs.length σ H->D.nx σ H):
  ∃W:Nat->Nat->St->Hp->Prop,(∃m,W 0 m σ H)/\∀i m σ H,W i m σ H->
   ((tw K a).stop i H/\D.nx σ H)\/((tw K a).go i H/\∃N:St->Hp->Prop,(∀d f,N d f->∃j,j<m/\W (i+1) j d f)/\∀x f,(tw K a).Ln i H x f->g x σ f λc h=>tb {D with nx:=N,ct:=N,bk:=D.nx} c h):=by
 calc⟨λi m σ H=>m=xs.length-i/\i<=xs.length/\b i σ H,⟨xs.length,nofun,U' _,k⟩,?_⟩;rintro i m σ H ⟨rfl,c,p⟩;have q:=l i σ H c p;by_cases a:i<xs.length
 ·calc .inr ⟨⟨xs,xs[i],q,by simp[a]⟩,b (i+1),λd f c=>⟨xs.length-(i+1),(),rfl,a,c⟩,λx f y=>?_⟩;obtain⟨e,y⟩:=y;subst e;exact n i x σ _ (y xs q) p
 ·have e:i=xs.length:=by lia
  subst e;calc .inl ⟨⟨xs,q,K' _⟩,o σ H p⟩
theorem fU{f:Int}{n:Nat}{D:Ends}(a:Nat->St->Hp->Prop)(l:a 0 σ H)
  (o:∀i σ H,i<n->a i σ H->g (.int (f+i)) σ H λb h=>tb {D with nx:=a (i+1),ct:=a (i+1),bk:=D.nx} b h) (q:∀σ H,a n σ H->D.nx σ H):
  ∃W:Nat->Nat->St->Hp->Prop,(∃m,W 0 m σ H)/\∀i m σ H,W i m σ H->
   ((yY f n).stop i H/\D.nx σ H)\/((yY f n).go i H/\∃N:St->Hp->Prop,(∀c d,N c d->∃k,k<m/\W (i+1) k c d)/\∀x d,(yY f n).Ln i H x d->g x σ d λb h=>tb {D with nx:=N,ct:=N,bk:=D.nx} b h):=by
 calc⟨λi m σ H=>m=n-i/\i<=n/\a i σ H,⟨n,nofun,U' _,l⟩,?_⟩;rintro i m σ H ⟨rfl,b,p⟩;by_cases j:i<n
 ·calc .inr ⟨j,a (i+1),λc d b=>⟨n-(i+1),(),rfl,j,b⟩,λx d y=>?_⟩;obtain⟨e,y⟩:=y;subst e y;exact o i σ _ j p
 ·have e:i=n:=by lia
  subst e;calc .inl ⟨K' _,q σ H p⟩
end
section
variable {op:CmpOp}{g:Int->Int->Int}{r:R2}
abbrev R2:=V->V->Hp->VK->Prop
def fV(X:Cx)(f:Value->Value->Sem Value)(r:R2):Prop:=
 ∀(pins:List (Addr×Obj)) (s:Shared) (σ:St) (H:Hp) (x y:V) (v u:Value) (Q:VK),Inv X pins σ H s->RelV x v->RelV y u->r x y H Q->
  wpAny (model X.prog X.w) X.A (f v u) (EP X pins σ Q) X.xe s
def Xv(X:Cx)(f:Value->Sem Value)(r:V->Hp->VK->Prop):Prop:=
 ∀(pins:List (Addr×Obj)) (s:Shared) (σ:St) (H:Hp) (x:V) (v:Value) (Q:VK),Inv X pins σ H s->RelV x v->r x H Q->
  wpAny (model X.prog X.w) X.A (f v) (EP X pins σ Q) X.xe s
def ee(X:Cx)(f:Value)(r:List V->Hp->VK->Prop):Prop:=
 ∀(pins:List (Addr×Obj)) (s:Shared) (σ:St) (H:Hp) (xs:List V) (us:List Value) (Q:VK),Inv X pins σ H s->Vals xs us->r xs H Q->
  wpAny (model X.prog X.w) X.A (call f us) (EP X pins σ Q) X.xe s
def Ep(r:R2)(a b:TE):TE:=λσ H Q=>a σ H λx c=>b σ c λy a=>r x y a Q
def Xw(r:V->Hp->VK->Prop)(a:TE):TE:=λσ H Q=>a σ H λx b=>r x b Q
def rI(C:Int->Int->Prop)(g:Int->Int->V):R2:=λx y H Q=>∃i j,x=.int i/\y=.int j/\C i j/\Q (g i j) H
def Jp(g:Int->Int->V):R2:=λx y H Q=>∃i j,x=.int i/\y=.int j/\Q (g i j) H
def rU(g:Int->V):V->Hp->VK->Prop:=λx H Q=>∃i,x=.int i/\Q (g i) H
section
variable {X:Cx}{a b c:Expr}{ta tb tc:TE}{pos:Pos}
theorem Nk(j:PE X a ta)(k:PE X b tb){pins:List (Addr×Obj)}{s:Shared}{σ:St}{H:Hp}{R:V->V->Hp->Prop}(I:Inv X pins σ H s)
  (h:ta σ H λx i=>tb σ i λy c=>R x y c) {Q:Value->Shared->Prop} {f:Value->Value->Sem Value}
  (l:∀v u g x y c,Inv X pins σ c g->RelV x v->RelV y u->R x y c->wpAny (model X.prog X.w) X.A (f v u) Q X.xe g):
  wpAny (model X.prog X.w) X.A (eval a X.env) (λv d=>wpAny (model X.prog X.w) X.A (eval b X.env) (λu e=>wpAny (model X.prog X.w) X.A (f v u) Q X.xe e) X.xe d) X.xe s:=by
 calc dy (j pins s σ H _ I h) λv e d=>?_;obtain⟨x,i,f,h,j⟩:=d;calc dy (k pins e σ i _ f j) λu g d=>?_;obtain⟨y,c,e,f,i⟩:=d;calc l v u g x y c e h f i
theorem bc{op:Operator}(c:fV X (binaryOp op) r)(d:PE X a ta)(e:PE X b tb):PE X (.BinOp a op b pos) (Ep r ta tb):=by
 walk_at "xc";exact wpAny_BinOp (Nk d e I h λv u f x y g i j k q=>c pins f σ g x y v u Q i j k q)
theorem kr{op:UnaryOp}{r:V->Hp->VK->Prop}(b:Xv X (unaryOp op) r)(c:PE X a ta):PE X (.UnaryOp op a pos) (Xw r ta):=by
 walk_at "xc";exact UnaryOp_ (dy (c pins s σ H _ I h) λv d ⟨x,e,f,g,i⟩=>b pins d σ e x v Q f g i)
theorem V1{f:Value->Value->Sem Value}{C:Int->Int->Prop}
  (a:∀(i j:Int) (t u:Tok) (s:Shared) (Q:Value->Shared->Prop) (E:Value->Shared->Prop),C i j->Q (.int (g i j) s.toks) {s with toks:=s.toks+1}->wpAny (model X.prog X.w) X.A (f (.int i t) (.int j u)) Q E s):
  fV X f (rI C λi j=>.int (g i j)):=by
 intro b s σ H x y v u Q I c d h;obtain⟨i,j,rfl,rfl,e,q⟩:=h;obtain⟨t,rfl⟩:=c;obtain⟨k,rfl⟩:=d;calc a i j t k s _ _ e ⟨.int (g i j),H,I.tok _,⟨_,rfl⟩,q⟩
theorem RK{f:Value->Value->Sem Value}
  (a:∀(i j:Int) (t u:Tok) (s:Shared) (Q:Value->Shared->Prop) (E:Value->Shared->Prop),Q (.int (g i j) s.toks) {s with toks:=s.toks+1}->wpAny (model X.prog X.w) X.A (f (.int i t) (.int j u)) Q E s):
  fV X f (Jp λi j=>.int (g i j)):=by
 intro b s σ H x y v u Q I c d h;obtain⟨i,j,rfl,rfl,q⟩:=h;obtain⟨t,rfl⟩:=c;obtain⟨e,rfl⟩:=d;calc a i j t e s _ _ ⟨.int (g i j),H,I.tok _,⟨_,rfl⟩,q⟩
theorem Jq{f:Value->Value->Sem Value}{g:Int->Int->Bool}
  (a:∀(i j:Int) (t u:Tok) (s:Shared) (Q:Value->Shared->Prop) (E:Value->Shared->Prop),Q (.bool (g i j)) s->wpAny (model X.prog X.w) X.A (f (.int i t) (.int j u)) Q E s):
  fV X f (Jp λi j=>.bl (g i j)):=by
 intro b s σ H x y v u Q I c d h;obtain⟨i,j,rfl,rfl,q⟩:=h;obtain⟨t,rfl⟩:=c;obtain⟨e,rfl⟩:=d;calc a i j t e s _ _ ⟨.bl (g i j),H,I,rfl,q⟩
def Jr(i j:Int):Prop:=0<=j/\j<=1000000/\i.natAbs<2^64
def Er(i j:Int):Prop:=(-(2^64)<i/\i<2^64)\/(-(2^64)<j/\j<2^64)
theorem Er.ok{i j:Int}(h:Er i j):IntMulOk i j:=by
 rcases h with⟨a,b⟩|⟨a,b⟩
 ·exact .of_left (intBits_le_64 a b)
 ·calc .of_right (intBits_le_64 a b)
theorem Nl:fV X (binaryOp .Add) (Jp λi j=>.int (i+j)):=RK λ_ _ _ _ _ _ _ q=>add_int q
theorem Nm:fV X (binaryOp .Sub) (Jp λi j=>.int (i-j)):=RK λ_ _ _ _ _ _ _ q=>sub_int q
theorem Np:fV X (binaryOp .Mult) (rI Er λi j=>.int (i*j)):=V1 λ_ _ _ _ _ _ _ a q=>mul_int q a.ok
theorem Nq:fV X (binaryOp .Mod) (rI (λ_ j=>0<j) λi j=>.int (i%j)):=V1 λi j _ _ _ _ _ a q=>by
 have b:(0:Int)<j:=a;calc mod_int' () (by rw[Int.fmod_eq_emod_of_nonneg i ()];calc q)
theorem Nr:fV X (binaryOp .Pow) (rI Jr λi j=>.int (i^j.toNat)):=V1 λ_ _ _ _ _ _ _ a q=>pow_int_small a.1 a.2.1 a.2.2 q
theorem unI{f:Value->Sem Value}{g:Int->Int}
  (a:∀(i:Int) (t:Tok) (s:Shared) (Q:Value->Shared->Prop) (E:Value->Shared->Prop),Q (.int (g i) s.toks) {s with toks:=s.toks+1}->wpAny (model X.prog X.w) X.A (f (.int i t)) Q E s):
  Xv X f (rU λi=>.int (g i)):=by
 intro b s σ H x v Q I c h;obtain⟨i,rfl,q⟩:=h;obtain⟨t,rfl⟩:=c;calc a i t s _ _ ⟨.int (g i),H,I.tok _,⟨_,rfl⟩,q⟩
theorem gW:Xv X (unaryOp .USub) (rU λi=>.int (-i)):=unI λ_ _ _ _ _ q=>neg_int q
end
def Js:V->V->Bool
 | .bP,.bP=>true | .bP,.int _=>true | .int _,.bP=>true | .bP,.bl _=>true | .bl _,.bP=>true | .bP,.str _=>true | .str _,.bP=>true
 | .int _,.int _=>true | .bl _,.bl _=>true | .str _,.str _=>true | .Ao _,.Ao _=>true
 | .int _,.str _=>true | .str _,.int _=>true | .bl _,.str _=>true | .str _,.bl _=>true
 |_,_=>false
def rEq:R2:=λx y H Q=>Js x y=true/\Q (.bl (decide (x=y))) H
def rNe:R2:=λx y H Q=>Js x y=true/\Q (.bl (!decide (x=y))) H
theorem Av{i j:Int}:decide (V.int i=V.int j)=(i==j):=by
 rw[Bool.eq_iff_iff];simp
theorem Es{i j:Bool}:decide (V.bl i=V.bl j)=(i==j):=by
 rw[Bool.eq_iff_iff];simp
theorem Aw{i j:Str}:decide (V.str i=V.str j)=(i==j):=by
 rw[Bool.eq_iff_iff];simp
theorem Ax{i j:Array UInt8}:decide (V.Ao i=V.Ao j)=(i.toList==j.toList):=by
 rw[Bool.eq_iff_iff]
 cases i
 cases j;simp
section
variable {X:Cx}{a b c:Expr}{ta tb tc:TE}{pos:Pos}
theorem ck{pins:List (Addr×Obj)}{σ:St}{H:Hp}{s:Shared}{Q:VK}{k a:Bool}(I:Inv X pins σ H s)(q:Q (.bl k) H)(e:k=a):EP X pins σ Q (.bool a) s:=by
 subst e;calc⟨.bl k,H,I,rfl,q⟩
theorem RL:fV X (compareOp .Eq) rEq:=by
 intro e s σ H x y v u Q I d a h;obtain⟨c,q⟩:=h
 cases x with
 |bP=>
  cases d
  cases y with
  |bP=>cases a;calc PySem.EqNone.eq_none_none (ck I q nofun)
  |bl j=>cases a;calc PySem.EqNone.eq_none_bool (ck I q nofun)
  |int j=>obtain⟨b,rfl⟩:=a;calc PySem.EqNone.eq_none_int (ck I q nofun)
  |str j=>obtain⟨b,rfl⟩:=a;calc PySem.EqNone.eq_none_str (ck I q nofun)
  |_=>calc absurd (show false=true from c) S'
 |bl i=>
  cases d
  cases y with
  |bP=>cases a;calc PySem.EqNone.eq_bool_none (ck I q nofun)
  |bl j=>cases a;calc eq_bool (ck I q Es)
  |str j=>obtain⟨b,rfl⟩:=a;calc PySem.EqMixed.eq_bool_str (ck I q nofun)
  |_=>calc absurd (show false=true from c) S'
 |int i=>
  obtain⟨t,rfl⟩:=d
  cases y with
  |bP=>cases a;calc PySem.EqNone.eq_int_none (ck I q nofun)
  |int j=>obtain⟨b,rfl⟩:=a;calc eq_int (ck I q Av)
  |str j=>obtain⟨b,rfl⟩:=a;calc PySem.EqMixed.eq_int_str (ck I q nofun)
  |_=>calc absurd (show false=true from c) S'
 |str i=>
  obtain⟨t,rfl⟩:=d
  cases y with
  |bP=>cases a;calc PySem.EqNone.eq_str_none (ck I q nofun)
  |bl j=>cases a;calc PySem.EqMixed.eq_str_bool (ck I q nofun)
  |int j=>obtain⟨b,rfl⟩:=a;calc PySem.EqMixed.eq_str_int (ck I q nofun)
  |str j=>obtain⟨b,rfl⟩:=a;calc eq_str (ck I q Aw)
  |_=>calc absurd (show false=true from c) S'
 |Ao i=>
  obtain⟨t,rfl⟩:=d
  cases y with
  |Ao j=>obtain⟨b,rfl⟩:=a;calc W.eq_bytes (ck I q Ax)
  |_=>calc absurd (show false=true from c) S'
 |_=>cases y<;>calc absurd (show false=true from c) S'
theorem RM:fV X (compareOp .NotEq) rNe:=by
 intro e s σ H x y v u Q I d a h;obtain⟨c,q⟩:=h
 cases x with
 |bP=>
  cases d
  cases y with
  |bP=>cases a;calc PySem.EqNone.ne_none_none (ck I q nofun)
  |bl j=>cases a;calc PySem.EqNone.ne_none_bool (ck I q nofun)
  |int j=>obtain⟨b,rfl⟩:=a;calc PySem.EqNone.ne_none_int (ck I q nofun)
  |str j=>obtain⟨b,rfl⟩:=a;calc PySem.EqNone.ne_none_str (ck I q nofun)
  |_=>calc absurd (show false=true from c) S'
 |bl i=>
  cases d
  cases y with
  |bP=>cases a;calc PySem.EqNone.ne_bool_none (ck I q nofun)
  |bl j=>cases a;calc ne_bool (ck I q (congrArg not Es))
  |str j=>obtain⟨b,rfl⟩:=a;calc PySem.EqMixed.ne_bool_str (ck I q nofun)
  |_=>calc absurd (show false=true from c) S'
 |int i=>
  obtain⟨t,rfl⟩:=d
  cases y with
  |bP=>cases a;calc PySem.EqNone.ne_int_none (ck I q nofun)
  |int j=>obtain⟨b,rfl⟩:=a;calc ne_int (ck I q (congrArg not Av))
  |str j=>obtain⟨b,rfl⟩:=a;calc PySem.EqMixed.ne_int_str (ck I q nofun)
  |_=>calc absurd (show false=true from c) S'
 |str i=>
  obtain⟨t,rfl⟩:=d
  cases y with
  |bP=>cases a;calc PySem.EqNone.ne_str_none (ck I q nofun)
  |bl j=>cases a;calc PySem.EqMixed.ne_str_bool (ck I q nofun)
  |int j=>obtain⟨b,rfl⟩:=a;calc PySem.EqMixed.ne_str_int (ck I q nofun)
  |str j=>obtain⟨b,rfl⟩:=a;calc ne_str (ck I q (congrArg not Aw))
  |_=>calc absurd (show false=true from c) S'
 |Ao i=>
  obtain⟨t,rfl⟩:=d
  cases y with
  |Ao j=>obtain⟨b,rfl⟩:=a;calc W.ne_bytes (ck I q (congrArg not Ax))
  |_=>calc absurd (show false=true from c) S'
 |_=>cases y<;>calc absurd (show false=true from c) S'
theorem RN:fV X (compareOp .Lt) (Jp λi j=>.bl (decide (i<j))):=Jq λ_ _ _ _ _ _ _ q=>lt_int q
theorem RO:fV X (compareOp .LtE) (Jp λi j=>.bl (decide (i<=j))):=Jq λ_ _ _ _ _ _ _ q=>le_int q
theorem RP:fV X (compareOp .Gt) (Jp λi j=>.bl (decide (j<i))):=Jq λ_ _ _ _ _ _ _ q=>gt_int q
theorem RQ:fV X (compareOp .GtE) (Jp λi j=>.bl (decide (j<=i))):=Jq λ_ _ _ _ _ _ _ q=>ge_int q
theorem Nt:fV X (compareOp .Is) (λx y H Q=>y=.bP/\Q (.bl (decide (x=.bP))) H):=by
 intro a s σ H x y v u Q I b c h;obtain⟨rfl,q⟩:=h
 cases c;refine is_none_gen (ck I q ?_)
 cases x<;>first
  |(cases b;rfl)
  |(obtain⟨t,rfl⟩:=b;rfl)
theorem Jt:fV X (compareOp .IsNot) (λx y H Q=>y=.bP/\Q (.bl (!decide (x=.bP))) H):=by
 intro a s σ H x y v u Q I b c h;obtain⟨rfl,q⟩:=h
 cases c;refine isnot_none_gen (ck I q ?_)
 cases x<;>first
  |(cases b;rfl)
  |(obtain⟨t,rfl⟩:=b;rfl)
theorem fV.or{f:Value->Value->Sem Value}{b:R2}(h:fV X f r)(h':fV X f b):fV X f (λx y H Q=>r x y H Q\/b x y H Q):=by
 intro a s σ H x y v u Q I c d q;rcases q with q|q
 ·exact h a s σ H x y v u Q I c d q
 ·calc h' a s σ H x y v u Q I c d q
theorem aE(b:Expr){op:CmpOp}(h:op≠.In:=by decide)(a:op≠.NotIn:=by decide):behindInMarks op b=false:=by
 have c:(op==CmpOp.In)=false:=by cases op<;>first|rfl|exact absurd rfl h
 have d:(op==CmpOp.NotIn)=false:=by cases op<;>first|rfl|exact absurd rfl a
 cases b<;>simp[behindInMarks,c,d]
theorem jN(c:fV X (compareOp op) r)(d:PE X a ta)(e:PE X b tb)(f:behindInMarks op b=false):PE X (.Compare a [op] [b] pos) (Ep r ta tb):=by
 walk_at "xc";exact wpAny_Compare1 (Nk d e I h λv u g x y i j k l q=>c pins g σ i x y v u Q j k l q) f
def Ay(t:TE):TT:=λσ H Q=>t σ H λx a=>∃k,x=.bl k/\Q k a
theorem Az(d:fV X (compareOp op) r)(f:PE X a ta)(g:PE X b tb)(i:behindInMarks op b=false):PT X (.Compare a [op] [b] pos) (Ay (Ep r ta tb)):=by
 walk_at "xc";refine wpAny_isTrue_Compare1 (dy (f pins s σ H _ I h) λv j ⟨x,k,l,m,n⟩=>dy (g pins j σ k _ l n) λu f ⟨y,o,p,q,t⟩=>
  dy (d pins f σ o x y v u _ p m q t) λc g ⟨z,w,A,B,k,e,C⟩=>?_) i
 subst e
 cases B;calc aaE ⟨w,A,C⟩
def y7(r b:R2)(ta tb tc:TE):TE:=λσ H Q=>ta σ H λx a=>tb σ a λy c=>r x y c λz a=>∃k,z=.bl k/\
 (if k=true then tc σ a λw' c=>b y w' c Q else Q (.bl false) a)
theorem w6{d:CmpOp}{f:R2}(m:fV X (compareOp op) r)(n:fV X (compareOp d) f)(o:PE X a ta)(p:PE X b tb)(q:PE X c tc)
  (t:lastMarks [op,d] [b,c]=false:=by with_unfolding_all rfl):PE X (.Compare a [op,d] [b,c] pos) (y7 r f ta tb tc):=by
 walk_at "xc";refine Compare_chain (dy (o pins s σ H _ I h) λv d ⟨x,f,w,A,z⟩=>chain_link (dy (p pins d σ f _ w z) λu o ⟨y,B,C,g,D⟩=>
  dy (m pins o σ B x y v u _ C A g D) λd E ⟨z,i,j,F,k,e,l⟩=>?_)) t
 subst e
 cases F;refine aaE ?_
 cases k with
 |false=>calc ite_ff ⟨.bl false,i,j,rfl,l⟩
 |true=>calc ite_tt (chain_last (dy (q pins E σ i _ j l) λd e ⟨f,k,m,o,p⟩=>n pins e σ k y f u d Q m g o p))
theorem q5:(sizeLine:Nat)<2^63:=by rw[sizeLine_eq];decide
theorem y8:fV X (binaryOp .Add) (λx y H Q=>∃i j,x=.str i/\y=.str j/\i.length+j.length<=sizeLine/\Q (.str (i++j)) H):=by
 intro a s σ H x y v u Q I b c h;obtain⟨i,j,rfl,rfl,d,q⟩:=h;obtain⟨t,rfl⟩:=b;obtain⟨e,rfl⟩:=c;calc add_str (λe a=>⟨.str (i++j),H,I.tok _,⟨_,rfl⟩,q⟩) d
theorem vals1{x:V}{us:List Value}(r:Vals [x] us):∃u,us=[u]/\RelV x u:=by
 cases r with
 |cons a b=>cases b;calc⟨_,rfl,a⟩
theorem vals2{x y:V}{us:List Value}(r:Vals [x,y] us):∃u w',us=[u,w']/\RelV x u/\RelV y w':=by
 cases r with
 |cons a b=>
  cases b with
  |cons c d=>cases d;calc⟨_,_,rfl,a,c⟩
theorem Ci(b:X.calm=true):ee X (.builtin "max") (λxs H Q=>∃i j,xs=[.int i,.int j]/\Q (.int (if j > i then j else i)) H):=by
 intro a s σ H xs c Q I r h;obtain⟨i,j,rfl,q⟩:=h;obtain⟨u,d,rfl,⟨t,rfl⟩,⟨e,rfl⟩⟩:=vals2 r;refine max_two_ints (I.ok.hd b) λa c k=>⟨_,H,I.kept k,?_,q⟩
 by_cases a:j > i
 ·rw[if_pos a,if_pos a];exact⟨_,rfl⟩
 ·rw[if_neg a,if_neg a];calc⟨_,rfl⟩
theorem Cj:ee X (.type "int") (λxs H Q=>(∃i,xs=[.int i]/\Q (.int i) H)\/∃k,xs=[.bl k]/\Q (.int (if k then 1 else 0)) H):=by
 intro a s σ H xs c Q I r h;rcases h with⟨i,rfl,q⟩|⟨k,rfl,q⟩
 ·obtain⟨u,rfl,t,rfl⟩:=vals1 r;exact call_int_int ⟨.int i,H,I,⟨_,rfl⟩,q⟩
 ·obtain⟨u,rfl,b⟩:=vals1 r
  cases b;calc call_int_bool ⟨.int (if k then 1 else 0),H,I.tok _,⟨_,rfl⟩,q⟩
def Et(K:W.Frag)(x:V)(H:Hp)(n:Nat):Prop:=
 match x with
 | .str y=>y.length<=sizeLine/\n=y.length
 | .Ao y=>y.size<=sizeLine/\n=y.size
 | .ref p=>(∃xs,aO K H p xs/\n=xs.length)\/∃xs,bQ K H p xs/\n=xs.length
 |_=>False
theorem Eu:ee X (.builtin "len") (λxs H Q=>∃x n,xs=[x]/\Et X.K x H n/\Q (.int n) H):=by
 intro i s σ H xs m Q I r h;obtain⟨x,n,rfl,e,q⟩:=h;obtain⟨u,rfl,c⟩:=vals1 r;have h:=q5;have h:sizeLine=16777216:=sizeLine_eq
 cases x with
 |str y=>
  obtain⟨t,rfl⟩:=c;obtain⟨j,b⟩:y.length<=sizeLine/\n=y.length:=e;subst b;calc len_str () ⟨.int _,H,I.tok _,⟨_,rfl⟩,q⟩
 |Ao y=>
  obtain⟨t,rfl⟩:=c;obtain⟨j,b⟩:y.size<=sizeLine/\n=y.size:=e;subst b;calc W.len_bytes () ⟨.int _,H,I.tok _,⟨_,rfl⟩,q⟩
 |ref p=>
  cases c;have b:(∃xs,aO X.K H p xs/\n=xs.length)\/∃xs,bQ X.K H p xs/\n=xs.length:=e;rcases b with⟨xs,d,b⟩|⟨xs,d,b⟩
  ·subst b;obtain⟨k,f,g,l⟩:=I.list d;have a:=f.length;exact Calls.call_len_list g.isList (by simp only[List.size_toArray];lia) ⟨.int xs.length,H,I.tok _,⟨_,by simp only[List.size_toArray];rw[a]⟩,q⟩
  ·subst b;obtain⟨k,f,g,l⟩:=I.tuple d;have a:=f.length;calc len_tuple g (by simp only[List.size_toArray];lia) ⟨.int xs.length,H,I.tok _,⟨_,by simp only[List.size_toArray];rw[a]⟩,q⟩
 |_=>calc(show False from e).elim
end
end
section
variable {C:Addr}{mA:Str->Option Value}{Q:Value->Shared->Prop}
structure y9(h:Heap)(x dx C:Addr)(mA:Str->Option Value):Prop where
 obj:h.get? x=some (W.instObj C dx)
 ns:h.Ns1 dx mA
 ne:dx≠x
theorem Ck{h:Heap}{b:Addr}(n:h.Ns1 b mA):∃c,h.get? b=some c/\∀name,W.lookIn name c=some (mA name):=by
 obtain⟨o,d,p,f,g,i,_,j⟩:=n;calc⟨o,f,λname=>?_⟩;have e:=j name;unfold nsFind findBy at e;rw[<-Array.find?_toList]at e;unfold W.lookIn;rw[g];dsimp only;split
 ·rename_i y q;rw[q]at e;exact congrArg some e
 ·rename_i q;rw[q]at e;have a:d.toList.any (·.refKey)=false:=by
   rw[List.any_eq_false];intro y k;obtain⟨z,t,l⟩:=i y (Array.mem_toList_iff.mp k);simp[DictEntry.refKey,l]
  have m:¬d.toList.any (·.refKey)=true:=by rw[a];exact S'
  rw[if_neg m];calc congrArg some e
theorem y9.look{h:Heap}{x b:Addr}(I:y9 h x b C mA):∃a,W.InstAt h x (W.instObj C b) C (some a)/\∀name,W.lookIn name a=some (mA name):=
 let ⟨a,b,c⟩:=Ck I.ns
 ⟨a,⟨I.obj,rfl,rfl,b⟩,c⟩
section
variable {prog:Program}{w:World}{A:Around}{E:Value->Shared->Prop}{s:Shared}{K:W.Frag}{x dx C f:Addr}{mA:Str->Option Value}{name:Str}{v:Value}
theorem get_map{a:Bool}(X:K.In s.heap)(I:y9 s.heap x dx C mA)(b:W.plainGet K C name=true)(c:W.hasDictIn K C=true)
  (d:W.findIn K (.ref C) name=some none) (e:mA name=some v) (f:W.handedIn v=true) (h:Q v {s with toks:=s.toks+1}):
  wpAny (model prog w) A (getAttr (.ref x) name a) Q E s:=by
 obtain⟨g,J,a⟩:=I.look;calc W.get_value X J (W.plainGet_of b).1 (W.findObj_own c d rfl (by rw[a,e])) f h
theorem Ew{pl:Sem Bool}{Q:Value×List Value->Shared->Prop}(X:K.In s.heap)(I:y9 s.heap x dx C mA)(a:W.plainGet K C name=true)
  (b:W.findIn K (.ref C) name=some (some (.ref f))) (c:W.isFn K (.ref f)=true) (d:mA name=none) (h:Q (.ref f,[.ref x]) s):
  wpAny (model prog w) A (getMethod (.ref x) name pl) Q E s:=by
 obtain⟨e,J,g⟩:=I.look;calc W.method_fn X J (W.plainGet_of a).1 (W.plainGet_of a).2 b (beq_iff_eq.mp c) (by show(W.lookIn name e).map (·.isSome)=some false;rw[g,d];rfl) h
theorem Ju{ns:List Str}{Q:Unit->Shared->Prop}(X:K.In s.heap)(I:y9 s.heap x dx C mA)
  (b:W.findIn K (.ref C) "__setattr__"=some (some (.builtin "object.__setattr__"))) (c:W.plainOver K C=true) (d:W.takerIn K C name=some none) (e:W.hasDictIn K C=true)
  (i:PySem.Within mA ns) (hsz:ns.length<=sizeLine)
  (h:∀h',y9 h' x dx C (λy=>if y=name then some v else mA y)->Heap.SameBut dx s.heap h'->Q ⟨⟩ {s with heap:=h',toks:=s.toks+2}):
  wpAny (model prog w) A (setAttr (.ref x) name v) Q E s:=by
 obtain⟨g,J,j⟩:=I.look;calc W.set_plain X J b (W.osa_open (s:={s with toks:=s.toks+1}) (r:=none) X J c d λb=>?_);obtain⟨d,b,c⟩:=W.any_some e;have d:s.heap.get? x=some ⟨.ref C,some dx,.plain,#[]⟩:=I.obj;calc A' (M' (A' (A' (wpAny_loadPart d (A' (W.Looks.here (s:={s with toks:=s.toks+1}) (W.looks_clsIn X b) ?_))))));rw[c];calc M' (a:=some dx) (A' (M' (A' ?_)));calc wpAny_nsSet1 (s:={s with toks:=s.toks+1}) I.ns λh' e g=>?_;obtain⟨l,j,k,b,c,d⟩:=e.count (PySem.Within.cons name v i);calc A' (wpAny_lookBehind b (by rw[c];calc pastItsLine_dict (Y' d (by rw[List.length_cons];lia))) ?_);calc M' (h _ ⟨(g.2 _ (Ne.symm I.ne)).trans I.obj,e,I.ne⟩ g)
theorem Ex{R:Result->Shared->Prop}{vs:List Value}{a:List (Str×Value)}(X:K.In s.heap)(b:W.makesIn K C=true)
  (c:W.findIn K (.ref C) "__init__"=some (some (.ref f))) (e:W.typeIn K (.ref f)=some (.type "function"))
  (h:codeAny (model prog w) (A.under (.builtin "type.__call__" ⟨.ref C::vs,a⟩)) (.call (.ref f) ⟨.ref (s.heap.objs.size + 1)::vs,a⟩) (W.InitBack (s.heap.objs.size + 1) R)
   {s with heap:=(s.heap.push W.emptyDict).push (W.instObj C s.heap.objs.size)}):
  codeAny (model prog w) A (.call (.ref C) ⟨vs,a⟩) R s:=by
 obtain⟨a,g,d,t,i⟩:=s;calc W.make_core (W.makes_of X b) (W.looks_findIn X c) (λa=>W.bind_fn X a e) (.inl rfl) h
end
def bo(f:Str)(v:V):List (Str×V)->List (Str×V)
 | []=>[(f,v)]
 |(g,x)::r=>if g=f then(g,v)::r else(g,x)::bo f v r
theorem bz(f g:Str)(v:V):∀a:List (Str×V),(bo f v a).lookup g=if g=f then some v else a.lookup g
 | []=>by
  show List.lookup g [(f,v)]=_;by_cases h:g=f
  ·have a:(g==f)=true:=beq_iff_eq.mpr h;simp only[List.lookup,a,if_pos h]
  ·have a:(g==f)=false:=beq_eq_false_iff_ne.mpr h;simp only[List.lookup,a,if_neg h]
 |(k,x)::r=>by
  have c:=bz f g v r;rw[show bo f v ((k,x)::r)=(if k=f then(k,v)::r else(k,x)::bo f v r) from rfl];by_cases b:k=f
  ·rw[if_pos b];by_cases h:g=k
   ·have a:(g==k)=true:=beq_iff_eq.mpr h;simp only[List.lookup,a,if_pos (h.trans b)]
   ·have a:(g==k)=false:=beq_eq_false_iff_ne.mpr h;simp only[List.lookup,a,if_neg (λe:g=f=>h (e.trans b.symm))]
  ·rw[if_neg b];by_cases h:g=k
   ·have a:(g==k)=true:=beq_iff_eq.mpr h;simp only[List.lookup,a,if_neg (λe:g=f=>b (h.symm.trans e))]
   ·have a:(g==k)=false:=beq_eq_false_iff_ne.mpr h;simp only[List.lookup,a];calc c
theorem oQ(f:Str)(v:V):∀a:List (Str×V),f∈(bo f v a).map (·.1)/\∀g,g∈a.map (·.1)->g∈(bo f v a).map (·.1)
 | []=>⟨by simp[bo],λg h=>by simp at h⟩
 |(k,x)::r=>by
  obtain⟨c,d⟩:=oQ f v r;rw[show bo f v ((k,x)::r)=(if k=f then(k,v)::r else(k,x)::bo f v r) from rfl];by_cases b:k=f
  ·rw[if_pos b];subst b;exact⟨nofun,λg h=>by simpa using h⟩
  ·rw[if_neg b];refine⟨?_,λg h=>?_⟩
   ·rw[List.map_cons];exact aab _ c
   ·rw[List.map_cons] at h ⊢;rcases List.mem_cons.mp h with e | e
    ·exact List.mem_cons.mpr (.inl e)
    ·calc aab _ (d g e)
theorem ku(f:Str)(v:V):∀a:List (Str×V),(bo f v a).length<=a.length+1
 | []=>by simp[bo]
 |(k,x)::r=>by
  have a:=ku f v r;rw[show bo f v ((k,x)::r)=(if k=f then(k,v)::r else(k,x)::bo f v r) from rfl];by_cases a:k=f
  ·rw[if_pos a,List.length_cons,List.length_cons];lia
  ·rw[if_neg a,List.length_cons,List.length_cons];lia
theorem ke.some_of{v:V}{o:Option Value}(r:ke (some v) o):∃u,o=some u/\RelV v u:=by
 cases o with
 |none=>calc(show False from r).elim
 |some u=>calc⟨u,rfl,r⟩
theorem ke.none_of{o:Option Value}(r:ke none o):o=none:=by
 cases o with
 |none=>rfl
 |some u=>calc(show False from r).elim
theorem Cm{v:V}{u:Value}(r:RelV v u):W.handedIn u=true:=by
 cases v with
 |bP=>cases(show u=Value.none from r);rfl
 |bl b=>cases(show u=Value.bool b from r);rfl
 |int i=>obtain⟨t,e⟩:=(show ∃t,u=Value.int i t from r);cases e;rfl
 |str x=>obtain⟨t,e⟩:=(show ∃t,u=Value.str x t from r);cases e;rfl
 |Ao b=>obtain⟨t,e⟩:=(show ∃t,u=Value.bytes b t from r);cases e;rfl
 |Lf b=>obtain⟨t,e⟩:=(show ∃t,u=Value.float b t from r);cases e;rfl
 |ref a=>cases(show u=Value.ref a from r);rfl
 |ty n=>cases(show u=Value.type n from r);rfl
section
variable {P:Program}{w:World}{H H':Hp}{h h':Heap}{a C dx:Addr}{fs yN:List (Str×V)}
theorem nM(b:mj P w H h)(e:H a=some (.ins C dx fs)):∃mA,y9 h a dx C mA/\(∀f,ke (fs.lookup f) (mA f))/\PySem.Within mA (fs.map (·.1))/\fs.length<=1000/\H dx=some (.own a):=by
 obtain⟨d,z,c,f,mA,n,r,q⟩:=(show cW P w H h a (.ins C dx fs) from b a _ e)
 calc⟨mA,⟨f,n,c⟩,r,q,z,d⟩
end
structure vt(K:W.Frag)(C:Addr):Prop where
 pg:W.plainGet K C Str.empty=true
 hd:W.hasDictIn K C=true
 po:W.plainOver K C=true
 sa:W.findIn K (.ref C) "__setattr__"=some (some (.builtin "object.__setattr__"))
theorem vt.get{K:W.Frag}(c:vt K C)(f:Str):W.plainGet K C f=true:=c.pg
def cR(K:W.Frag)(C:Addr)(f:Str):Prop:=W.findIn K (.ref C) f=some none
theorem cR.RT{K:W.Frag}{f:Str}(n:cR K C f):W.takerIn K C f=some none:=by
 unfold W.takerIn;rw[show W.findIn K (.ref C) f=some none from n];rfl
structure Meth(K:W.Frag)(C:Addr)(m:Str)(f:Addr):Prop where
 at_:W.findIn K (.ref C) m=some (some (.ref f))
 fn:W.isFn K (.ref f)=true
 kp:W.keepIn K (.ref f)=true
section
variable {X:Cx}{pins:List (Addr×Obj)}{σ:St}{H:Hp}{s:Shared}{a C dx:Addr}{fs:List (Str×V)}{f:Str}{v:V}{A:Around}{E:Value->Shared->Prop}
theorem za{b:Bool}(I:Inv X pins σ H s)(e:H a=some (.ins C dx fs))(c:vt X.K C)(n:cR X.K C f)(l:fs.lookup f=some v)
  (h:∀u s',Inv X pins σ H s'->RelV v u->Q u s'):wpAny (model X.prog X.w) A (getAttr (.ref a) f b) Q E s:=by
 obtain⟨mA,O,r,_,_,_⟩:=nM I.aW e;obtain⟨u,d,b⟩:=ke.some_of (v:=v) (o:=mA f) (by rw[<-l];calc r f);calc get_map I.j9 O (c.get f) c.hd n d (Cm b) (h u _ (I.tok _) b)
theorem q8{m:Str}{g:Addr}{pl:Sem Bool}{Q:Value×List Value->Shared->Prop}(I:Inv X pins σ H s)(e:H a=some (.ins C dx fs))(c:vt X.K C)(k:Meth X.K C m g)(l:fs.lookup m=none)
  (h:Q (.ref g,[.ref a]) s):wpAny (model X.prog X.w) A (getMethod (.ref a) m pl) Q E s:=by
 obtain⟨mA,O,r,_,_,_⟩:=nM I.aW e;have b:mA m=none:=ke.none_of (by rw[<-l];calc r m);calc Ew I.j9 O (c.get m) k.at_ k.fn b h
theorem zb{y:V}{u:Value}{Q:Unit->Shared->Prop}(I:Inv X pins σ H s)(e:H a=some (.ins C dx fs))(c:vt X.K C)(n:cR X.K C f)(b:fs.length<1000)(k:RelV y u)
  (h:∀s',Inv X pins σ (upd H a (.ins C dx (bo f y fs))) s'->Q ⟨⟩ s'):wpAny (model X.prog X.w) A (setAttr (.ref a) f u) Q E s:=by
 obtain⟨mA,O,r,i,_,j⟩:=nM I.aW e;have b:(fs.map (·.1)).length<=sizeLine:=by rw[List.length_map,sizeLine_eq];lia
 calc Ju I.j9 O c.sa c.po n.RT c.hd i b λg d l=>h _ ?_;have hd:∃o,g.get? dx=some o:=let ⟨o,_,_,b,_⟩:=d.ns;⟨o,b⟩
 calc I.write (x:=a) (e:=dx) (by rw[e];calc aal) (.inr j) (λb q c z=>(l.2 b c).trans z) hd ?_;refine⟨by rw[av O.ne];calc j,?_,O.ne,d.obj,_,d.ns,λg=>?_,λg b=>?_⟩
 ·have:=ku f y fs;lia
 ·show ke ((bo f y fs).lookup g) (if g=f then some u else mA g);rw[bz];by_cases q:g=f
  ·rw[if_pos q,if_pos q];exact k
  ·rw[if_neg q,if_neg q];exact r g
 ·by_cases q:g=f
  ·rw[q];exact(oQ f y fs).1
  ·calc(oQ f y fs).2 g (i g λz=>b ?_);show(if g=f then some u else mA g)=none;rw[if_neg q];calc z
theorem Inv.made(I:Inv X pins σ H s):Inv X pins σ (upd (upd H s.heap.objs.size (.own (s.heap.objs.size+1))) (s.heap.objs.size+1) (.ins C s.heap.objs.size []))
  {s with heap:=(s.heap.push W.emptyDict).push (W.instObj C s.heap.objs.size)}:=by
 have c:(s.heap.push W.emptyDict).get? s.heap.objs.size=some W.emptyDict:=T' s.heap rfl;have d:((s.heap.push W.emptyDict).push (W.instObj C s.heap.objs.size)).get? (s.heap.objs.size+1)=some (W.instObj C s.heap.objs.size):=by
  have:=T' (s.heap.push W.emptyDict) (o:=W.instObj C s.heap.objs.size) rfl;rwa [Heap.size_push]at this
 have f:(s.heap.push W.emptyDict).Ns s.heap.objs.size (λ_=>none):=⟨W.emptyDict,#[],_,c,rfl,(λe b=>absurd b nofun),λ_=>rfl⟩
 have e:=I.laid (a:=s.heap.objs.size) (o:=.own (s.heap.objs.size+1)) (h':=s.heap.push W.emptyDict) (t':=s.toks) (λb u q=>J' _ q) (K' _) ⟨_,c⟩;calc e.laid (a:=s.heap.objs.size+1) (o:=.ins C s.heap.objs.size []) (t':=s.toks) (λb u q=>J' _ q) (Nat.le_of_eq (Heap.size_push _ _)) ?_;have b:s.heap.objs.size≠s.heap.objs.size+1:=V' (Nat.lt_succ_self _);calc⟨by rw[av b,ab],U' _,b,d,λ_=>none,(Heap.Ns1.of_empty f).at λo q=>J' _ q,λ_=>aal,λy b=>absurd rfl b⟩
theorem Jv{prog:Program}{w:World}{env:Env}{e:Expr}{f:Str}{b:Pos}{s:Shared}(c:attributeBase e f env (eval e env)=eval e env)
  (h:wpAny (model prog w) A (eval e env) (λo a=>wpAny (model prog w) A (getAttr o f true) Q E a) E s):wpAny (model prog w) A (eval (.Attribute e f b) env) Q E s:=
 Attribute_any_ h (by rw[arm_eval_Attribute,c])
end
def Jw(K:W.Frag)(a:TE)(f:Str):TE:=λσ H Q=>a σ H λx b=>∃a C d c v,x=.ref a/\b a=some (.ins C d c)/\vt K C/\cR K C f/\c.lookup f=some v/\Q v b
def Nu(K:W.Frag)(a b:TE)(f:Str):TS:=λD σ H=>b σ H λy d=>a σ d λx c=>∃a C d b,x=.ref a/\c a=some (.ins C d b)/\vt K C/\cR K C f/\b.length<1000/\
 D.nx σ (upd c a (.ins C d (bo f y b)))
section
variable {X:Cx}{o e value:Expr}{f:Str}{pos pos' Nv:Pos}{ta tv:TE}
theorem bE(b:PE X e ta)(d:attributeBase e f X.env (eval e X.env)=eval e X.env):PE X (.Attribute e f pos) (Jw X.K ta f):=by
 walk_at "xc";refine Jv d (dy (b pins s σ H _ I h) λu p g=>?_);obtain⟨x,i,j,k,a,C,b,d,v,m,o,c,n,l,q⟩:=g;subst m;obtain rfl:u=Value.ref a:=k;exact za j o c n l λd g a b=>⟨v,i,a,b,q⟩
theorem fF(b:PE X o ta)(d:PE X value tv)(e:swapsWith value (some (.Attribute o f pos')) pos.line X.env=pure false):PS X (.Assign [.Attribute o f pos'] value pos) (Nu X.K ta tv f):=by
 walk_at "xd";refine plainObj_wpAny_Assign_Attribute (dy (d pins s σ H _ I h) λu g ⟨y,i,j,k,q⟩=>dy (b pins g σ i _ j q) λm d p=>?_) e;obtain⟨x,b,r,t,a,C,d,g,v,w,c,n,l,z⟩:=p;subst v;obtain rfl:m=Value.ref a:=t;exact zb r w c n l k λb a=>⟨σ,_,a,z⟩
end
section
variable {X:Cx}{pins:List (Addr×Obj)}{σ:St}{H:Hp}{s:Shared}{A:Around}{E:Value->Shared->Prop}{Q:Value->Shared->Prop}{c:Value}{b:Bool}
inductive gA(K:W.Frag)(H:Hp):V->Value->Prop where
  |bP:gA K H .bP (.type "NoneType")
  |bl (x:Bool):gA K H (.bl x) (.type "bool")
  |int (i:Int):gA K H (.int i) (.type "int")
  |str (x:Str):gA K H (.str x) (.type "str")
  |Lf (x:UInt64):gA K H (.Lf x) (.type "float")
  |lst {a:Addr} {xs:List V} (e:H a=some (.lst xs)):gA K H (.ref a) (.type "list")
  |yM {a:Addr} {o:Obj} {xs:List V} (e:H a=some (.yM o (.lst xs))):gA K H (.ref a) (.type "list")
  |tup {a:Addr} {xs:List V} (e:H a=some (.tup xs)):gA K H (.ref a) (.type "tuple")
  |dK {a:Addr} {bg:List (Key×V)} (e:H a=some (.dK bg)):gA K H (.ref a) (.type "dict")
  |dT {a:Addr} {bg:List (List Key×V)} (e:H a=some (.dT bg)):gA K H (.ref a) (.type "dict")
  | ins {a C dx:Addr} {fs:List (Str×V)} (e:H a=some (.ins C dx fs)) (cl:vt K C) (ha:W.findIn K (.ref C) "__class__"=some (some (.builtin "object.__class__")))
      (hn:W.specialIn K (.builtin "object.__class__") "__get__"=some (some (.builtin "getset_descriptor.__get__"))) (V3:W.takesIn K (.builtin "object.__class__")=some true)
      (hm:W.mroIn K C (.type "object")=some true):gA K H (.ref a) (.ref C)
theorem ur{x:V}{u t:Value}(I:Inv X pins σ H s)(d:RelV x u)(r:gA X.K H x t)(e:W.kitOne X.K t c=some b)(h:∀v,Q (.bool b) {s with toks:=v}):
  wpAny (model X.prog X.w) A (call (.builtin "isinstance") [u,c]) Q E s:=by
 cases r with
 |bP=>cases(show u=Value.none from d);calc W.kia_one W.kitx_none I.j9 aal e (λz=>nomatch z) h
 |bl y=>cases(show u=Value.bool y from d);calc W.kia_one W.kitx_bool I.j9 aal e (λz=>nomatch z) h
 |int i=>obtain⟨t,q⟩:=(show ∃t,u=Value.int i t from d);cases q;calc W.kia_one W.kitx_int I.j9 aal e (λz=>nomatch z) h
 |str y=>obtain⟨t,q⟩:=(show ∃t,u=Value.str y t from d);cases q;calc W.kia_one W.kitx_str I.j9 aal e (λz=>nomatch z) h
 |Lf y=>obtain⟨t,q⟩:=(show ∃t,u=Value.float y t from d);cases q;calc W.kia_one W.kitx_float I.j9 aal e (λz=>nomatch z) h
 | @lst a j f=>
  cases(show u=Value.ref a from d);obtain⟨_,_,n,_,g⟩:=(show cW X.prog X.w H s.heap a (.lst j) from I.aW a _ f)
  calc W.kia_one W.kitx_list I.j9 ⟨_,g,rfl⟩ e (λz=>nomatch z) h
 | @yM a B j f=>
  cases(show u=Value.ref a from d);obtain⟨_,_,_,n,_,g⟩:=(show cW X.prog X.w H s.heap a (.yM B (.lst j)) from I.aW a _ f)
  calc W.kia_one W.kitx_list I.j9 ⟨_,g,rfl⟩ e (λz=>nomatch z) h
 | @tup a j f=>
  cases(show u=Value.ref a from d);obtain⟨_,_,_,p⟩:=(show cW X.prog X.w H s.heap a (.tup j) from I.aW a _ f)
  obtain⟨o,g,k,_⟩:=p;calc W.kia_one W.kitx_tuple I.j9 ⟨o,g,k⟩ e (λz=>nomatch z) h
 | @dK a l f=>
  cases(show u=Value.ref a from d);obtain⟨_,_,i,_,p⟩:=(show cW X.prog X.w H s.heap a (.dK l) from I.aW a _ f)
  obtain⟨o,D,F,g,k,_⟩:=p;calc W.kia_one W.kitx_dict I.j9 ⟨o,g,k.1⟩ e (λz=>nomatch z) h
 | @dT a l f=>
  cases(show u=Value.ref a from d);obtain⟨_,_,j,_,o,D,F,g,k,_⟩:=(show cW X.prog X.w H s.heap a (.dT l) from I.aW a _ f)
  calc W.kia_one W.kitx_dict I.j9 ⟨o,g,k.1⟩ e (λz=>nomatch z) h
 | @ins a C g i f m G L M N=>
  cases(show u=Value.ref a from d);obtain⟨mA,O,_⟩:=nM I.aW f;obtain⟨a,J,_⟩:=O.look;calc W.kia_one (W.kitx_own (m.get _) m.hd G L M N) I.j9 J e (λz=>nomatch z) h
end
end
section
variable {A:Around}{base:Heap}{H:Hp}{kw:List (Str×Value)}{us:List Value}{s:Shared}{mg:Str->Option Value}{K:W.Frag}
structure eU(k:Nat)(A:Around):Prop where
 hd:A.handled=none
 dp:A.depth+3*k+5<recursionLimit
 un:A.units+16*k+200<cLine
theorem eU.mono{j k:Nat}(r:eU k A)(h:j<=k):eU j A:=⟨r.hd,by have:=r.dp;lia,by have:=r.un;lia⟩
theorem eU.deeper{k:Nat}(r:eU (k+1) A)(env:Env):eU k (A.deeper env):=
 ⟨r.hd,by have:=r.dp;show A.depth+1+3*k+5<_;lia,by have:=r.un;show A.units+3+16*k+200<_;lia⟩
theorem zc{C:Addr}:(A.under (.builtin "type.__call__" ⟨.ref C::us,kw⟩)).depth=A.depth+1:=by
 first|rfl|simp[Around.under,Code.weight,Code.isCreation,Code.isGuard,Code.isCaller,Code.frames,Code.isFrame,guardIds]
theorem zd{C:Addr}:(A.under (.builtin "type.__call__" ⟨.ref C::us,kw⟩)).units=A.units+1:=by
 first|rfl|simp[Around.under,Code.cUnits,Code.frames,Code.isFrame]
theorem eU.make{k:Nat}(r:eU (k+1) A)(C:Addr)(us:List Value)(kw:List (Str×Value)):eU k (A.under (.builtin "type.__call__" ⟨.ref C::us,kw⟩)):=
 ⟨r.hd,by have:=r.dp;rw[zc];lia,by have:=r.un;rw[zd];lia⟩
theorem eU.depth{k:Nat}(r:eU k A):A.depth<recursionLimit:=by have:=r.dp;lia
theorem eU.units{k:Nat}(r:eU k A):A.units+64<cLine:=by have:=r.un;lia
def Ey:TA:=λ_ H Q=>Q [] H
def AB(a:TE)(b:TA):TA:=λσ H Q=>a σ H λx c=>b σ c λxs a=>Q (x::xs) a
section
variable {X:Cx}{e:Expr}{es:List Expr}{te:TE}{t:TA}{pos:Pos}
theorem aa:PA X [] Ey:=.mk λ_ _ _ _ H Q I h=>Calls.spliced_nil ⟨[],H,I,.nil,h⟩
theorem Jx(b:PE X e te)(c:PA X es t)(d:starEach (e::es) X.env=(false,eval e X.env)::starEach es X.env:=by rfl):PA X (e::es) (AB te t):=by
 calc⟨?_⟩;intro pos a s σ H Q I h;rw[d];show wpAny _ _ (spliced ((false,eval e X.env)::backTo pos (starEach es X.env))) _ _ s;calc Calls.spliced_cons (dy (b a s σ H _ I h) λu f g=>?_);obtain⟨x,b,d,h,i⟩:=g;calc dy (c pos a f σ b _ d i) λus o ⟨j,k,l,m,n⟩=>⟨x::j,k,l,.cons h m,n⟩
def Nw(t:TA):TE:=λσ H Q=>t σ H λxs a=>xs.length<=sizeLine/\∀p,a p=none->Q (.ref p) (upd a p (.tup xs))
def Nx(t:TA):TE:=λσ H Q=>t σ H λxs a=>xs.length<=sizeLine/\∀p,a p=none->Q (.ref p) (upd a p (.lst xs))
theorem bH{a}(h:PA X es t):PE X (.Tuple es a pos) (Nw t):=by
 calc⟨?_⟩;intro a s σ H Q I f;calc wpAny_Tuple_spliced (dy (h pos a s σ H _ I f) λus c ⟨g,b,d,r,z,q⟩=>⟨by rw[<-r.length];calc z,?_⟩);have a:b c.heap.objs.size=none:=d.aW.fresh (K' _);calc⟨.ref c.heap.objs.size,upd b c.heap.objs.size (.tup g),d.laid (t':=c.toks) (λb u e=>J' _ e) (K' _) ?_,rfl,q _ a⟩;calc⟨z,us,r,⟨_,T' _ rfl,rfl,_,rfl⟩⟩
theorem bL(h:PA X es t):PE X (.List es pos) (Nx t):=by
 calc⟨?_⟩;intro a s σ H Q I f;calc wpAny_List_spliced (dy (h pos a s σ H _ I f) λus c ⟨g,b,d,r,z,q⟩=>⟨by rw[<-r.length];calc z,?_⟩);have a:b c.heap.objs.size=none:=d.aW.fresh (K' _);calc⟨.ref c.heap.objs.size,upd b c.heap.objs.size (.lst g),d.laid (t':=c.toks) (λb u e=>J' _ e) (K' _) ?_,rfl,q _ a⟩;calc⟨z,us,0,r,T' _ rfl⟩
end
abbrev Sp:=List V->Hp->VK->XK->Prop
abbrev IB:=List Env->Hp->Shared->XK->Value->Shared->Prop
structure ze(P:Program)(w:World)(K:W.Frag)(mg:Str->Option Value)(base:Heap)(A:Around)(outer:List Env)(s:Shared)(H:Hp):Prop where
 frames:A.frames=some outer
 mod:Mod K mg base
 bs:∀b o,base.get? b=some o->s.heap.get? b=some o/\H b=none
 D0:base.objs.size<=s.heap.objs.size
 oM:s.heap.FunFrames base outer
 Lh:∀b∈B8 outer,H b=none
 aW:mj P w H s.heap
 bare:AllBare s.gens
def CE(outer:List Env)(P:Program)(w:World)(H:Hp)(s:Shared)(Q:VK)(u:Value)(s':Shared):Prop:=
 ∃v a,s'.os=s.os/\AllBare s'.gens/\Un (B8 outer) [] H a s.heap s'.heap/\mj P w a s'.heap/\RelV v u/\Q v a
def CR(CX:IB)(outer:List Env)(P:Program)(w:World)(H:Hp)(s:Shared)(Q:VK)(E:XK)(r:Result)(s':Shared):Prop:=
 match r with
 | .ok (.ret u)=>CE outer P w H s Q u s'
 | .ok _=>False
 | .error e=>CX outer H s E e s'
structure lU(P:Program)(w:World)(K:W.Frag)(mg:Str->Option Value)(base:Heap)(CX:IB)(k:Nat)(f:Addr)(fd:FuncData)(ps:List Str)(sp:Sp):Prop where
 len:∀vs H Q E,sp vs H Q E->vs.length=ps.length
 run:∀(A:Around) (outer:List Env) (s:Shared) (H:Hp) (args:Args) (us:List Value) (vs:List V) (Q:VK) (E:XK),eU k A->ze P w K mg base A outer s H->BindsTo s fd args (ps.zip us)->Vals vs us->sp vs H Q E->
  codeAny (model P w) A (.call (.ref f) args) (CR CX outer P w H s Q E) s
theorem ze.make{P:Program}{w:World}{outer:List Env}(e:ze P w K mg base A outer s H)(C:Addr)(us:List Value)(kw:List (Str×Value)):
  ze P w K mg base (A.under (.builtin "type.__call__" ⟨.ref C::us,kw⟩)) outer s H:=⟨by first|exact e.frames|(simpa[Around.under,Code.envs,Code.isFrame,pushEnvs] using e.frames),e.mod,e.bs,e.D0,e.oM,e.Lh,e.aW,e.bare⟩
section
variable {X:Cx}{pins:List (Addr×Obj)}{σ:St}{H:Hp}{s s':Shared}
theorem Inv.RU(I:Inv X pins σ H s):ze X.prog X.w X.K X.mg X.base X.A X.stack s H:=
 ⟨I.ok.frames,I.ok.mod,I.bs,Y' I.ok.D0 I.sz,I.stack,I.Ap,I.aW,I.bare⟩
theorem Inv.after{Q:VK}{u:Value}(I:Inv X pins σ H s)(h:CE X.stack X.prog X.w H s Q u s'):EP X pins σ Q u s':=by
 obtain⟨v,c,os,a,e,f,r,q⟩:=h;obtain⟨i,g,d,t,b⟩:=s';obtain rfl:b=s.os:=os;calc⟨v,c,I.call (h':=i) (g':=g) (d':=d) (t':=t) (ch:=[]) e f a (λb z=>absurd z nofun),r,q⟩
end
def xa(sp:Sp)(a:List V)(E:XK)(t:TA):TE:=λσ H Q=>t σ H λvs b=>sp (vs++a) b Q E
def uu(C:Addr)(m:Str)(sp:Sp)(d:List V)(E:XK)(a:TE)(t:TA):TE:=λσ H Q=>a σ H λx b=>∃a e c,x=.ref a/\b a=some (.ins C e c)/\c.lookup m=none/\
 t σ b λvs a=>sp (x::(vs++d)) a Q E
def AD(C:Addr)(sp:Sp)(c:List V)(E:XK)(t:TA):TE:=λσ H Q=>t σ H λvs b=>∀x a,b x=none->b a=none->a≠x->
 sp (.ref x::(vs++c)) (upd (upd b a (.own x)) x (.ins C a [])) (λv d=>v=.bP/\Q (.ref x) d) E
def Binds(K:W.Frag)(c:FuncData)(a:List Str)(b:List Value):Prop:=
 ∀(s:Shared) (us:List Value),K.In s.heap->(us++b).length=a.length->BindsTo s c ⟨us,[]⟩ (a.zip (us++b))
theorem Binds.all{b:FuncData}{a:List Str}(h:∀us:List Value,us.length=a.length->bindArgs b ⟨us,[]⟩=pure (a.zip us)):Binds K b a []:=λs us _ a=>by
 rw[List.append_nil]at a ⊢;calc .of_eq (h us a)
def Passes(CX:IB)(X:Cx)(E:XK):Prop:=∀(pins:List (Addr×Obj)) (σ:St) (H:Hp) (s:Shared) (e:Value) (s':Shared),Inv X pins σ H s->CX X.stack H s E e s'->X.xe e s'
section
variable {X:Cx}{CX:IB}{k:Nat}{f C:Addr}{fd:FuncData}{ps:List Str}{sp:Sp}{tJ:List V}{ds:List Value}{E:XK}{x m:Str}{p pos apos:Pos}{e o:Expr}{es:List Expr}{ta:TE}{t:TA}
theorem zf{pins:List (Addr×Obj)}{σ:St}{H:Hp}{s:Shared}{Q:VK}{us:List Value}{vs:List V}(F:lU X.prog X.w X.K X.mg X.base CX k f fd ps sp)(c:eU k X.A)(d:Binds X.K fd ps ds)(g:Vals tJ ds)(i:Passes CX X E)
  (I:Inv X pins σ H s) (r:Vals vs us) (h:sp (vs++tJ) H Q E):wpAny (model X.prog X.w) X.A (call (.ref f) us) (EP X pins σ Q) X.xe s:=by
 have b:Vals (vs++tJ) (us++ds):=r.append g;have j:(us++ds).length=ps.length:=by rw[<-b.length];exact F.len _ _ _ _ h
 refine wpAny_call (codeAny_mono (F.run X.A X.stack s H ⟨us,[]⟩ (us++ds) (vs++tJ) Q E c I.RU (d s us I.j9 j) b h) λr l a=>?_)
 cases r with
 |error e=>calc i pins σ H s e l I a
 |ok m=>
  cases m with
  |ret u=>calc I.after a
  |next=>calc aas a
  |brk=>calc aas a
  |cont=>calc aas a
theorem Jy(F:lU X.prog X.w X.K X.mg X.base CX k f fd ps sp)(b:eU k X.A)(a:Gl X x)(c:X.mg x=some (.ref f))(d:W.keepIn X.K (.ref f)=true)(g:Binds X.K fd ps ds)(i:Vals tJ ds)(j:Passes CX X E)
  (l:PA X (e::es) t) (m:(x==("__debug__":Str))=false:=by decide) (n:starEach (e::es) X.env=(false,eval e X.env)::starEach es X.env:=by rfl) (o:(backTo pos (starEach es X.env)).any (·.1)=false:=by rfl):
  PE X (.Call (.Name x p) (e::es) [] pos) (xa sp tJ E t):=by
 walk_at "xc";refine wpAny_Call_Name_kw (qI I a c ?_ m);refine W.callWith_K (h₀:=X.base) I.ok.mod.Qo d (dy (l pos pins s σ H _ I h) λus c ⟨m,u,a,r,q⟩=>⟨a.j9,?_⟩) n o;exact zf F b g i j a r q
theorem Jz{pl:Sem Bool}(i:PE X o ta)(c:vt X.K C)(b:Meth X.K C m f)(F:lU X.prog X.w X.K X.mg X.base CX k f fd ps sp)(j:eU k X.A)(n:Binds X.K fd ps ds)(p:Vals tJ ds)(v:Passes CX X E)(y:PA X (e::es) t)
  (z:starEach (e::es) X.env=(false,eval e X.env)::starEach es X.env:=by rfl) (B:(backTo pos (starEach es X.env)).any (·.1)=false:=by rfl)
  (r:eval (.Call (.Attribute o m apos) (e::es) [] pos) X.env=(do
   let d <-eval o X.env
   standAt apos.atName
   let (f,first) <-holding [d] (getMethod d m pl)
   callWith pos f first (backTo pos (starEach (e::es) X.env)) (backToKw pos (keywordEach [] X.env))):=by rfl):
  PE X (.Call (.Attribute o m apos) (e::es) [] pos) (uu C m sp tJ E ta t):=by
 walk_at "xc";refine W.methodCall_KW (pl:=pl) (dy (i pins s σ H _ I h) λu D G=>?_) r;obtain⟨x,J,g,L,a,d,i,M,N,l,q⟩:=G;subst M;obtain rfl:u=Value.ref a:=L;refine q8 g N c b l ?_;refine W.callWith_K (first:=[.ref a]) (h₀:=X.base) I.ok.mod.Qo b.kp (dy (y pos pins D σ J _ g q) λus l ⟨c,u,d,r,i⟩=>⟨d.j9,?_⟩) z B;exact zf (us:=.ref a::us) (vs:=.ref a::c) F j n p v d (.cons rfl r) i
theorem Ez{pl:Sem Bool}(g:PE X o ta)(c:vt X.K C)(d:Meth X.K C m f)(F:lU X.prog X.w X.K X.mg X.base CX k f fd ps sp)(i:eU k X.A)(j:Binds X.K fd ps ds)(n:Vals tJ ds)(p:Passes CX X E)
  (r:eval (.Call (.Attribute o m apos) [] [] pos) X.env=(do
   let e <-eval o X.env
   standAt apos.atName
   let (f,first) <-holding [e] (getMethod e m pl)
   callWith pos f first (backTo pos (starEach [] X.env)) (backToKw pos (keywordEach [] X.env))):=by rfl):
  PE X (.Call (.Attribute o m apos) [] [] pos) (uu C m sp tJ E ta Ey):=by
 walk_at "xc";refine W.methodCall_KW (pl:=pl) (dy (g pins s σ H _ I h) λu e t=>?_) r;obtain⟨x,e,b,v,a,g,B,y,z,l,q⟩:=t;subst y;obtain rfl:u=Value.ref a:=v;refine q8 b z c d l ?_;exact W.callWith_K0 (first:=[.ref a]) b.j9 d.kp (zf (us:=[.ref a]) (vs:=[.ref a]) F i j n p b (.cons rfl .nil) q)
structure Mk(K:W.Frag)(C f:Addr):Prop where
 makes:W.makesIn K C=true
 init:W.findIn K (.ref C) "__init__"=some (some (.ref f))
 fn:W.isFn K (.ref f)=true
 kp:W.keepIn K (.ref C)=true
theorem EA{pins:List (Addr×Obj)}{σ:St}{Q:VK}{vs:List V}(M:Mk X.K C f)(F:lU X.prog X.w X.K X.mg X.base CX k f fd ps sp)(hr:eU (k+1) X.A)(g:Binds X.K fd ps ds)(i:Vals tJ ds)
  (j:Passes CX X E) (I:Inv X pins σ H s) (r:Vals vs us)
  (h:∀x b,H x=none->H b=none->b≠x->sp (.ref x::(vs++tJ)) (upd (upd H b (.own x)) x (.ins C b [])) (λv d=>v=.bP/\Q (.ref x) d) E):
  wpAny (model X.prog X.w) X.A (call (.ref C) us) (EP X pins σ Q) X.xe s:=by
 have b:=h (s.heap.objs.size+1) s.heap.objs.size (I.aW.fresh (Nat.le_succ _)) (I.aW.fresh (K' _)) (V' (Nat.lt_succ_self _));have c:=Inv.made (C:=C) I;have d:Vals (V.ref (s.heap.objs.size+1)::(vs++tJ)) (Value.ref (s.heap.objs.size+1)::(us++ds)):=.cons rfl (r.append i);have l:(Value.ref (s.heap.objs.size+1)::us++ds).length=ps.length:=by
  have e:=d.length;rw[F.len _ _ _ _ b]at e;exact e.symm
 refine wpAny_call (Ex (f:=f) I.j9 M.makes M.init (beq_iff_eq.mp M.fn) (codeAny_mono (F.run _ X.stack _ _ ⟨Value.ref (s.heap.objs.size + 1)::us,[]⟩ (Value.ref (s.heap.objs.size + 1)::(us++ds)) _ _ E (hr.make C us [])
  (c.RU.make C us []) (g _ (Value.ref (s.heap.objs.size + 1)::us) c.j9 l) d b) λr m a=>?_))
 cases r with
 |error e=>calc j pins σ _ _ e m c a
 |ok n=>
  cases n with
  |ret u=>
   obtain⟨v,o,p,q,t,y⟩:=c.after a;subst t;calc⟨q,⟨V.ref (s.heap.objs.size+1),o,p,rfl,y⟩⟩
  |next=>calc aas a
  |brk=>calc aas a
  |cont=>calc aas a
theorem JA(M:Mk X.K C f)(F:lU X.prog X.w X.K X.mg X.base CX k f fd ps sp)(b:eU (k+1) X.A)(a:Gl X x)(c:X.mg x=some (.ref C))(d:Binds X.K fd ps ds)(g:Vals tJ ds)(i:Passes CX X E)
  (j:PA X (e::es) t) (l:(x==("__debug__":Str))=false:=by decide) (m:starEach (e::es) X.env=(false,eval e X.env)::starEach es X.env:=by rfl) (n:(backTo pos (starEach es X.env)).any (·.1)=false:=by rfl):
  PE X (.Call (.Name x p) (e::es) [] pos) (AD C sp tJ E t):=by
 walk_at "xc";refine wpAny_Call_Name_kw (qI I a c ?_ l);refine W.callWith_K (h₀:=X.base) I.ok.mod.Qo M.kp (dy (j pos pins s σ H _ I h) λus c ⟨l,o,a,r,q⟩=>⟨a.j9,?_⟩) m n;exact EA M F b d g i a r q
end
structure aC(N P:List Str)(sc:Scope):Prop where
 kind:sc.kind=.function
 co:sc.isCoroutine=false
 gen:sc.isGenerator=false
 nd:N.Nodup
 pre:N.take P.length=P
 par:∀x∈P,sc.names.lookup x=some .local\/sc.names.lookup x=some .cell
 Ny:∀y∈sc.names,y.2≠.free
theorem uv{b:Str->Option NameKind}{x:Str}:∀{a:List (Str×Value)}{m:Str->Option Value},(∀v,(x,v)∉a)->bindL b a m x=m x
 | [],_,_=>rfl
 |(n,v)::r,m,h=>by
  unfold bindL;rw[uv λw c=>h w (List.mem_cons_of_mem _ c)];split
  ·have:x≠n:=by rintro rfl;exact h v aaj
   simp[this]
  ·rfl
theorem uw{b:Str->Option NameKind}{x:Str}:∀{a:List (Str×Value)}{m:Str->Option Value},(∀v,(x,v)∉a)->bindC b a m x=m x
 | [],_,_=>rfl
 |(n,v)::r,m,h=>by
  unfold bindC;rw[uw λw c=>h w (List.mem_cons_of_mem _ c)];split
  ·rfl
  ·have:x≠n:=by rintro rfl;exact h v aaj
   simp[this]
theorem ux{a:Str->Option NameKind}{x:Str}{v:Value}:∀{P:List Str}{vs:List Value}{i:Nat}{m:Str->Option Value},P.Nodup->P[i]?=some x->vs[i]?=some v->a x=some .local->
  bindL a (P.zip vs) m x=some v
 | [],_,_,_,_,h,_,_=>by simp at h
 |_::_,[],_,_,_,_,h,_=>by simp at h
 |p::P,w::vs,0,m,d,b,c,e=>by
  simp at b c;subst b;subst c;show bindL a ((p,w)::P.zip vs) m p=_;unfold bindL;rw[uv λv f=>(List.nodup_cons.mp d).1 (List.of_mem_zip f).1,if_pos e];simp
 |p::P,w::vs,i+1,m,d,b,c,e=>by
  show bindL a ((p,w)::P.zip vs) m x=_;unfold bindL;calc ux (i:=i) (List.nodup_cons.mp d).2 (by simpa using b) (by simpa using c) e
theorem uy{a:Str->Option NameKind}{x:Str}{v:Value}:∀{P:List Str}{vs:List Value}{i:Nat}{m:Str->Option Value},P.Nodup->P[i]?=some x->vs[i]?=some v->a x≠some .local->
  bindC a (P.zip vs) m x=some v
 | [],_,_,_,_,h,_,_=>by simp at h
 |_::_,[],_,_,_,_,h,_=>by simp at h
 |p::P,w::vs,0,m,d,b,c,e=>by
  simp at b c;subst b;subst c;show bindC a ((p,w)::P.zip vs) m p=_;unfold bindC;rw[uw λv f=>(List.nodup_cons.mp d).1 (List.of_mem_zip f).1,if_neg e];simp
 |p::P,w::vs,i+1,m,d,b,c,e=>by
  show bindC a ((p,w)::P.zip vs) m x=_;unfold bindC;calc uy (i:=i) (List.nodup_cons.mp d).2 (by simpa using b) (by simpa using c) e
def start(N:List Str)(vs:List V):St:=vs.map some++List.replicate (N.length-vs.length) none
def q9(CX:IB)(P:Program)(w:World)(K:W.Frag)(mg:Str->Option Value)(base:Heap)(N:List Str)(a:Str)(scope:Scope)(f:Addr)(b:Value)(A:Around)(outer:List Env)(s:Shared)(H:Hp)(E:XK):Cx where
 prog:=P
 w:=w
 K:=K
 mg:=mg
 base:=base
 A:=A.deeper (envOfC a scope s.heap.objs.size f b)
 N:=N
 s₀:=s
 H₀:=H
 env:=envOfC a scope s.heap.objs.size f b
 outer:=outer
 stack:=envOfC a scope s.heap.objs.size f b::outer
 ex:=[]
 calm:=true
 fn:=λ_=>true
 pn:=[]
 xe:=λe s'=>wpAny (model P w) (A.deeper (envOfC a scope s.heap.objs.size f b)) (leaving (envOfC a scope s.heap.objs.size f b) e) (λ_ c=>CX outer H s E e c) (λa c=>CX outer H s E a c) s'
theorem xb{a:Scope}{n:Nat}{x:Str}(h:a.names.lookup x=some .cell):∃c,(cellsFrom n a.names []).lookup x=some c:=by
 have q:=W.cellsFrom_some a.names n [] (.inl h);calc Option.isSome_iff_exists.mp q
theorem Cn{CX:IB}{P:Program}{w:World}{N j:List Str}{a:Str}{scope:Scope}{f:Addr}{o:Value}{outer:List Env}{b:Shared}{E:XK}{vs:List V}
  (S:aC N j scope) (D:A.handled=none) (g:ze P w K mg base A outer s H) (p:vs.length=j.length) (r:Vals vs us)
  (x:InCallC s s.heap.objs.size (bindL (envOfC a scope s.heap.objs.size f o).kindOf (j.zip us) λ_=>none) (cellsFrom (s.heap.objs.size+1) scope.names []) (bindC (envOfC a scope s.heap.objs.size f o).kindOf (j.zip us) λ_=>none) b):
  Inv (q9 CX P w K mg base N a scope f o A outer s H E) [] (start N vs) H b:=by
 have b:j.length<=N.length:=by have:=congrArg List.length S.pre;rw[List.length_take]at this;lia
 obtain⟨q,z,rfl,B⟩:=x.done;have p:∀b:Addr,b ∉ (q9 CX P w K mg base N a scope f o A outer s H E).ex:=λb z=>absurd (show b ∈ ([]:List Addr) from z) nofun;refine⟨⟨g.mod,S.kind,rfl,rfl,K' _,λy z c q d=>?_,λy k=>?_,λy c _ h=>?_,λ_=>D,Around.frames_deeper g.frames,.inr ⟨rfl,rfl⟩,λb z=>absurd z (p b),g.bs,g.D0,λb _ _=>p b,λb z=>absurd z (p b),g.oM,g.Lh⟩,
  rfl,g.bare,Un.kept B,⟨_,x.toInCall.ns,λi y v q d a=>?_⟩,λy c h=>⟨_,x.cell y c h⟩,g.aW.fresh (K' _),λy c h=>?_,λp l=>absurd (show p ∈ ([]:List (Addr×Obj)) from l) nofun,g.aW.kept B,?_⟩
 ·exact name_of_addr x.apart (aay q) (aay d)
 ·have k:scope.names.lookup y=some .cell\/scope.names.lookup y=some .free:=k;rcases k with k | k
  ·exact xb k
  ·exact absurd rfl (S.Ny _ (aay k))
 ·exact E' (x.above y c (aay h))
 ·have t:i<vs.length:=by
   unfold start at d;by_cases t:i<vs.length
   ·exact t
   ·rw[List.getElem?_append_right (by simpa using t)]at d;rw[List.getElem?_replicate]at d;split at d<;>cases d
  have F:vs[i]?=some v:=by
   unfold start at d;rw[List.getElem?_append_left (by simpa using t),List.getElem?_map]at d
   cases e:vs[i]? with
   |none=>rw[e]at d;cases d
   |some a=>rw[e]at d;cases d;rfl
  obtain⟨u,C,G⟩:=r.get F;have l:j[i]?=some y:=by
   rw[<-S.pre,List.getElem?_take_of_lt ()];exact q
  have m:j.Nodup:=by rw[<-S.pre];exact S.nd.sublist (List.take_sublist _ _)
  calc⟨u,G,?_⟩;rcases S.par y (aaa l) with k|k
  ·exact .inl ⟨k,ux m l C k⟩
  ·obtain⟨c,e⟩:=xb (n:=s.heap.objs.size+1) k;calc .inr ⟨.inl k,c,e,?_⟩;have q:=x.cell y c e;rw[uy m l C (by show scope.names.lookup y≠_;rw[k];decide)]at q;exact q
 ·exact g.aW.fresh (E' (x.above y c (aay h)))
 ·unfold start;show _=N.length;rw[List.length_append,List.length_map,List.length_replicate];lia
theorem RX{CX:IB}{P:Program}{w:World}{k:Nat}{f:Addr}{name a:Str}{b:Arguments}{c:List Stmt}{scope:Scope}{o kV j y h ct l:Value}{F M:Option Addr}
  {O:Array (Option Value)} {N z:List Str} {sp:Sp} (R:K.lookup f=some ⟨l,M,.func (W.fnOf name a b c scope o kV j y F h ct),O⟩) (T:W.codeIn K h a=true) (S:aC N z scope)
  (l:∀vs H Q E,sp vs H Q E->vs.length=z.length)
  (U:∀(A:Around) (outer:List Env) (s:Shared) (H:Hp) (vs:List V) (Q:VK) (E:XK),eU k (A.deeper (envOfC a scope s.heap.objs.size f h))->sp vs H Q E->
   ∃t,wG (q9 CX P w K mg base N a scope f h A outer s H E) c t/\t {nx:=λ_ g=>Q .bP g,rt:=Q} (start N vs) H):
  lU P w K mg base CX (k+1) f (W.fnOf name a b c scope o kV j y F h ct) z sp:=by
 calc⟨l,λA outer s H b us vs Q E B m X r G=>?_⟩;have Y:=l _ _ _ _ G;have I:K.In s.heap:=m.mod.Qo.keeps λb o e=>(m.bs b o e).1;have C:s.heap.NoLimit:=m.mod.nolimit.keeps λb o e=>(m.bs b o e).1;have Z:∀y∈z.zip us,scope.names.lookup y.1=some .local\/(scope.names.lookup y.1=some .cell/\((cellsFrom (s.heap.objs.size+1) scope.names []).lookup y.1).isSome=true):=λ⟨n,v⟩ hy=>by
  rcases S.par n (List.of_mem_zip hy).1 with q|q
  ·exact .inl q
  ·exact .inr ⟨q,W.cellsFrom_some _ _ _ (.inl q)⟩
 calc codeAny_call_function B.depth (I _ _ R) rfl S.co S.gen rfl (W.codeRec_of I T) (X _ _ _ _ ?_);calc wpAny_newFunctionEnv_cells S.kind Z λb he L x=>?_;subst he;calc⟨C.keeps x.toInCall.keep,codeAny_func ?_⟩;obtain⟨t,c,j⟩:=U A outer s H vs Q E (B.deeper _) G;have I:Inv (q9 CX P w K mg base N a scope f h A outer s H E) [] (start N vs) H L:=Cn S B.hd m Y r x;calc aaw (c [] L (start N vs) H _ I j) (λfl b i=>?_) λe b i=>i;have p:∀{d:St} {g:Hp} {v:V} {u:Value},Inv (q9 CX P w K mg base N a scope f h A outer s H E) [] d g b->RelV v u->Q v g->CE outer P w H s Q u b:=
  λ{d g v u} J D q=>⟨v,g,J.os,J.bare,J.base,J.aW,D,q⟩
 cases fl with
 |ret u=>
  obtain⟨v,d,g,J,D,q⟩:=i;calc p J D q
 |next=>
  obtain⟨d,g,J,q⟩:=i;calc p (v:=V.bP) (u:=Value.none) J rfl q
 |brk=>
  obtain⟨_,_,_,q⟩:=i;calc aas q
 |cont=>
  obtain⟨_,_,_,q⟩:=i;calc aas q
end
section
section
variable {X:Cx}{x:Str}{p pos:Pos}{e:Expr}{es:List Expr}{t:TA}{id T:String}{r:List V->Hp->VK->Prop}
def Qr(r:List V->Hp->VK->Prop)(t:TA):TE:=λσ H Q=>t σ H λvs a=>r vs a Q
theorem EB(a:ee X (.builtin id) r)(b:Gl X x)(c:X.mg x=none)(d:bootBuiltins x=some (.builtin id))(f:PA X (e::es) t)(g:x≠"__name__":=by decide)(i:(x==("__debug__":Str))=false:=by decide)
  (j:starEach (e::es) X.env=(false,eval e X.env)::starEach es X.env:=by rfl) (k:(backTo pos (starEach es X.env)).any (·.1)=false:=by rfl):PE X (.Call (.Name x p) (e::es) [] pos) (Qr r t):=by
 walk_at "xc";refine wpAny_Call_Name_kw (oN I b c d ?_ g i);exact PyProof.Rows.callWith_builtin1 (dy (f pos pins s σ H _ I h) λl m ⟨n,o,q,u,v⟩=>a pins m σ o n l Q q u v) j k
theorem Co(a:ee X (.type T) r)(b:Gl X x)(c:X.mg x=none)(d:bootBuiltins x=some (.type T))(f:PA X (e::es) t)(g:x≠"__name__":=by decide)(i:(x==("__debug__":Str))=false:=by decide)
  (j:starEach (e::es) X.env=(false,eval e X.env)::starEach es X.env:=by rfl) (k:(backTo pos (starEach es X.env)).any (·.1)=false:=by rfl):PE X (.Call (.Name x p) (e::es) [] pos) (Qr r t):=by
 walk_at "xc";refine wpAny_Call_Name_kw (oN I b c d ?_ g i);exact PyProof.Rows.callWith_type1 (dy (f pos pins s σ H _ I h) λl m ⟨n,o,q,u,v⟩=>a pins m σ o n l Q q u v) j k
end
end
end L2
namespace HT
open PySem PyProof.Rows
variable {Q:Value->Shared->Prop}
section
open PySem.SeqAt
open PySem.AutoSeq1 (wpAny_loadPart')
open PySem.MeetsSeq PySem.MeetsSeq2 PySem.MeetsSeq3
end
section
variable {prog:Program}{w:World}{A:Around}{E:Value->Shared->Prop}{s:Shared}
theorem JB{t b:Addr}{vs ws:List Value}(p:IsTup s.heap t vs.toArray)(q:IsTup s.heap b ws.toArray)(f:vs≠[])
  (r:ws=[]->Q (.ref t) s) (u:ws≠[]->Q (.ref s.heap.objs.size) {s with heap:=s.heap.push {cls:=.type "tuple",data:=.seq (vs++ws).toArray}})
  (hsz:vs.length+ws.length<=sizeLine):wpAny (model prog w) A (binaryOp .Add (.ref t) (.ref b)) Q E s:=by
 obtain⟨⟨cls,g,data,h⟩,c,i,n,j⟩:=id p;obtain⟨⟨v,k,e,l⟩,d,m,o,a⟩:=id q;simp only at i j m a;subst i j m a;have e:vs.toArray++ws.toArray=(vs++ws).toArray:=by simp
 by_cases a:ws=[]
 ·exact concat_meets ⟨_,c,rfl⟩ ⟨_,d,rfl⟩ noFill_tuple_add seq_tuple_add PySem.F.slot_tuple_add PySem.F.entry_tuple_add (PySem.F.args_tuple_add_2 _ _)
   (tuple_addW1 t b vs.toArray ws.toArray n o g k h l (by simpa using f) (by simp[a])) ⟨c,d,r a⟩
 ·refine concat_meets ⟨_,c,rfl⟩ ⟨_,d,rfl⟩ noFill_tuple_add seq_tuple_add PySem.F.slot_tuple_add PySem.F.entry_tuple_add (PySem.F.args_tuple_add_2 _ _)
   (tuple_addW2 t b vs.toArray ws.toArray n o g k h l (by simpa using f) (by simpa using a) (by rw[List.size_toArray,List.size_toArray];calc hsz)) ⟨c,d,?_⟩
  rw[e];calc u a
def ei(n d:Nat):Option Int->Nat
 |none=>d
 |some v=>if v<0 then(v+(n:Int)).toNat else min v.toNat n
theorem AF(n d k:Nat):ei n d (some (k:Int))=min k n:=by
 show(if (k:Int)<0 then((k:Int)+(n:Int)).toNat else min (k:Int).toNat n)=min k n;rw[if_neg (),Int.toNat_natCast]
theorem NA(n d:Nat)(a:d<=n)(o:Option Int):ei n d o<=n:=by
 cases o with
 |none=>calc a
 |some v=>
  show(if v<0 then(v+(n:Int)).toNat else min v.toNat n)<=n;by_cases a:v<0
  ·rw[if_pos a];lia
  ·rw[if_neg a];calc Nat.min_le_right _ _
theorem AG(v:Int)(n d:Nat):(if v<0 then max (v+(n:Int)) 0 else min v (n:Int))=((ei n d (some v):Nat):Int):=by
 show(if v<0 then max (v+(n:Int)) 0 else min v (n:Int))=(((if v<0 then(v+(n:Int)).toNat else min v.toNat n):Nat):Int)
 by_cases a:v<0
 ·simp only[if_pos a];lia
 ·simp only[if_neg a];lia
theorem zg(a b:Option Int)(n:Nat):Builtin.Slice.sliceAdjust a b 1 (n:Int)=(((ei n 0 a:Nat):Int),((ei n n b:Nat):Int)):=by
 have c:¬((1:Int)<0):=by lia
 unfold Builtin.Slice.sliceAdjust;simp only[c,if_false];refine Prod.ext ?_ ?_
 ·cases a with
  |none=>rfl
  |some v=>exact AG v n 0
 ·cases b with
  |none=>rfl
  |some v=>calc AG v n n
theorem zh(i j:Nat):Builtin.Slice.slicePlaces (i:Int) (j:Int) 1=j-i:=by
 unfold Builtin.Slice.slicePlaces;have a:(1:Int) > 0:=by lia
 simp only[a,if_true,Int.ediv_one];split<;>lia
theorem rf{v:Value}{o:Option Int}{Q:Option Int->Shared->Prop}(p:IsPart v o)(h:Q o s):wpAny (model prog w) A (Builtin.Slice.slicePartIndex v) Q E s:=by
 cases p with
 |none=>calc slicePart_none h
 |int i t=>calc slicePart_int h
theorem jB{e:Addr}{c d:Value}{a b:Option Int}{n:Nat}{Q:Int×Int×Nat->Shared->Prop}(g:s.heap.IsSliceOf e c d .none)(pl:IsPart c a)(i:IsPart d b)
  (h:Q (((ei n 0 a:Nat):Int),1,ei n n b-ei n 0 a) s):wpAny (model prog w) A (Builtin.Slice.sliceApplied (.ref e) (pure (n:Int))) Q E s:=by
 obtain⟨j,e,k,f⟩:=id g;unfold Builtin.Slice.sliceApplied Builtin.Slice.sliceFields;calc A' (A' (aaq e f (x:=c) rfl (A' (aaq e f (x:=d) rfl (A' (aaq e f (x:=.none) rfl (M' ?_)))))));calc A' (slicePart_none ?_);show wpAny _ _ (if ((1:Int)==0)=true then _ else _) _ _ s;rw[if_neg ∅];calc A' (rf pl (A' (rf i (A' (M' ?_)))));show wpAny _ _ (match Builtin.Slice.sliceAdjust a b 1 (n:Int) with|(a,b)=>pure (a,(1:Int),Builtin.Slice.slicePlaces a b 1)) _ _ s;rw[zg a b n];show wpAny _ _ (pure (((ei n 0 a:Nat):Int),(1:Int),Builtin.Slice.slicePlaces ((ei n 0 a:Nat):Int) ((ei n n b:Nat):Int) 1)) _ _ s;rw[zh];calc M' h
theorem EC(xs:Array Value)(i k:Nat):((List.range k).filterMap λ(m:Nat)=>xs[((i:Int)+(m:Int)*1).toNat]?).toArray=((xs.toList.drop i).take k).toArray:=by
 have e:(λ(m:Nat)=>xs[((i:Int)+(m:Int)*1).toNat]?)=λm=>xs[i+m]?:=by
  funext m;have:((i:Int)+(m:Int)*1).toNat=i+m:=by lia
  rw[this]
 rw[e];have:=pick_run xs i k;rw[List.filterMap_map]at this;have a:((λx=>xs[x]?) ∘ λx=>i+x)=λm=>xs[i+m]?:=rfl;rw[a]at this;rw[this]
theorem nO{t f:Addr}{a:Array Value}{e g:Value}{b c:Option Int}(d:IsTup s.heap t a)(i:s.heap.IsSliceOf f e g .none)(pl:IsPart e b)(j:IsPart g c)
  (g:¬(ei a.size 0 b=0/\ei a.size a.size c=a.size))
  (h:Q (.ref s.heap.objs.size) {s with heap:=s.heap.push {cls:=.type "tuple",data:=.seq ((a.toList.drop (ei a.size 0 b)).take (ei a.size a.size c-ei a.size 0 b)).toArray}})
  (hsz:a.size<=sizeLine):wpAny (model prog w) A (getItem (.ref t) (.ref f)) Q E s:=by
 have e:sizeOk (.seq ((a.toList.drop (ei a.size 0 b)).take (ei a.size a.size c-ei a.size 0 b)).toArray):=by
  show((a.toList.drop (ei a.size 0 b)).take (ei a.size a.size c-ei a.size 0 b)).toArray.size<=sizeLine;rw[List.size_toArray,List.length_take,List.length_drop,Array.length_toList];lia
 have k:ei a.size a.size c<=a.size:=NA _ _ (K' _) c;obtain⟨k,l,n,o⟩:=id i;have o:s.TypeIs (.ref f) "slice":=⟨k,l,n⟩
 unfold getItem
 try with_reducible refine wpAny_holding ?_
 first|calc A' (M' ?_)|skip
 calc A' (wpAny_sequenceKey d.typeIs ∅ ?_);refine A' (aax (name:=Str.ofString "__getitem__") d.typeIs aaC
  (wpAny_call_entry aaC d.typeIs entry_tuple_getitem ?_ (args_tuple_getitem _ _)))
 show wpAny _ _ (Builtin.Tuple.tupleItemsOf (.ref t) >>= _) _ _ s;calc A' (tupleItemsOf_ d ?_);calc A' (wpAny_typeOf o ?_);rw[if_pos ∅];calc A' (jB i pl j ?_);have f:¬((((ei a.size 0 b:Nat):Int)==0&&(1:Int)==1&&(ei a.size a.size c-ei a.size 0 b)==a.size)=true):=by
  intro q;rw[Bool.and_eq_true,Bool.and_eq_true]at q;have d:((ei a.size 0 b:Nat):Int)=0:=eq_of_beq q.1.1;have d:ei a.size a.size c-ei a.size 0 b=a.size:=eq_of_beq q.2;exact g ⟨(),()⟩
 show wpAny _ _ (if (((ei a.size 0 b:Nat):Int)==0&&(1:Int)==1&&(ei a.size a.size c-ei a.size 0 b)==a.size)=true then _ else _) _ _ s;rw[if_neg f,EC]
 first
  |calc A' (m:=Builtin.Tuple.tupleExact _) (aaF (M' ⟨_,rfl,M' h⟩) e)
  |calc A' (m:=Builtin.Tuple.tupleExact _) (aaF (A' (M' (M' ⟨_,rfl,M' h⟩))) e)
  |calc A' (A' (m:=Builtin.Tuple.tupleExact _) (aaF (M' (M' ⟨_,rfl,M' h⟩)) e))
  |calc A' (A' (m:=Builtin.Tuple.tupleExact _) (aaF (M' ⟨_,rfl,M' h⟩) e))
end
end HT
namespace L2
open PySem PySem.Spec PyProof.Rows
section
abbrev TO:=St->Hp->(Option Int->Hp->Prop)->Prop
def PO(X:Cx)(e:Option Expr)(t:TO):Prop:=
 ∀(pins:List (Addr×Obj)) (s:Shared) (σ:St) (H:Hp) (Q:Option Int->Hp->Prop),Inv X pins σ H s->t σ H Q->
  wpAny (model X.prog X.w) X.A (evalPart e X.env) (λu s'=>∃o a,Inv X pins σ a s'/\IsPart u o/\Q o a) X.xe s
def vA:TO:=λ_ H Q=>Q none H
def ED(t:TE):TO:=λσ H Q=>t σ H λx a=>∃i,x=.int i/\Q (some i) a
section
variable {X:Cx}{e:Expr}{te:TE}{lo hi:Option Expr}{tl th:TO}{pos p2:Pos}
theorem qJ:PO X none vA:=by
 intro a s σ H Q I h;rw[evalPart_none];calc M' ⟨none,H,I,.none,h⟩
theorem iL(h:PE X e te):PO X (some e) (ED te):=by
 intro a s σ H Q I b;rw[evalPart_some];calc dy (h a s σ H _ I b) λu k c=>?_;obtain⟨x,d,f,g,j⟩:=c;obtain⟨i,rfl,q⟩:=j;obtain⟨t,rfl⟩:=g;calc⟨some i,d,f,.int i t,q⟩
def JC(X:Cx)(r:V->Option Int->Option Int->Hp->VK->Prop):Prop:=
 ∀(pins:List (Addr×Obj)) (s:Shared) (σ:St) (H:Hp) (x:V) (v a b:Value) (lo hi:Option Int) (c:Addr) (Q:VK),Inv X pins σ H s->RelV x v->s.heap.IsSliceOf c a b .none->IsPart a lo->IsPart b hi->r x lo hi H Q->
  ∃T a,typeLookup (.type T) "__getitem__"=pure (some (.builtin a))/\s.TypeIs v T/\wpAny (model X.prog X.w) X.A (getItem v (.ref c)) (EP X pins σ Q) X.xe s
theorem JC.or{r b:V->Option Int->Option Int->Hp->VK->Prop}(h:JC X r)(h':JC X b):JC X (λx lo hi H Q=>r x lo hi H Q\/b x lo hi H Q):=by
 intro a s σ H x v c d lo hi e Q I f g i j q;rcases q with q|q
 ·exact h a s σ H x v c d lo hi e Q I f g i j q
 ·calc h' a s σ H x v c d lo hi e Q I f g i j q
def RZ(r:V->Option Int->Option Int->Hp->VK->Prop)(te:TE)(tl th:TO):TE:=λσ H Q=>te σ H λx a=>tl σ a λl b=>th σ b λu a=>r x l u a Q
theorem xc{r:V->Option Int->Option Int->Hp->VK->Prop}(g:JC X r)(a:PE X e te)(d:PO X lo tl)(f:PO X hi th):PE X (.Subscript e (.Slice lo hi none p2) pos) (RZ r te tl th):=by
 walk_at "xc";refine Subscript_ (dy (a pins s σ H _ I h) λv i b=>?_);obtain⟨x,a,j,k,m⟩:=b;refine wpAny_Slice (dy (d pins i σ a _ j m) λc n ⟨l,o,p,r,q⟩=>dy (f pins n σ o _ p q) λd a b=>?_);obtain⟨u,f,i,j,m⟩:=b;rw[evalPart_none];refine M' ?_;have n:Inv X pins σ f {a with heap:=a.heap.push {cls:=.type "slice",data:=.fields #[c,d,.none]}}:=i.kept (t':=a.toks) λb i q=>J' _ q;obtain⟨T,p,b,i,o⟩:=g pins {a with heap:=a.heap.push {cls:=.type "slice",data:=.fields #[c,d,.none]}} σ f x v c d l u a.heap.objs.size Q n k (Heap.IsSliceOf.new ..) r j m;show wpAny (model X.prog X.w) X.A (subscriptTail e (.Slice lo hi none p2) v (.ref a.heap.objs.size)) (EP X pins σ Q) X.xe {a with heap:=a.heap.push {cls:=.type "slice",data:=.fields #[c,d,.none]}};exact tail_any (ops:=[.ref a.heap.objs.size,v]) i b o (by with_unfolding_all rfl)
def eD(xs:List V)(lo hi:Option Int):List V:=(xs.drop (HT.ei xs.length 0 lo)).take (HT.ei xs.length xs.length hi-HT.ei xs.length 0 lo)
theorem qk(xs:List V)(lo hi:Option Int):(eD xs lo hi).length<=xs.length:=by
 unfold eD;rw[List.length_take,List.length_drop];lia
def XE(K:W.Frag):V->Option Int->Option Int->Hp->VK->Prop:=λx lo hi H Q=>∃a xs,x=.ref a/\bQ K H a xs/\
 ¬(HT.ei xs.length 0 lo=0/\HT.ei xs.length xs.length hi=xs.length)/\∀p,H p=none->Q (.ref p) (upd H p (.tup (eD xs lo hi)))
theorem NC:JC X (XE X.K):=by
 intro b s σ H x v d m lo hi n Q I e g i j h;obtain⟨a,c,rfl,k,l,q⟩:=h
 cases e;obtain⟨m,r,b,d⟩:=I.tuple k;have a:m.toArray.size=c.length:=by rw[List.size_toArray];exact r.length.symm
 refine⟨"tuple",_,PyProof.Rows.slot_tuple_getitem.lookup,b.typeIs,?_⟩;refine HT.nO b g i j (by rw[a];exact l) ?_ (by rw[a];exact d);rw[a];refine⟨.ref s.heap.objs.size,_,I.laid (t':=s.toks) (o:=.tup (eD c lo hi)) (λb a q=>J' _ q) (K' _) ?_,rfl,q _ (I.aW.fresh (K' _))⟩;exact⟨Y' (qk c lo hi) d,_,(r.drop (HT.ei c.length 0 lo)).take (HT.ei c.length c.length hi-HT.ei c.length 0 lo),IsTup.new _ _⟩
def R0(K:W.Frag):R2:=λx y H Q=>∃a b xs ys,x=.ref a/\y=.ref b/\bQ K H a xs/\bQ K H b ys/\xs≠[]/\xs.length+ys.length<=sizeLine/\
 (ys=[]->Q (.ref a) H)/\(ys≠[]->∀p,H p=none->Q (.ref p) (upd H p (.tup (xs++ys))))
theorem Vals.vB{xs:List V}{us:List Value}(r:Vals xs us):us=[]↔xs=[]:=by
 cases r with
 |nil=>simp
 |cons _ _=>simp
theorem JD:fV X (binaryOp .Add) (R0 X.K):=by
 intro c s σ H x y v u Q I d f h;obtain⟨a,b,g,i,rfl,rfl,j,k,l,e,m,n⟩:=h
 cases d
 cases f;obtain⟨c,d,h,_⟩:=I.tuple j;obtain⟨f,c,p2,_⟩:=I.tuple k;calc HT.JB h p2 (λz=>l (d.vB.mp z)) (λz=>⟨.ref a,H,I,rfl,m (c.vB.mp z)⟩) (λz=>?_) (by rw[<-d.length,<-c.length];calc e);calc⟨.ref s.heap.objs.size,_,I.laid (t':=s.toks) (o:=.tup (g++i)) (λb a q=>J' _ q) (K' _) ?_,rfl,n (λw=>z (c.vB.mpr w)) _ (I.aW.fresh (K' _))⟩;calc⟨by rw[List.length_append];calc e,_,d.append c,IsTup.new _ _⟩
end
end
section
def zi(n:Nat)(i:Int):Option Nat:=if 0<=i then(if i<n then some i.toNat else none) else if -(n:Int)<=i then some (i+n).toNat else none
def iJ{α:Type}(xs:List α)(i:Int):Option α:=(zi xs.length i).bind λj=>xs[j]?
theorem AI{n:Nat}{i:Int}{j:Nat}(h:zi n i=some j):seqIndex? i n=some j/\j<n/\-(n:Int)<=i/\i<n:=by
 unfold zi at h;by_cases b:0<=i
 ·rw[if_pos b] at h;by_cases a:i < n
  ·rw[if_pos a]at h;have e:i.toNat=j:=Option.some.inj h;exact⟨by rw[seqIndex_of b a,e],(),(),a⟩
  ·rw[if_neg a]at h;cases h
 ·rw[if_neg b] at h;by_cases a:-(n:Int)<=i
  ·rw[if_pos a]at h;have e:(i+n).toNat=j:=Option.some.inj h;exact⟨by rw[seqIndex_neg () a,e],(),a,()⟩
  ·rw[if_neg a]at h;cases h
theorem vC{α:Type}{xs:List α}{i:Int}{v:α}(h:iJ xs i=some v):∃j,seqIndex? i xs.length=some j/\xs[j]?=some v/\j<xs.length/\-(xs.length:Int)<=i/\i<xs.length:=by
 unfold iJ at h
 cases e:zi xs.length i with
 |none=>rw[e]at h;cases h
 |some j=>
  rw[e]at h;obtain⟨a,b,c,d⟩:=AI e;calc⟨j,a,h,b,c,d⟩
theorem ay{α:Type}{xs:List α}{j:Nat}{v:α}(h:xs[j]?=some v):iJ xs (j:Int)=some v:=by
 have a:j<xs.length:=(List.getElem?_eq_some_iff.mp h).1;have e:zi xs.length (j:Int)=some j:=by
  unfold zi;rw[if_pos (),if_pos ()];simp
 unfold iJ;rw[e];calc h
def AJ(b:Expr):Prop:=∀o i,subscripted b false o i=operate [o,i] (getItem o i)
def JE(X:Cx)(r:R2):Prop:=
 ∀(b a:Expr) (pins:List (Addr×Obj)) (s:Shared) (σ:St) (H:Hp) (x y:V) (v u:Value) (Q:VK),Inv X pins σ H s->RelV x v->RelV y u->r x y H Q->
  subscripted a false v u=operate [v,u] (getItem v u)->wpAny (model X.prog X.w) X.A (subscriptTail b a v u) (EP X pins σ Q) X.xe s
def IC(X:Cx)(a:String)(r:V->List V->Hp->VK->Prop):Prop:=
 ∀(pins:List (Addr×Obj)) (s:Shared) (σ:St) (H:Hp) (x:V) (xs:List V) (v:Value) (us:List Value) (Q:VK),Inv X pins σ H s->RelV x v->Vals xs us->r x xs H Q->
  wpAny (model X.prog X.w) X.A (call (.builtin a) (v::us)) (EP X pins σ Q) X.xe s
section
variable {X:Cx}{a b:Expr}{ta tb:TE}{pos:Pos}
theorem JE.or{r d:R2}(h:JE X r)(h':JE X d):JE X (λx y H Q=>r x y H Q\/d x y H Q):=by
 intro a b c s σ H x y v u Q I e f q g;rcases q with q|q
 ·exact h a b c s σ H x y v u Q I e f q g
 ·calc h' a b c s σ H x y v u Q I e f q g
theorem IC.or{b:String}{r c:V->List V->Hp->VK->Prop}(h:IC X b r)(h':IC X b c):IC X b (λx xs H Q=>r x xs H Q\/c x xs H Q):=by
 intro a s σ H x xs v d Q I e f q;rcases q with q|q
 ·exact h a s σ H x xs v d Q I e f q
 ·calc h' a s σ H x xs v d Q I e f q
theorem R1{r:R2}(c:JE X r)(d:PE X a ta)(e:PE X b tb)(f:AJ b):PE X (.Subscript a b pos) (Ep r ta tb):=by
 walk_at "xc";exact Subscript_ (Nk d e I h λv u g x y i j k l q=>c a b pins g σ i x y v u Q j k l q (f _ _))
def XF(K:W.Frag):R2:=λx y H Q=>∃p xs i v,x=.ref p/\y=.int i/\aO K H p xs/\iJ xs i=some v/\Q v H
def XG(K:W.Frag):R2:=λx y H Q=>∃p xs i v,x=.ref p/\y=.int i/\bQ K H p xs/\iJ xs i=some v/\Q v H
def XH:R2:=λx y H Q=>∃z i c,x=.str z/\y=.int i/\z.length<=sizeLine/\iJ z.cps.toList i=some c/\Q (.str ⟨#[c]⟩) H
theorem JF:JE X (XF X.K):=by
 intro b c a s σ H x y v u Q I d e h f;obtain⟨p,j,i,z,rfl,rfl,g,k,q⟩:=h
 cases d;obtain⟨t,rfl⟩:=e;obtain⟨l,r,d,b⟩:=I.list g;obtain⟨j,c,b,e,m,n⟩:=vC k;obtain⟨w,g,e⟩:=r.get b;have k:=r.length;have b:=q5;have b:EP X a σ Q w s:=⟨z,H,I,e,q⟩
 by_cases h:0<=i
 ·have e:i.toNat=j:=by
   rw[seqIndex_of h n]at c;exact Option.some.inj c
  exact item_listR d.isList h () (by rw[e];simpa using g) b f
 ·have e:(i+(l.toArray.size:Int)).toNat=j:=by
   rw[seqIndex_neg () m]at c;rw[List.size_toArray,<-k];exact Option.some.inj c
  exact subscriptTail_builtinR (x:=w) d.isList.typeIs slot_list_getitem.lookup
   (wpAny_getItem_list_neg (Q:=λr c=>r=w/\EP X a σ Q r c) d.isList () (by rw[List.size_toArray]<;>lia) () (by rw[e];simpa using g) ⟨rfl,b⟩) f
theorem ND:JE X (XG X.K):=by
 intro b c a s σ H x y v u Q I d e h f;obtain⟨p,j,i,z,rfl,rfl,g,k,q⟩:=h
 cases d;obtain⟨t,rfl⟩:=e;obtain⟨b,r,c,d⟩:=I.tuple g;obtain⟨j,d,b,e,h,i⟩:=vC k;obtain⟨w,e,g⟩:=r.get b;have h:=r.length;have b:=q5;have b:EP X a σ Q w s:=⟨z,H,I,g,q⟩
 exact subscriptTail_builtinR (x:=w) c.typeIs slot_tuple_getitem.lookup
  (getItem_tuple (j:=j) (Q:=λr g=>r=w/\EP X a σ Q r g) c () () (by rw[List.size_toArray,<-h];calc d) (by simpa using e) ⟨rfl,b⟩) f
theorem NF:JE X XH:=by
 intro a b d s σ H x y v u Q I e f h g;obtain⟨z,i,c,rfl,rfl,j,k,q⟩:=h;obtain⟨t,rfl⟩:=e;obtain⟨l,rfl⟩:=f;obtain⟨j,a,b,h,d,e⟩:=vC k;have f:z.cps.toList.length=z.length:=by simp[Str.length]
 rw[f] at a d e;have h:=q5;exact tail_any (typeIs_str s z t) slot_str_getitem.lookup (getItem_str (c:=c) (by
  have d:decide (i < -(2 ^ 63:Int))=false:=decide_eq_false ();have e:decide (i >= 2 ^ 63)=false:=decide_eq_false ();rw[d,e,Bool.or_false]) (by rw[a];simpa using b) ⟨.str ⟨#[c]⟩,H,I.tok _,⟨_,rfl⟩,q⟩) g
theorem zj(a:List Value)(n j:Nat)(u:Value):Obj.mapSeq (·.setIfInBounds j u) {cls:=.type "list",data:=.seq a.toArray n}={cls:=.type "list",data:=.seq (a.set j u).toArray n}:=by
 simp[Obj.mapSeq]
theorem Inv.lst{pins:List (Addr×Obj)}{σ:St}{H:Hp}{s:Shared}{p:Addr}{xs:List V}(I:Inv X pins σ H s)(h:H p=some (.lst xs)):
  ∃(a:List Value) (n:Nat),Vals xs a/\s.heap.get? p=some {cls:=.type "list",data:=.seq a.toArray n}/\xs.length<=sizeLine:=by
 obtain⟨z,a,n,r,e⟩:=I.aW p _ h;calc⟨a,n,r,e,z⟩
theorem Inv.NG{pins:List (Addr×Obj)}{σ:St}{H:Hp}{s:Shared}{p:Addr}{xs ys:List V}{c kj:List Value}{n a:Nat}{f:Obj->Obj}(I:Inv X pins σ H s)(h:H p=some (.lst xs))
  (g:s.heap.get? p=some {cls:=.type "list",data:=.seq c.toArray n}) (d:f {cls:=.type "list",data:=.seq c.toArray n}={cls:=.type "list",data:=.seq kj.toArray a}) (r:Vals ys kj) (c:ys.length<=sizeLine) (t:Nat):
  Inv X pins σ (upd H p (.lst ys)) {s with heap:=s.heap.update p f,toks:=t}:=by
 have e:(s.heap.update p f).get? p=some {cls:=.type "list",data:=.seq kj.toArray a}:=by
  rw[Heap.get?_update_self f g (by rw[d]<;>rfl),d]
 calc I.write (x:=p) (e:=p) (by rw[h];trivial) (.inl rfl) (λb u d q=>(Heap.get?_update_other _ _ (Ne.symm d)).trans q) ⟨_,e⟩ ?_;calc⟨c,kj,a,r,e⟩
def R3:V->V->V->Hp->(Hp->Prop)->Prop:=λo i v H Q=>∃p xs k j,o=.ref p/\i=.int k/\H p=some (.lst xs)/\zi xs.length k=some j/\Q (upd H p (.lst (xs.set j v)))
theorem set_list:Nd X R3:=by
 intro a s σ H o i v c f u Q I b d l h;obtain⟨p,m,k,j,rfl,rfl,e,w,q⟩:=h
 cases b;obtain⟨t,rfl⟩:=d;obtain⟨f,n,r,c,o⟩:=I.lst e;obtain⟨b,d,g,h⟩:=AI w;have d:=r.length;have i:=q5;have i:Inv X a σ (upd H p (.lst (m.set j v))) {s with heap:=s.heap.update p (Obj.mapSeq (·.setIfInBounds j u))}:=
  I.NG e c (zj f n j u) (r.set l j) (by rw[List.length_set];calc o) s.toks
 by_cases e:0<=k
 ·have a:k.toNat=j:=by
   rw[seqIndex_of e h]at b;exact Option.some.inj b
  exact W.ki_setAt c e () (by rw[List.size_toArray,<-d];calc h) (by rw[a];calc⟨_,i,q⟩)
 ·have a:(k+(f.toArray.size:Int)).toNat=j:=by
   rw[seqIndex_neg () g]at b;rw[List.size_toArray,<-d];exact Option.some.inj b
  calc W.ki_setBack c () (by rw[List.size_toArray,<-d];calc g) () (by rw[a];calc⟨_,i,q⟩)
theorem vD(a b:Option Int)(n:Nat):(sliceBounds a b none n).1=((HT.ei n 0 a:Nat):Int)/\(sliceBounds a b none n).2.1=((HT.ei n n b:Nat):Int)/\(sliceBounds a b none n).2.2=1:=by
 refine⟨?_,?_,rfl⟩
 ·cases a with
  |none=>simp[sliceBounds,HT.ei]
  |some i=>
   simp only[sliceBounds,HT.ei,Option.getD_none,show(1:Int) > 0 by decide,if_true];by_cases h:i<0
   ·simp only[h,if_true]<;>lia
   ·simp only[h,if_false]<;>lia
 ·cases b with
  |none=>simp[sliceBounds,HT.ei]
  |some i=>
   simp only[sliceBounds,HT.ei,Option.getD_none,show(1:Int) > 0 by decide,if_true];by_cases h:i<0
   ·simp only[h,if_true]<;>lia
   ·simp only[h,if_false]<;>lia
theorem tK(a:List Value)(b c:Option Int):slicePick a.toArray b c none=((a.drop (HT.ei a.length 0 b)).take (HT.ei a.length a.length c-HT.ei a.length 0 b)).toArray:=by
 obtain⟨d,e,f⟩:=vD b c a.toArray.size;unfold slicePick;rw[d,e,f];simp only[sliceRange_one,pick_run,List.size_toArray]<;>rfl
def XI(K:W.Frag):V->Option Int->Option Int->Hp->VK->Prop:=λx b c H Q=>∃a xs,x=.ref a/\aO K H a xs/\∀p,H p=none->Q (.ref p) (upd H p (.lst (eD xs b c)))
theorem AK:JC X (XI X.K):=by
 intro d s σ H x v g n e f p Q I i j k l h;obtain⟨a,c,rfl,m,q⟩:=h
 cases i;obtain⟨d,r,g,h⟩:=I.list m;have d:=r.length;refine⟨"list",_,slot_list_getitem.lookup,g.isList.typeIs,?_⟩;refine wpAny_getItem_list_slice g.isList j k l .none nofun ?_ (by rw[List.size_toArray]<;>lia);rw[tK,<-d];refine⟨.ref s.heap.objs.size,_,I.laid (t':=s.toks) (o:=.lst (eD c e f)) (λb d q=>J' _ q) (K' _) ?_,rfl,q _ (I.aW.fresh (K' _))⟩;exact⟨Y' (qk c e f) h,_,0,(r.drop (HT.ei c.length 0 e)).take (HT.ei c.length c.length f-HT.ei c.length 0 e),T' _ rfl⟩
def jC:V->Bool
 | .bP=>true
 | .bl _=>true
 | .int _=>true
 | .str _=>true
 |_=>false
def ID:V->V->Bool
 | .bP,.bP=>true
 | .bl a,.bl b=>a==b
 | .bl a,.int b=>(if a then 1 else 0)==b
 | .int a,.bl b=>a==(if b then 1 else 0)
 | .int a,.int b=>a==b
 | .str a,.str b=>a==b
 |_,_=>false
theorem EE{A:Around}{s:Shared}{y x:V}{u v:Value}(e:RelV y u)(c:RelV x v)(g:jC y=true)(f:jC x=true):SeqAt.EqAt A s u v (ID y x):=by
 cases y with
 |bP=>
  cases e
  cases x with
  |bP=>cases c;calc SeqAt.EqAt.same _
  |bl b=>cases c;calc SeqAt.EqAt.none_bool b
  |int b=>obtain⟨t,rfl⟩:=c;calc SeqAt.EqAt.none_int b t
  |str b=>obtain⟨t,rfl⟩:=c;calc SeqAt.EqAt.none_str b t
  |_=>calc absurd (show false=true from f) S'
 |bl a=>
  cases e
  cases x with
  |bP=>cases c;calc SeqAt.EqAt.bool_none a
  |bl b=>cases c;calc SeqAt.EqAt.bool_bool a b
  |int b=>obtain⟨t,rfl⟩:=c;calc SeqAt.EqAt.bool_int a b t
  |str b=>obtain⟨t,rfl⟩:=c;calc SeqAt.EqAt.bool_str a b t
  |_=>calc absurd (show false=true from f) S'
 |int a=>
  obtain⟨d,rfl⟩:=e
  cases x with
  |bP=>cases c;calc SeqAt.EqAt.int_none a d
  |bl b=>cases c;calc SeqAt.EqAt.int_bool a d b
  |int b=>obtain⟨t,rfl⟩:=c;calc SeqAt.EqAt.int_int a d b t
  |str b=>obtain⟨t,rfl⟩:=c;calc SeqAt.EqAt.int_str a d b t
  |_=>calc absurd (show false=true from f) S'
 |str a=>
  obtain⟨d,rfl⟩:=e
  cases x with
  |bP=>cases c;calc SeqAt.EqAt.str_none a d
  |bl b=>cases c;calc SeqAt.EqAt.str_bool a d b
  |int b=>obtain⟨t,rfl⟩:=c;calc SeqAt.EqAt.str_int a d b t
  |str b=>obtain⟨t,rfl⟩:=c;calc SeqAt.EqAt.str_str a d b t
  |_=>calc absurd (show false=true from f) S'
 |_=>calc absurd (show false=true from g) S'
def JG(x:V)(u:Value):Bool:=match u with
 | .none=>ID .bP x
 | .bool b=>ID (.bl b) x
 | .int i _=>ID (.int i) x
 | .str z _=>ID (.str z) x
 |_=>false
theorem EF{x y:V}{u:Value}(r:RelV y u)(f:jC y=true):JG x u=ID y x:=by
 cases y with
 |bP=>cases r;rfl
 |bl b=>cases r;rfl
 |int i=>obtain⟨t,rfl⟩:=r;rfl
 |str z=>obtain⟨t,rfl⟩:=r;rfl
 |_=>calc absurd (show false=true from f) S'
theorem vE{x:V}:∀{xs:List V}{us:List Value},Vals xs us->xs.all jC=true->us.any (JG x)=xs.any λy=>ID y x
 |_,_,.nil,_=>rfl
 |y::xs,u::us,.cons r t,f=>by
  rw[List.all_cons,Bool.and_eq_true]at f;rw[List.any_cons,List.any_cons,EF r f.1,vE t f.2]
theorem rg{A:Around}{s:Shared}{x:V}{v:Value}(b:RelV x v)(c:jC x=true):∀{xs:List V}{us:List Value},Vals xs us->xs.all jC=true->∀u∈us,SeqAt.EqAt A s u v (JG x u)
 |_,_,.nil,_=>λu a=>by cases a
 |y::xs,u::us,.cons r t,f=>λd a=>by
  rw[List.all_cons,Bool.and_eq_true]at f;rcases List.mem_cons.mp a with rfl|a
  ·rw[EF r f.1];exact EE r b f.1 c
  ·calc rg b c t f.2 d a
def AL(x:V)(xs:List V):Bool:=xs.any λy=>ID y x
def rIn(K:W.Frag)(a:Bool):R2:=λx y H Q=>∃p xs,y=.ref p/\(aO K H p xs\/bQ K H p xs)/\jC x=true/\xs.all jC=true/\Q (.bl (if a then !AL x xs else AL x xs)) H
theorem Cq:fV X (compareOp .In) (rIn X.K false):=by
 intro b s σ H x y v u Q I f d h;obtain⟨p,e,rfl,a,g,c,q⟩:=h
 cases d;rcases a with a|a
 ·obtain⟨b,r,d,h⟩:=I.list a;calc SeqAt.in_listAt (JG x) d.isList (λw e=>rg f g r c w (by simpa using e)) ⟨.bl _,H,I,rfl,?_⟩;rw[show b.toArray.any (JG x)=b.any (JG x) by simp,vE r c];exact q
 ·obtain⟨b,r,d,h⟩:=I.tuple a;calc SeqAt.in_tupleAt (JG x) d (λw e=>rg f g r c w (by simpa using e)) ⟨.bl _,H,I,rfl,?_⟩;rw[show b.toArray.any (JG x)=b.any (JG x) by simp,vE r c];calc q
theorem ee.or{f:Value}{r b:List V->Hp->VK->Prop}(h:ee X f r)(h':ee X f b):ee X f (λxs H Q=>r xs H Q\/b xs H Q):=by
 intro a s σ H xs c Q I d q;rcases q with q|q
 ·exact h a s σ H xs c Q I d q
 ·calc h' a s σ H xs c Q I d q
theorem vF:ee X (.type "list") (λxs H Q=>∃p ys,xs=[.ref p]/\(aO X.K H p ys\/bQ X.K H p ys)/\∀l,H l=none->Q (.ref l) (upd H l (.lst ys))):=by
 intro g s σ H xs o Q I r h;obtain⟨p,ys,rfl,i,q⟩:=h;obtain⟨u,rfl,n⟩:=vals1 r
 cases n;have j:∀(c:List Value),Vals ys c->ys.length<=sizeLine->∀(a:Heap) (d:Nat),(∀b h,s.heap.get? b=some h->a.get? b=some h)->
   a.get? s.heap.objs.size=some {cls:=.type "list",dict:=none,data:=.seq c.toArray d,slots:=#[]}->EP X g σ Q (.ref s.heap.objs.size) {s with heap:=a}:=λc f k a d m e=>
  ⟨.ref s.heap.objs.size,_,I.laid (t':=s.toks) m (K' _) (show cW X.prog X.w _ a _ (.lst ys) from⟨k,c,d,f,e⟩),rfl,q _ (I.aW.fresh (K' _))⟩
 rcases i with i|i
 ·obtain⟨c,f,h,k⟩:=I.list i;have g:=f.length;obtain⟨o,l,q,n,r⟩:=h.isList;exact call_list_seq p (.inl rfl) l q r (λa d m e=>j c f k a d m e) (by simp only[List.size_toArray]<;>lia)
 ·obtain⟨c,f,h,k⟩:=I.tuple i;have g:=f.length;obtain⟨o,l,q,n,r⟩:=h;calc call_list_seq p (.inr rfl) l q r (λa d m e=>j c f k a d m e) (by simp only[List.size_toArray]<;>lia)
theorem l8:ee X (.type "tuple") (λxs H Q=>∃p ys,xs=[.ref p]/\((aO X.K H p ys/\∀l,H l=none->Q (.ref l) (upd H l (.tup ys)))\/(bQ X.K H p ys/\Q (.ref p) H))):=by
 intro a s σ H xs d Q I r h;obtain⟨p,ys,rfl,h⟩:=h;obtain⟨u,rfl,c⟩:=vals1 r
 cases c;rcases h with⟨d,q⟩|⟨d,q⟩
 ·obtain⟨f,g,h,i⟩:=I.list d;have c:=g.length;calc call_tuple_list h.isList (λc e=>?_) (by simp only[List.size_toArray]<;>lia);have j:Inv X a σ H {s with heap:=c}:=I.kept (t':=s.toks) e;have l:Inv X a σ (upd H c.objs.size (.tup ys)) {s with heap:=c.push {cls:=.type "tuple",data:=.seq f.toArray}}:=
   j.laid (t':=s.toks) (λb o e=>J' _ e) (K' _) (show cW X.prog X.w _ _ _ (.tup ys) from⟨i,f,g,IsTup.new _ _⟩)
  exact⟨.ref c.objs.size,_,l,rfl,q _ (j.aW.fresh (K' _))⟩
 ·obtain⟨f,g,h,i⟩:=I.tuple d;calc call_tuple_same h ⟨.ref p,H,I,rfl,q⟩
def XJ(K:W.Frag)(T:String)(x:V)(H:Hp):Prop:=match x with
 | .str _=>T="str"
 | .int _=>T="int"
 | .ref p=>(T="list"/\∃xs,aO K H p xs)\/(T="tuple"/\∃o,K.lookup p=some o/\o.cls=.type "tuple"/\o.dict=none)\/
   (T="dict"/\((∃a,H p=some (.dK a))\/∃a,H p=some (.dT a)))\/(T="set"/\∃S n,H p=some (.set S n))
 |_=>False
theorem EG{pins:List (Addr×Obj)}{σ:St}{H:Hp}{s:Shared}{T:String}{x:V}{v:Value}(I:Inv X pins σ H s)(r:RelV x v)(f:XJ X.K T x H):
  s.TypeIs v T/\∀a,v=.ref a->∃c,s.heap.get? a=some c/\c.dict=none:=by
 cases x with
 |str z=>
  obtain⟨t,rfl⟩:=r
  cases(show T="str" from f);exact⟨typeIs_str s z t,λ_ e=>nomatch e⟩
 |int i=>
  obtain⟨t,rfl⟩:=r
  cases(show T="int" from f);exact⟨typeIs_int s i t,λ_ e=>nomatch e⟩
 |ref p=>
  cases r;rcases f with⟨rfl,m,k⟩|⟨rfl,o,b,l,g⟩|⟨rfl,b⟩|⟨rfl,S,n,b⟩
  ·obtain⟨c,_,j,_⟩:=I.list k;refine⟨j.isList.typeIs,λa e=>?_⟩
   cases e;obtain⟨o,n,e,c,g,_⟩:=j;exact⟨o,e,g⟩
  ·refine⟨⟨o,I.j9 p o b,l⟩,λa e=>?_⟩
   cases e;exact⟨o,I.j9 _ o b,g⟩
  ·have z:∃o,s.heap.get? p=some o/\o.ExactDict:=by
    rcases b with⟨c,b⟩|⟨c,b⟩
    ·obtain⟨_,_,_,_,o,_,_,e,d,_⟩:=I.aW p _ b;exact⟨o,e,d⟩
    ·obtain⟨_,_,_,_,o,_,_,e,d,_⟩:=I.aW p _ b;exact⟨o,e,d⟩
   obtain⟨o,e,d⟩:=z;refine⟨⟨o,e,d.1⟩,λa h=>?_⟩
   cases h;exact⟨o,e,d.2.1⟩
  ·obtain⟨o,_,_,_,e,d,_⟩:=I.aW p _ b;refine⟨⟨o,e,d.1⟩,λa h=>?_⟩
   cases h;calc⟨o,e,d.2.1⟩
 |_=>calc aas f
def NH(K:W.Frag)(T:String)(r:V->List V->Hp->VK->Prop)(b:TE):TE:=λσ H Q=>b σ H λx a=>XJ K T x a/\r x [] a Q
def XM(K:W.Frag)(T:String)(r:V->List V->Hp->VK->Prop)(b:TE)(t:TA):TE:=λσ H Q=>b σ H λx a=>XJ K T x a/\t σ a λxs b=>r x xs b Q
variable {o e:Expr}{es:List Expr}{to:TE}{t:TA}{name:Str}{apos iX:Pos}{T id:String}{r:V->List V->Hp->VK->Prop}
theorem EH(d:PlainAttrs T)(a:Slot T name id)(e:typeOf (.builtin id)=pure (.type "method_descriptor"))(f:IC X id r)(b:PE X o to)
  (c:attributeBase o name X.env (eval o X.env)=eval o X.env:=by rfl) (g:(apos.endLine==iX.line)=true:=by rfl):PE X (.Call (.Attribute o name apos) [] [] iX) (NH X.K T r to):=by
 walk_at "xc";refine wpAny_Call_method0_late c g (dy (b pins s σ H _ I h) λv i j=>?_);obtain⟨x,g,b,c,k,l⟩:=j;obtain⟨m,n⟩:=EG b c k;exact⟨T,id,d,a,e,m,n,Calls.callWith_builtin rfl (PySem.evalArgs_none (f pins i σ g x [] v [] Q b c .nil l))⟩
theorem de(f:PlainAttrs T)(a:Slot T name id)(g:typeOf (.builtin id)=pure (.type "method_descriptor"))(i:IC X id r)(b:PE X o to)(j:PA X (e::es) t)
  (c:attributeBase o name X.env (eval o X.env)=eval o X.env:=by rfl)
  (d:((backTo iX (starEach (e::es) X.env)).all (λx=> !x.1) && (backToKw iX (keywordEach [] X.env)).all (λx=>x.1.isSome)
   && decide ((e::es).length + ([]:List Keyword).length + (if ([]:List Keyword).isEmpty then 0 else 1) < 30))=true:=by rfl)
  (k:(apos.endLine==iX.line)=true:=by rfl) (l:starEach (e::es) X.env=(false,eval e X.env)::starEach es X.env:=by rfl) (m:(backTo iX (starEach es X.env)).any (·.1)=false:=by rfl):
  PE X (.Call (.Attribute o name apos) (e::es) [] iX) (XM X.K T r to t):=by
 walk_at "xc";refine wpAny_Call_method_late c d k rfl (dy (b pins s σ H _ I h) λv n p=>?_);obtain⟨x,k,b,c,q,u⟩:=p;obtain⟨w,y⟩:=EG b c q;refine⟨T,id,f,a,g,w,y,?_⟩;have d:=j iX pins n σ k _ b u;rw[l]at d ⊢;refine Calls.callWith_builtin (by show(false||(backTo iX (starEach es X.env)).any (·.1))=false;rw[m]<;>rfl) (Calls.evalArgs_plain ?_);exact dy d λa f ⟨g,p,q,w,y⟩=>i pins f σ p x g v a Q q c w y
end
end
section
def V7(X:Cx)(a:String)(r:V->List V->Hp->VK->Prop):Prop:=
 ∀(pins:List (Addr×Obj)) (s:Shared) (σ:St) (H:Hp) (x:V) (xs:List V) (v:Value) (us:List Value) (Q:VK),Inv X pins σ H s->RelV x v->Vals xs us->r x xs H Q->
  wpAny (model X.prog X.w) X.A (call (.builtin a) (v::us)) (EP X pins σ Q) X.xe s
theorem Vals.one:∀{x:V}{us:List Value},Vals [x] us->∃u,us=[u]/\RelV x u
 |_,_,.cons r .nil=>⟨_,rfl,r⟩
theorem Vals.zero:∀{us:List Value},Vals [] us->us=[]
 |_,.nil=>rfl
theorem Vals.dropLast{xs:List V}{us:List Value}(h:Vals xs us):Vals xs.dropLast us.dropLast:=by
 induction h with
 |nil=>calc .nil
 |cons r t a=>
  cases t with
  |nil=>calc .nil
  |cons q b=>calc .cons r a
theorem Vals.eraseIdx:∀{xs:List V}{us:List Value}(i:Nat),Vals xs us->Vals (xs.eraseIdx i) (us.eraseIdx i)
 |_,_,_,.nil=>.nil
 |_,_,0,.cons _ t=>t
 |_,_,i+1,.cons r t=>.cons r (Vals.eraseIdx i t)
theorem zk{α:Type}(l:List α):l.eraseIdx (l.length-1)=l.dropLast:=by
 induction l with
 |nil=>rfl
 |cons a r c=>
  cases r with
  |nil=>rfl
  |cons b r=>
   have e:(a::b::r).length-1=((b::r).length-1)+1:=by
    have d:(a::b::r).length=r.length+2:=rfl;have a:(b::r).length=r.length+1:=rfl;lia
   rw[e,List.eraseIdx_cons_succ,c]
   all_goals rfl
theorem uz{α:Type}:∀(l:List α) (i:Nat),(l.eraseIdx i).length<=l.length
 | [],_=>K' _
 |_::_,0=>Nat.le_succ _
 |_::r,i+1=>Nat.succ_le_succ (uz r i)
section
variable {X:Cx}{pins:List (Addr×Obj)}{σ:St}{H:Hp}{s:Shared}{l b:Addr}{xs ys zs:List V}
theorem Inv.EI{a kj:List Value}{n:Nat}{f:Array Value->Array Value}{t':Nat}(I:Inv X pins σ H s)(b:H l=some (.lst xs))
  (e:s.heap.get? l=some {cls:=.type "list",data:=.seq a.toArray n}) (c:f a.toArray=kj.toArray) (d:Vals ys kj) (g:ys.length<=sizeLine):
  Inv X pins σ (upd H l (.lst ys)) {s with heap:=s.heap.update l (Obj.mapSeq f),toks:=t'}:=by
 have q:=PySem.IsL.update e f;rw[c]at q;calc I.write (x:=l) (e:=l) (by rw[b];calc trivial) (.inl rfl) (λe u a c=>(Heap.get?_update_other s.heap (Obj.mapSeq f) (Ne.symm a)).trans c) ⟨_,q⟩ ?_;calc⟨g,kj,_,d,q⟩
theorem Inv.XN{a:List Value}{t':Nat}(I:Inv X pins σ H s)(b:Vals ys a)(c:ys.length<=sizeLine):
  Inv X pins σ (upd H s.heap.objs.size (.lst ys)) {s with heap:=s.heap.push {cls:=.type "list",data:=.seq a.toArray},toks:=t'}:=
 I.laid (λ_ _ q=>J' _ q) (K' _) ⟨c,a,0,b,T' _ rfl⟩
theorem Inv.fresh(I:Inv X pins σ H s):H s.heap.objs.size=none:=I.aW.fresh (K' _)
theorem Inv.xh(I:Inv X pins σ H s)(b:H l=some (.lst xs)):xs.length<=sizeLine/\∃(a:List Value) (n:Nat),Vals xs a/\xs.length=a.length/\s.heap.get? l=some {cls:=.type "list",data:=.seq a.toArray n}:=by
 obtain⟨z,a,n,r,e⟩:=I.aW l _ b;calc⟨z,a,n,r,r.length,e⟩
theorem EJ{n:Nat}(h:n<=sizeLine):Builtin.List.listTooLong n=false:=by
 unfold Builtin.List.listTooLong;calc decide_eq_false ()
end
section
variable {X:Cx}
def JI:V->List V->Hp->VK->Prop:=λx vs H Q=>∃l xs y,x=.ref l/\vs=[y]/\H l=some (.lst xs)/\xs.length<sizeLine/\Q .bP (upd H l (.lst (xs++[y])))
theorem uA:V7 X "list.append" JI:=by
 intro a s σ H x e v f Q I c d h;obtain⟨l,g,y,rfl,rfl,b,i,q⟩:=h
 cases c;obtain⟨u,rfl,f⟩:=d.one;obtain⟨z,a,n,r,c,e⟩:=I.xh b;calc call_meets F.slot_list_append ⟨_,e,rfl⟩ F.entry_list_append (F.args_list_append_2 _ _) (PySem.list_append l a.toArray n u (by rw[List.size_toArray];lia)) ⟨e,?_⟩;calc⟨.bP,_,I.EI (kj:=a++[u]) b e nofun (r.append (.cons f .nil)) ?_,rfl,q⟩;rw[List.length_append,List.length_singleton];lia
def JJ:V->List V->Hp->VK->Prop:=λx vs H Q=>∃l b xs a,x=.ref l/\vs=[.ref b]/\H l=some (.lst xs)/\H b=some (.lst a)/\xs.length+a.length<=sizeLine/\Q .bP (upd H l (.lst (xs++a)))
theorem Cr:V7 X "list.extend" JJ:=by
 intro a s σ H x e v j Q I c d h;obtain⟨l,b,k,m,rfl,rfl,f,g,n,q⟩:=h
 cases c;obtain⟨u,rfl,i⟩:=d.one
 cases i;obtain⟨z,a,n,r,c,e⟩:=I.xh f;obtain⟨d,c,h,i,k,j⟩:=I.xh g;have d:a.toArray.size+c.toArray.size<=sizeLine:=by rw[List.size_toArray,List.size_toArray];lia
 have g:¬(!a.toArray.isEmpty&&Builtin.List.listTooLong (a.toArray.size+c.toArray.size))=true:=by
  rw[EJ d,Bool.and_false];exact S'
 refine call_meets F.slot_list_extend ⟨_,e,rfl⟩ F.entry_list_extend (F.args_list_extend_2 _ _)
  (AutoSeq1.list_extend_list_list_0 l a.toArray n b c.toArray h g (by rw[List.size_toArray];lia) ()) ⟨e,j,?_⟩
 calc⟨.bP,_,I.EI (kj:=a++c) f e nofun (r.append i) ?_,rfl,q⟩;rw[List.length_append];lia
def XO:V->List V->Hp->VK->Prop:=λx vs H Q=>∃l xs y,x=.ref l/\vs=[]/\H l=some (.lst xs)/\xs[xs.length-1]?=some y/\Q y (upd H l (.lst xs.dropLast))
theorem NJ:V7 X "list.pop" XO:=by
 intro a s σ H x e v i Q I c d h;obtain⟨l,j,y,rfl,rfl,b,f,q⟩:=h
 cases c;have g:=d.zero;subst g;obtain⟨z,a,n,r,c,e⟩:=I.xh b;obtain⟨u,d,g⟩:=r.get f;have h:a.toArray[a.toArray.size-1]?=some u:=by
  show a.toArray[a.length-1]?=some u;rw[<-Array.getElem?_toList,<-c];exact d
 calc call_meets F.slot_list_pop ⟨_,e,rfl⟩ F.entry_list_pop (F.args_list_pop_1 _) (MeetsSeq.list_pop_last l a.toArray n u h (by rw[List.size_toArray];lia)) ⟨e,?_⟩;refine⟨y,_,I.EI (kj:=a.dropLast) b e ?_ r.dropLast ?_,g,q⟩
 ·show a.toArray.eraseIdxIfInBounds (a.toArray.size-1)=a.dropLast.toArray;rw[List.size_toArray,List.eraseIdxIfInBounds_toArray,zk]
 ·rw[List.length_dropLast];lia
def NK:V->List V->Hp->VK->Prop:=λx vs H Q=>∃l xs,x=.ref l/\vs=[]/\H l=some (.lst xs)/\Q .bP (upd H l (.lst []))
theorem EK:V7 X "list.clear" NK:=by
 intro a s σ H x e v g Q I c d h;obtain⟨l,i,rfl,rfl,b,q⟩:=h
 cases c;have f:=d.zero;subst f;obtain⟨z,a,n,r,c,e⟩:=I.xh b;calc call_meets F.slot_list_clear ⟨_,e,rfl⟩ F.entry_list_clear (F.args_list_clear_1 _) (AutoSeq1.list_clear_list_0 l a.toArray n (by rw[List.size_toArray];lia)) ⟨e,?_⟩;calc⟨.bP,_,I.EI (kj:=[]) (ys:=[]) b e rfl .nil (U' _),rfl,q⟩
def XQ:R2:=λx y H Q=>∃l b xs a,x=.ref l/\y=.ref b/\H l=some (.lst xs)/\H b=some (.lst a)/\xs.length+a.length<=sizeLine/\∀p,H p=none->Q (.ref p) (upd H p (.lst (xs++a)))
theorem NL:fV X (binaryOp .Add) XQ:=by
 intro a s σ H x y v u Q I c d h;obtain⟨l,b,e,i,rfl,rfl,f,g,j,q⟩:=h
 cases c
 cases d;obtain⟨z,a,n,r,b,e⟩:=I.xh f;obtain⟨h,b,i,c,j,d⟩:=I.xh g;calc PySem.P.add_list e d ?_ (by rw[List.size_toArray,List.size_toArray];lia);have f:a.toArray++b.toArray=(a++b).toArray:=by simp
 rw[f];calc⟨.ref _,_,I.XN (t':=s.toks) (r.append c) (by rw[List.length_append];lia),rfl,q _ I.fresh⟩
theorem EL{pins:List (Addr×Obj)}{s:Shared}{σ:St}{H:Hp}{l:Addr}{xs:List V}{i:Int}{t:Tok}{k:Nat}{Q:Unit->Shared->Prop}(I:Inv X pins σ H s)(b:H l=some (.lst xs))
  (c:-(2^63)<=i) (d:i<2^63) (f:seqIndex? i xs.length=some k) (h:∀s',Inv X pins σ (upd H l (.lst (xs.eraseIdx k))) s'->Q ⟨⟩ s'):
  wpAny (model X.prog X.w) X.A (delItem (.ref l) (.int i t)) Q X.xe s:=by
 obtain⟨z,a,n,r,g,e⟩:=I.xh b;calc PySem.P.delItem_list (k:=k) e (fitsIndex_both c d) (by rw[List.size_toArray,<-g];calc f) (h _ ?_) (by rw[List.size_toArray];lia);refine I.EI (kj:=a.eraseIdx k) (t':=s.toks) b e ?_ (r.eraseIdx k) ?_
 ·show a.toArray.eraseIdxIfInBounds k=(a.eraseIdx k).toArray;rw[List.eraseIdxIfInBounds_toArray]
 ·have:=uz xs k;lia
end
section
variable {prog:Program}{w:World}{A:Around}{E:Value->Shared->Prop}{s:Shared}
set_option maxRecDepth 100000 in
end
section
variable {X:Cx}
end
end
section
variable {a:Addr}{X:Cx}{H H':Hp}{pins:List (Addr×Obj)}{bg:List (Key×V)}{xs:List (List Key×Addr×Value)}{yP:List (TE×TE)}{pos:Pos}{σ:St}{Q:Value->Shared->Prop}
section
variable {κ:Type} [DecidableEq κ]
def fW(bg:List (κ×V))(k:κ):Option V:=(bg.find? λa=>decide (a.1=k)).map (·.2)
def putK(bg:List (κ×V))(k:κ)(v:V):List (κ×V):=
 if (bg.any λa=>decide (a.1=k))=true then bg.map (λa=>if a.1=k then(a.1,v) else a) else bg++[(k,v)]
theorem EM{k:κ}:fW ([]:List (κ×V)) k=none:=rfl
theorem eF{p:κ×V}{r:List (κ×V)}{k:κ}(e:p.1=k):fW (p::r) k=some p.2:=by simp[fW,List.find?_cons,e]
theorem eG{p:κ×V}{r:List (κ×V)}{k:κ}(e:¬p.1=k):fW (p::r) k=fW r k:=by simp[fW,List.find?_cons,e]
theorem kx(k:κ):∀bg:List (κ×V),(bg.any λa=>decide (a.1=k))=(fW bg k).isSome
 | []=>rfl
 |p::r=>by
  rw[List.any_cons];by_cases e:p.1=k
  ·simp only[eF e,decide_eq_true e,Bool.true_or,Option.isSome_some]
  ·rw[eG e,decide_eq_false e,Bool.false_or];calc kx k r
theorem xi(k j:κ)(y:V):∀bg:List (κ×V),fW (bg.map λa=>if a.1=k then(a.1,y) else a) j=(fW bg j).map λx=>if j=k then y else x
 | []=>rfl
 |p::r=>by
  have a:=xi k j y r;rw[List.map_cons];by_cases h:p.1=k
  ·rw[if_pos h];by_cases e:p.1=j
   ·rw[eF (p:=(p.1,y)) e,eF e,Option.map_some,if_pos (e.symm.trans h)]
   ·rw[eG (p:=(p.1,y)) e,eG e,a]
  ·rw[if_neg h];by_cases e:p.1=j
   ·rw[eF (p:=p) e,eF e,Option.map_some,if_neg (λz=>h (e.trans z))]
   ·rw[eG (p:=p) e,eG e,a]
theorem uB(k j:κ)(y:V):∀bg:List (κ×V),fW bg k=none->fW (bg++[(k,y)]) j=if j=k then some y else fW bg j
 | [],_=>by
  by_cases e:k=j
  ·rw[if_pos e.symm];exact eF (p:=(k,y)) e
  ·rw[if_neg (λz=>e z.symm)];calc eG (p:=(k,y)) e
 |p::r,a=>by
  rw[List.cons_append];have b:¬p.1=k:=λz=>by rw[eF z]at a;cases a
  rw[eG b]at a;have c:=uB k j y r a;by_cases e:p.1=j
  ·rw[eF e,eF e,if_neg (λz=>b (e.trans z))]
  ·rw[eG e,eG e,c]
theorem EN(bg:List (κ×V))(k j:κ)(y:V):fW (putK bg k y) j=if j=k then some y else fW bg j:=by
 unfold putK;by_cases a:(bg.any λb=>decide (b.1=k))=true
 ·rw[if_pos a,xi];rw[kx] at a;by_cases e:j=k
  ·obtain⟨x,b⟩:=Option.isSome_iff_exists.mp a;rw[if_pos e,e,b,Option.map_some,if_pos rfl]
  ·rw[if_neg e]
   cases fW bg j with
   |none=>rfl
   |some x=>rw[Option.map_some,if_neg e]
 ·rw[if_neg a];calc uB k j y bg ?_;rw[kx] at a
  cases q:fW bg k with
  |none=>rfl
  |some x=>rw[q]at a;calc(a rfl).elim
theorem ky(bg:List (κ×V))(k:κ)(v:V):(putK bg k v).length<=bg.length+1:=by
 unfold putK;split
 ·rw[List.length_map];lia
 ·rw[List.length_append,List.length_cons,List.length_nil];lia
theorem EO{bg:List (κ×V)}{k:κ}(v:V)(h:fW bg k=none):putK bg k v=bg++[(k,v)]:=by
 unfold putK;rw[kx,h];calc if_neg ∅
theorem ke.oR{o:Option V}{u:Option Value}(r:ke o u):o.isSome=u.isSome:=by
 cases o with
 |none=>cases u with
  |none=>rfl
  |some _=>calc(show False from r).elim
 |some _=>cases u with
  |none=>calc(show False from r).elim
  |some _=>rfl
theorem ke.getD{o:Option V}{u:Option Value}{d:V}{d':Value}(r:ke o u)(a:RelV d d'):RelV (o.getD d) (u.getD d'):=by
 cases o with
 |none=>cases u with
  |none=>calc a
  |some _=>calc(show False from r).elim
 |some _=>cases u with
  |none=>calc(show False from r).elim
  |some _=>calc r
theorem KV.val{bg:List (κ×V)}{vs:List (κ×Value)}(r:KV bg vs)(k:κ):ke (fW bg k) (valueAt vs k):=by
 unfold KV at r;induction r with
 |nil=>calc aal
 | @cons p q b a h t g=>
  obtain⟨d,i⟩:=h;by_cases e:p.1=k
  ·have c:q.1=k:=d.symm.trans e;have b:valueAt (q::a) k=some q.2:=by simp[valueAt,List.find?_cons,c]
   rw[eF e,b];exact i
  ·have c:¬q.1=k:=λz=>e (d.trans z);have b:valueAt (q::a) k=valueAt a k:=by simp[valueAt,List.find?_cons,c]
   rw[eG e,b];calc g
theorem KV.any{bg:List (κ×V)}{vs:List (κ×Value)}(r:KV bg vs)(k:κ):(bg.any λa=>decide (a.1=k))=vs.any λa=>decide (a.1=k):=by
 unfold KV at r;induction r with
 |nil=>rfl
 |cons h t a=>rw[List.any_cons,List.any_cons,a,h.1]
theorem KV.NM{bg:List (κ×V)}{vs:List (κ×Value)}(r:KV bg vs)(k:κ){y:V}{u:Value}(b:RelV y u):
  KV (bg.map λa=>if a.1=k then(a.1,y) else a) (vs.map λa=>if a.1=k then(a.1,u) else a):=by
 unfold KV at r ⊢;induction r with
 |nil=>calc .nil
 | @cons p q a d h t c=>
  rw[List.map_cons,List.map_cons];calc .cons ?_ c;obtain⟨a,d⟩:=h;by_cases e:p.1=k
  ·rw[if_pos e,if_pos (a.symm.trans e)];exact⟨a,b⟩
  ·rw[if_neg e,if_neg (λz=>e (a.trans z))];calc⟨a,d⟩
theorem KV.put{bg:List (κ×V)}{vs:List (κ×Value)}(r:KV bg vs)(k:κ){y:V}{u:Value}(a:RelV y u):KV (putK bg k y) (stored vs k u):=by
 unfold putK stored;rw[r.any k];by_cases e:(vs.any λb=>decide (b.1=k))=true
 ·rw[if_pos e,if_pos e];exact r.NM k a
 ·rw[if_neg e,if_neg e];calc Paired.snoc r ⟨rfl,a⟩
theorem KV.length{bg:List (κ×V)}{vs:List (κ×Value)}(r:KV bg vs):bg.length=vs.length:=Paired.length r
end
theorem uC{P:Program}{w:World}{k:Key}{u:Value}(r:RelV (kV k) u):(dB P w).is k u=true:=by
 cases k with
 |inl i=>obtain⟨t,e⟩:=(show ∃t,u=Value.int i t from r);subst e;calc wV P w i t
 |inr x=>obtain⟨t,e⟩:=(show ∃t,u=Value.str x t from r);subst e;calc wW P w x t
theorem uD{P:Program}{w:World}:∀{a:List Key}{us:List Value},Vals (a.map kV) us->ItemsAre (dB P w) a us
 | [],_,r=>by rw[List.map_nil]at r;cases r;calc .nil
 |k::a,_,r=>by
  rw[List.map_cons]at r
  cases r with
  |cons h t=>calc .cons (uC h) (uD t)
abbrev KT(H:Hp):List (List Key×V)->List (List Key×Addr×Value)->Prop:=Paired λp q=>p.1=q.1/\H q.2.1=some (.tup (p.1.map kV))/\RelV p.2 q.2.2
theorem KT.val{H:Hp}{bg:List (List Key×V)}{xs:List (List Key×Addr×Value)}(r:KT H bg xs)(k:List Key):ke (fW bg k) ((atKey xs k).map (·.2)):=by
 induction r with
 |nil=>calc aal
 | @cons p q b a h t g=>
  obtain⟨d,_,i⟩:=h;by_cases e:p.1=k
  ·have c:q.1=k:=d.symm.trans e;have b:atKey (q::a) k=some q.2:=by simp[atKey,List.find?_cons,c]
   rw[eF e,b];exact i
  ·have c:¬q.1=k:=λz=>e (d.trans z);have b:atKey (q::a) k=atKey a k:=by simp[atKey,List.find?_cons,c]
   rw[eG e,b];calc g
theorem KT.NM{H:Hp}{bg:List (List Key×V)}{xs:List (List Key×Addr×Value)}(r:KT H bg xs)(k:List Key){y:V}{u:Value}(c:RelV y u):
  KT H (bg.map λa=>if a.1=k then(a.1,y) else a) (xs.map (putAt k u)):=by
 induction r with
 |nil=>calc .nil
 | @cons p q a b h t d=>
  rw[List.map_cons,List.map_cons];calc .cons ?_ d;obtain⟨a,b,g⟩:=h;unfold putAt;by_cases e:p.1=k
  ·rw[if_pos e,if_pos (a.symm.trans e)];exact⟨a,b,c⟩
  ·rw[if_neg e,if_neg (λz=>e (a.trans z))];calc⟨a,b,g⟩
theorem KT.put{bg:List (List Key×V)}(r:KT H bg xs)(k:List Key){b:Addr}{y:V}{u:Value}(c:H b=some (.tup (k.map kV)))(a:RelV y u):
  KT H (putK bg k y) (storedH xs k b u):=by
 have e:(bg.any λb=>decide (b.1=k))=(atKey xs k).isSome:=by
  rw[kx,(r.val k).oR,Option.isSome_map]
 unfold putK storedH;rw[e];by_cases q:(atKey xs k).isSome=true
 ·rw[if_pos q,if_pos q];exact r.NM k a
 ·rw[if_neg q,if_neg q];calc Paired.snoc r ⟨rfl,c,a⟩
theorem KT.keeps{bg:List (List Key×V)}(r:KT H bg xs)(a:∀b ys,H b=some (.tup ys)->H' b=some (.tup ys)):KT H' bg xs:=
 Paired.M1 r λ_ _ z=>⟨z.1,a _ _ z.2.1,z.2.2⟩
section
variable {P:Program}{w:World}{H:Hp}{h:Heap}{a:Addr}
theorem Lq{u:HO}(ok:mj P w H h)(e:Rd H a u):cW P w H h a u:=e.ok ok
theorem uE(b:mj P w H h)(e:Rd H a (.dK bg)):bg.length<=sizeLine/\(a==sysModules)=false/\∃vs,KV bg vs/\h.DictOf (dB P w) a vs:=
 show cW P w H h a (.dK bg) from Lq b e
theorem Lr(b:mj P w H h)(e:H a=some (.dK bg)):bg.length<=sizeLine/\(a==sysModules)=false/\∃vs,KV bg vs/\h.DictOf (dB P w) a vs:=uE b (.inl e)
theorem rj{b:List Key}(c:mj P w H h)(e:H a=some (.tup (b.map kV))):(tupleKind (dB P w)).is h b a:=by
 obtain⟨_,d,r,o,f,g,n,i⟩:=(show cW P w H h a (.tup (b.map kV)) from c a _ e)
 calc⟨o,d.toArray,n,f,g,i,by simpa using uD r⟩
theorem uF{bg:List (List Key×V)}(d:mj P w H h)(e:Rd H a (.dT bg)):bg.length<=sizeLine/\(a==sysModules)=false/\
  ∃xs,KT H bg xs/\h.DictOfH (tupleKind (dB P w)) a xs:=by
 obtain⟨z,y,xs,r,o,g,i,j,k,n,p,s⟩:=(show cW P w H h a (.dT bg) from Lq d e)
 calc⟨z,y,xs,r,o,g,i,j,k,n,p,λx b=>?_,s⟩;have c:∀{l:List (List Key×V)} {m:List (List Key×Addr×Value)},KT H l m->∀x∈m,(tupleKind (dB P w)).is h x.1 x.2.1:=by
  intro l m q;induction q with
  |nil=>intro x b;calc nomatch b
  | @cons p q g i f t u=>
   intro x b;rcases List.mem_cons.mp b with e|b
   ·subst e;exact rj d (by rw[<-f.1];calc f.2.1)
   ·exact u x b
 calc c r x b
theorem R8{bg:List (List Key×V)}(b:mj P w H h)(e:H a=some (.dT bg)):bg.length<=sizeLine/\(a==sysModules)=false/\
  ∃xs,KT H bg xs/\h.DictOfH (tupleKind (dB P w)) a xs:=uF b (.inl e)
end
def gX(H:Hp)(a:Addr)(y:V)(r:Option V):Prop:=
 (∃bg k,Rd H a (.dK bg)/\y=kV k/\r=fW bg k)\/∃bg k b,Rd H a (.dT bg)/\y=.ref b/\H b=some (.tup (k.map kV))/\r=fW bg k
def tL(H:Hp)(a:Addr)(y v:V)(H':Hp):Prop:=
 (∃bg k,H a=some (.dK bg)/\y=kV k/\bg.length<sizeLine/\H'=upd H a (.dK (putK bg k v)))\/
 ∃bg k b,H a=some (.dT bg)/\y=.ref b/\H b=some (.tup (k.map kV))/\bg.length<sizeLine/\H'=upd H a (.dT (putK bg k v))
theorem gX.k{k:Key}(e:H a=some (.dK bg)):gX H a (kV k) (fW bg k):=.inl ⟨bg,k,.inl e,rfl,rfl⟩
theorem tL.k{k:Key}{v:V}(e:H a=some (.dK bg))(b:bg.length<sizeLine):tL H a (kV k) v (upd H a (.dK (putK bg k v))):=.inl ⟨bg,k,e,rfl,b,rfl⟩
section
variable {X:Cx}{pins:List (Addr×Obj)}{σ:St}{H:Hp}{s:Shared}{a:Addr}{y v:V}{u r:Value}{o:Option V}{A:Around}{E:Value->Shared->Prop}
theorem Inv.big(I:Inv X pins σ H s):sysModules<s.heap.objs.size:=by
 have h:mainGlobals<s.heap.objs.size:=(I.mod.glob.keeps I.bk).lt;calc Nat.lt_trans ∅ h
theorem Cs(n:A.units+1<cLine)(I:Inv X pins σ H s)(g:gX H a y (some v))(m:RelV y u)(h:∀w' s',Inv X pins σ H s'->RelV v w'->Q w' s'):
  wpAny (model X.prog X.w) A (getItem (.ref a) u) Q E s:=by
 rcases g with⟨bg,k,e,d,l⟩|⟨bg,k,b,e,d,q,l⟩
 ·subst d;obtain⟨z,p,g,c,f⟩:=uE I.aW e;obtain⟨w',i,j⟩:=ke.some_of (v:=v) (o:=valueAt g k) (by rw[l];calc c.val k);exact wpAny_getItem_of (uC m) f.mapOf i (h w' _ (I.tok _) j)
 ·subst d
  cases(show u=Value.ref b from m);obtain⟨z,p,xs,c,f⟩:=uF I.aW e;obtain⟨w',i,j⟩:=ke.some_of (v:=v) (o:=(atKey xs k).map (·.2)) (by rw[l];calc c.val k);obtain⟨p,b,d⟩:=Option.map_eq_some_iff.mp i;calc wpAny_getItem_heap (tupleKind_room_in1 n) (rj I.aW q) f b ?_;rw[d];calc h w' _ (I.tok _) j
theorem JK(m:A.units+1<cLine)(I:Inv X pins σ H s)(g:gX H a y o)(j:RelV y u)(h:∀s',Inv X pins σ H s'->Q (.bool (!o.isSome)) s'):
  wpAny (model X.prog X.w) A (compareOp .NotIn u (.ref a)) Q E s:=by
 rcases g with⟨bg,k,e,d,l⟩|⟨bg,k,b,e,d,n,l⟩
 ·subst d;obtain⟨z,f,g,c,i⟩:=uE I.aW e;calc wpAny_notIn_of (uC j) f i.mapOf ?_;rw[<-(c.val k).oR,<-l];exact h _ (I.tok _)
 ·subst d
  cases(show u=Value.ref b from j);obtain⟨z,f,xs,c,i⟩:=uF I.aW e;calc wpAny_notIn_heap (tupleKind_room_in1 m) (rj I.aW n) f i ?_;have q:=(c.val k).oR;rw[Option.isSome_map]at q;rw[<-q,<-l];calc h _ (I.tok _)
theorem vG{h':Heap}{t':Nat}{b:HO}(I:Inv X pins σ H s)(d:RC (H a))(f:Heap.SameBut a s.heap h')(g:∃q,h'.get? a=some q)(c:cW X.prog X.w (upd H a b) h' a b):
  Inv X pins σ (upd H a b) {s with heap:=h',toks:=t'}:=
 I.write (x:=a) (e:=a) d (.inl rfl) (λb q h z=>(f.2 b h).trans z) g c
theorem ER{P:Program}{w:World}{h':Heap}{vs:List (Key×Value)}(z:bg.length<=sizeLine)(c:(a==sysModules)=false)(b:KV bg vs)(d:h'.DictOf (dB P w) a vs):
  cW P w H' h' a (.dK bg):=⟨z,c,vs,b,d⟩
theorem Ct{Q:Unit->Shared->Prop}(G:A.units+1<cLine)(I:Inv X pins σ H s)(g:tL H a y v H')(B:RelV y u)(C:RelV v r)(h:∀s',Inv X pins σ H' s'->Q ⟨⟩ s'):
  wpAny (model X.prog X.w) A (setItem (.ref a) u r) Q E s:=by
 rcases g with⟨bg,k,e,c,l,j⟩|⟨bg,k,b,e,c,D,l,j⟩
 ·subst c j;obtain⟨z,m,g,d,n⟩:=Lr I.aW e;have o:g.length<=sizeLine:=by rw[<-d.length];exact z
  have p:(putK bg k v).length<=sizeLine:=by have:=ky bg k v;lia
  calc wpAny_setItem_pairs (hsz:=o) (uC B) n λF f x=>h _ ?_;have g:∃q,F.get? a=some q:=let ⟨q,_,_,i,_⟩:=f;⟨q,i⟩
  exact vG I (by rw[e];calc aal) x g (ER p m (d.put k C) f)
 ·subst c j
  cases(show u=Value.ref b from B);obtain⟨z,m,xs,d,n⟩:=R8 I.aW e;have o:xs.length<=sizeLine:=by rw[<-Paired.length d];exact z
  have p:(putK bg k v).length<=sizeLine:=by have:=ky bg k v;lia
  calc wpAny_setItem_heap (hsz:=o) (tupleKind_room_in1 G) (rj I.aW D) n λF f x=>h _ ?_;obtain⟨q,g,j,i,l,n,o,_,t⟩:=f;calc vG I (by rw[e];calc aal) x ⟨q,i⟩ ⟨p,m,_,(d.put k D C).keeps λc h b=>?_,q,g,j,i,l,n,o,t⟩;rw[av (um b e (λz=>nomatch z))];calc b
end
section
variable {X:Cx}{pins:List (Addr×Obj)}{σ:St}{H:Hp}{s:Shared}{a:Addr}{bg:List (Key×V)}{k:Key}{u:Value}{A:Around}{E:Value->Shared->Prop}
end
theorem xj{s:Shared}{y:V}{o:Option V}(I:Inv X pins σ H s)(g:gX H a y o):s.TypeIs (.ref a) "dict":=by
 rcases g with⟨bg,k,e,_,_⟩|⟨bg,k,b,e,_,_,_⟩
 ·obtain⟨_,_,c,_,b⟩:=uE I.aW e;exact b.typeIs
 ·obtain⟨_,_,xs,_,b⟩:=uF I.aW e;calc b.typeIs
def vH(b c:TE):TE:=λσ H Q=>b σ H λy d=>c σ d λx b=>∃a o,x=.ref a/\gX b a y o/\Q (.bl (!o.isSome)) b
def ES(b c d:TE):TS:=λD σ H=>d σ H λv e=>b σ e λx d=>c σ d λy e=>∃a b,x=.ref a/\tL e a y v b/\D.nx σ b
section
variable {X:Cx}{o i e value:Expr}{pos pos' Nv:Pos}{td ty tv:TE}
theorem Cu(b:X.A.units+1<cLine)(c:PE X i ty)(d:PE X o td):PC X .NotIn i o (vH ty td):=by
 walk_at "xc";refine dy (c pins s σ H _ I h) λw e ⟨y,f,j,k,l⟩=>dy (d pins e σ f _ j l) λu c m=>?_;obtain⟨x,n,p,q,a,r,t,g,v⟩:=m;subst t;obtain rfl:u=Value.ref a:=q;exact JK b p g k λd c=>⟨.bl (!r.isSome),n,c,rfl,v⟩
theorem lL(b:X.A.units+1<cLine)(c:PE X o td)(d:PE X i ty)(e:PE X value tv)(f:swapsWith value (some (.Subscript o i pos')) pos.line X.env=pure false):
  PS X (.Assign [.Subscript o i pos'] value pos) (ES td ty tv):=by
 walk_at "xd";refine wpAny_Assign_Subscript (dy (e pins s σ H _ I h) λr j ⟨v,k,l,m,n⟩=>dy (c pins j σ k _ l n) λu e ⟨x,p,q,t,r⟩=>dy (d pins e σ p _ q r) λc j w=>?_) f;obtain⟨y,c,z,B,a,C,E,g,F⟩:=w;subst E;obtain rfl:u=Value.ref a:=t;exact Ct b z g B m λd c=>⟨σ,C,c,F⟩
end
theorem xk{P:Program}{w:World}(h:Heap)(a:sysModules<h.objs.size):cW P w H (h.push {cls:=.type "dict",data:=.dict #[]}) h.objs.size (.dK []):=
 ⟨U' _,beq_eq_false_iff_ne.mpr (Ne.symm (V' a)),[],.nil,Heap.DictOf.new h⟩
def zo:TE:=λ_ H Q=>∀p,H p=none->Q (.ref p) (upd H p (.dK []))
section
variable {X:Cx}{pos:Pos}
theorem ET:PE X (.Dict [] [] pos) zo:=.mk λpins s σ H Q I h=>
 wpAny_Dict_empty ⟨.ref s.heap.objs.size,_,I.laid (a:=s.heap.objs.size) (o:=.dK []) (t':=s.toks) (λ_ _ q=>J' _ q) (K' _) (xk s.heap I.big),rfl,h _ (I.aW.fresh (K' _))⟩
end
def oS:List (TE×TE)->St->Hp->(List (V×V)->Hp->Prop)->Prop
 | [],_,H,Q=>Q [] H
 |(a,b)::r,σ,H,Q=>a σ H λx c=>b σ c λy a=>oS r σ a λb c=>Q ((x,y)::b) c
abbrev VV:List (V×V)->List (Value×Value)->Prop:=Paired λp q=>RelV p.1 q.1/\RelV p.2 q.2
def V8(X:Cx)(pos:Pos)(b:List (Option Expr))(a:List Expr)(yP:List (TE×TE)):Prop:=
 ∀(pins:List (Addr×Obj)) (s:Shared) (σ:St) (H:Hp) (Q:List (V×V)->Hp->Prop),Inv X pins σ H s->oS yP σ H Q->
  wpAny (model X.prog X.w) X.A (evalPairs (pairTrees b a X.env pos)) (λvs s'=>∃a H',Inv X pins σ H' s'/\VV a vs/\Q a H') X.xe s
theorem JL:V8 X pos [] [] []:=λpins s σ H Q I h=>pairTrees_nil_walk ⟨[],H,I,.nil,h⟩
theorem rm{k v:Expr}{a:List (Option Expr)}{vs:List Expr}{b c:TE}(d:PE X k b)(e:PE X v c)(f:V8 X pos a vs yP):
  V8 X pos (some k::a) (v::vs) ((b,c)::yP):=λpins s σ H Q I h=>
 pairTrees_cons_walk (dy (d pins s σ H _ I h) λu a ⟨x,b,c,g,i⟩=>dy (e pins a σ b _ c i) λm d ⟨y,h,j,k,l⟩=>
  dy (f pins d σ h _ j l) λm n ⟨b,c,e,a,i⟩=>⟨(x,y)::b,c,e,.cons ⟨g,k⟩ a,i⟩)
def ml(bg a:List (Key×V)):List (Key×V):=a.foldl (λb c=>putK b c.1 c.2) bg
theorem KV.merge:∀{a:List (Key×V)}{b:List (Key×Value)}{bg:List (Key×V)}{vs:List (Key×Value)},KV a b->KV bg vs->KV (ml bg a) (merged vs b):=by
 intro a b bg vs r;unfold KV at r;induction r generalizing bg vs with
 |nil=>intro q;calc q
 | @cons p q b c h t a=>
  intro b;have e:KV (putK bg p.1 p.2) (stored vs q.1 q.2):=by
   have:=b.put p.1 h.2;rw[<-h.1];exact this
  calc a e
theorem l9:∀(a bg:List (Key×V)),(ml bg a).length<=bg.length+a.length
 | [],bg=>by show bg.length<=bg.length+0;lia
 |p::r,bg=>by
  have a:=l9 r (putK bg p.1 p.2);have a:=ky bg p.1 p.2;show(ml (putK bg p.1 p.2) r).length<=_;rw[List.length_cons];lia
theorem rq{P:Program}{w:World}:∀{bg:List (Key×V)}{ws:List (Value×Value)},VV (bg.map λb=>(kV b.1,b.2)) ws->∃d,Carries (dB P w) ws d/\KV bg d
 | [],_,r=>by rw[List.map_nil]at r;cases r;calc⟨[],aal,.nil⟩
 |p::bg,_,r=>by
  rw[List.map_cons]at r
  cases r with
  | @cons a b c e h t=>
   obtain⟨d,c,q⟩:=rq (P:=P) (w:=w) t;obtain⟨f,e⟩:=b;calc⟨(p.1,e)::d,⟨uC h.1,rfl,c⟩,.cons ⟨rfl,h.2⟩ q⟩
def AM(yP:List (TE×TE)):TE:=λσ H Q=>∀p,H p=none->oS yP σ (upd H p (.dK [])) λc a=>a p=some (.dK [])/\∃bg:List (Key×V),c=bg.map (λb=>(kV b.1,b.2))/\bg.length<=15/\Q (.ref p) (upd a p (.dK (ml [] bg)))
theorem JM{b:List (Option Expr)}{d:List Expr}(h:V8 X pos b d yP)(k:b.all (·.isSome)=true)(l:b.length=d.length)(m:b≠[])
  (f:b.length<=15):PE X (.Dict b d pos) (AM yP):=by
 refine⟨?_⟩;intro pins s σ H Q I q;have b:=I.aW.fresh (K' s.heap.objs.size);have d:=I.laid (a:=s.heap.objs.size) (o:=.dK []) (h':=s.heap.push {cls:=.type "dict",data:=.dict #[]}) (t':=s.toks) (λ_ _ q=>J' _ q) (K' _) (xk s.heap I.big);refine wpAny_Dict_walk (knd:=dB X.prog X.w) k l m f (dy (h pins _ σ _ _ d (q _ b)) λz A n=>?_);obtain⟨b,d,j,g,e,bg,p,f,r⟩:=n;subst p;obtain⟨t,c,u⟩:=rq (P:=X.prog) (w:=X.w) g;obtain⟨z,v,b,x,y⟩:=Lr j.aW e
 cases x;calc⟨t,c,y,λi b d=>⟨.ref s.heap.objs.size,_,?_,rfl,r⟩⟩;have c:(ml [] bg).length<=sizeLine:=by
  have f:=l9 bg [];rw[List.length_nil]at f;rw[sizeLine_eq];lia
 have f:∃q,i.get? s.heap.objs.size=some q:=let ⟨q,_,_,g,_⟩:=b;⟨q,g⟩
 calc vG j (by rw[e];calc aal) d f (ER c v (u.merge .nil) b)
structure M2(X:Cx)(o:Expr)(m:Str)(apos:Pos)(e f:Expr)(iX:Pos):Prop where
 base:attributeBase o m X.env (eval o X.env)=eval o X.env
 few:((backTo iX (starEach [e,f] X.env)).all (λx=> !x.1) && (backToKw iX (keywordEach [] X.env)).all (λx=>x.1.isSome)
  && decide (([e,f]:List Expr).length + ([]:List Keyword).length + (if ([]:List Keyword).isEmpty then 0 else 1) < 30))=true
 line:(apos.endLine==iX.line)=true
 trees:backTo iX (starEach [e,f] X.env)=[(false,eval e X.env),(false,eval f X.env)]
def IsD(H:Hp)(a:Addr):Prop:=(∃bg,Rd H a (.dK bg))\/∃bg,Rd H a (.dT bg)
theorem NO{s:Shared}(I:Inv X pins σ H s)(d:IsD H a):
  s.TypeIs (.ref a) "dict"/\(∀b,Value.ref a=.ref b->∃c,s.heap.get? b=some c/\c.dict=none)/\(a==sysModules)=false:=by
 rcases d with⟨bg,e⟩|⟨bg,e⟩
 ·obtain⟨_,g,d,_,f⟩:=uE I.aW e;refine⟨f.typeIs,λb q=>?_,g⟩
  cases q;obtain⟨c,_,_,h,i,_⟩:=f;exact⟨c,h,i.2.1⟩
 ·obtain⟨_,g,xs,_,f⟩:=uF I.aW e;refine⟨f.typeIs,λb q=>?_,g⟩
  cases q;obtain⟨c,_,_,h,i,_⟩:=f;calc⟨c,h,i.2.1⟩
section
variable {X:Cx}{pins:List (Addr×Obj)}{σ:St}{H:Hp}{s:Shared}{a:Addr}{y d:V}{u r:Value}{o:Option V}{A:Around}{E:Value->Shared->Prop}
theorem NP(p:A.units+1<cLine)(I:Inv X pins σ H s)(g:gX H a y o)(m:RelV y u)(n:RelV d r)(h:∀w' s',Inv X pins σ H s'->RelV (o.getD d) w'->Q w' s'):
  wpAny (model X.prog X.w) A (call (.builtin "dict.get") [.ref a,u,r]) Q E s:=by
 rcases g with⟨bg,k,e,i,l⟩|⟨bg,k,b,e,i,q,l⟩
 ·subst i;obtain⟨z,j,g,c,f⟩:=uE I.aW e;calc call_meetsIn RB f.typeIs PySem.F.entry_dict_get (PySem.F.args_dict_get_3 _ _ _) (meets_dict_get_default (dB X.prog X.w) a (uC m) j r) ⟨_,f.mapOf,h _ _ (I.tok _) ?_⟩;rw[l];exact(c.val k).getD n
 ·subst i
  cases(show u=Value.ref b from m);obtain⟨z,j,xs,c,f⟩:=uF I.aW e;calc call_meetsIn RB f.typeIs PySem.F.entry_dict_get (PySem.F.args_dict_get_3 _ _ _) (meetsH_dict_get_default (tupleKind (dB X.prog X.w)) a b j r) ⟨tupleKind_room_in1 p,k,xs,rj I.aW q,f,h _ _ (I.tok _) ?_⟩;rw[l];calc(c.val k).getD n
end
def NQ(c d e:TE):TE:=λσ H Q=>c σ H λx b=>∃a,x=.ref a/\IsD b a/\d σ b λy c=>e σ c λz b=>∃o,gX b a y o/\Q (o.getD z) b
section
variable {X:Cx}{o e f:Expr}{apos iX:Pos}{td ty tx:TE}
theorem EU(c:X.A.units+1<cLine)(g:PE X o td)(i:PE X e ty)(j:PE X f tx)(m:M2 X o "get" apos e f iX):PE X (.Call (.Attribute o "get" apos) [e,f] [] iX) (NQ td ty tx):=by
 walk_at "xc";refine wpAny_Call_method m.base m.few m.line PySem.F.plainAttrs_dict RB PySem.F.type_dict_get (dy (g pins s σ H _ I h) λu k l=>?_);obtain⟨x,n,b,p,a,q,d,r⟩:=l;subst q;obtain rfl:u=Value.ref a:=p;obtain⟨g,l,_⟩:=NO b d;refine⟨g,l,?_⟩;rw[m.trees];refine Calls.callWith_builtin rfl (Calls.evalArgs_plain (Calls.spliced_cons (dy (i pins k σ n _ b r) λw p ⟨y,q,t,u,v⟩=>
  Calls.spliced_cons (dy (j pins p σ q _ t v) λl m ⟨z,b,d,i,n,g,k⟩=>Calls.spliced_nil ?_))))
 calc NP c d g u i λm n j l=>⟨_,b,j,l,k⟩
end
section
variable {X:Cx}{pins:List (Addr×Obj)}{σ:St}{H:Hp}{s:Shared}{a:Addr}{y:V}{u:Value}{A:Around}{E:Value->Shared->Prop}
end
end
end L2
namespace Att
open PySem PySem.W PySem.Calls PyProof.Rows
theorem qu{P:Params}{h:Heap}:∀(ns:List Int) (vs:List Value),WellAll P h vs (ns.map WData.int)->IntsAre vs ns:=by
 intro ns;induction ns with
 |nil=>
  intro vs w;rw[List.map_nil]at w
  cases w;calc .nil
 |cons n ns c=>
  intro vs w;rw[List.map_cons]at w
  cases w with
  |cons a b=>
   cases a;calc .cons _ _ (c _ b)
theorem Cw{l:OpenLaw}{n:Nat}(i:l.most=some n){P:Params}{h:Heap}{args:List WData}{b:List Value}
  (f:l.row.toRowW.claim.pre args=true) (j:WellAll P h b args):
  ∃a vs ns,b=[Value.ref a]/\args=[WData.list (ns.map WData.int)]/\h.get? a=some {cls:=.type "list",data:=.seq vs.toArray}/\IntsAre vs ns/\ns.length<=n:=by
 have e:WShape.hasAll [] args [.list .int]=true:=(pre_splitW f).1;have g:l.pre.holds [] {args:=args}=true:=(pre_splitW f).2;obtain⟨d,r,rfl,k,m⟩:=hasAllW_cons e;obtain rfl:=hasAllW_nil m;obtain⟨q,rfl,o⟩:=hasW_list k;obtain⟨ns,rfl⟩:=items_int o;have c:ns.length<=n:=by
  unfold OpenLaw.pre at g;have a:(WTm.not (.lt (.lit (.int (n:Int))) (.len (.arg 0)))).holds [] {args:=[.list (ns.map .int)]}=true:=by
   have a:=(holds_andW g).1;rw[i]at a;exact a
  have b:=condW_of a (w_not (w_lt w_lit (w_len_list (w_arg rfl))));rw[List.length_map]at b;calc Nat.le_of_not_lt λq=>?_;have a:(n:Int)<((ns.length:Nat):Int):=by lia
  first
   |(rw[decide_eq_true a]at b;calc absurd b ∅)
   |(simp at b;lia)
 cases j with
 |cons p s=>
  cases s
  cases p with
  |list a b=>calc⟨_,_,ns,rfl,rfl,a,qu ns _ b,c⟩
theorem Cy(l:OpenLaw)(args:List WData):l.row.toRowW.claim.post args (.bool true) args=true:=
 postW_of (r:=l.row.toRowW) (X:=(true == true))
  (show WShape.has [] (.bool true) .bool=true by first|rfl|decide|simp[WShape.has,WShape.arms,WShape.armsAll])
  (show(WTm.eq .res (.lit (.bool true))).value [] {args:=args,res:=some (.bool true),after:=args}=some (.bool (true==true)) from w_eq_bool (w_res rfl) w_lit) rfl
theorem xl{l:OpenLaw}{n:Nat}{q:Program}{c:List Str}{m:(Str->Option Value)->Heap->Prop}{p:World->Heap->Prop}{d:DefRec}
  (v:l.most=some n) (x:d.params.defaults=[])
  (call:∀(w:World) (s₀ b:Shared) (h j:Str->Option Value) (g:Addr) (o:Obj) (k i e:Value) (a:Addr) (vs:List Value) (ns:List Int),
   Ground q c [] m w s₀ h j b.heap->p w b.heap->
   b.heap.get? g=some o->o.data=.func (docDef d.name d.params d.body d.scope k i e)->b.heap.CodeRec i d.name->h d.name=some (.ref g)->
   b.heap.get? a=some {cls:=.type "list",data:=.seq vs.toArray}->IntsAre vs ns->ns.length<=n->b.gens=#[]->
   codeAny (model l.prog w) callerA (.call (.ref g) ⟨[.ref a],[]⟩) (λr s'=>r=.ok (.ret (.bool true))/\OldK b.heap s'.heap/\s'.os=b.os/\AllBare s'.gens) b):
  WalkO q c m p l.row.toRowW d [] (λf vs=>PySem.call f vs):=by
 intro w s₀ b h j G Y g o k i e y kV z A B s C D t u K E F H I L;obtain rfl:y=.none:=Dflts.none s x;obtain rfl:kV=.none:=Dflts.noKw s;obtain⟨a,vs,ns,rfl,rfl,f,c,d⟩:=Cw v E I;calc enter_call (codeAny_mono (call w s₀ b h j g o k i e a vs ns G Y z (fd_plain A) B C f c d D) λr s' J=>?_);obtain⟨rfl,a,b,c⟩:=J;calc⟨.inl ⟨.bool true,.bool true,[],rfl,λ_=>rfl,.bool true,Cy l _,λ_=>⟨List.Pairwise.nil,λ_ d=>(nomatch d)⟩⟩,a,b,c⟩
section
variable {prog:Program}{w:World}{A:Around}{E:Value->Shared->Prop}{s:Shared}{K:Frag}
end
end Att
namespace L2
open PySem PySem.Spec PyProof.Rows
section
theorem uG:∀{vs:List Value}{ns:List Int},IntsAre vs ns->Vals (ns.map V.int) vs
 |_,_,.nil=>.nil
 |_,_,.cons n t h=>.cons ⟨t,rfl⟩ (uG h)
def NS(H:Hp):Prop:=∀b,H b=none\/∃o xs,H b=some (.yM o (.lst xs))
theorem EV{P:Program}{w:World}{K:W.Frag}{j J:Str->Option Value}{CX:IB}{k:Nat}{m a:Addr}{n:FuncData}{x:Str}{sp:Sp}{c:Shared}{vs:List Value}{ns:List Int}
  (O:K.In c.heap) (l:c.heap.Ns mainGlobals j) (g:c.heap.Ns builtinsNs J) (L:∀x:Str,x≠"__name__"->J x=bootBuiltins x) (XR:c.heap.NoLimit) (hg:c.gens=#[])
  (G:c.heap.get? a=some {cls:=.type "list",data:=.seq vs.toArray}) (R:IntsAre vs ns) (S:ns.length<=sizeLine) (hr:eU k callerA)
  (F:∀base:Heap,K.In base->base.Ns mainGlobals j->lU P w K j base CX k m n [x] sp) (Sb:∀(s:Shared) (u:Value),BindsTo s n ⟨[u],[]⟩ [(x,u)])
  (Lp:∀H:Hp,NS H->aO K H a (ns.map V.int)->sp [.ref a] H (λv _=>v=.bl true) λ_ _ _=>False)
  (XS:∀H e s',CX [] H c (λ_ _ _=>False) e s'->False):
  codeAny (model P w) callerA (.call (.ref m) ⟨[.ref a],[]⟩) (λr s'=>r=.ok (.ret (.bool true))/\OldK c.heap s'.heap/\s'.os=c.os/\AllBare s'.gens) c:=by
 have T:=uG R;have XT:=R.length;have i:∀H:Hp,NS H->aO K H a (ns.map V.int)->mj P w H c.heap->(∀b,H b≠none->b=a)->(H a≠none->K.lookup a=none)->
   codeAny (model P w) callerA (.call (.ref m) ⟨[.ref a],[]⟩) (λr s'=>r=.ok (.ret (.bool true))/\OldK c.heap s'.heap/\s'.os=c.os/\AllBare s'.gens) c:=by
  intro H U hS X Y hK;have Z:∀{b:Addr} {o:Obj},c.heap.get? b=some o->H b=none->(vn c.heap H).get? b=some o:=λe n=>DZ e n;have RW:∀{b:Addr} {o:Obj} {p:Array DictEntry} {t:Nat},c.heap.get? b=some o->o.data=.dict p t->H b=none:=λ{b o p t} e d=>by
   cases q:H b with
   |none=>rfl
   |some u=>
    have M:b=a:=Y b (by rw[q];simp);subst M;rw[G]at e;cases e;have d':Data.seq vs.toArray _=Data.dict p t:=d
    cases d'
  have I:∀{b:Addr} {m:Str->Option Value},c.heap.Ns b m->(vn c.heap H).Ns b m:=λ{b m} ⟨o,p,t,e,d,r⟩=>⟨o,p,t,Z e (RW e d),d,r⟩
  have y:K.In (vn c.heap H):=λb o e=>Z (O b o e) (by
   cases q:H b with
   |none=>rfl
   |some u=>
    have M:b=a:=Y b (by rw[q];simp);subst M;rw[hK (by rw[q];simp)] at e;cases e)
  have d:Mod K j (vn c.heap H):=⟨y,I l,⟨J,I g,L⟩,let ⟨k,m,n⟩:=XR;⟨k,I m,n⟩⟩
  have k:ze P w K j (vn c.heap H) callerA [] c H:=⟨rfl,d,λb o e=>Jl e,Nat.le_of_eq (B7 _ _),trivial,λb g=>absurd (show b∈([]:List Addr) from g) nofun,X,.of_eq hg⟩
  refine codeAny_mono ((F _ y (I l)).run callerA [] c H ⟨[.ref a],[]⟩ [.ref a] [.ref a] _ _ hr k (Sb c (.ref a)) (.cons rfl .nil) (Lp H U hS)) λr s' h=>?_
  cases r with
  |error e=>calc(XS H e s' h).elim
  |ok fl=>
   cases fl with
   |next=>calc aas h
   |brk=>calc aas h
   |cont=>calc aas h
   |ret u=>
    obtain⟨v,c,os,B,un,XU,r',q⟩:=h;have q':v=.bl true:=q;subst q';obtain rfl:u=Value.bool true:=r';refine⟨rfl,OldK.of_keep λb o e=>?_,os,B⟩
    cases q:H b with
    |none=>calc un.keep b o e q (by intro z;calc absurd (show b∈([]:List Addr) from z) nofun) nofun
    |some u=>
     rcases U b with z|⟨ob,c,z⟩
     ·rw[q]at z;cases z
     ·have z2:=un.vm b ob _ z;obtain⟨e1,_⟩:=X b _ z;obtain⟨e2,_⟩:=XU b _ z2;rw[e]at e1;cases e1;exact e2
 cases N:K.lookup a with
 |some o=>
  have e:=O a o N;rw[G]at e
  cases e;calc i (λ_=>none) (λ_=>.inl rfl) (.inr ⟨_,vs.toArray,_,N,rfl,rfl,rfl,by rw[List.size_toArray,XT];calc S,by simpa using T⟩) (λb u z=>by have C:(none:Option HO)=some u:=z;cases C) (λb z=>absurd rfl z) λz=>absurd rfl z
 |none=>
  refine i (λb=>if b=a then some (.yM {cls:=.type "list",data:=.seq vs.toArray} (.lst (ns.map V.int))) else none) (λb=>?_) (.inl (.inr ⟨{cls:=.type "list",data:=.seq vs.toArray},if_pos rfl⟩)) (λb u z=>?_) (λb z=>?_) λ_=>N
  ·by_cases g:b=a
   ·exact .inr ⟨_,_,if_pos g⟩
   ·exact .inl (if_neg g)
  ·by_cases g:b=a
   ·have C:=(if_pos g).symm.trans z
    cases C;subst g;exact⟨G,by rw[List.length_map];calc S,vs,_,T,G⟩
   ·have C:=(if_neg g).symm.trans z
    cases C
  ·by_cases g:b=a
   ·exact g
   ·calc absurd (if_neg g) z
end
section
theorem JO{l:W.OpenLaw}{n k:Nat}{q:Program}{c:List Str}{o:(Str->Option Value)->Heap->Prop}{m:World->Heap->Prop}{d:DefRec}{K:Params->W.Frag}{CX:World->IB}{sp:World->Sp}{x:Str}
  (p:l.most=some n) (r:n<=sizeLine) (t:d.params.defaults=[]) (y:eU k callerA)
  (z:∀(w:World) (h:Heap),m w h->(K w.params).In h)
  (F:∀(w:World) (i:Str->Option Value) (j:Addr) (h:Heap),(K w.params).In h->h.Ns mainGlobals i->i d.name=some (.ref j)->
   ∃h:FuncData,(∀(s:Shared) (u:Value),BindsTo s h ⟨[u],[]⟩ [(x,u)])/\
    ∀base:Heap,(K w.params).In base->base.Ns mainGlobals i->lU l.prog w (K w.params) i base (CX w) k j h [x] (sp w))
  (u:∀(w:World) (H:Hp) (a:Addr) (ns:List Int),ns.length<=n->NS H->aO (K w.params) H a (ns.map V.int)->sp w [.ref a] H (λv _=>v=.bl true) λ_ _ _=>False)
  (n:∀(w:World) (H:Hp) (s:Shared) (e:Value) (s':Shared),CX w [] H s (λ_ _ _=>False) e s'->False):
  W.WalkO q c o m l.row.toRowW d [] (λf vs=>PySem.call f vs):=by
 calc Att.xl p t λw k f i v j o x A l a vs ns G Y B C D m q d c s=>?_;have k:=z w _ Y;obtain⟨h,l,o⟩:=F w i j _ k G.T.g m;calc EV k G.T.g G.T.b G.T.builtins G.T.nolimit s q d (Y' c r) y o l (λH h p=>u w H a ns c h p) λH e s'=>n w H f e s'
end
section
variable {f:Addr}{st:Stmt}{qual:Str}
def eA(s:Stmt):Arguments:=match s with
 | .FunctionDef _ a _ _ _ _ _ _ _ _=>a
 |_=>{posonlyargs:=[],args:=[],vararg:=none,kwonlyargs:=[],kw_defaults:=[],kwarg:=none,defaults:=[]}
def di(s:Stmt):List Stmt:=match s with
 | .FunctionDef _ _ b _ _ _ _ _ _ _=>b
 |_=>[]
def ax(s:Stmt):Scope:=match s with
 | .FunctionDef _ _ _ _ _ _ a _ _ _=>a
 |_=>{kind:=.function,names:=[],isGenerator:=false,isCoroutine:=false}
abbrev Cz:IB:=λ_ _ _ _ _ _=>False
abbrev E0:XK:=λ_ _ _=>False
theorem AO{X:Cx}:Passes Cz X E0:=λ_ _ _ _ _ _ _ h=>h.elim
structure JP(K:W.Frag)(x qual:Str)(st:Stmt)(f:Addr)(fd:FuncData):Prop where
 ex:∃(oc:Value) (od:Option Addr) (kV doc pm:Value) (an:Option Addr) (gz ct:Value) (Lo:Array (Option Value)),
  fd=W.fnOf x qual (eA st) (di st) (ax st) .none kV doc pm an gz ct/\K.lookup f=some ⟨oc,od,.func fd,Lo⟩/\W.codeIn K gz qual=true
 kp:W.keepIn K (.ref f)=true
section
variable {P:Program}{w:World}{K:W.Frag}{mg:Str->Option Value}{base:Heap}
theorem JP.ok{x:Str}{d:FuncData}{N b:List Str}{k:Nat}{sp:Sp}(F:JP K x qual st f d)(S:aC N b (ax st))(c:∀vs H Q E,sp vs H Q E->vs.length=b.length)
  (e:∀(a:Value) (A:Around) (outer:List Env) (s:Shared) (H:Hp) (vs:List V) (Q:VK) (E:XK),eU k (A.deeper (envOfC qual (ax st) s.heap.objs.size f a))->sp vs H Q E->
   ∃t,wG (q9 Cz P w K mg base N qual (ax st) f a A outer s H E).Jn (di st) t/\t {nx:=λ_ g=>Q .bP g,rt:=Q} (start N vs) H):lU P w K mg base Cz (k + 1) f d b sp:=by
 obtain⟨i,j,kV,h,l,m,a,n,o,rfl,b,d⟩:=F.ex;calc RX b d S c λA outer s H vs Q E g i=>?_;obtain⟨t,h,q⟩:=e a A outer s H vs Q E g i;calc⟨t,h.Jn,q⟩
theorem JP.binds{x:Str}{g:FuncData}{b:List Str}(F:JP K x qual st f g)
  (h:∀(kV a c:Value) (d:Option Addr) (e ct:Value) (us:List Value),us.length=b.length->bindArgs (W.fnOf x qual (eA st) (di st) (ax st) .none kV a c d e ct) ⟨us,[]⟩=pure (b.zip us)):Binds K g b []:=by
 obtain⟨i,j,kV,a,c,d,e,ct,k,rfl,b,g⟩:=F.ex;calc .all (h kV a c d e ct)
theorem mn{x:Str}{g:Value}{h d:Option Addr}{i:Array (Option Value)}{kV a e b ct:Value}(l:K.lookup f=some ⟨g,h,.func (W.fnOf x qual (eA st) (di st) (ax st) .none kV a e d b ct),i⟩)
  (c:W.codeIn K b qual=true) (k:W.keepIn K (.ref f)=true):JP K x qual st f (W.fnOf x qual (eA st) (di st) (ax st) .none kV a e d b ct):=⟨⟨g,h,kV,a,e,d,b,ct,i,rfl,l,c⟩,k⟩
end
theorem aA{n:Nat}(h:n<=1000):n<sizeLine:=aaA h ∅
section
variable {X:Cx}
theorem pv(i:Nat){x:Str}{a:Pos}(b:X.N[i]?=some x:=by rfl)(c:RE X.env.scope x:=by first|calc Or.inl rfl|calc Or.inr (Or.inl rfl)|calc Or.inr (Or.inr rfl))(d:(x==("__debug__":Str))=false:=by decide)
  (e:(x==("__classdict__":Str))=false:=by decide):PE X (.Name x a) (D7 i):=D8 b c d e
end
def au(H a:Hp):Prop:=∀b o,H b=some o->a b=some o
theorem au.refl(H:Hp):au H H:=λ_ _ h=>h
theorem au.trans{H c d:Hp}(a:au H c)(b:au c d):au H d:=λc o h=>b c o (a c o h)
theorem au.free{H a:Hp}(e:au H a){l:Addr}(h:a l=Option.none):H l=Option.none:=by
 cases q:H l with
 |none=>rfl
 |some o=>
  rw[e l o q]at h
  cases h
theorem au.seq{K:W.Frag}{H b:Hp}{a:Addr}{xs:List V}(e:au H b)(h:aO K H a xs):aO K b a xs:=by
 rcases h with(h|⟨o,h⟩)|h
 ·exact .inl (.inl (e _ _ h))
 ·exact .inl (.inr ⟨o,e _ _ h⟩)
 ·calc .inr h
end
end L2
set_option maxHeartbeats 4000000
namespace L2
open PySem PySem.Spec PyProof.Rows
section
variable {X:Cx}{H H₂:Hp}{pins:List (Addr×Obj)}{σ:St}
def mq(env:Env):List (Str×NameKind)->List (Str×Addr)->List (Str×Addr)
 | [],cs=>cs
 |(n,k)::r,cs=>mq env r (if k == .free then(n,(env.cells.lookup n).getD 0)::cs else cs)
theorem xm{env:Env}{x:Str}{c:Addr}:∀{l:List (Str×NameKind)}{cs:List (Str×Addr)},(x,c)∈mq env l cs->(x,c)∈cs\/((x,NameKind.free)∈l/\c=(env.cells.lookup x).getD 0)
 | [],cs,h=>.inl h
 |(n,k)::r,cs,h=>by
  unfold mq at h;rcases xm h with a|⟨a,g⟩
  ·by_cases b:(k == NameKind.free)=true
   ·rw[if_pos b] at a;have i:k=.free:=by simpa using b
    rcases List.mem_cons.mp a with e|e
    ·have d:=congrArg Prod.fst e;have f:=congrArg Prod.snd e;simp only at d f;subst d i;exact .inr ⟨aaj,f⟩
    ·exact .inl e
   ·rw[if_neg b]at a;exact .inl a
  ·calc .inr ⟨aab _ a,g⟩
theorem uH{env:Env}{p:Str×Addr}:∀{l:List (Str×NameKind)}{cs:List (Str×Addr)},p∈cs->p∈mq env l cs
 | [],_,h=>h
 |(n,k)::r,cs,h=>by
  unfold mq;calc uH ?_;split
  ·exact aab _ h
  ·calc h
theorem rA{env:Env}{x:Str}:∀{l:List (Str×NameKind)}{cs:List (Str×Addr)},(x,NameKind.free)∈l->(x,(env.cells.lookup x).getD 0)∈mq env l cs
 | [],_,h=>by simp at h
 |(n,k)::r,cs,h=>by
  unfold mq;rcases List.mem_cons.mp h with e|e
  ·have a:=congrArg Prod.fst e;have b:=congrArg Prod.snd e;simp only at a b;subst a b;calc uH ?_;rw[if_pos nofun];exact aaj
  ·calc rA e
theorem eZ{β:Type}:∀{l:List (Str×β)}{x:Str}{c:β},(x,c)∈l->∃d,l.lookup x=some d
 | [],_,_,h=>by simp at h
 |(n,b)::r,x,c,h=>by
  by_cases e:x=n
  ·subst e;exact⟨b,nofun⟩
  ·have a:(x == n)=false:=beq_eq_false_iff_ne.mpr e;rcases List.mem_cons.mp h with q | q
   ·exact absurd (congrArg Prod.fst q) e
   ·obtain⟨d,b⟩:=eZ q;calc⟨d,by simp only[List.lookup_cons,a];calc b⟩
theorem ma{scope:Scope}{env:Env}(h:∀x∈scope.names,x.2=.free->∃c,env.cells.lookup x.1=some c):closureFor scope env=pure (mq env scope.names []):=by
 unfold closureFor;have b:∀(l:List (Str×NameKind)) (a:List (Str×Addr)),(∀x ∈ l,x.2=.free->∃c,env.cells.lookup x.1=some c)->
   ((forIn l a λ(x:Str×NameKind) (r:List (Str×Addr))=>if (x.2==NameKind.free)=true then do let y <-cellOf env x.1;pure (ForInStep.yield ((x.1,y)::r)) else pure (ForInStep.yield r)):Sem (List (Str×Addr)))=pure (mq env l a):=by
  intro l;induction l with
  |nil=>intro a _;rfl
  |cons p r f=>
   intro a d;obtain⟨n,k⟩:=p;rw[List.forIn_cons];dsimp only;by_cases a:(k==NameKind.free)=true
   ·obtain⟨c,g⟩:=d (n,k) aaj (by simpa using a);have e:cellOf env n=pure c:=by unfold cellOf;rw[g]
    rw[if_pos a,e,pure_bind,pure_bind];dsimp only;rw[f _ λx c=>d x (List.mem_cons_of_mem _ c)];show _=pure (mq env r _);rw[if_pos a,g];rfl
   ·rw[if_neg a,pure_bind];dsimp only;rw[f _ λx c=>d x (List.mem_cons_of_mem _ c)];show _=pure (mq env r _);rw[if_neg a]
 have:=b scope.names [] h;simp only at this ⊢;rw[this,pure_bind]
def AQ(a:List Expr)(env:Env):Sem Bool:=forIn a true λc r=>if r=true then do let ok <-isTrue c env (eval c env);pure (ForInStep.yield ok) else pure (ForInStep.yield r)
def Qs(X:Cx)(a:List Expr)(t:TT):Prop:=
 ∀(pins:List (Addr×Obj)) (s:Shared) (σ:St) (H:Hp) (Q:Bool->Hp->Prop),Inv X pins σ H s->t σ H Q->wpAny (model X.prog X.w) X.A (AQ a X.env) (TP X pins σ Q) X.xe s
def iM:TT:=λ_ H Q=>Q true H
theorem JQ:Qs X [] iM:=λ_ _ _ H _ I h=>M' ⟨H,I,h⟩
theorem iN{c:Expr}{t:TT}(h:PT X c t):Qs X [c] t:=λpins s σ H Q I a=>wpAny_tests_one (h pins s σ H Q I a)
section
variable {prog:Program}{w:World}{A:Around}{R:Result->Shared->Prop}{s:Shared}
theorem vI{o a e:Expr}{p:List Expr}{scope:Scope}{t:Pos}{y q:Value}{env:Env}(I:Nat->Shared->Prop)
  (u:∀n s,I n s->wpAny (model prog w) A (pyNext y) (λr b=>match r with
   |none=>R (.ok .next) b
   | some v=>wpAny (model prog w) A (letOwnedTupleGo a y v) (λ_ f=>wpAny (model prog w) A (assign a env v) (λ_ g=>
     wpAny (model prog w) A (AQ p env) (λok c=>
      if ok=true then wpAny (model prog w) A (eval o env) (λx i=>
       wpAny (model prog w) A (call (.builtin "list.append") [q,x]) (λ_ j=>∃m,m < n/\I m j) (λ_ _=>False) i) (λ_ _=>False) c
      else ∃m,m < n/\I m c) (λ_ _=>False) g) (λ_ _=>False) f) (λ_ _=>False) b) (λ_ _=>False) s)
  (n:Nat) (h:I n s):
  codeAny (model prog w) A (.compLoop (.ListComp o [⟨a,e,p,0⟩] scope t) 0 y q env) R s:=by
 calc codeAny_loop rfl I (λn s m=>?_) n h;show wpAny _ A ((compTurn (.ListComp o [⟨a,e,p,0⟩] scope t) 0 y q env).onRaise (λx=>do noteFrame x env;theTreesLotGoes x)) _ _ s;calc wpAny_noted ?_;rw[compTurn_list];refine A' (wpAny_standAt (A' (aaw (u n s m) (λr b k=>?_) λ_ _ d=>d.elim)))
 cases r with
 |none=>calc M' k
 |some v=>
  calc A' (aaw k (λ_ f a=>?_) λ_ _ d=>d.elim);refine A' (aaw a (λ_ g b=>A' (aaw b (λok c l=>?_) λ_ _ d=>d.elim)) λ_ _ d=>d.elim)
  cases ok with
  |false=>calc M' ⟨rfl,l⟩
  |true=>
   calc A' (A' (aaw l (λx i a=>A' (aaw a (λ_ j b=>M' (M' ⟨rfl,b⟩)) λ_ _ d=>d.elim)) λ_ _ d=>d.elim))
end
def CA(N N':List Str)(ix:List (Option Nat))(scope:Scope):Bool:=
 N'.length==ix.length&&(N'.zip ix).all λp=>match p.2 with|none=>true|some j=>N[j]? == some p.1&&scope.names.lookup p.1==some .free
def tM(ix:List (Option Nat))(σ:St):St:=ix.map λo=>match o with|none=>none|some j=>(σ[j]?).join
def freeOk(scope:Scope)(outer:Scope):Bool:=
 scope.names.all λx=>(x.2 != .cell)&&(x.2 != .free||(outer.names.lookup x.1==some .cell||outer.names.lookup x.1==some .free))&&(x.2 != .local||scope.names.lookup x.1==some .local)&&(x.2 != .free||scope.names.lookup x.1==some .free)
def Sd(X:Cx)(scope:Scope)(C:Addr)(N':List Str)(a:Shared)(H₂:Hp)(b:List Addr):Cx:=
 {X with N:=N',s₀:=a,H₀:=H₂,env:=compEnvC scope (mq X.env scope.names []) C X.env,outer:=X.stack,stack:=X.stack,ex:=b,fn:=λ_=>false,pn:=[],xe:=λ_ _=>False}
theorem freeOk.at{scope outer:Scope}(h:freeOk scope outer=true){x:Str×NameKind}(e:x∈scope.names):x.2≠.cell/\(x.2=.free->outer.names.lookup x.1=some .cell\/outer.names.lookup x.1=some .free)/\(x.2=.local->scope.names.lookup x.1=some .local)/\(x.2=.free->scope.names.lookup x.1=some .free):=by
 have f:=List.all_eq_true.mp h x e;simp only[Bool.and_eq_true,Bool.or_eq_true,bne_iff_ne,ne_eq,beq_iff_eq]at f;obtain⟨⟨⟨a,b⟩,c⟩,d⟩:=f;calc⟨a,λe=>b.resolve_left λz=>z e,λe=>c.resolve_left λz=>z e,λe=>d.resolve_left λz=>z e⟩
theorem eI{scope:Scope}{env:Env}:∀{names:List (Str×NameKind)}{x:Str}{k:NameKind},
  (names.map λ(n,k)=>if (k==NameKind.free&&env.scope.kind == .function&&env.kindOf n==some .cell) then(n,NameKind.cell) else(n,k)).lookup x=some k->∃a,(x,a)∈names/\(k=a\/(k=.cell/\a=.free))
 | [],_,_,h=>by simp at h
 |(n,c)::r,x,k,h=>by
  rw[List.map_cons]at h;by_cases d:(c==NameKind.free&&env.scope.kind == .function&&env.kindOf n==some .cell)=true
  ·simp only[d,if_true] at h
   cases b:x==n with
   |true=>
    simp only[List.lookup_cons,b]at h;have e:x=n:=by simpa using b
    subst e;have g:c=.free:=by
     simp only[Bool.and_eq_true,beq_iff_eq]at d;exact d.1.1
    calc⟨c,aaj,.inr ⟨(Option.some.inj h).symm,g⟩⟩
   |false=>
    simp only[List.lookup_cons,b]at h;obtain⟨a,m,q⟩:=eI (scope:=scope) (env:=env) h;exact⟨a,aab _ m,q⟩
  ·dsimp only at h;rw[if_neg d] at h
   cases b:x==n with
   |true=>
    simp only[List.lookup_cons,b]at h;have e:x=n:=by simpa using b
    subst e;calc⟨c,aaj,.inl (Option.some.inj h).symm⟩
   |false=>
    simp only[List.lookup_cons,b]at h;obtain⟨a,m,q⟩:=eI (scope:=scope) (env:=env) h;calc⟨a,aab _ m,q⟩
section
variable {X:Cx}{scope:Scope}{C:Addr}{N':List Str}{s₂:Shared}{H₂:Hp}{fp:List Addr}{pins:List (Addr×Obj)}{σ:St}
theorem lM(I:Inv X pins σ H₂ s₂)(d:freeOk scope X.env.scope=true){x:Str}{c:Addr}(h:(mq X.env scope.names []).lookup x=some c):X.env.cells.lookup x=some c/\(x,NameKind.free)∈scope.names:=by
 rcases xm (aay h) with z|⟨a,b⟩
 ·simp at z
 ·have q:=(d |> λh=>freeOk.at h a).2.1 rfl;obtain⟨c,e⟩:=I.ok.has x q;rw[e]at b;calc⟨by rw[e,b];rfl,a⟩
theorem NU(I:Inv X pins σ H₂ s₂)(d:freeOk scope X.env.scope=true)(s:scope.kind=.function)(n:s₂.heap.objs.size<=C)(f:∀b∈fp,oO X pins H₂ b)(t:∀b∈fp,∃o,s₂.heap.get? b=some o):(Sd X scope C N' s₂ H₂ fp).Ok where
 mod:=I.ok.mod
 kind:=s
 glob:=I.ok.glob
 blt:=I.ok.blt
 above:=n
 inj:=λx y c s u=>I.ok.inj x y c (lM I d s).1 (lM I d u).1
 has:=λx h=>by
  have h:(relabel scope X.env).names.lookup x=some .cell\/(relabel scope X.env).names.lookup x=some .free:=h;have g:(x,NameKind.free)∈scope.names:=by
   rcases h with h|h
   ·obtain⟨v,m,q⟩:=eI (scope:=scope) h;rcases q with q | ⟨_,q⟩
    ·subst q;exact absurd rfl (freeOk.at d m).1
    ·subst q;exact m
   ·obtain⟨v,m,q⟩:=eI (scope:=scope) h;rcases q with q | ⟨q,_⟩
    ·subst q;exact m
    ·cases q
  exact eZ (rA g)
 Qp:=λ_ _ h _=>absurd (show false=true from h) S'
 hd:=I.ok.hd
 frames:=I.ok.frames
 RF:=.inl rfl
 VU:=λb a=>by
  obtain⟨o,g⟩:=t b a;obtain⟨p,i,j,k,l,r⟩:=f b a;calc⟨V' (R' (P' g) n),λx c h=>?_⟩;exact l x c (lM I d h).1
 bs:=I.bs
 D0:=Y' I.ok.D0 I.sz
 yW:=λb o e a=>by
  obtain⟨p,i,j,k,l,r⟩:=f b a;rcases k with z|z
  ·exact I.ok.yW b o e z
  ·exact absurd (R' (R' (P' e) I.ok.D0) z) (aav _)
 B9:=λb a z=>by
  obtain⟨p,i,j,k,l,r⟩:=f b a;rcases List.mem_cons.mp (I.vo b z) with e|e
  ·exact i e
  ·exact j e
 oM:=I.stack
 Lh:=I.Ap
end
theorem Inv.less{a:St}{s:Shared}(I:Inv X pins σ H s)(b:a.length=σ.length)(h:∀(i:Nat) (v:V),a[i]?=some (some v)->σ[i]?=some (some v)):Inv X pins a H s:=
 ⟨I.ok,I.os,I.bare,I.base,(let ⟨m,a,c⟩:=I.loc;⟨m,a,λi x v d e f=>c i x v d (h i v e) f⟩),I.cell,I.free,I.ki,I.pin,I.aW,b.trans I.len⟩
def Ext(σ a:St):Prop:=a.length=σ.length/\∀(i:Nat) (v:V),σ[i]?=some (some v)->a[i]?=some (some v)
theorem Ext.refl(σ:St):Ext σ σ:=⟨rfl,λ_ _ h=>h⟩
theorem Ext.set{a:St}(h:Ext σ a){j:Nat}{w:Option V}(b:σ[j]?=some none):Ext σ (a.set j w):=by
 calc⟨by rw[List.length_set];calc h.1,λi v e=>?_⟩;have c:j≠i:=by rintro rfl;rw[b]at e;cases e
 rw[List.getElem?_set_ne c];calc h.2 i v e
theorem JR(ix:List (Option Nat))(σ:St):(tM ix σ).length=ix.length:=by unfold tM;rw[List.length_map]
section
variable {X:Cx}{scope:Scope}{N':List Str}{ix:List (Option Nat)}{s₂ s₄:Shared}{H₂:Hp}{fp:List Addr}{pins:List (Addr×Obj)}{σ:St}{C D:Addr}{h₄:Heap}
theorem XW(I:Inv X pins σ H₂ s₂)(g:freeOk scope X.env.scope=true)(M:scope.kind=.function)(B:CA X.N N' ix scope=true)(O:∀b∈fp,oO X pins H₂ b)(P:∀b∈fp,∃o,s₂.heap.get? b=some o)
  (l:s₂.heap.objs.size<=D) (p:s₂.heap.objs.size<=C) (R:D≠C) (S:h₄.Ns C (λ_=>none)) (n:∀b o,s₂.heap.get? b=some o->h₄.get? b=some o)
  (b:h₄.get? D=some {cls:=.type "list",data:=.seq ([]:List Value).toArray 0}) (t':Nat):
  Inv (Sd X scope C N' s₂ H₂ fp) [] (tM ix σ) (upd H₂ D (.lst [])) {s₂ with heap:=h₄,toks:=t'}:=by
 have T:H₂ D=none:=I.aW.fresh l;have U:H₂ C=none:=I.aW.fresh p;have W:mj X.prog X.w (upd H₂ D (.lst [])) h₄:=I.aW.laid n l ⟨U' _,[],0,.nil,b⟩;refine⟨NU I g M p O P,rfl,I.bare,Un.laid n l T,⟨_,S,λi x v y d Y=>?_⟩,λx c e=>?_,?_,λx c e=>?_,λp b=>absurd (show p∈([]:List (Addr×Obj)) from b) nofun,W,?_⟩
 ·have a:=B;unfold CA at a;rw[Bool.and_eq_true] at a;have b:N'.length=ix.length:=by simpa using a.1
  have b:i<N'.length:=(List.getElem?_eq_some_iff.mp y).1;unfold tM at d;rw[List.getElem?_map]at d
  cases q:ix[i]? with
  |none=>rw[q]at d;cases d
  |some o=>
   rw[q]at d
   cases o with
   |none=>cases d
   |some j=>
    have o:(x,some j)∈N'.zip ix:=by
     calc aaa (i:=i) ?_;rw[List.getElem?_zip_eq_some];exact⟨y,q⟩
    have b:=List.all_eq_true.mp a.2 _ o;simp only[Bool.and_eq_true,beq_iff_eq]at b;obtain⟨t,F⟩:=b;have m:(σ[j]?).join=some v:=by simpa using d
    have Z:σ[j]?=some (some v):=by
     cases z:σ[j]? with
     |none=>rw[z]at m;cases m
     |some y=>rw[z]at m;exact congrArg some m
    have G:(x,NameKind.free)∈scope.names:=aay F;have J:=(freeOk.at g G).2.1 rfl;obtain⟨m,b,hv⟩:=I.loc;obtain⟨u,ru,lk⟩:=hv j x v t Z (by rcases J with z|z;calc .inr (.inl z);calc .inr (.inr z));refine⟨u,ru,.inr ⟨?_,?_⟩⟩
    ·rcases Y with z | z | z
     ·obtain⟨b,m',k⟩:=eI (scope:=scope) (env:=X.env) (show(relabel scope X.env).names.lookup x=some .local from z);rcases k with k | ⟨k,_⟩
      ·subst k;have:=(freeOk.at g m').2.2.1 rfl;rw[F]at this;cases this
      ·cases k
     ·exact .inl z
     ·exact .inr z
    ·rcases lk with⟨r,_⟩ | ⟨_,c,l2,l3⟩
     ·have r:X.env.scope.names.lookup x=some .local:=r;rcases J with z | z
      ·rw[r]at z;cases z
      ·rw[r]at z;cases z
     ·obtain⟨b,K⟩:=eZ (rA (env:=X.env) (cs:=[]) G);have L:=(lM I g K).1;rw[l2]at L;have e7:c=b:=Option.some.inj L;subst e7;exact⟨c,K,l3.keeps n⟩
 ·obtain⟨v,z⟩:=I.cell x c (lM I g e).1;exact⟨v,z.keeps n⟩
 ·show upd H₂ D (.lst []) C=none;rw[av (Ne.symm R)];exact U
 ·show upd H₂ D (.lst []) c=none;have b:=(lM I g e).1;obtain⟨v,z⟩:=I.cell x c b;have:c≠D:=V' (R' z.lt l);rw[av this];exact I.ki x c b
 ·rw[JR];have a:=B;unfold CA at a;rw[Bool.and_eq_true] at a;have:N'.length=ix.length:=by simpa using a.1
  calc this.symm
end
def kB(ix:List (Option Nat))(J:It)(g:TG)(d:TT)(e:TE)(σ:St)(a:Hp)(Q:VK)(D:Addr):Prop:=
 ∃W:Nat->Nat->Hp->Prop,(∃m,W 0 m (upd a D (.lst [])))/\∀i m H,W i m H->
  (J.stop i H/\Q (.ref D) H)\/(J.go i H/\∃N:Hp->Prop,(∀b,N b->∃c,c < m/\W (i + 1) c b)/\∀x b,J.Ln i H x b->g x (tM ix σ) b λa f=>Ext (tM ix σ) a/\d a f λb c=>
   if b=true then e a c λy d=>∃ys,d D=some (.lst ys)/\ys.length < sizeLine/\N (upd d D (.lst (ys++[y]))) else N c)
def Sg(ix:List (Option Nat))(b:TI)(g:TG)(c:TT)(d:TE):TE:=λσ H Q=>b σ H λJ a=>∀D,a D=none->kB ix J g c d σ a Q D
abbrev tN(X:Cx)(scope:Scope)(N':List Str)(F:Cx->Prop):Prop:=∀(C:Addr) (a:Shared) (H₂:Hp) (b:List Addr),F (Sd X scope C N' a H₂ b)
section
variable {X:Cx}{elt target iter:Expr}{ifs:List Expr}{scope:Scope}{pos:Pos}{N':List Str}{ix:List (Option Nat)}{wi:TI}{g:TG}{tt:TT}{te:TE}
theorem xo{a:Shared}{it:Addr}{l:List Addr}{S:Nat->Heap->Prop}{J:It}{QD:Addr->Hp->Prop}{RR:Value->Addr->Result->Shared->Prop}{E:Value->Shared->Prop}
  (JS:X.calm=true) (hf:freeOk scope X.env.scope=true) (hk:scope.kind=.function) (hx:CA X.N N' ix scope=true)
  (hg:tN X scope N' λY=>PG Y target g) (ht:tN X scope N' λY=>Qs Y ifs tt) (he:tN X scope N' λY=>PE Y elt te)
  (I:Inv X pins σ H₂ a) (T:Turn X.prog X.w X.K target J l it S) (st:S 0 a.heap) (IE:∀b∈l,oO X pins H₂ b)
  (hw:∀D,H₂ D=none->∃W:Nat->Nat->Hp->Prop,(∃m,W 0 m (upd H₂ D (.lst [])))/\∀i m H,W i m H->
   (J.stop i H/\QD D H)\/(J.go i H/\∃N:Hp->Prop,(∀d,N d->∃B,B < m/\W (i + 1) B d)/\∀x d,J.Ln i H x d->g x (tM ix σ) d λp C=>Ext (tM ix σ) p/\tt p C λb L=>
    if b=true then te p L λy C=>∃ys,C D=some (.lst ys)/\ys.length < sizeLine/\N (upd C D (.lst (ys++[y]))) else N L))
  (hRR:∀(D C:Addr) (s':Shared) (d:Hp) (m:Str->Option Value),a.heap.objs.size<=C->d C=none->C∉B8 X.stack->s'.heap.Ns C m->(∃o,s'.heap.get? C=some o/\∀v,o.data≠.cell v)->Inv X pins σ d s'->QD D d->RR (.ref D) C (.ok .next) s'):
  wpAny (model X.prog X.w) X.A (newList []) (λp j=>wpAny (model X.prog X.w) X.A (newFunctionEnv scope X.env.globals (mq X.env scope.names []) [] X.env.qual none .none (some X.env)) (λJ C=>
   codeAny (model X.prog X.w) X.A (.compStart (.ListComp elt [⟨target,iter,ifs,0⟩] scope pos) 0 (.ref it) p {J with scope:=relabel scope X.env}) (RR p J.locals) C) E j) E a:=by
 calc aaF (wpAny_newFunctionEnv (λx hx=>(freeOk.at hf hx).1) (by intro y p;simp at p) (λk NW JT=>?_) hk);dsimp only at NW JT ⊢;generalize C:a.heap.push {cls:=.type "list",dict:=none,data:=.seq ([]:List Value).toArray}=P2 at NW JT ⊢;have p:P2.objs.size=a.heap.objs.size+1:=by rw[<-C,Heap.size_push]
 have J:a.heap.objs.size≠P2.objs.size:=by rw[p];exact V' (Nat.lt_succ_self _)
 have M:a.heap.objs.size<=P2.objs.size:=by rw[p];exact Nat.le_succ _
 have U:∀b o,a.heap.get? b=some o->k.get? b=some o:=λb o e=>JT.extBut b o (V' (R' (P' e) M)) (J' _ (C▸J' _ e));have N:k.get? a.heap.objs.size=some {cls:=.type "list",data:=.seq ([]:List Value).toArray 0}:=JT.extBut _ _ J (J' _ (C▸T' _ rfl));have p:∀b∈l,∃o,a.heap.get? b=some o:=λb c=>let ⟨o,e,_⟩:=T.obj _ _ st b c;⟨o,e⟩
 have C:a.heap.get? P2.objs.size=none:=Heap.get?_none_of_le M;have C:H₂ a.heap.objs.size=none:=I.aW.fresh (K' _);obtain⟨W,⟨m0,w0⟩,Z⟩:=hw a.heap.objs.size C;have fpD:∀b∈l,b≠a.heap.objs.size:=λb c=>let ⟨o,e⟩:=p b c;V' (P' e)
 have fpC:∀b∈l,b≠P2.objs.size:=λb c=>let ⟨o,e⟩:=p b c;V' (R' (P' e) M)
 let Y:=Sd X scope P2.objs.size N' a H₂ l
 have hcY:Y.calm=true:=JS;have I0:Inv Y [] (tM ix σ) (upd H₂ a.heap.objs.size (.lst [])) {a with heap:=k,toks:=a.toks+([]:List (Str×Value)).length}:=
  XW I hf hk hx IE p (K' _) M J (by simpa using NW) U N _
 have M4:P2.objs.size∉B8 X.stack:=λz=>by
  rcases List.mem_cons.mp (I.vo _ z) with e|e
  ·exact absurd I.lt (by rw[<-e];calc Nat.not_lt.mpr M)
  ·exact I.M5 M e
 have y6:∀{d:Hp},(∀b∈l,d b=none)->∀b∈l,oO Y [] d b:=λhn b c=>by
  obtain⟨f0,f1,f2,f3,f4,f5⟩:=IE b c;refine⟨hn b c,fpC b c,I0.ok.B9 b c,.inl c,(I0.ok.VU b c).2,λp C=>absurd (show p∈([]:List (Addr×Obj)) from C) nofun⟩
 have Si:S 0 k:=T.keep _ _ _ st λb _ o e=>U b o e;have G:∀j:Shared,j={a with heap:=k,toks:=a.toks + ([]:List (Str×Value)).length}->
   codeAny (model X.prog X.w) X.A (.compLoop (.ListComp elt [⟨target,iter,ifs,0⟩] scope pos) 0 (.ref it) (.ref a.heap.objs.size) (compEnvC scope (mq X.env scope.names []) P2.objs.size X.env))
    (RR (.ref a.heap.objs.size) P2.objs.size) j:=by
  rintro j rfl;calc vI (λn s'=>∃i d,Inv Y [] (tM ix σ) d s'/\S i s'.heap/\(∀b∈l,d b=none)/\W i n d) ?_ m0 ⟨0,_,I0,Si,λb c=>by rw[av (fpD b c)];calc(IE b c).1,w0⟩;rintro n s3 ⟨i,L,I3,kq,RJ,w3⟩;rcases Z i n L w3 with⟨stop,qn⟩|⟨go,Nn,hNn,step⟩
  ·calc dy (T.done Y rfl rfl rfl hcY i [] s3 _ L _ I3 (y6 RJ) kq stop) λr s4 q=>?_;obtain⟨hr,O⟩:=q;subst hr;obtain⟨m,hn,_⟩:=O.loc;refine hRR _ _ s4 L m M O.free M4 hn ?_ ?_ qn
   ·obtain⟨o,k,p,j,hd,_⟩:=hn;exact⟨o,j,λv z=>by rw[hd]at z;cases z⟩
   ·refine I.RH (s':=s4) (ch:=l) O.os ?_ O.aW O.bare λb c=>?_
    ·exact O.base
    ·obtain⟨f0,f1,f2,f3,f4,f5⟩:=IE b c;exact⟨f3,f1,f4,f5⟩
  ·calc dy (T.item Y rfl rfl rfl hcY i [] s3 _ L _ I3 (y6 RJ) kq go) λr s4 q=>?_;obtain⟨u,hr,h4⟩:=q;subst hr;calc dy h4 λ_ s5 q=>?_;obtain⟨x,j,p,r,v,k,z⟩:=q;have C:=p.pinned (y6 z) (T.obj _ _ k);calc dy (hg _ _ _ _ _ s5 _ j x u _ C r (step x j v)) λ_ I q=>?_;obtain⟨F,p,r,j,u⟩:=q;calc dy (ht _ _ _ _ _ I F p _ r u) λok s7 q=>?_;obtain⟨H7,I7,q7⟩:=q;have t:∀{P:Shared} {R:Hp} {B:Nat},Inv Y ([]++oP l s5.heap) F R P->B<n->W (i+1) B R->∃m,m<n/\∃i d,Inv Y [] (tM ix σ) d P/\S i P.heap/\(∀b∈l,d b=none)/\W i m d:=λ{P R B} I8 hm w8=>by
    calc⟨B,hm,i+1,R,(I8.ko).less j.1.symm j.2,T.keep _ _ _ k λb c o e=>(I8.pin (b,o) (X' _ (X' _ (jM c e)))).1,λb c=>?_,w8⟩;obtain⟨o,e,d⟩:=T.obj _ _ k b c;exact(I8.pin (b,o) (X' _ (X' _ (jM c e)))).2.1
   cases ok with
   |false=>
    rw[if_neg Bool.false_ne_true]at q7 ⊢;obtain⟨B,hm,w8⟩:=hNn _ q7;calc t I7 hm w8
   |true=>
    rw[if_pos rfl] at q7 ⊢;calc dy (he _ _ _ _ _ s7 F H7 _ I7 q7) λy P q=>?_;obtain⟨b,R,I8,d,ys,e,i,j⟩:=q;have k:=(uA (X:=Y)) (pins:=[]++oP l s5.heap) P F R (.ref a.heap.objs.size) [b] (.ref a.heap.objs.size) [y] (λ_ c=>Nn c) I8 rfl (.cons d .nil)
     ⟨_,ys,b,rfl,rfl,e,i,j⟩
    exact dy k λ_ d ⟨_,c,a,_,b⟩=>let ⟨B,hm,c⟩:=hNn _ b;t a hm c
 calc codeAny_compStart_list (G _ rfl) (T.self _ 0 _ _ _ Si (G _ rfl))
theorem Inv.X1{s b:Shared}{C:Addr}{h':Heap}(a:Inv X pins σ H₂ b)(I:Inv X pins σ H s)(d:b.heap.objs.size<=C)(f:H C=none)(g:Heap.SameBut C s.heap h'):Inv X pins σ H {s with heap:=h'}:=by
 refine I.turned (t':=s.toks) (λb o h e=>(g.2 b h).trans e) f (Nat.ne_of_gt (R' a.lt d)) (.inr (Y' a.sz d)) (λx c e z=>?_) λp b z=>?_
 ·obtain⟨v,q⟩:=a.cell x c e;exact absurd (R' q.lt (by rw[z];calc d)) (aav _)
 ·calc absurd (R' (P' (a.pin p b).1) (by rw[z];calc d)) (aav _)
theorem cO
  (l:PI X target iter wi) (n:tN X scope N' λY=>PG Y target g) (o:tN X scope N' λY=>Qs Y ifs tt) (a:tN X scope N' λY=>PE Y elt te)
  (p:X.calm=true:=by rfl) (f:freeOk scope X.env.scope=true:=by kernel_rfl) (i:scope.kind=.function:=by rfl) (b:CA X.N N' ix scope=true:=by kernel_rfl) (j:∀x,foldedSetIterable iter X.env x=pure x:=by intro _;rfl):PE X (.ListComp elt [⟨target,iter,ifs,0⟩] scope pos) (Sg ix wi g tt te):=by
 walk_at "xc";rw[eval_ListComp];have m:∀x∈scope.names,x.2=.free->∃c,X.env.cells.lookup x.1=some c:=λx b a=>I.ok.has x.1 ((freeOk.at f b).2.1 a);refine wpAny_comprehension_free (use:=none) rfl j (ma m) i (λx b a=>(freeOk.at f b).2.2.1 a) (aaw (l pins s σ H _ I h) (λm j c=>aaw c (λl j d=>?_) λ_ _ e=>e) λ_ _ e=>e);obtain⟨c,j,l,J,m,e,k,T,r,t,u⟩:=d;subst e;refine xo (RR:=λc C=>compPost (model X.prog X.w) X.A X.xe none (EP X pins σ Q) c C) (QD:=λD c=>Q (.ref D) c) p f i b n o a k T r t u ?_;intro D C x c m d e y j z l q;exact⟨m,j,λB v=>⟨.ref D,c,k.X1 l d e v,rfl,q⟩⟩
theorem eV{i:Nat}{y:Str}{d S:Pos}(hN:X.N.Nodup)(F:X.N[i]?=some y)(hy:Loc X.env.scope y)
  (hi:PI X target iter wi) (hg:tN X scope N' λY=>PG Y target g) (ht:tN X scope N' λY=>Qs Y ifs tt) (j:tN X scope N' λY=>PE Y elt te)
  (G:swapsWith (.ListComp elt [⟨target,iter,ifs,0⟩] scope pos) (some (.Name y d)) S.line X.env=pure true:=by rfl)
  (JS:X.calm=true:=by rfl) (K:freeOk scope X.env.scope=true:=by kernel_rfl) (U:scope.kind=.function:=by rfl) (k:CA X.N N' ix scope=true:=by kernel_rfl) (hs:∀x,foldedSetIterable iter X.env x=pure x:=by intro _;rfl) (Jm:X.fn y=true\/X.env.scope.names.lookup y=some .local:=by grind):
  PS X (.Assign [.Name y d] (.ListComp elt [⟨target,iter,ifs,0⟩] scope pos) S) (Ce (Sg ix wi g tt te) (fS i)):=by
 walk_at "xd";rw[exec_Assign_Name_used _ _ _ _ G];refine A' (wpAny_standAt (A' ?_));show wpAny _ X.A (do let _ <-comprehension (.ListComp elt [⟨target,iter,ifs,0⟩] scope pos) scope X.env _ (newList []) false (eval iter X.env) (some (assign (.Name y d) X.env))) _ _ s;have uK:∀x ∈ scope.names,x.2=.free->∃c,X.env.cells.lookup x.1=some c:=λx k j=>I.ok.has x.1 ((freeOk.at K k).2.1 j);refine A' (aaw (wpAny_comprehension_free (use:=some (assign (.Name y d) X.env)) (Q:=λ_ a=>SP X pins D .next a) rfl hs (ma uK) U (λx k j=>(freeOk.at K k).2.2.1 j)
  (aaw (hi pins s σ H _ I h) (λxv W l=>aaw l (λV0 Z n=>?_) λ_ _ e=>e) λ_ _ e=>e)) (λ_ a hq=>M' (M' hq)) λ_ _ e=>e)
 obtain⟨it,fp,tn,J,H2,e,f,T,q0,f2,hw⟩:=n;subst e;calc xo (RR:=λL C=>compPost (model X.prog X.w) X.A X.xe (some (assign (.Name y d) X.env)) (λ_ a=>SP X pins D .next a) L C) (QD:=λr t=>D.nx (σ.set i (some (.ref r))) t) JS K U k hg ht j f T q0 f2 hw ?_;intro r C a t m u Se Qt hn E I' q;obtain⟨o,E,VX⟩:=E;show wpAny _ X.A (assign (.Name y d) X.env (.ref r)) _ _ a;have B:C≠X.env.locals:=Nat.ne_of_gt (R' f.lt u);have M:C∉X.fs:=f.M5 u;have O:Inv X (pins++[(C,o)]) σ t a:=I'.vp λp P=>(List.mem_append.mp P).elim (λz=>I'.pin p (X' _ z)) λz=>by
  have z':p=(C,o):=by simpa using z
  subst z';exact⟨E,Se,B,M,VX⟩
 calc wpAny_assign_Name (nL O hN F hy (v:=.ref r) rfl (λs3 I3=>?_) Jm);obtain⟨e3,n3,_⟩:=I3.pin (C,o) (X' _ (X' _ nofun));obtain⟨o',es,ep,jK,r'⟩:=hn;rw[E]at jK;cases jK;have R:Inv X pins (σ.set i (some (.ref r))) t s3:=I3.ko;calc⟨m,⟨o,es,ep,e3,r'⟩,λh' Sj=>⟨_,t,?_,q⟩⟩;refine R.turned (t':=s3.toks) (λb o hb e=>(Sj.2 b hb).trans e) n3 B (.inr (Y' f.sz u)) (λx c e z=>?_) λp P z=>?_
 ·obtain⟨v,q⟩:=f.cell x c e;exact absurd (R' q.lt (by rw[z];calc u)) (aav _)
 ·calc absurd (R' (P' (f.pin p P).1) (by rw[z];calc u)) (aav _)
end
def Wc(b:Nat->List V->Hp->Prop)(D:Addr)(i:Nat)(H:Hp):Prop:=∃a,H D=some (.lst a)/\a.length<=i+1/\b (i+1) a H
theorem bR{b:Nat->List V->Hp->Prop}{D:Addr}{i n:Nat}{ys:List V}{y:V}(c:H D=some (.lst ys))(a:ys.length<=i)(d:i<n)(e:n<=sizeLine)(h:b (i+1) (ys++[y]) (upd H D (.lst (ys++[y])))):
  ∃a,H D=some (.lst a)/\a.length<sizeLine/\Wc b D i (upd H D (.lst (a++[y]))):=
 ⟨ys,c,(),ys++[y],ab,by rw[List.length_append,List.length_singleton];lia,h⟩
theorem aX{ix:List (Option Nat)}{J:It}{n:Nat}{g:TG}{c:TT}{j:TE}{k:Hp}{Q:VK}{D:Addr}(d:Nat->List V->Hp->Prop)(a:n<=sizeLine)(s:d 0 [] (upd k D (.lst [])))
  (t:∀i ys H,i<n->d i ys H->J.go i H) (u:∀ys H,d n ys H->J.stop n H)
  (v:∀i ys H,i < n->H D=some (.lst ys)->ys.length<=i->d i ys H->∀x f,J.Ln i H x f->g x (tM ix σ) f λa o=>Ext (tM ix σ) a/\c a o λb l=>
   if b=true then j a l λy o=>∃h,o D=some (.lst h)/\h.length < sizeLine/\Wc d D i (upd o D (.lst (h++[y]))) else Wc d D i l)
  (w:∀ys H,H D=some (.lst ys)->ys.length<=n->d n ys H->Q (.ref D) H):
  kB ix J g c j σ k Q D:=by
 calc⟨λi m H=>m=n-i/\i<=n/\∃ys,H D=some (.lst ys)/\ys.length<=i/\d i ys H,⟨n,nofun,U' _,[],ab,K' _,s⟩,?_⟩;rintro i m H ⟨rfl,a,ys,q,r,p⟩;by_cases g:i<n
 ·exact .inr ⟨t i ys H g p,Wc d D i,λf ⟨h,a,b,c⟩=>⟨n-(i+1),(),rfl,g,h,a,b,c⟩,λx f y=>v i ys H g q r p x f y⟩
 ·have e:i=n:=by lia
  subst e;calc .inl ⟨u ys H p,w ys H q r p⟩
end
section
section
variable {X:Cx}
def EX(i j:Int):Prop:=0<j/\j.natAbs.log2<9000
theorem EY:fV X (binaryOp .FloorDiv) (rI EX λi j=>.int (i/j)):=V1 λi j _ _ _ _ _ a q=>by
 have b:(0:Int)<j:=a.1;calc floordiv_int () (by rw[Int.fdiv_eq_ediv_of_nonneg i ()];calc q) (.inl (PyProof.noPylong_of_log2 a.2))
def uI(C:Int->Int->Prop)(g:Int->Int->V):R2:=λx y H Q=>match x,y with
 | .int i,.int j=>C i j/\Q (g i j) H
 |_,_=>False
def NX(g:Int->Int->V):R2:=λx y H Q=>match x,y with
 | .int i,.int j=>Q (g i j) H
 |_,_=>False
theorem Wd{f:Value->Value->Sem Value}{C:Int->Int->Prop}{g:Int->Int->V}(h:fV X f (rI C g)):fV X f (uI C g):=by
 intro a s σ H x y v u Q I b c q
 cases x<;>cases y<;>first
  |calc(show False from q).elim
  |calc h a s σ H _ _ v u Q I b c ⟨_,_,rfl,rfl,q.1,q.2⟩
theorem EZ{f:Value->Value->Sem Value}{g:Int->Int->V}(h:fV X f (Jp g)):fV X f (NX g):=by
 intro a s σ H x y v u Q I b c q
 cases x<;>cases y<;>first
  |calc(show False from q).elim
  |calc h a s σ H _ _ v u Q I b c ⟨_,_,rfl,rfl,q⟩
theorem eB:fV X (binaryOp .Sub) (NX λi j=>.int (i-j)):=EZ Nm
theorem lN:fV X (binaryOp .Mult) (uI Er λi j=>.int (i*j)):=Wd Np
theorem eO:fV X (binaryOp .Mod) (uI (λ_ j=>0<j) λi j=>.int (i%j)):=Wd Nq
theorem nR:fV X (binaryOp .FloorDiv) (uI EX λi j=>.int (i/j)):=Wd EY
theorem qL:fV X (binaryOp .Pow) (uI Jr λi j=>.int (i^j.toNat)):=Wd Nr
theorem gB:fV X (compareOp .Lt) (NX λi j=>.bl (decide (i<j))):=EZ RN
theorem rB:fV X (compareOp .LtE) (NX λi j=>.bl (decide (i<=j))):=EZ RO
theorem mr:fV X (compareOp .Gt) (NX λi j=>.bl (decide (j<i))):=EZ RP
theorem NY:fV X (compareOp .GtE) (NX λi j=>.bl (decide (j<=i))):=EZ RQ
def iO(K:W.Frag)(H:Hp):Nat->V->V->Prop
 |0,_,_=>False
 |n+1,x,y=>(x=y/\jC x=true)\/∃a b xs ys,x=.ref a/\y=.ref b/\((bQ K H a xs/\bQ K H b ys)\/(aO K H a xs/\aO K H b ys))/\xs.length=ys.length/\∀(i:Nat) u v,xs[i]?=some u->ys[i]?=some v->iO K H n u v
theorem in1_units(A:Around):A.in1.units=A.units+1:=rfl
theorem nS{pins:List (Addr×Obj)}{σ:St}{H:Hp}{s:Shared}(I:Inv X pins σ H s):∀(n:Nat) (A:Around) {x y:V}{u v:Value},iO X.K H n x y->A.units+n<cLine->RelV x u->RelV y v->SeqAt.EqAt A s u v true
 |0,_,_,_,_,_,h,_,_,_=>h.elim
 |n+1,A,x,y,u,v,h,o,c,d=>by
  rcases h with⟨e,f⟩|⟨a,b,J,L,j,k,l,o,M⟩
  ·subst e;have q:=EE (A:=A) (s:=s) c d f f;have g:ID x x=true:=by cases x <;> first | rfl | calc absurd (show false=true from f) S' | simp[ID]
   rw[g]at q;exact q
  ·subst j k
   cases c
   cases d;by_cases m:a=b
   ·subst m;exact SeqAt.EqAt.same _
   rcases l with⟨o,p⟩|⟨o,p⟩
   ·obtain⟨c,h,q,H⟩:=I.tuple o;obtain⟨f,k,r,N⟩:=I.tuple p;have O:=h.length;have P:=k.length;have t:c.toArray.size=f.toArray.size:=by simp;lia
    have d:=SeqAt.RcAt.tuples (A:=A) (e:=λ_=>true) (show s.heap.IsTuple a c.toArray from q) (show s.heap.IsTuple b f.toArray from r) () λj u v=>by
     have w:j<c.length:=by simpa using u
     have y:j<f.length:=by simpa using v
     obtain⟨z,l,B⟩:=h.get (i:=j) (x:=J[j]'()) nofun;obtain⟨C,g,D⟩:=k.get (i:=j) (x:=L[j]'()) nofun;have E:c.toArray[j]=z:=by
      have:=dw w;rw[this]at l;simpa using Option.some.inj l
     have F:f.toArray[j]=C:=by
      have:=dw y;rw[this]at g;simpa using Option.some.inj g
     rw[E,F];exact nS I n A.in1 (M j _ _ nofun nofun) (by rw[in1_units];lia) B D
    have G:SeqAt.RcAt A s (.ref a) (.ref b) true:=by
     have:((List.range (min c.toArray.size f.toArray.size)).all (λ_=>true)&&c.toArray.size==f.toArray.size)=true:=by
      rw[t];simp
     rw[this]at d;exact d
    exact SeqAt.EqAt.of_refs m G
   ·obtain⟨c,h,q,H⟩:=I.list o;obtain⟨f,k,r,N⟩:=I.list p;have O:=h.length;have P:=k.length;have t:c.toArray.size=f.toArray.size:=by simp;lia
    have d:=SeqAt.RcAt.lists (A:=A) (e:=λ_=>true) q.isList r.isList t () λj u v=>by
     have w:j<c.length:=by simpa using u
     have y:j<f.length:=by simpa using v
     obtain⟨z,l,B⟩:=h.get (i:=j) (x:=J[j]'()) nofun;obtain⟨C,g,D⟩:=k.get (i:=j) (x:=L[j]'()) nofun;have E:c.toArray[j]=z:=by
      have:=dw w;rw[this]at l;simpa using Option.some.inj l
     have F:f.toArray[j]=C:=by
      have:=dw y;rw[this]at g;simpa using Option.some.inj g
     rw[E,F];exact nS I n A.in1 (M j _ _ nofun nofun) (by rw[in1_units];lia) B D
    have G:SeqAt.RcAt A s (.ref a) (.ref b) true:=by
     have:((List.range c.toArray.size).all (λ_=>true))=true:=by simp
     rw[this]at d;exact d
    calc SeqAt.EqAt.of_refs m G
end
end
section
variable {pins:List (Addr×Obj)}{σ:St}
section
variable {X:Cx}
theorem E2{H:Hp}{s:Shared}(I:Inv X pins σ H s){A:Around}{n:Nat}{a b:Addr}(h:iO X.K H (n+1) (.ref a) (.ref b))(f:A.units+n+1<cLine):
  SeqAt.RcAt A s (.ref a) (.ref b) true/\SeqAt.RcNeAt A s (.ref a) (.ref b) false:=by
 rcases h with⟨e,f⟩|⟨g,k,J,L,c,d,j,l,M⟩
 ·exact absurd (show false=true from f) S'
 ·cases c
  cases d;rcases j with⟨g,h⟩|⟨g,h⟩
  ·obtain⟨d,k,l,H⟩:=I.tuple g;obtain⟨f,m,o,N⟩:=I.tuple h;have O:=k.length;have P:=m.length;have u:d.toArray.size=f.toArray.size:=by simp;lia
   have c:∀j (g:j<d.toArray.size) (h:j<f.toArray.size),SeqAt.EqAt A.in1 s d.toArray[j] f.toArray[j] ((λ_=>true) j):=λj v w=>by
    have y:j<d.length:=by simpa using v
    have z:j<f.length:=by simpa using w
    obtain⟨B,p,C⟩:=k.get (i:=j) (x:=J[j]'()) nofun;obtain⟨D,q,E⟩:=m.get (i:=j) (x:=L[j]'()) nofun;have F:d.toArray[j]=B:=by
     have:=dw y;rw[this]at p;simpa using Option.some.inj p
    have G:f.toArray[j]=D:=by
     have:=dw z;rw[this]at q;simpa using Option.some.inj q
    rw[F,G];exact nS I n A.in1 (M j _ _ nofun nofun) (by rw[in1_units];lia) C E
   have e:((List.range (min d.toArray.size f.toArray.size)).all (λ_=>true)&&d.toArray.size==f.toArray.size)=true:=by
    rw[u];simp
   have r:=SeqAt.RcAt.tuples (A:=A) (show s.heap.IsTuple a d.toArray from l) (show s.heap.IsTuple b f.toArray from o) () c;have t:=SeqAt.RcNeAt.tuples (A:=A) (show s.heap.IsTuple a d.toArray from l) (show s.heap.IsTuple b f.toArray from o) () c;rw[e]at r t;exact⟨r,t⟩
  ·obtain⟨d,k,l,H⟩:=I.list g;obtain⟨f,m,o,N⟩:=I.list h;have O:=k.length;have P:=m.length;have u:d.toArray.size=f.toArray.size:=by simp;lia
   have c:∀j (g:j<d.toArray.size) (h:j<f.toArray.size),SeqAt.EqAt A.in1 s d.toArray[j] f.toArray[j] ((λ_=>true) j):=λj v w=>by
    have y:j<d.length:=by simpa using v
    have z:j<f.length:=by simpa using w
    obtain⟨B,p,C⟩:=k.get (i:=j) (x:=J[j]'()) nofun;obtain⟨D,q,E⟩:=m.get (i:=j) (x:=L[j]'()) nofun;have F:d.toArray[j]=B:=by
     have:=dw y;rw[this]at p;simpa using Option.some.inj p
    have G:f.toArray[j]=D:=by
     have:=dw z;rw[this]at q;simpa using Option.some.inj q
    rw[F,G];exact nS I n A.in1 (M j _ _ nofun nofun) (by rw[in1_units];lia) C E
   have e:(List.range d.toArray.size).all (λ_=>true)=true:=by simp
   have r:=SeqAt.RcAt.lists (A:=A) l.isList o.isList u () c;have t:=SeqAt.RcNeAt.lists (A:=A) l.isList o.isList u () c;rw[e]at r t;calc⟨r,t⟩
def rC(K:W.Frag)(H:Hp)(a b:Addr):Prop:=∃xs ys,xs.length≠ys.length/\((aO K H a xs/\aO K H b ys)\/(bQ K H a xs/\bQ K H b ys/\(xs=[]\/ys=[])))
theorem AR{H:Hp}{s:Shared}(I:Inv X pins σ H s){A:Around}{a b:Addr}(h:rC X.K H a b)(k:A.units<cLine):
  SeqAt.RcAt A s (.ref a) (.ref b) false/\SeqAt.RcNeAt A s (.ref a) (.ref b) true:=by
 obtain⟨j,n,r,⟨l,m⟩|⟨l,m,q⟩⟩:=h
 ·obtain⟨d,h,g,r⟩:=I.list l;obtain⟨f,n,i,t⟩:=I.list m;have o:=h.length;have p:=n.length;have j:(d.toArray.size != f.toArray.size)=true:=by simp;lia
  exact⟨SeqAt.RcAt.lists_lengths g.isList i.isList j k,SeqAt.RcNeAt.lists_lengths g.isList i.isList j k⟩
 ·obtain⟨d,h,g,r⟩:=I.tuple l;obtain⟨f,n,i,t⟩:=I.tuple m;have o:=h.length;have p:=n.length;have c:∀j (l:j<d.toArray.size) (m:j<f.toArray.size),SeqAt.EqAt A.in1 s d.toArray[j] f.toArray[j] ((λ_=>true) j):=λj h l=>by
   exfalso;have m:j<d.length:=by simpa using h
   have h:j<f.length:=by simpa using l
   rcases q with e|e
   ·subst e;simp at o;lia
   ·subst e;simp at p;lia
  have e:((List.range (min d.toArray.size f.toArray.size)).all (λ_=>true)&&d.toArray.size==f.toArray.size)=false:=by
   have:d.toArray.size≠f.toArray.size:=by simp;lia
   rw[Bool.and_eq_false_iff];exact .inr (beq_eq_false_iff_ne.mpr this)
  have h:=SeqAt.RcAt.tuples (A:=A) (show s.heap.IsTuple a d.toArray from g) (show s.heap.IsTuple b f.toArray from i) k c;have j:=SeqAt.RcNeAt.tuples (A:=A) (show s.heap.IsTuple a d.toArray from g) (show s.heap.IsTuple b f.toArray from i) k c;rw[e]at h j;calc⟨h,j⟩
def N0(K:W.Frag):R2:=λx y H Q=>match x,y with
 | .ref a,.ref b=>(iO K H 20 (.ref a) (.ref b)/\Q (.bl true) H)\/(rC K H a b/\Q (.bl false) H)
 |x,y=>Js x y=true/\Q (.bl (decide (x=y))) H
def Qu(K:W.Frag):R2:=λx y H Q=>match x,y with
 | .ref a,.ref b=>(iO K H 20 (.ref a) (.ref b)/\Q (.bl false) H)\/(rC K H a b/\Q (.bl true) H)
 |x,y=>Js x y=true/\Q (.bl (!decide (x=y))) H
theorem E3(c:X.A.units+64<cLine):fV X (compareOp .Eq) (N0 X.K):=by
  intro pins s σ H x y v u Q I a b h
  cases x<;>cases y<;>first
    |calc RL pins s σ H _ _ v u Q I a b h
    | (cases a;cases b
       rcases h with⟨a,q⟩|⟨a,q⟩
       · exact(E2 I (A:=X.A) a ()).1 X.prog X.w X.xe _ ⟨.bl true,H,I,rfl,q⟩
       · calc(AR I (A:=X.A) a ()).1 X.prog X.w X.xe _ ⟨.bl false,H,I,rfl,q⟩)
theorem N8(c:X.A.units+64<cLine):fV X (compareOp .NotEq) (Qu X.K):=by
  intro pins s σ H x y v u Q I a b h
  cases x<;>cases y<;>first
    |calc RM pins s σ H _ _ v u Q I a b h
    | (cases a;cases b
       rcases h with⟨a,q⟩|⟨a,q⟩
       · exact(E2 I (A:=X.A) a ()).2 X.prog X.w X.xe _ ⟨.bl false,H,I,rfl,q⟩
       · calc(AR I (A:=X.A) a ()).2 X.prog X.w X.xe _ ⟨.bl true,H,I,rfl,q⟩)
def Sm(g:Bool->Bool):R2:=λx y H Q=>match x,y with
 | .bl c,.bl d=>Q (.bl (g (c==d))) H
 |x,.bP=>Q (.bl (g (decide (x=.bP)))) H
 |_,_=>False
theorem rD:fV X (compareOp .Is) (Sm id):=by
 intro pins s σ H x y v u Q I a b h
 cases x<;>cases y<;>first
  |calc(show False from h).elim
  |calc Nt pins s σ H _ _ v u Q I a b ⟨rfl,h⟩
  |(cases a;cases b;calc is_bool ⟨.bl _,H,I,rfl,h⟩)
theorem oT:fV X (compareOp .IsNot) (Sm not):=by
 intro pins s σ H x y v u Q I a b h
 cases x<;>cases y<;>first
  |calc(show False from h).elim
  |calc Jt pins s σ H _ _ v u Q I a b ⟨rfl,h⟩
  |(cases a;cases b;calc isnot_bool ⟨.bl _,H,I,rfl,h⟩)
def uIn(K:W.Frag)(a:Bool):R2:=λx y H Q=>match y with
 | .ref p=>∃xs,(aO K H p xs\/bQ K H p xs)/\jC x=true/\xs.all jC=true/\Q (.bl (if a then !AL x xs else AL x xs)) H
 |_=>False
theorem E4:fV X (compareOp .In) (uIn X.K false):=by
 intro pins s σ H x y v u Q I a b h
 cases y<;>first
  |calc(show False from h).elim
  |(obtain⟨c,d,e,f,g⟩:=h;calc Cq pins s σ H _ _ v u Q I a b ⟨_,c,rfl,d,e,f,g⟩)
def N9(K:W.Frag)(a:TE):TI:=λσ H R=>a σ H λx b=>match x with
 | .ref a=>((∃xs,aO K b a xs)/\R (tw K a) b)\/((∃xs,bQ K b a xs)/\R (RI K a) b)
 |_=>False
theorem bS{n l:Expr}{i:TE}(r:PE X l i):PI X n l (N9 X.K i):=by
  calc⟨?_⟩;intro pins s σ H R I h;calc dy (r pins s σ H _ I h) λv c t=>?_;obtain⟨x,j,d,u,k⟩:=t
  cases x<;>first
    |calc(show False from k).elim
    | (rename_i a;cases u
       rcases k with⟨⟨w,f⟩,q⟩|⟨⟨w,f⟩,q⟩
       · obtain⟨m,y,p,z⟩:=d.list f;calc wpAny_pyIter_list p.isList ?_;calc⟨c.heap.objs.size,[c.heap.objs.size],_,_,j,rfl,d.kept (t':=c.toks) λb o e=>J' _ e,Cf a _,⟨_,T' _ rfl,rfl,rfl⟩,λb g=>?_,q⟩;have e:b=c.heap.objs.size:=by simpa using g
         subst e;exact d.Ek (K' _) (d.aW.fresh (K' _))
       · obtain⟨m,y,p,z⟩:=d.tuple f;calc aat (show c.heap.IsTuple a m.toArray from p) ?_;calc⟨c.heap.objs.size,[c.heap.objs.size],_,_,j,rfl,d.kept (t':=c.toks) λb o e=>J' _ e,yZ a _,⟨_,T' _ rfl,rfl,rfl⟩,λb g=>?_,q⟩;have e:b=c.heap.objs.size:=by simpa using g
         subst e;calc d.Ek (K' _) (d.aW.fresh (K' _)))
end
structure Def(P:Program)(w:World)(K:W.Frag)(mg:Str->Option Value)(base:Heap)(x:Str)(k:Nat)(ps:List Str)(sp:Sp):Prop where
 ex:∃f fd,lU P w K mg base Cz k f fd ps sp/\mg x=some (.ref f)/\W.keepIn K (.ref f)=true/\Binds K fd ps []
structure cS(K:W.Frag)(mg:Str->Option Value)(x qual:Str)(st:Stmt)(ps:List Str):Prop where
 ex:∃f fd,JP K x qual st f fd/\mg x=some (.ref f)/\Binds K fd ps []
section
variable {P:Program}{w:World}{K:W.Frag}{mg:Str->Option Value}{base:Heap}
theorem cS.ok{x a:Str}{b:Stmt}{N c:List Str}{k:Nat}{sp:Sp}(T:cS K mg x a b c)(S:aC N c (ax b))(d:∀vs H Q E,sp vs H Q E->vs.length=c.length)
  (g:∀(f:Addr) (e:Value) (A:Around) (outer:List Env) (s:Shared) (H:Hp) (vs:List V) (Q:VK) (E:XK),eU k (A.deeper (envOfC a (ax b) s.heap.objs.size f e))->sp vs H Q E->
   ∃t,wG (q9 Cz P w K mg base N a (ax b) f e A outer s H E).Jn (di b) t/\t {nx:=λ_ a=>Q .bP a,rt:=Q} (start N vs) H):Def P w K mg base x (k + 1) c sp:=by
 obtain⟨f,a,F,b,c⟩:=T.ex;calc⟨f,a,F.ok S d (g f),b,F.kp,c⟩
end
theorem Sn{X:Cx}{k j:Nat}{c:List Str}{sp:Sp}{x:Str}{p a:Pos}{e:Expr}{b:List Expr}{t:TA}(D:Def X.prog X.w X.K X.mg X.base x k c sp)(d:eU j X.A)(g:PA X (e::b) t)(h:Gl X x:=by rfl)(c:k<=j:=by decide)
  (i:(x==("__debug__":Str))=false:=by decide) (j:starEach (e::b) X.env=(false,eval e X.env)::starEach b X.env:=by rfl) (k:(backTo a (starEach b X.env)).any (·.1)=false:=by rfl):
  PE X (.Call (.Name x p) (e::b) [] a) (xa sp [] E0 t):=by
 obtain⟨f,l,F,a,b,e⟩:=D.ex;calc Jy F (d.mono c) h a b e .nil AO g i j k
end
section
variable {H:Hp}
section
variable {X:Cx}
def Oa(K:W.Frag):R2:=λx y H Q=>match x,y with
 | .str z,.int i=>∃c,z.length<=sizeLine/\iJ z.cps.toList i=some c/\Q (.str ⟨#[c]⟩) H
 | .ref p,.int i=>∃xs v,(aO K H p xs\/bQ K H p xs)/\iJ xs i=some v/\Q v H
 | .ref p,.str k=>∃v,gX H p (.str k) (some v)/\Q v H
 |_,_=>False
theorem X3(c:X.A.units+64<cLine):JE X (Oa X.K):=by
  intro a b d s σ H x y v u Q I i j h k
  cases x<;>cases y<;>first
    |calc(show False from h).elim
    |(obtain⟨c,f,l,e⟩:=h;calc NF a b d s σ H _ _ v u Q I i j ⟨_,_,c,rfl,rfl,f,l,e⟩ k)
    | (obtain⟨c,m,f | f,l,e⟩:=h
       · exact JF a b d s σ H _ _ v u Q I i j ⟨_,c,_,m,rfl,rfl,f,l,e⟩ k
       · calc ND a b d s σ H _ _ v u Q I i j ⟨_,c,_,m,rfl,rfl,f,l,e⟩ k)
    | (obtain⟨m,g,e⟩:=h
       cases i;calc tail_any (xj I g) PySem.F.slot_dict_getitem.lookup (Cs () I g j λc d a b=>⟨m,H,a,b,e⟩) k)
end
inductive DV where
 |bP|bl (b:Bool)|int (i:Int)|str (x:Str)|tup (ds:List DV)|lst (ds:List DV)|dict
inductive HD(H:Hp):Nat->V->DV->Prop
 |bP {n}:HD H n .bP .bP
 |bl {n} (b:Bool):HD H n (.bl b) (.bl b)
 |int {n} (i:Int):HD H n (.int i) (.int i)
 |str {n} (x:Str):HD H n (.str x) (.str x)
 |tup {n a xs ds}:H a=some (.tup xs)->xs.length=ds.length->(∀(i:Nat) u e,xs[i]?=some u->ds[i]?=some e->HD H n u e)->HD H (n+1) (.ref a) (.tup ds)
 |lst {n a xs ds}:H a=some (.lst xs)->xs.length=ds.length->(∀(i:Nat) u e,xs[i]?=some u->ds[i]?=some e->HD H n u e)->HD H (n+1) (.ref a) (.lst ds)
 |dict {n a bg}:H a=some (.dK bg)->HD H n (.ref a) .dict
theorem HD.same{H a:Hp}(s:au H a){n:Nat}{x:V}{d:DV}(h:HD H n x d):HD a n x d:=by
 induction h with
 |bP=>calc .bP
 |bl b=>calc .bl b
 |int i=>calc .int i
 |str x=>calc .str x
 |tup a b c d=>calc .tup (s _ _ a) b d
 |lst a b c d=>calc .lst (s _ _ a) b d
 |dict a=>calc .dict (s _ _ a)
theorem HD.mono{H:Hp}{n:Nat}{x:V}{d:DV}(h:HD H n x d):∀{m:Nat},n<=m->HD H m x d:=by
 induction h with
 |bP=>intro m _;calc .bP
 |bl b=>intro m _;calc .bl b
 |int i=>intro m _;calc .int i
 |str x=>intro m _;calc .str x
 |tup a b c f=>
  intro m g;obtain⟨k,rfl⟩:∃k,m=k+1:=⟨m-1,()⟩
  calc .tup a b λi u e p q=>f i u e p q ()
 |lst a b c f=>
  intro m g;obtain⟨k,rfl⟩:∃k,m=k+1:=⟨m-1,()⟩
  calc .lst a b λi u e p q=>f i u e p q ()
 |dict a=>intro m _;calc .dict a
inductive HT(H:Hp):Nat->V->DV->Prop
 |bP {n}:HT H n .bP .bP
 |bl {n} (b:Bool):HT H n (.bl b) (.bl b)
 |int {n} (i:Int):HT H n (.int i) (.int i)
 |str {n} (x:Str):HT H n (.str x) (.str x)
 |tup {n a xs ds}:H a=some (.tup xs)->xs.length=ds.length->(∀(i:Nat) u e,xs[i]?=some u->ds[i]?=some e->HT H n u e)->HT H (n+1) (.ref a) (.tup ds)
theorem HT.hd{H:Hp}{n:Nat}{x:V}{d:DV}(h:HT H n x d):HD H n x d:=by
 induction h with
 |bP=>calc .bP
 |bl b=>calc .bl b
 |int i=>calc .int i
 |str x=>calc .str x
 |tup a b c d=>calc .tup a b d
def cg(H a:Hp):Prop:=∀b xs,H b=some (.tup xs)->a b=some (.tup xs)
theorem au.aP{a:Hp}(h:au H a):cg H a:=λb a e=>h b _ e
theorem cg.refl(H:Hp):cg H H:=λ_ _ h=>h
theorem cg.trans{c d:Hp}(a:cg H c)(b:cg c d):cg H d:=λc o h=>b c o (a c o h)
theorem cg.upd{a:Hp}(h:cg H a){p:Addr}{o:HO}(d:∀xs,a p≠some (.tup xs)):cg H (upd a p o):=λb xs e=>by
 have c:=h b xs e;have:b≠p:=λz=>by subst z;exact d xs c
 rw[av this];calc c
theorem HT.aH{H a:Hp}(s:cg H a){n:Nat}{x:V}{d:DV}(h:HT H n x d):HT a n x d:=by
 induction h with
 |bP=>calc .bP
 |bl b=>calc .bl b
 |int i=>calc .int i
 |str x=>calc .str x
 |tup a b c d=>calc .tup (s _ _ a) b d
theorem au.new{p:Addr}(o:HO)(a:H p=none):au H (upd H p o):=λb u e=>by rw[av (ao e a)];calc e
end
section
section
variable {X:Cx}
def Ob(K:W.Frag):List V->Hp->VK->Prop:=λxs H Q=>match xs with
 | [x]=>∃n,Et K x H n/\Q (.int (n:Nat)) H
 |_=>False
theorem aL:ee X (.builtin "len") (Ob X.K):=by
 intro a s σ H b c Q I r h
 match b,r,h with
 | [x],r,h=>
  obtain⟨n,b,d⟩:=h;calc Eu a s σ H _ c Q I r ⟨x,n,rfl,b,d⟩
def uII(g:Int->Int->Int):List V->Hp->VK->Prop:=λxs H Q=>match xs with
 | [.int i,.int j]=>Q (.int (g i j)) H
 |_=>False
theorem uL(b:X.calm=true):ee X (.builtin "max") (uII λi j=>if j > i then j else i):=by
 intro a s σ H c d Q I r h
 match c,r,h with
 | [.int i,.int j],r,h=>calc Ci b a s σ H _ d Q I r ⟨i,j,rfl,h⟩
def vJ(K:W.Frag):List V->Hp->VK->Prop:=λxs H Q=>match xs with
 | [.ref p]=>(∃ys,aO K H p ys/\∀l,H l=none->Q (.ref l) (upd H l (.tup ys)))\/(∃ys,bQ K H p ys/\Q (.ref p) H)
 |_=>False
theorem bN:ee X (.type "tuple") (vJ X.K):=by
 intro a s σ H b e Q I r h
 match b,r,h with
 | [.ref p],r,h=>
  rcases h with⟨b,c,d⟩|⟨b,c,d⟩
  ·exact l8 a s σ H _ e Q I r ⟨p,b,rfl,.inl ⟨c,d⟩⟩
  ·calc l8 a s σ H _ e Q I r ⟨p,b,rfl,.inr ⟨c,d⟩⟩
def E5(K:W.Frag):List V->Hp->VK->Prop:=λxs H Q=>match xs with
 | [.ref p]=>∃ys,(aO K H p ys\/bQ K H p ys)/\∀l,H l=none->Q (.ref l) (upd H l (.lst ys))
 |_=>False
theorem cI:ee X (.type "list") (E5 X.K):=by
 intro a s σ H b c Q I r h
 match b,r,h with
 | [.ref p],r,h=>
  obtain⟨b,d,e⟩:=h;calc vF a s σ H _ c Q I r ⟨p,b,rfl,d,e⟩
def Lv:V->V->V->Hp->(Hp->Prop)->Prop:=λo i v H Q=>match o,i with
 | .ref p,.int k=>∃xs j,H p=some (.lst xs)/\zi xs.length k=some j/\Q (upd H p (.lst (xs.set j v)))
 |_,_=>False
theorem dX:Nd X Lv:=by
 intro a s σ H o i v b c u Q I d e f h
 cases o<;>cases i<;>first
  |calc(show False from h).elim
  |(obtain⟨g,j,i,k,l⟩:=h;calc set_list a s σ H _ _ v b c u Q I d e f ⟨_,g,_,j,rfl,rfl,i,k,l⟩)
end
theorem So{CX P w K mg base N qual scope f cd A outer s H E}:(q9 CX P w K mg base N qual scope f cd A outer s H E).Jn.K=K:=rfl
theorem Lw{X:Cx}:X.Jn.K=X.K:=rfl
theorem E6{CX P w K mg base N qual scope f cd A outer s H E}:(q9 CX P w K mg base N qual scope f cd A outer s H E).K=K:=rfl
theorem Lx{X:Cx}{scope C N' a b fp}:(Sd X scope C N' a b fp).K=X.K:=rfl
theorem cH:2<=sizeLine:=by decide
end
section
variable {g:Int->Int->V}
section
variable {K:W.Frag}{H:Hp}{Q:VK}{i j:Int}{a b:Addr}{x y:V}{s t:Str}
theorem Ly{C:Int->Int->Prop}:uI C g (.int i) (.int j) H Q=(C i j/\Q (g i j) H):=rfl
theorem E8:NX g (.int i) (.int j) H Q=Q (g i j) H:=rfl
theorem E9:decide (V.int i=V.int j)=decide (i=j):=by simp
theorem Fb:decide (V.str s=V.str t)=decide (s=t):=by simp
theorem vK:N0 K (.int i) (.int j) H Q=Q (.bl (decide (i=j))) H:=by
 show(true=true/\Q (.bl (decide (V.int i=V.int j))) H)=_;rw[E9];simp
theorem vL:N0 K (.str s) (.str t) H Q=Q (.bl (decide (s=t))) H:=by
 show(true=true/\Q (.bl (decide (V.str s=V.str t))) H)=_;rw[Fb];simp
theorem vM:Qu K (.int i) (.int j) H Q=Q (.bl (!decide (i=j))) H:=by
 show(true=true/\Q (.bl (!decide (V.int i=V.int j))) H)=_;rw[E9];simp
theorem vN:Qu K (.str s) (.str t) H Q=Q (.bl (!decide (s=t))) H:=by
 show(true=true/\Q (.bl (!decide (V.str s=V.str t))) H)=_;rw[Fb];simp
theorem Fc:N0 K (.ref a) (.ref b) H Q=((iO K H 20 (.ref a) (.ref b)/\Q (.bl true) H)\/(rC K H a b/\Q (.bl false) H)):=rfl
theorem Fd:Qu K (.ref a) (.ref b) H Q=((iO K H 20 (.ref a) (.ref b)/\Q (.bl false) H)\/(rC K H a b/\Q (.bl true) H)):=rfl
theorem Fe{g:Bool->Bool}{c d:Bool}:Sm g (.bl c) (.bl d) H Q=Q (.bl (g (c==d))) H:=rfl
theorem Lz{b:Bool}:uIn K b x (.ref a) H Q=∃xs,(aO K H a xs\/bQ K H a xs)/\jC x=true/\xs.all jC=true/\Q (.bl (if b then !AL x xs else AL x xs)) H:=rfl
theorem Ff:Oa K (.ref a) (.int i) H Q=∃xs v,(aO K H a xs\/bQ K H a xs)/\iJ xs i=some v/\Q v H:=rfl
theorem Fg:Oa K (.ref a) (.str s) H Q=∃v,gX H a (.str s) (some v)/\Q v H:=rfl
theorem Fh:Oa K (.str s) (.int i) H Q=∃c,s.length<=sizeLine/\iJ s.cps.toList i=some c/\Q (.str ⟨#[c]⟩) H:=rfl
theorem Fi:Ob K [x] H Q=∃n,Et K x H n/\Q (.int (n:Nat)) H:=rfl
theorem LC{g:Int->Int->Int}:uII g [.int i,.int j] H Q=Q (.int (g i j)) H:=rfl
theorem nU:vJ K [.ref a] H Q=((∃ys,aO K H a ys/\∀l,H l=none->Q (.ref l) (upd H l (.tup ys)))\/(∃ys,bQ K H a ys/\Q (.ref a) H)):=rfl
theorem AS:E5 K [.ref a] H Q=∃ys,(aO K H a ys\/bQ K H a ys)/\∀l,H l=none->Q (.ref l) (upd H l (.lst ys)):=rfl
theorem xu{R:Hp->Prop}:Lv (.ref a) (.int i) x H R=∃xs j,H a=some (.lst xs)/\zi xs.length i=some j/\R (upd H a (.lst (xs.set j x))):=rfl
theorem uM{α:Type}{o:Option α}:(some o).join=o:=rfl
end
end
section
variable {r:List V->Hp->VK->Prop}
def fX:Expr->Bool
 | .Starred ..=>false
 |_=>true
theorem fY{e:Expr}{a:List Expr}{env:Env}(h:fX e=true):starEach (e::a) env=(false,eval e env)::starEach a env:=by
 cases e<;>first|rfl|calc absurd h S'
theorem jD{a:Pos}{env:Env}:∀{b:List Expr},b.all fX=true->(backTo a (starEach b env)).any (·.1)=false
 | [],_=>rfl
 |e::b,h=>by
  rw[List.all_cons,Bool.and_eq_true]at h;rw[fY h.1];show(false||(backTo a (starEach b env)).any (·.1))=false;rw[jD h.2];rfl
def zr:Expr->Bool
 | .ListComp ..=>false
 | .SetComp ..=>false
 | .DictComp ..=>false
 |_=>true
theorem gs{e:Expr}{t:Option Expr}{l:Nat}{env:Env}(h:zr e=true):swapsWith e t l env=pure false:=by
 cases e<;>first|rfl|calc absurd h S'
section
variable {X:Cx}{e:Expr}{es:List Expr}{te:TE}{t:TA}{pos p:Pos}{x:Str}
theorem af(a:PE X e te)(b:PA X es t)(h:fX e=true:=by rfl):PA X (e::es) (AB te t):=Jx a b (fY h)
theorem aK{k j:Nat}{a:List Str}{sp:Sp}(D:Def X.prog X.w X.K X.mg X.base x k a sp)(b:eU j X.A)(c:PA X (e::es) t)(d:Gl X x:=by rfl)(a:k<=j:=by decide)
  (f:(x==("__debug__":Str))=false:=by decide) (g:fX e=true:=by rfl) (h:es.all fX=true:=by rfl):
  PE X (.Call (.Name x p) (e::es) [] pos) (xa sp [] E0 t):=Sn D b c d a f (fY g) (jD h)
theorem aV{a:String}(b:ee X (.builtin a) r)(c:Gl X x)(d:X.mg x=none)(f:bootBuiltins x=some (.builtin a))(g:PA X (e::es) t)(h:x≠"__name__":=by decide)(a:(x==("__debug__":Str))=false:=by decide)
  (i:fX e=true:=by rfl) (j:es.all fX=true:=by rfl):PE X (.Call (.Name x p) (e::es) [] pos) (Qr r t):=EB b c d f g h a (fY i) (jD j)
theorem cX{T:String}(a:ee X (.type T) r)(b:Gl X x)(c:X.mg x=none)(d:bootBuiltins x=some (.type T))(f:PA X (e::es) t)(g:x≠"__name__":=by decide)(h:(x==("__debug__":Str))=false:=by decide)
  (i:fX e=true:=by rfl) (j:es.all fX=true:=by rfl):PE X (.Call (.Name x p) (e::es) [] pos) (Qr r t):=Co a b c d f g h (fY i) (jD j)
theorem aZ{i:Nat}{a:Pos}(b:X.N.Nodup)(c:X.N[i]?=some x)(d:Loc X.env.scope x)(f:PE X e te)(h:zr e=true:=by rfl)(g:X.fn x=true\/X.env.scope.names.lookup x=some .local:=by grind):
  PS X (.Assign [.Name x a] e pos) (Ce te (fS i)):=Ei b c d f (gs h) g
theorem bJ(a:PE X e te)(h:zr e=true:=by rfl):PS X (.Expr e pos) (As te):=Jo a (gs h)
end
end
section
def vO:Expr->Bool
 | .Slice ..=>false
 |_=>true
theorem Fj{b:Expr}(h:vO b=true):AJ b:=λo i=>by
 cases b<;>first|rfl|calc absurd h S'
theorem aj{X:Cx}{a b:Expr}{d e:TE}{c:Pos}(f:X.A.units+64<cLine)(g:PE X a d)(i:PE X b e)(h:vO b=true:=by rfl):PE X (.Subscript a b c) (Ep (Oa X.K) d e):=R1 (X3 f) g i (Fj h)
end
end L2
set_option maxHeartbeats 400000
namespace L2
open PySem PySem.Spec PyProof.Rows
section
section
variable {prog:Program}{w:World}{A:Around}{E:Value->Shared->Prop}{s:Shared}{K:W.Frag}{x C B:Addr}{ox:Obj}{od:Option Obj}{name:Str}
open PySem.W in
open PySem.W in
end
end
section
end
end L2
namespace L2
open PySem PySem.Spec PyProof.Rows
end L2
set_option maxHeartbeats 4000000
namespace PySem
variable {a j:Addr}{Q:Value->Shared->Prop}
section
variable {prog:Program}{w:World}{A:Around}{E:Value->Shared->Prop}{s:Shared}
theorem qv{n:Nat}{c:Array Value}{v:Value}(b:s.heap.IsTupleIter j a n)(f:s.heap.IsTuple a c)(h:c[n]?=some v)
  (q:∀g,g.IsTupleIter j a (n+1)->Heap.SameBut j s.heap g->Q v {s with heap:=g}):wpAny (model prog w) A (Builtin.SmallTypes.nextOf (.ref j)) Q E s:=by
 obtain⟨g,e,c,d⟩:=id b;obtain⟨k,g,_,l,i⟩:=f;unfold Builtin.SmallTypes.nextOf;refine A' (aax (name:=Str.ofString "__next__") b.typeIs F.slot_tuple_iterator_next (wpAny_call_entry F.slot_tuple_iterator_next b.typeIs F.entry_tuple_iterator_next ?_ (F.args_tuple_iterator_next_1 _)));refine A' (m:=field (.ref j) 0) (aaq e d (x:=.ref a) rfl ?_);show wpAny _ _ (if (Value.ref a==Value.none)=true then _ else _) _ _ _;rw[if_neg (by exact Bool.false_ne_true)];refine A' (m:=field (.ref j) 1) (aaq e d (x:=.int n 0) rfl ?_);refine A' (m:=seqItems? (.ref a)) (aaI g i ?_);simp only[Int.toNat_natCast,h];refine A' (wpAny_setField e d nofun (M' ⟨v,rfl,M' (q _ ⟨_,Heap.get?_update_self _ e (Obj.isFreed_of_fields (Obj.data_mapFields d _)),(Obj.cls_mapFields ..).trans c,?_⟩ (Heap.SameBut.update ..))⟩));rw[Obj.data_mapFields d];simp[rawInt]
theorem rE{n:Nat}{c:Array Value}(f:A.handled=none)(b:s.heap.IsTupleIter j a n)(h:s.heap.IsTuple a c)(i:c[n]?=none)
  (q:∀g e,Heap.ExtBut j s.heap g->(∃o,g.get? e=some o/\o.cls=.type "StopIteration")->E (.ref e) {s with heap:=g}):wpAny (model prog w) A (Builtin.SmallTypes.nextOf (.ref j)) Q E s:=by
 obtain⟨g,e,c,d⟩:=id b;obtain⟨k,c,_,l,g⟩:=h;unfold Builtin.SmallTypes.nextOf;refine A' (aax (name:=Str.ofString "__next__") b.typeIs F.slot_tuple_iterator_next (wpAny_call_entry F.slot_tuple_iterator_next b.typeIs F.entry_tuple_iterator_next ?_ (F.args_tuple_iterator_next_1 _)));refine A' (m:=field (.ref j) 0) (aaq e d (x:=.ref a) rfl ?_);show wpAny _ _ (if (Value.ref a==Value.none)=true then _ else _) _ _ _;rw[if_neg (by exact Bool.false_ne_true)];refine A' (m:=field (.ref j) 1) (aaq e d (x:=.int n 0) rfl ?_);refine A' (m:=seqItems? (.ref a)) (aaI c g ?_);simp only[Int.toNat_natCast,i];refine A' (wpAny_rule (A' (wpAny_setField e d nofun (A' (m:=newExc (.type "StopIteration") []) ?_))));simp only[newExc,newTuple];refine A' (aaF (A' (m:=firstArgMember _ _) (wpAny_of_eq (a:=Value.none) (by first|rfl|(simp only[firstArgMember];rfl)) (aaF ?_ (by size_fits)))) (by size_fits));simp only[raiseNew];refine A' (wpAny_handled ?_)
 first|rw[show A.in1.handled=none from f]|rw[f]
 calc A' (M' (wpAny_throw (q _ _ (((Heap.SameBut.update ..).extBut.push _).push _) ⟨_,T' _ rfl,rfl⟩)))
end
theorem Draws.tup{prog:Program}{w:World}{A:Around}(f:A.handled=none)(j a:Addr)(l:a≠j)(c:Array Value):
  Draws prog w A j [j,a] c.size (λi v=>c[i]?=some v) (λi h=>h.IsTupleIter j a i/\h.IsTuple a c) where
 live:=λ_ _ b=>let ⟨o,d,_⟩:=b.1;⟨o,d⟩
 frame:=λ_ _ _ b k=>⟨b.1.at λo e=>k j nofun o e,b.2.at λo e=>k a nofun o e⟩
 item:=λi s Q E d b q=>qv b.1 b.2 (v:=c[i]) (by simp[d]) λg h e=>q _ g s.toks (by simp[d]) ⟨h,b.2.extBut e.extBut l⟩ e
 done:=λs Q E b q=>rE f b.1 b.2 nofun q
def zt(b:Bool)(h:Heap)(a:Addr)(c:Array Value):Prop:=if b=true then h.IsList a c else h.IsTuple a c
def oU(b:Bool)(h:Heap)(j a:Addr)(n:Nat):Prop:=if b=true then h.IsListIter j a n else h.IsTupleIter j a n
theorem oU.at{b:Bool}{h h':Heap}{n:Nat}(x:oU b h j a n)(k:∀o,h.get? j=some o->h'.get? j=some o):oU b h' j a n:=by
 cases b
 ·exact Heap.IsTupleIter.at x k
 ·calc Heap.IsListIter.at x k
theorem oU.obj{b:Bool}{h:Heap}{n:Nat}(x:oU b h j a n):∃o,h.get? j=some o/\∀v,o.data≠.cell v:=by
 cases b<;>(obtain⟨o,e,c,d⟩:=x;calc⟨o,e,λv z=>by rw[d]at z;cases z⟩)
theorem Draws.sq{prog:Program}{w:World}{A:Around}(d:A.handled=none)(b:Bool)(j a:Addr)(e:a≠j)(c:Array Value):
  Draws prog w A j [j,a] c.size (λi v=>c[i]?=some v) (λi h=>oU b h j a i/\zt b h a c):=by
 cases b
 ·exact Draws.tup d j a e c
 ·calc Draws.list d j a e c
end PySem
namespace PySem
variable {Q:Option Value->Shared->Prop}
structure ZA(z ti to i1 i2:Addr)(f1 f2:List Addr):Prop where
 a1:ti≠z
 a2:to≠z
 a3:i1≠z
 a4:i2≠z
 a5:ti≠to
 a6:ti≠i1
 a7:ti≠i2
 a8:to≠i1
 a9:to≠i2
 a10:i1≠i2
 b1:z∉f1
 b2:to∉f1
 b3:i2∉f1
 c1:z∉f2
 c2:to∉f2
 c3:i1∉f2
section
variable {prog:Program}{w:World}{A:Around}{E:Value->Shared->Prop}{s:Shared}{z ti to i1 i2:Addr}{f1 f2:List Addr}{n1 n2 k:Nat}{P1 P2:Nat->Value->Prop}{S1 S2:Nat->Heap->Prop}{a b:Value}
theorem CB{Q:Value->Shared->Prop}(Z:ZA z ti to i1 i2 f1 f2)(B:Draws prog w A i1 f1 n1 P1 S1)(C:Draws prog w A i2 f2 n2 P2 S2)(d:IsZip s.heap z ti to .none)(i:IsPair s.heap ti (.ref i1) (.ref i2))(u:IsPair s.heap to a b)
  (l:S1 k s.heap) (F:S2 k s.heap) (n:k<n1) (G:k<n2)
  (q:∀x y g e,P1 k x->P2 k y->IsZip g z ti to (rawInt s.heap.objs.size)->IsPair g to x y->S1 (k + 1) g->S2 (k + 1) g->IsPair g s.heap.objs.size x y->g.objs.size=s.heap.objs.size + 1->
   (∀c o,c≠z->c≠to->c≠i1->c≠i2->s.heap.get? c=some o->g.get? c=some o)->Q (.ref s.heap.objs.size) {s with heap:=g,toks:=e}):
  wpAny (model prog w) A (Builtin.«zip.__next__» ⟨[.ref z],[]⟩) (λe s'=>∃v,e=.done (.ret v)/\Q v s') E s:=by
 calc A' (m:=field (.ref z) 2) (aaq d rfl (x:=.bool false) rfl (A' (m:=field (.ref z) 3) (aaq d rfl (x:=.ref ti) rfl ?_)));calc A' (aaI i rfl (A' (m:=Builtin.SmallTypes.ownedTupleIsFree (.ref z)) ?_));unfold Builtin.SmallTypes.ownedTupleIsFree;calc A' (aaq d rfl (x:=.none) rfl (M' ?_));simp only[if_true];refine A' (wpAny_rule (A' (aaq d rfl (x:=.ref to) rfl (A' (wpAny_setField_rec d nofun λj p r=>?_)))))
 replace p:IsZip j z ti to .ellipsis:=p
 calc A' ?_;simp only[List.zipIdx_cons,List.zipIdx_nil,List.forIn_cons,List.forIn_nil];calc A' (A' (wpAny_onRaise (A' (m:=Builtin.SmallTypes.nextOf (.ref i1)) ?_)));refine B.item k _ _ _ n (B.frame _ _ _ l λc g o e=>r.extBut c o (λh=>Z.b1 (h▸g)) e) λx d l L J i=>M' ?_
 replace i:Heap.SameBut i1 j d:=i
 have l:IsPair d to a b:=i.extBut _ _ Z.a8 (r.extBut _ _ Z.a2 u);refine A' (aaI l rfl (A' (wpAny_updateSeq_pair l λn t j=>A' (wpAny_letGo (M' ?_)))))
 replace t:IsPair n to x b:=t
 replace j:Heap.SameBut to d n:=j
 calc A' (A' (wpAny_onRaise (A' (m:=Builtin.SmallTypes.nextOf (.ref i2)) ?_)));refine C.item k _ _ _ G (C.frame _ _ _ F λc g o e=>j.extBut c o (λh=>Z.c2 (h▸g)) (i.extBut c o (λh=>Z.c3 (h▸g)) (r.extBut c o (λh=>Z.c1 (h▸g)) e))) λy u d M K l=>M' ?_
 replace l:Heap.SameBut i2 n u:=l
 have F:IsPair u to x b:=l.extBut _ _ Z.a9 t;refine A' (aaI F rfl (A' (wpAny_updateSeq_pair F λd v n=>A' (wpAny_letGo (M' (M' ?_))))))
 replace v:IsPair d to x y:=v
 replace n:Heap.SameBut to u d:=n
 calc A' (aaI v rfl (A' (wpAny_newTuple ?_)));have t:d.objs.size=s.heap.objs.size:=by rw[n.1,l.1,j.1,i.1,r.1]
 have u:IsZip d z ti to .ellipsis:=n.extBut _ _ Z.a2.symm (l.extBut _ _ Z.a4.symm (j.extBut _ _ Z.a2.symm (i.extBut _ _ Z.a3.symm p)));have N:∀c o,c≠z->c≠to->c≠i1->c≠i2->s.heap.get? c=some o->d.get? c=some o:=λc o p F G I e=>n.extBut _ _ F (l.extBut _ _ I (j.extBut _ _ F (i.extBut _ _ G (r.extBut _ _ p e))));have O:S1 (k+1) d:=B.frame _ _ _ J λc g o e=>n.extBut c o (λh=>Z.b2 (h▸g)) (l.extBut c o (λh=>Z.b3 (h▸g)) (j.extBut c o (λh=>Z.b2 (h▸g)) e));have P:S2 (k+1) d:=C.frame _ _ _ K λc g o e=>n.extBut c o (λh=>Z.c2 (h▸g)) e;have i:z<d.objs.size:=P' u;refine A' (m:=Builtin.SmallTypes.ownedTupleHandOut (.ref z) (.ref d.objs.size)) ?_;unfold Builtin.SmallTypes.ownedTupleHandOut;have j:IsZip (d.push {cls:=.type "tuple",data:=.seq #[x,y]}) z ti to .ellipsis:=J' _ u;refine A' (wpAny_setField_rec j nofun λn l J=>?_)
 replace l:IsZip n z ti to (rawInt d.objs.size):=l
 refine wpAny_setField_rec l nofun λj n u=>?_
 replace n:IsZip j z ti to (rawInt d.objs.size):=n
 have r:∀c o,c≠z->d.get? c=some o->j.get? c=some o:=λc o p e=>u.extBut _ _ p (J.extBut _ _ p (J' _ e));have K:IsPair j d.objs.size x y:=u.extBut _ _ (Nat.ne_of_gt i) (J.extBut _ _ (Nat.ne_of_gt i) (T' _ rfl));have l:j.objs.size=d.objs.size+1:=by rw[u.1,J.1,Heap.size_push]
 rw[t]at n K l;calc M' ⟨_,rfl,?_⟩;show Q (.ref d.objs.size) _;rw[t];calc q x y j _ L M n (r _ _ Z.a2 v) (B.frame _ _ _ O λc g o e=>r c o (λh=>Z.b1 (h▸g)) e) (C.frame _ _ _ P λc g o e=>r c o (λh=>Z.c1 (h▸g)) e) K l λc o p F G I e=>r c o p (N c o p F G I e)
theorem Fn{Q:Fin->Shared->Prop}(Z:ZA z ti to i1 i2 f1 f2)(G:Draws prog w A i1 f1 n1 P1 S1)(O:Draws prog w A i2 f2 n2 P2 S2)(p:IsZip s.heap z ti to .none)(T:IsPair s.heap ti (.ref i1) (.ref i2))(U:IsPair s.heap to a b)
  (W:S1 k s.heap) (X:S2 k s.heap) (l:k=n1\/(k<n1/\k=n2))
  (q:∀g e Y,(∀c o,c≠z->c≠to->c≠i1->c≠i2->s.heap.get? c=some o->g.get? c=some o)->(∃o,g.get? e=some o/\o.cls=.type "StopIteration")->E (.ref e) {s with heap:=g,toks:=Y}):
  wpAny (model prog w) A (Builtin.«zip.__next__» ⟨[.ref z],[]⟩) Q E s:=by
 calc A' (m:=field (.ref z) 2) (aaq p rfl (x:=.bool false) rfl (A' (m:=field (.ref z) 3) (aaq p rfl (x:=.ref ti) rfl ?_)));calc A' (aaI T rfl (A' (m:=Builtin.SmallTypes.ownedTupleIsFree (.ref z)) ?_));unfold Builtin.SmallTypes.ownedTupleIsFree;calc A' (aaq p rfl (x:=.none) rfl (M' ?_));simp only[if_true];refine A' (wpAny_rule (A' (aaq p rfl (x:=.ref to) rfl (A' (wpAny_setField_rec p nofun λI B r=>?_)))))
 replace B:IsZip I z ti to .ellipsis:=B
 calc A' ?_;simp only[List.zipIdx_cons,List.zipIdx_nil,List.forIn_cons,List.forIn_nil];calc A' (A' (wpAny_onRaise (A' (m:=Builtin.SmallTypes.nextOf (.ref i1)) ?_)));have P:=G.frame _ _ _ W λc t o e=>r.extBut c o (λh=>Z.b1 (h▸t)) e;rcases l with l|⟨l1,l2⟩
 ·subst l;calc G.done _ _ _ P λn x d J=>?_;obtain⟨K,j,u⟩:=J
  replace d:Heap.ExtBut i1 I n:=d
  have R:IsZip n z ti to .ellipsis:=d _ _ Z.a3.symm B;have L:x≠z:=λy=>by subst y;rw[R]at j;cases j;simp at u
  exact wpAny_setField_rec R nofun λC _ i=>q C x s.toks (λc o v _ M _ y=>i.extBut _ _ v (d _ _ M (r.extBut _ _ v y))) ⟨K,i.extBut _ _ L j,u⟩
 ·subst l2;refine G.item k _ _ _ l1 P λx n N g l d=>M' ?_
  replace d:Heap.SameBut i1 I n:=d
  have g:IsPair n to a b:=d.extBut _ _ Z.a8 (r.extBut _ _ Z.a2 U);refine A' (aaI g rfl (A' (wpAny_updateSeq_pair g λC l i=>A' (wpAny_letGo (M' ?_)))))
  replace i:Heap.SameBut to n C:=i
  calc A' (A' (wpAny_onRaise (A' (m:=Builtin.SmallTypes.nextOf (.ref i2)) ?_)));calc O.done _ _ _ (O.frame _ _ _ X λc t o e=>i.extBut c o (λh=>Z.c2 (h▸t)) (d.extBut c o (λh=>Z.c3 (h▸t)) (r.extBut c o (λh=>Z.c1 (h▸t)) e))) λg x F J=>?_;obtain⟨K,j,u⟩:=J
  replace F:Heap.ExtBut i2 C g:=F
  have S:IsZip g z ti to .ellipsis:=F _ _ Z.a4.symm (i.extBut _ _ Z.a2.symm (d.extBut _ _ Z.a3.symm B));have L:x≠z:=λy=>by subst y;rw[S]at j;cases j;simp at u
  calc wpAny_setField_rec S nofun λg _ e=>q g x N (λc o v l M n y=>e.extBut _ _ v (F _ _ n (i.extBut _ _ l (d.extBut _ _ M (r.extBut _ _ v y))))) ⟨K,e.extBut _ _ L j,u⟩
end
section
variable {prog:Program}{w:World}{A:Around}{E:Value->Shared->Prop}{s:Shared}{z ti to i1 i2:Addr}{f1 f2:List Addr}{n1 n2 k:Nat}{P1 P2:Nat->Value->Prop}{S1 S2:Nat->Heap->Prop}{a b:Value}
theorem tP(Z:ZA z ti to i1 i2 f1 f2)(f:Draws prog w A.in1 i1 f1 n1 P1 S1)(h:Draws prog w A.in1 i2 f2 n2 P2 S2)(e:IsZip s.heap z ti to .none)(i:IsPair s.heap ti (.ref i1) (.ref i2))(j:IsPair s.heap to a b)
  (l:S1 k s.heap) (m:S2 k s.heap) (n:k<n1) (p:k<n2)
  (q:∀x y g d,P1 k x->P2 k y->IsZip g z ti to (rawInt s.heap.objs.size)->IsPair g to x y->S1 (k + 1) g->S2 (k + 1) g->IsPair g s.heap.objs.size x y->g.objs.size=s.heap.objs.size + 1->
   (∀c o,c≠z->c≠to->c≠i1->c≠i2->s.heap.get? c=some o->g.get? c=some o)->Q (some (.ref s.heap.objs.size)) {s with heap:=g,toks:=d}):
  wpAny (model prog w) A (pyNext (.ref z)) Q E s:=by
 have c:s.TypeIs (.ref z) "zip":=⟨_,e,rfl⟩
 unfold pyNext;exact A' (wpAny_attempt (aax (name:=Str.ofString "__next__") c F.slot_zip_next (wpAny_call_entry F.slot_zip_next c F.entry_zip_next
  (CB Z f h e i j l m n p λx y g d c o r t u v B C D=>M' (q x y g d c o r t u v B C D)) (F.args_zip_next_1 _))))
theorem vP(Z:ZA z ti to i1 i2 f1 f2)(h:Draws prog w A.in1 i1 f1 n1 P1 S1)(i:Draws prog w A.in1 i2 f2 n2 P2 S2)(d:IsZip s.heap z ti to .none)(j:IsPair s.heap ti (.ref i1) (.ref i2))(m:IsPair s.heap to a b)
  (n:S1 k s.heap) (p:S2 k s.heap) (l:k=n1\/(k<n1/\k=n2))
  (q:∀g f,(∀c o,c≠z->c≠to->c≠i1->c≠i2->s.heap.get? c=some o->g.get? c=some o)->Q none {s with heap:=g,toks:=f}):wpAny (model prog w) A (pyNext (.ref z)) Q E s:=by
 have c:s.TypeIs (.ref z) "zip":=⟨_,d,rfl⟩
 unfold pyNext;refine A' (wpAny_attempt (aax (name:=Str.ofString "__next__") c F.slot_zip_next (wpAny_call_entry F.slot_zip_next c F.entry_zip_next
  (Fn Z h i d j m n p l λg e f c ⟨o,r,t⟩=>?_) (F.args_zip_next_1 _))))
 calc A' (wpAny_isInstance (T:="StopIteration") (b:=true) ⟨o,r,t⟩ isSubtype_stop (M' (q _ _ c)))
end
def IG(b:Bool)(a:Addr):Obj:=if b=true then {cls:=.type "list_iterator",data:=.fields #[.ref a,.int 0 0]} else {cls:=.type "tuple_iterator",data:=.fields #[.ref a,.int 0 0]}
abbrev Wg(h:Heap)(b:Bool)(l:Addr):Heap:=h.push (IG b l)
abbrev Wh(h:Heap)(b c:Bool)(l m:Addr):Heap:=(Wg h b l).push (IG c m)
abbrev Wi(h:Heap)(b c:Bool)(l m:Addr):Heap:=(Wh h b c l m).push {cls:=.type "tuple",data:=.seq #[.ref h.objs.size,.ref (Wg h b l).objs.size]}
abbrev Wj(h:Heap)(b c:Bool)(l m:Addr):Heap:=(Wi h b c l m).push {cls:=.type "tuple",data:=.seq #[.none,.none]}
abbrev Od(h:Heap)(b c:Bool)(l m:Addr):Heap:=(Wj h b c l m).push {cls:=.type "zip",data:=.fields #[.none,.bool false,.bool false,.ref (Wh h b c l m).objs.size,.ref (Wi h b c l m).objs.size]}
theorem CC(b c:Bool)(l m:Addr)(xs ys:Array Value):
  Meets (Builtin.«zip.__new__» ⟨[.type "zip",.ref l,.ref m],[]⟩) (λ_ R s=>zt b s.heap l xs/\zt c s.heap m ys/\R (.ok (.ret (.ref (Wj s.heap b c l m).objs.size))) {s with heap:=Od s.heap b c l m}):=
 .of_wp λk w A R s h=>by
  obtain⟨a,g,d,e,f⟩:=s;obtain⟨i,j,h⟩:=h;have k:=sub_zip
  cases b<;>cases c
  ·have b:Heap.IsTuple (Shared.heap ⟨a,g,d,e,f⟩) l xs:=i;have L2:Heap.IsTuple (Shared.heap ⟨a.push {cls:=.type "tuple_iterator",data:=.fields #[.ref l,.int 0 0]},g,d,e,f⟩) m ys:=Heap.IsTuple.push j _;wp_walk using aat b,aat L2;exact⟨_,rfl,h⟩
  ·have b:Heap.IsTuple (Shared.heap ⟨a,g,d,e,f⟩) l xs:=i;have L2:Heap.IsList (Shared.heap ⟨a.push {cls:=.type "tuple_iterator",data:=.fields #[.ref l,.int 0 0]},g,d,e,f⟩) m ys:=Heap.IsList.push j _;wp_walk using aat b,wpAny_pyIter_list L2;exact⟨_,rfl,h⟩
  ·have b:Heap.IsList (Shared.heap ⟨a,g,d,e,f⟩) l xs:=i;have L2:Heap.IsTuple (Shared.heap ⟨a.push {cls:=.type "list_iterator",data:=.fields #[.ref l,.int 0 0]},g,d,e,f⟩) m ys:=Heap.IsTuple.push j _;wp_walk using wpAny_pyIter_list b,aat L2;exact⟨_,rfl,h⟩
  ·have b:Heap.IsList (Shared.heap ⟨a,g,d,e,f⟩) l xs:=i;have L2:Heap.IsList (Shared.heap ⟨a.push {cls:=.type "list_iterator",data:=.fields #[.ref l,.int 0 0]},g,d,e,f⟩) m ys:=Heap.IsList.push j _;wp_walk using wpAny_pyIter_list b,wpAny_pyIter_list L2;exact⟨_,rfl,h⟩
theorem rF(b:Bool)(a:Addr):(IG b a).isFreed=false:=by cases b<;>rfl
theorem zu{b:Bool}{h:Heap}{j a:Addr}(e:h.get? j=some (IG b a)):oU b h j a 0:=by
 cases b
 ·exact⟨_,e,rfl,rfl⟩
 ·calc⟨_,e,rfl,rfl⟩
theorem Fo{prog:Program}{w:World}{A:Around}{E:Value->Shared->Prop}{s:Shared}{b c:Bool}{l m:Addr}{xs ys:Array Value}{Q:Value->Shared->Prop}(f:zt b s.heap l xs)(h:zt c s.heap m ys)
  (q:∀g,IsZip g (s.heap.objs.size + 4) (s.heap.objs.size + 2) (s.heap.objs.size + 3) .none->IsPair g (s.heap.objs.size + 2) (.ref s.heap.objs.size) (.ref (s.heap.objs.size + 1))->
   IsPair g (s.heap.objs.size+3) .none .none->oU b g s.heap.objs.size l 0->oU c g (s.heap.objs.size+1) m 0->g.objs.size=s.heap.objs.size+5->
   (∀d o,s.heap.get? d=some o->g.get? d=some o)->Q (.ref (s.heap.objs.size + 4)) {s with heap:=g}):
  wpAny (model prog w) A (call (.type "zip") [.ref l,.ref m]) Q E s:=by
 calc callType_new F.called_zip ∅ (F.typeCall_zip_2 _ _) (F.newCall_zip_2 _ _) (λa=>F.args_object_init_3 a _ _) F.entry_zip_new (CC b c l m xs ys) ⟨f,h,?_⟩;have e:(Wg s.heap b l).objs.size=s.heap.objs.size+1:=Heap.size_push ..;have a:(Wh s.heap b c l m).objs.size=s.heap.objs.size+2:=by rw[Heap.size_push,e]
 have f:(Wi s.heap b c l m).objs.size=s.heap.objs.size+3:=by rw[Heap.size_push,a]
 have g:(Wj s.heap b c l m).objs.size=s.heap.objs.size+4:=by rw[Heap.size_push,f]
 have n:(Od s.heap b c l m).objs.size=s.heap.objs.size+5:=by rw[Heap.size_push,g]
 have h:(Od s.heap b c l m).get? (Wj s.heap b c l m).objs.size=some _:=T' _ rfl;have i:(Od s.heap b c l m).get? (Wi s.heap b c l m).objs.size=some _:=J' _ (T' _ rfl);have j:(Od s.heap b c l m).get? (Wh s.heap b c l m).objs.size=some _:=J' _ (J' _ (T' _ rfl));have k:(Od s.heap b c l m).get? (Wg s.heap b l).objs.size=some (IG c m):=J' _ (J' _ (J' _ (T' _ (rF ..))));have p:(Od s.heap b c l m).get? s.heap.objs.size=some (IG b l):=J' _ (J' _ (J' _ (J' _ (T' _ (rF ..)))));show _/\_;rw[a,f,g]at h;rw[e,a]at j;rw[f]at i;rw[e]at k;rw[g];calc⟨⟨_,h,rfl⟩,q _ h j i (zu p) (zu k) n λd o x=>J' _ (J' _ (J' _ (J' _ (J' _ x))))⟩
theorem rG(l:Addr)(e:Array Value):
  Meets (Builtin.«enumerate.__new__» ⟨[.type "enumerate",.ref l],[]⟩) (λ_ R s=>s.heap.IsTuple l e/\
   R (.ok (.ret (.ref (s.heap.push (IG false l)).objs.size))) {s with heap:=(s.heap.push (IG false l)).push {cls:=.type "enumerate",data:=.fields #[.none,.bool false,.ref s.heap.objs.size,rawInt 0,.none,.none]}}):=
 .of_wp λf w A R s h=>by
  obtain⟨i,g,d,k,m⟩:=s;obtain⟨j,h⟩:=h;have p:=sub_enumerate;have b:Heap.IsTuple (Shared.heap ⟨i,g,d,k,m⟩) l e:=j;obtain⟨n,a,q,r,o⟩:=id j
  replace a:i.get? l=some n:=a
  wp_walk using AutoSeq1.wpAny_loadPart' a;calc wpAny_stack_any λt=>M' ?_;split
  ·rename_i c _ _ _ _ _
   cases(c==Value.type "enumerate")
   ·wp_walk using AutoSeq1.wpAny_loadPart' a,aat b;exact⟨_,rfl,h⟩
   ·wp_walk using AutoSeq1.wpAny_loadPart' a,aat b;exact⟨_,rfl,h⟩
  ·wp_walk using AutoSeq1.wpAny_loadPart' a,aat b;calc⟨_,rfl,h⟩
end PySem
namespace L2
open PySem PySem.Spec PyProof.Rows
section
variable {a:Addr}{xs:List V}
section
variable {X:Cx}{pins:List (Addr×Obj)}{σ:St}{H:Hp}{s:Shared}
theorem Inv.AU{t':Nat}{ch:List Addr}{h':Heap}(I:Inv X pins σ H s)(d:∀b∈ch,oO X pins H b)(k:∀b o,b∉ch->s.heap.get? b=some o->h'.get? b=some o):Inv X pins σ H {s with heap:=h',toks:=t'}:=by
 have f:∀b u,H b=some u->b∉ch:=λb u e z=>by rw[(d b z).1]at e;cases e
 refine I.step (g':=s.gens) (d':=s.drawn) (ch:=ch) (λb g=>?_) (λb o _ _ a e _=>k b o a e) (λb o _ _ a e _=>⟨o.slots,k b o a e⟩) (λ_ _ _ _ n=>n) (λb o a e=>⟨o,k b o a e⟩) (λ_ _ e=>e) (λ_ _ _ e=>e) (λb h e=>⟨#[],by rw[e];simp⟩) (λm h=>?_) (λb u e=>?_) I.bare
 ·obtain⟨n,i,p,j,l,m⟩:=d b g;exact⟨j,i,l,m⟩
 ·obtain⟨o,g,i,j,r⟩:=h;exact⟨o,g,i,k _ o (λz=>(d _ z).2.1 rfl) j,r⟩
 ·calc(I.aW b u e).aH (λc v a q=>k c v ?_ q) (λ_ q=>q) λ_ _ q=>q;rcases a with z | z
  ·rw[z];exact f b u e
  ·calc f c _ z
theorem Inv.AV{t':Nat}{ch:List Addr}{h':Heap}{T:Addr}{g:List Value}(I:Inv X pins σ H s)(h:∀b∈ch,oO X pins H b)(k:∀b o,b∉ch->s.heap.get? b=some o->h'.get? b=some o)
  (i:s.heap.objs.size<=T) (l:Vals xs g) (p:xs.length<=sizeLine) (q:IsTup h' T g.toArray):Inv X pins σ (upd H T (.tup xs)) {s with heap:=h',toks:=t'}:=by
 have j:∀b u,H b=some u->b∉ch:=λb u e z=>by rw[(h b z).1]at e;cases e
 have d:H T=none:=I.aW.fresh i;have m:∀b o,s.heap.get? b=some o->b≠T:=λb o e=>V' (R' (P' e) i);refine I.step (g':=s.gens) (d':=s.drawn) (ch:=ch) (λb f=>?_) (λb o _ _ a e _=>k b o a e) (λb o _ _ a e _=>⟨o.slots,k b o a e⟩) (λb o _ e n=>by rw[av (m b o e)];calc n) (λb o a e=>⟨o,k b o a e⟩)
  (λb t e=>by rw[av (ao e d)];calc e) (λb o u e=>by rw[av (ao e d)];calc e) (λb i e=>⟨#[],by rw[av (ao e d),e];simp⟩) (λm i=>?_) (λb u e=>?_) I.bare
 ·obtain⟨w,m,x,n,r,v⟩:=h b f;exact⟨n,m,r,v⟩
 ·obtain⟨o,m,n,v,r⟩:=i;exact⟨o,m,n,k _ o (λz=>(h _ z).2.1 rfl) v,r⟩
 ·by_cases f:b=T
  ·subst f;rw[ab] at e
   cases e;exact⟨p,g,l,q⟩
  ·rw[av f] at e;refine(I.aW b u e).aH (λc v a q=>k c v ?_ q) (λc q=>by rw[av (ao q d)];calc q) λc t q=>by rw[av (ao q d)];exact q
   rcases a with z|z
   ·rw[z];exact j b u e
   ·calc j c _ z
def Sq(b:Bool)(K:W.Frag)(H:Hp)(a:Addr)(xs:List V):Prop:=if b=true then aO K H a xs else bQ K H a xs
theorem Sq.l{K:W.Frag}(h:H a=some (.lst xs)):Sq true K H a xs:=aO.of h
theorem Sq.t{K:W.Frag}(h:H a=some (.tup xs)):Sq false K H a xs:=bQ.of h
theorem Inv.sq(I:Inv X pins σ H s){b:Bool}{a:Addr}{xs:List V}(h:Sq b X.K H a xs):∃c:List Value,Vals xs c/\zt b s.heap a c.toArray/\xs.length<=sizeLine:=by
 cases b
 ·exact I.tuple h
 ·obtain⟨c,r,p,z⟩:=I.list h;calc⟨c,r,p.isList,z⟩
theorem Inv.zw(I:Inv X pins σ H s){b:Bool}{a:Addr}{xs ys:List V}(h:Sq b X.K H a xs)(h':Sq b X.K H a ys):xs=ys:=by
 cases b
 ·exact I.uo h h'
 ·calc I.wZ h h'
theorem LD{u:HO}{b:Addr}(h:Rd H a u)(c:H b=none):a≠b:=λz=>by
 subst z;rcases h with h|⟨o,h⟩<;>(rw[c]at h;cases h)
theorem Inv.rH(I:Inv X pins σ H s){b:Bool}{a c:Addr}{xs:List V}(h:Sq b X.K H a xs)(f:oO X pins H c):a≠c:=by
 have d:∀o,X.K.lookup a=some o->a≠c:=λo e z=>by
  subst z;have i:=I.ok.mod.Qo a o e;rcases f.2.2.2.1 with y|y
  ·exact I.ok.yW a o i y
  ·exact absurd (R' (R' (P' i) I.ok.D0) y) (aav _)
 cases b
 ·rcases h with h | ⟨o,j,n,g,_⟩
  ·exact LD h f.1
  ·exact d o g
 ·rcases h with h | ⟨o,j,n,g,_⟩
  ·exact LD h f.1
  ·calc d o g
end
end
section
def JY(b:Bool)(K:W.Frag)(a:Addr):It:=
 ⟨λi H=>∃xs x,Sq b K H a xs/\xs[i]?=some x,λi H y c=>∃T,H T=none/\y=.ref T/\∀xs,Sq b K H a xs->∃x,xs[i]?=some x/\c=upd H T (.tup [.int i,x]),λi H=>∃xs,Sq b K H a xs/\xs.length=i⟩
def Ss(b c:Bool)(K:W.Frag)(a d:Addr):It:=
  ⟨λi H=>∃xs ys x y,Sq b K H a xs/\Sq c K H d ys/\xs[i]?=some x/\ys[i]?=some y,λi H v e=>∃T,H T=none/\v=.ref T/\∀xs ys,Sq b K H a xs->Sq c K H d ys->∃x y,xs[i]?=some x/\ys[i]?=some y/\e=upd H T (.tup [x,y]),
   λi H=>∃xs ys,Sq b K H a xs/\Sq c K H d ys/\(i=xs.length\/(i < xs.length/\i=ys.length))⟩
theorem xy{a b:V}:([a,b]:List V).length<=sizeLine:=by show 2<=sizeLine;decide
theorem vQ{a:List Value}{i:Nat}{u:Value}(h:a[i]?=some u):i<a.toArray.size:=by
 have:=(List.getElem?_eq_some_iff.mp h).1;simpa using this
theorem CF{P:Program}{w:World}{K:W.Frag}{k:List Expr}{u:Nat}{v:Pos}(b:Bool)(e j a:Addr)(J:e≠j):
  Turn P w K (.Tuple k u v) (JY b K a) [e,j] e (λi h=>(∃d,IsEnum h e j i d)/\oU b h j a i) where
 mem:=by simp
 obj:=λi h l c t=>by
  obtain⟨⟨d,g⟩,m⟩:=l;simp only[List.mem_cons,List.not_mem_nil,or_false]at t;rcases t with rfl|rfl
  ·exact⟨_,g,λv z=>by
    have z':Data.fields _=Data.cell v:=z
    cases z'⟩
  ·exact m.obj
 keep:=λi h h' l k=>by
  obtain⟨⟨d,g⟩,m⟩:=l;exact⟨⟨d,k e nofun _ g⟩,m.at λo q=>k j nofun o q⟩
 item:=by
  intro X L M N t i B s σ H E I n l O;subst L M N;obtain⟨⟨d,g⟩,m⟩:=l;obtain⟨xs,x,r,R⟩:=O;obtain⟨C,S,p,hz⟩:=I.sq r;obtain⟨u,k,ru⟩:=S.get R;have v:a≠e:=I.rH r (n e nofun);have T:a≠j:=I.rH r (n j nofun);have D:=Draws.sq (prog:=X.prog) (w:=X.w) (A:=X.A.in1) (show X.A.in1.handled=none from I.ok.hd t) b j a T C.toArray;calc wpAny_pyNext_enum_itemD D g ⟨m,p⟩ (vQ k) J (by simp[J,Ne.symm v]) λy P Z K ho s1 hT sz U=>?_;have ey:y=u:=by
   have:C.toArray[i]?=some u:=by simpa using k
   exact Option.some.inj (K.symm.trans this)
  subst ey;calc⟨_,rfl,wpAny_letOwnedTupleGo_enum ho λv k u=>?_⟩;have K:∀c o,c ∉ [e,j]->s.heap.get? c=some o->v.get? c=some o:=λc o F q=>(u.2 c λz=>F (by simp[z])).trans (U c o (λz=>F (by simp[z])) (λz=>F (by simp[z])) q);have G:s.heap.objs.size≠e:=Nat.ne_of_gt (P' g);have e:IsTup v s.heap.objs.size ([.int i Z,y]:List Value).toArray:=⟨_,(u.2 _ G).trans hT,rfl,_,rfl⟩
  have v:H s.heap.objs.size=none:=I.aW.fresh (K' _);refine⟨.ref s.heap.objs.size,upd H s.heap.objs.size (.tup [.int i,x]),I.AV n K (K' _) (.cons ⟨Z,rfl⟩ (.cons ru .nil)) xy e,rfl,⟨_,v,rfl,λys P=>⟨x,by rw[I.zw P r];calc R,rfl⟩⟩,⟨⟨y,?_⟩,?_⟩,λc Y=>?_⟩
  ·simpa using k
  ·exact s1.1.at λo q=>(u.2 j (Ne.symm J)).trans q
  ·have tO:c≠s.heap.objs.size:=by
    simp only[List.mem_cons,List.not_mem_nil,or_false]at Y;rcases Y with rfl|rfl
    ·exact Ne.symm G
    ·obtain⟨o,e,_⟩:=m.obj;exact V' (P' e)
   rw[av tO];exact(n c Y).1
 done:=by
  intro X L M N t i B s σ H E I n l O;subst L M N;obtain⟨⟨d,g⟩,m⟩:=l;obtain⟨xs,r,R⟩:=O;obtain⟨C,S,p,hz⟩:=I.sq r;have T:a≠j:=I.rH r (n j nofun);have D:=Draws.sq (prog:=X.prog) (w:=X.w) (A:=X.A.in1) (show X.A.in1.handled=none from I.ok.hd t) b j a T C.toArray;have e:C.toArray.size=i:=by have:=S.length;simp;lia
  refine wpAny_pyNext_enum_endD D g (by rw[e];calc⟨m,p⟩) λh' U=>⟨rfl,I.AU (t':=s.toks) n λc o F q=>U c o (λz=>F (by simp[z])) q⟩
 self:=λ_ _ _ _ _ l h=>by
  obtain⟨⟨d,g⟩,m⟩:=l;calc wpAny_pyIter_enum g h
theorem CG{prog:Program}{w:World}{A:Around}{E:Value->Shared->Prop}{s:Shared}{b:Bool}{l:Addr}{d:Array Value}{Q:Value->Shared->Prop}(e:zt b s.heap l d)
  (q:∀g,IsEnum g (s.heap.objs.size+1) s.heap.objs.size 0 .none->oU b g s.heap.objs.size l 0->g.objs.size=s.heap.objs.size+2->(∀c o,s.heap.get? c=some o->g.get? c=some o)->Q (.ref (s.heap.objs.size+1)) {s with heap:=g}):
  wpAny (model prog w) A (call (.type "enumerate") [.ref l]) Q E s:=by
 cases b
 ·refine callType_new F.called_enumerate ∅ (F.typeCall_enumerate_1 _) (F.newCall_enumerate_1 _) (λa=>F.args_object_init_2 a _) F.entry_enumerate_new (rG l d) ⟨e,?_⟩;have b:(s.heap.push (IG false l)).objs.size=s.heap.objs.size+1:=Heap.size_push ..;show _/\_;rw[b];have a:=T' (s.heap.push (IG false l)) (o:={cls:=.type "enumerate",data:=.fields #[.none,.bool false,.ref s.heap.objs.size,rawInt 0,.none,.none]}) rfl;rw[b]at a;refine⟨⟨_,a,rfl⟩,q _ a (zu (J' _ (T' _ (rF ..)))) (by rw[Heap.size_push,b]) λc o x=>J' _ (J' _ x)⟩
 ·calc call_enumerate_list e q
theorem m5{z a b c d:Addr}:z ∈ [z,a,b,c,d]/\a ∈ [z,a,b,c,d]/\b ∈ [z,a,b,c,d]/\c ∈ [z,a,b,c,d]/\d ∈ [z,a,b,c,d]:=⟨.head _,.tail _ (.head _),.tail _ (.tail _ (.head _)),.tail _ (.tail _ (.tail _ (.head _))),.tail _ (.tail _ (.tail _ (.tail _ (.head _))))⟩
theorem in5{z a b c d e:Addr}{P:Addr->Prop}(f:e ∈ [z,a,b,c,d])(g:P z)(h:P a)(i:P b)(j:P c)(k:P d):P e:=by
 simp only[List.mem_cons,List.not_mem_nil,or_false]at f;rcases f with rfl|rfl|rfl|rfl|rfl<;>assumption
theorem no5{z a b c d e:Addr}(f:e ∉ [z,a,b,c,d]):e≠z/\e≠a/\e≠b/\e≠c/\e≠d:=by
 simpa only[List.mem_cons,List.not_mem_nil,or_false,not_or] using f
theorem nd5{z a b c d:Addr}(N:[z,a,b,c,d].Nodup):(z≠a/\z≠b/\z≠c/\z≠d)/\(a≠b/\a≠c/\a≠d)/\(b≠c/\b≠d)/\c≠d:=by
 simpa only[List.nodup_cons,List.mem_cons,List.not_mem_nil,or_false,not_or,List.nodup_nil,not_false_eq_true,and_true] using N
theorem DH{x i a:Addr}(b:x≠i)(c:x≠a):x ∉ [i,a]:=by simp[b,c]
theorem Fp{l:List Value}{i:Nat}{u x:Value}(h:l[i]?=some u)(g:l.toArray[i]?=some x):x=u:=by
 have:l.toArray[i]?=some u:=by simpa using h
 calc Option.some.inj (g.symm.trans this)
theorem Fq{P:Program}{w:World}{K:W.Frag}{es:List Expr}{kt:Nat}{tp:Pos}(b c:Bool)(z r m g j a d:Addr)(N:[z,r,m,g,j].Nodup):
  Turn P w K (.Tuple es kt tp) (Ss b c K a d) [z,r,m,g,j] z (λi h=>IsZip h z r m .none/\IsPair h r (.ref g) (.ref j)/\(∃u v,IsPair h m u v)/\oU b h g a i/\oU c h j d i) where
 mem:=m5.1
 obj:=λi h t e l=>by
  obtain⟨G,B,⟨u,v,J⟩,L,M⟩:=t;refine in5 (P:=λe=>∃o,h.get? e=some o/\∀v,o.data≠.cell v) l ⟨_,G,λv z=>?_⟩ ⟨_,B,λv z=>?_⟩ ⟨_,J,λv z=>?_⟩ L.obj M.obj
  ·have k:Data.fields _=Data.cell v:=z
   cases k
  ·have k:Data.seq _ _=Data.cell v:=z
   cases k
  ·have k:Data.seq _ _=Data.cell v:=z
   cases k
 keep:=λi h h' t k=>by
  obtain⟨G,B,⟨u,v,J⟩,L,M⟩:=t;exact⟨k z m5.1 _ G,k r m5.2.1 _ B,⟨u,v,k m m5.2.2.1 _ J⟩,L.at λo q=>k g m5.2.2.2.1 o q,M.at λo q=>k j m5.2.2.2.2 o q⟩
 item:=by
  intro X hP hw hK hc i Y s σ H E I O t hg;subst hP hw hK;obtain⟨G,B,⟨u0,v0,J⟩,L,M⟩:=t;obtain⟨xs,ys,x,y,S,hr,hx,hy⟩:=hg;obtain⟨aR,rv,p,hz⟩:=I.sq S;obtain⟨Wk,rt,pt,hzt⟩:=I.sq hr;obtain⟨u,k,ru⟩:=rv.get hx;obtain⟨v,n,rv'⟩:=rt.get hy;have C:∀e ∈ [z,r,m,g,j],e≠a:=λe l=>Ne.symm (I.rH S (O e l));have F:∀e ∈ [z,r,m,g,j],e≠d:=λe l=>Ne.symm (I.rH hr (O e l));obtain⟨⟨n1,n2,T,U⟩,⟨n5,n6,n7⟩,⟨n8,n9⟩,R⟩:=nd5 N;have hh:X.A.in1.handled=none:=I.ok.hd hc;have D1:=Draws.sq (prog:=X.prog) (w:=X.w) (A:=X.A.in1) hh b g a (Ne.symm (C g m5.2.2.2.1)) aR.toArray;have D2:=Draws.sq (prog:=X.prog) (w:=X.w) (A:=X.A.in1) hh c j d (Ne.symm (F j m5.2.2.2.2)) Wk.toArray;have Z:ZA z r m g j [g,a] [j,d]:=⟨Ne.symm n1,Ne.symm n2,Ne.symm T,Ne.symm U,n5,n6,n7,n8,n9,R,DH T (C z m5.1),DH n8 (C m m5.2.2.1),DH (Ne.symm R) (C j m5.2.2.2.2),DH U (F z m5.1),DH n9 (F m m5.2.2.1),DH R (F g m5.2.2.2.1)⟩
  calc tP Z D1 D2 G B J ⟨L,p⟩ ⟨M,pt⟩ (vQ k) (vQ n) λx' y' h1 tk K py Fl X8 s1 s2 hT sz kk=>?_;have ex:x'=u:=Fp k K;have ey:y'=v:=Fp n py;subst ex ey;calc⟨_,rfl,wpAny_letOwnedTupleGo_zip Fl λu v k=>?_⟩;have K:∀e o,e ∉ [z,r,m,g,j]->s.heap.get? e=some o->u.get? e=some o:=λe o l q=>
   have n:=no5 l;(k.2 e n.1).trans (kk e o n.1 n.2.2.1 n.2.2.2.1 n.2.2.2.2 q)
  have n:s.heap.objs.size≠z:=Nat.ne_of_gt (P' G);have LF:IsTup u s.heap.objs.size ([x',y']:List Value).toArray:=⟨_,(k.2 _ n).trans hT,rfl,_,rfl⟩
  have u:H s.heap.objs.size=none:=I.aW.fresh (K' _);refine⟨.ref s.heap.objs.size,upd H s.heap.objs.size (.tup [x,y]),I.AV O K (K' _) (.cons ru (.cons rv' .nil)) xy LF,rfl,
   ⟨_,u,rfl,λK LG Og R7=>⟨x,y,by rw[I.zw Og S];calc hx,by rw[I.zw R7 hr];calc hy,rfl⟩⟩,⟨v,?_,⟨_,_,(k.2 m (Ne.symm n2)).trans X8⟩,s1.1.at λo q=>(k.2 g (Ne.symm T)).trans q,s2.1.at λo q=>(k.2 j (Ne.symm U)).trans q⟩,λe l=>?_⟩
  ·exact(k.2 r (Ne.symm n1)).trans (kk r _ (Ne.symm n1) n5 n6 n7 B)
  ·have u:e≠s.heap.objs.size:=in5 (P:=λe=>e≠s.heap.objs.size) l (Ne.symm n) (V' (P' B)) (V' (P' J)) (let ⟨_,k,_⟩:=L.obj;V' (P' k)) (let ⟨_,k,_⟩:=M.obj;V' (P' k));rw[av u];exact(O e l).1
 done:=by
  intro X hP hw hK hc i Y s σ H E I O t hg;subst hP hw hK;obtain⟨G,B,⟨u0,v0,J⟩,L,M⟩:=t;obtain⟨xs,ys,S,hr,hx⟩:=hg;obtain⟨aR,rv,p,hz⟩:=I.sq S;obtain⟨Wk,rt,pt,hzt⟩:=I.sq hr;have C:∀e ∈ [z,r,m,g,j],e≠a:=λe l=>Ne.symm (I.rH S (O e l));have F:∀e ∈ [z,r,m,g,j],e≠d:=λe l=>Ne.symm (I.rH hr (O e l));obtain⟨⟨n1,n2,T,U⟩,⟨n5,n6,n7⟩,⟨n8,n9⟩,R⟩:=nd5 N;have hh:X.A.in1.handled=none:=I.ok.hd hc;have D1:=Draws.sq (prog:=X.prog) (w:=X.w) (A:=X.A.in1) hh b g a (Ne.symm (C g m5.2.2.2.1)) aR.toArray;have D2:=Draws.sq (prog:=X.prog) (w:=X.w) (A:=X.A.in1) hh c j d (Ne.symm (F j m5.2.2.2.2)) Wk.toArray;have Z:ZA z r m g j [g,a] [j,d]:=⟨Ne.symm n1,Ne.symm n2,Ne.symm T,Ne.symm U,n5,n6,n7,n8,n9,R,DH T (C z m5.1),DH n8 (C m m5.2.2.1),DH (Ne.symm R) (C j m5.2.2.2.2),DH U (F z m5.1),DH n9 (F m m5.2.2.1),DH R (F g m5.2.2.2.1)⟩
  have a:=rv.length;have a:=rt.length;exact vP Z D1 D2 G B J ⟨L,p⟩ ⟨M,pt⟩ (by simp only[List.size_toArray];lia) λh' tk kk=>⟨rfl,I.AU O λe o l q=>kk e o (λw=>l (by simp[w])) (λw=>l (by simp[w])) (λw=>l (by simp[w])) (λw=>l (by simp[w])) q⟩
 self:=λ_ _ _ _ _ t h=>wpAny_pyIter_zip t.1 h
section
variable {X:Cx}
def Fs(K:W.Frag)(a:TA):TI:=λσ H R=>a σ H λvs c=>match vs with
 | [.ref a]=>∃b xs,Sq b K c a xs/\R (JY b K a) c
 |_=>False
def Oh(K:W.Frag)(a:TA):TI:=λσ H R=>a σ H λvs e=>match vs with
 | [.ref a,.ref d]=>∃b c xs ys,Sq b K e a xs/\Sq c K e d ys/\R (Ss b c K a d) e
 |_=>False
theorem eX{l:List Expr}{m:Nat}{n:Pos}{a:Expr}{h:TA}{p d:Pos}(o:Gl X "enumerate")(t:X.mg "enumerate"=none)(u:PA X [a] h)(v:starEach [a] X.env=[(false,eval a X.env)]:=by rfl):
  PI X (.Tuple l m n) (.Call (.Name "enumerate" p) [a] [] d) (Fs X.K h):=by
 calc⟨?_⟩;intro c s σ H R I h;calc Call_ (oN I o t boot_enumerate (PyProof.Rows.callWith_type1 (dy (u d c s σ H _ I h) λm e l=>?_) (by rw[v];rfl) rfl));obtain⟨h,i,f,g,d⟩:=l
 match h,g,d with
 | [.ref a],g,d=>
  obtain⟨b,h,w,q⟩:=d
  cases g with
  |cons r x=>
   cases x
   cases r;obtain⟨d,g,p,h⟩:=f.sq w;calc CG p λg d h m l=>wpAny_pyIter_enum d ?_;have m:Inv X c σ i {e with heap:=g}:=f.kept (t':=e.toks) l;calc⟨_,[e.heap.objs.size+1,e.heap.objs.size],_,_,i,rfl,m,CF b _ _ a (Nat.succ_ne_self _),⟨⟨_,d⟩,h⟩,λc j=>?_,q⟩;have k:e.heap.objs.size<=c:=by
    simp only[List.mem_cons,List.not_mem_nil,or_false]at j;rcases j with rfl|rfl
    ·exact Nat.le_succ _
    ·exact K' _
   calc f.Ek k (f.aW.fresh k)
theorem zx{s:List Expr}{t:Nat}{u:Pos}{a b:Expr}{h:TA}{p g:Pos}(v:Gl X "zip")(w:X.mg "zip"=none)(x:PA X [a,b] h)(y:starEach [a,b] X.env=[(false,eval a X.env),(false,eval b X.env)]:=by rfl)(l:starEach [b] X.env=[(false,eval b X.env)]:=by rfl):
  PI X (.Tuple s t u) (.Call (.Name "zip" p) [a,b] [] g) (Oh X.K h):=by
 calc⟨?_⟩;intro e s σ H R I h;calc Call_ (oN I v w boot_zip (PyProof.Rows.callWith_type1 (dy (x g e s σ H _ I h) λt f p=>?_) (by rw[y,l]) (by rw[l];rfl)));obtain⟨h,m,i,j,g⟩:=p
 match h,j,g with
 | [.ref a,.ref d],j,g=>
  obtain⟨b,c,h,l,z,A,q⟩:=g
  cases j with
  |cons r k=>
   cases k with
   |cons B k=>
    cases k
    cases r
    cases B;obtain⟨g,h,j,k⟩:=i.sq z;obtain⟨h,l,k,g⟩:=i.sq A;calc Fo j k λg h l p r s u t=>wpAny_pyIter_zip h ?_;have j:Inv X e σ m {f with heap:=g}:=i.kept (t':=f.toks) t;refine⟨_,[f.heap.objs.size+4,f.heap.objs.size+2,f.heap.objs.size+3,f.heap.objs.size,f.heap.objs.size+1],_,_,m,rfl,j,Fq b c _ _ _ _ _ a d ?_,⟨h,l,⟨_,_,p⟩,r,s⟩,λe n=>?_,q⟩
    ·simp
    ·have o:f.heap.objs.size<=e:=by
      simp only[List.mem_cons,List.not_mem_nil,or_false]at n;rcases n with rfl|rfl|rfl|rfl|rfl
      ·exact Nat.le_add_right _ _
      ·exact Nat.le_add_right _ _
      ·exact Nat.le_add_right _ _
      ·exact K' _
      ·exact Nat.le_add_right _ _
     calc i.Ek o (i.aW.fresh o)
end
end
end L2
namespace HT
open PySem PyProof.Rows
section
variable {prog:Program}{w:World}{A:Around}{E:Value->Shared->Prop}{s:Shared}
theorem nV{t e:Addr}{a:Array Value}{f g:Value}{b d:Option Int}{Q:Value->Shared->Prop}(c:IsTup s.heap t a)(i:s.heap.IsSliceOf e f g .none)(pl:IsPart f b)(j:IsPart g d)
  (f:ei a.size 0 b=0/\ei a.size a.size d=a.size) (h:Q (.ref t) s):wpAny (model prog w) A (getItem (.ref t) (.ref e)) Q E s:=by
 obtain⟨g,k,l,n⟩:=id i;have n:s.TypeIs (.ref e) "slice":=⟨g,k,l⟩
 unfold getItem
 try with_reducible refine wpAny_holding ?_
 first|calc A' (M' ?_)|skip
 refine A' (wpAny_sequenceKey c.typeIs ∅ (A' (aax (name:=Str.ofString "__getitem__") c.typeIs aaC
  (wpAny_call_entry aaC c.typeIs entry_tuple_getitem ?_ (args_tuple_getitem _ _)))))
 calc A' (m:=Builtin.Tuple.tupleItemsOf (.ref t)) (tupleItemsOf_ c (A' (wpAny_typeOf n ?_)));rw[if_pos ∅];calc A' (jB i pl j ?_);have e:(((ei a.size 0 b:Nat):Int)==0&&(1:Int)==1&&(ei a.size a.size d-ei a.size 0 b)==a.size)=true:=by
  rw[f.1,f.2];simp
 show wpAny _ _ (if (((ei a.size 0 b:Nat):Int)==0&&(1:Int)==1&&(ei a.size a.size d-ei a.size 0 b)==a.size)=true then _ else _) _ _ s;rw[if_pos e];calc A' (m:=Builtin.Tuple.tupleIsExact (.ref t)) ?_;unfold Builtin.Tuple.tupleIsExact;calc A' (wpAny_typeOf c.typeIs (M' ?_));rw[if_pos ∅];calc A' (wpAny_rule (M' ⟨_,rfl,M' h⟩))
end
end HT
namespace L2
open PySem PySem.Spec PyProof.Rows
section
variable {H:Hp}{Q:VK}{K:W.Frag}
section
variable {X:Cx}
def Ya:V->Option Int->Option Int->Hp->VK->Prop:=λx c d H Q=>match x with
 | .ref a=>(∃xs,H a=some (.lst xs)/\∀p,H p=none->Q (.ref p) (upd H p (.lst (eD xs c d))))\/(∃xs,H a=some (.tup xs)/\∀p b,au H b->b p=some (.tup (eD xs c d))->Q (.ref p) b)
 |_=>False
theorem LH{a:Addr}{b c:Option Int}:Ya (.ref a) b c H Q=((∃xs,H a=some (.lst xs)/\∀p,H p=none->Q (.ref p) (upd H p (.lst (eD xs b c))))\/(∃xs,H a=some (.tup xs)/\∀p d,au H d->d p=some (.tup (eD xs b c))->Q (.ref p) d)):=rfl
theorem Yb:JC X Ya:=by
 intro c s σ H x v t u i j w Q I l m n o h
 cases x<;>first
  |calc(show False from h).elim
  |skip
 rename_i a;rcases h with⟨b,d,q⟩|⟨b,d,q⟩
 ·exact AK c s σ H _ v t u i j w Q I l m n o ⟨a,b,rfl,aO.of d,q⟩
 ·by_cases k:HT.ei b.length 0 i=0/\HT.ei b.length b.length j=b.length
  ·cases l;obtain⟨z,r,y,C⟩:=I.tuple (bQ.of d);have g:z.toArray.size=b.length:=by rw[List.size_toArray];exact r.length.symm
   refine⟨"tuple",_,PyProof.Rows.slot_tuple_getitem.lookup,y.typeIs,HT.nV y m n o (by rw[g];exact k) ⟨.ref a,H,I,rfl,q a H (au.refl H) ?_⟩⟩;have e:eD b i j=b:=by
    unfold eD;rw[k.1,k.2];simp
   rw[e];exact d
  ·calc NC c s σ H _ v t u i j w Q I l m n o ⟨a,b,rfl,bQ.of d,k,λp B=>q p _ (au.new _ B) ab⟩
theorem rJ{e:Expr}{b:TE}{c d:Option Expr}{f g:TO}{a h:Pos}(i:PE X e b)(j:PO X c f)(k:PO X d g):PE X (.Subscript e (.Slice c d none h) a) (RZ Ya b f g):=xc Yb i j k
def Wl:R2:=λx y H Q=>match x,y with
 | .int i,.int j=>Q (.int (i+j)) H
 | .str i,.str j=>i.length+j.length<=sizeLine/\Q (.str (i++j)) H
 | .ref a,.ref b=>(∃xs c,H a=some (.lst xs)/\H b=some (.lst c)/\xs.length + c.length<=sizeLine/\∀p,H p=none->Q (.ref p) (upd H p (.lst (xs++c))))\/
   (∃xs c,H a=some (.tup xs)/\H b=some (.tup c)/\xs.length+c.length<=sizeLine/\∀p d,au H d->d p=some (.tup (xs++c))->Q (.ref p) d)
 |_,_=>False
theorem Ft{i j:Int}:Wl (.int i) (.int j) H Q=Q (.int (i+j)) H:=rfl
theorem Fu{i j:Str}:Wl (.str i) (.str j) H Q=(i.length+j.length<=sizeLine/\Q (.str (i++j)) H):=rfl
theorem Fv {a b:Addr}:Wl (.ref a) (.ref b) H Q=((∃xs c,H a=some (.lst xs)/\H b=some (.lst c)/\xs.length + c.length<=sizeLine/\∀p,H p=none->Q (.ref p) (upd H p (.lst (xs++c))))\/
      (∃xs c,H a=some (.tup xs)/\H b=some (.tup c)/\xs.length + c.length<=sizeLine/\∀p d,au H d->d p=some (.tup (xs++c))->Q (.ref p) d)):=rfl
theorem cT:fV X (binaryOp .Add) Wl:=by
 intro c s σ H x y v u Q I d e h
 cases x<;>cases y<;>first
  |calc(show False from h).elim
  |calc Nl c s σ H _ _ v u Q I d e ⟨_,_,rfl,rfl,h⟩
  |calc y8 c s σ H _ _ v u Q I d e ⟨_,_,rfl,rfl,h.1,h.2⟩
  |skip
 rename_i a b;rcases h with⟨k,l,f,g,m,i⟩|⟨k,l,f,g,m,i⟩
 ·exact NL c s σ H _ _ v u Q I d e ⟨_,_,k,l,rfl,rfl,f,g,m,i⟩
 ·by_cases q:k=[]
  ·subst q
   cases d
   cases e;obtain⟨R,D,E,_⟩:=I.tuple (bQ.of f);obtain⟨S,T,G,_⟩:=I.tuple (bQ.of g)
   cases D;obtain⟨⟨J,K,r,L⟩,t,w,n,A⟩:=id E;obtain⟨⟨U,M,o,N⟩,B,C,O,j⟩:=id G;simp only at w A C j;subst w A C j;exact concat_meets ⟨_,t,rfl⟩ ⟨_,B,rfl⟩ noFill_tuple_add seq_tuple_add PySem.F.slot_tuple_add PySem.F.entry_tuple_add (PySem.F.args_tuple_add_2 _ _)
    (tuple_addW0 a b _ _ n O K M L N nofun) ⟨t,B,⟨.ref b,H,I,rfl,i b H (au.refl H) (by simpa using g)⟩⟩
  ·calc JD c s σ H _ _ v u Q I d e ⟨_,_,k,l,rfl,rfl,bQ.of f,bQ.of g,q,m,λz=>?_,λ_ p P=>i p _ (au.new _ P) ab⟩;subst z;calc i a H (au.refl H) (by simpa using f)
def Sw(K:W.Frag):List V->Hp->VK->Prop:=λxs H Q=>match xs with
 | [.ref p]=>∃bs:List Bool,aO K H p (bs.map V.bl)/\Q (.bl (bs.all id)) H
 |_=>False
theorem Fw{p:Addr}:Sw K [.ref p] H Q=∃bs:List Bool,aO K H p (bs.map V.bl)/\Q (.bl (bs.all id)) H:=rfl
theorem AW:∀{bs:List Bool}{us:List Value},Vals (bs.map V.bl) us->us=bs.map Value.bool
 | [],_,.nil=>rfl
 |b::bs,_,.cons r t=>by
  cases r;rw[AW t];rfl
theorem all_range:∀(bs:List Bool),((List.range bs.length).all λi=>bs.getD i false)=bs.all id:=by
 intro bs;induction bs with
 |nil=>rfl
 |cons b r a=>
  rw[List.length_cons,List.range_succ_eq_map,List.all_cons,List.all_map,List.all_cons];have:((λi=>(b::r).getD i false) ∘ Nat.succ)=λi=>r.getD i false:=by funext i;simp
  rw[this,a];rfl
theorem Fx{prog:Program}{w:World}{A:Around}{bs:List Bool}:TruthOf prog w A (λi v=>(bs.map Value.bool).toArray[i]?=some v) (λi=>bs.getD i false):=by
 intro i v s Q E e c;have a:(bs.map Value.bool)[i]?=some v:=by simpa using e
 rw[List.getElem?_map]at a
 cases d:bs[i]? with
 |none=>rw[d]at a;cases a
 |some b=>
  rw[d]at a
  cases a;have:bs.getD i false=b:=by rw[List.getD_eq_getElem?_getD,d];rfl
  replace c:Q (bs.getD i false) s:=c
  rw[this]at c;calc aaE c
theorem gT(d:X.calm=true):ee X (.builtin "all") (Sw X.K):=by
 intro c s σ H f k Q I r h
 match f,r,h with
 | [.ref p],r,h=>
  obtain⟨a,g,q⟩:=h;obtain⟨u,rfl,i⟩:=Vals.one r
  cases i;obtain⟨c,j,b,f⟩:=I.list g;have e:=AW j;subst e;refine call_all_walk (wpAny_pyIter_list b.isList ⟨s.heap.objs.size,_,_,_,_,_,λi=>a.getD i false,rfl,Walks.list (show X.A.in1.handled=none from I.ok.hd d) _ p ?_ (a.map Value.bool).toArray,⟨⟨_,T' _ rfl,rfl,rfl⟩,b.isList.push _⟩,Fx,λf g c=>?_⟩)
  ·obtain⟨o,e,_⟩:=b.isList;exact V' (P' e)
  ·have:(a.map Value.bool).toArray.size=a.length:=by simp
   rw[this,all_range];calc⟨.bl _,H,I.kept λb o e=>c b o (by simp[Nat.ne_of_lt (Heap.lt_size e)]) (J' _ e),rfl,q⟩
def xA:List V->Option (List Value)
 | []=>some []
 | .ty n::r=>(xA r).map (.type n::·)
 |_=>none
theorem xB:∀{xs:List V}{us ts:List Value},Vals xs us->xA xs=some ts->us=ts
  | [],_,_,.nil,h=>by cases h;rfl
  |x::xs,_,ts,.cons r t,h=>by
    cases x<;>first
      |cases h
      | (rename_i n
         unfold xA at h;obtain⟨a,b,c⟩:=Option.map_eq_some_iff.mp h
         cases r;rw[<-c,xB t b])
def JZ(K:W.Frag):List V->Hp->VK->Prop:=λxs H Q=>match xs with
 | [x,.ty n]=>∃t b,gA K H x t/\W.kitOne K t (.type n)=some b/\Q (.bl b) H
 | [x,.ref p]=>∃t b a ts,gA K H x t/\H p=some (.tup a)/\xA a=some ts/\W.kitAny K t ts=some b/\Q (.bl b) H
 |_=>False
theorem Fz{x:V}{n:String}:JZ K [x,.ty n] H Q=∃t b,gA K H x t/\W.kitOne K t (.type n)=some b/\Q (.bl b) H:=rfl
theorem FA{x:V}{p:Addr}:JZ K [x,.ref p] H Q=∃t b a ts,gA K H x t/\H p=some (.tup a)/\xA a=some ts/\W.kitAny K t ts=some b/\Q (.bl b) H:=rfl
theorem zy{x:V}{u t:Value}{pins:List (Addr×Obj)}{σ:St}{H:Hp}{s:Shared}{A:Around}{E:Value->Shared->Prop}{Q:Value->Shared->Prop}{b:Bool}{m:Addr}{ts:List Value}(I:Inv X pins σ H s)(c:RelV x u)(B:gA X.K H x t)
  (C:IsTup s.heap m ts.toArray) (e:W.kitAny X.K t ts=some b) (h:∀x,Q (.bool b) {s with toks:=x}):wpAny (model X.prog X.w) A (call (.builtin "isinstance") [u,.ref m]) Q E s:=by
 obtain⟨⟨m,x,b,A⟩,d,r,n,hd⟩:=id C;simp only at r hd;subst r hd
 cases B with
 |bP=>cases(show u=Value.none from c);calc W.kia_tup W.kitx_none I.j9 aal d e (λz=>nomatch z) h
 |bl y=>cases(show u=Value.bool y from c);calc W.kia_tup W.kitx_bool I.j9 aal d e (λz=>nomatch z) h
 |int i=>obtain⟨t,q⟩:=(show ∃t,u=Value.int i t from c);cases q;calc W.kia_tup W.kitx_int I.j9 aal d e (λz=>nomatch z) h
 |str y=>obtain⟨t,q⟩:=(show ∃t,u=Value.str y t from c);cases q;calc W.kia_tup W.kitx_str I.j9 aal d e (λz=>nomatch z) h
 |Lf y=>obtain⟨t,q⟩:=(show ∃t,u=Value.float y t from c);cases q;calc W.kia_tup W.kitx_float I.j9 aal d e (λz=>nomatch z) h
 | @lst a j f=>
  cases(show u=Value.ref a from c);obtain⟨_,_,n,_,g⟩:=(show cW X.prog X.w H s.heap a (.lst j) from I.aW a _ f)
  calc W.kia_tup W.kitx_list I.j9 ⟨_,g,rfl⟩ d e (λz=>nomatch z) h
 | @yM a D j f=>
  cases(show u=Value.ref a from c);obtain⟨_,_,_,n,_,g⟩:=(show cW X.prog X.w H s.heap a (.yM D (.lst j)) from I.aW a _ f)
  calc W.kia_tup W.kitx_list I.j9 ⟨_,g,rfl⟩ d e (λz=>nomatch z) h
 | @tup a j f=>
  cases(show u=Value.ref a from c);obtain⟨_,_,_,p⟩:=(show cW X.prog X.w H s.heap a (.tup j) from I.aW a _ f)
  obtain⟨o,g,k,_⟩:=p;calc W.kia_tup W.kitx_tuple I.j9 ⟨o,g,k⟩ d e (λz=>nomatch z) h
 | @dK a l f=>
  cases(show u=Value.ref a from c);obtain⟨_,_,b,_,p⟩:=(show cW X.prog X.w H s.heap a (.dK l) from I.aW a _ f)
  obtain⟨o,F,G,g,k,_⟩:=p;calc W.kia_tup W.kitx_dict I.j9 ⟨o,g,k.1⟩ d e (λz=>nomatch z) h
 | @dT a l f=>
  cases(show u=Value.ref a from c);obtain⟨_,_,j,_,o,F,G,g,k,_⟩:=(show cW X.prog X.w H s.heap a (.dT l) from I.aW a _ f)
  calc W.kia_tup W.kitx_dict I.j9 ⟨o,g,k.1⟩ d e (λz=>nomatch z) h
 | @ins a C b g f v L M N P=>
  cases(show u=Value.ref a from c);obtain⟨b,O,_⟩:=nM I.aW f;obtain⟨a,J,_⟩:=O.look;calc W.kia_tup (W.kitx_own (v.get _) v.hd L M N P) I.j9 J d e (λz=>nomatch z) h
theorem cC:ee X (.builtin "isinstance") (JZ X.K):=by
 intro d s σ H f n Q I r h
 match f,r,h with
 | [x,.ty n],r,h=>
  obtain⟨t,b,ty,e,q⟩:=h;obtain⟨u,g,rfl,a,c⟩:=vals2 r
  cases c;calc ur I a ty e λi=>⟨.bl b,H,I.tok _,rfl,q⟩
 | [x,.ref p],r,h=>
  obtain⟨t,b,d,f,ty,j,k,e,q⟩:=h;obtain⟨u,g,rfl,a,c⟩:=vals2 r
  cases c;obtain⟨d,l,m,f⟩:=I.tuple (bQ.of j);have o:=xB l k;subst o;calc zy I a ty m e λi=>⟨.bl b,H,I.tok _,rfl,q⟩
end
end
section
variable {a:Addr}{H:Hp}{D:List (Str×V)}
section
variable {X:Cx}
def Sx:V->List V->Hp->VK->Prop:=λx vs H Q=>match x,vs with
 | .ref l,[y]=>∃xs,H l=some (.lst xs)/\xs.length<sizeLine/\Q .bP (upd H l (.lst (xs++[y])))
 |_,_=>False
theorem FC{l:Addr}{y:V}{Q:VK}:Sx (.ref l) [y] H Q=∃xs,H l=some (.lst xs)/\xs.length<sizeLine/\Q .bP (upd H l (.lst (xs++[y]))):=rfl
theorem bU:IC X "list.append" Sx:=by
 intro a s σ H x c v d Q I e b h
 match x,c,b,h with
 | .ref l,[y],b,⟨c,f,g,h⟩=>calc uA a s σ H _ _ v d Q I e b ⟨l,c,y,rfl,rfl,f,g,h⟩
def Sy:V->List V->Hp->VK->Prop:=λx vs H Q=>match x,vs with
 | .ref l,[.ref b]=>∃xs a,H l=some (.lst xs)/\H b=some (.lst a)/\xs.length+a.length<=sizeLine/\Q .bP (upd H l (.lst (xs++a)))
 |_,_=>False
theorem FE{l b:Addr}{Q:VK}:Sy (.ref l) [.ref b] H Q=∃xs a,H l=some (.lst xs)/\H b=some (.lst a)/\xs.length+a.length<=sizeLine/\Q .bP (upd H l (.lst (xs++a))):=rfl
theorem J0:IC X "list.extend" Sy:=by
 intro a s σ H x b v d Q I e c h
 match x,b,c,h with
 | .ref l,[.ref b],c,⟨f,g,h,i,j,k⟩=>calc Cr a s σ H _ _ v d Q I e c ⟨l,b,f,g,rfl,rfl,h,i,j,k⟩
def Sz:V->List V->Hp->VK->Prop:=λx vs H Q=>match x,vs with
 | .ref l,[]=>∃xs,H l=some (.lst xs)/\Q .bP (upd H l (.lst []))
 |_,_=>False
theorem FG{l:Addr}{Q:VK}:Sz (.ref l) [] H Q=∃xs,H l=some (.lst xs)/\Q .bP (upd H l (.lst [])):=rfl
theorem J1:IC X "list.clear" Sz:=by
 intro a s σ H x c v d Q I e b h
 match x,c,b,h with
 | .ref l,[],b,⟨c,f,g⟩=>calc EK a s σ H _ _ v d Q I e b ⟨l,c,rfl,rfl,f,g⟩
def FH(a b:TE):TS:=λD σ H=>a σ H λx c=>b σ c λy a=>∃l i xs k,x=.ref l/\y=.int i/\a l=some (.lst xs)/\-(2^63)<=i/\i<2^63/\seqIndex? i xs.length=some k/\D.nx σ (upd a l (.lst (xs.eraseIdx k)))
theorem J2{o i:Expr}{b c:TE}{d a:Pos}(e:PE X o b)(f:PE X i c):PS X (.Delete [.Subscript o i d] a) (FH b c):=by
 walk_at "xd";refine wpAny_Delete (wpAny_deleteEach_cons (wpAny_delete_Subscript (dy (e pins s σ H _ I h) λu a ⟨x,b,c,g,d⟩=>dy (f pins a σ b _ c d) λe k j=>?_)));obtain⟨y,a,m,n,l,i,b,k,p,q,r,v,w,z,A⟩:=j;subst p q;obtain rfl:u=Value.ref l:=g;obtain⟨t,rfl⟩:=n;exact EL m r v w z λb a=>wpAny_deleteEach_nil ⟨σ,_,a,A⟩
structure CD(K:W.Frag)(a:Addr)(D:List (Str×V)):Prop where
 ex:∃o es ep,K.lookup a=some o/\o.ExactDict/\o.data=.dict es ep/\KTD.Rows RelV es.toList D
 ne:(a==sysModules)=false
theorem Oi{prog:Program}{w:World}{A:Around}{E:Value->Shared->Prop}{s:Shared}{o:Obj}{b:Array DictEntry}{f:Nat}{k:Str}{h:Tok}{Q:Option Value->Shared->Prop}(j:s.heap.get? a=some o)(m:o.data=.dict b f)(g:KTD.Rows RelV b.toList D)
  (i:∀d v,KTD.datumAt k D=some d->RelV d v->Q (some v) {s with toks:=s.toks+1}) (n:KTD.datumAt k D=none->Q none {s with toks:=s.toks+1}):wpAny (model prog w) A (dictGet a (.str k h)) Q E s:=by
 unfold dictGet
 try with_reducible refine wpAny_holding ?_
 calc A' (wpAny_pyHash_str (A' (KTD.kt_dictFind_strs (s:={s with toks:=s.toks+1}) j m (by obtain⟨l⟩:=b;simpa using g.exact) ?_)));have c:Q (findBy (λk v=>v.isStr k) b k) {s with toks:=s.toks+1}:=by
  have f:findBy (λk v=>v.isStr k) b k=(b.toList.find? λe=>e.key.isStr k).map (·.val):=by
   obtain⟨l⟩:=b;simp[findBy]
  rw[f]
  cases f:KTD.datumAt k D with
  |some d=>
   obtain⟨v,l,h⟩:=g.find_some f;rw[l];calc i d v f h
  |none=>rw[g.find_none f];exact n f
 rw[findBy_of_findIdx?]at c
 cases d:b.findIdx? λe=>e.key.isStr k with
 |none=>rw[d]at c;calc M' c
 |some i=>rw[d]at c;calc A' (wpAny_dictEntries (s:={s with toks:=s.toks+1}) j m (M' c))
theorem zz{prog:Program}{w:World}{o:Obj}{c:Array DictEntry}{d:Nat}{k:Str}{b:Tok}(e:o.data=.dict c d)(f:KTD.Rows RelV c.toList D)(g:(a==sysModules)=false):
  MeetsIn prog w (Builtin.«dict.get» ⟨[.ref a,.str k b],[]⟩) (λ_ R s=>s.heap.get? a=some o/\(∀d v,KTD.datumAt k D=some d->RelV d v->R (.ok (.ret v)) {s with toks:=s.toks+1})/\(KTD.datumAt k D=none->R (.ok (.ret .none)) {s with toks:=s.toks+1})):=
 .of_wp λA R s ⟨T,c,h⟩=>by
  show wpAny _ _ (dictGet a (.str k b) >>= _) _ _ s;calc A' (Oi T e f (λd v i j=>M' ⟨v,rfl,c d v i j⟩) λe=>?_);show wpAny _ _ (Builtin.Dict.missed a (.str k b) >>= _) _ _ _;calc A' (wpAny_missed_other g (M' ⟨.none,rfl,h e⟩))
def FI(D:List (Str×V))(t:TA):TE:=λσ H Q=>t σ H λxs a=>match xs with
 | [.str k]=>Q ((KTD.datumAt k D).getD .bP) a
 |_=>False
theorem J3{n:Str}{e:Expr}{t:TA}{p b d:Pos}(C:CD X.K a D)(r:Gl X n)(v:X.mg n=some (.ref a))(w:PA X [e] t)
  (x:(n==("__debug__":Str))=false:=by decide) (y:attributeBase (.Name n p) "get" X.env (eval (.Name n p) X.env)=eval (.Name n p) X.env:=by rfl)
  (z:(b.endLine==d.line)=true:=by rfl) (l:starEach [e] X.env=[(false,eval e X.env)]:=by rfl):PE X (.Call (.Attribute (.Name n p) "get" b) [e] [] d) (FI D t):=by
 walk_at "xc";obtain⟨o,b,n,m,f,A,B⟩:=C.ex;refine wpAny_Call_method_late y (by rw[l];rfl) z rfl (qI I r v ?_ x);have q:s.heap.get? a=some o:=I.j9 a o m;refine⟨"dict","dict.get",PySem.F.plainAttrs_dict,RB,PySem.F.type_dict_get,⟨o,q,f.1⟩,λb e=>?_,?_⟩
 ·cases e;exact⟨o,q,f.2.1⟩
 have b:=w d pins s σ H _ I h;rw[l]at b ⊢;calc Calls.callWith_builtin rfl (Calls.evalArgs_plain (dy b λn E e=>?_));obtain⟨b,g,i,j,c⟩:=e
 match b,j,c with
 | [.str k],j,c=>
  obtain⟨u,rfl,G⟩:=Vals.one j;obtain⟨J,rfl⟩:=G;have e:E.heap.get? a=some o:=i.j9 a o m
  replace c:Q ((KTD.datumAt k D).getD .bP) g:=c
  refine call_meetsIn RB ⟨o,e,f.1⟩ PySem.F.entry_dict_get (PySem.F.args_dict_get_2 _ _) (zz A B C.ne) ⟨e,λd v b j=>?_,λe=>?_⟩
  ·exact⟨d,g,i.tok _,j,by have:=c;rw[b]at this;calc this⟩
  ·calc⟨.bP,g,i.tok _,rfl,by have:=c;rw[e]at this;calc this⟩
end
end
section
variable {x:Str}
section
variable {X:Cx}
theorem fG{n:Int}{a:Pos}(b:∃t,X.mg x=some (.int n t))(c:Gl X x)(d:(x==("__debug__":Str))=false:=by decide):PE X (.Name x a) (tC (.int n)):=by
 obtain⟨t,b⟩:=b;calc Ar c b ⟨t,rfl⟩ d
end
structure bZ(P:Program)(w:World)(K:W.Frag)(mg:Str->Option Value)(base:Heap)(C:Addr)(m:Str)(k:Nat)(ps:List Str)(sp:Sp):Prop where
 ex:∃f fd,Meth K C m f/\lU P w K mg base Cz k f fd ps sp/\Binds K fd ps []
structure fR(K:W.Frag)(C:Addr)(m qual:Str)(st:Stmt)(ps:List Str):Prop where
 ex:∃f fd,Meth K C m f/\JP K m qual st f fd/\Binds K fd ps []
structure xC(P:Program)(w:World)(K:W.Frag)(mg:Str->Option Value)(base:Heap)(x:Str)(C:Addr)(k:Nat)(ps:List Str)(sp:Sp):Prop where
 ex:∃f fd,Mk K C f/\lU P w K mg base Cz k f fd ps sp/\Binds K fd ps []
 mg:mg x=some (.ref C)
structure CH(K:W.Frag)(mg:Str->Option Value)(x:Str)(C:Addr)(qual:Str)(st:Stmt)(ps:List Str):Prop where
 ex:∃f fd,Mk K C f/\JP K "__init__" qual st f fd/\Binds K fd ps []
 mg:mg x=some (.ref C)
section
variable {P:Program}{w:World}{K:W.Frag}{mg:Str->Option Value}{base:Heap}
theorem fR.ok{C:Addr}{m a:Str}{b:Stmt}{N c:List Str}{k:Nat}{sp:Sp}(T:fR K C m a b c)(S:aC N c (ax b))(d:∀vs H Q E,sp vs H Q E->vs.length=c.length)
  (g:∀(f:Addr) (e:Value) (A:Around) (outer:List Env) (s:Shared) (H:Hp) (vs:List V) (Q:VK) (E:XK),eU k (A.deeper (envOfC a (ax b) s.heap.objs.size f e))->sp vs H Q E->
   ∃t,wG (q9 Cz P w K mg base N a (ax b) f e A outer s H E).Jn (di b) t/\t {nx:=λ_ a=>Q .bP a,rt:=Q} (start N vs) H):bZ P w K mg base C m (k + 1) c sp:=by
 obtain⟨f,a,M,F,b⟩:=T.ex;calc⟨f,a,M,F.ok S d (g f),b⟩
theorem CH.ok{C:Addr}{a:Str}{b:Stmt}{N c:List Str}{k:Nat}{sp:Sp}(T:CH K mg x C a b c)(S:aC N c (ax b))(d:∀vs H Q E,sp vs H Q E->vs.length=c.length)
  (g:∀(f:Addr) (e:Value) (A:Around) (outer:List Env) (s:Shared) (H:Hp) (vs:List V) (Q:VK) (E:XK),eU k (A.deeper (envOfC a (ax b) s.heap.objs.size f e))->sp vs H Q E->
   ∃t,wG (q9 Cz P w K mg base N a (ax b) f e A outer s H E).Jn (di b) t/\t {nx:=λ_ a=>Q .bP a,rt:=Q} (start N vs) H):xC P w K mg base x C (k + 1) c sp:=by
 obtain⟨f,a,M,F,b⟩:=T.ex;calc⟨⟨f,a,M,F.ok S d (g f),b⟩,T.mg⟩
end
section
variable {X:Cx}{o e:Expr}{es:List Expr}{to:TE}{t:TA}{apos p pos:Pos}{C:Addr}{m x:Str}{k j:Nat}{ps:List Str}{sp:Sp}
theorem dq{pl:Sem Bool}(D:bZ X.prog X.w X.K X.mg X.base C m k ps sp)(c:vt X.K C)(b:eU j X.A)(d:PE X o to)(g:PA X (e::es) t)(h:k<=j:=by decide)(i:fX e=true:=by rfl)(l:es.all fX=true:=by rfl)
  (n:eval (.Call (.Attribute o m apos) (e::es) [] pos) X.env=(do
   let a <-eval o X.env
   standAt apos.atName
   let (f,first) <-holding [a] (getMethod a m pl)
   callWith pos f first (backTo pos (starEach (e::es) X.env)) (backToKw pos (keywordEach [] X.env))):=by rfl):
  PE X (.Call (.Attribute o m apos) (e::es) [] pos) (uu C m sp [] E0 to t):=by
 obtain⟨f,p,M,F,a⟩:=D.ex;calc Jz d c M F (b.mono h) a .nil AO g (fY i) (jD l) n
theorem eR{pl:Sem Bool}(D:bZ X.prog X.w X.K X.mg X.base C m k ps sp)(c:vt X.K C)(b:eU j X.A)(d:PE X o to)(e:k<=j:=by decide)
  (g:eval (.Call (.Attribute o m apos) [] [] pos) X.env=(do
   let a <-eval o X.env
   standAt apos.atName
   let (f,first) <-holding [a] (getMethod a m pl)
   callWith pos f first (backTo pos (starEach [] X.env)) (backToKw pos (keywordEach [] X.env))):=by rfl):
  PE X (.Call (.Attribute o m apos) [] [] pos) (uu C m sp [] E0 to Ey):=by
 obtain⟨f,h,M,F,a⟩:=D.ex;calc Ez d c M F (b.mono e) a .nil AO g
theorem FJ(D:xC X.prog X.w X.K X.mg X.base x C k ps sp)(a:eU j X.A)(b:PA X (e::es) t)(c:Gl X x:=by rfl)(d:k+1<=j:=by decide)(g:(x==("__debug__":Str))=false:=by decide)
  (h:fX e=true:=by rfl) (i:es.all fX=true:=by rfl):PE X (.Call (.Name x p) (e::es) [] pos) (AD C sp [] E0 t):=by
 obtain⟨f,m,M,F,l⟩:=D.ex;calc JA M F (a.mono d) c D.mg l .nil AO b g (fY h) (jD i)
end
theorem gv{K:W.Frag}{b:Bool}{a:Addr}{xs:List V}{g:TG}{l:TS}{D:Ends}{σ:St}{H:Hp}(c:Nat->St->Hp->Prop)(o:c 0 σ H)(j:∀i σ H,c i σ H->Sq b K H a xs)
  (q:∀i x σ H T,xs[i]?=some x->c i σ H->H T=none->g (.ref T) σ (upd H T (.tup [.int i,x])) λd k=>l {D with nx:=c (i+1),ct:=c (i+1),bk:=D.nx} d k) (r:∀σ H,c xs.length σ H->D.nx σ H):
  ∃W:Nat->Nat->St->Hp->Prop,(∃m,W 0 m σ H)/\∀i m σ H,W i m σ H->
   ((JY b K a).stop i H/\D.nx σ H)\/((JY b K a).go i H/\∃N:St->Hp->Prop,(∀f h,N f h->∃n,n<m/\W (i+1) n f h)/\∀x h,(JY b K a).Ln i H x h->g x σ h λd k=>l {D with nx:=N,ct:=N,bk:=D.nx} d k):=by
 calc⟨λi m σ H=>m=xs.length-i/\i<=xs.length/\c i σ H,⟨xs.length,nofun,U' _,o⟩,?_⟩;rintro i m σ H ⟨rfl,b,p⟩;by_cases a:i<xs.length
 ·calc .inr ⟨⟨xs,xs[i],j i σ H p,dw a⟩,c (i+1),λf h b=>⟨xs.length-(i+1),(),rfl,a,b⟩,λx h y=>?_⟩;obtain⟨T,s,rfl,y⟩:=y;obtain⟨x,t,rfl⟩:=y xs (j i σ H p);exact q i x σ H T t p s
 ·have e:i=xs.length:=by lia
  subst e;calc .inl ⟨⟨xs,j _ σ H p,rfl⟩,r σ H p⟩
theorem e9{X:Cx}{i j:Nat}{y:Str}{c d a:Pos}{k:Nat}(e:X.calm=true)(b:X.N.Nodup)(f:X.N[i]?=some x)(g:X.N[j]?=some y)(h:Loc X.env.scope x)(l:Loc X.env.scope y)
  (m:X.fn x=true\/X.env.scope.names.lookup x=some .local:=by grind) (n:X.fn y=true\/X.env.scope.names.lookup y=some .local:=by grind):
  PG X (.Tuple [.Name x c,.Name y d] k a) (Eg X.K 2 (lZ (fS i) (lZ (fS j) Ef))):=Eh e (km (aN b f h m) (km (aN b g l n) Au))
end
end L2
set_option maxHeartbeats 400000
namespace L2
open PySem PySem.Spec PyProof.Rows
end L2
set_option maxHeartbeats 4000000
namespace L2
open PySem PySem.Spec PyProof.Rows
variable {a:Addr}{g:Bool->Bool}{H:Hp}{ix:List (Option Nat)}{yP:List (TE×TE)}{σ:St}{te:TE}{wi:TI}{tt:TT}{Q:VK}{K:W.Frag}
section
variable {X:Cx}{K:W.Frag}
theorem uN(a:X.K=K):ee X (.builtin "isinstance") (JZ K):=a▸cC
theorem gY(a:X.K=K):ee X (.builtin "len") (Ob K):=a▸aL
theorem nW(a:X.K=K):ee X (.type "tuple") (vJ K):=a▸bN
theorem kC(a:X.K=K):ee X (.type "list") (E5 K):=a▸cI
theorem J4(a:X.K=K)(b:X.A.units+64<cLine):fV X (compareOp .Eq) (N0 K):=a▸E3 b
theorem dC{a b:Expr}{d e:TE}{c:Pos}(f:X.K=K)(g:X.A.units+64<cLine)(i:PE X a d)(j:PE X b e)(h:vO b=true:=by rfl):PE X (.Subscript a b c) (Ep (Oa K) d e):=f▸aj g i j h
theorem J5{e:Expr}{b:TE}{f:Str}{a:Pos}(c:X.K=K)(d:PE X e b)(g:attributeBase e f X.env (eval e X.env)=eval e X.env):PE X (.Attribute e f a) (Jw K b f):=c▸bE d g
theorem iP{i j:Nat}{x y:Str}{b c a:Pos}{k:Nat}(d:X.K=K)(e:X.calm=true)(f:X.N.Nodup)(g:X.N[i]?=some x)(h:X.N[j]?=some y)(l:Loc X.env.scope x)(m:Loc X.env.scope y)
  (n:X.fn x=true\/X.env.scope.names.lookup x=some .local:=by grind) (o:X.fn y=true\/X.env.scope.names.lookup y=some .local:=by grind):
  PG X (.Tuple [.Name x b,.Name y c] k a) (Eg K 2 (lZ (fS i) (lZ (fS j) Ef))):=d▸e9 e f g h l m n o
end
inductive SG{α:Sort _}(x:α):Type
 |mk
def Yc(ix:List (Option Nat))(wi:TI)(g:TG)(tt:TT)(te:TE)(_:SG (ix,wi,g,tt,te)):TE:=Sg ix wi g tt te
theorem AX{g:TG}:Sg ix wi g tt te=Yc ix wi g tt te .mk:=rfl
def SH(wi:TI)(g:TG)(a:TS)(_:SG (wi,g,a)):TS:=Nj wi g a
theorem xD{g:TG}{a:TS}:Nj wi g a=SH wi g a .mk:=rfl
def J6(a:TT)(b:TS)(_:SG (a,b)):TS:=vq a b
theorem rK{a:TT}{b:TS}:vq a b=J6 a b .mk:=rfl
theorem bF{g:TG}(h:wi σ H λJ a=>∀D,a D=none->kB ix J g tt te σ a Q D):Sg ix wi g tt te σ H Q:=h
def J7(ix:List (Option Nat))(J:It)(g:TG)(tt:TT)(te:TE)(σ:St)(H:Hp)(Q:VK)(D:Addr)(_:SG (ix,J,g,tt,te,σ,H,Q,D)):Prop:=kB ix J g tt te σ H Q D
theorem rL{J:It}{g:TG}{D:Addr}:kB ix J g tt te σ H Q D=J7 ix J g tt te σ H Q D .mk:=rfl
theorem zA:Sm g (.ref a) .bP H Q=Q (.bl (g false)) H:=by
 show Q (.bl (g (decide (V.ref a=.bP)))) H=_;simp
theorem zB:Sm g .bP .bP H Q=Q (.bl (g true)) H:=by
 show Q (.bl (g (decide (V.bP=.bP)))) H=_;simp
theorem au.Qw{b:Hp}(s:au H b){a:Addr}{xs:List V}(h:bQ K H a xs):bQ K b a xs:=by
 rcases h with(h|⟨o,h⟩)|h
 ·exact .inl (.inl (s _ _ h))
 ·exact .inl (.inr ⟨o,s _ _ h⟩)
 ·calc .inr h
theorem jE{α:Type}(x:α)(n:Nat):List.replicate n x++[x]=List.replicate (n+1) x:=by
 rw[List.replicate_succ',]
theorem oV(n:Nat):List.replicate n (V.bl true)=(List.replicate n true).map V.bl:=by simp
theorem cZ{xs:List V}{i:Int}{v:V}{P:V->Prop}(h:H a=some (.tup xs))(e:iJ xs i=some v)(k:P v):∃xs v,(aO K H a xs\/bQ K H a xs)/\iJ xs i=some v/\P v:=⟨xs,v,.inr (bQ.of h),e,k⟩
theorem bD{xs:List V}{i:Int}{v:V}{P:V->Prop}(h:H a=some (.lst xs))(e:iJ xs i=some v)(k:P v):∃xs v,(aO K H a xs\/bQ K H a xs)/\iJ xs i=some v/\P v:=⟨xs,v,.inl (aO.of h),e,k⟩
def Ol(yP:List (TE×TE))(_:SG yP):TE:=AM yP
theorem uO:AM yP=Ol yP .mk:=rfl
theorem J8(h:∀p,H p=none->oS yP σ (upd H p (.dK [])) λd b=>b p=some (.dK [])/\∃a:List (Key×V),d=a.map (λc=>(kV c.1,c.2))/\a.length<=15/\Q (.ref p) (upd b p (.dK (ml [] a)))):AM yP σ H Q:=h
end L2
set_option maxHeartbeats 400000
namespace L2
open PySem PySem.Spec PyProof.Rows
section
section
variable {X:Cx}{K:W.Frag}
end
end
section
section
variable {X:Cx}{pins:List (Addr×Obj)}{σ:St}{H:Hp}{s:Shared}{e C:Addr}{d:Option Addr}{fl:Bool}{T:Option Addr}{h':Heap}
end
section
variable {X:Cx}{pins:List (Addr×Obj)}{σ:St}{H:Hp}{s:Shared}{a C:Addr}{d:Option Addr}{fl:Bool}{T:Option Addr}{h':Heap}{E:XK}{E1:Value->Shared->Prop}
end
end
section
section
variable {X:Cx}{o e:Expr}{es:List Expr}{to:TE}{t:TA}{apos p pos:Pos}{C:Addr}{m x:Str}{k j:Nat}{ps:List Str}{sp:Sp}{E:XK}
end
end
section
end
end L2
namespace L2
open PySem PySem.Spec PyProof.Rows
end L2
set_option maxHeartbeats 4000000
namespace DD
open PySem L2
variable {H:Hp}{x:V}
inductive Kd(H:Hp):V->Value->Prop
 |bP:Kd H .bP (.type "NoneType")
 |bl (b:Bool):Kd H (.bl b) (.type "bool")
 |int (i:Int):Kd H (.int i) (.type "int")
 |str (x:Str):Kd H (.str x) (.type "str")
 |lst {a xs}:H a=some (.lst xs)->Kd H (.ref a) (.type "list")
 |tup {a xs}:H a=some (.tup xs)->Kd H (.ref a) (.type "tuple")
 |dK {a bg}:H a=some (.dK bg)->Kd H (.ref a) (.type "dict")
theorem Kd.ty{K:W.Frag}{H:Hp}{x:V}{t:Value}(h:Kd H x t):gA K H x t:=by
 cases h with
 |bP=>calc .bP
 |bl b=>calc .bl b
 |int i=>calc .int i
 |str x=>calc .str x
 |lst e=>calc .lst e
 |tup e=>calc .tup e
 |dK e=>calc .dK e
def Yd:V->Bool
 | .int _=>true
 |_=>false
theorem Om{K:W.Frag}{H:Hp}{x:V}{t:Value}(h:Kd H x t):∃b c,W.kitOne K t (.type "int")=some b/\W.kitOne K t (.type "bool")=some c/\Yd x=(b && !c):=by
 cases h with
 |bP=>calc⟨false,false,rfl,rfl,rfl⟩
 |bl b=>calc⟨true,true,rfl,rfl,rfl⟩
 |int i=>calc⟨true,false,rfl,rfl,rfl⟩
 |str x=>calc⟨false,false,rfl,rfl,rfl⟩
 |lst e=>calc⟨false,false,rfl,rfl,rfl⟩
 |tup e=>calc⟨false,false,rfl,rfl,rfl⟩
 |dK e=>calc⟨false,false,rfl,rfl,rfl⟩
def inR(a b:Int):V->Bool
 | .int i=>decide (a<=i)&&decide (i<b)
 |_=>false
theorem SI{H:Hp}{n:Nat}{x:V}{d:DV}(h:HD H n x d):∃t,Kd H x t:=by
 cases h with
 |bP=>calc⟨_,.bP⟩
 |bl b=>calc⟨_,.bl b⟩
 |int i=>calc⟨_,.int i⟩
 |str x=>calc⟨_,.str x⟩
 |tup e=>calc⟨_,.tup e⟩
 |lst e=>calc⟨_,.lst e⟩
 |dict e=>calc⟨_,.dK e⟩
def Oo:DV->Bool
 | .int _=>true
 |_=>false
def SJ(a b:Int):DV->Bool
 | .int i=>decide (a<=i)&&decide (i<b)
 |_=>false
theorem Oq{n:Nat}{d:DV}(h:HD H n x d):Yd x=Oo d:=by cases h<;>rfl
theorem Ot{n:Nat}{d:DV}(h:HD H n x d)(a b:Int):inR a b x=SJ a b d:=by cases h<;>rfl
def rM:List V:=[.str "letter",.str "way",.str "first"]
def J9(w:Str)(m:Int):List DV->Bool
 | [z]=>if w="is" then Oo z else(decide (w="number")&&SJ 0 m z)
 |_=>false
def CI(m:Int):DV->Bool
 | .tup (.str w::r)=>if AL (.str w) rM=true then decide (r.length=0) else J9 w m r
 |_=>false
inductive Val where
 |is (c:Int)|number (i:Int)|mw|way|first
def Val.dv:Val->DV
 | .is c=>.tup [.str "is",.int c]
 | .number i=>.tup [.str "number",.int i]
 | .mw=>.tup [.str "letter"]
 | .way=>.tup [.str "way"]
 | .first=>.tup [.str "first"]
def Val.ok(m:Int):Val->Prop
 | .number i=>0<=i/\i<m
 |_=>True
theorem Ou{m:Int}{v:Val}(h:v.ok m):CI m v.dv=true:=by
 cases v with
 |is c=>calc rfl
 |number i=>
  obtain⟨a,b⟩:=h;show(if AL (.str "number") rM=true then decide (([DV.int i]:List DV).length=0) else if ("number":Str)="is" then Oo (.int i) else(decide (("number":Str)="number")&&(decide (0<=i)&&decide (i<m))))=true;rw[if_neg ⋯,if_neg ⋯];simp[a,b]
 |mw=>calc rfl
 |way=>calc rfl
 |first=>calc rfl
def rN(ns a:List Int)(way said:Int):Val->Int
 | .is c=>c
 | .number i=>ns.getD i.toNat 0
 | .mw=>said
 | .way=>way
 | .first=>a.headD 0
abbrev xE(ns a:List Int):DV:=.tup [.tup (ns.map .int),.tup (a.map .int)]
theorem ln1{l:List V}(h:l.length=1):∃a,l=[a]:=List.length_eq_one_iff.mp h
theorem ln2{l:List V}(h:l.length=2):∃a b,l=[a,b]:=by
 cases l with
 |nil=>cases h
 |cons a r=>
  obtain⟨b,rfl⟩:=ln1 (Nat.succ.inj h);calc⟨a,b,rfl⟩
theorem ln3{l:List V}(h:l.length=3):∃a b c,l=[a,b,c]:=by
 cases l with
 |nil=>cases h
 |cons a r=>
  obtain⟨b,c,rfl⟩:=ln2 (Nat.succ.inj h);calc⟨a,b,c,rfl⟩
theorem ln4{l:List V}(h:l.length=4):∃a b c d,l=[a,b,c,d]:=by
 cases l with
 |nil=>cases h
 |cons a r=>
  obtain⟨b,c,d,rfl⟩:=ln3 (Nat.succ.inj h);calc⟨a,b,c,d,rfl⟩
theorem iY{H:Hp}{n:Nat}{x:V}{d:DV}(h:HT H n x (.tup [d])):∃a u k,x=.ref a/\H a=some (.tup [u])/\HT H k u d:=by
 cases h with
 | @tup k a b _ e l i=>
  obtain⟨u,rfl⟩:=ln1 l;calc⟨a,u,k,rfl,e,i 0 u d rfl rfl⟩
theorem dF{H:Hp}{n:Nat}{x:V}{d d':DV}(h:HT H n x (.tup [d,d'])):∃a u v k,x=.ref a/\H a=some (.tup [u,v])/\HT H k u d/\HT H k v d':=by
 cases h with
 | @tup k a b _ e l i=>
  obtain⟨u,v,rfl⟩:=ln2 l;calc⟨a,u,v,k,rfl,e,i 0 u d rfl rfl,i 1 v d' rfl rfl⟩
theorem AY{H:Hp}{n:Nat}{x:V}{ns:List Int}(h:HT H n x (.tup (ns.map .int))):∃a,x=.ref a/\H a=some (.tup (ns.map V.int)):=by
 cases h with
 | @tup k a b _ e l i=>
  calc⟨a,rfl,?_⟩;have:b=ns.map V.int:=by
   apply List.ext_getElem?;intro j;rw[List.getElem?_map]
   cases c:ns[j]? with
   |none=>
    have a:ns.length<=j:=List.getElem?_eq_none_iff.mp c;rw[List.getElem?_eq_none_iff.mpr (by rw[l,List.length_map];calc a)];rfl
   |some z=>
    have a:j<ns.length:=(List.getElem?_eq_some_iff.mp c).1;have d:j<b.length:=by rw[l,List.length_map];exact a
    have f:=i j b[j] (.int z) (dw d) (by rw[List.getElem?_map,c];rfl);rw[dw d];generalize b[j]=y at f
    cases f;rfl
  rw[<-this];calc e
theorem nX{H:Hp}{n:Nat}{a:Addr}{ns:List Int}(e:H a=some (.tup (ns.map V.int))):HT H (n+1) (.ref a) (.tup (ns.map .int)):=by
 calc .tup e nofun λi u d b c=>?_;rw[List.getElem?_map]at b c
 cases f:ns[i]? with
 |none=>rw[f]at b;cases b
 |some z=>rw[f]at b c;cases b;cases c;calc .int z
theorem rO{H:Hp}{n:Nat}{a:Addr}{u:V}{d:DV}(e:H a=some (.tup [u]))(h:HT H n u d):HT H (n+1) (.ref a) (.tup [d]):=by
 refine .tup e rfl λi x y b c=>?_
 cases i with
 |zero=>simp at b c;subst b c;calc h
 |succ i=>simp at b
theorem df{H:Hp}{n:Nat}{a:Addr}{u v:V}{d d':DV}(e:H a=some (.tup [u,v]))(h:HT H n u d)(h':HT H n v d'):HT H (n+1) (.ref a) (.tup [d,d']):=by
 refine .tup e rfl λi x y b c=>?_
 match i,b,c with
 |0,b,c=>simp at b c;subst b c;calc h
 |1,b,c=>simp at b c;subst b c;calc h'
theorem _root_.L2.HT.mono{H:Hp}{n:Nat}{x:V}{d:DV}(h:HT H n x d):∀{m:Nat},n<=m->HT H m x d:=by
 induction h with
 |bP=>intro m _;calc .bP
 |bl b=>intro m _;calc .bl b
 |int i=>intro m _;calc .int i
 |str x=>intro m _;calc .str x
 |tup a b c f=>
  intro m e;obtain⟨k,rfl⟩:∃k,m=k+1:=⟨m-1,()⟩
  calc .tup a b λi u e p q=>f i u e p q ()
theorem Ka{K:W.Frag}{H:Hp}{n:Nat}{x:V}{d:DV}(h:HT H n x d):∀{m:Nat}{y:V}{k:Nat},HT H m y d->n<k->iO K H k x y:=by
 induction h with
 |bP=>intro m y k h c;cases h;obtain⟨j,rfl⟩:∃j,k=j+1:=⟨k-1,()⟩;calc .inl ⟨rfl,rfl⟩
 |bl b=>intro m y k h c;cases h;obtain⟨j,rfl⟩:∃j,k=j+1:=⟨k-1,()⟩;calc .inl ⟨rfl,rfl⟩
 |int i=>intro m y k h c;cases h;obtain⟨j,rfl⟩:∃j,k=j+1:=⟨k-1,()⟩;calc .inl ⟨rfl,rfl⟩
 |str i=>intro m y k h c;cases h;obtain⟨j,rfl⟩:∃j,k=j+1:=⟨k-1,()⟩;calc .inl ⟨rfl,rfl⟩
 | @tup n a o g e l i q=>
  intro m y k h c;obtain⟨j,rfl⟩:∃j,k=j+1:=⟨k-1,()⟩
  cases h with
  | @tup m b d _ i j k=>
   calc .inr ⟨a,b,o,d,rfl,rfl,.inl ⟨bQ.of e,bQ.of i⟩,l.trans j.symm,λp u v c m=>?_⟩;have a:p<g.length:=by rw[<-l];exact(List.getElem?_eq_some_iff.mp c).1
   calc q p u g[p] c (dw a) (k p v g[p] m (dw a)) ()
inductive bG where
 |set (i:Int) (v:Val)|add (i:Int) (v:Val)|times (i:Int) (v:Val)|put (v:Val)|drop|send (j:Int) (v:Val)|say (v:Val)|skip (v w:Val) (k:Int)
def bG.dv:bG->DV
 | .set i v=>.tup [.str "set",.int i,v.dv]
 | .add i v=>.tup [.str "add",.int i,v.dv]
 | .times i v=>.tup [.str "times",.int i,v.dv]
 | .put v=>.tup [.str "put",v.dv]
 | .drop=>.tup [.str "drop"]
 | .send j v=>.tup [.str "send",.int j,v.dv]
 | .say v=>.tup [.str "say",v.dv]
 | .skip v w k=>.tup [.str "skip",v.dv,w.dv,.int k]
def bG.ok(m:Int):bG->Prop
 | .set i v=>0<=i/\i<m/\v.ok m
 | .add i v=>0<=i/\i<m/\v.ok m
 | .times i v=>0<=i/\i<m/\v.ok m
 | .put v=>v.ok m
 | .drop=>True
 | .send j v=>0<=j/\v.ok m
 | .say v=>v.ok m
 | .skip v w k=>v.ok m/\w.ok m/\1<=k/\k<25
def bG.vals:bG->List Val
 | .set _ v=>[v]
 | .add _ v=>[v]
 | .times _ v=>[v]
 | .put v=>[v]
 | .drop=>[]
 | .send _ v=>[v]
 | .say v=>[v]
 | .skip v w _=>[v,w]
def bG.word:bG->Str
 | .set _ _=>"set"
 | .add _ _=>"add"
 | .times _ _=>"times"
 | .put _=>"put"
 | .drop=>"drop"
 | .send _ _=>"send"
 | .say _=>"say"
 | .skip _ _ _=>"skip"
def bG.tQ:bG->List Str
 | .set _ _=>["number","value"]
 | .add _ _=>["number","value"]
 | .times _ _=>["number","value"]
 | .put _=>["value"]
 | .drop=>[]
 | .send _ _=>["way","value"]
 | .say _=>["value"]
 | .skip _ _ _=>["value","value","many"]
structure WS where
 ns:List Int
 row:List Int
 cJ:List (Int×Int)
 words:List Int
def fH(M way said:Int)(ns a:List Int)(v:Val):Int:=rN ns a way said v%M
def jF(M:Int)(ns:List Int)(x:Int):bG->List Int
 | .set i _=>ns.set i.toNat x
 | .add i _=>ns.set i.toNat ((ns.getD i.toNat 0+x)%M)
 | .times i _=>ns.set i.toNat ((ns.getD i.toNat 0*x)%M)
 |_=>ns
def nY(a:List Int)(x:Int):bG->List Int
 | .put _=>if a.length<12 then a++[x] else a
 | .drop=>a.tail
 |_=>a
def g9(x:Int):bG->List (Int×Int)
 | .send j _=>[(j,x)]
 |_=>[]
def fZ(x:Int):bG->List Int
 | .say _=>[x]
 |_=>[]
def nZ(x y:Int):bG->Int
 | .skip _ _ k=>if x<y then k else 0
 |_=>0
def fI(M way said:Int)(d:bG)(s:WS):WS:=
 let ws:=d.vals.map (fH M way said s.ns s.row)
 ⟨jF M s.ns (ws.getD 0 0) d,nY s.row (ws.getD 0 0) d,s.cJ++g9 (ws.getD 0 0) d,s.words++fZ (ws.getD 0 0) d⟩
def me(M way said:Int)(d:bG)(s:WS):Int:=
 let ws:=d.vals.map (fH M way said s.ns s.row)
 nZ (ws.getD 0 0) (ws.getD 1 0) d
def xF(M way said:Int):Nat->List bG->WS->WS
 |0,_,s=>s
 |_,[],s=>s
 |f+1,d::r,s=>xF M way said f (r.drop (me M way said d s).toNat) (fI M way said d s)
theorem AZ{M way said:Int}{f:Nat}{s:WS}:xF M way said f [] s=s:=by cases f<;>rfl
def n0(M way said:Int)(b:List bG)(ns a:List Int):WS:=xF M way said b.length b ⟨ns,a,[],[]⟩
theorem oW{M x:Int}{ns:List Int}{d:bG}:(jF M ns x d).length=ns.length:=by cases d<;>simp[jF]
def xG(K:W.Frag)(H:Hp)(e:V)(ns d:List Int):Prop:=∃a b c,e=.ref a/\H a=some (.tup [.ref b,.ref c])/\(aO K H b (ns.map V.int)\/bQ K H b (ns.map V.int))/\(aO K H c (d.map V.int)\/bQ K H c (d.map V.int))
theorem xG.of{K:W.Frag}{n:Nat}{f:V}{ns d:List Int}(h:HT H n f (xE ns d)):xG K H f ns d:=by
 obtain⟨a,u,v,k,rfl,e,g,i⟩:=dF h;obtain⟨b,rfl,j⟩:=AY g;obtain⟨c,rfl,d⟩:=AY i;calc⟨a,b,c,rfl,e,.inr (bQ.of j),.inr (bQ.of d)⟩
def bV:Stmt->List Stmt
 | .ClassDef _ _ _ a _ _ _ _ _ _ _=>a
 |_=>[]
theorem cm{H:Hp}{n:Nat}{x:V}{d d' b:DV}(h:HT H n x (.tup [d,d',b])):∃a u v w k,x=.ref a/\H a=some (.tup [u,v,w])/\HT H k u d/\HT H k v d'/\HT H k w b:=by
 cases h with
 | @tup k a c _ e l i=>
  obtain⟨u,v,w,rfl⟩:=ln3 l;calc⟨a,u,v,w,k,rfl,e,i 0 u d rfl rfl,i 1 v d' rfl rfl,i 2 w b rfl rfl⟩
theorem oa{H:Hp}{n:Nat}{x:V}{d d' b c:DV}(h:HT H n x (.tup [d,d',b,c])):∃a u v w z k,x=.ref a/\H a=some (.tup [u,v,w,z])/\HT H k u d/\HT H k v d'/\HT H k w b/\HT H k z c:=by
 cases h with
 | @tup k a f _ e l i=>
  obtain⟨u,v,w,z,rfl⟩:=ln4 l;calc⟨a,u,v,w,z,k,rfl,e,i 0 u d rfl rfl,i 1 v d' rfl rfl,i 2 w b rfl rfl,i 3 z c rfl rfl⟩
theorem mx{H:Hp}{n:Nat}{a:Addr}{u v w:V}{d d' f:DV}(e:H a=some (.tup [u,v,w]))(h:HT H n u d)(h':HT H n v d')(g:HT H n w f):HT H (n+1) (.ref a) (.tup [d,d',f]):=by
 refine .tup e rfl λi x y b c=>?_
 match i,b,c with
 |0,b,c=>simp at b c;subst b c;calc h
 |1,b,c=>simp at b c;subst b c;calc h'
 |2,b,c=>simp at b c;subst b c;calc g
theorem A0{n:Nat}{v:Val}(h:HT H n x v.dv):∃a xs,x=.ref a/\H a=some (.tup xs):=by
 cases v<;>(cases h;rename_i a xs e l i;calc⟨_,_,rfl,by assumption⟩)
end DD
set_option maxHeartbeats 400000
namespace L2
open PySem PySem.Spec PyProof.Rows
def SK:R2:=λx y H Q=>match x,y with
 | .ref a,.int n=>∃v,H a=some (.lst [v])/\-1000<=n/\n<=1000/\∀p,H p=none->Q (.ref p) (upd H p (.lst (List.replicate n.toNat v)))
 |_,_=>False
theorem FK{α:Type}(n:Nat)(v:α):(List.replicate n [v]).flatten=List.replicate n v:=by
 induction n with
 |zero=>rfl
 |succ n a=>rw[List.replicate_succ,List.flatten_cons,a];rfl
theorem xH{v:V}{u:Value}(r:RelV v u):∀n:Nat,Vals (List.replicate n v) (List.replicate n u)
 |0=>.nil
 |n+1=>.cons r (xH r n)
section
variable {X:Cx}
theorem rP:fV X (binaryOp .Mult) SK:=by
 intro g s σ H x y v u Q I i j h
 cases x<;>cases y<;>first
  |calc(show False from h).elim
  |skip
 rename_i a n;obtain⟨w,l,A,B,q⟩:=h;obtain rfl:v=Value.ref a:=i;obtain⟨c,rfl⟩:∃c,u=Value.int n c:=j;obtain⟨_,C,k,m,d⟩:=I.aW a _ l;obtain⟨f,rfl,p⟩:=m.one;have r:([f]:List Value).toArray.size*n.toNat<=1000:=by simp;lia
 refine wpAny_binaryOp_repeat_ref (T:="list") (U:="int") ∅ ⟨_,d,rfl⟩ (λt=>typeIs_int t n c) noFill_list_mul F.fills_int_mul F.slot_int_rmul repeat_list F.slot_int_index.lookup
  (call_meets F.slot_int_rmul (typeIs_int s n c) F.entry_int_rmul (F.args_int_rmul_2 _ _) (lm_int_rmul_list_any n c a ([f]:List Value).toArray k none #[])
   ⟨d,rfl,⟨_,d,rfl⟩,call_meets F.slot_list_mul ⟨_,d,rfl⟩ F.entry_list_mul (F.args_list_mul_2 _ _)
    (lm_list_mul_any a ([f]:List Value).toArray k none #[] n c (by simp[Builtin.List.listFitsIndex];lia) () (by simp[Builtin.List.listTooLong,sizeLine];lia))
    ⟨d,?_⟩⟩)
 rw[listMul_foldl_if,FK];have z:H s.heap.objs.size=none:=I.aW.fresh (K' _);calc⟨V.ref s.heap.objs.size,_,I.laid (o:=.lst (List.replicate n.toNat w)) (a:=s.heap.objs.size) (λb o e=>J' _ e) (K' _) (show _/\_ from⟨?_,_,0,xH p _,T' _ rfl⟩),rfl,q _ z⟩;rw[List.length_replicate,sizeLine_eq];lia
end
end L2
namespace L2
open PySem PySem.Spec PyProof.Rows Builtin.Str
end L2
namespace L2
open PySem PySem.Spec PyProof.Rows Builtin.Str
end L2
set_option maxHeartbeats 4000000
namespace L2
open PySem
section
variable {X:Cx}
def Yf(K:W.Frag):List V->Hp->VK->Prop:=λxs H Q=>∃(x:V) (C:Addr) (t:Value) (b:Bool),xs=[x,.ref C]/\gA K H x t/\W.kitOne K t (.ref C)=some b/\Q (.bl b) H
theorem FL{K:W.Frag}(c:X.K=K):ee X (.builtin "isinstance") (Yf K):=by
 subst c;intro a s σ H i j Q I r h;obtain⟨x,C,t,b,rfl,d,e,q⟩:=h;obtain⟨u,k,rfl,f,g⟩:=vals2 r
 cases g;calc ur I f d e λa=>⟨.bl b,H,I.tok _,rfl,q⟩
end
end L2
namespace L2
open PySem PySem.Spec PyProof.Rows
inductive FN:DV->Prop
 |bP:FN .bP
 |int (i:Int):FN (.int i)
 |str (x:Str):FN (.str x)
 |tup {ds:List DV}:(∀e∈ds,FN e)->FN (.tup ds)
 |lst {ds:List DV}:(∀e∈ds,FN e)->FN (.lst ds)
end L2
namespace L2
open PySem
variable {H:Hp}{σ:St}
theorem bO{t u:TS}{D:Ends}(h:∀N:St->Hp->Prop,N=u D->t {D with nx:=N} σ H):tI t u D σ H:=h _ rfl
theorem qM{c:TT}{t u:TS}{D:Ends}(h:∀T U:St->Hp->Prop,T=t D->U=u D->c σ H λb a=>if b=true then T σ a else U σ a):Cd c t u D σ H:=h _ _ rfl rfl
theorem Ov{i:Nat}{v:V}{Q:St->Hp->Prop}(h:Q (σ.set i (some v)) H):fS i v σ H Q:=h
theorem bX{N M:St->Hp->Prop}(e:N=M)(h:M σ H):N σ H:=e▸h
end L2
namespace DD
open PySem L2
variable {x:Addr}{Z:Addr->Prop}{H H':Hp}{vs:List V}
structure MD where
 M:Int
 ns:List Int
 row:List Int
 ds:List bG
structure Good(M:Int)(ns row:List Int)(ds:List bG):Prop where
 m2:2<=M
 Yg:M<=1000000000000
 l1:1<=ns.length
 l4:ns.length<=4
 r12:row.length<=12
 bn:∀z∈ns,0<=z/\z<M
 br:∀z∈row,0<=z/\z<M
 Wm:ds.length<=24
 ok:∀d∈ds,d.ok ns.length
abbrev MD.good(d:MD):Prop:=Good d.M d.ns d.row d.ds
instance:Inhabited MD:=⟨⟨0,[],[],[]⟩⟩
noncomputable def hE (Z:Addr->Prop) (H:Hp):Hp:=λx=> @ite _ (Z x) (Classical.propDecidable _) (some (.own 0)) (H x)
theorem fJ(h:¬Z x):hE Z H x=H x:=by unfold hE;rw[if_neg h]
theorem zC(h:Z x):hE Z H x=some (.own 0):=by unfold hE;rw[if_pos h]
theorem dG{o:HO}(h:hE Z H x=some o)(b:∀k,o≠.own k):¬Z x/\H x=some o:=by
 by_cases a:Z x
 ·rw[zC a]at h;cases h;exact absurd rfl (b 0)
 ·rw[fJ a]at h;calc⟨a,h⟩
theorem A7{o:HO}(h:Z x):hE Z (upd H x o)=hE Z H:=by
 funext b;by_cases a:Z b
 ·rw[zC a,zC a]
 ·rw[fJ a,fJ a,av (λe:b=x=>a (e▸h))]
def Cv(H H':Hp):Prop:=∀b o,H b=some o->(∀k,o≠.own k)->H' b=some o
theorem _root_.L2.au.cv(s:au H H'):Cv H H':=λb o e _=>s b o e
def soft:HO->Prop
 | .lst _=>True
 | .dK _=>True
 |_=>False
def Fr(Z:Addr->Prop)(H H':Hp):Prop:=∀b o,H b=some o->(Z b->¬soft o)->H' b=some o
theorem Fr.refl:Fr Z H H:=λ_ _ e _=>e
theorem Fr.trans{c d:Hp}(a:Fr Z H c)(b:Fr Z c d):Fr Z H d:=λc o e n=>b c o (a c o e n) n
theorem _root_.L2.au.fr(s:au H H'):Fr Z H H':=λb o e _=>s b o e
theorem Fr.at(a:Fr Z H H'){b:Addr}{o:HO}(e:H b=some o)(h:¬Z b):H' b=some o:=a b o e λz=>absurd z h
theorem Fr.lV(a:Fr Z H H'){b:Addr}{o:HO}(e:H b=some o)(h:¬soft o):H' b=some o:=a b o e λ_=>h
theorem Fr.upd{b:Hp}(a:Fr Z H b){x:Addr}{o u:HO}(h:Z x)(f:b x=some u)(g:soft u):Fr Z H (upd b x o):=λc v e n=>by
 by_cases z:c=x
 ·subst z;have d:=a c v e n;rw[f] at d
  cases d;exact absurd g (n h)
 ·rw[av z];calc a c v e n
theorem Fr.mono{c:Addr->Prop}{d:Hp}(a:Fr Z H d)(h:∀b,Z b->c b):Fr c H d:=λc o e n=>a c o e λz=>n (h c z)
theorem Fr.aP(h:Fr Z H H'):cg H H':=λb a e=>h b _ e λ_=>id
theorem Fr.hE(h:Fr Z H H'):Cv (hE Z H) (hE Z H'):=λb o e n=>by
 obtain⟨a,b⟩:=dG e n;rw[fJ a];calc h.at b a
theorem cU:Cv (hE Z H) H:=λb o e n=>(dG e n).2
theorem Cv.aP(h:Cv H H'):cg H H':=λb a e=>h b _ e (λk z=>by cases z)
theorem _root_.L2.HD.cv{H H':Hp}(s:Cv H H'){n:Nat}{x:V}{d:DV}(h:HD H n x d):HD H' n x d:=by
 induction h with
 |bP=>calc .bP
 |bl b=>calc .bl b
 |int i=>calc .int i
 |str x=>calc .str x
 |tup e l i a=>calc .tup (s _ _ e (λk z=>by cases z)) l a
 |lst e l i a=>calc .lst (s _ _ e (λk z=>by cases z)) l a
 |dict e=>calc .dict (s _ _ e (λk z=>by cases z))
def eE(H:Hp)(n:Nat)(vs:List V)(a:List DV):Prop:=vs.length=a.length/\∀(i:Nat) v d,vs[i]?=some v->a[i]?=some d->HD H n v d
theorem eE.cv(s:Cv H H'){n:Nat}{vs:List V}{a:List DV}(h:eE H n vs a):eE H' n vs a:=⟨h.1,λi v d a b=>(h.2 i v d a b).cv s⟩
theorem eE.nil{n:Nat}:eE H n [] []:=⟨rfl,λi v d a=>by simp at a⟩
theorem eE.app{n:Nat}{us:List V}{a b:List DV}(h:eE H n vs a)(g:eE H n us b):eE H n (vs++us) (a++b):=by
 calc⟨by simp[h.1,g.1],λi v d a b=>?_⟩;by_cases c:i<vs.length
 ·rw[List.getElem?_append_left c]at a;rw[List.getElem?_append_left (by rw[<-h.1];calc c)]at b;exact h.2 i _ _ a b
 ·rw[List.getElem?_append_right ()]at a;rw[List.getElem?_append_right (by rw[<-h.1];lia),<-h.1]at b;calc g.2 _ _ _ a b
theorem eE.one{H:Hp}{n:Nat}{v:V}{d:DV}(h:HD H n v d):eE H n [v] [d]:=by
 refine⟨rfl,λi u e a b=>?_⟩
 cases i with
 |zero=>simp at a b;subst a b;calc h
 |succ i=>simp at a
theorem eE.snoc{H:Hp}{n:Nat}{vs:List V}{a:List DV}{v:V}{d:DV}(h:eE H n vs a)(g:HD H n v d):eE H n (vs++[v]) (a++[d]):=h.app (.one g)
theorem eE.set{n:Nat}{c:List DV}{v:V}{d:DV}(h:eE H n vs c)(g:HD H n v d)(k:Nat):eE H n (vs.set k v) (c.set k d):=by
 calc⟨by simp[h.1],λi u e a b=>?_⟩;rw[List.getElem?_set]at a b;by_cases f:k=i
 ·rw[if_pos f] at a b;split at a
  ·rw[if_pos (by rw[<-h.1];assumption)]at b;cases a;cases b;exact g
  ·cases a
 ·rw[if_neg f]at a b;calc h.2 i u e a b
theorem eE.ints{H:Hp}{n:Nat}(ns:List Int):eE H n (ns.map V.int) (ns.map DV.int):=by
 calc⟨nofun,λi v d a b=>?_⟩;rw[List.getElem?_map]at a b
 cases c:ns[i]? with
 |none=>rw[c]at a;cases a
 |some z=>rw[c]at a b;cases a;cases b;calc .int z
theorem eE.iZ{n:Nat}{ns:List Int}(h:eE H n vs (ns.map DV.int)):vs=ns.map V.int:=by
 apply List.ext_getElem (by simpa using h.1);intro j c a;have b:j<ns.length:=by simpa using a
 have:=h.2 j vs[j] (.int ns[j]) nofun (by simp[b]);simp only[List.getElem_map];generalize vs[j]=y at this
 cases this;rfl
theorem eE.get{n:Nat}{a:List DV}(h:eE H n vs a){i:Nat}{d:DV}(e:a[i]?=some d):∃v,vs[i]?=some v/\HD H n v d:=by
 have b:i<a.length:=(List.getElem?_eq_some_iff.mp e).1;have a:i<vs.length:=by rw[h.1];exact b
 calc⟨vs[i],nofun,h.2 i _ _ nofun e⟩
inductive CO where
 |l (ds:List DV)|d (g:Int->Option DV) (n:Nat)
def OR(H:Hp):CO->HO->Prop
 | .l a,.lst vs=>eE H 4 vs a
 | .d g n,.dK a=>a.length<=n/\∀k:Int,match g k with
  |none=>fW a (Sum.inl k)=none
  |some d=>∃v,fW a (Sum.inl k)=some v/\HD H 4 v d
 |_,_=>False
theorem OR.cv{H H':Hp}(s:Cv H H'){c:CO}{o:HO}(h:OR H c o):OR H' c o:=by
 cases c with
 |l a=>
  cases o with
  |lst vs=>calc eE.cv s h
  |_=>calc aas h
 |d g n=>
  cases o with
  |dK a=>
   calc⟨h.1,λk=>?_⟩;have:=h.2 k;revert this
   cases g k with
   |none=>calc id
   |some d=>calc λ⟨v,e,a⟩=>⟨v,e,a.cv s⟩
  |_=>calc aas h
def FP(n:Nat->Nat)(ad:Nat->Nat->Addr)(b:Addr):Prop:=∃t i,i<n t/\b=ad t i
structure dH(F:Addr->Prop)(H:Hp)(n:Nat->Nat)(ad:Nat->Nat->Addr)(ct:Nat->Nat->CO):Prop where
 inj:∀t i t' i',i<n t->i'<n t'->ad t i=ad t' i'->t=t'/\i=i'
 out:∀t i,i<n t->¬F (ad t i)
 IH:∀t i,i<n t->∃o,H (ad t i)=some o/\OR (hE (λb=>F b\/FP n ad b) H) (ct t i) o
def setC(ct:Nat->Nat->CO)(t i:Nat)(c:CO):Nat->Nat->CO:=λt' a=>if t'=t/\a=i then c else ct t' a
section
variable {F:Addr->Prop}{H H':Hp}{n:Nat->Nat}{ad:Nat->Nat->Addr}{ct ct':Nat->Nat->CO}
theorem dH.keep(h:dH F H n ad ct)(a:Fr F H H'):dH F H' n ad ct:=
 ⟨h.inj,h.out,λt i c=>by
  obtain⟨o,e,r⟩:=h.IH t i c;calc⟨o,a.at e (h.out t i c),r.cv (a.mono λb z=>.inl z).hE⟩⟩
theorem dH.same(h:dH F H n ad ct)(s:au H H'):dH F H' n ad ct:=h.keep s.fr
theorem dH.congr(h:dH F H n ad ct)(e:∀t i,i<n t->ct t i=ct' t i):dH F H n ad ct':=
 ⟨h.inj,h.out,λt i a=>by rw[<-e t i a];calc h.IH t i a⟩
theorem dH.upd(h:dH F H n ad ct){t i:Nat}(a:i<n t){c:CO}{o:HO}(r:OR (hE (λb=>F b\/FP n ad b) H) c o):dH F (upd H (ad t i) o) n ad (setC ct t i c):=by
 have c:(λb=>F b\/FP n ad b) (ad t i):=.inr ⟨t,i,a,rfl⟩;calc⟨h.inj,h.out,λd f g=>?_⟩;rw[A7 c];by_cases e:d=t/\f=i
 ·obtain⟨rfl,rfl⟩:=e;exact⟨o,ab,by unfold setC;rw[if_pos ⟨rfl,rfl⟩];calc r⟩
 ·obtain⟨b,c,i⟩:=h.IH d f g;calc⟨b,?_,by unfold setC;rw[if_neg e];calc i⟩;rw[av (λz=>e (h.inj _ _ _ _ g a z))];calc c
theorem dH.lst(h:dH F H n ad ct){t i:Nat}(c:i<n t){a:List DV}(e:ct t i=.l a):∃vs,H (ad t i)=some (.lst vs)/\eE (hE (λb=>F b\/FP n ad b) H) 4 vs a:=by
 obtain⟨o,d,r⟩:=h.IH t i c;rw[e]at r
 cases o with
 |lst vs=>calc⟨vs,d,r⟩
 |_=>calc r.elim
theorem dH.Yh(h:dH F H n ad ct){t i:Nat}(c:i<n t){g:Int->Option DV}{N:Nat}(e:ct t i=.d g N):∃a,H (ad t i)=some (.dK a)/\OR (hE (λb=>F b\/FP n ad b) H) (.d g N) (.dK a):=by
 obtain⟨o,f,r⟩:=h.IH t i c;rw[e]at r
 cases o with
 |dK vs=>calc⟨vs,f,r⟩
 |_=>calc r.elim
theorem dH.app(h:dH F H n ad ct){t i:Nat}(a:i<n t){c:List DV}(e:ct t i=.l c){vs:List V}(j:H (ad t i)=some (.lst vs)){us:List V}{d:List DV}(g:eE (hE (λb=>F b\/FP n ad b) H) 4 us d):
  dH F (L2.upd H (ad t i) (.lst (vs++us))) n ad (setC ct t i (.l (c++d))):=by
 obtain⟨b,f,r⟩:=h.lst a e;rw[j]at f
 cases f;calc h.upd a (show eE _ 4 _ _ from r.app g)
theorem dH.set(h:dH F H n ad ct){t i:Nat}(a:i<n t){c:List DV}(e:ct t i=.l c){vs:List V}(j:H (ad t i)=some (.lst vs)){k:Nat}{v:V}{d:DV}(g:HD (hE (λb=>F b\/FP n ad b) H) 4 v d):
  dH F (L2.upd H (ad t i) (.lst (vs.set k v))) n ad (setC ct t i (.l (c.set k d))):=by
 obtain⟨b,f,r⟩:=h.lst a e;rw[j]at f
 cases f;calc h.upd a (show eE _ 4 _ _ from r.set g k)
theorem OR.soft{c:CO}{o:HO}(h:OR H c o):soft o:=by
 cases c<;>cases o<;>first|trivial|calc aas h
theorem dH.soft(h:dH F H n ad ct){t i:Nat}(a:i<n t):∃o,H (ad t i)=some o/\DD.soft o:=by
 obtain⟨o,e,r⟩:=h.IH t i a;calc⟨o,e,r.soft⟩
theorem dH.fp(h:dH F H n ad ct){b:Addr}(a:FP n ad b):∃o,H b=some o/\DD.soft o:=by
 obtain⟨t,i,c,rfl⟩:=a;calc h.soft c
theorem dH.ne(h:dH F H n ad ct){b:Addr}{o:HO}(e:H b=some o)(c:¬DD.soft o):¬FP n ad b:=λz=>by
 obtain⟨u,a,d⟩:=h.fp z;rw[e]at a;cases a;calc c d
theorem dH.ht(h:dH F H n ad ct)(c:∀b,F b->∃o,H b=some o/\DD.soft o){m:Nat}{x:V}{d:DV}(g:HT H m x d):HD (DD.hE (λb=>F b\/FP n ad b) H) m x d:=by
 calc HT.hd (g.aH λb d e=>?_);rw[fJ]
 ·exact e
 ·rintro(z | z)
  ·obtain⟨o,a,f⟩:=c b z;rw[e]at a;cases a;exact f
  ·calc h.ne e id z
end
end DD
namespace DD
open PySem L2
variable {B i:Nat}
def _root_.List.bq{α:Type}(l:List α)(d:α):α:=l.getD (l.length-1) d
theorem getD_at{α:Type}{l:List α}{x d:α}(h:l[i]?=some x):l.getD i d=x:=by rw[List.getD_eq_getElem?_getD,h];rfl
theorem aQ{α:Type}{l:List α}{d:α}(h:i<l.length):l[i]?=some (l.getD i d):=by rw[List.getD_eq_getElem?_getD,dw h];rfl
theorem getD_mem{α:Type}{l:List α}{d:α}(h:i<l.length):l.getD i d∈l:=aaa (aQ h)
theorem rQ{α:Type}{l:List α}{x d:α}:(l++[x]).bq d=x:=by
 unfold List.bq;calc getD_at nofun
theorem fg{α:Type}{l:List α}{d:α}(h:1<=l.length):l.bq d∈l:=getD_mem ()
theorem jG{α:Type}{l:List α}{d:α}(h:1<=l.length):l[l.length-1]?=some (l.bq d):=aQ ()
structure MS where
 dN:List (List Int×List Int)
 wp:List (List Int)
 hr:List (List Int)
structure WY where
 say:List Int
 snd:List (Option (Int×Int))
 dj:List (Option (Int×Int))
structure RS where
 picks:List (Int×Int)
 mm:Nat->MS
 ww:Nat->WY
structure NT where
 ms:List MD
 ws:List (Int×Int×Str)
def pairD(p:Int×Int):DV:=.tup [.int p.1,.int p.2]
def oH:Option (Int×Int)->DV
 |none=>.bP
 |some p=>pairD p
def qw(s:List Int×List Int):DV:=xE s.1 s.2
def NT.M(n:NT)(m:Nat):Int:=(n.ms.getD m default).M
def NT.nn(n:NT)(m:Nat):Nat:=(n.ms.getD m default).ns.length
def NT.ds(n:NT)(m:Nat):List bG:=(n.ms.getD m default).ds
def NT.w(n:NT)(w:Nat):Int×Int×Str:=n.ws.getD w (0,0,"")
def NT.outs(n:NT)(m:Int):List Nat:=(List.range n.ws.length).filter λi=>decide ((n.w i).1=m)
def NT.ins(n:NT)(m:Int):List Nat:=(List.range n.ws.length).filter λi=>decide ((n.w i).2.1=m)
def NT.goal(n:NT)(w:Nat):Nat:=(n.w w).2.1.toNat
def NT.place(n:NT)(w:Nat):Nat:=(n.ins (n.w w).2.1).idxOf w
def RS.put(r:RS)(w:Nat)(x:Int)(s:Option (Int×Int)):RS:=
 {r with ww:=λk=>if k=w then⟨(r.ww w).say++[x],(r.ww w).snd++[s],(r.ww w).dj++[none]⟩ else r.ww k}
def RS.send(r:RS)(outs:List Nat)(ev:Int×Int):List (Int×Int)->RS
 | []=>r
 |p::a=>(if p.1.toNat<outs.length then r.put (outs.getD p.1.toNat 0) p.2 (some ev) else r).send outs ev a
def NT.work(n:NT)(r:RS)(w k:Nat):WS:=
 n0 (n.M (n.goal w)) (n.place w) ((r.ww w).say.getD k 0) (n.ds (n.goal w)) ((r.mm (n.goal w)).dN.bq ([],[])).1 ((r.mm (n.goal w)).dN.bq ([],[])).2
def NT.ev(n:NT)(r:RS)(w:Nat):Int×Int:=((n.goal w:Nat),((r.mm (n.goal w)).dN.length:Nat))
def NT.gb(n:NT)(r:RS)(w k:Nat):List Int:=
 let m:=n.goal w
 let a:=(r.mm m).hr.bq (List.replicate n.ms.length 0)
 let b:=match (r.ww w).snd.getD k none with
  |none=>a
  |some (s,c)=>List.zipWith max a ((r.mm s.toNat).hr.getD (c-1).toNat [])
 b.set m (n.ev r w).2
def RS.step(n:NT)(r:RS)(w k:Nat):RS:=
 let m:=n.goal w
 let res:=n.work r w k
 {picks:=r.picks++[((w:Int),(k:Int))]
  mm:=λi=>if i=m then⟨(r.mm m).dN++[(res.ns,res.row)],(r.mm m).wp++[(r.mm m).wp.bq []++res.words],(r.mm m).hr++[n.gb r w k]⟩ else r.mm i
  ww:=λi=>if i=w then {(r.ww w) with dj:=(r.ww w).dj.set k (some (n.ev r w))} else r.ww i}
def RS.pick(n:NT)(r:RS)(w k:Nat):RS:=(r.step n w k).send (n.outs (n.goal w)) (n.ev r w) (n.work r w k).cJ
def RS.kg(r:RS):List (Int×Int)->RS
 | []=>r
 |p::a=>(r.put p.1.toNat p.2 none).kg a
def RS.new(n:NT):RS:=⟨[],λm=>⟨[((n.ms.getD m default).ns,(n.ms.getD m default).row)],[[]],[]⟩,λ_=>⟨[],[],[]⟩⟩
def RS.begin(n:NT)(a:List (Int×Int)):RS:=(RS.new n).kg a
def jO(l:List (Option (Int×Int)))(k:Int):Option DV:=if 0<=k then(l.getD k.toNat none).map pairD else none
def RS.ct(r:RS):Nat->Nat->CO
 |0,_=>.l (r.picks.map pairD)
 |1,m=>.l ((r.mm m).dN.map qw)
 |2,m=>.l ((r.mm m).wp.map λw=>.int (w.length:Nat))
 |3,m=>.l (((r.mm m).wp.bq []).map .int)
 |4,w=>.l ((r.ww w).say.map .int)
 |5,w=>.l ((r.ww w).snd.map oH)
 |_,w=>.l ((r.ww w).dj.map oH)
def NT.n(n:NT):Nat->Nat
 |0=>1
 |1=>n.ms.length
 |2=>n.ms.length
 |3=>n.ms.length
 |4=>n.ws.length
 |5=>n.ws.length
 |6=>n.ws.length
 |_=>0
structure NT.Ok(n:NT):Prop where
 Kb:n.ms.length<=5
 Yj:1<=n.ms.length
 tR:n.ws.length<=10
 good:∀d∈n.ms,d.good
 Yk:∀w∈n.ws,0<=w.1/\w.1<n.ms.length/\0<=w.2.1/\w.2.1<n.ms.length/\(w.2.2="row"\/w.2.2="heap")
structure Kc(M:Int)(nn:Nat)(s:List Int×List Int):Prop where
 ln:s.1.length=nn
 bn:∀z∈s.1,0<=z/\z<M
 lr:s.2.length<=12
structure RS.Ok(n:NT)(r:RS):Prop where
 lw:∀m,m<n.ms.length->(r.mm m).dN.length=(r.mm m).wp.length
 lh:∀m,m<n.ms.length->(r.mm m).dN.length=(r.mm m).hr.length+1
 so:∀m,m<n.ms.length->∀s∈(r.mm m).dN,Kc (n.M m) (n.nn m) s
 hl:∀m,m<n.ms.length->∀h∈(r.mm m).hr,h.length=n.ms.length
 ls:∀w,w<n.ws.length->(r.ww w).say.length=(r.ww w).snd.length
 lk:∀w,w<n.ws.length->(r.ww w).say.length=(r.ww w).dj.length
 sd:∀w,w<n.ws.length->∀s c,some (s,c)∈(r.ww w).snd->0<=s/\s<n.ms.length/\1<=c/\c<=(r.mm s.toNat).hr.length
 bp:∀m,m<n.ms.length->(r.mm m).dN.length<=r.picks.length+1
 bw:∀m,m<n.ms.length->∀w∈(r.mm m).wp,w.length<=24*r.picks.length
 bs:∀w,w<n.ws.length->(r.ww w).say.length<=20+24*r.picks.length
 SM:∀m,m<n.ms.length->∀u∈(r.mm m).wp,u <+:(r.mm m).wp.bq []
theorem xI{M way said:Int}{n:Int}:∀(f:Nat) (b:List bG) (s:WS),(∀d∈b,d.ok n)->(∀p∈s.cJ,0<=p.1)->∀p∈(xF M way said f b s).cJ,0<=p.1
 |0,_,s,_,h=>h
 |f+1,[],s,_,h=>h
 |f+1,d::r,s,c,h=>by
  calc xI f _ _ (λe b=>c e (aab _ (List.mem_of_mem_drop b))) ?_;intro p a;have a:p∈s.cJ++g9 ((d.vals.map (fH M way said s.ns s.row)).getD 0 0) d:=a;rcases List.mem_append.mp a with a|a
  ·exact h p a
  ·have g:=c d (aaj ..)
   cases d with
   |send j v=>
    simp only[g9,List.mem_singleton]at a;subst a;calc g.1
   |_=>simp only[g9,List.not_mem_nil]at a
theorem A8{M way said:Int}:∀(f:Nat) (a:List bG) (s:WS),(xF M way said f a s).cJ.length<=s.cJ.length+a.length/\(xF M way said f a s).words.length<=s.words.length+a.length/\(xF M way said f a s).ns.length=s.ns.length
 |0,_,s=>⟨Nat.le_add_right ..,Nat.le_add_right ..,rfl⟩
 |f+1,[],s=>⟨K' _,K' _,rfl⟩
 |f+1,d::r,s=>by
  obtain⟨a,b,c⟩:=A8 (M:=M) (way:=way) (said:=said) f (r.drop (me M way said d s).toNat) (fI M way said d s);have a:(fI M way said d s).cJ.length<=s.cJ.length+1:=by
   show(s.cJ++g9 _ d).length<=_
   cases d<;>simp[g9]
  have a:(fI M way said d s).words.length<=s.words.length+1:=by
   show(s.words++fZ _ d).length<=_
   cases d<;>simp[fZ]
  have a:(fI M way said d s).ns.length=s.ns.length:=oW;have a:(r.drop (me M way said d s).toNat).length<=r.length:=by simp
  refine⟨?_,?_,?_⟩
  ·show(xF M way said f _ _).cJ.length<=_;simp only[List.length_cons];lia
  ·show(xF M way said f _ _).words.length<=_;simp only[List.length_cons];lia
  ·show(xF M way said f _ _).ns.length=_;lia
theorem A9{M way said:Int}(c:0<M):∀(f:Nat) (e:List bG) (s:WS),(∀z∈s.ns,0<=z/\z<M)->s.row.length<=12->(∀z∈(xF M way said f e s).ns,0<=z/\z<M)/\(xF M way said f e s).row.length<=12
 |0,_,s,h,g=>⟨h,g⟩
 |f+1,[],s,h,g=>⟨h,g⟩
 |f+1,d::r,s,h,g=>by
  refine A9 c f _ _ ?_ ?_
  ·have b:∀y:Int,0<=y % M/\y % M < M:=λy=>⟨aaD _ (),aau _ c⟩
   have a:∀(j:Nat) (y:Int),(0<=y/\y<M)->∀z∈s.ns.set j y,0<=z/\z<M:=λj y k z l=>by
    rcases List.mem_or_eq_of_mem_set l with c|c
    ·exact h z c
    ·rw[c];exact k
   show ∀z∈jF M s.ns ((d.vals.map (fH M way said s.ns s.row)).getD 0 0) d,0<=z/\z<M
   cases d with
   |set i v=>calc a _ _ (b _)
   |add i v=>calc a _ _ (b _)
   |times i v=>calc a _ _ (b _)
   |_=>exact h
  ·show(nY s.row ((d.vals.map (fH M way said s.ns s.row)).getD 0 0) d).length<=12
   cases d with
   |put v=>
    simp only[nY];split
    ·simp;lia
    ·calc g
   |drop=>simp only[nY,List.length_tail];lia
   |_=>calc g
section
variable {n:NT}{r:RS}
theorem NT.Ok.gd(h:n.Ok){m:Nat}(a:m<n.ms.length):(n.ms.getD m default).good:=by
 calc h.good _ (getD_mem a)
theorem NT.Ok.wy(h:n.Ok){w:Nat}(a:w<n.ws.length):0<=(n.w w).1/\(n.w w).1<n.ms.length/\0<=(n.w w).2.1/\(n.w w).2.1<n.ms.length/\((n.w w).2.2="row"\/(n.w w).2.2="heap"):=by
 calc h.Yk _ (getD_mem a)
theorem NT.Ok.gP(h:n.Ok){w:Nat}(a:w<n.ws.length):n.goal w<n.ms.length:=by
 have:=h.wy a;unfold NT.goal;lia
theorem RS.Ok.vR(h:r.Ok n){m:Nat}(a:m<n.ms.length):1<=(r.mm m).dN.length:=by rw[h.lh m a];lia
theorem RS.Ok.last(h:r.Ok n){m:Nat}(a:m<n.ms.length):Kc (n.M m) (n.nn m) ((r.mm m).dN.bq ([],[])):=h.so m a _ (fg (h.vR a))
theorem qN(a:n.Ok)(h:r.Ok n){w:Nat}(c:w<n.ws.length)(k:Nat):Kc (n.M (n.goal w)) (n.nn (n.goal w)) ((n.work r w k).ns,(n.work r w k).row)/\(n.work r w k).cJ.length<=24/\(n.work r w k).words.length<=24/\∀p∈(n.work r w k).cJ,0<=p.1:=by
 have b:=a.gP c;have g:=a.gd b;have l:=h.last b;have a:(n.ds (n.goal w)).length<=24:=g.Wm;have b:0<n.M (n.goal w):=by have:=g.m2;show 0<(n.ms.getD (n.goal w) default).M;lia
 obtain⟨d,e,f⟩:=A8 (M:=n.M (n.goal w)) (way:=n.place w) (said:=(r.ww w).say.getD k 0) (n.ds (n.goal w)).length (n.ds (n.goal w)) ⟨((r.mm (n.goal w)).dN.bq ([],[])).1,((r.mm (n.goal w)).dN.bq ([],[])).2,[],[]⟩;obtain⟨h,i⟩:=A9 b (way:=n.place w) (said:=(r.ww w).say.getD k 0) (n.ds (n.goal w)).length (n.ds (n.goal w)) ⟨((r.mm (n.goal w)).dN.bq ([],[])).1,((r.mm (n.goal w)).dN.bq ([],[])).2,[],[]⟩ l.bn l.lr;have c:=xI (M:=n.M (n.goal w)) (way:=n.place w) (said:=(r.ww w).say.getD k 0) (n:=n.nn (n.goal w)) (n.ds (n.goal w)).length (n.ds (n.goal w)) ⟨((r.mm (n.goal w)).dN.bq ([],[])).1,((r.mm (n.goal w)).dN.bq ([],[])).2,[],[]⟩ g.ok (λp b=>by simp at b);refine⟨⟨?_,h,i⟩,?_,?_,c⟩
 ·exact f.trans l.ln
 ·exact Y' d (by simpa using a)
 ·calc Y' e (by simpa using a)
structure RS.tD(n:NT)(r:RS)(B:Nat):Prop where
 lw:∀m,m<n.ms.length->(r.mm m).dN.length=(r.mm m).wp.length
 lh:∀m,m<n.ms.length->(r.mm m).dN.length=(r.mm m).hr.length+1
 so:∀m,m<n.ms.length->∀s∈(r.mm m).dN,Kc (n.M m) (n.nn m) s
 hl:∀m,m<n.ms.length->∀h∈(r.mm m).hr,h.length=n.ms.length
 ls:∀w,w<n.ws.length->(r.ww w).say.length=(r.ww w).snd.length
 lk:∀w,w<n.ws.length->(r.ww w).say.length=(r.ww w).dj.length
 sd:∀w,w<n.ws.length->∀s c,some (s,c)∈(r.ww w).snd->0<=s/\s<n.ms.length/\1<=c/\c<=(r.mm s.toNat).hr.length
 bp:∀m,m<n.ms.length->(r.mm m).dN.length<=r.picks.length+1
 bw:∀m,m<n.ms.length->∀w∈(r.mm m).wp,w.length<=24*r.picks.length
 bs:∀w,w<n.ws.length->(r.ww w).say.length<=B
 SM:∀m,m<n.ms.length->∀u∈(r.mm m).wp,u <+:(r.mm m).wp.bq []
theorem RS.tD.ok(h:r.tD n B)(a:B<=20+24*r.picks.length):r.Ok n:=⟨h.lw,h.lh,h.so,h.hl,h.ls,h.lk,h.sd,h.bp,h.bw,λw b=>Y' (h.bs w b) a,h.SM⟩
theorem RS.tD.put(h:r.tD n B){w:Nat}{x:Int}{s:Option (Int×Int)}(g:∀a c,s=some (a,c)->0<=a/\a<n.ms.length/\1<=c/\c<=(r.mm a.toNat).hr.length):(r.put w x s).tD n (B+1):=by
 have e:∀k,(r.put w x s).ww k=if k=w then⟨(r.ww w).say++[x],(r.ww w).snd++[s],(r.ww w).dj++[none]⟩ else r.ww k:=λk=>rfl
 refine⟨h.lw,h.lh,h.so,h.hl,λv b=>?_,λv b=>?_,λv b a c d=>?_,h.bp,h.bw,λv b=>?_,h.SM⟩
 ·rw[e];split
  ·next z=>subst z;simp[h.ls v b]
  ·exact h.ls v b
 ·rw[e];split
  ·next z=>subst z;simp[h.lk v b]
  ·exact h.lk v b
 ·rw[e] at d;split at d
  ·next z=>
   subst z;rcases List.mem_append.mp d with d|d
   ·exact h.sd v b a c d
   ·simp at d;exact g a c d.symm
  ·exact h.sd v b a c d
 ·rw[e];split
  ·next z=>subst z;have:=h.bs v b;simp;lia
  ·have:=h.bs v b;lia
theorem RS.tD.mono{a:Nat}(h:r.tD n B)(b:B<=a):r.tD n a:={h with bs:=λw a=>Y' (h.bs w a) b}
theorem RS.tD.send{outs:List Nat}{ev:Int×Int}:∀(b:List (Int×Int)) {r:RS}{B:Nat},r.tD n B->(∀a c,some ev=some (a,c)->0<=a/\a<n.ms.length/\1<=c/\c<=(r.mm a.toNat).hr.length)->(r.send outs ev b).tD n (B+b.length)
 | [],r,B,h,_=>h
 |p::b,r,B,h,d=>by
  show((if p.1.toNat<outs.length then r.put (outs.getD p.1.toNat 0) p.2 (some ev) else r).send outs ev b).tD n _;have e:B+(p::b).length=B+1+b.length:=by simp;lia
  rw[e];split
  ·exact RS.tD.send b (h.put d) d
  ·calc RS.tD.send b (h.mono ()) d
theorem RS.qO{outs:List Nat}{ev:Int×Int}:∀(a:List (Int×Int)) {r:RS},(r.send outs ev a).mm=r.mm/\(r.send outs ev a).picks=r.picks
 | [],r=>⟨rfl,rfl⟩
 |p::a,r=>by
  show((if p.1.toNat<outs.length then r.put (outs.getD p.1.toNat 0) p.2 (some ev) else r).send outs ev a).mm=_/\((if p.1.toNat<outs.length then r.put (outs.getD p.1.toNat 0) p.2 (some ev) else r).send outs ev a).picks=_;split
  ·exact RS.qO a
  ·calc RS.qO a
theorem zD{u v w:List Int}(h:u <+:v):u <+:v++w:=by
 obtain⟨t,rfl⟩:=h;calc⟨t++w,nofun⟩
theorem xJ(o:n.Ok)(h:r.Ok n){w:Nat}(j:w<n.ws.length){k:Nat}:(n.gb r w k).length=n.ms.length:=by
 have p:=o.gP j;have m:((r.mm (n.goal w)).hr.bq (List.replicate n.ms.length 0)).length=n.ms.length:=by
  by_cases f:1<=(r.mm (n.goal w)).hr.length
  ·exact h.hl _ p _ (fg f)
  ·have e:(r.mm (n.goal w)).hr=[]:=by
    cases q:(r.mm (n.goal w)).hr with
    |nil=>rfl
    |cons a b=>rw[q]at f;simp at f
   rw[e];simp[List.bq]
 unfold NT.gb;simp only[List.length_set];split
 ·exact m
 ·next s c e=>
  have g:k<(r.ww w).snd.length:=by
   by_cases g:k<(r.ww w).snd.length
   ·exact g
   ·rw[List.getD_eq_getElem?_getD,List.getElem?_eq_none ()]at e;cases e
  have t:some (s,c)∈(r.ww w).snd:=by rw[<-e];exact getD_mem g
  obtain⟨u,v,x,y⟩:=h.sd w j s c t;have:=h.hl s.toNat () _ (getD_mem (l:=(r.mm s.toNat).hr) (i:=(c-1).toNat) (d:=[]) ());rw[List.length_zipWith,m,this];lia
theorem RS.Ok.step(t:n.Ok)(h:r.Ok n){w k:Nat}(p:w<n.ws.length):(r.step n w k).tD n (20+24*r.picks.length):=by
 have g:=t.gP p;obtain⟨A,F,G,H⟩:=qN t h p k;have j:∀i,(r.step n w k).mm i=if i=n.goal w then⟨(r.mm (n.goal w)).dN++[((n.work r w k).ns,(n.work r w k).row)],(r.mm (n.goal w)).wp++[(r.mm (n.goal w)).wp.bq []++(n.work r w k).words],(r.mm (n.goal w)).hr++[n.gb r w k]⟩ else r.mm i:=λi=>rfl
 have q:∀i,(r.step n w k).ww i=if i=w then {(r.ww w) with dj:=(r.ww w).dj.set k (some (n.ev r w))} else r.ww i:=λi=>rfl
 have x:(r.step n w k).picks.length=r.picks.length+1:=by show(r.picks++[_]).length=_;simp
 refine⟨λm f=>?_,λm f=>?_,λm f s b=>?_,λm f s b=>?_,λv o=>?_,λv o=>?_,λv o a c b=>?_,λm f=>?_,λm f u e=>?_,λv o=>?_,λm f u e=>?_⟩
 ·rw[j];split
  ·simp[h.lw _ g]
  ·exact h.lw m f
 ·rw[j];split
  ·simp[h.lh _ g]
  ·exact h.lh m f
 ·rw[j] at b;split at b
  ·next z=>
   subst z;rcases List.mem_append.mp b with b|b
   ·exact h.so _ g s b
   ·simp at b;subst b;exact A
  ·exact h.so m f s b
 ·rw[j] at b;split at b
  ·rcases List.mem_append.mp b with b | b
   ·exact h.hl _ g s b
   ·simp at b;subst b;exact xJ t h p
  ·exact h.hl m f s b
 ·rw[q];split
  ·exact h.ls w p
  ·exact h.ls v o
 ·rw[q];split
  ·simp[h.lk w p]
  ·exact h.lk v o
 ·have B:some (a,c)∈(r.ww v).snd:=by
   rw[q]at b;split at b
   ·next z=>subst z;exact b
   ·exact b
  obtain⟨C,D,E,y⟩:=h.sd v o a c B;calc⟨C,D,E,?_⟩;rw[j];split
  ·next z=>rw[z]at y;simp;lia
  ·exact y
 ·rw[j,x];split
  ·have:=h.bp _ g;simp;lia
  ·have:=h.bp _ f;lia
 ·rw[x];rw[j] at e;split at e
  ·rcases List.mem_append.mp e with e | e
   ·have:=h.bw _ g u e;lia
   ·simp at e;subst e;have:=h.bw _ g _ (fg (l:=(r.mm (n.goal w)).wp) (d:=[]) (by rw[<-h.lw _ g];calc h.vR g));simp;lia
  ·have:=h.bw _ f u e;lia
 ·rw[q];split
  ·exact h.bs w p
  ·exact h.bs v o
 ·rw[j] at e ⊢;split at e
  ·next z=>
   rw[if_pos z];show u <+:((r.mm (n.goal w)).wp++[_]).bq [];rw[rQ];rcases List.mem_append.mp e with e|e
   ·exact zD (h.SM _ g u e)
   ·simp at e;subst e;exact List.prefix_refl _
  ·next z=>rw[if_neg z];calc h.SM m f u e
theorem RS.Ok.pick(a:n.Ok)(h:r.Ok n){w k:Nat}(b:w<n.ws.length):(r.pick n w k).Ok n/\(r.pick n w k).picks=r.picks++[((w:Int),(k:Int))]:=by
 have d:=a.gP b;obtain⟨c,f,g,i⟩:=qN a h b k;have s:=RS.tD.send (outs:=n.outs (n.goal w)) (ev:=n.ev r w) (n.work r w k).cJ (h.step a b (k:=k)) (λa c e=>by
  cases e;refine⟨(),(),?_,?_⟩
  ·have:=h.vR d;lia
  ·have a:(r.step n w k).mm (n.goal w)=⟨(r.mm (n.goal w)).dN++[((n.work r w k).ns,(n.work r w k).row)],(r.mm (n.goal w)).wp++[(r.mm (n.goal w)).wp.bq []++(n.work r w k).words],(r.mm (n.goal w)).hr++[n.gb r w k]⟩:=if_pos rfl;rw[show((n.goal w:Nat):Int).toNat=n.goal w from Int.toNat_natCast _,a,h.lh _ d];simp)
 have a:=(RS.qO (outs:=n.outs (n.goal w)) (ev:=n.ev r w) (n.work r w k).cJ (r:=r.step n w k)).2;calc⟨s.ok ?_,a⟩;rw[a];show _<=20+24*(r.picks++[_]).length;simp;lia
end
end DD
namespace L2
open PySem PySem.Spec PyProof.Rows Builtin Builtin.Str
section
variable {X:Cx}
theorem xK{i j l:Nat}{x y z:Str}{d e f a:Pos}{k:Nat}(g:X.calm=true)(b:X.N.Nodup)(h:X.N[i]?=some x)(m:X.N[j]?=some y)(n:X.N[l]?=some z)(o:Loc X.env.scope x)(p:Loc X.env.scope y)(q:Loc X.env.scope z)
  (r:X.fn x=true\/X.env.scope.names.lookup x=some .local:=by grind) (s:X.fn y=true\/X.env.scope.names.lookup y=some .local:=by grind) (c:X.fn z=true\/X.env.scope.names.lookup z=some .local:=by grind):
  PG X (.Tuple [.Name x d,.Name y e,.Name z f] k a) (Eg X.K 3 (lZ (fS i) (lZ (fS j) (lZ (fS l) Ef)))):=Eh g (km (aN b h o r) (km (aN b m p s) (km (aN b n q c) Au)))
end
end L2
namespace L2
open PySem PyProof.Rows
theorem Wo{a b:Nat}(h:a+64<b):a+1<b:=by lia
section
variable {X:Cx}
def zE(z:Int):Value->Bool
 | .int i _=>i==z
 |_=>false
theorem rR:∀{ns:List Int}{us:List Value},Vals (ns.map V.int) us->us.length=ns.length/\∀(i:Nat) u z,us[i]?=some u->ns[i]?=some z->∃t,u=.int z t
 | [],_,.nil=>⟨rfl,λi u z h=>by simp at h⟩
 |n::ns,_,.cons r t=>by
  obtain⟨l,h⟩:=rR t;refine⟨by simp[l],λi u z a b=>?_⟩
  cases i with
  |zero=>simp at a b;subst a b;calc r
  |succ i=>calc h i u z (by simpa using a) (by simpa using b)
def Ke:V->List V->Hp->VK->Prop:=λx vs H Q=>∃(a:Addr) (ns:List Int) (j:Nat) (z:Int),x=.ref a/\vs=[.int z]/\H a=some (.lst (ns.map V.int))/\ns[j]?=some z/\(∀i y,i<j->ns[i]?=some y->y≠z)/\Q (.int j) H
theorem uP:IC X "list.index" Ke:=by
 intro k s σ H x O v P Q I r D h;obtain⟨a,d,j,z,rfl,rfl,E,l,G,q⟩:=h
 cases r;obtain⟨u,rfl,o,rfl⟩:=D.one;obtain⟨b,r,J,k⟩:=I.list (aO.of E);obtain⟨h,K⟩:=rR r;have h:j<d.length:=(List.getElem?_eq_some_iff.mp l).1;have p:(d.map V.int).length<=sizeLine:=k;rw[List.length_map]at p;obtain⟨⟨r,s,h,L⟩,n,w,A,B,e⟩:=id J;simp only at A B e;subst A B e;have h:j<b.length:=by lia
 have c:∀m (f:m<b.length),∃y t,d[m]?=some y/\b[m]=.int y t:=λm f=>by
  have C:m<d.length:=by lia
  obtain⟨t,e⟩:=K m b[m] d[m] nofun nofun;exact⟨d[m],t,nofun,e⟩
 refine call_meets PySem.F.slot_list_index ⟨_,w,rfl⟩ PySem.F.entry_list_index (PySem.F.args_list_index_2 _ _) (SeqAt.list_indexAt a b.toArray n none L (.int z o) (zE z) j (by simpa using h) (by rw[sizeLine_eq]at p;lia) ?_ ?_) ⟨w,λy M=>?_,?_⟩
 ·obtain⟨y,t,g,i⟩:=c j h;rw[l] at g
  cases g;simp[i,zE]
 ·intro m f a;have C:m < b.length:=by simpa using f
  obtain⟨y,t,g,i⟩:=c m C;have:=G m y a g;simp[i,zE,this]
 ·have N:y ∈ b:=by simpa using M
  obtain⟨m,f,rfl⟩:=List.getElem_of_mem N;obtain⟨y,t,g,i⟩:=c m f;rw[i];exact SeqAt.EqAt.int_int y t z o
 ·calc⟨.int _,H,I.tok _,⟨_,rfl⟩,q⟩
end
end L2
namespace L2
open PySem PySem.Spec PyProof.Rows
section
def SN(K:W.Frag):V->Option Int->Option Int->Hp->VK->Prop:=λx b c H Q=>match x with
 | .ref a=>∃xs,aO K H a xs/\∀p,H p=none->Q (.ref p) (upd H p (.lst (eD xs b c)))
 |_=>False
theorem Yl{X:Cx}:JC X (SN X.K):=by
 intro a s σ H x v b c d e f Q I g i j k h
 cases x<;>first
  |calc(show False from h).elim
  |skip
 obtain⟨l,m,q⟩:=h;calc AK a s σ H _ v b c d e f Q I g i j k ⟨_,l,rfl,m,q⟩
theorem Ow{X:Cx}{e:Expr}{b:TE}{c d:Option Expr}{f g:TO}{a h:Pos}(i:PE X e b)(j:PO X c f)(k:PO X d g):PE X (.Subscript e (.Slice c d none h) a) (RZ (SN X.K) b f g):=xc Yl i j k
theorem Kf{xs:List V}{i j:Nat}:(eD xs (some (i:Int)) (some (j:Int))).length<=j-i:=by
 unfold eD;rw[show HT.ei xs.length 0 (some (i:Int))=min i xs.length from HT.AF _ _ i,show HT.ei xs.length xs.length (some (j:Int))=min j xs.length from HT.AF _ _ j,List.length_take];calc Y' (Nat.min_le_left _ _) ?_;rcases Nat.le_total xs.length i with h|h
 ·rw[Nat.min_eq_right h,Nat.sub_eq_zero_of_le (Nat.min_le_right _ _)];exact U' _
 ·rw[Nat.min_eq_left h];calc Nat.sub_le_sub_right (Nat.min_le_left _ _) _
theorem Ba{xs:List V}{a b:Option Int}{v:V}(h:v∈eD xs a b):v∈xs:=List.mem_of_mem_drop (List.mem_of_mem_take h)
end
section
variable {a dx:Addr}{Q:Bool->Hp->Prop}{X:Cx}{H:Hp}{f:Str}{v:V}{K:W.Frag}
theorem fld{C:Addr}{b:List (Str×V)}{Q:V->Prop}(h:H a=some (.ins C dx b))(c:vt K C)(n:cR K C f)(l:b.lookup f=some v)(q:Q v):∃e d j g i,V.ref a=.ref e/\H e=some (.ins d j g)/\vt K d/\cR K d f/\g.lookup f=some i/\Q i:=⟨a,C,dx,b,v,rfl,h,c,n,l,q⟩
theorem mth{C:Addr}{b:List (Str×V)}{Q:Addr->Prop}(h:H a=some (.ins C dx b))(l:b.lookup f=none)(q:Q a):∃c e d,V.ref a=.ref c/\H c=some (.ins C e d)/\d.lookup f=none/\Q c:=⟨a,dx,b,rfl,h,l,q⟩
theorem eJ{C:Addr}{b:List (Str×V)}{Q:V->Prop}(h:H a=some (.ins C dx b))(c:vt K C)(n:cR K C f)(l:b.lookup f=some v)(q:Q v):∃e d j g i,a=e/\H e=some (.ins d j g)/\vt K d/\cR K d f/\g.lookup f=some i/\Q i:=⟨a,C,dx,b,v,rfl,h,c,n,l,q⟩
theorem eP{C:Addr}{b:List (Str×V)}{Q:Addr->Prop}(h:H a=some (.ins C dx b))(l:b.lookup f=none)(q:Q a):∃c e d,a=c/\H c=some (.ins C e d)/\d.lookup f=none/\Q c:=⟨a,dx,b,rfl,h,l,q⟩
theorem tE{x y:V}{P:V->V->Prop}(h:bQ K H a [x,y])(q:P x y):∃b xs,V.ref a=.ref b/\bQ K H b xs/\xs.length=2/\∃v r,xs=v::r/\∃c d,r=c::d/\d=[]/\P v c:=⟨a,_,rfl,h,rfl,_,_,rfl,_,_,rfl,rfl,q⟩
theorem un3{x y z:V}{P:V->V->V->Prop}(h:bQ K H a [x,y,z])(q:P x y z):∃d xs,V.ref a=.ref d/\bQ K H d xs/\xs.length=3/\∃v r,xs=v::r/\∃e f,r=e::f/\∃b c,f=b::c/\c=[]/\P v e b:=⟨a,_,rfl,h,rfl,_,_,rfl,_,_,rfl,_,_,rfl,rfl,q⟩
theorem gC{A B R:Prop}(a:A)(b:B)(r:R):A/\B/\R:=⟨a,b,r⟩
theorem bA{α:Type}{A R:α->Prop}(x:α)(a:A x)(r:R x):∃x,A x/\R x:=⟨x,a,r⟩
theorem gw{α:Type}{A B R:α->Prop}(x:α)(a:A x)(b:B x)(r:R x):∃x,A x/\B x/\R x:=⟨x,a,b,r⟩
theorem CL{α:Type}{A B C R:α->Prop}(x:α)(a:A x)(b:B x)(ch:C x)(r:R x):∃x,A x/\B x/\C x/\R x:=⟨x,a,b,ch,r⟩
theorem zF{α β:Type}{A R:α->β->Prop}(x:α)(y:β)(a:A x y)(r:R x y):∃x y,A x y/\R x y:=⟨x,y,a,r⟩
theorem cD{α β:Type}{A B R:α->β->Prop}(x:α)(y:β)(a:A x y)(b:B x y)(r:R x y):∃x y,A x y/\B x y/\R x y:=⟨x,y,a,b,r⟩
theorem tS{α β:Type}{A B C R:α->β->Prop}(x:α)(y:β)(a:A x y)(b:B x y)(ch:C x y)(r:R x y):∃x y,A x y/\B x y/\C x y/\R x y:=⟨x,y,a,b,ch,r⟩
theorem kD{α β:Type}{A B C D R:α->β->Prop}(x:α)(y:β)(a:A x y)(b:B x y)(ch:C x y)(c:D x y)(r:R x y):∃x y,A x y/\B x y/\C x y/\D x y/\R x y:=⟨x,y,a,b,ch,c,r⟩
theorem Ym{α β γ:Type}{A B R:α->β->γ->Prop}(x:α)(y:β)(z:γ)(a:A x y z)(b:B x y z)(r:R x y z):∃x y z,A x y z/\B x y z/\R x y z:=⟨x,y,z,a,b,r⟩
theorem SO{α β γ:Type}{A B C R:α->β->γ->Prop}(x:α)(y:β)(z:γ)(a:A x y z)(b:B x y z)(ch:C x y z)(r:R x y z):∃x y z,A x y z/\B x y z/\C x y z/\R x y z:=⟨x,y,z,a,b,ch,r⟩
theorem SQ{α β γ:Type}{A B C D R:α->β->γ->Prop}(x:α)(y:β)(z:γ)(a:A x y z)(b:B x y z)(ch:C x y z)(c:D x y z)(r:R x y z):∃x y z,A x y z/\B x y z/\C x y z/\D x y z/\R x y z:=⟨x,y,z,a,b,ch,c,r⟩
theorem fK{α β γ δ:Type}{A B R:α->β->γ->δ->Prop}(x:α)(y:β)(z:γ)(u:δ)(a:A x y z u)(b:B x y z u)(r:R x y z u):∃x y z u,A x y z u/\B x y z u/\R x y z u:=⟨x,y,z,u,a,b,r⟩
theorem Yn{α β γ δ:Type}{A B C R:α->β->γ->δ->Prop}(x:α)(y:β)(z:γ)(u:δ)(a:A x y z u)(b:B x y z u)(ch:C x y z u)(r:R x y z u):∃x y z u,A x y z u/\B x y z u/\C x y z u/\R x y z u:=⟨x,y,z,u,a,b,ch,r⟩
theorem Ox{α β γ δ:Type}{A B C D R:α->β->γ->δ->Prop}(x:α)(y:β)(z:γ)(u:δ)(a:A x y z u)(b:B x y z u)(ch:C x y z u)(c:D x y z u)(r:R x y z u):∃x y z u,A x y z u/\B x y z u/\C x y z u/\D x y z u/\R x y z u:=⟨x,y,z,u,a,b,ch,c,r⟩
theorem qx{α β γ δ:Type}{A B C D E R:α->β->γ->δ->Prop}(x:α)(y:β)(z:γ)(u:δ)(a:A x y z u)(b:B x y z u)(ch:C x y z u)(c:D x y z u)(d:E x y z u)(r:R x y z u):∃x y z u,A x y z u/\B x y z u/\C x y z u/\D x y z u/\E x y z u/\R x y z u:=⟨x,y,z,u,a,b,ch,c,d,r⟩
theorem Yo{α β γ δ:Type}{A B C D E F R:α->β->γ->δ->Prop}(x:α)(y:β)(z:γ)(u:δ)(a:A x y z u)(b:B x y z u)(ch:C x y z u)(c:D x y z u)(d:E x y z u)(e:F x y z u)(r:R x y z u):∃x y z u,A x y z u/\B x y z u/\C x y z u/\D x y z u/\E x y z u/\F x y z u/\R x y z u:=⟨x,y,z,u,a,b,ch,c,d,e,r⟩
theorem Yp{α β γ δ ε:Type}{A B C D R:α->β->γ->δ->ε->Prop}(x:α)(y:β)(z:γ)(u:δ)(v:ε)(a:A x y z u v)(b:B x y z u v)(ch:C x y z u v)(c:D x y z u v)(r:R x y z u v):∃x y z u v,A x y z u v/\B x y z u v/\C x y z u v/\D x y z u v/\R x y z u v:=⟨x,y,z,u,v,a,b,ch,c,r⟩
theorem Yq{α β γ δ ε:Type}{A B C D E R:α->β->γ->δ->ε->Prop}(x:α)(y:β)(z:γ)(u:δ)(v:ε)(a:A x y z u v)(b:B x y z u v)(ch:C x y z u v)(c:D x y z u v)(d:E x y z u v)(r:R x y z u v):∃x y z u v,A x y z u v/\B x y z u v/\C x y z u v/\D x y z u v/\E x y z u v/\R x y z u v:=⟨x,y,z,u,v,a,b,ch,c,d,r⟩
theorem SR{α β γ δ ε:Type}{A B C D E F R:α->β->γ->δ->ε->Prop}(x:α)(y:β)(z:γ)(u:δ)(v:ε)(a:A x y z u v)(b:B x y z u v)(ch:C x y z u v)(c:D x y z u v)(d:E x y z u v)(e:F x y z u v)(r:R x y z u v):∃x y z u v,A x y z u v/\B x y z u v/\C x y z u v/\D x y z u v/\E x y z u v/\F x y z u v/\R x y z u v:=⟨x,y,z,u,v,a,b,ch,c,d,e,r⟩
theorem PE.imp{e:Expr}{t u:TE}(h:PE X e t)(i:∀σ H Q,u σ H Q->t σ H Q):PE X e u:=⟨λp s σ H Q I q=>h.out p s σ H Q I (i σ H Q q)⟩
def tV(i:Nat):TE:=λσ H Q=>match σ[i]? with
 |some (some v)=>Q v H
 |_=>False
theorem Oy{i:Nat}(σ:St)(H:Hp)(Q:VK)(h:tV i σ H Q):D7 i σ H Q:=by
 unfold tV at h;split at h
 ·exact⟨_,by assumption,h⟩
 ·calc h.elim
def bB(Q:Bool->Hp->Prop):V->Hp->Prop
 | .bl k,H=>Q k H
 |_,_=>False
theorem Oz{Q:Bool->Hp->Prop}{x:V}{H:Hp}(h:bB Q x H):∃k,x=.bl k/\Q k H:=by
 cases x with
 |bl k=>calc⟨k,rfl,h⟩
 |_=>calc h.elim
theorem SS{k:Bool}:bB Q (.bl k) H=Q k H:=rfl
theorem xM{k:Bool}(h:Q k H):bB Q (.bl k) H:=h
def tT(t:TE):TT:=λσ H Q=>t σ H (bB Q)
theorem SU:bB Q=λx H=>∃k,x=.bl k/\Q k H:=by
 funext x H;calc propext ⟨Oz,?_⟩;rintro⟨k,rfl,h⟩;calc h
theorem LJ:tT=Ay:=by
 funext t σ H Q;show t σ H (bB Q)=_;rw[SU];rfl
theorem OA:tT=tB:=LJ
section
variable {X:Cx}{a b:Expr}{ta tb:TE}{pos:Pos}
theorem az{c:CmpOp}{r:R2}(d:fV X (compareOp c) r)(e:PE X a ta)(f:PE X b tb)(g:behindInMarks c b=false):PT X (.Compare a [c] [b] pos) (tT (Ep r ta tb)):=by
 rw[LJ];calc Az d e f g
theorem bC{e:Expr}{t:TE}(h:PE X e t)(b:∀a,PySem.isTrue e X.env a=(do let v <-a;standAt e.pos;holding [v] (truthy v)):=by intro _;rfl):PT X e (tT t):=by
 rw[OA];calc M8 h b
theorem aq(i:Nat){x:Str}{pos:Pos}(a:X.N[i]?=some x:=by rfl)(b:RE X.env.scope x:=by first|calc Or.inl rfl|calc Or.inr (Or.inl rfl)|calc Or.inr (Or.inr rfl))(c:(x==("__debug__":Str))=false:=by decide)
  (d:(x==("__classdict__":Str))=false:=by decide):PE X (.Name x pos) (tV i):=(D8 a b c d).imp Oy
end
section
variable {K:W.Frag}{H:Hp}{Q:VK}{i j:Int}{s t:Str}{a b:Addr}
def OB(K:W.Frag):R2:=λx y H Q=>match x,y with
 | .int i,.int j=>Q (.bl (decide (i=j))) H
 | .str s,.str t=>Q (.bl (decide (s=t))) H
 |x,y=>N0 K x y H Q
def SV(K:W.Frag):R2:=λx y H Q=>match x,y with
 | .int i,.int j=>Q (.bl (!decide (i=j))) H
 | .str s,.str t=>Q (.bl (!decide (s=t))) H
 |x,y=>Qu K x y H Q
theorem FO:OB K (.int i) (.int j) H Q=Q (.bl (decide (i=j))) H:=rfl
theorem FQ:OB K (.str s) (.str t) H Q=Q (.bl (decide (s=t))) H:=rfl
theorem FT:OB K (.ref a) (.ref b) H Q=((iO K H 20 (.ref a) (.ref b)/\Q (.bl true) H)\/(rC K H a b/\Q (.bl false) H)):=rfl
theorem FU:SV K (.int i) (.int j) H Q=Q (.bl (!decide (i=j))) H:=rfl
theorem FV:SV K (.str s) (.str t) H Q=Q (.bl (!decide (s=t))) H:=rfl
theorem FW:SV K (.ref a) (.ref b) H Q=((iO K H 20 (.ref a) (.ref b)/\Q (.bl false) H)\/(rC K H a b/\Q (.bl true) H)):=rfl
theorem FX:OB K=N0 K:=by
 funext x y H Q
 cases x<;>cases y<;>first|rfl|calc vK.symm|calc vL.symm
theorem OC:SV K=Qu K:=by
 funext x y H Q
 cases x<;>cases y<;>first|rfl|calc vM.symm|calc vN.symm
theorem ba(a:X.A.units+64<cLine):fV X (compareOp .Eq) (OB X.K):=FX▸E3 a
theorem eQ(a:X.A.units+64<cLine):fV X (compareOp .NotEq) (SV X.K):=OC▸N8 a
theorem oe(a:X.K=K)(b:X.A.units+64<cLine):fV X (compareOp .Eq) (OB K):=FX▸J4 a b
end
theorem HT.cP{n:Nat}{i:Int}(h:HT H n v (.int i)):v=.int i:=by
 cases h;rfl
theorem HT.cV{n:Nat}{s:Str}(h:HT H n v (.str s)):v=.str s:=by
 cases h;rfl
theorem HD.cP{n:Nat}{i:Int}(h:HD H n v (.int i)):v=.int i:=by
 cases h;rfl
theorem HD.cV{n:Nat}{s:Str}(h:HD H n v (.str s)):v=.str s:=by
 cases h;rfl
end
end L2
namespace DD
open PySem L2
variable {x:Int}{e:Int×Int}{u:Nat}{s:Option (Int×Int)}
def wK(r:RS):Nat->Nat
 |0=>0
 |W+1=>wK r W+(r.ww W).dj.countP Option.isSome
structure RS.Iv(n:NT)(r:RS):Prop where
 ev:∀(w k:Nat) (m c:Int),w<n.ws.length->(r.ww w).dj[k]?=some (some (m,c))->0<=m/\m<n.ms.length/\c<(r.mm m.toNat).dN.length
 inj:∀(w k w' k':Nat) (e:Int×Int),w<n.ws.length->w'<n.ws.length->(r.ww w).dj[k]?=some (some e)->(r.ww w').dj[k']?=some (some e)->w=w'/\k=k'
 pk:∀p∈r.picks,∃w k:Nat,∃e,p=((w:Int),(k:Int))/\w<n.ws.length/\(r.ww w).dj[k]?=some (some e)
 cnt:wK r n.ws.length=r.picks.length
theorem oX{r a:RS}:∀{W:Nat},(∀w,w<W->(a.ww w).dj.countP Option.isSome=(r.ww w).dj.countP Option.isSome)->wK a W=wK r W
 |0,_=>rfl
 |W+1,h=>by rw[wK,wK,oX λw a=>h w (),h W ()]
theorem FY{r a:RS}{w:Nat}(c:(a.ww w).dj.countP Option.isSome=(r.ww w).dj.countP Option.isSome+1)(b:∀u,u≠w->a.ww u=r.ww u):∀{W:Nat},w<W->wK a W=wK r W+1
 |0,h=>absurd h (Nat.not_lt_zero _)
 |W+1,h=>by
  by_cases e:w=W
  ·subst e;have d:wK a w=wK r w:=oX λu a=>by rw[b u ()]
   rw[wK,wK,c,d];lia
  ·rw[wK,wK,FY c b (W:=W) (),b W (λz=>e z.symm)];lia
theorem CM{l:List (Option (Int×Int))}{k:Nat}:(l++[none])[k]?=some (some e)↔l[k]?=some (some e):=by
 by_cases h:k<l.length
 ·rw[List.getElem?_append_left h]
 ·rw[List.getElem?_append_right (),List.getElem?_eq_none (l:=l) ()];constructor
  ·intro z
   cases a:k-l.length with
   |zero=>rw[a]at z;simp at z
   |succ j=>rw[a]at z;simp at z
  ·intro z;cases z
section
variable {n:NT}{r:RS}
theorem FZ{w:Nat}:((r.put w x s).ww u).dj=if u=w then(r.ww w).dj++[none] else(r.ww u).dj:=by
 show(if u=w then _ else _:WY).dj=_;split<;>rfl
theorem qP{w:Nat}{k:Nat}:((r.put w x s).ww u).dj[k]?=some (some e)↔(r.ww u).dj[k]?=some (some e):=by
 rw[FZ];split
 ·next z=>subst z;exact CM
 ·calc Iff.rfl
theorem Kg{w:Nat}{W:Nat}:wK (r.put w x s) W=wK r W:=oX λu _=>by
 rw[FZ];split
 ·next z=>subst z;simp
 ·rfl
theorem RS.Iv.put(h:r.Iv n){w:Nat}{x:Int}{s:Option (Int×Int)}:(r.put w x s).Iv n:=
  ⟨λu k m c a f=>h.ev u k m c a (qP.mp f),λu k g i e a j b d=>h.inj u k g i e a j (qP.mp b) (qP.mp d),
   λp a=>let ⟨u,k,e,b,d,c⟩:=h.pk p a;⟨u,k,e,b,d,qP.mpr c⟩,Kg.trans h.cnt⟩
theorem RS.Iv.send{outs:List Nat}{ev:Int×Int}:∀(a:List (Int×Int)) {r:RS},r.Iv n->(r.send outs ev a).Iv n
 | [],r,h=>h
 |p::a,r,h=>by
  show((if p.1.toNat<outs.length then r.put (outs.getD p.1.toNat 0) p.2 (some ev) else r).send outs ev a).Iv n;split
  ·exact RS.Iv.send a h.put
  ·calc RS.Iv.send a h
theorem RS.Iv.kg:∀(a:List (Int×Int)) {r:RS},r.Iv n->(r.kg a).Iv n
 | [],r,h=>h
 |p::a,r,h=>RS.Iv.kg a h.put
theorem RS.Iv.begin{a:List (Int×Int)}:(RS.begin n a).Iv n:=
 RS.Iv.kg a ⟨λw k m c _ h=>by simp[RS.new] at h,λw k a b e _ _ h=>by simp[RS.new] at h,λp a=>absurd a List.not_mem_nil,by
  have:∀W,wK (RS.new n) W=0:=λW=>by
   induction W with
   |zero=>rfl
   |succ W a=>rw[wK,a];rfl
  calc this _⟩
theorem Bc:∀{l:List (Option (Int×Int))}{k:Nat}{e:Int×Int},l[k]?=some none->(l.set k (some e)).countP Option.isSome=l.countP Option.isSome+1
 | [],k,e,h=>by simp at h
 |a::l,0,e,h=>by
  simp at h;subst h;simp
 |a::l,k+1,e,h=>by
  have:=Bc (l:=l) (k:=k) (e:=e) (by simpa using h);rw[List.set_cons_succ,List.countP_cons,List.countP_cons,this];lia
theorem Bd{w k:Nat}:((r.step n w k).ww u).dj=if u=w then(r.ww w).dj.set k (some (n.ev r w)) else(r.ww u).dj:=by
 show(if u=w then _ else _:WY).dj=_;split<;>rfl
theorem kE{w k j:Nat}(b:(r.ww w).dj[k]?=some none):((r.step n w k).ww u).dj[j]?=some (some e)↔(u=w/\j=k/\e=n.ev r w)\/(r.ww u).dj[j]?=some (some e):=by
 have c:k<(r.ww w).dj.length:=(List.getElem?_eq_some_iff.mp b).1;rw[Bd];split
 ·next z=>
  subst z;by_cases a:j=k
  ·subst a;rw[List.getElem?_set_self c,b];constructor
   ·intro z;cases z;exact .inl ⟨rfl,rfl,rfl⟩
   ·rintro(⟨_,_,rfl⟩ | z)
    ·rfl
    ·cases z
  ·rw[List.getElem?_set_ne (λz=>a z.symm)];exact⟨.inr,λz=>z.elim (λq=>absurd q.2.1 a) id⟩
 ·next z=>calc⟨.inr,λq=>q.elim (λq=>absurd q.1 z) id⟩
theorem xN{w k:Nat}{m:Nat}:((r.step n w k).mm m).dN.length=(r.mm m).dN.length+if m=n.goal w then 1 else 0:=by
 show(if m=n.goal w then _ else _:MS).dN.length=_;split
 ·next z=>subst z;simp
 ·simp
theorem RS.Iv.step(h:r.Iv n)(z:n.Ok){w k:Nat}(x:w<n.ws.length)(l:(r.ww w).dj[k]?=some none):(r.step n w k).Iv n:=by
 have K:=z.gP x;refine⟨λu j m c g t=>?_,λu j B C e g y o q=>?_,λp i=>?_,?_⟩
 ·rcases(kE l).mp t with⟨_,_,e⟩ | t
  ·cases e;calc⟨(),(),?_⟩;rw[Int.toNat_natCast,xN,if_pos rfl];lia
  ·obtain⟨a,b,d⟩:=h.ev u j m c g t;calc⟨a,b,?_⟩;rw[xN];split<;>lia
 ·have v:∀{u j:Nat},u<n.ws.length->(r.ww u).dj[j]?=some (some (n.ev r w))->False:=λ{u j} g t=>by
   obtain⟨_,_,d⟩:=h.ev u j _ _ g t;rw[Int.toNat_natCast]at d;lia
  rcases(kE l).mp o with⟨F,G,I⟩|o<;>rcases(kE l).mp q with⟨a,b,J⟩|q
  ·exact⟨F.trans a.symm,G.trans b.symm⟩
  ·subst I;exact(v y q).elim
  ·subst J;exact(v g o).elim
  ·exact h.inj u j B C e g y o q
 ·have i:p ∈ r.picks++[((w:Int),(k:Int))]:=i;rcases List.mem_append.mp i with i | i
  ·obtain⟨u,j,e,o,q,a⟩:=h.pk p i;exact⟨u,j,e,o,q,(kE l).mpr (.inr a)⟩
  ·simp at i;exact⟨w,k,_,i,x,(kE l).mpr (.inl ⟨rfl,rfl,rfl⟩)⟩
 ·have a:((r.step n w k).ww w).dj.countP Option.isSome=(r.ww w).dj.countP Option.isSome + 1:=by rw[Bd,if_pos rfl,Bc l]
  have b:∀u,u≠w->(r.step n w k).ww u=r.ww u:=λu g=>if_neg g;rw[FY a b x,h.cnt];show _=(r.picks++[_]).length;simp
theorem RS.Iv.pick(h:r.Iv n)(a:n.Ok){w k:Nat}(b:w<n.ws.length)(c:(r.ww w).dj[k]?=some none):(r.pick n w k).Iv n:=RS.Iv.send _ (h.step a b c)
variable {H H':Hp}{bg:List (List Key×V)}{w k:Nat}
end
end DD
namespace DD
open PySem L2
end DD
set_option maxHeartbeats 400000
namespace L2
open PySem PySem.Spec PyProof.Rows
section
section
variable {X:Cx}{o e:Expr}{es:List Expr}{to:TE}{t:TA}{apos p pos:Pos}{C:Addr}{m x:Str}{k j:Nat}{ps:List Str}{sp:Sp}{E:XK}
end
end
section
end
end L2
namespace L2
open PySem PySem.Spec PyProof.Rows
end L2
namespace L2
open PySem PySem.Spec PyProof.Rows
end L2
namespace L2
open PySem PySem.Spec PyProof.Rows
section
def SW(h:Heap)(d:Addr)(a:Array DictEntry)(b:Nat):Prop:=∃o,h.get? d=some o/\o.ExactDict/\o.data=.dict a b
theorem SW.type{s:Shared}{d:Addr}{a:Array DictEntry}{b:Nat}(x:SW s.heap d a b):s.TypeIs (.ref d) "dict":=let ⟨o,h,c,_⟩:=x;⟨o,h,c.1⟩
section
variable {P:Program}{w:World}{H:Hp}{h:Heap}{a:Addr}{bg:List (List Key×V)}
theorem Paired.get{α β:Type}{F:α->β->Prop}:∀{l₁:List α}{c:List β},Paired F l₁ c->∀{i:Nat}{a:α},l₁[i]?=some a->∃b,c[i]?=some b/\F a b
 |_,_,.nil,i,a,e=>by simp at e
 |_,_,.cons r t,0,a,e=>by cases e;calc⟨_,rfl,r⟩
 |_,_,.cons r t,i+1,a,e=>Paired.get t (i:=i) e
end
end
section
section
variable {prog:Program}{w:World}{A:Around}{E:Value->Shared->Prop}{s:Shared}{d:Addr}{es:Array DictEntry}{ep:Nat}
end
section
variable {prog:Program}{w:World}{K:Type} [DecidableEq K]{knd:HeapKind prog w K}{A:Around}{E:Value->Shared->Prop}{s:Shared}
end
end
end L2
namespace L2
open PySem PySem.Spec PyProof.Rows DD
abbrev Ev:=Int×Int
abbrev Lg:=List (Ev×Option Ev)
def rS(L:Lg)(m:Int):Nat:=(L.filter λx=>decide (x.1.1=m)).length
theorem oY{L:Lg}{x:Ev×Option Ev}{m:Int}:rS (L++[x]) m=rS L m+if x.1.1=m then 1 else 0:=by
 unfold rS;rw[List.filter_append,List.length_append];congr 1;by_cases h:x.1.1=m<;>simp[h]
inductive rT(n:Nat):Lg->Prop
 |nil:rT n []
 |snoc {L:Lg} {e:Ev} {s:Option Ev}:rT n L->0<=e.1->e.1<n->e.2=rS L e.1+1->(∀p,s=some p->p∈L.map (·.1))->rT n (L++[(e,s)])
theorem rT.mem{n:Nat}{L:Lg}(h:rT n L):∀j k:Int,(j,k)∈L.map (·.1)↔0<=j/\j<n/\1<=k/\k<=rS L j:=by
 induction h with
 |nil=>intro j k;simp[rS];lia
 | @snoc L e s a c d f b g=>
  intro j k;rw[List.map_append,List.mem_append,g,oY];obtain⟨a,b⟩:=e;simp only[List.map_cons,List.map_nil,List.mem_singleton,Prod.mk.injEq]at c d f ⊢;by_cases q:a=j
  ·subst q;rw[if_pos rfl];lia
  ·rw[if_neg q];lia
def mf{α:Type}(D:List (Ev×α))(p:Ev):Option α:=(D.find? λx=>decide (x.1=p)).map (·.2)
theorem jP{α:Type}{D:List (Ev×α)}{e p:Ev}{x:α}:mf (D++[(e,x)]) p=(mf D p).or (if e=p then some x else none):=by
 unfold mf;rw[List.find?_append]
 cases D.find? λx=>decide (x.1=p) with
 |some y=>rfl
 |none=>by_cases h:e=p<;>simp[h]
theorem my{α:Type}{D:List (Ev×α)}{p:Ev}(h:p∉D.map (·.1)):mf D p=none:=by
 unfold mf;rw[List.find?_eq_none.mpr λx a q=>h (List.mem_map.mpr ⟨x,a,of_decide_eq_true q⟩)];rfl
def mh(e:Ev):Option Ev:=if e.2<=1 then none else some (e.1,e.2-1)
def kF(n:Nat)(D:List (Ev×List Int)):Option Ev->List Int
 |none=>List.replicate n 0
 |some p=>(mf D p).getD (List.replicate n 0)
def xO(n:Nat)(D:List (Ev×List Int))(x:Ev×Option Ev):List Int:=(List.zipWith max (kF n D (some (x.1.1,x.1.2-1))) (kF n D x.2)).set x.1.1.toNat x.1.2
def fL(n:Nat)(L:Lg):List (Ev×List Int):=L.foldl (λD x=>D++[(x.1,xO n D x)]) []
def tU(S:List Ev)(x:Ev):List Ev:=if x∈S then S else S++[x]
def qm(D:List (Ev×List Ev))(S:List Ev):Option Ev->List Ev
 |none=>S
 |some p=>tU (((mf D p).getD []).foldl tU S) p
def rV(D:List (Ev×List Ev))(x:Ev×Option Ev):List Ev:=qm D (qm D [] (mh x.1)) x.2
def fM(L:Lg):List (Ev×List Ev):=L.foldl (λD x=>D++[(x.1,rV D x)]) []
theorem zG{n:Nat}{L:Lg}{x:Ev×Option Ev}:fL n (L++[x])=fL n L++[(x.1,xO n (fL n L) x)]:=by unfold fL;rw[List.foldl_append];rfl
theorem xP{L:Lg}{x:Ev×Option Ev}:fM (L++[x])=fM L++[(x.1,rV (fM L) x)]:=by unfold fM;rw[List.foldl_append];rfl
theorem rW{S:List Ev}{x y:Ev}:y∈tU S x↔y∈S\/y=x:=by
 unfold tU;split
 ·exact⟨.inl,λh=>h.elim id λh=>by rw[h];assumption⟩
 ·simp
theorem Be{S:List Ev}{x:Ev}(h:S.Nodup):(tU S x).Nodup:=by
 unfold tU;split
 ·exact h
 ·rename_i d;rw[List.nodup_append];calc⟨h,nofun,λa f b c=>by simp at c;subst c;calc λe=>d (e▸f)⟩
theorem rX{y:Ev}:∀{T S:List Ev},y∈T.foldl tU S↔y∈S\/y∈T
 | [],S=>by simp
 |x::T,S=>by rw[List.foldl_cons,rX,rW,List.mem_cons];calc or_assoc
theorem uQ:∀{T S:List Ev},S.Nodup->(T.foldl tU S).Nodup
 | [],S,h=>h
 |x::T,S,h=>uQ (T:=T) (Be h)
structure KnE(n:Nat)(L:Lg)(e:Ev)(R:List Int)(S:List Ev):Prop where
 len:R.length=n
 nd:S.Nodup
 out:e∉S
 mem:∀j k:Int,((j,k)∈S\/(j,k)=e)↔0<=j/\j<n/\1<=k/\k<=R.getD j.toNat 0
 pos:∀j:Nat,j<n->0<=R.getD j 0/\R.getD j 0<=rS L j
 own:R.getD e.1.toNat 0=e.2
theorem lO{a b:List Int}{j:Nat}{n:Nat}(c:a.length=n)(d:b.length=n)(h:j<n):(List.zipWith max a b).getD j 0=max (a.getD j 0) (b.getD j 0):=by
 rw[List.getD_eq_getElem?_getD,List.getD_eq_getElem?_getD,List.getD_eq_getElem?_getD,List.getElem?_zipWith,dw (),dw ()];rfl
theorem rT.all{n:Nat}{L:Lg}(h:rT n L):(fL n L).map (·.1)=L.map (·.1)/\(fM L).map (·.1)=L.map (·.1)/\∀e∈L.map (·.1),∃R S,mf (fL n L) e=some R/\mf (fM L) e=some S/\KnE n L e R S:=by
 induction h with
 |nil=>calc⟨rfl,rfl,λe U=>by simp at U⟩
 | @snoc L e s l F G W X U=>
  obtain⟨m,I,J⟩:=U;have g:e∉L.map (·.1):=λz=>by have:=(l.mem e.1 e.2).mp z;lia
  rw[zG,xP];calc⟨by rw[List.map_append,List.map_append,m];rfl,by rw[List.map_append,List.map_append,I];rfl,λp d=>?_⟩;have Y:∀j:Int,rS L j<=rS (L++[(e,s)]) j:=λj=>by rw[oY];lia
  by_cases K:p=e
  ·subst K;have i:∀o:Option Ev,(∀q,o=some q->q ∈ L.map (·.1))->(kF n (fL n L) o).length=n/\(∀a:List Ev,a.Nodup->(qm (fM L) a o).Nodup)/\
     (∀j:Nat,j<n->0<=(kF n (fL n L) o).getD j 0/\(kF n (fL n L) o).getD j 0<=rS L j)/\
     (∀(a:List Ev) (j k:Int),(j,k)∈qm (fM L) a o↔(j,k)∈a\/(0<=j/\j<n/\1<=k/\k<=(kF n (fL n L) o).getD j.toNat 0)):=by
    intro o Z
    cases o with
    |none=>
     calc⟨by simp[kF],λa h=>h,λj c=>by simp[kF,List.getD_eq_getElem?_getD,List.getElem?_replicate,c],λa j k=>?_⟩;show _∈a↔_;calc⟨.inl,λz=>z.elim id λz=>?_⟩;have:(kF n (fL n L) none).getD j.toNat 0=0:=by simp[kF,List.getD_eq_getElem?_getD,List.getElem?_replicate];split<;>rfl
     lia
    |some q=>
     obtain⟨R,S,t,w,b⟩:=J q (Z q rfl);have U:kF n (fL n L) (some q)=R:=by simp[kF,t]
     have o:∀a,qm (fM L) a (some q)=tU (S.foldl tU a) q:=λa=>by simp[qm,w]
     rw[U];calc⟨b.len,λa h=>by rw[o];calc Be (uQ h),b.pos,λa j k=>?_⟩;rw[o,rW,rX,<-b.mem j k,or_assoc]
   have Wq:∀q,mh p=some q->q∈L.map (·.1):=λq e=>by
    unfold mh at e;split at e
    ·cases e
    ·cases e;exact(l.mem _ _).mpr ⟨F,G,(),()⟩
   have e1:kF n (fL n L) (some (p.1,p.2-1))=kF n (fL n L) (mh p):=by
    unfold mh;split
    ·have:mf (fL n L) (p.1,p.2-1)=none:=my λz=>by
      rw[m]at z;have:=(l.mem _ _).mp z;lia
     simp[kF,this]
    ·rfl
   obtain⟨M,a2,N,O⟩:=i (mh p) Wq;obtain⟨P,b2,T,b4⟩:=i s X;generalize kF n (fL n L) (mh p)=A at *;generalize hB:kF n (fL n L) s=B at *;have y:p.1.toNat<n:=by lia
   have hz:(List.zipWith max A B).length=n:=by rw[List.length_zipWith,M,P];lia
   have hR:xO n (fL n L) (p,s)=(List.zipWith max A B).set p.1.toNat p.2:=by unfold xO;simp only;rw[e1,hB]
   have hS:rV (fM L) (p,s)=qm (fM L) (qm (fM L) [] (mh p)) s:=rfl;have C:∀j:Nat,j<n->((List.zipWith max A B).set p.1.toNat p.2).getD j 0=if j=p.1.toNat then p.2 else max (A.getD j 0) (B.getD j 0):=λj c=>by
    rw[List.getD_eq_getElem?_getD,List.getElem?_set];by_cases q:p.1.toNat=j
    ·rw[if_pos q,if_pos q.symm,if_pos ()];rfl
    ·rw[if_neg q,if_neg (Ne.symm q),<-List.getD_eq_getElem?_getD,lO M P c]
   have am:A.getD p.1.toNat 0=p.2-1:=by
    have u:=N p.1.toNat y;rw[show((p.1.toNat:Nat):Int)=p.1 by lia]at u;by_cases q:p.2<=1
    ·lia
    ·have v:=(O [] p.1 (p.2 - 1)).mp (by rw[show mh p=some (p.1,p.2 - 1) by unfold mh;rw[if_neg q]];calc rW.mpr (.inr rfl));rcases v with v | v
     ·simp at v
     ·lia
   have a:B.getD p.1.toNat 0<=p.2-1:=by
    have u:=T p.1.toNat y;rw[show((p.1.toNat:Nat):Int)=p.1 by lia]at u;lia
   calc⟨_,_,by rw[jP,my (by rw[m];calc g),if_pos rfl];rfl,by rw[jP,my (by rw[I];calc g),if_pos rfl];rfl,?_⟩;show KnE n _ p (xO n (fL n L) (p,s)) (rV (fM L) (p,s));have a:∀j k:Int,(j,k)∈rV (fM L) (p,s)↔(0<=j/\j<n/\1<=k/\k<=A.getD j.toNat 0)\/(0<=j/\j<n/\1<=k/\k<=B.getD j.toNat 0):=λj k=>by
    rw[hS,b4,O];simp
   rw[hR];refine⟨by rw[List.length_set];calc hz,b2 _ (a2 [] List.nodup_nil),λz=>?_,λj k=>?_,λj c=>?_,by rw[C _ y,if_pos rfl]⟩
   ·have:=(a p.1 p.2).mp z;lia
   ·rw[a];by_cases q:0<=j/\j < n
    ·rw[C j.toNat ()];by_cases r:j=p.1
     ·subst r;rw[if_pos rfl,am];have:((p.1,k)=p)↔k=p.2:=⟨λz=>by rw[<-z],λz=>by rw[z]⟩
      rw[this];lia
     ·rw[if_neg ()];have:¬((j,k)=p):=λz=>r (by rw[<-z]);rw[or_iff_left this];generalize A.getD j.toNat 0=x;generalize B.getD j.toNat 0=y;lia
    ·have:¬((j,k)=p):=λz=>q (by rw[show j=p.1 by rw[<-z]];calc⟨F,G⟩);constructor
     ·rintro(z | z)
      ·lia
      ·exact absurd z this
     ·intro z;lia
   ·rw[C j c,oY];have u:=N j c;have v:=T j c;by_cases q:j=p.1.toNat
    ·subst q;have a:((p.1.toNat:Nat):Int)=p.1:=by lia
     rw[if_pos rfl,a,if_pos rfl];have e:0<=(rS L p.1:Int):=Int.natCast_nonneg _;exact⟨(),by rw[W];push_cast;lia⟩
    ·rw[if_neg q];lia
  ·have zm:p∈L.map (·.1):=by
    rw[List.map_append,List.mem_append]at d;rcases d with d|d
    ·exact d
    ·exact absurd (by simpa using d) K
   obtain⟨R,S,t,w,b⟩:=J p zm;calc⟨R,S,by rw[jP,t];rfl,by rw[jP,w];rfl,b.len,b.nd,b.out,b.mem,λj c=>⟨(b.pos j c).1,Int.le_trans (b.pos j c).2 (by have:=Y j;lia)⟩,b.own⟩
end L2
set_option maxHeartbeats 4000000
namespace DD
open PySem L2
end DD
namespace F0
open PySem L2 DD
def top(i:Nat):Stmt:=PySem.Challenge.pw_cutrestore_k43_lying_at_cuts.main.body.getD i (.Pass ⟨0,0,0,0⟩)
structure Tx(K:W.Frag)(mg:Str->Option Value)(C CN CR F:Addr)(FD:List (Str×V)):Prop where
 aY:mg "isinstance"=none
 F1:mg "int"=none
 vS:mg "bool"=none
 Bf:mg "str"=none
 bW:mg "tuple"=none
 dP:mg "list"=none
 bT:mg "len"=none
 dD:mg "range"=none
 SY:mg "min"=none
 F2:mg "max"=none
 rY:mg "all"=none
 S8:mg "any"=none
 Bg:mg "zip"=none
 cu:mg "enumerate"=none
 vT:mg "ValueError"=none
 dQ:∃t,mg "MOST_DEEDS"=some (.int 24 t)
 dI:∃t,mg "MOST_MODULUS"=some (.int 1000000000000 t)
 dJ:∃t,mg "MOST_NUMBERS"=some (.int 4 t)
 fb:∃t,mg "MOST_ROW"=some (.int 12 t)
 dz:∃t,mg "MOST_MACHINES"=some (.int 5 t)
 fm:∃t,mg "MOST_WAYS"=some (.int 10 t)
 dM:∃t,mg "MOST_LETTERS"=some (.int 20 t)
 dR:∃t,mg "SAID_BOUND"=some (.int 1000000000000000000000000000000000000000000000000000000000000 t)
 cK:vt K C
 uR:mg "Machine"=some (.ref C)
 LK:cR K C "own_modulus"
 OD:cR K C "own_state"
 LL:cR K C "own_deeds"
 CP:W.findIn K (.ref C) "__class__"=some (some (.builtin "object.__class__"))
 CQ:W.mroIn K C (.type "object")=some true
 cL:vt K CN
 S9:mg "Net"=some (.ref CN)
 xQ:cR K CN "own_machines"
 xR:cR K CN "own_ways"
 zH:cR K CN "own_letters"
 F3:W.findIn K (.ref CN) "__class__"=some (some (.builtin "object.__class__"))
 F4:W.mroIn K CN (.type "object")=some true
 aM:vt K CR
 Ta:mg "Run"=some (.ref CR)
 cM:cR K CR "own_net"
 cY:cR K CR "picks_done"
 cn:cR K CR "states_had"
 dS:cR K CR "words_had"
 cG:cR K CR "words_said"
 bI:cR K CR "letters_say"
 eL:cR K CR "senders"
 cN:cR K CR "workers"
 F5:W.findIn K (.ref CR) "__class__"=some (some (.builtin "object.__class__"))
 F6:W.mroIn K CR (.type "object")=some true
 CS:W.specialIn K (.builtin "object.__class__") "__get__"=some (some (.builtin "getset_descriptor.__get__"))
 uS:W.takesIn K (.builtin "object.__class__")=some true
 i_k:W.kitOne K (.ref C) (.ref C)=some true
 Bh:mg "FORMS"=some (.ref F)
 Bi:CD K F FD
 LM:∀d:bG,∃p,PyProof.Rows.KTD.datumAt d.word FD=some (.ref p)/\∀H,bQ K H p (d.tQ.map V.str)
end F0
namespace F0
open PySem L2 DD
variable {D a b bb p:Addr}{Z:Addr->Prop}{d:bG}{H H' H0 H1 H2:Hp}{m:Int}{e:Int×Int}{ws:List (Int×Int×Str)}{ls s:List (Int×Int)}{as ms:List Addr}{cut ns row:List Int}{gM:List MD}{wv ys:List V}{ad:Nat->Nat->Addr}{r:RS}{σ:St}{f:Str}{dd st:V}{Q:VK}
theorem kG{X:Cx}{c:Scope}{N:List Str}:tN X c N λY=>Qs Y [] iM:=λ_ _ _ _=>JQ
section
variable {P:Program}{w:World}{K:W.Frag}{mg:Str->Option Value}{base:Heap}{C CN CR F B:Addr}{c:Nat->Addr}{FD:List (Str×V)}
local macro_rules | `(tactic| walk_at "s") => `(tactic| exact ⟨rfl, rfl, rfl, by decide +kernel, rfl, by decide +kernel, by decide +kernel⟩)
def zqI(s:String):Array Lean.Ident:=(s.splitOn " ").toArray.map (Lean.mkIdent ·.toName)
def zqK:=zqI "tV tT SS FO FQ FT FU FV FW D7 tC Ep Xw rU Ay tB Na Eb M9 Xo Ea Xp Ee Nb Ce fS Nf xa Qr AB Ey Nw Nx As vH ES zo y7 Ft Fu Fv LH Fw Fz FA FC FE FG RZ vA ED Jw Nu uu AD XM NH FI FH Ng Xr yX id_eq Oh Fs N9 Eo oS Ly E8 Fc Fd Fe Lz Ff Fg Fh Fi LC AS xu iM tM uM So E6 Lw Lx L2.start List.map_cons List.map_nil List.cons_append List.nil_append List.replicate List.getElem?_cons_zero List.getElem?_cons_succ List.set_cons_zero List.set_cons_succ"
def zqL:=zqI "zA zB vK vL vM vN List.length_cons List.length_nil List.append_nil Option.some.injEq exists_eq_left' exists_eq_left V.int.injEq V.bl.injEq V.str.injEq V.ref.injEq List.cons.injEq and_true true_and Nat.reduceSub Nat.reduceAdd"
local macro_rules | `(tactic| simp_arith only [$xs,*]) => let l:=zqK; `(tactic| simp only [$[$l:ident],*, ↓AX, ↓xD, ↓rK, ↓uO, ↓rL, $xs,*])
local macro_rules | `(tactic| simp_arith! only [$xs:simpLemma,*]) => let l:=zqK; `(tactic| dsimp only [$[$l:ident],*, ↓AX, ↓xD, ↓rK, ↓uO, ↓rL, $xs:simpLemma,*])
local macro_rules | `(tactic| walk_at "l0") => `(tactic| simp_arith! only [Cd, tI, nU])
local macro_rules | `(tactic| walk_at "l1") => let l:=zqL; `(tactic| simp_arith only [Cd, tI, nU, $[$l:ident],*])
local macro_rules | `(tactic| walk_at "l2") => `(tactic| simp_arith! only [Cd, tI])
local macro_rules | `(tactic| walk_at "l3") => let l:=zqL; `(tactic| simp_arith only [Cd, tI, $[$l:ident],*])
local macro_rules | `(tactic| walk_at "l4") => `(tactic| simp_arith! only [nU])
local macro_rules | `(tactic| walk_at "l5") => let l:=zqL; `(tactic| simp_arith only [nU, $[$l:ident],*])
local macro_rules | `(tactic| walk_at "rd") => `(tactic| first | (walk_at "l0"; try walk_at "l1") | walk_at "l1")
local macro_rules | `(tactic| right) => `(tactic| try walk_at "rd")
local macro_rules | `(tactic| walk_at "rt") => `(tactic| first | (walk_at "l2"; try walk_at "l3") | walk_at "l3")
local macro_rules | `(tactic| walk_at "gj") => `(tactic| first
  |refine cZ (by assumption) (by first|rfl|exact ay (j := 0) rfl|exact ay (j := 1) rfl|exact ay (j := 2) rfl|exact ay (j := 3) rfl) ?_
  |refine bD (by assumption) (by first|rfl|exact ay (j := 0) rfl|exact ay (j := 1) rfl|assumption) ?_
  |rw [if_pos (by decide +kernel)]
  | rw [if_neg (by decide +kernel)])
local macro_rules | `(tactic| walk_at "go") => `(tactic| repeat (first|walk_at "rd"|walk_at "gj"))
local macro_rules | `(tactic| walk_at "r0") => `(tactic| first | (walk_at "l4"; try walk_at "l5") | walk_at "l5")
local macro_rules | `(tactic| walk_at "rh") => `(tactic| first | with_reducible refine L2.Ov ?_ | (with_reducible refine L2.bO ?_; intro N hN) | (with_reducible refine L2.qM ?_; intro T U hT hU))
local macro_rules | `(tactic| walk_at "rn") => `(tactic| (refine L2.bX (by assumption) ?_; (repeat walk_at "rh"); try walk_at "r0"))
local macro_rules | `(tactic| walk_at "jd") => `(tactic| first
  |(walk_at "rh"; (repeat walk_at "rh"); (try walk_at "r0"); repeat walk_at "rn")
  |(walk_at "rn"; repeat walk_at "rn")
  | (walk_at "r0"; repeat walk_at "rn"))
local macro_rules | `(tactic| left) => `(tactic| try walk_at "jd")
local macro_rules | `(tactic| walk_at "jt") => `(tactic| first | (walk_at "l2"; try walk_at "l3") | walk_at "l3")
local macro_rules | `(tactic| walk_at "jg") => `(tactic| repeat (first|walk_at "jd"|walk_at "gj"))
theorem xS{z:V}:zi (ys++[z]).length (-1)=some ys.length:=by
 unfold zi;rw[if_neg ∅,if_pos (by simp;lia)];congr 1;simp;lia
theorem kH{z:V}:iJ (ys++[z]) (-1)=some z:=by
 unfold iJ;rw[xS];simp
theorem F7{α:Type}{ys:List α}{z y:α}:(ys++[z]).set ys.length y=ys++[y]:=by simp
theorem vU{o c:HO}:upd (upd H a o) a c=upd H a c:=by
 funext b;by_cases h:b=a
 ·subst h;rw[ab,ab]
 ·rw[av h,av h,av h]
def eN(H:Hp)(p:Addr):Prop:=∃xs:List Int,H p=some (.lst (xs.map V.int))/\1<=xs.length
structure Step(p:Addr)(H H':Hp):Prop where
 fC:eN H' p
 rest:∀b o,H b=some o->b≠p->H' b=some o
theorem Step.refl(h:eN H p):Step p H H:=⟨h,λ_ _ e _=>e⟩
theorem Step.trans(a:Step p H H1)(b:Step p H1 H2):Step p H H2:=⟨b.fC,λc o e n=>b.rest c o (a.rest c o e n) n⟩
theorem eN.same(s:au H H')(h:eN H p):eN H' p:=by
 obtain⟨a,e,h⟩:=h;calc⟨a,s _ _ e,h⟩
theorem Step.same(a:Step p H H1)(b:au H1 H2):Step p H H2:=⟨a.fC.same b,λc o e n=>b _ _ (a.rest c o e n)⟩
theorem Step.set(a:Step p H H1)(xs:List Int)(h:1<=xs.length):Step p H (upd H1 p (.lst (xs.map V.int))):=
 ⟨⟨xs,ab,h⟩,λc o e n=>by rw[av n];calc a.rest c o e n⟩
theorem Step.new{q:Addr}(a:Step p H H1){o:HO}(b:H1 q=none):Step p H (upd H1 q o):=a.same (au.new o b)
theorem Step.aP(a:Step p H H1)(c:eN H p):cg H H1:=λb d e=>a.rest b _ e λz=>by
 subst z;obtain⟨a,h,_⟩:=c;rw[h]at e;cases e
theorem Step.ne{q:Addr}(c:eN H p)(b:H q=none):q≠p:=λz=>by
 subst z;obtain⟨a,h,_⟩:=c;rw[h]at b;cases b
theorem Step.over(s:au H0 H1)(a:H0 p=none)(st:Step p H1 H2):au H0 H2:=λb o e=>st.rest b o (s b o e) (ao e a)
theorem eN.upd{q:Addr}{o:HO}(h:eN H p)(b:p≠q):eN (upd H q o) p:=by
 obtain⟨a,e,h⟩:=h;calc⟨a,by rw[av b];calc e,h⟩
abbrev mz:Stmt:=top 11
def iQ:Sp:=λvs H Q _=>∃x t,vs=[x]/\Kd H x t/\Q (.bl (Yd x)) H
theorem zI(D:cS K mg "is_whole" "is_whole" mz ["thing"])(T:Tx K mg C CN CR F FD):Def P w K mg base "is_whole" 1 ["thing"] iQ:=by
 have sc:aC ["thing"] ["thing"] (ax mz):=by walk_at "s"
 symm;obtain⟨x,t,rfl,a,q⟩:=h;have d:=hr.units;refine⟨_,(ak (aD (iV (aV cC rfl T.aY uj (af (aq 0) (af (cF (v:=.ty "int") rfl T.F1 PyProof.Rows.boot_int rfl) aa))) (jL (Ec (aV cC rfl T.aY uj (af (aq 0) (af (cF (v:=.ty "bool") rfl T.vS PyProof.Rows.boot_bool rfl) aa)))))))),?_⟩;walk_at "rd";obtain⟨b,c,d,e,g⟩:=Om (K:=K) a;refine cD t b a.ty d ?_;rw[g] at q
 cases b
 ·rw[if_neg Bool.false_ne_true];exact q
 ·rw[if_pos rfl];calc⟨t,c,a.ty,e,q⟩
abbrev kI:Stmt:=top 12
def cp:Sp:=λvs H Q _=>∃x t a b,vs=[x,.int a,.int b]/\Kd H x t/\Q (.bl (inR a b x)) H
theorem xT(D:cS K mg "is_within" "is_within" kI ["thing","low","beyond"])(T:Tx K mg C CN CR F FD)(j:Def P w K mg base "is_whole" 1 ["thing"] iQ):Def P w K mg base "is_within" 2 ["thing","low","beyond"] cp:=by
  have sc:aC ["thing","low","beyond"] ["thing","low","beyond"] (ax kI):=by walk_at "s"
  symm;obtain⟨x,t,a,b,rfl,g,q⟩:=h;have k:=hr.units;refine⟨_,(ak (aD (iV (aK j hr (af (aq 0) aa)) (jL (w6 rB gB (aq 1) (aq 0) (aq 2)))))),?_⟩;walk_at "rd";refine cD x t rfl g ?_
  cases g<;>first
    | (rename_i i
       show ∃c,V.bl true=.bl c/\_;calc⟨true,rfl,?_⟩;rw[if_pos rfl];walk_at "rd";by_cases d:a<=i
       · rw[if_pos (by simpa using d)];have e:inR a b (.int i)=decide (i < b):=by simp[inR,d]
         rw[e]at q;exact q
       · rw[if_neg (by simpa using d)];have e:inR a b (.int i)=false:=by simp[inR,d]
         rw[e] at q;calc q)
    | (show ∃c,V.bl false=.bl c/\_
       calc⟨false,rfl,?_⟩;rw[if_neg Bool.false_ne_true];calc q)
abbrev rZ:Stmt:=top 54
def F8(K:W.Frag):Sp:=λvs H Q _=>∃(a:Addr) (ns:List Int) (k:Int),vs=[.ref a,.int k]/\aO K H a (ns.map V.int)/\0<=k/\∀c,Q (.int c) H
theorem F9(D:cS K mg "_law_at" "_law_at" rZ ["_law_script","_law_k"])(T:Tx K mg C CN CR F FD):Def P w K mg base "_law_at" 1 ["_law_script","_law_k"] (F8 K):=by
 have sc:aC ["_law_script","_law_k"] ["_law_script","_law_k"] (ax rZ):=by walk_at "s"
 symm;obtain⟨a,ns,k,rfl,b,c,q⟩:=h;have e:=hr.units;refine⟨_,(ag (aS (az gB (aq 1) (aV aL rfl T.bT L' (af (aq 0) aa)) (aE _)) (ak (aD (aj e (aq 0) (aq 1)))) aG)
  (ak (aD ai))),?_⟩
 walk_at "rd";refine bA _ (.inl ⟨_,b,rfl⟩) ?_;rw[List.length_map];by_cases d:k<(ns.length:Int)
 ·rw[if_pos (by simpa using d)];obtain⟨n,rfl⟩:=aar c;have e:n < ns.length:=by lia
  exact⟨_,.int ns[n],.inl b,ay (by rw[List.getElem?_map,dw e];rfl),q _⟩
 ·rw[if_neg (by simpa using d)];calc q _
abbrev oZ:Stmt:=top 55
def zJ:Sp:=λvs H Q _=>∃n:Int,vs=[.int n]/\∀(p:Addr) (xs:List Int),H p=none->1<=xs.length->Q (.ref p) (upd H p (.lst (xs.map V.int)))
theorem CT(D:cS K mg "_law_pot" "_law_pot" oZ ["_law_cell"])(T:Tx K mg C CN CR F FD):Def P w K mg base "_law_pot" 1 ["_law_cell"] zJ:=by
 have sc:aC ["_law_cell","_law_number","_law_pot_here","_law_k"] ["_law_cell"] (ax oZ):=by walk_at "s"
 symm;obtain⟨n,rfl,q⟩:=h;have c:=hr.units;refine⟨_,(ag (aZ (i:=1) sc.nd rfl Sort (bc cT (bc eO (bc nR (aq 0) ai) ai) ai))
  (ag (aZ (i:=2) sc.nd rfl Sort (bL (af ai aa)))
  (ag (cQ PassesOwn.never rfl (cB rfl T.dD (af ai aa)) (aN (i:=3) sc.nd rfl Sort)
  (ag (aZ (i:=1) sc.nd rfl Sort (bc eO (bc cT (bc cT (bc lN (aq 1) (aq 1)) (bc lN ai (aq 1))) (aq 3)) ai))
  (ak (eY (bc cT (bc lN (aj c (aq 2) ai) ai) (aq 1)) (iW (aq 2) ai dX)))))
  (ag (aS (PW.pt (pw_and (az (ba c) (bc eO (aq 0) ai) ai (aE _)) (pw_and1 (az (eQ c) (bc nR (aq 0) ai) ai (aE _))))) (ak (bJ (de lS oF oG bU (aq 2) (af (bc nR (aq 0) ai) aa)))) aG)
  (ak (aD (aq 2))))))),?_⟩
 right;have d:EX n 2:=⟨∅,∅⟩
 calc gC d ∅ ?_;right;calc⟨by show 1<=sizeLine;decide,λp e=>?_⟩;have c:=aaD (n/2) (b:=2147483629) ∅;have c:=aau (n/2) (b:=2147483629) ∅;refine⟨40,rfl,∅,∅,fU (n:=40) (λi σ H'=>∃(u a:Int) (z:Option V),0<=u/\u<2147483648/\σ=[some (.int n),some (.int u),some (.ref p),z]/\H'=upd H p (.lst [.int a])) ?_ ?_ ?_⟩
 ·exact⟨_,0,none,(),(),rfl,rfl⟩
 ·intro i σ H' o k;obtain⟨u,a,z,g,l,rfl,rfl⟩:=k;right;calc⟨.inl ⟨(),()⟩,?_⟩;right;calc gC (.inl ⟨(),()⟩) ∅ ?_;right;calc bD ab (ay (j:=0) rfl) ?_;right;calc⟨.inr ⟨∅,∅⟩,?_⟩;right;calc cD _ 0 ab rfl ?_;right;have c:=aaD (u*u+48271*u+(0+(i:Int))) (b:=2147483647) ∅;have k:=aau (u*u+48271*u+(0+(i:Int))) (b:=2147483647) ∅;exact⟨_,_,_,c,(),⟨rfl,rfl⟩,vU⟩
 ·intro σ H' m;obtain⟨u,a,z,g,l,rfl,rfl⟩:=m;right;calc⟨∅,?_⟩;right;split
  ·calc⟨d,?_⟩;right;split
   ·calc gC (.inl ⟨rfl,_,aO.of ab⟩) d ?_;right;calc gw _ ab (aA nofun) ?_;right;rw[vU];exact q p [a,n/2] e nofun
   ·right;exact q p [a] e nofun
  ·right;calc q p [a] e nofun
abbrev kJ:Stmt:=top 56
def gy:Sp:=λvs H Q _=>∃(p:Addr) (m:Int),vs=[.ref p,.int m]/\eN H p/\0<m/\m.natAbs.log2<9000/\∀d H',0<=d->d<m->Step p H H'->Q (.int d) H'
theorem xU(D:cS K mg "_law_digit" "_law_digit" kJ ["_law_pot_here","_law_many"])(T:Tx K mg C CN CR F FD):Def P w K mg base "_law_digit" 1 ["_law_pot_here","_law_many"] gy:=by
 have sc:aC ["_law_pot_here","_law_many","_law_digit_here"] ["_law_pot_here","_law_many"] (ax kJ):=by walk_at "s"
 symm;obtain⟨p,m,rfl,j,d,o,q⟩:=h;have g:=hr.units;refine⟨_,(ag (aZ (i:=2) sc.nd rfl Sort (bc eO (aj g (aq 0) (kr gW ai)) (aq 1)))
  (ag (eY (bc nR (aj g (aq 0) (kr gW ai)) (aq 1)) (iW (aq 0) (kr gW ai) dX))
  (ag (aS (PW.pt (pw_and (az (ba g) (aj g (aq 0) (kr gW ai)) ai (aE _)) (pw_and1 (az mr (aV aL rfl T.bT L' (af (aq 0) aa)) ai (aE _))))) (ak (bJ (EH lS PySem.F.slot_list_pop PySem.F.type_list_pop NJ (aq 0)))) aG)
  (ak (aD (aq 2)))))),?_⟩
 nofun;obtain⟨k,c,r⟩:=id j;obtain⟨ys,z,rfl⟩:∃ys z,k=ys++[z]:=⟨k.dropLast,k.getLast (by intro e;rw[e]at r;simp at r),(List.dropLast_concat_getLast _).symm⟩
 rw[List.map_append]at c
 replace c:H p=some (.lst (ys.map V.int++[.int z])):=c
 ac_rfl;have t:Step p H H:=Step.refl j;right;calc cD _ _ (.inl (aO.of c)) kH ?_;right;calc⟨d,?_⟩;right;calc cD _ _ (.inl (aO.of c)) kH ?_;right;calc⟨⟨d,o⟩,?_⟩;right;calc cD _ _ c xS ?_;rw[F7];calc cD _ _ (.inl (aO.of ab)) kH ?_;have l:=aaD z (b:=m) ();have n:=aau z d;have u:Step p H (upd H p (.lst (ys.map V.int++[.int (z/m)]))):=by
  have:=t.set (ys++[z/m]) nofun;rw[List.map_append]at this;exact this
 right;split
 ·calc bA _ (.inl ⟨_,aO.of ab,rfl⟩) ?_;right;split
  ·rename_i a;have a:1<=ys.length:=by
    simp at a;lia
   calc⟨.inl ⟨rfl,_,aO.of ab⟩,?_⟩;calc⟨p,_,.int (z/m),rfl,rfl,ab,nofun,?_⟩;right;rw[List.dropLast_concat,vU];exact q _ _ l n (t.set ys a)
  ·right;exact q _ _ l n u
 ·right;calc q _ _ l n u
theorem zK:Jr 10 60:=⟨∅,∅,⋯⟩
theorem OE:Jr 10 12:=⟨∅,∅,⋯⟩
theorem OF:Er 2 (10^Int.toNat 60):=.inl ⟨⋯,⋯⟩
theorem Tb:(0:Int)<2*10^Int.toNat 60-1:=by decide +kernel
theorem Tc:(2*10^Int.toNat 60-1:Int).natAbs.log2<9000:=by decide +kernel
theorem Td:(0:Int)<10^Int.toNat 12-1:=by decide +kernel
theorem OG:(10^Int.toNat 12-1:Int).natAbs.log2<9000:=by decide +kernel
theorem dig{E:XK}(a:eN H p)(b:0<m)(c:m.natAbs.log2<9000)(q:∀d H',0<=d->d<m->Step p H H'->Q (.int d) H'):gy [.ref p,.int m] H Q E:=⟨p,m,rfl,a,b,c,q⟩
theorem Kh{H:Hp}{n:Nat}{x:V}{d:List DV}(h:HD H n x (.tup d)):∃k a xs,x=.ref a/\H a=some (.tup xs)/\xs.length=d.length/\∀(i:Nat) u e,xs[i]?=some u->d[i]?=some e->HD H k u e:=by
 cases h with
 |tup a b c=>calc⟨_,_,_,rfl,a,b,c⟩
abbrev mB:Stmt:=top 21
def Gd:Sp:=λvs H Q _=>∃x m n d,vs=[x,.int m]/\HD H n x d/\∀H',au H H'->Q (.bl (CI m d)) H'
theorem Ki{K:W.Frag}{H:Hp}{n:Nat}{x:V}{d:DV}(h:HD H n x d)(a:∀c,d≠.tup c):∃t,gA K H x t/\W.kitOne K t (.type "tuple")=some false:=by
 cases h with
 |bP=>calc⟨_,.bP,rfl⟩
 |bl b=>calc⟨_,.bl b,rfl⟩
 |int i=>calc⟨_,.int i,rfl⟩
 |str x=>calc⟨_,.str x,rfl⟩
 |tup e=>calc absurd rfl (a _)
 |lst e=>calc⟨_,.lst e,rfl⟩
 |dict e=>calc⟨_,.dK e,rfl⟩
theorem Kj{K:W.Frag}{H:Hp}{n:Nat}{x:V}{d:DV}(h:HD H n x d)(a:∀s,d≠.str s):∃t,gA K H x t/\W.kitOne K t (.type "str")=some false:=by
 cases h with
 |bP=>calc⟨_,.bP,rfl⟩
 |bl b=>calc⟨_,.bl b,rfl⟩
 |int i=>calc⟨_,.int i,rfl⟩
 |str x=>calc absurd rfl (a _)
 |tup e=>calc⟨_,.tup e,rfl⟩
 |lst e=>calc⟨_,.lst e,rfl⟩
 |dict e=>calc⟨_,.dK e,rfl⟩
theorem Kk{m:Int}{d:DV}(b:∀a,d≠.tup a):CI m d=false:=by
 cases d with
 |tup a=>calc absurd rfl (b a)
 |_=>rfl
theorem Ge{m:Int}{d:DV}{r:List DV}(a:∀s,d≠.str s):CI m (.tup (d::r))=false:=by
 cases d with
 |str s=>calc absurd rfl (a s)
 |_=>rfl
theorem zL(D:cS K mg "is_value" "is_value" mB ["thing","many"])(T:Tx K mg C CN CR F FD)(X:Def P w K mg base "is_whole" 1 ["thing"] iQ)(Y:Def P w K mg base "is_within" 2 ["thing","low","beyond"] cp):Def P w K mg base "is_value" 3 ["thing","many"] Gd:=by
 have sc:aC ["thing","many","word"] ["thing","many"] (ax mB):=by walk_at "s"
 symm;obtain⟨x,m,n,d,rfl,G,q⟩:=h;have k:=hr.units;refine⟨_,(ag (aS (PW.pt (pw_or (cw (bC (aV cC rfl T.aY uj (af (aq 0) (af (cF (v:=.ty "tuple") rfl T.bW oK rfl) aa))))) (pw_or (az (ba k) (aV aL rfl T.bT L' (af (aq 0) aa)) ai (aE _)) (pw_or1 (cw (bC (aV cC rfl T.aY uj (af (aj k (aq 0) ai) (af (cF (v:=.ty "str") rfl T.Bf PyProof.Rows.boot_str rfl) aa))))))))) (ak (aD fE)) aG)
  (ag (aZ (i:=2) sc.nd rfl Sort (aj k (aq 0) ai))
  (ag (aS (az E4 (aq 2) (bH (af aB (af aB (af aB aa)))) (by with_unfolding_all rfl)) (ak (aD (jN (ba k) (aV aL rfl T.bT L' (af (aq 0) aa)) ai (aE _)))) aG)
  (ag (aS (az (eQ k) (aV aL rfl T.bT L' (af (aq 0) aa)) ai (aE _)) (ak (aD fE)) aG)
  (ag (aS (az (ba k) (aq 2) aB (aE _)) (ak (aD (aK X hr (af (aj k (aq 0) ai) aa)))) aG)
  (ak (aD (iV (jN (ba k) (aq 2) aB (aE _)) (jL (aK Y hr (af (aj k (aq 0) ai) (af ai (af (aq 1) aa))))))))))))),?_⟩
 walk_at "rd";by_cases I:∀l,d≠.tup l
 ·obtain⟨t,o,N⟩:=Ki (K:=K) G I;calc cD t false o N ?_;rw[Kk I]at q;exact q H (au.refl H)
 ·have:∃l,d=.tup l:=Classical.byContradiction λz=>I λl e=>z ⟨l,e⟩;nofun;obtain⟨l,rfl⟩:=this;obtain⟨n,a,Z,rfl,B,O,U⟩:=Kh G;calc hZ ?_;clear hZ gZ G I
  ·skip
   refine⟨.type "tuple",true,.tup B,rfl,?_⟩;simp only[Bool.not_true,Bool.false_eq_true,if_false];refine bA _ (.inr ⟨_,bQ.of B,rfl⟩) ?_;right;rcases l with _|⟨R,b⟩<;>rcases Z with _|⟨x0,J⟩
   ·exact q H (au.refl H)
   ·cases O
   ·cases O
   ·skip
    rw[if_neg (by simp;lia)];calc cD _ _ (.inr (bQ.of B)) (ay (j:=0) rfl) ?_;have W:=U 0 x0 R rfl rfl;by_cases k:∀s,R≠.str s
    ·obtain⟨t,o,N⟩:=Kj (K:=K) W k;calc cD t false o N ?_;rw[Ge k]at q;exact q H (au.refl H)
    ·have:∃s,R=.str s:=Classical.byContradiction λz=>k λl e=>z ⟨l,e⟩;nofun;obtain⟨g,rfl⟩:=this;obtain rfl:=W.cV;ac_rfl;refine⟨.type "str",true,.str _,rfl,?_⟩;simp only[Bool.not_true,Bool.false_eq_true,if_false];refine cD _ _ (.inr (bQ.of B)) (ay (j:=0) rfl) ?_;right;refine⟨∅,λp k=>?_⟩;have r:au H (upd H p (.tup [.str "letter",.str "way",.str "first"])):=au.new _ k;have L:=r _ _ B;refine CL _ (.inr (bQ.of ab)) rfl rfl ?_;right;have u:J.length=b.length:=by simpa using O
     by_cases M:AL (.str g) rM=true
     ·have S:CI m (.tup (.str g::b))=decide (b.length=0):=by
       show(if AL (.str g) rM=true then decide (b.length=0) else _)=_;rw[if_pos M]
      rw[if_pos (show AL (.str g) [.str "letter",.str "way",.str "first"]=true from M)];refine bA _ (.inr ⟨_,bQ.of L,rfl⟩) ?_;right;have e:decide (((J.length+1:Nat):Int)=1)=decide (b.length=0):=by
       rw[u];by_cases z:b.length=0
       ·rw[decide_eq_true z,decide_eq_true ()]
       ·rw[decide_eq_false z,decide_eq_false ()]
      rw[S]at q;have c:=q _ r;rw[<-e]at c;exact c
     ·have S:CI m (.tup (.str g::b))=J9 g m b:=by
       show(if AL (.str g) rM=true then decide (b.length=0) else _)=_;rw[if_neg M]
      rw[if_neg (show ¬AL (.str g) [.str "letter",.str "way",.str "first"]=true from M)];refine bA _ (.inr ⟨_,bQ.of L,rfl⟩) ?_;right;rw[S]at q;rcases b with _|⟨z,_|⟨z',b⟩⟩<;>rcases J with _|⟨y,_|⟨k,J⟩⟩
      ·rw[if_pos nofun];exact q _ r
      ·cases u
      ·cases u
      ·cases u
      ·skip
       rw[if_neg nofun];have o:=(U 1 y z rfl rfl).same r;obtain⟨t,l⟩:=SI o;by_cases b:g="is"
       ·rw[if_pos (by simpa using b)];calc⟨_,_,.inr (bQ.of L),rfl,y,t,rfl,l,?_⟩;have c:=q _ r;simp only[J9,if_pos b]at c;rw[Oq o];exact c
       ·rw[if_neg (by simpa using b)];have c:=q _ r;simp only[J9,if_neg b] at c;by_cases k:g="number"
        ·rw[if_pos (by simpa using k)];calc⟨_,_,.inr (bQ.of L),rfl,y,t,0,m,rfl,l,?_⟩;rw[decide_eq_true k,Bool.true_and]at c;rw[Ot o];exact c
        ·rw[if_neg (by simpa using k)];rw[decide_eq_false k,Bool.false_and]at c;exact c
      ·simp at u
      ·cases u
      ·simp at u
      ·rw[if_pos (by simp;lia)];calc q _ r
abbrev o7:Stmt:=top 13
def mC:Sp:=λvs H Q _=>∃(a:Addr) (xs:List V) (b c:Int),vs=[.ref a,.int b,.int c]/\(H a=some (.lst xs)\/H a=some (.tup xs))/\∀H',au H H'->Q (.bl (decide (b<=(xs.length:Int))&&decide ((xs.length:Int)<=c))) H'
theorem CW(D:cS K mg "is_list" "is_list" o7 ["things","least","most"])(T:Tx K mg C CN CR F FD):Def P w K mg base "is_list" 1 ["things","least","most"] mC:=by
 have sc:aC ["things","least","most"] ["things","least","most"] (ax o7):=by walk_at "s"
 symm;obtain⟨a,d,g,i,rfl,b,q⟩:=h;have i:=hr.units;refine⟨_,(ak (aD (iV (aV cC rfl T.aY uj (af (aq 0) (af (bH (af (cF (v:=.ty "list") rfl T.dP wF rfl) (af (cF (v:=.ty "tuple") rfl T.bW oK rfl) aa))) aa))) (jL (w6 rB rB (aq 1) (aV aL rfl T.bT L' (af (aq 0) aa)) (aq 2)))))),?_⟩;right;refine⟨cH,λp i=>?_⟩;have c:au H (upd H p (.tup [.ty "list",.ty "tuple"])):=au.new _ i;have e:∃t,gA K (upd H p (.tup [.ty "list",.ty "tuple"])) (.ref a) t/\W.kitAny K t [.type "list",.type "tuple"]=some true/\Et K (.ref a) (upd H p (.tup [.ty "list",.ty "tuple"])) d.length:=by
  rcases b with b|b
  ·exact⟨_,.lst (c _ _ b),rfl,.inl ⟨_,aO.of (c _ _ b),rfl⟩⟩
  ·exact⟨_,.tup (c _ _ b),rfl,.inr ⟨_,bQ.of (c _ _ b),rfl⟩⟩
 obtain⟨t,i,j,k⟩:=e;calc Ox t true _ _ i ab rfl j ?_;rw[if_pos rfl];calc bA _ k ?_;have b:=q _ c;by_cases h:g<=(d.length:Int)
 ·rw[if_pos (by simpa using h)];rw[decide_eq_true h,Bool.true_and]at b;exact b
 ·rw[if_neg (by simpa using h)];rw[decide_eq_false h,Bool.false_and]at b;calc b
abbrev o8:Stmt:=top 27
def Bj(K:W.Frag):Sp:=λvs H Q _=>∃d:bG,vs=[.str d.word]/\∀p,bQ K H p (d.tQ.map V.str)->Q (.ref p) H
theorem CY(D:cS K mg "form_of" "form_of" o8 ["word"])(T:Tx K mg C CN CR F FD):Def P w K mg base "form_of" 1 ["word"] (Bj K):=by
 have sc:aC ["word"] ["word"] (ax o8):=by walk_at "s"
 symm;obtain⟨d,rfl,q⟩:=h;have a:=hr.units;calc⟨_,(ak (aD (J3 T.Bi rfl T.Bh (af (aq 0) aa)))),?_⟩;obtain⟨p,a,b⟩:=T.LM d;show Q ((PyProof.Rows.KTD.datumAt d.word FD).getD .bP) H;rw[a];calc q p (b H)
abbrev o9:Stmt:=top 28
inductive jQ(H:Hp)(m:Int):V->Str->Prop
 |value {n x v}:HT H n x (Val.dv v)->v.ok m->jQ H m x "value"
 |number {i}:0<=i->i<m->jQ H m (.int i) "number"
 |many {i}:1<=i->i<25->jQ H m (.int i) "many"
 |way {i}:0<=i->jQ H m (.int i) "way"
theorem jQ.same{H H':Hp}{m:Int}{x:V}{w:Str}(s:au H H')(h:jQ H m x w):jQ H' m x w:=by
 cases h with
 |value a b=>calc .value (a.aH s.aP) b
 |number a b=>calc .number a b
 |many a b=>calc .many a b
 |way a=>calc .way a
def Bk:Sp:=λvs H Q _=>∃x w m,vs=[x,.str w,.int m]/\jQ H m x w/\∀H',au H H'->Q (.bl true) H'
theorem CZ(D:cS K mg "is_part" "is_part" o9 ["thing","sort","many"])(T:Tx K mg C CN CR F FD)(d:Def P w K mg base "is_value" 3 ["thing","many"] Gd)(g:Def P w K mg base "is_whole" 1 ["thing"] iQ)(b:Def P w K mg base "is_within" 2 ["thing","low","beyond"] cp):Def P w K mg base "is_part" 4 ["thing","sort","many"] Bk:=by
 have sc:aC ["thing","sort","many"] ["thing","sort","many"] (ax o9):=by walk_at "s"
 symm;obtain⟨x,w,m,rfl,c,q⟩:=h;have a:=hr.units;refine⟨_,(ag (aS (az (ba a) (aq 1) aB (aE _)) (ak (aD (aK d hr (af (aq 0) (af (aq 2) aa))))) aG)
  (ag (aS (az (ba a) (aq 1) aB (aE _)) (ak (aD (aK b hr (af (aq 0) (af ai (af (aq 2) aa)))))) aG)
  (ag (aS (az (ba a) (aq 1) aB (aE _)) (ak (aD (aK b hr (af (aq 0) (af ai (af (bc cT (fG T.dQ rfl) ai) aa)))))) aG)
  (ak (aD (iV (aK g hr (af (aq 0) aa)) (jL (jN NY (aq 0) ai (aE _))))))))),?_⟩
 right
 cases c with
 | @value n x v a b=>
  rw[if_pos ⋯];calc fK x m n _ rfl a.hd (λH' s=>?_);rw[Ou b];calc q H' s
 | @number i a b=>
  rw[if_neg ⋯,if_pos ⋯];calc fK (.int i) _ 0 m rfl (.int i) ?_;have e:inR 0 m (.int i)=true:=by simp[inR,a,b]
  rw[e];calc q H (au.refl H)
 | @many i a b=>
  rw[if_neg ⋯,if_neg ⋯,if_pos ⋯];calc fK (.int i) _ 1 _ rfl (.int i) ?_;have e:inR 1 (24+1) (.int i)=true:=by simp[inR,a];lia
  rw[e];calc q H (au.refl H)
 | @way i a=>
  rw[if_neg ⋯,if_neg ⋯,if_neg ⋯];calc⟨.int i,_,rfl,.int i,true,rfl,?_⟩;rw[if_pos rfl];have e:decide ((0:Int)<=i)=true:=decide_eq_true a;right;rw[e];calc q H (au.refl H)
abbrev pb:Stmt:=top 29
theorem Te{x:V}{a:List V}:eD (x::a) (some 1) none=a:=by
 unfold eD;have e:HT.ei (x::a).length 0 (some 1)=1:=by
  show(if (1:Int)<0 then((1:Int)+((x::a).length:Int)).toNat else min (1:Int).toNat (x::a).length)=1;rw[if_neg ∅];show min 1 (a.length+1)=1;lia
 rw[e];show List.take ((x::a).length-1) a=a;simp
theorem r6{H:Hp}{n:Nat}{x:V}{d:bG}{m:Int}(h:HT H n x d.dv)(f:d.ok m):∃a q,x=.ref a/\H a=some (.tup (.str d.word::q))/\q.length=d.tQ.length/\∀(i:Nat) p s,q[i]?=some p->d.tQ[i]?=some s->jQ H m p s:=by
 cases d with
 |set i v=>
  nofun;obtain⟨a,u,y,z,k,rfl,e,g,l,o⟩:=cm h;obtain rfl:=g.cV;obtain rfl:=l.cP;ac_rfl;refine tS a _ rfl e rfl (λj p s b c=>?_)
  match j,b,c with
  |0,b,c=>cases b;cases c;calc .number f.1 f.2.1
  |1,b,c=>cases b;cases c;calc .value o f.2.2
 |add i v=>
  nofun;obtain⟨a,u,y,z,k,rfl,e,g,l,o⟩:=cm h;obtain rfl:=g.cV;obtain rfl:=l.cP;ac_rfl;refine tS a _ rfl e rfl (λj p s b c=>?_)
  match j,b,c with
  |0,b,c=>cases b;cases c;calc .number f.1 f.2.1
  |1,b,c=>cases b;cases c;calc .value o f.2.2
 |times i v=>
  nofun;obtain⟨a,u,y,z,k,rfl,e,g,l,o⟩:=cm h;obtain rfl:=g.cV;obtain rfl:=l.cP;ac_rfl;refine tS a _ rfl e rfl (λj p s b c=>?_)
  match j,b,c with
  |0,b,c=>cases b;cases c;calc .number f.1 f.2.1
  |1,b,c=>cases b;cases c;calc .value o f.2.2
 |put v=>
  nofun;obtain⟨a,u,y,k,rfl,e,g,l⟩:=dF h;obtain rfl:=g.cV;ac_rfl;refine tS a _ rfl e rfl (λj p s b c=>?_)
  match j,b,c with
  |0,b,c=>cases b;cases c;calc .value l f
 |drop=>
  nofun;obtain⟨a,u,k,rfl,e,g⟩:=iY h;obtain rfl:=g.cV;ac_rfl;calc⟨a,_,rfl,e,rfl,λj p s b c=>by simp at b⟩
 |send j v=>
  nofun;obtain⟨a,u,y,z,k,rfl,e,g,l,o⟩:=cm h;obtain rfl:=g.cV;obtain rfl:=l.cP;ac_rfl;refine tS a _ rfl e rfl (λj p s b c=>?_)
  match j,b,c with
  |0,b,c=>cases b;cases c;calc .way f.1
  |1,b,c=>cases b;cases c;calc .value o f.2
 |say v=>
  nofun;obtain⟨a,u,y,k,rfl,e,g,l⟩:=dF h;obtain rfl:=g.cV;ac_rfl;refine tS a _ rfl e rfl (λj p s b c=>?_)
  match j,b,c with
  |0,b,c=>cases b;cases c;calc .value l f
 |skip v w i=>
  nofun;obtain⟨a,u,y,z,t,k,rfl,e,g,l,o,r⟩:=oa h;obtain rfl:=g.cV;obtain rfl:=r.cP;ac_rfl;refine tS a _ rfl e rfl (λj p s b c=>?_)
  match j,b,c with
  |0,b,c=>cases b;cases c;calc .value l f.1
  |1,b,c=>cases b;cases c;calc .value o f.2.1
  |2,b,c=>cases b;cases c;calc .many f.2.2.1 f.2.2.2
theorem zM:d.tQ.length<=3:=by cases d<;>simp[bG.tQ]
def uT:Sp:=λvs H Q _=>∃x m n d,vs=[x,.int m]/\HT H n x (bG.dv d)/\d.ok m/\∀H',au H H'->Q (.bl true) H'
theorem C0(D:cS K mg "is_deed" "is_deed" pb ["thing","many"])(T:Tx K mg C CN CR F FD)(l:Def P w K mg base "form_of" 1 ["word"] (Bj K))(R:Def P w K mg base "is_part" 4 ["thing","sort","many"] Bk):Def P w K mg base "is_deed" 5 ["thing","many"] uT:=by
 have sc:aC ["thing","many","form"] ["thing","many"] (ax pb):=by walk_at "s"
 symm;obtain⟨x,m,n,d,rfl,I,L,q⟩:=h;have k:=hr.units;refine⟨_,(ag (aS (PW.pt (pw_or (cw (bC (aV cC rfl T.aY uj (af (aq 0) (af (cF (v:=.ty "tuple") rfl T.bW oK rfl) aa))))) (pw_or (az (ba k) (aV aL rfl T.bT L' (af (aq 0) aa)) ai (aE _)) (pw_or1 (cw (bC (aV cC rfl T.aY uj (af (aj k (aq 0) ai) (af (cF (v:=.ty "str") rfl T.Bf PyProof.Rows.boot_str rfl) aa))))))))) (ak (aD fE)) aG)
  (ag (aZ (i:=2) sc.nd rfl Sort (aK l hr (af (aj k (aq 0) ai) aa)))
  (ag (aS (PW.pt (pw_or (az rD (aq 2) gV (aE _)) (pw_or1 (az (eQ k) (aV aL rfl T.bT L' (af (aq 0) aa)) (bc cT (aV aL rfl T.bT L' (af (aq 2) aa)) ai) (aE _))))) (ak (aD fE)) aG)
  (ak (aD (aV (gT rfl) rfl T.rY Qm (af (cO (N':=["part","sort","many"]) (ix:=[none,none,some 1]) (zx rfl T.Bg (af (rJ (aq 0) (iL ai) qJ) (af (aq 2) aa))) (λ_ _ _ _=>(iP (K:=K) rfl (i:=0) (j:=1) rfl (show(["part","sort","many"]:List Str).Nodup by decide +kernel) rfl rfl Sort Sort)) kG (λ_ _ _ _=>(aK R hr (af (aq 0) (af (aq 1) (af (aq 2) aa)))))) aa))))))),?_⟩
 obtain⟨a,g,rfl,k,l,S⟩:=r6 I L;have R:=zM (d:=d);right;calc cD _ true (.tup k) rfl ?_;simp only[Bool.not_true,Bool.false_eq_true,if_false];calc bA _ (.inr ⟨_,bQ.of k,rfl⟩) ?_;rw[if_neg (by simp;lia)];calc⟨_,.str d.word,.inr (bQ.of k),ay (j:=0) rfl,_,true,.str _,rfl,?_⟩;simp only[Bool.not_true,Bool.false_eq_true,if_false];calc⟨_,.str d.word,.inr (bQ.of k),ay (j:=0) rfl,d,rfl,λp I=>?_⟩;right;rw[if_neg Bool.false_ne_true];calc⟨_,.inr ⟨_,bQ.of k,rfl⟩,_,.inr ⟨_,I,rfl⟩,?_⟩;rw[if_neg (by simp[l])];calc bF ?_;right;calc .inr ⟨_,k,λL H2 B o=>?_⟩;rw[Te]at o;have r:=B.Qw I;calc fK false false _ _ (Sq.t o) r (λD M=>?_);refine aX (J:=Ss false false K L p) (n:=g.length) (λi ys H'=>ys=List.replicate i (V.bl true)/\au H2 H') (E' (aA ())) ⟨rfl,au.new _ M⟩ ?_ ?_ ?_ ?_
 ·rintro i ys H' G ⟨_,c⟩;exact⟨g,d.tQ.map V.str,g[i],.str (d.tQ[i]'()),Sq.t (c _ _ o),c.Qw r,dw G,by rw[List.getElem?_map,dw ()];rfl⟩
 ·rintro ys H' ⟨_,c⟩;exact⟨g,d.tQ.map V.str,Sq.t (c _ _ o),c.Qw r,.inl rfl⟩
 ·intro i ys H' G y N U x H4 W;nofun;obtain⟨rfl,c⟩:=U;obtain⟨T,X,rfl,Y⟩:=W;obtain⟨u,v,Z,O,rfl⟩:=Y g (d.tQ.map V.str) (Sq.t (c _ _ o)) (c.Qw r);rw[List.getElem?_map]at O;obtain⟨z,ez,rfl⟩:=Option.map_eq_some_iff.mp O;ac_rfl;have k:au H' (upd H' T (.tup [u,.str z])):=au.new _ X;calc tE (bQ.of ab) ⟨Ext.set (Ext.set (Ext.refl _) rfl) rfl,?_⟩;right;rw[if_pos trivial];calc Ym u z m rfl ((S i u z Z ez).same (B.trans (c.trans k))) (λn l=>?_);have r:n D=some (.lst (List.replicate i (V.bl true))):=l _ _ (k _ _ y);calc bR r N G (E' (aA ())) ⟨jE _ _,λb o e=>?_⟩;rw[av (ao e M)];exact l _ _ (k _ _ (c _ _ e))
 ·rintro ys H' y N ⟨rfl,c⟩;right;rw[oV] at y;calc bA _ (aO.of y) ?_;have e:(List.replicate g.length true).all id=true:=by simp
  rw[e];calc q _ (B.trans c)
abbrev i3:Stmt:=top 35
def LT(H:Hp)(a:Addr)(xs:List V):Prop:=H a=some (.lst xs)\/H a=some (.tup xs)
theorem LT.same{xs:List V}(s:au H H')(h:LT H a xs):LT H' a xs:=h.elim (λz=>.inl (s _ _ z)) (λz=>.inr (s _ _ z))
theorem jH{K:W.Frag}(h:LT H a ys)(q:∀p H',au H H'->H' p=some (.tup ys)->Q (.ref p) H'):vJ K [.ref a] H Q:=by
 rcases h with h|h
 ·exact .inl ⟨_,aO.of h,λl b=>q l _ (au.new _ b) ab⟩
 ·calc .inr ⟨_,bQ.of h,q a H (au.refl H) h⟩
def r8:Sp:=λvs H Q _=>∃(a:Addr) (ns:List Int) (c b M:Int),vs=[.ref a,.int c,.int b,.int M]/\LT H a (ns.map V.int)/\c<=(ns.length:Int)/\(ns.length:Int)<=b/\b<=100/\(∀z∈ns,0<=z/\z<M)/\∀H',au H H'->Q (.bl true) H'
theorem tW(D:cS K mg "are_counted" "are_counted" i3 ["things","least","most","modulus"])(T:Tx K mg C CN CR F FD)(I:Def P w K mg base "is_list" 1 ["things","least","most"] mC)(L:Def P w K mg base "is_within" 2 ["thing","low","beyond"] cp):Def P w K mg base "are_counted" 3 ["things","least","most","modulus"] r8:=by
 have sc:aC ["things","least","most","modulus"] ["things","least","most","modulus"] (ax i3):=by walk_at "s"
 symm;obtain⟨a,ns,z,B,M,rfl,g,G,m,N,v,q⟩:=h;have N:=hr.units;refine⟨_,(ak (aD (iV (aK I hr (af (aq 0) (af (aq 1) (af (aq 2) aa)))) (jL (aV (gT rfl) rfl T.rY Qm (af (cO (N':=["thing","modulus"]) (ix:=[none,some 3]) (bS (pv 0)) (λ_ _ _ _=>(aN (i:=0) (show(["thing","modulus"]:List Str).Nodup by decide +kernel) rfl Sort)) kG (λ_ _ _ _=>(aK L hr (af (aq 0) (af ai (af (aq 1) aa)))))) aa)))))),?_⟩;right;refine fK a _ z B rfl g (λH1 k=>?_);rw[List.length_map,decide_eq_true G,decide_eq_true m];show ∃c,V.bl true=.bl c/\_;refine bA true rfl ?_;rw[if_pos rfl];refine bF ?_;right;rcases g with g | g
 ·calc .inl ⟨⟨_,aO.of (k _ _ g)⟩,λD p=>?_⟩;refine aX (J:=tw K a) (n:=ns.length) (λi ys H'=>ys=List.replicate i (V.bl true)/\au H1 H') (E' (aA ())) ⟨rfl,au.new _ p⟩ ?_ ?_ ?_ ?_
  ·rintro i ys H' j ⟨_,d⟩;exact⟨_,.int ns[i],aO.of (d _ _ (k _ _ g)),by rw[List.getElem?_map,dw j];rfl⟩
  ·rintro ys H' ⟨_,d⟩;exact⟨_,aO.of (d _ _ (k _ _ g)),nofun⟩
  ·intro i ys H' j l r O x R S;nofun;obtain⟨rfl,d⟩:=O;obtain⟨rfl,y⟩:=S;have t:=y _ (aO.of (d _ _ (k _ _ g)));rw[List.getElem?_map,dw j] at t;obtain rfl:=Option.some.inj t;ac_rfl;walk_at "xf";right;rw[if_pos trivial];refine fK (.int ns[i]) _ 0 M rfl (.int _) ?_;have u:=v ns[i] (W' j);have e:inR 0 M (.int ns[i])=true:=by simp[inR,u.1,u.2]
   rw[e];calc bR l r j (E' (aA ())) ⟨jE _ _,λb o e=>?_⟩;rw[av (ao e p)];exact d _ _ e
  ·rintro ys H' l r ⟨rfl,d⟩;right;rw[oV] at l;calc bA _ (aO.of l) ?_;have e:(List.replicate ns.length true).all id=true:=by simp
   rw[e];exact q _ (k.trans d)
 ·calc .inr ⟨⟨_,bQ.of (k _ _ g)⟩,λD p=>?_⟩;refine aX (J:=RI K a) (n:=ns.length) (λi ys H'=>ys=List.replicate i (V.bl true)/\au H1 H') (E' (aA ())) ⟨rfl,au.new _ p⟩ ?_ ?_ ?_ ?_
  ·rintro i ys H' j ⟨_,d⟩;exact⟨_,.int ns[i],bQ.of (d _ _ (k _ _ g)),by rw[List.getElem?_map,dw j];rfl⟩
  ·rintro ys H' ⟨_,d⟩;exact⟨_,bQ.of (d _ _ (k _ _ g)),nofun⟩
  ·intro i ys H' j l r U x R W;nofun;obtain⟨rfl,d⟩:=U;obtain⟨rfl,y⟩:=W;have t:=y _ (bQ.of (d _ _ (k _ _ g)));rw[List.getElem?_map,dw j] at t;obtain rfl:=Option.some.inj t;ac_rfl;walk_at "xf";right;rw[if_pos trivial];refine fK (.int ns[i]) _ 0 M rfl (.int _) ?_;have u:=v ns[i] (W' j);have e:inR 0 M (.int ns[i])=true:=by simp[inR,u.1,u.2]
   rw[e];calc bR l r j (E' (aA ())) ⟨jE _ _,λb o e=>?_⟩;rw[av (ao e p)];exact d _ _ e
  ·rintro ys H' l r ⟨rfl,d⟩;right;rw[oV] at l;calc bA _ (aO.of l) ?_;have e:(List.replicate ns.length true).all id=true:=by simp
   rw[e];calc q _ (k.trans d)
abbrev gc:Stmt:=top 36
def Bm:Sp:=λvs H Q _=>∃(M:Int) (a b ad:Addr) (ns row:List Int) (xs:List V),vs=[.int M,.ref a,.ref b,.ref ad]/\2<=M/\M<=1000000000000/\LT H a (ns.map V.int)/\LT H b (row.map V.int)/\LT H ad xs/\1<=ns.length/\ns.length<=4/\row.length<=12/\(∀z∈ns,0<=z/\z<M)/\(∀z∈row,0<=z/\z<M)/\∀H',au H H'->Q .bP H'
theorem pq(D:cS K mg "refuse_machine" "refuse_machine" gc ["modulus","numbers","row","deeds"])(T:Tx K mg C CN CR F FD)(b:Def P w K mg base "are_counted" 3 ["things","least","most","modulus"] r8)(r:Def P w K mg base "is_within" 2 ["thing","low","beyond"] cp):Def P w K mg base "refuse_machine" 4 ["modulus","numbers","row","deeds"] Bm:=by
 have sc:aC ["modulus","numbers","row","deeds"] ["modulus","numbers","row","deeds"] (ax gc):=by walk_at "s"
 symm;obtain⟨M,c,d,ad,ns,row,u,rfl,g,x,i,j,k,y,z,B,l,m,q⟩:=h;have u:=hr.units;refine⟨_,(ag (aS (cw (bC (aK r hr (af (aq 0) (af ai (af (bc cT (fG T.dI rfl) ai) aa)))))) (ak c9) aG)
  (ag (aS (cw (bC (aK b hr (af (aq 1) (af ai (af (fG T.dJ rfl) (af (aq 0) aa))))))) (ak c9) aG)
  (ag (aS (cw (bC (aK b hr (af (aq 2) (af ai (af (fG T.fb rfl) (af (aq 0) aa))))))) (ak c9) aG)
  (ak (aS (cw (bC (aV cC rfl T.aY uj (af (aq 3) (af (bH (af (cF (v:=.ty "list") rfl T.dP wF rfl) (af (cF (v:=.ty "tuple") rfl T.bW oK rfl) aa))) aa))))) (ak c9) aG))))),?_⟩
 right;calc fK (.int M) _ 2 _ rfl (.int M) ?_;have e:inR 2 (1000000000000+1) (.int M)=true:=by simp[inR,g];lia
 rw[e];right;rw[if_neg ∅];calc SR c ns 1 4 M rfl i () () ∅ l (λH1 a=>?_);right;rw[if_neg ∅];calc SR d row 0 12 M rfl (j.same a) () () ∅ m (λH2 n=>?_);right;rw[if_neg ∅];calc⟨cH,λp b=>?_⟩;have o:au H2 (upd H2 p (.tup [.ty "list",.ty "tuple"])):=au.new _ b;have G:∃t,gA K (upd H2 p (.tup [.ty "list",.ty "tuple"])) (.ref ad) t/\W.kitAny K t [.type "list",.type "tuple"]=some true:=by
  rcases k.same (a.trans (n.trans o)) with z|z
  ·exact⟨_,.lst z,rfl⟩
  ·exact⟨_,.tup z,rfl⟩
 obtain⟨t,b,c⟩:=G;calc Ox t true _ _ b ab rfl c ?_;right;rw[if_neg ∅];calc q _ (a.trans (n.trans o))
abbrev hJ:Stmt:=top 37
def DL(H:Hp)(n:Nat)(xs:List V)(a:List bG):Prop:=xs.length=a.length/\∀(i:Nat) x d,xs[i]?=some x->a[i]?=some d->HT H n x (bG.dv d)
theorem DL.aH{n:Nat}{xs:List V}{a:List bG}(s:cg H H')(h:DL H n xs a):DL H' n xs a:=⟨h.1,λi x d a b=>(h.2 i x d a b).aH s⟩
theorem DL.ht{n:Nat}{xs:List V}{b:List bG}(h:DL H n xs b)(e:H a=some (.tup xs)):HT H (n+1) (.ref a) (.tup (b.map bG.dv)):=by
 calc .tup e (by rw[List.length_map];calc h.1) λi u d f c=>?_;rw[List.getElem?_map]at c;obtain⟨dd,g,rfl⟩:=Option.map_eq_some_iff.mp c;calc h.2 i u dd f g
def Bo:Sp:=λvs H Q _=>∃(a:Addr) (xs:List V) (b:List bG) (m:Int) (n:Nat),vs=[.ref a,.int m]/\LT H a xs/\DL H n xs b/\b.length<=24/\(∀d∈b,d.ok m)/\∀H',au H H'->Q .bP H'
theorem r9(D:cS K mg "refuse_deeds" "refuse_deeds" hJ ["deeds","many"])(T:Tx K mg C CN CR F FD)(B:Def P w K mg base "is_deed" 5 ["thing","many"] uT):Def P w K mg base "refuse_deeds" 6 ["deeds","many"] Bo:=by
 have sc:aC ["deeds","many","at","deed"] ["deeds","many"] (ax hJ):=by walk_at "s"
 symm;obtain⟨a,c,e,m,n,rfl,d,g,G,u,q⟩:=h;have G:=hr.units;refine⟨_,(ak (cQ PassesOwn.never rfl (eX rfl T.cu (af (aq 0) aa)) (e9 (i:=2) (j:=3) rfl sc.nd rfl rfl Sort Sort)
  (ak (aS (PW.pt (pw_or (az (ba G) (aq 2) (fG T.dQ rfl) (aE _)) (pw_or1 (cw (bC (aK B hr (af (aq 3) (af (aq 1) aa)))))))) (ak c9) aG)))),?_⟩
 rcases d with d|d
 ·calc zF true c (Sq.l d) ?_;refine gv (xs:=c) (λi σ H'=>au H H'/\∃k o,σ=[some (.ref a),some (.int m),k,o]) ⟨au.refl H,none,none,rfl⟩ (λi σ H' ⟨b,_⟩=>Sq.l (b _ _ d)) ?_ ?_
  ·intro i x σ H1 T p I v;obtain⟨b,k,o,rfl⟩:=I;have y:i < c.length:=(List.getElem?_eq_some_iff.mp p).1;have hE:i < e.length:=by rw[<-g.1];exact y
   have r:au H1 (upd H1 T (.tup [.int i,x])):=au.new _ v;calc tE (bQ.of ab) ?_;right;rw[if_neg (by simp;lia)];calc⟨x,m,n,e[i],rfl,(g.2 i x e[i] p (dw hE)).aH (b.trans r).aP,u _ (W' hE),λJ z=>?_⟩;right
   first|rw[if_neg ∅]|skip
   exact⟨b.trans (r.trans z),_,_,rfl,rfl⟩
  ·rintro σ H1 ⟨b,_⟩;exact q _ b
 ·calc zF false c (Sq.t d) ?_;refine gv (xs:=c) (λi σ H'=>au H H'/\∃k o,σ=[some (.ref a),some (.int m),k,o]) ⟨au.refl H,none,none,rfl⟩ (λi σ H' ⟨b,_⟩=>Sq.t (b _ _ d)) ?_ ?_
  ·intro i x σ H1 T p L v;obtain⟨b,k,o,rfl⟩:=L;have y:i < c.length:=(List.getElem?_eq_some_iff.mp p).1;have hE:i < e.length:=by rw[<-g.1];exact y
   have r:au H1 (upd H1 T (.tup [.int i,x])):=au.new _ v;calc tE (bQ.of ab) ?_;right;rw[if_neg (by simp;lia)];calc⟨x,m,n,e[i],rfl,(g.2 i x e[i] p (dw hE)).aH (b.trans r).aP,u _ (W' hE),λJ z=>?_⟩;right
   first|rw[if_neg ∅]|skip
   exact⟨b.trans (r.trans z),_,_,rfl,rfl⟩
  ·rintro σ H1 ⟨b,_⟩;calc q _ b
abbrev pD:Stmt:=(bV (top 41)).getD 0 (.Pass ⟨0,0,0,0⟩)
def IJ(M:Int)(st dd:V):List (Str×V):=bo "own_deeds" dd (bo "own_state" st (bo "own_modulus" (.int M) []))
theorem Tf{M:Int}:(IJ M st dd).lookup ("own_modulus":Str)=some (.int M):=by
 unfold IJ;rw[bz,if_neg ⋯,bz,if_neg ⋯,bz,if_pos rfl]
theorem Yt{M:Int}:(IJ M st dd).lookup ("own_state":Str)=some st:=by
 unfold IJ;rw[bz,if_neg ⋯,bz,if_pos rfl]
theorem Tg{M:Int}:(IJ M st dd).lookup ("own_deeds":Str)=some dd:=by
 unfold IJ;rw[bz,if_pos rfl]
theorem Bp{M:Int}(a:f≠"own_modulus")(b:f≠"own_state")(c:f≠"own_deeds"):(IJ M st dd).lookup f=none:=by
 unfold IJ;rw[bz,if_neg c,bz,if_neg b,bz,if_neg a];rfl
theorem cb{v:V}{a:List (Str×V)}{n:Nat}(h:a.length<n):(bo f v a).length<n+1:=by
 have:=ku f v a;lia
def jR(C:Addr)(H:Hp)(m:Addr)(M:Int)(ns row:List Int)(a:List bG):Prop:=∃b st dd,H m=some (.ins C b (IJ M st dd))/\HT H 2 st (xE ns row)/\HT H 4 dd (.tup (a.map bG.dv))
theorem jR.same{C:Addr}{m:Addr}{M:Int}{a:List bG}(s:au H H')(h:jR C H m M ns row a):jR C H' m M ns row a:=by
 obtain⟨a,st,dd,b,c,d⟩:=h;calc⟨a,st,dd,s _ _ b,c.aH s.aP,d.aH s.aP⟩
def Bq(C:Addr):Sp:=λvs H Q _=>∃(x f:Addr) (M:Int) (c e ad:Addr) (ns row:List Int) (xs:List V) (a:List bG) (n:Nat),vs=[.ref x,.int M,.ref c,.ref e,.ref ad]/\H x=some (.ins C f [])/\2<=M/\M<=1000000000000/\LT H c (ns.map V.int)/\LT H e (row.map V.int)/\LT H ad xs/\1<=ns.length/\ns.length<=4/\row.length<=12/\
 (∀z∈ns,0<=z/\z<M)/\(∀z∈row,0<=z/\z<M)/\DL H n xs a/\n<=3/\a.length<=24/\(∀d∈a,d.ok ns.length)/\∀H',jR C H' x M ns row a->(∀b o,b≠x->H b=some o->H' b=some o)->Q .bP H'
theorem C9(D:CH K mg "Machine" C "Machine.__init__" pD ["self","modulus","numbers","row","deeds"])(T:Tx K mg C CN CR F FD)(hV:Def P w K mg base "refuse_deeds" 6 ["deeds","many"] Bo)(gf:Def P w K mg base "refuse_machine" 4 ["modulus","numbers","row","deeds"] Bm):xC P w K mg base "Machine" C 7 ["self","modulus","numbers","row","deeds"] (Bq C):=by
 have sc:aC ["self","modulus","numbers","row","deeds"] ["self","modulus","numbers","row","deeds"] (ax pD):=by walk_at "s"
 symm;obtain⟨x,a,M,J,ar,ad,ns,row,r,ds,n,rfl,t,C8,pw,u,L,j,Bn,QA,og,hb,Kl,N,k,LO,aW,q⟩:=h;have k:=hr.units;refine⟨_,(ag (bJ (aK gf hr (af (aq 1) (af (aq 2) (af (aq 3) (af (aq 4) aa))))))
  (ag (bJ (aK hV hr (af (aq 4) (af (aV aL rfl T.bT L' (af (aq 2) aa)) aa))))
  (ag (fF (aq 0) (aq 1) (gs rfl))
  (ag (fF (aq 0) (bH (af (cX bN rfl T.bW oK (af (aq 2) aa)) (af (cX bN rfl T.bW oK (af (aq 3) aa)) aa))) (gs rfl))
  (ak (fF (aq 0) (cX bN rfl T.bW oK (af (aq 4) aa)) (gs rfl))))))),?_⟩
 try walk_at "rt"
 refine⟨M,J,ar,ad,ns,row,r,rfl,C8,pw,u,L,j,Bn,QA,og,hb,Kl,λH1 v=>?_⟩
 try walk_at "rt"
 have k:Et K (.ref J) H1 (ns.map V.int).length:=(u.same v).elim (λz=>.inl ⟨_,aO.of z,rfl⟩) (λz=>.inr ⟨_,bQ.of z,rfl⟩);calc bA _ k ?_;calc Yq ad r ds _ n rfl (j.same v) (N.aH v.aP) LO (by rw[List.length_map];calc aW) (λH2 J=>?_);have IK:=v.trans J
 try walk_at "rt"
 have k:=IK _ _ t;calc⟨x,C,a,[],rfl,k,T.cK,T.LK,∅,?_⟩;have l:∀{b:Addr} {ys:List V},LT H b ys->b≠x:=λh z=>by
  subst z;rcases h with h|h<;>(rw[t]at h;cases h)
 have O:∀b o,b≠x->H b=some o->upd H2 x (.ins C a (bo "own_modulus" (.int M) [])) b=some o:=λb o d e=>by rw[av d];exact IK _ _ e
 have m:∀{b:Addr} {ys:List V},LT H b ys->LT (upd H2 x (.ins C a (bo "own_modulus" (.int M) []))) b ys:=λh=>by
  have g:=l h;exact h.elim (λz=>.inl (O _ _ g z)) (λz=>.inr (O _ _ g z))
 have p:upd H2 x (.ins C a (bo "own_modulus" (.int M) [])) x=some (.ins C a (bo "own_modulus" (.int M) [])):=ab;generalize wL:upd H2 x (.ins C a (bo "own_modulus" (.int M) []))=G2 at *
 try walk_at "rt"
 refine jH (m u) λy k s3 pA=>?_
 try walk_at "rt"
 refine jH ((m L).same s3) λB R s4 nK=>?_
 try walk_at "rt"
 calc⟨cH,λc k=>?_⟩;have S:=au.new (.tup [.ref y,.ref B]) k;have U:=s3.trans (s4.trans S)
 try walk_at "rt"
 calc qx x C a _ rfl (U _ _ p) T.cK T.OD (cb (n:=999) ∅) ?_;have W:HT (upd R c (.tup [.ref y,.ref B])) 2 (.ref c) (xE ns row):=df ab (nX (S _ _ (s4 _ _ pA))) (nX (S _ _ nK));have Yu:=U _ _ p;have I:∀b o,b≠x->H b=some o->upd R c (.tup [.ref y,.ref B]) b=some o:=λb o d e=>U _ _ (O b o d e);generalize hG:upd R c (.tup [.ref y,.ref B])=G at *;have tG:cg H G:=λb ys e=>I b _ (λz=>by subst z;rw[t]at e;cases e) e;have t6:cg G (upd G x (.ins C a (bo "own_state" (.ref c) (bo "own_modulus" (.int M) [])))):=(cg.refl G).upd λys e=>by rw[Yu]at e;cases e
 have e6:LT (upd G x (.ins C a (bo "own_state" (.ref c) (bo "own_modulus" (.int M) [])))) ad r:=by
  have g:=l j;exact j.elim (λz=>.inl (by rw[av g];calc I _ _ g z)) (λz=>.inr (by rw[av g];calc I _ _ g z))
 have n6:∀b o,b≠x->H b=some o->upd G x (.ins C a (bo "own_state" (.ref c) (bo "own_modulus" (.int M) []))) b=some o:=λb o d e=>by rw[av d];exact I b o d e
 have X:upd G x (.ins C a (bo "own_state" (.ref c) (bo "own_modulus" (.int M) []))) x=some (.ins C a (bo "own_state" (.ref c) (bo "own_modulus" (.int M) []))):=ab;generalize Km:upd G x (.ins C a (bo "own_state" (.ref c) (bo "own_modulus" (.int M) [])))=G6 at *
 try walk_at "rt"
 refine jH e6 λY H7 i Z=>?_
 try walk_at "rt"
 calc qx x C a _ rfl (i _ _ X) T.cK T.LL (cb (n:=999) (cb (n:=998) ∅)) ?_;have ne4:Y≠x:=λz=>by subst z;rw[i _ _ X]at Z;cases Z
 have t8:cg H7 (upd H7 x (.ins C a (IJ M (.ref c) (.ref Y)))):=(cg.refl _).upd λys e=>by rw[i _ _ X]at e;cases e
 refine q _ ⟨a,.ref c,.ref Y,ab,(W.aH t6).aH (i.aP.trans t8),?_⟩ λb o d e=>?_
 ·calc HT.mono (n:=n+1) ?_ ();calc DL.ht (N.aH (tG.trans (t6.trans (i.aP.trans t8)))) ?_;rw[av ne4];exact Z
 ·rw[av d];calc i _ _ (n6 b o d e)
abbrev dZ:Stmt:=(bV (top 41)).getD 2 (.Pass ⟨0,0,0,0⟩)
def Gf(C:Addr):Sp:=λvs H Q _=>∃(m:Addr) (M:Int) (ns row:List Int) (a:List bG),vs=[.ref m]/\jR C H m M ns row a/\∀st,HT H 2 st (xE ns row)->Q st H
theorem kh(D:fR K C "first_state" "Machine.first_state" dZ ["self"])(T:Tx K mg C CN CR F FD):bZ P w K mg base C "first_state" 1 ["self"] (Gf C):=by
 have sc:aC ["self"] ["self"] (ax dZ):=by walk_at "s"
 symm;obtain⟨m,M,ns,row,d,rfl,⟨a,st,dd,b,c,e⟩,q⟩:=h;have d:=hr.units;calc⟨_,(ak (aD (bE (aq 0) rfl))),?_⟩;calc⟨m,C,a,_,_,rfl,b,T.cK,T.OD,Yt,q _ c⟩
theorem Th{H:Hp}{n:Nat}{x:V}{b:List bG}(h:HT H (n+1) x (.tup (b.map bG.dv))):∃a xs,x=.ref a/\H a=some (.tup xs)/\DL H n xs b:=by
 cases h with
 | @tup _ a xs _ e l i=>
  calc⟨a,xs,rfl,e,by simpa using l,λj x d b c=>i j x _ b ?_⟩;rw[List.getElem?_map,c];rfl
def fQ(H:Hp)(n:Nat)(ys:List V)(a:List DV):Prop:=ys.length=a.length/\∀(i:Nat) y e,ys[i]?=some y->a[i]?=some e->HT H n y e
theorem fQ.nil{n:Nat}:fQ H n [] []:=⟨rfl,λi y e h=>by simp at h⟩
theorem fQ.aH{n:Nat}{c:List DV}(h:fQ H n ys c)(t:cg H H'):fQ H' n ys c:=⟨h.1,λi y e a b=>(h.2 i y e a b).aH t⟩
theorem fQ.snoc{H:Hp}{n:Nat}{ys:List V}{c:List DV}{y:V}{e:DV}(h:fQ H n ys c)(g:HT H n y e):fQ H n (ys++[y]) (c++[e]):=by
 calc⟨by simp[h.1],λi c f a b=>?_⟩;by_cases c:i<ys.length
 ·rw[List.getElem?_append_left c]at a;rw[List.getElem?_append_left (by rw[<-h.1];calc c)]at b;exact h.2 i _ _ a b
 ·rw[List.getElem?_append_right ()] at a;rw[List.getElem?_append_right (by rw[<-h.1];lia),<-h.1] at b
  cases d:i-ys.length with
  |zero=>rw[d]at a b;cases a;cases b;calc g
  |succ k=>rw[d]at a;simp at a
theorem fQ.dl{n:Nat}{xs:List V}{a:List bG}(h:fQ H n xs (a.map bG.dv)):DL H n xs a:=⟨by simpa using h.1,λi x d a b=>h.2 i x _ a (by rw[List.getElem?_map,b];rfl)⟩
abbrev sj:Stmt:=top 47
abbrev QB(C:Addr)(H:Hp)(m:Addr)(d:MD):Prop:=jR C H m d.M d.ns d.row d.ds
def lX(w:Int×Int×Str):DV:=.tup [.int w.1,.int w.2.1,.str w.2.2]
def qy(l:Int×Int):DV:=.tup [.int l.1,.int l.2]
def uU(m:Int)(w:Int×Int×Str):Prop:=0<=w.1/\w.1<m/\0<=w.2.1/\w.2.1<m/\(w.2.2="row"\/w.2.2="heap")
def uV(m:Int)(l:Int×Int):Prop:=0<=l.1/\l.1<m/\1-1000000000000000000000000000000000000000000000000000000000000<=l.2/\l.2<1000000000000000000000000000000000000000000000000000000000000
def xV:Sp:=λvs H Q _=>∃(x:V) (n:Nat) (a b:Int) (c:Str) (m:Int),vs=[x,.int m]/\HT H n x (lX (a,b,c))/\uU m (a,b,c)/\∀H',au H H'->Q (.bl true) H'
theorem Gg(D:cS K mg "is_way" "is_way" sj ["thing","many"])(T:Tx K mg C CN CR F FD)(l:Def P w K mg base "is_within" 2 ["thing","low","beyond"] cp):Def P w K mg base "is_way" 3 ["thing","many"] xV:=by
 have sc:aC ["thing","many"] ["thing","many"] (ax sj):=by walk_at "s"
 symm;obtain⟨x,n,c,d,g,m,rfl,o,r,q⟩:=h;have i:=hr.units;refine⟨_,(ag (aS (PW.pt (pw_or (cw (bC (aV cC rfl T.aY uj (af (aq 0) (af (cF (v:=.ty "tuple") rfl T.bW oK rfl) aa))))) (pw_or (az (eQ i) (aV aL rfl T.bT L' (af (aq 0) aa)) ai (aE _)) (pw_or1 (cw (bC (aV cC rfl T.aY uj (af (aj i (aq 0) ai) (af (cF (v:=.ty "str") rfl T.Bf PyProof.Rows.boot_str rfl) aa))))))))) (ak (aD fE)) aG)
  (ak (aD (iV (aK l hr (af (aj i (aq 0) ai) (af ai (af (aq 1) aa)))) (iV (aK l hr (af (aj i (aq 0) ai) (af ai (af (aq 1) aa)))) (jL (jN E4 (aj i (aq 0) ai) (bH (af aB (af aB aa))) (by with_unfolding_all rfl)))))))),?_⟩
 nofun;obtain⟨a,G,I,J,k,rfl,b,t,u,y⟩:=cm o;obtain rfl:=t.cP;obtain rfl:=u.cP;obtain rfl:=y.cV
 replace b:H a=some (.tup [.int c,.int d,.str g]):=b
 obtain⟨i,k,l,n,z⟩:0<=c/\c<m/\0<=d/\d<m/\(g="row"\/g="heap"):=r;ac_rfl;left;refine cD _ true (.tup b) rfl ?_;simp only[Bool.not_true,Bool.false_eq_true,if_false];refine bA _ (.inr ⟨_,bQ.of b,rfl⟩) ?_;rw[if_neg nofun];refine⟨_,_,.inr (bQ.of b),ay (j:=2) rfl,_,true,.str _,rfl,?_⟩;simp only[Bool.not_true,Bool.false_eq_true,if_false];left;refine cD _ _ (.inr (bQ.of b)) (ay (j:=0) rfl) ?_;refine fK (.int c) _ 0 m rfl (.int c) ?_;rw[show inR 0 m (.int c)=true by simp[inR,i,k]];left;rw[if_pos trivial];refine cD _ _ (.inr (bQ.of b)) (ay (j:=1) rfl) ?_;refine fK (.int d) _ 0 m rfl (.int d) ?_;rw[show inR 0 m (.int d)=true by simp[inR,l,n]];left;rw[if_pos trivial];refine tS _ _ (.inr (bQ.of b)) (ay (j:=2) rfl) cH (λp B=>?_);refine CL _ (.inr (bQ.of ab)) rfl rfl ?_;have e:AL (.str g) [.str "row",.str "heap"]=true:=by
  rcases z with rfl|rfl<;>decide +kernel
 rw[e];calc q _ (au.new _ B)
abbrev kK:Stmt:=top 48
def xW:Sp:=λvs H Q _=>∃(x:V) (n:Nat) (a b:Int) (m:Int),vs=[x,.int m]/\HT H n x (qy (a,b))/\uV m (a,b)/\Q (.bl true) H
theorem xX(D:cS K mg "is_letter" "is_letter" kK ["thing","many"])(T:Tx K mg C CN CR F FD)(g:Def P w K mg base "is_within" 2 ["thing","low","beyond"] cp):Def P w K mg base "is_letter" 3 ["thing","many"] xW:=by
 have sc:aC ["thing","many"] ["thing","many"] (ax kK):=by walk_at "s"
 symm;obtain⟨x,n,b,c,m,rfl,i,l,q⟩:=h;have e:=hr.units;refine⟨_,(ag (aS (PW.pt (pw_or (cw (bC (aV cC rfl T.aY uj (af (aq 0) (af (cF (v:=.ty "tuple") rfl T.bW oK rfl) aa))))) (pw_or1 (az (eQ e) (aV aL rfl T.bT L' (af (aq 0) aa)) ai (aE _))))) (ak (aD fE)) aG)
  (ak (aD (iV (aK g hr (af (aj e (aq 0) ai) (af ai (af (aq 1) aa)))) (jL (aK g hr (af (aj e (aq 0) ai) (af (bc eB ai (fG T.dR rfl)) (af (fG T.dR rfl) aa))))))))),?_⟩
 nofun;obtain⟨a,r,t,k,rfl,d,o,p⟩:=dF i;obtain rfl:=o.cP;obtain rfl:=p.cP
 replace d:H a=some (.tup [.int b,.int c]):=d
 obtain⟨e,g,i,k⟩:0<=b/\b<m/\1-1000000000000000000000000000000000000000000000000000000000000<=c/\c<1000000000000000000000000000000000000000000000000000000000000:=l;ac_rfl;left;calc cD _ true (.tup d) rfl ?_;simp only[Bool.not_true,Bool.false_eq_true,if_false];calc bA _ (.inr ⟨_,bQ.of d,rfl⟩) ?_;rw[if_neg nofun];left;calc cD _ _ (.inr (bQ.of d)) (ay (j:=0) rfl) ?_;calc fK (.int b) _ 0 m rfl (.int b) ?_;rw[show inR 0 m (.int b)=true by simp[inR,e,g]];left;rw[if_pos trivial];calc cD _ _ (.inr (bQ.of d)) (ay (j:=1) rfl) ?_;calc fK (.int c) _ _ _ rfl (.int c) ?_;rw[show inR (1-1000000000000000000000000000000000000000000000000000000000000) 1000000000000000000000000000000000000000000000000000000000000 (.int c)=true by simp only[inR,decide_eq_true i,decide_eq_true k,Bool.and_self]];calc q
abbrev jS:Stmt:=top 49
def Br(C:Addr):Sp:=λvs H Q _=>∃(b c d:Addr) (ms:List Addr) (wv a:List V) (ws:List (Int×Int×Str)) (ls:List (Int×Int)),vs=[.ref b,.ref c,.ref d]/\H b=some (.lst (ms.map V.ref))/\H c=some (.lst wv)/\H d=some (.lst a)/\1<=ms.length/\ms.length<=5/\wv.length<=10/\a.length<=20/\(∀m∈ms,∃e f,H m=some (.ins C e f))/\fQ H 1 wv (ws.map lX)/\fQ H 1 a (ls.map qy)/\(∀w∈ws,uU ms.length w)/\(∀l∈ls,uV wv.length l)/\∀H',au H H'->Q .bP H'
theorem vV(D:cS K mg "refuse_net" "refuse_net" jS ["machines","ways","letters"])(T:Tx K mg C CN CR F FD)(kL:Def P w K mg base "is_letter" 3 ["thing","many"] xW)(M:Def P w K mg base "is_list" 1 ["things","least","most"] mC)(sk:Def P w K mg base "is_way" 3 ["thing","many"] xV):Def P w K mg base "refuse_net" 4 ["machines","ways","letters"] (Br C):=by
 have sc:aC ["machines","ways","letters"] ["machines","ways","letters"] (ax jS):=by walk_at "s"
 symm;obtain⟨N,O,R,ms,wv,t,ws,ls,rfl,z,S,DJ,DK,Gh,pE,pF,Ti,U,W,Kn,qK,q⟩:=h;have hu:=hr.units;refine⟨_,(ag (aS (PW.pt (pw_or (cw (bC (aK M hr (af (aq 0) (af ai (af (fG T.dz rfl) aa)))))) (pw_or1 (cw (bC (aV (gT rfl) rfl T.rY Qm (af (cO (N':=["one"]) (ix:=[none]) (bS (pv 0)) (λ_ _ _ _=>(aN (i:=0) (show(["one"]:List Str).Nodup by decide +kernel) rfl Sort)) kG (λ_ _ _ _=>(aV (FL (K:=K) rfl) rfl T.aY uj (af (aq 0) (af (Ar (v:=.ref C) rfl T.uR rfl) aa))))) aa))))))) (ak c9) aG)
  (ag (aS (PW.pt (pw_or (cw (bC (aK M hr (af (aq 1) (af ai (af (fG T.fm rfl) aa)))))) (pw_or1 (cw (bC (aV (gT rfl) rfl T.rY Qm (af (cO (N':=["way","machines"]) (ix:=[none,some 0]) (bS (pv 1)) (λ_ _ _ _=>(aN (i:=0) (show(["way","machines"]:List Str).Nodup by decide +kernel) rfl Sort)) kG (λ_ _ _ _=>(aK sk hr (af (aq 0) (af (aV (gY (K:=K) rfl) rfl T.bT L' (af (aq 1) aa)) aa))))) aa))))))) (ak c9) aG)
  (ak (aS (PW.pt (pw_or (cw (bC (aK M hr (af (aq 2) (af ai (af (fG T.dM rfl) aa)))))) (pw_or1 (cw (bC (aV (gT rfl) rfl T.rY Qm (af (cO (N':=["letter","ways"]) (ix:=[none,some 1]) (bS (pv 2)) (λ_ _ _ _=>(aN (i:=0) (show(["letter","ways"]:List Str).Nodup by decide +kernel) rfl Sort)) kG (λ_ _ _ _=>(aK kL hr (af (aq 0) (af (aV (gY (K:=K) rfl) rfl T.bT L' (af (aq 1) aa)) aa))))) aa))))))) (ak c9) aG)))),?_⟩
 have M:(ms.map V.ref).length<=5:=by simpa using Gh
 left;calc fK N _ 1 _ rfl (.inl z) (λH1 X=>?_);rw[show(decide ((1:Int)<=((ms.map V.ref).length:Int))&&decide (((ms.map V.ref).length:Int)<=5))=true by simp;lia];left
 try simp only[Bool.not_true,Bool.false_eq_true,if_false]
 have B:=X _ _ z;calc bF ?_;left;calc .inl ⟨⟨_,aO.of B⟩,λD p=>?_⟩;refine aX (J:=tw K N) (n:=(ms.map V.ref).length) (λi a H'=>a=List.replicate i (V.bl true)/\au H1 H') (E' (aA ())) ⟨rfl,au.new _ p⟩ ?_ ?_ ?_ ?_
 ·rintro i a H' d ⟨_,l⟩;exact⟨_,(ms.map V.ref)[i],aO.of (l _ _ B),dw d⟩
 ·rintro a H' ⟨_,l⟩;exact⟨_,aO.of (l _ _ B),K' _⟩
 ·intro i a H' d c g gQ x G gR;nofun;obtain⟨rfl,l⟩:=gQ;obtain⟨rfl,u⟩:=gR;ac_rfl;have y:=u _ (aO.of (l _ _ B));walk_at "xf";left;rw[if_pos trivial];have Y:∃m,x=.ref m/\m∈ms:=by
   have:=aaa y;obtain⟨m,hm,rfl⟩:=List.mem_map.mp this;exact⟨m,rfl,hm⟩
  nofun;obtain⟨m,rfl,B⟩:=Y;obtain⟨N,fs,M⟩:=Ti m B;ac_rfl;calc Yn _ C _ true rfl (.ins (l _ _ (X _ _ M)) T.cK T.CP T.CS T.uS T.CQ) T.i_k ?_;have r:=au.refl G;calc bR (r _ _ c) g d (E' (aA ())) ⟨jE _ _,λb o e=>?_⟩;rw[av (ao e p)];exact r _ _ (l _ _ e)
 rintro a H2 c g ⟨rfl,l⟩;left;rw[oV]at c;calc bA _ (aO.of c) ?_;have e:(List.replicate (ms.map V.ref).length true).all id=true:=by simp
 rw[e];clear e c g;left
 try simp only[Bool.not_true,Bool.false_eq_true,if_false]
 have B:=X.trans l;have M:=B _ _ S;left;calc fK O _ 0 _ rfl (.inl M) (λN l=>?_);rw[show(decide ((0:Int)<=(wv.length:Int))&&decide ((wv.length:Int)<=10))=true by simp;lia];left
 try simp only[Bool.not_true,Bool.false_eq_true,if_false]
 have I:=l _ _ M;have Z:=B.trans l;calc bF ?_;left;calc .inl ⟨⟨_,aO.of I⟩,λD p=>?_⟩;refine aX (J:=tw K O) (n:=wv.length) (λi a H'=>a=List.replicate i (V.bl true)/\au N H') (E' (aA ())) ⟨rfl,au.new _ p⟩ ?_ ?_ ?_ ?_
 ·rintro i a H' d ⟨_,j⟩;exact⟨_,wv[i],aO.of (j _ _ I),dw d⟩
 ·rintro a H' ⟨_,j⟩;exact⟨_,aO.of (j _ _ I),K' _⟩
 ·intro i a H' d c g mE x G ph;nofun;obtain⟨rfl,j⟩:=mE;obtain⟨rfl,u⟩:=ph;ac_rfl;have y:=u _ (aO.of (j _ _ I));walk_at "xf";left;rw[if_pos trivial];have l:i < ws.length:=by have:=U.1;rw[List.length_map] at this;lia
  have hw:=(U.2 i x (lX ws[i]) y (by rw[List.getElem?_map,dw l];rfl)).aH (Z.trans j).aP;calc bA _ (.inl ⟨_,aO.of (j _ _ (Z _ _ z)),rfl⟩) ?_;refine⟨x,1,ws[i].1,ws[i].2.1,ws[i].2.2,_,rfl,hw,?_,λB r=>?_⟩
  ·have:=Kn ws[i] (W' l);simpa[uU] using this
  calc bR (r _ _ c) g d (E' (aA ())) ⟨jE _ _,λb o e=>?_⟩;rw[av (ao e p)];exact r _ _ (j _ _ e)
 rintro a H4 c g ⟨rfl,j⟩;left;rw[oV]at c;calc bA _ (aO.of c) ?_;have e:(List.replicate wv.length true).all id=true:=by simp
 rw[e];clear e c g;left
 try simp only[Bool.not_true,Bool.false_eq_true,if_false]
 have l:=Z.trans j;have z:=l _ _ DJ;left;calc fK R _ 0 _ rfl (.inl z) (λB j=>?_);rw[show(decide ((0:Int)<=(t.length:Int))&&decide ((t.length:Int)<=20))=true by simp;lia];left
 try simp only[Bool.not_true,Bool.false_eq_true,if_false]
 have L:=j _ _ z;have Yx:=l.trans j;calc bF ?_;left;calc .inl ⟨⟨_,aO.of L⟩,λD p=>?_⟩;refine aX (J:=tw K R) (n:=t.length) (λi a H'=>a=List.replicate i (V.bl true)/\au B H') (E' (aA ())) ⟨rfl,au.new _ p⟩ ?_ ?_ ?_ ?_
 ·rintro i a H' d ⟨_,k⟩;exact⟨_,t[i],aO.of (k _ _ L),dw d⟩
 ·rintro a H' ⟨_,k⟩;exact⟨_,aO.of (k _ _ L),K' _⟩
 ·intro i a H' d c g pC x G se;nofun;obtain⟨rfl,k⟩:=pC;obtain⟨rfl,u⟩:=se;ac_rfl;have y:=u _ (aO.of (k _ _ L));walk_at "xf";left;rw[if_pos trivial];have j:i < ls.length:=by have:=W.1;rw[List.length_map] at this;lia
  have hw:=(W.2 i x (qy ls[i]) y (by rw[List.getElem?_map,dw j];rfl)).aH (Yx.trans k).aP;calc bA _ (.inl ⟨_,aO.of (k _ _ (Yx _ _ S)),rfl⟩) ?_;refine⟨x,1,ls[i].1,ls[i].2,_,rfl,hw,?_,?_⟩
  ·have:=qK ls[i] (W' j);simpa[uV] using this
  have r:=au.refl G;calc bR (r _ _ c) g d (E' (aA ())) ⟨jE _ _,λb o e=>?_⟩;rw[av (ao e p)];exact r _ _ (k _ _ e)
 rintro a H6 c g ⟨rfl,k⟩;left;rw[oV]at c;calc bA _ (aO.of c) ?_;have e:(List.replicate t.length true).all id=true:=by simp
 rw[e];clear e c g;left
 try simp only[Bool.not_true,Bool.false_eq_true,if_false]
 calc q _ (Yx.trans k)
abbrev Gi:Stmt:=(bV (top 50)).getD 0 (.Pass ⟨0,0,0,0⟩)
def Kp(a b c:V):List (Str×V):=bo "own_letters" c (bo "own_ways" b (bo "own_machines" a []))
theorem To{a b c:V}:(Kp a b c).lookup ("own_machines":Str)=some a:=by
 unfold Kp;rw[bz,if_neg ⋯,bz,if_neg ⋯,bz,if_pos rfl]
theorem Tp{a b c:V}:(Kp a b c).lookup ("own_ways":Str)=some b:=by
 unfold Kp;rw[bz,if_neg ⋯,bz,if_pos rfl]
theorem Yy{a b c:V}:(Kp a b c).lookup ("own_letters":Str)=some c:=by
 unfold Kp;rw[bz,if_pos rfl]
theorem eC{a b c:V}(d:f≠"own_machines")(e:f≠"own_ways")(g:f≠"own_letters"):(Kp a b c).lookup f=none:=by
 unfold Kp;rw[bz,if_neg g,bz,if_neg e,bz,if_neg d];rfl
def mG(CN:Addr)(H:Hp)(x:Addr)(ms:List Addr)(wv d:List V):Prop:=∃e a b c,H x=some (.ins CN e (Kp (.ref a) (.ref b) (.ref c)))/\H a=some (.tup (ms.map V.ref))/\H b=some (.tup wv)/\H c=some (.tup d)
theorem mG.same{CN:Addr}{x:Addr}{d:List V}(s:au H H')(h:mG CN H x ms wv d):mG CN H' x ms wv d:=by
 obtain⟨d,a,b,c,e,f,g,i⟩:=h;calc⟨d,a,b,c,s _ _ e,s _ _ f,s _ _ g,s _ _ i⟩
def xY(C CN:Addr):Sp:=λvs H Q _=>∃(x c d e f:Addr) (ms:List Addr) (wv a:List V) (ws:List (Int×Int×Str)) (ls:List (Int×Int)),vs=[.ref x,.ref d,.ref e,.ref f]/\H x=some (.ins CN c [])/\H d=some (.lst (ms.map V.ref))/\H e=some (.lst wv)/\H f=some (.lst a)/\1<=ms.length/\ms.length<=5/\wv.length<=10/\a.length<=20/\(∀m∈ms,∃c g,H m=some (.ins C c g))/\fQ H 1 wv (ws.map lX)/\fQ H 1 a (ls.map qy)/\(∀w∈ws,uU ms.length w)/\(∀l∈ls,uV wv.length l)/\∀H',mG CN H' x ms wv a->(∀b o,b≠x->H b=some o->H' b=some o)->Q .bP H'
theorem Tq(D:CH K mg "Net" CN "Net.__init__" Gi ["self","machines","ways","letters"])(T:Tx K mg C CN CR F FD)(jT:Def P w K mg base "refuse_net" 4 ["machines","ways","letters"] (Br C)):xC P w K mg base "Net" CN 7 ["self","machines","ways","letters"] (xY C CN):=by
 have sc:aC ["self","machines","ways","letters"] ["self","machines","ways","letters"] (ax Gi):=by walk_at "s"
 symm;obtain⟨x,a,y,B,G,ms,wv,O,ws,ls,rfl,g,j,k,l,R,S,U,W,X,Y,Z,Kn,qK,q⟩:=h;have hu:=hr.units;refine⟨_,(ag (bJ (aK jT hr (af (aq 1) (af (aq 2) (af (aq 3) aa)))))
  (ag (fF (aq 0) (cX bN rfl T.bW oK (af (aq 1) aa)) (gs rfl))
  (ag (fF (aq 0) (cX bN rfl T.bW oK (af (aq 2) aa)) (gs rfl))
  (ak (fF (aq 0) (cX bN rfl T.bW oK (af (aq 3) aa)) (gs rfl)))))),?_⟩
 try walk_at "rt"
 calc⟨y,B,G,ms,wv,O,ws,ls,rfl,j,k,l,R,S,U,W,X,Y,Z,Kn,qK,λH1 I=>?_⟩;have O:=I _ _ g;have O:y≠x:=λz=>by subst z;rw[g]at j;cases j
 have Tr:B≠x:=λz=>by subst z;rw[g]at k;cases k
 have OI:G≠x:=λz=>by subst z;rw[g]at l;cases l
 try walk_at "rt"
 refine jH (.inl (I _ _ j)) λc H2 s2 J=>?_
 try walk_at "rt"
 have m:=I.trans s2;have Dc:=m _ _ g;calc⟨x,CN,a,[],rfl,Dc,T.cL,T.xQ,∅,?_⟩;have L:c≠x:=λz=>by subst z;rw[Dc]at J;cases J
 have p:∀b o,b≠x->H2 b=some o->upd H2 x (.ins CN a (bo "own_machines" (.ref c) [])) b=some o:=λb o d e=>by rw[av d];exact e
 have DM:upd H2 x (.ins CN a (bo "own_machines" (.ref c) [])) x=some (.ins CN a (bo "own_machines" (.ref c) [])):=ab;generalize DN:upd H2 x (.ins CN a (bo "own_machines" (.ref c) []))=G3 at *;have Yz:=p _ _ L J;have Dd:=p _ _ Tr (m _ _ k);have YA:=p _ _ OI (m _ _ l)
 try walk_at "rt"
 refine jH (.inl Dd) λi r t M=>?_
 try walk_at "rt"
 have OJ:=t _ _ DM;calc qx x CN a _ rfl OJ T.cL T.xR (cb (n:=999) ∅) ?_;have n2:i≠x:=λz=>by subst z;rw[OJ]at M;cases M
 have u:∀b o,b≠x->r b=some o->upd r x (.ins CN a (bo "own_ways" (.ref i) (bo "own_machines" (.ref c) []))) b=some o:=λb o d e=>by rw[av d];exact e
 have DO:upd r x (.ins CN a (bo "own_ways" (.ref i) (bo "own_machines" (.ref c) []))) x=some (.ins CN a (bo "own_ways" (.ref i) (bo "own_machines" (.ref c) []))):=ab;generalize IP:upd r x (.ins CN a (bo "own_ways" (.ref i) (bo "own_machines" (.ref c) [])))=G5 at *;have YB:=u _ _ L (t _ _ Yz);have YC:=u _ _ n2 M;have De:=u _ _ OI (t _ _ YA)
 try walk_at "rt"
 refine jH (.inl De) λt3 g v N=>?_
 try walk_at "rt"
 have Ts:=v _ _ DO;calc qx x CN a _ rfl Ts T.cL T.zH (cb (n:=999) (cb (n:=998) ∅)) ?_;have n3:t3≠x:=λz=>by subst z;rw[Ts]at N;cases N
 refine q _ ⟨a,c,i,t3,ab,?_,?_,?_⟩ λb o d e=>?_
 ·rw[av L];exact v _ _ YB
 ·rw[av n2];exact v _ _ YC
 ·rw[av n3];exact N
 ·rw[av d];calc v _ _ (u _ _ d (t _ _ (p _ _ d (m _ _ e))))
abbrev hX:Stmt:=(bV (top 50)).getD 1 (.Pass ⟨0,0,0,0⟩)
def gS(CN:Addr):Sp:=λvs H Q _=>∃(x:Addr) (ms:List Addr) (wv a:List V),vs=[.ref x]/\mG CN H x ms wv a/\∀l,H l=none->Q (.ref l) (upd H l (.lst (ms.map V.ref)))
theorem sm(D:fR K CN "machines" "Net.machines" hX ["self"])(T:Tx K mg C CN CR F FD):bZ P w K mg base CN "machines" 1 ["self"] (gS CN):=by
 have sc:aC ["self"] ["self"] (ax hX):=by walk_at "s"
 symm;obtain⟨x,ms,wv,e,rfl,⟨g,a,b,i,c,d,j,k⟩,q⟩:=h;have e:=hr.units;calc⟨_,(ak (aD (cX cI rfl T.dP wF (af (bE (aq 0) rfl) aa)))),?_⟩;calc fld c T.cL T.xQ To ?_;right;calc⟨_,.inr (bQ.of d),λl e=>q l e⟩
abbrev mH:Stmt:=(bV (top 50)).getD 2 (.Pass ⟨0,0,0,0⟩)
def kM(CN:Addr):Sp:=λvs H Q _=>∃(x:Addr) (ms:List Addr) (wv a:List V),vs=[.ref x]/\mG CN H x ms wv a/\∀l,H l=none->Q (.ref l) (upd H l (.lst wv))
theorem zO(D:fR K CN "ways" "Net.ways" mH ["self"])(T:Tx K mg C CN CR F FD):bZ P w K mg base CN "ways" 1 ["self"] (kM CN):=by
 have sc:aC ["self"] ["self"] (ax mH):=by walk_at "s"
 symm;obtain⟨x,ms,wv,e,rfl,⟨g,a,b,i,c,j,d,k⟩,q⟩:=h;have e:=hr.units;calc⟨_,(ak (aD (cX cI rfl T.dP wF (af (bE (aq 0) rfl) aa)))),?_⟩;calc fld c T.cL T.xR Tp ?_;right;calc⟨_,.inr (bQ.of d),λl e=>q l e⟩
abbrev i4:Stmt:=(bV (top 50)).getD 3 (.Pass ⟨0,0,0,0⟩)
def qo(CN:Addr):Sp:=λvs H Q _=>∃(x:Addr) (ms:List Addr) (wv a:List V),vs=[.ref x]/\mG CN H x ms wv a/\∀l,H l=none->Q (.ref l) (upd H l (.lst a))
theorem tY(D:fR K CN "letters" "Net.letters" i4 ["self"])(T:Tx K mg C CN CR F FD):bZ P w K mg base CN "letters" 1 ["self"] (qo CN):=by
 have sc:aC ["self"] ["self"] (ax i4):=by walk_at "s"
 symm;obtain⟨x,ms,wv,e,rfl,⟨g,a,b,i,c,j,k,d⟩,q⟩:=h;have e:=hr.units;calc⟨_,(ak (aD (cX cI rfl T.dP wF (af (bE (aq 0) rfl) aa)))),?_⟩;calc fld c T.cL T.zH Yy ?_;right;calc⟨_,.inr (bQ.of d),λl e=>q l e⟩
theorem YD{l:List Int}(h:l.length=1):∃a,l=[a]:=List.length_eq_one_iff.mp h
abbrev i5:Stmt:=top 22
inductive uW(K:W.Frag)(vs:List V)(H:Hp)(Q:VK):Prop
 |mk (x:_) (st:_) (way:_) (said:_) (v:_) (ns:_) (row:_) (n:_) (h0:vs=[x,st,.int way,.int said]) (h1:HT H n x (Val.dv v)) (h2:xG K H st ns row) (h3:v.ok ns.length) (h4:Q (.int (rN ns row way said v)) H):uW K vs H Q
def xZ(K:W.Frag):Sp:=λvs H Q _=>uW K vs H Q
theorem tZ(D:cS K mg "plain_worth" "plain_worth" i5 ["value","state","way","said"])(T:Tx K mg C CN CR F FD):Def P w K mg base "plain_worth" 1 ["value","state","way","said"] (xZ K):=by
 have sc:aC ["value","state","way","said","word"] ["value","state","way","said"] (ax i5):=by walk_at "s"
 symm;obtain⟨x,st,way,g,v,ns,row,n,rfl,k,G,t,q⟩:=h;have b:=hr.units;refine⟨_,(ag (aZ (i:=4) sc.nd rfl Sort (aj b (aq 0) ai))
  (ag (aS (az (ba b) (aq 4) aB (aE _)) (ak (aD (aj b (aq 0) ai))) aG)
  (ag (aS (az (ba b) (aq 4) aB (aE _)) (ak (aD (aj b (aj b (aq 1) ai) (aj b (aq 0) ai)))) aG)
  (ag (aS (az (ba b) (aq 4) aB (aE _)) (ak (aD (aq 3))) aG)
  (ag (aS (az (ba b) (aq 4) aB (aE _)) (ak (aD (aq 2))) aG)
  (ak (aD (Ed (az mr (aV aL rfl T.bT L' (af (aj b (aq 1) ai) aa)) ai (aE _)) (aj b (aj b (aq 1) ai) ai) ai)))))))),?_⟩
 obtain⟨a,L,M,rfl,u,y,l⟩:=G
 cases v with
 |is z=>
  nofun;obtain⟨p,m,J,o,rfl,c,d,B⟩:=dF k;obtain rfl:=d.cV;obtain rfl:=B.cP;ac_rfl;walk_at "jd";refine cD _ _ (.inr (bQ.of c)) rfl ?_;walk_at "jd"
  try rw[if_pos ⋯]
  calc⟨_,_,.inr (bQ.of c),rfl,q⟩
 |number i=>
  nofun;obtain⟨p,m,J,o,rfl,c,d,B⟩:=dF k;obtain rfl:=d.cV;obtain rfl:=B.cP;obtain⟨j,rfl⟩:=aar t.1;ac_rfl;have I:j<ns.length:=by have:=t.2;lia
  walk_at "jd";refine cD _ _ (.inr (bQ.of c)) rfl ?_;walk_at "jd"
  try rw[if_neg ⋯]
  left
  try rw[if_pos ⋯]
  calc⟨_,_,.inr (bQ.of u),rfl,_,_,.inr (bQ.of c),rfl,?_⟩;calc⟨_,.int ns[j],y,ay (by rw[List.getElem?_map,dw I];rfl),?_⟩;have e:rN ns row way g (.number j)=ns[j]:=by
   show ns.getD (j:Int).toNat 0=ns[j];simp[List.getD_eq_getElem?_getD,dw I]
  rw[e]at q;calc q
 |mw=>
  nofun;obtain⟨p,m,o,rfl,c,d⟩:=iY k;obtain rfl:=d.cV;ac_rfl;walk_at "jd";refine cD _ _ (.inr (bQ.of c)) rfl ?_;walk_at "jd"
  try rw[if_neg ⋯]
  left
  try rw[if_neg ⋯]
  left
  try rw[if_pos ⋯]
  calc q
 |way=>
  nofun;obtain⟨p,m,o,rfl,c,d⟩:=iY k;obtain rfl:=d.cV;ac_rfl;walk_at "jd";refine cD _ _ (.inr (bQ.of c)) rfl ?_;walk_at "jd"
  try rw[if_neg ⋯]
  left
  try rw[if_neg ⋯]
  left
  try rw[if_neg ⋯]
  left
  try rw[if_pos ⋯]
  calc q
 |first=>
  nofun;obtain⟨p,m,o,rfl,c,d⟩:=iY k;obtain rfl:=d.cV;ac_rfl;walk_at "jd";refine cD _ _ (.inr (bQ.of c)) rfl ?_;walk_at "jd"
  try rw[if_neg ⋯]
  left
  try rw[if_neg ⋯]
  left
  try rw[if_neg ⋯]
  left
  try rw[if_neg ⋯]
  calc cD _ _ (.inr (bQ.of u)) rfl ?_;refine bA _ (l.elim (λz=>.inl ⟨_,z,rfl⟩) (λz=>.inr ⟨_,z,rfl⟩)) ?_
  cases row with
  |nil=>
   left;rw[if_neg nofun];calc q
  |cons r b=>
   left;rw[if_pos nofun];calc⟨_,_,.inr (bQ.of u),rfl,_,_,l,ay (j:=0) rfl,q⟩
abbrev mI:Stmt:=top 23
inductive uX(K:W.Frag)(vs:List V)(H:Hp)(Q:VK):Prop
 |mk (x:_) (st:_) (way:_) (said:_) (m:_) (v:_) (ns:_) (row:_) (n:_) (h0:vs=[x,st,.int way,.int said,.int m]) (h1:HT H n x (Val.dv v)) (h2:xG K H st ns row) (h3:v.ok ns.length) (h4:0<m) (h5:Q (.int (rN ns row way said v%m)) H):uX K vs H Q
def x6(K:W.Frag):Sp:=λvs H Q _=>uX K vs H Q
theorem zP(D:cS K mg "worth_of" "worth_of" mI ["value","state","way","said","modulus"])(T:Tx K mg C CN CR F FD)(i:Def P w K mg base "plain_worth" 1 ["value","state","way","said"] (xZ K)):Def P w K mg base "worth_of" 2 ["value","state","way","said","modulus"] (x6 K):=by
 have sc:aC ["value","state","way","said","modulus"] ["value","state","way","said","modulus"] (ax mI):=by walk_at "s"
 symm;obtain⟨x,st,b,a,m,v,ns,row,n,rfl,c,d,e,g,q⟩:=h;have j:=hr.units;refine⟨_,(ak (aD (bc eO (aK i hr (af (aq 0) (af (aq 1) (af (aq 2) (af (aq 3) aa))))) (aq 4)))),?_⟩;walk_at "jd";exact⟨x,st,b,a,v,ns,row,n,rfl,c,d,e,g,q⟩
abbrev kN:Stmt:=top 30
inductive VL(H:Hp)(n:Nat):List V->List Val->Prop
 |nil:VL H n [] []
 |cons {x v xs vs}:HT H n x (Val.dv v)->VL H n xs vs->VL H n (x::xs) (v::vs)
theorem VL.same{H H':Hp}{n:Nat}(s:cg H H'){xs:List V}{vs:List Val}(h:VL H n xs vs):VL H' n xs vs:=by
 induction h with
 |nil=>calc .nil
 |cons a _ b=>calc .cons (a.aH s) b
theorem VL.snoc{H:Hp}{n:Nat}{xs:List V}{vs:List Val}{x:V}{v:Val}(h:VL H n xs vs)(a:HT H n x v.dv):VL H n (xs++[x]) (vs++[v]):=by
 induction h with
 |nil=>calc .cons a .nil
 |cons a _ b=>calc .cons a b
theorem VL.len{H:Hp}{n:Nat}{xs:List V}{vs:List Val}(h:VL H n xs vs):xs.length=vs.length:=by
 induction h with
 |nil=>rfl
 |cons _ _ a=>simp[a]
inductive PL(H:Hp)(n:Nat):List V->List (Option Val)->Prop
 |nil:PL H n [] []
 |str {w xs os}:PL H n xs os->PL H n (.str w::xs) (none::os)
 |int {i xs os}:PL H n xs os->PL H n (.int i::xs) (none::os)
 |val {x v xs os}:HT H n x (Val.dv v)->PL H n xs os->PL H n (x::xs) (some v::os)
theorem PL.get{H:Hp}{n:Nat}{xs:List V}{b:List (Option Val)}(h:PL H n xs b):∀{i:Nat}{x:V},xs[i]?=some x->∃o,b[i]?=some o/\((o=none/\((∃w,x=.str w)\/∃j,x=.int j))\/∃v,o=some v/\HT H n x (Val.dv v)):=by
 induction h with
 |nil=>intro i x h;simp at h
 |str _ a=>
  intro i x h
  cases i with
  |zero=>cases h;calc⟨none,rfl,.inl ⟨rfl,.inl ⟨_,rfl⟩⟩⟩
  |succ i=>calc a h
 |int _ a=>
  intro i x h
  cases i with
  |zero=>cases h;calc⟨none,rfl,.inl ⟨rfl,.inr ⟨_,rfl⟩⟩⟩
  |succ i=>calc a h
 |val c _ a=>
  intro i x h
  cases i with
  |zero=>cases h;calc⟨some _,rfl,.inr ⟨_,rfl,c⟩⟩
  |succ i=>calc a h
theorem PL.len{H:Hp}{n:Nat}{xs:List V}{a:List (Option Val)}(h:PL H n xs a):xs.length=a.length:=by
 induction h with
 |nil=>rfl
 |str _ a=>simp[a]
 |int _ a=>simp[a]
 |val _ _ a=>simp[a]
theorem Bt{H:Hp}{n:Nat}{x:V}{d:bG}(h:HT H n x d.dv):∃a xs j b,x=.ref a/\H a=some (.tup xs)/\PL H b xs j/\j.filterMap id=d.vals/\xs.length<=4:=by
 cases d with
 |set i v=>
  nofun;obtain⟨a,k,l,m,b,rfl,c,e,f,g⟩:=cm h;obtain rfl:=e.cV;obtain rfl:=f.cP;ac_rfl;calc⟨a,_,_,b,rfl,c,.str (.int (.val g .nil)),rfl,nofun⟩
 |add i v=>
  nofun;obtain⟨a,k,l,m,b,rfl,c,e,f,g⟩:=cm h;obtain rfl:=e.cV;obtain rfl:=f.cP;ac_rfl;calc⟨a,_,_,b,rfl,c,.str (.int (.val g .nil)),rfl,nofun⟩
 |times i v=>
  nofun;obtain⟨a,k,l,m,b,rfl,c,e,f,g⟩:=cm h;obtain rfl:=e.cV;obtain rfl:=f.cP;ac_rfl;calc⟨a,_,_,b,rfl,c,.str (.int (.val g .nil)),rfl,nofun⟩
 |put v=>
  nofun;obtain⟨a,k,l,b,rfl,c,e,f⟩:=dF h;obtain rfl:=e.cV;ac_rfl;calc⟨a,_,_,b,rfl,c,.str (.val f .nil),rfl,nofun⟩
 |drop=>
  nofun;obtain⟨a,k,b,rfl,c,e⟩:=iY h;obtain rfl:=e.cV;ac_rfl;calc⟨a,_,_,b,rfl,c,.str (.nil),rfl,nofun⟩
 |send j v=>
  nofun;obtain⟨a,k,l,m,b,rfl,c,e,f,g⟩:=cm h;obtain rfl:=e.cV;obtain rfl:=f.cP;ac_rfl;calc⟨a,_,_,b,rfl,c,.str (.int (.val g .nil)),rfl,nofun⟩
 |say v=>
  nofun;obtain⟨a,k,l,b,rfl,c,e,f⟩:=dF h;obtain rfl:=e.cV;ac_rfl;calc⟨a,_,_,b,rfl,c,.str (.val f .nil),rfl,nofun⟩
 |skip v i j=>
  nofun;obtain⟨a,k,l,m,p,b,rfl,c,e,f,g,o⟩:=oa h;obtain rfl:=e.cV;obtain rfl:=o.cP;ac_rfl;calc⟨a,_,_,b,rfl,c,.str (.val f (.val g (.int .nil))),rfl,nofun⟩
inductive x8(vs:List V)(H:Hp)(Q:VK):Prop
 |mk (x:_) (n:_) (d:_) (h0:vs=[x]) (h1:HT H n x (bG.dv d)) (h2:∀l zs k0 H',au H H'->H l=none->H' l=some (.lst zs)->VL H' k0 zs d.vals->Q (.ref l) H'):x8 vs H Q
def Bu:Sp:=λvs H Q _=>x8 vs H Q
theorem x9(D:cS K mg "values_of" "values_of" kN ["deed"])(T:Tx K mg C CN CR F FD):Def P w K mg base "values_of" 1 ["deed"] Bu:=by
 have sc:aC ["deed"] ["deed"] (ax kN):=by walk_at "s"
 symm;obtain⟨x,n,d,rfl,B,q⟩:=h;have hu:=hr.units;refine⟨_,(ak (aD (cO (N':=["part"]) (ix:=[none]) (bS (pv 0)) (λ_ _ _ _=>(aN (i:=0) (show(["part"]:List Str).Nodup by decide +kernel) rfl Sort)) (λ_ _ _ _=>(iN (bC (aV (uN (K:=K) rfl) rfl T.aY uj (af (aq 0) (af (cF (v:=.ty "tuple") rfl T.bW oK rfl) aa)))))) (λ_ _ _ _=>(aq 0))))),?_⟩;obtain⟨a,k,u,G,rfl,p,I,R,T⟩:=Bt B;left;refine bF ?_;left;refine .inr ⟨⟨_,bQ.of p⟩,λD y=>?_⟩;refine aX (J:=RI K a) (n:=k.length) (λi ys H'=>au H H'/\VL H' G ys ((u.take i).filterMap id)) (E' (aA ())) ⟨au.new _ y,.nil⟩ ?_ ?_ ?_ ?_
 ·rintro i ys H' z ⟨g,_⟩;exact⟨k,k[i],bQ.of (g _ _ p),dw z⟩
 ·rintro ys H' ⟨g,_⟩;exact⟨k,bQ.of (g _ _ p),K' _⟩
 ·intro i ys H' z l L S x r U;nofun;obtain⟨g,m⟩:=S;obtain⟨rfl,n⟩:=U;have B:=n k (bQ.of (g _ _ p));obtain⟨o,S,X⟩:=I.get B;ac_rfl;have M:u.take (i+1)=u.take i++[o]:=by
   rw[List.take_add_one,S];rfl
  walk_at "xf";left;rcases X with⟨rfl,Y⟩|⟨v,rfl,Z⟩
  ·have YF:∃t,gA K r x t/\W.kitOne K t (.type "tuple")=some false:=by
    rcases Y with⟨w,rfl⟩|⟨j,rfl⟩
    ·exact⟨_,.str w,rfl⟩
    ·exact⟨_,.int j,rfl⟩
   obtain⟨t,i,j⟩:=YF;refine cD t false i j ?_
   first|calc⟨false,rfl,?_⟩|skip
   left
   try rw[if_neg Bool.false_ne_true]
   exact⟨ys,l,(),g,by rw[M];simpa using m⟩
  ·have N:=Z.aH g.aP;obtain⟨b,zs,rfl,i⟩:=A0 N;refine cD _ true (.tup i) rfl ?_
   first|calc⟨true,rfl,?_⟩|skip
   left
   try first|rw[if_pos rfl]|rw[if_pos trivial]
   calc bR l L z (E' (aA ())) ⟨λc o e=>by rw[av (ao e y)];calc g _ _ e,?_⟩;rw[M,List.filterMap_append];have O:cg r (upd r D (.lst (ys++[.ref b]))):=(cg.refl r).upd λzs e=>by rw[l]at e;cases e
   exact(m.same O).snoc (N.aH O)
 ·rintro ys H' l L ⟨g,m⟩;rw[I.len,List.take_length,R]at m;calc q _ ys G _ g y l m
theorem vW{H:Hp}{n:Nat}{x:V}{d:bG}(f:HT H n x d.dv):∃a l,x=.ref a/\H a=some (.tup (.str d.word::l)):=by
  cases d with
  |drop=>
    obtain⟨g,h,i,b,c,e⟩:=iY f;obtain rfl:=e.cV;calc⟨_,_,b,c⟩
  |skip v l n=>
    obtain⟨g,h,j,m,l,i,b,c,e,k,o,n⟩:=oa f;obtain rfl:=e.cV;calc⟨_,_,b,c⟩
  |_=>
    first
    | (obtain⟨g,h,j,m,i,b,c,e,k,o⟩:=cm f
       obtain rfl:=e.cV;calc⟨_,_,b,c⟩)
    | (obtain⟨g,h,j,i,b,c,e,k⟩:=dF f
       obtain rfl:=e.cV;calc⟨_,_,b,c⟩)
theorem Gm(e:d.word="put"):d.vals.length=1/\∀row x,nY row x d=if row.length<12 then row++[x] else row:=by
 cases d<;>first|calc absurd e (by simp only[bG.word];decide)|calc⟨rfl,λ_ _=>rfl⟩
theorem Df(e:d.word="drop"):∀row x,nY row x d=row.tail:=by
 cases d<;>first|calc absurd e (by simp only[bG.word];decide)|calc λ_ _=>rfl
theorem Gn(e:¬d.word="put")(a:¬d.word="drop"):∀row x,nY row x d=row:=by
 cases d<;>first|calc λ_ _=>rfl|calc absurd rfl e|calc absurd rfl a
theorem Dg{n:Nat}(b:HT H n (.ref a) d.dv)(e:d.word="skip"):∃u v k,H a=some (.tup [.str "skip",u,v,.int k])/\d.vals.length=2/\∀x y,nZ x y d=if x<y then k else 0:=by
 cases d<;>first|calc absurd e (by simp only[bG.word];decide)|skip
 obtain⟨i,j,k,l,m,n,c,f,g,o,p,h⟩:=oa b;obtain rfl:=V.ref.inj c;obtain rfl:=g.cV;obtain rfl:=h.cP;calc⟨_,_,_,f,rfl,λ_ _=>rfl⟩
theorem yb(e:¬d.word="skip"):∀x y,nZ x y d=0:=by
 cases d<;>first|calc λ_ _=>rfl|calc absurd rfl e
theorem oh{n k:Nat}(h:k<n):zi n (k:Int)=some k:=by
 unfold zi;rw[if_pos (),if_pos ()];simp
theorem ia{ws:List Int}{j:Nat}(h:j<ws.length):iJ (ws.map V.int) ((j:Nat):Int)=some (.int (ws.getD j 0)):=ay (by rw[List.getElem?_map,aQ (d:=0) h];rfl)
theorem Bv{M:Int}{l:List Int}(h:∀z∈l,0<=z/\z<M){j:Nat}(a:j<l.length):0<=l.getD j 0/\l.getD j 0<M:=h _ (DD.getD_mem a)
def sr(M:Int)(ns row:List Int)(x y:Int)(d:bG):List Int×List Int×List (Int×Int)×List Int×Int:=(jF M ns x d,nY row x d,g9 x d,fZ x d,nZ x y d)
inductive Tt(H:Hp)(a:Addr)(m:Int)(d:bG):Prop
 |set (j:Nat) (u:V) (hj:(j:Int)<m) (h:H a=some (.tup [.str "set",.int j,u])) (hl:d.vals.length=1) (e:∀M ns row x y,sr M ns row x y d=(ns.set j x,row,[],[],0))
 |add (j:Nat) (u:V) (hj:(j:Int)<m) (h:H a=some (.tup [.str "add",.int j,u])) (hl:d.vals.length=1) (e:∀M ns row x y,sr M ns row x y d=(ns.set j ((ns.getD j 0+x)%M),row,[],[],0))
 |times (j:Nat) (u:V) (hj:(j:Int)<m) (h:H a=some (.tup [.str "times",.int j,u])) (hl:d.vals.length=1) (e:∀M ns row x y,sr M ns row x y d=(ns.set j ((ns.getD j 0*x)%M),row,[],[],0))
 |put (u:V) (h:H a=some (.tup [.str "put",u])) (hl:d.vals.length=1) (e:∀M ns row x y,sr M ns row x y d=(ns,if row.length<12 then row++[x] else row,[],[],0))
 |drop (h:H a=some (.tup [.str "drop"])) (e:∀M ns row x y,sr M ns row x y d=(ns,row.tail,[],[],0))
 |send (j:Int) (u:V) (h:H a=some (.tup [.str "send",.int j,u])) (hl:d.vals.length=1) (e:∀M ns row x y,sr M ns row x y d=(ns,row,[(j,x)],[],0))
 |say (u:V) (h:H a=some (.tup [.str "say",u])) (hl:d.vals.length=1) (e:∀M ns row x y,sr M ns row x y d=(ns,row,[],[x],0))
 |skip (u v:V) (k:Nat) (h:H a=some (.tup [.str "skip",u,v,.int k])) (hl:d.vals.length=2) (e:∀M ns row x y,sr M ns row x y d=(ns,row,[],[],if x<y then(k:Int) else 0))
theorem uY{H:Hp}{n:Nat}{a:Addr}{d:bG}{m:Int}(k:HT H n (.ref a) d.dv)(l:d.ok m):Tt H a m d:=by
 cases d with
 |set i v=>
  obtain⟨o,p,g,h,q,b,c,e,f,s⟩:=cm k;obtain rfl:=V.ref.inj b;obtain rfl:=e.cV;obtain rfl:=f.cP;obtain⟨r,rfl⟩:=aar l.1;calc .set r h l.2.1 c rfl λ_ _ _ _ _=>rfl
 |add i v=>
  obtain⟨o,p,g,h,q,b,c,e,f,s⟩:=cm k;obtain rfl:=V.ref.inj b;obtain rfl:=e.cV;obtain rfl:=f.cP;obtain⟨r,rfl⟩:=aar l.1;calc .add r h l.2.1 c rfl λ_ _ _ _ _=>rfl
 |times i v=>
  obtain⟨o,p,g,h,q,b,c,e,f,s⟩:=cm k;obtain rfl:=V.ref.inj b;obtain rfl:=e.cV;obtain rfl:=f.cP;obtain⟨r,rfl⟩:=aar l.1;calc .times r h l.2.1 c rfl λ_ _ _ _ _=>rfl
 |put v=>
  obtain⟨o,p,g,q,b,c,e,f⟩:=dF k;obtain rfl:=V.ref.inj b;obtain rfl:=e.cV;calc .put g c rfl λ_ _ _ _ _=>rfl
 |drop=>
  obtain⟨o,p,q,b,c,e⟩:=iY k;obtain rfl:=V.ref.inj b;obtain rfl:=e.cV;calc .drop c λ_ _ _ _ _=>rfl
 |send j v=>
  obtain⟨o,p,g,h,q,b,c,e,f,s⟩:=cm k;obtain rfl:=V.ref.inj b;obtain rfl:=e.cV;obtain rfl:=f.cP;calc .send j h c rfl λ_ _ _ _ _=>rfl
 |say v=>
  obtain⟨o,p,g,q,b,c,e,f⟩:=dF k;obtain rfl:=V.ref.inj b;obtain rfl:=e.cV;calc .say g c rfl λ_ _ _ _ _=>rfl
 |skip v i j=>
  obtain⟨o,p,g,h,i,q,b,c,e,f,s,t⟩:=oa k;obtain rfl:=V.ref.inj b;obtain rfl:=e.cV;obtain rfl:=t.cP;obtain⟨r,rfl⟩:=aar (Int.le_trans ∅ l.2.2.1);calc .skip g h r c rfl λ_ _ _ _ _=>rfl
abbrev gg:Stmt:=top 38
inductive Bw(vs:List V)(H:Hp)(Q:VK):Prop
 |mk (an:Addr) (x:V) (l:Addr) (ns ws:List Int) (M:Int) (n:Nat) (d:bG) (h0:vs=[.ref an,x,.ref l,.int M]) (h1:H an=some (.lst (ns.map V.int))) (h2:HT H n x d.dv) (h3:H l=some (.lst (ws.map V.int))) (h4:ws.length=d.vals.length) (h5:d.ok ns.length) (h6:0<M) (h7:M<=1000000000000) (h8:(∀z∈ns,0<=z/\z<M)) (h9:∀H',H' an=some (.lst ((jF M ns (ws.getD 0 0) d).map V.int))->(∀b o,b≠an->H b=some o->H' b=some o)->Q .bP H'):Bw vs H Q
def Gq:Sp:=λvs H Q _=>Bw vs H Q
theorem pG(D:cS K mg "change_numbers" "change_numbers" gg ["numbers","deed","worths","modulus"])(T:Tx K mg C CN CR F FD):Def P w K mg base "change_numbers" 1 ["numbers","deed","worths","modulus"] Gq:=by
 have sc:aC ["numbers","deed","worths","modulus"] ["numbers","deed","worths","modulus"] (ax gg):=by walk_at "s"
 symm;obtain⟨o,x,l,ns,ws,M,n,d,rfl,p,v,y,R,z,B,S,G,q⟩:=h;have g:=hr.units;calc⟨_,(ak (aS (az (ba g) (aj g (aq 1) ai) aB (aE _)) (ak (eY (aj g (aq 2) ai) (iW (aq 0) (aj g (aq 1) ai) dX))) (ak (aS (az (ba g) (aj g (aq 1) ai) aB (aE _)) (ak (eY (bc eO (bc cT (aj g (aq 0) (aj g (aq 1) ai)) (aj g (aq 2) ai)) (aq 3)) (iW (aq 0) (aj g (aq 1) ai) dX))) (ak (aS (az (ba g) (aj g (aq 1) ai) aB (aE _)) (ak (eY (bc eO (bc lN (aj g (aq 0) (aj g (aq 1) ai)) (aj g (aq 2) ai)) (aq 3)) (iW (aq 0) (aj g (aq 1) ai) dX))) aG)))))),?_⟩;nofun;obtain⟨a,W,rfl,i⟩:=vW v;have U:=uY v z;have I:∀c:Nat,((c:Nat):Int) < ns.length->zi (ns.map V.int).length ((c:Nat):Int)=some c/\iJ (ns.map V.int) ((c:Nat):Int)=some (.int (ns.getD c 0))/\0<=ns.getD c 0/\ns.getD c 0 < M:=λc k=>⟨oh (by rw[List.length_map];lia),ia (),Bv G ()⟩
 have J:∀c y,jF M ns (ws.getD 0 0) d=ns.set c y->Q .bP (upd H o (.lst ((ns.map V.int).set c (.int y)))):=λc y E=>q _ (by rw[ab,E,List.map_set]) λb o g e=>by rw[av g];exact e
 have r:jF M ns (ws.getD 0 0) d=ns->Q .bP H:=λE=>q H (by rw[E];calc p) λ_ _ _ e=>e;calc hZ ?_;clear hZ gZ v z i G q
 cases U with
 |set c u k i m E=>
  have L:=ia (ws:=ws) (j:=0) ();obtain⟨t,N,O⟩:=I c k;walk_at "jg";exact cD _ c p t (J _ _ (congrArg Prod.fst (E M ns [] (ws.getD 0 0) 0)))
 |add c u k i m E=>
  have L:=ia (ws:=ws) (j:=0) ();obtain⟨t,N,O⟩:=I c k;walk_at "jg";refine⟨B,?_⟩;walk_at "jg";exact cD _ c p t (J _ _ (congrArg Prod.fst (E M ns [] (ws.getD 0 0) 0)))
 |times c u k i m E=>
  have L:=ia (ws:=ws) (j:=0) ();obtain⟨t,N,O⟩:=I c k;walk_at "jg";refine gC (.inl ⟨(),()⟩) B ?_;walk_at "jg";exact cD _ c p t (J _ _ (congrArg Prod.fst (E M ns [] (ws.getD 0 0) 0)))
 |put u i m E=>walk_at "jg";exact r (congrArg Prod.fst (E M ns [] (ws.getD 0 0) 0))
 |drop i E=>walk_at "jg";exact r (congrArg Prod.fst (E M ns [] (ws.getD 0 0) 0))
 |send j u i m E=>walk_at "jg";exact r (congrArg Prod.fst (E M ns [] (ws.getD 0 0) 0))
 |say u i m E=>walk_at "jg";exact r (congrArg Prod.fst (E M ns [] (ws.getD 0 0) 0))
 |skip u v k i m E=>walk_at "jg";exact r (congrArg Prod.fst (E M ns [] (ws.getD 0 0) 0))
abbrev jU:Stmt:=top 39
inductive Bx(vs:List V)(H:Hp)(Q:VK):Prop
 |mk (an:Addr) (x:V) (l:Addr) (row ws:List Int) (n:Nat) (d:bG) (h0:vs=[.ref an,x,.ref l]) (h1:H an=some (.lst (row.map V.int))) (h2:HT H n x d.dv) (h3:H l=some (.lst (ws.map V.int))) (h4:ws.length=d.vals.length) (h5:row.length<=12) (h6:∀H',H' an=some (.lst ((nY row (ws.getD 0 0) d).map V.int))->(∀b o,b≠an->H b=some o->H' b=some o)->Q .bP H'):Bx vs H Q
def Gr:Sp:=λvs H Q _=>Bx vs H Q
theorem vX(D:cS K mg "change_row" "change_row" jU ["row","deed","worths"])(T:Tx K mg C CN CR F FD):Def P w K mg base "change_row" 1 ["row","deed","worths"] Gr:=by
 have sc:aC ["row","deed","worths"] ["row","deed","worths"] (ax jU):=by walk_at "s"
 symm;obtain⟨B,x,l,row,ws,n,d,rfl,c,t,G,y,g,q⟩:=h;have i:=hr.units;calc⟨_,(ak (aS (PW.pt (pw_and (az (ba i) (aj i (aq 1) ai) aB (aE _)) (pw_and1 (az gB (aV aL rfl T.bT L' (af (aq 0) aa)) (fG T.fb rfl) (aE _))))) (ak (bJ (de lS oF oG bU (aq 0) (af (aj i (aq 2) ai) aa)))) (ak (aS (PW.pt (pw_and (az (ba i) (aj i (aq 1) ai) aB (aE _)) (pw_and1 (az mr (aV aL rfl T.bT L' (af (aq 0) aa)) ai (aE _))))) (ak (J2 (aq 0) ai)) aG)))),?_⟩;obtain⟨a,I,rfl,p⟩:=vW t;by_cases k:d.word="put"
 ·obtain⟨g,u⟩:=Gm k;rw[k] at p;have g:=ia (ws:=ws) (j:=0) ();rw[u] at q;walk_at "jg";refine bA _ (.inl ⟨_,aO.of c,rfl⟩) ?_;rw[List.length_map];by_cases z:row.length < 12
  ·rw[if_pos z]at q;left;rw[if_pos (by simp;lia)];walk_at "jg";refine⟨.inl ⟨rfl,_,aO.of c⟩,?_⟩;walk_at "jg";refine gw _ c (aaA (by simp;lia) (aA (n:=100) ())) ?_;exact q _ (by rw[ab,List.map_append];rfl) λb o v e=>by rw[av v];exact e
  ·rw[if_neg z]at q;left;rw[if_neg (by simp;lia)];walk_at "jg";exact q H c λ_ _ _ e=>e
 by_cases m:d.word="drop"
 ·rw[m] at p;rw[Df m] at q;walk_at "jg";refine bA _ (.inl ⟨_,aO.of c,rfl⟩) ?_;clear k m t y
  cases row with
  |nil=>
   left
   try rw[if_neg nofun]
   calc q H c λ_ _ _ e=>e
  |cons r g=>
   left;rw[if_pos nofun];walk_at "jg";refine Yo _ _ _ 0 rfl rfl c ∅ ∅ (by simp[seqIndex?]) ?_;exact q _ ab λb o v e=>by rw[av v];exact e
 ·rw[Gn k m]at q;left;calc cZ p (ay (j:=0) rfl) ?_;left;rw[if_neg λz=>k (of_decide_eq_true z)];left;calc cZ p (ay (j:=0) rfl) ?_;left;rw[if_neg λz=>m (of_decide_eq_true z)];left;calc q H c λ_ _ _ e=>e
abbrev mJ:Stmt:=top 40
inductive yc(vs:List V)(H:Hp)(Q:VK):Prop
 |mk (x:V) (l:Addr) (ws:List Int) (n:Nat) (d:bG) (h0:vs=[x,.ref l]) (h1:HT H n x d.dv) (h2:H l=some (.lst (ws.map V.int))) (h3:ws.length=d.vals.length) (h4:Q (.int (nZ (ws.getD 0 0) (ws.getD 1 0) d)) H):yc vs H Q
def By:Sp:=λvs H Q _=>yc vs H Q
theorem zR(D:cS K mg "left_out" "left_out" mJ ["deed","worths"])(T:Tx K mg C CN CR F FD):Def P w K mg base "left_out" 1 ["deed","worths"] By:=by
 have sc:aC ["deed","worths"] ["deed","worths"] (ax mJ):=by walk_at "s"
 symm;obtain⟨x,l,ws,n,d,rfl,c,b,i,q⟩:=h;have b:=hr.units;refine⟨_,(ag (aS (PW.pt (pw_and (az (ba b) (aj b (aq 0) ai) aB (aE _)) (pw_and1 (az gB (aj b (aq 1) ai) (aj b (aq 1) ai) (aE _))))) (ak (aD (aj b (aq 0) ai))) aG)
  (ak (aD ai))),?_⟩
 obtain⟨a,o,rfl,k⟩:=vW c;by_cases e:d.word="skip"
 ·obtain⟨u,v,b,k,l,m⟩:=Dg c e;rw[m] at q;have b:=ia (ws:=ws) (j:=0) ();have b:=ia (ws:=ws) (j:=1) ();clear c i m e;walk_at "jg";by_cases g:ws.getD 0 0 < ws.getD 1 0
  ·rw[if_pos g]at q;left;rw[if_pos (decide_eq_true g)];walk_at "jg";exact q
  ·rw[if_neg g]at q;left;rw[if_neg λz=>g (of_decide_eq_true z)];left;exact q
 ·rw[yb e]at q;left;calc cZ k (ay (j:=0) rfl) ?_;left;rw[if_neg λz=>e (of_decide_eq_true z)];left;calc q
theorem Gs{d:TT}{f:TS}{D:Ends}(e:St->Hp->Prop)(μ:St->Nat)(h:e σ H)
  (i:∀σ H,e σ H->d σ H λb H1=>if b=true then ∃N:St->Hp->Prop,(∀a H',N a H'->e a H'/\μ a<μ σ)/\f {D with nx:=N,ct:=N,bk:=D.nx} σ H1 else D.nx σ H1)
  (c:∀σ H (Q g:Bool->Hp->Prop),(∀b H1,Q b H1->g b H1)->d σ H Q->d σ H g):vq d f D σ H:=by
 calc⟨λm σ H=>m=μ σ/\e σ H,⟨_,rfl,h⟩,?_⟩;rintro m σ H ⟨rfl,p⟩;refine c σ H _ _ (λb H1 q=>?_) (i σ H p)
 cases b with
 |true=>
  obtain⟨N,c,d⟩:=q;calc⟨N,λa H' n=>⟨_,(c a H' n).2,rfl,(c a H' n).1⟩,d⟩
 |false=>calc q
def SL(H:Hp)(a:List V)(b:List (Int×Int)):Prop:=a.length=b.length/\∀(i:Nat) z p,a[i]?=some z->b[i]?=some p->HT H 1 z (.tup [.int p.1,.int p.2])
theorem SL.aH(s:cg H H'){a:List V}{b:List (Int×Int)}(h:SL H a b):SL H' a b:=⟨h.1,λi z p a b=>(h.2 i z p a b).aH s⟩
theorem SL.snoc{H:Hp}{c:List V}{d:List (Int×Int)}{z:V}{j w:Int}(h:SL H c d)(g:HT H 1 z (.tup [.int j,.int w])):SL H (c++[z]) (d++[(j,w)]):=by
 calc⟨by simp[h.1],λi j p a b=>?_⟩;by_cases e:i<c.length
 ·rw[List.getElem?_append_left e]at a;rw[List.getElem?_append_left (by rw[<-h.1];calc e)]at b;exact h.2 i j p a b
 ·rw[List.getElem?_append_right ()] at a;rw[List.getElem?_append_right (by rw[<-h.1];lia)] at b;rw[h.1] at a
  cases f:i-d.length with
  |zero=>rw[f]at a b;cases a;cases b;calc g
  |succ k=>rw[f]at a;simp at a
structure Res(H H':Hp)(x:V)(s:WS):Prop where
 ex:∃p st l1 l2 zs,x=.ref p/\H' p=some (.tup [st,.ref l1,.ref l2])/\HT H' 2 st (xE s.ns s.row)/\H' l1=some (.lst zs)/\SL H' zs s.cJ/\H' l2=some (.lst (s.words.map V.int))/\H l1=none/\H l2=none/\l1≠l2
theorem Bz{M w:Int}(e:0<M)(b:∀z∈ns,0<=z/\z<M)(f:0<=w/\w<M):∀z∈jF M ns w d,0<=z/\z<M:=by
 have a:∀(j:Nat) (y:Int),(0<=y/\y<M)->∀z∈ns.set j y,0<=z/\z<M:=λj y g z i=>by
  rcases List.mem_or_eq_of_mem_set i with h|h
  ·exact b z h
  ·rw[h];exact g
 have c:∀y:Int,0<=y%M/\y%M<M:=λy=>⟨aaD _ (),aau _ e⟩
 cases d with
 |set i v=>calc a _ _ f
 |add i v=>calc a _ _ (c _)
 |times i v=>calc a _ _ (c _)
 |_=>calc b
theorem Gu{w:Int}{row:List Int}{d:bG}(h:row.length<=12):(nY row w d).length<=12:=by
 cases d with
 |put v=>
  show(if row.length<12 then row++[w] else row).length<=12;split
  ·simp;lia
  ·calc h
 |drop=>show row.tail.length<=12;simp;lia
 |_=>calc h
theorem Gv{m w w':Int}{d:bG}(h:d.ok m):0<=nZ w w' d:=by
 cases d with
 |skip v u k=>
  show 0<=(if w<w' then k else 0)
  split
  ·exact Int.le_trans ∅ h.2.2.1
  ·calc Int.le_refl _
 |_=>calc Int.le_refl _
theorem oj(h:d.ok m):∀v∈d.vals,v.ok m:=by
 intro v a
 cases d<;>simp only[bG.vals,List.mem_cons,List.not_mem_nil,or_false]at a
 case set=>subst a;exact h.2.2
 case add=>subst a;exact h.2.2
 case times=>subst a;exact h.2.2
 case put=>subst a;exact h
 case send=>subst a;exact h.2
 case say=>subst a;exact h
 case skip=>rcases a with rfl|rfl;calc h.1;calc h.2.1
theorem VL.get{H:Hp}{n:Nat}{xs:List V}{vs:List Val}(h:VL H n xs vs):∀{i:Nat}{x:V},xs[i]?=some x->∃v,vs[i]?=some v/\HT H n x (Val.dv v):=by
 induction h with
 |nil=>intro i x h;simp at h
 |cons a _ b=>
  intro i x h
  cases i with
  |zero=>cases h;calc⟨_,rfl,a⟩
  |succ i=>calc b h
theorem yd:d.vals.length<=2:=by cases d<;>simp[bG.vals]
theorem uZ{M way said:Int}{ns row:List Int}{vs:List Val}{i:Nat}(a:0<M):0<=(vs.map (fH M way said ns row)).getD i 0/\(vs.map (fH M way said ns row)).getD i 0<M:=by
 rw[List.getD_eq_getElem?_getD,List.getElem?_map]
 cases vs[i]? with
 |none=>calc⟨Int.le_refl _,a⟩
 |some v=>calc⟨aaD _ (),aau _ a⟩
theorem sk1{a:Nat}{k:Int}(h:0<=k):(a:Int)+(1+k)=((a+1+k.toNat:Nat):Int):=by lia
theorem sk2{α:Type}{x:α}{xs:List α}{a k f:Nat}(h:(x::xs.drop (a+1)).length<=f+1):(xs.drop (a+1+k)).length<=f:=by
 rw[List.length_drop];rw[List.length_cons,List.length_drop]at h;lia
theorem sk3{n a:Nat}{k:Int}(b:a<n)(h:0<=k):n-((a:Int)+(1+k)).toNat<n-a:=by lia
theorem Kq{n:Nat}{w:Int}(h:HT H n (.ref a) d.dv)(e:d.word="send"):∃j u,H a=some (.tup [.str "send",.int j,u])/\g9 w d=[(j,w)]/\fZ w d=[]/\d.vals.length=1:=by
 cases d<;>first|calc absurd e (by simp only[bG.word];decide)|skip
 obtain⟨g,i,j,k,l,z,b,c,f,m⟩:=cm h;obtain rfl:=L2.V.ref.inj z;obtain rfl:=f.cP;obtain rfl:=c.cV;calc⟨_,_,b,rfl,rfl,rfl⟩
theorem OK{w:Int}(e:d.word="say"):fZ w d=[w]/\d.vals.length=1:=by
 cases d<;>first|calc absurd e (by simp only[bG.word];decide)|calc⟨rfl,rfl⟩
theorem ye{w:Int}:(g9 w d).length<=1/\(fZ w d).length<=1:=by cases d<;>simp[g9,fZ]
theorem Kr{w:Int}(e:¬d.word="send"):g9 w d=[]:=by cases d<;>first|rfl|exact absurd rfl e
theorem Gw{w:Int}(e:¬d.word="say"):fZ w d=[]:=by cases d<;>first|rfl|exact absurd rfl e
theorem yf{l:List Int}(h:0<l.length):l[0]?=some (l.getD 0 0):=by
 cases l with
 |nil=>simp at h
 |cons a r=>rfl
abbrev gh:Stmt:=(bV (top 41)).getD 4 (.Pass ⟨0,0,0,0⟩)
def muW(n:Nat)(σ:St):Nat:=match σ[8]? with
 |some (some (V.int i))=>n-i.toNat
 |_=>0
inductive su(K:W.Frag)(C:Addr)(vs:List V)(H:Hp)(Q:VK):Prop
 |mk (m:Addr) (st:V) (way said M:Int) (YI CK:List Int) (ds:List bG) (ns row:List Int) (h0:vs=[.ref m,st,.int way,.int said]) (h1:jR C H m M YI CK ds) (h2:xG K H st ns row) (h3:2<=M) (h4:M<=1000000000000) (h5:(∀z∈ns,0<=z/\z<M)) (h6:row.length<=12) (h7:ds.length<=24) (h8:(∀d∈ds,d.ok ns.length)) (h9:∀x H',au H H'->Res H H' x (n0 M way said ds ns row)->Q x H'):su K C vs H Q
def u9(K:W.Frag)(C:Addr):Sp:=λvs H Q _=>su K C vs H Q
inductive OL(H:Hp)(m:Addr)(st:V)(way said M:Int)(ds:List bG)(ns row:List Int)(σ:St)(H':Hp):Prop
 |mk (an ar gN aw:Addr) (zs:List V) (z9 OM:Option V) (at_:Nat) (s:WS) (f:Nat) (h0:σ=[some (.ref m),some st,some (.int way),some (.int said),some (.ref an),some (.ref ar),some (.ref gN),some (.ref aw),some (.int at_),z9,OM]) (h1:au H H') (h2:H an=none) (h3:H ar=none) (h4:H gN=none) (h5:H aw=none) (h6:an≠ar) (h7:an≠gN) (h8:an≠aw) (h9:ar≠gN) (LU:ar≠aw) (YJ:gN≠aw) (YG:H' an=some (.lst (s.ns.map V.int))) (h13:H' ar=some (.lst (s.row.map V.int))) (h14:H' gN=some (.lst zs)) (h15:SL H' zs s.cJ) (h16:H' aw=some (.lst (s.words.map V.int))) (h17:s.ns.length=ns.length) (h18:(∀z∈s.ns,0<=z/\z<M)) (h19:s.row.length<=12) (h20:s.cJ.length<=at_) (h21:s.words.length<=at_) (h22:xF M way said f (ds.drop at_) s=n0 M way said ds ns row) (h23:(ds.drop at_).length<=f):OL H m st way said M ds ns row σ H'
theorem pH(D:fR K C "worked" "Machine.worked" gh ["self","state","way","said"])(T:Tx K mg C CN CR F FD)(gi:Def P w K mg base "change_numbers" 1 ["numbers","deed","worths","modulus"] Gq)(jV:Def P w K mg base "change_row" 1 ["row","deed","worths"] Gr)(mK:Def P w K mg base "left_out" 1 ["deed","worths"] By)(kO:Def P w K mg base "values_of" 1 ["deed"] Bu)(mL:Def P w K mg base "worth_of" 2 ["value","state","way","said","modulus"] (x6 K)):bZ P w K mg base C "worked" 3 ["self","state","way","said"] (u9 K C):=by
  have sc:aC ["self","state","way","said","numbers","row","sent","words","at","deed","worths"] ["self","state","way","said"] (ax gh):=by walk_at "s"
  symm;obtain⟨m,st,k,c,M,YI,CK,t,ns,row,rfl,hm,uq,C8,pw,hb,og,LO,aW,q⟩:=h;have O:=hr.units;refine⟨_,(ag (aZ (i:=4) sc.nd rfl Sort (cX cI rfl T.dP wF (af (aj O (aq 1) ai) aa)))
    (ag (aZ (i:=5) sc.nd rfl Sort (cX cI rfl T.dP wF (af (aj O (aq 1) ai) aa)))
    (ag (aZ (i:=6) sc.nd rfl Sort (bL aa))
    (ag (aZ (i:=7) sc.nd rfl Sort (bL aa))
    (ag (aZ (i:=8) sc.nd rfl Sort ai)
    (ag (Ej PassesOwn.never (Az gB (pv 8) (aV aL rfl T.bT L' (af (bE (pv 0) rfl) aa)) (aE _))
    (ag (aZ (i:=9) sc.nd rfl Sort (aj O (bE (aq 0) rfl) (aq 8)))
    (ag (eV (i:=10) sc.nd rfl Sort (N':=["value","way","said","numbers","row","self"]) (ix:=[none,some 2,some 3,some 4,some 5,some 0]) (bS (aK kO hr (af (aq 9) aa))) (λ_ _ _ _=>(aN (i:=0) (show(["value","way","said","numbers","row","self"]:List Str).Nodup by decide +kernel) rfl Sort)) kG (λ_ _ _ _=>(aK mL hr (af (aq 0) (af (bH (af (aq 3) (af (aq 4) aa))) (af (aq 1) (af (aq 2) (af (J5 (K:=K) rfl (aq 5) rfl) aa))))))))
    (ag (bJ (aK gi hr (af (aq 4) (af (aq 9) (af (aq 10) (af (bE (aq 0) rfl) aa))))))
    (ag (bJ (aK jV hr (af (aq 5) (af (aq 9) (af (aq 10) aa)))))
    (ag (aS (az (ba O) (aj O (aq 9) ai) aB (aE _)) (ak (bJ (de lS oF oG bU (aq 6) (af (bH (af (aj O (aq 9) ai) (af (aj O (aq 10) ai) aa))) aa)))) (ak (aS (az (ba O) (aj O (aq 9) ai) aB (aE _)) (ak (bJ (de lS oF oG bU (aq 7) (af (aj O (aq 10) ai) aa)))) aG)))
    (ak (Nh (i:=8) sc.nd rfl Sort (bc cT ai (aK mK hr (af (aq 9) (af (aq 10) aa)))) Ni))))))))
    (ak (aD (bH (af (bH (af (cX bN rfl T.bW oK (af (aq 4) aa)) (af (cX bN rfl T.bW oK (af (aq 5) aa)) aa))) (af (aq 6) (af (aq 7) aa)))))))))))),?_⟩
  nofun;obtain⟨dx,stm,dd,DK,hm2,hm3⟩:=hm;obtain⟨ad,xs,rfl,Tu,tX⟩:=Th hm3;obtain⟨sa,sb,Tv,rfl,Tw,YK,YL⟩:=uq;ac_rfl;left;calc cD _ _ (.inr (bQ.of Tw)) rfl ?_;left;calc bA _ YK (λB ON=>?_);have Z:=au.new (.lst (ns.map V.int)) ON;left;calc cD _ _ (.inr (bQ.of (Z _ _ Tw))) rfl ?_;left;have OO:aO K (upd H B (.lst (ns.map V.int))) Tv (row.map V.int)\/bQ K (upd H B (.lst (ns.map V.int))) Tv (row.map V.int):=YL.elim (λz=>.inl (Z.seq z)) (λz=>.inr (Z.Qw z));calc bA _ OO (λI Dh=>?_);have R:=au.new (.lst (row.map V.int)) Dh;left;calc⟨U' _,λu pI=>?_⟩;have r:=au.new (.lst []) pI;left;calc⟨U' _,λG Y=>?_⟩;have W:=au.new (.lst []) Y;left;have YM:I≠B:=λz=>by subst z;rw[ab]at Dh;cases Dh
  have YN:H I=none:=Z.free Dh;have YO:H u=none:=(Z.trans R).free pI;have YQ:H G=none:=(Z.trans (R.trans r)).free Y;have YR:u≠B:=λz=>by subst z;rw[R _ _ ab]at pI;cases pI
  have YS:u≠I:=λz=>by subst z;rw[ab]at pI;cases pI
  have YT:G≠B:=λz=>by subst z;rw[r _ _ (R _ _ ab)]at Y;cases Y
  have YU:G≠I:=λz=>by subst z;rw[r _ _ ab]at Y;cases Y
  have YV:G≠u:=λz=>by subst z;rw[ab]at Y;cases Y
  have Gx:=Z.trans (R.trans (r.trans W));have IQ:0<M:=by lia
  refine Gs (OL H m (.ref sa) k c M t ns row) (muW t.length) ?_ ?_ ?_
  · refine⟨B,I,u,G,[],none,none,0,⟨ns,row,[],[]⟩,t.length,rfl,Gx,ON,YN,YO,YQ,Ne.symm YM,Ne.symm YR,Ne.symm YT,Ne.symm YS,Ne.symm YU,Ne.symm YV,W _ _ (r _ _ (R _ _ ab)),W _ _ (r _ _ ab),W _ _ ab,⟨rfl,λi z p e=>by simp at e⟩,ab,rfl,hb,og,K' _,K' _,rfl,K' _⟩
  · intro σ H1 gQ;obtain⟨B,I,u,G,zs,z9,OM,g,s,f,rfl,sH,a1,a2,a3,a4,n1,n2,n3,n4,n5,n6,e1,e2,e3,Di,e5,IS,sy,yg,IT,Wu,S,LV⟩:=gQ;have Ks:=sH _ _ DK;have Tz:=sH _ _ Tu;have YW:=tX.aH sH.aP;left;calc eJ Ks T.cK T.LL Tg ?_;left;calc bA _ (.inr ⟨_,bQ.of Tz,rfl⟩) ?_;by_cases lT:g < t.length
    · have LW:g < xs.length:=by rw[tX.1];exact lT
      left;rw[if_pos (by simpa using LW)];calc⟨λσ' H'=>OL H m (.ref sa) k c M t ns row σ' H'/\muW t.length σ'<t.length-g,λσ' H' h=>h,?_⟩;have qR:=aW t[g] (W' lT);have hx:=YW.2 g xs[g] t[g] (dw LW) (dw lT);have QC:t.drop g=t[g]::t.drop (g+1):=List.drop_eq_getElem_cons lT;nofun;generalize hdd:t[g]=d at qR hx QC;generalize DP:xs[g]=x at hx;have exx:xs[g]?=some x:=by rw[dw LW,DP]
      obtain⟨f',rfl⟩:∃f',f=f'+1:=⟨f-1,by rw[QC]at LV;simp at LV;lia⟩
      rw[QC]at S LV
      replace S:xF M k c f' ((t.drop (g+1)).drop (me M k c d s).toNat) (fI M k c d s)=n0 M k c t ns row:=S
      ac_rfl;rw[List.drop_drop]at S;left;calc eJ Ks T.cK T.LL Tg ?_;left;calc cD _ x (.inr (bQ.of Tz)) (ay exx) ?_;left;calc bF ?_;left;calc⟨x,3,d,rfl,hx,λl zv k0 H2 R IU hl LR=>?_⟩;calc .inl ⟨⟨_,aO.of hl⟩,λD hD=>?_⟩;have IV:=LR.len;have JH:=yd (d:=d);refine aX (J:=tw K l) (n:=zv.length) (λi ys H'=>ys=((d.vals.take i).map (fH M k c s.ns s.row)).map V.int/\au H2 H') (E' (aA ())) ⟨rfl,au.new _ hD⟩ ?_ ?_ ?_ ?_
      · rintro i ys H' hi ⟨_,r⟩;exact⟨_,zv[i],aO.of (r _ _ hl),dw hi⟩
      · rintro ys H' ⟨_,r⟩;exact⟨_,aO.of (r _ _ hl),K' _⟩
      · intro i ys H3 hi bx qS gR y H4 mE;nofun;obtain⟨rfl,r⟩:=gR;obtain⟨rfl,hy⟩:=mE;have ey:=hy _ (aO.of (r _ _ hl));obtain⟨v,ev,hv⟩:=LR.get ey;ac_rfl;have i9:=oj qR v (aaa ev);walk_at "xf";left;rw[if_pos trivial];refine⟨cH,λp hp=>?_⟩;have W:=au.new (.tup [.ref B,.ref I]) hp;have TB:=R.trans (r.trans W);refine eJ (TB _ _ Ks) T.cK T.LK Tf ?_;refine⟨y,.ref p,k,c,M,v,s.ns,s.row,k0,rfl,(hv.aH (r.trans W).aP),⟨p,B,I,rfl,ab,.inl (aO.of (TB _ _ e1)),.inl (aO.of (TB _ _ e2))⟩,by rw[IS];exact i9,IQ,?_⟩;refine bR (W _ _ bx) qS hi (E' (aA ())) ⟨?_,λb o e=>?_⟩
        · rw[List.take_add_one,ev];simp[fH]
        · rw[av (ao e hD)];exact W _ _ (r _ _ e)
      rintro ys H3 bx qS ⟨rfl,r⟩;rw[IV,List.take_length]at bx;have X:=R.trans r;have DQ:H1 D=none:=R.free hD;generalize qQ:d.vals.map (fH M k c s.ns s.row)=ws at bx;have jJ:ws.length=d.vals.length:=by rw[<-qQ];simp
      have OP:0<=ws.getD 0 0/\ws.getD 0 0<M:=by rw[<-qQ];exact uZ IQ
      have BA:fI M k c d s=⟨jF M s.ns (ws.getD 0 0) d,nY s.row (ws.getD 0 0) d,s.cJ++g9 (ws.getD 0 0) d,s.words++fZ (ws.getD 0 0) d⟩:=by rw[<-qQ];rfl
      have BB:me M k c d s=nZ (ws.getD 0 0) (ws.getD 1 0) d:=by rw[<-qQ];rfl
      rw[BA,BB]at S;have IW:∀{b:Addr} {o:HO},H1 b=some o->b≠D:=λe=>ao e DQ;left;calc eJ (X _ _ Ks) T.cK T.LK Tf ?_;calc⟨B,x,D,s.ns,ws,M,3,d,rfl,X _ _ e1,hx.aH X.aP,bx,jJ,by rw[IS];calc qR,IQ,pw,sy,λH4 e14 k4=>?_⟩;have t4:cg H3 H4:=λb ys e=>k4 b _ (λz=>by subst z;rw[X _ _ e1]at e;cases e) e;left;calc⟨I,x,D,s.row,ws,3,d,rfl,k4 _ _ (Ne.symm n1) (X _ _ e2),hx.aH (X.aP.trans t4),k4 _ _ (Ne.symm (IW e1)) bx,jJ,yg,λL YX k5=>?_⟩;have t5:cg H4 L:=λb ys e=>k5 b _ (λz=>by subst z;rw[k4 _ _ (Ne.symm n1) (X _ _ e2)]at e;cases e) e;have t15:cg H1 L:=X.aP.trans (t4.trans t5);have kk:∀b o,b≠B->b≠I->H1 b=some o->L b=some o:=λb o ne1 ne2 e=>k5 b o ne2 (k4 b o ne1 (X _ _ e));have YY:=k5 _ _ n1 e14;have QE:=kk _ _ (Ne.symm n2) (Ne.symm n4) e3;have TC:=kk _ _ (Ne.symm n3) (Ne.symm n5) e5;have Bl:L D=some (.lst (ws.map V.int)):=k5 _ _ (Ne.symm (IW e2)) (k4 _ _ (Ne.symm (IW e1)) bx);have OQ:=Di.aH t15;have OS:au H L:=λb o e=>kk b o (ao e a1) (ao e a2) (sH _ _ e);have DO:=hx.aH t15;have LX:=Gv (w:=ws.getD 0 0) (w':=ws.getD 1 0) qR;obtain⟨a,us,rfl,ha,-⟩:=r6 DO qR;left;rename_i N1 hN1 T1 U1 DR hU1;have fin:∀U IX,au H U->U B=some (.lst ((jF M s.ns (ws.getD 0 0) d).map V.int))->U I=some (.lst ((nY s.row (ws.getD 0 0) d).map V.int))->U u=some (.lst IX)->SL U IX (s.cJ++g9 (ws.getD 0 0) d)->U G=some (.lst ((s.words++fZ (ws.getD 0 0) d).map V.int))->HT U 3 (.ref a) d.dv->U D=some (.lst (ws.map V.int))->N1 [some (V.ref m),some (V.ref sa),some (V.int k),some (V.int c),some (V.ref B),some (V.ref I),some (V.ref u),some (V.ref G),some (V.int (g:Nat)),some (V.ref a),some (V.ref D)] U:=by
        intro U IX f0 f1 f2 f3 f4 f5 f6 f7;left;calc⟨.ref a,D,ws,_,_,rfl,f6,f7,jJ,?_⟩;left;calc cD _ _ rfl rfl ?_;have l1:=ye (w:=ws.getD 0 0) (d:=d);refine⟨⟨B,I,u,G,IX,some (.ref a),some (.ref D),g+1+(nZ (ws.getD 0 0) (ws.getD 1 0) d).toNat,⟨jF M s.ns (ws.getD 0 0) d,nY s.row (ws.getD 0 0) d,s.cJ++g9 (ws.getD 0 0) d,s.words++fZ (ws.getD 0 0) d⟩,f',?_,f0,a1,a2,a3,a4,n1,n2,n3,n4,n5,n6,f1,f2,f3,f4,f5,by rw[oW];calc IS,Bz (d:=d) IQ sy OP,Gu (w:=ws.getD 0 0) (d:=d) yg,(by rw[List.length_append];lia),(by rw[List.length_append];lia),S,?_⟩,?_⟩
        · first|rfl|rw[sk1 LX]
        · exact sk2 LV
        · exact sk3 lT LX
      calc cZ ha (ay (j:=0) rfl) ?_;left;by_cases k1:d.word="send"
      · rw[if_pos (decide_eq_true k1)];obtain⟨j,u2,YH,es,hv1,hv2⟩:=Kq (w:=ws.getD 0 0) DO k1;have yS:iJ (ws.map V.int) 0=some (.int (ws.getD 0 0)):=ay (j:=0) (by rw[List.getElem?_map,yf ()];rfl);generalize ws.getD 0 0=w0 at *
        · skip
          left;calc⟨.inl ⟨rfl,_,aO.of QE⟩,?_⟩;calc cZ YH (ay (j:=1) rfl) ?_;left;calc bD Bl yS ?_;calc⟨cH,λtp yT=>?_⟩;have s6:=au.new (.tup [.int j,.int w0]) yT;calc gw _ (s6 _ _ QE) (aaA (by have:=Di.1;lia) (aA (n:=100) ())) ?_;have htn:tp≠u:=λz=>by subst z;rw[QE]at yT;cases yT
          have t6:cg (upd L tp (.tup [.int j,.int w0])) (upd (upd L tp (.tup [.int j,.int w0])) u (.lst (zs++[.ref tp]))):=(cg.refl _).upd λys e=>by rw[s6 _ _ QE]at e;cases e
          have N:∀b o,b≠u->L b=some o->upd (upd L tp (.tup [.int j,.int w0])) u (.lst (zs++[.ref tp])) b=some o:=λb o ne e=>by rw[av ne];exact s6 _ _ e
          exact fin _ _ (λb o e=>N b o (ao e a3) (OS _ _ e)) (N _ _ n2 YY) (N _ _ n4 YX) ab (by rw[es];calc(OQ.aH (s6.aP.trans t6)).snoc (df (n:=0) (by rw[av htn];calc ab) (.int _) (.int _))) (by rw[hv1,List.append_nil];calc N _ _ (Ne.symm n6) TC) (DO.aH (s6.aP.trans t6)) (N _ _ (Ne.symm (IW e3)) Bl)
      · rw[if_neg λz=>k1 (of_decide_eq_true z)];have es:=Kr (w:=ws.getD 0 0) k1;left;calc cZ ha (ay (j:=0) rfl) ?_;left;by_cases k2:d.word="say"
        · rw[if_pos (decide_eq_true k2)];obtain⟨ew,hv1⟩:=OK (w:=ws.getD 0 0) k2;have yS:iJ (ws.map V.int) 0=some (.int (ws.getD 0 0)):=ay (j:=0) (by rw[List.getElem?_map,yf ()];rfl);generalize ws.getD 0 0=w0 at *
          · skip
            left;calc⟨.inl ⟨rfl,_,aO.of TC⟩,?_⟩;left;calc bD Bl yS ?_;calc gw _ TC (aaA (by simp;lia) (aA (n:=100) ())) ?_;have t6:cg L (upd L G (.lst (s.words.map V.int++[.int w0]))):=(cg.refl _).upd λys e=>by rw[TC]at e;cases e
            have N:∀b o,b≠G->L b=some o->upd L G (.lst (s.words.map V.int++[.int w0])) b=some o:=λb o ne e=>by rw[av ne];exact e
            exact fin _ zs (λb o e=>N b o (ao e a4) (OS _ _ e)) (N _ _ n3 YY) (N _ _ n5 YX) (N _ _ n6 QE) (by rw[es,List.append_nil];calc OQ.aH t6) (by rw[ab,ew,List.map_append];rfl) (DO.aH t6) (N _ _ (Ne.symm (IW e5)) Bl)
        · rw[if_neg λz=>k2 (of_decide_eq_true z)];have ew:=Gw (w:=ws.getD 0 0) k2;calc L2.bX (by assumption) ?_;exact fin _ _ OS YY YX QE (by rw[es,List.append_nil];calc OQ) (by rw[ew,List.append_nil];calc TC) DO Bl
    · have LW:¬g < xs.length:=by rw[tX.1];exact lT
      left;rw[if_neg (by simpa using LW)];rw[List.drop_eq_nil_of_le (),AZ]at S;left;calc .inl ⟨_,aO.of e1,λt1 pA=>?_⟩;have r1:=au.new (.tup (s.ns.map V.int)) pA;left;calc .inl ⟨_,aO.of (r1 _ _ e2),λt2 nK=>?_⟩;have r2:=au.new (.tup (s.row.map V.int)) nK;left;calc⟨cH,λt3 zN=>?_⟩;have r3:=au.new (.tup [.ref t1,.ref t2]) zN;left;calc⟨by show 3<=sizeLine;decide,λt4 sh=>?_⟩;have r4:=au.new (.tup [.ref t3,.ref u,.ref G]) sh;have Kt:=r1.trans (r2.trans (r3.trans r4));refine q _ _ (sH.trans Kt) ⟨_,_,u,G,zs,rfl,ab,?_,Kt _ _ e3,?_,?_,a3,a4,n6⟩
      · rw[<-S];exact(df ab (nX (r3 _ _ (r2 _ _ ab))) (nX (r3 _ _ ab))).aH r4.aP
      · rw[<-S];exact Di.aH Kt.aP
      · rw[<-S];exact Kt _ _ e5
  · intro σ H1 Q Q' hq hc;obtain⟨x,h1,x0,h0,a,C',Bb,fs,v,h2,h3,h4,h5,h6,n,h7,h8⟩:=hc;refine⟨x,h1,x0,h0,a,C',Bb,fs,v,h2,h3,h4,h5,h6,n,h7,?_⟩
    cases x<;>first
      |calc(show False from h8).elim
      | (obtain⟨k',h9,LU⟩:=h8
         calc⟨k',h9,hq _ _ LU⟩)
def fT(n:Nat->Nat)(ad:Nat->Nat->Addr)(t:Nat):List V:=(List.range (n t)).map λi=>V.ref (ad t i)
theorem dW{n:Nat->Nat}{t:Nat}:(fT n ad t).length=n t:=by simp[fT]
theorem aU{n:Nat->Nat}{t i:Nat}(h:i<n t):iJ (fT n ad t) (i:Int)=some (.ref (ad t i)):=ay (by simp[fT,h])
def DS(bb:V)(p:Addr)(o:Nat->Addr):List (Str×V):=[("own_net",bb),("picks_done",.ref p),("states_had",.ref (o 1)),("words_had",.ref (o 2)),("words_said",.ref (o 3)),("letters_say",.ref (o 4)),("senders",.ref (o 5)),("workers",.ref (o 6))]
section
variable {bb:V}{p:Addr}{o:Nat->Addr}
theorem pK:(DS bb p o).lookup ("own_net":Str)=some bb:=by kernel_rfl
theorem TF:(DS bb p o).lookup ("picks_done":Str)=some (.ref p):=by kernel_rfl
theorem Gy:(DS bb p o).lookup ("states_had":Str)=some (.ref (o 1)):=by kernel_rfl
theorem YZ:(DS bb p o).lookup ("words_had":Str)=some (.ref (o 2)):=by kernel_rfl
theorem OT:(DS bb p o).lookup ("words_said":Str)=some (.ref (o 3)):=by kernel_rfl
theorem zS:(DS bb p o).lookup ("letters_say":Str)=some (.ref (o 4)):=by kernel_rfl
theorem TH:(DS bb p o).lookup ("senders":Str)=some (.ref (o 5)):=by kernel_rfl
theorem Dj:(DS bb p o).lookup ("workers":Str)=some (.ref (o 6)):=by kernel_rfl
end
structure vY(C CN:Addr)(H:Hp)(bb:Addr)(nt:NT):Prop where
 ex:∃ms wv lv,mG CN H bb ms wv lv/\ms.length=nt.ms.length/\(∀(i:Nat) m d,ms[i]?=some m->nt.ms[i]?=some d->QB C H m d)/\fQ H 1 wv (nt.ws.map lX)
 ok:nt.Ok
theorem QB.fr{C:Addr}{m:Addr}{d:MD}(f:Fr Z H H')(h:QB C H m d):QB C H' m d:=by
 obtain⟨a,st,dd,b,c,e⟩:=h;calc⟨a,st,dd,f.lV b id,c.aH f.aP,e.aH f.aP⟩
theorem mG.fr{CN:Addr}{x:Addr}{d:List V}(f:Fr Z H H')(h:mG CN H x ms wv d):mG CN H' x ms wv d:=by
 obtain⟨d,a,b,c,e,g,i,j⟩:=h;calc⟨d,a,b,c,f.lV e id,f.lV g id,f.lV i id,f.lV j id⟩
theorem vY.fr{C CN:Addr}{nt:NT}(f:Fr Z H H')(h:vY C CN H bb nt):vY C CN H' bb nt:=by
 obtain⟨⟨ms,wv,c,e,g,j,k⟩,l⟩:=h;calc⟨⟨ms,wv,c,e.fr f,g,λi m d a b=>(j i m d a b).fr f,k.aH f.aP⟩,l⟩
structure b8(C CN CR:Addr)(F:Addr->Prop)(H:Hp)(x bb:Addr)(nt:NT)(r:RS)(ad:Nat->Nat->Addr):Prop where
 ins:∃dx o,H x=some (.ins CR dx (DS (.ref bb) (ad 0 0) o))/\∀t,1<=t->t<=6->H (o t)=some (.lst (fT nt.n ad t))/\¬F (o t)/\¬FP nt.n ad (o t)
 cj:dH F H nt.n ad r.ct
 Ku:vY C CN H bb nt
section
variable {C CN CR:Addr}{F:Addr->Prop}{H H':Hp}{x bb:Addr}{nt:NT}{r:RS}{ad:Nat->Nat->Addr}
theorem b8.keep(h:b8 C CN CR F H x bb nt r ad)(f:Fr F H H'):b8 C CN CR F H' x bb nt r ad:=by
 obtain⟨⟨d,o,e,c⟩,g,i⟩:=h;calc⟨⟨d,o,f.lV e id,λt a b=>⟨f.at (c t a b).1 (c t a b).2.1,(c t a b).2⟩⟩,g.keep f,i.fr f⟩
theorem b8.same(h:b8 C CN CR F H x bb nt r ad)(s:au H H'):b8 C CN CR F H' x bb nt r ad:=h.keep s.fr
theorem b8.own{c:RS}(h:b8 C CN CR F H x bb nt r ad)(f:Fr (FP nt.n ad) H H')(b:dH F H' nt.n ad c.ct):b8 C CN CR F H' x bb nt c ad:=by
 obtain⟨⟨d,o,e,c⟩,i,g⟩:=h;calc⟨⟨d,o,f.lV e id,λt a b=>⟨f.at (c t a b).1 (c t a b).2.2,(c t a b).2⟩⟩,b,g.fr f⟩
end
abbrev ja:Stmt:=(bV (top 50)).getD 6 (.Pass ⟨0,0,0,0⟩)
def sC(nt:NT)(e j:Nat):Int:=if e=0 then(nt.w j).1 else(nt.w j).2.1
def t9(nt:NT)(e m:Nat):List Nat:=(List.range nt.ws.length).filter λj=>decide (sC nt e j=m)
def zT(C CN:Addr):Sp:=λvs H Q _=>∃(x:Addr) (nt:NT) (m e:Nat),vs=[.ref x,.int m,.int e]/\vY C CN H x nt/\m<nt.ms.length/\e<2/\∀l H',au H H'->H l=none->H' l=some (.lst ((t9 nt e m).map λi=>.int (i:Nat)))->Q (.ref l) H'
theorem ua(D:fR K CN "ways_at" "Net.ways_at" ja ["self","m","end"])(T:Tx K mg C CN CR F FD)(R:Def P w K mg base "is_within" 2 ["thing","low","beyond"] cp):bZ P w K mg base CN "ways_at" 3 ["self","m","end"] (zT C CN):=by
 have sc:aC ["self","m","end"] ["self","m","end"] (ax ja):=by walk_at "s"
 symm;obtain⟨x,d,m,e,rfl,z,B,I,q⟩:=h;have I:=hr.units;refine⟨_,(ag (aS (cw (bC (aK R hr (af (aq 1) (af ai (af (aV aL rfl T.bT L' (af (bE (aq 0) rfl) aa)) aa)))))) (ak c9) aG)
  (ak (aD (cO (N':=["number","way","m","end"]) (ix:=[none,none,some 1,some 2]) (eX rfl T.cu (af (bE (aq 0) rfl) aa)) (λ_ _ _ _=>(iP (K:=K) rfl (i:=0) (j:=1) rfl (show(["number","way","m","end"]:List Str).Nodup by decide +kernel) rfl rfl Sort Sort)) (λ_ _ _ _=>(iN (az (oe (K:=K) rfl I) (dC (K:=K) rfl I (aq 1) (aq 3)) (aq 2) (aE _)))) (λ_ _ _ _=>(aq 0)))))),?_⟩
 nofun;obtain⟨⟨ms,wv,I,R,S,W,L⟩,U⟩:=id z;obtain⟨W,a,b,cc,I,X,l,h4⟩:=id R;ac_rfl;left;calc⟨x,CN,W,_,_,rfl,I,T.cL,T.xQ,To,_,.inr ⟨_,bQ.of X,rfl⟩,?_⟩;calc fK (.int m) _ 0 _ rfl (.int _) ?_;rw[show inR 0 (((ms.map V.ref).length:Nat):Int) (.int (m:Int))=true by simp[inR,S,B]];calc xM ?_;rw[if_neg ∅];left;calc bF ?_;left;calc eJ I T.cL T.xR Tp ?_;left;calc zF false wv (Sq.t l) (λD r=>?_);have Y:wv.length=d.ws.length:=by simpa using L.1
 have x:=U.tR;refine aX (J:=JY false K b) (n:=wv.length) (λi ys H'=>au H H'/\ys=((List.range i).filter λj=>decide (sC d e j=m)).map λj=>V.int (j:Nat)) (E' (aA ())) ⟨au.new _ r,rfl⟩ ?_ ?_ ?_ ?_
 ·rintro i ys H' u ⟨g,_⟩;exact⟨wv,wv[i],Sq.t (g _ _ l),dw u⟩
 ·rintro ys H' ⟨g,_⟩;exact⟨wv,Sq.t (g _ _ l),rfl⟩
 ·intro i ys H' u p M Z xx H4 gR;nofun;obtain⟨g,rfl⟩:=Z;obtain⟨t,ht,rfl,y⟩:=gR;obtain⟨k,ex,rfl⟩:=y wv (Sq.t (g _ _ l));have x:i < d.ws.length:=by lia
  have o:=(L.2 i k (lX (d.w i)) ex (by rw[List.getElem?_map,show d.ws[i]?=some (d.w i) from aQ x];rfl)).aH g.aP;have v:=au.new (.tup [.int (i:Nat),k]) ht
  replace o:=o.aH v.aP
  have nK:upd H' t (.tup [.int (i:Nat),k]) t=some (.tup [.int (i:Nat),k]):=ab;have N:=v _ _ p;have O:=g.trans v;generalize hG:upd H' t (.tup [.int (i:Nat),k])=G at *;obtain⟨ta,u1,u2,u3,kk,rfl,zU,g1,g2,g3⟩:=cm o;obtain rfl:=g1.cP;obtain rfl:=g2.cP;obtain rfl:=g3.cV;ac_rfl;calc tE (bQ.of nK) ⟨Ext.set (Ext.set (Ext.refl _) rfl) rfl,?_⟩;left;have TJ:iJ [V.int (d.w i).1,V.int (d.w i).2.1,V.str (d.w i).2.2] (e:Int)=some (.int (sC d e i)):=by
   have:e=0\/e=1:=by lia
   rcases this with rfl|rfl
   ·exact ay (j:=0) rfl
   ·exact ay (j:=1) rfl
  calc cZ zU TJ ?_;left;have k:(List.range (i+1)).filter (λj=>decide (sC d e j=m))=(List.range i).filter (λj=>decide (sC d e j=m))++(if sC d e i=m then[i] else[]):=by
   rw[List.range_succ,List.filter_append];congr 1;by_cases z:sC d e i=m<;>simp[z]
  by_cases z:sC d e i=m
  ·rw[if_pos (by simp[z])];calc bR N M u (E' (aA ())) ⟨λc o e=>by rw[av (ao e r)];calc O _ _ e,?_⟩;rw[k,if_pos z,List.map_append];rfl
  ·rw[if_neg (by simp[z])];exact⟨_,N,(),O,by rw[k,if_neg z,List.append_nil]⟩
 ·rintro ys H' p M ⟨g,rfl⟩;rw[Y]at p;calc q _ _ g r p
abbrev ib:Stmt:=(bV (top 50)).getD 4 (.Pass ⟨0,0,0,0⟩)
def qp(C CN:Addr):Sp:=λvs H Q _=>∃(x:Addr) (nt:NT) (m:Nat),vs=[.ref x,.int m]/\vY C CN H x nt/\m<nt.ms.length/\∀l H',au H H'->H l=none->H' l=some (.lst ((t9 nt 0 m).map λi=>.int (i:Nat)))->Q (.ref l) H'
theorem sD(D:fR K CN "ways_out" "Net.ways_out" ib ["self","m"])(T:Tx K mg C CN CR F FD)(g:bZ P w K mg base CN "ways_at" 3 ["self","m","end"] (zT C CN)):bZ P w K mg base CN "ways_out" 4 ["self","m"] (qp C CN):=by
 have sc:aC ["self","m"] ["self","m"] (ax ib):=by walk_at "s"
 symm;obtain⟨x,d,m,rfl,c,e,q⟩:=h;have i:=hr.units;calc⟨_,(ak (aD (dq g T.cL hr (aq 0) (af (aq 1) (af ai aa))))),?_⟩;nofun;obtain⟨⟨ms,wv,j,i,k,l,n⟩,o⟩:=id c;obtain⟨j,a,b,k,g,l,n,o⟩:=id i;ac_rfl;left;calc eP g (eC ⋯ ⋯ ⋯) ?_;calc⟨x,d,m,0,rfl,c,e,∅,q⟩
abbrev jb:Stmt:=(bV (top 50)).getD 5 (.Pass ⟨0,0,0,0⟩)
def sE(C CN:Addr):Sp:=λvs H Q _=>∃(x:Addr) (nt:NT) (m:Nat),vs=[.ref x,.int m]/\vY C CN H x nt/\m<nt.ms.length/\∀l H',au H H'->H l=none->H' l=some (.lst ((t9 nt 1 m).map λi=>.int (i:Nat)))->Q (.ref l) H'
theorem ub(D:fR K CN "ways_in" "Net.ways_in" jb ["self","m"])(T:Tx K mg C CN CR F FD)(g:bZ P w K mg base CN "ways_at" 3 ["self","m","end"] (zT C CN)):bZ P w K mg base CN "ways_in" 4 ["self","m"] (sE C CN):=by
 have sc:aC ["self","m"] ["self","m"] (ax jb):=by walk_at "s"
 symm;obtain⟨x,d,m,rfl,c,e,q⟩:=h;have i:=hr.units;calc⟨_,(ak (aD (dq g T.cL hr (aq 0) (af (aq 1) (af ai aa))))),?_⟩;nofun;obtain⟨⟨ms,wv,j,i,k,l,n⟩,o⟩:=id c;obtain⟨j,a,b,k,g,l,n,o⟩:=id i;ac_rfl;left;calc eP g (eC ⋯ ⋯ ⋯) ?_;calc⟨x,d,m,1,rfl,c,e,∅,q⟩
def FS(F:Addr->Prop)(H:Hp):Prop:=∀b,F b->∃o,H b=some o/\soft o
theorem FS.fr{F:Addr->Prop}(h:FS F H)(f:Fr Z H H')(c:∀b,F b->¬Z b):FS F H':=λb a=>by
 obtain⟨o,e,s⟩:=h b a;calc⟨o,f.at e (c b a),s⟩
theorem _root_.DD.dH.uc{F:Addr->Prop}{n:Nat->Nat}{ct:Nat->Nat->CO}(h:dH F H n ad ct):∀b,F b->¬FP n ad b:=λb a ⟨t,i,c,e⟩=>h.out t i c (e▸a)
theorem small{n:Nat}(h:n<=20000):n<sizeLine:=by rw[sizeLine_eq];lia
theorem OU{r:RS}{n:NT}{w:Nat}{x:Int}{s:Option (Int×Int)}:∀t i,i<n.n t->setC (setC (setC r.ct 4 w (.l ((r.ww w).say.map .int++[.int x]))) 5 w (.l ((r.ww w).snd.map oH++[oH s]))) 6 w (.l ((r.ww w).dj.map oH++[.bP])) t i=(r.put w x s).ct t i:=by
 intro t i a;unfold setC
 match t,a with
 |0,_=>simp[RS.ct,RS.put]
 |1,_=>simp[RS.ct,RS.put]
 |2,_=>simp[RS.ct,RS.put]
 |3,_=>simp[RS.ct,RS.put]
 |4,_=>by_cases e:i=w<;>simp[RS.ct,RS.put,e]
 |5,_=>by_cases e:i=w<;>simp[RS.ct,RS.put,e]
 |6,_=>by_cases e:i=w<;>simp[RS.ct,RS.put,e,oH]
 |(t+7),a=>calc absurd a (Nat.not_lt_zero i)
abbrev gj:Stmt:=(bV (top 52)).getD 1 (.Pass ⟨0,0,0,0⟩)
inductive BC(C CN CR:Addr)(vs:List V)(H:Hp)(Q:VK):Prop
 |mk (F:Addr->Prop) (x bb:Addr) (nt:NT) (r:RS) (ad:Nat->Nat->Addr) (wy:Nat) (said:Int) (sv:V) (s:Option (Int×Int)) (h0:vs=[.ref x,.int (wy:Nat),.int said,sv]) (h1:b8 C CN CR F H x bb nt r ad) (h2:FS F H) (h3:wy<nt.ws.length) (h4:HT H 4 sv (oH s)) (h5:r.tD nt 19999) (h6:∀H',Fr (FP nt.n ad) H H'->b8 C CN CR F H' x bb nt (r.put wy said s) ad->Q .bP H'):BC C CN CR vs H Q
def sF(C CN CR:Addr):Sp:=λvs H Q _=>BC C CN CR vs H Q
theorem pL(D:fR K CR "put_letter" "Run.put_letter" gj ["self","way","said","sender"])(T:Tx K mg C CN CR F FD):bZ P w K mg base CR "put_letter" 1 ["self","way","said","sender"] (sF C CN CR):=by
 have sc:aC ["self","way","said","sender"] ["self","way","said","sender"] (ax gj):=by walk_at "s"
 symm;obtain⟨F,x,bb,g,r,ad,a,c,v,s,rfl,j,I,b,J,k,q⟩:=h;have o:=hr.units;refine⟨_,(ag (bJ (de lS oF oG bU (aj o (bE (aq 0) rfl) (aq 1)) (af (aq 2) aa)))
  (ag (bJ (de lS oF oG bU (aj o (bE (aq 0) rfl) (aq 1)) (af (aq 3) aa)))
  (ak (bJ (de lS oF oG bU (aj o (bE (aq 0) rfl) (aq 1)) (af gV aa)))))),?_⟩
 nofun;obtain⟨x,o,y,d⟩:=j.ins;have z:=j.cj;have o:=(d 4 ∅ ∅).1;have N:=(d 5 ∅ ∅).2.2;have O:=(d 6 ∅ ∅).2.2;have x:=k.bs a b;have x:=k.ls a b;have x:=k.lk a b;obtain⟨l,m,x⟩:=z.lst (t:=4) (i:=a) b rfl;ac_rfl;have k:l.length=(r.ww a).say.length:=by simpa using x.1
 left;calc eJ y T.aM T.bI zS ?_;left;calc bD o (aU b) ?_;calc⟨.inl ⟨rfl,_,aO.of m⟩,?_⟩;left;calc gw l m (small ()) ?_;have B:=z.app (t:=4) (i:=a) b rfl m (eE.one (.int c));have e:Fr (FP g.n ad) H (upd H (ad 4 a) (.lst (l++[.int c]))):=Fr.refl.upd ⟨4,a,b,rfl⟩ m trivial;generalize S:upd H (ad 4 a) (.lst (l++[.int c]))=L at *;left;have k:=e.lV y id;have c:=e.at (d 5 ∅ ∅).1 N;obtain⟨p,u,l⟩:=B.lst (t:=5) (i:=a) b rfl;have m:p.length=(r.ww a).snd.length:=by simpa using l.1
 have l:=I.fr e z.uc;left;calc eJ k T.aM T.eL TH ?_;left;calc bD c (aU b) ?_;calc⟨.inl ⟨rfl,_,aO.of u⟩,?_⟩;left;calc gw p u (small ()) ?_;have M:=B.app (t:=5) (i:=a) b rfl u (eE.one (B.ht l (J.aH e.aP)));have G:Fr (FP g.n ad) H (upd L (ad 5 a) (.lst (p++[v]))):=e.upd ⟨5,a,b,rfl⟩ u trivial;generalize U:upd L (ad 5 a) (.lst (p++[v]))=R at *;left;have k:=G.lV y id;have l:=G.at (d 6 ∅ ∅).1 O;obtain⟨e,c,m⟩:=M.lst (t:=6) (i:=a) b rfl;have d:e.length=(r.ww a).dj.length:=by simpa using m.1
 left;calc eJ k T.aM T.cN Dj ?_;left;calc bD l (aU b) ?_;calc⟨.inl ⟨rfl,_,aO.of c⟩,?_⟩;left;calc gw e c (small ()) ?_;have m:=M.app (t:=6) (i:=a) b rfl c (eE.one (.bP));have d:Fr (FP g.n ad) H (upd R (ad 6 a) (.lst (e++[.bP]))):=G.upd ⟨6,a,b,rfl⟩ c trivial;calc q _ d (j.own d (m.congr OU))
abbrev fc:Stmt:=(bV (top 52)).getD 2 (.Pass ⟨0,0,0,0⟩)
def BD(C CN CR:Addr):Sp:=λvs H Q _=>∃(F:Addr->Prop) (x bb:Addr) (nt:NT) (r:RS) (ad:Nat->Nat->Addr) (m:Nat),vs=[.ref x,.int m]/\b8 C CN CR F H x bb nt r ad/\m<nt.ms.length/\Q .bP H
theorem mM(D:fR K CR "need_machine" "Run.need_machine" fc ["self","m"])(T:Tx K mg C CN CR F FD)(d:Def P w K mg base "is_within" 2 ["thing","low","beyond"] cp):bZ P w K mg base CR "need_machine" 3 ["self","m"] (BD C CN CR):=by
 have sc:aC ["self","m"] ["self","m"] (ax fc):=by walk_at "s"
 symm;obtain⟨F,x,bb,a,r,ad,m,rfl,b,c,q⟩:=h;have e:=hr.units;calc⟨_,(ak (aS (cw (bC (aK d hr (af (aq 1) (af ai (af (aV aL rfl T.bT L' (af (bE (aq 0) rfl) aa)) aa)))))) (ak c9) aG)),?_⟩;obtain⟨e,o,g,i⟩:=b.ins;have d:=(i 1 ∅ ∅).1;left;calc⟨x,CR,e,_,_,rfl,g,T.aM,T.cn,Gy,_,.inl ⟨_,aO.of d,rfl⟩,?_⟩;calc fK (.int m) _ 0 _ rfl (.int _) ?_;rw[dW];rw[show inR 0 ((a.n 1:Nat):Int) (.int (m:Int))=true by simp[inR];calc c];calc xM ?_;rw[if_neg ∅];left;calc q
abbrev ic:Stmt:=(bV (top 52)).getD 4 (.Pass ⟨0,0,0,0⟩)
def BE(C CN CR:Addr):Sp:=λvs H Q _=>∃(F:Addr->Prop) (x bb:Addr) (nt:NT) (r:RS) (ad:Nat->Nat->Addr) (m:Nat) (a:V),vs=[.ref x,.int m,a]/\b8 C CN CR F H x bb nt r ad/\m<nt.ws.length/\Q .bP H
theorem sI(D:fR K CR "need_way" "Run.need_way" ic ["self","way","at"])(T:Tx K mg C CN CR F FD)(e:Def P w K mg base "is_within" 2 ["thing","low","beyond"] cp):bZ P w K mg base CR "need_way" 3 ["self","way","at"] (BE C CN CR):=by
 have sc:aC ["self","way","at"] ["self","way","at"] (ax ic):=by walk_at "s"
 symm;obtain⟨F,x,bb,b,r,ad,m,a,rfl,c,d,q⟩:=h;have g:=hr.units;calc⟨_,(ak (aS (cw (bC (aK e hr (af (aq 1) (af ai (af (aV aL rfl T.bT L' (af (bE (aq 0) rfl) aa)) aa)))))) (ak c9) aG)),?_⟩;obtain⟨g,o,i,j⟩:=c.ins;have e:=(j 4 ∅ ∅).1;left;calc⟨x,CR,g,_,_,rfl,i,T.aM,T.bI,zS,_,.inl ⟨_,aO.of e,rfl⟩,?_⟩;calc fK (.int m) _ 0 _ rfl (.int _) ?_;rw[dW];rw[show inR 0 ((b.n 4:Nat):Int) (.int (m:Int))=true by simp[inR];calc d];calc xM ?_;rw[if_neg ∅];left;calc q
abbrev fN:Stmt:=(bV (top 52)).getD 5 (.Pass ⟨0,0,0,0⟩)
theorem dE{bb:V}{o:Nat->Addr}(h:f∉(["own_net","picks_done","states_had","words_had","words_said","letters_say","senders","workers"]:List Str)):(DS bb p o).lookup f=none:=by
 simp only[List.mem_cons,List.not_mem_nil,or_false,not_or]at h;unfold DS;simp[List.lookup,beq_eq_false_iff_ne.mpr h.1,beq_eq_false_iff_ne.mpr h.2.1,beq_eq_false_iff_ne.mpr h.2.2.1,beq_eq_false_iff_ne.mpr h.2.2.2.1,beq_eq_false_iff_ne.mpr h.2.2.2.2.1,beq_eq_false_iff_ne.mpr h.2.2.2.2.2.1,beq_eq_false_iff_ne.mpr h.2.2.2.2.2.2.1,beq_eq_false_iff_ne.mpr h.2.2.2.2.2.2.2]
def yi(C CN CR:Addr):Sp:=λvs H Q _=>∃(F:Addr->Prop) (x bb:Addr) (nt:NT) (r:RS) (ad:Nat->Nat->Addr) (m k:Nat) (a:V),vs=[.ref x,.int m,.int k,a]/\b8 C CN CR F H x bb nt r ad/\m<nt.ws.length/\k<(r.ww m).say.length/\Q .bP H
theorem om(D:fR K CR "need_letter" "Run.need_letter" fN ["self","way","number","at"])(T:Tx K mg C CN CR F FD)(e:Def P w K mg base "is_within" 2 ["thing","low","beyond"] cp)(g:bZ P w K mg base CR "need_way" 3 ["self","way","at"] (BE C CN CR)):bZ P w K mg base CR "need_letter" 4 ["self","way","number","at"] (yi C CN CR):=by
 have sc:aC ["self","way","number","at"] ["self","way","number","at"] (ax fN):=by walk_at "s"
 symm;obtain⟨F,x,bb,d,r,ad,m,k,a,rfl,b,c,j,q⟩:=h;have j:=hr.units;refine⟨_,(ag (bJ (dq g T.aM hr (aq 0) (af (aq 1) (af (aq 3) aa))))
  (ak (aS (cw (bC (aK e hr (af (aq 2) (af ai (af (aV aL rfl T.bT L' (af (aj j (bE (aq 0) rfl) (aq 1)) aa)) aa)))))) (ak c9) aG))),?_⟩
 nofun;obtain⟨g,o,e,j⟩:=b.ins;have l:=(j 4 ∅ ∅).1;obtain⟨g,n,o⟩:=b.cj.lst (t:=4) (i:=m) c rfl;ac_rfl;have j:g.length=(r.ww m).say.length:=by simpa using o.1
 left;calc eP e (dE ⋯) ?_;calc⟨_,x,bb,d,r,ad,m,_,rfl,b,c,?_⟩;left;calc eJ e T.aM T.bI zS ?_;left;calc bD l (aU c) ?_;calc bA _ (.inl ⟨_,aO.of n,rfl⟩) ?_;calc fK (.int k) _ 0 _ rfl (.int _) ?_;rw[show inR 0 ((g.length:Nat):Int) (.int (k:Int))=true by simp[inR];lia];calc xM ?_;rw[if_neg ∅];left;calc q
structure _root_.DD.RS.Kw(nt:NT)(r:RS)(w k:Nat):Prop where
 lt:w<nt.ws.length
 lies:(r.ww w).dj[k]?=some none
 row:(nt.w w).2.2="row"->0<k->∃e,(r.ww w).dj[k-1]?=some (some e)
theorem v7{n:Nat}{v:V}(h:HD H n v (oH none)):v=.bP:=by
 have h:HD H n v .bP:=h
 cases h;rfl
theorem oo{H:Hp}{n:Nat}{v:V}{e:Int×Int}(h:HD H n v (oH (some e))):∃a,v=.ref a/\H a=some (.tup [.int e.1,.int e.2]):=by
 have h:HD H n v (.tup [.int e.1,.int e.2]):=h
 cases h with
 | @tup n a b _ e l i=>
  match b,l,e,i with
  | [u,v],_,e,i=>
   have c:=i 0 u _ rfl rfl;have d:=i 1 v _ rfl rfl;obtain rfl:=c.cP;obtain rfl:=d.cP;calc⟨a,rfl,e⟩
theorem yj{H:Hp}{n:Nat}{v:V}{e:Option (Int×Int)}(h:HD H n v (oH e)):HT H 1 v (oH e):=by
 cases e with
 |none=>rw[v7 h];calc .bP
 |some e=>obtain⟨a,rfl,b⟩:=oo h;calc df b (.int _) (.int _)
theorem jW{vs:List V}{v:V}(h:1<=vs.length)(e:vs[vs.length-1]?=some v):iJ vs (-1)=some v:=by
 obtain⟨ys,z,rfl⟩:∃ys z,vs=ys++[z]:=⟨vs.dropLast,vs.getLast (by intro a;rw[a]at h;simp at h),(List.dropLast_concat_getLast _).symm⟩
 rw[kH];simpa using e
abbrev gD:Stmt:=(bV (top 52)).getD 6 (.Pass ⟨0,0,0,0⟩)
def LY(C CN CR:Addr):Sp:=λvs H Q _=>∃(F:Addr->Prop) (x bb:Addr) (nt:NT) (r:RS) (ad:Nat->Nat->Addr) (m k:Nat) (a:V),vs=[.ref x,.int m,.int k,a]/\b8 C CN CR F H x bb nt r ad/\r.Ok nt/\r.Kw nt m k/\∀H',au H H'->Q .bP H'
theorem qz(D:fR K CR "need_pick" "Run.need_pick" gD ["self","way","number","at"])(T:Tx K mg C CN CR F FD)(o:bZ P w K mg base CN "ways" 1 ["self"] (kM CN))(W:bZ P w K mg base CR "need_letter" 4 ["self","way","number","at"] (yi C CN CR)):bZ P w K mg base CR "need_pick" 5 ["self","way","number","at"] (LY C CN CR):=by
 have sc:aC ["self","way","number","at","sort"] ["self","way","number","at"] (ax gD):=by walk_at "s"
 symm;obtain⟨F,x,bb,c,r,ad,m,k,a,rfl,n,M,u,q⟩:=h;have b:=hr.units;refine⟨_,(ag (bJ (dq W T.aM hr (aq 0) (af (aq 1) (af (aq 2) (af (aq 3) aa)))))
  (ag (aS (az oT (aj b (aj b (bE (aq 0) rfl) (aq 1)) (aq 2)) gV (aE _)) (ak c9) aG)
  (ag (aZ (i:=4) sc.nd rfl Sort (aj b (aj b (eR o T.cL hr (bE (aq 0) rfl)) (aq 1)) ai))
  (ak (aS (PW.pt (pw_and (az (ba b) (aq 4) aB (aE _)) (pw_and (az mr (aq 2) ai (aE _)) (pw_and1 (az rD (aj b (aj b (bE (aq 0) rfl) (aq 1)) (bc eB (aq 2) ai)) gV (aE _)))))) (ak c9) aG))))),?_⟩
 nofun;obtain⟨W,o,y,b⟩:=n.ins;obtain⟨⟨ms,wv,X,N,o,W,O⟩,aW⟩:=n.Ku;have R:=(b 6 ∅ ∅).1;have g:=u.lt;obtain⟨Y,S,U⟩:=n.cj.lst (t:=6) (i:=m) g rfl;have b:=u.lies;have Z:k<(r.ww m).dj.length:=(List.getElem?_eq_some_iff.mp b).1;obtain⟨v,ev,dv⟩:=U.get (i:=k) (d:=oH none) (by rw[List.getElem?_map,b];rfl);have:=v7 dv;subst this;ac_rfl;left;calc eP y (dE ⋯) ?_;calc⟨_,x,bb,c,r,ad,m,k,a,rfl,n,g,by rw[M.lk m g];calc Z,?_⟩;left;calc eJ y T.aM T.cN Dj ?_;left;calc bD R (aU g) ?_;calc bD S (ay ev) ?_;left
 try rw[if_neg ∅]
 left;calc eJ y T.aM T.cM pK ?_;obtain⟨n,o,x,M,b,W,Z,g4⟩:=id N;left;calc eP b (eC ⋯ ⋯ ⋯) ?_;calc fK bb ms wv X rfl N (λl n=>?_);have p:=au.new (.lst wv) n;have el:upd H l (.lst wv) l=some (.lst wv):=ab;generalize hG:upd H l (.lst wv)=G at *;left;have b:c.ws[m]?=some (c.w m):=aQ g;have l:m<wv.length:=by have:=O.1;simp at this;lia
 have yh:=(O.2 m wv[m] (lX (c.w m)) nofun (by rw[List.getElem?_map,b];rfl)).aH p.aP;nofun;obtain⟨ta,l,n,o,x,B,zU,q1,q2,q3⟩:=cm yh;obtain rfl:=q1.cP;obtain rfl:=q2.cP;obtain rfl:=q3.cV;ac_rfl;calc bD el (ay (j:=m) (v:=.ref ta) (by rw[<-B];simp)) ?_;calc cZ zU (ay (j:=2) rfl) ?_;left;have Dc:=p _ _ y;have Y1:=p _ _ R;have I:=p _ _ S;have J:=q _ p;have b:=u.row;by_cases z:(c.w m).2.2="row"
 ·by_cases c:0 < k
  ·nofun;obtain⟨e,he⟩:=b z c;obtain⟨l,Y2,L⟩:=U.get (i:=k - 1) (d:=oH (some e)) (by rw[List.getElem?_map,he];rfl);obtain⟨ae,rfl,b⟩:=oo L;ac_rfl;rw[if_pos (by simp[z]),if_pos (by simp;lia)];calc eJ Dc T.aM T.cN Dj ?_;left;calc bD Y1 (aU g) ?_;calc bD I (show iJ Y ((k:Int) - 1)=some (.ref ae) from by rw[show(k:Int) - 1=((k - 1:Nat):Int) by lia];calc ay Y2) ?_;left
   try rw[if_neg ∅]
   left;exact J
  ·rw[if_pos (by simp[z]),if_neg (by simp;lia),if_neg ∅];left;exact J
 ·rw[if_neg (by simp[z]),if_neg ∅];left;calc J
abbrev kP:Stmt:=(bV (top 52)).getD 11 (.Pass ⟨0,0,0,0⟩)
theorem GB{H:Hp}{n:Nat}{v:V}{s:List Int×List Int}(h:HD H n v (qw s)):HT H 2 v (xE s.1 s.2):=by
 have h:HD H n v (.tup [.tup (s.1.map .int),.tup (s.2.map .int)]):=h
 cases h with
 | @tup n a c _ e l i=>
  match c,l,e,i with
  | [u,v],_,e,i=>
   have d:=i 0 u _ rfl rfl;have f:=i 1 v _ rfl rfl;have b:∀{n:Nat} {u:V} {ns:List Int},HD H n u (.tup (ns.map .int))->HT H 1 u (.tup (ns.map .int)):=λ{n u ns} h=>by
    cases h with
    | @tup n a c _ e l i=>exact nX (n:=0) (by rw[e,show c=ns.map V.int from eE.iZ ⟨l,i⟩])
   calc df e (b d) (b f)
def GC(C CN CR:Addr):Sp:=λvs H Q _=>∃(F:Addr->Prop) (x bb:Addr) (nt:NT) (r:RS) (ad:Nat->Nat->Addr) (m:Nat),vs=[.ref x,.int m]/\b8 C CN CR F H x bb nt r ad/\r.Ok nt/\m<nt.ms.length/\∀v,HT H 2 v (xE ((r.mm m).dN.bq ([],[])).1 ((r.mm m).dN.bq ([],[])).2)->Q v H
theorem yl(D:fR K CR "state" "Run.state" kP ["self","m"])(T:Tx K mg C CN CR F FD)(j:bZ P w K mg base CR "need_machine" 3 ["self","m"] (BD C CN CR)):bZ P w K mg base CR "state" 4 ["self","m"] (GC C CN CR):=by
 have sc:aC ["self","m"] ["self","m"] (ax kP):=by walk_at "s"
 symm;obtain⟨F,x,bb,c,r,ad,m,rfl,b,e,a,q⟩:=h;have g:=hr.units;refine⟨_,(ag (bJ (dq j T.aM hr (aq 0) (af (aq 1) aa)))
  (ak (aD (aj g (aj g (bE (aq 0) rfl) (aq 1)) (kr gW ai))))),?_⟩
 nofun;obtain⟨j,o,g,k⟩:=b.ins;have l:=(k 1 ∅ ∅).1;obtain⟨n,o,j⟩:=b.cj.lst (t:=1) (i:=m) a rfl;have k:n.length=(r.mm m).dN.length:=by simpa using j.1
 have n:=e.vR a;obtain⟨v,p,u⟩:=j.get (i:=(r.mm m).dN.length-1) (d:=qw ((r.mm m).dN.bq ([],[]))) (by rw[List.getElem?_map,jG (d:=([],[])) n];rfl);ac_rfl;left;calc eP g (dE ⋯) ?_;calc⟨_,x,bb,c,r,ad,m,rfl,b,a,?_⟩;left;calc eJ g T.aM T.cn Gy ?_;left;calc bD l (aU a) ?_;calc bD o (jW () (by rw[k];calc p)) ?_;calc q _ (GB (u.cv cU))
abbrev kQ:Stmt:=(bV (top 52)).getD 10 (.Pass ⟨0,0,0,0⟩)
def GD(C CN CR:Addr):Sp:=λvs H Q _=>∃(F:Addr->Prop) (x bb:Addr) (nt:NT) (r:RS) (ad:Nat->Nat->Addr) (m:Nat),vs=[.ref x,.int m]/\b8 C CN CR F H x bb nt r ad/\m<nt.ms.length/\Q (.int (((r.mm m).dN.length:Nat)-1)) H
theorem ym(D:fR K CR "count" "Run.count" kQ ["self","m"])(T:Tx K mg C CN CR F FD)(d:bZ P w K mg base CR "need_machine" 3 ["self","m"] (BD C CN CR)):bZ P w K mg base CR "count" 4 ["self","m"] (GD C CN CR):=by
 have sc:aC ["self","m"] ["self","m"] (ax kQ):=by walk_at "s"
 symm;obtain⟨F,x,bb,c,r,ad,m,rfl,a,b,q⟩:=h;have e:=hr.units;refine⟨_,(ag (bJ (dq d T.aM hr (aq 0) (af (aq 1) aa)))
  (ak (aD (bc eB (aV aL rfl T.bT L' (af (aj e (bE (aq 0) rfl) (aq 1)) aa)) ai)))),?_⟩
 nofun;obtain⟨g,o,d,e⟩:=a.ins;have g:=(e 1 ∅ ∅).1;obtain⟨j,k,l⟩:=a.cj.lst (t:=1) (i:=m) b rfl;ac_rfl;have e:j.length=(r.mm m).dN.length:=by simpa using l.1
 left;calc eP d (dE ⋯) ?_;calc⟨_,x,bb,c,r,ad,m,rfl,a,b,?_⟩;left;calc eJ d T.aM T.cn Gy ?_;left;calc bD g (aU b) ?_;calc bA _ (.inl ⟨_,aO.of k,rfl⟩) ?_;left;rw[e];calc q
abbrev kR:Stmt:=(bV (top 52)).getD 12 (.Pass ⟨0,0,0,0⟩)
def GG(C CN CR:Addr):Sp:=λvs H Q _=>∃(F:Addr->Prop) (x bb:Addr) (nt:NT) (r:RS) (ad:Nat->Nat->Addr) (m:Nat),vs=[.ref x,.int m]/\b8 C CN CR F H x bb nt r ad/\m<nt.ms.length/\∀l,H l=none->Q (.ref l) (upd H l (.lst (((r.mm m).wp.bq []).map V.int)))
theorem yn(D:fR K CR "words" "Run.words" kR ["self","m"])(T:Tx K mg C CN CR F FD)(d:bZ P w K mg base CR "need_machine" 3 ["self","m"] (BD C CN CR)):bZ P w K mg base CR "words" 4 ["self","m"] (GG C CN CR):=by
 have sc:aC ["self","m"] ["self","m"] (ax kR):=by walk_at "s"
 symm;obtain⟨F,x,bb,c,r,ad,m,rfl,a,b,q⟩:=h;have e:=hr.units;refine⟨_,(ag (bJ (dq d T.aM hr (aq 0) (af (aq 1) aa)))
  (ak (aD (cX cI rfl T.dP wF (af (aj e (bE (aq 0) rfl) (aq 1)) aa))))),?_⟩
 nofun;obtain⟨g,o,d,e⟩:=a.ins;have g:=(e 3 ∅ ∅).1;obtain⟨l,j,k⟩:=a.cj.lst (t:=3) (i:=m) b rfl;ac_rfl;have e:=k.iZ;left;calc eP d (dE ⋯) ?_;calc⟨_,x,bb,c,r,ad,m,rfl,a,b,?_⟩;left;calc eJ d T.aM T.cG OT ?_;left;calc bD g (aU b) ?_;calc bA _ (.inl (aO.of j)) (λl n=>?_);rw[e];calc q l n
abbrev ie:Stmt:=(bV (top 52)).getD 14 (.Pass ⟨0,0,0,0⟩)
def LZ(C CN CR:Addr):Sp:=λvs H Q _=>∃(F:Addr->Prop) (x bb:Addr) (nt:NT) (r:RS) (ad:Nat->Nat->Addr) (m:Nat),vs=[.ref x,.int m]/\b8 C CN CR F H x bb nt r ad/\m<nt.ws.length/\Q (.int ((r.ww m).say.length:Nat)) H
theorem sJ(D:fR K CR "put_many" "Run.put_many" ie ["self","way"])(T:Tx K mg C CN CR F FD)(d:bZ P w K mg base CR "need_way" 3 ["self","way","at"] (BE C CN CR)):bZ P w K mg base CR "put_many" 4 ["self","way"] (LZ C CN CR):=by
 have sc:aC ["self","way"] ["self","way"] (ax ie):=by walk_at "s"
 symm;obtain⟨F,x,bb,c,r,ad,m,rfl,a,b,q⟩:=h;have e:=hr.units;refine⟨_,(ag (bJ (dq d T.aM hr (aq 0) (af (aq 1) (af ai aa))))
  (ak (aD (aV aL rfl T.bT L' (af (aj e (bE (aq 0) rfl) (aq 1)) aa))))),?_⟩
 nofun;obtain⟨g,o,d,e⟩:=a.ins;have g:=(e 4 ∅ ∅).1;obtain⟨j,k,l⟩:=a.cj.lst (t:=4) (i:=m) b rfl;ac_rfl;have e:j.length=(r.ww m).say.length:=by simpa using l.1
 left;calc eP d (dE ⋯) ?_;calc⟨_,x,bb,c,r,ad,m,_,rfl,a,b,?_⟩;left;calc eJ d T.aM T.bI zS ?_;left;calc bD g (aU b) ?_;calc bA _ (.inl ⟨_,aO.of k,rfl⟩) ?_;rw[e];calc q
abbrev ig:Stmt:=(bV (top 52)).getD 15 (.Pass ⟨0,0,0,0⟩)
def GH(C CN CR:Addr):Sp:=λvs H Q _=>∃(F:Addr->Prop) (x bb:Addr) (nt:NT) (r:RS) (ad:Nat->Nat->Addr),vs=[.ref x]/\b8 C CN CR F H x bb nt r ad/\∀l a,H l=none->eE H 4 a (r.picks.map pairD)->Q (.ref l) (upd H l (.lst a))
theorem sL(D:fR K CR "schedule" "Run.schedule" ig ["self"])(T:Tx K mg C CN CR F FD):bZ P w K mg base CR "schedule" 1 ["self"] (GH C CN CR):=by
 have sc:aC ["self"] ["self"] (ax ig):=by walk_at "s"
 symm;obtain⟨F,x,bb,b,r,ad,rfl,a,q⟩:=h;have b:=hr.units;calc⟨_,(ak (aD (cX cI rfl T.dP wF (af (bE (aq 0) rfl) aa)))),?_⟩;nofun;obtain⟨c,o,b,d⟩:=a.ins;obtain⟨e,c,d⟩:=a.cj.lst (t:=0) (i:=0) (by show 0<1;decide) rfl;ac_rfl;left;calc eJ b T.aM T.cY TF ?_;left;calc bA _ (.inl (aO.of c)) (λl a=>?_);calc q l _ a (d.cv cU)
abbrev mN:Stmt:=(bV (top 52)).getD 16 (.Pass ⟨0,0,0,0⟩)
def BG(C CN CR:Addr):Sp:=λvs H Q _=>∃(F:Addr->Prop) (x bb:Addr) (nt:NT) (r:RS) (ad:Nat->Nat->Addr) (m k:Nat),vs=[.ref x,.int m,.int k]/\b8 C CN CR F H x bb nt r ad/\m<nt.ws.length/\k<(r.ww m).say.length/\Q (.int ((r.ww m).say.getD k 0)) H
theorem zV(D:fR K CR "said" "Run.said" mN ["self","way","number"])(T:Tx K mg C CN CR F FD)(n:bZ P w K mg base CR "need_letter" 4 ["self","way","number","at"] (yi C CN CR)):bZ P w K mg base CR "said" 5 ["self","way","number"] (BG C CN CR):=by
 have sc:aC ["self","way","number"] ["self","way","number"] (ax mN):=by walk_at "s"
 symm;obtain⟨F,x,bb,e,r,ad,m,k,rfl,a,b,c,q⟩:=h;have g:=hr.units;refine⟨_,(ag (bJ (dq n T.aM hr (aq 0) (af (aq 1) (af (aq 2) (af ai aa)))))
  (ak (aD (aj g (aj g (bE (aq 0) rfl) (aq 1)) (aq 2))))),?_⟩
 nofun;obtain⟨n,o,l,g⟩:=a.ins;have p:=(g 4 ∅ ∅).1;obtain⟨n,u,y⟩:=a.cj.lst (t:=4) (i:=m) b rfl;have z:=y.iZ;subst z;ac_rfl;left;calc eP l (dE ⋯) ?_;calc⟨_,x,bb,e,r,ad,m,k,_,rfl,a,b,c,?_⟩;left;calc eJ l T.aM T.bI zS ?_;left;calc bD p (aU b) ?_;calc bD u (ay (j:=k) (v:=.int ((r.ww m).say.getD k 0)) (by rw[List.getElem?_map,aQ (d:=0) c];rfl)) ?_;calc q
abbrev pM:Stmt:=(bV (top 52)).getD 8 (.Pass ⟨0,0,0,0⟩)
def v8(C CN CR:Addr):Sp:=λvs H Q _=>∃(F:Addr->Prop) (x bb:Addr) (nt:NT) (r:RS) (ad:Nat->Nat->Addr),vs=[.ref x]/\b8 C CN CR F H x bb nt r ad/\Q (.ref bb) H
theorem Dk(D:fR K CR "net" "Run.net" pM ["self"])(T:Tx K mg C CN CR F FD):bZ P w K mg base CR "net" 1 ["self"] (v8 C CN CR):=by
 have sc:aC ["self"] ["self"] (ax pM):=by walk_at "s"
 symm;obtain⟨F,x,bb,b,r,ad,rfl,a,q⟩:=h;have b:=hr.units;calc⟨_,(ak (aD (bE (aq 0) rfl))),?_⟩;obtain⟨c,o,b,d⟩:=a.ins;left;calc eJ b T.aM T.cM pK ?_;calc q
theorem sM{w:Nat}:∀{l:List Nat},w∈l->l[l.idxOf w]?=some w/\∀i y,i<l.idxOf w->l[i]?=some y->y≠w
 | [],h=>by simp at h
 |a::r,h=>by
  by_cases e:a=w
  ·subst e;rw[List.idxOf_cons_self];exact⟨rfl,λi y c=>absurd c (Nat.not_lt_zero i)⟩
  ·have hr:w∈r:=by
    rcases List.mem_cons.mp h with h|h
    ·exact absurd h.symm e
    ·exact h
   obtain⟨d,g⟩:=sM hr;have j:(a::r).idxOf w=r.idxOf w+1:=by rw[List.idxOf_cons,beq_eq_false_iff_ne.mpr e];rfl
   rw[j];refine⟨by simpa using d,λi y c b=>?_⟩
   cases i with
   |zero=>simp at b;subst b;calc e
   |succ i=>calc g i y () (by simpa using b)
theorem qT{nt:NT}(h:nt.Ok){w:Nat}(a:w<nt.ws.length):(nt.w w).2.1=((nt.goal w:Nat):Int):=by
 have:=h.wy a;unfold NT.goal;lia
theorem GI{nt:NT}(h:nt.Ok){w:Nat}(a:w<nt.ws.length):w∈t9 nt 1 (nt.goal w):=by
 unfold t9;rw[List.mem_filter];calc⟨List.mem_range.mpr a,?_⟩;rw[decide_eq_true_eq];calc qT h a
theorem oq{nt:NT}(h:nt.Ok){w:Nat}(a:w<nt.ws.length):(t9 nt 1 (nt.goal w)).idxOf w=nt.place w:=by
 unfold NT.place;rw[qT h a];rfl
theorem va{l:List Nat}:(l.map λi=>V.int (i:Nat))=(l.map λi=>((i:Nat):Int)).map V.int:=by simp[List.map_map]
theorem Kx{r:RS}{n:NT}{w k:Nat}:∀t i,i<n.n t->setC (setC (setC (setC (setC r.ct 0 0 (.l (r.picks.map pairD++[pairD ((w:Int),(k:Int))]))) 6 w (.l (((r.ww w).dj.map oH).set k (oH (some (n.ev r w)))))) 1 (n.goal w) (.l ((r.mm (n.goal w)).dN.map qw++[qw ((n.work r w k).ns,(n.work r w k).row)]))) 3 (n.goal w) (.l (((r.mm (n.goal w)).wp.bq []).map .int++(n.work r w k).words.map .int))) 2 (n.goal w) (.l (((r.mm (n.goal w)).wp.map λu=>DV.int (u.length:Nat))++[.int ((((r.mm (n.goal w)).wp.bq []++(n.work r w k).words).length:Nat))])) t i=(r.step n w k).ct t i:=by
 intro t i a;unfold setC
 match t,a with
 |0,a=>
  have:i=0:=by have:i<1:=a;lia
  subst this;simp[RS.ct,RS.step]
 |1,_=>by_cases e:i=n.goal w<;>simp[RS.ct,RS.step,e]
 |2,_=>by_cases e:i=n.goal w<;>simp[RS.ct,RS.step,e]
 |3,_=>by_cases e:i=n.goal w<;>simp[RS.ct,RS.step,e,rQ]
 |4,_=>by_cases e:i=w<;>simp[RS.ct,RS.step,e]
 |5,_=>by_cases e:i=w<;>simp[RS.ct,RS.step,e]
 |6,_=>by_cases e:i=w<;>simp[RS.ct,RS.step,e,List.map_set]
 |(t+7),a=>calc absurd a (Nat.not_lt_zero i)
theorem BH{nt:NT}(d:nt.Ok)(h:r.Ok nt){w k:Nat}(f:w<nt.ws.length):∀a c,some (nt.ev r w)=some (a,c)->0<=a/\a<nt.ms.length/\1<=c/\c<=((r.step nt w k).mm a.toNat).hr.length:=by
 have b:=d.gP f;intro a c e
 cases e;refine⟨(),(),?_,?_⟩
 ·have:=h.vR b;lia
 ·have d:(r.step nt w k).mm (nt.goal w)=⟨(r.mm (nt.goal w)).dN++[((nt.work r w k).ns,(nt.work r w k).row)],(r.mm (nt.goal w)).wp++[(r.mm (nt.goal w)).wp.bq []++(nt.work r w k).words],(r.mm (nt.goal w)).hr++[nt.gb r w k]⟩:=if_pos rfl;rw[show((nt.goal w:Nat):Int).toNat=nt.goal w from Int.toNat_natCast _,d,h.lh _ b];simp
theorem pN{outs:List Nat}{ev:Int×Int}:∀(a:List (Int×Int)) {r:RS}{p:Int×Int},r.send outs ev (a++[p])=(r.send outs ev a).send outs ev [p]
 | [],r,p=>rfl
 |q::a,r,p=>pN a
structure BF(F:Addr->Prop)(n:Nat->Nat)(ad:Nat->Nat->Addr)(A B H:Hp)(ct:Nat->Nat->CO):Prop where
 b:dH F H n ad ct
 f:Fr (FP n ad) A H
 g:Fr (FP n ad) B H
section
variable {F:Addr->Prop}{n:Nat->Nat}{ad:Nat->Nat->Addr}{A B H H':Hp}{ct:Nat->Nat->CO}
theorem BF.same(h:BF F n ad A B H ct)(s:au H H'):BF F n ad A B H' ct:=⟨h.b.same s,h.f.trans s.fr,h.g.trans s.fr⟩
theorem BF.app(h:BF F n ad A B H ct){t i:Nat}(a:i<n t){d:List DV}(e:ct t i=.l d){vs:List V}(c:H (ad t i)=some (.lst vs)){us:List V}{j:List DV}(g:eE (hE (λb=>F b\/FP n ad b) H) 4 us j):BF F n ad A B (upd H (ad t i) (.lst (vs++us))) (setC ct t i (.l (d++j))):=⟨h.b.app a e c g,h.f.upd ⟨t,i,a,rfl⟩ c trivial,h.g.upd ⟨t,i,a,rfl⟩ c trivial⟩
end
abbrev jc:Stmt:=(bV (top 52)).getD 7 (.Pass ⟨0,0,0,0⟩)
inductive GJ(C CN CR:Addr)(vs:List V)(H:Hp)(Q:VK):Prop
 |mk (F:Addr->Prop) (x bb:Addr) (nt:NT) (r:RS) (ad:Nat->Nat->Addr) (wy k:Nat) (a:V) (h0:vs=[.ref x,.int (wy:Nat),.int (k:Nat),a]) (h1:b8 C CN CR F H x bb nt r ad) (h2:FS F H) (h3:r.Ok nt) (h4:r.Kw nt wy k) (h5:r.picks.length<=400) (h6:∀t H',Fr (FP nt.n ad) H H'->b8 C CN CR F H' x bb nt (r.pick nt wy k) ad->HT H' 1 t (pairD (nt.ev r wy))->Q t H'):GJ C CN CR vs H Q
def BI(C CN CR:Addr):Sp:=λvs H Q _=>GJ C CN CR vs H Q
theorem ud(D:fR K CR "pick_at" "Run.pick_at" jc ["self","way","number","at"])(T:Tx K mg C CN CR F FD)(gk:bZ P w K mg base C "worked" 3 ["self","state","way","said"] (u9 K C))(bY:bZ P w K mg base CN "machines" 1 ["self"] (gS CN))(cA:bZ P w K mg base CN "ways" 1 ["self"] (kM CN))(je:bZ P w K mg base CN "ways_in" 4 ["self","m"] (sE C CN))(ij:bZ P w K mg base CN "ways_out" 4 ["self","m"] (qp C CN))(gE:bZ P w K mg base CR "need_pick" 5 ["self","way","number","at"] (LY C CN CR))(c8:bZ P w K mg base CR "put_letter" 1 ["self","way","said","sender"] (sF C CN CR))(ft:bZ P w K mg base CR "state" 4 ["self","m"] (GC C CN CR)):bZ P w K mg base CR "pick_at" 6 ["self","way","number","at"] (BI C CN CR):=by
 have sc:aC ["self","way","number","at","m","place","machine","state","sent","words","event","ways_out","j","said"] ["self","way","number","at"] (ax jc):=by walk_at "s"
 symm;obtain⟨F,x,bb,m,r,ad,B,k,a,rfl,J,lR,L,hc,o,q⟩:=h;have o:=hr.units;refine⟨_,(ag (bJ (dq gE T.aM hr (aq 0) (af (aq 1) (af (aq 2) (af (aq 3) aa)))))
  (ag (aZ (i:=4) sc.nd rfl Sort (aj o (aj o (eR cA T.cL hr (bE (aq 0) rfl)) (aq 1)) ai))
  (ag (aZ (i:=5) sc.nd rfl Sort (de lS PySem.F.slot_list_index PySem.F.type_list_index uP (dq je T.cL hr (bE (aq 0) rfl) (af (aq 4) aa)) (af (aq 1) aa)))
  (ag (aZ (i:=6) sc.nd rfl Sort (aj o (eR bY T.cL hr (bE (aq 0) rfl)) (aq 4)))
  (ag (eY (dq gk T.cK hr (aq 6) (af (dq ft T.aM hr (aq 0) (af (aq 4) aa)) (af (aq 5) (af (aj o (aj o (bE (aq 0) rfl) (aq 1)) (aq 2)) aa)))) (xK (i:=7) (j:=8) (l:=9) rfl sc.nd rfl rfl rfl Sort Sort Sort))
  (ag (aZ (i:=10) sc.nd rfl Sort (bH (af (aq 4) (af (aV aL rfl T.bT L' (af (aj o (bE (aq 0) rfl) (aq 4)) aa)) aa))))
  (ag (bJ (de lS oF oG bU (bE (aq 0) rfl) (af (bH (af (aq 1) (af (aq 2) aa))) aa)))
  (ag (eY (aq 10) (iW (aj o (bE (aq 0) rfl) (aq 1)) (aq 2) dX))
  (ag (bJ (de lS oF oG bU (aj o (bE (aq 0) rfl) (aq 4)) (af (aq 7) aa)))
  (ag (bJ (de lS PySem.F.slot_list_extend PySem.F.type_list_extend J0 (aj o (bE (aq 0) rfl) (aq 4)) (af (aq 9) aa)))
  (ag (bJ (de lS oF oG bU (aj o (bE (aq 0) rfl) (aq 4)) (af (aV aL rfl T.bT L' (af (aj o (bE (aq 0) rfl) (aq 4)) aa)) aa)))
  (ag (aZ (i:=11) sc.nd rfl Sort (dq ij T.cL hr (bE (aq 0) rfl) (af (aq 4) aa)))
  (ag (cQ PassesOwn.never rfl (bS (pv 8)) (e9 (i:=12) (j:=13) rfl sc.nd rfl rfl Sort Sort)
  (ak (aS (az gB (aq 12) (aV aL rfl T.bT L' (af (aq 11) aa)) (aE _)) (ak (bJ (dq c8 T.aM hr (aq 0) (af (aj o (aq 11) (aq 12)) (af (aq 13) (af (aq 10) aa)))))) aG)))
  (ak (aD (aq 10)))))))))))))))),?_⟩
 nofun;obtain⟨dx,o,M,ho⟩:=J.ins;have hn:=J.Ku;have S:=hn.ok;obtain⟨⟨ms,wv,lv,hf,o,yU,Gz⟩,_⟩:=id hn;obtain⟨o,a1,b1,c1,g1,g2,g3,g4⟩:=id hf;ac_rfl;left;calc eP M (dE ⋯) ?_;calc⟨_,x,bb,m,r,ad,B,k,a,rfl,J,L,hc,λH1 o=>?_⟩;nofun;have I:=hc.lt;have G:=S.gP I;obtain⟨wk1,Wv,wk3,Y3⟩:=qN S L I k;ac_rfl;left;calc eJ (o _ _ M) T.aM T.cM pK ?_;left;calc eP (o _ _ g1) (eC ⋯ ⋯ ⋯) ?_;calc fK bb ms wv lv rfl (hf.same o) (λl hl=>?_);have s2:au H (upd H1 l (.lst wv)):=o.trans (au.new _ hl);have el:upd H1 l (.lst wv) l=some (.lst wv):=ab;nofun;generalize wL:upd H1 l (.lst wv)=H2 at *;have o:m.ws[B]?=some (m.w B):=aQ I;have jJ:B<wv.length:=by have:=Gz.1;simp at this;lia
 have yh:=(Gz.2 B wv[B] (lX (m.w B)) nofun (by rw[List.getElem?_map,o];rfl)).aH s2.aP;obtain⟨ta,u1,u2,u3,kk,eta,zU,q1,q2,q3⟩:=cm yh;obtain rfl:=q1.cP;obtain rfl:=q2.cP;obtain rfl:=q3.cV;ac_rfl;left;calc bD el (ay (j:=B) (v:=.ref ta) (by rw[<-eta];simp)) ?_;calc cZ zU (show iJ _ 1=some (.int ((m.goal B:Nat):Int)) from by rw[<-qT S I];calc ay (j:=1) rfl) ?_;left;calc eJ (s2 _ _ M) T.aM T.cM pK ?_;left;calc eP (s2 _ _ g1) (eC ⋯ ⋯ ⋯) ?_;calc⟨bb,m,m.goal B,rfl,hn.fr (Z:=λ_=>False) s2.fr,G,λl2 H3 L0 fl2 o=>?_⟩;have s3:=s2.trans L0;calc⟨.inl ⟨rfl,_,aO.of o⟩,?_⟩;obtain⟨Y4,Y5⟩:=sM (GI S I);refine⟨l2,_,m.place B,B,rfl,rfl,by rw[o,va],?_,?_,?_⟩
 ·rw[List.getElem?_map,<-oq S I,Y4];rfl
 ·intro i y hi hy;rw[List.getElem?_map]at hy;obtain⟨z,hz,rfl⟩:=Option.map_eq_some_iff.mp hy;have:=Y5 i z (by rw[oq S I];calc hi) hz;lia
 left;calc eJ (s3 _ _ M) T.aM T.cM pK ?_;left;calc eP (s3 _ _ g1) (eC ⋯ ⋯ ⋯) ?_;calc fK bb ms wv lv rfl (hf.same s3) (λl4 o=>?_);have U:au H (upd H3 l4 (.lst (ms.map V.ref))):=s3.trans (au.new _ o);have Y6:upd H3 l4 (.lst (ms.map V.ref)) l4=some (.lst (ms.map V.ref)):=ab;generalize TL:upd H3 l4 (.lst (ms.map V.ref))=H4 at *;have LV:m.goal B<ms.length:=by lia
 have o:m.ms[m.goal B]?=some (m.ms.getD (m.goal B) default):=aQ G;have BJ:=(yU (m.goal B) ms[m.goal B] _ (dw LV) o).same U;have Ky:=S.gd G;left;calc bD Y6 (ay (j:=m.goal B) (v:=.ref ms[m.goal B]) (by rw[List.getElem?_map,dw LV];rfl)) ?_;left;nofun;generalize ms[m.goal B]=mch at *;obtain⟨dm,o,y,DK,hm2,hm3⟩:=id BJ;ac_rfl;calc eP DK (Bp ⋯ ⋯ ⋯) ?_;calc eP (U _ _ M) (dE ⋯) ?_;calc⟨_,x,bb,m,r,ad,m.goal B,rfl,J.same U,L,G,λsv DT=>?_⟩;have l4':=U _ _ (ho 4 ∅ ∅).1;nofun;obtain⟨o,e4,d4⟩:=(J.cj.same U).lst (t:=4) (i:=B) I rfl;have z4:=d4.iZ;subst z4;ac_rfl;have yk:k<(r.ww B).say.length:=by rw[L.lk B I];exact(List.getElem?_eq_some_iff.mp hc.lies).1
 left;calc eJ (U _ _ M) T.aM T.bI zS ?_;left;calc bD l4' (aU I) ?_;calc bD e4 (ay (j:=k) (v:=.int ((r.ww B).say.getD k 0)) (by rw[List.getElem?_map,aQ (d:=0) yk];rfl)) ?_;have o:=L.last G;calc⟨mch,sv,_,_,_,_,_,_,_,_,rfl,BJ,xG.of DT,Ky.m2,Ky.Yg,o.bn,o.lr,Ky.Wm,by rw[o.ln];calc Ky.ok,λy W L3 OV=>?_⟩;have s5:=U.trans L3;nofun;obtain⟨rp,IY,QG,L4,zs,rfl,o,zW,OW,lY,zX,Y9,Za,y⟩:=OV.ex
 replace zW:HT W 2 IY (xE (m.work r B k).ns (m.work r B k).row):=zW
 replace lY:SL W zs (m.work r B k).cJ:=lY
 replace zX:W L4=some (.lst ((m.work r B k).words.map V.int)):=zX
 ac_rfl;calc un3 (bQ.of o) ?_;left;calc eJ (s5 _ _ M) T.aM T.cn Gy ?_;have b5:=J.cj.same s5;have i0:0<m.n 0:=by show 0<1;decide
 obtain⟨o,y,d1⟩:=b5.lst (t:=1) (i:=m.goal B) G rfl;have z1:o.length=(r.mm (m.goal B)).dN.length:=by simpa using d1.1
 left;calc bD (s5 _ _ (ho 1 ∅ ∅).1) (aU G) ?_;calc gw _ (.inl ⟨_,aO.of y,rfl⟩) cH (λev o=>?_);rw[z1];have s6:au H (upd W ev (.tup [.int ((m.goal B:Nat):Int),.int (((r.mm (m.goal B)).dN.length:Nat):Int)])):=s5.trans (au.new _ o);have L5:au W (upd W ev (.tup [.int ((m.goal B:Nat):Int),.int (((r.mm (m.goal B)).dN.length:Nat):Int)])):=au.new _ o;have Zc:HT (upd W ev (.tup [.int ((m.goal B:Nat):Int),.int (((r.mm (m.goal B)).dN.length:Nat):Int)])) 1 (.ref ev) (pairD (m.ev r B)):=df (n:=0) ab (.int _) (.int _);generalize Km:upd W ev (.tup [.int ((m.goal B:Nat):Int),.int (((r.mm (m.goal B)).dN.length:Nat):Int)])=H6 at *;have b6:=J.cj.same s6;left;calc eJ (s6 _ _ M) T.aM T.cY TF ?_;obtain⟨v0,e0,d0⟩:=b6.lst (t:=0) (i:=0) i0 rfl;have o:v0.length=r.picks.length:=by simpa using d0.1
 left;calc gC (.inl ⟨rfl,_,aO.of e0⟩) cH (λtp o=>?_);left;have s7:au H (upd H6 tp (.tup [.int ((B:Nat):Int),.int ((k:Nat):Int)])):=s6.trans (au.new _ o);have wM:au H6 (upd H6 tp (.tup [.int ((B:Nat):Int),.int ((k:Nat):Int)])):=au.new _ o;have Zd:HT (upd H6 tp (.tup [.int ((B:Nat):Int),.int ((k:Nat):Int)])) 1 (.ref tp) (pairD ((B:Int),(k:Int))):=df (n:=0) ab (.int _) (.int _);generalize Wx:upd H6 tp (.tup [.int ((B:Nat):Int),.int ((k:Nat):Int)])=H7 at *;have b7:=J.cj.same s7;have FS7:FS F H7:=lR.fr (Z:=λ_=>False) s7.fr (λ_ _ h=>h);have e07:=wM _ _ e0;have QH:=L5.trans wM;calc gw v0 e07 (small ()) ?_;have R:=(BF.mk b7 s7.fr (Fr.refl:Fr (FP m.n ad) H7 H7)).app (t:=0) (i:=0) i0 rfl e07 (eE.one ((b7.ht FS7 Zd).mono ∅));generalize Ze:upd H7 (ad 0 0) (.lst (v0++[.ref tp]))=H8 at *;have y:=ho 6 ∅ ∅;have o1:=ho 1 ∅ ∅;have o2:=ho 2 ∅ ∅;have o3:=ho 3 ∅ ∅;left;calc eJ (R.f.lV M id) T.aM T.cN Dj ?_;obtain⟨v6,e6,d6⟩:=R.b.lst (t:=6) (i:=B) I rfl;have W:v6.length=(r.ww B).dj.length:=by simpa using d6.1
 have o:k<v6.length:=by rw[W,<-L.lk B I];exact yk
 left;calc bD (R.f.at y.1 y.2.2) (aU I) ?_;left;calc cD v6 k e6 (oh o) ?_;have TM:=Zc.aH wM.aP;have X:=BF.mk (R.b.set (t:=6) (i:=B) I rfl e6 (k:=k) ((R.b.ht (lR.fr R.f J.cj.uc) (TM.aH R.g.aP)).mono ∅)) (R.f.upd ⟨6,B,I,rfl⟩ e6 trivial) (R.g.upd ⟨6,B,I,rfl⟩ e6 trivial);generalize hG9:upd H8 (ad 6 B) (.lst (v6.set k (.ref ev)))=H9 at *;left;calc eJ (X.f.lV M id) T.aM T.cn Gy ?_;obtain⟨Zf,o,d19⟩:=X.b.lst (t:=1) (i:=m.goal B) G rfl;have y:Zf.length=(r.mm (m.goal B)).dN.length:=by simpa using d19.1
 have y:=L.bp _ G;left;calc bD (X.f.at o1.1 o1.2.2) (aU G) ?_;calc⟨.inl ⟨rfl,_,aO.of o⟩,?_⟩;left;calc gw Zf o (small ()) ?_;have EW:=X.app (t:=1) (i:=m.goal B) G rfl o (eE.one (show HD _ 4 IY (qw ((m.work r B k).ns,(m.work r B k).row)) from(X.b.ht (lR.fr X.f J.cj.uc) ((zW.aH QH.aP).aH X.g.aP)).mono ∅));have GK:¬FP m.n ad QG:=λz=>by
  obtain⟨u,e,_⟩:=(J.cj.same U).fp z;rw[Y9]at e;cases e
 have OX:¬FP m.n ad L4:=λz=>by
  obtain⟨u,e,_⟩:=(J.cj.same U).fp z;rw[Za]at e;cases e
 generalize TN:upd H9 (ad 1 (m.goal B)) (.lst (Zf++[IY]))=DU at *;left;calc eJ (EW.f.lV M id) T.aM T.cG OT ?_;obtain⟨v3,o,d3⟩:=EW.b.lst (t:=3) (i:=m.goal B) G rfl;have y:=d3.iZ;have U:=L.bw _ G _ (fg (l:=(r.mm (m.goal B)).wp) (d:=[]) (by rw[<-L.lw _ G];calc L.vR G));have l:v3.length=((r.mm (m.goal B)).wp.bq []).length:=by rw[y];simp
 left;calc bD (EW.f.at o3.1 o3.2.2) (aU G) ?_;calc⟨.inl ⟨rfl,_,aO.of o⟩,?_⟩;left;calc tS v3 _ o (EW.g.at (QH _ _ zX) OX) (E' (small (by simp;lia))) ?_;have Y:=EW.app (t:=3) (i:=m.goal B) G rfl o (eE.ints (m.work r B k).words);have Zi:upd DU (ad 3 (m.goal B)) (.lst (v3++(m.work r B k).words.map V.int)) (ad 3 (m.goal B))=some (.lst (v3++(m.work r B k).words.map V.int)):=ab;generalize TQ:upd DU (ad 3 (m.goal B)) (.lst (v3++(m.work r B k).words.map V.int))=QI at *;left;calc eJ (Y.f.lV M id) T.aM T.dS YZ ?_;obtain⟨v2,e2,d2⟩:=Y.b.lst (t:=2) (i:=m.goal B) G rfl;have l:v2.length=(r.mm (m.goal B)).wp.length:=by simpa using d2.1
 have l:=L.lw _ G;left;calc bD (Y.f.at o2.1 o2.2.2) (aU G) ?_;calc⟨.inl ⟨rfl,_,aO.of e2⟩,?_⟩;left;calc eJ (Y.f.lV M id) T.aM T.cG OT ?_;left;calc bD (Y.f.at o3.1 o3.2.2) (aU G) ?_;calc bA _ (.inl ⟨_,aO.of Zi,rfl⟩) ?_;left;calc gw v2 e2 (small ()) ?_;rw[show(v3++(m.work r B k).words.map V.int).length=((r.mm (m.goal B)).wp.bq []++(m.work r B k).words).length by simp;lia];have yV:=Y.app (t:=2) (i:=m.goal B) G rfl e2 (eE.one (.int (((r.mm (m.goal B)).wp.bq []++(m.work r B k).words).length:Nat)));generalize TR:upd QI (ad 2 (m.goal B)) (.lst (v2++[.int (((r.mm (m.goal B)).wp.bq []++(m.work r B k).words).length:Nat)]))=Wy at *;have TU:b8 C CN CR F Wy x bb m (r.step m B k) ad:=J.own yV.f (yV.b.congr Kx);have TV:SL Wy zs (m.work r B k).cJ:=(lY.aH QH.aP).aH yV.g.aP;have og:=yV.g.at (QH _ _ OW) GK;have TX:=TM.aH yV.g.aP;have Wz:=yV.f;clear b5 b6 b7 R X EW Y yV d0 d1 d2 d3 d4 d6 d19 Ze hG9 TN TQ TR;left;calc eJ (Wz.lV M id) T.aM T.cM pK ?_;left;calc eP (Wz.lV g1 id) (eC ⋯ ⋯ ⋯) ?_;calc⟨bb,m,m.goal B,rfl,hn.fr Wz,G,λlo WA pJ flo L6=>?_⟩;have nlo:¬FP m.n ad lo:=λz=>by
  obtain⟨u,e,_⟩:=TU.cj.fp z;rw[flo]at e;cases e
 left;have o:=TU.same pJ;have l:=pJ _ _ og;have L7:=TX.aH pJ.aP;have L8:=TV.aH pJ.aP;have WB:zs.length=(m.work r B k).cJ.length:=L8.1;have f13:=Wz.trans pJ.fr;have OY:=L.step S I (k:=k);have OZ:∀a c,some (m.ev r B)=some (a,c)->0<=a/\a<m.ms.length/\1<=c/\c<=((r.step m B k).mm a.toNat).hr.length:=BH S L I;refine⟨_,rfl,.inl ⟨⟨_,aO.of l⟩,eS (K:=K) (xs:=zs) (λi σ H'=>(∃O0 O1,σ=[some (V.ref x),some (V.int ((B:Nat):Int)),some (V.int ((k:Nat):Int)),some a,some (V.int ((m.goal B:Nat):Int)),some (V.int ((m.place B:Nat):Int)),some (V.ref mch),some IY,some (V.ref QG),some (V.ref L4),some (V.ref ev),some (V.ref lo),O0,O1])/\Fr (FP m.n ad) WA H'/\b8 C CN CR F H' x bb m ((r.step m B k).send (m.outs (m.goal B)) (m.ev r B) ((m.work r B k).cJ.take i)) ad) ?_ ?_ ?_ ?_⟩⟩
 ·exact⟨⟨_,_,rfl⟩,Fr.refl,o⟩
 ·rintro i σ H' hi ⟨_,N,_⟩;exact aO.of (N.at l GK)
 ·intro i z σ H' hz gQ;nofun;obtain⟨⟨O0,O1,rfl⟩,N,wN⟩:=gQ;have l:i < zs.length:=(List.getElem?_eq_some_iff.mp hz).1;have l:i < (m.work r B k).cJ.length:=by lia
  have o:(m.work r B k).cJ[i]?=some (m.work r B k).cJ[i]:=dw l;have vb:=Y3 _ (W' l);have O3:=(L8.2 i z _ hz o).aH N.aP;have Kz:(r.step m B k).send (m.outs (m.goal B)) (m.ev r B) ((m.work r B k).cJ.take (i+1))=((r.step m B k).send (m.outs (m.goal B)) (m.ev r B) ((m.work r B k).cJ.take i)).send (m.outs (m.goal B)) (m.ev r B) [(m.work r B k).cJ[i]]:=by
   rw[List.take_succ,o];exact pN _
  generalize (m.work r B k).cJ[i]=p at *;obtain⟨O,px⟩:=p;obtain⟨tz,u1,u2,kz,rfl,DG,y1,y2⟩:=dF O3;obtain rfl:=y1.cP;obtain rfl:=y2.cP;ac_rfl;calc tE (bQ.of DG) ?_;have o:=N.at L6 nlo;left;calc bA _ (.inl ⟨_,aO.of o,rfl⟩) ?_;left;have l:((t9 m 0 (m.goal B)).map λi=>V.int ((i:Nat):Int)).length=(m.outs (m.goal B)).length:=by rw[List.length_map];rfl
  rw[l];have u:O.toNat=O.toNat:=rfl;have y:((O.toNat:Nat):Int)=O:=aaH vb;by_cases u:O<((m.outs (m.goal B)).length:Nat)
  ·rw[if_pos (by simpa using u)];have l:O.toNat < (m.outs (m.goal B)).length:=by lia
   have z:(m.outs (m.goal B)).getD O.toNat 0<m.ws.length:=by
    have:=getD_mem (d:=0) l;unfold NT.outs at this ⊢;rw[List.mem_filter,List.mem_range]at this;exact this.1
   left;obtain⟨I,L,G,M⟩:=wN.ins;calc eP G (dE ⋯) ?_;refine bD o (show iJ _ O=some (.int (((m.outs (m.goal B)).getD O.toNat 0:Nat):Int)) from by
    rw[<-y];calc ay ?_;rw[List.getElem?_map];show Option.map _ (m.outs (m.goal B))[_]?=_;rw[Int.toNat_natCast,aQ (d:=0) l];rfl) ?_
   have y:=(RS.tD.send (outs:=m.outs (m.goal B)) (ev:=m.ev r B) ((m.work r B k).cJ.take i) OY OZ).mono (show _<=19999 by simp;lia);calc⟨F,x,bb,m,_,ad,_,px,.ref ev,some (m.ev r B),rfl,wN,lR.fr (f13.trans N) J.cj.uc,z,(L7.aH N.aP).mono ∅,y,λo G I=>?_⟩;left;calc gC ⟨_,_,rfl,rfl⟩ (N.trans G) ?_;rw[Kz];show b8 C CN CR F o x bb m (if O.toNat<_ then _ else _) ad;rw[if_pos l];exact I
  ·rw[if_neg (by simpa using u)];left;calc gC ⟨_,_,rfl,rfl⟩ N ?_;rw[Kz];show b8 C CN CR F H' x bb m (if O.toNat<_ then _ else _) ad;rw[if_neg ()];exact wN
 ·intro σ H' gR;obtain⟨⟨O0,O1,rfl⟩,N,wN⟩:=gR;left;rw[WB,List.take_length]at wN;calc q _ _ (f13.trans N) wN (L7.aH N.aP)
def _root_.DD.RS.oI(r:RS)(w:Nat):List Nat:=(List.range (r.ww w).say.length).filter λk=>((r.ww w).dj.getD k none).isNone
def mO(r:RS)(w:Nat)(a:List Nat):List DV:=a.map λ(k:Nat)=>pairD (((k:Nat):Int),(r.ww w).say.getD k 0)
theorem fu{p:Nat->Bool}{i:Nat}:(List.range (i+1)).filter p=(List.range i).filter p++(if p i=true then[i] else[]):=by
 rw[List.range_succ,List.filter_append];congr 1
 cases h:p i<;>simp[h]
theorem GL(c:∀b,Z b->∃o,H b=some o/\soft o){m:Nat}{x:V}{d:DV}(g:HT H m x d):HD (hE Z H) m x d:=by
 calc HT.hd (g.aH λb h e=>?_);rw[fJ (λz=>by
  obtain⟨o,a,f⟩:=c b z;rw[e] at a;cases a;calc f)]
 calc e
structure sQ(H0 H':Hp)(D:Addr)(as:List Addr)(n:Nat)(ct:Nat->Hp->List V->Prop):Prop where
 len:as.length=n
 nd:as.Nodup
 new:∀a∈as,H0 a=none/\a≠D
 ins:∀(j:Nat) a,as[j]?=some a->∃vs,H' a=some (.lst vs)/\ct j H' vs
theorem sQ.nil{ct:Nat->Hp->List V->Prop}:sQ H0 H' D [] 0 ct:=⟨rfl,List.nodup_nil,λa h=>by simp at h,λj a h=>by simp at h⟩
theorem sQ.snoc{H0 H1 H':Hp}{D a:Addr}{as:List Addr}{n:Nat}{ct:Nat->Hp->List V->Prop}(h:sQ H0 H1 D as n ct)(m:au H0 H1)(p:H1 D≠none)(f:H1 a=none){vs:List V}(e:H' a=some (.lst vs))(c:ct n H' vs)(s:∀b o,b≠D->H1 b=some o->H' b=some o)(d:∀j vs,ct j H1 vs->ct j H' vs):sQ H0 H' D (as++[a]) (n+1) ct:=by
 refine⟨by simp[h.len],?_,λb hb=>?_,λj b hb=>?_⟩
 ·rw[List.nodup_append];calc gC h.nd nofun (λb hb c k=>?_);simp at k;subst k;intro z;subst z;obtain⟨j,i⟩:=List.getElem?_of_mem hb;obtain⟨vs,g,_⟩:=h.ins j b i;rw[f]at g;cases g
 ·rcases List.mem_append.mp hb with hb | hb
  ·exact h.new b hb
  ·simp at hb;subst hb;refine⟨?_,λz=>p (z ▸ f)⟩
   cases q:H0 b with
   |none=>rfl
   |some o=>rw[m _ _ q]at f;cases f
 ·by_cases i:j < as.length
  ·rw[List.getElem?_append_left i]at hb;obtain⟨vs,g,f⟩:=h.ins j b hb;exact⟨vs,s _ _ (h.new b (aaa hb)).2 g,d _ _ f⟩
  ·rw[List.getElem?_append_right ()] at hb
   cases l:j-as.length with
   |zero=>
    rw[l]at hb;simp at hb;subst hb;have:j=n:=by have:=h.len;lia
    subst this;calc⟨vs,e,c⟩
   |succ k=>rw[l]at hb;simp at hb
theorem sQ.keep{n:Nat}{ct:Nat->Hp->List V->Prop}(h:sQ H0 H1 D as n ct)(s:∀(b:Addr) (vs:List V),H1 b=some (.lst vs)->H' b=some (.lst vs))(c:∀j vs,ct j H1 vs->ct j H' vs):sQ H0 H' D as n ct:=
 ⟨h.len,h.nd,h.new,λj a e=>by
  obtain⟨vs,d,f⟩:=h.ins j a e;calc⟨vs,s _ _ d,c _ _ f⟩⟩
theorem kS{K:W.Frag}{ix:List (Option Nat)}{m:TE}{l:Addr}{xs vs:List V}(o:H l=some (.lst xs))(r:H D=none)(C:xs.length<=10)(u:∀x,Ext (tM ix σ) ((tM ix σ).set 0 (some x)))(v:∀d g (R:VK),(∀p,g p=none->R (.ref p) (upd g p (.lst vs)))->m d g R)(q:∀as H1,H1 D=some (.lst (as.map V.ref))->au H H1->sQ H H1 D as xs.length (λ_ _ ws=>ws=vs)->Q (.ref D) H1):kB ix (tw K l) (fS 0) iM m σ H Q D:=by
 refine aX (n:=xs.length) (λi ys H'=>∃as:List Addr,ys=as.map V.ref/\au H H'/\sQ H H' D as i (λ_ _ ws=>ws=vs)) (E' (small ())) ⟨[],rfl,au.new _ r,sQ.nil⟩ ?_ ?_ ?_ ?_
 ·rintro i ys H' j ⟨_,_,a,_⟩;exact⟨_,xs[i],aO.of (a _ _ o),dw j⟩
 ·rintro ys H' ⟨_,_,a,_⟩;exact⟨_,aO.of (a _ _ o),K' _⟩
 ·intro i ys H' j c t w y F z;obtain⟨as,rfl,a,k⟩:=w;obtain⟨rfl,d⟩:=z;calc⟨u y,?_⟩;simp only[iM,if_true];calc v _ _ _ λp d=>?_;have g:=au.new (.lst vs) d;have i:p≠D:=Ne.symm (ao c d);refine bR (g _ _ c) t j (E' (small ())) ⟨as++[p],nofun,λb o e=>?_,?_⟩
  ·rw[av (ao e r)];exact g _ _ (a _ _ e)
  ·refine k.snoc a (by rw[c];simp) d (vs:=vs) ?_ rfl (λb o a e=>?_) (λj vs e=>e)
   ·rw[av i];exact ab
   ·rw[av a];exact g _ _ e
 ·intro ys H1 c t B;obtain⟨as,rfl,a,k⟩:=B;calc q as H1 c a k
abbrev mP:Stmt:=(bV (top 52)).getD 9 (.Pass ⟨0,0,0,0⟩)
inductive L9(C CN CR:Addr)(vs:List V)(H:Hp)(Q:VK):Prop
 |mk (F:Addr->Prop) (x bb:Addr) (nt:NT) (r:RS) (ad:Nat->Nat->Addr) (wy k:Nat) (h0:vs=[.ref x,.int (wy:Nat),.int (k:Nat)]) (h1:b8 C CN CR F H x bb nt r ad) (h2:FS F H) (h3:r.Ok nt) (h4:r.Kw nt wy k) (h5:r.picks.length<=400) (h6:∀t H',Fr (FP nt.n ad) H H'->b8 C CN CR F H' x bb nt (r.pick nt wy k) ad->HT H' 1 t (pairD (nt.ev r wy))->Q t H'):L9 C CN CR vs H Q
def GN(C CN CR:Addr):Sp:=λvs H Q _=>L9 C CN CR vs H Q
theorem zZ(D:fR K CR "pick" "Run.pick" mP ["self","way","number"])(T:Tx K mg C CN CR F FD)(j:bZ P w K mg base CR "pick_at" 6 ["self","way","number","at"] (BI C CN CR)):bZ P w K mg base CR "pick" 7 ["self","way","number"] (GN C CN CR):=by
 have sc:aC ["self","way","number"] ["self","way","number"] (ax mP):=by walk_at "s"
 symm;obtain⟨F,x,bb,b,r,ad,c,k,rfl,a,d,e,g,i,q⟩:=h;have l:=hr.units;calc⟨_,(ak (aD (dq j T.aM hr (aq 0) (af (aq 1) (af (aq 2) (af ai aa)))))),?_⟩;obtain⟨m,o,l,n⟩:=a.ins;left;calc eP l (dE ⋯) ?_;calc⟨F,x,bb,b,r,ad,c,k,_,rfl,a,d,e,g,i,q⟩
abbrev kT:Stmt:=(bV (top 52)).getD 13 (.Pass ⟨0,0,0,0⟩)
def GO(C CN CR:Addr):Sp:=λvs H Q _=>∃(F:Addr->Prop) (x bb:Addr) (nt:NT) (r:RS) (ad:Nat->Nat->Addr) (m:Nat),vs=[.ref x,.int m]/\b8 C CN CR F H x bb nt r ad/\r.Ok nt/\r.picks.length<=400/\m<nt.ws.length/\∀l ys H',au H H'->H l=none->H' l=some (.lst ys)->eE (hE (λb=>b=l) H') 1 ys (mO r m (r.oI m))->Q (.ref l) H'
theorem yo(D:fR K CR "lying" "Run.lying" kT ["self","way"])(T:Tx K mg C CN CR F FD)(cy:bZ P w K mg base CR "need_way" 3 ["self","way","at"] (BE C CN CR)):bZ P w K mg base CR "lying" 4 ["self","way"] (GO C CN CR):=by
 have sc:aC ["self","way","workers"] ["self","way"] (ax kT):=by walk_at "s"
 symm;obtain⟨F,x,bb,nt,r,ad,m,rfl,k,v,M,a,q⟩:=h;have M:=hr.units;refine⟨_,(ag (bJ (dq cy T.aM hr (aq 0) (af (aq 1) (af ai aa))))
  (ag (aZ (i:=2) sc.nd rfl Sort (aj M (bE (aq 0) rfl) (aq 1)))
  (ak (aD (cO (N':=["number","said","workers"]) (ix:=[none,none,some 2]) (eX rfl T.cu (af (aj M (bE (aq 0) rfl) (aq 1)) aa)) (λ_ _ _ _=>(iP (K:=K) rfl (i:=0) (j:=1) rfl (show(["number","said","workers"]:List Str).Nodup by decide +kernel) rfl rfl Sort Sort)) (λ_ _ _ _=>(iN (az rD (dC (K:=K) rfl M (aq 2) (aq 0)) gV (aE _)))) (λ_ _ _ _=>(bH (af (aq 0) (af (aq 1) aa))))))))),?_⟩
 nofun;obtain⟨dx,o,M,ho⟩:=k.ins;have l6:=(ho 6 ∅ ∅).1;have l4:=(ho 4 ∅ ∅).1;obtain⟨v6,e6,d6⟩:=k.cj.lst (t:=6) (i:=m) a rfl;obtain⟨p,u,d4⟩:=k.cj.lst (t:=4) (i:=m) a rfl;ac_rfl;have z4:=d4.iZ;have WC:=v.lk m a;have Zl:=v.bs m a;left;calc eP M (dE ⋯) ?_;calc⟨_,x,bb,nt,r,ad,m,_,rfl,k,a,?_⟩;left;calc eJ M T.aM T.cN Dj ?_;left;calc bD l6 (aU a) ?_;left;calc bF ?_;left;calc eJ M T.aM T.bI zS ?_;left;calc bD l4 (aU a) ?_;left;calc zF true p (Sq.l u) (λD N=>?_);have zl:p.length=(r.ww m).say.length:=by rw[z4];simp
 refine aX (J:=JY true K (ad 4 m)) (n:=p.length) (λi ys H'=>au H H'/\eE (hE (λb=>b=D) H') 1 ys (mO r m ((List.range i).filter λk=>((r.ww m).dj.getD k none).isNone))) (E' (small ())) ⟨au.new _ N,show eE _ 1 [] [] from eE.nil⟩ ?_ ?_ ?_ ?_
 ·rintro i ys H' O ⟨g,_⟩;exact⟨p,p[i],Sq.l (g _ _ u),dw O⟩
 ·rintro ys H' ⟨g,_⟩;exact⟨p,Sq.l (g _ _ u),rfl⟩
 ·intro i ys H' O R hl ph a k pC;nofun;obtain⟨g,B⟩:=ph;obtain⟨t,ht,rfl,y⟩:=pC;obtain⟨xw,ex,rfl⟩:=y p (Sq.l (g _ _ u));have a:i < (r.ww m).say.length:=by lia
  have S:xw=.int ((r.ww m).say.getD i 0):=by
   rw[z4,List.getElem?_map,aQ (d:=0) a]at ex
   cases ex;rfl
  subst S;have U:=au.new (.tup [.int (i:Nat),.int ((r.ww m).say.getD i 0)]) ht;have nK:upd H' t (.tup [.int (i:Nat),.int ((r.ww m).say.getD i 0)]) t=some (.tup [.int (i:Nat),.int ((r.ww m).say.getD i 0)]):=ab;have W:=U _ _ R;have X:=g.trans U;have T3:eE (hE (λb=>b=D) (upd H' t (.tup [.int (i:Nat),.int ((r.ww m).say.getD i 0)]))) 1 ys _:=B.cv (Fr.hE U.fr);generalize hG:upd H' t (.tup [.int (i:Nat),.int ((r.ww m).say.getD i 0)])=G at *;left;ac_rfl;calc tE (bQ.of nK) ⟨Ext.set (Ext.set (Ext.refl _) rfl) rfl,?_⟩;left;obtain⟨v,a,I⟩:=d6.get (i:=i) (d:=oH ((r.ww m).dj.getD i none)) (by rw[List.getElem?_map,aQ (d:=none) ()];rfl);calc bD (X _ _ e6) (ay a) ?_;left
  cases L:(r.ww m).dj.getD i none with
  |none=>
   rw[L]at I;have:=v7 I;subst this;left
   try rw[if_pos rfl]
   calc⟨cH,λa Y=>?_⟩;have s3:=au.new (.tup [.int (i:Nat),.int ((r.ww m).say.getD i 0)]) Y;have nD:a≠D:=λz=>by rw[z,W]at Y;cases Y
   refine bR (s3 _ _ W) hl O (E' (small ())) ⟨λc o e=>?_,?_⟩
   ·rw[av (ao e N)];exact s3 _ _ (X _ _ e)
   ·rw[A7 (Z:=λb=>b=D) rfl,fu,if_pos (by rw[L];rfl)];unfold mO;rw[List.map_append];calc(T3.cv (Fr.hE s3.fr)).snoc ?_;calc(df (n:=0) ?_ (.int _) (.int _)).hd;rw[fJ (Z:=λb=>b=D) nD];calc ab
  |some e=>
   rw[L]at I;obtain⟨ae,rfl,a⟩:=oo I;left
   try rw[if_neg ∅]
   exact⟨_,W,(),X,by rw[fu,if_neg (by rw[L];simp),List.append_nil];calc T3⟩
 ·rintro ys H' R hl ⟨g,B⟩;rw[zl]at B;calc q _ ys _ g N R B
abbrev jh:Stmt:=(bV (top 52)).getD 17 (.Pass ⟨0,0,0,0⟩)
def yp(C CN CR:Addr):Sp:=λvs H Q _=>∃(F:Addr->Prop) (x bb:Addr) (nt:NT) (r:RS) (ad:Nat->Nat->Addr) (a i:Nat),vs=[.ref x,.int a,.int i]/\b8 C CN CR F H x bb nt r ad/\r.Ok nt/\a<nt.ws.length/\i<(r.ww a).say.length/\∀v,HT H 1 v (oH ((r.ww a).snd.getD i none))->Q v H
theorem ue(D:fR K CR "sent_by" "Run.sent_by" jh ["self","way","number"])(T:Tx K mg C CN CR F FD)(m:bZ P w K mg base CR "need_letter" 4 ["self","way","number","at"] (yi C CN CR)):bZ P w K mg base CR "sent_by" 5 ["self","way","number"] (yp C CN CR):=by
 have sc:aC ["self","way","number"] ["self","way","number"] (ax jh):=by walk_at "s"
 symm;obtain⟨F,x,bb,j,r,ad,a,i,rfl,c,k,b,g,q⟩:=h;have l:=hr.units;refine⟨_,(ag (bJ (dq m T.aM hr (aq 0) (af (aq 1) (af (aq 2) (af ai aa)))))
  (ak (aD (aj l (aj l (bE (aq 0) rfl) (aq 1)) (aq 2))))),?_⟩
 obtain⟨l,o,m,n⟩:=c.ins;left;calc eP m (dE ⋯) ?_;calc⟨_,x,bb,j,r,ad,a,i,_,rfl,c,b,g,?_⟩;left;have l:=(n 5 ∅ ∅).1;nofun;obtain⟨v,e,d⟩:=c.cj.lst (t:=5) (i:=a) b rfl;have c:i<(r.ww a).snd.length:=by rw[<-k.ls a b];exact g
 obtain⟨u,g,j⟩:=d.get (i:=i) (d:=oH ((r.ww a).snd.getD i none)) (by rw[List.getElem?_map,aQ (d:=none) c];rfl);ac_rfl;calc eJ m T.aM T.eL TH ?_;left;calc bD l (aU b) ?_;calc bD e (ay g) ?_;calc q _ (yj (j.cv cU))
abbrev gF:Stmt:=(bV (top 52)).getD 18 (.Pass ⟨0,0,0,0⟩)
def BK(C CN CR:Addr):Sp:=λvs H Q _=>∃(F:Addr->Prop) (x bb:Addr) (nt:NT) (r:RS) (ad:Nat->Nat->Addr) (a i:Nat),vs=[.ref x,.int a,.int i]/\b8 C CN CR F H x bb nt r ad/\r.Ok nt/\a<nt.ws.length/\i<(r.ww a).say.length/\∀v,HT H 1 v (oH ((r.ww a).dj.getD i none))->Q v H
theorem qA(D:fR K CR "worked_by" "Run.worked_by" gF ["self","way","number"])(T:Tx K mg C CN CR F FD)(m:bZ P w K mg base CR "need_letter" 4 ["self","way","number","at"] (yi C CN CR)):bZ P w K mg base CR "worked_by" 5 ["self","way","number"] (BK C CN CR):=by
 have sc:aC ["self","way","number"] ["self","way","number"] (ax gF):=by walk_at "s"
 symm;obtain⟨F,x,bb,j,r,ad,a,i,rfl,c,k,b,g,q⟩:=h;have l:=hr.units;refine⟨_,(ag (bJ (dq m T.aM hr (aq 0) (af (aq 1) (af (aq 2) (af ai aa)))))
  (ak (aD (aj l (aj l (bE (aq 0) rfl) (aq 1)) (aq 2))))),?_⟩
 obtain⟨l,o,m,n⟩:=c.ins;left;calc eP m (dE ⋯) ?_;calc⟨_,x,bb,j,r,ad,a,i,_,rfl,c,b,g,?_⟩;left;have l:=(n 6 ∅ ∅).1;nofun;obtain⟨v,e,d⟩:=c.cj.lst (t:=6) (i:=a) b rfl;have c:i<(r.ww a).dj.length:=by rw[<-k.lk a b];exact g
 obtain⟨u,g,j⟩:=d.get (i:=i) (d:=oH ((r.ww a).dj.getD i none)) (by rw[List.getElem?_map,aQ (d:=none) c];rfl);ac_rfl;calc eJ m T.aM T.cN Dj ?_;left;calc bD l (aU b) ?_;calc bD e (ay g) ?_;calc q _ (yj (j.cv cU))
theorem vc{CR x a:Addr}{C:Hp}{f:List (Str×V)}(c:List (Str×V))(s:au C H)(d:H x=some (.ins CR a f)):∃G,upd H x (.ins CR a c)=G/\G x=some (.ins CR a c)/\(∀b o,b≠x->C b=some o->G b=some o)/\(∀b vs,H b=some (.lst vs)->G b=some (.lst vs))/\cg H G:=⟨_,rfl,ab,λb o n e=>by rw[av n];calc s _ _ e,λb vs e=>by rw[av (λz=>by rw[z,d]at e;cases e)];calc e,λb vs e=>by rw[av (λz=>by rw[z,d]at e;cases e)];calc e⟩
theorem fIq{C:Hp}{d:Addr}(a:List (Key×V))(s:au C H):∃G,upd H d (.dK a)=G/\G d=some (.dK a)/\(∀b o,b≠d->C b=some o->G b=some o)/\(∀b o,b≠d->H b=some o->G b=some o):=⟨_,rfl,ab,λb o n e=>by rw[av n];calc s _ _ e,λb o n e=>by rw[av n];calc e⟩
theorem pO:∀(a:List (Int×Int)) {r:RS}{p:Int×Int},r.kg (a++[p])=(r.kg a).put p.1.toNat p.2 none
 | [],r,p=>rfl
 |q::a,r,p=>pO a
theorem Aa{nt:NT}(j:nt.Ok):(RS.new nt).tD nt 0:=by
 refine⟨λm e=>rfl,λm e=>rfl,λm e s d=>?_,λm e h f=>?_,λv i=>rfl,λv i=>rfl,λv i a c d=>?_,λm e=>K' _,λm e u b=>?_,λv i=>K' _,λm e u b=>?_⟩
 ·have g:=j.gd e;have d:s ∈ [((nt.ms.getD m default).ns,(nt.ms.getD m default).row)]:=d;simp at d;subst d;exact⟨rfl,g.bn,g.r12⟩
 ·have f:h∈([]:List (List Int)):=f;simp at f
 ·have d:some (a,c)∈([]:List (Option (Int×Int))):=d;simp at d
 ·have b:u∈([[]]:List (List Int)):=b;simp at b;subst b;exact K' _
 ·have b:u∈([[]]:List (List Int)):=b;simp at b;subst b;calc List.nil_prefix
theorem qV{nt:NT}:∀(b:List (Int×Int)) {r:RS}{B:Nat},r.tD nt B->(r.kg b).tD nt (B+b.length)
 | [],r,B,h=>h
 |p::b,r,B,h=>by
  have e:B+(p::b).length=B+1+b.length:=by simp;lia
  rw[e];calc qV b (h.put (λa c z=>by cases z))
theorem sR:∀(a:List (Int×Int)) {r:RS},(r.kg a).picks=r.picks
 | [],r=>rfl
 |p::a,r=>sR a
theorem sS{nt:NT}(a:nt.Ok){ls:List (Int×Int)}(h:ls.length<=20):(RS.begin nt ls).Ok nt/\(RS.begin nt ls).picks=[]:=by
 have e:(RS.begin nt ls).picks=[]:=sR ls;calc⟨(qV ls (Aa a)).ok ?_,e⟩;show 0+ls.length<=20+24*(RS.begin nt ls).picks.length;rw[e];simp;lia
structure qr(H0 H':Hp)(D:Addr)(as:List Addr)(n:Nat)(ct:Nat->Hp->HO->Prop):Prop where
 len:as.length=n
 nd:as.Nodup
 new:∀a∈as,H0 a=none/\a≠D
 ins:∀(j:Nat) a,as[j]?=some a->∃o,H' a=some o/\ct j H' o
theorem sQ.o{n:Nat}{ct:Nat->Hp->List V->Prop}(h:sQ H0 H' D as n ct):qr H0 H' D as n (λj H u=>∃vs,u=.lst vs/\ct j H vs):=⟨h.len,h.nd,h.new,λj a e=>by
 obtain⟨vs,a,b⟩:=h.ins j a e;calc⟨_,a,_,rfl,b⟩⟩
theorem sQ.some{n:Nat}{ct:Nat->Hp->List V->Prop}(h:sQ H0 H1 D as n ct)(s:au H1 H2):∀a∈as,H2 a≠none:=λa m=>by
 obtain⟨j,e⟩:=List.getElem?_of_mem m;obtain⟨b,e,_⟩:=h.ins j a e;rw[s _ _ e];calc λz=>nomatch z
theorem BL{F:Addr->Prop}{G:Hp}{n:Nat->Nat}{c:Nat->Nat->CO}(g:Nat->Hp)(k:Nat->Nat)(p:Nat->List Addr)(o:Nat->Addr)(ct:Nat->Nat->Hp->HO->Prop)(W:∀t i,ad t i=(p t).getD i 0)(X:∀t,n (t+7)=0)(K:∀t t',t<=6->t'<=6->k t=k t'->t=t')(y:∀t b,g t b≠none->g (t+1) b≠none)(B:∀b,F b->g 0 b≠none/\∃u,G b=some u/\soft u)
  (C:∀t,t<=6->qr (g (k t)) G (o t) (p t) (n t) (ct t)/\(∀a∈p t,g (k t+1) a≠none)/\(1<=t->g (k t) (o t)=none/\g (k t+1) (o t)≠none)) (Y:∀t i u,t<=6->ct t i G u->soft u)
  (Z:(∀b,F b\/FP n ad b->∃u,G b=some u/\soft u)->(∀s D,g s D=none->g (s+1) D≠none->(∀t,t<=6->k t=s->¬D∈p t)->¬(F D\/FP n ad D))->∀t i u,t<=6->i<n t->G (ad t i)=some u->ct t i G u->OR (hE (λb=>F b\/FP n ad b) G) (c t i) u):
  dH F G n ad c/\(∀b,FP n ad b->g 0 b=none/\∃u,G b=some u/\soft u)/\∀t,1<=t->t<=6->¬F (o t)/\¬FP n ad (o t)/\(p t).map V.ref=fT n ad t:=by
 have q:∀t i,i<n t->t<=6:=λt i h=>Classical.byContradiction λz=>by
  have:=X (t-7);rw[show t-7+7=t by lia]at this;lia
 have up:∀(d t:Nat) (b:Addr),g t b≠none->g (t+d) b≠none:=λd=>by
  induction d with
  |zero=>calc λt b h=>h
  |succ d o=>exact λt b h=>y _ _ (o t b h)
 have r:∀s o b,s<=o->g s b≠none->g o b≠none:=λs o b h e=>by
  have:=up (o-s) s b e;rwa [show s+(o-s)=o by lia]at this
 have v:∀t i,i<n t->(p t)[i]?=some (ad t i)/\g (k t) (ad t i)=none/\g (k t+1) (ad t i)≠none/\∃u,G (ad t i)=some u/\ct t i G u:=λt i j=>by
  obtain⟨h,w,_⟩:=C t (q t i j);have e:(p t)[i]?=some (ad t i):=by rw[W];exact aQ (by rw[h.len];calc j)
  have m:=aaa e;exact⟨e,(h.new _ m).1,w _ m,h.ins _ _ e⟩
 have L:∀s D,g s D=none->g (s+1) D≠none->(∀t,t<=6->k t=s->¬D∈p t)->¬(F D\/FP n ad D):=λs D M w hn z=>by
  rcases z with z|⟨t,i,j,rfl⟩
  ·exact r 0 s D (U' _) (B D z).1 M
  ·obtain⟨e,I,x,_⟩:=v t i j;rcases Nat.lt_trichotomy s (k t) with l | l | l
   ·exact r _ _ _ l w I
   ·exact hn t (q t i j) l.symm (aaa e)
   ·exact r _ _ _ l x M
 have N:∀b,FP n ad b->g 0 b=none/\∃u,G b=some u/\soft u:=λb ⟨t,i,j,e⟩=>by
  subst e;obtain⟨_,I,_,u,x,J⟩:=v t i j;exact⟨Classical.byContradiction λz=>r 0 _ _ (U' _) z I,u,x,Y t i u (q t i j) J⟩
 refine⟨⟨λt i t' O j P e=>?_,λt i j z=>?_,λt i j=>?_⟩,N,λt w R=>?_⟩
 ·obtain⟨a1,a2,a3,_⟩:=v t i j;obtain⟨S,T,U,_⟩:=v t' O P;rw[<-e]at S T U;have es:k t=k t':=by
   rcases Nat.lt_trichotomy (k t) (k t') with l|l|l
   ·exact absurd T (r _ _ _ l a3)
   ·exact l
   ·exact absurd a2 (r _ _ _ l U)
  have:=K t t' (q t i j) (q t' O P) es;subst this;have h:=(C t (q t i j)).1;exact⟨rfl,(List.getElem?_inj (by rw[h.len];calc j) h.nd).mp (a1.trans S.symm)⟩
 ·exact r 0 _ _ (U' _) (B _ z).1 (v t i j).2.1
 ·obtain⟨_,_,_,u,x,J⟩:=v t i j;exact⟨u,x,Z (λb z=>z.elim (λh=>(B b h).2) λh=>(N b h).2) L t i u (q t i j) j x J⟩
 ·obtain⟨h,_,g⟩:=C t R;have:=L _ _ (g w).1 (g w).2 (λt' h' e m=>by
   have:=K t' t h' R e;subst this;calc(h.new _ m).2 rfl)
  calc⟨λz=>this (.inl z),λz=>this (.inr z),?_⟩;unfold fT;apply List.ext_getElem (by simp[h.len]);intro j k g;have i:j<n t:=by simpa using g
  simp only[List.getElem_map,List.getElem_range];congr 1;calc(List.getElem_eq_iff _).mpr (v t j i).1
theorem KA{CN:Addr}{d:List V}{b:List Addr}{c e:List V}(h:mG CN H bb ms wv d)(h':mG CN H bb b c e):d=e:=by
 obtain⟨c,d,e,i,b,j,k,g⟩:=h;obtain⟨c,d,e,i,f,j,k,a⟩:=h';rw[b]at f
 cases f;rw[g]at a
 cases a;rfl
theorem v9{C c:Addr}{p:Str×V}{l:List (Str×V)}(h:some (HO.ins C a [])=some (HO.ins c b (p::l))):False:=by cases h
abbrev GP:Stmt:=(bV (top 52)).getD 0 (.Pass ⟨0,0,0,0⟩)
inductive GQ(C CN CR:Addr)(vs:List V)(H:Hp)(Q:VK):Prop
 |mk (F:Addr->Prop) (x dx bb:Addr) (nt:NT) (ls:List (Int×Int)) (ms:List Addr) (wv lv:List V) (h0:vs=[.ref x,.ref bb]) (h1:H x=some (.ins CR dx [])) (h2:vY C CN H bb nt) (h3:mG CN H bb ms wv lv) (h4:fQ H 1 lv (ls.map qy)) (h5:ls.length<=20) (h6:∀l∈ls,0<=l.1/\l.1<nt.ws.length) (lR:FS F H) (h7:∀ad H',(∀b o,b≠x->H b=some o->H' b=some o)->(∀b,FP nt.n ad b->H b=none)->b8 C CN CR F H' x bb nt (RS.begin nt ls) ad->Q .bP H'):GQ C CN CR vs H Q
def BM(C CN CR:Addr):Sp:=λvs H Q _=>GQ C CN CR vs H Q
theorem T6(D:CH K mg "Run" CR "Run.__init__" GP ["self","net"])(T:Tx K mg C CN CR F FD)(d7:bZ P w K mg base C "first_state" 1 ["self"] (Gf C))(ji:bZ P w K mg base CN "letters" 1 ["self"] (qo CN))(bY:bZ P w K mg base CN "machines" 1 ["self"] (gS CN))(cA:bZ P w K mg base CN "ways" 1 ["self"] (kM CN))(c8:bZ P w K mg base CR "put_letter" 1 ["self","way","said","sender"] (sF C CN CR)):xC P w K mg base "Run" CR 2 ["self","net"] (BM C CN CR):=by
 have sc:aC ["self","net","way","said"] ["self","net"] (ax GP):=by walk_at "s"
 symm;obtain⟨FF,x,y,bb,k,ls,ms0,wv0,lv,rfl,S,hn,hf0,IV,pF,qK,lR,q⟩:=h;have hu:=hr.units;refine⟨_,(ag (fF (aq 0) (aq 1) (gs rfl))
  (ag (fF (aq 0) (bL aa) (gs rfl))
  (ag (fF (aq 0) (cO (N':=["machine"]) (ix:=[none]) (bS (eR bY T.cL hr (aq 1))) (λ_ _ _ _=>(aN (i:=0) (show(["machine"]:List Str).Nodup by decide +kernel) rfl Sort)) kG (λ_ _ _ _=>(bL (af (eR d7 T.cK hr (aq 0)) aa)))) rfl)
  (ag (fF (aq 0) (cO (N':=["machine"]) (ix:=[none]) (bS (eR bY T.cL hr (aq 1))) (λ_ _ _ _=>(aN (i:=0) (show(["machine"]:List Str).Nodup by decide +kernel) rfl Sort)) kG (λ_ _ _ _=>(bL (af ai aa)))) rfl)
  (ag (fF (aq 0) (cO (N':=["machine"]) (ix:=[none]) (bS (eR bY T.cL hr (aq 1))) (λ_ _ _ _=>(aN (i:=0) (show(["machine"]:List Str).Nodup by decide +kernel) rfl Sort)) kG (λ_ _ _ _=>(bL aa))) rfl)
  (ag (fF (aq 0) (cO (N':=["way"]) (ix:=[none]) (bS (eR cA T.cL hr (aq 1))) (λ_ _ _ _=>(aN (i:=0) (show(["way"]:List Str).Nodup by decide +kernel) rfl Sort)) kG (λ_ _ _ _=>(bL aa))) rfl)
  (ag (fF (aq 0) (cO (N':=["way"]) (ix:=[none]) (bS (eR cA T.cL hr (aq 1))) (λ_ _ _ _=>(aN (i:=0) (show(["way"]:List Str).Nodup by decide +kernel) rfl Sort)) kG (λ_ _ _ _=>(bL aa))) rfl)
  (ag (fF (aq 0) (cO (N':=["way"]) (ix:=[none]) (bS (eR cA T.cL hr (aq 1))) (λ_ _ _ _=>(aN (i:=0) (show(["way"]:List Str).Nodup by decide +kernel) rfl Sort)) kG (λ_ _ _ _=>(bL aa))) rfl)
  (ak (cQ PassesOwn.never rfl (bS (eR ji T.cL hr (aq 1))) (e9 (i:=2) (j:=3) rfl sc.nd rfl rfl Sort Sort)
  (ak (bJ (dq c8 T.aM hr (aq 0) (af (aq 2) (af (aq 3) (af gV aa)))))))))))))))),?_⟩
 have aW:=hn.ok;nofun;obtain⟨⟨ms,wv,N,hf,lQ,yU,Gz⟩,_⟩:=id hn;obtain⟨Z,a1,b1,c1,I,g2,g3,g4⟩:=id hf;have Oe:N=lv:=KA hf hf0;subst Oe;ac_rfl;have Gh:(ms.map V.ref).length<=5:=by simp[lQ];exact aW.Kb
 have jJ:wv.length=k.ws.length:=by simpa using Gz.1
 have pE:wv.length<=10:=by rw[jJ];exact aW.tR
 have O:bb≠x:=λz=>by rw[z,S]at I;exact v9 I
 have Mb:a1≠x:=um g2 S (λz=>nomatch z);have Mc:b1≠x:=um g3 S (λz=>nomatch z);have Md:c1≠x:=um g4 S (λz=>nomatch z);left;refine qx x CR y _ rfl S T.aM T.cM ∅ ?_;have Zn:upd H x (.ins CR y (bo "own_net" (.ref bb) [])) x=some (.ins CR y (bo "own_net" (.ref bb) [])):=ab;have Zo:∀b o,b≠x->H b=some o->upd H x (.ins CR y (bo "own_net" (.ref bb) [])) b=some o:=λb o n e=>by rw[av n];exact e
 generalize hGa:upd H x (.ins CR y (bo "own_net" (.ref bb) []))=Ga at *;left;refine⟨U' _,λp hp=>?_⟩;have sp0:=au.new (.lst []) hp;have ep0:upd Ga p (.lst []) p=some (.lst []):=ab;generalize hGb:upd Ga p (.lst [])=Gb at *;left;refine qx x CR y _ rfl (sp0 _ _ Zn) T.aM T.cY (cb (n:=999) ∅) ?_;have Zp:upd Gb x (.ins CR y (bo "picks_done" (.ref p) (bo "own_net" (.ref bb) []))) x=some (.ins CR y (bo "picks_done" (.ref p) (bo "own_net" (.ref bb) []))):=ab;have ka:∀b o,b≠x->Ga b=some o->upd Gb x (.ins CR y (bo "picks_done" (.ref p) (bo "own_net" (.ref bb) []))) b=some o:=λb o n e=>by rw[av n];exact sp0 _ _ e
 have npx:p≠x:=Ne.symm (ao Zn hp);have ep:upd Gb x (.ins CR y (bo "picks_done" (.ref p) (bo "own_net" (.ref bb) []))) p=some (.lst []):=by rw[av npx];exact ep0
 generalize QK:upd Gb x (.ins CR y (bo "picks_done" (.ref p) (bo "own_net" (.ref bb) [])))=G0 at *;have Me:∀b o,b≠x->H b=some o->G0 b=some o:=λb o n e=>ka b o n (Zo b o n e);left;refine bF ?_;left;refine eP (Me _ _ O I) (eC ⋯ ⋯ ⋯) ?_;refine fK bb ms wv N rfl ⟨Z,a1,b1,c1,Me _ _ O I,Me _ _ Mb g2,Me _ _ Mc g3,Me _ _ Md g4⟩ (λWE Zq=>?_);have O7:=au.new (.lst (ms.map V.ref)) Zq;have KC:upd G0 WE (.lst (ms.map V.ref)) WE=some (.lst (ms.map V.ref)):=ab;generalize ae2:upd G0 WE (.lst (ms.map V.ref))=T7 at *;left;refine .inl ⟨⟨_,aO.of KC⟩,λW DQ=>?_⟩;refine aX (J:=tw K WE) (n:=(ms.map V.ref).length) (λi ys H'=>∃as:List Addr,ys=as.map V.ref/\au T7 H'/\sQ T7 H' W as i (λj H' vs=>∃v,vs=[v]/\HT H' 2 v (xE (k.ms.getD j default).ns (k.ms.getD j default).row))) (E' (small ())) ⟨[],rfl,au.new _ DQ,sQ.nil⟩ ?_ ?_ ?_ ?_
 ·rintro i ys H' hi ⟨_,_,s3,_⟩;exact⟨_,(ms.map V.ref)[i],aO.of (s3 _ _ KC),dw hi⟩
 ·rintro ys H' ⟨_,_,s3,_⟩;exact⟨_,aO.of (s3 _ _ KC),K' _⟩
 ·intro i ys H' hi l hl gQ xx H4 gR;nofun;obtain⟨as,rfl,s3,hL⟩:=gQ;obtain⟨rfl,hy⟩:=gR;ac_rfl;have ex:=hy _ (aO.of (s3 _ _ KC));walk_at "xf";left
  try rw[if_pos trivial]
  have Zr:i<ms.length:=by simpa using hi
  have exm:xx=.ref ms[i]:=by
   rw[List.getElem?_map,dw Zr]at ex
   cases ex;rfl
  nofun;subst exm;have KD:i<k.ms.length:=by lia
  have nmx:ms[i]≠x:=λz=>by
   obtain⟨d1,s1,d2,X,_⟩:=yU i ms[i] _ (dw Zr) (aQ (d:=default) KD);rw[z,S]at X;exact v9 X
  have T8:QB C H4 ms[i] (k.ms.getD i default):=by
   obtain⟨d1,s1,d2,X,w2,w3⟩:=yU i ms[i] _ (dw Zr) (aQ (d:=default) KD);have tt:cg H H4:=λb xs e=>s3 _ _ (O7 _ _ (Me b _ (λz=>by rw[z,S]at e;cases e) e));exact⟨d1,s1,d2,s3 _ _ (O7 _ _ (Me _ _ nmx X)),w2.aH tt,w3.aH tt⟩
  obtain⟨d1,s1,d2,X,w2,w3⟩:=id T8;ac_rfl;calc mth X (Bp ⋯ ⋯ ⋯) ?_;calc⟨ms[i],_,_,_,_,rfl,T8,λst uq=>?_⟩;left;calc⟨E' (small nofun),λp hp=>?_⟩;have sN:=au.new (.lst [st]) hp;have nD:p≠W:=Ne.symm (ao l hp);refine bR (sN _ _ l) hl hi (E' (small ())) ⟨as++[p],nofun,λb o e=>?_,?_⟩
  ·rw[av (ao e DQ)];exact sN _ _ (s3 _ _ e)
  ·refine hL.snoc s3 (by rw[l];simp) hp (vs:=[st]) ?_ ⟨st,rfl,uq.aH (λb xs e=>by rw[av (λz=>by rw[z,l] at e;cases e)];calc sN _ _ e)⟩ (λb o nb e=>?_) (λj vs ⟨v,e,h⟩=>⟨v,e,h.aH (λb xs e=>by rw[av (λz=>by rw[z,l] at e;cases e)];calc sN _ _ e)⟩)
   ·rw[av nD];exact ab
   ·rw[av nb];exact sN _ _ e
 intro ys H1 l hl mE;obtain⟨A1,rfl,QL,WG⟩:=mE;have T9:=QL _ _ (O7 _ _ Zp);left;refine qx x CR y _ rfl T9 T.aM T.cn (cb (n:=999) (cb (n:=998) ∅)) ?_;obtain⟨G1,Kv,ql,WH,Ua,Zs⟩:=vc (bo "states_had" (.ref W) (bo "picks_done" (.ref p) (bo "own_net" (.ref bb) []))) QL T9;rw[Kv];have Ub:=Ua _ _ l;clear Kv;have kg1:∀b o,b≠x->G0 b=some o->G1 b=some o:=λb o n e=>WH b o n (O7 _ _ e);have QM:∀b o,b≠x->H b=some o->G1 b=some o:=λb o n e=>kg1 b o n (Me b o n e);have Zt:T7 W=none:=DQ;clear l;left;refine bF ?_;left;refine eP (QM _ _ O I) (eC ⋯ ⋯ ⋯) ?_;refine fK bb ms wv N rfl ⟨Z,a1,b1,c1,QM _ _ O I,QM _ _ Mb g2,QM _ _ Mc g3,QM _ _ Md g4⟩ (λZu Zv=>?_);have QN:=au.new (.lst (ms.map V.ref)) Zv;have Uc:upd G1 Zu (.lst (ms.map V.ref)) Zu=some (.lst (ms.map V.ref)):=ab;generalize ae5:upd G1 Zu (.lst (ms.map V.ref))=Zw at *;left;refine .inl ⟨⟨_,aO.of Uc⟩,λD2 wa=>?_⟩;refine kS (vs:=[V.int 0]) Uc wa () (λ_=>Ext.set (Ext.refl _) rfl) (λ_ _ _ r=>And.intro ∅ r) ?_;intro A2 H2 l O8 WI;have Ud:=O8 _ _ (QN _ _ ql);left;refine qx x CR y _ rfl Ud T.aM T.dS (cb (n:=999) (cb (n:=998) (cb (n:=997) ∅))) ?_;obtain⟨G2,wL,Dc,QO,Ue,ae6⟩:=vc (bo "words_had" (.ref D2) (bo "states_had" (.ref W) (bo "picks_done" (.ref p) (bo "own_net" (.ref bb) [])))) O8 Ud;rw[wL];have QP:=Ue _ _ l;clear wL;have kg2:∀b o,b≠x->G1 b=some o->G2 b=some o:=λb o n e=>QO b o n (QN _ _ e);have QQ:∀b o,b≠x->H b=some o->G2 b=some o:=λb o n e=>kg2 b o n (QM b o n e);have Ug:Zw D2=none:=wa;clear l;left;refine bF ?_;left;refine eP (QQ _ _ O I) (eC ⋯ ⋯ ⋯) ?_;refine fK bb ms wv N rfl ⟨Z,a1,b1,c1,QQ _ _ O I,QQ _ _ Mb g2,QQ _ _ Mc g3,QQ _ _ Md g4⟩ (λZx Zy=>?_);have QR:=au.new (.lst (ms.map V.ref)) Zy;have Uh:upd G2 Zx (.lst (ms.map V.ref)) Zx=some (.lst (ms.map V.ref)):=ab;generalize ae7:upd G2 Zx (.lst (ms.map V.ref))=Zz at *;left;refine .inl ⟨⟨_,aO.of Uh⟩,λD3 yq=>?_⟩;refine kS (vs:=[]) Uh yq () (λ_=>Ext.set (Ext.refl _) rfl) (λ_ _ _ r=>And.intro ∅ r) ?_;intro A3 H3 l O9 WJ;have Ui:=O9 _ _ (QR _ _ Dc);left;refine qx x CR y _ rfl Ui T.aM T.cG (cb (n:=999) (cb (n:=998) (cb (n:=997) (cb (n:=996) ∅)))) ?_;obtain⟨G3,DN,DM,QS,Uj,ae8⟩:=vc (bo "words_said" (.ref D3) (bo "words_had" (.ref D2) (bo "states_had" (.ref W) (bo "picks_done" (.ref p) (bo "own_net" (.ref bb) []))))) O9 Ui;rw[DN];have QT:=Uj _ _ l;clear DN;have kg3:∀b o,b≠x->G2 b=some o->G3 b=some o:=λb o n e=>QS b o n (QR _ _ e);have QU:∀b o,b≠x->H b=some o->G3 b=some o:=λb o n e=>kg3 b o n (QQ b o n e);have Uk:Zz D3=none:=yq;clear l;left;refine bF ?_;left;refine eP (QU _ _ O I) (eC ⋯ ⋯ ⋯) ?_;refine fK bb ms wv N rfl ⟨Z,a1,b1,c1,QU _ _ O I,QU _ _ Mb g2,QU _ _ Mc g3,QU _ _ Md g4⟩ (λZC ZD=>?_);have QV:=au.new (.lst wv) ZD;have Ul:upd G3 ZC (.lst wv) ZC=some (.lst wv):=ab;generalize ae9:upd G3 ZC (.lst wv)=ZE at *;left;refine .inl ⟨⟨_,aO.of Ul⟩,λD4 QW=>?_⟩;refine kS (vs:=[]) Ul QW () (λ_=>Ext.set (Ext.refl _) rfl) (λ_ _ _ r=>And.intro ∅ r) ?_;intro A4 H4 l Mf WK;have Um:=Mf _ _ (QV _ _ DM);left;refine qx x CR y _ rfl Um T.aM T.bI (cb (n:=999) (cb (n:=998) (cb (n:=997) (cb (n:=996) (cb (n:=995) ∅))))) ?_;obtain⟨G4,TL,OJ,QX,Uo,afa⟩:=vc (bo "letters_say" (.ref D4) (bo "words_said" (.ref D3) (bo "words_had" (.ref D2) (bo "states_had" (.ref W) (bo "picks_done" (.ref p) (bo "own_net" (.ref bb) [])))))) Mf Um;rw[TL];have QY:=Uo _ _ l;clear TL;have kg4:∀b o,b≠x->G3 b=some o->G4 b=some o:=λb o n e=>QX b o n (QV _ _ e);have QZ:∀b o,b≠x->H b=some o->G4 b=some o:=λb o n e=>kg4 b o n (QU b o n e);have ZF:ZE D4=none:=QW;clear l;left;refine bF ?_;left;refine eP (QZ _ _ O I) (eC ⋯ ⋯ ⋯) ?_;refine fK bb ms wv N rfl ⟨Z,a1,b1,c1,QZ _ _ O I,QZ _ _ Mb g2,QZ _ _ Mc g3,QZ _ _ Md g4⟩ (λZG ZH=>?_);have Q0:=au.new (.lst wv) ZH;have Up:upd G4 ZG (.lst wv) ZG=some (.lst wv):=ab;generalize afb:upd G4 ZG (.lst wv)=ZI at *;left;refine .inl ⟨⟨_,aO.of Up⟩,λD5 Bl=>?_⟩;refine kS (vs:=[]) Up Bl () (λ_=>Ext.set (Ext.refl _) rfl) (λ_ _ _ r=>And.intro ∅ r) ?_;intro A5 H5 l Mg WL;have Uq:=Mg _ _ (Q0 _ _ OJ);left;refine qx x CR y _ rfl Uq T.aM T.eL (cb (n:=999) (cb (n:=998) (cb (n:=997) (cb (n:=996) (cb (n:=995) (cb (n:=994) ∅)))))) ?_;obtain⟨G5,IP,DO,Q1,Ur,afc⟩:=vc (bo "senders" (.ref D5) (bo "letters_say" (.ref D4) (bo "words_said" (.ref D3) (bo "words_had" (.ref D2) (bo "states_had" (.ref W) (bo "picks_done" (.ref p) (bo "own_net" (.ref bb) []))))))) Mg Uq;rw[IP];have Q2:=Ur _ _ l;clear IP;have kg5:∀b o,b≠x->G4 b=some o->G5 b=some o:=λb o n e=>Q1 b o n (Q0 _ _ e);have Q3:∀b o,b≠x->H b=some o->G5 b=some o:=λb o n e=>kg5 b o n (QZ b o n e);have ZJ:ZI D5=none:=Bl;clear l;left;refine bF ?_;left;refine eP (Q3 _ _ O I) (eC ⋯ ⋯ ⋯) ?_;refine fK bb ms wv N rfl ⟨Z,a1,b1,c1,Q3 _ _ O I,Q3 _ _ Mb g2,Q3 _ _ Mc g3,Q3 _ _ Md g4⟩ (λZK ZL=>?_);have Q4:=au.new (.lst wv) ZL;have Us:upd G5 ZK (.lst wv) ZK=some (.lst wv):=ab;generalize afd:upd G5 ZK (.lst wv)=ZM at *;left;refine .inl ⟨⟨_,aO.of Us⟩,λD6 Ut=>?_⟩;refine kS (vs:=[]) Us Ut () (λ_=>Ext.set (Ext.refl _) rfl) (λ_ _ _ r=>And.intro ∅ r) ?_;intro A6 H6 l Pa WM;have Uu:=Pa _ _ (Q4 _ _ DO);left;refine qx x CR y _ rfl Uu T.aM T.cN (cb (n:=999) (cb (n:=998) (cb (n:=997) (cb (n:=996) (cb (n:=995) (cb (n:=994) (cb (n:=993) ∅))))))) ?_;obtain⟨U,T,Ts,Q5,Uv,afe⟩:=vc (bo "workers" (.ref D6) (bo "senders" (.ref D5) (bo "letters_say" (.ref D4) (bo "words_said" (.ref D3) (bo "words_had" (.ref D2) (bo "states_had" (.ref W) (bo "picks_done" (.ref p) (bo "own_net" (.ref bb) [])))))))) Pa Uu;rw[T];have Q6:=Uv _ _ l;clear T;have kg6:∀b o,b≠x->G5 b=some o->U b=some o:=λb o n e=>Q5 b o n (Q4 _ _ e);have L:∀b o,b≠x->H b=some o->U b=some o:=λb o n e=>kg6 b o n (Q3 b o n e);have ZN:ZM D6=none:=Ut;clear l;have g:∀(G T:Hp),(∀b o,b≠x->G b=some o->T b=some o)->(∃fs,G x=some (.ins CR y fs))->(∀b vs,G b=some (.lst vs)->T b=some (.lst vs))/\cg G T:=λG T h ⟨fs,e⟩=>⟨λb vs M=>h b _ (λz=>by rw[z,e]at M;cases M) M,λb vs M=>h b _ (λz=>by rw[z,e]at M;cases M) M⟩
 have KG:=kg6;have Mh:∀b o,b≠x->G4 b=some o->U b=some o:=λb o n e=>KG b o n (kg5 b o n e);have Mi:∀b o,b≠x->G3 b=some o->U b=some o:=λb o n e=>Mh b o n (kg4 b o n e);have Pb:∀b o,b≠x->G2 b=some o->U b=some o:=λb o n e=>Mi b o n (kg3 b o n e);have Uw:∀b o,b≠x->G1 b=some o->U b=some o:=λb o n e=>Pb b o n (kg2 b o n e);have kc0:∀b o,b≠x->G0 b=some o->U b=some o:=λb o n e=>Uw b o n (kg1 b o n e);have Pc:sQ T7 G1 W A1 (ms.map V.ref).length (λj H' vs=>∃v,vs=[v]/\HT H' 2 v (xE (k.ms.getD j default).ns (k.ms.getD j default).row)):=WG.keep Ua (λj vs ⟨v,e,h⟩=>⟨v,e,h.aH Zs⟩);have Pd:=Pc.keep (g _ _ Uw ⟨_,ql⟩).1 (λj vs ⟨v,e,h⟩=>⟨v,e,h.aH (g _ _ Uw ⟨_,ql⟩).2⟩);have Mj:=(g _ _ Uw ⟨_,ql⟩).1 _ _ Ub;have Pe:sQ Zw G2 D2 A2 (ms.map V.ref).length (λ_ _ vs=>vs=[V.int 0]):=WI.keep Ue (λj vs e=>e);have Pf:=Pe.keep (g _ _ Pb ⟨_,Dc⟩).1 (λj vs e=>e);have Ml:=(g _ _ Pb ⟨_,Dc⟩).1 _ _ QP;have Pg:sQ Zz G3 D3 A3 (ms.map V.ref).length (λ_ _ vs=>vs=[]):=WJ.keep Uj (λj vs e=>e);have Ph:=Pg.keep (g _ _ Mi ⟨_,DM⟩).1 (λj vs e=>e);have Mm:=(g _ _ Mi ⟨_,DM⟩).1 _ _ QT;have Pj:sQ ZE G4 D4 A4 wv.length (λ_ _ vs=>vs=[]):=WK.keep Uo (λj vs e=>e);have Pk:=Pj.keep (g _ _ Mh ⟨_,OJ⟩).1 (λj vs e=>e);have Mn:=(g _ _ Mh ⟨_,OJ⟩).1 _ _ QY;have Pl:sQ ZI G5 D5 A5 wv.length (λ_ _ vs=>vs=[]):=WL.keep Ur (λj vs e=>e);have wb:=Pl.keep (g _ _ KG ⟨_,DO⟩).1 (λj vs e=>e);have vd:=(g _ _ KG ⟨_,DO⟩).1 _ _ Q2;have KH:sQ ZM U D6 A6 wv.length (λ_ _ vs=>vs=[]):=WM.keep Uv (λj vs e=>e);have Ux:=(g _ _ kc0 ⟨_,Zp⟩).1 _ _ ep;have l:(ms.map V.ref).length=k.ms.length:=by simp[lQ]
 rw[l]at Pd;rw[l]at Pf;rw[l]at Ph;rw[jJ]at Pk;rw[jJ]at wb;rw[jJ]at KH;obtain⟨ad,O5⟩:∃ad:Nat->Nat->Addr,∀t i,ad t i=([[p],A1,A2,A3,A4,A5,A6].getD t []).getD i 0:=⟨_,λ_ _=>rfl⟩
 have pz:∀{A B:Hp},(∀b o,b≠x->A b=some o->B b=some o)->∀{o},B x=some o->∀b,A b≠none->B b≠none:=λ{A B} h {o} e b hb=>by
  by_cases z:b=x
  ·rw[z,e];exact λz=>nomatch z
  ·cases e1:A b with
   |none=>calc absurd e1 hb
   |some u=>rw[h b u z e1];exact λz=>nomatch z
 have Y:∀{A:Hp} {b:Addr} {o:HO},A b=some o->A b≠none:=λe z=>by rw[e]at z;cases z
 have ZO:∀b,FF b->b≠x:=λb h z=>by
  obtain⟨o,e,so⟩:=lR b h;rw[z,S]at e;cases e;exact so
 obtain⟨cj,Ma,ZP⟩:=BL (F:=FF) (G:=U) (n:=k.n) (c:=(RS.new k).ct) (λt=>[Ga,T7,Zw,Zz,ZE,ZI,ZM].getD t U) (λt=>t) _ (λt=>[x,W,D2,D3,D4,D5,D6].getD t x) (λt=>[λ_ _ u=>u=.lst [],λj H u=>∃vs,u=.lst vs/\∃v,vs=[v]/\HT H 2 v (xE (k.ms.getD j default).ns (k.ms.getD j default).row),λ_ _ u=>∃vs,u=.lst vs/\vs=[V.int 0]].getD t λ_ _ u=>∃vs,u=.lst vs/\vs=[]) O5 (λ_=>rfl) (λ_ _ _ _ h=>h)
  (λt=>match t with
   |0=>pz (λb o n e=>O7 _ _ (ka b o n e)) (O7 _ _ Zp)
   |1=>pz (λb o n e=>QN _ _ (WH b o n e)) (QN _ _ ql)
   |2=>pz (λb o n e=>QR _ _ (QO b o n e)) (QR _ _ Dc)
   |3=>pz (λb o n e=>QV _ _ (QS b o n e)) (QV _ _ DM)
   |4=>pz (λb o n e=>Q0 _ _ (QX b o n e)) (Q0 _ _ OJ)
   |5=>pz (λb o n e=>Q4 _ _ (Q1 b o n e)) (Q4 _ _ DO)
   |6=>pz Q5 Ts
   | (t + 7)=>λb h=>h)
  (λb h=>by
   obtain⟨o,e,so⟩:=lR b h;calc⟨Y (Zo b o (ZO b h) e),o,L b o (ZO b h) e,so⟩)
  (λt ht=>match t,ht with
   | 0,_=>⟨⟨rfl,nofun,λa m=>by rw[List.mem_singleton.mp m];exact⟨hp,npx⟩,λj a e=>by cases j with
    |zero=>cases e;calc⟨_,Ux,rfl⟩
    | succ j=>cases e⟩,λa m=>by rw[List.mem_singleton.mp m];calc Y (O7 _ _ ep),λh=>absurd h ∅⟩
   |1,_=>⟨Pd.o,Pc.some QN,λ_=>⟨Zt,Y (QN _ _ Ub)⟩⟩
   |2,_=>⟨Pf.o,Pe.some QR,λ_=>⟨Ug,Y (QR _ _ QP)⟩⟩
   |3,_=>⟨Ph.o,Pg.some QV,λ_=>⟨Uk,Y (QV _ _ QT)⟩⟩
   |4,_=>⟨Pk.o,Pj.some Q0,λ_=>⟨ZF,Y (Q0 _ _ QY)⟩⟩
   |5,_=>⟨wb.o,Pl.some Q4,λ_=>⟨ZJ,Y (Q4 _ _ Q2)⟩⟩
   |6,_=>⟨KH.o,KH.some (au.refl _),λ_=>⟨ZN,Y Q6⟩⟩
   | (t + 7),h=>absurd h ())
  (λt i u ht h=>by
   match t,ht,h with
   |0,_,h=>cases h;trivial
   |1,_,⟨_,e,_⟩|2,_,⟨_,e,_⟩|3,_,⟨_,e,_⟩|4,_,⟨_,e,_⟩|5,_,⟨_,e,_⟩|6,_,⟨_,e,_⟩=>cases e;trivial
   | (t + 7),h,_=>calc absurd h ())
  (λhz _ t i u ht hi e h=>by
   match t,ht,h with
   |0,_,h=>cases h;calc(eE.nil:eE _ 4 [] [])
   |1,_,⟨_,e,v,M,hv⟩=>cases e;cases M;calc(eE.one ((GL hz hv).mono ∅):eE _ 4 [v] [_])
   |2,_,⟨_,e,M⟩=>cases e;cases M;calc(eE.one (.int 0):eE _ 4 [.int 0] [.int 0])
   |3,_,⟨_,e,M⟩|4,_,⟨_,e,M⟩|5,_,⟨_,e,M⟩|6,_,⟨_,e,M⟩=>cases e;cases M;calc(eE.nil:eE _ 4 [] [])
   | (t + 7),h,_=>calc absurd h ())
 have R:∀b,FP k.n ad b->H b=none:=λb hb=>by
  cases j:H b with
  |none=>rfl
  |some o=>
   have e:=(Ma b hb).1;have:b≠x:=λz=>by rw[z]at e;exact Y Zn e
   exact absurd e (Y (Zo b o this j))
 have hR:b8 C CN CR FF U x bb k (RS.new k) ad:=by
  refine⟨⟨y,λt=>[x,W,D2,D3,D4,D5,D6].getD t x,?_,λt j l=>?_⟩,cj,?_⟩
  ·rw[Ts,DS,O5];rfl
  ·obtain⟨X,w2,w3⟩:=ZP t j l;calc⟨?_,X,w2⟩;rw[<-w3]
   match t,j,l with
   |1,_,_=>calc Mj
   |2,_,_=>calc Ml
   |3,_,_=>calc Mm
   |4,_,_=>calc Mn
   |5,_,_=>calc vd
   |6,_,_=>calc Q6
   |(t+7),_,h=>exact absurd h ()
  ·calc⟨⟨ms,wv,N,⟨Z,a1,b1,c1,L _ _ O I,L _ _ Mb g2,L _ _ Mc g3,L _ _ Md g4⟩,lQ,λi m d e1 j=>?_,Gz.aH (g _ _ L ⟨_,S⟩).2⟩,aW⟩;obtain⟨d1,s1,d2,X,w2,w3⟩:=yU i m d e1 j;have l:m≠x:=λz=>by rw[z,S] at X;exact v9 X
   exact⟨d1,s1,d2,L _ _ l X,w2.aH (g _ _ L ⟨_,S⟩).2,w3.aH (g _ _ L ⟨_,S⟩).2⟩
 have ZQ:=IV.aH (g _ _ L ⟨_,S⟩).2;clear Pc Pd Pe Pf Pg Ph Pj Pk Pl wb KH Mj Ml Mm Mn vd Ub WG QP WI QT WJ QY WK Q2 WL Q6 WM Ux kc0 Uw Pb Mi Mh KG;left;calc⟨bb,Z,_,rfl,L _ _ O I,eC ⋯ ⋯ ⋯,bb,ms,wv,N,rfl,⟨Z,a1,b1,c1,L _ _ O I,L _ _ Mb g2,L _ _ Mc g3,L _ _ Md g4⟩,λll qS=>?_⟩;have s7:=au.new (.lst N) qS;have Pn:upd U ll (.lst N) ll=some (.lst N):=ab;generalize Wx:upd U ll (.lst N)=G7 at *;have WN:¬FP k.n ad ll:=λz=>by
  obtain⟨_,u,e,_⟩:=Ma ll z;rw[qS]at e;cases e
 have g:=hR.same s7;have Uy:=ZQ.aH s7.aP;have Uz:N.length=ls.length:=by simpa using Uy.1
 refine .inl ⟨⟨_,aO.of Pn⟩,eS (K:=K) (xs:=N) (λi σ H'=>(∃z2 z3,σ=[some (V.ref x),some (V.ref bb),z2,z3])/\Fr (FP k.n ad) G7 H'/\b8 C CN CR FF H' x bb k ((RS.new k).kg (ls.take i)) ad) ?_ ?_ ?_ ?_⟩
 ·exact⟨⟨_,_,rfl⟩,Fr.refl,g⟩
 ·rintro i σ H' hi ⟨_,fi,_⟩;exact aO.of (fi.at Pn WN)
 ·intro i z σ H' hz se;nofun;obtain⟨⟨z2,z3,rfl⟩,fi,wN⟩:=se;have g:i < ls.length:=by rw[<-Uz];exact(List.getElem?_eq_some_iff.mp hz).1
  have j:ls[i]?=some ls[i]:=dw g;have O3:=(Uy.2 i z (qy ls[i]) hz (by rw[List.getElem?_map,j];rfl)).aH fi.aP;have GR:=qK _ (W' g);have Kz:(RS.new k).kg (ls.take (i+1))=((RS.new k).kg (ls.take i)).put ls[i].1.toNat ls[i].2 none:=by
   rw[List.take_succ,j];exact pO _
  generalize ls[i]=p at *;obtain⟨pj,px⟩:=p;obtain⟨tz,u1,u2,kz,rfl,DG,y1,y2⟩:=dF O3;obtain rfl:=y1.cP;obtain rfl:=y2.cP;ac_rfl;calc tE (bQ.of DG) ?_;left;obtain⟨j,l,g,t⟩:=wN.ins;calc eP g (dE ⋯) ?_;have j:((pj.toNat:Nat):Int)=pj:=aaH GR.1;refine⟨FF,x,bb,k,_,ad,pj.toNat,px,.bP,none,by rw[j],wN,λb h=>by
   obtain⟨o,e,so⟩:=lR b h;calc⟨o,fi.at (s7 _ _ (L b o (ZO b h) e)) (λz=>by rw[R b z] at e;cases e),so⟩,by have:=GR.2;show pj.toNat < _;simp at this;lia,.bP,(qV (ls.take i) (Aa aW)).mono (by simp;lia),λg j k=>?_⟩
  left;calc gC ⟨_,_,rfl,rfl⟩ (fi.trans j) ?_;rw[Kz];exact k
 ·rintro σ H' ⟨_,fi,wN⟩;rw[Uz,List.take_length]at wN;calc q ad _ (λb o n e=>?_) R wN;calc fi.at (s7 _ _ (L b o n e)) λz=>?_;rw[R b z]at e;cases e
theorem qt{v:V}(h:HT H 1 v (pairD e)):∃a,v=.ref a/\H a=some (.tup [.int e.1,.int e.2]):=by
 obtain⟨b,g,i,j,rfl,c,d,f⟩:=dF h;obtain rfl:=d.cP;obtain rfl:=f.cP;calc⟨b,rfl,c⟩
structure jI(nt:NT)(r:RS)(cut:List Int):Prop where
 len:cut.length=nt.ms.length
 pos:∀m,m<nt.ms.length->0<=cut.getD m 0
 top:∀m,m<nt.ms.length->cut.getD m 0<((r.mm m).dN.length:Nat)
def qB:Option (Int×Int)->List Int->Bool
 |none,_=>false
 |some e,cut=>decide (e.2<=cut.getD e.1.toNat 0)
def ou(s w:Option (Int×Int))(cut:List Int):Bool:=(s.isNone||qB s cut) && !qB w cut
def qC(r:RS)(cut:List Int)(w n:Nat):List Nat:=(List.range n).filter λk=>ou ((r.ww w).snd.getD k none) ((r.ww w).dj.getD k none) cut
theorem oy{w n:Nat}:qC r cut w (n+1)=qC r cut w n++if ou ((r.ww w).snd.getD n none) ((r.ww w).dj.getD n none) cut=true then[n] else[]:=by
 unfold qC;rw[List.range_succ,List.filter_append];congr 1;rw[List.filter_cons,List.filter_nil]
theorem qW{w n:Nat}:(qC r cut w n).length<=n:=Y' (List.length_filter_le _ _) (Nat.le_of_eq List.length_range)
theorem Po{w n k:Nat}(h:k∈qC r cut w n):k<n:=List.mem_range.mp (List.mem_filter.mp h).1
def iR(H:Hp)(r:RS)(bs:List Addr)(f:Nat->List Nat):Prop:=∀(i:Nat) b,bs[i]?=some b->∃ys,H b=some (.lst ys)/\fQ H 1 ys (mO r i (f i))
abbrev sT:Stmt:=top 15
def GS(C CN CR:Addr):Sp:=λvs H Q _=>∃(F:Addr->Prop) (x bb:Addr) (nt:NT) (r:RS) (ad:Nat->Nat->Addr) (t:Addr) (cut:List Int),vs=[.ref x,.ref t]/\b8 C CN CR F H x bb nt r ad/\H t=some (.tup (cut.map V.int))/\jI nt r cut/\∀H',au H H'->Q (.bl true) H'
theorem GU(D:cS K mg "is_cut" "is_cut" sT ["run","thing"])(T:Tx K mg C CN CR F FD)(aJ:Def P w K mg base "is_within" 2 ["thing","low","beyond"] cp)(bY:bZ P w K mg base CN "machines" 1 ["self"] (gS CN))(kU:bZ P w K mg base CR "count" 4 ["self","m"] (GD C CN CR))(gU:bZ P w K mg base CR "net" 1 ["self"] (v8 C CN CR)):Def P w K mg base "is_cut" 5 ["run","thing"] (GS C CN CR):=by
 have sc:aC ["run","thing"] ["run","thing"] (ax sT):=by walk_at "s"
 symm;obtain⟨F,x,bb,g,r,ad,t,cut,rfl,b,k,p,q⟩:=h;have hu:=hr.units;refine⟨_,(ag (aS (PW.pt (pw_or (cw (bC (aV cC rfl T.aY uj (af (aq 1) (af (cF (v:=.ty "tuple") rfl T.bW oK rfl) aa))))) (pw_or1 (az (eQ hu) (aV aL rfl T.bT L' (af (aq 1) aa)) (aV aL rfl T.bT L' (af (eR bY T.cL hr (eR gU T.aM hr (aq 0))) aa)) (aE _))))) (ak (aD fE)) aG)
  (ak (aD (aV (gT rfl) rfl T.rY Qm (af (cO (N':=["m","c","run"]) (ix:=[none,none,some 0]) (eX rfl T.cu (af (aq 1) aa)) (λ_ _ _ _=>(iP (K:=K) rfl (i:=0) (j:=1) rfl (show(["m","c","run"]:List Str).Nodup by decide +kernel) rfl rfl Sort Sort)) kG (λ_ _ _ _=>(aK aJ hr (af (aq 1) (af ai (af (bc cT (dq kU T.aM hr (aq 2) (af (aq 0) aa)) ai) aa)))))) aa))))),?_⟩
 nofun;obtain⟨T,o,R,ho⟩:=b.ins;obtain⟨⟨ms,wv,lv,I,lQ,yU,Gz⟩,aW⟩:=b.Ku;ac_rfl;have h5:=aW.Kb;have S:=p.len;right;calc cD _ true (.tup k) rfl ?_;rw[if_neg ∅];calc bA _ (.inr ⟨_,bQ.of k,rfl⟩) ?_;calc⟨x,T,_,rfl,R,dE ⋯,F,x,bb,g,r,ad,rfl,b,?_⟩;have Jm:=I;obtain⟨T,_,_,_,U,_⟩:=Jm;calc⟨bb,T,_,rfl,U,by rfl,bb,ms,wv,lv,rfl,I,λl u=>?_⟩;have L:=au.new (.lst (ms.map V.ref)) u;have W:upd H l (.lst (ms.map V.ref)) l=some (.lst (ms.map V.ref)):=ab;generalize hG:upd H l (.lst (ms.map V.ref))=G at *;calc bA _ (.inl ⟨_,aO.of W,rfl⟩) ?_;rw[if_neg (by simp[S,lQ])];have Pp:=b.same L;have B:=L _ _ k;clear b R ho k I U W u hG;calc bF ?_;right;calc zF false _ (Sq.t B) (λD X=>?_);refine aX (J:=JY false K t) (n:=g.ms.length) (λi ys H'=>au G H'/\ys=(List.replicate i true).map V.bl) (E' (aA ())) ⟨au.new _ X,rfl⟩ ?_ ?_ ?_ ?_
 ·rintro i ys H' m ⟨a,_⟩;exact⟨_,_,Sq.t (a _ _ B),by rw[List.getElem?_map,aQ (d:=0) ()];rfl⟩
 ·rintro ys H' ⟨a,_⟩;exact⟨_,Sq.t (a _ _ B),by simp[S]⟩
 ·intro i ys H' m M u gQ xx H4 gR;nofun;obtain⟨a,rfl⟩:=gQ;obtain⟨N,Pq,rfl,y⟩:=gR;obtain⟨z,Y,rfl⟩:=y _ (Sq.t (a _ _ B));rw[List.getElem?_map,aQ (d:=0) ()] at Y;obtain rfl:=Option.some.inj Y;ac_rfl;have O:=au.new (.tup [.int (i:Nat),.int (cut.getD i 0)]) Pq;have b:upd H' N (.tup [.int (i:Nat),.int (cut.getD i 0)]) N=some (.tup [.int (i:Nat),.int (cut.getD i 0)]):=ab;calc tE (bQ.of b) ⟨Ext.set (Ext.set (Ext.refl _) rfl) rfl,?_⟩;have Dl:=O _ _ M;have Z:=(Pp.same a).same O;have L0:=a.trans O;generalize hGt:upd H' N (.tup [.int (i:Nat),.int (cut.getD i 0)])=G3 at *;right;obtain⟨b,l,k,t⟩:=Z.ins;calc⟨x,b,_,rfl,k,dE ⋯,F,x,bb,g,r,ad,i,rfl,Z,m,?_⟩;have l:=p.pos i m;have b:=p.top i m;calc⟨.int (cut.getD i 0),_,0,_,rfl,.int _,?_⟩;rw[show inR 0 _ (.int (cut.getD i 0))=true by simp only[inR,Bool.and_eq_true,decide_eq_true_eq];calc⟨l,()⟩]
  try rw[if_pos trivial]
  calc bR Dl u m (E' (aA ())) ⟨λc o e=>by rw[av (ao e X)];calc L0 _ _ e,?_⟩;rw[List.replicate_succ',List.map_append];rfl
 rintro ys H1 M Dm ⟨a,rfl⟩;calc bA _ (aO.of M) ?_;rw[show(List.replicate g.ms.length true).all id=true by simp[List.all_replicate]];calc q _ (L.trans a)
abbrev mR:Stmt:=top 16
def GV(C CN CR:Addr):Sp:=λvs H Q _=>∃(F:Addr->Prop) (x bb:Addr) (nt:NT) (r:RS) (ad:Nat->Nat->Addr) (t:Addr) (cut:List Int),vs=[.ref x,.ref t]/\b8 C CN CR F H x bb nt r ad/\H t=some (.tup (cut.map V.int))/\jI nt r cut/\∀H',au H H'->Q .bP H'
theorem Ab(D:cS K mg "need_cut" "need_cut" mR ["run","cut"])(T:Tx K mg C CN CR F FD)(e:Def P w K mg base "is_cut" 5 ["run","thing"] (GS C CN CR)):Def P w K mg base "need_cut" 6 ["run","cut"] (GV C CN CR):=by
 have sc:aC ["run","cut"] ["run","cut"] (ax mR):=by walk_at "s"
 symm;obtain⟨F,x,bb,a,r,ad,t,cut,rfl,b,c,d,q⟩:=h;have g:=hr.units;calc⟨_,(ak (aS (cw (bC (aK e hr (af (aq 0) (af (aq 1) aa))))) (ak c9) aG)),?_⟩;right;calc⟨F,x,bb,a,r,ad,t,cut,rfl,b,c,d,λH1 g=>?_⟩;right;calc q H1 g
abbrev kW:Stmt:=top 17
def GW:Sp:=λvs H Q _=>∃(v:V) (e:Option (Int×Int)) (t:Addr) (cut:List Int),vs=[v,.ref t]/\HT H 1 v (oH e)/\H t=some (.tup (cut.map V.int))/\(∀p,e=some p->0<=p.1/\p.1<(cut.length:Nat))/\Q (.bl (qB e cut)) H
theorem yt(D:cS K mg "is_inside" "is_inside" kW ["event","cut"])(T:Tx K mg C CN CR F FD):Def P w K mg base "is_inside" 1 ["event","cut"] GW:=by
 have sc:aC ["event","cut","m","c"] ["event","cut"] (ax kW):=by walk_at "s"
 symm;obtain⟨v,e,t,cut,rfl,b,c,g,q⟩:=h;have k:=hr.units;refine⟨_,(ag (aS (az rD (aq 0) gV (aE _)) (ak (aD fE)) aG)
  (ag (eY (aq 0) (e9 (i:=2) (j:=3) rfl sc.nd rfl rfl Sort Sort))
  (ak (aD (jN rB (aq 3) (aj k (aq 1) (aq 2)) (aE _)))))),?_⟩
 cases e with
 |none=>
  have:v=.bP:=by cases(show HT H 1 v .bP from b);rfl
  subst this;right
  try rw[if_pos ∅]
  right;calc q
 |some e=>
  nofun;obtain⟨a,rfl,k⟩:=qt b;obtain⟨l,m⟩:=g e rfl;ac_rfl;right
  try rw[if_neg ∅]
  calc tE (bQ.of k) ?_;right;refine cZ c (show iJ _ e.1=some (.int (cut.getD e.1.toNat 0)) from by
   have:=ay (xs:=cut.map V.int) (j:=e.1.toNat) (v:=.int (cut.getD e.1.toNat 0)) (by rw[List.getElem?_map,aQ (d:=0) ()];rfl);rw[show((e.1.toNat:Nat):Int)=e.1 by lia] at this;calc this) ?_
  right;calc q
abbrev pP:Stmt:=top 18
def GX(C CN CR:Addr):Sp:=λvs H Q _=>∃(F:Addr->Prop) (x bb:Addr) (nt:NT) (r:RS) (ad:Nat->Nat->Addr) (t:Addr) (cut:List Int) (a k:Nat),vs=[.ref x,.ref t,.int a,.int k]/\b8 C CN CR F H x bb nt r ad/\r.Ok nt/\r.Iv nt/\H t=some (.tup (cut.map V.int))/\cut.length=nt.ms.length/\a<nt.ws.length/\k<(r.ww a).say.length/\Q (.bl (ou ((r.ww a).snd.getD k none) ((r.ww a).dj.getD k none) cut)) H
theorem Dn(D:cS K mg "lies_at" "lies_at" pP ["run","cut","way","number"])(T:Tx K mg C CN CR F FD)(l:Def P w K mg base "is_inside" 1 ["event","cut"] GW)(m:bZ P w K mg base CR "sent_by" 5 ["self","way","number"] (yp C CN CR))(o:bZ P w K mg base CR "worked_by" 5 ["self","way","number"] (BK C CN CR)):Def P w K mg base "lies_at" 6 ["run","cut","way","number"] (GX C CN CR):=by
 have sc:aC ["run","cut","way","number","sender"] ["run","cut","way","number"] (ax pP):=by walk_at "s"
 symm;obtain⟨F,x,bb,B,r,ad,t,cut,b,k,rfl,u,j,L,G,I,g,n,q⟩:=h;have M:=hr.units;refine⟨_,(ag (aZ (i:=4) sc.nd rfl Sort (dq m T.aM hr (aq 0) (af (aq 2) (af (aq 3) aa))))
  (ag (aS (PW.pt (pw_and (az oT (aq 4) gV (aE _)) (pw_and1 (cw (bC (aK l hr (af (aq 4) (af (aq 1) aa)))))))) (ak (aD fE)) aG)
  (ak (aD (Ec (aK l hr (af (dq o T.aM hr (aq 0) (af (aq 2) (af (aq 3) aa))) (af (aq 1) aa)))))))),?_⟩
 obtain⟨M,o,N,l⟩:=u.ins;have o:k<(r.ww b).snd.length:=by rw[<-j.ls b g];exact n
 have O:k<(r.ww b).dj.length:=by rw[<-j.lk b g];exact n
 have J:∀p,(r.ww b).snd.getD k none=some p->0<=p.1/\p.1<(cut.length:Nat):=λp e=>by
  obtain⟨l,m,_⟩:=j.sd b g p.1 p.2 (by rw[show(some (p.1,p.2):Option (Int×Int))=(r.ww b).snd.getD k none from e.symm];calc getD_mem o);rw[I];exact⟨l,m⟩
 have o:∀p,(r.ww b).dj.getD k none=some p->0<=p.1/\p.1<(cut.length:Nat):=λp e=>by
  obtain⟨l,m,_⟩:=L.ev b k p.1 p.2 g (by rw[aQ (d:=none) O,e]);rw[I];exact⟨l,m⟩
 calc L2.bO λI l=>?_;right;calc⟨x,M,_,rfl,N,dE ⋯,F,x,bb,B,r,ad,b,k,rfl,u,j,g,n,λv y=>?_⟩;calc L2.bX l ?_;clear l;calc L2.bO λI m=>?_;have c:ou ((r.ww b).snd.getD k none) ((r.ww b).dj.getD k none) cut=(!qB ((r.ww b).dj.getD k none) cut)->I [some (.ref x),some (.ref t),some (.int b),some (.int k),some v] H:=λe=>by
  calc L2.bX m ?_;right;calc⟨x,M,_,rfl,N,dE ⋯,F,x,bb,B,r,ad,b,k,rfl,u,j,g,n,λl I=>?_⟩;calc Ox l _ t cut rfl I G o ?_;rw[e]at q;exact⟨_,rfl,q⟩
 clear m
 cases z:(r.ww b).snd.getD k none with
 |none=>
  rw[z]at y;have:v=.bP:=by cases(show HT H 1 v .bP from y);rfl
  subst this;right
  try rw[if_neg ∅]
  calc c ?_;rw[z];rfl
 |some p=>
  nofun;obtain⟨a,rfl,g⟩:=qt (show HT H 1 v (pairD p) from by have:=y;rw[z]at this;calc this);ac_rfl;right
  try rw[if_pos ∅]
  calc⟨_,_,t,cut,rfl,y,G,J,?_⟩;refine xM ?_
  cases g:qB ((r.ww b).snd.getD k none) cut with
  |true=>
   try rw[if_neg ∅]
   calc c ?_;unfold ou;rw[g];simp
  |false=>
   try rw[if_pos ∅]
   right;unfold ou at q;rw[g,z]at q;calc q
abbrev mS:Stmt:=top 19
inductive GY(C CN CR:Addr)(vs:List V)(H:Hp)(Q:VK):Prop
 |mk (F:Addr->Prop) (x bb:Addr) (nt:NT) (r:RS) (ad:Nat->Nat->Addr) (t:Addr) (cut:List Int) (h0:vs=[.ref x,.ref t]) (h1:b8 C CN CR F H x bb nt r ad) (h2:r.Ok nt) (h3:r.Iv nt) (h4:r.picks.length<=400) (h5:H t=some (.tup (cut.map V.int))) (h6:jI nt r cut) (q:∀l bs H',au H H'->H l=none->(∀b∈bs,H b=none/\b≠l)->H' l=some (.lst (bs.map V.ref))->bs.length=nt.ws.length->iR H' r bs (λw=>qC r cut w (r.ww w).say.length)->Q (.ref l) H'):GY C CN CR vs H Q
def BN(C CN CR:Addr):Sp:=λvs H Q _=>GY C CN CR vs H Q
theorem Ac(D:cS K mg "lying_at" "lying_at" mS ["run","cut"])(T:Tx K mg C CN CR F FD)(pQ:Def P w K mg base "lies_at" 6 ["run","cut","way","number"] (GX C CN CR))(mT:Def P w K mg base "need_cut" 6 ["run","cut"] (GV C CN CR))(cA:bZ P w K mg base CN "ways" 1 ["self"] (kM CN))(gU:bZ P w K mg base CR "net" 1 ["self"] (v8 C CN CR))(ik:bZ P w K mg base CR "put_many" 4 ["self","way"] (LZ C CN CR))(mU:bZ P w K mg base CR "said" 5 ["self","way","number"] (BG C CN CR)):Def P w K mg base "lying_at" 7 ["run","cut"] (BN C CN CR):=by
 have sc:aC ["run","cut","lying","way","numbers"] ["run","cut"] (ax mS):=by walk_at "s"
 symm;obtain⟨F,x,bb,v,r,ad,t,cut,rfl,B,cE,hI,kb,ht,hC,q⟩:=h;have hu:=hr.units;refine⟨_,(ag (bJ (aK mT hr (af (aq 0) (af (aq 1) aa))))
  (ag (aZ (i:=2) sc.nd rfl Sort (bL aa))
  (ag (cQ PassesOwn.never rfl (cB rfl T.dD (af (aV aL rfl T.bT L' (af (eR cA T.cL hr (eR gU T.aM hr (aq 0))) aa)) aa)) (aN (i:=3) sc.nd rfl Sort)
  (ag (eV (i:=4) sc.nd rfl Sort (N':=["number","run","cut","way"]) (ix:=[none,some 0,some 1,some 3]) (cB rfl T.dD (af (dq ik T.aM hr (aq 0) (af (aq 3) aa)) aa)) (λ_ _ _ _=>(aN (i:=0) (show(["number","run","cut","way"]:List Str).Nodup by decide +kernel) rfl Sort)) (λ_ _ _ _=>(iN (bC (aK pQ hr (af (aq 1) (af (aq 2) (af (aq 3) (af (aq 0) aa)))))))) (λ_ _ _ _=>(aq 0)))
  (ak (bJ (de lS oF oG bU (aq 2) (af (cO (N':=["number","way","run"]) (ix:=[none,some 3,some 0]) (bS (pv 4)) (λ_ _ _ _=>(aN (i:=0) (show(["number","way","run"]:List Str).Nodup by decide +kernel) rfl Sort)) kG (λ_ _ _ _=>(bH (af (aq 0) (af (dq mU T.aM hr (aq 2) (af (aq 1) (af (aq 0) aa))) aa))))) aa))))))
  (ak (aD (aq 2)))))),?_⟩
 nofun;obtain⟨dx,o,hx,ho⟩:=B.ins;obtain⟨⟨ms,wv,lv,hf,lQ,yU,T⟩,aW⟩:=B.Ku;ac_rfl;have jJ:wv.length=v.ws.length:=by simpa using T.1
 have T:=aW.tR;calc L2.bO λT U=>?_;right;calc⟨F,x,bb,v,r,ad,t,cut,rfl,B,ht,hC,λH1 s1=>?_⟩;calc L2.bX U ?_;clear U;right;calc⟨U' _,λm qS=>?_⟩;have d:=au.new (.lst []) qS;have Pn:upd H1 m (.lst []) m=some (.lst []):=ab;have UB:H m=none:=s1.free qS;have L:=s1.trans d;generalize wL:upd H1 m (.lst [])=M at *;right;calc⟨x,dx,_,rfl,L _ _ hx,dE ⋯,F,x,bb,v,r,ad,rfl,B.same L,?_⟩;have T:=hf;obtain⟨ZR,_,_,_,UA,_⟩:=T;calc⟨bb,ZR,_,rfl,L _ _ UA,by rfl,bb,ms,wv,lv,rfl,hf.same L,λlw UC=>?_⟩;have a:=au.new (.lst wv) UC;have Q7:upd M lw (.lst wv) lw=some (.lst wv):=ab;have UD:=a _ _ Pn;have pJ:=L.trans a;generalize DN:upd M lw (.lst wv)=G3 at *;calc bA _ (.inl ⟨_,aO.of Q7,rfl⟩) ?_;rw[jJ];clear a Q7 UC DN L d Pn wL UA;refine⟨_,rfl,(),(),fU (n:=v.ws.length) (λi σ H'=>(∃z3 z4,σ=[some (V.ref x),some (V.ref t),some (V.ref m),z3,z4])/\au H H'/\∃bs:List Addr,H' m=some (.lst (bs.map V.ref))/\bs.length=i/\(∀b∈bs,H b=none/\b≠m)/\iR H' r bs (λw=>qC r cut w (r.ww w).say.length)) ?_ ?_ ?_⟩
 ·exact⟨⟨_,_,rfl⟩,pJ,[],UD,rfl,λb hb=>by simp at hb,λi b e=>by simp at e⟩
 ·intro i σ H' W mE;obtain⟨⟨z3,z4,rfl⟩,N,bs,X,Y,Z,mi⟩:=mE;rw[Int.zero_add];have O:=B.same N;have IF:=N _ _ ht;obtain⟨L,T,UE,Pr⟩:=O.ins;have T:(r.ww i).say.length<=20 + 24 * r.picks.length:=cE.bs i W;calc L2.bO λT h2=>?_;right;calc bF ?_;right;calc⟨x,L,_,rfl,UE,dE ⋯,F,x,bb,v,r,ad,i,rfl,O,W,?_⟩;calc CL _ rfl () () (λD hD=>?_);rw[Int.toNat_natCast];refine aX (J:=yY 0 (r.ww i).say.length) (n:=(r.ww i).say.length) (λk ys G=>au H' G/\ys=(qC r cut i k).map λk=>V.int (k:Nat)) (E' (small ())) ⟨au.new _ hD,rfl⟩ ?_ ?_ ?_ ?_
  ·rintro k ys G g _;exact g
  ·rintro ys G _;exact K' _
  ·intro k ys G g I hl ph xx M pC;nofun;obtain⟨d,rfl⟩:=ph;obtain⟨rfl,rfl⟩:=pC;ac_rfl;walk_at "xf";right;rw[Int.zero_add];refine⟨F,x,bb,v,r,ad,t,cut,i,k,rfl,O.same d,cE,hI,d _ _ IF,hC.len,W,g,?_⟩;refine xM ?_
   cases hb:ou ((r.ww i).snd.getD k none) ((r.ww i).dj.getD k none) cut with
   |true=>
    rw[if_pos rfl];calc bR I hl g (E' (small ())) ⟨λc o e=>by rw[av (ao e hD)];calc d _ _ e,?_⟩;rw[oy,hb,if_pos rfl,List.map_append];rfl
   |false=>
    rw[if_neg ∅];exact⟨_,I,by rw[List.length_map];calc Y' qW (Nat.le_succ _),d,by rw[oy,hb,if_neg ∅,List.append_nil]⟩
  rintro ys G I Dm ⟨d,rfl⟩;calc L2.bX h2 ?_;clear h2 Dm;have qS:(qC r cut i (r.ww i).say.length).length<=(r.ww i).say.length:=qW;have lT:∀k∈qC r cut i (r.ww i).say.length,k<(r.ww i).say.length:=λk g=>Po g;have Pt:=d _ _ X;have R:=N.trans d;have WO:=O.same d;have Q8:iR G r bs (λw=>qC r cut w (r.ww w).say.length):=λj b e=>let ⟨ys,U,h2⟩:=mi j b e;⟨ys,d _ _ U,h2.aH d.aP⟩
  right;calc⟨.inl ⟨rfl,_,aO.of Pt⟩,?_⟩;calc bF ?_;right;have hH:∀u,G u=none->H u=none:=λu e=>R.free e;clear mi X d N O IF UE Pr hx ho B hf UD pJ;generalize hks:qC r cut i (r.ww i).say.length=l at *;calc .inl ⟨⟨_,aO.of I⟩,λu S=>?_⟩;refine aX (J:=tw K D) (n:=l.length) (λk p z=>au G z/\fQ z 1 p (mO r i (l.take k))) (E' (small ())) ⟨au.new _ S,fQ.nil⟩ ?_ ?_ ?_ ?_
  ·rintro k p z g ⟨a,_⟩;exact⟨_,_,aO.of (a _ _ I),by rw[List.getElem?_map,dw g];rfl⟩
  ·rintro p z ⟨a,_⟩;exact⟨_,aO.of (a _ _ I),nofun⟩
  ·intro k p z g lY hl se xx M yu;nofun;obtain⟨a,hz⟩:=se;obtain⟨rfl,y⟩:=yu;have ex:=y _ (aO.of (a _ _ I));rw[List.getElem?_map,dw g] at ex;obtain rfl:=Option.some.inj ex;have yk:=lT _ (W' g);have Mo:=WO.same a;obtain⟨dx3,t,DM,d⟩:=Mo.ins;ac_rfl;walk_at "xf";right;refine⟨x,dx3,_,rfl,DM,dE ⋯,F,x,bb,v,r,ad,i,l[k],rfl,Mo,W,yk,?_⟩;refine⟨cH,λtp d=>?_⟩;have s4:=au.new (.tup [.int (l[k]:Nat),.int ((r.ww i).say.getD l[k] 0)]) d;have Mp:upd M tp (.tup [.int (l[k]:Nat),.int ((r.ww i).say.getD l[k] 0)]) tp=some (.tup [.int (l[k]:Nat),.int ((r.ww i).say.getD l[k] 0)]):=ab;have UG:=s4 _ _ lY;have Wf:=hz.aH s4.aP;have Ja:=a.trans s4;generalize IP:upd M tp (.tup [.int (l[k]:Nat),.int ((r.ww i).say.getD l[k] 0)])=G5 at *
   try rw[if_pos trivial]
   have st:cg G5 (upd G5 u (.lst (p++[.ref tp]))):=(cg.refl _).upd λp e=>by rw[UG]at e;cases e
   calc bR UG hl g (E' (small ())) ⟨λc o e=>by rw[av (ao e S)];calc Ja _ _ e,?_⟩;have:=((Wf.snoc (df (n:=0) Mp (.int _) (.int _))).aH st)
   rw[List.take_add_one,dw g];unfold mO at *;rw[List.map_append];exact this
  rintro p z lY d ⟨a,hz⟩;rw[List.take_length]at hz;have UH:=a _ _ Pt;have WN:u≠m:=λe=>by rw[e,Pt]at S;cases S
  have ZT:=hH u S;have st:cg z (upd z m (.lst (bs.map V.ref++[.ref u]))):=(cg.refl _).upd λp e=>by rw[UH]at e;cases e
  refine⟨_,UH,aA (by simp;lia),⟨_,_,rfl,rfl⟩,λb o e=>by rw[av (ao e UB)];calc a _ _ (R _ _ e),bs++[u],by rw[List.map_append];calc ab,by simp[Y],λb hb=>?_,λj b e=>?_⟩
  ·rcases List.mem_append.mp hb with hb | hb
   ·exact Z b hb
   ·rw[List.mem_singleton.mp hb];exact⟨ZT,WN⟩
  ·by_cases d:j < bs.length
   ·rw[List.getElem?_append_left d]at e;obtain⟨ys,g,i⟩:=Q8 j b e;exact⟨ys,by rw[av (Z b (List.mem_of_getElem? e)).2];calc a _ _ g,(i.aH a.aP).aH st⟩
   ·have wJ:j=bs.length:=by
     have:=(List.getElem?_eq_some_iff.mp e).1;simp at this;lia
    nofun;subst wJ;rw[List.getElem?_append_right (Nat.le_refl _),Nat.sub_self]at e;obtain rfl:=Option.some.inj e;ac_rfl;calc bA p (by rw[av WN];calc lY) ?_;show fQ _ 1 p (mO r bs.length (qC r cut bs.length (r.ww bs.length).say.length));rw[Y,hks];exact hz.aH st
 ·intro σ H' Ad;obtain⟨⟨z3,z4,rfl⟩,N,bs,X,Y,Z,mi⟩:=Ad;right;calc q m bs H' N UB Z X Y mi
abbrev kX:Stmt:=top 57
def yw:Sp:=λvs H Q _=>∃p m,vs=[.ref p,.int m]/\eN H p/\0<m/\m<=4/\∀x v H',Step p H H'->HT H' 1 x (Val.dv v)->v.ok m->Q x H'
theorem yx(D:cS K mg "_law_value" "_law_value" kX ["_law_pot_here","_law_many"])(T:Tx K mg C CN CR F FD)(u:Def P w K mg base "_law_digit" 1 ["_law_pot_here","_law_many"] gy):Def P w K mg base "_law_value" 2 ["_law_pot_here","_law_many"] yw:=by
 have sc:aC ["_law_pot_here","_law_many","_law_kind"] ["_law_pot_here","_law_many"] (ax kX):=by walk_at "s"
 symm;obtain⟨p,m,rfl,G,I,J,q⟩:=h;have L:=hr.units;refine⟨_,(ag (aZ (i:=2) sc.nd rfl Sort (aK u hr (af (aq 0) (af ai aa))))
  (ag (aS (az gB (aq 2) ai (aE _)) (ak (aD (bH (af aB (af (aj L (bL (af (bc eB (aK u hr (af (aq 0) (af ai aa))) ai) (af (bc eB (aK u hr (af (aq 0) (af (bc eB (bc lN ai (bc qL ai ai)) ai) aa))) (bc eB (bc qL ai ai) ai)) aa))) (aq 2)) aa))))) aG)
  (ag (aS (az gB (aq 2) ai (aE _)) (ak (aD (bH (af aB (af (aK u hr (af (aq 0) (af (aq 1) aa))) aa))))) aG)
  (ak (aD (aj L (bL (af (bH (af aB aa)) (af (bH (af aB aa)) (af (bH (af aB aa)) (af (bH (af aB aa)) aa))))) (bc eB (aq 2) ai))))))),?_⟩
 right;calc kD p 8 rfl G ⋯ ⋯ (λd H1 h1 h2 st=>?_);right;split
 ·rename_i j;have j:d < 2:=by simpa using j
  calc kD p 9 rfl st.fC ⋯ ⋯ (λR H2 M J k=>?_);right;calc⟨zK,OF,dig k.fC Tb Tc λd2 H3 h5 h6 N=>?_⟩;right;calc gC zK ∅ (λl c=>?_);have y:d=0\/d=1:=by lia
  rcases y with rfl|rfl
  ·exact⟨_,_,.inl (aO.of ab),rfl,∅,λt n=>q _ (.is _) _ ((((st.trans k).trans N).new c).new n) (df ab (.str _) (.int _)) trivial⟩
  ·exact⟨_,_,.inl (aO.of ab),rfl,∅,λt n=>q _ (.is _) _ ((((st.trans k).trans N).new c).new n) (df ab (.str _) (.int _)) trivial⟩
 ·rename_i j;have j:¬d < 2:=by simpa using j
  split
  ·refine⟨p,m,rfl,st.fC,I,?_,λR H2 M z k=>?_⟩
   ·have:m=1\/m=2\/m=3\/m=4:=by lia
    rcases this with rfl|rfl|rfl|rfl<;>decide +kernel
   right;exact⟨∅,λt n=>q _ (.number _) _ ((st.trans k).new n) (df ab (.str _) (.int _)) ⟨M,z⟩⟩
  ·rename_i r;have r:¬d < 4:=by simpa using r
   calc⟨∅,λa S=>⟨∅,λb O=>⟨∅,λe B=>⟨∅,λg v=>⟨∅,λl c=>?_⟩⟩⟩⟩⟩;have x:=((((st.new S (o:=.tup [.str "letter"])).new O (o:=.tup [.str "letter"])).new B (o:=.tup [.str "way"])).new v (o:=.tup [.str "first"])).new c (o:=.lst [.ref a,.ref b,.ref e,.ref g]);have y:d=4\/d=5\/d=6\/d=7:=by lia
   have U:=(au.new (H:=upd H1 a (.tup [.str "letter"])) (.tup [.str "letter"]) O) a _ ab;have W:=(au.new (.tup [.str "way"]) B) _ _ U;have X:=(au.new (.tup [.str "first"]) v) _ _ W;have Y:=(au.new (.lst [.ref a,.ref b,.ref e,.ref g]) c) _ _ X;have Z:=(au.new (H:=upd (upd H1 a (.tup [.str "letter"])) b (.tup [.str "letter"])) (.tup [.str "way"]) B) b _ ab;have k3:=(au.new (.tup [.str "first"]) v) _ _ Z;have k4:=(au.new (.lst [.ref a,.ref b,.ref e,.ref g]) c) _ _ k3;have l3:=(au.new (H:=upd (upd (upd H1 a (.tup [.str "letter"])) b (.tup [.str "letter"])) e (.tup [.str "way"])) (.tup [.str "first"]) v) e _ ab;have l4:=(au.new (.lst [.ref a,.ref b,.ref e,.ref g]) c) _ _ l3;have m4:=(au.new (H:=upd (upd (upd (upd H1 a (.tup [.str "letter"])) b (.tup [.str "letter"])) e (.tup [.str "way"])) g (.tup [.str "first"])) (.lst [.ref a,.ref b,.ref e,.ref g]) c) g _ ab;rcases y with rfl|rfl|rfl|rfl
   ·exact⟨_,_,.inl (aO.of ab),rfl,q _ .mw _ x (rO Y (.str _)) trivial⟩
   ·exact⟨_,_,.inl (aO.of ab),rfl,q _ .mw _ x (rO k4 (.str _)) trivial⟩
   ·exact⟨_,_,.inl (aO.of ab),rfl,q _ .way _ x (rO l4 (.str _)) trivial⟩
   ·calc⟨_,_,.inl (aO.of ab),rfl,q _ .first _ x (rO m4 (.str _)) trivial⟩
theorem ZU{d:Int}(a:0<=d)(h:d<10):d=0\/d=1\/d=2\/d=3\/d=4\/d=5\/d=6\/d=7\/d=8\/d=9:=by
 have:∀n:Fin 10,((n.1:Nat):Int)=0\/((n.1:Nat):Int)=1\/((n.1:Nat):Int)=2\/((n.1:Nat):Int)=3\/((n.1:Nat):Int)=4\/((n.1:Nat):Int)=5\/((n.1:Nat):Int)=6\/((n.1:Nat):Int)=7\/((n.1:Nat):Int)=8\/((n.1:Nat):Int)=9:=by decide
 rw[<-Int.toNat_of_nonneg a];calc this ⟨d.toNat,()⟩
abbrev mV:Stmt:=top 58
theorem Pu{H:Hp}{n:Nat}{a:Addr}{u v w z:V}{d d' f g:DV}(e:H a=some (.tup [u,v,w,z]))(h:HT H n u d)(h':HT H n v d')(j:HT H n w f)(k:HT H n z g):HT H (n+1) (.ref a) (.tup [d,d',f,g]):=by
 refine .tup e rfl λi x y b c=>?_
 match i,b,c with
 |0,b,c=>simp at b c;subst b c;calc h
 |1,b,c=>simp at b c;subst b c;calc h'
 |2,b,c=>simp at b c;subst b c;calc j
 |3,b,c=>simp at b c;subst b c;calc k
def yy:Sp:=λvs H Q _=>∃p m,vs=[.ref p,.int m]/\eN H p/\0<m/\m<=4/\∀x d H',Step p H H'->HT H' 2 x (bG.dv d)->d.ok m->Q x H'
theorem Ae(D:cS K mg "_law_deed" "_law_deed" mV ["_law_pot_here","_law_many"])(T:Tx K mg C CN CR F FD)(M:Def P w K mg base "_law_digit" 1 ["_law_pot_here","_law_many"] gy)(I:Def P w K mg base "_law_value" 2 ["_law_pot_here","_law_many"] yw):Def P w K mg base "_law_deed" 3 ["_law_pot_here","_law_many"] yy:=by
 have sc:aC ["_law_pot_here","_law_many","_law_kind"] ["_law_pot_here","_law_many"] (ax mV):=by walk_at "s"
 symm;obtain⟨p,m,rfl,W,k,u,q⟩:=h;have N:=hr.units;refine⟨_,(ag (aZ (i:=2) sc.nd rfl Sort (aK M hr (af (aq 0) (af ai aa))))
  (ag (aS (az gB (aq 2) ai (aE _)) (ak (aD (bH (af (aj N (bL (af aB (af aB (af aB aa)))) (aq 2)) (af (aK M hr (af (aq 0) (af (aq 1) aa))) (af (aK I hr (af (aq 0) (af (aq 1) aa))) aa)))))) aG)
  (ag (aS (az gB (aq 2) ai (aE _)) (ak (aD (bH (af aB (af (aK M hr (af (aq 0) (af ai aa))) (af (aK I hr (af (aq 0) (af (aq 1) aa))) aa)))))) aG)
  (ag (aS (az (ba N) (aq 2) ai (aE _)) (ak (aD (bH (af aB (af (aK I hr (af (aq 0) (af (aq 1) aa))) aa))))) aG)
  (ag (aS (az (ba N) (aq 2) ai (aE _)) (ak (aD (bH (af aB (af (aK I hr (af (aq 0) (af (aq 1) aa))) aa))))) aG)
  (ag (aS (az (ba N) (aq 2) ai (aE _)) (ak (aD (bH (af aB aa)))) aG)
  (ak (aD (bH (af aB (af (aK I hr (af (aq 0) (af (aq 1) aa))) (af (aK I hr (af (aq 0) (af (aq 1) aa))) (af (bc cT ai (aK M hr (af (aq 0) (af ai aa)))) aa))))))))))))),?_⟩
 right;calc kD p 10 rfl W ⋯ ⋯ (λd H1 I M st=>?_);have O:m.natAbs.log2<9000:=by
  have:m=1\/m=2\/m=3\/m=4:=by lia
  rcases this with rfl|rfl|rfl|rfl<;>decide +kernel
 have Z:d=0\/d=1\/d=2\/d=3\/d=4\/d=5\/d=6\/d=7\/d=8\/d=9:=ZU (by assumption) (by assumption);rcases Z with rfl|rfl|rfl|rfl|rfl|rfl|rfl|rfl|rfl|rfl
 ·walk_at "go";refine⟨∅,λl J=>?_⟩;have B:=st.new (o:=.lst [.str "set",.str "add",.str "times"]) J;refine bD ab rfl ?_;refine dig B.fC k O λe L r y x=>?_;have b:=B.trans x;walk_at "go";refine kD p m rfl b.fC k u (λz v G c g j=>?_);walk_at "go";exact⟨∅,λt a=>q _ (.set e v) _ ((b.trans c).new a) (mx ab (.str _) (.int _) (g.aH (au.new _ a).aP)) ⟨r,y,j⟩⟩
 ·walk_at "go";refine⟨∅,λl J=>?_⟩;have B:=st.new (o:=.lst [.str "set",.str "add",.str "times"]) J;refine bD ab rfl ?_;refine dig B.fC k O λe L r y x=>?_;have b:=B.trans x;walk_at "go";refine kD p m rfl b.fC k u (λz v G c g j=>?_);walk_at "go";exact⟨∅,λt a=>q _ (.add e v) _ ((b.trans c).new a) (mx ab (.str _) (.int _) (g.aH (au.new _ a).aP)) ⟨r,y,j⟩⟩
 ·walk_at "go";refine⟨∅,λl J=>?_⟩;have B:=st.new (o:=.lst [.str "set",.str "add",.str "times"]) J;refine bD ab rfl ?_;refine dig B.fC k O λe L r y x=>?_;have b:=B.trans x;walk_at "go";refine kD p m rfl b.fC k u (λz v G c g j=>?_);walk_at "go";exact⟨∅,λt a=>q _ (.times e v) _ ((b.trans c).new a) (mx ab (.str _) (.int _) (g.aH (au.new _ a).aP)) ⟨r,y,j⟩⟩
 ·walk_at "go";refine dig st.fC ∅ ⋯ λe L r y x=>?_;have b:=st.trans x;right;refine kD p m rfl b.fC k u (λz v G c g j=>?_);right;exact⟨∅,λt a=>q _ (.send e v) _ ((b.trans c).new a) (mx ab (.str _) (.int _) (g.aH (au.new _ a).aP)) ⟨r,j⟩⟩
 ·walk_at "go";refine dig st.fC ∅ ⋯ λe L r y x=>?_;have b:=st.trans x;right;refine kD p m rfl b.fC k u (λz v G c g j=>?_);right;exact⟨∅,λt a=>q _ (.send e v) _ ((b.trans c).new a) (mx ab (.str _) (.int _) (g.aH (au.new _ a).aP)) ⟨r,j⟩⟩
 ·walk_at "go";refine dig st.fC ∅ ⋯ λe L r y x=>?_;have b:=st.trans x;right;refine kD p m rfl b.fC k u (λz v G c g j=>?_);right;exact⟨∅,λt a=>q _ (.send e v) _ ((b.trans c).new a) (mx ab (.str _) (.int _) (g.aH (au.new _ a).aP)) ⟨r,j⟩⟩
 ·walk_at "go";refine kD p m rfl st.fC k u (λz v G c g j=>?_);walk_at "go";exact⟨∅,λt a=>q _ (.say v) _ ((st.trans c).new a) (df ab (.str _) (g.aH (au.new _ a).aP)) j⟩
 ·walk_at "go";refine kD p m rfl st.fC k u (λz v G c g j=>?_);walk_at "go";exact⟨∅,λt a=>q _ (.put v) _ ((st.trans c).new a) (df ab (.str _) (g.aH (au.new _ a).aP)) j⟩
 ·walk_at "go";exact⟨∅,λt a=>q _ .drop _ (st.new a) (rO (n:=1) ab (.str _)) trivial⟩
 ·walk_at "go";refine kD p m rfl st.fC k u (λz v G c g j=>?_);walk_at "go";have R:=st.trans c;refine kD p m rfl R.fC k u (λvy v2 b X S UI=>?_);have U:=R.trans X;walk_at "go";refine dig U.fC ∅ ⋯ λe b r y Y=>?_;walk_at "go";refine⟨∅,λt a=>q _ (.skip v v2 (1+e)) _ ((U.trans Y).new a) ?_ ⟨j,UI,(),()⟩⟩;have b:=(Y.aP U.fC).trans (au.new (.tup [.str "skip",z,vy,.int (1+e)]) a).aP;exact Pu ab (.str _) (g.aH ((X.aP R.fC).trans b)) (S.aH b) (.int _)
abbrev jk:Stmt:=top 59
theorem Step.free{p b:Addr}{H H':Hp}(st:Step p H H')(h:H' b=none):H b=none:=by
 cases e:H b with
 |none=>rfl
 |some o=>
  by_cases a:b=p
  ·subst a;obtain⟨x,c,_⟩:=st.fC;rw[h]at c;cases c
  ·rw[st.rest b o e a]at h;cases h
theorem yz(a:0<m)(h:m<=1000000000000):m.natAbs.log2<9000:=(Nat.log2_lt ()).mpr (aaA (show m.natAbs<=1000000000000 by lia) ⋯)
def mods(d:Int):List V:=[.int 2,.int 3,.int 7,.int 10,.int 97,.int (2+d)]
theorem KJ{d k:Int}(b:0<=d)(a:d<10^Int.toNat 12-1)(c:0<=k)(f:k<6):∃z:Int,iJ (mods d) k=some (.int z)/\2<=z/\z<=1000000000000:=by
 have e:(10:Int)^Int.toNat 12=1000000000000:=by decide +kernel
 rw[e]at a;have:k=0\/k=1\/k=2\/k=3\/k=4\/k=5:=by lia
 rcases this with rfl|rfl|rfl|rfl|rfl|rfl
 ·exact⟨_,ay (j:=0) rfl,∅,∅⟩
 ·exact⟨_,ay (j:=1) rfl,∅,∅⟩
 ·exact⟨_,ay (j:=2) rfl,∅,∅⟩
 ·exact⟨_,ay (j:=3) rfl,∅,∅⟩
 ·exact⟨_,ay (j:=4) rfl,∅,∅⟩
 ·calc⟨_,ay (j:=5) rfl,(),()⟩
def yA:Sp:=λvs H Q _=>∃p,vs=[.ref p]/\eN H p/\∀t a b c xs M ns row d H',Step p H H'->H' t=some (.tup [.int M,.ref a,.ref b,.ref c])->H' a=some (.lst (ns.map V.int))->H' b=some (.lst (row.map V.int))->H' c=some (.lst xs)->fQ H' 2 xs (d.map bG.dv)->H a=none->H b=none->H c=none->Good M ns row d->Q (.ref t) H'
theorem uf(D:cS K mg "_law_machine" "_law_machine" jk ["_law_pot_here"])(T:Tx K mg C CN CR F FD)(mW:Def P w K mg base "_law_deed" 3 ["_law_pot_here","_law_many"] yy)(j:Def P w K mg base "_law_digit" 1 ["_law_pot_here","_law_many"] gy):Def P w K mg base "_law_machine" 4 ["_law_pot_here"] yA:=by
 have sc:aC ["_law_pot_here","_law_modulus","_law_many","_law_numbers","_law_row","_law_deeds"] ["_law_pot_here"] (ax jk):=by walk_at "s"
 symm;obtain⟨p,rfl,k,q⟩:=h;have l:=hr.units;refine⟨_,(ag (aZ (i:=1) sc.nd rfl Sort (aj l (bL (af ai (af ai (af ai (af ai (af ai (af (bc cT ai (aK j hr (af (aq 0) (af (bc eB (bc qL ai ai) ai) aa)))) aa))))))) (aK j hr (af (aq 0) (af ai aa)))))
  (ag (aZ (i:=2) sc.nd rfl Sort (bc cT ai (aK j hr (af (aq 0) (af ai aa)))))
  (ag (eV (i:=3) sc.nd rfl Sort (N':=["_law_k","_law_pot_here","_law_modulus"]) (ix:=[none,some 0,some 1]) (cB rfl T.dD (af (aq 2) aa)) (λ_ _ _ _=>(aN (i:=0) (show(["_law_k","_law_pot_here","_law_modulus"]:List Str).Nodup by decide +kernel) rfl Sort)) kG (λ_ _ _ _=>(aK j hr (af (aq 1) (af (aq 2) aa)))))
  (ag (eV (i:=4) sc.nd rfl Sort (N':=["_law_k","_law_pot_here","_law_modulus"]) (ix:=[none,some 0,some 1]) (cB rfl T.dD (af (aK j hr (af (aq 0) (af ai aa))) aa)) (λ_ _ _ _=>(aN (i:=0) (show(["_law_k","_law_pot_here","_law_modulus"]:List Str).Nodup by decide +kernel) rfl Sort)) kG (λ_ _ _ _=>(aK j hr (af (aq 1) (af (aq 2) aa)))))
  (ag (eV (i:=5) sc.nd rfl Sort (N':=["_law_k","_law_pot_here","_law_many"]) (ix:=[none,some 0,some 2]) (cB rfl T.dD (af (aK j hr (af (aq 0) (af ai aa))) aa)) (λ_ _ _ _=>(aN (i:=0) (show(["_law_k","_law_pot_here","_law_many"]:List Str).Nodup by decide +kernel) rfl Sort)) kG (λ_ _ _ _=>(aK mW hr (af (aq 1) (af (aq 2) aa)))))
  (ak (aD (bH (af (aq 1) (af (aq 3) (af (aq 4) (af (aq 5) aa)))))))))))),?_⟩
 right;calc⟨OE,?_⟩;calc dig k Td OG λd0 H1 LU YJ j=>?_;right;calc⟨∅,λl t=>?_⟩;have T:=j.new (o:=.lst (mods d0)) t;have ZV:l≠p:=Step.ne j.fC t;calc dig T.fC ∅ ⋯ λk H3 l ZX c=>?_;have j:=T.trans c;obtain⟨M,k,C8,pw⟩:=KJ LU YJ l ZX;right;calc bD (c.rest _ _ ab ZV) k ?_;right;calc dig j.fC ∅ ⋯ λm T hm0 DK oz=>?_;have N:=j.trans oz;right;calc bF ?_;right;calc gC () () (λD O=>?_);have y:D≠p:=Step.ne N.fC O;refine aX (J:=yY 0 (1+m).toNat) (n:=(1+m).toNat) (λi ys H'=>∃ns:List Int,ys=ns.map V.int/\ns.length=i/\Step p T H'/\(∀z∈ns,0<=z/\z<M)) (E' (aA ())) ⟨[],rfl,rfl,(Step.refl N.fC).new O,λz r=>by simp at r⟩ (λi ys H' a _=>a) (λys H' _=>K' _) ?_ ?_
 ·intro i ys H' a B t gQ x H2 gR;nofun;obtain⟨ns,rfl,G,st,hb⟩:=gQ;obtain⟨rfl,rfl⟩:=gR;ac_rfl;walk_at "xf";right;rw[if_pos trivial];refine dig st.fC () (yz () pw) λd H3 h3 h4 c=>?_;refine bR (c.rest _ _ B y) t a (E' (aA ())) ⟨ns++[d],nofun,by simp[G],?_,λz r=>?_⟩
  ·exact⟨c.fC.upd (Ne.symm y),λb o e ne=>by rw[av (ao e O)];calc c.rest _ _ (st.rest _ _ e ne) ne⟩
  ·rcases List.mem_append.mp r with g | g
   ·exact hb z g
   ·simp at g;subst g;exact⟨h3,h4⟩
 intro ys H5 en hl5 mE;obtain⟨ns,rfl,G,T,sy⟩:=mE;have fD:H D=none:=N.free O;have j:=N.trans T;calc bF ?_;right;calc dig j.fC ∅ ⋯ λk O h60 h61 l=>?_;have R:=j.trans l;have en6:=l.rest _ _ en y;right;calc gC () () (λS U=>?_);have W:S≠p:=Step.ne R.fC U;refine aX (J:=yY 0 k.toNat) (n:=k.toNat) (λi ys H'=>∃ns:List Int,ys=ns.map V.int/\ns.length=i/\Step p O H'/\(∀z∈ns,0<=z/\z<M)) (E' (aA ())) ⟨[],rfl,rfl,(Step.refl R.fC).new U,λz r=>by simp at r⟩ (λi ys H' a _=>a) (λys H' _=>K' _) ?_ ?_
 ·intro i ys H' a B t ph x H2 pC;nofun;obtain⟨ns,rfl,G,st,hb⟩:=ph;obtain⟨rfl,rfl⟩:=pC;ac_rfl;walk_at "xf";right;rw[if_pos trivial];refine dig st.fC () (yz () pw) λd H3 h3 h4 c=>?_;refine bR (c.rest _ _ B W) t a (E' (aA ())) ⟨ns++[d],nofun,by simp[G],?_,λz r=>?_⟩
  ·exact⟨c.fC.upd (Ne.symm W),λb o e ne=>by rw[av (ao e U)];calc c.rest _ _ (st.rest _ _ e ne) ne⟩
  ·rcases List.mem_append.mp r with g | g
   ·exact hb z g
   ·simp at g;subst g;exact⟨h3,h4⟩
 intro ys H7 er hl7 se;obtain⟨row,rfl,c,j,Kl⟩:=se;have Ug:H S=none:=R.free U;have k:=R.trans j;have c:=j.rest _ _ en6 y;calc bF ?_;right;calc dig k.fC ∅ ⋯ λl r t N g=>?_;have X:=k.trans g;have en8:=g.rest _ _ c y;have er8:=g.rest _ _ er W;right;calc gC () () (λI Y=>?_);have UM:I≠p:=Step.ne X.fC Y;have Uk:H I=none:=X.free Y;refine aX (J:=yY 0 l.toNat) (n:=l.toNat) (λi ys H'=>∃u:List bG,fQ H' 2 ys (u.map bG.dv)/\u.length=i/\(∀Z∈u,Z.ok (1+m))/\Step p r H') (E' (aA ())) ⟨[],fQ.nil,rfl,λZ Ca=>by simp at Ca,(Step.refl X.fC).new Y⟩ (λi ys H' a _=>a) (λys H' _=>K' _) ?_ ?_
 ·intro i ys H' a B qS yu x H9 Ad;nofun;obtain⟨u,tX,L,Px,v⟩:=yu;obtain⟨rfl,rfl⟩:=Ad;ac_rfl;walk_at "xf";right;rw[if_pos trivial];refine⟨p,1 + m,rfl,v.fC,(),(),λg dd c KQ Mr UN=>?_⟩;have UO:=KQ.rest _ _ B UM;have t10:cg c (upd c I (.lst (ys++[g]))):=(cg.refl _).upd λc e=>by rw[UO] at e;cases e
  refine bR UO qS a (E' (aA ())) ⟨u++[dd],?_,by simp[L],?_,?_⟩
  ·rw[List.map_append];exact((tX.aH (KQ.aP v.fC)).snoc Mr).aH t10
  ·intro Z Ca;rcases List.mem_append.mp Ca with z | z
   ·exact Px Z z
   ·simp at z;subst z;exact UN
  ·exact⟨KQ.fC.upd (Ne.symm UM),λb o e ne=>by rw[av (ao e Y)];calc KQ.rest _ _ (v.rest _ _ e ne) ne⟩
 intro ys H9 g a c;obtain⟨u,tX,L,Px,v⟩:=c;have i:=X.trans v;right;calc⟨by show 4<=sizeLine;decide,λt c=>?_⟩;have a:=au.new (.tup [.int M,.ref D,.ref S,.ref I]) c;calc q t D S I ys M ns row u _ (i.new c) ab (a _ _ (v.rest _ _ en8 y)) (a _ _ (v.rest _ _ er8 W)) (a _ _ g) (tX.aH a.aP) fD Ug Uk ⟨C8,pw,(),(),(),sy,Kl,(),λd j=>?_⟩;rw[G];have e:(((1+m).toNat:Nat):Int)=1+m:=by lia
 rw[e];calc Px d j
abbrev kZ:Stmt:=top 61
inductive Ha(vs:List V)(H:Hp)(Q:VK):Prop
 |mk (x:V) (st an ar:Addr) (way said M:Int) (v:Val) (ns row:List Int) (n:Nat) (h0:vs=[x,.ref st,.int way,.int said,.int M]) (h1:HT H n x (Val.dv v)) (h2:H st=some (.tup [.ref an,.ref ar])) (h3:H an=some (.lst (ns.map V.int))) (h4:H ar=some (.lst (row.map V.int))) (h5:v.ok ns.length) (h6:0<M) (h7:row.length<=12) (h8:∀H',au H H'->Q (.int (fH M way said ns row v)) H'):Ha vs H Q
def BO:Sp:=λvs H Q _=>Ha vs H Q
theorem yB(D:cS K mg "_law_worth" "_law_worth" kZ ["_law_value_here","_law_state","_law_way","_law_said","_law_modulus"])(T:Tx K mg C CN CR F FD):Def P w K mg base "_law_worth" 1 ["_law_value_here","_law_state","_law_way","_law_said","_law_modulus"] BO:=by
 have sc:aC ["_law_value_here","_law_state","_law_way","_law_said","_law_modulus","_law_worth_here"] ["_law_value_here","_law_state","_law_way","_law_said","_law_modulus"] (ax kZ):=by walk_at "s"
 symm;obtain⟨x,st,a,z,way,c,M,v,ns,row,n,rfl,g,O,X,o,R,k,Y,q⟩:=h;have a:=hr.units;refine⟨_,(ag (aZ (i:=5) sc.nd rfl Sort (aq 2))
  (ag (aS (az (ba a) (aj a (aq 0) ai) aB (aE _)) (ak (aZ (i:=5) sc.nd rfl Sort (aj a (aq 0) ai))) aG)
  (ag (aS (az (ba a) (aj a (aq 0) ai) aB (aE _)) (ak (aZ (i:=5) sc.nd rfl Sort (aj a (aj a (aq 1) ai) (aj a (aq 0) ai)))) aG)
  (ag (aS (az (ba a) (aj a (aq 0) ai) aB (aE _)) (ak (aZ (i:=5) sc.nd rfl Sort (aq 3))) aG)
  (ag (aS (az (ba a) (aj a (aq 0) ai) aB (aE _)) (ak (aZ (i:=5) sc.nd rfl Sort (aj a (bc cT (cO (N':=["_law_k","_law_state"]) (ix:=[none,some 1]) (cB rfl T.dD (af (aV aL rfl T.bT L' (af (aj a (aq 1) ai) aa)) aa)) (λ_ _ _ _=>(aN (i:=0) (show(["_law_k","_law_state"]:List Str).Nodup by decide +kernel) rfl Sort)) kG (λ_ _ _ _=>(dC (K:=K) rfl a (dC (K:=K) rfl a (aq 1) ai) (aq 0)))) (bL (af ai aa))) ai))) aG)
  (ak (aD (bc eO (aq 5) (aq 4))))))))),?_⟩
 left
 cases v with
 |is z=>
  nofun;obtain⟨p,t,Z,u,rfl,y,d,I⟩:=dF g;obtain rfl:=d.cV;obtain rfl:=I.cP;ac_rfl;walk_at "jg";exact⟨k,q H (au.refl H)⟩
 |number i=>
  nofun;obtain⟨p,t,Z,u,rfl,y,d,I⟩:=dF g;obtain rfl:=d.cV;obtain rfl:=I.cP;obtain⟨L,a⟩:=R;obtain⟨j,rfl⟩:=aar L;ac_rfl;have S:j<ns.length:=by lia
  have a:iJ (ns.map V.int) (j:Int)=some (.int ns[j]):=ay (by rw[List.getElem?_map,dw S];rfl);walk_at "jg";have a:=q H (au.refl H);have N:fH M way c ns row (.number j)=ns[j]%M:=by
   show ns.getD (j:Int).toNat 0%M=_;simp[List.getD_eq_getElem?_getD,dw S]
  rw[N]at a;calc⟨k,a⟩
 |first=>
  nofun;obtain⟨p,t,u,rfl,y,d⟩:=iY g;obtain rfl:=d.cV;ac_rfl;walk_at "jg"
  skip
  walk_at "jg";refine bA _ (.inl ⟨_,aO.of o,rfl⟩) ?_;left;have a:(row.map V.int).length=row.length:=by simp
  rw[a];calc gC () () (λD U=>?_);refine aX (J:=yY 0 row.length) (n:=row.length) (λi ys H'=>ys=(row.take i).map V.int/\au H H') (E' (aA ())) ⟨rfl,au.new _ U⟩ (λi ys H' l _=>l) (λys H' _=>K' _) ?_ ?_
  ·intro i ys H' l B G gQ x H2 gR;nofun;obtain⟨rfl,m⟩:=gQ;obtain⟨rfl,rfl⟩:=gR;ac_rfl;walk_at "xf";have a:=m _ _ O;have ZZ:=m _ _ o;walk_at "jg"
   try rw[if_pos trivial]
   calc bD ZZ (show iJ (row.map V.int) (0+(i:Int))=some (.int row[i]) from by rw[Int.zero_add];calc ay (by rw[List.getElem?_map,dw l];rfl)) ?_;calc bR B G l (E' (aA ())) ⟨?_,λb o e=>by rw[av (ao e U)];calc m _ _ e⟩;rw[List.take_succ,dw l,List.map_append];rfl
  rintro ys H1 B G ⟨rfl,m⟩;rw[List.take_length]at B;walk_at "jg";refine⟨∅,λl G=>?_⟩;have W:=au.new (.lst [.int 0]) G;walk_at "jg";refine .inl ⟨_,_,W _ _ B,ab,E' (aA (by simp;lia)),λi a=>?_⟩;have s3:=au.new (.lst (row.map V.int++[.int 0])) a;have N:iJ (row.map V.int++[.int 0]) 0=some (.int (rN ns row way c .first)):=by
   cases row with
   |nil=>calc ay (j:=0) rfl
   |cons r a=>exact ay (j:=0) rfl
  left;refine bD ab N ?_;walk_at "jg";exact⟨k,q _ (m.trans (W.trans s3))⟩
 |mw=>
  nofun;obtain⟨p,t,u,rfl,y,d⟩:=iY g;obtain rfl:=d.cV;ac_rfl;walk_at "jg";exact⟨k,q _ (au.refl H)⟩
 |way=>
  nofun;obtain⟨p,t,u,rfl,y,d⟩:=iY g;obtain rfl:=d.cV;ac_rfl;walk_at "jg";exact⟨k,q _ (au.refl H)⟩
def Ms(M way said:Int):Nat->List bG->WS->WS
 |_,[],s=>s
 |l+1,_::r,s=>Ms M way said l r s
 |0,d::r,s=>Ms M way said (me M way said d s).toNat r (fI M way said d s)
theorem wd{M way said:Int}:∀(b:List bG) (l:Nat) (s:WS) (f:Nat),b.length<=f->Ms M way said l b s=xF M way said f (b.drop l) s
 | [],l,s,f,_=>by rw[List.drop_nil,AZ];cases l<;>rfl
 |d::r,l+1,s,f,h=>by
  show Ms M way said l r s=xF M way said f (r.drop l) s;calc wd r l s f (by simp at h;lia)
 |d::r,0,s,f,h=>by
  obtain⟨a,rfl⟩:∃a,f=a+1:=⟨f-1,by simp at h;lia⟩
  show Ms M way said (me M way said d s).toNat r (fI M way said d s)=xF M way said a (r.drop (me M way said d s).toNat) (fI M way said d s);calc wd r _ _ a (by simp at h;lia)
theorem Hc{M way said:Int}{a:List bG}:Ms M way said 0 a ⟨ns,row,[],[]⟩=n0 M way said a ns row:=wd a 0 _ _ (K' _)
inductive KR(H:Hp)(mt:Addr)(st:V)(way said M:Int)(ds:List bG)(ns row:List Int)(i:Nat)(σ:St)(H':Hp):Prop
 |mk (an ar gN aw:Addr) (zs:List V) (z9 OM:Option V) (l:Nat) (s:WS) (h0:σ=[some (.ref mt),some st,some (.int way),some (.int said),some (.ref an),some (.ref ar),some (.ref gN),some (.ref aw),some (.int ((l:Nat):Int)),z9,OM]) (h1:au H H') (a1:H an=none) (a2:H ar=none) (a3:H gN=none) (a4:H aw=none) (n1:an≠ar) (n2:an≠gN) (n3:an≠aw) (n4:ar≠gN) (n5:ar≠aw) (n6:gN≠aw) (e1:H' an=some (.lst (s.ns.map V.int))) (e2:H' ar=some (.lst (s.row.map V.int))) (e3:H' gN=some (.lst zs)) (Di:SL H' zs s.cJ) (e5:H' aw=some (.lst (s.words.map V.int))) (IS:s.ns.length=ns.length) (sy:∀z∈s.ns,0<=z/\z<M) (yg:s.row.length<=12) (IT:s.cJ.length<=i) (Wu:s.words.length<=i) (nQ:Ms M way said l (ds.drop i) s=n0 M way said ds ns row):KR H mt st way said M ds ns row i σ H'
inductive Hd(K:W.Frag)(vs:List V)(H:Hp)(Q:VK):Prop
 |mk (mt ln lr ld:Addr) (st:V) (way said M:Int) (xs:List V) (ds:List bG) (ns row:List Int) (h0:vs=[.ref mt,st,.int way,.int said]) (UQ:H mt=some (.tup [.int M,.ref ln,.ref lr,.ref ld])) (h1:H ld=some (.lst xs)) (h2:fQ H 2 xs (ds.map bG.dv)) (h3:xG K H st ns row) (h5:2<=M) (h6:M<=1000000000000) (h7:∀z∈ns,0<=z/\z<M) (h9:row.length<=12) (LU:ds.length<=24) (YJ:∀d∈ds,d.ok ns.length) (h13:∀x H',au H H'->Res H H' x (n0 M way said ds ns row)->Q x H'):Hd K vs H Q
theorem Py{xs:List V}:eD xs none (some 12)=xs.take 12:=by
 unfold eD;have a:HT.ei xs.length 0 none=0:=rfl;rw[a];have b:HT.ei xs.length xs.length (some 12)=min 12 xs.length:=by
  unfold HT.ei;simp
 rw[b,List.drop_zero,Nat.sub_zero];by_cases h:xs.length<=12
 ·rw[Nat.min_eq_right h,List.take_length,List.take_of_length_le h]
 ·rw[Nat.min_eq_left ()]
theorem UR{xs:List V}:eD xs (some 1) none=xs.tail:=by
 unfold eD;have b:HT.ei xs.length xs.length none=xs.length:=rfl;rw[b]
 cases xs with
 |nil=>simp
 |cons a r=>
  have b:HT.ei (a::r).length 0 (some 1)=1:=by
   unfold HT.ei;simp
  rw[b];simp
theorem BP{α:Type}{l m:List α}{i:Nat}(h:l.length<=i)(h':m.length<=1):(l++m).length<=i+1:=by rw[List.length_append];lia
theorem KS{x:Int}(h:row.length<=12):eD (row.map V.int++[x].map V.int) none (some 12)=(if row.length<12 then row++[x] else row).map V.int:=by
 rw[Py,<-List.map_append,<-List.map_take];split
 ·rw[List.take_of_length_le (by simp;lia)]
 ·rw[List.take_append_of_le_length (),List.take_of_length_le h]
abbrev jX:Stmt:=top 62
def BQ(K:W.Frag):Sp:=λvs H Q _=>Hd K vs H Q
theorem we(D:cS K mg "_law_worked" "_law_worked" jX ["_law_machine_here","_law_state","_law_way","_law_said"])(T:Tx K mg C CN CR F FD)(k6:Def P w K mg base "_law_worth" 1 ["_law_value_here","_law_state","_law_way","_law_said","_law_modulus"] BO):Def P w K mg base "_law_worked" 2 ["_law_machine_here","_law_state","_law_way","_law_said"] (BQ K):=by
 have sc:aC ["_law_machine_here","_law_state","_law_way","_law_said","_law_numbers","_law_row","_law_sent","_law_words","_law_left","_law_deed_here","_law_worths"] ["_law_machine_here","_law_state","_law_way","_law_said"] (ax jX):=by walk_at "s"
 symm;obtain⟨mt,g,lr,ld,st,k,a,M,xs,U,ns,row,rfl,UQ,Tu,tX,uq,C8,pw,hb,og,LO,aW,q⟩:=h;have g:=hr.units;refine⟨_,(ag (aZ (i:=4) sc.nd rfl Sort (cX cI rfl T.dP wF (af (aj g (aq 1) ai) aa)))
  (ag (aZ (i:=5) sc.nd rfl Sort (cX cI rfl T.dP wF (af (aj g (aq 1) ai) aa)))
  (ag (aZ (i:=6) sc.nd rfl Sort (bL aa))
  (ag (aZ (i:=7) sc.nd rfl Sort (bL aa))
  (ag (aZ (i:=8) sc.nd rfl Sort ai)
  (ag (cQ PassesOwn.never rfl (bS (aj g (aq 0) ai)) (aN (i:=9) sc.nd rfl Sort)
  (ag (eV (i:=10) sc.nd rfl Sort (N':=["_law_one","_law_way","_law_said","_law_numbers","_law_row","_law_machine_here"]) (ix:=[none,some 2,some 3,some 4,some 5,some 0]) (bS (pv 9)) (λ_ _ _ _=>(aN (i:=0) (show(["_law_one","_law_way","_law_said","_law_numbers","_law_row","_law_machine_here"]:List Str).Nodup by decide +kernel) rfl Sort)) (λ_ _ _ _=>(iN (bC (aV (uN (K:=K) rfl) rfl T.aY uj (af (aq 0) (af (cF (v:=.ty "tuple") rfl T.bW oK rfl) aa)))))) (λ_ _ _ _=>(aK k6 hr (af (aq 0) (af (bH (af (aq 3) (af (aq 4) aa))) (af (aq 1) (af (aq 2) (af (dC (K:=K) rfl g (aq 5) ai) aa))))))))
  (ak (aS (az mr (aq 8) ai (aE _)) (ak (aZ (i:=8) sc.nd rfl Sort (bc eB (aq 8) ai))) (ak (aS (az (ba g) (aj g (aq 9) ai) aB (aE _)) (ak (eY (aj g (aq 10) ai) (iW (aq 4) (aj g (aq 9) ai) dX))) (ak (aS (az (ba g) (aj g (aq 9) ai) aB (aE _)) (ak (eY (bc eO (bc cT (aj g (aq 4) (aj g (aq 9) ai)) (aj g (aq 10) ai)) (aj g (aq 0) ai)) (iW (aq 4) (aj g (aq 9) ai) dX))) (ak (aS (az (ba g) (aj g (aq 9) ai) aB (aE _)) (ak (eY (bc eO (bc lN (aj g (aq 4) (aj g (aq 9) ai)) (aj g (aq 10) ai)) (aj g (aq 0) ai)) (iW (aq 4) (aj g (aq 9) ai) dX))) (ak (aS (az (ba g) (aj g (aq 9) ai) aB (aE _)) (ak (aZ (i:=5) sc.nd rfl Sort (rJ (bc cT (aq 5) (aq 10)) qJ (iL ai)))) (ak (aS (az (ba g) (aj g (aq 9) ai) aB (aE _)) (ak (aZ (i:=5) sc.nd rfl Sort (rJ (aq 5) (iL ai) qJ))) (ak (aS (az (ba g) (aj g (aq 9) ai) aB (aE _)) (ak (bJ (de lS oF oG bU (aq 6) (af (bH (af (aj g (aq 9) ai) (af (aj g (aq 10) ai) aa))) aa)))) (ak (aS (az (ba g) (aj g (aq 9) ai) aB (aE _)) (ak (bJ (de lS oF oG bU (aq 7) (af (aj g (aq 10) ai) aa)))) (ak (aS (az gB (aj g (aq 10) ai) (aj g (aq 10) ai) (aE _)) (ak (aZ (i:=8) sc.nd rfl Sort (aj g (aq 9) ai))) aG))))))))))))))))))))
  (ak (aD (bH (af (bH (af (cX bN rfl T.bW oK (af (aq 4) aa)) (af (cX bN rfl T.bW oK (af (aq 5) aa)) aa))) (af (aq 6) (af (aq 7) aa)))))))))))),?_⟩
 obtain⟨sa,sb,Tv,rfl,g,T,YL⟩:=uq;have IQ:0<M:=by lia
 left;calc cZ g rfl ?_;left;calc bA _ T (λB ON=>?_);have s1:=au.new (.lst (ns.map V.int)) ON;left;calc cZ (s1 _ _ g) rfl ?_;left;have T:aO K (upd H B (.lst (ns.map V.int))) Tv (row.map V.int)\/bQ K (upd H B (.lst (ns.map V.int))) Tv (row.map V.int):=YL.elim (λz=>.inl (s1.seq z)) (λz=>.inr (s1.Qw z));calc bA _ T (λN Dh=>?_);have s2:=au.new (.lst (row.map V.int)) Dh;left;calc⟨U' _,λG pI=>?_⟩;have m:=au.new (.lst []) pI;left;calc⟨U' _,λI mF=>?_⟩;have s4:=au.new (.lst []) mF;left;have YM:N≠B:=λz=>by subst z;rw[ab]at Dh;cases Dh
 have YN:H N=none:=s1.free Dh;have YO:H G=none:=(s1.trans s2).free pI;have YQ:H I=none:=(s1.trans (s2.trans m)).free mF;have YR:G≠B:=λz=>by subst z;rw[s2 _ _ ab]at pI;cases pI
 have YS:G≠N:=λz=>by subst z;rw[ab]at pI;cases pI
 have YT:I≠B:=λz=>by subst z;rw[m _ _ (s2 _ _ ab)]at mF;cases mF
 have YU:I≠N:=λz=>by subst z;rw[m _ _ ab]at mF;cases mF
 have YV:I≠G:=λz=>by subst z;rw[ab]at mF;cases mF
 have g:=s1.trans (s2.trans (m.trans s4));have exs:xs.length=U.length:=by simpa using tX.1
 refine cZ (g _ _ UQ) (ay (j:=3) rfl) (.inl ⟨⟨_,aO.of (g _ _ Tu)⟩,eS (K:=K) (xs:=xs) (KR H mt (.ref sa) k a M U ns row) ?_ ?_ ?_ ?_⟩)
 ·refine⟨B,N,G,I,[],none,none,0,⟨ns,row,[],[]⟩,rfl,g,ON,YN,YO,YQ,Ne.symm YM,Ne.symm YR,Ne.symm YT,Ne.symm YS,Ne.symm YU,Ne.symm YV,s4 _ _ (m _ _ (s2 _ _ ab)),s4 _ _ (m _ _ ab),s4 _ _ ab,⟨rfl,λi z p e=>by simp at e⟩,ab,rfl,hb,og,K' _,K' _,Hc⟩
 ·intro i σ H1 hi gQ;obtain⟨B,N,G,I,zs,z9,OM,l,s,rfl,sH,_⟩:=gQ;exact aO.of (sH _ _ Tu)
 ·intro i x σ H1 UE gR;nofun;obtain⟨B,N,G,I,zs,z9,OM,l,s,rfl,sH,a1,a2,a3,a4,n1,n2,n3,n4,n5,n6,L,X,O,Di,R,IS,sy,yg,IT,Wu,Y⟩:=gR;have Bs:i < U.length:=by rw[<-exs];exact(List.getElem?_eq_some_iff.mp UE).1
  have qR:=aW U[i] (W' Bs);have hx:=(tX.2 i x (bG.dv U[i]) UE (by rw[List.getElem?_map,dw Bs];rfl)).aH sH.aP;have QC:U.drop i=U[i]::U.drop (i+1):=List.drop_eq_getElem_cons Bs;generalize hdd:U[i]=d at qR hx QC;rw[QC]at Y;obtain⟨pa,xp,os,k0,rfl,WQ,vz,Pz,kb⟩:=Bt hx;ac_rfl;left;calc bF ?_;left;calc .inr ⟨⟨_,bQ.of WQ⟩,λD hD=>?_⟩;have JH:=yd (d:=d);refine aX (J:=RI K pa) (n:=xp.length) (λi ys H'=>ys=(((os.take i).filterMap id).map (fH M k a s.ns s.row)).map V.int/\au H1 H') (E' (aA ())) ⟨rfl,au.new _ hD⟩ ?_ ?_ ?_ ?_
  ·rintro i ys H' hi ⟨_,m⟩;exact⟨_,xp[i],bQ.of (m _ _ WQ),dw hi⟩
  ·rintro ys H' ⟨_,m⟩;exact⟨_,bQ.of (m _ _ WQ),K' _⟩
  ·intro i ys S hi bx qS mE y H4 ph;nofun;obtain⟨rfl,m⟩:=mE;obtain⟨rfl,g⟩:=ph;have T:=g _ (bQ.of (m _ _ WQ));obtain⟨o,ho,Gj⟩:=vz.get T;ac_rfl;have ya:os.take (i+1)=os.take i++[o]:=by
    rw[List.take_add_one,ho];rfl
   walk_at "xf";left;rcases Gj with⟨rfl,hc⟩|⟨v,rfl,YE⟩
   ·have YF:∃t,gA K H4 y t/\W.kitOne K t (.type "tuple")=some false:=by
     rcases hc with⟨w,rfl⟩|⟨j,rfl⟩
     ·exact⟨_,.str w,rfl⟩
     ·exact⟨_,.int j,rfl⟩
    obtain⟨t,h1,h2⟩:=YF;refine cD t false h1 h2 ?_
    first|calc⟨false,rfl,?_⟩|skip
    left
    try rw[if_neg Bool.false_ne_true]
    exact⟨_,bx,(),by rw[ya];simp,m⟩
   ·have Gk:=YE.aH m.aP;obtain⟨b,IX,rfl,gQq⟩:=A0 Gk;refine cD _ true (.tup gQq) rfl ?_
    first|calc⟨true,rfl,?_⟩|skip
    left
    try first|rw[if_pos rfl]|rw[if_pos trivial]
    have y:v.ok ns.length:=oj qR v (by rw[<-Pz];calc List.mem_filterMap.mpr ⟨some v,aaa ho,rfl⟩);left;calc⟨cH,λT t=>?_⟩;have g:=au.new (.tup [.ref B,.ref N]) t;calc cZ (g _ _ (m _ _ (sH _ _ UQ))) (ay (j:=0) rfl) ?_;calc⟨.ref b,T,B,N,k,a,M,v,s.ns,s.row,k0,rfl,Gk.aH g.aP,ab,g _ _ (m _ _ L),g _ _ (m _ _ X),by rw[IS];calc y,IQ,yg,λH5 t=>?_⟩;calc bR (t _ _ (g _ _ bx)) qS hi (E' (aA ())) ⟨?_,λc o e=>by rw[av (ao e hD)];calc t _ _ (g _ _ (m _ _ e))⟩;rw[ya,List.filterMap_append,List.map_append,List.map_append];rfl
  rintro ys S bx qS ⟨rfl,m⟩;rw[vz.len,List.take_length,Pz]at bx;have DQ:H1 D=none:=hD;nofun;generalize g:d.vals.map (fH M k a s.ns s.row)=ws at bx;have jJ:ws.length=d.vals.length:=by rw[<-g];simp
  have OP:0<=ws.getD 0 0/\ws.getD 0 0<M:=by rw[<-g];exact uZ IQ
  have BA:fI M k a d s=⟨jF M s.ns (ws.getD 0 0) d,nY s.row (ws.getD 0 0) d,s.cJ++g9 (ws.getD 0 0) d,s.words++fZ (ws.getD 0 0) d⟩:=by rw[<-g];rfl
  have BB:me M k a d s=nZ (ws.getD 0 0) (ws.getD 1 0) d:=by rw[<-g];rfl
  have g:∀{b:Addr} {o:HO},H1 b=some o->b≠D:=λe=>ao e DQ;have oJ:au H S:=sH.trans m;have DM:=hx.aH m.aP;have wg:=Di.aH m.aP;have t:B≠D:=g L;have t:N≠D:=g X;have t:G≠D:=g O;have t:I≠D:=g R;have nPs:∀{b:Addr} {ys zs:List V},S b=some (.tup ys)->∀{c:Addr},S c=some (.lst zs)->b≠c:=λh1 _ h2 z=>by subst z;rw[h1]at h2;cases h2
  have Z1:=oJ _ _ UQ
  replace L:=m _ _ L
  replace X:=m _ _ X
  replace O:=m _ _ O
  replace R:=m _ _ R
  ac_rfl;clear vz Pz kb JH qS hx
  cases l with
  |succ l=>
   left;rw[if_pos nofun];left;calc⟨B,N,G,I,zs,some (.ref pa),some (.ref D),l,s,?_,oJ,a1,a2,a3,a4,n1,n2,n3,n4,n5,n6,L,X,O,wg,R,IS,sy,yg,(),(),Y⟩;have:((l+1:Nat):Int)-1=((l:Nat):Int):=by lia
   rw[this]
  |zero=>
  replace Y:Ms M k a (me M k a d s).toNat (U.drop (i+1)) (fI M k a d s)=n0 M k a U ns row:=Y
  rw[BA,BB]at Y;left
  try rw[if_neg nofun]
  have g:((ns.length:Nat):Int)=s.ns.length:=by rw[IS]
  have Z:∀H6 Mt IX n' r' Z2 w' (k':Nat),sr M s.ns s.row (ws.getD 0 0) (ws.getD 1 0) d=(n',r',Z2,w',((k':Nat):Int))->au H H6->H Mt=none->B≠Mt->Mt≠G->Mt≠I->H6 B=some (.lst (n'.map V.int))->H6 Mt=some (.lst (r'.map V.int))->H6 G=some (.lst IX)->SL H6 IX (s.cJ++Z2)->H6 I=some (.lst ((s.words++w').map V.int))->KR H mt (.ref sa) k a M U ns row (i+1) [some (.ref mt),some (.ref sa),some (.int k),some (.int a),some (.ref B),some (.ref Mt),some (.ref G),some (.ref I),some (.int ((k':Nat):Int)),some (.ref pa),some (.ref D)] H6:=by
   clear bx DM wg L X O R Z1 nPs;intro H6 Mt IX n' r' Z2 w' k' E f0 f1 f2 f3 f4 f5 f6 f7 f8 f9;simp only[sr,Prod.mk.injEq]at E;obtain⟨rfl,rfl,rfl,rfl,E⟩:=E;rw[E,Int.toNat_natCast]at Y;have g:=ye (w:=ws.getD 0 0) (d:=d);exact⟨B,Mt,G,I,IX,_,_,k',⟨_,_,_,_⟩,rfl,f0,a1,f1,a3,a4,f2,n2,n3,f3,f4,n6,f5,f6,f7,f8,f9,oW.trans IS,Bz (d:=d) IQ sy OP,Gu (d:=d) yg,BP IT g.1,BP Wu g.2,Y⟩
  have zQ:∀r x,sr M s.ns s.row (ws.getD 0 0) (ws.getD 1 0) d=(s.ns.set r x,s.row,[],[],0)->KR H mt (.ref sa) k a M U ns row (i+1) [some (.ref mt),some (.ref sa),some (.int k),some (.int a),some (.ref B),some (.ref N),some (.ref G),some (.ref I),some (.int 0),some (.ref pa),some (.ref D)] (upd S B (.lst ((s.ns.map V.int).set r (.int x)))):=λr x E=>by
   have t6:cg S (upd S B (.lst ((s.ns.map V.int).set r (.int x)))):=(cg.refl _).upd λys e=>by rw[L]at e;cases e
   exact Z _ N zs _ _ _ _ 0 E (λb o e=>by rw[av (ao e a1)];calc oJ _ _ e) a2 n1 n4 n5 (by rw[ab,List.map_set]) (by rw[av (Ne.symm n1)];calc X) (by rw[av (Ne.symm n2)];calc O) (by rw[List.append_nil];calc wg.aH t6) (by rw[av (Ne.symm n3),List.append_nil];calc R)
  have Lu:=uY DM qR;clear DM qR Y BA BB;have LS:∀r:Nat,((r:Nat):Int)<ns.length->zi (s.ns.map V.int).length ((r:Nat):Int)=some r/\iJ (s.ns.map V.int) ((r:Nat):Int)=some (.int (s.ns.getD r 0)):=λr hj=>⟨oh (by rw[List.length_map];lia),ia ()⟩
  cases Lu with
  |set r u hj ha hl E=>
   have yS:=ia (ws:=ws) (j:=0) ();obtain⟨x1,x2⟩:=LS r hj;walk_at "jg";refine cD _ r L x1 ?_;exact zQ _ _ (E _ _ _ _ _)
  |add r u hj ha hl E=>
   have yS:=ia (ws:=ws) (j:=0) ();obtain⟨x1,x2⟩:=LS r hj;walk_at "jg";refine⟨IQ,?_⟩;walk_at "jg";refine cD _ r L x1 ?_;exact zQ _ _ (E _ _ _ _ _)
  |times r u hj ha hl E=>
   have yS:=ia (ws:=ws) (j:=0) ();obtain⟨x1,x2⟩:=LS r hj;walk_at "jg";have g:=Bv sy (j:=r) ();refine⟨.inl ⟨(),()⟩,?_⟩;walk_at "jg";refine⟨IQ,?_⟩;walk_at "jg";refine cD _ r L x1 ?_;exact zQ _ _ (E _ _ _ _ _)
  |put u ha hl E=>
   obtain⟨g,Z3⟩:=YD (jJ.trans hl);walk_at "jg";refine .inl ⟨_,_,X,bx,E' (aA (by simp;lia)),λg wI=>?_⟩;have s6:=au.new (.lst (s.row.map V.int++ws.map V.int)) wI;walk_at "jg";refine .inl ⟨_,ab,λl3 Jd=>?_⟩;have s7:=au.new (.lst (eD (s.row.map V.int++ws.map V.int) none (some 12))) Jd;have g:=s6.trans s7;have f3:S l3=none:=s6.free Jd;exact Z _ l3 zs _ _ _ _ 0 (E _ _ _ _ _) (oJ.trans g) (oJ.free f3) (ao L f3) (Ne.symm (ao O f3)) (Ne.symm (ao R f3)) (g _ _ L) (by rw[ab,Z3];exact congrArg (λz=>some (HO.lst z)) (KS yg)) (g _ _ O) (by rw[List.append_nil];exact wg.aH g.aP) (by rw[List.append_nil];exact g _ _ R)
  |drop ha E=>
   walk_at "jg";refine .inl ⟨_,X,λl3 Jd=>?_⟩;have s7:=au.new (.lst (eD (s.row.map V.int) (some 1) none)) Jd;exact Z _ l3 zs _ _ _ _ 0 (E _ _ _ _ _) (oJ.trans s7) (oJ.free Jd) (ao L Jd) (Ne.symm (ao O Jd)) (Ne.symm (ao R Jd)) (s7 _ _ L) (by rw[ab,UR,List.map_tail]) (s7 _ _ O) (by rw[List.append_nil];exact wg.aH s7.aP) (by rw[List.append_nil];exact s7 _ _ R)
  |send j u ha hl E=>
   have yS:=ia (ws:=ws) (j:=0) ();walk_at "jg";refine⟨.inl ⟨rfl,_,aO.of O⟩,?_⟩;walk_at "jg";refine⟨cH,λtp yT=>?_⟩;have s6:=au.new (.tup [.int j,.int (ws.getD 0 0)]) yT;walk_at "jg";refine gw _ (s6 _ _ O) (aaA (by have:=Di.1;lia) (aA (n:=100) ())) ?_;have t6:cg (upd S tp (.tup [.int j,.int (ws.getD 0 0)])) (upd (upd S tp (.tup [.int j,.int (ws.getD 0 0)])) G (.lst (zs++[.ref tp]))):=(cg.refl _).upd λys e=>by rw[s6 _ _ O]at e;cases e
   have q6:∀b o,b≠G->S b=some o->upd (upd S tp (.tup [.int j,.int (ws.getD 0 0)])) G (.lst (zs++[.ref tp])) b=some o:=λb o ne e=>by rw[av ne];exact s6 _ _ e
   calc Z _ N _ _ _ _ _ 0 (E _ _ _ _ _) (λb o e=>q6 b o (ao e a3) (oJ _ _ e)) a2 n1 n4 n5 (q6 _ _ n2 L) (q6 _ _ n4 X) ab ((wg.aH (s6.aP.trans t6)).snoc (df (n:=0) (t6 _ _ ab) (.int _) (.int _))) (by rw[List.append_nil];calc q6 _ _ (Ne.symm n6) R)
  |say u ha hl E=>
   have yS:=ia (ws:=ws) (j:=0) ();walk_at "jg";refine⟨.inl ⟨rfl,_,aO.of R⟩,?_⟩;walk_at "jg";refine gw _ R (aaA (by simp;lia) (aA (n:=100) ())) ?_;have t6:cg S (upd S I (.lst (s.words.map V.int++[.int (ws.getD 0 0)]))):=(cg.refl _).upd λys e=>by rw[R]at e;cases e
   have q6:∀b o,b≠I->S b=some o->upd S I (.lst (s.words.map V.int++[.int (ws.getD 0 0)])) b=some o:=λb o ne e=>by rw[av ne];exact e
   calc Z _ N zs _ _ _ _ 0 (E _ _ _ _ _) (λb o e=>q6 b o (ao e a4) (oJ _ _ e)) a2 n1 n4 n5 (q6 _ _ n3 L) (q6 _ _ n5 X) (q6 _ _ n6 O) (by rw[List.append_nil];calc wg.aH t6) (by rw[ab,List.map_append];rfl)
  |skip u v kk ha hl E=>
   have yS:=ia (ws:=ws) (j:=0) ();have g:=ia (ws:=ws) (j:=1) ();have E:=E M s.ns s.row (ws.getD 0 0) (ws.getD 1 0);walk_at "jg";by_cases KU:ws.getD 0 0<ws.getD 1 0
   ·rw[if_pos KU]at E;left;rw[if_pos (decide_eq_true KU)];walk_at "jg";exact Z _ N zs _ _ _ _ kk E oJ a2 n1 n4 n5 L X O (by rw[List.append_nil];exact wg) (by rw[List.append_nil];exact R)
   ·rw[if_neg KU]at E;left;rw[if_neg λz=>KU (of_decide_eq_true z)];walk_at "jg";exact Z _ N zs _ _ _ _ 0 E oJ a2 n1 n4 n5 L X O (by rw[List.append_nil];exact wg) (by rw[List.append_nil];exact R)
 ·intro σ H1 pC;obtain⟨B,N,G,I,zs,z9,OM,l,s,rfl,sH,a1,a2,a3,a4,n1,n2,n3,n4,n5,n6,L,X,O,Di,R,IS,sy,yg,IT,Wu,Y⟩:=pC;rw[exs,List.drop_length] at Y;have Y:s=n0 M k a U ns row:=by rw[<-Y];cases l <;> rfl
  left;calc .inl ⟨_,aO.of L,λa g=>?_⟩;have i:=au.new (.tup (s.ns.map V.int)) g;left;calc .inl ⟨_,aO.of (i _ _ X),λk l=>?_⟩;have j:=au.new (.tup (s.row.map V.int)) l;left;calc⟨cH,λm o=>?_⟩;have g:=au.new (.tup [.ref a,.ref k]) o;left;calc⟨by show 3<=sizeLine;decide,λr l=>?_⟩;have k:=au.new (.tup [.ref m,.ref G,.ref I]) l;have a:=i.trans (j.trans (g.trans k));refine q _ _ (sH.trans a) ⟨_,_,G,I,zs,rfl,ab,?_,a _ _ O,?_,?_,a3,a4,n6⟩
  ·rw[<-Y];exact(df ab (nX (g _ _ (j _ _ ab))) (nX (g _ _ ab))).aH k.aP
  ·rw[<-Y];exact Di.aH a.aP
  ·rw[<-Y];calc a _ _ R
def jl(H:Hp)(x:V)(M:Int)(ns row:List Int)(d:List bG):Prop:=∃t a b c xs,x=.ref t/\H t=some (.tup [.int M,.ref a,.ref b,.ref c])/\H a=some (.lst (ns.map V.int))/\H b=some (.lst (row.map V.int))/\H c=some (.lst xs)/\fQ H 2 xs (d.map bG.dv)
theorem jl.cv{x:V}{M:Int}{a:List bG}(s:Cv H H')(h:jl H x M ns row a):jl H' x M ns row a:=by
 obtain⟨t,a,b,c,d,e,f,g,i,j,l⟩:=h;calc⟨t,a,b,c,d,e,s _ _ f (λk z=>by cases z),s _ _ g (λk z=>by cases z),s _ _ i (λk z=>by cases z),s _ _ j (λk z=>by cases z),l.aH s.aP⟩
def Ag(H:Hp)(a:List V)(gM:List MD):Prop:=a.length=gM.length/\∀(i:Nat) v d,a[i]?=some v->gM[i]?=some d->jl H v d.M d.ns d.row d.ds
theorem Ag.cv{c:List V}(s:Cv H H')(h:Ag H c gM):Ag H' c gM:=⟨h.1,λi v d a b=>(h.2 i v d a b).cv s⟩
def ToldN(H:Hp)(x:V)(gM:List MD)(ws:List (Int×Int×Str))(ls:List (Int×Int)):Prop:=∃t a b c d wv e,x=.ref t/\H t=some (.tup [.ref a,.ref b,.ref c])/\H a=some (.lst d)/\H b=some (.lst wv)/\H c=some (.lst e)/\Ag H d gM/\fQ H 1 wv (ws.map lX)/\fQ H 1 e (ls.map qy)
theorem ToldN.cv{x:V}(s:Cv H H')(h:ToldN H x gM ws ls):ToldN H' x gM ws ls:=by
 obtain⟨t,a,b,c,d,wv,f,e,g,i,j,l,m,n,o⟩:=h;calc⟨t,a,b,c,d,wv,f,e,s _ _ g (λk z=>by cases z),s _ _ i (λk z=>by cases z),s _ _ j (λk z=>by cases z),s _ _ l (λk z=>by cases z),m.cv s,n.aH s.aP,o.aH s.aP⟩
def Je(a:V)(ev:Addr)(o:Nat->Addr):List (Key×V):=[(.inr "net",a),(.inr "put",.ref (o 4)),(.inr "sender",.ref (o 5)),(.inr "worker",.ref (o 6)),(.inr "states",.ref (o 1)),(.inr "words",.ref (o 2)),(.inr "heard",.ref (o 3)),(.inr "events",.ref ev)]
section
variable {H:Hp}{d:Addr}{tn:V}{ev:Addr}{o:Nat->Addr}
theorem Dq(h:H d=some (.dK (Je tn ev o))):gX H d (.str "net") (some tn):=.inl ⟨_,.inr "net",.inl h,rfl,by kernel_rfl⟩
theorem yC(h:H d=some (.dK (Je tn ev o))):gX H d (.str "put") (some (.ref (o 4))):=.inl ⟨_,.inr "put",.inl h,rfl,by kernel_rfl⟩
theorem He(h:H d=some (.dK (Je tn ev o))):gX H d (.str "sender") (some (.ref (o 5))):=.inl ⟨_,.inr "sender",.inl h,rfl,by kernel_rfl⟩
theorem PB(h:H d=some (.dK (Je tn ev o))):gX H d (.str "worker") (some (.ref (o 6))):=.inl ⟨_,.inr "worker",.inl h,rfl,by kernel_rfl⟩
theorem yD(h:H d=some (.dK (Je tn ev o))):gX H d (.str "states") (some (.ref (o 1))):=.inl ⟨_,.inr "states",.inl h,rfl,by kernel_rfl⟩
theorem PD(h:H d=some (.dK (Je tn ev o))):gX H d (.str "words") (some (.ref (o 2))):=.inl ⟨_,.inr "words",.inl h,rfl,by kernel_rfl⟩
theorem Dr(h:H d=some (.dK (Je tn ev o))):gX H d (.str "heard") (some (.ref (o 3))):=.inl ⟨_,.inr "heard",.inl h,rfl,by kernel_rfl⟩
theorem KW(h:H d=some (.dK (Je tn ev o))):gX H d (.str "events") (some (.ref ev)):=.inl ⟨_,.inr "events",.inl h,rfl,by kernel_rfl⟩
end
def _root_.DD.RS.tv(r:RS):Nat->Nat->CO
 |0,_=>.l (r.picks.map pairD)
 |1,m=>.l ((r.mm m).dN.map qw)
 |2,m=>.l ((r.mm m).wp.map λw=>.lst (w.map .int))
 |3,m=>.l ((r.mm m).hr.map λw=>.lst (w.map .int))
 |4,w=>.l ((r.ww w).say.map .int)
 |5,w=>.l ((r.ww w).snd.map oH)
 |_,w=>.d (jO (r.ww w).dj) ((r.ww w).dj.countP Option.isSome)
theorem count_set{e:Int×Int}:∀{l:List (Option (Int×Int))}{k:Nat},l[k]?=some none->(l.set k (some e)).countP Option.isSome=l.countP Option.isSome+1
 | [],k,h=>by simp at h
 |a::r,0,h=>by simp at h;subst h;simp
 |a::r,k+1,h=>by
  have b:=count_set (e:=e) (l:=r) (k:=k) (by simpa using h);simp only[List.set_cons_succ,List.countP_cons];rw[b];lia
theorem Hf{l:List (Option (Int×Int))}{k:Nat}(h:k<l.length)(j:Int):jO (l.set k (some e)) j=if j=((k:Nat):Int) then some (pairD e) else jO l j:=by
 unfold jO;by_cases a:0<=j
 ·rw[if_pos a,if_pos a];by_cases z:j=((k:Nat):Int)
  ·subst z;rw[if_pos rfl,Int.toNat_natCast,List.getD_eq_getElem?_getD,List.getElem?_set];simp[h]
  ·rw[if_neg z,List.getD_eq_getElem?_getD,List.getElem?_set,if_neg (),<-List.getD_eq_getElem?_getD]
 ·rw[if_neg a,if_neg a,if_neg ()]
theorem Ds{l:List (Option (Int×Int))}:jO (l++[none])=jO l:=by
 funext j;unfold jO;split
 ·congr 1;rw[List.getD_eq_getElem?_getD,List.getD_eq_getElem?_getD,List.getElem?_append];split
  ·rfl
  ·next z=>
   rw[List.getElem?_eq_none (l:=l) ()]
   cases a:j.toNat-l.length with
   |zero=>rfl
   |succ n=>rfl
 ·rfl
structure cf(F:Addr->Prop)(H:Hp)(d:Addr)(tn:V)(nt:NT)(r:RS)(ad:Nat->Nat->Addr):Prop where
 dk:∃o,H d=some (.dK (Je tn (ad 0 0) o))/\¬F d/\¬FP nt.n ad d/\∀t,1<=t->t<=6->H (o t)=some (.lst (fT nt.n ad t))/\¬F (o t)/\¬FP nt.n ad (o t)
 cj:dH F H nt.n ad r.tv
 told:∃ls,ToldN (hE (λb=>F b\/FP nt.n ad b) H) tn nt.ms nt.ws ls
 ok:nt.Ok
section
variable {F:Addr->Prop}{H H':Hp}{d:Addr}{tn:V}{nt:NT}{r:RS}{ad:Nat->Nat->Addr}
theorem cf.keep(h:cf F H d tn nt r ad)(f:Fr F H H'):cf F H' d tn nt r ad:=by
 obtain⟨⟨o,g,e,i,c⟩,j,⟨ls,k⟩,l⟩:=h;calc⟨⟨o,f.at g e,e,i,λt a b=>⟨f.at (c t a b).1 (c t a b).2.1,(c t a b).2⟩⟩,j.keep f,⟨ls,k.cv (f.mono λb z=>.inl z).hE⟩,l⟩
theorem cf.same(h:cf F H d tn nt r ad)(s:au H H'):cf F H' d tn nt r ad:=h.keep s.fr
theorem cf.own{c:RS}(h:cf F H d tn nt r ad)(f:Fr (FP nt.n ad) H H')(b:dH F H' nt.n ad c.tv):cf F H' d tn nt c ad:=by
 obtain⟨⟨o,g,i,e,c⟩,l,⟨ls,j⟩,k⟩:=h;calc⟨⟨o,f.at g e,i,e,λt a b=>⟨f.at (c t a b).1 (c t a b).2.2,(c t a b).2⟩⟩,b,⟨ls,j.cv (f.mono λb z=>.inr z).hE⟩,k⟩
end
theorem Dt{l:List (Option (Int×Int))}{k:Nat}:(jO l ((k:Nat):Int)).isSome= !(l.getD k none).isNone:=by
 unfold jO;rw[if_pos (),Int.toNat_natCast]
 cases l.getD k none<;>rfl
theorem Du{H0 H:Hp}{a:Addr}{b:List (Key×V)}{g:Int->Option DV}{N:Nat}(e:H a=some (.dK b))(h:OR H0 (.d g N) (.dK b))(k:Int):∃o,gX H a (.int k) o/\o.isSome=(g k).isSome:=by
 calc bA _ (gX.k (k:=Sum.inl k) e) ?_;have:=h.2 k;revert this
 cases g k with
 |none=>intro h;rw[h];rfl
 |some d=>intro⟨v,h,_⟩;rw[h];rfl
abbrev k7:Stmt:=top 64
def Ah:Sp:=λvs H Q _=>∃(F:Addr->Prop) (d:Addr) (a:V) (nt:NT) (r:RS) (ad:Nat->Nat->Addr) (m:Nat),vs=[.ref d,.int m]/\cf F H d a nt r ad/\r.Ok nt/\r.picks.length<=400/\m<nt.ws.length/\∀l H',au H H'->H l=none->H' l=some (.lst ((r.oI m).map λk=>.int (k:Nat)))->Q (.ref l) H'
theorem yE(D:cS K mg "_law_lying" "_law_lying" k7 ["_law_run","_law_way"])(T:Tx K mg C CN CR F FD):Def P w K mg base "_law_lying" 1 ["_law_run","_law_way"] Ah:=by
 have sc:aC ["_law_run","_law_way"] ["_law_run","_law_way"] (ax k7):=by walk_at "s"
 symm;obtain⟨F,d,g,z,r,ad,m,rfl,j,k,B,b,q⟩:=h;have g:=hr.units;have z:=Wo g;calc⟨_,(ak (aD (cO (N':=["_law_k","_law_way","_law_run"]) (ix:=[none,some 1,some 0]) (cB rfl T.dD (af (aV aL rfl T.bT L' (af (aj g (aj g (aq 0) aB) (aq 1)) aa)) aa)) (λ_ _ _ _=>(aN (i:=0) (show(["_law_k","_law_way","_law_run"]:List Str).Nodup by decide +kernel) rfl Sort)) (λ_ _ _ _=>(iN (M7 (Cu z (aq 0) (dC (K:=K) rfl g (dC (K:=K) rfl g (aq 2) aB) (aq 1)))))) (λ_ _ _ _=>(aq 0))))),?_⟩;nofun;obtain⟨o,v,z,B,g⟩:=j.dk;have z:=(g 4 ∅ ∅).1;have G:=(g 6 ∅ ∅).1;obtain⟨B,I,L⟩:=j.cj.lst (t:=4) (i:=m) b rfl;obtain⟨g,M,N⟩:=j.cj.Yh (t:=6) (i:=m) b rfl;ac_rfl;have g:B.length=(r.ww m).say.length:=by simpa using L.1
 have j:=k.bs m b;left;calc bF ?_;left;calc bA _ (yC v) ?_;left;calc bD z (aU b) ?_;calc bA _ (.inl ⟨_,aO.of I,rfl⟩) ?_;left;rw[g];calc gC () () (λD p=>?_);rw[Int.toNat_natCast];refine aX (J:=yY 0 (r.ww m).say.length) (n:=(r.ww m).say.length) (λi ys H'=>au H H'/\ys=((List.range i).filter λk=>((r.ww m).dj.getD k none).isNone).map λk=>V.int (k:Nat)) (E' (small ())) ⟨au.new _ p,rfl⟩ (λi ys H' u _=>u) (λys H' _=>K' _) ?_ ?_
 ·intro i ys H' u l y O x H2 R;nofun;obtain⟨a,rfl⟩:=O;obtain⟨rfl,rfl⟩:=R;ac_rfl;walk_at "xf";left;refine bA _ (PB (a _ _ v)) ?_;left;refine bD (a _ _ G) (aU b) ?_;rw[Int.zero_add];obtain⟨g,j,k⟩:=Du (a _ _ M) N ((i:Nat):Int);refine⟨ad 6 m,g,rfl,j,?_⟩;rw[k,Dt,Bool.not_not];left;by_cases z:((r.ww m).dj.getD i none).isNone=true
  ·rw[z]
   try rw[if_pos rfl]
   calc bR l y u (E' (small ())) ⟨λc o e=>by rw[av (ao e p)];calc a _ _ e,?_⟩;rw[fu,if_pos z,List.map_append];rfl
  ·rw[Bool.not_eq_true] at z;rw[z]
   try rw[if_neg ∅]
   exact⟨_,l,(),a,by rw[fu,if_neg (by rw[z];decide),List.append_nil]⟩
 ·rintro ys H' l y ⟨a,rfl⟩;calc q _ _ a p l
def iT(nt:NT)(r:RS)(w:Nat):List Nat:=if (nt.w w).2.2="row" then(r.oI w).take 1 else r.oI w
def kd(nt:NT)(r:RS)(n:Nat):List (Nat×Nat):=(List.range n).flatMap λw=>(iT nt r w).map λk=>(w,k)
theorem sV{nt:NT}{n:Nat}:kd nt r (n+1)=kd nt r n++(iT nt r n).map λk=>(n,k):=by
 unfold kd;rw[List.range_succ,List.flatMap_append];simp
theorem fQ.app{n:Nat}{vs us:List V}{c e:List DV}(h:fQ H n vs c)(g:fQ H n us e):fQ H n (vs++us) (c++e):=by
 calc⟨by simp[h.1,g.1],λi v d a b=>?_⟩;by_cases c:i<vs.length
 ·rw[List.getElem?_append_left c]at a;rw[List.getElem?_append_left (by rw[<-h.1];calc c)]at b;exact h.2 i _ _ a b
 ·rw[List.getElem?_append_right ()]at a;rw[List.getElem?_append_right (by rw[<-h.1];lia),<-h.1]at b;calc g.2 _ _ _ a b
theorem qX{w:Nat}:(r.oI w).length<=(r.ww w).say.length:=by
 unfold RS.oI;calc Y' (List.length_filter_le _ _) nofun
theorem ve{nt:NT}{w:Nat}:(iT nt r w).length<=(r.ww w).say.length:=by
 unfold iT;split
 ·rw[List.length_take];have:=qX (r:=r) (w:=w);lia
 ·calc qX
theorem vf{nt:NT}{r:RS}{B:Nat}:∀n,(∀w,w<n->(r.ww w).say.length<=B)->(kd nt r n).length<=n*B
 |0,_=>by simp[kd]
 |n+1,h=>by
  rw[sV,List.length_append,List.length_map];have a:=vf (nt:=nt) n (λw a=>h w ());have a:=h n ();have a:=ve (nt:=nt) (r:=r) (w:=n);rw[Nat.succ_mul];lia
def Z4(p:Nat×Nat):DV:=pairD (((p.1:Nat):Int),((p.2:Nat):Int))
theorem Dv{r:RS}{w k:Nat}(h:k∈(r.oI w).take 1):∀j,j<k->((r.ww w).dj.getD j none).isNone=false:=by
 unfold RS.oI at h;generalize b:(List.range (r.ww w).say.length).filter (λk=>((r.ww w).dj.getD k none).isNone)=l at h
 cases l with
 |nil=>simp at h
 |cons a t=>
  simp at h;subst h;intro j g;have f:(List.range (r.ww w).say.length).Pairwise (· < ·):=List.pairwise_lt_range;have c:=f.filter (λk=>((r.ww w).dj.getD k none).isNone);rw[b]at c;have f:k∈(List.range (r.ww w).say.length).filter (λk=>((r.ww w).dj.getD k none).isNone):=by rw[b];simp
  rw[List.mem_filter,List.mem_range]at f
  cases z:((r.ww w).dj.getD j none).isNone with
  |false=>rfl
  |true=>
   exfalso;have d:j∈(List.range (r.ww w).say.length).filter (λk=>((r.ww w).dj.getD k none).isNone):=by
    rw[List.mem_filter,List.mem_range];exact⟨(),z⟩
   rw[b]at d;rcases List.mem_cons.mp d with e|e
   ·lia
   ·have:=(List.pairwise_cons.mp c).1 j e;lia
theorem Hg{nt:NT}(h:r.Ok nt){w k:Nat}(b:(w,k)∈kd nt r nt.ws.length):r.Kw nt w k:=by
 unfold kd at b;rw[List.mem_flatMap]at b;obtain⟨j,f,b⟩:=b;rw[List.mem_range]at f;rw[List.mem_map]at b;obtain⟨j,a,e⟩:=b
 cases e;have g:k∈r.oI w:=by
  unfold iT at a;split at a
  ·exact List.mem_of_mem_take a
  ·exact a
 have c:k<(r.ww w).say.length/\((r.ww w).dj.getD k none).isNone=true:=by
  unfold RS.oI at g;rw[List.mem_filter,List.mem_range]at g;exact g
 have b:=h.lk w f;refine⟨f,?_,λi b=>?_⟩
 ·rw[aQ (d:=none) ()]
  cases z:(r.ww w).dj.getD k none with
  |none=>rfl
  |some e=>rw[z]at c;simp at c
 ·unfold iT at a;rw[if_pos i] at a;have:=Dv a (k - 1) ();rw[aQ (d:=none) (show k - 1 < (r.ww w).dj.length by lia)]
  cases z:(r.ww w).dj.getD (k-1) none with
  |none=>rw[z]at this;simp at this
  |some e=>calc⟨e,rfl⟩
theorem PH{xs:List V}:eD xs none (some 1)=xs.take 1:=by
 unfold eD;have b:HT.ei xs.length 0 none=0:=rfl;rw[b]
 cases xs with
 |nil=>simp
 |cons a r=>
  have b:HT.ei (a::r).length (a::r).length (some 1)=1:=by
   unfold HT.ei;simp
  rw[b];simp
abbrev mX:Stmt:=top 65
def Hh:Sp:=λvs H Q _=>∃(F:Addr->Prop) (d:Addr) (a:V) (nt:NT) (r:RS) (ad:Nat->Nat->Addr),vs=[.ref d]/\cf F H d a nt r ad/\r.Ok nt/\r.picks.length<=400/\∀l ys H',au H H'->H l=none->H' l=some (.lst ys)->fQ H' 1 ys ((kd nt r nt.ws.length).map Z4)->Q (.ref l) H'
theorem Ai(D:cS K mg "_law_free" "_law_free" mX ["_law_run"])(T:Tx K mg C CN CR F FD)(fw:Def P w K mg base "_law_lying" 1 ["_law_run","_law_way"] Ah):Def P w K mg base "_law_free" 2 ["_law_run"] Hh:=by
 have sc:aC ["_law_run","_law_free_here","_law_way","_law_told","_law_numbers"] ["_law_run"] (ax mX):=by walk_at "s"
 symm;obtain⟨F,d,tn,a,r,ad,rfl,G,Y,kb,q⟩:=h;have O:=hr.units;refine⟨_,(ag (aZ (i:=1) sc.nd rfl Sort (bL aa))
  (ag (cQ PassesOwn.never rfl (eX rfl T.cu (af (aj O (aj O (aq 0) aB) ai) aa)) (e9 (i:=2) (j:=3) rfl sc.nd rfl rfl Sort Sort)
  (ag (aZ (i:=4) sc.nd rfl Sort (aK fw hr (af (aq 0) (af (aq 2) aa))))
  (ag (aS (az (ba O) (aj O (aq 3) ai) aB (aE _)) (ak (aZ (i:=4) sc.nd rfl Sort (rJ (aq 4) qJ (iL ai)))) aG)
  (ak (aZ (i:=1) sc.nd rfl Sort (bc cT (aq 1) (cO (N':=["_law_number","_law_way"]) (ix:=[none,some 2]) (bS (pv 4)) (λ_ _ _ _=>(aN (i:=0) (show(["_law_number","_law_way"]:List Str).Nodup by decide +kernel) rfl Sort)) kG (λ_ _ _ _=>(bH (af (aq 1) (af (aq 0) aa)))))))))))
  (ak (aD (aq 1))))),?_⟩
 nofun;obtain⟨o,hd,nF,nP,ho⟩:=G.dk;obtain⟨ls,t,am,aw,al,mv,wv,lv,rfl,h1,h2,h3,h4,h5,R,h7⟩:=G.told;have g1:=(dG h1 (λk z=>by cases z)).2;have g3:=(dG h3 (λk z=>by cases z)).2
 replace R:=R.aH cU.aP
 ac_rfl;have Z:wv.length=a.ws.length:=by simpa using R.1
 have pE:wv.length<=10:=by rw[Z];exact G.ok.tR
 have hB:∀w,w<a.ws.length->(r.ww w).say.length<=9620:=λw hw=>by have:=Y.bs w hw;lia
 left;calc⟨U' _,λS IU=>?_⟩;have U:=au.new (.lst []) IU;have WR:upd H S (.lst []) S=some (.lst []):=ab;generalize QK:upd H S (.lst [])=G0 at *;left;refine Dq (U _ _ hd) |> λh=>⟨_,h,?_⟩
 refine cZ (U _ _ g1) (ay (j:=1) rfl) ⟨true,wv,Sq.l (U _ _ g3),gv (xs:=wv) (λi σ H'=>∃z2 z3 z4 v ys,σ=[some (V.ref d),some (V.ref v),z2,z3,z4]/\au H H'/\H v=none/\H' v=some (.lst ys)/\fQ H' 1 ys ((kd a r i).map Z4)) ?_ ?_ ?_ ?_⟩
 ·exact⟨_,_,_,S,[],rfl,U,IU,WR,show fQ _ 1 [] [] from fQ.nil⟩
 ·intro i σ H' mE;obtain⟨_,_,_,_,_,_,b,_⟩:=mE;exact Sq.l (b _ _ g3)
 ·intro i x σ H' tt hx ph wU;nofun;obtain⟨z2,z3,z4,v,ys,rfl,b,Z6,Hi,I⟩:=ph;have IM:i < a.ws.length:=by rw[<-Z];exact(List.getElem?_eq_some_iff.mp hx).1
  have s2:=au.new (.tup [.int (i:Nat),x]) wU;have Dw:upd H' tt (.tup [.int (i:Nat),x]) tt=some (.tup [.int (i:Nat),x]):=ab;have yh:=(R.2 i x (lX (a.w i)) hx (by rw[List.getElem?_map,show a.ws[i]?=some (a.w i) from aQ IM];rfl)).aH (b.trans s2).aP;generalize wL:upd H' tt (.tup [.int (i:Nat),x])=G2 at *;obtain⟨ta,u1,u2,u3,kk,rfl,zU,y1,y2,y3⟩:=cm yh;obtain rfl:=y1.cP;obtain rfl:=y2.cP;obtain rfl:=y3.cV;ac_rfl;calc tE (bQ.of Dw) ?_;left;calc⟨F,d,_,a,r,ad,i,rfl,(G.same b).same s2,Y,kb,IM,λln H3 s3 fln p=>?_⟩;have pJ:au H' H3:=s2.trans s3;have hly:=qX (r:=r) (w:=i);have hfw:=ve (nt:=a) (r:=r) (w:=i);have hBi:=hB i IM;left;calc cZ (s3 _ _ zU) (ay (j:=2) rfl) ?_;left;rename_i N1 hN1 T1 U1 DR hU1;have g:∀L y,au H' L->L y=some (.lst ((iT a r i).map λk=>V.int ((k:Nat):Int)))->N1 [some (V.ref d),some (V.ref v),some (V.int ((i:Nat):Int)),some (V.ref ta),some (V.ref y)] L:=by
   intro L y TB p;clear DR hU1;left;calc bF ?_;left;calc .inl ⟨⟨_,aO.of p⟩,λD hD=>?_⟩;refine aX (J:=tw K y) (n:=(iT a r i).length) (λj u H'=>au L H'/\fQ H' 1 u (((iT a r i).take j).map λk=>Z4 (i,k))) (E' (small ())) ⟨au.new _ hD,show fQ _ 1 [] [] from fQ.nil⟩ ?_ ?_ ?_ ?_
   ·rintro j u H' M ⟨m,_⟩;exact⟨_,_,aO.of (m _ _ p),by rw[List.getElem?_map,dw M];rfl⟩
   ·rintro u H' ⟨m,_⟩;exact⟨_,aO.of (m _ _ p),nofun⟩
   ·intro j u H' M PK lP yu xx H4 Ad;nofun;obtain⟨m,N⟩:=yu;obtain⟨rfl,hy⟩:=Ad;have ex:=hy _ (aO.of (m _ _ p));rw[List.getElem?_map,dw M] at ex;obtain rfl:=Option.some.inj ex;ac_rfl;walk_at "xf";left
    try rw[if_pos trivial]
    calc⟨cH,λt2 nK=>?_⟩;have s6:=au.new (.tup [.int ((i:Nat):Int),.int (((iT a r i)[j]:Nat):Int)]) nK;have wj:=s6 _ _ PK;calc bR wj lP M (E' (small ())) ⟨λc o e=>by rw[av (ao e hD)];calc s6 _ _ (m _ _ e),?_⟩;have tu:cg (upd H4 t2 (.tup [.int ((i:Nat):Int),.int (((iT a r i)[j]:Nat):Int)])) (upd (upd H4 t2 (.tup [.int ((i:Nat):Int),.int (((iT a r i)[j]:Nat):Int)])) D (.lst (u++[.ref t2]))):=(cg.refl _).upd λzs e=>by rw[wj]at e;cases e
    rw[List.take_succ,dw M,List.map_append];exact((N.aH s6.aP).snoc (df (n:=0) ab (.int _) (.int _))).aH tu
   rintro u H6 PK lP ⟨m,N⟩;rw[List.take_length]at N;have W:au H' H6:=TB.trans m;left;refine .inl ⟨_,_,W _ _ Hi,PK,?_,λlf' US=>?_⟩
   ·have a1:=I.1;have a2:=N.1;have a3:=vf (nt:=a) (r:=r) (B:=9620) i (λw hw=>hB w ());simp at a1 a2;rw[sizeLine_eq];have a5:i<=9:=by lia
    have a4:i*9620<=9*9620:=Nat.mul_le_mul_right _ a5;lia
   have s7:=au.new (.lst (ys++u)) US;left;calc Yp _ _ _ lf' _ ⟨rfl,rfl,rfl,rfl⟩ (b.trans (W.trans s7)) ((b.trans W).free US) ab ?_;rw[sV,List.map_append];calc((I.aH W.aP).app ?_).aH s7.aP;rw[List.map_map];exact N
  by_cases X:(a.w i).2.2="row"
  ·rw[if_pos (by simp[X])];left;calc .inl ⟨_,p,λy wI=>?_⟩;rw[PH];have s4:=au.new (.lst (((r.oI i).map λk=>V.int ((k:Nat):Int)).take 1)) wI;exact g _ y (pJ.trans s4) (by unfold iT;rw[ab,if_pos X,List.map_take])
  ·rw[if_neg (by simp[X])];calc L2.bX (by assumption) ?_;exact g _ ln pJ (by unfold iT;rw[if_neg X];calc p)
 ·intro σ H' Dp;obtain⟨z2,z3,z4,v,ys,rfl,b,Z6,Hi,I⟩:=Dp;rw[Z]at I;left;calc q _ _ _ b Z6 Hi I
def KY(H H':Hp):Prop:=∀b o,H b=some o->(∀k,o≠.own k)->H' b=some o
theorem KY.aP(h:KY H H'):cg H H':=λb a e=>h b _ e (λk z=>by cases z)
theorem _root_.L2.au.Jg(s:au H H'):KY H H':=λb o e _=>s b o e
theorem jl.Jg{x:V}{M:Int}{a:List bG}(s:KY H H')(h:jl H x M ns row a):jl H' x M ns row a:=by
 obtain⟨t,a,b,c,d,e,f,g,i,j,l⟩:=h;calc⟨t,a,b,c,d,e,s _ _ f (λk z=>by cases z),s _ _ g (λk z=>by cases z),s _ _ i (λk z=>by cases z),s _ _ j (λk z=>by cases z),l.aH s.aP⟩
theorem Ag.Jg{c:List V}(s:KY H H')(h:Ag H c gM):Ag H' c gM:=⟨h.1,λi v d a b=>(h.2 i v d a b).Jg s⟩
theorem Ag.nil:Ag H [] []:=⟨rfl,λi v d a=>by simp at a⟩
theorem Ag.snoc{H:Hp}{c:List V}{gM:List MD}{v:V}{d:MD}(h:Ag H c gM)(g:jl H v d.M d.ns d.row d.ds):Ag H (c++[v]) (gM++[d]):=by
 calc⟨by simp[h.1],λi y e a b=>?_⟩;by_cases f:i<c.length
 ·rw[List.getElem?_append_left f]at a;rw[List.getElem?_append_left (by rw[<-h.1];calc f)]at b;exact h.2 i _ _ a b
 ·rw[List.getElem?_append_right ()] at a;rw[List.getElem?_append_right (by rw[<-h.1];lia),<-h.1] at b
  cases j:i-c.length with
  |zero=>rw[j]at a b;cases a;cases b;calc g
  |succ k=>rw[j]at a;simp at a
def mask(a b c:Addr)(H:Hp):Hp:=λx=>if x=a\/x=b\/x=c then some (.own 0) else H x
theorem oA{c x:Addr}(d:x≠a)(e:x≠b)(f:x≠c):mask a b c H x=H x:=by unfold mask;rw[if_neg (by simp[d,e,f])]
theorem vg{c x:Addr}{o:HO}(h:mask a b c H x=some o)(d:∀k,o≠.own k):x≠a/\x≠b/\x≠c/\H x=some o:=by
 unfold mask at h;split at h
 ·cases h;exact absurd rfl (d 0)
 ·rename_i hn;simp only[not_or]at hn;calc⟨hn.1,hn.2.1,hn.2.2,h⟩
theorem Hk{c:Addr}:KY (mask a b c H) H:=λx o e n=>(vg e n).2.2.2
theorem yF{c:Addr}(h:∀x o,x≠a->x≠b->x≠c->H x=some o->H' x=some o):KY (mask a b c H) (mask a b c H'):=λx o e n=>by
 obtain⟨d,f,g,i⟩:=vg e n;rw[oA d f g];calc h x o d f g i
theorem Dx{c t d f g:Addr}{xs:List V}{M:Int}{n:List bG}(p:H t=some (.tup [.int M,.ref d,.ref f,.ref g]))(q:H d=some (.lst (ns.map V.int)))(r:H f=some (.lst (row.map V.int)))(s:H g=some (.lst xs))(u:fQ H 2 xs (n.map bG.dv))
  (h:∃ys,H a=some (.lst ys)) (i:∃ys,H b=some (.lst ys)) (j:∃ys,H c=some (.lst ys)) (k:d≠a/\d≠b/\d≠c) (l:f≠a/\f≠b/\f≠c) (m:g≠a/\g≠b/\g≠c):jl (mask a b c H) (.ref t) M ns row n:=by
 obtain⟨n,h⟩:=h;obtain⟨n,i⟩:=i;obtain⟨n,j⟩:=j;have o:cg H (mask a b c H):=λx ys e=>by
  rw[oA (λz=>by rw[z,h]at e;cases e) (λz=>by rw[z,i]at e;cases e) (λz=>by rw[z,j]at e;cases e)];exact e
 calc⟨t,d,f,g,xs,rfl,o _ _ p,by rw[oA k.1 k.2.1 k.2.2];calc q,by rw[oA l.1 l.2.1 l.2.2];calc r,by rw[oA m.1 m.2.1 m.2.2];calc s,u.aH o⟩
structure BR(gM:List MD)(ws:List (Int×Int×Str))(ls:List (Int×Int)):Prop where
 m1:1<=gM.length
 m5:gM.length<=5
 EW:ws.length<=10
 UT:ls.length<=20
 mg:∀d∈gM,d.good
 wo:∀w∈ws,uU gM.length w
 lo:∀l∈ls,uV ws.length l
theorem BR.nt(h:BR gM ws ls):(NT.mk gM ws).Ok:=⟨h.m5,h.m1,h.EW,h.mg,h.wo⟩
abbrev pR:Stmt:=top 60
def BS(K:W.Frag):Sp:=λvs H Q _=>∃(a:Addr) (ns:List Int),vs=[.ref a]/\aO K H a (ns.map V.int)/\ns.length<=63/\∀t b c d e wv f gM ws ls H',au H H'->H' t=some (.tup [.ref b,.ref c,.ref d])->H' b=some (.lst e)->H' c=some (.lst wv)->H' d=some (.lst f)->Ag H' e gM->fQ H' 1 wv (ws.map lX)->fQ H' 1 f (ls.map qy)->BR gM ws ls->Q (.ref t) H'
theorem Dy(D:cS K mg "_law_net" "_law_net" pR ["_law_script"])(T:Tx K mg C CN CR F FD)(x:Def P w K mg base "_law_at" 1 ["_law_script","_law_k"] (F8 K))(v:Def P w K mg base "_law_digit" 1 ["_law_pot_here","_law_many"] gy)(jm:Def P w K mg base "_law_machine" 4 ["_law_pot_here"] yA)(M:Def P w K mg base "_law_pot" 1 ["_law_cell"] zJ):Def P w K mg base "_law_net" 5 ["_law_script"] (BS K):=by
 have sc:aC ["_law_script","_law_many","_law_machines","_law_pot_here","_law_ways","_law_k","_law_letters","_law_way"] ["_law_script"] (ax pR):=by walk_at "s"
 symm;obtain⟨a,ns,rfl,hS,WU,q⟩:=h;have hu:=hr.units;refine⟨_,(ag (aZ (i:=1) sc.nd rfl Sort (bc cT ai (bc eO (aK x hr (af (aq 0) (af ai aa))) ai)))
  (ag (eV (i:=2) sc.nd rfl Sort (N':=["_law_k","_law_script"]) (ix:=[none,some 0]) (cB rfl T.dD (af (aq 1) aa)) (λ_ _ _ _=>(aN (i:=0) (show(["_law_k","_law_script"]:List Str).Nodup by decide +kernel) rfl Sort)) kG (λ_ _ _ _=>(aK jm hr (af (aK M hr (af (aK x hr (af (aq 1) (af (bc cT ai (aq 0)) aa))) aa)) aa))))
  (ag (aZ (i:=3) sc.nd rfl Sort (aK M hr (af (aK x hr (af (aq 0) (af ai aa))) aa)))
  (ag (aZ (i:=4) sc.nd rfl Sort (bL aa))
  (ag (cQ PassesOwn.never rfl (cB rfl T.dD (af (aK v hr (af (aq 3) (af ai aa))) aa)) (aN (i:=5) sc.nd rfl Sort)
  (ak (bJ (de lS oF oG bU (aq 4) (af (bH (af (aK v hr (af (aq 3) (af (aq 1) aa))) (af (aK v hr (af (aq 3) (af (aq 1) aa))) (af (aj hu (bL (af aB (af aB aa))) (aK v hr (af (aq 3) (af ai aa)))) aa)))) aa)))))
  (ag (aZ (i:=3) sc.nd rfl Sort (aK M hr (af (aK x hr (af (aq 0) (af ai aa))) aa)))
  (ag (aZ (i:=6) sc.nd rfl Sort (bL aa))
  (ag (cQ PassesOwn.never rfl (cB rfl T.dD (af (aK v hr (af (aq 3) (af ai aa))) aa)) (aN (i:=5) sc.nd rfl Sort)
  (ak (aS (az (eQ hu) (aq 4) (bL aa) (aE _)) (ag (aZ (i:=7) sc.nd rfl Sort (aK v hr (af (aq 3) (af (aV aL rfl T.bT L' (af (aq 4) aa)) aa))))
  (ak (bJ (de lS oF oG bU (aq 6) (af (bH (af (aq 7) (af (aK v hr (af (aq 3) (af (aj hu (bL (af ai (af (bc qL ai ai) aa))) (aK v hr (af (aq 3) (af ai aa)))) aa))) aa))) aa))))) aG)))
  (ak (aD (bH (af (aq 2) (af (aq 4) (af (aq 6) aa)))))))))))))),?_⟩
 left;calc⟨a,ns,_,rfl,hS,(),λg=>⟨(by decide:(0:Int)<5),?_⟩⟩;have v:=aaD g (b:=5) ∅;have v:=aau g (b:=5) ∅;left;calc bF ?_;left;calc gC () () (λD hD=>?_);refine aX (J:=yY 0 (1+g%5).toNat) (n:=(1+g%5).toNat) (λi ys H'=>au H H'/\∃gM,gM.length=i/\Ag (mask D D D H') ys gM/\∀d∈gM,d.good) (E' (aA ())) ⟨au.new _ hD,[],rfl,Ag.nil,λd hd=>by simp at hd⟩ (λi ys H' hi _=>hi) (λys H' _=>K' _) ?_ ?_
 ·intro i ys H1 hi bx hl gQ x H2 gR;nofun;obtain⟨Y,gM,lQ,hM,Z7⟩:=gQ;obtain⟨rfl,rfl⟩:=gR;ac_rfl;walk_at "xf";left;rw[if_pos trivial];refine⟨a,ns,_,rfl,Y.seq hS,(),λv=>⟨v,rfl,λp Z O ql=>⟨p,rfl,⟨_,ab,ql⟩,λt v T ld xs M mns row ds x st h1 h2 h3 h4 h5 f1 f2 f3 hg=>?_⟩⟩⟩;have q3:∀b o,H2 b=some o->x b=some o:=λb o e=>st.rest b o ((au.new _ O) _ _ e) (ao e O);have T:=q3 _ _ bx;have p1:=(au.new (.lst (Z.map V.int)) O) _ _ bx;have v:∀{b:Addr},upd H2 p (.lst (Z.map V.int)) b=none->b≠D:=λf=>Ne.symm (ao p1 f);refine bR T hl hi (E' (aA ())) ⟨λb o e=>by rw[av (ao e hD)];exact q3 _ _ (Y _ _ e),gM++[⟨M,mns,row,ds⟩],by simp[lQ],?_,λd hd=>?_⟩
  ·have c4:KY (mask D D D H2) (mask D D D (upd x D (.lst (ys++[.ref t])))):=yF λb o M b2 b3 e=>by rw[av M];exact q3 _ _ e
   have c5:KY (mask D D D x) (mask D D D (upd x D (.lst (ys++[.ref t])))):=yF λb o M b2 b3 e=>by rw[av M];exact e
   exact(hM.Jg c4).snoc (jl.Jg c5 (Dx h1 h2 h3 h4 h5 ⟨_,T⟩ ⟨_,T⟩ ⟨_,T⟩ ⟨v f1,v f1,v f1⟩ ⟨v f2,v f2,v f2⟩ ⟨v f3,v f3,v f3⟩))
  ·rcases List.mem_append.mp hd with hd | hd
   ·exact Z7 d hd
   ·simp only[List.mem_singleton]at hd;subst hd;exact hg
 intro mv H1 Rb hl v;nofun;obtain⟨Y,gM,lQ,hM0,Z7⟩:=v;have hM:=hM0.Jg Hk;generalize hDa:D=am at *;ac_rfl;left;calc⟨a,ns,_,rfl,Y.seq hS,(),λv=>⟨v,rfl,λp Z O ql=>?_⟩⟩;have s2:=au.new (.lst (Z.map V.int)) O;have zm:eN (upd H1 p (.lst (Z.map V.int))) p:=⟨_,ab,ql⟩
 generalize wL:upd H1 p (.lst (Z.map V.int))=G2 at *;left;calc⟨U' _,λB v=>?_⟩;have s3:=au.new (.lst []) v;have Tr:B≠p:=Step.ne zm v;have WW:=zm.same s3;have WX:upd G2 B (.lst []) B=some (.lst []):=ab;have faw:H1 B=none:=s2.free v;have pJ:=s2.trans s3;generalize DN:upd G2 B (.lst [])=G3 at *;left;calc kD p 11 rfl WW ∅ ⋯ (λx M T Z v=>?_);refine⟨x,rfl,(),(),fU (n:=x.toNat) (λi σ H'=>(∃R,σ=[some (.ref a),some (.int (1+g%5)),some (.ref am),some (.ref p),some (.ref B),R,none,none])/\eN H' p/\au H1 H'/\∃(wv:List V) (ws:List (Int×Int×Str)),H' B=some (.lst wv)/\fQ H' 1 wv (ws.map lX)/\ws.length=i/\∀w∈ws,uU (1+g%5) w) ?_ ?_ ?_⟩
 ·exact⟨⟨_,rfl⟩,v.fC,v.over pJ O,[],[],v.rest _ _ WX Tr,fQ.nil,rfl,λw r=>by simp at r⟩
 ·intro i σ H5 hi ph;obtain⟨⟨R,rfl⟩,PN,s5,wv,ws,PQ,hW,jJ,Kn⟩:=ph;have Hl:wv.length=i:=by have:=hW.1;simp at this;lia
  left;calc⟨.inl ⟨rfl,_,aO.of PQ⟩,?_⟩;have l5:(1+g%5).natAbs.log2<9000:=by
   have:1+g%5=1\/1+g%5=2\/1+g%5=3\/1+g%5=4\/1+g%5=5:=by lia
   rcases this with e|e|e|e|e<;>(rw[e];decide +kernel)
  refine dig PN () l5 λc x h60 h61 v=>?_;left;refine dig v.fC () l5 λS x h70 h71 M=>?_;have x:=v.trans M;left;refine⟨cH,λl hl=>?_⟩;have Jb:=x.new (o:=.lst [.str "row",.str "heap"]) hl;have ZV:l≠p:=Step.ne x.fC hl;refine dig Jb.fC ∅ ⋯ λk U ZW ZX Jc=>?_;have Z9:=Jb.trans Jc;obtain⟨u,ew3,hw3⟩:∃u:Str,iJ [V.str "row",V.str "heap"] k=some (.str u)/\(u="row"\/u="heap"):=by
   have:k=0\/k=1:=by lia
   rcases this with rfl|rfl
   ·exact⟨_,ay (j:=0) rfl,.inl rfl⟩
   ·exact⟨_,ay (j:=1) rfl,.inr rfl⟩
  left;calc bD (Jc.rest _ _ ab ZV) ew3 ?_;left;calc⟨by show 3<=sizeLine;decide,λt ht=>?_⟩;have I:=Z9.new (o:=.tup [.int c,.int S,.str u]) ht;have UW:=I.rest _ _ PQ Tr;have eT:upd U t (.tup [.int c,.int S,.str u]) t=some (.tup [.int c,.int S,.str u]):=ab;have W:=I.fC;have tA:=I.aP PN;have sA:au H1 (upd U t (.tup [.int c,.int S,.str u])):=I.over s5 O;generalize hGA:upd U t (.tup [.int c,.int S,.str u])=GA at *;left;have tB:cg GA (upd GA B (.lst (wv++[.ref t]))):=(cg.refl _).upd λys e=>by rw[UW]at e;cases e
  refine⟨_,UW,aA (),⟨_,rfl⟩,W.upd (Ne.symm Tr),λb o e=>by rw[av (ao e faw)];calc sA _ _ e,wv++[.ref t],ws++[(c,S,u)],ab,?_,by simp[jJ],λw r=>?_⟩
  ·have h6:=((hW.aH tA).snoc (mx (n:=0) eT (.int c) (.int S) (.str u))).aH tB;simpa[lX] using h6
  ·rcases List.mem_append.mp r with r | r
   ·exact Kn w r
   ·simp only[List.mem_singleton]at r;subst r;exact⟨h60,h61,h70,h71,hw3⟩
 intro σ H5 pC;obtain⟨⟨R,rfl⟩,PN,s5,wv,ws,PQ,hW,jJ,Kn⟩:=pC;have Hl:wv.length=ws.length:=by have:=hW.1;simpa using this
 have Gh:=s5 _ _ Rb;have hM5:=hM.Jg s5.Jg;left;calc⟨a,ns,_,rfl,(Y.trans s5).seq hS,(),λv=>⟨v,rfl,λy X Fy u=>?_⟩⟩;have s6:=au.new (.lst (X.map V.int)) Fy;have WZ:eN (upd H5 y (.lst (X.map V.int))) y:=⟨_,ab,u⟩
 generalize Km:upd H5 y (.lst (X.map V.int))=G6 at *;left;calc⟨U' _,λG u=>?_⟩;have s7:=au.new (.lst []) u;have OI:G≠y:=Step.ne WZ u;have hp7:=WZ.same s7;have eal:upd G6 G (.lst []) G=some (.lst []):=ab;have fal:H5 G=none:=s6.free u;have QH:=s6.trans s7;generalize Wx:upd G6 G (.lst [])=G7 at *;left;calc kD y 13 rfl hp7 ∅ ⋯ (λu M v x Jb=>?_);refine⟨u,rfl,(),(),fU (n:=u.toNat) (λi σ H'=>(∃R z7,σ=[some (.ref a),some (.int (1+g%5)),some (.ref am),some (.ref y),some (.ref B),R,some (.ref G),z7])/\eN H' y/\au H5 H'/\∃(L:List V) (ls:List (Int×Int)),H' G=some (.lst L)/\fQ H' 1 L (ls.map qy)/\ls.length<=i/\∀l∈ls,uV ws.length l) ?_ ?_ ?_⟩
 ·exact⟨⟨_,_,rfl⟩,Jb.fC,Jb.over QH Fy,[],[],Jb.rest _ _ eal OI,fQ.nil,K' _,λw r=>by simp at r⟩
 ·intro i σ U hi se;obtain⟨⟨R,z7,rfl⟩,hp9,N,L,ls,IV,hL,qS,qK⟩:=se;have i:L.length=ls.length:=by have:=hL.1;simpa using this
  have i:=N _ _ PQ;left;calc⟨U' _,λl0 u=>?_⟩;have m:=au.new (.lst []) u;have Hm:=m _ _ i;have WR:upd U l0 (.lst []) l0=some (.lst []):=ab;have Hn:=m _ _ IV;have PR:=hp9.same m;have Dz:=N.trans m;have UX:=hL.aH m.aP;generalize TN:upd U l0 (.lst [])=G10 at *;left
  cases ws with
  |nil=>
   have OP:wv=[]:=by simpa using Hl
   subst OP;calc .inl ⟨.inr ⟨_,_,_,_,rfl,rfl,.inr ⟨aO.of Hm,aO.of WR⟩,rfl,λj u v hu=>by simp at hu⟩,?_⟩;left
   try rw[if_neg Bool.false_ne_true]
   calc⟨⟨_,_,rfl,rfl⟩,PR,Dz,L,ls,Hn,UX,(),qK⟩
  |cons i u=>
   have i:0<(wv.length:Int):=by rw[Hl];simp
   have u:wv.length<=10:=by lia
   calc .inr ⟨⟨_,_,by simp[Hl],.inl ⟨aO.of Hm,aO.of WR⟩⟩,?_⟩;left
   try rw[if_pos trivial]
   calc bA _ (.inl ⟨_,aO.of Hm,rfl⟩) ?_;have v:((wv.length:Nat):Int).natAbs.log2<9000:=yz i ();calc dig PR i v λc QI aae aaf u=>?_;left;have i:=u.rest _ _ Hn OI;calc⟨.inl ⟨rfl,_,aO.of i⟩,?_⟩;left;calc⟨zK,cH,λW0 v=>?_⟩;have i:(10:Int)^Int.toNat 60=1000000000000000000000000000000000000000000000000000000000000:=by decide +kernel
   rw[i];have PV:=u.new (o:=.lst [.int 3,.int 1000000000000000000000000000000000000000000000000000000000000]) v;have aag:W0≠y:=Step.ne u.fC v;have aah:upd QI W0 (.lst [.int 3,.int 1000000000000000000000000000000000000000000000000000000000000]) W0=some (.lst [.int 3,.int 1000000000000000000000000000000000000000000000000000000000000]):=ab;generalize aai:upd QI W0 (.lst [.int 3,.int 1000000000000000000000000000000000000000000000000000000000000])=G14 at *;calc dig PV.fC ∅ ⋯ λk i ZW ZX Af=>?_;obtain⟨y,ey,hy0,i,Dm⟩:∃y:Int,iJ [V.int 3,V.int 1000000000000000000000000000000000000000000000000000000000000] k=some (.int y)/\0<y/\y<=1000000000000000000000000000000000000000000000000000000000000/\y.natAbs.log2<9000:=by
    have:k=0\/k=1:=by lia
    rcases this with rfl|rfl
    ·exact⟨_,ay (j:=0) rfl,∅,∅,⋯⟩
    ·exact⟨_,ay (j:=1) rfl,∅,∅,⋯⟩
   calc bD (Af.rest _ _ aah aag) ey ?_;calc dig (PV.trans Af).fC hy0 Dm λz U3 i k j=>?_;have i:=(PV.trans Af).trans j;left;calc⟨cH,λt ht=>?_⟩;have I:=i.new (o:=.tup [.int c,.int z]) ht;have U4:=I.rest _ _ Hn OI;have eT:upd U3 t (.tup [.int c,.int z]) t=some (.tup [.int c,.int z]):=ab;have W:=I.fC;have tA:=I.aP PR;have sA:au H5 (upd U3 t (.tup [.int c,.int z])):=I.over Dz Fy;generalize hGA:upd U3 t (.tup [.int c,.int z])=GA at *;left;have tB:cg GA (upd GA G (.lst (L++[.ref t]))):=(cg.refl _).upd λys e=>by rw[U4]at e;cases e
   refine⟨_,U4,aA (),⟨_,_,rfl,rfl⟩,W.upd (Ne.symm OI),λb o e=>by rw[av (ao e fal)];calc sA _ _ e,L++[.ref t],ls++[(c,z)],ab,?_,by simp;lia,λl hl=>?_⟩
   ·have h6:=((UX.aH tA).snoc (df (n:=0) eT (.int c) (.int z))).aH tB;simpa[qy] using h6
   ·rcases List.mem_append.mp hl with hl | hl
    ·exact qK l hl
    ·simp only[List.mem_singleton]at hl;subst hl;exact⟨aae,by have:=aaf;rw[Hl]at this;calc this,by show 1-1000000000000000000000000000000000000000000000000000000000000<=z;lia,by show z<1000000000000000000000000000000000000000000000000000000000000;lia⟩
 intro σ U yu;obtain⟨⟨R,z7,rfl⟩,hp9,N,L,ls,IV,hL,qS,qK⟩:=yu;left;calc⟨by show 3<=sizeLine;decide,λt ht=>?_⟩;have m:=au.new (.tup [.ref am,.ref B,.ref G]) ht;calc q t am B G mv wv L gM ws ls _ (Y.trans (s5.trans (N.trans m))) ab (m _ _ (N _ _ Gh)) (m _ _ (N _ _ PQ)) (m _ _ IV) (hM5.Jg (N.trans m).Jg) (hW.aH (N.trans m).aP) (hL.aH m.aP) ⟨(),(),(),(),Z7,λw r=>?_,qK⟩;have e:((gM.length:Nat):Int)=1+g%5:=by lia
 rw[e];calc Kn w r
theorem sW{C:Addr}{m:Addr}{M:Int}{a:List bG}(t:cg H H')(i:∀b c d e,H b=some (.ins c d e)->H' b=some (.ins c d e))(h:jR C H m M ns row a):jR C H' m M ns row a:=by
 obtain⟨a,st,dd,f,g,j⟩:=h;calc⟨a,st,dd,i _ _ _ _ f,g.aH t,j.aH t⟩
abbrev il:Stmt:=top 68
inductive yG(C CN:Addr)(vs:List V)(H:Hp)(Q:VK):Prop
 |mk (x:V) (gM:List MD) (ws:List (Int×Int×Str)) (ls:List (Int×Int)) (h0:vs=[x]) (h1:ToldN H x gM ws ls) (h2:BR gM ws ls) (h3:∀n ms wv lv H',au H H'->vY C CN H' n ⟨gM,ws⟩->mG CN H' n ms wv lv->fQ H' 1 lv (ls.map qy)->Q (.ref n) H'):yG C CN vs H Q
def vh(C CN:Addr):Sp:=λvs H Q _=>yG C CN vs H Q
theorem sX(D:cS K mg "_law_net_made" "_law_net_made" il ["_law_net_here"])(T:Tx K mg C CN CR F FD)(pS:xC P w K mg base "Machine" C 7 ["self","modulus","numbers","row","deeds"] (Bq C))(Ho:xC P w K mg base "Net" CN 7 ["self","machines","ways","letters"] (xY C CN)):Def P w K mg base "_law_net_made" 9 ["_law_net_here"] (vh C CN):=by
 have sc:aC ["_law_net_here","_law_machines"] ["_law_net_here"] (ax il):=by walk_at "s"
 symm;obtain⟨x,gM,ws,ls,rfl,hT,g,q⟩:=h;have B:=hr.units;refine⟨_,(ag (eV (i:=1) sc.nd rfl Sort (N':=["_law_one"]) (ix:=[none]) (bS (aj B (aq 0) ai)) (λ_ _ _ _=>(aN (i:=0) (show(["_law_one"]:List Str).Nodup by decide +kernel) rfl Sort)) kG (λ_ _ _ _=>(FJ pS hr (af (dC (K:=K) rfl B (aq 0) ai) (af (cX (kC (K:=K) rfl) rfl T.dP wF (af (dC (K:=K) rfl B (aq 0) ai) aa)) (af (cX (kC (K:=K) rfl) rfl T.dP wF (af (dC (K:=K) rfl B (aq 0) ai) aa)) (af (cX (kC (K:=K) rfl) rfl T.dP wF (af (dC (K:=K) rfl B (aq 0) ai) aa)) aa)))))))
  (ak (aD (FJ Ho hr (af (aq 1) (af (cX cI rfl T.dP wF (af (aj B (aq 0) ai) aa)) (af (cX cI rfl T.dP wF (af (aj B (aq 0) ai) aa)) aa))))))),?_⟩
 obtain⟨t,am,aw,al,mv,wv,y,rfl,ht,Rb,PQ,IV,hM,hW,hL⟩:=id hT;have t:mv.length<=5:=by have:=hM.1;have:=g.m5;lia
 right;calc bF ?_;right;calc cZ ht (ay (j:=0) rfl) ?_;right;calc .inl ⟨⟨_,aO.of Rb⟩,λD hD=>?_⟩;refine aX (J:=tw K am) (n:=mv.length) (λi ys H'=>∃ms:List Addr,ys=ms.map V.ref/\ms.length=i/\(∀(j:Nat) m d,ms[j]?=some m->gM[j]?=some d->QB C H' m d)/\au H H') (E' (aA ())) ⟨[],rfl,rfl,λj m d e=>by simp at e,au.new _ hD⟩ ?_ ?_ ?_ ?_
 ·intro i ys H' lW t;obtain⟨_,_,_,_,p⟩:=t;exact⟨_,mv[i],aO.of (p _ _ Rb),dw lW⟩
 ·intro ys H' t;obtain⟨_,_,_,_,p⟩:=t;exact⟨_,aO.of (p _ _ Rb),K' _⟩
 ·intro i ys H' lW bx hl mE x U ph;nofun;obtain⟨ms,rfl,T8,yU,p⟩:=mE;obtain⟨rfl,t⟩:=ph;have ex:=t _ (aO.of (p _ _ Rb));have hE:i < gM.length:=by have:=hM.1;lia
  have u:=g.mg _ (W' hE);obtain⟨tt,ln,lr,ld,W,rfl,R,h2,h3,h4,h5⟩:=(hM.2 i x gM[i] ex (dw hE)).cv p.cv;generalize hmd:gM[i]=k at *;ac_rfl;walk_at "xf";right;rw[if_pos trivial];refine cD _ _ (.inr (bQ.of R)) (ay (j:=0) rfl) ?_;refine cD _ _ (.inr (bQ.of R)) (ay (j:=1) rfl) ?_;right;refine bA _ (.inl (aO.of h2)) (λr Bn=>?_);have t:=au.new (.lst (k.ns.map V.int)) Bn;refine cD _ _ (.inr (bQ.of (t _ _ R))) (ay (j:=2) rfl) ?_;right;refine bA _ (.inl (aO.of (t _ _ h3))) (λv wI=>?_);have B:=au.new (.lst (k.row.map V.int)) wI;refine cD _ _ (.inr (bQ.of (B _ _ (t _ _ R)))) (ay (j:=3) rfl) ?_;right;refine bA _ (.inl (aO.of (B _ _ (t _ _ h4)))) (λl3 T=>?_);have G:=au.new (.lst W) T;have X:=t.trans (B.trans G);have l:=G _ _ (B _ _ (ab (H:=U) (a:=r) (o:=.lst (k.ns.map V.int))));have I:=G _ _ (ab (H:=upd U r (.lst (k.ns.map V.int))) (a:=v) (o:=.lst (k.row.map V.int)));have e3:upd (upd (upd U r (.lst (k.ns.map V.int))) v (.lst (k.row.map V.int))) l3 (.lst W) l3=some (.lst W):=ab;generalize Km:upd (upd (upd U r (.lst (k.ns.map V.int))) v (.lst (k.row.map V.int))) l3 (.lst W)=G6 at *;intro m L Y Mr aak;have N:au G6 (upd (upd G6 L (.own m)) m (.ins C L [])):=λb o e=>by rw[av (ao e Y),av (ao e Mr)];exact e
  have t:=X.trans N;calc⟨m,L,k.M,r,v,l3,k.ns,k.row,W,k.ds,2,rfl,ab,u.m2,u.Yg,.inl (N _ _ l),.inl (N _ _ I),.inl (N _ _ e3),u.l1,u.l4,u.r12,u.bn,u.br,(h5.aH t.aP).dl,∅,u.Wm,u.ok,λZ BJ B=>⟨rfl,?_⟩⟩;have O:au U Z:=λb o e=>B b o (ao (X _ _ e) Y) (t _ _ e);have wj:=O _ _ bx;have t7:cg Z (upd Z D (.lst (ms.map V.ref++[.ref m]))):=(cg.refl _).upd λk e=>by rw[wj]at e;cases e
  have i7:∀b c d e,Z b=some (.ins c d e)->upd Z D (.lst (ms.map V.ref++[.ref m])) b=some (.ins c d e):=λb c d e h=>by
   rw[av (λz=>by subst z;rw[wj]at h;cases h)];exact h
  refine bR wj hl lW (E' (aA ())) ⟨ms++[m],nofun,by simp[T8],λj k d l I=>?_,λb o e=>?_⟩
  ·by_cases hj:j < ms.length
   ·rw[List.getElem?_append_left hj]at l;exact sW t7 i7 ((yU j k d l I).same O)
   ·rw[List.getElem?_append_right ()] at l
    cases Jf:j-ms.length with
    |succ k=>rw[Jf]at l;simp at l
    |zero=>
     rw[Jf]at l;nofun;obtain rfl:=Option.some.inj l;have Qx:j=i:=by lia
     subst Qx;rw[dw hE,hmd]at I;obtain rfl:=Option.some.inj I;ac_rfl;exact sW t7 i7 BJ
  ·rw[av (ao e hD)];exact O _ _ (p _ _ e)
 intro ys H4 bx hl pC;obtain⟨ms,rfl,T8,yU,p⟩:=pC;have lQ:ms.length=gM.length:=by have:=hM.1;lia
 have i:=p _ _ ht;right;calc cD _ _ (.inr (bQ.of i)) (ay (j:=1) rfl) ?_;right;calc bA _ (.inl (aO.of (p _ _ PQ))) (λr Bn=>?_);have G:=au.new (.lst wv) Bn;calc cD _ _ (.inr (bQ.of (G _ _ i))) (ay (j:=2) rfl) ?_;right;calc bA _ (.inl (aO.of (G _ _ (p _ _ IV)))) (λv wI=>?_);have N:=au.new (.lst y) wI;have l:=N _ _ (ab (H:=H4) (a:=r) (o:=.lst wv));have I:upd (upd H4 r (.lst wv)) v (.lst y) v=some (.lst y):=ab;have wM:=G.trans N;generalize Wx:upd (upd H4 r (.lst wv)) v (.lst y)=G7 at *;have k:wv.length=ws.length:=by have:=hW.1;simpa using this
 have i:y.length=ls.length:=by have:=hL.1;simpa using this
 intro x L Y Mr aak;have S:au G7 (upd (upd G7 L (.own x)) x (.ins CN L [])):=λb o e=>by rw[av (ao e Y),av (ao e Mr)];exact e
 have i:=p.trans (wM.trans S);have t:=g.m1;have t:=g.m5;have t:=g.EW;have t:=g.UT;refine⟨x,L,D,r,v,ms,wv,y,ws,ls,rfl,ab,S _ _ (wM _ _ bx),S _ _ l,S _ _ I,(),(),(),(),λm hm=>?_,hW.aH i.aP,hL.aH i.aP,λw r=>by rw[lQ];calc g.wo w r,λl hl=>by rw[k];calc g.lo l hl,λH9 hn9 hk9=>⟨rfl,?_⟩⟩
 ·nofun;obtain⟨j,hj,rfl⟩:=List.getElem_of_mem hm;obtain⟨i,k,l,R,_,_⟩:=(yU j _ gM[j] (dw hj) (dw ())).same (wM.trans S);ac_rfl;exact⟨_,_,R⟩
 ·have k:au H4 H9:=λb o e=>hk9 b o (ao (wM _ _ e) Y) (S _ _ (wM _ _ e));have i:=p.trans k;calc q x ms wv y H9 i ⟨⟨ms,wv,y,hn9,lQ,λj m d a b=>(yU j m d a b).same k,hW.aH i.aP⟩,g.nt⟩ hn9 (hL.aH i.aP)
def oB(n:NT)(r:RS)(w k:Nat):List Int:=match (r.ww w).snd.getD k none with
 |none=>(r.mm (n.goal w)).hr.bq (List.replicate n.ms.length 0)
 |some (s,c)=>List.zipWith max ((r.mm (n.goal w)).hr.bq (List.replicate n.ms.length 0)) ((r.mm s.toNat).hr.getD (c-1).toNat [])
theorem K0{n:NT}{w k:Nat}:n.gb r w k=(oB n r w k).set (n.goal w) (n.ev r w).2:=rfl
theorem K1{l:List Int}{m:Nat}{c:Int}{n:Nat}(a:l.length=n)(b:m<n):((List.range n).map λj=>V.int (l.getD j 0+(if decide (((j:Nat):Int)=((m:Nat):Int))=true then 1 else 0))).set m (.int c)=(l.set m c).map V.int:=by
 apply List.ext_getElem (by simp[a]);intro j b d;have e:j<n:=by simpa using b
 simp only[List.getElem_map,List.getElem_set,List.getElem_range];by_cases z:m=j
 ·rw[if_pos z,if_pos z]
 ·rw[if_neg z,if_neg z,if_neg (by simp;lia),getD_at (dw ()),Int.add_zero]
theorem PY{l:List (Option (Int×Int))}{k:Nat}{a:List (Key×V)}{v:V}(h:OR H0 (.d (jO l) (l.countP Option.isSome)) (.dK a))(b:l[k]?=some none)(c:HD H0 4 v (pairD e)):OR H0 (.d (jO (l.set k (some e))) ((l.set k (some e)).countP Option.isSome)) (.dK (putK a (Sum.inl ((k:Nat):Int)) v)):=by
 have f:k<l.length:=(List.getElem?_eq_some_iff.mp b).1;have g:fW a (Sum.inl ((k:Nat):Int))=none:=by
  have:=h.2 ((k:Nat):Int);have a:jO l ((k:Nat):Int)=none:=by
   unfold jO;rw[if_pos (),Int.toNat_natCast,getD_at b];rfl
  rw[a]at this;exact this
 refine⟨?_,λj=>?_⟩
 ·rw[EO v g,count_set b,List.length_append,List.length_singleton];have:=h.1;lia
 ·rw[Hf f,EN];by_cases z:j=((k:Nat):Int)
  ·rw[if_pos z,if_pos (by rw[z])];exact⟨v,rfl,c⟩
  ·rw[if_neg z,if_neg (λq=>z (Sum.inl.inj q))];calc h.2 j
theorem K2{r:RS}{n:NT}{w k:Nat}:∀t i,i<n.n t->setC (setC (setC (setC (setC r.tv 3 (n.goal w) (.l (((r.mm (n.goal w)).hr.map λu=>DV.lst (u.map .int))++[.lst ((n.gb r w k).map .int)]))) 6 w (.d (jO ((r.ww w).dj.set k (some (n.ev r w)))) (((r.ww w).dj.set k (some (n.ev r w))).countP Option.isSome))) 1 (n.goal w) (.l ((r.mm (n.goal w)).dN.map qw++[qw ((n.work r w k).ns,(n.work r w k).row)]))) 2 (n.goal w) (.l (((r.mm (n.goal w)).wp.map λu=>DV.lst (u.map .int))++[.lst (((r.mm (n.goal w)).wp.bq []++(n.work r w k).words).map .int)]))) 0 0 (.l (r.picks.map pairD++[pairD ((w:Int),(k:Int))])) t i=(r.step n w k).tv t i:=by
 intro t i a;unfold setC
 match t,a with
 |0,a=>
  have:i=0:=by have:i<1:=a;lia
  subst this;simp[RS.tv,RS.step]
 |1,_=>by_cases e:i=n.goal w<;>simp[RS.tv,RS.step,e]
 |2,_=>by_cases e:i=n.goal w<;>simp[RS.tv,RS.step,e]
 |3,_=>by_cases e:i=n.goal w<;>simp[RS.tv,RS.step,e]
 |4,_=>by_cases e:i=w<;>simp[RS.tv,RS.step,e]
 |5,_=>by_cases e:i=w<;>simp[RS.tv,RS.step,e]
 |6,_=>by_cases e:i=w<;>simp[RS.tv,RS.step,e]
 |(t+7),a=>calc absurd a (Nat.not_lt_zero i)
theorem Hq{r:RS}{n:NT}{w:Nat}{x:Int}{s:Option (Int×Int)}:∀t i,i<n.n t->setC (setC r.tv 4 w (.l ((r.ww w).say.map .int++[.int x]))) 5 w (.l ((r.ww w).snd.map oH++[oH s])) t i=(r.put w x s).tv t i:=by
 intro t i a;unfold setC
 match t,a with
 |0,_=>simp[RS.tv,RS.put]
 |1,_=>simp[RS.tv,RS.put]
 |2,_=>simp[RS.tv,RS.put]
 |3,_=>simp[RS.tv,RS.put]
 |4,_=>by_cases e:i=w<;>simp[RS.tv,RS.put,e]
 |5,_=>by_cases e:i=w<;>simp[RS.tv,RS.put,e]
 |6,_=>by_cases e:i=w<;>simp[RS.tv,RS.put,e,Ds]
 |(t+7),a=>calc absurd a (Nat.not_lt_zero i)
theorem oC{H:Hp}{n:Nat}{v:V}{ns:List Int}(h:HD H n v (.lst (ns.map .int))):∃a,v=.ref a/\H a=some (.lst (ns.map V.int)):=by
 cases h with
 | @lst n a b _ e l i=>calc⟨a,rfl,by rw[e,show b=ns.map V.int from eE.iZ ⟨l,i⟩]⟩
theorem Hr{x y:HO}(h:a≠b):upd (upd H a x) b y=upd (upd H b y) a x:=by
 funext c;by_cases d:c=a
 ·subst d;rw[av h,ab,ab]
 ·by_cases e:c=b
  ·subst e;rw[ab,av d,ab]
  ·rw[av e,av d,av d,av e]
theorem BU{K:W.Frag}{j:Addr}{nt:NT}{g:Nat}{e:Nat}(u:e<2)(f:H j=some (.lst wv))(o:fQ H 1 wv (nt.ws.map lX))(O:wv.length<=10)(v:σ[3]?=some (some (.int ((g:Nat):Int))))(p:H D=none)(q:∀H1,au H H1->H1 D=some (.lst ((t9 nt e g).map λi=>V.int ((i:Nat):Int)))->Q (.ref D) H1):kB [none,none,some 3] (JY true K j) (Eg K 2 (lZ (fS 0) (lZ (fS 1) Ef))) (tT (Ep (OB K) (Ep (Oa K) (tV 1) (tC (V.int ((e:Nat):Int)))) (tV 2))) (tV 0) σ H Q D:=by
 have x:wv.length=nt.ws.length:=by simpa using o.1
 have z:tM [none,none,some 3] σ=[none,none,some (.int ((g:Nat):Int))]:=by simp[tM,v]
 refine aX (n:=wv.length) (λi ys H'=>au H H'/\ys=((List.range i).filter λj=>decide (sC nt e j=((g:Nat):Int))).map λj=>V.int (j:Nat)) (E' (aA ())) ⟨au.new _ p,rfl⟩ ?_ ?_ ?_ ?_
 ·rintro i ys H' h ⟨a,_⟩;exact⟨wv,wv[i],Sq.l (a _ _ f),dw h⟩
 ·rintro ys H' ⟨a,_⟩;exact⟨wv,Sq.l (a _ _ f),rfl⟩
 ·intro i ys H' h d r A P R B;rw[z];obtain⟨a,rfl⟩:=A;obtain⟨k,C,rfl,y⟩:=B;obtain⟨b,E,rfl⟩:=y wv (Sq.l (a _ _ f));have j:i < nt.ws.length:=by lia
  have m:=au.new (.tup [.int (i:Nat),b]) C;have F:=(o.2 i b (lX (nt.w i)) E (by rw[List.getElem?_map,show nt.ws[i]?=some (nt.w i) from aQ j];rfl)).aH (a.trans m).aP;have I:upd H' k (.tup [.int (i:Nat),b]) k=some (.tup [.int (i:Nat),b]):=ab;have s:=m _ _ d;have t:=a.trans m;generalize S:upd H' k (.tup [.int (i:Nat),b])=G at *;obtain⟨T,U,X,Y,Z,rfl,J,L,M,N⟩:=cm F;obtain rfl:=L.cP;obtain rfl:=M.cP;obtain rfl:=N.cV;calc tE (bQ.of I) ⟨Ext.set (Ext.set (Ext.refl _) rfl) rfl,?_⟩;left;refine cZ J (show iJ _ ((e:Nat):Int)=some (.int (sC nt e i)) from ay (by match e,u with
   |0,_=>rfl
   | 1,_=>rfl)) ?_
  left;by_cases z:sC nt e i=((g:Nat):Int)
  ·rw[if_pos (decide_eq_true z)];calc bR s r h (E' (aA ())) ⟨λc o e=>by rw[av (ao e p)];calc t _ _ e,?_⟩;rw[fu,if_pos (decide_eq_true z),List.map_append];rfl
  ·rw[if_neg λh=>z (of_decide_eq_true h)];exact⟨_,s,(),t,by rw[fu,if_neg λh=>z (of_decide_eq_true h),List.append_nil]⟩
 ·rintro ys H1 d r ⟨a,rfl⟩;rw[x]at d;calc q H1 a d
abbrev mY:Stmt:=top 66
inductive Ht(vs:List V)(H:Hp)(Q:VK):Prop
 |mk (F:Addr->Prop) (d:Addr) (tn:V) (nt:NT) (r:RS) (ad:Nat->Nat->Addr) (wy k:Nat) (h0:vs=[.ref d,.int (wy:Nat),.int (k:Nat)]) (h1:cf F H d tn nt r ad) (h2:FS F H) (h3:r.Ok nt) (h4:r.Kw nt wy k) (h5:r.picks.length<=400) (h6:∀t H',Fr (FP nt.n ad) H H'->cf F H' d tn nt (r.pick nt wy k) ad->HT H' 1 t (pairD (nt.ev r wy))->Q t H'):Ht vs H Q
def wk:Sp:=λvs H Q _=>Ht vs H Q
theorem Aj(D:cS K mg "_law_pick" "_law_pick" mY ["_law_run","_law_way","_law_number"])(T:Tx K mg C CN CR F FD)(jY:Def P w K mg base "_law_worked" 2 ["_law_machine_here","_law_state","_law_way","_law_said"] (BQ K)):Def P w K mg base "_law_pick" 3 ["_law_run","_law_way","_law_number"] wk:=by
 have sc:aC ["_law_run","_law_way","_law_number","_law_m","_law_place","_law_outs","_law_event","_law_state","_law_sent","_law_words","_law_row","_law_source","_law_c","_law_j","_law_said"] ["_law_run","_law_way","_law_number"] (ax mY):=by walk_at "s"
 symm;obtain⟨F,d,tn,m,r,ad,B,k,rfl,M,lR,O,hc,kb,q⟩:=h;have G:=hr.units;have CU:=Wo G;refine⟨_,(ag (aZ (i:=3) sc.nd rfl Sort (aj G (aj G (aj G (aj G (aq 0) aB) ai) (aq 1)) ai))
  (ag (aZ (i:=4) sc.nd rfl Sort (de lS PySem.F.slot_list_index PySem.F.type_list_index uP (cO (N':=["_law_k","_law_told","_law_m"]) (ix:=[none,none,some 3]) (eX rfl T.cu (af (aj G (aj G (aq 0) aB) ai) aa)) (λ_ _ _ _=>(iP (K:=K) rfl (i:=0) (j:=1) rfl (show(["_law_k","_law_told","_law_m"]:List Str).Nodup by decide +kernel) rfl rfl Sort Sort)) (λ_ _ _ _=>(iN (az (oe (K:=K) rfl G) (dC (K:=K) rfl G (aq 1) ai) (aq 2) (aE _)))) (λ_ _ _ _=>(aq 0))) (af (aq 1) aa)))
  (ag (eV (i:=5) sc.nd rfl Sort (N':=["_law_k","_law_told","_law_m"]) (ix:=[none,none,some 3]) (eX rfl T.cu (af (aj G (aj G (aq 0) aB) ai) aa)) (λ_ _ _ _=>(iP (K:=K) rfl (i:=0) (j:=1) rfl (show(["_law_k","_law_told","_law_m"]:List Str).Nodup by decide +kernel) rfl rfl Sort Sort)) (λ_ _ _ _=>(iN (az (oe (K:=K) rfl G) (dC (K:=K) rfl G (aq 1) ai) (aq 2) (aE _)))) (λ_ _ _ _=>(aq 0)))
  (ag (aZ (i:=6) sc.nd rfl Sort (bH (af (aq 3) (af (aV aL rfl T.bT L' (af (aj G (aj G (aq 0) aB) (aq 3)) aa)) aa))))
  (ag (eY (aK jY hr (af (aj G (aj G (aj G (aq 0) aB) ai) (aq 3)) (af (aj G (aj G (aj G (aq 0) aB) (aq 3)) (kr gW ai)) (af (aq 4) (af (aj G (aj G (aj G (aq 0) aB) (aq 1)) (aq 2)) aa))))) (xK (i:=7) (j:=8) (l:=9) rfl sc.nd rfl rfl rfl Sort Sort Sort))
  (ag (aZ (i:=10) sc.nd rfl Sort (aj G (bc cT (bL (af (bc rP (bL (af ai aa)) (aV aL rfl T.bT L' (af (aj G (aj G (aq 0) aB) ai) aa))) aa)) (aj G (aj G (aq 0) aB) (aq 3))) (kr gW ai)))
  (ag (aS (az oT (aj G (aj G (aj G (aq 0) aB) (aq 1)) (aq 2)) gV (aE _)) (ag (eY (aj G (aj G (aj G (aq 0) aB) (aq 1)) (aq 2)) (e9 (i:=11) (j:=12) rfl sc.nd rfl rfl Sort Sort))
  (ak (Ei (i:=10) sc.nd rfl Sort (cO (N':=["_law_one","_law_other"]) (ix:=[none,none]) (zx rfl T.Bg (af (aq 10) (af (aj G (aj G (aj G (aq 0) aB) (aq 11)) (bc eB (aq 12) ai)) aa))) (λ_ _ _ _=>(iP (K:=K) rfl (i:=0) (j:=1) rfl (show(["_law_one","_law_other"]:List Str).Nodup by decide +kernel) rfl rfl Sort Sort)) kG (λ_ _ _ _=>(aV (uL rfl) rfl T.F2 PyProof.Rows.boot_max (af (aq 0) (af (aq 1) aa))))) rfl))) aG)
  (ag (bJ (de lS oF oG bU (aj G (aj G (aq 0) aB) (aq 3)) (af (cO (N':=["_law_k","_law_row","_law_m"]) (ix:=[none,some 10,some 3]) (cB rfl T.dD (af (aV aL rfl T.bT L' (af (aq 10) aa)) aa)) (λ_ _ _ _=>(aN (i:=0) (show(["_law_k","_law_row","_law_m"]:List Str).Nodup by decide +kernel) rfl Sort)) kG (λ_ _ _ _=>(bc cT (dC (K:=K) rfl G (aq 1) (aq 0)) (cX Cj rfl T.F1 PyProof.Rows.boot_int (af (jN (oe (K:=K) rfl G) (aq 0) (aq 2) (aE _)) aa))))) aa)))
  (ag (eY (aj G (aq 6) ai) (iW (aj G (aj G (aj G (aq 0) aB) (aq 3)) (kr gW ai)) (aq 3) dX))
  (ag (lL CU (aj G (aj G (aq 0) aB) (aq 1)) (aq 2) (aq 6) rfl)
  (ag (bJ (de lS oF oG bU (aj G (aj G (aq 0) aB) (aq 3)) (af (aq 7) aa)))
  (ag (bJ (de lS oF oG bU (aj G (aj G (aq 0) aB) (aq 3)) (af (bc cT (aj G (aj G (aj G (aq 0) aB) (aq 3)) (kr gW ai)) (aq 9)) aa)))
  (ag (bJ (de lS oF oG bU (aj G (aq 0) aB) (af (bH (af (aq 1) (af (aq 2) aa))) aa)))
  (ag (cQ PassesOwn.never rfl (bS (pv 8)) (e9 (i:=13) (j:=14) rfl sc.nd rfl rfl Sort Sort)
  (ak (aS (az gB (aq 13) (aV aL rfl T.bT L' (af (aq 5) aa)) (aE _)) (ag (bJ (de lS oF oG bU (aj G (aj G (aq 0) aB) (aj G (aq 5) (aq 13))) (af (aq 14) aa)))
  (ak (bJ (de lS oF oG bU (aj G (aj G (aq 0) aB) (aj G (aq 5) (aq 13))) (af (aq 6) aa))))) aG)))
  (ak (aD (aq 6))))))))))))))))),?_⟩
 nofun;obtain⟨o,N,nF,nP,ho⟩:=M.dk;obtain⟨ls,tt,am,aw,al,mv,wv,lv,rfl,h1,h2,h3,h4,h5,h6,h7⟩:=M.told;have g1:=(dG h1 (λk z=>by cases z)).2;have g2:=(dG h2 (λk z=>by cases z)).2;have g3:=(dG h3 (λk z=>by cases z)).2
 replace h5:=h5.cv cU
 replace h6:=h6.aH cU.aP
 have W:=M.ok;have L:=hc.lt;have I:=W.gP L;have jJ:wv.length=m.ws.length:=by simpa using h6.1
 have lQ:mv.length=m.ms.length:=h5.1;have pE:wv.length<=10:=by rw[jJ];exact W.tR
 have Gh:m.ms.length<=5:=W.Kb;obtain⟨wk1,Wv,wk3,Y3⟩:=qN W O L k;ac_rfl;have yk:k<(r.ww B).say.length:=by rw[O.lk B L];exact(List.getElem?_eq_some_iff.mp hc.lies).1
 left;calc bA _ (Dq N) ?_;left;calc cZ g1 (ay (j:=1) rfl) ?_;have TK:m.ws[B]?=some (m.w B):=aQ L;have afR:B<wv.length:=by lia
 have yh:=h6.2 B wv[B] (lX (m.w B)) nofun (by rw[List.getElem?_map,TK];rfl);nofun;obtain⟨ta,u1,u2,u3,kk,eta,zU,q1,q2,q3⟩:=cm yh;obtain rfl:=q1.cP;obtain rfl:=q2.cP;obtain rfl:=q3.cV;ac_rfl;calc bD g3 (ay (j:=B) (v:=.ref ta) (by rw[<-eta];simp)) ?_;calc cZ zU (show iJ _ 1=some (.int ((m.goal B:Nat):Int)) from by rw[<-qT W L];calc ay (j:=1) rfl) ?_;left;calc bF ?_;left;calc bA _ (Dq ((au.refl H) _ _ N)) ?_;left;calc cZ ((au.refl H) _ _ g1) (ay (j:=1) rfl) ?_;left;calc zF true wv (Sq.l ((au.refl H) _ _ g3)) (λD1 DQ=>?_);calc BU ∅ g3 h6 pE rfl DQ (λH1 s1x H1e=>?_);have PZ:au H H1:=s1x;left;calc⟨.inl ⟨rfl,_,aO.of H1e⟩,?_⟩;obtain⟨Y4,Y5⟩:=sM (GI W L);refine⟨D1,_,m.place B,B,rfl,rfl,by rw[H1e,va],?_,?_,?_⟩
 ·rw[List.getElem?_map,<-oq W L,Y4];rfl
 ·intro i y hi hy;rw[List.getElem?_map]at hy;obtain⟨z,hz,rfl⟩:=Option.map_eq_some_iff.mp hy;have:=Y5 i z (by rw[oq W L];calc hi) hz;lia
 left;calc bF ?_;left;calc bA _ (Dq (PZ _ _ N)) ?_;left;calc cZ (PZ _ _ g1) (ay (j:=1) rfl) ?_;left;calc zF true wv (Sq.l (PZ _ _ g3)) (λD2 wa=>?_);calc BU ∅ (PZ _ _ g3) (h6.aH PZ.aP) pE rfl wa (λH2 s2x H2e=>?_);have W3:au H H2:=PZ.trans s2x;left;calc bA _ (yD (W3 _ _ N)) ?_;have o1:=ho 1 ∅ ∅;have o2:=ho 2 ∅ ∅;have o3:=ho 3 ∅ ∅;have o4:=ho 4 ∅ ∅;have o5:=ho 5 ∅ ∅;have o6:=ho 6 ∅ ∅;have i0:0<m.n 0:=by show 0<1;decide
 obtain⟨v1,e1,d1⟩:=M.cj.lst (t:=1) (i:=m.goal B) I rfl;have z1:v1.length=(r.mm (m.goal B)).dN.length:=by simpa using d1.1
 have UP:=O.vR I;left;calc bD (W3 _ _ o1.1) (aU I) ?_;calc gw _ (.inl ⟨_,aO.of (W3 _ _ e1),rfl⟩) cH (λev Ww=>?_);rw[z1];have L0:=au.new (.tup [.int ((m.goal B:Nat):Int),.int (((r.mm (m.goal B)).dN.length:Nat):Int)]) Ww;have R:=W3.trans L0;have aan:HT (upd H2 ev (.tup [.int ((m.goal B:Nat):Int),.int (((r.mm (m.goal B)).dN.length:Nat):Int)])) 1 (.ref ev) (pairD (m.ev r B)):=df (n:=0) ab (.int _) (.int _);have aao:upd H2 ev (.tup [.int ((m.goal B:Nat):Int),.int (((r.mm (m.goal B)).dN.length:Nat):Int)]) ev=some (.tup [.int ((m.goal B:Nat):Int),.int (((r.mm (m.goal B)).dN.length:Nat):Int)]):=ab;generalize DN:upd H2 ev (.tup [.int ((m.goal B:Nat):Int),.int (((r.mm (m.goal B)).dN.length:Nat):Int)])=H3 at *;have H3o:=L0 _ _ H2e;left;calc bA _ (Dq (R _ _ N)) ?_;left;calc cZ (R _ _ g1) (ay (j:=0) rfl) ?_;have afW:m.goal B<mv.length:=by lia
 have Y7:m.ms[m.goal B]?=some (m.ms.getD (m.goal B) default):=aQ I;obtain⟨mt,ln,lr,ld,xsd,emt,t1,t2,t3,t4,t5⟩:=h5.2 (m.goal B) mv[m.goal B] _ nofun Y7;have Ky:=W.gd I;calc bD (R _ _ g2) (ay (j:=m.goal B) (v:=.ref mt) (by rw[<-emt];simp)) ?_;calc bA _ (yD (R _ _ N)) ?_;left;calc bD (R _ _ o1.1) (aU I) ?_;obtain⟨sv,esv,dsv⟩:=d1.get (i:=(r.mm (m.goal B)).dN.length-1) (d:=qw ((r.mm (m.goal B)).dN.bq ([],[]))) (by rw[List.getElem?_map,jG (d:=([],[])) UP];rfl);have DT:=(GB (dsv.cv cU)).aH R.aP;calc bD (R _ _ e1) (jW () (by rw[z1];calc esv)) ?_;left;calc bA _ (yC (R _ _ N)) ?_;nofun;obtain⟨v4,e4,d4⟩:=M.cj.lst (t:=4) (i:=B) L rfl;have z4:=d4.iZ;subst z4;ac_rfl;left;calc bD (R _ _ o4.1) (aU L) ?_;calc bD (R _ _ e4) (ay (j:=k) (v:=.int ((r.ww B).say.getD k 0)) (by rw[List.getElem?_map,aQ (d:=0) yk];rfl)) ?_;have sO:=O.last I;calc⟨mt,ln,lr,ld,sv,_,_,_,xsd,_,_,_,rfl,R _ _ t1,R _ _ t4,t5.aH R.aP,xG.of DT,Ky.m2,Ky.Yg,sO.bn,sO.lr,Ky.Wm,by rw[sO.ln];calc Ky.ok,λrx H4 Ja OV=>?_⟩;have W4:=R.trans Ja;nofun;obtain⟨rp,IY,QG,L4,zs,rfl,Y8,zW,OW,lY,zX,Y9,fl2,Zb⟩:=OV.ex
 replace zW:HT H4 2 IY (xE (m.work r B k).ns (m.work r B k).row):=zW
 replace lY:SL H4 zs (m.work r B k).cJ:=lY
 replace zX:H4 L4=some (.lst ((m.work r B k).words.map V.int)):=zX
 ac_rfl;have U6:=aan.aH Ja.aP;have aap:=Ja _ _ aao;have H4o:=Ja _ _ H3o;calc un3 (bQ.of Y8) ?_;left;calc⟨∅,λlz hlz=>?_⟩;have L3:=au.new (.lst [.int 0]) hlz;have elz:upd H4 lz (.lst [.int 0]) lz=some (.lst [.int 0]):=ab;generalize IP:upd H4 lz (.lst [.int 0])=H5 at *;have OS:=W4.trans L3;calc bA _ (Dq (OS _ _ N)) ?_;left;calc cZ (OS _ _ g1) (ay (j:=0) rfl) ?_;calc bA _ (.inl ⟨_,aO.of (OS _ _ g2),rfl⟩) ?_;calc CL _ elz () () (λS hlq=>?_);rw[Int.toNat_natCast,lQ];have L5:=au.new (.lst (List.replicate m.ms.length (V.int 0))) hlq;have Rf:upd H5 S (.lst (List.replicate m.ms.length (V.int 0))) S=some (.lst ((List.replicate m.ms.length 0).map V.int)):=by rw[ab,List.map_replicate]
 generalize Km:upd H5 S (.lst (List.replicate m.ms.length (V.int 0)))=H6 at *;calc⟨∅,λla hla=>?_⟩;have wM:=au.new (.lst [.ref S]) hla;have ela:upd H6 la (.lst [.ref S]) la=some (.lst [.ref S]):=ab;generalize Wx:upd H6 la (.lst [.ref S])=H7 at *;have U5:=L3.trans (L5.trans wM);have sH7:=W4.trans U5;calc bA _ (Dr (sH7 _ _ N)) ?_;obtain⟨v3,e3,d3⟩:=M.cj.lst (t:=3) (i:=m.goal B) I rfl;have z3:v3.length=(r.mm (m.goal B)).hr.length:=by simpa using d3.1
 have hlh:=O.lh _ I;have Zh:=O.bp _ I;left;calc bD (sH7 _ _ o3.1) (aU I) ?_;calc .inl ⟨_,_,ela,sH7 _ _ e3,E' (small (by simp;lia)),λlb hlb=>?_⟩;have s78:=au.new (.lst ([.ref S]++v3)) hlb;have elb:upd H7 lb (.lst ([.ref S]++v3)) lb=some (.lst ([.ref S]++v3)):=ab;generalize Ze:upd H7 lb (.lst ([.ref S]++v3))=H8 at *;have s48:=U5.trans s78;have X:=W4.trans s48;have U7:∃rl,iJ ([V.ref S]++v3) (-1)=some (.ref rl)/\H8 rl=some (.lst (((r.mm (m.goal B)).hr.bq (List.replicate m.ms.length 0)).map V.int)):=by
  by_cases h1:1<=(r.mm (m.goal B)).hr.length
  ·nofun;obtain⟨v,Y2,dv⟩:=d3.get (i:=(r.mm (m.goal B)).hr.length-1) (d:=.lst (((r.mm (m.goal B)).hr.bq (List.replicate m.ms.length 0)).map .int)) (by rw[List.getElem?_map,jG (d:=List.replicate m.ms.length 0) h1];rfl);obtain⟨a,rfl,ea⟩:=oC (dv.cv cU);ac_rfl;calc⟨a,jW nofun ?_,X _ _ ea⟩;rw[List.length_append,List.length_singleton,List.getElem?_append_right (by simp;lia)];rw[show 1+v3.length-1 - [V.ref S].length=(r.mm (m.goal B)).hr.length-1 by simp;lia];exact Y2
  ·have ez:(r.mm (m.goal B)).hr=[]:=List.length_eq_zero_iff.mp ();have ev3:v3=[]:=List.length_eq_zero_iff.mp ();refine⟨S,?_,?_⟩
   ·rw[ev3];exact jW nofun rfl
   ·rw[ez];show H8 S=some (.lst (List.map V.int (List.getD ([]:List (List Int)) _ _)));exact s78 _ _ (wM _ _ Rf)
 obtain⟨rl,erl,yg⟩:=U7;calc bD elb erl ?_;left;calc bA _ (He (X _ _ N)) ?_;obtain⟨v5,e5,d5⟩:=M.cj.lst (t:=5) (i:=B) L rfl;have LQ:=O.ls B L;left;calc bD (X _ _ o5.1) (aU L) ?_;obtain⟨v5k,ev5,W5⟩:=d5.get (i:=k) (d:=oH ((r.ww B).snd.getD k none)) (by rw[List.getElem?_map,aQ (d:=none) ()];rfl);calc bD (X _ _ e5) (ay ev5) ?_;left;rename_i N2 hN2 T2 U2 LF hU2;have U8:(oB m r B k).length=m.ms.length:=by
  have:=xJ W O L (k:=k);rw[K0,List.length_set]at this;exact this
 have rest:∀(W6:Addr) (z11 O0:Option V) (H9:Hp),au H8 H9->H9 W6=some (.lst ((oB m r B k).map V.int))->N2 [some (V.ref d),some (V.int ((B:Nat):Int)),some (V.int ((k:Nat):Int)),some (V.int ((m.goal B:Nat):Int)),some (V.int ((m.place B:Nat):Int)),some (V.ref D2),some (V.ref ev),some IY,some (V.ref QG),some (V.ref L4),some (V.ref W6),z11,O0,none,none] H9:=by
  clear LF hU2 T2 U2;intro W6 z11 O0 H9 s89 U9;have Rc:=s48.trans s89;have Mu:=W4.trans Rc;have b9:=M.cj.same Mu;left;calc bA _ (Dr (Mu _ _ N)) ?_;left;calc bD (Mu _ _ o3.1) (aU I) ?_;calc⟨.inl ⟨rfl,_,aO.of (Mu _ _ e3)⟩,?_⟩;calc bF ?_;left;calc bA _ (.inl ⟨_,aO.of U9,rfl⟩) ?_;left;rw[List.length_map,U8];calc gC () () (λhl Va=>?_);rw[Int.toNat_natCast];refine aX (J:=yY 0 m.ms.length) (n:=m.ms.length) (λi ys H'=>au H9 H'/\ys=(List.range i).map λj=>V.int ((oB m r B k).getD j 0+(if decide (((j:Nat):Int)=((m.goal B:Nat):Int))=true then 1 else 0))) (E' (aA ())) ⟨au.new _ Va,rfl⟩ (λi ys H' hi _=>hi) (λys H' _=>K' _) ?_ ?_
  ·intro i ys H' hi bx lP pC x H2' se;nofun;obtain⟨Y,rfl⟩:=pC;obtain⟨rfl,rfl⟩:=se;ac_rfl;walk_at "xf";left
   try rw[if_pos trivial]
   calc bD (Y _ _ U9) (show iJ _ (0+(i:Int))=some (.int ((oB m r B k).getD i 0)) from by rw[Int.zero_add];calc ay (by rw[List.getElem?_map,aQ (d:=0) ()];rfl)) ?_;refine .inr ?_
   try rw[Int.zero_add]
   calc bR bx lP hi (E' (aA ())) ⟨λc o e=>by rw[av (ao e Va)];calc Y _ _ e,?_⟩;rw[List.range_succ,List.map_append];rfl
  rintro ys DU bx lP ⟨Dz,rfl⟩;clear lP;have DA:=Mu.trans Dz;left;calc gw v3 (DA _ _ e3) (small ()) ?_;left;have nA:ad 3 (m.goal B)≠hl:=λz=>by have:=Mu _ _ e3;rw[z,Va]at this;cases this
  have kA:∀b o,b≠ad 3 (m.goal B)->DU b=some o->upd DU (ad 3 (m.goal B)) (.lst (v3++[.ref hl])) b=some o:=λb o n e=>by rw[av n];exact e
  have Hu:∀{b:Addr} {o:HO},DU b=some o->¬FP m.n ad b->b≠ad 3 (m.goal B):=λ{b o} _ h z=>h ⟨3,m.goal B,I,z⟩;have Mv:=Dz _ _ (Rc _ _ aap);have nev:ev≠ad 3 (m.goal B):=λz=>by have:=DA _ _ e3;rw[<-z,Mv]at this;cases this
  calc cZ (kA _ _ nev Mv) (ay (j:=1) rfl) ?_;calc bA _ (Dr (kA _ _ (Hu (DA _ _ N) nP) (DA _ _ N))) ?_;left;calc bD (kA _ _ (Hu (DA _ _ o3.1) o3.2.2) (DA _ _ o3.1)) (aU I) ?_;calc bD ab kH ?_;left;calc⟨_,m.goal B,kA _ _ (Ne.symm nA) bx,oh (by simp;lia),?_⟩;rw[K1 U8 I,show(oB m r B k).set (m.goal B) (((r.mm (m.goal B)).dN.length:Nat):Int)=m.gb r B k from rfl,Hr nA];have sK:au H9 (upd DU hl (.lst ((m.gb r B k).map V.int))):=λb o e=>by rw[av (ao e Va)];exact Dz _ _ e
  have eK:upd DU hl (.lst ((m.gb r B k).map V.int)) hl=some (.lst ((m.gb r B k).map V.int)):=ab;generalize hGK:upd DU hl (.lst ((m.gb r B k).map V.int))=K10 at *;have W7:=Mu.trans sK;have bK:=M.cj.same W7;have FSK:FS F K10:=lR.fr (Z:=λ_=>False) W7.fr (λ_ _ h=>h);have fresh:∀{b:Addr},H9 b=none->¬(F b\/FP m.n ad b):=λ{b} hb z=>by
   rcases z with z|z
   ·obtain⟨o,e,_⟩:=lR b z;rw[Mu _ _ e]at hb;cases hb
   ·obtain⟨o,e,_⟩:=b9.fp z;rw[e]at hb;cases hb
  have e3K:=W7 _ _ e3;have uJ:=(BF.mk bK W7.fr (Rc.trans sK).fr).app (t:=3) (i:=m.goal B) I rfl e3K (eE.one (show HD _ 4 (.ref hl) (.lst ((m.gb r B k).map .int)) from .lst (by rw[fJ (fresh Va)];calc eK) nofun (λi u e G he=>(eE.ints (H:=hE (λb=>F b\/FP m.n ad b) K10) (n:=3) (m.gb r B k)).2 i u e G he)));generalize TQ:upd K10 (ad 3 (m.goal B)) (.lst (v3++[.ref hl]))=QI at *;clear kA Hu;left;calc bA _ (PB (uJ.f.at N nP)) ?_;obtain⟨PF,e6,d6⟩:=uJ.b.Yh (t:=6) (i:=B) L rfl;have WC:=O.lk B L;have Zl:=O.bs B L;left;calc bD (uJ.f.at o6.1 o6.2.2) (aU L) ?_;have uK:((r.ww B).dj.countP Option.isSome)<=(r.ww B).dj.length:=List.countP_le_length;have h6l:=d6.1;calc⟨ad 6 B,_,rfl,tL.k (k:=Sum.inl ((k:Nat):Int)) e6 (small ()),?_⟩;have yV:=BF.mk (uJ.b.upd (t:=6) (i:=B) L (PY d6 hc.lies ((uJ.b.ht (lR.fr uJ.f M.cj.uc) (U6.aH uJ.g.aP)).mono ∅))) (uJ.f.upd ⟨6,B,L,rfl⟩ e6 trivial) (uJ.g.upd ⟨6,B,L,rfl⟩ e6 trivial);generalize TR:upd QI (ad 6 B) (.dK (putK PF (Sum.inl ((k:Nat):Int)) (.ref ev)))=Wy at *;left;calc bA _ (yD (yV.f.at N nP)) ?_;obtain⟨v1',e1',d1'⟩:=yV.b.lst (t:=1) (i:=m.goal B) I rfl;have z1':v1'.length=(r.mm (m.goal B)).dN.length:=by simpa using d1'.1
  left;calc bD (yV.f.at o1.1 o1.2.2) (aU I) ?_;calc⟨.inl ⟨rfl,_,aO.of e1'⟩,?_⟩;left;calc gw v1' e1' (small ()) ?_;have Jh:=yV.app (t:=1) (i:=m.goal B) I rfl e1' (eE.one (show HD _ 4 IY (qw ((m.work r B k).ns,(m.work r B k).row)) from(yV.b.ht (lR.fr yV.f M.cj.uc) (zW.aH yV.g.aP)).mono ∅));generalize agd:upd Wy (ad 1 (m.goal B)) (.lst (v1'++[IY]))=WA at *;left;calc bA _ (PD (Jh.f.at N nP)) ?_;obtain⟨v2,e2,d2⟩:=Jh.b.lst (t:=2) (i:=m.goal B) I rfl;have z2:v2.length=(r.mm (m.goal B)).wp.length:=by simpa using d2.1
  have UC:=O.lw _ I;left;calc bD (Jh.f.at o2.1 o2.2.2) (aU I) ?_;calc⟨.inl ⟨rfl,_,aO.of e2⟩,?_⟩;calc bA _ (PD (Jh.f.at N nP)) ?_;left;calc bD (Jh.f.at o2.1 o2.2.2) (aU I) ?_;nofun;obtain⟨vw,evw,dvw⟩:=d2.get (i:=(r.mm (m.goal B)).wp.length-1) (d:=.lst (((r.mm (m.goal B)).wp.bq []).map .int)) (by rw[List.getElem?_map,jG (d:=[]) ()];rfl);obtain⟨lw,rfl,Q7⟩:=oC (dvw.cv cU);ac_rfl;calc bD e2 (jW () (by rw[z2];calc evw)) ?_;have GK:¬FP m.n ad QG:=λz=>by
   obtain⟨u,e,_⟩:=(M.cj.same R).fp z;rw[Y9]at e;cases e
  have OX:¬FP m.n ad L4:=λz=>by
   obtain⟨u,e,_⟩:=(M.cj.same R).fp z;rw[fl2]at e;cases e
  have hbw:=O.bw _ I _ (fg (l:=(r.mm (m.goal B)).wp) (d:=[]) ());calc .inl ⟨_,_,Q7,Jh.g.at zX OX,E' (small (by simp;lia)),λnw hnw=>?_⟩;have Hv:=au.new (.lst (((r.mm (m.goal B)).wp.bq []).map V.int++(m.work r B k).words.map V.int)) hnw;have enw:upd WA nw (.lst (((r.mm (m.goal B)).wp.bq []).map V.int++(m.work r B k).words.map V.int)) nw=some (.lst (((r.mm (m.goal B)).wp.bq []++(m.work r B k).words).map V.int)):=by rw[ab,List.map_append]
  generalize aai:upd WA nw (.lst (((r.mm (m.goal B)).wp.bq []).map V.int++(m.work r B k).words.map V.int))=H14 at *;have w14:=Jh.same Hv;have nnw:¬(F nw\/FP m.n ad nw):=λz=>by
   rcases z with z|z
   ·obtain⟨o,e,_⟩:=(lR.fr Jh.f M.cj.uc) nw z;rw[hnw]at e;cases e
   ·obtain⟨o,e,_⟩:=Jh.b.fp z;rw[hnw]at e;cases e
  left;calc gw v2 (Hv _ _ e2) (small ()) ?_;have W8:=w14.app (t:=2) (i:=m.goal B) I rfl (Hv _ _ e2) (eE.one (show HD _ 4 (.ref nw) (.lst (((r.mm (m.goal B)).wp.bq []++(m.work r B k).words).map .int)) from .lst (by rw[fJ nnw];calc enw) nofun (λi u e G he=>(eE.ints (H:=hE (λb=>F b\/FP m.n ad b) H14) (n:=3) ((r.mm (m.goal B)).wp.bq []++(m.work r B k).words)).2 i u e G he)));generalize agi:upd H14 (ad 2 (m.goal B)) (.lst (v2++[.ref nw]))=H15 at *;left;calc bA _ (KW (W8.f.at N nP)) ?_;obtain⟨v0,e0,d0⟩:=W8.b.lst (t:=0) (i:=0) i0 rfl;have z0:v0.length=r.picks.length:=by simpa using d0.1
  left;calc gC (.inl ⟨rfl,_,aO.of e0⟩) cH (λtp yT=>?_);have Mw:=au.new (.tup [.int ((B:Nat):Int),.int ((k:Nat):Int)]) yT;have Vb:HT (upd H15 tp (.tup [.int ((B:Nat):Int),.int ((k:Nat):Int)])) 1 (.ref tp) (pairD ((B:Int),(k:Int))):=df (n:=0) ab (.int _) (.int _);generalize agj:upd H15 tp (.tup [.int ((B:Nat):Int),.int ((k:Nat):Int)])=U3 at *;have W9:=W8.same Mw;have Vc:=Mw _ _ e0;left;calc gw v0 Vc (small ()) ?_;have Mx:=W9.app (t:=0) (i:=0) i0 rfl Vc (eE.one ((W9.b.ht (lR.fr W9.f M.cj.uc) Vb).mono ∅));generalize agk:upd U3 (ad 0 0) (.lst (v0++[.ref tp]))=H17 at *;have aaz:cf F H17 d (.ref tt) m (r.step m B k) ad:=M.own Mx.f (Mx.b.congr K2);have My:SL H17 zs (m.work r B k).cJ:=lY.aH Mx.g.aP;have Vd:=Mx.g.at OW GK;have Mz:=U6.aH Mx.g.aP;have nD2:¬FP m.n ad D2:=λz=>by
   obtain⟨u,e,_⟩:=(M.cj.same PZ).fp z;rw[wa]at e;cases e
  have aaB:=Mx.g.at H4o nD2;clear b9 bK uJ yV Jh w14 W8 W9 d0 d1' d2 d6;left;have WB:zs.length=(m.work r B k).cJ.length:=My.1;have OY:=O.step W L (k:=k);have OZ:∀a c,some (m.ev r B)=some (a,c)->0<=a/\a<m.ms.length/\1<=c/\c<=((r.step m B k).mm a.toNat).hr.length:=BH W O L;refine⟨_,rfl,.inl ⟨⟨_,aO.of Vd⟩,eS (K:=K) (xs:=zs) (λi σ H'=>(∃O1 z14,σ=[some (V.ref d),some (V.int ((B:Nat):Int)),some (V.int ((k:Nat):Int)),some (V.int ((m.goal B:Nat):Int)),some (V.int ((m.place B:Nat):Int)),some (V.ref D2),some (V.ref ev),some IY,some (V.ref QG),some (V.ref L4),some (V.ref W6),z11,O0,O1,z14])/\Fr (FP m.n ad) H17 H'/\cf F H' d (.ref tt) m ((r.step m B k).send (m.outs (m.goal B)) (m.ev r B) ((m.work r B k).cJ.take i)) ad) ?_ ?_ ?_ ?_⟩⟩
  ·exact⟨⟨_,_,rfl⟩,Fr.refl,aaz⟩
  ·rintro i σ H' hi ⟨_,fi,_⟩;exact aO.of (fi.at Vd GK)
  ·intro i z σ H' hz yu;nofun;obtain⟨⟨O1,z14,rfl⟩,fi,BV⟩:=yu;have Bs:i < zs.length:=(List.getElem?_eq_some_iff.mp hz).1;have O2:i < (m.work r B k).cJ.length:=by lia
   have yR:(m.work r B k).cJ[i]?=some (m.work r B k).cJ[i]:=dw O2;have vb:=Y3 _ (W' O2);have O3:=(My.2 i z _ hz yR).aH fi.aP;have Kz:(r.step m B k).send (m.outs (m.goal B)) (m.ev r B) ((m.work r B k).cJ.take (i+1))=((r.step m B k).send (m.outs (m.goal B)) (m.ev r B) ((m.work r B k).cJ.take i)).send (m.outs (m.goal B)) (m.ev r B) [(m.work r B k).cJ[i]]:=by
    rw[List.take_succ,yR];exact pN _
   have zY:=(RS.tD.send (outs:=m.outs (m.goal B)) (ev:=m.ev r B) ((m.work r B k).cJ.take i) OY OZ).mono (show _<=19998 by simp;lia);generalize (m.work r B k).cJ[i]=p at *;obtain⟨pj,px⟩:=p;obtain⟨tz,u1,u2,kz,rfl,DG,y1,y2⟩:=dF O3;obtain rfl:=y1.cP;obtain rfl:=y2.cP;ac_rfl;calc tE (bQ.of DG) ?_;have eDi:=fi.at aaB nD2;left;calc bA _ (.inl ⟨_,aO.of eDi,rfl⟩) ?_;left;have hlen:((t9 m 0 (m.goal B)).map λi=>V.int ((i:Nat):Int)).length=(m.outs (m.goal B)).length:=by rw[List.length_map];rfl
   rw[hlen];have ej:((pj.toNat:Nat):Int)=pj:=aaH vb;by_cases lT:pj<((m.outs (m.goal B)).length:Nat)
   ·rw[if_pos (by simpa using lT)];have LI:pj.toNat < (m.outs (m.goal B)).length:=by lia
    have qU:(m.outs (m.goal B)).getD pj.toNat 0<m.ws.length:=by
     have:=getD_mem (d:=0) LI;unfold NT.outs at this ⊢;rw[List.mem_filter,List.mem_range]at this;exact this.1
    have TJ:iJ ((t9 m 0 (m.goal B)).map λi=>V.int ((i:Nat):Int)) pj=some (.int (((m.outs (m.goal B)).getD pj.toNat 0:Nat):Int)):=by
     rw[<-ej];calc ay ?_;rw[List.getElem?_map];show Option.map _ (m.outs (m.goal B))[_]?=_;rw[Int.toNat_natCast,aQ (d:=0) LI];rfl
    nofun;obtain⟨U,how⟩:∃U,U=(m.outs (m.goal B)).getD pj.toNat 0:=⟨_,rfl⟩
    rw[<-how]at qU TJ;generalize hri:(r.step m B k).send (m.outs (m.goal B)) (m.ev r B) ((m.work r B k).cJ.take i)=ri at *;obtain⟨oi,Ve,nFi,nPi,Pr⟩:=BV.dk;have oi4:=Pr 4 ∅ ∅;have Vf:=Pr 5 ∅ ∅;have bi:=BV.cj;obtain⟨w4,x4,y4⟩:=bi.lst (t:=4) (i:=U) qU rfl;ac_rfl;have l4:w4.length=(ri.ww U).say.length:=by simpa using y4.1
    have hb4:=zY.bs U qU;have hb5:=zY.ls U qU;left;calc bA _ (yC Ve) ?_;left;calc bD eDi TJ ?_;calc bD oi4.1 (aU qU) ?_;calc⟨.inl ⟨rfl,_,aO.of x4⟩,?_⟩;left;calc gw w4 x4 (small ()) ?_;have bj:=bi.app (t:=4) (i:=U) qU rfl x4 (eE.one (.int px));have fj:Fr (FP m.n ad) H' (upd H' (ad 4 U) (.lst (w4++[.int px]))):=Fr.refl.upd ⟨4,U,qU,rfl⟩ x4 trivial;generalize hGj:upd H' (ad 4 U) (.lst (w4++[.int px]))=Hj at *;obtain⟨w5,x5,y5⟩:=bj.lst (t:=5) (i:=U) qU rfl;have l5:w5.length=(ri.ww U).snd.length:=by simpa using y5.1
    left;calc bA _ (He (fj.at Ve nPi)) ?_;left;calc bD (fj.at eDi nD2) TJ ?_;calc bD (fj.at Vf.1 Vf.2.2) (aU qU) ?_;calc⟨.inl ⟨rfl,_,aO.of x5⟩,?_⟩;left;calc gw w5 x5 (small ()) ?_;have FSj:FS F Hj:=lR.fr ((Mx.f.trans fi).trans fj) M.cj.uc;have bk:=bj.app (t:=5) (i:=U) qU rfl x5 (eE.one (show HD _ 4 (.ref ev) (oH (some (m.ev r B))) from(bj.ht FSj ((Mz.aH fi.aP).aH fj.aP)).mono ∅));have fk:Fr (FP m.n ad) H' (upd Hj (ad 5 U) (.lst (w5++[.ref ev]))):=fj.upd ⟨5,U,qU,rfl⟩ x5 trivial;left;calc gC ⟨_,_,rfl,rfl⟩ (fi.trans fk) ?_;rw[Kz];show cf F _ d _ m (if pj.toNat<_ then _ else _) ad;rw[if_pos LI];show cf F _ d _ m (ri.put ((m.outs (m.goal B)).getD pj.toNat 0) px (some (m.ev r B))) ad;rw[<-how];exact BV.own fk (bk.congr Hq)
   ·rw[if_neg (by simpa using lT)];left;calc gC ⟨_,_,rfl,rfl⟩ fi ?_;rw[Kz];show cf F H' d _ m (if pj.toNat<_ then _ else _) ad;rw[if_neg ()];exact BV
  ·intro σ H' Ad;obtain⟨⟨O1,z14,rfl⟩,fi,BV⟩:=Ad;left;rw[WB,List.take_length]at BV;exact q _ _ (Mx.f.trans fi) BV (Mz.aH fi.aP)
 clear hN2
 cases IT:(r.ww B).snd.getD k none with
 |none=>
  rw[IT]at W5;have:=v7 W5;subst this;left
  try rw[if_neg ∅]
  left;calc rest rl _ _ H8 (au.refl _) ?_;unfold oB;rw[IT];calc yg
 |some sc=>
  nofun;obtain⟨s0,c0⟩:=sc;rw[IT]at W5;obtain⟨ae,rfl,Su⟩:=oo (W5.cv cU);have aaG:=X _ _ Su;have xn:some (s0,c0)∈(r.ww B).snd:=by rw[<-IT];exact getD_mem ()
  obtain⟨q1,q2,q3,q4⟩:=O.sd B L s0 c0 xn;ac_rfl;left
  try rw[if_pos ∅]
  left;calc bA _ (He (X _ _ N)) ?_;left;calc bD (X _ _ o5.1) (aU L) ?_;calc bD (X _ _ e5) (ay ev5) ?_;calc tE (bQ.of aaG) ?_;left;calc bF ?_;left;calc bA _ (Dr (X _ _ N)) ?_;have hsm:s0.toNat<m.ms.length:=by lia
  have es0:((s0.toNat:Nat):Int)=s0:=aaH q1;have ec0:(((c0-1).toNat:Nat):Int)=c0-1:=aaH ();left;calc bD (X _ _ o3.1) (show iJ _ s0=some (.ref (ad 3 s0.toNat)) from by have:=aU (n:=m.n) (ad:=ad) (t:=3) hsm;rw[es0]at this;calc this) ?_;nofun;obtain⟨vs3,es3,ds3⟩:=M.cj.lst (t:=3) (i:=s0.toNat) hsm rfl;obtain⟨vr,evr,dvr⟩:=ds3.get (i:=(c0-1).toNat) (d:=.lst (((r.mm s0.toNat).hr.getD (c0-1).toNat []).map .int)) (by rw[List.getElem?_map,aQ (d:=[]) ()];rfl);obtain⟨lo,rfl,L6⟩:=oC (dvr.cv cU);ac_rfl;calc bD (X _ _ es3) (show iJ _ (c0-1)=some (.ref lo) from by rw[<-ec0];calc ay evr) ?_;have K3:=X _ _ L6;left;calc fK true true _ _ (Sq.l yg) (Sq.l K3) (λD3 yq=>?_);have acP:((r.mm (m.goal B)).hr.bq (List.replicate m.ms.length 0)).length=m.ms.length:=by
   by_cases h1:1<=(r.mm (m.goal B)).hr.length
   ·exact O.hl _ I _ (fg h1)
   ·have ez:(r.mm (m.goal B)).hr=[]:=List.length_eq_zero_iff.mp ();rw[ez];simp[List.bq]
  have acQ:((r.mm s0.toNat).hr.getD (c0-1).toNat []).length=m.ms.length:=O.hl _ hsm _ (getD_mem ());have ehr:oB m r B k=List.zipWith max ((r.mm (m.goal B)).hr.bq (List.replicate m.ms.length 0)) ((r.mm s0.toNat).hr.getD (c0-1).toNat []):=by
   unfold oB;rw[IT]
  generalize hA:(r.mm (m.goal B)).hr.bq (List.replicate m.ms.length 0)=LA at *;generalize hB:(r.mm s0.toNat).hr.getD (c0-1).toNat []=LB at *;refine aX (J:=Ss true true K rl lo) (n:=m.ms.length) (λi ys H'=>au H8 H'/\ys=((List.zipWith max LA LB).take i).map V.int) (E' (aA ())) ⟨au.new _ yq,rfl⟩ ?_ ?_ ?_ ?_
  ·rintro i ys H' hi ⟨Y,_⟩;exact⟨_,_,_,_,Sq.l (Y _ _ yg),Sq.l (Y _ _ K3),by rw[List.getElem?_map,aQ (d:=0) ()];rfl,by rw[List.getElem?_map,aQ (d:=0) ()];rfl⟩
  ·rintro ys H' ⟨Y,_⟩;exact⟨_,_,Sq.l (Y _ _ yg),Sq.l (Y _ _ K3),.inl (by simp;lia)⟩
  ·intro i ys H' hi bx hl Dp xx H4' Vg;nofun;obtain⟨Y,rfl⟩:=Dp;obtain⟨t',Pq,rfl,y⟩:=Vg;obtain⟨x1,x2,Vh,Vi,rfl⟩:=y _ _ (Sq.l (Y _ _ yg)) (Sq.l (Y _ _ K3));rw[List.getElem?_map,aQ (d:=0) ()] at Vh Vi;obtain rfl:=Option.some.inj Vh;obtain rfl:=Option.some.inj Vi;ac_rfl;have s2:=au.new (.tup [.int (LA.getD i 0),.int (LB.getD i 0)]) Pq;have nK:upd H' t' (.tup [.int (LA.getD i 0),.int (LB.getD i 0)]) t'=some (.tup [.int (LA.getD i 0),.int (LB.getD i 0)]):=ab;calc tE (bQ.of nK) ⟨Ext.set (Ext.set (Ext.refl _) rfl) rfl,?_⟩;left
   try rw[if_pos trivial]
   calc bR (s2 _ _ bx) hl hi (E' (aA ())) ⟨λc o e=>by rw[av (ao e yq)];calc s2 _ _ (Y _ _ e),?_⟩;rw[List.take_succ,List.getElem?_zipWith,aQ (l:=LA) (d:=0) (),aQ (l:=LB) (d:=0) (),List.map_append];show _++[V.int (if LB.getD i 0 > LA.getD i 0 then LB.getD i 0 else LA.getD i 0)]=_++[V.int (max (LA.getD i 0) (LB.getD i 0))]
   congr 3;split<;>lia
  rintro ys H9 bx hl ⟨s89,rfl⟩;rw[List.take_of_length_le (by simp;lia),<-ehr]at bx;left;calc rest D3 _ _ H9 s89 bx
theorem qr.nil{ct:Nat->Hp->HO->Prop}:qr H0 H' D [] 0 ct:=⟨rfl,List.nodup_nil,λa h=>by simp at h,λj a h=>by simp at h⟩
theorem qr.snoc{H0 H1 H':Hp}{D a:Addr}{as:List Addr}{n:Nat}{ct:Nat->Hp->HO->Prop}(h:qr H0 H1 D as n ct)(p:au H0 H1)(q:H1 D≠none)(f:H1 a=none){o:HO}(e:H' a=some o)(c:ct n H' o)(s:∀b o,b≠D->H1 b=some o->H' b=some o)(d:∀j o,ct j H1 o->ct j H' o):qr H0 H' D (as++[a]) (n+1) ct:=by
 refine⟨by simp[h.len],?_,λb hb=>?_,λj b hb=>?_⟩
 ·rw[List.nodup_append];calc gC h.nd nofun (λb hb c k=>?_);simp at k;subst k;intro z;subst z;obtain⟨j,i⟩:=List.getElem?_of_mem hb;obtain⟨l,g,_⟩:=h.ins j b i;rw[f]at g;cases g
 ·rcases List.mem_append.mp hb with hb | hb
  ·exact h.new b hb
  ·simp at hb;subst hb;refine⟨?_,λz=>q (z ▸ f)⟩
   cases r:H0 b with
   |none=>rfl
   |some o=>rw[p _ _ r]at f;cases f
 ·by_cases i:j < as.length
  ·rw[List.getElem?_append_left i]at hb;obtain⟨l,g,f⟩:=h.ins j b hb;exact⟨l,s _ _ (h.new b (aaa hb)).2 g,d _ _ f⟩
  ·rw[List.getElem?_append_right ()] at hb
   cases m:j-as.length with
   |zero=>
    rw[m]at hb;simp at hb;subst hb;have:j=n:=by have:=h.len;lia
    subst this;calc⟨o,e,c⟩
   |succ k=>rw[m]at hb;simp at hb
theorem qr.keep{n:Nat}{ct:Nat->Hp->HO->Prop}(h:qr H0 H1 D as n ct)(s:∀(j:Nat) (b:Addr) (o:HO),H1 b=some o->ct j H1 o->H' b=some o/\ct j H' o):qr H0 H' D as n ct:=
 ⟨h.len,h.nd,h.new,λj a e=>by
  obtain⟨c,d,f⟩:=h.ins j a e;calc⟨c,s _ _ _ d f⟩⟩
theorem qY{K:W.Frag}{ix:List (Option Nat)}{m:TE}{l:Addr}{xs:List V}{o:HO}(r:H l=some (.lst xs))(t:H D=none)(G:xs.length<=10)(w:∀x,Ext (tM ix σ) ((tM ix σ).set 0 (some x)))(y:∀d g (R:VK),(∀p,g p=none->R (.ref p) (upd g p o))->m d g R)(q:∀as H1,H1 D=some (.lst (as.map V.ref))->au H H1->qr H H1 D as xs.length (λ_ _ u=>u=o)->Q (.ref D) H1):kB ix (tw K l) (fS 0) iM m σ H Q D:=by
 refine aX (n:=xs.length) (λi ys H'=>∃as:List Addr,ys=as.map V.ref/\au H H'/\qr H H' D as i (λ_ _ u=>u=o)) (E' (small ())) ⟨[],rfl,au.new _ t,qr.nil⟩ ?_ ?_ ?_ ?_
 ·rintro i ys H' j ⟨_,_,a,_⟩;exact⟨_,xs[i],aO.of (a _ _ r),dw j⟩
 ·rintro ys H' ⟨_,_,a,_⟩;exact⟨_,aO.of (a _ _ r),K' _⟩
 ·intro i ys H' j c v z B I C;obtain⟨as,rfl,a,k⟩:=z;obtain⟨rfl,d⟩:=C;calc⟨w B,?_⟩;simp only[iM,if_true];calc y _ _ _ λp d=>?_;have g:=au.new o d;have i:p≠D:=Ne.symm (ao c d);refine bR (g _ _ c) v j (E' (small ())) ⟨as++[p],nofun,λb o e=>?_,?_⟩
  ·rw[av (ao e t)];exact g _ _ (a _ _ e)
  ·refine k.snoc a (by rw[c];simp) d (o:=o) ?_ rfl (λb o a e=>?_) (λj u e=>e)
   ·rw[av i];exact ab
   ·rw[av a];exact g _ _ e
 ·intro ys H1 c v F;obtain⟨as,rfl,a,k⟩:=F;calc q as H1 c a k
theorem qr.some{n:Nat}{ct:Nat->Hp->HO->Prop}(h:qr H0 H1 D as n ct):∀a∈as,H1 a≠none:=λa m=>by
 obtain⟨j,e⟩:=List.getElem?_of_mem m;obtain⟨b,e,_⟩:=h.ins j a e;rw[e];calc λz=>nomatch z
abbrev k8:Stmt:=top 63
inductive Hw(vs:List V)(H:Hp)(Q:VK):Prop
 |mk (F:Addr->Prop) (tn:V) (nt:NT) (ls:List (Int×Int)) (h0:vs=[tn]) (h1:ToldN (hE F H) tn nt.ms nt.ws ls) (h2:FS F H) (h3:nt.Ok) (h4:ls.length<=20) (h5:∀l∈ls,0<=l.1/\l.1<nt.ws.length) (h6:∀d ad H',au H H'->(∀b,FP nt.n ad b->H b=none)->H d=none->cf F H' d tn nt (RS.begin nt ls) ad->Q (.ref d) H'):Hw vs H Q
def wq:Sp:=λvs H Q _=>Hw vs H Q
theorem yH(D:cS K mg "_law_begun" "_law_begun" k8 ["_law_net_here"])(T:Tx K mg C CN CR F FD):Def P w K mg base "_law_begun" 1 ["_law_net_here"] wq:=by
 have sc:aC ["_law_net_here","_law_run","_law_way","_law_said"] ["_law_net_here"] (ax k8):=by walk_at "s"
 symm;obtain⟨F,tn,g,ls,rfl,hN,lR,aW,pF,qK,q⟩:=h;have Y:=hr.units;have CU:=Wo Y;refine⟨_,(ag (aZ (i:=1) sc.nd rfl Sort (JM (rm aB (aq 0) (rm aB (cO (N':=["_law_way"]) (ix:=[none]) (bS (aj Y (aq 0) ai)) (λ_ _ _ _=>(aN (i:=0) (show(["_law_way"]:List Str).Nodup by decide +kernel) rfl Sort)) kG (λ_ _ _ _=>(bL aa))) (rm aB (cO (N':=["_law_way"]) (ix:=[none]) (bS (aj Y (aq 0) ai)) (λ_ _ _ _=>(aN (i:=0) (show(["_law_way"]:List Str).Nodup by decide +kernel) rfl Sort)) kG (λ_ _ _ _=>(bL aa))) JL))) rfl rfl ∅ ∅))
  (ag (lL CU (aq 1) aB (cO (N':=["_law_way"]) (ix:=[none]) (bS (aj Y (aq 0) ai)) (λ_ _ _ _=>(aN (i:=0) (show(["_law_way"]:List Str).Nodup by decide +kernel) rfl Sort)) kG (λ_ _ _ _=>ET)) rfl)
  (ag (lL CU (aq 1) aB (cO (N':=["_law_one"]) (ix:=[none]) (bS (aj Y (aq 0) ai)) (λ_ _ _ _=>(aN (i:=0) (show(["_law_one"]:List Str).Nodup by decide +kernel) rfl Sort)) kG (λ_ _ _ _=>(bL (af (bH (af (cX (nW (K:=K) rfl) rfl T.bW oK (af (dC (K:=K) rfl Y (aq 0) ai) aa)) (af (cX (nW (K:=K) rfl) rfl T.bW oK (af (dC (K:=K) rfl Y (aq 0) ai) aa)) aa))) aa)))) rfl)
  (ag (lL CU (aq 1) aB (cO (N':=["_law_one"]) (ix:=[none]) (bS (aj Y (aq 0) ai)) (λ_ _ _ _=>(aN (i:=0) (show(["_law_one"]:List Str).Nodup by decide +kernel) rfl Sort)) kG (λ_ _ _ _=>(bL (af (bL aa) aa)))) rfl)
  (ag (lL CU (aq 1) aB (cO (N':=["_law_one"]) (ix:=[none]) (bS (aj Y (aq 0) ai)) (λ_ _ _ _=>(aN (i:=0) (show(["_law_one"]:List Str).Nodup by decide +kernel) rfl Sort)) kG (λ_ _ _ _=>(bL aa))) rfl)
  (ag (lL CU (aq 1) aB (bL aa) rfl)
  (ag (cQ PassesOwn.never rfl (bS (aj Y (aq 0) ai)) (e9 (i:=2) (j:=3) rfl sc.nd rfl rfl Sort Sort)
  (ag (bJ (de lS oF oG bU (aj Y (aj Y (aq 1) aB) (aq 2)) (af (aq 3) aa)))
  (ak (bJ (de lS oF oG bU (aj Y (aj Y (aq 1) aB) (aq 2)) (af gV aa))))))
  (ak (aD (aq 1)))))))))),?_⟩
 nofun;obtain⟨I,am,aw,al,mv,wv,lv,rfl,h1,h2,h3,h4,h5,h6,h7⟩:=id hN;have g1:=(dG h1 (λk z=>by cases z)).2;have g2:=(dG h2 (λk z=>by cases z)).2;have g3:=(dG h3 (λk z=>by cases z)).2;have g4:=(dG h4 (λk z=>by cases z)).2
 replace h5:=h5.cv cU
 replace h6:=h6.aH cU.aP
 replace h7:=h7.aH cU.aP
 ac_rfl;have jJ:wv.length=g.ws.length:=by simpa using h6.1
 have lQ:mv.length=g.ms.length:=h5.1;have qS:lv.length=ls.length:=by simpa using h7.1
 have T:wv.length<=10:=by rw[jJ];exact aW.tR
 have T:mv.length<=5:=by rw[lQ];exact aW.Kb
 left;calc J8 λd qR=>?_;have Rg:=au.new (.dK []) qR;have ed0:upd H d (.dK []) d=some (.dK []):=ab;generalize hGd:upd H d (.dK [])=C1 at *;left;calc bF ?_;left;calc cZ (Rg _ _ g1) (ay (j:=1) rfl) ?_;left;calc .inl ⟨⟨_,aO.of (Rg _ _ g3)⟩,λx DQ=>?_⟩;calc qY (o:=.lst []) (Rg _ _ g3) DQ () (λ_=>Ext.set (Ext.refl _) rfl) (λ_ _ _ r=>And.intro ∅ r) ?_;intro A1 H1 l QL WG;have Ub:=l;clear l;have Zt:C1 x=none:=DQ;left;generalize hC2:H1=C2 at *;have S2:=Rg.trans QL;have Rh:=QL _ _ ed0;have WH:∀b o,b≠d->C1 b=some o->C2 b=some o:=λb o _ e=>QL _ _ e;calc bF ?_;left;calc cZ (S2 _ _ g1) (ay (j:=1) rfl) ?_;left;calc .inl ⟨⟨_,aO.of (S2 _ _ g3)⟩,λy T=>?_⟩;calc qY (o:=.lst []) (S2 _ _ g3) T () (λ_=>Ext.set (Ext.refl _) rfl) (λ_ _ _ r=>And.intro ∅ r) ?_;intro A2 H2 l O8 WI;have QP:=l;clear l;have Ug:C2 y=none:=T;left;have BW:H2 d=some (.dK []):=O8 _ _ Rh;calc⟨BW,[((Sum.inr "net":Key),V.ref I),((Sum.inr "put":Key),V.ref x),((Sum.inr "sender":Key),V.ref y)],rfl,nofun,?_⟩;have W:ml [] ([((Sum.inr "net":Key),V.ref I),((Sum.inr "put":Key),V.ref x),((Sum.inr "sender":Key),V.ref y)]:List (Key×V))=[((Sum.inr "net":Key),V.ref I),((Sum.inr "put":Key),V.ref x),((Sum.inr "sender":Key),V.ref y)]:=by kernel_rfl
 rw[W];obtain⟨C3,T,Ri,QO,ke2⟩:=fIq (d:=d) ([((Sum.inr "net":Key),V.ref I),((Sum.inr "put":Key),V.ref x),((Sum.inr "sender":Key),V.ref y)]) O8;rw[T];have S3:au H C3:=λb o e=>QO b o (ao e qR) (S2 _ _ e);clear T;clear BW W;left;refine bF ?_;left;refine cZ (S3 _ _ g1) (ay (j:=1) rfl) ?_;left;refine .inl ⟨⟨_,aO.of (S3 _ _ g3)⟩,λM T=>?_⟩;refine qY (o:=.dK []) (S3 _ _ g3) T () (λ_=>Ext.set (Ext.refl _) rfl) (λ_ _ _ r=>r) ?_;intro A3 H3 l O9 WJ;have QT:=l;clear l;have Uk:C3 M=none:=T;left;have BW:=O9 _ _ Ri;refine cD d _ rfl (tL.k (k:=Sum.inr "worker") BW (small nofun)) ?_;have W:putK ([((Sum.inr "net":Key),V.ref I),((Sum.inr "put":Key),V.ref x),((Sum.inr "sender":Key),V.ref y)]:List (Key×V)) (Sum.inr "worker":Key) (V.ref M)=[((Sum.inr "net":Key),V.ref I),((Sum.inr "put":Key),V.ref x),((Sum.inr "sender":Key),V.ref y),((Sum.inr "worker":Key),V.ref M)]:=by kernel_rfl
 rw[W];obtain⟨C4,T,P0,QS,ke3⟩:=fIq (d:=d) ([((Sum.inr "net":Key),V.ref I),((Sum.inr "put":Key),V.ref x),((Sum.inr "sender":Key),V.ref y),((Sum.inr "worker":Key),V.ref M)]) O9;rw[T];have S4:au H C4:=λb o e=>QS b o (ao e qR) (S3 _ _ e);clear T;clear BW W;left;refine bF ?_;left;refine cZ (S4 _ _ g1) (ay (j:=0) rfl) ?_;left;refine .inl ⟨⟨_,aO.of (S4 _ _ g2)⟩,λR QW=>?_⟩;refine aX (J:=tw K am) (n:=mv.length) (λi ys H'=>∃as:List Addr,ys=as.map V.ref/\au C4 H'/\qr C4 H' R as i (λj H' o=>∃v,o=.lst [v]/\HT H' 2 v (xE (g.ms.getD j default).ns (g.ms.getD j default).row))) (E' (small ())) ⟨[],rfl,au.new _ QW,qr.nil⟩ ?_ ?_ ?_ ?_
 ·rintro i ys H' hi ⟨_,_,X,_⟩;exact⟨_,mv[i],aO.of (X _ _ (S4 _ _ g2)),dw hi⟩
 ·rintro ys H' ⟨_,_,X,_⟩;exact⟨_,aO.of (X _ _ (S4 _ _ g2)),K' _⟩
 ·intro i ys H' hi l hl ph xx H4 pC;nofun;obtain⟨as,rfl,X,hL⟩:=ph;obtain⟨rfl,hy⟩:=pC;ac_rfl;have ex:=hy _ (aO.of (X _ _ (S4 _ _ g2)));walk_at "xf";left
  try rw[if_pos trivial]
  have KD:i<g.ms.length:=by lia
  obtain⟨mt,ln,lr,ld,xsd,rfl,m1,m2,m3,T,m5⟩:=h5.2 i xx _ ex (aQ (d:=default) KD);have T:=(S4.trans X)
  calc cZ (T _ _ m1) (ay (j:=1) rfl) ?_;left;calc .inl ⟨_,aO.of (T _ _ m2),λt1 pA=>?_⟩;have r1:=au.new (.tup ((g.ms.getD i default).ns.map V.int)) pA;calc cZ (r1 _ _ (T _ _ m1)) (ay (j:=2) rfl) ?_;left;calc .inl ⟨_,aO.of (r1 _ _ (T _ _ m3)),λt2 nK=>?_⟩;have r2:=au.new (.tup ((g.ms.getD i default).row.map V.int)) nK;calc⟨cH,λt3 T=>?_⟩;have r3:=au.new (.tup [.ref t1,.ref t2]) T;have sP:=r1.trans (r2.trans r3);have Z:HT (upd (upd (upd H4 t1 (.tup ((g.ms.getD i default).ns.map V.int))) t2 (.tup ((g.ms.getD i default).row.map V.int))) t3 (.tup [.ref t1,.ref t2])) 2 (.ref t3) (xE (g.ms.getD i default).ns (g.ms.getD i default).row):=df ab (nX (r3 _ _ (r2 _ _ ab))) (nX (r3 _ _ ab));generalize hGP:upd (upd (upd H4 t1 (.tup ((g.ms.getD i default).ns.map V.int))) t2 (.tup ((g.ms.getD i default).row.map V.int))) t3 (.tup [.ref t1,.ref t2])=HP at *;have DB:=sP _ _ l;left;calc⟨∅,λp hp=>?_⟩;have sN:=au.new (.lst [.ref t3]) hp;have Qa:=sN _ _ DB;have nD:p≠R:=Ne.symm (ao DB hp);refine bR Qa hl hi (E' (small ())) ⟨as++[p],nofun,λb o e=>?_,?_⟩
  ·rw[av (ao e QW)];exact sN _ _ (sP _ _ (X _ _ e))
  ·refine hL.snoc X (by rw[l];simp) (sP.free hp) (o:=.lst [.ref t3]) ?_ ⟨_,rfl,Z.aH (λb xs e=>by rw[av (λz=>by rw[z,DB] at e;cases e)];calc sN _ _ e)⟩ (λb o nb e=>?_) (λj o ⟨v,e,h⟩=>⟨v,e,h.aH (λb xs e=>by rw[av (λz=>by rw[z,l] at e;cases e)];calc sN _ _ (sP _ _ e))⟩)
   ·rw[av nD];exact ab
   ·rw[av nb];exact sN _ _ (sP _ _ e)
 intro ys H4 l hl se;obtain⟨A4,rfl,Mf,WK⟩:=se;have QY:=l;clear l hl;have ZF:C4 R=none:=QW;left;have BW:=Mf _ _ P0;calc cD d _ rfl (tL.k (k:=Sum.inr "states") BW (small nofun)) ?_;have W:putK ([((Sum.inr "net":Key),V.ref I),((Sum.inr "put":Key),V.ref x),((Sum.inr "sender":Key),V.ref y),((Sum.inr "worker":Key),V.ref M)]:List (Key×V)) (Sum.inr "states":Key) (V.ref R)=[((Sum.inr "net":Key),V.ref I),((Sum.inr "put":Key),V.ref x),((Sum.inr "sender":Key),V.ref y),((Sum.inr "worker":Key),V.ref M),((Sum.inr "states":Key),V.ref R)]:=by kernel_rfl
 rw[W];obtain⟨C5,T,MA,QX,ke4⟩:=fIq (d:=d) ([((Sum.inr "net":Key),V.ref I),((Sum.inr "put":Key),V.ref x),((Sum.inr "sender":Key),V.ref y),((Sum.inr "worker":Key),V.ref M),((Sum.inr "states":Key),V.ref R)]) Mf;rw[T];have S5:au H C5:=λb o e=>QX b o (ao e qR) (S4 _ _ e);clear T;clear BW W;left;refine bF ?_;left;refine cZ (S5 _ _ g1) (ay (j:=0) rfl) ?_;left;refine .inl ⟨⟨_,aO.of (S5 _ _ g2)⟩,λN Bl=>?_⟩;refine aX (J:=tw K am) (n:=mv.length) (λi ys H'=>∃as:List Addr,ys=as.map V.ref/\au C5 H'/\qr C5 H' N as i (λ_ H' o=>∃q,o=.lst [.ref q]/\H' q=some (.lst [])/\C5 q=none/\q≠N)) (E' (small ())) ⟨[],rfl,au.new _ Bl,qr.nil⟩ ?_ ?_ ?_ ?_
 ·rintro i ys H' hi ⟨_,_,X,_⟩;exact⟨_,mv[i],aO.of (X _ _ (S5 _ _ g2)),dw hi⟩
 ·rintro ys H' ⟨_,_,X,_⟩;exact⟨_,aO.of (X _ _ (S5 _ _ g2)),K' _⟩
 ·intro i ys H' hi l hl yu xx H4 Ad;nofun;obtain⟨as,rfl,X,hL⟩:=yu;obtain⟨rfl,hy⟩:=Ad;ac_rfl;have ex:=hy _ (aO.of (X _ _ (S5 _ _ g2)));walk_at "xf";left
  try rw[if_pos trivial]
  calc⟨U' _,λqq hqq=>?_⟩;have sP:=au.new (.lst []) hqq;have eqq:upd H4 qq (.lst []) qq=some (.lst []):=ab;have nqD:qq≠N:=Ne.symm (ao l hqq);generalize hGP:upd H4 qq (.lst [])=HP at *;have DB:=sP _ _ l;left;calc⟨∅,λp hp=>?_⟩;have sN:=au.new (.lst [.ref qq]) hp;have Qa:=sN _ _ DB;have nD:p≠N:=Ne.symm (ao DB hp);refine bR Qa hl hi (E' (small ())) ⟨as++[p],nofun,λb o e=>?_,?_⟩
  ·rw[av (ao e Bl)];exact sN _ _ (sP _ _ (X _ _ e))
  ·refine hL.snoc X (by rw[l];simp) (sP.free hp) (o:=.lst [.ref qq]) ?_ ⟨qq,rfl,by rw[av nqD];calc sN _ _ eqq,X.free hqq,nqD⟩ (λb o nb e=>?_) (λj o ⟨T,e,h,h',h2⟩=>⟨T,e,by rw[av h2];calc sN _ _ (sP _ _ h),h',h2⟩)
   ·rw[av nD];exact ab
   ·rw[av nb];exact sN _ _ (sP _ _ e)
 intro ys H5 l hl Dp;obtain⟨A5,rfl,Mg,WL⟩:=Dp;have Q2:=l;clear l hl;have ZJ:C5 N=none:=Bl;left;have BW:=Mg _ _ MA;calc cD d _ rfl (tL.k (k:=Sum.inr "words") BW (small nofun)) ?_;have W:putK ([((Sum.inr "net":Key),V.ref I),((Sum.inr "put":Key),V.ref x),((Sum.inr "sender":Key),V.ref y),((Sum.inr "worker":Key),V.ref M),((Sum.inr "states":Key),V.ref R)]:List (Key×V)) (Sum.inr "words":Key) (V.ref N)=[((Sum.inr "net":Key),V.ref I),((Sum.inr "put":Key),V.ref x),((Sum.inr "sender":Key),V.ref y),((Sum.inr "worker":Key),V.ref M),((Sum.inr "states":Key),V.ref R),((Sum.inr "words":Key),V.ref N)]:=by kernel_rfl
 rw[W];obtain⟨C6,T,Qb,Q1,ke5⟩:=fIq (d:=d) ([((Sum.inr "net":Key),V.ref I),((Sum.inr "put":Key),V.ref x),((Sum.inr "sender":Key),V.ref y),((Sum.inr "worker":Key),V.ref M),((Sum.inr "states":Key),V.ref R),((Sum.inr "words":Key),V.ref N)]) Mg;rw[T];have X:au H C6:=λb o e=>Q1 b o (ao e qR) (S5 _ _ e);clear T;clear BW W;left;refine bF ?_;left;refine cZ (X _ _ g1) (ay (j:=0) rfl) ?_;left;refine .inl ⟨⟨_,aO.of (X _ _ g2)⟩,λD6 T=>?_⟩;refine qY (o:=.lst []) (X _ _ g2) T () (λ_=>Ext.set (Ext.refl _) rfl) (λ_ _ _ r=>And.intro ∅ r) ?_;intro A6 H6 l Pa WM;have Q6:=l;clear l;have ZN:C6 D6=none:=T;left;have BW:=Pa _ _ Qb;refine cD d _ rfl (tL.k (k:=Sum.inr "heard") BW (small nofun)) ?_;have W:putK ([((Sum.inr "net":Key),V.ref I),((Sum.inr "put":Key),V.ref x),((Sum.inr "sender":Key),V.ref y),((Sum.inr "worker":Key),V.ref M),((Sum.inr "states":Key),V.ref R),((Sum.inr "words":Key),V.ref N)]:List (Key×V)) (Sum.inr "heard":Key) (V.ref D6)=[((Sum.inr "net":Key),V.ref I),((Sum.inr "put":Key),V.ref x),((Sum.inr "sender":Key),V.ref y),((Sum.inr "worker":Key),V.ref M),((Sum.inr "states":Key),V.ref R),((Sum.inr "words":Key),V.ref N),((Sum.inr "heard":Key),V.ref D6)]:=by kernel_rfl
 rw[W];obtain⟨C7,l,Rj,Q5,ke6⟩:=fIq (d:=d) ([((Sum.inr "net":Key),V.ref I),((Sum.inr "put":Key),V.ref x),((Sum.inr "sender":Key),V.ref y),((Sum.inr "worker":Key),V.ref M),((Sum.inr "states":Key),V.ref R),((Sum.inr "words":Key),V.ref N),((Sum.inr "heard":Key),V.ref D6)]) Pa;rw[l];have S7:au H C7:=λb o e=>Q5 b o (ao e qR) (X _ _ e);clear l;clear BW W;left;refine⟨U' _,λpe yR=>?_⟩;have sE7:=au.new (.lst []) yR;have aaN:upd C7 pe (.lst []) pe=some (.lst []):=ab;have npe:pe≠d:=Ne.symm (ao Rj yR);generalize agy:upd C7 pe (.lst [])=E7 at *;refine cD d _ rfl (tL.k (k:=Sum.inr "events") (sE7 _ _ Rj) (small nofun)) ?_;have W:putK ([((Sum.inr "net":Key),V.ref I),((Sum.inr "put":Key),V.ref x),((Sum.inr "sender":Key),V.ref y),((Sum.inr "worker":Key),V.ref M),((Sum.inr "states":Key),V.ref R),((Sum.inr "words":Key),V.ref N),((Sum.inr "heard":Key),V.ref D6)]:List (Key×V)) (Sum.inr "events":Key) (V.ref pe)=[((Sum.inr "net":Key),V.ref I),((Sum.inr "put":Key),V.ref x),((Sum.inr "sender":Key),V.ref y),((Sum.inr "worker":Key),V.ref M),((Sum.inr "states":Key),V.ref R),((Sum.inr "words":Key),V.ref N),((Sum.inr "heard":Key),V.ref D6),((Sum.inr "events":Key),V.ref pe)]:=by kernel_rfl
 rw[W];obtain⟨GF,l,edF,kd7,T⟩:=fIq (d:=d) ([((Sum.inr "net":Key),V.ref I),((Sum.inr "put":Key),V.ref x),((Sum.inr "sender":Key),V.ref y),((Sum.inr "worker":Key),V.ref M),((Sum.inr "states":Key),V.ref R),((Sum.inr "words":Key),V.ref N),((Sum.inr "heard":Key),V.ref D6),((Sum.inr "events":Key),V.ref pe)]) sE7;rw[l];have epe:=T _ _ npe aaN;have SF:au H GF:=λb o e=>kd7 b o (ao e qR) (S7 _ _ e);clear l T;clear W;have L:∀(A:Hp) (kv:List (Key×V)) (b:Addr) (vs:List V),A d=some (.dK kv)->A b=some (.lst vs)->b≠d:=λA kv b vs S e2 z=>by rw[z,S]at e2;cases e2
 have ndk:∀(A:Hp) (p:Key×V) (kv:List (Key×V)) (b:Addr),A d=some (.dK (p::kv))->A b=some (.dK [])->b≠d:=λA p kv b S e2 z=>by rw[z,S]at e2;cases e2
 have Jk:∀(A:Hp) (kv:List (Key×V)) (b:Addr) (vs:List V),A d=some (.dK kv)->A b=some (.tup vs)->b≠d:=λA kv b vs S e2 z=>by rw[z,S]at e2;cases e2
 have kc7:=kd7;have Xb:∀b o,b≠d->C6 b=some o->GF b=some o:=λb o n e=>kc7 b o n (Q5 b o n e);have KG:∀b o,b≠d->C5 b=some o->GF b=some o:=λb o n e=>Xb b o n (Q1 b o n e);have Mh:∀b o,b≠d->C4 b=some o->GF b=some o:=λb o n e=>KG b o n (QX b o n e);have Mi:∀b o,b≠d->C3 b=some o->GF b=some o:=λb o n e=>Mh b o n (QS b o n e);have Pb:∀b o,b≠d->C2 b=some o->GF b=some o:=λb o n e=>Mi b o n (QO b o n e);have Vj:qr C1 C2 x A1 wv.length (λ_ _ o=>o=.lst []):=WG;have Hx:=Ub;have Vk:=Vj.keep (λj b o e c=>by subst c;calc⟨Pb b _ (L _ _ _ _ Rh e) e,rfl⟩);have Vl:=Pb _ _ (L _ _ _ _ Rh Hx) Hx;have Vm:qr C2 C3 y A2 wv.length (λ_ _ o=>o=.lst []):=WI.keep (λj b o e c=>by subst c;calc⟨ke2 b _ (L _ _ _ _ (O8 _ _ Rh) e) e,rfl⟩);have Hy:=ke2 _ _ (L _ _ _ _ (O8 _ _ Rh) QP) QP;have Vn:=Vm.keep (λj b o e c=>by subst c;calc⟨Mi b _ (L _ _ _ _ Ri e) e,rfl⟩);have Vo:=Mi _ _ (L _ _ _ _ Ri Hy) Hy;have Vp:qr C3 C4 M A3 wv.length (λ_ _ o=>o=.dK []):=WJ.keep (λj b o e c=>by subst c;calc⟨ke3 b _ (ndk _ _ _ _ (O9 _ _ Ri) e) e,rfl⟩);have Hz:=ke3 _ _ (L _ _ _ _ (O9 _ _ Ri) QT) QT;have Vq:=Vp.keep (λj b o e c=>by subst c;calc⟨Mh b _ (ndk _ _ _ _ P0 e) e,rfl⟩);have Vr:=Mh _ _ (L _ _ _ _ P0 Hz) Hz;have Vs:qr C4 C5 R A4 mv.length (λj H' o=>∃v,o=.lst [v]/\HT H' 2 v (xE (g.ms.getD j default).ns (g.ms.getD j default).row)):=WK.keep (λj b o e c=>by
  obtain⟨v,rfl,Z⟩:=c;calc⟨ke4 b _ (L _ _ _ _ (Mf _ _ P0) e) e,v,rfl,Z.aH (λb' xs e'=>ke4 b' _ (Jk _ _ _ _ (Mf _ _ P0) e') e')⟩)
 have HA:=ke4 _ _ (L _ _ _ _ (Mf _ _ P0) QY) QY;have Vt:=Vs.keep (λj b o e c=>by
  obtain⟨v,rfl,Z⟩:=c;calc⟨KG b _ (L _ _ _ _ MA e) e,v,rfl,Z.aH (λb' xs e'=>KG b' _ (Jk _ _ _ _ MA e') e')⟩)
 have Vu:=KG _ _ (L _ _ _ _ MA HA) HA;have wb:qr C5 C6 N A5 mv.length (λ_ H' o=>∃q,o=.lst [.ref q]/\H' q=some (.lst [])/\C5 q=none/\q≠N):=WL.keep (λj b o e c=>by
  obtain⟨v,rfl,Z,Vv,Vw⟩:=c;calc⟨ke5 b _ (L _ _ _ _ (Mg _ _ MA) e) e,v,rfl,ke5 v _ (L _ _ _ _ (Mg _ _ MA) Z) Z,Vv,Vw⟩)
 have vd:=ke5 _ _ (L _ _ _ _ (Mg _ _ MA) Q2) Q2;have nn:∀{A:Hp} {b:Addr} {o:HO},A b=some o->A b≠none:=λe z=>by rw[e]at z;cases z
 have Vx:qr C5 C6 N A5 mv.length (λ_ H' o=>∃q,o=.lst [.ref q]/\H' q=some (.lst [])/\C5 q=none/\C6 q≠none):=⟨wb.len,wb.nd,wb.new,λj a e=>by
  obtain⟨o,S,q,rfl,e2,l,_⟩:=wb.ins j a e;calc⟨_,S,q,rfl,e2,l,nn e2⟩⟩
 have Qc:=Vx.keep (λj b o e c=>by
  obtain⟨v,rfl,Z,Vv,Vw⟩:=c;calc⟨Xb b _ (L _ _ _ _ Qb e) e,v,rfl,Xb v _ (L _ _ _ _ Qb Z) Z,Vv,Vw⟩)
 have Vy:=Xb _ _ (L _ _ _ _ Qb vd) vd;have Vz:qr C6 C7 D6 A6 mv.length (λ_ _ o=>o=.lst []):=WM.keep (λj b o e c=>by subst c;calc⟨ke6 b _ (L _ _ _ _ (Pa _ _ Qb) e) e,rfl⟩);have HB:=ke6 _ _ (L _ _ _ _ (Pa _ _ Qb) Q6) Q6;have VA:=Vz.keep (λj b o e c=>by subst c;calc⟨kc7 b _ (L _ _ _ _ Rj e) e,rfl⟩);have VB:=kc7 _ _ (L _ _ _ _ Rj HB) HB;rw[jJ]at Vk;rw[jJ]at Vn;rw[jJ]at Vq;rw[lQ]at Vt;rw[lQ]at Qc;rw[lQ]at VA;obtain⟨ad,O5⟩:∃ad:Nat->Nat->Addr,∀t i,ad t i=([[pe],A4,A5,A6,A1,A2,A3].getD t []).getD i 0:=⟨_,λ_ _=>rfl⟩
 have pz:∀{A B:Hp},(∀b o,b≠d->A b=some o->B b=some o)->∀{o},B d=some o->∀b,A b≠none->B b≠none:=λ{A B} h {o} e b hb=>by
  by_cases z:b=d
  ·rw[z,e];exact λz=>nomatch z
  ·cases S:A b with
   |none=>calc absurd S hb
   |some u=>rw[h b u z S];exact λz=>nomatch z
 have T5:∀a<7,∀b<7,[6,3,4,5,0,1,2].getD a 7=[6,3,4,5,0,1,2].getD b 7->a=b:=by decide
 obtain⟨cj,Ma,ZP⟩:=BL (F:=F) (G:=GF) (n:=g.n) (c:=(RS.new g).tv) (λt=>[C1,C2,C3,C4,C5,C6,C7].getD t GF) (λt=>[6,3,4,5,0,1,2].getD t 7) _ (λt=>[d,R,N,D6,x,y,M].getD t d) (λt=>[λ_ _ u=>u=.lst [],λj H' o=>∃v,o=.lst [v]/\HT H' 2 v (xE (g.ms.getD j default).ns (g.ms.getD j default).row),λ_ H' o=>∃q,o=.lst [.ref q]/\H' q=some (.lst [])/\C5 q=none/\C6 q≠none,λ_ _ o=>o=.lst [],λ_ _ o=>o=.lst [],λ_ _ o=>o=.lst []].getD t λ_ _ o=>o=.dK []) O5 (λ_=>rfl) (λt l h h'=>T5 t () l ())
  (λt=>match t with
   |0=>pz WH Rh
   |1=>pz QO Ri
   |2=>pz QS P0
   |3=>pz QX MA
   |4=>pz Q1 Qb
   |5=>pz Q5 Rj
   |6=>pz kd7 edF
   | (t + 7)=>λb h=>h)
  (λb h=>by
   obtain⟨o,e,l⟩:=lR b h;calc⟨nn (Rg _ _ e),o,SF _ _ e,l⟩)
  (λt ht=>match t,ht with
   | 0,_=>⟨⟨rfl,nofun,λa m=>by rw[List.mem_singleton.mp m];exact⟨yR,Ne.symm (ao Rj yR)⟩,λj a e=>by cases j with
    |zero=>cases e;calc⟨_,epe,rfl⟩
    | succ j=>cases e⟩,λa m=>by rw[List.mem_singleton.mp m];calc nn epe,λh=>absurd h ∅⟩
   |1,_=>⟨Vt,Vs.some,λ_=>⟨ZF,nn HA⟩⟩
   |2,_=>⟨Qc,wb.some,λ_=>⟨ZJ,nn vd⟩⟩
   |3,_=>⟨VA,Vz.some,λ_=>⟨ZN,nn HB⟩⟩
   |4,_=>⟨Vk,Vj.some,λ_=>⟨Zt,nn Hx⟩⟩
   |5,_=>⟨Vn,Vm.some,λ_=>⟨Ug,nn Hy⟩⟩
   |6,_=>⟨Vq,Vp.some,λ_=>⟨Uk,nn Hz⟩⟩
   | (t + 7),h=>absurd h ())
  (λt i u ht h=>by
   match t,ht,h with
   |0,_,h|3,_,h|4,_,h|5,_,h|6,_,h=>cases h;trivial
   |1,_,⟨_,e,_⟩|2,_,⟨_,e,_⟩=>cases e;trivial
   | (t + 7),h,_=>calc absurd h ())
  (λhz fo t i u ht hi e h=>by
   match t,ht,h with
   |0,_,h|3,_,h|4,_,h|5,_,h=>cases h;calc(eE.nil:eE _ 4 [] [])
   |1,_,⟨v,e,Z⟩=>cases e;calc(eE.one ((GL hz Z).mono ∅):eE _ 4 [v] [_])
   |2,_,⟨v,e,Z,Vv,Vw⟩=>
    cases e;have nq:=fo 4 v Vv Vw (λt ht es m=>by
     have:=T5 t () 2 () es;subst this;obtain⟨j,e⟩:=List.getElem?_of_mem m;obtain⟨_,S,q,rfl,_⟩:=Qc.ins j _ e;rw[Z] at S;cases S)
    show eE (hE (λb=>F b\/FP g.n ad b) GF) 4 [.ref v] [.lst []];calc eE.one (.lst (by rw[fJ nq];calc Z) rfl (λi u e Y=>by simp at Y))
   |6,_,h=>
    cases h;exact⟨U' _,λk=>by
     have S:jO ((RS.new g).ww i).dj k=none:=by
      show jO [] k=none;unfold jO;split<;>rfl
     rw[S];calc EM⟩
   | (t + 7),h,_=>calc absurd h ())
 have O:∀b,FP g.n ad b->H b=none:=λb hb=>Rg.free (Ma b hb).1;have nF:∀b,H b=none->¬F b:=λb e z=>by
  obtain⟨o,S,_⟩:=lR b z;rw[e]at S;cases S
 have hT:cf F GF d (.ref I) g (RS.new g) ad:=by
  refine⟨⟨λt=>[d,R,N,D6,x,y,M].getD t d,?_,nF d qR,λz=>nn ed0 (Ma d z).1,λt h1 h6=>?_⟩,cj,⟨ls,hN.cv ?_⟩,aW⟩
  ·rw[edF,Je,O5];rfl
  ·obtain⟨k,l,u⟩:=ZP t h1 h6;calc⟨?_,k,l⟩;rw[<-u]
   match t,h1,h6 with
   |1,_,_=>calc Vu
   |2,_,_=>calc Vy
   |3,_,_=>calc VB
   |4,_,_=>calc Vl
   |5,_,_=>calc Vo
   |6,_,_=>calc Vr
   |(t+7),_,h=>exact absurd h ()
  ·intro b l e n;obtain⟨k,z2⟩:=dG e n;rw[fJ]
   ·exact SF _ _ z2
   ·rintro(z | z)
    ·exact k z
    ·rw[O b z]at z2;cases z2
 have h7F:=h7.aH SF.aP;left;refine cZ (SF _ _ g1) (ay (j:=2) rfl) (.inl ⟨⟨_,aO.of (SF _ _ g4)⟩,eS (K:=K) (xs:=lv) (λi σ H'=>(∃z2 z3,σ=[some (V.ref I),some (V.ref d),z2,z3])/\Fr (FP g.n ad) GF H'/\cf F H' d (.ref I) g ((RS.new g).kg (ls.take i)) ad) ?_ ?_ ?_ ?_⟩)
 ·exact⟨⟨_,_,rfl⟩,Fr.refl,hT⟩
 ·rintro i σ H' hi ⟨_,fi,_⟩;exact aO.of (fi.at (SF _ _ g4) (λz=>by rw[O _ z]at g4;cases g4))
 ·intro i z σ H' hzz aaQ;nofun;obtain⟨⟨z2,z3,rfl⟩,fi,BV⟩:=aaQ;have j:i < ls.length:=by rw[<-qS];exact(List.getElem?_eq_some_iff.mp hzz).1
  have k:ls[i]?=some ls[i]:=dw j;have O3:=(h7F.2 i z (qy ls[i]) hzz (by rw[List.getElem?_map,k];rfl)).aH fi.aP;have GR:=qK _ (W' j);have Kz:(RS.new g).kg (ls.take (i+1))=((RS.new g).kg (ls.take i)).put ls[i].1.toNat ls[i].2 none:=by
   rw[List.take_succ,k];exact pO _
  have zY:=(qV (ls.take i) (Aa aW)).mono (show _<=19998 by simp;lia);generalize ls[i]=p at *;obtain⟨U,px⟩:=p;obtain⟨tz,u1,u2,kz,rfl,DG,y1,y2⟩:=dF O3;obtain rfl:=y1.cP;obtain rfl:=y2.cP;have k:=GR.1;have j:=GR.2;simp only at k j;have ej:((U.toNat:Nat):Int)=U:=aaH k;have qU:U.toNat<g.ws.length:=by lia
  generalize hri:(RS.new g).kg (ls.take i)=ri at *;ac_rfl;calc tE (bQ.of DG) ?_;nofun;obtain⟨l,Ve,j,nPi,k⟩:=BV.dk;have j:=k 4 ∅ ∅;have Vf:=k 5 ∅ ∅;have l:=BV.cj;obtain⟨w4,x4,k⟩:=l.lst (t:=4) (i:=U.toNat) qU rfl;ac_rfl;have u:w4.length=(ri.ww U.toNat).say.length:=by simpa using k.1
  have k:=zY.bs _ qU;have k:=zY.ls _ qU;left;calc bA _ (yC Ve) ?_;left;have k:iJ (fT g.n ad 4) U=some (.ref (ad 4 U.toNat)):=by have:=aU (n:=g.n) (ad:=ad) (t:=4) qU;rw[ej]at this;exact this
  have rb:iJ (fT g.n ad 5) U=some (.ref (ad 5 U.toNat)):=by have:=aU (n:=g.n) (ad:=ad) (t:=5) qU;rw[ej]at this;exact this
  calc bD j.1 k ?_;calc⟨.inl ⟨rfl,_,aO.of x4⟩,?_⟩;left;calc gw w4 x4 (small ()) ?_;have bj:=l.app (t:=4) (i:=U.toNat) qU rfl x4 (eE.one (.int px));have fj:Fr (FP g.n ad) H' (upd H' (ad 4 U.toNat) (.lst (w4++[.int px]))):=Fr.refl.upd ⟨4,U.toNat,qU,rfl⟩ x4 trivial;generalize hGj:upd H' (ad 4 U.toNat) (.lst (w4++[.int px]))=Hj at *;obtain⟨k,j,l⟩:=bj.lst (t:=5) (i:=U.toNat) qU rfl;have n:k.length=(ri.ww U.toNat).snd.length:=by simpa using l.1
  left;calc bA _ (He (fj.at Ve nPi)) ?_;left;calc bD (fj.at Vf.1 Vf.2.2) rb ?_;calc⟨.inl ⟨rfl,_,aO.of j⟩,?_⟩;left;calc gw k j (small ()) ?_;have l:=bj.app (t:=5) (i:=U.toNat) qU rfl j (eE.one (show HD _ 4 .bP (oH none) from .bP));have i:Fr (FP g.n ad) H' (upd Hj (ad 5 U.toNat) (.lst (k++[.bP]))):=fj.upd ⟨5,U.toNat,qU,rfl⟩ j trivial;left;calc gC ⟨_,_,rfl,rfl⟩ (fi.trans i) ?_;rw[Kz];exact BV.own i (l.congr Hq)
 ·intro σ H' aaS;obtain⟨⟨z2,z3,rfl⟩,fi,BV⟩:=aaS;left;rw[qS,List.take_length]at BV;calc q d ad H' (λb o e=>?_) O qR BV;calc fi.at (SF _ _ e) (λz=>by rw[O b z]at e;cases e)
def gO(nt:NT)(r:RS)(s:List (Int×Int)):RS:=s.foldl (λr p=>r.pick nt p.1.toNat p.2.toNat) r
def K4(nt:NT)(r:RS)(s:List (Int×Int)):Prop:=∀(i:Nat) p,s[i]?=some p->∃w k:Nat,p=((w:Int),(k:Int))/\(gO nt r (s.take i)).Kw nt w k
theorem mZ{nt:NT}{w k:Nat}:gO nt r (s++[((w:Int),(k:Int))])=(gO nt r s).pick nt w k:=by
 unfold gO;rw[List.foldl_append];rfl
theorem HC{nt:NT}:K4 nt r []:=λi p e=>by simp at e
theorem DC{nt:NT}{w k:Nat}(h:K4 nt r s)(a:(gO nt r s).Kw nt w k):K4 nt r (s++[((w:Int),(k:Int))]):=λi p e=>by
 by_cases b:i<s.length
 ·rw[List.getElem?_append_left b]at e;rw[List.take_append_of_le_length ()];exact h i p e
 ·have c:i=s.length:=by
   have:=(List.getElem?_eq_some_iff.mp e).1;simp at this;lia
  subst c;rw[List.getElem?_append_right (Nat.le_refl _),Nat.sub_self]at e;obtain rfl:=Option.some.inj e;calc⟨w,k,rfl,by rw[List.take_left];calc a⟩
structure _root_.DD.RS.Hb(n:NT)(r:RS):Prop where
 hb:∀m,m<n.ms.length->∀h∈(r.mm m).hr,∀j,j<n.ms.length->0<=h.getD j 0/\h.getD j 0<((r.mm j).dN.length:Nat)
theorem lO{a b:List Int}{j:Nat}(c:j<a.length)(d:j<b.length):(List.zipWith max a b).getD j 0=max (a.getD j 0) (b.getD j 0):=by
 rw[List.getD_eq_getElem?_getD,List.getD_eq_getElem?_getD,List.getD_eq_getElem?_getD,List.getElem?_zipWith,dw c,dw d];rfl
theorem _root_.DD.RS.Hb.pick{n:NT}(h:r.Hb n)(ok:r.Ok n)(C:n.Ok){w k:Nat}(B:w<n.ws.length)(F:k<(r.ww w).snd.length):(r.pick n w k).Hb n:=by
 have o:=(RS.qO (outs:=n.outs (n.goal w)) (ev:=n.ev r w) (n.work r w k).cJ (r:=r.step n w k)).1;have v:n.goal w<n.ms.length:=C.gP B;have x:∀j,j<n.ms.length->(r.mm j).dN.length<=(((r.pick n w k).mm j).dN).length/\(j=n.goal w->(((r.pick n w k).mm j).dN).length=(r.mm j).dN.length+1):=λj d=>by
  show _<=((((r.step n w k).send _ _ _).mm j).dN).length/\_;unfold RS.pick;rw[o];show _<=(if j=n.goal w then _ else r.mm j:MS).dN.length/\(_->(if j=n.goal w then _ else r.mm j:MS).dN.length=_);by_cases q:j=n.goal w
  ·subst q;rw[if_pos rfl];simp
  ·rw[if_neg q];exact⟨K' _,λz=>absurd z q⟩
 have i:∀m,m<n.ms.length->∀l∈(r.mm m).hr,∀j,j<n.ms.length->0<=l.getD j 0/\l.getD j 0<(((r.pick n w k).mm j).dN.length:Nat):=λm y l g j d=>by
  have a:=h.hb m y l g j d;have b:=(x j d).1;exact⟨a.1,()⟩
 calc⟨λm y l g j d=>?_⟩;have g:l∈(if m=n.goal w then(⟨(r.mm (n.goal w)).dN++[((n.work r w k).ns,(n.work r w k).row)],(r.mm (n.goal w)).wp++[(r.mm (n.goal w)).wp.bq []++(n.work r w k).words],(r.mm (n.goal w)).hr++[n.gb r w k]⟩:MS) else r.mm m).hr:=by
  unfold RS.pick at g;rw[o]at g;exact g
 by_cases q:m=n.goal w
 ·rw[if_pos q] at g;rcases List.mem_append.mp g with g | g
  ·exact i _ v l g j d
  ·rw[List.mem_singleton.mp g];have u:((r.mm (n.goal w)).hr.bq (List.replicate n.ms.length 0)).length=n.ms.length/\∀j,j<n.ms.length->0<=((r.mm (n.goal w)).hr.bq (List.replicate n.ms.length 0)).getD j 0/\((r.mm (n.goal w)).hr.bq (List.replicate n.ms.length 0)).getD j 0<(((r.pick n w k).mm j).dN.length:Nat):=by
    by_cases o:1<=(r.mm (n.goal w)).hr.length
    ·exact⟨ok.hl _ v _ (fg o),λj d=>i _ v _ (fg o) j d⟩
    ·have o:(r.mm (n.goal w)).hr=[]:=List.length_eq_zero_iff.mp ();rw[o];calc⟨by simp[List.bq],λj d=>?_⟩;have:=ok.lh j d;have:=(x j d).1;have e:(([]:List (List Int)).bq (List.replicate n.ms.length 0)).getD j 0=0:=by simp[List.bq,List.getD_eq_getElem?_getD,List.getElem?_replicate,d]
     rw[e];lia
   have G:∃t:List Int,n.gb r w k=t.set (n.goal w) (n.ev r w).2/\t.length=n.ms.length/\∀j,j<n.ms.length->0<=t.getD j 0/\t.getD j 0<(((r.pick n w k).mm j).dN.length:Nat):=by
    unfold NT.gb
    cases o:(r.ww w).snd.getD k none with
    |none=>calc⟨_,rfl,u⟩
    |some p=>
     obtain⟨s,c⟩:=p;obtain⟨k,v,C,I⟩:=ok.sd w B s c (by rw[<-o];calc getD_mem F);have k:(r.mm s.toNat).hr.getD (c-1).toNat []∈(r.mm s.toNat).hr:=getD_mem ();have o:=ok.hl s.toNat () _ k;calc gw _ rfl (by rw[List.length_zipWith,u.1,o];lia) (λj d=>?_);rw[lO (by rw[u.1];calc d) (by rw[o];calc d)];have a:=u.2 j d;have b:=i s.toNat () _ k j d;lia
   obtain⟨t,e,o,k⟩:=G;rw[e,List.getD_eq_getElem?_getD,List.getElem?_set];by_cases z:n.goal w=j
   ·rw[if_pos z,if_pos ()];have b:=(x j d).2 z.symm;show 0<=(n.ev r w).2/\(n.ev r w).2<_;have o:(n.ev r w).2=((r.mm (n.goal w)).dN.length:Nat):=rfl;rw[o,b,z];lia
   ·rw[if_neg z,<-List.getD_eq_getElem?_getD];exact k j d
 ·rw[if_neg q]at g;calc i m y l g j d
structure m7(nt:NT)(ls:List (Int×Int))(r:RS):Prop where
 ok:r.Ok nt
 iv:r.Iv nt
 hb:r.Hb nt
 pl:r=gO nt (RS.begin nt ls) r.picks
 can:K4 nt (RS.begin nt ls) r.picks
theorem m7.pick{nt:NT}(h:m7 nt ls r)(c:nt.Ok){w k:Nat}(a:r.Kw nt w k):m7 nt ls (r.pick nt w k)/\(r.pick nt w k).picks=r.picks++[((w:Int),(k:Int))]:=by
 have b:=RS.Ok.pick c h.ok (k:=k) a.lt;have d:k<(r.ww w).snd.length:=by rw[<-h.ok.ls w a.lt,h.ok.lk w a.lt];exact(List.getElem?_eq_some_iff.mp a.lies).1
 calc⟨⟨b.1,h.iv.pick c a.lt a.lies,h.hb.pick h.ok c a.lt d,by rw[b.2,mZ,<-h.pl],by rw[b.2];calc DC h.can (by rw[<-h.pl];calc a)⟩,b.2⟩
theorem m7.begin{nt:NT}(d:nt.Ok){ls:List (Int×Int)}(h:ls.length<=20):m7 nt ls (RS.begin nt ls):=by
 obtain⟨a,b⟩:=sS d h;calc⟨a,RS.Iv.begin,⟨λm f g c=>?_⟩,by rw[b];rfl,by rw[b];calc HC⟩;have e:∀(ls:List (Int×Int)) (r:RS),(r.kg ls).mm=r.mm:=λls=>by
  induction ls with
  |nil=>intro r;rfl
  |cons p f d=>intro r;exact d _
 unfold RS.begin at c;rw[e]at c;simp[RS.new]at c
abbrev pT:Stmt:=top 67
inductive HE(vs:List V)(H:Hp)(Q:VK):Prop
 |mk (F:Addr->Prop) (tn:V) (nt:NT) (ls:List (Int×Int)) (l:Addr) (xs:List Int) (h0:vs=[tn,.ref l]) (h1:ToldN (hE F H) tn nt.ms nt.ws ls) (h2:FS F H) (h3:nt.Ok) (h4:ls.length<=20) (h5:∀l∈ls,0<=l.1/\l.1<nt.ws.length) (h7:H l=some (.lst (xs.map V.int))) (h8:xs.length<=40) (q:∀d ad r H',au H H'->(∀b,FP nt.n ad b->H b=none)->H d=none->cf F H' d tn nt r ad->m7 nt ls r->r.picks.length<=40->Q (.ref d) H'):HE vs H Q
def BX:Sp:=λvs H Q _=>HE vs H Q
theorem DE(D:cS K mg "_law_ran" "_law_ran" pT ["_law_net_here","_law_cells"])(T:Tx K mg C CN CR F FD)(fA:Def P w K mg base "_law_begun" 1 ["_law_net_here"] wq)(m9:Def P w K mg base "_law_free" 2 ["_law_run"] Hh)(gm:Def P w K mg base "_law_pick" 3 ["_law_run","_law_way","_law_number"] wk):Def P w K mg base "_law_ran" 4 ["_law_net_here","_law_cells"] BX:=by
 have sc:aC ["_law_net_here","_law_cells","_law_run","_law_cell","_law_free_here","_law_way","_law_number"] ["_law_net_here","_law_cells"] (ax pT):=by walk_at "s"
 symm;obtain⟨F,o,a,ls,l,N,rfl,Rk,O,x,u,qK,v,R,q⟩:=h;have I:=hr.units;refine⟨_,(ag (aZ (i:=2) sc.nd rfl Sort (aK fA hr (af (aq 0) aa)))
  (ag (cQ PassesOwn.never rfl (bS (pv 1)) (aN (i:=3) sc.nd rfl Sort)
  (ag (aZ (i:=4) sc.nd rfl Sort (aK m9 hr (af (aq 2) aa)))
  (ak (aS (az (eQ I) (aq 4) (bL aa) (aE _)) (ag (eY (aj I (aq 4) (bc eO (aq 3) (aV aL rfl T.bT L' (af (aq 4) aa)))) (e9 (i:=5) (j:=6) rfl sc.nd rfl rfl Sort Sort))
  (ak (bJ (aK gm hr (af (aq 2) (af (aq 5) (af (aq 6) aa))))))) aG))))
  (ak (aD (aq 2))))),?_⟩
 calc L2.bO λT R=>?_;right;calc⟨F,o,a,ls,rfl,Rk,O,x,u,qK,λd ad H1 S c fd DY=>?_⟩;calc L2.bX R ?_;clear R;have U:=m7.begin x u;have Bn:=S _ _ v;have nl:¬FP a.n ad l:=λz=>by rw[c _ z]at v;cases v
 right;refine⟨_,rfl,.inl ⟨⟨_,aO.of Bn⟩,eS (K:=K) (xs:=N.map V.int) (λi σ H'=>(∃W X Y Z,σ=[some o,some (V.ref l),some (V.ref d),W,X,Y,Z])/\Fr (FP a.n ad) H1 H'/\∃r,cf F H' d o a r ad/\m7 a ls r/\r.picks.length<=i) ?_ ?_ ?_ ?_⟩⟩
 ·exact⟨⟨_,_,_,_,rfl⟩,Fr.refl,_,DY,U,by rw[(sS x u).2];calc K' _⟩
 ·rintro i σ H' l ⟨_,g,_⟩;exact aO.of (g.at Bn nl)
 ·intro i z σ H' hz gQ;nofun;obtain⟨⟨W,X,Y,Z,rfl⟩,g,r,y,k,vz⟩:=gQ;have l:i<40:=by
   have:=(List.getElem?_eq_some_iff.mp hz).1;rw[List.length_map]at this;lia
  rw[List.getElem?_map]at hz;obtain⟨J,_,rfl⟩:=Option.map_eq_some_iff.mp hz;ac_rfl;right;calc⟨F,d,o,a,r,ad,rfl,y,k.ok,(),λu ys H2 s2 v i l=>?_⟩;right;calc⟨U' _,λp u=>?_⟩;have L:=au.new (.lst []) u;have M:=L _ _ i;have VE:=l.aH L.aP;have t:upd H2 p (.lst []) p=some (.lst []):=ab;have B:=(y.same s2).same L;have tF:=s2.trans L;generalize hGp:upd H2 p (.lst [])=Gp at *;by_cases hy:ys=[]
  ·subst hy;calc .inl ⟨.inr ⟨_,_,[],[],rfl,rfl,.inr ⟨aO.of M,aO.of t⟩,rfl,λj u v I=>by simp at I⟩,?_⟩;rw[if_neg ∅];right;exact⟨⟨_,_,_,_,rfl,rfl,rfl,rfl⟩,g.trans tF.fr,r,B,k,()⟩
  calc .inr ⟨⟨ys,[],λh=>hy (List.length_eq_zero_iff.mp h),.inl ⟨aO.of M,aO.of t⟩⟩,?_⟩;rw[if_pos trivial];right;have i:0<ys.length:=List.length_pos_iff.mpr hy;nofun;obtain⟨m,aaV⟩:∃m:Nat,J%(ys.length:Int)=m:=⟨(J%(ys.length:Int)).toNat,by have:=aaD J (show(ys.length:Int)≠0 by lia);lia⟩
  have yk:m<ys.length:=by have:=aau J (show(0:Int)<ys.length by lia);lia
  have i:ys.length=(kd a r a.ws.length).length:=by simpa using VE.1
  have G:m<(kd a r a.ws.length).length:=by lia
  have hel:=VE.2 m ys[m] _ (dw yk) (by rw[List.getElem?_map,dw G];rfl);have xn:=W' G;generalize (kd a r a.ws.length)[m]=pr at *;obtain⟨u,i⟩:=pr;have l:=Hg k.ok xn;obtain⟨t,j,m⟩:=qt hel;ac_rfl;calc⟨_,.inl ⟨_,aO.of M,rfl⟩,(),_,_,.inl (aO.of M),by rw[aaV];calc ay (dw yk),?_⟩;rw[j];calc tE (bQ.of m) ?_;right;calc⟨F,d,o,a,r,ad,u,i,rfl,B,O.fr (S.fr.trans (g.trans tF.fr)) y.cj.uc,k.ok,l,(),λt I v G _=>?_⟩;obtain⟨a,i⟩:=k.pick x l;exact⟨⟨_,_,_,_,rfl,rfl,rfl,rfl⟩,(g.trans tF.fr).trans v,_,G,a,by rw[i];simp;lia⟩
 ·intro σ H' gR;obtain⟨⟨W,X,Y,Z,rfl⟩,g,r,y,k,vz⟩:=gR;right;rw[List.length_map]at vz;calc q d ad r H' (λb o e=>g.at (S _ _ e) λz=>by rw[c _ z]at e;cases e) c fd y k ()
theorem HF:1<=sizeLine:=by rw[sizeLine_eq];lia
theorem fO{n:Nat->Nat}{t i:Nat}(h:i<n t):(fT n ad t)[i]?=some (.ref (ad t i)):=by simp[fT,h]
abbrev jo:Stmt:=top 69
inductive HG(vs:List V)(H:Hp)(Q:VK):Prop
 |mk (F:Addr->Prop) (d:Addr) (tn:V) (nt:NT) (r:RS) (ad:Nat->Nat->Addr) (p:Addr) (H0:Hp) (h0:vs=[.ref d,.ref p]) (h1:cf F H0 d tn nt r ad) (h2:au H0 H) (h3:H0 p=none) (h4:eN H p) (h5:r.Ok nt) (h6:r.Hb nt) (h7:r.picks.length<=400) (q:∀t cut H',Step p H H'->H' t=some (.tup (cut.map V.int))->jI nt r cut->Q (.ref t) H'):HG vs H Q
def qZ:Sp:=λvs H Q _=>HG vs H Q
theorem ug(D:cS K mg "_law_any_cut" "_law_any_cut" jo ["_law_run","_law_pot_here"])(T:Tx K mg C CN CR F FD)(S:Def P w K mg base "_law_digit" 1 ["_law_pot_here","_law_many"] gy):Def P w K mg base "_law_any_cut" 2 ["_law_run","_law_pot_here"] qZ:=by
 have sc:aC ["_law_run","_law_pot_here"] ["_law_run","_law_pot_here"] (ax jo):=by walk_at "s"
 symm;obtain⟨F,d,U,l,r,ad,p,H0,rfl,o,g,u,z,B,W,X,q⟩:=h;have U:=hr.units;refine⟨_,(ak (aD (cX bN rfl T.bW oK (af (cO (N':=["_law_states","_law_pot_here"]) (ix:=[none,some 1]) (bS (aj U (aq 0) aB)) (λ_ _ _ _=>(aN (i:=0) (show(["_law_states","_law_pot_here"]:List Str).Nodup by decide +kernel) rfl Sort)) kG (λ_ _ _ _=>(aK S hr (af (aq 1) (af (aV (gY (K:=K) rfl) rfl T.bT L' (af (aq 0) aa)) aa))))) aa)))),?_⟩;obtain⟨S,U,X,nP,W⟩:=o.dk;have v:=(W 1 ∅ ∅).1;have T:=o.ok;have W:=T.Kb;right;refine bF ?_;right;refine bA _ (yD (g _ _ U)) ?_;right;refine .inl ⟨⟨_,aO.of (g _ _ v)⟩,λD I=>?_⟩;have k:D≠p:=Step.ne z I;refine aX (J:=tw K (S 1)) (n:=l.ms.length) (λi ys G=>Step p H G/\∃a:List Int,ys=a.map V.int/\a.length=i/\∀j,j < i->0<=a.getD j 0/\a.getD j 0 < ((r.mm j).dN.length:Nat)) (E' (aA ())) ⟨(Step.refl z).new I,[],rfl,rfl,λj N=>absurd N (Nat.not_lt_zero _)⟩ ?_ ?_ ?_ ?_
 ·rintro i ys G b ⟨st,_⟩;exact⟨_,_,aO.of (st.over g u _ _ v),fO (show i<l.n 1 from b)⟩
 ·rintro ys G ⟨st,_⟩;exact⟨_,aO.of (st.over g u _ _ v),Nat.le_of_eq dW⟩
 ·intro i ys G b L Y Z xx G2 gR;nofun;obtain⟨st,a,rfl,M,x⟩:=Z;obtain⟨rfl,y⟩:=gR;have O:=st.over g u;have R:=y _ (aO.of (O _ _ v));rw[fO (show i < l.n 1 from b)] at R;obtain rfl:=Option.some.inj R;obtain⟨g,e1,l⟩:=(o.same O).cj.lst (t:=1) (i:=i) b rfl;ac_rfl;have z1:g.length=(r.mm i).dN.length:=by simpa using l.1
  have g:=B.lh i b;have g:=B.bp i b;walk_at "xf";right;refine bA _ (.inl ⟨_,aO.of e1,rfl⟩) ?_;rw[z1];refine kD p _ rfl st.fC () (yz () ()) (λl o qR Z8 g=>?_)
  try rw[if_pos trivial]
  have u:=g.rest _ _ L k;calc bR u Y b (E' (aA ())) ⟨⟨(st.trans g).fC.upd (Ne.symm k),λc o e n=>by rw[av (ao e I)];calc(st.trans g).rest c o e n⟩,a++[l],by rw[List.map_append];rfl,by simp[M],λj N=>?_⟩;rw[List.getD_eq_getElem?_getD];by_cases b:j<a.length
  ·rw[List.getElem?_append_left b,<-List.getD_eq_getElem?_getD];exact x j ()
  ·obtain rfl:j=i:=by lia
   rw[List.getElem?_append_right (),show j-a.length=0 by lia];exact⟨qR,Z8⟩
 intro ys G L Dm mE;obtain⟨st,a,rfl,M,x⟩:=mE;calc .inl ⟨_,aO.of L,λg i=>?_⟩;calc q g a _ (st.new i) ab ⟨M,λm b=>(x m b).1,λm b=>(x m b).2⟩
abbrev gH:Stmt:=top 70
theorem qD(D:cS K mg "_law_heard_cut" "_law_heard_cut" gH ["_law_run","_law_pot_here"])(T:Tx K mg C CN CR F FD)(aI:Def P w K mg base "_law_digit" 1 ["_law_pot_here","_law_many"] gy):Def P w K mg base "_law_heard_cut" 2 ["_law_run","_law_pot_here"] qZ:=by
 have sc:aC ["_law_run","_law_pot_here","_law_cut","_law_m","_law_rows","_law_c"] ["_law_run","_law_pot_here"] (ax gH):=by walk_at "s"
 symm;obtain⟨F,d,tn,g,r,ad,p,H0,rfl,M,B,I,hp,N,MB,kb,q⟩:=h;have hu:=hr.units;refine⟨_,(ag (aZ (i:=2) sc.nd rfl Sort (bc rP (bL (af ai aa)) (aV aL rfl T.bT L' (af (aj hu (aq 0) aB) aa))))
  (ag (cQ PassesOwn.never rfl (eX rfl T.cu (af (aj hu (aq 0) aB) aa)) (e9 (i:=3) (j:=4) rfl sc.nd rfl rfl Sort Sort)
  (ag (aZ (i:=5) sc.nd rfl Sort (aK aI hr (af (aq 1) (af (bc cT (aV aL rfl T.bT L' (af (aq 4) aa)) ai) aa))))
  (ak (aS (az mr (aq 5) ai (aE _)) (ak (eV (i:=2) sc.nd rfl Sort (N':=["_law_one","_law_other"]) (ix:=[none,none]) (zx rfl T.Bg (af (aq 2) (af (aj hu (aq 4) (bc eB (aq 5) ai)) aa))) (λ_ _ _ _=>(iP (K:=K) rfl (i:=0) (j:=1) rfl (show(["_law_one","_law_other"]:List Str).Nodup by decide +kernel) rfl rfl Sort Sort)) kG (λ_ _ _ _=>(aV (uL rfl) rfl T.F2 PyProof.Rows.boot_max (af (aq 0) (af (aq 1) aa)))))) aG))))
  (ak (aD (cX bN rfl T.bW oK (af (aq 2) aa)))))),?_⟩
 obtain⟨o',hd,nF,nP,T⟩:=M.dk;have l3:=(T 3 ∅ ∅).1;have aW:=M.ok;have T:=aW.Kb;calc L2.bO λT h1=>?_;right;calc⟨HF,λl0 T=>?_⟩;have O:=(Step.refl hp).new (o:=.lst [.int 0]) T;have e0:upd H l0 (.lst [.int 0]) l0=some (.lst [.int 0]):=ab;generalize QK:upd H l0 (.lst [.int 0])=G0 at *;have z:=O.over B I;calc bA _ (Dr (z _ _ hd)) ?_;calc bA _ (.inl ⟨_,aO.of (z _ _ l3),rfl⟩) ?_;rw[dW,show g.n 3=g.ms.length from rfl];calc CL (.int 0) e0 () () (λk Rm=>?_);rw[Int.toNat_natCast];have CV:=O.new (o:=.lst (List.replicate g.ms.length (.int 0))) Rm;have R:upd G0 k (.lst (List.replicate g.ms.length (.int 0))) k=some (.lst ((List.replicate g.ms.length 0).map V.int)):=by rw[List.map_replicate];exact ab
 have L:k≠p:=Step.ne O.fC Rm;have T:H k=none:=by
  cases e:H k with
  |none=>rfl
  |some o=>have:=O.rest _ _ e L;rw[Rm]at this;cases this
 generalize Kv:upd G0 k (.lst (List.replicate g.ms.length (.int 0)))=G1 at *;calc L2.bX h1 ?_;clear h1 O e0 QK z;have T:=CV.over B I;right;refine⟨_,Dr (T _ _ hd),true,fT g.n ad 3,Sq.l (T _ _ l3),gv (xs:=fT g.n ad 3) (λi σ G=>(∃k z3 z4 z5,σ=[some (V.ref d),some (V.ref p),some (V.ref k),z3,z4,z5]/\∃cut:List Int,G k=some (.lst (cut.map V.int))/\k≠p/\cut.length=g.ms.length/\∀j,j<g.ms.length->0<=cut.getD j 0/\cut.getD j 0<((r.mm j).dN.length:Nat))/\Step p H G) ?_ ?_ ?_ ?_⟩
 ·calc⟨⟨k,_,_,_,rfl,_,R,L,List.length_replicate,λj S=>?_⟩,CV⟩;have:=N.lh j S;rw[show(List.replicate g.ms.length (0:Int)).getD j 0=0 by simp[List.getD_eq_getElem?_getD,List.getElem?_replicate,S]];lia
 ·rintro i σ G ⟨_,st⟩;exact Sq.l (st.over B I _ _ l3)
 ·intro i xx σ G U hx ph wU;nofun;obtain⟨⟨k,z3,z4,z5,rfl,cut,R,L,uK,W⟩,st⟩:=ph;have u:i < g.ms.length:=by have:=(List.getElem?_eq_some_iff.mp hx).1;rw[dW] at this;exact this
  rw[fO (show i<g.n 3 from u)]at hx;obtain rfl:=Option.some.inj hx;have u1:=au.new (.tup [.int (i:Nat),.ref (ad 3 i)]) wU;have Dw:upd G U (.tup [.int (i:Nat),.ref (ad 3 i)]) U=some (.tup [.int (i:Nat),.ref (ad 3 i)]):=ab;have q0:=st.same u1;have aaX:=u1 _ _ R;generalize wL:upd G U (.tup [.int (i:Nat),.ref (ad 3 i)])=G2 at *;ac_rfl;calc tE (bQ.of Dw) ?_;have z:=q0.over B I;obtain⟨O,e3,Z⟩:=(M.same z).cj.lst (t:=3) (i:=i) u rfl;have z:O.length=(r.mm i).hr.length:=by simpa using Z.1
  have T:=N.lh i u;have T:=N.bp i u;calc L2.bO λN2 T=>?_;right;calc bA _ (.inl ⟨_,aO.of e3,rfl⟩) ?_;rw[z];calc kD p _ rfl q0.fC () (yz () ()) (λdg G3 qR Z8 kq=>?_);calc L2.bX T ?_;clear T;have oz:=q0.trans kq;have X:=kq.rest _ _ aaX L;right;by_cases Y:dg > 0
  ·try rw[if_pos (by simpa using Y)]
   right;calc bF ?_;right;have T:=oz.over B I;nofun;obtain⟨O,e3,Z⟩:=(M.same T).cj.lst (t:=3) (i:=i) u rfl;have z:O.length=(r.mm i).hr.length:=by simpa using Z.1
   obtain⟨m,rfl⟩:∃m:Nat,dg=m+1:=⟨(dg-1).toNat,()⟩
   have lQ:m<(r.mm i).hr.length:=by lia
   obtain⟨z,evr,dvr⟩:=Z.get (i:=m) (d:=.lst (((r.mm i).hr.getD m []).map .int)) (by rw[List.getElem?_map,aQ (d:=[]) lQ];rfl);obtain⟨lo,rfl,L6⟩:=oC (dvr.cv cU);have z:=N.hl i u _ (getD_mem (d:=[]) lQ);have hlb:=MB.hb i u _ (getD_mem (d:=[]) lQ);generalize (r.mm i).hr.getD m []=x at *;ac_rfl;calc⟨_,.ref lo,.inl (aO.of e3),by rw[show((m:Int)+1-1)=(m:Nat) by lia];calc ay evr,true,true,_,_,Sq.l X,Sq.l L6,λD3 yq=>?_⟩;refine aX (J:=Ss true true K k lo) (n:=g.ms.length) (λi ys G=>au G3 G/\ys=((List.zipWith max cut x).take i).map V.int) (E' (aA ())) ⟨au.new _ yq,rfl⟩ ?_ ?_ ?_ ?_
   ·rintro i ys G u ⟨v,_⟩;exact⟨_,_,_,_,Sq.l (v _ _ X),Sq.l (v _ _ L6),by rw[List.getElem?_map,aQ (d:=0) ()];rfl,by rw[List.getElem?_map,aQ (d:=0) ()];rfl⟩
   ·rintro ys G ⟨v,_⟩;exact⟨_,_,Sq.l (v _ _ X),Sq.l (v _ _ L6),.inl (by simp;lia)⟩
   ·intro i ys G u bx hl pC xx H4' se;nofun;obtain⟨v,rfl⟩:=pC;obtain⟨t',Pq,rfl,y⟩:=se;obtain⟨x1,x2,Vh,Vi,rfl⟩:=y _ _ (Sq.l (v _ _ X)) (Sq.l (v _ _ L6));rw[List.getElem?_map,aQ (d:=0) ()] at Vh Vi;obtain rfl:=Option.some.inj Vh;obtain rfl:=Option.some.inj Vi;ac_rfl;have g:=au.new (.tup [.int (cut.getD i 0),.int (x.getD i 0)]) Pq;have y:upd G t' (.tup [.int (cut.getD i 0),.int (x.getD i 0)]) t'=some (.tup [.int (cut.getD i 0),.int (x.getD i 0)]):=ab;calc tE (bQ.of y) ⟨Ext.set (Ext.set (Ext.refl _) rfl) rfl,?_⟩;right
    try rw[if_pos trivial]
    calc bR (g _ _ bx) hl u (E' (aA ())) ⟨λc o e=>by rw[av (ao e yq)];calc g _ _ (v _ _ e),?_⟩;rw[List.take_succ,List.getElem?_zipWith,aQ (l:=cut) (d:=0) (),aQ (l:=x) (d:=0) (),List.map_append];show _++[V.int (if x.getD i 0 > cut.getD i 0 then x.getD i 0 else cut.getD i 0)]=_++[V.int (max (cut.getD i 0) (x.getD i 0))]
    congr 3;split<;>lia
   rintro ys G5 bx Dm ⟨s5,rfl⟩;rw[List.take_of_length_le (by simp;lia)]at bx;calc⟨⟨D3,_,_,_,⟨rfl,rfl,rfl,rfl⟩,_,bx,Step.ne oz.fC yq,by rw[List.length_zipWith];lia,λj S=>?_⟩,oz.same s5⟩;rw[lO () ()];have a:=W j S;have b:=hlb j S;lia
  ·try rw[if_neg (by simpa using Y)]
   right;exact⟨⟨k,_,_,_,⟨rfl,rfl,rfl,rfl⟩,cut,X,L,uK,W⟩,oz⟩
 ·intro σ G yu;obtain⟨⟨k,z3,z4,z5,rfl,cut,R,L,uK,W⟩,st⟩:=yu;right;calc .inl ⟨_,aO.of R,λU wU=>?_⟩;calc q U cut _ (st.new wU) ab ⟨uK,λm g=>(W m g).1,λm g=>(W m g).2⟩
abbrev nc:Stmt:=top 71
inductive BY(vs:List V)(H:Hp)(Q:VK):Prop
 |mk (F:Addr->Prop) (d:Addr) (tn:V) (nt:NT) (r:RS) (ad:Nat->Nat->Addr) (cell:Int) (h0:vs=[.ref d,.int cell]) (h1:cf F H d tn nt r ad) (h5:r.Ok nt) (h6:r.Hb nt) (h7:r.picks.length<=400) (q:∀l (ts:List Addr) H',au H H'->H' l=some (.lst (ts.map V.ref))->ts.length=10->(∀t∈ts,∃cut:List Int,H' t=some (.tup (cut.map V.int))/\jI nt r cut)->Q (.ref l) H'):BY vs H Q
def yJ:Sp:=λvs H Q _=>BY vs H Q
theorem HI{nt:NT}(h:r.Ok nt):jI nt r (List.replicate nt.ms.length 0):=by
 have e:∀m,m<nt.ms.length->(List.replicate nt.ms.length (0:Int)).getD m 0=0:=λm a=>by simp[List.getD_eq_getElem?_getD,List.getElem?_replicate,a]
 calc⟨List.length_replicate,λm a=>by rw[e m a];calc Int.le_refl _,λm a=>by rw[e m a];have:=h.lh m a;lia⟩
def RS.all(nt:NT)(r:RS):List Int:=(List.range nt.ms.length).map λm=>((r.mm m).dN.length:Int)-1
theorem wt{nt:NT}{m:Nat}(a:m<nt.ms.length):(RS.all nt r).getD m 0=((r.mm m).dN.length:Int)-1:=by simp[RS.all,List.getD_eq_getElem?_getD,a]
theorem BZ{nt:NT}(h:r.Ok nt):jI nt r (RS.all nt r):=⟨by simp[RS.all],λm a=>by rw[wt a];have:=h.lh m a;lia,λm a=>by rw[wt a];lia⟩
theorem Al(D:cS K mg "_law_cuts" "_law_cuts" nc ["_law_run","_law_cell"])(T:Tx K mg C CN CR F FD)(jq:Def P w K mg base "_law_any_cut" 2 ["_law_run","_law_pot_here"] qZ)(gI:Def P w K mg base "_law_heard_cut" 2 ["_law_run","_law_pot_here"] qZ)(fz:Def P w K mg base "_law_pot" 1 ["_law_cell"] zJ):Def P w K mg base "_law_cuts" 3 ["_law_run","_law_cell"] yJ:=by
 have sc:aC ["_law_run","_law_cell","_law_pot_here","_law_found","_law_k"] ["_law_run","_law_cell"] (ax nc):=by walk_at "s"
 symm;obtain⟨F,d,tn,a,r,ad,v,rfl,R,Y,MB,kb,q⟩:=h;have B:=hr.units;refine⟨_,(ag (aZ (i:=2) sc.nd rfl Sort (aK fz hr (af (aq 1) aa)))
  (ag (aZ (i:=3) sc.nd rfl Sort (bL (af (cX bN rfl T.bW oK (af (bc rP (bL (af ai aa)) (aV aL rfl T.bT L' (af (aj B (aq 0) aB) aa))) aa)) (af (cX bN rfl T.bW oK (af (cO (N':=["_law_states"]) (ix:=[none]) (bS (aj B (aq 0) aB)) (λ_ _ _ _=>(aN (i:=0) (show(["_law_states"]:List Str).Nodup by decide +kernel) rfl Sort)) kG (λ_ _ _ _=>(bc eB (aV (gY (K:=K) rfl) rfl T.bT L' (af (aq 0) aa)) ai))) aa)) aa))))
  (ag (cQ PassesOwn.never rfl (cB rfl T.dD (af ai aa)) (aN (i:=4) sc.nd rfl Sort)
  (ag (bJ (de lS oF oG bU (aq 3) (af (aK jq hr (af (aq 0) (af (aq 2) aa))) aa)))
  (ak (bJ (de lS oF oG bU (aq 3) (af (aK gI hr (af (aq 0) (af (aq 2) aa))) aa))))))
  (ak (aD (aq 3)))))),?_⟩
 obtain⟨o',hd,nF,nP,T⟩:=R.dk;have Z:=(T 1 ∅ ∅).1;have aW:=R.ok;have h5:=aW.Kb;calc L2.bO λT S=>?_;right;calc bA v rfl (λp xs vb T=>?_);have s0:=au.new (.lst (xs.map V.int)) vb;have hp:eN (upd H p (.lst (xs.map V.int))) p:=⟨_,ab,T⟩
 generalize QK:upd H p (.lst (xs.map V.int))=G0 at *;calc L2.bX S ?_;clear S;calc L2.bO λN2 h2=>?_;right;calc⟨HF,λl0 T=>?_⟩;have s1:=s0.trans (au.new (.lst [.int 0]) T);have Wq:=hp.same (au.new (.lst [.int 0]) T);have e0:upd G0 l0 (.lst [.int 0]) l0=some (.lst [.int 0]):=ab;generalize Kv:upd G0 l0 (.lst [.int 0])=G1 at *;calc⟨_,yD (s1 _ _ hd),_,.inl ⟨_,aO.of (s1 _ _ Z),rfl⟩,?_⟩;rw[dW,show a.n 1=a.ms.length from rfl];calc CL (.int 0) e0 () () (λl2 T=>?_);rw[Int.toNat_natCast];have s2:=s1.trans (au.new (.lst (List.replicate a.ms.length (.int 0))) T);have zm:=Wq.same (au.new (.lst (List.replicate a.ms.length (.int 0))) T);have e2:upd G1 l2 (.lst (List.replicate a.ms.length (.int 0))) l2=some (.lst (List.replicate a.ms.length (.int 0))):=ab;generalize wL:upd G1 l2 (.lst (List.replicate a.ms.length (.int 0)))=G2 at *;calc .inl ⟨_,aO.of e2,λl T=>?_⟩;have z:=s2.trans (au.new (.tup (List.replicate a.ms.length (.int 0))) T);have WW:=zm.same (au.new (.tup (List.replicate a.ms.length (.int 0))) T);have et0:upd G2 l (.tup (List.replicate a.ms.length (.int 0))) l=some (.tup ((List.replicate a.ms.length 0).map V.int)):=by rw[List.map_replicate];exact ab
 generalize DN:upd G2 l (.tup (List.replicate a.ms.length (.int 0)))=G3 at *;calc bF ?_;right;calc bA _ (yD (z _ _ hd)) ?_;right;calc .inl ⟨⟨_,aO.of (z _ _ Z)⟩,λD hD=>?_⟩;refine aX (J:=tw K (o' 1)) (n:=a.ms.length) (λi ys G=>au G3 G/\ys=((List.range i).map λm=>((r.mm m).dN.length:Int)-1).map V.int) (E' (aA ())) ⟨au.new _ hD,rfl⟩ ?_ ?_ ?_ ?_
 ·rintro i ys G U ⟨M,_⟩;exact⟨_,_,aO.of (M _ _ (z _ _ Z)),fO (show i<a.n 1 from U)⟩
 ·rintro ys G ⟨M,_⟩;exact⟨_,aO.of (M _ _ (z _ _ Z)),Nat.le_of_eq dW⟩
 ·intro i ys G U bx hl Ad xx G9 Dp;nofun;obtain⟨M,rfl⟩:=Ad;obtain⟨rfl,y⟩:=Dp;have ex:=y _ (aO.of (M _ _ (z _ _ Z)));rw[fO (show i < a.n 1 from U)] at ex;obtain rfl:=Option.some.inj ex;obtain⟨y,e1,T⟩:=((R.same z).same M).cj.lst (t:=1) (i:=i) U rfl;ac_rfl;have z1:y.length=(r.mm i).dN.length:=by simpa using T.1
  walk_at "xf";right;refine bA _ (.inl ⟨_,aO.of e1,rfl⟩) ?_;rw[z1]
  try rw[if_pos trivial]
  calc bR bx hl U (E' (aA ())) ⟨λc o e=>by rw[av (ao e hD)];calc M _ _ e,?_⟩;rw[List.range_succ,List.map_append,List.map_append];rfl
 rintro ys G4 bx Dm ⟨s4,rfl⟩;calc .inl ⟨_,aO.of bx,λk y=>?_⟩;have s5:=z.trans (s4.trans (au.new (.tup ((RS.all a r).map V.int)) y));have PN:=WW.same (s4.trans (au.new (.tup ((RS.all a r).map V.int)) y));have VH:=(s4.trans (au.new (.tup ((RS.all a r).map V.int)) y)) _ _ et0;have Xd:upd G4 k (.tup ((RS.all a r).map V.int)) k=some (.tup ((RS.all a r).map V.int)):=ab;calc⟨cH,λj I=>?_⟩;change N2 _ (upd (upd G4 k (.tup ((RS.all a r).map V.int))) j (.lst [.ref l,.ref k]));change upd G4 k (.tup ((RS.all a r).map V.int)) j=none at I;generalize IP:upd G4 k (.tup ((RS.all a r).map V.int))=G5 at *;have s6:=s5.trans (au.new (.lst [.ref l,.ref k]) I);have WZ:=PN.same (au.new (.lst [.ref l,.ref k]) I);have VI:j≠p:=Step.ne PN I;have aaY:H j=none:=s5.free I;have aaZ:=(au.new (.lst [.ref l,.ref k]) I) _ _ VH;have aa0:=(au.new (.lst [.ref l,.ref k]) I) _ _ Xd;have Hi:upd G5 j (.lst [.ref l,.ref k]) j=some (.lst [.ref l,.ref k]):=ab;generalize Km:upd G5 j (.lst [.ref l,.ref k])=G6 at *;calc L2.bX h2 ?_;clear h2 bx Dm s4 I IP Km DN wL Kv QK s1 s2 z s5 Wq zm WW PN e0 e2 et0 VH Xd;refine⟨_,rfl,∅,∅,fU (n:=4) (λi σ G=>(∃z4,σ=[some (V.ref d),some (V.int v),some (V.ref p),some (V.ref j),z4])/\au H G/\eN G p/\∃g:List Addr,G j=some (.lst (g.map V.ref))/\g.length=2+2*i/\∀t∈g,∃cut:List Int,G t=some (.tup (cut.map V.int))/\jI a r cut) ?_ ?_ ?_⟩
 ·calc⟨⟨_,rfl⟩,s6,WZ,[l,k],Hi,rfl,λt ht=>?_⟩;simp only[List.mem_cons,List.not_mem_nil,or_false] at ht;rcases ht with rfl | rfl
  ·exact⟨_,aaZ,HI Y⟩
  ·exact⟨_,aa0,BZ Y⟩
 ·intro i σ G U Vg;obtain⟨⟨z4,rfl⟩,sG,N,g,W,htl,DI⟩:=Vg;have up:∀{x L:Hp} {g:List Addr} {t:Addr} {cut:List Int},(∀t∈g,∃cut:List Int,x t=some (.tup (cut.map V.int))/\jI a r cut)->x j=some (.lst (g.map V.ref))->eN x p->Step p x L->L t=some (.tup (cut.map V.int))->jI a r cut->∀u∈g++[t],∃cut:List Int,upd L j (.lst (g.map V.ref++[.ref t])) u=some (.tup (cut.map V.int))/\jI a r cut:=λ{x L g t cut} S h2 X h4 h5 h6 u B=>by
   have e:=h4.rest _ _ h2 VI;rcases List.mem_append.mp B with B|B
   ·obtain⟨cut,k,l⟩:=S u B;have i:=h4.aP X _ _ k;exact⟨cut,by rw[av (um i e (λz=>nomatch z))];calc i,l⟩
   ·rw[List.mem_singleton.mp B];exact⟨cut,by rw[av (um h5 e (λz=>nomatch z))];calc h5,h6⟩
  have sw:∀{x L:Hp} {g:List Addr} {t:Addr},au H x->x j=some (.lst (g.map V.ref))->Step p x L->au H (upd L j (.lst (g.map V.ref++[.ref t]))):=λ{x L g t} S h2 X b o e=>by
   rw[av (ao e aaY)];exact X.over S vb _ _ e
  show tI _ _ _ _ _;calc L2.bO λi X=>?_;right;calc⟨.inl ⟨rfl,_,aO.of W⟩,F,d,tn,a,r,ad,p,H,rfl,R,sG,vb,N,Y,MB,kb,λO Te G1 i k l=>?_⟩;calc gw _ (i.rest _ _ W VI) (aA (by simp;lia)) ?_;calc L2.bX X ?_;clear X;have a1:=sw (t:=O) sG W i;have a2:=up DI W N i k l;have a3:=(i.fC).upd (o:=.lst (g.map V.ref++[.ref O])) (Ne.symm VI);have a4:upd G1 j (.lst (g.map V.ref++[.ref O])) j=some (.lst ((g++[O]).map V.ref)):=by rw[List.map_append];exact ab
  generalize Ze:upd G1 j (.lst (g.map V.ref++[.ref O]))=G8 at *;right;calc⟨.inl ⟨rfl,_,aO.of a4⟩,F,d,tn,a,r,ad,p,H,rfl,R,a1,vb,a3,Y,MB,kb,λo u G2 i k l=>?_⟩;calc gw _ (i.rest _ _ a4 VI) (aA (by simp;lia)) ?_;exact⟨⟨_,rfl⟩,sw (t:=o) a1 a4 i,(i.fC).upd (Ne.symm VI),g++[O]++[o],by rw[List.map_append (f:=V.ref) (l₁:=g++[O])];calc ab,by simp;lia,up a2 a4 a3 i k l⟩
 ·intro σ G Qe;obtain⟨⟨z4,rfl⟩,sG,N,g,W,htl,DI⟩:=Qe;right;calc q j g G sG W htl DI
theorem cf.Wv{F:Addr->Prop}{d:Addr}{c:V}{nt:NT}(h:cf F H d c nt r ad){w:Nat}(g:w<nt.ws.length)(k:Nat):∃f b,H (ad 6 w)=some (.dK f)/\gX H (ad 6 w) (.int (k:Nat)) b/\((r.ww w).dj.getD k none=none->b=none)/\∀e,(r.ww w).dj.getD k none=some e->∃a,b=some (.ref a)/\H a=some (.tup [.int e.1,.int e.2]):=by
 obtain⟨c,f,j⟩:=h.cj.Yh (t:=6) (i:=w) g rfl;have b:=j.2 (k:Int);have g:jO (r.ww w).dj (k:Int)=((r.ww w).dj.getD k none).map pairD:=by unfold jO;rw[if_pos (),Int.toNat_natCast]
 rw[g]at b;refine⟨c,fW c (.inl (k:Int)),f,gX.k (k:=.inl (k:Int)) f,λz=>?_,λe z=>?_⟩
 ·rw[z]at b;exact b
 ·rw[z] at b;obtain⟨v,l,m⟩:=(show ∃v,fW c (.inl (k:Int))=some v/\HD _ 4 v (pairD e) from b)
  obtain⟨a,rfl,b⟩:=oo (e:=e) (m.cv cU);calc⟨a,l,b⟩
abbrev ip:Stmt:=top 72
inductive HK(vs:List V)(H:Hp)(Q:VK):Prop
 |mk (F:Addr->Prop) (d:Addr) (tn:V) (nt:NT) (r:RS) (ad:Nat->Nat->Addr) (t:Addr) (cut:List Int) (h0:vs=[.ref d,.ref t]) (h1:cf F H d tn nt r ad) (h2:r.Ok nt) (h3:r.Iv nt) (h4:r.picks.length<=400) (h5:H t=some (.tup (cut.map V.int))) (h6:jI nt r cut) (q:∀l bs H',au H H'->H' l=some (.lst (bs.map V.ref))->bs.length=nt.ws.length->iR H' r bs (λw=>qC r cut w (r.ww w).say.length)->Q (.ref l) H'):HK vs H Q
def B0:Sp:=λvs H Q _=>HK vs H Q
theorem HL{K:W.Frag}{t:Addr}(a:H t=some (.tup (cut.map V.int)))(b:0<=m)(c:m<(cut.length:Nat)):iJ (cut.map V.int) m=some (.int (cut.getD m.toNat 0)):=by
 have:=ay (xs:=cut.map V.int) (j:=m.toNat) (v:=.int (cut.getD m.toNat 0)) (by rw[List.getElem?_map,aQ (d:=0) ()];rfl);rw[show((m.toNat:Nat):Int)=m by lia]at this;calc this
theorem sY(D:cS K mg "_law_lying_at" "_law_lying_at" ip ["_law_run","_law_cut"])(T:Tx K mg C CN CR F FD):Def P w K mg base "_law_lying_at" 1 ["_law_run","_law_cut"] B0:=by
 have sc:aC ["_law_run","_law_cut","_law_found","_law_way","_law_row","_law_number","_law_said","_law_sender","_law_worker"] ["_law_run","_law_cut"] (ax ip):=by walk_at "s"
 symm;obtain⟨F,d,c,nt,r,ad,t,cut,rfl,x,U,hI,kb,ht,hC,q⟩:=h;have c:=hr.units;have CU:=Wo c;refine⟨_,(ag (aZ (i:=2) sc.nd rfl Sort (bL aa))
  (ag (cQ PassesOwn.never rfl (cB rfl T.dD (af (aV aL rfl T.bT L' (af (aj c (aq 0) aB) aa)) aa)) (aN (i:=3) sc.nd rfl Sort)
  (ag (aZ (i:=4) sc.nd rfl Sort (bL aa))
  (ag (cQ PassesOwn.never rfl (eX rfl T.cu (af (aj c (aj c (aq 0) aB) (aq 3)) aa)) (e9 (i:=5) (j:=6) rfl sc.nd rfl rfl Sort Sort)
  (ag (aZ (i:=7) sc.nd rfl Sort (aj c (aj c (aj c (aq 0) aB) (aq 3)) (aq 5)))
  (ag (aZ (i:=8) sc.nd rfl Sort (EU CU (aj c (aj c (aq 0) aB) (aq 3)) (aq 5) (bH (af ai (af (bc cT (aV aL rfl T.bT L' (af (aj c (aq 0) aB) aa)) ai) aa))) ⟨rfl,rfl,rfl,rfl⟩))
  (ak (aS (PW.pt (pw_and (az mr (aj c (aq 8) ai) (aj c (aq 1) (aj c (aq 8) ai)) (aE _)) (pw_and1 (PW.pt (pw_or (az rD (aq 7) gV (aE _)) (pw_or1 (az rB (aj c (aq 7) ai) (aj c (aq 1) (aj c (aq 7) ai)) (aE _)))))))) (ak (bJ (de lS oF oG bU (aq 4) (af (bH (af (aq 5) (af (aq 6) aa))) aa)))) aG)))))
  (ak (bJ (de lS oF oG bU (aq 2) (af (aq 4) aa)))))))
  (ak (aD (aq 2))))),?_⟩
 obtain⟨T,Y,nF,nP,c⟩:=x.dk;have l4:=(c 4 ∅ ∅).1;have l5:=(c 5 ∅ ∅).1;have l6:=(c 6 ∅ ∅).1;have aW:=x.ok;have c:=aW.tR;have c:=hC.len;right;calc⟨U' _,λm qS=>?_⟩;have s1:=au.new (.lst []) qS;have Pn:upd H m (.lst []) m=some (.lst []):=ab;generalize Kv:upd H m (.lst [])=G1 at *;right;calc⟨_,yC (s1 _ _ Y),_,.inl ⟨_,aO.of (s1 _ _ l4),rfl⟩,?_⟩;rw[dW,show nt.n 4=nt.ws.length from rfl];refine⟨_,rfl,(),(),fU (n:=nt.ws.length) (λi σ H'=>(∃z3 z4 J L M N,σ=[some (V.ref d),some (V.ref t),some (V.ref m),z3,z4,J,L,M,N])/\au H H'/\∃bs:List Addr,H' m=some (.lst (bs.map V.ref))/\bs.length=i/\(∀b∈bs,b≠m)/\iR H' r bs (λw=>qC r cut w (r.ww w).say.length)) ?_ ?_ ?_⟩
 ·exact⟨⟨_,_,_,_,_,_,rfl⟩,s1,[],Pn,rfl,λb hb=>by simp at hb,λi b e=>by simp at e⟩
 ·intro i σ H' p gQ;obtain⟨⟨z3,z4,J,L,M,N,rfl⟩,si,bs,Z,wQ,sy,mi⟩:=gQ;rw[Int.zero_add];have c:(r.ww i).say.length<=20 + 24 * r.picks.length:=U.bs i p;have c:=U.ls i p;have c:=U.lk i p;right;calc⟨U' _,λg Xe=>?_⟩;have s2:=au.new (.lst []) Xe;have elr:upd H' g (.lst []) g=some (.lst []):=ab;have O:g≠m:=Ne.symm (ao Z Xe);have VJ:H g=none:=si.free Xe;have Jj:=si.trans s2;have aa3:=s2 _ _ Z;have Qf:iR (upd H' g (.lst [])) r bs (λw=>qC r cut w (r.ww w).say.length):=λj b e=>let ⟨ys,v,y⟩:=mi j b e;⟨ys,s2 _ _ v,y.aH s2.aP⟩
  have Kl:∀b∈bs,b≠g:=λb hb z=>by
   obtain⟨j,hj⟩:=List.mem_iff_getElem?.mp hb;obtain⟨ys,v,_⟩:=mi j b hj;rw[z,Xe]at v;cases v
  nofun;generalize wL:upd H' g (.lst [])=G2 at *;clear mi Z s2 wL;obtain⟨c,e4,d4⟩:=(x.same Jj).cj.lst (t:=4) (i:=i) p rfl;have z4':=d4.iZ;subst z4';ac_rfl;refine⟨_,yC (Jj _ _ Y),bD (Jj _ _ l4) (aU p) ⟨true,_,Sq.l e4,gv (xs:=(r.ww i).say.map V.int) (λk σ G=>(∃J L M N,σ=[some (V.ref d),some (V.ref t),some (V.ref m),some (V.int i),some (V.ref g),J,L,M,N])/\au H G/\G m=some (.lst (bs.map V.ref))/\iR G r bs (λw=>qC r cut w (r.ww w).say.length)/\G (ad 4 i)=some (.lst ((r.ww i).say.map V.int))/\∃ys,G g=some (.lst ys)/\fQ G 1 ys (mO r i (qC r cut i k))) ?_ ?_ ?_ ?_⟩⟩
  ·exact⟨⟨_,_,_,_,rfl⟩,Jj,aa3,Qf,e4,[],elr,fQ.nil⟩
  ·intro k σ G c;obtain⟨_,_,_,_,e,_⟩:=c;exact Sq.l e
  ·intro k xx σ G tt hx mE wU;nofun;obtain⟨⟨J,L,M,N,rfl⟩,sG,W,Q8,R,ys,Rl,bx⟩:=mE;have hk:k < (r.ww i).say.length:=by have:=(List.getElem?_eq_some_iff.mp hx).1;rw[List.length_map] at this;exact this
   rw[List.getElem?_map,aQ (d:=0) hk]at hx;obtain rfl:=Option.some.inj hx;have u1:=au.new (.tup [.int (k:Nat),.int ((r.ww i).say.getD k 0)]) wU;have Dw:upd G tt (.tup [.int (k:Nat),.int ((r.ww i).say.getD k 0)]) tt=some (.tup [.int (k:Nat),.int ((r.ww i).say.getD k 0)]):=ab;have B:=sG.trans u1;generalize DN:upd G tt (.tup [.int (k:Nat),.int ((r.ww i).say.getD k 0)])=G3 at *;ac_rfl;calc tE (bQ.of Dw) ?_;nofun;obtain⟨c,e5,d5⟩:=(x.same B).cj.lst (t:=5) (i:=i) p rfl;obtain⟨u,c,T⟩:=d5.get (i:=k) (d:=oH ((r.ww i).snd.getD k none)) (by rw[List.getElem?_map,aQ (d:=none) ()];rfl);have DT:=yj (T.cv cU);obtain⟨PF,_,g1,_⟩:=(x.same B).Wv p k;obtain⟨T,e0,d0⟩:=(x.same B).cj.lst (t:=0) (i:=0) (by show 0<1;decide) rfl;ac_rfl;have z0:T.length=r.picks.length:=by simpa using d0.1
   calc L2.bO λT h2=>?_;right;calc bA _ (He (B _ _ Y)) ?_;right;calc bD (B _ _ l5) (aU p) ?_;calc bD e5 (ay c) ?_;calc L2.bX h2 ?_;clear h2;calc L2.bO λT h3=>?_;right;calc⟨_,PB (B _ _ Y),bD (B _ _ l6) (aU p) ⟨ad 6 i,rfl,.inl ⟨_,.inl g1⟩,_,KW (B _ _ Y),_,.inl ⟨_,aO.of e0,rfl⟩,?_⟩⟩;calc⟨cH,λX c=>?_⟩;rw[z0];have u2:=au.new (.tup [.int 0,.int ((r.picks.length:Int)+1)]) c;have etd:upd G3 X (.tup [.int 0,.int ((r.picks.length:Int)+1)]) X=some (.tup [.int 0,.int ((r.picks.length:Int)+1)]):=ab;change ∃o,gX (upd G3 X (.tup [.int 0,.int ((r.picks.length:Int)+1)])) _ _ o/\_;have Xf:=B.trans u2;have S:=u1.trans u2;have K7:=DT.aH u2.aP;nofun;generalize TL:upd G3 X (.tup [.int 0,.int ((r.picks.length:Int)+1)])=I at *;obtain⟨c,T,WD,g2,g3,g4⟩:=(x.same Xf).Wv p k;ac_rfl;calc bA T g2 ?_;calc L2.bX h3 ?_;clear h3;have c:=hC.top 0 (by have:=aW.Yj;lia);have c:=U.bp 0 (by have:=aW.Yj;lia);nofun;obtain⟨aw,c,B,ew,WX,OP,yS,hwb⟩:∃(aw:Addr) (c B:Int),T.getD (.ref X)=.ref aw/\I aw=some (.tup [.int c,.int B])/\0<=c/\c<(cut.length:Nat)/\decide (cut.getD c.toNat 0<B)= !qB ((r.ww i).dj.getD k none) cut:=by
    cases c:(r.ww i).dj.getD k none with
    |none=>
     rw[g3 c];calc SQ X 0 _ rfl etd (Int.le_refl _) (by have:=aW.Yj;lia) ?_;show decide (cut.getD 0 0<_)=true;calc decide_eq_true ()
    |some e=>
     nofun;obtain⟨a,B,ha⟩:=g4 e c;obtain⟨T,h2,_⟩:=hI.ev i k e.1 e.2 p (by rw[aQ (d:=none) (),c]);ac_rfl;calc SQ a e.1 e.2 (by rw[B];rfl) ha T () ?_;show _= !decide (e.2<=cut.getD e.1.toNat 0);rw[<-decide_not];exact decide_eq_decide.mpr ()
   ac_rfl;rw[ew];have sh:=Xf _ _ ht;have Qh:=S _ _ Rl;have VN:=bx.aH S.aP;have eb4:=S _ _ W;have hr4:iR I r bs (λw=>qC r cut w (r.ww w).say.length):=λj b e=>let ⟨ys,v,y⟩:=Q8 j b e;⟨ys,S _ _ v,y.aH S.aP⟩
   have e44:=S _ _ R;have n4r:ad 4 i≠g:=λz=>by
    obtain⟨o,ez,_⟩:=x.cj.soft (t:=4) (i:=i) p;rw[z,VJ]at ez;cases ez
   clear g1 g2 g3 g4 WD TL DN u1 u2 Dw etd e0 d0 e5 d5 DT W Q8 R Rl bx S;calc L2.qM λc U0 DY K8=>?_;have yes:ou ((r.ww i).snd.getD k none) ((r.ww i).dj.getD k none) cut=true->c [some (V.ref d),some (V.ref t),some (V.ref m),some (V.int i),some (V.ref g),some (V.int k),some (V.int ((r.ww i).say.getD k 0)),some u,some (V.ref aw)] I:=λhl=>by
    calc L2.bX DY ?_;right;calc gC (.inl ⟨rfl,_,aO.of Qh⟩) cH (λtp c=>?_);have u:=au.new (.tup [.int (k:Nat),.int ((r.ww i).say.getD k 0)]) c;have Mp:upd I tp (.tup [.int (k:Nat),.int ((r.ww i).say.getD k 0)]) tp=some (.tup [.int (k:Nat),.int ((r.ww i).say.getD k 0)]):=ab;have VO:=u _ _ Qh;have VP:=VN.aH u.aP;have eb5:=u _ _ eb4;have e45:=u _ _ e44;have sG5:=Xf.trans u;have hr5:iR (upd I tp (.tup [.int (k:Nat),.int ((r.ww i).say.getD k 0)])) r bs (λw=>qC r cut w (r.ww w).say.length):=λj b e=>let ⟨ys,v,y⟩:=hr4 j b e;⟨ys,u _ _ v,y.aH u.aP⟩
    generalize IP:upd I tp (.tup [.int (k:Nat),.int ((r.ww i).say.getD k 0)])=G5 at *;have c:ys.length<=k:=by have:=VP.1;unfold mO at this;rw[List.length_map]at this;rw[this];exact qW
    calc gw _ VO (small ()) ?_;have st:cg G5 (upd G5 g (.lst (ys++[.ref tp]))):=(cg.refl _).upd λzs e=>by rw[VO]at e;cases e
    refine⟨⟨_,_,_,_,rfl,rfl,rfl,rfl⟩,λb o e=>by rw[av (ao e VJ)];calc sG5 _ _ e,by rw[av (Ne.symm O)];calc eb5,λj b e=>?_,by rw[av n4r];calc e45,_,ab,?_⟩
    ·obtain⟨zs,v,y⟩:=hr5 j b e;exact⟨zs,by rw[av (Kl b (List.mem_of_getElem? e))];calc v,y.aH st⟩
    ·have:=((VP.snoc (df (n:=0) Mp (.int _) (.int _))).aH st)
     rw[oy,hl,if_pos rfl];unfold mO at *;rw[List.map_append];exact this
   have no:ou ((r.ww i).snd.getD k none) ((r.ww i).dj.getD k none) cut=false->U0 [some (V.ref d),some (V.ref t),some (V.ref m),some (V.int i),some (V.ref g),some (V.int k),some (V.int ((r.ww i).say.getD k 0)),some u,some (V.ref aw)] I:=λhl=>by
    calc L2.bX K8 ?_;calc⟨⟨_,_,_,_,rfl⟩,Xf,eb4,hr4,e44,ys,Qh,?_⟩;rw[oy,hl,if_neg ∅,List.append_nil];exact VN
   clear DY K8;right;calc cZ WX (ay (j:=1) rfl) ?_;calc cZ WX (ay (j:=0) rfl) ?_;calc cZ sh (HL (K:=K) sh OP yS) ?_;right;rw[hwb]
   cases yh:qB ((r.ww i).dj.getD k none) cut with
   |true=>
    rw[if_neg ∅]
    try rw[if_neg ∅]
    calc no ?_;unfold ou;rw[yh];simp
   |false=>
    rw[if_pos ∅]
    cases VQ:(r.ww i).snd.getD k none with
    |none=>
     rw[VQ]at K7;have:u=.bP:=by cases(show HT I 1 u .bP from K7);rfl
     subst this;right;rw[if_pos ∅,if_pos trivial];calc yes ?_;unfold ou;rw[yh,VQ];rfl
    |some e=>
     nofun;obtain⟨a,rfl,ha⟩:=qt (show HT I 1 u (pairD e) from by rw[VQ]at K7;calc K7);obtain⟨e0,c,_⟩:=U.sd i p e.1 e.2 (by rw[show(some (e.1,e.2):Option (Int×Int))=(r.ww i).snd.getD k none from VQ.symm];calc getD_mem ());ac_rfl;right;rw[if_neg nofun];calc cZ ha (ay (j:=1) rfl) ?_;calc cZ ha (ay (j:=0) rfl) ?_;calc cZ sh (HL (K:=K) sh e0 ()) ?_;right;have hli:ou ((r.ww i).snd.getD k none) ((r.ww i).dj.getD k none) cut=decide (e.2<=cut.getD e.1.toNat 0):=by
      unfold ou;rw[yh,VQ];simp[qB]
     cases hb:decide (e.2<=cut.getD e.1.toNat 0) with
     |true=>
      rw[if_pos rfl];calc yes (hli.trans hb)
     |false=>
      rw[if_neg ∅];exact no (hli.trans hb)
  ·intro σ G ph;obtain⟨⟨J,L,M,N,rfl⟩,sG,W,Q8,R,ys,Rl,bx⟩:=ph;rw[List.length_map] at bx;right;calc⟨.inl ⟨rfl,_,aO.of W⟩,_,W,aA (by simp;lia),?_⟩;have st:cg G (upd G m (.lst (bs.map V.ref++[.ref g]))):=(cg.refl _).upd λzs e=>by rw[W] at e;cases e
   refine⟨⟨_,_,_,_,_,_,rfl,rfl,rfl,rfl,rfl,rfl⟩,λb o e=>by rw[av (ao e qS)];calc sG _ _ e,bs++[g],by rw[List.map_append];calc ab,by simp[wQ],λb hb=>?_,λj b e=>?_⟩
   ·rcases List.mem_append.mp hb with hb | hb
    ·exact sy b hb
    ·rw[List.mem_singleton.mp hb];exact O
   ·by_cases hj:j < bs.length
    ·rw[List.getElem?_append_left hj]at e;obtain⟨zs,v,y⟩:=Q8 j b e;exact⟨zs,by rw[av (sy b (List.mem_of_getElem? e))];calc v,y.aH st⟩
    ·have wJ:j=bs.length:=by
      have:=(List.getElem?_eq_some_iff.mp e).1;simp at this;lia
     nofun;subst wJ;rw[List.getElem?_append_right (Nat.le_refl _),Nat.sub_self]at e;obtain rfl:=Option.some.inj e;ac_rfl;calc bA ys (by rw[av O];calc Rl) ?_;show fQ _ 1 ys (mO r bs.length (qC r cut bs.length (r.ww bs.length).say.length));rw[wQ];exact bx.aH st
 ·intro σ H' pC;obtain⟨⟨z3,z4,J,L,M,N,rfl⟩,si,bs,Z,wQ,sy,mi⟩:=pC;right;calc q m bs H' si Z wQ mi
theorem K9{K:W.Frag}{H:Hp}{x y:V}{p:Int×Int}(e:HT H 1 x (pairD p))(f:HT H 1 y (pairD p)):iO K H 18 x y:=by
 obtain⟨a,rfl,g⟩:=qt e;obtain⟨b,rfl,h⟩:=qt f;refine .inr ⟨_,_,_,_,rfl,rfl,.inl ⟨bQ.of g,bQ.of h⟩,rfl,λi u v c d=>?_⟩
 match i,c,d with
 |0,c,d=>cases c;cases d;calc .inl ⟨rfl,rfl⟩
 |1,c,d=>cases c;cases d;calc .inl ⟨rfl,rfl⟩
 |n+2,c,d=>simp at c
theorem HM{K:W.Frag}{xs:List V}{c:List (Int×Int)}(k:H a=some (.lst xs))(l:H b=some (.lst ys))(d:fQ H 1 xs (c.map pairD))(g:fQ H 1 ys (c.map pairD)):iO K H 19 (.ref a) (.ref b):=by
 calc .inr ⟨_,_,_,_,rfl,rfl,.inr ⟨aO.of k,aO.of l⟩,d.1.trans g.1.symm,λi u v j m=>?_⟩;have k:i<c.length:=by have:=d.1;rw[List.length_map]at this;rw[<-this];exact(List.getElem?_eq_some_iff.mp j).1
 have e:(c.map pairD)[i]?=some (pairD c[i]):=by rw[List.getElem?_map,dw k];rfl
 calc K9 (d.2 i u _ j e) (g.2 i v _ m e)
theorem wu{w:Nat}{a:List Nat}:mO r w a=(a.map λk=>(((k:Nat):Int),(r.ww w).say.getD k 0)).map pairD:=by unfold mO;rw[List.map_map];rfl
theorem vi{K:W.Frag}{l c:Addr}{bs a:List Addr}{f d:Nat->List Nat}(e:H l=some (.lst (bs.map V.ref)))(m:H c=some (.lst (a.map V.ref)))(n:bs.length=a.length)(h:iR H r bs f)(h':iR H r a d)(o:∀i,i<bs.length->f i=d i):iO K H 20 (.ref l) (.ref c):=by
 calc .inr ⟨_,_,_,_,rfl,rfl,.inr ⟨aO.of e,aO.of m⟩,by simp[n],λi u v g j=>?_⟩;rw[List.getElem?_map]at g j;obtain⟨b,k,rfl⟩:=Option.map_eq_some_iff.mp g;obtain⟨p,q,rfl⟩:=Option.map_eq_some_iff.mp j;obtain⟨ys,d,c⟩:=h i b k;obtain⟨j,g,a⟩:=h' i p q;rw[<-o i (List.getElem?_eq_some_iff.mp k).1]at a;rw[wu]at c a;calc HM d g c a
abbrev iq:Stmt:=top 73
inductive HN(vs:List V)(H:Hp)(Q:VK):Prop
 |mk (l l':Addr) (bs La:List Addr) (r:RS) (f:Nat->List Nat) (h0:vs=[.ref l,.ref l']) (h1:H l=some (.lst (bs.map V.ref))) (h2:H l'=some (.lst (La.map V.ref))) (h3:bs.length=La.length) (h4:iR H r bs f) (h5:iR H r La f) (q:Q (.bl true) H):HN vs H Q
def B1:Sp:=λvs H Q _=>HN vs H Q
theorem sZ(D:cS K mg "_law_are_rows" "_law_are_rows" iq ["_law_found","_law_due"])(T:Tx K mg C CN CR F FD):Def P w K mg base "_law_are_rows" 1 ["_law_found","_law_due"] B1:=by
 have sc:aC ["_law_found","_law_due","_law_row","_law_one"] ["_law_found","_law_due"] (ax iq):=by walk_at "s"
 symm;obtain⟨l,m,u,n,r,f,rfl,e,y,z,c,B,q⟩:=h;have n:=hr.units;refine⟨_,(ag (aS (PW.pt (pw_or (cw (bC (aV cC rfl T.aY uj (af (aq 0) (af (cF (v:=.ty "list") rfl T.dP wF rfl) aa))))) (pw_or1 (az (eQ n) (aq 0) (aq 1) (aE _))))) (ak (aD fE)) aG)
  (ag (cQ PassesOwn.never rfl (bS (pv 0)) (aN (i:=2) sc.nd rfl Sort)
  (ag (aS (cw (bC (aV cC rfl T.aY uj (af (aq 2) (af (cF (v:=.ty "list") rfl T.dP wF rfl) aa))))) (ak (aD fE)) aG)
  (ak (cQ PassesOwn.never rfl (bS (pv 2)) (aN (i:=3) sc.nd rfl Sort)
  (ak (aS (PW.pt (pw_or (cw (bC (aV cC rfl T.aY uj (af (aq 3) (af (cF (v:=.ty "tuple") rfl T.bW oK rfl) aa))))) (pw_or (bC (aV cC rfl T.aY uj (af (aj n (aq 3) ai) (af (cF (v:=.ty "bool") rfl T.vS PyProof.Rows.boot_bool rfl) aa)))) (pw_or1 (bC (aV cC rfl T.aY uj (af (aj n (aq 3) ai) (af (cF (v:=.ty "bool") rfl T.vS PyProof.Rows.boot_bool rfl) aa)))))))) (ak (aD fE)) aG))))))
  (ak (aD fE)))),?_⟩
 right;calc cD _ true (.lst e) rfl ?_;rw[if_neg ∅];refine .inl ⟨vi e y z c B (λ_ _=>rfl),?_⟩
 try rw[if_neg ∅]
 right;refine⟨_,rfl,.inl ⟨⟨_,aO.of e⟩,eS (K:=K) (xs:=u.map V.ref) (λi σ H'=>(∃o d,σ=[some (V.ref l),some (V.ref m),o,d])/\H'=H) ?_ ?_ ?_ ?_⟩⟩
 ·exact⟨⟨_,_,rfl⟩,rfl⟩
 ·rintro i σ H' O ⟨_,rfl⟩;exact aO.of e
 ·intro i x σ H' g G;nofun;obtain⟨⟨o,d,rfl⟩,rfl⟩:=G;rw[List.getElem?_map] at g;obtain⟨b,I,rfl⟩:=Option.map_eq_some_iff.mp g;obtain⟨ys,p,t⟩:=c i b I;ac_rfl;right;calc cD _ true (.lst p) rfl ?_;rw[if_neg ∅];right;refine⟨_,rfl,.inl ⟨⟨_,aO.of p⟩,eS (K:=K) (xs:=ys) (λk σ H2=>(∃d,σ=[some (V.ref l),some (V.ref m),some (V.ref b),d])/\H2=H') ?_ ?_ ?_ ?_⟩⟩
  ·exact⟨⟨_,rfl⟩,rfl⟩
  ·rintro k σ H2 R ⟨_,rfl⟩;exact aO.of p
  ·intro k x σ H2 g J;nofun;obtain⟨⟨d,rfl⟩,rfl⟩:=J;rw[wu] at t;have L:k < (f i).length:=by have:=t.1;simp only[List.length_map] at this;rw[<-this];exact(List.getElem?_eq_some_iff.mp g).1
   obtain⟨a,rfl,c⟩:=qt (t.2 k x _ g (by rw[List.getElem?_map,List.getElem?_map,dw L];rfl));ac_rfl;right;calc cD _ true (.tup c) rfl ?_;rw[if_neg ∅];calc cZ c (ay (j:=0) rfl) ?_;calc cD _ false (.int _) rfl ?_;rw[if_neg ∅];calc cZ c (ay (j:=1) rfl) ?_;calc cD _ false (.int _) rfl ?_;rw[if_neg ∅];right;exact⟨_,rfl⟩
  ·intro σ H2 M;obtain⟨⟨d,rfl⟩,rfl⟩:=M;exact⟨⟨_,_,rfl⟩,rfl⟩
 ·intro σ H' N;obtain⟨⟨o,d,rfl⟩,rfl⟩:=N;right;calc q
theorem Qi{nt:NT}(h:r.Ok nt)(j:r.Iv nt){w:Nat}(c:w<nt.ws.length):qC r (RS.all nt r) w (r.ww w).say.length=r.oI w:=by
 unfold qC RS.oI;calc List.filter_congr λk i=>?_;have i:=List.mem_range.mp i;have o:=h.ls w c;have i:=h.lk w c;have a:(((r.ww w).snd.getD k none).isNone||qB ((r.ww w).snd.getD k none) (RS.all nt r))=true:=by
  cases g:(r.ww w).snd.getD k none with
  |none=>rfl
  |some e=>
   obtain⟨l,m,n,i⟩:=h.sd w c e.1 e.2 (by rw[show(some (e.1,e.2):Option (Int×Int))=(r.ww w).snd.getD k none from g.symm];calc getD_mem ());have:=h.lh e.1.toNat ()
   simp only[Option.isNone_some,Bool.false_or,qB];rw[wt ()];exact decide_eq_true ()
 have b:qB ((r.ww w).dj.getD k none) (RS.all nt r)= !((r.ww w).dj.getD k none).isNone:=by
  cases g:(r.ww w).dj.getD k none with
  |none=>rfl
  |some e=>
   obtain⟨l,m,n⟩:=j.ev w k e.1 e.2 c (by rw[aQ (d:=none) (),g]);simp only[Option.isNone_some,Bool.not_false,qB];rw[wt ()];exact decide_eq_true ()
 unfold ou;rw[a,b];simp
abbrev k9:Stmt:=top 74
inductive HQ(C CN CR:Addr)(vs:List V)(H:Hp)(Q:VK):Prop
 |mk (F G:Addr->Prop) (x bb d:Addr) (tn:V) (nt:NT) (r:RS) (ad bd:Nat->Nat->Addr) (l:Addr) (ts:List Addr) (h0:vs=[.ref x,.ref d,.ref l]) (h1:b8 C CN CR F H x bb nt r ad) (h2:cf G H d tn nt r bd) (h3:r.Ok nt) (h4:r.Iv nt) (h5:r.picks.length<=400) (h6:H l=some (.lst (ts.map V.ref))) (h7:∀t∈ts,∃cut:List Int,H t=some (.tup (cut.map V.int))/\jI nt r cut) (q:∀H',au H H'->Q (.bl true) H'):HQ C CN CR vs H Q
def B2(C CN CR:Addr):Sp:=λvs H Q _=>HQ C CN CR vs H Q
theorem yK(D:cS K mg "_law_asked" "_law_asked" k9 ["_law_told","_law_run","_law_cuts_here"])(T:Tx K mg C CN CR F FD)(ir:Def P w K mg base "_law_are_rows" 1 ["_law_found","_law_due"] B1)(iu:Def P w K mg base "_law_lying_at" 1 ["_law_run","_law_cut"] B0)(jZ:Def P w K mg base "lying_at" 7 ["run","cut"] (BN C CN CR))(fB:bZ P w K mg base CR "lying" 4 ["self","way"] (GO C CN CR)):Def P w K mg base "_law_asked" 8 ["_law_told","_law_run","_law_cuts_here"] (B2 C CN CR):=by
 have sc:aC ["_law_told","_law_run","_law_cuts_here","_law_cut","_law_due","_law_k","_law_found","_law_row","_law_every"] ["_law_told","_law_run","_law_cuts_here"] (ax k9):=by walk_at "s"
 symm;obtain⟨F,G,x,bb,d,tn,g,r,ad,bd,l,ts,rfl,hR,hT,O,hI,kb,hl,DI,q⟩:=h;have hu:=hr.units;refine⟨_,(ag (cQ PassesOwn.never rfl (bS (pv 2)) (aN (i:=3) sc.nd rfl Sort)
  (ag (aZ (i:=4) sc.nd rfl Sort (aK iu hr (af (aq 1) (af (aq 3) aa))))
  (ak (cQ PassesOwn.never rfl (cB rfl T.dD (af ai aa)) (aN (i:=5) sc.nd rfl Sort)
  (ag (aZ (i:=6) sc.nd rfl Sort (aK jZ hr (af (aq 0) (af (aq 3) aa))))
  (ag (aS (cw (bC (aK ir hr (af (aq 6) (af (aq 4) aa))))) (ak (aD fE)) aG)
  (ag (cQ PassesOwn.never rfl (bS (pv 6)) (aN (i:=7) sc.nd rfl Sort)
  (ak (bJ (de lS oF oG bU (aq 7) (af (bH (af ai (af ai aa))) aa)))))
  (ak (bJ (EH lS PySem.F.slot_list_clear PySem.F.type_list_clear J1 (aq 6)))))))))))
  (ag (aZ (i:=8) sc.nd rfl Sort (cX bN rfl T.bW oK (af (cO (N':=["_law_states"]) (ix:=[none]) (bS (aj hu (aq 1) aB)) (λ_ _ _ _=>(aN (i:=0) (show(["_law_states"]:List Str).Nodup by decide +kernel) rfl Sort)) kG (λ_ _ _ _=>(bc eB (aV (gY (K:=K) rfl) rfl T.bT L' (af (aq 0) aa)) ai))) aa)))
  (ak (aD (jN (ba hu) (aK jZ hr (af (aq 0) (af (aq 8) aa))) (cO (N':=["_law_way","_law_told"]) (ix:=[none,some 0]) (cB rfl T.dD (af (aV aL rfl T.bT L' (af (aj hu (aq 1) aB) aa)) aa)) (λ_ _ _ _=>(aN (i:=0) (show(["_law_way","_law_told"]:List Str).Nodup by decide +kernel) rfl Sort)) kG (λ_ _ _ _=>(dq fB T.aM hr (aq 1) (af (aq 0) aa)))) (aE _)))))),?_⟩
 calc L2.bO λN1 h1=>?_;refine⟨_,rfl,.inl ⟨⟨_,aO.of hl⟩,eS (K:=K) (xs:=ts.map V.ref) (λi σ H'=>(∃z3 z4 S U z B,σ=[some (V.ref x),some (V.ref d),some (V.ref l),z3,z4,S,U,z,B])/\au H H') ?_ ?_ ?_ ?_⟩⟩
 ·exact⟨⟨_,_,_,_,_,_,rfl⟩,au.refl _⟩
 ·rintro i σ H' u ⟨_,s⟩;exact aO.of (s _ _ hl)
 ·intro i xx σ H1 W gQ;nofun;obtain⟨⟨z3,z4,S,U,z,B,rfl⟩,X⟩:=gQ;clear h1;rw[List.getElem?_map] at W;obtain⟨t,ht,rfl⟩:=Option.map_eq_some_iff.mp W;obtain⟨cut,et,hC⟩:=DI t (aaa ht);ac_rfl;show tI _ _ _ _ _;calc L2.bO λN2 Y=>?_;right;calc⟨G,d,tn,g,r,bd,t,cut,rfl,hT.same X,O,hI,kb,X _ _ et,hC,λlt bt T u1 elt hbt hrt=>?_⟩;calc L2.bX Y ?_;clear Y;have s2:=X.trans u1;refine⟨_,rfl,∅,∅,fU (n:=2) (λk σ I=>(∃S U z B,σ=[some (V.ref x),some (V.ref d),some (V.ref l),some (V.ref t),some (V.ref lt),S,U,z,B])/\au T I) ?_ ?_ ?_⟩
  ·exact⟨⟨_,_,_,_,rfl⟩,au.refl _⟩
  ·intro k σ I hk gR;obtain⟨⟨S,U,z,B,rfl⟩,s3⟩:=gR;rw[Int.zero_add];have T:=s2.trans s3;show tI _ _ _ _ _;calc L2.bO λN3 h3=>?_;right;calc⟨F,x,bb,g,r,ad,t,cut,rfl,hR.same T,O,hI,kb,T _ _ et,hC,λlf bf G2 u2 HJ hbf Hi wQ Xg=>?_⟩;calc L2.bX h3 ?_;clear h3;calc L2.bO λN4 h4=>?_;calc L2.qM λT U0 DY K8=>?_;right;have T:=s3.trans u2;calc⟨lf,lt,bf,bt,r,_,rfl,Hi,T _ _ elt,by rw[wQ,hbt],Xg,λj b e=>let ⟨ys,L,R⟩:=hrt j b e;⟨ys,T _ _ L,R.aH T.aP⟩,?_⟩;calc L2.bX K8 ?_;show N4 _ _;calc L2.bX h4 ?_;clear h4 DY K8;calc L2.bO λN5 h5=>?_;have T:∀b∈bf,∃ys,G2 b=some (.lst ys)/\ys.length<=10000:=λb hb=>by
    obtain⟨j,hj⟩:=List.mem_iff_getElem?.mp hb;obtain⟨ys,L,R⟩:=Xg j b hj;calc bA ys L ?_;have this:ys.length=(qC r cut j (r.ww j).say.length).length:=by have:=R.1;unfold mO at this;rw[List.length_map]at this;exact this
    have a:(qC r cut j (r.ww j).say.length).length<=(r.ww j).say.length:=qW;have b:=O.bs j (by rw[<-wQ];calc(List.getElem?_eq_some_iff.mp hj).1);lia
   refine⟨_,rfl,.inl ⟨⟨_,aO.of Hi⟩,eS (K:=K) (xs:=bf.map V.ref) (λj σ M=>(∃z B,σ=[some (V.ref x),some (V.ref d),some (V.ref l),some (V.ref t),some (V.ref lt),some (V.int k),some (V.ref lf),z,B])/\au I M/\M lf=some (.lst (bf.map V.ref))/\∀b∈bf,∃ys,M b=some (.lst ys)/\ys.length<=10000+j) ?_ ?_ ?_ ?_⟩⟩
   ·exact⟨⟨_,_,rfl⟩,u2,Hi,T⟩
   ·rintro j σ M hj ⟨_,_,e,_⟩;exact aO.of e
   ·intro j xx σ M W mE;nofun;obtain⟨⟨z,B,rfl⟩,s4,ef,hy⟩:=mE;rw[List.getElem?_map] at W;obtain⟨b,hb,rfl⟩:=Option.map_eq_some_iff.mp W;have k:=aaa hb;have l:j < 10:=by have a:=(List.getElem?_eq_some_iff.mp hb).1;have b:=hT.ok.tR;lia
    obtain⟨ys,L,R⟩:=hy b k;obtain⟨l,T⟩:=hbf b k;ac_rfl;right;calc gC (.inl ⟨rfl,_,aO.of L⟩) cH (λtp yT=>?_);have u5:=au.new (.tup [.int 0,.int 0]) yT;calc⟨_,u5 _ _ L,by rw[sizeLine_eq];lia,⟨_,_,rfl,rfl⟩,λc o e=>by rw[av (ao e l)];calc u5 _ _ (s4 _ _ e),by rw[av (Ne.symm T)];calc u5 _ _ ef,λc hc=>?_⟩;by_cases h:c=b
    ·subst h;exact⟨_,ab,by simp;lia⟩
    ·obtain⟨zs,z1,k⟩:=hy c hc;exact⟨zs,by rw[av h];calc u5 _ _ z1,()⟩
   ·intro σ M ph;obtain⟨⟨z,B,rfl⟩,s4,ef,_⟩:=ph;show N5 _ _;calc L2.bX h5 ?_;clear h5;right;calc⟨.inl ⟨rfl,_,aO.of ef⟩,_,ef,?_⟩;exact⟨⟨_,_,_,_,rfl,rfl,rfl,rfl⟩,λc o e=>by rw[av (ao (s3 _ _ e) HJ)];calc s4 _ _ (s3 _ _ e)⟩
  ·intro σ I pC;obtain⟨⟨S,U,z,B,rfl⟩,s3⟩:=pC;exact⟨⟨_,_,_,_,_,_,rfl⟩,s2.trans s3⟩
 intro σ H1 se;obtain⟨⟨z3,z4,S,U,z,B,rfl⟩,X⟩:=se;show N1 _ _;calc L2.bX h1 ?_;clear h1;have Pp:=hR.same X;have DR:=hT.same X;obtain⟨l,hd,z,B,k⟩:=DR.dk;have l1:=(k 1 ∅ ∅).1;have l4:=(k 4 ∅ ∅).1;have h5:=hT.ok.Kb;have k:=hT.ok.tR;calc L2.bO λN2 Y=>?_;right;calc bF ?_;right;calc bA _ (yD hd) ?_;right;calc .inl ⟨⟨_,aO.of l1⟩,λD hD=>?_⟩;refine aX (J:=tw K (l 1)) (n:=g.ms.length) (λi ys G=>au H1 G/\ys=((List.range i).map λm=>((r.mm m).dN.length:Int)-1).map V.int) (E' (aA ())) ⟨au.new _ hD,rfl⟩ ?_ ?_ ?_ ?_
 ·rintro i ys G u ⟨Z,_⟩;exact⟨_,_,aO.of (Z _ _ l1),fO (show i<g.n 1 from u)⟩
 ·rintro ys G ⟨Z,_⟩;exact⟨_,aO.of (Z _ _ l1),Nat.le_of_eq dW⟩
 ·intro i ys G u N hl yu xx G9 Ad;nofun;obtain⟨Z,rfl⟩:=yu;obtain⟨rfl,y⟩:=Ad;have ex:=y _ (aO.of (Z _ _ l1));rw[fO (show i < g.n 1 from u)] at ex;obtain rfl:=Option.some.inj ex;obtain⟨k,e1,l⟩:=(DR.same Z).cj.lst (t:=1) (i:=i) u rfl;ac_rfl;have z1:k.length=(r.mm i).dN.length:=by simpa using l.1
  walk_at "xf";right;refine bA _ (.inl ⟨_,aO.of e1,rfl⟩) ?_;rw[z1]
  try rw[if_pos trivial]
  calc bR N hl u (E' (aA ())) ⟨λc o e=>by rw[av (ao e hD)];calc Z _ _ e,?_⟩;rw[List.range_succ,List.map_append,List.map_append];rfl
 rintro ys G4 N Dm ⟨s4,rfl⟩;calc .inl ⟨_,aO.of N,λt1 pA=>?_⟩;have s5:=s4.trans (au.new (.tup ((RS.all g r).map V.int)) pA);have Xd:upd G4 t1 (.tup ((RS.all g r).map V.int)) t1=some (.tup ((RS.all g r).map V.int)):=ab;change N2 _ (upd G4 t1 (.tup ((RS.all g r).map V.int)));generalize IP:upd G4 t1 (.tup ((RS.all g r).map V.int))=G5 at *;calc L2.bX Y ?_;clear Y N Dm s4 pA IP;right;calc⟨F,x,bb,g,r,ad,t1,RS.all g r,rfl,Pp.same s5,O,hI,kb,Xd,BZ O,λlf bf k l HJ hbf Hi wQ Xg=>?_⟩;calc bF ?_;right;have L5:=s5.trans l;calc⟨_,yC (L5 _ _ hd),_,.inl ⟨_,aO.of (L5 _ _ l4),rfl⟩,?_⟩;rw[dW,show g.n 4=g.ws.length from rfl];calc gC () () (λD hD=>?_);rw[Int.toNat_natCast];refine aX (J:=yY 0 g.ws.length) (n:=g.ws.length) (λi ys I=>au k I/\∃bs:List Addr,ys=bs.map V.ref/\bs.length=i/\(∀b∈bs,b≠D)/\iR I r bs r.oI) (E' (aA ())) ⟨au.new _ hD,[],rfl,rfl,λb hb=>by simp at hb,λi b e=>by simp at e⟩ ?_ ?_ ?_ ?_
 ·rintro i ys I u _;exact u
 ·rintro ys I _;exact K' _
 ·intro i ys I u N lP Dp xx G2 Vg;nofun;obtain⟨s7,bs,rfl,Lb,sy,hrb⟩:=Dp;obtain⟨rfl,rfl⟩:=Vg;ac_rfl;walk_at "xf";rw[Int.zero_add];have k:=(Pp.same L5).same s7;obtain⟨l,o,W,t⟩:=k.ins;right;refine⟨x,l,_,rfl,W,dE ⋯,F,x,bb,g,r,ad,i,rfl,k,O,kb,u,λl2 ys2 M u7 t QF wH=>?_⟩
  try rw[if_pos trivial]
  have Dl:=u7 _ _ N;have nl2:l2≠D:=Ne.symm (ao N t);have st:cg M (upd M D (.lst (bs.map V.ref++[.ref l2]))):=(cg.refl _).upd λzs e=>by rw[Dl]at e;cases e
  have Y:fQ M 1 ys2 (mO r i (r.oI i)):=by
   rw[wu] at wH ⊢;exact⟨wH.1,λj v d hv hd=>by
    rw[List.getElem?_map] at hd;obtain⟨p,hp,rfl⟩:=Option.map_eq_some_iff.mp hd;calc yj (e:=some p) ((wH.2 j v _ hv (by rw[List.getElem?_map,hp];rfl)).cv cU)⟩
  refine bR Dl lP u (E' (aA ())) ⟨λc o e=>by rw[av (ao e hD)];calc u7 _ _ (s7 _ _ e),bs++[l2],by rw[List.map_append];rfl,by simp[Lb],λb hb=>?_,λj b e=>?_⟩
  ·rcases List.mem_append.mp hb with hb | hb
   ·exact sy b hb
   ·rw[List.mem_singleton.mp hb];exact nl2
  ·by_cases hj:j < bs.length
   ·rw[List.getElem?_append_left hj]at e;obtain⟨zs,L,R⟩:=hrb j b e;exact⟨zs,by rw[av (sy b (List.mem_of_getElem? e))];calc u7 _ _ L,(R.aH u7.aP).aH st⟩
   ·have wJ:j=bs.length:=by
     have:=(List.getElem?_eq_some_iff.mp e).1;simp at this;lia
    nofun;subst wJ;rw[List.getElem?_append_right (Nat.le_refl _),Nat.sub_self]at e;obtain rfl:=Option.some.inj e;ac_rfl;rw[Lb];exact⟨ys2,by rw[av nl2];calc QF,Y.aH st⟩
 intro ys G7 N Dm Qe;obtain⟨s7,bs,rfl,Lb,sy,hrb⟩:=Qe;calc .inl ⟨vi (s7 _ _ Hi) N (by rw[wQ,Lb]) (λj b e=>let ⟨ys,L,R⟩:=Xg j b e;⟨ys,s7 _ _ L,R.aH s7.aP⟩) hrb (λi u=>Qi O hI (by rw[<-wQ];calc u)),?_⟩;calc q _ (X.trans (L5.trans s7))
theorem tf{K:W.Frag}{H:Hp}{n:Nat}{x:V}{d:DV}(h:HD H n x d):∀{m:Nat}{y:V}{k:Nat},HD H m y d->FN d->n<k->iO K H k x y:=by
 induction h with
 |bP=>intro m y k h _ q;cases h;obtain⟨j,rfl⟩:∃j,k=j+1:=⟨k-1,()⟩;calc .inl ⟨rfl,rfl⟩
 |bl b=>intro m y k h c q;cases c
 |int i=>intro m y k h _ q;cases h;obtain⟨j,rfl⟩:∃j,k=j+1:=⟨k-1,()⟩;calc .inl ⟨rfl,rfl⟩
 |str i=>intro m y k h _ q;cases h;obtain⟨j,rfl⟩:∃j,k=j+1:=⟨k-1,()⟩;calc .inl ⟨rfl,rfl⟩
 | @tup n a t g e l i w=>
  intro m y k h c q;obtain⟨j,rfl⟩:∃j,k=j+1:=⟨k-1,()⟩
  cases c with
  |tup c=>
  cases h with
  | @tup m b ys _ z B C=>
   calc .inr ⟨a,b,t,ys,rfl,rfl,.inl ⟨bQ.of e,bQ.of z⟩,l.trans B.symm,λp u v r F=>?_⟩;have o:p<g.length:=by rw[<-l];exact(List.getElem?_eq_some_iff.mp r).1
   calc w p u g[p] r (dw o) (C p v g[p] F (dw o)) (c _ (W' o)) ()
 | @lst n a t g e l i w=>
  intro m y k h c q;obtain⟨j,rfl⟩:∃j,k=j+1:=⟨k-1,()⟩
  cases c with
  |lst c=>
  cases h with
  | @lst m b ys _ z B C=>
   calc .inr ⟨a,b,t,ys,rfl,rfl,.inr ⟨aO.of e,aO.of z⟩,l.trans B.symm,λp u v r F=>?_⟩;have o:p<g.length:=by rw[<-l];exact(List.getElem?_eq_some_iff.mp r).1
   calc w p u g[p] r (dw o) (C p v g[p] F (dw o)) (c _ (W' o)) ()
 |dict e=>intro m y k h c q;cases c
theorem HR(p:Int×Int):FN (pairD p):=.tup λe a=>by
 simp at a;rcases a with rfl|rfl<;>calc .int _
theorem vj{α:Type}{l:List α}{f:α->Int×Int}:FN (.lst (l.map λx=>pairD (f x))):=.lst λe a=>by
 obtain⟨z,_,rfl⟩:=List.mem_map.mp a;calc HR _
theorem HS:FN (.lst (ns.map .int)):=.lst λe a=>by
 obtain⟨z,_,rfl⟩:=List.mem_map.mp a;calc .int z
theorem pU{n:Nat}{vs:List V}{b:List DV}(e:H a=some (.lst vs))(h:eE H n vs b):HD H (n+1) (.ref a) (.lst b):=.lst e h.1 h.2
theorem fQ.wH{n:Nat}{vs:List V}{c:List DV}(h:fQ H n vs c):eE H n vs c:=⟨h.1,λi v d a b=>(h.2 i v d a b).hd⟩
theorem cf.words{F:Addr->Prop}{d:Addr}{f:V}{nt:NT}(h:cf F H d f nt r ad)(e:r.Ok nt){m:Nat}(c:m<nt.ms.length):∃b lw,H (ad 2 m)=some (.lst b)/\iJ b (-1)=some (.ref lw)/\H lw=some (.lst (((r.mm m).wp.bq []).map V.int)):=by
 obtain⟨b,g,f⟩:=h.cj.lst (t:=2) (i:=m) c rfl;have j:b.length=(r.mm m).wp.length:=by simpa using f.1
 have h:=e.vR c;have h:=e.lw m c;obtain⟨v,k,l⟩:=f.get (i:=(r.mm m).wp.length-1) (d:=.lst (((r.mm m).wp.bq []).map .int)) (by rw[List.getElem?_map,jG (d:=[]) ()];rfl);obtain⟨a,rfl,c⟩:=oC (l.cv cU);calc⟨b,a,g,jW () (by rw[j];calc k),c⟩
theorem Lc{nt:NT}(h:r.Ok nt){w k:Nat}(c:w<nt.ws.length):k∈r.oI w↔(r.ww w).dj[k]?=some none:=by
 have f:=h.lk w c;unfold RS.oI;rw[List.mem_filter,List.mem_range];constructor
 ·rintro⟨a,b⟩;rw[aQ (d:=none) ()]
  cases z:(r.ww w).dj.getD k none with
  |none=>rfl
  |some e=>rw[z]at b;simp at b
 ·intro a;have b:=(List.getElem?_eq_some_iff.mp a).1;calc⟨(),?_⟩;rw[getD_at a];rfl
abbrev j0:Stmt:=top 75
inductive HU(C CN CR:Addr)(vs:List V)(H:Hp)(Q:VK):Prop
 |mk (F G:Addr->Prop) (x bb d:Addr) (tn:V) (nt:NT) (r:RS) (ad bd:Nat->Nat->Addr) (h0:vs=[.ref x,.ref d]) (h1:b8 C CN CR F H x bb nt r ad) (h2:cf G H d tn nt r bd) (h3:r.Ok nt) (h5:r.picks.length<=400) (h4:∀H',au H H'->Q (.bl true) H'):HU C CN CR vs H Q
def B3(C CN CR:Addr):Sp:=λvs H Q _=>HU C CN CR vs H Q
theorem wx(D:cS K mg "_law_stands" "_law_stands" j0 ["_law_told","_law_run"])(T:Tx K mg C CN CR F FD)(fw:Def P w K mg base "_law_lying" 1 ["_law_run","_law_way"] Ah)(fB:bZ P w K mg base CR "lying" 4 ["self","way"] (GO C CN CR))(iy:bZ P w K mg base CR "schedule" 1 ["self"] (GH C CN CR))(ft:bZ P w K mg base CR "state" 4 ["self","m"] (GC C CN CR))(lg:bZ P w K mg base CR "words" 4 ["self","m"] (GG C CN CR)):Def P w K mg base "_law_stands" 5 ["_law_told","_law_run"] (B3 C CN CR):=by
 have sc:aC ["_law_told","_law_run","_law_m","_law_words","_law_way","_law_put"] ["_law_told","_law_run"] (ax j0):=by walk_at "s"
 symm;obtain⟨F,G,x,bb,d,tn,b,r,ad,a,rfl,X,z,p,kb,q⟩:=h;have g:=hr.units;refine⟨_,(ag (aS (az (eQ g) (eR iy T.aM hr (aq 0)) (aj g (aq 1) aB) (aE _)) (ak (aD fE)) aG)
  (ag (cQ PassesOwn.never rfl (eX rfl T.cu (af (aj g (aq 1) aB) aa)) (e9 (i:=2) (j:=3) rfl sc.nd rfl rfl Sort Sort)
  (ak (aS (PW.pt (pw_or (az (eQ g) (dq lg T.aM hr (aq 0) (af (aq 2) aa)) (aj g (aq 3) (kr gW ai)) (aE _)) (pw_or1 (az (eQ g) (dq ft T.aM hr (aq 0) (af (aq 2) aa)) (aj g (aj g (aj g (aq 1) aB) (aq 2)) (kr gW ai)) (aE _))))) (ak (aD fE)) aG)))
  (ag (cQ PassesOwn.never rfl (eX rfl T.cu (af (aj g (aq 1) aB) aa)) (e9 (i:=4) (j:=5) rfl sc.nd rfl rfl Sort Sort)
  (ak (aS (az (eQ g) (dq fB T.aM hr (aq 0) (af (aq 4) aa)) (cO (N':=["_law_k","_law_put"]) (ix:=[none,some 5]) (bS (aK fw hr (af (aq 1) (af (aq 4) aa)))) (λ_ _ _ _=>(aN (i:=0) (show(["_law_k","_law_put"]:List Str).Nodup by decide +kernel) rfl Sort)) kG (λ_ _ _ _=>(bH (af (aq 0) (af (dC (K:=K) rfl g (aq 1) (aq 0)) aa))))) (aE _)) (ak (aD fE)) aG)))
  (ak (aD fE))))),?_⟩
 nofun;obtain⟨g,o,hx,T⟩:=X.ins;obtain⟨T,hd,nF,nP,g⟩:=z.dk;ac_rfl;have l1:=(g 1 ∅ ∅).1;have l2:=(g 2 ∅ ∅).1;have l4:=(g 4 ∅ ∅).1;have T:=z.ok.Kb;have g:=z.ok.tR;calc L2.bO λg n1=>?_;right;calc eP hx (dE ⋯) ?_;calc⟨F,x,bb,b,r,ad,rfl,X,λl vs hl hvs=>?_⟩;have Y:=au.new (.lst vs) hl;have el:upd H l (.lst vs) l=some (.lst vs):=ab;have aa9:=hvs.cv Y.cv;generalize QK:upd H l (.lst vs)=H0 at *;obtain⟨v0,g,T⟩:=(z.same Y).cj.lst (t:=0) (i:=0) (by show 0<1;decide) rfl;calc bA _ (KW (Y _ _ hd)) ?_;calc .inl ⟨tf (pU el aa9) (pU g (T.cv cU)) (vj (f:=id)) ∅,?_⟩;calc L2.bX n1 ?_;clear n1;calc L2.bO λN2 n2=>?_;right;refine⟨_,PD (Y _ _ hd),true,fT b.n a 2,Sq.l (Y _ _ l2),gv (xs:=fT b.n a 2) (λi σ H'=>(∃B I L M,σ=[some (V.ref x),some (V.ref d),B,I,L,M])/\au H H') ?_ ?_ ?_ ?_⟩
 ·exact⟨⟨_,_,_,_,rfl⟩,Y⟩
 ·rintro i σ H' ⟨_,m⟩;exact Sq.l (m _ _ l2)
 ·intro i xx σ H1 N O gQ wU;nofun;obtain⟨⟨B,I,L,M,rfl⟩,m⟩:=gQ;clear n2;have R:i < b.ms.length:=by have:=(List.getElem?_eq_some_iff.mp O).1;rw[dW] at this;exact this
  rw[fO R]at O;obtain rfl:=Option.some.inj O;have Qv:=au.new (.tup [.int (i:Nat),.ref (a 2 i)]) wU;have Dw:upd H1 N (.tup [.int (i:Nat),.ref (a 2 i)]) N=some (.tup [.int (i:Nat),.ref (a 2 i)]):=ab;generalize wL:upd H1 N (.tup [.int (i:Nat),.ref (a 2 i)])=G2 at *;ac_rfl;have u:=m.trans Qv;calc tE (bQ.of Dw) ?_;right;calc eP (u _ _ hx) (dE ⋯) ?_;calc⟨F,x,bb,b,r,ad,i,rfl,X.same u,R,λlw g=>?_⟩;have tF:=au.new (.lst (((r.mm i).wp.bq []).map V.int)) g;have Q7:upd G2 lw (.lst (((r.mm i).wp.bq []).map V.int)) lw=some (.lst (((r.mm i).wp.bq []).map V.int)):=ab;nofun;generalize DN:upd G2 lw (.lst (((r.mm i).wp.bq []).map V.int))=H2 at *;have y:=u.trans tF;have Y:=z.same y;obtain⟨v2,lw2,e2,g,T⟩:=Y.words p R;ac_rfl;calc bD e2 g ?_;calc .inl ⟨tf (pU Q7 (eE.ints (n:=1) _)) (pU T (eE.ints (n:=1) _)) HS ∅,?_⟩;have g:=p.vR R;nofun;obtain⟨v1,e1,T⟩:=Y.cj.lst (t:=1) (i:=i) R rfl;have Y:v1.length=(r.mm i).dN.length:=by simpa using T.1
  obtain⟨v,ev,dv⟩:=T.get (i:=(r.mm i).dN.length-1) (d:=qw ((r.mm i).dN.bq ([],[]))) (by rw[List.getElem?_map,jG (d:=([],[])) g];rfl);ac_rfl;calc xM ?_;rw[if_neg ∅];calc eP (y _ _ hx) (dE ⋯) ?_;calc⟨F,x,bb,b,r,ad,i,rfl,X.same y,p,R,λT DT=>?_⟩;calc bA _ (yD (y _ _ hd)) ?_;calc bD (y _ _ l1) (aU R) ?_;calc bD e1 (jW () (by rw[Y];calc ev)) ?_;have hv:=GB (dv.cv cU);nofun;obtain⟨a1,_,_,_,rfl,_,_,_⟩:=dF (id DT);obtain⟨a2,_,_,_,rfl,_,_,_⟩:=dF (id hv);ac_rfl;calc .inl ⟨Ka DT hv ∅,?_⟩;calc xM ?_;rw[if_neg ∅];exact⟨⟨_,_,_,_,rfl,rfl,rfl,rfl⟩,y⟩
 intro σ H1 gR;obtain⟨⟨B,I,L,M,rfl⟩,m⟩:=gR;show N2 _ _;calc L2.bX n2 ?_;clear n2;calc L2.bO λN3 n3=>?_;right;refine⟨_,yC (m _ _ hd),true,fT b.n a 4,Sq.l (m _ _ l4),gv (xs:=fT b.n a 4) (λi σ H'=>(∃B I L M,σ=[some (V.ref x),some (V.ref d),B,I,L,M])/\au H H') ?_ ?_ ?_ ?_⟩
 ·exact⟨⟨_,_,_,_,rfl⟩,m⟩
 ·rintro i σ H' ⟨_,m⟩;exact Sq.l (m _ _ l4)
 ·intro i xx σ H1 N O mE wU;nofun;obtain⟨⟨B,I,L,M,rfl⟩,m⟩:=mE;clear n3;have S:i < b.ws.length:=by have:=(List.getElem?_eq_some_iff.mp O).1;rw[dW] at this;exact this
  rw[fO S]at O;obtain rfl:=Option.some.inj O;have Qv:=au.new (.tup [.int (i:Nat),.ref (a 4 i)]) wU;have Dw:upd H1 N (.tup [.int (i:Nat),.ref (a 4 i)]) N=some (.tup [.int (i:Nat),.ref (a 4 i)]):=ab;generalize wL:upd H1 N (.tup [.int (i:Nat),.ref (a 4 i)])=G2 at *;ac_rfl;have u:=m.trans Qv;calc tE (bQ.of Dw) ?_;right;calc eP (u _ _ hx) (dE ⋯) ?_;calc⟨F,x,bb,b,r,ad,i,rfl,X.same u,p,kb,S,λl ys H2 g hl el wH=>?_⟩;have y:=u.trans g;calc bF ?_;right;calc⟨G,d,tn,b,r,a,i,rfl,z.same y,p,kb,S,λlq H3 Ja l Rf=>?_⟩;have s4:=y.trans Ja;have a:=p.bs i S;have a:=qX (r:=r) (w:=i);nofun;obtain⟨a,e4,d4⟩:=(z.same s4).cj.lst (t:=4) (i:=i) S rfl;have z4':=d4.iZ;subst z4';ac_rfl;calc .inl ⟨⟨_,aO.of Rf⟩,λD hD=>?_⟩;refine aX (J:=tw K lq) (n:=(r.oI i).length) (λj U H'=>au H3 H'/\fQ H' 1 U (((r.oI i).take j).map λk=>pairD (((k:Nat):Int),(r.ww i).say.getD k 0))) (E' (small ())) ⟨au.new _ hD,show fQ _ 1 [] [] from fQ.nil⟩ ?_ ?_ ?_ ?_
  ·rintro j U H' Z ⟨W,_⟩;exact⟨_,_,aO.of (W _ _ Rf),by rw[List.getElem?_map,dw Z];rfl⟩
  ·rintro U H' ⟨W,_⟩;exact⟨_,aO.of (W _ _ Rf),nofun⟩
  ·intro j U H' Z lY lP ph xx H4 pC;nofun;obtain⟨W,PM⟩:=ph;obtain⟨rfl,hy⟩:=pC;have ex:=hy _ (aO.of (W _ _ Rf));rw[List.getElem?_map,dw Z]at ex;obtain rfl:=Option.some.inj ex;ac_rfl;have a:=(Lc p S).mp (W' Z);have yk:(r.oI i)[j]<(r.ww i).say.length:=by
    have:=p.lk i S;have b:=(List.getElem?_eq_some_iff.mp a).1;lia
   walk_at "xf";right
   try rw[if_pos trivial]
   calc bD (W _ _ e4) (ay (j:=(r.oI i)[j]) (v:=.int ((r.ww i).say.getD (r.oI i)[j] 0)) (by rw[List.getElem?_map,aQ (d:=0) yk];rfl)) ?_;calc⟨cH,λa b=>?_⟩;have s6:=au.new (.tup [.int (((r.oI i)[j]:Nat):Int),.int ((r.ww i).say.getD (r.oI i)[j] 0)]) b;have wj:=s6 _ _ lY;calc bR wj lP Z (E' (small ())) ⟨λc o e=>by rw[av (ao e hD)];calc s6 _ _ (W _ _ e),?_⟩;have tu:cg (upd H4 a (.tup [.int (((r.oI i)[j]:Nat):Int),.int ((r.ww i).say.getD (r.oI i)[j] 0)])) (upd (upd H4 a (.tup [.int (((r.oI i)[j]:Nat):Int),.int ((r.ww i).say.getD (r.oI i)[j] 0)])) D (.lst (U++[.ref a]))):=(cg.refl _).upd λU e=>by rw[wj]at e;cases e
   rw[List.take_succ,dw Z,List.map_append];exact((PM.aH s6.aP).snoc (df (n:=0) ab (.int _) (.int _))).aH tu
  rintro U H4 lY lP ⟨a,g⟩;rw[List.take_length]at g;right;have j:=(Ja.trans a) _ _ el;have b:=(wH.cv cU).cv (Ja.trans a).cv;calc .inl ⟨tf (pU j b) (pU lY g.wH) (vj (f:=λk:Nat=>(((k:Nat):Int),(r.ww i).say.getD k 0))) ∅,?_⟩;rw[if_neg ∅];exact⟨⟨_,_,_,_,rfl,rfl,rfl,rfl⟩,s4.trans a⟩
 ·intro σ H2 se;obtain⟨⟨B,I,L,M,rfl⟩,u⟩:=se;show N3 _ _;calc L2.bX n3 ?_;right;calc q _ u
theorem _root_.DD.dH.weak{F F':Addr->Prop}{n:Nat->Nat}{ct:Nat->Nat->CO}(h:dH F H n ad ct)(s:au H H')(a:∀b,F' b->F b\/H b=none):dH F' H' n ad ct:=by
 have c:∀{b:Addr} {o:HO},H b=some o->¬F b->¬F' b:=λ{b o} e d z=>(a _ z).elim d λq=>by rw[q]at e;cases e
 have f:Cv (hE (λb=>F b\/FP n ad b) H) (hE (λb=>F' b\/FP n ad b) H'):=λb u g i=>by
  obtain⟨a,d⟩:=dG g i;rw[fJ (λz=>z.elim (c d (λq=>a (.inl q))) (λq=>a (.inr q)))];exact s _ _ d
 refine⟨h.inj,λt i a=>?_,λt i a=>?_⟩
 ·obtain⟨d,e,_⟩:=h.IH t i a;exact c e (h.out t i a)
 ·obtain⟨d,e,c⟩:=h.IH t i a;calc⟨d,s _ _ e,c.cv f⟩
theorem b8.weak{C CN CR:Addr}{F F':Addr->Prop}{x:Addr}{nt:NT}(h:b8 C CN CR F H x bb nt r ad)(s:au H H')(d:∀b,F' b->F b\/H b=none):b8 C CN CR F' H' x bb nt r ad:=by
 have f:∀{b:Addr} {o:HO},H b=some o->¬F b->¬F' b:=λ{b o} e c z=>(d _ z).elim c λq=>by rw[q]at e;cases e
 obtain⟨⟨g,o,i,c⟩,j,k⟩:=h;calc⟨⟨g,o,s _ _ i,λt a b=>⟨s _ _ (c t a b).1,f (c t a b).1 (c t a b).2.1,(c t a b).2.2⟩⟩,j.weak s d,k.fr (Z:=λ_=>False) s.fr⟩
theorem of_map{α:Type}{f:α->V}{ts:List α}:∀(xs:List V),(∀x∈xs,x∈ts.map f)->∃us:List α,xs=us.map f/\∀u∈us,u∈ts
 | [],_=>⟨[],rfl,λu h=>by simp at h⟩
 |x::xs,h=>by
  obtain⟨us,e,a⟩:=of_map xs λy b=>h y (aab _ b);obtain⟨t,c,rfl⟩:=List.mem_map.mp (h x aaj);exact⟨t::us,by rw[e];rfl,λu d=>by
   rcases List.mem_cons.mp d with rfl|b
   ·exact c
   ·calc a u b⟩
theorem B4(s:au H0 H)(f:Fr Z H H')(a:∀b,Z b->H0 b=none):au H0 H':=λb o e=>f.at (s _ _ e) λz=>by rw[a b z]at e;cases e
theorem m7.prefix{nt:NT}{ls:List (Int×Int)}{f:RS}(h:m7 nt ls f)(g:nt.Ok)(j:ls.length<=20):∀i,i<=f.picks.length->m7 nt ls (gO nt (RS.begin nt ls) (f.picks.take i))/\(gO nt (RS.begin nt ls) (f.picks.take i)).picks=f.picks.take i
 |0,_=>by
  rw[List.take_zero];calc⟨m7.begin g j,(sS g j).2⟩
 |i+1,k=>by
  obtain⟨a,b⟩:=h.prefix g j i ();obtain⟨w,k,e,l⟩:=h.can i _ (dw (show i<f.picks.length by lia));rw[List.take_succ,dw (show i<f.picks.length by lia),e];show m7 nt ls (gO nt (RS.begin nt ls) (f.picks.take i++[((w:Int),(k:Int))]))/\(gO nt (RS.begin nt ls) (f.picks.take i++[((w:Int),(k:Int))])).picks=_;rw[mZ];obtain⟨c,d⟩:=a.pick g l;calc⟨c,by rw[d,b];rfl⟩
theorem m7.next{nt:NT}{a:RS}(h:m7 nt ls a){i:Nat}(b:i<a.picks.length):∃w k:Nat,a.picks[i]?=some ((w:Int),(k:Int))/\(gO nt (RS.begin nt ls) (a.picks.take i)).Kw nt w k/\gO nt (RS.begin nt ls) (a.picks.take (i+1))=(gO nt (RS.begin nt ls) (a.picks.take i)).pick nt w k:=by
 obtain⟨w,k,e,a⟩:=h.can i _ (dw b);calc⟨w,k,by rw[dw b,e],a,?_⟩;rw[List.take_succ,dw b,e];calc mZ
theorem ints_of{xs:List V}(h:∀x∈xs,x∈ns.map V.int):∃us:List Int,xs=us.map V.int:=let ⟨us,e,_⟩:=of_map xs h;⟨us,e⟩
abbrev vk:Stmt:=top 76
def wz(K:W.Frag):Sp:=λvs H Q _=>∃(a:Addr) (ns:List Int),vs=[.ref a]/\aO K H a (ns.map V.int)/\ns.length<=63/\∀H',Q (.bl true) H'
theorem Qj{f:Addr}{fd:FuncData}(D:JP K "law" "law" vk f fd)(T:Tx K mg C CN CR F FD)(iU:Def P w K mg base "_law_asked" 8 ["_law_told","_law_run","_law_cuts_here"] (B2 C CN CR))(eW:Def P w K mg base "_law_at" 1 ["_law_script","_law_k"] (F8 K))(fA:Def P w K mg base "_law_begun" 1 ["_law_net_here"] wq)(j1:Def P w K mg base "_law_cuts" 3 ["_law_run","_law_cell"] yJ)(pV:Def P w K mg base "_law_net" 5 ["_law_script"] (BS K))(iz:Def P w K mg base "_law_net_made" 9 ["_law_net_here"] (vh C CN))(gm:Def P w K mg base "_law_pick" 3 ["_law_run","_law_way","_law_number"] wk)(pW:Def P w K mg base "_law_ran" 4 ["_law_net_here","_law_cells"] BX)(j2:Def P w K mg base "_law_stands" 5 ["_law_told","_law_run"] (B3 C CN CR))(ng:bZ P w K mg base CR "pick" 7 ["self","way","number"] (GN C CN CR))(HV:xC P w K mg base "Run" CR 2 ["self","net"] (BM C CN CR)):lU P w K mg base Cz 10 f fd ["_law_script"] (wz K):=by
 have Y:aC ["_law_script","_law_net_here","_law_run","_law_told","_law_early","_law_k","_law_pick_here"] ["_law_script"] (ax vk):=by walk_at "s"
 refine D.ok Y (λvs H Q E h=>?_) (λgz A outer s H vs Q E p h=>?_)
 ·obtain⟨a,ns,rfl,hS,WU,q⟩:=h;rfl
 ·obtain⟨a,ns,rfl,hS,WU,q⟩:=h;have hu:=p.units;refine⟨_,(ag (aZ (i:=1) Y.nd rfl Sort (aK pV p (af (aq 0) aa)))
   (ag (aZ (i:=2) Y.nd rfl Sort (aK pW p (af (aq 1) (af (Ow (aq 0) (iL ai) (iL ai)) aa))))
   (ag (aZ (i:=3) Y.nd rfl Sort (FJ HV p (af (aK iz p (af (aq 1) aa)) aa)))
   (ag (aZ (i:=4) Y.nd rfl Sort (aK fA p (af (aq 1) aa)))
   (ag (cQ PassesOwn.never rfl (eX rfl T.cu (af (aj hu (aq 2) aB) aa)) (e9 (i:=5) (j:=6) rfl Y.nd rfl rfl Sort Sort)
   (ag (aS (PW.pt (pw_and (az (ba hu) (bc eO (aq 5) ai) ai (aE _)) (pw_and1 (cw (bC (aK iU p (af (aq 3) (af (aq 4) (af (rJ (aK j1 p (af (aq 4) (af (aK eW p (af (aq 0) (af ai aa))) aa))) (iL ai) (iL ai)) aa))))))))) (ak (aD fE)) aG)
   (ag (bJ (aK gm p (af (aq 4) (af (aj hu (aq 6) ai) (af (aj hu (aq 6) ai) aa)))))
   (ak (bJ (dq ng T.aM p (aq 3) (af (aj hu (aq 6) ai) (af (aj hu (aq 6) ai) aa))))))))
   (ak (aD (iV (aK iU p (af (aq 3) (af (aq 2) (af (aK j1 p (af (aq 2) (af (aK eW p (af (aq 0) (af ai aa))) aa))) aa)))) (jL (aK j2 p (af (aq 3) (af (aq 2) aa)))))))))))),?_⟩
  calc L2.bO λN1 h1=>?_;left;calc tS a ns rfl hS WU (λt am aw al mv wv lv gM ws ls H1 s1 g1 g2 g3 g4 g5 g6 g7 g=>?_);have Rk:ToldN H1 (.ref t) gM ws ls:=⟨t,am,aw,al,mv,wv,lv,rfl,g1,g2,g3,g4,g5,g6,g7⟩
  calc L2.bX h1 ?_;clear h1 g1 g2 g3 g4 g5 g6 g7;obtain⟨d,Rq⟩:∃d:NT,d=⟨gM,ws⟩:=⟨_,rfl⟩
  have R:∀l∈ls,0<=l.1/\l.1<d.ws.length:=λl hl=>by rw[Rq];exact⟨(g.lo l hl).1,(g.lo l hl).2.1⟩
  have K5:d.Ok:=by rw[Rq];exact g.nt
  generalize V.ref t=v at *;have S:=s1.seq hS;calc L2.bO λN2 h2=>?_;left;calc bA _ S (λlc Rm=>?_);obtain⟨xs,II⟩:=ints_of (ns:=ns) λx (B:x∈eD (ns.map V.int) (some 9) (some 49))=>Ba B;have LW:xs.length<=40:=by
   have:=Kf (xs:=ns.map V.int) (i:=9) (j:=49);rw[show eD (ns.map V.int) (some ((9:Nat):Int)) (some ((49:Nat):Int))=xs.map V.int from II,List.length_map]at this;exact this
  have s2:=au.new (.lst (eD (ns.map V.int) (some 9) (some 49))) Rm;have MC:upd H1 lc (.lst (eD (ns.map V.int) (some 9) (some 49))) lc=some (.lst (xs.map V.int)):=by rw[<-II];exact ab
  generalize wL:upd H1 lc (.lst (eD (ns.map V.int) (some 9) (some 49)))=H2 at *;refine⟨λ_=>False,v,d,ls,lc,xs,rfl,?_,λb m=>m.elim,K5,g.UT,R,MC,LW,λd0 b0 I H3 s3 fb0 fd0 DY M ag6=>?_⟩
  ·rw[Rq];exact Rk.cv λb o e n'=>by rw[fJ (λz=>z)];exact s2 _ _ e
  calc L2.bX h2 ?_;clear h2 Rm II MC wL hS;have pJ:=s2.trans s3;have sq3:=pJ.seq S;have Qk:ToldN H3 v gM ws ls:=Rk.cv pJ.cv;clear s2 s3 fb0 fd0 S Rk pJ LW s1;calc L2.bO λN3 h3=>?_;left;calc⟨v,gM,ws,ls,rfl,Qk,g,λn ms wv lv H4 s4 U hnF hnL=>?_⟩;rw[<-Rq]at U;intro x dx B Mr tO;have sx:au H4 (upd (upd H4 dx (.own x)) x (.ins CR dx [])):=λb o e=>by rw[av (ao e B),av (ao e Mr)];exact e
  calc⟨λ_=>False,x,dx,n,d,ls,ms,wv,lv,rfl,ab,U.fr (Z:=λ_=>False) sx.fr,hnF.fr (Z:=λ_=>False) sx.fr,hnL.aH sx.aP,g.UT,R,λb m=>m.elim,λu H5 k0 f0 W=>⟨rfl,?_⟩⟩;have s5:au H4 H5:=λb o e=>k0 b o (ao e B) (sx _ _ e);have f5:∀b,FP d.n u b->H4 b=none:=λb m=>sx.free (f0 b m);have LP:=s4.trans s5;have f3:∀b,FP d.n u b->H3 b=none:=λb m=>s4.free (f5 b m);clear k0 f0 sx U hnF hnL B Mr tO f5 s4 s5;calc L2.bX h3 ?_;clear h3;calc L2.bO λN4 h4=>?_;left;refine⟨FP d.n u,v,d,ls,rfl,?_,λb m=>W.cj.fp m,K5,g.UT,R,λd1 y H6 s6 f6 fd1 DR=>?_⟩
  ·rw[Rq];exact Qk.cv λb o e n'=>by rw[fJ (λz=>by rw[<-Rq]at z;rw[f3 b z]at e;cases e)];exact LP _ _ e
  calc L2.bX h4 ?_;clear h4;have J:=W.weak (F':=FP d.n y) s6 λb m=>.inr (f6 b m);have Xh:=LP.trans s6;have f3b:∀b,FP d.n y b->H3 b=none:=λb m=>LP.free (f6 b m);clear W f6 fd1 s6 LP Qk;nofun;obtain⟨o',hd,nF,nP,jK⟩:=DY.dk;obtain⟨v0,e0,d0'⟩:=DY.cj.lst (t:=0) (i:=0) (by show 0<1;decide) rfl;ac_rfl;have hv0:v0.length=I.picks.length:=by simpa using d0'.1
  have hpx:=M.prefix K5 g.UT;have N:∀G,au H3 G->aO K G a (ns.map V.int):=λG s=>s.seq sq3;calc L2.bO λN5 h5=>?_;left;refine⟨_,KW (Xh _ _ hd),true,v0,Sq.l (Xh _ _ e0),gv (xs:=v0) (λi σ G=>(∃z5 z6,σ=[some (V.ref a),some v,some (V.ref d0),some (V.ref x),some (V.ref d1),z5,z6])/\au H3 G/\b8 C CN CR (FP d.n y) G x n d (gO d (RS.begin d ls) (I.picks.take i)) u/\cf (FP d.n u) G d1 v d (gO d (RS.begin d ls) (I.picks.take i)) y) ?_ ?_ ?_ ?_⟩
  ·rw[List.take_zero];exact⟨⟨_,_,rfl⟩,Xh,J,DR⟩
  ·rintro i σ G ⟨_,s,_⟩;exact Sq.l (s _ _ e0)
  ·clear J DR h5 Xh;intro i xx σ G tt DP gQ wU;nofun;obtain⟨⟨z5,z6,rfl⟩,s,J,hT⟩:=gQ;have hi:i < I.picks.length:=by rw[<-hv0];exact(List.getElem?_eq_some_iff.mp DP).1
   obtain⟨w,k,VM,hc,hnx⟩:=M.next hi;obtain⟨Rr,hpi⟩:=hpx i ();ac_rfl;rw[hnx];nofun;generalize p:gO d (RS.begin d ls) (I.picks.take i)=r at *;have kb:r.picks.length<=40:=by rw[hpi];simp;lia
   have u1:=au.new (.tup [.int (i:Nat),xx]) wU;have Dw:upd G tt (.tup [.int (i:Nat),xx]) tt=some (.tup [.int (i:Nat),xx]):=ab;generalize Kv:upd G tt (.tup [.int (i:Nat),xx])=G1 at *;have VG:=s.trans u1;obtain⟨tp,rfl,Mp⟩:∃tp,xx=.ref tp/\H3 tp=some (.tup [.int (w:Nat),.int (k:Nat)]):=qt (e:=((w:Int),(k:Int))) (yj (e:=some ((w:Int),(k:Int))) ((d0'.2 i xx _ DP (show(I.picks.map pairD)[i]?=_ by rw[List.getElem?_map,VM];rfl)).cv cU));ac_rfl;calc tE (bQ.of Dw) ?_;have Pp:=J.same u1;have DR:=hT.same u1;clear u1 wU Dw Kv J hT s;show tI _ _ _ _ _;calc L2.bO λN6 h6=>?_;calc L2.qM λT0 U0 VS K8=>?_;have fin:∀X,au G1 X->U0 [some (V.ref a),some v,some (V.ref d0),some (V.ref x),some (V.ref d1),some (V.int (i:Nat)),some (V.ref tp)] X:=λX L=>by
    calc L2.bX K8 ?_;show N6 _ _;calc L2.bX h6 ?_;clear h6 K8 VS;have QJ:=Pp.same L;have LF:=DR.same L;have Jj:=VG.trans L;calc L2.bO λN7 h7=>?_;left;calc cZ (Jj _ _ Mp) (ay (j:=0) rfl) ?_;calc cZ (Jj _ _ Mp) (ay (j:=1) rfl) ?_;calc⟨FP d.n u,d1,v,d,r,y,w,k,rfl,LF,λb m=>QJ.cj.fp m,Rr.ok,hc,(),λ_ G3 f3' Qd _=>?_⟩;calc L2.bX h7 ?_;clear h7 LF;have Mo:=QJ.keep f3';have Ak:=B4 Jj f3' f3b;left;obtain⟨dx,o,B,ho⟩:=Mo.ins;calc eP B (dE ⋯) ?_;calc cZ (Ak _ _ Mp) (ay (j:=0) rfl) ?_;calc cZ (Ak _ _ Mp) (ay (j:=1) rfl) ?_;calc⟨FP d.n y,x,n,d,r,u,w,k,rfl,Mo,λb m=>Qd.cj.fp m,Rr.ok,hc,(),λ_ G4 f4' hR4 _=>?_⟩;exact⟨⟨_,_,rfl,rfl⟩,B4 Ak f4' f3,hR4,Qd.keep f4'⟩
   clear VS K8 h6;left;calc⟨∅,?_⟩;by_cases h4:(i:Int)%4=0
   ·rw[if_pos (decide_eq_true h4)];calc SO a ns 8 rfl (N _ VG) ∅ (λc=>?_);calc⟨FP d.n u,d1,v,d,r,y,c,rfl,DR,Rr.ok,Rr.hb,(),λl O X L el _ DI=>?_⟩;calc .inl ⟨_,el,λl2 wI=>?_⟩;have u3:=au.new (.lst (eD (O.map V.ref) (some 1) (some 4))) wI;obtain⟨us,R6,hut⟩:=of_map (f:=V.ref) (ts:=O) (eD (O.map V.ref) (some 1) (some 4)) λx B=>Ba B;have QF:upd X l2 (.lst (eD (O.map V.ref) (some 1) (some 4))) l2=some (.lst (us.map V.ref)):=by rw[<-R6];exact ab
    have s3:=L.trans u3;generalize upd X l2 (.lst (eD (O.map V.ref) (some 1) (some 4)))=G3 at *;refine⟨FP d.n y,FP d.n u,x,n,d1,v,d,r,u,y,l2,us,rfl,Pp.same s3,DR.same s3,Rr.ok,Rr.iv,(),QF,λt ht=>?_,λG4 u4=>?_⟩
    ·obtain⟨cut,e1,e2⟩:=DI t (hut t ht);exact⟨cut,u3 _ _ e1,e2⟩
    ·exact fin _ (s3.trans u4)
   ·rw[if_neg (by simpa using h4),if_neg ∅];exact fin _ (au.refl _)
  intro σ G gR;obtain⟨⟨z5,z6,rfl⟩,s,J,hT⟩:=gR;rw[hv0,List.take_length,<-M.pl]at J;show N5 _ _;calc L2.bX h5 ?_;clear h5;left;calc SO a ns 8 rfl (N _ s) ∅ (λc=>?_);calc⟨λ_=>False,d0,v,d,I,b0,c,rfl,DY.same s,M.ok,M.hb,(),λl O X L el _ DI=>?_⟩;have s2:=s.trans L;calc⟨FP d.n y,λ_=>False,x,n,d0,v,d,I,u,b0,l,O,rfl,J.same L,DY.same s2,M.ok,M.iv,(),el,DI,λG3 u3=>⟨true,rfl,?_⟩⟩;rw[if_pos rfl];calc⟨FP d.n y,λ_=>False,x,n,d0,v,d,I,u,b0,rfl,(J.same L).same u3,DY.same (s2.trans u3),M.ok,(),λG4 _=>q G4⟩
end
end F0
namespace F0
open PySem L2 DD
variable {p0 p1:Str}
def FnAt(K:W.Frag)(f:Addr)(x q:Str)(a:Stmt):Prop:=∃c d e g kV h i b ct,K.lookup f=some ⟨g,c,.func (W.fnOf x q (eA a) (di a) (ax a) .none kV h i d b ct),e⟩/\W.codeIn K b q=true/\W.keepIn K (.ref f)=true
def DF(K:W.Frag)(x:Str)(a:Stmt):Prop:=∃f,W.nsIn K mainGlobals x=some (some (.ref f))/\FnAt K f x x a
def MF(K:W.Frag)(C:Addr)(m q:Str)(a:Stmt):Prop:=∃f,W.findIn K (.ref C) m=some (some (.ref f))/\W.isFn K (.ref f)=true/\FnAt K f m q a
def ME(x q:Str)(a:Stmt)(c:List Str):Prop:=∀(kV b d:Value) (e:Option Addr) (f ct:Value) (us:List Value),us.length=c.length->bindArgs (W.fnOf x q (eA a) (di a) (ax a) .none kV b d e f ct) ⟨us,[]⟩=pure (c.zip us)
section
variable {K:W.Frag}{h:Heap}{mg:Str->Option Value}{x m q:Str}{C f:Addr}{st:Stmt}{ps:List Str}{od an:Option Addr}{sl:Array (Option Value)}{oc kV dc pm cd ct:Value}
theorem MG(a:W.nsIn K mainGlobals x=some (some (.ref f)))(l:K.lookup f=some ⟨oc,od,.func (W.fnOf x x (eA st) (di st) (ax st) .none kV dc pm an cd ct),sl⟩)(c:W.codeIn K cd x=true)(k:W.keepIn K (.ref f)=true):DF K x st:=⟨f,a,_,_,_,_,_,_,_,_,_,l,c,k⟩
theorem MH(a:W.findIn K (.ref C) m=some (some (.ref f)))(i:W.isFn K (.ref f)=true)(l:K.lookup f=some ⟨oc,od,.func (W.fnOf m q (eA st) (di st) (ax st) .none kV dc pm an cd ct),sl⟩)(c:W.codeIn K cd q=true)(k:W.keepIn K (.ref f)=true):MF K C m q st:=⟨f,a,i,_,_,_,_,_,_,_,_,_,l,c,k⟩
theorem aT(X:K.In h)(G:h.Ns mainGlobals mg)(d:DF K x st)(b:ME x x st ps):cS K mg x x st ps:=by
 obtain⟨f,a,_,_,_,_,_,_,_,_,_,l,c,k⟩:=d;calc⟨_,_,mn l c k,W.mg_of X G a,(mn l c k).binds b⟩
theorem cq(d:MF K C m q st)(b:ME m q st ps):fR K C m q st ps:=by
 obtain⟨f,a,i,_,_,_,_,_,_,_,_,_,l,c,k⟩:=d;calc⟨_,_,⟨a,i,k⟩,mn l c k,(mn l c k).binds b⟩
theorem wA(X:K.In h)(G:h.Ns mainGlobals mg)(e:W.makesIn K C=true)(g:W.keepIn K (.ref C)=true)(d:MF K C "__init__" q st)(j:W.nsIn K mainGlobals x=some (some (.ref C)))(b:ME "__init__" q st ps):CH K mg x C q st ps:=by
 obtain⟨f,a,i,_,_,_,_,_,_,_,_,_,l,c,k⟩:=d;calc⟨⟨_,_,⟨e,a,i,g⟩,mn l c k,(mn l c k).binds b⟩,W.mg_of X G j⟩
theorem nh{us:List Value}{n:Nat}(h:us.length=n+1):∃x r,us=x::r/\r.length=n:=by
 cases us with
 |nil=>cases h
 |cons x r=>calc⟨x,r,rfl,Nat.succ.inj h⟩
theorem ni(e:∀(kV a pm:Value) (an:Option Addr) (c ct b:Value),bindArgs (W.fnOf x q (eA st) (di st) (ax st) .none kV a pm an c ct) ⟨[b],[]⟩=pure ([p0].zip [b])):ME x q st [p0]:=λkV a pm an c ct g d=>by
 obtain⟨b,h,rfl,f⟩:=nh d
 cases List.length_eq_zero_iff.mp f;calc e ..
theorem fe(e:∀(kV a pm:Value) (an:Option Addr) (d ct b c:Value),bindArgs (W.fnOf x q (eA st) (di st) (ax st) .none kV a pm an d ct) ⟨[b,c],[]⟩=pure ([p0,p1].zip [b,c])):ME x q st [p0,p1]:=λkV a pm an d ct i f=>by
 obtain⟨b,j,rfl,g⟩:=nh f;obtain⟨c,k,rfl,h⟩:=nh g
 cases List.length_eq_zero_iff.mp h;calc e ..
theorem pX{f:Str}(e:∀(kV a pm:Value) (an:Option Addr) (g ct b c d:Value),bindArgs (W.fnOf x q (eA st) (di st) (ax st) .none kV a pm an g ct) ⟨[b,c,d],[]⟩=pure ([p0,p1,f].zip [b,c,d])):ME x q st [p0,p1,f]:=λkV a pm an g ct f h=>by
 obtain⟨b,l,rfl,i⟩:=nh h;obtain⟨c,m,rfl,j⟩:=nh i;obtain⟨d,n,rfl,k⟩:=nh j
 cases List.length_eq_zero_iff.mp k;calc e ..
theorem qE{g h:Str}(e:∀(kV a pm:Value) (an:Option Addr) (i ct b c d f:Value),bindArgs (W.fnOf x q (eA st) (di st) (ax st) .none kV a pm an i ct) ⟨[b,c,d,f],[]⟩=pure ([p0,p1,g,h].zip [b,c,d,f])):ME x q st [p0,p1,g,h]:=λkV a pm an i ct g j=>by
 obtain⟨b,o,rfl,k⟩:=nh j;obtain⟨c,p,rfl,l⟩:=nh k;obtain⟨d,r,rfl,m⟩:=nh l;obtain⟨f,s,rfl,n⟩:=nh m
 cases List.length_eq_zero_iff.mp n;calc e ..
theorem Ql{h i j:Str}(e:∀(kV a pm:Value) (an:Option Addr) (k ct b c d f g:Value),bindArgs (W.fnOf x q (eA st) (di st) (ax st) .none kV a pm an k ct) ⟨[b,c,d,f,g],[]⟩=pure ([p0,p1,h,i,j].zip [b,c,d,f,g])):ME x q st [p0,p1,h,i,j]:=λkV a pm an k ct h l=>by
 obtain⟨b,s,rfl,m⟩:=nh l;obtain⟨c,t,rfl,n⟩:=nh m;obtain⟨d,u,rfl,o⟩:=nh n;obtain⟨f,v,rfl,p⟩:=nh o;obtain⟨g,w,rfl,r⟩:=nh p
 cases List.length_eq_zero_iff.mp r;calc e ..
end
theorem all_mk{l:W.OpenLaw}{w:World}{K:W.Frag}{h:Heap}{o:Str->Option Value}{fa C a CR F:Addr}(X:K.In h)(G:h.Ns mainGlobals o)(S:o "law"=some (.ref fa))
  (oE:W.nsIn K mainGlobals "Machine"=some (some (.ref C))) (Ld:W.nsIn K mainGlobals "Net"=some (some (.ref a))) (Le:W.nsIn K mainGlobals "Run"=some (some (.ref CR))) (iA:DF K "_law_are_rows" iq) (iB:DF K "_law_lying_at" ip) (lj:DF K "is_inside" kW) (nj:DF K "is_whole" mz) (lp:DF K "is_within" kI) (iC:MF K CR "need_way" "Run.need_way" ic) (fP:MF K CR "need_letter" "Run.need_letter" fN) (jr:MF K CR "sent_by" "Run.sent_by" jh) (gJ:MF K CR "worked_by" "Run.worked_by" gF) (pY:DF K "lies_at" pP) (iD:MF K a "machines" "Net.machines" hX) (ff:MF K CR "need_machine" "Run.need_machine" fc) (lu:MF K CR "count" "Run.count" kQ) (pZ:MF K CR "net" "Run.net" pM) (tj:DF K "is_cut" sT) (nk:DF K "need_cut" mR) (nr:MF K a "ways" "Net.ways" mH) (iE:MF K CR "put_many" "Run.put_many" ie) (nu:MF K CR "said" "Run.said" mN) (nv:DF K "lying_at" mS) (lx:MF K CR "lying" "Run.lying" kT) (ly:DF K "_law_asked" k9) (tm:DF K "_law_at" rZ) (lA:DF K "_law_begun" k8) (lB:DF K "_law_digit" kJ) (js:DF K "_law_any_cut" jo) (gK:DF K "_law_heard_cut" gH) (p5:DF K "_law_pot" oZ) (ny:DF K "_law_cuts" nc) (lC:DF K "_law_value" kX) (nz:DF K "_law_deed" mV) (ju:DF K "_law_machine" jk) (p6:DF K "_law_net" pR) (p7:DF K "form_of" o8) (nB:DF K "is_value" mB) (p8:DF K "is_part" o9) (p9:DF K "is_deed" pb) (iF:DF K "refuse_deeds" hJ) (qa:DF K "is_list" o7) (jv:DF K "are_counted" i3) (gn:DF K "refuse_machine" gc) (qb:MF K C "__init__" "Machine.__init__" pD) (lD:DF K "is_letter" kK) (tq:DF K "is_way" sj) (j3:DF K "refuse_net" jS) (HW:MF K a "__init__" "Net.__init__" Gi) (iG:DF K "_law_net_made" il) (lE:DF K "_law_worth" kZ) (j4:DF K "_law_worked" jX) (nC:DF K "_law_pick" mY) (lG:DF K "_law_lying" k7) (nE:DF K "_law_free" mX) (qc:DF K "_law_ran" pT) (iH:MF K CR "schedule" "Run.schedule" ig) (lH:MF K CR "state" "Run.state" kP) (lI:MF K CR "words" "Run.words" kR) (j5:DF K "_law_stands" j0) (gp:DF K "change_numbers" gg) (j6:DF K "change_row" jU) (nH:DF K "left_out" mJ) (lJ:DF K "values_of" kN) (jw:DF K "plain_worth" i5) (nI:DF K "worth_of" mI) (gq:MF K C "worked" "Machine.worked" gh) (jx:MF K a "ways_at" "Net.ways_at" ja) (jy:MF K a "ways_in" "Net.ways_in" jb) (iI:MF K a "ways_out" "Net.ways_out" ib) (gL:MF K CR "need_pick" "Run.need_pick" gD) (gr:MF K CR "put_letter" "Run.put_letter" gj) (jz:MF K CR "pick_at" "Run.pick_at" jc) (nJ:MF K CR "pick" "Run.pick" mP) (d9:MF K C "first_state" "Machine.first_state" dZ) (jA:MF K a "letters" "Net.letters" i4) (HX:MF K CR "__init__" "Run.__init__" GP) (HY:DF K "law" vk) (qd:W.plainGet K C Str.empty=true) (qe:W.hasDictIn K C=true) (qf:W.plainOver K C=true) (qg:W.findIn K (.ref C) "__setattr__"=some (some (.builtin "object.__setattr__"))) (qh:W.makesIn K C=true) (qi:W.keepIn K (.ref C)=true) (CP:W.findIn K (.ref C) "__class__"=some (some (.builtin "object.__class__"))) (CQ:W.mroIn K C (.type "object")=some true) (LK:W.findIn K (.ref C) "own_modulus"=some none) (OD:W.findIn K (.ref C) "own_state"=some none) (LL:W.findIn K (.ref C) "own_deeds"=some none) (HZ:W.plainGet K a Str.empty=true) (Ia:W.hasDictIn K a=true) (Ib:W.plainOver K a=true) (Ic:W.findIn K (.ref a) "__setattr__"=some (some (.builtin "object.__setattr__"))) (Ie:W.makesIn K a=true) (Ig:W.keepIn K (.ref a)=true) (F3:W.findIn K (.ref a) "__class__"=some (some (.builtin "object.__class__"))) (F4:W.mroIn K a (.type "object")=some true) (xQ:W.findIn K (.ref a) "own_machines"=some none) (xR:W.findIn K (.ref a) "own_ways"=some none) (zH:W.findIn K (.ref a) "own_letters"=some none) (Ih:W.plainGet K CR Str.empty=true) (Ii:W.hasDictIn K CR=true) (Ij:W.plainOver K CR=true) (Ik:W.findIn K (.ref CR) "__setattr__"=some (some (.builtin "object.__setattr__"))) (Il:W.makesIn K CR=true) (Im:W.keepIn K (.ref CR)=true) (F5:W.findIn K (.ref CR) "__class__"=some (some (.builtin "object.__class__"))) (F6:W.mroIn K CR (.type "object")=some true) (cM:W.findIn K (.ref CR) "own_net"=some none) (cY:W.findIn K (.ref CR) "picks_done"=some none) (cn:W.findIn K (.ref CR) "states_had"=some none) (dS:W.findIn K (.ref CR) "words_had"=some none) (cG:W.findIn K (.ref CR) "words_said"=some none) (bI:W.findIn K (.ref CR) "letters_say"=some none) (eL:W.findIn K (.ref CR) "senders"=some none) (cN:W.findIn K (.ref CR) "workers"=some none) (CS:W.specialIn K (.builtin "object.__class__") "__get__"=some (some (.builtin "getset_descriptor.__get__"))) (uS:W.takesIn K (.builtin "object.__class__")=some true)
  (j7:W.nsIn K mainGlobals "isinstance"=some none) (Io:W.nsIn K mainGlobals "int"=some none) (Am:W.nsIn K mainGlobals "bool"=some none) (Ip:W.nsIn K mainGlobals "str"=some none) (wB:W.nsIn K mainGlobals "tuple"=some none) (An:W.nsIn K mainGlobals "list"=some none) (Iq:W.nsIn K mainGlobals "len"=some none) (wC:W.nsIn K mainGlobals "range"=some none) (Ir:W.nsIn K mainGlobals "min"=some none) (Iu:W.nsIn K mainGlobals "max"=some none) (Iw:W.nsIn K mainGlobals "all"=some none) (Iy:W.nsIn K mainGlobals "any"=some none) (Iz:W.nsIn K mainGlobals "zip"=some none) (lK:W.nsIn K mainGlobals "enumerate"=some none) (j8:W.nsIn K mainGlobals "ValueError"=some none) {p:Tok} (dQ:W.nsIn K mainGlobals "MOST_DEEDS"=some (some (.int 24 p))) {q:Tok} (dI:W.nsIn K mainGlobals "MOST_MODULUS"=some (some (.int 1000000000000 q))) {r:Tok} (dJ:W.nsIn K mainGlobals "MOST_NUMBERS"=some (some (.int 4 r))) {t:Tok} (fb:W.nsIn K mainGlobals "MOST_ROW"=some (some (.int 12 t))) {u:Tok} (dz:W.nsIn K mainGlobals "MOST_MACHINES"=some (some (.int 5 u))) {x:Tok} (fm:W.nsIn K mainGlobals "MOST_WAYS"=some (some (.int 10 x))) {y:Tok} (dM:W.nsIn K mainGlobals "MOST_LETTERS"=some (some (.int 20 y))) {z:Tok} (dR:W.nsIn K mainGlobals "SAID_BOUND"=some (some (.int 1000000000000000000000000000000000000000000000000000000000000 z)))
  {p q r t u x y z:Int} {B I J L M N O R:Tok} {b c g i j k m n:Addr} {U:Nat}
  (aF:W.nsIn K mainGlobals "FORMS"=some (some (.ref F))) (lF:K.lookup F=some {cls:=.type "dict",dict:=none,data:=.dict #[⟨p,.str "set" B,.ref b⟩,⟨q,.str "add" I,.ref c⟩,⟨r,.str "times" J,.ref g⟩,⟨t,.str "put" L,.ref i⟩,⟨u,.str "drop" M,.ref j⟩,⟨x,.str "send" N,.ref k⟩,⟨y,.str "say" O,.ref m⟩,⟨z,.str "skip" R,.ref n⟩] U,slots:=#[]}) (U:(F==sysModules)=false) {MI MJ:Tok} {Y:Option Addr} {Z:Nat} {fs0:Array (Option Value)} (lP0:K.lookup b=some ⟨.type "tuple",Y,.seq #[.str "number" MI,.str "value" MJ] Z,fs0⟩) {MK ML:Tok} {fo1:Option Addr} {fn1:Nat} {fs1:Array (Option Value)} (lP1:K.lookup c=some ⟨.type "tuple",fo1,.seq #[.str "number" MK,.str "value" ML] fn1,fs1⟩) {MM MN:Tok} {fo2:Option Addr} {fn2:Nat} {fs2:Array (Option Value)} (lP2:K.lookup g=some ⟨.type "tuple",fo2,.seq #[.str "number" MM,.str "value" MN] fn2,fs2⟩) {MO:Tok} {fo3:Option Addr} {fn3:Nat} {fs3:Array (Option Value)} (lP3:K.lookup i=some ⟨.type "tuple",fo3,.seq #[.str "value" MO] fn3,fs3⟩) {fo4:Option Addr} {fn4:Nat} {fs4:Array (Option Value)} (lP4:K.lookup j=some ⟨.type "tuple",fo4,.seq #[] fn4,fs4⟩) {MP MQ:Tok} {fo5:Option Addr} {fn5:Nat} {fs5:Array (Option Value)} (lP5:K.lookup k=some ⟨.type "tuple",fo5,.seq #[.str "way" MP,.str "value" MQ] fn5,fs5⟩) {MR:Tok} {fo6:Option Addr} {fn6:Nat} {fs6:Array (Option Value)} (lP6:K.lookup m=some ⟨.type "tuple",fo6,.seq #[.str "value" MR] fn6,fs6⟩) {MT MU MV:Tok} {fo7:Option Addr} {fn7:Nat} {fs7:Array (Option Value)} (lP7:K.lookup n=some ⟨.type "tuple",fo7,.seq #[.str "value" MT,.str "value" MU,.str "many" MV] fn7,fs7⟩)
  :∃Y:FuncData,(∀(s:Shared) (v:Value),BindsTo s Y ⟨[v],[]⟩ [("_law_script",v)])/\∀base:Heap,K.In base->base.Ns mainGlobals o->lU l.prog w K o base Cz 10 fa Y ["_law_script"] (wz K):=by
 have Y:PyProof.Rows.KTD.Rows RelV (#[⟨p,.str "set" B,.ref b⟩,⟨q,.str "add" I,.ref c⟩,⟨r,.str "times" J,.ref g⟩,⟨t,.str "put" L,.ref i⟩,⟨u,.str "drop" M,.ref j⟩,⟨x,.str "send" N,.ref k⟩,⟨y,.str "say" O,.ref m⟩,⟨z,.str "skip" R,.ref n⟩]:Array DictEntry).toList ([("set",V.ref b),("add",V.ref c),("times",V.ref g),("put",V.ref i),("drop",V.ref j),("send",V.ref k),("say",V.ref m),("skip",V.ref n)]:List (Str×V)):=.cons rfl rfl (.cons rfl rfl (.cons rfl rfl (.cons rfl rfl (.cons rfl rfl (.cons rfl rfl (.cons rfl rfl (.cons rfl rfl (.nil))))))));have T:Tx K o C a CR F ([("set",V.ref b),("add",V.ref c),("times",V.ref g),("put",V.ref i),("drop",V.ref j),("send",V.ref k),("say",V.ref m),("skip",V.ref n)]:List (Str×V)):={
  aY:=aam X G j7
  F1:=aam X G Io
  vS:=aam X G Am
  Bf:=aam X G Ip
  bW:=aam X G wB
  dP:=aam X G An
  bT:=aam X G Iq
  dD:=aam X G wC
  SY:=aam X G Ir
  F2:=aam X G Iu
  rY:=aam X G Iw
  S8:=aam X G Iy
  Bg:=aam X G Iz
  cu:=aam X G lK
  vT:=aam X G j8
  dQ:=⟨_,W.mg_of X G dQ⟩
  dI:=⟨_,W.mg_of X G dI⟩
  dJ:=⟨_,W.mg_of X G dJ⟩
  fb:=⟨_,W.mg_of X G fb⟩
  dz:=⟨_,W.mg_of X G dz⟩
  fm:=⟨_,W.mg_of X G fm⟩
  dM:=⟨_,W.mg_of X G dM⟩
  dR:=⟨_,W.mg_of X G dR⟩
  cK:=⟨qd,qe,qf,qg⟩
  uR:=W.mg_of X G oE
  CP:=CP
  CQ:=CQ
  LK:=LK
  OD:=OD
  LL:=LL
  cL:=⟨HZ,Ia,Ib,Ic⟩
  S9:=W.mg_of X G Ld
  F3:=F3
  F4:=F4
  xQ:=xQ
  xR:=xR
  zH:=zH
  aM:=⟨Ih,Ii,Ij,Ik⟩
  Ta:=W.mg_of X G Le
  F5:=F5
  F6:=F6
  cM:=cM
  cY:=cY
  cn:=cn
  dS:=dS
  cG:=cG
  bI:=bI
  eL:=eL
  cN:=cN
  CS:=CS
  uS:=uS
  i_k:=by unfold W.kitOne;rw[if_pos nofun]
  Bh:=W.mg_of X G aF
  Bi:=⟨⟨_,_,_,lF,⟨rfl,rfl,rfl⟩,rfl,Y⟩,U⟩
  LM:=λd=>by
   cases d with
   |set _ _=>calc⟨b,by kernel_rfl,λH=>.inr ⟨_,_,_,lP0,rfl,rfl,by show 2<=sizeLine;decide,(.cons ⟨MI,rfl⟩ (.cons ⟨MJ,rfl⟩ .nil))⟩⟩
   |add _ _=>calc⟨c,by kernel_rfl,λH=>.inr ⟨_,_,_,lP1,rfl,rfl,by show 2<=sizeLine;decide,(.cons ⟨MK,rfl⟩ (.cons ⟨ML,rfl⟩ .nil))⟩⟩
   |times _ _=>calc⟨g,by kernel_rfl,λH=>.inr ⟨_,_,_,lP2,rfl,rfl,by show 2<=sizeLine;decide,(.cons ⟨MM,rfl⟩ (.cons ⟨MN,rfl⟩ .nil))⟩⟩
   |put _=>calc⟨i,by kernel_rfl,λH=>.inr ⟨_,_,_,lP3,rfl,rfl,by show 1<=sizeLine;decide,(.cons ⟨MO,rfl⟩ .nil)⟩⟩
   |drop=>calc⟨j,by kernel_rfl,λH=>.inr ⟨_,_,_,lP4,rfl,rfl,by show 0<=sizeLine;decide,.nil⟩⟩
   |send _ _=>calc⟨k,by kernel_rfl,λH=>.inr ⟨_,_,_,lP5,rfl,rfl,by show 2<=sizeLine;decide,(.cons ⟨MP,rfl⟩ (.cons ⟨MQ,rfl⟩ .nil))⟩⟩
   |say _=>calc⟨m,by kernel_rfl,λH=>.inr ⟨_,_,_,lP6,rfl,rfl,by show 1<=sizeLine;decide,(.cons ⟨MR,rfl⟩ .nil)⟩⟩
   |skip _ _ _=>exact⟨n,by kernel_rfl,λH=>.inr ⟨_,_,_,lP7,rfl,rfl,by show 3<=sizeLine;decide,(.cons ⟨MT,rfl⟩ (.cons ⟨MU,rfl⟩ (.cons ⟨MV,rfl⟩ .nil)))⟩⟩
 }
 obtain⟨f,a,b,an,c,d,kV,dc,pm,cd,ct,ll,lc,lk⟩:=HY;have e:=S.symm.trans (W.mg_of X G a)
 cases e;refine⟨W.fnOf "law" "law" (eA vk) (di vk) (ax vk) .none kV dc pm an cd ct,λs v=>.of_eq rfl,λbase _ _=>?_⟩;have m:=sZ (P:=l.prog) (w:=w) (base:=base) (aT X G iA (fe λ_ _ _ _ _ _ _ _=>rfl)) T;have n:=sY (P:=l.prog) (w:=w) (base:=base) (aT X G iB (fe λ_ _ _ _ _ _ _ _=>rfl)) T;have d:=yt (P:=l.prog) (w:=w) (base:=base) (aT X G lj (fe λ_ _ _ _ _ _ _ _=>rfl)) T;have e:=zI (P:=l.prog) (w:=w) (base:=base) (aT X G nj (ni λ_ _ _ _ _ _ _=>rfl)) T;have a:=xT (aT X G lp (pX λ_ _ _ _ _ _ _ _ _=>rfl)) T e;have b:=sI (cq iC (pX λ_ _ _ _ _ _ _ _ _=>rfl)) T a;have c:=om (cq fP (qE λ_ _ _ _ _ _ _ _ _ _=>rfl)) T a b;have i:=ue (cq jr (pX λ_ _ _ _ _ _ _ _ _=>rfl)) T c;have j:=qA (cq gJ (pX λ_ _ _ _ _ _ _ _ _=>rfl)) T c;have o:=Dn (aT X G pY (qE λ_ _ _ _ _ _ _ _ _ _=>rfl)) T d i j;have g:=sm (P:=l.prog) (w:=w) (base:=base) (cq iD (ni λ_ _ _ _ _ _ _=>rfl)) T;have i:=mM (cq ff (fe λ_ _ _ _ _ _ _ _=>rfl)) T a;have d:=ym (cq lu (fe λ_ _ _ _ _ _ _ _=>rfl)) T i;have j:=Dk (P:=l.prog) (w:=w) (base:=base) (cq pZ (ni λ_ _ _ _ _ _ _=>rfl)) T;have k:=GU (aT X G tj (fe λ_ _ _ _ _ _ _ _=>rfl)) T a g d j;have p:=Ab (aT X G nk (fe λ_ _ _ _ _ _ _ _=>rfl)) T k;have d:=zO (P:=l.prog) (w:=w) (base:=base) (cq nr (ni λ_ _ _ _ _ _ _=>rfl)) T;have q:=sJ (cq iE (fe λ_ _ _ _ _ _ _ _=>rfl)) T b;have r:=zV (cq nu (pX λ_ _ _ _ _ _ _ _ _=>rfl)) T c;have t:=Ac (aT X G nv (fe λ_ _ _ _ _ _ _ _=>rfl)) T o p d j q r;have k:=yo (cq lx (fe λ_ _ _ _ _ _ _ _=>rfl)) T b;have o:=yK (aT X G ly (pX λ_ _ _ _ _ _ _ _ _=>rfl)) T m n t k;have j:=F9 (P:=l.prog) (w:=w) (base:=base) (aT X G tm (fe λ_ _ _ _ _ _ _ _=>rfl)) T;have m:=yH (P:=l.prog) (w:=w) (base:=base) (aT X G lA (ni λ_ _ _ _ _ _ _=>rfl)) T;have b:=xU (P:=l.prog) (w:=w) (base:=base) (aT X G lB (fe λ_ _ _ _ _ _ _ _=>rfl)) T;have p:=ug (aT X G js (fe λ_ _ _ _ _ _ _ _=>rfl)) T b;have q:=qD (aT X G gK (fe λ_ _ _ _ _ _ _ _=>rfl)) T b;have n:=CT (P:=l.prog) (w:=w) (base:=base) (aT X G p5 (ni λ_ _ _ _ _ _ _=>rfl)) T;have r:=Al (aT X G ny (fe λ_ _ _ _ _ _ _ _=>rfl)) T p q n;have t:=yx (aT X G lC (fe λ_ _ _ _ _ _ _ _=>rfl)) T b;have p:=Ae (aT X G nz (fe λ_ _ _ _ _ _ _ _=>rfl)) T b t;have q:=uf (aT X G ju (ni λ_ _ _ _ _ _ _=>rfl)) T p b;have t:=Dy (aT X G p6 (ni λ_ _ _ _ _ _ _=>rfl)) T j b q n;have p:=CY (P:=l.prog) (w:=w) (base:=base) (aT X G p7 (ni λ_ _ _ _ _ _ _=>rfl)) T;have b:=zL (aT X G nB (fe λ_ _ _ _ _ _ _ _=>rfl)) T e a;have n:=CZ (aT X G p8 (pX λ_ _ _ _ _ _ _ _ _=>rfl)) T b e a;have q:=C0 (aT X G p9 (fe λ_ _ _ _ _ _ _ _=>rfl)) T p n;have e:=r9 (aT X G iF (fe λ_ _ _ _ _ _ _ _=>rfl)) T q;have b:=CW (P:=l.prog) (w:=w) (base:=base) (aT X G qa (pX λ_ _ _ _ _ _ _ _ _=>rfl)) T;have n:=tW (aT X G jv (qE λ_ _ _ _ _ _ _ _ _ _=>rfl)) T b a;have p:=pq (aT X G gn (qE λ_ _ _ _ _ _ _ _ _ _=>rfl)) T n a;have q:=C9 (wA X G qh qi qb oE (Ql λ_ _ _ _ _ _ _ _ _ _ _=>rfl)) T e p;have n:=xX (aT X G lD (fe λ_ _ _ _ _ _ _ _=>rfl)) T a;have e:=Gg (aT X G tq (fe λ_ _ _ _ _ _ _ _=>rfl)) T a;have p:=vV (aT X G j3 (pX λ_ _ _ _ _ _ _ _ _=>rfl)) T n b e;have u:=Tq (wA X G Ie Ig HW Ld (qE λ_ _ _ _ _ _ _ _ _ _=>rfl)) T p;have v:=sX (aT X G iG (ni λ_ _ _ _ _ _ _=>rfl)) T q u;have e:=yB (P:=l.prog) (w:=w) (base:=base) (aT X G lE (Ql λ_ _ _ _ _ _ _ _ _ _ _=>rfl)) T;have n:=we (aT X G j4 (qE λ_ _ _ _ _ _ _ _ _ _=>rfl)) T e;have b:=Aj (aT X G nC (pX λ_ _ _ _ _ _ _ _ _=>rfl)) T n;have e:=yE (P:=l.prog) (w:=w) (base:=base) (aT X G lG (fe λ_ _ _ _ _ _ _ _=>rfl)) T;have n:=Ai (aT X G nE (ni λ_ _ _ _ _ _ _=>rfl)) T e;have p:=DE (aT X G qc (fe λ_ _ _ _ _ _ _ _=>rfl)) T m n b;have q:=sL (P:=l.prog) (w:=w) (base:=base) (cq iH (ni λ_ _ _ _ _ _ _=>rfl)) T;have n:=yl (cq lH (fe λ_ _ _ _ _ _ _ _=>rfl)) T i;have u:=yn (cq lI (fe λ_ _ _ _ _ _ _ _=>rfl)) T i;have x:=wx (aT X G j5 (fe λ_ _ _ _ _ _ _ _=>rfl)) T e k q n u;have i:=pG (P:=l.prog) (w:=w) (base:=base) (aT X G gp (qE λ_ _ _ _ _ _ _ _ _ _=>rfl)) T;have k:=vX (P:=l.prog) (w:=w) (base:=base) (aT X G j6 (pX λ_ _ _ _ _ _ _ _ _=>rfl)) T;have q:=zR (P:=l.prog) (w:=w) (base:=base) (aT X G nH (fe λ_ _ _ _ _ _ _ _=>rfl)) T;have u:=x9 (P:=l.prog) (w:=w) (base:=base) (aT X G lJ (ni λ_ _ _ _ _ _ _=>rfl)) T;have e:=tZ (P:=l.prog) (w:=w) (base:=base) (aT X G jw (qE λ_ _ _ _ _ _ _ _ _ _=>rfl)) T;have y:=zP (aT X G nI (Ql λ_ _ _ _ _ _ _ _ _ _ _=>rfl)) T e;have z:=pH (cq gq (qE λ_ _ _ _ _ _ _ _ _ _=>rfl)) T i k q u y;have e:=ua (cq jx (pX λ_ _ _ _ _ _ _ _ _=>rfl)) T a;have i:=ub (cq jy (fe λ_ _ _ _ _ _ _ _=>rfl)) T e;have k:=sD (cq iI (fe λ_ _ _ _ _ _ _ _=>rfl)) T e;have q:=qz (cq gL (qE λ_ _ _ _ _ _ _ _ _ _=>rfl)) T d c;have a:=pL (P:=l.prog) (w:=w) (base:=base) (cq gr (qE λ_ _ _ _ _ _ _ _ _ _=>rfl)) T;have c:=ud (cq jz (qE λ_ _ _ _ _ _ _ _ _ _=>rfl)) T z g d i k q a n;have e:=zZ (cq nJ (pX λ_ _ _ _ _ _ _ _ _=>rfl)) T c;have i:=kh (P:=l.prog) (w:=w) (base:=base) (cq d9 (ni λ_ _ _ _ _ _ _=>rfl)) T;have c:=tY (P:=l.prog) (w:=w) (base:=base) (cq jA (ni λ_ _ _ _ _ _ _=>rfl)) T;have k:=T6 (wA X G Il Im HX Le (fe λ_ _ _ _ _ _ _ _=>rfl)) T i c g d a;exact Qj (mn ll lc lk) T o j m r t v b p x e k
theorem walk{l:W.OpenLaw}{q:Program}{a:List Str}{g:(Str->Option Value)->Heap->Prop}{c:World->Heap->Prop}{d:DefRec}{K:Params->W.Frag}(i:l.most=some 63)(j:d.params.defaults=[])
  (m:∀(w:World) (h:Heap),c w h->(K w.params).In h)
  (F:∀(w:World) (b:Str->Option Value) (e:Addr) (h:Heap),(K w.params).In h->h.Ns mainGlobals b->b d.name=some (.ref e)->
   ∃f:FuncData,(∀(s:Shared) (u:Value),BindsTo s f ⟨[u],[]⟩ [("_law_script",u)])/\∀base:Heap,(K w.params).In base->base.Ns mainGlobals b->lU l.prog w (K w.params) b base Cz 10 e f ["_law_script"] (wz (K w.params))):
  W.WalkO q a g c l.row.toRowW d [] (λf vs=>PySem.call f vs):=
 L2.JO (n:=63) (k:=10) (x:="_law_script") (CX:=λ_=>Cz) (sp:=λw=>wz (K w.params)) i ∅ j ⟨rfl,∅,∅⟩ m F (λ_ _ a b c _ d=>⟨a,b,rfl,d,c,λ_=>rfl⟩) λ_ _ _ _ _ z=>z
end F0
end
namespace PySem.W.Fast
def tw9686818442502098635:=Nat
def tw3326971169156418306:=Nat
def tw18150227397179697858:=Nat
def tw10648706709798793501:=Nat
def tw14403982002368261100:=Nat
def tw3377874318455392167:=Nat
def tw14639815284644325793:=Nat
def tw6285398429518418050:=Nat
def tw6273314589165387990:=Nat
def tw7219729136426436892:=Nat
def tw3151365574949579655:=Nat
def tw17929898074806875414:=Nat
def tw6512306044981592168:=Nat
def tw17315378448480077748:=Nat
def tw8667995792714231888:=Nat
def tw17784588725486577894:=Nat
def tw17117147196012228731:=Nat
def tw5451747670153681299:=Nat
def tw3777820235895995987:=Nat
def tw1696958232540263581:=Nat
def tw13137394107375059096:=Nat
def tw11437693753260257453:=Nat
def tw7180574928039298521:=Nat
def tw1042983506486302792:=Nat
def tw11120477431936011578:=Nat
def tw18367288022806928291:=Nat
def tw10739884964844610673:=Nat
def tw13936032296956201384:=Nat
def tw4305427754487669896:=Nat
def tw14356614166588030862:=Nat
def tw9321541604144312643:=Nat
def tw15787559976248037353:=Nat
def tw928804763924247878:=Nat
def tw16791081006186723221:=Nat
def tw16872193797276973364:=Nat
def tw13141896902375780953:=Nat
def tw3505013251205287509:=Nat
def tw6206288147427324796:=Nat
def tw1063614087209149372:=Nat
def tw5412082953210756114:=Nat
def tw9447145998698486772:=Nat
def tw2609655340620122033:=Nat
def tw7215815342524945841:=Nat
def tw8388172295605974209:=Nat
def tw10124903438868683918:=Nat
def tw9878018272797781391:=Nat
def tw4854639234167686949:=Nat
def tw6078966161012243714:=Nat
def tw5794587558036244118:=Nat
def tw12003092181287394082:=Nat
def tw17547104275683262248:=Nat
def tw9455806524415540127:=Nat
def tw15057168745746128599:=Nat
def tw11086338927775431851:=Nat
def tw11131442900266451346:=Nat
def tw13557310108913484569:=Nat
def tw13563005541540876946:=Nat
def tw12494838920926295918:=Nat
def tw8587849138435193043:=Nat
def tw8128477257248471637:=Nat
def tw12677665838191790606:=Nat
def tw5565955221878319420:=Nat
def tw2296621281667242286:=Nat
def tw17000988426913819072:=Nat
def tw17837621343940535718:=Nat
def tw15683093702157913888:=Nat
def tw8772464790899987859:=Nat
def tw12172211357609845396:=Nat
def tw15922767648829967953:=Nat
def tw10818371814293370369:=Nat
def tw662468287483306133:=Nat
def tw17799251174298609718:=Nat
def tw14930121418861221271:=Nat
def tw13413129862860958997:=Nat
def tw14725746039686274819:=Nat
def tw3538834772139206540:=Nat
def tw17888523911173936555:=Nat
def tw2954583498410118977:=Nat
def tw10015990004639188388:=Nat
def tw8236268392655832084:=Nat
def tw16975870269064128140:=Nat
def tw3193662737117252669:=Nat
def tw13442172613210041287:=Nat
def tw17101523595658533534:=Nat
def tw15299339169063920459:=Nat
def tw10110357285513037199:=Nat
def tw8973208810351138464:=Nat
def tw15469132228904089591:=Nat
def tw4300979220798832437:=Nat
def tw9044959545288112807:=Nat
def tw9965471611009061268:=Nat
def tw4668794779389186145:=Nat
def tw7566556693669174388:=Nat
def tw17044939728740960330:=Nat
def tw8368043705981473461:=Nat
def tw5198273404332779145:=Nat
def tw12237785465292590816:=Nat
def tw16823395980683554298:=Nat
def tw5958863509983058101:=Nat
def tw15627451314748206041:=Nat
def tw15275738217971807795:=Nat
def tw714696332826604681:=Nat
def tw5539275337253000909:=Nat
def tw4445107836445509733:=Nat
def tw16286766278220991659:=Nat
def tw4713931556537462534:=Nat
def tw2523022319930763019:=Nat
def tw16843481821770249368:=Nat
def tw12465409756386296025:=Nat
def tw13584724837749244744:=Nat
def tw5032256641597327945:=Nat
def tw15882834242039937722:=Nat
def tw505123701936239148:=Nat
def tw8921972139370339650:=Nat
def tw6999316103641139853:=Nat
def tw12382705531615522194:=Nat
def tw14854609190801500447:=Nat
def tw8818370277664569105:=Nat
def tw18067794419640813290:=Nat
def tw1226391142828807632:=Nat
def tw17261205885419810473:=Nat
def tw17455204892211606922:=Nat
def tw1706982239956171229:=Nat
def tw17776133699356555092:=Nat
def tw6518310288215151045:=Nat
def tw3729153166511581470:=Nat
def tw13204205871665317601:=Nat
def tw7893005670737795006:=Nat
def tw10853817190065159152:=Nat
def tw3731316690325477629:=Nat
def tw8067708518817582249:=Nat
def tw15069675235788901712:=Nat
def tw15160399359221490240:=Nat
def tw15168662405888693057:=Nat
def tw5986716559390276274:=Nat
def tw16323329330092241136:=Nat
def tw4373422917858517948:=Nat
def tw3449128687110292087:=Nat
def tw11968494272653910252:=Nat
def tw11931223322895938123:=Nat
def tw11887782831875515088:=Nat
def tw1130997773424628805:=Nat
def tw15931645101554575746:=Nat
def tw10274226025199200406:=Nat
def tw479611927379121181:=Nat
def tw4777477623900112044:=Nat
def tw3505124742088483208:=Nat
def tw14534639940294561230:=Nat
def tw15936346100900215691:=Nat
def tw14755219700212604230:=Nat
def tw1166753164524721121:=Nat
def tw7296865400887377997:=Nat
def tw10078700117038696729:=Nat
def tw15788739858287861590:=Nat
def tw9933153036918840476:=Nat
def tw17865561655092084357:=Nat
def tw6662974399399648663:=Nat
def tw13344112718711681645:=Nat
def tw16035585387474299618:=Nat
def tw12404982433511832454:=Nat
def tw17628203094010694908:=Nat
def tw9370852595972239744:=Nat
def tw8437932918451191092:=Nat
def tw2817519217272931318:=Nat
def tw7779968968125964623:=Nat
def tw8349433127586213728:=Nat
def tw3943555974285865717:=Nat
def tw4555119110772293558:=Nat
def tw6345743951845890083:=Nat
def tw11572958694247016883:=Nat
def tw8165015559559735205:=Nat
def tw12258510850263564742:=Nat
def tw11381465747675260365:=Nat
def tw17284516043068450223:=Nat
def tw17958583510785196232:=Nat
def tw9487928293625038238:=Nat
def tw18133861247057309060:=Nat
def tw6370479371321974605:=Nat
def tw16640653232649364807:=Nat
def tw9004336300964505597:=Nat
def tw1200424782143356530:=Nat
def tw3796679735396726228:=Nat
def tw11657820364144814443:=Nat
def tw2633469798593538140:=Nat
def tw5673107882511613834:=Nat
def tw17871468208545490582:=Nat
def tw17338221487134329623:=Nat
def tw7915741502922664975:=Nat
def tw5897590740127109144:=Nat
def tw5207209424797389630:=Nat
def tw4709963507048439302:=Nat
def tw5448830205038549599:=Nat
def tw9581262853327501:=Nat
def tw1080072067488347189:=Nat
def tw277532552548661986:=Nat
def tw4637858210971795093:=Nat
def tw15394546585580969658:=Nat
def tw14100018027277771766:=Nat
def tw5532165124450709130:=Nat
def tw9163702377994246751:=Nat
def tw6281517744903826398:=Nat
def tw14800944520783777885:=Nat
def tw7723407888180507156:=Nat
def tw8281359639587508709:=Nat
def tw8780105775517407966:=Nat
def tw7631939178655727922:=Nat
def tw7003520705329801610:=Nat
def tw14834425420942809273:=Nat
def tw9649606950575111212:=Nat
def tw4925276434465771206:=Nat
def tw13453694605677529767:=Nat
def tw15714987958125536599:=Nat
def tw11936063134269897375:=Nat
def tw4221681255111616469:=Nat
def tw16468699788780624370:=Nat
def tw1931635449782057040:=Nat
def tw15177449905238571691:=Nat
def tw15551034862206355356:=Nat
def tw2959631673638475272:=Nat
def tw13805175439274913552:=Nat
def tw10063643256122275837:=Nat
def tw14831936305137994049:=Nat
def tw8631466070610224107:=Nat
def tw17746734963866869656:=Nat
def tw2266237545940974734:=Nat
def tw11734549975913954030:=Nat
def tw10773056969791593552:=Nat
def tw16559931718595515216:=Nat
def tw12865504037875910638:=Nat
def tw3140850259575674551:=Nat
def tw13903954281158258937:=Nat
def tw12948455856684652067:=Nat
def tw1203984159104380578:=Nat
def tw3065817851676771688:=Nat
def tw16359979621288730878:=Nat
def tw9216419497043962859:=Nat
def tw10758115098413609944:=Nat
def tw7772008796407850918:=Nat
def tw106008363991845703:=Nat
def tw18221673308259045531:=Nat
def tw10728189351217186987:=Nat
def tw13043189462626184346:=Nat
def tw3523316337585239831:=Nat
def tw11355344810526794113:=Nat
def tw6367165994759386909:=Nat
def tw2944598420336296580:=Nat
def tw8447582972429655616:=Nat
def tw9338535762578981718:=Nat
def tw3828543074545761564:=Nat
def tw456832796686697416:=Nat
def tw4020933618980080640:=Nat
def tw9685585564040563764:=Nat
def tw14183646742993236151:=Nat
def tw14409046387974698205:=Nat
def tw16172854413560307836:=Nat
def tw10377480865675739302:=Nat
def tw16451379434415613032:=Nat
def tw6807398102740589713:=Nat
def tw890100815126686633:=Nat
def tw5884249538052759513:=Nat
def tw16235537294049961551:=Nat
def tw17822808360836298785:=Nat
def tw16012420352807080811:=Nat
def tw16521820050674962421:=Nat
def tw11566459270875554367:=Nat
def tw17109035536147997418:=Nat
def tw13565752080138978540:=Nat
def tw7840056202000743563:=Nat
def tw21587869424259562:=Nat
def tw10748782086568809084:=Nat
def tw13472638617878145890:=Nat
def tw10700851805307748171:=Nat
def tw4356857371530720542:=Nat
def tw16556190755725580351:=Nat
def tw16342816460680127875:=Nat
def tw8830342683371219543:=Nat
def tw1563287452406245722:=Nat
def tw2971518305747290443:=Nat
def tw13716014141478167280:=Nat
def tw3392285685791981038:=Nat
def tw1230735574100643825:=Nat
def tw10307932720883812598:=Nat
def tw18286350939076791370:=Nat
def tw597559621543249206:=Nat
def tw16171054610794302431:=Nat
def tw9454339077376350997:=Nat
def tw6307167742948858064:=Nat
def tw13564756643045805248:=Nat
def tw778397231645438010:=Nat
def tw5202124677828185513:=Nat
def tw6086547825027877602:=Nat
def tw15982154739043192194:=Nat
def tw5984548123765387844:=Nat
def tw157204305027423192:=Nat
def tw11672249116735742964:=Nat
def tw9962515175631109641:=Nat
def tw4008222230575488067:=Nat
def tw11226756187935529388:=Nat
def tw14500167652309809398:=Nat
def tw15758764282562691989:=Nat
def tw11829519423865624874:=Nat
def tw16399833836801557619:=Nat
def tw4451729398183470294:=Nat
def tw14626799907544663814:=Nat
def tw6746288822728513933:=Nat
def tw6177145276554966505:=Nat
def tw2468878429860872580:=Nat
def tw162912322555300361:=Nat
def tw7974359772485637293:=Nat
def tw18157026307429012225:=Nat
def tw15737040390301519115:=Nat
def tw18196769980941461807:=Nat
def tw14038691054072936851:=Nat
def tw2871452533198425451:=Nat
def tw10110576237517505891:=Nat
def tw3780295138944674622:=Nat
def tw17871096240954990316:=Nat
def tw14058961373065715440:=Nat
def tw13125279232365183792:=Nat
def tw4937761915335419497:=Nat
def tw14045545642587200230:=Nat
def tw8029130352215319756:=Nat
def tw13065052722409331784:=Nat
def tw11837784938942244529:=Nat
def tw11312367658062358294:=Nat
def tw14671843897229624688:=Nat
def tw3520701862650926598:=Nat
def tw7913842568770765759:=Nat
def tw3409880597350931491:=Nat
def tw14882127917991333754:=Nat
def tw6589926294645568576:=Nat
def tw9680049626899219516:=Nat
def tw4193247715530375607:=Nat
def tw1932363888832912276:=Nat
def tw8522632760366231082:=Nat
def tw11963902986246613174:=Nat
def tw14135550353385164507:=Nat
def tw17723125663952495350:=Nat
def tw1493226110656779683:=Nat
def tw8964773388206102974:=Nat
def tw6954972985981934585:=Nat
def tw15820150497761302310:=Nat
def tw3767214347022093496:=Nat
def tw10154949528379738695:=Nat
def tw13635030721731398455:=Nat
def tw11616145717154940811:=Nat
def tw1322094512178161709:=Nat
def tw9813028261850785590:=Nat
def tw15960242986164176940:=Nat
def tw24161932150094747:=Nat
def tw13617104783055121175:=Nat
def tw2565290891654420199:=Nat
def tw2980834073319493453:=Nat
def tw12776865740613632658:=Nat
def tw3942098651928978301:=Nat
def tw6391940926974673559:=Nat
def tw8808789804072977033:=Nat
def tw16107192199319676099:=Nat
def tw13876392710138688273:=Nat
def tw3948722095900862273:=Nat
def tw3590463866760842351:=Nat
def tw6358275071035554603:=Nat
def tw5004624969501036341:=Nat
def tw7691284957053921414:=Nat
def tw1785476963482564037:=Nat
def tw7206192360077588257:=Nat
def tw16512292378497839422:=Nat
def tw1495879027750064258:=Nat
def tw8412609892476600153:=Nat
def tw10392588018048636718:=Nat
def tw18010840159432313200:=Nat
def tw9350912755618201970:=Nat
def tw3160834293269552159:=Nat
def tw14938955782981032162:=Nat
def tw2722756717975272834:=Nat
def tw11513161472266948918:=Nat
def tw17156727098287560225:=Nat
def tw3047520493123434507:=Nat
def tw12231825119626708776:=Nat
def tw11325456555157987968:=Nat
def tw6591180499637891853:=Nat
def tw14704852438932208978:=Nat
def tw2906689867926438184:=Nat
def tw11489857027819073304:=Nat
def tw82471944791540609:=Nat
def tw12603016052024267833:=Nat
def tw9150081425718310067:=Nat
def tw7503878339578738073:=Nat
def tw6348140068848912177:=Nat
def tw3767397517066988369:=Nat
def tw11909272212438307669:=Nat
def tw1457999705980944006:=Nat
def tw6151553171517495661:=Nat
def tw15443228873358030696:=Nat
def tw16519651577745067663:=Nat
def tw1211290606269543784:=Nat
def tw15663565212646727653:=Nat
def tw12132840415776089135:=Nat
def tw11517552005578772309:=Nat
def tw9652999629034839496:=Nat
def tw11431562603860988945:=Nat
def tw9870447034341835631:=Nat
def tw9880202845315557799:=Nat
def tw13358859402488251154:=Nat
def tw14023138126789928088:=Nat
def tw1033909706186645588:=Nat
def tw14369294726865138965:=Nat
def tw10294414385304895462:=Nat
def tw17222060757991219134:=Nat
def tw1083924000610330920:=Nat
def tw8011973755331455188:=Nat
def tw2970323671392072992:=Nat
def tw12352577611117971106:=Nat
def tw8828574322065741988:=Nat
def tw2695604998979443178:=Nat
def tw8443814952211919383:=Nat
def tw14941094964470576683:=Nat
def tw17544948236612924954:=Nat
def tw10103958137385522628:=Nat
def tw12604830819650354540:=Nat
def tw7192865762949754808:=Nat
def tw9674781898300607564:=Nat
def tw10884445896514775421:=Nat
def tw9096297965613109492:=Nat
def tw7677236255177806339:=Nat
def tw17100326751327432375:=Nat
def tw14516016209637112101:=Nat
def tw12943531307296491347:=Nat
def tw17162088865912272115:=Nat
def tw7056605789422913683:=Nat
def tw11481585469828178588:=Nat
def tw10958132723879154122:=Nat
def tw6779749217911044402:=Nat
def tw12821317541942792315:=Nat
def tw5720494320611130268:=Nat
def tw14828469482625055222:=Nat
def tw13183148661981977348:=Nat
def tw13061399191283004015:=Nat
def tw8164010296398106151:=Nat
def tw16992881130185745398:=Nat
def tw6108511188371054044:=Nat
def tw3125193166141005934:=Nat
def tw5145729655749713615:=Nat
def tw17390016643694069690:=Nat
def tw5948749277453757998:=Nat
def tw15735402773418608014:=Nat
def tw18400767691064235957:=Nat
def tw15340566159417096014:=Nat
def tw14190658672632130417:=Nat
def tw10931978603108602583:=Nat
def tw8016939720021163280:=Nat
def tw10538168915495744690:=Nat
def tw12579447383900920601:=Nat
def tw14775658176116687140:=Nat
def tw11939769209895902833:=Nat
def tw5762551843578085553:=Nat
def tw14497401810028384091:=Nat
def tw6384309720362169582:=Nat
def tw15293857091365961431:=Nat
def tw9519859449849741990:=Nat
def tw16469098739487398380:=Nat
def tw17307619815302207159:=Nat
def tw2826764627965482428:=Nat
def tw8148884942331210539:=Nat
def tw2925547381881902320:=Nat
def tw14724553569621886980:=Nat
def tw12974808639849987725:=Nat
def tw12252132343065313916:=Nat
end PySem.W.Fast
open PySem PySem.W PyProof.Rows
local macro_rules | `(tactic| walk_at "d") => `(tactic| first | exact F0.MG (by k_is) (by k_is) (by k_is) (by k_is) | (refine' F0.MG ?a ?l ?c ?k; (case a => k_is); (case l => k_is); (case c => k_is); (case k => k_is)))
local macro_rules | `(tactic| walk_at "m") => `(tactic| first | exact F0.MH (by k_is) (by k_is) (by k_is) (by k_is) (by k_is) | (refine' F0.MH ?a ?i ?l ?c ?k; (case a => k_is); (case i => k_is); (case l => k_is); (case c => k_is); (case k => k_is)))
set_option maxRecDepth 100000 in
set_option maxHeartbeats 0 in
theorem PySem.Challenge.cw_cutrestore_k43_lying_at_cuts_holds : PySem.Challenge.rw_cutrestore_k43_lying_at_cuts.Holds := by
 w_on;o_law;k_head;(case hw=>w_witness2)
 k_fill
 refine F0.walk (l:=PySem.Challenge.rw_cutrestore_k43_lying_at_cuts) rfl rfl (λw h Y=>W.kIn_of Y) ?F
 case F=>
  intro w mg fa h KX G Sa;refine' F0.all_mk KX G Sa ?oE ?Ld ?Le ?iA ?iB ?lj ?nj ?lp ?iC ?fP ?jr ?gJ ?pY ?iD ?ff ?lu ?pZ ?tj ?nk ?nr ?iE ?nu ?nv ?lx ?ly ?tm ?lA ?lB ?js ?gK ?p5 ?ny ?lC ?nz ?ju ?p6 ?p7 ?nB ?p8 ?p9 ?iF ?qa ?jv ?gn ?qb ?lD ?tq ?j3 ?HW ?iG ?lE ?j4 ?nC ?lG ?nE ?qc ?iH ?lH ?lI ?j5 ?gp ?j6 ?nH ?lJ ?jw ?nI ?gq ?jx ?jy ?iI ?gL ?gr ?jz ?nJ ?d9 ?jA ?HX ?HY ?qd ?qe ?qf ?qg ?qh ?qi ?CP ?CQ ?LK ?OD ?LL ?HZ ?Ia ?Ib ?Ic ?Ie ?Ig ?F3 ?F4 ?xQ ?xR ?zH ?Ih ?Ii ?Ij ?Ik ?Il ?Im ?F5 ?F6 ?cM ?cY ?cn ?dS ?cG ?bI ?eL ?cN ?CS ?uS ?j7 ?Io ?Am ?Ip ?wB ?An ?Iq ?wC ?Ir ?Iu ?Iw ?Iy ?Iz ?lK ?j8 ?dQ ?dI ?dJ ?fb ?dz ?fm ?dM ?dR ?aF ?lF ?neF ?lP0 ?lP1 ?lP2 ?lP3 ?lP4 ?lP5 ?lP6 ?lP7
  (case oE|Ld|Le=>k_is)
  (case iA|iB|lj|nj|lp=>walk_at "d")
  (case iC|fP|jr|gJ=>walk_at "m")
  (case pY=>walk_at "d")
  (case iD|ff|lu|pZ=>walk_at "m")
  (case tj|nk=>walk_at "d")
  (case nr|iE|nu=>walk_at "m")
  (case nv=>walk_at "d")
  (case lx=>walk_at "m")
  (case ly|tm|lA|lB|js|gK|p5|ny|lC|nz|ju|p6|p7|nB|p8|p9|iF|qa|jv|gn=>walk_at "d")
  (case qb=>walk_at "m")
  (case lD|tq|j3=>walk_at "d")
  (case HW=>walk_at "m")
  (case iG|lE|j4|nC|lG|nE|qc=>walk_at "d")
  (case iH|lH|lI=>walk_at "m")
  (case j5|gp|j6|nH|lJ|jw|nI=>walk_at "d")
  (case gq|jx|jy|iI|gL|gr|jz|nJ|d9|jA|HX=>walk_at "m")
  (case HY=>walk_at "d")
  (case qd|qe|qf|qg|qh|qi|CP|CQ|LK|OD|LL|HZ|Ia|Ib|Ic|Ie|Ig|F3|F4|xQ|xR|zH|Ih|Ii|Ij|Ik|Il|Im|F5|F6|cM|cY|cn|dS|cG|bI|eL|cN|CS|uS|j7|Io|Am|Ip|wB|An|Iq|wC|Ir|Iu|Iw|Iy|Iz|lK|j8|dQ|dI|dJ|fb|dz|fm|dM|dR|aF|lF=>k_is)
  (case neF=>first|rfl|decide)
  (case lP0|lP1|lP2|lP3|lP4|lP5|lP6|lP7=>k_is)
